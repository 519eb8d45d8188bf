import PyProof.Rows.All
import Wide.All
import OpenK.AllK
import Wide.FinOn
import Lean
import PyProof.EqAt
import PyProof.EqKinds
import PyProof.TupleCall
import PyProof.NeKinds
import PySem.Challenge.RW_helmsum_k75_whole_smallest
set_option Elab.async false
set_option linter.all false
set_option maxRecDepth 100000
set_option compiler.extract_closed false
open List renaming replicate→K0,range→W0,zipWith→XI,map→XT,length→Yt,Nodup→Yu,reverse→YI,lookup→YN
open PySem renaming wpAny_bind→T1,FuncData→T2,Shared→Xv,Paired→Xw,starEach→Xy,mainGlobals→XE,wpAny→XF,sizeLine→XG,wpAny_pure→XH,wpAny_Call_Name_kw→XY,cellsFrom→Ya,Around→Yd,compareOp→Yh,Program→Yl,wpAny_passesOwn→Yn,NameKind→Yo,World→Yq,cLine→Ys,bootBuiltins→Yv,wpAny_mono→Yw,Builtin→Yx,wpAny_holding→YA,wpAny_truthy_bool→YC,assignEach→YL,IsPair→YM,sliceBounds→YO,foldedSetIterable→YR,codeAny→YU,binaryOp→YW,wpAny_field→YX
open PySem.Heap renaming get?_push_of_some→Xx,lt_size→XB,get?_push_size→XO,get?_update_other→XW,size_push→Yr
open PySem.PassesOwn renaming never→XA
open PySem.Expr renaming Constant→XC,Name→XS,Call→YH
open PySem.Value renaming ref→XD,type→Yc,none→Yi
open PyProof.Rows renaming callWith_type1→XJ,boot_list→XQ,boot_int→X7,callWith_builtin1→Yf,boot_min→Ym,boot_isinstance→Yz,boot_abs→YB
open PySem.Const renaming int→XN
open PySem.SeqAt renaming EqAt→XR,RcNeAt→YG,RcAt→YY
open PySem.W renaming findIn→XU,mg_none_of→X4,emptyDict→X6,instObj→Yj,fnOf→Yp,nsIn→Yy,keepIn→YE,kitOne→YF
open Array renaming length_toList→XX
open PySem.Obj renaming mapSeq→XZ
open Eq renaming trans→X3
open PySem.NameKind renaming free→X8,cell→YV
open PySem.Builtin.SmallTypes renaming ownedTupleIsFree→X9,nextOf→YJ
open Int renaming gcd→Yb
open False renaming elim→Ye
open Ne renaming symm→Yg
open Option renaming none→Yk
open PySem.Builtin.List renaming listExtendWith→YD,listTooLong→YK
open PySem.Stmt renaming Assign→YQ
open PySem.SeqAt.RcAt renaming tuples→YS
open True renaming intro→YT
def fldOf(i:Lean.Syntax):Option Lean.Ident:=(i.isFieldIdx?.bind λk=>if k<3 then none else ("getD trans toArray heap.objs.size size heap length same map toArray lookup get? natAbs env none take symm isList prog mono eraseIdx IsListIter push toks toNat names heap kind list range Nodup unit units len other extBut size drop locals fresh set tuple kindOf isinstance weak IsTuple update after base den stack free back low bare params kept".splitOn " ")[k-3]?).map λf=>Lean.mkIdent f.toName
local macro_rules | `($x.$i:fieldIdx) => match fldOf i with|some f=>`(($x).$f:ident)|_=>Lean.Macro.throwUnsupported
local macro_rules | `($x.$i:fieldIdx $a*) => match fldOf i with|some f=>`(($x).$f:ident $a*)|_=>Lean.Macro.throwUnsupported
local macro_rules | `(#[$a,*]) => `(⟨$a,*⟩)
local macro_rules | `(tactic| obtain $p:rcasesPatMed := $e:term) => do
 let a := p.raw[0].getSepArgs
 let q : Lean.TSyntax `rcasesPat ← if a.size == 1 then pure ⟨a[0]!⟩ else do
  let l ← a.mapM fun x => `(Lean.Parser.Tactic.rcasesPatLo| $(⟨x⟩):rcasesPat)
  `(rcasesPat| ⟨$l,*⟩)
 `(tactic| first | (refine Classical.byContradiction fun ng => ?_; (rcases $e:term with $q:rcasesPat) <;> (refine ng ?_; clear ng)) | rcases $e:term with $q:rcasesPat)
local macro_rules | `(()) => `(by first | decide | lia)
local macro_rules | `(tactic| show $e) => `(tactic| exact $e)
abbrev aa:=@List.getD_eq_getElem?_getD
abbrev ae:=@List.getElem?_eq_getElem
abbrev af:=@List.length_map
abbrev ai:=@Nat.le_trans
abbrev aj:=@Nat.le_refl
abbrev ak:=@Nat.pow_le_pow_right
abbrev ao:=@List.mem_map
abbrev au:=@Nat.mul_le_mul_right
abbrev av:=@List.mem_of_getElem?
abbrev ax:=@List.length_append
abbrev az:=@List.getElem?_map
abbrev aA:=@List.mem_append
abbrev aB:=@List.getElem_mem
abbrev aE:=@Nat.mul_le_mul
abbrev aF:=@List.getElem?_eq_none
abbrev aH:=@List.getElem_of_mem
abbrev aI:=@List.getElem?_eq_some_iff
abbrev aJ:=@List.take_of_length_le
abbrev aM:=@List.mem_cons
abbrev aP:=@Nat.mul_le_mul_left
abbrev aQ:=@List.size_toArray
abbrev aS:=@List.length_take
abbrev aT:=@PySem.boot_len
abbrev aV:=@Nat.pow_add
abbrev aX:=@List.mem_append_right
abbrev a9:=@Rat.intCast_mul
abbrev be:=@Nat.lt_or_ge
abbrev bf:=@List.not_mem_nil
abbrev bg:=@List.length_range
abbrev bo:=@List.map_append
abbrev br:=@Rat.mul_zero
abbrev bu:=@Rat.intCast_natCast
abbrev bx:=@Nat.mul_pos
abbrev bA:=@Bool.false_ne_true
abbrev bB:=@List.length_replicate
abbrev bC:=@Rat.mul_comm
abbrev bD:=@Nat.zero_le
abbrev bG:=@Nat.lt_of_le_of_lt
abbrev bI:=@List.length_cons
abbrev bL:=@List.mem_of_mem_take
abbrev bN:=@List.length_singleton
abbrev bO:=@Nat.one_le_two_pow
abbrev bQ:=@Nat.lt_of_lt_of_le
abbrev bV:=@List.map_congr_left
abbrev bW:=@List.getElem?_range
abbrev bX:=@List.mem_singleton
abbrev b7:=@List.map_map
abbrev b8:=@List.getElem?_append_right
abbrev cb:=@Nat.mul_assoc
abbrev cm:=@Option.some.inj
abbrev cw:=@List.getElem?_append_left
abbrev cx:=@List.mem_cons_of_mem
abbrev cB:=@Nat.mul_comm
abbrev cC:=@List.append_assoc
abbrev cI:=@Int.fdiv_eq_ediv_of_nonneg
abbrev cL:=@List.getElem?_zipWith
abbrev cM:=@List.mem_or_eq_of_mem_set
abbrev cQ:=@List.length_zipWith
abbrev cT:=@List.mem_append_left
abbrev cU:=@List.ext_getElem
abbrev cY:=@Int.eq_ofNat_of_zero_le
abbrev c4:=@List.nil_append
abbrev c5:=@Nat.ne_of_lt
abbrev c6:=@Nat.le_of_lt
abbrev c8:=@Rat.zero_mul
abbrev de:=@PySem.F.plainAttrs_list
abbrev df:=@Nat.lt_succ_self
abbrev dk:=@Int.natAbs_natCast
abbrev dt:=@Rat.intCast_neg
abbrev dA:=@PySem.F.type_list_append
abbrev dB:=@PySem.F.slot_list_append
abbrev dC:=@Nat.dvd_mul_left
abbrev dH:=@Nat.le_mul_of_pos_right
abbrev dI:=@List.getElem?_replicate
abbrev dJ:=@List.mem_cons_self
abbrev dP:=@PySem.W.kia_one
abbrev dQ:=@Nat.lt_irrefl
abbrev dR:=@Nat.succ_le_succ
abbrev dX:=@List.nodup_append
abbrev dZ:=@Int.mul_assoc
abbrev d5:=@Rat.intCast_inj
abbrev d6:=@Nat.add_comm
abbrev ee:=@List.map_id
abbrev eh:=@Bool.and_eq_true
abbrev eQ:=@Nat.lt_trichotomy
abbrev eS:=@Nat.le_mul_of_pos_left
abbrev fb:=@Rat.mul_one
abbrev fe:=@Nat.not_lt_zero
abbrev fg:=@List.nodup_cons
abbrev fh:=@List.length_set
abbrev fz:=@List.drop_eq_getElem_cons
abbrev fB:=@Int.natAbs_dvd_natAbs
abbrev fE:=@List.cons_append
abbrev fF:=@Int.gcd_dvd_left
abbrev fK:=@List.getElem?_take_of_lt
abbrev fL:=@Rat.one_mul
abbrev fM:=@Nat.pow_lt_pow_right
abbrev fO:=@Int.natAbs_mul
abbrev fZ:=@Int.gcd_dvd_right
abbrev gK:=@Int.mul_comm
abbrev gU:=@Nat.mul_add
abbrev gW:=@Nat.le_add_right
abbrev gX:=@List.mem_flatten
abbrev gY:=@List.getElem_map
abbrev iN:=@Nat.succ_mul
abbrev iO:=@Nat.pow_succ
abbrev iQ:=@List.flatten_cons
abbrev iV:=@Nat.le_of_dvd
abbrev iW:=@List.map_cons
abbrev jC:=@Nat.pow_le_pow_left
abbrev jF:=@Nat.exists_eq_add_of_le
abbrev jS:=@Nat.pow_pos
abbrev jT:=@List.take_append_of_le_length
abbrev jU:=@Int.mul_pos
abbrev jW:=@Rat.add_zero
abbrev jX:=@List.drop_of_length_le
abbrev jY:=@Int.emod_lt_of_pos
abbrev jZ:=@Bool.false_eq_true
abbrev kx:=@Nat.le_antisymm
abbrev ky:=@List.range_succ
abbrev lE:=@List.ext_getElem?
abbrev lG:=@Nat.le_succ
abbrev lH:=@List.getElem_zipWith
abbrev lI:=@Int.natAbs_neg
abbrev mO:=@PySem.IsL.update
abbrev mP:=@List.lookup_cons
abbrev mQ:=@Int.gcd_comm
abbrev mW:=@PySem.F.plain_extend_loop
abbrev mX:=@PySem.mem_of_lookup
abbrev mY:=@List.replicate_succ
abbrev oi:=@List.mem_filter
abbrev oj:=@List.append_nil
abbrev oo:=@Int.emod_nonneg
abbrev oq:=@Bool.eq_iff_iff
abbrev ow:=@Nat.eq_zero_or_pos
abbrev oU:=@Int.natCast_dvd_natCast
abbrev oV:=@Int.dvd_mul_of_dvd_left
abbrev pK:=@Nat.sub_self
abbrev pL:=@Nat.dvd_mul_right
abbrev pM:=@List.nodup_nil
abbrev pN:=@List.mem_range
abbrev qL:=@PySem.F.slot_zip_next
abbrev qM:=@List.all_eq_true
abbrev sR:=@Nat.pow_mul
abbrev sS:=@List.drop_append_of_le_length
abbrev uE:=@List.length_reverse
abbrev uF:=@List.flatten_append
abbrev uP:=@Int.zero_add
abbrev vn:=@Nat.add_sub_cancel
abbrev vo:=@Int.eq_of_mul_eq_mul_right
abbrev vZ:=@Int.mul_neg_of_pos_of_neg
abbrev xF:=@Nat.one_mul
abbrev xG:=@List.getElem_take
abbrev xK:=@Nat.dvd_trans
abbrev zm:=@Rat.intCast_eq_zero_iff
abbrev zo:=@List.length_drop
abbrev Aa:=@PySem.W.cellsFrom_some
abbrev Bu:=@Rat.natCast_mul
abbrev Bv:=@Rat.intCast_sub
abbrev Bw:=@Rat.intCast_add
abbrev By:=@List.length_zip
abbrev BC:=@Bool.beq_eq_decide_eq
abbrev Dn:=@Nat.add_mul
abbrev Dp:=@Nat.add_le_add_right
abbrev Dq:=@List.replicate_succ'
abbrev Ds:=@List.mem_of_mem_drop
abbrev Dt:=@List.forIn_nil
abbrev FA:=@PySem.W.plainGet_of
abbrev FC:=@List.filter_sublist
abbrev FD:=@List.filterMap_cons
abbrev Iz:=@Int.natAbs_eq
abbrev ID:=@Rat.div_mul_cancel
abbrev IE:=@List.getElem_range
abbrev IF:=@List.append_of_mem
abbrev IG:=@Yu.sublist
abbrev LA:=@Rat.zero_add
abbrev LB:=@Nat.zero_add
abbrev LC:=@Nat.ne_of_gt
abbrev LD:=@Nat.mul_zero
abbrev LG:=@Nat.le_of_eq
abbrev LI:=@List.map_nil
abbrev LJ:=@List.getElem_drop
abbrev LL:=@Int.dvd_refl
abbrev Nc:=@Nat.min_le_right
abbrev Nd:=@List.nodup_range
abbrev PL:=@Nat.mul_one
abbrev PM:=@Int.dvd_gcd
abbrev PX:=@Rat.mul_eq_zero
abbrev PY:=@Nat.two_pow_pos
abbrev PZ:=@List.of_mem_zip
abbrev P0:=@List.forIn_cons
abbrev P7:=@Int.gcd_pos_of_ne_zero_right
abbrev Tw:=@List.length_eraseIdx_of_lt
abbrev Vh:=@PySem.F.entry_extend_loop
abbrev Vi:=@List.pairwise_iff_getElem
abbrev Vj:=@List.getElem?_zip_eq_some
abbrev Vk:=@Int.natAbs_ediv_of_nonneg
abbrev Vp:=@Option.isSome_iff_exists
abbrev Vq:=@List.mem_of_mem_eraseIdx
abbrev Vr:=@List.all_cons
abbrev WG:=@PySem.F.args_zip_next_1
abbrev WH:=@List.length_eq_zero_iff
abbrev WI:=@List.filter_cons_of_pos
abbrev WJ:=@List.filter_cons_of_neg
abbrev Y3:=List (List Rat)
abbrev Y2:=PySem.W.Frag
namespace L2
open PySem PySem.Spec PyProof.Rows
abbrev Key:=Sum Int Str
def S8:Key->Value->Bool
 | .inl k,v=>Value.isInt k v
 | .inr x,v=>Value.isStrOf x v
def W4 (w:Yq):Key->Int
 | .inl k=>hashInt k
 | .inr x=>hashStr w x
theorem fX:∀{k:Key} {v:Value},S8 k v=true->(∃i t,k=Sum.inl i/\v=Value.int i t)\/(∃x t,k=Sum.inr x/\v=Value.str x t)
 | .inl i,v,h=>by
  obtain t|e:=Value.isInt_shape (k:=i) (v:=v) h;show .inl #[i,t,rfl,e]
 | .inr x,v,h=>by
  obtain t|e:=Value.isStrOf_shape (x:=x) (v:=v) h;show .inr #[x,t,rfl,e]
theorem UO (a b:Int):decide ((Sum.inl a:Key)=Sum.inl b)=(a == b):=by
 by_cases e:a=b
 ·subst e;simp
 ·have h:¬(Sum.inl a:Key)=Sum.inl b:=λq=>e (Sum.inl.inj q)
  rw[decide_eq_false h];show (beq_eq_false_iff_ne.mpr e).19
theorem UL (a b:Str):decide ((Sum.inr a:Key)=Sum.inr b)=decide (a=b):=by
 by_cases e:a=b
 ·subst e;simp
 ·have h:¬(Sum.inr a:Key)=Sum.inr b:=λq=>e (Sum.inr.inj q)
  rw[decide_eq_false h,decide_eq_false e]
theorem UN (a:Int) (b:Str):decide ((Sum.inl a:Key)=Sum.inr b)=false:=decide_eq_false (λq=>nomatch q)
theorem UM (a:Str) (b:Int):decide ((Sum.inr a:Key)=Sum.inl b)=false:=decide_eq_false (λq=>nomatch q)
def La (prog:Yl) (w:Yq):PySem.KeyKind prog w Key where
 is:=S8
 hash:=W4 w
 inj:=λv a b ha hb=>by
  rcases fX ha with ⟨i,t,rfl,rfl⟩ | ⟨x,t,rfl,rfl⟩
  ·rcases fX hb with ⟨j,u,rfl,e⟩ | ⟨y,u,rfl,e⟩
   ·injection e with e1 _;rw[e1]
   ·show nomatch e
  ·rcases fX hb with ⟨j,u,rfl,e⟩ | ⟨y,u,rfl,e⟩
   ·show nomatch e
   ·injection e with e1 _;rw[e1]
 byValue:=λk v h=>by
  rcases fX h with ⟨i,t,rfl,rfl⟩ | ⟨x,t,rfl,rfl⟩ <;> rfl
 pyHash:=λhv h=>by
  rcases fX hv with ⟨i,t,rfl,rfl⟩ | ⟨x,t,rfl,rfl⟩
  ·show wpAny_pyHash_int h
  ·show wpAny_pyHash_str h
 eqBool:=λhu hv h=>by
  rcases fX hu with ⟨i,t,rfl,rfl⟩ | ⟨x,t,rfl,rfl⟩
  ·rcases fX hv with ⟨j,u,rfl,rfl⟩ | ⟨y,u,rfl,rfl⟩
   ·rw[UO] at h;show wpAny_eqBool_int h
   ·rw[UN] at h;show XR.int_str i t y u _ _ _ _ h
  ·rcases fX hv with ⟨j,u,rfl,rfl⟩ | ⟨y,u,rfl,rfl⟩
   ·rw[UM] at h;show XR.str_int x t j u _ _ _ _ h
   ·rw[UL] at h;show wpAny_eqBool_str h
 «strs»:=λk x t v h=>by
  rcases fX h with ⟨i,u,rfl,e⟩ | ⟨y,u,rfl,e⟩
  ·show nomatch e
  ·injection e with e1 _
   subst e1;cases v <;> rfl
inductive V where
  | Ze | bl (b : Bool) | int (i : Int) | str (x : Str) | i! (b : Array UInt8) | flt (b : UInt64) | ref (a : Addr) | ty (n : String)
  deriving DecidableEq

def RelV:V->Value->Prop
 | .Ze,u=>u=Yi
 | .bl b,u=>u=Value.bool b
 | .int i,u=>∃t,u=Value.int i t
 | .str x,u=>∃t,u=Value.str x t
 | .i! b,u=>∃t,u=Value.bytes b t
 | .flt b,u=>∃t,u=Value.float b t
 | .ref a,u=>u=XD a
 | .ty n,u=>u=Yc n
abbrev cZ:List V->List Value->Prop:=Xw RelV
theorem cZ.length (r:cZ xs us):xs.9=us.9:=Xw.length r
theorem cZ.get:∀{xs:List V} {us:List Value} {i:Nat} {x:V},cZ xs us->xs[i]?=some x->∃u,us[i]?=some u/\RelV x u
 | _,_,_,_,.nil,e=>by simp at e
 | _,_,0,_,.cons r _,e=>by simp at e;subst e;show #[_,rfl,r]
 | _,_,i+1,x,.cons _ t,e=>by
  obtain u|h1|h2:=cZ.get (i:=i) (x:=x) t (by simpa using e);show #[u,by simpa using h1,h2]
theorem cZ.set {x:V} {u:Value} (r:RelV x u):∀{xs:List V} {us:List Value} (i:Nat),cZ xs us->cZ (xs.43 i x) (us.43 i u)
 | _,_,_,.nil=>.nil
 | _,_,0,.cons _ t=>.cons r t
 | _,_,i+1,.cons q t=>.cons q (cZ.set r i t)
theorem cZ.append:∀{xs ys:List V} {us ws:List Value},cZ xs us->cZ ys ws->cZ (xs++ys) (us++ws)
 | _,_,_,_,.nil,s=>s
 | _,_,_,_,.cons r t,s=>.cons r (cZ.append t s)
theorem cZ.take:∀{xs:List V} {us:List Value} (n:Nat),cZ xs us->cZ (xs.18 n) (us.18 n)
 | _,_,0,_=>.nil
 | _,_,_+1,.nil=>.nil
 | _,_,n+1,.cons r t=>.cons r (cZ.take n t)
theorem cZ.drop:∀{xs:List V} {us:List Value} (n:Nat),cZ xs us->cZ (xs.40 n) (us.40 n)
 | _,_,0,r=>r
 | _,_,_+1,.nil=>.nil
 | _,_,n+1,.cons _ t=>cZ.drop n t
def Cs:Option V->Option Value->Prop
 | some v,some u=>RelV v u
 | none,none=>True
 | _,_=>False
def KV {κ:Type}:List (κ×V)->List (κ×Value)->Prop:=Xw λ(p:κ×V) (q:κ×Value)=>p.1=q.1/\RelV p.2 q.2
def kV:Key->V
 | .inl i=>.int i
 | .inr x=>.str x
inductive HO where
 | lst (xs:List V)
 | tup (xs:List V)
 | dK (ZP:List (Key×V)) | dT (ZP:List (List Key×V))
 | set (S:Int->Bool) (n:Nat)
 | ins (C dx:Addr) (fs:List (Str×V))
 | own (x:Addr)
 | xd (fs:List (Str×V))
 | met (f x:Addr)
 | ZT (lo hi:Int)
 | _T (o:Obj) (u:HO)
 | tbl (ps:Array Value)
 | ext (φ:Heap->Prop)
abbrev Hp:=Addr->Option HO
def upd (H:Hp) (a:Addr) (o:HO):Hp:=λb=>if b=a then some o else H b
theorem aN:upd H a o a=some o:=by unfold upd;rw[if_pos rfl]
theorem bK (h:b≠a):upd H a o b=H b:=by unfold upd;rw[if_neg h]
theorem gC {H:Hp} (h:H a=some o) (h':H b=none):a≠b:=by
 intro e;subst e;rw[h] at h';cases h'
section
variable (P:Yl) (w:Yq)
def kv (H:Hp) (h:Heap) (a:Addr):HO->Prop
 | .lst xs=>xs.9<=XG/\∃(Y5:List Value) (n:Nat),cZ xs Y5/\h.14 a=some { cls:=.type "list",data:=.seq Y5.12 n }
 | .tup xs=>xs.9<=XG/\∃Y5:List Value,cZ xs Y5/\IsTup h a Y5.5
 | .dK ZP=>ZP.9<=XG/\(a == sysModules)=false/\∃vs,KV ZP vs/\h.DictOf (La P w) a vs
 | .dT ZP=>ZP.9<=XG/\(a == sysModules)=false/\∃xs:List (List Key×Addr×Value),
   Xw (λ(p:List Key×V) (q:List Key×Addr×Value)=>p.1=q.1/\H q.2.1=some (.tup (p.1.11 kV))/\RelV p.2 q.2.2) ZP xs /\
   ∃o es ep,h.14 a=some o/\o.ExactDict/\o.data=.dict es ep/\es.toList=xs.11 (entryOfKey (tupleKind (La P w)))/\(xs.11 (·.1)).33
 | .set S n=>h.SetOf (intKind P w) a S n
 | .ins C dx fs=>H dx=some (.own a)/\fs.9<=1000/\dx≠a/\h.14 a=some (Yj C dx) /\
   ∃mA,h.Ns1 dx mA/\(∀f,Cs (fs.13 f) (mA f))/\PySem.Within mA (fs.11 (·.1))
 | .own _=>∃o,h.14 a=some o
 | .xd fs=>∃mA,h.Ns1 a mA/\∀f,Cs (fs.13 f) (mA f)
 | .ZT lo hi=>∃t u v,h.14 a=some { cls:=.type "range",data:=.fields [.int lo t,.int hi u,.int 1 v].12 }
 | ._T o u=>h.14 a=some o/\kv H h a u
 | .tbl ps=>h.14 a=some { cls:=.none,data:=.fields ps }
 | .met f x=>h.14 a=some (PySem.W.methodObj (.ref f) (.ref x))
 | .ext φ=>φ h/\(∃o,h.14 a=some o)/\∀h1 h2:Heap,φ h1->(∀o,h1.14 a=some o->h2.14 a=some o)->φ h2
def z9 (H:Hp) (h:Heap):Prop:=∀a o,H a=some o->kv P w H h a o
end
section
variable {P:Yl} {w:Yq} {H H':Hp} {h h':Heap} {a:Addr} {o:HO}
theorem kv.lt (x:kv P w H h a o):a < h.objs.7:=by
 cases o with
 | lst xs=>obtain _|_|_|_|e:=x;show XB e
 | tup xs=>obtain _|_|_|p:=x;show p.lt
 | dK ZP=>obtain _|_|_|_|o|_|_|e|_:=x;show XB e
 | dT ZP=>obtain _|_|_|_|o|_|_|e|_:=x;show XB e
 | set S n=>obtain o|_|_|_|e|_:=x;show XB e
 | ins C dx fs=>obtain _|_|_|e|_:=x;show XB e
 | own y=>obtain _|e:=x;show XB e
 | xd fs=>obtain _|⟨_,_,_,e,_⟩|_:=x;show XB e
 | ZT lo hi=>obtain _|_|_|e:=x;show XB e
 | _T ob u=>obtain e|_:=x;show XB e
 | tbl ps=>show XB (show h.14 a=some _ from x)
 | met f y=>show XB (show h.14 a=some _ from x)
 | ext φ=>obtain _|⟨_,e⟩|_:=x;show XB e
theorem Xw.aaQ {α β:Type} {F G:α->β->Prop}:∀{l₁:List α} {l₂:List β},Xw F l₁ l₂->(∀a b,F a b->G a b)->Xw G l₁ l₂
 | _,_,.nil,_=>.nil
 | _,_,.cons r t,f=>.cons (f _ _ r) (Xw.aaQ t f)
theorem Xw.imp' {F G:α->β->Prop} (f:∀a b,F a b->G a b) {l₁:List α} {l₂:List β} (r:Xw F l₁ l₂):Xw G l₁ l₂:=Xw.aaQ r f
abbrev bv:=@Xw.imp'
theorem kv.Z8 (x:kv P w H h a o) (k:∀b u,(b=a\/H b=some (.own a))->h.14 b=some u->h'.14 b=some u)
  (ho:∀b,H b=some (.own a)->H' b=some (.own a)) (ht:∀b xs,H b=some (.tup xs)->H' b=some (.tup xs)):kv P w H' h' a o:=by
 induction o with
 | lst xs=>obtain z|Y5|n|r|e:=x;show #[z,Y5,n,r,k _ _ (.inl rfl) e]
 | tup xs=>obtain z|Y5|r|ob|e|c:=x;show #[z,Y5,r,ob,k _ _ (.inl rfl) e,c]
 | dK ZP=>obtain z|y|vs|r|ob|es|ep|e|c:=x;show #[z,y,vs,r,ob,es,ep,k _ _ (.inl rfl) e,c]
 | dT ZP =>
  obtain z|y|xs|r|ob|es|ep|e|c:=x;show #[z,y,xs,Xw.aaQ r λp q z=>#[z.1,ht _ _ z.2.1,z.2.2],ob,es,ep,k _ _ (.inl rfl) e,c]
 | set S n=>obtain ob|es|ep|t|e|c:=x;show #[ob,es,ep,t,k _ _ (.inl rfl) e,c]
 | ins C dx fs =>
  obtain d|z|ne|e|mA|⟨od,es,ep,e2,c⟩|r:=x;show #[ho _ d,z,ne,k _ _ (.inl rfl) e,mA,#[od,es,ep,k _ _ (.inr d) e2,c],r]
 | own y=>obtain ob|e:=x;show #[ob,k _ _ (.inl rfl) e]
 | xd fs=>obtain mA|⟨od,es,ep,e,c⟩|r:=x;show #[mA,#[od,es,ep,k _ _ (.inl rfl) e,c],r]
 | ZT lo hi=>obtain t|u|v|e:=x;show #[t,u,v,k _ _ (.inl rfl) e]
 | _T ob u ih=>obtain e|q:=x;show #[k _ _ (.inl rfl) e,ih q]
 | tbl ps =>
  have e:h.14 a=some { cls:=.none,data:=.fields ps }:=x;change h'.14 a=some { cls:=.none,data:=.fields ps }
  show k a _ (.inl rfl) e
 | met f y =>
  have e:h.14 a=some (PySem.W.methodObj (.ref f) (.ref y)):=x;change h'.14 a=some (PySem.W.methodObj (.ref f) (.ref y))
  show k a _ (.inl rfl) e
 | ext φ=>obtain p|⟨o,e⟩|st:=x;show #[st _ _ p λo q=>k _ _ (.inl rfl) q,#[o,k _ _ (.inl rfl) e],st]
theorem z9.lt (x:z9 P w H h) (e:H a=some o):a < h.objs.7:=(x a o e).lt
theorem z9.fresh (x:z9 P w H h) (e:h.objs.7<=a):H a=none:=by
 cases q:H a with
 | none=>rfl
 | some u=>show absurd (bQ (x.lt q) e) (dQ _)
theorem z9.kept (x:z9 P w H h) (k:∀b u,h.14 b=some u->h'.14 b=some u):z9 P w H h':=λa o e =>
 (x a o e).Z8 (λb u _ q=>k b u q) (λ_ q=>q) λ_ _ q=>q
theorem z9.laid (x:z9 P w H h) (k:∀b u,h.14 b=some u->h'.14 b=some u) (hp:h.objs.7<=a) (new:kv P w (upd H a o) h' a o):z9 P w (upd H a o) h':=λb u e=>by
 have hn:=x.42 hp;by_cases hb:b=a
 ·subst hb;rw[aN] at e;cases e;show new
 ·rw[bK hb] at e;show (x b u e).Z8 (λc v _ q=>k c v q) (λc q=>by rw[bK (gC q hn)];show q) λc xs q=>by rw[bK (gC q hn)];show q
end
def Rd (H:Hp) (a:Addr) (u:HO):Prop:=H a=some u\/∃o,H a=some (._T o u)
theorem Rd.ok (r:Rd H a u) (x:z9 P w H h):kv P w H h a u:=by
 rcases r with r | ⟨o,r⟩
 ·show x a u r
 ·obtain _|q:=x a _ r;show q
def WQ:Option HO->Prop
 | some (.lst _)=>True
 | some (.dK _)=>True
 | some (.dT _)=>True
 | some (.set _ _)=>True
 | some (.ins _ _ _)=>True
 | some (.ext _)=>True
 | _=>False
theorem z9.write (ok:z9 P w H h) (mu:WQ (H x)) (he:e=x\/H e=some (.own x)) (k:∀b u,b≠e->h.14 b=some u->h'.14 b=some u) (heo:∃u,h'.14 e=some u)
  (new:kv P w (upd H x o') h' x o'):z9 P w (upd H x o') h':=λb u q=>by
 have aco:∀c y,H c=some (.own y)->c≠x:=λc y r z=>by subst z;rw[r] at mu;show mu
 have afi:∀c xs,H c=some (.tup xs)->c≠x:=λc xs r z=>by subst z;rw[r] at mu;show mu
 by_cases hb:b=x
 ·subst hb;rw[aN] at q;cases q;show new
 ·rw[bK hb] at q;by_cases hbe:b=e
  ·have q':H b=some (.own x):=by
    rcases he with z | z
    ·show absurd (hbe.4 z) hb
    ·rw[hbe];show z
   rw[q] at q';cases q';obtain v|hv:=heo;show #[v,by rw[hbe];show hv]
  ·refine (ok b u q).Z8 (λc v hc r=>k c v ?_ r) (λc r=>by rw[bK (aco c b r)];show r) λc xs r=>by rw[bK (afi c xs r)];show r
   rcases hc with rfl | hc
   ·show hbe
   ·rintro rfl;rcases he with z | z
    ·show aco c b hc z
    ·rw[hc] at z;cases z;show hb rfl
structure Un (fs ex:List Addr) (H H':Hp) (h h':Heap):Prop where
 keep:∀b o,h.14 b=some o->H b=none->b∉fs->b∉ex->h'.14 b=some o
 slot:∀b o,h.14 b=some o->H b=none->b∈fs->b∉ex->∃sl,h'.14 b=some { o with slots:=sl }
 free:∀b o,h.14 b=some o->H b=none->b∉ex->H' b=none
 there:∀b o,h.14 b=some o->b∉ex->∃o',h'.14 b=some o'
 _i:∀b xs,H b=some (.tup xs)->H' b=some (.tup xs)
 _c:∀b o u,H b=some (._T o u)->H' b=some (._T o u)
 _j:∀b ps,H b=some (.tbl ps)->∃more,H' b=some (.tbl (ps++more))
section
variable {fs fs' ex ex':List Addr} {H H1 H2:Hp} {h h1 h2 h':Heap} {a x e:Addr} {o:HO}
theorem Un.any (u:Un fs ex H H1 h h1) (q:h.14 b=some ob) (n:H b=none) (hx:b∉ex):∃sl,h1.14 b=some { ob with slots:=sl }:=by
 by_cases hb:b∈fs
 ·show u.slot b ob q n hb hx
 ·show #[ob.slots,u.keep b ob q n hb hx]
theorem Un.kept (k:∀b u,h.14 b=some u->h'.14 b=some u):Un fs ex H H h h' :=
 #[λb ob q _ _ _=>k b ob q,λb ob q _ _ _=>#[ob.slots,k b ob q],λ_ _ _ n _=>n,λb ob q _=>#[ob,k b ob q],λ_ _ q=>q,λ_ _ _ q=>q,λ_ ps q=>#[[].12,by rw[q];simp]]
theorem Un.refl:Un fs ex H H h h:=Un.kept λ_ _ q=>q
theorem Un.laid (k:∀b u,h.14 b=some u->h'.14 b=some u) (hp:h.objs.7<=a) (hn:H a=none):Un fs ex H (upd H a o) h h' where
 keep:=λb u q _ _ _=>k b u q
 slot:=λb u q _ _ _=>#[u.slots,k b u q]
 free:=λb u q n _=>by rw[bK (c5 (bQ (XB q) hp))];show n
 there:=λb u q _=>#[u,k b u q]
 _i:=λb xs q=>by rw[bK (gC q hn)];show q
 _c:=λb u xs q=>by rw[bK (gC q hn)];show q
 _j:=λb ps q=>#[[].12,by rw[bK (gC q hn),q];simp]
theorem Un.write (mu:WQ (H x)) (he:e=x\/H e=some (.own x)) (k:∀b u,b≠e->h.14 b=some u->h'.14 b=some u) (heo:∃u,h'.14 e=some u):Un fs ex H (upd H x o) h h':=by
 have hx:∀b,H b=none->b≠x:=λb n z=>by subst z;rw[n] at mu;show mu
 have hb:∀b,H b=none->b≠e:=λb n z=>by
  subst z;rcases he with r | r
  ·show hx b n r
  ·rw[n] at r;cases r
 have hm:∀b u,H b=some u->¬WQ (some u)->b≠x:=λb u q nm z=>by subst z;rw[q] at mu;show nm mu
 refine #[λb u q n _ _=>k b u (hb b n) q,λb u q n _ _=>#[u.slots,k b u (hb b n) q],λb u q n _=>by rw[bK (hx b n)];show n,λb u q _=>?_,
  λb xs q=>by rw[bK (hm b _ q λz=>z)];show q,λb u xs q=>by rw[bK (hm b _ q λz=>z)];show q,λb ps q=>#[[].12,by rw[bK (hm b _ q λz=>z),q];simp]]
 by_cases hbe:b=e
 ·subst hbe;show heo
 ·show #[u,k b u hbe q]
end
def WL (h:Heap) (H:Hp):List Addr:=(W0 h.objs.7).filter λa=>(H a).isSome
def Ex (h:Heap) (H:Hp):Heap:=PySem.W.hideAll h (WL h H)
theorem Mm (h:Heap) (H:Hp):(Ex h H).objs.size=h.objs.7:=PySem.W.hideAll_size _ _
theorem OX (e:h.14 b=some o) (n:H b=none):(Ex h H).14 b=some o :=
 PySem.W.hideAll_get _ e λhm=>by
  have q:(H b).isSome=true:=(oi.mp hm).2;rw[n] at q;simp at q
theorem Ri (e:(Ex h H).14 b=some o):h.14 b=some o/\H b=none:=by
 have e':h.14 b=some o:=PySem.W.of_hideAll (WL h H) e;refine #[e',?_];cases q:H b with
 | none=>rfl
 | some x =>
  have hm:b∈WL h H:=oi.mpr #[pN.mpr (XB e'),by simp [q]];have z:(Ex h H).14 b=none:=PySem.W.hideAll_none (WL h H) hm;rw[z] at e;cases e
structure Mod (K:Y2) (mg:Str->Option Value) (base:Heap):Prop where
 kin:K.In base
 glob:base.Ns XE mg
 blt:∃mb,base.Ns builtinsNs mb/\∀x:Str,x≠"__name__"->mb x=Yv x
 nolimit:base.NoLimit
 seer:base.NoSeer
structure Cx where
 prog:Yl
 w:Yq
 K:Y2
 mg:Str->Option Value
 base:Heap
 A:Yd
 N:List Str
 s₀:Xv
 H₀:Hp
 env:Env
 outer:List Env
 stack:List Env
 ex:List Addr
 fn:Str->Bool
 calm:Bool
 pn:List (Addr×Obj)
 xe:Value->Xv->Prop
def M5 (l:List Env):List Addr:=l.filterMap (·.frame)
abbrev Cx.fs (X:Cx):List Addr:=M5 X.outer
def Xc (sc:Scope) (x:Str):Prop:=sc.names.13 x=some .local\/sc.names.13 x=some .cell\/sc.names.13 x=some .free
def Loc (sc:Scope) (x:Str):Prop:=sc.names.13 x=some .local\/sc.names.13 x=some .cell
def Look (env:Env) (h:Heap) (m:Str->Option Value) (x:Str) (u:Value):Prop :=
 (env.45 x=some .local/\m x=some u)\/((env.45 x=some .cell\/env.45 x=some .free)/\∃c,env.cells.13 x=some c/\h.IsCell c (some u))
structure Cx.Ok (X:Cx):Prop where
 mod:Mod X.K X.mg X.51
 kind:X.env.scope.30=.function
 glob:X.env.globals=XE
 blt:X.env.builtins=builtinsNs
 above:X.s₀.6<=X.env.41
 inj:∀x y c,X.env.cells.13 x=some c->X.env.cells.13 y=some c->x=y
 has:∀x,(X.env.45 x=some .cell\/X.env.45 x=some .free)->∃c,X.env.cells.13 x=some c
 cab:∀x c,X.fn x=true->X.env.cells.13 x=some c->X.s₀.6<=c
 hd:X.calm=true->X.A.handled=none
 frames:X.A.frames=some X.53
 stk:X.53=X.outer\/(X.53=X.16 :: X.outer/\X.env.frame=some X.env.41)
 exf:∀b∈X.ex,b≠X.env.41/\∀x c,X.env.cells.13 x=some c->c≠b
 bs:∀b o,X.base.14 b=some o->X.s₀.heap.14 b=some o/\X.H₀ b=none
 bsz:X.base.objs.7<=X.s₀.heap.objs.39
 q!:∀b o,X.base.14 b=some o->b∉X.ex
 B!:∀b∈X.ex,b∉X.fs
 ZR:X.s₀.heap.FunFrames X.51 X.outer
 frf:∀b∈X.fs,X.H₀ b=none
structure Inv (X:Cx) (YZ:List (Addr×Obj)) (σ:List (Option V)) (H:Hp) (s:Xv):Prop where
 ok:X.Ok
 os:s.os=X.s₀.os
 bare:AllBare s.gens
 base:Un X.fs X.ex X.H₀ H X.s₀.29 s.29
 loc:∃m,s.heap.Ns X.env.41 m/\∀(i:Nat) (x:Str) (v:V),X.N[i]?=some x->σ[i]?=some (some v)->Xc X.env.scope x->∃u,RelV v u/\Look X.16 s.29 m x u
 cell:∀x c,X.env.cells.13 x=some c->∃v,s.heap.IsCell c v
 free:H X.env.41=none
 Zp:∀x c,X.env.cells.13 x=some c->H c=none
 pin:∀p∈X.pn++YZ,s.heap.14 p.1=some p.2/\H p.1=none/\p.1≠X.env.41/\p.1∉X.fs/\∀v,p.2.data≠.cell v
 Zb:z9 X.21 X.w H s.29
 len:σ.9=X.N.9
section
variable {X:Cx} {YZ:List (Addr×Obj)} {σ:List (Option V)} {H H':Hp} {s:Xv} {h':Heap}
theorem Cx.Ok.afo (ok:X.Ok) (e:X.base.14 b=some o):b∉X.fs:=λhb=>by
 have:=(ok.ZR.mem hb).1;rw[e] at this;cases this
theorem Inv.bs (I:Inv X YZ σ H s):∀b o,X.base.14 b=some o->s.heap.14 b=some o/\H b=none:=λb o e =>
 #[I.base.keep b o (I.ok.bs b o e).1 (I.ok.bs b o e).2 (I.ok.afo e) (I.ok.q! b o e),I.base.54 b o (I.ok.bs b o e).1 (I.ok.bs b o e).2 (I.ok.q! b o e)]
theorem Inv.bk (I:Inv X YZ σ H s):∀b o,X.base.14 b=some o->s.heap.14 b=some o:=λb o e=>(I.bs b o e).1
theorem Inv.mod (I:Inv X YZ σ H s):Mod X.K X.mg X.51:=I.ok.mod
theorem Inv.ZQ (I:Inv X YZ σ H s):X.K.In s.8:=I.ok.mod.kin.keeps I.bk
theorem Inv.nolimit (I:Inv X YZ σ H s):s.heap.NoLimit:=I.ok.mod.nolimit.keeps I.bk
theorem Inv.lt (I:Inv X YZ σ H s):X.env.41 < s.6:=let ⟨_,hn,_⟩:=I.loc;hn.lt
theorem Inv.sz (I:Inv X YZ σ H s):X.s₀.6<=s.6:=ai I.ok.above (c6 I.lt)
theorem Inv.afn (I:Inv X YZ σ H s) {a:Addr} (h:s.6<=a):a∉X.fs:=λhb=>by
 obtain _|o|ho|_:=I.ok.ZR.mem hb;show absurd (bQ (XB ho) (ai I.sz h)) (dQ _)
theorem Inv.cne (I:Inv X YZ σ H s):∀x c,X.env.cells.13 x=some c->c≠X.env.41:=λx c e z=>by
 obtain v|o|ho|hd:=I.cell x c e;obtain m|⟨o',es,ep,ho',hd',_⟩|_:=I.loc;rw[z,ho'] at ho;cases ho;rw[hd'] at hd;cases hd
theorem Inv.ZR (I:Inv X YZ σ H s):s.heap.FunFrames X.51 X.outer:=by
 have all:∀(l:List Env),(∀b∈M5 l,b∈X.fs)->X.s₀.heap.FunFrames X.51 l->s.heap.FunFrames X.51 l:=by
  intro l
  induction l with
  | nil=>intro _ _;trivial
  | cons env r ih =>
   intro hs hl;obtain hk|⟨L,o,hf,hn,ho,hd⟩|hr:=hl;have hL:L∈X.fs:=hs L (by unfold M5;rw[FD,hf];show dJ);obtain sl|e:=I.base.slot L o ho (I.ok.frf L hL) hL λz=>I.ok.B! L z hL
   show #[hk,#[L,_,hf,hn,e,hd],ih (λb hb=>hs b (by unfold M5;rw[FD,hf];show cx _ hb)) hr]
 show all X.outer (λ_ hb=>hb) I.ok.ZR
theorem Inv.stack (I:Inv X YZ σ H s):s.heap.FunFrames X.51 X.53:=by
 rcases I.ok.stk with e | ⟨e,hf⟩
 ·rw[e];show I.ZR
 ·rw[e];obtain m|hn|_:=I.loc;refine .cons (by rw[I.ok.30];decide) hf hn ?_ I.ZR;show Heap.get?_none_of_le (ai I.ok.bsz I.ok.above)
theorem Inv._I (I:Inv X YZ σ H s):∀b∈M5 X.53,b∈X.env.41 :: X.fs:=λb hb=>by
 rcases I.ok.stk with e | ⟨e,hf⟩
 ·rw[e] at hb;show cx _ hb
 ·rw[e] at hb;unfold M5 at hb;rw[FD,hf] at hb;show hb
theorem Inv._R (I:Inv X YZ σ H s):∀b∈M5 X.53,H b=none:=λb hb=>by
 rcases aM.mp (I._I b hb) with e | hb
 ·rw[e];show I.54
 ·obtain _|o|ho|_:=I.ok.ZR.mem hb;show I.base.54 b o ho (I.ok.frf b hb) λz=>I.ok.B! b z hb
theorem Inv.step {ch:List Addr} (I:Inv X YZ σ H s)
  (N!:∀b∈ch,(b∈X.ex\/X.s₀.6<=b)/\b≠X.env.41/\(∀x c,X.env.cells.13 x=some c->c≠b)/\∀p∈X.pn++YZ,p.1≠b)
  (keep:∀b o,b≠X.env.41->b∉X.fs->b∉ch->s.heap.14 b=some o->H b=none->h'.14 b=some o)
  (slot:∀b o,b≠X.env.41->b∈X.fs->b∉ch->s.heap.14 b=some o->H b=none->∃sl,h'.14 b=some { o with slots:=sl }) (free:∀b o,b∉ch->s.heap.14 b=some o->H b=none->H' b=none)
  (there:∀b o,b∉ch->s.heap.14 b=some o->∃o',h'.14 b=some o')
  (_i:∀b xs,H b=some (.tup xs)->H' b=some (.tup xs)) (_c:∀b o u,H b=some (._T o u)->H' b=some (._T o u)) (_j:∀b ps,H b=some (.tbl ps)->∃more,H' b=some (.tbl (ps++more)))
  (ns:∀m,s.heap.Ns X.env.41 m->h'.Ns X.env.41 m) (Zb:z9 X.21 X.w H' h') (hg:AllBare g') :
  Inv X YZ σ H' { s with heap:=h',gens:=g',drawn:=d',toks:=t' }:=by
 have neL:∀b o,X.s₀.heap.14 b=some o->b≠X.env.41:=λb o e=>c5 (bQ (XB e) I.ok.above)
 have neC:∀b o,X.s₀.heap.14 b=some o->b∉X.ex->b∉ch:=λb o e hx hb=>by
  rcases (N! b hb).1 with z | z
  ·show hx z
  ·show absurd (bQ (XB e) z) (dQ _)
 have cellK:∀x c,X.env.cells.13 x=some c->∀v,s.heap.IsCell c v->h'.IsCell c v:=λx c e v #[o,ho,hd]=>by
  have nch:c∉ch:=λz=>(N! c z).2.2.1 x c e rfl
  by_cases hc:c∈X.fs
  ·obtain sl|q:=slot c o (I.cne x c e) hc nch ho (I.Zp x c e);show #[_,q,hd]
  ·show #[o,keep c o (I.cne x c e) hc nch ho (I.Zp x c e),hd]
 refine #[I.ok,I.os,hg,#[λb o e n hb hx=>?_,λb o e n hb hx=>?_,λb o e n hx=>?_,λb o e hx=>?_,λb xs e=>_i b xs (I.base._i b xs e),λb o xs e=>_c b o xs (I.base._c b o xs e),λb ps e=>?_],?_,λx c e=>?_,?_,λx c e=>?_,λp hp=>?_,Zb,I.36]
 ·show keep b o (neL b o e) hb (neC b o e hx) (I.base.keep b o e n hb hx) (I.base.54 b o e n hx)
 ·obtain sl|e1:=I.base.slot b o e n hb hx;obtain sl'|e2:=slot b _ (neL b o e) hb (neC b o e hx) e1 (I.base.54 b o e n hx);show #[sl',e2]
 ·obtain o'|e1:=I.base.there b o e hx;show free b o' (neC b o e hx) e1 (I.base.54 b o e n hx)
 ·obtain o'|e1:=I.base.there b o e hx;show there b o' (neC b o e hx) e1
 ·obtain m1|e1:=I.base._j b ps e;obtain m2|e2:=_j b _ e1;show #[m1++m2,by rw[e2,Array.append_assoc]]
 ·obtain m|hn|hl:=I.loc;refine #[m,ns m hn,λi x v e1 e2 e3=>?_];obtain u|r|l:=hl i x v e1 e2 e3;refine #[u,r,?_];rcases l with l | ⟨k,c,e,z⟩
  ·show .inl l
  ·show .inr #[k,c,e,cellK x c e _ z]
 ·obtain v|z:=I.cell x c e;show #[v,cellK x c e v z]
 ·obtain m|⟨o,_,_,ho,_⟩|_:=I.loc;show free _ o (λz=>(N! _ z).2.1 rfl) ho I.54
 ·obtain v|o|ho|hd:=I.cell x c e;show free c o (λz=>(N! c z).2.2.1 x c e rfl) ho (I.Zp x c e)
 ·obtain e|n|ne|nf|d:=I.pin p hp;have nch:p.1∉ch:=λz=>(N! p.1 z).2.2.2 p hp rfl
  show #[keep p.1 p.2 ne nf nch e n,free p.1 p.2 nch e n,ne,nf,d]
theorem Inv.un (I:Inv X YZ σ H s) (u:Un X.fs [] H H' s.29 h') (Zb:z9 X.21 X.w H' h'):Inv X YZ σ H' { s with heap:=h',toks:=t' }:=by
 obtain m|⟨o,es,ep,ho,r⟩|_:=id I.loc;obtain sl|hL:=u.any ho I.54 (by simp)
 show I.step (g':=s.gens) (d':=s.drawn) (ch:=[]) (λ_ z=>nomatch z) (λb o _ hb _ e n=>u.keep b o e n hb (by simp)) (λb o _ hb _ e n=>u.slot b o e n hb (by simp)) (λb o _ e n=>u.54 b o e n (by simp)) (λb o _ e=>u.there b o e (by simp)) u._i u._c u._j (λm' hm=>by
  obtain o'|es'|ep'|ho'|r':=hm;rw[ho] at ho';cases ho';show #[_,es',ep',hL,r']) Zb I.57
theorem Inv.call (I:Inv X YZ σ H s) (u:Un (M5 X.53) ch H H' s.29 h') (Zb:z9 X.21 X.w H' h') (hg:AllBare g')
  (N!:∀b∈ch,(b∈X.ex\/X.s₀.6<=b)/\b≠X.env.41/\(∀x c,X.env.cells.13 x=some c->c≠b)/\∀p∈X.pn++YZ,p.1≠b) :
  Inv X YZ σ H' { s with heap:=h',gens:=g',drawn:=d',toks:=t' }:=by
 obtain m|⟨o,es,ep,ho,r⟩|_:=id I.loc;obtain sl|hL:=u.any ho I.54 λz=>(N! _ z).2.1 rfl
 show I.step (ch:=ch) N! (λb o hL hb hc e n=>u.keep b o e n (λz=>(aM.mp (I._I b z)).elim hL hb) hc) (λb o _ _ hc e n=>u.any e n hc) (λb o hc e n=>u.54 b o e n hc) (λb o hc e=>u.there b o e hc) u._i u._c u._j (λm' hm=>by
  obtain o'|es'|ep'|ho'|r':=hm;rw[ho] at ho';cases ho';show #[_,es',ep',hL,r']) Zb hg
theorem Inv.turned (I:Inv X YZ σ H s) (k:∀b o,b≠it->s.heap.14 b=some o->h'.14 b=some o) (hn:H it=none) (hL:it≠X.env.41)
  (h1:it∈X.ex\/X.s₀.6<=it) (h2:∀x c,X.env.cells.13 x=some c->c≠it) (h3:∀p∈X.pn++YZ,p.1≠it):Inv X YZ σ H { s with heap:=h',toks:=t' }:=by
 have nit:∀b u,H b=some u->b≠it:=λb u e z=>by rw[z,hn] at e;cases e
 refine I.step (g':=s.gens) (d':=s.drawn) (ch:=[it]) (λb hb=>?_) (λb o _ _ hc e _=>k b o (λz=>hc (by simp [z])) e) (λb o _ _ hc e _=>#[o.slots,k b o (λz=>hc (by simp [z])) e]) (λ_ _ _ _ n=>n)
  (λb o hc e=>#[o,k b o (λz=>hc (by simp [z])) e]) (λ_ _ e=>e) (λ_ _ _ e=>e) (λb ps e=>#[[].12,by rw[e];simp]) (λm hm=>?_) (λb u e=>?_) I.57
 ·have e:b=it:=by simpa using hb
  subst e;show #[h1,hL,h2,h3]
 ·obtain o|es|ep|ho|r:=hm;show #[o,es,ep,k _ o (Yg hL) ho,r]
 ·refine (I.Zb b u e).Z8 (λc v hc q=>k c v ?_ q) (λ_ q=>q) λ_ _ q=>q
  rcases hc with z | z
  ·rw[z];show nit b u e
  ·show nit c _ z
theorem Inv.tok (I:Inv X YZ σ H s) (t:Nat):Inv X YZ σ H { s with toks:=t }:=I.un (h':=s.8) (t':=t) Un.refl I.Zb
theorem Inv.kept (I:Inv X YZ σ H s) (k:∀b u,s.heap.14 b=some u->h'.14 b=some u):Inv X YZ σ H { s with heap:=h',toks:=t' }:=I.un (Un.kept k) (I.Zb.59 k)
theorem Inv.laid {a:Addr} (I:Inv X YZ σ H s) (k:∀b u,s.heap.14 b=some u->h'.14 b=some u) (hp:s.6<=a) (new:kv X.21 X.w (upd H a o) h' a o) :
  Inv X YZ σ (upd H a o) { s with heap:=h',toks:=t' }:=I.un (Un.laid k hp (I.Zb.42 hp)) (I.Zb.laid k hp new)
theorem Inv.write (I:Inv X YZ σ H s) (mu:WQ (H x)) (he:e=x\/H e=some (.own x)) (k:∀b u,b≠e->s.heap.14 b=some u->h'.14 b=some u) (heo:∃u,h'.14 e=some u)
  (new:kv X.21 X.w (upd H x o) h' x o):Inv X YZ σ (upd H x o) { s with heap:=h',toks:=t' }:=I.un (Un.write mu he k heo) (I.Zb.write mu he k heo new)
theorem Inv.ZU (I:Inv X YZ σ H s) (h:∀p∈pins',s.heap.14 p.1=some p.2/\H p.1=none/\p.1≠X.env.41/\p.1∉X.fs/\∀v,p.2.data≠.cell v):Inv X pins' σ H s :=
 #[I.ok,I.os,I.57,I.51,I.loc,I.cell,I.54,I.Zp,λp hp=>(aA.mp hp).elim (λz=>I.pin p (cT _ z)) (h p),I.Zb,I.36]
theorem GH {N:List Str} (hN:N.33) {i j:Nat} (a:N[i]?=some x) (b:N[j]?=some x):i=j:=by
 obtain h1|e1:=aI.mp a;obtain h2|e2:=aI.mp b;show (List.getElem_inj hN).mp (e1.4 e2.19)
theorem Cy {M:Model} {A:Yd} {E:Value->Xv->Prop} {i:Nat} {x:Str} {v:V} {u:Value} {Q:Unit->Xv->Prop} (I:Inv X YZ σ H s) (hN:X.N.33) (hi:X.N[i]?=some x) (hx:Loc X.env.scope x) (r:RelV v u)
  (h:∀s',Inv X YZ (σ.43 i (some v)) H s'->(∃a,Heap.SameBut a s.29 s'.8/\(a=X.env.41\/X.env.cells.13 x=some a))->Q .unit s') (hf:X.fn x=true\/X.env.scope.names.13 x=some .local:=by first | show .inl rfl | show .inr rfl | assumption):XF M A (storeName X.16 x u) Q E s:=by
 obtain m|hn|hl:=id I.loc;have agz:(X.env.scope.30 == .class || (X.env.scope.30 == .module && X.env.41 != X.env.globals))=false:=by rw[I.ok.30];rfl
 have hiσ:i < σ.9:=by rw[I.36];show (aI.mp hi).1
 have cne:=I.cne
 have tracked:∀{a:Addr} {h':Heap},(∃o,s.heap.14 a=some o/\H a=none)->Heap.SameBut a s.29 h'->z9 X.21 X.w H h':=λ{a h'} ha hs b ob e=>by
  obtain _|_|aay:=ha;refine (I.Zb b ob e).Z8 (λc w' hc q=>(hs.2 c ?_).4 q) (λ_ q=>q) λ_ _ q=>q
  rintro rfl;rcases hc with rfl | hc
  ·rw[aay] at e;cases e
  ·rw[aay] at hc;cases hc
 rcases hx with hk | hk
 ·refine wpAny_storeName_local hk hn (λh' hn' hs=>?_) agz;obtain oL|_|_|hoL|_:=id hn;refine h _ #[I.ok,I.os,I.57,#[λb o e n hb hx=>?_,λb o e n hb hx=>?_,I.base.54,λb o e hx=>?_,I.base._i,I.base._c,I.base._j],#[_,hn',λj y v' e1 e2 e3=>?_],λy c e=>?_,I.54,I.Zp,λp hp=>?_,tracked #[oL,hoL,I.54] hs,by simpa using I.36] #[_,hs,.inl rfl]
  ·show (hs.2 b (c5 (bQ (XB e) I.ok.above))).4 (I.base.keep b o e n hb hx)
  ·obtain sl|e1:=I.base.slot b o e n hb hx;show #[sl,(hs.2 b (c5 (bQ (XB e) I.ok.above))).4 e1]
  ·obtain o'|e1:=I.base.there b o e hx;show #[o',(hs.2 b (c5 (bQ (XB e) I.ok.above))).4 e1]
  ·by_cases hj:j=i
   ·subst hj;rw[hi] at e1;cases e1;rw[List.getElem?_set_self hiσ] at e2;cases e2;show #[u,r,.inl #[hk,by simp]]
   ·rw[List.getElem?_set_ne (Yg hj)] at e2;obtain u'|r'|q:=hl j y v' e1 e2 e3;refine #[u',r',?_];rcases q with ⟨k,e⟩ | ⟨k,c,e,z⟩
    ·refine .inl #[k,?_];have:y≠x:=λe=>hj (GH hN e1 (e ▸ hi))
     simp [this,e]
    ·show .inr #[k,c,e,z.sameBut hs (cne y c e)]
  ·obtain w'|z:=I.cell y c e;show #[w',z.sameBut hs (cne y c e)]
  ·obtain e|n|ne|nf|d:=I.pin p hp;show #[(hs.2 p.1 ne).4 e,n,ne,nf,d]
 ·have hfn:X.fn x=true:=by
   rcases hf with z | z
   ·show z
   ·rw[z] at hk;cases hk
  obtain c|hc:=I.ok.has x (.inl hk);obtain w'|z:=I.cell x c hc;refine wpAny_storeName_cell I.ok.30 hk hc z (λh' _a hs=>?_);obtain oc|hoc|agi:=id z;refine h { s with heap:=h' } ⟨I.ok,I.os,I.57,⟨λb o e n hb hx=>?_,λb o e n hb hx=>?_,I.base.54,λb o e hx=>?_,I.base._i,I.base._c,I.base._j⟩,#[m,hn.sameBut hs (Yg (cne x c hc)),λj y v' e1 e2 e3=>?_],λy c' e=>?_,I.54,I.Zp,λp hp=>?_,tracked #[oc,hoc,I.Zp x c hc] hs,by simpa using I.36⟩ #[c,hs,.inr hc]
  ·show (hs.2 b (c5 (bQ (XB e) (I.ok.cab x c hfn hc)))).4 (I.base.keep b o e n hb hx)
  ·obtain sl|e1:=I.base.slot b o e n hb hx;show #[sl,(hs.2 b (c5 (bQ (XB e) (I.ok.cab x c hfn hc)))).4 e1]
  ·obtain o'|e1:=I.base.there b o e hx;show #[o',(hs.2 b (c5 (bQ (XB e) (I.ok.cab x c hfn hc)))).4 e1]
  ·by_cases hj:j=i
   ·subst hj;rw[hi] at e1;cases e1;rw[List.getElem?_set_self hiσ] at e2;cases e2;show #[u,r,.inr #[.inl hk,c,hc,_a]]
   ·rw[List.getElem?_set_ne (Yg hj)] at e2;obtain u'|r'|q:=hl j y v' e1 e2 e3;refine #[u',r',?_];rcases q with q | ⟨k,c',e,z'⟩
    ·show .inl q
    ·refine .inr #[k,c',e,z'.sameBut hs ?_];rintro rfl;show hj (GH hN e1 (I.ok.inj _ _ _ e hc ▸ hi))
  ·by_cases hcc:c'=c
   ·subst hcc;show #[_,_a]
   ·obtain w2|z2:=I.cell y c' e;show #[w2,z2.sameBut hs hcc]
  ·obtain e|n|ne|nf|d:=I.pin p hp;refine #[(hs.2 p.1 ?_).4 e,n,ne,nf,d];intro q;rw[q,hoc] at e;have q':oc=p.2:=cm e;show d w' (by rw[<- q'];show agi)
theorem wb {M:Model} {A:Yd} {E:Value->Xv->Prop} {i:Nat} {x:Str} {v:V} {u:Value} {Q:Unit->Xv->Prop} (I:Inv X YZ σ H s) (hN:X.N.33) (hi:X.N[i]?=some x) (hx:Loc X.env.scope x) (r:RelV v u)
  (h:∀s',Inv X YZ (σ.43 i (some v)) H s'->Q .unit s') (hf:X.fn x=true\/X.env.scope.names.13 x=some .local:=by first | show .inl rfl | show .inr rfl | assumption):XF M A (storeName X.16 x u) Q E s :=
 Cy I hN hi hx r (λs' I' _=>h s' I') hf
theorem Inv.ads (I:Inv X YZ σ H s) (ho:s'.os=s.os) (u:Un (M5 X.53) ch H H' s.29 s'.8) (Zb:z9 X.21 X.w H' s'.8) (hg:AllBare s'.gens)
  (N!:∀b∈ch,(b∈X.ex\/X.s₀.6<=b)/\b≠X.env.41/\(∀x c,X.env.cells.13 x=some c->c≠b)/\∀p∈X.pn++YZ,p.1≠b):Inv X YZ σ H' s':=by
 obtain h'|g'|d'|t'|o':=s';have e:o'=s.os:=ho;subst e;show I.call (g':=g') (t':=t') (d':=d') u Zb hg N!
end
abbrev XK:=Value->Option Addr->Hp->Prop
abbrev St:=List (Option V)
abbrev VK:=V->Hp->Prop
abbrev TE:=St->Hp->VK->Prop
abbrev TT:=St->Hp->(Bool->Hp->Prop)->Prop
abbrev TA:=St->Hp->(List V->Hp->Prop)->Prop
structure Ends where
 nx:St->Hp->Prop
 rt:VK
 bk:St->Hp->Prop:=λ_ _=>False
 ct:St->Hp->Prop:=λ_ _=>False
abbrev TS:=Ends->St->Hp->Prop
def EP (X:Cx) (YZ:List (Addr×Obj)) (σ:St) (Q:VK) (u:Value) (s':Xv):Prop:=∃v H',Inv X YZ σ H' s'/\RelV v u/\Q v H'
def TP (X:Cx) (YZ:List (Addr×Obj)) (σ:St) (Q:Bool->Hp->Prop) (b:Bool) (s':Xv):Prop:=∃H',Inv X YZ σ H' s'/\Q b H'
def AP (X:Cx) (YZ:List (Addr×Obj)) (σ:St) (Q:List V->Hp->Prop) (us:List Value) (s':Xv):Prop:=∃vs H',Inv X YZ σ H' s'/\cZ vs us/\Q vs H'
def SP (X:Cx) (YZ:List (Addr×Obj)) (D:Ends) (f:Flow) (s':Xv):Prop :=
 match f with
 | .next=>∃σ' H',Inv X YZ σ' H' s'/\D.nx σ' H'
 | .brk=>∃σ' H',Inv X YZ σ' H' s'/\D.bk σ' H'
 | .cont=>∃σ' H',Inv X YZ σ' H' s'/\D.ct σ' H'
 | .ret u=>∃v σ' H',Inv X YZ σ' H' s'/\RelV v u/\D.rt v H'
def PE (X:Cx) (e:Expr) (t:TE):Prop :=
 ∀(YZ:List (Addr×Obj)) (s:Xv) (σ:St) (H:Hp) (Q:VK),Inv X YZ σ H s->t σ H Q->XF (model X.21 X.w) X.A (eval e X.16) (EP X YZ σ Q) X.xe s
def PT (X:Cx) (e:Expr) (t:TT):Prop :=
 ∀(YZ:List (Addr×Obj)) (s:Xv) (σ:St) (H:Hp) (Q:Bool->Hp->Prop),Inv X YZ σ H s->t σ H Q->XF (model X.21 X.w) X.A (isTrue e X.16 (eval e X.16)) (TP X YZ σ Q) X.xe s
def PW (X:Cx) (e:Expr) (t:TT):Prop :=
 ∀(whole:Sem Value) (YZ:List (Addr×Obj)) (s:Xv) (σ:St) (H:Hp) (Q:Bool->Hp->Prop),Inv X YZ σ H s->t σ H Q->XF (model X.21 X.w) X.A (isTrue e X.16 whole) (TP X YZ σ Q) X.xe s
theorem PW.pt (h:PW X e t):PT X e t:=h _
def PA (X:Cx) (es:List Expr) (t:TA):Prop :=
 ∀(pos:Pos) (YZ:List (Addr×Obj)) (s:Xv) (σ:St) (H:Hp) (Q:List V->Hp->Prop),Inv X YZ σ H s->t σ H Q->XF (model X.21 X.w) X.A (spliced (backTo pos (Xy es X.16))) (AP X YZ σ Q) X.xe s
def PS (X:Cx) (st:Stmt) (t:TS):Prop :=
 ∀(YZ:List (Addr×Obj)) (s:Xv) (σ:St) (H:Hp) (D:Ends),Inv X YZ σ H s->t D σ H->XF (model X.21 X.w) X.A (exec st X.16) (SP X YZ D) X.xe s
def IB (X:Cx) (st:List Stmt) (t:TS):Prop :=
 ∀(YZ:List (Addr×Obj)) (s:Xv) (σ:St) (H:Hp) (D:Ends),Inv X YZ σ H s->t D σ H->XF (model X.21 X.w) X.A (execs st X.16) (SP X YZ D) X.xe s
theorem iq {t:Sem α} {Q Q':α->Xv->Prop} (h:XF M A t Q E s) (hQ:∀a s,Q a s->Q' a s):XF M A t Q' E s:=Yw h hQ λ_ _ x=>x
section
variable {X:Cx}
def TJ (i:Nat):TE:=λσ H Q=>∃v,σ[i]?=some (some v)/\Q v H
def tC (v:V):TE:=λ_ H Q=>Q v H
theorem Uy {i:Nat} {x:Str} {pos:Pos} (hN:X.N[i]?=some x) (hv:Xc X.env.scope x) (hd:(x == ("__debug__":Str))=false:=by decide) (x!:(x == ("__classdict__":Str))=false:=by decide):PE X (.Name x pos) (TJ i):=by
 intro YZ s σ H Q I h;obtain v|e|h:=h;obtain m|hn|hl:=I.loc;obtain u|r|l:=hl i x v hN e hv;have fin:EP X YZ σ Q u s:=#[v,H,I,r,h];rcases l with ⟨hk,hm⟩ | ⟨hk,c,hc,aaz⟩
 ·show wpAny_Name (wpAny_loadName_local I.ok.30 hk hn hm fin) hd
 ·rcases hk with hk | hk
  ·show wpAny_Name (wpAny_loadName_cell I.ok.30 hk hc aaz fin) hd
  ·show wpAny_Name (wpAny_loadName_free I.ok.30 hk hc aaz fin x!) hd
theorem aw:PE X (.Constant (.int i) j pos) (tC (.int i)):=λ_ _ _ H _ I h=>wpAny_Constant_int #[.int i,H,I.tok _,#[_,rfl],h]
theorem sJ:PE X (.Constant (.bool b) j pos) (tC (.bl b)):=λ_ _ _ H _ I h=>Constant_bool #[.bl b,H,I,rfl,h]
theorem D6:PE X (.Constant .none j pos) (tC .Ze):=λ_ _ _ H _ I h=>Constant_none #[.Ze,H,I,rfl,h]
def Gl (X:Cx) (x:Str):Prop:=X.env.45 x=some .globalImplicit
theorem Ep {E:Value->Xv->Prop} {YZ:List (Addr×Obj)} {s:Xv} {σ:St} {H:Hp} {x:Str} {u:Value} {pos:Pos} {Q:Value->Xv->Prop} (I:Inv X YZ σ H s) (hg:Gl X x) (hm:X.mg x=some u) (h:Q u s)
  (hd:(x == ("__debug__":Str))=false:=by decide):XF (model X.21 X.w) X.A (eval (.Name x pos) X.16) Q E s :=
 Calls.Name_function_global I.ok.30 hg (Calls.loadGlobal_global (by rw[I.ok.glob];show I.mod.glob.keeps I.bk) hm h) hd
theorem kY {E:Value->Xv->Prop} {YZ:List (Addr×Obj)} {s:Xv} {σ:St} {H:Hp} {x:Str} {u:Value} {pos:Pos} {Q:Value->Xv->Prop} (I:Inv X YZ σ H s) (hg:Gl X x) (hm:X.mg x=none) (hv:Yv x=some u) (h:Q u s)
  (hn:x≠"__name__":=by decide) (hd:(x == ("__debug__":Str))=false:=by decide):XF (model X.21 X.w) X.A (eval (.Name x pos) X.16) Q E s:=by
 obtain mb|h1|h2:=I.mod.blt;show Calls.Name_function_global I.ok.30 hg (Calls.loadGlobal_builtin (by rw[I.ok.glob];show I.mod.glob.keeps I.bk) hm (by rw[I.ok.blt];show h1.keeps I.bk) ((h2 x hn).4 hv) h) hd
theorem ph {x:Str} {v:V} {u:Value} {pos:Pos} (hg:Gl X x) (hm:X.mg x=some u) (r:RelV v u) (hd:(x == ("__debug__":Str))=false:=by decide):PE X (.Name x pos) (tC v) :=
 λ_ _ _ H _ I h=>Ep I hg hm #[v,H,I,r,h] hd
theorem K3 {x:Str} {v:V} {u:Value} {pos:Pos} (hg:Gl X x) (hm:X.mg x=none) (hv:Yv x=some u) (r:RelV v u) (hn:x≠"__name__":=by decide) (hd:(x == ("__debug__":Str))=false:=by decide):PE X (.Name x pos) (tC v) :=
 λ_ _ _ H _ I h=>kY I hg hm hv #[v,H,I,r,h] hn hd
variable {a b:Expr} {ta tb:TE} {pos:Pos}
def tB (t:TE):TT:=λσ H Q=>t σ H λx H1=>∃c,x=.bl c/\Q c H1
theorem lY {e:Expr} {t:TE} (h:PE X e t) (he:∀whole,isTrue e X.16 whole=(do let v <- whole;standAt e.pos;holding [v] (truthy v)):=by intro _;rfl):PT X e (tB t):=by
 intro YZ s σ H Q I hw;refine isTrue_plain (iq (h YZ s σ H _ I hw) λv s1 hz=>?_) (he _);obtain x|H1|I1|r1|q1:=hz;obtain d|rfl|q:=q1;cases r1;show YC #[H1,I1,q]
variable {tA tB':TT} {rest:List Expr}
def VG (t u:TT):TT:=λσ H Q=>t σ H λc H1=>if c=true then u σ H1 Q else Q false H1
def tOr (t u:TT):TT:=λσ H Q=>t σ H λc H1=>if c=true then Q true H1 else u σ H1 Q
def VC (t:TT):TT:=λσ H Q=>t σ H λc H1=>Q (!c) H1
theorem nJ (ha:PT X a tA):PW X (.BoolOp .And [a] pos) tA:=by
 intro wh YZ s σ H Q I h;refine isTrue_and (iq (ha YZ s σ H Q I h) λc s1 e=>?_);cases c with
 | true=>show isTrue_and_nil e
 | false=>show e
theorem kH (ha:PT X a tA):PW X (.BoolOp .Or [a] pos) tA:=by
 intro wh YZ s σ H Q I h;refine isTrue_or (iq (ha YZ s σ H Q I h) λc s1 e=>?_);cases c with
 | false=>show isTrue_or_nil e
 | true=>show e
theorem lX (ha:PT X a tA) (hb:PW X (.BoolOp .And (b :: rest) pos) tB'):PW X (.BoolOp .And (a :: b :: rest) pos) (VG tA tB'):=by
 intro wh YZ s σ H Q I h;refine isTrue_and (iq (ha YZ s σ H _ I h) λc s1 hz=>?_);obtain H1|I1|q1:=hz;cases c with
 | true=>show hb wh YZ s1 σ H1 Q I1 q1
 | false=>show #[H1,I1,q1]
theorem pe (ha:PT X a tA) (hb:PW X (.BoolOp .Or (b :: rest) pos) tB'):PW X (.BoolOp .Or (a :: b :: rest) pos) (tOr tA tB'):=by
 intro wh YZ s σ H Q I h;refine isTrue_or (iq (ha YZ s σ H _ I h) λc s1 hz=>?_);obtain H1|I1|q1:=hz;cases c with
 | true=>show #[H1,I1,q1]
 | false=>show hb wh YZ s1 σ H1 Q I1 q1
theorem ng (ha:PT X a tA):PT X (.UnaryOp .Not a pos) (VC tA):=by
 intro YZ s σ H Q I h;show isTrue_not (ha YZ s σ H (λc H1=>Q (!c) H1) I h)
def SQ (ta tb:TE):TE:=λσ H Q=>ta σ H λx H1=>∃c,x=.bl c/\if c=true then tb σ H1 Q else Q (.bl false) H1
def SE (ta:TE):TE:=λσ H Q=>ta σ H λx H1=>∃c,x=.bl c/\Q (.bl (!c)) H1
theorem AG (h:PE X a t):PE X (.BoolOp op [a] pos) t:=λYZ s σ H Q I hw=>BoolOp_one (h YZ s σ H Q I hw)
theorem yv (ha:PE X a ta) (hb:PE X (.BoolOp .And (b :: rest) pos) tb):PE X (.BoolOp .And (a :: b :: rest) pos) (SQ ta tb):=by
 intro YZ s σ H Q I h;refine BoolOp_and (iq (ha YZ s σ H _ I h) λv s1 hz=>?_);obtain x|H1|I1|r1|q1:=hz;obtain c|rfl|q1:=q1;cases r1;refine YC ?_;cases c with
 | true=>show hb YZ s1 σ H1 Q I1 q1
 | false=>show #[.bl false,H1,I1,rfl,q1]
theorem Uz (ha:PE X a ta):PE X (.UnaryOp .Not a pos) (SE ta):=by
 intro YZ s σ H Q I h;refine UnaryOp_ (iq (ha YZ s σ H _ I h) λv s1 hz=>?_);obtain x|H1|I1|r1|q1:=hz;obtain c|rfl|q1:=q1;cases r1;show not_of (YC #[.bl (!c),H1,I1,rfl,q1])
def tIf (t:TT) (ta tb:TE):TE:=λσ H Q=>t σ H λc H1=>if c=true then ta σ H1 Q else tb σ H1 Q
theorem Ol (hc:PT X c tA) (ha:PE X a ta) (hb:PE X b tb):PE X (.IfExp c a b pos) (tIf tA ta tb):=by
 intro YZ s σ H Q I h;refine wpAny_IfExp (iq (hc YZ s σ H _ I h) λd s1 hz=>?_);obtain H1|I1|q1:=hz;cases d with
 | true=>show ha YZ s1 σ H1 Q I1 q1
 | false=>show hb YZ s1 σ H1 Q I1 q1
end
def bY (K:Y2) (H:Hp) (a:Addr) (xs:List V):Prop :=
 Rd H a (.lst xs) \/
  ∃(o:Obj) (Y5:Array Value) (n:Nat),K.13 a=some o/\o.cls=.type "list"/\o.dict=none/\o.data=.seq Y5 n/\Y5.7<=XG/\cZ xs Y5.toList
def nD (K:Y2) (H:Hp) (a:Addr) (xs:List V):Prop :=
 Rd H a (.tup xs) \/
  ∃(o:Obj) (Y5:Array Value) (n:Nat),K.13 a=some o/\o.cls=.type "tuple"/\o.data=.seq Y5 n/\Y5.7<=XG/\cZ xs Y5.toList
def W7:Value->Option V
 | .none=>some .Ze
 | .bool b=>some (.bl b)
 | .int i _=>some (.int i)
 | .str x _=>some (.str x)
 | .bytes b _=>some (.i! b)
 | .float b _=>some (.flt b)
 | .ref a=>some (.ref a)
 | .type n=>some (.ty n)
 | _=>none
theorem RelV.abs (r:RelV x u):W7 u=some x:=by
 cases x with
 | Ze=>cases r;rfl
 | bl _=>cases r;rfl
 | int _=>obtain t|rfl:=r;rfl
 | str _=>obtain t|rfl:=r;rfl
 | i! _=>obtain t|rfl:=r;rfl
 | flt _=>obtain t|rfl:=r;rfl
 | ref _=>cases r;rfl
 | ty _=>cases r;rfl
theorem RelV.inj (r:RelV x u) (q:RelV y u):x=y:=cm (r.abs.symm.4 q.abs)
theorem cZ.inj:∀{xs ys:List V} {us:List Value},cZ xs us->cZ ys us->xs=ys
 := by
 intro xs ys us h
 induction h generalizing ys with
 | nil=>intro h';cases h';rfl
 | cons r t ih=>intro h';cases h' with | cons r' t'=>rw[r.inj r',ih t']
section
variable {σ:St}
theorem bY.of {K:Y2} (h:H a=some (.lst xs)):bY K H a xs:=.inl (.inl h)
theorem nD.of {K:Y2} (h:H a=some (.tup xs)):nD K H a xs:=.inl (.inl h)
theorem Inv.list (I:Inv X YZ σ H s) (h:bY X.K H a xs):∃Y5:List Value,cZ xs Y5/\PlainL s.29 a Y5.5/\xs.9<=XG:=by
 rcases h with h | ⟨o,Y5,n,hk,hc,hd,hs,hz,r⟩
 ·obtain z|Y5|n|r|e:=h.ok I.Zb;show #[Y5,r,#[_,n,e,rfl,rfl,rfl],z]
 ·refine #[Y5.toList,r,#[o,n,I.ZQ a o hk,hc,hd,by simpa using hs],?_];have e:=r.9;simp only[XX] at e
  lia
theorem Inv.tuple (I:Inv X YZ σ H s) (h:nD X.K H a xs):∃Y5:List Value,cZ xs Y5/\IsTup s.29 a Y5.5/\xs.9<=XG:=by
 rcases h with h | ⟨o,Y5,n,hk,hc,hs,hz,r⟩
 ·obtain z|Y5|r|p:=h.ok I.Zb;show #[Y5,r,p,z]
 ·refine #[Y5.toList,r,#[o,I.ZQ a o hk,hc,n,by simpa using hs],?_];have e:=r.9;simp only[XX] at e
  lia
theorem Inv.Zk (I:Inv X YZ σ H s) (h:bY X.K H a xs) (h':bY X.K H a ys):xs=ys:=by
 obtain Y5|r|⟨o,n,e,_,_,d⟩|_:=I.31 h;obtain its'|r'|⟨o',n',e',_,_,d'⟩|_:=I.31 h';rw[e] at e';cases e';rw[d] at d';injection d' with d1 _
 have:Y5=its':=by simpa using congrArg Array.toList d1
 subst this;show r.inj r'
theorem Inv.Zi (I:Inv X YZ σ H s) (h:nD X.K H a xs) (h':nD X.K H a ys):xs=ys:=by
 obtain Y5|r|⟨o,e,_,n,d⟩|_:=I.44 h;obtain its'|r'|⟨o',e',_,n',d'⟩|_:=I.44 h';rw[e] at e';cases e';rw[d] at d';injection d' with d1 _
 have:Y5=its':=by simpa using congrArg Array.toList d1
 subst this;show r.inj r'
end
abbrev Cx.Z5 (X:Cx) (E:Value->Xv->Prop):Cx:={ X with xe:=E }
abbrev Cx.nox (X:Cx):Cx:=X.Z5 λ_ _=>False
theorem Cx.Ok.Z5 {X:Cx} (ok:X.Ok) (E:Value->Xv->Prop):(X.Z5 E).Ok :=
 #[ok.mod,ok.30,ok.glob,ok.blt,ok.above,ok.inj,ok.has,ok.cab,ok.hd,ok.frames,ok.stk,ok.exf,ok.bs,ok.bsz,ok.q!,ok.B!,ok.ZR,ok.frf]
theorem Cx.Ok.Zq {X:Cx} (ok:(X.Z5 E).Ok):X.Ok :=
 #[ok.mod,ok.30,ok.glob,ok.blt,ok.above,ok.inj,ok.has,ok.cab,ok.hd,ok.frames,ok.stk,ok.exf,ok.bs,ok.bsz,ok.q!,ok.B!,ok.ZR,ok.frf]
section
variable {σ:St}
theorem Inv.Z5 (I:Inv X YZ σ H s) (E:Value->Xv->Prop):Inv (X.Z5 E) YZ σ H s:=#[I.ok.Z5 E,I.os,I.57,I.51,I.loc,I.cell,I.54,I.Zp,I.pin,I.Zb,I.36]
theorem Inv.Zq (I:Inv (X.Z5 E) YZ σ H s):Inv X YZ σ H s:=#[I.ok.Zq,I.os,I.57,I.51,I.loc,I.cell,I.54,I.Zp,I.pin,I.Zb,I.36]
theorem SP.Zq (h:SP (X.Z5 E) YZ D f s'):SP X YZ D f s':=by
 cases f with
 | next=>obtain σ'|H'|I|q:=h;show #[σ',H',I.Zq,q]
 | brk=>obtain σ'|H'|I|q:=h;show #[σ',H',I.Zq,q]
 | cont=>obtain σ'|H'|I|q:=h;show #[σ',H',I.Zq,q]
 | ret u=>obtain v|σ'|H'|I|r|q:=h;show #[v,σ',H',I.Zq,r,q]
theorem IB.nox {st:List Stmt} (h:IB X.nox st t):IB X st t:=λYZ s σ H D I hw =>
 Yw (h YZ s σ H D (I.Z5 _) hw) (λ_ _ q=>q.Zq) λ_ _ z=>Ye z
end
section
variable {X:Cx} {st:Stmt} {rest:List Stmt} {t u:TS} {e:Expr} {te:TE} {pos:Pos}
def SG:TS:=λD σ H=>D.nx σ H
def Vy (t u:TS):TS:=λD σ H=>t { D with nx:=u D } σ H
theorem cy:IB X [] SG:=λ_ _ σ H _ I h=>wpAny_execs_nil #[σ,H,I,h]
theorem ay (h1:PS X st t) (h2:IB X rest u):IB X (st :: rest) (Vy t u):=by
 intro YZ s σ H D I h;refine wpAny_execs_cons (iq (h1 YZ s σ H { D with nx:=u D } I h) λf s1 q=>?_);cases f with
 | next =>
  obtain σ'|H'|I'|q:=q;show h2 YZ s1 σ' H' D I' q
 | ret v=>show q
 | brk=>show q
 | cont=>show q
theorem aD (h1:PS X st t):IB X [st] t:=by
 intro YZ s σ H D I h;refine wpAny_execs_cons (iq (h1 YZ s σ H D I h) λf s1 q=>?_);cases f with
 | next=>show wpAny_execs_nil q
 | ret v=>show q
 | brk=>show q
 | cont=>show q
theorem Inv.quiet {σ:St} (I:Inv X YZ σ H s):interactive X.16=false:=by simp [interactive,I.ok.30]
def SN (te:TE):TS:=λD σ H=>te σ H λ_ H1=>D.nx σ H1
theorem kI (he:PE X e te) (hs:swapsWith e none pos.line X.16=pure false:=by rfl):PS X (.Expr e pos) (SN te):=by
 intro YZ s σ H D I h;show wpAny_Expr_any (iq (he YZ s σ H _ I h) λv s1 #[x,H1,I1,r1,q1]=>#[σ,H1,I1,q1]) I.quiet hs
def Vz (te:TE):TS:=λD σ H=>te σ H D.rt
theorem aW (he:PE X e te):PS X (.Return (some e) pos) (Vz te):=by
 intro YZ s σ H D I h;show wpAny_Return_some (iq (he YZ s σ H _ I h) λv s1 #[x,H1,I1,r1,q1]=>#[x,σ,H1,I1,r1,q1])
def VE (c:TT) (t u:TS):TS:=λD σ H=>c σ H λb H1=>if b=true then t D σ H1 else u D σ H1
theorem dr (hc:PT X c tc) (ha:IB X a t) (hb:IB X b u):PS X (.If c a b pos) (VE tc t u):=by
 intro YZ s σ H D I h;refine wpAny_If (iq (hc YZ s σ H _ I h) λd s1 hz=>?_);obtain H1|I1|q1:=hz;cases d with
 | true=>show ha YZ s1 σ H1 D I1 q1
 | false=>show hb YZ s1 σ H1 D I1 q1
end
abbrev TG:=V->St->Hp->(St->Hp->Prop)->Prop
abbrev PN:=List V->St->Hp->(St->Hp->Prop)->Prop
def PG (X:Cx) (target:Expr) (t:TG):Prop :=
 ∀(YZ:List (Addr×Obj)) (s:Xv) (σ:St) (H:Hp) (v:V) (u:Value) (Q:St->Hp->Prop),Inv X YZ σ H s->RelV v u->t v σ H Q →
  XF (model X.21 X.w) X.A (assign target X.16 u) (λ_ s'=>∃σ' H',Inv X YZ σ' H' s'/\Q σ' H') X.xe s
def Ww (X:Cx) (ts:List Expr) (t:PN):Prop :=
 ∀(YZ:List (Addr×Obj)) (s:Xv) (σ:St) (H:Hp) (vs:List V) (us:List Value) (Q:St->Hp->Prop),Inv X YZ σ H s->cZ vs us->t vs σ H Q →
  XF (model X.21 X.w) X.A (assignInOrder ((YL ts X.16).11 (·.2)) us) (λ_ s'=>∃σ' H',Inv X YZ σ' H' s'/\Q σ' H') X.xe s
abbrev J6:=V->V->V->Hp->(Hp->Prop)->Prop
def U9 (X:Cx) (t:J6):Prop :=
 ∀(YZ:List (Addr×Obj)) (s:Xv) (σ:St) (H:Hp) (o i v:V) (ov iv u:Value) (Q:Hp->Prop),Inv X YZ σ H s->RelV o ov->RelV i iv->RelV v u->t o i v H Q →
  XF (model X.21 X.w) X.A (setItem ov iv u) (λ_ s'=>∃H',Inv X YZ σ H' s'/\Q H') X.xe s
abbrev Wu:=V->V->Hp->VK->Prop
def PIp (X:Cx) (op:Operator) (t:Wu):Prop :=
 ∀(YZ:List (Addr×Obj)) (s:Xv) (σ:St) (H:Hp) (x y:V) (v u:Value) (Q:VK),Inv X YZ σ H s->RelV x v->RelV y u->t x y H Q →
  XF (model X.21 X.w) X.A (inplaceOp op v u) (EP X YZ σ Q) X.xe s
section
variable {X:Cx} {pos:Pos}
def C3 (i:Nat):TG:=λv σ H Q=>Q (σ.43 i (some v)) H
theorem Q4 {i:Nat} {x:Str} (hN:X.N.33) (hi:X.N[i]?=some x:=by show rfl) (hx:Loc X.env.scope x:=by show Or.inl rfl) (hf:X.fn x=true\/X.env.scope.names.13 x=some .local:=by first | show .inl rfl | show .inr rfl | assumption):PG X (.Name x pos) (C3 i):=by
 intro YZ s σ H v u Q I r h;show wpAny_assign_Name (wb I hN hi hx r (λs' I'=>#[_,H,I',h]) hf)
def Wp:PN:=λvs σ H Q=>vs=[]/\Q σ H
def Tf (t:TG) (u:PN):PN:=λvs σ H Q=>∃v r,vs=v :: r/\t v σ H λσ' H'=>u r σ' H' Q
theorem mC:Ww X [] Wp:=by
 intro YZ s σ H vs us Q I r h;obtain e|h:=h;subst e;cases r;show assignInOrder_nil #[σ,H,I,h]
theorem dn {e:Expr} {es:List Expr} {t:TG} {u:PN} (h1:PG X e t) (h2:Ww X es u)
  (hs:(YL (e :: es) X.16).11 (·.2)=assign e X.16 :: (YL es X.16).11 (·.2):=by rfl):Ww X (e :: es) (Tf t u):=by
 intro YZ s σ H vs us Q I r h;obtain v|vr|e1|h:=h;subst e1;cases r with
 | cons r rr =>
  rw[hs];refine assignInOrder_cons (iq (h1 YZ s σ H _ _ _ I r h) λ_ s1 hz=>?_);obtain σ1|H1|I1|q1:=hz;show h2 YZ s1 σ1 H1 _ _ Q I1 rr q1
def UW (K:Y2) (n:Nat) (t:PN):TG:=λv σ H Q=>∃a xs,v=.ref a/\nD K H a xs/\xs.9=n/\t xs σ H Q
theorem yt {es:List Expr} {k:Nat} {t:PN} {n:Nat} (hc:X.calm=true) (h:Ww X es t)
  (hn:(YL es X.16).9=n:=by rfl) (hst:(YL es X.16).findIdx? (·.1)=none:=by rfl):PG X (.Tuple es k pos) (UW X.K n t):=by
 intro YZ s σ H v u Q I r hw;obtain a|xs|e1|hq|hl|hw:=hw;subst e1;cases r;obtain Y5|rv|ht|hz:=I.44 hq;refine assign_Tuple_tuple (I.ok.hd hc) ht (by simp [hn,<- hl,rv.9]) hst λh' hx=>?_
 have I1:Inv X YZ σ H { s with heap:=h' }:=I.59 (t':=s.26) λb o e=>hx b o (c5 (XB e)) e
 show h YZ _ σ H xs _ Q I1 (by simpa using rv) hw
def Wo (to ti:TE) (t:J6):TG:=λv σ H Q=>to σ H λo H1=>ti σ H1 λi H2=>t o i v H2 λH3=>Q σ H3
theorem i8 {o i : Expr} {to ti : TE} {t : J6} (ho : PE X o to) (hi : PE X i ti) (hs : U9 X t)
    (ha : ∀ v, assign (.Subscript o i pos) X.16 v = (do
      let ov <- holding [v] (eval o X.16)
      let iv <- holding [v, ov] (eval i X.16)
      standAt pos
      holding [v, ov, iv] (setItem ov iv v)
      release [v, ov, iv] []) := by intro _; rfl) : PG X (.Subscript o i pos) (Wo to ti t) := by
  intro YZ s σ H v u Q I r h;rw [ha];refine T1 (YA (iq (ho YZ s σ H _ I h) λov s1 hz => ?_));obtain x|H1|I1|r1|q1:= hz;refine T1 (YA (iq (hi YZ s1 σ H1 _ I1 q1) λiv s2 hz => ?_));obtain y|H2|I2|r2|q2:= hz;refine T1 (wpAny_standAt (T1 (YA (iq (hs YZ s2 σ H2 x y v ov iv u _ I2 r1 r2 r q2) λ_ s3 hz => ?_))));obtain H3|I3|q3:= hz;show wpAny_release #[σ, H3, I3, q3]
def Nu (te:TE) (g:TG):TS:=λD σ H=>te σ H λx H1=>g x σ H1 D.nx
theorem gM {tg e:Expr} {te:TE} {g:TG} (he:PE X e te) (hg:PG X tg g) (hs:swapsWithSole [tg] e pos.line X.16=pure false:=by rfl) (hw:swappedStores [tg] e X.16=pure none:=by rfl)
  (h1:(YL [tg] X.16).11 (·.2)=[assign tg X.16]:=by rfl):PS X (.Assign [tg] e pos) (Nu te g):=by
 intro YZ s σ H D I h;refine wpAny_Assign_stores (iq (he YZ s σ H _ I h) λv s1 hz=>?_) hs hw;obtain x|H1|I1|r1|q1:=hz;rw[h1];show iq (hg YZ s1 σ H1 x v _ I1 r1 q1) λ_ s2 q=>q
theorem Uu {i:Nat} {x:Str} {e:Expr} {te:TE} {pos':Pos} (hN:X.N.33) (hi:X.N[i]?=some x) (hx:Loc X.env.scope x) (he:PE X e te) (hs:swapsWith e (some (.Name x pos')) pos.line X.16=pure false:=by rfl) (hf:X.fn x=true\/X.env.scope.names.13 x=some .local:=by first | show .inl rfl | show .inr rfl | assumption) :
  PS X (.Assign [.Name x pos'] e pos) (Nu te (C3 i)):=by
 intro YZ s σ H D I h;refine wpAny_Assign_Name (iq (he YZ s σ H _ I h) λv s1 hz=>?_) hs;obtain y|H1|I1|r1|q1:=hz;show wb I1 hN hi hx r1 (λs2 I2=>#[_,H1,I2,q1]) hf
def VA (i j:Nat) (ta:TA):TS:=λD σ H=>ta σ H λvs H1=>∃v w,vs=[v,w]/\D.nx ((σ.43 i (some v)).43 j (some w)) H1
theorem Og {i j:Nat} {x y:Str} {a b:Expr} {ta:TA} {px py pt:Pos} {kt k2 pt2} (hc:X.calm=true) (hN:X.N.33) (hi:X.N[i]?=some x) (hj:X.N[j]?=some y) (hij:i≠j)
  (hx:X.env.scope.names.13 x=some .local) (hy:X.env.scope.names.13 y=some .local) (ha:PA X [a,b] ta)
  (hw:swappedStores [.Tuple [.Name x px,.Name y py] kt pt] (.Tuple [a,b] k2 pt2) X.16=pure (some [x,y]))
  (hs:swapsWithSole [.Tuple [.Name x px,.Name y py] kt pt] (.Tuple [a,b] k2 pt2) pos.line X.16=pure false:=by rfl) :
  PS X (.Assign [.Tuple [.Name x px,.Name y py] kt pt] (.Tuple [a,b] k2 pt2) pos) (VA i j ta):=by
 intro YZ s σ H D I h;rw[exec_Assign_arm];refine T1 (wpAny_standAt ?_);rw[hs];refine T1 (XH ?_);rw[if_neg ()];refine T1 (Tuple_ (iq (ha _ YZ s σ H _ I h) λus s1 hz=>?_));obtain vs|H1|I1|r1|q1:=hz;obtain v|w|e1|q1:=q1;subst e1
 obtain ⟨u1,u2,rfl,rv,Zz⟩:∃u1 u2,us=[u1,u2]/\RelV v u1/\RelV w u2:=by
  cases r1 with
  | cons p q =>
   cases q with
   | cons p' q' =>
    cases q';show #[_,_,rfl,p,p']
 refine wpAny_newObj_type ?_ (by change 2<=XG;decide);have I2:Inv X YZ σ H1 { s1 with heap:=s1.heap.25 { cls:=.type "tuple",data:=.seq [u1,u2].5 } }:=I1.59 (t':=s1.26) λb o e=>Xx _ e
 rw[hw];refine T1 (XH ?_);change XF (model X.21 X.w) X.A (do rule "assign.swapped-stores";let items <- unpackItems (.ref s1.6) 2 none;assignInOrder [λv=>bindName X.16 y v,λv=>bindName X.16 x v] items.reverse;pure Flow.next) _ _ _
 refine T1 (wpAny_rule (T1 (unpackItems_tuple (items:=[u1,u2].12) (I.ok.hd hc) (IsTup.new s1.29 _) λh' Y6=>?_)));have I3:=I2.59 (h':=h') (t':=s1.26) λb o e=>Y6 b o (c5 (XB e)) e
 change XF _ _ (assignInOrder [λv=>bindName X.16 y v,λv=>bindName X.16 x v] [u2,u1] >>= λ_=>pure Flow.next) _ _ _
 refine T1 (assignInOrder_cons (wpAny_bindName (wb I3 hN hj (.inl hy) Zz (λs2 I4=>?_) (.inr hy))));refine assignInOrder_cons (wpAny_bindName (wb I4 hN hi (.inl hx) rv (λs3 I5=>assignInOrder_nil (XH ?_)) (.inr hx)));rw[List.set_comm _ _ (Yg hij)] at I5;show #[_,H1,I5,q1]
def SO (to ti te:TE) (_V:V->V->Hp->VK->Prop) (tip:Wu) (_U:J6):TS:=λD σ H=>to σ H λo H1=>ti σ H1 λi H2=>_V o i H2 λx H3=>te σ H3 λy H4=>tip x y H4 λz H5=>_U o i z H5 λH6=>D.nx σ H6
def Wy (X:Cx) (t:V->V->Hp->VK->Prop):Prop :=
 ∀(YZ:List (Addr×Obj)) (s:Xv) (σ:St) (H:Hp) (o i:V) (ov iv:Value) (Q:VK),Inv X YZ σ H s->RelV o ov->RelV i iv->t o i H Q →
  XF (model X.21 X.w) X.A (getItem ov iv) (EP X YZ σ Q) X.xe s
theorem Q0 {o i e:Expr} {to ti te:TE} {_V:V->V->Hp->VK->Prop} {tip:Wu} {_U:J6} {op:Operator} {ZV:Pos} (ho:PE X o to) (hi:PE X i ti) (hg:Wy X _V) (he:PE X e te) (hp:PIp X op tip) (hs:U9 X _U)
  (ha:∀ov iv new,augStore i ov iv new=(do holding [new,ov,iv] (setItem ov iv new);release [new,ov,iv] [];pure .next):=by intros;rfl):PS X (.AugAssign (.Subscript o i ZV) op e pos) (SO to ti te _V tip _U):=by
 intro YZ s σ H D I h;refine wpAny_AugAssign_SubscriptAny (iq (ho YZ s σ H _ I h) λov s1 hz=>?_) ha;obtain x1|H1|I1|r1|q1:=hz;refine iq (hi YZ s1 σ H1 _ I1 q1) λiv s2 hz=>?_
 obtain x2|H2|I2|r2|q2:=hz;refine iq (hg YZ s2 σ H2 x1 x2 ov iv _ I2 r1 r2 q2) λold s3 hz=>?_
 obtain x3|H3|I3|r3|q3:=hz;refine iq (he YZ s3 σ H3 _ I3 q3) λv s4 hz=>?_
 obtain x4|H4|I4|r4|q4:=hz;refine iq (hp YZ s4 σ H4 x3 x4 old v _ I4 r3 r4 q4) λnew s5 hz=>?_
 obtain x5|H5|I5|r5|q5:=hz;show iq (hs YZ s5 σ H5 x1 x2 x5 ov iv new _ I5 r1 r2 r5 q5) λ_ s6 #[H6,I6,q6]=>#[σ,H6,I6,q6]
def ipI (f:Int->Int->Int):Wu:=λx y H Q=>∃i j,x=.int i/\y=.int j/\Q (.int (f i j)) H
theorem UP:PIp X .Add (ipI λi j=>i+j):=by
 intro YZ s σ H x y v u Q I r1 r2 h;obtain i|j|e1|e2|q:=h;subst e1;subst e2;obtain t|rfl:=r1;obtain t'|rfl:=r2;show iadd_int #[.int _,H,I.tok _,#[_,rfl],q]
end
section
variable {X:Cx} {pos:Pos}
def Nr (c:TT) (tb:TS):TS:=λD σ H=>∃W:Nat->St->Hp->Prop,(∃m,W m σ H)/\∀m σ H,W m σ H →
 c σ H λb H1=>if b=true then ∃N:St->Hp->Prop,(∀σ' H',N σ' H'->∃m',m' < m/\W m' σ' H')/\tb { D with nx:=N,ct:=N,bk:=D.nx } σ H1 else D.nx σ H1
theorem Az (hp:PassesOwn (model X.21 X.w) X.A X.16 X.xe) (hc:PT X c tc) (hb:IB X body tb):PS X (.While c body [] pos) (Nr tc tb):=by
 intro YZ s σ H D I h;obtain W|⟨m0,w0⟩|turn:=h;refine wpAny_While (codeAny_whileLoop (λn s'=>∃σ' H',Inv X YZ σ' H' s'/\W n σ' H') ?_ m0 #[σ,H,I,w0]);rintro n s1 ⟨σ1,H1,I1,w1⟩;refine Yn hp (iq (hc YZ s1 σ1 H1 _ I1 (turn n σ1 H1 w1)) λb s2 hz=>?_);obtain H2|I2|q2:=hz;cases b with
 | true =>
  obtain N|hN|q2:=q2;rw[if_pos rfl];refine Yn hp (iq (hb YZ s2 σ1 H2 _ I2 q2) λf s3 q3=>?_);cases f with
  | next =>
   obtain σ3|H3|I3|n3:=q3;obtain m'|hm|w3:=hN σ3 H3 n3;show #[m',hm,σ3,H3,I3,w3]
  | cont =>
   obtain σ3|H3|I3|n3:=q3;obtain m'|hm|w3:=hN σ3 H3 n3;show #[m',hm,σ3,H3,I3,w3]
  | brk=>show q3
  | ret v=>show q3
 | false =>
  rw[if_neg bA];show wpAny_execs_nil #[σ1,H2,I2,q2]
end
structure It where
 go:Nat->Hp->Prop
 F!:Nat->Hp->V->Hp->Prop
 stop:Nat->Hp->Prop
def my (X:Cx) (YZ:List (Addr×Obj)) (H:Hp) (b:Addr):Prop :=
 H b=none/\b≠X.env.41/\b∉X.fs/\(b∈X.ex\/X.s₀.6<=b)/\(∀x c,X.env.cells.13 x=some c->c≠b)/\∀p∈X.pn++YZ,p.1≠b
theorem Inv._r {σ:St} {b:Addr} (I:Inv X YZ σ H s) (hb:s.6<=b) (hn:H' b=none):my X YZ H' b:=by
 refine #[hn,LC (bQ I.lt hb),I.afn hb,.inr (ai I.sz hb),λx c e z=>?_,λp hp z=>?_]
 ·obtain v|q:=I.cell x c e;show absurd (bQ q.lt (by rw[z];show hb)) (dQ _)
 ·show absurd (bQ (XB (I.pin p hp).1) (by rw[z];show hb)) (dQ _)
structure Turn (P:Yl) (w:Yq) (K:Y2) (tg:Expr) (J:It) (fp:List Addr) (it:Addr) (tn:Nat->Heap->Prop):Prop where
 mem:it∈fp
 obj:∀i h,tn i h->∀b∈fp,∃o,h.14 b=some o/\∀v,o.data≠.cell v
 keep:∀i h h',tn i h->(∀b∈fp,∀o,h.14 b=some o->h'.14 b=some o)->tn i h'
 item:∀(X:Cx),X.21=P->X.w=w->X.K=K->X.calm=true->∀(i:Nat) (YZ:List (Addr×Obj)) (s:Xv) (σ:St) (H:Hp) (E:Value->Xv->Prop),Inv X YZ σ H s->(∀b∈fp,my X YZ H b)->tn i s.8->J.go i H →
  XF (model P w) X.A (pyNext (.ref it)) (λr s1=>∃u,r=some u /\
   XF (model P w) X.A (letOwnedTupleGo tg (.ref it) u) (λ_ s2=>∃x H',Inv X YZ σ H' s2/\RelV x u/\J.F! i H x H'/\tn (i+1) s2.8/\∀b∈fp,H' b=none) E s1) E s
 done:∀(X:Cx),X.21=P->X.w=w->X.K=K->X.calm=true->∀(i:Nat) (YZ:List (Addr×Obj)) (s:Xv) (σ:St) (H:Hp) (E:Value->Xv->Prop),Inv X YZ σ H s->(∀b∈fp,my X YZ H b)->tn i s.8->J.stop i H →
  XF (model P w) X.A (pyNext (.ref it)) (λr s1=>r=none/\Inv X YZ σ H s1) E s
 self:∀(A:Yd) (i:Nat) (s:Xv) (Q:Value->Xv->Prop) (E:Value->Xv->Prop),tn i s.8->Q (.ref it) s->XF (model P w) A (pyIter (.ref it)) Q E s
abbrev TI:=St->Hp->(It->Hp->Prop)->Prop
def PIE (X:Cx) (YZ:List (Addr×Obj)) (σ:St) (tg:Expr) (R:It->Hp->Prop) (itv:Value) (s2:Xv):Prop :=
 ∃(it:Addr) (fp:List Addr) (tn:Nat->Heap->Prop) (J:It) (H':Hp),itv=.ref it/\Inv X YZ σ H' s2/\Turn X.21 X.w X.K tg J fp it tn/\tn 0 s2.8/\(∀b∈fp,my X YZ H' b)/\R J H'
def PI (X:Cx) (tg iter:Expr) (wi:TI):Prop :=
 ∀(YZ:List (Addr×Obj)) (s:Xv) (σ:St) (H:Hp) (R:It->Hp->Prop),Inv X YZ σ H s->wi σ H R →
  XF (model X.21 X.w) X.A (eval iter X.16) (λv s1=>XF (model X.21 X.w) X.A (pyIter v) (PIE X YZ σ tg R) X.xe s1) X.xe s
theorem O0 (ho:s.heap.14 it=some o) (hc:o.cls=.type n) (hd:o.data=.fields vs)
  (hn:["enumerate","zip","dict_itemiterator","dict_reverseitemiterator","odict_iterator","itertools.zip_longest","itertools.pairwise"].contains n=false) (hQ:Q .unit s):XF M A (letOwnedTupleGo tg (.ref it) u) Q E s:=by
 unfold letOwnedTupleGo
 cases tg <;> first
  | show XH hQ
  | (cases u <;> first | show XH hQ | (refine T1 (wpAny_load ho ?_);rw[hc,hd];change XF M A (if (["enumerate","zip","dict_itemiterator","dict_reverseitemiterator","odict_iterator","itertools.zip_longest","itertools.pairwise"].contains n && vs[0]? == some (rawInt _))=true then _ else _) Q E s;rw[if_neg (by intro h;rw[hn,Bool.false_and] at h;cases h)];show XH hQ))
def Ss (K:Y2) (a:Addr):It :=
 #[λi H=>∃xs x,bY K H a xs/\xs[i]?=some x,λi H x H'=>H'=H/\∀xs,bY K H a xs->xs[i]?=some x,λi H=>∃xs,bY K H a xs/\xs.9<=i]
def Vo (K:Y2) (a:Addr):It :=
 #[λi H=>∃xs x,nD K H a xs/\xs[i]?=some x,λi H x H'=>H'=H/\∀xs,nD K H a xs->xs[i]?=some x,λi H=>∃xs,nD K H a xs/\xs.9<=i]
def IC (lo:Int) (n:Nat):It:=#[λi _=>i < n,λi H x H'=>H'=H/\x=.int (lo+i),λi _=>n<=i]
theorem LM {P:Yl} {w:Yq} {K:Y2} {tg:Expr} (a it:Addr):Turn P w K tg (Ss K a) [it] it (λi h=>h.24 it a i) where
 mem:=by simp
 obj:=λi h st b hb=>by
  have e:b=it:=by simpa using hb
  subst e;obtain o|e|c|d:=st;show #[o,e,λv z=>by rw[d] at z;cases z]
 keep:=λi h h' st k=>st.at λo e=>k it (by simp) o e
 item:=by
  intro X hP hw hK hc i YZ s σ H E I hf st hg;subst hP hw hK;obtain xs|x|hq|hx:=hg;obtain Y5|rv|p|hz:=I.31 hq;obtain u|hu|ru:=rv.get hx;obtain f0|f1|f2|f3|f4|f5:=hf it (by simp);refine wpAny_pyNext_list_item st p.20 (x:=u) (by simpa using hu) λh' st' sb=>?_
  have I1:Inv X YZ σ H { s with heap:=h' }:=I.turned (t':=s.26) (λb o hb e=>(sb.2 b hb).4 e) f0 f1 f3 f4 f5;obtain o|e|c|d:=id st';show #[u,rfl,O0 (s:={ s with heap:=h' }) e c d () ⟨x,H,I1,ru,⟨rfl,λys hy=>by rw[I.Zk hy hq];show hx⟩,st',λb hb=>(hf b hb).1⟩]
 done:=by
  intro X hP hw hK hc i YZ s σ H E I hf st hg;subst hP hw hK;obtain xs|hq|hx:=hg;obtain Y5|rv|p|hz:=I.31 hq;obtain f0|f1|f2|f3|f4|f5:=hf it (by simp);have hl:=rv.9;show wpAny_pyNext_list_end (I.ok.hd hc) st p.20 (by simp;lia) λh' eb=>#[rfl,I.turned (t':=s.26) (λb o hb e=>eb b o hb e) f0 f1 f3 f4 f5]
 self:=λ_ _ _ _ _ st h=>wpAny_pyIter_listiter st h
theorem IM {P:Yl} {w:Yq} {K:Y2} {tg:Expr} (a it:Addr):Turn P w K tg (Vo K a) [it] it (λi h=>h.IsTupleIter it a i) where
 mem:=by simp
 obj:=λi h st b hb=>by
  have e:b=it:=by simpa using hb
  subst e;obtain o|e|c|d:=st;show #[o,e,λv z=>by rw[d] at z;cases z]
 keep:=λi h h' st k=>st.at λo e=>k it (by simp) o e
 item:=by
  intro X hP hw hK hc i YZ s σ H E I hf st hg;subst hP hw hK;obtain xs|x|hq|hx:=hg;obtain Y5|rv|p|hz:=I.44 hq;obtain u|hu|ru:=rv.get hx;obtain f0|f1|f2|f3|f4|f5:=hf it (by simp);refine wpAny_pyNext_tuple_item st (show s.heap.48 a Y5.12 from p) (x:=u) (by simpa using hu) λh' st' sb=>?_
  have I1:Inv X YZ σ H { s with heap:=h' }:=I.turned (t':=s.26) (λb o hb e=>(sb.2 b hb).4 e) f0 f1 f3 f4 f5;obtain o|e|c|d:=id st';show #[u,rfl,O0 (s:={ s with heap:=h' }) e c d () ⟨x,H,I1,ru,⟨rfl,λys hy=>by rw[I.Zi hy hq];show hx⟩,st',λb hb=>(hf b hb).1⟩]
 done:=by
  intro X hP hw hK hc i YZ s σ H E I hf st hg;subst hP hw hK;obtain xs|hq|hx:=hg;obtain Y5|rv|p|hz:=I.44 hq;obtain f0|f1|f2|f3|f4|f5:=hf it (by simp);have hl:=rv.9;show wpAny_pyNext_tuple_end (I.ok.hd hc) st (show s.heap.48 a Y5.12 from p) (by simp;lia) λh' eb=>#[rfl,I.turned (t':=s.26) (λb o hb e=>eb b o hb e) f0 f1 f3 f4 f5]
 self:=λ_ _ _ _ _ st h=>wpAny_pyIter_tupleiter st h
theorem IP {P:Yl} {w:Yq} {K:Y2} {tg:Expr} (it:Addr) (lo:Int) (n:Nat):Turn P w K tg (IC lo n) [it] it (λi h=>IsRangeIter h it (lo+(i:Nat)*1) ((n:Int) - (i:Nat)) 1) where
 mem:=by simp
 obj:=λi h st b hb=>by
  have e:b=it:=by simpa using hb
  subst e
  show #[_,st,λv z=>by
   have z':Data.fields _=Data.cell v:=z;cases z']
 keep:=λi h h' st k=>k it (by simp) _ st
 item:=by
  intro X hP hw hK hc i YZ s σ H E I hf st hg;subst hP hw hK;obtain f0|f1|f2|f3|f4|f5:=hf it (by simp);have W:=Walks.range (prog:=X.21) (w:=X.w) (I.ok.hd hc) it lo 1 n;refine W.item i s _ _ hg st λv h' tk hv st' kk=>?_
  obtain t|rfl:=hv;have I1:Inv X YZ σ H { s with heap:=h',toks:=tk }:=I.turned (λb o hb e=>kk b o (by simpa using hb) e) f0 f1 f3 f4 f5;refine #[_,rfl,O0 (s:={ s with heap:=h',toks:=tk }) (n:="range_iterator") st' rfl rfl () ⟨.int (lo+i),H,I1,⟨t,?_⟩,⟨rfl,rfl⟩,st',λb hb=>(hf b hb).1⟩];rw[Int.mul_one]
 done:=by
  intro X hP hw hK hc i YZ s σ H E I hf st hg;subst hP hw hK;obtain f0|f1|f2|f3|f4|f5:=hf it (by simp);show wpAny_pyNext_range_end (I.ok.hd hc) st (by have:n<=i:=hg;lia) λh' eb=>#[rfl,I.turned (t':=s.26) (λb o hb e=>eb b o hb e) f0 f1 f3 f4 f5]
 self:=λ_ _ _ _ _ st h=>wpAny_pyIter_rangeiter st h
section
variable {X:Cx} {tg:Expr}
def OW (K:Y2) (tl:TE):TI:=λσ H R=>tl σ H λx H1=>∃a,x=.ref a/\(∃xs,bY K H1 a xs)/\R (Ss K a) H1
def Wm (K:Y2) (tl:TE):TI:=λσ H R=>tl σ H λx H1=>∃a,x=.ref a/\(∃xs,nD K H1 a xs)/\R (Vo K a) H1
theorem cA (hl:PE X l tl):PI X tg l (OW X.K tl):=by
 intro YZ s σ H R I h;refine iq (hl YZ s σ H _ I h) λv s1 hz=>?_
 obtain x|H1|I1|r1|q1:=hz;obtain a|e|⟨xs,hq⟩|q:=q1;subst e;cases r1;obtain Y5|rv|p|hz:=I1.31 hq;refine wpAny_pyIter_list p.20 ?_;refine #[s1.6,[s1.6],_,_,H1,rfl,I1.59 (t':=s1.26) λb o e=>Xx _ e,LM a _,#[_,XO _ rfl,rfl,rfl],λb hb=>?_,q];have e:b=s1.6:=by simpa using hb
 subst e;show I1._r (aj _) (I1.Zb.42 (aj _))
theorem Uw (hl:PE X l tl):PI X tg l (Wm X.K tl):=by
 intro YZ s σ H R I h;refine iq (hl YZ s σ H _ I h) λv s1 hz=>?_
 obtain x|H1|I1|r1|q1:=hz;obtain a|e|⟨xs,hq⟩|q:=q1;subst e;cases r1;obtain Y5|rv|p|hz:=I1.44 hq;refine wpAny_pyIter_tuple (show s1.heap.48 a Y5.12 from p) ?_;refine #[s1.6,[s1.6],_,_,H1,rfl,I1.59 (t':=s1.26) λb o e=>Xx _ e,IM a _,#[_,XO _ rfl,rfl,rfl],λb hb=>?_,q];have e:b=s1.6:=by simpa using hb
 subst e;show I1._r (aj _) (I1.Zb.42 (aj _))
theorem Gy {σ:St} {lo hi:Int} (I:Inv X YZ σ H s) (h1:-(2^62)<=lo) (h2:lo < 2^62) (h3:-(2^62)<=hi) (h4:hi < 2^62)
  (q:R (IC lo (hi - lo).27) H):XF (model X.21 X.w) X.A (pyIter (.ref s.6)) (PIE X YZ σ tg R) E { s with heap:=s.heap.25 { cls:=.type "range",data:=.fields [.int lo t,.int hi u,.int 1 v].12 },toks:=tk }:=by
 refine wpAny_pyIter_range (IsRange.new ..) (small_one h1 h2 h3 h4) ?_;have I1:Inv X YZ σ H { s with heap:=s.heap.25 { cls:=.type "range",data:=.fields [.int lo t,.int hi u,.int 1 v].12 },toks:=tk }:=I.59 λb o e=>Xx _ e
 refine #[(s.heap.25 { cls:=.type "range",data:=.fields [.int lo t,.int hi u,.int 1 v].12 }).objs.size,[(s.heap.25 { cls:=.type "range",data:=.fields [.int lo t,.int hi u,.int 1 v].12 }).objs.size],_,_,H,rfl,
  I1.59 (t':=tk) λb o e=>Xx _ e,IP _ lo (hi - lo).27,?_,λb hb=>?_,q]
 ·have e1:lo+((0:Nat):Int)*1=lo:=by simp
  have e2:(((hi - lo).27:Nat):Int) - ((0:Nat):Int)=Yx.Range.rangeSize lo hi 1:=by rw[rangeSize_one];split <;> lia
  change IsRangeIter _ _ (lo+((0:Nat):Int)*1) ((((hi - lo).27:Nat):Int) - ((0:Nat):Int)) 1
  rw[e1,e2];show XO _ rfl
 ·have e:b=(s.heap.25 { cls:=.type "range",data:=.fields [.int lo t,.int hi u,.int 1 v].12 }).objs.size:=by simpa using hb
  subst e;show I1._r (aj _) (I1.Zb.42 (aj _))
def Tc (ta:TA):TI:=λσ H R=>ta σ H λvs H1=>∃j:Int,vs=[.int j]/\-(2^62)<=j/\j < 2^62/\R (IC 0 j.27) H1
def Tb (ta:TA):TI:=λσ H R=>ta σ H λvs H1=>∃i j:Int,vs=[.int i,.int j]/\(-(2^62)<=i/\i < 2^62/\-(2^62)<=j/\j < 2^62)/\R (IC i (j - i).27) H1
theorem cz {a:Expr} {ta:TA} {p pos:Pos} (hg:Gl X "range") (hm:X.mg "range"=none) (ha:PA X [a] ta) (hs:Xy [a] X.16=[(false,eval a X.16)]:=by rfl):PI X tg (.Call (.Name "range" p) [a] [] pos) (Tc ta):=by
 intro YZ s σ H R I h;refine Call_ (kY I hg hm boot_range (XJ (iq (ha pos YZ s σ H _ I h) λus s1 hz=>?_) hs rfl));obtain vs|H1|I1|r1|q1:=hz;obtain j|e|q1|q2|q:=q1;subst e;cases r1 with
 | cons r rr =>
  cases rr;obtain t|rfl:=r;show call_range_1 (Gy I1 () () q1 q2 (by simpa using q))
theorem L7 {a b:Expr} {ta:TA} {p pos:Pos} (hg:Gl X "range") (hm:X.mg "range"=none) (ha:PA X [a,b] ta) (hs:Xy [a,b] X.16=[(false,eval a X.16),(false,eval b X.16)]:=by rfl) (_Y:Xy [b] X.16=[(false,eval b X.16)]:=by rfl) :
  PI X tg (.Call (.Name "range" p) [a,b] [] pos) (Tb ta):=by
 intro YZ s σ H R I h;refine Call_ (kY I hg hm boot_range (XJ (iq (ha pos YZ s σ H _ I h) λus s1 hz=>?_) (by rw[hs,_Y]) (by rw[_Y];rfl)));obtain vs|H1|I1|r1|q1:=hz;obtain i|j|e|⟨q1,q2,q3,q4⟩|q:=q1;subst e;cases r1 with
 | cons r rr =>
  cases rr with
  | cons r' rr =>
   cases rr;obtain t|rfl:=r;obtain t'|rfl:=r';show call_range_2 (Gy I1 q1 q2 q3 q4 q)
def VF (wi:TI) (g:TG) (tb:TS):TS:=λD σ H=>wi σ H λJ H1=>∃W:Nat->Nat->St->Hp->Prop,(∃m,W 0 m σ H1)/\∀i m σ H,W i m σ H →
 (J.stop i H/\D.nx σ H)\/(J.go i H/\∃N:St->Hp->Prop,(∀σ' H',N σ' H'->∃m',m' < m/\W (i+1) m' σ' H')/\∀x H',J.F! i H x H'->g x σ H' λσ2 H2=>tb { D with nx:=N,ct:=N,bk:=D.nx } σ2 H2)
def AB (fp:List Addr) (h:Heap):List (Addr×Obj):=fp.filterMap λb=>(h.14 b).11 λo=>(b,o)
theorem rY (hb:b∈fp) (e:h.14 b=some o):(b,o)∈AB fp h:=List.mem_filterMap.mpr #[b,hb,by rw[e];rfl]
theorem Mb (hp:p∈AB fp h):p.1∈fp/\h.14 p.1=some p.2:=by
 obtain b|hb|e:=List.mem_filterMap.mp hp;cases q:h.14 b with
 | none=>rw[q] at e;cases e
 | some o =>
  rw[q] at e;have e':(b,o)=p:=cm e;subst e';show #[hb,q]
theorem Inv.pinned {σ:St} (I:Inv X YZ σ H s) (hf:∀b∈fp,my X YZ H b) (ho:∀b∈fp,∃o,s.heap.14 b=some o/\∀v,o.data≠.cell v):Inv X (YZ++AB fp s.8) σ H s :=
 I.ZU λp hp=>(aA.mp hp).elim (λz=>I.pin p (aX _ z)) λz=>by
  obtain hb|e:=Mb z;obtain f0|f1|f2|_:=hf p.1 hb;obtain o|e'|d:=ho p.1 hb;rw[e] at e';cases e';show #[e,f0,f1,f2,d]
theorem Inv.ZD {σ:St} (I:Inv X (YZ++pl) σ H s):Inv X YZ σ H s:=I.ZU λp hp=>I.pin p (aX _ (cT _ hp))
theorem eE {iter:Expr} {body:List Stmt} {wi:TI} {g:TG} {tb:TS} {pos:Pos} (hp:PassesOwn (model X.21 X.w) X.A X.16 X.xe) (hc:X.calm=true) (hi:PI X tg iter wi) (hg:PG X tg g) (hb:IB X body tb)
  (hs:∀x,YR iter X.16 x=pure x:=by intro _;rfl):PS X (.For tg iter body [] pos) (VF wi g tb):=by
 intro YZ s σ H D I h;refine wpAny_For (iq (hi YZ s σ H _ I h) λv s1 h1=>iq h1 λitv s2 h2=>?_) hs;obtain it|fp|tn|J|H2|e|I2|T|st2|f2|W|⟨m0,w0⟩|turn:=h2;subst e;have aaH:∀{H':Hp},(∀b∈fp,H' b=none)->∀b∈fp,my X YZ H' b:=λhn b hb=>#[hn b hb,(f2 b hb).2]
 refine codeAny_forLoop_any (λn s'=>∃i σ' H',Inv X YZ σ' H' s'/\tn i s'.8/\(∀b∈fp,H' b=none)/\W i n σ' H') ?_ m0 #[0,σ,H2,I2,st2,λb hb=>(f2 b hb).1,w0];rintro n s3 ⟨i,σ3,H3,I3,st3,fr3,w3⟩;rcases turn i n σ3 H3 w3 with ⟨stop,qn⟩ | ⟨go,N,hN,step⟩
 ·refine Yn hp (iq (T.done X rfl rfl rfl hc i YZ s3 σ3 H3 X.xe I3 (aaH fr3) st3 stop) λr s4 #[hr,I4]=>?_);subst hr;show wpAny_execs_nil #[σ3,H3,I4,qn]
 ·refine Yn hp (iq (T.item X rfl rfl rfl hc i YZ s3 σ3 H3 X.xe I3 (aaH fr3) st3 go) λr s4 #[u,hr,h4]=>?_);subst hr;refine Yn hp (iq h4 λ_ s5 hz=>?_);obtain x|H5|I5|r5|y5|st5|fr5:=hz;have I5':=I5.pinned (aaH fr5) (T.obj _ _ st5);refine Yn hp (iq (hg _ s5 σ3 H5 x u _ I5' r5 (step x H5 y5)) λ_ s6 hz=>?_);obtain σ6|H6|I6|q6:=hz;refine Yn hp (iq (hb _ s6 σ6 H6 _ I6 q6) λf s7 q7=>?_)
  have again:∀{σ7:St} {H7:Hp},Inv X (YZ++AB fp s5.8) σ7 H7 s7->N σ7 H7->∃m,m < n/\∃i σ' H',Inv X YZ σ' H' s7/\tn i s7.8/\(∀b∈fp,H' b=none)/\W i m σ' H':=λ{σ7 H7} I7 n7=>by
   obtain m'|hm|w7:=hN σ7 H7 n7;refine #[m',hm,i+1,σ7,H7,I7.ZD,T.keep _ _ _ st5 λb hb o e=>(I7.pin (b,o) (aX _ (aX _ (rY hb e)))).1,λb hb=>?_,w7];obtain o|e|d:=T.obj _ _ st5 b hb;show (I7.pin (b,o) (aX _ (aX _ (rY hb e)))).2.1
  cases f with
  | next=>obtain σ7|H7|I7|n7:=q7;show again I7 n7
  | cont=>obtain σ7|H7|I7|n7:=q7;show again I7 n7
  | brk=>obtain σ7|H7|I7|q7:=q7;show #[σ7,H7,I7.ZD,q7]
  | ret v=>obtain x7|σ7|H7|I7|r7|q7:=q7;show #[x7,σ7,H7,I7.ZD,r7,q7]
end
theorem oR {K:Y2} {g:TG} {tb:TS} {D:Ends} (Pv:Nat->St->Hp->Prop) (h0:Pv 0 σ H) (hl:∀i σ H,i<=xs.9->Pv i σ H->bY K H a xs)
  (hs:∀i x σ H,xs[i]?=some x->Pv i σ H->g x σ H λσ2 H2=>tb { D with nx:=Pv (i+1),ct:=Pv (i+1),bk:=D.nx } σ2 H2) (hd:∀σ H,Pv xs.9 σ H->D.nx σ H) :
  ∃W:Nat->Nat->St->Hp->Prop,(∃m,W 0 m σ H)/\∀i m σ H,W i m σ H →
   ((Ss K a).stop i H/\D.nx σ H)\/((Ss K a).go i H/\∃N:St->Hp->Prop,(∀σ' H',N σ' H'->∃m',m' < m/\W (i+1) m' σ' H')/\∀x H',(Ss K a).F! i H x H'->g x σ H' λσ2 H2=>tb { D with nx:=N,ct:=N,bk:=D.nx } σ2 H2):=by
 refine #[λi m σ H=>m=xs.9 - i/\i<=xs.9/\Pv i σ H,#[xs.9,by simp,bD _,h0],?_];rintro i m σ H ⟨rfl,hi,p⟩;have q:=hl i σ H hi p;by_cases Zo:i < xs.9
 ·refine .inr #[#[xs,xs[i],q,by simp [Zo]],Pv (i+1),λσ' H' p'=>#[xs.9 - (i+1),(),rfl,Zo,p'],λx H' y=>?_];obtain e|y:=y;subst e;show hs i x σ _ (y xs q) p
 ·have e:i=xs.9:=()
  subst e;show .inl #[#[xs,q,aj _],hd σ H p]
theorem RH {K:Y2} {g:TG} {tb:TS} {D:Ends} (Pv:Nat->St->Hp->Prop) (h0:Pv 0 σ H) (hl:∀i σ H,i<=xs.9->Pv i σ H->nD K H a xs)
  (hs:∀i x σ H,xs[i]?=some x->Pv i σ H->g x σ H λσ2 H2=>tb { D with nx:=Pv (i+1),ct:=Pv (i+1),bk:=D.nx } σ2 H2) (hd:∀σ H,Pv xs.9 σ H->D.nx σ H) :
  ∃W:Nat->Nat->St->Hp->Prop,(∃m,W 0 m σ H)/\∀i m σ H,W i m σ H →
   ((Vo K a).stop i H/\D.nx σ H)\/((Vo K a).go i H/\∃N:St->Hp->Prop,(∀σ' H',N σ' H'->∃m',m' < m/\W (i+1) m' σ' H')/\∀x H',(Vo K a).F! i H x H'->g x σ H' λσ2 H2=>tb { D with nx:=N,ct:=N,bk:=D.nx } σ2 H2):=by
 refine #[λi m σ H=>m=xs.9 - i/\i<=xs.9/\Pv i σ H,#[xs.9,by simp,bD _,h0],?_];rintro i m σ H ⟨rfl,hi,p⟩;have q:=hl i σ H hi p;by_cases Zo:i < xs.9
 ·refine .inr #[#[xs,xs[i],q,by simp [Zo]],Pv (i+1),λσ' H' p'=>#[xs.9 - (i+1),(),rfl,Zo,p'],λx H' y=>?_];obtain e|y:=y;subst e;show hs i x σ _ (y xs q) p
 ·have e:i=xs.9:=()
  subst e;show .inl #[#[xs,q,aj _],hd σ H p]
theorem C4 {lo:Int} {g:TG} {tb:TS} {D:Ends} (Pv:Nat->St->Hp->Prop) (h0:Pv 0 σ H)
  (hs:∀i σ H,i < n->Pv i σ H->g (.int (lo+i)) σ H λσ2 H2=>tb { D with nx:=Pv (i+1),ct:=Pv (i+1),bk:=D.nx } σ2 H2) (hd:∀σ H,Pv n σ H->D.nx σ H) :
  ∃W:Nat->Nat->St->Hp->Prop,(∃m,W 0 m σ H)/\∀i m σ H,W i m σ H →
   ((IC lo n).stop i H/\D.nx σ H)\/((IC lo n).go i H/\∃N:St->Hp->Prop,(∀σ' H',N σ' H'->∃m',m' < m/\W (i+1) m' σ' H')/\∀x H',(IC lo n).F! i H x H'->g x σ H' λσ2 H2=>tb { D with nx:=N,ct:=N,bk:=D.nx } σ2 H2):=by
 refine #[λi m σ H=>m=n - i/\i<=n/\Pv i σ H,#[n,by simp,bD _,h0],?_];rintro i m σ H ⟨rfl,hi,p⟩;by_cases Zo:i < n
 ·refine .inr #[Zo,Pv (i+1),λσ' H' p'=>#[n - (i+1),(),rfl,Zo,p'],λx H' y=>?_];obtain e|y:=y;subst e y;show hs i σ _ Zo p
 ·have e:i=n:=()
  subst e;show .inl #[aj _,hd σ H p]
abbrev R2:=V->V->Hp->VK->Prop
def yX (X:Cx) (f:Value->Value->Sem Value) (r:R2):Prop :=
 ∀(YZ:List (Addr×Obj)) (s:Xv) (σ:St) (H:Hp) (x y:V) (v u:Value) (Q:VK),Inv X YZ σ H s->RelV x v->RelV y u->r x y H Q →
  XF (model X.21 X.w) X.A (f v u) (EP X YZ σ Q) X.xe s
def Xg (X:Cx) (f:Value->Sem Value) (r:V->Hp->VK->Prop):Prop :=
 ∀(YZ:List (Addr×Obj)) (s:Xv) (σ:St) (H:Hp) (x:V) (v:Value) (Q:VK),Inv X YZ σ H s->RelV x v->r x H Q →
  XF (model X.21 X.w) X.A (f v) (EP X YZ σ Q) X.xe s
def qJ (X:Cx) (f:Value) (r:List V->Hp->VK->Prop):Prop :=
 ∀(YZ:List (Addr×Obj)) (s:Xv) (σ:St) (H:Hp) (xs:List V) (us:List Value) (Q:VK),Inv X YZ σ H s->cZ xs us->r xs H Q →
  XF (model X.21 X.w) X.A (call f us) (EP X YZ σ Q) X.xe s
def VB (r:R2) (ta tb:TE):TE:=λσ H Q=>ta σ H λx H1=>tb σ H1 λy H2=>r x y H2 Q
def Vu (r:V->Hp->VK->Prop) (ta:TE):TE:=λσ H Q=>ta σ H λx H1=>r x H1 Q
def rI (C:Int->Int->Prop) (g:Int->Int->V):R2:=λx y H Q=>∃i j,x=.int i/\y=.int j/\C i j/\Q (g i j) H
def QX (g:Int->Int->V):R2:=λx y H Q=>∃i j,x=.int i/\y=.int j/\Q (g i j) H
def rU (g:Int->V):V->Hp->VK->Prop:=λx H Q=>∃i,x=.int i/\Q (g i) H
section
variable {X:Cx} {a b c:Expr} {ta tb tc:TE} {pos:Pos}
theorem U3 (ha:PE X a ta) (hb:PE X b tb) {σ:St} {R:V->V->Hp->Prop} (I:Inv X YZ σ H s)
  (h:ta σ H λx H1=>tb σ H1 λy H2=>R x y H2) {f:Value->Value->Sem Value}
  (hf:∀v u s2 x y H2,Inv X YZ σ H2 s2->RelV x v->RelV y u->R x y H2->XF (model X.21 X.w) X.A (f v u) Q X.xe s2) :
  XF (model X.21 X.w) X.A (eval a X.16) (λv s₁=>XF (model X.21 X.w) X.A (eval b X.16) (λu s₂=>XF (model X.21 X.w) X.A (f v u) Q X.xe s₂) X.xe s₁) X.xe s:=by
 refine iq (ha YZ s σ H _ I h) λv s1 hz=>?_
 obtain x|H1|I1|r1|q1:=hz;refine iq (hb YZ s1 σ H1 _ I1 q1) λu s2 hz=>?_
 obtain y|H2|I2|r2|q2:=hz;show hf v u s2 x y H2 I2 r1 r2 q2
theorem bS (ho:yX X (YW op) r) (ha:PE X a ta) (hb:PE X b tb):PE X (.BinOp a op b pos) (VB r ta tb):=by
 intro YZ s σ H Q I h;show wpAny_BinOp (U3 ha hb I h λv u s2 x y H2 I2 rx ry q=>ho YZ s2 σ H2 x y v u Q I2 rx ry q)
theorem AE (ho:Xg X (unaryOp op) r) (ha:PE X a ta):PE X (.UnaryOp op a pos) (Vu r ta):=by
 intro YZ s σ H Q I h;show UnaryOp_ (iq (ha YZ s σ H _ I h) λv s1 #[x,H1,I1,r1,q1]=>ho YZ s1 σ H1 x v Q I1 r1 q1)
theorem WZ {g:Int->Int->Int}
  (rule:∀(i j:Int) (t u:Tok) (s:Xv) (Q:Value->Xv->Prop) (E:Value->Xv->Prop),C i j->Q (.int (g i j) s.26) { s with toks:=s.26+1 }->XF (model X.21 X.w) X.A (f (.int i t) (.int j u)) Q E s) :
  yX X f (rI C λi j=>.int (g i j)):=by
 intro YZ s σ H x y v u Q I rx ry h;obtain i|j|rfl|rfl|hc|q:=h;obtain t|rfl:=rx;obtain t'|rfl:=ry;show rule i j t t' s _ _ hc #[.int (g i j),H,I.tok _,#[_,rfl],q]
theorem We {g:Int->Int->Int}
  (rule:∀(i j:Int) (t u:Tok) (s:Xv) (Q:Value->Xv->Prop) (E:Value->Xv->Prop),Q (.int (g i j) s.26) { s with toks:=s.26+1 }->XF (model X.21 X.w) X.A (f (.int i t) (.int j u)) Q E s) :
  yX X f (QX λi j=>.int (g i j)):=by
 intro YZ s σ H x y v u Q I rx ry h;obtain i|j|rfl|rfl|q:=h;obtain t|rfl:=rx;obtain t'|rfl:=ry;show rule i j t t' s _ _ #[.int (g i j),H,I.tok _,#[_,rfl],q]
theorem Rh {g:Int->Int->Bool}
  (rule:∀(i j:Int) (t u:Tok) (s:Xv) (Q:Value->Xv->Prop) (E:Value->Xv->Prop),Q (.bool (g i j)) s->XF (model X.21 X.w) X.A (f (.int i t) (.int j u)) Q E s) :
  yX X f (QX λi j=>.bl (g i j)):=by
 intro YZ s σ H x y v u Q I rx ry h;obtain i|j|rfl|rfl|q:=h;obtain t|rfl:=rx;obtain t'|rfl:=ry;show rule i j t t' s _ _ #[.bl (g i j),H,I,rfl,q]
def Vg (i j:Int):Prop:=(-(2^64) < i/\i < 2^64)\/(-(2^64) < j/\j < 2^64)
theorem Vg.ok (h:Vg i j):IntMulOk i j:=by
 rcases h with ⟨h1,h2⟩ | ⟨h1,h2⟩
 ·show .of_left (intBits_le_64 h1 h2)
 ·show .of_right (intBits_le_64 h1 h2)
theorem gB:yX X (YW .Add) (QX λi j=>.int (i+j)):=We λ_ _ _ _ _ _ _ q=>add_int q
theorem l7:yX X (YW .Sub) (QX λi j=>.int (i - j)):=We λ_ _ _ _ _ _ _ q=>sub_int q
theorem p5:yX X (YW .Mod) (rI (λ_ j=>0 < j) λi j=>.int (i % j)):=WZ λi j _ _ _ _ _ hc q=>by
 have h1:(0:Int) < j:=hc;show mod_int' () (by rw[Int.fmod_eq_emod_of_nonneg i ()];show q)
theorem Q9:yX X (YW .Mod) (rI (λ_ j=>j≠0) λi j=>.int (i.fmod j)):=WZ λ_ _ _ _ _ _ _ hc q=>mod_int' hc q
theorem unI {g:Int->Int}
  (rule:∀(i:Int) (t:Tok) (s:Xv) (Q:Value->Xv->Prop) (E:Value->Xv->Prop),Q (.int (g i) s.26) { s with toks:=s.26+1 }->XF (model X.21 X.w) X.A (f (.int i t)) Q E s) :
  Xg X f (rU λi=>.int (g i)):=by
 intro YZ s σ H x v Q I rx h;obtain i|rfl|q:=h;obtain t|rfl:=rx;show rule i t s _ _ #[.int (g i),H,I.tok _,#[_,rfl],q]
theorem vp:Xg X (unaryOp .USub) (rU λi=>.int (-i)):=unI λ_ _ _ _ _ q=>neg_int q
end
def VM:V->V->Bool
 | .Ze,.Ze=>true | .Ze,.int _=>true | .int _,.Ze=>true | .Ze,.bl _=>true | .bl _,.Ze=>true | .Ze,.str _=>true | .str _,.Ze=>true
 | .int _,.int _=>true | .bl _,.bl _=>true | .str _,.str _=>true | .i! _,.i! _=>true
 | .int _,.str _=>true | .str _,.int _=>true | .bl _,.str _=>true | .str _,.bl _=>true
 | _,_=>false
def rEq:R2:=λx y H Q=>VM x y=true/\Q (.bl (decide (x=y))) H
def rNe:R2:=λx y H Q=>VM x y=true/\Q (.bl (!decide (x=y))) H
theorem Lr:decide (V.int i=V.int j)=(i == j):=by
 rw[oq];simp
theorem Po:decide (V.bl i=V.bl j)=(i == j):=by
 rw[oq];simp
theorem Lq:decide (V.str i=V.str j)=(i == j):=by
 rw[oq];simp
theorem Ls:decide (V.i! i=V.i! j)=(i.toList == j.toList):=by
 rw[oq];cases i;cases j;simp
section
variable {X:Cx} {a b c:Expr} {ta tb tc:TE} {pos:Pos}
theorem dG {σ:St} (I:Inv X YZ σ H s) (q:Q (.bl k) H) (e:k=k'):EP X YZ σ Q (.bool k') s:=by
 subst e;show #[.bl k,H,I,rfl,q]
theorem gN:yX X (Yh .Eq) rEq:=by
 intro YZ s σ H x y v u Q I rx ry h;obtain hs|q:=h;cases x with
 | Ze =>
  cases rx;cases y with
  | Ze=>cases ry;show PySem.EqNone.eq_none_none (dG I q (by simp))
  | bl j=>cases ry;show PySem.EqNone.eq_none_bool (dG I q (by simp))
  | int j=>obtain t'|rfl:=ry;show PySem.EqNone.eq_none_int (dG I q (by simp))
  | str j=>obtain t'|rfl:=ry;show PySem.EqNone.eq_none_str (dG I q (by simp))
  | _=>show absurd (show false=true from hs) bA
 | bl i =>
  cases rx;cases y with
  | Ze=>cases ry;show PySem.EqNone.eq_bool_none (dG I q (by simp))
  | bl j=>cases ry;show eq_bool (dG I q Po)
  | str j=>obtain t'|rfl:=ry;show PySem.EqMixed.eq_bool_str (dG I q (by simp))
  | _=>show absurd (show false=true from hs) bA
 | int i =>
  obtain t|rfl:=rx;cases y with
  | Ze=>cases ry;show PySem.EqNone.eq_int_none (dG I q (by simp))
  | int j=>obtain t'|rfl:=ry;show eq_int (dG I q Lr)
  | str j=>obtain t'|rfl:=ry;show PySem.EqMixed.eq_int_str (dG I q (by simp))
  | _=>show absurd (show false=true from hs) bA
 | str i =>
  obtain t|rfl:=rx;cases y with
  | Ze=>cases ry;show PySem.EqNone.eq_str_none (dG I q (by simp))
  | bl j=>cases ry;show PySem.EqMixed.eq_str_bool (dG I q (by simp))
  | int j=>obtain t'|rfl:=ry;show PySem.EqMixed.eq_str_int (dG I q (by simp))
  | str j=>obtain t'|rfl:=ry;show eq_str (dG I q Lq)
  | _=>show absurd (show false=true from hs) bA
 | i! i =>
  obtain t|rfl:=rx;cases y with
  | i! j=>obtain t'|rfl:=ry;show PySem.W.eq_bytes (dG I q Ls)
  | _=>show absurd (show false=true from hs) bA
 | _=>cases y <;> show absurd (show false=true from hs) bA
theorem t8:yX X (Yh .NotEq) rNe:=by
 intro YZ s σ H x y v u Q I rx ry h;obtain hs|q:=h;cases x with
 | Ze =>
  cases rx;cases y with
  | Ze=>cases ry;show PySem.EqNone.ne_none_none (dG I q (by simp))
  | bl j=>cases ry;show PySem.EqNone.ne_none_bool (dG I q (by simp))
  | int j=>obtain t'|rfl:=ry;show PySem.EqNone.ne_none_int (dG I q (by simp))
  | str j=>obtain t'|rfl:=ry;show PySem.EqNone.ne_none_str (dG I q (by simp))
  | _=>show absurd (show false=true from hs) bA
 | bl i =>
  cases rx;cases y with
  | Ze=>cases ry;show PySem.EqNone.ne_bool_none (dG I q (by simp))
  | bl j=>cases ry;show ne_bool (dG I q (congrArg not Po))
  | str j=>obtain t'|rfl:=ry;show PySem.EqMixed.ne_bool_str (dG I q (by simp))
  | _=>show absurd (show false=true from hs) bA
 | int i =>
  obtain t|rfl:=rx;cases y with
  | Ze=>cases ry;show PySem.EqNone.ne_int_none (dG I q (by simp))
  | int j=>obtain t'|rfl:=ry;show ne_int (dG I q (congrArg not Lr))
  | str j=>obtain t'|rfl:=ry;show PySem.EqMixed.ne_int_str (dG I q (by simp))
  | _=>show absurd (show false=true from hs) bA
 | str i =>
  obtain t|rfl:=rx;cases y with
  | Ze=>cases ry;show PySem.EqNone.ne_str_none (dG I q (by simp))
  | bl j=>cases ry;show PySem.EqMixed.ne_str_bool (dG I q (by simp))
  | int j=>obtain t'|rfl:=ry;show PySem.EqMixed.ne_str_int (dG I q (by simp))
  | str j=>obtain t'|rfl:=ry;show ne_str (dG I q (congrArg not Lq))
  | _=>show absurd (show false=true from hs) bA
 | i! i =>
  obtain t|rfl:=rx;cases y with
  | i! j=>obtain t'|rfl:=ry;show PySem.W.ne_bytes (dG I q (congrArg not Ls))
  | _=>show absurd (show false=true from hs) bA
 | _=>cases y <;> show absurd (show false=true from hs) bA
theorem t9:yX X (Yh .Lt) (QX λi j=>.bl (decide (i < j))):=Rh λ_ _ _ _ _ _ _ q=>lt_int q
theorem Wc:yX X (Yh .LtE) (QX λi j=>.bl (decide (i<=j))):=Rh λ_ _ _ _ _ _ _ q=>le_int q
theorem wZ:yX X (Yh .Gt) (QX λi j=>.bl (decide (j < i))):=Rh λ_ _ _ _ _ _ _ q=>gt_int q
theorem CU:yX X (Yh .GtE) (QX λi j=>.bl (decide (j<=i))):=Rh λ_ _ _ _ _ _ _ q=>ge_int q
theorem UB:yX X (Yh .Is) (λx y H Q=>y=.Ze/\Q (.bl (decide (x=.Ze))) H):=by
 intro YZ s σ H x y v u Q I rx ry h;obtain rfl|q:=h;cases ry;refine is_none_gen (dG I q ?_)
 cases x <;> first
  | (cases rx;rfl)
  | (obtain ⟨t,rfl⟩:=rx;rfl)
theorem Q8:yX X (Yh .IsNot) (λx y H Q=>y=.Ze/\Q (.bl (!decide (x=.Ze))) H):=by
 intro YZ s σ H x y v u Q I rx ry h;obtain rfl|q:=h;cases ry;refine isnot_none_gen (dG I q ?_)
 cases x <;> first
  | (cases rx;rfl)
  | (obtain ⟨t,rfl⟩:=rx;rfl)
theorem bR (b:Expr) {op:CmpOp} (h:op≠.In:=by decide) (h2:op≠.NotIn:=by decide):behindInMarks op b=false:=by
 have e1:(op == CmpOp.In)=false:=by cases op <;> first | rfl | show absurd rfl h
 have e2:(op == CmpOp.NotIn)=false:=by cases op <;> first | rfl | show absurd rfl h2
 cases b <;> simp [behindInMarks,e1,e2]
theorem kJ (ho:yX X (Yh op) r) (ha:PE X a ta) (hb:PE X b tb) (hm:behindInMarks op b=false):PE X (.Compare a [op] [b] pos) (VB r ta tb):=by
 intro YZ s σ H Q I h;show wpAny_Compare1 (U3 ha hb I h λv u s2 x y H2 I2 rx ry q=>ho YZ s2 σ H2 x y v u Q I2 rx ry q) hm
def Sy (t:TE):TT:=λσ H Q=>t σ H λx H'=>∃k,x=.bl k/\Q k H'
theorem bE (ho:yX X (Yh op) r) (ha:PE X a ta) (hb:PE X b tb) (hm:behindInMarks op b=false):PT X (.Compare a [op] [b] pos) (Sy (VB r ta tb)):=by
 intro YZ s σ H Q I h
 refine wpAny_isTrue_Compare1 (iq (ha YZ s σ H _ I h) λv s1 #[x,H1,I1,r1,q1]=>iq (hb YZ s1 σ H1 _ I1 q1) λu s2 #[y,H2,I2,r2,q2] =>
  iq (ho YZ s2 σ H2 x y v u _ I2 r1 r2 q2) λc s3 #[z,H3,I3,r3,k,e,q3]=>?_) hm
 subst e;cases r3;show YC #[H3,I3,q3]
theorem AY:(XG:Nat) < 2^63:=by rw[sizeLine_eq];decide
theorem vals1 (r:cZ [x] us):∃u,us=[u]/\RelV x u:=by
 cases r with
 | cons r1 r2=>cases r2;show #[_,rfl,r1]
theorem vals2 (r:cZ [x,y] us):∃u w',us=[u,w']/\RelV x u/\RelV y w':=by
 cases r with
 | cons r1 r2 =>
  cases r2 with
  | cons r3 r4=>cases r4;show #[_,_,rfl,r1,r3]
theorem xB:qJ X (.builtin "abs") (λxs H Q=>∃i,xs=[.int i]/\Q (.int (if i < 0 then -i else i)) H):=by
 intro YZ s σ H xs us Q I r h;obtain i|rfl|q:=h;obtain u|rfl|t|rfl:=vals1 r;show call_abs_int λu tk=>#[.int (if i < 0 then -i else i),H,I.tok _,#[_,rfl],q]
theorem uM (hc:X.calm=true):qJ X (.builtin "min") (λxs H Q=>∃i j,xs=[.int i,.int j]/\Q (.int (if j < i then j else i)) H):=by
 intro YZ s σ H xs us Q I r h;obtain i|j|rfl|q:=h;obtain u|w'|rfl|⟨t,rfl⟩|⟨t',rfl⟩:=vals2 r;refine min_two_ints (I.ok.hd hc) λh' tk k=>#[_,H,I.59 k,?_,q]
 by_cases hj:j < i
 ·rw[if_pos hj,if_pos hj];show #[_,rfl]
 ·rw[if_neg hj,if_neg hj];show #[_,rfl]
end
structure J9 (h:Heap) (x dx C:Addr) (mA:Str->Option Value):Prop where
 obj:h.14 x=some (Yj C dx)
 ns:h.Ns1 dx mA
 ne:dx≠x
theorem Mg {h:Heap} (n:h.Ns1 dx mA):∃od,h.14 dx=some od/\∀name,PySem.W.lookIn name od=some (mA name):=by
 obtain o|es|ep|ho|hd|hk|_|hm:=n;refine #[o,ho,λname=>?_];have e:=hm name;unfold nsFind findBy at e;rw[<- Array.find?_toList] at e;unfold PySem.W.lookIn;rw[hd]
 dsimp only
 split
 ·rename_i y q
  rw[q] at e;show congrArg some e
 ·rename_i q
  rw[q] at e
  have a:es.toList.any (·.refKey)=false:=by
   rw[List.any_eq_false];intro y hy;obtain z|t|agr:=hk y (Array.mem_toList_iff.mp hy);simp [DictEntry.refKey,agr]
  have a':¬es.toList.any (·.refKey)=true:=by rw[a];show bA
  rw[if_neg a'];show congrArg some e
theorem J9.look (I:J9 h x dx C mA):∃od,PySem.W.InstAt h x (Yj C dx) C (some od)/\∀name,PySem.W.lookIn name od=some (mA name) :=
 let ⟨od,ho,hl⟩:=Mg I.ns
 #[od,#[I.obj,rfl,rfl,ho],hl]
section
variable {K:Y2}
theorem get_map (X:K.In s.8) (I:J9 s.29 x dx C mA) (hg:PySem.W.plainGet K C name=true) (hh:PySem.W.hasDictIn K C=true)
  (ha:XU K (.ref C) name=some none) (hv:mA name=some v) (hv':PySem.W.handedIn v=true) (h:Q v { s with toks:=s.26+1 }) :
  XF (model prog w) A (getAttr (.ref x) name expr) Q E s:=by
 obtain od|J|hl:=I.look;show PySem.W.get_value X J (FA hg).1 (PySem.W.findObj_own hh ha rfl (by rw[hl,hv])) hv' h
theorem O1 (X:K.In s.8) (I:J9 s.29 x dx C mA) (hg:PySem.W.plainGet K C name=true)
  (hf:XU K (.ref C) name=some (some (.ref f))) (ht:PySem.W.isFn K (.ref f)=true) (hv:mA name=none) (h:Q (.ref f,[.ref x]) s) :
  XF (model prog w) A (getMethod (.ref x) name pl) Q E s:=by
 obtain od|J|hl:=I.look;show PySem.W.method_fn X J (FA hg).1 (FA hg).2 hf (beq_iff_eq.mp ht) (by change (PySem.W.lookIn name od).11 (·.isSome)=some false;rw[hl,hv];rfl) h
theorem Qr (X:K.In s.8) (I:J9 s.29 x dx C mA)
  (hs:XU K (.ref C) "__setattr__"=some (some (.builtin "object.__setattr__"))) (hp:PySem.W.plainOver K C=true) (ht:PySem.W.takerIn K C name=some none) (hh:PySem.W.hasDictIn K C=true)
  (hw:PySem.Within mA ns) (hsz:ns.9<=XG)
  (h:∀h',J9 h' x dx C (λy=>if y=name then some v else mA y)->Heap.SameBut dx s.29 h'->Q .unit { s with heap:=h',toks:=s.26+2 }) :
  XF (model prog w) A (setAttr (.ref x) name v) Q E s:=by
 obtain od|J|hl:=I.look;refine PySem.W.set_plain X J hs (PySem.W.osa_open (s:={ s with toks:=s.26+1 }) (r:=none) X J hp ht λb=>?_);obtain cd|hc|hd':=PySem.W.any_some hh;have hx:s.heap.14 x=some #[.ref C,some dx,.plain,[].12]:=I.obj;refine T1 (XH (T1 (T1 (wpAny_loadPart hx (T1 (PySem.W.Looks.here (s:={ s with toks:=s.26+1 }) (PySem.W.looks_clsIn X hc) ?_))))));rw[hd'];refine XH (a:=some dx) (T1 (XH (T1 ?_)));refine wpAny_nsSet1 (s:={ s with toks:=s.26+1 }) I.ns λh' hn2 _Y=>?_
 obtain oD|esD|epD|hoD|hdD|hcD:=hn2.count (PySem.Within.cons name v hw);refine T1 (wpAny_lookBehind hoD (by rw[hdD];show pastItsLine_dict (ai hcD (by rw[bI];lia))) ?_);show XH (h _ #[(_Y.2 _ (Yg I.ne)).4 I.obj,hn2,I.ne] _Y)
theorem OG (X:K.In s.8) (hm:PySem.W.makesIn K C=true)
  (hi:XU K (.ref C) "__init__"=some (some (.ref f))) (hf:PySem.W.typeIn K (.ref f)=some (.type "function"))
  (h:YU (model prog w) (A.under (.builtin "type.__call__" #[.ref C :: vs,kw])) (.call (.ref f) #[.ref (s.6+1) :: vs,kw]) (PySem.W.InitBack (s.6+1) R)
   { s with heap:=(s.heap.25 X6).25 (Yj C s.6) }) :
  YU (model prog w) A (.call (.ref C) #[vs,kw]) R s:=by
 obtain hh|g|d|t|os:=s;show PySem.W.make_core (PySem.W.makes_of X hm) (PySem.W.looks_findIn X hi) (λself=>PySem.W.bind_fn X self hf) (.inl rfl) h
end
def cH (f:Str) (v:V):List (Str×V)->List (Str×V)
 | []=>[(f,v)]
 | (g,x) :: r=>if g=f then (g,v) :: r else (g,x) :: cH f v r
theorem bJ (f g:Str) (v:V):∀fs:List (Str×V),(cH f v fs).13 g=if g=f then some v else fs.13 g
 | []=>by
  change YN g [(f,v)]=_
  by_cases h:g=f
  ·have hb:(g == f)=true:=beq_iff_eq.mpr h;simp only[YN,hb,if_pos h]
  ·have hb:(g == f)=false:=beq_eq_false_iff_ne.mpr h;simp only[YN,hb,if_neg h]
 | (k,x) :: r=>by
  have ih:=bJ f g v r;rw[show cH f v ((k,x) :: r)=(if k=f then (k,v) :: r else (k,x) :: cH f v r) from rfl];by_cases hk:k=f
  ·rw[if_pos hk];by_cases h:g=k
   ·have hb:(g == k)=true:=beq_iff_eq.mpr h;simp only[YN,hb,if_pos (h.4 hk)]
   ·have hb:(g == k)=false:=beq_eq_false_iff_ne.mpr h;simp only[YN,hb,if_neg (λe:g=f=>h (e.4 hk.19))]
  ·rw[if_neg hk];by_cases h:g=k
   ·have hb:(g == k)=true:=beq_iff_eq.mpr h;simp only[YN,hb,if_neg (λe:g=f=>hk (h.symm.4 e))]
   ·have hb:(g == k)=false:=beq_eq_false_iff_ne.mpr h;simp only[YN,hb];show ih
theorem yF (f:Str) (v:V):∀fs:List (Str×V),f∈(cH f v fs).11 (·.1)/\∀g,g∈fs.11 (·.1)->g∈(cH f v fs).11 (·.1)
 | []=>#[by simp [cH],λg h=>by simp at h]
 | (k,x) :: r=>by
  obtain i1|i2:=yF f v r;rw[show cH f v ((k,x) :: r)=(if k=f then (k,v) :: r else (k,x) :: cH f v r) from rfl];by_cases hk:k=f
  ·rw[if_pos hk];subst hk;show #[by simp,λg h=>by simpa using h]
  ·rw[if_neg hk];refine #[?_,λg h=>?_]
   ·rw[iW];show cx _ i1
   ·rw[iW] at h ⊢;rcases aM.mp h with e | e
    ·show aM.mpr (.inl e)
    ·show cx _ (i2 g e)
theorem zg (f:Str) (v:V):∀fs:List (Str×V),(cH f v fs).9<=fs.9+1
 | []=>by simp [cH]
 | (k,x) :: r=>by
  have ih:=zg f v r;rw[show cH f v ((k,x) :: r)=(if k=f then (k,v) :: r else (k,x) :: cH f v r) from rfl];by_cases hk:k=f
  ·rw[if_pos hk,bI,bI];lia
  ·rw[if_neg hk,bI,bI];lia
theorem Cs.some_of (r:Cs (some v) o):∃u,o=some u/\RelV v u:=by
 cases o with
 | none=>show (show False from r).elim
 | some u=>show #[u,rfl,r]
theorem Cs.none_of (r:Cs none o):o=none:=by
 cases o with
 | none=>rfl
 | some u=>show (show False from r).elim
theorem Mp (r:RelV v u):PySem.W.handedIn u=true:=by
 cases v with
 | Ze=>cases (show u=Yi from r);rfl
 | bl b=>cases (show u=Value.bool b from r);rfl
 | int i=>obtain t|e:=(show ∃t,u=Value.int i t from r);cases e;rfl
 | str x=>obtain t|e:=(show ∃t,u=Value.str x t from r);cases e;rfl
 | i! b=>obtain t|e:=(show ∃t,u=Value.bytes b t from r);cases e;rfl
 | flt b=>obtain t|e:=(show ∃t,u=Value.float b t from r);cases e;rfl
 | ref a=>cases (show u=XD a from r);rfl
 | ty n=>cases (show u=Yc n from r);rfl
theorem zY (Zb:z9 P w H h) (e:H a=some (.ins C dx fs)):∃mA,J9 h a dx C mA/\(∀f,Cs (fs.13 f) (mA f))/\PySem.Within mA (fs.11 (·.1))/\fs.9<=1000/\H dx=some (.own a):=by
 obtain d|z|ne|ob|mA|n|r|q:=(show kv P w H h a (.ins C dx fs) from Zb a _ e);show #[mA,#[ob,n,ne],r,q,z,d]
structure Na (K:Y2) (C:Addr):Prop where
 pg:PySem.W.plainGet K C Str.empty=true
 hd:PySem.W.hasDictIn K C=true
 po:PySem.W.plainOver K C=true
 sa:XU K (.ref C) "__setattr__"=some (some (.builtin "object.__setattr__"))
theorem Na.get {K:Y2} (c:Na K C) (f:Str):PySem.W.plainGet K C f=true:=c.pg
def lC (K:Y2) (C:Addr) (f:Str):Prop:=XU K (.ref C) f=some none
theorem lC.abV {K:Y2} (n:lC K C f):PySem.W.takerIn K C f=some none:=by
 unfold PySem.W.takerIn;rw[show XU K (.ref C) f=some none from n];rfl
structure Vc (K:Y2) (C:Addr) (m:Str) (f:Addr):Prop where
 at_:XU K (.ref C) m=some (some (.ref f))
 fn:PySem.W.isFn K (.ref f)=true
 kp:YE K (.ref f)=true
section
variable {σ:St}
theorem JA (I:Inv X YZ σ H s) (e:H a=some (.ins C dx fs)) (c:Na X.K C) (n:lC X.K C f) (l:fs.13 f=some v)
  (h:∀u s',Inv X YZ σ H s'->RelV v u->Q u s'):XF (model X.21 X.w) A (getAttr (.ref a) f b) Q E s:=by
 obtain mA|O|r|_|_|_:=zY I.Zb e;obtain u|hu|ru:=Cs.some_of (v:=v) (o:=mA f) (by rw[<- l];show r f);show get_map I.ZQ O (c.get f) c.hd n hu (Mp ru) (h u _ (I.tok _) ru)
theorem Jz (I:Inv X YZ σ H s) (e:H a=some (.ins C dx fs)) (c:Na X.K C) (k:Vc X.K C m g) (l:fs.13 m=none)
  (h:Q (.ref g,[.ref a]) s):XF (model X.21 X.w) A (getMethod (.ref a) m pl) Q E s:=by
 obtain mA|O|r|_|_|_:=zY I.Zb e;have hn:mA m=none:=Cs.none_of (by rw[<- l];show r m);show O1 I.ZQ O (c.get m) k.at_ k.fn hn h
theorem IV (I:Inv X YZ σ H s) (e:H a=some (.ins C dx fs)) (c:Na X.K C) (n:lC X.K C f) (hl:fs.9 < 1000) (ry:RelV y u)
  (h:∀s',Inv X YZ σ (upd H a (.ins C dx (cH f y fs))) s'->Q .unit s'):XF (model X.21 X.w) A (setAttr (.ref a) f u) Q E s:=by
 obtain mA|O|r|wi|_|ho:=zY I.Zb e;have hz:(fs.11 (·.1)).9<=XG:=by rw[af,sizeLine_eq];lia
 refine Qr I.ZQ O c.sa c.po n.abV c.hd wi hz λh' O' sb=>h _ ?_
 have hd:∃o,h'.14 dx=some o:=let ⟨o,_,_,e',_⟩:=O'.ns;#[o,e']
 refine I.write (x:=a) (e:=dx) (by rw[e];show YT) (.inr ho) (λb q hb z=>(sb.2 b hb).4 z) hd ?_;refine #[by rw[bK O.ne];show ho,?_,O.ne,O'.obj,_,O'.ns,λg=>?_,λg hg=>?_]
 ·have:=zg f y fs;lia
 ·change Cs ((cH f y fs).13 g) (if g=f then some u else mA g)
  rw[bJ];by_cases q:g=f
  ·rw[if_pos q,if_pos q];show ry
  ·rw[if_neg q,if_neg q];show r g
 ·by_cases q:g=f
  ·rw[q];show (yF f y fs).1
  ·refine (yF f y fs).2 g (wi g λz=>hg ?_);change (if g=f then some u else mA g)=none
   rw[if_neg q];show z
theorem Inv.made (I:Inv X YZ σ H s):Inv X YZ σ (upd (upd H s.heap.objs.39 (.own (s.6+1))) (s.6+1) (.ins C s.6 []))
  { s with heap:=(s.heap.25 X6).25 (Yj C s.6) }:=by
 have e1:(s.heap.25 X6).14 s.6=some X6:=XO s.29 rfl
 have e2:((s.heap.25 X6).25 (Yj C s.6)).14 (s.6+1)=some (Yj C s.6):=by
  have:=XO (s.heap.25 X6) (o:=Yj C s.6) rfl;rwa [Yr] at this
 have e3:(s.heap.25 X6).Ns s.heap.objs.39 (λ_=>none):=#[X6,[].12,_,e1,rfl,(λe he=>absurd he (by simp)),λ_=>rfl];have I1:=I.laid (a:=s.6) (o:=.own (s.6+1)) (h':=s.heap.25 X6) (t':=s.26) (λb u q=>Xx _ q) (aj _) #[_,e1];refine I1.laid (a:=s.6+1) (o:=.ins C s.6 []) (t':=s.26) (λb u q=>Xx _ q) (LG (Yr _ _)) ?_;have ne:s.6≠s.6+1:=c5 (df _);refine #[by rw[bK ne,aN],bD _,ne,e2,λ_=>none,(Heap.Ns1.of_empty e3).at λo q=>Xx _ q,λ_=>YT,λy hy=>absurd rfl hy]
theorem Sh (hb:attributeBase e f env (eval e env)=eval e env)
  (h:XF (model prog w) A (eval e env) (λo s₁=>XF (model prog w) A (getAttr o f true) Q E s₁) E s):XF (model prog w) A (eval (.Attribute e f pos) env) Q E s :=
 Attribute_any_ h (by rw[arm_eval_Attribute,hb])
end
def TK (K:Y2) (ta:TE) (f:Str):TE:=λσ H Q=>ta σ H λx H1=>∃a C dx fs v,x=.ref a/\H1 a=some (.ins C dx fs)/\Na K C/\lC K C f/\fs.13 f=some v/\Q v H1
def VN (K:Y2) (ta tv:TE) (f:Str):TS:=λD σ H=>tv σ H λy H1=>ta σ H1 λx H2=>∃a C dx fs,x=.ref a/\H2 a=some (.ins C dx fs)/\Na K C/\lC K C f/\fs.9 < 1000 /\
 D.nx σ (upd H2 a (.ins C dx (cH f y fs)))
theorem dq (he:PE X e ta) (hb:attributeBase e f X.16 (eval e X.16)=eval e X.16):PE X (.Attribute e f pos) (TK X.K ta f):=by
 intro YZ s σ H Q I h;refine Sh hb (iq (he YZ s σ H _ I h) λu s1 hz=>?_);obtain x|H1|I1|rx|a|C|dx|fs|v|ex|ea|c|n|l|q:=hz;subst ex;obtain rfl:u=XD a:=rx;show JA I1 ea c n l λu' s2 I2 ru=>#[v,H1,I2,ru,q]
theorem yo (ha:PE X o ta) (hv:PE X value tv) (hs:swapsWith value (some (.Attribute o f pos')) pos.line X.16=pure false):PS X (.Assign [.Attribute o f pos'] value pos) (VN X.K ta tv f):=by
 intro YZ s σ H D I h;refine plainObj_wpAny_Assign_Attribute (iq (hv YZ s σ H _ I h) λu s1 #[y,H1,I1,ry,q]=>iq (ha YZ s1 σ H1 _ I1 q) λov s2 hz=>?_) hs;obtain x|H2|I2|rx|a|C|dx|fs|ex|ea|c|n|l|q2:=hz;subst ex;obtain rfl:ov=XD a:=rx;show IV I2 ea c n l ry λs3 I3=>#[σ,_,I3,q2]
section
variable {X:Cx} {YZ:List (Addr×Obj)} {σ:St} {H:Hp} {s:Xv} {A:Yd} {E:Value->Xv->Prop} {Q:Value->Xv->Prop} {c:Value} {b:Bool}
inductive vY (K:Y2) (H:Hp):V->Value->Prop where
 | Ze:vY K H .Ze (.type "NoneType")
 | bl (x:Bool):vY K H (.bl x) (.type "bool")
 | int (i:Int):vY K H (.int i) (.type "int")
 | str (x:Str):vY K H (.str x) (.type "str")
 | flt (x:UInt64):vY K H (.flt x) (.type "float")
 | lst {a:Addr} {xs:List V} (e:H a=some (.lst xs)):vY K H (.ref a) (.type "list")
 | _T {a:Addr} {o:Obj} {xs:List V} (e:H a=some (._T o (.lst xs))):vY K H (.ref a) (.type "list")
 | tup {a:Addr} {xs:List V} (e:H a=some (.tup xs)):vY K H (.ref a) (.type "tuple")
 | dK {a:Addr} {ZP:List (Key×V)} (e:H a=some (.dK ZP)):vY K H (.ref a) (.type "dict")
 | dT {a:Addr} {ZP:List (List Key×V)} (e:H a=some (.dT ZP)):vY K H (.ref a) (.type "dict")
 | ins {a C dx:Addr} {fs:List (Str×V)} (e:H a=some (.ins C dx fs)) (cl:Na K C) (ha:XU K (.ref C) "__class__"=some (some (.builtin "object.__class__")))
   (hn:PySem.W.specialIn K (.builtin "object.__class__") "__get__"=some (some (.builtin "getset_descriptor.__get__"))) (htk:PySem.W.takesIn K (.builtin "object.__class__")=some true)
   (hm:PySem.W.mroIn K C (.type "object")=some true):vY K H (.ref a) (.ref C)
theorem yH (I:Inv X YZ σ H s) (rx:RelV x u) (ty:vY X.K H x t) (e:YF X.K t c=some b) (h:∀tk,Q (.bool b) { s with toks:=tk }) :
  XF (model X.21 X.w) A (call (.builtin "isinstance") [u,c]) Q E s:=by
 cases ty with
 | Ze=>cases (show u=Yi from rx);show dP PySem.W.kitx_none I.ZQ YT e (λz=>nomatch z) h
 | bl y=>cases (show u=Value.bool y from rx);show dP PySem.W.kitx_bool I.ZQ YT e (λz=>nomatch z) h
 | int i=>obtain t|q:=(show ∃t,u=Value.int i t from rx);cases q;show dP PySem.W.kitx_int I.ZQ YT e (λz=>nomatch z) h
 | str y=>obtain t|q:=(show ∃t,u=Value.str y t from rx);cases q;show dP PySem.W.kitx_str I.ZQ YT e (λz=>nomatch z) h
 | flt y=>obtain t|q:=(show ∃t,u=Value.float y t from rx);cases q;show dP PySem.W.kitx_float I.ZQ YT e (λz=>nomatch z) h
 | @lst a xs ea =>
  cases (show u=XD a from rx);obtain _|_|n|_|h1:=(show kv X.21 X.w H s.29 a (.lst xs) from I.Zb a _ ea);show dP PySem.W.kitx_list I.ZQ #[_,h1,rfl] e (λz=>nomatch z) h
 | @_T a ob xs ea =>
  cases (show u=XD a from rx);obtain _|_|_|n|_|h1:=(show kv X.21 X.w H s.29 a (._T ob (.lst xs)) from I.Zb a _ ea);show dP PySem.W.kitx_list I.ZQ #[_,h1,rfl] e (λz=>nomatch z) h
 | @tup a xs ea =>
  cases (show u=XD a from rx);obtain _|_|_|p:=(show kv X.21 X.w H s.29 a (.tup xs) from I.Zb a _ ea);obtain o|h1|h2|_:=p;show dP PySem.W.kitx_tuple I.ZQ #[o,h1,h2] e (λz=>nomatch z) h
 | @dK a ZP ea =>
  cases (show u=XD a from rx);obtain _|_|vs|_|p:=(show kv X.21 X.w H s.29 a (.dK ZP) from I.Zb a _ ea);obtain o|es|ep|h1|h2|_:=p;show dP PySem.W.kitx_dict I.ZQ #[o,h1,h2.1] e (λz=>nomatch z) h
 | @dT a ZP ea =>
  cases (show u=XD a from rx);obtain _|_|xs|_|o|es|ep|h1|h2|_:=(show kv X.21 X.w H s.29 a (.dT ZP) from I.Zb a _ ea);show dP PySem.W.kitx_dict I.ZQ #[o,h1,h2.1] e (λz=>nomatch z) h
 | @ins a C dx fs ea cl ha hn htk hm =>
  cases (show u=XD a from rx);obtain mA|O|_:=zY I.Zb ea;obtain od|J|_:=O.look;show dP (PySem.W.kitx_own (cl.get _) cl.hd ha hn htk hm) I.ZQ J e (λz=>nomatch z) h
end
structure mi (k:Nat) (A:Yd):Prop where
 hd:A.handled=none
 dp:A.depth+3*k+105 < recursionLimit
 un:A.35+16*k+200 < Ys
theorem mi.mono (r:mi k A) (h:j<=k):mi j A:=#[r.hd,by have:=r.dp;lia,by have:=r.un;lia]
theorem mi.deeper (r:mi (k+1) A) (env:Env):mi k (A.deeper env) :=
 #[r.hd,by have:=r.dp;change A.depth+1+3*k+105 < _;lia,by have:=r.un;change A.35+3+16*k+200 < _;lia]
theorem Jt {A:Yd}:(A.under (.builtin "type.__call__" #[.ref C :: us,kw])).depth=A.depth+1:=by
 first | rfl | simp [Yd.under,Code.weight,Code.isCreation,Code.isGuard,Code.isCaller,Code.frames,Code.isFrame,guardIds]
theorem Js {A:Yd}:(A.under (.builtin "type.__call__" #[.ref C :: us,kw])).35=A.35+1:=by
 first | rfl | simp [Yd.under,Code.cUnits,Code.frames,Code.isFrame]
theorem mi.make (r:mi (k+1) A) (C:Addr) (us:List Value) (kw:List (Str×Value)):mi k (A.under (.builtin "type.__call__" #[.ref C :: us,kw])) :=
 #[r.hd,by have:=r.dp;rw[Jt];lia,by have:=r.un;rw[Js];lia]
theorem mi.depth (r:mi k A):A.depth < recursionLimit:=by have:=r.dp;lia
theorem mi.units (r:mi k A):A.35+64 < Ys:=by have:=r.un;lia
def xP:TA:=λ_ H Q=>Q [] H
def ir (ta:TE) (tr:TA):TA:=λσ H Q=>ta σ H λx H1=>tr σ H1 λxs H2=>Q (x :: xs) H2
section
variable {X:Cx} {e:Expr} {es:List Expr} {te:TE} {t:TA} {pos:Pos}
theorem gA:PA X [] xP:=λ_ _ _ _ H Q I h=>Calls.spliced_nil #[[],H,I,.nil,h]
theorem fu (ha:PE X e te) (hr:PA X es t) (hs:Xy (e :: es) X.16=(false,eval e X.16) :: Xy es X.16:=by rfl):PA X (e :: es) (ir te t):=by
 intro pos YZ s σ H Q I h;rw[hs];change XF _ _ (spliced ((false,eval e X.16) :: backTo pos (Xy es X.16))) _ _ s
 refine Calls.spliced_cons (iq (ha YZ s σ H _ I h) λu s1 hz=>?_);obtain x|H1|I1|r1|q1:=hz;show iq (hr pos YZ s1 σ H1 _ I1 q1) λus s2 #[xs,H2,I2,r2,q2]=>#[x :: xs,H2,I2,.cons r1 r2,q2]
def Vv (t:TA):TE:=λσ H Q=>t σ H λxs H1=>xs.9<=XG/\∀p,H1 p=none->Q (.ref p) (upd H1 p (.tup xs))
def VD (t:TA):TE:=λσ H Q=>t σ H λxs H1=>xs.9<=XG/\∀p,H1 p=none->Q (.ref p) (upd H1 p (.lst xs))
theorem dD (h:PA X es t):PE X (.Tuple es x1 pos) (Vv t):=by
 intro YZ s σ H Q I hq;refine wpAny_Tuple_spliced (iq (h pos YZ s σ H _ I hq) λus s1 #[xs,H1,I1,r,z,q]=>#[by rw[<- r.9];show z,?_]);have hf:H1 s1.6=none:=I1.Zb.42 (aj _);refine #[.ref s1.6,upd H1 s1.heap.objs.39 (.tup xs),I1.laid (t':=s1.26) (λb u e=>Xx _ e) (aj _) ?_,rfl,q _ hf];show #[z,us,r,#[_,XO _ rfl,rfl,_,rfl]]
theorem dW (h:PA X es t):PE X (.List es pos) (VD t):=by
 intro YZ s σ H Q I hq;refine wpAny_List_spliced (iq (h pos YZ s σ H _ I hq) λus s1 #[xs,H1,I1,r,z,q]=>#[by rw[<- r.9];show z,?_]);have hf:H1 s1.6=none:=I1.Zb.42 (aj _);refine #[.ref s1.6,upd H1 s1.heap.objs.39 (.lst xs),I1.laid (t':=s1.26) (λb u e=>Xx _ e) (aj _) ?_,rfl,q _ hf];show #[z,us,0,r,XO _ rfl]
end
abbrev Sp:=List V->Hp->VK->XK->Prop
abbrev Nb:=List Env->Hp->Xv->XK->Value->Xv->Prop
structure Ka (P:Yl) (w:Yq) (K:Y2) (mg:Str->Option Value) (base:Heap) (A:Yd) (outer:List Env) (s:Xv) (H:Hp):Prop where
 frames:A.frames=some outer
 mod:Mod K mg base
 bs:∀b o,base.14 b=some o->s.heap.14 b=some o/\H b=none
 bsz:base.objs.7<=s.heap.objs.39
 ZR:s.heap.FunFrames base outer
 frf:∀b∈M5 outer,H b=none
 Zb:z9 P w H s.29
 bare:AllBare s.gens
def CE (outer:List Env) (P:Yl) (w:Yq) (H:Hp) (s:Xv) (Q:VK) (u:Value) (s':Xv):Prop :=
 ∃v H',s'.os=s.os/\AllBare s'.gens/\Un (M5 outer) [] H H' s.29 s'.8/\z9 P w H' s'.8/\RelV v u/\Q v H'
def CR (CX:Nb) (outer:List Env) (P:Yl) (w:Yq) (H:Hp) (s:Xv) (Q:VK) (E:XK) (r:Result) (s':Xv):Prop :=
 match r with
 | .ok (.ret u)=>CE outer P w H s Q u s'
 | .ok _=>False
 | .error e=>CX outer H s E e s'
structure uC (P:Yl) (w:Yq) (K:Y2) (mg:Str->Option Value) (base:Heap) (CX:Nb) (k:Nat) (f:Addr) (fd:T2) (ps:List Str) (sp:Sp):Prop where
 len:∀vs H Q E,sp vs H Q E->vs.9=ps.9
 run:∀(A:Yd) (outer:List Env) (s:Xv) (H:Hp) (args:Args) (us:List Value) (vs:List V) (Q:VK) (E:XK),mi k A->Ka P w K mg base A outer s H->BindsTo s fd args (ps.zip us)->cZ vs us->sp vs H Q E →
  YU (model P w) A (.call (.ref f) args) (CR CX outer P w H s Q E) s
theorem Ka.make {K:Y2} (e:Ka P w K mg base A outer s H) (C:Addr) (us:List Value) (kw:List (Str×Value)) :
  Ka P w K mg base (A.under (.builtin "type.__call__" #[.ref C :: us,kw])) outer s H:=#[by first | show e.frames | (simpa [Yd.under,Code.envs,Code.isFrame,pushEnvs] using e.frames),e.mod,e.bs,e.bsz,e.ZR,e.frf,e.Zb,e.57]
section
variable {σ:St}
theorem Inv.adn (I:Inv X YZ σ H s):Ka X.21 X.w X.K X.mg X.51 X.A X.53 s H :=
 #[I.ok.frames,I.ok.mod,I.bs,ai I.ok.bsz I.sz,I.53,I._R,I.Zb,I.57]
theorem Inv.after (I:Inv X YZ σ H s) (h:CE X.53 X.21 X.w H s Q u s'):EP X YZ σ Q u s':=by
 obtain v|H'|os|bare|un|Zb|r|q:=h;obtain hh|g|d|t|os':=s';obtain rfl:os'=s.os:=os;show #[v,H',I.call (h':=hh) (g':=g) (d':=d) (t':=t) (ch:=[]) un Zb bare (λb z=>absurd z (by simp)),r,q]
end
def Nt (sp:Sp) (_s:List V) (E:XK) (t:TA):TE:=λσ H Q=>t σ H λvs H1=>sp (vs++_s) H1 Q E
def SI (C:Addr) (m:Str) (sp:Sp) (_s:List V) (E:XK) (ta:TE) (t:TA):TE:=λσ H Q=>ta σ H λx H1=>∃a dx fs,x=.ref a/\H1 a=some (.ins C dx fs)/\fs.13 m=none /\
 t σ H1 λvs H2=>sp (x :: (vs++_s)) H2 Q E
def SJ (C:Addr) (sp:Sp) (_s:List V) (E:XK) (t:TA):TE:=λσ H Q=>t σ H λvs H1=>∀x dx,H1 x=none->H1 dx=none->dx≠x →
 sp (.ref x :: (vs++_s)) (upd (upd H1 dx (.own x)) x (.ins C dx [])) (λv H2=>v=.Ze/\Q (.ref x) H2) E
def Binds (K:Y2) (fd:T2) (ps:List Str) (ds:List Value):Prop :=
 ∀(s:Xv) (us:List Value),K.In s.8->(us++ds).9=ps.9->BindsTo s fd #[us,[]] (ps.zip (us++ds))
theorem Binds.all {K:Y2} (h:∀us:List Value,us.9=ps.9->bindArgs fd #[us,[]]=pure (ps.zip us)):Binds K fd ps []:=λs us _ hl=>by
 rw[oj] at hl ⊢;show .of_eq (h us hl)
def yW (CX:Nb) (X:Cx) (E:XK):Prop:=∀(YZ:List (Addr×Obj)) (σ:St) (H:Hp) (s:Xv) (e:Value) (s':Xv),Inv X YZ σ H s->CX X.53 H s E e s'->X.xe e s'
section
variable {X:Cx} {CX:Nb} {k:Nat} {f C:Addr} {fd:T2} {ps:List Str} {sp:Sp} {_s:List V} {ds:List Value} {E:XK} {x m:Str} {p pos apos:Pos} {e o:Expr} {es:List Expr} {ta:TE} {t:TA}
theorem NZ {σ:St} (F:uC X.21 X.w X.K X.mg X.51 CX k f fd ps sp) (hr:mi k X.A) (hb:Binds X.K fd ps ds) (hd:cZ _s ds) (hx:yW CX X E)
  (I:Inv X YZ σ H s) (r:cZ vs us) (h:sp (vs++_s) H Q E):XF (model X.21 X.w) X.A (call (.ref f) us) (EP X YZ σ Q) X.xe s:=by
 have r2:cZ (vs++_s) (us++ds):=r.append hd;have hl:(us++ds).9=ps.9:=by rw[<- r2.9];show F.36 _ _ _ _ h
 refine wpAny_call (codeAny_mono (F.run X.A X.53 s H #[us,[]] (us++ds) (vs++_s) Q E hr I.adn (hb s us I.ZQ hl) r2 h) λr s' hq=>?_);cases r with
 | error e=>show hx YZ σ H s e s' I hq
 | ok fl =>
  cases fl with
  | ret u=>show I.50 hq
  | next=>show Ye hq
  | brk=>show Ye hq
  | cont=>show Ye hq
theorem Q7 (F:uC X.21 X.w X.K X.mg X.51 CX k f fd ps sp) (hr:mi k X.A) (hg:Gl X x) (hm:X.mg x=some (.ref f)) (hk:YE X.K (.ref f)=true) (hb:Binds X.K fd ps ds) (hd:cZ _s ds) (hx:yW CX X E)
  (ha:PA X (e :: es) t) (hdb:(x == ("__debug__":Str))=false:=by decide) (he:Xy (e :: es) X.16=(false,eval e X.16) :: Xy es X.16:=by rfl) (_G:(backTo pos (Xy es X.16)).any (·.1)=false:=by rfl) :
  PE X (.Call (.Name x p) (e :: es) [] pos) (Nt sp _s E t):=by
 intro YZ s σ H Q I h;refine XY (Ep I hg hm ?_ hdb);refine PySem.W.callWith_K (h₀:=X.51) I.ok.mod.kin hk (iq (ha pos YZ s σ H _ I h) λus s1 #[vs,H1,I1,r,q]=>#[I1.ZQ,?_]) he _G;show NZ F hr hb hd hx I1 r q
theorem Oj {pl : Sem Bool} (he : PE X o ta) (c : Na X.K C) (hm : Vc X.K C m f) (F : uC X.21 X.w X.K X.mg X.51 CX k f fd ps sp) (hr : mi k X.A) (hb : Binds X.K fd ps ds) (hd : cZ _s ds) (hx : yW CX X E)
    (ht : eval (.Call (.Attribute o m apos) [] [] pos) X.16 = (do
      let ov <- eval o X.16
      standAt apos.atName
      let (f, first) <- holding [ov] (getMethod ov m pl)
      callWith pos f first (backTo pos (Xy [] X.16)) (backToKw pos (keywordEach [] X.16))) := by rfl) :
    PE X (.Call (.Attribute o m apos) [] [] pos) (SI C m sp _s E ta xP) := by
  intro YZ s σ H Q I h;refine PySem.W.methodCall_KW (pl := pl) (iq (he YZ s σ H _ I h) λu s1 hz => ?_) ht;obtain x|H1|I1|rx|a|dx|fs|ex|ea|l|q:= hz;subst ex;obtain rfl : u = XD a := rx;refine Jz I1 ea c hm l ?_;show PySem.W.callWith_K0 (first := [.ref a]) I1.ZQ hm.kp (NZ (us := [.ref a]) (vs := [.ref a]) F hr hb hd hx I1 (.cons rfl .nil) q)

structure Mk (K:Y2) (C f:Addr):Prop where
 makes:PySem.W.makesIn K C=true
 init:XU K (.ref C) "__init__"=some (some (.ref f))
 fn:PySem.W.isFn K (.ref f)=true
 kp:YE K (.ref C)=true
theorem NW {σ:St} (M:Mk X.K C f) (F:uC X.21 X.w X.K X.mg X.51 CX k f fd ps sp) (hr:mi (k+1) X.A) (hb:Binds X.K fd ps ds) (hd:cZ _s ds)
  (hx:yW CX X E) (I:Inv X YZ σ H s) (r:cZ vs us)
  (h:∀x dx,H x=none->H dx=none->dx≠x->sp (.ref x :: (vs++_s)) (upd (upd H dx (.own x)) x (.ins C dx [])) (λv H2=>v=.Ze/\Q (.ref x) H2) E) :
  XF (model X.21 X.w) X.A (call (.ref C) us) (EP X YZ σ Q) X.xe s:=by
 have hq:=h (s.6+1) s.heap.objs.39 (I.Zb.42 (lG _)) (I.Zb.42 (aj _)) (c5 (df _));have I2:=Inv.made (C:=C) I;have r2:cZ (V.ref (s.6+1) :: (vs++_s)) (XD (s.6+1) :: (us++ds)):=.cons rfl (r.append hd)
 have hl:(XD (s.6+1) :: us++ds).9=ps.9:=by
  have e:=r2.9;rw[F.36 _ _ _ _ hq] at e;show e.19
 refine wpAny_call (OG (f:=f) I.ZQ M.makes M.init (beq_iff_eq.mp M.fn) (codeAny_mono (F.run _ X.53 _ _ #[XD (s.6+1) :: us,[]] (XD (s.6+1) :: (us++ds)) _ _ E (hr.make C us [])
  (I2.adn.make C us []) (hb _ (XD (s.6+1) :: us) I2.ZQ hl) r2 hq) λr s' hq'=>?_))
 cases r with
 | error e=>show hx YZ σ _ _ e s' I2 hq'
 | ok fl =>
  cases fl with
  | ret u =>
   obtain v|H'|I3|rv|ev|q3:=I2.50 hq';subst ev;show #[rv,#[V.ref (s.6+1),H',I3,rfl,q3]]
  | next=>show Ye hq'
  | brk=>show Ye hq'
  | cont=>show Ye hq'
theorem zR (M:Mk X.K C f) (F:uC X.21 X.w X.K X.mg X.51 CX k f fd ps sp) (hr:mi (k+1) X.A) (hg:Gl X x) (hm:X.mg x=some (.ref C)) (hb:Binds X.K fd ps ds) (hd:cZ _s ds) (hx:yW CX X E)
  (ha:PA X (e :: es) t) (hdb:(x == ("__debug__":Str))=false:=by decide) (he:Xy (e :: es) X.16=(false,eval e X.16) :: Xy es X.16:=by rfl) (_G:(backTo pos (Xy es X.16)).any (·.1)=false:=by rfl) :
  PE X (.Call (.Name x p) (e :: es) [] pos) (SJ C sp _s E t):=by
 intro YZ s σ H Q I h;refine XY (Ep I hg hm ?_ hdb);refine PySem.W.callWith_K (h₀:=X.51) I.ok.mod.kin M.kp (iq (ha pos YZ s σ H _ I h) λus s1 #[vs,H1,I1,r,q]=>#[I1.ZQ,?_]) he _G;show NW M F hr hb hd hx I1 r q
end
structure uO (N P:List Str) (sc:Scope):Prop where
 kind:sc.30=.function
 co:sc.isCoroutine=false
 gen:sc.isGenerator=false
 nd:N.33
 pre:N.18 P.9=P
 par:∀x∈P,sc.names.13 x=some .local\/sc.names.13 x=some .cell
 aaO:∀y∈sc.28,y.2≠.free
theorem De {kindOf:Str->Option Yo} {x:Str}:∀{binds:List (Str×Value)} {m:Str->Option Value},(∀v,(x,v)∉binds)->bindL kindOf binds m x=m x
 | [],_,_=>rfl
 | (n,v) :: r,m,h=>by
  unfold bindL;rw[De λw hw=>h w (cx _ hw)]
  split
  ·have:x≠n:=by rintro rfl;show h v dJ
   simp [this]
  ·rfl
theorem Di {kindOf:Str->Option Yo} {x:Str}:∀{binds:List (Str×Value)} {m:Str->Option Value},(∀v,(x,v)∉binds)->bindC kindOf binds m x=m x
 | [],_,_=>rfl
 | (n,v) :: r,m,h=>by
  unfold bindC;rw[Di λw hw=>h w (cx _ hw)]
  split
  ·rfl
  ·have:x≠n:=by rintro rfl;show h v dJ
   simp [this]
theorem Dg {kindOf:Str->Option Yo} {x:Str} {v:Value}:∀{P:List Str} {vs:List Value} {i:Nat} {m:Str->Option Value},P.33->P[i]?=some x->vs[i]?=some v->kindOf x=some .local →
  bindL kindOf (P.zip vs) m x=some v
 | [],_,_,_,_,h,_,_=>by simp at h
 | _ :: _,[],_,_,_,_,h,_=>by simp at h
 | p :: P,w :: vs,0,m,nd,h1,h2,hk=>by
  simp at h1 h2;subst h1;subst h2;change bindL kindOf ((p,w) :: P.zip vs) m p=_
  unfold bindL;rw[De λv hv=>(fg.mp nd).1 (PZ hv).1,if_pos hk];simp
 | p :: P,w :: vs,i+1,m,nd,h1,h2,hk=>by
  change bindL kindOf ((p,w) :: P.zip vs) m x=_
  unfold bindL;show Dg (i:=i) (fg.mp nd).2 (by simpa using h1) (by simpa using h2) hk
theorem Dj {kindOf:Str->Option Yo} {x:Str} {v:Value}:∀{P:List Str} {vs:List Value} {i:Nat} {m:Str->Option Value},P.33->P[i]?=some x->vs[i]?=some v->kindOf x≠some .local →
  bindC kindOf (P.zip vs) m x=some v
 | [],_,_,_,_,h,_,_=>by simp at h
 | _ :: _,[],_,_,_,_,h,_=>by simp at h
 | p :: P,w :: vs,0,m,nd,h1,h2,hk=>by
  simp at h1 h2;subst h1;subst h2;change bindC kindOf ((p,w) :: P.zip vs) m p=_
  unfold bindC;rw[Di λv hv=>(fg.mp nd).1 (PZ hv).1,if_neg hk];simp
 | p :: P,w :: vs,i+1,m,nd,h1,h2,hk=>by
  change bindC kindOf ((p,w) :: P.zip vs) m x=_
  unfold bindC;show Dj (i:=i) (fg.mp nd).2 (by simpa using h1) (by simpa using h2) hk
def start (N:List Str) (vs:List V):St:=vs.11 some++K0 (N.9 - vs.9) none
def Vl:List Str->List V->St
 | [],_=>[]
 | _ :: N,[]=>none :: Vl N []
 | _ :: N,v :: vs=>some v :: Vl N vs
theorem IS:∀{N:List Str} {vs:List V},vs.9<=N.9->start N vs=Vl N vs
 | [],[],_=>rfl
 | [],_ :: _,h=>absurd h (Nat.not_succ_le_zero _)
 | _ :: N,[],_=>congrArg (none :: ·) (IS (N:=N) (vs:=[]) (bD _))
 | _ :: N,v :: vs,h=>by
  change some v :: (vs.11 some++K0 (N.9+1 - (vs.9+1)) none)=some v :: Vl N vs
  rw[Nat.add_sub_add_right,<- IS (Nat.le_of_succ_le_succ h)];rfl
def HP (CX:Nb) (P:Yl) (w:Yq) (K:Y2) (mg:Str->Option Value) (base:Heap) (N:List Str) (qual:Str) (scope:Scope) (f:Addr) (cd:Value) (A:Yd) (outer:List Env) (s:Xv) (H:Hp) (E:XK):Cx where
 prog:=P
 w:=w
 K:=K
 mg:=mg
 base:=base
 A:=A.deeper (envOfC qual scope s.heap.objs.39 f cd)
 N:=N
 s₀:=s
 H₀:=H
 env:=envOfC qual scope s.heap.objs.39 f cd
 outer:=outer
 stack:=envOfC qual scope s.heap.objs.39 f cd :: outer
 ex:=[]
 calm:=true
 fn:=λ_=>true
 pn:=[]
 xe:=λe s'=>XF (model P w) (A.deeper (envOfC qual scope s.heap.objs.39 f cd)) (leaving (envOfC qual scope s.heap.objs.39 f cd) e) (λ_ s''=>CX outer H s E e s'') (λe' s''=>CX outer H s E e' s'') s'
theorem HS {sc:Scope} (h:sc.names.13 x=some .cell):∃c,(Ya n sc.28 []).13 x=some c:=by
 have q:=Aa sc.28 n [] (.inl h);show Vp.mp q
theorem Mj {K:Y2} 
  (S:uO N ps scope) (hd:A.handled=none) (e0:Ka P w K mg base A outer s H) (hl:vs.9=ps.9) (r:cZ vs us)
  (x:InCallC s s.heap.objs.39 (bindL (envOfC qual scope s.heap.objs.39 f cd).45 (ps.zip us) λ_=>none) (Ya (s.6+1) scope.28 []) (bindC (envOfC qual scope s.heap.objs.39 f cd).45 (ps.zip us) λ_=>none) s1) :
  Inv (HP CX P w K mg base N qual scope f cd A outer s H E) [] (start N vs) H s1:=by
 have _G:ps.9<=N.9:=by have:=congrArg Yt S.pre;rw[aS] at this;lia
 obtain h1|tk|rfl|hk:=x.done;have noA:∀b:Addr,b∉(HP CX P w K mg base N qual scope f cd A outer s H E).ex:=λb z=>absurd (show b∈([]:List Addr) from z) (by simp)
 refine #[#[e0.mod,S.30,rfl,rfl,aj _,λy z c h1 h2=>?_,λy hy=>?_,λy c _ h=>?_,λ_=>hd,Yd.frames_deeper e0.frames,.inr #[rfl,rfl],λb z=>absurd z (noA b),e0.bs,e0.bsz,λb _ _=>noA b,λb z=>absurd z (noA b),e0.ZR,e0.frf],
  rfl,e0.57,Un.kept hk,#[_,x.toInCall.ns,λi y v h1 h2 h3=>?_],λy c h=>#[_,x.cell y c h],e0.Zb.42 (aj _),λy c h=>?_,λp hp=>absurd (show p∈([]:List (Addr×Obj)) from hp) (by simp),e0.Zb.59 hk,?_]
 ·show name_of_addr x.apart (mX h1) (mX h2)
 ·have hy:scope.names.13 y=some .cell\/scope.names.13 y=some .free:=hy;rcases hy with hy | hy
  ·show HS hy
  ·show absurd rfl (S.aaO _ (mX hy))
 ·show c6 (x.above y c (mX h))
 ·have hi:i < vs.9:=by
   unfold start at h2;by_cases hi:i < vs.9
   ·show hi
   ·rw[b8 (by simpa using hi)] at h2;rw[dI] at h2
    split at h2 <;> cases h2
  have ha:vs[i]?=some v:=by
   unfold start at h2;rw[cw (by simpa using hi),az] at h2;cases e:vs[i]? with
   | none=>rw[e] at h2;cases h2
   | some a=>rw[e] at h2;cases h2;rfl
  obtain u|hu|rv:=r.get ha
  have hp:ps[i]?=some y:=by
   rw[<- S.pre,fK ()];show h1
  have ndP:ps.33:=by rw[<- S.pre];show S.nd.sublist (List.take_sublist _ _)
  refine #[u,rv,?_];rcases S.par y (av hp) with k | k
  ·show .inl #[k,Dg ndP hp hu k]
  ·obtain c|e:=HS (n:=s.6+1) k;refine .inr #[.inl k,c,e,?_];have q:=x.cell y c e;rw[Dj ndP hp hu (by change scope.names.13 y≠_;rw[k];decide)] at q;show q
 ·show e0.Zb.42 (c6 (x.above y c (mX h)))
 ·unfold start;change _=N.9
  rw[ax,af,bB]
  lia
theorem Wr {K:Y2} {dV kV doc pm Zm ct oc:Value} 
 (lk:K.13 f=some #[oc,od,.func (Yp name qual params body scope dV kV doc pm an Zm ct),osl]) (x!:PySem.W.codeIn K Zm qual=true) (S:uO N ps scope)
  (len:∀vs H Q E,sp vs H Q E->vs.9=ps.9)
  (_D:∀(A:Yd) (outer:List Env) (s:Xv) (H:Hp) (vs:List V) (Q:VK) (E:XK),mi k (A.deeper (envOfC qual scope s.heap.objs.39 f Zm))->sp vs H Q E →
   ∃t,IB (HP CX P w K mg base N qual scope f Zm A outer s H E) body t/\t { nx:=λ_ H'=>Q .Ze H',rt:=Q } (start N vs) H) :
  uC P w K mg base CX (k+1) f (Yp name qual params body scope dV kV doc pm an Zm ct) ps sp:=by
 refine #[len,λA outer s H args us vs Q E hr e0 hb r hsp=>?_];have hl:=len _ _ _ _ hsp;have KX:K.In s.8:=e0.mod.kin.keeps λb o e=>(e0.bs b o e).1
 have lim:s.heap.NoLimit:=e0.mod.nolimit.keeps λb o e=>(e0.bs b o e).1
 have acU:∀y∈ps.zip us,scope.names.13 y.1=some .local\/(scope.names.13 y.1=some .cell/\((Ya (s.6+1) scope.28 []).13 y.1).isSome=true):=λ#[n,v] hy=>by
  rcases S.par n (PZ hy).1 with q | q
  ·show .inl q
  ·show .inr #[q,Aa _ _ _ (.inl q)]
 refine codeAny_call_function hr.depth (KX _ _ lk) rfl S.co S.gen rfl (PySem.W.codeRec_of KX x!) (hb _ _ _ _ ?_);refine wpAny_newFunctionEnv_cells S.30 acU λenv he s1 x=>?_
 subst he;refine #[lim.keeps x.toInCall.keep,codeAny_func ?_];obtain t|ht|hq:=_D A outer s H vs Q E (hr.deeper _) hsp;have I:Inv (HP CX P w K mg base N qual scope f Zm A outer s H E) [] (start N vs) H s1:=Mj S hr.hd e0 hl r x;refine Yw (ht [] s1 (start N vs) H _ I hq) (λfl s' hs=>?_) λe s' hs=>hs
 have fin:∀{σ':St} {H':Hp} {v:V} {u:Value},Inv (HP CX P w K mg base N qual scope f Zm A outer s H E) [] σ' H' s'->RelV v u->Q v H'->CE outer P w H s Q u s' :=
  λ{σ' H' v u} J rv q=>#[v,H',J.os,J.57,J.51,J.Zb,rv,q]
 cases fl with
 | ret u =>
  obtain v|σ'|H'|J|rv|q:=hs;show fin J rv q
 | next =>
  obtain σ'|H'|J|q:=hs;show fin (v:=V.Ze) (u:=Yi) J rfl q
 | brk =>
  obtain _|_|_|q:=hs;show Ye q
 | cont =>
  obtain _|_|_|q:=hs;show Ye q
section
variable {X:Cx} {x:Str} {p pos:Pos} {e:Expr} {es:List Expr} {t:TA} {id T:String} {r:List V->Hp->VK->Prop}
def WU (r:List V->Hp->VK->Prop) (t:TA):TE:=λσ H Q=>t σ H λvs H1=>r vs H1 Q
theorem bH (hc:qJ X (.builtin id) r) (hg:Gl X x) (hm:X.mg x=none) (hv:Yv x=some (.builtin id)) (ha:PA X (e :: es) t) (hn:x≠"__name__":=by decide) (hdb:(x == ("__debug__":Str))=false:=by decide)
  (he:Xy (e :: es) X.16=(false,eval e X.16) :: Xy es X.16:=by rfl) (_G:(backTo pos (Xy es X.16)).any (·.1)=false:=by rfl):PE X (.Call (.Name x p) (e :: es) [] pos) (WU r t):=by
 intro YZ s σ H Q I h;refine XY (kY I hg hm hv ?_ hn hdb);show Yf (iq (ha pos YZ s σ H _ I h) λus s1 #[vs,H1,I1,r1,q1]=>hc YZ s1 σ H1 vs us Q I1 r1 q1) he _G
theorem fQ (hc:qJ X (.type T) r) (hg:Gl X x) (hm:X.mg x=none) (hv:Yv x=some (.type T)) (ha:PA X (e :: es) t) (hn:x≠"__name__":=by decide) (hdb:(x == ("__debug__":Str))=false:=by decide)
  (he:Xy (e :: es) X.16=(false,eval e X.16) :: Xy es X.16:=by rfl) (_G:(backTo pos (Xy es X.16)).any (·.1)=false:=by rfl):PE X (.Call (.Name x p) (e :: es) [] pos) (WU r t):=by
 intro YZ s σ H Q I h;refine XY (kY I hg hm hv ?_ hn hdb);show XJ (iq (ha pos YZ s σ H _ I h) λus s1 #[vs,H1,I1,r1,q1]=>hc YZ s1 σ H1 vs us Q I1 r1 q1) he _G
end
end L2
namespace HT
open PySem PyProof.Rows
section
open PySem.SeqAt
open PySem.AutoSeq1 (wpAny_loadPart')
open PySem.MeetsSeq PySem.MeetsSeq2 PySem.MeetsSeq3
end
section
variable {prog:Yl} {w:Yq} {A:Yd} {E:Value->Xv->Prop} {s:Xv}
def Gu (n d:Nat):Option Int->Nat
 | none=>d
 | some v=>if v < 0 then (v+(n:Int)).27 else min v.27 n
theorem Au (n d:Nat):Gu n d none=d:=rfl
theorem DZ (n d k:Nat):Gu n d (some (k:Int))=min k n:=by
 change (if (k:Int) < 0 then ((k:Int)+(n:Int)).27 else min (k:Int).27 n)=min k n
 rw[if_neg (),Int.toNat_natCast]
end
end HT
namespace L2
open PySem PySem.Spec PyProof.Rows
abbrev TO:=St->Hp->(Option Int->Hp->Prop)->Prop
def PO (X:Cx) (e:Option Expr) (t:TO):Prop :=
 ∀(YZ:List (Addr×Obj)) (s:Xv) (σ:St) (H:Hp) (Q:Option Int->Hp->Prop),Inv X YZ σ H s->t σ H Q →
  XF (model X.21 X.w) X.A (evalPart e X.16) (λu s'=>∃o H',Inv X YZ σ H' s'/\IsPart u o/\Q o H') X.xe s
def Ke:TO:=λ_ H Q=>Q none H
def SD (t:TE):TO:=λσ H Q=>t σ H λx H1=>∃i,x=.int i/\Q (some i) H1
theorem intsAre_of:∀{us:List Value},cZ (ns.11 V.int) us->IntsAre us ns:=by
 induction ns with
 | nil=>intro us r;rw[LI] at r;cases r;show .nil
 | cons n ns ih =>
  intro us r;rw[iW] at r;cases r with
  | cons r1 r2 =>
   obtain t|e:=r1;subst e;show .cons n t (ih r2)
section
variable {X:Cx} {e:Expr} {te:TE} {lo hi:Option Expr} {tl th:TO} {pos p2:Pos}
theorem wN:PO X none Ke:=by
 intro YZ s σ H Q I h;rw[evalPart_none];show XH #[none,H,I,.none,h]
theorem wM (h:PE X e te):PO X (some e) (SD te):=by
 intro YZ s σ H Q I hw;rw[evalPart_some];refine iq (h YZ s σ H _ I hw) λu s1 hz=>?_
 obtain x|H1|I1|r1|q1:=hz;obtain i|rfl|q:=q1;obtain t|rfl:=r1;show #[some i,H1,I1,.int i t,q]
def Xo (X:Cx) (r:V->Option Int->Option Int->Hp->VK->Prop):Prop :=
 ∀(YZ:List (Addr×Obj)) (s:Xv) (σ:St) (H:Hp) (x:V) (v vl vu:Value) (lo hi:Option Int) (sl:Addr) (Q:VK),Inv X YZ σ H s->RelV x v->s.heap.IsSliceOf sl vl vu .none->IsPart vl lo->IsPart vu hi->r x lo hi H Q →
  ∃T id,typeLookup (.type T) "__getitem__"=pure (some (.builtin id))/\s.TypeIs v T/\XF (model X.21 X.w) X.A (getItem v (.ref sl)) (EP X YZ σ Q) X.xe s
def tSl (r:V->Option Int->Option Int->Hp->VK->Prop) (te:TE) (tl th:TO):TE:=λσ H Q=>te σ H λx H1=>tl σ H1 λl H2=>th σ H2 λu H3=>r x l u H3 Q
theorem tZ (hr:Xo X r) (he:PE X e te) (hl:PO X lo tl) (hu:PO X hi th):PE X (.Subscript e (.Slice lo hi none p2) pos) (tSl r te tl th):=by
 intro YZ s σ H Q I h;refine Subscript_ (iq (he YZ s σ H _ I h) λv s1 hz=>?_);obtain x|H1|I1|r1|q1:=hz;refine wpAny_Slice (iq (hl YZ s1 σ H1 _ I1 q1) λvl s2 #[l,H2,I2,pl,q2]=>iq (hu YZ s2 σ H2 _ I2 q2) λvu s3 hz=>?_);obtain u|H3|I3|pu|q3:=hz;rw[evalPart_none];refine XH ?_;have I4:Inv X YZ σ H3 { s3 with heap:=s3.heap.25 { cls:=.type "slice",data:=.fields [vl,vu,.none].12 } }:=I3.59 (t':=s3.26) λb ob q=>Xx _ q
 obtain T|id|hT|ht|hg:=hr YZ { s3 with heap:=s3.heap.25 { cls:=.type "slice",data:=.fields [vl,vu,.none].12 } } σ H3 x v vl vu l u s3.heap.objs.39 Q I4 r1 (Heap.IsSliceOf.new ..) pl pu q3;change XF (model X.21 X.w) X.A (subscriptTail e (.Slice lo hi none p2) v (.ref s3.6)) (EP X YZ σ Q) X.xe { s3 with heap:=s3.heap.25 { cls:=.type "slice",data:=.fields [vl,vu,.none].12 } }
 show tail_any (ops:=[.ref s3.6,v]) ht hT hg (by with_unfolding_all rfl)
def uQ (xs:List V) (lo hi:Option Int):List V:=(xs.40 (HT.Gu xs.9 0 lo)).18 (HT.Gu xs.9 xs.9 hi - HT.Gu xs.9 0 lo)
theorem zh (xs:List V) (lo hi:Option Int):(uQ xs lo hi).9<=xs.9:=by
 unfold uQ;rw[aS,zo]
 lia
end
def MZ (n:Nat) (i:Int):Option Nat:=if 0<=i then (if i < n then some i.27 else none) else if -(n:Int)<=i then some (i+n).27 else none
def JR {α:Type} (xs:List α) (i:Int):Option α:=(MZ xs.9 i).bind λj=>xs[j]?
theorem Li (h:MZ n i=some j):seqIndex? i n=some j/\j < n/\-(n:Int)<=i/\i < n:=by
 unfold MZ at h;by_cases h0:0<=i
 ·rw[if_pos h0] at h;by_cases h1:i < n
  ·rw[if_pos h1] at h;have e:i.27=j:=cm h;show #[by rw[seqIndex_of h0 h1,e],(),(),h1]
  ·rw[if_neg h1] at h;cases h
 ·rw[if_neg h0] at h;by_cases h1:-(n:Int)<=i
  ·rw[if_pos h1] at h;have e:(i+n).27=j:=cm h;show #[by rw[seqIndex_neg () h1,e],(),h1,()]
  ·rw[if_neg h1] at h;cases h
theorem Fb {xs:List α} {v:α} (h:JR xs i=some v):∃j,seqIndex? i xs.9=some j/\xs[j]?=some v/\j < xs.9/\-(xs.9:Int)<=i/\i < xs.9:=by
 unfold JR at h;cases e:MZ xs.9 i with
 | none=>rw[e] at h;cases h
 | some j =>
  rw[e] at h;obtain h1|h2|h3|h4:=Li e;show #[j,h1,h,h2,h3,h4]
theorem fw {xs:List α} {j:Nat} {v:α} (h:xs[j]?=some v):JR xs (j:Int)=some v:=by
 have hj:j < xs.9:=(aI.mp h).1
 have e:MZ xs.9 (j:Int)=some j:=by
  unfold MZ;rw[if_pos (),if_pos ()];simp
 unfold JR;rw[e];show h
theorem Bj (xs:List α) (v:α):JR (xs++[v]) (-1)=some v:=by
 have hl:(xs++[v]).9=xs.9+1:=by simp
 have e:MZ (xs++[v]).9 (-1)=some xs.9:=by
  unfold MZ;rw[hl,if_neg (),if_pos ()];congr 1
  lia
 unfold JR;rw[e];change (xs++[v])[xs.9]?=some v
 simp
def Sm (b:Expr):Prop:=∀o i,subscripted b false o i=operate [o,i] (getItem o i)
def WC (X:Cx) (r:R2):Prop :=
 ∀(value slice:Expr) (YZ:List (Addr×Obj)) (s:Xv) (σ:St) (H:Hp) (x y:V) (v u:Value) (Q:VK),Inv X YZ σ H s->RelV x v->RelV y u->r x y H Q →
  subscripted slice false v u=operate [v,u] (getItem v u)->XF (model X.21 X.w) X.A (subscriptTail value slice v u) (EP X YZ σ Q) X.xe s
def MtR (X:Cx) (id:String) (r:V->List V->Hp->VK->Prop):Prop :=
 ∀(YZ:List (Addr×Obj)) (s:Xv) (σ:St) (H:Hp) (x:V) (xs:List V) (v:Value) (us:List Value) (Q:VK),Inv X YZ σ H s->RelV x v->cZ xs us->r x xs H Q →
  XF (model X.21 X.w) X.A (call (.builtin id) (v :: us)) (EP X YZ σ Q) X.xe s
section
variable {X:Cx} {a b:Expr} {ta tb:TE} {pos:Pos}
theorem a7 {r:R2} (hr:WC X r) (ha:PE X a ta) (hb:PE X b tb) (hs:Sm b:=by intro _ _;rfl):PE X (.Subscript a b pos) (VB r ta tb):=by
 intro YZ s σ H Q I h;show Subscript_ (U3 ha hb I h λv u s2 x y H2 I2 rx ry q=>hr a b YZ s2 σ H2 x y v u Q I2 rx ry q (hs _ _))
def Us (K:Y2):R2:=λx y H Q=>∃p xs i v,x=.ref p/\y=.int i/\bY K H p xs/\JR xs i=some v/\Q v H
def Ur (K:Y2):R2:=λx y H Q=>∃p xs i v,x=.ref p/\y=.int i/\nD K H p xs/\JR xs i=some v/\Q v H
theorem ck:WC X (Us X.K):=by
 intro value slice YZ s σ H x y v u Q I rx ry h hs;obtain p|xs|i|z|rfl|rfl|hq|he|q:=h;cases rx;obtain t|rfl:=ry;obtain Y5|r|pl|hz:=I.31 hq;obtain j|h1|h2|h3|h4|h5:=Fb he;obtain w|ew|Zz:=r.get h2;have hl:=r.9;have hn:=AY;have fin:EP X YZ σ Q w s:=#[z,H,I,Zz,q];by_cases h0:0<=i
 ·have hj:i.27=j:=by
   rw[seqIndex_of h0 h5] at h1;show cm h1
  show item_listR pl.20 h0 () (by rw[hj];simpa using ew) fin hs
 ·have hj:(i+(Y5.5.7:Int)).27=j:=by
   rw[seqIndex_neg () h4] at h1;rw[aQ,<- hl];show cm h1
  show subscriptTail_builtinR (x:=w) pl.isList.typeIs slot_list_getitem.13
   (wpAny_getItem_list_neg (Q:=λr s'=>r=w/\EP X YZ σ Q r s') pl.20 () (by rw[aQ] <;> lia) () (by rw[hj];simpa using ew) #[rfl,fin]) hs
theorem b6:WC X (Ur X.K):=by
 intro value slice YZ s σ H x y v u Q I rx ry h hs;obtain p|xs|i|z|rfl|rfl|hq|he|q:=h;cases rx;obtain t|rfl:=ry;obtain Y5|r|pl|hz:=I.44 hq;obtain j|h1|h2|h3|h4|h5:=Fb he;obtain w|ew|Zz:=r.get h2;have hl:=r.9;have hn:=AY;have fin:EP X YZ σ Q w s:=#[z,H,I,Zz,q]
 show subscriptTail_builtinR (x:=w) pl.typeIs slot_tuple_getitem.13
  (getItem_tuple (j:=j) (Q:=λr s'=>r=w/\EP X YZ σ Q r s') pl () () (by rw[aQ,<- hl];show h1) (by simpa using ew) #[rfl,fin]) hs
theorem Jr (Y5:List Value) (n j:Nat) (u:Value):XZ (·.setIfInBounds j u) { cls:=.type "list",data:=.seq Y5.12 n }={ cls:=.type "list",data:=.seq (Y5.43 j u).12 n }:=by
 simp [XZ]
theorem Inv.lst {YZ:List (Addr×Obj)} {σ:St} {H:Hp} {s:Xv} {p:Addr} {xs:List V} (I:Inv X YZ σ H s) (h:H p=some (.lst xs)) :
  ∃(Y5:List Value) (n:Nat),cZ xs Y5/\s.heap.14 p=some { cls:=.type "list",data:=.seq Y5.12 n }/\xs.9<=XG:=by
 obtain z|Y5|n|r|e:=I.Zb p _ h;show #[Y5,n,r,e,z]
theorem Inv.aaT {σ:St} {Y5 its':List Value} (I:Inv X YZ σ H s) (h:H p=some (.lst xs))
  (ho:s.heap.14 p=some { cls:=.type "list",data:=.seq Y5.12 n }) (hf:f { cls:=.type "list",data:=.seq Y5.12 n }={ cls:=.type "list",data:=.seq its'.12 n' }) (r:cZ ys its') (hz:ys.9<=XG) (t:Nat) :
  Inv X YZ σ (upd H p (.lst ys)) { s with heap:=s.heap.49 p f,toks:=t }:=by
 have e:(s.heap.49 p f).14 p=some { cls:=.type "list",data:=.seq its'.12 n' }:=by
  rw[Heap.get?_update_self f ho (by rw[hf] <;> rfl),hf]
 refine I.write (x:=p) (e:=p) (by rw[h];trivial) (.inl rfl) (λb u hb q=>(XW _ _ (Yg hb)).4 q) #[_,e] ?_;show #[hz,its',n',r,e]
def S0:V->V->V->Hp->(Hp->Prop)->Prop:=λo i v H Q=>∃p xs k j,o=.ref p/\i=.int k/\H p=some (.lst xs)/\MZ xs.9 k=some j/\Q (upd H p (.lst (xs.43 j v)))
theorem set_list:U9 X S0:=by
 intro YZ s σ H o i v ov iv u Q I ro ri rv h;obtain p|xs|k|j|rfl|rfl|hp|hj|q:=h;cases ro;obtain t|rfl:=ri;obtain Y5|n|r|ho|hz:=I.lst hp;obtain h1|h2|h3|h4:=Li hj;have hl:=r.9;have hn:=AY
 have I':Inv X YZ σ (upd H p (.lst (xs.43 j v))) { s with heap:=s.heap.49 p (XZ (·.setIfInBounds j u)) } :=
  I.aaT hp ho (Jr Y5 n j u) (r.43 rv j) (by rw[fh];show hz) s.26
 by_cases h0:0<=k
 ·have hk:k.27=j:=by
   rw[seqIndex_of h0 h4] at h1;show cm h1
  show PySem.W.ki_setAt ho h0 () (by rw[aQ,<- hl];show h4) (by rw[hk];show #[_,I',q])
 ·have hk:(k+(Y5.5.7:Int)).27=j:=by
   rw[seqIndex_neg () h3] at h1;rw[aQ,<- hl];show cm h1
  show PySem.W.ki_setBack ho () (by rw[aQ,<- hl];show h3) () (by rw[hk];show #[_,I',q])
theorem DE (lo hi:Option Int) (n:Nat):(YO lo hi none n).1=((HT.Gu n 0 lo:Nat):Int)/\(YO lo hi none n).2.1=((HT.Gu n n hi:Nat):Int)/\(YO lo hi none n).2.2=1:=by
 refine #[?_,?_,rfl]
 ·cases lo with
  | none=>simp [YO,HT.Gu]
  | some i =>
   simp only[YO,HT.Gu,Option.getD_none,show (1:Int) > 0 by decide,if_true];by_cases h:i < 0
   ·simp only[h,if_true] <;> lia
   ·simp only[h,if_false] <;> lia
 ·cases hi with
  | none=>simp [YO,HT.Gu]
  | some i =>
   simp only[YO,HT.Gu,Option.getD_none,show (1:Int) > 0 by decide,if_true];by_cases h:i < 0
   ·simp only[h,if_true] <;> lia
   ·simp only[h,if_false] <;> lia
theorem BD (Y5:List Value) (lo hi:Option Int):slicePick Y5.12 lo hi none=((Y5.40 (HT.Gu Y5.9 0 lo)).18 (HT.Gu Y5.9 Y5.9 hi - HT.Gu Y5.9 0 lo)).5:=by
 obtain h1|h2|h3:=DE lo hi Y5.5.7;unfold slicePick;rw[h1,h2,h3];simp only[sliceRange_one,pick_run,aQ] <;> rfl
def Up (K:Y2):V->Option Int->Option Int->Hp->VK->Prop:=λx lo hi H Q=>∃a xs,x=.ref a/\bY K H a xs/\∀p,H p=none->Q (.ref p) (upd H p (.lst (uQ xs lo hi)))
theorem DF:Xo X (Up X.K):=by
 intro YZ s σ H x v vl vu lo hi sl Q I rx hs pl pu h;obtain a|xs|rfl|hx|q:=h;cases rx;obtain Y5|r|ht|hz:=I.31 hx;have Za:=r.9;refine #["list",_,slot_list_getitem.13,ht.isList.typeIs,?_];refine wpAny_getItem_list_slice ht.20 hs pl pu .none (by simp) ?_ (by rw[aQ] <;> lia);rw[BD,<- Za];refine #[.ref s.6,_,I.laid (t':=s.26) (o:=.lst (uQ xs lo hi)) (λb ob q=>Xx _ q) (aj _) ?_,rfl,q _ (I.Zb.42 (aj _))];show #[ai (zh xs lo hi) hz,_,0,(r.40 (HT.Gu xs.9 0 lo)).18 (HT.Gu xs.9 xs.9 hi - HT.Gu xs.9 0 lo),XO _ rfl]
def xv:V->Bool
 | .Ze=>true
 | .bl _=>true
 | .int _=>true
 | .str _=>true
 | _=>false
def Th:V->V->Bool
 | .Ze,.Ze=>true
 | .bl a,.bl b=>a == b
 | .bl a,.int b=>(if a then 1 else 0) == b
 | .int a,.bl b=>a == (if b then 1 else 0)
 | .int a,.int b=>a == b
 | .str a,.str b=>a == b
 | _,_=>false
theorem UX (ry:RelV y u) (rx:RelV x v) (fy:xv y=true) (fx:xv x=true):XR A s u v (Th y x):=by
 cases y with
 | Ze =>
  cases ry;cases x with
  | Ze=>cases rx;show XR.same _
  | bl b=>cases rx;show XR.none_bool b
  | int b=>obtain t|rfl:=rx;show XR.none_int b t
  | str b=>obtain t|rfl:=rx;show XR.none_str b t
  | _=>show absurd (show false=true from fx) bA
 | bl a =>
  cases ry;cases x with
  | Ze=>cases rx;show XR.bool_none a
  | bl b=>cases rx;show XR.bool_bool a b
  | int b=>obtain t|rfl:=rx;show XR.bool_int a b t
  | str b=>obtain t|rfl:=rx;show XR.bool_str a b t
  | _=>show absurd (show false=true from fx) bA
 | int a =>
  obtain t'|rfl:=ry;cases x with
  | Ze=>cases rx;show XR.int_none a t'
  | bl b=>cases rx;show XR.int_bool a t' b
  | int b=>obtain t|rfl:=rx;show XR.int_int a t' b t
  | str b=>obtain t|rfl:=rx;show XR.int_str a t' b t
  | _=>show absurd (show false=true from fx) bA
 | str a =>
  obtain t'|rfl:=ry;cases x with
  | Ze=>cases rx;show XR.str_none a t'
  | bl b=>cases rx;show XR.str_bool a t' b
  | int b=>obtain t|rfl:=rx;show XR.str_int a t' b t
  | str b=>obtain t|rfl:=rx;show XR.str_str a t' b t
  | _=>show absurd (show false=true from fx) bA
 | _=>show absurd (show false=true from fy) bA
def RJ (x:V) (u:Value):Bool:=match u with
 | .none=>Th .Ze x
 | .bool b=>Th (.bl b) x
 | .int i _=>Th (.int i) x
 | .str z _=>Th (.str z) x
 | _=>false
theorem Pc (r:RelV y u) (f:xv y=true):RJ x u=Th y x:=by
 cases y with
 | Ze=>cases r;rfl
 | bl b=>cases r;rfl
 | int i=>obtain t|rfl:=r;rfl
 | str z=>obtain t|rfl:=r;rfl
 | _=>show absurd (show false=true from f) bA
theorem Fd {x:V}:∀{xs:List V} {us:List Value},cZ xs us->xs.all xv=true->us.any (RJ x)=xs.any λy=>Th y x
 | _,_,.nil,_=>rfl
 | y :: xs,u :: us,.cons r t,f=>by
  rw[Vr,eh] at f;rw[List.any_cons,List.any_cons,Pc r f.1,Fd t f.2]
theorem AU {A:Yd} {s:Xv} {x:V} {v:Value} (rx:RelV x v) (fx:xv x=true):∀{xs:List V} {us:List Value},cZ xs us->xs.all xv=true->∀u∈us,XR A s u v (RJ x u)
 | _,_,.nil,_=>λu hu=>by cases hu
 | y :: xs,u :: us,.cons r t,f=>λu' hu=>by
  rw[Vr,eh] at f;rcases aM.mp hu with rfl | hu
  ·rw[Pc r f.1];show UX r rx f.1 fx
  ·show AU rx fx t f.2 u' hu
def WM (x:V) (xs:List V):Bool:=xs.any λy=>Th y x
def rIn (K:Y2) (neg:Bool):R2:=λx y H Q=>∃p xs,y=.ref p/\(bY K H p xs\/nD K H p xs)/\xv x=true/\xs.all xv=true/\Q (.bl (if neg then !WM x xs else WM x xs)) H
theorem D9:yX X (Yh .NotIn) (rIn X.K true):=by
 intro YZ s σ H x y v u Q I rx ry h;obtain p|xs|rfl|hq|fx|fs|q:=h;cases ry;rcases hq with hq | hq
 ·obtain Y5|r|pl|hz:=I.31 hq;refine SeqAt.notIn_listAt (RJ x) pl.20 (λw hw=>AU rx fx r fs w (by simpa using hw)) #[.bl _,H,I,rfl,?_];rw[show Y5.toArray.any (RJ x)=Y5.any (RJ x) by simp,Fd r fs];show q
 ·obtain Y5|r|pl|hz:=I.44 hq;refine SeqAt.notIn_tupleAt (RJ x) pl (λw hw=>AU rx fx r fs w (by simpa using hw)) #[.bl _,H,I,rfl,?_];rw[show Y5.toArray.any (RJ x)=Y5.any (RJ x) by simp,Fd r fs];show q
theorem aY:qJ X (.builtin "len") (λxs H Q=>∃p ys,xs=[.ref p]/\(bY X.K H p ys\/nD X.K H p ys)/\Q (.int ys.9) H):=by
 intro YZ s σ H xs us Q I r h;obtain p|ys|rfl|hq|q:=h;obtain u|rfl|rx:=vals1 r;cases rx;have hn:=AY;rcases hq with hq | hq
 ·obtain Y5|r'|pl|hz:=I.31 hq;have Za:=r'.9;show Calls.call_len_list pl.20 (by simp only[aQ] <;> lia) #[.int ys.9,H,I.tok _,#[s.26+1,by rw[aQ,Za]],q]
 ·obtain Y5|r'|pl|hz:=I.44 hq;have Za:=r'.9;show len_tuple pl (by simp only[aQ] <;> lia) #[.int ys.9,H,I.tok _,#[s.26+1,by rw[aQ,Za]],q]
theorem xA:qJ X (.type "list") (λxs H Q=>∃p ys,xs=[.ref p]/\(bY X.K H p ys\/nD X.K H p ys)/\∀l,H l=none->Q (.ref l) (upd H l (.lst ys))):=by
 intro YZ s σ H xs us Q I r h;obtain p|ys|rfl|hq|q:=h;obtain u|rfl|rx:=vals1 r;cases rx
 have fin:∀(Y5:List Value),cZ ys Y5->ys.9<=XG->∀(h':Heap) (c':Nat),(∀b o',s.heap.14 b=some o'->h'.14 b=some o') →
   h'.14 s.6=some { cls:=.type "list",dict:=none,data:=.seq Y5.12 c',slots:=[].12 }->EP X YZ σ Q (.ref s.6) { s with heap:=h' }:=λY5 r' hz h' c' kp e =>
  #[.ref s.6,_,I.laid (t':=s.26) kp (aj _) (show kv X.21 X.w _ h' _ (.lst ys) from #[hz,Y5,c',r',e]),rfl,q _ (I.Zb.42 (aj _))]
 rcases hq with hq | hq
 ·obtain Y5|r'|pl|hz:=I.31 hq;have Za:=r'.9;obtain o|ho|hc|n|hd:=pl.20;show call_list_seq p (.inl rfl) ho hc hd (λh' c' kp e=>fin Y5 r' hz h' c' kp e) (by simp only[aQ] <;> lia)
 ·obtain Y5|r'|pl|hz:=I.44 hq;have Za:=r'.9;obtain o|ho|hc|n|hd:=pl;show call_list_seq p (.inr rfl) ho hc hd (λh' c' kp e=>fin Y5 r' hz h' c' kp e) (by simp only[aQ] <;> lia)
def WT (K:Y2) (T:String) (x:V) (H:Hp):Prop:=match x with
 | .str _=>T="str"
 | .int _=>T="int"
 | .ref p=>(T="list"/\∃xs,bY K H p xs)\/(T="tuple"/\∃o,K.13 p=some o/\o.cls=.type "tuple"/\o.dict=none) \/
   (T="dict"/\((∃ZP,H p=some (.dK ZP))\/∃ZP,H p=some (.dT ZP)))\/(T="set"/\∃S n,H p=some (.set S n))
 | _=>False
theorem TC {σ:St} (I:Inv X YZ σ H s) (r:RelV x v) (ty:WT X.K T x H) :
  s.TypeIs v T/\∀a,v=.ref a->∃ob,s.heap.14 a=some ob/\ob.dict=none:=by
 cases x with
 | str z =>
  obtain t|rfl:=r;cases (show T="str" from ty);show #[typeIs_str s z t,λ_ e=>nomatch e]
 | int i =>
  obtain t|rfl:=r;cases (show T="int" from ty);show #[typeIs_int s i t,λ_ e=>nomatch e]
 | ref p =>
  cases r;rcases ty with ⟨rfl,xs,hq⟩ | ⟨rfl,o,hk,hc,hd⟩ | ⟨rfl,hk⟩ | ⟨rfl,S,n,hk⟩
  ·obtain Y5|_|pl|_:=I.31 hq;refine #[pl.isList.typeIs,λa e=>?_];cases e;obtain o|n|e|c|hd|_:=pl;show #[o,e,hd]
  ·refine #[#[o,I.ZQ p o hk,hc],λa e=>?_];cases e;show #[o,I.ZQ _ o hk,hd]
  ·have z:∃o,s.heap.14 p=some o/\o.ExactDict:=by
    rcases hk with ⟨ZP,hk⟩ | ⟨ZP,hk⟩
    ·obtain _|_|_|_|o|_|_|e|ex|_:=I.Zb p _ hk;show #[o,e,ex]
    ·obtain _|_|_|_|o|_|_|e|ex|_:=I.Zb p _ hk;show #[o,e,ex]
   obtain o|e|ex:=z;refine #[#[o,e,ex.1],λa e2=>?_];cases e2;show #[o,e,ex.2.1]
  ·obtain o|_|_|_|e|ex|_:=I.Zb p _ hk;refine #[#[o,e,ex.1],λa e2=>?_];cases e2;show #[o,e,ex.2.1]
 | _=>show Ye ty
def tBM (K:Y2) (T:String) (r:V->List V->Hp->VK->Prop) (to:TE) (t:TA):TE:=λσ H Q=>to σ H λx H1=>WT K T x H1/\t σ H1 λxs H2=>r x xs H2 Q
variable {o e:Expr} {es:List Expr} {to:TE} {t:TA} {name:Str} {apos _P:Pos} {T id:String} {r:V->List V->Hp->VK->Prop}
theorem wV (pa:PlainAttrs T) (slot:Slot T name id) (hty:typeOf (.builtin id)=pure (.type "method_descriptor")) (hm:MtR X id r) (ho:PE X o to) (ha:PA X (e :: es) t)
  (adf:attributeBase o name X.16 (eval o X.16)=eval o X.16:=by rfl)
  (agv:((backTo _P (Xy (e :: es) X.16)).all (λx=>!x.1) && (backToKw _P (keywordEach [] X.16)).all (λx=>x.1.isSome)
   && decide ((e :: es).9+([]:List Keyword).9+(if ([]:List Keyword).isEmpty then 0 else 1) < 30))=true:=by rfl)
  (acT:(apos.endLine == _P.line)=true:=by rfl) (hs:Xy (e :: es) X.16=(false,eval e X.16) :: Xy es X.16:=by rfl) (aaZ:(backTo _P (Xy es X.16)).any (·.1)=false:=by rfl) :
  PE X (.Call (.Attribute o name apos) (e :: es) [] _P) (tBM X.K T r to t):=by
 intro YZ s σ H Q I h;refine wpAny_Call_method_late adf agv acT rfl (iq (ho YZ s σ H _ I h) λv s1 hz=>?_);obtain x|H1|I1|r1|ty|q1:=hz;obtain h1|h2:=TC I1 r1 ty;refine #[T,id,pa,slot,hty,h1,h2,?_];have hA:=ha _P YZ s1 σ H1 _ I1 q1;rw[hs] at hA ⊢;refine Calls.callWith_builtin (by change (false || (backTo _P (Xy es X.16)).any (·.1))=false;rw[aaZ] <;> rfl) (Calls.evalArgs_plain ?_);show iq hA λus s2 ⟨vs,H2,I2,r2,q2⟩=>hm YZ s2 σ H2 x vs v us Q I2 r1 r2 q2
end
def MtM (X:Cx) (id:String) (r:V->List V->Hp->VK->Prop):Prop :=
 ∀(YZ:List (Addr×Obj)) (s:Xv) (σ:St) (H:Hp) (x:V) (xs:List V) (v:Value) (us:List Value) (Q:VK),Inv X YZ σ H s->RelV x v->cZ xs us->r x xs H Q →
  XF (model X.21 X.w) X.A (call (.builtin id) (v :: us)) (EP X YZ σ Q) X.xe s
theorem cZ.one:∀{x:V} {us:List Value},cZ [x] us->∃u,us=[u]/\RelV x u
 := by
 intro x us h;cases h with | cons r t=>cases t;show #[_,rfl,r]
theorem cZ.eraseIdx:∀{xs:List V} {us:List Value} (i:Nat),cZ xs us->cZ (xs.23 i) (us.23 i)
 | _,_,_,.nil=>.nil
 | _,_,0,.cons _ t=>t
 | _,_,i+1,.cons r t=>.cons r (cZ.eraseIdx i t)
theorem cZ.rep {xs:List V} {us:List Value} (h:cZ xs us):∀k:Nat,cZ (K0 k xs).flatten (K0 k us).flatten
 | 0=>.nil
 | k+1=>by
  rw[mY,mY,iQ,iQ];show cZ.append h (cZ.rep h k)
theorem CY {α:Type}:∀(l:List α) (i:Nat),(l.23 i).9<=l.9
 | [],_=>aj _
 | _ :: _,0=>lG _
 | _ :: r,i+1=>dR (CY r i)
theorem foldl_rep (Y5:List Value):∀(k:Nat) (acc:List Value),
  List.foldl (λx1 x2=>x1++x2) acc.12 (K0 k Y5.5)=(acc++(K0 k Y5).flatten).5
 | 0,acc=>by simp
 | k+1,acc=>by
  have e:acc.5++Y5.5=(acc++Y5).5:=by simp
  have e2:(acc++Y5)++(K0 k Y5).flatten=acc++(K0 (k+1) Y5).flatten:=by
   rw[mY,iQ,cC]
  rw[<- e2,<- foldl_rep Y5 k (acc++Y5),<- e,mY,List.foldl_cons]
section
variable {σ:St}
theorem Inv.acA {Y5 its':List Value} (I:Inv X YZ σ H s) (hH:H l=some (.lst xs))
  (e:s.heap.14 l=some { cls:=.type "list",data:=.seq Y5.12 n }) (hf:f Y5.5=its'.5) (hv:cZ ys its') (hz:ys.9<=XG) :
  Inv X YZ σ (upd H l (.lst ys)) { s with heap:=s.heap.49 l (XZ f),toks:=t' }:=by
 have q:=mO e f;rw[hf] at q;refine I.write (x:=l) (e:=l) (by rw[hH];show trivial) (.inl rfl) (λb' u hb hu=>(XW s.29 (XZ f) (Yg hb)).4 hu) #[_,q] ?_;show #[hz,its',_,hv,q]
theorem Inv.acC (I:Inv X YZ σ H s) (hv:cZ ys Y5) (hz:ys.9<=XG) :
  Inv X YZ σ (upd H s.heap.objs.39 (.lst ys)) { s with heap:=s.heap.25 { cls:=.type "list",data:=.seq Y5.5 },toks:=t' } :=
 I.laid (λ_ _ q=>Xx _ q) (aj _) #[hz,Y5,0,hv,XO _ rfl]
theorem Inv.fresh (I:Inv X YZ σ H s):H s.6=none:=I.Zb.42 (aj _)
theorem Inv.t! (I:Inv X YZ σ H s) (hH:H l=some (.lst xs)):xs.9<=XG/\∃(Y5:List Value) (n:Nat),cZ xs Y5/\xs.9=Y5.9/\s.heap.14 l=some { cls:=.type "list",data:=.seq Y5.12 n }:=by
 obtain z|Y5|n|r|e:=I.Zb l _ hH;show #[z,Y5,n,r,r.9,e]
theorem OA (h:n<=XG):YK n=false:=by
 unfold YK;show decide_eq_false ()
end
section
variable {X:Cx}
def KR:V->List V->Hp->VK->Prop:=λx vs H Q=>∃l xs y,x=.ref l/\vs=[y]/\H l=some (.lst xs)/\xs.9 < XG/\Q .Ze (upd H l (.lst (xs++[y])))
theorem ki:MtM X "list.append" KR:=by
 intro YZ s σ H x vs v us Q I rx rv h;obtain l|xs|y|rfl|rfl|hH|hz|q:=h;cases rx;obtain u|rfl|ru:=rv.one;obtain z|Y5|n|r|hl|e:=I.t! hH;refine call_meets F.slot_list_append #[_,e,rfl] F.entry_list_append (F.args_list_append_2 _ _) (PySem.list_append l Y5.12 n u (by rw[aQ];lia)) #[e,?_];refine #[.Ze,_,I.acA (its':=Y5++[u]) hH e (by simp) (r.append (.cons ru .nil)) ?_,rfl,q];rw[ax,bN]
 lia
def Uq:V->List V->Hp->VK->Prop:=λx vs H Q=>∃l xs i k y,x=.ref l/\vs=[.int i]/\H l=some (.lst xs)/\-(2^63)<=i/\i < 2^63/\seqIndex? i xs.9=some k/\xs[k]?=some y/\Q y (upd H l (.lst (xs.23 k)))
theorem OD:MtM X "list.pop" Uq:=by
 intro YZ s σ H x vs v us Q I rx rv h;obtain l|xs|i|k|y|rfl|rfl|hH|h1|h2|hk|hy|q:=h;cases rx;obtain u|rfl|ru:=rv.one;obtain t|rfl:=ru;obtain z|Y5|n|r|hl|e:=I.t! hH;obtain w|hw|Zz:=r.get hy
 refine call_meets F.slot_list_pop #[_,e,rfl] F.entry_list_pop (F.args_list_pop_2 _ _)
  (MeetsSeq.list_pop_at l Y5.12 n i t k w (fitsIndex_both h1 h2) (by rw[aQ,<- hl];show hk) (by rw[<- Array.getElem?_toList];show hw) (by rw[aQ];lia)) #[e,?_]
 refine #[y,_,I.acA (its':=Y5.23 k) hH e ?_ (r.23 k) ?_,Zz,q]
 ·change Y5.toArray.eraseIdxIfInBounds k=(Y5.23 k).12
  rw[List.eraseIdxIfInBounds_toArray]
 ·have:=CY xs k
  lia
def Wa:R2:=λx y H Q=>∃l b xs zs,x=.ref l/\y=.ref b/\H l=some (.lst xs)/\H b=some (.lst zs)/\xs.9+zs.9<=XG/\∀p,H p=none->Q (.ref p) (upd H p (.lst (xs++zs)))
theorem l8:yX X (YW .Add) Wa:=by
 intro YZ s σ H x y v u Q I rx ry h;obtain l|b|xs|zs|rfl|rfl|hH|hB|hz|q:=h;cases rx;cases ry;obtain z|Y5|n|r|hl|e:=I.t! hH;obtain z2|acH|n2|r2|hl2|e2:=I.t! hB;refine PySem.P.add_list e e2 ?_ (by rw[aQ,aQ];lia);have ea:Y5.5++acH.5=(Y5++acH).5:=by simp
 rw[ea];show #[.ref _,_,I.acC (t':=s.26) (r.append r2) (by rw[ax];lia),rfl,q _ I.42]
def V6:R2:=λx y H Q=>∃l k xs,x=.ref l/\y=.int k/\H l=some (.lst xs)/\-(2^63)<=k/\k < 2^63/\xs.9*k.27<=XG /\
 ∀p,H p=none->Q (.ref p) (upd H p (.lst (K0 k.27 xs).flatten))
theorem len_rep {α:Type} (xs:List α) (k:Nat):(K0 k xs).flatten.length=k*xs.9:=by
 induction k with
 | zero=>simp
 | succ k ih=>rw[mY,iQ,ax,ih,iN,d6]
theorem Om:yX X (YW .Mult) V6:=by
 intro YZ s σ H x y v u Q I rx ry h;obtain l|k|xs|rfl|rfl|hH|h1|h2|hz|q:=h;cases rx;obtain t|rfl:=ry;obtain z|Y5|n|r|hl|e:=I.t! hH;have Za:Y5.5.7*k.27<=XG:=by rw[aQ,<- hl];show hz
 have Zx:¬Y5.5.7*k.27 > (2^63 - 1) / 8:=by
  have:(XG:Nat)<=(2^63 - 1) / 8:=()
  lia
 have agu:¬(!Yx.List.listFitsIndex k)=true:=by
  rw[fitsIndex_both h1 h2];show bA
 have acR:¬YK (Y5.5.7*k.27)=true:=by
  rw[OA Za];show bA
 have agj:List.foldl (λx1 x2=>x1++x2) [].12 (K0 (if Y5.toArray.isEmpty=true then 0 else k.27) Y5.5)=(K0 k.27 Y5).flatten.toArray:=by
  have f0:∀m:Nat,List.foldl (λx1 x2=>x1++x2) [].12 (K0 m Y5.5)=(K0 m Y5).flatten.toArray:=λm=>by
   have:=foldl_rep Y5 m [];rw[c4] at this;show this
  rw[f0];cases Y5 with
  | nil=>simp
  | cons a r'=>rw[if_neg (by simp)]
 refine wpAny_binaryOp_repeat_ref (T:="list") (U:="int") () #[_,e,rfl] (λs'=>typeIs_int s' k t) noFill_list_mul F.fills_int_mul F.slot_int_rmul repeat_list F.slot_int_index.13
  (call_meets F.slot_int_rmul (typeIs_int s k t) F.entry_int_rmul (F.args_int_rmul_2 _ _) (int___rmul___int_list k t l Y5.12 n)
   #[e,rfl,#[_,e,rfl],call_meets F.slot_list_mul #[_,e,rfl] F.entry_list_mul (F.args_list_mul_2 _ _) (AutoListH.list___mul___list_int_3 l Y5.12 n k t agu Zx acR) #[e,?_]])
 rw[agj];show #[.ref _,_,I.acC (t':=s.26) (r.rep k.27) (by rw[len_rep,cB];show hz),rfl,q _ I.42]
end
end L2
namespace Att
open PySem PySem.W PySem.Calls PyProof.Rows
theorem zy:∀(ns:List Int) (vs:List Value),WellAll P h vs (ns.11 WData.int)->IntsAre vs ns:=by
 intro ns
 induction ns with
 | nil =>
  intro vs w;rw[LI] at w;cases w;show .nil
 | cons n ns ih =>
  intro vs w;rw[iW] at w;cases w with
  | cons a b =>
   cases a;show .cons _ _ (ih _ b)
theorem LV {l:OpenLaw} (hn:l.most=some n) 
  (aae:l.row.toRowW.claim.pre args=true) (hwl:WellAll P h vals args) :
  ∃a vs ns,vals=[XD a]/\args=[WData.list (ns.11 WData.int)]/\h.14 a=some { cls:=.type "list",data:=.seq vs.5 }/\IntsAre vs ns/\ns.9<=n:=by
 have hsh:WShape.hasAll [] args [.list .int]=true:=(pre_splitW aae).1;have hc:l.pre.holds [] { args:=args }=true:=(pre_splitW aae).2;obtain d|r|rfl|h1|h2:=hasAllW_cons hsh;obtain rfl:=hasAllW_nil h2;obtain xs|rfl|h3:=hasW_list h1;obtain ns|rfl:=items_int h3
 have Za:ns.9<=n:=by
  unfold OpenLaw.pre at hc
  have h4:(WTm.not (.lt (.lit (.int (n:Int))) (.len (.arg 0)))).holds [] { args:=[.list (ns.11 .int)] }=true:=by
   have h4:=(holds_andW hc).1;rw[hn] at h4;show h4
  have h5:=condW_of h4 (w_not (w_lt w_lit (w_len_list (w_arg rfl))));rw[af] at h5;refine Nat.le_of_not_lt λq=>?_
  have q':(n:Int) < ((ns.9:Nat):Int):=()
  first
   | (rw[decide_eq_true q'] at h5;show absurd h5 ())
   | (simp at h5;lia)
 cases hwl with
 | cons w1 w2 =>
  cases w2;cases w1 with
  | list ho hall=>show #[_,_,ns,rfl,rfl,ho,zy ns _ hall,Za]
theorem L6 (l:OpenLaw) (args:List WData):l.row.toRowW.claim.post args (.bool true) args=true :=
 postW_of (r:=l.row.toRowW) (X:=(true == true))
  (show WShape.has [] (.bool true) .bool=true by first | rfl | decide | simp [WShape.has,WShape.arms,WShape.armsAll])
  (show (WTm.eq .res (.lit (.bool true))).value [] { args:=args,res:=some (.bool true),after:=args }=some (.bool (true == true)) from w_eq_bool (w_res rfl) w_lit) rfl
theorem HX {l:OpenLaw} 
  (hn:l.most=some n) (hdf:d.params.defaults=[])
  (call:∀(w:Yq) (s₀ s₁:Xv) (mg mb:Str->Option Value) (fa:Addr) (o:Obj) (pm cd doc:Value) (a:Addr) (vs:List Value) (ns:List Int),
   Ground q loose [] XP w s₀ mg mb s₁.8->YP w s₁.8 →
   s₁.heap.14 fa=some o->o.data=.func (docDef d.name d.58 d.body d.scope pm cd doc)->s₁.heap.CodeRec cd d.name->mg d.name=some (.ref fa) →
   s₁.heap.14 a=some { cls:=.type "list",data:=.seq vs.5 }->IntsAre vs ns->ns.9<=n->s₁.gens=[].12 →
   YU (model l.21 w) callerA (.call (.ref fa) #[[.ref a],[]]) (λr s'=>r=.ok (.ret (.bool true))/\OldK s₁.29 s'.8/\s'.os=s₁.os/\AllBare s'.gens) s₁) :
  WalkO q loose XP YP l.row.toRowW d [] (λf vs=>PySem.call f vs):=by
 intro w s₀ s₁ mg mb G Y fa o pm cd doc dV kV ho hd x! hD hmg hg args vals as aae hlay hrd hwl hlo;obtain rfl:dV=.none:=Dflts.none hD hdf;obtain rfl:kV=.none:=Dflts.noKw hD;obtain a|vs|ns|rfl|rfl|abb|hints|Za:=LV hn aae hwl;refine enter_call (codeAny_mono (call w s₀ s₁ mg mb fa o pm cd doc a vs ns G Y ho (fd_plain hd) x! hmg abb hints Za hg) λr s' hq=>?_);obtain rfl|h2|h3|h4:=hq;show #[.inl #[.bool true,.bool true,[],rfl,λ_=>rfl,.bool true,L6 l _,λ_=>#[List.Pairwise.nil,λ_ hm=>(nomatch hm)]],h2,h3,h4]
end Att
namespace L2
open PySem PySem.Spec PyProof.Rows
theorem Cv:∀{vs:List Value} {ns:List Int},IntsAre vs ns->cZ (ns.11 V.int) vs
 | _,_,.nil=>.nil
 | _,_,.cons n t h=>.cons #[t,rfl] (Cv h)
def Va (H:Hp):Prop:=∀b,H b=none\/∃o xs,H b=some (._T o (.lst xs))
theorem OJ {K:Y2} 
  (KX:K.In s₁.8) (M!:s₁.heap.Ns XE mg) (hb:s₁.heap.Ns builtinsNs mb) (hbb:∀x:Str,x≠"__name__"->mb x=Yv x) (ago:s₁.heap.NoLimit) (hsr:s₁.heap.NoSeer) (hg:s₁.gens=[].12)
  (ha:s₁.heap.14 a=some { cls:=.type "list",data:=.seq vs.5 }) (hi:IntsAre vs ns) (hl:ns.9<=XG) (hr:mi k callerA)
  (F:∀base:Heap,K.In base->base.Ns XE mg->uC P w K mg base CX k fa fd [x] sp) (ade:∀(s:Xv) (u:Value),BindsTo s fd #[[u],[]] [(x,u)])
  (hsp:∀H:Hp,Va H->bY K H a (ns.11 V.int)->sp [.ref a] H (λv _=>v=.bl true) λ_ _ _=>False)
  (hCX:∀H e s',CX [] H s₁ (λ_ _ _=>False) e s'->False) :
  YU (model P w) callerA (.call (.ref fa) #[[.ref a],[]]) (λr s'=>r=.ok (.ret (.bool true))/\OldK s₁.29 s'.8/\s'.os=s₁.os/\AllBare s'.gens) s₁:=by
 have rv:=Cv hi;have afE:=hi.length
 have core:∀H:Hp,Va H->bY K H a (ns.11 V.int)->z9 P w H s₁.8->(∀b,H b≠none->b=a)->(H a≠none->K.13 a=none) →
   YU (model P w) callerA (.call (.ref fa) #[[.ref a],[]]) (λr s'=>r=.ok (.ret (.bool true))/\OldK s₁.29 s'.8/\s'.os=s₁.os/\AllBare s'.gens) s₁:=by
  intro H hO hS Zb hA hK;have _u:∀{b:Addr} {o:Obj},s₁.heap.14 b=some o->H b=none->(Ex s₁.29 H).14 b=some o:=λe n=>OX e n
  have noA:∀{b:Addr} {o:Obj} {es:Array DictEntry} {ep:Nat},s₁.heap.14 b=some o->o.data=.dict es ep->H b=none:=λ{b o es ep} e d=>by
   cases q:H b with
   | none=>rfl
   | some u =>
    have e':b=a:=hA b (by rw[q];simp);subst e';rw[ha] at e;cases e;have d':Data.seq vs.12 _=Data.dict es ep:=d;cases d'
  have nsK:∀{b:Addr} {m:Str->Option Value},s₁.heap.Ns b m->(Ex s₁.29 H).Ns b m:=λ{b m} #[o,es,ep,e,d,r]=>#[o,es,ep,_u e (noA e d),d,r]
  have hKb:K.In (Ex s₁.29 H):=λb o e=>_u (KX b o e) (by
   cases q:H b with
   | none=>rfl
   | some u =>
    have e':b=a:=hA b (by rw[q];simp);subst e';rw[hK (by rw[q];simp)] at e;cases e)
  have hM:Mod K mg (Ex s₁.29 H):=#[hKb,nsK M!,#[mb,nsK hb,hbb],let ⟨mc,h1,h2⟩:=ago;#[mc,nsK h1,h2],#[let ⟨mc,h1,h2⟩:=hsr.statics;#[mc,nsK h1,h2],let ⟨mm,h1,h2⟩:=hsr.mods;#[mm,nsK h1,h2],#[mb,nsK hb,hbb],let ⟨mg',bm,ob,h1,h2,h3,h4,h5⟩:=hsr.main;#[mg',bm,ob,nsK h1,h2,_u h3 (by
   cases q:H bm with
   | none=>rfl
   | some u =>
    have e':bm=a:=hA bm (by rw[q];simp);subst e';rw[ha] at h3;cases h3;injection h4 with q4
    show absurd q4 ()),h4,h5]]]
  have e0:Ka P w K mg (Ex s₁.29 H) callerA [] s₁ H:=#[rfl,hM,λb o e=>Ri e,LG (Mm _ _),trivial,λb hb=>absurd (show b∈([]:List Addr) from hb) (by simp),Zb,.of_eq hg];refine codeAny_mono ((F _ hKb (nsK M!)).run callerA [] s₁ H #[[.ref a],[]] [.ref a] [.ref a] _ _ hr e0 (ade s₁ (.ref a)) (.cons rfl .nil) (hsp H hO hS)) λr s' h=>?_
  cases r with
  | error e=>show (hCX H e s' h).elim
  | ok fl =>
   cases fl with
   | next=>show Ye h
   | brk=>show Ye h
   | cont=>show Ye h
   | ret u =>
    obtain v|H'|os|bare|un|agh|r'|q:=h;have q':v=.bl true:=q;subst q';obtain rfl:u=Value.bool true:=r';refine #[rfl,OldK.of_keep λb o e=>?_,os,bare];cases q:H b with
    | none=>show un.keep b o e q (by intro z;show absurd (show b∈([]:List Addr) from z) (by simp)) (by simp)
    | some u =>
     rcases hO b with z | ⟨ob,xs,z⟩
     ·rw[q] at z;cases z
     ·have z2:=un._c b ob _ z;obtain e1|_:=Zb b _ z;obtain e2|_:=agh b _ z2;rw[e] at e1;cases e1;show e2
 cases hk:K.13 a with
 | some o =>
  have e:=KX a o hk;rw[ha] at e;cases e;refine core (λ_=>none) (λ_=>.inl rfl) (.inr #[_,vs.5,_,hk,rfl,rfl,rfl,by rw[aQ,afE];show hl,by simpa using rv]) (λb u z=>by have z':(none:Option HO)=some u:=z;cases z') (λb z=>absurd rfl z) λz=>absurd rfl z
 | none =>
  refine core (λb=>if b=a then some (._T { cls:=.type "list",data:=.seq vs.5 } (.lst (ns.11 V.int))) else none) (λb=>?_) (.inl (.inr #[{ cls:=.type "list",data:=.seq vs.5 },if_pos rfl])) (λb u z=>?_) (λb z=>?_) λ_=>hk
  ·by_cases hb:b=a
   ·show .inr #[_,_,if_pos hb]
   ·show .inl (if_neg hb)
  ·by_cases hb:b=a
   ·have z':=(if_pos hb).symm.trans z;cases z';subst hb;show #[ha,by rw[af];show hl,vs,_,rv,ha]
   ·have z':=(if_neg hb).symm.trans z;cases z'
  ·by_cases hb:b=a
   ·show hb
   ·show absurd (if_neg hb) z
theorem P9 {l:PySem.W.OpenLaw} {K:Params->Y2} {CX:Yq->Nb} {sp:Yq->Sp} 
  (hn:l.most=some n) (hn2:n<=XG) (hdf:d.params.defaults=[]) (hr:mi k callerA) (hi:importsNone q=true)
  (hY:∀(w:Yq) (h:Heap),YP w h->(K w.58).In h)
  (F:∀(w:Yq) (mg:Str->Option Value) (fa:Addr) (h:Heap),(K w.58).In h->h.Ns XE mg->mg d.name=some (.ref fa) →
   ∃fd:T2,(∀(s:Xv) (u:Value),BindsTo s fd #[[u],[]] [(x,u)]) /\
    ∀base:Heap,(K w.58).In base->base.Ns XE mg->uC l.21 w (K w.58) mg base (CX w) k fa fd [x] (sp w))
  (hsp:∀(w:Yq) (H:Hp) (a:Addr) (ns:List Int),ns.9<=n->Va H->bY (K w.58) H a (ns.11 V.int)->sp w [.ref a] H (λv _=>v=.bl true) λ_ _ _=>False)
  (hCX:∀(w:Yq) (H:Hp) (s:Xv) (e:Value) (s':Xv),CX w [] H s (λ_ _ _=>False) e s'->False) :
  PySem.W.WalkO q loose XP YP l.row.toRowW d [] (λf vs=>PySem.call f vs):=by
 refine Att.HX hn hdf λw s₀ s₁ mg mb fa o pm cd doc a vs ns G Y ho hd x! hmg abb hints Za hg=>?_
 have KX:=hY w _ Y;obtain fd|hb|hF:=F w mg fa _ KX G.T.g hmg;show OJ KX G.T.g G.T.b G.T.builtins G.T.nolimit (G.T.seer hi) hg abb hints (ai Za hn2) hr hF hb (λH hO hS=>hsp w H a ns Za hO hS) λH e s'=>hCX w H s₁ e s'
end L2

namespace L2
open PySem PySem.Spec PyProof.Rows
def inClass (s:Stmt) (j:Nat):Stmt:=match s with
 | .ClassDef _ _ _ body _ _ _ _ _ _ _=>body.3 j (.Pass #[0,0,0,0])
 | _=>.Pass #[0,0,0,0]
def oh (s:Stmt):Arguments:=match s with
 | .FunctionDef _ a _ _ _ _ _ _ _ _=>a
 | _=>{ posonlyargs:=[],args:=[],vararg:=none,kwonlyargs:=[],kw_defaults:=[],kwarg:=none,defaults:=[] }
def jV (s:Stmt):List Stmt:=match s with
 | .FunctionDef _ _ b _ _ _ _ _ _ _=>b
 | _=>[]
def eZ (s:Stmt):Scope:=match s with
 | .FunctionDef _ _ _ _ _ _ sc _ _ _=>sc
 | _=>{ kind:=.function,names:=[],isGenerator:=false,isCoroutine:=false }
abbrev MW:Nb:=λ_ _ _ _ _ _=>False
abbrev E0:XK:=λ_ _ _=>False
theorem CS:yW MW X E0:=λ_ _ _ _ _ _ _ h=>h.elim
structure M7 (K:Y2) (x qual:Str) (st:Stmt) (f:Addr) (fd:T2):Prop where
 ex:∃(oc:Value) (od:Option Addr) (kV doc pm:Value) (an:Option Addr) (Zm ct:Value) (osl:Array (Option Value)),
  fd=Yp x qual (oh st) (jV st) (eZ st) .none kV doc pm an Zm ct/\K.13 f=some #[oc,od,.func fd,osl]/\PySem.W.codeIn K Zm qual=true
 kp:YE K (.ref f)=true
section
variable {P:Yl} {w:Yq} {K:Y2} {mg:Str->Option Value} {base:Heap}
theorem M7.ok {st:Stmt} (F:M7 K x qual st f fd) (S:uO N ps (eZ st)) (len:∀vs H Q E,sp vs H Q E->vs.9=ps.9)
  (_D:∀(Zm:Value) (A:Yd) (outer:List Env) (s:Xv) (H:Hp) (vs:List V) (Q:VK) (E:XK),mi k (A.deeper (envOfC qual (eZ st) s.heap.objs.39 f Zm))->sp vs H Q E →
   ∃t,IB (HP MW P w K mg base N qual (eZ st) f Zm A outer s H E).nox (jV st) t/\t { nx:=λ_ H'=>Q .Ze H',rt:=Q } (start N vs) H):uC P w K mg base MW (k+1) f fd ps sp:=by
 obtain oc|od|kV|doc|pm|an|Zm|ct|osl|rfl|lk|x!:=F.ex;refine Wr lk x! S len λA outer s H vs Q E hr hsp=>?_
 obtain t|h|q:=_D Zm A outer s H vs Q E hr hsp;show #[t,h.nox,q]
theorem TN {N ps:List Str} {vs:List V} (h:N.18 ps.9=ps) (l:vs.9=ps.9):vs.9<=N.9:=by
 have:=congrArg Yt h;rw[aS] at this
 lia
theorem M7.k {x qual:Str} {st:Stmt} {f:Addr} {fd:T2} {N ps:List Str} {k:Nat} {sp:Sp} (F:M7 K x qual st f fd) (S:uO N ps (eZ st))
  (_D:∀(Zm:Value) (A:Yd) (outer:List Env) (s:Xv) (H:Hp) (vs:List V) (Q:VK) (E:XK) (hr:mi k (A.deeper (envOfC qual (eZ st) s.heap.objs.39 f Zm))) (h:sp vs H Q E),
   ∃t,IB (HP MW P w K mg base N qual (eZ st) f Zm A outer s H E).nox (jV st) t/\t { nx:=λ_ H'=>Q .Ze H',rt:=Q } (Vl N vs) H) (len:∀vs H Q E,sp vs H Q E->vs.9=ps.9:=by walk_at "n"):uC P w K mg base MW (k+1) f fd ps sp :=
 F.ok S len λZm A outer s H vs Q E hr h=>by
  rw[IS (TN S.pre (len _ _ _ _ h))];show _D Zm A outer s H vs Q E hr h
theorem M7.binds {st:Stmt} (F:M7 K x qual st f fd)
  (h:∀(kV doc pm:Value) (an:Option Addr) (Zm ct:Value) (us:List Value),us.9=ps.9->bindArgs (Yp x qual (oh st) (jV st) (eZ st) .none kV doc pm an Zm ct) #[us,[]]=pure (ps.zip us)):Binds K fd ps []:=by
 obtain oc|od|kV|doc|pm|an|Zm|ct|osl|rfl|lk|x!:=F.ex;show .all (h kV doc pm an Zm ct)
theorem JB {st:Stmt} {kV doc pm Zm ct:Value} (l:K.13 f=some #[oc,od,.func (Yp x qual (oh st) (jV st) (eZ st) .none kV doc pm an Zm ct),osl])
  (c:PySem.W.codeIn K Zm qual=true) (k:YE K (.ref f)=true):M7 K x qual st f (Yp x qual (oh st) (jV st) (eZ st) .none kV doc pm an Zm ct):=#[#[oc,od,kV,doc,pm,an,Zm,ct,osl,rfl,l,c],k]
end
structure Df (K:Y2) (mg:Str->Option Value) (x:Str) (st:Stmt) (ps:List Str) (f:Addr) (fd:T2):Prop where
 m:mg x=some (.ref f)
 b:Binds K fd ps []
 F:M7 K x x st f fd
structure Dh (K:Y2) (x:Str) (st:Stmt) (f:Addr) (fd:T2):Prop where
 a:PySem.W.nsIn K XE x=some (some (.ref f))
 F:M7 K x x st f fd
theorem Wt {K:Y2} {st:Stmt} {kV doc pm Zm ct:Value} (a:PySem.W.nsIn K XE x=some (some (.ref f))) (l:K.13 f=some #[oc,od,.func (Yp x x (oh st) (jV st) (eZ st) .none kV doc pm an Zm ct),osl]) (c:PySem.W.codeIn K Zm x=true) (k:YE K (.ref f)=true):Dh K x st f (Yp x x (oh st) (jV st) (eZ st) .none kV doc pm an Zm ct):=#[a,JB l c k]
theorem Dh.D {K:Y2} {x:Str} {st:Stmt} {f:Addr} {fd:T2} {ps:List Str} {mg:Str->Option Value} {h:Heap} (d:Dh K x st f fd) (X:K.In h) (G:h.Ns XE mg) (hb:∀(kV doc pm:Value) (an:Option Addr) (Zm ct:Value) (us:List Value),us.9=ps.9->bindArgs (Yp x x (oh st) (jV st) (eZ st) .none kV doc pm an Zm ct) #[us,[]]=pure (ps.zip us):=by walk_at "b"):Df K mg x st ps f fd:=#[PySem.W.mg_of X G d.a,d.F.binds hb,d.F]
abbrev Df.o {K:Y2} {mg:Str->Option Value} {x:Str} {st:Stmt} {ps:List Str} {f:Addr} {fd:T2} (_:Df K mg x st ps f fd) (P:Yl) (w:Yq) (base:Heap) (k:Nat) (sp:Sp):Prop:=uC P w K mg base MW k f fd ps sp
theorem cN {X:Cx} {k k':Nat} {f:Addr} {fd:T2} {ps:List Str} {sp:Sp} {x:Str} {st:Stmt} {p pos:Pos} {e:Expr} {es:List Expr} {t:TA} (F:uC X.21 X.w X.K X.mg X.51 MW k f fd ps sp) (hr:mi k' X.A) (D:Df X.K X.mg x st ps f fd) (ha:PA X (e :: es) t) (hle:k<=k':=by decide) (hg:Gl X x:=by show rfl) (hdb:(x == ("__debug__":Str))=false:=by decide) (he:Xy (e :: es) X.16=(false,eval e X.16) :: Xy es X.16:=by rfl) (_G:(backTo pos (Xy es X.16)).any (·.1)=false:=by rfl):PE X (.Call (.Name x p) (e :: es) [] pos) (Nt sp [] E0 t):=Q7 F (hr.22 hle) hg D.m D.F.kp D.b .nil CS ha hdb he _G
theorem du (h:n<=1000):n < XG:=bG h ()
theorem kX {n:Nat} (h:n<=1000:=by lia):n<=XG:=c6 (du h)
section
variable {X:Cx}
theorem pv (i:Nat) {x:Str} {pos:Pos} (hN:X.N[i]?=some x:=by rfl) (hv:Xc X.env.scope x:=by first | show Or.inl rfl | show Or.inr (Or.inl rfl) | show Or.inr (Or.inr rfl)) (hd:(x == ("__debug__":Str))=false:=by decide)
  (x!:(x == ("__classdict__":Str))=false:=by decide):PE X (.Name x pos) (TJ i):=Uy hN hv hd x!
end
theorem Rw {A B:Prop} (h:B):if false=true then A else B:=by
 rw[if_neg bA];show h
theorem Wj {A B:Prop} (h:A):if true=true then A else B:=by
 rw[if_pos rfl];show h
theorem jh {c A B:Prop} [Decidable c] (h1:c->A) (h2:¬c->B):if c then A else B:=by
 by_cases h:c
 ·rw[if_pos h];show h1 h
 ·rw[if_neg h];show h2 h
def aL (H H':Hp):Prop:=∀b o,H b=some o->H' b=some o
theorem aL.refl (H:Hp):aL H H:=λ_ _ h=>h
theorem aL.trans (a:aL H H1) (b:aL H1 H2):aL H H2:=λc o h=>b c o (a c o h)
theorem aL.free (e:aL H H') (h:H' l=Yk):H l=Yk:=by
 cases q:H l with
 | none=>rfl
 | some o =>
  rw[e l o q] at h;cases h
theorem aL.seq {K:Y2} (e:aL H H') (h:bY K H a xs):bY K H' a xs:=by
 rcases h with (h | ⟨o,h⟩) | h
 ·show .inl (.inl (e _ _ h))
 ·show .inl (.inr #[o,e _ _ h])
 ·show .inr h
end L2
namespace Nm
theorem O4 (a b:Int):Yb b (a.fmod b)=Yb a b:=by
 rw[Int.fmod_def,mQ a b];apply Nat.dvd_antisymm
 ·apply PM
  ·show fF ..
  ·have h1:=fF (a:=b) (b:=a - b*a.fdiv b);have h2:=fZ (a:=b) (b:=a - b*a.fdiv b);have h3:=Int.dvd_add h2 (oV (c:=a.fdiv b) h1);rwa [Int.sub_add_cancel] at h3
 ·apply PM
  ·show fF ..
  ·show Int.dvd_sub (fZ ..) (oV (fF ..))
theorem O5 (a b:Int):Yb b (a % b)=Yb a b:=by
 rw[Int.emod_def,mQ a b];apply Nat.dvd_antisymm
 ·apply PM
  ·show fF ..
  ·have h1:=fF (a:=b) (b:=a - b*(a / b));have h2:=fZ (a:=b) (b:=a - b*(a / b));have h3:=Int.dvd_add h2 (oV (c:=a / b) h1);rwa [Int.sub_add_cancel] at h3
 ·apply PM
  ·show fF ..
  ·show Int.dvd_sub (fZ ..) (oV (fF ..))
theorem RI (a b:Int) (h:b≠0):(a.fmod b).15 < b.15:=by
 rcases Int.lt_or_gt_of_ne h with h | h
 ·have e:a.fmod b=-((-a).fmod (-b)):=by
   have:=Int.neg_fmod_neg (-a) (-b);simp only[Int.neg_neg] at this;show this
  have h1:=Int.fmod_nonneg_of_pos (-a) (b:=-b) ();have h2:=Int.fmod_lt_of_pos (-a) (b:=-b) ()
  lia
 ·have h1:=Int.fmod_nonneg_of_pos a h;have h2:=Int.fmod_lt_of_pos a h
  lia
def g (t b:Int):Int:=(Yb t b:Int)
def lo (t b:Int):Int:=t / g t b
def hi (t b:Int):Int:=b / g t b
theorem A4 (h:b≠0):0 < g t b:=by
 unfold g;have:0 < Yb t b:=P7 _ h
 lia
theorem AX (t b:Int):lo t b*g t b=t:=Int.ediv_mul_cancel (fF ..)
theorem yJ (t b:Int):hi t b*g t b=b:=Int.ediv_mul_cancel (fZ ..)
theorem Ey (h:0 < b):0 < hi t b:=by
 have h1:=A4 (t:=t) (b:=b) ();have h2:=yJ t b;by_cases h3:0 < hi t b
 ·show h3
 ·have:hi t b*g t b<=0:=Int.mul_nonpos_of_nonpos_of_nonneg () ()
  lia
theorem AV (h:b≠0):Yb (lo t b) (hi t b)=1:=by
 have h1:=A4 (t:=t) h;have e:=Int.gcd_mul_right (lo t b) (g t b) (hi t b);rw[AX,yJ] at e;have e2:(g t b).15=Yb t b:=by unfold g;simp
 rw[e2] at e;have h2:0 < Yb t b:=P7 _ h;show Nat.eq_of_mul_eq_mul_right h2 (by rw[<- e,xF])
theorem AW (t b:Int):lo t b*b=t*hi t b:=by
 have h1:=AX t b;have h2:=yJ t b
 calc lo t b*b=lo t b*(hi t b*g t b):=by rw[h2]
  _=(lo t b*g t b)*hi t b:=by rw[gK (hi t b),<- dZ]
  _=t*hi t b:=by rw[h1]
theorem sv (h:Yb a b=1) (hd:a∣b*c):a∣c:=by
 have h1:a.15∣b.15*c.15:=by rw[<- fO];show fB.mpr hd
 have h2:Nat.Coprime a.15 b.15:=h;show fB.mp (h2.dvd_of_dvd_mul_left h1)
theorem uniq (hb:0 < b) (hd:0 < d) (h1:Yb a b=1) (h2:Yb c d=1) (e:a*d=c*b):a=c/\b=d:=by
 have e1:b∣d:=by
  have:b∣a*d:=#[c,by rw[e,gK]];show sv (by rw[mQ];show h1) this
 have e2:d∣b:=by
  have:d∣c*b:=#[a,by rw[<- e,gK]];show sv (by rw[mQ];show h2) this
 have e3:b=d:=Int.dvd_antisymm () () e1 e2;subst e3;show #[vo () e,rfl]
theorem UJ (hb:0 < b) (hd:0 < d) (h2:Yb c d=1) (e:t*d=c*b):lo t b=c/\hi t b=d:=by
 refine uniq (Ey hb) hd (AV ()) h2 ?_;have h:=AW t b;have _N:b≠0:=()
 apply vo _N
 calc lo t b*d*b=lo t b*b*d:=by rw[dZ,gK d b,<- dZ]
  _=t*hi t b*d:=by rw[h]
  _=t*d*hi t b:=by rw[dZ,gK (hi t b),<- dZ]
  _=c*b*hi t b:=by rw[e]
  _=c*hi t b*b:=by rw[dZ,gK b,<- dZ]
theorem UK (hb:0 < b) (h:Yb a b=1):lo a b=a/\hi a b=b:=UJ hb hb h rfl
theorem p6 {a b:Int} (h:b≠0):a.15<=(a*b).15:=by
 rw[fO];show dH _ (Int.natAbs_pos.mpr h)
theorem lo_le (h:b≠0):(lo t b).15<=t.15:=by
 have:=p6 (a:=lo t b) (b:=g t b) (by have:=A4 (t:=t) h;lia);rwa [AX] at this
theorem Te (h:b≠0):(hi t b).15<=b.15:=by
 have:=p6 (a:=hi t b) (b:=g t b) (by have:=A4 (t:=t) h;lia);rwa [yJ] at this
def Sz (k:Nat) (x:Int):Prop:=x.15 < 2^k
theorem Sz.mono (h:Sz j x) (l:j<=k):Sz k x:=bQ h (ak () l)
theorem Sz.mul (h1:Sz j x) (h2:Sz k y):Sz (j+k) (x*y):=by
 unfold Sz at *
 rw[fO,aV];show Nat.mul_lt_mul'' h1 h2
theorem Sz.neg (h:Sz k x):Sz k (-x):=by unfold Sz at *;rw[lI];show h
theorem Sz.le (h:Sz k y) (l:x.15<=y.15):Sz k x:=bG l h
theorem Sz.hi {k:Nat} {t b:Int} (h:Sz k b) (hb:b≠0):Sz k (hi t b):=h.le (Te hb)
end Nm
namespace L2
open PySem PySem.Spec PyProof.Rows
structure Bk (env:Env) (scope:Scope) (own Y8:List Str):Prop where
 kind:scope.30=.function
 locs:∀y∈scope.28,y.2=.local->scope.names.13 y.1=some .local
 ownk:∀x∈own,scope.names.13 x=some .local\/scope.names.13 x=some .cell
 cells:∀y∈scope.28,y.2=.cell->y.1∈own/\y.1∉Y8
 frees:∀y∈scope.28,y.2=.free->y.1∈Y8/\y.1∉own
 adq:∀x∈Y8,scope.names.13 x=some .free
 abp:∀x∈Y8,env.45 x=some .cell\/env.45 x=some .free
def WN (scope:Scope) (own Y8:List Str):Bool :=
 decide (scope.30=.function) && scope.names.all (λy=>decide (y.2=.local->scope.names.13 y.1=some .local) && decide (y.2=.cell->y.1∈own/\y.1∉Y8) && decide (y.2=.free->y.1∈Y8/\y.1∉own)) &&
 own.all (λx=>decide (scope.names.13 x=some .local\/scope.names.13 x=some .cell)) && Y8.all λx=>decide (scope.names.13 x=some .free)
def Dd (env:Env):List Str->Bool
 | []=>true
 | x :: r=>(match env.45 x with | some .cell=>true | some .free=>true | _=>false) && Dd env r
theorem HU {env:Env}:∀{Y8:List Str},Dd env Y8=true->∀x∈Y8,env.45 x=some .cell\/env.45 x=some .free
 | [],_,_,h=>nomatch h
 | y :: r,h,x,hx=>by
  unfold Dd at h;rw[eh] at h;rcases aM.mp hx with e | hx
  ·subst e;have h1:=h.1
   split at h1
   ·rename_i e;show .inl e
   ·rename_i e;show .inr e
   ·cases h1
  ·show HU h.2 x hx
theorem Bk.of (h1:WN scope own Y8=true) (h2:Dd env Y8=true):Bk env scope own Y8:=by
 unfold WN at h1;rw[eh,eh,eh,qM,qM,qM] at h1;obtain ⟨⟨a1,a2⟩,a3⟩|a4:=h1
 have a2':∀y∈scope.28,(y.2=.local->scope.names.13 y.1=some .local)/\(y.2=.cell->y.1∈own/\y.1∉Y8)/\(y.2=.free->y.1∈Y8/\y.1∉own):=λy hy=>by
  have q:=a2 y hy;rw[eh,eh] at q;show #[of_decide_eq_true q.1.1,of_decide_eq_true q.1.2,of_decide_eq_true q.2]
 show #[of_decide_eq_true a1,λy hy=>(a2' y hy).1,λx hx=>of_decide_eq_true (a3 x hx),λy hy=>(a2' y hy).2.1,λy hy=>(a2' y hy).2.2,λx hx=>of_decide_eq_true (a4 x hx),HU h2]
def eG (env:Env):List (Str×Yo)->List (Str×Addr)->List (Str×Addr)
 | [],acc=>acc
 | (n,k) :: r,acc=>if k == .free then eG env r ((n,(env.cells.13 n).3 0) :: acc) else eG env r acc
theorem jB (env:Env):∀(names:List (Str×Yo)) (acc:List (Str×Addr)),eG env names acc=eG env names []++acc
 | [],_=>rfl
 | (n,k) :: r,acc=>by
  unfold eG
  split
  ·rw[jB env r (_ :: acc),jB env r [_],cC];rfl
  ·show jB env r acc
theorem sE (env:Env):∀(names:List (Str×Yo)) {x:Str} {c:Addr},(x,c)∈eG env names []->(x,X8)∈names/\c=(env.cells.13 x).3 0
 | [],_,_,h=>nomatch h
 | (n,k) :: r,x,c,h=>by
  unfold eG at h
  split at h
  ·rename_i hk
   have ek:k=.free:=by simpa using hk
   subst ek;rw[jB] at h;rcases aA.mp h with h | h
   ·have q:=sE env r h;show #[cx _ q.1,q.2]
   ·have e:(x,c)=(n,(env.cells.13 n).3 0):=by simpa using h
    cases e;show #[dJ,rfl]
  ·have q:=sE env r h;show #[cx _ q.1,q.2]
theorem ka {α:Type}:∀{l:List (Str×α)} {x:Str} {c:α},(x,c)∈l->∃d,l.13 x=some d
 | (k,v) :: r,x,c,h=>by
  rw[mP];cases hb:x == k with
  | true=>show #[v,rfl]
  | false =>
   rcases aM.mp h with e | h
   ·cases e;simp at hb
   ·show ka h
theorem sF (env:Env):∀(names:List (Str×Yo)) {x:Str},(x,X8)∈names->∃c,(x,c)∈eG env names []
 | (n,k) :: r,x,h=>by
  unfold eG;rcases aM.mp h with e | h
  ·cases e;rw[if_pos (),jB];show #[_,aX _ dJ]
  ·obtain c|q:=sF env r h
   split
   ·rw[jB];show #[c,cT _ q]
   ·show #[c,q]
theorem Bg (h:∀y∈scope.28,y.2=.free->∃c,env.cells.13 y.1=some c):closureFor scope env=pure (eG env scope.28 []):=by
 have gen:∀(names:List (Str×Yo)) (acc:List (Str×Addr)) (f:Str×Yo->List (Str×Addr)->Sem (ForInStep (List (Str×Addr)))),
   (∀name kind cells,f (name,kind) cells=if kind == .free then (do let a <- cellOf env name;pure (.yield ((name,a) :: cells))) else pure (.yield cells)) →
   (∀y∈names,y.2=.free->∃c,env.cells.13 y.1=some c)->forIn names acc f=pure (eG env names acc):=by
  intro names
  induction names with
  | nil=>intro acc f hf _;rw[Dt];rfl
  | cons y r ih =>
   intro acc f hf hh;obtain n|k:=y;rw[P0,hf];unfold eG;by_cases hk:(k == X8)=true
   ·obtain c|hc:=hh (n,k) dJ (by simpa using hk);have _a:env.cells.13 n=some c:=hc;have e:cellOf env n=pure c:=by unfold cellOf;rw[_a]
    rw[if_pos hk,if_pos hk,e,_a];simp only[pure_bind,Option.getD_some];show ih _ f hf λy hy=>hh y (cx _ hy)
   ·rw[if_neg hk,if_neg hk];simp only[pure_bind];show ih _ f hf λy hy=>hh y (cx _ hy)
 simp only[closureFor];rw[gen scope.28 [] _ (λname kind cells=>by cases hkc:kind == X8 <;> simp [hkc]) h];rfl
theorem gD:∀(names:List (Str×Yo)) (n:Nat) (acc:List (Str×Addr)),Ya n names acc=Ya n names []++acc
 | [],_,_=>rfl
 | (x,k) :: r,n,acc=>by
  unfold Ya
  split
  ·rw[gD r (n+1) (_ :: acc),gD r (n+1) [_],cC];rfl
  ·show gD r n acc
theorem mN:∀(names:List (Str×Yo)) (n:Nat) {x:Str} {c:Addr},(x,c)∈Ya n names []->(x,YV)∈names
 | [],_,_,_,h=>nomatch h
 | (y,k) :: r,n,x,c,h=>by
  unfold Ya at h
  split at h
  ·rename_i hk
   have ek:k=.cell:=by simpa using hk
   subst ek;rw[gD] at h;rcases aA.mp h with h | h
   ·show cx _ (mN r _ h)
   ·have e:(x,c)=(y,n):=by simpa using h
    cases e;show dJ
  ·show cx _ (mN r _ h)
def yR (env:Env) (scope:Scope) (C:Addr):Env :=
 { scope:=relabel scope env,locals:=C,globals:=env.globals,cells:=Ya (C+1) scope.28 (eG env scope.28 []),qual:=env.qual,func:=none,code:=env.code,frame:=env.frame,builtins:=env.builtins }
theorem GI 
  (h:Q (newEnv scope s.heap.objs.39 g (Ya (s.6+1) scope.28 cl) qual none .none (some env) builtinsNs) { s with heap:=pushCells (s.heap.25 { cls:=.type "dict",data:=.dict [].12 }) scope.28 }) :
  XF M A (newFunctionEnv scope g cl [] qual none .none (some env)) Q E s:=by
 simp only[newFunctionEnv,Option.isSome_some,if_true];refine T1 (wpAny_alloc ?_);refine T1 (wpAny_layCells _ (λname kind cells=>by cases hkc:kind == YV <;> simp [hkc]) _ _ _ _ ?_);rw[show ({ s with heap:=s.heap.25 { cls:=.type "dict",data:=.dict [].12 } }:Xv).6=s.6+1 from Yr ..];rw[Dt];show T1 (XH (XH h))
theorem wG:∀{k:Yo},(relabel scope env).names.lookup x=some k->∃k0,scope.names.13 x=some k0/\(k=k0\/(k0=.free/\k=.cell)):=by
 unfold relabel;change ∀{k:Yo},(scope.names.11 λ(n,k)=>if (k == X8 && env.scope.30 == .function && env.45 n == some .cell) then (n,YV) else (n,k)).13 x=some k->_
 induction scope.28 with
 | nil=>intro k h;cases h
 | cons y r ih =>
  intro k h;obtain n|k1:=y;rw[iW,mP] at h;rw[mP];by_cases hc:(k1 == X8 && env.scope.30 == .function && env.45 n == some .cell)=true
  ·simp only[hc,if_true] at h;cases hb:x == n with
   | true =>
    simp only[hb] at h
    have e1:k1=.free:=by
     rw[eh,eh] at hc;simpa using hc.1.1
    cases h;show #[k1,rfl,.inr #[e1,rfl]]
   | false=>simp only[hb] at h;show ih h
  ·have _a:(k1 == X8 && env.scope.30 == .function && env.45 n == some .cell)=false:=by simpa using hc
   simp only[_a,jZ,if_false] at h;cases hb:x == n with
   | true=>simp only[hb] at h;cases h;show #[_,rfl,.inl rfl]
   | false=>simp only[hb] at h;show ih h
theorem Gx:scope.names.13 x=some .free->(relabel scope env).names.lookup x=some .cell\/(relabel scope env).names.lookup x=some .free:=by
 unfold relabel;change _->(scope.names.11 λ(n,k)=>if (k == X8 && env.scope.30 == .function && env.45 n == some .cell) then (n,YV) else (n,k)).13 x=some .cell\/(scope.names.11 λ(n,k)=>if (k == X8 && env.scope.30 == .function && env.45 n == some .cell) then (n,YV) else (n,k)).13 x=some .free
 induction scope.28 with
 | nil=>intro h;cases h
 | cons y r ih =>
  intro h;obtain n|k1:=y;rw[mP] at h;rw[iW];by_cases hc:(k1 == X8 && env.scope.30 == .function && env.45 n == some .cell)=true
  ·simp only[hc,if_true,mP];cases hb:x == n with
   | true=>show .inl rfl
   | false=>rw[hb] at h;show ih h
  ·have _a:(k1 == X8 && env.scope.30 == .function && env.45 n == some .cell)=false:=by simpa using hc
   simp only[_a,jZ,if_false,mP];cases hb:x == n with
   | true=>rw[hb] at h;cases h;show .inr rfl
   | false=>rw[hb] at h;show ih h
structure Bz where
 s:Xv
 H:Hp
 fp:List Addr
 C:Addr
def zE (X:Cx) (own Y8:List Str) (scope:Scope) (Z:Bz):Cx where
 prog:=X.21
 w:=X.w
 K:=X.K
 mg:=X.mg
 base:=X.51
 A:=X.A
 N:=own++Y8
 s₀:=Z.s
 H₀:=Z.H
 env:=yR X.16 scope Z.C
 outer:=X.53
 stack:=X.53
 ex:=Z.fp
 fn:=λx=>own.contains x
 calm:=true
 pn:=[]
 xe:=λ_ _=>False
section
variable {X:Cx} {YZ:List (Addr×Obj)} {σ:St} {own Y8:List Str} {scope:Scope} {Z:Bz}
theorem kq (B:Bk X.16 scope own Y8) (I:Inv X YZ σ Z.H Z.s) (h:(yR X.16 scope Z.C).cells.lookup x=some c) :
  (x∈own/\(x,c)∈Ya (Z.C+1) scope.28 [])\/(x∈Y8/\x∉own/\X.env.cells.13 x=some c):=by
 have h':(Ya (Z.C+1) scope.28 (eG X.16 scope.28 [])).13 x=some c:=h;rw[gD] at h';rcases aA.mp (mem_of_lookup h') with m | m
 ·show .inl #[(B.cells _ (mN _ _ m) rfl).1,m]
 ·obtain m1|e:=sE _ _ m;obtain q1|q2:=B.frees _ m1 rfl;obtain d|hd:=I.ok.has x (B.abp x q1);rw[hd] at e;show .inr #[q1,q2,by rw[hd,e];rfl]
theorem Sg (B:Bk X.16 scope own Y8) (I:Inv X YZ σ Z.H Z.s) (hx:x∈Y8) (h:X.env.cells.13 x=some c):(yR X.16 scope Z.C).cells.lookup x=some c:=by
 have hm:(x,X8)∈scope.28:=mem_of_lookup (B.adq x hx);obtain c1|m1:=sF X.16 scope.28 hm
 have hs:∃d,(yR X.16 scope Z.C).cells.lookup x=some d:=by
  change ∃d,(Ya (Z.C+1) scope.28 (eG X.16 scope.28 [])).13 x=some d
  rw[gD];show ka (aX _ m1)
 obtain d|hd:=hs;rcases kq B I hd with ⟨q,m⟩ | ⟨_,_,q⟩
 ·show absurd hx (B.cells _ (mN _ _ m) rfl).2
 ·rw[h] at q;cases q;show hd
theorem L8 (h:Heap) (C:Addr) (hC:h.objs.7=C+1) (names:List (Str×Yo)):CellsOk (pushCells h names) (C+1) (Ya (C+1) names []):=by
 have q:=cellsFrom_ok names h (C+1) [] #[λ_ _ hm=>(nomatch hm),List.Pairwise.nil] (by rw[hC];show aj _);rwa [hC] at q
theorem E8 (I:Inv X YZ σ Z.H Z.s) (h:X.env.cells.13 x=some c):@LT.lt Nat instLTNat c Z.s.6:=by
 obtain v|q:=I.cell x c h;show q.lt
theorem U2 (I:Inv X YZ σ Z.H Z.s) (hc:X.calm=true) (B:Bk X.16 scope own Y8) (hC:Z.s.6<=Z.C) (_p:CellsOk h1 (Z.C+1) (Ya (Z.C+1) scope.28 []))
  (hf:∀b∈Z.fp,my X YZ Z.H b/\@LT.lt Nat instLTNat b Z.s.6):(zE X own Y8 scope Z).Ok:=by
 refine #[I.ok.mod,B.30,I.ok.glob,I.ok.blt,hC,λx y c h1 h2=>?_,λx hx=>?_,λx c hx h=>?_,λ_=>I.ok.hd hc,I.ok.frames,.inl rfl,λb hb=>#[?_,λx c h=>?_],I.bs,ai I.ok.bsz I.sz,λb o e hb=>?_,λb hb hz=>?_,I.53,I._R]
 ·rcases kq B I h1 with ⟨q1,m1⟩ | ⟨q1,n1,m1⟩ <;> rcases kq B I h2 with ⟨q2,m2⟩ | ⟨q2,n2,m2⟩
  ·show name_of_addr _p.apart m1 m2
  ·have l1:=(_p.empty _ _ m1).2;have l2:=E8 I m2
   lia
  ·have l1:=(_p.empty _ _ m2).2;have l2:=E8 I m1
   lia
  ·show I.ok.inj x y c m1 m2
 ·have Y6:(relabel scope X.16).names.lookup x=some .cell\/(relabel scope X.16).names.lookup x=some .free:=hx
  have hk:scope.names.13 x=some .cell\/scope.names.13 x=some .free:=by
   rcases Y6 with h | h
   ·obtain ⟨k0,e,q | ⟨q,_⟩⟩:=wG h
    ·show .inl (by rw[e,<- q])
    ·show .inr (by rw[e,q])
   ·obtain ⟨k0,e,q | ⟨_,q⟩⟩:=wG h
    ·show .inr (by rw[e,<- q])
    ·cases q
  change ∃c,(Ya (Z.C+1) scope.28 (eG X.16 scope.28 [])).13 x=some c
  rcases hk with h | h
  ·show Vp.mp (Aa scope.28 (Z.C+1) _ (.inl h))
  ·obtain c|m:=sF X.16 scope.28 (mem_of_lookup h);rw[gD];show ka (aX _ m)
 ·have ho:x∈own:=by have Y6:own.contains x=true:=hx;simpa using Y6
  rcases kq B I h with ⟨_,m⟩ | ⟨_,n,_⟩
  ·have:=(_p.empty _ _ m).2;have hC':Z.s.6<=Z.C:=hC;change Z.s.6<=c
   lia
  ·show absurd ho n
 ·intro e;have e':@Eq Nat b Z.C:=e;have:=(hf b hb).2
  lia
 ·have l:=(hf b hb).2;rcases kq B I h with ⟨_,m⟩ | ⟨_,_,m⟩
  ·intro e;have e':@Eq Nat c b:=e;have:=(_p.empty _ _ m).2
   lia
  ·show (hf b hb).1.2.2.2.2.1 x c m
 ·obtain _|_|_|f3|_:=(hf b hb).1;rcases f3 with f3 | f3
  ·show I.ok.q! b o e f3
  ·show absurd (bQ (XB e) (ai I.ok.bsz f3)) (dQ _)
 ·obtain _|f1|f2|_:=(hf b hb).1;rcases aM.mp (I._I b hz) with e | e
  ·show f1 e
  ·show f2 e
def IT (k:Nat) (ZH:List Nat) (σ:St):St:=K0 k none++ZH.11 λj=>(σ[j]?).join
def zj (X:Cx) (Y8:List Str) (ZH:List Nat):Prop:=ZH.11 (λj=>X.N[j]?)=Y8.11 some
theorem zj.get (h:zj X Y8 ZH) {i:Nat} (e:Y8[i]?=some x):∃j,ZH[i]?=some j/\X.N[j]?=some x:=by
 have q:=congrArg (λl=>l[i]?) h;simp only[az,e,Option.map_some] at q;cases hc:ZH[i]? with
 | none=>rw[hc] at q;cases q
 | some j=>rw[hc] at q;show #[j,rfl,by simpa using q]
theorem HV (I:Inv X YZ σ Z.H Z.s) (B:Bk X.16 scope own Y8) (Zx:zj X Y8 ZH)
  (kc:∀x c,X.env.cells.13 x=some c->∀v,Z.s.heap.IsCell c v->h'.IsCell c v) {i:Nat} (e1:(own++Y8)[i]?=some x) (e2:(IT own.9 ZH σ)[i]?=some (some v)) :
  ∃u,RelV v u/\Look (yR X.16 scope Z.C) h' m x u:=by
 have hi:own.9<=i:=by
  by_cases hi:own.9<=i
  ·show hi
  ·exfalso
   unfold IT at e2;rw[cw (by simpa using hi),dI] at e2
   split at e2 <;> cases e2
 rw[b8 hi] at e1;unfold IT at e2;rw[b8 (by simpa using hi),bB,az] at e2;obtain j|hj|hN:=Zx.get e1;rw[hj] at e2;have e3:(σ[j]?).join=some v:=by simpa using e2
 have e4:σ[j]?=some (some v):=by
  cases q:σ[j]? with
  | none=>rw[q] at e3;cases e3
  | some o=>rw[q] at e3;simp at e3;rw[e3]
 have hx:x∈Y8:=av e1;have hk:=B.abp x hx;obtain m0|_|hl:=I.loc;obtain u|r|l:=hl j x v hN e4 (.inr hk);refine #[u,r,.inr #[Gx (B.adq x hx),?_]];rcases l with ⟨hk2,_⟩ | ⟨_,c,hc,z⟩
 ·rcases hk with hk | hk
  ·rw[hk] at hk2;cases hk2
  ·rw[hk] at hk2;cases hk2
 ·show #[c,Sg B I hx hc,kc x c hc _ z]
theorem Wq (I:Inv X YZ σ Z.H Z.s) (h:b∈M5 X.53):@LT.lt Nat instLTNat b Z.s.6:=by
 obtain _|o|ho|_:=I.stack.mem h;show XB ho
theorem Se {D:Addr} (I:Inv X YZ σ Z.H Z.s) (hc:X.calm=true) (B:Bk X.16 scope own Y8) (Zx:zj X Y8 ZH) (hC:Z.s.6<=Z.C)
  (_p:CellsOk h1 (Z.C+1) (Ya (Z.C+1) scope.28 [])) (hf:∀b∈Z.fp,my X YZ Z.H b/\@LT.lt Nat instLTNat b Z.s.6)
  (hk:∀b o,Z.s.heap.14 b=some o->h1.14 b=some o) (hn:h1.Ns Z.C λ_=>none) (hD:Z.s.6<=D) (hDC:D≠Z.C) (hoD:h1.14 D=some oD) (hdD:∀v,oD.data≠.cell v) :
  Inv (zE X own Y8 scope Z) [(D,oD)] (IT own.9 ZH σ) Z.H { Z.s with heap:=h1,toks:=t1 }:=by
 refine #[U2 I hc B hC _p hf,rfl,I.57,Un.kept hk,#[_,hn,λi x v e1 e2 _=>HV I B Zx (λx c _ v z=>z.keeps hk) e1 e2],λx c h=>?_,I.Zb.42 hC,λx c h=>?_,λp hp=>?_,I.Zb.59 hk,?_]
 ·rcases kq B I h with ⟨_,m⟩ | ⟨_,_,m⟩
  ·show #[none,(_p.empty _ _ m).1]
  ·obtain v|q:=I.cell x c m;show #[v,q.keeps hk]
 ·rcases kq B I h with ⟨_,m⟩ | ⟨_,_,m⟩
  ·show I.Zb.42 (by have:=(_p.empty _ _ m).2;lia)
  ·show I.Zp x c m
 ·have e:p=(D,oD):=by simpa [zE] using hp
  subst e;show #[hoD,I.Zb.42 hD,hDC,λz=>dQ _ (bQ (Wq I z) hD),hdD]
 ·change (IT own.9 ZH σ).9=(own++Y8).9
  have:=congrArg Yt Zx;simp only[af] at this;unfold IT;simp [this]
theorem PB {σ':St} (I:Inv X YZ σ Z.H Z.s) (B:Bk X.16 scope own Y8) (Zx:zj X Y8 ZH) (hf:∀b∈Z.fp,my X YZ Z.H b/\@LT.lt Nat instLTNat b Z.s.6)
  (J:Inv (zE X own Y8 scope Z) pins' σ' H' s'):Inv (zE X own Y8 scope Z) pins' (IT own.9 ZH σ) H' s':=by
 refine #[J.ok,J.os,J.57,J.51,?_,J.cell,J.54,J.Zp,J.pin,J.Zb,?_]
 ·obtain m|hn|_:=J.loc;refine #[m,hn,λi x v e1 e2 _=>HV I B Zx (λx c hx v z=>?_) e1 e2];obtain o|ho|hd:=z;obtain sl|e:=J.base.any ho (I.Zp x c hx) λz=>(hf c z).1.2.2.2.2.1 x c hx rfl
  show #[_,e,hd]
 ·change (IT own.9 ZH σ).9=(own++Y8).9
  have:=congrArg Yt Zx;simp only[af] at this;unfold IT;simp [this]
theorem Sf {σ':St} {D:Addr} (I:Inv X YZ σ Z.H Z.s) (hf:∀b∈Z.fp,my X YZ Z.H b/\@LT.lt Nat instLTNat b Z.s.6) (hD:Z.s.6<=D)
  (J:Inv (zE X own Y8 scope Z) [(D,{ cls:=.type "list",data:=.seq Y5.12 n })] σ' H' s') (r:cZ ys Y5) (hz:ys.9<=XG) :
  Inv X YZ σ (upd H' D (.lst ys)) s':=by
 have pD:=J.pin (D,{ cls:=.type "list",data:=.seq Y5.12 n }) (by simp);have ne:∀{b:Addr} {o:Obj},Z.s.heap.14 b=some o->b≠D:=λe z=>by subst z;show dQ _ (bQ (XB e) hD)
 have nt:∀{b:Addr} {u:HO},H' b=some u->b≠D:=λe z=>by rw[z,pD.2.1] at e;cases e
 refine I.ads (ch:=Z.fp) J.os #[J.base.keep,J.base.slot,λb o e h hx=>?_,J.base.there,λb xs e=>?_,λb o u e=>?_,λb ps e=>?_] (λb u e=>?_) J.57 λb hb=>?_
 ·rw[bK (ne e)];show J.base.54 b o e h hx
 ·have q:=J.base._i b xs e;rw[bK (nt q)];show q
 ·have q:=J.base._c b o u e;rw[bK (nt q)];show q
 ·obtain more|q:=J.base._j b ps e;show #[more,by rw[bK (nt q)];show q]
 ·by_cases hb:b=D
  ·subst hb;rw[aN] at e;cases e;show #[hz,Y5,n,r,pD.1]
  ·rw[bK hb] at e;show (J.Zb b u e).Z8 (λc v _ q=>q) (λc q=>by rw[bK (nt q)];show q) λc xs q=>by rw[bK (nt q)];show q
 ·obtain _|f1|_|f3|f4|f5:=(hf b hb).1;show #[f3,f1,f4,f5]
end
theorem TH {t:Sem α} {Q Q':α->Xv->Prop} (h:XF M A t Q (λ_ _=>False) s) (hQ:∀a s,Q a s->Q' a s):XF M A t Q' E s :=
 Yw h hQ λ_ _ z=>Ye z
theorem E6 (I:Nat->Xv->Prop)
  (turn:∀(E:Value->Xv->Prop) n s,I n s->XF (model prog w) A (pyNext it) (λr s₁=>match r with
   | none=>R (.ok .next) s₁
   | some v=>XF (model prog w) A (letOwnedTupleGo target it v) (λ_ s₂=>XF (model prog w) A (assign target env v) (λ_ s₃ =>
     XF (model prog w) A (forIn ifs true λc r=>if r=true then do let ok <- isTrue c env (eval c env);pure (ForInStep.yield ok) else pure (ForInStep.yield r)) (λok s₄ =>
      if ok=true then XF (model prog w) A (eval elt env) (λx s₅=>XF (model prog w) A (call (.builtin "list.append") [acc,x]) (λ_ s₆=>∃m,m < n/\I m s₆) E s₅) E s₄
      else ∃m,m < n/\I m s₄) E s₃) E s₂) E s₁) E s)
  (n:Nat) (h:I n s):YU (model prog w) A (.compLoop (.ListComp elt [#[target,iter,ifs,0]] scope pos) 0 it acc env) R s:=by
 refine codeAny_loop rfl I (λn s hI=>?_) n h;change XF _ A ((compTurn (.ListComp elt [#[target,iter,ifs,0]] scope pos) 0 it acc env).onRaise (λx=>do noteFrame x env;theTreesLotGoes x)) _ _ s
 refine wpAny_noted ?_;rw[compTurn_list];refine T1 (wpAny_standAt (T1 (Yw (turn _ n s hI) (λr s₁ h₁=>?_) λ_ _ h'=>h')));cases r with
 | none=>show XH h₁
 | some v =>
  refine T1 (Yw h₁ (λ_ s₂ h₂=>T1 (Yw h₂ (λ_ s₃ h₃=>T1 (Yw h₃ (λok s₄ h₄=>?_) λ_ _ h'=>h')) λ_ _ h'=>h')) λ_ _ h'=>h');cases ok with
  | false=>show XH #[rfl,h₄]
  | true =>
   show T1 (T1 (Yw h₄ (λx s₅ h₅=>T1 (Yw h₅ (λ_ s₆ h₆=>XH (XH #[rfl,h₆])) λ_ _ h'=>h')) λ_ _ h'=>h'))
def PF (X:Cx) (ifs:List Expr) (t:TT):Prop :=
 ∀(YZ:List (Addr×Obj)) (s:Xv) (σ:St) (H:Hp) (Q:Bool->Hp->Prop),Inv X YZ σ H s->t σ H Q →
  XF (model X.21 X.w) X.A (forIn ifs true λc r=>if r=true then do let ok <- isTrue c X.16 (eval c X.16);pure (ForInStep.yield ok) else pure (ForInStep.yield r)) (TP X YZ σ Q) X.xe s
def Vt:TT:=λ_ H Q=>Q true H
theorem cp:PF X [] Vt:=λ_ _ _ H _ I h=>wpAny_tests_nil #[H,I,h]
theorem Jg (h:PT X c t):PF X [c] t:=λYZ s σ H Q I hw=>wpAny_tests_one (h YZ s σ H Q I hw)
def sZ (σ₀:St) (g:TG) (tf:TT) (te:TE) (x:V) (H:Hp) (NY:V->Hp->Prop) (NN:Hp->Prop):Prop :=
 g x σ₀ H λσ2 H2=>tf σ2 H2 λb H3=>if b=true then te σ2 H3 NY else NN H3
def uD (J:It) (σ₀:St) (g:TG) (tf:TT) (te:TE) (Q:VK) (H1:Hp):Prop :=
 ∃W:Nat->Nat->List V->Hp->Prop,(∃m,W 0 m [] H1)/\∀i m ys H,W i m ys H →
  (J.stop i H/\ys.9<=XG/\∀p,H p=none->Q (.ref p) (upd H p (.lst ys))) \/
  (J.go i H/\ys.9 < XG/\∃(NY:V->Hp->Prop) (NN:Hp->Prop),(∀y H',NY y H'->∃m',m' < m/\W (i+1) m' (ys++[y]) H')/\(∀H',NN H'->∃m',m' < m/\W (i+1) m' ys H') /\
   ∀x H',J.F! i H x H'->sZ σ₀ g tf te x H' NY NN)
def FK (wi:TI) (k:Nat) (ZH:List Nat) (g:TG) (tf:TT) (te:TE):TE:=λσ H Q=>wi σ H λJ H1=>uD J (IT k ZH σ) g tf te Q H1
abbrev lobj (Y5:List Value) (n:Nat):Obj:={ cls:=.type "list",data:=.seq Y5.12 n }
section
variable {X:Cx} {own Y8:List Str} {ZH:List Nat} {scope:Scope} {elt tg iter:Expr} {ifs:List Expr} {pos:Pos} {wi:TI} {g:TG} {tf:TT} {te:TE}
theorem C9 (hc:X.calm=true) (B:Bk X.16 scope own Y8) (Zx:zj X Y8 ZH)
  (hi:PI X tg iter wi) (hg:∀Z,PG (zE X own Y8 scope Z) tg g) (hf:∀Z,PF (zE X own Y8 scope Z) ifs tf) (he:∀Z,PE (zE X own Y8 scope Z) elt te)
  (hs:∀x,YR iter X.16 x=pure x) {σ:St} (I:Inv X YZ σ H s) (h:FK wi own.9 ZH g tf te σ H Q)
  (fin:∀(D C:Addr) (s':Xv) (H':Hp),Inv X YZ σ H' s'->my X YZ H' C->(∃m,s'.heap.Ns C m)->Q (.ref D) H'->compPost (model X.21 X.w) X.A X.xe use Qe (.ref D) C (.ok .next) s') :
  XF (model X.21 X.w) X.A (comprehension (.ListComp elt [#[tg,iter,ifs,0]] scope pos) scope X.16 fpos (newList []) false (eval iter X.16) use) Qe X.xe s:=by
 refine wpAny_comprehension_free (use:=use) rfl hs (Bg λy hy hk=>I.ok.has y.1 (B.abp _ (B.frees y hy hk).1)) B.30 B.locs ?_;refine iq (hi YZ s σ H _ I h) λv s1 h1=>iq h1 λitv s2 h2=>?_
 obtain it|fp|tn|J|H2|e|I2|T|st2|f2|W|⟨m0,w0⟩|turn:=h2;subst e;have hfp:∀b∈fp,my X YZ H2 b/\@LT.lt Nat instLTNat b s2.6:=λb hb=>#[f2 b hb,let ⟨_,e,_⟩:=T.obj _ _ st2 b hb;XB e]
 refine wpAny_newObj_type (GI ?_) (bD _);have es:(s2.heap.25 { cls:=.type "list",data:=.seq ([]:List Value).5 }).objs.size=s2.6+1:=Yr ..
 change YU _ _ (.compStart _ 0 (.ref it) (.ref s2.6) { newEnv scope (s2.heap.25 { cls:=.type "list",data:=.seq ([]:List Value).5 }).objs.size X.env.globals (Ya ((s2.heap.25 { cls:=.type "list",data:=.seq ([]:List Value).5 }).objs.size+1) scope.28 (eG X.16 scope.28 [])) X.env.qual none .none (some X.16) builtinsNs with scope:=relabel scope X.16 })
  (compPost (model X.21 X.w) X.A X.xe use Qe (.ref s2.6) (s2.heap.25 { cls:=.type "list",data:=.seq ([]:List Value).5 }).objs.size)
  { s2 with heap:=pushCells ((s2.heap.25 { cls:=.type "list",data:=.seq ([]:List Value).5 }).25 { cls:=.type "dict",data:=.dict [].12 }) scope.28 }
 have hk1:∀b o,(s2.heap.25 { cls:=.type "list",data:=.seq ([]:List Value).5 }).14 b=some o->(pushCells ((s2.heap.25 { cls:=.type "list",data:=.seq ([]:List Value).5 }).25 { cls:=.type "dict",data:=.dict [].12 }) scope.28).14 b=some o :=
  λb o e=>pushCells_keeps _ _ _ _ (Xx _ e)
 have hk:∀b o,s2.heap.14 b=some o->(pushCells ((s2.heap.25 { cls:=.type "list",data:=.seq ([]:List Value).5 }).25 { cls:=.type "dict",data:=.dict [].12 }) scope.28).14 b=some o:=λb o e=>hk1 b o (Xx _ e)
 have hoD:=hk1 s2.heap.objs.39 _ (XO s2.29 (o:={ cls:=.type "list",data:=.seq ([]:List Value).5 }) rfl);have hn:=(Heap.Ns.new (s2.heap.25 { cls:=.type "list",data:=.seq ([]:List Value).5 }) (.type "dict")).keeps (pushCells_keeps scope.28 _);have _p:=L8 ((s2.heap.25 { cls:=.type "list",data:=.seq ([]:List Value).5 }).25 { cls:=.type "dict",data:=.dict [].12 }) (s2.6+1) (by rw[Yr,es]) scope.28;rw[es] at hn ⊢;generalize pushCells ((s2.heap.25 { cls:=.type "list",data:=.seq ([]:List Value).5 }).25 { cls:=.type "dict",data:=.dict [].12 }) scope.28=h3 at hk hoD hn _p ⊢;have Z:Bz:=#[s2,H2,fp,s2.6+1]
 have I3:Inv (zE X own Y8 scope #[s2,H2,fp,s2.6+1]) [(s2.6,lobj [] 0)] (IT own.9 ZH σ) H2 { s2 with heap:=h3 } :=
  Se (Z:=#[s2,H2,fp,s2.6+1]) (t1:=s2.26) I2 hc B Zx (lG _) _p hfp hk hn (aj _) (c5 (df _)) hoD (λv z=>nomatch z)
 have st3:tn 0 h3:=T.keep _ _ _ st2 λb _ o e=>hk b o e
 have loop:YU (model X.21 X.w) X.A (.compLoop (.ListComp elt [#[tg,iter,ifs,0]] scope pos) 0 (.ref it) (.ref s2.6) (yR X.16 scope (s2.6+1))) (compPost (model X.21 X.w) X.A X.xe use Qe (.ref s2.6) (s2.6+1)) { s2 with heap:=h3 }:=by
  refine E6 (λm s'=>∃i ys σ' H' Y5 n,Inv (zE X own Y8 scope #[s2,H2,fp,s2.6+1]) [(s2.6,lobj Y5 n)] σ' H' s'/\tn i s'.8/\(∀b∈fp,H' b=none)/\cZ ys Y5/\W i m ys H') ?_ m0
   #[0,[],_,H2,[],0,I3,st3,λb hb=>(f2 b hb).1,.nil,w0]
  rintro E n s4 ⟨i,ys,σ4,H4,Y5,k,I4,st4,fr4,rv,w4⟩
  have fpo:∀{pp:List (Addr×Obj)} {H':Hp},(∀p∈pp,p.1=s2.6)->(∀b∈fp,H' b=none)->∀b∈fp,my (zE X own Y8 scope #[s2,H2,fp,s2.6+1]) pp H' b:=λ{pp H'} hpp hn b hb=>by
   obtain e1|e2:=I4.ok.exf b hb;refine #[hn b hb,e1,I4.ok.B! b hb,.inl hb,e2,λp hp=>?_];have L!:p∈pp:=by simpa [zE] using hp
   have l:=(hfp b hb).2;rw[hpp p L!];show λz=>dQ _ (by rw[<- z] at l;show l)
  have aaL:∀{Y5:List Value} {n:Nat},∀p∈[(s2.6,lobj Y5 n)],p.1=s2.6:=λp hp=>by simp at hp;rw[hp]
  rcases turn i n ys H4 w4 with ⟨stop,hz,q⟩ | ⟨go,Zo,NY,NN,hNY,hNN,step⟩
  ·refine iq (T.done (zE X own Y8 scope #[s2,H2,fp,s2.6+1]) rfl rfl rfl rfl i _ s4 σ4 H4 E I4 (fpo aaL fr4) st4 stop) λr s5 #[hr,I5]=>?_
   subst hr;have pD:=I5.pin (s2.6,lobj Y5 k) (by simp);have I6:=Sf (Z:=#[s2,H2,fp,s2.6+1]) I2 hfp (aj _) I5 rv hz
   have hC:upd H4 s2.heap.objs.39 (.lst ys) (s2.6+1)=none:=by
    rw[bK (LC (df _))];show I5.54
   obtain m|hm|_:=I5.loc;show fin _ _ s5 _ I6 (I2._r (lG _) hC) #[m,hm] (q _ pD.2.1)
  ·refine iq (T.item (zE X own Y8 scope #[s2,H2,fp,s2.6+1]) rfl rfl rfl rfl i _ s4 σ4 H4 E I4 (fpo aaL fr4) st4 go) λr s5 #[u,hr,h5]=>?_
   subst hr;refine iq h5 λ_ s6 hz=>?_
   obtain x|H6|I6|r6|y6|st6|fr6:=hz;have I6':=(PB (Z:=#[s2,H2,fp,s2.6+1]) I2 B Zx hfp I6).pinned (fpo aaL fr6) (T.obj _ _ st6)
   have back:∀{σ7:St} {H7:Hp} {s7:Xv},Inv (zE X own Y8 scope #[s2,H2,fp,s2.6+1]) ([(s2.6,lobj Y5 k)]++AB fp s6.8) σ7 H7 s7 →
     Inv (zE X own Y8 scope #[s2,H2,fp,s2.6+1]) [(s2.6,lobj Y5 k)] σ7 H7 s7/\tn (i+1) s7.8/\∀b∈fp,H7 b=none:=λ{σ7 H7 s7} I7=>by
    refine #[I7.ZD,T.keep _ _ _ st6 λb hb o e=>(I7.pin (b,o) (aX _ (aX _ (rY hb e)))).1,λb hb=>?_];obtain o|e|d:=T.obj _ _ st6 b hb;show (I7.pin (b,o) (aX _ (aX _ (rY hb e)))).2.1
   refine TH (hg _ _ s6 _ H6 x u _ I6' r6 (step x H6 y6)) λ_ s7 hz=>?_
   obtain σ7|H7|I7|q7:=hz;refine TH (hf _ _ s7 σ7 H7 _ I7 q7) λok s8 hz=>?_
   obtain H8|I8|q8:=hz;cases ok with
   | false =>
    rw[if_neg bA] at q8 ⊢;obtain m'|hm|w8:=hNN H8 q8;obtain J1|J2|J3:=back I8;show #[m',hm,i+1,ys,σ7,H8,Y5,k,J1,J2,J3,rv,w8]
   | true =>
    rw[if_pos rfl] at q8 ⊢;refine TH (he _ _ s8 σ7 H8 _ I8 q8) λz s9 hz=>?_
    obtain y|H9|I9|r9|q9:=hz;obtain J1|J2|J3:=back I9;obtain m'|hm|w9:=hNY y H9 q9;have pD:=J1.pin (s2.6,lobj Y5 k) (by simp);have hl:=rv.9;refine call_meets F.slot_list_append #[_,pD.1,rfl] F.entry_list_append (F.args_list_append_2 _ _) (PySem.list_append s2.heap.objs.39 Y5.12 k z (by rw[aQ];lia)) #[pD.1,?_];have e9:=mO pD.1 (λa=>a.25 z);have e9':(Y5.toArray.25 z)=(Y5++[z]).5:=by simp
    rw[e9'] at e9;obtain ⟨n',e9⟩:∃n',(s9.heap.49 s2.heap.objs.39 (XZ λa=>a.25 z)).14 s2.6=some (lobj (Y5++[z]) n'):=#[_,e9]
    have J4:Inv (zE X own Y8 scope #[s2,H2,fp,s2.6+1]) [] σ7 H9 { s9 with heap:=s9.heap.49 s2.heap.objs.39 (XZ λa=>a.25 z),toks:=s9.26 } :=
     (J1.ZU (pins':=[]) λp hp=>nomatch hp).turned (λb o hb e=>(XW s9.29 _ (Yg hb)).4 e) pD.2.1 pD.2.2.1 (.inr (aj _)) (λx c hx z=>by
      rcases kq (Z:=⟨s2,H2,fp,s2.6+1⟩) B I2 hx with ⟨_,m⟩ | ⟨_,_,m⟩
      ·have:=(_p.empty _ _ m).2;have z':@Eq Nat c s2.6:=z
       lia
      ·have:=E8 (Z:=#[s2,H2,fp,s2.6+1]) I2 m;rw[z] at this;show dQ _ this) λp hp=>by simp [zE] at hp
    have nfp:∀b∈fp,b≠s2.6:=λb hb z=>by have:=(hfp b hb).2;rw[z] at this;show dQ _ this
    refine #[m',hm,i+1,ys++[y],σ7,H9,Y5++[z],n',J4.ZU λp hp=>?_,T.keep _ _ _ J2 λb hb o e=>(XW s9.29 _ (Yg (nfp b hb))).4 e,J3,rv.append (.cons r9 .nil),w9];have ep:p=(s2.6,lobj (Y5++[z]) n'):=by simpa using hp
    rw[ep];show #[e9,pD.2.1,pD.2.2.1,pD.2.2.2.1,λv z=>nomatch z]
 show codeAny_compStart_list loop (T.self _ _ _ _ _ st3 loop)
theorem cg (own Y8:List Str) (ZH:List Nat) (hi:PI X tg iter wi) (hg:∀Z,PG (zE X own Y8 scope Z) tg g) (hf:∀Z,PF (zE X own Y8 scope Z) ifs tf) (he:∀Z,PE (zE X own Y8 scope Z) elt te)
  (h1:WN scope own Y8=true:=by decide +kernel) (h2:Dd X.16 Y8=true:=by rfl) (Zx:zj X Y8 ZH:=by rfl) (hc:X.calm=true:=by rfl) (hs:∀x,YR iter X.16 x=pure x:=by intro _;rfl) :
  PE X (.ListComp elt [#[tg,iter,ifs,0]] scope pos) (FK wi own.9 ZH g tf te):=by
 intro YZ s σ H Q I h;rw[eval_ListComp];refine C9 (use:=none) hc (Bk.of h1 h2) Zx hi hg hf he hs I h λD C s' H' I' fC hm q=>?_
 obtain m|hm:=hm;refine #[m,hm,λh' hs'=>?_];obtain f0|f1|f2|f3|f4|f5:=fC;show #[.ref D,H',I'.turned (t':=s'.26) (λb o hb e=>(hs'.2 b hb).4 e) f0 f1 f3 f4 f5,rfl,q]
theorem jq (i:Nat) (own Y8:List Str) (ZH:List Nat) {x:Str} {pos' abZ:Pos} (hN:X.N.33) (_M:X.N[i]?=some x) (hx:X.env.scope.names.13 x=some .local) (hi:PI X tg iter wi) (hg:∀Z,PG (zE X own Y8 scope Z) tg g) (hf:∀Z,PF (zE X own Y8 scope Z) ifs tf) (he:∀Z,PE (zE X own Y8 scope Z) elt te)
  (h1:WN scope own Y8=true:=by decide +kernel) (h2:Dd X.16 Y8=true:=by rfl) (Zx:zj X Y8 ZH:=by rfl) (hc:X.calm=true:=by rfl) (hs:∀x,YR iter X.16 x=pure x:=by intro _;rfl)
  (hsw:swapsWith (.ListComp elt [#[tg,iter,ifs,0]] scope pos) (some (.Name x pos')) abZ.line X.16=pure true:=by rfl) :
  PS X (.Assign [.Name x pos'] (.ListComp elt [#[tg,iter,ifs,0]] scope pos) abZ) (Nu (FK wi own.9 ZH g tf te) (C3 i)):=by
 intro YZ s σ H D I h;rw[exec_Assign_Name_used _ _ _ _ hsw];refine T1 (wpAny_standAt (T1 ?_));rw[arm_evalThenUse_ListComp];refine T1 (C9 (Q:=λv H1=>D.nx (σ.43 i (some v)) H1) (use:=some _) hc (Bk.of h1 h2) Zx hi hg hf he hs I h λL C s' H' I' fC hm q=>?_);obtain m|hm:=hm;obtain f0|f1|f2|f3|f4|f5:=fC;refine wpAny_assign_Name (Cy I' hN _M (.inl hx) (v:=.ref L) rfl (λs'' I'' hz=>?_) (.inr hx));obtain a|sb|ha:=hz
 have hCa:C≠a:=by
  rcases ha with e | e
  ·rw[e];show f1
  ·show (f4 x a e).19
 refine #[m,hm.at' λo e=>(sb.2 C hCa).4 e,λh' hs'=>?_];have I3:=I''.turned (h':=h') (t':=s''.26) (λb o hb e=>(hs'.2 b hb).4 e) f0 f1 f3 f4 f5;show XH (XH #[_,H',I3,q])
end
section
variable {K:Y2}
theorem d9 (Pv:Nat->List V->Hp->Prop) (hz:xs.9<=XG) (h0:Pv 0 [] H) (hl:∀i ys H,i<=xs.9->Pv i ys H->bY K H a xs)
  (hs:∀i x ys H,xs[i]?=some x->ys.9<=i->Pv i ys H->sZ σ₀ g tf te x H (λy H'=>Pv (i+1) (ys++[y]) H') (λH'=>Pv (i+1) ys H'))
  (hd:∀ys H,ys.9<=xs.9->Pv xs.9 ys H->∀p,H p=none->Q (.ref p) (upd H p (.lst ys))):uD (Ss K a) σ₀ g tf te Q H:=by
 refine #[λi m ys H=>m=xs.9 - i/\i<=xs.9/\ys.9<=i/\Pv i ys H,#[xs.9,by simp,bD _,bD _,h0],?_];rintro i m ys H ⟨rfl,hi,hy,p⟩;have q:=hl i ys H hi p;by_cases Zo:i < xs.9
 ·refine .inr #[#[xs,xs[i],q,by simp [Zo]],(),λy H'=>Pv (i+1) (ys++[y]) H',λH'=>Pv (i+1) ys H',λy H' p'=>#[xs.9 - (i+1),(),rfl,Zo,by rw[ax,bN];lia,p'],λH' p'=>#[xs.9 - (i+1),(),rfl,Zo,(),p'],λx H' y=>?_];obtain e|y:=y;subst e;show hs i x ys _ (y xs q) hy p
 ·have e:i=xs.9:=()
  subst e;show .inl #[#[xs,q,aj _],(),hd ys H hy p]
theorem oS {lo:Int} (Pv:Nat->List V->Hp->Prop) (hz:n<=XG) (h0:Pv 0 [] H)
  (hs:∀i ys H,i < n->ys.9<=i->Pv i ys H->sZ σ₀ g tf te (.int (lo+i)) H (λy H'=>Pv (i+1) (ys++[y]) H') (λH'=>Pv (i+1) ys H'))
  (hd:∀ys H,ys.9<=n->Pv n ys H->∀p,H p=none->Q (.ref p) (upd H p (.lst ys))):uD (IC lo n) σ₀ g tf te Q H:=by
 refine #[λi m ys H=>m=n - i/\i<=n/\ys.9<=i/\Pv i ys H,#[n,by simp,bD _,bD _,h0],?_];rintro i m ys H ⟨rfl,hi,hy,p⟩;by_cases Zo:i < n
 ·refine .inr #[Zo,(),λy H'=>Pv (i+1) (ys++[y]) H',λH'=>Pv (i+1) ys H',λy H' p'=>#[n - (i+1),(),rfl,Zo,by rw[ax,bN];lia,p'],λH' p'=>#[n - (i+1),(),rfl,Zo,(),p'],λx H' y=>?_];obtain e|y:=y;subst e y;show hs i ys _ Zo hy p
 ·have e:i=n:=()
  subst e;show .inl #[aj _,(),hd ys H hy p]
end
open Nm
def hZ (i j:Int):Prop:=Vg i j\/∃m n,Sz m i/\Sz n j/\m+n<=100000000
def qK (i j:Int):Prop:=j≠0/\Sz 35996000 j
theorem Bi (h:Sz k i):Yx.Int.intBits i<=k:=by
 unfold Yx.Int.intBits;by_cases e:i=0
 ·subst e;simp
 ·have e':(i == 0)=false:=by simpa using e
  rw[e'];have hn:i.15≠0:=()
  have:=(Nat.log2_lt hn).mpr h;simp only[jZ,if_false]
  lia
theorem hZ.ok (h:hZ i j):IntMulOk i j:=by
 rcases h with h | ⟨m,n,h1,h2,h3⟩
 ·show h.ok
 ·show .of_le (Bi h1) (Bi h2) (ai h3 ())
section
variable {X:Cx} {a b:Expr} {ta tb:TE} {pos:Pos}
theorem c7:yX X (YW .Mult) (rI hZ λi j=>.int (i*j)):=WZ λ_ _ _ _ _ _ _ hc q=>mul_int q hc.ok
theorem jK (hs:X.53=env :: l) (S:uO N ps sc) (he:env.scope=sc) (hb:env.builtins=builtinsNs) (hg:env.globals=XE) (ht:X.prog.given.tree=none) (hd:X.A.depth+Yx.pylongFrames < recursionLimit):yX X (YW .FloorDiv) (rI qK λi j=>.int (i.fdiv j)):=by
 intro YZ s σ H x y v u Q I rx ry h;obtain i|j|rfl|rfl|hc|q:=h;obtain t|rfl:=rx;obtain t'|rfl:=ry;refine floordiv_int hc.1 #[.int _,H,I.tok _,#[_,rfl],q] (.inr (PySem.PylongRoom.of I.nolimit hd (PySem.SeerAt.of (I.ok.mod.seer.keeps I.bk) ht (env:=env) (l:=l) (by rw[I.ok.frames,hs]) (by rw[he];show S.gen) (by rw[he];show S.co) hb hg)))
theorem vg (hr:mi k A):A.depth+Yx.pylongFrames < recursionLimit:=by have:=hr.dp;change A.depth+100 < _;lia
def Vw (t u:TS):TS:=λD σ H=>∃N:St->Hp->Prop,t { D with nx:=N } σ H/\∀σ' H',N σ' H'->u D σ' H'
theorem kg {st:Stmt} (h1:PS X st t) (h2:IB X rest u):IB X (st :: rest) (Vw t u):=by
 intro YZ s σ H D I h;obtain N|h|k:=h;refine wpAny_execs_cons (iq (h1 YZ s σ H { D with nx:=N } I h) λf s1 q=>?_);cases f with
 | next =>
  obtain σ'|H'|I'|q:=q;show h2 YZ s1 σ' H' D I' (k _ _ q)
 | ret v=>show q
 | brk=>show q
 | cont=>show q
def S3 (K:Y2):V->V->Hp->VK->Prop:=λo i H Q=>∃p xs k v,o=.ref p/\i=.int k/\bY K H p xs/\JR xs k=some v/\Q v H
theorem O2:Wy X (S3 X.K):=by
 intro YZ s σ H o i ov iv Q I ro ri h;obtain p|xs|k|z|rfl|rfl|hq|he|q:=h;cases ro;obtain t|rfl:=ri;obtain Y5|r|pl|hz:=I.31 hq;obtain j|h1|h2|h3|h4|h5:=Fb he;obtain w|ew|Zz:=r.get h2;have hl:=r.9;have hn:=AY;have fin:EP X YZ σ Q w s:=#[z,H,I,Zz,q];by_cases h0:0<=k
 ·have hj:k.27=j:=by
   rw[seqIndex_of h0 h5] at h1;show cm h1
  show wpAny_getItem_list pl.20 h0 () (by rw[hj];simpa using ew) fin
 ·have hj:(k+(Y5.5.7:Int)).27=j:=by
   rw[seqIndex_neg () h4] at h1;rw[aQ,<- hl];show cm h1
  show wpAny_getItem_list_neg pl.20 () (by rw[aQ] <;> lia) () (by rw[hj];simpa using ew) fin
def L4 (K:Y2) (T:String):V->Hp->VK->Prop:=λx H Q=>∃t b,vY K H x t/\YF K t (.type T)=some b/\Q (.bl b) H
theorem yu {c:Str} {T:String} {p p2:Pos} (hg:Gl X "isinstance") (hm:X.mg "isinstance"=none) (hb:Yv c=some (.type T)) (hmc:X.mg c=none) (ha:PE X a ta) (hgc:Gl X c:=by rfl) (hn:c≠"__name__":=by decide)
  (hd:(c == ("__debug__":Str))=false:=by decide) (he:Xy [a,.Name c p2] X.16=[(false,eval a X.16),(false,eval (.Name c p2) X.16)]:=by rfl)
  (_G:(backTo pos (Xy [.Name c p2] X.16)).any (·.1)=false:=by rfl) (v!:Xy [.Name c p2] X.16=[(false,eval (.Name c p2) X.16)]:=by rfl):PE X (.Call (.Name "isinstance" p) [a,.Name c p2] [] pos) (Vu (L4 X.K T) ta):=by
 intro YZ s σ H Q I h;refine XY (kY I hg hm Yz ?_);have hA:PA X [a,.Name c p2] (ir ta (ir (tC (.ty T)) xP)):=fu ha (fu (K3 hgc hmc hb rfl hn hd) gA v!) (by rw[he,v!])
 have hq:ir ta (ir (tC (.ty T)) xP) σ H (λvs H1=>∃x,vs=[x,.ty T]/\L4 X.K T x H1 Q):=by
  change ta σ H λx H1=>∃x',[x,V.ty T]=[x',V.ty T]/\L4 X.K T x' H1 Q
  have e:(λx H1=>∃x',[x,V.ty T]=[x',V.ty T]/\L4 X.K T x' H1 Q)=λx H1=>L4 X.K T x H1 Q:=by
   funext x H1;apply propext;constructor
   ·rintro ⟨x',e,q⟩;cases e;show q
   ·intro q;show #[x,rfl,q]
  rw[e];show h
 refine Yf (iq (hA pos YZ s σ H _ I hq) λus s1 hz=>?_) (by rw[he,v!]) _G;obtain vs|H1|I1|r1|x|e|q1:=hz;subst e;obtain u|w'|rfl|ru|rt:=vals2 r1;cases rt;obtain t|bb|ty|ek|q:=q1;show yH I1 ru ty ek λtk=>#[.bl bb,H1,I1.tok tk,rfl,q]
end
structure Kind (α:Type) [DecidableEq α] where
 R:Y2->Hp->V->α->Prop
 d:Nat
 inj:∀{X:Cx} {YZ:List (Addr×Obj)} {σ:St} {H:Hp} {s:Xv} {x:V} {a b:α},Inv X YZ σ H s->R X.K H x a->R X.K H x b->a=b
 rc:∀{X:Cx} {YZ:List (Addr×Obj)} {σ:St} {H:Hp} {s:Xv} {x y:V} {v u:Value} {a b:α} {A:Yd},Inv X YZ σ H s->RelV x v->RelV y u->R X.K H x a->R X.K H y b->A.35+d < Ys->YY A s v u (decide (a=b))
 ne:∀{X:Cx} {YZ:List (Addr×Obj)} {σ:St} {H:Hp} {s:Xv} {x y:V} {v u:Value} {a b:α} {A:Yd},Inv X YZ σ H s->RelV x v->RelV y u->R X.K H x a->R X.K H y b->A.35+d < Ys->YG A s v u (!decide (a=b))
 eq:∀{X:Cx} {YZ:List (Addr×Obj)} {σ:St} {H:Hp} {s:Xv} {x y:V} {v u:Value} {a b:α} {A:Yd},Inv X YZ σ H s->RelV x v->RelV y u->R X.K H x a->R X.K H y b->A.35+d < Ys->XR A s v u (decide (a=b))
def Mi:Kind Int where
 R:=λ_ _ x i=>x=.int i
 d:=0
 inj:=λ_ h1 h2=>by rw[h1] at h2;cases h2;rfl
 rc:=λ{X YZ σ H s x y v u a b A} I rx ry h1 h2 _=>by
  subst h1 h2;obtain t|rfl:=rx;obtain t'|rfl:=ry;have q:=YY.int_int (A:=A) (s:=s) a t b t';rwa [BC] at q
 ne:=λ{X YZ σ H s x y v u a b A} I rx ry h1 h2 _=>by
  subst h1 h2;obtain t|rfl:=rx;obtain t'|rfl:=ry;have q:=YG.int_int (A:=A) (s:=s) a t b t';rwa [BC] at q
 eq:=λ{X YZ σ H s x y v u a b A} I rx ry h1 h2 _=>by
  subst h1 h2;obtain t|rfl:=rx;obtain t'|rfl:=ry;have q:=XR.int_int (A:=A) (s:=s) a t b t';rwa [BC] at q
theorem l5 {α β:Type} {F:α->β->Prop}:∀{l1:List α} {l2:List β} {i:Nat} (_:Xw F l1 l2) (h1:i < l1.9) (h2:i < l2.9),F l1[i] l2[i]
 | _,_,_,.nil,h1,_=>absurd h1 (fe _)
 | _,_,0,.cons r _,_,_=>r
 | _,_,i+1,.cons _ t,h1,h2=>l5 (i:=i) t (Nat.lt_of_succ_lt_succ h1) (Nat.lt_of_succ_lt_succ h2)
theorem rH {F:α->β->Prop} (hF:∀a b x,F a x->F b x->a=b):∀{l1 l2:List α} {l:List β},Xw F l1 l->Xw F l2 l->l1=l2:=by
 intro l1 l2 l h
 induction h generalizing l2 with
 | nil=>intro h';cases h';rfl
 | cons r t ih=>intro h';cases h' with | cons r' t'=>rw[hF _ _ _ r r',ih t']
theorem xx {α:Type} [DecidableEq α] (as bs:List α) (h:as.9=bs.9):(W0 as.9).all (λj=>decide (as[j]?=bs[j]?))=decide (as=bs):=by
 rw[oq,qM,decide_eq_true_iff];constructor
 ·intro q;apply lE;intro i;by_cases hi:i < as.9
  ·show of_decide_eq_true (q i (pN.mpr hi))
  ·rw[aF (),aF ()]
 ·rintro rfl i _;simp
section
variable {α:Type} [DecidableEq α] (k:Kind α)
theorem Kind.items {X:Cx} {YZ:List (Addr×Obj)} {σ:St} {H:Hp} {s:Xv} {A:Yd} (I:Inv X YZ σ H s) (hA:A.35+k.d < Ys) {xs ys:List V} {us ws:List Value} {as bs:List α}
  (rx:cZ xs us) (ry:cZ ys ws) (ha:Xw (λa x=>k.R X.K H x a) as xs) (hb:Xw (λa x=>k.R X.K H x a) bs ys) :
  ∀j (h1:j < us.5.7) (h2:j < ws.5.7),XR A s us.5[j] ws.5[j] (decide (as[j]?=bs[j]?)):=λj h1 h2=>by
 have l1:j < us.9:=by simpa using h1
 have l2:j < ws.9:=by simpa using h2
 have e1:=rx.9;have e2:=ry.9;have e3:=ha.9;have e4:=hb.9;obtain u|hu|ru:=rx.get (i:=j) (x:=xs[j]'()) (by simp);obtain w|hw|Zz:=ry.get (i:=j) (x:=ys[j]'()) (by simp);have q:=k.eq (A:=A) I ru Zz (l5 ha () ()) (l5 hb () ()) hA
 have eu:us.5[j]=u:=by
  have:=hu;rw[ae l1] at this;simpa using this
 have ew:ws.5[j]=w:=by
  have:=hw;rw[ae l2] at this;simpa using this
 rw[eu,ew,ae (show j < as.9 by lia),ae (show j < bs.9 by lia)];have e5:decide (some as[j]=some bs[j])=decide (as[j]=bs[j]):=by simp
 rw[e5];show q
theorem Dy {α:Type} [DecidableEq α] (as bs:List α) {n m:Nat} (h1:as.9=n) (h2:bs.9=m):((W0 (min n m)).all (λj=>decide (as[j]?=bs[j]?)) && n == m)=decide (as=bs):=by
 subst h1 h2;by_cases e:as.9=bs.9
 ·rw[show min as.9 bs.9=as.9 by lia,xx as bs e];simp [e]
 ·have h1:(as.9 == bs.9)=false:=by simpa using e
  rw[h1,Bool.and_false];show (decide_eq_false λz=>e (by rw[z])).19
def W5:Kind (List α) where
 R:=λK H x as=>∃p xs,x=.ref p/\nD K H p xs/\Xw (λa x=>k.R K H x a) as xs
 d:=k.d+1
 inj:=λ{X YZ σ H s x a b} I h1 h2=>by
  obtain p|xs|rfl|hp|pa:=h1;obtain q|ys|e|hq|pb:=h2;cases e;have e:=I.Zi hp hq;subst e;show rH (F:=λa x=>k.R X.K H x a) (λa b x=>k.inj I) pa pb
 rc:=λ{X YZ σ H s x y v u a b A} I rx ry h1 h2 hA=>by
  obtain p|xs|rfl|hp|pa:=h1;obtain q|ys|rfl|hq|pb:=h2;cases rx;cases ry;obtain us|r1|t1|_:=I.44 hp;obtain ws|r2|t2|_:=I.44 hq;have z:=YS (A:=A) (e:=λj=>decide (a[j]?=b[j]?)) (show s.heap.48 p us.12 from t1) (show s.heap.48 q ws.12 from t2) () (k.items (A:=A.in1) I (by change A.35+1+k.d < Ys;lia) r1 r2 pa pb);rwa [Dy a b (by rw[pa.9,r1.9];simp) (by rw[pb.9,r2.9];simp)] at z
 ne:=λ{X YZ σ H s x y v u a b A} I rx ry h1 h2 hA=>by
  obtain p|xs|rfl|hp|pa:=h1;obtain q|ys|rfl|hq|pb:=h2;cases rx;cases ry;obtain us|r1|t1|_:=I.44 hp;obtain ws|r2|t2|_:=I.44 hq;have z:=YG.tuples (A:=A) (e:=λj=>decide (a[j]?=b[j]?)) (show s.heap.48 p us.12 from t1) (show s.heap.48 q ws.12 from t2) () (k.items (A:=A.in1) I (by change A.35+1+k.d < Ys;lia) r1 r2 pa pb);rwa [Dy a b (by rw[pa.9,r1.9];simp) (by rw[pb.9,r2.9];simp)] at z
 eq:=λ{X YZ σ H s x y v u a b A} I rx ry h1 h2 hA=>by
  obtain p|xs|rfl|hp|pa:=h1;obtain q|ys|rfl|hq|pb:=h2;cases rx;cases ry;by_cases e:p=q
  ·subst e;have e:=I.Zi hp hq;subst e;rw[rH (F:=λa x=>k.R X.K H x a) (λa b x=>k.inj I) pa pb,decide_eq_true rfl];show XR.same _
  ·obtain us|r1|t1|_:=I.44 hp;obtain ws|r2|t2|_:=I.44 hq;have z:=YS (A:=A) (e:=λj=>decide (a[j]?=b[j]?)) (show s.heap.48 p us.12 from t1) (show s.heap.48 q ws.12 from t2) () (k.items (A:=A.in1) I (by change A.35+1+k.d < Ys;lia) r1 r2 pa pb);rw[Dy a b (by rw[pa.9,r1.9];simp) (by rw[pb.9,r2.9];simp)] at z;show .of_refs e z
theorem Ju {X:Cx} {YZ:List (Addr×Obj)} {σ:St} {H:Hp} {s:Xv} {p q:Addr} {xs ys:List V} {a b:List α} {A:Yd} (I:Inv X YZ σ H s) (hp:bY X.K H p xs) (hq:bY X.K H q ys)
  (pa:Xw (λa x=>k.R X.K H x a) a xs) (pb:Xw (λa x=>k.R X.K H x a) b ys) (hA:A.35+(k.d+1) < Ys) :
  YY A s (.ref p) (.ref q) (decide (a=b))/\YG A s (.ref p) (.ref q) (!decide (a=b)):=by
 obtain us|r1|t1|_:=I.31 hp;obtain ws|r2|t2|_:=I.31 hq;have l1:=r1.9;have l2:=r2.9;have l3:=pa.9;have l4:=pb.9;by_cases e:us.9=ws.9
 ·have it:=k.items (A:=A.in1) I (by change A.35+1+k.d < Ys;lia) r1 r2 pa pb;have z:=YY.lists (A:=A) (e:=λj=>decide (a[j]?=b[j]?)) t1.20 t2.20 (by simpa using e) () it;have z2:=YG.lists (A:=A) (e:=λj=>decide (a[j]?=b[j]?)) t1.20 t2.20 (by simpa using e) () it;have e1:us.5.7=a.9:=by rw[aQ];lia
  rw[e1,xx a b ()] at z z2;show #[z,z2]
 ·have Z3:¬a=b:=λz=>e (by have:=congrArg Yt z;lia)
  rw[decide_eq_false Z3];show #[YY.lists_lengths t1.20 t2.20 (by simpa using e) (),YG.lists_lengths t1.20 t2.20 (by simpa using e) ()]
def Mh:Kind (List α) where
 R:=λK H x as=>∃p xs,x=.ref p/\bY K H p xs/\Xw (λa x=>k.R K H x a) as xs
 d:=k.d+1
 inj:=λ{X YZ σ H s x a b} I h1 h2=>by
  obtain p|xs|rfl|hp|pa:=h1;obtain q|ys|e|hq|pb:=h2;cases e;have e:=I.Zk hp hq;subst e;show rH (F:=λa x=>k.R X.K H x a) (λa b x=>k.inj I) pa pb
 rc:=λ{X YZ σ H s x y v u a b A} I rx ry h1 h2 hA=>by
  obtain p|xs|rfl|hp|pa:=h1;obtain q|ys|rfl|hq|pb:=h2;cases rx;cases ry;show (Ju k I hp hq pa pb hA).1
 ne:=λ{X YZ σ H s x y v u a b A} I rx ry h1 h2 hA=>by
  obtain p|xs|rfl|hp|pa:=h1;obtain q|ys|rfl|hq|pb:=h2;cases rx;cases ry;show (Ju k I hp hq pa pb hA).2
 eq:=λ{X YZ σ H s x y v u a b A} I rx ry h1 h2 hA=>by
  obtain p|xs|rfl|hp|pa:=h1;obtain q|ys|rfl|hq|pb:=h2;cases rx;cases ry;by_cases e:p=q
  ·subst e;have e:=I.Zk hp hq;subst e;rw[rH (F:=λa x=>k.R X.K H x a) (λa b x=>k.inj I) pa pb,decide_eq_true rfl];show XR.same _
  ·show .of_refs e (Ju k I hp hq pa pb hA).1
def Kind.via {β:Type} [DecidableEq β] (f:β->α) (fi:∀a b,f a=f b->a=b) (R':Y2->Hp->V->β->Prop) (im:∀{K H x b},R' K H x b->k.R K H x (f b)):Kind β where
 R:=R'
 d:=k.d
 inj:=λI h1 h2=>fi _ _ (k.inj I (im h1) (im h2))
 rc:=λ{X YZ σ H s x y v u a b A} I rx ry h1 h2 hA=>by
  have z:=k.rc (A:=A) I rx ry (im h1) (im h2) hA;rwa [decide_eq_decide.mpr (show f a=f b↔a=b from #[fi a b,λe=>by rw[e]])] at z
 ne:=λ{X YZ σ H s x y v u a b A} I rx ry h1 h2 hA=>by
  have z:=k.ne (A:=A) I rx ry (im h1) (im h2) hA;rwa [decide_eq_decide.mpr (show f a=f b↔a=b from #[fi a b,λe=>by rw[e]])] at z
 eq:=λ{X YZ σ H s x y v u a b A} I rx ry h1 h2 hA=>by
  have z:=k.eq (A:=A) I rx ry (im h1) (im h2) hA;rwa [decide_eq_decide.mpr (show f a=f b↔a=b from #[fi a b,λe=>by rw[e]])] at z
end
def Iv (K:Y2) (H:Hp) (x:V) (n:Int×Int):Prop:=∃p,x=.ref p/\nD K H p [.int n.1,.int n.2]
def Wh:Kind (Int×Int):=(W5 Mi).via (λn=>[n.1,n.2]) (λa b e=>by cases a;cases b;simp at e;rw[e.1,e.2]) Iv λ#[p,e,h]=>#[p,_,e,h,.cons rfl (.cons rfl .nil)]
def WY (K:Y2):R2:=λx y H Q=>∃(α:Type) (_:DecidableEq α) (k:Kind α) (a b:α),k.d<=50/\k.R K H x a/\k.R K H y b/\Q (.bl (decide (a=b))) H
def V7 (K:Y2):R2:=λx y H Q=>∃(α:Type) (_:DecidableEq α) (k:Kind α) (a b:α),k.d<=50/\k.R K H x a/\k.R K H y b/\Q (.bl (!decide (a=b))) H
theorem Ji (hu:X.A.35+50 < Ys):yX X (Yh .Eq) (WY X.K):=by
 intro YZ s σ H x y v u Q I rx ry h;obtain α|_|k|a|b|hd|ha|hb|q:=h;show k.rc (A:=X.A) I rx ry ha hb () _ _ _ _ #[.bl (decide (a=b)),H,I,rfl,q]
theorem yx (hu:X.A.35+50 < Ys):yX X (Yh .NotEq) (V7 X.K):=by
 intro YZ s σ H x y v u Q I rx ry h;obtain α|_|k|a|b|hd|ha|hb|q:=h;show k.ne (A:=X.A) I rx ry ha hb () _ _ _ _ #[.bl (!decide (a=b)),H,I,rfl,q]
theorem BS (hr:mi k A):A.35+50 < Ys:=by have:=hr.35;lia
def Inner (H:Hp) (p q:Addr):Prop:=∃a b c:Int,H p=some (.lst [.int a,.int b,.int c,.ref q])
def di (p:Addr) (H H':Hp):Prop:=(∀b o,H b=some o->b≠p->H' b=some o)/\∀q,Inner H p q->Inner H' p q
theorem di.refl (H:Hp):di p H H:=#[λ_ _ h _=>h,λ_ h=>h]
theorem di.trans (a:di p H H1) (b:di p H1 H2):di p H H2:=#[λc o h n=>b.1 c o (a.1 c o h n) n,λq h=>b.2 q (a.2 q h)]
theorem Inner.inj (h:Inner H p q) (h':Inner H p q'):q=q':=by
 obtain a|b|c|e:=h;obtain a'|b'|c'|e':=h';rw[e] at e';have:=HO.lst.inj (cm e');simp at this;show this.2.2.2
theorem di.set (h:H p=some (.lst [.int a,.int b,.int c,.ref q])):di p H (upd H p (.lst [.int a',.int b',.int c',.ref q])) :=
 #[λb u h n=>by rw[bK n];show h,λq' h'=>by
  rw[(Inner.inj #[a,b,c,h] h').19];show #[a',b',c',aN]]
theorem aL.Y7 (h:aL H H'):di p H H':=#[λb o e _=>h b o e,λq #[a,b,c,e]=>#[a,b,c,h _ _ e]]
theorem aL.new (h:H p=Yk):aL H (upd H p o):=λb u e=>by rw[bK (gC e h)];show e
theorem aL.sqt {K:Y2} (e:aL H H') (h:nD K H a xs):nD K H' a xs:=by
 rcases h with (h | ⟨o,h⟩) | h
 ·show .inl (.inl (e _ _ h))
 ·show .inl (.inr #[o,e _ _ h])
 ·show .inr h
theorem aL.num {K:Y2} (e:aL H H') (h:Iv K H x n):Iv K H' x n:=by obtain p|q|r:=h;show #[p,q,e.sqt r]
section
variable {σ:St} {H:Hp} {D:Ends}
theorem qo {t:TS} (e:σ0=σ) (h:t D σ H):t D σ0 H:=by rw[e];show h
theorem QE (h:D.nx σ H):SG D σ H:=h
theorem Um {g:TG} (h:te σ H λx H1=>g x σ H1 D.nx):Nu te g D σ H:=h
theorem Od (h:Q (σ.43 i (some v)) H):C3 i v σ H Q:=h
theorem T7 (h:te σ H D.rt):Vz te D σ H:=h
theorem Uh (h:c σ H λb H1=>if b=true then t D σ H1 else u D σ H1):VE c t u D σ H:=h
theorem QP (h:te σ H λ_ H1=>D.nx σ H1):SN te D σ H:=h
theorem Ua (h:ta σ H λvs H1=>∃v w,vs=[v,w]/\D.nx ((σ.43 i (some v)).43 j (some w)) H1):VA i j ta D σ H:=h
theorem QU 
  (h:to σ H λo H1=>ti σ H1 λi H2=>_V o i H2 λx H3=>te σ H3 λy H4=>tip x y H4 λz H5=>_U o i z H5 λH6=>D.nx σ H6):SO to ti te _V tip _U D σ H:=h
theorem Ug (h:Q (.int (f i j)) H):ipI f (.int i) (.int j) H Q:=#[i,j,rfl,rfl,h]
theorem Uj {g:TG} (h:wi σ H λJ H1=>∃W:Nat->Nat->St->Hp->Prop,(∃m,W 0 m σ H1)/\∀i m σ H,W i m σ H →
  (J.stop i H/\D.nx σ H)\/(J.go i H/\∃N:St->Hp->Prop,(∀σ' H',N σ' H'->∃m',m' < m/\W (i+1) m' σ' H')/\∀x H',J.F! i H x H'->g x σ H' λσ2 H2=>tb { D with nx:=N,ct:=N,bk:=D.nx } σ2 H2)):VF wi g tb D σ H:=h
variable {Q:VK} {QA:List V->Hp->Prop} {QB:Bool->Hp->Prop}
theorem T5 (e:σ[i]?=some (some v)) (h:Q v H):TJ i σ H Q:=#[v,e,h]
theorem WW (h:Q v H):tC v σ H Q:=h
theorem VW (h:ta σ H λx H1=>tb σ H1 λy H2=>r x y H2 Q):VB r ta tb σ H Q:=h
theorem VS (h:ta σ H λx H1=>r x H1 Q):Vu r ta σ H Q:=h
theorem V4 {g:Int->Int->V} (h:Q (g i j) H):QX g (.int i) (.int j) H Q:=#[i,j,rfl,rfl,h]
theorem gL {g:Int->Int->V} (hc:C i j) (h:Q (g i j) H):rI C g (.int i) (.int j) H Q:=#[i,j,rfl,rfl,hc,h]
theorem WX {g:Int->V} (h:Q (g i) H):rU g (.int i) H Q:=#[i,rfl,h]
theorem Ul (h:Q (.bl (decide (i=j))) H):rEq (.int i) (.int j) H Q:=#[rfl,by
 have e:decide (V.int i=V.int j)=decide (i=j):=by simp
 rw[e];show h]
theorem Ud (h:Q (.bl (!decide (i=j))) H):rNe (.int i) (.int j) H Q:=#[rfl,by
 have e:decide (V.int i=V.int j)=decide (i=j):=by simp
 rw[e];show h]
theorem Qx (h:t σ H λx H'=>∃k,x=.bl k/\QB k H'):Sy t σ H QB:=h
theorem VT (h:t σ H λx H'=>∃k,x=.bl k/\QB k H'):tB t σ H QB:=h
theorem Uo (h:t σ H λc H1=>if c=true then u σ H1 QB else QB false H1):VG t u σ H QB:=h
theorem VV (h:t σ H λc H1=>if c=true then QB true H1 else u σ H1 QB):tOr t u σ H QB:=h
theorem Ub (h:t σ H λc H1=>QB (!c) H1):VC t σ H QB:=h
theorem QV (h:t σ H λx H1=>∃c,x=.bl c/\if c=true then u σ H1 Q else Q (.bl false) H1):SQ t u σ H Q:=h
theorem QD (h:t σ H λx H1=>∃c,x=.bl c/\Q (.bl (!c)) H1):SE t σ H Q:=h
theorem Ui (h:c σ H λb H1=>if b=true then ta σ H1 Q else tb σ H1 Q):tIf c ta tb σ H Q:=h
theorem T4 (h:QB true H):Vt σ H QB:=h
theorem Uc (h:QA [] H):xP σ H QA:=h
theorem QQ (h:ta σ H λx H1=>tr σ H1 λxs H2=>QA (x :: xs) H2):ir ta tr σ H QA:=h
theorem QT (h:t σ H λvs H1=>sp vs H1 Q E):Nt sp [] E t σ H Q:=by
 have e:(λvs H1=>sp (vs++[]) H1 Q E)=λvs H1=>sp vs H1 Q E:=by funext vs H1;rw[oj]
 change t σ H λvs H1=>sp (vs++[]) H1 Q E
 rw[e];show h
theorem VY (h:t σ H λvs H1=>r vs H1 Q):WU r t σ H Q:=h
theorem Je {K:Y2} (hx:nD K H p xs) (e:JR xs i=some v) (h:Q v H):Ur K (.ref p) (.int i) H Q:=#[p,xs,i,v,rfl,rfl,hx,e,h]
theorem cK {K:Y2} (hx:bY K H p xs) (e:JR xs i=some v) (h:Q v H):Us K (.ref p) (.int i) H Q:=#[p,xs,i,v,rfl,rfl,hx,e,h]
theorem QN {K:Y2} (hx:bY K H p xs) (e:JR xs i=some v) (h:Q v H):S3 K (.ref p) (.int i) H Q:=#[p,xs,i,v,rfl,rfl,hx,e,h]
theorem fV (hx:H p=some (.lst xs)) (e:MZ xs.9 i=some j) (ey:xs.43 j v=ys) (h:QH (upd H p (.lst ys))):S0 (.ref p) (.int i) v H QH:=#[p,xs,i,j,rfl,rfl,hx,e,by rw[ey];show h]
theorem QL (h:to σ H λo H1=>ti σ H1 λi H2=>t o i v H2 λH3=>QS σ H3):Wo to ti t v σ H QS:=h
theorem Oe (h:t v σ H λσ' H'=>u r σ' H' QS):Tf t u (v :: r) σ H QS:=#[v,r,rfl,h]
theorem QM (h:QS σ H):Wp [] σ H QS:=#[rfl,h]
theorem QK {K:Y2} (hx:nD K H a xs) (hl:xs.9=n) (h:t xs σ H QS):UW K n t (.ref a) σ H QS:=#[a,xs,rfl,hx,hl,h]
theorem VU (h:te σ H λx H1=>tl σ H1 λl H2=>th σ H2 λu H3=>r x l u H3 Q):tSl r te tl th σ H Q:=h
theorem LZ (h:QO none H):Ke σ H QO:=h
theorem QC (h:t σ H λx H1=>∃i,x=.int i/\QO (some i) H1):SD t σ H QO:=h
variable {R:It->Hp->Prop} {K:Y2}
theorem Ob (h:tl σ H λx H1=>∃a,x=.ref a/\(∃xs,bY K H1 a xs)/\R (Ss K a) H1):OW K tl σ H R:=h
theorem QJ (h:tl σ H λx H1=>∃a,x=.ref a/\(∃xs,nD K H1 a xs)/\R (Vo K a) H1):Wm K tl σ H R:=h
theorem Oa (h:ta σ H λvs H1=>∃j:Int,vs=[.int j]/\-(2^62)<=j/\j < 2^62/\R (IC 0 j.27) H1):Tc ta σ H R:=h
theorem N9 (h:ta σ H λvs H1=>∃i j:Int,vs=[.int i,.int j]/\(-(2^62)<=i/\i < 2^62/\-(2^62)<=j/\j < 2^62)/\R (IC i (j - i).27) H1):Tb ta σ H R:=h
theorem QR {g:TG} (e:IT k ZH σ=σ₀) (h:wi σ H λJ H1=>uD J σ₀ g tf te Q H1):FK wi k ZH g tf te σ H Q:=by
 unfold FK;rw[e];show h
theorem Qw {g:TG} {NY:V->Hp->Prop} (h:g x σ H λσ2 H2=>tf σ2 H2 λb H3=>if b=true then te σ2 H3 NY else NN H3):sZ σ g tf te x H NY NN:=h
theorem VZ (h:to σ H λx H1=>WT K T x H1/\t σ H1 λxs H2=>r x xs H2 Q):tBM K T r to t σ H Q:=h
def Wz (Q:VK) (xs:List V) (H:Hp):Prop:=xs.9<=XG/\∀p,H p=none->Q (.ref p) (upd H p (.tup xs))
def WA (Q:VK) (xs:List V) (H:Hp):Prop:=xs.9<=XG/\∀p,H p=none->Q (.ref p) (upd H p (.lst xs))
theorem T6 (h:t σ H (Wz Q)):Vv t σ H Q:=h
theorem Ue (h:t σ H (WA Q)):VD t σ H Q:=h
theorem kC (h:Nat.ble n 1000=true):n<=XG:=c6 (du (Nat.le_of_ble_eq_true h))
theorem cO {xs:List V} (h:∀p H',aL H H'->H' p=some (.tup xs)->Q (.ref p) H') (hl:Nat.ble xs.9 1000=true:=by rfl):Wz Q xs H :=
 #[kC hl,λp hp=>h p _ (aL.new hp) aN]
theorem dj {xs:List V} (h:∀p H',aL H H'->H p=none->H' p=some (.lst xs)->Q (.ref p) H') (hl:Nat.ble xs.9 1000=true:=by rfl):WA Q xs H :=
 #[kC hl,λp hp=>h p _ (aL.new hp) hp aN]
theorem Wk {A B:Prop} (h:B):if (!true)=true then A else B:=Rw h
theorem Wl {A B:Prop} (h:A):if (!false)=true then A else B:=Wj h
def WB (tb:TS) (D:Ends) (Pv:St->Hp->Prop) (μ:St->Hp->Nat) (n:Nat) (σ:St) (H:Hp):Prop:=∃N:St->Hp->Prop,(∀σ' H',N σ' H'->∃m',m' < n/\(m'=μ σ' H'/\Pv σ' H'))/\tb { D with nx:=N,ct:=N,bk:=D.nx } σ H
theorem SY (h:tb { D with nx:=λσ' H'=>Pv σ' H'/\μ σ' H' < n,ct:=λσ' H'=>Pv σ' H'/\μ σ' H' < n,bk:=D.nx } σ H):WB tb D Pv μ n σ H :=
 #[_,λσ' H' #[p,l]=>#[_,l,rfl,p],h]
theorem Dw (Pv:St->Hp->Prop) (μ:St->Hp->Nat) (h0:Pv σ H) (hs:∀σ H,Pv σ H->c σ H λb H1=>if b=true then WB tb D Pv μ (μ σ H) σ H1 else D.nx σ H1):Nr c tb D σ H:=by
 refine #[λm σ H=>m=μ σ H/\Pv σ H,#[_,rfl,h0],?_];rintro m σ H ⟨rfl,p⟩;show hs σ H p
end
def jE (H:Hp) (p:Addr):Prop:=∃(q:Addr) (a b c:Int) (cs:List Int),H p=some (.lst [.int a,.int b,.int c,.ref q])/\H q=some (.lst (cs.11 V.int))/\0<=a/\0<=c/\c<=(cs.9:Int)/\∀x∈cs,(0:Int)<=x
theorem MJ {H:Hp} {cs:List Int} (hp:H p=some (.lst [.int a,.int b,.int c,.ref q])) (hq:H q=some (.lst (cs.11 V.int))):q≠p:=λe=>by
 rw[e,hp] at hq;have h:=HO.lst.inj (cm hq);cases cs with
 | nil=>cases h
 | cons x1 cs=>cases cs with
  | nil=>cases h
  | cons x2 cs=>cases cs with
   | nil=>cases h
   | cons x3 cs=>cases cs with
    | nil=>cases h
    | cons x4 cs=>simp at h
theorem jE.same (h:jE H p) (e:aL H H'):jE H' p:=by obtain q|a|b|c|cs|h1|h2|r:=h;show #[q,a,b,c,cs,e _ _ h1,e _ _ h2,r]
theorem di.tup {H H':Hp} {p r:Addr} {xs:List V} (u:di p H H') (B:jE H p) (h:H r=some (.tup xs)):H' r=some (.tup xs):=by
 obtain q|a|b|c|cs|h1|_:=B;show u.1 r _ h λe=>by rw[e,h1] at h;cases h
theorem di.other (u:di p H H') (n:r≠p) (h:H r=some o):H' r=some o:=u.1 r _ h n
theorem jE.inner (h:jE H p):∃q,Inner H p q/\∃xs,H q=some (.lst xs):=by obtain q|a|b|c|cs|h1|h2|_:=h;show #[q,#[a,b,c,h1],_,h2]
theorem jE.upd (h:jE H p) (hi:Inner H p q) (n1:r≠p) (n2:r≠q):jE (L2.upd H r o) p:=by
 obtain q'|a|b|c|cs|h1|h2|z:=h;have e:q'=q:=Inner.inj #[a,b,c,h1] hi;subst e;show #[q',a,b,c,cs,by rw[bK n1.19];show h1,by rw[bK n2.19];show h2,z]
theorem Inner.upd (hi:Inner H p q) (n1:r≠p):Inner (L2.upd H r o) p q:=by obtain a|b|c|h:=hi;show #[a,b,c,by rw[bK n1.19];show h]
def Qm:Sp:=λvs H Q _=>∃p n,vs=[.ref p,.int n]/\jE H p/\0 < n/\n < 2^64/\∀v H',0<=v->v < n->jE H' p->di p H H'->Q (.int v) H'
inductive NP (K:Y2) (vs:List V) (H:Hp) (Q:VK) (E9:XK):Prop
 | mk (a:Addr) (ns:List Int):vs=[.ref a]->bY K H a (ns.11 V.int)->ns.9<=63->(∀p H',H p=none->jE H' p->aL H H'->Q (.ref p) H')->NP K vs H Q E9
inductive Ai (K:Y2) (vs:List V) (H:Hp) (Q:VK) (E9:XK):Prop
 | mk (a:Addr) (ns:List Int):vs=[.ref a]->bY K H a (ns.11 V.int)->ns.9<=63->(∀H',Q (.bl true) H')->Ai K vs H Q E9
def TU:Sp:=λvs H Q _=>∃t b,vs=[.int t,.int b]/\0 < b/\Sz 35996000 b/\∀r H',aL H H'->H' r=some (.tup [.int (lo t b),.int (hi t b)])->Q (.ref r) H'
def VI:Sp:=λvs H Q _=>∃a b,vs=[.int a,.int b]/\Q (.int (g a b)) H
def LR:Sp:=λvs H Q _=>∃t b,vs=[.int t,.int b]/\b≠0/\Sz 35996000 b/\∀r H',aL H H'->H' r=some (.tup [.int (lo (if b < 0 then -t else t) (if b < 0 then -b else b)),.int (hi (if b < 0 then -t else t) (if b < 0 then -b else b))])->Q (.ref r) H'
def Tg (a b c d:Int):Int:=a*d+c*b
def Pb (a b c d:Int):Int:=a*d - c*b
def Pa (a _b c _d:Int):Int:=a*c
def KJ (K:Y2) (f:Int->Int->Int->Int->Int):Sp:=λvs H Q _=>∃p q a b c d,vs=[.ref p,.ref q]/\nD K H p [.int a,.int b]/\nD K H q [.int c,.int d]/\0 < b/\0 < d/\Sz 16000000 a/\Sz 16000000 b/\Sz 16000000 c/\Sz 16000000 d /\
 ∀r H',aL H H'->H' r=some (.tup [.int (lo (f a b c d) (b*d)),.int (hi (f a b c d) (b*d))])->Q (.ref r) H'
def Qn (K:Y2):Sp:=λvs H Q _=>∃p q a b c d,vs=[.ref p,.ref q]/\nD K H p [.int a,.int b]/\nD K H q [.int c,.int d]/\0 < b/\0 < d/\c≠0/\Sz 16000000 a/\Sz 16000000 b/\Sz 16000000 c/\Sz 16000000 d /\
 ∀r H',aL H H'->H' r=some (.tup [.int (lo (if c < 0 then 0 - a*d else a*d) (if c < 0 then 0 - b*c else b*c)),.int (hi (if c < 0 then 0 - a*d else a*d) (if c < 0 then 0 - b*c else b*c))])->Q (.ref r) H'
theorem cf {F:α->β->Prop}:∀{l1 l1':List α} {l2 l2':List β},Xw F l1 l2->Xw F l1' l2'->Xw F (l1++l1') (l2++l2'):=by
 intro l1 l1' l2 l2' p h
 induction p with
 | nil=>show h
 | cons r t ih=>show .cons r ih
theorem dF {h:Heap} (ha:h.14 a=some o) (hb:h.14 b=some u) (hc:o.cls≠u.cls):a≠b:=λe=>by
 subst e;rw[ha] at hb;cases hb;show hc rfl
theorem oy (h:a≠b):Yc a≠Yc b:=λe=>h (by injection e)
theorem Cu {z TI TO i1 i2 l1 l2:Addr} (hz:IsZip h z TI TO f0) (_q:YM h TI (.ref i1) (.ref i2)) (Z4:YM h TO a b)
  (h1:h.24 i1 l1 k1) (h2:h.24 i2 l2 k2) (ZK:h.IsList l1 xs) (hl2:h.IsList l2 ys) (hT:TI≠TO) (hi:i1≠i2):ZipApart z TI TO i1 i2 l1 l2:=by
 obtain o1|g1|c1|_:=h1;obtain o2|g2|c2|_:=h2;obtain p1|q1|d1|_:=ZK;obtain p2|q2|d2|_:=hl2;refine #[dF _q hz ?_,dF Z4 hz ?_,dF g1 hz ?_,dF g2 hz ?_,hT,dF _q g1 ?_,dF _q g2 ?_,dF Z4 g1 ?_,dF Z4 g2 ?_,hi,dF q1 hz ?_,dF q1 Z4 ?_,dF q1 g1 ?_,dF q1 g2 ?_,dF q2 hz ?_,dF q2 Z4 ?_,dF q2 g1 ?_,dF q2 g2 ?_]
 all_goals first
  | (rw[d1];first | (rw[c1];show oy ()) | (rw[c2];show oy ()) | show oy ())
  | (rw[d2];first | (rw[c1];show oy ()) | (rw[c2];show oy ()) | show oy ())
  | (rw[c1];show oy ())
  | (rw[c2];show oy ())
  | show oy ()
def Vd (K : Y2) (l1 l2 : Addr) : It :=
  #[λi H => ∃ xs ys x y, bY K H l1 xs /\ bY K H l2 ys /\ xs[i]? = some x /\ ys[i]? = some y,
   λi H v H' => ∃ p x y, v = .ref p /\ H p = none /\ H' = upd H p (.tup [x, y]) /\ (∀ xs, bY K H l1 xs → xs[i]? = some x) /\ ∀ ys, bY K H l2 ys → ys[i]? = some y,
   λi H => ∃ xs ys, bY K H l1 xs /\ bY K H l2 ys /\ (xs.9 ≤ i \/ ys.9 ≤ i)]
def tnZ (z TI TO i1 i2 l1 l2:Addr) (i:Nat) (h:Heap):Prop:=IsZip h z TI TO .none/\YM h TI (.ref i1) (.ref i2)/\(∃a b,YM h TO a b)/\h.24 i1 l1 i/\h.24 i2 l2 i
theorem Nk {P:Yl} {w:Yq} {K:Y2} {elts:List Expr} {kk:Nat} {ZV:Pos} (z TI TO i1 i2 l1 l2:Addr) (hT:TI≠TO) (hi:i1≠i2):Turn P w K (.Tuple elts kk ZV) (Vd K l1 l2) [z,TI,TO,i1,i2] z (tnZ z TI TO i1 i2 l1 l2) where
 mem:=by simp
 obj:=λi h st b hb=>by
  obtain hz|_q|⟨a,c,Z4⟩|⟨o1,g1,c1,d1⟩|⟨o2,g2,c2,d2⟩:=st;simp only[aM,bf,or_false] at hb;rcases hb with rfl | rfl | rfl | rfl | rfl
  ·show #[_,hz,λv q=>nomatch q]
  ·show #[_,_q,λv q=>nomatch q]
  ·show #[_,Z4,λv q=>nomatch q]
  ·show #[o1,g1,λv q=>by rw[d1] at q;cases q]
  ·show #[o2,g2,λv q=>by rw[d2] at q;cases q]
 keep:=λi h h' st k=>by
  obtain hz|_q|⟨a,c,Z4⟩|h1|h2:=st;show #[k z (by simp) _ hz,k TI (by simp) _ _q,#[a,c,k TO (by simp) _ Z4],h1.at λo e=>k i1 (by simp) o e,h2.at λo e=>k i2 (by simp) o e]
 item:=by
  intro X hP hw hK hc i YZ s σ H E I hf st hg;subst hP hw hK;obtain hz|_q|⟨a,c,Z4⟩|h1|h2:=st;obtain xs|ys|x|y|qx|qy|ex|ey:=hg;obtain us|rx|px|_:=I.31 qx;obtain ws|ry|py|_:=I.31 qy;obtain u|eu|ru:=rx.get ex;obtain v|ev|rv:=ry.get ey;have D:=Cu hz _q Z4 h1 h2 px.20 py.20 hT hi;refine wpAny_pyNext_zip_item D hz _q Z4 h1 h2 px.20 py.20 (x:=u) (y:=v) (by simpa using eu) (by simpa using ev) λh' a1 a2 a3 a4 a5 a6 hk=>?_
  refine #[_,rfl,wpAny_letOwnedTupleGo_zip a1 λh'' afV hs=>?_];have hT0:H s.6=none:=I.Zb.42 (aj _);have zne:s.6≠z:=LC (XB hz)
  have up:∀b o,b∉[z,TO,i1,i2]->s.heap.14 b=some o->h''.14 b=some o:=λb o hb e=>by
   simp only[aM,bf,or_false,not_or] at hb;show (hs.2 b hb.1).4 (hk b o hb.1 hb.2.1 hb.2.2.1 hb.2.2.2 e)
  have fx:∀b∈[z,TO,i1,i2],my X YZ H b:=λb hb=>hf b (by
   simp only[aM,bf,or_false] at hb ⊢;rcases hb with rfl | rfl | rfl | rfl <;> simp)
  have nx:∀b o,H b=some o->b∉[z,TO,i1,i2]:=λb o e hb=>by
   have:=(fx b hb).1;rw[this] at e;cases e
  have nT:∀{b:Addr} {o:HO},H b=some o->b≠s.6:=λe q=>by rw[q,hT0] at e;cases e
  have tup:h''.14 s.6=some { cls:=.type "tuple",data:=.seq [u,v].12 }:=(hs.2 _ zne).4 a5
  have I2:Inv X YZ σ (upd H s.heap.objs.39 (.tup [x,y])) { s with heap:=h'' }:=by
   refine I.step (g':=s.gens) (d':=s.drawn) (t':=s.26) (ch:=[z,TO,i1,i2]) (λb hb=>?_) (λb o _ _ hb e _=>up b o hb e) (λb o _ _ hb e _=>#[o.slots,up b o hb e]) (λb o hb e n=>?_)
    (λb o hb e=>#[o,up b o hb e]) (λb q e=>by rw[bK (nT e)];show e) (λb o q e=>by rw[bK (nT e)];show e) (λb q e=>#[[].12,by rw[bK (nT e),e];simp]) (λm hm=>?_) (λb o e=>?_) I.57
   ·obtain _|f1|_|f3|f4|f5:=fx b hb;show #[f3,f1,f4,f5]
   ·rw[bK (c5 (XB e))];show n
   ·obtain o|es|ep|ho|r:=hm;show #[o,es,ep,up _ o (λz=>(fx _ z).2.1 rfl) ho,r]
   ·by_cases hb:b=s.6
    ·subst hb;rw[aN] at e;cases e;show #[kC rfl,[u,v],.cons ru (.cons rv .nil),#[_,tup,rfl,_,rfl]]
    ·rw[bK hb] at e;refine (I.Zb b o e).Z8 (λc v' hc q=>up c v' ?_ q) (λc q=>by rw[bK (nT q)];show q) λc xs q=>by rw[bK (nT q)];show q
     rcases hc with rfl | hc
     ·show nx _ _ e
     ·show nx _ _ hc
  refine #[.ref s.6,_,I2,rfl,#[_,x,y,rfl,hT0,rfl,λxs' q=>by rw[I.Zk q qx];show ex,λZC q=>by rw[I.Zk q qy];show ey],?_,λb hb=>?_]
  ·refine #[afV,(hs.2 _ D.TIz).4 (hk _ _ D.TIz D.TITO D.TIi1 D.TIi2 _q),#[_,_,(hs.2 _ D.TOz).4 a2],a3.at λo e=>(hs.2 _ D.i1z).4 e,a4.at λo e=>(hs.2 _ D.i2z).4 e]
  ·obtain ⟨o,e,_⟩:∃o,s.heap.14 b=some o/\True:=by
    obtain o1|g1|_:=h1;obtain o2|g2|_:=h2;simp only[aM,bf,or_false] at hb;rcases hb with rfl | rfl | rfl | rfl | rfl
    ·show #[_,hz,trivial]
    ·show #[_,_q,trivial]
    ·show #[_,Z4,trivial]
    ·show #[_,g1,trivial]
    ·show #[_,g2,trivial]
   rw[bK (c5 (XB e))];show (hf b hb).1
 done:=by
  intro X hP hw hK hc i YZ s σ H E I hf st hg;subst hP hw hK;obtain hz|_q|⟨a,c,Z4⟩|h1|h2:=st;obtain xs|ys|qx|qy|acZ:=hg;obtain us|rx|px|_:=I.31 qx;obtain ws|ry|py|_:=I.31 qy;have lx:=rx.9;have ly:=ry.9;have D:=Cu hz _q Z4 h1 h2 px.20 py.20 hT hi
  refine wpAny_pyNext_zip_end (I.ok.hd hc) D hz _q Z4 h1 h2 px.20 py.20 (by
   rcases acZ with q | q
   ·show .inl (by simp;lia)
   ·show .inr (by simp;lia)) λh' hk=>#[rfl,?_]
  have up:∀b o,b∉[z,TO,i1,i2]->s.heap.14 b=some o->h'.14 b=some o:=λb o hb e=>by
   simp only[aM,bf,or_false,not_or] at hb;show hk b o hb.1 hb.2.1 hb.2.2.1 hb.2.2.2 e
  have fx:∀b∈[z,TO,i1,i2],my X YZ H b:=λb hb=>hf b (by
   simp only[aM,bf,or_false] at hb ⊢;rcases hb with rfl | rfl | rfl | rfl <;> simp)
  have nx:∀b o,H b=some o->b∉[z,TO,i1,i2]:=λb o e hb=>by
   have:=(fx b hb).1;rw[this] at e;cases e
  refine I.step (g':=s.gens) (d':=s.drawn) (t':=s.26) (ch:=[z,TO,i1,i2]) (λb hb=>?_) (λb o _ _ hb e _=>up b o hb e) (λb o _ _ hb e _=>#[o.slots,up b o hb e]) (λb o hb e n=>n)
   (λb o hb e=>#[o,up b o hb e]) (λb q e=>e) (λb o q e=>e) (λb q e=>#[[].12,by rw[e];simp]) (λm hm=>?_) (λb o e=>?_) I.57
  ·obtain _|f1|_|f3|f4|f5:=fx b hb;show #[f3,f1,f4,f5]
  ·obtain o|es|ep|ho|r:=hm;show #[o,es,ep,up _ o (λz=>(fx _ z).2.1 rfl) ho,r]
  ·refine (I.Zb b o e).Z8 (λc v' hc q=>up c v' ?_ q) (λc q=>q) λc xs q=>q
   rcases hc with rfl | hc
   ·show nx _ _ e
   ·show nx _ _ hc
 self:=λ_ _ _ _ _ st h=>wpAny_pyIter_zip st.1 h
section
variable {X:Cx}
def UQ (K:Y2) (ta:TA):TI:=λσ H R=>ta σ H λvs H1=>∃l1 l2,vs=[.ref l1,.ref l2]/\(∃xs,bY K H1 l1 xs)/\(∃ys,bY K H1 l2 ys)/\R (Vd K l1 l2) H1
theorem zQ {a b:Expr} {ta:TA} {p pos ZV:Pos} {elts:List Expr} {kk:Nat} (hg:Gl X "zip") (hm:X.mg "zip"=none) (ha:PA X [a,b] ta) (hs:Xy [a,b] X.16=[(false,eval a X.16),(false,eval b X.16)]:=by rfl) (_Y:Xy [b] X.16=[(false,eval b X.16)]:=by rfl) :
  PI X (.Tuple elts kk ZV) (.Call (.Name "zip" p) [a,b] [] pos) (UQ X.K ta):=by
 intro YZ s σ H R I h;refine Call_ (kY I hg hm boot_zip (XJ (iq (ha pos YZ s σ H _ I h) λus s1 hz=>?_) (by rw[hs,_Y]) (by rw[_Y];rfl)));obtain vs|H1|I1|r1|q1:=hz;obtain l1|l2|e|⟨xs,qx⟩|⟨ys,qy⟩|q:=q1;subst e;obtain u|v|rfl|ru|rv:=vals2 r1;cases ru;cases rv;obtain us|rx|px|_:=I1.31 qx;obtain ws|ry|py|_:=I1.31 qy;refine call_zip_2 px.20 py.20 λh' a1 a2 a3 a4 a5 a6 hk=>wpAny_pyIter_zip a1 ?_
 have I2:Inv X YZ σ H1 { s1 with heap:=h' }:=I1.59 (t':=s1.26) hk;refine #[_,[s1.6+4,s1.6+2,s1.6+3,s1.6,s1.6+1],_,_,H1,rfl,I2,Nk (s1.6+4) (s1.6+2) (s1.6+3) s1.heap.objs.39 (s1.6+1) l1 l2 (c5 (df _)) (c5 (df _)),#[a1,a2,#[_,_,a3],a4,a5],λb hb=>?_,q]
 have _N:s1.6<=b:=by
  simp only[aM,bf,or_false] at hb;rcases hb with rfl | rfl | rfl | rfl | rfl <;> first | show gW _ _ | show aj _
 show I1._r _N (I1.Zb.42 _N)
theorem Bh (hc:X.calm=true):qJ X (.builtin "all") (λxs H Q=>∃(p:Addr) (bs:List Bool),xs=[.ref p]/\bY X.K H p (bs.11 V.bl)/\Q (.bl (bs.all id)) H):=by
 intro YZ s σ H xs us Q I r h;obtain p|bs|rfl|hp|q:=h;obtain u|rfl|ru:=vals1 r;cases ru;obtain vs|rv|pl|hz:=I.31 hp
 have hb:PyProof.Rows.LSm.BoolsAre vs bs:=by
  clear q hp pl hz
  induction bs generalizing vs with
  | nil=>cases rv;show .nil
  | cons b bs ih =>
   rw[iW] at rv;cases rv with
   | cons r1 r2=>cases r1;show .cons b (ih _ r2)
 have Zo:p < s.6:=by obtain _|e|_:=pl.20;show XB e
 refine call_all_walk (wpAny_pyIter_list pl.20 ?_)
 refine #[s.6,[s.6,p],[s.6],vs.5.7,_,_,λi=>(bs[i]?).3 true,rfl,Walks.list (A:=X.A.in1) (I.ok.hd hc) _ p (c5 Zo) vs.5,
  #[#[_,XO _ rfl,rfl,rfl],pl.isList.25 _],λi v s' Q' E' hP hQ=>?_,λh' tk hk=>?_]
 ·obtain b|e|rfl:=hb.get i v (by simpa using hP);simp only[e,Option.getD_some] at hQ;show YC hQ
 ·have e:((W0 vs.5.7).all λi=>(bs[i]?).3 true)=bs.all id:=by
   rw[aQ,hb.9];show PyProof.Rows.LSm.range_all bs
  rw[e];show #[.bl _,H,I.59 (t':=tk) (PyProof.Rows.LSm.kept_iter hk),rfl,q]
theorem Pz (hc:X.calm=true):qJ X (.builtin "sum") (λxs H Q=>∃(p:Addr) (ns:List Int),xs=[.ref p]/\bY X.K H p (ns.11 V.int)/\Q (.int ns.sum) H):=by
 intro YZ s σ H xs us Q I r h;obtain p|ns|rfl|hp|q:=h;obtain u|rfl|ru:=vals1 r;cases ru;obtain vs|rv|pl|_:=I.31 hp;have hi:IntsAre vs ns:=intsAre_of rv;obtain xs|hx:=hi.allInts.items;have _x:s.heap.IsList p (intItems xs):=hx ▸ pl.20;refine sum_intListG (I.ok.hd hc) _x λh' tk t' hk=>?_
 have e1:ns=xs.toList.11 (·.1):=by
  rw[<- nums_intItems,<- hx];show (show numsOf vs.toArray.toList=ns from hi.numsOf).19
 have e2:preSum (numAt xs) xs.7=ns.sum:=by
  rw[preSum_eq,aJ (by simp),e1]
 rw[e2];show #[.int _,H,I.59 (t':=tk) hk,#[_,rfl],q]
end
section
variable {K:Y2} {g:TG}
theorem Bf (Pv:Nat->List V->Hp->Prop) (hz:xs.9<=XG) (hw:ws.9=xs.9) (h0:Pv 0 [] H) (hl:∀i ys H,i<=xs.9->Pv i ys H->bY K H l1 xs/\bY K H l2 ws)
  (hs:∀i x y ys H p,xs[i]?=some x->ws[i]?=some y->ys.9<=i->Pv i ys H->H p=none->sZ σ₀ g tf te (.ref p) (upd H p (.tup [x,y])) (λy H'=>Pv (i+1) (ys++[y]) H') (λH'=>Pv (i+1) ys H'))
  (hd:∀ys H,ys.9<=xs.9->Pv xs.9 ys H->∀p,H p=none->Q (.ref p) (upd H p (.lst ys))):uD (Vd K l1 l2) σ₀ g tf te Q H:=by
 refine #[λi m ys H=>m=xs.9 - i/\i<=xs.9/\ys.9<=i/\Pv i ys H,#[xs.9,by simp,bD _,bD _,h0],?_];rintro i m ys H ⟨rfl,hi,hy,p⟩;obtain q1|q2:=hl i ys H hi p;by_cases Zo:i < xs.9
 ·refine .inr #[#[xs,ws,xs[i],ws[i]'(),q1,q2,by simp [Zo],by simp],(),λy H'=>Pv (i+1) (ys++[y]) H',λH'=>Pv (i+1) ys H',λy H' p'=>#[xs.9 - (i+1),(),rfl,Zo,by rw[ax,bN];lia,p'],λH' p'=>#[xs.9 - (i+1),(),rfl,Zo,(),p'],λx H' y=>?_];obtain r|x'|y'|rfl|hr|rfl|e1|e2:=y;show hs i x' y' ys _ r (e1 xs q1) (e2 ws q2) hy p hr
 ·have e:i=xs.9:=()
  subst e;show .inl #[#[xs,ws,q1,q2,.inl (aj _)],(),hd ys H hy p]
theorem RE {tb:TS} {D:Ends} (Pv:Nat->St->Hp->Prop) (hw:ws.9=xs.9) (h0:Pv 0 σ H) (hl:∀i σ H,i<=xs.9->Pv i σ H->bY K H l1 xs/\bY K H l2 ws)
  (hs:∀i x y σ H p,xs[i]?=some x->ws[i]?=some y->Pv i σ H->H p=none->g (.ref p) σ (upd H p (.tup [x,y])) λσ2 H2=>tb { D with nx:=Pv (i+1),ct:=Pv (i+1),bk:=D.nx } σ2 H2) (hd:∀σ H,Pv xs.9 σ H->D.nx σ H) :
  ∃W:Nat->Nat->St->Hp->Prop,(∃m,W 0 m σ H)/\∀i m σ H,W i m σ H →
   ((Vd K l1 l2).stop i H/\D.nx σ H)\/((Vd K l1 l2).go i H/\∃N:St->Hp->Prop,(∀σ' H',N σ' H'->∃m',m' < m/\W (i+1) m' σ' H')/\∀x H',(Vd K l1 l2).F! i H x H'->g x σ H' λσ2 H2=>tb { D with nx:=N,ct:=N,bk:=D.nx } σ2 H2):=by
 refine #[λi m σ H=>m=xs.9 - i/\i<=xs.9/\Pv i σ H,#[xs.9,by simp,bD _,h0],?_];rintro i m σ H ⟨rfl,hi,p⟩;obtain q1|q2:=hl i σ H hi p;by_cases Zo:i < xs.9
 ·refine .inr #[#[xs,ws,xs[i],ws[i]'(),q1,q2,by simp [Zo],by simp],Pv (i+1),λσ' H' p'=>#[xs.9 - (i+1),(),rfl,Zo,p'],λx H' y=>?_];obtain r|x'|y'|rfl|hr|rfl|e1|e2:=y;show hs i x' y' σ _ r (e1 xs q1) (e2 ws q2) p hr
 ·have e:i=xs.9:=()
  subst e;show .inl #[#[xs,ws,q1,q2,.inl (aj _)],hd σ H p]
end
section
variable {X:Cx}
theorem wQ (K:Y2) (n:Nat) {es:List Expr} {k:Nat} {pos:Pos} {t:PN} (h:Ww X es t) (hK:X.K=K:=by rfl) (hc:X.calm=true:=by rfl)
  (hn:(YL es X.16).9=n:=by rfl) (hst:(YL es X.16).findIdx? (·.1)=none:=by rfl):PG X (.Tuple es k pos) (UW K n t):=by subst hK;show yt hc h hn hst
theorem nZ (K:Y2) (hK:X.K=K):WC X (Ur K):=by subst hK;show b6
theorem iw (K:Y2) (hK:X.K=K):WC X (Us K):=by subst hK;show ck
theorem K4 (K:Y2) (hK:X.K=K) (hu:X.A.35+50 < Ys):yX X (Yh .NotEq) (V7 K):=by subst hK;show yx hu
theorem wO (K:Y2) {tg l:Expr} {tl:TE} (hl:PE X l tl) (hK:X.K=K:=by rfl):PI X tg l (OW K tl):=by subst hK;show cA hl
theorem Am (K:Y2) (hK:X.K=K):Xo X (Up K):=by subst hK;show DF
end
theorem eY {X:Cx} {e e':Expr} {es:List Expr} {te:TE} {t:TA} (h:e=e') (ha:PE X e' te) (hr:PA X es t) (hs:∀l,Xy (e' :: l) X.16=(false,eval e' X.16) :: Xy l X.16:=by intro _;rfl):PA X (e :: es) (ir te t):=by subst h;show fu ha hr (hs _)
theorem ke (hl:H l=some (.lst xs)) (hz:xs.9 < XG) (h:Q .Ze (upd H l (.lst (xs++[y])))):KR (.ref l) [y] H Q:=#[l,xs,y,rfl,rfl,hl,hz,h]
theorem QI {K:Y2} (h:ta σ H λvs H1=>∃l1 l2,vs=[.ref l1,.ref l2]/\(∃xs,bY K H1 l1 xs)/\(∃ys,bY K H1 l2 ys)/\R (Vd K l1 l2) H1):UQ K ta σ H R:=h
theorem lW (h1:H l=some (.lst xs)) (h2:H b=some (.lst zs)) (hz:xs.9+zs.9<=XG) (h:∀p H',aL H H'->H p=none->H' p=some (.lst (xs++zs))->Q (.ref p) H'):Wa (.ref l) (.ref b) H Q :=
 #[l,b,xs,zs,rfl,rfl,h1,h2,hz,λp hp=>h p _ (aL.new hp) hp aN]
theorem D4 {K:Y2} {lo hi:Option Int} (h1:bY K H a xs) (h:∀p H',aL H H'->H p=none->H' p=some (.lst (uQ xs lo hi))->Q (.ref p) H'):Up K (.ref a) lo hi H Q :=
 #[a,xs,rfl,h1,λp hp=>h p _ (aL.new hp) hp aN]
theorem mU {xs:List α} {i:Int} (h0:0<=i) (h1:i < xs.9):∃v,JR xs i=some v/\v∈xs/\xs[i.27]?=some v:=by
 have hj:i.27 < xs.9:=()
 refine #[xs[i.27],?_,aB hj,by simp [hj]];have:=fw (xs:=xs) (j:=i.27) (v:=xs[i.27]) (by simp [hj]);rwa [Int.toNat_of_nonneg h0] at this
theorem dE {F:α->β->Prop}:∀{l1:List α} {l2:List β} {y:β},Xw F l1 l2->y∈l2->∃x∈l1,F x y:=by
 intro l1 l2 y p h
 induction p with
 | nil=>cases h
 | cons r t ih =>
  rcases aM.mp h with rfl | h
  ·show #[_,dJ,r]
  ·obtain x|hx|q:=ih h;show #[x,cx _ hx,q]
theorem dd {F:α->β->Prop} {l1:List α} {l2:List β} {i:Nat} {y:β} (h:Xw F l1 l2) (e:l2[i]?=some y):∃x,l1[i]?=some x/\F x y:=by
 have hl:=h.9;have hi:i < l2.9:=(aI.mp e).1;refine #[l1[i]'(),by simp,?_];have:=l5 h (i:=i) () hi;have e2:l2[i]=y:=(aI.mp e).2;rwa [e2] at this
def vh (n:Int×Int):Prop:=0 < n.2/\Yb n.1 n.2=1/\Sz 32000000 n.1/\Sz 32000000 n.2
theorem take_snoc {α:Type} {l:List α} {v:α} (h:l[i]?=some v):l.18 (i+1)=l.18 i++[v]:=by rw[List.take_add_one,h];rfl
theorem aL.after (s:aL H H') (h:H r=Yk):aL H (upd H' r o):=λb u e=>by rw[bK (gC e h)];show s b u e
theorem di.after (s:di b H H') (h:H r=Yk):di b H (upd H' r o):=#[λc u e n=>by rw[bK (gC e h)];show s.1 c u e n,λq hi=>(s.2 q hi).upd λz=>by obtain _|_|_|e:=hi;rw[<- z,h] at e;cases e]
theorem di.same (s:di b H H') (e:aL H' _H):di b H _H:=s.4 e.Y7
theorem Fc {α:Type} {Pr:α->Prop} {l:List α} {a:α} (h:∀n∈l,Pr n) (ha:Pr a):∀n∈l++[a],Pr n:=λn hn=>by
 rcases aA.mp hn with hn | hn
 ·show h n hn
 ·have e:n=a:=by simpa using hn
  rw[e];show ha
abbrev Bq (h:Heap) (z TI TO:Addr) (f0 f1:Value):Prop:=h.14 z=some { cls:=.type "zip",dict:=none,data:=.fields [f0,f1,.bool false,.ref TI,.ref TO].12,slots:=[].12 }
theorem JS (e:s.heap.14 a=some o) (h:Q (some o) s):XF (model prog w) A (loadIfAlive a) Q E s:=by
 intro Γ p hp;change Sem.wp _ _ (.loadIfAlive a .pure) _ _ _ _
 simp only[Sem.wp_loadIfAlive,e];show XH h Γ p hp
theorem AI {z TI TO T:Addr} (zr:Bq s.29 z TI TO (rawInt T) (.bool b1)) (al:s.heap.14 T=some o)
  (h:∀h',Bq h' z TI TO (rawInt T) (.bool true)->Heap.SameBut z s.29 h'->Q false { s with heap:=h' }):XF (model prog w) A (X9 (.ref z)) Q E s:=by
 unfold X9;refine T1 (YX zr rfl (x:=rawInt T) rfl ?_);refine T1 (JS (a:=T) al ?_);refine T1 (YX zr rfl (x:=.bool b1) rfl ?_);cases b1 with
 | true=>show XH (h _ zr (.refl ..))
 | false=>show T1 (wpAny_setField_rec zr (by simp) λh' zr' sb=>XH (h h' zr' sb))
theorem Mf {z TI TO T i1 i2 l1 l2:Addr} {Q:Value->Xv->Prop} (D:ZipApart z TI TO i1 i2 l1 l2) (zr:Bq s.29 z TI TO (rawInt T) (.bool b1)) (al:s.heap.14 T=some o)
  (pt:YM s.29 TI (.ref i1) (.ref i2)) (j1:s.heap.24 i1 l1 k1) (j2:s.heap.24 i2 l2 k2) (m1:s.heap.IsList l1 us) (m2:s.heap.IsList l2 ws) (eu:us[k1]?=some u) (ev:ws[k2]?=some v)
  (hQ:∀h',Bq h' z TI TO (rawInt T) (.bool true)->h'.24 i1 l1 (k1+1)->h'.24 i2 l2 (k2+1)->YM h' s.heap.objs.39 u v->(∀c o,c≠z->c≠i1->c≠i2->s.heap.14 c=some o->h'.14 c=some o)->Q (.ref s.6) { s with heap:=h' }) :
  XF (model prog w) A (Yx.«zip.__next__» #[[.ref z],[]]) (λfin s'=>∃v,fin=.done (.ret v)/\Q v s') E s:=by
 change XF _ _ (field (XD z) 2 >>= _) _ _ s
 refine T1 (YX zr rfl (x:=.bool false) rfl ?_)
 change XF _ _ (field (XD z) 3 >>= _) _ _ s
 refine T1 (YX zr rfl (x:=.ref TI) rfl (T1 (wpAny_seqItems pt rfl ?_)))
 change XF _ _ (X9 (XD z) >>= _) _ _ s
 refine T1 (AI zr al λg1 zr1 H!=>?_);simp only[jZ,if_false];refine T1 ?_;rw[<- Array.forIn_toList];simp only[P0,Dt];have j1':=j1.38 H!.38 D.i1z;have m1':=m1.38 H!.38 D.l1z;refine T1 (T1 (YA ?_))
 change XF _ _ (YJ (XD i1) >>= _) _ _ _
 refine T1 (wpAny_nextOf_list_item j1' m1' eu λg2 j1a sb2=>XH ?_);refine XH ?_;have j2':=(j2.38 H!.38 D.i2z).38 sb2.38 D.i12.19;have m2':=(m2.38 H!.38 D.l2z).38 sb2.38 D.l2i1;refine T1 (T1 (YA ?_))
 change XF _ _ (YJ (XD i2) >>= _) _ _ _
 refine T1 (wpAny_nextOf_list_item j2' m2' ev λg3 j2a sb3=>XH ?_);refine XH (XH ?_);refine T1 (wpAny_newTuple (hsz:=kC rfl) ?_);have sz:g3.objs.7=s.6:=by rw[sb3.1,sb2.1,H!.1]
 have up:∀c o,c≠z->c≠i1->c≠i2->s.heap.14 c=some o->g3.14 c=some o:=λc o c1 c2 c3 e=>sb3.38 _ _ c3 (sb2.38 _ _ c2 (H!.38 _ _ c1 e))
 have zr3:Bq g3 z TI TO (rawInt T) (.bool true):=sb3.38 _ _ D.i2z.19 (sb2.38 _ _ D.i1z.19 zr1);refine XH #[_,rfl,?_]
 change Q (.ref g3.objs.7) { s with heap:=g3.25 { cls:=.type "tuple",data:=.seq [u,v].12 } }
 have last:=hQ (g3.25 { cls:=.type "tuple",data:=.seq [u,v].12 }) (Xx _ zr3) ((j1a.38 sb3.38 D.i12).at λo e=>Xx _ e) (j2a.at λo e=>Xx _ e)
  (by rw[<- sz];show XO _ rfl) λc o c1 c2 c3 e=>Xx _ (up c o c1 c2 c3 e)
 rw[sz];show last
theorem OE {z TI TO T i1 i2 l1 l2:Addr} (hh:A.handled=none) (D:ZipApart z TI TO i1 i2 l1 l2) (zr:Bq s.29 z TI TO (rawInt T) (.bool b1)) (al:s.heap.14 T=some o)
  (pt:YM s.29 TI (.ref i1) (.ref i2)) (j1:s.heap.24 i1 l1 k1) (m1:s.heap.IsList l1 us) (eu:us[k1]?=none)
  (hE:∀h' e,(∀c o,c≠z->c≠i1->c≠i2->s.heap.14 c=some o->h'.14 c=some o)->(∃o,h'.14 e=some o/\o.cls=.type "StopIteration")->E (.ref e) { s with heap:=h' }) :
  XF (model prog w) A (Yx.«zip.__next__» #[[.ref z],[]]) Q E s:=by
 change XF _ _ (field (XD z) 2 >>= _) _ _ s
 refine T1 (YX zr rfl (x:=.bool false) rfl ?_)
 change XF _ _ (field (XD z) 3 >>= _) _ _ s
 refine T1 (YX zr rfl (x:=.ref TI) rfl (T1 (wpAny_seqItems pt rfl ?_)))
 change XF _ _ (X9 (XD z) >>= _) _ _ s
 refine T1 (AI zr al λg1 zr1 H!=>?_);simp only[jZ,if_false];refine T1 ?_;rw[<- Array.forIn_toList];simp only[P0,Dt];refine T1 (T1 (YA ?_))
 change XF _ _ (YJ (XD i1) >>= _) _ _ _
 show T1 (wpAny_nextOf_list_end hh (j1.38 H!.38 D.i1z) (m1.38 H!.38 D.l1z) eu λg2 e xb he=>hE g2 e (λc o c1 c2 _ q=>xb _ _ c2 (H!.38 _ _ c1 q)) he)
theorem Md {z TI TO T i1 i2 l1 l2:Addr} (D:ZipApart z TI TO i1 i2 l1 l2) (zr:Bq s.29 z TI TO (rawInt T) (.bool b1)) (al:s.heap.14 T=some o)
  (pt:YM s.29 TI (.ref i1) (.ref i2)) (j1:s.heap.24 i1 l1 k1) (j2:s.heap.24 i2 l2 k2) (m1:s.heap.IsList l1 us) (m2:s.heap.IsList l2 ws) (eu:us[k1]?=some u) (ev:ws[k2]?=some v)
  (hQ:∀h',Bq h' z TI TO (rawInt T) (.bool true)->h'.24 i1 l1 (k1+1)->h'.24 i2 l2 (k2+1)->YM h' s.heap.objs.39 u v->(∀c o,c≠z->c≠i1->c≠i2->s.heap.14 c=some o->h'.14 c=some o)->Q (some (.ref s.6)) { s with heap:=h' }) :
  XF (model prog w) A (pyNext (.ref z)) Q E s:=by
 have ty:s.TypeIs (.ref z) "zip":=#[_,zr,rfl];unfold pyNext;refine T1 (wpAny_attempt (wpAny_callSpecial?_slot (name:=Str.ofString "__next__") ty qL (wpAny_call_entry qL ty PySem.F.entry_zip_next ?_ (WG _))));show Mf D zr al pt j1 j2 m1 m2 eu ev λh' a1 a2 a3 a4 a5=>XH (hQ h' a1 a2 a3 a4 a5)
theorem Mc {z TI TO T i1 i2 l1 l2:Addr} (hh:A.handled=none) (D:ZipApart z TI TO i1 i2 l1 l2) (zr:Bq s.29 z TI TO (rawInt T) (.bool b1)) (al:s.heap.14 T=some o)
  (pt:YM s.29 TI (.ref i1) (.ref i2)) (j1:s.heap.24 i1 l1 k1) (m1:s.heap.IsList l1 us) (eu:us[k1]?=none)
  (hQ:∀h',(∀c o,c≠z->c≠i1->c≠i2->s.heap.14 c=some o->h'.14 c=some o)->Q none { s with heap:=h' }):XF (model prog w) A (pyNext (.ref z)) Q E s:=by
 have ty:s.TypeIs (.ref z) "zip":=#[_,zr,rfl];unfold pyNext;refine T1 (wpAny_attempt (wpAny_callSpecial?_slot (name:=Str.ofString "__next__") ty qL (wpAny_call_entry qL ty PySem.F.entry_zip_next ?_ (WG _))));refine OE hh D zr al pt j1 m1 eu λh' e kk hz=>?_
 obtain oe|he|hc:=hz;show T1 (wpAny_isInstance (T:="StopIteration") (b:=true) #[oe,he,hc] isSubtype_stop (XH (hQ _ kk)))
section
variable {σ:St}
theorem Inv.moved {ch:List Addr} (I:Inv X YZ σ H s) (fx:∀b∈ch,my X YZ H b) (up:∀b o,b∉ch->s.heap.14 b=some o->h'.14 b=some o) (hg:AllBare g') :
  Inv X YZ σ H { s with heap:=h',gens:=g',drawn:=d',toks:=t' }:=by
 have nx:∀b o,H b=some o->b∉ch:=λb o e hb=>by have:=(fx b hb).1;rw[this] at e;cases e
 refine I.step (ch:=ch) (λb hb=>?_) (λb o _ _ hb e _=>up b o hb e) (λb o _ _ hb e _=>#[o.slots,up b o hb e]) (λb o hb e n=>n) (λb o hb e=>#[o,up b o hb e]) (λb q e=>e) (λb o q e=>e) (λb q e=>#[[].12,by rw[e];simp]) (λm hm=>?_) (λb o e=>?_) hg
 ·obtain _|f1|_|f3|f4|f5:=fx b hb;show #[f3,f1,f4,f5]
 ·obtain o|es|ep|ho|r:=hm;show #[o,es,ep,up _ o (λz=>(fx _ z).2.1 rfl) ho,r]
 ·refine (I.Zb b o e).Z8 (λc v' hc q=>up c v' ?_ q) (λc q=>q) λc xs q=>q
  rcases hc with rfl | hc
  ·show nx _ _ e
  ·show nx _ _ hc
theorem Inv.k! (I:Inv X YZ σ H s) (fp:my X YZ H p) (new:kv X.21 X.w (upd H p o) s.29 p o):Inv X YZ σ (upd H p o) s:=by
 have nt:∀{b:Addr} {u:HO},H b=some u->b≠p:=λe z=>by rw[z,fp.1] at e;cases e
 refine I.step (h':=s.8) (g':=s.gens) (d':=s.drawn) (t':=s.26) (ch:=[p]) (λb hb=>?_) (λb o _ _ _ e _=>e) (λb o _ _ _ e _=>#[o.slots,e]) (λb o hb e n=>?_) (λb o _ e=>#[o,e]) (λb q e=>by rw[bK (nt e)];show e) (λb o q e=>by rw[bK (nt e)];show e)
  (λb q e=>#[[].12,by rw[bK (nt e),e];simp]) (λm hm=>hm) (λb u e=>?_) I.57
 ·have e:b=p:=by simpa using hb
  subst e;obtain _|f1|_|f3|f4|f5:=fp;show #[f3,f1,f4,f5]
 ·rw[bK λz=>hb (by simp [z])];show n
 ·by_cases hb:b=p
  ·subst hb;rw[aN] at e;cases e;show new
  ·rw[bK hb] at e;show (I.Zb b u e).Z8 (λc v _ q=>q) (λc q=>by rw[bK (nt q)];show q) λc xs q=>by rw[bK (nt q)];show q
end
def Tq (H:Hp) (p:V×V) (x:V):Prop:=∃T,x=.ref T/\H T=some (.tup [p.1,p.2])
theorem Tq.same (h:Tq H p x) (e:aL H H'):Tq H' p x:=by obtain T|q|g:=h;show #[T,q,e _ _ g]
def Zst (h:Heap) (z TI TO:Addr) (base:Nat):Prop:=(∃a b,YM h TO a b)/\(IsZip h z TI TO .none\/∃(T:Addr) (b1:Bool) (o:Obj),Bq h z TI TO (rawInt T) (.bool b1)/\h.14 T=some o/\@LE.le Nat instLENat base T)
theorem Dv {z TI TO i1 i2 l1 l2:Addr} (hz:Bq h z TI TO f0 f1) (_q:YM h TI (.ref i1) (.ref i2)) (Z4:YM h TO a b) (h1:h.24 i1 l1 k1) (h2:h.24 i2 l2 k2) (ZK:h.IsList l1 xs) (hl2:h.IsList l2 ys) (hT:TI≠TO) (hi:i1≠i2):ZipApart z TI TO i1 i2 l1 l2:=by
 obtain o1|g1|c1|_:=h1;obtain o2|g2|c2|_:=h2;obtain p1|q1|d1|_:=ZK;obtain p2|q2|d2|_:=hl2;have zt:Yc "zip"≠.type "tuple":=oy ();have it:Yc "list_iterator"≠.type "tuple":=oy ();have iz:Yc "list_iterator"≠.type "zip":=oy ();have lz:Yc "list"≠.type "zip":=oy ();have lt:Yc "list"≠.type "tuple":=oy ();have li:Yc "list"≠.type "list_iterator":=oy ()
 show #[dF _q hz zt.19,dF Z4 hz zt.19,dF g1 hz (by rw[c1];show iz),dF g2 hz (by rw[c2];show iz),hT,dF _q g1 (by rw[c1];show it.19),dF _q g2 (by rw[c2];show it.19),dF Z4 g1 (by rw[c1];show it.19),dF Z4 g2 (by rw[c2];show it.19),hi,
  dF q1 hz (by rw[d1];show lz),dF q1 Z4 (by rw[d1];show lt),dF q1 g1 (by rw[d1,c1];show li),dF q1 g2 (by rw[d1,c2];show li),dF q2 hz (by rw[d2];show lz),dF q2 Z4 (by rw[d2];show lt),dF q2 g1 (by rw[d2,c1];show li),dF q2 g2 (by rw[d2,c2];show li)]
section
variable {X:Cx} {YZ:List (Addr×Obj)} {σ:St}
theorem my.heap (f:my X YZ H b) (e:H' b=none):my X YZ H' b:=#[e,f.2]
structure Fw where
 z:Addr
 TI:Addr
 TO:Addr
 i1:Addr
 i2:Addr
 S:Addr
 base:Nat
def Fw.all (a:Fw):List Addr:=[a.z,a.TI,a.TO,a.i1,a.i2,a.S]
structure Fw.Ok (a:Fw):Prop where
 tt:a.TI≠a.TO
 ii:a.i1≠a.i2
 Sz:a.S≠a.z
 STI:a.S≠a.TI
 STO:a.S≠a.TO
 Si1:a.S≠a.i1
 Si2:a.S≠a.i2
 lt:∀b∈a.all,@LT.lt Nat instLTNat b a.51
structure So (X:Cx) (YZ:List (Addr×Obj)) (σ:St) (H1:Hp) (a:Fw) (l1 l2:Addr) (i:Nat) (H:Hp) (s:Xv):Prop where
 inv:Inv X YZ σ H s
 same:aL H1 H
 fps:∀b∈a.all,my X YZ H b
 sz:a.51<=s.heap.objs.39
 zst:Zst s.29 a.z a.TI a.TO a.51
 pt:YM s.29 a.TI (.ref a.i1) (.ref a.i2)
 j1:s.heap.24 a.i1 l1 i
 j2:s.heap.24 a.i2 l2 i
variable {a:Fw} {l1 l2:Addr} {H1 H:Hp} {s:Xv} {i:Nat} {xs ys:List V}
theorem So.push (L:So X YZ σ H1 a l1 l2 i H s) (O:a.Ok) (k:∀b o,b≠a.S->s.heap.14 b=some o->h'.14 b=some o) (hz:h'.objs.7=s.6):So X YZ σ H1 a l1 l2 i H { s with heap:=h' }:=by
 refine #[L.inv.moved (g':=s.gens) (d':=s.drawn) (t':=s.26) (ch:=[a.S]) (λb hb=>?_) (λb o hb e=>k b o (λz=>hb (by simp [z])) e) L.inv.57,L.10,L.fps,by change a.51<=h'.objs.7;rw[hz];show L.sz,?_,k _ _ O.STI.19 L.pt,L.j1.at λo e=>k _ o O.Si1.19 e,L.j2.at λo e=>k _ o O.Si2.19 e]
 ·have e:b=a.S:=by simpa using hb
  rw[e];show L.fps _ (by simp [Fw.all])
 ·obtain ⟨c,d,z0⟩|z4:=L.zst;refine #[#[c,d,k _ _ O.STO.19 z0],?_];rcases z4 with z1 | ⟨T,b1,o,z1,z2,z3⟩
  ·show .inl (k _ _ O.Sz.19 z1)
  ·refine .inr #[T,b1,o,k _ _ O.Sz.19 z1,k _ _ (λe=>?_) z2,z3];have:=O.lt a.S (by simp [Fw.all]);rw[<- e] at this;show absurd this (Nat.not_lt.mpr z3)
theorem Ng (O:a.Ok) (q1:bY X.K H1 l1 xs) (q2:bY X.K H1 l2 ys) (ex:xs[i]?=some x) (ey:ys[i]?=some y) (L:So X YZ σ H1 a l1 l2 i H s)
  (hQ:∀s',So X YZ σ H1 a l1 l2 (i+1) (upd H s.heap.objs.39 (.tup [x,y])) s'->(∀c o,c∉[a.z,a.TO,a.i1,a.i2]->s.heap.14 c=some o->s'.heap.14 c=some o)->H s.6=none->Q (some (.ref s.6)) s'):XF (model X.21 X.w) A' (pyNext (.ref a.z)) Q E s:=by
 obtain I|sm|fps|sz|zst|pt|j1|j2:=id L;obtain us|ru|pu|_:=I.31 (sm.seq q1);obtain ws|Zz|pw|_:=I.31 (sm.seq q2);obtain u|eu|r1:=ru.get ex;obtain v|ev|r2:=Zz.get ey;have fx:∀b∈[a.z,a.TO,a.i1,a.i2],my X YZ H b:=λb hb=>fps b (by simp only[Fw.all,aM,bf,or_false] at hb ⊢;rcases hb with e | e | e | e <;> simp [e])
 have hT0:H s.6=none:=I.Zb.42 (aj _);have fT:my X YZ H s.6:=I._r (aj _) hT0;have lt:∀b∈a.all,b≠s.6:=λb hb e=>by have:=O.lt b hb;rw[e] at this;show absurd this (Nat.not_lt.mpr sz)
 have fin:∀h',(∀c o,c∉[a.z,a.TO,a.i1,a.i2]->s.heap.14 c=some o->h'.14 c=some o)->YM h' s.heap.objs.39 u v->YM h' a.TI (.ref a.i1) (.ref a.i2)->h'.24 a.i1 l1 (i+1)->h'.24 a.i2 l2 (i+1)->Zst h' a.z a.TI a.TO a.51 →
   Q (some (.ref s.6)) { s with heap:=h' }:=λh' up pr pt' j1' j2' aen=>by
  have I2:Inv X YZ σ H { s with heap:=h' }:=I.moved (g':=s.gens) (d':=s.drawn) (t':=s.26) fx up I.57;have I3:Inv X YZ σ (upd H s.heap.objs.39 (.tup [x,y])) { s with heap:=h' }:=I2.k! fT ⟨kC rfl,[u,v],.cons r1 (.cons r2 .nil),⟨_,pr,rfl,_,rfl⟩⟩;refine hQ _ #[I3,sm.4 (aL.new hT0),λb hb=>(fps b hb).29 (by rw[bK (lt b hb)];show (fps b hb).1),?_,aen,pt',j1',j2'] up hT0;show ai sz (c6 (XB pr))
 obtain ⟨c,d,z0⟩|z4:=zst;rcases z4 with z1 | ⟨T,b1,o,z1,z2,z3⟩
 ·have D:=Dv z1 pt z0 j1 j2 pu.20 pw.20 O.tt O.ii;refine wpAny_pyNext_zip_item D z1 pt z0 j1 j2 pu.20 pw.20 (x:=u) (y:=v) (by simpa using eu) (by simpa using ev) λh' a1 a2 a3 a4 a5 a6 hk=>?_
  have up:∀c o,c∉[a.z,a.TO,a.i1,a.i2]->s.heap.14 c=some o->h'.14 c=some o:=λc o hc e=>by
   simp only[aM,bf,or_false,not_or] at hc;show hk c o hc.1 hc.2.1 hc.2.2.1 hc.2.2.2 e
  show fin h' up a5 (hk _ _ D.TIz D.TITO D.TIi1 D.TIi2 pt) a3 a4 #[#[_,_,a2],.inr #[s.6,false,_,a1,a5,sz]]
 ·have D:=Dv z1 pt z0 j1 j2 pu.20 pw.20 O.tt O.ii;refine Md D z1 z2 pt j1 j2 pu.20 pw.20 (u:=u) (v:=v) (by simpa using eu) (by simpa using ev) λh' a1 a3 a4 a5 hk=>?_
  have up:∀c o,c∉[a.z,a.TO,a.i1,a.i2]->s.heap.14 c=some o->h'.14 c=some o:=λc o hc e=>by
   simp only[aM,bf,or_false,not_or] at hc;show hk c o hc.1 hc.2.2.1 hc.2.2.2 e
  have Tn:∀b∈a.all,T≠b:=λb hb e=>by have:=O.lt b hb;rw[<- e] at this;show absurd this (Nat.not_lt.mpr z3)
  show fin h' up a5 (hk _ _ D.TIz D.TIi1 D.TIi2 pt) a3 a4 #[#[_,_,hk _ _ D.TOz D.TOi1 D.TOi2 z0],.inr #[T,true,o,a1,hk _ _ (Tn _ (by simp [Fw.all])) (Tn _ (by simp [Fw.all])) (Tn _ (by simp [Fw.all])) z2,z3]]
theorem Nf (hh:A'.handled=none) (O:a.Ok) (q1:bY X.K H1 l1 xs) (q2:bY X.K H1 l2 ys) (hi:xs.9<=i) (L:So X YZ σ H1 a l1 l2 i H s)
  (hQ:∀s',Inv X YZ σ H s'->(∀c o,c∉[a.z,a.TO,a.i1,a.i2]->s.heap.14 c=some o->s'.heap.14 c=some o)->Q none s'):XF (model X.21 X.w) A' (pyNext (.ref a.z)) Q E s:=by
 obtain I|sm|fps|sz|zst|pt|j1|j2:=id L;obtain us|ru|pu|_:=I.31 (sm.seq q1);obtain ws|Zz|pw|_:=I.31 (sm.seq q2);have lx:=ru.9;have aar:us.5[i]?=none:=by simp;lia
 have fx:∀b∈[a.z,a.TO,a.i1,a.i2],my X YZ H b:=λb hb=>fps b (by simp only[Fw.all,aM,bf,or_false] at hb ⊢;rcases hb with e | e | e | e <;> simp [e])
 have fin:∀h',(∀c o,c∉[a.z,a.TO,a.i1,a.i2]->s.heap.14 c=some o->h'.14 c=some o)->Q none { s with heap:=h' }:=λh' up=>hQ _ (I.moved (g':=s.gens) (d':=s.drawn) (t':=s.26) fx up I.57) up
 obtain ⟨c,d,z0⟩|z4:=zst;rcases z4 with z1 | ⟨T,b1,o,z1,z2,z3⟩
 ·have D:=Dv z1 pt z0 j1 j2 pu.20 pw.20 O.tt O.ii;refine wpAny_pyNext_zip_end hh D z1 pt z0 j1 j2 pu.20 pw.20 (.inl aar) λh' hk=>fin h' λc o hc e=>?_
  simp only[aM,bf,or_false,not_or] at hc;show hk c o hc.1 hc.2.1 hc.2.2.1 hc.2.2.2 e
 ·have D:=Dv z1 pt z0 j1 j2 pu.20 pw.20 O.tt O.ii;refine Mc hh D z1 z2 pt j1 pu.20 aar λh' hk=>fin h' λc o hc e=>?_
  simp only[aM,bf,or_false,not_or] at hc;show hk c o hc.1 hc.2.2.1 hc.2.2.2 e
theorem Ni (hh:A'.handled=none) (O:a.Ok) (hz:xs.9<=XG) (hl:ys.9=xs.9) (q1:bY X.K H1 l1 xs) (q2:bY X.K H1 l2 ys)
  (fin:∀s' H' ts acc c,Inv X YZ σ H' s'->aL H1 H'->my X YZ H' a.S->s'.heap.14 a.S=some (lobj acc c)->cZ ts acc->Xw (Tq H') (xs.zip ys) ts->R (.ok (.ret .none)) s') :
  ∀(k i:Nat) (s:Xv) (H:Hp) (ts:List V) (acc:List Value) (c:Nat),xs.9 - i=k->i<=xs.9->So X YZ σ H1 a l1 l2 i H s->s.heap.14 a.S=some (lobj acc c)->cZ ts acc->Xw (Tq H) ((xs.zip ys).18 i) ts →
   YU (model X.21 X.w) A' (.builtin "list.extend.loop" #[[.ref a.S,.ref a.z,.none],[]]) R s:=by
 have Sn:a.S∉[a.z,a.TO,a.i1,a.i2]:=λh=>by
  simp only[aM,bf,or_false] at h;rcases h with e | e | e | e
  ·show O.Sz e
  ·show O.STO e
  ·show O.Si1 e
  ·show O.Si2 e
 intro k
 induction k with
 | zero =>
  intro i s H ts acc c hk hi L gS rv prs;have e:i=xs.9:=()
  refine codeAny_builtin Vh ?_;rw[Yd.under_plainId mW _]
  change XF _ A'.in1 (pyNext (XD a.z) >>= _) _ _ s
  refine T1 (Nf hh O q1 q2 () L λs' I' up=>XH (fin s' H ts acc c I' L.10 (L.fps _ (by simp [Fw.all])) (up _ _ Sn gS) rv ?_));rwa [aJ (by rw[By];lia)] at prs
 | succ k ih =>
  intro i s H ts acc c hk hi L gS rv prs;have Zo:i < xs.9:=()
  have lt:=prs.9;have la:=rv.9;refine codeAny_builtin Vh ?_;rw[Yd.under_plainId mW _]
  change XF _ A'.in1 (pyNext (XD a.z) >>= _) _ _ s
  refine T1 (Ng O q1 q2 (x:=xs[i]) (y:=ys[i]'()) (by simp [Zo]) (by simp) L λs' L' up hT=>?_);have gS':=up _ _ Sn gS
  change XF _ A'.in1 (updateSeq a.S (·.push (XD s.6)) >>= _) _ _ s'
  have small:acc.9<=XG:=by
   rw[aS,By] at lt
   lia
  refine T1 (wpAny_updateSeq gS' rfl (XH #[plainId_quiet mW _,?_]) (by rw[aQ];show small) (by
   change (acc.toArray.25 (XD s.6)).7<=XG+1
   rw[Array.size_push,aQ]
   lia))
  have gS2:=mO gS' (λb=>b.25 (XD s.6));have e2:(acc.toArray.25 (XD s.6))=(acc++[XD s.6]).5:=by simp
  rw[e2] at gS2;refine ih (i+1) _ (upd H s.heap.objs.39 (.tup [xs[i],ys[i]'()])) (ts++[.ref s.6]) (acc++[.ref s.6]) _ () Zo (L'.25 O (λb o hb e=>(XW _ _ (Yg hb)).4 e) (Heap.size_update ..)) gS2 (rv.append (show cZ [V.ref s.6] [XD s.6] from .cons rfl .nil)) ?_;have zp:(xs.zip ys)[i]?=some (xs[i],ys[i]'()):=by simp [Vj,Zo]
  rw[take_snoc zp];show (bv (λ_ _ z=>z.10 (aL.new hT)) prs).snoc #[_,rfl,aN]
theorem II:typeLookup (.type "zip") "__len__"=pure Yk:=by rw[typeLookup_type,builtinLookup_eq_fast];kernel_rfl
theorem FF:typeLookup (.type "zip") "__length_hint__"=pure Yk:=by rw[typeLookup_type,builtinLookup_eq_fast];kernel_rfl
theorem Nh (hh:A'.handled=none) (O:a.Ok) (hz:xs.9<=XG) (hl:ys.9=xs.9) (q1:bY X.K H1 l1 xs) (q2:bY X.K H1 l2 ys) (L:So X YZ σ H1 a l1 l2 0 H s) (gS:s.heap.14 a.S=some (lobj [] 0)) (z0:IsZip s.29 a.z a.TI a.TO .none)
  (fin:∀s' H' ts acc c,Inv X YZ σ H' s'->aL H1 H'->my X YZ H' a.S->s'.heap.14 a.S=some (lobj acc c)->cZ ts acc->Xw (Tq H') (xs.zip ys) ts->R (.ok (.ret .none)) s') :
  XF (model X.21 X.w) A'.in1 (Yx.«list.__init__» #[[.ref a.S,.ref a.z],[]]) (λfl s'=>match fl with | .done f=>R (.ok f) s' | .again c'=>c'.quiet=true/\YU (model X.21 X.w) A' c' R s') (λe s'=>R (.error e) s') s:=by
 change XF _ A'.in1 (do let old <- Yx.List.listItems (XD a.S);Yx.List.listUpdate (XD a.S) (λ_=>[].12);letGo old.toList.reverse;YD (XD a.S) (XD a.z) Yi) _ _ s
 refine T1 ?_;unfold Yx.List.listItems;refine T1 (wpAny_seqItems gS rfl (XH ?_))
 change XF _ A'.in1 (updateSeq a.S (λ_=>[].12) >>= λ_=>letGo ([].12:Array Value).toList.reverse >>= λ_=>YD (XD a.S) (XD a.z) Yi) _ _ s
 refine T1 (wpAny_updateSeq gS rfl ?_);have g1:=mO gS (λ_=>([].12:Array Value));obtain ⟨n1,g1⟩:∃n1,(s.heap.49 a.S (XZ λ_=>([].12:Array Value))).14 a.S=some (lobj [] n1):=#[_,g1];have L1:=L.25 (h':=s.heap.49 a.S (XZ λ_=>([].12:Array Value))) O (λb o hb e=>(XW _ _ (Yg hb)).4 e) (Heap.size_update ..);have z1:IsZip (s.heap.49 a.S (XZ λ_=>([].12:Array Value))) a.z a.TI a.TO .none:=(XW _ _ O.Sz).4 z0;refine T1 (wpAny_letGo ?_);unfold YD;have ty:Xv.TypeIs { s with heap:=s.heap.49 a.S (XZ λ_=>([].12:Array Value)) } (.ref a.z) "zip":=#[_,z1,rfl];refine T1 (wpAny_typeOf ty ?_);have h1:Yx.List.listSameRef (.ref a.S) (.ref a.z)=false:=by simp [Yx.List.listSameRef,O.Sz]
 have h2:(Yc "zip" == Yc "list")=false:=()
 have h3:(Yc "zip" == Yc "tuple")=false:=()
 simp only[h1,h2,h3,Bool.or_false,jZ,if_false];refine T1 (wpAny_pyIter_zip z1 (T1 (YA ?_)));unfold Yx.List.listLengthHint;refine T1 (wpAny_specialOf ty II ?_)
 change XF _ A'.in1 (specialOf (XD a.z) (Str.ofString "__length_hint__") >>= _) _ _ _
 refine T1 (wpAny_specialOf ty FF (XH ?_))
 change XF _ A'.in1 (rule "list.extend.makes-room" >>= λ_=>Yx.List.listTouch (XD a.S) >>= λ_=>again (.builtin "list.extend.loop" #[[XD a.S,XD a.z,Yi],[]])) _ _ _
 refine T1 (wpAny_rule (T1 ?_))
 change XF _ A'.in1 (updateSeq a.S (·.push Yi) >>= λ_=>updateSeq a.S (·.pop)) _ _ _
 refine T1 (wpAny_updateSeq g1 rfl ?_);have g2:=mO g1 (λb=>b.25 Yi);obtain ⟨n2,g2⟩:∃n2,((s.heap.49 a.S (XZ λ_=>([].12:Array Value))).49 a.S (XZ λb=>b.25 Yi)).14 a.S=some (lobj [Yi] n2):=#[_,g2];have L2:=L1.25 (h':=(s.heap.49 a.S (XZ λ_=>([].12:Array Value))).49 a.S (XZ λb=>b.25 Yi)) O (λb o hb e=>(XW _ _ (Yg hb)).4 e) (Heap.size_update ..);refine wpAny_updateSeq g2 rfl ?_ (kC rfl);have g3:=mO g2 (λb=>b.pop);have L3:=L2.push (h':=((s.heap.49 a.S (XZ λ_=>([].12:Array Value))).49 a.S (XZ λb=>b.25 Yi)).49 a.S (XZ λb=>b.pop)) O (λb o hb e=>(XW _ _ (Yg hb)).4 e) (Heap.size_update ..);show XH #[plainId_quiet mW _,Ni hh O hz hl q1 q2 fin _ 0 _ H [] [] _ rfl (bD _) L3 g3 .nil .nil]
end
section
variable {X:Cx}
theorem Tx (n:Nat):Fw.Ok #[n+4,n+2,n+3,n,n+1,n+5,n+5+1]:=by
 have ne:∀p q:Nat,p≠q->@Ne Addr p q:=λ_ _ h=>h
 refine #[ne (n+2) (n+3) (),ne n (n+1) (),ne (n+5) (n+4) (),ne (n+5) (n+2) (),ne (n+5) (n+3) (),ne (n+5) n (),ne (n+5) (n+1) (),λb hb=>?_];have _N:b∈[n+4,n+2,n+3,n,n+1,n+5]:=hb;change @LT.lt Nat instLTNat b (n+5+1)
 simp only[aM,bf,or_false] at _N;rcases _N with e | e | e | e | e | e <;> (rw[e];show bQ (df _) ())
def FJ (K:Y2) (ta:TA):TE:=λσ H Q=>ta σ H λvs H1=>∃(l1 l2:Addr) (xs ys:List V),vs=[.ref l1,.ref l2]/\bY K H1 l1 xs/\bY K H1 l2 ys/\ys.9=xs.9 /\
 ∀L ts H',aL H1 H'->H1 L=none->H' L=some (.lst ts)->Xw (Tq H') (xs.zip ys) ts->Q (.ref L) H'
theorem Jh {e1 e2:Expr} {ta:TA} {p p2 pos ZW:Pos} (hg:Gl X "list") (hm:X.mg "list"=none) (hg2:Gl X "zip") (hm2:X.mg "zip"=none) (ha:PA X [e1,e2] ta) (hc:X.calm=true:=by rfl)
  (hs:Xy [e1,e2] X.16=[(false,eval e1 X.16),(false,eval e2 X.16)]:=by rfl) (_Y:Xy [e2] X.16=[(false,eval e2 X.16)]:=by rfl)
  (hs3:Xy [YH (.Name "zip" p2) [e1,e2] [] ZW] X.16=[(false,eval (.Call (.Name "zip" p2) [e1,e2] [] ZW) X.16)]:=by rfl) :
  PE X (.Call (.Name "list" p) [.Call (.Name "zip" p2) [e1,e2] [] ZW] [] pos) (FJ X.K ta):=by
 intro YZ s σ H Q I h;refine XY (kY I hg hm boot_list ?_);refine XJ ?_ (by rw[hs3];rfl) rfl;rw[hs3];change XF _ _ (spliced ((false,eval (.Call (.Name "zip" p2) [e1,e2] [] ZW) X.16) :: [])) _ _ s
 refine Calls.spliced_cons ?_;refine Call_ (kY I hg2 hm2 boot_zip (XJ (iq (ha ZW YZ s σ H _ I h) λus s1 hz=>?_) (by rw[hs,_Y]) (by rw[_Y];rfl)));obtain vs|H1|I1|r1|q1:=hz;obtain l1|l2|xs|ys|e|qx|qy|hl|q:=q1;subst e;obtain u|v|rfl|ru|rv:=vals2 r1;cases ru;cases rv;obtain us|rx|px|hz:=I1.31 qx;obtain ws|ry|py|_:=I1.31 qy;refine call_zip_2 px.20 py.20 λh' a1 a2 a3 a4 a5 a6 hk=>?_
 refine Calls.spliced_nil ?_;have I2:Inv X YZ σ H1 { s1 with heap:=h' }:=I1.59 (t':=s1.26) hk;have up:∀b o,h'.14 b=some o->(h'.25 { cls:=.type "list",data:=.seq [].12 }).14 b=some o:=λb o e=>Xx _ e
 have O:Fw.Ok #[s1.6+4,s1.6+2,s1.6+3,s1.6,s1.6+1,h'.objs.7,h'.objs.7+1]:=by
  rw[a6];show Tx s1.heap.objs.39
 have old:∀b∈(Fw.mk (s1.6+4) (s1.6+2) (s1.6+3) s1.heap.objs.39 (s1.6+1) h'.objs.39 (h'.objs.7+1)).all,s1.6<=b:=λb hb=>by
  rw[a6] at hb;simp only[Fw.all,aM,bf,or_false] at hb;rcases hb with rfl | rfl | rfl | rfl | rfl | rfl <;> first | show gW _ _ | show aj _
 have gS:(h'.25 { cls:=.type "list",data:=.seq [].12 }).14 h'.objs.7=some (lobj [] 0):=XO _ rfl;refine callType_codes (Q₁:=λob t=>ob=.ref h'.objs.7/\t={ s1 with heap:=h'.25 { cls:=.type "list",data:=.seq [].12 } }) PySem.F.called_list (PySem.F.typeCall_list_1 _) PySem.F.entry_list_init (code_list_new _ ⟨rfl,rfl⟩) λob t ht=>?_
 obtain rfl|rfl:=ht;refine #[#[_,gS,rfl],PySem.F.args_list_init_2 _ _,?_]
 have L:So X YZ σ H1 #[s1.6+4,s1.6+2,s1.6+3,s1.6,s1.6+1,h'.objs.7,h'.objs.7+1] l1 l2 0 H1 { s1 with heap:=h'.25 { cls:=.type "list",data:=.seq [].12 } } :=
  #[I2.59 (t':=s1.26) up,aL.refl _,λb hb=>I1._r (old b hb) (I1.Zb.42 (old b hb)),by rw[Yr];show aj _,#[#[_,_,up _ _ a3],.inl (up _ _ a1)],up _ _ a2,a4.at λo e=>up _ o e,a5.at λo e=>up _ o e]
 refine Nh (A':=X.A.in1) (I.ok.hd hc) O hz hl qx qy L gS (up _ _ a1) λs' H' ts acc c I' sm fS gS' vs' prs=>#[rfl,?_]
 have nS:H1 h'.objs.7=none:=I1.Zb.42 (old _ (by simp [Fw.all]));have lt:=prs.9;rw[By] at lt;show #[.ref h'.objs.7,_,I'.k! (o:=.lst ts) fS #[(),acc,c,vs',gS'],rfl,q _ ts _ (sm.4 (aL.new fS.1)) nS aN (bv (λ_ _ z=>z.10 (aL.new fS.1)) prs)]
end
end L2
namespace Nm
def yE:List Int->Int->Int
 | [],m=>m
 | b :: r,m=>yE r (m*(b / g m b))
theorem xm (hm:0 < m) (hb:0 < b):0 < m*(b / g m b):=jU hm (Ey (t:=m) hb)
theorem Er:b∣m*(b / g m b):=by
 have h1:=AX m b;refine #[lo m b,?_];have h2:b / g m b*g m b=b:=yJ m b
 calc m*(b / g m b)=lo m b*g m b*(b / g m b):=by rw[h1]
  _=lo m b*(b / g m b*g m b):=by rw[dZ,gK (g m b)]
  _=b*lo m b:=by rw[h2,gK]
theorem AZ:∀{bs:List Int} {m:Int},0 < m->(∀b∈bs,0 < b)->0 < yE bs m
 | [],_,hm,_=>hm
 | b :: r,m,hm,h=>AZ (bs:=r) (xm hm (h b dJ)) λc hc=>h c (cx _ hc)
theorem GO:∀{bs:List Int} {m:Int},m∣yE bs m
 | [],_=>LL _
 | b :: r,m=>Int.dvd_trans (Int.dvd_mul_right m _) (GO (bs:=r))
theorem GN:∀{bs:List Int} {m b:Int},b∈bs->b∣yE bs m
 | c :: r,m,b,h=>by
  rcases aM.mp h with rfl | h
  ·show Int.dvd_trans Er (GO (bs:=r))
  ·show GN (bs:=r) h
end Nm
namespace L2
open PySem PySem.Spec PyProof.Rows Nm
def Fx (K:Y2) (H:Hp) (p:Addr) (ns:List (Int×Int)):Prop:=∃xs,H p=some (.lst xs)/\Xw (λn x=>Iv K H x n) ns xs
theorem Fx.same {K:Y2} (h:Fx K H p ns) (e:aL H H'):Fx K H' p ns:=by obtain xs|g|q:=h;show #[xs,e _ _ g,bv (λ_ _ z=>e.num z) q]
def Gz (K:Y2) (T:String):V->Hp->VK->Prop:=λx H Q=>L4 K T x H Q\/∃a xs b,x=.ref a/\nD K H a xs/\YF K (.type "tuple") (.type T)=some b/\Q (.bl b) H
theorem CZ:∀{bs:List Int} {m b:Int},yE (bs++[b]) m=yE bs m*(b / g (yE bs m) b)
 | [],_,_=>rfl
 | c :: r,m,b=>CZ (bs:=r)
def gE (ns:List (Int×Int)) (B:Int):List Int:=ns.11 λn=>n.1*(B / n.2)
def iT (ns:List (Int×Int)):Int:=yE (ns.11 (·.2)) 1
def Pk (ns ms:List (Int×Int)):Int:=(XI (λx y=>x*y) (gE ns (iT ns)) (gE ms (iT ms))).sum
theorem qH (h:n∈ns):n.2∣iT ns:=GN (ao.mpr #[n,h,rfl])
theorem Jd {K:Y2} (h:ta σ H λvs H1=>∃(l1 l2:Addr) (xs ys:List V),vs=[.ref l1,.ref l2]/\bY K H1 l1 xs/\bY K H1 l2 ys/\ys.9=xs.9 /\
 ∀L ts H',aL H1 H'->H1 L=none->H' L=some (.lst ts)->Xw (Tq H') (xs.zip ys) ts->Q (.ref L) H'):FJ K ta σ H Q:=h
theorem W6 (hb:0 < b) (h:Sz k b):Sz k (g m b):=h.le (by
 have h1:(g m b).15=Yb m b:=by unfold g;simp
 rw[h1];show iV () (by have:=fZ (a:=m) (b:=b);show fB.mpr this |> λz=>by simpa using z))
theorem P8 {ts us:List Int} {i:Nat} (h:((ts.11 V.int).zip (us.11 V.int))[i]?=some pq):∃t u,ts[i]?=some t/\us[i]?=some u/\pq=(.int t,.int u):=by
 rw[Vj,az,az] at h;obtain h1|h2:=h;cases e1:ts[i]? with
 | none=>rw[e1] at h1;cases h1
 | some t =>
  cases e2:us[i]? with
  | none=>rw[e2] at h2;cases h2
  | some u =>
   rw[e1] at h1;rw[e2] at h2;refine #[t,u,rfl,rfl,?_];cases pq;simp at h1 h2;rw[h1,h2]
def LU (K:Y2):Sp:=λvs H Q _=>∃x n,vs=[x]/\Iv K H x n/\vh n/\∀H',aL H H'->Q (.bl true) H'
inductive xU (K:Y2) (vs:List V) (H:Hp) (Q:VK) (E9:XK):Prop
 | mk (p:Addr) (ns:List (Int×Int)):vs=[.ref p,.int ns.9]->Fx K H p ns->ns.9<=1000->(∀n∈ns,vh n)->(∀H',aL H H'->Q (.bl true) H')->xU K vs H Q E9
theorem zS {X:Cx} {a:Expr} {ta:TE} {pos:Pos} {c:Str} {T:String} {p p2:Pos} (hg:Gl X "isinstance") (hm:X.mg "isinstance"=none) (hb:Yv c=some (.type T)) (hmc:X.mg c=none) (ha:PE X a ta) (hgc:Gl X c:=by rfl) (hn:c≠"__name__":=by decide)
  (hd:(c == ("__debug__":Str))=false:=by decide) (he:Xy [a,.Name c p2] X.16=[(false,eval a X.16),(false,eval (.Name c p2) X.16)]:=by rfl)
  (_G:(backTo pos (Xy [.Name c p2] X.16)).any (·.1)=false:=by rfl) (v!:Xy [.Name c p2] X.16=[(false,eval (.Name c p2) X.16)]:=by rfl):PE X (.Call (.Name "isinstance" p) [a,.Name c p2] [] pos) (Vu (Gz X.K T) ta):=by
 intro YZ s σ H Q I h;refine XY (kY I hg hm Yz ?_);have hA:PA X [a,.Name c p2] (ir ta (ir (tC (.ty T)) xP)):=fu ha (fu (K3 hgc hmc hb rfl hn hd) gA v!) (by rw[he,v!])
 have hq:ir ta (ir (tC (.ty T)) xP) σ H (λvs H1=>∃x,vs=[x,.ty T]/\Gz X.K T x H1 Q):=by
  change ta σ H λx H1=>∃x',[x,V.ty T]=[x',V.ty T]/\Gz X.K T x' H1 Q
  have e:(λx H1=>∃x',[x,V.ty T]=[x',V.ty T]/\Gz X.K T x' H1 Q)=λx H1=>Gz X.K T x H1 Q:=by
   funext x H1;apply propext;constructor
   ·rintro ⟨x',e,q⟩;cases e;show q
   ·intro q;show #[x,rfl,q]
  rw[e];show h
 refine Yf (iq (hA pos YZ s σ H _ I hq) λus s1 hz=>?_) (by rw[he,v!]) _G;obtain vs|H1|I1|r1|x|e|q1:=hz;subst e;obtain u|w'|rfl|ru|rt:=vals2 r1;cases rt;rcases q1 with ⟨t,bb,ty,ek,q⟩ | ⟨ad,xs,bb,rfl,hs,ek,q⟩
 ·show yH I1 ru ty ek λtk=>#[.bl bb,H1,I1.tok tk,rfl,q]
 ·cases ru;obtain Y5|_|⟨o,g1,g2,_⟩|_:=I1.44 hs;show dP PySem.W.kitx_tuple I1.ZQ #[o,g1,g2] ek (λz=>nomatch z) λtk=>#[.bl bb,H1,I1.tok tk,rfl,q]
theorem N7 (h:H l=some (.lst [x])) (hk:k<=1000) (q:∀p H',aL H H'->H p=none->H' p=some (.lst (K0 k x))->Q (.ref p) H'):V6 (.ref l) (.int k) H Q :=
 #[l,k,[x],rfl,rfl,h,(),(),c6 (du (by simp;lia)),λp hp=>q p _ (aL.new hp) hp (by rw[aN];simp)]
theorem JP {k:Nat} (h:k<=xs.9):uQ xs none (some (k:Int))=xs.18 k:=by
 unfold uQ;rw[HT.Au,HT.DZ,Nat.min_eq_left h];simp
theorem Px {k:Nat}:uQ xs (some (k:Int)) none=xs.40 k:=by
 unfold uQ;rw[HT.Au,HT.DZ];by_cases h:k<=xs.9
 ·rw[Nat.min_eq_left h,aJ (by simp)]
 ·rw[Nat.min_eq_right (),jX (),jX ()];simp
theorem vO {α β:Type} {F:α->β->Prop} {x:α} {y:β} (h:F x y):∀m:Nat,Xw F (K0 m x) (K0 m y)
 | 0=>.nil
 | m+1=>.cons h (vO h m)
theorem W3:vh (0,1):=#[(),(),show (0:Nat) < 2^32000000 from PY _,Nat.one_lt_two_pow ()]
theorem gI (h:a < n):MZ n (a:Int)=some a:=by
 unfold MZ;rw[if_pos (),if_pos (),Int.toNat_natCast]
theorem Pw {k:Nat}:uQ xs none (some (k:Int))=xs.18 k:=by
 by_cases h:k<=xs.9
 ·show JP h
 ·unfold uQ;rw[HT.Au,HT.DZ,Nat.min_eq_right (),aJ (by simp),aJ ()];rfl
theorem mS {α β:Type} {F:α->β->Prop}:∀{l1:List α} {l2:List β} (_:Xw F l1 l2) (k:Nat),Xw F (l1.18 k) (l2.18 k)
 | _,_,.nil,k=>by simp;show .nil
 | _,_,.cons h r,0=>.nil
 | _,_,.cons h r,k+1=>.cons h (mS r k)
def QW (K:Y2):List V->Hp->VK->Prop:=λxs H Q=>∃p ys,xs=[.ref p]/\(bY K H p ys\/nD K H p ys)/\∀l,H l=none->Q (.ref l) (upd H l (.lst ys))
theorem iF (K:Y2) (hK:X.K=K):qJ X (.type "list") (QW K):=by subst hK;show xA
theorem aL.none (s:aL H H') (h:H' l=Yk):H l=Yk:=by
 cases e:H l with
 | none=>rfl
 | some o=>have:=s _ _ e;rw[h] at this;cases this
def Tr (K:Y2) (H:Hp) (p:Addr) (rows:List (List (Int×Int))):Prop:=∃xs,H p=some (.lst xs)/\Xw (λns x=>∃q,x=V.ref q/\Fx K H q ns) rows xs
theorem Nw (h:b.15<=1000000):Sz 20 b:=bG h ()
theorem di.none (u:di b H H') (B:jE H' b) (h:H' l=Yk):H l=Yk:=by
 cases e:H l with
 | none=>rfl
 | some o =>
  by_cases z:l=b
  ·obtain _|_|_|_|_|e2|_:=B;rw[<- z,h] at e2;cases e2
  ·have:=u.1 l o e z;rw[h] at this;cases this
inductive Aj (K:Y2) (vs:List V) (H:Hp) (Q:VK) (E9:XK):Prop
 | mk (p:Addr) (rows:List (List (Int×Int))) (m:Nat):vs=[.ref p,.int rows.9,.int m]->Tr K H p rows->rows.9<=1000->m<=1000->((∀ns∈rows,ns.9=m/\∀n∈ns,vh n))->(∀H',aL H H'->Q (.bl true) H')->Aj K vs H Q E9
end L2
namespace Nm
def nm (q:Rat):Int×Int:=(q.num,(q.52:Int))
theorem ja (q:Rat):0 < (nm q).2:=by have:=q.den_pos;change 0 < (q.52:Int);lia
theorem El (q:Rat):Yb (nm q).1 (nm q).2=1:=q.reduced
theorem UH (h:nm p=nm q):p=q:=by
 have h1:p.num=q.num:=congrArg Prod.fst h;have h2:(p.52:Int)=q.52:=congrArg Prod.snd h;show Rat.ext h1 ()
theorem nL (q:Rat):(q.num:Rat)=q*(q.52:Rat):=by
 have h:=Rat.num_divInt_den q;rw[Rat.divInt_eq_div] at h
 have hd:((q.52:Int):Rat)≠0:=by
  intro z;have z:=zm.mp z;have:=q.den_pos
  lia
 have e:((q.52:Int):Rat)=(q.52:Rat):=bu _
 calc (q.num:Rat)=(q.num:Rat) / ((q.52:Int):Rat)*((q.52:Int):Rat):=(ID hd).19
  _=q*(q.52:Rat):=by rw[h,e]
theorem Wf (hb:0 < b) (hg:Yb a b=1) (e:q*(b:Rat)=(a:Rat)):(a,b)=nm q:=by
 have h1:a*(q.52:Int)=q.num*b:=by
  apply d5.mp;rw[a9,a9,<- e,nL,bu];grind
 obtain e1|e2:=uniq hb (ja q) hg (El q) h1;show Prod.ext e1 e2
theorem rZ {t b:Int} (hb:0 < b) (e:q*(b:Rat)=(t:Rat)):(lo t b,hi t b)=nm q:=by
 refine Wf (Ey hb) (AV ()) ?_;have h:=AW t b;have _N:(b:Rat)≠0:=λz=>by have:=zm.mp z;lia
 have h2:((lo t b:Int):Rat)*(b:Rat)=(t:Rat)*((hi t b:Int):Rat):=by rw[<- a9,h,a9]
 rw[<- e] at h2;have h3:(q*((hi t b:Int):Rat) - ((lo t b:Int):Rat))*(b:Rat)=0:=by grind
 rcases PX.mp h3 with h4 | h4
 ·grind
 ·show absurd h4 _N
def Fr (M V:Nat) (q:Rat):Prop:=∃z:Int,q*(M:Rat)=(z:Rat)/\z.15<=V*M
theorem Fr.mono (h:Fr M V q) (l:V<=V'):Fr M V' q:=by obtain z|e|b:=h;show #[z,e,ai b (au _ l)]
theorem Fr.scale (h:Fr M V q) (k:Nat):Fr (M*k) V q:=by
 obtain z|e|b:=h;refine #[z*k,?_,?_]
 ·rw[Bu,a9,<- e,bu,Rat.mul_assoc]
 ·rw[fO,dk,<- cb];show au _ b
theorem Fr._l (h:Fr M V q) (k:Nat):Fr (k*M) V q:=by rw[cB];show h.scale k
theorem Fr.dvd (h:Fr M V q) (d:M∣N):Fr N V q:=by obtain k|rfl:=d;show h.scale k
theorem Fr.add (h:Fr M V p) (h':Fr M W q):Fr M (V+W) (p+q):=by
 obtain z|e|b:=h;obtain z'|e'|b':=h';refine #[z+z',by rw[Bw,<- e,<- e',Rat.add_mul],?_];rw[Dn];have:=Int.natAbs_add_le z z'
 lia
theorem Fr.neg (h:Fr M V q):Fr M V (-q):=by
 obtain z|e|b:=h;show #[-z,by rw[dt,<- e,Rat.neg_mul],by rw[lI];show b]
theorem Fr.mul (h:Fr M V p) (h':Fr N W q):Fr (M*N) (V*W) (p*q):=by
 obtain z|e|b:=h;obtain z'|e'|b':=h';refine #[z*z',?_,?_]
 ·rw[Bu,a9,<- e,<- e'];grind
 ·rw[fO]
  calc z.15*z'.15<=(V*M)*(W*N):=aE b b'
   _=V*W*(M*N):=by rw[cb,Nat.mul_left_comm M,<- cb]
theorem Fr.zero:Fr M V 0:=#[0,by simp,by simp]
theorem Fr.int {i:Int} (h:i.15<=V):Fr M V (i:Rat):=#[i*M,by rw[a9,bu],by rw[fO,dk];show au _ h]
theorem Fr.den (h:Fr M V q):(q.52:Int)∣(M:Int):=by
 obtain z|e|b:=h
 have h1:q.num*(M:Int)=z*(q.52:Int):=by
  apply d5.mp;rw[a9,a9,<- e,nL,bu,bu];grind
 have h2:(q.52:Int)∣q.num*(M:Int):=#[z,by rw[h1,gK]];show sv (by rw[mQ];show El q) h2
theorem Fr.abn (h:Fr M V q) (hM:0 < M):q.52<=M:=iV hM (oU.mp h.52)
theorem Fr.aaN (h:Fr M V q) (hM:0 < M):q.num.15<=V*M:=by
 have hd:=h.52;obtain z|e|b:=h;obtain k|hk:=oU.mp hd;have hk0:k≠0:=λz=>by rw[z,LD] at hk;lia
 have h1:z=q.num*(k:Int):=by
  apply d5.mp;rw[a9,<- e,nL,bu,hk,Bu];grind
 rw[h1] at b;show ai (p6 ()) b
theorem Fr.own (q:Rat) (h:q.num.15<=V):Fr q.52 V q:=#[q.num,(nL q).19,ai h (dH _ q.den_pos)]
theorem Fr.sz (h:Fr M V q) (hM:0 < M) (h1:M<=2^k) (h2:V<=2^j):Sz (j+k+1) (nm q).1/\Sz (k+1) (nm q).2:=by
 constructor
 ·change q.num.15 < 2^(j+k+1)
  have h3:=h.aaN hM;have h4:V*M<=2^j*2^k:=aE h2 h1;rw[iO,aV];have:=PY (j+k);rw[aV] at this
  lia
 ·change (q.52:Int).15 < 2^(k+1)
  have h3:=h.abn hM;rw[dk,iO];have:=PY k
  lia
theorem Fr.sum {M V:Nat}:∀{l:List Rat},(∀x∈l,Fr M V x)->Fr M (l.9*V) l.sum
 | [],_=>by simp;show Fr.zero
 | x :: r,h=>by
  rw[List.sum_cons,bI,iN,d6];show (h x (.head _)).add (Fr.sum λy hy=>h y (.tail _ hy))
def bT (xs ys:List Rat):Rat:=(XI (λx y=>x*y) xs ys).sum
theorem Fr.dot (h:∀x∈xs,Fr M V x) (h':∀y∈ys,Fr N W y):Fr (M*N) (xs.9*(V*W)) (bT xs ys):=by
 have q:=Fr.sum (M:=M*N) (V:=V*W) (l:=XI (λx y=>x*y) xs ys) λz hz=>by
  obtain i|hi|e:=aH hz;rw[lH] at e;rw[<- e];show (h _ (aB _)).mul (h' _ (aB _))
 show q.22 (au _ (by rw[cQ];lia))
theorem yL (xs ys:List Rat):bT xs ys=bT ys xs:=by
 unfold bT;rw[List.zipWith_comm];congr 2;funext a b;show bC ..
theorem zW:∀{bs:List Int} {m M:Int},0 < m->m∣M->(∀b∈bs,0 < b/\b∣M)->yE bs m∣M
 | [],_,_,_,h,_=>h
 | b :: r,m,M,hm,h,hb=>by
  have b1:=hb b dJ;refine zW (bs:=r) (xm hm b1.1) ?_ λc hc=>hb c (cx _ hc)
  have gp:0 < g m b:=A4 ();have e1:=AX m b;have e2:=yJ m b;obtain u|hu:=h;obtain v|hv:=b1.2
  have h3:lo m b*u=hi m b*v:=by
   apply vo (show g m b≠0 by lia)
   calc lo m b*u*g m b=lo m b*g m b*u:=by rw[dZ,gK u,<- dZ]
    _=m*u:=by rw[e1]
    _=M:=hu.19
    _=b*v:=hv
    _=hi m b*g m b*v:=by rw[e2]
    _=hi m b*v*g m b:=by rw[dZ,gK (g m b),<- dZ]
  have h4:hi m b∣lo m b*u:=#[v,h3];have h5:hi m b∣u:=sv (by rw[mQ];show AV ()) h4;obtain w|hw:=h5;refine #[w,?_];change M=m*hi m b*w
  rw[hu,hw,dZ]
theorem EG (hb:0 < b) (d:a∣b) (h:Sz k b):Sz k a:=h.le (iV () (fB.mpr d))
end Nm
namespace Nm
def Dr (W:Nat) (x:Rat):Prop:=x.num.15<=W/\x.52<=W
def wI:List Nat->Nat
 | []=>1
 | a :: r=>a*wI r
theorem yp:∀{l:List Nat},(∀a∈l,0 < a)->0 < wI l
 | [],_=>Nat.one_pos
 | a :: r,h=>bx (h a (.head _)) (yp λb hb=>h b (.tail _ hb))
theorem yq:∀{l:List Nat} {a:Nat},a∈l->a∣wI l
 | b :: r,a,h=>by
  rcases aM.mp h with rfl | h
  ·show pL ..
  ·show xK (yq h) (dC ..)
theorem AA {k:Nat}:∀{l:List Nat},(∀a∈l,a<=2^k)->wI l<=2^(k*l.9)
 | [],_=>by simp [wI]
 | a :: r,h=>by
  rw[bI,Nat.mul_succ,aV,cB (2^(k*r.9))];show aE (h a (.head _)) (AA λb hb=>h b (.tail _ hb))
def GF (M V:Nat) (rows:Y3):Prop:=∀xs∈rows,∀x∈xs,Fr M V x
def Vf (c n i:Nat) (rows:Y3):Prop:=∃M,0 < M/\M<=2^(i*(c*n+2))/\GF M (2^(20+2*i)) rows
theorem US:Vf c n 0 []:=#[1,(),by simp,λ_ h=>nomatch h]
theorem UT (c n i:Nat):(i+1)*(c*n+2)=i*(c*n+2)+(c*n+2):=iN ..
theorem RC (h:Vf c n i rows) (hl:xs.9=n) (hd:∀x∈xs,Dr (2^c) x) (hc:c<=20):Vf c n (i+1) (rows++[xs]):=by
 obtain M|h0|h1|h2:=h
 have dp:0 < wI (xs.11 (·.den)):=yp λa ha=>by
  obtain x|_|rfl:=ao.mp ha;show x.den_pos
 have dl:wI (xs.11 (·.den))<=2^(c*n):=by
  have:=AA (k:=c) (l:=xs.11 (·.den)) λa ha=>by
   obtain x|hx|rfl:=ao.mp ha;show (hd x hx).2
  rwa [af,hl] at this
 refine #[M*wI (xs.11 (·.den)),bx h0 dp,?_,λys hy x hx=>?_]
 ·rw[UT,aV];show aE h1 (ai dl (ak () ()))
 ·rcases aA.mp hy with hy | hy
  ·show ((h2 ys hy x hx).scale _).22 (ak () ())
  ·have e:ys=xs:=by simpa using hy
   subst e;have f:Fr x.52 (2^c) x:=Fr.own x (hd x hx).1;have g:=(f.dvd (yq (ao.mpr #[x,hx,rfl])))._l M;show g.mono (ak () ())
def aK (rows:Y3) (w:Nat):Y3:=(W0 w).11 λj=>rows.11 λxs=>xs.3 j 0
def iY (one other:Y3) (w:Nat):Y3:=one.11 λxs=>(aK other w).11 λys=>bT ys xs
theorem aU:(aK rows w).9=w:=by simp [aK]
theorem eJ:∀ys∈aK rows w,ys.9=rows.9:=λys hy=>by
 obtain j|_|rfl:=ao.mp hy;show af ..
theorem getD_map {α:Type} {l:List α} {f:α->Rat} (h:i < l.9):(l.11 f).3 i 0=f l[i]:=by
 rw[aa,az,ae h];rfl
theorem Cw (h:∀xs∈rows,xs.9=w):aK (aK rows w) rows.9=rows:=by
 apply cU
 ·show aU
 ·intro i h1 h2;have e:(aK (aK rows w) rows.9)[i]=(aK rows w).11 λxs=>xs.3 i 0:=by simp [aK]
  rw[e];have hw:=h rows[i] (aB h2);apply cU
  ·rw[af,aU,hw]
  ·intro j h3 h4;rw[gY];have e2:(aK rows w)[j]'(by rw[aU];lia)=rows.11 λxs=>xs.3 j 0:=by simp [aK]
   rw[e2,getD_map h2,aa,ae h4];rfl
end Nm
namespace L2
open PySem PySem.Spec PyProof.Rows Nm
theorem di.sqt {K:Y2} (u:di b H H') (B:jE H b) (h:nD K H a xs):nD K H' a xs:=by
 rcases h with (h | ⟨o,h⟩) | h
 ·show .inl (.inl (u.tup B h))
 ·show .inl (.inr #[o,u.37 (λz=>by obtain _|_|_|_|_|e|_:=B;rw[z,e] at h;cases h) h])
 ·show .inr h
theorem NH {K:Y2} (h:nD K H a xs) (hl:H l=some (.lst ys)):nD K (upd H l o) a xs:=by
 rcases h with (h | ⟨o,h⟩) | h
 ·show .inl (.inl (by rw[bK λz=>by rw[z,hl] at h;cases h];show h))
 ·show .inl (.inr #[o,by rw[bK λz=>by rw[z,hl] at h;cases h];show h])
 ·show .inr h
def cG (K:Y2) (H:Hp) (q:Rat) (x:V):Prop:=Iv K H x (nm q)
section
variable {K:Y2} {H H':Hp} {q:Rat} {x:V} {b l p:Addr} {qs:List Rat}
theorem cG.same (h:cG K H q x) (e:aL H H'):cG K H' q x:=e.num h
theorem cG.Y7 (h:cG K H q x) (u:di b H H') (B:jE H b):cG K H' q x:=by obtain p|e|s:=h;show #[p,e,u.sqt B s]
theorem cG.Zc (h:cG K H q x) (hl:H l=some (.lst ys)):cG K (upd H l o) q x:=by obtain p|e|s:=h;show #[p,e,NH s hl]
theorem cG.mk (h:H r=some (.tup [.int a,.int c])) (e:(a,c)=nm q):cG K H q (.ref r):=#[r,rfl,by rw[<- e];show nD.of h]
def dS (K:Y2) (H:Hp) (p:Addr) (qs:List Rat):Prop:=∃xs,H p=some (.lst xs)/\Xw (cG K H) qs xs
theorem dS.same (h:dS K H p qs) (e:aL H H'):dS K H' p qs:=by obtain xs|g|r:=h;show #[xs,e _ _ g,bv (λ_ _ z=>z.10 e) r]
theorem dS.Y7 (h:dS K H p qs) (u:di b H H') (B:jE H b) (n:p≠b):dS K H' p qs:=by obtain xs|g|r:=h;show #[xs,u.37 n g,bv (λ_ _ z=>z.Y7 u B) r]
theorem dS.Zc (h:dS K H p qs) (hl:H l=some (.lst ys)) (n:p≠l):dS K (upd H l o) p qs:=by obtain xs|g|r:=h;show #[xs,by rw[bK n];show g,bv (λ_ _ z=>z.Zc hl) r]
theorem zd {F:α->β->Prop} {f:γ->α}:∀{l:List γ} {l2:List β},Xw (λc x=>F (f c) x) l l2->Xw F (l.11 f) l2:=by
 intro l l2 p
 induction p with
 | nil=>show .nil
 | cons r t ih=>show .cons r ih
theorem dS._W (h:dS K H p qs):Fx K H p (qs.11 nm):=by obtain xs|g|r:=h;show #[xs,g,zd (F:=λn x=>Iv K H x n) r]
def cR (K:Y2) (H0 H:Hp) (qs:List Rat) (x:V):Prop:=∃q,x=V.ref q/\H0 q=none/\dS K H q qs
def bw (K:Y2) (H0 H:Hp) (p:Addr) (rows:Y3):Prop:=∃xs,H p=some (.lst xs)/\Xw (cR K H0 H) rows xs/\V.ref p∉xs
theorem fW {rows:Y3} (h:∃H2,H2 p=none/\Xw (cR K H0 H2) rows ys):V.ref p∉ys:=λhm=>by
 obtain H2|e|pr:=h;obtain qs|_|q|z|_|xs|g|_:=dE pr hm;cases z;rw[e] at g;cases g
variable {H0:Hp} {rows:Y3}
theorem cR.same (h:cR K H0 H qs x) (e:aL H H'):cR K H0 H' qs x:=by obtain q|a|b|c:=h;show #[q,a,b,c.10 e]
theorem cR.Y7 (h:cR K H0 H qs x) (u:di b H H') (B:jE H b) (nb:H0 b≠none):cR K H0 H' qs x:=by obtain q|a|c|d:=h;show #[q,a,c,d.Y7 u B λz=>nb (by rw[<- z];show c)]
theorem cR.weak (h:cR K H0 H qs x) (e:aL H1 H0):cR K H1 H qs x:=by obtain q|a|b|c:=h;show #[q,a,e.17 b,c]
theorem bw.same (h:bw K H0 H p rows) (e:aL H H'):bw K H0 H' p rows:=by obtain xs|g|r|n:=h;show #[xs,e _ _ g,bv (λ_ _ z=>z.10 e) r,n]
theorem bw.Y7 (h:bw K H0 H p rows) (u:di b H H') (B:jE H b) (n:p≠b) (nb:H0 b≠none):bw K H0 H' p rows:=by obtain xs|g|r|nn:=h;show #[xs,u.37 n g,bv (λ_ _ z=>z.Y7 u B nb) r,nn]
theorem bw.weak (h:bw K H0 H p rows) (e:aL H1 H0):bw K H1 H p rows:=by obtain xs|g|r|n:=h;show #[xs,g,bv (λ_ _ z=>z.47 e) r,n]
theorem bw.y! (h:bw K H0 H p rows):Tr K H p (rows.11 (XT nm)):=by obtain xs|g|r|_:=h;show #[xs,g,zd (F:=λns x=>∃q,x=V.ref q/\Fx K H q ns) (bv (λ_ _ #[q,a,_,c]=>#[q,a,c._W]) r)]
end
def ON:Kind Rat:=Wh.via nm (λ_ _ e=>UH e) (λK H x q=>cG K H q x) id
def Ta:Kind (List Rat):=Mh ON
def oN:Kind (Y3):=Mh Ta
theorem dS.kind {K:Y2} (h:dS K H p qs):Ta.R K H (.ref p) qs:=by obtain xs|g|q:=h;show #[p,xs,rfl,bY.of g,q]
theorem bw.kind {K:Y2} (h:bw K H0 H p rows):oN.R K H (.ref p) rows:=by obtain xs|g|q|_:=h;show #[p,xs,rfl,bY.of g,bv (λ_ _ #[q,a,_,c]=>by rw[a];show c.30) q]
def oY (x:Rat):Prop:=Sz 16000000 (nm x).1/\Sz 16000000 (nm x).2
def Fits (l:List Rat):Prop:=∃M V:Nat,0 < M/\M<=2^900/\V<=2^900/\∀x∈l,Fr M V x
theorem Fits.szn (h:Fits l) (hx:x∈l):oY x:=by
 obtain M|V|h0|h1|h2|h3:=h;obtain a|b:=(h3 x hx).sz h0 h1 h2;show #[a.22 (),b.22 ()]
theorem Fits.ok (h:Fits l) (hx:x∈l):vh (nm x):=#[ja x,El x,(h.szn hx).1.mono (),(h.szn hx).2.mono ()]
theorem JC {M V:Nat} (h0:0 < M) (h1:M<=2^1800) (h2:V<=2^1810) (h:Fr M V x):oY x:=by
 obtain a|b:=h.sz h0 h1 h2;show #[a.22 (),b.22 ()]
theorem qN (h:oY x):vh (nm x):=#[ja x,El x,h.1.22 (),h.2.22 ()]
inductive qP (K:Y2) (f:Rat->Rat->Rat) (vs:List V) (H:Hp) (Q:VK) (E9:XK):Prop
 | mk (u v:V) (x y:Rat):vs=[u,v]->cG K H x u->cG K H y v->oY x->oY y->(∀r H',aL H H'->cG K H' (f x y) (.ref r)->Q (.ref r) H')->qP K f vs H Q E9
section
variable {K:Y2}
theorem Jj (hf:∀x y:Rat,(f x y)*(((nm x).2*(nm y).2:Int):Rat)=((F (nm x).1 (nm x).2 (nm y).1 (nm y).2:Int):Rat)) (h:qP K f vs H Q E):KJ K F vs H Q E:=by
 obtain u|v|x|y|rfl|⟨p,rfl,hp⟩|⟨q,rfl,hq⟩|⟨s1,s2⟩|⟨s3,s4⟩|k:=h;refine #[p,q,_,_,_,_,rfl,hp,hq,ja x,ja y,s1,s2,s3,s4,λr H' s g=>k r H' s (cG.mk g ?_)];show rZ (jU (ja x) (ja y)) (hf x y)
theorem rR (x:Rat):(((nm x).1:Int):Rat)=x*(((nm x).2:Int):Rat):=by
 change (x.num:Rat)=x*(((x.52:Nat):Int):Rat)
 rw[nL,bu]
theorem Lv (h:qP K (λx y=>x+y) vs H Q E):KJ K Tg vs H Q E:=Jj (λx y=>by
 unfold Tg;rw[Bw,a9,a9,a9,rR,rR];grind) h
theorem zO (h:qP K (λx y=>x - y) vs H Q E):KJ K Pb vs H Q E:=Jj (λx y=>by
 unfold Pb;rw[Bv,a9,a9,a9,rR,rR];grind) h
theorem K9 (h:qP K (λx y=>x*y) vs H Q E):KJ K Pa vs H Q E:=Jj (λx y=>by
 unfold Pa;rw[a9,a9,rR,rR];grind) h
end
def J7 (M:Int) (ns:List (Int×Int)):Prop:=0 < M/\Sz 17600000 M/\∀n∈ns,0 < n.2/\n.2∣M/\Sz 17600000 n.1
theorem J7.bot (h:J7 M ns):0 < iT ns/\Sz 17600000 (iT ns):=by
 have hb:∀b∈ns.11 (·.2),0 < b/\b∣M:=λb hb=>by
  obtain n|hn|rfl:=ao.mp hb;show #[(h.2.2 n hn).1,(h.2.2 n hn).2.1]
 show #[AZ () λb q=>(hb b q).1,EG h.1 (zW () (Int.one_dvd _) hb) h.2.1]
inductive NL (K:Y2) (vs:List V) (H:Hp) (Q:VK) (E9:XK):Prop
 | mk (p:Addr) (bs:List Int) (M:Int):vs=[.ref p]->bY K H p (bs.11 V.int)->0 < M->Sz 17600000 M->((∀b∈bs,0 < b/\b∣M))->Q (.int (yE bs 1)) H->NL K vs H Q E9
inductive NM (K:Y2) (vs:List V) (H:Hp) (Q:VK) (E9:XK):Prop
 | mk (p:Addr) (ns:List (Int×Int)) (M:Int):vs=[.ref p]->Fx K H p ns->ns.9<=1000->J7 M ns->(∀H',aL H H'->Q (.int (iT ns)) H')->NM K vs H Q E9
inductive FQ (K:Y2) (vs:List V) (H:Hp) (Q:VK) (E9:XK):Prop
 | mk (p:Addr) (ns:List (Int×Int)) (M:Int) (B:Int):vs=[.ref p,.int B]->Fx K H p ns->ns.9<=1000->J7 M ns->0 < B->Sz 17600000 B->(∀r H',H r=none->aL H H'->H' r=some (.lst ((gE ns B).11 V.int))->Q (.ref r) H')->FQ K vs H Q E9
theorem FI (h:J7 M ns) (hB:0 < B) (sB:Sz 17600000 B) (ht:t∈gE ns B):Sz 35200000 t:=by
 obtain n|hn|rfl:=ao.mp ht;have hp:=h.2.2 n hn
 have sq:Sz 17600000 (B / n.2):=sB.le (by
  rw[Vk ()];show Nat.div_le_self ..)
 show (hp.2.2.mul sq).22 ()
theorem sX (h:(nm x).2∣B):(((nm x).1*(B / (nm x).2):Int):Rat)=x*(B:Rat):=by
 obtain k|rfl:=h;have hp:=ja x;rw[Int.mul_ediv_cancel_left _ (),a9,a9,rR];grind
theorem Ho {B C:Int}:∀{xs ys:List Rat},(∀x∈xs,(nm x).2∣B)->(∀y∈ys,(nm y).2∣C)->(((XI (λx y=>x*y) (gE (xs.11 nm) B) (gE (ys.11 nm) C)).sum:Int):Rat)=bT xs ys*((B:Rat)*(C:Rat))
 | [],ys,_,_=>by simp [gE,bT]
 | x :: xs,[],_,_=>by simp [gE,bT]
 | x :: xs,y :: ys,h1,h2=>by
  have ih:=Ho (B:=B) (C:=C) (xs:=xs) (ys:=ys) (λz hz=>h1 z (.tail _ hz)) (λz hz=>h2 z (.tail _ hz));have e1:=sX (h1 x (.head _));have e2:=sX (h2 y (.head _));have e3:(XI (λx y=>x*y) (gE ((x :: xs).11 nm) B) (gE ((y :: ys).11 nm) C)).sum=((nm x).1*(B / (nm x).2))*((nm y).1*(C / (nm y).2))+(XI (λx y=>x*y) (gE (xs.11 nm) B) (gE (ys.11 nm) C)).sum:=rfl;have e4:bT (x :: xs) (y :: ys)=x*y+bT xs ys:=rfl;rw[e3,e4,Bw,a9,ih,e1,e2];grind
theorem RS (h1:0 < iT (xs.11 nm)) (h2:0 < iT (ys.11 nm)):(lo (Pk (xs.11 nm) (ys.11 nm)) (iT (xs.11 nm)*iT (ys.11 nm)),hi (Pk (xs.11 nm) (ys.11 nm)) (iT (xs.11 nm)*iT (ys.11 nm)))=nm (bT xs ys):=by
 refine rZ (jU h1 h2) ?_;unfold Pk;rw[Ho (λx hx=>qH (ao.mpr #[x,hx,rfl])) (λx hx=>qH (ao.mpr #[x,hx,rfl])),a9]
inductive FP (K:Y2) (vs:List V) (H:Hp) (Q:VK) (E9:XK):Prop
 | mk (p:Addr) (w:Nat) (H0:Hp) (rows:Y3):vs=[.ref p,.int w]->bw K H0 H p rows->rows.9<=1000->w<=1000->(∀xs∈rows,xs.9=w)->(∀r H',H r=none->aL H H'->bw K H H' r (aK rows w)->Q (.ref r) H')->FP K vs H Q E9
def ie (m:Nat) (a:Int):List Rat:=(W0 m).11 λ(i:Nat)=>if ((i:Nat):Int)=a then 1 else 0
def cE (m:Nat):Y3:=(W0 m).11 λ(i:Nat)=>ie m i
inductive FO (K:Y2) (vs:List V) (H:Hp) (Q:VK) (E9:XK):Prop
 | mk (m:Nat) (a:Int):vs=[.int m,.int a]->m<=1000->(∀r H',H r=none->aL H H'->dS K H' r (ie m a)->Q (.ref r) H')->FO K vs H Q E9
def LP (K:Y2):Sp:=λvs H Q _=>∃m:Nat,vs=[.int m]/\m<=1000/\∀r H',H r=none->aL H H'->bw K H H' r (cE m)->Q (.ref r) H'
inductive Ag (K:Y2) (vs:List V) (H:Hp) (Q:VK) (E9:XK):Prop
 | mk (b:Addr) (w:Nat):vs=[.ref b,.int w]->jE H b->1<=w->w<=1000000->(∀r x H',Dr (max w 6) x->cG K H' x (.ref r)->jE H' b->di b H H'->Q (.ref r) H')->Ag K vs H Q E9
inductive F4 (K:Y2) (vs:List V) (H:Hp) (Q:VK) (E9:XK):Prop
 | mk (b:Addr) (m w:Nat):vs=[.ref b,.int m,.int w]->jE H b->m<=1000->1<=w->w<=1000000->(∀r xs H',H r=none->dS K H' r xs->xs.9=m->(∀x∈xs,Dr (max w 6) x)->jE H' b->di b H H'->Q (.ref r) H')->F4 K vs H Q E9
inductive FU (K:Y2) (vs:List V) (H:Hp) (Q:VK) (E9:XK):Prop
 | mk (p q:Addr) (xs ys:List Rat):vs=[.ref p,.ref q]->dS K H p xs->dS K H q ys->ys.9=xs.9->xs.9<=1000->(∀x∈xs,oY x)->(∀y∈ys,oY y)->(∀r H',H r=none->aL H H'->dS K H' r (XI (λx y=>x+y) xs ys)->Q (.ref r) H')->FU K vs H Q E9
inductive NO (K:Y2) (vs:List V) (H:Hp) (Q:VK) (E9:XK):Prop
 | mk (u:V) (q:Addr) (c:Rat) (ys:List Rat):vs=[u,.ref q]->cG K H c u->oY c->dS K H q ys->ys.9<=1000->(∀y∈ys,oY y)->(∀r H',H r=none->aL H H'->dS K H' r (ys.11 λy=>c*y)->Q (.ref r) H')->NO K vs H Q E9
inductive Al (K:Y2) (vs:List V) (H:Hp) (Q:VK) (E9:XK):Prop
 | mk (p:Addr) (H0:Hp) (rows:Y3):vs=[.ref p]->bw K H0 H p rows->rows.9<=1000->(∀xs∈rows,xs.9<=1000)->(∀r H',H r=none->aL H H'->bw K H H' r rows->Q (.ref r) H')->Al K vs H Q E9
section
variable {K:Y2} {g:TG}
theorem cP {F:Hp->α->V->Prop} (G:Hp->β->V->Prop) (f:α->β) (hx:H a=some (.lst xs)) (pf:Xw (F H) as xs) (hl:as.9<=1000)
  (hF:∀{H H' c x},F H c x->aL H H'->F H' c x) (hG:∀{H H' c x},G H c x->aL H H'->G H' c x)
  (hs:∀(i:Nat) c x H' NY NN,as[i]?=some c->aL H H'->F H' c x->(∀y H2,aL H' H2->G H2 (f c) y->NY y H2)->sZ σ₀ g tf te x H' NY NN)
  (hd:∀ys H' p,H p=none->aL H H'->H' p=some (.lst ys)->Xw (G H') (as.11 f) ys->(∃H2,H2 p=none/\Xw (G H2) (as.11 f) ys)->Q (.ref p) H'):uD (Ss K a) σ₀ g tf te Q H:=by
 have lx:=pf.9;refine d9 (K:=K) (xs:=xs) (λi ys H'=>aL H H'/\Xw (G H') ((as.18 i).11 f) ys) kX #[aL.refl _,.nil] (λi ys H' _ #[s,_]=>bY.of (s _ _ hx)) ?_ ?_
 ·rintro i x ys H' Y6 Za ⟨s,pr⟩;obtain c|ec|hc:=dd pf Y6;refine hs i c x H' _ _ ec s (hF hc s) λy H2 s2 gy=>#[s.4 s2,?_]
  rw[take_snoc ec,bo];show cf (bv (λ_ _ z=>hG z s2) pr) (.cons gy .nil)
 ·rintro ys H' hy ⟨s,pr⟩ p hp;rw[aJ ()] at pr;show hd ys _ p (s.17 hp) (s.4 (aL.new hp)) aN (bv (λ_ _ z=>hG z (aL.new hp)) pr) #[H',hp,pr]
theorem iE (G:Hp->β->V->Prop) (f:Nat->β) (hl:n<=1000) (hG:∀{H H' c x},G H c x->aL H H'->G H' c x)
  (hs:∀(i:Nat) H' NY NN,i < n->aL H H'->(∀y H2,aL H' H2->G H2 (f i) y->NY y H2)->sZ σ₀ g tf te (.int i) H' NY NN)
  (hd:∀ys H' p,H p=none->aL H H'->H' p=some (.lst ys)->Xw (G H') ((W0 n).11 f) ys->(∃H2,H2 p=none/\Xw (G H2) ((W0 n).11 f) ys)->Q (.ref p) H'):uD (IC 0 n) σ₀ g tf te Q H:=by
 refine oS (λi ys H'=>aL H H'/\Xw (G H') ((W0 i).11 f) ys) kX #[aL.refl _,.nil] ?_ ?_
 ·rintro i ys H' hi Za ⟨s,pr⟩;rw[uP];refine hs i H' _ _ hi s λy H2 s2 gy=>#[s.4 s2,?_]
  rw[ky,bo];show cf (bv (λ_ _ z=>hG z s2) pr) (.cons gy .nil)
 ·rintro ys H' hy ⟨s,pr⟩ p hp;show hd ys _ p (s.17 hp) (s.4 (aL.new hp)) aN (bv (λ_ _ z=>hG z (aL.new hp)) pr) #[H',hp,pr]
theorem yQ (G:Hp->β->V->Prop) (C:β->Prop) (hB:jE H b) (hl:n<=1000) (hG:∀{H' _H c x},G H' c x->di b H' _H->jE H' b->G _H c x)
  (hs:∀(i:Nat) H' NY NN,i < n->di b H H'->jE H' b->(∀y c H2,di b H' H2->jE H2 b->C c->G H2 c y->NY y H2)->sZ σ₀ g tf te (.int i) H' NY NN)
  (hd:∀ys cs H' p,H p=none->di b H H'->jE H' b->H' p=some (.lst ys)->cs.9=n->(∀c∈cs,C c)->Xw (G H') cs ys->(∃H2,H2 p=none/\Xw (G H2) cs ys)->Q (.ref p) H'):uD (IC 0 n) σ₀ g tf te Q H:=by
 refine oS (λi ys H'=>di b H H'/\jE H' b/\∃cs,cs.9=i/\(∀c∈cs,C c)/\Xw (G H') cs ys) kX #[(aL.refl _).Y7,hB,[],rfl,(λ_ z=>nomatch z),.nil] ?_ ?_
 ·rintro i ys H' hi Za ⟨u,B,cs,lc,hc,pr⟩;rw[uP];refine hs i H' _ _ hi u B λy c H2 u2 B2 cc gy=>#[u.4 u2,B2,cs++[c],by simp [lc],Fc hc cc,cf (bv (λ_ _ z=>hG z u2 B) pr) (.cons gy .nil)]
 ·rintro ys H' hy ⟨u,B,cs,lc,hc,pr⟩ p hp;have s:aL H' (upd H' p (.lst ys)):=aL.new hp;show hd ys cs _ p (u.17 B hp) (u.10 s) (B.10 s) aN lc hc (bv (λ_ _ z=>hG z s.Y7 B) pr) #[H',hp,pr]
end
theorem dM {g:TG} {tb:TS} {D:Ends} (Pv:Nat->St->Hp->Prop) (h0:Pv 0 σ H)
  (hs:∀(i:Nat) σ H,i < n->Pv i σ H->g (.int i) σ H λσ2 H2=>tb { D with nx:=Pv (i+1),ct:=Pv (i+1),bk:=D.nx } σ2 H2) (hd:∀σ H,Pv n σ H->D.nx σ H) :
  ∃W:Nat->Nat->St->Hp->Prop,(∃m,W 0 m σ H)/\∀i m σ H,W i m σ H →
   ((IC 0 n).stop i H/\D.nx σ H)\/((IC 0 n).go i H/\∃N:St->Hp->Prop,(∀σ' H',N σ' H'->∃m',m' < m/\W (i+1) m' σ' H')/\∀x H',(IC 0 n).F! i H x H'->g x σ H' λσ2 H2=>tb { D with nx:=N,ct:=N,bk:=D.nx } σ2 H2) :=
 C4 (lo:=0) Pv h0 (λi σ H hi p=>by rw[uP];show hs i σ H hi p) hd
theorem qF:qJ X (.type "int") (λxs H Q=>∃b:Bool,xs=[.bl b]/\Q (.int (if b=true then 1 else 0)) H):=by
 intro YZ s σ H xs us Q I r h;obtain b|rfl|q:=h;obtain u|rfl|ru:=vals1 r;cases ru;show call_int_bool #[.int _,H,I.tok _,#[_,rfl],q]
theorem Ce (K:Y2) (hK:X.K=K):qJ X (.builtin "len") (λxs H Q=>∃p ys,xs=[.ref p]/\(bY K H p ys\/nD K H p ys)/\Q (.int ys.9) H):=by subst hK;show aY
theorem KU {st:Stmt}:PS X st (λ_ _ _=>False):=λ_ _ _ _ _ _ h=>h.elim
theorem OI {t b:Int} (hb:0 < b) (h1:t.15<=W) (h2:b.15<=W):∃q:Rat,(lo t b,hi t b)=nm q/\Dr W q/\q*(b:Rat)=(t:Rat):=by
 have _N:(b:Rat)≠0:=λz=>by have:=zm.mp z;lia
 have e:(t:Rat) / (b:Rat)*(b:Rat)=t:=ID _N;have h:=rZ hb e;refine #[_,h,#[?_,?_],e]
 ·have:=congrArg Prod.fst h;have z:=lo_le (t:=t) (b:=b) ();change ((nm ((t:Rat) / (b:Rat))).1).15<=W
  rw[<- this];show ai z h1
 ·have:=congrArg Prod.snd h;have z:=Te (t:=t) (b:=b) ();have hd:(((t:Rat) / (b:Rat)).52:Int)=hi t b:=this.19;have hp:=Ey (t:=t) hb
  lia
theorem GW {K:Y2} (h:Xw (cG K H) qs xs) (hj:j < qs.9):∃v,JR xs (j:Int)=some v/\cG K H (qs.3 j 0) v:=by
 have hl:=h.9;refine #[xs[j]'(),fw (by simp),?_];have:=l5 h (i:=j) hj ();rwa [aa,ae hj]
theorem C7 {xs ys:List Rat} (h1:i < xs.9) (h2:i < ys.9):bT (xs.18 (i+1)) (ys.18 (i+1))=bT (xs.18 i) (ys.18 i)+xs.3 i 0*ys.3 i 0:=by
 have e1:xs[i]?=some (xs.3 i 0):=by rw[aa,ae h1];rfl
 have e2:ys[i]?=some (ys.3 i 0):=by rw[aa,ae h2];rfl
 unfold bT;rw[take_snoc e1,take_snoc e2,List.zipWith_append (by simp;lia),List.sum_append];simp [jW]
theorem getD_mem {xs:List Rat} (h:i < xs.9):xs.3 i 0∈xs:=by
 rw[aa,ae h];show aB h
theorem Ct {xs ys:List Rat} (h:ys.9=xs.9):XI (λx y=>x+y) xs ys=(W0 xs.9).11 λi=>xs.3 i 0+ys.3 i 0:=by
 apply lE;intro i;rw[cL,az];by_cases hi:i < xs.9
 ·rw[bW hi,ae hi,ae (show i < ys.9 by lia)];simp [aa,ae hi,ae (show i < ys.9 by lia)]
 ·rw[aF (show (W0 xs.9).9<=i by simp;lia),aF (show xs.9<=i by lia)];rfl
theorem cR.Zc {K:Y2} (h:cR K H0 H qs x) (hl:H l=some (.lst ys)) (nl:H0 l≠none):cR K H0 (upd H l o) qs x:=by obtain q|a|b|c:=h;show #[q,a,b,c.Zc hl λz=>nl (by rw[<- z];show b)]
theorem jE.at (B:jE H b):H b≠none:=by obtain _|_|_|_|_|e|_:=B;rw[e];simp
theorem Inner.at (B:jE H b) (i:Inner H b q):H q≠none:=by
 obtain q'|i'|xs|e:=B.inner;rw[<- Inner.inj i' i,e];simp
theorem fI {F:α->β->Prop} {l1:List α} {l2:List β} (h:Xw F l1 l2) (hi:i < l1.9):∃x y,l1[i]?=some x/\l2[i]?=some y/\x∈l1/\F x y:=by
 have hl:=h.9;show #[l1[i],l2[i]'(),by simp,by simp,aB _,l5 h hi ()]
theorem E7 (h1:-(2^64) < i) (h2:i < 2^64):hZ i j:=.inl (.inl #[h1,h2])
theorem Sb (h1:-(2^64) < j) (h2:j < 2^64):hZ i j:=.inl (.inr #[h1,h2])
def Ve (K : Y2) (l : Addr) : It :=
  #[λi H => ∃ xs x, bY K H l xs /\ xs[i]? = some x,
   λi H v H' => ∃ p x, v = .ref p /\ H p = none /\ H' = upd H p (.tup [.int i, x]) /\ ∀ xs, bY K H l xs → xs[i]? = some x,
   λi H => ∃ xs, bY K H l xs /\ xs.9 ≤ i]
def tnE (e it l:Addr) (i:Nat) (h:Heap):Prop:=(∃old,IsEnum h e it i old)/\h.24 it l i
theorem LN {P:Yl} {w:Yq} {K:Y2} {elts:List Expr} {kk:Nat} {ZV:Pos} (e it l:Addr) (hei:e≠it):Turn P w K (.Tuple elts kk ZV) (Ve K l) [e,it] e (tnE e it l) where
 mem:=by simp
 obj:=λi h st b hb=>by
  obtain ⟨old,he⟩|⟨o1,g1,c1,d1⟩:=st;simp only[aM,bf,or_false] at hb;rcases hb with rfl | rfl
  ·show #[_,he,λv q=>nomatch q]
  ·show #[o1,g1,λv q=>by rw[d1] at q;cases q]
 keep:=λi h h' st k=>by
  obtain ⟨old,he⟩|h1:=st;show #[#[old,k e (by simp) _ he],h1.at λo q=>k it (by simp) o q]
 item:=by
  intro X hP hw hK hc i YZ s σ H E I hf st hg;subst hP hw hK;obtain ⟨old,he⟩|h1:=st;obtain xs|x|qx|ex:=hg;obtain us|rx|px|_:=I.31 qx;obtain u|eu|ru:=rx.get ex;refine wpAny_pyNext_enum_item he h1 px.20 (x:=u) (by simpa using eu) hei λh' a1 a2 a3 a4 hk=>?_
  refine #[_,rfl,wpAny_letOwnedTupleGo_enum a1 λh'' agw hs=>?_];have hT0:H s.6=none:=I.Zb.42 (aj _);have ene:s.6≠e:=LC (XB he)
  have up:∀b o,b∉[e,it]->s.heap.14 b=some o->h''.14 b=some o:=λb o hb q=>by
   simp only[aM,bf,or_false,not_or] at hb;show (hs.2 b hb.1).4 (hk b o hb.1 hb.2 q)
  have tup:h''.14 s.6=some { cls:=.type "tuple",data:=.seq [.int i s.26,u].12 }:=(hs.2 _ ene).4 a3;have I1:Inv X YZ σ H { s with heap:=h'',toks:=s.26+1 }:=I.moved (g':=s.gens) (d':=s.drawn) (t':=s.26+1) (ch:=[e,it]) hf up I.57;have fT:my X YZ H s.6:=I._r (aj _) hT0;have I2:=I1.k! (o:=.tup [.int i,x]) fT #[kC rfl,[.int i s.26,u],.cons #[_,rfl] (.cons ru .nil),#[_,tup,rfl,_,rfl]];refine #[.ref s.6,_,I2,rfl,#[_,x,rfl,hT0,rfl,λxs' q=>by rw[I.Zk q qx];show ex],?_,λb hb=>?_]
  ·show #[#[_,by simpa using agw],a2.at λo q=>(hs.2 _ hei.19).4 q]
  ·rw[bK]
   ·show (hf b hb).1
   ·obtain o1|g1|_:=h1;simp only[aM,bf,or_false] at hb;rcases hb with rfl | rfl
    ·show ene.19
    ·show c5 (XB g1)
 done:=by
  intro X hP hw hK hc i YZ s σ H E I hf st hg;subst hP hw hK;obtain ⟨old,he⟩|h1:=st;obtain xs|qx|acZ:=hg;obtain us|rx|px|_:=I.31 qx;have lx:=rx.9;refine wpAny_pyNext_enum_end (I.ok.hd hc) he h1 px.20 (by simp;lia) λh' hk=>#[rfl,?_]
  show I.moved (g':=s.gens) (d':=s.drawn) (t':=s.26) (ch:=[e,it]) hf (λb o hb q=>hk b o (λz=>hb (by simp [z])) q) I.57
 self:=λ_ _ _ _ _ st h=>let ⟨⟨_,he⟩,_⟩:=st;wpAny_pyIter_enum he h
section
variable {X:Cx}
def Td (K:Y2) (ta:TA):TI:=λσ H R=>ta σ H λvs H1=>∃l,vs=[.ref l]/\(∃xs,bY K H1 l xs)/\R (Ve K l) H1
theorem KZ {a:Expr} {ta:TA} {p pos ZV:Pos} {elts:List Expr} {kk:Nat} (hg:Gl X "enumerate") (hm:X.mg "enumerate"=none) (ha:PA X [a] ta) (hs:Xy [a] X.16=[(false,eval a X.16)]:=by rfl) :
  PI X (.Tuple elts kk ZV) (.Call (.Name "enumerate" p) [a] [] pos) (Td X.K ta):=by
 intro YZ s σ H R I h;refine Call_ (kY I hg hm boot_enumerate (XJ (iq (ha pos YZ s σ H _ I h) λus s1 hz=>?_) (by rw[hs];rfl) rfl));obtain vs|H1|I1|r1|q1:=hz;obtain l|e|⟨xs,qx⟩|q:=q1;subst e;obtain u|rfl|ru:=vals1 r1;cases ru;obtain us|rx|px|_:=I1.31 qx;refine call_enumerate_list px.20 λh' a1 a2 a3 hk=>wpAny_pyIter_enum a1 ?_
 have I2:Inv X YZ σ H1 { s1 with heap:=h' }:=I1.59 (t':=s1.26) hk;refine #[_,[s1.6+1,s1.6],_,_,H1,rfl,I2,LN (s1.6+1) s1.heap.objs.39 l (Nat.succ_ne_self _),#[#[_,a1],a2],λb hb=>?_,q]
 have _N:s1.6<=b:=by
  simp only[aM,bf,or_false] at hb;rcases hb with rfl | rfl <;> first | show lG _ | show aj _
 show I1._r _N (I1.Zb.42 _N)
end
theorem Oc {K:Y2} (h:ta σ H λvs H1=>∃l,vs=[.ref l]/\(∃xs,bY K H1 l xs)/\R (Ve K l) H1):Td K ta σ H R:=h
theorem O8 {K:Y2} {g:TG} {tb:TS} {D:Ends} (Pv:Nat->St->Hp->Prop) (h0:Pv 0 σ H) (hl:∀i σ H,i<=xs.9->Pv i σ H->bY K H l xs)
  (hs:∀i x σ H p,xs[i]?=some x->Pv i σ H->H p=none->g (.ref p) σ (upd H p (.tup [.int i,x])) λσ2 H2=>tb { D with nx:=Pv (i+1),ct:=Pv (i+1),bk:=D.nx } σ2 H2) (hd:∀σ H,Pv xs.9 σ H->D.nx σ H) :
  ∃W:Nat->Nat->St->Hp->Prop,(∃m,W 0 m σ H)/\∀i m σ H,W i m σ H →
   ((Ve K l).stop i H/\D.nx σ H)\/((Ve K l).go i H/\∃N:St->Hp->Prop,(∀σ' H',N σ' H'->∃m',m' < m/\W (i+1) m' σ' H')/\∀x H',(Ve K l).F! i H x H'->g x σ H' λσ2 H2=>tb { D with nx:=N,ct:=N,bk:=D.nx } σ2 H2):=by
 refine #[λi m σ H=>m=xs.9 - i/\i<=xs.9/\Pv i σ H,#[xs.9,by simp,bD _,h0],?_];rintro i m σ H ⟨rfl,hi,p⟩;have q1:=hl i σ H hi p;by_cases Zo:i < xs.9
 ·refine .inr #[#[xs,xs[i],q1,by simp [Zo]],Pv (i+1),λσ' H' p'=>#[xs.9 - (i+1),(),rfl,Zo,p'],λx H' y=>?_];obtain r|x'|rfl|hr|rfl|e1:=y;show hs i x' σ _ r (e1 xs q1) p hr
 ·have e:i=xs.9:=()
  subst e;show .inl #[#[xs,q1,aj _],hd σ H p]
section
variable {X:Cx}
theorem Q6 (K:Y2) {e:Expr} {f:Str} {pos:Pos} {ta:TE} (he:PE X e ta) (hb:attributeBase e f X.16 (eval e X.16)=eval e X.16) (hK:X.K=K:=by rfl):PE X (.Attribute e f pos) (TK K ta f):=by subst hK;show dq he hb
def Of (K:Y2) (C:Addr):V->Hp->VK->Prop:=λx H Q=>∃t b,vY K H x t/\YF K t (.ref C)=some b/\Q (.bl b) H
theorem UA {a:Expr} {ta:TE} {pos:Pos} {c:Str} {C:Addr} {p p2:Pos} (hg:Gl X "isinstance") (hm:X.mg "isinstance"=none) (hgc:Gl X c) (hmc:X.mg c=some (.ref C)) (ha:PE X a ta)
  (hd:(c == ("__debug__":Str))=false:=by decide) (he:Xy [a,.Name c p2] X.16=[(false,eval a X.16),(false,eval (.Name c p2) X.16)]:=by rfl)
  (_G:(backTo pos (Xy [.Name c p2] X.16)).any (·.1)=false:=by rfl) (v!:Xy [.Name c p2] X.16=[(false,eval (.Name c p2) X.16)]:=by rfl):PE X (.Call (.Name "isinstance" p) [a,.Name c p2] [] pos) (Vu (Of X.K C) ta):=by
 intro YZ s σ H Q I h;refine XY (kY I hg hm Yz ?_);have hA:PA X [a,.Name c p2] (ir ta (ir (tC (.ref C)) xP)):=fu ha (fu (ph hgc hmc rfl hd) gA v!) (by rw[he,v!])
 have hq:ir ta (ir (tC (.ref C)) xP) σ H (λvs H1=>∃x,vs=[x,.ref C]/\Of X.K C x H1 Q):=by
  change ta σ H λx H1=>∃x',[x,V.ref C]=[x',V.ref C]/\Of X.K C x' H1 Q
  have e:(λx H1=>∃x',[x,V.ref C]=[x',V.ref C]/\Of X.K C x' H1 Q)=λx H1=>Of X.K C x H1 Q:=by
   funext x H1;apply propext;constructor
   ·rintro ⟨x',e,q⟩;cases e;show q
   ·intro q;show #[x,rfl,q]
  rw[e];show h
 refine Yf (iq (hA pos YZ s σ H _ I hq) λus s1 hz=>?_) (by rw[he,v!]) _G;obtain vs|H1|I1|r1|x|e|q1:=hz;subst e;obtain u|w'|rfl|ru|rt:=vals2 r1;cases rt;obtain t|bb|ty|ek|q:=q1;show yH I1 ru ty ek λtk=>#[.bl bb,H1,I1.tok tk,rfl,q]
end
theorem Uk {K:Y2} (h:ta σ H λx H1=>∃a C dx fs v,x=.ref a/\H1 a=some (.ins C dx fs)/\Na K C/\lC K C f/\fs.13 f=some v/\Q v H1):TK K ta f σ H Q:=h
theorem Qy {K:Y2} (h:tv σ H λy H1=>ta σ H1 λx H2=>∃a C dx fs,x=.ref a/\H2 a=some (.ins C dx fs)/\Na K C/\lC K C f/\fs.9 < 1000 /\
 D.nx σ (upd H2 a (.ins C dx (cH f y fs)))):VN K ta tv f D σ H:=h
theorem QF (h:ta σ H λx H1=>∃a dx fs,x=.ref a/\H1 a=some (.ins C dx fs)/\fs.13 m=none /\
 t σ H1 λvs H2=>sp (x :: vs) H2 Q E):SI C m sp [] E ta t σ H Q:=by
 have e:(λ(x:V) H1=>∃a dx fs,x=.ref a/\H1 a=some (.ins C dx fs)/\fs.13 m=none/\t σ H1 λvs H2=>sp (x :: (vs++[])) H2 Q E)=λx H1=>∃a dx fs,x=.ref a/\H1 a=some (.ins C dx fs)/\fs.13 m=none/\t σ H1 λvs H2=>sp (x :: vs) H2 Q E:=by
  funext x H1;simp only[oj]
 change ta σ H (λ(x:V) H1=>∃a dx fs,x=.ref a/\H1 a=some (.ins C dx fs)/\fs.13 m=none/\t σ H1 λvs H2=>sp (x :: (vs++[])) H2 Q E)
 rw[e];show h
theorem QG (h:t σ H λvs H1=>∀x dx,H1 x=none->H1 dx=none->dx≠x →
 sp (.ref x :: vs) (upd (upd H1 dx (.own x)) x (.ins C dx [])) (λv H2=>v=.Ze/\Q (.ref x) H2) E):SJ C sp [] E t σ H Q:=by
 have e:(λvs (H1:Hp)=>∀x dx,H1 x=none->H1 dx=none->dx≠x->sp (.ref x :: (vs++[])) (upd (upd H1 dx (.own x)) x (.ins C dx [])) (λv H2=>v=.Ze/\Q (.ref x) H2) E)=λvs H1=>∀x dx,H1 x=none->H1 dx=none->dx≠x->sp (.ref x :: vs) (upd (upd H1 dx (.own x)) x (.ins C dx [])) (λv H2=>v=.Ze/\Q (.ref x) H2) E:=by
  funext vs H1;simp only[oj]
 change t σ H (λvs (H1:Hp)=>∀x dx,H1 x=none->H1 dx=none->dx≠x->sp (.ref x :: (vs++[])) (upd (upd H1 dx (.own x)) x (.ins C dx [])) (λv H2=>v=.Ze/\Q (.ref x) H2) E)
 rw[e];show h
def Fz (x:Addr) (H H':Hp):Prop:=∀b o,H b=some o->b≠x->H' b=some o
theorem Fz.upd:Fz x H (L2.upd H x o):=λb u h n=>by rw[bK n];show h
def vm (H:Hp) (x:Addr):Prop:=∃C dx fs,H x=some (.ins C dx fs)
section
variable {K:Y2}
theorem cG.exc (h:cG K H q v) (e:Fz x H H') (hx:vm H x):cG K H' q v:=by
 obtain C|dx|fs|hx:=hx;obtain r|er|s:=h;refine #[r,er,?_];rcases s with (h | ⟨o,h⟩) | h
 ·show .inl (.inl (e _ _ h λz=>by rw[z,hx] at h;cases h))
 ·show .inl (.inr #[o,e _ _ h λz=>by rw[z,hx] at h;cases h])
 ·show .inr h
theorem dS.exc (h:dS K H p qs) (e:Fz x H H') (hx:vm H x):dS K H' p qs:=by
 obtain xs|g|r:=h;have Y6:=hx;obtain C|dx|fs|hx:=hx;show #[xs,e _ _ g (λz=>by rw[z,hx] at g;cases g),bv (λ_ _ z=>z.exc e Y6) r]
theorem cR.exc (h:cR K H0 H qs v) (e:Fz x H H') (hx:vm H x):cR K H0 H' qs v:=by obtain q|a|b|c:=h;show #[q,a,b,c.exc e hx]
theorem bw.exc (h:bw K H0 H p rows) (e:Fz x H H') (hx:vm H x):bw K H0 H' p rows:=by
 obtain xs|g|r|n:=h;have Y6:=hx;obtain C|dx|fs|hx:=hx;show #[xs,e _ _ g (λz=>by rw[z,hx] at g;cases g),bv (λ_ _ z=>z.exc e Y6) r,n]
end
def nC (a b c:Addr) (n i o:Nat):List (Str×V):=cH "outs" (.int o) (cH "look" (.ref c) (cH "ins" (.int i) (cH "put" (.ref b) (cH "states" (.int n) (cH "move" (.ref a) [])))))
theorem Ny:(nC a b c n i o).13 ("outs":Str)=some (.int o):=by
 unfold nC;rw[bJ,if_pos rfl]
theorem td:(nC a b c n i o).13 ("look":Str)=some (.ref c):=by
 unfold nC;rw[bJ,if_neg (by decide +kernel),bJ,if_pos rfl]
theorem Qh:(nC a b c n i o).13 ("ins":Str)=some (.int i):=by
 unfold nC;rw[bJ,if_neg (by decide +kernel),bJ,if_neg (by decide +kernel),bJ,if_pos rfl]
theorem uG:(nC a b c n i o).13 ("put":Str)=some (.ref b):=by
 unfold nC;rw[bJ,if_neg (by decide +kernel),bJ,if_neg (by decide +kernel),bJ,if_neg (by decide +kernel),bJ,if_pos rfl]
theorem fG:(nC a b c n i o).13 ("states":Str)=some (.int n):=by
 unfold nC;rw[bJ,if_neg (by decide +kernel),bJ,if_neg (by decide +kernel),bJ,if_neg (by decide +kernel),bJ,if_neg (by decide +kernel),bJ,if_pos rfl]
theorem qg:(nC a b c n i o).13 ("move":Str)=some (.ref a):=by
 unfold nC;rw[bJ,if_neg (by decide +kernel),bJ,if_neg (by decide +kernel),bJ,if_neg (by decide +kernel),bJ,if_neg (by decide +kernel),bJ,if_neg (by decide +kernel),bJ,if_pos rfl]
theorem TL {m:Str} (h1:¬m="outs") (h2:¬m="look") (h3:¬m="ins") (h4:¬m="put") (h5:¬m="states") (h6:¬m="move"):(nC a b c n i o).13 m=none:=by
 unfold nC;rw[bJ,if_neg h1,bJ,if_neg h2,bJ,if_neg h3,bJ,if_neg h4,bJ,if_neg h5,bJ,if_neg h6];rfl
theorem IQ:(nC a b c n i o).13 ("turned":Str)=none:=TL (by decide +kernel) (by decide +kernel) (by decide +kernel) (by decide +kernel) (by decide +kernel) (by decide +kernel)
theorem eX {k:Str} {v:V}:∀{l:List (Str×V)},(cH k v l).9<=l.9+1
 | []=>aj _
 | (x,y) :: r=>by
  unfold cH
  split
  ·simp
  ·have:=eX (k:=k) (v:=v) (l:=r);simp only[bI]
   lia
structure cS (mv pt lk:Y3):Prop where
 n8:mv.9<=8
 i4:pt.9<=4
 o4:lk.9<=4
 mw:∀xs∈mv,xs.9=mv.9
 pw:∀xs∈pt,xs.9=mv.9
 lw:∀xs∈lk,xs.9=mv.9
def Dl (mv pt lk:Y3):Prop:=∃M V:Nat,0 < M/\M<=2^800/\V<=2^400/\GF M V mv/\GF M V pt/\GF M V lk
def jR (K:Y2) (H0 H:Hp) (C p:Addr) (mv pt lk:Y3):Prop:=∃dx a b c,H p=some (.ins C dx (nC a b c mv.9 pt.9 lk.9))/\H0 a=none/\H0 b=none/\H0 c=none/\bw K H0 H a mv/\bw K H0 H b pt/\bw K H0 H c lk
section
variable {K:Y2}
theorem jR.same (h:jR K H0 H C p mv pt lk) (e:aL H H'):jR K H0 H' C p mv pt lk:=by obtain dx|a|b|c|g|n1|n2|n3|g1|g2|g3:=h;show #[dx,a,b,c,e _ _ g,n1,n2,n3,g1.10 e,g2.10 e,g3.10 e]
theorem jR.Y7 (h:jR K H0 H C p mv pt lk) (u:di b H H') (B:jE H b) (nb:H0 b≠none):jR K H0 H' C p mv pt lk:=by
 obtain dx|a|b'|c|g|n1|n2|n3|g1|g2|g3:=h;refine #[dx,a,b',c,u.37 (λz=>by obtain _|_|_|_|_|e|_:=B;rw[z,e] at g;cases g) g,n1,n2,n3,g1.Y7 u B (λz=>nb (by rw[<- z];show n1)) nb,g2.Y7 u B (λz=>nb (by rw[<- z];show n2)) nb,g3.Y7 u B (λz=>nb (by rw[<- z];show n3)) nb]
theorem jR.weak (h:jR K H0 H C p mv pt lk) (e:aL H1 H0):jR K H1 H C p mv pt lk:=by obtain dx|a|b|c|g|n1|n2|n3|g1|g2|g3:=h;show #[dx,a,b,c,g,e.17 n1,e.17 n2,e.17 n3,g1.47 e,g2.47 e,g3.47 e]
theorem Dl.fits (h:Dl mv pt lk) (hl:∀x∈l,(∃xs∈mv,x∈xs)\/(∃xs∈pt,x∈xs)\/(∃xs∈lk,x∈xs)\/x=0):Fits l:=by
 obtain M|V|h0|h1|h2|h3|h4|h5:=h;refine #[M,V,h0,ai h1 (ak () ()),ai h2 (ak () ()),λx hx=>?_];rcases hl x hx with ⟨xs,a,b⟩ | ⟨xs,a,b⟩ | ⟨xs,a,b⟩ | rfl
 ·show h3 xs a x b
 ·show h4 xs a x b
 ·show h5 xs a x b
 ·show Fr.zero
theorem cS.turn (h:cS mv pt lk):cS (aK mv mv.9) lk pt:=#[by rw[aU];show h.n8,h.o4,h.i4,λxs hx=>by rw[eJ xs hx,aU],λxs hx=>by rw[aU];show h.lw xs hx,λxs hx=>by rw[aU];show h.pw xs hx]
end
def LO:Sp:=λvs H Q _=>∃i:Int,vs=[.int i]/\Q (.bl true) H
def LS (K:Y2):Sp:=λvs H Q _=>∃x n,vs=[x]/\Iv K H x n/\vh n/\∀H',aL H H'->Q (.bl true) H'
inductive Kn (vs:List V) (H:Hp) (Q:VK) (E9:XK):Prop
 | mk (p:Addr) (xs:List V) (a m:Int):vs=[.ref p,.int a,.int m]->H p=some (.lst xs)->(xs.9:Int)<=m->Q .Ze H->Kn  vs H Q E9
inductive KI (K:Y2) (vs:List V) (H:Hp) (Q:VK) (E9:XK):Prop
 | mk (p:Addr) (H0:Hp) (rows:Y3) (w:Nat):vs=[.ref p,.int w]->bw K H0 H p rows->rows.9<=1000->w<=1000->((∀xs∈rows,xs.9=w/\∀x∈xs,vh (nm x)))->(∀r H',H r=none->aL H H'->bw K H H' r rows->Q (.ref r) H')->KI K vs H Q E9
def uN (rows:Y3):Prop:=∀xs∈rows,∀x∈xs,vh (nm x)
inductive KE (K:Y2) (C:Addr) (vs:List V) (H:Hp) (Q:VK) (E9:XK):Prop
 | mk (x dx p q r:Addr) (Hb H0 H1 H2:Hp) (mv pt lk:Y3):vs=[.ref x,.ref p,.ref q,.ref r]->Hb x=none->Hb dx=none->dx≠x->H=upd (upd Hb dx (.own x)) x (.ins C dx [])->bw K H0 Hb p mv->bw K H1 Hb q pt->bw K H2 Hb r lk->cS mv pt lk->uN mv->uN pt->uN lk->(∀H',aL Hb H'->jR K Hb H' C x mv pt lk->Q .Ze H')->KE K C vs H Q E9
def jb (mv pt:Y3) (st pu:List Rat):List Rat:=XI (λline col=>bT (line++col) (st++pu)) mv (aK pt mv.9)
theorem Dl.ok (h:Dl mv pt lk):uN mv/\uN pt/\uN lk :=
 #[λxs hx x Y6=>(h.fits (l:=xs) λy hy=>.inl #[xs,hx,hy]).ok Y6,λxs hx x Y6=>(h.fits (l:=xs) λy hy=>.inr (.inl #[xs,hx,hy])).ok Y6,λxs hx x Y6=>(h.fits (l:=xs) λy hy=>.inr (.inr (.inl #[xs,hx,hy]))).ok Y6]
def gG (K:Y2) (A:Addr->Prop) (H:Hp) (n:Nat) (C:Rat->Prop) (x:V):Prop:=∃q qs,x=V.ref q/\A q/\dS K H q qs/\qs.9=n/\∀y∈qs,C y
section
variable {K:Y2} {A A':Addr->Prop} {H H' H0:Hp} {n:Nat} {C C':Rat->Prop} {x v:V} {q b l p:Addr} {xs zs:List V} {y:Rat} {o:HO}
theorem gG.same (h:gG K A H n C x) (e:aL H H'):gG K A H' n C x:=by obtain q|qs|a|c|r|z:=h;show #[q,qs,a,c,r.10 e,z]
theorem gG.Y7 (h:gG K A H n C x) (u:di b H H') (B:jE H b) (nb:¬A b):gG K A H' n C x:=by obtain q|qs|a|c|r|z:=h;show #[q,qs,a,c,r.Y7 u B (λe=>nb (by rw[<- e];show c)),z]
theorem gG.other (h:gG K A H n C x) (hl:H l=some (.lst zs)) (nl:¬A l):gG K A (upd H l o) n C x:=by obtain q|qs|a|c|r|z:=h;show #[q,qs,a,c,r.Zc hl (λe=>nl (by rw[<- e];show c)),z]
theorem gG.weak (h:gG K A H n C x) (w:∀q,A q->A' q) (wc:∀y,C y->C' y):gG K A' H n C' x:=by obtain q|qs|a|c|r|l|z:=h;show #[q,qs,a,w q c,r,l,λy hy=>wc y (z y hy)]
theorem AH {α β:Type} {F:α->β->Prop} {a:α} {b:β} (h:F a b):∀{l1:List α} {l2:List β} (j:Nat),Xw F l1 l2->Xw F (l1.43 j a) (l2.43 j b)
 | _,_,_,.nil=>.nil
 | _,_,0,.cons _ t=>.cons h t
 | _,_,j+1,.cons r t=>.cons r (AH h j t)
theorem gG.put (h:gG K A H n C x) (hq:H q=some (.lst zs)) (hv:cG K H y v) (hc:C y) (j:Nat):gG K A (upd H q (.lst (zs.43 j v))) n C x:=by
 obtain q1|qs|rfl|a|⟨zs1,g1,pr⟩|l1|c1:=h;by_cases e:q1=q
 ·subst e;rw[hq] at g1;cases g1;refine #[q1,qs.43 j y,rfl,a,#[_,aN,AH (hv.Zc hq) j (bv (λ_ _ z=>z.Zc hq) pr)],by rw[fh];show l1,λz hz=>?_];rcases cM hz with hz | rfl
  ·show c1 z hz
  ·show hc
 ·show #[q1,qs,rfl,a,#[zs1,by rw[bK e];show g1,bv (λ_ _ z=>z.Zc hq) pr],l1,c1]
theorem gG.at (h:gG K A H n C x):∃q zs qs,x=V.ref q/\A q/\H q=some (.lst zs)/\zs.9=n/\Xw (cG K H) qs zs/\qs.9=n/\∀y∈qs,C y:=by obtain q|qs|a|c|⟨zs,g,pr⟩|l|z:=h;show #[q,zs,qs,a,c,g,by rw[<- pr.9];show l,pr,l,z]
end
theorem uv {i:Int} (h:i.15<=W) (hW:1<=W):Dr W (i:Rat):=#[h,hW]
def WD (K:Y2) (A:Addr->Prop) (H:Hp) (n:Nat) (C:Rat->Prop) (p:Addr) (m:Nat):Prop:=∃us,H p=some (.lst us)/\us.9=m/\¬A p/\∀x∈us,gG K A H n C x
structure Iw (A:Addr->Prop) (m p l b q0:Addr):Prop where
 am:¬A m
 ap:¬A p
 al:¬A l
 ab:¬A b
 aq:¬A q0
 mb:m≠b
 pb:p≠b
 lb:l≠b
 mp:m≠p
 ml:m≠l
 mq:m≠q0
theorem Ll {M:Nat} {z:Int} (h:z.15<=2):Fr 1 2 (z:Rat):=Fr.int h
theorem Ez {z:Int} (hz:z.15<=2) (ha:Fr M W a) (hc:Fr M W c):Fr M (3*W) (a+(z:Rat)*c):=by
 have h:=(Ll (M:=M) hz).mul hc;rw[xF] at h;show (ha.add h).22 ()
theorem Dz {z:Int} (h:z.15<=1000):oY (z:Rat):=JC (M:=1) (V:=1000) () (bO) (ai (show 1000<=2^10 by decide) (ak () ())) (Fr.int h)
theorem Ac {z:Int} (hz:z.15<=2) (hc:Fr M W c) (h0:0 < M) (h1:M<=2^800) (hW:W<=2^140):oY ((z:Rat)*c):=by
 have h:=(Ll (M:=M) hz).mul hc;rw[xF] at h;refine JC h0 (ai h1 (ak () ())) (ai (aP 2 hW) ?_) h;rw[show 2*2^140=2^141 by rw[iO,cB]];show ak () ()
def jD (A:Addr->Prop) (b m:Addr) (H H':Hp):Prop:=∀c u,H c=some u->c≠b->¬A c->c≠m->H' c=some u
theorem jD.same (h:jD A b m H H1) (s:aL H1 H2):jD A b m H H2:=λc u e n1 n2 n3=>s _ _ (h c u e n1 n2 n3)
theorem jD.Y7 (h:jD A b m H H1) (s:di b H1 H2):jD A b m H H2:=λc u e n1 n2 n3=>s.1 _ _ (h c u e n1 n2 n3) n1
theorem jD.upd (h:jD A b m H H1) (hq:A q\/q=m):jD A b m H (L2.upd H1 q o):=λc u e n1 n2 n3=>by
 rw[bK]
 ·show h c u e n1 n2 n3
 ·rintro rfl;rcases hq with hq | hq
  ·show n2 hq
  ·show n3 hq
theorem jD.new (h:jD A b m H H1) (hA:∀q,H q=none->A q) (B:jE H1 b) (hm:H1 m≠none) (hr:H1 r=none):A r:=by
 by_cases z:A r
 ·show z
 ·cases e:H r with
  | none=>show hA r e
  | some u =>
   have:=h r u e (λy=>B.at (by rw[<- y];show hr)) z (λy=>hm (by rw[<- y];show hr));rw[hr] at this;cases this
structure Ly (K:Y2) (A:Addr->Prop) (n:Nat) (C:Rat->Prop) (r p b q0:Addr) (us:List V) (H0 H:Hp):Prop where
 gr:H r=some (.lst us)
 ru:∀x∈us,gG K A H n C x
 rp:gG K A H n C (.ref p)
 _f:jE H b
 _C:Inner H b q0
 up:di b H0 H
section
variable {K:Y2}
theorem Ly.same (h:Ly K A n C r p b q0 us H0 H) (e:aL H H'):Ly K A n C r p b q0 us H0 H':=#[e _ _ h.gr,λx hx=>(h.ru x hx).10 e,h.rp.10 e,h._f.10 e,(e.Y7 (p:=b)).2 _ h._C,h.up.10 e]
theorem Ly.Y7 (h:Ly K A n C r p b q0 us H0 H) (u:di b H H') (B:jE H' b) (nb:¬A b) (rb:r≠b):Ly K A n C r p b q0 us H0 H':=#[u.37 rb h.gr,λx hx=>(h.ru x hx).Y7 u h._f nb,h.rp.Y7 u h._f nb,B,u.2 _ h._C,h.up.4 u]
theorem Ly.put (h:Ly K A n C r p b q0 us H0 H) (ap:A p) (nr:¬A r) (nb:¬A b) (nq:¬A q0) (hp:H0 p=none) (hv:cG K H y v) (hc:C y) (j:Nat):∃zs,H p=some (.lst zs)/\zs.9=n/\Ly K A n C r p b q0 us H0 (upd H p (.lst (zs.43 j v))):=by
 obtain q|zs|qs|e|a|g|l|_:=h.rp.at;cases e;have ne:∀{z},¬A z->z≠p:=λh e=>h (by rw[e];show ap)
 show #[zs,g,l,by rw[bK (ne nr)];show h.gr,λx hx=>(h.ru x hx).put g hv hc j,h.rp.put g hv hc j,h._f.upd h._C (ne nb).19 (ne nq).19,h._C.upd (ne nb).19,h.up.50 hp]
end
theorem Aw {K:Y2} (h:∀x∈us,gG K A H n C x):∃rows:Y3,Xw (λqs x=>∃q,x=V.ref q/\A q/\dS K H q qs) rows us/\rows.9=us.9/\∀qs∈rows,qs.9=n/\∀y∈qs,C y:=by
 induction us with
 | nil=>show #[[],.nil,rfl,λ_ z=>nomatch z]
 | cons u us ih =>
  obtain rows|pr|l|hr:=ih λx hx=>h x (.tail _ hx)
  obtain q|qs|e|a|r|l1|c:=h u (.head _);refine #[qs :: rows,.cons #[q,e,a,r] pr,by simp [l],λzs hz=>?_];rcases aM.mp hz with rfl | hz
  ·show #[l1,c]
  ·show hr zs hz
theorem Jc {K:Y2} {rows:Y3} (pr:Xw (λqs x=>∃q,x=V.ref q/\A q/\dS K H q qs) rows us) (h:∀qs∈rows,qs.9=n/\∀y∈qs,C y):∀x∈us,gG K A H n C x:=λx hx=>by
 obtain qs|hq|q|e|a|r:=dE pr hx;show #[q,qs,e,a,r,(h qs hq).1,(h qs hq).2]
theorem C5 {n:Nat}:∀{rows:Y3},(∀xs∈rows,xs.9=n)->rows.flatten.9=rows.9*n
 | [],_=>by simp
 | xs :: rows,h=>by
  rw[iQ,ax,h xs (.head _),C5 λys hy=>h ys (.tail _ hy),bI,iN,d6]
theorem Qv {rows:Y3} (h:∀qs∈rows,qs.9=n/\∀y∈qs,Dr (2^c) y):∃M:Nat,0 < M/\M<=2^(c*(rows.9*n))/\∀qs∈rows,∀y∈qs,Fr M (2^c) y:=by
 have fl:rows.flatten.9=rows.9*n:=C5 λys hy=>(h ys hy).1
 have hm:∀a∈rows.flatten.11 (·.den),0 < a/\a<=2^c:=λa ha=>by
  obtain y|hy|rfl:=ao.mp ha;obtain qs|hq|hy:=gX.mp hy;show #[y.den_pos,((h qs hq).2 y hy).2]
 refine #[wI (rows.flatten.11 (·.den)),yp λa ha=>(hm a ha).1,?_,λqs hq y hy=>?_]
 ·have:=AA (k:=c) (l:=rows.flatten.11 (·.den)) λa ha=>(hm a ha).2
  rwa [af,fl] at this
 ·show (Fr.own y ((h qs hq).2 y hy).1).dvd (yq (ao.mpr #[y,gX.mpr #[qs,hq,hy],rfl]))
theorem mh {K:Y2} (h:WD K A H n C p m) (w:∀q,A q->H0 q=none):∃rows,bw K H0 H p rows/\rows.9=m/\∀qs∈rows,qs.9=n/\∀y∈qs,C y:=by
 obtain us|g|l|a|r:=h;obtain rows|pr|lr|hr:=Aw r;refine #[rows,#[us,g,bv (λ_ _ #[q,e,aq,rq]=>#[q,e,w q aq,rq]) pr,λhm=>?_],by rw[lr,l],hr];obtain q|_|e|aq|_:=r _ hm;cases e;show a aq
theorem jD.trans (h:jD A b m H H1) (h':jD A b m H1 H2):jD A b m H H2:=λc u e n1 n2 n3=>h' c u (h c u e n1 n2 n3) n1 n2 n3
theorem N4 {K:Y2} {rows:Y3} (pr:Xw (cR K H0 H) rows us) (h:∀qs∈rows,qs.9=n/\∀y∈qs,C y) (w:∀q,V.ref q∈us->H0 q=none->H q≠none->A q):∀x∈us,gG K A H n C x:=λx hx=>by
 obtain qs|hq|q|e|a|r:=dE pr hx;subst e;show #[q,qs,rfl,w q hx a (by obtain _|g|_:=r;rw[g];simp),r,(h qs hq).1,(h qs hq).2]
def LQ:Sp:=λvs H Q _=>∃b,vs=[.ref b]/\jE H b/\∀r (n i o w:Nat) H',H' r=some (.tup [.int n,.int i,.int o,.int w])->n<=5->i<=4->o<=4->(w=4\/w=9\/(w=1000000/\n<=2))->(n=5->i<=2/\o<=2)->jE H' b->di b H H'->Q (.ref r) H'
def eV (K:Y2) (H0 H:Hp) (r:Addr) (mv pt lk:Y3):Prop:=∃m p l,H r=some (.tup [.ref m,.ref p,.ref l])/\H0 m=none/\H0 p=none/\H0 l=none/\bw K H0 H m mv/\bw K H0 H p pt/\bw K H0 H l lk
section
variable {K:Y2}
theorem eV.same (h:eV K H0 H r mv pt lk) (e:aL H H'):eV K H0 H' r mv pt lk:=by obtain m|p|l|g|n1|n2|n3|g1|g2|g3:=h;show #[m,p,l,e _ _ g,n1,n2,n3,g1.10 e,g2.10 e,g3.10 e]
theorem eV.Y7 (h:eV K H0 H r mv pt lk) (u:di b H H') (B:jE H b) (nb:H0 b≠none):eV K H0 H' r mv pt lk:=by
 obtain m|p|l|g|n1|n2|n3|g1|g2|g3:=h;show #[m,p,l,u.tup B g,n1,n2,n3,g1.Y7 u B (λz=>nb (by rw[<- z];show n1)) nb,g2.Y7 u B (λz=>nb (by rw[<- z];show n2)) nb,g3.Y7 u B (λz=>nb (by rw[<- z];show n3)) nb]
theorem eV.weak (h:eV K H0 H r mv pt lk) (e:∀q,H0 q=none->H1 q=none):eV K H1 H r mv pt lk:=by
 obtain m|p|l|g|n1|n2|n3|⟨x1,y1,z1,w1⟩|⟨x2,y2,z2,w2⟩|⟨x3,y3,z3,w3⟩:=h;show #[m,p,l,g,e _ n1,e _ n2,e _ n3,#[x1,y1,bv (λ_ _ #[q,a,b,c]=>#[q,a,e _ b,c]) z1,w1],#[x2,y2,bv (λ_ _ #[q,a,b,c]=>#[q,a,e _ b,c]) z2,w2],#[x3,y3,bv (λ_ _ #[q,a,b,c]=>#[q,a,e _ b,c]) z3,w3]]
end
inductive Ae (K:Y2) (C:Addr) (vs:List V) (H:Hp) (Q:VK) (E9:XK):Prop
 | mk (r:Addr) (H0:Hp) (mv pt lk:Y3):vs=[.ref r]->eV K H0 H r mv pt lk->cS mv pt lk->Dl mv pt lk->(∀x H',H x=none->aL H H'->jR K H H' C x mv pt lk->Q (.ref x) H')->Ae K C vs H Q E9
def nextK (mv pt:Y3) (st pu:List Rat) (k:Nat):List Rat:=XI (λline col=>bT (line++col.18 k) (st++pu.18 k)) mv (aK pt mv.9)
theorem kh {st pu:List Rat}:(nextK mv pt st pu k).9=mv.9:=by unfold nextK;rw[cQ,aU];lia
theorem uJ {st pu:List Rat} (h1:pt.9<=k) (h2:pu.9<=k):nextK mv pt st pu k=jb mv pt st pu:=by
 unfold nextK jb;apply lE;intro i;rw[cL,cL];cases e1:mv[i]? with
 | none=>rfl
 | some line =>
  cases e2:(aK pt mv.9)[i]? with
  | none=>rfl
  | some col =>
   have:=eJ col (av e2);change some _=some _
   rw[aJ (),aJ h2]
theorem Dx (h:i < w):(aK rows w)[i]?=some (rows.11 λxs=>xs.3 i 0):=by
 unfold aK;rw[az,bW h];rfl
theorem Jp {st pu:List Rat}:nextK mv pt st pu 0=mv.11 λxs=>bT xs st:=by
 unfold nextK;apply lE;intro i;rw[cL,az];by_cases hi:i < mv.9
 ·rw[Dx hi,ae hi];simp
 ·rw[aF ()];rfl
theorem AR {st pu:List Rat} (hi:i < mv.9):(nextK mv pt st pu k).3 i 0=bT (mv[i]++(pt.11 λxs=>xs.3 i 0).18 k) (st++pu.18 k):=by
 rw[aa];unfold nextK;rw[cL,ae hi,Dx hi];rfl
theorem uw (h:as.9=xs.9):bT (as++bs) (xs++ys)=bT as xs+bT bs ys:=by
 unfold bT;rw[List.zipWith_append h,List.sum_append]
theorem Jq {st pu:List Rat} (hm:∀xs∈mv,xs.9=st.9) (h1:k < pt.9) (h2:k < pu.9) (hw:(pt[k]).9=mv.9) :
  XI (λx y=>x+y) (nextK mv pt st pu k) ((pt[k]).11 λy=>pu[k]*y)=nextK mv pt st pu (k+1):=by
 have l1:((pt[k]).11 λy=>pu[k]*y).9=mv.9:=by rw[af,hw]
 rw[Ct (by rw[l1,kh])];apply lE;intro i;rw[az,kh];by_cases hi:i < mv.9
 ·have e0:(nextK mv pt st pu (k+1))[i]?=some ((nextK mv pt st pu (k+1)).3 i 0):=by
   rw[aa,ae (by rw[kh];show hi)];rfl
  rw[bW hi,e0,AR hi];have ll:=hm mv[i] (aB hi);have ec:(pt.11 λxs=>xs.3 i 0)[k]?=some ((pt[k]).3 i 0):=by rw[az,ae h1];rfl
  have ep:pu[k]?=some pu[k]:=ae h2
  have e3:((pt[k]).11 λy=>pu[k]*y).3 i 0=pu[k]*(pt[k]).3 i 0:=by
   rw[getD_map (by rw[hw];show hi),aa,ae (by rw[hw];show hi)];rfl
  change some ((nextK mv pt st pu k).3 i 0+((pt[k]).11 λy=>pu[k]*y).3 i 0)=some _
  rw[AR hi,e3,take_snoc ec,take_snoc ep,uw ll,uw ll,uw (by rw[aS,aS,af];lia)];have:bT [(pt[k]).3 i 0] [pu[k]]=(pt[k]).3 i 0*pu[k]:=by simp [bT,jW]
  rw[this];congr 1;grind
 ·rw[aF (by simpa using hi),aF (by rw[kh];lia)];rfl
theorem OL {K:Y2}:YF K (.ref C) (.ref C)=some true:=by
 unfold YF;rw[if_pos (by simp)]
theorem yD {st pu:List Rat}:(jb mv pt st pu).9=mv.9:=by unfold jb;rw[cQ,aU];lia
def zi (J:Addr->Prop) (H H':Hp):Prop:=∀c u,H c=some u->(J c->∀xs,u≠.lst xs)->H' c=some u
section
variable {K:Y2}
theorem zi.set (h:H p=some (.lst xs)) (hJ:J p):zi J H (upd H p (.lst ys)):=λc u e n=>by
 by_cases z:c=p
 ·subst z;rw[h] at e;cases e;show absurd rfl (n hJ xs)
 ·rw[bK z];show e
theorem zi.sqt (k:zi J H H') (h:nD K H a xs):nD K H' a xs:=by
 rcases h with (h | ⟨o,h⟩) | h
 ·show .inl (.inl (k _ _ h λ_ _ z=>nomatch z))
 ·show .inl (.inr #[o,k _ _ h λ_ _ z=>nomatch z])
 ·show .inr h
theorem cG._B {x:V} (h:cG K H q x) (k:zi J H H'):cG K H' q x:=by obtain p|e|s:=h;show #[p,e,k.sqt s]
theorem dS._B (h:dS K H p qs) (k:zi J H H') (n:¬J p):dS K H' p qs:=by obtain xs|g|r:=h;show #[xs,k _ _ g λz=>absurd z n,bv (λ_ _ z=>z._B k) r]
theorem bw._B (h:bw K H0 H p rows) (k:zi J H H') (n:H0 p=none) (hJ:∀q,H0 q=none->¬J q):bw K H0 H' p rows:=by obtain xs|g|r|nn:=h;show #[xs,k _ _ g λz=>absurd z (hJ p n),bv (λ_ _ #[q,a,b,c]=>#[q,a,b,c._B k (hJ q b)]) r,nn]
end
def mV (k j:Nat) (l:List Rat):Prop:=∃M V:Nat,0 < M/\M<=2^k/\V<=2^j/\∀x∈l,Fr M V x
section
variable {k j k' j':Nat} {l xs ys:List Rat} {x y:Rat}
theorem mV.szn (h:mV k j l) (hx:x∈l) (hk:k+j<=15800000:=by decide):oY x:=by
 obtain M|V|h0|h1|h2|h3:=h;obtain a|b:=(h3 x hx).sz h0 h1 h2;show #[a.22 (),b.22 ()]
theorem mV.U! (h:mV k j l) (hk:k+j<=16800000:=by decide):∃M,J7 M (l.11 nm):=by
 obtain M|V|h0|h1|h2|h3:=h;refine #[M,(),?_,λn hn=>?_]
 ·change ((M:Nat):Int).15 < 2^17600000
  rw[dk];show bG h1 (fM () ())
 ·obtain x|hx|rfl:=ao.mp hn;obtain a|_:=(h3 x hx).sz h0 h1 h2;show #[ja x,(h3 x hx).52,a.22 ()]
theorem mV.one (h:mV k j l) (hx:x∈l):mV k j [x]:=by
 obtain M|V|h0|h1|h2|h3:=h;show #[M,V,h0,h1,h2,λy hy=>by rw[bX.mp hy];show h3 x hx]
theorem Ph (h:mV k j xs) (h':mV k' j' ys) (hl:xs.9<=1000) (i:Nat) (hk:(k+k')+(j+j')<=15720000:=by decide):oY (bT (xs.18 i) (ys.18 i)):=by
 obtain M|V|h0|h1|h2|h3:=h;obtain N|W|k0|k1|k2|k3:=h'
 have e:1000*(V*W)<=2^(10+(j+j')):=by
  rw[aV 2 10];show aE () (ai (aE h2 k2) (by rw[<- aV];show aj _))
 obtain a|b:=((Fr.dot (λx hx=>h3 x (bL hx)) (λy hy=>k3 y (bL hy))).22 (au _ (show (xs.18 i).9<=1000 by rw[aS];lia))).sz (bx h0 k0) (ai (aE h1 k1) (by rw[<- aV];show aj _)) e;show #[a.22 (),b.22 ()]
theorem OB (hx:mV k j [x]) (hy:mV k' j' [y]) (hk:(k+k')+(j+j')<=15720000:=by decide):oY (x*y):=by
 obtain M|V|h0|h1|h2|h3:=hx;obtain N|W|k0|k1|k2|k3:=hy;obtain a|b:=((h3 x (.head _)).mul (k3 y (.head _))).sz (bx h0 k0) (ai (aE h1 k1) (by rw[<- aV];show aj _)) (ai (aE h2 k2) (by rw[<- aV];show aj _));show #[a.22 (),b.22 ()]
def oZ (xs ys:List Rat):Prop:=∃k j k' j':Nat,mV k j xs/\mV k' j' ys/\(k+k')+(j+j')<=15720000
end
def IA (mv pt lk:Y3):Prop:=∃M V:Nat,0 < M/\M<=2^400/\V<=2^120/\GF M V mv/\GF M V pt/\GF M V lk
theorem IA.sf (h:IA mv pt lk):Dl mv pt lk:=by obtain M|V|a|b|c|d:=h;show #[M,V,a,ai b (ak () ()),ai c (ak () ()),d]
inductive DB (K:Y2) (vs:List V) (H:Hp) (Q:VK) (E9:XK):Prop
 | mk (p q:Addr) (xs ys:List Rat):vs=[.ref p,.ref q]->dS K H p xs->dS K H q ys->ys.9=xs.9->xs.9<=1000->oZ xs ys->(∀r H',aL H H'->cG K H' (bT xs ys) (.ref r)->Q (.ref r) H')->DB K vs H Q E9
inductive DA (K:Y2) (vs:List V) (H:Hp) (Q:VK) (E9:XK):Prop
 | mk (p q:Addr) (H0:Hp) (rows:Y3) (ys:List Rat):vs=[.ref p,.ref q]->bw K H0 H p rows->dS K H q ys->rows.9<=1000->ys.9<=1000->((∀xs∈rows,xs.9=ys.9/\oZ xs ys))->(∀r H',H r=none->aL H H'->dS K H' r (rows.11 λxs=>bT xs ys)->Q (.ref r) H')->DA K vs H Q E9
def nH (mv pt:Y3) (st:List Rat) (pus:Y3) (k:Nat):List Rat:=(pus.18 k).foldl (jb mv pt) st
section
variable {mv pt lk pus:Y3} {st:List Rat} {k:Nat}
theorem tj:nH mv pt st pus 0=st:=rfl
theorem mR (h:pus[k]?=some pu):nH mv pt st pus (k+1)=jb mv pt (nH mv pt st pus k) pu:=by
 unfold nH;rw[take_snoc h,List.foldl_append];rfl
theorem nG (h:st.9=mv.9):∀{k:Nat},k<=pus.9->(nH mv pt st pus k).9=mv.9
 | 0,_=>h
 | k+1,hk=>by rw[mR (ae (show k < pus.9 by lia)),yD]
theorem zN (h:GF M W rows):GF M W (aK rows w):=λys hy y _F=>by
 obtain j|_|rfl:=ao.mp hy;obtain xs|hx|rfl:=ao.mp _F;rw[aa];cases e:xs[j]? with
 | none=>show Fr.zero
 | some z=>show h xs hx z (av e)
end
def oT (K:Y2) (H:Hp) (l:Addr) (H':Hp) (xs:List Rat) (x:V):Prop:=∃q,x=.ref q/\H q=none/\q≠l/\dS K H' q xs
section
variable {K:Y2} {H H' H2:Hp} {l:Addr} {xs:List Rat} {x:V}
theorem oT.same (h:oT K H l H' xs x) (e:aL H' H2):oT K H l H2 xs x:=by obtain q|a|b|c|d:=h;show #[q,a,b,c,d.10 e]
theorem oT.upd {ys:List V} {o:HO} (h:oT K H l H' xs x) (hl:H' l=some (.lst ys)):oT K H l (upd H' l o) xs x:=by obtain q|a|b|c|d:=h;show #[q,a,b,c,d.Zc hl c]
theorem oT.aeY (h:oT K H l H' xs x):cR K H H' xs x:=by obtain q|a|b|_|d:=h;show #[q,a,b,d]
theorem CP (e:aL H H') (n:H l=none):aL H (upd H' l o):=λb u h=>by
 rw[bK (λz=>by rw[z,n] at h;cases h)];show e b u h
theorem Ax:∀{rows:Y3} {ys:List V},Xw (oT K H l H') rows ys->V.ref l∉ys
 | _,_,.nil=>by simp
 | _,_,.cons ⟨q,a,_,c,_⟩ r=>by
  intro hm;rcases aM.mp hm with e | hm
  ·rw[a] at e;cases e;show c rfl
  ·show Ax r hm
end
theorem Mt {l:List Rat} (h:∀x∈l,Dr (2^c) x) (hc:c<=20):∃B:Nat,0 < B/\B<=2^(c*l.9+2)/\∀x∈l,Fr B (2^22) x:=by
 obtain M|h0|h1|h2:=RC (c:=c) (n:=l.9) (i:=0) (rows:=[]) US rfl h hc;refine #[M,h0,?_,h2 l (by simp)];rw[LB,xF] at h1;show h1
theorem G7 {i:Nat}:∀{pus:Y3},(∀xs∈pus,xs.9=i)->pus.flatten.9=pus.9*i
 | [],_=>by simp
 | x :: r,h=>by
  rw[iQ,ax,h x (.head _),G7 (λxs hx=>h xs (.tail _ hx)),bI,iN]
  lia
theorem VJ {i:Int} (h:i=0\/i=1):Fr 1 1 (i:Rat):=Fr.int (by rcases h with rfl | rfl <;> decide)
theorem uW {α β:Type} {F:α->β->Prop}:∀{l1:List α} {l2:List β} (_:Xw F l1 l2) (k:Nat),Xw F (l1.40 k) (l2.40 k)
 | _,_,h,0=>h
 | _,_,.nil,_+1=>.nil
 | _,_,.cons _ r,k+1=>uW r k
end L2
namespace L2
abbrev ks:=Nat->Rat
def BB (F:List ks->Rat) (r:Nat):List ks->List ks->Rat->Rat
 | _,[],_=>0
 | pre,v :: post,s=>s*v r*F (pre++post)+BB F r (pre++[v]) post (-s)
def sV:List Nat->List ks->Rat
 | [],[]=>1
 | [],_ :: _=>0
 | r :: rs,vs=>BB (λws=>sV rs ws) r [] vs 1
theorem EI:sV [] (a++x :: b)=0:=by
 cases a <;> rfl
theorem Eo {F:List ks->Rat} {r:Nat} {f g h:ks} {x y:Rat} (hF:∀a b,F (a++h :: b)=x*F (a++f :: b)+y*F (a++g :: b)):∀(b p q:List ks) (s:Rat),BB F r (p++h :: q) b s=x*BB F r (p++f :: q) b s+y*BB F r (p++g :: q) b s
 | [],p,q,s=>by simp only[BB,br,jW]
 | v :: b,p,q,s=>by
  have i1:=hF p (q++b);have i2:=Eo (r:=r) hF b p (q++[v]) (-s);simp only[BB,cC,fE] at i1 i2 ⊢;rw[i1,i2];grind
theorem Lb {F:List ks->Rat} {r:Nat} {f g h:ks} {x y:Rat} (hF:∀a b,F (a++h :: b)=x*F (a++f :: b)+y*F (a++g :: b)) (hr:h r=x*f r+y*g r):∀(a pre b:List ks) (s:Rat),BB F r pre (a++h :: b) s=x*BB F r pre (a++f :: b) s+y*BB F r pre (a++g :: b) s
 | [],pre,b,s=>by
  have i2:=Eo (r:=r) hF b pre [] (-s);simp only[BB,c4] at i2 ⊢;rw[i2,hr];grind
 | v :: a,pre,b,s=>by
  have i1:=hF (pre++a) b;have i2:=Lb hF hr a (pre++[v]) b (-s);simp only[BB,cC,fE] at i1 i2 ⊢;rw[i1,i2];grind
theorem vV {f g h:ks} {x y:Rat}:∀{rs:List Nat},(∀r∈rs,h r=x*f r+y*g r)->∀a b,sV rs (a++h :: b)=x*sV rs (a++f :: b)+y*sV rs (a++g :: b)
 | [],_,a,b=>by rw[EI,EI,EI];grind
 | r :: rs,hr,a,b=>Lb (λa b=>vV (λr' h'=>hr r' (.tail _ h')) a b) (hr r (.head _)) a [] b 1
theorem EH (hr:∀r∈rs,h r=0) (a b:List ks):sV rs (a++h :: b)=0:=by
 rw[vV (f:=h) (g:=h) (x:=0) (y:=0) (λr h'=>by rw[hr r h'];grind) a b];grind
theorem Lc {F:List ks->Rat} {r:Nat} {x:ks} (hF:∀a b,F (a++x :: x :: b)=0):∀(b p q:List ks) (s:Rat),BB F r (p++x :: x :: q) b s=0
 | [],p,q,s=>rfl
 | v :: b,p,q,s=>by
  have i1:=hF p (q++b);have i2:=Lc (r:=r) hF b p (q++[v]) (-s);simp only[BB,cC,fE] at i1 i2 ⊢;rw[i1,i2];grind
theorem Ld {F:List ks->Rat} {r:Nat} {x:ks} (hF:∀a b,F (a++x :: x :: b)=0):∀(a pre b:List ks) (s:Rat),BB F r pre (a++x :: x :: b) s=0
 | [],pre,b,s=>by
  have i2:=Lc (r:=r) hF b pre [] (- -s);simp only[BB,c4,cC,fE] at i2 ⊢;rw[i2];grind
 | v :: a,pre,b,s=>by
  have i1:=hF (pre++a) b;have i2:=Ld (r:=r) hF a (pre++[v]) b (-s);simp only[BB,cC,fE] at i1 i2 ⊢;rw[i1,i2];grind
theorem A8 {x:ks}:∀{rs:List Nat} (a b:List ks),sV rs (a++x :: x :: b)=0
 | [],a,b=>EI
 | r :: rs,a,b=>Ld (λa b=>A8 a b) a [] b 1
theorem RM (a b:List ks):sV rs (a++x :: y :: b)=- sV rs (a++y :: x :: b):=by
 have hr:∀r∈rs,(λr=>1*x r+1*y r) r=1*x r+1*y r:=λ_ _=>rfl
 have h0:=A8 (x:=λr=>1*x r+1*y r) (rs:=rs) a b;have h1:=vV hr a ((λr=>1*x r+1*y r) :: b);have h2:=vV hr (a++[x]) b;have h3:=vV hr (a++[y]) b;have h4:=A8 (x:=x) (rs:=rs) a b;have h5:=A8 (x:=y) (rs:=rs) a b;simp only[cC,fE,c4] at h0 h1 h2 h3 h4 h5;rw[h1,h2,h3,h4,h5] at h0;grind
theorem EJ {x:ks} {rs:List Nat}:∀(b a c:List ks),sV rs (a++x :: (b++x :: c))=0
 | [],a,c=>A8 a c
 | y :: b,a,c=>by
  have:=EJ (x:=x) (rs:=rs) b (a++[y]) c;simp only[cC,fE,c4] at this;rw[fE,RM,this];rfl
def aR:Nat->(Nat->Rat)->Rat
 | 0,_=>0
 | k+1,f=>aR k f+f k
theorem ar {f g:Nat->Rat}:∀{k:Nat},(∀j,j < k->f j=g j)->aR k f=aR k g
 | 0,_=>rfl
 | k+1,h=>by
  change aR k f+f k=aR k g+g k
  rw[ar λj hj=>h j (),h k ()]
theorem kz {f g:Nat->Rat}:∀{k:Nat},aR k (λj=>f j+g j)=aR k f+aR k g
 | 0=>by change (0:Rat)=0+0;grind
 | k+1=>by
  change aR k (λj=>f j+g j)+_=(aR k f+f k)+(aR k g+g k)
  rw[kz];grind
theorem a8 {f:Nat->Rat} {c:Rat}:∀{k:Nat},aR k (λj=>c*f j)=c*aR k f
 | 0=>by change (0:Rat)=c*0;grind
 | k+1=>by
  change aR k (λj=>c*f j)+_=c*(aR k f+f k)
  rw[a8];grind
theorem bU {f:Nat->Rat}:∀{k:Nat},(∀j,j < k->f j=0)->aR k f=0
 | 0,_=>rfl
 | k+1,h=>by
  change aR k f+f k=0
  rw[bU λj hj=>h j (),h k ()];grind
theorem cF {f:Nat->Rat} {i:Nat}:∀{k:Nat},i < k->(∀j,j < k->j≠i->f j=0)->aR k f=f i
 | k+1,hi,h=>by
  change aR k f+f k=f i
  by_cases e:i=k
  ·subst e;rw[bU λj hj=>h j () ()];grind
  ·rw[cF () λj hj=>h j (),h k () (λz=>e z.19)];grind
theorem cD {f:Nat->Nat->Rat} {m:Nat}:∀{k:Nat},aR k (λi=>aR m (f i))=aR m (λj=>aR k λi=>f i j)
 | 0=>(bU λ_ _=>rfl).19
 | k+1=>by
  change aR k (λi=>aR m (f i))+aR m (f k)=aR m (λj=>aR k (λi=>f i j)+f k j)
  rw[cD,kz]
theorem JE {rs:List Nat} {W:ks} {v:Nat->ks} {c:Nat->Rat} (a b:List ks):∀{k:Nat} {W:ks},(∀r∈rs,W r=aR k λj=>c j*v j r)->sV rs (a++W :: b)=aR k λj=>c j*sV rs (a++v j :: b)
 | 0,W,h=>EH h a b
 | k+1,W,h=>by
  rw[vV (f:=λr=>aR k λj=>c j*v j r) (g:=v k) (x:=1) (y:=c k) (λr hr=>by rw[h r hr];change aR k _+_=_;grind) a b,JE a b (k:=k) (W:=λr=>aR k λj=>c j*v j r) λr _=>rfl];change _=aR k _+_
  grind
end L2
namespace L2
open Nm
def yn (f:Nat->Nat):Nat->List Nat
 | 0=>[]
 | k+1=>f k :: yn f k
def sD (v:Nat->ks):Nat->List ks
 | 0=>[]
 | k+1=>v k :: sD v k
def M6 (v:Nat->ks) (i:Nat):Nat->List ks
 | 0=>[]
 | k+1=>if k<=i then [] else v k :: M6 v i k
theorem tY {f:Nat->Nat}:∀{k:Nat},(yn f k).9=k
 | 0=>rfl
 | k+1=>by change (yn f k).9+1=_;rw[tY]
theorem Zs {v:Nat->ks}:∀{k:Nat},(sD v k).9=k
 | 0=>rfl
 | k+1=>by change (sD v k).9+1=_;rw[Zs]
theorem pZ {f:Nat->Nat} {r:Nat}:∀{k:Nat},r∈yn f k->∃t,t < k/\r=f t
 | k+1,h=>by
  rcases aM.mp h with h | h
  ·show #[k,(),h]
  ·obtain t|a|b:=pZ h;show #[t,(),b]
theorem Ay {f g:Nat->Nat}:∀{k:Nat},(∀j,j < k->f j=g j)->yn f k=yn g k
 | 0,_=>rfl
 | k+1,h=>by
  change f k :: yn f k=g k :: yn g k
  rw[h k (),Ay λj hj=>h j ()]
theorem ZX {f g:Nat->ks}:∀{k:Nat},(∀j,j < k->f j=g j)->sD f k=sD g k
 | 0,_=>rfl
 | k+1,h=>by
  change f k :: sD f k=g k :: sD g k
  rw[h k (),ZX λj hj=>h j ()]
theorem _O {v:Nat->ks} {j:Nat}:∀{k:Nat},j < k->v j∈sD v k
 | k+1,h=>by
  by_cases e:j=k
  ·subst e;show .head _
  ·show .tail _ (_O ())
theorem ZN {v:Nat->ks} {x:ks}:∀{k:Nat},x∈sD v k->∃t,t < k/\x=v t
 | k+1,h=>by
  rcases aM.mp h with h | h
  ·show #[k,(),h]
  ·obtain t|a|b:=ZN h;show #[t,(),b]
theorem Pu {v:Nat->ks} {i j:Nat} (h1:i < j):∀{k:Nat},j < k->v j∈M6 v i k
 | k+1,h=>by
  change v j∈if k<=i then [] else v k :: M6 v i k
  rw[if_neg ()];by_cases e:j=k
  ·subst e;show .head _
  ·show .tail _ (Pu h1 ())
theorem HQ {v:Nat->ks} {i:Nat} {x:ks}:∀{k:Nat},x∈M6 v i k->∃t,t < k/\x=v t
 | k+1,h=>by
  have h:x∈if k<=i then [] else v k :: M6 v i k:=h
  split at h
  ·cases h
  ·rcases aM.mp h with h | h
   ·show #[k,(),h]
   ·obtain t|a|b:=HQ h;show #[t,(),b]
theorem Zl {v:Nat->ks} {i:Nat}:∀{k:Nat},i < k->sD v k=M6 v i k++v i :: sD v i
 | k+1,h=>by
  change v k :: sD v k=(if k<=i then [] else v k :: M6 v i k)++_
  by_cases e:i=k
  ·subst e;rw[if_pos (aj _)];rfl
  ·rw[if_neg (),Zl (k:=k) (i:=i) ()];rfl
theorem C6 {c:Nat->Rat} (hi:i < k) (hW:∀r∈rs,W r=aR k λj=>c j*v j r):sV rs (M6 v i k++W :: sD v i)=c i*sV rs (sD v k):=by
 rw[JE (v:=v) (c:=c) (W:=W) _ _ hW,cF hi λj hj ne=>?_,Zl hi];rcases be j i with h | h
 ·obtain s|t|e:=IF (_O (v:=v) h);rw[e,EJ];grind
 ·obtain s|t|e:=IF (Pu (v:=v) (show i < j by lia) hj);have:=EJ (x:=v j) (rs:=rs) t s (sD v i);rw[e,cC,fE,this];grind
theorem UZ {c:Nat->Rat} (hW:∀r∈rs,W r=aR k λj=>c j*v j r):sV rs (W :: sD v k)=0:=by
 have:=JE (v:=v) (c:=c) (W:=W) [] (sD v k) hW;rw[c4] at this;rw[this];refine bU λj hj=>?_
 obtain s|t|e:=IF (_O (v:=v) hj);have:=EJ (x:=v j) (rs:=rs) s [] t;rw[c4] at this;rw[e,c4,this];grind
theorem Ms {c:Nat->Rat} (hi:i∉rs) (h1:W i=aR k (λj=>c j*v j i)+s) (hW:∀r∈rs,W r=aR k λj=>c j*v j r):sV (i :: rs) (W :: sD v k)=s*sV rs (sD v k):=by
 have e:=vV (rs:=i :: rs) (h:=W) (f:=λr=>aR k λj=>c j*v j r) (g:=λr=>if r=i then 1 else 0) (x:=1) (y:=s) (λr hr=>by
  rcases aM.mp hr with rfl | hr
  ·rw[h1,if_pos rfl];grind
  ·rw[hW r hr,if_neg (λz=>hi (by rw[<- z];show hr))];grind) [] (sD v k)
 rw[c4,c4,c4,UZ (c:=c) λr _=>rfl] at e
 have e2:sV (i :: rs) ((λr=>if r=i then (1:Rat) else 0) :: sD v k)=sV rs (sD v k):=by
  change 1*(if i=i then (1:Rat) else 0)*sV rs ([]++sD v k)+BB (λws=>sV rs ws) i ([]++[λr=>if r=i then (1:Rat) else 0]) (sD v k) (-1)=_
  have hF:∀a b,(λws=>sV rs ws) (a++(λr=>if r=i then (1:Rat) else 0) :: b)=0*(λws=>sV rs ws) (a++(λr=>if r=i then (1:Rat) else 0) :: b)+0*(λws=>sV rs ws) (a++(λr=>if r=i then (1:Rat) else 0) :: b):=λa b=>by
   have:=EH (h:=λr=>if r=i then (1:Rat) else 0) (rs:=rs) (λr hr=>if_neg λz=>hi (by rw[<- z];show hr)) a b
   dsimp only
   rw[this];grind
  have:=Eo (r:=i) hF (sD v k) [] [] (-1);rw[this,if_pos rfl,c4];grind
 rw[e2] at e;rw[e];grind
theorem S7 {F:List ks->Rat} {r B W:Nat}:∀{post pre:List ks} {s:Rat},(∀ws,(∀w∈ws,w∈pre++post)->ws.9+1=(pre++post).9->Fr 1 B (F ws))->(∀w∈post,Fr 1 W (w r))->Fr 1 1 s->Fr 1 (post.9*(W*B)) (BB F r pre post s)
 | [],pre,s,_,_,_=>by change Fr 1 _ 0;show Fr.zero
 | v :: post,pre,s,hF,hw,hs=>by
  have t1:Fr 1 (W*B) (s*v r*F (pre++post)):=by
   have:=(hs.mul (hw v (.head _))).mul (hF (pre++post) (λw h=>by
    rcases aA.mp h with h | h
    ·show cT _ h
    ·show aX _ (.tail _ h)) (by simp only[ax,bI];lia))
   simpa using this
  have t2:=S7 (F:=F) (r:=r) (B:=B) (W:=W) (post:=post) (pre:=pre++[v]) (s:=-s) (λws h h'=>hF ws (λw hw=>by simpa using h w hw) (by simpa using h')) (λw h=>hw w (.tail _ h)) (by simpa using hs.neg);show (t1.add t2).22 (by rw[bI,iN];lia)
theorem A7 {W N:Nat}:∀{rs:List Nat} {vs:List ks},vs.9<=N->(∀v∈vs,∀r∈rs,Fr 1 W (v r))->Fr 1 ((N*W)^rs.9) (sV rs vs)
 | [],[],_,_=>by change Fr 1 1 1;show (Fr.int (i:=1) ())
 | [],_ :: _,_,_=>by change Fr 1 _ 0;show Fr.zero
 | r :: rs,vs,hl,h=>by
  have:=S7 (F:=λws=>sV rs ws) (r:=r) (B:=(N*W)^rs.9) (W:=W) (post:=vs) (pre:=[]) (s:=1) (λws h1 h2=>A7 (by rw[c4] at h2;lia) λv hv r' c!=>h v (by simpa using h1 v hv) r' (.tail _ c!)) (λw hw=>h w hw r (.head _)) (Fr.int (i:=1) ());refine this.22 ?_;rw[bI,iO,cB ((N*W)^rs.9),cb N];show au _ hl
structure xJ (a:Nat->Nat->Rat) (m k:Nat) (pm p:Nat->Nat) (l:Nat->Nat->Rat) (d:Rat):Prop where
 inj:∀i j,i < m->j < m->pm i=pm j->i=j
 ZT:∀i,i < m->pm i < m
 km:k<=m
 d0:d≠0
 det:d=sV (yn pm k) (sD (λj r=>a r (p j)) k)
 h!:∀i,i < m->∀c,d*a (pm i) c=aR k (λj=>a (pm i) (p j)*l j c)+if i < k then 0 else l i c
 unit:∀i,i < m->∀j,j < k->l i (p j)=if i=j then d else 0
section
variable {a l:Nat->Nat->Rat} {m k:Nat} {pm p:Nat->Nat} {d:Rat}
theorem xJ.start (h:∀i,i < m->pm i=i):xJ a m 0 pm p a 1 where
 inj i j hi hj e:=by rw[h i hi,h j hj] at e;show e
 ZT i hi:=by rw[h i hi];show hi
 km:=bD _
 d0:=()
 det:=rfl
 h! i hi c:=by
  rw[h i hi,if_neg ()];change 1*a i c=0+a i c
  grind
 unit i _ j hj:=absurd hj ()
theorem xJ._e (B:xJ a m k pm p l d) (hi:i < m):a (pm i) c=aR k (λj=>(l j c / d)*a (pm i) (p j))+if i < k then 0 else l i c / d:=by
 have h:=B.h! i hi c;have d0:=B.d0
 have e:aR k (λj=>(l j c / d)*a (pm i) (p j))=(1 / d)*aR k (λj=>a (pm i) (p j)*l j c):=by
  rw[<- a8];show ar λj _=>by grind
 rw[e]
 split at h
 ·rw[if_pos (by assumption)];grind
 ·rw[if_neg (by assumption)];grind
theorem xJ.old (B:xJ a m k pm p l d) (hi:i < k):l i c=sV (yn pm k) (M6 (λj r=>a r (p j)) i k++(λr=>a r c) :: sD (λj r=>a r (p j)) i):=by
 have km:=B.km;have d0:=B.d0;rw[C6 (v:=λj r=>a r (p j)) (c:=λj=>l j c / d) hi λr hr=>?_,<- B.det]
 ·grind
 ·obtain t|ht|rfl:=pZ hr;have:=B._e (i:=t) (c:=c) ();rw[if_pos ht] at this;rw[this];grind
theorem xJ.new (B:xJ a m k pm p l d) (h1:k<=i) (hi:i < m):l i c=sV (pm i :: yn pm k) ((λr=>a r c) :: sD (λj r=>a r (p j)) k):=by
 have km:=B.km;have d0:=B.d0
 have hn:pm i∉yn pm k:=λhm=>by
  obtain t|ht|e:=pZ hm;have:=B.inj i t hi () e
  lia
 have e1:a (pm i) c=aR k (λj=>(l j c / d)*a (pm i) (p j))+l i c / d:=by
  have:=B._e (i:=i) (c:=c) hi;rwa [if_neg ()] at this
 have e2:∀r∈yn pm k,a r c=aR k (λj=>(l j c / d)*a r (p j)):=λr hr=>by
  obtain t|ht|rfl:=pZ hr;have:=B._e (i:=t) (c:=c) ();rw[if_pos ht] at this;rw[this];grind
 rw[Ms (v:=λj r=>a r (p j)) (c:=λj=>l j c / d) (W:=λr=>a r c) (s:=l i c / d) hn e1 e2,<- B.det];grind
theorem xJ.fr (B:xJ a m k pm p l d) (hN:k < N) (hW:1<=W) (ha:∀i,i < m->∀c,Fr 1 W (a i c)) (hi:i < m):Fr 1 ((N*W)^(k+1)) (l i c):=by
 have km:=B.km;have mono:∀t,t<=k+1->(N*W)^t<=(N*W)^(k+1):=λt ht=>ak (bx () hW) ht
 have O!:∀r∈yn pm k,∀c,Fr 1 W (a r c):=λr hr c=>by
  obtain t|ht|rfl:=pZ hr;show ha _ (B.ZT t ()) c
 by_cases h:i < k
 ·rw[B.old h];refine (A7 (W:=W) (N:=N) ?_ ?_).22 (mono _ (by rw[tY];lia))
  ·have:=congrArg Yt (Zl (v:=λj r=>a r (p j)) h);rw[ax,bI,Zs] at this;rw[ax,bI]
   lia
  ·intro v hv r hr;rcases aA.mp hv with hv | hv
   ·obtain t|_|rfl:=HQ hv;show O! r hr _
   ·rcases aM.mp hv with rfl | hv
    ·show O! r hr _
    ·obtain t|_|rfl:=ZN hv;show O! r hr _
 ·rw[B.new () hi];refine (A7 (W:=W) (N:=N) ?_ ?_).22 (mono _ (by rw[bI,tY];lia))
  ·rw[bI,Zs]
   lia
  ·intro v hv r hr
   have c!:∀c,Fr 1 W (a r c):=λc=>by
    rcases aM.mp hr with rfl | hr
    ·show ha _ (B.ZT i hi) c
    ·show O! r hr c
   rcases aM.mp hv with rfl | hv
   ·show c! _
   ·obtain t|_|rfl:=ZN hv;show c! _
theorem xJ.dfr (B:xJ a m k pm p l d) (hN:k<=N) (ha:∀i,i < m->∀c,Fr 1 W (a i c)):Fr 1 ((N*W)^k) d:=by
 have km:=B.km;rw[B.det]
 have:=A7 (W:=W) (N:=N) (rs:=yn pm k) (vs:=sD (λj r=>a r (p j)) k) (by rw[Zs];show hN) λv hv r hr=>by
  obtain t|ht|rfl:=pZ hr;obtain t'|_|rfl:=ZN hv;show ha _ (B.ZT t ()) _
 rwa [tY] at this
def lF (k t i:Nat):Nat:=if i=k then t else if i=t then k else i
theorem uR (hk:k < m) (ht:t < m) (hi:i < m):lF k t i < m:=by
 unfold lF
 split
 ·show ht
 ·split
  ·show hk
  ·show hi
theorem TM (h:lF k t i=lF k t j):i=j:=by
 unfold lF at h
 split at h <;> split at h <;> (try split at h) <;> (try split at h) <;> lia
theorem vv (h:k<=t) (hi:i < k):lF k t i=i:=by
 unfold lF;rw[if_neg (),if_neg ()]
theorem v9 (h:k<=t) (hi:k<=i):k<=lF k t i:=by
 unfold lF
 split
 ·show h
 ·split <;> lia
theorem xJ.swap (B:xJ a m k pm p l d) {t:Nat} (h:k<=t) (ht:t < m):xJ a m k (λi=>pm (lF k t i)) p (λi=>l (lF k t i)) d where
 inj i j hi hj e:=TM (B.inj _ _ (uR () ht hi) (uR () ht hj) e)
 ZT i hi:=B.ZT _ (uR () ht hi)
 km:=B.km
 d0:=B.d0
 det:=by rw[B.det,Ay (f:=pm) (g:=λi=>pm (lF k t i)) λj hj=>by rw[vv h hj]]
 h! i hi c:=by
  have e:=B.h! (lF k t i) (uR () ht hi) c;have e1:aR k (λj=>a (pm (lF k t i)) (p j)*l (lF k t j) c)=aR k (λj=>a (pm (lF k t i)) (p j)*l j c):=ar λj hj=>by rw[vv h hj]
  rw[e1];by_cases hk:i < k
  ·rw[vv h hk] at e ⊢;show e
  ·rw[if_neg hk];rw[if_neg (by have:=v9 h (show k<=i by lia);lia)] at e;show e
 unit i hi j hj:=by
  rw[B.34 _ (uR () ht hi) j hj];by_cases hk:i < k
  ·rw[vv h hk]
  ·have:=v9 h (show k<=i by lia);rw[if_neg (),if_neg ()]
theorem xJ.step (B:xJ a m k pm p l d) {c0:Nat} (hk:k < m) (h0:l k c0≠0):xJ a m (k+1) pm (λj=>if j=k then c0 else p j) (λi c=>if i=k then l k c else (l k c0*l i c - l i c0*l k c) / d) (l k c0) where
 inj:=B.inj
 ZT:=B.ZT
 km:=hk
 d0:=h0
 det:=by
  rw[B.new (aj _) hk];change _=sV (pm k :: yn pm k) ((λr=>a r (if k=k then c0 else p k)) :: sD _ k)
  rw[if_pos rfl];congr 2;show ZX λj hj=>by rw[if_neg (show j≠k by lia)]
 h! i hi c:=by
  have d0:=B.d0;have e1:=B.h! i hi c;have e2:=B.h! i hi c0;change l k c0*a (pm i) c=(aR k _+_)+_
  have s1:aR k (λj=>a (pm i) (if j=k then c0 else p j)*(if j=k then l k c else (l k c0*l j c - l j c0*l k c) / d))=(l k c0 / d)*aR k (λj=>a (pm i) (p j)*l j c)+(- l k c / d)*aR k (λj=>a (pm i) (p j)*l j c0):=by
   rw[<- a8,<- a8,<- kz];refine ar λj hj=>?_
   rw[if_neg (show j≠k by lia),if_neg (show j≠k by lia)];grind
  rw[s1];simp only[if_true];generalize aR k (λj=>a (pm i) (p j)*l j c)=S1 at e1 ⊢;generalize aR k (λj=>a (pm i) (p j)*l j c0)=S2 at e2 ⊢;rcases eQ i k with h | h | h
  ·rw[if_pos h] at e1 e2;rw[if_pos ()];grind
  ·subst h;rw[if_neg ()] at e1 e2;rw[if_pos ()];grind
  ·rw[if_neg ()] at e1 e2;rw[if_neg (),if_neg ()];grind
 unit i hi j hj:=by
  have d0:=B.d0;by_cases e:j=k
  ·subst e;simp only[if_true];by_cases ei:i=j
   ·rw[if_pos ei,if_pos ei]
   ·rw[if_neg ei,if_neg ei];grind
  ·have ZA:j < k:=()
   rw[if_neg e];by_cases ei:i=k
   ·rw[if_pos ei,B.34 k hk j ZA,if_neg (),if_neg ()]
   ·rw[if_neg ei,B.34 i hi j ZA,B.34 k hk j ZA,if_neg (show k≠j by lia)]
    split
    ·grind
    ·grind
end
def d4 (m:Nat) (a:Nat->Nat->Rat) (x:Nat->Rat):Prop:=∃w:Nat->Rat,∀c,x c=aR m λt=>w t*a t c
theorem d4.row (hi:i < m):d4 m a (a i):=#[λt=>if t=i then 1 else 0,λc=>by
 rw[cF hi λj _ ne=>by dsimp only;rw[if_neg ne];grind]
 dsimp only
 rw[if_pos rfl];grind]
theorem d4.lin (α β:Rat) (hx:d4 m a x) (hy:d4 m a y):d4 m a λc=>α*x c+β*y c:=by
 obtain w|hw:=hx;obtain v|hv:=hy;refine #[λt=>α*w t+β*v t,λc=>?_]
 dsimp only
 rw[hw c,hv c,<- a8,<- a8,<- kz];show ar λj _=>by grind
theorem d4.congr (h:∀c,x c=y c) (hx:d4 m a x):d4 m a y:=by obtain w|hw:=hx;show #[w,λc=>by rw[<- h c];show hw c]
theorem d4.trans (h:∀t,t < m'->d4 m a (b t)) (hx:d4 m' b x):d4 m a x:=by
 obtain v|hv:=hx
 have h2:∀t,∃w:Nat->Rat,t < m'->∀c,b t c=aR m λs=>w s*a s c:=λt=>by
  by_cases ht:t < m'
  ·obtain w|hw:=h t ht;show #[w,λ_=>hw]
  ·show #[λ_=>0,λz=>absurd z ht]
 have hc:=Classical.axiomOfChoice h2;obtain w|hw:=hc;refine #[λs=>aR m' λt=>v t*w t s,λc=>?_];rw[hv c];have e1:aR m' (λt=>v t*b t c)=aR m' (λt=>aR m λs=>v t*(w t s*a s c)):=ar λt ht=>by rw[hw t ht c,<- a8]
 rw[e1,cD];refine ar λs _=>?_
 have:aR m' (λt=>v t*w t s)*a s c=a s c*aR m' (λt=>v t*w t s):=bC ..;rw[this,<- a8];show ar λt _=>by grind
theorem d4.zero (h:∀c,x c=0):d4 m a x:=#[λ_=>0,λc=>by rw[h c,bU λ_ _=>by grind]]
structure Dm (m n:Nat) (a:Nat->Nat->Rat) (k:Nat) (p:Nat->Nat) (R:Nat->Nat->Rat):Prop where
 inc:∀i j,i < j->j < k->p i < p j
 low:∀j,j < k->p j < n
 unit:∀i,i < k->∀j,j < k->R i (p j)=if i=j then 1 else 0
 lead:∀i,i < k->∀c,c < p i->R i c=0
 span:∀i,i < m->d4 k R (a i)
 back:∀i,i < k->d4 m a (R i)
section
variable {m m' k k' n:Nat} {a a' R R':Nat->Nat->Rat} {p p':Nat->Nat} {x:Nat->Rat}
theorem Dm._e (h:Dm m n a k p R) (hx:d4 k R x) (c:Nat):x c=aR k λj=>x (p j)*R j c:=by
 obtain w|hw:=hx;rw[hw c];refine ar λj hj=>?_
 rw[hw (p j),cF hj λt ht ne=>by rw[h.34 t ht j hj,if_neg ne];grind,h.34 j hj j hj,if_pos rfl];grind
theorem Dm.ZF (h:Dm m n a k p R) (hx:d4 k R x) (h1:x c≠0) (h0:∀c',c' < c->x c'=0):∃j,j < k/\p j=c:=by
 refine Classical.byContradiction λhn=>h1 ?_
 rw[h._e hx c];refine bU λj hj=>?_
 rcases eQ (p j) c with z | z | z
 ·rw[h0 _ z];grind
 ·show absurd #[j,hj,z] hn
 ·rw[h.lead j hj c z];grind
theorem inc_le (h1:∀i j,i < j->j < k->p i < p j) (h2:∀i j,i < j->j < k'->p' i < p' j) (hs:∀j,j < k'->∃i,i < k/\p i=p' j):∀{j:Nat},j < k'->∀{i:Nat},i < k->p i=p' j->j<=i
 | 0,_,_,_,_=>bD _
 | j+1,hj,i,hi,e=>by
  obtain i0|hi0|e0:=hs j ();have:=inc_le h1 h2 hs (j:=j) () hi0 e0;have lt:=h2 j (j+1) () hj;rcases eQ i0 i with z | z | z
  ·lia
  ·subst z;lia
  ·have:=h1 i i0 z hi0;lia
theorem OR (h1:∀i j,i < j->j < k->p i < p j) (h:i<=j) (hj:j < k):p i<=p j:=by
 rcases be i j with z | z
 ·show c6 (h1 i j z hj)
 ·have:i=j:=()
  rw[this];show aj _
theorem Lj (h1:∀i j,i < j->j < k->p i < p j) (h2:∀i j,i < j->j < k'->p' i < p' j) (hs:∀j,j < k'->∃i,i < k/\p i=p' j):k'<=k/\∀j,j < k'->p j<=p' j:=by
 refine #[?_,λj hj=>?_]
 ·rcases ow k' with z | z
  ·lia
  ·obtain i|hi|e:=hs (k' - 1) ();have:=inc_le h1 h2 hs (j:=k' - 1) () hi e
   lia
 ·obtain i|hi|e:=hs j hj;rw[<- e];show OR h1 (inc_le h1 h2 hs hj hi e) hi
theorem Dm.uniq (h:Dm m n a k p R) (h':Dm m' n a' k' p' R') (s1:∀i,i < m->d4 m' a' (a i)) (s2:∀i,i < m'->d4 m a (a' i)):k=k'/\(∀j,j < k->p j=p' j)/\∀i,i < k->∀c,R i c=R' i c:=by
 have x1:∀i,i < k->d4 k' R' (R i):=λi hi=>d4.trans (λt ht=>h'.span t ht) (d4.trans s1 (h.55 i hi))
 have x2:∀i,i < k'->d4 k R (R' i):=λi hi=>d4.trans (λt ht=>h.span t ht) (d4.trans s2 (h'.55 i hi))
 have y1:∀j,j < k->∃i,i < k'/\p' i=p j:=λj hj=>h'.ZF (x1 j hj) (by rw[h.34 j hj j hj,if_pos rfl];decide) (h.lead j hj)
 have y2:∀j,j < k'->∃i,i < k/\p i=p' j:=λj hj=>h.ZF (x2 j hj) (by rw[h'.34 j hj j hj,if_pos rfl];decide) (h'.lead j hj)
 obtain z1|w1:=Lj h'.inc h.inc y1;obtain z2|w2:=Lj h.inc h'.inc y2;have ek:k=k':=kx z1 z2;subst ek;have ep:∀j,j < k->p j=p' j:=λj hj=>kx (w2 j hj) (w1 j hj)
 refine #[rfl,ep,λi hi c=>?_];rw[h._e (x2 i hi) c,cF hi λj hj ne=>by rw[ep j hj,h'.34 i hi j hj,if_neg (λz=>ne z.19)];grind,ep i hi,h'.34 i hi i hi,if_pos rfl];grind
end
structure mB (a:Nat->Nat->Rat) (m k P:Nat) (p:Nat->Nat) (l:Nat->Nat->Rat) (d:Rat):Prop where
 km:k<=m
 d0:d≠0
 unit:∀i,i < m->∀j,j < k->l i (p j)=if i=j then d else 0
 inc:∀i j,i < j->j < k->p i < p j
 low:∀j,j < k->p j < P
 zero:∀i,k<=i->i < m->∀c,c < P->l i c=0
 lead:∀j,j < k->∀c,c < p j->l j c=0
 there:∀i,i < m->d4 m l (a i)
 back:∀i,i < m->d4 m a (l i)
section
variable {m k n P:Nat} {a l l':Nat->Nat->Rat} {p:Nat->Nat} {d d':Rat}
theorem mB.start:mB a m 0 0 p a 1 where
 km:=bD _
 d0:=()
 unit _ _ j hj:=absurd hj ()
 inc _ j _ hj:=absurd hj ()
 low j hj:=absurd hj ()
 zero _ _ _ c hc:=absurd hc ()
 lead j hj:=absurd hj ()
 there i hi:=d4.row hi
 back i hi:=d4.row hi
theorem mB.skip (E:mB a m k P p l d) (h:∀i,k<=i->i < m->l i P=0):mB a m k (P+1) p l d :=
 #[E.km,E.d0,E.34,E.inc,λj hj=>Nat.lt_succ_of_lt (E.56 j hj),λi h1 h2 c hc=>by
  by_cases e:c=P
  ·rw[e];show h i h1 h2
  ·show E.zero i h1 h2 c (),E.lead,E.there,E.55]
theorem VH:lF k t (lF k t i)=i:=by
 unfold lF
 split
 ·split <;> (try split) <;> lia
 ·split
  ·rw[if_pos rfl];lia
  ·rfl
theorem mB.swap (E:mB a m k P p l d) {t:Nat} (h:k<=t) (ht:t < m):mB a m k P p (λi=>l (lF k t i)) d where
 km:=E.km
 d0:=E.d0
 unit i hi j hj:=by
  rw[E.34 _ (uR () ht hi) j hj];by_cases hk:i < k
  ·rw[vv h hk]
  ·have:=v9 h (show k<=i by lia);rw[if_neg (),if_neg ()]
 inc:=E.inc
 low:=E.56
 zero i h1 h2 c hc:=E.zero _ (v9 h h1) (uR () ht h2) c hc
 lead j hj c hc:=by rw[vv h hj];show E.lead j hj c hc
 there i hi:=d4.trans (λs hs=>d4.congr (λc=>by rw[VH]) (d4.row (a:=λi=>l (lF k t i)) (i:=lF k t s) (uR () ht hs))) (E.there i hi)
 back i hi:=E.55 _ (uR () ht hi)
theorem mB.step (E:mB a m k P p l d) (hk:k < m) (h0:d'≠0) (aam:∀i,i < m->∀j,j < k+1->l' i (if j=k then P else p j)=if i=j then d' else 0)
  (hl:∀i,i < m->∃β γ:Rat,β≠0/\(i=k->γ=0)/\∀c,l' i c=β*l i c+γ*l k c):mB a m (k+1) (P+1) (λj=>if j=k then P else p j) l' d' where
 km:=hk
 d0:=h0
 unit:=aam
 inc i j hij hj:=by
  by_cases e:j=k
  ·rw[if_pos e,if_neg ()];show E.56 i ()
  ·rw[if_neg e,if_neg ()];show E.inc i j hij ()
 low j hj:=by
  by_cases e:j=k
  ·rw[if_pos e];lia
  ·rw[if_neg e];show Nat.lt_succ_of_lt (E.56 j ())
 zero i h1 h2 c hc:=by
  by_cases e:c=P
  ·have:=aam i h2 k ();rw[if_pos rfl,if_neg ()] at this;rw[e];show this
  ·obtain β|γ|_|_|q:=hl i h2;rw[q c,E.zero i () h2 c (),E.zero k (aj _) hk c ()];grind
 lead j hj c hc:=by
  have km:=E.km;obtain β|γ|_|_|q:=hl j ();by_cases e:j=k
  ·rw[if_pos e] at hc;rw[q c,e,E.zero k (aj _) hk c hc];grind
  ·rw[if_neg e] at hc;have:=E.56 j ();rw[q c,E.lead j () c hc,E.zero k (aj _) hk c ()];grind
 there i hi:=by
  refine d4.trans (λs hs=>?_) (E.there i hi);obtain β|γ|b0|_|q:=hl s hs;obtain βk|γk|bk0|gk|qk:=hl k hk;have g0:=gk rfl;refine d4.congr (λc=>?_) (d4.lin (1 / β) (-(γ / β) / βk) (d4.row (a:=l') hs) (d4.row (a:=l') hk));rw[q c,qk c,g0];grind
 back i hi:=by
  obtain β|γ|_|_|q:=hl i hi;show d4.congr (λc=>(q c).19) (d4.lin β γ (E.55 i hi) (E.55 k hk))
theorem mB.done (E:mB a m k n p l d) (ha:∀i,i < m->∀c,n<=c->a i c=0):Dm m n a k p (λi c=>l i c / d) where
 inc:=E.inc
 low:=E.56
 unit i hi j hj:=by
  have d0:=E.d0;have km:=E.km;rw[E.34 i () j hj]
  split
  ·grind
  ·grind
 lead i hi c hc:=by
  rw[E.lead i hi c hc];grind
 span i hi:=by
  have d0:=E.d0;refine d4.trans (λs hs=>?_) (E.there i hi);by_cases z:s < k
  ·refine d4.congr (λc=>?_) (d4.lin d 0 (d4.row (a:=λi c=>l i c / d) z) (d4.row (a:=λi c=>l i c / d) z));grind
  ·refine d4.zero λc=>?_
   by_cases hc:c < n
   ·show E.zero s () hs c hc
   ·obtain w|hw:=E.55 s hs;rw[hw c,bU λt ht=>by rw[ha t ht c ()];grind]
 back i hi:=by
  have km:=E.km;have d0:=E.d0;refine d4.congr (λc=>?_) (d4.lin (1 / d) 0 (E.55 i ()) (E.55 i ()));grind
end
def eH (ls:List (List Int)) (i c:Nat):Rat:=(((ls.3 i []).3 c 0:Int):Rat)
def aZ (rows:Y3) (i c:Nat):Rat:=(rows.3 i []).3 c 0
def qO (ls:List (List Int)) (k t:Nat):List (List Int):=(ls.43 k (ls.3 t [])).43 t (ls.3 k [])
def HR (ls:List (List Int)) (k c:Nat) (b:Int):List (List Int):=(ls.11 λzs=>XI (λx y=>((ls.3 k []).3 c 0*x - zs.3 c 0*y).fdiv b) zs (ls.3 k [])).43 k (ls.3 k [])
section
variable {b d:Int}
theorem uq {α:Type} {l:List α} {x e:α} (hi:i < l.9):(l.43 i x).3 j e=if j=i then x else l.3 j e:=by
 rw[aa,aa,List.getElem?_set];by_cases h:j=i
 ·subst h;rw[if_pos rfl,if_pos hi,if_pos rfl];rfl
 ·rw[if_neg (λz=>h z.19),if_neg h]
theorem xR:(qO ls k t).9=ls.9:=by unfold qO;rw[fh,fh]
theorem Py:(HR ls k c b).9=ls.9:=by unfold HR;rw[fh,af]
theorem getD_in {α:Type} {l:List α} {e:α} (h:i < l.9):l.3 i e∈l:=by
 rw[aa,ae h];show aB h
theorem Kf (w:∀zs∈ls,zs.9=n) (hk:k < ls.9) (ht:t < ls.9):∀zs∈qO ls k t,zs.9=n:=λzs hz=>by
 unfold qO at hz;rcases cM hz with h | h
 ·rcases cM h with h | h
  ·show w zs h
  ·rw[h];show w _ (getD_in ht)
 ·rw[h];show w _ (getD_in hk)
theorem Lu (w:∀zs∈ls,zs.9=n) (hk:k < ls.9):∀zs∈HR ls k c b,zs.9=n:=λzs hz=>by
 unfold HR at hz;rcases cM hz with h | h
 ·obtain y|hy|rfl:=ao.mp h;rw[cQ,w y hy,w _ (getD_in hk)]
  lia
 ·rw[h];show w _ (getD_in hk)
theorem xu (hk:k < ls.9) (ht:t < ls.9) (i c:Nat):eH (qO ls k t) i c=eH ls (lF k t i) c:=by
 unfold eH qO lF;rw[uq (by rw[fh];show ht),uq hk];by_cases h1:i=t
 ·rw[if_pos h1];by_cases h2:i=k
  ·rw[if_pos h2,<- h1,<- h2]
  ·rw[if_neg h2,if_pos h1]
 ·rw[if_neg h1];by_cases h2:i=k
  ·rw[if_pos h2,if_pos h2]
  ·rw[if_neg h2,if_neg h2,if_neg h1]
theorem vU (w:∀zs∈ls,zs.9=n) (hc:n<=c):eH ls i c=0:=by
 unfold eH;by_cases h:i < ls.9
 ·have:=w _ (getD_in (e:=[]) h);rw[aa (l:=ls.3 i []),aF ()];rfl
 ·rw[aa (l:=ls),aF ()];rfl
theorem uA {x:Int} (h:(x:Rat)=0):x=0:=by
 have:(x:Rat)=((0:Int):Rat):=h;show d5.mp this
theorem JD {x b:Int} (hb:b≠0) (hq:∃z:Int,q=(z:Rat)) (e:(x:Rat)=(b:Rat)*q):((x.fdiv b:Int):Rat)=q:=by
 obtain z|rfl:=hq;rw[<- a9] at e;have:=d5.mp e;rw[this,Int.mul_fdiv_cancel_left _ hb]
theorem xr (h:Fr 1 W q):∃z:Int,q=(z:Rat):=by
 obtain z|e|_:=h;show #[z,by rw[<- e];simp]
theorem vT {z:Int} (h:Fr 1 W (z:Rat)):z.15<=W:=by
 obtain y|e|b:=h;have:(z:Rat)=(y:Rat):=by rw[<- e];simp
 rw[d5.mp this];simpa using b
theorem O9 (w:∀zs∈ls,zs.9=n) (hk:k < ls.9) (hb:b≠0) (hi:i < ls.9) (hz:∀c,∃z:Int,(eH ls k P*eH ls i c - eH ls i P*eH ls k c) / (b:Rat)=(z:Rat)) (c:Nat) :
  eH (HR ls k P b) i c=if i=k then eH ls k c else (eH ls k P*eH ls i c - eH ls i P*eH ls k c) / (b:Rat):=by
 by_cases e:i=k
 ·rw[if_pos e];unfold eH HR;rw[uq (by rw[af];show hk),if_pos e]
 ·rw[if_neg e];by_cases hc:c < n
  ·have _N:(b:Rat)≠0:=λz=>hb (uA z)
   have lk:=w _ (getD_in (e:=[]) hk);have li:=w _ (getD_in (e:=[]) hi)
   have e1:eH (HR ls k P b) i c=(((((ls.3 k []).3 P 0*(ls.3 i []).3 c 0 - (ls.3 i []).3 P 0*(ls.3 k []).3 c 0).fdiv b:Int)):Rat):=by
    unfold HR;rw[eH,uq (by rw[af];show hk),if_neg e];rw[aa (l:=XT _ ls),az,ae hi];change ((((XI _ ls[i] (ls.3 k [])).3 c 0:Int)):Rat)=_
    have ei:ls.3 i []=ls[i]:=by rw[aa,ae hi];rfl
    rw[<- ei];rw[aa (l:=XI _ _ _),cL,aa (l:=ls.3 i []) (i:=c),aa (l:=ls.3 k []) (i:=c),ae (show c < (ls.3 i []).9 by lia),ae (show c < (ls.3 k []).9 by lia)];rfl
   rw[e1];refine JD hb (hz c) ?_;rw[Bv,a9,a9];change _=(b:Rat)*((eH ls k P*eH ls i c - eH ls i P*eH ls k c) / (b:Rat))
   change eH ls k P*eH ls i c - eH ls i P*eH ls k c=_
   grind
  ·rw[vU (Lu w hk) (show n<=c by lia),vU w (i:=i) (show n<=c by lia),vU w (i:=k) (show n<=c by lia)];grind
end
section
variable {m k n P:Nat} {a l l2:Nat->Nat->Rat} {pm p p2:Nat->Nat} {d:Rat}
theorem xJ.congr (B:xJ a m k pm p l d) (hp:∀j,j < k->p2 j=p j) (hl:∀i,i < m->∀c,l2 i c=l i c):xJ a m k pm p2 l2 d where
 inj:=B.inj
 ZT:=B.ZT
 km:=B.km
 d0:=B.d0
 det:=by rw[B.det,ZX (f:=λj r=>a r (p j)) (g:=λj r=>a r (p2 j)) λj hj=>by rw[hp j hj]]
 h! i hi c:=by
  have km:=B.km;rw[B.h! i hi c,hl i hi c];congr 1;show ar λj hj=>by rw[hp j hj,hl j () c]
 unit i hi j hj:=by rw[hp j hj,hl i hi];show B.34 i hi j hj
theorem d4.rows (h:∀i,i < m->∀c,l2 i c=l i c) (hx:d4 m l x):d4 m l2 x:=by obtain w|hw:=hx;show #[w,λc=>by rw[hw c];show ar λt ht=>by rw[h t ht c]]
theorem mB.congr (E:mB a m k P p l d) (hp:∀j,j < k->p2 j=p j) (hl:∀i,i < m->∀c,l2 i c=l i c):mB a m k P p2 l2 d where
 km:=E.km
 d0:=E.d0
 unit i hi j hj:=by rw[hp j hj,hl i hi];show E.34 i hi j hj
 inc i j hij hj:=by rw[hp i (),hp j hj];show E.inc i j hij hj
 low j hj:=by rw[hp j hj];show E.56 j hj
 zero i h1 h2 c hc:=by rw[hl i h2];show E.zero i h1 h2 c hc
 lead j hj c hc:=by
  have km:=E.km;rw[hp j hj] at hc;rw[hl j ()];show E.lead j hj c hc
 there i hi:=(E.there i hi).rows hl
 back i hi:=(E.55 i hi).congr λc=>(hl i hi c).19
theorem mB.kP (E:mB a m k P p l d):k<=P:=by
 have:∀j,j < k->j<=p j:=by
  intro j
  induction j with
  | zero=>intro _;show bD _
  | succ j ih =>
   intro hj;have:=ih ();have:=E.inc j (j+1) () hj
   lia
 rcases ow k with z | z
 ·lia
 ·have h1:=this (k - 1) ();have h2:=E.56 (k - 1) ()
  lia
end
structure Dk (ZG:List (List Int)) (n P:Nat) (ls:List (List Int)) (ps:List Nat) (d:Int):Prop where
 len:ls.9=ZG.9
 wide:∀zs∈ls,zs.9=n
 bar:∃pm,xJ (eH ZG) ZG.9 ps.9 pm (λj=>ps.3 j 0) (eH ls) d
 el:mB (eH ZG) ZG.9 ps.9 P (λj=>ps.3 j 0) (eH ls) d
theorem Dk.start (w:∀zs∈ZG,zs.9=n):Dk ZG n 0 ZG [] 1:=#[rfl,w,#[λi=>i,xJ.start λ_ _=>rfl],mB.start]
theorem Dk.d0 (h:Dk ZG n P ls ps d):d≠0:=λz=>h.el.d0 (by rw[z];rfl)
theorem Dk.skip (h:Dk ZG n P ls ps d) (hz:∀i,ps.9<=i->i < ls.9->eH ls i P=0):Dk ZG n (P+1) ls ps d:=#[h.36,h.wide,h.bar,h.el.skip λi h1 h2=>hz i h1 (by rw[h.36];show h2)]
theorem getD_snoc (hj:j < l.9+1):(l++[x]).3 j 0=if j=l.9 then x else l.3 j 0:=by
 rw[aa,aa];by_cases e:j=l.9
 ·rw[if_pos e,e,b8 (aj _),pK];rfl
 ·rw[if_neg e,cw ()]
theorem Dk.int (h:Dk ZG n P ls ps d) (hW:1<=W) (h0:∀i,i < ZG.9->∀c,Fr 1 W (eH ZG i c)) (ht:ps.9<=t) (Y!:t < ls.9) (Z3:eH ls t P≠0) :
  ∀i,i < ls.9->i≠ps.9->∀c,∃z:Int,(eH (qO ls ps.9 t) ps.9 P*eH (qO ls ps.9 t) i c - eH (qO ls ps.9 t) i P*eH (qO ls ps.9 t) ps.9 c) / (d:Rat)=(z:Rat):=λi hi ne c=>by
 obtain pm|B:=h.bar;have hl:=h.36;have hk:ps.9 < ls.9:=()
 have B1:=(B.swap ht ()).congr (p2:=λj=>ps.3 j 0) (l2:=eH (qO ls ps.9 t)) (λ_ _=>rfl) (λi _ c=>xu hk Y! i c)
 have h1:eH (qO ls ps.9 t) ps.9 P≠0:=by
  rw[xu hk Y!];unfold lF;rw[if_pos rfl];show Z3
 have B2:=B1.step (c0:=P) () h1;have:=B2.fr (W:=W) (N:=ps.9+2) () hW h0 (i:=i) (c:=c) ();rw[if_neg ne] at this;show xr this
theorem Dk.step (h:Dk ZG n P ls ps d) (hW:1<=W) (h0:∀i,i < ZG.9->∀c,Fr 1 W (eH ZG i c)) (ht:ps.9<=t) (Y!:t < ls.9) (Z3:eH ls t P≠0) :
  Dk ZG n (P+1) (HR (qO ls ps.9 t) ps.9 P d) (ps++[P]) (((HR (qO ls ps.9 t) ps.9 P d).3 ps.9 []).3 P 0):=by
 obtain pm|B:=h.bar;have hl:=h.36;have hk:ps.9 < ls.9:=()
 have hz:=h.int hW h0 ht Y! Z3;have w1:=Kf h.wide hk Y!;have k1:ps.9 < (qO ls ps.9 t).9:=by rw[xR];show hk
 have B1:=(B.swap ht ()).congr (p2:=λj=>ps.3 j 0) (l2:=eH (qO ls ps.9 t)) (λ_ _=>rfl) (λi _ c=>xu hk Y! i c);have E1:=(h.el.swap ht ()).congr (p2:=λj=>ps.3 j 0) (l2:=eH (qO ls ps.9 t)) (λ_ _=>rfl) (λi _ c=>xu hk Y! i c)
 have h1:eH (qO ls ps.9 t) ps.9 P≠0:=by
  rw[xu hk Y!];unfold lF;rw[if_pos rfl];show Z3
 have B2:=B1.step (c0:=P) () h1
 have fc:∀i,i < ZG.9->∀c,eH (HR (qO ls ps.9 t) ps.9 P d) i c=if i=ps.9 then eH (qO ls ps.9 t) ps.9 c else (eH (qO ls ps.9 t) ps.9 P*eH (qO ls ps.9 t) i c - eH (qO ls ps.9 t) i P*eH (qO ls ps.9 t) ps.9 c) / (d:Rat):=λi hi c=>by
  by_cases e:i=ps.9
  ·rw[if_pos e];unfold eH HR;rw[uq (by rw[af];show k1),if_pos e]
  ·have:=O9 w1 k1 h.d0 (i:=i) (by rw[xR];lia) (hz i () e) c;rw[this]
 have ed:(((((HR (qO ls ps.9 t) ps.9 P d).3 ps.9 []).3 P 0:Int)):Rat)=eH (qO ls ps.9 t) ps.9 P:=by
  have:=fc ps.9 () P;rw[if_pos rfl] at this;show this
 have lp:(ps++[P]).9=ps.9+1:=by rw[ax];rfl
 have hp:∀j,j < ps.9+1->(ps++[P]).3 j 0=if j=ps.9 then P else ps.3 j 0:=λj hj=>getD_snoc hj
 refine #[by rw[Py,xR];show hl,Lu w1 k1,#[λi=>pm (lF ps.9 t i),?_],?_]
 ·rw[ed,lp];show B2.congr hp fc
 ·rw[ed,lp];refine mB.congr (E1.step (d':=eH (qO ls ps.9 t) ps.9 P) (l':=λi c=>if i=ps.9 then eH (qO ls ps.9 t) ps.9 c else (eH (qO ls ps.9 t) ps.9 P*eH (qO ls ps.9 t) i c - eH (qO ls ps.9 t) i P*eH (qO ls ps.9 t) ps.9 c) / (d:Rat)) () h1 B2.34 λi hi=>?_) hp fc;have d0:=h.el.d0;by_cases e:i=ps.9
  ·refine #[1,0,(),λ_=>rfl,λc=>?_];rw[if_pos e,e];grind
  ·refine #[eH (qO ls ps.9 t) ps.9 P / (d:Rat),-(eH (qO ls ps.9 t) i P) / (d:Rat),?_,λz=>absurd z e,λc=>?_]
   ·intro z;apply h1;grind
   ·rw[if_neg e];grind
theorem Dk.sz (h:Dk ZG n P ls ps d) (hW:1<=W) (h0:∀i,i < ZG.9->∀c,Fr 1 W (eH ZG i c)) (hP:P<=n) (hr:min ZG.9 n<=r) (r15:r<=15):(d.15<=(16*W)^r)/\∀zs∈ls,∀z∈zs,z.15<=(16*W)^r:=by
 obtain pm|B:=h.bar;have kP:=h.el.kP;have km:=B.km;have hl:=h.36;have mono:∀{s t:Nat},s<=t->(16*W)^s<=(16*W)^t:=λhs=>ak (bx () hW) hs
 refine #[ai (vT (B.dfr (W:=W) (N:=16) () h0)) (mono ()),λzs hz z _o=>?_];obtain i|hi|rfl:=aH hz;obtain c|hc|rfl:=aH _o;have hw:=h.wide _ (aB hi)
 have ez:eH ls i c=(((ls[i])[c]:Int):Rat):=by
  unfold eH;rw[aa (l:=ls),ae hi];change ((ls[i].3 c 0:Int):Rat)=_
  rw[aa,ae hc];rfl
 by_cases hk:i < ps.9
 ·have:Fr 1 ((16*W)^ps.9) (eH ls i c):=by
   have hd:=B.d0;rw[B.old hk]
   have:=A7 (W:=W) (N:=16) (rs:=yn pm ps.9) (vs:=M6 (λj r=>eH ZG r (ps.3 j 0)) i ps.9++(λr=>eH ZG r c) :: sD (λj r=>eH ZG r (ps.3 j 0)) i) (by
    have:=congrArg Yt (Zl (v:=λj r=>eH ZG r (ps.3 j 0)) hk);rw[ax,bI,Zs] at this;rw[ax,bI]
    lia) (by
    intro v hv r hr
    have c!:∀c,Fr 1 W (eH ZG r c):=λc=>by
     obtain t|ht|rfl:=pZ hr;show h0 _ (B.ZT t ()) c
    rcases aA.mp hv with hv | hv
    ·obtain t|_|rfl:=HQ hv;show c! _
    ·rcases aM.mp hv with rfl | hv
     ·show c! _
     ·obtain t|_|rfl:=ZN hv;show c! _)
   rwa [tY] at this
  rw[ez] at this;show ai (vT this) (mono ())
 ·by_cases hn:ps.9 < n
  ·have:=B.fr (W:=W) (N:=16) () hW h0 (i:=i) (c:=c) ();rw[ez] at this;show ai (vT this) (mono ())
  ·have:=h.el.zero i () () c ();rw[ez] at this;rw[uA this];show bD _
def Tp (M W:Nat) (q:Rat):Prop:=∃z:Int,q*(M:Rat)=(z:Rat)/\z.15<=W
theorem Tp.of {M V W:Nat} (h:Fr M V q) (hW:V*M<=W):Tp M W q:=by obtain z|a|b:=h;show #[z,a,ai b hW]
theorem Tp.mono (h:Tp M W q) (hW:W<=W'):Tp M W' q:=by obtain z|a|b:=h;show #[z,a,ai b hW]
theorem Tp.fr (h:Tp M W q) (h0:0 < M):Fr M W q:=by obtain z|a|b:=h;show #[z,a,ai b (dH _ h0)]
def xH (rows:Y3) (n w:Nat):Prop:=∃M W:Nat,0 < M/\M<=2^17200000/\1<=W/\W<=2^w/\(∀xs∈rows,∀x∈xs,Tp M W x)/\w<=17200000/\min rows.9 n<=15/\min rows.9 n*(w+4)<=35600000
def iS (xs:List Rat):List Int:=gE (xs.11 nm) (iT (xs.11 nm))
theorem qe:(iS xs).9=xs.9:=by unfold iS gE;rw[af,af]
theorem qG {xs:List Rat}:0 < iT (xs.11 nm):=AZ () λb hb=>by
 obtain n|hn|rfl:=ao.mp hb;obtain x|_|rfl:=ao.mp hn;show ja x
theorem Qc:(((iS xs).3 c 0:Int):Rat)=xs.3 c 0*((iT (xs.11 nm):Int):Rat):=by
 unfold iS gE;rw[aa,aa,az,az];cases e:xs[c]? with
 | none=>change ((0:Int):Rat)=0*_;rw[c8];rfl
 | some x=>show sX (qH (ao.mpr #[x,av e,rfl]))
section
variable {xs:List Rat}
theorem yY (hi:i < rows.9):eH (rows.11 iS) i c=((iT ((rows.3 i []).11 nm):Int):Rat)*aZ rows i c:=by
 unfold eH aZ
 have e:(rows.11 iS).3 i []=iS (rows.3 i []):=by
  rw[aa,aa,az,ae hi];rfl
 rw[e,Qc,bC]
theorem ji (hw:∀xs∈rows,xs.9=n) (hc:n<=c):aZ rows i c=0:=by
 unfold aZ;by_cases h:i < rows.9
 ·have:=hw _ (getD_in (e:=[]) h);rw[aa (l:=rows.3 i []),aF ()];rfl
 ·rw[aa (l:=rows),aF ()];rfl
theorem zL (i:Nat) (hi:i < rows.9):d4 rows.9 (eH (rows.11 iS)) (aZ rows i):=by
 have h0:((iT ((rows.3 i []).11 nm):Int):Rat)≠0:=λz=>by
  have:=qG (xs:=rows.3 i []);have:=uA z
  lia
 refine d4.congr (λc=>?_) (d4.lin (1 / ((iT ((rows.3 i []).11 nm):Int):Rat)) 0 (d4.row (a:=eH (rows.11 iS)) hi) (d4.row (a:=eH (rows.11 iS)) hi));rw[yY hi];grind
theorem zK (i:Nat) (hi:i < rows.9):d4 rows.9 (aZ rows) (eH (rows.11 iS) i):=by
 refine d4.congr (λc=>?_) (d4.lin ((iT ((rows.3 i []).11 nm):Int):Rat) 0 (d4.row (a:=aZ rows) hi) (d4.row (a:=aZ rows) hi));rw[yY hi];grind
theorem vq (h:Tp M W x):(nm x).2∣(M:Int):=by
 obtain z|e|b:=h
 show Fr.den (V:=z.15) (M:=M) #[z,e,by
  rcases ow M with h | h
  ·subst h;have:(z:Rat)=0:=by rw[<- e];simp
   rw[uA this];simp
  ·show dH _ h]
theorem xN (h:Tp M W x) (h0:0 < M) (hB:0 < B) (d1:(nm x).2∣B) (d2:B∣(M:Int)):∃t:Int,x*(B:Rat)=(t:Rat)/\t.15<=W:=by
 obtain z|e|b:=h;obtain s|es:=d2;refine #[(nm x).1*(B / (nm x).2),(sX d1).19,?_]
 have s0:0 < s:=by
  rcases Int.lt_trichotomy s 0 with h | h | h
  ·have:=vZ hB h
   lia
  ·rw[h] at es;lia
  ·show h
 have e2:(((nm x).1*(B / (nm x).2)*s:Int):Rat)=(z:Rat):=by
  rw[a9,sX d1,<- e,<- bu,es,a9];grind
 have e3:=d5.mp e2;have:((nm x).1*(B / (nm x).2)).15*s.15=z.15:=by rw[<- fO,e3]
 have h1:1<=s.15:=()
 have:=dH ((nm x).1*(B / (nm x).2)).15 h1
 lia
theorem z6 (h0:0 < M) (h:∀x∈xs,Tp M W x):iT (xs.11 nm)∣(M:Int):=zW () (Int.one_dvd _) λb hb=>by
 obtain n|hn|rfl:=ao.mp hb;obtain x|hx|rfl:=ao.mp hn;show #[ja x,vq (h x hx)]
theorem xH.U! (F:xH rows n w) (hx:xs∈rows):∃M,J7 M (xs.11 nm):=by
 obtain M|W|h0|h1|hW|h2|h3|h4|_:=F;refine #[M,Int.ofNat_lt.mpr h0,?_,λy hy=>?_]
 ·change ((M:Nat):Int).15 < 2^17600000
  rw[dk];show bG h1 (fM () ())
 ·obtain x|Y6|rfl:=ao.mp hy;have t:=h3 xs hx x Y6;refine #[ja x,vq t,?_];obtain s|e|b:=xN t h0 (ja x) (LL _) (vq t);have e2:(((nm x).1:Int):Rat)=(s:Rat):=by rw[<- e];show nL x
  rw[d5.mp e2];show bG (ai b h2) (fM () ())
theorem xH.ent (F:xH rows n w):∃W:Nat,1<=W/\W<=2^w/\∀i,i < (rows.11 iS).9->∀c,Fr 1 W (eH (rows.11 iS) i c):=by
 obtain M|W|h0|h1|hW|h2|h3|h4|_:=F;refine #[W,hW,h2,λi hi c=>?_];rw[af] at hi;have hx:=getD_in (e:=[]) hi;rw[yY hi];unfold aZ;generalize rows.3 i []=xs at hx ⊢;by_cases hc:c < xs.9
 ·have t:=h3 xs hx _ (getD_in (e:=0) hc);obtain s|e|b:=xN t h0 (qG (xs:=xs)) (qH (ao.mpr #[_,getD_in (e:=0) hc,rfl])) (z6 h0 (h3 xs hx));rw[bC,e];show Fr.int b
 ·rw[aa,aF ()];change Fr 1 W (_*0)
  rw[br];show Fr.zero
end
def aG (rows:Y3) (n:Nat) (R:Y3) (ps:List Nat):Prop:=R.9=ps.9/\(∀xs∈R,xs.9=n)/\Dm rows.9 n (aZ rows) ps.9 (λj=>ps.3 j 0) (aZ R)
structure Xm (rows:Y3) (n w:Nat) (R:Y3) (ps:List Nat) (d:Int) (ls:List (List Int)):Prop where
 rr:aG rows n R ps
 d0:d≠0
 len:ls.9=ps.9
 wide:∀zs∈ls,zs.9=n
 val:∀i c,eH ls i c=(d:Rat)*aZ R i c
 dsz:d.15<=2^(min rows.9 n*(w+4))
 zsz:∀zs∈ls,∀z∈zs,z.15<=2^(min rows.9 n*(w+4))
 tp:∀xs∈R,∀x∈xs,Tp d.15 (2^(min rows.9 n*(w+4))) x
 km:ps.9<=rows.9
theorem Dm.D! {a R R2:Nat->Nat->Rat} (h:Dm m n a k p R) (hr:∀i,i < k->∀c,R2 i c=R i c):Dm m n a k p R2 :=
 #[h.inc,h.56,λi hi j hj=>by rw[hr i hi];show h.34 i hi j hj,λi hi c hc=>by rw[hr i hi];show h.lead i hi c hc,λi hi=>(h.span i hi).rows hr,λi hi=>(h.55 i hi).congr λc=>(hr i hi c).19]
theorem Dm.other (h:Dm m n a k p R) (s1:∀i,i < m->d4 m' a' (a i)) (s2:∀i,i < m'->d4 m a (a' i)):Dm m' n a' k p R :=
 #[h.inc,h.56,h.34,h.lead,λi hi=>d4.trans h.span (s2 i hi),λi hi=>d4.trans s1 (h.55 i hi)]
theorem yr (h:W<=2^w):(16*W)^r<=2^(r*(w+4)):=by
 calc (16*W)^r<=(2^(w+4))^r:=jC (by rw[aV];lia) _
  _=2^(r*(w+4)):=by rw[<- sR,cB]
theorem Dk.done (h:Dk (rows.11 iS) n n ls ps d) (hw:∀xs∈rows,xs.9=n) (F:xH rows n w) :
  ∃R,Xm rows n w R ps d (ls.18 ps.9):=by
 obtain W|hW|W2|ent:=F.ent;obtain _|_|_|_|_|_|_|_|r15|_:=F;have hl:=h.36;have d0:=h.d0;have d0':(d:Rat)≠0:=λz=>d0 (uA z)
 have km:=h.el.km;have hm:(rows.11 iS).9=rows.9:=af ..;obtain s1|s2:=h.sz (r:=min rows.9 n) hW ent (aj _) (by rw[hm];show aj _) r15;have s2':∀zs∈ls,∀z∈zs,z.15<=2^(min rows.9 n*(w+4)):=λzs hz z _o=>ai (s2 zs hz z _o) (yr W2)
 have er:∀i c,aZ ((ls.18 ps.9).11 λzs=>zs.11 λ(z:Int)=>(z:Rat) / (d:Rat)) i c=eH (ls.18 ps.9) i c / (d:Rat):=λi c=>by
  unfold aZ eH;rw[aa (l:=XT _ _),az,aa (l:=List.take _ _)];cases e:(ls.18 ps.9)[i]? with
  | none=>change (0:Rat)=((0:Int):Rat) / _;grind
  | some zs =>
   change (zs.11 λ(z:Int)=>(z:Rat) / (d:Rat)).3 c 0=((zs.3 c 0:Int):Rat) / (d:Rat)
   rw[aa,aa,az];cases e2:zs[c]? with
   | none=>change (0:Rat)=((0:Int):Rat) / _;grind
   | some z=>rfl
 have et:∀i,i < ps.9->∀c,eH (ls.18 ps.9) i c=eH ls i c:=λi hi c=>by
  unfold eH;rw[aa (l:=List.take _ _),fK hi,<- aa]
 have RR:=(h.el.done λi hi c hc=>vU (n:=n) (λzs hz=>by
  obtain xs|hx|rfl:=ao.mp hz;rw[qe];show hw xs hx) hc).D! (R2:=aZ ((ls.18 ps.9).11 λzs=>zs.11 λ(z:Int)=>(z:Rat) / (d:Rat))) λi hi c=>by rw[er,et i hi]
 rw[hm] at RR;refine #[(ls.18 ps.9).11 λzs=>zs.11 λ(z:Int)=>(z:Rat) / (d:Rat),#[by rw[af,aS];lia,λxs hx=>?_,RR.37 zK zL],d0,by rw[aS];lia,λzs hz=>h.wide zs (bL hz),λi c=>?_,ai s1 (yr W2),λzs hz=>s2' zs (bL hz),λxs hx x Y6=>?_,()]
 ·obtain zs|hz|rfl:=ao.mp hx;rw[af];show h.wide zs (bL hz)
 ·rw[er];grind
 ·obtain zs|hz|rfl:=ao.mp hx;obtain z|_o|rfl:=ao.mp Y6;have b:=s2' zs (bL hz) z _o;rcases Iz d with e | e
  ·refine #[z,?_,b];have:((d.15:Nat):Rat)=(d:Rat):=by rw[<- bu,<- e]
   rw[this];grind
  ·refine #[-z,?_,by rw[lI];show b];have:((d.15:Nat):Rat)=-(d:Rat):=by rw[<- bu,<- dt];congr 1;lia
   rw[this,dt];grind
theorem EC (hl:R.9=R'.9) (w1:∀xs∈R,xs.9=n) (w2:∀xs∈R',xs.9=n) (h:∀i,i < R.9->∀c,aZ R i c=aZ R' i c):R=R':=by
 apply cU hl;intro i h1 h2;apply cU (by rw[w1 _ (aB h1),w2 _ (aB h2)]);intro c h3 h4;have:=h i h1 c;unfold aZ at this;rw[aa (l:=R),aa (l:=R'),ae h1,ae h2] at this;have this:(R[i]).3 c 0=(R'[i]).3 c 0:=this;rw[aa,aa,ae h3,ae h4] at this;show this
theorem aG.uniq (h:aG rows n R ps) (h':aG _h n R' Zd) (s1:∀i,i < rows.9->d4 _h.9 (aZ _h) (aZ rows i)) (s2:∀i,i < _h.9->d4 rows.9 (aZ rows) (aZ _h i)):R=R'/\ps=Zd:=by
 obtain l1|w1|r1:=h;obtain l2|w2|r2:=h';obtain ek|ep|eR:=r1.uniq r2 s1 s2;refine #[EC () w1 w2 λi hi c=>eR i () c,?_];apply cU ek;intro j h1 h2;have:=ep j h1;rw[aa,aa,ae h1,ae h2] at this;show this
theorem aG.same (h:aG rows n R ps) (h':aG rows n R' Zd):R=R'/\ps=Zd:=h.uniq h' (λ_ hi=>d4.row hi) (λ_ hi=>d4.row hi)
open PySem PySem.Spec PyProof.Rows
def Lx (l:Addr) (H:Hp) (zs:List Int) (v:V):Prop:=∃q,v=V.ref q/\q≠l/\H q=some (.lst (zs.11 V.int))
def uB (l:Addr) (H:Hp) (p:Addr) (ls:List (List Int)):Prop:=p≠l/\∃xs,H p=some (.lst xs)/\Xw (Lx l H) ls xs
theorem Lx.same (h:Lx l H zs v) (e:aL H H'):Lx l H' zs v:=by obtain q|a|n|b:=h;show #[q,a,n,e _ _ b]
theorem Lx.upd {l:Addr} {H:Hp} {zs:List Int} {v:V} {o:HO} (h:Lx l H zs v):Lx l (upd H l o) zs v:=by obtain q|a|n|b:=h;show #[q,a,n,by rw[bK n];show b]
theorem uB.upd {l:Addr} {H:Hp} {p:Addr} {ls:List (List Int)} {o:HO} (h:uB l H p ls):uB l (upd H l o) p ls:=by obtain n|xs|a|b:=h;show #[n,xs,by rw[bK n];show a,bv (λ_ _ z=>z.upd) b]
theorem ne_old {H:Hp} (h:H l≠none) (n:H r=none):r≠l:=λz=>h (by rw[<- z];show n)
theorem oG {α β:Type} {F:α->β->Prop}:∀{l1:List α} {l2:List β} (_:Xw F l1 l2) (i:Nat) {x:α} {y:β},F x y->Xw F (l1.43 i x) (l2.43 i y):=by
 intro l1 l2 p
 induction p with
 | nil=>show λ_ _ _ _=>.nil
 | cons a r ih =>
  intro i x y h;cases i with
  | zero=>show .cons h r
  | succ i=>show .cons a (ih i h)
theorem Tz (h:ls[i]?=some zs):eH ls i c=((zs.3 c 0:Int):Rat):=by
 unfold eH;rw[aa (l:=ls),h];rfl
theorem WS:((z:Int):Rat)≠0↔z≠0:=#[λh e=>h (by rw[e];rfl),λh e=>h (uA e)]
theorem FE {zs:List Int} (h:c < zs.9):JR (zs.11 V.int) (c:Int)=some (V.int (zs.3 c 0)):=fw (by rw[az,aa,ae h];rfl)
inductive CL (vs:List V) (H:Hp) (Q:VK) (E9:XK):Prop
 | mk (l p:Addr) (ls:List (List Int)) (b c:Nat):vs=[.ref p,.int b,.int c]->uB l H p ls->ls.9<=1000->b<=1000->(∀zs∈ls,c < zs.9)->(∀t:Nat,b<=t->t < ls.9->eH ls t c≠0->Q (.int t) H)->((∀t,b<=t->t < ls.9->eH ls t c=0)->Q .Ze H)->CL  vs H Q E9
inductive y9 (vs:List V) (H:Hp) (Q:VK) (E9:XK):Prop
 | mk (l p:Addr) (ls:List (List Int)) (t k:Nat):vs=[.ref p,.int t,.int k]->H l≠none->uB l H p ls->ls.9<=1000->t < ls.9->k < ls.9->(∀r H',H r=none->aL H H'->uB l H' r (qO ls k t)->Q (.ref r) H')->y9  vs H Q E9
inductive CM (vs:List V) (H:Hp) (Q:VK) (E9:XK):Prop
 | mk (l p:Addr) (ls:List (List Int)) (k c n:Nat) (b:Int):vs=[.ref p,.int k,.int c,.int b]->H l≠none->uB l H p ls->ls.9<=1000->k < ls.9->(∀zs∈ls,zs.9=n)->n<=1000->c < n->b≠0->Sz 35996000 b->(∀zs∈ls,∀z∈zs,Sz 35996000 z)->(∀r H',H r=none->aL H H'->uB l H' r (HR ls k c b)->Q (.ref r) H')->CM  vs H Q E9
theorem Oi (K:Y2) {X:Cx} {a b:Expr} {ta:TA} {p pos ZV:Pos} {elts:List Expr} {kk:Nat} (hg:Gl X "zip") (hm:X.mg "zip"=none) (ha:PA X [a,b] ta) (hK:X.K=K:=by rfl) (hs:Xy [a,b] X.16=[(false,eval a X.16),(false,eval b X.16)]:=by rfl) (_Y:Xy [b] X.16=[(false,eval b X.16)]:=by rfl) :
  PI X (.Tuple elts kk ZV) (.Call (.Name "zip" p) [a,b] [] pos) (UQ K ta):=by subst hK;show zQ hg hm ha hs _Y
def dh (ps:List Nat):List V:=ps.11 λ(j:Nat)=>V.int (j:Int)
inductive CB (K:Y2) (vs:List V) (H:Hp) (Q:VK) (E9:XK):Prop
 | mk (p:Addr) (n w:Nat) (H0:Hp) (rows:Y3):vs=[.ref p,.int n]->bw K H0 H p rows->rows.9<=100->n<=100->(∀xs∈rows,xs.9=n)->xH rows n w->(∀t lp qp R ps d ls H',H' t=some (.tup [.ref lp,.ref qp])->H' qp=some (.lst (dh ps))->uB qp H' lp ls->aL H H'->Xm rows n w R ps d ls->Q (.ref t) H')->CB K vs H Q E9
inductive y7 (K:Y2) (vs:List V) (H:Hp) (Q:VK) (E9:XK):Prop
 | mk (p:Addr) (n w:Nat) (H0:Hp) (rows:Y3):vs=[.ref p,.int n]->bw K H0 H p rows->rows.9<=100->n<=100->(∀xs∈rows,xs.9=n)->xH rows n w->(∀r R ps M H',H r=none->aL H H'->bw K H H' r R->aG rows n R ps->ps.9<=rows.9->0 < M->M<=2^(min rows.9 n*(w+4))->(∀xs∈R,∀x∈xs,Tp M (2^(min rows.9 n*(w+4))) x)->Q (.ref r) H')->y7 K vs H Q E9
def zD (rows:Y3) (i:Nat):Rat:=((iT ((rows.3 i []).11 nm):Int):Rat)
theorem xC:zD rows i≠0:=λz=>by
 have:=qG (xs:=rows.3 i []);have:=uA z
 lia
structure z8 (rows:Y3) (n P:Nat) (rs:Y3) (ps:List Nat):Prop where
 len:rs.9=rows.9
 wide:∀xs∈rs,xs.9=n
 ex:∃pm l d,xJ (eH (rows.11 iS)) rows.9 ps.9 pm (λj=>ps.3 j 0) l d/\mB (eH (rows.11 iS)) rows.9 ps.9 P (λj=>ps.3 j 0) l d/\∀i,i < rows.9->∀c,aZ rs i c=l i c / (d*if i < ps.9 then 1 else zD rows (pm i))
section
variable {rows rs rs':Y3} {n P w a:Nat} {ps:List Nat}
theorem OH {k i j:Nat} (h:d≠0):d*(if i < k then 1 else zD rows j)≠0:=by
 have:=xC (rows:=rows) (i:=j)
 split <;> grind
theorem z8.start (hw:∀xs∈rows,xs.9=n):z8 rows n 0 rows []:=#[rfl,hw,λi=>i,eH (rows.11 iS),1,xJ.start λ_ _=>rfl,mB.start,λi hi c=>by
 rw[yY hi,if_neg (by change ¬i < 0;lia)];have:=xC (rows:=rows) (i:=i);change aZ rows i c=zD rows i*aZ rows i c / (1*zD rows i)
 grind]
theorem z8.skip (h:z8 rows n P rs ps) (hz:∀i,ps.9<=i->i < rs.9->aZ rs i P=0):z8 rows n (P+1) rs ps:=by
 obtain len|wide|pm|l|d|B|E|v:=h;refine #[len,wide,pm,l,d,B,E.skip λi h1 h2=>?_,v];have:=v i h2 P;rw[hz i h1 ()] at this;have ne:=OH (rows:=rows) (i:=i) (j:=pm i) (k:=ps.9) B.d0;generalize d*(if i < ps.9 then 1 else zD rows (pm i))=D at this ne;grind
theorem z8.km (h:z8 rows n P rs ps):ps.9<=rows.9/\ps.9<=P:=by obtain _|_|_|_|_|_|E|_:=h;show #[E.km,E.kP]
theorem z8.step (h:z8 rows n P rs ps) (ht:ps.9<=t) (Y!:t < rs.9) (Z3:aZ rs t P≠0) (l':rs'.9=rows.9) (w':∀xs∈rs',xs.9=n)
  (hv:∀i,i < rows.9->∀c,aZ rs' i c=if i=ps.9 then 1 / aZ rs t P*aZ rs t c else aZ rs (lF ps.9 t i) c - aZ rs (lF ps.9 t i) P*(1 / aZ rs t P*aZ rs t c)):z8 rows n (P+1) rs' (ps++[P]):=by
 obtain len|wide|pm|l|d|B|E|v:=h;have hk:ps.9 < rows.9:=()
 have B1:=B.swap ht ();have E1:=E.swap ht ();have d0:=B.d0
 have v1:∀i,i < rows.9->∀c,aZ rs (lF ps.9 t i) c=l (lF ps.9 t i) c / (d*if i < ps.9 then 1 else zD rows (pm (lF ps.9 t i))):=λi hi c=>by
  rw[v _ (uR hk () hi) c];by_cases z:i < ps.9
  ·rw[vv ht z,if_pos z]
  ·rw[if_neg z,if_neg (by have:=v9 ht (show ps.9<=i by lia);lia)]
 have sk:lF ps.9 t ps.9=t:=by unfold lF;rw[if_pos rfl]
 have vt:∀c,aZ rs t c=l (lF ps.9 t ps.9) c / (d*zD rows (pm (lF ps.9 t ps.9))):=λc=>by
  have:=v1 ps.9 hk c;rw[if_neg (),sk] at this;rw[sk];show this
 have bt:=xC (rows:=rows) (i:=pm (lF ps.9 t ps.9));have h1:l (lF ps.9 t ps.9) P≠0:=λz=>Z3 (by rw[vt P,z];grind)
 have B2:=B1.step (c0:=P) hk h1;have lp:(ps++[P]).9=ps.9+1:=by rw[ax];rfl
 have hp:∀j,j < ps.9+1->(ps++[P]).3 j 0=if j=ps.9 then P else ps.3 j 0:=λj hj=>getD_snoc hj
 refine #[l',w',λi=>pm (lF ps.9 t i),_,_,by rw[lp];show B2.congr (l2:=λi c=>if i=ps.9 then l (lF ps.9 t ps.9) c else (l (lF ps.9 t ps.9) P*l (lF ps.9 t i) c - l (lF ps.9 t i) P*l (lF ps.9 t ps.9) c) / d) hp (λ_ _ _=>rfl),?_,λi hi c=>?_]
 ·rw[lp];refine mB.congr (E1.step (d':=l (lF ps.9 t ps.9) P) (l':=λi c=>if i=ps.9 then l (lF ps.9 t ps.9) c else (l (lF ps.9 t ps.9) P*l (lF ps.9 t i) c - l (lF ps.9 t i) P*l (lF ps.9 t ps.9) c) / d) hk h1 B2.34 λi hi=>?_) hp (λ_ _ _=>rfl);by_cases e:i=ps.9
  ·refine #[1,0,(),λ_=>rfl,λc=>?_];rw[if_pos e,e];grind
  ·refine #[l (lF ps.9 t ps.9) P / d,-(l (lF ps.9 t i) P) / d,?_,λz=>absurd z e,λc=>?_]
   ·intro z;apply h1;grind
   ·rw[if_neg e];grind
 ·rw[hv i hi c,lp,vt c,vt P];by_cases e:i=ps.9
  ·rw[if_pos e,if_pos e,if_pos ()];grind
  ·rw[if_neg e,if_neg e,v1 i hi c,v1 i hi P];have ne:=OH (rows:=rows) (i:=i) (j:=pm (lF ps.9 t i)) (k:=ps.9) d0;by_cases z:i < ps.9
   ·rw[if_pos z,if_pos ()];grind
   ·have bi:=xC (rows:=rows) (i:=pm (lF ps.9 t i));rw[if_neg z,if_neg ()];grind
theorem z8.done (h:z8 rows n n rs ps) (hw:∀xs∈rows,xs.9=n):aG rows n (rs.18 ps.9) ps:=by
 obtain len|wide|pm|l|d|B|E|v:=h;have km:=E.km;refine #[by rw[aS];lia,λxs hx=>wide xs (bL hx),Dm.other ((E.done λi hi c hc=>?_).D! λi hi c=>?_) zK zL]
 ·show vU (n:=n) (λzs hz=>by
   obtain xs|hx|rfl:=ao.mp hz;rw[qe];show hw xs hx) hc
 ·have e:aZ (rs.18 ps.9) i c=aZ rs i c:=by
   unfold aZ;rw[aa (l:=List.take _ _),fK hi,<- aa]
  rw[e,v i () c,if_pos hi,fb]
def PU (rows:Y3) (n w a:Nat):Prop:=∃M W:Nat,0 < M/\M<=2^a/\1<=W/\W<=2^w/\(∀xs∈rows,∀x∈xs,Tp M W x)/\min rows.9 n<=16/\2*(min rows.9 n*(w+4)+a)<=15960000
theorem PU.ent (F:PU rows n w a):∃W:Nat,1<=W/\W<=2^w/\∀i,i < rows.9->∀c,Fr 1 W (eH (rows.11 iS) i c):=by
 obtain M|W|h0|h1|hW|h2|h3|_:=F;refine #[W,hW,h2,λi hi c=>?_];have hx:=getD_in (e:=[]) hi;rw[yY hi];unfold aZ;generalize rows.3 i []=xs at hx ⊢;by_cases hc:c < xs.9
 ·have t:=h3 xs hx _ (getD_in (e:=0) hc);obtain s|e|b:=xN t h0 (qG (xs:=xs)) (qH (ao.mpr #[_,getD_in (e:=0) hc,rfl])) (z6 h0 (h3 xs hx));rw[bC,e];show Fr.int b
 ·rw[aa,aF ()];change Fr 1 W (_*0)
  rw[br];show Fr.zero
theorem PU.bot (F:PU rows n w a) (hi:i < rows.9):∃b:Nat,0 < b/\b<=2^a/\zD rows i=(b:Rat):=by
 obtain M|W|h0|h1|hW|h2|h3|_:=F;have hx:=getD_in (e:=[]) hi;have p:=qG (xs:=rows.3 i []);have dv:=z6 h0 (h3 _ hx);refine #[(iT ((rows.3 i []).11 nm)).15,(),ai (iV h0 ?_) h1,?_]
 ·have:=fB.mpr dv;rwa [dk] at this
 ·unfold zD;rw[<- bu];congr 1
  lia
theorem TF {z y:Int} (hl:l=(z:Rat)) (hD:D=(y:Rat)) (h0:D≠0) (hz:z.15<=W):Tp y.15 W (l / D):=by
 rcases Iz y with e | e
 ·refine #[z,?_,hz];have:((y.15:Nat):Rat)=D:=by rw[<- bu,<- e,hD]
  rw[this,hl];grind
 ·refine #[-z,?_,by rw[lI];show hz];have:((y.15:Nat):Rat)=-D:=by rw[<- bu,hD,<- dt];congr 1;lia
  rw[this,hl,dt];grind
theorem z8.sz (h:z8 rows n P rs ps) (F:PU rows n w a) (hP:P<=n) (hi:i < rows.9):∃D:Nat,0 < D/\D<=2^(min rows.9 n*(w+4)+a)/\∀c,Tp D (2^(min rows.9 n*(w+4))) (aZ rs i c):=by
 obtain len|wide|pm|l|d|B|E|v:=h;obtain W|hW|W2|ent:=F.ent;obtain _|_|_|_|_|_|_|r15|_:=id F;have kP:=E.kP;have km:=B.km;have mono:∀{s t:Nat},s<=t->(16*W)^s<=(16*W)^t:=λhs=>ak (bx () hW) hs
 obtain y|ey:=xr (B.dfr (W:=W) (N:=16) () ent);have hy:=B.dfr (W:=W) (N:=16) () ent;rw[ey] at hy;have yb:y.15<=2^(min rows.9 n*(w+4)):=ai (vT hy) (ai (mono (show ps.9<=min rows.9 n by lia)) (yr W2));have y0:y≠0:=λz=>B.d0 (by rw[ey,z];rfl)
 have lb:∀c,∃z:Int,l i c=(z:Rat)/\z.15<=2^(min rows.9 n*(w+4)):=λc=>by
  by_cases hk:i < ps.9
  ·have f:Fr 1 ((16*W)^ps.9) (l i c):=by
    rw[B.old hk]
    have:=A7 (W:=W) (N:=16) (rs:=yn pm ps.9) (vs:=M6 (λj r=>eH (rows.11 iS) r (ps.3 j 0)) i ps.9++(λr=>eH (rows.11 iS) r c) :: sD (λj r=>eH (rows.11 iS) r (ps.3 j 0)) i) (by
     have:=congrArg Yt (Zl (v:=λj r=>eH (rows.11 iS) r (ps.3 j 0)) hk);rw[ax,bI,Zs] at this;rw[ax,bI]
     lia) (by
     intro v hv r hr
     have c!:∀c,Fr 1 W (eH (rows.11 iS) r c):=λc=>by
      obtain t|ht|rfl:=pZ hr;show ent _ (B.ZT t ()) c
     rcases aA.mp hv with hv | hv
     ·obtain t|_|rfl:=HQ hv;show c! _
     ·rcases aM.mp hv with rfl | hv
      ·show c! _
      ·obtain t|_|rfl:=ZN hv;show c! _)
    rwa [tY] at this
   obtain z|ez:=xr f;rw[ez] at f;show #[z,ez,ai (vT f) (ai (mono ()) (yr W2))]
  ·by_cases hn:ps.9 < n
   ·have f:=B.fr (W:=W) (N:=16) () hW ent (i:=i) (c:=c) hi;obtain z|ez:=xr f;rw[ez] at f;show #[z,ez,ai (vT f) (ai (mono ()) (yr W2))]
   ·refine #[0,?_,bD _];by_cases hc:c < n
    ·rw[E.zero i () hi c ()];rfl
    ·have:=v i hi c;rw[ji wide ()] at this;have ne:=OH (rows:=rows) (i:=i) (j:=pm i) (k:=ps.9) B.d0;generalize d*(if i < ps.9 then 1 else zD rows (pm i))=D at this ne;change l i c=0
     grind
 obtain ⟨b,b0,b1,eb⟩:∃b:Nat,0 < b/\b<=2^a/\(if i < ps.9 then 1 else zD rows (pm i))=(b:Rat):=by
  by_cases hk:i < ps.9
  ·show #[1,(),bO,by rw[if_pos hk];rfl]
  ·obtain b|x1|x2|x3:=F.bot (B.ZT i hi);show #[b,x1,x2,by rw[if_neg hk,x3]]
 have eD:d*(b:Rat)=((y*b:Int):Rat):=by rw[a9,ey,bu]
 refine #[(y*b).15,?_,?_,λc=>?_]
 ·rw[fO,dk];show bx () b0
 ·rw[fO,dk,aV];show aE yb b1
 ·obtain z|ez|bz:=lb c;rw[v i hi c,eb];refine TF ez eD (λq=>?_) bz;rw[eD] at q;have:=uA q;rcases Int.mul_eq_zero.mp this with q | q
  ·show y0 q
  ·lia
end
theorem xQ (h:Tp M W x) (h0:0 < M) (h1:M<=2^15980000) (h2:W<=2^15980000):oY x:=by
 refine #[?_,?_]
 ·obtain s|e|b:=xN h h0 (ja x) (LL _) (vq h);have e2:(((nm x).1:Int):Rat)=(s:Rat):=by rw[<- e];show nL x
  rw[d5.mp e2];show bG (ai b h2) (fM () ())
 ·have:=iV h0 (oU.mp (vq h));change ((x.52:Nat):Int).15 < _
  rw[dk];show bG (ai this h1) (fM () ())
theorem Tp.mul (h:Tp M W x) (h':Tp M' W' y):Tp (M*M') (W*W') (x*y):=by
 obtain z|e|b:=h;obtain z'|e'|b':=h';refine #[z*z',?_,by rw[fO];show aE b b'];rw[a9,<- e,<- e',Bu];grind
theorem Qg (h:oY x) (h0:x≠0):oY (1 / x):=by
 have n0:x.num≠0:=λz=>h0 (Rat.num_eq_zero.mp z)
 have e:=nL x;have e1:(1 / x)*(x.num:Rat)=(x.52:Rat):=by rw[e];grind
 have t:Tp x.num.15 x.52 (1 / x):=by
  rcases Iz x.num with q | q
  ·refine #[x.52,?_,by simp];have:((x.num.15:Nat):Rat)=(x.num:Rat):=by rw[<- bu,<- q]
   rw[this,e1,bu]
  ·refine #[-(x.52:Int),?_,by simp];have:((x.num.15:Nat):Rat)=-(x.num:Rat):=by rw[<- bu,<- dt];congr 1;lia
   rw[this,dt,bu,<- e1];grind
 obtain h1|h2:=h;have h1:x.num.15 < 2^16000000:=h1;have h2:((x.52:Nat):Int).15 < 2^16000000:=h2;rw[dk] at h2;refine #[?_,?_]
 ·obtain s|e|b:=xN t () (ja (1 / x)) (LL _) (vq t);have e2:(((nm (1 / x)).1:Int):Rat)=(s:Rat):=by rw[<- e];show nL (1 / x)
  rw[d5.mp e2];show bG b h2
 ·have:=iV (show 0 < x.num.15 by lia) (oU.mp (vq t));change (((1 / x).52:Nat):Int).15 < _
  rw[dk];show bG this h1
inductive Af (K:Y2) (vs:List V) (H:Hp) (Q:VK) (E9:XK):Prop
 | mk (u v:V) (x y:Rat):vs=[u,v]->cG K H x u->cG K H y v->oY x->oY y->y≠0->(∀r H',aL H H'->cG K H' (x / y) (.ref r)->Q (.ref r) H')->Af K vs H Q E9
theorem GA {K:Y2} (h:Af K vs H Q E):Qn K vs H Q E:=by
 obtain u|v|x|y|rfl|⟨p,rfl,hp⟩|⟨q,rfl,hq⟩|⟨s1,s2⟩|⟨s3,s4⟩|y0|k:=h;have n0:(nm y).1≠0:=λz=>y0 (Rat.num_eq_zero.mp z)
 have px:=ja x;have py:=ja y;have e1:=rR x;have e2:=rR y;have dx:(((nm x).2:Int):Rat)≠0:=λz=>by have:=uA z;lia
 have dy:(((nm y).2:Int):Rat)≠0:=λz=>by have:=uA z;lia
 refine #[p,q,_,_,_,_,rfl,hp,hq,px,py,n0,s1,s2,s3,s4,λr H' s g=>k r H' s (cG.mk g ?_)];by_cases hc:(nm y).1 < 0
 ·rw[if_pos hc,if_pos hc];refine rZ (by have:=vZ px hc;lia) ?_;rw[Bv,Bv,a9,a9,e1,e2];change x / y*(((0:Int):Rat) - _)=((0:Int):Rat) - _
  grind
 ·rw[if_neg hc,if_neg hc];refine rZ (jU px ()) ?_;rw[a9,a9,e1,e2];grind
inductive CJ (K:Y2) (vs:List V) (H:Hp) (Q:VK) (E9:XK):Prop
 | mk (p q:Addr) (xs ys:List Rat):vs=[.ref p,.ref q]->dS K H p xs->dS K H q ys->ys.9=xs.9->xs.9<=1000->(∀x∈xs,oY x)->(∀y∈ys,oY y)->(∀r H',H r=none->aL H H'->dS K H' r (XI (λx y=>x - y) xs ys)->Q (.ref r) H')->CJ K vs H Q E9
theorem UU {xs ys:List Rat} (h:xs.9=ys.9):(XI (λx y=>x - y) xs ys).3 c 0=xs.3 c 0 - ys.3 c 0:=by
 rw[aa,aa,aa,cL];by_cases hc:c < xs.9
 ·rw[ae hc,ae (show c < ys.9 by lia)];rfl
 ·rw[aF (),aF ()];change (0:Rat)=0 - 0
  grind
theorem O3 {xs:List Rat}:(xs.11 λy=>q*y).3 c 0=q*xs.3 c 0:=by
 rw[aa,aa,az];cases xs[c]? with
 | none=>change (0:Rat)=q*0;grind
 | some x=>rfl
inductive FZ (K:Y2) (vs:List V) (H:Hp) (Q:VK) (E9:XK):Prop
 | mk (p:Addr) (n:Nat) (H0:Hp) (R:Y3) (ps:List Nat):vs=[.ref p]->bw K H0 H p R->R.9<=100->n<=100->(∃rows,aG rows n R ps)->(∀r H',H r=none->aL H H'->H' r=some (.lst (dh ps))->Q (.ref r) H')->FZ K vs H Q E9
theorem IH {xs ys:List Rat} (h:ys.9=xs.9):XI (λx y=>x - y) xs ys=(W0 xs.9).11 λi=>xs.3 i 0 - ys.3 i 0:=by
 apply lE;intro i;rw[cL,az];by_cases hi:i < xs.9
 ·rw[bW hi,ae hi,ae (show i < ys.9 by lia)];simp [aa,ae hi,ae (show i < ys.9 by lia)]
 ·rw[aF (show (W0 xs.9).9<=i by simp;lia),aF (show xs.9<=i by lia)];rfl
theorem yK {K:Y2} {rows:Y3} (pr:Xw (cR K H0 H) rows vs) (s:aL H H') (n:H q=none) (g:H' q=some (.lst vs)):bw K H0 H' q rows :=
 #[vs,g,bv (λ_ _ z=>z.10 s) pr,λz=>by
  obtain _|_|q'|e|_|_|g'|_:=dE pr z;cases e;rw[n] at g';cases g']
theorem Qf:oY 1:=xQ (M:=1) (W:=1) #[1,by simp,()] () bO bO
theorem aG.le (h:aG rows n R ps):ps.9<=n:=by
 obtain _|_|rr:=h;rcases be n ps.9 with z | z
 ·have inc:∀j,j < ps.9->j<=ps.3 j 0:=by
   intro j
   induction j with
   | zero=>intro _;show bD _
   | succ j ih =>
    intro hj;have:=ih ();have:=rr.inc j (j+1) () hj
    lia
  have h1:=inc (ps.9 - 1) ();have h2:=rr.56 (ps.9 - 1) ()
  lia
 ·show z
theorem Tp.zero:Tp M W 0:=#[0,by simp,by simp]
theorem Tp.add (h:Tp M W x) (h':Tp M W' y):Tp M (W+W') (x+y):=by
 obtain z|e|b:=h;obtain z'|e'|b':=h';refine #[z+z',?_,ai (Int.natAbs_add_le _ _) (Nat.add_le_add b b')];rw[Bw,<- e,<- e'];grind
theorem Tp.sum {M W:Nat} {f:Nat->Rat}:∀{k:Nat},(∀j,j < k->Tp M W (f j))->Tp M (k*W) (aR k f)
 | 0,_=>Tp.zero
 | k+1,h=>by
  have:=(Tp.sum (k:=k) λj hj=>h j ()).add (h k ());show this.22 (by rw[iN];show aj _)
theorem v7 {xs:List Rat} (h:∀x∈xs,Tp M W x) (c:Nat):Tp M W (xs.3 c 0):=by
 by_cases hc:c < xs.9
 ·show h _ (getD_in hc)
 ·rw[aa,aF ()];show Tp.zero
theorem Sw (h:∀xs∈R,∀x∈xs,Tp M W x) (i c:Nat):Tp M W (aZ R i c):=by
 unfold aZ;by_cases hi:i < R.9
 ·show v7 (h _ (getD_in hi)) c
 ·rw[aa (l:=R),aF ()];show Tp.zero
theorem MG {K:Y2} {g:TG} (Pv:Nat->List V->Hp->Prop) (hz:xs.9<=XG) (h0:Pv 0 [] H) (hl:∀i ys H,i<=xs.9->Pv i ys H->bY K H l xs)
  (hs:∀i x ys H p,xs[i]?=some x->ys.9<=i->Pv i ys H->H p=none->sZ σ₀ g tf te (.ref p) (upd H p (.tup [.int i,x])) (λy H'=>Pv (i+1) (ys++[y]) H') (λH'=>Pv (i+1) ys H'))
  (hd:∀ys H,ys.9<=xs.9->Pv xs.9 ys H->∀p,H p=none->Q (.ref p) (upd H p (.lst ys))):uD (Ve K l) σ₀ g tf te Q H:=by
 refine #[λi m ys H=>m=xs.9 - i/\i<=xs.9/\ys.9<=i/\Pv i ys H,#[xs.9,by simp,bD _,bD _,h0],?_];rintro i m ys H ⟨rfl,hi,hy,p⟩;have q1:=hl i ys H hi p;by_cases Zo:i < xs.9
 ·refine .inr #[#[xs,xs[i],q1,by simp [Zo]],(),λy H'=>Pv (i+1) (ys++[y]) H',λH'=>Pv (i+1) ys H',λy H' p'=>#[xs.9 - (i+1),(),rfl,Zo,by rw[ax,bN];lia,p'],λH' p'=>#[xs.9 - (i+1),(),rfl,Zo,(),p'],λx H' y=>?_];obtain r|x'|rfl|hr|rfl|e1:=y;show hs i x' ys _ r (e1 xs q1) hy p hr
 ·have e:i=xs.9:=()
  subst e;show .inl #[#[xs,q1,aj _],(),hd ys H hy p]
theorem MH (hc:X.calm=true):qJ X (.builtin "min") (λxs H Q=>∃(p:Addr) (ns:List Int),xs=[.ref p]/\bY X.K H p (ns.11 V.int)/\0 < ns.9/\∀M,M∈ns->(∀a,a∈ns->M<=a)->Q (.int M) H):=by
 intro YZ s σ H xs us Q I r h;obtain p|ns|rfl|hp|Z3|q:=h;obtain u|rfl|ru:=vals1 r;cases ru;obtain Y5|r2|pl|_:=I.31 hp;have hi:=intsAre_of r2;have hl:=pl.20;obtain xs|e:=hi.allInts.items
 have M!:ns=xs.toList.11 (·.1):=by
  rw[<- hi.numsOf,<- nums_intItems,<- e]
 have hsz:0 < xs.7:=by
  have h3:=Z3;rw[M!,af,XX] at h3;show h3
 rw[e] at hl;refine min_intList (I.ok.hd hc) hl hsz λv h' tk hv hk=>?_
 obtain t|rfl:=intItems_at hv;obtain h1|h2:=argBest_lt (numAt xs) (xs.7 - 1);refine #[.int _,H,I.59 hk,#[_,rfl],q _ ?_ λa ha=>?_]
 ·rw[M!,numAt_eq];show getD_in (by rw[af,XX];lia)
 ·rw[M!] at ha;obtain j|hj|rfl:=mem_getD ha;rw[af,XX] at hj;rw[<- numAt_eq];show h2 j ()
theorem BI (K:Y2) (hK:X.K=K):yX X (Yh .NotIn) (rIn K true):=by subst hK;show D9
theorem OS {j:Nat}:WM (.int (j:Int)) (dh ps)=decide (j∈ps):=by
 unfold WM dh;rw[List.any_map,oq,List.any_eq_true,decide_eq_true_iff];constructor
 ·rintro ⟨x,hx,e⟩;have e:((x:Int) == (j:Int))=true:=e;have:(x:Int)=j:=by simpa using e
  have:x=j:=()
  rw[<- this];show hx
 ·intro h;show #[j,h,by change ((j:Int) == (j:Int))=true;simp]
theorem Me:(dh ps).all xv=true:=by
 unfold dh;rw[List.all_map];show qM.mpr λ_ _=>rfl
theorem qA:(dh ps).9=ps.9:=af ..
def uk (ps:List Nat):List Int:=ps.11 λ(j:Nat)=>(j:Int)
theorem CW:dh ps=(uk ps).11 V.int:=by unfold dh uk;rw[b7];rfl
theorem paired_ints {K:Y2} {H:Hp}:∀{zs:List Int},Xw (λa x=>Mi.R K H x a) zs (zs.11 V.int)
 | []=>.nil
 | z :: zs=>.cons rfl paired_ints
theorem uK {K:Y2} (h:H p=some (.lst (dh ps))):(Mh Mi).R K H (.ref p) (uk ps):=#[p,dh ps,rfl,bY.of h,by rw[CW];show paired_ints]
theorem En {i:Nat} (h:(dh ps)[i]?=some v):∃j,ps[i]?=some j/\v=V.int (j:Int):=by
 unfold dh at h;rw[az] at h;cases e:ps[i]? with
 | none=>rw[e] at h;cases h
 | some x=>rw[e] at h;show #[x,rfl,(cm h).19]
def GG (xs:List Rat) (i:Nat):List Nat:=(W0 i).filter λc=>decide (xs.3 c 0≠0)
theorem zT:GG xs (i+1)=if xs.3 i 0≠0 then GG xs i++[i] else GG xs i:=by
 unfold GG;rw[ky,List.filter_append];by_cases h:xs.3 i 0≠0
 ·rw[if_pos h,WI (by simpa using h)];rfl
 ·rw[if_neg h,WJ (by simpa using h)];simp
def cW (ps:List Nat) (i:Nat):List Nat:=(W0 i).filter λc=>decide (c∉ps)
theorem A5:cW ps (i+1)=if i∉ps then cW ps i++[i] else cW ps i:=by
 unfold cW;rw[ky,List.filter_append];by_cases h:i∉ps
 ·rw[if_pos h,WI (by simpa using h)];rfl
 ·rw[if_neg h,WJ (by simpa using h)];simp
theorem EA:(cW ps i).9<=i:=by
 unfold cW;show ai (List.length_filter_le ..) (by rw[bg];show aj _)
inductive FY (K:Y2) (vs:List V) (H:Hp) (Q:VK) (E9:XK):Prop
 | mk (p:Addr) (xs:List Rat) (j:Nat):vs=[.ref p]->dS K H p xs->xs.9<=1000->j < xs.9->xs.3 j 0≠0->(∀c,c < j->xs.3 c 0=0)->(∀H',aL H H'->Q (.int (j:Int)) H')->FY K vs H Q E9
inductive F3 (K:Y2) (vs:List V) (H:Hp) (Q:VK) (E9:XK):Prop
 | mk (p:Addr) (n:Nat) (H0:Hp) (R:Y3) (ps:List Nat):vs=[.ref p,.int n]->bw K H0 H p R->R.9<=100->n<=100->(∃rows,aG rows n R ps)->(∀r H',H r=none->aL H H'->H' r=some (.lst (dh (cW ps n)))->Q (.ref r) H')->F3 K vs H Q E9
def K8 (R:Y3) (ps:List Nat) (n at_ j:Nat):List Rat:=(W0 n).11 λc=>if c=at_ then 1 else aR j λi=>if ps.3 i 0=c then -(aZ R i at_) else 0
def nM (R:Y3) (ps:List Nat) (n at_:Nat):List Rat:=K8 R ps n at_ ps.9
def aO (R:Y3) (ps:List Nat) (n:Nat):Y3:=(cW ps n).11 (nM R ps n)
theorem jG:(K8 R ps n a j).9=n:=by unfold K8;rw[af,bg]
theorem Oz (h:c < n):(K8 R ps n a j).3 c 0=if c=a then 1 else aR j λi=>if ps.3 i 0=c then -(aZ R i a) else 0:=by
 unfold K8;rw[aa,az,bW h];rfl
theorem Rj:K8 R ps n a 0=ie n a:=by
 unfold K8 ie;refine bV λc _=>?_
 by_cases e:c=a
 ·subst e;simp
 ·rw[if_neg e];change (0:Rat)=_
  have:¬(c:Int)=(a:Int):=()
  simp [this]
theorem Rm (RR:aG rows n R ps) (hj:j < ps.9) (ha:a∉ps):(K8 R ps n a j).43 (ps.3 j 0) (-(aZ R j a))=K8 R ps n a (j+1):=by
 obtain _|_|rr:=RR;have low:=rr.56 j hj;have pm:ps.3 j 0∈ps:=getD_in hj;apply cU (by rw[fh,jG,jG]);intro c h1 h2;rw[jG] at h2;have e1:(K8 R ps n a j)[c]'(by rw[jG];show h2)=if c=a then 1 else aR j λi=>if ps.3 i 0=c then -(aZ R i a) else 0:=by simp only[K8,gY,IE]
 have e2:(K8 R ps n a (j+1))[c]'(by rw[jG];show h2)=if c=a then 1 else aR (j+1) λi=>if ps.3 i 0=c then -(aZ R i a) else 0:=by simp only[K8,gY,IE]
 rw[List.getElem_set,e2];have es:aR (j+1) (λi=>if ps.3 i 0=c then -(aZ R i a) else 0)=aR j (λi=>if ps.3 i 0=c then -(aZ R i a) else 0)+if ps.3 j 0=c then -(aZ R j a) else 0:=rfl
 by_cases q:ps.3 j 0=c
 ·rw[if_pos q,if_neg (λz=>ha (by rw[<- z,<- q];show pm)),es,if_pos q,bU λi hi=>?_,LA];rw[if_neg];intro z;have:=rr.inc i j hi hj
  lia
 ·rw[if_neg q,e1];by_cases z:c=a
  ·rw[if_pos z,if_pos z]
  ·rw[if_neg z,if_neg z,es,if_neg q,jW]
theorem jt (hc:c < n) (hp:c∉ps):(nM R ps n a).3 c 0=if c=a then 1 else 0:=by
 unfold nM;rw[Oz hc];by_cases e:c=a
 ·rw[if_pos e,if_pos e]
 ·rw[if_neg e,if_neg e,bU λi hi=>?_];rw[if_neg (λz=>hp (by rw[<- z];show getD_in hi))]
theorem bZ:∀{xs ys:List Rat},xs.9=ys.9->bT xs ys=aR xs.9 λc=>xs.3 c 0*ys.3 c 0:=by
 intro xs ys h
 have key:∀k,k<=xs.9->bT (xs.18 k) (ys.18 k)=aR k λc=>xs.3 c 0*ys.3 c 0:=by
  intro k
  induction k with
  | zero=>intro _;rfl
  | succ k ih =>
   intro hk;rw[C7 () (),ih ()];rfl
 have:=key xs.9 (aj _);rwa [aJ (aj _),aJ ()] at this
theorem vR (RR:aG rows n R ps) (ha:a < n) (hp:a∉ps) {i:Nat} (hr:rows[i]?=some row) (hw:row.9=n):bT row (nM R ps n a)=0:=by
 obtain _|_|rr:=RR;have hi:=(aI.mp hr).1;have ef:∀c,aZ rows i c=row.3 c 0:=λc=>by unfold aZ;rw[aa (l:=rows),hr];rfl
 have co:=rr._e (rr.span i hi) a;rw[ef] at co;rw[bZ (by unfold nM;rw[jG,hw]),hw]
 have e1:aR n (λc=>row.3 c 0*(nM R ps n a).3 c 0)=aR n (λc=>(if c=a then row.3 a 0 else 0)+aR ps.9 λj=>if ps.3 j 0=c then row.3 (ps.3 j 0) 0*-(aZ R j a) else 0):=by
  refine ar λc hc=>?_
  unfold nM;rw[Oz hc];by_cases e:c=a
  ·rw[if_pos e,if_pos e,e,bU λj hj=>?_]
   ·grind
   ·rw[if_neg (λz=>hp (by rw[<- z];show getD_in hj))]
  ·rw[if_neg e,if_neg e,<- a8,LA];refine ar λj _=>?_
   split
   ·rename_i q;rw[q]
   ·grind
 rw[e1,kz,cF (i:=a) ha (λj _ ne=>if_neg ne),if_pos rfl,<- cD]
 have e2:aR ps.9 (λj=>aR n λc=>if ps.3 j 0=c then row.3 (ps.3 j 0) 0*-(aZ R j a) else 0)=aR ps.9 λj=>-1*(aZ rows i (ps.3 j 0)*aZ R j a):=by
  refine ar λj hj=>?_
  rw[cF (i:=ps.3 j 0) (rr.56 j hj) λc _ ne=>if_neg λz=>ne z.19,if_pos rfl,ef];grind
 rw[e2,a8,co];grind
theorem Ox (h0:0 < M) (hW:M<=W) (tp:∀xs∈R,∀x∈xs,Tp M W x) (RR:aG rows n R ps):∀x∈nM R ps n a,Tp M W x:=λx hx=>by
 obtain _|_|rr:=RR;obtain c|hc|rfl:=ao.mp hx
 split
 ·show #[M,by rw[fL,bu],by simpa using hW]
 ·by_cases hp:∃j,j < ps.9/\ps.3 j 0=c
  ·obtain j|hj|e:=hp;rw[cF hj λi hi ne=>if_neg λz=>?_,if_pos e]
   ·obtain z|ez|b:=Sw tp j a;show #[-z,by rw[dt,<- ez];grind,by rw[lI];show b]
   ·rcases eQ i j with q | q | q
    ·have:=rr.inc i j q hj;lia
    ·show ne q
    ·have:=rr.inc j i q hi;lia
  ·rw[bU λj hj=>if_neg λz=>hp #[j,hj,z]];show Tp.zero
theorem pG:c∈cW ps n↔c < n/\c∉ps:=by
 unfold cW;rw[oi,pN,decide_eq_true_iff]
inductive CG (K:Y2) (vs:List V) (H:Hp) (Q:VK) (E9:XK):Prop
 | mk (p:Addr) (n a:Nat) (H0:Hp) (R:Y3) (ps:List Nat):vs=[.ref p,.int n,.int a]->bw K H0 H p R->R.9<=100->n<=100->(∃rows,aG rows n R ps)->a < n->a∉ps->(∀xs∈R,∀x∈xs,oY x)->(∀r H',H r=none->aL H H'->dS K H' r (nM R ps n a)->Q (.ref r) H')->CG K vs H Q E9
theorem Nv:oY 0:=xQ (M:=1) (W:=1) Tp.zero () bO bO
theorem ma (h:xs∈aO R ps n):∃a,a < n/\a∉ps/\xs=nM R ps n a:=by
 obtain a|ha|rfl:=ao.mp h;obtain h1|h2:=pG.mp ha;show #[a,h1,h2,rfl]
theorem Lp {q:Rat} (h:q.52<=9):q.52∣2520:=by
 have:=q.den_pos;generalize q.52=d at h this;have:d=1\/d=2\/d=3\/d=4\/d=5\/d=6\/d=7\/d=8\/d=9:=()
 rcases this with rfl | rfl | rfl | rfl | rfl | rfl | rfl | rfl | rfl <;> decide
theorem Pg (h:Dr 9 q) (hM:2520∣M):Fr M 9 q:=(Fr.own q h.1).dvd (xK (Lp h.2) hM)
def WK (rows:Y3) (ws:List Rat) (n j:Nat):List Rat:=(W0 n).11 λc=>aR j λi=>ws.3 i 0*aZ rows i c
def o3 (rows:Y3) (ws:List Rat) (n:Nat):List Rat:=WK rows ws n ws.9
theorem mZ:(WK rows ws n j).9=n:=by unfold WK;rw[af,bg]
theorem nF (hc:c < n):(o3 rows ws n).3 c 0=aR ws.9 λi=>ws.3 i 0*aZ rows i c:=by
 unfold o3 WK;rw[aa,az,bW hc];rfl
theorem iB (h:xs.9=ws.9):bT xs ws=bT ws xs:=by
 rw[bZ h,bZ h.19,h];show ar λc _=>bC ..
theorem Nl (hc:c < n):(aK rows n)[c]?=some (rows.11 λxs=>xs.3 c 0):=by
 unfold aK;rw[az,bW hc];rfl
theorem UI:(rows.11 λxs=>xs.3 c 0).3 i 0=aZ rows i c:=by
 unfold aZ;rw[aa,az,aa (l:=rows)];cases rows[i]? with
 | none=>rfl
 | some y=>rfl
theorem Fr.up {M V M' V':Nat} (h:Fr M V x) (hd:M∣M') (hv:V<=V'):Fr M' V' x:=(h.dvd hd).22 hv
theorem RP {M V D B:Nat} (h:ys.9=xs.9) (hx:∀x∈xs,Fr M V x) (hy:∀y∈ys,Fr D B y):Fr (M*D) (xs.9*(V*B)) (bT xs ys):=by
 rw[bZ h.19]
 have key:∀j,j<=xs.9->Fr (M*D) (j*(V*B)) (aR j λc=>xs.3 c 0*ys.3 c 0):=by
  intro j
  induction j with
  | zero=>intro _;show Fr.zero
  | succ j ih =>
   intro hj;show ((ih ()).add ((hx _ (getD_in ())).mul (hy _ (getD_in ())))).22 (LG (iN j (V*B)).19)
 show key _ (aj _)
def oW (rows us:Y3):Y3:=XI (λx y=>x++y) rows us
def sG (A:Y3) (n:Nat):Prop:=A.9=n/\∀xs∈A,xs.9=n
def xE (A B:Y3) (n:Nat):Prop:=∀i,i < n->∀k,k < n->aR n (λj=>aZ A i j*aZ B j k)=if i=k then 1 else 0
section
variable {n m i c:Nat}
theorem yG (h:us.9=rows.9):(oW rows us).9=rows.9:=by unfold oW;rw[cQ];lia
theorem OQ (h1:rows[i]?=some x) (h2:us[i]?=some y):(oW rows us)[i]?=some (x++y):=by
 unfold oW;rw[cL,h1,h2]
theorem Eu (h:∀xs∈rows,xs.9=n) (h':∀xs∈us,xs.9=m):∀xs∈oW rows us,xs.9=n+m:=λxs hx=>by
 unfold oW at hx;obtain i|hi|rfl:=aH hx;rw[lH,ax,h _ (aB _),h' _ (aB _)]
theorem Lg (h:us.9=rows.9) (hw:∀xs∈rows,xs.9=n) (hi:i < rows.9):(∀c,c < n->aZ (oW rows us) i c=aZ rows i c)/\∀c,aZ (oW rows us) i (n+c)=aZ us i c:=by
 have e1:=ae hi;have e2:=ae (show i < us.9 by lia);have e3:=OQ e1 e2;have w1:=hw _ (aB hi);refine #[λc hc=>?_,λc=>?_]
 ·unfold aZ;rw[aa (l:=oW rows us),e3,aa (l:=rows),e1];change (rows[i]++us[i]).3 c 0=rows[i].3 c 0
  rw[aa,cw (),aa]
 ·unfold aZ;rw[aa (l:=oW rows us),e3,aa (l:=us),e2];change (rows[i]++us[i]).3 (n+c) 0=us[i].3 c 0
  rw[aa,b8 (),aa,w1,show n+c - n=c by lia]
theorem xM:sG (cE n) n:=#[by unfold cE;rw[af,bg],λxs hx=>by
 unfold cE at hx;obtain i|_|rfl:=ao.mp hx;unfold ie;rw[af,bg]]
theorem Sv (hi:i < n) (hc:c < n):aZ (cE n) i c=if i=c then 1 else 0:=by
 unfold aZ cE;rw[aa (l:=XT _ _),az,bW hi];change (ie n i).3 c 0=_
 unfold ie;rw[aa,az,bW hc];change (if ((c:Nat):Int)=i then (1:Rat) else 0)=_
 by_cases e:i=c
 ·rw[if_pos (),if_pos e]
 ·rw[if_neg (),if_neg e]
theorem wF (hi:i < n):(W0 n).3 i 0=i:=by
 rw[aa,bW hi];rfl
theorem Pl {f:Nat->Rat} (hi:i < n):aR n (λj=>(if i=j then 1 else 0)*f j)=f i:=by
 rw[cF hi λj _ hj=>by rw[if_neg (Yg hj)];grind,if_pos rfl];grind
theorem Lo {f:Nat->Rat} (hi:i < n):aR n (λj=>f j*(if j=i then 1 else 0))=f i:=by
 rw[cF hi λj _ hj=>by rw[if_neg hj];grind,if_pos rfl];grind
theorem GX (hA:sG A n) (hB:sG B n) (h1:xE B A n) (h2:xE A B n):aG (oW A (cE n)) (n+n) (oW (cE n) B) (W0 n):=by
 obtain lA|wA:=hA;obtain lB|wB:=hB;obtain lU|wU:=xM (n:=n);have lJ:(oW A (cE n)).9=n:=by rw[yG (),lA]
 have lK:(oW (cE n) B).9=n:=by rw[yG (),lU]
 have jl:∀i,i < n->∀c,c < n->aZ (oW A (cE n)) i c=aZ A i c:=λi hi c hc=>(Lg () wA ()).1 c hc
 have jr:∀i,i < n->∀c,c < n->aZ (oW A (cE n)) i (n+c)=if i=c then 1 else 0:=λi hi c hc=>by
  rw[(Lg () wA ()).2 c,Sv hi hc]
 have kl:∀i,i < n->∀c,c < n->aZ (oW (cE n) B) i c=if i=c then 1 else 0:=λi hi c hc=>by
  rw[(Lg () wU ()).1 c hc,Sv hi hc]
 have kr:∀i,i < n->∀c,aZ (oW (cE n) B) i (n+c)=aZ B i c:=λi hi c=>(Lg () wU ()).2 c
 have wJ:=Eu wA wU;have wK:=Eu wU wB
 have split:∀c:Nat,c < n\/(∃d,c=n+d/\d < n)\/n+n<=c:=λc=>by
  by_cases h:c < n
  ·show .inl h
  ·by_cases h':n+n<=c
   ·show .inr (.inr h')
   ·show .inr (.inl #[c - n,(),()])
 refine #[by rw[lK,bg],wK,λi j hi hj=>?_,λj hj=>?_,λi hi j hj=>?_,λi hi c hc=>?_,λi hi=>#[λj=>aZ A i j,λc=>?_],λi hi=>#[λj=>aZ B i j,λc=>?_]]
 ·rw[bg] at hj;rw[wF hj,wF ()];show hi
 ·rw[bg] at hj;rw[wF hj]
  lia
 ·rw[bg] at hi hj;rw[wF hj];show kl i hi j hj
 ·rw[bg] at hi;rw[wF hi] at hc;rw[kl i hi c (),if_neg ()]
 ·rw[lJ] at hi;rw[bg];rcases split c with hc | ⟨d,rfl,hd⟩ | hc
  ·rw[jl i hi c hc,ar (g:=λj=>aZ A i j*(if j=c then 1 else 0)) λj hj=>by rw[kl j hj c hc],Lo hc]
  ·rw[jr i hi d hd,<- h2 i hi d hd];show ar λj hj=>by rw[kr j hj d]
  ·rw[ji wJ hc,bU λj _=>by rw[ji wK hc];grind]
 ·rw[bg] at hi;rw[lJ];rcases split c with hc | ⟨d,rfl,hd⟩ | hc
  ·rw[kl i hi c hc,<- h1 i hi c hc];show ar λj hj=>by rw[jl j hj c hc]
  ·rw[kr i hi d,ar (g:=λj=>aZ B i j*(if j=d then 1 else 0)) λj hj=>by rw[jr j hj d hd],Lo hd]
  ·rw[ji wK hc,bU λj _=>by rw[ji wJ hc];grind]
theorem Lh (hA:sG A n) (hB:B.9=n):(oW A B).11 (λxs=>xs.40 n)=B:=by
 obtain lA|wA:=hA;apply cU (by rw[af,yG ()];lia);intro i h1 h2;have e:(oW A B)[i]?=some (A[i]'()++B[i]):=OQ (ae _) (ae _);rw[af] at h1;rw[gY,(aI.mp e).2];have:=wA _ (aB (show i < A.9 by lia));rw[sS (),jX ()];rfl
end
section
variable {X:Cx}
theorem IJ:∀{n:Nat} {us:List Value},us.9=n->(∀(j:Nat) (v:Value),us[j]?=some v->∃t,v=.int ((0:Int)+(j:Int)*1) t)->cZ (dh (W0 n)) us:=by
 intro n
 induction n with
 | zero=>intro us h _;rw[WH.mp h];show .nil
 | succ n ih =>
  intro us h hv
  have h1:=ih (us:=us.18 n) (by rw[aS];lia) λj v e=>by
   have hj:j < n:=by have:=(aI.mp e).1;rw[aS] at this;lia
   rw[fK hj] at e;show hv j v e
  obtain t|ht:=hv n (us[n]'()) (ae _);have e:us=us.18 n++[us[n]'()]:=by rw[<- List.take_succ_eq_append_getElem (),aJ ()]
  rw[e,ky];unfold dh at h1 ⊢;rw[bo];refine cZ.append h1 (.cons ?_ .nil);rw[ht];show #[t,by simp]
def Ab (ta:TA):TE:=λσ H Q=>ta σ H λvs H1=>∃n:Nat,vs=[.int n]/\n<=1000/\∀L H',aL H1 H'->H1 L=none->H' L=some (.lst (dh (W0 n)))->Q (.ref L) H'
theorem D7 {e1:Expr} {ta:TA} {p p2 pos ZW:Pos} (hg:Gl X "list") (hm:X.mg "list"=none) (hg2:Gl X "range") (hm2:X.mg "range"=none) (ha:PA X [e1] ta) (hc:X.calm=true:=by rfl)
  (hs:Xy [e1] X.16=[(false,eval e1 X.16)]:=by rfl)
  (hs3:Xy [YH (.Name "range" p2) [e1] [] ZW] X.16=[(false,eval (.Call (.Name "range" p2) [e1] [] ZW) X.16)]:=by rfl) :
  PE X (.Call (.Name "list" p) [.Call (.Name "range" p2) [e1] [] ZW] [] pos) (Ab ta):=by
 intro YZ s σ H Q I h;refine XY (kY I hg hm boot_list ?_);refine XJ ?_ (by rw[hs3];rfl) rfl;rw[hs3];change XF _ _ (spliced ((false,eval (.Call (.Name "range" p2) [e1] [] ZW) X.16) :: [])) _ _ s
 refine Calls.spliced_cons ?_;refine Call_ (kY I hg2 hm2 boot_range (XJ (iq (ha ZW YZ s σ H _ I h) λus s1 hz=>?_) hs rfl));obtain vs|H1|I1|r1|q1:=hz;obtain n|e|hn|q:=q1;subst e;obtain u|rfl|t|rfl:=vals1 r1;refine call_range_1 ?_;refine Calls.spliced_nil ?_;have kp:∀b o,s1.heap.14 b=some o->(s1.heap.25 { cls:=.type "range",data:=.fields [.int 0 s1.26,.int n t,.int 1 (s1.26+1)].12 }).14 b=some o:=λb o e=>Xx _ e
 refine call_list_range (I.ok.hd hc) (IsRange.new ..) (small_one () () () ()) (n:=n) (by rw[rangeSize_one];split <;> lia) () λh' tk acc c hk hS adg=>?_
 have sz:s1.6<=(s1.heap.25 { cls:=.type "range",data:=.fields [.int 0 s1.26,.int n t,.int 1 (s1.26+1)].12 }).objs.size:=by rw[Yr];show lG _
 have nS:=I1.Zb.42 sz
 have vs':cZ (dh (W0 n)) acc.toList:=IJ (by rw[XX];show adg.1) λj v e=>by
  have:=adg.2 j v (by rw[<- Array.getElem?_toList];show e);show this
 have sl:(dh (W0 n)).9<=XG:=by rw[qA,bg];show c6 (du hn)
 refine #[.ref _,_,I1.laid (o:=.lst (dh (W0 n))) (λb o e=>hk b o (kp b o e)) sz ?_,rfl,q _ _ (aL.new nS) nS aN];show #[sl,acc.toList,c,vs',by simpa using hS]
end
theorem Wi (M0:0 < M) (hM:M<=W) (h:∀xs∈A,∀x∈xs,Tp M W x):∀xs∈oW A (cE n),∀x∈xs,Tp M W x:=λxs hx x Y6=>by
 unfold oW at hx;obtain i|hi|rfl:=aH hx;rw[lH] at Y6;rcases aA.mp Y6 with z | z
 ·show h _ (aB _) x z
 ·have m:=aB (l:=cE n) (n:=i) (by rw[cQ] at hi;lia);generalize (cE n)[i]'(by rw[cQ] at hi;lia)=ys at m z;unfold cE at m;obtain j|_|rfl:=ao.mp m;unfold ie at z;obtain c|_|rfl:=ao.mp z;by_cases e:((c:Nat):Int)=((j:Nat):Int)
  ·rw[if_pos e];show #[M,by rw[fL];rfl,by simpa using hM]
  ·rw[if_neg e];show #[0,by simp,by simp]
theorem OP (hA:sG A n) (n15:n<=15) (M0:0 < M) (hM:M<=2^w) (w4:w<=17200000) (h:∀xs∈A,∀x∈xs,Tp M (2^w) x) (hw:n*(w+4)<=35600000):xH (oW A (cE n)) (n+n) w :=
 #[M,2^w,M0,ai hM (ak () w4),bO,aj _,Wi M0 hM h,w4,by rw[yG (by rw[xM.1,hA.1]),hA.1];lia,by rw[yG (by rw[xM.1,hA.1]),hA.1,show min n (n+n)=n by lia];show hw]
theorem GY (h:uk ps=uk qs):ps=qs:=List.map_inj_right (λ_ _ e=>Int.ofNat.inj e) |>.mp h
inductive y8 (K:Y2) (vs:List V) (H:Hp) (Q:VK) (E9:XK):Prop
 | mk (p:Addr) (n w:Nat) (H0:Hp) (A:Y3):vs=[.ref p]->bw K H0 H p A->sG A n->n<=40->xH (oW A (cE n)) (n+n) w->((∀r R M H',aG (oW A (cE n)) (n+n) R (W0 n)->H r=none->aL H H'->bw K H H' r (R.11 λxs=>xs.40 n)->0 < M->M<=2^(n*(w+4))->(∀xs∈R.11 (λxs=>xs.40 n),∀x∈xs,Tp M (2^(n*(w+4))) x)->Q (.ref r) H')/\(∀R ps H',aG (oW A (cE n)) (n+n) R ps->ps.9<=n->ps≠W0 n->aL H H'->Q .Ze H'))->y8 K vs H Q E9
def p7 (K:Y2) (P:Addr->Prop) (H:Hp) (xs:List Rat) (v:V):Prop:=∃q,v=.ref q/\P q/\dS K H q xs
section
variable {K:Y2}
theorem p7.same (h:p7 K P H xs v) (s:aL H H'):p7 K P H' xs v:=by obtain q|a|c|d:=h;show #[q,a,c,d.10 s]
theorem p7.Zc (h:p7 K P H xs v) (hl:H l=some (.lst ys)) (nb:∀q,P q->q≠l):p7 K P (upd H l o) xs v:=by obtain q|a|c|d:=h;show #[q,a,c,d.Zc hl (nb q c)]
theorem bw.ofE {rows:Y3} (g:H l=some (.lst us)) (h:Xw (p7 K P H) rows us) (h0:∀q,P q->H0 q=none) (hn:∀q,P q->q≠l):bw K H0 H l rows :=
 #[us,g,bv (λ_ _ #[q,a,c,d]=>#[q,a,h0 q c,d]) h,λz=>by
  obtain _|_|q|e|c|_:=dE h z;cases e;show hn _ c rfl]
end
theorem t7 {α β:Type} {F G:α->β->Prop}:∀{l1:List α} {l2:List β},(∀a b,b∈l2->F a b->G a b)->Xw F l1 l2->Xw G l1 l2
 | _,_,_,.nil=>.nil
 | _,_,h,.cons a r=>.cons (h _ _ (by simp) a) (t7 (λx y hy=>h x y (by simp [hy])) r)
section
variable {rows _h R R':Y3}
theorem xS (hw:∀xs∈rows,xs.9=n) (hW:1<=W) (ent:∀i,i < (rows.11 iS).9->∀c,Fr 1 W (eH (rows.11 iS) i c)):∀P,P<=n->∃ls ps d,Dk (rows.11 iS) n P ls ps d:=by
 intro P
 induction P with
 | zero=>intro _;show #[_,_,_,Dk.start λzs hz=>by obtain x|hx|rfl:=ao.mp hz;rw[qe];show hw x hx]
 | succ P ih =>
  intro hP;obtain ls|ps|d|I:=ih ();by_cases e:∃t,ps.9<=t/\t < ls.9/\eH ls t P≠0
  ·obtain t|h1|h2|h3:=e;show #[_,_,_,I.step hW ent h1 h2 h3]
  ·show #[_,_,_,I.skip λi h1 h2=>by
    by_cases z:eH ls i P=0
    ·show z
    ·show absurd #[i,h1,h2,z] e]
theorem ym (hw:∀xs∈rows,xs.9=n) (F:xH rows n w):∃R ps d ls,Xm rows n w R ps d ls:=by
 obtain W|hW|W2|ent:=F.ent;obtain ls|ps|d|I:=xS hw hW ent n (aj _);obtain R|S:=I.done hw F;show #[R,ps,d,_,S]
theorem KP (hw:∀xs∈rows,xs.9=n) (F:xH rows n w) (RR:aG rows n R ps):ps.9<=rows.9/\∃M,0 < M/\M<=2^(min rows.9 n*(w+4))/\∀xs∈R,∀x∈xs,Tp M (2^(min rows.9 n*(w+4))) x:=by
 obtain R2|_m|d|ls|S:=ym hw F;obtain rfl|rfl:=S.rr.10 RR;show #[S.km,d.15,Int.natAbs_pos.mpr S.d0,S.dsz,S.tp]
theorem Ml {p q:Nat->Nat} (hp:∀i j,i < j->j < k->p i < p j) (hq:∀i j,i < j->j < k->q i < q j) (hs:∀i,i < k->∃j,j < k/\q j=p i):∀i,i < k->p i=q i:=by
 have hqm:∀i j,i<=j->j < k->q i<=q j:=λi j h hj=>by
  rcases be i j with z | z
  ·show c6 (hq i j z hj)
  ·have:i=j:=()
   rw[this];show aj _
 have hqi:∀i j,i < k->j < k->q i < q j->i < j:=λi j hi hj h=>by
  rcases be i j with z | z
  ·show z
  ·have:=hqm j i z hi
   lia
 have key:∀i,i < k->∀j,j < k->q j=p i->i<=j:=by
  intro i
  induction i with
  | zero=>intro _ j _ _;show bD _
  | succ i ih =>
   intro hi j hj e;obtain j'|ZA|e':=hs i ();have h1:=ih () j' ZA e';have h2:=hp i (i+1) () hi;have:=hqi j' j ZA hj ()
   lia
 have afO:∀t i,i+t+1=k->∀j,j < k->q j=p i->j<=i:=by
  intro t
  induction t with
  | zero=>intro i e j hj _;lia
  | succ t ih =>
   intro i e j hj ej;obtain j'|ZA|e':=hs (i+1) ();have h1:=ih (i+1) () j' ZA e';have h2:=hp i (i+1) () ();have:=hqi j j' hj ZA ()
   lia
 intro i hi;obtain j|hj|e:=hs i hi;have h1:=key i hi j hj e;have h2:=afO (k - 1 - i) i () j hj e;have:j=i:=()
 rw[<- e,this]
theorem LY (h:aG rows n R ps) (h':aG _h n R' Zd) (hl:ps.9=Zd.9) (hs:∀i,i < ps.9->d4 Zd.9 (aZ R') (aZ R i)):R=R'/\ps=Zd:=by
 obtain l1|w1|r1:=h;obtain l2|w2|r2:=h'
 have ep:∀i,i < ps.9->ps.3 i 0=Zd.3 i 0:=Ml r1.inc (by rw[hl];show r2.inc) λi hi=>by
  have u:=r1.34 i hi i hi;rw[if_pos rfl] at u;obtain j|hj|e:=r2.ZF (hs i hi) (c:=ps.3 i 0) (by rw[u];decide) (λc hc=>r1.lead i hi c hc);show #[j,(),e]
 have eps:ps=Zd:=by
  apply cU hl;intro i a b;have:=ep i a;rw[aa,aa,ae a,ae b] at this;show this
 refine #[EC (n:=n) () w1 w2 λi hi c=>?_,eps];rw[l1] at hi;rw[r2._e (hs i hi) c,<- hl,cF hi λj hj ZA=>?_]
 ·rw[<- ep i hi];have u:=r1.34 i hi i hi;rw[if_pos rfl] at u;rw[u];grind
 ·rw[<- ep j hj];have u:=r1.34 i hi j hj;rw[if_neg (Yg ZA)] at u;rw[u];grind
end
def gF (mv:Y3) (x:List Rat):List Rat:=mv.11 λxs=>bT xs x
def Y4 (mv pt:Y3):Nat->Y3
 | 0=>[]
 | t+1=>pt++(Y4 mv pt t).11 (gF mv)
section
variable {mv pt R R' S X Y:Y3} {n t m i c:Nat} {ps Zd:List Nat} {a:Nat->Nat->Rat}
theorem fv:(gF mv x).9=mv.9:=af ..
theorem GB (lm:mv.9=n) (wm:∀xs∈mv,xs.9=n) (wR:∀xs∈R,xs.9=n) (hi:i < R.9) (c:Nat):aZ (R.11 (gF mv)) i c=aR n λj=>aZ mv c j*aZ R i j:=by
 have wi:=wR _ (aB hi);have e1:(R.11 (gF mv)).3 i []=gF mv R[i]:=by rw[aa,az,ae hi];rfl
 have e2:R.3 i []=R[i]:=by rw[aa,ae hi];rfl
 by_cases hc:c < n
 ·have wc:=wm _ (aB (show c < mv.9 by lia));have e3:mv.3 c []=mv[c]'():=by rw[aa,ae ()];rfl
  have e4:(gF mv R[i]).3 c 0=bT (mv[c]'()) R[i]:=by
   unfold gF;rw[aa,az,ae ()];rfl
  unfold aZ;rw[e1,e2,e3,e4,bZ (),wc]
 ·have e3:mv.3 c []=[]:=by rw[aa,aF ()];rfl
  unfold aZ
  rw[e1,e3,aa,aF (by rw[fv];lia),bU λj _=>by
   change ([]:List Rat).3 j 0*_=0
   rw[aa];change (0:Rat)*_=0
   grind]
  rfl
theorem Ad (lm:mv.9=n) (wm:∀xs∈mv,xs.9=n) (wR:∀xs∈R,xs.9=n) (wS:∀xs∈S,xs.9=n) (hi:i < R.9) (h:d4 S.9 (aZ S) (aZ R i)):d4 (S.11 (gF mv)).9 (aZ (S.11 (gF mv))) (aZ (R.11 (gF mv)) i):=by
 obtain w|hw:=h;refine #[w,λc=>?_];rw[GB lm wm wR hi,af]
 have e1:aR n (λj=>aZ mv c j*aZ R i j)=aR n (λj=>aR S.9 λs=>w s*(aZ mv c j*aZ S s j)):=ar λj _=>by
  rw[hw j,<- a8];show ar λs _=>by grind
 rw[e1,cD];show ar λs hs=>by rw[a8,GB lm wm wS hs]
theorem vX (h:i < X.9):aZ (X++Y) i=aZ X i:=by
 funext c;unfold aZ;rw[aa (l:=X++Y),cw h,<- aa]
theorem qI:aZ (X++Y) (X.9+i)=aZ Y i:=by
 funext c;unfold aZ;rw[aa (l:=X++Y),b8 (),show X.9+i - X.9=i by lia,<- aa]
theorem wg (h1:∀i,i < X.9->d4 m a (aZ X i)) (h2:∀i,i < Y.9->d4 m a (aZ Y i)):∀i,i < (X++Y).9->d4 m a (aZ (X++Y) i):=λi hi=>by
 rw[ax] at hi;by_cases h:i < X.9
 ·rw[vX h];show h1 i h
 ·obtain ⟨j,rfl⟩:∃j,i=X.9+j:=#[i - X.9,()];rw[qI];show h2 j ()
theorem tm (h:i < X.9):d4 (X++Y).9 (aZ (X++Y)) (aZ X i):=by
 have:=d4.row (a:=aZ (X++Y)) (m:=(X++Y).9) (i:=i) (by rw[ax];lia);rwa [vX h] at this
theorem qh (h:d4 Y.9 (aZ Y) x):d4 (X++Y).9 (aZ (X++Y)) x:=d4.trans (λs hs=>by
 have:=d4.row (a:=aZ (X++Y)) (m:=(X++Y).9) (i:=X.9+s) (by rw[ax];lia);rwa [qI] at this) h
theorem cJ (lm:mv.9=n) (wp:∀xs∈pt,xs.9=n):∀t,∀xs∈Y4 mv pt t,xs.9=n:=by
 intro t
 induction t with
 | zero=>intro xs hx;cases hx
 | succ t ih =>
  intro xs hx;rcases aA.mp hx with hx | hx
  ·show wp xs hx
  ·obtain y|_|rfl:=ao.mp hx;rw[fv,lm]
theorem xn (lm:mv.9=n) (wm:∀xs∈mv,xs.9=n) (wp:∀xs∈pt,xs.9=n) (RR:aG (Y4 mv pt t) n R ps) (ZS:aG (pt++R.11 (gF mv)) n R' Zd):aG (Y4 mv pt (t+1)) n R' Zd:=by
 have wk:=cJ (mv:=mv) lm wp t;refine #[ZS.1,ZS.2.1,ZS.2.2.37 ?_ ?_]
 ·refine wg (λi hi=>tm hi) λi hi=>qh ?_
  rw[af] at hi;show Ad lm wm RR.2.1 wk hi (RR.2.2.55 i (by rw[<- RR.1];show hi))
 ·refine wg (λi hi=>tm hi) λi hi=>qh ?_
  rw[af] at hi;have:=RR.2.2.span i hi;rw[<- RR.1] at this;show Ad lm wm wk RR.2.1 hi this
theorem OK (lm:mv.9=n) (wm:∀xs∈mv,xs.9=n) (wp:∀xs∈pt,xs.9=n):∀t i,i < (Y4 mv pt t).9->d4 (Y4 mv pt (t+1)).9 (aZ (Y4 mv pt (t+1))) (aZ (Y4 mv pt t) i):=by
 intro t
 induction t with
 | zero=>intro i hi;cases hi
 | succ t ih =>
  refine wg (λi hi=>tm hi) λi hi=>qh ?_
  rw[af] at hi;show Ad lm wm (cJ lm wp t) (cJ lm wp (t+1)) hi (ih i hi)
theorem A0 (lm:mv.9=n) (wm:∀xs∈mv,xs.9=n) (wp:∀xs∈pt,xs.9=n) (RR:aG (Y4 mv pt t) n R ps) (ZS:aG (Y4 mv pt (t+1)) n R' Zd):∀i,i < ps.9->d4 Zd.9 (aZ R') (aZ R i):=λi hi =>
 d4.trans (λs hs=>ZS.2.2.span s hs) (d4.trans (OK lm wm wp t) (RR.2.2.55 i hi))
theorem C0 (lm:mv.9=n) (wm:∀xs∈mv,xs.9=n) (wp:∀xs∈pt,xs.9=n) (RR:aG (Y4 mv pt t) n R ps) (ZS:aG (pt++R.11 (gF mv)) n R' Zd) (hl:Zd.9=ps.9):∀s,aG (Y4 mv pt (t+s)) n R ps:=by
 have K1:=xn lm wm wp RR ZS;obtain e1|e2:=LY RR K1 hl.19 (A0 lm wm wp RR K1);subst e1 e2;intro s
 induction s with
 | zero=>show RR
 | succ s ih=>show xn lm wm wp ih ZS
theorem GU (lm:mv.9=n) (wm:∀xs∈mv,xs.9=n) (wp:∀xs∈pt,xs.9=n) (RR:aG (Y4 mv pt t) n R ps) (ZS:aG (Y4 mv pt (t+1)) n R' Zd):ps.9<=Zd.9:=by
 have h:=A0 lm wm wp RR ZS
 have hs:∀i,i < ps.9->∃j,j < Zd.9/\Zd.3 j 0=ps.3 i 0:=λi hi=>by
  have u:=RR.2.2.34 i hi i hi;rw[if_pos rfl] at u;show ZS.2.2.ZF (h i hi) (c:=ps.3 i 0) (by rw[u];decide) (λc hc=>RR.2.2.lead i hi c hc)
 rcases be Zd.9 ps.9 with z | z
 ·exfalso
  have key:∀i,i < ps.9->∀j,j < Zd.9->Zd.3 j 0=ps.3 i 0->i<=j:=by
   intro i
   induction i with
   | zero=>intro _ j _ _;show bD _
   | succ i ih =>
    intro hi j hj e;obtain j'|ZA|e':=hs i ();have h1:=ih () j' ZA e';have h2:=RR.2.2.inc i (i+1) () hi;rcases be j' j with y | y
    ·lia
    ·rcases be j j' with x | x
     ·have:=ZS.2.2.inc j j' x ZA
      lia
     ·have:j=j':=()
      rw[this] at e
      lia
  obtain j|hj|e:=hs (ps.9 - 1) ();have:=key (ps.9 - 1) () j hj e
  lia
 ·show z
theorem Jw {M V c:Nat} (lm:mv.9=n) (wm:∀xs∈mv,xs.9=n) (wp:∀xs∈pt,xs.9=n) (hc:(n+1)*V<=2^c) (fm:GF M V mv) (fp:GF M V pt):∀t,∀xs∈Y4 mv pt t,∀x∈xs,Fr (M^t) (2^(c*t)) x:=by
 intro t
 induction t with
 | zero=>intro xs hx;cases hx
 | succ t ih =>
  intro xs hx x Y6;have hV:V<=2^c:=ai (eS _ ()) hc;rcases aA.mp hx with hx | hx
  ·refine Fr.up (fp xs hx x Y6) (by rw[iO];show dC _ _) (ai hV (ak () (dH _ ())))
  ·obtain y|hy|rfl:=ao.mp hx;unfold gF at Y6;obtain r|hr|rfl:=ao.mp Y6;have wr:=wm r hr;have wy:=cJ (mv:=mv) lm wp t y hy;have f:=RP () (fm r hr) (ih y hy);rw[iO,cB (M^t)];refine f.22 ?_;rw[gU,PL,aV,cB (2^(c*t)),<- cb,wr];show au _ (ai (au _ ()) hc)
def iU (mv pt:Y3) (a c:Nat):Prop:=∃M V:Nat,0 < M/\M<=2^a/\(mv.9+1)*V<=2^c/\GF M V mv/\GF M V pt/\a<=200000/\c<=200000/\mv.9*(mv.9*(a+c)+4)<=1740000/\mv.9*(mv.9*(mv.9*(a+c)+4)+a+c+4)<=35600000
theorem iU.swf {a c:Nat} (F:iU mv pt a c) (D:mv.9<=8) (wm:∀xs∈mv,xs.9=mv.9) (wp:∀xs∈pt,xs.9=mv.9) (ht:t<=mv.9):xH (Y4 mv pt t) mv.9 (mv.9*(a+c)):=by
 obtain M|V|M0|Ma|hV|fm|fp|a3|c3|e14|e89:=F;have f:=Jw rfl wm wp hV fm fp t;have h1:mv.9*(a+c)<=8*400000:=aE D ();have hM:M^t<=2^(a*mv.9):=ai (jC Ma _) (by rw[<- sR];show ak () (aP _ ht));have h2:a*mv.9<=mv.9*(a+c):=by rw[cB];show aP _ ()
 have h3:mv.9=0\/mv.9*(a+c)<=1740000:=by
  rcases ow mv.9 with z | z
  ·show .inl z
  ·right
   have:=eS (mv.9*(a+c)+4) z
   lia
 have h4:mv.9*(a+c)<=1740000:=by
  rcases h3 with z | z
  ·rw[z];lia
  ·show z
 refine #[M^t,2^(mv.9*(a+c)),jS M0,ai hM (ak () ()),bO,aj _,λxs hx x Y6=>Tp.of (f xs hx x Y6) ?_,(),(),?_]
 ·refine ai (aE (ak () (aP c ht)) hM) ?_;rw[<- aV];refine ak () ?_;rw[cB c,cB a,<- gU,d6 c];show aj _
 ·show ai (au _ (Nc _ _)) ()
theorem iU.tp {a c:Nat} (F:iU mv pt a c) (D:mv.9<=8) (wm:∀xs∈mv,xs.9=mv.9) (wp:∀xs∈pt,xs.9=mv.9) (ht:t<=mv.9) (RR:aG (Y4 mv pt t) mv.9 R ps):∃M,0 < M/\M<=2^(mv.9*(mv.9*(a+c)+4))/\∀xs∈R,∀x∈xs,Tp M (2^(mv.9*(mv.9*(a+c)+4))) x:=by
 obtain _|M|h0|h1|h2:=KP (cJ rfl wp t) (F.swf D wm wp ht) RR;have le:2^(min (Y4 mv pt t).9 mv.9*(mv.9*(a+c)+4))<=2^(mv.9*(mv.9*(a+c)+4)):=ak () (au _ (Nc _ _));show #[M,h0,ai h1 le,λxs hx x Y6=>(h2 xs hx x Y6).22 le]
theorem iU.step {a c:Nat} (F:iU mv pt a c) (D:mv.9<=8) (wm:∀xs∈mv,xs.9=mv.9) (wp:∀xs∈pt,xs.9=mv.9) (ht:t<=mv.9) (RR:aG (Y4 mv pt t) mv.9 R ps):xH (pt++R.11 (gF mv)) mv.9 (mv.9*(mv.9*(a+c)+4)+a+c):=by
 obtain N|N0|N1|tN:=F.tp D wm wp ht RR;obtain M|V|M0|Ma|hV|fm|fp|a3|c3|e14|e89:=F;generalize mv.9*(mv.9*(a+c)+4)=e at *
 have V1:V<=2^c:=ai (eS _ ()) hV;have eW:(2:Nat)^(e+a+c)=2^c*(2^a*2^e):=by rw[<- aV,<- aV];congr 1;lia
 refine #[N*M,2^(e+a+c),bx N0 M0,?_,bO,aj _,λxs hx x Y6=>?_,(),(),?_]
 ·show ai (aE N1 Ma) (by rw[<- aV];show ak () ())
 ·rcases aA.mp hx with hx | hx
  ·refine Tp.of ((fp xs hx x Y6)._l N) ?_;rw[eW,cB N];show aE V1 (aE Ma N1)
  ·obtain y|hy|rfl:=ao.mp hx;unfold gF at Y6;obtain r|hr|rfl:=ao.mp Y6;have wr:=wm r hr;have wy:=RR.2.1 y hy;rw[bZ (),wr];have t1:∀j,Tp M (V*M) (r.3 j 0):=λj=>v7 (λx hx=>Tp.of (fm r hr x hx) (aj _)) j
   have t2:∀j,Tp N (2^e) (y.3 j 0):=λj=>v7 (tN y hy) j
   have:=Tp.sum (k:=mv.9) (M:=N*M) (W:=V*M*2^e) (f:=λj=>r.3 j 0*y.3 j 0) λj _=>by
    have:=(t1 j).mul (t2 j);rwa [cB M N] at this
   refine this.22 ?_;rw[eW,cb V,<- cb mv.9];show aE (ai (au _ ()) hV) (au _ Ma)
 ·show ai (au _ (Nc _ _)) (by rw[show e+a+c+4=e+a+c+4 from rfl];show e89)
theorem iU.A! {a c:Nat} (F:iU mv pt a c) (D:mv.9<=8) (wm:∀xs∈mv,xs.9=mv.9) (wp:∀xs∈pt,xs.9=mv.9) (ht:t<=mv.9) (RR:aG (Y4 mv pt t) mv.9 R ps):∀xs∈mv,∀r∈R,oZ xs r:=λxs hx r hr=>by
 obtain N|N0|N1|tN:=F.tp D wm wp ht RR;obtain M|V|M0|Ma|hV|fm|fp|a3|c3|e14|e89:=F;have V1:V<=2^c:=ai (eS _ ()) hV;have p14:=ak (show 0 < 2 by decide) e14;show #[200000,200000,1740000,1740000,#[M,V,M0,ai Ma (ak () a3),ai V1 (ak () c3),fm xs hx],#[N,2^1740000,N0,ai N1 p14,aj _,λx hx=>((tN r hr x hx).22 p14).fr N0],()]
end
inductive CH (K:Y2) (C:Addr) (vs:List V) (H:Hp) (Q:VK) (E9:XK):Prop
 | mk (x p:Addr) (H0 H1:Hp) (mv pt lk R:Y3):vs=[.ref x,.ref p]->jR K H0 H C x mv pt lk->cS mv pt lk->bw K H1 H p R->R.9<=100->(∀r∈R,r.9=mv.9)->(∀xs∈mv,∀r∈R,oZ xs r)->(∀r H',H r=none->aL H H'->bw K H H' r (R.11 (gF mv))->Q (.ref r) H')->CH K C vs H Q E9
structure Br (mv pt:Y3) (Rs:List (Y3)):Prop where
 ne:Rs≠[]
 rr:∀t R,Rs[t]?=some R->∃ps,aG (Y4 mv pt t) mv.9 R ps
 up:∀t R R',Rs[t]?=some R->Rs[t+1]?=some R'->R.9 < R'.9
def GrL (K:Y2) (H0 H:Hp) (l:Addr) (Rs:List (Y3)):Prop:=∃us,H l=some (.lst us)/\Xw (λR v=>∃q,v=V.ref q/\H0 q=none/\q≠l/\bw K H0 H q R) Rs us
inductive CK (K:Y2) (C:Addr) (vs:List V) (H:Hp) (Q:VK) (E9:XK):Prop
 | mk (x:Addr) (a c st:Nat) (H0:Hp) (mv pt lk:Y3):vs=[.ref x,.int st]->st<=1000->jR K H0 H C x mv pt lk->cS mv pt lk->iU mv pt a c->(∀r Rs H',H r=none->aL H H'->GrL K H H' r Rs->Br mv pt Rs->Rs.9<=st+1->(∀R,Rs.getLast?=some R->∀s,(Rs.9 - 1=st/\s=st\/Rs.9 - 1 < st/\Rs.9 - 1<=s)->∃ps,aG (Y4 mv pt s) mv.9 R ps)->Q (.ref r) H')->CK K C vs H Q E9
inductive CD (K:Y2) (C:Addr) (vs:List V) (H:Hp) (Q:VK) (E9:XK):Prop
 | mk (x:Addr) (a c st:Nat) (H0:Hp) (mv pt lk:Y3):vs=[.ref x,.int st]->st<=1000->jR K H0 H C x mv pt lk->cS mv pt lk->iU mv pt a c->(∀r R ps H',H r=none->aL H H'->bw K H H' r R->aG (Y4 mv pt st) mv.9 R ps->Q (.ref r) H')->CD K C vs H Q E9
section
variable {K:Y2}
theorem bw.j! (h:bw K H0 H p rows) (hn:∀q,H0 q=none->H1 q=none):bw K H1 H p rows:=by obtain xs|g|r|n:=h;show #[xs,g,bv (λ_ _ #[q,a,b,c]=>#[q,a,hn q b,c]) r,n]
theorem bw.Zc (h:bw K H0 H p rows) (hl:H l=some (.lst ys)) (nl:H0 l≠none) (pl:p≠l):bw K H0 (upd H l o) p rows:=by obtain xs|g|r|n:=h;show #[xs,by rw[bK pl];show g,bv (λ_ _ z=>cR.Zc z hl nl) r,n]
theorem Ja:aG [] n [] []:=#[rfl,(λ_ h=>by cases h),(λ_ _ _ h=>absurd h (fe _)),(λ_ h=>absurd h (fe _)),(λ_ h=>absurd h (fe _)),(λ_ h=>absurd h (fe _)),(λ_ h=>absurd h (fe _)),(λ_ h=>absurd h (fe _))]
theorem Br.len (h:Br mv pt Rs):∀(t:Nat) (R:Y3),Rs[t]?=some R->t<=R.9:=by
 intro t
 induction t with
 | zero=>intro R _;show bD _
 | succ t ih =>
  intro R e;have ht:=(aI.mp e).1;have e0:=ae (show t < Rs.9 by lia);have:=ih _ e0;have:=h.up t _ R e0 e
  lia
theorem Br.snoc (h:Br mv pt (Rs++[R])) (h1:aG (Y4 mv pt (Rs.9+1)) mv.9 R' Zd) (h2:R.9 < R'.9):Br mv pt ((Rs++[R])++[R']):=by
 have l1:(Rs++[R]).9=Rs.9+1:=by rw[ax];rfl
 refine #[by simp,λt S e=>?_,λt S S' e e'=>?_]
 ·rcases be t (Rs.9+1) with z | z
  ·rw[cw ()] at e;show h.rr t S e
  ·have ht:=(aI.mp e).1;rw[ax,bN] at ht;have:t=Rs.9+1:=()
   subst this;rw[b8 (),l1,pK] at e;cases e;show #[Zd,h1]
 ·have ht:=(aI.mp e').1;rw[ax,bN] at ht;rw[cw ()] at e;rcases be (t+1) (Rs.9+1) with z | z
  ·rw[cw ()] at e';show h.up t S S' e e'
  ·have:t=Rs.9:=()
   subst this;rw[b8 (),l1,pK] at e';cases e';rw[b8 (aj _),pK] at e;cases e;show h2
end
def sI (k t i:Nat):Nat:=if i < k then i else if i=k then t else if i<=t then i - 1 else i
def Gv (k t i:Nat):Nat:=if i < k then i else if i=t then k else if i < t then i+1 else i
section
variable {k t m i j:Nat}
theorem wC (h : k ≤ t) (ht : t < m) (hi : i < m) : sI k t i < m := by     unfold sI; split; · show hi
                                                                          · split; · show ht
                                                                            · split <;> lia
theorem VQ (h : k ≤ t) (ht : t < m) (hi : i < m) : Gv k t i < m := by     unfold Gv; split; · show hi
                                                                          · split; · lia
                                                                            · split <;> lia
theorem VP (h:k<=t):sI k t (Gv k t i)=i:=by
 by_cases h1:i < k
 ·rw[show Gv k t i=i by unfold Gv;rw[if_pos h1]];unfold sI;rw[if_pos h1]
 ·by_cases h2:i=t
  ·rw[show Gv k t i=k by unfold Gv;rw[if_neg h1,if_pos h2]];unfold sI;rw[if_neg (),if_pos rfl,h2]
  ·by_cases h3:i < t
   ·rw[show Gv k t i=i+1 by unfold Gv;rw[if_neg h1,if_neg h2,if_pos h3]];unfold sI;rw[if_neg (),if_neg (),if_pos ()];lia
   ·rw[show Gv k t i=i by unfold Gv;rw[if_neg h1,if_neg h2,if_neg h3]];unfold sI;rw[if_neg h1,if_neg (),if_neg ()]
theorem SX (h:k<=t):Gv k t (sI k t i)=i:=by
 by_cases h1:i < k
 ·rw[show sI k t i=i by unfold sI;rw[if_pos h1]];unfold Gv;rw[if_pos h1]
 ·by_cases h2:i=k
  ·rw[show sI k t i=t by unfold sI;rw[if_neg h1,if_pos h2]];unfold Gv;rw[if_neg (),if_pos rfl,h2]
  ·by_cases h3:i<=t
   ·rw[show sI k t i=i - 1 by unfold sI;rw[if_neg h1,if_neg h2,if_pos h3]];unfold Gv;rw[if_neg (),if_neg (),if_pos ()];lia
   ·rw[show sI k t i=i by unfold sI;rw[if_neg h1,if_neg h2,if_neg h3]];unfold Gv;rw[if_neg h1,if_neg (),if_neg ()]
theorem tX (hi:i < k):sI k t i=i:=by unfold sI;rw[if_pos hi]
theorem wD (h:k<=t) (hi:k<=i):k<=sI k t i:=by
 unfold sI;rw[if_neg ()]
 split
 ·show h
 ·split <;> lia
variable {a l:Nat->Nat->Rat} {pm p:Nat->Nat} {d:Rat} {P:Nat}
theorem xJ.rot (B:xJ a m k pm p l d) (h:k<=t) (ht:t < m):xJ a m k (λi=>pm (sI k t i)) p (λi=>l (sI k t i)) d where
 inj i j hi hj e:=by
  have:=B.inj _ _ (wC h ht hi) (wC h ht hj) e;rw[<- SX (i:=i) h,this,SX h]
 ZT i hi:=B.ZT _ (wC h ht hi)
 km:=B.km
 d0:=B.d0
 det:=by rw[B.det,Ay (f:=pm) (g:=λi=>pm (sI k t i)) λj hj=>by rw[tX hj]]
 h! i hi c:=by
  have e:=B.h! (sI k t i) (wC h ht hi) c;have e1:aR k (λj=>a (pm (sI k t i)) (p j)*l (sI k t j) c)=aR k (λj=>a (pm (sI k t i)) (p j)*l j c):=ar λj hj=>by rw[tX hj]
  rw[e1];by_cases hk:i < k
  ·rw[tX hk] at e ⊢;show e
  ·rw[if_neg hk];rw[if_neg (by have:=wD h (show k<=i by lia);lia)] at e;show e
 unit i hi j hj:=by
  rw[B.34 _ (wC h ht hi) j hj];by_cases hk:i < k
  ·rw[tX hk]
  ·have:=wD h (show k<=i by lia);rw[if_neg (),if_neg ()]
theorem mB.rot (E:mB a m k P p l d) (h:k<=t) (ht:t < m):mB a m k P p (λi=>l (sI k t i)) d where
 km:=E.km
 d0:=E.d0
 unit i hi j hj:=by
  rw[E.34 _ (wC h ht hi) j hj];by_cases hk:i < k
  ·rw[tX hk]
  ·have:=wD h (show k<=i by lia);rw[if_neg (),if_neg ()]
 inc:=E.inc
 low:=E.56
 zero i h1 h2 c hc:=E.zero _ (wD h h1) (wC h ht h2) c hc
 lead j hj c hc:=by rw[tX hj];show E.lead j hj c hc
 there i hi:=d4.trans (λs hs=>d4.congr (λc=>by rw[VP h]) (d4.row (a:=λi=>l (sI k t i)) (i:=Gv k t s) (VQ h ht hs))) (E.there i hi)
 back i hi:=E.55 _ (wC h ht hi)
end
section
variable {rows fs ls:Y3} {n P w a:Nat} {ps:List Nat}
theorem Qi:lF k k i=i:=by unfold lF;split <;> (try split) <;> lia
theorem z8.rot (h:z8 rows n P (fs++ls) ps) (hf:fs.9=ps.9) (ht:t < ls.9):z8 rows n P (fs++ls.3 t [] :: ls.23 t) ps:=by
 obtain len|wide|pm|l|d|B|E|v:=h;rw[ax] at len;have h1:ps.9<=ps.9+t:=()
 have h2:ps.9+t < rows.9:=()
 have ef:∀i,i < rows.9->∀c,aZ (fs++ls.3 t [] :: ls.23 t) i c=aZ (fs++ls) (sI ps.9 (ps.9+t) i) c:=λi hi c=>by
  by_cases z:i < ps.9
  ·rw[tX z,vX (),vX ()]
  ·obtain ⟨j,rfl⟩:∃j,i=fs.9+j:=#[i - fs.9,()];rw[qI];cases j with
   | zero =>
    rw[show sI ps.9 (ps.9+t) (fs.9+0)=fs.9+t by unfold sI;rw[if_neg (),if_pos ()];lia,qI];rfl
   | succ j =>
    by_cases y:j < t
    ·rw[show sI ps.9 (ps.9+t) (fs.9+(j+1))=fs.9+j by unfold sI;rw[if_neg (),if_neg (),if_pos ()];lia,qI];change aZ (ls.23 t) j c=_
     unfold aZ;rw[aa (l:=ls.23 t),List.getElem?_eraseIdx_of_lt y,<- aa]
    ·rw[show sI ps.9 (ps.9+t) (fs.9+(j+1))=fs.9+(j+1) by unfold sI;rw[if_neg (),if_neg (),if_neg ()],qI];change aZ (ls.23 t) j c=_
     unfold aZ;rw[aa (l:=ls.23 t),List.getElem?_eraseIdx_of_ge (),<- aa]
 refine #[?_,λxs hx=>?_,λi=>pm (sI ps.9 (ps.9+t) i),λi=>l (sI ps.9 (ps.9+t) i),d,B.rot h1 h2,E.rot h1 h2,λi hi c=>?_]
 ·rw[ax,bI,Tw ht];lia
 ·rcases aA.mp hx with hx | hx
  ·show wide xs (aA.mpr (.inl hx))
  ·rcases aM.mp hx with rfl | hx
   ·show wide _ (aA.mpr (.inr (getD_in ht)))
   ·show wide xs (aA.mpr (.inr (Vq hx)))
 ·rw[ef i hi c,v _ (wC h1 h2 hi) c];by_cases z:i < ps.9
  ·dsimp only
   rw[tX z]
  ·rw[if_neg z,if_neg (by have:=wD h1 (show ps.9<=i by lia);lia)]
def pF (P:Nat) (h:List Rat):List Rat:=h.11 λy=>1 / h.3 P 0*y
def zx (P:Nat) (u r:List Rat):List Rat:=XI (λx y=>x - y) r (u.11 λy=>r.3 P 0*y)
theorem z8.lean (h:z8 rows n P (fs++ls) ps) (hf:fs.9=ps.9) (ht:t < ls.9) (hP:P < n) (Z3:(ls.3 t []).3 P 0≠0):z8 rows n (P+1) ((fs.11 (zx P (pF P (ls.3 t [])) )++[pF P (ls.3 t [])])++(ls.23 t).11 (zx P (pF P (ls.3 t [])))) (ps++[P]):=by
 have R:=h.rot hf ht;have len:=R.36;have wide:=R.wide;generalize ls.3 t []=hd at *
 generalize ls.23 t=l2 at *
 rw[ax,bI] at len;have whd:hd.9=n:=wide _ (aA.mpr (.inr (.head _)));have wu:(pF P hd).9=n:=by unfold pF;rw[af];show whd
 have ek:aZ (fs++hd :: l2) ps.9=λc=>hd.3 c 0:=by
  have:=qI (X:=fs) (Y:=hd :: l2) (i:=0);rw[show fs.9+0=ps.9 by lia] at this;rw[this];rfl
 have wl:∀r,r.9=n->(zx P (pF P hd) r).9=n:=λr hr=>by unfold zx;rw[cQ,af,wu,hr];lia
 have vl:∀r,r.9=n->∀c,(zx P (pF P hd) r).3 c 0=r.3 c 0 - r.3 P 0*(1 / hd.3 P 0*hd.3 c 0):=λr hr c=>by
  unfold zx;rw[UU (by rw[af,wu,hr]),O3];unfold pF;rw[O3]
 refine R.step (t:=ps.9) (aj _) (by rw[ax,bI];lia) (by rw[ek];show Z3) ?_ ?_ λi hi c=>?_
 ·rw[ax,ax,af,af,bN];lia
 ·intro xs hx;rcases aA.mp hx with hx | hx
  ·rcases aA.mp hx with hx | hx
   ·obtain r|hr|rfl:=ao.mp hx;show wl r (wide r (aA.mpr (.inl hr)))
   ·rw[bX.mp hx];show wu
  ·obtain r|hr|rfl:=ao.mp hx;show wl r (wide r (aA.mpr (.inr (.tail _ hr))))
 ·rw[Qi,ek]
  dsimp only
  have lf:(fs.11 (zx P (pF P hd))).9=ps.9:=by rw[af];show hf
  have key:∀{X:Y3} {s:Nat} (hs:s < X.9) (_:∀r∈X,r.9=n),aZ (X.11 (zx P (pF P hd))) s c=aZ X s c - aZ X s P*(1 / hd.3 P 0*hd.3 c 0):=λ{X s} hs hX=>by
   unfold aZ;have e1:(X.11 (zx P (pF P hd))).3 s []=zx P (pF P hd) X[s]:=by rw[aa,az,ae hs];rfl
   have e2:X.3 s []=X[s]:=by rw[aa,ae hs];rfl
   rw[e1,e2];show vl _ (hX _ (aB hs)) c
  rcases eQ i ps.9 with z | z | z
  ·rw[if_neg (),cC,vX (),vX (),key () λr hr=>wide r (aA.mpr (.inl hr))]
  ·rw[if_pos z,cC,show i=(fs.11 (zx P (pF P hd))).9+0 by lia,qI];change (pF P hd).3 c 0=_
   unfold pF;rw[O3]
  ·rw[if_neg ()];obtain ⟨j,rfl⟩:∃j,i=ps.9+1+j:=#[i - ps.9 - 1,()]
   have e1:aZ (fs++hd :: l2) (ps.9+1+j)=aZ l2 j:=by
    have:=qI (X:=fs) (Y:=hd :: l2) (i:=j+1);rw[show fs.9+(j+1)=ps.9+1+j by lia] at this;rw[this];rfl
   have e2:aZ ((fs.11 (zx P (pF P hd))++[pF P hd])++l2.11 (zx P (pF P hd))) (ps.9+1+j)=aZ (l2.11 (zx P (pF P hd))) j:=by
    have:=qI (X:=fs.11 (zx P (pF P hd))++[pF P hd]) (Y:=l2.11 (zx P (pF P hd))) (i:=j);rw[ax,lf,bN] at this;show this
   rw[e1,e2,key () λr hr=>wide r (aA.mpr (.inr (.tail _ hr)))]
end
theorem wW {α β:Type} {F:α->β->Prop}:∀{l1:List α} {l2:List β} (_:Xw F l1 l2) (i:Nat),Xw F (l1.23 i) (l2.23 i)
 | _,_,.nil,_=>.nil
 | _,_,.cons _ r,0=>r
 | _,_,.cons h r,i+1=>.cons h (wW r i)
theorem UD:c∈GG xs i↔c < i/\xs.3 c 0≠0:=by
 unfold GG;rw[oi,pN];simp
theorem bw.toE {K:Y2} (h:bw K H0 H l rows):∃us,H l=some (.lst us)/\Xw (p7 K (λq=>H0 q=none/\q≠l) H) rows us:=by
 obtain us|g|pr|nn:=h;show #[us,g,t7 (λxs v hv #[q,e,a,b]=>#[q,e,#[a,λz=>nn (by rw[<- z,<- e];show hv)],b]) pr]
theorem CV {α:Type} {v:α}:∀{l:List α},l.33->v∉l->∀j,(l.43 j v).33
 | [],_,_,_=>pM
 | a :: l,h,hn,0=>by
  rw[fg] at h;rw[List.set_cons_zero,fg];show #[λz=>hn (.tail _ z),h.2]
 | a :: l,h,hn,j+1=>by
  rw[fg] at h;rw[List.set_cons_succ,fg];refine #[λz=>?_,CV h.2 (λz=>hn (.tail _ z)) j];rcases cM z with z | z
  ·show h.1 z
  ·show hn (by rw[z];show .head _)
structure lD (K:Y2) (A:Addr->Prop) (H:Hp) (n:Nat) (C:V->Rat->Prop) (m p l b q0:Addr) (us ws vs:List V):Prop where
 _f:jE H b
 _C:Inner H b q0
 gm:H m=some (.lst us)
 gp:H p=some (.lst ws)
 gl:H l=some (.lst vs)
 lm:us.9=n
 row:∀x∈us++vs++ws,gG K A H n (C x) x
 nd:(us++vs++ws).33
section
variable {K:Y2}
theorem lD.same (h:lD K A H n C m p l b q0 us ws vs) (e:aL H H'):lD K A H' n C m p l b q0 us ws vs :=
 #[h._f.10 e,(e.Y7 (p:=b)).2 _ h._C,e _ _ h.gm,e _ _ h.gp,e _ _ h.gl,h.lm,λx hx=>(h.row x hx).10 e,h.nd]
theorem lD.Y7 (h:lD K A H n C m p l b q0 us ws vs) (M:Iw A m p l b q0) (u:di b H H') (B':jE H' b):lD K A H' n C m p l b q0 us ws vs :=
 #[B',u.2 _ h._C,u.37 M.mb h.gm,u.37 M.pb h.gp,u.37 M.lb h.gl,h.lm,λx hx=>(h.row x hx).Y7 u h._f M.ab,h.nd]
theorem lD.weak (h:lD K A H n C m p l b q0 us ws vs) (w:∀x∈us++vs++ws,∀y,C x y->C' x y):lD K A H n C' m p l b q0 us ws vs :=
 #[h._f,h._C,h.gm,h.gp,h.gl,h.lm,λx hx=>(h.row x hx).47 (λ_ z=>z) (w x hx),h.nd]
theorem lD.put (h:lD K A H n C m p l b q0 us ws vs) (M:Iw A m p l b q0) (aq:A q) (hq:H q=some (.lst zs)) (hv:cG K H y v) (hc:C (.ref q) y) (j:Nat):lD K A (upd H q (.lst (zs.43 j v))) n C m p l b q0 us ws vs:=by
 have ne:∀{z},¬A z->z≠q:=λh e=>h (by rw[e];show aq)
 refine #[h._f.upd h._C (ne M.ab).19 (ne M.aq).19,h._C.upd (ne M.ab).19,by rw[bK (ne M.am)];show h.gm,by rw[bK (ne M.ap)];show h.gp,by rw[bK (ne M.al)];show h.gl,h.lm,λx hx=>?_,h.nd];by_cases e:x=.ref q
 ·subst e;show (h.row _ hx).put hq hv hc j
 ·obtain q1|qs|rfl|a1|r1|l1|c1:=h.row x hx;show #[q1,qs,rfl,a1,r1.Zc hq (λz=>e (by rw[z])),l1,c1]
theorem lD.set (h:lD K A H n C m p l b q0 us ws vs) (M:Iw A m p l b q0) (hx:gG K A H n (C v) v) (hn:v∉us++vs++ws) (j:Nat):lD K A (upd H m (.lst (us.43 j v))) n C m p l b q0 (us.43 j v) ws vs:=by
 have mem:∀x∈us.43 j v++vs++ws,x=v\/x∈us++vs++ws:=λx hx=>by
  rcases aA.mp hx with hx | hx
  ·rcases aA.mp hx with hx | hx
   ·rcases cM hx with hx | hx
    ·show .inr (by simp [hx])
    ·show .inl hx
   ·show .inr (by simp [hx])
  ·show .inr (by simp [hx])
 refine #[h._f.upd h._C M.mb M.mq,h._C.upd M.mb,aN,by rw[bK M.mp.19];show h.gp,by rw[bK M.ml.19];show h.gl,by rw[fh];show h.lm,λx Y6=>?_,?_]
 ·rcases mem x Y6 with rfl | Y6
  ·show hx.37 h.gm M.am
  ·show (h.row x Y6).37 h.gm M.am
 ·have nd:=h.nd;rw[cC] at nd hn ⊢;obtain n1|n2|n3:=dX.mp nd;refine dX.mpr #[?_,n2,λa ha c hc=>?_]
  ·rcases be j us.9 with z | z
   ·show CV n1 (λz'=>hn (aA.mpr (.inl z'))) j
   ·rw[List.set_eq_of_length_le z];show n1
  ·rcases cM ha with ha | rfl
   ·show n3 a ha c hc
   ·show λz=>hn (aA.mpr (.inr (by rw[z];show hc)))
end
theorem Lm (h0:0 < M) (h1:M<=2^800) (hW:W<=2^140) (h:Fr M W x):oY x :=
 JC h0 (ai h1 (ak () ())) (ai hW (ak () ())) h
theorem Q1 {t V c:Nat} (ht:t<=3) (hV:V<=2^20) (hc:c<=9):c*(9^t*V)<=2^140:=by
 have h1:9^t<=9^3:=ak () ht;have h2:c*(9^t*V)<=9*(9^3*2^20):=aE hc (aE h1 hV);show ai h2 (ai (show 9*(9^3*2^20)<=2^40 by decide) (ak () ()))
theorem rS {α:Type} {l:List α} {v:α} (h:l.33) (hn:v∉l):(l++[v]).33:=dX.mpr #[h,by simp,λa ha c hc=>by rw[bX.mp hc];show λz=>hn (by rw[<- z];show ha)]
section
variable {g:TG}
theorem Dc (G:Hp->β->V->Prop) (C:β->Prop) (hB:jE H b) (hl:n<=1000) (hG:∀{H' _H c x},G H' c x->di b H' _H->jE H' b->G _H c x)
  (hA:∀{H' c x},G H' c x->∃q,x=V.ref q/\H' q≠none)
  (hs:∀(i:Nat) H' NY NN,i < n->di b H H'->jE H' b->(∀y c H2,di b H' H2->jE H2 b->C c->G H2 c y->(∃q,y=V.ref q/\H' q=none)->NY y H2)->sZ σ₀ g tf te (.int i) H' NY NN)
  (hd:∀ys cs H' p,H p=none->di b H H'->jE H' b->H' p=some (.lst ys)->cs.9=n->ys.33->(∀c∈cs,C c)->Xw (G H') cs ys->(∃H2,H2 p=none/\Xw (G H2) cs ys)->Q (.ref p) H'):uD (IC 0 n) σ₀ g tf te Q H:=by
 refine oS (λi ys H'=>di b H H'/\jE H' b/\∃cs,cs.9=i/\ys.33/\(∀c∈cs,C c)/\Xw (G H') cs ys) kX #[(aL.refl _).Y7,hB,[],rfl,pM,(λ_ z=>nomatch z),.nil] ?_ ?_
 ·rintro i ys H' hi Za ⟨u,B,cs,lc,nd,hc,pr⟩;rw[uP];refine hs i H' _ _ hi u B λy c H2 u2 B2 cc gy #[q,ey,nq]=>#[u.4 u2,B2,cs++[c],by simp [lc],rS nd (λz=>by obtain c'|_|gc:=dE pr z;obtain q'|e'|h':=hA gc;rw[ey] at e';cases e';show h' nq),Fc hc cc,cf (bv (λ_ _ z=>hG z u2 B) pr) (.cons gy .nil)]
 ·rintro ys H' hy ⟨u,B,cs,lc,nd,hc,pr⟩ p hp;have s:aL H' (upd H' p (.lst ys)):=aL.new hp;show hd ys cs _ p (u.17 B hp) (u.10 s) (B.10 s) aN lc nd hc (bv (λ_ _ z=>hG z s.Y7 B) pr) #[H',hp,pr]
end
structure J8 (K:Y2) (A:Addr->Prop) (n:Nat) (C:Rat->Prop) (m p l b q0:Addr) (us ws vs:List V) (H0 H:Hp):Prop where
 _w:lD K A H n (λ_=>C) m p l b q0 us ws vs
 gp:H p=some (.lst ws)
 gl:H l=some (.lst vs)
 kp:jD A b m H0 H
section
variable {K:Y2}
theorem J8.same (h:J8 K A n C m p l b q0 us ws vs H0 H) (e:aL H H'):J8 K A n C m p l b q0 us ws vs H0 H':=#[h._w.10 e,e _ _ h.gp,e _ _ h.gl,h.kp.10 e]
theorem J8.Y7 (h:J8 K A n C m p l b q0 us ws vs H0 H) (M:Iw A m p l b q0) (u:di b H H') (B:jE H' b):J8 K A n C m p l b q0 us ws vs H0 H':=#[h._w.Y7 M u B,u.37 M.pb h.gp,u.37 M.lb h.gl,h.kp.Y7 u]
theorem J8.row (h:J8 K A n C m p l b q0 us ws vs H0 H) (hx:x∈ws\/x∈vs):gG K A H n C x:=h._w.row x (by rcases hx with hx | hx <;> simp [hx])
theorem J8.put (h:J8 K A n C m p l b q0 us ws vs H0 H) (M:Iw A m p l b q0) (hx:V.ref q∈ws\/V.ref q∈vs) (hv:cG K H y v) (hc:C y) (j:Nat):∃zs,H q=some (.lst zs)/\zs.9=n/\J8 K A n C m p l b q0 us ws vs H0 (upd H q (.lst (zs.43 j v))):=by
 obtain q'|zs|qs|e|a|g|lz|_:=(h.row hx).at;cases e;have ne:∀{z},¬A z->z≠q:=λh e=>h (by rw[e];show a)
 show #[zs,g,lz,h._w.put M a g hv hc j,by rw[bK (ne M.ap)];show h.gp,by rw[bK (ne M.al)];show h.gl,h.kp.upd (.inl a)]
end
inductive FW (K:Y2) (vs:List V) (H:Hp) (Q:VK) (E9:XK):Prop
 | mk (b:Addr) (n w:Nat) (way first:Int):vs=[.ref b,.int n,.int way,.int first,.int w]->jE H b->n<=8->1<=w->w<=1000000->(∀r us H',H r=none->H' r=some (.lst us)->us.9=n->us.33->(∀x∈us,gG K (λq=>H q=none/\q≠r) H' n (Dr (max w 6)) x)->jE H' b->di b H H'->Q (.ref r) H')->FW K vs H Q E9
def PtF (n i o w c:Nat) (mv pt lk:Y3):Prop:=∃M V1:Nat,0 < M/\GF M V1 mv/\GF M V1 pt/\GF M V1 lk/\((w<=9/\M=2520/\V1=9^3*9)\/(9 < w/\M<=2^(c*((n+i+o)*n))/\V1=9^3*2^c))
inductive FX (K:Y2) (vs:List V) (H:Hp) (Q:VK) (E9:XK):Prop
 | mk (b:Addr) (n:Nat):vs=[.ref b,.int n]->jE H b->1<=n->n<=8->(∀r mv pt lk H',eV K H H' r mv pt lk->mv.9=n->pt.9=1->lk.9=1->cS mv pt lk->GF 1 1 mv->GF 1 1 pt->GF 1 1 lk->jE H' b->di b H H'->Q (.ref r) H')->FX K vs H Q E9
theorem Es (M0:0 < M) (hM:M<=2^a) (hn:mv.9<=n0) (hV:(n0+1)*V1<=2^c) (fm:GF M V1 mv) (fp:GF M V1 pt) (h4:a<=200000/\c<=200000/\n0*(n0*(a+c)+4)<=1740000/\n0*(n0*(n0*(a+c)+4)+a+c+4)<=35600000):iU mv pt a c:=by
 obtain h1|h2|h3|h5:=h4;have e1:mv.9*(a+c)<=n0*(a+c):=au _ hn;have e2:mv.9*(mv.9*(a+c)+4)<=n0*(n0*(a+c)+4):=aE hn ();have e3:mv.9*(mv.9*(mv.9*(a+c)+4)+a+c+4)<=n0*(n0*(n0*(a+c)+4)+a+c+4):=aE hn ();show #[M,V1,M0,hM,ai (au _ ()) hV,fm,fp,h1,h2,(),()]
theorem A1 (lm:mv.9=n) (wm:∀xs∈mv,xs.9=n) (wp:∀xs∈pt,xs.9=n) (RR:aG (Y4 mv pt t) n R ps) (ZS:aG (Y4 mv pt (t+1)) n R' Zd):aG (pt++R.11 (gF mv)) n R' Zd:=by
 have wk:=cJ (mv:=mv) lm wp t;refine #[ZS.1,ZS.2.1,ZS.2.2.37 ?_ ?_]
 ·refine wg (λi hi=>tm hi) λi hi=>qh ?_
  rw[af] at hi;have:=RR.2.2.span i hi;rw[<- RR.1] at this;show Ad lm wm wk RR.2.1 hi this
 ·refine wg (λi hi=>tm hi) λi hi=>qh ?_
  rw[af] at hi;show Ad lm wm RR.2.1 wk hi (RR.2.2.55 i (by rw[<- RR.1];show hi))
theorem S6 {F G:List ks->Rat} {r:Nat} {σ:Nat->Nat} (hF:∀ws:List ks,F (ws.11 λv i=>v (σ i))=G ws):∀(post pre:List ks) (s:Rat),BB F r (pre.11 λv i=>v (σ i)) (post.11 λv i=>v (σ i)) s=BB G (σ r) pre post s
 | [],_,_=>rfl
 | v :: post,pre,s=>by
  have i1:=hF (pre++post);have i2:=S6 (r:=r) hF post (pre++[v]) (-s);simp only[bo,iW,LI,BB] at i1 i2 ⊢;rw[i1,i2]
theorem Ti {σ:Nat->Nat}:∀(rs:List Nat) (vs:List ks),sV rs (vs.11 λv i=>v (σ i))=sV (rs.11 σ) vs
 | [],[]=>rfl
 | [],_ :: _=>rfl
 | r :: rs,vs=>S6 (λws=>Ti rs ws) vs [] 1
theorem N5 {σ:Nat->Nat}:∀{k:Nat},(yn (λi=>i) k).11 σ=yn σ k
 | 0=>rfl
 | k+1=>by change σ k :: _=_;rw[N5];rfl
theorem C! {τ:ks->ks} {v:Nat->ks}:∀{k:Nat},(sD v k).11 τ=sD (λj=>τ (v j)) k
 | 0=>rfl
 | k+1=>by change τ (v k) :: _=_;rw[C!];rfl
theorem UY:sV (yn σ k) (sD v k)=sV (yn (λi=>i) k) (sD (λj i=>v j (σ i)) k):=by
 rw[<- N5,<- Ti,C!]
structure Vb (r n:Nat) (Pm Y Z:Nat->Nat->Rat) (d:Rat) (W:Nat):Prop where
 d0:d≠0
 det:d=sV (yn (λi=>i) r) (sD (λj i=>Pm i j) r)
 eq:∀i,i < r->∀c,c < n->Z i c=aR r λs=>Pm i s*Y s c
 pf:∀i,i < r->∀s,s < r->Fr 1 W (Pm i s)
 zf:∀i,i < r->∀c,c < n->Fr 1 W (Z i c)
section
variable {rows fs ls:Y3} {n r M W Wv Wb k P:Nat} {Pm Y Z B E a:Nat->Nat->Rat} {d:Rat} {ps:List Nat} {rs:Y3}
def PR (rows:Y3) (n S:Nat):Prop:=2*S<=15960000/\∃J:Nat->Y3->List Nat->Prop,J 0 rows []/\(∀P rs ps,J P rs ps->(∀i,ps.9<=i->i < rs.9->aZ rs i P=0)->J (P+1) rs ps) /\
 (∀P fs ls ps t,J P (fs++ls) ps->fs.9=ps.9->t < ls.9->P < n->(ls.3 t []).3 P 0≠0->J (P+1) ((fs.11 (zx P (pF P (ls.3 t [])) )++[pF P (ls.3 t [])])++(ls.23 t).11 (zx P (pF P (ls.3 t [])))) (ps++[P])) /\
 (∀P rs ps,J P rs ps->z8 rows n P rs ps)/\∀P rs ps,J P rs ps->P<=n->∀i,i < rows.9->∃D:Nat,0 < D/\D<=2^S/\∀c,Tp D (2^S) (aZ rs i c)
theorem PU.X! {w a:Nat} (F:PU rows n w a) (hw:∀xs∈rows,xs.9=n):PR rows n (min rows.9 n*(w+4)+a):=by
 obtain _|_|_|_|_|_|_|_|e:=id F;refine #[e,z8 rows n,z8.start hw,λ_ _ _ h z=>h.skip z,λ_ _ _ _ _ h hf ht hP Z3=>h.lean hf ht hP Z3,λ_ _ _ h=>h,λP rs ps h hP i hi=>?_];obtain D|D0|D1|D2:=h.sz F hP hi;show #[D,D0,D1,λc=>(D2 c).22 (ak () ())]
end
section
variable {rows R R1 R2 mv pt:Y3} {n r M V1 W W' Wv Wb k P:Nat} {Pm Y Z B E a:Nat->Nat->Rat} {d:Rat} {ps ps1 _m:List Nat} {rs:Y3}
theorem Nn (h0:0 < M) (h3:∀xs∈rows,∀x∈xs,Tp M W x):∀i,i < rows.9->∀c,Fr 1 W (eH (rows.11 iS) i c):=λi hi c=>by
 have hx:=getD_in (e:=[]) hi;rw[yY hi];unfold aZ;generalize rows.3 i []=xs at hx ⊢;by_cases hc:c < xs.9
 ·have t:=h3 xs hx _ (getD_in (e:=0) hc);obtain s|e|b:=xN t h0 (qG (xs:=xs)) (qH (ao.mpr #[_,getD_in (e:=0) hc,rfl])) (z6 h0 (h3 xs hx));rw[bC,e];show Fr.int b
 ·rw[aa,aF ()];change Fr 1 W (_*0)
  rw[br];show Fr.zero
theorem Vb.of (hw:∀xs∈rows,xs.9=n) (hW:1<=W) (h0:0 < M) (h3:∀xs∈rows,∀x∈xs,Tp M W x) (RR:aG rows n R ps):∃Pm Z d,Vb ps.9 n Pm (aZ R) Z d W:=by
 have ent:=Nn h0 h3;obtain ls|_m|d|I:=xS hw hW (by rw[af];show ent) n (aj _);obtain _|_|⟨pm,B⟩|E:=I;rw[af] at B E
 have RF:Dm rows.9 n (aZ rows) _m.9 (λj=>_m.3 j 0) (λi c=>eH ls i c / d):=Dm.other (E.done λi hi c hc=>vU (n:=n) (λzs hz=>by
  obtain xs|hx|rfl:=ao.mp hz;rw[qe];show hw xs hx) hc) zK zL
 obtain e1|e2|e3:=RF.uniq RR.2.2 (λ_ hi=>d4.row hi) (λ_ hi=>d4.row hi);refine #[λi s=>eH (rows.11 iS) (pm i) (_m.3 s 0),λi c=>eH (rows.11 iS) (pm i) c,d,?_];rw[<- e1];have km:=B.km;refine #[B.d0,?_,λi hi c hc=>?_,λi hi s hs=>ent _ (B.ZT i ()) _,λi hi c hc=>ent _ (B.ZT i ()) _]
 ·rw[B.det];show UY
 ·have:=B._e (i:=i) (c:=c) ();rw[if_pos hi,jW] at this;rw[this];show ar λs hs=>by rw[<- e3 s hs c];show bC _ _
theorem ot {f:Nat->Rat} {a:Nat}:∀{b:Nat},aR (a+b) f=aR a f+aR b λt=>f (a+t)
 | 0=>by change aR a f=aR a f+0;grind
 | b+1=>by
  change aR (a+b) f+f (a+b)=_+(aR b _+f (a+b))
  rw[ot];grind
end
theorem rF (RR:aG rows n R ps):aG R n R ps:=#[RR.1,RR.2.1,RR.2.2.37 (λi hi=>by rw[RR.1];show RR.2.2.span i hi) (λi hi=>RR.2.2.55 i (by rw[<- RR.1];show hi))]
theorem Qu (RR:aG rows n R ps) (e:ps.9=n) (hi:i < n) (c:Nat):aZ R i c=if c=i then 1 else 0:=by
 have lo:∀j,j < n->j<=ps.3 j 0:=by
  intro j
  induction j with
  | zero=>intro _;show bD _
  | succ j ih =>
   intro hj;have:=ih ();have:=RR.2.2.inc j (j+1) () ()
   lia
 have hi2:∀s j,j+s+1=n->ps.3 j 0<=j:=by
  intro s
  induction s with
  | zero =>
   intro j hj;have:=RR.2.2.56 j ()
   lia
  | succ s ih =>
   intro j hj;have:=ih (j+1) ();have:=RR.2.2.inc j (j+1) () ()
   lia
 have ep:∀j,j < n->ps.3 j 0=j:=λj hj=>kx (hi2 (n - 1 - j) j ()) (lo j hj)
 by_cases hc:c < n
 ·have:=RR.2.2.34 i () c ();rw[ep c hc] at this;rw[this];by_cases z:i=c
  ·rw[if_pos z,if_pos z.19]
  ·rw[if_neg z,if_neg (Yg z)]
 ·rw[ji RR.2.1 (),if_neg ()]
theorem EB (h:∀i,i < rows.9->∀c,Tp M W (aZ rows i c)):∀xs∈rows,∀x∈xs,Tp M W x:=λxs hx x Y6=>by
 obtain i|hi|rfl:=aH hx;obtain c|hc|rfl:=aH Y6;have:=h i hi c;unfold aZ at this;rw[aa (l:=rows),ae hi] at this;have e:(some rows[i]).3 []=rows[i]:=rfl;rw[e,aa,ae hc] at this;show this
theorem iU.vb (F:iU mv pt a c) (wm:∀xs∈mv,xs.9=mv.9) (wp:∀xs∈pt,xs.9=mv.9) (ht:t<=ps.9) (RR:aG (Y4 mv pt t) mv.9 R ps):∃Pm Z d w,Vb ps.9 mv.9 Pm (aZ R) Z d (2^w)/\(ps.9 < mv.9/\w=(mv.9 - 1)*(a+c)\/ps.9=mv.9/\w=0):=by
 have le:=RR.le;rcases be ps.9 mv.9 with z | z
 ·obtain M|V|M0|Ma|hV|fm|fp|_:=F;have f:=Jw rfl wm wp hV fm fp t
  obtain Pm|Z|d|vb:=Vb.of (cJ rfl wp t) (bO (n:=(mv.9 - 1)*(a+c))) (jS M0 (n:=t)) (λxs hx x Y6=>Tp.of (f xs hx x Y6) (by
   refine ai (aP _ (jC Ma t)) ?_;rw[<- sR,<- aV];refine ak () ?_;rw[<- Dn,cB,d6 c];show au _ ())) RR
  show #[Pm,Z,d,_,vb,.inl #[z,rfl]]
 ·have e:ps.9=mv.9:=()
  obtain Pm|Z|d|vb:=Vb.of (W:=2^0) (M:=1) RR.2.1 () () (EB λi hi c=>by
   rw[RR.1,e] at hi;rw[Qu RR e hi c]
   split
   ·show #[1,by rw[fL];rfl,()]
   ·show #[0,by rw[c8];rfl,()]) (rF RR)
  show #[Pm,Z,d,0,vb,.inr #[e,rfl]]
inductive Ah (K:Y2) (vs:List V) (H:Hp) (Q:VK) (E9:XK):Prop
 | mk (p:Addr) (n S:Nat) (H0:Hp) (rows:Y3):vs=[.ref p,.int n]->bw K H0 H p rows->rows.9<=100->n<=100->(∀xs∈rows,xs.9=n)->PR rows n S->(∀r R ps H',H r=none->aL H H'->bw K H H' r R->aG rows n R ps->ps.9<=rows.9->Q (.ref r) H')->Ah K vs H Q E9
section
variable {K:Y2} {g:TG}
theorem C8 {F:Hp->α->V->Prop} (G:Hp->β->V->Prop) (f:α->β) (hx:H a=some (.lst xs)) (pf:Xw (F H) as xs) (hl:as.9<=1000)
  (hF:∀{H H' c x},F H c x->aL H H'->F H' c x) (hG:∀{H H' c x},G H c x->aL H H'->G H' c x) (hA:∀{H' c x},G H' c x->∃q,x=V.ref q/\H' q≠none)
  (hs:∀(i:Nat) c x H' NY NN,as[i]?=some c->aL H H'->F H' c x->(∀y H2,aL H' H2->G H2 (f c) y->(∃q,y=V.ref q/\H' q=none)->NY y H2)->sZ σ₀ g tf te x H' NY NN)
  (hd:∀ys H' p,H p=none->aL H H'->H' p=some (.lst ys)->ys.33->(∀y∈ys,∃q,y=V.ref q/\H q=none/\q≠p)->Xw (G H') (as.11 f) ys->Q (.ref p) H'):uD (Ss K a) σ₀ g tf te Q H:=by
 have lx:=pf.9;refine d9 (K:=K) (xs:=xs) (λi ys H'=>aL H H'/\ys.33/\(∀y∈ys,∃q,y=V.ref q/\H q=none)/\Xw (G H') ((as.18 i).11 f) ys) kX #[aL.refl _,pM,(λ_ z=>nomatch z),.nil] (λi ys H' _ #[s,_]=>bY.of (s _ _ hx)) ?_ ?_
 ·rintro i x ys H' Y6 Za ⟨s,nd,hn,pr⟩;obtain c|ec|hc:=dd pf Y6;refine hs i c x H' _ _ ec s (hF hc s) λy H2 s2 gy #[q,ey,nq]=>#[s.4 s2,rS nd (λz=>?_),Fc hn #[q,ey,s.17 nq],?_]
  ·obtain c'|_|gc:=dE pr z;obtain q'|e'|h':=hA gc;rw[ey] at e';cases e';show h' nq
  ·rw[take_snoc ec,bo];show cf (bv (λ_ _ z=>hG z s2) pr) (.cons gy .nil)
 ·rintro ys H' hy ⟨s,nd,hn,pr⟩ p hp;rw[aJ ()] at pr;refine hd ys _ p (s.17 hp) (s.4 (aL.new hp)) aN nd (λy hy=>?_) (bv (λ_ _ z=>hG z (aL.new hp)) pr);obtain q|e|nq:=hn y hy;refine #[q,e,nq,λz=>?_];obtain c'|_|gc:=dE pr hy;obtain q'|e'|h':=hA gc;rw[e] at e';cases e';show h' (by rw[z];show hp)
end
structure WO (K:Y2) (H0 H:Hp) (n:Nat) (fd:Addr) (L:List (Addr×List V)):Prop where
 gf:H fd=some (.lst (L.11 λe=>V.ref e.1))
 nf:H0 fd=none
 ls:∀e∈L,H0 e.1=none/\e.1≠fd/\H e.1=some (.lst e.2)
 nd:(L.11 λe=>e.1).33
 rows:∀e∈L,∀x∈e.2,gG K (λq=>(H0 q=none/\q≠fd)/\q∉L.11 λe=>e.1) H n (Fr 1 1) x
 rd:(L.flatMap λe=>e.2).33
section
variable {K:Y2}
theorem WO.snoc (h:WO K H0 H n fd L) (s0:aL H0 H) (s:aL H H1) (hq:H q=none) (gq:H1 q=some (.lst us)) (nd:us.33) (hr:∀x∈us,gG K (λz=>H z=none/\z≠q) H1 n (Fr 1 1) x):WO K H0 (upd H1 fd (.lst ((L.11 λe=>V.ref e.1)++[.ref q]))) n fd (L++[(q,us)]):=by
 have qf:q≠fd:=λz=>by rw[z,h.gf] at hq;cases hq
 have old:∀{z},z∈(L.11 λe=>e.1)->H z≠none:=λhz=>by
  obtain e|he|rfl:=ao.mp hz;rw[(h.ls e he).2.2];show λz=>nomatch z
 have g1:=s _ _ h.gf;refine #[by rw[aN,bo];rfl,h.nf,λe he=>?_,?_,λe he x hx=>?_,?_]
 ·rcases aA.mp he with he | he
  ·obtain a|b|c:=h.ls e he;show #[a,b,by rw[bK b];show s _ _ c]
  ·rw[bX.mp he];show #[s0.17 hq,qf,by rw[bK qf];show gq]
 ·rw[bo];show rS h.nd λz=>old z hq
 ·have key:gG K (λz=>(H0 z=none/\z≠fd)/\z∉(L++[(q,us)]).11 λe=>e.1) H1 n (Fr 1 1) x:=by
   rcases aA.mp he with he | he
   ·obtain z|qs|e1|⟨e2,e3⟩|e4|e5:=h.rows e he x hx;refine #[z,qs,e1,#[e2,λhz=>?_],e4.10 s,e5];rw[bo] at hz;rcases aA.mp hz with hz | hz
    ·show e3 hz
    ·have hz:z=q:=bX.mp hz;obtain _|gg|_:=e4;rw[hz,hq] at gg;cases gg
   ·rw[bX.mp he] at hx;refine (hr x hx).47 (λz hz=>#[#[s0.17 hz.1,λy=>by rw[y] at hz;rw[h.gf] at hz;show absurd hz.1 (λw=>nomatch w)],λy=>?_]) (λ_ w=>w);rw[bo] at y;rcases aA.mp y with y | y
    ·show old y hz.1
    ·show hz.2 (bX.mp y)
  show key.37 g1 (λz=>z.1.2 rfl)
 ·rw[List.flatMap_append];refine dX.mpr #[h.rd,by simpa using nd,λx hx y hy z=>?_];obtain e|he|hx:=List.mem_flatMap.mp hx;obtain w|qs|e1|_|⟨_,gg,_⟩|_:=h.rows e he x hx;obtain w'|_|e1'|⟨hw,_⟩|_:=hr y (by simpa using hy);rw[<- z,e1] at e1';cases e1';rw[hw] at gg;cases gg
end
def Gd (mv pt:Y3) (i:Nat) (R:Y3) (ps:List Nat):Prop:=aG (Y4 mv pt i) mv.9 R ps/\∃t,t<=ps.9/\t<=i/\aG (Y4 mv pt t) mv.9 R ps/\(t=i\/∀s,aG (Y4 mv pt (t+s)) mv.9 R ps)
theorem Gd.start:Gd mv pt 0 [] []:=#[Ja,0,aj _,aj _,Ja,.inl rfl]
theorem N2 (wm:∀xs∈mv,xs.9=mv.9) (wp:∀xs∈pt,xs.9=mv.9) (h:aG (Y4 mv pt i) mv.9 R ps) (h':aG (Y4 mv pt (i+1)) mv.9 R' Zd) (e:Zd.9=ps.9):∀s,aG (Y4 mv pt (i+s)) mv.9 R ps:=C0 rfl wm wp h (A1 rfl wm wp h h') e
theorem Gd.step (wm:∀xs∈mv,xs.9=mv.9) (wp:∀xs∈pt,xs.9=mv.9) (h:Gd mv pt i R ps) (h':aG (Y4 mv pt (i+1)) mv.9 R' Zd):Gd mv pt (i+1) R' Zd/\(mv.9<=i->R'=R):=by
 obtain h0|t|t1|t2|ht|hs:=h
 have st:(∀s,aG (Y4 mv pt (t+s)) mv.9 R ps)->Gd mv pt (i+1) R' Zd/\(mv.9<=i->R'=R):=λhs=>by
  have:=hs (i+1 - t);rw[show t+(i+1 - t)=i+1 by lia] at this;obtain rfl|rfl:=this.10 h';show #[#[h',t,t1,(),ht,.inr hs],λ_=>rfl]
 rcases hs with rfl | hs
 ·have gr:=GU rfl wm wp h0 h';by_cases e:Zd.9=ps.9
  ·show st (N2 wm wp h0 h' e)
  ·refine #[#[h',t+1,(),aj _,h',.inl rfl],λhn=>?_];have:=h'.le
   lia
 ·show st hs
theorem Gd._X (h:Gd mv pt i R ps) (hi:mv.9 < i) (hj:mv.9<=j):aG (Y4 mv pt j) mv.9 R ps:=by
 obtain h0|t|t1|t2|ht|hs:=h;have le:=h0.le;rcases hs with rfl | hs
 ·lia
 ·have:=hs (j - t);rwa [show t+(j - t)=j by lia] at this
theorem Pf (hl:vs.9<=N) (h:∀v∈vs,∀r∈rs,Fr 1 Wx (v r)):∃z:Int,sV rs vs=(z:Rat)/\z.15<=(N*Wx)^rs.9:=by
 have f:=A7 hl h;obtain z|ez:=xr f;rw[ez] at f;show #[z,ez,vT f]
def eU (mv:Y3):Nat->List Rat->List Rat
 | 0,x=>x
 | t+1,x=>gF mv (eU mv t x)
section
variable {mv pt lk pus:Y3} {st pu go:List Rat} {n t T c:Nat}
theorem rG (h:st.9=mv.9):∀t,(eU mv t st).9=mv.9
 | 0=>h
 | _+1=>fv
theorem uj (D:cS mv pt lk) (h:st.9=mv.9) (hp:pu.9=pt.9) (hc:c < mv.9):(jb mv pt st pu).3 c 0=aR mv.9 (λj=>aZ mv c j*st.3 j 0)+aR pt.9 λi=>pu.3 i 0*aZ pt i c:=by
 have wc:=D.mw _ (aB hc)
 have e:(jb mv pt st pu).3 c 0=bT (mv[c]++pt.11 λxs=>xs.3 c 0) (st++pu):=by
  unfold jb;rw[aa,cL,ae hc,Nl hc];rfl
 rw[e,uw (),bZ (),bZ (by rw[af];lia),wc,af];congr 1
 ·refine ar λj _=>?_
  unfold aZ;rw[aa (l:=mv),ae hc];rfl
 ·refine ar λi hi=>?_
  rw[bC];congr 1;unfold aZ;rw[aa,az,aa (l:=pt),ae hi];rfl
theorem iK:∀t,(Y4 mv pt t).9=t*pt.9
 | 0=>by rw[Nat.zero_mul];rfl
 | t+1=>by
  change (pt++(Y4 mv pt t).11 (gF mv)).9=_
  rw[ax,af,iK t,iN,d6]
end
section
variable {K:Y2} {H0 H H':Hp} {l p q:Addr} {R:Y3} {v:V} {mv pt:Y3} {u T:Nat}
def U7 (mv pt:Y3) (u:Nat):List (Y3):=(W0 u).11 λs=>pt.11 (eU mv s)
theorem z7:U7 mv pt (u+1)=U7 mv pt u++[pt.11 (eU mv u)]:=by unfold U7;rw[ky,bo];rfl
theorem pH:∀u,(U7 mv pt u).flatten=Y4 mv pt u
 | 0=>rfl
 | u+1=>by
  have e:U7 mv pt (u+1)=pt :: (U7 mv pt u).11 (XT (gF mv)):=by
   unfold U7;rw[List.range_succ_eq_map,iW,b7];congr 1
   ·show ee pt
   ·rw[b7];refine bV λs _=>?_
    change pt.11 (eU mv (s+1))=(pt.11 (eU mv s)).11 (gF mv)
    rw[b7];rfl
  rw[e,iQ,<- List.map_flatten,pH u];rfl
theorem U6 (h:xs∈pt.11 (eU mv s)):xs∈Y4 mv pt (s+1):=by
 rw[<- pH,z7,uF];show aX _ (by simpa using h)
end
theorem Vb.tp (V:Vb r n Pm Y Z d W) (r15:r<=15) (w1:1<=W):∃q:Nat,0 < q/\q<=(16*W)^r/\∀s,s < r->∀c,c < n->Tp q ((16*W)^r) (Y s c):=by
 have rlt:∀i∈yn (λi=>i) r,i < r:=λi hi=>by
  obtain t|ht|e:=pZ hi;have e:i=t:=e
  lia
 obtain q|eq|bq:=Pf (N:=16) (Wx:=W) (rs:=yn (λi=>i) r) (vs:=sD (λj i=>Pm i j) r) (by rw[Zs];lia) λw hw i hi=>by
  obtain s|hs|rfl:=ZN hw;show V.pf i (rlt i hi) s hs
 rw[tY] at bq;rw[<- V.det] at eq;have q0:q≠0:=λz=>V.d0 (by rw[eq,z];rfl)
 refine #[q.15,(),bq,λs hs c hc=>?_]
 have cr:=C6 (rs:=yn (λi=>i) r) (v:=λj i=>Pm i j) (c:=λj=>Y j c) (W:=λi=>Z i c) hs (λi hi=>by
  rw[V.eq i (rlt i hi) c hc];show ar λj _=>bC _ _)
 obtain z|ez|bz:=Pf (N:=16) (Wx:=W) (rs:=yn (λi=>i) r) (vs:=M6 (λj i=>Pm i j) s r++(λi=>Z i c) :: sD (λj i=>Pm i j) s) (by
  have:=congrArg Yt (Zl (v:=λj i=>Pm i j) hs);rw[ax,bI,Zs] at this;rw[ax,bI]
  lia) λw hw i hi=>by
   rcases aA.mp hw with hw | hw
   ·obtain s'|hs'|rfl:=HQ hw;show V.pf i (rlt i hi) s' hs'
   ·rcases aM.mp hw with rfl | hw
    ·show V.zf i (rlt i hi) c hc
    ·obtain s'|hs'|rfl:=ZN hw;show V.pf i (rlt i hi) s' ()
 rw[tY] at bz;rw[ez,<- V.det,eq] at cr;have key:Y s c*(q:Rat)=(z:Rat):=cr.19;rcases Iz q with h | h
 ·have hq:((q.15:Nat):Rat)=(q:Rat):=by rw[<- bu,<- h]
  show #[z,by rw[hq,key],bz]
 ·have hq:((q.15:Nat):Rat)=-(q:Rat):=by rw[<- bu,<- dt];congr 1;lia
  show #[-z,by rw[hq,dt,<- key];grind,by rw[lI];show bz]
theorem vS (F:iU mv pt a c) (D8:mv.9<=8) (wm:∀xs∈mv,xs.9=mv.9) (wp:∀xs∈pt,xs.9=mv.9):∀T,∃R ps,Gd mv pt T R ps:=by
 intro T
 induction T with
 | zero=>show #[_,_,Gd.start]
 | succ T ih =>
  obtain R|ps|G:=ih;obtain RR|t|t1|t2|RRt|hs:=id G;have le:=RR.le
  obtain R'|Zd|d|ls|S:=ym (n:=mv.9) (rows:=pt++R.11 (gF mv)) (λxs hx=>by
   rcases aA.mp hx with hx | hx
   ·show wp xs hx
   ·obtain y|_|rfl:=ao.mp hx;show fv) (F.step D8 wm wp (t:=t) () RRt)
  have ZS:=xn rfl wm wp RR S.rr;show #[R',Zd,(G.step wm wp ZS).1]
theorem Wn (F:iU mv pt a c) (D8:mv.9<=8) (wm:∀xs∈mv,xs.9=mv.9) (wp:∀xs∈pt,xs.9=mv.9) (RR:aG (Y4 mv pt T) mv.9 R ps):Gd mv pt T R ps:=by
 obtain R'|Zd|G:=vS F D8 wm wp T;obtain rfl|rfl:=RR.10 G.1;show G
theorem iU.rtp (F:iU mv pt a c) (D8:mv.9<=8) (wm:∀xs∈mv,xs.9=mv.9) (wp:∀xs∈pt,xs.9=mv.9) (RR:aG (Y4 mv pt T) mv.9 R ps):∃q,0 < q/\q<=2^(ps.9*((mv.9 - 1)*(a+c)+4))/\∀xs∈R,∀x∈xs,Tp q (2^(ps.9*((mv.9 - 1)*(a+c)+4))) x:=by
 obtain _|t|t1|_|RRt|_:=Wn F D8 wm wp RR;obtain Pm|Z|d|w|vb|hw:=F.vb wm wp t1 RRt;have le:=RR.le;obtain q|q0|q1|q2:=vb.tp () bO
 have up:(16*2^w)^ps.9<=2^(ps.9*((mv.9 - 1)*(a+c)+4)):=by
  have e:(16*2^w)^ps.9=2^(ps.9*(w+4)):=by rw[show (16:Nat)=2^4 from rfl,<- aV,<- sR,cB ps.9,d6 w]
  rw[e];refine ak () (aP _ ?_);rcases hw with ⟨_,rfl⟩ | ⟨_,rfl⟩ <;> lia
 refine #[q,q0,ai q1 up,EB λi hi e=>?_];by_cases he:e < mv.9
 ·show (q2 i (by rw[<- RR.1];show hi) e he).22 up
 ·rw[ji RR.2.1 ()];show Tp.zero
theorem L0 (hw:∀xs∈N,xs.9=n) (hW:1<=W) (h0:0 < M) (h3:∀xs∈N,∀x∈xs,Tp M W x) (f:Nat->Nat) (hf:∀i,i < N.9->aZ N i (f i)≠0/\∀j,j < N.9->j≠i->aZ N j (f i)=0) (hn:∀i,i < N.9->f i < n) (RR:aG N n Hd psd):psd.9=N.9:=by
 have ent:=Nn h0 h3;obtain ls|_m|d|I:=xS hw hW (by rw[af];show ent) n (aj _);obtain _|_|⟨pm,B⟩|E:=I;rw[af] at B E
 have RF:Dm N.9 n (aZ N) _m.9 (λj=>_m.3 j 0) (λi c=>eH ls i c / d):=Dm.other (E.done λi hi c hc=>vU (n:=n) (λzs hz=>by
  obtain xs|hx|rfl:=ao.mp hz;rw[qe];show hw xs hx) hc) zK zL
 obtain e1|_|_:=RF.uniq RR.2.2 (λ_ hi=>d4.row hi) (λ_ hi=>d4.row hi);rw[<- e1];have km:=B.km;rcases be _m.9 N.9 with z | z
 ·exfalso
  have hk:=B.ZT _m.9 z;obtain f1|f2:=hf _ hk
  have low:∀i,i < _m.9->eH (N.11 iS) (pm i) (f (pm _m.9))=0:=λi hi=>by
   rw[yY (B.ZT i ()),f2 _ (B.ZT i ()) (λe=>by have:=B.inj i _m.9 () z e;lia),br]
  have lz:∀j,j < _m.9->eH ls j (f (pm _m.9))=0:=λj hj=>by
   rw[B.old hj]
   show EH (λr hr=>by
    obtain t|ht|rfl:=pZ hr;show low t ht) _ _
  have:=B.h! _m.9 z (f (pm _m.9));rw[if_neg (dQ _),E.zero _m.9 (aj _) z _ (hn _ hk),bU λj hj=>by rw[lz j hj,br],yY hk] at this;have bne:=xC (rows:=N) (i:=pm _m.9);have d0:=B.d0;rcases PX.mp (this.4 (by grind)) with q | q
  ·show d0 q
  ·rcases PX.mp q with q | q
   ·show bne q
   ·show f1 q
 ·lia
theorem O7 (h1:∀i j,i < j->j < ps.9->ps.3 i 0 < ps.3 j 0) (h2:∀j,j < ps.9->ps.3 j 0 < n):(cW ps n).9+ps.9=n:=by
 have key:∀i,∃k,k<=ps.9/\(cW ps i).9+k=i/\(∀j,j < k->ps.3 j 0 < i)/\∀j,k<=j->j < ps.9->i<=ps.3 j 0:=by
  intro i
  induction i with
  | zero=>show #[0,bD _,rfl,λj hj=>absurd hj (fe _),λj _ _=>bD _]
  | succ i ih =>
   obtain k|k1|k2|k3|k4:=ih;rw[A5];by_cases hk:k < ps.9/\ps.3 k 0=i
   ·have hm:i∈ps:=by rw[<- hk.2];show getD_in hk.1
    rw[if_neg (λz=>z hm)];refine #[k+1,hk.1,(),λj hj=>?_,λj hj hl=>?_]
    ·rcases be j k with z | z
     ·have:=k3 j z;lia
     ·rw[show j=k by lia,hk.2];lia
    ·have:=h1 k j () hl
     lia
   ·have hm:i∉ps:=λz=>by
     obtain j|hj|ej:=aH z;have ej':ps.3 j 0=i:=by rw[aa,ae hj];show ej
     rcases be j k with y | y
     ·have:=k3 j y;lia
     ·rcases be k j with x | x
      ·have:=h1 k j x hj;have:=k4 k (aj _) ()
       lia
      ·show hk #[(),by rw[show k=j by lia];show ej']
    rw[if_pos hm];refine #[k,k1,by rw[ax,bN];lia,λj hj=>by have:=k3 j hj;lia,λj hj hl=>?_];have:=k4 j hj hl;rcases be i (ps.3 j 0) with y | y
    ·show y
    ·show absurd (by rw[show i=ps.3 j 0 by lia];show getD_in hl) hm
 obtain k|k1|k2|k3|k4:=key n;rcases be k ps.9 with z | z
 ·have:=k4 k (aj _) z;have:=h2 k z
  lia
 ·lia
theorem kL:∀xs∈aO R ps n,xs.9=n:=λxs hx=>by
 obtain _|_|_|rfl:=ma hx;show jG
theorem md (RR:aG rows n R ps):(aO R ps n).9+ps.9=n:=by
 unfold aO;rw[af];show O7 RR.2.2.inc RR.2.2.56
theorem Jo (RR:aG rows n R ps) (hW:1<=W) (h0:0 < M) (h3:∀xs∈aO R ps n,∀x∈xs,Tp M W x) (RN:aG (aO R ps n) n Hd psd):psd.9+ps.9=n:=by
 have fn:∀i,i < (aO R ps n).9->∀c,c < n->c∉ps->aZ (aO R ps n) i c=if c=(cW ps n).3 i 0 then 1 else 0:=λi hi c hc hp=>by
  unfold aO at hi ⊢;rw[af] at hi;unfold aZ;rw[aa (l:=XT _ _),az,ae hi];change (nM R ps n (cW ps n)[i]).3 c 0=_
  rw[jt hc hp,aa,ae hi];rfl
 have fm:∀i,i < (aO R ps n).9->(cW ps n).3 i 0 < n/\(cW ps n).3 i 0∉ps:=λi hi=>by
  unfold aO at hi;rw[af] at hi;show pG.mp (getD_in hi)
 have nd:(cW ps n).33:=by
  unfold cW;show IG FC Nd
 rw[L0 kL hW h0 h3 (λi=>(cW ps n).3 i 0) (λi hi=>#[?_,λj hj ne=>?_]) (λi hi=>(fm i hi).1) RN,md RR]
 ·rw[fn i hi _ (fm i hi).1 (fm i hi).2,if_pos rfl];decide
 ·rw[fn j hj _ (fm i hi).1 (fm i hi).2,if_neg λz=>ne ?_];unfold aO at hi hj;rw[af] at hi hj;rw[aa,aa,ae hi,ae hj] at z;have z:(cW ps n)[i]=(cW ps n)[j]:=z;have pw:=Vi.mp nd;rcases eQ i j with y | y | y
  ·show absurd z (pw i j hi hj y)
  ·show y.19
  ·show absurd z.19 (pw j i hj hi y)
theorem IK (RR:aG rows n R ps) (RN:aG (aO R ps n) n Hd psd):∀h∈Hd,∀r∈R,bT h r=0:=λh hh r hr=>by
 obtain i|hi|rfl:=aH hh;have wr:=RR.2.1 r hr;have wh:=RN.2.1 _ (aB hi);obtain v|hv:=RN.2.2.55 i (by rw[<- RN.1];show hi);rw[bZ (),wh]
 have fnh:∀c,Hd[i].3 c 0=aZ Hd i c:=λc=>by
  unfold aZ;rw[aa (l:=Hd),ae hi];rfl
 have e1:(aR n λc=>Hd[i].3 c 0*r.3 c 0)=aR (aO R ps n).9 λt=>v t*aR n λc=>aZ (aO R ps n) t c*r.3 c 0:=by
  have q:∀c,c < n->Hd[i].3 c 0*r.3 c 0=aR (aO R ps n).9 λt=>v t*(aZ (aO R ps n) t c*r.3 c 0):=λc _=>by
   rw[fnh c,hv c,bC,<- a8];show ar λt _=>by grind
  rw[ar q,cD];show ar λt _=>a8
 rw[e1];refine bU λt ht=>?_
 have mt:=aB ht;obtain at_|ha|hp|en:=ma mt;obtain j|hj|rfl:=aH hr;have dz:=vR (rF RR) ha hp (ae hj) wr;rw[<- en] at dz;have wn:(aO R ps n)[t].9=n:=kL _ mt;rw[bZ (),wr] at dz
 have q:(aR n λc=>aZ (aO R ps n) t c*R[j].3 c 0)=0:=by
  refine X3 (ar λc _=>?_) dz
  have:aZ (aO R ps n) t c=(aO R ps n)[t].3 c 0:=by
   unfold aZ;rw[aa (l:=aO R ps n),ae ht];rfl
  rw[this];show bC _ _
 rw[q,br]
structure PK (mv pt:Y3) (st pu:List Rat):Prop where
 f2:∀xs∈mv,oZ xs st
 part:∀kk,∀x∈nextK mv pt st pu kk,oY x
 su:∀u∈pu,oY u
 sp:∀row∈pt,∀y∈row,oY y
 mul:∀u∈pu,∀row∈pt,∀y∈row,oY (u*y)
inductive FV (K:Y2) (vs:List V) (H:Hp) (Q:VK) (E9:XK):Prop
 | mk (r s u:Addr) (H0:Hp) (mv pt lk:Y3) (st pu:List Rat):vs=[.ref r,.ref s,.ref u]->eV K H0 H r mv pt lk->cS mv pt lk->dS K H s st->dS K H u pu->st.9=mv.9->pu.9=pt.9->PK mv pt st pu->(∀t H',H t=none->aL H H'->dS K H' t (jb mv pt st pu)->Q (.ref t) H')->FV K vs H Q E9
structure Bd (mv pt:Y3) (M1 M2 V a1 a2 c:Nat):Prop where
 m1:0 < M1
 m2:0 < M2
 b1:M1<=2^a1
 b2:M2<=2^a2
 gm:GF M1 V mv
 gp:GF M2 V pt
 vc:(mv.9+4)*V<=2^c
section
variable {st pu go:List Rat} {M1 M2 V a1 a2 c N Np p t T ν:Nat}
theorem Bd.v1 (B:Bd mv pt M1 M2 V a1 a2 c):V<=2^c:=ai (eS _ ()) B.vc
theorem so (h0:0 < M) (h1:M<=2^a) (h2:W<=2^b) (hab:a+b<=15960000) (h:Fr M W x):oY x:=by
 refine xQ (Tp.of h (aj _)) h0 (ai h1 (ak () ())) ?_;refine ai (aE h2 h1) ?_;rw[<- aV];show ak () ()
theorem Bd.next (B:Bd mv pt M1 M2 V a1 a2 c) (D:cS mv pt lk) (ls:st.9=mv.9) (lu:pu.9=pt.9) (N0:0 < N) (dv:M2*Np∣M1*N) (hs:∀x∈st,Fr N (2^p) x) (hu:∀x∈pu,Fr Np (2^p) x) (hN:N<=2^ν) (sz:a1+ν+c+p<=15600000) (sp2:a2+c<=15600000):PK mv pt st pu/\∀x∈jb mv pt st pu,Fr (M1*N) (2^(c+p)) x:=by
 have V1:=B.v1;have i4:=D.i4;have MN0:0 < M1*N:=bx B.m1 N0;have MN:M1*N<=2^(a1+ν):=by rw[aV];show aE B.b1 hN
 have Np0:0 < Np:=by
  rcases ow Np with z | z
  ·rw[z,LD] at dv;have:=Nat.eq_zero_of_zero_dvd dv
   lia
  ·show z
 have ahg:Np<=M1*N:=ai (eS _ B.m2) (iV MN0 dv)
 have one:∀u∈pu,∀row∈pt,∀y∈row,Fr (M1*N) (V*2^p) (u*y):=λu hu' row hr y hy=>by
  have:=(B.gp row hr y hy).mul (hu u hu');rw[bC];show this.dvd dv
 have part:∀kk,kk<=pt.9->∀x∈nextK mv pt st pu kk,Fr (M1*N) (2^(c+p)) x:=λkk hkk x hx=>by
  obtain j|hj|e:=aH hx;rw[kh] at hj;have e2:=AR (mv:=mv) (pt:=pt) (st:=st) (pu:=pu) (k:=kk) hj;rw[aa,ae (by rw[kh];show hj)] at e2;have e3:x=bT (mv[j]++(pt.11 λxs=>xs.3 j 0).18 kk) (st++pu.18 kk):=by rw[<- e,<- e2];rfl
  have wj:=D.mw _ (aB hj);rw[e3,uw ()];have f1:=Fr.dot (B.gm _ (aB hj)) hs;rw[wj] at f1
  have f2:Fr (M1*N) (4*(V*2^p)) (bT ((pt.11 λxs=>xs.3 j 0).18 kk) (pu.18 kk)):=by
   have hc:∀y∈(pt.11 λxs=>xs.3 j 0).18 kk,Fr M2 V y:=λy hy=>by
    obtain xs|hxs|rfl:=ao.mp (bL hy);rw[aa];cases e:xs[j]? with
    | none=>show Fr.zero
    | some z=>show B.gp xs hxs z (av e)
   have:=Fr.dot (ys:=pu.18 kk) hc (λy hy=>hu y (bL hy));refine (this.dvd dv).22 (au _ ?_);rw[aS,af]
   lia
  refine (f1.add f2).22 ?_;rw[<- Dn,aV,<- cb];show au _ B.vc
 have szb:∀{x:Rat},Fr (M1*N) (2^(c+p)) x->oY x:=λh=>so MN0 MN (aj _) () h
 have all:∀kk,∀x∈nextK mv pt st pu kk,Fr (M1*N) (2^(c+p)) x:=λkk x hx=>by
  rcases be pt.9 kk with z | z
  ·have e:nextK mv pt st pu kk=nextK mv pt st pu pt.9:=(uJ () ()).4 (uJ (aj _) ()).19;rw[e] at hx;show part _ (aj _) x hx
  ·show part kk z x hx
 refine #[#[λxs hx=>#[a1,c,ν,p,#[M1,V,B.m1,B.b1,V1,B.gm xs hx],#[N,2^p,N0,hN,aj _,hs],()],λkk x hx=>szb (all kk x hx),λu hu'=>?_,λrow hr y hy=>?_,λu hu' row hr y hy=>szb ((one u hu' row hr y hy).22 (by rw[aV];show au _ V1))],λx hx=>?_]
 ·show so Np0 (ai ahg MN) (aj _) () (hu u hu')
 ·show so B.m2 B.b2 V1 () (B.gp row hr y hy)
 ·rw[<- uJ (k:=pt.9) (aj _) ()] at hx;show all _ x hx
end
section
variable {mv pt lk pus:Y3} {st pu go:List Rat} {M1 M2 V a1 a2 c N Np p t T ν k:Nat}
theorem qq (h:M<=2^a) (hN:N<=2^ν):M^t*N<=2^(a*t+ν):=by
 rw[aV,sR];show aE (jC h t) hN
theorem Bd.states (B:Bd mv pt M1 M2 V a1 a2 c) (D:cS mv pt lk) (ls:st.9=mv.9) (wp:∀xs∈pus,xs.9=pt.9) (N0:0 < N) (hN:N<=2^ν) (dv:M2*Np∣N) (hs:∀x∈st,Fr N (2^p) x) (hu:∀xs∈pus,∀x∈xs,Fr Np (2^p) x) (sz:a1*(pus.9+1)+ν+c*(pus.9+1)+p<=15600000) (sp2:a2+c<=15600000):∀k,k<=pus.9->(∀x∈nH mv pt st pus k,Fr (M1^k*N) (2^(c*k+p)) x)/\∀pu,pus[k]?=some pu->PK mv pt (nH mv pt st pus k) pu:=by
 have key:∀k,k<=pus.9->(∀x∈nH mv pt st pus k,Fr (M1^k*N) (2^(c*k+p)) x)->∀pu,pus[k]?=some pu->PK mv pt (nH mv pt st pus k) pu/\∀x∈jb mv pt (nH mv pt st pus k) pu,Fr (M1*(M1^k*N)) (2^(c+(c*k+p))) x:=λk hk f pu J!=>by
  have mp:=av J!;have kl:=(aI.mp J!).1;have e1:a1*(k+1)<=a1*(pus.9+1):=aP _ ();have e2:c*(k+1)<=c*(pus.9+1):=aP _ ();rw[gU,PL] at e1 e2;refine B.next D (nG ls hk) (wp pu mp) (bx (jS B.m1) N0) ?_ f (λx hx=>(hu pu mp x hx).22 (ak () (Nat.le_add_left _ _))) (qq B.b1 hN) () sp2;show xK dv (xK (dC _ _) (dC _ _))
 have fr:∀k,k<=pus.9->∀x∈nH mv pt st pus k,Fr (M1^k*N) (2^(c*k+p)) x:=by
  intro k
  induction k with
  | zero =>
   intro _ x hx;rw[Nat.pow_zero,xF,LD,LB];show hs x hx
  | succ k ih =>
   intro hk x hx;have e:=ae (show k < pus.9 by lia);rw[mR e] at hx;have:=(key k () (ih ()) _ e).2 x hx;rw[<- cb,cB M1,<- iO,show c+(c*k+p)=c*(k+1)+p by rw[gU];lia] at this;show this
 show λk hk=>#[fr k hk,λpu J!=>(key k hk (fr k hk) pu J!).1]
def Xu (mv:Y3) (st:List Rat) (T:Nat):Prop:=∃M1 V a1 c N p ν,0 < M1/\M1<=2^a1/\GF M1 V mv/\(mv.9+4)*V<=2^c/\0 < N/\N<=2^ν/\(∀x∈st,Fr N (2^p) x)/\a1*(T+1)+ν+c*(T+1)+p<=15600000
theorem Uv (gm:GF M1 V mv) (wm:∀xs∈mv,xs.9=mv.9) (vc:(mv.9+4)*V<=2^c) (ls:st.9=mv.9) (hs:∀x∈st,Fr N (2^p) x):∀t,∀x∈eU mv t st,Fr (M1^t*N) (2^(c*t+p)) x:=by
 intro t
 induction t with
 | zero =>
  intro x hx;rw[Nat.pow_zero,xF,LD,LB];show hs x hx
 | succ t ih =>
  intro x hx;obtain row|hr|rfl:=ao.mp (show x∈mv.11 λxs=>bT xs (eU mv t st) from hx);have f:=Fr.dot (gm row hr) ih;rw[<- cb,cB M1,<- iO] at f;refine f.22 ?_;rw[wm row hr,<- cb,show c*(t+1)+p=c+(c*t+p) by rw[gU];lia,aV 2 c];show au _ (ai (au V (show mv.9<=mv.9+4 by lia)) vc)
theorem Xu.A! (h:Xu mv st T) (wm:∀xs∈mv,xs.9=mv.9) (ls:st.9=mv.9) (ht:t<=T):(∀xs∈mv,oZ xs (eU mv t st))/\∀x∈eU mv t st,oY x:=by
 obtain M1|V|a1|c|N|p|ν|m0|m1|gm|vc|N0|hN|hs|sz:=h;have f:=Uv gm wm vc ls hs t;have V1:V<=2^c:=ai (eS _ ()) vc;have e1:a1*t<=a1*T:=aP _ ht;have e2:c*t<=c*T:=aP _ ht;rw[gU,gU,PL,PL] at sz;show #[λxs hx=>#[a1,c,a1*t+ν,c*t+p,#[M1,V,m0,m1,V1,gm xs hx],#[M1^t*N,2^(c*t+p),bx (jS m0) N0,qq m1 hN,aj _,f],()],λx hx=>so (bx (jS m0) N0) (qq m1 hN) (aj _) () (f x hx)]
def Tv (mv pt:Y3) (T:Nat):Prop:=∃M1 M2 V a1 a2 c,Bd mv pt M1 M2 V a1 a2 c/\a1*(T+1)+a2+c*(T+2)<=15600000
theorem Tv.row (h:Tv mv pt T) (wm:∀xs∈mv,xs.9=mv.9) (wp:∀xs∈pt,xs.9=mv.9):∀xs∈pt,Xu mv xs T:=λxs hx=>by
 obtain M1|M2|V|a1|a2|c|B|sz:=h;refine #[M1,V,a1,c,M2,c,a2,B.m1,B.b1,B.gm,B.vc,B.m2,B.b2,λx Y6=>(B.gp xs hx x Y6).22 B.v1,?_];rw[gU c T 2] at sz;rw[gU c T 1]
 lia
end
inductive CN (K:Y2) (vs:List V) (H:Hp) (Q:VK) (E9:XK):Prop
 | mk (r:Addr) (T:Nat) (H0:Hp) (mv pt lk:Y3):vs=[.ref r,.int T]->T<=20->eV K H0 H r mv pt lk->cS mv pt lk->Tv mv pt T->(∀q H',H q=none->aL H H'->bw K H H' q (Y4 mv pt T)->Q (.ref q) H')->CN K vs H Q E9
theorem MI (hc:X.calm=true):qJ X (.builtin "max") (λxs H Q=>∃(p:Addr) (ns:List Int),xs=[.ref p]/\bY X.K H p (ns.11 V.int)/\0 < ns.9/\∀M,M∈ns->(∀a,a∈ns->a<=M)->Q (.int M) H):=by
 intro YZ s σ H xs us Q I r h;obtain p|ns|rfl|hp|Z3|q:=h;obtain u|rfl|ru:=vals1 r;cases ru;obtain Y5|r2|pl|_:=I.31 hp;have hi:=intsAre_of r2;have hl:=pl.20;obtain xs|e:=hi.allInts.items
 have M!:ns=xs.toList.11 (·.1):=by
  rw[<- hi.numsOf,<- nums_intItems,<- e]
 have hsz:0 < xs.7:=by
  have h3:=Z3;rw[M!,af,XX] at h3;show h3
 rw[e] at hl;refine max_intList (I.ok.hd hc) hl hsz λv h' tk hv hk=>?_
 obtain t|rfl:=intItems_at hv;obtain h1|h2:=argBest_gt (numAt xs) (xs.7 - 1);refine #[.int _,H,I.59 hk,#[_,rfl],q _ ?_ λa ha=>?_]
 ·rw[M!,numAt_eq];show getD_in (by rw[af,XX];lia)
 ·rw[M!] at ha;obtain j|hj|rfl:=mem_getD ha;rw[af,XX] at hj;rw[<- numAt_eq];show h2 j ()
theorem CT {α β:Type} {f:α->β}:∀{l1:List α} {l2:List β},Xw (λa b=>b=f a) l1 l2->l2=l1.11 f
 | _,_,.nil=>rfl
 | _,_,.cons h r=>by rw[h,CT r];rfl
def Xn (mv pt:Y3) (T:Nat):Prop:=T<=12/\(T<=3\/((∀xs∈mv++pt,∀x∈xs,x.52<=9/\x.num.15 < 1000)/\(5 < mv.9->T<=mv.9)/\(3<=mv.9->mv.9<=5->T<=mv.9+1)))
def Vm (x:Rat):Int:=(x.52:Int)+(x.num.15:Int) / 1000*9
theorem Sd (h:Vm x<=9):x.52<=9/\x.num.15 < 1000:=by
 unfold Vm at h;have:=x.den_pos
 lia
inductive CC (K:Y2) (vs:List V) (H:Hp) (Q:VK) (E9:XK):Prop
 | mk (b r:Addr) (H0:Hp) (mv pt lk:Y3):vs=[.ref b,.ref r]->jE H b->H0 b≠none->eV K H0 H r mv pt lk->cS mv pt lk->(∀xs∈mv++pt,∀x∈xs,oY x)->(∀(T:Nat) H',Xn mv pt T->jE H' b->di b H H'->Q (.int T) H')->CC K vs H Q E9
inductive FR (K:Y2) (vs:List V) (H:Hp) (Q:VK) (E9:XK):Prop
 | mk (b r:Addr) (T w:Nat) (H0:Hp) (mv pt lk:Y3):vs=[.ref b,.ref r,.int T,.int w]->T<=100->1<=w->w<=1000->jE H b->H0 b≠none->eV K H0 H r mv pt lk->cS mv pt lk->(∀p pus H',H p=none->bw K H H' p pus->pus.9=T->(∀xs∈pus,xs.9=pt.9/\∀x∈xs,Dr (max w 6) x)->jE H' b->di b H H'->Q (.ref p) H')->FR K vs H Q E9
theorem OC (ws vs:List V) (M1 M2 M3:Nat):∃μ:V->Nat,(∀x∈ws,μ x=M2)/\(∀x∈vs,x∉ws->μ x=M3)/\(∀x,x∉ws->x∉vs->μ x=M1)/\∀x,μ x=M1\/μ x=M2\/μ x=M3:=by
 classical
 refine #[λx=>if x∈ws then M2 else if x∈vs then M3 else M1,λx h=>if_pos h,λx h h'=>?_,λx h h'=>?_,λx=>?_]
 ·change (if x∈ws then M2 else if x∈vs then M3 else M1)=M3
  rw[if_neg h',if_pos h]
 ·change (if x∈ws then M2 else if x∈vs then M3 else M1)=M1
  rw[if_neg h,if_neg h']
 ·change (if x∈ws then M2 else if x∈vs then M3 else M1)=M1\/(if x∈ws then M2 else if x∈vs then M3 else M1)=M2\/(if x∈ws then M2 else if x∈vs then M3 else M1)=M3
  by_cases h:x∈ws
  ·rw[if_pos h];show .inr (.inl rfl)
  ·rw[if_neg h];by_cases h':x∈vs
   ·rw[if_pos h'];show .inr (.inr rfl)
   ·rw[if_neg h'];show .inl rfl
theorem lD.apart {K:Y2} (h:lD K A H n C m p l b q0 us ws vs):(∀x∈us,x∉ws/\x∉vs)/\∀x∈vs,x∉ws:=by
 obtain n1|n2|n3:=dX.mp h.nd;obtain n4|n5|n6:=dX.mp n1;show #[λx hx=>#[λz=>n3 x (aA.mpr (.inl hx)) x z rfl,λz=>n6 x hx x z rfl],λx hx z=>n3 x (aA.mpr (.inr hx)) x z rfl]
theorem lD.fr3 {K:Y2} (h:lD K A H n (λ_=>Dr (2^c)) m p l b q0 us ws vs):∃M1 M2 M3,0 < M1/\0 < M2/\0 < M3/\M1<=2^(c*(n*n))/\M2<=2^(c*(ws.9*n))/\M3<=2^(c*(vs.9*n))/\(∀x∈us,gG K A H n (Fr M1 (2^c)) x)/\(∀x∈ws,gG K A H n (Fr M2 (2^c)) x)/\∀x∈vs,gG K A H n (Fr M3 (2^c)) x:=by
 have one:∀l:List V,(∀x∈l,x∈us++vs++ws)->∃M,0 < M/\M<=2^(c*(l.9*n))/\∀x∈l,gG K A H n (Fr M (2^c)) x:=λl hl=>by
  obtain ra|pa|la|ha:=Aw λx hx=>h.row x (hl x hx)
  obtain M|m0|m1|m2:=Qv (c:=c) (n:=n) (rows:=ra) ha;show #[M,m0,by rw[la] at m1;show m1,Jc pa λqs hq=>#[(ha qs hq).1,m2 qs hq]]
 obtain M1|a1|a2|a3:=one us λx hx=>by simp [hx]
 obtain M2|b1|b2|b3:=one ws λx hx=>by simp [hx]
 obtain M3|c1|c2|c3:=one vs λx hx=>by simp [hx]
 rw[h.lm] at a2;show #[M1,M2,M3,a1,b1,c1,a2,b2,c2,a3,b3,c3]
inductive CI (K:Y2) (xs:List V) (H:Hp) (Q:VK) (E9:XK):Prop
 | mk (b m p l q0:Addr) (n V1:Nat) (μ:V->Nat) (A:Addr->Prop) (us ws vs:List V):xs=[.ref b,.ref m,.ref p,.ref l]->Iw A m p l b q0->lD K A H n (λx=>Fr (μ x) V1) m p l b q0 us ws vs->n<=8->ws.9<=4->vs.9<=4->(∀x,0 < μ x)->(∀x,μ x<=2^800)->(∃M,∀x,x∉ws->x∉vs->μ x=M)->V1<=2^20->(∀q,H q=none->A q)->(∀r Z6 H',H' r=some (.tup [.ref m,.ref p,.ref l])->lD K A H' n (λx=>Fr (μ x) (9^3*V1)) m p l b q0 Z6 ws vs->jD A b m H H'->Q (.ref r) H')->CI K xs H Q E9
def Xr (n i o w c:Nat) (mv pt lk:Y3):Prop:=∃M1 M2 M3 V1:Nat,0 < M1/\0 < M2/\0 < M3/\GF M1 V1 mv/\GF M2 V1 pt/\GF M3 V1 lk/\((w<=9/\M1=2520/\M2=2520/\M3=2520/\V1=9^3*9)\/(9 < w/\M1<=2^(c*(n*n))/\M2<=2^(c*(i*n))/\M3<=2^(c*(o*n))/\V1=9^3*2^c))
inductive CF (K:Y2) (vs:List V) (H:Hp) (Q:VK) (E9:XK):Prop
 | mk (b:Addr) (n i o w c:Nat):vs=[.ref b,.int n,.int i,.int o,.int w]->jE H b->n<=8->i<=4->o<=4->1<=w->w<=1000000->max w 6<=2^c->c<=20->c*((n+i+o)*n)<=800->(∀r mv pt lk H',eV K H H' r mv pt lk->mv.9=n->pt.9=i->lk.9=o->cS mv pt lk->Xr n i o w c mv pt lk->jE H' b->di b H H'->Q (.ref r) H')->CF K vs H Q E9
def Rg (mv pt:Y3) (w:Nat):Prop:=(w<=9/\Bd mv pt 1 1 (9^3) 0 0 14)\/(w<=9/\mv.9<=5/\Bd mv pt 2520 2520 (9^3*9) 12 12 16)\/(w=1000/\mv.9<=2/\∃M1 M2,Bd mv pt M1 M2 (9^3*2^20) 80 160 33)
theorem Jy {M V:Nat} (h:GF M V l) (k:Nat):GF (k*M) V l:=λxs hx x Y6=>(h xs hx x Y6)._l k
theorem Xr.n {n i o w c:Nat} (h:Xr n i o w c mv pt lk):PtF n i o w c mv pt lk:=by
 obtain M1|M2|M3|V1|a1|a2|a3|f1|f2|f3|hc:=h;rcases hc with ⟨w9,rfl,rfl,rfl,e⟩ | ⟨w9,e1,e2,e3,e⟩
 ·show #[2520,V1,(),f1,f2,f3,.inl #[w9,rfl,e]]
 ·refine #[M1*M2*M3,V1,bx (bx a1 a2) a3,?_,?_,?_,.inr #[w9,?_,e]]
  ·have:=Jy f1 (M2*M3);rwa [show M2*M3*M1=M1*M2*M3 by rw[cB (M2*M3),cb]] at this
  ·have:=Jy f2 (M1*M3);rwa [show M1*M3*M2=M1*M2*M3 by rw[cb,cB M3,cb]] at this
  ·show Jy f3 (M1*M2)
  ·refine ai (aE (aE e1 e2) e3) ?_;rw[<- aV,<- aV,show c*((n+i+o)*n)=c*(n*n)+c*(i*n)+c*(o*n) by rw[Dn,Dn,gU,gU]];show aj _
section
variable {mv pt lk pus:Y3} {st pu go pr:List Rat} {M1 M2 V a1 a2 c B b g p t T w:Nat}
theorem Bd.Y4 (X:Bd mv pt M1 M2 V a1 a2 c) (D:cS mv pt lk):∀t,∀xs∈Y4 mv pt t,∀x∈xs,Fr (M1^(t - 1)*M2) (2^(c*t)) x:=by
 intro t
 induction t with
 | zero=>intro xs hx;show nomatch hx
 | succ t ih =>
  intro xs hx x Y6;rcases aA.mp (show xs∈pt++(L2.Y4 mv pt t).11 (gF mv) from hx) with hx | hx
  ·refine Fr.up (X.gp xs hx x Y6) (dC _ _) (ai X.v1 (ak () ?_));show dH _ ()
  ·obtain ys|hy|rfl:=ao.mp hx;obtain row|hr|rfl:=ao.mp (show x∈mv.11 λzs=>bT zs ys from Y6);rcases t with _ | t
   ·show nomatch hy
   have f:=Fr.dot (X.gm row hr) (ih ys hy);rw[show M1*(M1^(t+1 - 1)*M2)=M1^(t+1+1 - 1)*M2 by rw[<- cb,show t+1 - 1=t by lia,show t+1+1 - 1=t+1 by lia,iO,cB M1]] at f;refine f.22 ?_;rw[D.mw row hr,<- cb,show c*(t+1+1)=c+c*(t+1) by rw[gU c (t+1)];lia,aV 2 c];show au _ (ai (au V (show mv.9<=mv.9+4 by lia)) X.vc)
end
open PySem.MeetsSeq
section
variable {rows rows0 fs l2 R Hd:Y3} {hd:List Rat} {n P:Nat} {ps psd:List Nat}
def WR (rows:Y3) (n S:Nat):Prop:=2*S<=15960000/\∃J:Nat->Y3->List Nat->Prop,J 0 rows []/\(∀P rs ps,J P rs ps->(∀i,ps.9<=i->i < rs.9->aZ rs i P=0)->J (P+1) rs ps) /\
 (∀P fs ls ps t,J P (fs++ls) ps->fs.9=ps.9->t < ls.9->P < n->(ls.3 t []).3 P 0≠0->(∀j,j < t->aZ ls j P=0)->J (P+1) ((fs.11 (zx P (pF P (ls.3 t [])) )++[pF P (ls.3 t [])])++(ls.23 t).11 (zx P (pF P (ls.3 t [])))) (ps++[P])) /\
 (∀P rs ps,J P rs ps->z8 rows n P rs ps)/\∀P rs ps,J P rs ps->P<=n->∀i,i < rows.9->∃D:Nat,0 < D/\D<=2^S/\∀c,Tp D (2^S) (aZ rs i c)
theorem PR.lwt (h:PR rows n S):WR rows n S:=by
 obtain a|J|j0|j1|j2|j3|j4:=h;show #[a,J,j0,j1,λP fs ls ps t h1 h2 h3 h4 h5 _=>j2 P fs ls ps t h1 h2 h3 h4 h5,j3,j4]
theorem Tp.neg (h:Tp M W x):Tp M W (-x):=by
 obtain z|e|b:=h;show #[-z,by rw[Rat.neg_mul,e];show (dt z).19,by rw[lI];show b]
end
theorem yC (RR:aG rows n R ps) (far:∀c,n<=c->x c=0) (hx:∀j,j < ps.9->(aR n λc=>aZ R j c*x c)=0):d4 (aO R ps n).9 (aZ (aO R ps n)) x:=by
 have Rf:=RR.2.2;have lN:(aO R ps n).9=(cW ps n).9:=by unfold aO;rw[af]
 have fN:∀t,t < (aO R ps n).9->(cW ps n).3 t 0 < n/\(cW ps n).3 t 0∉ps:=λt ht=>pG.mp (getD_in ())
 have vN:∀t,t < (aO R ps n).9->∀c,aZ (aO R ps n) t c=(nM R ps n ((cW ps n).3 t 0)).3 c 0:=λt ht c=>by
  have h:t < (cW ps n).9:=()
  unfold aZ aO;rw[aa (l:=XT _ _),az,ae h,aa (l:=cW ps n),ae h];rfl
 have nd:(cW ps n).33:=by
  unfold cW;show IG FC Nd
 refine #[λt=>x ((cW ps n).3 t 0),λc=>?_]
 suffices y0:∀c,x c - (aR (aO R ps n).9 λt=>x ((cW ps n).3 t 0)*aZ (aO R ps n) t c)=0 by
  have:=y0 c;grind
 have free:∀c,c < n->c∉ps->x c - (aR (aO R ps n).9 λt=>x ((cW ps n).3 t 0)*aZ (aO R ps n) t c)=0:=λc hc hp=>by
  obtain t0|h0|e0:=aH (pG.mpr #[hc,hp]);have g0:(cW ps n).3 t0 0=c:=by rw[aa,ae h0];show e0
  rw[cF (i:=t0) () λt ht ne=>?_,vN t0 (),jt hc hp,g0,if_pos rfl]
  ·grind
  ·rw[vN t ht,jt hc hp,if_neg λz=>ne ?_]
   ·grind
   ·have Z!:t < (cW ps n).9:=()
    have z:(cW ps n)[t]=(cW ps n)[t0]:=by
     rw[aa,ae Z!] at z;rw[e0];show z.19
    have pw:=Vi.mp nd;rcases eQ t t0 with y | y | y
    ·show absurd z (pw t t0 Z! h0 y)
    ·show y
    ·show absurd z.19 (pw t0 t h0 Z! y)
 have dN:∀j,j < ps.9->∀t,t < (aO R ps n).9->(aR n λc=>aZ R j c*aZ (aO R ps n) t c)=0:=λj hj t ht=>by
  have ZA:j < R.9:=by rw[RR.1];show hj
  have wr:=RR.2.1 _ (aB ZA);have dz:=vR (rF RR) (fN t ht).1 (fN t ht).2 (ae ZA) wr;rw[bZ (by rw[wr];show jG.symm),wr] at dz;refine X3 (ar λc _=>?_) dz;rw[vN t ht];unfold aZ;rw[aa (l:=R),ae ZA];rfl
 have dY:∀j,j < ps.9->(aR n λc=>aZ R j c*(x c - (aR (aO R ps n).9 λt=>x ((cW ps n).3 t 0)*aZ (aO R ps n) t c)))=0:=λj hj=>by
  have e:∀c,c < n->aZ R j c*(x c - (aR (aO R ps n).9 λt=>x ((cW ps n).3 t 0)*aZ (aO R ps n) t c))=aZ R j c*x c+(-1)*(aR (aO R ps n).9 λt=>x ((cW ps n).3 t 0)*(aZ R j c*aZ (aO R ps n) t c)):=λc _=>by
   have:(aR (aO R ps n).9 λt=>x ((cW ps n).3 t 0)*(aZ R j c*aZ (aO R ps n) t c))=aZ R j c*aR (aO R ps n).9 λt=>x ((cW ps n).3 t 0)*aZ (aO R ps n) t c:=by
    rw[<- a8];show ar λt _=>by grind
   rw[this];grind
  rw[ar e,kz,hx j hj,a8,cD,bU (k:=(aO R ps n).9) λt ht=>?_]
  ·grind
  ·rw[a8,dN j hj t ht];grind
 intro c;by_cases hc:c < n
 ·by_cases hp:c∈ps
  ·obtain j|hj|ej:=aH hp;have g:ps.3 j 0=c:=by rw[aa,ae hj];show ej
   have:=dY j hj;rw[cF (i:=c) hc λc' _a ne=>?_] at this
   ·have u:=Rf.34 j hj j hj;rw[g,if_pos rfl] at u;rw[u] at this;grind
   ·by_cases L!:c'∈ps
    ·obtain i|hi|ei:=aH L!;have gi:ps.3 i 0=c':=by rw[aa,ae hi];show ei
     have u:=Rf.34 j hj i hi;rw[gi,if_neg (λz=>ne (by rw[<- gi,<- g,z]))] at u;rw[u];grind
    ·rw[free c' _a L!];grind
  ·show free c hc hp
 ·rw[far c (),bU λt _=>by rw[ji kL ()];grind];grind
theorem GS (F:iU mv pt a c) (D8:mv.9<=8) (wm:∀xs∈mv,xs.9=mv.9) (wp:∀xs∈pt,xs.9=mv.9) (h:mv.9<=T) (h':mv.9<=T') (RR:aG (Y4 mv pt T) mv.9 R ps) (ZS:aG (Y4 mv pt T') mv.9 R' Zd):R=R'/\ps=Zd:=by
 obtain R0|ps0|G:=vS F D8 wm wp (mv.9+1);obtain rfl|rfl:=RR.10 (G._X (df _) h);obtain rfl|rfl:=ZS.10 (G._X (df _) h');show #[rfl,rfl]
structure Sl (A lk:Y3) (e:Nat):Prop where
 n8:A.9<=8
 wm:∀xs∈A,xs.9=A.9
 wp:∀xs∈lk,xs.9=A.9
 kf:∃a c,iU A lk a c/\A.9*((A.9 - 1)*(a+c)+4)<=3600000/\∀p,p<=A.9->(A.9 - p)*(p*((A.9 - 1)*(a+c)+4)+4)<=e
 e1:e<=6600000
def Xe (A lk:Y3) (n t e:Nat) (Hd:Y3):Prop:=∃R ps psd M,aG (Y4 A lk t) n R ps/\aG (aO R ps n) n Hd psd/\psd.9+ps.9=n/\0 < M/\M<=2^e/\∀xs∈Hd,∀x∈xs,Tp M (2^e) x
theorem Sl.sw (h:Sl A lk e) (RR:aG (Y4 A lk T) A.9 R ps):(∃w,xH R A.9 w)/\(∀xs∈R,∀x∈xs,oY x)/\∃w,xH (aO R ps A.9) A.9 w/\min (aO R ps A.9).9 A.9*(w+4)<=e/\∃q,0 < q/\∀xs∈aO R ps A.9,∀x∈xs,Tp q (2^w) x:=by
 obtain a|c|KF|b1|b2:=h.kf;obtain q|q0|q1|q2:=KF.rtp h.n8 h.wm h.wp RR;have n8:=h.n8;have le:=RR.le;have lR:=RR.1;have cnt:=md RR;have e1:=h.e1;have bp:=b2 ps.9 le;generalize (A.9 - 1)*(a+c)+4=E at b1 b2 q1 q2 bp;have pE:ps.9*E<=3600000:=ai (au _ le) b1;have up:∀{m:Nat},3600000<=m->2^(ps.9*E)<=2^m:=λh=>ak () ()
 have tn:∀xs∈aO R ps A.9,∀x∈xs,Tp q (2^(ps.9*E)) x:=λxs hx x Y6=>by
  obtain a|_|_|rfl:=ma hx;show Ox q0 q1 q2 RR x Y6
 have bn:min (aO R ps A.9).9 A.9*(ps.9*E+4)<=e:=ai (au _ (show min (aO R ps A.9).9 A.9<=A.9 - ps.9 by lia)) bp;refine #[#[ps.9*E,q,2^(ps.9*E),q0,ai q1 (up ()),bO,aj _,q2,(),(),?_],λxs hx x Y6=>xQ (q2 xs hx x Y6) q0 (ai q1 (up ())) (up ()),ps.9*E,#[q,2^(ps.9*E),q0,ai q1 (up ()),bO,aj _,tn,(),(),()],bn,q,q0,tn];have:min R.9 A.9*(ps.9*E+4)<=8*3600004:=aE () ()
 lia
def StT (n w T:Nat):Prop:=T<=12/\(9 < w->T<=3)/\(3 < n->n<=5->T<=5)/\(n=3->T<=6)
structure V51 (A lk:Y3) (T e:Nat):Prop where
 un:Sl A lk e
 ad:Tv A lk T
 lw:∃S,WR (Y4 A lk T) A.9 S
 ft:∃k j,2*e+k+j<=15720000/\∀xs∈Y4 A lk T,mV k j xs
theorem HW (B:Bd A lk M1 M2 Vx a1 a2 c) (D:cS A lk pk) (hn:A.9<=n) (n15:n<=15) (sz:2*(n*(c*T+(a1*(T - 1)+a2)+4)+(a1*(T - 1)+a2))<=15960000):(∃S,WR (Y4 A lk T) A.9 S)/\∀xs∈Y4 A lk T,mV (a1*(T - 1)+a2) (c*T) xs:=by
 have f:=B.Y4 D T;have M0:0 < M1^(T - 1)*M2:=bx (jS B.m1) B.m2
 have hM:M1^(T - 1)*M2<=2^(a1*(T - 1)+a2):=by
  rw[aV];show aE (ai (jC B.b1 _) (by rw[<- sR];show aj _)) B.b2
 refine #[#[_,(PU.X! (w:=c*T+(a1*(T - 1)+a2)) (a:=a1*(T - 1)+a2) #[_,2^(c*T+(a1*(T - 1)+a2)),M0,hM,bO,aj _,λxs hx x Y6=>Tp.of (f xs hx x Y6) (by rw[aV];show aP _ hM),(),?_] (cJ rfl D.pw T)).lwt],λxs hx=>#[_,_,M0,hM,aj _,f xs hx]];have:min (Y4 A lk T).9 A.9*(c*T+(a1*(T - 1)+a2)+4)<=n*(c*T+(a1*(T - 1)+a2)+4):=au _ ()
 lia
theorem KQ (G:Rg A lk w) (D:cS A lk pk) (St:StT A.9 w T):∃e,V51 A lk T e:=by
 obtain s1|s2|s3|s4:=St;have tri:∀{n N:Nat} (E e:Nat),n<=N->(∀p,p<=N->(N - p)*(p*E+4)<=e)->∀p,p<=n->(n - p)*(p*E+4)<=e:=λE e hn h p hp=>ai (au _ ()) (h p ())
 rcases G with ⟨_,B⟩ | ⟨_,n5,B⟩ | ⟨w1,n2,M1,M2,B⟩
 ·obtain l1|l2:=HW (T:=T) (n:=8) B D D.n8 () ();refine #[6600000,#[D.n8,D.mw,D.pw,#[0,14,Es (M:=1) (V1:=9^3) (n0:=8) () () D.n8 () B.gm B.gp (),?_,λp hp=>?_],()],#[_,_,_,_,_,_,B,()],l1,#[_,_,(),l2]]
  ·show ai (aE D.n8 (show (A.9 - 1)*(0+14)+4<=102 by have:=D.n8;lia)) ()
  ·have:=tri 102 6600000 D.n8 () p hp;show ai (aP _ (Dp (aP _ (by have:=D.n8;lia)) _)) this
 ·obtain ⟨l1,l2⟩:(∃S,WR (Y4 A lk T) A.9 S)/\∀xs∈Y4 A lk T,mV (12*(T - 1)+12) (16*T) xs:=by
   rcases (show A.9<=2\/A.9=3\/3 < A.9 by lia) with h | h | h
   ·show HW (n:=2) B D h () ()
   ·have:=s4 h;show HW (n:=3) B D () () ()
   ·have:=s3 h n5;show HW (n:=5) B D n5 () ()
  refine #[720,#[D.n8,D.mw,D.pw,#[12,16,Es (M:=2520) (V1:=9^3*9) (n0:=5) () () n5 () B.gm B.gp (),?_,λp hp=>?_],()],#[_,_,_,_,_,_,B,()],l1,#[_,_,(),l2]]
  ·show ai (aE n5 (show (A.9 - 1)*(12+16)+4<=116 by lia)) ()
  ·have:=tri 116 720 n5 () p hp;show ai (aP _ (Dp (aP _ ()) _)) this
 ·have t3:=s2 ();obtain l1|l2:=HW (T:=T) (n:=2) B D n2 () ();have fm:GF (M1*M2) (9^3*2^20) A:=λxs hx x Y6=>(B.gm xs hx x Y6).scale M2
  have fp:GF (M1*M2) (9^3*2^20) lk:=λxs hx x Y6=>(B.gp xs hx x Y6)._l M1
  have hM:M1*M2<=2^240:=ai (aE B.b1 B.b2) (by rw[<- aV];show aj _);refine #[600,#[D.n8,D.mw,D.pw,#[240,32,Es (n0:=2) (bx B.m1 B.m2) hM n2 () fm fp (),?_,λp hp=>?_],()],#[_,_,_,_,_,_,B,()],l1,#[_,_,(),l2]]
  ·show ai (aE n2 (show (A.9 - 1)*(240+32)+4<=276 by lia)) ()
  ·have:=tri 276 600 n2 () p hp;show ai (aP _ (Dp (aP _ ()) _)) this
theorem oZ.symm (h:oZ xs ys):oZ ys xs:=by obtain k|j|k'|j'|a|b|c:=h;show #[k',j',k,j,b,a,()]
section
theorem wa {M V:Nat} {f:Nat->Rat}:∀k,(∀i,i < k->Fr M V (f i))->Fr M (k*V) (aR k f)
 | 0,_=>Fr.zero
 | k+1,h=>by
  rw[iN];show (wa k λi hi=>h i ()).add (h k ())
variable {d j n w M:Nat} {go ws:List Rat} {rows:Y3}
end
section
variable {α β γ:Type} [DecidableEq α] [DecidableEq β] [DecidableEq γ] (k1:Kind α) (k2:Kind β) (k3:Kind γ)
theorem vals3 (r:cZ [x,y,z] us):∃u v w,us=[u,v,w]/\RelV x u/\RelV y v/\RelV z w:=by
 cases r with
 | cons a r=>cases r with
  | cons b r=>cases r with
   | cons c r=>cases r;show #[_,_,_,rfl,a,b,c]
def e3 (a b:α×β×γ) (j:Nat):Bool:=if j=0 then decide (a.1=b.1) else if j=1 then decide (a.2.1=b.2.1) else decide (a.2.2=b.2.2)
theorem sY {X:Cx} {YZ:List (Addr×Obj)} {σ:St} {H:Hp} {s:Xv} {A:Yd} (I:Inv X YZ σ H s) (h1:A.35+k1.d < Ys) (h2:A.35+k2.d < Ys) (h3:A.35+k3.d < Ys) {x y z x' y' z':V} {us ws:List Value} {a b:α×β×γ}
  (rx:cZ [x,y,z] us) (ry:cZ [x',y',z'] ws) (a1:k1.R X.K H x a.1) (a2:k2.R X.K H y a.2.1) (a3:k3.R X.K H z a.2.2) (b1:k1.R X.K H x' b.1) (b2:k2.R X.K H y' b.2.1) (b3:k3.R X.K H z' b.2.2) :
  ∀j (h1:j < us.5.7) (h2:j < ws.5.7),XR A s us.5[j] ws.5[j] (e3 a b j):=λj l1 l2=>by
 obtain u1|u2|u3|rfl|r1|r2|r3:=vals3 rx;obtain w1|w2|w3|rfl|q1|q2|q3:=vals3 ry;have hj:j < 3:=by simpa using l1
 rcases (show j=0\/j=1\/j=2 by lia) with rfl | rfl | rfl
 ·show k1.eq (A:=A) I r1 q1 a1 b1 h1
 ·show k2.eq (A:=A) I r2 q2 a2 b2 h2
 ·show k3.eq (A:=A) I r3 q3 a3 b3 h3
theorem xO {a b:α×β×γ}:(W0 3).all (e3 a b)=decide (a=b):=by
 have e:W0 3=[0,1,2]:=rfl;rw[e];simp only[Vr,List.all_nil,Bool.and_true];change (decide (a.1=b.1) && (decide (a.2.1=b.2.1) && decide (a.2.2=b.2.2)))=_
 rw[<- Bool.decide_and,<- Bool.decide_and];show decide_eq_decide.mpr #[λ#[h1,h2,h3]=>Prod.ext h1 (Prod.ext h2 h3),λh=>by rw[h];show #[rfl,rfl,rfl]]
def OM:Kind (α×β×γ) where
 R:=λK H x a=>∃p u v w,x=.ref p/\nD K H p [u,v,w]/\k1.R K H u a.1/\k2.R K H v a.2.1/\k3.R K H w a.2.2
 d:=max k1.d (max k2.d k3.d)+1
 inj:=λ{X YZ σ H s x a b} I h1 h2=>by
  obtain p|u|v|w|rfl|hp|a1|a2|a3:=h1;obtain q|u'|v'|w'|e|hq|b1|b2|b3:=h2;cases e;have e:=I.Zi hp hq;cases e;show Prod.ext (k1.inj I a1 b1) (Prod.ext (k2.inj I a2 b2) (k3.inj I a3 b3))
 rc:=λ{X YZ σ H s x y v u a b A} I rx ry h1 h2 hA=>by
  obtain p|x1|x2|x3|rfl|hp|a1|a2|a3:=h1;obtain q|y1|y2|y3|rfl|hq|b1|b2|b3:=h2;cases rx;cases ry;obtain us|r1|t1|_:=I.44 hp;obtain ws|r2|t2|_:=I.44 hq;have l1:=r1.9;have l2:=r2.9;have z:=YS (A:=A) (e:=e3 a b) (show s.heap.48 p us.12 from t1) (show s.heap.48 q ws.12 from t2) () (sY k1 k2 k3 (A:=A.in1) I (by change A.35+1+k1.d < Ys;lia) (by change A.35+1+k2.d < Ys;lia) (by change A.35+1+k3.d < Ys;lia) r1 r2 a1 a2 a3 b1 b2 b3);have e1:us.5.7=3:=by rw[aQ,<- l1];rfl
  have e2:ws.5.7=3:=by rw[aQ,<- l2];rfl
  rw[e1,e2,Nat.min_self,xO] at z;simpa using z
 ne:=λ{X YZ σ H s x y v u a b A} I rx ry h1 h2 hA=>by
  obtain p|x1|x2|x3|rfl|hp|a1|a2|a3:=h1;obtain q|y1|y2|y3|rfl|hq|b1|b2|b3:=h2;cases rx;cases ry;obtain us|r1|t1|_:=I.44 hp;obtain ws|r2|t2|_:=I.44 hq;have l1:=r1.9;have l2:=r2.9;have z:=YG.tuples (A:=A) (e:=e3 a b) (show s.heap.48 p us.12 from t1) (show s.heap.48 q ws.12 from t2) () (sY k1 k2 k3 (A:=A.in1) I (by change A.35+1+k1.d < Ys;lia) (by change A.35+1+k2.d < Ys;lia) (by change A.35+1+k3.d < Ys;lia) r1 r2 a1 a2 a3 b1 b2 b3);have e1:us.5.7=3:=by rw[aQ,<- l1];rfl
  have e2:ws.5.7=3:=by rw[aQ,<- l2];rfl
  rw[e1,e2,Nat.min_self,xO] at z;simpa using z
 eq:=λ{X YZ σ H s x y v u a b A} I rx ry h1 h2 hA=>by
  obtain p|x1|x2|x3|rfl|hp|a1|a2|a3:=h1;obtain q|y1|y2|y3|rfl|hq|b1|b2|b3:=h2;cases rx;cases ry;by_cases e:p=q
  ·subst e;have e:=I.Zi hp hq;cases e;have e2:a=b:=Prod.ext (k1.inj I a1 b1) (Prod.ext (k2.inj I a2 b2) (k3.inj I a3 b3));rw[decide_eq_true e2];show XR.same _
  ·obtain us|r1|t1|_:=I.44 hp;obtain ws|r2|t2|_:=I.44 hq;have l1:=r1.9;have l2:=r2.9;have z:=YS (A:=A) (e:=e3 a b) (show s.heap.48 p us.12 from t1) (show s.heap.48 q ws.12 from t2) () (sY k1 k2 k3 (A:=A.in1) I (by change A.35+1+k1.d < Ys;lia) (by change A.35+1+k2.d < Ys;lia) (by change A.35+1+k3.d < Ys;lia) r1 r2 a1 a2 a3 b1 b2 b3);have e1:us.5.7=3:=by rw[aQ,<- l1];rfl
   have e2:ws.5.7=3:=by rw[aQ,<- l2];rfl
   rw[e1,e2,Nat.min_self,xO] at z;show .of_refs e (by simpa using z)
end
theorem Ow (RR:aG rows n R ps) (hw:∀xs∈rows,xs.9=n):∀z∈aO R ps n,∀xs∈rows,bT xs z=0:=λz hz xs hx=>by
 obtain a|h1|h2|rfl:=ma hz;obtain i|hi|rfl:=aH hx;show vR RR h1 h2 (ae hi) (hw _ (aB hi))
theorem gH:(ie n a).9=n:=by unfold ie;rw[af,bg]
section
variable {mv pt lk F R:Y3} {n m:Nat} {ps:List Nat} {x:Nat->Rat} {st pu:List Rat}
theorem Km {a:Nat->Nat->Rat} {f:Nat->Nat->Rat} {w:Nat->Rat}:∀k,(∀i,i < k->d4 m a (f i))->d4 m a λc=>aR k λi=>w i*f i c
 | 0,_=>d4.zero λ_=>rfl
 | k+1,h=>by
  have:=d4.lin 1 (w k) (Km (w:=w) k λi hi=>h i ()) (h k ());show this.congr λc=>by change _=aR k _+_;grind
theorem Lf (KF:iU mv pt a c) (D8:mv.9<=8) (wm:∀xs∈mv,xs.9=mv.9) (wp:∀xs∈pt,xs.9=mv.9) (RR:aG (Y4 mv pt mv.9) mv.9 R ps):(∀k,k < pt.9->d4 ps.9 (aZ R) (aZ pt k))/\∀x:Nat->Rat,d4 ps.9 (aZ R) x->d4 ps.9 (aZ R) λc=>aR mv.9 λj=>aZ mv c j*x j:=by
 obtain R0|ps0|G:=vS KF D8 wm wp (mv.9+1);have R1:=G._X (df _) (aj _);have R2:=G._X (df _) (lG mv.9);obtain rfl|rfl:=RR.10 R1;have B:=A1 rfl wm wp R1 R2;have sp:=B.2.2.span;refine #[λk hk=>?_,λx hx=>?_]
 ·have:=sp k (by rw[ax];lia);rwa [vX hk] at this
 ·obtain w|hw:=hx
  have key:=Km (w:=w) (f:=λs=>aZ (R.11 (gF mv)) s) ps.9 λs hs=>by
   have:=sp (pt.9+s) (by rw[ax,af,RR.1];lia);rwa [qI] at this
  refine key.congr λc=>?_
  have e:(aR mv.9 λj=>aZ mv c j*x j)=aR mv.9 λj=>aR ps.9 λs=>w s*(aZ mv c j*aZ R s j):=ar λj _=>by
   rw[hw j,<- a8];show ar λs _=>by grind
  rw[e,cD];refine ar λs hs=>?_
  rw[a8,GB rfl wm RR.2.1 (by rw[RR.1];show hs)]
end
theorem A6 {M V i j:Nat} (h:GF M V rows):Fr M V (aZ rows i j):=by
 unfold aZ;rw[aa (l:=rows)];cases ei:rows[i]? with
 | none=>change Fr M V (([]:List Rat).3 j 0);show Fr.zero
 | some xs =>
  change Fr M V (xs.3 j 0)
  rw[aa];cases ej:xs[j]? with
  | none=>show Fr.zero
  | some y=>show h xs (av ei) y (av ej)
inductive Ak (K:Y2) (vs:List V) (H:Hp) (Q:VK) (E9:XK):Prop
 | mk (p q:Addr) (w:Nat) (H0 H1:Hp) (one other:Y3):vs=[.ref p,.ref q,.int w]->bw K H0 H p one->bw K H1 H q other->one.9<=1000->other.9<=1000->w<=1000->((∀xs∈one,xs.9=other.9/\∀ys∈aK other w,oZ ys xs))->(∀xs∈other,xs.9=w)->(∀r H',H r=none->aL H H'->bw K H H' r (iY one other w)->Q (.ref r) H')->Ak K vs H Q E9
open PySem.W
def og (inv mv rows:Y3) (n:Nat):Y3:=iY (iY inv mv n) (aK rows n) n
def oO (inv pt:Y3):Y3:=pt.11 λxs=>inv.11 λr=>bT r xs
def KN (w:List Rat) (rows:Y3) (n:Nat):List Rat:=(W0 n).11 λi=>aR n λk=>w.3 k 0*aZ rows k i
theorem qC {rows:Y3} (h:rows[i]?=some xs):aZ (rows.11 f) i j=(f xs).3 j 0:=by
 unfold aZ;rw[aa (l:=rows.11 f),az,h];rfl
theorem dO (h:rows[i]?=some xs):aZ rows i j=xs.3 j 0:=by
 unfold aZ;rw[aa (l:=rows),h];rfl
theorem zV {rows:Y3} {f:List Rat->Rat} (h:rows[i]?=some xs):(rows.11 f).3 i 0=f xs:=by
 rw[aa,az,h];rfl
theorem D3 {f:Nat->Rat} (h:i < n):((W0 n).11 f).3 i 0=f i:=by
 rw[aa,az,bW h];rfl
theorem iX (h:i < w):aZ (aK rows w) i j=aZ rows j i:=by
 unfold aK;rw[dO (xs:=rows.11 λxs=>xs.3 i 0) (by rw[az,bW h];rfl)];unfold aZ;rw[aa,aa (l:=rows),az];cases rows[j]? <;> rfl
theorem Pj (hw:∀r∈rows,r.9=n) (hx:xs.9=n) (hi:i < rows.9):(rows.11 λr=>bT r xs).3 i 0=aR n λa=>aZ rows i a*xs.3 a 0:=by
 have e:=ae hi;have l:=hw _ (aB hi);rw[zV e,bZ (),l];show ar λa _=>by rw[dO e]
theorem Nq (hi:i < one.9) (ho:∀xs∈one,xs.9=other.9) (hj:j < w):aZ (iY one other w) i j=aR other.9 λl=>aZ one i l*aZ other l j:=by
 have e:=ae hi;have l:=ho _ (aB hi);unfold iY;rw[qC e];unfold aK;rw[b7,D3 hj];change bT (other.11 λxs=>xs.3 j 0) _=_
 rw[bZ (by rw[af];lia),af];refine ar λa ha=>?_
 rw[dO e,bC];congr 1;rw[zV (ae ha),dO (ae ha)]
theorem uu {xs ys:List Rat} (h1:xs.9=n) (h2:ys.9=n) (h:∀i,i < n->xs.3 i 0=ys.3 i 0):xs=ys:=by
 refine cU () λi a b=>?_
 have:=h i ();rw[aa,aa,ae a,ae b] at this;show this
theorem DD:(KN w rows n).9=n:=by simp [KN]
theorem F5 (h:i < n):(KN w rows n).3 i 0=aR n λk=>w.3 k 0*aZ rows k i:=D3 h
theorem fJ (hi:sG inv n):(og inv mv rows n).9=n:=by unfold og iY;rw[af,af,hi.1]
theorem OV:∀xs∈og inv mv rows n,xs.9=n:=λxs hx=>by
 unfold og iY at hx;obtain ys|_|rfl:=ao.mp hx;rw[af,aU]
theorem Sx:∀xs∈iY one other n,xs.9=n:=λxs hx=>by
 unfold iY at hx;obtain ys|_|rfl:=ao.mp hx;rw[af,aU]
theorem A3 (hi:sG inv n) (hm:sG mv n) (h1:i < n) (h2:k < n):aZ (og inv mv rows n) i k=aR n λc=>(aR n λa=>aZ inv i a*aZ mv a c)*aZ rows k c:=by
 unfold og;rw[Nq (by unfold iY;rw[af,hi.1];show h1) (λxs hx=>by rw[aU];show Sx xs hx) h2,aU];refine ar λc hc=>?_
 rw[iX hc,Nq (by rw[hi.1];show h1) (λxs hx=>by rw[hi.2 xs hx,hm.1]) hc,hm.1]
theorem Oo (h:xE (aK rows n) inv n) (ha:a < n) (hd:d < n):(aR n λi=>aZ rows i a*aZ inv i d)=if a=d then 1 else 0:=by
 rw[<- h a ha d hd];show ar λi _=>by rw[iX ha]
theorem TX (h:xE (aK rows n) inv n) (hw:∀i,i < n->w.3 i 0=aR n λd=>aZ inv i d*f d):KN w rows n=(W0 n).11 f:=by
 refine uu DD (by simp) λa ha=>?_
 rw[F5 ha,D3 ha]
 have e:(aR n λk=>w.3 k 0*aZ rows k a)=aR n λd=>(aR n λk=>aZ rows k a*aZ inv k d)*f d:=by
  rw[ar (g:=λk=>aR n λd=>aZ rows k a*aZ inv k d*f d) λk hk=>by
   rw[hw k hk,bC,<- a8];show ar λd _=>by grind]
  rw[cD];refine ar λd _=>?_
  rw[bC,<- a8];show ar λk _=>by grind
 rw[e,ar (g:=λd=>(if a=d then 1 else 0)*f d) λd hd=>by rw[Oo h ha hd],Pl ha]
theorem TV (h:xE inv (aK rows n) n) (hi:i < n) (ho:own.9=n):(aR n λa=>aZ inv i a*(KN own rows n).3 a 0)=own.3 i 0:=by
 have e:(aR n λa=>aZ inv i a*(KN own rows n).3 a 0)=aR n λk=>(aR n λa=>aZ inv i a*aZ (aK rows n) a k)*own.3 k 0:=by
  rw[ar (g:=λa=>aR n λk=>aZ inv i a*aZ (aK rows n) a k*own.3 k 0) λa ha=>by
   rw[F5 ha,<- a8];show ar λk _=>by rw[iX ha];grind]
  rw[cD];refine ar λk _=>?_
  rw[bC,<- a8];show ar λa _=>by grind
 rw[e,ar (g:=λk=>(if i=k then 1 else 0)*own.3 k 0) λk hk=>by rw[h i hi k hk],Pl hi]
theorem Jx (hi:sG inv n) (hp:∀xs∈pt,xs.9=n) (h1:p < pt.9) (h2:i < n):aZ (oO inv pt) p i=aR n λd=>aZ inv i d*aZ pt p d:=by
 have e:=ae h1;unfold oO;rw[qC e,Pj hi.2 (hp _ (aB h1)) (by rw[hi.1];show h2)];show ar λd _=>by rw[dO e]
theorem OU (h:xE (aK rows n) inv n) (hi:sG inv n) (hr:sG rows n) (D:cS mv pt lk) (ln:mv.9=n) (D':cS (og inv mv rows n) (oO inv pt) lk') (lo:own.9=n) (lu:pu.9=pt.9) :
  KN (jb (og inv mv rows n) (oO inv pt) own pu) rows n=jb mv pt (KN own rows n) pu:=by
 have hm:sG mv n:=#[ln,λxs hx=>by rw[D.mw xs hx,ln]];have lp:(oO inv pt).9=pt.9:=by unfold oO;rw[af]
 have lM:=fJ (mv:=mv) (rows:=rows) hi;rw[TX h (f:=λd=>(aR n λc=>aZ mv d c*(KN own rows n).3 c 0)+aR pt.9 λp=>pu.3 p 0*aZ pt p d) λi _M=>?_]
 ·refine uu (n:=n) (by simp) (by unfold jb;rw[cQ,aU];lia) λa ha=>?_
  rw[D3 ha,uj D (by rw[DD];lia) lu (),ln]
 ·rw[uj D' (by rw[lM];show lo) (by rw[lp];show lu) (by rw[lM];show _M),lM,lp]
  have e1:(aR n λj=>aZ (og inv mv rows n) i j*own.3 j 0)=aR n λd=>aZ inv i d*aR n λc=>aZ mv d c*(KN own rows n).3 c 0:=by
   have a1:(aR n λj=>aZ (og inv mv rows n) i j*own.3 j 0)=aR n λc=>(aR n λa=>aZ inv i a*aZ mv a c)*(KN own rows n).3 c 0:=by
    rw[ar (g:=λj=>aR n λc=>(aR n λa=>aZ inv i a*aZ mv a c)*(own.3 j 0*aZ rows j c)) λj hj=>by
     rw[A3 hi hm _M hj,bC,<- a8];show ar λc _=>by grind]
    rw[cD];show ar λc hc=>by rw[F5 hc,<- a8]
   rw[a1,ar (g:=λc=>aR n λa=>aZ inv i a*(aZ mv a c*(KN own rows n).3 c 0)) λc _=>by
    rw[bC,<- a8];show ar λa _=>by grind]
   rw[cD];show ar λa _=>a8
  have e2:(aR pt.9 λp=>pu.3 p 0*aZ (oO inv pt) p i)=aR n λd=>aZ inv i d*aR pt.9 λp=>pu.3 p 0*aZ pt p d:=by
   rw[ar (g:=λp=>aR n λd=>aZ inv i d*(pu.3 p 0*aZ pt p d)) λp hp=>by
    rw[Jx hi (λxs hx=>by rw[D.pw xs hx,ln]) hp _M,<- a8];show ar λd _=>by grind]
   rw[cD];show ar λa _=>a8
  rw[e1,e2,<- kz];show ar λd _=>by grind
theorem Ry (hr:sG rows n) (ly:ys.9=n) (lo:own.9=n):bT (rows.11 λr=>bT r ys) own=bT ys (KN own rows n):=by
 rw[bZ (by rw[af,hr.1];lia),af,hr.1,bZ (by rw[DD];show ly),ly]
 rw[ar (g:=λk=>aR n λa=>ys.3 a 0*(own.3 k 0*aZ rows k a)) λk hk=>by
  rw[Pj hr.2 ly (by rw[hr.1];show hk),bC,<- a8];show ar λa _=>by grind]
 rw[cD];show ar λa ha=>by rw[F5 ha,<- a8]
theorem p9 (hr:sG rows n):sG (aK rows n) n:=#[aU,λxs hx=>by rw[eJ xs hx,hr.1]]
theorem mM {M V w:Nat} (h:GF M V rows):GF M V (aK rows w):=λys hy y _F=>by
 obtain j|_|rfl:=ao.mp hy;obtain xs|hx|rfl:=ao.mp _F;rw[aa];cases e:xs[j]? with
 | none=>show Fr.zero
 | some z=>show h xs hx z (av e)
theorem gJ {M V k j:Nat} (h:GF M V rows) (M0:0 < M) (hM:M<=2^k) (hV:V<=2^j):∀xs∈rows,mV k j xs:=λxs hx=>#[M,V,M0,hM,hV,h xs hx]
theorem oP {M V k j:Nat} (h:GF M V rows) (M0:0 < M) (hM:M<=2^k) (hV:V<=2^j) (hk:k+j<=15960000):∀xs∈rows,∀x∈xs,oY x:=λxs hx x Y6=>so M0 hM hV hk (h xs hx x Y6)
theorem xo {M N V W w:Nat} (h1:GF N W one) (h2:GF M V other):GF (M*N) (other.9*(V*W)) (iY one other w):=λxs hx x Y6=>by
 unfold iY at hx;obtain os|ho|rfl:=ao.mp hx;obtain ys|hy|rfl:=ao.mp Y6;have l:=eJ ys hy;rw[<- l];show Fr.dot (mM h2 ys hy) (h1 os ho)
theorem C2 {M N V W n:Nat} (h1:GF N W one) (h2:GF M V other) (hw:∀xs∈one,xs.9=n):GF (N*M) (n*(W*V)) (other.11 λxs=>one.11 λr=>bT r xs):=λzs hz z _o=>by
 obtain xs|hx|rfl:=ao.mp hz;obtain r|hr|rfl:=ao.mp _o;have:=Fr.dot (h1 r hr) (h2 xs hx);rwa [hw r hr] at this
theorem jA {M V W:Nat} (h:GF M V rows) (hv:V<=W):GF M W rows:=λxs hx x Y6=>(h xs hx x Y6).22 hv
section
variable {mv pt lk rows inv:Y3} {M1 M2 V a1 a2 c Mr D n:Nat}
theorem sT (h1:x<=2^i) (h2:y<=2^j) (h:i+j<=k):x*y<=2^k:=ai (aE h1 h2) (by rw[<- aV];show ak () h)
structure PV (mv pt lk rows inv:Y3):Prop where
 f1:∀xs∈inv,∀ys∈aK mv mv.9,oZ ys xs
 f2:∀xs∈iY inv mv mv.9,∀ys∈aK (aK rows mv.9) mv.9,oZ ys xs
 f3:∀ys∈pt,∀xs∈inv,oZ xs ys
 f4:∀ys∈lk,∀xs∈rows,oZ xs ys
 g1:uN (og inv mv rows mv.9)
 g2:uN (oO inv pt)
 g3:uN (lk.11 λxs=>rows.11 λr=>bT r xs)
end
theorem oa (D:cS mv pt lk) (hi:sG inv mv.9) (hr:sG rows mv.9):cS (og inv mv rows mv.9) (oO inv pt) (lk.11 λxs=>rows.11 λr=>bT r xs):=by
 have lM:=fJ (mv:=mv) (rows:=rows) hi;refine #[by rw[lM];show D.n8,by unfold oO;rw[af];show D.i4,by rw[af];show D.o4,λxs hx=>by rw[lM];show OV xs hx,λxs hx=>?_,λxs hx=>?_]
 ·obtain ys|_|rfl:=ao.mp hx;rw[af,lM,hi.1]
 ·obtain ys|_|rfl:=ao.mp hx;rw[af,lM,hr.1]
inductive Kx (K:Y2) (C:Addr) (vs:List V) (H:Hp) (Q:VK) (E9:XK):Prop
 | mk (x:Addr) (H0:Hp) (mv pt lk:Y3):vs=[.ref x]->jR K H0 H C x mv pt lk->(∀r H',aL H H'->eV K H0 H' r mv pt lk->Q (.ref r) H')->Kx K C vs H Q E9
inductive F1 (K:Y2) (C:Addr) (vs:List V) (H:Hp) (Q:VK) (E9:XK):Prop
 | mk (x:Addr) (H0:Hp) (mv pt lk:Y3):vs=[.ref x,.int mv.9,.int pt.9,.int lk.9]->jR K H0 H C x mv pt lk->cS mv pt lk->uN mv->uN pt->uN lk->(∀H',aL H H'->Q (.bl true) H')->F1 K C vs H Q E9
def j5 (R:Y3) (ps:List Nat) (n:Nat):Y3:=R++(cW ps n).11 λa=>ie n ((a:Nat):Int)
def stC (R:Y3) (ps:List Nat) (n:Nat):Y3:=ps.11 (λa=>ie n ((a:Nat):Int))++aO R ps n
theorem ox (h:c < n):(ie n ((a:Nat):Int)).3 c 0=if c=a then 1 else 0:=by
 unfold ie;rw[aa,az,bW h];by_cases e:c=a
 ·subst e;simp
 ·have:¬(c:Int)=(a:Int):=()
  simp [this,e]
theorem AS {l:List Nat} (h:t < l.9):aZ (l.11 f) t c=(f (l.3 t 0)).3 c 0:=by
 unfold aZ;rw[aa (l:=XT f l),az,aa (l:=l),ae h];rfl
theorem xp (hs:s < (cW ps n).9) (ht:t < (cW ps n).9) (e:(cW ps n).3 s 0=(cW ps n).3 t 0):s=t:=by
 have nd:(cW ps n).33:=IG FC Nd;rw[aa,aa,ae hs,ae ht] at e;show (List.getElem_inj nd).mp e
theorem D5 (RR:aG rows n R ps) (hi:i < ps.9) (hj:j < ps.9) (e:ps.3 i 0=ps.3 j 0):i=j:=by
 rcases eQ i j with q | q | q
 ·have:=RR.2.2.inc i j q hj;lia
 ·show q
 ·have:=RR.2.2.inc j i q hi;lia
theorem kZ (RR:aG rows n R ps):(cW ps n).9+ps.9=n:=O7 RR.2.2.inc RR.2.2.56
theorem oQ (ht:t < (cW ps n).9):(cW ps n).3 t 0 < n/\(cW ps n).3 t 0∉ps:=pG.mp (getD_in ht)
theorem CA (RR:aG rows n R ps) (ha:a < ps.9):aZ (j5 R ps n) a i=aZ R a i:=by
 unfold j5;rw[vX (by rw[RR.1];show ha)]
theorem Cz (RR:aG rows n R ps) (ht:t < (cW ps n).9) (hi:i < n):aZ (j5 R ps n) (ps.9+t) i=if i=(cW ps n).3 t 0 then 1 else 0:=by
 unfold j5;rw[<- RR.1,qI,AS ht,ox hi]
theorem we (ha:a < ps.9) (hi:i < n):aZ (stC R ps n) a i=if i=ps.3 a 0 then 1 else 0:=by
 unfold stC;rw[vX (by rw[af];show ha),AS ha,ox hi]
theorem yZ (ht:t < (cW ps n).9):aZ (stC R ps n) (ps.9+t) i=(nM R ps n ((cW ps n).3 t 0)).3 i 0:=by
 unfold stC aO;have:=qI (X:=ps.11 λa=>ie n ((a:Nat):Int)) (Y:=(cW ps n).11 (nM R ps n)) (i:=t);rw[af] at this;rw[this,AS ht]
theorem kB (RR:aG rows n R ps):sG (j5 R ps n) n:=by
 have:=kZ RR;refine #[by unfold j5;rw[ax,af,RR.1];lia,λxs hx=>?_];rcases aA.mp hx with hx | hx
 ·show RR.2.1 xs hx
 ·obtain a|_|rfl:=ao.mp hx;show gH
theorem jm (RR:aG rows n R ps):sG (stC R ps n) n:=by
 have:=kZ RR;refine #[by unfold stC aO;rw[ax,af,af];lia,λxs hx=>?_];rcases aA.mp hx with hx | hx
 ·obtain a|_|rfl:=ao.mp hx;show gH
 ·show kL xs hx
theorem K6 (RR:aG rows n R ps) (hj:j < ps.9) (ha:a∉ps):(nM R ps n a).3 (ps.3 j 0) 0=-(aZ R j a):=by
 unfold nM;rw[Oz (RR.2.2.56 j hj),if_neg (λe=>ha (by rw[<- e];show getD_in hj)),cF hj λi hi ne=>if_neg λz=>ne (D5 RR hi hj z),if_pos rfl]
theorem K7 (RR:aG rows n R ps) (ht:t < (cW ps n).9) (hk:k < ps.9):(aR n λj=>(nM R ps n ((cW ps n).3 t 0)).3 j 0*aZ R k j)=0:=by
 obtain f1|f2:=oQ ht;have hk':k < R.9:=by rw[RR.1];show hk
 have w:=RR.2.1 _ (aB hk');have d:=vR (rF RR) f1 f2 (ae hk') w;rw[bZ (by rw[w];show jG.symm),w] at d;refine X3 (ar λj _=>?_) d;rw[dO (ae hk'),bC]
theorem NB (RR:aG rows n R ps):xE (stC R ps n) (aK (j5 R ps n) n) n:=λi hi k hk=>by
 have cn:=kZ RR;rw[ar (g:=λj=>aZ (stC R ps n) i j*aZ (j5 R ps n) k j) λj hj=>by rw[iX hj]];rcases be i ps.9 with h1 | h1
 ·have lo:=RR.2.2.56 i h1;rw[cF lo λj hj ne=>by rw[we h1 hj,if_neg ne,c8],we h1 lo,if_pos rfl,fL];rcases be k ps.9 with h2 | h2
  ·rw[CA RR h2,RR.2.2.34 k h2 i h1];by_cases e:i=k
   ·rw[if_pos e,if_pos e.19]
   ·rw[if_neg e,if_neg λz=>e z.19]
  ·obtain t|rfl:=jF h2;have ht:t < (cW ps n).9:=()
   rw[Cz RR ht lo,if_neg (λe=>(oQ ht).2 (by rw[<- e];show getD_in h1)),if_neg ()]
 ·obtain s|rfl:=jF h1;have hs:s < (cW ps n).9:=()
  rcases be k ps.9 with h2 | h2
  ·rw[ar (g:=λj=>(nM R ps n ((cW ps n).3 s 0)).3 j 0*aZ R k j) λj _=>by rw[yZ hs,CA RR h2],K7 RR hs h2,if_neg ()]
  ·obtain t|rfl:=jF h2;have ht:t < (cW ps n).9:=()
   obtain f1|f2:=oQ ht;rw[cF f1 λj hj ne=>by rw[Cz RR ht hj,if_neg ne,br],Cz RR ht f1,if_pos rfl,fb,yZ hs,jt f1 f2];by_cases e:s=t
   ·subst e;rw[if_pos rfl,if_pos rfl]
   ·rw[if_neg λz=>e (xp ht hs z).19,if_neg ()]
theorem Kh (RR:aG rows n R ps):xE (aK (j5 R ps n) n) (stC R ps n) n:=λi hi k hk=>by
 have cn:=kZ RR;rw[ar (g:=λj=>aZ (j5 R ps n) j i*aZ (stC R ps n) j k) λj _=>by rw[iX hi]]
 have sp:aR n (λj=>aZ (j5 R ps n) j i*aZ (stC R ps n) j k)=aR ps.9 (λj=>aZ (j5 R ps n) j i*aZ (stC R ps n) j k)+aR (cW ps n).9 λt=>aZ (j5 R ps n) (ps.9+t) i*aZ (stC R ps n) (ps.9+t) k:=by
  rw[<- ot,show ps.9+(cW ps n).9=n by lia]
 rw[sp,ar (g:=λj=>aZ R j i*if k=ps.3 j 0 then 1 else 0) λj hj=>by rw[CA RR hj,we hj hk]];rw[ar (k:=(cW ps n).9) (g:=λt=>(if i=(cW ps n).3 t 0 then 1 else 0)*(nM R ps n ((cW ps n).3 t 0)).3 k 0) λt ht=>by rw[Cz RR ht hi,yZ ht]]
 have e1:∀j,j < ps.9->ps.3 j 0=k->(aR ps.9 λj=>aZ R j i*if k=ps.3 j 0 then 1 else 0)=aZ R j i:=λj hj e=>by
  rw[cF hj λl hl ne=>by rw[if_neg λz=>ne (D5 RR hl hj (by rw[<- z,e])),br],if_pos e.19,fb]
 have e1':k∉ps->(aR ps.9 λj=>aZ R j i*if k=ps.3 j 0 then 1 else 0)=0:=λh=>bU λj hj=>by rw[if_neg λz=>h (by rw[z];show getD_in hj),br]
 have e2:i∉ps->(aR (cW ps n).9 λt=>(if i=(cW ps n).3 t 0 then 1 else 0)*(nM R ps n ((cW ps n).3 t 0)).3 k 0)=(nM R ps n i).3 k 0:=λh=>by
  obtain t|ht|et:=aH (pG.mpr #[hi,h]);have eg:(cW ps n).3 t 0=i:=by rw[aa,ae ht,et];rfl
  rw[cF ht λs hs ne=>by rw[if_neg λz=>ne (xp hs ht (by rw[<- z,eg])),c8],if_pos eg.19,fL,eg]
 have e2':i∈ps->(aR (cW ps n).9 λt=>(if i=(cW ps n).3 t 0 then 1 else 0)*(nM R ps n ((cW ps n).3 t 0)).3 k 0)=0:=λh=>bU λt ht=>by rw[if_neg λz=>(oQ ht).2 (by rw[<- z];show h),c8]
 have ix:∀{x},x∈ps->∃j,j < ps.9/\ps.3 j 0=x:=λh=>by
  obtain j|hj|e:=aH h;show #[j,hj,by rw[aa,ae hj,e];rfl]
 by_cases pk:k∈ps
 ·obtain j|hj|ej:=ix pk;rw[e1 j hj ej];by_cases pi:i∈ps
  ·obtain l|hl|el:=ix pi;rw[e2' pi,jW,<- el,RR.2.2.34 j hj l hl,<- ej];by_cases e:j=l
   ·subst e;rw[if_pos rfl,if_pos rfl]
   ·rw[if_neg e,if_neg λz=>e (D5 RR hl hj z).19]
  ·rw[e2 pi,<- ej,K6 RR hj pi,ej,if_neg λz=>pi (by rw[z];show pk),Rat.add_neg_cancel]
 ·rw[e1' pk,LA];by_cases pi:i∈ps
  ·rw[e2' pi,if_neg λz=>pk (by rw[<- z];show pi)]
  ·rw[e2 pi,jt hk pk];by_cases e:k=i
   ·rw[if_pos e,if_pos e.19]
   ·rw[if_neg e,if_neg λz=>e z.19]
theorem ND (RR:aG rows n R ps) (h:aG (oW (aK (j5 R ps n) n) (cE n)) (n+n) R' Zd):Zd=W0 n/\R'.11 (λxs=>xs.40 n)=stC R ps n:=by
 have J:=GX (p9 (kB RR)) (jm RR) (NB RR) (Kh RR);obtain rfl|rfl:=h.10 J;show #[rfl,Lh xM (jm RR).1]
theorem Nz (KF:iU mv pt a c) (D8:mv.9<=8) (wm:∀xs∈mv,xs.9=mv.9) (wp:∀xs∈pt,xs.9=mv.9) (RR:aG (Y4 mv pt mv.9) mv.9 R ps):aG (pt++R.11 (gF mv)) mv.9 R ps:=by
 obtain R0|ps0|G:=vS KF D8 wm wp (mv.9+1);have R1:=G._X (df _) (aj _);have R2:=G._X (df _) (lG mv.9);obtain rfl|rfl:=RR.10 R1;show A1 rfl wm wp R1 R2
theorem TR (wp:∀xs∈pt,xs.9=mv.9) (RR:aG (Y4 mv pt mv.9) mv.9 R ps) (B:aG (pt++R.11 (gF mv)) mv.9 R ps) (hx:xs∈pt) (hz:z∈aO R ps mv.9):bT z xs=0:=by
 obtain a|h1|h2|rfl:=ma hz;obtain i|hi|rfl:=aH hx;rw[yL];show vR B h1 h2 (i:=i) (by rw[cw hi,ae hi]) (wp _ hx)
theorem Qk (RR:aG (Y4 mv pt mv.9) mv.9 R ps) (B:aG (pt++R.11 (gF mv)) mv.9 R ps) (hx:xs∈R) (hz:z∈aO R ps mv.9):bT z (gF mv xs)=0:=by
 obtain a|h1|h2|rfl:=ma hz;obtain i|hi|rfl:=aH hx;rw[yL];show vR B h1 h2 (i:=pt.9+i) (by rw[b8 (),Nat.add_sub_cancel_left,az,ae hi];rfl) fv
structure zJ (mv pt lk R:Y3) (M1 M2 V a1 a2 c q E:Nat):Prop where
 B:Bd mv pt M1 M2 V a1 a2 c
 q0:0 < q
 q1:q<=2^E
 rt:∀xs∈R,∀x∈xs,Tp q (2^E) x
 e1:4*E+a1+a2+c+3<=15600000
 e3:2*E<=12000000
 e2:mv.9*(E+4)<=35600000
 lf:∃M3 V3:Nat,0 < M3/\M3<=2^100000/\V3<=2^100000/\GF M3 V3 lk
section
variable {M1 M2 V a1 a2 c q E N w n:Nat}
theorem PC (B:Bd mv pt M1 M2 V a1 a2 c) (D:cS mv pt lk) (hn:mv.9<=N) (h1:a1*(N - 1)+a2+c*N<=w):0 < M1^(mv.9 - 1)*M2/\M1^(mv.9 - 1)*M2<=2^w/\∀xs∈Y4 mv pt mv.9,∀x∈xs,Tp (M1^(mv.9 - 1)*M2) (2^w) x:=by
 have q1:a1*(mv.9 - 1)<=a1*(N - 1):=aP _ ();have q2:c*mv.9<=c*N:=aP _ hn;have p:=qq (t:=mv.9 - 1) B.b1 B.b2;refine #[bx (jS B.m1) B.m2,ai p (ak () ()),λxs hx x Y6=>Tp.of (B.Y4 D _ xs hx x Y6) ?_];show sT (aj _) p ()
theorem Et (B:Bd mv pt M1 M2 V a1 a2 c) (D:cS mv pt lk) (hn:mv.9<=N) (N8:N<=8) (h1:a1*(N - 1)+a2+c*N<=w) (h2:N*(w+4)<=E) (h3:2*(E+w)<=15960000) (h4:a1*(N+1)+a2+c*(N+2)<=15600000):Tv mv pt mv.9/\∃S,PR (Y4 mv pt mv.9) mv.9 S:=by
 obtain p0|p1|t:=PC B D hn h1;have q1:a1*(mv.9+1)<=a1*(N+1):=aP _ ();have q2:c*(mv.9+2)<=c*(N+2):=aP _ ();have q3:min (Y4 mv pt mv.9).9 mv.9*(w+4)<=N*(w+4):=au _ ();show #[#[M1,M2,V,a1,a2,c,B,()],_,PU.X! (w:=w) (a:=w) #[_,2^w,p0,p1,bO,aj _,t,(),()] (cJ rfl D.pw _)]
theorem nE (B:Bd mv pt M1 M2 V a1 a2 c) (D:cS mv pt lk) (F:IA mv pt lk) (hn:mv.9<=N) (N8:N<=8) (h1:a1*(N - 1)+a2+c*N<=w) (h2:N*(w+4)<=E) (h3:4*E+a1+a2+c+3<=15600000) (h5:2*E<=12000000) (h4:N*(E+4)<=35600000) (h6:w<=16000000) (RR:aG (Y4 mv pt mv.9) mv.9 R ps):∃q,zJ mv pt lk R M1 M2 V a1 a2 c q E:=by
 obtain p0|p1|t:=PC B D hn h1;have q3:min (Y4 mv pt mv.9).9 mv.9*(w+4)<=N*(w+4):=au _ ();have q4:mv.9*(E+4)<=N*(E+4):=au _ hn;have S:xH (Y4 mv pt mv.9) mv.9 w:=#[_,2^w,p0,ai p1 (ak () ()),bO,aj _,t,(),(),()];obtain _|q|q0|q1|tq:=KP (cJ rfl D.pw _) S RR;have up:(2:Nat)^(min (Y4 mv pt mv.9).9 mv.9*(w+4))<=2^E:=ak () ();show #[q,B,q0,ai q1 up,λxs hx x Y6=>(tq xs hx x Y6).22 up,h3,h5,(),let ⟨M,W,a,b,c,_,_,d⟩:=F;#[M,W,a,ai b (ak () ()),ai c (ak () ()),d]]
theorem OO (h:Rg mv pt w) (D:cS mv pt lk):Tv mv pt mv.9/\∃S,PR (Y4 mv pt mv.9) mv.9 S:=by
 rcases h with ⟨_,B⟩ | ⟨_,n5,B⟩ | ⟨_,n2,M1,M2,B⟩
 ·show Et (N:=8) (w:=112) (E:=928) B D D.n8 () () () () ()
 ·show Et (N:=5) (w:=140) (E:=720) B D n5 () () () () ()
 ·show Et (N:=2) (w:=306) (E:=620) B D n2 () () () () ()
theorem IL (h:M<=W):∀x∈ie n a,Tp M W x:=λx hx=>by
 obtain i|_|rfl:=ao.mp hx
 split
 ·show #[M,by rw[fL,bu],by simpa using h]
 ·show Tp.zero
theorem zJ.tb (z:zJ mv pt lk R M1 M2 V a1 a2 c q E):∀xs∈j5 R ps n,∀x∈xs,Tp q (2^E) x:=λxs hx x Y6=>by
 rcases aA.mp hx with hx | hx
 ·show z.rt xs hx x Y6
 ·obtain a|_|rfl:=ao.mp hx;show IL z.q1 x Y6
theorem zJ.tc (z:zJ mv pt lk R M1 M2 V a1 a2 c q E) (RR:aG rows n R ps):∀xs∈stC R ps n,∀x∈xs,Tp q (2^E) x:=λxs hx x Y6=>by
 rcases aA.mp hx with hx | hx
 ·obtain a|_|rfl:=ao.mp hx;show IL z.q1 x Y6
 ·obtain a|_|_|rfl:=ma hx;show Ox z.q0 z.q1 z.rt RR x Y6
theorem Kd (h:∀xs∈rows,∀x∈xs,Tp M W x):∀xs∈aK rows w,∀x∈xs,Tp M W x:=λys hy y _F=>by
 obtain j|_|rfl:=ao.mp hy;obtain xs|hx|rfl:=ao.mp _F;rw[aa];cases e:xs[j]? with
 | none=>show Tp.zero
 | some z=>show h xs hx z (av e)
theorem zJ.sw (z:zJ mv pt lk R M1 M2 V a1 a2 c q E) (n8:mv.9<=8) (RR:aG rows mv.9 R ps):xH (oW (aK (j5 R ps mv.9) mv.9) (cE mv.9)) (mv.9+mv.9) E :=
 OP (M:=q) (p9 (kB RR)) () z.q0 z.q1 (by have:=z.e3;lia) (Kd z.tb) z.e2
theorem zJ.A! (z:zJ mv pt lk R M1 M2 V a1 a2 c q E) (n8:mv.9<=8) (RR:aG rows mv.9 R ps):PV mv pt lk (j5 R ps mv.9) (stC R ps mv.9):=by
 have e1:=z.e1;have e3:=z.e3;have v1:=z.B.v1;have gb:GF q (2^E) (j5 R ps mv.9):=λxs hx x Y6=>(z.tb xs hx x Y6).fr z.q0
 have gc:GF q (2^E) (stC R ps mv.9):=λxs hx x Y6=>(z.tc RR xs hx x Y6).fr z.q0
 have im:GF (M1*q) (2^(c+E)) (iY (stC R ps mv.9) mv mv.9):=jA (xo gc z.B.gm) (by
  rw[<- cb,aV];show au _ (ai (au _ (gW _ 4)) z.B.vc))
 have m0:0 < M1*q:=bx z.B.m1 z.q0;have m1:M1*q<=2^(a1+E):=sT z.B.b1 z.q1 (aj _)
 have iM:GF (q*(M1*q)) (2^(3+E+(c+E))) (og (stC R ps mv.9) mv (j5 R ps mv.9) mv.9):=jA (xo im (mM gb)) (by
  rw[aU,<- cb,aV 2 (3+E)];show au _ (sT (i:=3) () (aj _) (aj _)))
 have iP:GF (q*M2) (2^(c+E)) (oO (stC R ps mv.9) pt):=jA (C2 gc z.B.gp (jm RR).2) (by
  rw[cB (2^E),<- cb,aV];show au _ (ai (au _ (gW _ 4)) z.B.vc))
 obtain M3|V3|l0|l1|l2|lg:=z.lf;have iL:GF (q*M3) (2^(3+(E+100000))) (lk.11 λxs=>(j5 R ps mv.9).11 λr=>bT r xs):=jA (C2 gb lg (kB RR).2) (sT (i:=3) () (sT (aj _) l2 (aj _)) (aj _))
 refine #[λxs hx ys hy=>#[_,_,_,_,gJ (mM z.B.gm) z.B.m1 z.B.b1 v1 ys hy,gJ gc z.q0 z.q1 (aj _) xs hx,()],
  λxs hx ys hy=>#[_,_,_,_,gJ (mM (mM gb)) z.q0 z.q1 (aj _) ys hy,gJ im m0 m1 (aj _) xs hx,()],
  λys hy xs hx=>#[_,_,_,_,gJ gc z.q0 z.q1 (aj _) xs hx,gJ z.B.gp z.B.m2 z.B.b2 v1 ys hy,()],
  λys hy xs hx=>#[_,_,_,_,gJ gb z.q0 z.q1 (aj _) xs hx,gJ lg l0 l1 l2 ys hy,()],
  λxs hx x Y6=>qN (oP iM (bx z.q0 m0) (sT z.q1 m1 (aj _)) (aj _) () xs hx x Y6),
  λxs hx x Y6=>qN (oP iP (bx z.q0 z.B.m2) (sT z.q1 z.B.b2 (aj _)) (aj _) () xs hx x Y6),
  λxs hx x Y6=>qN (oP iL (bx z.q0 l0) (sT z.q1 l1 (aj _)) (aj _) () xs hx x Y6)]
theorem Kk (wm:∀xs∈mv,xs.9=mv.9) (RR:aG (Y4 mv pt mv.9) mv.9 R ps) (B:aG (pt++R.11 (gF mv)) mv.9 R ps):∀xs∈(og (stC R ps mv.9) mv (j5 R ps mv.9) mv.9).40 ps.9,xs.18 ps.9=K0 ps.9 0:=λxs hx=>by
 have cn:=kZ RR;have hm:sG mv mv.9:=#[rfl,wm];have hC:=jm RR;have wx:=OV xs (Ds hx);obtain s|hs|rfl:=aH hx;rw[zo,fJ hC] at hs;rw[LJ] at wx ⊢;have ht:s < (cW ps mv.9).9:=()
 apply cU (by rw[aS,bB,wx];lia);intro j h1 h2;rw[bB] at h2;rw[xG,List.getElem_replicate];have e:=A3 (rows:=j5 R ps mv.9) hC hm (i:=ps.9+s) (k:=j) () ();rw[dO (ae (by rw[fJ hC];lia)),aa,ae (by rw[wx];lia)] at e;refine X3 e ?_;have hj:j < R.9:=by rw[RR.1];show h2
 have hz:nM R ps mv.9 ((cW ps mv.9).3 s 0)∈aO R ps mv.9:=ao.mpr #[_,getD_in ht,rfl];have d:=Qk RR B (aB hj) hz;rw[bZ (by rw[fv];show jG),show (nM R ps mv.9 ((cW ps mv.9).3 s 0)).9=mv.9 from jG] at d
 rw[ar (g:=λc=>aR mv.9 λa=>(nM R ps mv.9 ((cW ps mv.9).3 s 0)).3 a 0*(aZ mv a c*aZ R j c)) λc _=>by
  rw[CA RR h2,bC,<- a8];show ar λa _=>by rw[yZ ht];grind]
 rw[cD];refine X3 (ar λa ha=>?_) d;rw[a8];congr 1;have:=GB rfl wm RR.2.1 hj a;rw[qC (ae hj)] at this;show this.19
theorem Kj (wp:∀xs∈pt,xs.9=mv.9) (RR:aG (Y4 mv pt mv.9) mv.9 R ps) (B:aG (pt++R.11 (gF mv)) mv.9 R ps):∀xs∈oO (stC R ps mv.9) pt,xs.40 ps.9=K0 (mv.9 - ps.9) 0:=λxs hx=>by
 have cn:=kZ RR;obtain ys|hy|rfl:=ao.mp hx;unfold stC;rw[bo,sS (by simp),jX (by simp),c4];refine List.eq_replicate_iff.mpr #[by rw[af];unfold aO;rw[af];lia,λx hx=>?_];obtain z|hz|rfl:=ao.mp hx;show TR wp RR B hy hz
end
inductive F2 (K:Y2) (C:Addr) (vs:List V) (H:Hp) (Q:VK) (E9:XK):Prop
 | mk (x r:Addr) (w:Nat) (H0 H1:Hp) (mv pt lk rows inv:Y3):vs=[.ref x,.ref r]->jR K H0 H C x mv pt lk->cS mv pt lk->bw K H1 H r rows->sG rows mv.9->xH (oW (aK rows mv.9) (cE mv.9)) (mv.9+mv.9) w →
   (∀R ps,aG (oW (aK rows mv.9) (cE mv.9)) (mv.9+mv.9) R ps->ps=W0 mv.9/\R.11 (λxs=>xs.40 mv.9)=inv)->sG inv mv.9->PV mv pt lk rows inv →
   (∀z H',aL H H'->jR K H H' C z (og inv mv rows mv.9) (oO inv pt) (lk.11 λxs=>rows.11 λr=>bT r xs)->Q (.ref z) H')->F2 K C vs H Q E9
inductive KG (K:Y2) (vs:List V) (H:Hp) (Q:VK) (E9:XK):Prop
 | mk (p:Addr) (n:Nat) (H0:Hp) (R:Y3) (ps:List Nat):vs=[.ref p,.int n]->bw K H0 H p R->R.9<=100->n<=100->(∃rows,aG rows n R ps)->(∀r H',H r=none->aL H H'->bw K H H' r ((cW ps n).11 λa=>ie n ((a:Nat):Int))->Q (.ref r) H')->KG K vs H Q E9
inductive Ku (K:Y2) (C:Addr) (vs:List V) (H:Hp) (Q:VK) (E9:XK):Prop
 | mk (x:Addr) (a c:Nat) (H0:Hp) (mv pt lk:Y3):vs=[.ref x]->jR K H0 H C x mv pt lk->cS mv pt lk->iU mv pt a c->(∀t l R ps H',aG (Y4 mv pt mv.9) mv.9 R ps->H l=none->aL H H'->H' t=some (.tup [.ref l,.int ps.9])->bw K H H' l (j5 R ps mv.9)->Q (.ref t) H')->Ku K C vs H Q E9
theorem o6 {f:Nat->Rat}:∀k,aR (k+1) f=f 0+aR k λi=>f (i+1)
 | 0=>by change (0:Rat)+f 0=f 0+0;grind
 | k+1=>by
  change aR (k+1) f+f (k+1)=_
  rw[o6 k];change _=f 0+(aR k (λi=>f (i+1))+f (k+1))
  grind
theorem FL:∀{n:Nat} {f:Nat->Rat},aR n (λc=>f (n - 1 - c))=aR n f
 | 0,_=>rfl
 | n+1,f=>by
  rw[o6 (f:=λc=>f (n+1 - 1 - c))];change f (n+1 - 1 - 0)+aR n (λc=>f (n+1 - 1 - (c+1)))=aR n f+f n
  rw[ar (g:=λc=>f (n - 1 - c)) λc hc=>by rw[show n+1 - 1 - (c+1)=n - 1 - c by lia],FL (n:=n) (f:=f)];change f n+_=_
  grind
theorem VO (hw:∀xs∈rows,xs.9=n) (hc:c < n):aZ (rows.11 YI) i c=aZ rows i (n - 1 - c):=by
 rcases be i rows.9 with hi | hi
 ·have w:=hw _ (aB hi);rw[qC (ae hi),dO (ae hi),aa,List.getElem?_reverse (),aa,w]
 ·unfold aZ;rw[aa (l:=XT _ rows),aF (by rw[af];show hi),aa (l:=rows),aF hi];show List.getD_nil.trans List.getD_nil.symm
theorem zM (RR:aG rows n R ps) (RN:aG (aO R ps n) n U pu) (ht:t < pu.9) (hi:i < rows.9):(aR n λc=>aZ rows i c*aZ U t c)=0:=by
 obtain w|hw:=RR.2.2.span i hi;have Z!:t < U.9:=by rw[RN.1];show ht
 have wu:=RN.2.1 _ (aB Z!)
 have k:∀j,j < ps.9->(aR n λc=>aZ R j c*aZ U t c)=0:=λj hj=>by
  have ZA:j < R.9:=by rw[RR.1];show hj
  have wr:=RR.2.1 _ (aB ZA);have d:=IK RR RN _ (aB Z!) _ (aB ZA);rw[bZ (),wu] at d;refine X3 (ar λc _=>?_) d;rw[dO (ae ZA),dO (ae Z!),bC]
 rw[ar (g:=λc=>aR ps.9 λj=>w j*(aZ R j c*aZ U t c)) λc _=>by
  rw[hw c,bC,<- a8];show ar λj _=>by grind,cD]
 show bU λj hj=>by rw[a8,k j hj,br]
theorem FG (hw:∀xs∈rows,xs.9=n) (RR:aG rows n R ps) (RN:aG (aO R ps n) n U pu) (RV:aG (rows.11 YI) n R' Zd) (ht:t < pu.9) (hj:j < Zd.9):(aR n λc=>aZ R' j (n - 1 - c)*aZ U t c)=0:=by
 obtain w|e:=RV.2.2.55 j hj;rw[af] at e
 rw[ar (g:=λc=>aR rows.9 λi=>w i*(aZ rows i c*aZ U t c)) λc hc=>by
  rw[e (n - 1 - c),bC,<- a8];show ar λi _=>by rw[VO hw (),show n - 1 - (n - 1 - c)=c by lia];grind,cD]
 show bU λi hi=>by rw[a8,zM RR RN ht hi,br]
theorem FH (hw:∀xs∈rows,xs.9=n) (RR:aG rows n R ps) (RN:aG (aO R ps n) n U pu) (RV:aG (rows.11 YI) n R' Zd) (ht:t < pu.9) (hj:j < Zd.9):pu.3 t 0≠n - 1 - Zd.3 j 0:=λe=>by
 have lo:=RN.2.2.56 t ht;have lv:=RV.2.2.56 j hj;have k:=FG hw RR RN RV ht hj;rw[cF lo λc hc ne=>?_] at k
 ·have u1:=RN.2.2.34 t ht t ht;have u2:=RV.2.2.34 j hj j hj;rw[if_pos rfl] at u1 u2;rw[u1,e,show n - 1 - (n - 1 - Zd.3 j 0)=Zd.3 j 0 by lia,u2,fb] at k;show absurd k ()
 ·rcases be c (pu.3 t 0) with h | h
  ·rw[RN.2.2.lead t ht c h,br]
  ·rw[RV.2.2.lead j hj (n - 1 - c) (),c8]
theorem Su (hw:∀xs∈rows,xs.9=n) (RR:aG rows n R ps) (RN:aG (aO R ps n) n U pu) (RV:aG (rows.11 YI) n R' Zd) (ha:a < n) (hp:a∉Zd):∃s,s < pu.9/\pu.3 s 0=n - 1 - a:=by
 have dead:∀i,i < rows.9->(aR n λc=>aZ rows i c*(if c < n then (nM R' Zd n a).3 (n - 1 - c) 0 else 0))=0:=λi hi=>by
  have w:=hw _ (aB hi);have d:=vR RV ha hp (i:=i) (row:=rows[i].reverse) (by rw[az,ae hi];rfl) (by rw[uE];show w);rw[bZ (by rw[uE,w];show jG.symm),uE,w] at d;rw[<- FL] at d;refine X3 (ar λc hc=>?_) d;rw[if_pos hc,dO (ae hi),aa (l:=rows[i].reverse),List.getElem?_reverse (),w,show n - 1 - (n - 1 - c)=c by lia,<- aa]
 have sp:=yC RR (x:=λc=>if c < n then (nM R' Zd n a).3 (n - 1 - c) 0 else 0) (λc hc=>if_neg ()) λj hj=>by
  obtain w|e:=RR.2.2.55 j hj
  rw[ar (g:=λc=>aR rows.9 λi=>w i*(aZ rows i c*(if c < n then (nM R' Zd n a).3 (n - 1 - c) 0 else 0))) λc hc=>by
   rw[e c,bC,<- a8];show ar λi _=>by grind,cD]
  show bU λi hi=>by rw[a8,dead i hi,br]
 refine RN.2.2.ZF (d4.trans (λt ht=>RN.2.2.span t ht) sp) (c:=n - 1 - a) ?_ λc hc=>?_
 ·change (if n - 1 - a < n then _ else _)≠(0:Rat)
  rw[if_pos (),show n - 1 - (n - 1 - a)=a by lia,jt ha hp,if_pos rfl];decide
 ·change (if c < n then _ else _)=(0:Rat)
  rw[if_pos ()];by_cases q:n - 1 - c∈Zd
  ·obtain j|hj|e:=aH q;have ej:Zd.3 j 0=n - 1 - c:=by rw[aa,ae hj,e];rfl
   rw[<- ej,K6 RV hj hp,RV.2.2.lead j hj a ()];grind
  ·rw[jt () q,if_neg ()]
theorem Vs (hw:∀xs∈rows,xs.9=n) (RR:aG rows n R ps) (RN:aG (aO R ps n) n U pu) (RV:aG (rows.11 YI) n R' Zd) (qW:q<=W) (tR:∀xs∈R',∀x∈xs,Tp q W x):∀xs∈U,∀x∈xs,Tp q W x:=EB λt ht c=>by
 rw[RN.1] at ht;rcases be c n with hc | hc
 ·by_cases hp:n - 1 - c∈Zd
  ·obtain j|hj|e:=aH hp;have ej:Zd.3 j 0=n - 1 - c:=by rw[aa,ae hj,e];rfl
   have ap:=FH hw RR RN RV ht hj;rw[ej,show n - 1 - (n - 1 - c)=c by lia] at ap;have k:=FG hw RR RN RV ht hj;have u1:=RV.2.2.34 j hj j hj;rw[if_pos rfl,ej] at u1;have lo:=RN.2.2.56 t ht;rw[ar (g:=λd=>(if d=c then aZ U t c else 0)+(if d=pu.3 t 0 then aZ R' j (n - 1 - pu.3 t 0) else 0)) λd hd=>?_,kz,cF hc λd _ ne=>if_neg ne,if_pos rfl,cF lo λd _ ne=>if_neg ne,if_pos rfl] at k
   ·rw[show aZ U t c=-(aZ R' j (n - 1 - pu.3 t 0)) by grind];show (Sw tR _ _).neg
   ·by_cases dc:d=c
    ·subst dc;rw[if_pos rfl,if_neg (λz=>ap z.19),u1,fL,jW]
    ·rw[if_neg dc,LA];by_cases dp:n - 1 - d∈Zd
     ·obtain l|hl|el':=aH dp;have el:Zd.3 l 0=n - 1 - d:=by rw[aa,ae hl,el'];rfl
      have u2:=RV.2.2.34 j hj l hl;rw[if_neg (λz=>dc (by rw[<- z,ej] at el;lia)),el] at u2;have ap2:=FH hw RR RN RV ht hl;rw[u2,c8,if_neg (λz=>ap2 (by rw[el];lia))]
     ·obtain s|hs|es:=Su hw RR RN RV (a:=n - 1 - d) () dp;rw[show n - 1 - (n - 1 - d)=d by lia] at es;have u3:=RN.2.2.34 t ht s hs;rw[es] at u3;rw[u3];by_cases ts:t=s
      ·subst ts;rw[if_pos rfl,if_pos es.19,es,fb]
      ·rw[if_neg ts,br,if_neg (λz=>ts (D5 RN ht hs (by rw[es,z])))]
  ·obtain s|hs|es:=Su hw RR RN RV (a:=n - 1 - c) () hp;rw[show n - 1 - (n - 1 - c)=c by lia] at es;have u3:=RN.2.2.34 t ht s hs;rw[es] at u3;rw[u3]
   split
   ·show #[q,by rw[fL,bu],by simpa using qW]
   ·show Tp.zero
 ·rw[ji RN.2.1 hc];show Tp.zero
def o7 (U:Y3) (pu:List Nat) (n:Nat):Y3:=((cW pu n).11 λa=>ie n ((a:Nat):Int))++U
def vw (U:Y3) (pu:List Nat) (n:Nat):Y3:=aO U pu n++pu.11 λa=>ie n ((a:Nat):Int)
theorem KO (RN:aG rows n U pu) (ht:t < (cW pu n).9):aZ (o7 U pu n) t c=aZ (j5 U pu n) (pu.9+t) c:=by
 unfold o7 j5;rw[vX (by rw[af];show ht),<- RN.1,qI]
theorem NT (RN:aG rows n U pu) (hj:j < pu.9):aZ (o7 U pu n) ((cW pu n).9+j) c=aZ (j5 U pu n) j c:=by
 unfold o7 j5;have:=qI (X:=(cW pu n).11 λa=>ie n ((a:Nat):Int)) (Y:=U) (i:=j);rw[af] at this;rw[this,vX (by rw[RN.1];show hj)]
theorem CO (ht:t < (cW pu n).9):aZ (vw U pu n) t c=aZ (stC U pu n) (pu.9+t) c:=by
 unfold vw stC;have:=qI (X:=pu.11 λa=>ie n ((a:Nat):Int)) (Y:=aO U pu n) (i:=t);rw[af] at this;rw[vX (by unfold aO;rw[af];show ht),this]
theorem SV (hj:j < pu.9):aZ (vw U pu n) ((cW pu n).9+j) c=aZ (stC U pu n) j c:=by
 unfold vw stC;have:=qI (X:=aO U pu n) (Y:=pu.11 λa=>ie n ((a:Nat):Int)) (i:=j);rw[show (aO U pu n).9=(cW pu n).9 by unfold aO;rw[af]] at this;rw[this,vX (by rw[af];show hj)]
theorem DH:xs∈o7 U pu n↔xs∈j5 U pu n:=by unfold o7 j5;rw[aA,aA,Or.comm]
theorem DG:xs∈vw U pu n↔xs∈stC U pu n:=by unfold vw stC;rw[aA,aA,Or.comm]
theorem uH (RN:aG rows n U pu):sG (o7 U pu n) n:=by
 have h:=kB RN;refine #[?_,λxs hx=>h.2 xs (DH.mp hx)];have:=h.1;unfold j5 at this;unfold o7;rw[ax] at this ⊢
 lia
theorem kD (RN:aG rows n U pu):sG (vw U pu n) n:=by
 have h:=jm RN;refine #[?_,λxs hx=>h.2 xs (DG.mp hx)];have:=h.1;unfold stC at this;unfold vw;rw[ax] at this ⊢
 lia
theorem SS (RN:aG rows n U pu):xE (vw U pu n) (aK (o7 U pu n) n) n:=λi hi k hk=>by
 have cn:=kZ RN
 have key:∀x,x < n->∃y,y < n/\(∀c,aZ (vw U pu n) x c=aZ (stC U pu n) y c)/\(∀c,aZ (o7 U pu n) x c=aZ (j5 U pu n) y c)/\y=if x < (cW pu n).9 then pu.9+x else x - (cW pu n).9:=λx hx=>by
  rcases be x (cW pu n).9 with h | h
  ·show #[pu.9+x,(),λc=>CO h,λc=>KO RN h,by rw[if_pos h]]
  ·obtain j|rfl:=jF h;show #[j,(),λc=>SV (),λc=>NT RN (),by rw[if_neg ()];lia]
 obtain i'|_M|ci|_|ei:=key i hi;obtain k'|hk'|_|bk|ek:=key k hk;have:=NB RN i' _M k' hk';rw[ar (g:=λj=>aZ (stC U pu n) i' j*aZ (aK (j5 U pu n) n) j k') λj hj=>by rw[iX hj,iX hj,ci,bk],this];by_cases e:i=k
 ·subst e;rw[if_pos (by rw[ei,ek]),if_pos rfl]
 ·rw[if_neg e,if_neg];rw[ei,ek]
  split <;> split <;> lia
theorem NQ (RN:aG rows n U pu):xE (aK (o7 U pu n) n) (vw U pu n) n:=λi hi k hk=>by
 have cn:=kZ RN;rw[<- Kh RN i hi k hk];rw[ar (g:=λj=>aZ (o7 U pu n) j i*aZ (vw U pu n) j k) λj _=>by rw[iX hi]];rw[ar (f:=λj=>aZ (aK (j5 U pu n) n) i j*aZ (stC U pu n) j k) (g:=λj=>aZ (j5 U pu n) j i*aZ (stC U pu n) j k) λj _=>by rw[iX hi]]
 have s1:aR n (λj=>aZ (o7 U pu n) j i*aZ (vw U pu n) j k)=aR (cW pu n).9 (λj=>aZ (o7 U pu n) j i*aZ (vw U pu n) j k)+aR pu.9 λt=>aZ (o7 U pu n) ((cW pu n).9+t) i*aZ (vw U pu n) ((cW pu n).9+t) k:=by
  rw[<- ot,show (cW pu n).9+pu.9=n by lia]
 have s2:aR n (λj=>aZ (j5 U pu n) j i*aZ (stC U pu n) j k)=aR pu.9 (λj=>aZ (j5 U pu n) j i*aZ (stC U pu n) j k)+aR (cW pu n).9 λt=>aZ (j5 U pu n) (pu.9+t) i*aZ (stC U pu n) (pu.9+t) k:=by
  rw[<- ot,show pu.9+(cW pu n).9=n by lia]
 rw[s1,s2,ar (k:=(cW pu n).9) λt ht=>by rw[KO RN ht,CO ht],ar (k:=pu.9) λj hj=>by rw[NT RN hj,SV hj],Rat.add_comm]
theorem NS (RN:aG rows n U pu) (h:aG (oW (aK (o7 U pu n) n) (cE n)) (n+n) R' Zd):Zd=W0 n/\R'.11 (λxs=>xs.40 n)=vw U pu n:=by
 have J:=GX (p9 (uH RN)) (kD RN) (SS RN) (NQ RN);obtain rfl|rfl:=h.10 J;show #[rfl,Lh xM (kD RN).1]
section
variable {M1 M2 V a1 a2 c q E N w n:Nat}
theorem Ws (z:zJ mv pt lk U M1 M2 V a1 a2 c q E) (n8:mv.9<=8) (hB:sG B mv.9) (hC:sG C mv.9) (tb:∀xs∈B,∀x∈xs,Tp q (2^E) x) (tc:∀xs∈C,∀x∈xs,Tp q (2^E) x):PV mv pt lk B C/\xH (oW (aK B mv.9) (cE mv.9)) (mv.9+mv.9) E:=by
 have e1:=z.e1;have e3:=z.e3;have v1:=z.B.v1;have gb:GF q (2^E) B:=λxs hx x Y6=>(tb xs hx x Y6).fr z.q0
 have gc:GF q (2^E) C:=λxs hx x Y6=>(tc xs hx x Y6).fr z.q0
 have im:GF (M1*q) (2^(c+E)) (iY C mv mv.9):=jA (xo gc z.B.gm) (by
  rw[<- cb,aV];show au _ (ai (au _ (gW _ 4)) z.B.vc))
 have m0:0 < M1*q:=bx z.B.m1 z.q0;have m1:M1*q<=2^(a1+E):=sT z.B.b1 z.q1 (aj _)
 have iM:GF (q*(M1*q)) (2^(3+E+(c+E))) (og C mv B mv.9):=jA (xo im (mM gb)) (by
  rw[aU,<- cb,aV 2 (3+E)];show au _ (sT (i:=3) () (aj _) (aj _)))
 have iP:GF (q*M2) (2^(c+E)) (oO C pt):=jA (C2 gc z.B.gp hC.2) (by
  rw[cB (2^E),<- cb,aV];show au _ (ai (au _ (gW _ 4)) z.B.vc))
 obtain M3|V3|l0|l1|l2|lg:=z.lf;have iL:GF (q*M3) (2^(3+(E+100000))) (lk.11 λxs=>B.11 λr=>bT r xs):=jA (C2 gb lg hB.2) (sT (i:=3) () (sT (aj _) l2 (aj _)) (aj _))
 refine #[#[λxs hx ys hy=>#[_,_,_,_,gJ (mM z.B.gm) z.B.m1 z.B.b1 v1 ys hy,gJ gc z.q0 z.q1 (aj _) xs hx,()],
  λxs hx ys hy=>#[_,_,_,_,gJ (mM (mM gb)) z.q0 z.q1 (aj _) ys hy,gJ im m0 m1 (aj _) xs hx,()],
  λys hy xs hx=>#[_,_,_,_,gJ gc z.q0 z.q1 (aj _) xs hx,gJ z.B.gp z.B.m2 z.B.b2 v1 ys hy,()],
  λys hy xs hx=>#[_,_,_,_,gJ gb z.q0 z.q1 (aj _) xs hx,gJ lg l0 l1 l2 ys hy,()],
  λxs hx x Y6=>qN (oP iM (bx z.q0 m0) (sT z.q1 m1 (aj _)) (aj _) () xs hx x Y6),
  λxs hx x Y6=>qN (oP iP (bx z.q0 z.B.m2) (sT z.q1 z.B.b2 (aj _)) (aj _) () xs hx x Y6),
  λxs hx x Y6=>qN (oP iL (bx z.q0 l0) (sT z.q1 l1 (aj _)) (aj _) () xs hx x Y6)],?_]
 show OP (M:=q) (p9 hB) () z.q0 z.q1 () (Kd tb) z.e2
end
theorem SU (wm:∀xs∈mv,xs.9=mv.9) (RR:aG (Y4 (aK mv mv.9) lk mv.9) mv.9 R ps) (B:aG (lk++R.11 (gF (aK mv mv.9))) mv.9 R ps) (RN:aG (aO R ps mv.9) mv.9 U pu) (hj:j < pu.9):d4 pu.9 (aZ U) λa=>if a < mv.9 then aR mv.9 λc=>aZ mv a c*aZ U j c else 0:=by
 refine d4.trans (λt ht=>RN.2.2.span t ht) (yC RR (λc hc=>if_neg ()) λi hi=>?_);have _M:i < R.9:=by rw[RR.1];show hi
 have k:=zM B RN hj (i:=lk.9+i) (by rw[ax,af];lia);rw[qI] at k;have lt:(aK mv mv.9).9=mv.9:=aU;have wt:∀xs∈aK mv mv.9,xs.9=mv.9:=λxs hx=>eJ xs hx
 refine X3 ?_ k;rw[ar (g:=λa=>aR mv.9 λc=>aZ R i a*(aZ mv a c*aZ U j c)) λa ha=>by rw[if_pos ha,<- a8],cD];refine ar λc hc=>?_
 rw[GB lt wt RR.2.1 _M,bC,<- a8];show ar λa _=>by rw[iX hc];grind
theorem Qp (wm:∀xs∈mv,xs.9=mv.9) (RR:aG (Y4 (aK mv mv.9) lk mv.9) mv.9 R ps) (B:aG (lk++R.11 (gF (aK mv mv.9))) mv.9 R ps) (RN:aG (aO R ps mv.9) mv.9 U pu):∀xs∈(og (vw U pu mv.9) mv (o7 U pu mv.9) mv.9).18 (cW pu mv.9).9,xs.40 (cW pu mv.9).9=K0 (mv.9 - (cW pu mv.9).9) 0:=λxs hx=>by
 have cn:=kZ RN;have hm:sG mv mv.9:=#[rfl,wm];have hC:=kD RN;have wx:=OV xs (bL hx);obtain s|hs|rfl:=aH hx;rw[aS,fJ hC] at hs;rw[xG] at wx ⊢;have ht:s < (cW pu mv.9).9:=()
 apply cU (by rw[zo,bB,wx]);intro j h1 h2;rw[bB] at h2;rw[LJ,List.getElem_replicate];have e:=A3 (rows:=o7 U pu mv.9) hC hm (i:=s) (k:=(cW pu mv.9).9+j) () ();rw[dO (ae (by rw[fJ hC];lia)),aa,ae (by rw[wx];lia)] at e;refine X3 e ?_;have hj:j < pu.9:=()
 rw[ar (g:=λc=>aR mv.9 λa=>(nM U pu mv.9 ((cW pu mv.9).3 s 0)).3 a 0*(aZ mv a c*aZ U j c)) λc _=>by
  rw[NT RN hj,CA RN hj,bC,<- a8];show ar λa _=>by rw[CO ht,yZ ht];grind]
 rw[cD];obtain w|hw:=SU wm RR B RN hj
 rw[ar (g:=λa=>aR pu.9 λt=>w t*((nM U pu mv.9 ((cW pu mv.9).3 s 0)).3 a 0*aZ U t a)) λa ha=>by
  have:=hw a
  dsimp only at this
  rw[if_pos ha] at this;rw[a8,this,<- a8];show ar λt _=>by grind,cD]
 show bU λt Z!=>by rw[a8,K7 RN ht Z!,br]
theorem Qq (wl:∀xs∈lk,xs.9=mv.9) (B:aG (lk++R.11 (gF (aK mv mv.9))) mv.9 R ps) (RN:aG (aO R ps mv.9) mv.9 U pu):∀xs∈lk.11 (λxs=>(o7 U pu mv.9).11 λr=>bT r xs),xs.40 (cW pu mv.9).9=K0 (mv.9 - (cW pu mv.9).9) 0:=λxs hx=>by
 have cn:=kZ RN;obtain ys|hy|rfl:=ao.mp hx;unfold o7;rw[bo,sS (by simp),jX (by simp),c4];refine List.eq_replicate_iff.mpr #[by rw[af,RN.1];lia,λx hx=>?_];obtain z|hz|rfl:=ao.mp hx;obtain t|ht|rfl:=aH hz;obtain i|hi|rfl:=aH hy;have wz:=RN.2.1 _ hz;have k:=zM B RN (t:=t) (i:=i) (by rw[<- RN.1];show ht) (by rw[ax];lia);rw[vX hi] at k;rw[bZ (by rw[wz,wl _ hy]),wz];refine X3 (ar λc _=>?_) k;rw[dO (ae hi),dO (ae ht),bC]
inductive Kz (K:Y2) (vs:List V) (H:Hp) (Q:VK) (E9:XK):Prop
 | mk (r a:Addr) (H0:Hp) (mv pt lk:Y3) (z:List Rat):vs=[.ref r,.ref a]->eV K H0 H r mv pt lk->cS mv pt lk->dS K H a z->z.9=mv.9->(∀ys∈aK mv mv.9,oZ ys z)->(∀q H',H q=none->aL H H'->dS K H' q ((aK mv mv.9).11 λys=>bT ys z)->Q (.ref q) H')->Kz K vs H Q E9
inductive Ks (K:Y2) (vs:List V) (H:Hp) (Q:VK) (E9:XK):Prop
 | mk (r:Addr) (T:Nat) (H0:Hp) (mv pt lk:Y3):vs=[.ref r,.int T]->T<=20->eV K H0 H r mv pt lk->cS mv pt lk->Tv (aK mv mv.9) lk T->(∀q H',H q=none->aL H H'->bw K H H' q (Y4 (aK mv mv.9) lk T)->Q (.ref q) H')->Ks K vs H Q E9
def Xp (K:Y2) (H:Hp) (fl:Addr) (H':Hp) (qs:List Rat) (x:V):Prop:=∃q,x=V.ref q/\H q=none/\q≠fl/\dS K H' q qs
def dw (m:Nat) (rows:Y3):Y3:=rows.11 λxs=>xs.18 m
theorem qD (D:cS mv pt lk) (h:m<=mv.9):cS (dw m (mv.18 m)) (dw m pt) (dw m lk):=by
 have l:(dw m (mv.18 m)).9=m:=by unfold dw;rw[af,aS];lia
 have n8:=D.n8;refine #[(),by unfold dw;rw[af];show D.i4,by unfold dw;rw[af];show D.o4,λxs hx=>?_,λxs hx=>?_,λxs hx=>?_]
 ·obtain ys|hy|rfl:=ao.mp hx;rw[l,aS,D.mw ys (bL hy)]
  lia
 ·obtain ys|hy|rfl:=ao.mp hx;rw[l,aS,D.pw ys hy]
  lia
 ·obtain ys|hy|rfl:=ao.mp hx;rw[l,aS,D.lw ys hy]
  lia
theorem JQ (h:uN rows):uN (dw m rows):=λxs hx x Y6=>by
 obtain ys|hy|rfl:=ao.mp hx;show h ys hy x (bL Y6)
theorem Qd (h:uN rows):uN (rows.18 m):=λxs hx=>h xs (bL hx)
inductive KH (K:Y2) (vs:List V) (H:Hp) (Q:VK) (E9:XK):Prop
 | mk (p:Addr) (m:Nat) (H0:Hp) (rows:Y3):vs=[.ref p,.int m]->bw K H0 H p rows->rows.9<=100->(∀xs∈rows,m<=xs.9)->(∀r H',H r=none->aL H H'->bw K H H' r (dw m rows)->Q (.ref r) H')->KH K vs H Q E9
structure Xt (K:Y2) (H0 H1 H:Hp) (C x l:Addr) (w m:Nat) (mv pt lk rows inv:Y3):Prop where
 S:jR K H0 H C x mv pt lk
 D:cS mv pt lk
 G:bw K H1 H l rows
 hR:sG rows mv.9
 sw:xH (oW (aK rows mv.9) (cE mv.9)) (mv.9+mv.9) w
 iv:∀R ps,aG (oW (aK rows mv.9) (cE mv.9)) (mv.9+mv.9) R ps->ps=W0 mv.9/\R.11 (λxs=>xs.40 mv.9)=inv
 hi:sG inv mv.9
 F:PV mv pt lk rows inv
 mn:m<=mv.9
inductive Ky (K:Y2) (C:Addr) (vs:List V) (H:Hp) (Q:VK) (E9:XK):Prop
 | mk (x t l:Addr) (w m:Nat) (H0 H1:Hp) (mv pt lk rows inv:Y3):vs=[.ref x,.ref t]->H t=some (.tup [.ref l,.int m])->Xt K H0 H1 H C x l w m mv pt lk rows inv->(∀z H',aL H H'->jR K H H' C z (dw m ((og inv mv rows mv.9).18 m)) (dw m (oO inv pt)) (dw m (lk.11 λxs=>rows.11 λr=>bT r xs))->Q (.ref z) H')->Ky K C vs H Q E9
section
variable {M P L rows:Y3} {pus:Y3} {cc pu xs:List Rat} {m n:Nat}
theorem o5 {l:List Rat} (h:i < m):(l.18 m).3 i 0=l.3 i 0:=by
 rw[aa,fK h,<- aa]
theorem zZ (hj:j < m):aZ (dw m rows) i j=aZ rows i j:=by
 unfold dw aZ;rw[aa (l:=XT _ rows),az,aa (l:=rows)];cases rows[i]? with
 | none=>rfl
 | some ys=>show o5 hj
theorem v8 (hi:i < m):aZ (rows.18 m) i j=aZ rows i j:=by
 unfold aZ;rw[aa (l:=List.take m rows),fK hi,<- aa]
theorem Kg (h:m<=n) (h0:∀j,m<=j->j < n->f j=0):aR n f=aR m f:=by
 obtain d|rfl:=jF h;rw[ot,bU λt ht=>h0 (m+t) () (),jW]
theorem MF (D:cS M P L) (hm:m<=M.9) (lc:cc.9=M.9) (lu:pu.9=P.9) (h:∀i,i < m->∀j,m<=j->j < M.9->aZ M i j*cc.3 j 0=0):jb (dw m (M.18 m)) (dw m P) (cc.18 m) pu=(jb M P cc pu).18 m:=by
 have l:(dw m (M.18 m)).9=m:=by unfold dw;rw[af,aS];lia
 have lP:(dw m P).9=P.9:=by unfold dw;rw[af]
 refine uu (n:=m) (by rw[yD,l]) (by rw[aS,yD];lia) λi hi=>?_
 rw[o5 hi,uj (qD D hm) (by rw[l,aS];lia) (by rw[lP];show lu) (by rw[l];show hi),uj D lc lu (),l,lP,Kg hm λj h1 h2=>h i hi j h1 h2];rw[ar (g:=λj=>aZ M i j*cc.3 j 0) λj hj=>by rw[zZ hj,v8 hi,o5 hj],ar (k:=P.9) (g:=λk=>pu.3 k 0*aZ P k i) λk _=>by rw[zZ hi]]
theorem vW (D:cS M P L) (hm:m<=M.9) (wp:∀xs∈pus,xs.9=P.9) (h:∀k,k<=pus.9->∀i,i < m->∀j,m<=j->j < M.9->aZ M i j*(nH M P (K0 M.9 0) pus k).3 j 0=0):∀k,k<=pus.9->nH (dw m (M.18 m)) (dw m P) (K0 m 0) pus k=(nH M P (K0 M.9 0) pus k).18 m
 | 0,_=>by
  rw[tj,tj,List.take_replicate];congr 1
  lia
 | k+1,hk=>by
  have e:pus[k]?=some pus[k]:=ae ();rw[mR e,mR e,vW D hm wp h k ()];show MF D hm (nG bB ()) (wp _ (aB _)) (h k ())
theorem RY (lx:xs.9=n) (lc:cc.9=n) (hm:m<=n) (h:∀j,m<=j->j < n->xs.3 j 0*cc.3 j 0=0):bT (xs.18 m) (cc.18 m)=bT xs cc:=by
 rw[bZ (by rw[aS,aS];lia),bZ (),aS,lx,show min m n=m by lia,Kg hm h];show ar λj hj=>by rw[o5 hj,o5 hj]
theorem xT (D:cS M P L) (hm:m<=M.9) (wp:∀xs∈pus,xs.9=P.9) (bM:∀xs∈M.40 m,xs.18 m=K0 m 0) (bP:∀xs∈P,xs.40 m=K0 (M.9 - m) 0):∀k,k<=pus.9->∀j,m<=j->j < M.9->(nH M P (K0 M.9 0) pus k).3 j 0=0
 | 0,_,j,_,h2=>by
  rw[tj,aa,dI,if_pos h2];rfl
 | k+1,hk,j,h1,h2=>by
  have e:pus[k]?=some pus[k]:=ae ();rw[mR e,uj D (nG bB ()) (wp _ (aB _)) h2]
  have z1:(aR M.9 λi=>aZ M j i*(nH M P (K0 M.9 0) pus k).3 i 0)=0:=bU λi hi=>by
   rcases be i m with q | q
   ·have hb:=bM (M[j]) (by rw[List.mem_iff_getElem];show #[j - m,by rw[zo];lia,by rw[LJ];congr 1;lia])
    have:aZ M j i=0:=by
     rw[dO (ae h2),<- o5 (m:=m) q,hb,aa,dI,if_pos q];rfl
    rw[this,c8]
   ·rw[xT D hm wp bM bP k () i q hi,br]
  have z2:(aR P.9 λl=>(pus[k]).3 l 0*aZ P l j)=0:=bU λl hl=>by
   have hb:=bP (P[l]) (aB _)
   have:aZ P l j=0:=by
    rw[dO (ae hl),aa];have e9:P[l][j]?=(P[l].40 m)[j - m]?:=by rw[List.getElem?_drop,show m+(j - m)=j by lia]
    rw[e9,hb,dI,if_pos ()];rfl
   rw[this,br]
  rw[z1,z2,jW]
end
def MY (mv pt lk pus:Y3) (i:Nat):Y3:=(W0 i).11 λk=>lk.11 λxs=>bT xs (nH mv pt (K0 mv.9 0) pus (k+1))
theorem Rn:MY mv pt lk pus (i+1)=MY mv pt lk pus i++[lk.11 λxs=>bT xs (nH mv pt (K0 mv.9 0) pus (i+1))]:=by
 unfold MY;rw[ky,bo];rfl
inductive KD (K:Y2) (vs:List V) (H:Hp) (Q:VK) (E9:XK):Prop
 | mk (r p:Addr) (H0 H1:Hp) (mv pt lk pus:Y3):vs=[.ref r,.ref p]->eV K H0 H r mv pt lk->cS mv pt lk->bw K H1 H p pus->pus.9<=100->(∀xs∈pus,xs.9=pt.9)->(∀k pu,pus[k]?=some pu->PK mv pt (nH mv pt (K0 mv.9 0) pus k) pu)->(∀k,k<=pus.9->∀ys∈lk,oZ ys (nH mv pt (K0 mv.9 0) pus k))->(∀q H',H q=none->aL H H'->bw K H H' q (MY mv pt lk pus pus.9)->Q (.ref q) H')->KD K vs H Q E9
inductive Kq (K:Y2) (C:Addr) (vs:List V) (H:Hp) (Q:VK) (E9:XK):Prop
 | mk (x:Addr) (a c:Nat) (H0:Hp) (mv pt lk:Y3):vs=[.ref x]->jR K H0 H C x mv pt lk->cS mv pt lk->iU mv pt a c->(∀R ps,aG (Y4 mv pt mv.9) mv.9 R ps->PV mv pt lk (j5 R ps mv.9) (stC R ps mv.9)/\∃w,xH (oW (aK (j5 R ps mv.9) mv.9) (cE mv.9)) (mv.9+mv.9) w)->(∀z R ps H',aG (Y4 mv pt mv.9) mv.9 R ps->aL H H'->jR K H H' C z (dw ps.9 ((og (stC R ps mv.9) mv (j5 R ps mv.9) mv.9).18 ps.9)) (dw ps.9 (oO (stC R ps mv.9) pt)) (dw ps.9 (lk.11 λxs=>(j5 R ps mv.9).11 λr=>bT r xs))->Q (.ref z) H')->Kq K C vs H Q E9
theorem UG {st pu:List Rat} (D:cS mv pt lk) (hr:∀l:List Rat,(∀y∈l,(∃xs∈mv,y∈xs)\/(∃xs∈pt,y∈xs)\/y=0)->mV k1 j1 l) (hs:mV k2 j2 (st++pu)) (sz:(k1+k2)+(j1+j2)+4<=15720000):PK mv pt st pu:=by
 have n8:=D.n8;have i4:=D.i4;obtain N|W|N0|N1|W1|fs:=hs;refine #[λxs hx=>#[k1,j1,k2,j2,hr xs λy hy=>.inl #[xs,hx,hy],#[N,W,N0,N1,W1,λx hx=>fs x (cT _ hx)],()],λkk x hx=>?_,λu hu=>so N0 N1 W1 () (fs u (aX _ hu)),λrow aaX y hy=>?_,λu hu row aaX y hy=>?_]
 ·unfold nextK at hx;obtain i|hi|rfl:=aH hx;rw[cQ,aU] at hi;rw[lH];have m1:mv[i]∈mv:=aB _;have m2:(aK pt mv.9)[i]'(by rw[aU];lia)∈aK pt mv.9:=aB _;generalize mv[i]=line at m1 ⊢;generalize (aK pt mv.9)[i]'(by rw[aU];lia)=col at m2 ⊢;have lc:=eJ col m2;have ll:=D.mw line m1
  obtain M|V9|M0|M1|V1|fl:=hr (line++col.18 kk) λy hy=>by
   rcases aA.mp hy with hy | hy
   ·show .inl #[line,m1,hy]
   ·have hy:=bL hy;obtain j|_|rfl:=ao.mp m2;obtain xs|hx|rfl:=ao.mp hy;rw[aa];cases e:xs[j]? with
    | none=>show .inr (.inr rfl)
    | some w=>show .inr (.inl #[xs,hx,av e])
  have d:=Fr.dot fl (ys:=st++pu.18 kk) (N:=N) (W:=W) λy hy=>by
   rcases aA.mp hy with hy | hy
   ·show fs y (cT _ hy)
   ·show fs y (aX _ (bL hy))
  have l12:(line++col.18 kk).9<=2^4:=by
   rw[ax,aS,ll,lc]
   lia
  show so (bx M0 N0) (sT M1 N1 (aj _)) (sT l12 (sT V1 W1 (aj _)) (aj _)) () d
 ·obtain M|V9|M0|M1|V1|fl:=hr [y] λy' h=>by rw[bX.mp h];show .inr (.inl #[row,aaX,hy])
  show so M0 M1 V1 () (fl y (bX.mpr rfl))
 ·obtain M|V9|M0|M1|V1|fl:=hr [y] λy' h=>by rw[bX.mp h];show .inr (.inl #[row,aaX,hy])
  show so (bx N0 M0) (sT N1 M1 (aj _)) (sT W1 V1 (aj _)) () ((fs u (aX _ hu)).mul (fl y (bX.mpr rfl)))
section
variable {mv pt lk rows inv pus R U:Y3} {ps pu:List Nat} {M1 M2 V a1 a2 c q E:Nat}
theorem yI (o2:xE (aK rows mv.9) inv mv.9) (hi:sG inv mv.9) (hr:sG rows mv.9) (D:cS mv pt lk) (wp:∀xs∈pus,xs.9=pt.9):∀k,k<=pus.9->KN (nH (og inv mv rows mv.9) (oO inv pt) (K0 mv.9 0) pus k) rows mv.9=nH mv pt (K0 mv.9 0) pus k
 | 0,_=>by
  rw[tj,tj];refine uu (n:=mv.9) DD bB λi h=>?_
  rw[F5 h,bU λk hk=>by rw[aa,dI,if_pos hk];show c8 _,aa,dI,if_pos h];rfl
 | k+1,hk=>by
  have e:pus[k]?=some pus[k]:=ae ();have lM:=fJ (mv:=mv) (rows:=rows) hi;rw[mR e,mR e,<- yI o2 hi hr D wp k ()];show OU o2 hi hr D rfl (oa D hi hr) (by rw[nG (by rw[lM];show bB) (),lM]) (wp _ (aB _))
theorem OT (o1:xE inv (aK rows mv.9) mv.9) (o2:xE (aK rows mv.9) inv mv.9) (hi:sG inv mv.9) (hr:sG rows mv.9) (D:cS mv pt lk) (wp:∀xs∈pus,xs.9=pt.9) (hk:k<=pus.9) (_M:i < mv.9):(nH (og inv mv rows mv.9) (oO inv pt) (K0 mv.9 0) pus k).3 i 0=aR mv.9 λa=>aZ inv i a*(nH mv pt (K0 mv.9 0) pus k).3 a 0:=by
 have lM:=fJ (mv:=mv) (rows:=rows) hi;rw[<- yI o2 hi hr D wp k hk];show (TV o1 _M (by rw[nG (by rw[lM];show bB) hk,lM])).19
theorem NA (D:cS mv pt lk) (RR:aG rows0 mv.9 R ps) (wp:∀xs∈pus,xs.9=pt.9) (hk:k<=pus.9) (hi:i < ps.9):(nH (og (stC R ps mv.9) mv (j5 R ps mv.9) mv.9) (oO (stC R ps mv.9) pt) (K0 mv.9 0) pus k).3 i 0=(nH mv pt (K0 mv.9 0) pus k).3 (ps.3 i 0) 0:=by
 have le:=RR.le;have lo:=RR.2.2.56 i hi;rw[OT (NB RR) (Kh RR) (jm RR) (kB RR) D wp hk (),cF lo λa ha ne=>by rw[we hi ha,if_neg ne,c8],we hi lo,if_pos rfl,fL]
theorem NC (wm:∀xs∈mv,xs.9=mv.9) (RR:aG rows0 mv.9 R ps) (hi:i < ps.9) (hj:j < ps.9):aZ (og (stC R ps mv.9) mv (j5 R ps mv.9) mv.9) i j=aR mv.9 λc=>aZ mv (ps.3 i 0) c*aZ R j c:=by
 have le:=RR.le;have lo:=RR.2.2.56 i hi;rw[A3 (jm RR) #[rfl,wm] () ()];refine ar λc hc=>?_
 rw[CA RR hj,cF lo λa ha ne=>by rw[we hi ha,if_neg ne,c8],we hi lo,if_pos rfl,fL]
theorem NR (wm:∀xs∈mv,xs.9=mv.9) (RN:aG rows0 mv.9 U pu) (hi:i < (cW pu mv.9).9) (hj:j < (cW pu mv.9).9):aZ (og (vw U pu mv.9) mv (o7 U pu mv.9) mv.9) i j=aR mv.9 λa=>(nM U pu mv.9 ((cW pu mv.9).3 i 0)).3 a 0*aZ mv a ((cW pu mv.9).3 j 0):=by
 have cn:=kZ RN;have lo:=(oQ hj).1;rw[A3 (kD RN) #[rfl,wm] () (),cF lo λc hc ne=>by rw[KO RN hj,Cz RN hj hc,if_neg ne,br],KO RN hj,Cz RN hj lo,if_pos rfl,fb];show ar λa ha=>by rw[CO hi,yZ hi]
theorem TY (D:cS mv pt lk) (RN:aG rows0 mv.9 U pu) (wp:∀xs∈pus,xs.9=pt.9) (hk:k<=pus.9) (hi:i < (cW pu mv.9).9):(nH (og (vw U pu mv.9) mv (o7 U pu mv.9) mv.9) (oO (vw U pu mv.9) pt) (K0 mv.9 0) pus k).3 i 0=aR mv.9 λa=>(nM U pu mv.9 ((cW pu mv.9).3 i 0)).3 a 0*(nH mv pt (K0 mv.9 0) pus k).3 a 0:=by
 have cn:=kZ RN;rw[OT (SS RN) (NQ RN) (kD RN) (uH RN) D wp hk ()];show ar λa ha=>by rw[CO hi,yZ hi]
end
section
variable {M1 M2 V a1 a2 c q E m:Nat}
theorem qE (hx:xs∈dw m rows) (hy:y∈xs):∃i j,i < rows.9/\j < m/\y=aZ rows i j:=by
 obtain ys|hz|rfl:=ao.mp hx;obtain i|hi|rfl:=aH hz;obtain j|hj|rfl:=aH hy;have ZA:=hj;rw[aS] at ZA;show #[i,j,hi,(),by rw[dO (ae hi),xG,aa,ae ()];rfl]
theorem zJ._z (z:zJ mv pt lk R M1 M2 V a1 a2 c q E) (D:cS mv pt lk) (RR:aG rows0 mv.9 R ps) (hl:∀y∈l,(∃xs∈dw ps.9 ((og (stC R ps mv.9) mv (j5 R ps mv.9) mv.9).18 ps.9),y∈xs)\/(∃xs∈dw ps.9 (oO (stC R ps mv.9) pt),y∈xs)\/y=0):mV (a1+E+a2) (c+E) l:=by
 have le:=RR.le;have gR:GF q (2^E) R:=λxs hx x Y6=>(z.rt xs hx x Y6).fr z.q0
 have vE:mv.9*(V*2^E)<=2^(c+E):=by
  rw[<- cb,aV];show au _ (ai (au _ (gW _ 4)) z.B.vc)
 refine #[M1*q*M2,2^(c+E),bx (bx z.B.m1 z.q0) z.B.m2,sT (sT z.B.b1 z.q1 (aj _)) z.B.b2 (aj _),aj _,λy hy=>?_];rcases hl y hy with ⟨xs,h1,h2⟩ | ⟨xs,h1,h2⟩ | rfl
 ·obtain i|j|hi|hj|rfl:=qE h1 h2;rw[aS] at hi;rw[v8 (),NC D.mw RR () hj];show ((wa (M:=M1*q) (V:=V*2^E) mv.9 λc _=>(A6 z.B.gm).mul (A6 gR)).22 vE).dvd (pL _ _)
 ·obtain i|j|hi|hj|rfl:=qE h1 h2;unfold oO at hi;rw[af] at hi;have lo:=RR.2.2.56 j hj;rw[Jx (jm RR) D.pw hi (),cF lo λa ha ne=>by rw[we hj ha,if_neg ne,c8],we hj lo,if_pos rfl,fL];show ((A6 z.B.gp).22 (ai z.B.v1 (ak () ()))).dvd (dC _ _)
 ·show Fr.zero
end
structure U8 (mv pt lk rows inv pus:Y3) (m w:Nat):Prop where
 hR:sG rows mv.9
 sw:xH (oW (aK rows mv.9) (cE mv.9)) (mv.9+mv.9) w
 iv:∀R ps,aG (oW (aK rows mv.9) (cE mv.9)) (mv.9+mv.9) R ps->ps=W0 mv.9/\R.11 (λxs=>xs.40 mv.9)=inv
 hi:sG inv mv.9
 F:PV mv pt lk rows inv
 mn:m<=mv.9
 nx:∀k pu,pus[k]?=some pu->PK (dw m ((og inv mv rows mv.9).18 m)) (dw m (oO inv pt)) (nH (dw m ((og inv mv rows mv.9).18 m)) (dw m (oO inv pt)) (K0 m 0) pus k) pu
 lf:∀k,k<=pus.9->∀ys∈dw m (lk.11 λxs=>rows.11 λr=>bT r xs),oZ ys (nH (dw m ((og inv mv rows mv.9).18 m)) (dw m (oO inv pt)) (K0 m 0) pus k)
 lo:MY (dw m ((og inv mv rows mv.9).18 m)) (dw m (oO inv pt)) (dw m (lk.11 λxs=>rows.11 λr=>bT r xs)) pus pus.9=MY mv pt lk pus pus.9
def Vn (mv pt pus:Y3) (e:Nat):Prop:=∀k,k<=pus.9->∃N ν W:Nat,0 < N/\N<=2^ν/\ν+W<=e/\∀x,x∈nH mv pt (K0 mv.9 0) pus k\/(∃pu∈pus,x∈pu)->Fr N (2^W) x
section
variable {mv pt lk R U pus rows inv:Y3} {ps pu:List Nat} {M1 M2 V a1 a2 c q E m e w T b Np:Nat}
theorem uy (hi:sG inv mv.9) (h:m<=mv.9):(dw m ((og inv mv rows mv.9).18 m)).9=m:=by
 unfold dw;rw[af,aS,fJ hi]
 lia
theorem G9 {xs:List Rat} (h:xs.40 m=K0 n 0) (h1:m<=j):xs.3 j 0=0:=by
 rw[aa,show xs[j]?=(xs.40 m)[j - m]? by rw[List.getElem?_drop,show m+(j - m)=j by lia],h,dI]
 split <;> rfl
theorem OF {xs:List Rat} (h:x∈xs):∃i,i < xs.9/\x=xs.3 i 0:=by
 obtain i|hi|rfl:=aH h;show #[i,hi,by rw[aa,ae hi];rfl]
theorem Lk {xs:List Rat}:xs.3 i 0∈xs\/xs.3 i 0=0:=by
 rw[aa];cases h:xs[i]? with
 | none=>show .inr rfl
 | some z=>show .inl (av h)
theorem KS (D:cS mv pt lk) (hR:sG rows mv.9) (hi:sG inv mv.9) (sw:xH (oW (aK rows mv.9) (cE mv.9)) (mv.9+mv.9) w) (iv:∀R ps,aG (oW (aK rows mv.9) (cE mv.9)) (mv.9+mv.9) R ps->ps=W0 mv.9/\R.11 (λxs=>xs.40 mv.9)=inv) (F:PV mv pt lk rows inv) (mn:m<=mv.9) (o2:xE (aK rows mv.9) inv mv.9) (wp:∀xs∈pus,xs.9=pt.9)
  (hz:∀k,k<=pus.9->∀i,i < m->∀j,m<=j->j < mv.9->aZ (og inv mv rows mv.9) i j*(nH (og inv mv rows mv.9) (oO inv pt) (K0 mv.9 0) pus k).3 j 0=0)
  (hy:∀k,k<=pus.9->∀ys∈lk.11 (λxs=>rows.11 λr=>bT r xs),∀j,m<=j->j < mv.9->ys.3 j 0*(nH (og inv mv rows mv.9) (oO inv pt) (K0 mv.9 0) pus k).3 j 0=0)
  (ln:∀l:List Rat,(∀y∈l,(∃xs∈dw m ((og inv mv rows mv.9).18 m),y∈xs)\/(∃xs∈dw m (oO inv pt),y∈xs)\/y=0)->mV k1 j1 l)
  (ll:∀xs∈dw m (lk.11 λxs=>rows.11 λr=>bT r xs),mV k3 j3 xs)
  (ss:∀k,k<=pus.9->∃k2 j2,(k1+k2)+(j1+j2)+4<=15720000/\(k3+k2)+(j3+j2)<=15720000/\∀l:List Rat,(∀x∈l,(∃i,i < m/\x=(nH (og inv mv rows mv.9) (oO inv pt) (K0 mv.9 0) pus k).3 i 0)\/∃pu∈pus,x∈pu)->mV k2 j2 l):U8 mv pt lk rows inv pus m w:=by
 have lM:=fJ (mv:=mv) (rows:=rows) hi;have D':=oa D hi hR;have lP:(oO inv pt).9=pt.9:=af ..;have _v:∀xs∈pus,xs.9=(oO inv pt).9:=λxs hx=>by rw[lP];show wp xs hx
 have C:=vW D' (m:=m) (pus:=pus) () _v (by rw[lM];show hz);rw[lM] at C
 have lS:∀k,k<=pus.9->(nH (og inv mv rows mv.9) (oO inv pt) (K0 mv.9 0) pus k).9=mv.9:=λk hk=>by
  rw[nG (by rw[lM];show bB) hk,lM]
 have inS:∀k,k<=pus.9->∀x∈(nH (og inv mv rows mv.9) (oO inv pt) (K0 mv.9 0) pus k).18 m,∃i,i < m/\x=(nH (og inv mv rows mv.9) (oO inv pt) (K0 mv.9 0) pus k).3 i 0:=λk hk x hx=>by
  obtain i|h1|rfl:=OF hx;rw[aS] at h1;show #[i,(),o5 ()]
 refine #[hR,sw,iv,hi,F,mn,λk pu J!=>?_,λk hk ys hys=>?_,?_]
 ·have hk:=(aI.mp J!).1;obtain k2|j2|sz|_|f:=ss k ();rw[C k ()]
  show UG (qD D' ()) ln (f _ λx hx=>by
   rcases aA.mp hx with hx | hx
   ·show .inl (inS k () x hx)
   ·show .inr #[pu,av J!,hx]) sz
 ·obtain k2|j2|_|sz|f:=ss k hk;rw[C k hk];show #[_,_,_,_,ll ys hys,f _ λx hx=>.inl (inS k hk x hx),sz]
 ·unfold MY;refine bV λk hk=>?_
  have hk:=pN.mp hk;rw[uy hi mn,C (k+1) (),<- yI o2 hi hR D wp (k+1) ()];unfold dw;rw[b7,b7];refine bV λxs hx=>?_
  have e:=RY (m:=m) (xs:=rows.11 λr=>bT r xs) (n:=mv.9) (by rw[af,hR.1]) (lS (k+1) ()) mn (hy (k+1) () _ (ao.mpr #[xs,hx,rfl]));refine X3 e ?_;show Ry hR (D.lw xs hx) (lS (k+1) ())
theorem Oy (z:zJ mv pt lk U M1 M2 V a1 a2 c q E) (RN:aG rows0 mv.9 U pu):Fr q (2^E) ((nM U pu mv.9 t).3 a 0):=by
 rcases Lk (xs:=nM U pu mv.9 t) (i:=a) with h | h
 ·show (Ox z.q0 z.q1 z.rt RN _ h).fr z.q0
 ·rw[h];show Fr.zero
theorem NF (h:∀x,x∈nH mv pt (K0 mv.9 0) pus k\/(∃pu∈pus,x∈pu)->Fr N (2^W) x):Fr N (2^W) ((nH mv pt (K0 mv.9 0) pus k).3 i 0):=by
 rcases Lk (xs:=nH mv pt (K0 mv.9 0) pus k) (i:=i) with z | z
 ·show h _ (.inl z)
 ·rw[z];show Fr.zero
theorem zJ.vE (z:zJ mv pt lk U M1 M2 V a1 a2 c q E):mv.9*(V*2^E)<=2^(c+E):=by
 rw[<- cb,aV];show au _ (ai (au _ (gW _ 4)) z.B.vc)
theorem zJ._A (z:zJ mv pt lk U M1 M2 V a1 a2 c q E) (D:cS mv pt lk) (RN:aG rows0 mv.9 U pu) (hl:∀y∈l,(∃xs∈dw (cW pu mv.9).9 ((og (vw U pu mv.9) mv (o7 U pu mv.9) mv.9).18 (cW pu mv.9).9),y∈xs)\/(∃xs∈dw (cW pu mv.9).9 (oO (vw U pu mv.9) pt),y∈xs)\/y=0):mV (a1+E+a2) (c+E) l:=by
 have cn:=kZ RN;have vE:=z.vE;refine #[M1*q*M2,2^(c+E),bx (bx z.B.m1 z.q0) z.B.m2,sT (sT z.B.b1 z.q1 (aj _)) z.B.b2 (aj _),aj _,λy hy=>?_];rcases hl y hy with ⟨xs,h1,h2⟩ | ⟨xs,h1,h2⟩ | rfl
 ·obtain i|j|hi|hj|rfl:=qE h1 h2;rw[aS] at hi;rw[v8 (),NR D.mw RN () hj];refine ((wa (M:=M1*q) (V:=V*2^E) mv.9 λa _=>?_).22 vE).dvd (pL _ _);rw[bC];show (A6 z.B.gm).mul (Oy z RN)
 ·obtain i|j|hi|hj|rfl:=qE h1 h2;unfold oO at hi;rw[af] at hi;rw[Jx (kD RN) D.pw hi ()];refine ((wa (M:=q*M2) (V:=V*2^E) mv.9 λa _=>?_).22 vE).dvd (by rw[cb];show dC _ _);rw[CO hj,yZ hj];have:=(Oy z RN (t:=(cW pu mv.9).3 j 0) (a:=a)).mul (A6 z.B.gp (i:=i) (j:=a));rwa [cB (2^E)] at this
 ·show Fr.zero
theorem QY (z:zJ mv pt lk R M1 M2 V a1 a2 c q E) (D:cS mv pt lk) (RR:aG (Y4 mv pt mv.9) mv.9 R ps) (RB:aG (pt++R.11 (gF mv)) mv.9 R ps) (S:Vn mv pt pus e) (wp:∀xs∈pus,xs.9=pt.9) (sz:4*E+a1+a2+c+e+7<=15560000) (e1:e<=1500) (E9:E<=100000):U8 mv pt lk (j5 R ps mv.9) (stC R ps mv.9) pus ps.9 E:=by
 have n8:=D.n8;have hB:=kB RR;have hC:=jm RR;have lM:=fJ (mv:=mv) (rows:=j5 R ps mv.9) hC;have bh:=xT (oa D hC hB) (m:=ps.9) (pus:=pus) (by rw[lM];show RR.le) (λxs hx=>by unfold oO;rw[af];show wp xs hx) (Kk D.mw RR RB) (by rw[lM];show Kj D.pw RR RB);rw[lM] at bh;obtain M3|V3|l0|l1|l2|lg:=z.lf;have gb:GF q (2^E) (j5 R ps mv.9):=λxs hx x Y6=>(z.tb xs hx x Y6).fr z.q0
 have iL:GF (q*M3) (2^(3+(E+100000))) (lk.11 λxs=>(j5 R ps mv.9).11 λr=>bT r xs):=jA (C2 gb lg hB.2) (sT (i:=3) () (sT (aj _) l2 (aj _)) (aj _));refine KS (k1:=a1+E+a2) (j1:=c+E) (k3:=E+100000) (j3:=3+(E+100000)) D hB hC (z.sw n8 RR) (λR9 ps9 h9=>ND RR h9) (z.A! n8 RR) RR.le (Kh RR) wp (λk hk i hi j h1 h2=>by rw[bh k hk j h1 h2,br]) (λk hk ys hy j h1 h2=>by rw[bh k hk j h1 h2,br]) (λl hl=>z._z D RR hl) (λxs hx=>?_) λk hk=>?_
 ·obtain ys|hy|rfl:=ao.mp hx;show #[_,_,bx z.q0 l0,sT z.q1 l1 (aj _),aj _,λx Y6=>iL ys hy x (bL Y6)]
 ·obtain N|ν|W|N0|N1|sW|f:=S k hk;refine #[ν,W,(),(),λl hl=>#[N,2^W,N0,N1,aj _,λx hx=>?_]];rcases hl x hx with ⟨i,hi,rfl⟩ | h
  ·rw[NA D RR wp hk hi];show NF f
  ·show f x (.inr h)
theorem QZ (z:zJ mv pt lk U M1 M2 V a1 a2 c q E) (D:cS mv pt lk) (RR:aG (Y4 (aK mv mv.9) lk mv.9) mv.9 R ps) (RB:aG (lk++R.11 (gF (aK mv mv.9))) mv.9 R ps) (RN:aG (aO R ps mv.9) mv.9 U pu) (S:Vn mv pt pus e) (wp:∀xs∈pus,xs.9=pt.9) (sz:4*E+a1+a2+c+e+7<=15560000) (e1:e<=1500) (E9:E<=100000):U8 mv pt lk (o7 U pu mv.9) (vw U pu mv.9) pus (cW pu mv.9).9 E:=by
 have n8:=D.n8;have hB:=uH RN;have hC:=kD RN;have cn:=kZ RN;have lM:=fJ (mv:=mv) (rows:=o7 U pu mv.9) hC;have lM':=fJ (mv:=mv) (rows:=o7 U pu mv.9) hC;have tb:∀xs∈o7 U pu mv.9,∀x∈xs,Tp q (2^E) x:=λxs hx=>z.tb xs (DH.mp hx)
 obtain FT|SW:=Ws z n8 hB hC tb λxs hx=>z.tc RN xs (DG.mp hx)
 obtain M3|V3|l0|l1|l2|lg:=z.lf;refine KS (k1:=a1+E+a2) (j1:=c+E) (k3:=100000) (j3:=100000) D hB hC SW (λR9 ps9 h9=>NS RN h9) FT () (NQ RN) wp (λk hk i hi j h1 h2=>?_) (λk hk ys hy j h1 h2=>?_) (λl hl=>z._A D RN hl) (λxs hx=>?_) λk hk=>?_
 ·have hm:(og (vw U pu mv.9) mv (o7 U pu mv.9) mv.9)[i]'()∈(og (vw U pu mv.9) mv (o7 U pu mv.9) mv.9).18 (cW pu mv.9).9:=by
   rw[List.mem_iff_getElem];show #[i,by rw[aS];lia,by rw[xG]]
  rw[dO (ae ()),G9 (Qp D.mw RR RB RN _ hm) h1,c8]
 ·rw[G9 (Qq D.lw RB RN ys hy) h1,c8]
 ·refine #[M3,V3,l0,l1,l2,λx Y6=>?_];obtain i|j|hi|hj|rfl:=qE hx Y6;rw[af] at hi;have lo:=(oQ hj).1
  have ej:(o7 U pu mv.9)[j]?=some (ie mv.9 (((cW pu mv.9).3 j 0:Nat):Int)):=by
   unfold o7;rw[cw (by rw[af];show hj),az,ae hj,aa,ae hj];rfl
  rw[qC (ae hi),zV ej,bZ (by rw[gH,D.lw _ (aB hi)]),gH,cF lo λc hc ne=>by rw[ox hc,if_neg ne,c8],ox lo,if_pos rfl,fL];rcases Lk (xs:=lk[i]) (i:=(cW pu mv.9).3 j 0) with h | h
  ·show lg _ (aB hi) _ h
  ·rw[h];show Fr.zero
 ·obtain N|ν|W|N0|N1|sW|f:=S k hk;refine #[E+ν,3+(E+W),(),(),λl hl=>#[q*N,2^(3+(E+W)),bx z.q0 N0,sT z.q1 N1 (aj _),aj _,λx hx=>?_]];rcases hl x hx with ⟨i,hi,rfl⟩ | h
  ·rw[TY D RN wp hk hi];show (wa (M:=q*N) (V:=2^E*2^W) mv.9 λa _=>(Oy z RN).mul (NF f)).22 (sT (i:=3) () (by rw[<- aV];show aj _) (aj _))
  ·show ((f x (.inr h)).dvd (dC _ _)).22 (ak () ())
theorem Av (B:Bd mv pt M1 M2 V a1 a2 c) (D:cS mv pt lk) (wp:∀xs∈pus,xs.9=pt.9) (p0:0 < Np) (p1:Np<=2^b) (hu:∀xs∈pus,∀x∈xs,Fr Np (2^22) x) (hT:pus.9<=T) (sz:a1*(T+1)+(a2+b)+c*(T+1)+22<=1500):Vn mv pt pus (a1*T+(a2+b)+c*T+22)/\∀k pu,pus[k]?=some pu->PK mv pt (nH mv pt (K0 mv.9 0) pus k) pu:=by
 have t1:a1*(pus.9+1)<=a1*(T+1):=aP _ ();have t2:c*(pus.9+1)<=c*(T+1):=aP _ ();have t3:c<=c*(T+1):=dH _ ();have N0:0 < M2*Np:=bx B.m2 p0;have N1:M2*Np<=2^(a2+b):=sT B.b2 p1 (aj _);have X:=B.states D (st:=K0 mv.9 0) (pus:=pus) (p:=22) bB wp N0 N1 (Nat.dvd_refl _) (λx hx=>by rw[List.eq_of_mem_replicate hx];show Fr.zero) hu () ();refine #[λk hk=>#[M1^k*(M2*Np),a1*k+(a2+b),c*k+22,bx (jS B.m1) N0,qq B.b1 N1,?_,λx hx=>?_],λk pu J!=>(X k (c6 (aI.mp J!).1)).2 pu J!]
 ·have:=aP a1 (show k<=T by lia);have:=aP c (show k<=T by lia)
  lia
 ·rcases hx with hx | ⟨xs,h1,h2⟩
  ·show (X k hk).1 x hx
  ·show ((hu xs h1 x h2).dvd (xK (dC _ _) (dC _ _))).22 (ak () ())
structure WE (mv pt pus:Y3) (w M1 M2 V a1 a2 c e:Nat):Prop where
 B:Bd mv pt M1 M2 V a1 a2 c
 S:Vn mv pt pus e
 nx:∀k pu,pus[k]?=some pu->PK mv pt (nH mv pt (K0 mv.9 0) pus k) pu
 e0:30<=e
 e1:e<=1500
 sz:∀E,E<=928->(mv.9<=5->E<=720)->(9 < w->E<=620)->4*E+a1+a2+c+e+7<=15560000
theorem U0 (h:Rg mv pt w) (D:cS mv pt lk) (ST:Xn mv pt T) (lp:pus.9=2+T) (wp:∀xs∈pus,xs.9=pt.9/\∀x∈xs,Dr (max w 6) x):∃M1 M2 V a1 a2 c e,WE mv pt pus w M1 M2 V a1 a2 c e:=by
 have i4:=D.i4;have T12:=ST.1;have _v:∀xs∈pus,xs.9=pt.9:=λxs hx=>(wp xs hx).1
 have small:w<=9->∀xs∈pus,∀x∈xs,Fr 2520 (2^22) x:=λw9 xs hx x Y6=>(Pg #[ai ((wp xs hx).2 x Y6).1 (),ai ((wp xs hx).2 x Y6).2 ()] (Nat.dvd_refl _)).22 ()
 rcases h with ⟨w9,X⟩ | ⟨w9,n5,X⟩ | ⟨w9,n2,M1,M2,X⟩
 ·by_cases n5:mv.9<=5
  ·obtain S|nx:=Av (T:=14) (b:=12) X D _v () () (small w9) () ();show #[_,_,_,_,_,_,_,X,S,nx,(),(),λE h1 h2 h3=>by have:=h2 n5;lia]
  ·have T8:T<=8:=by
    have:=D.n8;rcases ST.2 with h | h
    ·lia
    ·have:=h.2.1 ()
     lia
   obtain S|nx:=Av (T:=10) (b:=12) X D _v () () (small w9) () ();show #[_,_,_,_,_,_,_,X,S,nx,(),(),λE h1 h2 h3=>()]
 ·obtain S|nx:=Av (T:=14) (b:=12) X D _v () () (small w9) () ();show #[_,_,_,_,_,_,_,X,S,nx,(),(),λE h1 h2 h3=>by have:=h2 n5;lia]
 ·obtain B|b0|b1|b2:=Mt (c:=10) (l:=pus.flatten) (λx hx=>by
   obtain xs|h1|h2:=gX.mp hx;have:=(wp xs h1).2 x h2;show #[ai this.1 (by rw[w9];decide),ai this.2 (by rw[w9];decide)]) ()
  rw[G7 _v,lp] at b1;have hu:∀xs∈pus,∀x∈xs,Fr B (2^22) x:=λxs h1 x h2=>b2 x (gX.mpr #[xs,h1,h2])
  by_cases T3:T<=3
  ·have m:(2+T)*pt.9<=5*4:=aE () i4;obtain S|nx:=Av (T:=5) (b:=202) X D _v b0 (ai b1 (ak () ())) hu () ();show #[_,_,_,_,_,_,_,X,S,nx,(),(),λE h1 h2 h3=>by have:=h3 ();lia]
  ·obtain ⟨_,z | ⟨hd,_⟩⟩:=ST
   ·show absurd z T3
   have m:(2+T)*pt.9<=14*4:=aE () i4
   have gf:∀l:Y3,(∀xs∈l,xs∈mv++pt)->GF 2520 1000 l:=λl hl xs hx x Y6=>by
    have:=hd xs (hl xs hx) x Y6;show (Fr.own x (c6 this.2)).dvd (Lp this.1)
   have X2:Bd mv pt 2520 2520 1000 12 12 13:=#[(),(),(),(),gf mv λxs hx=>aA.mpr (.inl hx),gf pt λxs hx=>aA.mpr (.inr hx),ai (au _ (show mv.9+4<=6 by lia)) ()];obtain S|nx:=Av (T:=14) (b:=562) X2 D _v b0 (ai b1 (ak () ())) hu () ();show #[_,_,_,_,_,_,_,X2,S,nx,(),(),λE h1 h2 h3=>by have:=h3 ();lia]
def Q74 (n w:Nat) (U:Y3) (q E:Nat):Prop:=0 < q/\q<=2^E/\E<=928/\(n<=5->E<=720)/\(9 < w->E<=620)/\∀xs∈U,∀x∈xs,Tp q (2^E) x
theorem Ut (h:Rg mv pt w) (D:cS mv pt lk) (F:IA mv pt lk) (RR:aG (Y4 mv pt mv.9) mv.9 R ps):∃q E,Q74 mv.9 w R q E:=by
 rcases h with ⟨_,B⟩ | ⟨_,n5,B⟩ | ⟨_,n2,M1,M2,B⟩
 ·by_cases n5:mv.9<=5
  ·obtain q|z:=nE (N:=5) (w:=70) (E:=370) B D F n5 () () () () () () () RR;show #[q,_,z.q0,z.q1,(),(),(),z.rt]
  ·obtain q|z:=nE (N:=8) (w:=112) (E:=928) B D F D.n8 () () () () () () () RR;show #[q,_,z.q0,z.q1,(),(),(),z.rt]
 ·obtain q|z:=nE (N:=5) (w:=140) (E:=720) B D F n5 () () () () () () () RR;show #[q,_,z.q0,z.q1,(),(),(),z.rt]
 ·obtain q|z:=nE (N:=2) (w:=306) (E:=620) B D F n2 () () () () () () () RR;show #[q,_,z.q0,z.q1,(),(),(),z.rt]
theorem WE.z (d:WE mv pt pus w M1 M2 V a1 a2 c e) (n8:mv.9<=8) (F:IA mv pt lk) (h:Q74 mv.9 w U q E):zJ mv pt lk U M1 M2 V a1 a2 c q E/\4*E+a1+a2+c+e+7<=15560000:=by
 obtain q0|q1|E1|E2|E3|t:=h;have s:=d.sz E E1 E2 E3;have e0:=d.e0;have e2:mv.9*(E+4)<=35600000:=ai (aE n8 (show E+4<=932 by lia)) ();show #[#[d.B,q0,q1,t,(),(),e2,let ⟨M,W,a,b,c,_,_,d⟩:=F;#[M,W,a,ai b (ak () ()),ai c (ak () ()),d]],s]
theorem WE.lf (d:WE mv pt pus w M1 M2 V a1 a2 c e) (F:IA mv pt lk) (hk:k<=pus.9):∀ys∈lk,oZ ys (nH mv pt (K0 mv.9 0) pus k):=λys hy=>by
 obtain M|W|m0|m1|w1|_|_|g:=F;obtain N|ν|W'|N0|N1|sW|f:=d.S k hk;have:=d.e1;show #[400,120,ν,W',#[M,W,m0,m1,w1,g ys hy],#[N,_,N0,N1,aj _,λx hx=>f x (.inl hx)],()]
end
theorem Pn:∀(n:Nat) (v:Nat->Nat->Rat),∃(k:Nat) (d:Nat->Rat),k<=n/\∀j,j < n->v k j=aR k λi=>d i*v i j
 | 0,_=>#[0,λ_=>0,aj _,λj hj=>absurd hj (fe _)]
 | n+1,v=>by
  by_cases h:∀j,j < n+1->v 0 j=0
  ·show #[0,λ_=>0,bD _,λj hj=>h j hj]
  obtain j0|h:=Classical.not_forall.mp h;obtain lj|hz:=Classical.not_imp.mp h
  let r:Nat->Rat:=λi=>v (i+1) j0 / v 0 j0
  let u:Nat->Nat->Rat:=λi j=>v (i+1) j - r i*v 0 j
  obtain k|d|hk|e:=Pn n λi j=>u i (if j=j0 then n else j)
  have rz:∀i,r i*v 0 j0=v (i+1) j0:=λi=>ID hz
  have all:∀j,j < n+1->u k j=aR k λi=>d i*u i j:=λj hj=>by
   by_cases e1:j=j0
   ·subst e1;have z:∀i,u i j=0:=λi=>by change v (i+1) j - r i*v 0 j=0;rw[rz];grind
    rw[z k,bU λi _=>by rw[z i,br]]
   ·by_cases e2:j=n
    ·have:=e j0 ();simp only[if_true] at this;rw[e2];show this
    ·have:=e j ();simp only[if_neg e1] at this;show this
  refine #[k+1,λi=>if i=0 then r k - aR k (λi=>d i*r i) else d (i - 1),(),λj hj=>?_];have:=all j hj;rw[o6];simp only[if_true,Nat.add_one_ne_zero,if_false,vn]
  have e3:(aR k λi=>d i*u i j)=(aR k λi=>d i*v (i+1) j) - (aR k λi=>d i*r i)*v 0 j:=by
   have e4:(aR k λi=>d i*u i j)=aR k λi=>d i*v (i+1) j+(- v 0 j)*(d i*r i):=ar λi _=>by change d i*(v (i+1) j - r i*v 0 j)=_;grind
   rw[e4,kz,a8];grind
  rw[e3] at this;have e5:u k j=v (k+1) j - r k*v 0 j:=rfl;rw[e5] at this;grind
def Xs (k:Nat) (f:Nat->Nat->Rat):Prop:=∀w:Nat->Rat,(∀c,(aR k λt=>w t*f t c)=0)->∀t,t < k->w t=0
theorem Ew {f g:Nat->Nat->Rat} (h:Xs k f) (s:∀i,i < k->d4 m g (f i)):k<=m:=by
 refine Nat.le_of_not_lt λhm=>?_
 let A:Nat->Nat->Rat:=λi=>if h:i < k then Classical.choose (s i h) else λ_=>0
 have hA:∀i,i < k->∀c,f i c=aR m λt=>A i t*g t c:=λi hi c=>by
  have e:=Classical.choose_spec (s i hi) c;have e2:A i=Classical.choose (s i hi):=dif_pos hi;rw[e2];show e
 obtain j|d|hj|e:=Pn m A;have jk:j < k:=()
 have z:=h (λt=>if t < j then d t else if t=j then -1 else 0) (λc=>?_) j jk
 ·simp only[dQ,if_false,if_true] at z;show absurd z ()
 obtain ⟨r,rfl⟩:∃r,k=j+(r+1):=#[k - j - 1,()];rw[ot,o6,bU (k:=r) λt _=>by rw[if_neg (),if_neg (),c8],ar (k:=j) (g:=λt=>d t*f t c) λt ht=>by rw[if_pos ht]]
 rw[Nat.add_zero,if_neg (dQ _),if_pos rfl,hA j () c,ar (k:=m) (g:=λt=>aR j λi=>d i*(A i t*g t c)) λt ht=>by
  rw[e t ht,bC,<- a8];show ar λi _=>by grind]
 rw[cD,ar (k:=j) (g:=λi=>aR m λt=>d i*(A i t*g t c)) λi hi=>by rw[hA i () c,a8]];grind
section
variable {rows R X Y:Y3} {ps pv:List Nat} {n k:Nat}
theorem Jb (RR:aG rows n R ps):Xs ps.9 (aZ R):=λw h t ht=>by
 have:=h (ps.3 t 0);rw[cF ht λj hj ne=>by rw[RR.2.2.34 j hj t ht,if_neg ne,br],RR.2.2.34 t ht t ht,if_pos rfl,fb] at this;show this
def xI (X:Y3) (x:Nat->Rat):Prop:=d4 X.9 (aZ X) x
def MV (X:Y3):Prop:=Xs X.9 (aZ X)
theorem ED (hi:i < X.9):∃xs∈X,aZ X i=λc=>xs.3 c 0:=#[X[i],aB hi,funext λc=>by unfold aZ;rw[aa (l:=X),ae hi];rfl]
theorem xI.row (h:xs∈X):xI X λc=>xs.3 c 0:=by
 obtain i|hi|rfl:=aH h;refine d4.congr (λc=>?_) (d4.row (a:=aZ X) hi);unfold aZ;rw[aa (l:=X),ae hi];rfl
theorem aG.sp (RR:aG rows n R ps):xI R x↔xI rows x:=by
 unfold xI;rw[RR.1];show #[d4.trans λi hi=>RR.2.2.55 i hi,d4.trans λi hi=>RR.2.2.span i hi]
theorem aG.ind (RR:aG rows n R ps):MV R:=by
 unfold MV;rw[RR.1];show Jb RR
theorem xI.le (h:MV X) (s:∀xs∈X,xI Y λc=>xs.3 c 0):X.9<=Y.9:=Ew h λi hi=>by
 obtain xs|hx|e:=ED hi;rw[e];show s xs hx
theorem MV.rank (RR:aG X n R ps) (h:MV X):ps.9=X.9:=by
 rw[<- RR.1];show kx (xI.le RR.ind λxs hx=>RR.sp.mp (xI.row hx)) (xI.le h λxs hx=>RR.sp.mpr (xI.row hx))
variable {T:Y3}
end
theorem zU (RR:aG rows0 n R ps) (lx:x.9=n):xI (aO R ps n) (λc=>x.3 c 0)↔∀r∈R,bT r x=0:=by
 constructor
 ·intro h r hr;have wr:=RR.2.1 r hr;obtain w|hw:=h
  dsimp only at hw
  rw[bZ (by rw[lx,wr]),wr]
  rw[ar (g:=λc=>aR (aO R ps n).9 λt=>w t*(r.3 c 0*aZ (aO R ps n) t c)) λc _=>by
   rw[hw c,<- a8];show ar λt _=>by grind]
  rw[cD];refine bU λt ht=>?_
  rw[a8];obtain z|hz|ez:=ED ht;have wz:=kL z hz;have d:=Ow (rF RR) RR.2.1 z hz r hr;rw[bZ (by rw[wr,wz]),wr] at d;rw[ez,d,br]
 ·intro h;refine yC RR (λc hc=>?_) λj hj=>?_
  ·rw[aa,aF ()];rfl
  ·have ZA:j < R.9:=by rw[RR.1];show hj
   have wr:=RR.2.1 _ (aB ZA);have d:=h _ (aB ZA);rw[bZ (by rw[lx,wr]),wr] at d;show X3 (ar λc _=>by rw[dO (ae ZA)]) d
theorem uI (RR:aG rows0 n R ps):MV (aO R ps n):=λw h t ht=>by
 have lN:(aO R ps n).9=(cW ps n).9:=by unfold aO;rw[af]
 have vN:∀t,t < (aO R ps n).9->∀c,aZ (aO R ps n) t c=(nM R ps n ((cW ps n).3 t 0)).3 c 0:=λt ht c=>AS ()
 have ft:=oQ (ps:=ps) (n:=n) (t:=t) ();have:=h ((cW ps n).3 t 0);rw[cF ht λj hj ne=>by rw[vN j hj,jt ft.1 ft.2,if_neg λe=>ne (xp () () e.19),br],vN t ht,jt ft.1 ft.2,if_pos rfl,fb] at this;show this
theorem EK {X Y:Y3} (wX:∀xs∈X,xs.9=n) (wY:∀xs∈Y,xs.9=n) (lx:x.9=n) (h:∀xs∈X,xI Y λc=>xs.3 c 0) (h0:∀ys∈Y,bT ys x=0):∀xs∈X,bT xs x=0:=λxs hx=>by
 obtain w|hw:=h xs hx
 dsimp only at hw
 have wx:=wX xs hx
 rw[bZ (),wx,ar (g:=λc=>aR Y.9 λt=>w t*(aZ Y t c*x.3 c 0)) λc _=>by
  rw[hw c,bC,<- a8];show ar λt _=>by grind]
 rw[cD];refine bU λt ht=>?_
 obtain ys|hy|e:=ED ht;have d:=h0 ys hy;rw[bZ (by rw[wY ys hy,lx]),wY ys hy] at d;rw[a8,e,d,br]
section
variable {mv:Y3} {x y:List Rat} {n t:Nat}
theorem Mq (hc:t < n):(aK mv n).3 t []=mv.11 λxs=>xs.3 t 0:=by
 unfold aK;rw[aa,az,bW hc];rfl
theorem Oq (hc:t < mv.9):(gF mv x).3 t 0=bT (mv.3 t []) x:=by
 unfold gF;rw[aa,az,aa,ae hc];rfl
theorem uc (wm:∀xs∈mv,xs.9=n) (lx:x.9=mv.9) (ly:y.9=n):bT (gF (aK mv n) x) y=bT x (gF mv y):=by
 have lt:(aK mv n).9=n:=aU;rw[bZ (by rw[fv,lt,ly]),fv,lt,bZ (by rw[fv,lx]),lx]
 have e1:∀c,c < n->(gF (aK mv n) x).3 c 0*y.3 c 0=aR mv.9 λi=>x.3 i 0*((mv.3 i []).3 c 0*y.3 c 0):=λc hc=>by
  rw[Oq (),Mq hc,bZ (by rw[af,lx]),af,bC,<- a8];refine ar λi hi=>?_
  have:(mv.11 λxs=>xs.3 c 0).3 i 0=(mv.3 i []).3 c 0:=by
   rw[aa,az,aa (l:=mv),ae hi];rfl
  rw[this];grind
 rw[ar e1,cD];refine ar λi hi=>?_
 have wi:(mv.3 i []).9=n:=by
  rw[aa,ae hi];show wm _ (aB hi)
 rw[a8,Oq hi,bZ (by rw[wi,ly]),wi]
theorem Kb (hl:x.9=rows.9) (hw:∀xs∈rows,xs.9=n) (ly:y.9=n):bT (o3 rows x n) y=bT x (rows.11 λxs=>bT xs y):=by
 have lw:(o3 rows x n).9=n:=mZ;rw[bZ (),lw,bZ (by rw[af];show hl)]
 have e:∀c,c < n->(o3 rows x n).3 c 0*y.3 c 0=aR x.9 λi=>x.3 i 0*(aZ rows i c*y.3 c 0):=λc hc=>by
  rw[nF hc,bC,<- a8];show ar λi _=>by grind
 rw[ar e,cD];refine ar λi hi=>?_
 rw[a8];have _M:i < rows.9:=()
 have wi:=hw _ (aB _M)
 have:(rows.11 λxs=>bT xs y).3 i 0=bT rows[i] y:=by
  rw[aa,az,ae _M];rfl
 rw[this,bZ (),wi];refine congrArg _ (ar λc _=>?_);unfold aZ;rw[aa (l:=rows),ae _M];rfl
end
section
variable {mv pt lk R A L Ro U B Bo Rs rows0:Y3} {ps po pu pb p2:List Nat} {n a c a' c':Nat}
structure M8 (mv lk R A L:Y3):Prop where
 lA:A.9=R.9
 wA:∀xs∈A,xs.9=A.9
 lL:L=lk.11 λxs=>R.11 λr=>bT r xs
 mvd:∀y:List Rat,y.9=A.9->gF mv (o3 R y mv.9)=o3 R (gF A y) mv.9
theorem Ln (E:M8 mv lk R A L) (wR:∀xs∈R,xs.9=mv.9) (wm:∀xs∈mv,xs.9=mv.9) (wl:∀xs∈lk,xs.9=mv.9):∀t (y:List Rat),y.9=A.9->((∀z∈Y4 (aK A A.9) L t,bT z y=0)↔∀z∈Y4 (aK mv mv.9) lk t,bT z (o3 R y mv.9)=0)
 | 0,y,_=>#[λ_ _=>(λh=>by cases h),λ_ _=>(λh=>by cases h)]
 | t+1,y,ly=>by
  have ih:=Ln E wR wm wl t (gF A y) fv;rw[<- E.mvd y ly] at ih;have lw:(o3 R y mv.9).9=mv.9:=mZ
  have wL:∀xs∈L,xs.9=A.9:=λxs hx=>by
   rw[E.lL] at hx;obtain ys|_|rfl:=ao.mp hx;rw[af,E.lA]
  have k1:=cJ (mv:=aK A A.9) (aU) wL t;have k2:=cJ (mv:=aK mv mv.9) (aU) wl t
  have sL:∀xs∈lk,bT (R.11 λr=>bT r xs) y=bT xs (o3 R y mv.9):=λxs hx=>by
   rw[iB (by rw[af,ly,E.lA]),<- Kb (by rw[ly,E.lA]) wR (wl xs hx),iB (by rw[lw,wl xs hx])]
  constructor
  ·intro h z hz;rcases aA.mp hz with hz | hz
   ·rw[<- sL z hz];show h _ (cT _ (by rw[E.lL];show ao.mpr #[z,hz,rfl]))
   ·obtain z'|_o|rfl:=ao.mp hz;rw[uc wm (k2 z' _o) lw];refine ih.mp (λq hq=>?_) z' _o;rw[<- uc E.wA (k1 q hq) ly];show h _ (aX _ (ao.mpr #[q,hq,rfl]))
  ·intro h z hz;rcases aA.mp hz with hz | hz
   ·rw[E.lL] at hz;obtain xs|hx|rfl:=ao.mp hz;rw[sL xs hx];show h xs (cT _ hx)
   ·obtain z'|_o|rfl:=ao.mp hz;rw[uc E.wA (k1 z' _o) ly];refine ih.mpr (λq hq=>?_) z' _o;rw[<- uc wm (k2 q hq) lw];show h _ (aX _ (ao.mpr #[q,hq,rfl]))
theorem EF (RR:aG rows0 n R ps) (ly:y.9=ps.9) (hj:j < ps.9):(o3 R y n).3 (ps.3 j 0) 0=y.3 j 0:=by
 rw[nF (RR.2.2.56 j hj),ly,cF hj λi hi ne=>by rw[RR.2.2.34 i hi j hj,if_neg ne,br],RR.2.2.34 j hj j hj,if_pos rfl,fb]
theorem Pe (RR:aG rows0 n R ps) (ly:y.9=ps.9):xI R λc=>(o3 R y n).3 c 0:=#[λi=>y.3 i 0,λc=>by
 change (o3 R y n).3 c 0=_
 rcases be c n with hc | hc
 ·rw[nF hc,ly,RR.1]
 ·rw[aa,aF (by rw[show (o3 R y n).9=n from mZ];lia),bU λt _=>by rw[ji RR.2.1 hc,br]];rfl]
theorem NK (RR:aG rows0 n R ps) (lx:x.9=n) (hx:xI R λc=>x.3 c 0):o3 R (ps.11 λp=>x.3 p 0) n=x:=by
 apply cU (by rw[show (o3 R _ n).9=n from mZ,lx]);intro i h1 h2;have e:=RR.2.2._e (x:=λc=>x.3 c 0) (by rw[<- RR.1];show hx) i;have g:=nF (rows:=R) (ws:=ps.11 λp=>x.3 p 0) (n:=n) (c:=i) ();rw[aa,ae h1] at g;rw[aa,ae h2] at e;refine X3 g (X3 ?_ e.19);rw[af]
 show ar λj hj=>by
  rw[aa (l:=XT _ _),az,ae hj,aa (l:=ps),ae hj];rfl
theorem NG (D:cS mv pt lk) (KF:iU mv pt a c) (RR:aG (Y4 mv pt mv.9) mv.9 R ps):M8 mv lk R (dw ps.9 ((og (stC R ps mv.9) mv (j5 R ps mv.9) mv.9).18 ps.9)) (dw ps.9 (lk.11 λxs=>(j5 R ps mv.9).11 λr=>bT r xs)):=by
 have hB:=kB RR;have hC:=jm RR;have D':=oa D hC hB;have lM:=fJ (mv:=mv) (rows:=j5 R ps mv.9) hC;have DC:=qD D' (m:=ps.9) (by rw[lM];show RR.le);have lA:(dw ps.9 ((og (stC R ps mv.9) mv (j5 R ps mv.9) mv.9).18 ps.9)).9=ps.9:=uy hC RR.le;refine #[by rw[lA,RR.1],DC.mw,?_,λy ly=>?_]
 ·unfold dw j5;rw[b7];refine bV λxs _=>?_
  change ((R++_).11 λr=>bT r xs).18 ps.9=_
  rw[bo,jT (by rw[af,RR.1];show aj _),aJ (by rw[af,RR.1];show aj _)]
 ·rw[lA] at ly;have lw:(o3 R y mv.9).9=mv.9:=mZ
  have sp:xI R λc=>(gF mv (o3 R y mv.9)).3 c 0:=by
   have:=(Lf KF D.n8 D.mw D.pw RR).2 _ (by rw[<- RR.1];show Pe RR ly);rw[<- RR.1] at this;refine d4.congr (λi=>?_) this;rcases be i mv.9 with hi | hi
   ·unfold gF;rw[aa (l:=XT _ _),az,ae hi];change _=bT mv[i] _
    rw[bZ (by rw[D.mw _ (aB hi),lw]),D.mw _ (aB hi)];show ar λj _=>by rw[dO (ae hi)]
   ·rw[aa (l:=gF _ _),aF (by rw[fv];show hi),bU λj _=>by rw[show aZ mv i j=0 by unfold aZ;rw[aa (l:=mv),aF hi];rfl,c8]];rfl
  rw[<- NK RR fv sp];congr 1;apply cU (by rw[af,fv,lA]);intro i h1 h2;rw[af] at h1;have hp:=RR.2.2.56 i h1;rw[gY]
  have eo:∀{G:Y3} {v:List Rat} {k:Nat},k < G.9->(∀xs∈G,xs.9=v.9)->(gF G v).3 k 0=aR v.9 λj=>aZ G k j*v.3 j 0:=λ{G v k} hk hw=>by
   unfold gF;rw[aa (l:=XT _ _),az,ae hk];change bT G[k] _=_
   rw[bZ (hw _ (aB hk)),hw _ (aB hk)];show ar λj _=>by rw[dO (ae hk)]
  have g2:(gF (dw ps.9 ((og (stC R ps mv.9) mv (j5 R ps mv.9) mv.9).18 ps.9)) y)[i]=(gF (dw ps.9 ((og (stC R ps mv.9) mv (j5 R ps mv.9) mv.9).18 ps.9)) y).3 i 0:=by
   rw[aa,ae h2];rfl
  have ep:ps[i]=ps.3 i 0:=by rw[aa,ae h1];rfl
  rw[g2,ep,eo hp λxs hx=>by rw[lw];show D.mw xs hx,eo (by rw[lA];show h1) λxs hx=>by rw[DC.mw xs hx,lA,ly],lw,ly]
  rw[ar (k:=ps.9) (g:=λj=>aR mv.9 λc=>aZ mv (ps.3 i 0) c*(y.3 j 0*aZ R j c)) λj hj=>by
   rw[zZ hj,v8 h1,NC D.mw RR h1 hj,bC,<- a8];show ar λc _=>by grind]
  rw[cD];refine ar λc hc=>?_
  rw[a8,nF hc,ly]
end
def stM (mv R:Y3) (ps:List Nat):Y3:=dw ps.9 ((og (stC R ps mv.9) mv (j5 R ps mv.9) mv.9).18 ps.9)
def FN (mv pt R:Y3) (ps:List Nat):Y3:=dw ps.9 (oO (stC R ps mv.9) pt)
def Kl (mv lk R:Y3) (ps:List Nat):Y3:=dw ps.9 (lk.11 λxs=>(j5 R ps mv.9).11 λr=>bT r xs)
def mo (mv pt lk:Y3) (ν p:Nat):Prop:=∃N:Nat,0 < N/\N<=2^ν/\GF N (2^p) mv/\GF N (2^p) pt/\GF N (2^p) lk
section
variable {M1 M2 V a1 a2 c q E ν p:Nat}
theorem Sa (h:GF M W rows):GF M W (dw m rows):=λxs hx x Y6=>by
 obtain ys|hy|rfl:=ao.mp hx;show h ys hy x (bL Y6)
theorem zP (D:cS mv pt lk) (RR:aG rows0 mv.9 R ps):cS (stM mv R ps) (FN mv pt R ps) (Kl mv lk R ps)/\(stM mv R ps).9=ps.9:=by
 have hC:=jm RR;show #[qD (oa D hC (kB RR)) (by rw[fJ hC];show RR.le),uy hC RR.le]
theorem Ki (z:zJ mv pt lk R M1 M2 V a1 a2 c q E) (D:cS mv pt lk) (F:IA mv pt lk) (RR:aG rows0 mv.9 R ps):mo (stM mv R ps) (FN mv pt R ps) (Kl mv lk R ps) (a1+E+a2+(E+400)) (c+E+123):=by
 obtain M3|V3|m0|m1|v1|_|_|gl:=F
 obtain M|W|h0|h1|h2|h3:=z._z D RR (l:=((stM mv R ps)++(FN mv pt R ps)).flatten) λy hy=>by
  obtain xs|hx|hy:=gX.mp hy;rcases aA.mp hx with hx | hx
  ·show .inl #[xs,hx,hy]
  ·show .inr (.inl #[xs,hx,hy])
 have gb:GF q (2^E) (j5 R ps mv.9):=λxs hx x Y6=>(z.tb xs hx x Y6).fr z.q0
 have n8:=D.n8;have iL:GF (q*M3) (2^(c+E+123)) (Kl mv lk R ps):=Sa (jA (C2 gb gl (kB RR).2) (sT (i:=3) () (sT (aj _) v1 (aj _)) ()));have up:∀{rows},(∀xs∈rows,xs∈stM mv R ps++FN mv pt R ps)->GF (M*(q*M3)) (2^(c+E+123)) rows:=λh xs hx x Y6=>Fr.up (h3 x (gX.mpr #[xs,h xs hx,Y6])) (pL _ _) (ai h2 (ak () ()))
 show #[M*(q*M3),bx h0 (bx z.q0 m0),sT h1 (sT z.q1 m1 (aj _)) (aj _),up λxs hx=>cT _ hx,up λxs hx=>aX _ hx,λxs hx x Y6=>Fr.up (iL xs hx x Y6) (dC _ _) (aj _)]
theorem mo.ok (h:mo mv pt lk ν p) (s:ν+p<=26500):uN mv/\uN pt/\uN lk:=by
 obtain N|h0|h1|g1|g2|g3:=h;show #[λxs hx x Y6=>qN (oP g1 h0 h1 (aj _) () xs hx x Y6),λxs hx x Y6=>qN (oP g2 h0 h1 (aj _) () xs hx x Y6),λxs hx x Y6=>qN (oP g3 h0 h1 (aj _) () xs hx x Y6)]
theorem mo.turn (h:mo mv pt lk ν p):mo (aK mv mv.9) lk pt ν p:=by
 obtain N|h0|h1|g1|g2|g3:=h;show #[N,h0,h1,mM g1,g3,g2]
theorem mo.kf (h:mo mv pt lk ν p) (n8:mv.9<=8) (s:ν+p<=26500):iU mv pt ν (p+4):=by
 obtain N|h0|h1|g1|g2|g3:=h;have e1:mv.9*(ν+(p+4))<=8*26504:=aE n8 ();have e2:mv.9*(mv.9*(ν+(p+4))+4)<=8*212036:=aE n8 ();have e3:mv.9*(mv.9*(mv.9*(ν+(p+4))+4)+ν+(p+4)+4)<=8*1723000:=aE n8 ();refine #[N,2^p,h0,h1,?_,g1,g2,(),(),(),()];rw[d6 p,aV];show au _ ()
theorem mo.un (h:mo mv pt lk ν p) (D:cS mv pt lk) (s:ν+p<=26500):Sl mv pt 2970000:=by
 have n8:=D.n8;have e1:(mv.9 - 1)*(ν+(p+4))<=7*26504:=aE () ();refine #[n8,D.mw,D.pw,#[_,_,h.kf n8 s,?_,λk hk=>?_],()]
 ·show ai (aE n8 (show _<=185532 by lia)) ()
 ·have e2:k*((mv.9 - 1)*(ν+(p+4))+4)<=k*185532:=aP _ ();refine ai (aE (show mv.9 - k<=8 - k by lia) (show _<=k*185532+4 by lia)) ?_;have:k<=8:=()
  rcases (by lia:k=0\/k=1\/k=2\/k=3\/k=4\/k=5\/k=6\/k=7\/k=8) with rfl | rfl | rfl | rfl | rfl | rfl | rfl | rfl | rfl <;> decide
theorem Sl.tp (h:Sl A lk e) (RR:aG (Y4 A lk A.9) A.9 R ps) (RN:aG (aO R ps A.9) A.9 Hd psd):∃M,0 < M/\M<=2^e/\∀xs∈Hd,∀x∈xs,Tp M (2^e) x:=by
 obtain _|_|w|sw|bn|_:=h.sw RR;obtain _|M|h0|h1|h2:=KP kL sw RN;have up:(2:Nat)^(min (aO R ps A.9).9 A.9*(w+4))<=2^e:=ak () bn;show #[M,h0,ai h1 up,λxs hx x Y6=>(h2 xs hx x Y6).22 up]
theorem mo.A! (h:mo mv pt lk ν p) (D:cS mv pt lk) (s:ν+p<=26500) (RR:aG (Y4 (aK mv mv.9) lk mv.9) mv.9 Ro po) (RN:aG (aO Ro po mv.9) mv.9 U pu):PV mv pt lk (o7 U pu mv.9) (vw U pu mv.9)/\∃w,xH (oW (aK (o7 U pu mv.9) mv.9) (cE mv.9)) (mv.9+mv.9) w:=by
 have n8:=D.n8;have et:(aK mv mv.9).9=mv.9:=aU;obtain q|q0|q1|t:=(h.turn.un D.turn s).tp (R:=Ro) (ps:=po) (Hd:=U) (psd:=pu) (by rw[et];show RR) (by rw[et];show RN);obtain N|h0|h1|g1|g2|g3:=h;have B:Bd mv pt N N (2^p) ν ν (p+4):=#[h0,h0,h1,h1,g1,g2,by rw[d6 p,aV];show au _ ()];have z:zJ mv pt lk U N N (2^p) ν ν (p+4) q 2970000:=#[B,q0,q1,t,(),(),ai (au _ n8) (),N,2^p,h0,ai h1 (ak () ()),ak () (),g3];obtain a|b:=Ws z n8 (uH RN) (kD RN) (λxs hx=>z.tb xs (DH.mp hx)) λxs hx=>z.tc RN xs (DG.mp hx)
 show #[a,_,b]
end
def Wd (rows:Y3) (w:Nat):Prop:=∃M:Nat,0 < M/\M<=2^w/\∀xs∈rows,∀x∈xs,Tp M (2^w) x
theorem Wd.sub (h:Wd X w) (s:∀xs∈Y,xs∈X):Wd Y w:=let ⟨M,a,b,t⟩:=h;#[M,a,b,λxs hx=>t xs (s xs hx)]
theorem Wd.up (h:Wd X w) (l:w<=v):Wd X v:=by
 obtain M|a|b|t:=h;have p:(2:Nat)^w<=2^v:=ak () l;show #[M,a,ai b p,λxs hx x Y6=>(t xs hx x Y6).22 p]
theorem Wd.swf (h:Wd X w) (l:min X.9 n<=8) (s:w<=400000):xH X n w:=by
 obtain M|a|b|t:=h;have:min X.9 n*(w+4)<=8*400004:=aE l ();show #[M,2^w,a,ai b (ak () ()),bO,aj _,t,(),(),()]
theorem Wd.rr (h:Wd X w) (l:min X.9 n<=8) (s:w<=400000) (wX:∀xs∈X,xs.9=n) (RR:aG X n R ps):Wd R (8*(w+4)):=by
 obtain _|M|a|b|t:=KP wX (h.swf l s) RR;have p:(2:Nat)^(min X.9 n*(w+4))<=2^(8*(w+4)):=ak () (au _ l);show #[M,a,ai b p,λxs hx x Y6=>(t xs hx x Y6).22 p]
theorem Qb (h:uN rows):uN (aK rows n):=λys hy y _F=>by
 obtain j|_|rfl:=ao.mp hy;obtain xs|hx|rfl:=ao.mp _F;rw[aa];cases e:xs[j]? with
 | none=>show W3
 | some z=>show h xs hx z (av e)
inductive KA (K:Y2) (vs:List V) (H:Hp) (Q:VK) (E9:XK):Prop
 | mk (p:Addr) (n w:Nat) (H0:Hp) (rows:Y3):vs=[.ref p,.int n]->bw K H0 H p rows->rows.9<=100->n<=100->(∀xs∈rows,xs.9=n)->xH rows n w->(∀R ps,aG rows n R ps->∀xs∈R,∀x∈xs,oY x)->(∀r R ps H',H r=none->aL H H'->bw K H H' r (aO R ps n)->aG rows n R ps->Q (.ref r) H')->KA K vs H Q E9
inductive Kp (K:Y2) (C:Addr) (vs:List V) (H:Hp) (Q:VK) (E9:XK):Prop
 | mk (x:Addr) (H0:Hp) (mv pt lk:Y3):vs=[.ref x]->jR K H0 H C x mv pt lk->cS mv pt lk->uN mv/\uN pt/\uN lk->(∀r H',H r=none->aL H H'->jR K H H' C r (aK mv mv.9) lk pt->Q (.ref r) H')->Kp K C vs H Q E9
inductive Ko (K:Y2) (C:Addr) (vs:List V) (H:Hp) (Q:VK) (E9:XK):Prop
 | mk (x:Addr) (T e:Nat) (H0:Hp) (mv pt lk:Y3):vs=[.ref x,.int T]->T<=99->jR K H0 H C x mv pt lk->cS mv pt lk->uN mv/\uN pt/\uN lk->Sl (aK mv mv.9) lk e->(∀r Hd H',H r=none->aL H H'->bw K H H' r Hd->Xe (aK mv mv.9) lk mv.9 T e Hd->Q (.ref r) H')->Ko K C vs H Q E9
inductive Kt (K:Y2) (C:Addr) (vs:List V) (H:Hp) (Q:VK) (E9:XK):Prop
 | mk (x:Addr) (e:Nat) (H0:Hp) (mv pt lk:Y3):vs=[.ref x]->jR K H0 H C x mv pt lk->cS mv pt lk->uN mv/\uN pt/\uN lk->Sl (aK mv mv.9) lk e->(∀t l R ps U pu H',aG (Y4 (aK mv mv.9) lk mv.9) mv.9 R ps->aG (aO R ps mv.9) mv.9 U pu->H l=none->aL H H'->H' t=some (.tup [.ref l,.int (cW pu mv.9).9])->bw K H H' l (o7 U pu mv.9)->Q (.ref t) H')->Kt K C vs H Q E9
def j6 (mv U:Y3) (pu:List Nat):Y3:=dw (cW pu mv.9).9 ((og (vw U pu mv.9) mv (o7 U pu mv.9) mv.9).18 (cW pu mv.9).9)
def BA (mv pt U:Y3) (pu:List Nat):Y3:=dw (cW pu mv.9).9 (oO (vw U pu mv.9) pt)
def DJ (mv lk U:Y3) (pu:List Nat):Y3:=dw (cW pu mv.9).9 (lk.11 λxs=>(o7 U pu mv.9).11 λr=>bT r xs)
inductive Kv (K:Y2) (C:Addr) (vs:List V) (H:Hp) (Q:VK) (E9:XK):Prop
 | mk (x:Addr) (e:Nat) (H0:Hp) (mv pt lk:Y3):vs=[.ref x]->jR K H0 H C x mv pt lk->cS mv pt lk->uN mv/\uN pt/\uN lk->Sl (aK mv mv.9) lk e->(∀R ps U pu,aG (Y4 (aK mv mv.9) lk mv.9) mv.9 R ps->aG (aO R ps mv.9) mv.9 U pu->PV mv pt lk (o7 U pu mv.9) (vw U pu mv.9)/\∃w,xH (oW (aK (o7 U pu mv.9) mv.9) (cE mv.9)) (mv.9+mv.9) w)->(∀z R ps U pu H',aG (Y4 (aK mv mv.9) lk mv.9) mv.9 R ps->aG (aO R ps mv.9) mv.9 U pu->aL H H'->jR K H H' C z (j6 mv U pu) (BA mv pt U pu) (DJ mv lk U pu)->Q (.ref z) H')->Kv K C vs H Q E9
structure PJ (mv pt lk:Y3) (a c ν p:Nat):Prop where
 D:cS mv pt lk
 KF:iU mv pt a c
 sz:ν+p<=26500
 st:∀R ps,aG (Y4 mv pt mv.9) mv.9 R ps->(PV mv pt lk (j5 R ps mv.9) (stC R ps mv.9)/\∃w,xH (oW (aK (j5 R ps mv.9) mv.9) (cE mv.9)) (mv.9+mv.9) w)/\mo (stM mv R ps) (FN mv pt R ps) (Kl mv lk R ps) ν p
inductive Kr (K:Y2) (C:Addr) (vs:List V) (H:Hp) (Q:VK) (E9:XK):Prop
 | mk (x:Addr) (a c ν p:Nat) (H0:Hp) (mv pt lk:Y3):vs=[.ref x]->jR K H0 H C x mv pt lk->PJ mv pt lk a c ν p->(∀z R ps Ro po U pu H',aG (Y4 mv pt mv.9) mv.9 R ps->aG (Y4 (aK (stM mv R ps) (stM mv R ps).9) (Kl mv lk R ps) (stM mv R ps).9) (stM mv R ps).9 Ro po->aG (aO Ro po (stM mv R ps).9) (stM mv R ps).9 U pu->aL H H'->jR K H H' C z (j6 (stM mv R ps) U pu) (BA (stM mv R ps) (FN mv pt R ps) U pu) (DJ (stM mv R ps) (Kl mv lk R ps) U pu)->Q (.ref z) H')->Kr K C vs H Q E9
theorem IU {M1 M2 V a1 a2 c9 N v E:Nat} (B:Bd mv pt M1 M2 V a1 a2 c9) (D:cS mv pt lk) (F:IA mv pt lk) (hn:mv.9<=N) (N8:N<=8) (h1:a1*(N - 1)+a2+c9*N<=v) (h2:N*(v+4)<=E) (h3:4*E+a1+a2+c9+3<=15600000) (h5:2*E<=12000000) (h4:N*(E+4)<=35600000) (h6:v<=16000000) (h7:a1+E+a2+(E+400)+(c9+E+123)<=26500) (h8:E<=928):(∃ν p,∀{a c},iU mv pt a c->PJ mv pt lk a c ν p)/\∀R ps,aG (Y4 mv pt mv.9) mv.9 R ps->Wd R 928:=by
 refine #[#[_,_,λKF=>#[D,KF,h7,λR ps RR=>?_]],λR ps RR=>?_]
 ·obtain q|z:=nE B D F hn N8 h1 h2 h3 h5 h4 h6 RR;show #[#[z.A! D.n8 RR,_,z.sw D.n8 RR],Ki z D F RR]
 ·obtain q|z:=nE B D F hn N8 h1 h2 h3 h5 h4 h6 RR;show Wd.up #[q,z.q0,z.q1,z.rt] h8
theorem Qo (h:Rg mv pt w) (D:cS mv pt lk) (F:IA mv pt lk):(∃ν p,∀{a c},iU mv pt a c->PJ mv pt lk a c ν p)/\∀R ps,aG (Y4 mv pt mv.9) mv.9 R ps->Wd R 928:=by
 rcases h with ⟨_,B⟩ | ⟨_,n5,B⟩ | ⟨_,n2,M1,M2,B⟩
 ·show IU (N:=8) (v:=112) (E:=928) B D F D.n8 () () () () () () () () ()
 ·show IU (N:=5) (v:=140) (E:=720) B D F n5 () () () () () () () () ()
 ·show IU (N:=2) (v:=306) (E:=620) B D F n2 () () () () () () () () ()
section
variable {mv pt lk R A P L X Z Rx:Y3} {px pz ps:List Nat} {n r m:Nat}
theorem sA (lx:x.9=n) (hi:i < n):bT x (ie n ((i:Nat):Int))=x.3 i 0:=by
 rw[bZ (by rw[lx];show gH.symm),lx,cF hi λj hj ne=>by rw[ox hj,if_neg ne,br],ox hi,if_pos rfl,fb]
theorem RQ (lx:x.9=n) (ly:y.9=n) (h:∀z:List Rat,z.9=n->bT x z=bT y z):x=y:=uu lx ly λi hi=>by
 rw[<- sA lx hi,<- sA ly hi];show h _ gH
theorem zX (E:M8 mv lk R A L) (wP:∀xs∈P,xs.9=A.9) (hp:pt=P.11 λy=>o3 R y mv.9):∀t,Y4 mv pt t=(Y4 A P t).11 λy=>o3 R y mv.9
 | 0=>rfl
 | t+1=>by
  change pt++(Y4 mv pt t).11 (gF mv)=(P++(Y4 A P t).11 (gF A)).11 _
  rw[zX E wP hp t,bo,b7,b7,<- hp];congr 1;show bV λy hy=>E.mvd y (cJ rfl wP t y hy)
theorem EE (E:M8 mv lk R A L) (wR:∀xs∈R,xs.9=mv.9) (ly:y.9=mv.9) (lz:z.9=A.9):bT (R.11 λr=>bT r y) z=bT y (o3 R z mv.9):=by
 have lw:(o3 R z mv.9).9=mv.9:=mZ;rw[iB (by rw[af,lz,E.lA]),<- Kb (by rw[lz,E.lA]) wR ly,iB (by rw[lw,ly])]
theorem Rv (E:M8 mv lk R A L) (wR:∀xs∈R,xs.9=mv.9) (wm:∀xs∈mv,xs.9=mv.9) (wl:∀xs∈lk,xs.9=mv.9):∀t,Y4 (aK A A.9) L t=(Y4 (aK mv mv.9) lk t).11 λy=>R.11 λr=>bT r y
 | 0=>rfl
 | t+1=>by
  change L++(Y4 (aK A A.9) L t).11 _=(lk++(Y4 (aK mv mv.9) lk t).11 _).11 _
  rw[Rv E wR wm wl t,bo,b7,b7,<- E.lL];congr 1;refine bV λy hy=>?_
  have ly:y.9=mv.9:=cJ (mv:=aK mv mv.9) aU wl t y hy;have l1:(gF (aK mv mv.9) y).9=mv.9:=by rw[fv,aU]
  refine RQ (n:=A.9) (by rw[Function.comp,fv,aU]) (by rw[Function.comp,af,E.lA]) λz lz=>?_
  change bT (gF (aK A A.9) (R.11 λr=>bT r y)) z=bT (R.11 λr=>bT r (gF (aK mv mv.9) y)) z
  rw[uc E.wA (by rw[af,E.lA]) lz,EE E wR ly fv,EE E wR l1 lz,<- E.mvd z lz,uc wm ly (show (o3 R z mv.9).9=mv.9 from mZ)]
def sO (mv pt lk:Y3) (n:Nat):Y3:=(Y4 (aK mv mv.9) lk n).11 λy=>(Y4 mv pt n).11 λz=>bT y z
theorem OZ (E:M8 mv lk R A L) (wR:∀xs∈R,xs.9=mv.9) (wm:∀xs∈mv,xs.9=mv.9) (wl:∀xs∈lk,xs.9=mv.9) (wP:∀xs∈P,xs.9=A.9) (hp:pt=P.11 λy=>o3 R y mv.9):sO mv pt lk n=sO A P L n:=by
 unfold sO;rw[Rv E wR wm wl,zX E wP hp,b7];refine bV λy hy=>?_
 rw[b7];refine bV λz hz=>?_
 show (EE E wR (cJ (mv:=aK mv mv.9) aU wl n y hy) (cJ rfl wP n z hz)).19
theorem GK {B:Nat->Nat->Rat} (f:List Rat->List Rat) (wX:∀xs∈X,xs.9=r) (hf:∀y:List Rat,y.9=r->∀c,(f y).3 c 0=aR r λj=>y.3 j 0*B j c) (inj:∀w:Nat->Rat,(∀c,(aR r λj=>w j*B j c)=0)->∀j,j < r->w j=0) (RX:aG X r Rx px) (RZ:aG (X.11 f) m Z pz):pz.9=px.9:=by
 have sw:∀{k:Nat} {w:Nat->Rat} {g:Nat->Nat->Rat} (c:Nat),(aR k λi=>w i*aR r λj=>g i j*B j c)=aR r λj=>(aR k λi=>w i*g i j)*B j c:=λ{k w g} c=>by
  rw[ar (g:=λi=>aR r λj=>w i*(g i j*B j c)) λi _=>by rw[a8],cD];refine ar λj _=>?_
  rw[bC,<- a8];show ar λi _=>by grind
 have fx:∀t,t < X.9->∀c,aZ (X.11 f) t c=aR r λj=>aZ X t j*B j c:=λt ht c=>by
  have e1:aZ (X.11 f) t c=(f X[t]).3 c 0:=by
   unfold aZ;rw[aa (l:=XT _ _),az,ae ht];rfl
  rw[e1,hf _ (wX _ (aB ht))];show ar λj _=>by rw[dO (ae ht)]
 refine kx (Ew (g:=λi c=>aR r λj=>aZ Rx i j*B j c) (Jb RZ) λi hi=>?_) (Ew (f:=λi c=>aR r λj=>aZ Rx i j*B j c) (g:=aZ Z) (λw hw=>Jb RX w λc=>?_) λi hi=>?_)
 ·refine d4.trans (λt ht=>?_) (RZ.2.2.55 i hi);rw[af] at ht;obtain w|hw:=RX.2.2.span t ht;refine #[w,λc=>?_];rw[fx t ht,sw];show ar λj _=>by rw[hw]
 ·rcases be c r with hc | hc
  ·refine inj (λj=>aR px.9 λi=>w i*aZ Rx i j) (λc=>?_) c hc;rw[<- sw];show hw c
  ·show bU λi _=>by rw[ji RX.2.1 hc,br]
 ·obtain w|hw:=RX.2.2.55 i hi;refine d4.trans (m':=(X.11 f).9) (b:=aZ (X.11 f)) (λt ht=>RZ.2.2.span t ht) #[w,λc=>?_];rw[af,ar (k:=X.9) (g:=λt=>w t*aR r λj=>aZ X t j*B j c) λt ht=>by rw[fx t ht],sw];show ar λj _=>by rw[hw]
def Tt (X:Y3) (r:Nat):Prop:=∀y:List Rat,y.9=r->xI X λc=>y.3 c 0
theorem Tt.dot (h:Tt X r) (wX:∀xs∈X,xs.9=r) {w:Nat->Rat} (h0:∀k,k < X.9->(aR r λj=>w j*aZ X k j)=0):∀j,j < r->w j=0:=λj hj=>by
 obtain v|hv:=h (ie r ((j:Nat):Int)) gH
 dsimp only at hv
 have e:w j=aR r λi=>w i*(ie r ((j:Nat):Int)).3 i 0:=by
  rw[cF hj λi hi ne=>by rw[ox hi,if_neg ne,br],ox hj,if_pos rfl,fb]
 rw[e,ar (g:=λi=>aR X.9 λk=>v k*(w i*aZ X k i)) λi _=>by
  rw[hv,<- a8];show ar λk _=>by grind]
 rw[cD];show bU λk hk=>by rw[a8,h0 k hk,br]
theorem Mo (wA:∀xs∈A,xs.9=A.9) (wP:∀xs∈P,xs.9=A.9) (wL:∀xs∈L,xs.9=A.9) (h:Tt (Y4 A P n) A.9) (RX:aG (Y4 (aK A A.9) L n) A.9 Rx px) (RZ:aG (sO A P L n) m Z pz):pz.9=px.9:=by
 have wk:=cJ (mv:=A) rfl wP n;refine GK (B:=λj c=>aZ (Y4 A P n) c j) (λy=>(Y4 A P n).11 λz=>bT y z) (cJ (mv:=aK A A.9) aU wL n) (λy ly c=>?_) (λw hw=>?_) RX RZ
 ·rw[aa,az];rcases be c (Y4 A P n).9 with hc | hc
  ·rw[ae hc];change bT y _=_
   have lw:=wk _ (aB hc);rw[bZ (by rw[ly,lw]),ly];show ar λj _=>by rw[dO (ae hc)]
  ·rw[aF hc,bU λj _=>by rw[show aZ (Y4 A P n) c j=0 by unfold aZ;rw[aa (l:=Y4 A P n),aF hc];rfl,br]];rfl
 ·show h.dot wk λk _=>hw k
theorem Ql (E:M8 mv lk R A L) (RR:aG rows0 mv.9 R ps) (RK:∀x:Nat->Rat,xI R x->xI (Y4 mv pt n) x) (wP:∀xs∈P,xs.9=A.9) (hp:pt=P.11 λy=>o3 R y mv.9):Tt (Y4 A P n) A.9:=λy ly=>by
 have lA:A.9=ps.9:=by rw[E.lA,RR.1]
 have wk:=cJ (mv:=A) rfl wP n;obtain w|hw:=RK _ (Pe RR (by rw[ly,lA]));rw[zX E wP hp] at hw;refine #[w,λj=>?_];change y.3 j 0=_
 rcases be j ps.9 with h | h
 ·have e:=hw (ps.3 j 0)
  dsimp only at e
  rw[EF RR (by rw[ly,lA]) h,af] at e;rw[e];refine ar λt ht=>?_
  obtain k|hk|ek:=ED ht;congr 1;rw[ek]
  have:aZ ((Y4 A P n).11 λy=>o3 R y mv.9) t (ps.3 j 0)=(o3 R (Y4 A P n)[t] mv.9).3 (ps.3 j 0) 0:=by
   unfold aZ;rw[aa (l:=XT _ _),az,ae ht];rfl
  rw[this,EF RR (by rw[wk _ (aB ht),lA]) h,<- dO (ae ht),ek]
 ·rw[aa,aF (),bU λt _=>by rw[ji wk (),br]];rfl
end
theorem K5 (RN:aG rows0 n U pu) (lx:x.9=n) (h:∀u∈U,bT u x=0):o3 (aO U pu n) ((cW pu n).11 λp=>x.3 p 0) n=x:=by
 have lN:(aO U pu n).9=(cW pu n).9:=by unfold aO;rw[af]
 obtain w|hw:=(zU RN lx).mpr h
 dsimp only at hw
 have e:∀t,t < (cW pu n).9->w t=x.3 ((cW pu n).3 t 0) 0:=λt ht=>by
  have ft:=oQ ht;rw[hw,cF (show t < (aO U pu n).9 by lia) λi hi ne=>by rw[show aZ (aO U pu n) i ((cW pu n).3 t 0)=(nM U pu n ((cW pu n).3 i 0)).3 ((cW pu n).3 t 0) 0 from AS (),jt ft.1 ft.2,if_neg λe=>ne (xp () ht e.19),br],show aZ (aO U pu n) t ((cW pu n).3 t 0)=(nM U pu n ((cW pu n).3 t 0)).3 ((cW pu n).3 t 0) 0 from AS ht,jt ft.1 ft.2,if_pos rfl,fb]
 refine uu (n:=n) mZ lx λi hi=>?_
 rw[nF hi,af,hw i,lN];refine ar λt ht=>?_
 rw[e t ht,aa (l:=XT _ _),az,ae ht,aa (l:=cW pu n),ae ht];rfl
theorem DI (D:cS A P L) (RN:aG rows0 A.9 U pu):cS (j6 A U pu) (BA A P U pu) (DJ A L U pu)/\(j6 A U pu).9=(cW pu A.9).9:=by
 have hC:=kD RN;have cn:=kZ RN;show #[qD (oa D hC (uH RN)) (by rw[fJ hC];lia),uy hC ()]
theorem TZ (D:cS A P L) (RO:aG (Y4 (aK A A.9) L A.9) A.9 Ro po) (RB:aG (L++Ro.11 (gF (aK A A.9))) A.9 Ro po) (RN:aG (aO Ro po A.9) A.9 U pu):M8 (aK A A.9) P (aO U pu A.9) (aK (j6 A U pu) (j6 A U pu).9) (BA A P U pu)/\L=(DJ A L U pu).11 λy=>o3 (aO U pu A.9) y A.9:=by
 obtain D2|l2:=DI D RN;have cn:=kZ RN;have hC:=kD RN;have lN:(aO U pu A.9).9=(cW pu A.9).9:=by unfold aO;rw[af]
 have et:(aK A A.9).9=A.9:=aU;have e2:(aK (j6 A U pu) (j6 A U pu).9).9=(j6 A U pu).9:=aU;refine #[#[by rw[e2,l2,lN],λxs hx=>by rw[e2];show eJ xs hx,?_,λy ly=>?_],?_]
 ·change dw _ (oO _ _)=_
  unfold dw oO vw;rw[b7];refine bV λxs _=>?_
  change (XT _ (aO U pu A.9++_)).18 _=_
  rw[bo,jT (by rw[af,lN];show aj _),aJ (by rw[af,lN];show aj _)]
 ·rw[e2,l2] at ly;rw[et];have lw:(o3 (aO U pu A.9) y A.9).9=A.9:=mZ
  have spN:xI (aO U pu A.9) λc=>(o3 (aO U pu A.9) y A.9).3 c 0:=#[λi=>y.3 i 0,λc=>by
   change (o3 _ y _).3 c 0=_
   rcases be c A.9 with hc | hc
   ·rw[nF hc,ly,lN]
   ·rw[aa,aF (by rw[lw];show hc),bU λt _=>by rw[ji kL hc,br]];rfl]
  have z0:=(zU RN lw).mp spN;have lo:(gF (aK A A.9) (o3 (aO U pu A.9) y A.9)).9=A.9:=by rw[fv,et]
  have kill:∀u∈U,bT u (gF (aK A A.9) (o3 (aO U pu A.9) y A.9))=0:=λu hu=>by
   have wu:=RN.2.1 u hu;obtain j|hj|rfl:=aH hu;rw[iB (by rw[lo,wu]),uc D.mw lw wu,iB (by rw[fv,lw])];have ZA:j < pu.9:=by rw[<- RN.1];show hj
   have sp:=SU D.mw RO RB RN ZA
   have sp':xI U λc=>(gF A U[j]).3 c 0:=by
    unfold xI;rw[RN.1];refine d4.congr (λi=>?_) sp;rcases be i A.9 with hi | hi
    ·rw[if_pos hi];unfold gF;rw[aa (l:=XT _ _),az,ae hi];change _=bT A[i] _
     rw[bZ (by rw[D.mw _ (aB hi),wu]),D.mw _ (aB hi)];show ar λk _=>by rw[dO (ae hi),dO (ae hj)]
    ·rw[if_neg (),aa,aF (by rw[fv];show hi)];rfl
   show EK (n:=A.9) (X:=[gF A U[j]]) (λxs hx=>by rw[bX.mp hx];show fv) RN.2.1 lw (λxs hx=>by rw[bX.mp hx];show sp') z0 _ (bX.mpr rfl)
  rw[<- K5 RN lo kill];congr 1;apply cU (by rw[af,fv,e2,l2]);intro j h1 h2;rw[af] at h1;have ft:=oQ h1;rw[gY];have ep:(cW pu A.9)[j]=(cW pu A.9).3 j 0:=by rw[aa,ae h1];rfl
  have g2:(gF (aK (j6 A U pu) (j6 A U pu).9) y)[j]=(gF (aK (j6 A U pu) (j6 A U pu).9) y).3 j 0:=by
   rw[aa,ae h2];rfl
  have eo:∀{G:Y3} {v:List Rat} {k:Nat},G.9=v.9->k < G.9->(gF (aK G G.9) v).3 k 0=aR v.9 λi=>aZ G i k*v.3 i 0:=λ{G v k} hv hk=>by
   unfold gF;rw[aa (l:=XT _ _),az,ae (by rw[aU];show hk)];change bT ((aK G G.9)[k]'(by rw[aU];show hk)) _=_
   have wt:((aK G G.9)[k]'(by rw[aU];show hk)).9=v.9:=by rw[eJ _ (aB _),hv]
   rw[bZ wt,wt];refine ar λi _=>?_
   rw[<- dO (i:=k) (j:=i) (ae (by rw[aU];show hk)),iX hk]
  rw[g2,ep,eo (by rw[lw]) ft.1,eo (by rw[l2,ly]) (by rw[l2];show h1),lw,ly]
  rw[ar (k:=(cW pu A.9).9) (g:=λi=>aR A.9 λk=>aZ A k ((cW pu A.9).3 j 0)*(y.3 i 0*(nM U pu A.9 ((cW pu A.9).3 i 0)).3 k 0)) λi hi=>by
   change aZ (dw _ _) i j*_=_
   rw[zZ h1,v8 hi,NR D.mw RN hi h1,bC,<- a8];show ar λk _=>by grind]
  rw[cD];refine ar λk hk=>?_
  rw[a8,nF hk,ly];congr 1;show ar λi hi=>by rw[show aZ (aO U pu A.9) i k=(nM U pu A.9 ((cW pu A.9).3 i 0)).3 k 0 from AS hi]
 ·change L=(dw _ (L.11 _)).11 _
  unfold dw;rw[b7,b7];refine X3 (ee L).19 (bV λxs hx=>?_);have lx:=D.lw xs hx
  have kl:∀u∈U,bT u xs=0:=λu hu=>by
   obtain j|hj|rfl:=aH hu;obtain i|hi|rfl:=aH hx;have k:=zM RB RN (t:=j) (i:=i) (by rw[<- RN.1];show hj) (by rw[ax];lia);rw[vX hi] at k;have wu:=RN.2.1 _ hu;rw[iB (by rw[lx,wu]),bZ (by rw[lx,wu]),lx];refine X3 (ar λc _=>?_) k;rw[dO (ae hi),dO (ae hj)]
  change xs=o3 _ ((XT _ (o7 U pu A.9)).18 _) _
  refine X3 (K5 RN lx kl).19 ?_;congr 1;unfold o7;rw[bo,jT (by simp),aJ (by simp),b7];refine bV λp hp=>?_
  change _=bT (ie A.9 ((p:Nat):Int)) xs
  rw[iB (by rw[gH,lx]),sA lx (pG.mp hp).1]
theorem Qt (D:cS A P L) (E:M8 (aK A A.9) P (aO U pu A.9) (aK (j6 A U pu) (j6 A U pu).9) (BA A P U pu)) (RN:aG rows0 A.9 U pu) (F:Tt (Y4 A P n) A.9):Tt (Y4 (j6 A U pu) (BA A P U pu) n) (j6 A U pu).9:=λy ly=>by
 obtain D2|l2:=DI D RN;have lN:(aO U pu A.9).9=(cW pu A.9).9:=by unfold aO;rw[af]
 have et:(aK A A.9).9=A.9:=aU;have k:=Rv E (λxs hx=>by rw[et];show kL xs hx) (λxs hx=>by rw[et];show eJ xs hx) (λxs hx=>by rw[et];show D.pw xs hx) n;rw[aU,aU,Cw D.mw,Cw D2.mw] at k;have wk:=cJ (mv:=A) rfl D.pw n
 obtain ⟨x,lx,hx⟩:∃x:List Rat,x.9=A.9/\∀i,i < (cW pu A.9).9->bT (nM U pu A.9 ((cW pu A.9).3 i 0)) x=y.3 i 0:=by
  refine #[(W0 A.9).11 λc=>aR (cW pu A.9).9 λj=>if (cW pu A.9).3 j 0=c then y.3 j 0 else 0,by simp,λi hi=>?_];have ln:(nM U pu A.9 ((cW pu A.9).3 i 0)).9=A.9:=jG
  rw[bZ (by rw[ln];simp),ln,ar (g:=λc=>aR (cW pu A.9).9 λj=>if (cW pu A.9).3 j 0=c then (nM U pu A.9 ((cW pu A.9).3 i 0)).3 c 0*y.3 j 0 else 0) λc hc=>by
   rw[aa (l:=XT _ _),az,bW hc];change _*aR _ _=_
   rw[<- a8]
   show ar λj _=>by
    by_cases e:(cW pu A.9).3 j 0=c
    ·rw[if_pos e,if_pos e]
    ·rw[if_neg e,if_neg e,br]]
  rw[cD,ar (g:=λj=>(nM U pu A.9 ((cW pu A.9).3 i 0)).3 ((cW pu A.9).3 j 0) 0*y.3 j 0) λj hj=>by
   rw[cF (oQ hj).1 λc _ ne=>if_neg (Yg ne),if_pos rfl]]
  rw[cF hi λj hj ne=>by rw[jt (oQ hj).1 (oQ hj).2,if_neg λe=>ne (xp hj hi e),c8],jt (oQ hi).1 (oQ hi).2,if_pos rfl,fL]
 obtain w|hw:=F x lx
 dsimp only at hw
 refine #[w,λi=>?_];change y.3 i 0=_
 rw[k,af]
 have fx:∀t,t < (Y4 A P n).9->aZ ((Y4 A P n).11 λz=>(aO U pu A.9).11 λq=>bT q z) t i=if i < (cW pu A.9).9 then aR A.9 λc=>(nM U pu A.9 ((cW pu A.9).3 i 0)).3 c 0*aZ (Y4 A P n) t c else 0:=λt ht=>by
  unfold aZ;rw[aa (l:=XT _ _),az,ae ht];change (XT _ (aO U pu A.9)).3 i 0=_
  rw[aa (l:=XT _ _),az];by_cases hi:i < (cW pu A.9).9
  ·rw[if_pos hi,ae ()];have wz:=wk _ (aB ht)
   have en:(aO U pu A.9)[i]'()=nM U pu A.9 ((cW pu A.9).3 i 0):=by
    rw[aa,ae hi];exact gY _
   change bT _ _=_
   have ln:(nM U pu A.9 ((cW pu A.9).3 i 0)).9=A.9:=jG;rw[en,bZ (by rw[ln,wz]),ln];show ar λc _=>by rw[aa (l:=Y4 A P n),ae ht];rfl
  ·rw[if_neg hi,aF ()];rfl
 by_cases hi:i < (cW pu A.9).9
 ·rw[<- hx i hi];have ln:(nM U pu A.9 ((cW pu A.9).3 i 0)).9=A.9:=jG
  rw[bZ (by rw[ln,lx]),ln,ar (g:=λc=>aR (Y4 A P n).9 λt=>w t*((nM U pu A.9 ((cW pu A.9).3 i 0)).3 c 0*aZ (Y4 A P n) t c)) λc _=>by
   rw[hw,<- a8];show ar λt _=>by grind]
  rw[cD];show ar λt ht=>by rw[a8,fx t ht,if_pos hi]
 ·rw[aa,aF (),bU λt ht=>by rw[fx t ht,if_neg hi,br]];rfl
theorem Qs (D:cS A P L) (RO:aG (Y4 (aK A A.9) L n) A.9 Ro po) (RN:aG (aO Ro po A.9) A.9 U pu) (eL:L=(DJ A L U pu).11 λy=>o3 (aO U pu A.9) y A.9) (E:M8 (aK A A.9) P (aO U pu A.9) (aK (j6 A U pu) (j6 A U pu).9) (BA A P U pu)) (RZ:aG (Y4 (aK (j6 A U pu) (j6 A U pu).9) (DJ A L U pu) n) (j6 A U pu).9 Z pz):pz.9=(j6 A U pu).9:=by
 obtain D2|l2:=DI D RN;have lN:(aO U pu A.9).9=(cW pu A.9).9:=by unfold aO;rw[af]
 have et:(aK A A.9).9=A.9:=aU;have e2:(aK (j6 A U pu) (j6 A U pu).9).9=(j6 A U pu).9:=aU;have k:=zX E (pt:=L) (P:=DJ A L U pu) (λxs hx=>by rw[e2];show D2.lw xs hx) (by rw[et];show eL) n;rw[et] at k;have n1:=md RO;have n2:=(uI RO).rank RN;have n3:=kZ RN;rw[k] at RO;have:=GK (r:=(j6 A U pu).9) (B:=λj c=>aZ (aO U pu A.9) j c) (λy=>o3 (aO U pu A.9) y A.9) (cJ (mv:=aK (j6 A U pu) (j6 A U pu).9) aU D2.lw n) (λy ly c=>?_) (λw hw=>?_) RZ RO
 ·lia
 ·rcases be c A.9 with hc | hc
  ·rw[nF hc,ly]
  ·rw[aa,aF (by rw[show (o3 (aO U pu A.9) y A.9).9=A.9 from mZ];show hc),bU λj _=>by rw[ji kL hc,br]];rfl
 ·intro j hj;show uI RN w (by rw[lN,<- l2];show hw) j ()
section
variable {mv pt lk R A P L Ro U Z:Y3} {ps po pu pz:List Nat} {n r w a c a' c' a1 c1 a2 c2:Nat}
theorem SR (D:cS mv pt lk) (KF:iU mv pt a c) (RR:aG (Y4 mv pt mv.9) mv.9 R ps):pt=(FN mv pt R ps).11 λy=>o3 R y mv.9:=by
 change pt=(dw _ (XT _ pt)).11 _
 unfold dw;rw[b7,b7];refine X3 (ee pt).19 (bV λxs hx=>?_);have lx:=D.pw xs hx
 have sp:xI R λc=>xs.3 c 0:=by
  obtain k|hk|rfl:=aH hx;have:=(Lf KF D.n8 D.mw D.pw RR).1 k hk;rw[<- RR.1] at this;show d4.congr (λc=>dO (ae hk)) this
 change xs=o3 R (List.take ps.9 (XT (λq=>bT q xs) (stC R ps mv.9))) mv.9
 refine X3 (NK RR lx sp).19 ?_;congr 1;unfold stC;rw[bo,jT (by simp),aJ (by simp),b7];refine bV λp hp=>?_
 change _=bT (ie mv.9 ((p:Nat):Int)) xs
 obtain j|hj|rfl:=aH hp
 have low:ps[j] < mv.9:=by
  have:=RR.2.2.56 j hj;rwa [aa,ae hj] at this
 rw[iB (by rw[gH,lx]),sA lx low]
theorem O6 (h:Tt X r) (RZ:aG X r Z pz):pz.9=r:=by
 refine kx RZ.le (Ew (f:=λi c=>(ie r ((i:Nat):Int)).3 c 0) (g:=aZ Z) (λw hw t ht=>?_) λi hi=>?_)
 ·have:=hw t
  dsimp only at this
  rwa [cF ht λj hj ne=>by rw[ox ht,if_neg (Yg ne),br],ox ht,if_pos rfl,fb] at this
 ·have:=RZ.sp.mpr (h _ (gH (n:=r) (a:=((i:Nat):Int))));unfold xI at this;rwa [RZ.1] at this
theorem RD (RZ:aG Z0 r Z pz) (h:pz.9=r):Z=cE r/\pz=W0 r:=by
 have inc:∀j,j < pz.9->j<=pz.3 j 0:=λj=>by
  induction j with
  | zero=>intro _;show bD _
  | succ j ih =>
   intro hj;have:=ih ();have:=RZ.2.2.inc j (j+1) () hj
   lia
 have dec:∀k j,j+k+1=pz.9->pz.3 j 0<=j:=λk=>by
  induction k with
  | zero =>
   intro j hj;have:=RZ.2.2.56 j ();change pz.3 j 0<=j
   lia
  | succ k ih =>
   intro j hj;have:=ih (j+1) ();have:=RZ.2.2.inc j (j+1) () ()
   lia
 have at_:∀j,j < r->pz.3 j 0=j:=λj hj=>kx (dec (r - j - 1) j ()) (inc j ())
 refine #[EC (n:=r) (by rw[RZ.1,h];simp [cE]) RZ.2.1 (λxs hx=>by
  obtain i|_|rfl:=ao.mp hx;show gH) λi hi c=>?_,?_]
 ·rw[RZ.1,h] at hi
  have eu:aZ (cE r) i c=(ie r ((i:Nat):Int)).3 c 0:=by
   unfold aZ cE;rw[aa (l:=XT _ _),az,bW hi];rfl
  rcases be c r with hc | hc
  ·have u:=RZ.2.2.34 i () c ();rw[show pz.3 c 0=c from at_ c hc] at u;rw[u,eu,ox hc];by_cases e:i=c
   ·rw[if_pos e,if_pos e.19]
   ·rw[if_neg e,if_neg (Yg e)]
  ·rw[ji RZ.2.1 hc,eu,aa,aF (by rw[gH];show hc)];rfl
 ·apply cU (by rw[h,bg]);intro i h1 h2;rw[IE];have:=at_ i ();rwa [aa,ae h1] at this
theorem GQ (K:iU mv pt a c) (n8:mv.9<=8) (wm:∀xs∈mv,xs.9=mv.9) (wp:∀xs∈pt,xs.9=mv.9) (h:mv.9<=n) (k:∀Z pz,aG (Y4 mv pt n) mv.9 Z pz->pz.9=w) (RZ:aG (Y4 mv pt mv.9) mv.9 Z pz):pz.9=w:=by
 obtain R'|p'|G:=vS K n8 wm wp n;obtain _|rfl:=GS K n8 wm wp (T:=n) (T':=mv.9) h (aj _) G.1 RZ;show k _ _ G.1
structure oX (mv pt lk R A P L Ro U:Y3) (ps po pu:List Nat):Prop where
 D:cS mv pt lk
 KF:∃a c,iU mv pt a c
 RR:aG (Y4 mv pt mv.9) mv.9 R ps
 eA:A=stM mv R ps
 eP:P=FN mv pt R ps
 eL:L=Kl mv lk R ps
 KL:∃a c,iU (aK A A.9) L a c
 RO:aG (Y4 (aK A A.9) L A.9) A.9 Ro po
 RN:aG (aO Ro po A.9) A.9 U pu
theorem oX._t (h:oX mv pt lk R A P L Ro U ps po pu):cS A P L/\A.9=ps.9/\cS (j6 A U pu) (BA A P U pu) (DJ A L U pu)/\(j6 A U pu).9=po.9/\(j6 A U pu).9=(cW pu A.9).9:=by
 obtain D1|l1:=zP h.D h.RR;rw[<- h.eA,<- h.eP,<- h.eL] at D1;rw[<- h.eA] at l1;obtain D2|l2:=DI D1 h.RN;have n1:=md h.RO;have n2:=(uI h.RO).rank h.RN;have n3:=kZ h.RN;show #[D1,l1,D2,(),l2]
theorem oX.emb (h:oX mv pt lk R A P L Ro U ps po pu):M8 mv lk R A L/\pt=P.11 (λy=>o3 R y mv.9)/\M8 (aK A A.9) P (aO U pu A.9) (aK (j6 A U pu) (j6 A U pu).9) (BA A P U pu)/\L=(DJ A L U pu).11 λy=>o3 (aO U pu A.9) y A.9:=by
 obtain D1|l1|D2|l2|l3:=h._t;obtain a|c|KF:=h.KF;obtain a'|c'|KL:=h.KL;have e1:=NG h.D KF h.RR;have e2:=SR h.D KF h.RR;have et:(aK A A.9).9=A.9:=aU;have RB:=Nz KL (by rw[et];show D1.n8) (λxs hx=>by rw[et];show eJ xs hx) (λxs hx=>by rw[et];show D1.lw xs hx) (R:=Ro) (ps:=po) (by rw[et];show h.RO);rw[et] at RB;refine #[?_,?_,TZ D1 h.RO RB h.RN]
 ·rw[h.eA,h.eL];show e1
 ·rw[h.eP];show e2
theorem oX.aaC (h:oX mv pt lk R A P L Ro U ps po pu):Tt (Y4 A P mv.9) A.9:=by
 obtain D1|_:=h._t;obtain E|hp|_:=h.emb;show Ql E h.RR (λx hx=>h.RR.sp.mp hx) D1.pw hp
theorem oX.agA (h:oX mv pt lk R A P L Ro U ps po pu) (RZ:aG (sO mv pt lk mv.9) w Z pz):pz.9=(j6 A U pu).9:=by
 obtain D1|l1|D2|l2|l3:=h._t;obtain E|hp|_:=h.emb;obtain a'|c'|KL:=h.KL;have et:(aK A A.9).9=A.9:=aU;have le:=h.RR.le;have wt:∀xs∈aK A A.9,xs.9=(aK A A.9).9:=λxs hx=>by rw[et];show eJ xs hx
 have wL:∀xs∈L,xs.9=(aK A A.9).9:=λxs hx=>by rw[et];show D1.lw xs hx
 obtain Rx|px|G:=vS KL (by rw[et];show D1.n8) wt wL mv.9;obtain _|rfl:=GS KL (by rw[et];show D1.n8) wt wL (T:=mv.9) (T':=A.9) () () G.1 (by rw[et];show h.RO);have Gn:=G.1;rw[et] at Gn;rw[OZ E h.RR.2.1 h.D.mw h.D.lw D1.pw hp] at RZ;rw[Mo D1.mw D1.pw D1.lw h.aaC Gn RZ,l2]
theorem oX.Q! (h:oX mv pt lk R A P L Ro U ps po pu) (K2:iU (j6 A U pu) (BA A P U pu) a2 c2) (RZ:aG (Y4 (j6 A U pu) (BA A P U pu) (j6 A U pu).9) (j6 A U pu).9 Z pz):pz.9=(j6 A U pu).9:=by
 obtain D1|l1|D2|l2|l3:=h._t;obtain _|_|E2|_:=h.emb;have F:=Qt D1 E2 h.RN h.aaC;have le:=h.RR.le;have le2:=h.RO.le;show GQ K2 D2.n8 D2.mw D2.pw (n:=mv.9) () (λZ' pz' hz=>O6 F hz) RZ
theorem oX.seen (h:oX mv pt lk R A P L Ro U ps po pu) (K2:iU (aK (j6 A U pu) (j6 A U pu).9) (DJ A L U pu) a2 c2) (RZ:aG (Y4 (aK (j6 A U pu) (j6 A U pu).9) (DJ A L U pu) (j6 A U pu).9) (j6 A U pu).9 Z pz):pz.9=(j6 A U pu).9:=by
 obtain D1|l1|D2|l2|l3:=h._t;obtain _|_|E2|eL2:=h.emb;have e2:(aK (j6 A U pu) (j6 A U pu).9).9=(j6 A U pu).9:=aU;have le2:=h.RO.le;refine GQ (w:=(j6 A U pu).9) K2 (by rw[e2];show D2.n8) (λxs hx=>by rw[e2];show eJ xs hx) (λxs hx=>by rw[e2];show D2.lw xs hx) (n:=A.9) () (λZ' pz' hz=>?_) (Z:=Z) (pz:=pz) (by rw[e2];show RZ);rw[e2] at hz;show Qs D1 h.RO h.RN eL2 E2 hz
theorem oX.again (h:oX mv pt lk R A P L Ro U ps po pu) (s1:ps.9=mv.9) (s2:∀Z pz,aG (Y4 (aK mv mv.9) lk mv.9) mv.9 Z pz->pz.9=mv.9) (KT:iU (aK mv mv.9) lk a2 c2):(j6 A U pu).9=mv.9:=by
 obtain D1|l1|D2|l2|l3:=h._t;obtain E|hp|_:=h.emb;have et:(aK mv mv.9).9=mv.9:=aU;obtain Z|pz|G:=vS KT (by rw[et];show h.D.n8) (λxs hx=>by rw[et];show eJ xs hx) (λxs hx=>by rw[et];show h.D.lw xs hx) mv.9;have GZ:=G.1;rw[et] at GZ;have lz:=s2 Z pz GZ;have nz:=md GZ;have n1:=md h.RO
 have key:(aO Ro po A.9).9=0:=Nat.le_zero.mp (by
  have:=xI.le (uI h.RO) (Y:=[]) λz hz=>?_
  ·show this
  have wz:=kL z hz;have lw:(o3 R z mv.9).9=mv.9:=mZ
  have k1:∀q∈Y4 (aK A A.9) L mv.9,bT q z=0:=by
   rw[<- s1,<- l1];show EK (cJ (mv:=aK A A.9) aU D1.lw _) h.RO.2.1 wz (λxs hx=>h.RO.sp.mpr (xI.row hx)) ((zU h.RO wz).mp (xI.row hz))
  have k2:=(Ln E h.RR.2.1 h.D.mw h.D.lw mv.9 z wz).mp k1;have k3:=(zU GZ lw).mpr (EK GZ.2.1 (cJ (mv:=aK mv mv.9) aU h.D.lw _) lw (λxs hx=>GZ.sp.mp (xI.row hx)) k2);have e0:aO Z pz mv.9=[]:=WH.mp ();rw[e0] at k3;refine #[λ_=>0,λj=>?_];change z.3 j 0=0
  rcases be j ps.9 with hj | hj
  ·rw[<- EF h.RR (by rw[wz,l1]) hj];obtain v|hv:=k3;show hv _
  ·rw[aa,aF ()];rfl)
 lia
end
section
variable {mv pt lk R A P L Ro U X Y:Y3} {ps po pu:List Nat} {M1 M2 V a1 a2 c q E ν p w v n a:Nat}
theorem Kc (h:Wd R w) (k:Wd Y v) (wR:∀xs∈R,xs.9=n) (wY:∀xs∈Y,xs.9=n) (n8:n<=8):Wd (Y.11 λy=>R.11 λr=>bT r y) (w+v+3):=by
 obtain M|a|b|t:=h;obtain N|c|d|u:=k;refine #[M*N,bx a c,ai (sT b d (aj _)) (ak () ()),λxs hx x Y6=>?_];obtain y|hy|rfl:=ao.mp hx;obtain r|hr|rfl:=ao.mp Y6;rw[bZ (by rw[wR r hr,wY y hy]),wR r hr];refine (Tp.sum (M:=M*N) (W:=2^w*2^v) (k:=n) λj _=>?_).22 ?_
 ·show (v7 (t r hr) j).mul (v7 (u y hy) j)
 ·rw[<- aV,aV 2 (w+v) 3,cB];show aP _ n8
theorem Nj (h:Wd R w) (k:Wd Y v) (wR:∀xs∈R,xs.9=n) (wY:∀xs∈Y,xs.9=n) (n8:n<=8):Wd (Y.11 λy=>R.11 λr=>bT y r) (w+v+3):=by
 have e:(Y.11 λy=>R.11 λr=>bT y r)=Y.11 λy=>R.11 λr=>bT r y:=bV λy hy=>bV λr hr=>iB (by rw[wR r hr,wY y hy])
 rw[e];show Kc h k wR wY n8
theorem Wd.acx (h:Wd X w) (l:min X.9 n<=16) (s:w<=400000) (wX:∀xs∈X,xs.9=n):∃S,PR X n S:=by
 obtain M|a|b|t:=h;have:min X.9 n*(w+4)<=16*400004:=aE l ();show #[_,PU.X! (w:=w) (a:=w) #[M,2^w,a,b,bO,aj _,t,l,()] wX]
theorem Le:∀t,∀xs∈Y4 mv pt t,xs∈Y4 mv pt (t+1)
 | 0,_,h=>by cases h
 | t+1,xs,h=>by
  rcases aA.mp h with h | h
  ·show cT _ h
  ·obtain y|hy|rfl:=ao.mp h;show aX _ (ao.mpr #[y,Le t y hy,rfl])
theorem GR {s:Nat}:∀d,∀xs∈Y4 mv pt s,xs∈Y4 mv pt (s+d)
 | 0,_,h=>h
 | d+1,xs,h=>Le _ xs (GR d xs h)
theorem Wd.rev (h:Wd X w):Wd (X.11 YI) w:=let ⟨M,a,b,t⟩:=h;#[M,a,b,λxs hx x Y6=>by
 obtain ys|hy|rfl:=ao.mp hx;show t ys hy x (List.mem_reverse.mp Y6)]
theorem Wd.unseen (h:Wd rows w) (hw:∀xs∈rows,xs.9=n) (n8:n<=8) (s:w<=400000) (RR:aG rows n Ro po) (RN:aG (aO Ro po n) n U pu):Wd U (8*(w+4)):=by
 have wr:∀xs∈rows.11 YI,xs.9=n:=λxs hx=>by
  obtain ys|hy|rfl:=ao.mp hx;rw[uE];show hw ys hy
 have S:=h.rev.swf (n:=n) () s;obtain R'|Zd|_|_|Y:=ym wr S;obtain M|a|b|t:=h.rev.rr () s wr Y.rr;show #[M,a,b,Vs hw RR RN Y.rr b t]
theorem mo.up (h:mo mv pt lk ν p) (h1:ν<=ν') (h2:p<=p'):mo mv pt lk ν' p':=by
 obtain N|a|b|g1|g2|g3:=h;have q:(2:Nat)^p<=2^p':=ak () h2;show #[N,a,ai b (ak () h1),jA g1 q,jA g2 q,jA g3 q]
theorem VL (h:mo A P L ν p) (D:cS A P L) (s:ν+p<=26500) (RN:aG rows0 A.9 U pu) (wU:Wd U w) (sw:w<=100000):mo (j6 A U pu) (BA A P U pu) (DJ A L U pu) (3*ν+w) (p+4+w):=by
 obtain N|h0|h1|g1|g2|g3:=h;obtain q|q0|q1|t:=wU;have n8:=D.n8;have B:Bd A P N N (2^p) ν ν (p+4):=#[h0,h0,h1,h1,g1,g2,by rw[d6 p,aV];show au _ ()];have z:zJ A P L U N N (2^p) ν ν (p+4) q w:=#[B,q0,q1,t,(),(),ai (aE n8 (show w+4<=100004 by lia)) (),N,2^p,h0,ai h1 (ak () ()),ak () (),g3]
 obtain M|W|m0|m1|w1|f:=z._A D RN (l:=((j6 A U pu)++(BA A P U pu)).flatten) λy hy=>by
  obtain xs|hx|hy:=gX.mp hy;rcases aA.mp hx with hx | hx
  ·show .inl #[xs,hx,hy]
  ·show .inr (.inl #[xs,hx,hy])
 have gl:GF N (2^p) (DJ A L U pu):=λxs hx x Y6=>by
  obtain i|j|hi|hj|rfl:=qE hx Y6;rw[af] at hi;have lo:=(oQ hj).1
  have ej:(o7 U pu A.9)[j]?=some (ie A.9 (((cW pu A.9).3 j 0:Nat):Int)):=by
   unfold o7;rw[cw (by rw[af];show hj),az,ae hj,aa,ae hj];rfl
  rw[qC (ae hi),zV ej,iB (by rw[gH,D.lw _ (aB hi)]),sA (D.lw _ (aB hi)) lo];rcases Lk (xs:=L[i]) (i:=(cW pu A.9).3 j 0) with h | h
  ·show g3 _ (aB hi) _ h
  ·rw[h];show Fr.zero
 have up:∀{rows},(∀xs∈rows,xs∈j6 A U pu++BA A P U pu)->GF (M*N) (2^(p+4+w)) rows:=λh xs hx x Y6=>Fr.up (f x (gX.mpr #[xs,h xs hx,Y6])) (pL _ _) w1
 show #[M*N,bx m0 h0,sT m1 h1 (),up λxs hx=>cT _ hx,up λxs hx=>aX _ hx,λxs hx x Y6=>Fr.up (gl xs hx x Y6) (dC _ _) (ak () ())]
theorem mo.wdk (h:mo mv pt lk ν p) (D:cS mv pt lk) (s:ν+p<=26500):Wd (Y4 mv pt mv.9) 212100/\Tv mv pt mv.9:=by
 obtain N|h0|h1|g1|g2|g3:=h;have n8:=D.n8;have B:Bd mv pt N N (2^p) ν ν (p+4):=#[h0,h0,h1,h1,g1,g2,by rw[d6 p,aV];show au _ ()];have q1:ν*(mv.9+1)<=ν*9:=aP _ ();have q2:(p+4)*(mv.9+2)<=(p+4)*10:=aP _ ();refine #[?_,N,N,2^p,ν,ν,p+4,B,()];have f:=Jw rfl D.mw D.pw (M:=N) (V:=2^p) (c:=p+4) (by rw[d6 p,aV];show au _ ()) g1 g2 mv.9;have e1:ν*mv.9<=ν*8:=aP _ n8;have e2:(p+4)*mv.9<=(p+4)*8:=aP _ n8;have hN:N^mv.9<=2^(ν*mv.9):=ai (jC h1 _) (by rw[<- sR];show aj _);show #[N^mv.9,jS h0,ai hN (ak () ()),λxs hx x Y6=>Tp.of (f xs hx x Y6) (sT (aj _) hN ())]
theorem mo.X! (h:mo mv pt lk ν p) (D:cS mv pt lk) (s:ν+p<=26500):∃S,PR (Y4 mv pt mv.9) mv.9 S:=(h.wdk D s).1.acx (by have:=D.n8;lia) () (cJ rfl D.pw _)
theorem Qj {rows0:Y3} (D:cS mv pt lk) (KF:∃a c,iU mv pt a c) (RR:aG (Y4 mv pt mv.9) mv.9 R ps) (h:ps.9=mv.9):R=cE mv.9/\stM mv R ps=mv/\FN mv pt R ps=pt/\Kl mv lk R ps=lk:=by
 obtain a|c|KF:=KF;obtain rfl|rfl:=RD RR h;have E:=NG D KF RR;have hp:=SR D KF RR;obtain D1|l1:=zP D RR
 have id_:∀y:List Rat,y.9=mv.9->o3 (cE mv.9) y mv.9=y:=λy ly=>by
  refine uu (n:=mv.9) mZ ly λi hi=>?_
  have:=EF RR (y:=y) (by rw[ly,bg]) (j:=i) (by rw[bg];show hi);rwa [show (W0 mv.9).3 i 0=i by rw[aa,bW hi];rfl] at this
 rw[bg] at l1;have lM:(stM mv (cE mv.9) (W0 mv.9)).9=mv.9:=l1;refine #[rfl,?_,?_,?_]
 ·refine EC (n:=mv.9) lM (λxs hx=>by rw[D1.mw xs hx,lM]) D.mw λi hi j=>?_
  rw[lM] at hi;rcases be j mv.9 with hj | hj
  ·have e:=E.mvd (ie mv.9 ((j:Nat):Int)) (by rw[gH];show lM.19);have l2:(gF (stM mv (cE mv.9) (W0 mv.9)) (ie mv.9 ((j:Nat):Int))).9=mv.9:=by rw[fv,lM]
   rw[id_ _ gH] at e;have e':gF mv (ie mv.9 ((j:Nat):Int))=gF (stM mv (cE mv.9) (W0 mv.9)) (ie mv.9 ((j:Nat):Int)):=X3 e (id_ _ l2)
   have col:∀{G:Y3},(∀xs∈G,xs.9=mv.9)->i < G.9->(gF G (ie mv.9 ((j:Nat):Int))).3 i 0=aZ G i j:=λ{G} hw hG=>by
    unfold gF;rw[aa (l:=XT _ _),az,ae hG];change bT G[i] _=_
    rw[sA (hw _ (aB hG)) hj,dO (ae hG)]
   rw[<- col (λxs hx=>by rw[D1.mw xs hx,lM]) (by rw[lM];show hi),<- col D.mw hi,e']
  ·rw[ji (n:=mv.9) (λxs hx=>by rw[D1.mw xs hx,lM]) hj,ji D.mw hj]
 ·refine X3 (ee _).19 (X3 (bV λy hy=>?_) hp.19);show (id_ y (by rw[D1.pw y hy,lM])).19
 ·refine X3 E.lL (X3 (bV λxs hx=>?_) (ee _));refine uu (n:=mv.9) (by rw[af];simp [cE]) (D.lw xs hx) λi hi=>?_
  unfold cE;rw[b7,aa,az,bW hi];change bT (ie mv.9 ((i:Nat):Int)) xs=_
  rw[iB (by rw[gH,D.lw xs hx]),sA (D.lw xs hx) hi];rfl
theorem mo.sm (h:mo mv pt lk ν p) (D:cS mv pt lk) (s:ν+p<=26500) (full:∀R ps,aG (Y4 mv pt mv.9) mv.9 R ps->ps.9=mv.9):PJ mv pt lk ν (p+4) ν p:=by
 have KF:=h.kf D.n8 s;have n8:=D.n8;refine #[D,KF,s,λR ps RR=>?_];obtain rfl|e1|e2|e3:=Qj (rows0:=[]) D #[_,_,KF] RR (full R ps RR);rw[e1,e2,e3];refine #[?_,h];obtain N|h0|h1|g1|g2|g3:=h;have B:Bd mv pt N N (2^p) ν ν (p+4):=#[h0,h0,h1,h1,g1,g2,by rw[d6 p,aV];show au _ ()]
 have z:zJ mv pt lk (cE mv.9) N N (2^p) ν ν (p+4) 1 0:=#[B,(),(),λxs hx x Y6=>by
  obtain i|_|rfl:=ao.mp hx;show IL (M:=1) () x Y6,(),(),ai (au _ n8) (),N,2^p,h0,ai h1 (ak () ()),ak () (),g3]
 show #[z.A! n8 RR,_,z.sw n8 RR]
end
section
variable {mv pt lk R A P L Ro U:Y3} {ps po pu:List Nat} {n w T:Nat}
theorem N6 (h:Rg mv pt w) (D:cS mv pt lk):∃v,(v<=140/\w<=9\/v=306/\w=1000)/\Wd (Y4 mv pt mv.9) v:=by
 rcases h with ⟨w9,B⟩ | ⟨w9,n5,B⟩ | ⟨w9,n2,M1,M2,B⟩
 ·obtain p0|p1|t:=PC (N:=8) (w:=112) B D D.n8 ();show #[112,.inl #[(),w9],_,p0,p1,t]
 ·obtain p0|p1|t:=PC (N:=5) (w:=140) B D n5 ();show #[140,.inl #[(),w9],_,p0,p1,t]
 ·obtain p0|p1|t:=PC (N:=2) (w:=306) B D n2 ();show #[306,.inr #[rfl,w9],_,p0,p1,t]
theorem VR (h:Rg mv pt w) (D:cS mv pt lk) (F:IA mv pt lk) (RR:aG (Y4 mv pt mv.9) mv.9 R ps):∃E ν p,(E=928/\ν=2256/\p=1065/\w<=9\/E=720/\ν=1864/\p=859/\w<=9\/E=620/\ν=1880/\p=776/\w=1000)/\Wd R E/\mo (stM mv R ps) (FN mv pt R ps) (Kl mv lk R ps) ν p:=by
 rcases h with ⟨w9,B⟩ | ⟨w9,n5,B⟩ | ⟨w9,n2,M1,M2,B⟩
 ·obtain q|z:=nE (N:=8) (w:=112) (E:=928) B D F D.n8 () () () () () () () RR;show #[928,2256,1065,.inl #[rfl,rfl,rfl,w9],#[q,z.q0,z.q1,z.rt],(Ki z D F RR).up () ()]
 ·obtain q|z:=nE (N:=5) (w:=140) (E:=720) B D F n5 () () () () () () () RR;show #[720,1864,859,.inr (.inl #[rfl,rfl,rfl,w9]),#[q,z.q0,z.q1,z.rt],(Ki z D F RR).up () ()]
 ·obtain q|z:=nE (N:=2) (w:=306) (E:=620) B D F n2 () () () () () () () RR;show #[620,1880,776,.inr (.inr #[rfl,rfl,rfl,w9]),#[q,z.q0,z.q1,z.rt],(Ki z D F RR).up () ()]
theorem oX.gs (h:oX mv pt lk R A P L Ro U ps po pu) (RG:Rg mv pt w) (RL:Rg (aK mv mv.9) lk w) (F:IA mv pt lk):(∃ν p,mo A P L ν p/\ν+p<=26500)/\Wd U 8600/\∃ν p,mo (j6 A U pu) (BA A P U pu) (DJ A L U pu) ν p/\ν+p<=26500:=by
 obtain D1|l1|D2|l2|l3:=h._t;obtain Em|_:=h.emb;have D:=h.D;have n8:=D.n8;have et:(aK mv mv.9).9=mv.9:=aU;obtain E|ν|p|cs|wR|G:=VR RG D F h.RR;obtain v|cv|wY:=N6 RL D.turn;rw[et] at wY;rw[<- h.eA,<- h.eP,<- h.eL] at G;have le:=h.RR.le;have k:=Rv Em h.RR.2.1 D.mw D.lw A.9
 have wy:Wd (Y4 (aK mv mv.9) lk A.9) v:=wY.sub λxs hx=>by
  have:=GR (mv.9 - A.9) xs hx;rwa [show A.9+(mv.9 - A.9)=mv.9 by lia] at this
 have wk:Wd (Y4 (aK A A.9) L A.9) (E+v+3):=by
  rw[k];show Kc wR wy h.RR.2.1 (cJ (mv:=aK mv mv.9) et D.lw _) n8
 have wU:Wd U 8600:=(wk.unseen (cJ (mv:=aK A A.9) aU D1.lw _) D1.n8 () h.RO h.RN).up ();have wU':=wk.unseen (cJ (mv:=aK A A.9) aU D1.lw _) D1.n8 () h.RO h.RN;show #[#[ν,p,G,()],wU,_,_,VL G D1 () h.RN wU' (),()]
theorem oX.of (D:cS mv pt lk) (S:PJ mv pt lk a c ν p) (RR:aG (Y4 mv pt mv.9) mv.9 R ps) (RO:aG (Y4 (aK (stM mv R ps) (stM mv R ps).9) (Kl mv lk R ps) (stM mv R ps).9) (stM mv R ps).9 Ro po) (RN:aG (aO Ro po (stM mv R ps).9) (stM mv R ps).9 U pu):oX mv pt lk R (stM mv R ps) (FN mv pt R ps) (Kl mv lk R ps) Ro U ps po pu :=
 #[D,#[_,_,S.KF],RR,rfl,rfl,rfl,#[_,_,(S.st R ps RR).2.turn.kf (by rw[aU];show (zP D RR).1.n8) S.sz],RO,RN]
theorem Oh:∀t (x:List Rat),eU mv t (gF mv x)=eU mv (t+1) x
 | 0,_=>rfl
 | t+1,x=>by
  change gF mv (eU mv t (gF mv x))=gF mv (eU mv (t+1) x)
  rw[Oh t]
theorem KY (wm:∀xs∈mv,xs.9=mv.9) {y:List Rat} (ly:y.9=mv.9):∀t (x:List Rat),x.9=mv.9->bT (eU (aK mv mv.9) t x) y=bT x (eU mv t y)
 | 0,x,_=>rfl
 | t+1,x,lx=>by
  have lt:(aK mv mv.9).9=mv.9:=aU;rw[<- Oh,KY wm ly t _ (by rw[fv,lt]),uc wm lx (rG ly t)];rfl
theorem KW (s:Nat) (x:List Rat):∀t,eU mv t (eU mv s x)=eU mv (t+s) x
 | 0=>by rw[LB];rfl
 | t+1=>by
  rw[show t+1+s=(t+s)+1 by lia];change gF mv _=gF mv _
  rw[KW s x t]
theorem C1 (u:Nat):Y4 mv pt (u+1)=Y4 mv pt u++pt.11 (eU mv u):=by rw[<- pH,z7,uF,pH];simp
def UR (mv pt:Y3) (xs:List Rat) (t s:Nat):List Rat:=(Y4 mv pt s).11 λz=>bT (eU (aK mv mv.9) t xs) z
def L5 (mv pt lk:Y3) (t:Nat):Y3:=lk.11 λl=>(pt.11 (eU mv t)).11 λx=>bT l x
def uV (mv pt lk:Y3) (T:Nat):List (Y3):=(W0 T).11 (L5 mv pt lk)
theorem RA (D:cS mv pt lk) (lx:xs.9=mv.9) (t s:Nat):UR mv pt xs t (s+1)=UR mv pt xs t s++(pt.11 (eU mv (t+s))).11 λx=>bT xs x:=by
 unfold UR;rw[C1,bo];congr 1;rw[b7,b7];refine bV λp hp=>?_
 change bT _ (eU mv s p)=bT xs (eU mv (t+s) p)
 rw[KY D.mw (rG (D.pw p hp) s) t xs lx,KW]
theorem Mn (mv pt lk:Y3) (t n:Nat):((Y4 (aK mv mv.9) lk (t+1)).11 λy=>(Y4 mv pt n).11 λz=>bT y z)=((Y4 (aK mv mv.9) lk t).11 λy=>(Y4 mv pt n).11 λz=>bT y z)++lk.11 λxs=>UR mv pt xs t n:=by
 rw[C1,bo,b7];rfl
def W8 (mv pt lk:Y3) (T:Nat):Prop:=∀p∈pt,∀t,t<=T->(∀l∈lk,oZ l (eU mv t p))/\∀l∈mv,oZ l (eU mv t p)
theorem TB (h:Rg mv pt w) (D:cS mv pt lk) (F:IA mv pt lk) (T16:T<=16):W8 mv pt lk T:=λp hp t ht=>by
 obtain M|V|h0|h1|h2|g1|_|g3:=F
 have key:∀{M1 M2 V1 a1 a2 c:Nat},Bd mv pt M1 M2 V1 a1 a2 c->a1<=80->a2<=160->c<=33->mV 2000 2000 (eU mv t p):=λ{M1 M2 V1 a1 a2 c} B b1 b2 b3=>by
  have f:=B.Y4 D (t+1) _ (U6 (ao.mpr #[p,hp,rfl]));rw[vn] at f;have q1:a1*t<=80*16:=aE b1 ();have q2:c*(t+1)<=33*17:=aE b3 ();show #[_,_,bx (jS B.m1) B.m2,ai (qq (t:=t) B.b1 B.b2) (ak () ()),ak () (),f]
 have ft:mV 2000 2000 (eU mv t p):=by
  rcases h with ⟨_,B⟩ | ⟨_,_,B⟩ | ⟨_,_,M1,M2,B⟩
  ·show key B () () ()
  ·show key B () () ()
  ·show key B () () ()
 show #[λl hl=>#[400,120,_,_,#[M,V,h0,h1,h2,g3 l hl],ft,()],λl hl=>#[400,120,_,_,#[M,V,h0,h1,h2,g1 l hl],ft,()]]
theorem OY (h:Rg mv pt w) (hL:Rg (aK mv mv.9) lk w) (D:cS mv pt lk) (b!:mv.9*pt.9<=16):∃S,PR (sO mv pt lk mv.9) (mv.9*pt.9) S:=by
 have et:(aK mv mv.9).9=mv.9:=aU;obtain v|cv|wv:=N6 h D;obtain u|cu|wu:=N6 hL D.turn;rw[et] at wu;have wd:=Nj wv wu (cJ rfl D.pw _) (cJ (mv:=aK mv mv.9) et D.lw _) D.n8;refine Wd.acx wd () () λxs hx=>?_
 obtain y|_|rfl:=ao.mp hx;rw[af,iK]
end
def Ts (K:Y2) (H0 H:Hp) (g:Y3) (v:V):Prop:=∃q,v=V.ref q/\H0 q=none/\bw K H0 H q g
def GsV (K:Y2) (H0 H:Hp) (p:Addr) (gs:List (Y3)):Prop:=∃vs,H p=some (.lst vs)/\Xw (Ts K H0 H) gs vs
def Lz (K:Y2) (H:Hp) (l:Addr) (H':Hp) (ps:Y3) (v:V):Prop:=∃q Hq,v=V.ref q/\aL H Hq/\Hq l≠none/\Hq q=none/\bw K Hq H' q ps
section
variable {K:Y2} {l:Addr} {H H1 H':Hp} {ps:Y3} {v:V}
theorem Lz.same (h:Lz K H l H1 ps v) (e:aL H1 H'):Lz K H l H' ps v:=by obtain q|Hq|a|b|c|d|g:=h;show #[q,Hq,a,b,c,d,g.same e]
theorem Lz.upd {xs ys:List V} (h:Lz K H l H1 ps v) (g0:H1 l=some (.lst xs)):Lz K H l (upd H1 l (.lst ys)) ps v:=by obtain q|Hq|a|b|x|d|g:=h;show #[q,Hq,a,b,x,d,g._B (zi.set (J:=(λk=>k=l)) g0 rfl) d (λq' h z=>x (by rw[<- z];show h))]
theorem Lz.toF (h:Lz K H l H1 ps v):Ts K H H1 ps v:=by obtain q|Hq|a|b|_|d|g:=h;show #[q,a,b.17 d,g.weak b]
end
inductive KC (K:Y2) (vs:List V) (H:Hp) (Q:VK) (E9:XK):Prop
 | mk (x:Addr) (T:Nat) (H0:Hp) (mv pt lk:Y3):vs=[.ref x,.int T]->eV K H0 H x mv pt lk->cS mv pt lk->T<=16->W8 mv pt lk T->(∀r H',H r=none->aL H H'->GsV K H H' r (uV mv pt lk T)->Q (.ref r) H')->KC K vs H Q E9
inductive Kw (K:Y2) (vs:List V) (H:Hp) (Q:VK) (E9:XK):Prop
 | mk (x:Addr) (S:Nat) (H0:Hp) (mv pt lk:Y3):vs=[.ref x]->eV K H0 H x mv pt lk->cS mv pt lk->W8 mv pt lk (2*mv.9)->PR (sO mv pt lk mv.9) (mv.9*pt.9) S->(∀Z pz H',aL H H'->aG (sO mv pt lk mv.9) (mv.9*pt.9) Z pz->Q (.int pz.9) H')->Kw K vs H Q E9
def NI (K:Y2):Sp:=λvs H Q _=>∃b:Addr,vs=[.ref b]/\jE H b /\
 ∀r mv pt lk H',eV K H H' r mv pt lk->6<=mv.9->pt.9=2->cS mv pt lk->GF 1 (9^3) mv->GF 1 (9^3) pt->GF 1 (9^3) lk->jE H' b->di b H H'->Q (.ref r) H'
def NJ (K:Y2):Sp:=λvs H Q _=>∃b:Addr,vs=[.ref b]/\jE H b /\
 ∀t r (w:Nat) mv pt lk H',H' t=some (.tup [.ref r,.int w])->eV K H H' r mv pt lk->cS mv pt lk->mv.9*pt.9<=16->IA mv pt lk->Rg mv pt w->Rg (aK mv mv.9) lk w->1<=w->w<=1000->jE H' b->di b H H'->Q (.ref t) H'
theorem TQ (D:cS mv pt lk) (RR:aG (Y4 mv pt mv.9) mv.9 R ps) (RB:aG (pt++R.11 (gF mv)) mv.9 R ps) (S:Vn mv pt pus e) (wp:∀xs∈pus,xs.9=pt.9):Vn (stM mv R ps) (FN mv pt R ps) pus e:=λk hk=>by
 have hB:=kB RR;have hC:=jm RR;have lM:=fJ (mv:=mv) (rows:=j5 R ps mv.9) hC;have D':=oa D hC hB;have _v:∀xs∈pus,xs.9=(oO (stC R ps mv.9) pt).9:=λxs hx=>by unfold oO;rw[af];show wp xs hx
 have bh:=xT D' (m:=ps.9) (pus:=pus) (by rw[lM];show RR.le) _v (Kk D.mw RR RB) (by rw[lM];show Kj D.pw RR RB);rw[lM] at bh;have C:=vW D' (m:=ps.9) (pus:=pus) (by rw[lM];show RR.le) _v (by rw[lM];show λk hk i hi j h1 h2=>by rw[bh k hk j h1 h2,br]);rw[lM] at C;have lA:(stM mv R ps).9=ps.9:=uy hC RR.le;obtain N|ν|W|N0|N1|sW|f:=S k hk;refine #[N,ν,W,N0,N1,sW,λx hx=>?_];rcases hx with hx | hx
 ·rw[lA,show nH (stM mv R ps) (FN mv pt R ps) (K0 ps.9 0) pus k=_ from C k hk] at hx;obtain i|h1|rfl:=OF hx;rw[aS] at h1;rw[o5 (),NA D RR wp hk ()];show NF f
 ·show f x (.inr hx)
theorem oX.aat (h:oX mv pt lk R A P L Ro U ps po pu) (RG:Rg mv pt w) (RL:Rg (aK mv mv.9) lk w) (F:IA mv pt lk) (ST:Xn mv pt T) (lp:pus.9=2+T) (wp:∀xs∈pus,xs.9=pt.9/\∀x∈xs,Dr (max w 6) x) :
  ((∀k pu,pus[k]?=some pu->PK mv pt (nH mv pt (K0 mv.9 0) pus k) pu)/\∀k,k<=pus.9->∀ys∈lk,oZ ys (nH mv pt (K0 mv.9 0) pus k))/\(∀k qu,pus[k]?=some qu->PK (j6 A U pu) (BA A P U pu) (nH (j6 A U pu) (BA A P U pu) (K0 (j6 A U pu).9 0) pus k) qu)/\(∀k,k<=pus.9->∀ys∈DJ A L U pu,oZ ys (nH (j6 A U pu) (BA A P U pu) (K0 (j6 A U pu).9 0) pus k))/\MY (j6 A U pu) (BA A P U pu) (DJ A L U pu) pus pus.9=MY mv pt lk pus pus.9:=by
 have D:=h.D;have n8:=D.n8;obtain D1|l1|D2|l2|l3:=h._t;obtain M1|M2|V9|a1|a2|c9|e7|d:=U0 RG D ST lp wp;have _v:∀xs∈pus,xs.9=pt.9:=λxs hx=>(wp xs hx).1
 obtain a|c|KF:=h.KF;obtain a'|c'|KL:=h.KL;have et:(aK A A.9).9=A.9:=aU;have RB:=Nz KF n8 D.mw D.pw h.RR;have RB1:=Nz KL (by rw[et];show D1.n8) (λxs hx=>by rw[et];show eJ xs hx) (λxs hx=>by rw[et];show D1.lw xs hx) (R:=Ro) (ps:=po) (by rw[et];show h.RO);rw[et] at RB1;obtain qa|Ea|Qa:=Ut RG D F h.RR;obtain za|sza:=d.z n8 F Qa;have ta:=QY za D h.RR RB d.S _v sza d.e1 (ai Qa.2.2.1 ());have S1:=TQ D h.RR RB d.S _v;rw[<- h.eA,<- h.eP] at S1;obtain ⟨ν,p,G,sz⟩|wU|_:=h.gs RG RL F;obtain N|h0|h1|g1|g2|g3:=G;obtain q|q0|q1|t:=wU;have lP:P.9=pt.9:=by rw[h.eP];unfold FN dw oO;rw[af,af]
 have B:Bd A P N N (2^p) ν ν (p+4):=#[h0,h0,h1,h1,g1,g2,by rw[d6 p,aV];show au _ (by have:=D1.n8;lia)];have zb:zJ A P L U N N (2^p) ν ν (p+4) q 8600:=#[B,q0,q1,t,(),(),ai (au _ D1.n8) (),N,2^p,h0,ai h1 (ak () ()),ak () (),g3];have tb:=QZ zb D1 h.RO RB1 h.RN S1 (λxs hx=>by rw[lP];show _v xs hx) (by have:=d.e1;lia) d.e1 ();refine #[#[d.nx,λk hk=>d.lf F hk],by rw[l3];show tb.nx,by rw[l3];show tb.lf,tb.lo.4 ?_];rw[h.eA,h.eP,h.eL];show ta.lo
def Nx (N:St->Hp->Prop) (u:TS) (D:Ends):Prop:=∀σ H,u D σ H->N σ H
theorem Qz (h:∀N:St->Hp->Prop,Nx N u D->t { D with nx:=N } σ H):Vy t u D σ H:=h (u D) λ_ _ q=>q
theorem VX (hN:Nx N u D) (h:u D σ H):N σ H:=hN _ _ h
theorem gV {K:Y2}:(HP CX P w K mg base N qual scope f cd A outer s H E).nox.K=K:=rfl
end L2
open L2
local macro_rules | `(tactic| walk_at "hl") => `(tactic| first | (show _ ≤ XG; with_unfolding_all decide) | (with_unfolding_all exact (by decide)))
local macro_rules | `(tactic| walk_at "sq") => `(tactic| first | with_reducible assumption | with_reducible exact nD.of (by assumption) | with_reducible exact bY.of (by assumption) | with_reducible exact nD.of aN | with_reducible exact bY.of aN | assumption)
local macro_rules | `(tactic| walk_at "sc") => `(tactic| first | (with_reducible show (0 : Int) < _; decide) | with_reducible exact Sb (by decide) (by decide) | with_reducible exact E7 (by decide) (by decide) | with_reducible exact cpow_of (by decide) (by decide) (by decide))
def walkOf(x:String):Lean.MacroM (Lean.TSyntax ``Lean.Parser.Tactic.tacticSeq):=
 let i:=Lean.mkIdent (.mkSimple (x.drop 1).toString)
 match x.front with
 |'0'=>`(tacticSeq|with_reducible refine $i ?_)
 |'1'=>`(tacticSeq|(with_reducible refine' $i ?h ?_);case h=>with_unfolding_all rfl)
 |'3'=>`(tacticSeq|(with_reducible refine' $i ?h ?_);case h=>walk_at "sc")
 |'4'=>`(tacticSeq|(with_reducible refine' $i ?h ?k ?l ?_);(case h=>with_reducible first|assumption|exact aN);(case k=>with_unfolding_all rfl);case l=>with_unfolding_all rfl)
 |'5'=>`(tacticSeq|(with_reducible refine' $i ?h ?_);case h=>with_reducible assumption)
 |'6'=>`(tacticSeq|with_reducible refine $i ?_;intro N hN)
 |_=>`(tacticSeq|(with_reducible refine' $i ?h ?k ?_);(case h=>walk_at "sq");case k=>with_unfolding_all rfl)
local macro_rules | `(tactic| walk_at "rd") => do
 let a←("1T5 0QQ 0VW 0Uc 0WW 0Od 0QT 6Qz 0Um 2Je 1QR 2cK 0Qw 0T7 0Uh 0VY 5VX 0Qx 0V4 3gL 0QE 0T6 4fV 0Wj 0Ob 0T4 0Oe 0VS 0Uj 0QL 0Oa 0VT 0Ue 0Ul 2QK 0Rw 0Uo 0Uk 0Wk 0VV 0VZ 0QP 0Ub 0QM 0Ud 0Qy 0VU 0WX 0QI 0Wl 0QC 0rd_eqS 0QV 0SY 0Ui 0LZ 0QJ 0Oc 0QG 0Ua 0QF 0QU 2QN 0rd_neS 0rd_eqB 0rd_neB 0Jd 0rd_retN 0rd_orV 0QD 1rd_aug 0Ug 0N9 0rd_bm0 0rd_brk 0rd_cont".splitOn " ").toArray.mapM walkOf
 `(tactic|first $[|$a]*|with_reducible refine ⟨_, rfl, ?_⟩|with_reducible refine ⟨_, _, rfl, ?_⟩)
namespace L2
open PySem PySem.Spec PyProof.Rows Nm
section
variable {X:Cx} {e e1 e2 e3:Expr} {te t1 t2 t3:TE}
theorem eN (i:Nat) {x:Str} {pos:Pos} (hN:X.N.33:=by walk_at "u") (hi:X.N[i]?=some x:=by rfl) (hx:Loc X.env.scope x:=by first | show Or.inl rfl | show Or.inr rfl) (hf:X.fn x=true\/X.env.scope.names.13 x=some .local:=by first | show .inl rfl | show .inr rfl | assumption):PG X (.Name x pos) (C3 i):=Q4 hN hi hx hf
theorem eT (i:Nat) {x:Str} {pos pos':Pos} (hN:X.N.33) (he:PE X e te) (hi:X.N[i]?=some x:=by rfl) (hx:Loc X.env.scope x:=by first | show Or.inl rfl | show Or.inr rfl) (hs:swapsWith e (some (.Name x pos')) pos.line X.16=pure false:=by rfl) (hf:X.fn x=true\/X.env.scope.names.13 x=some .local:=by first | show .inl rfl | show .inr rfl | assumption):PS X (.Assign [.Name x pos'] e pos) (Nu te (C3 i)):=Uu hN hi hx he hs hf
theorem dg (a:PE X e te) (h0:Xy [e] X.16=(false,eval e X.16) :: Xy [] X.16:=by rfl):PA X [e] (ir te xP):=(fu a gA h0)
theorem cX (a:PE X e te) (b:PE X e1 t1) (h0:Xy [e,e1] X.16=(false,eval e X.16) :: Xy [e1] X.16:=by rfl) (h1:Xy [e1] X.16=(false,eval e1 X.16) :: Xy [] X.16:=by rfl):PA X [e,e1] (ir te (ir t1 xP)):=(fu a (fu b gA h1) h0)
theorem yw (a:PE X e te) (b:PE X e1 t1) (c:PE X e2 t2) (h0:Xy [e,e1,e2] X.16=(false,eval e X.16) :: Xy [e1,e2] X.16:=by rfl) (h1:Xy [e1,e2] X.16=(false,eval e1 X.16) :: Xy [e2] X.16:=by rfl) (h2:Xy [e2] X.16=(false,eval e2 X.16) :: Xy [] X.16:=by rfl):PA X [e,e1,e2] (ir te (ir t1 (ir t2 xP))):=(fu a (fu b (fu c gA h2) h1) h0)
theorem MX (a:PE X e te) (b:PE X e1 t1) (c:PE X e2 t2) (d:PE X e3 t3) (h0:Xy [e,e1,e2,e3] X.16=(false,eval e X.16) :: Xy [e1,e2,e3] X.16:=by rfl) (h1:Xy [e1,e2,e3] X.16=(false,eval e1 X.16) :: Xy [e2,e3] X.16:=by rfl) (h2:Xy [e2,e3] X.16=(false,eval e2 X.16) :: Xy [e3] X.16:=by rfl) (h3:Xy [e3] X.16=(false,eval e3 X.16) :: Xy [] X.16:=by rfl):PA X [e,e1,e2,e3] (ir te (ir t1 (ir t2 (ir t3 xP)))):=(fu a (fu b (fu c (fu d gA h3) h2) h1) h0)
abbrev b9:=@pv X 0
abbrev cV:=@pv X 1
abbrev eI:=@pv X 2
abbrev jH:=@pv X 3
abbrev wH:=@pv X 4
abbrev vM:=@pv X 5
abbrev sU:=@pv X 6
abbrev CQ:=@pv X 7
abbrev Jf:=@pv X 8
abbrev sC (N:List Str) (k:Nat) (st:Stmt):Prop:=uO N (N.18 k) (eZ st)
end
end L2
local macro_rules | `(tactic| walk_at "w") => `(tactic| repeat walk_at "rd")
local macro_rules | `(tactic| walk_at "d") => `(tactic| exact ⟨rfl,rfl,rfl,by decide +kernel,rfl,by decide +kernel,by decide +kernel⟩)
namespace Lw
open PySem PySem.Spec PyProof.Rows L2 Nm
abbrev bd (P:Yl):Prop:=P.given.tree=none
local macro_rules | `(tactic| exists $e) => `(tactic| (walk_at "w";refine $e))
local macro_rules | `(tactic| walk_at "n") => `(tactic| (intro vs H Q E h;repeat first|(subst_vars;rfl)|(cases h;subst_vars;rfl)|rcases h with ⟨_,h⟩))
local macro_rules | `(tactic| walk_at "i") => `(tactic| set_option tactic.hygienic false in intros)
local macro_rules | `(tactic| walk_at "s") => `(tactic| refine qo (by dsimp only [Vl] <;> rfl) ?_)
local macro_rules | `(tactic| left) => `(tactic| (walk_at "s";try rw[gV]))
local macro_rules | `(tactic| walk_at "d") => `(tactic| exact ⟨rfl, rfl, rfl, by decide +kernel, rfl, by decide +kernel, by decide +kernel⟩)
local macro_rules | `(tactic| walk_at "u") => `(tactic| (change Yu (α := Str) (_::_);decide +kernel))
set_option maxHeartbeats 4000000
def top (i:Nat):Stmt:=PySem.Challenge.pw_helmsum_k75_whole_smallest.main.body.getD i (.Pass #[0,0,0,0])
abbrev vL:Stmt:=top 65
abbrev tH:Stmt:=top 66
abbrev nI:Stmt:=top 82
abbrev tU:Stmt:=top 84
abbrev vJ:Stmt:=top 67
abbrev vH:Stmt:=top 68
abbrev tO:Stmt:=top 75
abbrev tL:Stmt:=top 70
abbrev yk:Stmt:=top 77
abbrev rB:Stmt:=top 79
abbrev lQ:Stmt:=top 85
abbrev pW:Stmt:=top 72
abbrev vI:Stmt:=top 73
abbrev tS:Stmt:=top 78
abbrev rA:Stmt:=top 80
abbrev pU:Stmt:=top 86
abbrev tz:Stmt:=top 48
abbrev vF:Stmt:=top 10
abbrev lO:Stmt:=top 11
abbrev tG:Stmt:=top 13
abbrev As:Stmt:=top 17
abbrev pT:Stmt:=top 49
abbrev eK:Stmt:=inClass (top 50) 0
abbrev pY:Stmt:=top 81
abbrev tT:Stmt:=top 87
abbrev vK:Stmt:=top 74
abbrev yj:Stmt:=top 83
abbrev pV:Stmt:=top 101
abbrev tJ:Stmt:=top 71
abbrev tV:Stmt:=top 69
abbrev rC:Stmt:=top 76
abbrev tW:Stmt:=top 94
abbrev tI:Stmt:=top 102
abbrev pR:Stmt:=top 24
abbrev tE:Stmt:=top 19
abbrev kG:Stmt:=top 12
abbrev m7:Stmt:=top 18
abbrev qZ:Stmt:=top 31
abbrev yi:Stmt:=top 33
abbrev rg:Stmt:=top 32
abbrev DW:Stmt:=top 34
abbrev Ar:Stmt:=top 14
abbrev ya:Stmt:=top 35
abbrev vC:Stmt:=top 21
abbrev tD:Stmt:=top 26
abbrev m6:Stmt:=top 28
abbrev ye:Stmt:=top 29
abbrev yg:Stmt:=top 39
abbrev xZ:Stmt:=top 20
abbrev yh:Stmt:=top 23
abbrev qX:Stmt:=top 25
abbrev vG:Stmt:=top 54
abbrev oE:Stmt:=top 59
abbrev yc:Stmt:=top 60
abbrev qV:Stmt:=top 41
abbrev pQ:Stmt:=top 42
abbrev qU:Stmt:=top 43
abbrev fP:Stmt:=inClass (top 50) 3
abbrev DY:Stmt:=top 15
abbrev yd:Stmt:=top 37
abbrev pS:Stmt:=top 30
abbrev DX:Stmt:=top 38
abbrev pP:Stmt:=top 52
abbrev qY:Stmt:=top 55
abbrev qT:Stmt:=top 57
abbrev tF:Stmt:=top 62
abbrev m5:Stmt:=top 56
abbrev oC:Stmt:=top 61
abbrev vD:Stmt:=top 63
abbrev lV:Stmt:=top 91
abbrev pX:Stmt:=top 92
abbrev oF:Stmt:=top 93
abbrev lT:Stmt:=top 99
abbrev m9:Stmt:=top 98
abbrev rE:Stmt:=top 95
abbrev tP:Stmt:=top 96
abbrev rj:Stmt:=top 97
abbrev tK:Stmt:=top 89
abbrev rh:Stmt:=top 88
abbrev tQ:Stmt:=top 90
abbrev rD:Stmt:=top 100
abbrev NV:Stmt:=top 103
set_option genInjectivity false in
set_option genSizeOf false in
structure Ads where
 J5:Addr
 JO:T2
 Ie:Addr
 HB:T2
 Fn:Addr
 EV:T2
 Iq:Addr
 HL:T2
 JZ:Addr
 JM:T2
 JX:Addr
 JK:T2
 Ik:Addr
 HG:T2
 Ij:Addr
 HF:T2
 MU:Addr
 ME:T2
 Fq:Addr
 EY:T2
 yT:Addr
 yN:T2
 Cp:Addr
 Cb:T2
 JY:Addr
 JL:T2
 Io:Addr
 HJ:T2
 Fp:Addr
 EX:T2
 Cn:Addr
 BZ:T2
 HY:Addr
 Hr:T2
 JV:Addr
 JH:T2
 yS:Addr
 yM:T2
 Ic:Addr
 Hw:T2
 PH:Addr
 Pt:T2
 Cm:Addr
 BY:T2
 k9:Addr
 k6:T2
 Cr:Addr
 Cd:T2
 Ip:Addr
 HK:T2
 J0:Addr
 JN:T2
 MT:Addr
 MD:T2
 Co:Addr
 Ca:T2
 Ih:Addr
 HD:T2
 Ir:Addr
 HM:T2
 Fs:Addr
 EZ:T2
 Iu:Addr
 HN:T2
 Ig:Addr
 HC:T2
 Cj:Addr
 BW:T2
 Ia:Addr
 Hu:T2
 xD:Addr
 xy:T2
 zH:Addr
 zB:T2
 Fj:Addr
 ES:T2
 MS:Addr
 MC:T2
 Fl:Addr
 ET:T2
 Si:Addr
 RT:T2
 PD:Addr
 Pp:T2
 ML:Addr
 Mv:T2
 JT:Addr
 JF:T2
 HZ:Addr
 Ht:T2
 zG:Addr
 zA:T2
 MP:Addr
 My:T2
 MQ:Addr
 Mz:T2
 MK:Addr
 Mu:T2
 MR:Addr
 MB:T2
 Fh:Addr
 EO:T2
 JW:Addr
 JJ:T2
 Bm:Addr
 Bc:T2
 MM:Addr
 Mw:T2
 Fg:Addr
 EN:T2
 Ci:Addr
 BV:T2
 Ff:Addr
 EM:T2
 nB:Addr
 nA:T2
 Sk:Addr
 RW:T2
 MO:Addr
 Mx:T2
 Ck:Addr
 BX:T2
 Sj:Addr
 RU:T2
 Cg:Addr
 BU:T2
 Fi:Addr
 ER:T2
 Fe:Addr
 EL:T2
 Ib:Addr
 Hv:T2
 zF:Addr
 zz:T2
 Bl:Addr
 A9:T2
 JU:Addr
 JG:T2
 yV:Addr
 yP:T2
 Cq:Addr
 Cc:T2
 Bn:Addr
 Be:T2
 yU:Addr
 yO:T2
 zI:Addr
 zC:T2
 Fv:Addr
 E5:T2
 Il:Addr
 HH:T2
 Fo:Addr
 EW:T2
 Ii:Addr
 HE:T2
 Fm:Addr
 EU:T2
 Im:Addr
 HI:T2
 Fu:Addr
 E4:T2
 To:Addr
 Tj:T2
 Zt:Addr
 E!:Addr
 Z7:Tok
 _y:Tok
 _k:Tok
 Y0:Addr
structure Txt (K:W.Frag) (mg:Str->Option Value) (Z:Ads):Prop where
 pC:Df K mg "_law_bag" vL ["_law_script"] Z.J5 Z.JO
 bc:Df K mg "_law_take" tH ["_law_bag_here","_law_many"] Z.Ie Z.HB
 mI:Df K mg "_law_sizes" nI ["_law_bag_here"] Z.Fn Z.EV
 jy:Df K mg "_law_line" tU ["_law_bag_here","_law_n"] Z.Iq Z.HL
 eF:Df K mg "_law_low" vJ ["_law_top","_law_bottom"] Z.JZ Z.JM
 je:Df K mg "_law_sum" vH ["_law_one","_law_other"] Z.JX Z.JK
 kT:Df K mg "_law_plus" tO ["_law_one","_law_other"] Z.Ik Z.HG
 ip:Df K mg "_law_prod" tL ["_law_one","_law_other"] Z.Ij Z.HF
 jg:Df K mg "_law_by" yk ["_law_by_here","_law_row_here"] Z.MU Z.ME
 jO:Df K mg "_law_mixed" rB ["_law_bag_here","_law_move_here","_law_put","_law_look"] Z.Fq Z.EY
 iH:Df K mg "_law_two_lines" lQ ["_law_bag_here"] Z.yT Z.yN
 kU:Df K mg "_law_number" pW ["_law_bag_here","_law_wide"] Z.Cp Z.Cb
 jf:Df K mg "_law_row" vI ["_law_bag_here","_law_many","_law_wide"] Z.JY Z.JL
 nW:Df K mg "_law_move" tS ["_law_bag_here","_law_n","_law_way","_law_first","_law_wide"] Z.Io Z.HJ
 mK:Df K mg "_law_parts" rA ["_law_bag_here","_law_n","_law_ins","_law_outs","_law_wide"] Z.Fp Z.EX
 kR:Df K mg "_law_system" pU ["_law_bag_here"] Z.Cn Z.BZ
 ju:Df K mg "want_list" tz ["thing","at","most"] Z.HY Z.Hr
 mT:Df K mg "is_whole" vF ["thing"] Z.JV Z.JH
 eO:Df K mg "common_divisor" lO ["one","other"] Z.yS Z.yM
 nO:Df K mg "is_number" tG ["thing"] Z.Ic Z.Hw
 uL:Df K mg "is_row" As ["thing","many"] Z.PH Z.Pt
 gP:Df K mg "copied_rows" pT ["things","wide"] Z.Cm Z.BY
 fY:Binds K Z.k6 ["self","move","put","look"] []
 pJ:M7 K "__init__" "System.__init__" eK Z.k9 Z.k6
 gQ:Df K mg "_law_copied" pY ["_law_grid"] Z.Cr Z.Cd
 nX:Df K mg "_law_made" tT ["_law_parts_here"] Z.Ip Z.HK
 ko:Df K mg "_law_dot" vK ["_law_one","_law_other"] Z.J0 Z.JN
 j9:Df K mg "_law_on" yj ["_law_grid","_law_row_here"] Z.MT Z.MD
 kS:Df K mg "_law_pulses" pV ["_law_parts_here","_law_steps_here"] Z.Co Z.Ca
 nQ:Df K mg "_law_quot" tJ ["_law_one","_law_other"] Z.Ih Z.HD
 nY:Df K mg "_law_less" tV ["_law_one","_law_other"] Z.Ir Z.HM
 jP:Df K mg "_law_minus" rC ["_law_one","_law_other"] Z.Fs Z.EZ
 jz:Df K mg "_law_lean" tW ["_law_rows","_law_wide"] Z.Iu Z.HN
 nP:Df K mg "_law_rank" tI ["_law_parts_here"] Z.Ig Z.HC
 gO:Df K mg "grid_turned" pR ["grid","wide"] Z.Cj Z.BW
 jv:Df K mg "tops_over" tE ["row","bottom"] Z.Ia Z.Hu
 ik:Df K mg "common_multiple" kG ["wholes"] Z.xD Z.xy
 fD:Df K mg "common_bottom" m7 ["row"] Z.zH Z.zB
 mF:Df K mg "first_with" qZ ["lines","begin","place"] Z.Fj Z.ES
 rX:Df K mg "cleared" yi ["lines","at","place","before"] Z.MS Z.MC
 mG:Df K mg "brought_up" rg ["lines","at","to"] Z.Fl Z.ET
 xj:Df K mg "swept" DW ["rows","wide"] Z.Si Z.RT
 ou:Df K mg "lowest" Ar ["top","bottom"] Z.PD Z.Pp
 j7:Df K mg "reduced" ya ["rows","wide"] Z.ML Z.Mv
 kj:Df K mg "unit_row" vC ["many","at"] Z.JT Z.JF
 nN:Df K mg "unit_grid" tD ["many"] Z.HZ Z.Ht
 jx:Df K mg "leading_place" m6 ["row"] Z.zG Z.zA
 me:Df K mg "leading" ye ["rows"] Z.MP Z.My
 rW:Df K mg "inverse" yg ["grid"] Z.MQ Z.Mz
 rT:Df K mg "row_dot" xZ ["one","other"] Z.MK Z.Mu
 j8:Df K mg "grid_on" yh ["grid","row"] Z.MR Z.MB
 jM:Df K mg "grid_times" qX ["one","other","wide"] Z.Fh Z.EO
 pB:Df K mg "in_basis" vG ["system","rows"] Z.JW Z.JJ
 fR:Df K mg "first_places" oE ["rows","many"] Z.Bm Z.Bc
 oM:Df K mg "part_by" yc ["system","found"] Z.MM Z.Mw
 mE:Df K mg "moved_rows" qV ["system","rows"] Z.Fg Z.EN
 kO:Df K mg "reach_grown" pQ ["system","steps"] Z.Ci Z.BV
 jL:Df K mg "reach_rows" qU ["system","steps"] Z.Ff Z.EM
 qB:Vc K Z.Y0 "turned" Z.nB
 sP:Binds K Z.nA ["self"] []
 sQ:M7 K "turned" "System.turned" fP Z.nB Z.nA
 xl:Df K mg "minus" DY ["one","other"] Z.Sk Z.RW
 rV:Df K mg "null_at" yd ["rows","wide","at"] Z.MO Z.Mx
 jc:Df K mg "free_places" pS ["rows","wide"] Z.Ck Z.BX
 xk:Df K mg "nulls" DX ["rows","wide"] Z.Sj Z.RU
 kM:Df K mg "unseen_rows" pP ["system","steps"] Z.Cg Z.BU
 jN:Df K mg "free_units" qY ["rows","wide"] Z.Fi Z.ER
 mD:Df K mg "seen_first" qT ["system"] Z.Fe Z.EL
 kN:Df K mg "seen_part" tF ["system"] Z.Ib Z.Hv
 jw:Df K mg "steered_first" m5 ["system"] Z.zF Z.zz
 iu:Df K mg "steered_part" oC ["system"] Z.Bl Z.A9
 kn:Df K mg "smallest" vD ["system"] Z.JU Z.JG
 iJ:Df K mg "_law_is_number" lV ["_law_thing"] Z.yV Z.yP
 kW:Df K mg "_law_is_row" pX ["_law_thing","_law_many"] Z.Cq Z.Cc
 fU:Df K mg "_law_is_grid" oF ["_law_thing","_law_many","_law_wide"] Z.Bn Z.Be
 iI:Df K mg "_law_is_system" lT ["_law_thing","_law_n","_law_ins","_law_outs"] Z.yU Z.yO
 d7:Df K mg "_law_parts_of" m9 ["_law_system_here"] Z.zI Z.zC
 mL:Df K mg "_law_added" rE ["_law_parts_here","_law_steps_here"] Z.Fv Z.E5
 nU:Df K mg "_law_over" tP ["_law_parts_here","_law_row_here"] Z.Il Z.HH
 mJ:Df K mg "_law_shown" rj ["_law_parts_here","_law_steps_here"] Z.Fo Z.EW
 nR:Df K mg "_law_puts" tK ["_law_bag_here","_law_parts_here","_law_steps_here","_law_wide"] Z.Ii Z.HE
 mH:Df K mg "_law_steps" rh ["_law_bag_here","_law_parts_here"] Z.Fm Z.EU
 nV:Df K mg "_law_next" tQ ["_law_parts_here","_law_state","_law_puts_here"] Z.Im Z.HI
 jQ:Df K mg "_law_looks" rD ["_law_parts_here","_law_puts_here"] Z.Fu Z.E4
 Tu:M7 K "law" "law" NV Z.To Z.Tj
 abs:mg "abs"=none
 len:mg "len"=none
 min:mg "min"=none
 int:mg "int"=none
 range:mg "range"=none
 isinstance:mg "isinstance"=none
 list:mg "list"=none
 bool:mg "bool"=none
 tuple:mg "tuple"=none
 all:mg "all"=none
 enumerate:mg "enumerate"=none
 zip:mg "zip"=none
 sum:mg "sum"=none
 max:mg "max"=none
 Zw:mg "NOUGHT"=some (.ref Z.Zt)
 Zu:∀H,nD K H Z.Zt [.int 0,.int 1]
 r!:mg "ONE"=some (.ref Z.E!)
 l!:∀H,nD K H Z.E! [.int 1,.int 1]
 Zr:mg "MOST_STATES"=some (.int 8 Z.Z7)
 ZE:mg "MOST_PUTS"=some (.int 4 Z._y)
 Zy:mg "MOST_LOOKS"=some (.int 4 Z._k)
 Zg:mg "System"=some (.ref Z.Y0)
 Y1:Na K Z.Y0
 Zf:lC K Z.Y0 "move"
 Y9:lC K Z.Y0 "states"
 Zn:lC K Z.Y0 "put"
 _K:lC K Z.Y0 "ins"
 Zh:lC K Z.Y0 "look"
 _n:lC K Z.Y0 "outs"
 Zj:Mk K Z.Y0 Z.k9
 ZI:(∀{H:Hp} {a dx:Addr} {fs:List (Str×V)},H a=some (.ins Z.Y0 dx fs)->vY K H (.ref a) (.ref Z.Y0))/\W.kitOne K (.ref Z.Y0) (.ref Z.Y0)=some true
section
variable {K:W.Frag}
theorem Gj:sC ["_law_script"] 1 vL:=by walk_at "d"
theorem GD (T:Txt K mg Z) (ac:bd P):T.pC.o P w base 1 (NP K):=by
 refine T.pC.F.k Gj ?_;walk_at "i";obtain a|ns|rfl|hS|Za|k:=h;refine #[_,(aD (aW (dW (MX aw aw aw (cg ["_law_cell"] [] [] (cA (tZ DF b9 wN (wM aw))) (λ_=>(eN 0)) (λ_=>cp) (λ_=>(bH xB (by rfl) T.abs YB (dg b9)))))))),?_];left
 exists #[a,_,rfl,hS,λl hl=>?_];have _p:(uQ (ns.11 V.int) none (some 63)).9<=63:=ai (zh _ _ _) (by simpa using Za);refine #[l,rfl,#[_,bY.of aN],?_];refine d9 (K:=K) (a:=l) (xs:=uQ (ns.11 V.int) none (some 63)) (λi ys H'=>H'=upd H l (.lst (uQ (ns.11 V.int) none (some 63)))/\∃cs:List Int,ys=cs.11 V.int/\∀x∈cs,0<=x) (ai _p ()) #[rfl,[],rfl,λ_ z=>nomatch z] (λi ys H' _ #[e,_]=>by subst e;show bY.of aN) ?_ ?_
 ·rintro i x ys H' hx hi ⟨rfl,cs,rfl,d!⟩
  obtain ⟨z,rfl⟩:∃z,x=V.int z:=by
   have hm:x∈ns.11 V.int:=Ds (bL (av hx));obtain z|_|e:=ao.mp hm;show #[z,e.19]
  exists #[rfl,cs++[if z < 0 then -z else z],by simp,λx hx=>?_];rcases aA.mp hx with hx | hx
  ·show d! x hx
  ·have e:x=if z < 0 then -z else z:=by simpa using hx
   subst e
   split <;> lia
 ·rintro ys H' hy ⟨rfl,cs,rfl,d!⟩ p hp;exists #[by change 4<=XG;decide,λb hb=>?_];have n1:b≠p:=λz=>by rw[z,aN] at hb;cases hb
  have hb1:(upd H l (.lst (uQ (ns.11 V.int) none (some 63)))) b=none:=by rw[bK n1] at hb;show hb
  have s1:aL H (upd H l (.lst (uQ (ns.11 V.int) none (some 63)))):=aL.new hl;refine k b _ (s1.54 hb1) #[p,0,1234567891,0,cs,aN,by rw[bK n1.19];show aN,(),(),(),d!] ((s1.4 (aL.new hp)).4 (aL.new hb))
theorem fj:sC ["_law_bag_here","_law_many","_law_more","_law_cell","_law_value","_law_first","_law_second"] 2 tH:=by walk_at "d"
theorem bF (T:Txt K mg Z) (ac:bd P):T.bc.o P w base 1 Qm:=by
 refine T.bc.F.k fj ?_;walk_at "i";obtain p|n|rfl|⟨q,a,b,c,cs,hp,hq,ha,hc,_p,d!⟩|hn|hn2|k:=h;have nqp:q≠p:=MJ hp hq
 refine #[_,(kg (dr (bE gN (a7 ck b9 aw) aw (bR _)) (ay (eT 2 fj.nd aw)
  (kg (dr (bE t9 (a7 ck b9 aw) (bH aY (by rfl) T.36 aT (dg (a7 ck b9 aw))) (bR _)) (ay (eT 3 fj.nd (a7 ck (a7 ck b9 aw) (a7 ck b9 aw)))
  (ay (Q0 b9 aw O2 aw UP set_list)
  (ay (dr (bE CU jH aw (bR _)) (aD (gM jH (i8 b9 aw set_list))) cy)
  (aD (eT 2 fj.nd (bS gB (bS p5 jH aw) aw)))))) cy)
  (aD (gM (bS p5 (bS gB (bS c7 (a7 ck b9 aw) aw) eI) aw) (i8 b9 aw set_list))))) cy)
  (ay (dr (bE wZ (a7 ck b9 aw) aw (bR _)) (ay (eT 4 fj.nd (bS p5 (a7 ck b9 aw) cV))
  (ay (gM (bS (jK rfl fj rfl rfl rfl ac (vg hr)) (a7 ck b9 aw) cV) (i8 b9 aw set_list))
  (aD (aW wH)))) cy)
  (ay (eT 5 fj.nd (bS p5 (bS c7 (a7 ck b9 aw) aw) aw))
  (ay (eT 6 fj.nd (bS p5 (bS c7 vM aw) aw))
  (ay (dr (bE wZ cV aw (bR _)) (aD (aW (bS p5 (bS gB (bS c7 sU aw) vM) cV))) cy)
  (aD (aW (bS p5 (bS (jK rfl fj rfl rfl rfl ac (vg hr)) sU aw) cV)))))))),?_]
 left
 refine #[λσ' H'=>∃(x y:Option V) (a' b' c':Int),σ'=[some (.ref p),some (.int n),x,y,none,none,none]/\H' p=some (.lst [.int a',.int b',.int c',.ref q])/\0<=a'/\0<=c'/\c'<=cs.9/\di p H H',?_,?_]
 ·exists jh (λh0=>?_) (λh0=>?_)
  ·exists #[λσ' H'=>∃(m:Int) (y:Option V) (a' c':Int),σ'=[some (.ref p),some (.int n),some (.int m),y,none,none,none]/\H' p=some (.lst [.int a',.int b,.int c',.ref q])/\0<=a'/\0<=c'/\c'<=cs.9/\di p H H',?_,?_]
   ·exists #[_,_,rfl,.inl (bY.of hq),?_];exists jh (λh1=>?_) (λh1=>?_)
    ·have h1':c < cs.9:=by simpa using of_decide_eq_true h1
     obtain ⟨z,hz⟩:∃z,cs[c.27]?=some z:=#[_,ae ()];have hz0:0<=z:=d! z (av hz);exists cK (bY.of hq) (v:=.int z) ?_ ?_
     ·have:=fw (xs:=cs.11 V.int) (j:=c.27) (v:=.int z) (by rw[az,hz];rfl);rwa [Int.toNat_of_nonneg hc] at this
     exists jh (λh2=>?_) (λh2=>?_)
     ·exists #[_,_,z,c+1,rfl,aN,hz0,(),(),(di.set hp).4 (di.set aN)]
     ·exists #[_,_,a,c+1,rfl,aN,ha,(),(),di.set hp]
    ·exists #[_,_,a,c,rfl,hp,ha,hc,_p,di.refl _]
   ·rintro σ' H' ⟨m,y,a',c',rfl,L!,O!,_a,w!,u'⟩;exists #[_,_,a',_,c',rfl,aN,O!,_a,w!,u'.4 (di.set L!)]
  ·exists #[_,_,a,b,c,rfl,hp,ha,hc,_p,di.refl _]
 ·rintro σ' H' ⟨x,y,a',b',c',rfl,L!,O!,_a,w!,u'⟩;have hq':H' q=some (.lst (cs.11 V.int)):=u'.1 q _ hq nqp
  have sn:Sz 35996000 n:=by
   change n.15 < 2^35996000
   show bQ (show n.15 < 2^64 by lia) (ak () ())
  exists jh (λh0=>?_) (λh0=>?_)
  ·exists gL (show (0:Int) < n from hn) ?_;exists gL (show qK _ _ from #[(),sn]) ?_;exists k _ _ (oo _ ()) (jY _ hn) #[q,_,b',c',cs,aN,by rw[bK nqp];show hq',?_,_a,w!,d!] (u'.4 (di.set L!));rw[cI _ ()];show Int.ediv_nonneg O! ()
  ·exists jh (λh1=>?_) (λh1=>?_)
   ·exists gL (show (0:Int) < n from hn) ?_;show k _ _ (oo _ ()) (jY _ hn) #[q,a',b',c',cs,L!,hq',O!,_a,w!,d!] u'
   ·exists gL (show qK _ _ from #[(),by change (3:Nat) < 2^35996000;show bQ (show 3 < 2^2 by decide) (ak () ())]) ?_;exists gL (show (0:Int) < n from hn) ?_;show k _ _ (oo _ ()) (jY _ hn) #[q,a',b',c',cs,L!,hq',O!,_a,w!,d!] u'
theorem Cf:∃x1 x2 x3 x4 x5 x6 x7 x8 x9 x10 x11 x12 x13 x14 x15 x16:Expr,x1=(XC (XN 0) 0 #[324,16,324,17])/\x2=(XC (XN 1) 0 #[324,19,324,20])/\x3=(XC (XN 1) 0 #[324,22,324,23])/\x4=(XC (XN 1) 0 #[324,25,324,26])/\x5=(XC (XN 2) 0 #[324,28,324,29])/\x6=(XC (XN 2) 0 #[324,31,324,32])/\x7=(XC (XN 3) 0 #[324,34,324,35])/\x8=(XC (XN 4) 0 #[324,37,324,38])/\x9=(XC (XN 0) 0 #[325,17,325,18])/\x10=(XC (XN 1) 0 #[325,20,325,21])/\x11=(XC (XN 1) 0 #[325,23,325,24])/\x12=(XC (XN 1) 0 #[325,26,325,27])/\x13=(XC (XN 2) 0 #[325,29,325,30])/\x14=(XC (XN 2) 0 #[325,32,325,33])/\x15=(XC (XN 3) 0 #[325,35,325,36])/\x16=(XC (XN 4) 0 #[325,38,325,39])/\jV nI=[ (YQ (targets:=[(XS "_law_n" #[321,4,321,10])]) (value:=(YH (func:=(XS "_law_take" #[321,13,321,22])) (args:=[ (XS "_law_bag_here" #[321,23,321,36]),(XC (XN 5) 0 #[321,38,321,39])]) (keywords:=[]) (pos:=#[321,13,321,40]))) (pos:=#[321,4,321,40])),(Stmt.If (test:=(Expr.Compare (left:=(YH (func:=(XS "_law_take" #[322,7,322,16])) (args:=[ (XS "_law_bag_here" #[322,17,322,30]),(XC (XN 8) 0 #[322,32,322,33])]) (keywords:=[]) (pos:=#[322,7,322,34]))) (ops:=[PySem.CmpOp.Eq]) (comparators:=[(XC (XN 7) 0 #[322,38,322,39])]) (pos:=#[322,7,322,39]))) (body:=[ (YQ (targets:=[(XS "_law_n" #[323,8,323,14])]) (value:=(XC (XN 5) 0 #[323,17,323,18])) (pos:=#[323,8,323,18]))]) (orelse:=[]) (pos:=#[322,4,323,18])),(YQ (targets:=[(XS "_law_ins" #[324,4,324,12])]) (value:=(Expr.Subscript (value:=(Expr.List (elts:=[x1,x2,x3,x4,x5,x6,x7,x8]) (pos:=#[324,15,324,39]))) (slice:=(YH (func:=(XS "_law_take" #[324,40,324,49])) (args:=[ (XS "_law_bag_here" #[324,50,324,63]),(XC (XN 8) 0 #[324,65,324,66])]) (keywords:=[]) (pos:=#[324,40,324,67]))) (pos:=#[324,15,324,68]))) (pos:=#[324,4,324,68])),(YQ (targets:=[(XS "_law_outs" #[325,4,325,13])]) (value:=(Expr.Subscript (value:=(Expr.List (elts:=[x9,x10,x11,x12,x13,x14,x15,x16]) (pos:=#[325,16,325,40]))) (slice:=(YH (func:=(XS "_law_take" #[325,41,325,50])) (args:=[ (XS "_law_bag_here" #[325,51,325,64]),(XC (XN 8) 0 #[325,66,325,67])]) (keywords:=[]) (pos:=#[325,41,325,68]))) (pos:=#[325,16,325,69]))) (pos:=#[325,4,325,69])),(Stmt.If (test:=(Expr.Compare (left:=(XS "_law_n" #[326,7,326,13])) (ops:=[PySem.CmpOp.Eq]) (comparators:=[(XC (XN 5) 0 #[326,17,326,18])]) (pos:=#[326,7,326,18]))) (body:=[ (YQ (targets:=[ (Expr.Tuple (elts:=[(XS "_law_ins" #[327,8,327,16]),(XS "_law_outs" #[327,18,327,27])]) (k:=0) (pos:=#[327,8,327,27]))]) (value:=(Expr.Tuple (elts:=[ (YH (func:=(XS "min" #[327,31,327,34])) (args:=[ (XS "_law_ins" #[327,35,327,43]),(XC (XN 2) 0 #[327,45,327,46])]) (keywords:=[]) (pos:=#[327,31,327,47])),(YH (func:=(XS "min" #[327,49,327,52])) (args:=[ (XS "_law_outs" #[327,53,327,62]),(XC (XN 2) 0 #[327,64,327,65])]) (keywords:=[]) (pos:=#[327,49,327,66]))]) (k:=0) (pos:=#[327,30,327,67]))) (pos:=#[327,8,327,67]))]) (orelse:=[]) (pos:=#[326,4,327,67])),(YQ (targets:=[(XS "_law_wide" #[328,4,328,13])]) (value:=(Expr.Subscript (value:=(Expr.List (elts:=[ (XC (XN 4) 0 #[328,17,328,18]),(XC (XN 4) 0 #[328,20,328,21]),(XC (XN 9) 0 #[328,23,328,24]),(XC (XN 1000000) 0 #[328,26,328,33])]) (pos:=#[328,16,328,34]))) (slice:=(YH (func:=(XS "_law_take" #[328,35,328,44])) (args:=[ (XS "_law_bag_here" #[328,45,328,58]),(XC (XN 4) 0 #[328,60,328,61])]) (keywords:=[]) (pos:=#[328,35,328,62]))) (pos:=#[328,16,328,63]))) (pos:=#[328,4,328,63])),(Stmt.If (test:=(Expr.Compare (left:=(XS "_law_wide" #[329,7,329,16])) (ops:=[PySem.CmpOp.Gt]) (comparators:=[(XC (XN 9) 0 #[329,19,329,20])]) (pos:=#[329,7,329,20]))) (body:=[ (YQ (targets:=[(XS "_law_n" #[330,8,330,14])]) (value:=(YH (func:=(XS "min" #[330,17,330,20])) (args:=[ (XS "_law_n" #[330,21,330,27]),(XC (XN 2) 0 #[330,29,330,30])]) (keywords:=[]) (pos:=#[330,17,330,31]))) (pos:=#[330,8,330,31]))]) (orelse:=[]) (pos:=#[329,4,330,31])),(Stmt.Return (value:=(some (Expr.Tuple (elts:=[ (XS "_law_n" #[331,12,331,18]),(XS "_law_ins" #[331,20,331,28]),(XS "_law_outs" #[331,30,331,39]),(XS "_law_wide" #[331,41,331,50])]) (k:=0) (pos:=#[331,11,331,51])))) (pos:=#[331,4,331,51]))]:=#[_,_,_,_,_,_,_,_,_,_,_,_,_,_,_,_,rfl,rfl,rfl,rfl,rfl,rfl,rfl,rfl,rfl,rfl,rfl,rfl,rfl,rfl,rfl,rfl,by with_unfolding_all rfl]
theorem fA:sC ["_law_bag_here","_law_n","_law_ins","_law_outs","_law_wide"] 1 nI:=by walk_at "d"
theorem BO (T:Txt K mg Z) (ac:bd P):T.mI.o P w base 2 LQ:=by
 refine T.mI.F.k fA ?_;walk_at "i";obtain b|rfl|hB|k:=h;obtain x1|x2|x3|x4|x5|x6|x7|x8|x9|x10|x11|x12|x13|x14|x15|x16|hx1|hx2|hx3|hx4|hx5|hx6|hx7|hx8|hx9|agc|agb|aga|afZ|afY|afX|afW|hbd:=Cf;rw[hbd]
 refine #[_,(ay (eT 1 fA.nd (cN (bF T ac) hr T.bc (cX b9 aw)))
  (kg (dr (bE gN (cN (bF T ac) hr T.bc (cX b9 aw)) aw (bR _)) (aD (eT 1 fA.nd aw)) cy)
  (ay (eT 2 fA.nd (a7 ck (dW (eY hx1 aw (eY hx2 aw (eY hx3 aw (eY hx4 aw (eY hx5 aw (eY hx6 aw (eY hx7 aw (eY hx8 aw gA))))))))) (cN (bF T ac) hr T.bc (cX b9 aw))))
  (ay (eT 3 fA.nd (a7 ck (dW (eY hx9 aw (eY agc aw (eY agb aw (eY aga aw (eY afZ aw (eY afY aw (eY afX aw (eY afW aw gA))))))))) (cN (bF T ac) hr T.bc (cX b9 aw))))
  (kg (dr (bE gN cV aw (bR _)) (aD (Og (i:=2) (j:=3) rfl fA.nd rfl rfl () rfl rfl (cX (bH (uM rfl) (by rfl) T.min Ym (cX eI aw)) (bH (uM rfl) (by rfl) T.min Ym (cX jH aw))) rfl)) cy)
  (ay (eT 4 fA.nd (a7 ck (dW (MX aw aw aw aw)) (cN (bF T ac) hr T.bc (cX b9 aw))))
  (kg (dr (bE wZ wH aw (bR _)) (aD (eT 1 fA.nd (bH (uM rfl) (by rfl) T.min Ym (cX cV aw)))) cy)
  (aD (aW (dD (MX cV eI jH wH))))))))))),?_]
 left
 exists #[b,5,rfl,hB,(),(),λn H1 n0 n1 B1 u1=>?_];obtain n|rfl:=cY n0;exists #[λσ' H'=>(∃n:Nat,σ'=[some (.ref b),some (.int n),none,none,none]/\n<=5)/\jE H' b/\di b H H',?_,?_]
 ·exists #[b,8,rfl,B1,(),(),λv H2 v0 v1 B2 u2=>?_];exists jh (λ_=>?_) (λ_=>?_)
  ·exists #[#[5,rfl,()],B2,u1.4 u2]
  ·exists #[#[n,rfl,()],B2,u1.4 u2]
 clear n0 n1 u1 B1;rintro σ' H1 ⟨⟨n,rfl,n5⟩,B1,u1⟩;exists dj λl0 H2 s2 n2 g2=>?_
 exists #[b,8,rfl,B1.10 s2,(),(),λv H3 v0 v1 B3 u3=>?_];have g3:=u3.37 (λz=>B1.at (by rw[<- z];show n2)) g2;obtain x|ex|mx|_:=mU (xs:=[V.int 0,V.int 1,V.int 1,V.int 1,V.int 2,V.int 2,V.int 3,V.int 4]) v0 (by simpa using v1)
 obtain ⟨i,rfl,hi⟩:∃z:Nat,x=.int z/\z<=4:=by
  simp only[aM,bf,or_false] at mx;rcases mx with rfl | rfl | rfl | rfl | rfl | rfl | rfl | rfl
  ·show #[0,rfl,()]
  ·show #[1,rfl,()]
  ·show #[1,rfl,()]
  ·show #[1,rfl,()]
  ·show #[2,rfl,()]
  ·show #[2,rfl,()]
  ·show #[3,rfl,()]
  ·show #[4,rfl,()]
 exists cK (bY.of g3) ex ?_;clear ex mx g3 g2;exists dj λl1 H4 s4 n4 g4=>?_
 exists #[b,8,rfl,B3.10 s4,(),(),λt H5 t0 t1 B5 u5=>?_];have g5:=u5.37 (λz=>B3.at (by rw[<- z];show n4)) g4;obtain x|ex|mx|_:=mU (xs:=[V.int 0,V.int 1,V.int 1,V.int 1,V.int 2,V.int 2,V.int 3,V.int 4]) t0 (by simpa using t1)
 obtain ⟨o,rfl,ho⟩:∃z:Nat,x=.int z/\z<=4:=by
  simp only[aM,bf,or_false] at mx;rcases mx with rfl | rfl | rfl | rfl | rfl | rfl | rfl | rfl
  ·show #[0,rfl,()]
  ·show #[1,rfl,()]
  ·show #[1,rfl,()]
  ·show #[1,rfl,()]
  ·show #[2,rfl,()]
  ·show #[2,rfl,()]
  ·show #[3,rfl,()]
  ·show #[4,rfl,()]
 exists cK (bY.of g5) ex ?_;clear ex mx g5 g4;have u15:=(((u1.10 s2).4 u3).10 s4).4 u5;exists #[λσ' H'=>(∃i o:Nat,σ'=[some (.ref b),some (.int n),some (.int i),some (.int o),none]/\i<=4/\o<=4/\(n=5->i<=2/\o<=2))/\jE H' b/\di b H H',?_,?_]
 ·exists jh (λh0=>?_) (λh0=>?_)
  ·exists #[#[min i 2,min o 2,?_,(),(),λ_=>#[(),()]],B5,u15];have e1:(if (2:Int) < (i:Int) then (2:Int) else (i:Int))=((min i 2:Nat):Int):=by split <;> lia
   have e2:(if (2:Int) < (o:Int) then (2:Int) else (o:Int))=((min o 2:Nat):Int):=by split <;> lia
   rw[<- e1,<- e2];rfl
  ·exists #[#[i,o,rfl,hi,ho,λz=>absurd (decide_eq_true (show (n:Int)=5 by lia)) h0],B5,u15]
 clear hi ho u15 B5 u5 u3 u1;rintro σ' H5 ⟨⟨i,o,rfl,hi,ho,h5⟩,B5,u5⟩;exists dj λl2 H6 s6 n6 g6=>?_
 exists #[b,4,rfl,B5.10 s6,(),(),λv H7 v0 v1 B7 u7=>?_];have g7:=u7.37 (λz=>B5.at (by rw[<- z];show n6)) g6;obtain x|ex|mx|_:=mU (xs:=[V.int 4,V.int 4,V.int 9,V.int 1000000]) v0 (by simpa using v1)
 obtain ⟨w,rfl,hw⟩:∃w:Nat,x=.int w/\(w=4\/w=9\/w=1000000):=by
  simp only[aM,bf,or_false] at mx;rcases mx with rfl | rfl | rfl | rfl
  ·show #[4,rfl,.inl rfl]
  ·show #[4,rfl,.inl rfl]
  ·show #[9,rfl,.inr (.inl rfl)]
  ·show #[1000000,rfl,.inr (.inr rfl)]
 exists cK (bY.of g7) ex ?_;have u07:=(u5.10 s6).4 u7;exists #[λσ' H'=>(∃n:Nat,σ'=[some (.ref b),some (.int n),some (.int i),some (.int o),some (.int w)]/\n<=5/\(w=4\/w=9\/(w=1000000/\n<=2))/\(n=5->i<=2/\o<=2))/\jE H' b/\di b H H',?_,?_]
 ·exists jh (λh0=>?_) (λh0=>?_)
  ·exists #[#[min n 2,?_,(),(),λz=>()],B7,u07];have e1:(if (2:Int) < (n:Int) then (2:Int) else (n:Int))=((min n 2:Nat):Int):=by split <;> lia
   rw[<- e1];rfl
  ·exists #[#[n,rfl,n5,?_,h5],B7,u07];rcases hw with z | z | z
   ·show .inl z
   ·show .inr (.inl z)
   ·show absurd (decide_eq_true (show (9:Int) < (w:Int) by lia)) h0
 ·clear h5 n5;rintro σ' H8 ⟨⟨n',rfl,n5,hwn,h5⟩,B8,u8⟩;exists cO λr H9 s9 g9=>?_
  show k r n' i o w H9 g9 n5 hi ho hwn h5 (B8.10 s9) (u8.10 s9)
theorem jo:sC ["_law_bag_here","_law_n","_law_move_here","_law_at","_law_put","_law_first","_law_look"] 2 tU:=by walk_at "d"
theorem rO (T:Txt K mg Z) (ac:bd P):T.jy.o P w base 2 (FX K):=by
 refine T.jy.F.k jo ?_;walk_at "i";obtain b|n|rfl|hB|n1|n8|k:=h
 refine #[_,(ay (jq 2 ["_law_i"] ["_law_n"] [1] jo.nd rfl rfl (cz rfl T.32 (dg cV)) (λ_=>(eN 0)) (λ_=>cp) (λ_=>(cg ["_law_j"] ["_law_i"] [0] (cz rfl T.32 (dg cV)) (λ_=>(eN 0)) (λ_=>cp) (λ_=>(dD (cX (fQ qF (by rfl) T.int X7 (dg (kJ gN b9 (bS gB cV aw) (bR _)))) aw))))))
  (ay (gM (cg ["_law_j"] ["_law_bag_here"] [0] (cz rfl T.32 (dg cV)) (λ_=>(eN 0)) (λ_=>cp) (λ_=>(dD (cX (bS l7 (cN (bF T ac) hr T.bc (cX cV aw)) aw) aw)))) (i8 eI (bS l7 cV aw) set_list))
  (ay (eT 3 jo.nd (a7 ck (dW (cX (bS l7 cV aw) (cN (bF T ac) hr T.bc (cX b9 cV)))) (cN (bF T ac) hr T.bc (cX b9 aw))))
  (ay (eT 4 jo.nd (dW (dg (cg ["_law_j"] ["_law_at"] [3] (cz rfl T.32 (dg cV)) (λ_=>(eN 0)) (λ_=>cp) (λ_=>(dD (cX (fQ qF (by rfl) T.int X7 (dg (kJ gN b9 cV (bR _)))) aw)))))))
  (ay (eT 5 jo.nd (a7 ck (dW (yw aw aw (cN (bF T ac) hr T.bc (cX b9 cV)))) (cN (bF T ac) hr T.bc (cX b9 aw))))
  (ay (eT 6 jo.nd (dW (dg (cg ["_law_j"] ["_law_first"] [5] (cz rfl T.32 (dg cV)) (λ_=>(eN 0)) (λ_=>cp) (λ_=>(dD (cX (fQ qF (by rfl) T.int X7 (dg (kJ gN b9 cV (bR _)))) aw)))))))
  (aD (aW (dD (yw eI wH sU)))))))))),?_]
 left
 have bit:∀{z:Int},∀y∈(W0 n).11 (λ(j:Nat)=>(((if decide ((j:Int)=z)=true then 1 else 0:Int)):Rat)),Fr 1 1 y:=λy hy=>by
  obtain j|_|rfl:=ao.mp hy;show VJ (by split <;> simp)
 exists #[(),(),?_];refine iE (n:=n) (cR K H) (λ(i:Nat)=>(W0 n).11 λ(j:Nat)=>(((if decide ((j:Int)=(i:Int)+1)=true then 1 else 0:Int)):Rat)) () (λa b=>a.10 b) ?_ ?_
 ·rintro i Hb NY NN hi sa k1;exists #[(),(),?_];refine iE (n:=n) (cG K) (λ(j:Nat)=>(((if decide ((j:Int)=(i:Int)+1)=true then 1 else 0:Int)):Rat)) () (λa b=>a.10 b) ?_ ?_
  ·rintro j Hz NY2 NN2 hj sz k2;exists cO λt Hy sy gy=>?_
   show k2 _ _ sy (cG.mk gy rfl)
  ·rintro ys Hz t ht sz g pr nx;show k1 _ _ sz #[t,rfl,sa.17 ht,ys,g,pr]
 rintro ys H1 mm hm s1 g1 ZY _E;have G1:bw K H H1 mm ((W0 n).11 λ(i:Nat)=>(W0 n).11 λ(j:Nat)=>(((if decide ((j:Int)=(i:Int)+1)=true then 1 else 0:Int)):Rat)):=#[ys,g1,ZY,fW _E];clear g1 ZY _E;have B1:=hB.10 s1;have mb:mm≠b:=λz=>hB.at (by rw[<- z];show hm)
 obtain q0|I0|xq|e!:=hB.inner;have mq:mm≠q0:=λz=>by rw[<- z,hm] at e!;cases e!
 exists #[(),(),?_];refine yQ (n:=n) (b:=b) (cG K) (Fr 1 1) B1 () (λa u B=>a.Y7 u B) ?_ ?_
 ·rintro j Ha NY NN hj ua Ba k1;exists #[b,3,rfl,Ba,(),(),λv Hb v0 v1 Bb ub=>?_];exists cO λt Hc sc gc=>?_
  show k1 _ ((v - 1:Int):Rat) _ (ub.10 sc) (Bb.10 sc) (Fr.int ()) (cG.mk gc rfl)
 rintro ys2 cs H2 q2 hq2 u2 B2 g2 lc hc I! _;have _Q:=(s1.Y7 (p:=b)).4 u2;have nq2:H q2=none:=s1.17 hq2;obtain us|gu|pu:=(G1.Y7 u2 B1 mb hB.at).toE;have lu:=pu.9;rw[af,bg] at lu
 have q2m:q2≠mm:=λz=>by
  obtain _|gg|_:=id G1;rw[z,gg] at hq2;cases hq2
 walk_at "w";rw[show ((n:Int) - 1)=((n - 1:Nat):Int) by lia];refine fV gu (gI ()) rfl ?_;have G3:bw K H (upd H2 mm (.lst (us.43 (n - 1) (.ref q2)))) mm (((W0 n).11 λ(i:Nat)=>(W0 n).11 λ(j:Nat)=>(((if decide ((j:Int)=(i:Int)+1)=true then 1 else 0:Int)):Rat)).43 (n - 1) cs):=bw.ofE aN (oG (bv (λ_ _ z=>p7.Zc z gu (λq h=>h.2)) pu) (n - 1) #[q2,rfl,#[nq2,q2m],dS.Zc #[ys2,g2,I!] gu q2m]) (λq h=>h.1) (λq h=>h.2);have B3:jE (upd H2 mm (.lst (us.43 (n - 1) (.ref q2)))) b:=B2.upd (_Q.2 _ I0) mb mq;have a!:di b H (upd H2 mm (.lst (us.43 (n - 1) (.ref q2)))):=_Q.50 hm;obtain ⟨mv,emv⟩:∃mv,mv=((W0 n).11 λ(i:Nat)=>(W0 n).11 λ(j:Nat)=>(((if decide ((j:Int)=(i:Int)+1)=true then 1 else 0:Int)):Rat)).43 (n - 1) cs:=#[_,rfl];have _L:mv.9=n:=by rw[emv,fh,af,bg]
 have hmv:∀xs∈mv,xs.9=n/\∀y∈xs,Fr 1 1 y:=λxs hx=>by
  rw[emv] at hx;rcases cM hx with hx | rfl
  ·obtain i|_|rfl:=ao.mp hx;show #[by rw[af,bg],bit]
  ·show #[lc,hc]
 rw[<- emv] at G3;generalize upd H2 mm (.lst (us.43 (n - 1) (.ref q2)))=H3 at G3 B3 a! ⊢;clear emv pu gu G1 u2 I! g2 B2;exists #[b,n,rfl,B3,(),(),λa1 H4 a10 a11 B4 u4=>?_];exists dj λl1 H5 s5 nl1 g5=>?_
 exists #[b,2,rfl,B4.10 s5,(),(),λv H6 v0 v1 B6 u6=>?_];have g6:=u6.37 (λz=>B4.at (by rw[<- z];show nl1)) g5;obtain x|ex|mx|_:=mU (xs:=[V.int ((n:Int) - 1),V.int a1]) v0 (by simpa using v1)
 obtain ⟨at',rfl⟩:∃a:Int,x=.int a:=by
  simp only[aM,bf,or_false] at mx;rcases mx with rfl | rfl
  ·show #[_,rfl]
  ·show #[_,rfl]
 exists cK (bY.of g6) ex ?_;have u36:=(u4.10 s5).4 u6;have G6:=G3.Y7 u36 B3 mb hB.at;have u06:=a!.4 u36;clear ex mx g6 g5 G3 u4 u6;exists #[(),(),?_];refine iE (n:=n) (cG K) (λ(j:Nat)=>(((if decide ((j:Int)=at')=true then 1 else 0:Int)):Rat)) () (λa b=>a.10 b) ?_ ?_
 ·rintro j Hz NY2 NN2 hj sz k2;exists cO λt Hy sy gy=>?_
  show k2 _ _ sy (cG.mk gy rfl)
 rintro ys7 H7 q7 hq7 s7 g7 pr7 _;have R7:dS K H7 q7 _:=#[ys7,g7,pr7];exists dj λp8 H8 s8 n8' g8=>?_
 have T!:=s7.4 s8;have q78:q7≠p8:=λz=>by rw[z,n8'] at g7;cases g7
 have np8:H p8=none:=u06.17 B6 (s7.17 n8');have nq7:H q7=none:=u06.17 B6 hq7
 have GP:bw K H H8 p8 [(W0 n).11 λ(j:Nat)=>(((if decide ((j:Int)=at')=true then 1 else 0:Int)):Rat)]:=#[_,g8,.cons #[q7,rfl,nq7,R7.10 s8] .nil,λz=>by
  rw[bX] at z;cases z;show q78 rfl]
 have B8:=B6.10 T!;have u08:=u06.10 T!;have G8:=G6.10 T!;have pb:p8≠b:=λz=>hB.at (by rw[<- z];show np8)
 exists #[b,n,rfl,B8,(),(),λa2 H9 a20 a21 B9 u9=>?_];exists dj λl2 Ha sa nl2 ga=>?_
 exists #[b,3,rfl,B9.10 sa,(),(),λv' Hb v0' v1' Bb ub=>?_];have gb:=ub.37 (λz=>B9.at (by rw[<- z];show nl2)) ga;obtain x|ex|mx|_:=mU (xs:=[V.int 0,V.int 0,V.int a2]) v0' (by simpa using v1')
 obtain ⟨fi,rfl⟩:∃a:Int,x=.int a:=by
  simp only[aM,bf,or_false] at mx;rcases mx with rfl | rfl | rfl
  ·show #[_,rfl]
  ·show #[_,rfl]
  ·show #[_,rfl]
 exists cK (bY.of gb) ex ?_;have u8b:=(u9.10 sa).4 ub;have Gb:=G8.Y7 u8b B8 mb hB.at;have GPb:=GP.Y7 u8b B8 pb hB.at;have u0b:=u08.4 u8b;clear ex mx gb ga G8 GP u9 ub;exists #[(),(),?_];refine iE (n:=n) (cG K) (λ(j:Nat)=>(((if decide ((j:Int)=fi)=true then 1 else 0:Int)):Rat)) () (λa b=>a.10 b) ?_ ?_
 ·rintro j Hz NY2 NN2 hj sz k2;exists cO λt Hy sy gy=>?_
  show k2 _ _ sy (cG.mk gy rfl)
 rintro ysc Hc qc hqc sc gc prc _;have Rc:dS K Hc qc _:=#[ysc,gc,prc];exists dj λpd Hd sd nd gd=>?_
 have ZL:=sc.4 sd;have qcd:qc≠pd:=λz=>by rw[z,nd] at gc;cases gc
 have npd:H pd=none:=u0b.17 Bb (sc.17 nd);have nqc:H qc=none:=u0b.17 Bb hqc
 have GL:bw K H Hd pd [(W0 n).11 λ(j:Nat)=>(((if decide ((j:Int)=fi)=true then 1 else 0:Int)):Rat)]:=#[_,gd,.cons #[qc,rfl,nqc,Rc.10 sd] .nil,λz=>by
  rw[bX] at z;cases z;show qcd rfl]
 exists cO λr He se ge=>?_
 have sbe:=ZL.4 se;refine k r mv _ _ He #[mm,p8,pd,ge,hm,np8,npd,Gb.10 sbe,GPb.10 sbe,GL.10 se] _L rfl rfl #[(),by simp,by simp,λxs hx=>by rw[(hmv xs hx).1,_L],λxs hx=>?_,λxs hx=>?_] (λxs hx=>(hmv xs hx).2) (λxs hx=>?_) (λxs hx=>?_) (Bb.10 sbe) (u0b.10 sbe)
 ·rw[bX.mp hx,af,bg,_L]
 ·rw[bX.mp hx,af,bg,_L]
 ·rw[bX.mp hx];show bit
 ·rw[bX.mp hx];show bit
theorem kd:sC ["_law_top","_law_bottom","_law_one","_law_other"] 2 vJ:=by walk_at "d"
theorem gZ (T:Txt K mg Z) (ac:bd P):T.eF.o P w base 1 TU:=by
 refine T.eF.F.k kd ?_;walk_at "i";obtain t|b|rfl|hb|hs|k:=h
 refine #[_,(ay (eT 2 kd.nd (bH xB (by rfl) T.abs YB (dg b9)))
  (ay (eT 3 kd.nd cV)
  (ay (Az XA (bE t8 eI aw (bR _))
   (aD (Og (i:=2) (j:=3) rfl kd.nd rfl rfl () rfl rfl (cX (bS p5 jH eI) eI) rfl)))
  (aD (aW (dD (cX (bS (jK rfl kd rfl rfl rfl ac (vg hr)) b9 jH) (bS (jK rfl kd rfl rfl rfl ac (vg hr)) cV jH)))))))),?_]
 left
 walk_at "w"
 refine Dw (λσ' H'=>∃(u v:Int),σ'=[some (.int t),some (.int b),some (.int u),some (.int v)]/\H'=H/\0<=u/\0 < v/\Yb u v=Yb t b) (λσ' _=>match σ' with | [_,_,some (.int u),_]=>u.15 | _=>0) #[_,b,rfl,rfl,by split <;> lia,hb,by
  split
  ·rw[Int.neg_gcd]
  ·rfl] ?_
 rintro σ' H' ⟨u,v,rfl,rfl,hu,hv,hg⟩;exists jh (λh=>?_) (λh=>?_)
 ·have hu0:u≠0:=λz=>by subst z;simp at h
  exists gL (show (0:Int) < u by lia) ?_;walk_at "w";have h1:=oo v hu0;have h2:=jY v (show 0 < u by lia);show #[#[v % u,u,rfl,rfl,h1,(),by rw[mQ,O5,mQ];show hg],by change (v % u).15 < u.15;lia]
 ·have hu0:u=0:=by
   by_cases z:u=0
   ·show z
   ·exfalso;apply h;simp [z]
  subst hu0
  have e:v=g t b:=by
   unfold g;rw[<- hg,Int.gcd_zero_left]
   lia
  have hgs:Sz 35996000 v:=hs.le (by
   rw[e];have h1:(g t b).15=Yb t b:=by unfold g;simp
   rw[h1];show iV () (by have:=fZ (a:=t) (b:=b);show fB.mpr this |> λz=>by simpa using z))
  exists gL (show qK _ _ from #[(),hgs]) ?_;exists gL (show qK _ _ from #[(),hgs]) ?_;exists cO λr H' s' h'=>?_
  rw[cI _ (),cI _ (),e] at h';show k r H' s' h'
theorem Gg:sC ["_law_one","_law_other"] 2 vH:=by walk_at "d"
theorem pA (T:Txt K mg Z) (ac:bd P):T.je.o P w base 2 (qP K (λx y=>x+y)):=by
 refine T.je.F.ok Gg (λvs H Q E h=>?_) (λZm A outer s H vs Q E hr h=>?_)
 ·obtain p|q|a|b|c|d|rfl|hp|hq|hb|hd|sa|sb|sc|sd|k:=Lv h;rfl
 ·obtain p|q|a|b|c|d|rfl|hp|hq|hb|hd|sa|sb|sc|sd|k:=Lv h;refine #[_,(aD (aW (cN (gZ T ac) hr T.eF (cX (bS gB (bS c7 (a7 b6 b9 aw) (a7 b6 cV aw)) (bS c7 (a7 b6 cV aw) (a7 b6 b9 aw))) (bS c7 (a7 b6 b9 aw) (a7 b6 cV aw)))))),?_];refine qo (σ:=[some (.ref p),some (.ref q)]) rfl ?_
  try rw[gV]
  have hbd:0 < b*d:=jU hb hd;have ZL:Sz 35996000 (b*d):=(sb.mul sd).22 ();exists gL (show hZ _ _ from .inr #[_,_,sa,sd,()]) ?_;exists gL (show hZ _ _ from .inr #[_,_,sc,sb,()]) ?_;exists gL (show hZ _ _ from .inr #[_,_,sb,sd,()]) ?_;walk_at "w";exists #[_,_,rfl,hbd,ZL,k]
theorem DR:sC ["_law_one","_law_other"] 2 tO:=by walk_at "d"
theorem xg (T:Txt K mg Z) (ac:bd P):T.kT.o P w base 3 (FU K):=by
 refine T.kT.F.k DR ?_;walk_at "i";obtain p|q|xs|ys|rfl|hp|hq|hl|hz|h1|h2|kk:=h;refine #[_,(aD (aW (cg ["_law_k"] ["_law_one","_law_other"] [0,1] (cz rfl T.32 (dg (bH aY (by rfl) T.36 aT (dg b9)))) (λ_=>(eN 0)) (λ_=>cp) (λ_=>(cN (pA T ac) hr T.je (cX (a7 (iw K (by rfl)) cV b9) (a7 (iw K (by rfl)) eI b9))))))),?_];left
 obtain us|gu|qu:=id hp;obtain ws|gw|qw:=id hq;have lu:=qu.9;exists #[_,_,rfl,.inl (bY.of gu),?_];exists #[(),(),?_];refine iE (n:=us.9) (cG K) (λi=>xs.3 i 0+ys.3 i 0) () (λa b=>a.10 b) ?_ ?_
 ·rintro i H' NY NN hi s k1;have ix:i < xs.9:=()
  have iy:i < ys.9:=()
  obtain vx|ex|nx:=GW (bv (λ_ _ z=>z.10 s) qu) ix;obtain vy|ey|ny:=GW (bv (λ_ _ z=>z.10 s) qw) iy;exists cK (bY.of (s _ _ gu)) ex ?_;exists cK (bY.of (s _ _ gw)) ey ?_;exists #[_,_,_,_,rfl,nx,ny,h1 _ (getD_mem ix),h2 _ (getD_mem iy),λr3 H3 s3 n3=>k1 _ _ s3 n3]
 ·rintro ZC H' l _x s g pr nx;show kk l H' _x s #[ZC,g,by rw[Ct ()];rw[<- lu] at pr;show pr]
theorem DQ:sC ["_law_one","_law_other"] 2 tL:=by walk_at "d"
theorem nK (T:Txt K mg Z) (ac:bd P):T.ip.o P w base 2 (qP K (λx y=>x*y)):=by
 refine T.ip.F.ok DQ (λvs H Q E h=>?_) (λZm A outer s H vs Q E hr h=>?_)
 ·obtain p|q|a|b|c|d|rfl|hp|hq|hb|hd|sa|sb|sc|sd|k:=K9 h;rfl
 ·obtain p|q|a|b|c|d|rfl|hp|hq|hb|hd|sa|sb|sc|sd|k:=K9 h;refine #[_,(aD (aW (cN (gZ T ac) hr T.eF (cX (bS c7 (a7 b6 b9 aw) (a7 b6 cV aw)) (bS c7 (a7 b6 b9 aw) (a7 b6 cV aw)))))),?_];refine qo (σ:=[some (.ref p),some (.ref q)]) rfl ?_
  try rw[gV]
  have hbd:0 < b*d:=jU hb hd;have ZL:Sz 35996000 (b*d):=(sb.mul sd).22 ();exists gL (show hZ _ _ from .inr #[_,_,sa,sc,()]) ?_;exists gL (show hZ _ _ from .inr #[_,_,sb,sd,()]) ?_;walk_at "w";exists #[_,_,rfl,hbd,ZL,k]
theorem IZ:sC ["_law_by_here","_law_row_here"] 2 yk:=by walk_at "d"
theorem oK (T:Txt K mg Z) (ac:bd P):T.jg.o P w base 3 (NO K):=by
 refine T.jg.F.k IZ ?_;walk_at "i";obtain u|q|c|ys|rfl|hc|sc|hq|hz|h2|kk:=h;refine #[_,(aD (aW (cg ["_law_one"] ["_law_by_here"] [0] (cA cV) (λ_=>(eN 0)) (λ_=>cp) (λ_=>(cN (nK T ac) hr T.ip (cX cV b9)))))),?_];left
 obtain us|gu|qu:=id hq;exists #[#[_,bY.of gu],?_];refine cP (K:=K) (F:=cG K) (cG K) (λy=>c*y) gu qu hz (λa b=>a.10 b) (λa b=>a.10 b) ?_ ?_
 ·rintro i y x H' NY NN en s hx k;exists #[_,_,_,_,rfl,hc.10 s,hx,sc,h2 y (av en),λr H2 s2 h2'=>k _ _ s2 h2']
 ·rintro ZC H' r hr s g pr nx;show kk r H' hr s #[ZC,g,pr]
theorem eC:sC ["_law_bag_here","_law_move_here","_law_put","_law_look","_law_n","_law_turn","_law_i","_law_j","_law_by_here","_law_less_here","_law_row_here"] 4 rB:=by walk_at "d"
theorem va (T:Txt K mg Z) (ac:bd P):T.jO.o P w base 4 (CI K):=by
 refine T.jO.F.k eC ?_;walk_at "i";obtain b|m|p|l|q0|n|WV|μ|A|us|ws|vs|rfl|MA|X|n8|i4|o4|M0|M1|⟨M,eM⟩|V1|hA|k:=h
 refine #[_,(ay (eT 4 eC.nd (bH aY (by rfl) T.36 aT (dg cV)))
  (ay (dr (PW.pt (pe (bE t9 wH aw (bR _)) (kH (bE gN (cN (bF T ac) hr T.bc (cX b9 aw)) aw (bR _))))) (aD (aW (dD (yw cV eI jH)))) cy)
  (ay (eE XA rfl (cz rfl T.32 (dg (bS gB aw (cN (bF T ac) hr T.bc (cX b9 aw))))) (eN 5 eC.nd)
   (ay (eT 6 eC.nd (cN (bF T ac) hr T.bc (cX b9 wH)))
  (ay (eT 7 eC.nd (bS p5 (bS gB (bS gB sU aw) (cN (bF T ac) hr T.bc (cX b9 (bS l7 wH aw)))) wH))
  (ay (eT 8 eC.nd (dD (cX (a7 ck (dW (MX aw (AE vp aw) aw (AE vp aw))) (cN (bF T ac) hr T.bc (cX b9 aw))) aw)))
  (ay (eT 9 eC.nd (dD (cX (bS l7 aw (a7 b6 Jf aw)) aw)))
  (ay (gM (cN (xg T ac) hr T.kT (cX (a7 ck cV sU) (cN (oK T ac) hr T.jg (cX Jf (a7 ck cV CQ))))) (i8 cV sU set_list))
  (ay (eE XA rfl (cA (bS l8 cV jH)) (eN 10 eC.nd)
   (aD (gM (cN (pA T ac) hr T.je (cX (a7 ck (pv 10) CQ) (cN (nK T ac) hr T.ip (cX (pv 9) (a7 ck (pv 10) sU))))) (i8 (pv 10) CQ set_list))))
  (aD (eE XA rfl (cA eI) (eN 10 eC.nd)
   (aD (gM (cN (pA T ac) hr T.je (cX (a7 ck (pv 10) sU) (cN (nK T ac) hr T.ip (cX Jf (a7 ck (pv 10) CQ))))) (i8 (pv 10) sU set_list))))))))))))
  (aD (aW (dD (yw cV eI jH))))))),?_]
 left
 have done:∀r Z6 H' t,t<=3->H' r=some (.tup [.ref m,.ref p,.ref l])->lD K A H' n (λx=>Fr (μ x) (9^t*WV)) m p l b q0 Z6 ws vs->jD A b m H H'->Q (.ref r) H':=λr Z6 H' t ht g x kp=>k r Z6 H' g (x.47 λ_ _ y h=>h.22 (au _ (ak () ht))) kp
 have X0:lD K A H n (λx=>Fr (μ x) (9^0*WV)) m p l b q0 us ws vs:=X.47 λ_ _ y h=>h.22 (by simp)
 clear X k;have gu:=X0.gm;have lu:=X0.lm;exists #[_,_,rfl,.inl (bY.of gu),?_];rw[lu];clear gu lu;have kp0:jD A b m H H:=λ_ _ h _ _ _=>h
 exists jh (λh0=>?_) (λh0=>?_)
 ·exists cO λr H' s' g'=>?_
  show done r us H' 0 () g' (X0.10 s') (kp0.10 s')
 have n2:2<=n:=by
  rcases be n 2 with z | z
  ·show absurd (decide_eq_true (show (n:Int) < 2 by lia)) h0
  ·show z
 exists #[b,2,rfl,X0._f,(),(),λv H1 v0 v1 B1 u1=>?_];have X1:=X0.Y7 MA u1 B1;have kp1:=kp0.Y7 u1;exists jh (λh1=>?_) (λh1=>?_)
 ·exists cO λr H' s' g'=>?_
  show done r us H' 0 () g' (X1.10 s') (kp1.10 s')
 exists #[b,3,rfl,B1,(),(),λc H2 c0 c1 B2 u2=>?_];have X2:=X1.Y7 MA u2 B2;have kp2:=kp1.Y7 u2;clear X0 X1 kp0 kp1 u1 u2 B1;exists #[(),(),?_];refine dM (n:=(1+c).27) (λt σ' H'=>∃(x1 x2 x3 x4 x5 x6:Option V) (us:List V),σ'=[some (.ref b),some (.ref m),some (.ref p),some (.ref l),some (.int n),x1,x2,x3,x4,x5,x6]/\lD K A H' n (λx=>Fr (μ x) (9^t*WV)) m p l b q0 us ws vs/\jD A b m H H') #[none,none,none,none,none,none,us,rfl,X2,kp2] ?_ ?_
 ·rintro t σ' H' ht ⟨x1,x2,x3,x4,x5,x6,us,rfl,X,kp⟩;have t3:t<=2:=()
  exists #[b,n,rfl,X._f,(),(),λii Ha i0 i1 Ba ua=>?_];obtain ii|rfl:=cY i0;have Xa:=X.Y7 MA ua Ba;have kpa:=kp.Y7 ua;exists #[b,_,rfl,Ba,(),(),λd Hb d0 d1 Bb ub=>?_];have Xb:=Xa.Y7 MA ub Bb;have kpb:=kpa.Y7 ub;exists gL (show (0:Int) < n by lia) ?_;have j0:=oo ((ii:Int)+1+d) (show (n:Int)≠0 by lia);have j1:=jY ((ii:Int)+1+d) (show (0:Int) < n by lia);generalize ((ii:Int)+1+d) % (n:Int)=jj at j0 j1 ⊢;obtain jj|rfl:=cY j0;exists dj λl0 Hc sc nc gc=>?_
  exists #[b,4,rfl,Bb.10 sc,(),(),λv' Hd v0' v1' Bd ud=>?_];have gd:=ud.37 (λz=>Bb.at (by rw[<- z];show nc)) gc;obtain x|ex|mx|_:=mU (xs:=[V.int 1,V.int (-1),V.int 2,V.int (-2)]) v0' (by simpa using v1')
  obtain ⟨z,rfl,hz⟩:∃z:Int,x=.int z/\z.15<=2:=by
   simp only[aM,bf,or_false] at mx;rcases mx with rfl | rfl | rfl | rfl
   ·show #[1,rfl,()]
   ·show #[-1,rfl,()]
   ·show #[2,rfl,()]
   ·show #[-2,rfl,()]
  have Xd:=(Xb.10 sc).Y7 MA ud Bd;have kpd:=(kpb.10 sc).Y7 ud;exists cK (bY.of gd) ex ?_;exists cO λbt He se ge=>?_
  exists cO λlt Hf sf gf=>?_
  have Xf:=(Xd.10 se).10 sf;have kpf:=(kpd.10 se).10 sf;have nb:cG K Hf ((z:Int):Rat) (.ref bt):=cG.mk (sf _ _ ge) rfl;have nl:cG K Hf ((0 - z:Int):Rat) (.ref lt):=cG.mk gf rfl;clear X Xa Xb Xd kp kpa kpb kpd ua ub ud sc gc gd ex mx ge gf se sf Ba Bb Bd nc;have gu:=Xf.gm;have lu:=Xf.lm
  have ru:∀x∈us,gG K A Hf n (Fr M (9^t*WV)) x:=λx hx=>by
   have:=Xf.row x (by simp [hx]);rwa [eM x (Xf.apart.1 x hx).1 (Xf.apart.1 x hx).2] at this
  have hM:0 < M/\M<=2^800:=by
   have hx:us[ii]'()∈us:=aB _;have:=eM _ (Xf.apart.1 _ hx).1 (Xf.apart.1 _ hx).2;rw[<- this];show #[M0 _,M1 _]
  have e1:us[ii]?=some (us[ii]'()):=by simp
  have e2:us[jj]?=some (us[jj]'()):=by simp
  obtain q1|z1|qs1|w1|a1|g1|k1|p1|l1|c1:=(ru _ (av e1)).at;obtain q2|z2|qs2|w2|a2|g2|k2|p2|l2|c2:=(ru _ (av e2)).at;rw[w1] at e1;rw[w2] at e2;generalize eW:9^t*WV=W at *
  have W9:9*W<=2^140:=by rw[<- eW];show Q1 () V1 ()
  have abX:∀{x:Rat} {U:Nat},U<=9*W->Fr M U x->oY x:=λhU h=>Lm hM.1 hM.2 (ai hU W9) h
  have sz9:∀{x:Rat} {U:Nat} {v:V},U<=9*W->Fr (μ v) U x->oY x:=λhU h=>Lm (M0 _) (M1 _) (ai hU W9) h
  exists cK (bY.of gu) (fw e1) ?_;exists cK (bY.of gu) (fw e2) ?_;exists #[_,q2,_,qs2,rfl,nb,Dz (),#[z2,g2,p2],(),λy hy=>abX () (c2 y hy),λr1 Hg n1 sg R1=>?_];exists #[q1,r1,qs1,_,rfl,#[z1,sg _ _ g1,bv (λ_ _ y=>y.10 sg) p1],R1,by rw[af,l1,l2],(),λy hy=>abX () (c1 y hy),λy hy=>?_,λr2 Hh n2' sh R2=>?_]
  ·obtain y'|_F|rfl:=ao.mp hy;show Ac hz (c2 y' _F) hM.1 hM.2 ()
  have sfh:=sg.4 sh
  have new:V.ref r2∉us++vs++ws:=λz=>by
   obtain q'|_|_|e'|_|g'|_:=((Xf.10 sg).row _ z).at;cases e';rw[n2'] at g';cases g'
  have Xh:=(Xf.10 sfh).47 (C':=λx y=>(x∈ws->Fr (μ x) W y)/\Fr (μ x) (3*W) y) λx _ y h=>#[λ_=>h,h.22 ()]
  have kph:=kpf.10 sfh;have guh:=sfh _ _ gu;have ar2:A r2:=(kpf.10 sg).new hA (Xf.10 sg)._f (by rw[sg _ _ gu];simp) n2'
  have rp2:gG K A Hh n (λy=>(V.ref r2∈ws->Fr (μ (.ref r2)) W y)/\Fr (μ (.ref r2)) (3*W) y) (.ref r2):=by
   rw[eM (.ref r2) (λz=>new (aA.mpr (.inr z))) (λz=>new (aA.mpr (.inl (aA.mpr (.inr z)))))];refine #[r2,_,rfl,ar2,R2,by rw[cQ,af];lia,λy hy=>#[λz=>absurd (aA.mpr (.inr z)) new,?_]];obtain j'|ZA|e:=aH hy;rw[lH,gY] at e;rw[<- e];show Ez hz (c1 _ (aB _)) (c2 _ (aB _))
  exists fV guh (gI ()) rfl ?_;have Xi:=Xh.43 MA rp2 new ii;have kpi:=kph.upd (o:=.lst (us.43 ii (.ref r2))) (q:=m) (.inr rfl);have nli:cG K (upd Hh m (.lst (us.43 ii (.ref r2)))) ((0 - z:Int):Rat) (.ref lt):=(nl.10 sfh).Zc guh;have nbi:cG K (upd Hh m (.lst (us.43 ii (.ref r2)))) ((z:Int):Rat) (.ref bt):=(nb.10 sfh).Zc guh;generalize upd Hh m (.lst (us.43 ii (.ref r2)))=Hi at Xi kpi nli nbi ⊢;generalize us.43 ii (.ref r2)=um at Xi;clear nb nl Xf kpf gu ru e1 e2 g1 p1 g2 p2 R1 R2 Xh kph guh rp2 sg sh sfh new;have gm:=Xi.gm;have lm:=Xi.lm;have gl:=Xi.gl;have nd:=Xi.nd;obtain nd1|nd2|nd3:=dX.mp nd;exists lW gm gl kX λcl Hj sj nj gj=>?_
  have kpj:=kpi.10 sj
  have rows:∀x∈um++vs,∀q,x=V.ref q->q≠cl:=λx hx q e y=>by
   obtain q'|zs|_|e'|_|g'|_:=(Xi.row x (aA.mpr (.inl hx))).at;rw[e] at e';cases e';rw[y,nj] at g';cases g'
  have Xj:=(Xi.10 sj).47 (C':=λx y=>(x∈ws->Fr (μ x) W y)/\(x∈(um++vs).40 0->Fr (μ x) (3*W) y)/\Fr (μ x) (9*W) y) λx _ y h=>#[h.1,λ_=>h.2,h.2.22 ()]
  have lj:cG K Hj ((0 - z:Int):Rat) (.ref lt):=nli.10 sj;have bj:cG K Hj ((z:Int):Rat) (.ref bt):=nbi.10 sj;clear Xi kpi nli nbi;refine #[_,rfl,#[_,bY.of gj],?_];refine oR (K:=K) (a:=cl) (xs:=um++vs) (λs σ' H'=>∃x6:Option V,σ'=[some (.ref b),some (.ref m),some (.ref p),some (.ref l),some (.int n),some (.int t),some (.int ii),some (.int jj),some (.ref bt),some (.ref lt),x6]/\lD K A H' n (λx y=>(x∈ws->Fr (μ x) W y)/\(x∈(um++vs).40 s->Fr (μ x) (3*W) y)/\Fr (μ x) (9*W) y) m p l b q0 um ws vs/\jD A b m H H'/\H' cl=some (.lst (um++vs))/\cG K H' ((0 - z:Int):Rat) (.ref lt)/\cG K H' ((z:Int):Rat) (.ref bt)) #[_,rfl,Xj,kpj,gj,lj,bj] (λs σ' H' _ #[_,_,_,_,e,_]=>bY.of e) ?_ ?_
  ·rintro s x σ' Hk hx ⟨y6,rfl,Xk,kpk,gk,lk,bk⟩;have hs:s < (um++vs).9:=(aI.mp hx).1;have mx:=av hx
   have xd:x∈(um++vs).40 s:=by
    rw[fz hs,(aI.mp hx).2];show .head _
   have xd2:x∉(um++vs).40 (s+1):=λz=>by
    have:=nd1.sublist (List.drop_sublist s _);rw[fz hs,fg,(aI.mp hx).2] at this;show this.1 z
   have xw:x∉ws:=λz=>nd3 x mx x z rfl
   have rx:=Xk.row x (aA.mpr (.inl mx));obtain q|zs|qs|rfl|aq|gq|lq|pq|lq2|cq:=rx.at;have qcl:=rows _ mx q rfl;obtain vj|ej|nj':=GW pq (j:=jj) ();obtain vi|ei|ni':=GW pq (j:=ii) ();have cj:=(cq _ (getD_mem (xs:=qs) (i:=jj) ())).2.1 xd;have ci:=(cq _ (getD_mem (xs:=qs) (i:=ii) ())).2.1 xd;exists cK (bY.of gq) ej ?_;exists cK (bY.of gq) ei ?_;exists #[_,_,_,_,rfl,lk,ni',Dz (),sz9 () ci,λr3 Hl sl n3=>?_];exists #[_,_,_,_,rfl,nj'.10 sl,n3,sz9 () cj,Ac () ci (M0 _) (M1 _) (),λr4 Hm sm n4=>?_];have R!:=sl.4 sm;exists fV (R! _ _ gq) (gI ()) rfl ?_;refine #[_,rfl,?_,(kpk.10 R!).upd (.inl aq),by rw[bK qcl.19];show R! _ _ gk,(lk.10 R!).Zc (R! _ _ gq),(bk.10 R!).Zc (R! _ _ gq)];refine ((Xk.10 R!).47 λx' _ y h=>#[h.1,λz=>h.2.1 ?_,h.2.2]).put MA aq (R! _ _ gq) n4 #[λz=>absurd z xw,λz=>absurd z xd2,?_] jj
   ·rw[fz hs];show .tail _ z
   ·show (Ez () cj ci).22 ()
  ·rintro σ' Hk ⟨y6,rfl,Xk,kpk,gk,lk,bk⟩;have gp:=Xk.gp;have Xk2:=Xk.47 (C':=λx y=>(x∈ws.40 0->Fr (μ x) W y)/\Fr (μ x) (9*W) y) λx _ y h=>#[λz=>h.1 (by simpa using z),h.2.2]
   clear Xk;exists #[#[_,bY.of gp],?_];refine oR (K:=K) (a:=p) (xs:=ws) (λs σ' H'=>∃x6:Option V,σ'=[some (.ref b),some (.ref m),some (.ref p),some (.ref l),some (.int n),some (.int t),some (.int ii),some (.int jj),some (.ref bt),some (.ref lt),x6]/\lD K A H' n (λx y=>(x∈ws.40 s->Fr (μ x) W y)/\Fr (μ x) (9*W) y) m p l b q0 um ws vs/\jD A b m H H'/\cG K H' ((z:Int):Rat) (.ref bt)) #[_,rfl,Xk2,kpk,bk] (λs σ' H' _ #[_,_,X,_]=>bY.of X.gp) ?_ ?_
   ·rintro s x σ' Hl hx ⟨w6,rfl,Xl,kpl,bl⟩;have hs:s < ws.9:=(aI.mp hx).1;have mx:=av hx
    have xd:x∈ws.40 s:=by
     rw[fz hs,(aI.mp hx).2];show .head _
    have xd2:x∉ws.40 (s+1):=λz=>by
     have:=nd2.sublist (List.drop_sublist s _);rw[fz hs,fg,(aI.mp hx).2] at this;show this.1 z
    have rx:=Xl.row x (aA.mpr (.inr mx));obtain q|zs|qs|rfl|aq|gq|lq|pq|lq2|cq:=rx.at;obtain vj|ej|nj':=GW pq (j:=jj) ();obtain vi|ei|ni':=GW pq (j:=ii) ();have cj:=(cq _ (getD_mem (xs:=qs) (i:=jj) ())).1 xd;have ci:=(cq _ (getD_mem (xs:=qs) (i:=ii) ())).1 xd;exists cK (bY.of gq) ei ?_;exists cK (bY.of gq) ej ?_;exists #[_,_,_,_,rfl,bl,nj',Dz (),sz9 () cj,λr3 Hm sm n3=>?_];exists #[_,_,_,_,rfl,ni'.10 sm,n3,sz9 () ci,Ac () cj (M0 _) (M1 _) (),λr4 Hn sn n4=>?_];have smn:=sm.4 sn;exists fV (smn _ _ gq) (gI ()) rfl ?_;refine #[_,rfl,?_,(kpl.10 smn).upd (.inl aq),(bl.10 smn).Zc (smn _ _ gq)];refine ((Xl.10 smn).47 λx' _ y h=>#[λz=>h.1 ?_,h.2]).put MA aq (smn _ _ gq) n4 #[λz=>absurd z xd2,?_] ii
    ·rw[fz hs];show .tail _ z
    ·show (Ez () ci cj).22 ()
   ·rintro σ' Hl ⟨w6,rfl,Xl,kpl,bl⟩;refine #[_,_,_,_,_,_,um,rfl,Xl.47 λ_ _ y h=>h.2.22 ?_,kpl];rw[<- eW,iO,cB (9^t) 9,cb];show aj _
 ·rintro σ' H' ⟨x1,x2,x3,x4,x5,x6,Z6,rfl,X,kp⟩;exists cO λr H2' s' g'=>?_
  show done r Z6 H2' _ () g' (X.10 s') (kp.10 s')
theorem dU:sC ["_law_bag_here","_law_one","_law_other","_law_ahead","_law_behind","_law_found","_law_k"] 1 lQ:=by walk_at "d"
theorem xf (T:Txt K mg Z) (ac:bd P):T.iH.o P w base 5 (NI K):=by
 refine T.iH.F.k dU ?_;walk_at "i";obtain b|rfl|hB|k:=h
 refine #[_,(ay (eT 1 dU.nd (cN (rO T ac) hr T.jy (cX b9 aw)))
  (ay (eT 2 dU.nd (cN (rO T ac) hr T.jy (cX b9 (bS gB aw (cN (bF T ac) hr T.bc (cX b9 aw))))))
  (ay (eT 3 dU.nd (bS Om (dW (dg (dD (cX aw aw)))) aw))
  (ay (eT 4 dU.nd (bS Om (dW (dg (dD (cX aw aw)))) (bH aY (by rfl) T.36 aT (dg (a7 b6 eI aw)))))
  (ay (eT 5 dU.nd (dW gA))
  (ay (eE XA rfl (cz rfl T.32 (dg aw)) (eN 6 dU.nd)
   (aD (kI (wV de dB dA ki vM (dg (bS l8 (cg ["_law_row_here"] ["_law_behind"] [4] (cA (a7 b6 cV sU)) (λ_=>(eN 0)) (λ_=>cp) (λ_=>(bS l8 b9 cV))) (cg ["_law_row_here"] ["_law_ahead"] [3] (cA (a7 b6 eI sU)) (λ_=>(eN 0)) (λ_=>cp) (λ_=>(bS l8 cV b9)))))))))
  (aD (aW (cN (va T ac) hr T.jO (MX b9 (a7 ck vM aw) (a7 ck vM aw) (a7 ck vM aw))))))))))),?_]
 left
 obtain q0|I0|xq|e!:=hB.inner;exists #[b,3,rfl,hB,(),(),λr1 mv1 pt1 lk1 H1 P1 lm1 lp1 ll1 D1 fm1 fp1 fl1 B1 u1=>?_];exists #[b,3,rfl,B1,(),(),λv H2 v0 v1 B2 u2=>?_];obtain v|rfl:=cY v0;have _Q:=u1.4 u2;walk_at "w";rw[show ((3:Int)+(v:Int))=((3+v:Nat):Int) by lia];refine #[b,3+v,rfl,B2,(),(),λr2 mv2 pt2 lk2 H3 P2 lm2 lp2 ll2 D2 fm2 fp2 fl2 B3 u3=>?_];have a!:=_Q.4 u3;have P1c:=(P1.Y7 (u2.4 u3) B1 hB.at);have P2c:eV K H H3 r2 mv2 pt2 lk2:=P2.47 λq h=>_Q.17 B2 h
 exists cO λt0 H4 s4 g4=>?_
 exists dj λa1 H5 s5 n5 g5=>?_
 exists N7 (k:=3) g5 () λah H6 s6 n6 g6=>?_
 have s36:=(s4.4 s5).4 s6;obtain m1|p1|l1|gt1|m1n|p1n|l1n|Gm1|Gp1|Gl1:=P1c.10 s36;obtain m2|p2|l2|gt2|m2n|p2n|l2n|Gm2|Gp2|Gl2:=P2c.10 s36;have N0:cG K H6 0 (V.ref t0):=cG.mk (q:=0) ((s5.4 s6) _ _ g4) rfl;exists cO λt1 H7 s7 g7=>?_
 exists dj λa2 H8 s8 n8' g8=>?_
 have T!:=s7.4 s8;have gt2':=T! _ _ gt2;obtain um2|gm2|qm2|_:=id (Gm2.10 T!);have afC:=qm2.9;exists #[_,_,rfl,.inl (bY.of gm2),?_];rw[<- afC,lm2];exists N7 (k:=3+v) g8 () λbh H9 s9 n9 g9=>?_
 have _J:=T!.4 s9;have s39:=s36.4 _J;have N1:cG K H9 0 (V.ref t1):=cG.mk (q:=0) ((s8.4 s9) _ _ g7) rfl;have u09:=a!.10 s39;have B9:=B3.10 s39;have g6':=_J _ _ g6;have N0':=N0.10 _J;exists dj λfd H10 s10 n10 g10=>?_
 have X1:∀i:Nat,i < 3->∃q1 R1 q2 R2,[V.ref m1,V.ref p1,V.ref l1][i]?=some (V.ref q1)/\bw K H H9 q1 R1/\(∀xs∈R1,xs.9=3/\∀y∈xs,Fr 1 1 y)/\[V.ref m2,V.ref p2,V.ref l2][i]?=some (V.ref q2)/\bw K H H9 q2 R2/\(∀xs∈R2,xs.9=3+v/\∀y∈xs,Fr 1 1 y)/\R1.9<=100/\R2.length<=100/\[6+v,2,2][i]?=some (R1.9+R2.length):=λi hi=>by
  rcases (show i=0\/i=1\/i=2 by lia) with rfl | rfl | rfl
  ·show #[m1,mv1,m2,mv2,rfl,Gm1.10 _J,λxs hx=>#[by rw[D1.mw xs hx,lm1],fm1 xs hx],rfl,Gm2.10 _J,λxs hx=>#[by rw[D2.mw xs hx,lm2],fm2 xs hx],(),(),by rw[lm1,lm2,show 3+(3+v)=6+v by lia];rfl]
  ·show #[p1,pt1,p2,pt2,rfl,Gp1.10 _J,λxs hx=>#[by rw[D1.pw xs hx,lm1],fp1 xs hx],rfl,Gp2.10 _J,λxs hx=>#[by rw[D2.pw xs hx,lm2],fp2 xs hx],(),(),by rw[lp1,lp2];rfl]
  ·show #[l1,lk1,l2,lk2,rfl,Gl1.10 _J,λxs hx=>#[by rw[D1.lw xs hx,lm1],fl1 xs hx],rfl,Gl2.10 _J,λxs hx=>#[by rw[D2.lw xs hx,lm2],fl2 xs hx],(),(),by rw[ll1,ll2];rfl]
 exists #[(),(),?_];refine dM (n:=3) (λi σ' H'=>aL H9 H'/\∃x6 L,σ'=[some (.ref b),some (.ref r1),some (.ref r2),some (.ref ah),some (.ref bh),some (.ref fd),x6]/\WO K H9 H' (6+v) fd L/\L.9=i/\∀(j:Nat) (e:Addr×List V),L[j]?=some e->[6+v,2,2][j]?=some e.2.9) #[s10,none,[],rfl,#[g10,n10,(λ_ z=>nomatch z),pM,(λ_ z=>nomatch z),pM],rfl,λj e h=>by simp at h] ?_ ?_
 ·rintro i σ' H' hi ⟨s',x6,L,rfl,T,lL,hL⟩;obtain q1|R1|q2|R2|e1|G1|w1|e2|G2|w2|b1|b2|Za:=X1 i hi;have agI:=s' _ _ (_J _ _ gt1);have adj:=s' _ _ (_J _ _ gt2);obtain ux1|gx1|qx1|_:=id (G1.10 s');have gb:=s' _ _ g9;have ga:=s' _ _ g6';exists #[.inl #[rfl,_,bY.of T.gf],?_];exists Je (nD.of agI) (fw e1) ?_;exists #[#[_,bY.of gx1],?_];refine C8 (K:=K) (F:=cR K H) (λ_H c x=>∃q,x=V.ref q/\dS K _H q c) (λr=>r++K0 (3+v) 0) gx1 qx1 () (λa b=>a.10 b) (λa b=>by obtain q|e|r:=a;show #[q,e,r.10 b]) (λa=>by obtain q|e|_|gg|_:=a;show #[q,e,by rw[gg];show λz=>nomatch z]) ?_ ?_
  ·rintro j ns x Hi NY NN en si ⟨q,rfl,_,zs,gz,qz⟩ k1;have ws:=(w1 ns (av en)).1;have lz:=qz.9;exists lW gz (si _ _ gb) (c6 (du (by rw[bB];lia))) λc Hj sj nj gj=>?_
   show k1 _ _ sj #[c,rfl,_,gj,cf (bv (λ_ _ z=>z.10 sj) qz) (vO (((N1.10 s').10 si).10 sj) _)] #[c,rfl,nj]
  rintro P! Ha c1 hc1 sa ga1 nd1 ne1 ZY;obtain ux2|gx2|qx2|_:=id ((G2.10 s').10 sa);have agG:=sa _ _ adj;exists Je (nD.of agG) (fw e2) ?_;exists #[#[_,bY.of gx2],?_];refine C8 (K:=K) (F:=cR K H) (λ_H c x=>∃q,x=V.ref q/\dS K _H q c) (λr=>K0 3 0++r) gx2 qx2 () (λa b=>a.10 b) (λa b=>by obtain q|e|r:=a;show #[q,e,r.10 b]) (λa=>by obtain q|e|_|gg|_:=a;show #[q,e,by rw[gg];show λz=>nomatch z]) ?_ ?_
  ·rintro j ns x Hi NY NN en si ⟨q,rfl,_,zs,gz,qz⟩ k1;have ws:=(w2 ns (av en)).1;have lz:=qz.9;exists lW ((sa.4 si) _ _ ga) gz (c6 (du (by rw[bB];lia))) λc Hj sj nj gj=>?_
   show k1 _ _ sj #[c,rfl,_,gj,cf (vO ((((N0'.10 s').10 sa).10 si).10 sj) _) (bv (λ_ _ z=>z.10 sj) qz)] #[c,rfl,nj]
  rintro ys2 Hb c2 hc2 sb gb2 nd2 ne2 I!;have sab:=sa.4 sb;have ly1:=ZY.9;have ly2:=I!.9;rw[af] at ly1 ly2;exists lW (sb _ _ ga1) gb2 kX λqn Hc sc nc gc=>?_
  have sac:=sab.4 sc;have gfc:=sac _ _ T.gf;exists ke gfc (du (by rw[af];lia)) ?_
  have rP:∀{c:List Rat} {x:V},(∃q,x=V.ref q/\dS K Hb q c)->(∃q,x=V.ref q/\H' q=none)->c.9=6+v->(∀y∈c,Fr 1 1 y)->gG K (λz=>H' z=none/\z≠qn) Hc (6+v) (Fr 1 1) x:=λ#[q,e,r] #[q',e',nq] hl hf=>by
   rw[e] at e';cases e';show #[q,_,e,#[nq,λz=>by obtain _|gg|_:=r;rw[z,nc] at gg;cases gg],r.10 sc,hl,hf]
  refine #[(s'.4 sac).50 n10,some (.int i),L++[(qn,P!++ys2)],rfl,T.snoc s' sac (sab.17 nc) gc ?_ (λx hx=>?_),by rw[ax,bN,lL],λj e he=>?_]
  ·refine dX.mpr #[nd1,nd2,λx hx y hy z=>?_];obtain _|_|q|e|_|gg|_:=dE ZY hx;obtain q'|e'|nq|_:=ne2 y hy;rw[<- z,e] at e';cases e';rw[nq] at gg;cases gg
  ·rcases aA.mp hx with hx | hx
   ·obtain c|mc|q|e|r:=dE ZY hx;obtain ns|mn|rfl:=ao.mp mc;obtain q'|e'|nq|_:=ne1 x hx;refine rP #[q,e,r.10 sb] #[q',e',nq] (by rw[ax,bB,(w1 ns mn).1];lia) λy hy=>?_
    rcases aA.mp hy with hy | hy
    ·show (w1 ns mn).2 y hy
    ·rw[(List.mem_replicate.mp hy).2];show Fr.zero
   ·obtain c|mc|q|e|r:=dE I! hx;obtain ns|mn|rfl:=ao.mp mc;obtain q'|e'|nq|_:=ne2 x hx;refine rP #[q,e,r] #[q',e',sa.17 nq] (by rw[ax,bB,(w2 ns mn).1];lia) λy hy=>?_
    rcases aA.mp hy with hy | hy
    ·rw[(List.mem_replicate.mp hy).2];show Fr.zero
    ·show (w2 ns mn).2 y hy
  ·rcases be j L.9 with z | z
   ·rw[cw z] at he;show hL j e he
   ·have hj:=(aI.mp he).1;rw[ax,bN] at hj;have ej:j=L.9:=()
    subst ej;rw[b8 (aj _),pK] at he;cases he;rw[lL,Za,ax,ly1,ly2]
 ·rintro σ' H' ⟨s',x6,L,rfl,T,lL,hL⟩
  obtain ⟨⟨m,us⟩,⟨p,ws⟩,⟨l,vs⟩,rfl⟩:∃a b c,L=[a,b,c]:=by
   rcases L with _ | ⟨a,_ | ⟨b,_ | ⟨c,_ | ⟨d,L⟩⟩⟩⟩
   ·cases lL
   ·cases lL
   ·cases lL
   ·show #[a,b,c,rfl]
   ·simp at lL
  have lu:us.9=6+v:=by have:=hL 0 _ rfl;simpa using this.19
  have lw:ws.9=2:=by have:=hL 1 _ rfl;simpa using this.19
  have lv:vs.9=2:=by have:=hL 2 _ rfl;simpa using this.19
  have gf:=T.gf;obtain mn|mf|gm:=T.ls (m,us) (by simp);obtain pn|pf|gp:=T.ls (p,ws) (by simp);obtain ln|lf|gl:=T.ls (l,vs) (by simp);have nd:=T.nd;have Zz:=T.rows;have rd:=T.rd;clear T hL;have gf:H' fd=some (.lst [.ref m,.ref p,.ref l]):=gf;have nd:[m,p,l].33:=nd;have rd:(us++(ws++(vs++[]))).33:=rd;have u0':=u09.10 s';have B':=B9.10 s';have hm0:H m=none:=u09.17 B9 mn;have K!:H p=none:=u09.17 B9 pn;have hl0:H l=none:=u09.17 B9 ln;obtain ⟨A,eA⟩:∃A:Addr->Prop,A=λq=>H q=none/\q≠m/\q≠p/\q≠l:=#[_,rfl]
  have mkA:∀{q},H q=none->q≠m->q≠p->q≠l->A q:=λh1 h2 h3 h4=>by rw[eA];show #[h1,h2,h3,h4]
  have _g:∀{q},A q->H q=none/\q≠m/\q≠p/\q≠l:=λh=>by rw[eA] at h;show h
  have nb:∀{q},H q=none->q≠b:=λh z=>hB.at (by rw[<- z];show h)
  have MA:Iw A m p l b q0:=#[λz=>(_g z).2.1 rfl,λz=>(_g z).2.2.1 rfl,λz=>(_g z).2.2.2 rfl,λz=>hB.at (_g z).1,(λz=>by have z1:=(_g z).1;rw[e!] at z1;cases z1),nb hm0,nb K!,nb hl0,by intro z;subst z;simp at nd,by intro z;subst z;simp at nd,λz=>by rw[<- z,hm0] at e!;cases e!];have X:lD K A H' (6+v) (λ_=>Fr 1 1) m p l b q0 us ws vs:=#[B',u0'.2 _ I0,gm,gp,gl,lu,λx hx=>?_,?_]
  ·exists #[b,m,p,l,q0,6+v,1,λ_=>1,A,us,ws,vs,rfl,MA,X,(),(),(),λ_=>Nat.zero_lt_one,λ_=>bO,#[1,λ_ _ _=>rfl],(),λq hq=>?_,λr Z6 _H g Y kp=>?_]
   ·show mkA (u0'.17 B' hq) (λz=>by rw[z,gm] at hq;cases hq) (λz=>by rw[z,gp] at hq;cases hq) (λz=>by rw[z,gl] at hq;cases hq)
   ·obtain mv|Gm|_L|hmv:=mh (H0:=H) (n:=6+v) (C:=Fr 1 (9^3*1)) (m:=6+v) #[Z6,Y.gm,Y.lm,MA.am,λx hx=>Y.row x (by simp [hx])] λq h=>(_g h).1
    obtain pt|Gp|lpt|hpt:=mh (H0:=H) (n:=6+v) (C:=Fr 1 (9^3*1)) (m:=2) #[ws,Y.gp,lw,MA.ap,λx hx=>Y.row x (by simp [hx])] λq h=>(_g h).1
    obtain lk|Gl|llk|hlk:=mh (H0:=H) (n:=6+v) (C:=Fr 1 (9^3*1)) (m:=2) #[vs,Y.gl,lv,MA.al,λx hx=>Y.row x (by simp [hx])] λq h=>(_g h).1
    refine k r mv pt lk _H #[m,p,l,g,hm0,K!,hl0,Gm,Gp,Gl] () lpt #[(),(),(),λxs hx=>by rw[(hmv xs hx).1,_L],λxs hx=>by rw[(hpt xs hx).1,_L],λxs hx=>by rw[(hlk xs hx).1,_L]] (λxs hx=>(hmv xs hx).2) (λxs hx=>(hpt xs hx).2) (λxs hx=>(hlk xs hx).2) Y._f #[λc' u e n1=>kp c' u (u0'.1 _ _ e n1) n1 (λz=>by have:=(_g z).1;rw[e] at this;cases this) (λz=>by rw[z,hm0] at e;cases e),λq h=>by rw[<- Inner.inj I0 h];show Y._C]
  ·have hx:∃e∈[(m,us),(p,ws),(l,vs)],x∈e.2:=by
    rcases aA.mp hx with hx | hx
    ·rcases aA.mp hx with hx | hx
     ·show #[(m,us),by simp,hx]
     ·show #[(l,vs),by simp,hx]
    ·show #[(p,ws),by simp,hx]
   obtain e|he|hx:=hx;refine (Zz e he x hx).47 (λq hq=>?_) (λ_ w=>w);obtain ⟨h1,_⟩|h2:=hq;have h2:q∉[m,p,l]:=h2;simp only[aM,bf,or_false,not_or] at h2;show mkA (u09.17 B9 h1) h2.1 h2.2.1 h2.2.2
  ·rw[oj] at rd
   have e:(us++vs++ws).Perm (us++(ws++vs)):=by
    rw[cC];show List.Perm.append_left _ List.perm_append_comm
   show e.nodup_iff.mpr rd
theorem tx:sC ["_law_bag_here","_law_wide","_law_way"] 2 pW:=by walk_at "d"
theorem AO (T:Txt K mg Z) (ac:bd P):T.kU.o P w base 2 (Ag K):=by
 refine T.kU.F.k tx ?_;walk_at "i";obtain b|w|rfl|hB|w0|w1|k:=h
 refine #[_,(ay (eT 2 tx.nd (cN (bF T ac) hr T.bc (cX b9 aw)))
  (ay (dr (bE t9 eI aw (bR _)) (aD (aW (dD (cX aw aw)))) cy)
  (ay (dr (bE t9 eI aw (bR _)) (aD (aW (dD (cX (bS l7 (cN (bF T ac) hr T.bc (cX b9 aw)) aw) aw)))) cy)
  (ay (dr (bE gN eI aw (bR _)) (aD (aW (cN (gZ T ac) hr T.eF (cX (bS l7 (cN (bF T ac) hr T.bc (cX b9 aw)) aw) (bS gB aw (cN (bF T ac) hr T.bc (cX b9 aw))))))) cy)
  (aD (aW (cN (gZ T ac) hr T.eF (cX (bS l7 (cN (bF T ac) hr T.bc (cX b9 (bS gB (bS c7 aw cV) aw))) cV) (bS gB aw (cN (bF T ac) hr T.bc (cX b9 cV))))))))))),?_]
 left
 exists #[b,8,rfl,hB,(),(),λv H1 v0 v1 B1 u1=>?_];exists jh (λh0=>?_) (λh0=>?_)
 ·exists cO λr H2 s2 g2=>?_
  show k r 0 _ #[bD _,by change 1<=_;lia] (cG.mk g2 rfl) (B1.10 s2) (u1.10 s2)
 exists jh (λh1=>?_) (λh1=>?_)
 ·exists #[b,7,rfl,B1,(),(),λa H2 a0 a1 B2 u2=>?_];exists cO λr H3 s3 g3=>?_
  show k r ((a - 3:Int):Rat) _ #[by change (a - 3).15<=_;lia,by change 1<=_;lia] (cG.mk g3 rfl) (B2.10 s3) ((u1.4 u2).10 s3)
 exists jh (λh2=>?_) (λh2=>?_)
 ·exists #[b,13,rfl,B1,(),(),λa H2 a0 a1 B2 u2=>?_];exists #[b,6,rfl,B2,(),(),λc H3 c0 c1 B3 u3=>?_];exists #[_,_,rfl,(),(Nw ()).22 (),λr H4 s4 g4=>?_];obtain q|e|d|_:=OI (t:=a - 6) (b:=1+c) (W:=max w 6) () () ();show k r q _ d (cG.mk g4 e) (B3.10 s4) (((u1.4 u2).4 u3).10 s4)
 exists #[b,_,rfl,B1,(),(),λa H2 a0 a1 B2 u2=>?_];exists #[b,_,rfl,B2,(),(),λc H3 c0 c1 B3 u3=>?_];exists #[_,_,rfl,(),(Nw ()).22 (),λr H4 s4 g4=>?_];obtain q|e|d|_:=OI (t:=a - w) (b:=1+c) (W:=max w 6) () () ();show k r q _ d (cG.mk g4 e) (B3.10 s4) (((u1.4 u2).4 u3).10 s4)
theorem Gh:sC ["_law_bag_here","_law_many","_law_wide"] 3 vI:=by walk_at "d"
theorem uh (T:Txt K mg Z) (ac:bd P):T.jf.o P w base 3 (F4 K):=by
 refine T.jf.F.k Gh ?_;walk_at "i";obtain b|m|w|rfl|hB|hm|w0|w1|k:=h;refine #[_,(aD (aW (cg ["_law_k"] ["_law_bag_here","_law_wide"] [0,2] (cz rfl T.32 (dg cV)) (λ_=>(eN 0)) (λ_=>cp) (λ_=>(cN (AO T ac) hr T.kU (cX cV eI)))))),?_];left
 exists #[(),(),?_];refine yQ (n:=m) (cG K) (Dr (max w 6)) hB hm (λa u B=>a.Y7 u B) ?_ ?_
 ·rintro i H' NY NN hi u B k1;exists #[b,w,rfl,B,w0,w1,λr x H2 hx h2 B2 u2=>k1 _ x _ u2 B2 hx h2]
 ·rintro ys cs H' p hp u B g lc hc pr nx;show k p cs H' hp #[ys,g,pr] lc hc B u
theorem kF:sC ["_law_bag_here","_law_n","_law_way","_law_first","_law_wide","_law_move_here","_law_i","_law_row_here","_law_j"] 5 tS:=by walk_at "d"
theorem Ei (T:Txt K mg Z) (ac:bd P):T.nW.o P w base 4 (FW K):=by
 refine T.nW.F.k kF ?_;walk_at "i";obtain b|n|w|way|first|rfl|hB|n8|w0|w1|k:=h
 refine #[_,(ay (eT 5 kF.nd (dW gA))
  (ay (eE XA rfl (cz rfl T.32 (dg cV)) (eN 6 kF.nd)
   (ay (eT 7 kF.nd (cN (uh T ac) hr T.jf (yw b9 cV wH)))
  (ay (eE XA rfl (cz rfl T.32 (dg cV)) (eN 8 kF.nd)
   (kg (dr (PW.pt (lX (bE gN eI aw (bR _)) (nJ (bE wZ (cN (bF T ac) hr T.bc (cX b9 aw)) aw (bR _))))) (aD (gM (dD (cX aw aw)) (i8 CQ Jf set_list))) cy)
  (kg (dr (PW.pt (lX (bE gN eI aw (bR _)) (nJ (bE t9 (bS gB sU aw) cV (bR _))))) (aD (gM (dD (cX (fQ qF (by rfl) T.int X7 (dg (kJ gN Jf (bS gB sU aw) (bR _)))) aw)) (i8 CQ Jf set_list))) cy)
  (kg (dr (PW.pt (pe (PW.pt (lX (bE gN eI aw (bR _)) (lX (bE CU sU jH (bR _)) (nJ (bE t9 Jf jH (bR _)))))) (kH (PW.pt (lX (bE gN eI aw (bR _)) (lX (bE t9 sU jH (bR _)) (nJ (bE CU Jf jH (bR _))))))))) (aD (gM (dD (cX aw aw)) (i8 CQ Jf set_list))) cy)
  (aD (dr (bE gN eI aw (bR _)) (aD (gM (dD (cX (bS c7 (a7 ck (dW (MX aw aw (AE vp aw) aw)) (bS p5 jH aw)) (fQ qF (by rfl) T.int X7 (dg (kJ gN sU Jf (bR _))))) aw)) (i8 CQ Jf set_list))) cy))))))
  (aD (kI (wV de dB dA ki vM (dg CQ)))))))
  (aD (aW vM)))),?_]
 left
 have W1:1<=max w 6:=()
 exists dj λr H1 s1 n1 g1=>?_
 have rb:r≠b:=λz=>hB.at (by rw[<- z];show n1)
 obtain q0|I0|xs0|e!:=hB.inner;have I1:Inner H1 b q0:=(s1.Y7 (p:=b)).2 _ I0;obtain ⟨A,eA⟩:∃A:Addr->Prop,A=λq=>H q=none/\q≠r:=#[_,rfl]
 have nb:¬A b:=by rw[eA];show λz=>hB.at z.1
 have nr:¬A r:=by rw[eA];show λz=>z.2 rfl
 have nq:¬A q0:=by rw[eA];show λz=>by have z1:=z.1;rw[e!] at z1;cases z1
 have rq:r≠q0:=λz=>by rw[<- z,n1] at e!;cases e!
 exists #[(),(),?_];refine dM (n:=n) (λi σ' H'=>∃(x1 x2 x3:Option V) (us:List V),σ'=[some (.ref b),some (.int n),some (.int way),some (.int first),some (.int w),some (.ref r),x1,x2,x3]/\H' r=some (.lst us)/\us.9=i/\us.33/\(∀x∈us,gG K A H' n (Dr (max w 6)) x)/\jE H' b/\Inner H' b q0/\di b H H') #[none,none,none,[],rfl,g1,rfl,pM,(λ_ z=>nomatch z),hB.10 s1,I1,s1.Y7] ?_ ?_
 ·rintro i σ' H' hi ⟨x1,x2,x3,us,rfl,gu,lu,nd,ru,B',I',u'⟩;exists #[b,n,w,rfl,B',(),w0,w1,λp xs Ha np Ra la da Ba ua=>?_];have K!:H p=none:=u'.17 B' np
  have pn:V.ref p∉us:=λz=>by
   obtain q'|_|_|e'|_|g'|_:=(ru _ z).at;cases e';rw[np] at g';cases g'
  have ap':H p=none/\p≠r:=#[K!,λz=>by rw[z,gu] at np;cases np];have ap:A p:=by rw[eA];show ap'
  have X0:Ly K A n (Dr (max w 6)) r p b q0 us H Ha:=#[ua.37 rb gu,λx hx=>(ru x hx).Y7 ua B' nb,#[p,xs,rfl,ap,Ra,la,da],Ba,ua.2 _ I',u'.4 ua];clear ru Ra gu;exists #[(),(),?_];refine dM (n:=n) (λj σ' H'=>(∃x3,σ'=[some (.ref b),some (.int n),some (.int way),some (.int first),some (.int w),some (.ref r),some (.int i),some (.ref p),x3])/\Ly K A n (Dr (max w 6)) r p b q0 us H H') #[#[_,rfl],X0] ?_ ?_
  ·rintro j σ' Hj hj ⟨⟨x3,rfl⟩,X⟩;exists #[λσ' H'=>σ'=[some (.ref b),some (.int n),some (.int way),some (.int first),some (.int w),some (.ref r),some (.int i),some (.ref p),some (.int j)]/\Ly K A n (Dr (max w 6)) r p b q0 us H H',?_,?_]
   ·exists jh (λ_=>?_) (λ_=>?_)
    ·exists #[b,3,rfl,X._f,(),(),λd Hd d0 d1 Bd ud=>?_];replace X:=X.Y7 ud Bd nb rb
     repeat' (first | walk_at "rd" | refine jh (λ_=>?_) (λ_=>?_))
     all_goals first
      | show ⟨rfl,X⟩
      | (refine cO λt Hb sb gb=>?_;walk_at "w";obtain zs|gz|lz|Xz:=(X.10 sb).put ap nr nb nq K! (cG.mk (q:=0) gb rfl) (uv (i:=0) (bD _) W1) j;refine fV gz (gI ()) rfl ?_;show #[rfl,Xz])
    ·exists #[rfl,X]
   clear X;rintro σ' Hj ⟨rfl,X⟩;refine #[λσ' H'=>σ'=[some (.ref b),some (.int n),some (.int way),some (.int first),some (.int w),some (.ref r),some (.int i),some (.ref p),some (.int j)]/\Ly K A n (Dr (max w 6)) r p b q0 us H H',?_,?_]
   ·repeat' (first | walk_at "rd" | refine jh (λ_=>?_) (λ_=>?_))
    all_goals first
     | show ⟨rfl,X⟩
     | (refine cO λt Hb sb gb=>?_;walk_at "w";obtain zs|gz|lz|Xz:=(X.10 sb).put ap nr nb nq K! (cG.mk (q:=((if decide ((j:Int)=(i:Int)+1)=true then (1:Int) else 0:Int):Rat)) gb rfl) (uv (by split <;> lia) W1) j;refine fV gz (gI ()) rfl ?_;show #[rfl,Xz])
   clear X;rintro σ' Hj ⟨rfl,X⟩;refine #[λσ' H'=>σ'=[some (.ref b),some (.int n),some (.int way),some (.int first),some (.int w),some (.ref r),some (.int i),some (.ref p),some (.int j)]/\Ly K A n (Dr (max w 6)) r p b q0 us H H',?_,?_]
   ·repeat' (first | walk_at "rd" | refine jh (λ_=>?_) (λ_=>?_))
    all_goals first
     | show ⟨rfl,X⟩
     | (refine cO λt Hb sb gb=>?_;walk_at "w";obtain zs|gz|lz|Xz:=(X.10 sb).put ap nr nb nq K! (cG.mk (q:=0) gb rfl) (uv (i:=0) (bD _) W1) j;refine fV gz (gI ()) rfl ?_;show #[rfl,Xz])
   clear X;rintro σ' Hj ⟨rfl,X⟩;exists jh (λ_=>?_) (λ_=>?_)
   ·exists dj λl0 Hc sc nc gc=>?_
    walk_at "w";obtain x|ex|mx|_:=mU (xs:=[V.int 2,V.int 1,V.int (-1),V.int 0]) (i:=first % 4) (oo _ ()) (by have:=jY first (show (0:Int) < 4 by decide);simpa using this)
    obtain ⟨z,rfl,hz⟩:∃z:Int,x=.int z/\z.15<=2:=by
     simp only[aM,bf,or_false] at mx;rcases mx with rfl | rfl | rfl | rfl
     ·show #[2,rfl,()]
     ·show #[1,rfl,()]
     ·show #[-1,rfl,()]
     ·show #[0,rfl,()]
    refine cK (bY.of gc) ex ?_;exists gL (E7 () ()) ?_;exists cO λt Hb sb gb=>?_
    walk_at "w";obtain zs|gz|lz|Xz:=((X.10 sc).10 sb).put ap nr nb nq K! (cG.mk (q:=((z*(if decide ((i:Int)=(j:Int))=true then (1:Int) else 0):Int):Rat)) gb rfl) (uv (by split <;> lia) W1) j;refine fV gz (gI ()) rfl ?_;show #[#[_,rfl],Xz]
   ·exists #[#[_,rfl],X]
  ·rintro σ' Hj ⟨⟨x3,rfl⟩,X⟩;exists #[.inl #[rfl,_,bY.of X.gr],?_];exists ke X.gr (du ()) ?_;refine #[_,_,_,us++[.ref p],rfl,aN,by simp [lu],rS nd pn,λx hx=>?_,X._f.upd X._C rb rq,X._C.upd rb,X.up.50 n1];rcases aA.mp hx with hx | hx
   ·show (X.ru x hx).37 X.gr nr
   ·have e:x=V.ref p:=by simpa using hx
    rw[e];show X.rp.37 X.gr nr
 ·rintro σ' H' ⟨x1,x2,x3,us,rfl,gu,lu,nd,ru,B',I',u'⟩;exists k r us H' n1 gu lu nd (by rw[eA] at ru;show ru) B' u'
theorem eB:sC ["_law_bag_here","_law_n","_law_ins","_law_outs","_law_wide","_law_way","_law_first","_law_move_here","_law_put","_law_look","_law_k","_law_row_here"] 5 rA:=by walk_at "d"
theorem BQ (T : Txt K mg Z) (ac : P.given.tree = none) : T.mK.o P w base 5 (CF K) := by
  have pI := bF (P := P) (w := w) (base := base) T ac;have Iy := Ei (P := P) (w := w) (base := base) T ac;have Bt := uh (P := P) (w := w) (base := base) T ac;have Fy := va (P := P) (w := w) (base := base) T ac;refine T.mK.F.k eB ?_;walk_at "i";obtain b|n|i|o|w|c|rfl|hB|n8|i4|o4|w0|w1|hc|abg|hcM|k:= h
  refine #[_, (ay (eT 5 eB.nd (cN pI hr T.bc (cX b9 aw)))
    (ay (eT 6 eB.nd (cN pI hr T.bc (cX b9 (bS gB cV aw))))
    (ay (eT 7 eB.nd (cN Iy hr T.nW (fu b9 (MX cV vM sU wH))))
    (ay (jq 8 ["_law_k"] ["_law_bag_here", "_law_n", "_law_wide"] [0, 1, 4] eB.nd rfl rfl (cz rfl T.32 (dg eI)) (λ_ => (eN 0)) (λ_ => cp) (λ_ => (cN Bt hr T.jf (yw cV eI jH))))
    (ay (jq 9 ["_law_k"] ["_law_bag_here", "_law_n", "_law_wide"] [0, 1, 4] eB.nd rfl rfl (cz rfl T.32 (dg jH)) (λ_ => (eN 0)) (λ_ => cp) (λ_ => (cN Bt hr T.jf (yw cV eI jH))))
    (ay (eE XA rfl (cz rfl T.32 (dg cV)) (eN 10 eB.nd)
      (ay (eE XA rfl (cA Jf) (eN 11 eB.nd)
      (aD (dr (PW.pt (pe (PW.pt (lX (bE gN vM aw (bR _)) (nJ (bE CU (pv 10) sU (bR _))))) (kH (PW.pt (lX (bE gN vM aw (bR _)) (lX (bE t9 (bS gB (pv 10) aw) cV (bR _)) (nJ (bE gN (cN pI hr T.bc (cX b9 aw)) aw (bR _))))))))) (aD (gM (dD (cX aw aw)) (i8 (pv 11) (pv 10) set_list))) cy)))
    (aD (eE XA rfl (cA (pv 9)) (eN 11 eB.nd)
      (aD (dr (PW.pt (pe (PW.pt (lX (bE gN vM aw (bR _)) (nJ (bE CU (pv 10) sU (bR _))))) (kH (PW.pt (lX (bE gN vM aw (bR _)) (lX (bE wZ (pv 10) aw (bR _)) (nJ (bE gN (cN pI hr T.bc (cX b9 aw)) aw (bR _))))))))) (aD (gM (dD (cX aw aw)) (i8 (pv 11) (pv 10) set_list))) cy))))))
    (aD (aW (cN Fy hr T.jO (MX b9 CQ Jf (pv 9))))))))))), ?_]
  walk_at "s"
  try rw [gV]
  have W1 : 1 ≤ max w 6 := by lia
  obtain q0|I0|xs0|e!:= hB.inner;exists #[b, 6, rfl, hB, by decide, by decide, λway H1 a0 a1 B1 u1 => ?_];exists #[b, _, rfl, B1, by lia, by lia, λfirst H2 f0 f1 B2 u2 => ?_];have _Q := u1.4 u2;exists #[b, n, w, way, first, rfl, B2, n8, w0, w1, λm us H3 nm0 gm lm ndm rm B3 u3 => ?_];have a! := _Q.4 u3;exists #[(), by lia, ?_];refine Dc (n := i) (b := b) (cR K H3) (λxs => xs.9 = n /\ ∀ x ∈ xs, Dr (max w 6) x) B3 () (λa u B => a.Y7 u B B3.at) (λ#[q, e, _, _, g, _] => #[q, e, by rw [g]; show λz => nomatch z]) ?_ ?_
  · rintro s H' NY NN hi u B k1;exists #[b, n, w, rfl, B, by lia, w0, w1, λr xs H2 nr R lx dx B2 u2 => k1 _ xs _ u2 B2 #[lx, dx] #[r, rfl, u.17 B nr, R] #[r, rfl, nr]]
  rintro ws puts H4 p np u4 B4 gp lp ndp hp p! nx4;have u04 := a!.4 u4;exists #[(), by lia, ?_];refine Dc (n := o) (b := b) (cR K H4) (λxs => xs.9 = n /\ ∀ x ∈ xs, Dr (max w 6) x) B4 () (λa u B => a.Y7 u B B4.at) (λ#[q, e, _, _, g, _] => #[q, e, by rw [g]; show λz => nomatch z]) ?_ ?_
  · rintro s H' NY NN hi u B k1;exists #[b, n, w, rfl, B, by lia, w0, w1, λr xs H2 nr R lx dx B2 u2 => k1 _ xs _ u2 B2 #[lx, dx] #[r, rfl, u.17 B nr, R] #[r, rfl, nr]]
  rintro vs aat H5 l nl u5 B5 gl ll ndl hl pr5 nx5;have u05 := u04.4 u5;have hm0 : H m = none := _Q.17 B2 nm0;have K! : H p = none := a!.17 B3 np;have hl0 : H l = none := u04.17 B4 nl;have mb : m ≠ b := λz => B2.at (by rw [<- z]; show nm0)
  have pb : p ≠ b := λz => B3.at (by rw [<- z]; show np)
  have lb : l ≠ b := λz => B4.at (by rw [<- z]; show nl)
  have gm4 := u4.37 mb gm;have gm5 := u5.37 mb gm4;have gp5 := u5.37 pb gp;have mp : m ≠ p := λz => by rw [z, np] at gm; cases gm
  have ml : m ≠ l := λz => by rw [z, nl] at gm4; cases gm4
  have pl : p ≠ l := λz => by rw [z, nl] at gp; cases gp
  have mq : m ≠ q0 := λz => Inner.at B2 (_Q.2 _ I0) (by rw [<- z]; show nm0)
  obtain ⟨A, eA⟩ : ∃ A : Addr → Prop, A = λq => H q = none /\ q ≠ m /\ q ≠ p /\ q ≠ l := #[_, rfl]
  have mkA : ∀ {q}, H q = none → q ≠ m → q ≠ p → q ≠ l → A q := λh1 h2 h3 h4 => by rw [eA]; show #[h1, h2, h3, h4]
  have _g : ∀ {q}, A q → H q = none /\ q ≠ m /\ q ≠ p /\ q ≠ l := λh => by rw [eA] at h; show h
  have MA : Iw A m p l b q0 := #[λz => (_g z).2.1 rfl, λz => (_g z).2.2.1 rfl, λz => (_g z).2.2.2 rfl, λz => hB.at (_g z).1, (λz => by have z1 := (_g z).1; rw [e!] at z1; cases z1), mb, pb, lb, mp, ml, mq];clear eA;have X! : ws.9 = i := by rw [<- p!.9]; show lp
  have lvs : vs.9 = o := by rw [<- pr5.9]; show ll
  have alM : ∀ q, V.ref q ∈ us → H3 q ≠ none /\ q ≠ b /\ H4 q ≠ none := λq hq => by
    obtain q'|qs|e|⟨a1, a2⟩|r|z:= rm _ hq;cases e;have qb : q ≠ b := λy => B2.at (by rw [<- y]; show a1)
    obtain xq|gq|_:= id r;obtain xq4|gq4|_:= r.Y7 u4 B3 qb;show #[(by rw [gq]; show λz => nomatch z), qb, (by rw [gq4]; show λz => nomatch z)]
  have alP : ∀ q, V.ref q ∈ ws → H3 q = none /\ H4 q ≠ none := λq hq => by
    obtain _|_|q'|e|a|_|g|_:= dE p! hq;cases e;show #[a, by rw [g]; show λz => nomatch z]
  have alL : ∀ q, V.ref q ∈ vs → H4 q = none := λq hq => by
    obtain _|_|q'|e|a|_:= dE pr5 hq;cases e;show a
  have isR : ∀ x, x ∈ us \/ x ∈ ws \/ x ∈ vs → ∃ q, x = V.ref q := λx hx => by
    rcases hx with hx | hx | hx
    · obtain q|_|e|_:= rm x hx; show #[q, e]
    · obtain _|_|q|e|_:= dE p! hx; show #[q, e]
    · obtain _|_|q|e|_:= dE pr5 hx; show #[q, e]
  have nd : (us ++ vs ++ ws).33 := by
    refine dX.mpr #[dX.mpr #[ndm, ndl, λx hx y hy e => ?_], ndp, λx hx y hy e => ?_]
    · subst e;obtain q|rfl:= isR x (.inl hx);show (alM q hx).2.2 (alL q hy)
    · subst e;obtain q|rfl:= isR x (.inr (.inl hy));rcases aA.mp hx with hx | hx
      · show (alM q hx).1 (alP q hy).1
      · show (alP q hy).2 (alL q hx)
  have X5 : J8 K A n (Dr (max w 6)) m p l b q0 us ws vs H H5 := by
    refine #[#[B5, u05.2 _ I0, gm5, gp5, gl, lm, λx hx => ?_, nd], gp5, gl, λc u e n1 _ _ => u05.1 c u e n1];rcases aA.mp hx with hx | hx
    · rcases aA.mp hx with hx | hx
      · obtain q|qs|e|⟨a1, a2⟩|r|z:= rm x hx;obtain xq|gq|_:= id r;have qb : q ≠ b := λy => B2.at (by rw [<- y]; show a1)
        have r4 := r.Y7 u4 B3 qb;obtain xq4|gq4|_:= id r4;show #[q, qs, e, mkA (_Q.17 B2 a1) a2 (λy => by rw [y, np] at gq; cases gq) (λy => by rw [y, nl] at gq4; cases gq4), r4.Y7 u5 B4 qb, z]
      · refine N4 (A := A) pr5 hl (λq hq a b' => ?_) x hx;show mkA (u04.17 B4 a) (λy => by rw [y, gm4] at a; cases a) (λy => by rw [y, gp] at a; cases a) (λy => fW nx5 (by rw [<- y]; show hq))
    · refine gG.Y7 (N4 (A := A) p! hp (λq hq a b' => ?_) x hx) u5 B4 MA.ab;show mkA (a!.17 B3 a) (λy => by rw [y, gm] at a; cases a) (λy => fW nx4 (by rw [<- y]; show hq)) (λy => b' (by rw [y]; show nl))
  clear alM alP alL isR rm p! pr5 nx4 nx5 gm gm4 gm5 gp gp5 gl hp hl;exists #[(), by lia, ?_];refine dM (n := n) (λkk σ' H' => (∃ x1 x2, σ' = [some (.ref b), some (.int n), some (.int i), some (.int o), some (.int w), some (.int way), some (.int first), some (.ref m), some (.ref p), some (.ref l), x1, x2]) /\ J8 K A n (Dr (max w 6)) m p l b q0 us ws vs H H') #[#[_, _, rfl], X5] ?_ ?_
  · rintro kk σ' Hj hk ⟨⟨x1, x2, rfl⟩, X⟩;exists #[#[_, bY.of X.gp], ?_];refine oR (K := K) (a := p) (xs := ws) (λs σ' H' => (∃ x2, σ' = [some (.ref b), some (.int n), some (.int i), some (.int o), some (.int w), some (.int way), some (.int first), some (.ref m), some (.ref p), some (.ref l), some (.int kk), x2]) /\ J8 K A n (Dr (max w 6)) m p l b q0 us ws vs H H') #[#[_, rfl], X] (λs σ' H' _ #[_, e] => bY.of e.gp) ?_ ?_
    · rintro s x σ' Hk hx ⟨⟨y2, rfl⟩, X⟩;have mx := av hx;obtain q|_|rfl|_:= X.row (.inl mx)
      repeat' (first | walk_at "rd" | refine jh (λ_ => ?_) (λ_ => ?_))
      all_goals first
        | show ⟨⟨_, rfl⟩, X⟩
        | (refine cO λt Hb sb gb => ?_; walk_at "w"; obtain zs|gz|lz|Xz:= (X.10 sb).put MA (.inl mx) (cG.mk (q := 0) gb rfl) (uv (i := 0) (bD _) W1) kk; refine fV gz (gI ()) rfl ?_; show #[#[_, rfl], Xz])
        | (refine ⟨b, 2, rfl, X._w._f, by decide, by decide, λd Hd d0 d1 Bd ud => ?_⟩
           replace X := X.Y7 MA ud Bd
           repeat' (first | walk_at "rd" | refine jh (λ_ => ?_) (λ_ => ?_))
           all_goals first
             | show ⟨⟨_, rfl⟩, X⟩
             | (refine cO λt Hb sb gb => ?_
                walk_at "w";obtain zs|gz|lz|Xz:= (X.10 sb).put MA (.inl mx) (cG.mk (q := 0) gb rfl) (uv (i := 0) (bD _) W1) kk;refine fV gz (gI ()) rfl ?_;show #[#[_, rfl], Xz]))
    · rintro σ' Hk ⟨⟨y2, rfl⟩, X⟩;exists #[#[_, bY.of X.gl], ?_];refine oR (K := K) (a := l) (xs := vs) (λs σ' H' => (∃ x2, σ' = [some (.ref b), some (.int n), some (.int i), some (.int o), some (.int w), some (.int way), some (.int first), some (.ref m), some (.ref p), some (.ref l), some (.int kk), x2]) /\ J8 K A n (Dr (max w 6)) m p l b q0 us ws vs H H') #[#[_, rfl], X] (λs σ' H' _ #[_, e] => bY.of e.gl) ?_ ?_
      · rintro s x σ' Hk hx ⟨⟨y2, rfl⟩, X⟩;have mx := av hx;obtain q|_|rfl|_:= X.row (.inr mx)
        repeat' (first | walk_at "rd" | refine jh (λ_ => ?_) (λ_ => ?_))
        all_goals first
          | show ⟨⟨_, rfl⟩, X⟩
          | (refine cO λt Hb sb gb => ?_; walk_at "w"; obtain zs|gz|lz|Xz:= (X.10 sb).put MA (.inr mx) (cG.mk (q := 0) gb rfl) (uv (i := 0) (bD _) W1) kk; refine fV gz (gI ()) rfl ?_; show #[#[_, rfl], Xz])
          | (refine ⟨b, 2, rfl, X._w._f, by decide, by decide, λd Hd d0 d1 Bd ud => ?_⟩
             replace X := X.Y7 MA ud Bd
             repeat' (first | walk_at "rd" | refine jh (λ_ => ?_) (λ_ => ?_))
             all_goals first
               | show ⟨⟨_, rfl⟩, X⟩
               | (refine cO λt Hb sb gb => ?_
                  walk_at "w";obtain zs|gz|lz|Xz:= (X.10 sb).put MA (.inr mx) (cG.mk (q := 0) gb rfl) (uv (i := 0) (bD _) W1) kk;refine fV gz (gI ()) rfl ?_;show #[#[_, rfl], Xz]))
      · rintro σ' Hk ⟨⟨y2, rfl⟩, X⟩;show #[#[_, _, rfl], X]
  · rintro σ' Hj ⟨⟨x1, x2, rfl⟩, X⟩
    obtain ⟨M1, M2, M3, V0, a1, a2, a3, V2, d!, R1, R2, R3⟩ : ∃ M1 M2 M3 V0 : Nat, (0 < M1 /\ M1 ≤ 2 ^ 800) /\ (0 < M2 /\ M2 ≤ 2 ^ 800) /\ (0 < M3 /\ M3 ≤ 2 ^ 800) /\ V0 ≤ 2 ^ 20 /\ ((w ≤ 9 /\ M1 = 2520 /\ M2 = 2520 /\ M3 = 2520 /\ V0 = 9) \/ (9 < w /\ M1 ≤ 2 ^ (c * (n * n)) /\ M2 ≤ 2 ^ (c * (i * n)) /\ M3 ≤ 2 ^ (c * (o * n)) /\ V0 = 2 ^ c)) /\ (∀ x ∈ us, gG K A Hj n (Fr M1 V0) x) /\ (∀ x ∈ ws, gG K A Hj n (Fr M2 V0) x) /\ ∀ x ∈ vs, gG K A Hj n (Fr M3 V0) x := by
      by_cases w9 : w ≤ 9
      · have XM := X._w.47 (C' := λ_ => Fr 2520 9) λ_ _ y h => Pg #[ai h.1 (), ai h.2 ()] (Nat.dvd_refl _)
        have z : 0 < 2520 /\ 2520 ≤ 2 ^ 800 := #[(), ai (show 2520 ≤ 2 ^ 12 by decide) (ak () ())];show #[2520, 2520, 2520, 9, z, z, z, by decide, .inl #[w9, rfl, rfl, rfl, rfl], λx hx => XM.row x (by simp [hx]), λx hx => XM.row x (by simp [hx]), λx hx => XM.row x (by simp [hx])]
      · obtain M1|M2|M3|a1|a2|a3|b1|b2|b3|R1|R2|R3:= (X._w.47 (C' := λ_ => Dr (2 ^ c)) λ_ _ y h => #[ai h.1 hc, ai h.2 hc]).fr3;rw [X!] at b2;rw [lvs] at b3;have up : ∀ {M k : Nat}, M ≤ 2 ^ (c * k) → k ≤ (n + i + o) * n → M ≤ 2 ^ 800 := λh hk => ai h (ak () (ai (aP _ hk) hcM))
        show #[M1, M2, M3, 2 ^ c, #[a1, up b1 (au _ ())], #[a2, up b2 (au _ ())], #[a3, up b3 (au _ ())], ak () abg, .inr #[(), b1, b2, b3, rfl], R1, R2, R3]
    obtain μ|e2|e3|e1|e4:= OC ws vs M1 M2 M3;obtain ap1|ap2:= X._w.apart
    have XM : lD K A Hj n (λx => Fr (μ x) V0) m p l b q0 us ws vs := by
      refine #[X._w._f, X._w._C, X._w.gm, X._w.gp, X._w.gl, X._w.lm, λx hx => ?_, X._w.nd];rcases aA.mp hx with hx | hx
      · rcases aA.mp hx with hx | hx
        · rw [e1 x (ap1 x hx).1 (ap1 x hx).2]; show R1 x hx
        · rw [e3 x hx (ap2 x hx)]; show R3 x hx
      · rw [e2 x hx]; show R2 x hx
    have p1 : ∀ x, 0 < μ x := λx => by
      rcases e4 x with e | e | e
      · rw [e]; show a1.1
      · rw [e]; show a2.1
      · rw [e]; show a3.1
    have p2 : ∀ x, μ x ≤ 2 ^ 800 := λx => by
      rcases e4 x with e | e | e
      · rw [e]; show a1.2
      · rw [e]; show a2.2
      · rw [e]; show a3.2
    have gmj := X._w.gm;exists #[b, m, p, l, q0, n, V0, μ, A, us, ws, vs, rfl, MA, XM, n8, by lia, by lia, p1, p2, #[M1, e1], V2, λq hq => ?_, λr Z6 H' g Y kp => ?_]
    · refine mkA ?_ (λz => by rw [z, gmj] at hq; cases hq) (λz => by rw [z, X.gp] at hq; cases hq) (λz => by rw [z, X.gl] at hq; cases hq);cases e : H q with
      | none => rfl
      | some u =>
        have := X.kp q u e (λz => X._w._f.at (by rw [<- z]; show hq)) (λz => by have := (_g z).1; rw [e] at this; cases this) (λz => by rw [z, hm0] at e; cases e);rw [hq] at this; cases this
    · obtain yp1|yp2:= Y.apart;obtain mv|Gm|_L|hmv:= mh (H0 := H) (n := n) (C := Fr M1 (9 ^ 3 * V0)) (m := n) #[Z6, Y.gm, Y.lm, MA.am, λx hx => by have := Y.row x (by simp [hx]); rwa [e1 x (yp1 x hx).1 (yp1 x hx).2] at this] λq h => (_g h).1
      obtain pt|Gp|lpt|hpt:= mh (H0 := H) (n := n) (C := Fr M2 (9 ^ 3 * V0)) (m := i) #[ws, Y.gp, X!, MA.ap, λx hx => by have := Y.row x (by simp [hx]); rwa [e2 x hx] at this] λq h => (_g h).1
      obtain lk|Gl|llk|hlk:= mh (H0 := H) (n := n) (C := Fr M3 (9 ^ 3 * V0)) (m := o) #[vs, Y.gl, lvs, MA.al, λx hx => by have := Y.row x (by simp [hx]); rwa [e3 x hx (yp2 x hx)] at this] λq h => (_g h).1
      refine k r mv pt lk H' #[m, p, l, g, hm0, K!, hl0, Gm, Gp, Gl] _L lpt llk #[(), by lia, by lia, λxs hx => by rw [(hmv xs hx).1, _L], λxs hx => by rw [(hpt xs hx).1, _L], λxs hx => by rw [(hlk xs hx).1, _L]] #[M1, M2, M3, 9 ^ 3 * V0, a1.1, a2.1, a3.1, λxs hx => (hmv xs hx).2, λxs hx => (hpt xs hx).2, λxs hx => (hlk xs hx).2, ?_] Y._f #[λc' u e n1 => (X.kp.4 kp) c' u e n1 (λz => by have := (_g z).1; rw [e] at this; cases this) (λz => by rw [z, hm0] at e; cases e), λq h => by rw [<- Inner.inj I0 h]; show Y._C];rcases d! with ⟨b1, b2, b3, b4, b5⟩ | ⟨b1, b2, b3, b4, b5⟩
      · show .inl #[b1, b2, b3, b4, by rw [b5]]
      · show .inr #[b1, b2, b3, b4, by rw [b5]]
theorem iZ:sC ["_law_bag_here","_law_n","_law_ins","_law_outs","_law_wide"] 1 pU:=by walk_at "d"
theorem AM (T:Txt K mg Z) (ac:bd P):T.kR.o P w base 6 (NJ K):=by
 refine T.kR.F.k iZ ?_;walk_at "i";obtain b|rfl|hB|k:=h
 refine #[_,(ay (gM (cN (BO T ac) hr T.mI (dg b9)) (yt rfl (dn (eN 1 iZ.nd) (dn (eN 2 iZ.nd) (dn (eN 3 iZ.nd) (dn (eN 4 iZ.nd) mC))))))
  (ay (dr (bE gN (cN (bF T ac) hr T.bc (cX b9 aw)) aw (bR _)) (ay (dr (bE gN (cN (bF T ac) hr T.bc (cX b9 aw)) aw (bR _)) (aD (aW (dD (cX (cN (xf T ac) hr T.iH (dg b9)) aw)))) cy)
  (aD (aW (dD (cX (cN (rO T ac) hr T.jy (cX b9 (bS gB aw (cN (bF T ac) hr T.bc (cX b9 aw))))) aw))))) cy)
  (aD (aW (dD (cX (cN (BQ T ac) hr T.mK (fu b9 (MX cV eI jH wH))) (bH (uM rfl) (by rfl) T.min Ym (cX wH aw)))))))),?_]
 left
 have sf:∀{mv pt lk:Y3} {M V1:Nat},0 < M->M<=2^400->V1<=2^30->GF M V1 mv->GF M V1 pt->GF M V1 lk->IA mv pt lk:=λh0 h1 h2 a b c=>#[_,_,h0,h1,ai h2 (ak () ()),a,b,c]
 have et:∀{mv:Y3},(aK mv mv.9).9=mv.9:=aU;exists #[b,rfl,hB,λr n i o w H1 g1 n5 i4 o4 hw h5 B1 u1=>?_];exists #[b,16,rfl,B1,(),(),λv H2 v0 v1 B2 u2=>?_];have _Q:=u1.4 u2;exists jh (λh0=>?_) (λh0=>?_)
 ·exists #[b,2,rfl,B2,(),(),λv2 H3 _ _ B3 u3=>?_];have a!:=_Q.4 u3;exists jh (λh1=>?_) (λh1=>?_)
  ·exists #[b,rfl,B3,λr4 mv pt lk H4 P4 l6 l2 D fm fp fl B4 u4=>?_];exists cO λt H5 s5 g5=>?_
   show k t r4 4 mv pt lk H5 g5 ((P4.47 λq h=>a!.17 B3 h).10 s5) D (by rw[l2];have:=D.n8;lia) (sf () bO () fm fp fl) (.inl #[(),(),(),(),(),fm,fp,ai (au _ (show mv.9+4<=12 by have:=D.n8;lia)) ()]) (.inl #[(),(),(),(),(),zN fm,fl,ai (au _ (show (aK mv mv.9).9+4<=12 by have:=D.n8;rw[et];lia)) ()]) () () (B4.10 s5) ((a!.4 u4).10 s5)
  ·exists #[b,3,rfl,B3,(),(),λv3 H4 v30 v31 B4 u4=>?_];obtain v3|rfl:=cY v30;have u04:=a!.4 u4;walk_at "w";rw[show ((6:Int)+(v3:Int))=((6+v3:Nat):Int) by lia];refine #[b,6+v3,rfl,B4,(),(),λr4 mv pt lk H5 P5 lm l1 _ D fm fp fl B5 u5=>?_];exists cO λt H6 s6 g6=>?_
   show k t r4 4 mv pt lk H6 g6 ((P5.47 λq h=>u04.17 B4 h).10 s6) D (by rw[l1];have:=D.n8;lia) (sf () bO () fm fp fl) (.inl #[(),(),(),(),(),(λxs hx x Y6=>(fm xs hx x Y6).22 ()),(λxs hx x Y6=>(fp xs hx x Y6).22 ()),ai (au _ (show mv.9+4<=12 by have:=D.n8;lia)) ()]) (.inl #[(),(),(),(),(),zN (λxs hx x Y6=>(fm xs hx x Y6).22 ()),(λxs hx x Y6=>(fl xs hx x Y6).22 ()),ai (au _ (show (aK mv mv.9).9+4<=12 by have:=D.n8;rw[et];lia)) ()]) () () (B5.10 s6) ((u04.4 u5).10 s6)
 ·obtain ⟨c,hc,abg,hcM⟩:∃c:Nat,max w 6<=2^c/\c<=20/\c*((n+i+o)*n)<=800/\(9 < w->c=20/\(n+i+o)*n<=20/\n<=2):=by
   have m1:(n+i+o)*n<=13*5:=aE () n5;rcases hw with rfl | rfl | ⟨rfl,n2⟩
   ·show #[4,(),(),(),λz=>()]
   ·show #[4,(),(),(),λz=>()]
   ·have m2:(n+i+o)*n<=10*2:=aE () n2;show #[20,(),(),(),λ_=>#[rfl,(),n2]]
  obtain hcM|abh:=hcM;exists #[b,n,i,o,w,c,rfl,B2,(),i4,o4,(),(),hc,abg,hcM,λr4 mv pt lk H4 P4 lm lp ll D PF B4 u4=>?_];have agl:(if (1000:Int) < (w:Int) then (1000:Int) else (w:Int))=((min w 1000:Nat):Int):=by split <;> lia
  have PG:=PF
  have sz:mv.9*pt.9<=16:=by
   rw[lm,lp];rcases (by lia:n<=4\/n=5) with h | h
   ·show ai (aE h i4) ()
   ·show ai (aE (LG h) (h5 h).1) ()
  obtain M|V1|M0|fm|fp|fl|d!:=PF.n
  have SF:IA mv pt lk:=by
   rcases d! with ⟨w9,rfl,rfl⟩ | ⟨w9,M1,rfl⟩
   ·show sf () (ai (show 2520<=2^12 by decide) (ak () ())) () fm fp fl
   ·obtain rfl|e1|e2:=abh w9;show sf M0 (ai M1 (ak () ())) () fm fp fl
  have RG:Rg mv pt (min w 1000):=by
   obtain M1|M2|M3|V1|a1|a2|a3|f1|f2|f3|_a:=PG;rcases _a with ⟨w9,rfl,rfl,_,rfl⟩ | ⟨w9,b1,b2,_,rfl⟩
   ·show .inr (.inl #[(),(),(),(),(),(),f1,f2,ai (au _ (show mv.9+4<=9 by lia)) ()])
   ·obtain rfl|e1|e2:=abh w9;have q1:n*n<=2*2:=aE e2 e2;have q2:i*n<=4*2:=aE i4 e2;have w6:w=1000000:=()
    show .inr (.inr #[(),(),M1,M2,a1,a2,ai b1 (ak () ()),ai b2 (ak () ()),f1,f2,ai (au _ (show mv.9+4<=6 by lia)) ()])
  have RL:Rg (aK mv mv.9) lk (min w 1000):=by
   obtain M1|M2|M3|V1|a1|a2|a3|f1|f2|f3|_a:=PG;rcases _a with ⟨w9,rfl,rfl,rfl,rfl⟩ | ⟨w9,b1,b2,b3,rfl⟩
   ·show .inr (.inl #[(),by rw[et];lia,(),(),(),(),zN f1,f3,ai (au _ (show (aK mv mv.9).9+4<=9 by rw[et];lia)) ()])
   ·obtain rfl|e1|e2:=abh w9;have q1:n*n<=2*2:=aE e2 e2;have q2:o*n<=4*2:=aE o4 e2;have w6:w=1000000:=()
    show .inr (.inr #[(),by rw[et];lia,M1,M3,a1,a3,ai b1 (ak () ()),ai b3 (ak () ()),zN f1,f3,ai (au _ (show (aK mv mv.9).9+4<=6 by rw[et];lia)) ()])
  exists cO λt H5 s5 g5=>?_
  rw[agl] at g5;show k t r4 (min w 1000) mv pt lk H5 g5 ((P4.47 λq h=>_Q.17 B2 h).10 s5) D sz SF RG RL () () (B4.10 s5) ((_Q.4 u4).10 s5)
theorem DK:sC ["thing","at","most"] 3 tz:=by walk_at "d"
theorem rJ (T:Txt K mg Z) (ac:bd P):T.ju.o P w base 1 Kn:=by
 refine T.ju.F.k DK ?_;walk_at "i";obtain p|xs|a|m|rfl|gx|hm|k:=h
 refine #[_,(ay (dr (ng (lY (yu rfl T.46 XQ T.31 b9))) (aD KU) cy)
  (aD (dr (bE wZ (bH aY (by rfl) T.36 aT (dg b9)) eI (bR _)) (aD KU) cy))),?_]
 left
 exists #[_,_,.lst gx,rfl,?_];exists #[_,_,rfl,.inl (bY.of gx),?_];walk_at "w";rw[decide_eq_false (show ¬m < (xs.9:Int) by lia)];exists k
theorem F9:sC ["thing"] 1 vF:=by walk_at "d"
theorem ze (T:Txt K mg Z) (ac:bd P):T.mT.o P w base 1 LO:=by
 refine T.mT.F.k F9 ?_;walk_at "i";obtain i|rfl|k:=h;refine #[_,(aD (aW (yv (yu rfl T.46 X7 T.int b9) (AG (Uz (yu rfl T.46 PyProof.Rows.boot_bool T.bool b9)))))),?_];left
 exists #[_,_,.int i,rfl,?_];exists #[_,_,.int i,rfl,?_];exists k
theorem iG:sC ["one","other","rest"] 2 lO:=by walk_at "d"
theorem kK (T:Txt K mg Z) (ac:bd P):T.eO.o P w base 1 VI:=by
 refine T.eO.F.k iG ?_;walk_at "i";obtain a|b|rfl|k:=h
 refine #[_,(ay (Az XA (bE t8 cV aw (bR _))
   (ay (eT 2 iG.nd (bS Q9 b9 cV))
  (ay (eT 0 iG.nd cV)
  (aD (eT 1 iG.nd eI)))))
  (aD (aW (bH xB (by rfl) T.abs YB (dg b9))))),?_]
 left
 exists Dw (λσ' H'=>∃(u v:Int) (r:Option V),σ'=[some (.int u),some (.int v),r]/\H'=H/\Yb u v=Yb a b) (λσ' _=>match σ' with | [_,some (.int v),_]=>v.15 | _=>0) #[a,b,none,rfl,rfl,rfl] ?_;rintro σ' H' ⟨u,v,r,rfl,rfl,hg⟩;exists jh (λh=>?_) (λh=>?_)
 ·have hv:v≠0:=λz=>by subst z;simp at h
  exists gL (show v≠0 from hv) ?_;exists #[#[v,u.fmod v,_,rfl,rfl,(O4 u v).4 hg],RI u v hv]
 ·have hv:v=0:=by
   by_cases z:v=0
   ·show z
   ·exfalso;apply h;simp [z]
  subst hv;walk_at "w"
  have e:(if u < 0 then -u else u)=g a b:=by
   unfold g;rw[<- hg,Int.gcd_zero_right]
   split <;> lia
  rw[e];show k
theorem DN:sC ["thing"] 1 tG:=by walk_at "d"
theorem Ec (T:Txt K mg Z) (ac:bd P):T.nO.o P w base 2 (LS K):=by
 refine T.nO.F.k DN ?_;walk_at "i";obtain x|n|rfl|⟨p,rfl,hp⟩|hn|k:=h
 refine #[_,(ay (dr (PW.pt (pe (ng (lY (zS rfl T.46 PyProof.Rows.boot_tuple T.44 b9))) (kH (bE t8 (bH aY (by rfl) T.36 aT (dg b9)) aw (bR _))))) (aD (aW sJ)) cy)
  (ay (dr (PW.pt (pe (ng (lY (cN (ze T ac) hr T.mT (dg (a7 b6 b9 aw))))) (kH (ng (lY (cN (ze T ac) hr T.mT (dg (a7 b6 b9 aw)))))))) (aD (aW sJ)) cy)
  (aD (aW (yv (kJ CU (a7 b6 b9 aw) aw (bR _)) (AG (kJ gN (cN (kK T ac) hr T.eO (cX (a7 b6 b9 aw) (a7 b6 b9 aw))) aw (bR _)))))))),?_]
 left
 obtain hb|hg|s1|s2:=hn;exists .inr #[p,_,_,rfl,hp,rfl,?_];exists #[_,_,rfl,.inr hp,?_];walk_at "w"
 try refine Rw ?_
 exists #[n.1,rfl,?_];exists #[n.2,rfl,?_];walk_at "w";rw[decide_eq_true (show (1:Int)<=n.2 by lia)];exists #[n.1,n.2,rfl,?_];walk_at "w";have e:g n.1 n.2=1:=by unfold g;rw[hg];rfl
 rw[e,decide_eq_true rfl];show k _ (aL.refl _)
theorem LX:sC ["thing","many"] 2 As:=by walk_at "d"
theorem L9 (T:Txt K mg Z) (ac:bd P):T.uL.o P w base 3 (xU K):=by
 refine T.uL.F.k LX ?_;walk_at "i";obtain p|ns|rfl|hp|hl|hn|k:=h
 refine #[_,(ay (dr (PW.pt (pe (ng (lY (yu rfl T.46 XQ T.31 b9))) (kH (bE t8 (bH aY (by rfl) T.36 aT (dg b9)) cV (bR _))))) (aD (aW sJ)) cy)
  (aD (aW (bH (Bh rfl) (by rfl) T.all PyProof.Rows.boot_all (dg (cg ["value"] [] [] (cA b9) (λ_=>(eN 0)) (λ_=>cp) (λ_=>(cN (Ec T ac) hr T.nO (dg b9))))))))),?_]
 left
 obtain xs|gx|qx:=id hp;have lx:=qx.9;exists #[_,_,.lst gx,rfl,?_];exists #[_,_,rfl,.inl (bY.of gx),?_];walk_at "w";rw[show ((xs.9:Nat):Int)=(ns.9:Nat) by rw[lx],decide_eq_true rfl];exists #[#[_,bY.of gx],?_];refine d9 (K:=K) (xs:=xs) (λi ys H'=>aL H H'/\ys=K0 i (.bl true)) kX #[aL.refl _,rfl] (λi ys H' _ #[s,_]=>bY.of (s _ _ gx)) ?_ ?_
 ·rintro i x ys H' hx Za ⟨s,rfl⟩;obtain n|en|z:=dd qx hx;exists #[x,n,rfl,s.num z,hn n (av en),λH2 s2=>#[s.4 s2,by rw[Dq]]]
 ·rintro ys H' hy ⟨s,rfl⟩ l _x;exists #[l,K0 xs.9 true,rfl,bY.of (by rw[aN];simp),?_];have e4:(K0 xs.9 true).all id=true:=by simp
  rw[e4];show k _ (s.4 (aL.new _x))
theorem oA:sC ["things","wide","place","thing"] 2 pT:=by walk_at "d"
theorem oI (T:Txt K mg Z) (ac:bd P):T.gP.o P w base 4 (KI K):=by
 refine T.gP.F.k oA ?_;walk_at "i";obtain p|H0|rows|w|rfl|hp|hl|hw|hn|k:=h
 refine #[_,(ay (eE XA rfl (KZ rfl T.enumerate (dg b9)) (yt rfl (dn (eN 2 oA.nd) (dn (eN 3 oA.nd) mC)))
   (aD (dr (ng (lY (cN (L9 T ac) hr T.uL (cX jH cV)))) (aD KU) cy)))
  (aD (aW (cg ["row"] [] [] (cA b9) (λ_=>(eN 0)) (λ_=>cp) (λ_=>(fQ (iF K (by rfl)) (by rfl) T.31 XQ (dg b9))))))),?_]
 left
 obtain xs|gx|qx|_:=id hp;exists #[#[_,bY.of gx],?_];refine O8 (K:=K) (l:=p) (xs:=xs) (λi σ' H'=>aL H H'/\∃x y,σ'=[some (.ref p),some (.int w),x,y]) #[aL.refl _,none,none,rfl] (λi σ' H' _ #[s,_]=>bY.of (s _ _ gx)) ?_ ?_
 ·rintro i x σ' H' t hx ⟨s,x1,y1,rfl⟩ ht;obtain qs|eq|q|rfl|_|Rq:=dd qx hx;have hm:=av eq;have st:aL H' (upd H' t (.tup [.int i,.ref q])):=aL.new ht;have gt:(upd H' t (.tup [.int i,.ref q])) t=some (.tup [.int i,.ref q]):=aN;have s2:=s.4 st;generalize upd H' t (.tup [.int i,.ref q])=H2 at st gt s2 ⊢;have lq:(qs.11 nm).9=w:=by rw[af];show (hn qs hm).1
  exists #[q,_,by rw[lq],(Rq.10 s2)._W,by rw[lq];show hw,λn hn'=>?_,λH3 s3=>?_]
  ·obtain y|hy|rfl:=ao.mp hn';show (hn qs hm).2 y hy
  exists #[s2.4 s3,_,_,rfl]
 ·rintro σ' H' ⟨s,x1,y1,rfl⟩;exists #[#[_,bY.of (s _ _ gx)],?_];refine cP (K:=K) (F:=cR K H0) (cR K H) id (s _ _ gx) (bv (λ_ _ z=>z.10 s) qx) hl (λa b=>a.10 b) (λa b=>a.10 b) ?_ ?_
  ·rintro i ns x H2 NY NN en s2 ⟨u,rfl,_,zs,gz,qz⟩ k1;exists #[u,zs,rfl,.inl (bY.of gz),λl1 ZK=>?_];show k1 _ _ (aL.new ZK) #[l1,rfl,s.17 (s2.17 ZK),zs,aN,bv (λ_ _ z=>z.10 (aL.new ZK)) qz]
  ·rintro ZC H2 r hr s2 g pr nx;rw[ee] at pr nx;show k r H2 (s.17 hr) (s.4 s2) #[ZC,g,pr,fW nx]
theorem vB:sC ["self","move","put","look"] 4 eK:=by walk_at "d"
theorem ij (T:Txt K mg Z) (ac:bd P):uC P w K mg base MW 5 Z.k9 Z.k6 ["self","move","put","look"] (KE K Z.Y0):=by
 refine T.pJ.k vB ?_;walk_at "i";obtain x|dx|p|q|r|Hb|H0|H1|H2|mv|pt|lk|rfl|nx|ndx|nex|rfl|gp|gq|gr|D|om|op|ol|k:=h
 refine #[_,(ay (kI (cN (rJ T ac) hr T.ju (yw cV aw (ph (v:=.int 8) rfl T.Zr #[_,rfl]))))
  (ay (yo b9 (cN (oI T ac) hr T.gP (cX cV (bH aY (by rfl) T.36 aT (dg cV)))) rfl)
  (ay (yo b9 (bH aY (by rfl) T.36 aT (dg (dq b9 rfl))) rfl)
  (ay (kI (cN (rJ T ac) hr T.ju (yw eI aw (ph (v:=.int 4) rfl T.ZE #[_,rfl]))))
  (ay (yo b9 (cN (oI T ac) hr T.gP (cX eI (dq b9 rfl))) rfl)
  (ay (yo b9 (bH aY (by rfl) T.36 aT (dg (dq b9 rfl))) rfl)
  (ay (kI (cN (rJ T ac) hr T.ju (yw jH aw (ph (v:=.int 4) rfl T.Zy #[_,rfl]))))
  (ay (yo b9 (cN (oI T ac) hr T.gP (cX jH (dq b9 rfl))) rfl)
  (aD (yo b9 (bH aY (by rfl) T.36 aT (dg (dq b9 rfl))) rfl)))))))))),?_]
 left
 have s0:aL Hb (upd (upd Hb dx (.own x)) x (.ins Z.Y0 dx [])):=λb o e=>by
  rw[bK (gC e nx),bK (gC e ndx)];show e
 have hx:(upd (upd Hb dx (.own x)) x (.ins Z.Y0 dx [])) x=some (.ins Z.Y0 dx []):=aN;have back:∀{b},(upd (upd Hb dx (.own x)) x (.ins Z.Y0 dx [])) b=none->Hb b=none:=λh=>s0.17 h
 generalize upd (upd Hb dx (.own x)) x (.ins Z.Y0 dx [])=Ha at s0 hx back ⊢;obtain xs|gx|qx|_:=id gp;obtain ys|gy|qy|_:=id gq;obtain zs|gz|qz|_:=id gr;have lx:=qx.9;have ly:=qy.9;have lz:=qz.9;have d1:=D.n8;have d2:=D.i4;have d3:=D.o4;exists #[p,xs,0,8,rfl,s0 _ _ gx,(),?_];exists #[_,_,rfl,.inl (bY.of (s0 _ _ gx)),?_];exists #[p,H0,mv,mv.9,by rw[lx],gp.10 s0,(),(),λws hw=>#[D.mw ws hw,om ws hw],λa H3 na s3 Ga=>?_];have hx3:=s3 _ _ hx;exists #[x,Z.Y0,dx,_,rfl,hx3,T.Y1,T.Zf,(by change 0 < 1000;decide),?_];have e3:Fz x H3 (upd H3 x (.ins Z.Y0 dx (cH "move" (.ref a) []))):=Fz.upd;have i3:vm H3 x:=#[_,_,_,hx3];have hx4:(upd H3 x (.ins Z.Y0 dx (cH "move" (.ref a) []))) x=some (.ins Z.Y0 dx (cH "move" (.ref a) [])):=aN;have Ga4:=Ga.exc e3 i3;have k4:aL Hb (upd H3 x (.ins Z.Y0 dx (cH "move" (.ref a) []))):=(s0.4 s3).50 nx;generalize upd H3 x (.ins Z.Y0 dx (cH "move" (.ref a) []))=H4 at e3 hx4 Ga4 k4 ⊢;exists #[x,Z.Y0,dx,_,_,rfl,hx4,T.Y1,T.Zf,(by rw[bJ,if_pos rfl]),?_];obtain as|ga|qa|_:=id Ga4;have la:=qa.9;exists #[_,_,rfl,.inl (bY.of ga),?_];exists #[x,Z.Y0,dx,_,rfl,hx4,T.Y1,T.Y9,bG eX (by change 1 < 1000;decide),?_];rw[show ((as.9:Nat):Int)=((mv.9:Nat):Int) by rw[la]];have e4:Fz x H4 (upd H4 x (.ins Z.Y0 dx (cH "states" (.int mv.9) (cH "move" (.ref a) [])))):=Fz.upd;have i4:vm H4 x:=#[_,_,_,hx4];have hx5:(upd H4 x (.ins Z.Y0 dx (cH "states" (.int mv.9) (cH "move" (.ref a) [])))) x=some (.ins Z.Y0 dx (cH "states" (.int mv.9) (cH "move" (.ref a) []))):=aN;have Ga5:=Ga4.exc e4 i4;have k5:aL Hb (upd H4 x (.ins Z.Y0 dx (cH "states" (.int mv.9) (cH "move" (.ref a) [])))):=k4.50 nx;generalize upd H4 x (.ins Z.Y0 dx (cH "states" (.int mv.9) (cH "move" (.ref a) [])))=H5 at e4 hx5 Ga5 k5 ⊢;clear e3 e4 i3 i4 hx4 Ga4 ga qa;exists #[q,ys,1,4,rfl,k5 _ _ gy,(),?_];exists #[x,Z.Y0,dx,_,_,rfl,hx5,T.Y1,T.Y9,(by rw[bJ,if_pos rfl]),?_];exists #[q,H1,pt,mv.9,rfl,gq.10 k5,(),(),λws hw=>#[D.pw ws hw,op ws hw],λb H6 nb s6 Gb=>?_];have hx6:=s6 _ _ hx5;have i6:vm H6 x:=#[_,_,_,hx6];exists #[x,Z.Y0,dx,_,rfl,hx6,T.Y1,T.Zn,bG eX (bG (dR eX) (by change 2 < 1000;decide)),?_];have e6:Fz x H6 (upd H6 x (.ins Z.Y0 dx (cH "put" (.ref b) (cH "states" (.int mv.9) (cH "move" (.ref a) []))))):=Fz.upd;have hx7:(upd H6 x (.ins Z.Y0 dx (cH "put" (.ref b) (cH "states" (.int mv.9) (cH "move" (.ref a) []))))) x=some (.ins Z.Y0 dx (cH "put" (.ref b) (cH "states" (.int mv.9) (cH "move" (.ref a) [])))):=aN;have Ga7:=(Ga5.10 s6).exc e6 i6;have Gb7:=(Gb.47 k5).exc e6 i6;have k7:aL Hb (upd H6 x (.ins Z.Y0 dx (cH "put" (.ref b) (cH "states" (.int mv.9) (cH "move" (.ref a) []))))):=(k5.4 s6).50 nx;generalize upd H6 x (.ins Z.Y0 dx (cH "put" (.ref b) (cH "states" (.int mv.9) (cH "move" (.ref a) []))))=H7 at e6 hx7 Ga7 Gb7 k7 ⊢;obtain bs|gb|qb|_:=id Gb7;have lb:=qb.9;exists #[x,Z.Y0,dx,_,_,rfl,hx7,T.Y1,T.Zn,(by rw[bJ,if_pos rfl]),?_];exists #[_,_,rfl,.inl (bY.of gb),?_];exists #[x,Z.Y0,dx,_,rfl,hx7,T.Y1,T._K,bG eX (bG (dR (ai eX (dR eX))) (by change 3 < 1000;decide)),?_];rw[show ((bs.9:Nat):Int)=((pt.9:Nat):Int) by rw[lb]];have i7:vm H7 x:=#[_,_,_,hx7];have e7:Fz x H7 (upd H7 x (.ins Z.Y0 dx (cH "ins" (.int pt.9) (cH "put" (.ref b) (cH "states" (.int mv.9) (cH "move" (.ref a) [])))))):=Fz.upd;have hx8:(upd H7 x (.ins Z.Y0 dx (cH "ins" (.int pt.9) (cH "put" (.ref b) (cH "states" (.int mv.9) (cH "move" (.ref a) [])))))) x=some (.ins Z.Y0 dx (cH "ins" (.int pt.9) (cH "put" (.ref b) (cH "states" (.int mv.9) (cH "move" (.ref a) []))))):=aN;have Ga8:=Ga7.exc e7 i7;have Gb8:=Gb7.exc e7 i7;have k8:aL Hb (upd H7 x (.ins Z.Y0 dx (cH "ins" (.int pt.9) (cH "put" (.ref b) (cH "states" (.int mv.9) (cH "move" (.ref a) [])))))):=k7.50 nx;generalize upd H7 x (.ins Z.Y0 dx (cH "ins" (.int pt.9) (cH "put" (.ref b) (cH "states" (.int mv.9) (cH "move" (.ref a) [])))))=H8 at e7 hx8 Ga8 Gb8 k8 ⊢;clear e6 e7 i6 i7 hx7 Ga7 Gb7 gb qb;exists #[r,zs,2,4,rfl,k8 _ _ gz,(),?_];exists #[x,Z.Y0,dx,_,_,rfl,hx8,T.Y1,T.Y9,(by rw[bJ,if_neg (by decide +kernel),bJ,if_neg (by decide +kernel),bJ,if_pos rfl]),?_];exists #[r,H2,lk,mv.9,rfl,gr.10 k8,(),(),λws hw=>#[D.lw ws hw,ol ws hw],λc H9 nc s9 Gc=>?_];have hx9:=s9 _ _ hx8;have i9:vm H9 x:=#[_,_,_,hx9];exists #[x,Z.Y0,dx,_,rfl,hx9,T.Y1,T.Zh,bG eX (bG (dR (ai eX (dR (ai eX (dR eX))))) (by change 4 < 1000;decide)),?_];have e9:Fz x H9 (upd H9 x (.ins Z.Y0 dx (cH "look" (.ref c) (cH "ins" (.int pt.9) (cH "put" (.ref b) (cH "states" (.int mv.9) (cH "move" (.ref a) []))))))):=Fz.upd;have hxA:(upd H9 x (.ins Z.Y0 dx (cH "look" (.ref c) (cH "ins" (.int pt.9) (cH "put" (.ref b) (cH "states" (.int mv.9) (cH "move" (.ref a) []))))))) x=some (.ins Z.Y0 dx (cH "look" (.ref c) (cH "ins" (.int pt.9) (cH "put" (.ref b) (cH "states" (.int mv.9) (cH "move" (.ref a) [])))))):=aN;have GaA:=(Ga8.10 s9).exc e9 i9;have GbA:=(Gb8.10 s9).exc e9 i9;have GcA:=(Gc.47 k8).exc e9 i9;have kA:aL Hb (upd H9 x (.ins Z.Y0 dx (cH "look" (.ref c) (cH "ins" (.int pt.9) (cH "put" (.ref b) (cH "states" (.int mv.9) (cH "move" (.ref a) []))))))):=(k8.4 s9).50 nx;generalize upd H9 x (.ins Z.Y0 dx (cH "look" (.ref c) (cH "ins" (.int pt.9) (cH "put" (.ref b) (cH "states" (.int mv.9) (cH "move" (.ref a) []))))))=HA at e9 hxA GaA GbA GcA kA ⊢;obtain cs|gc|qc|_:=id GcA;have lc:=qc.9;exists #[x,Z.Y0,dx,_,_,rfl,hxA,T.Y1,T.Zh,(by rw[bJ,if_pos rfl]),?_];exists #[_,_,rfl,.inl (bY.of gc),?_];exists #[x,Z.Y0,dx,_,rfl,hxA,T.Y1,T._n,bG eX (bG (dR (ai eX (dR (ai eX (dR (ai eX (dR eX))))))) (by change 5 < 1000;decide)),?_];rw[show ((cs.9:Nat):Int)=((lk.9:Nat):Int) by rw[lc]];have iA:vm HA x:=#[_,_,_,hxA];show k _ (kA.50 nx) #[dx,a,b,c,aN,back na,k5.17 nb,k8.17 nc,(GaA.exc Fz.upd iA).47 s0,GbA.exc Fz.upd iA,GcA.exc Fz.upd iA]
theorem Aq:sC ["_law_grid"] 1 pY:=by walk_at "d"
theorem oJ (T:Txt K mg Z) (ac:bd P):T.gQ.o P w base 1 (Al K):=by
 refine T.gQ.F.k Aq ?_;walk_at "i";obtain p|H0|rows|rfl|hp|hl|hm|k:=h;refine #[_,(aD (aW (cg ["_law_row_here"] [] [] (cA b9) (λ_=>(eN 0)) (λ_=>cp) (λ_=>(fQ (iF K (by rfl)) (by rfl) T.31 XQ (dg b9)))))),?_];left
 obtain xs|gx|qx|_:=id hp;exists #[#[_,bY.of gx],?_];refine cP (K:=K) (F:=cR K H0) (cR K H) id gx qx hl (λa b=>a.10 b) (λa b=>a.10 b) ?_ ?_
 ·rintro i ns x H' NY NN en s ⟨u,rfl,_,zs,gz,qz⟩ k1;exists #[u,zs,rfl,.inl (bY.of gz),λl1 ZK=>?_];show k1 _ _ (aL.new ZK) #[l1,rfl,s.17 ZK,zs,aN,bv (λ_ _ z=>z.10 (aL.new ZK)) qz]
 ·rintro ZC H' r hr s g pr nx;rw[ee] at pr nx;show k r H' hr s #[ZC,g,pr,fW nx]
theorem DU:sC ["_law_parts_here"] 1 tT:=by walk_at "d"
theorem Ej (T:Txt K mg Z) (ac:bd P):T.nX.o P w base 7 (Ae K Z.Y0):=by
 refine T.nX.F.k DU ?_;walk_at "i";obtain r|H0|mv|pt|lk|rfl|PQ|D|F|k:=h;refine #[_,(aD (aW (zR T.Zj (ij T ac) (hr.22 ()) rfl T.Zg T.fY .nil CS (yw (cN (oJ T ac) hr T.gQ (dg (a7 b6 b9 aw))) (cN (oJ T ac) hr T.gQ (dg (a7 b6 b9 aw))) (cN (oJ T ac) hr T.gQ (dg (a7 b6 b9 aw))))))),?_];left
 obtain m|p|l|g|n1|n2|n3|Gm|Gp|Gl:=id PQ;have d1:=D.n8;have d2:=D.i4;have d3:=D.o4;exists #[m,H0,mv,rfl,Gm,(),λxs hx=>by rw[D.mw xs hx];lia,λa H1 na s1 Ga=>?_];have g1:=s1 _ _ g;exists #[p,H0,pt,rfl,Gp.10 s1,(),λxs hx=>by rw[D.pw xs hx];lia,λb H2 nb s2 Gb=>?_];have s12:=s1.4 s2;have g2:=s12 _ _ g;exists #[l,H0,lk,rfl,Gl.same s12,(),λxs hx=>by rw[D.lw xs hx];lia,λc H3 nc s3 Gc=>?_];have n!:=s12.4 s3;walk_at "w";intro x dx nx ndx nex;show #[x,dx,a,b,c,H3,H,H1,H2,mv,pt,lk,rfl,nx,ndx,nex,rfl,(Ga.10 s2).10 s3,Gb.10 s3,Gc,D,F.ok.1,F.ok.2.1,F.ok.2.2,λH' s' S'=>#[rfl,k x H' (n!.17 nx) (n!.4 s') (S'.47 n!)]]
theorem o9:sC ["_law_one","_law_other","_law_total","_law_k"] 2 vK:=by walk_at "d"
theorem ui (T:Txt K mg Z) (ac:bd P):T.ko.o P w base 3 (DB K):=by
 refine T.ko.F.k o9 ?_;walk_at "i";obtain p|q|xs|ys|rfl|hp|hq|hl|hz|⟨k1,j1,k2,j2,h1,h2,hkj⟩|kk:=h
 refine #[_,(ay (eT 2 o9.nd (dD (cX aw aw)))
  (ay (eE XA rfl (cz rfl T.32 (dg (bH aY (by rfl) T.36 aT (dg b9)))) (eN 3 o9.nd)
   (aD (eT 2 o9.nd (cN (pA T ac) hr T.je (cX eI (cN (nK T ac) hr T.ip (cX (a7 ck b9 jH) (a7 ck cV jH))))))))
  (aD (aW eI)))),?_]
 left
 obtain us|gu|qu:=id hp;obtain ws|gw|qw:=id hq;have lu:=qu.9;have lw:=qw.9;exists cO λr0 H0 s0 g0=>?_
 exists #[_,_,rfl,.inl (bY.of (s0 _ _ gu)),?_];exists #[(),(),?_];refine dM (n:=us.9) (λi σ' H'=>aL H H'/\∃(r:V) (v:Option V),σ'=[some (.ref p),some (.ref q),some r,v]/\cG K H' (bT (xs.18 i) (ys.18 i)) r) #[s0,_,none,rfl,cG.mk g0 rfl] ?_ ?_
 ·rintro i σ' H' hi ⟨s,r,v,rfl,hr⟩;have ix:i < xs.9:=()
  have iy:i < ys.9:=()
  obtain vx|ex|nx:=GW (bv (λ_ _ z=>z.10 s) qu) ix;obtain vy|ey|ny:=GW (bv (λ_ _ z=>z.10 s) qw) iy;exists cK (bY.of (s _ _ gu)) ex ?_;exists cK (bY.of (s _ _ gw)) ey ?_;exists #[_,_,_,_,rfl,nx,ny,h1.szn (getD_mem ix) (),h2.szn (getD_mem iy) (),λr3 H3 s3 n3=>?_];exists #[_,_,_,_,rfl,hr.10 s3,n3,Ph h1 h2 hz i hkj,OB (h1.one (getD_mem ix)) (h2.one (getD_mem iy)) hkj,λr4 H4 s4 n4=>?_];exists #[(s.4 s3).4 s4,_,_,rfl,by rw[C7 ix iy];show n4]
 ·rintro σ' H' ⟨s,r,v,rfl,hr⟩;rw[aJ (),aJ ()] at hr;obtain t|rfl|ht:=hr;exists kk _ H' s #[t,rfl,ht]
theorem IY:sC ["_law_grid","_law_row_here"] 2 yj:=by walk_at "d"
theorem rN (T:Txt K mg Z) (ac:bd P):T.j9.o P w base 4 (DA K):=by
 refine T.j9.F.k IY ?_;walk_at "i";obtain p|q|H0|rows|ys|rfl|hp|hq|hz|hl|hr1|kk:=h;refine #[_,(aD (aW (cg ["_law_one"] ["_law_row_here"] [1] (cA b9) (λ_=>(eN 0)) (λ_=>cp) (λ_=>(cN (ui T ac) hr T.ko (cX b9 cV)))))),?_];left
 obtain xs|gx|qx|_:=id hp;exists #[#[_,bY.of gx],?_];refine cP (K:=K) (F:=cR K H0) (cG K) (λxs=>bT xs ys) gx qx hz (λa b=>a.10 b) (λa b=>a.10 b) ?_ ?_
 ·rintro i ns x H' NY NN en s ⟨u,rfl,_,hu⟩ k;obtain e1|e2:=hr1 ns (av en);exists #[u,q,ns,ys,rfl,hu,hq.10 s,e1.19,(),e2,λr H2 s2 h2'=>k _ _ s2 h2']
 ·rintro ZC H' r hr s g pr nx;show kk r H' hr s #[ZC,g,pr]
theorem i5:sC ["_law_parts_here","_law_steps_here","_law_rows","_law_found","_law_turn"] 2 pV:=by walk_at "d"
theorem AN (T:Txt K mg Z) (ac:bd P):T.kS.o P w base 5 (KC K):=by
 refine T.kS.F.k i5 ?_;walk_at "i";obtain r|T9|H0|mv|pt|lk|rfl|PQ|D|t16|Z9|k:=h
 refine #[_,(ay (eT 2 i5.nd (cg ["_law_row_here"] [] [] (cA (a7 b6 b9 aw)) (λ_=>(eN 0)) (λ_=>cp) (λ_=>(fQ (iF K (by rfl)) (by rfl) T.31 XQ (dg b9)))))
  (ay (eT 3 i5.nd (dW gA))
  (ay (eE XA rfl (cz rfl T.32 (dg cV)) (eN 4 i5.nd)
   (ay (kI (wV de dB dA ki jH (dg (cg ["_law_look"] ["_law_rows"] [2] (cA (a7 b6 b9 aw)) (λ_=>(eN 0)) (λ_=>cp) (λ_=>(cg ["_law_row_here"] ["_law_look"] [0] (wO K cV) (λ_=>(eN 0)) (λ_=>cp) (λ_=>(cN (ui T ac) hr T.ko (cX cV b9)))))))))
  (aD (eT 2 i5.nd (cg ["_law_row_here"] ["_law_parts_here"] [0] (cA eI) (λ_=>(eN 0)) (λ_=>cp) (λ_=>(cN (rN T ac) hr T.j9 (cX (a7 (nZ K (by rfl)) cV aw) b9))))))))
  (aD (aW jH))))),?_]
 left
 obtain m0|p0|l0|gr|_|_|_|Gm|Gp|Gl:=id PQ;obtain pv|z!|o!|_:=id Gp;have n8:=D.n8;have i4:=D.i4;have o4:=D.o4;exists #[#[_,bY.of z!],?_];refine cP (K:=K) (F:=cR K H0) (cR K H) id z! o! () (λa b=>a.10 b) (λa b=>a.10 b) ?_ ?_
 ·rintro i ns x H' NY NN en s ⟨u,rfl,_,zs,gz,qz⟩ k1;exists #[u,zs,rfl,.inl (bY.of gz),λl1 ZK=>?_];show k1 _ _ (aL.new ZK) #[l1,rfl,s.17 ZK,zs,aN,bv (λ_ _ z=>z.10 (aL.new ZK)) qz]
 rintro ysr H1 rw0 nrw s1 g1 ZY _E;rw[ee] at ZY _E;exists dj λfo H2 s2 nfo gfo=>?_
 have ZM:=s1.4 s2;have hfo2:H2 fo≠none:=by rw[gfo];show λz=>nomatch z
 have I!:Xw (oT K H fo H2) (pt.11 (eU mv 0)) ysr:=by
  rw[show pt.11 (eU mv 0)=pt by rw[show eU mv 0=id from rfl,ee]];show bv (λxs v #[q,e,n,R]=>#[q,e,n,(λz=>by obtain _|gq|_:=R;rw[z,nfo] at gq;cases gq),R.10 s2]) ZY
 have rf0:rw0≠fo:=λz=>by rw[z,nfo] at g1;cases g1
 exists #[(),(),?_];refine dM (n:=T9) (λt σ' H'=>aL H H'/\∃y Zz us fs,σ'=[some (.ref r),some (.int T9),some (.ref Zz),some (.ref fo),y]/\H' fo=some (.lst fs)/\Xw (Lz K H fo H') (uV mv pt lk t) fs/\Zz≠fo/\H' Zz=some (.lst us)/\Xw (oT K H fo H') (pt.11 (eU mv t)) us) #[ZM,_,_,_,_,rfl,gfo,.nil,rf0,s2 _ _ g1,I!] ?_ ?_
 rotate_left
 ·rintro σ' H' ⟨s',y,Zz,us,fs,rfl,g',pr',_⟩;exists k fo H' (s1.17 nfo) s' #[fs,g',bv (λ_ _ z=>Lz.toF z) pr']
 rintro t σ' H' ht ⟨s',y,Zz,us,fs,rfl,g',pr',rf,gu,pru⟩;have lfs:=pr'.9;unfold uV at lfs;rw[af,bg] at lfs;have lus:=pru.9;rw[af] at lus;have hfo:H' fo≠none:=by rw[g'];show λz=>nomatch z
 obtain _|_|_|gr'|_|_|_|Gm'|_|Gl':=PQ.10 s';obtain ls|gl|ql|_:=id Gl';have ll:=ql.9;exists #[.inl #[rfl,_,bY.of g'],?_];exists #[#[_,bY.of gl],?_];refine cP (K:=K) (as:=lk) (F:=cR K H0) (cR K H') (λl=>(pt.11 (eU mv t)).11 λx=>bT l x) gl ql () (λa b=>a.10 b) (λa b=>a.10 b) ?_ ?_
 ·rintro j l v Hx NY NN el sx ⟨lq,rfl,_,Rl⟩ k1;have ml:=av el;exists #[#[_,bY.of (sx _ _ gu)],?_];refine cP (K:=K) (as:=pt.11 (eU mv t)) (F:=oT K H fo) (cG K) (λx=>bT l x) (sx _ _ gu) (bv (λ_ _ z=>oT.same z sx) pru) (by rw[af];lia) (λa b=>oT.same a b) (λa b=>a.10 b) ?_ ?_
  ·rintro j2 x v2 Hy NY2 NN2 ex sy ⟨xq,rfl,_,_,Rx⟩ k2;obtain p|mp|rfl:=ao.mp (av ex);have lp:=rG (D.pw p mp) t;exists #[lq,xq,l,_,rfl,Rl.10 sy,Rx,by rw[lp,D.lw l ml],by rw[D.lw l ml];lia,(Z9 p mp t ()).1 l ml,λr2 Ha sa N=>k2 _ _ sa N]
  ·rintro ys Hz r3 hr sz gz prz nxz;show k1 _ _ sz #[r3,rfl,sx.17 hr,ys,gz,prz]
 rintro ys Hx r3 hr sx gx prx nxx;have gx':=sx _ _ g';have Gr:bw K H' Hx r3 (L5 mv pt lk t):=#[ys,gx,prx,fW nxx];exists ke gx' (du ()) ?_;have gn:(upd Hx fo (.lst (fs++[.ref r3]))) fo=some (.lst (fs++[.ref r3])):=aN;have sn:aL H (upd Hx fo (.lst (fs++[.ref r3]))):=CP (s'.4 sx) (s1.17 nfo);have e1:uV mv pt lk (t+1)=uV mv pt lk t++[L5 mv pt lk t]:=by unfold uV;rw[ky,bo];rfl
 have pn:Xw (Lz K H fo (upd Hx fo (.lst (fs++[.ref r3])))) (uV mv pt lk (t+1)) (fs++[.ref r3]):=by
  rw[e1];show cf (bv (λ_ _ z=>(Lz.same z sx).upd gx') pr') (.cons (Lz.upd #[r3,H',rfl,s',hfo,hr,Gr] gx') .nil)
 have prn:Xw (oT K H fo (upd Hx fo (.lst (fs++[.ref r3])))) (pt.11 (eU mv t)) us:=bv (λ_ _ z=>(oT.same z sx).upd gx') pru;have gun:(upd Hx fo (.lst (fs++[.ref r3]))) Zz=some (.lst us):=by rw[bK rf];show sx _ _ gu
 generalize upd Hx fo (.lst (fs++[.ref r3]))=Hn at gn sn pn prn gun ⊢;have hfn:Hn fo≠none:=by rw[gn];show λz=>nomatch z
 obtain _|_|_|grn|_|_|_|Gmn|_|_:=PQ.10 sn;clear prx nxx gx Gr gr' Gm' Gl' gl ql;exists #[#[_,bY.of gun],?_];refine cP (K:=K) (as:=pt.11 (eU mv t)) (F:=oT K H fo) (cR K Hn) (gF mv) gun prn (by rw[af];lia) (λa b=>oT.same a b) (λa b=>a.10 b) ?_ ?_
 ·rintro j2 x v2 Hy NY2 NN2 ex sy ⟨xq,rfl,_,_,Rx⟩ k2;obtain p|mp|rfl:=ao.mp (av ex);have lp:=rG (D.pw p mp) t;obtain _|_|_|gry|_|_|_|Gmy|_|_:=PQ.10 (sn.4 sy);exists #[_,xq,H0,mv,_,rfl,Gmy,Rx,(),by rw[lp];lia,λzs hz=>#[by rw[D.mw zs hz,lp],(Z9 p mp t ()).2 zs hz],λr2 Ha na sa Ra=>k2 _ _ sa #[r2,rfl,sy.17 na,Ra]]
 rintro ys2 Hz rn hrn sz gz prz nxz;have ep:(pt.11 (eU mv t)).11 (gF mv)=pt.11 (eU mv (t+1)):=by rw[b7];rfl
 rw[ep] at prz nxz;exists #[sn.4 sz,_,_,_,_,rfl,sz _ _ gn,bv (λ_ _ z=>Lz.same z sz) pn,(λz=>hfn (by rw[<- z];show hrn)),gz,bv (λxs v #[q,e,n,R]=>#[q,e,sn.17 n,(λz=>hfn (by rw[<- z];show n)),R]) prz]
 
theorem DO:sC ["_law_one","_law_other"] 2 tJ:=by walk_at "d"
theorem Ee (T:Txt K mg Z) (ac:bd P):T.nQ.o P w base 2 (Af K):=by
 refine T.nQ.F.ok DO (λvs H Q E h=>?_) (λZm A outer s H vs Q E hr h=>?_)
 ·obtain p|q|a|b|c|d|rfl|hp|hq|hb|hd|hc|sa|sb|sc|sd|k:=GA h;rfl
 ·obtain p|q|a|b|c|d|rfl|hp|hq|hb|hd|hc|sa|sb|sc|sd|k:=GA h
  refine #[_,(ay (dr (bE t9 (a7 b6 cV aw) aw (bR _)) (aD (aW (cN (gZ T ac) hr T.eF (cX (bS l7 aw (bS c7 (a7 b6 b9 aw) (a7 b6 cV aw))) (bS l7 aw (bS c7 (a7 b6 b9 aw) (a7 b6 cV aw))))))) cy)
   (aD (aW (cN (gZ T ac) hr T.eF (cX (bS c7 (a7 b6 b9 aw) (a7 b6 cV aw)) (bS c7 (a7 b6 b9 aw) (a7 b6 cV aw))))))),?_]
  refine qo (σ:=[some (.ref p),some (.ref q)]) rfl ?_
  try rw[gV]
  have sbc:Sz 35996000 (b*c):=(sb.mul sc).22 ();exists jh (λh=>?_) (λh=>?_)
  ·have h0:c < 0:=of_decide_eq_true h;have hbc:b*c < 0:=vZ hb h0;exists gL (show hZ _ _ from .inr #[_,_,sa,sd,()]) ?_;exists gL (show hZ _ _ from .inr #[_,_,sb,sc,()]) ?_;exists #[_,_,rfl,(),by rw[Int.zero_sub];show sbc.neg,λr H' s' h'=>?_];show k r H' s' (by rw[if_pos h0,if_pos h0];show h')
  ·have h0:¬c < 0:=λz=>h (decide_eq_true z)
   have hbc:0 < b*c:=jU hb ();exists gL (show hZ _ _ from .inr #[_,_,sa,sd,()]) ?_;exists gL (show hZ _ _ from .inr #[_,_,sb,sc,()]) ?_;exists #[_,_,rfl,hbc,sbc,λr H' s' h'=>?_];show k r H' s' (by rw[if_neg h0,if_neg h0];show h')
theorem DV:sC ["_law_one","_law_other"] 2 tV:=by walk_at "d"
theorem Ek (T:Txt K mg Z) (ac:bd P):T.nY.o P w base 2 (qP K (λx y=>x - y)):=by
 refine T.nY.F.ok DV (λvs H Q E h=>?_) (λZm A outer s H vs Q E hr h=>?_)
 ·obtain p|q|a|b|c|d|rfl|hp|hq|hb|hd|sa|sb|sc|sd|k:=zO h;rfl
 ·obtain p|q|a|b|c|d|rfl|hp|hq|hb|hd|sa|sb|sc|sd|k:=zO h;refine #[_,(aD (aW (cN (gZ T ac) hr T.eF (cX (bS l7 (bS c7 (a7 b6 b9 aw) (a7 b6 cV aw)) (bS c7 (a7 b6 cV aw) (a7 b6 b9 aw))) (bS c7 (a7 b6 b9 aw) (a7 b6 cV aw)))))),?_];refine qo (σ:=[some (.ref p),some (.ref q)]) rfl ?_
  try rw[gV]
  have hbd:0 < b*d:=jU hb hd;have ZL:Sz 35996000 (b*d):=(sb.mul sd).22 ();exists gL (show hZ _ _ from .inr #[_,_,sa,sd,()]) ?_;exists gL (show hZ _ _ from .inr #[_,_,sc,sb,()]) ?_;exists gL (show hZ _ _ from .inr #[_,_,sb,sd,()]) ?_;walk_at "w";exists #[_,_,rfl,hbd,ZL,k]
theorem BH:sC ["_law_one","_law_other"] 2 rC:=by walk_at "d"
theorem ve (T:Txt K mg Z) (ac:bd P):T.jP.o P w base 3 (CJ K):=by
 refine T.jP.F.k BH ?_;walk_at "i";obtain p|q|xs|ys|rfl|hp|hq|hl|hz|h1|h2|kk:=h;refine #[_,(aD (aW (cg ["_law_k"] ["_law_one","_law_other"] [0,1] (cz rfl T.32 (dg (bH aY (by rfl) T.36 aT (dg b9)))) (λ_=>(eN 0)) (λ_=>cp) (λ_=>(cN (Ek T ac) hr T.nY (cX (a7 (iw K (by rfl)) cV b9) (a7 (iw K (by rfl)) eI b9))))))),?_];left
 obtain us|gu|qu:=id hp;obtain ws|gw|qw:=id hq;have lu:=qu.9;exists #[_,_,rfl,.inl (bY.of gu),?_];exists #[(),(),?_];refine iE (n:=us.9) (cG K) (λi=>xs.3 i 0 - ys.3 i 0) () (λa b=>a.10 b) ?_ ?_
 ·rintro i H' NY NN hi s k1;have ix:i < xs.9:=()
  have iy:i < ys.9:=()
  obtain vx|ex|nx:=GW (bv (λ_ _ z=>z.10 s) qu) ix;obtain vy|ey|ny:=GW (bv (λ_ _ z=>z.10 s) qw) iy;exists cK (bY.of (s _ _ gu)) ex ?_;exists cK (bY.of (s _ _ gw)) ey ?_;exists #[_,_,_,_,rfl,nx,ny,h1 _ (getD_mem ix),h2 _ (getD_mem iy),λr3 H3 s3 n3=>k1 _ _ s3 n3]
 ·rintro ZC H' l _x s g pr nx;show kk l H' _x s #[ZC,g,by rw[IH ()];rw[<- lu] at pr;show pr]
theorem fq:sC ["_law_rows","_law_wide","_law_left","_law_found","_law_place","_law_heads","_law_head"] 2 tW:=by walk_at "d"
theorem rQ (T:Txt K mg Z) (ac:bd P):T.jz.o P w base 4 (Ah K):=by
 refine T.jz.F.k fq ?_;walk_at "i";obtain p|n|S|H0|rows|rfl|G|ZJ|ZO|hw|⟨e39,J,j0,acF,acG,jlw,jsz⟩|k:=h
 refine #[_,(ay (eT 2 fq.nd (cg ["_law_row_here"] [] [] (cA b9) (λ_=>(eN 0)) (λ_=>cp) (λ_=>(fQ (iF K (by rfl)) (by rfl) T.31 XQ (dg b9)))))
  (ay (eT 3 fq.nd (dW gA))
  (ay (eE XA rfl (cz rfl T.32 (dg cV)) (eN 4 fq.nd)
   (ay (jq 5 ["_law_k"] ["_law_left","_law_place"] [2,4] fq.nd rfl rfl (cz rfl T.32 (dg (bH aY (by rfl) T.36 aT (dg eI)))) (λ_=>(eN 0)) (λ_=>Jg (bE (K4 K (by rfl) (BS hr)) (a7 (iw K (by rfl)) (a7 (iw K (by rfl)) cV b9) eI) (dD (cX aw aw)) (bR _))) (λ_=>b9))
  (aD (dr (bE (yx (BS hr)) vM (dW gA) (bR _)) (ay (eT 6 fq.nd (wV de PySem.F.slot_list_pop PySem.F.type_list_pop OD eI (dg (a7 ck vM aw))))
  (ay (eT 6 fq.nd (cN (oK T ac) hr T.jg (cX (cN (Ee T ac) hr T.nQ (cX (dD (cX aw aw)) (a7 ck sU wH))) sU)))
  (ay (eT 2 fq.nd (cg ["_law_row_here"] ["_law_place","_law_head"] [4,6] (cA eI) (λ_=>(eN 0)) (λ_=>cp) (λ_=>(cN (ve T ac) hr T.jP (cX b9 (cN (oK T ac) hr T.jg (cX (a7 (iw K (by rfl)) b9 cV) eI)))))))
  (ay (jq 3 ["_law_row_here"] ["_law_place","_law_head"] [4,6] fq.nd rfl rfl (cA jH) (λ_=>(eN 0)) (λ_=>cp) (λ_=>(cN (ve T ac) hr T.jP (cX b9 (cN (oK T ac) hr T.jg (cX (a7 (iw K (by rfl)) b9 cV) eI))))))
  (aD (kI (wV de dB dA ki jH (dg sU)))))))) cy))))
  (aD (aW jH))))),?_]
 left
 obtain xs|gx|qx|_:=id G;have szT:∀{D:Nat} {x:Rat},0 < D->D<=2^S->Tp D (2^S) x->oY x:=λh0 h1 t=>xQ t h0 (ai h1 (ak () ())) (ak () ())
 have szP:∀{D D':Nat} {x y:Rat},0 < D->0 < D'->D<=2^S->D'<=2^S->Tp D (2^S) x->Tp D' (2^S) y->oY (x*y):=λh0 h0' h1 h1' t t'=>xQ (t.mul t') (bx h0 h0') (ai (aE h1 h1') (by rw[<- aV];show ak () ())) (by rw[<- aV];show ak () ())
 exists #[#[_,bY.of gx],?_];refine cP (K:=K) (F:=cR K H0) (cR K H) id gx qx () (λa b=>a.10 b) (λa b=>a.10 b) ?_ ?_
 ·rintro i ns x H' NY NN en s ⟨u,rfl,_,zs,gz,qz⟩ k1;exists #[u,zs,rfl,.inl (bY.of gz),λl1 ZK=>?_];show k1 _ _ (aL.new ZK) #[l1,rfl,s.17 ZK,zs,aN,bv (λ_ _ z=>z.10 (aL.new ZK)) qz]
 rintro P! H1 L hL s1 g1 ZY _E;rw[ee] at ZY _E;have GL1:bw K H H1 L rows:=#[P!,g1,ZY,fW _E];exists dj λfd H2 s2 nf gf=>?_
 have fdL:fd≠L:=λz=>by rw[z,g1] at nf;cases nf
 clear g1 ZY _E;exists #[(),(),?_];refine dM (n:=n) (λP σ' H'=>aL H H'/\∃lp fp ls fs ps vs y1 y2 y3,σ'=[some (.ref p),some (.int n),some (.ref lp),some (.ref fp),y1,y2,y3]/\H lp=none/\H fp=none/\fp≠lp/\bw K H H' lp ls/\H' fp=some (.lst vs)/\Xw (p7 K (λq=>(H q=none/\q≠fp)/\q≠lp) H') fs vs/\fs.9=ps.9/\J P (fs++ls) ps) #[s1.4 s2,L,fd,rows,[],[],[],_,_,_,rfl,hL,s1.17 nf,fdL,GL1.10 s2,gf,.nil,rfl,j0] ?_ ?_
 ·rintro P σ' H' hP ⟨s',lp,fp,ls,fs,ps,vs,y1,y2,y3,rfl,nlp,nfp,fl,GL,gv,pv,hf,JI⟩;have I:=jlw _ _ _ JI;have len:=I.36;rw[ax] at len;have wide:=I.wide;obtain us|gu|qu|nu:=id GL;have lu:=qu.9;have lv:=pv.length
  have szI:∀{i:Nat},i < rows.9->∀c,oY (aZ (fs++ls) i c):=λhi c=>by
   obtain D|D0|D1|D2:=jsz _ _ _ JI () _ hi;show szT D0 D1 (D2 c)
  have ez:∀i,(ls.11 λr=>r.3 P 0).3 i 0=aZ ls i P:=λi=>UI
  exists #[_,_,rfl,.inl (bY.of gu),?_];rw[<- lu];exists #[(),(),?_];refine oS (n:=ls.9) (λi ys _H=>aL H' _H/\ys=dh (GG (ls.11 λr=>r.3 P 0) i)) kX #[aL.refl _,rfl] ?_ ?_
  ·rintro i ys Hb hi Za ⟨sb,rfl⟩;rw[uP];obtain xt|vt|et|evt|mt|qt|rfl|nqt|Rt:=fI (bv (λ_ _ z=>cR.same z sb) qu) hi;have wt:=wide xt (aA.mpr (.inr mt));obtain zs|gz|qz:=id Rt;obtain vx|ex|nx:=GW qz (j:=P) ();have fx:(ls.11 λr=>r.3 P 0).3 i 0=xt.3 P 0:=by rw[ez];unfold aZ;rw[aa (l:=ls),et];rfl
   exists cK (bY.of (sb _ _ gu)) (fw evt) ?_;exists cK (bY.of gz) ex ?_;exists cO λt0 Hc sc gc=>?_
   exists #[_,_,ON,xt.3 P 0,0,(),nx.10 sc,cG.mk (q:=0) gc rfl,?_];by_cases e:xt.3 P 0=0
   ·rw[decide_eq_true e];exists #[sb.4 sc,?_];rw[zT,fx,if_neg (by simpa using e)]
   ·rw[decide_eq_false e];exists #[sb.4 sc,?_];rw[zT,fx,if_pos e];unfold dh;rw[bo];rfl
  rintro ys Hb hy ⟨sb,rfl⟩ hd hhd;have nzm:∀c,c∈GG (ls.11 λr=>r.3 P 0) ls.9↔c < ls.9/\aZ ls c P≠0:=λc=>by rw[UD,ez]
  generalize GG (ls.11 λr=>r.3 P 0) ls.9=hs at hy hhd nzm;have sn:aL Hb (upd Hb hd (.lst (dh hs))):=aL.new hhd;have gh:(upd Hb hd (.lst (dh hs))) hd=some (.lst (dh hs)):=aN;generalize upd Hb hd (.lst (dh hs))=Hc at sn gh ⊢;have sbc:=sb.4 sn;exists dj λem Hd sd nd gd=>?_
  exists #[_,_,Mh Mi,uk hs,uk [],(),uK (sd _ _ gh),uK gd,?_];have ZL:=sbc.4 sd;by_cases e0:hs=[]
  ·subst e0;rw[decide_eq_true rfl];exists #[s'.4 ZL,lp,fp,ls,fs,ps,vs,_,_,_,rfl,nlp,nfp,fl,GL.10 ZL,ZL _ _ gv,bv (λ_ _ z=>p7.same z ZL) pv,hf,acF _ _ _ JI λi h1 h2=>?_];rw[ax] at h2;obtain ⟨j,rfl⟩:∃j,i=fs.9+j:=#[i - fs.9,()];rw[qI];by_cases z:aZ ls j P=0
   ·show z
   ·show absurd ((nzm j).mpr #[(),z]) (by simp)
  ·rw[decide_eq_false (λz=>e0 (GY z))]
   obtain ⟨t,hs',rfl⟩:∃t hs',hs=t :: hs':=by cases hs with
    | nil=>show absurd rfl e0
    | cons t r=>show #[t,r,rfl]
   obtain tl|Z3:=(nzm t).mp (.head _);have _Z:=ZL _ _ gu;obtain xt|vt|et|evt|mt|qt|rfl|nqt|Rt:=fI (bv (λ_ _ z=>cR.same z ZL) qu) tl;have ext:ls.3 t []=xt:=by rw[aa,et];rfl
   have abe:xt.3 P 0≠0:=by unfold aZ at Z3;rw[ext] at Z3;show Z3
   have wt:=wide xt (aA.mpr (.inr mt));have qtl:qt≠lp:=λz=>nu (by rw[<- z];show av evt)
   exists #[.inl #[rfl,_,bY.of _Z],?_];exists cK (bY.of (sd _ _ gh)) (fw (j:=0) rfl) ?_;exists #[lp,us,t,t,_,rfl,rfl,_Z,(),(),PySem.StrLaws.seqIndex_nonneg () (),evt,?_];have s0e:aL H (upd Hd lp (.lst (us.23 t))):=(s'.4 ZL).50 nlp;obtain Z6|gu'|pu':=(GL.10 ZL).toE;have eus:Z6=us:=by rw[_Z] at gu';cases gu';rfl
   subst eus;have ple:Xw (p7 K (λq=>H q=none/\q≠lp) (upd Hd lp (.lst (Z6.23 t)))) (ls.23 t) (Z6.23 t):=wW (bv (λ_ _ z=>p7.Zc z _Z (λq h=>h.2)) pu') t;have gle:(upd Hd lp (.lst (Z6.23 t))) lp=some (.lst (Z6.23 t)):=aN;have gve:(upd Hd lp (.lst (Z6.23 t))) fp=some (.lst vs):=by rw[bK fl];show ZL _ _ gv
   have pve:Xw (p7 K (λq=>(H q=none/\q≠fp)/\q≠lp) (upd Hd lp (.lst (Z6.23 t)))) fs vs:=bv (λ_ _ z=>p7.Zc (p7.same z ZL) _Z (λq h=>h.2)) pv;have Re:dS K (upd Hd lp (.lst (Z6.23 t))) qt xt:=Rt.Zc _Z qtl;generalize upd Hd lp (.lst (Z6.23 t))=He at s0e ple gle gve pve Re ⊢;clear pu' gu' _Z Rt;have I2:=acG _ _ _ _ _ JI hf tl hP (by rw[ext];show abe);rw[ext] at I2
   have ace:∀r∈fs++ls,∃D:Nat,0 < D/\D<=2^S/\∀c,Tp D (2^S) (r.3 c 0):=λr hr=>by
    obtain i|hi|rfl:=aH hr;obtain D|D0|D1|D2:=jsz _ _ _ JI () i (by rw[ax] at hi;lia);refine #[D,D0,D1,λc=>?_];have:=D2 c;unfold aZ at this;rw[aa (l:=fs++ls),ae hi] at this;show this
   have szr:∀r∈fs++ls,∀y∈r,oY y:=λr hr y hy=>by
    obtain D|D0|D1|D2:=ace r hr;obtain c|hc|rfl:=aH hy;have:=D2 c;rw[aa,ae hc] at this;show szT D0 D1 this
   have mxt:xt∈fs++ls:=aA.mpr (.inr mt);have lu2:(pF P xt).9=n:=by unfold pF;rw[af];show wt
   obtain ⟨Du,Du0,Du1,Du2⟩:∃D:Nat,0 < D/\D<=2^S/\∀y∈pF P xt,Tp D (2^S) y:=by
    obtain D|D0|D1|D2:=jsz _ _ _ I2 () ps.9 ();refine #[D,D0,D1,λy hy=>?_];obtain c|hc|rfl:=aH hy;have:=D2 c;rw[cC,show ps.9=(fs.11 (zx P (pF P xt))).9+0 by rw[af];lia,qI] at this
    have e:aZ ([pF P xt]++(ls.23 t).11 (zx P (pF P xt))) 0 c=(pF P xt)[c]:=by
     change (pF P xt).3 c 0=_
     rw[aa,ae hc];rfl
    rw[e] at this;show this
   have szu:∀y∈pF P xt,oY y:=λy hy=>szT Du0 Du1 (Du2 y hy)
   have szp:∀r∈fs++ls,∀y∈pF P xt,oY (r.3 P 0*y):=λr hr y hy=>by
    obtain D|D0|D1|D2:=ace r hr;show szP D0 Du0 D1 Du1 (D2 P) (Du2 y hy)
   obtain zs|gz|qz:=id Re;obtain vx|ex|nx:=GW qz (j:=P) ();have szx:oY (xt.3 P 0):=szr xt mxt _ (getD_in ());exists cO λtq Hf sf gf=>?_
   exists cK (bY.of (sf _ _ gz)) ex ?_;exists #[_,_,1,xt.3 P 0,rfl,cG.mk (q:=1) gf rfl,nx.10 sf,Qf,szx,abe,λqr Hg sg nq=>?_];have sfg:=sf.4 sg;exists #[_,qt,1 / xt.3 P 0,xt,rfl,nq,Qg szx abe,Re.same sfg,(),szr xt mxt,λur Hh nur sh Rur=>?_];have Rur:dS K Hh ur (pF P xt):=Rur;have S!:=sfg.4 sh;have s0h:=s0e.4 S!;have afh:H ur=none:=(s0e.4 sfg).17 nur;exists #[#[_,bY.of (S! _ _ gle)],?_];refine cP (K:=K) (F:=p7 K (λq=>H q=none/\q≠lp)) (cR K H) (zx P (pF P xt)) (S! _ _ gle) (bv (λ_ _ z=>p7.same z S!) ple) (by rw[Tw tl];lia) (λa b=>a.10 b) (λa b=>a.10 b) ?_ ?_
   ·rintro i ns x Hi NY NN en si ⟨q,rfl,nq0,Rq⟩ k1;have mn:ns∈fs++ls:=aA.mpr (.inr (Vq (av en)));have wn:=wide ns mn;obtain zs2|gz2|qz2:=id Rq;obtain vx2|ex2|nx2:=GW qz2 (j:=P) ();exists cK (bY.of gz2) ex2 ?_;exists #[_,ur,ns.3 P 0,pF P xt,rfl,nx2,szr ns mn _ (getD_in ()),Rur.10 si,(),szu,λb1 Hj nb1 sj Rb=>?_];exists #[q,b1,ns,_,rfl,Rq.10 sj,Rb,by rw[af];lia,(),szr ns mn,λy hy=>?_,λr2 Hk nr2 sk Rk=>?_]
    ·obtain y'|_F|rfl:=ao.mp hy;show szp ns mn y' _F
    ·show k1 _ _ (sj.4 sk) #[r2,rfl,s0h.17 (si.17 (sj.17 nr2)),Rk]
   rintro yl Hk lp2 acQ sk gk prk nxk;have s0k:=s0h.4 sk;have Gk:bw K H Hk lp2 ((ls.23 t).11 (zx P (pF P xt))):=#[yl,gk,prk,fW nxk];have Ruk:=Rur.10 sk;exists #[#[_,bY.of (sk _ _ (S! _ _ gve))],?_];refine cP (K:=K) (F:=p7 K (λq=>(H q=none/\q≠fp)/\q≠lp)) (cR K Hk) (zx P (pF P xt)) (sk _ _ (S! _ _ gve)) (bv (λ_ _ z=>p7.same (p7.same z S!) sk) pve) () (λa b=>a.10 b) (λa b=>a.10 b) ?_ ?_
   ·rintro i ns x Hi NY NN en si ⟨q,rfl,nq0,Rq⟩ k1;have mn:ns∈fs++ls:=aA.mpr (.inl (av en));have wn:=wide ns mn;obtain zs2|gz2|qz2:=id Rq;obtain vx2|ex2|nx2:=GW qz2 (j:=P) ();exists cK (bY.of gz2) ex2 ?_;exists #[_,ur,ns.3 P 0,pF P xt,rfl,nx2,szr ns mn _ (getD_in ()),Ruk.10 si,(),szu,λb1 Hj nb1 sj Rb=>?_];exists #[q,b1,ns,_,rfl,Rq.10 sj,Rb,by rw[af];lia,(),szr ns mn,λy hy=>?_,λr2 Hl nr2 sl Rl=>?_]
    ·obtain y'|_F|rfl:=ao.mp hy;show szp ns mn y' _F
    ·show k1 _ _ (sj.4 sl) #[r2,rfl,si.17 (sj.17 nr2),Rl]
   rintro yf Hl fp2 u! sl gl V! nxl;have lyf:=V!.9;rw[af] at lyf;have acq:H fp2=none:=s0k.17 u!;have afp:H lp2=none:=s0h.17 acQ;have fl2:fp2≠lp2:=λz=>by rw[z,gk] at u!;cases u!
   have urk:Hk ur≠none:=by obtain _|gg|_:=Ruk;rw[gg];show λz=>nomatch z
   have urf:ur≠fp2:=λz=>urk (by rw[z];show u!)
   have url:ur≠lp2:=λz=>by obtain _|gg|_:=Rur;rw[z,acQ] at gg;cases gg
   exists #[.inl #[rfl,_,bY.of gl],?_];exists ke gl (du ()) ?_;refine #[(s0k.4 sl).50 acq,lp2,fp2,_,_,ps++[P],_,_,_,_,rfl,afp,acq,fl2,?_,aN,?_,by rw[ax,ax,af];change fs.9+1=ps.9+1;lia,I2]
   ·obtain ul|gul|pul:=Gk.toE;refine bw.ofE (P:=λq=>(H q=none/\q≠lp2)/\q≠fp2) (by rw[bK (Yg fl2)];show sl _ _ gul) (bv (λ_ _ #[q,e1,e2,e3]=>?_) pul) (λq h=>h.1.1) (λq h=>h.1.2);have qf:q≠fp2:=λz=>by obtain _|gg|_:=e3;rw[z,u!] at gg;cases gg
    show #[q,e1,#[e2,qf],(dS.same e3 sl).Zc gl qf]
   ·have nn:=fW nxl;refine cf (t7 (λxs v hv #[q,e1,e2,e3]=>?_) V!) (.cons #[ur,rfl,#[#[afh,urf],url],(Ruk.10 sl).Zc gl urf] .nil);have qf:q≠fp2:=λz=>nn (by rw[<- z,<- e1];show hv)
    show #[q,e1,#[#[s0k.17 e2,qf],λz=>by rw[z,gk] at e2;cases e2],dS.Zc e3 gl qf]
 ·rintro σ' H' ⟨s',lp,fp,ls,fs,ps,vs,y1,y2,y3,rfl,nlp,nfp,fl,GL,gv,pv,hf,JI⟩;have I:=jlw _ _ _ JI;have D:=I.done hw;rw[List.take_left' hf] at D;obtain km|_:=I.km;exists k fp fs ps H' nfp s' (bw.ofE gv pv (λq h=>h.1.1) (λq h=>h.1.2)) D km
theorem fk:sC ["_law_parts_here","_law_n","_law_found","_law_rows","_law_time","_law_look","_law_row_here","_law_later"] 1 tI:=by walk_at "d"
theorem Ed (T:Txt K mg Z) (ac:bd P):T.nP.o P w base 6 (Kw K):=by
 refine T.nP.F.k fk ?_;walk_at "i";obtain r|S|H0|mv|pt|lk|rfl|PQ|D|Z9|LW|k:=h
 refine #[_,(ay (eT 1 fk.nd (bH aY (by rfl) T.36 aT (dg (a7 b6 b9 aw))))
  (ay (eT 2 fk.nd (cN (AN T ac) hr T.kS (cX b9 (bS c7 aw cV))))
  (ay (eT 3 fk.nd (dW gA))
  (ay (eE XA rfl (cz rfl T.32 (dg cV)) (eN 4 fk.nd)
   (aD (eE XA rfl (cz rfl T.32 (dg (bH aY (by rfl) T.36 aT (dg (a7 b6 b9 aw))))) (eN 5 fk.nd)
   (ay (eT 6 fk.nd (dW gA))
  (ay (eE XA rfl (cz rfl T.32 (dg cV)) (eN 7 fk.nd)
   (aD (eT 6 fk.nd (bS l8 sU (a7 ck (a7 ck eI (bS gB wH CQ)) vM)))))
  (aD (kI (wV de dB dA ki jH (dg sU)))))))))
  (aD (aW (bH aY (by rfl) T.36 aT (dg (cN (rQ T ac) hr T.jz (cX jH (bS c7 cV (bH aY (by rfl) T.36 aT (dg (a7 b6 b9 aw)))))))))))))),?_]
 left
 have n8:=D.n8;have i4:=D.i4;have o4:=D.o4;obtain m0|p0|l0|gr|_|_|_|Gm|Gp|Gl:=id PQ;obtain ms|gm|qm|_:=id Gm;obtain pv|z!|o!|_:=id Gp;obtain lv|glv|qlv|_:=id Gl;have lm:=qm.9;have lpv:=o!.9;have llv:=qlv.9;have mp4:mv.9*pt.9<=8*4:=aE n8 i4;have ml4:mv.9*lk.9<=8*4:=aE n8 o4;exists #[_,_,rfl,.inl (bY.of gm),?_];rw[show ((ms.9:Nat):Int)=(mv.9:Int) by lia];walk_at "w";rw[show (2:Int)*(mv.9:Int)=((2*mv.9:Nat):Int) by lia];refine #[r,2*mv.9,H0,mv,pt,lk,rfl,PQ,D,(),Z9,λfo H1 nfo s1 GV=>?_];obtain fs|gfs|qfs:=id GV;have lfs:=qfs.9;unfold uV at lfs;rw[af,bg] at lfs;exists dj λro H2 s2 nro gro=>?_
 have ZM:=s1.4 s2;exists #[(),(),?_];refine dM (n:=mv.9) (λt σ' H'=>aL H1 H'/\∃y1 y2 y3 y4 us,σ'=[some (.ref r),some (.int mv.9),some (.ref fo),some (.ref ro),y1,y2,y3,y4]/\H' ro=some (.lst us)/\Xw (oT K H1 ro H') ((Y4 (aK mv mv.9) lk t).11 λy=>(Y4 mv pt mv.9).11 λz=>bT y z) us) #[s2,_,_,_,_,_,rfl,gro,.nil] ?_ ?_
 ·rintro t σ' H3 ht ⟨s3,y1,y2,y3,y4,us,rfl,g3,_S⟩;have Zv:=s1.4 s3;have lus:=_S.9;rw[af,iK] at lus;have tl4:t*lk.9<=8*4:=aE () o4;have gr3:=Zv _ _ gr;have gl3:=Zv _ _ glv;exists #[_,_,rfl,.inl (bY.of gl3),?_];rw[show ((lv.9:Nat):Int)=(lk.9:Int) by lia];exists #[(),(),?_];refine dM (n:=lk.9) (λi σ' H'=>aL H1 H'/\∃y2 y3 y4 us,σ'=[some (.ref r),some (.int mv.9),some (.ref fo),some (.ref ro),some (.int t),y2,y3,y4]/\H' ro=some (.lst us)/\Xw (oT K H1 ro H') (((Y4 (aK mv mv.9) lk t).11 λy=>(Y4 mv pt mv.9).11 λz=>bT y z)++(lk.18 i).11 λxs=>UR mv pt xs t mv.9) us) #[s3,_,_,_,_,rfl,g3,by rw[List.take_zero,LI,oj];show _S] ?_ ?_
  ·rintro i σ' H4 hi ⟨s4,y2,y3,y4,us,rfl,g4,p!⟩;have afB:=p!.9;rw[ax,af,iK,af,aS] at afB;have ex:lk[i]?=some lk[i]:=ae hi;have lx:=D.lw _ (aB hi);exists dj λrw0 H5 s5 nrw grw=>?_
   have gro5:=s5 _ _ g4;exists #[(),(),?_];refine dM (n:=mv.9) (λj σ' H'=>aL H4 H'/\∃y4 Zz,σ'=[some (.ref r),some (.int mv.9),some (.ref fo),some (.ref ro),some (.int t),some (.int i),some (.ref Zz),y4]/\H4 Zz=none/\dS K H' Zz (UR mv pt lk[i] t j)) #[s5,_,_,rfl,nrw,#[[],grw,.nil]] ?_ ?_
   ·rintro j σ' H6 hj ⟨s6,y4,Zz,rfl,W!,R6⟩;have b!:=s4.4 s6;obtain zs|gz|qz:=id R6;have lz:=qz.9;unfold UR at lz;rw[af,iK] at lz;have jp4:j*pt.9<=8*4:=aE () i4;obtain g|v|eg|ev|_|q|rfl|nq|Gq:=fI qfs (i:=t+j) (by unfold uV;rw[af,bg];lia)
    have eg':g=L5 mv pt lk (t+j):=by
     unfold uV at eg;rw[az,bW ()] at eg;show (cm eg).19
    obtain qs|gqs|qqs|_:=Gq.10 b!;obtain xs|v2|ex2|ev2|_|q2|rfl|_|R2:=fI qqs (i:=i) (by rw[eg'];unfold L5;rw[af];show hi)
    have adl:xs=(pt.11 (eU mv (t+j))).11 λx=>bT lk[i] x:=by
     rw[eg'] at ex2;unfold L5 at ex2;rw[az,ex] at ex2;show (cm ex2).19
    obtain ws|gw|qw:=id R2;have lw:=qw.9;rw[adl,af,af] at lw;walk_at "w";rw[show (t:Int)+(j:Int)=((t+j:Nat):Int) by lia];refine cK (bY.of (b! _ _ gfs)) (fw ev) ?_;exists cK (bY.of gqs) (fw ev2) ?_;exists lW gz gw kX λnr H7 s7 nnr gnr=>?_
    refine #[s6.4 s7,_,_,rfl,s6.17 nnr,?_];rw[RA D lx,<- adl];show #[_,gnr,bv (λ_ _ z=>z.10 s7) (cf qz qw)]
   rintro σ' H6 ⟨s6,y4,Zz,rfl,W!,R6⟩;have b!:=s4.4 s6;have g6:=s6 _ _ g4;have afk:Zz≠ro:=λz=>by rw[z,g4] at W!;cases W!
   exists #[.inl #[rfl,_,bY.of g6],?_];exists ke g6 (du ()) ?_;refine #[CP b! nro,_,_,_,_,rfl,aN,?_];rw[take_snoc ex,bo,<- cC];show cf (bv (λ_ _ z=>(oT.same z s6).upd g6) p!) (.cons (oT.upd #[Zz,rfl,s4.17 W!,afk,R6] g6) .nil)
  rintro σ' H4 ⟨s4,y2,y3,y4,us4,rfl,g4,p!⟩;rw[aJ (aj _),<- Mn] at p!;show #[s4,_,_,_,_,_,rfl,g4,p!]
 rintro σ' H3 ⟨s3,y1,y2,y3,y4,us,rfl,g3,_S⟩;have Zv:=s1.4 s3;have lus:=_S.9;rw[af,iK] at lus;have G3:bw K H1 H3 ro (sO mv pt lk mv.9):=#[us,g3,bv (λ_ _ z=>oT.aeY z) _S,Ax _S];have gr3:=Zv _ _ gr;exists #[_,_,rfl,.inl (bY.of (Zv _ _ z!)),?_];rw[show ((pv.length:Nat):Int)=(pt.9:Int) by lia];refine #[_,_,rfl,rfl,E7 () (),?_]
 dsimp only
 rw[show (mv.9:Int)*(pt.9:Int)=((mv.9*pt.9:Nat):Int) from (Int.natCast_mul _ _).19];walk_at "w"
 have wh:∀xs∈sO mv pt lk mv.9,xs.9=mv.9*pt.9:=λxs hx=>by
  obtain y|_|rfl:=ao.mp hx;rw[af,iK]
 have lh:(sO mv pt lk mv.9).9=mv.9*lk.9:=by
  unfold sO;rw[af,iK]
 refine #[ro,mv.9*pt.9,S,H1,_,rfl,G3,(),(),wh,LW,λl Z pz H4 nl s4 G4 RZ _=>?_];obtain vs|gv|qv|_:=id G4;have lv':=qv.9;have lZ:=RZ.1;exists #[_,_,rfl,.inl (bY.of gv),?_];rw[show ((vs.9:Nat):Int)=(pz.9:Int) by lia];show k Z pz H4 (Zv.4 s4) RZ
theorem Ao:sC ["grid","wide"] 2 pR:=by walk_at "d"
theorem oH (T:Txt K mg Z) (ac:bd P):T.gO.o P w base 1 (FP K):=by
 refine T.gO.F.k Ao ?_;walk_at "i";obtain p|w|H0|rows|rfl|hp|hz|hw|hl|kk:=h;refine #[_,(aD (aW (cg ["place"] ["grid"] [0] (cz rfl T.32 (dg cV)) (λ_=>(eN 0)) (λ_=>cp) (λ_=>(cg ["line"] ["place"] [0] (wO K cV) (λ_=>(eN 0)) (λ_=>cp) (λ_=>(a7 (iw K (by rfl)) b9 cV))))))),?_];left
 exists #[(),(),?_];refine iE (n:=w) (cR K H) (λj=>rows.11 λxs=>xs.3 j 0) hw (λa b=>a.10 b) ?_ ?_
 ·rintro j H1 NY NN hj s1 k1;obtain xs|gx|qx|_:=hp.10 s1;exists #[#[_,bY.of gx],?_];refine cP (K:=K) (F:=cR K H0) (cG K) (λxs=>xs.3 j 0) gx qx hz (λa b=>a.10 b) (λa b=>a.10 b) ?_ ?_
  ·rintro i ns x H2 NY2 NN2 en s2 ⟨u,rfl,_,zs,gz,qz⟩ k2;obtain v|ev|hv:=GW qz (j:=j) (by rw[hl ns (av en)];show hj);exists cK (bY.of gz) ev ?_;show k2 _ _ (aL.refl _) hv
  ·rintro ZC H2 r hr s2 g pr nx;show k1 _ _ s2 #[r,rfl,s1.17 hr,ZC,g,pr]
 ·rintro ZC H1 r hr s1 g pr nx;show kk r H1 hr s1 #[ZC,g,pr,fW nx]
theorem wo:sC ["row","bottom"] 2 tE:=by walk_at "d"
theorem rK (T:Txt K mg Z) (ac:bd P):T.jv.o P w base 1 (FQ K):=by
 refine T.jv.F.k wo ?_;walk_at "i";obtain p|ns|M|B|rfl|hp|hl|hz|hB|sB|q:=h;refine #[_,(aD (aW (cg ["value"] ["bottom"] [1] (cA b9) (λ_=>(eN 0)) (λ_=>cp) (λ_=>(bS c7 (a7 (nZ K (by rfl)) b9 aw) (bS (jK rfl wo rfl rfl rfl ac (vg hr)) cV (a7 (nZ K (by rfl)) b9 aw))))))),?_];left
 obtain xs|gx|qx:=id hp;have lx:=qx.9;exists #[#[_,bY.of gx],?_];refine d9 (K:=K) (xs:=xs) (λi ys H'=>H'=H/\ys=(gE (ns.18 i) B).11 V.int) kX #[rfl,rfl] (λi ys H' _ #[e,_]=>by subst e;show bY.of gx) ?_ ?_
 ·rintro i x ys H' hx Za ⟨rfl,rfl⟩;obtain n|en|r|rfl|hr1:=dd qx hx;have nz:=hz.2.2 n (av en);have sn:Sz 17600000 n.2:=EG hz.1 nz.2.1 hz.2.1;exists gL (show qK _ _ from #[(),sn.22 ()]) ?_;rw[cI _ ()]
  have sq:Sz 17600000 (B / n.2):=sB.le (by
   rw[Vk ()];show Nat.div_le_self ..)
  exists gL (show hZ _ _ from .inr #[_,_,nz.2.2,sq,()]) ?_;show #[rfl,by rw[take_snoc en];simp [gE]]
 ·rintro ys H' hy ⟨rfl,rfl⟩ l _x;show q l _ _x (aL.new _x) (by rw[aN,aJ ()])
theorem fH:sC ["wholes","multiple","whole"] 1 kG:=by walk_at "d"
theorem vQ (T:Txt K mg Z) (ac:bd P):T.ik.o P w base 2 (NL K):=by
 refine T.ik.F.k fH ?_;walk_at "i";obtain p|bs|M|rfl|hp|hM|sM|hb|q:=h
 refine #[_,(ay (eT 1 fH.nd aw)
  (ay (eE XA rfl (cA b9) (eN 2 fH.nd)
   (aD (eT 1 fH.nd (bS c7 cV (bS (jK rfl fH rfl rfl rfl ac (vg hr)) eI (cN (kK T ac) hr T.eO (cX cV eI)))))))
  (aD (aW cV)))),?_]
 left
 exists #[#[_,hp],?_];refine oR (K:=K) (a:=p) (xs:=bs.11 V.int) (λi σ' H'=>H'=H/\∃x,σ'=[some (.ref p),some (.int (yE (bs.18 i) 1)),x]) #[rfl,none,rfl] (λi σ' H' _ #[e,_]=>by subst e;show hp) ?_ ?_
 ·rintro i x σ' H' hx ⟨rfl,y,rfl⟩;rw[az] at hx
  obtain ⟨b,eb,rfl⟩:∃b,bs[i]?=some b/\x=.int b:=by
   cases e:bs[i]? with
   | none=>rw[e] at hx;cases hx
   | some b=>rw[e] at hx;cases hx;show #[b,rfl,rfl]
  have b1:=hb b (av eb);have sb:Sz 17600000 b:=EG hM b1.2 sM;have ht:∀c∈bs.18 i,0 < c/\c∣M:=λc hc=>hb c (bL hc)
  have msz:Sz 17600000 (yE (bs.18 i) 1):=EG hM (zW () (Int.one_dvd _) ht) sM;generalize hm:yE (bs.18 i) 1=m at msz ⊢;have gp:0 < g m b:=A4 ();exists #[m,b,rfl,?_];exists gL (show qK _ _ from #[(),(W6 b1.1 sb).22 ()]) ?_;rw[cI _ ()];exists gL (show hZ _ _ from .inr #[_,_,msz,sb.hi (t:=m) (),()]) ?_;exists #[rfl,_,by rw[take_snoc eb,CZ,hm];rfl]
 ·rintro σ' H' ⟨rfl,y,rfl⟩;walk_at "w";rw[aJ (by simp)];show q
theorem xW:sC ["row"] 1 m7:=by walk_at "d"
theorem l9 (T:Txt K mg Z) (ac:bd P):T.fD.o P w base 3 (NM K):=by
 refine T.fD.F.k xW ?_;walk_at "i";obtain p|ns|M|rfl|hp|hl|hz|q:=h;refine #[_,(aD (aW (cN (vQ T ac) hr T.ik (dg (cg ["value"] [] [] (cA b9) (λ_=>(eN 0)) (λ_=>cp) (λ_=>(a7 (nZ K (by rfl)) b9 aw))))))),?_];left
 obtain xs|gx|qx:=id hp;have lx:=qx.9;exists #[#[_,bY.of gx],?_];refine d9 (K:=K) (xs:=xs) (λi ys H'=>H'=H/\ys=((ns.18 i).11 (·.2)).11 V.int) kX #[rfl,rfl] (λi ys H' _ #[e,_]=>by subst e;show bY.of gx) ?_ ?_
 ·rintro i x ys H' hx Za ⟨rfl,rfl⟩;obtain n|en|r|rfl|hr1:=dd qx hx;exists #[rfl,by rw[take_snoc en];simp]
 ·rintro ys H' hy ⟨rfl,rfl⟩ l _x;exists #[l,ns.11 (·.2),M,rfl,bY.of (by rw[aN,aJ ()]),hz.1,hz.2.1,λb hb=>?_,?_]
  ·obtain n|hn|rfl:=ao.mp hb;show #[(hz.2.2 n hn).1,(hz.2.2 n hn).2.1]
  ·show q _ (aL.new _x)
theorem uT:sC ["lines","begin","place","at"] 3 qZ:=by walk_at "d"
theorem BL (T:Txt K mg Z) (ac:bd P):T.mF.o P w base 1 CL:=by
 refine T.mF.F.k uT ?_;walk_at "i";obtain l|p|ls|b|c|rfl|G|aau|ajH|hc|k1|k2:=h
 refine #[_,(ay (eE XA rfl (L7 rfl T.32 (cX cV (bH aY (by rfl) T.36 aT (dg b9)))) (eN 3 uT.nd)
   (aD (dr (bE t8 (a7 ck (a7 ck b9 jH) eI) aw (bR _)) (aD (aW jH)) cy)))
  (aD (aW D6))),?_]
 left
 obtain _|xs|gx|qx:=id G;have lx:=qx.9;exists #[_,_,rfl,.inl (bY.of gx),?_];rw[<- lx];exists #[#[(),(),(),()],?_];refine C4 (lo:=(b:Int)) (n:=((ls.9:Int) - (b:Int)).27) (λi σ' H'=>H'=H/\(∃y,σ'=[some (.ref p),some (.int b),some (.int c),y])/\∀s,b<=s->s < b+i->eH ls s c=0) #[rfl,#[_,rfl],λs h1 h2=>absurd h2 ()] ?_ ?_
 ·rintro i σ' H' hi ⟨rfl,⟨y,rfl⟩,hz⟩;rw[show ((b:Int)+(i:Int))=((b+i:Nat):Int) by lia];obtain zs|v|ez|ev|mz|q|rfl|_|gq:=fI qx (i:=b+i) ();exists cK (bY.of gx) (fw ev) ?_;exists cK (bY.of gq) (FE (hc zs mz)) ?_;walk_at "w";have ef:=Tz (c:=c) ez;by_cases e:zs.3 c 0=0
  ·rw[decide_eq_true e];exists #[rfl,#[_,rfl],λs h1 h2=>?_];by_cases e2:s=b+i
   ·rw[e2,ef,e];rfl
   ·show hz s h1 ()
  ·rw[decide_eq_false e];exists k1 (b+i) () () (by rw[ef];show WS.mpr e)
 ·rintro σ' H' ⟨rfl,⟨y,rfl⟩,hz⟩;exists k2 λt h1 h2=>hz t h1 ()
theorem oB:sC ["lines","at","place","before","used","by","swept"] 4 yi:=by walk_at "d"
theorem Jn (T:Txt K mg Z) (ac:bd P):T.rX.o P w base 1 CM:=by
 refine T.rX.F.k oB ?_;walk_at "i";obtain l|p|ls|kk|c|n|b|rfl|hl|G|aau|hk|hw|aiD|hc|b0|sb|hs|k:=h
 refine #[_,(ay (eT 4 oB.nd (a7 ck b9 cV))
  (ay (eT 5 oB.nd (a7 ck wH eI))
  (ay (jq 6 ["line"] ["used","by","place","before"] [4,5,2,3] oB.nd rfl rfl (cA b9) (λ_=>(eN 0)) (λ_=>cp) (λ_=>(cg ["mine","yours"] ["by","line","place","before"] [2,0,3,4] (Oi K rfl T.zip (cX b9 cV)) (λ_=>(wQ K 2 (dn (eN 0) (dn (eN 1) mC)))) (λ_=>cp) (λ_=>(bS (jK rfl oB rfl rfl rfl ac (vg hr)) (bS l7 (bS c7 eI b9) (bS c7 (a7 (iw K (by rfl)) jH wH) cV)) vM)))))
  (ay (gM wH (i8 sU cV set_list))
  (aD (aW sU)))))),?_]
 left
 obtain pl|xs|gx|qx:=id G;have lx:=qx.9;obtain zk|vk|ek|evk|mk|qk|rfl|qkl|gk:=fI qx hk;have wk:=hw zk mk;have ek':ls.3 kk []=zk:=by rw[aa,ek];rfl
 exists cK (bY.of gx) (fw evk) ?_;exists cK (bY.of gk) (FE ()) ?_;exists #[#[_,bY.of gx],?_];refine d9 (K:=K) (xs:=xs) (λi ys H'=>aL H H'/\Xw (Lx l H') ((ls.18 i).11 λzs=>XI (λx y=>(zk.3 c 0*x - zs.3 c 0*y).fdiv b) zs zk) ys) kX #[aL.refl _,.nil] (λi ys H' _ #[s,_]=>bY.of (s _ _ gx)) ?_ ?_
 ·rintro i v ys0 H' hx Za ⟨s',pr⟩;obtain zs|ec|q|rfl|ql|gq:=dd qx hx;have mz:=av ec;have wz:=hw zs mz;have g!:=s' _ _ gq;have gk':=s' _ _ gk;exists #[#[_,bY.of g!],#[_,bY.of gk'],?_];refine Bf (K:=K) (xs:=zs.11 V.int) (ws:=zk.11 V.int) (λj ys H2=>aL H' H2/\ys=((XI (λx y=>(zk.3 c 0*x - zs.3 c 0*y).fdiv b) zs zk).18 j).11 V.int) (c6 (du (by rw[af];lia))) (by rw[af,af];lia) #[aL.refl _,rfl] (λj ys H2 _ #[s2,_]=>#[bY.of (s2 _ _ g!),bY.of (s2 _ _ gk')]) ?_ ?_
  ·rintro j v1 v2 ys H2 r h1 h2 hy ⟨s2,rfl⟩ hr
   obtain ⟨x,ex,rfl⟩:∃x,zs[j]?=some x/\V.int x=v1:=by
    rw[az] at h1;cases e:zs[j]? with
    | none=>rw[e] at h1;cases h1
    | some x=>rw[e] at h1;show #[x,rfl,cm h1]
   obtain ⟨y,ey,rfl⟩:∃y,zk[j]?=some y/\V.int y=v2:=by
    rw[az] at h2;cases e:zk[j]? with
    | none=>rw[e] at h2;cases h2
    | some x=>rw[e] at h2;show #[x,rfl,cm h2]
   have sr:aL H2 (upd H2 r (.tup [.int x,.int y])):=aL.new hr;have gr:(upd H2 r (.tup [.int x,.int y])) r=some (.tup [.int x,.int y]):=aN;generalize upd H2 r (.tup [.int x,.int y])=H3 at sr gr ⊢;have gq3:=sr _ _ (s2 _ _ g!);have sx:=hs zs mz x (av ex);have sy:=hs zk mk y (av ey);have s1:=hs zk mk _ (getD_in (e:=0) (show c < zk.9 by lia));have s3:=hs zs mz _ (getD_in (e:=0) (show c < zs.9 by lia));exists gL (show hZ _ _ from .inr #[_,_,s1,sx,()]) ?_;exists cK (bY.of gq3) (FE ()) ?_;exists gL (show hZ _ _ from .inr #[_,_,s3,sy,()]) ?_;exists gL (show qK _ _ from #[b0,sb]) ?_;have ez:(XI (λx y=>(zk.3 c 0*x - zs.3 c 0*y).fdiv b) zs zk)[j]?=some ((zk.3 c 0*x - zs.3 c 0*y).fdiv b):=by rw[cL,ex,ey]
   show #[s2.4 sr,by rw[take_snoc ez];simp]
  ·rintro ys H2 hy ⟨s2,rfl⟩ r hr;have sn:aL H2 (upd H2 r (.lst (((XI (λx y=>(zk.3 c 0*x - zs.3 c 0*y).fdiv b) zs zk).18 (zs.11 V.int).9).11 V.int))):=aL.new hr;refine #[(s'.4 s2).4 sn,?_];rw[take_snoc ec,bo];refine cf (bv (λ_ _ z=>(Lx.same z s2).10 sn) pr) (.cons #[r,rfl,ne_old (λz=>hl (s'.17 (s2.17 z))) hr,?_] .nil);rw[aN,aJ (by rw[cQ,af];lia)]
 ·rintro ys H1 hy ⟨s1,pr⟩ r hr;have sn:aL H1 (upd H1 r (.lst ys)):=aL.new hr;have gn:(upd H1 r (.lst ys)) r=some (.lst ys):=aN;have ly:=pr.9;rw[af,aS] at ly;generalize upd H1 r (.lst ys)=H2 at sn gn ⊢;exists fV gn (gI ()) rfl ?_;have s2:aL H1 (upd H2 r (.lst (ys.43 kk (.ref qk)))):=sn.50 hr;exists k r _ (s1.17 hr) (s1.4 s2) #[ne_old (λz=>hl (s1.17 z)) hr,_,aN,?_];unfold HR;rw[ek'];rw[aJ ()] at pr;show oG (bv (λ_ _ z=>Lx.same z s2) pr) kk #[qk,rfl,qkl,(s1.4 s2) _ _ gk]
theorem uU:sC ["lines","at","to","swapped"] 3 rg:=by walk_at "d"
theorem BM (T:Txt K mg Z) (ac:bd P):T.mG.o P w base 1 y9:=by
 refine T.mG.F.k uU ?_;walk_at "i";obtain l|p|ls|t|kk|rfl|hl|G|aau|ht|hk|k:=h
 refine #[_,(ay (eT 3 uU.nd (fQ xA (by rfl) T.31 XQ (dg b9)))
  (ay (gM (a7 ck b9 cV) (i8 jH eI set_list))
  (ay (gM (a7 ck b9 eI) (i8 jH cV set_list))
  (aD (aW jH))))),?_]
 left
 obtain pl|xs|gx|qx:=id G;have lx:=qx.9;obtain zt|vt|et|evt|_|Ft:=fI qx ht;obtain zk|vk|ek|evk|_|Fk:=fI qx hk;exists #[p,xs,rfl,.inl (bY.of gx),λc hc=>?_];have sc:aL H (upd H c (.lst xs)):=aL.new hc;have gc:(upd H c (.lst xs)) c=some (.lst xs):=aN;generalize upd H c (.lst xs)=Hc at sc gc ⊢;exists cK (bY.of (sc _ _ gx)) (fw evt) ?_;exists fV gc (gI ()) rfl ?_;have s1:aL H (upd Hc c (.lst (xs.43 kk vt))):=sc.50 hc;have g1:(upd Hc c (.lst (xs.43 kk vt))) c=some (.lst (xs.43 kk vt)):=aN;generalize upd Hc c (.lst (xs.43 kk vt))=H1 at s1 g1 ⊢;exists cK (bY.of (s1 _ _ gx)) (fw evk) ?_;exists fV g1 (gI (by rw[fh];lia)) rfl ?_;have s2:aL H (upd H1 c (.lst ((xs.43 kk vt).43 t vk))):=s1.50 hc;exists k c _ hc s2 #[ne_old hl hc,_,aN,?_];have et':ls.3 t []=zt:=by rw[aa,et];rfl
 have ek':ls.3 kk []=zk:=by rw[aa,ek];rfl
 unfold qO;rw[et',ek'];show oG (oG (bv (λ_ _ z=>Lx.same z s2) qx) kk (Lx.same Ft s2)) t (Lx.same Fk s2)
theorem kE:sC ["rows","wide","lines","leads","before","place","many","at"] 2 DW:=by walk_at "d"
theorem Ot (T:Txt K mg Z) (ac:bd P):T.xj.o P w base 4 (CB K):=by
 refine T.xj.F.k kE ?_;walk_at "i";obtain p|n|w|H0|rows|rfl|G|ZJ|ZO|hw|F|k:=h
 refine #[_,(ay (jq 2 ["row"] [] [] kE.nd rfl rfl (cA b9) (λ_=>(eN 0)) (λ_=>cp) (λ_=>(cN (rK T ac) hr T.jv (cX b9 (cN (l9 T ac) hr T.fD (dg b9))))))
  (ay (eT 3 kE.nd (dW gA))
  (ay (eT 4 kE.nd aw)
  (ay (eE XA rfl (cz rfl T.32 (dg cV)) (eN 5 kE.nd)
   (ay (eT 6 kE.nd (bH aY (by rfl) T.36 aT (dg jH)))
  (ay (eT 7 kE.nd (cN (BL T ac) hr T.mF (yw eI sU vM)))
  (aD (dr (bE Q8 CQ D6 (bR _)) (ay (eT 2 kE.nd (cN (Jn T ac) hr T.rX (MX (cN (BM T ac) hr T.mG (yw eI CQ sU)) sU vM wH)))
  (ay (eT 4 kE.nd (a7 ck (a7 ck eI sU) vM))
  (aD (kI (wV de dB dA ki jH (dg vM)))))) cy)))))
  (aD (aW (dD (cX (tZ DF eI wN (wM (bH aY (by rfl) T.36 aT (dg jH)))) jH)))))))),?_]
 left
 obtain xs|gx|qx|_:=id G;obtain W|hW|W2|ent:=F.ent;obtain _|_|_|_|_|_|_|_|r15|r89:=id F;exists #[#[_,bY.of gx],?_];refine cP (K:=K) (as:=rows) (F:=cR K H0) (λ(H:Hp) (zs:List Int) (v:V)=>∃q,v=V.ref q/\H q=some (.lst (zs.11 V.int))) iS gx qx () (λa b=>a.10 b) (λ#[q,a,b] s=>#[q,a,s _ _ b]) ?_ ?_
 ·rintro i qs v H' NY NN ec s' ⟨u,rfl,_,R⟩ k1;have mx:=av ec;obtain M|hM:=F.U! mx;obtain b1|sb:=hM.bot;have lq:(qs.11 nm).9<=1000:=by rw[af,hw qs mx];lia
  exists #[u,_,M,rfl,R._W,lq,hM,λH2 s2=>?_];exists #[u,_,M,_,rfl,(R.10 s2)._W,lq,hM,b1,sb,λr H3 n3 s3 g3=>k1 _ _ (s2.4 s3) #[r,rfl,g3]]
 rintro ys H1 lp0 hlp s1 g1 ZY _E;exists dj λqp H2 s2 nq gq=>?_
 have G2:uB qp H2 lp0 (rows.11 iS):=#[(λz=>by rw[z,nq] at g1;cases g1),ys,s2 _ _ g1,bv (λ_ _ #[q,a,b]=>#[q,a,(λz=>by rw[z,nq] at b;cases b),s2 _ _ b]) ZY];have hq0:H qp=none:=s1.17 nq;have ZM:=s1.4 s2;have hm:(rows.11 iS).9=rows.9:=af ..;clear g1 ZY _E;exists #[(),(),?_];refine dM (n:=n) (λP σ' H'=>aL H H'/\∃lp ls ps d y1 y2 y3,σ'=[some (.ref p),some (.int n),some (.ref lp),some (.ref qp),some (.int d),y1,y2,y3]/\H' qp=some (.lst (dh ps))/\uB qp H' lp ls/\Dk (rows.11 iS) n P ls ps d) #[ZM,lp0,rows.11 iS,[],1,_,_,_,rfl,gq,G2,Dk.start λzs hz=>by obtain x|hx|rfl:=ao.mp hz;rw[qe];show hw x hx] ?_ ?_
 ·rintro P σ' H' hP ⟨s',lp,ls,ps,d,y1,y2,y3,rfl,g!,G',I⟩;have hl:=I.36;have kP:=I.el.kP;have km:=I.el.km;have lps:(dh ps).9=ps.9:=af ..;have hqp:H' qp≠none:=by rw[g!];show λz=>nomatch z
  obtain z1|z2:=I.sz (r:=min rows.9 n) hW ent () (by rw[hm];show aj _) r15;have big:(16*W)^min rows.9 n < 2^35996000:=bG (yr W2) (fM () ());exists #[_,_,rfl,.inl (bY.of g!),?_];rw[lps];exists #[qp,lp,ls,ps.9,P,rfl,G',(),(),λzs hz=>by rw[I.wide zs hz];show hP,λt h1 h2 h3=>?_,λhz=>?_]
  ·exists #[rfl,_,rfl,?_];rw[show decide (V.int (t:Int)=V.Ze)=false from decide_eq_false (λz=>nomatch z)];exists #[qp,lp,ls,t,ps.9,rfl,hqp,G',(),h2,(),λl1 Ha na sa Ga=>?_];exists #[qp,l1,_,ps.9,P,n,d,rfl,λz=>hqp (sa.17 z),Ga,by rw[xR];lia,by rw[xR];lia,Kf I.wide () h2,(),hP,I.d0,bG z1 big,λzs hz z _o=>?_,λl2 Hb nb sb Gb=>?_]
   ·unfold qO at hz;have key:∀ys,ys∈ls->∀z∈ys,Sz 35996000 z:=λys hy z hz=>bG (z2 ys hy z hz) big
    rcases cM hz with h | h
    ·rcases cM h with h | h
     ·show key zs h z _o
     ·rw[h] at _o;show key _ (getD_in h2) z _o
    ·rw[h] at _o;show key _ (getD_in ()) z _o
   have sab:=sa.4 sb;have I2:=I.step hW ent h1 h2 h3;have hk2:ps.9 < (HR (qO ls ps.9 t) ps.9 P d).9:=by rw[Py,xR];lia
   obtain n2|xs2|gx2|qx2:=id Gb;obtain zk|vk|ek|evk|mk|qk|rfl|_|gk:=fI qx2 hk2;have wk:=I2.wide zk mk;exists cK (bY.of gx2) (fw evk) ?_;exists cK (bY.of gk) (FE ()) ?_;have gqb:=sab _ _ g!;exists #[.inl #[rfl,_,bY.of gqb],?_];exists ke gqb (du ()) ?_;refine #[(s'.4 sab).50 hq0,l2,_,ps++[P],_,_,_,_,rfl,?_,Gb.upd,?_]
   ·rw[aN];unfold dh;rw[bo];rfl
   ·have e:(HR (qO ls ps.9 t) ps.9 P d).3 ps.9 []=zk:=by rw[aa,ek];rfl
    rw[e] at I2;show I2
  ·exists #[rfl,_,rfl,?_];rw[show decide (V.Ze=V.Ze)=true from decide_eq_true rfl];exists #[s',lp,ls,ps,d,_,_,_,rfl,g!,G',I.skip hz]
 rintro σ' H' ⟨s',lp,ls,ps,d,y1,y2,y3,rfl,g!,G',I⟩;obtain R|hR:=I.done hw F;have lps:(dh ps).9=ps.9:=af ..;obtain nl|xs'|gx'|qx':=id G';exists #[_,_,rfl,.inl (bY.of g!),?_];rw[lps];exists D4 (bY.of gx') λsl H3 s3 n3 g3=>?_
 rw[Pw] at g3;exists cO λt H4 s4 g4=>?_
 have s34:=s3.4 s4;show k t sl qp R ps d _ H4 g4 (s34 _ _ g!) #[(λz=>by rw[z,g!] at n3;cases n3),_,s4 _ _ g3,bv (λ_ _ z=>Lx.same z s34) (mS qx' ps.9)] (s'.4 s34) hR
theorem qj:sC ["top","bottom","divisor"] 2 Ar:=by walk_at "d"
theorem yz (T:Txt K mg Z) (ac:bd P):T.ou.o P w base 2 LR:=by
 refine T.ou.F.k qj ?_;walk_at "i";obtain t|b|rfl|hb|hs|k:=h
 refine #[_,(ay (eT 2 qj.nd (cN (kK T ac) hr T.eO (cX b9 cV)))
  (ay (dr (bE t9 cV aw (bR _)) (aD (eT 2 qj.nd (AE vp eI))) cy)
  (aD (aW (dD (cX (bS (jK rfl qj rfl rfl rfl ac (vg hr)) b9 eI) (bS (jK rfl qj rfl rfl rfl ac (vg hr)) cV eI))))))),?_]
 left
 exists #[t,b,rfl,?_];have hg:=A4 (t:=t) hb
 have hgs:Sz 35996000 (g t b):=hs.le (by
  have h1:(g t b).15=Yb t b:=by unfold g;simp
  rw[h1];show iV () (by have:=fZ (a:=t) (b:=b);show fB.mpr this |> λz=>by simpa using z))
 have hgn:g (-t) (-b)=g t b:=by unfold g;rw[Int.gcd_neg,Int.neg_gcd]
 exists jh (λh=>?_) (λh=>?_)
 ·have hb0:b < 0:=of_decide_eq_true h;exists gL (show qK _ _ from #[(),hgs.neg]) ?_;exists gL (show qK _ _ from #[(),hgs.neg]) ?_;exists cO λr H' s' h'=>?_
  have e1:t.fdiv (-g t b)=lo (-t) (-b):=by
   unfold Nm.lo;rw[hgn,<- cI _ (),<- Int.neg_fdiv_neg (-t),Int.neg_neg]
  have e2:b.fdiv (-g t b)=hi (-t) (-b):=by
   unfold Nm.hi;rw[hgn,<- cI _ (),<- Int.neg_fdiv_neg (-b),Int.neg_neg]
  show k r H' s' (by rw[if_pos hb0,if_pos hb0,<- e1,<- e2];show h')
 ·have hb0:¬b < 0:=λz=>h (decide_eq_true z)
  exists gL (show qK _ _ from #[(),hgs]) ?_;exists gL (show qK _ _ from #[(),hgs]) ?_;exists cO λr H' s' h'=>?_
  rw[cI _ (),cI _ ()] at h';show k r H' s' (by rw[if_neg hb0,if_neg hb0];show h')
theorem An:sC ["rows","wide","found"] 2 ya:=by walk_at "d"
theorem rL (T:Txt K mg Z) (ac:bd P):T.j7.o P w base 5 (y7 K):=by
 refine T.j7.F.k An ?_;walk_at "i";obtain p|n|w|H0|rows|rfl|G|ZJ|ZO|hw|F|k:=h
 refine #[_,(ay (eT 2 An.nd (cN (Ot T ac) hr T.xj (cX b9 cV)))
  (aD (aW (cg ["line","lead"] [] [] (zQ rfl T.zip (cX (a7 b6 eI aw) (a7 b6 eI aw))) (λ_=>(wQ K 2 (dn (eN 0) (dn (eN 1) mC)))) (λ_=>cp) (λ_=>(cg ["top"] ["line","lead"] [0,1] (wO K b9) (λ_=>(eN 0)) (λ_=>cp) (λ_=>(cN (yz T ac) hr T.ou (cX b9 (a7 (iw K (by rfl)) cV eI)))))))))),?_]
 left
 obtain _|_|_|_|_|_|_|_|r15|r89:=id F;exists #[p,n,w,H0,rows,rfl,G,ZJ,ZO,hw,F,λt lp qp R ps d ls H1 gt gq G1 s1 S=>?_];obtain lR|wR|RR:=id S.rr;have hl:=S.36;obtain _|xs|gx|qx:=id G1;have lx:=qx.9;have lps:(dh ps).9=ps.9:=af ..;have d0:(d:Rat)≠0:=λz=>S.d0 (uA z)
 have dsz:Sz 35996000 d:=bG S.dsz (fM () ())
 have km:ps.9<=n:=by
  rcases be n ps.9 with z | z
  ·have inc:∀j,j < ps.9->j<=ps.3 j 0:=by
    intro j
    induction j with
    | zero=>intro _;show bD _
    | succ j ih =>
     intro hj;have:=ih ();have:=RR.inc j (j+1) () hj
     lia
   have h1:=inc (ps.9 - 1) ();have h2:=RR.56 (ps.9 - 1) ()
   lia
  ·show z
 exists #[#[_,bY.of gx],#[_,bY.of gq],?_];refine Bf (K:=K) (xs:=xs) (ws:=dh ps) (λi ys H'=>aL H1 H'/\Xw (cR K H1 H') (R.18 i) ys) kX () #[aL.refl _,.nil] (λi ys H' _ #[s,_]=>#[bY.of (s _ _ gx),bY.of (s _ _ gq)]) ?_ ?_
 ·rintro i v1 v2 ys H' r h1 h2 hy ⟨s,pr⟩ hr;obtain zs|ez|q|rfl|_|gq1:=dd qx h1;have hi:i < ls.9:=(aI.mp ez).1;have mz:=av ez;have wz:=S.wide zs mz
  obtain ⟨j,ej,rfl⟩:∃j:Nat,ps[i]?=some j/\V.int (j:Int)=v2:=by
   unfold dh at h2;rw[az] at h2;cases e:ps[i]? with
   | none=>rw[e] at h2;cases h2
   | some x=>rw[e] at h2;show #[x,rfl,cm h2]
  have ej':ps.3 i 0=j:=by rw[aa,ej];rfl
  have jn:j < n:=by have:=RR.56 i ();rw[ej'] at this;show this
  have sr:aL H' (upd H' r (.tup [.ref q,.int j])):=aL.new hr;have gr:(upd H' r (.tup [.ref q,.int j])) r=some (.tup [.ref q,.int j]):=aN;generalize upd H' r (.tup [.ref q,.int j])=H2 at sr gr ⊢;have s2:=s.4 sr;have iR:i < R.9:=()
  have eR:=ae iR;have wRi:=wR _ (aB iR)
  have ed:zs.3 j 0=d:=by
   have h:=S.val i j;rw[Tz ez] at h;have u:=RR.34 i () i ();rw[if_pos rfl,ej'] at u;rw[u,fb] at h;show d5.mp h
  have val:∀c,((zs.3 c 0:Int):Rat)=(d:Rat)*(R[i]).3 c 0:=λc=>by
   have h:=S.val i c;rw[Tz ez] at h;rw[h];unfold aZ;rw[aa (l:=R),eR];rfl
  exists #[#[_,bY.of (s2 _ _ gq1)],?_];refine d9 (K:=K) (xs:=zs.11 V.int) (λc ZC H3=>aL H2 H3/\Xw (cG K H3) ((R[i]).18 c) ZC) (c6 (du (by rw[af];lia))) #[aL.refl _,.nil] (λc ZC H3 _ #[s3,_]=>bY.of ((s2.4 s3) _ _ gq1)) ?_ ?_
  ·rintro c x ZC H3 hx Za ⟨s3,_S⟩
   obtain ⟨z,ec,rfl⟩:∃z,zs[c]?=some z/\V.int z=x:=by
    rw[az] at hx;cases e:zs[c]? with
    | none=>rw[e] at hx;cases hx
    | some x=>rw[e] at hx;show #[x,rfl,cm hx]
   have hc:c < zs.9:=(aI.mp ec).1;have vc:=val c;have e1:zs.3 c 0=z:=by rw[aa,ec];rfl
   rw[e1] at vc;exists cK (bY.of ((s2.4 s3) _ _ gq1)) (FE ()) ?_;rw[ed];exists #[z,d,rfl,S.d0,dsz,λr4 H4 s4 g4=>?_];have ec':(R[i])[c]?=some ((R[i]).3 c 0):=by rw[aa,ae (show c < (R[i]).9 by lia)];rfl
   refine #[s3.4 s4,?_];rw[take_snoc ec'];refine cf (bv (λ_ _ z=>cG.same z s4) _S) (.cons (cG.mk g4 ?_) .nil);rcases Int.lt_or_lt_of_ne S.d0 with hd | hd
   ·rw[if_pos hd,if_pos hd];refine rZ () ?_;rw[dt,dt,vc];grind
   ·rw[if_neg (),if_neg ()];refine rZ hd ?_;rw[vc];grind
  ·rintro ZC H3 _F ⟨s3,_S⟩ l4 hl4;have sn:aL H3 (upd H3 l4 (.lst ZC)):=aL.new hl4;refine #[(s2.4 s3).4 sn,?_];rw[take_snoc eR];rw[aJ (by rw[af];lia)] at _S;show cf (bv (λ_ _ z=>cR.same z ((sr.4 s3).4 sn)) pr) (.cons #[l4,rfl,(s2.4 s3).17 hl4,ZC,aN,bv (λ_ _ z=>cG.same z sn) _S] .nil)
 ·rintro ys H' hy ⟨s,pr⟩ r hr;have sn:aL H' (upd H' r (.lst ys)):=aL.new hr;rw[aJ ()] at pr;refine k r R ps d.15 _ (s1.17 (s.17 hr)) ((s1.4 s).4 sn) #[ys,aN,bv (λ_ _ z=>(cR.weak z s1).10 sn) pr,fW (H0:=H1) (rows:=R) #[H',hr,pr]] S.rr S.km ?_ S.dsz S.tp;have:=S.d0
  lia
theorem F6:sC ["many","at"] 2 vC:=by walk_at "d"
theorem ue (T:Txt K mg Z) (ac:bd P):T.kj.o P w base 1 (FO K):=by
 refine T.kj.F.k F6 ?_;walk_at "i";obtain m|a'|rfl|hm|k:=h;refine #[_,(aD (aW (cg ["place"] ["at"] [1] (cz rfl T.32 (dg b9)) (λ_=>(eN 0)) (λ_=>cp) (λ_=>(Ol (bE gN b9 cV (bR _)) (ph (v:=.ref Z.E!) rfl T.r! rfl) (ph (v:=.ref Z.Zt) rfl T.Zw rfl)))))),?_];left
 exists #[(),(),?_];refine iE (n:=m) (cG K) (λi=>if ((i:Nat):Int)=a' then 1 else 0) hm (λa b=>a.10 b) ?_ ?_
 ·rintro i H' NY NN hi s k1;exists jh (λh0=>?_) (λh0=>?_)
  ·exists k1 _ _ (aL.refl _) (by rw[if_pos (of_decide_eq_true h0)];show #[_,rfl,T.l! _])
  ·exists k1 _ _ (aL.refl _) (by rw[if_neg (λz=>h0 (decide_eq_true z))];show #[_,rfl,T.Zu _])
 ·rintro ys H' l hl s g pr nx;show k l _ hl s #[ys,g,pr]
theorem DL:sC ["many"] 1 tD:=by walk_at "d"
theorem Eb (T:Txt K mg Z) (ac:bd P):T.nN.o P w base 2 (LP K):=by
 refine T.nN.F.k DL ?_;walk_at "i";obtain m|rfl|hm|k:=h;refine #[_,(aD (aW (cg ["at"] ["many"] [0] (cz rfl T.32 (dg b9)) (λ_=>(eN 0)) (λ_=>cp) (λ_=>(cN (ue T ac) hr T.kj (cX cV b9)))))),?_];left
 exists #[(),(),?_];refine iE (n:=m) (cR K H) (λi=>ie m i) hm (λa b=>a.10 b) ?_ ?_
 ·rintro i H' NY NN hi s k1;exists #[m,i,rfl,hm,λr H2 n2 s2 h2=>k1 _ _ s2 #[r,rfl,s.17 n2,h2]]
 ·rintro ys H' l hl s g pr nx;show k l _ hl s #[ys,g,pr,fW nx]
theorem xV:sC ["row"] 1 m6:=by walk_at "d"
theorem yA (T:Txt K mg Z) (ac:bd P):T.jx.o P w base 1 (FY K):=by
 refine T.jx.F.k xV ?_;walk_at "i";obtain p|xs|j|rfl|R|ahp|hj|Z3|hz|k:=h;refine #[_,(aD (aW (bH (MH rfl) (by rfl) T.min Ym (dg (cg ["place","value"] [] [] (KZ rfl T.enumerate (dg b9)) (λ_=>(wQ K 2 (dn (eN 0) (dn (eN 1) mC)))) (λ_=>Jg (bE (K4 K (by rfl) (BS hr)) cV (ph (v:=.ref Z.Zt) rfl T.Zw rfl) (bR _))) (λ_=>b9)))))),?_];left
 obtain zs|gz|qz:=id R;have lz:=qz.9;exists #[#[_,bY.of gz],?_];refine MG (K:=K) (xs:=zs) (λi ys H'=>aL H H'/\ys=dh (GG xs i)) kX #[aL.refl _,rfl] (λi ys H' _ #[s,_]=>bY.of (s _ _ gz)) ?_ ?_
 ·rintro i v ys H' r hx Za ⟨s',rfl⟩ hr;obtain y|ey|ny:=dd qz hx;have ey':xs.3 i 0=y:=by rw[aa,ey];rfl
  have sr:aL H' (upd H' r (.tup [.int i,v])):=aL.new hr;have gr:(upd H' r (.tup [.int i,v])) r=some (.tup [.int i,v]):=aN;generalize upd H' r (.tup [.int i,v])=H2 at sr gr ⊢;exists #[_,_,ON,y,0,(),(ny.10 s').10 sr,#[_,rfl,T.Zu _],?_];by_cases e:y=0
  ·rw[decide_eq_true e];exists #[s'.4 sr,?_];rw[zT,ey',if_neg (by simpa using e)]
  ·rw[decide_eq_false e];exists #[s'.4 sr,?_];rw[zT,ey',if_pos e];unfold dh;rw[bo];rfl
 ·rintro ys H1 hy ⟨s1,rfl⟩ l hl;have sn:aL H1 (upd H1 l (.lst (dh (GG xs zs.9)))):=aL.new hl;have gn:(upd H1 l (.lst (dh (GG xs zs.9)))) l=some (.lst (dh (GG xs zs.9))):=aN;generalize upd H1 l (.lst (dh (GG xs zs.9)))=H2 at sn gn ⊢
  have mj:j∈GG xs zs.9:=by
   unfold GG;show oi.mpr #[pN.mpr (),by simpa using Z3]
  exists #[l,uk (GG xs zs.9),rfl,bY.of (by rw[<- CW];show gn),?_,λM hM hle=>?_]
  ·unfold uk;rw[af];show List.length_pos_of_mem mj
  ·obtain c|hc|rfl:=ao.mp hM;have h1:=hle j (ao.mpr #[j,mj,rfl]);have h2:=(oi.mp hc).2
   have e:c=j:=by
    rcases eQ c j with z | z | z
    ·show absurd (hz c z) (of_decide_eq_true h2)
    ·show z
    ·lia
   rw[e];show k _ (s1.4 sn)
theorem IW:sC ["rows"] 1 ye:=by walk_at "d"
theorem vP (T:Txt K mg Z) (ac:bd P):T.me.o P w base 2 (FZ K):=by
 refine T.me.F.k IW ?_;walk_at "i";obtain p|n|H0|R|ps|rfl|G|ZJ|ZO|⟨rows,RR⟩|k:=h;refine #[_,(aD (aW (cg ["row"] [] [] (cA b9) (λ_=>(eN 0)) (λ_=>cp) (λ_=>(cN (yA T ac) hr T.jx (dg b9)))))),?_];left
 obtain lR|wR|rr:=id RR;obtain xs|gx|qx|_:=id G;have lx:=qx.9;exists #[#[_,bY.of gx],?_];refine d9 (K:=K) (xs:=xs) (λi ys H'=>aL H H'/\ys=dh (ps.18 i)) kX #[aL.refl _,rfl] (λi ys H' _ #[s,_]=>bY.of (s _ _ gx)) ?_ ?_
 ·rintro i v ys H' hx Za ⟨s',rfl⟩;obtain row|er|q|rfl|_|Rr:=dd qx hx;have wr:=wR row (av er);have hi:i < ps.9:=by have:=(aI.mp er).1;lia
  have ef:∀c,aZ R i c=row.3 c 0:=λc=>by unfold aZ;rw[aa (l:=R),er];rfl
  have ep:ps[i]?=some (ps.3 i 0):=by rw[aa,ae hi];rfl
  have lowp:=rr.56 i hi;have u:=rr.34 i hi i hi;rw[if_pos rfl,ef] at u;exists #[q,row,ps.3 i 0,rfl,Rr.10 s',(),(),by rw[u];decide,λc hc=>by rw[<- ef];show rr.lead i hi c hc,λH2 s2=>?_];refine #[s'.4 s2,?_];unfold dh;rw[take_snoc ep,bo];rfl
 ·rintro ys H1 hy ⟨s1,rfl⟩ r hr;refine k r _ (s1.17 hr) (s1.4 (aL.new hr)) ?_;rw[aN,aJ ()]
theorem vA:sC ["grid","many","joined"] 1 yg:=by walk_at "d"
theorem Jm (T:Txt K mg Z) (ac:bd P):T.rW.o P w base 6 (y8 K):=by
 refine T.rW.F.k vA ?_;walk_at "i";obtain p|n|w|H0|A|rfl|G|SA|n40|F|k1|k2:=h
 refine #[_,(ay (eT 1 vA.nd (bH aY (by rfl) T.36 aT (dg b9)))
  (ay (eT 2 vA.nd (cN (rL T ac) hr T.j7 (cX (cg ["row","unit"] [] [] (zQ rfl T.zip (cX b9 (cN (Eb T ac) hr T.nN (dg cV)))) (λ_=>(wQ K 2 (dn (eN 0) (dn (eN 1) mC)))) (λ_=>cp) (λ_=>(bS l8 b9 cV))) (bS c7 aw cV))))
  (ay (dr (bE (yx (BS hr)) (cN (vP T ac) hr T.me (dg eI)) (D7 rfl T.31 rfl T.32 (dg cV)) (bR _)) (aD (aW D6)) cy)
  (aD (aW (cg ["row"] ["many"] [1] (cA eI) (λ_=>(eN 0)) (λ_=>cp) (λ_=>(tZ (Am K (by rfl)) b9 (wM cV) wN)))))))),?_]
 left
 obtain lA|wA:=id SA;obtain xs|gx|qx|_:=id G;have lx:=qx.9;obtain lU|wU:=xM (n:=n);have lj:(oW A (cE n)).9=n:=by rw[yG (),lA]
 exists #[_,_,rfl,.inl (bY.of gx),?_];rw[show ((xs.9:Nat):Int)=((n:Nat):Int) by lia];exists #[n,rfl,(),λu H1 nu s1 U1=>?_];obtain us|gu|qu|_:=id U1;have lu:=qu.9;exists #[#[_,bY.of (s1 _ _ gx)],#[_,bY.of gu],?_];refine Bf (K:=K) (xs:=xs) (ws:=us) (λi ys H'=>aL H1 H'/\Xw (cR K H H') ((oW A (cE n)).18 i) ys) kX () #[aL.refl _,.nil] (λi ys H' _ #[s,_]=>#[bY.of (s _ _ (s1 _ _ gx)),bY.of (s _ _ gu)]) ?_ ?_
 ·rintro i v1 v2 ys H' r h1 h2 hy ⟨s,pr⟩ hr;obtain row|er|a1|rfl|_|Ra:=dd qx h1;obtain un|eu|a2|rfl|_|Ru:=dd qu h2;have wr:=wA row (av er);have wn:=wU un (av eu);have sr:aL H' (upd H' r (.tup [.ref a1,.ref a2])):=aL.new hr;have gr:(upd H' r (.tup [.ref a1,.ref a2])) r=some (.tup [.ref a1,.ref a2]):=aN;generalize upd H' r (.tup [.ref a1,.ref a2])=H2 at sr gr ⊢;have s2:=s.4 sr;obtain zs|gz|qz:=Ra.10 (s1.4 s2);obtain ZC|gy|qy:=Ru.10 s2;have lz:=qz.9;have ly:=qy.9;exists lW gz gy kX λl2 H4 s4 n4 g4=>?_
  refine #[s2.4 s4,?_];rw[take_snoc (OQ er eu)];show cf (bv (λ_ _ z=>cR.same z (sr.4 s4)) pr) (.cons #[l2,rfl,(s1.4 s2).17 n4,_,g4,bv (λ_ _ z=>cG.same z s4) (cf qz qy)] .nil)
 rintro ys H2 hy ⟨s2,pr⟩ l hl;have sn:aL H2 (upd H2 l (.lst ys)):=aL.new hl;have gn:(upd H2 l (.lst ys)) l=some (.lst ys):=aN;rw[aJ ()] at pr;generalize upd H2 l (.lst ys)=H3 at sn gn ⊢;have GJ:bw K H H3 l (oW A (cE n)):=yK pr sn hl gn;have Zv:=s1.4 (s2.4 sn);walk_at "w";rw[show (2*(n:Int))=((n+n:Nat):Int) by lia];refine #[l,n+n,w,H,_,rfl,GJ,(),(),Eu wA wU,F,λjd R ps M H4 nj s4 G4 RR pm M0 M1 tM=>?_];rw[lj,show min n (n+n)=n by lia] at M1 tM;rw[lj] at pm;have s04:=Zv.4 s4;have lR:=RR.1;have wR:=RR.2.1;exists #[jd,n+n,H3,R,ps,rfl,G4,(),(),#[_,RR],λle H5 nle s5 g5=>?_];walk_at "w";unfold Ab;exists #[(),λrl H6 s6 n6 g6=>?_];have s06:=(s04.4 s5).4 s6;exists #[_,_,Mh Mi,uk ps,uk (W0 n),(),uK (s6 _ _ g5),uK g6,?_];by_cases e:ps=W0 n
 ·subst e;rw[decide_eq_true rfl];obtain vs|gv|qv|_:=G4.10 (s5.4 s6);have lv:=qv.9;rw[bg] at lR;exists #[#[_,bY.of gv],?_];refine d9 (K:=K) (xs:=vs) (λi ys H'=>aL H6 H'/\Xw (cR K H H') ((R.11 λxs=>xs.40 n).18 i) ys) kX #[aL.refl _,.nil] (λi ys H' _ #[s,_]=>bY.of (s _ _ gv)) ?_ ?_
  ·rintro i v ys H' hx Za ⟨s',pr⟩;obtain row|er|q|rfl|_|Rr:=dd qv hx;have wr:=wR row (av er);obtain zs|gz|qz:=Rr.10 s';have lz:=qz.9;exists D4 (bY.of gz) λl3 H8 s8 n8 g8=>?_
   rw[Px] at g8;refine #[s'.4 s8,?_];rw[take_snoc (show (R.11 λxs=>xs.40 n)[i]?=some (row.40 n) by rw[az,er];rfl)];show cf (bv (λ_ _ z=>cR.same z s8) pr) (.cons #[l3,rfl,s06.17 (s'.17 n8),_,g8,bv (λ_ _ z=>cG.same z s8) (uW qz n)] .nil)
  rintro ys3 H7 hy3 ⟨s7,_S⟩ l3 hl3;have sn3:aL H7 (upd H7 l3 (.lst ys3)):=aL.new hl3;rw[aJ (by rw[af];lia)] at _S;have s07:=s06.4 s7;refine k1 l3 R M _ RR (s07.17 hl3) (s07.4 sn3) (yK _S sn3 hl3 aN) M0 M1 λxs hx x Y6=>?_
  obtain y|hy|rfl:=ao.mp hx;show tM y hy x (Ds Y6)
 ·rw[decide_eq_false (λz=>e (GY z))];exists k2 R ps H6 RR pm e s06
theorem qQ:sC ["one","other","one_bottom","other_bottom","pairs"] 2 xZ:=by walk_at "d"
theorem Jk (T:Txt K mg Z) (ac:bd P):T.rT.o P w base 4 (DB K):=by
 refine T.rT.F.k qQ ?_;walk_at "i";obtain p|q|xs|ys|rfl|hp|hq|hl|hz|⟨k1,j1,k2,j2,h1,h2,hkj⟩|kk:=h
 refine #[_,(ay (eT 2 qQ.nd (cN (l9 T ac) hr T.fD (dg b9)))
  (ay (eT 3 qQ.nd (cN (l9 T ac) hr T.fD (dg cV)))
  (ay (eT 4 qQ.nd (Jh rfl T.31 rfl T.zip (cX (cN (rK T ac) hr T.jv (cX b9 eI)) (cN (rK T ac) hr T.jv (cX cV jH)))))
  (aD (aW (cN (yz T ac) hr T.ou (cX (bH (Pz rfl) (by rfl) T.sum PyProof.Rows.boot_sum (dg (cg ["mine","yours"] [] [] (cA wH) (λ_=>(wQ K 2 (dn (eN 0) (dn (eN 1) mC)))) (λ_=>cp) (λ_=>(bS c7 b9 cV))))) (bS c7 eI jH)))))))),?_]
 left
 obtain M|h1:=h1.U! ();obtain N|h2:=h2.U! ();replace hp:=hp._W;replace hq:=hq._W;replace hl:(ys.11 nm).9=(xs.11 nm).9:=by simpa using hl
 replace hz:(xs.11 nm).9<=1000:=by simpa using hz
 obtain b1|s1:=h1.bot;obtain b2|s2:=h2.bot;have k2:∀r H',aL H H'->H' r=some (.tup [.int (lo (Pk (xs.11 nm) (ys.11 nm)) (iT (xs.11 nm)*iT (ys.11 nm))),.int (hi (Pk (xs.11 nm) (ys.11 nm)) (iT (xs.11 nm)*iT (ys.11 nm)))])->Q (.ref r) H':=λr H' s g=>kk r H' s (cG.mk g (RS b1 b2))
 clear kk;generalize xs.11 nm=ns at hp hq hl hz h1 h2 b1 b2 s1 s2 k2;generalize ys.11 nm=ms at hp hq hl hz h1 h2 b1 b2 s1 s2 k2;have hb:0 < iT ns*iT ms:=jU b1 b2;exists #[p,ns,M,rfl,hp,hz,h1,λH1 t1=>?_];exists #[q,ms,N,rfl,hq.10 t1,(),h2,λH2 t2=>?_];have u2:=t1.4 t2;exists #[p,ns,M,_,rfl,hp.10 u2,hz,h1,b1,s1,λr1 H3 n3 t3 g3=>?_];exists #[q,ms,N,_,rfl,(hq.10 u2).10 t3,(),h2,b2,s2,λr2 H4 n4 t4 g4=>?_];exists #[r1,r2,_,_,rfl,bY.of (t4 _ _ g3),bY.of g4,by simp [gE,hl],λL ts H5 t5 n5 g5 pr=>?_];have lt:=pr.9;have ll:(gE ns (iT ns)).9=ns.9:=by simp [gE]
 have lm:(gE ms (iT ms)).9=ns.9:=by simp [gE,hl]
 rw[By,af,af,ll,lm] at lt;exists #[#[_,bY.of g5],?_];refine d9 (K:=K) (xs:=ts) (λi ys H'=>H'=H5/\ys=((XI (λx y=>x*y) (gE ns (iT ns)) (gE ms (iT ms))).18 i).11 V.int) kX #[rfl,rfl] (λi ys H' _ #[e,_]=>by subst e;show bY.of g5) ?_ ?_
 ·rintro i x ys H' hx Za ⟨rfl,rfl⟩;obtain pq|epq|T|rfl|gT:=dd pr hx;obtain t|u|et|eu|rfl:=P8 epq;exists gL (show hZ _ _ from .inr #[_,_,FI h1 b1 s1 (av et),FI h2 b2 s2 (av eu),()]) ?_;have ez:(XI (λx y=>x*y) (gE ns (iT ns)) (gE ms (iT ms)))[i]?=some (t*u):=by rw[cL,et,eu]
  show #[rfl,by rw[take_snoc ez];simp]
 ·rintro ys H' hy ⟨rfl,rfl⟩ l _x;exists #[l,XI (λx y=>x*y) (gE ns (iT ns)) (gE ms (iT ms)),rfl,bY.of (by rw[aN,aJ (by rw[cQ];lia)]),?_];exists gL (show hZ _ _ from .inr #[_,_,s1,s2,()]) ?_;exists #[_,_,rfl,(),(s1.mul s2).22 (),λr H6 t6 g6=>?_];rw[if_neg (),if_neg ()] at g6;show k2 r H6 ((((u2.4 t3).4 t4).4 t5).4 ((aL.new _x).4 t6)) g6
theorem IX:sC ["grid","row"] 2 yh:=by walk_at "d"
theorem rM (T:Txt K mg Z) (ac:bd P):T.j8.o P w base 5 (DA K):=by
 refine T.j8.F.k IX ?_;walk_at "i";obtain p|q|H0|rows|ys|rfl|hp|hq|hz|hl|hr1|kk:=h;refine #[_,(aD (aW (cg ["line"] ["row"] [1] (cA b9) (λ_=>(eN 0)) (λ_=>cp) (λ_=>(cN (Jk T ac) hr T.rT (cX b9 cV)))))),?_];left
 obtain xs|gx|qx|_:=id hp;exists #[#[_,bY.of gx],?_];refine cP (K:=K) (F:=cR K H0) (cG K) (λxs=>bT xs ys) gx qx hz (λa b=>a.10 b) (λa b=>a.10 b) ?_ ?_
 ·rintro i ns x H' NY NN en s ⟨u,rfl,_,hu⟩ k;obtain e1|e2:=hr1 ns (av en);exists #[u,q,ns,ys,rfl,hu,hq.10 s,e1.19,(),e2,λr H2 s2 h2'=>k _ _ s2 h2']
 ·rintro ZC H' r hr s g pr nx;show kk r H' hr s #[ZC,g,pr]
theorem uS:sC ["one","other","wide","columns"] 3 qX:=by walk_at "d"
theorem uY (T:Txt K mg Z) (ac:bd P):T.jM.o P w base 6 (Ak K):=by
 refine T.jM.F.k uS ?_;walk_at "i";obtain p|q|w|H0|H1|one|other|rfl|hp|hq|z1|z2|hw|h1|h2|kk:=h
 refine #[_,(ay (eT 3 uS.nd (cN (oH T ac) hr T.gO (cX cV eI)))
  (aD (aW (cg ["line"] ["columns"] [3] (cA b9) (λ_=>(eN 0)) (λ_=>cp) (λ_=>(cN (rM T ac) hr T.j8 (cX cV b9))))))),?_]
 left
 exists #[q,w,H1,other,rfl,hq,z2,hw,h2,λc H2 nc s2 hc=>?_];obtain xs|gx|qx|_:=hp.10 s2;exists #[#[_,bY.of gx],?_];refine cP (K:=K) (F:=cR K H0) (cR K H) (λxs=>(aK other w).11 λys=>bT ys xs) gx qx z1 (λa b=>a.10 b) (λa b=>a.10 b) ?_ ?_
 ·rintro i ns x H3 NY NN en s3 ⟨u,rfl,_,hu⟩ k;obtain e1|e2:=h1 ns (av en);exists #[c,u,H,aK other w,ns,rfl,hc.10 s3,hu,by simp [aK];lia,(),λys hy=>#[?_,e2 ys hy],λr H4 nr s4 hr=>k _ _ s4 #[r,rfl,s2.17 (s3.17 nr),hr]];obtain j|_|rfl:=ao.mp hy;rw[af];show e1.19
 ·rintro ZC H3 r hr s3 g pr nx;show kk r H3 (s2.17 hr) (s2.4 s3) #[ZC,g,pr,fW nx]
theorem kb:sC ["system","rows","wide","to_state","to_numbers","move","put"] 2 vG:=by walk_at "d"
theorem GC (T:Txt K mg Z) (ac:bd P):T.pB.o P w base 7 (F2 K Z.Y0):=by
 refine T.pB.F.k kb ?_;walk_at "i";obtain x|r|w|H0|H1|mv|pt|lk|rows|inv|rfl|S|D|G|hR|sw|iv|hi|F|kQ:=h
 refine #[_,(ay (eT 2 kb.nd (dq b9 rfl))
  (ay (eT 3 kb.nd (cN (oH T ac) hr T.gO (cX cV eI)))
  (ay (eT 4 kb.nd (cN (Jm T ac) hr T.rW (dg jH)))
  (ay (dr (bE UB wH D6 (bR _)) (aD KU) cy)
  (ay (eT 5 kb.nd (cN (uY T ac) hr T.jM (yw (cN (uY T ac) hr T.jM (yw wH (dq b9 rfl) eI)) jH eI)))
  (ay (jq 6 ["row"] ["to_numbers"] [4] kb.nd rfl rfl (cA (dq b9 rfl)) (λ_=>(eN 0)) (λ_=>cp) (λ_=>(cN (rM T ac) hr T.j8 (cX cV b9))))
  (aD (aW (zR T.Zj (ij T ac) (hr.22 ()) rfl T.Zg T.fY .nil CS (yw vM sU (cg ["row"] ["rows"] [1] (cA (dq b9 rfl)) (λ_=>(eN 0)) (λ_=>cp) (λ_=>(cN (rM T ac) hr T.j8 (cX cV b9)))))))))))))),?_]
 left
 obtain dx|xa|xb|xc|gx|n1|n2|n3|Ga|Gb|Gc:=id S;have d1:=D.n8;have d2:=D.i4;have d3:=D.o4;have lr:=hR.1;exists #[x,Z.Y0,dx,_,_,rfl,gx,T.Y1,T.Y9,fG,?_];exists #[r,mv.9,H1,rows,rfl,G,(),(),hR.2,λt H2 n2' s2 Gt=>?_];exists #[t,mv.9,w,H,aK rows mv.9,rfl,Gt,p9 hR,(),sw,λi R M H3 RR ni s3 Gi M0 M1' tp=>?_,λR ps H3 RR _ ne s3=>absurd (iv R ps RR).1 ne];rw[(iv _ _ RR).2] at Gi;have D':=oa D hi hR;have li:=hi.1;have n!:=s2.4 s3;have gx3:=n! _ _ gx;have Ga3:=Ga.10 n!;exists #[rfl,?_];rw[decide_eq_false (λz=>nomatch z)];exists #[x,Z.Y0,dx,_,_,rfl,gx3,T.Y1,T.Zf,qg,?_];exists #[i,xa,mv.9,H2,H0,inv,mv,rfl,Gi,Ga3,(),(),(),λxs hx=>#[hi.2 xs hx,λys hy=>F.f1 xs hx ys hy],D.mw,λm1 H4 n4 s4 G4=>?_];exists #[m1,t,mv.9,H3,H,iY inv mv mv.9,aK rows mv.9,rfl,G4,(Gt.same s3).10 s4,by unfold iY;rw[af];lia,by rw[aU];lia,(),λxs hx=>#[by rw[Sx xs hx,aU],F.f2 xs hx],(p9 hR).2,λm2 H5 n5 s5 G5=>?_];have s35:=s4.4 s5;have s15:=n!.4 s35;have gx5:=s15 _ _ gx;have Gi5:=Gi.10 s35;obtain bs|gb|qb|_:=Gb.10 s15;have lb:=qb.9;exists #[x,Z.Y0,dx,_,_,rfl,gx5,T.Y1,T.Zn,uG,?_];exists #[#[_,bY.of gb],?_];refine cP (K:=K) (as:=pt) (F:=cR K H0) (cR K H5) (λxs=>inv.11 λr=>bT r xs) gb qb () (λa b=>a.10 b) (λa b=>a.10 b) ?_ ?_
 ·rintro j xs y H6 NY NN ex s6 ⟨u,rfl,_,Ru⟩ k1;have mx:=av ex;exists #[i,u,H2,inv,xs,rfl,Gi5.10 s6,Ru,(),by rw[D.pw xs mx];lia,λzs hz=>#[by rw[hi.2 zs hz,D.pw xs mx],F.f3 xs mx zs hz],λv H7 n7 s7 R7=>?_];show k1 _ _ s7 #[v,rfl,s6.17 n7,R7]
 rintro ysP H6 pp np s6 gp prp nxp;have Gp:bw K H5 H6 pp (oO inv pt):=#[ysP,gp,prp,fW nxp];clear gp prp nxp gb qb lb;have b!:=s15.4 s6;have gx6:=b! _ _ gx;obtain cs|gc|qc|_:=Gc.10 b!;have lc:=qc.9;exists #[x,Z.Y0,dx,_,_,rfl,gx6,T.Y1,T.Zh,td,?_];exists #[#[_,bY.of gc],?_];refine cP (K:=K) (as:=lk) (F:=cR K H0) (cR K H6) (λxs=>rows.11 λr=>bT r xs) gc qc () (λa b=>a.10 b) (λa b=>a.10 b) ?_ ?_
 ·rintro j xs y H7 NY NN ex s7 ⟨u,rfl,_,Ru⟩ k1;have mx:=av ex;exists #[r,u,H1,rows,xs,rfl,(G.10 b!).10 s7,Ru,(),by rw[D.lw xs mx];lia,λzs hz=>#[by rw[hR.2 zs hz,D.lw xs mx],F.f4 xs mx zs hz],λv H8 n8 s8 R8=>?_];show k1 _ _ s8 #[v,rfl,s7.17 n8,R8]
 rintro ysL H7 ll nl s7 gl V! nxl;have Gl:bw K H6 H7 ll (lk.11 λxs=>rows.11 λr=>bT r xs):=#[ysL,gl,V!,fW nxl];clear gl V! nxl gc qc lc;have s17:=b!.4 s7;walk_at "w";intro z' dz nz ndz nez;show #[z',dz,m2,pp,ll,H7,H4,H5,H6,_,_,_,rfl,nz,ndz,nez,rfl,(G5.10 s6).10 s7,Gp.10 s7,Gl,D',F.g1,F.g2,F.g3,λH9 s9 S9=>#[rfl,kQ z' H9 (s17.4 s9) (S9.47 s17)]]
theorem zv:sC ["rows","many"] 2 oE:=by walk_at "d"
theorem nh (T:Txt K mg Z) (ac:bd P):T.fR.o P w base 1 (KH K):=by
 refine T.fR.F.k zv ?_;walk_at "i";obtain p|m|H0|rows|rfl|G|ZJ|wm|k:=h;refine #[_,(aD (aW (cg ["row"] ["many"] [1] (cA b9) (λ_=>(eN 0)) (λ_=>cp) (λ_=>(tZ (Am K (by rfl)) b9 wN (wM cV)))))),?_];left
 obtain vs|gv|qv|_:=id G;have lv:=qv.9;exists #[#[_,bY.of gv],?_];refine cP (K:=K) (as:=rows) (F:=cR K H0) (cR K H) (λxs=>xs.18 m) gv qv () (λa b=>a.10 b) (λa b=>a.10 b) ?_ ?_
 ·rintro j xs x Ha NY NN ex sa ⟨u,rfl,_,zs,gz,qz⟩ k1;have wx:=wm xs (av ex);have lz:=qz.9;exists D4 (bY.of gz) λl1 Hb sb nb gb=>?_
  rw[JP ()] at gb;show k1 _ _ sb #[l1,rfl,sa.17 nb,_,gb,bv (λ_ _ z=>cG.same z sb) (mS qz m)]
 ·rintro ys Hb t ht sb g pr nx;show k t Hb ht sb #[ys,g,pr,fW nx]
theorem vz:sC ["system","found","whole","many"] 2 yc:=by walk_at "d"
theorem AL (T:Txt K mg Z) (ac:bd P):T.oM.o P w base 8 (Ky K Z.Y0):=by
 refine T.oM.F.k vz ?_;walk_at "i";obtain x|t|l|w|m|H0|H1|mv|pt|lk|rows|inv|rfl|gt|I|k:=h
 refine #[_,(ay (eT 2 vz.nd (cN (GC T ac) hr T.pB (cX b9 (a7 b6 cV aw))))
  (ay (eT 3 vz.nd (a7 b6 cV aw))
  (aD (aW (zR T.Zj (ij T ac) (hr.22 ()) rfl T.Zg T.fY .nil CS (yw (cN (nh T ac) hr T.fR (cX (tZ (Am K (by rfl)) (dq eI rfl) wN (wM jH)) jH)) (cN (nh T ac) hr T.fR (cX (dq eI rfl) jH)) (cN (nh T ac) hr T.fR (cX (dq eI rfl) jH)))))))),?_]
 left
 obtain S|D|G|hR|sw|iv|hi|F|mn:=I;have n8:=D.n8;have i4:=D.i4;have o4:=D.o4;have D':=oa D hi hR;have lM:=fJ (mv:=mv) (rows:=rows) hi;have DC:=qD D' (m:=m) ();exists #[x,l,w,H0,H1,mv,pt,lk,rows,inv,rfl,S,D,G,hR,sw,iv,hi,F,λz H2 s2 S2=>?_];obtain dz|za|zb|zc|gz|n1|n2|n3|Ga|Gb|Gc:=id S2;obtain ms|gm|qm|_:=id Ga;have lm:=qm.9;have gt2:=s2 _ _ gt;exists #[z,Z.Y0,dz,_,_,rfl,gz,T.Y1,T.Zf,qg,?_];exists D4 (bY.of gm) λl1 H3 s3 nl1 g3=>?_
 rw[JP ()] at g3;have G3:bw K H H3 l1 ((og inv mv rows mv.9).18 m):=#[_,g3,bv (λ_ _ z=>cR.same z s3) (mS qm m),fW #[H2,nl1,mS qm m]];exists #[l1,m,H,_,rfl,G3,by rw[aS];lia,λxs hx=>by rw[D'.mw xs (bL hx),lM];show mn,λq1 H4 n4 s4 G4=>?_];have s24:=s3.4 s4;have gz4:=s24 _ _ gz;exists #[z,Z.Y0,dz,_,_,rfl,gz4,T.Y1,T.Zn,uG,?_];exists #[zb,m,H,_,rfl,Gb.10 s24,by have:=D'.i4;lia,λxs hx=>by rw[D'.pw xs hx,lM];show mn,λq2 H5 n5 s5 G5=>?_];have s25:=s24.4 s5;have gz5:=s25 _ _ gz;exists #[z,Z.Y0,dz,_,_,rfl,gz5,T.Y1,T.Zh,td,?_];exists #[zc,m,H,_,rfl,Gc.10 s25,by have:=D'.o4;lia,λxs hx=>by rw[D'.lw xs hx,lM];show mn,λq3 H6 n6 s6 G6=>?_];have s06:=s2.4 (s25.4 s6);walk_at "w";intro z' dz' nz ndz nez;show #[z',dz',q1,q2,q3,H6,H3,H4,H5,_,_,_,rfl,nz,ndz,nez,rfl,(G4.10 s5).10 s6,G5.10 s6,G6,DC,JQ (Qd F.g1),JQ F.g2,JQ F.g3,λH9 s9 S9=>#[rfl,k z' H9 (s06.4 s9) (S9.47 s06)]]
theorem BF:sC ["system","rows"] 2 qV:=by walk_at "d"
theorem BK (T:Txt K mg Z) (ac:bd P):T.mE.o P w base 6 (CH K Z.Y0):=by
 refine T.mE.F.k BF ?_;walk_at "i";obtain x|p|H0|H1|mv|pt|lk|R|rfl|S|D|G|l100|wR|hf|k:=h;refine #[_,(aD (aW (cg ["row"] ["system"] [0] (cA cV) (λ_=>(eN 0)) (λ_=>cp) (λ_=>(cN (rM T ac) hr T.j8 (cX (Q6 K cV rfl) b9)))))),?_];left
 obtain dx|a'|b'|c'|gx|_|_|_|Ga|Gb|Gc:=id S;have d8:=D.n8;obtain xs|gxs|qx|_:=id G;exists #[#[_,bY.of gxs],?_];refine cP (K:=K) (F:=cR K H1) (cR K H) (gF mv) gxs qx () (λa b=>a.10 b) (λa b=>a.10 b) ?_ ?_
 ·rintro i ns v H' NY NN en s ⟨u,rfl,_,hu⟩ k1;have mn:=av en;exists #[x,Z.Y0,dx,_,_,rfl,s _ _ gx,T.Y1,T.Zf,qg,?_];exists #[a',u,H0,mv,ns,rfl,Ga.10 s,hu,(),by rw[wR ns mn];lia,λxs hx=>#[by rw[D.mw xs hx,wR ns mn],hf xs hx ns mn],λr H2 nr s2 R2=>k1 _ _ s2 #[r,rfl,s.17 nr,R2]]
 ·rintro ys H' r hr s g pr nx;show k r H' hr s #[ys,g,pr,fW nx]
theorem oz:sC ["system","steps","lists","rows"] 2 pQ:=by walk_at "d"
theorem AK (T:Txt K mg Z) (ac:bd P):T.kO.o P w base 7 (CK K Z.Y0):=by
 refine T.kO.F.k oz ?_;walk_at "i";obtain x|a|c|st|H0|mv|pt|lk|rfl|aap|S|D|F|k:=h
 refine #[_,(ay (eT 2 oz.nd (dW (dg (dW gA))))
  (ay (Az XA (bE Wc (bH aY (by rfl) T.36 aT (dg eI)) cV (bR _))
   (ay (eT 3 oz.nd (cN (rL T ac) hr T.j7 (cX (bS l8 (dq b9 rfl) (cN (BK T ac) hr T.mE (cX b9 (a7 ck eI (AE vp aw))))) (dq b9 rfl))))
  (ay (dr (bE gN (bH aY (by rfl) T.36 aT (dg jH)) (bH aY (by rfl) T.36 aT (dg (a7 ck eI (AE vp aw)))) (bR _)) (aD (aW eI)) cy)
  (aD (kI (wV de dB dA ki eI (dg jH)))))))
  (aD (aW eI)))),?_]
 left
 obtain dx|a'|b'|c'|gx|_|_|_|Ga|Gb|Gc:=id S;have d8:=D.n8;have i4:=D.i4;have lP:=cJ (mv:=mv) (pt:=pt) rfl D.pw;exists dj λq0 H1 s1 nq0 g1=>?_
 exists dj λl H2 s2 nl g2=>?_
 have ZM:=s1.4 s2;have nl0:H l=none:=s1.17 nl;obtain ⟨Hz,eHz⟩:∃Hz,Hz=upd H l (.lst []):=#[_,rfl];have zl:Hz l≠none:=by rw[eHz,aN];show λz=>nomatch z
 have zn:∀q,Hz q=none->H q=none/\q≠l:=λq h=>by
  have ne:q≠l:=λz=>zl (by rw[<- z];show h)
  rw[eHz,bK ne] at h;show #[h,ne]
 have nz:∀q,H q=none->q≠l->Hz q=none:=λq h ne=>by rw[eHz,bK ne];show h
 clear eHz;have q0l:q0≠l:=λz=>by rw[z,nl] at g1;cases g1
 have G0:bw K Hz H2 q0 []:=#[[],s2 _ _ g1,.nil,λz=>nomatch z];exists Dw (λσ' H'=>aL H H'/\∃Rs R us y,σ'=[some (.ref x),some (.int st),some (.ref l),y]/\H' l=some (.lst us)/\Xw (λR v=>∃q,v=V.ref q/\Hz q=none/\bw K Hz H' q R) (Rs++[R]) us/\Br mv pt (Rs++[R])/\Rs.9<=st) (λ_ H'=>match H' l with | some (.lst us)=>st+1 - us.9 | _=>0) #[ZM,[],[],_,_,rfl,g2,.cons #[q0,rfl,nz q0 nq0 q0l,G0] .nil,#[by simp,λt R e=>?_,λt R R' e e'=>?_],bD _] ?_
 ·have ht:=(aI.mp e).1;have:t=0:=by simpa using ht
  subst this;cases e;show #[[],Ja]
 ·have ht:=(aI.mp e').1;simp at ht
 rintro σ' Ha ⟨sa,Rs,R,us,y,rfl,gu,pa,Gw,hst⟩;have lu:=pa.9;rw[ax,bN] at lu;have eR:(Rs++[R])[Rs.9]?=some R:=by rw[b8 (aj _),pK];rfl
 obtain ps|RR:=Gw.rr _ _ eR;have tn:Rs.9<=mv.9:=by have:=Gw.36 _ _ eR;have:=RR.le;have:=RR.1;lia
 have fin:∀(Hx:Hp) (sx:aL Ha Hx) (hh:∀s,(Rs.9=st/\s=st\/Rs.9 < st/\Rs.9<=s)->∃ps,aG (Y4 mv pt s) mv.9 R ps),Q (.ref l) Hx:=λHx sx hh=>by
  refine k l (Rs++[R]) Hx nl0 (sa.4 sx) #[us,sx _ _ gu,bv (λ_ _ #[q,e1,e2,e3]=>#[q,e1,(zn q e2).1,(zn q e2).2,bw.j! (bw.same e3 sx) λq h=>(zn q h).1]) pa] Gw (by rw[ax,bN];lia) λR2 e2 s hs=>?_
  rw[List.getLast?_concat] at e2;cases e2;rw[ax,bN,vn] at hs;show hh s hs
 exists #[_,_,rfl,.inl (bY.of gu),?_];exists jh (λh0=>?_) (λh0=>?_)
 ·have h0:=of_decide_eq_true h0;refine SY ?_
  obtain ⟨zs,gS⟩:∃zs q,us=zs++[V.ref q]/\Hz q=none/\bw K Hz Ha q R:=by
   obtain ⟨v,ev,q,rfl,e2,e3⟩:∃v,us[Rs.9]?=some v/\∃q,v=V.ref q/\Hz q=none/\bw K Hz Ha q R:=by
    have ev:=ae (show Rs.9 < us.9 by lia);obtain R2|e2|w:=dd pa ev;rw[eR] at e2;cases e2;show #[_,ev,w]
   refine #[us.18 Rs.9,q,?_,e2,e3];rw[<- take_snoc ev,aJ ()]
  obtain q|rfl|zq|Gq:=gS;have gxa:=sa _ _ gx;exists #[x,Z.Y0,dx,_,_,rfl,gxa,T.Y1,T.Zn,uG,?_];exists cK (bY.of gu) (Bj _ _) ?_;have wR:=RR.2.1;have lR:=RR.1;have pn:=RR.le;exists #[x,q,H0,Hz,mv,pt,lk,R,rfl,S.10 sa,D,Gq,(),wR,F.A! d8 D.mw D.pw tn RR,λmr Hb nmr sb Gm=>?_];obtain pv|z!|o!|_:=Gb.10 (sa.4 sb);obtain mvs|gmv|qmv|_:=id Gm;have lpv:=o!.9;have _L:=qmv.9;rw[af] at _L;exists lW z! gmv kX λcr Hc sc nc gc=>?_
  have sab:=sa.4 (sb.4 sc);have Gc':bw K (λ_=>none) Hc cr (pt++R.11 (gF mv)):=yK (H:=Hb) (cf (bv (λ_ _ #[q,e1,e2,e3]=>#[q,e1,rfl,e3]) o!) (bv (λ_ _ #[q,e1,e2,e3]=>#[q,e1,rfl,e3]) qmv)) sc nc gc;exists #[x,Z.Y0,dx,_,_,rfl,sab _ _ gx,T.Y1,T.Y9,fG,?_];exists #[cr,mv.9,_,_,_,rfl,Gc',by rw[ax,af];lia,(),λxs hx=>?_,F.step d8 D.mw D.pw tn RR,λrr R' Zd M' Hd nrr sd G' ZS pm' _ _ _=>?_]
  ·rcases aA.mp hx with hx | hx
   ·show D.pw xs hx
   ·obtain y|_|rfl:=ao.mp hx;show fv
  have ZL:=sb.4 (sc.4 sd);have sad:=sa.4 ZL;have K1:=xn rfl D.mw D.pw RR ZS;have _Z:=ZL _ _ gu;obtain rv|grv|qrv|_:=id G';have lrv:=qrv.9;have lR':=ZS.1;have pn':=ZS.le;exists #[_,_,rfl,.inl (bY.of grv),?_];exists cK (bY.of _Z) (Bj _ _) ?_;obtain ov|gov|qov|_:=Gq.10 ZL;have lov:=qov.9;exists #[_,_,rfl,.inl (bY.of gov),?_];exists jh (λh1=>?_) (λh1=>?_)
  ·have h1:=of_decide_eq_true h1;exists fin Hd ZL λs hs=>#[ps,?_]
   obtain ⟨s',rfl⟩:∃s',s=Rs.9+s':=#[s - Rs.9,()];show C0 rfl D.mw D.pw RR ZS () s'
  ·have h1:¬((rv.9:Int)=ov.9):=λz=>h1 (decide_eq_true z)
   have gr:=GU rfl D.mw D.pw RR K1;have rl:rr≠l:=λz=>by rw[z,(sb.4 sc) _ _ gu] at nrr;cases nrr
   have zc:∀q,Hc q=none->Hz q=none:=λq h=>nz q (sab.17 h) (λz=>by rw[z,(sb.4 sc) _ _ gu] at h;cases h)
   exists #[.inl #[rfl,_,bY.of _Z],?_];exists ke _Z (du ()) ?_;refine #[#[sad.50 nl0,Rs++[R],R',_,_,rfl,aN,cf (bv (λ_ _ #[q,e1,e2,e3]=>#[q,e1,e2,bw.Zc (bw.same e3 ZL) _Z zl (zn q e2).2]) pa) (.cons #[rr,rfl,zc rr nrr,bw.Zc (G'.j! zc) _Z zl rl] .nil),Gw.snoc K1 (),by rw[ax,bN];lia],?_];simp only[gu,aN,ax,bN] at lu h0 ⊢
   lia
 ·have h0:¬((us.9:Int)<=st):=λz=>h0 (decide_eq_true z)
  walk_at "w"
  show fin Ha (aL.refl _) λs hs=>#[ps,by
   have:s=Rs.9:=()
   rw[this];show RR]
theorem BE:sC ["system","steps"] 2 qU:=by walk_at "d"
theorem uX (T:Txt K mg Z) (ac:bd P):T.jL.o P w base 8 (CD K Z.Y0):=by
 refine T.jL.F.k BE ?_;walk_at "i";obtain x|a|c|st|H0|mv|pt|lk|rfl|aap|S|D|F|k:=h;refine #[_,(aD (aW (a7 ck (cN (AK T ac) hr T.kO (cX b9 cV)) (AE vp aw)))),?_];left
 exists #[x,a,c,st,H0,mv,pt,lk,rfl,aap,S,D,F,λr Rs H1 nr s1 #[us,gu,pa] Gw hl hh=>?_];have lu:=pa.9;obtain ⟨Rs',R,rfl⟩:∃Rs' R,Rs=Rs'++[R]:=#[Rs.dropLast,Rs.getLast Gw.ne,(List.dropLast_concat_getLast Gw.ne).19];rw[ax,bN] at lu hl;have eR:(Rs'++[R])[Rs'.9]?=some R:=by rw[b8 (aj _),pK];rfl
 obtain ⟨zs,q,rfl,zq,ql,Gq⟩:∃zs q,us=zs++[V.ref q]/\H q=none/\q≠r/\bw K H H1 q R:=by
  have ev:=ae (show Rs'.9 < us.9 by lia);obtain R2|e2|q|e3|e4|e5|e6:=dd pa ev;rw[eR] at e2;cases e2;rw[e3] at ev;refine #[us.18 Rs'.9,q,?_,e4,e5,e6];rw[<- take_snoc ev,aJ ()]
 obtain ps|RR:=hh R (by rw[List.getLast?_concat]) st (by rw[ax,bN,vn];lia);exists cK (bY.of gu) (Bj _ _) ?_;show k q R ps H1 zq s1 Gq RR
theorem xY:sC ["self"] 1 fP:=by walk_at "d"
theorem yB (T:Txt K mg Z) (ac:bd P):uC P w K mg base MW 7 Z.nB Z.nA ["self"] (Kp K Z.Y0):=by
 refine T.sQ.k xY ?_;walk_at "i";obtain x|H0|mv|pt|lk|rfl|S|D|F|k:=h;refine #[_,(aD (aW (zR T.Zj (ij T ac) (hr.22 ()) rfl T.Zg T.fY .nil CS (yw (cN (oH T ac) hr T.gO (cX (dq b9 rfl) (dq b9 rfl))) (dq b9 rfl) (dq b9 rfl))))),?_];left
 obtain dx|a|b|c|gx|n1|n2|n3|Ga|Gb|Gc:=id S;have d1:=D.n8;exists #[x,Z.Y0,dx,_,_,rfl,gx,T.Y1,T.Zf,qg,?_];exists #[x,Z.Y0,dx,_,_,rfl,gx,T.Y1,T.Y9,fG,?_];exists #[a,mv.9,H0,mv,rfl,Ga,(),(),D.mw,λt H1 nt s1 Gt=>?_];have gx1:=s1 _ _ gx;exists #[x,Z.Y0,dx,_,_,rfl,gx1,T.Y1,T.Zh,td,?_];exists #[x,Z.Y0,dx,_,_,rfl,gx1,T.Y1,T.Zn,uG,?_];walk_at "w";intro x' dx' nx ndx nex;show #[x',dx',t,c,b,H1,H,H0,H0,_,_,_,rfl,nx,ndx,nex,rfl,Gt,Gc.10 s1,Gb.10 s1,D.turn,Qb F.1,F.2.2,F.2.1,λH' s' S'=>#[rfl,k x' H' (s1.17 nx) (s1.4 s') (S'.47 s1)]]
theorem NU:sC ["one","other"] 2 DY:=by walk_at "d"
theorem Ov (T:Txt K mg Z) (ac:bd P):T.xl.o P w base 3 (qP K (λx y=>x - y)):=by
 refine T.xl.F.ok NU (λvs H Q E h=>?_) (λZm A outer s H vs Q E hr h=>?_)
 ·obtain p|q|a|b|c|d|rfl|hp|hq|hb|hd|sa|sb|sc|sd|k:=zO h;rfl
 ·obtain p|q|a|b|c|d|rfl|hp|hq|hb|hd|sa|sb|sc|sd|k:=zO h;refine #[_,(aD (aW (cN (yz T ac) hr T.ou (cX (bS l7 (bS c7 (a7 b6 b9 aw) (a7 b6 cV aw)) (bS c7 (a7 b6 cV aw) (a7 b6 b9 aw))) (bS c7 (a7 b6 b9 aw) (a7 b6 cV aw)))))),?_];refine qo (σ:=[some (.ref p),some (.ref q)]) rfl ?_
  try rw[gV]
  have hbd:0 < b*d:=jU hb hd;have ZL:Sz 35996000 (b*d):=(sb.mul sd).22 ();exists gL (show hZ _ _ from .inr #[_,_,sa,sd,()]) ?_;exists gL (show hZ _ _ from .inr #[_,_,sc,sb,()]) ?_;exists gL (show hZ _ _ from .inr #[_,_,sb,sd,()]) ?_;walk_at "w";exists #[_,_,rfl,(),ZL,λr H' s' h'=>?_];rw[if_neg (),if_neg ()] at h';show k r H' s' h'
theorem qR:sC ["rows","wide","at","answer","lead","row"] 3 yd:=by walk_at "d"
theorem Jl (T:Txt K mg Z) (ac:bd P):T.rV.o P w base 4 (CG K):=by
 refine T.rV.F.k qR ?_;walk_at "i";obtain p|n|a|H0|R|ps|rfl|G|ZJ|ZO|⟨rows,RR⟩|ha|hp|hz|k:=h
 refine #[_,(ay (eT 3 qR.nd (cN (ue T ac) hr T.kj (cX cV eI)))
  (ay (eE XA rfl (zQ rfl T.zip (cX (cN (vP T ac) hr T.me (dg b9)) b9)) (yt rfl (dn (eN 4 qR.nd) (dn (eN 5 qR.nd) mC)))
   (aD (gM (cN (Ov T ac) hr T.xl (cX (ph (v:=.ref Z.Zt) rfl T.Zw rfl) (a7 ck vM eI))) (i8 jH wH set_list))))
  (aD (aW jH)))),?_]
 left
 obtain lR|wR|rr:=id RR;exists #[n,a,rfl,(),λan H1 na s1 R1=>?_];rw[<- Rj (R:=R) (ps:=ps)] at R1;obtain vs0|g0|q0:=id R1;exists #[p,n,H0,R,ps,rfl,G.10 s1,ZJ,ZO,#[rows,RR],λle H2 nl s2 g2=>?_];have anl:le≠an:=λz=>by rw[z,g0] at nl;cases nl
 obtain rs|grs|qrs|_:=id G;have lrs:=qrs.9;have lps:=qA (ps:=ps);exists #[#[_,bY.of g2],#[_,bY.of ((s1.4 s2) _ _ grs)],?_];refine RE (K:=K) (xs:=dh ps) (ws:=rs) (λj σ' H'=>aL H H'/\H' le=some (.lst (dh ps))/\∃y1 y2 vs,σ'=[some (.ref p),some (.int n),some (.int a),some (.ref an),y1,y2]/\H' an=some (.lst vs)/\Xw (cG K H') (K8 R ps n a j) vs) () #[s1.4 s2,g2,_,_,vs0,rfl,s2 _ _ g0,bv (λ_ _ z=>cG.same z s2) q0] (λj σ' H' _ #[e,e2,_]=>#[bY.of e2,bY.of (e _ _ grs)]) ?_ ?_
 ·rintro j v1 v2 σ' H' r h1 h2 ⟨s',gl,y1,y2,vs,rfl,ga,qa⟩ hr;obtain row|er|q|rfl|_|Rr:=dd qrs h2;have mr:=av er;have wr:=wR row mr;obtain pj|ej|rfl:=En h1;have hj:j < ps.9:=(aI.mp ej).1;have ejD:ps.3 j 0=pj:=by rw[aa,ej];rfl
  have pjn:pj < n:=by have:=rr.56 j hj;rw[ejD] at this;show this
  have fr:aZ R j a=row.3 a 0:=by unfold aZ;rw[aa (l:=R),er];rfl
  have sr:aL H' (upd H' r (.tup [.int pj,.ref q])):=aL.new hr;have gr:(upd H' r (.tup [.int pj,.ref q])) r=some (.tup [.int pj,.ref q]):=aN;generalize upd H' r (.tup [.int pj,.ref q])=H3 at sr gr ⊢;have Zv:=s'.4 sr;obtain us|gu|qu:=Rr.10 Zv;obtain vx|ex|nx:=GW qu (j:=a) ();exists cK (bY.of gu) ex ?_;exists #[_,_,0,row.3 a 0,rfl,#[_,rfl,T.Zu _],nx,Nv,hz row mr _ (getD_in ()),λr4 H4 s4 n4=>?_];have ga4:=(sr.4 s4) _ _ ga;have gl4:=(sr.4 s4) _ _ gl;have la:=qa.9;rw[jG] at la;exists fV ga4 (gI ()) rfl ?_;refine #[(Zv.4 s4).50 na,by rw[bK anl];show gl4,_,_,_,rfl,aN,?_];rw[<- Rm RR hj hp,ejD,fr,show -(row.3 a 0)=0 - row.3 a 0 by grind];show oG (bv (λ_ _ z=>(cG.same z (sr.4 s4)).Zc ga4) qa) pj (n4.Zc ga4)
 ·rintro σ' H' ⟨s',gl,y1,y2,vs,rfl,ga,qa⟩;rw[lps] at qa;exists k an H' na s' #[vs,ga,qa]
theorem tw:sC ["rows","wide","leads"] 2 pS:=by walk_at "d"
theorem ug (T:Txt K mg Z) (ac:bd P):T.jc.o P w base 3 (F3 K):=by
 refine T.jc.F.k tw ?_;walk_at "i";obtain p|n|H0|R|ps|rfl|G|ZJ|ZO|RR|k:=h
 refine #[_,(ay (eT 2 tw.nd (cN (vP T ac) hr T.me (dg b9)))
  (aD (aW (cg ["place"] ["leads"] [2] (cz rfl T.32 (dg cV)) (λ_=>(eN 0)) (λ_=>Jg (bE (BI K (by rfl)) b9 cV (by with_unfolding_all rfl))) (λ_=>b9))))),?_]
 left
 exists #[p,n,H0,R,ps,rfl,G,ZJ,ZO,RR,λl H1 nl s1 g1=>?_];exists #[(),(),?_];refine oS (n:=n) (λi ys H'=>aL H1 H'/\ys=dh (cW ps i)) kX #[aL.refl _,rfl] ?_ ?_
 ·rintro i ys H' hi Za ⟨s',rfl⟩;rw[uP];exists #[l,dh ps,rfl,.inl (bY.of (s' _ _ g1)),rfl,Me,?_];rw[OS];by_cases e:i∈ps
  ·rw[decide_eq_true e];exists #[s',?_];rw[A5,if_neg (by simpa using e)]
  ·rw[decide_eq_false e,show (if true=true then !false else false)=true from rfl];exists #[s',?_];rw[A5,if_pos e];unfold dh;rw[bo];rfl
 ·rintro ys H2 hy ⟨s2,rfl⟩ r hr;show k r _ (s1.17 (s2.17 hr)) ((s1.4 s2).4 (aL.new hr)) aN
theorem F8:sC ["rows","wide","basis"] 2 DX:=by walk_at "d"
theorem Ou (T:Txt K mg Z) (ac:bd P):T.xk.o P w base 6 (KA K):=by
 refine T.xk.F.k F8 ?_;walk_at "i";obtain p|n|w|H0|rows|rfl|G|ZJ|ZO|hw|F|SZ|k:=h
 refine #[_,(ay (eT 2 F8.nd (cN (rL T ac) hr T.j7 (cX b9 cV)))
  (aD (aW (cg ["at"] ["basis","wide"] [2,1] (cA (cN (ug T ac) hr T.jc (cX eI cV))) (λ_=>(eN 0)) (λ_=>cp) (λ_=>(cN (Jl T ac) hr T.rV (yw cV eI b9))))))),?_]
 left
 exists #[p,n,w,H0,rows,rfl,G,ZJ,ZO,hw,F,λba R ps M H1 nb s1 G1 RR pm M0 M1 tM=>?_];obtain lR|wR|rr:=id RR;have pn:=RR.le;have szR:=SZ R ps RR;have fl:=EA (ps:=ps) (i:=n);exists #[ba,n,H,R,ps,rfl,G1,(),(),#[rows,RR],λfr H2 nf s2 g2=>?_];exists #[#[_,bY.of g2],?_];refine d9 (K:=K) (xs:=dh (cW ps n)) (λi ys H'=>aL H2 H'/\Xw (cR K H H') ((cW ps n).18 i |>.map (nM R ps n)) ys) (c6 (du (by rw[qA];lia))) ⟨aL.refl _,.nil⟩ (λi ys H' _ ⟨s,_⟩=>bY.of (s _ _ g2)) ?_ ?_
 ·rintro i v ys H' hx Za ⟨s',pr⟩;obtain a|ea|rfl:=En hx;obtain an|ap:=pG.mp (av ea);have ZM:=(s1.4 s2).4 s';exists #[ba,n,a,H,R,ps,rfl,(G1.10 s2).10 s',(),(),#[rows,RR],an,ap,szR,λr H3 nr s3 R3=>?_];refine #[s'.4 s3,?_];rw[take_snoc ea,bo];show cf (bv (λ_ _ z=>cR.same z s3) pr) (.cons #[r,rfl,ZM.17 nr,R3] .nil)
 ·rintro ys H3 hy ⟨s3,pr⟩ r hr;rw[aJ (by rw[qA];show aj _)] at pr;have sn:aL H3 (upd H3 r (.lst ys)):=aL.new hr;have Zv:=(s1.4 s2).4 s3;show k r R ps _ (Zv.17 hr) (Zv.4 sn) #[ys,aN,bv (λ_ _ z=>cR.same z sn) pr,fW (H0:=H) (rows:=aO R ps n) #[H3,hr,pr]] RR
theorem tu:sC ["system","steps","told"] 2 pP:=by walk_at "d"
theorem AJ (T:Txt K mg Z) (ac:bd P):T.kM.o P w base 9 (Ko K Z.Y0):=by
 refine T.kM.F.k tu ?_;walk_at "i";obtain x|tt|e|H0|mv|pt|lk|rfl|hT|S|D|F|UF|k:=h
 refine #[_,(ay (eT 2 tu.nd (cN (uX T ac) hr T.jL (cX (Oj b9 T.Y1 T.qB (yB T ac) (hr.22 ()) T.sP .nil CS) cV)))
  (aD (aW (cN (rL T ac) hr T.j7 (cX (cN (Ou T ac) hr T.xk (cX eI (dq b9 rfl))) (dq b9 rfl)))))),?_]
 left
 have d8:=D.n8;have et:(aK mv mv.9).9=mv.9:=aU;obtain a|c|KF|_|_:=UF.kf;obtain dx|a'|b'|c'|gx|_:=id S;exists #[x,dx,_,rfl,gx,IQ,?_];exists #[x,H0,mv,pt,lk,rfl,S,D,F,λy H1 ny s1 S1=>?_];exists #[y,a,c,tt,H,_,lk,pt,rfl,(),S1,D.turn,KF,λq R ps H2 nq s2 G2 RR=>?_];have ZM:=s1.4 s2;obtain ⟨w1,sw⟩|szR|w2|swn|bn|q1|q10|tn:=UF.sw RR;have e1:=UF.e1;rw[et] at RR sw swn bn tn;have le:=RR.le;have lR:=RR.1;have cnt:=md RR;exists #[x,Z.Y0,dx,_,_,rfl,ZM _ _ gx,T.Y1,T.Y9,fG,?_];exists #[q,mv.9,w1,H1,R,rfl,G2,(),(),RR.2.1,sw,λR' Zd h'=>by obtain rfl|rfl:=h'.10 (rF RR);show szR,λr3 R' Zd H3 n3 s3 G3 h'=>?_];obtain rfl|rfl:=(rF RR).10 h';have Zv:=ZM.4 s3;exists #[x,Z.Y0,dx,_,_,rfl,Zv _ _ gx,T.Y1,T.Y9,fG,?_];exists #[r3,mv.9,w2,H2,_,rfl,G3,(),(),kL,swn,λr4 Hd psd M4 H4 n4 s4 G4 RN _ M0 M1 tp=>?_];have up:=ak (show 0 < 2 by decide) bn;show k r4 Hd H4 (Zv.17 n4) (Zv.4 s4) (G4.j! λq h=>Zv.17 h) #[R,ps,psd,M4,RR,RN,Jo RR bO q10 tn RN,M0,ai M1 up,λxs hx x Y6=>(tp xs hx x Y6).22 up]
theorem BG:sC ["rows","wide"] 2 qY:=by walk_at "d"
theorem uZ (T:Txt K mg Z) (ac:bd P):T.jN.o P w base 4 (KG K):=by
 refine T.jN.F.k BG ?_;walk_at "i";obtain p|n|H0|R|ps|rfl|G|ZJ|ZO|RR|k:=h;refine #[_,(aD (aW (cg ["place"] ["wide"] [1] (cA (cN (ug T ac) hr T.jc (cX b9 cV))) (λ_=>(eN 0)) (λ_=>cp) (λ_=>(cN (ue T ac) hr T.kj (cX cV b9)))))),?_];left
 exists #[p,n,H0,R,ps,rfl,G,ZJ,ZO,RR,λfr H2 nf s2 g2=>?_];have fl:=EA (ps:=ps) (i:=n);exists #[#[_,bY.of g2],?_];refine d9 (K:=K) (xs:=dh (cW ps n)) (λi ys H'=>aL H2 H'/\Xw (cR K H H') ((cW ps n).18 i |>.map λa=>ie n ((a:Nat):Int)) ys) (c6 (du (by rw[qA];lia))) #[aL.refl _,.nil] (λi ys H' _ #[s,_]=>bY.of (s _ _ g2)) ?_ ?_
 ·rintro i v ys H' hx Za ⟨s',pr⟩;obtain a|ea|rfl:=En hx;have ZM:=s2.4 s';exists #[n,a,rfl,(),λr H3 nr s3 R3=>?_];refine #[s'.4 s3,?_];rw[take_snoc ea,bo];show cf (bv (λ_ _ z=>cR.same z s3) pr) (.cons #[r,rfl,ZM.17 nr,R3] .nil)
 ·rintro ys H3 hy ⟨s3,pr⟩ r hr;rw[aJ (by rw[qA];show aj _)] at pr;have sn:aL H3 (upd H3 r (.lst ys)):=aL.new hr;have Zv:=s2.4 s3;show k r _ (Zv.17 hr) (Zv.4 sn) #[ys,aN,bv (λ_ _ z=>cR.same z sn) pr,fW (H0:=H) #[H3,hr,pr]]
theorem pO:sC ["system","unseen","units"] 1 qT:=by walk_at "d"
theorem BJ (T:Txt K mg Z) (ac:bd P):T.mD.o P w base 10 (Kt K Z.Y0):=by
 refine T.mD.F.k pO ?_;walk_at "i";obtain x|e|H0|mv|pt|lk|rfl|S|D|F|UF|k:=h
 refine #[_,(ay (eT 1 pO.nd (cN (AJ T ac) hr T.kM (cX b9 (dq b9 rfl))))
  (ay (eT 2 pO.nd (cN (uZ T ac) hr T.jN (cX cV (dq b9 rfl))))
  (aD (aW (dD (cX (bS l8 eI cV) (bH aY (by rfl) T.36 aT (dg eI)))))))),?_]
 left
 obtain dx|xa|xb|xc|gx|_:=id S;have d1:=D.n8;exists #[x,Z.Y0,dx,_,_,rfl,gx,T.Y1,T.Y9,fG,?_];exists #[x,mv.9,e,H0,mv,pt,lk,rfl,(),S,D,F,UF,λr U H1 nr s1 G1 UE=>?_];obtain R|ps|pu|M|RR|RN|_:=id UE;have gx1:=s1 _ _ gx;have lU:=RN.1;have pl:=RN.le;have fl:=EA (ps:=pu) (i:=mv.9);exists #[x,Z.Y0,dx,_,_,rfl,gx1,T.Y1,T.Y9,fG,?_];exists #[r,mv.9,H,U,pu,rfl,G1,(),(),#[_,RN],λu H2 nu s2 G2=>?_];obtain us|gu|qu|_:=G1.10 s2;obtain vs|gv|qv|_:=id G2;have lu:=qu.9;have lv:=qv.9;rw[af] at lv;have qv':Xw (cR K H H2) _ vs:=bv (λ_ _ #[q,e,n,r]=>#[q,e,s1.17 n,r]) qv;exists lW gv gu kX λl H3 s3 nl gl=>?_
 have ZM:=s1.4 s2;have Gl:bw K H H3 l (o7 U pu mv.9):=#[_,gl,bv (λ_ _ z=>cR.same z s3) (cf qv' qu),fW #[H2,nl,cf qv' qu]];exists #[_,_,rfl,.inl (bY.of (s3 _ _ gv)),?_];rw[show ((vs.9:Nat):Int)=((cW pu mv.9).9:Int) by lia];exists cO λt H4 s4 g4=>?_
 show k t l R ps U pu H4 RR RN (ZM.17 nl) ((ZM.4 s3).4 s4) g4 (Gl.same s4)
theorem DM:sC ["system"] 1 tF:=by walk_at "d"
theorem w5 (T:Txt K mg Z) (ac:bd P):T.kN.o P w base 11 (Kv K Z.Y0):=by
 refine T.kN.F.k DM ?_;walk_at "i";obtain x|e|H0|mv|pt|lk|rfl|S|D|F0|UF|Z9|k:=h;refine #[_,(aD (aW (cN (AL T ac) hr T.oM (cX b9 (cN (BJ T ac) hr T.mD (dg b9)))))),?_];left
 exists #[x,e,H0,mv,pt,lk,rfl,S,D,F0,UF,λt l R ps U pu H1 RR RN nl s1 gt G=>?_];obtain F|w|sw:=Z9 R ps U pu RR RN;have cn:=kZ RN;exists #[x,t,l,w,(cW pu mv.9).9,H0,H,mv,pt,lk,o7 U pu mv.9,vw U pu mv.9,rfl,gt,#[S.10 s1,D,G,uH RN,sw,λR9 ps9 h9=>NS RN h9,kD RN,F,()],λz H2 s2 S2=>k z R ps U pu H2 RR RN (s1.4 s2) (S2.47 s1)]
theorem qi:sC ["system","reach"] 1 m5:=by walk_at "d"
theorem yy (T:Txt K mg Z) (ac:bd P):T.jw.o P w base 9 (Ku K Z.Y0):=by
 refine T.jw.F.k qi ?_;walk_at "i";obtain x|a|c|H0|mv|pt|lk|rfl|S|D|KF|k:=h
 refine #[_,(ay (eT 1 qi.nd (cN (uX T ac) hr T.jL (cX b9 (dq b9 rfl))))
  (aD (aW (dD (cX (bS l8 cV (cN (uZ T ac) hr T.jN (cX cV (dq b9 rfl)))) (bH aY (by rfl) T.36 aT (dg cV))))))),?_]
 left
 obtain dx|xa|xb|xc|gx|_:=id S;have d1:=D.n8;exists #[x,Z.Y0,dx,_,_,rfl,gx,T.Y1,T.Y9,fG,?_];exists #[x,a,c,mv.9,H0,mv,pt,lk,rfl,(),S,D,KF,λr R ps H1 nr s1 G1 RR=>?_];have gx1:=s1 _ _ gx;have lR:=RR.1;have pl:=RR.le;have fl:=EA (ps:=ps) (i:=mv.9);exists #[x,Z.Y0,dx,_,_,rfl,gx1,T.Y1,T.Y9,fG,?_];exists #[r,mv.9,H,R,ps,rfl,G1,(),(),#[_,RR],λu H2 nu s2 G2=>?_];obtain us|gu|qu|_:=G1.10 s2;obtain vs|gv|qv|_:=id G2;have lu:=qu.9;have lv:=qv.9;rw[af] at lv;have qv':Xw (cR K H H2) _ vs:=bv (λ_ _ #[q,e,n,r]=>#[q,e,s1.17 n,r]) qv;exists lW gu gv kX λl H3 s3 nl gl=>?_
 have ZM:=s1.4 s2;have Gl:bw K H H3 l (j5 R ps mv.9):=#[_,gl,bv (λ_ _ z=>cR.same z s3) (cf qu qv'),fW #[H2,nl,cf qu qv']];exists #[_,_,rfl,.inl (bY.of (s3 _ _ gu)),?_];rw[show ((us.9:Nat):Int)=(ps.9:Int) by lia];exists cO λt H4 s4 g4=>?_
 show k t l R ps H4 RR (ZM.17 nl) ((ZM.4 s3).4 s4) g4 (Gl.same s4)
theorem zu:sC ["system"] 1 oC:=by walk_at "d"
theorem sN (T:Txt K mg Z) (ac:bd P):T.iu.o P w base 10 (Kq K Z.Y0):=by
 refine T.iu.F.k zu ?_;walk_at "i";obtain x|a|c|H0|mv|pt|lk|rfl|S|D|KF|Z9|k:=h;refine #[_,(aD (aW (cN (AL T ac) hr T.oM (cX b9 (cN (yy T ac) hr T.jw (dg b9)))))),?_];left
 exists #[x,a,c,H0,mv,pt,lk,rfl,S,D,KF,λt l R ps H1 RR nl s1 gt G=>?_];obtain F|w|sw:=Z9 R ps RR;exists #[x,t,l,w,ps.9,H0,H,mv,pt,lk,j5 R ps mv.9,stC R ps mv.9,rfl,gt,#[S.10 s1,D,G,kB RR,sw,λR9 ps9 h9=>ND RR h9,jm RR,F,RR.le],λz H2 s2 S2=>k z R ps H2 RR (s1.4 s2) (S2.47 s1)]
theorem F7:sC ["system"] 1 vD:=by walk_at "d"
theorem uf (T:Txt K mg Z) (ac:bd P):T.kn.o P w base 12 (Kr K Z.Y0):=by
 refine T.kn.F.k F7 ?_;walk_at "i";obtain x|a|c|ν|p|H0|mv|pt|lk|rfl|S|SM|k:=h;refine #[_,(aD (aW (cN (w5 T ac) hr T.kN (dg (cN (sN T ac) hr T.iu (dg b9)))))),?_];left
 have D:=SM.D;exists #[x,a,c,H0,mv,pt,lk,rfl,S,D,SM.KF,λR ps RR=>(SM.st R ps RR).1,λz R ps H1 RR s1 S1=>?_];have G:=(SM.st R ps RR).2;obtain D1|l1:=zP D RR;exists #[z,2970000,H,stM mv R ps,FN mv pt R ps,Kl mv lk R ps,rfl,S1,D1,G.ok SM.sz,G.turn.un D1.turn SM.sz,λRo po U pu RO RN=>G.A! D1 SM.sz RO RN,λz2 Ro po U pu H2 RO RN s2 S2=>k z2 R ps Ro po U pu H2 RR RO RN (s1.4 s2) (S2.47 s1)]
theorem o8:sC ["_law_thing","_law_part"] 1 lV:=by walk_at "d"
theorem xi (T:Txt K mg Z) (ac:bd P):T.iJ.o P w base 2 (LU K):=by
 refine T.iJ.F.k o8 ?_;walk_at "i";obtain x|n|rfl|⟨p,rfl,hp⟩|hn|k:=h
 refine #[_,(ay (dr (PW.pt (pe (ng (lY (zS rfl T.46 PyProof.Rows.boot_tuple T.44 b9))) (kH (bE t8 (bH aY (by rfl) T.36 aT (dg b9)) aw (bR _))))) (aD (aW sJ)) cy)
  (ay (eE XA rfl (Uw b9) (eN 1 o8.nd)
   (aD (dr (PW.pt (pe (ng (lY (zS rfl T.46 X7 T.int cV))) (kH (lY (zS rfl T.46 PyProof.Rows.boot_bool T.bool cV))))) (aD (aW sJ)) cy)))
  (aD (aW (yv (kJ wZ (a7 b6 b9 aw) aw (bR _)) (AG (kJ (Ji (BS hr)) (cN (gZ T ac) hr T.eF (cX (a7 b6 b9 aw) (a7 b6 b9 aw))) b9 (bR _)))))))),?_]
 left
 obtain hb|hg|_|hs:=hn;exists .inr #[p,_,_,rfl,hp,rfl,?_];exists #[_,_,rfl,.inr hp,?_];walk_at "w"
 try refine Rw ?_
 exists #[#[_,hp],?_];refine RH (K:=K) (a:=p) (xs:=[.int n.1,.int n.2]) (λi σ' H'=>H'=H/\∃x,σ'=[some (.ref p),x]) #[rfl,none,rfl] (λi σ' H' _ #[e,_]=>by subst e;show hp) ?_ ?_
 ·rintro i x σ' H' hx ⟨rfl,y,rfl⟩
  obtain ⟨z,rfl⟩:∃z,x=V.int z:=by
   have hm:x∈[V.int n.1,V.int n.2]:=av hx;simp only[aM,bf,or_false] at hm;rcases hm with e | e
   ·show #[_,e]
   ·show #[_,e]
  exists .inl #[_,_,.int z,rfl,?_];exists .inl #[_,_,.int z,rfl,?_];exists #[rfl,_,rfl]
 ·rintro σ' H' ⟨rfl,x,rfl⟩;walk_at "w";rw[decide_eq_true hb];exists #[n.1,n.2,rfl,hb,hs.22 (),λr H' s1 h'=>?_];obtain e1|e2:=UK hb hg;exists #[_,_,Wh,(lo n.1 n.2,hi n.1 n.2),n,(),#[r,rfl,nD.of h'],#[p,rfl,s1.sqt hp],?_];rw[e1,e2,decide_eq_true rfl];show k _ s1
theorem Ap:sC ["_law_thing","_law_many"] 2 pX:=by walk_at "d"
theorem AQ (T:Txt K mg Z) (ac:bd P):T.kW.o P w base 3 (xU K):=by
 refine T.kW.F.k Ap ?_;walk_at "i";obtain p|ns|rfl|hp|hl|hn|k:=h
 refine #[_,(ay (dr (PW.pt (pe (ng (lY (yu rfl T.46 XQ T.31 b9))) (kH (bE t8 (bH aY (by rfl) T.36 aT (dg b9)) cV (bR _))))) (aD (aW sJ)) cy)
  (aD (aW (bH (Bh rfl) (by rfl) T.all PyProof.Rows.boot_all (dg (cg ["_law_one"] [] [] (cA b9) (λ_=>(eN 0)) (λ_=>cp) (λ_=>(cN (xi T ac) hr T.iJ (dg b9))))))))),?_]
 left
 obtain xs|gx|qx:=id hp;have lx:=qx.9;exists #[_,_,.lst gx,rfl,?_];exists #[_,_,rfl,.inl (bY.of gx),?_];walk_at "w";rw[show ((xs.9:Nat):Int)=(ns.9:Nat) by rw[lx],decide_eq_true rfl];exists #[#[_,bY.of gx],?_];refine d9 (K:=K) (xs:=xs) (λi ys H'=>aL H H'/\ys=K0 i (.bl true)) kX #[aL.refl _,rfl] (λi ys H' _ #[s,_]=>bY.of (s _ _ gx)) ?_ ?_
 ·rintro i x ys H' hx Za ⟨s,rfl⟩;obtain n|en|z:=dd qx hx;exists #[x,n,rfl,s.num z,hn n (av en),λH2 s2=>#[s.4 s2,by rw[Dq]]]
 ·rintro ys H' hy ⟨s,rfl⟩ l _x;exists #[l,K0 xs.9 true,rfl,bY.of (by rw[aN];simp),?_];have e4:(K0 xs.9 true).all id=true:=by simp
  rw[e4];show k _ (s.4 (aL.new _x))
theorem zw:sC ["_law_thing","_law_many","_law_wide"] 3 oF:=by walk_at "d"
theorem nk (T:Txt K mg Z) (ac:bd P):T.fU.o P w base 4 (Aj K):=by
 refine T.fU.F.k zw ?_;walk_at "i";obtain p|rows|m|rfl|hp|hl|hm|hn|k:=h
 refine #[_,(ay (dr (PW.pt (pe (ng (lY (yu rfl T.46 XQ T.31 b9))) (kH (bE t8 (bH aY (by rfl) T.36 aT (dg b9)) cV (bR _))))) (aD (aW sJ)) cy)
  (aD (aW (bH (Bh rfl) (by rfl) T.all PyProof.Rows.boot_all (dg (cg ["_law_row_here"] ["_law_wide"] [2] (cA b9) (λ_=>(eN 0)) (λ_=>cp) (λ_=>(cN (AQ T ac) hr T.kW (cX b9 cV))))))))),?_]
 left
 obtain xs|gx|qx:=id hp;have lx:=qx.9;exists #[_,_,.lst gx,rfl,?_];exists #[_,_,rfl,.inl (bY.of gx),?_];walk_at "w";rw[show ((xs.9:Nat):Int)=(rows.9:Nat) by rw[lx],decide_eq_true rfl];exists #[#[_,bY.of gx],?_];refine d9 (K:=K) (xs:=xs) (λi ys H'=>aL H H'/\ys=K0 i (.bl true)) kX #[aL.refl _,rfl] (λi ys H' _ #[s,_]=>bY.of (s _ _ gx)) ?_ ?_
 ·rintro i x ys H' hx Za ⟨s,rfl⟩;obtain ns|en|q|rfl|z:=dd qx hx;obtain e1|e2:=hn ns (av en);exists #[q,ns,by rw[e1],z.10 s,(),e2,λH2 s2=>#[s.4 s2,by rw[Dq]]]
 ·rintro ys H' hy ⟨s,rfl⟩ l _x;exists #[l,K0 xs.9 true,rfl,bY.of (by rw[aN];simp),?_];have e4:(K0 xs.9 true).all id=true:=by simp
  rw[e4];show k _ (s.4 (aL.new _x))
theorem wq:sC ["_law_thing","_law_n","_law_ins","_law_outs"] 4 lT:=by walk_at "d"
theorem xh (T:Txt K mg Z) (ac:bd P):T.iI.o P w base 5 (F1 K Z.Y0):=by
 refine T.iI.F.k wq ?_;walk_at "i";obtain x|H0|mv|pt|lk|rfl|S|D|G1|G2|G3|k:=h
 refine #[_,(ay (dr (PW.pt (pe (ng (lY (UA rfl T.46 rfl T.Zg b9))) (kH (bE (yx (BS hr)) (dW (yw (dq b9 rfl) (dq b9 rfl) (dq b9 rfl))) (dW (yw cV eI jH)) (bR _))))) (aD (aW sJ)) cy)
  (aD (aW (yv (cN (nk T ac) hr T.fU (yw (dq b9 rfl) cV cV)) (yv (cN (nk T ac) hr T.fU (yw (dq b9 rfl) eI cV)) (AG (cN (nk T ac) hr T.fU (yw (dq b9 rfl) jH cV)))))))),?_]
 left
 obtain dx|a|b|c|gx|n1|n2|n3|Ga|Gb|Gc:=id S;have d1:=D.n8;have d2:=D.i4;have d3:=D.o4;have lm:(mv.11 (XT nm)).9=mv.9:=af ..;have lp:(pt.11 (XT nm)).9=pt.9:=af ..;have ll:(lk.11 (XT nm)).9=lk.9:=af ..
 have ok:∀(rows:Y3),(∀xs∈rows,xs.9=mv.9)->uN rows->∀ns∈rows.11 (XT nm),ns.9=mv.9/\∀n∈ns,vh n:=λrows hr ho ns hn=>by
  obtain qs|hq|rfl:=ao.mp hn;refine #[by rw[af];show hr qs hq,λn hn=>?_];obtain y|hy|rfl:=ao.mp hn;show ho qs hq y hy
 exists #[_,true,T.ZI.1 gx,T.ZI.2,?_];exists #[x,Z.Y0,dx,_,_,rfl,gx,T.Y1,T.Y9,fG,?_];exists #[x,Z.Y0,dx,_,_,rfl,gx,T.Y1,T._K,Qh,?_];exists #[x,Z.Y0,dx,_,_,rfl,gx,T.Y1,T._n,Ny,?_];exists dj λsz H5 s5 n5 g5=>?_
 exists dj λt2 H7 s7 n7 g7=>?_
 exists #[_,_,Mh Mi,[(mv.9:Int),pt.9,lk.9],[(mv.9:Int),pt.9,lk.9],(),#[sz,_,rfl,bY.of (s7 _ _ g5),.cons rfl (.cons rfl (.cons rfl .nil))],#[t2,_,rfl,bY.of g7,.cons rfl (.cons rfl (.cons rfl .nil))],?_];rw[decide_eq_true rfl];have s:=s5.4 s7;have gx7:=s _ _ gx;exists #[x,Z.Y0,dx,_,_,rfl,gx7,T.Y1,T.Zf,qg,?_];exists #[a,_,mv.9,by rw[lm],(Ga.10 s).y!,by rw[lm];lia,(),λns' hx=>ok mv D.mw G1 ns' hx,λH2 s2=>?_];have s12:=s.4 s2;exists #[x,Z.Y0,dx,_,_,rfl,(s12 _ _ gx),T.Y1,T.Zn,uG,?_];exists #[b,_,mv.9,by rw[lp],(Gb.10 s12).y!,by rw[lp];lia,(),λns' hx=>ok pt D.pw G2 ns' hx,λH3 s3=>?_];have n!:=s12.4 s3;exists #[x,Z.Y0,dx,_,_,rfl,(n! _ _ gx),T.Y1,T.Zh,td,?_];exists #[c,_,mv.9,by rw[ll],(Gc.10 n!).y!,by rw[ll];lia,(),λns' hx=>ok lk D.lw G3 ns' hx,λH4 s4=>?_];show k H4 (n!.4 s4)
theorem xX:sC ["_law_system_here"] 1 m9:=by walk_at "d"
theorem js (T:Txt K mg Z) (ac:bd P):T.d7.o P w base 1 (Kx K Z.Y0):=by
 refine T.d7.F.k xX ?_;walk_at "i";obtain x|H0|mv|pt|lk|rfl|S|k:=h;refine #[_,(aD (aW (dD (yw (dq b9 rfl) (dq b9 rfl) (dq b9 rfl))))),?_];left
 obtain dx|a|b|c|gx|n1|n2|n3|Ga|Gb|Gc:=id S;exists #[x,Z.Y0,dx,_,_,rfl,gx,T.Y1,T.Zf,qg,?_];exists #[x,Z.Y0,dx,_,_,rfl,gx,T.Y1,T.Zn,uG,?_];exists #[x,Z.Y0,dx,_,_,rfl,gx,T.Y1,T.Zh,td,?_];exists cO λr H1 s1 g1=>?_
 show k r H1 s1 #[a,b,c,g1,n1,n2,n3,Ga.10 s1,Gb.10 s1,Gc.10 s1]
theorem iD:sC ["_law_parts_here","_law_steps_here","_law_rows","_law_some","_law_turn"] 2 rE:=by walk_at "d"
theorem BR (T:Txt K mg Z) (ac:bd P):T.mL.o P w base 5 (CN K):=by
 refine T.mL.F.k iD ?_;walk_at "i";obtain r|tt|H0|mv|pt|lk|rfl|hT|PQ|D|AF|k:=h
 refine #[_,(ay (jq 2 ["_law_row_here"] [] [] iD.nd rfl rfl (cA (a7 b6 b9 aw)) (λ_=>(eN 0)) (λ_=>cp) (λ_=>(fQ (iF K (by rfl)) (by rfl) T.31 XQ (dg b9))))
  (ay (eT 3 iD.nd (dW gA))
  (ay (eE XA rfl (cz rfl T.32 (dg cV)) (eN 4 iD.nd)
   (ay (eT 3 iD.nd (bS l8 jH eI))
  (aD (jq 2 ["_law_row_here"] ["_law_parts_here"] [0] iD.nd rfl rfl (cA eI) (λ_=>(eN 0)) (λ_=>cp) (λ_=>(cN (rN T ac) hr T.j9 (cX (a7 (nZ K (by rfl)) cV aw) b9)))))))
  (aD (aW jH))))),?_]
 left
 have d1:=D.n8;have i4:=D.i4;obtain m|p|l|g|n1|n2|n3|Gm|Gp|Gl:=id PQ;obtain up|gp|qp|_:=id Gp;have lup:=qp.9;exists #[#[_,bY.of gp],?_];refine cP (K:=K) (F:=cR K H0) (cR K H) id gp qp () (λa b=>a.10 b) (λa b=>a.10 b) ?_ ?_
 ·rintro i ns x H' NY NN en s ⟨u,rfl,_,zs,gz,qz⟩ k1;exists #[u,zs,rfl,.inl (bY.of gz),λl1 ZK=>?_];show k1 _ _ (aL.new ZK) #[l1,rfl,s.17 ZK,zs,aN,bv (λ_ _ z=>z.10 (aL.new ZK)) qz]
 rintro P! H1 rq1 hr1 s1 g1 ZY _E;rw[ee] at ZY _E;have G1:bw K H H1 rq1 pt:=#[P!,g1,ZY,fW _E];exists dj λsm0 H2 s2 nf gf=>?_
 have ZM:=s1.4 s2;exists #[(),(),?_];refine dM (n:=tt) (λt σ' H'=>aL H H'/\∃rq sm y,σ'=[some (.ref r),some (.int tt),some (.ref rq),some (.ref sm),y]/\H sm=none/\bw K H H' sm (Y4 mv pt t)/\bw K H H' rq (pt.11 (eU mv t))) #[ZM,rq1,sm0,_,rfl,s1.17 nf,#[[],gf,.nil,λz=>nomatch z],by rw[show pt.11 (eU mv 0)=pt from ee pt];show G1.10 s2] ?_ ?_
 ·rintro t σ' H' ht ⟨s',rq,sm,y,rfl,nsm,Gs,Gq⟩;obtain us|gu|pu|_:=id Gs;obtain zs|gz|qz|_:=id Gq;have lz:=qz.9;rw[af] at lz;have lu:=pu.9;rw[iK] at lu;have lb:t*pt.9<=20*4:=aE () i4;exists lW gu gz kX λcc H3 s3 nc gc=>?_
  have ek:Y4 mv pt (t+1)=Y4 mv pt t++pt.11 (eU mv t):=by
   rw[<- pH,z7,uF,pH];simp
  have Gc:bw K H H3 cc (Y4 mv pt (t+1)):=by
   rw[ek];show #[_,gc,bv (λ_ _ z=>cR.same z s3) (cf pu qz),fW #[H',nc,cf pu qz]]
  have Zv:=s'.4 s3;have g3:=Zv _ _ g;exists #[#[_,bY.of (s3 _ _ gz)],?_];refine cP (K:=K) (F:=cR K H) (cR K H) (gF mv) (s3 _ _ gz) (bv (λ_ _ z=>cR.same z s3) qz) (by rw[af];lia) (λa b=>a.10 b) (λa b=>a.10 b) ?_ ?_
  ·rintro i ns v Ha NY NN en sa ⟨u,rfl,_,Ru⟩ k1;have mn:=av en;obtain y0|hy0|rfl:=ao.mp mn;have wy:=D.pw y0 hy0;have ga:=sa _ _ g3;exists #[m,u,H0,mv,_,rfl,(Gm.10 Zv).10 sa,Ru,(),by rw[rG wy];lia,λxs hx=>#[by rw[D.mw xs hx,rG wy],((AF.row D.mw D.pw y0 hy0).A! D.mw wy (show t<=tt by lia)).1 xs hx],λz Hj nz sj Rz=>k1 _ _ sj #[z,rfl,Zv.17 (sa.17 nz),Rz]]
  ·rintro ys Hb rr hrr sb gb prb nxb;have e:(pt.11 (eU mv t)).11 (gF mv)=pt.11 (eU mv (t+1)):=by rw[b7];rfl
   rw[e] at prb nxb;show #[Zv.4 sb,rr,cc,_,rfl,s'.17 nc,Gc.10 sb,ys,gb,prb,fW nxb]
 ·rintro σ' H' ⟨s',rq,sm,y,rfl,nsm,Gs,Gq⟩;exists k sm H' nsm s' Gs
theorem DS:sC ["_law_parts_here","_law_row_here"] 2 tP:=by walk_at "d"
theorem Eg (T:Txt K mg Z) (ac:bd P):T.nU.o P w base 4 (Kz K):=by
 refine T.nU.F.k DS ?_;walk_at "i";obtain r|a|H0|mv|pt|lk|z|rfl|PQ|D|Rz|lz|ff|k:=h;refine #[_,(aD (aW (cg ["_law_j"] ["_law_row_here","_law_parts_here"] [1,0] (cz rfl T.32 (dg (bH aY (by rfl) T.36 aT (dg cV)))) (λ_=>(eN 0)) (λ_=>cp) (λ_=>(cN (ui T ac) hr T.ko (cX cV (cg ["_law_some"] ["_law_j"] [0] (wO K (a7 (nZ K (by rfl)) eI aw)) (λ_=>(eN 0)) (λ_=>cp) (λ_=>(a7 (iw K (by rfl)) b9 cV))))))))),?_];left
 have d8:=D.n8;obtain m|p|l|gt|mn|pn|ln|Gm|Gp|Gl:=id PQ;obtain um|gm|qm|_:=id Gm;obtain uz|gz|qz:=id Rz;have lum:=qm.9;have luz:=qz.9;exists #[_,_,rfl,.inl (bY.of gz),?_];rw[<- luz,lz];exists #[(),(),?_];refine iE (n:=mv.9) (cG K) (λj=>bT (mv.11 λxs=>xs.3 j 0) z) () (λa b=>a.10 b) ?_ ?_
 ·rintro j H' NY NN hj s' k1;have gt':=s' _ _ gt;exists #[#[_,bY.of (s' _ _ gm)],?_];refine cP (K:=K) (as:=mv) (F:=cR K H0) (cG K) (λxs=>xs.3 j 0) (s' _ _ gm) (bv (λ_ _ y=>cR.same y s') qm) () (λh s=>h.10 s) (λh s=>h.10 s) ?_ ?_
  ·rintro i xs x H2 NY2 NN2 ex s2 ⟨u,rfl,_,zs,gzs,qzs⟩ k2;have lx:=D.mw xs (av ex);have lzs:=qzs.9;obtain w|v|e1|e2|_|nv:=fI qzs (i:=j) ();exists cK (bY.of gzs) (fw e2) ?_;refine k2 _ _ (aL.refl _) ?_;rw[aa,e1];show nv
  rintro ys H2 c nc s2 gc pc _;walk_at "w";have mc:(mv.11 λxs=>xs.3 j 0)∈aK mv mv.9:=av (Dx hj);refine #[a,c,z,_,rfl,Rz.10 (s'.4 s2),#[ys,gc,pc],by rw[af,lz],(),(ff _ mc).19,λq H3 s3 N3=>?_];refine k1 _ _ (s2.4 s3) ?_;rw[yL];show N3
 rintro ys H2 q nq s2 gq pq _;refine k q H2 nq s2 #[ys,gq,?_];have e:((aK mv mv.9).11 λys=>bT ys z)=(W0 mv.9).11 λj=>bT (mv.11 λxs=>xs.3 j 0) z:=by unfold aK;rw[b7];rfl
 rw[e];show pq
theorem iC:sC ["_law_parts_here","_law_steps_here","_law_rows","_law_some","_law_turn"] 2 rj:=by walk_at "d"
theorem BP (T:Txt K mg Z) (ac:bd P):T.mJ.o P w base 5 (Ks K):=by
 refine T.mJ.F.k iC ?_;walk_at "i";obtain r|tt|H0|mv|pt|lk|rfl|hT|PQ|D|AF|k:=h
 refine #[_,(ay (jq 2 ["_law_row_here"] [] [] iC.nd rfl rfl (cA (a7 b6 b9 aw)) (λ_=>(eN 0)) (λ_=>cp) (λ_=>(fQ (iF K (by rfl)) (by rfl) T.31 XQ (dg b9))))
  (ay (eT 3 iC.nd (dW gA))
  (ay (eE XA rfl (cz rfl T.32 (dg cV)) (eN 4 iC.nd)
   (ay (eT 3 iC.nd (bS l8 jH eI))
  (aD (jq 2 ["_law_row_here"] ["_law_parts_here"] [0] iC.nd rfl rfl (cA eI) (λ_=>(eN 0)) (λ_=>cp) (λ_=>(cN (Eg T ac) hr T.nU (cX cV b9)))))))
  (aD (aW jH))))),?_]
 left
 have d1:=D.n8;have i4:=D.o4;have lt:(aK mv mv.9).9=mv.9:=aU;have DT:=D.turn;have mwT:=DT.mw;have pwT:=DT.pw;obtain m|p|l|g|n1|n2|n3|Gm|Gp|Gl:=id PQ;obtain up|gp|qp|_:=id Gl;have lup:=qp.9;exists #[#[_,bY.of gp],?_];refine cP (K:=K) (F:=cR K H0) (cR K H) id gp qp () (λa b=>a.10 b) (λa b=>a.10 b) ?_ ?_
 ·rintro i ns x H' NY NN en s ⟨u,rfl,_,zs,gz,qz⟩ k1;exists #[u,zs,rfl,.inl (bY.of gz),λl1 ZK=>?_];show k1 _ _ (aL.new ZK) #[l1,rfl,s.17 ZK,zs,aN,bv (λ_ _ z=>z.10 (aL.new ZK)) qz]
 rintro P! H1 rq1 hr1 s1 g1 ZY _E;rw[ee] at ZY _E;have G1:bw K H H1 rq1 lk:=#[P!,g1,ZY,fW _E];exists dj λsm0 H2 s2 nf gf=>?_
 have ZM:=s1.4 s2;exists #[(),(),?_];refine dM (n:=tt) (λt σ' H'=>aL H H'/\∃rq sm y,σ'=[some (.ref r),some (.int tt),some (.ref rq),some (.ref sm),y]/\H sm=none/\bw K H H' sm (Y4 (aK mv mv.9) lk t)/\bw K H H' rq (lk.11 (eU (aK mv mv.9) t))) #[ZM,rq1,sm0,_,rfl,s1.17 nf,#[[],gf,.nil,λz=>nomatch z],by rw[show lk.11 (eU (aK mv mv.9) 0)=lk from ee lk];show G1.10 s2] ?_ ?_
 ·rintro t σ' H' ht ⟨s',rq,sm,y,rfl,nsm,Gs,Gq⟩;obtain us|gu|pu|_:=id Gs;obtain zs|gz|qz|_:=id Gq;have lz:=qz.9;rw[af] at lz;have lu:=pu.9;rw[iK] at lu;have lb:t*lk.9<=20*4:=aE () i4;exists lW gu gz kX λcc H3 s3 nc gc=>?_
  have ek:Y4 (aK mv mv.9) lk (t+1)=Y4 (aK mv mv.9) lk t++lk.11 (eU (aK mv mv.9) t):=by
   rw[<- pH,z7,uF,pH];simp
  have Gc:bw K H H3 cc (Y4 (aK mv mv.9) lk (t+1)):=by
   rw[ek];show #[_,gc,bv (λ_ _ z=>cR.same z s3) (cf pu qz),fW #[H',nc,cf pu qz]]
  have Zv:=s'.4 s3;have g3:=Zv _ _ g;exists #[#[_,bY.of (s3 _ _ gz)],?_];refine cP (K:=K) (F:=cR K H) (cR K H) (gF (aK mv mv.9)) (s3 _ _ gz) (bv (λ_ _ z=>cR.same z s3) qz) (by rw[af];lia) (λa b=>a.10 b) (λa b=>a.10 b) ?_ ?_
  ·rintro i ns v Ha NY NN en sa ⟨u,rfl,_,Ru⟩ k1;have mn:=av en;obtain y0|hy0|rfl:=ao.mp mn;have wy:=D.lw y0 hy0;have wyT:=pwT y0 hy0;exists #[r,u,H0,mv,pt,lk,_,rfl,(PQ.10 Zv).10 sa,D,Ru,by rw[rG wyT,lt],λxs hx=>((AF.row mwT pwT y0 hy0).A! mwT wyT (show t<=tt by lia)).1 xs hx,λz Hj nz sj Rz=>k1 _ _ sj #[z,rfl,Zv.17 (sa.17 nz),Rz]]
  ·rintro ys Hb rr hrr sb gb prb nxb;have e:(lk.11 (eU (aK mv mv.9) t)).11 (gF (aK mv mv.9))=lk.11 (eU (aK mv mv.9) (t+1)):=by rw[b7];rfl
   rw[e] at prb nxb;show #[Zv.4 sb,rr,cc,_,rfl,s'.17 nc,Gc.10 sb,ys,gb,prb,fW nxb]
 ·rintro σ' H' ⟨s',rq,sm,y,rfl,nsm,Gs,Gq⟩;exists k sm H' nsm s' Gs
theorem DP:sC ["_law_bag_here","_law_parts_here","_law_steps_here","_law_wide"] 4 tK:=by walk_at "d"
theorem Ef (T:Txt K mg Z) (ac:bd P):T.nR.o P w base 4 (FR K):=by
 refine T.nR.F.k DP ?_;walk_at "i";obtain b|r|tt|w|H0|mv|pt|lk|rfl|hT|w1|w2|hB|nb|PQ|D|k:=h;refine #[_,(aD (aW (cg ["_law_turn"] ["_law_bag_here","_law_parts_here","_law_wide"] [0,1,3] (cz rfl T.32 (dg eI)) (λ_=>(eN 0)) (λ_=>cp) (λ_=>(cN (uh T ac) hr T.jf (yw cV (bH (Ce K (by rfl)) (by rfl) T.36 aT (dg (a7 (nZ K (by rfl)) eI aw))) jH)))))),?_];left
 have i4:=D.i4;exists #[(),(),?_]
 refine yQ (n:=tt) (b:=b) (cR K H) (λxs=>xs.9=pt.9/\∀x∈xs,Dr (max w 6) x) hB () (λ{H' _H c x} a u B=>by
  obtain q|e|nq|R:=a;show #[q,e,nq,R.Y7 u B (λz=>hB.at (by rw[<- z];show nq))]) ?_ ?_
 ·rintro i Ha NY NN hi ua Ba k1;obtain m|p|l|g|n1|n2|n3|Gm|Gp|Gl:=PQ.Y7 ua hB nb;obtain up|gp|qp|_:=id Gp;have lup:=qp.9;exists #[_,_,rfl,.inl (bY.of gp),?_];rw[<- lup];exists #[b,pt.9,w,rfl,Ba,(),w1,(),λq xs Hb nq R lx dx Bb ub=>?_];show k1 _ xs _ ub Bb #[lx,dx] #[q,rfl,ua.17 Ba nq,R]
 ·rintro ys cs Hz t ht uz Bz gz lc hc prz nx;show k t cs Hz ht #[ys,gz,prz,fW nx] lc hc Bz uz
theorem jI:sC ["_law_bag_here","_law_parts_here","_law_bottoms","_law_row_here"] 2 rh:=by walk_at "d"
theorem BN (T:Txt K mg Z) (ac:bd P):T.mH.o P w base 2 (CC K):=by
 refine T.mH.F.k jI ?_;walk_at "i";obtain b|r|H0|mv|pt|lk|rfl|hB|nb|PQ|D|sz|k:=h
 refine #[_,(ay (eT 2 jI.nd (dW (dg aw)))
  (ay (eE XA rfl (cA (bS l8 (a7 b6 cV aw) (a7 b6 cV aw))) (eN 3 jI.nd)
   (aD (eT 2 jI.nd (bS l8 eI (cg ["_law_one"] [] [] (cA jH) (λ_=>(eN 0)) (λ_=>cp) (λ_=>(bS gB (a7 (nZ K (by rfl)) b9 aw) (bS c7 (bS (jK rfl jI rfl rfl rfl ac (vg hr)) (bH xB (by rfl) T.abs YB (dg (a7 (nZ K (by rfl)) b9 aw))) aw) aw))))))))
  (ay (dr (bE wZ (bH (MI rfl) (by rfl) T.max PyProof.Rows.boot_max (dg eI)) aw (bR _)) (aD (aW (cN (bF T ac) hr T.bc (cX b9 aw)))) cy)
  (ay (dr (bE wZ (bH aY (by rfl) T.36 aT (dg (a7 b6 cV aw))) aw (bR _)) (aD (aW (a7 ck (dW (cX (cN (bF T ac) hr T.bc (cX b9 aw)) (bH aY (by rfl) T.36 aT (dg (a7 b6 cV aw))))) (cN (bF T ac) hr T.bc (cX b9 aw))))) cy)
  (ay (dr (PW.pt (lX (bE t9 (bH aY (by rfl) T.36 aT (dg (a7 b6 cV aw))) aw (bR _)) (nJ (bE gN (cN (bF T ac) hr T.bc (cX b9 aw)) aw (bR _))))) (aD (aW (cN (bF T ac) hr T.bc (cX b9 aw)))) cy)
  (aD (aW (cN (bF T ac) hr T.bc (cX b9 (bS gB aw (bH aY (by rfl) T.36 aT (dg (a7 b6 cV aw))))))))))))),?_]
 left
 have d8:=D.n8;have i4:=D.i4;obtain m|p|l|g|n1|n2|n3|Gm|Gp|Gl:=id PQ;obtain um|gm|qm|_:=id Gm;obtain up|gp|qp|_:=id Gp;have lum:=qm.9;have lup:=qp.9;exists dj λbl0 H1 s1 nbl g1=>?_
 have g':=s1 _ _ g;exists lW (s1 _ _ gm) (s1 _ _ gp) kX λcc H2 s2 nc gc=>?_
 have ZM:=s1.4 s2;have qc:Xw (cR K H0 H2) (mv++pt) (um++up):=bv (λ_ _ z=>cR.same z ZM) (cf qm qp)
 have wc:∀xs∈mv++pt,xs.9=mv.9:=λxs hx=>by
  rcases aA.mp hx with hx | hx
  ·show D.mw xs hx
  ·show D.pw xs hx
 have lc:(mv++pt).9=(um++up).9:=qc.9;rw[ax,ax] at lc;exists #[#[_,bY.of gc],?_];refine oR (K:=K) (a:=cc) (xs:=um++up) (λi σ' H'=>aL H2 H'/\∃bl ns y,σ'=[some (.ref b),some (.ref r),some (.ref bl),y]/\H' bl=some (.lst (ns.11 V.int))/\1<=ns.9/\ns.9<=1+i*8/\∀j xs,j < i->(mv++pt)[j]?=some xs->∀x∈xs,Vm x∈ns) #[aL.refl _,bl0,[1],_,rfl,s2 _ _ g1,(),(),λj xs h=>absurd h (fe _)] (λi σ' H' _ #[e,_]=>bY.of (e _ _ gc)) ?_ ?_
 ·rintro i v σ' H' hv ⟨e,bl,ns,y,rfl,gb,b1,b2,hn⟩;obtain xs|exs|u|rfl|_|zs|gz|qz:=dd qc hv;have mx:=av exs;have wx:=wc xs mx;have hi:i < (um++up).9:=(aI.mp hv).1;rw[ax] at hi;exists #[#[_,bY.of (e _ _ gz)],?_];refine cP (K:=K) (F:=cG K) (λ_ c x=>x=V.int (Vm c)) id (e _ _ gz) (bv (λ_ _ z=>z.10 e) qz) () (λa b=>a.10 b) (λa _=>a) ?_ ?_
  ·rintro j c x Ha NY NN ec sa ⟨pp,rfl,hp⟩ k1;have mc:=av ec;have szc:=sz xs mx c mc;walk_at "w"
   have e1:(if (nm c).1 < 0 then -(nm c).1 else (nm c).1)=(c.num.15:Int):=by
    change (if c.num < 0 then -c.num else c.num)=_
    split <;> lia
   have e2:(c.num.15:Int).fdiv 1000=(c.num.15:Int) / 1000:=cI _ ();rw[e1];refine gL (show qK _ _ from #[(),bQ (show (1000:Int).15 < 2^20 by decide) (ak () ())]) ?_;rw[e2];exists k1 _ _ (aL.refl _) rfl
  rintro ys Hb cl _p sb gcl V! _
  have ey:ys=(xs.11 Vm).11 V.int:=by
   rw[ee] at V!;rw[b7];show CT V!
  have ly:=V!.9;rw[af] at ly;have gbb:=sb _ _ gb;rw[ey] at gcl;exists lW gbb gcl (c6 (du (by rw[af,af,af];lia))) λc2 Hc sc nc2 gc2=>?_
  rw[<- bo] at gc2;refine #[(e.4 sb).4 sc,c2,ns++xs.11 Vm,_,rfl,gc2,by rw[ax];lia,by rw[ax,af];lia,λj ZC hj ej x hx=>?_];rcases be j i with z | z
  ·show cT _ (hn j ZC z ej x hx)
  ·have:j=i:=()
   subst this;rw[exs] at ej;cases ej;show aX _ (ao.mpr #[x,hx,rfl])
 ·rintro σ' H' ⟨e,bl,ns,y,rfl,gb,b1,b2,hn⟩;have e0:=ZM.4 e;have B':=hB.10 e0;have PQ':=PQ.10 e0;obtain m'|p'|l'|g2|_|_|_|Gm'|_|_:=id PQ'
  have em:m'=m:=by
   have:=e0 _ _ g;rw[this] at g2;cases g2;rfl
  subst em;obtain um'|gm'|qm'|_:=id Gm';have aaS:=qm'.9;have u0:di b H H':=e0.Y7;exists #[bl,ns,rfl,bY.of gb,(),λM hM agm=>?_];exists jh (λh=>?_) (λh=>?_)
  ·exists #[b,4,rfl,B',(),(),λv H3 v0 v1 B3 u3=>?_];obtain v|rfl:=cY v0;show k v H3 #[(),.inl ()] B3 (u0.4 u3)
  ·have M9:M<=9:=by rw[decide_eq_true_eq] at h;lia
   have sm:∀xs∈mv++pt,∀x∈xs,x.52<=9/\x.num.15 < 1000:=λxs hx x Y6=>by
    obtain j|hj|rfl:=aH hx;have:=hn j _ (by rw[ax,<- lum,<- lup];rw[ax] at hj;show hj) (ae hj) x Y6;show Sd (Int.le_trans (agm _ this) M9)
   exists #[_,_,rfl,.inl (bY.of gm'),?_];rw[<- aaS];exists jh (λh1=>?_) (λh1=>?_)
   ·have n5:5 < mv.9:=by have:=of_decide_eq_true h1;lia
    exists #[b,4,rfl,B',(),(),λv H3 v0 v1 B3 u3=>?_];obtain v|rfl:=cY v0;obtain m3|p3|l3|g3|_|_|_|Gm3|_|_:=PQ'.Y7 u3 B' nb;obtain um3|gm3|qm3|_:=id Gm3;have aaR:=qm3.9;exists #[_,_,rfl,.inl (bY.of gm3),?_];rw[<- aaR];exists dj λl4 H4 s4 n4 g4=>?_
    exists #[b,2,rfl,B3.10 s4,(),(),λv2 H5 v20 v21 B5 u5=>?_];have g5:=u5.37 (λz=>B3.at (by rw[<- z];show n4)) g4;obtain x|ex|mx|_:=mU (xs:=[V.int (v:Int),V.int (mv.9:Int)]) v20 (by simpa using v21);exists cK (bY.of g5) ex ?_;have u05:=(u0.4 (u3.10 s4)).4 u5;simp only[aM,bf,or_false] at mx;rcases mx with rfl | rfl
    ·show k v H5 #[(),.inl ()] B5 u05
    ·show k mv.9 H5 #[(),.inr #[sm,λ_=>aj _,λ_ _=>lG _]] B5 u05
   ·have n5:mv.9<=5:=by rw[decide_eq_true_eq] at h1;lia
    exists #[_,_,rfl,.inl (bY.of gm'),?_];rw[<- aaS];have last:∀(Hx:Hp),jE Hx b->di b H Hx->∀(v:Nat),v < 2+mv.9->Q (.int v) Hx:=λHx Bx ux v hv=>k v Hx #[(),.inr #[sm,λz=>(),λ_ _=>()]] Bx ux
    exists jh (λh2=>?_) (λh2=>?_)
    ·have n3':mv.9 < 3:=by have:=of_decide_eq_true h2;lia
     exists #[b,8,rfl,B',(),(),λv H3 v0 v1 B3 u3=>?_];exists jh (λh3=>?_) (λh3=>?_)
     ·exists #[b,13,rfl,B3,(),(),λv4 H4 v40 v41 B4 u4=>?_];obtain v4|rfl:=cY v40;show k v4 H4 #[(),.inr #[sm,λz=>(),λz _=>()]] B4 ((u0.4 u3).4 u4)
     ·obtain m3|p3|l3|g3|_|_|_|Gm3|_|_:=PQ'.Y7 u3 B' nb;obtain um3|gm3|qm3|_:=id Gm3;have aaR:=qm3.9;exists #[_,_,rfl,.inl (bY.of gm3),?_];rw[<- aaR];walk_at "w";rw[show ((2:Int)+(mv.9:Int))=((2+mv.9:Nat):Int) by lia];refine #[b,2+mv.9,rfl,B3,(),(),λv4 H4 v40 v41 B4 u4=>?_];obtain v4|rfl:=cY v40;show last H4 B4 ((u0.4 u3).4 u4) v4 ()
    ·exists #[_,_,rfl,.inl (bY.of gm'),?_];rw[<- aaS];walk_at "w";rw[show ((2:Int)+(mv.9:Int))=((2+mv.9:Nat):Int) by lia];refine #[b,2+mv.9,rfl,B',(),(),λv4 H4 v40 v41 B4 u4=>?_];obtain v4|rfl:=cY v40;show last H4 B4 (u0.4 u4) v4 ()
theorem ig:sC ["_law_parts_here","_law_state","_law_puts_here","_law_move_here","_law_put","_law_look","_law_found","_law_k"] 3 tQ:=by walk_at "d"
theorem Eh (T:Txt K mg Z) (ac:bd P):T.nV.o P w base 5 (FV K):=by
 refine T.nV.F.k ig ?_;walk_at "i";obtain r|s0|u0|H0|mv|pt|lk|st|pu|rfl|PQ|D|hs|hu|l1|l2|NX|k:=h
 refine #[_,(ay (gM b9 (yt rfl (dn (eN 3 ig.nd) (dn (eN 4 ig.nd) (dn (eN 5 ig.nd) mC)))))
  (ay (eT 6 ig.nd (cN (rN T ac) hr T.j9 (cX jH cV)))
  (ay (eE XA rfl (cz rfl T.32 (dg (bH aY (by rfl) T.36 aT (dg wH)))) (eN 7 ig.nd)
   (aD (eT 6 ig.nd (cN (xg T ac) hr T.kT (cX sU (cN (oK T ac) hr T.jg (cX (a7 ck eI CQ) (a7 ck wH CQ))))))))
  (aD (aW sU))))),?_]
 left
 obtain m|p|l|g|n1|n2|n3|Gm|Gp|Gl:=id PQ;have d1:=D.n8;have d2:=D.i4;exists #[m,s0,H0,mv,st,rfl,Gm,hs,(),(),λxs hx=>#[by rw[D.mw xs hx,l1],NX.f2 xs hx],λf H1 nf s1 R1=>?_];obtain ps|gp|qp|_:=Gp.10 s1;have lp:=qp.9;exists #[_,_,rfl,.inl (bY.of gp),?_];exists #[(),(),?_];refine dM (n:=ps.9) (λkk σ' H'=>∃(f:Addr) (x:Option V),σ'=[some (.ref r),some (.ref s0),some (.ref u0),some (.ref m),some (.ref p),some (.ref l),some (.ref f),x]/\H f=none/\aL H1 H'/\dS K H' f (nextK mv pt st pu kk)) #[f,none,rfl,nf,aL.refl _,by rw[Jp];show R1] ?_ ?_
 ·rintro kk σ' H' hk ⟨f',x,rfl,nf',s',R'⟩;have kp:kk < pt.9:=()
  have ku:kk < pu.9:=()
  obtain zs|gz|qz:=(hu.10 s1).10 s';have lz:=qz.9;obtain vu|eu|nu:=GW qz ku;obtain row|vr|er|ev|mr|q|rfl|_|Rq:=fI qp kp
  have er':pt[kk]=row:=by
   rw[ae kp] at er;show cm er
  have eu':pu.3 kk 0=pu[kk]:=by rw[aa,ae ku];rfl
  have mu:pu.3 kk 0∈pu:=getD_mem ku;exists cK (bY.of gz) eu ?_;exists cK (bY.of (s' _ _ gp)) (fw ev) ?_;exists #[vu,q,_,row,rfl,nu,NX.su _ mu,Rq.10 s',by rw[D.pw row mr];lia,NX.sp row mr,λr1 H2 n1' s2 R2=>?_];exists #[f',r1,_,_,rfl,R'.10 s2,R2,by rw[af,kh,D.pw row mr],by rw[kh];lia,NX.part kk,λy hy=>?_,λr2 H3 n2' s3 R3=>?_]
  ·obtain y'|_F|rfl:=ao.mp hy;show NX.mul _ mu row mr y' _F
  ·exists #[s1.17 (s'.17 (s2.17 n2')),(s'.4 s2).4 s3,?_];have e:=Jq (st:=st) (pu:=pu) (λxs hx=>by rw[D.mw xs hx,l1]) kp ku (by rw[er'];show D.pw row mr);rw[er',<- eu'] at e;rw[<- e];show R3
 ·rintro σ' H' ⟨f',x,rfl,nf',s',R'⟩;rw[uJ () ()] at R';exists k f' H' nf' (s1.4 s') R'
theorem jJ:sC ["_law_parts_here","_law_puts_here","_law_state","_law_looks_here","_law_row_here"] 2 rD:=by walk_at "d"
theorem vf (T:Txt K mg Z) (ac:bd P):T.jQ.o P w base 6 (KD K):=by
 refine T.jQ.F.k jJ ?_;walk_at "i";obtain r|p|H0|H1|mv|pt|lk|pus|rfl|PQ|D|GP|p100|wp|NX|LF|k:=h
 refine #[_,(ay (jq 2 ["_law_row_here"] [] [] jJ.nd rfl rfl (cA (a7 b6 b9 aw)) (λ_=>(eN 0)) (λ_=>cp) (λ_=>(dD (cX aw aw))))
  (ay (eT 3 jJ.nd (dW gA))
  (ay (eE XA rfl (cA cV) (eN 4 jJ.nd)
   (ay (eT 2 jJ.nd (cN (Eh T ac) hr T.nV (yw b9 eI wH)))
  (aD (kI (wV de dB dA ki jH (dg (cN (rN T ac) hr T.j9 (cX (a7 b6 b9 aw) eI))))))))
  (aD (aW jH))))),?_]
 left
 obtain m0|p0|l0|gr|_|_|_|Gm|Gp|Gl:=id PQ;obtain ms|gm|qm|_:=id Gm;obtain pv|z!|o!|_:=id GP;have lm:=qm.9;have lpv:=o!.9;have n8:=D.n8;have o4:=D.o4;exists #[#[_,bY.of gm],?_];refine cP (K:=K) (as:=mv) (F:=cR K H0) (cG K) (λ_=>0) gm qm () (λa b=>a.10 b) (λa b=>a.10 b) ?_ ?_
 ·rintro j xs y Ha NY NN ex sa _ k1;exists cO λt Hb sb gb=>?_
  show k1 _ _ sb (cG.mk (q:=0) gb rfl)
 rintro P! H2 IT nst s2 g2 I! _;have e0:mv.11 (λ_=>(0:Rat))=K0 mv.9 0:=by simp [List.map_const']
 rw[e0] at I!;exists dj λfl H3 s3 nfl gfl=>?_
 have sf0:IT≠fl:=λz=>by rw[z,nfl] at g2;cases g2
 have Zv:=s2.4 s3;exists #[#[_,bY.of (Zv _ _ z!)],?_];refine oR (K:=K) (a:=p) (xs:=pv) (λi σ' H'=>aL H2 H'/\∃st ys y,σ'=[some (.ref r),some (.ref p),some (.ref st),some (.ref fl),y]/\st≠fl/\dS K H' st (nH mv pt (K0 mv.9 0) pus i)/\H' fl=some (.lst ys)/\Xw (Xp K H fl H') (MY mv pt lk pus i) ys) #[s3,IT,[],_,rfl,sf0,dS.same #[P!,g2,I!] s3,gfl,.nil] (λi σ' H' _ #[s,_]=>bY.of (s _ _ (s2 _ _ z!))) ?_ ?_
 ·rintro i v σ' H' hv ⟨sH,st,ys,y,rfl,nst',Rs,gys,pr⟩;obtain pu|epu|pq|rfl|_|Rp:=dd o! hv;have mp:=av epu;have il:=(aI.mp epu).1;have s0:=s2.4 sH;have gr':=s0 _ _ gr;exists #[r,st,pq,H0,mv,pt,lk,_,pu,rfl,PQ.10 s0,D,Rs,Rp.10 s0,nG bB (),wp pu mp,NX i pu epu,λr8 H8 n8' s8 R8=>?_];rw[<- mR epu] at R8;have s08:=s0.4 s8;have abj:=s8 _ _ gys;have r8f:r8≠fl:=λz=>by rw[z,gys] at n8';cases n8'
  have gr8:=s08 _ _ gr;have lys:=pr.9;rw[show (MY mv pt lk pus i).9=i by unfold MY;rw[af,bg]] at lys;exists #[.inl #[rfl,_,bY.of abj],?_];exists #[l0,r8,H0,lk,_,rfl,Gl.same s08,R8,(),by rw[nG bB ()];lia,λxs hx=>#[by rw[D.lw xs hx,nG bB ()],LF (i+1) () xs hx],λr9 H9 n9 s9 R9=>?_];have aah:=s9 _ _ abj;have r9f:r9≠fl:=λz=>by rw[z,abj] at n9;cases n9
  have s89:=s8.4 s9;exists ke aah (du ()) ?_;refine #[(sH.4 s89).50 nfl,r8,_,_,rfl,r8f,(R8.10 s9).Zc aah r8f,aN,?_];rw[Rn];show cf (bv (λ_ _ #[q,e,nq',ne,Rq]=>#[q,e,nq',ne,(Rq.10 s89).Zc aah ne]) pr) (.cons #[r9,rfl,s08.17 n9,r9f,R9.Zc aah r9f] .nil)
 ·rintro σ' H' ⟨sH,st,ys,y,rfl,_,_,gys,pr⟩;exists k fl H' (s2.17 nfl) (s2.4 sH) #[ys,gys,?_,λz=>?_]
  ·rw[lpv];show bv (λ_ _ #[q,e,nq',_,Rq]=>#[q,e,nq',Rq]) pr
  ·obtain _|_|q|e|_|ne|_:=dE pr z;cases e;show ne rfl
theorem qS:sC ["_law_script","_law_bag_here","_law_parts_here","_law_wide","_law_system_here","_law_many","_law_told","_law_own","_law_puts_here"] 1 NV:=by walk_at "d"
theorem UC (T:Txt K mg Z) (ac:bd P):uC P w K mg base MW 13 Z.To Z.Tj ["_law_script"] (Ai K):=by
 refine T.Tu.k qS ?_;walk_at "i";obtain a0|ns|rfl|hS|Za|k:=h
 refine #[_,(ay (eT 1 qS.nd (cN (GD T ac) hr T.pC (dg b9)))
  (ay (gM (cN (AM T ac) hr T.kR (dg cV)) (yt rfl (dn (eN 2 qS.nd) (dn (eN 3 qS.nd) mC))))
  (ay (eT 4 qS.nd (cN (Ej T ac) hr T.nX (dg eI)))
  (ay (eT 5 qS.nd (cN (Ed T ac) hr T.nP (dg eI)))
  (ay (eT 6 qS.nd (cN (uf T ac) hr T.kn (dg wH)))
  (ay (dr (ng (lY (cN (xh T ac) hr T.iI (MX sU vM (bH aY (by rfl) T.36 aT (dg (a7 b6 eI aw))) (bH aY (by rfl) T.36 aT (dg (a7 b6 eI aw))))))) (aD (aW sJ)) cy)
  (ay (eT 7 qS.nd (cN (js T ac) hr T.d7 (dg sU)))
  (ay (dr (bE (yx (BS hr)) CQ (cN (js T ac) hr T.d7 (dg (cN (w5 T ac) hr T.kN (dg (cN (sN T ac) hr T.iu (dg wH)))))) (bR _)) (aD (aW sJ)) cy)
  (ay (dr (PW.pt (pe (bE t8 (bH aY (by rfl) T.36 aT (dg (cN (rQ T ac) hr T.jz (cX (cN (BR T ac) hr T.mL (cX CQ vM)) vM)))) vM (bR _)) (kH (bE t8 (bH aY (by rfl) T.36 aT (dg (cN (rQ T ac) hr T.jz (cX (cN (BP T ac) hr T.mJ (cX CQ vM)) vM)))) vM (bR _))))) (aD (aW sJ)) cy)
  (ay (eT 8 qS.nd (cN (Ef T ac) hr T.nR (MX cV eI (bS gB aw (cN (BN T ac) hr T.mH (cX cV eI))) jH)))
  (ay (dr (PW.pt (pe (bE (yx (BS hr)) (cN (vf T ac) hr T.jQ (cX CQ Jf)) (cN (vf T ac) hr T.jQ (cX eI Jf)) (bR _)) (kH (bE t8 (dq (cN (uf T ac) hr T.kn (dg sU)) rfl) vM (bR _))))) (aD (aW sJ)) cy)
  (aD (aW (yv (kJ (Ji (BS hr)) (cN (js T ac) hr T.d7 (dg (cN (uf T ac) hr T.kn (dg wH)))) CQ (bR _)) (AG (kJ (Ji (BS hr)) (cN (js T ac) hr T.d7 (dg wH)) eI (bR _))))))))))))))))),?_]
 left
 exists #[a0,ns,rfl,hS,Za,λb H0 hb0 B0 s0=>?_];exists #[b,rfl,B0,λt1 r w mv pt lk H1 g1 P1 D b! F RG RL w1 w2 B1 u1=>?_];have n8:=D.n8;have i4:=D.i4;have o4:=D.o4;have et:(aK mv mv.9).9=mv.9:=aU
 have w3:9 < w->mv.9<=2:=λh=>by
  rcases RG with ⟨w9,_⟩ | ⟨w9,_⟩ | ⟨_,n2,_⟩
  ·lia
  ·lia
  ·show n2
 obtain m0|p0|l0|gr|nm0|np0|nl0|Gm|Gp|Gl:=id P1;obtain ms|gm|qm|_:=id Gm;have lm:=qm.9;obtain AD|SK|LK:=OO RG D;obtain ADt|SKt|LKt:=OO RL D.turn;rw[et] at ADt LKt;obtain e8|V8:=KQ (T:=mv.9) RG D #[(),λh=>by have:=w3 h;lia,λ_ h=>h,λh=>()];obtain a|c|KF|_:=V8.un.kf;obtain e9|V5:=KQ (T:=mv.9) RL D.turn (by rw[et];show #[(),λh=>by have:=w3 h;lia,λ_ h=>h,λh=>()]);have UF:=V5.un;clear V5 V8
 have lK:(Y4 mv pt mv.9).9<=100:=by
  rw[iK];show ai (aE n8 i4) ()
 have lKt:(Y4 (aK mv mv.9) lk mv.9).9<=100:=by
  rw[iK];show ai (aE n8 o4) ()
 exists #[r,H0,mv,pt,lk,rfl,P1,D,F.sf,λx H2 nx s2 S2=>?_];obtain SH|LH:=OY RG RL D b!;exists #[r,SH,H0,mv,pt,lk,rfl,P1.10 s2,D,TB RG D F (),LH,λZZ pz H3 s3 RZ=>?_];obtain ⟨ν,py,SM'⟩|_:=Qo RG D F;have SM:=SM' KF;exists #[x,a,c,ν,py,H1,mv,pt,lk,rfl,S2.10 s3,SM,λz R ps Ro po U pu H4 RR RO RN s4 Sz=>?_];have TT:=oX.of D SM RR RO RN;obtain ⟨A,eA⟩:∃A,stM mv R ps=A:=#[_,rfl];obtain ⟨P,eP⟩:∃P,FN mv pt R ps=P:=#[_,rfl];obtain ⟨L,eL⟩:∃L,Kl mv lk R ps=L:=#[_,rfl];rw[eA,eP,eL] at TT Sz;rw[eA,eL] at RO;rw[eA] at RN;obtain D1|l1|D2|l2|l3:=TT._t;have rk:=TT.agA RZ;obtain ⟨ν1,p1,G1,sz1⟩|wU|ν2|p2|G2|G!:=TT.gs RG RL F;have K2:=G2.kf D2.n8 G!;have K2T:=G2.turn.kf (by rw[aU];show D2.n8) G!;have LK:=λ{w T pus}=>TT.aat (w:=w) (T:=T) (pus:=pus)
 have st:=λ{ZZ pz} hz=>TT.Q! (Z:=ZZ) (pz:=pz) K2 hz
 have sn:=λ{ZZ pz} hz=>TT.seen (Z:=ZZ) (pz:=pz) K2T hz
 have lP2:(BA A P U pu).9=pt.9:=by rw[<- eP];unfold BA FN dw oO;simp
 have lL2:(DJ A L U pu).9=lk.9:=by rw[<- eL];unfold DJ Kl dw;simp
 obtain ⟨A2,eA2⟩:∃A2,j6 A U pu=A2:=#[_,rfl];obtain ⟨P2,eP2⟩:∃P2,BA A P U pu=P2:=#[_,rfl];obtain ⟨L2,eL2⟩:∃L2,DJ A L U pu=L2:=#[_,rfl];rw[eA2] at rk l2 l3;rw[eA2,eP2] at st K2;rw[eA2,eL2] at sn K2T;rw[eA2,eP2,eL2] at Sz D2 G2;rw[eP2] at lP2;rw[eL2] at lL2;have e2:(aK A2 A2.9).9=A2.9:=aU;have SM2:=G2.sm D2 G! λ_ _ hz=>st hz
 have AD2:=(G2.wdk D2 G!).2;obtain Sq|LW2:=G2.X! D2 G!;have AT2:=(G2.turn.wdk D2.turn G!).2;obtain Sr|LT2:=G2.turn.X! D2.turn G!;rw[e2] at AT2 LT2;have m8:=D2.n8
 have lk2:(Y4 A2 P2 A2.9).9<=100:=by
  rw[iK];show ai (aE m8 D2.i4) ()
 have lt2:(Y4 (aK A2 A2.9) L2 A2.9).9<=100:=by
  rw[iK];show ai (aE m8 D2.o4) ()
 rw[rk];have s24:=s3.4 s4;have P4:=(P1.10 s2).10 s24;obtain m4|p4|l4|gr4|_|_|_|_|Gp4|Gl4:=id P4;obtain pv|z!|o!|_:=id Gp4;obtain lv|glv|qlv|_:=id Gl4;have lpv:=o!.9;have llv:=qlv.9;exists #[_,_,rfl,.inl (bY.of z!),?_];exists #[_,_,rfl,.inl (bY.of glv),?_];exists #[z,H3,_,_,_,by rw[lP2,lL2,lpv,llv],Sz,D2,(G2.ok G!).1,(G2.ok G!).2.1,(G2.ok G!).2.2,λH5 s5=>?_];exists #[z,H3,_,_,_,rfl,Sz.same s5,λr2 H6 s6 Q2=>?_];have s26:=s24.4 (s5.4 s6);exists #[x,a,c,H1,mv,pt,lk,rfl,S2.10 s26,D,KF,λR' Zd h'=>(SM.st R' Zd h').1,λz1 R1 ps1 H7 RR1 s7 Sz1=>?_];obtain rfl|rfl:=RR.10 RR1;clear RR1;have ahc:jR K H6 H7 Z.Y0 z1 A P L:=by rw[<- eA,<- eP,<- eL];show Sz1
 exists #[z1,2970000,H6,A,P,L,rfl,ahc,D1,G1.ok sz1,G1.turn.un D1.turn sz1,λRx px Ux qx hx hy=>G1.A! D1 sz1 hx hy,λz2 Rx px Ux qx H8 hx hy s8 Sz2=>?_];obtain rfl|rfl:=RO.10 hx;obtain rfl|rfl:=RN.10 hy;clear hx hy;rw[eA2,eP2,eL2] at Sz2;have T!:=s7.4 s8;exists #[z2,H7,_,_,_,rfl,Sz2,λr3 H9 s9 Q3=>?_];have _J:=T!.4 s9;obtain x1|x2|x3|gx'|_|_|_|Gx1|Gx2|Gx3:=Q2.10 _J;obtain y1'|y2'|y3'|gy'|_|_|_|Gy1|Gy2|Gy3:=id Q3;exists #[_,_,OM oN oN oN,(_,_,_),(_,_,_),(),#[r2,_,_,_,rfl,nD.of gx',Gx1.30,Gx2.30,Gx3.30],#[r3,_,_,_,rfl,nD.of gy',Gy1.30,Gy2.30,Gy3.30],?_];rw[decide_eq_true rfl];exists #[r2,A2.9,H3,A2,P2,L2,rfl,(),Q2.10 _J,D2,AD2,λqa Ha na sa Ga=>?_];exists #[qa,A2.9,Sq,H9,_,rfl,Ga,lk2,(),cJ rfl D2.pw _,LW2,λla Z1 pz1 Hb nlb sb Gb RZ1 _=>?_];have k1:=st RZ1;obtain vb|gb|qb|_:=id Gb;have lvb:=qb.9;have lZ1:=RZ1.1;exists #[_,_,rfl,.inl (bY.of gb),?_];rw[show ((vb.9:Nat):Int)=(A2.9:Int) by lia];walk_at "w";rw[decide_eq_true rfl];walk_at "w";have s6b:=_J.4 (sa.4 sb);refine #[r2,A2.9,H3,A2,P2,L2,rfl,(),Q2.10 s6b,D2,AT2,λqc Hc nc sc Gc=>?_];exists #[qc,A2.9,Sr,Hb,_,rfl,Gc,lt2,(),cJ e2 (λxs hx=>D2.lw xs hx) _,LT2,λld Z2 pz2 Hd nld sd Gd RZ2 _=>?_];have k2:=sn RZ2;obtain vd|gd|qd|_:=id Gd;have lvd:=qd.9;have lZ2:=RZ2.1;exists #[_,_,rfl,.inl (bY.of gd),?_];rw[show ((vd.9:Nat):Int)=(A2.9:Int) by lia];walk_at "w";rw[decide_eq_true rfl];have s6d:=s6b.4 (sc.4 sd);have s2d:=s26.4 s6d;have s1d:=s2.4 s2d;have Bd9:=B1.10 s1d;have Pd:=P1.10 s1d;exists #[b,r,H0,mv,pt,lk,rfl,Bd9,B0.at,Pd,D,λxs hx=>?_,λT9 Hs stp Bs us=>?_]
 ·obtain M|W|M0|M4|W1|f1|f2|_:=F;rcases aA.mp hx with hx | hx
  ·show oP f1 M0 M4 W1 () xs hx
  ·show oP f2 M0 M4 W1 () xs hx
 have T12:=stp.1;exists #[b,r,2+T9,w,H0,mv,pt,lk,by simp,(),w1,w2,Bs,B0.at,Pd.Y7 us Bd9 B0.at,D,λp pus Hq np GP lp wp Bp up=>?_];obtain ⟨nx0,lf0⟩|nx2|lf2|lo:=LK RG RL F stp lp wp;rw[eA2,eP2] at nx2;rw[eA2,eP2,eL2] at lf2 lo;have _v:∀xs∈pus,xs.9=pt.9:=λxs hx=>(wp xs hx).1
 have uo:=us.4 up;have nb3:=(B1.10 (s2.4 s3)).at;have Q2q:=(Q2.10 s6d).Y7 uo Bd9 nb3;have Pq:=Pd.Y7 uo Bd9 B0.at;have Szq:=(Sz.same (s5.4 (s6.4 s6d))).Y7 uo Bd9 nb3;have Xq:=(S2.10 s2d).Y7 uo Bd9 B1.at;exists #[r2,p,H3,Hs,A2,P2,L2,pus,rfl,Q2q,D2,GP,(),λxs hx=>by rw[lP2];show _v xs hx,nx2,lf2,λdl He nd se Ge=>?_];exists #[r,p,H0,Hs,mv,pt,lk,pus,rfl,Pq.10 se,D,GP.10 se,(),_v,nx0,lf0,λdm Hf nd2 sf Gf=>?_];exists #[_,_,oN,_,_,(),(Ge.10 sf).30,Gf.30,?_];rw[decide_eq_true lo];have sef:=se.4 sf;exists #[z,ν2,p2+4,ν2,p2,H3,A2,P2,L2,rfl,Szq.10 sef,SM2,λz4 R4 ps4 Ro4 po4 U4 pu4 Hg RR4 RO4 RN4 sg S4=>?_];have ag:=(oX.of D2 SM2 RR4 RO4 RN4).again (st RR4) (λ_ _ hz=>sn hz) K2T;obtain dz|za|zb|zc|gz|_:=id S4;have seg:=sef.4 sg;exists #[z4,Z.Y0,dz,_,_,rfl,gz,T.Y1,T.Y9,fG,?_];walk_at "w";rw[ag,decide_eq_true rfl];exists #[x,a,c,ν,py,H1,mv,pt,lk,rfl,Xq.10 seg,SM,λz5 R5 ps5 Ro5 po5 U5 pu5 Hh RR5 RO5 RN5 sh S5=>?_];obtain rfl|rfl:=RR.10 RR5;rw[eA,eL] at RO5;obtain rfl|rfl:=RO.10 RO5;rw[eA] at RN5;obtain rfl|rfl:=RN.10 RN5;rw[eA,eP,eL,eA2,eP2,eL2] at S5;have S!:=seg.4 sh;exists #[z5,Hg,_,_,_,rfl,S5,λr5 Hi si Q5=>?_];have sei:=S!.4 si;obtain u1'|u2'|u3'|gu'|_|_|_|Gu1|Gu2|Gu3:=id Q5;obtain v1'|v2'|v3'|gv'|_|_|_|Gv1|Gv2|Gv3:=Q2q.10 sei;exists #[_,_,OM oN oN oN,(_,_,_),(_,_,_),(),#[r5,_,_,_,rfl,nD.of gu',Gu1.30,Gu2.30,Gu3.30],#[r2,_,_,_,rfl,nD.of gv',Gv1.30,Gv2.30,Gv3.30],?_];rw[decide_eq_true rfl];exists #[x,H1,mv,pt,lk,rfl,Xq.10 sei,λr6 Hj sj P6=>?_];obtain u4|u5|u6|gu6|_|_|_|Gu4|Gu5|Gu6:=id P6;obtain v4|v5|v6|gv6|_|_|_|Gv4|Gv5|Gv6:=Pq.10 (sei.4 sj);exists #[_,_,OM oN oN oN,(_,_,_),(_,_,_),(),#[r6,_,_,_,rfl,nD.of gu6,Gu4.30,Gu5.30,Gu6.30],#[r,_,_,_,rfl,nD.of gv6,Gv4.30,Gv5.30,Gv6.30],?_];rw[decide_eq_true rfl];show k _
end
theorem Wg {P:List Value->Prop} (h:P []):∀us:List Value,us.9=0->P us
 | [],_=>h
theorem Jv {P:List Value->Prop} {n:Nat} (h:∀x us,us.9=n->P (x :: us)):∀us:List Value,us.9=n+1->P us
 | x :: us,e=>h x us (Nat.succ.inj e)
theorem ln1 {P:List Value->Prop} (h:∀x0,P [x0]):∀us:List Value,us.9=1->P us:=Jv λx0=>Wg (h x0)
theorem ln2 {P:List Value->Prop} (h:∀x0 x1,P [x0,x1]):∀us:List Value,us.9=2->P us:=Jv λx0=>Jv λx1=>Wg (h x0 x1)
theorem ln3 {P:List Value->Prop} (h:∀x0 x1 x2,P [x0,x1,x2]):∀us:List Value,us.9=3->P us:=Jv λx0=>Jv λx1=>Jv λx2=>Wg (h x0 x1 x2)
theorem ln4 {P:List Value->Prop} (h:∀x0 x1 x2 x3,P [x0,x1,x2,x3]):∀us:List Value,us.9=4->P us:=Jv λx0=>Jv λx1=>Jv λx2=>Jv λx3=>Wg (h x0 x1 x2 x3)
theorem ln5 {P:List Value->Prop} (h:∀x0 x1 x2 x3 x4,P [x0,x1,x2,x3,x4]):∀us:List Value,us.9=5->P us:=Jv λx0=>Jv λx1=>Jv λx2=>Jv λx3=>Jv λx4=>Wg (h x0 x1 x2 x3 x4)
local macro_rules | `(tactic| walk_at "b") => `(tactic| (intro _ _ _ _ _ _; first | (refine ln1 ?_; intros; rfl) | (refine ln2 ?_; intros; rfl) | (refine ln3 ?_; intros; rfl) | (refine ln4 ?_; intros; rfl) | (refine ln5 ?_; intros; rfl)))
theorem all_mk {l:W.OpenLaw} {K:W.Frag} {e0 e1 e2 e3 e4 e5 e6 e7 e8 e9 e10 e11 e12 e13 e14 e15 e16 e17 e18 e19 e20 e21 e23 e24 e25 e26 e27 e28 e29 e30 e31 e32 e33 e34 e35 e36 e37 e38 e39 e40 e41 e42 e43 e44 e45 e46 e47 e48 e49 e50 e51 e52 e53 e54 e55 e56 e58 e59 e60 e61 e62 e63 e64 e65 e66 e67 e68 e69 e70 e71 e72 e73 e74 e75 e76 e77 e78 e79 e80 e81:T2}
 
  (X:K.In h) (G:h.Ns XE mg) (hfa:mg "law"=some (.ref fa)) (acL:l.prog.given.tree=none)
 (aC:Yy K XE "System"=some (some (.ref C)))
  (h0:Dh K "_law_bag" vL f0 e0)
  (h1:Dh K "_law_take" tH f1 e1)
  (h2:Dh K "_law_sizes" nI f2 e2)
  (h3:Dh K "_law_line" tU f3 e3)
  (h4:Dh K "_law_low" vJ f4 e4)
  (h5:Dh K "_law_sum" vH f5 e5)
  (h6:Dh K "_law_plus" tO f6 e6)
  (h7:Dh K "_law_prod" tL f7 e7)
  (h8:Dh K "_law_by" yk f8 e8)
  (h9:Dh K "_law_mixed" rB f9 e9)
  (h10:Dh K "_law_two_lines" lQ f10 e10)
  (h11:Dh K "_law_number" pW f11 e11)
  (h12:Dh K "_law_row" vI f12 e12)
  (h13:Dh K "_law_move" tS f13 e13)
  (h14:Dh K "_law_parts" rA f14 e14)
  (h15:Dh K "_law_system" pU f15 e15)
  (h16:Dh K "want_list" tz f16 e16)
  (h17:Dh K "is_whole" vF f17 e17)
  (h18:Dh K "common_divisor" lO f18 e18)
  (h19:Dh K "is_number" tG f19 e19)
  (h20:Dh K "is_row" As f20 e20)
  (h21:Dh K "copied_rows" pT f21 e21)
  (a22:XU K (.ref C) "__init__"=some (some (.ref f22))) (i22:W.isFn K (.ref f22)=true) (l22:K.13 f22=some #[oc22,od22,.func (W.fnOf "__init__" "System.__init__" (oh eK) (jV eK) (eZ eK) .none kV22 dc22 pm22 an22 cd22 ct22),sl22]) (c22:W.codeIn K cd22 "System.__init__"=true) (k22:W.keepIn K (.ref f22)=true)
  (h23:Dh K "_law_copied" pY f23 e23)
  (h24:Dh K "_law_made" tT f24 e24)
  (h25:Dh K "_law_dot" vK f25 e25)
  (h26:Dh K "_law_on" yj f26 e26)
  (h27:Dh K "_law_pulses" pV f27 e27)
  (h28:Dh K "_law_quot" tJ f28 e28)
  (h29:Dh K "_law_less" tV f29 e29)
  (h30:Dh K "_law_minus" rC f30 e30)
  (h31:Dh K "_law_lean" tW f31 e31)
  (h32:Dh K "_law_rank" tI f32 e32)
  (h33:Dh K "grid_turned" pR f33 e33)
  (h34:Dh K "tops_over" tE f34 e34)
  (h35:Dh K "common_multiple" kG f35 e35)
  (h36:Dh K "common_bottom" m7 f36 e36)
  (h37:Dh K "first_with" qZ f37 e37)
  (h38:Dh K "cleared" yi f38 e38)
  (h39:Dh K "brought_up" rg f39 e39)
  (h40:Dh K "swept" DW f40 e40)
  (h41:Dh K "lowest" Ar f41 e41)
  (h42:Dh K "reduced" ya f42 e42)
  (h43:Dh K "unit_row" vC f43 e43)
  (h44:Dh K "unit_grid" tD f44 e44)
  (h45:Dh K "leading_place" m6 f45 e45)
  (h46:Dh K "leading" ye f46 e46)
  (h47:Dh K "inverse" yg f47 e47)
  (h48:Dh K "row_dot" xZ f48 e48)
  (h49:Dh K "grid_on" yh f49 e49)
  (h50:Dh K "grid_times" qX f50 e50)
  (h51:Dh K "in_basis" vG f51 e51)
  (h52:Dh K "first_places" oE f52 e52)
  (h53:Dh K "part_by" yc f53 e53)
  (h54:Dh K "moved_rows" qV f54 e54)
  (h55:Dh K "reach_grown" pQ f55 e55)
  (h56:Dh K "reach_rows" qU f56 e56)
  (a57:XU K (.ref C) "turned"=some (some (.ref f57))) (i57:W.isFn K (.ref f57)=true) (l57:K.13 f57=some #[oc57,od57,.func (W.fnOf "turned" "System.turned" (oh fP) (jV fP) (eZ fP) .none kV57 dc57 pm57 an57 cd57 ct57),sl57]) (c57:W.codeIn K cd57 "System.turned"=true) (k57:W.keepIn K (.ref f57)=true)
  (h58:Dh K "minus" DY f58 e58)
  (h59:Dh K "null_at" yd f59 e59)
  (h60:Dh K "free_places" pS f60 e60)
  (h61:Dh K "nulls" DX f61 e61)
  (h62:Dh K "unseen_rows" pP f62 e62)
  (h63:Dh K "free_units" qY f63 e63)
  (h64:Dh K "seen_first" qT f64 e64)
  (h65:Dh K "seen_part" tF f65 e65)
  (h66:Dh K "steered_first" m5 f66 e66)
  (h67:Dh K "steered_part" oC f67 e67)
  (h68:Dh K "smallest" vD f68 e68)
  (h69:Dh K "_law_is_number" lV f69 e69)
  (h70:Dh K "_law_is_row" pX f70 e70)
  (h71:Dh K "_law_is_grid" oF f71 e71)
  (h72:Dh K "_law_is_system" lT f72 e72)
  (h73:Dh K "_law_parts_of" m9 f73 e73)
  (h74:Dh K "_law_added" rE f74 e74)
  (h75:Dh K "_law_over" tP f75 e75)
  (h76:Dh K "_law_shown" rj f76 e76)
  (h77:Dh K "_law_puts" tK f77 e77)
  (h78:Dh K "_law_steps" rh f78 e78)
  (h79:Dh K "_law_next" tQ f79 e79)
  (h80:Dh K "_law_looks" rD f80 e80)
  (h81:Dh K "law" NV f81 e81)
 (ca0:Yy K XE "NOUGHT"=some (some (.ref m0))) (cl0:K.13 m0=some #[.type "tuple",mo0,.seq [.int 0 mt0_0,.int 1 mt0_1].12 mn0,ms0])
 (ca1:Yy K XE "ONE"=some (some (.ref m1))) (cl1:K.13 m1=some #[.type "tuple",mo1,.seq [.int 1 mt1_0,.int 1 mt1_1].12 mn1,ms1])
 (ci0:Yy K XE "MOST_STATES"=some (some (.int 8 it0)))
 (ci1:Yy K XE "MOST_PUTS"=some (some (.int 4 it1)))
 (ci2:Yy K XE "MOST_LOOKS"=some (some (.int 4 it2)))
  (pg:W.plainGet K C Str.empty=true) (hd:W.hasDictIn K C=true) (po:W.plainOver K C=true) (sa:XU K (.ref C) "__setattr__"=some (some (.builtin "object.__setattr__"))) (mk:W.makesIn K C=true) (kc:W.keepIn K (.ref C)=true)
  (n_move:XU K (.ref C) "move"=some none)
  (n_states:XU K (.ref C) "states"=some none)
  (n_put:XU K (.ref C) "put"=some none)
  (n_ins:XU K (.ref C) "ins"=some none)
  (n_look:XU K (.ref C) "look"=some none)
  (n_outs:XU K (.ref C) "outs"=some none)
  (ia:XU K (.ref C) "__class__"=some (some (.builtin "object.__class__"))) (ib:W.specialIn K (.builtin "object.__class__") "__get__"=some (some (.builtin "getset_descriptor.__get__"))) (ic:W.takesIn K (.builtin "object.__class__")=some true) (id:W.mroIn K C (.type "object")=some true)
  (z_abs:Yy K XE "abs"=some none)
  (z_len:Yy K XE "len"=some none)
  (z_min:Yy K XE "min"=some none)
  (z_int:Yy K XE "int"=some none)
  (z_range:Yy K XE "range"=some none)
  (z_isinstance:Yy K XE "isinstance"=some none)
  (z_list:Yy K XE "list"=some none)
  (z_bool:Yy K XE "bool"=some none)
  (z_tuple:Yy K XE "tuple"=some none)
  (z_all:Yy K XE "all"=some none)
  (z_enumerate:Yy K XE "enumerate"=some none)
  (z_zip:Yy K XE "zip"=some none)
  (z_sum:Yy K XE "sum"=some none)
  (z_max:Yy K XE "max"=some none)
  : ∃fd:T2,(∀(s:Xv) (v:Value),BindsTo s fd #[[v],[]] [("_law_script",v)])/\∀base:Heap,K.In base->base.Ns XE mg->uC l.21 w K mg base MW 13 fa fd ["_law_script"] (Ai K):=by
 have e:=hfa.symm.4 (W.mg_of X G h81.a);cases e;obtain _|_|_|_|_|_|_|_|_|rfl|_|_:=h81.F.ex;have F22:=JB (st:=eK) l22 c22 k22;have F57:=JB (st:=fP) l57 c57 k57
 have T:Txt K mg #[f0,_,f1,_,f2,_,f3,_,f4,_,f5,_,f6,_,f7,_,f8,_,f9,_,f10,_,f11,_,f12,_,f13,_,f14,_,f15,_,f16,_,f17,_,f18,_,f19,_,f20,_,f21,_,f22,_,f23,_,f24,_,f25,_,f26,_,f27,_,f28,_,f29,_,f30,_,f31,_,f32,_,f33,_,f34,_,f35,_,f36,_,f37,_,f38,_,f39,_,f40,_,f41,_,f42,_,f43,_,f44,_,f45,_,f46,_,f47,_,f48,_,f49,_,f50,_,f51,_,f52,_,f53,_,f54,_,f55,_,f56,_,f57,_,f58,_,f59,_,f60,_,f61,_,f62,_,f63,_,f64,_,f65,_,f66,_,f67,_,f68,_,f69,_,f70,_,f71,_,f72,_,f73,_,f74,_,f75,_,f76,_,f77,_,f78,_,f79,_,f80,_,fa,_,m0,m1,it0,it1,it2,C]:={
  pC:=h0.D X G
  bc:=h1.D X G
  mI:=h2.D X G
  jy:=h3.D X G
  eF:=h4.D X G
  je:=h5.D X G
  kT:=h6.D X G
  ip:=h7.D X G
  jg:=h8.D X G
  jO:=h9.D X G
  iH:=h10.D X G
  kU:=h11.D X G
  jf:=h12.D X G
  nW:=h13.D X G
  mK:=h14.D X G
  kR:=h15.D X G
  ju:=h16.D X G
  mT:=h17.D X G
  eO:=h18.D X G
  nO:=h19.D X G
  uL:=h20.D X G
  gP:=h21.D X G
  fY:=F22.binds (ps:=["self","move","put","look"]) λ_ _ _ _ _ _=>by refine ln4 ?_;intros;rfl
  pJ:=F22
  gQ:=h23.D X G
  nX:=h24.D X G
  ko:=h25.D X G
  j9:=h26.D X G
  kS:=h27.D X G
  nQ:=h28.D X G
  nY:=h29.D X G
  jP:=h30.D X G
  jz:=h31.D X G
  nP:=h32.D X G
  gO:=h33.D X G
  jv:=h34.D X G
  ik:=h35.D X G
  fD:=h36.D X G
  mF:=h37.D X G
  rX:=h38.D X G
  mG:=h39.D X G
  xj:=h40.D X G
  ou:=h41.D X G
  j7:=h42.D X G
  kj:=h43.D X G
  nN:=h44.D X G
  jx:=h45.D X G
  me:=h46.D X G
  rW:=h47.D X G
  rT:=h48.D X G
  j8:=h49.D X G
  jM:=h50.D X G
  pB:=h51.D X G
  fR:=h52.D X G
  oM:=h53.D X G
  mE:=h54.D X G
  kO:=h55.D X G
  jL:=h56.D X G
  qB:=#[a57,i57,k57]
  sP:=F57.binds (ps:=["self"]) λ_ _ _ _ _ _=>by refine ln1 ?_;intros;rfl
  sQ:=F57
  xl:=h58.D X G
  rV:=h59.D X G
  jc:=h60.D X G
  xk:=h61.D X G
  kM:=h62.D X G
  jN:=h63.D X G
  mD:=h64.D X G
  kN:=h65.D X G
  jw:=h66.D X G
  iu:=h67.D X G
  kn:=h68.D X G
  iJ:=h69.D X G
  kW:=h70.D X G
  fU:=h71.D X G
  iI:=h72.D X G
  d7:=h73.D X G
  mL:=h74.D X G
  nU:=h75.D X G
  mJ:=h76.D X G
  nR:=h77.D X G
  mH:=h78.D X G
  nV:=h79.D X G
  jQ:=h80.D X G
  Tu:=h81.F
  abs:=X4 X G z_abs
  len:=X4 X G z_len
  min:=X4 X G z_min
  int:=X4 X G z_int
  range:=X4 X G z_range
  isinstance:=X4 X G z_isinstance
  list:=X4 X G z_list
  bool:=X4 X G z_bool
  tuple:=X4 X G z_tuple
  all:=X4 X G z_all
  enumerate:=X4 X G z_enumerate
  zip:=X4 X G z_zip
  sum:=X4 X G z_sum
  max:=X4 X G z_max
  Zw:=W.mg_of X G ca0
  Zu:=λH=>.inr #[_,_,_,cl0,rfl,rfl,kC rfl,.cons #[_,rfl] (.cons #[_,rfl] (.nil))]
  r!:=W.mg_of X G ca1
  l!:=λH=>.inr #[_,_,_,cl1,rfl,rfl,kC rfl,.cons #[_,rfl] (.cons #[_,rfl] (.nil))]
  Zr:=W.mg_of X G ci0
  ZE:=W.mg_of X G ci1
  Zy:=W.mg_of X G ci2
  Zg:=W.mg_of X G aC
  Y1:=#[pg,hd,po,sa]
  Zf:=n_move
  Y9:=n_states
  Zn:=n_put
  _K:=n_ins
  Zh:=n_look
  _n:=n_outs
  Zj:=#[mk,a22,i22,kc]
  ZI:=#[λe=>.ins e #[pg,hd,po,sa] ia ib ic id,OL] }
 show #[_,λs v=>.of_eq rfl,λbase _ _=>UC T acL]
theorem walk {l:W.OpenLaw} {K:Params->W.Frag} (hn:l.most=some 63) (hdf:d.params.defaults=[])
  (hi:PyProof.Rows.importsNone q=true)
  (hY:∀(w:Yq) (h:Heap),YP w h->(K w.58).In h)
  (F:∀(w:Yq) (mg:Str->Option Value) (fa:Addr) (h:Heap),(K w.58).In h->h.Ns XE mg->mg d.name=some (.ref fa) →
   ∃fd:T2,(∀(s:Xv) (u:Value),BindsTo s fd #[[u],[]] [("_law_script",u)])/\∀base:Heap,(K w.58).In base->base.Ns XE mg->uC l.21 w (K w.58) mg base MW 13 fa fd ["_law_script"] (Ai (K w.58))) :
  W.WalkO q loose XP YP l.row.toRowW d [] (λf vs=>PySem.call f vs) :=
 L2.P9 (n:=63) (k:=13) (x:="_law_script") (CX:=λ_=>MW) (sp:=λw=>Ai (K w.58)) hn () hdf #[rfl,(),()] hi hY F (λ_ _ a ns hl _ hS=>#[a,ns,rfl,hS,hl,λ_=>rfl]) λ_ _ _ _ _ z=>z
end Lw
namespace PySem.W.Fast
local macro_rules | `(universe $x*) => do
 let c ← x.mapM fun y => `(def $(Lean.mkIdent (.mkSimple s!"tw{(y.getId.toString.drop 1).foldl (fun a c => a*62+(if c.isDigit then c.toNat-48 else if c.isLower then c.toNat-87 else c.toNat-29)) 0}")):ident:=1)
 return Lean.mkNullNode c
universe aafCgSaqHHzG afwb1Av1bblx adfmkQrIxolR a47jRVB0yYiY a4l3w2dl2SHr aiARewOEYdyg a2LQs2L6eWuT a5LKe0QTHiwI a9hCk2qv4V7S ak4KP9EbhWlX ajfvKBiTB1c alVbMcfDrkB7 afoxc7Mcl8Xg aapzqssrbtRk ahIFLF5yeJNh af5M0fpsuK7Q a4QGr31srqSK afBDc3cKoMXq ae5wrt7atKHO aiSEcSKWLzw5 acmj5Cn1N37l a1SCRGlGi8ed a5sXYgzcnwdI abL9RUwn0Hvk a3FXMyhBzM3c a1dlLZ3ENxNG a2J0VzAMd5Rl ag0jS2qhgU3d agDGvBQ4yxvO aaoABkwPoBJ3 akFfL134mrgB a4EPjM3N866G aa60Kf6pXy2F akd5Bu0gcSpX acvdCmHSwCyn a5t7kuVOH7o5 a75IrfUH0srH a9EzwK20ZMNa a3hrBWPM8VwW a6RgVeCdxOB5 am1OgZDfhDO acjZ6YZWhypc abGlXA9fQhyD ak8v0xPn9FwL aYP9jeIMgEP aeY6ytgmron a7P75AfMTisg agFIqEtCShkN a5w9KQr5aUGw acIf6Cglp3Q5 acR6L9KDlVzQ adEtjxGCLKVb aiDYQzkTfJCo a47D1RzfZydA a8LZnCSu3xx4 aahjy0Sj7ER6 ak6uFcqMKLb9 a1y5DvBGxRtq af4mYqhgmrCc a8inh651COPK agwcdDEBDyCL a7CoqU8jelPH abD7tO8LbuZ6 afWGg1LyBIf4 a2jrtmuhA08C aezktfJHE62j akp0D1sVHbx8 ab1RXLrCbvE2 afRk9LK27pIm aaoQEIyHFiRB akapmvehjuB3 ahROyy9xZtTP ak3e9ILqRklh a77ZmzQ4ojP0 a5DY49kVQ5EW a28qU68WJryl a2x2yMwlGTw8 aikqmF9Y8l7C afT9g4aH9fuy ajLhHq0dDKO7 ajzTXU5uXJ9J abR9yFnNhkQ a3J5uvCxXSZF a9hPl0pWV10F a8eGMBOZ6AWT aisY2fbm3ADv a7gqXtjexWKk aeavp8DPaJ88 afGlSnmcN7w3 ak8C4Nbqpxfc abixTIsHlNHL a6B1hQdgwGRW ad3jyuo0iFFt aaWONSYH9hnt a7lyBciIT5kW a2OOZUmS1qdC agdqPHJrc93x alekzTlc23vR a3Q0i0S2ACyh a5ttbvGQ6am3 acVx2Xl7ihhy a5pSlOTsAoOB a2gnEBmAjZEK aeG1w4AJ5hvP a4z7ViwEIkBD a53aXE5FQ4Qr ab630nzC5kcq a7DVremSA96W ahoGy2GrNS9y ajB0Xzu6kfLn a7Up1iA9pweR ajveyhYkQjuP a8dwH51SH5b2 a6nV4iSFOA89 ahAIKBGgCERH a9nMAoSEAK1S a5hTVgPhJt0g afvoQyM9CPd4 aeuDXpyaz9SW abQ8pkGkBVmO aeqIPRv1lJWp ac3zAkNg6K14 akZgvAPJi6Tt agvTWIYW3MDP a7w1dUi3CRV0 adAyfm4dvSjn a9NQwQ2DVJfz aflH02CCyvIE aaG7NZk5jUSc aiFHhuQ98spL a2NhJh31amRP aly7buJ4Ld9v aeoO3bYR0owW akutmeOneBPT a9wxncUcNlTg afpTTXEgg8XO aeAaCtDLWvLu adhQveiq42DZ a62dBe2Gb7Uy a32IS1qGEf4u a9c7tyM3TwOf a1qluXCHx1pH a465bbgZcjwh abBwLDMbJY8l ahv34avQDIOn afh1oyfG8LOs aeGu3WmY8xyb aeZAZBN7mwDE a7XhReqBERKs ahO5DebkikmM abMpVDSjH8Jf akq6gj1mWQRv abnt9hjJjnPV agbKQeKczkco a1tLX3AmtgZx actLdlq4OHZO alv1uUu9a34n a8aULbeDAr8Y a4u01fmWEhSY a5PTbwk9PGsa aivcDd6PDZ3U aithzKexP0u7 a9MbtK3ORVhc aj2fM7tAktV a5DOVxu2NlM8 a1TcSEBxTKth akRetEsG0udb aaIQO8HJQpUB a6x9c9X6SK8E akYbvdd5viTM a3m79felA4my alHswu5msw7C akddCro7E1iR a6Pl1Ct8ztwo a28SsFQolkaV a1NXgeS2PHVA ali21zqOfInS afQG6tPL7yLI a63gTgZVbgzC a1iyktsEOtxp ac4J31F8jEFl a5L3CWOy9DP2 a1THgeA2K8Y6 ahlqFMtySQct acwfnhFhW1zc agp9GXed684P a62s2jBe6tfI ajCao3aNgicc a9WCZRvBCXsN a7AUwPJR4uXl alY3Zlx7kdz0 ajLPCvVuzz3Q ahiKIm7KkOqP ajnwPknRuwRw a978nes08QaG a4c7VjXMqFd9 a8KFDc0Z8iRM aOVenD0PfaH aa9ya6hkEOZL agv40GIHUfQS aa5EvWYxAqdt ac5iIPQ8VY3c aj7gxULpouIt aak4W7h59wzy a1IssRMrrqwN acqK5izkFTBi aafvTrwDGg1f aaqVnPjVULYY aflNTqxIgDGe a9qMDvYy8oIm a82YLakx4Ypo agFPj9RZU47t a6s3ZZMVo5d6 aa8Z1saHBICt a7bLmtSdxvLL ab8lFvBtA9My al0RCtLEoOjF a7uFK3X7AcIn ajGBH2RngOOg a9lEKIs0B1ZV ajeQkrOBpble a8ABeT5NG714 afD6oT7bNBMR ajI0PLnOGv6k a9ySEtY2p3D0 aeWQTekkg9jm a8tW4kXLIuan a79pfld0LcAA aa8cfpDDeIEN a6zWUiLTY8cl adgJefDYeKWw aiPdPToA5GgJ a6aurdKWg6nh a2UydojhpNKs a5ZKeNre2duB afI2YFiOnP0F a5aO0Rg6OMoc a13jMHFd3w93 abfoKm18sa3Y ajCMtK1YBqFz a6um9qN1H6Cf adwFomhneIAS a2bxth5Br6x4 af9tY3AyE69S a4It9LVpwmId akrdOfl702RM aOyW60qpRwo ab8W5lABstTR a9brPE8E7GIc a72KJrbyjLwa agPR06PWQK1a ac8AOIUvvXXz a4rI0tHnrCkd acpW6yDACwzU abOA8sFKkdrq a3IQOj4KWkST a9XFnv1NNsKD a89d2b0wsFsr a8OWjkB6HGmq aitSrFSN8Oy4 ajQ1P8tXYvJn a6vIVSLyw6EP akcA0187ZwBU acRJNMpkSapc afRnZoLhaIib a82HcJrR71rx ajAPD4tRDbvm afTEwYbEYzku a93RT9l5witL alRNSGSObgIa acgkPpzCOhEG a4v4duxyRyuz abqPB53Zdbp9 aewJcatp8NiE a35pdrCfNpT4 aePgSjGrkpYF a1w5dCbWCz0e aOzYs5pxT5v ad3gyclUOsYB almNYuPUy5vM a8C7ieNN06Pf ah7JN7RqwBQt aeIP8E3nUgqQ abAqRBlSTE3v ackBjFb3kUC4 ajqcXutUoRMO a8kELGcYumNP a7gKO504CNke a6DxKSGrlZj3 aVCXbFut5UP a7FcwK7Goj7I ajDi7vtq5eX1 a99JPfYNvQt7 aL0pcDsOFQe aYDMjxn2Zl6 alWYSoDPhP1S absGcbxr5VJX aaNwGVxNo0Yo akjbKJ1yA1Fz afcNi5AASEPw agnzhU15VC6w a9DE8z2bQ2DK a3jNAqwGQ0EE ajwY6UOgR4wo aBsRSgBj4dw a8goaTUWBNV0 ahyKdXYKunt3 ab2yYIjYBgug a6WUArQZSlr7 a1rShUSMXolB a5UBj3NWcghq a44rfpGj3VVj aaToUwDOa0GS aiG7rtCvRqZs akD6dBFQ4nKt ako3i8wWG10V a5QOdXCJDhn4 ainzq7bWAM5z a1SNzoIx7Y43 a6YsJKcmyqyq aeMsWNtWN3sR a3Yu5iTzXCA5 agcgWGneh6NC ahZLRWHeiFgd a9UbA8W6Yof0 acRFPDhQd225 ah8j1fbqOuzF aiVqGaruWBDU a9Z8Va89DWw4 a1REgQxainEA a1CnMMFdTmK1 ahdMQzXNuYgL abP0qt0eopqX a7SOZTdvfBRp a1MKCEJ8ePuY acSisjQ8qEed ad0C6q1RgZWH agmjFyB89Qgw aaTB5CE1nmpL ae1Ci5sOyaaf ahAfzj2FcDjl aW0cu4sOqRg a6GHNp03z2LO aifWBZZdW1T9 ajEVadv5sDJd abux574bWwKC a6q5H1wIUTBr a26mTT7dHeG5 aaNOURKv25RP aj1sKZ7xHqtc ac22MyYe2APS alNeGPymD2tf a3BpmrI5EBeM a8WOnY9xAgtY a1FpvRNKU7Fz acIvpAqGO44M a4a62bmiis18 a4nDUjcANGTL ah9ZI9yZDtjU a4iHuDxRbYVK aeoqGdN548Tp a8b7UhScA6mU ak9032KYPa00 agiEWf7F6gNn aiAA9hhAb5Eo aaQhEBL9XwUr ajS1iiEH65Si aira8XUILxes acZBlKhEegEZ a8mnk8bKLchY a5CcSqGtPeoP aiJTUtN354UX a9SINsEtuOTb aUqiAaOvzjN a2iI82H2K9rE acUvHb9WGRNc a39bFEczIZm3 ah1M77xVF3e0 a27dDtR9g8Sk a2ldA2cFjI83 al6SMmNp0mAg acNd3Mz2ijyM alhJWQle81QV a2EY8UI0hLi5 afsmbbwmvRBm af1gCeQ5oZf7 aC5GHwck8ZK a8ZEudHXfeyw alCScH2c18EJ ahnN16rXGvsn abM9CYGFgAR abYXPaY9CV5z a6qNSytGPn03 aaHz2YwuyzMF a60jK0NJlKlw a4fGzJHIcfvS adxV2cEElhHz a1VrTUJQFlX7 a1jIsQg3yeG9 afJhYeQpkacY a8nn0m3mi4GI afBi8g2ZR4NL ahEraIGoDpUA a2pjU0ZYn6SM aifJH3Wx9joW ag9zMGzwxRUU a1u6wx50QwJD a2efhWmMbAXC akdYHS8fwjVy ac1MFz3zTw7f akbN8NIazIDH ackQUrAjNHs9 a630nJUAuZJ6 afkSENwrUCZq a1Z2SR2XQ9WM a75Tazjl94kV ae90sLDod9Hw abBeiaFU3FVw ae0CFMblEPe9 a86TSPTUU8Yx a71mIpwhw2yO ac1KbwmDs3oO a2MxuBWvuO9A abOrJxx6eALg ajdEwDhgiqAU aaDKT2nLFACX aencODKmS5Ch aT0eBO6Bqzu a1qXuNzFnSOL aiUks5H0tNKx aalD0QOUrIb4 acgOpOASrZ9S a5MQG9ywKAYD a4yRl84kxIN5 af81bX20YjFi a6HewjwqYj1e a8dl8XYkgBVd ae9M55BOv5BQ a6gFOnnIMW7n a1WVS6DXT1KT a7vmDzFbCpZy afkDFWKQtbR5 ajVreZ9RtHu1 aiMFMeCkTF38 a3Gstq9vCXeU ab9e5pBFdzbs a2RkU8VR0TEV ae8ehQd21JYf a5kln4tEjIC5 adC6ME25b2xA akPPGbqlzDfm a4sQjSN5kweb a4IweR2Qlik2 a8z79ZUJnlb5 a4t4qDkpfYaH aep3M13BUYex a92Nlrrzk3F1 a9Eb2vWnRzdy agWQSzlwWqdD abQDXCidRVxV
theorem te8604406303491931096:True:=trivial
end PySem.W.Fast
open PySem PySem.W PyProof.Rows
set_option maxRecDepth 100000 in
set_option maxHeartbeats 0 in
theorem PySem.Challenge.cw_helmsum_k75_whole_smallest_holds : PySem.Challenge.rw_helmsum_k75_whole_smallest.Holds := by
 w_on;o_law;k_head;(case hw=>w_witness2)
 k_fill
 refine Lw.walk (l:=PySem.Challenge.rw_helmsum_k75_whole_smallest) rfl rfl ?hi (λw h Y=>PySem.W.kIn_of Y) ?F
 case hi=>decide +kernel
 case F =>
  intro w mg fa h KX G hmg;refine' Lw.all_mk KX G hmg rfl ?aC ?_ ?_ ?_ ?_ ?_ ?_ ?_ ?_ ?_ ?_ ?_ ?_ ?_ ?_ ?_ ?_ ?_ ?_ ?_ ?_ ?_ ?_ ?a22 ?i22 ?l22 ?c22 ?k22 ?_ ?_ ?_ ?_ ?_ ?_ ?_ ?_ ?_ ?_ ?_ ?_ ?_ ?_ ?_ ?_ ?_ ?_ ?_ ?_ ?_ ?_ ?_ ?_ ?_ ?_ ?_ ?_ ?_ ?_ ?_ ?_ ?_ ?_ ?a57 ?i57 ?l57 ?c57 ?k57 ?_ ?_ ?_ ?_ ?_ ?_ ?_ ?_ ?_ ?_ ?_ ?_ ?_ ?_ ?_ ?_ ?_ ?_ ?_ ?_ ?_ ?_ ?_ ?_ ?ca0 ?cl0 ?ca1 ?cl1 ?ci0 ?ci1 ?ci2 ?pg ?hd ?po ?sa ?mk ?kc ?n_move ?n_states ?n_put ?n_ins ?n_look ?n_outs ?ia ?ib ?ic ?id ?z_abs ?z_len ?z_min ?z_int ?z_range ?z_isinstance ?z_list ?z_bool ?z_tuple ?z_all ?z_enumerate ?z_zip ?z_sum ?z_max
  all_goals try refine' Wt ?_ ?_ ?_ ?_
  all_goals try k_is