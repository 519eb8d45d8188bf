import PyProof.Rows.All
import Wide.All
import OpenK.AllK
import Wide.FinOn
import Lean
import PyProof.EqAt
import PyProof.EqKinds
import PyProof.TupleCall
import PyProof.NeKinds
import PySem.Challenge.RW_helmsum_k76_four_parts
set_option Elab.async false
set_option linter.all false
set_option maxRecDepth 100000
set_option compiler.extract_closed false
open PySem renaming wpAny_bind→K0,FuncData→Vp,Shared→Vr,Paired→Vs,starEach→Vu,wpAny_pure→VB,wpAny→VC,sizeLine→VD,mainGlobals→VE,wpAny_holding→VS,wpAny_Call_Name_kw→VW,cellsFrom→VX,Around→VZ,Program→Wa,compareOp→We,wpAny_passesOwn→Wl,World→Wm,NameKind→Wn,bootBuiltins→Ww,wpAny_mono→Wy,assignEach→Wz,Builtin→WA,wpAny_truthy_bool→WE,IsPair→WM,sliceBounds→WO,backTo→WT,wpAny_pyIter_list→WW,foldedSetIterable→WX,wpAny_standAt→W0,codeAny→W5,attributeBase→W6,binaryOp→W8,wpAny_field→Xc
open PySem.Heap renaming get?_push_of_some→Vq,lt_size→Vv,get?_push_size→VG,get?_update_other→VN,size_push→Wq,SameBut→WS
open List renaming range→Vt,replicate→Vz,zipWith→VH,map→V9,reverse→Wp,length→Wt,Nodup→Wu,lookup→WN
open PySem.Expr renaming Constant→Vw,Name→VL,Call→WI
open PySem.Value renaming ref→Vy,none→V4,type→V6,bool→WL
open PySem.PassesOwn renaming never→VA
open PyProof.Rows renaming boot_list→VF,callWith_type1→VI,boot_int→VP,boot_min→Wj,callWith_builtin1→Wr,boot_tuple→Ws,boot_isinstance→WC
open PySem.Const renaming int→VJ
open PySem.SeqAt renaming EqAt→VM,RcNeAt→WY,RcAt→WZ
open PySem.W renaming findIn→VO,emptyDict→VR,mg_none_of→VV,instObj→Wf,fnOf→Wo,nsIn→WD,keepIn→WH
open PySem.Obj renaming mapSeq→VQ
open PySem.NameKind renaming free→VT,cell→W7
open PySem.Builtin.SmallTypes renaming ownedTupleIsFree→VU,nextOf→WJ
open Int renaming gcd→VY
open False renaming elim→V7
open Ne renaming symm→Wc
open Array renaming length_toList→Wg
open Option renaming none→Wh
open True renaming intro→Wi
open Classical renaming byContradiction→Wk
open PySem.Builtin.List renaming listExtendWith→WG,listTooLong→WK
open PySem.Stmt renaming Assign→WQ
def fldOf(i:Lean.Syntax):Option Lean.Ident:=(i.isFieldIdx?.bind λk=>if k<3 then none else ("getD trans toArray heap.objs.size size heap length same map toArray lookup get? natAbs env none prog isList symm take mono eraseIdx IsListIter push heap toks toNat names list extBut unit Nodup range size kind isinstance len fresh other locals set kindOf weak tuple after drop update base units stack low IsList free elim back den any kept".splitOn " ")[k-3]?).map λf=>Lean.mkIdent f.toName
local macro_rules | `($x.$i:fieldIdx) => match fldOf i with|some f=>`(($x).$f:ident)|_=>Lean.Macro.throwUnsupported
local macro_rules | `($x.$i:fieldIdx $a*) => match fldOf i with|some f=>`(($x).$f:ident $a*)|_=>Lean.Macro.throwUnsupported
local macro_rules | `(#[$a,*]) => `(⟨$a,*⟩)
local macro_rules | `(tactic| obtain $p:rcasesPatMed := $e:term) => do
 let a := p.raw[0].getSepArgs
 let q : Lean.TSyntax `rcasesPat ← if a.size == 1 then pure ⟨a[0]!⟩ else do
  let l ← a.mapM fun x => `(Lean.Parser.Tactic.rcasesPatLo| $(⟨x⟩):rcasesPat)
  `(rcasesPat| ⟨$l,*⟩)
 `(tactic| first | (refine Wk fun ng => ?_; (rcases $e:term with $q:rcasesPat) <;> (refine ng ?_; clear ng)) | rcases $e:term with $q:rcasesPat)
local macro_rules | `(()) => `(by first | decide | lia)
local macro_rules | `(tactic| show $e) => `(tactic| exact $e)
abbrev aa:=@List.getD_eq_getElem?_getD
abbrev ae:=@List.getElem?_eq_getElem
abbrev af:=@List.length_map
abbrev ag:=@Nat.le_trans
abbrev ai:=@List.length_append
abbrev aj:=@Nat.le_refl
abbrev ak:=@Nat.pow_le_pow_right
abbrev ao:=@List.mem_append
abbrev ar:=@List.mem_of_getElem?
abbrev au:=@List.mem_map
abbrev ax:=@Nat.mul_le_mul_right
abbrev az:=@List.getElem?_map
abbrev aB:=@List.getElem?_eq_some_iff
abbrev aF:=@List.mem_cons
abbrev aG:=@List.getElem_mem
abbrev aH:=@List.take_of_length_le
abbrev aI:=@Nat.mul_le_mul
abbrev aJ:=@List.getElem?_eq_none
abbrev aM:=@PySem.boot_len
abbrev aN:=@List.getElem_of_mem
abbrev aS:=@List.not_mem_nil
abbrev aT:=@Rat.intCast_mul
abbrev aU:=@List.mem_append_right
abbrev aW:=@Rat.intCast_natCast
abbrev aX:=@List.size_toArray
abbrev aY:=@Nat.lt_or_ge
abbrev a8:=@Bool.false_ne_true
abbrev a9:=@List.length_singleton
abbrev bc:=@Nat.mul_le_mul_left
abbrev be:=@Nat.zero_le
abbrev bg:=@Nat.pow_add
abbrev bu:=@Nat.one_le_two_pow
abbrev bw:=@Nat.lt_of_le_of_lt
abbrev bB:=@Rat.mul_zero
abbrev bC:=@List.length_cons
abbrev bG:=@List.length_range
abbrev bH:=@List.map_append
abbrev bI:=@Nat.lt_of_lt_of_le
abbrev bM:=@List.getElem?_append_right
abbrev bP:=@List.mem_cons_of_mem
abbrev bR:=@List.getElem?_range
abbrev bU:=@List.length_take
abbrev bY:=@Nat.mul_pos
abbrev b6:=@List.mem_of_mem_take
abbrev b9:=@Nat.mul_assoc
abbrev cf:=@Rat.mul_comm
abbrev cp:=@List.append_assoc
abbrev cv:=@Option.some.inj
abbrev cw:=@Nat.mul_comm
abbrev cA:=@List.mem_singleton
abbrev cC:=@List.mem_cons_self
abbrev cE:=@List.mem_or_eq_of_mem_set
abbrev cF:=@List.getElem?_append_left
abbrev cG:=@Nat.ne_of_lt
abbrev cI:=@List.mem_append_left
abbrev cL:=@Int.fdiv_eq_ediv_of_nonneg
abbrev cP:=@Nat.le_of_lt
abbrev cQ:=@Int.natAbs_natCast
abbrev cX:=@PySem.F.plainAttrs_list
abbrev c7:=@Rat.intCast_neg
abbrev c8:=@List.nil_append
abbrev df:=@Rat.zero_mul
abbrev di:=@PySem.W.kia_tup
abbrev dk:=@PySem.W.kia_one
abbrev dm:=@Nat.lt_irrefl
abbrev dq:=@Nat.succ_le_succ
abbrev dr:=@Nat.lt_succ_self
abbrev du:=@List.drop_eq_getElem_cons
abbrev dw:=@List.length_zipWith
abbrev dC:=@List.nodup_append
abbrev dF:=@PySem.F.type_list_append
abbrev dG:=@PySem.F.slot_list_append
abbrev dH:=@Int.mul_assoc
abbrev dM:=@Rat.intCast_inj
abbrev dP:=@Nat.le_mul_of_pos_right
abbrev dQ:=@List.ext_getElem
abbrev dR:=@Bool.and_eq_true
abbrev eE:=@Nat.lt_trichotomy
abbrev eF:=@Int.natAbs_mul
abbrev eP:=@List.nodup_cons
abbrev eQ:=@List.length_set
abbrev eX:=@List.getElem?_zipWith
abbrev eY:=@Int.natAbs_dvd_natAbs
abbrev fe:=@List.cons_append
abbrev fg:=@Int.gcd_dvd_left
abbrev fh:=@Bool.false_eq_true
abbrev fB:=@List.getElem?_take_of_lt
abbrev fE:=@Rat.mul_one
abbrev fF:=@Nat.pow_lt_pow_right
abbrev fM:=@Int.gcd_dvd_right
abbrev fO:=@Nat.not_lt_zero
abbrev fP:=@List.mem_filter
abbrev gA:=@Nat.le_mul_of_pos_left
abbrev gB:=@Int.mul_comm
abbrev gW:=@List.length_replicate
abbrev iq:=@Rat.one_mul
abbrev ir:=@Nat.add_comm
abbrev iB:=@List.map_cons
abbrev i8:=@Nat.le_add_right
abbrev ja:=@List.getElem_map
abbrev jb:=@Int.eq_ofNat_of_zero_le
abbrev jv:=@Nat.mul_add
abbrev jw:=@List.map_id
abbrev jx:=@Int.mul_pos
abbrev jD:=@Nat.pow_succ
abbrev jE:=@List.map_map
abbrev jF:=@Int.emod_lt_of_pos
abbrev jY:=@Nat.le_of_dvd
abbrev kx:=@List.flatten_cons
abbrev kC:=@List.mem_range
abbrev kD:=@Int.natAbs_neg
abbrev lV:=@PySem.IsL.update
abbrev lW:=@Nat.succ_mul
abbrev lX:=@List.lookup_cons
abbrev lY:=@Int.zero_add
abbrev lZ:=@Int.gcd_comm
abbrev mC:=@PySem.F.plain_extend_loop
abbrev mD:=@List.pairwise_iff_getElem
abbrev mE:=@PySem.mem_of_lookup
abbrev mF:=@Nat.pow_le_pow_left
abbrev mG:=@List.replicate_succ
abbrev nB:=@Nat.le_antisymm
abbrev nC:=@List.append_nil
abbrev nD:=@Int.emod_nonneg
abbrev nE:=@Bool.eq_iff_iff
abbrev nY:=@Nat.exists_eq_add_of_le
abbrev nZ:=@Int.natCast_dvd_natCast
abbrev oa:=@Int.dvd_mul_of_dvd_left
abbrev oC:=@Nat.sub_self
abbrev oE:=@List.nodup_nil
abbrev pJ:=@PySem.F.slot_zip_next
abbrev pL:=@Nat.dvd_mul_left
abbrev pM:=@List.all_eq_true
abbrev rD:=@Nat.le_succ
abbrev rE:=@List.getElem_zipWith
abbrev rJ:=@Rat.natCast_mul
abbrev rK:=@List.range_succ
abbrev tu:=@List.map_congr_left
abbrev tw:=@List.length_reverse
abbrev tI:=@Rat.add_zero
abbrev uf:=@PySem.W.kitx_tuple
abbrev ug:=@Nat.eq_zero_or_pos
abbrev uh:=@List.filter_append
abbrev ui:=@Int.eq_of_mul_eq_mul_right
abbrev uQ:=@Int.mul_neg_of_pos_of_neg
abbrev wa:=@PySem.W.kitx_list
abbrev wb:=@PySem.W.kitx_dict
abbrev we:=@Nat.pow_pos
abbrev wg:=@Nat.pow_mul
abbrev yi:=@Rat.intCast_eq_zero_iff
abbrev yj:=@List.mem_flatten
abbrev yk:=@List.filter_cons_of_pos
abbrev ym:=@List.filter_cons_of_neg
abbrev yT:=@Rat.zero_add
abbrev yU:=@PySem.W.cellsFrom_some
abbrev yV:=@List.drop_of_length_le
abbrev AG:=@Rat.intCast_sub
abbrev AH:=@Rat.intCast_add
abbrev AI:=@List.length_zip
abbrev AL:=@Bool.beq_eq_decide_eq
abbrev Cs:=@Nat.add_le_add_right
abbrev Ct:=@List.replicate_succ'
abbrev Cu:=@List.forIn_nil
abbrev EB:=@PySem.W.plainGet_of
abbrev EC:=@List.filter_sublist
abbrev ED:=@List.filterMap_cons
abbrev GR:=@Int.natAbs_eq
abbrev GV:=@Rat.div_mul_cancel
abbrev GW:=@Nat.add_sub_cancel
abbrev GY:=@List.getElem_range
abbrev GZ:=@List.append_of_mem
abbrev Hq:=@Wu.sublist
abbrev Ky:=@Nat.ne_of_gt
abbrev Kz:=@Nat.dvd_mul_right
abbrev KA:=@List.ext_getElem?
abbrev KC:=@Int.dvd_refl
abbrev L4:=@Nat.min_le_right
abbrev L5:=@List.nodup_range
abbrev NZ:=@Nat.one_mul
abbrev N2:=@Nat.add_mul
abbrev N4:=@Int.dvd_gcd
abbrev Of:=@Rat.mul_eq_zero
abbrev Og:=@Nat.two_pow_pos
abbrev Oh:=@List.of_mem_zip
abbrev Oi:=@List.forIn_cons
abbrev Oj:=@Int.gcd_pos_of_ne_zero_right
abbrev QX:=@List.length_eraseIdx_of_lt
abbrev Tc:=@PySem.F.entry_extend_loop
abbrev Td:=@List.getElem?_zip_eq_some
abbrev Te:=@Int.natAbs_ediv_of_nonneg
abbrev Th:=@Option.isSome_iff_exists
abbrev Ti:=@List.mem_of_mem_eraseIdx
abbrev UH:=@PySem.F.args_zip_next_1
abbrev UI:=@Nat.add_sub_cancel_left
abbrev UJ:=@List.getElem?_replicate
abbrev Xo:=List (List Rat)
abbrev Xn:=PySem.W.Frag
namespace L2
open PySem PySem.Spec PyProof.Rows
abbrev Key:=Sum Int Str
def QD:Key->Value->Bool
 | .inl k,v=>Value.isInt k v
 | .inr x,v=>Value.isStrOf x v
def U5 (w:Wm):Key->Int
 | .inl k=>hashInt k
 | .inr x=>hashStr w x
theorem fJ:∀{k:Key} {v:Value},QD k v=true->(∃i t,k=Sum.inl i/\v=Value.int i t)\/(∃x t,k=Sum.inr x/\v=Value.str x t)
 | .inl i,v,h=>by
  obtain t|e:=Value.isInt_shape (k:=i) (v:=v) h;show .inl #[i,t,rfl,e]
 | .inr x,v,h=>by
  obtain t|e:=Value.isStrOf_shape (x:=x) (v:=v) h;show .inr #[x,t,rfl,e]
theorem Sy (a b:Int):decide ((Sum.inl a:Key)=Sum.inl b)=(a == b):=by
 by_cases e:a=b
 ·subst e;simp
 ·have h:¬(Sum.inl a:Key)=Sum.inl b:=λq=>e (Sum.inl.inj q)
  rw[decide_eq_false h];show (beq_eq_false_iff_ne.mpr e).20
theorem Sv (a b:Str):decide ((Sum.inr a:Key)=Sum.inr b)=decide (a=b):=by
 by_cases e:a=b
 ·subst e;simp
 ·have h:¬(Sum.inr a:Key)=Sum.inr b:=λq=>e (Sum.inr.inj q)
  rw[decide_eq_false h,decide_eq_false e]
theorem Sx (a:Int) (b:Str):decide ((Sum.inl a:Key)=Sum.inr b)=false:=decide_eq_false (λq=>nomatch q)
theorem Sw (a:Str) (b:Int):decide ((Sum.inr a:Key)=Sum.inl b)=false:=decide_eq_false (λq=>nomatch q)
def J8 (prog:Wa) (w:Wm):PySem.KeyKind prog w Key where
 is:=QD
 hash:=U5 w
 inj:=λv a b ha hb=>by
  rcases fJ ha with ⟨i,t,rfl,rfl⟩ | ⟨x,t,rfl,rfl⟩
  ·rcases fJ hb with ⟨j,u,rfl,e⟩ | ⟨y,u,rfl,e⟩
   ·injection e with e1 _;rw[e1]
   ·show nomatch e
  ·rcases fJ hb with ⟨j,u,rfl,e⟩ | ⟨y,u,rfl,e⟩
   ·show nomatch e
   ·injection e with e1 _;rw[e1]
 byValue:=λk v h=>by
  rcases fJ h with ⟨i,t,rfl,rfl⟩ | ⟨x,t,rfl,rfl⟩ <;> rfl
 pyHash:=λhv h=>by
  rcases fJ hv with ⟨i,t,rfl,rfl⟩ | ⟨x,t,rfl,rfl⟩
  ·show wpAny_pyHash_int h
  ·show wpAny_pyHash_str h
 eqBool:=λhu hv h=>by
  rcases fJ hu with ⟨i,t,rfl,rfl⟩ | ⟨x,t,rfl,rfl⟩
  ·rcases fJ hv with ⟨j,u,rfl,rfl⟩ | ⟨y,u,rfl,rfl⟩
   ·rw[Sy] at h;show wpAny_eqBool_int h
   ·rw[Sx] at h;show VM.int_str i t y u _ _ _ _ h
  ·rcases fJ hv with ⟨j,u,rfl,rfl⟩ | ⟨y,u,rfl,rfl⟩
   ·rw[Sw] at h;show VM.str_int x t j u _ _ _ _ h
   ·rw[Sv] at h;show wpAny_eqBool_str h
 «strs»:=λk x t v h=>by
  rcases fJ h with ⟨i,u,rfl,e⟩ | ⟨y,u,rfl,e⟩
  ·show nomatch e
  ·injection e with e1 _
   subst e1;cases v <;> rfl
inductive V where
  | Xy | bl (b : Bool) | int (i : Int) | str (x : Str) | Zt (b : Array UInt8) | _B (b : UInt64) | ref (a : Addr) | ty (n : String)
  deriving DecidableEq

def RelV:V->Value->Prop
 | .Xy,u=>u=V4
 | .bl b,u=>u=WL b
 | .int i,u=>∃t,u=Value.int i t
 | .str x,u=>∃t,u=Value.str x t
 | .Zt b,u=>∃t,u=Value.bytes b t
 | ._B b,u=>∃t,u=Value.float b t
 | .ref a,u=>u=Vy a
 | .ty n,u=>u=V6 n
abbrev cO:List V->List Value->Prop:=Vs RelV
theorem cO.length (r:cO xs us):xs.9=us.9:=Vs.length r
theorem cO.get:∀{xs:List V} {us:List Value} {i:Nat} {x:V},cO xs us->xs[i]?=some x->∃u,us[i]?=some u/\RelV x u
 | _,_,_,_,.nil,e=>by simp at e
 | _,_,0,_,.cons r _,e=>by simp at e;subst e;show #[_,rfl,r]
 | _,_,i+1,x,.cons _ t,e=>by
  obtain u|h1|h2:=cO.get (i:=i) (x:=x) t (by simpa using e);show #[u,by simpa using h1,h2]
theorem cO.set {x:V} {u:Value} (r:RelV x u):∀{xs:List V} {us:List Value} (i:Nat),cO xs us->cO (xs.42 i x) (us.42 i u)
 | _,_,_,.nil=>.nil
 | _,_,0,.cons _ t=>.cons r t
 | _,_,i+1,.cons q t=>.cons q (cO.set r i t)
theorem cO.append:∀{xs ys:List V} {us ws:List Value},cO xs us->cO ys ws->cO (xs++ys) (us++ws)
 | _,_,_,_,.nil,s=>s
 | _,_,_,_,.cons r t,s=>.cons r (cO.append t s)
theorem cO.take:∀{xs:List V} {us:List Value} (n:Nat),cO xs us->cO (xs.21 n) (us.21 n)
 | _,_,0,_=>.nil
 | _,_,_+1,.nil=>.nil
 | _,_,n+1,.cons r t=>.cons r (cO.take n t)
theorem cO.drop:∀{xs:List V} {us:List Value} (n:Nat),cO xs us->cO (xs.47 n) (us.47 n)
 | _,_,0,r=>r
 | _,_,_+1,.nil=>.nil
 | _,_,n+1,.cons _ t=>cO.drop n t
def Bv:Option V->Option Value->Prop
 | some v,some u=>RelV v u
 | none,none=>True
 | _,_=>False
def KV {κ:Type}:List (κ×V)->List (κ×Value)->Prop:=Vs λ(p:κ×V) (q:κ×Value)=>p.1=q.1/\RelV p.2 q.2
def kV:Key->V
 | .inl i=>.int i
 | .inr x=>.str x
inductive HO where
 | lst (xs:List V)
 | tup (xs:List V)
 | dK (Ya:List (Key×V)) | dT (Ya:List (List Key×V))
 | set (S:Int->Bool) (n:Nat)
 | ins (C dx:Addr) (fs:List (Str×V))
 | own (x:Addr)
 | xd (fs:List (Str×V))
 | met (f x:Addr)
 | Ym (lo hi:Int)
 | YZ (o:Obj) (u:HO)
 | _E (ps:Array Value)
 | ext (φ:Heap->Prop)
abbrev Hp:=Addr->Option HO
def upd (H:Hp) (a:Addr) (o:HO):Hp:=λb=>if b=a then some o else H b
theorem aK:upd H a o a=some o:=by unfold upd;rw[if_pos rfl]
theorem bA (h:b≠a):upd H a o b=H b:=by unfold upd;rw[if_neg h]
theorem fV {H:Hp} (h:H a=some o) (h':H b=none):a≠b:=by
 intro e;subst e;rw[h] at h';cases h'
section
variable (P:Wa) (w:Wm)
def gL (H:Hp) (h:Heap) (a:Addr):HO->Prop
 | .lst xs=>xs.9<=VD/\∃(Xp:List Value) (n:Nat),cO xs Xp/\h.14 a=some { cls:=.type "list",data:=.seq Xp.12 n }
 | .tup xs=>xs.9<=VD/\∃Xp:List Value,cO xs Xp/\IsTup h a Xp.5
 | .dK Ya=>Ya.9<=VD/\(a == sysModules)=false/\∃vs,KV Ya vs/\h.DictOf (J8 P w) a vs
 | .dT Ya=>Ya.9<=VD/\(a == sysModules)=false/\∃xs:List (List Key×Addr×Value),
   Vs (λ(p:List Key×V) (q:List Key×Addr×Value)=>p.1=q.1/\H q.2.1=some (.tup (p.1.11 kV))/\RelV p.2 q.2.2) Ya xs /\
   ∃o es ep,h.14 a=some o/\o.ExactDict/\o.data=.dict es ep/\es.toList=xs.11 (entryOfKey (tupleKind (J8 P w)))/\(xs.11 (·.1)).33
 | .set S n=>h.SetOf (intKind P w) a S n
 | .ins C dx fs=>H dx=some (.own a)/\fs.9<=1000/\dx≠a/\h.14 a=some (Wf C dx) /\
   ∃mA,h.Ns1 dx mA/\(∀f,Bv (fs.13 f) (mA f))/\PySem.Within mA (fs.11 (·.1))
 | .own _=>∃o,h.14 a=some o
 | .xd fs=>∃mA,h.Ns1 a mA/\∀f,Bv (fs.13 f) (mA f)
 | .Ym lo hi=>∃t u v,h.14 a=some { cls:=.type "range",data:=.fields [.int lo t,.int hi u,.int 1 v].12 }
 | .YZ o u=>h.14 a=some o/\gL H h a u
 | ._E ps=>h.14 a=some { cls:=.none,data:=.fields ps }
 | .met f x=>h.14 a=some (PySem.W.methodObj (.ref f) (.ref x))
 | .ext φ=>φ h/\(∃o,h.14 a=some o)/\∀h1 h2:Heap,φ h1->(∀o,h1.14 a=some o->h2.14 a=some o)->φ h2
def yS (H:Hp) (h:Heap):Prop:=∀a o,H a=some o->gL P w H h a o
end
section
variable {P:Wa} {w:Wm} {H H':Hp} {h h':Heap} {a:Addr} {o:HO}
theorem gL.lt (x:gL P w H h a o):a < h.objs.7:=by
 cases o with
 | lst xs=>obtain _|_|_|_|e:=x;show Vv e
 | tup xs=>obtain _|_|_|p:=x;show p.lt
 | dK Ya=>obtain _|_|_|_|o|_|_|e|_:=x;show Vv e
 | dT Ya=>obtain _|_|_|_|o|_|_|e|_:=x;show Vv e
 | set S n=>obtain o|_|_|_|e|_:=x;show Vv e
 | ins C dx fs=>obtain _|_|_|e|_:=x;show Vv e
 | own y=>obtain _|e:=x;show Vv e
 | xd fs=>obtain _|⟨_,_,_,e,_⟩|_:=x;show Vv e
 | Ym lo hi=>obtain _|_|_|e:=x;show Vv e
 | YZ ob u=>obtain e|_:=x;show Vv e
 | _E ps=>show Vv (show h.14 a=some _ from x)
 | met f y=>show Vv (show h.14 a=some _ from x)
 | ext φ=>obtain _|⟨_,e⟩|_:=x;show Vv e
theorem Vs._T {α β:Type} {F G:α->β->Prop}:∀{l₁:List α} {l₂:List β},Vs F l₁ l₂->(∀a b,F a b->G a b)->Vs G l₁ l₂
 | _,_,.nil,_=>.nil
 | _,_,.cons r t,f=>.cons (f _ _ r) (Vs._T t f)
theorem Vs.imp' {F G:α->β->Prop} (f:∀a b,F a b->G a b) {l₁:List α} {l₂:List β} (r:Vs F l₁ l₂):Vs G l₁ l₂:=Vs._T r f
abbrev bv:=@Vs.imp'
theorem gL.Yz (x:gL P w H h a o) (k:∀b u,(b=a\/H b=some (.own a))->h.14 b=some u->h'.14 b=some u)
  (ho:∀b,H b=some (.own a)->H' b=some (.own a)) (ht:∀b xs,H b=some (.tup xs)->H' b=some (.tup xs)):gL P w H' h' a o:=by
 induction o with
 | lst xs=>obtain z|Xp|n|r|e:=x;show #[z,Xp,n,r,k _ _ (.inl rfl) e]
 | tup xs=>obtain z|Xp|r|ob|e|c:=x;show #[z,Xp,r,ob,k _ _ (.inl rfl) e,c]
 | dK Ya=>obtain z|y|vs|r|ob|es|ep|e|c:=x;show #[z,y,vs,r,ob,es,ep,k _ _ (.inl rfl) e,c]
 | dT Ya =>
  obtain z|y|xs|r|ob|es|ep|e|c:=x;show #[z,y,xs,Vs._T r λp q z=>#[z.1,ht _ _ z.2.1,z.2.2],ob,es,ep,k _ _ (.inl rfl) e,c]
 | set S n=>obtain ob|es|ep|t|e|c:=x;show #[ob,es,ep,t,k _ _ (.inl rfl) e,c]
 | ins C dx fs =>
  obtain d|z|ne|e|mA|⟨od,es,ep,e2,c⟩|r:=x;show #[ho _ d,z,ne,k _ _ (.inl rfl) e,mA,#[od,es,ep,k _ _ (.inr d) e2,c],r]
 | own y=>obtain ob|e:=x;show #[ob,k _ _ (.inl rfl) e]
 | xd fs=>obtain mA|⟨od,es,ep,e,c⟩|r:=x;show #[mA,#[od,es,ep,k _ _ (.inl rfl) e,c],r]
 | Ym lo hi=>obtain t|u|v|e:=x;show #[t,u,v,k _ _ (.inl rfl) e]
 | YZ ob u ih=>obtain e|q:=x;show #[k _ _ (.inl rfl) e,ih q]
 | _E ps =>
  have e:h.14 a=some { cls:=.none,data:=.fields ps }:=x;change h'.14 a=some { cls:=.none,data:=.fields ps }
  show k a _ (.inl rfl) e
 | met f y =>
  have e:h.14 a=some (PySem.W.methodObj (.ref f) (.ref y)):=x;change h'.14 a=some (PySem.W.methodObj (.ref f) (.ref y))
  show k a _ (.inl rfl) e
 | ext φ=>obtain p|⟨o,e⟩|st:=x;show #[st _ _ p λo q=>k _ _ (.inl rfl) q,#[o,k _ _ (.inl rfl) e],st]
theorem yS.lt (x:yS P w H h) (e:H a=some o):a < h.objs.7:=(x a o e).lt
theorem yS.fresh (x:yS P w H h) (e:h.objs.7<=a):H a=none:=by
 cases q:H a with
 | none=>rfl
 | some u=>show absurd (bI (x.lt q) e) (dm _)
theorem yS.kept (x:yS P w H h) (k:∀b u,h.14 b=some u->h'.14 b=some u):yS P w H h':=λa o e =>
 (x a o e).Yz (λb u _ q=>k b u q) (λ_ q=>q) λ_ _ q=>q
theorem yS.laid (x:yS P w H h) (k:∀b u,h.14 b=some u->h'.14 b=some u) (hp:h.objs.7<=a) (new:gL P w (upd H a o) h' a o):yS P w (upd H a o) h':=λb u e=>by
 have hn:=x.39 hp;by_cases hb:b=a
 ·subst hb;rw[aK] at e;cases e;show new
 ·rw[bA hb] at e;show (x b u e).Yz (λc v _ q=>k c v q) (λc q=>by rw[bA (fV q hn)];show q) λc xs q=>by rw[bA (fV q hn)];show q
end
def Rd (H:Hp) (a:Addr) (u:HO):Prop:=H a=some u\/∃o,H a=some (.YZ o u)
theorem Rd.ok (r:Rd H a u) (x:yS P w H h):gL P w H h a u:=by
 rcases r with r | ⟨o,r⟩
 ·show x a u r
 ·obtain _|q:=x a _ r;show q
def UR:Option HO->Prop
 | some (.lst _)=>True
 | some (.dK _)=>True
 | some (.dT _)=>True
 | some (.set _ _)=>True
 | some (.ins _ _ _)=>True
 | some (.ext _)=>True
 | _=>False
theorem yS.write (ok:yS P w H h) (mu:UR (H x)) (he:e=x\/H e=some (.own x)) (k:∀b u,b≠e->h.14 b=some u->h'.14 b=some u) (I!:∃u,h'.14 e=some u)
  (new:gL P w (upd H x o') h' x o'):yS P w (upd H x o') h':=λb u q=>by
 have aat:∀c y,H c=some (.own y)->c≠x:=λc y r z=>by subst z;rw[r] at mu;show mu
 have adu:∀c xs,H c=some (.tup xs)->c≠x:=λc xs r z=>by subst z;rw[r] at mu;show mu
 by_cases hb:b=x
 ·subst hb;rw[aK] at q;cases q;show new
 ·rw[bA hb] at q;by_cases hbe:b=e
  ·have q':H b=some (.own x):=by
    rcases he with z | z
    ·show absurd (hbe.4 z) hb
    ·rw[hbe];show z
   rw[q] at q';cases q';obtain v|hv:=I!;show #[v,by rw[hbe];show hv]
  ·refine (ok b u q).Yz (λc v hc r=>k c v ?_ r) (λc r=>by rw[bA (aat c b r)];show r) λc xs r=>by rw[bA (adu c xs r)];show r
   rcases hc with rfl | hc
   ·show hbe
   ·rintro rfl;rcases he with z | z
    ·show aat c b hc z
    ·rw[hc] at z;cases z;show hb rfl
structure Un (fs ex:List Addr) (H H':Hp) (h h':Heap):Prop where
 keep:∀b o,h.14 b=some o->H b=none->b∉fs->b∉ex->h'.14 b=some o
 slot:∀b o,h.14 b=some o->H b=none->b∈fs->b∉ex->∃sl,h'.14 b=some { o with slots:=sl }
 free:∀b o,h.14 b=some o->H b=none->b∉ex->H' b=none
 there:∀b o,h.14 b=some o->b∉ex->∃o',h'.14 b=some o'
 YG:∀b xs,H b=some (.tup xs)->H' b=some (.tup xs)
 YC:∀b o u,H b=some (.YZ o u)->H' b=some (.YZ o u)
 YH:∀b ps,H b=some (._E ps)->∃more,H' b=some (._E (ps++more))
section
variable {fs fs' ex ex':List Addr} {H H1 H2:Hp} {h h1 h2 h':Heap} {a x e:Addr} {o:HO}
theorem Un.any (u:Un fs ex H H1 h h1) (q:h.14 b=some ob) (n:H b=none) (hx:b∉ex):∃sl,h1.14 b=some { ob with slots:=sl }:=by
 by_cases hb:b∈fs
 ·show u.slot b ob q n hb hx
 ·show #[ob.slots,u.keep b ob q n hb hx]
theorem Un.kept (k:∀b u,h.14 b=some u->h'.14 b=some u):Un fs ex H H h h' :=
 #[λb ob q _ _ _=>k b ob q,λb ob q _ _ _=>#[ob.slots,k b ob q],λ_ _ _ n _=>n,λb ob q _=>#[ob,k b ob q],λ_ _ q=>q,λ_ _ _ q=>q,λ_ ps q=>#[[].12,by rw[q];simp]]
theorem Un.refl:Un fs ex H H h h:=Un.kept λ_ _ q=>q
theorem Un.laid (k:∀b u,h.14 b=some u->h'.14 b=some u) (hp:h.objs.7<=a) (hn:H a=none):Un fs ex H (upd H a o) h h' where
 keep:=λb u q _ _ _=>k b u q
 slot:=λb u q _ _ _=>#[u.slots,k b u q]
 free:=λb u q n _=>by rw[bA (cG (bI (Vv q) hp))];show n
 there:=λb u q _=>#[u,k b u q]
 YG:=λb xs q=>by rw[bA (fV q hn)];show q
 YC:=λb u xs q=>by rw[bA (fV q hn)];show q
 YH:=λb ps q=>#[[].12,by rw[bA (fV q hn),q];simp]
theorem Un.write (mu:UR (H x)) (he:e=x\/H e=some (.own x)) (k:∀b u,b≠e->h.14 b=some u->h'.14 b=some u) (I!:∃u,h'.14 e=some u):Un fs ex H (upd H x o) h h':=by
 have hx:∀b,H b=none->b≠x:=λb n z=>by subst z;rw[n] at mu;show mu
 have hb:∀b,H b=none->b≠e:=λb n z=>by
  subst z;rcases he with r | r
  ·show hx b n r
  ·rw[n] at r;cases r
 have hm:∀b u,H b=some u->¬UR (some u)->b≠x:=λb u q nm z=>by subst z;rw[q] at mu;show nm mu
 refine #[λb u q n _ _=>k b u (hb b n) q,λb u q n _ _=>#[u.slots,k b u (hb b n) q],λb u q n _=>by rw[bA (hx b n)];show n,λb u q _=>?_,
  λb xs q=>by rw[bA (hm b _ q λz=>z)];show q,λb u xs q=>by rw[bA (hm b _ q λz=>z)];show q,λb ps q=>#[[].12,by rw[bA (hm b _ q λz=>z),q];simp]]
 by_cases hbe:b=e
 ·subst hbe;show I!
 ·show #[u,k b u hbe q]
end
def UL (h:Heap) (H:Hp):List Addr:=(Vt h.objs.7).filter λa=>(H a).isSome
def DB (h:Heap) (H:Hp):Heap:=PySem.W.hideAll h (UL h H)
theorem Lf (h:Heap) (H:Hp):(DB h H).objs.size=h.objs.7:=PySem.W.hideAll_size _ _
theorem Nl (e:h.14 b=some o) (n:H b=none):(DB h H).14 b=some o :=
 PySem.W.hideAll_get _ e λhm=>by
  have q:(H b).isSome=true:=(fP.mp hm).2;rw[n] at q;simp at q
theorem Pn (e:(DB h H).14 b=some o):h.14 b=some o/\H b=none:=by
 have e':h.14 b=some o:=PySem.W.of_hideAll (UL h H) e;refine #[e',?_];cases q:H b with
 | none=>rfl
 | some x =>
  have hm:b∈UL h H:=fP.mpr #[kC.mpr (Vv e'),by simp [q]];have z:(DB h H).14 b=none:=PySem.W.hideAll_none (UL h H) hm;rw[z] at e;cases e
structure Mod (K:Xn) (mg:Str->Option Value) (base:Heap):Prop where
 kin:K.In base
 glob:base.Ns VE mg
 blt:∃mb,base.Ns builtinsNs mb/\∀x:Str,x≠"__name__"->mb x=Ww x
 nolimit:base.NoLimit
 seer:base.NoSeer
structure Cx where
 prog:Wa
 w:Wm
 K:Xn
 mg:Str->Option Value
 base:Heap
 A:VZ
 N:List Str
 s₀:Vr
 H₀:Hp
 env:Env
 outer:List Env
 stack:List Env
 ex:List Addr
 fn:Str->Bool
 calm:Bool
 pn:List (Addr×Obj)
 xe:Value->Vr->Prop
def LU (l:List Env):List Addr:=l.filterMap (·.frame)
abbrev Cx.fs (X:Cx):List Addr:=LU X.outer
def Vc (sc:Scope) (x:Str):Prop:=sc.names.13 x=some .local\/sc.names.13 x=some .cell\/sc.names.13 x=some .free
def Loc (sc:Scope) (x:Str):Prop:=sc.names.13 x=some .local\/sc.names.13 x=some .cell
def Look (env:Env) (h:Heap) (m:Str->Option Value) (x:Str) (u:Value):Prop :=
 (env.43 x=some .local/\m x=some u)\/((env.43 x=some .cell\/env.43 x=some .free)/\∃c,env.cells.13 x=some c/\h.IsCell c (some u))
structure Cx.Ok (X:Cx):Prop where
 mod:Mod X.K X.mg X.49
 kind:X.env.scope.36=.function
 glob:X.env.globals=VE
 blt:X.env.builtins=builtinsNs
 above:X.s₀.6<=X.env.41
 inj:∀x y c,X.env.cells.13 x=some c->X.env.cells.13 y=some c->x=y
 has:∀x,(X.env.43 x=some .cell\/X.env.43 x=some .free)->∃c,X.env.cells.13 x=some c
 cab:∀x c,X.fn x=true->X.env.cells.13 x=some c->X.s₀.6<=c
 hd:X.calm=true->X.A.handled=none
 frames:X.A.frames=some X.51
 stk:X.51=X.outer\/(X.51=X.16 :: X.outer/\X.env.frame=some X.env.41)
 exf:∀b∈X.ex,b≠X.env.41/\∀x c,X.env.cells.13 x=some c->c≠b
 bs:∀b o,X.base.14 b=some o->X.s₀.heap.14 b=some o/\X.H₀ b=none
 _i:X.base.objs.7<=X.s₀.heap.objs.35
 ZA:∀b o,X.base.14 b=some o->b∉X.ex
 ZL:∀b∈X.ex,b∉X.fs
 Yk:X.s₀.heap.FunFrames X.49 X.outer
 n!:∀b∈X.fs,X.H₀ b=none
structure Inv (X:Cx) (Xe:List (Addr×Obj)) (σ:List (Option V)) (H:Hp) (s:Vr):Prop where
 ok:X.Ok
 os:s.os=X.s₀.os
 bare:AllBare s.gens
 base:Un X.fs X.ex X.H₀ H X.s₀.26 s.26
 loc:∃m,s.heap.Ns X.env.41 m/\∀(i:Nat) (x:Str) (v:V),X.N[i]?=some x->σ[i]?=some (some v)->Vc X.env.scope x->∃u,RelV v u/\Look X.16 s.26 m x u
 cell:∀x c,X.env.cells.13 x=some c->∃v,s.heap.IsCell c v
 free:H X.env.41=none
 XJ:∀x c,X.env.cells.13 x=some c->H c=none
 pin:∀p∈X.pn++Xe,s.heap.14 p.1=some p.2/\H p.1=none/\p.1≠X.env.41/\p.1∉X.fs/\∀v,p.2.data≠.cell v
 Xw:yS X.18 X.w H s.26
 len:σ.9=X.N.9
section
variable {X:Cx} {Xe:List (Addr×Obj)} {σ:List (Option V)} {H H':Hp} {s:Vr} {h':Heap}
theorem Cx.Ok.adA (ok:X.Ok) (e:X.base.14 b=some o):b∉X.fs:=λhb=>by
 have:=(ok.Yk.mem hb).1;rw[e] at this;cases this
theorem Inv.bs (I:Inv X Xe σ H s):∀b o,X.base.14 b=some o->s.heap.14 b=some o/\H b=none:=λb o e =>
 #[I.base.keep b o (I.ok.bs b o e).1 (I.ok.bs b o e).2 (I.ok.adA e) (I.ok.ZA b o e),I.base.54 b o (I.ok.bs b o e).1 (I.ok.bs b o e).2 (I.ok.ZA b o e)]
theorem Inv.bk (I:Inv X Xe σ H s):∀b o,X.base.14 b=some o->s.heap.14 b=some o:=λb o e=>(I.bs b o e).1
theorem Inv.mod (I:Inv X Xe σ H s):Mod X.K X.mg X.49:=I.ok.mod
theorem Inv.XN (I:Inv X Xe σ H s):X.K.In s.8:=I.ok.mod.kin.keeps I.bk
theorem Inv.nolimit (I:Inv X Xe σ H s):s.heap.NoLimit:=I.ok.mod.nolimit.keeps I.bk
theorem Inv.lt (I:Inv X Xe σ H s):X.env.41 < s.6:=let ⟨_,hn,_⟩:=I.loc;hn.lt
theorem Inv.sz (I:Inv X Xe σ H s):X.s₀.6<=s.6:=ag I.ok.above (cP I.lt)
theorem Inv.adz (I:Inv X Xe σ H s) {a:Addr} (h:s.6<=a):a∉X.fs:=λhb=>by
 obtain _|o|ho|_:=I.ok.Yk.mem hb;show absurd (bI (Vv ho) (ag I.sz h)) (dm _)
theorem Inv.p! (I:Inv X Xe σ H s):∀x c,X.env.cells.13 x=some c->c≠X.env.41:=λx c e z=>by
 obtain v|o|ho|hd:=I.cell x c e;obtain m|⟨o',es,ep,a!,hd',_⟩|_:=I.loc;rw[z,a!] at ho;cases ho;rw[hd'] at hd;cases hd
theorem Inv.Yk (I:Inv X Xe σ H s):s.heap.FunFrames X.49 X.outer:=by
 have all:∀(l:List Env),(∀b∈LU l,b∈X.fs)->X.s₀.heap.FunFrames X.49 l->s.heap.FunFrames X.49 l:=by
  intro l
  induction l with
  | nil=>intro _ _;trivial
  | cons env r ih =>
   intro hs hl;obtain hk|⟨L,o,hf,hn,ho,hd⟩|hr:=hl;have hL:L∈X.fs:=hs L (by unfold LU;rw[ED,hf];show cC);obtain sl|e:=I.base.slot L o ho (I.ok.n! L hL) hL λz=>I.ok.ZL L z hL
   show #[hk,#[L,_,hf,hn,e,hd],ih (λb hb=>hs b (by unfold LU;rw[ED,hf];show bP _ hb)) hr]
 show all X.outer (λ_ hb=>hb) I.ok.Yk
theorem Inv.stack (I:Inv X Xe σ H s):s.heap.FunFrames X.49 X.51:=by
 rcases I.ok.stk with e | ⟨e,hf⟩
 ·rw[e];show I.Yk
 ·rw[e];obtain m|hn|_:=I.loc;refine .cons (by rw[I.ok.36];decide) hf hn ?_ I.Yk;show Heap.get?_none_of_le (ag I.ok._i I.ok.above)
theorem Inv.Y0 (I:Inv X Xe σ H s):∀b∈LU X.51,b∈X.env.41 :: X.fs:=λb hb=>by
 rcases I.ok.stk with e | ⟨e,hf⟩
 ·rw[e] at hb;show bP _ hb
 ·rw[e] at hb;unfold LU at hb;rw[ED,hf] at hb;show hb
theorem Inv.Y8 (I:Inv X Xe σ H s):∀b∈LU X.51,H b=none:=λb hb=>by
 rcases aF.mp (I.Y0 b hb) with e | hb
 ·rw[e];show I.54
 ·obtain _|o|ho|_:=I.ok.Yk.mem hb;show I.base.54 b o ho (I.ok.n! b hb) λz=>I.ok.ZL b z hb
theorem Inv.step {ch:List Addr} (I:Inv X Xe σ H s)
  (ZW:∀b∈ch,(b∈X.ex\/X.s₀.6<=b)/\b≠X.env.41/\(∀x c,X.env.cells.13 x=some c->c≠b)/\∀p∈X.pn++Xe,p.1≠b)
  (keep:∀b o,b≠X.env.41->b∉X.fs->b∉ch->s.heap.14 b=some o->H b=none->h'.14 b=some o)
  (slot:∀b o,b≠X.env.41->b∈X.fs->b∉ch->s.heap.14 b=some o->H b=none->∃sl,h'.14 b=some { o with slots:=sl }) (free:∀b o,b∉ch->s.heap.14 b=some o->H b=none->H' b=none)
  (there:∀b o,b∉ch->s.heap.14 b=some o->∃o',h'.14 b=some o')
  (YG:∀b xs,H b=some (.tup xs)->H' b=some (.tup xs)) (YC:∀b o u,H b=some (.YZ o u)->H' b=some (.YZ o u)) (YH:∀b ps,H b=some (._E ps)->∃more,H' b=some (._E (ps++more)))
  (ns:∀m,s.heap.Ns X.env.41 m->h'.Ns X.env.41 m) (Xw:yS X.18 X.w H' h') (hg:AllBare g') :
  Inv X Xe σ H' { s with heap:=h',gens:=g',drawn:=d',toks:=t' }:=by
 have neL:∀b o,X.s₀.heap.14 b=some o->b≠X.env.41:=λb o e=>cG (bI (Vv e) I.ok.above)
 have neC:∀b o,X.s₀.heap.14 b=some o->b∉X.ex->b∉ch:=λb o e hx hb=>by
  rcases (ZW b hb).1 with z | z
  ·show hx z
  ·show absurd (bI (Vv e) z) (dm _)
 have cellK:∀x c,X.env.cells.13 x=some c->∀v,s.heap.IsCell c v->h'.IsCell c v:=λx c e v #[o,ho,hd]=>by
  have nch:c∉ch:=λz=>(ZW c z).2.2.1 x c e rfl
  by_cases hc:c∈X.fs
  ·obtain sl|q:=slot c o (I.p! x c e) hc nch ho (I.XJ x c e);show #[_,q,hd]
  ·show #[o,keep c o (I.p! x c e) hc nch ho (I.XJ x c e),hd]
 refine #[I.ok,I.os,hg,#[λb o e n hb hx=>?_,λb o e n hb hx=>?_,λb o e n hx=>?_,λb o e hx=>?_,λb xs e=>YG b xs (I.base.YG b xs e),λb o xs e=>YC b o xs (I.base.YC b o xs e),λb ps e=>?_],?_,λx c e=>?_,?_,λx c e=>?_,λp hp=>?_,Xw,I.38]
 ·show keep b o (neL b o e) hb (neC b o e hx) (I.base.keep b o e n hb hx) (I.base.54 b o e n hx)
 ·obtain sl|e1:=I.base.slot b o e n hb hx;obtain sl'|e2:=slot b _ (neL b o e) hb (neC b o e hx) e1 (I.base.54 b o e n hx);show #[sl',e2]
 ·obtain o'|e1:=I.base.there b o e hx;show free b o' (neC b o e hx) e1 (I.base.54 b o e n hx)
 ·obtain o'|e1:=I.base.there b o e hx;show there b o' (neC b o e hx) e1
 ·obtain m1|e1:=I.base.YH b ps e;obtain m2|e2:=YH b _ e1;show #[m1++m2,by rw[e2,Array.append_assoc]]
 ·obtain m|hn|hl:=I.loc;refine #[m,ns m hn,λi x v e1 e2 e3=>?_];obtain u|r|l:=hl i x v e1 e2 e3;refine #[u,r,?_];rcases l with l | ⟨k,c,e,z⟩
  ·show .inl l
  ·show .inr #[k,c,e,cellK x c e _ z]
 ·obtain v|z:=I.cell x c e;show #[v,cellK x c e v z]
 ·obtain m|⟨o,_,_,ho,_⟩|_:=I.loc;show free _ o (λz=>(ZW _ z).2.1 rfl) ho I.54
 ·obtain v|o|ho|hd:=I.cell x c e;show free c o (λz=>(ZW c z).2.2.1 x c e rfl) ho (I.XJ x c e)
 ·obtain e|n|ne|nf|d:=I.pin p hp;have nch:p.1∉ch:=λz=>(ZW p.1 z).2.2.2 p hp rfl
  show #[keep p.1 p.2 ne nf nch e n,free p.1 p.2 nch e n,ne,nf,d]
theorem Inv.un (I:Inv X Xe σ H s) (u:Un X.fs [] H H' s.26 h') (Xw:yS X.18 X.w H' h'):Inv X Xe σ H' { s with heap:=h',toks:=t' }:=by
 obtain m|⟨o,es,ep,ho,r⟩|_:=id I.loc;obtain sl|hL:=u.58 ho I.54 (by simp)
 show I.step (g':=s.gens) (d':=s.drawn) (ch:=[]) (λ_ z=>nomatch z) (λb o _ hb _ e n=>u.keep b o e n hb (by simp)) (λb o _ hb _ e n=>u.slot b o e n hb (by simp)) (λb o _ e n=>u.54 b o e n (by simp)) (λb o _ e=>u.there b o e (by simp)) u.YG u.YC u.YH (λm' hm=>by
  obtain o'|es'|ep'|a!|r':=hm;rw[ho] at a!;cases a!;show #[_,es',ep',hL,r']) Xw I.bare
theorem Inv.call (I:Inv X Xe σ H s) (u:Un (LU X.51) ch H H' s.26 h') (Xw:yS X.18 X.w H' h') (hg:AllBare g')
  (ZW:∀b∈ch,(b∈X.ex\/X.s₀.6<=b)/\b≠X.env.41/\(∀x c,X.env.cells.13 x=some c->c≠b)/\∀p∈X.pn++Xe,p.1≠b) :
  Inv X Xe σ H' { s with heap:=h',gens:=g',drawn:=d',toks:=t' }:=by
 obtain m|⟨o,es,ep,ho,r⟩|_:=id I.loc;obtain sl|hL:=u.58 ho I.54 λz=>(ZW _ z).2.1 rfl
 show I.step (ch:=ch) ZW (λb o hL hb hc e n=>u.keep b o e n (λz=>(aF.mp (I.Y0 b z)).55 hL hb) hc) (λb o _ _ hc e n=>u.58 e n hc) (λb o hc e n=>u.54 b o e n hc) (λb o hc e=>u.there b o e hc) u.YG u.YC u.YH (λm' hm=>by
  obtain o'|es'|ep'|a!|r':=hm;rw[ho] at a!;cases a!;show #[_,es',ep',hL,r']) Xw hg
theorem Inv.turned (I:Inv X Xe σ H s) (k:∀b o,b≠it->s.heap.14 b=some o->h'.14 b=some o) (hn:H it=none) (hL:it≠X.env.41)
  (h1:it∈X.ex\/X.s₀.6<=it) (h2:∀x c,X.env.cells.13 x=some c->c≠it) (h3:∀p∈X.pn++Xe,p.1≠it):Inv X Xe σ H { s with heap:=h',toks:=t' }:=by
 have nit:∀b u,H b=some u->b≠it:=λb u e z=>by rw[z,hn] at e;cases e
 refine I.step (g':=s.gens) (d':=s.drawn) (ch:=[it]) (λb hb=>?_) (λb o _ _ hc e _=>k b o (λz=>hc (by simp [z])) e) (λb o _ _ hc e _=>#[o.slots,k b o (λz=>hc (by simp [z])) e]) (λ_ _ _ _ n=>n)
  (λb o hc e=>#[o,k b o (λz=>hc (by simp [z])) e]) (λ_ _ e=>e) (λ_ _ _ e=>e) (λb ps e=>#[[].12,by rw[e];simp]) (λm hm=>?_) (λb u e=>?_) I.bare
 ·have e:b=it:=by simpa using hb
  subst e;show #[h1,hL,h2,h3]
 ·obtain o|es|ep|ho|r:=hm;show #[o,es,ep,k _ o (Wc hL) ho,r]
 ·refine (I.Xw b u e).Yz (λc v hc q=>k c v ?_ q) (λ_ q=>q) λ_ _ q=>q
  rcases hc with z | z
  ·rw[z];show nit b u e
  ·show nit c _ z
theorem Inv.tok (I:Inv X Xe σ H s) (t:Nat):Inv X Xe σ H { s with toks:=t }:=I.un (h':=s.8) (t':=t) Un.refl I.Xw
theorem Inv.kept (I:Inv X Xe σ H s) (k:∀b u,s.heap.14 b=some u->h'.14 b=some u):Inv X Xe σ H { s with heap:=h',toks:=t' }:=I.un (Un.kept k) (I.Xw.59 k)
theorem Inv.laid {a:Addr} (I:Inv X Xe σ H s) (k:∀b u,s.heap.14 b=some u->h'.14 b=some u) (hp:s.6<=a) (new:gL X.18 X.w (upd H a o) h' a o) :
  Inv X Xe σ (upd H a o) { s with heap:=h',toks:=t' }:=I.un (Un.laid k hp (I.Xw.39 hp)) (I.Xw.laid k hp new)
theorem Inv.write (I:Inv X Xe σ H s) (mu:UR (H x)) (he:e=x\/H e=some (.own x)) (k:∀b u,b≠e->s.heap.14 b=some u->h'.14 b=some u) (I!:∃u,h'.14 e=some u)
  (new:gL X.18 X.w (upd H x o) h' x o):Inv X Xe σ (upd H x o) { s with heap:=h',toks:=t' }:=I.un (Un.write mu he k I!) (I.Xw.write mu he k I! new)
theorem Inv.Yn (I:Inv X Xe σ H s) (h:∀p∈pins',s.heap.14 p.1=some p.2/\H p.1=none/\p.1≠X.env.41/\p.1∉X.fs/\∀v,p.2.data≠.cell v):Inv X pins' σ H s :=
 #[I.ok,I.os,I.bare,I.49,I.loc,I.cell,I.54,I.XJ,λp hp=>(ao.mp hp).55 (λz=>I.pin p (cI _ z)) (h p),I.Xw,I.38]
theorem Fp {N:List Str} (hN:N.33) {i j:Nat} (a:N[i]?=some x) (b:N[j]?=some x):i=j:=by
 obtain h1|e1:=aB.mp a;obtain h2|e2:=aB.mp b;show (List.getElem_inj hN).mp (e1.4 e2.20)
theorem BA {M:Model} {A:VZ} {E:Value->Vr->Prop} {i:Nat} {x:Str} {v:V} {u:Value} {Q:Unit->Vr->Prop} (I:Inv X Xe σ H s) (hN:X.N.33) (hi:X.N[i]?=some x) (hx:Loc X.env.scope x) (r:RelV v u)
  (h:∀s',Inv X Xe (σ.42 i (some v)) H s'->(∃a,WS a s.26 s'.8/\(a=X.env.41\/X.env.cells.13 x=some a))->Q .unit s') (hf:X.fn x=true\/X.env.scope.names.13 x=some .local:=by first | show .inl rfl | show .inr rfl | assumption):VC M A (storeName X.16 x u) Q E s:=by
 obtain m|hn|hl:=id I.loc;have aeL:(X.env.scope.36 == .class || (X.env.scope.36 == .module && X.env.41 != X.env.globals))=false:=by rw[I.ok.36];rfl
 have hiσ:i < σ.9:=by rw[I.38];show (aB.mp hi).1
 have p!:=I.p!
 have tracked:∀{a:Addr} {h':Heap},(∃o,s.heap.14 a=some o/\H a=none)->WS a s.26 h'->yS X.18 X.w H h':=λ{a h'} ha hs b ob e=>by
  obtain _|_|_w:=ha;refine (I.Xw b ob e).Yz (λc w' hc q=>(hs.2 c ?_).4 q) (λ_ q=>q) λ_ _ q=>q
  rintro rfl;rcases hc with rfl | hc
  ·rw[_w] at e;cases e
  ·rw[_w] at hc;cases hc
 rcases hx with hk | hk
 ·refine wpAny_storeName_local hk hn (λh' hn' hs=>?_) aeL;obtain oL|_|_|hoL|_:=id hn;refine h _ #[I.ok,I.os,I.bare,#[λb o e n hb hx=>?_,λb o e n hb hx=>?_,I.base.54,λb o e hx=>?_,I.base.YG,I.base.YC,I.base.YH],#[_,hn',λj y v' e1 e2 e3=>?_],λy c e=>?_,I.54,I.XJ,λp hp=>?_,tracked #[oL,hoL,I.54] hs,by simpa using I.38] #[_,hs,.inl rfl]
  ·show (hs.2 b (cG (bI (Vv e) I.ok.above))).4 (I.base.keep b o e n hb hx)
  ·obtain sl|e1:=I.base.slot b o e n hb hx;show #[sl,(hs.2 b (cG (bI (Vv e) I.ok.above))).4 e1]
  ·obtain o'|e1:=I.base.there b o e hx;show #[o',(hs.2 b (cG (bI (Vv e) I.ok.above))).4 e1]
  ·by_cases hj:j=i
   ·subst hj;rw[hi] at e1;cases e1;rw[List.getElem?_set_self hiσ] at e2;cases e2;show #[u,r,.inl #[hk,by simp]]
   ·rw[List.getElem?_set_ne (Wc hj)] at e2;obtain u'|r'|q:=hl j y v' e1 e2 e3;refine #[u',r',?_];rcases q with ⟨k,e⟩ | ⟨k,c,e,z⟩
    ·refine .inl #[k,?_];have:y≠x:=λe=>hj (Fp hN e1 (e ▸ hi))
     simp [this,e]
    ·show .inr #[k,c,e,z.sameBut hs (p! y c e)]
  ·obtain w'|z:=I.cell y c e;show #[w',z.sameBut hs (p! y c e)]
  ·obtain e|n|ne|nf|d:=I.pin p hp;show #[(hs.2 p.1 ne).4 e,n,ne,nf,d]
 ·have hfn:X.fn x=true:=by
   rcases hf with z | z
   ·show z
   ·rw[z] at hk;cases hk
  obtain c|hc:=I.ok.has x (.inl hk);obtain w'|z:=I.cell x c hc;refine wpAny_storeName_cell I.ok.36 hk hc z (λh' YB hs=>?_);obtain oc|hoc|aet:=id z;refine h { s with heap:=h' } ⟨I.ok,I.os,I.bare,⟨λb o e n hb hx=>?_,λb o e n hb hx=>?_,I.base.54,λb o e hx=>?_,I.base.YG,I.base.YC,I.base.YH⟩,#[m,hn.sameBut hs (Wc (p! x c hc)),λj y v' e1 e2 e3=>?_],λy c' e=>?_,I.54,I.XJ,λp hp=>?_,tracked #[oc,hoc,I.XJ x c hc] hs,by simpa using I.38⟩ #[c,hs,.inr hc]
  ·show (hs.2 b (cG (bI (Vv e) (I.ok.cab x c hfn hc)))).4 (I.base.keep b o e n hb hx)
  ·obtain sl|e1:=I.base.slot b o e n hb hx;show #[sl,(hs.2 b (cG (bI (Vv e) (I.ok.cab x c hfn hc)))).4 e1]
  ·obtain o'|e1:=I.base.there b o e hx;show #[o',(hs.2 b (cG (bI (Vv e) (I.ok.cab x c hfn hc)))).4 e1]
  ·by_cases hj:j=i
   ·subst hj;rw[hi] at e1;cases e1;rw[List.getElem?_set_self hiσ] at e2;cases e2;show #[u,r,.inr #[.inl hk,c,hc,YB]]
   ·rw[List.getElem?_set_ne (Wc hj)] at e2;obtain u'|r'|q:=hl j y v' e1 e2 e3;refine #[u',r',?_];rcases q with q | ⟨k,c',e,z'⟩
    ·show .inl q
    ·refine .inr #[k,c',e,z'.sameBut hs ?_];rintro rfl;show hj (Fp hN e1 (I.ok.inj _ _ _ e hc ▸ hi))
  ·by_cases hcc:c'=c
   ·subst hcc;show #[_,YB]
   ·obtain w2|z2:=I.cell y c' e;show #[w2,z2.sameBut hs hcc]
  ·obtain e|n|ne|nf|d:=I.pin p hp;refine #[(hs.2 p.1 ?_).4 e,n,ne,nf,d];intro q;rw[q,hoc] at e;have q':oc=p.2:=cv e;show d w' (by rw[<- q'];show aet)
theorem uW {M:Model} {A:VZ} {E:Value->Vr->Prop} {i:Nat} {x:Str} {v:V} {u:Value} {Q:Unit->Vr->Prop} (I:Inv X Xe σ H s) (hN:X.N.33) (hi:X.N[i]?=some x) (hx:Loc X.env.scope x) (r:RelV v u)
  (h:∀s',Inv X Xe (σ.42 i (some v)) H s'->Q .unit s') (hf:X.fn x=true\/X.env.scope.names.13 x=some .local:=by first | show .inl rfl | show .inr rfl | assumption):VC M A (storeName X.16 x u) Q E s :=
 BA I hN hi hx r (λs' I' _=>h s' I') hf
theorem Inv.abq (I:Inv X Xe σ H s) (ho:s'.os=s.os) (u:Un (LU X.51) ch H H' s.26 s'.8) (Xw:yS X.18 X.w H' s'.8) (hg:AllBare s'.gens)
  (ZW:∀b∈ch,(b∈X.ex\/X.s₀.6<=b)/\b≠X.env.41/\(∀x c,X.env.cells.13 x=some c->c≠b)/\∀p∈X.pn++Xe,p.1≠b):Inv X Xe σ H' s':=by
 obtain h'|g'|d'|t'|o':=s';have e:o'=s.os:=ho;subst e;show I.call (g':=g') (t':=t') (d':=d') u Xw hg ZW
end
abbrev XK:=Value->Option Addr->Hp->Prop
abbrev St:=List (Option V)
abbrev VK:=V->Hp->Prop
abbrev TE:=St->Hp->VK->Prop
abbrev TT:=St->Hp->(Bool->Hp->Prop)->Prop
abbrev TA:=St->Hp->(List V->Hp->Prop)->Prop
structure Ends where
 nx:St->Hp->Prop
 rt:VK
 bk:St->Hp->Prop:=λ_ _=>False
 ct:St->Hp->Prop:=λ_ _=>False
abbrev TS:=Ends->St->Hp->Prop
def EP (X:Cx) (Xe:List (Addr×Obj)) (σ:St) (Q:VK) (u:Value) (s':Vr):Prop:=∃v H',Inv X Xe σ H' s'/\RelV v u/\Q v H'
def TP (X:Cx) (Xe:List (Addr×Obj)) (σ:St) (Q:Bool->Hp->Prop) (b:Bool) (s':Vr):Prop:=∃H',Inv X Xe σ H' s'/\Q b H'
def AP (X:Cx) (Xe:List (Addr×Obj)) (σ:St) (Q:List V->Hp->Prop) (us:List Value) (s':Vr):Prop:=∃vs H',Inv X Xe σ H' s'/\cO vs us/\Q vs H'
def SP (X:Cx) (Xe:List (Addr×Obj)) (D:Ends) (f:Flow) (s':Vr):Prop :=
 match f with
 | .next=>∃σ' H',Inv X Xe σ' H' s'/\D.nx σ' H'
 | .brk=>∃σ' H',Inv X Xe σ' H' s'/\D.bk σ' H'
 | .cont=>∃σ' H',Inv X Xe σ' H' s'/\D.ct σ' H'
 | .ret u=>∃v σ' H',Inv X Xe σ' H' s'/\RelV v u/\D.rt v H'
def PE (X:Cx) (e:Expr) (t:TE):Prop :=
 ∀(Xe:List (Addr×Obj)) (s:Vr) (σ:St) (H:Hp) (Q:VK),Inv X Xe σ H s->t σ H Q->VC (model X.18 X.w) X.A (eval e X.16) (EP X Xe σ Q) X.xe s
def PT (X:Cx) (e:Expr) (t:TT):Prop :=
 ∀(Xe:List (Addr×Obj)) (s:Vr) (σ:St) (H:Hp) (Q:Bool->Hp->Prop),Inv X Xe σ H s->t σ H Q->VC (model X.18 X.w) X.A (isTrue e X.16 (eval e X.16)) (TP X Xe σ Q) X.xe s
def PW (X:Cx) (e:Expr) (t:TT):Prop :=
 ∀(whole:Sem Value) (Xe:List (Addr×Obj)) (s:Vr) (σ:St) (H:Hp) (Q:Bool->Hp->Prop),Inv X Xe σ H s->t σ H Q->VC (model X.18 X.w) X.A (isTrue e X.16 whole) (TP X Xe σ Q) X.xe s
theorem PW.pt (h:PW X e t):PT X e t:=h _
def PA (X:Cx) (es:List Expr) (t:TA):Prop :=
 ∀(pos:Pos) (Xe:List (Addr×Obj)) (s:Vr) (σ:St) (H:Hp) (Q:List V->Hp->Prop),Inv X Xe σ H s->t σ H Q->VC (model X.18 X.w) X.A (spliced (WT pos (Vu es X.16))) (AP X Xe σ Q) X.xe s
def PS (X:Cx) (st:Stmt) (t:TS):Prop :=
 ∀(Xe:List (Addr×Obj)) (s:Vr) (σ:St) (H:Hp) (D:Ends),Inv X Xe σ H s->t D σ H->VC (model X.18 X.w) X.A (exec st X.16) (SP X Xe D) X.xe s
def GS (X:Cx) (st:List Stmt) (t:TS):Prop :=
 ∀(Xe:List (Addr×Obj)) (s:Vr) (σ:St) (H:Hp) (D:Ends),Inv X Xe σ H s->t D σ H->VC (model X.18 X.w) X.A (execs st X.16) (SP X Xe D) X.xe s
theorem gX {t:Sem α} {Q Q':α->Vr->Prop} (h:VC M A t Q E s) (hQ:∀a s,Q a s->Q' a s):VC M A t Q' E s:=Wy h hQ λ_ _ x=>x
section
variable {X:Cx}
def Q5 (i:Nat):TE:=λσ H Q=>∃v,σ[i]?=some (some v)/\Q v H
def tC (v:V):TE:=λ_ H Q=>Q v H
theorem Sh {i:Nat} {x:Str} {pos:Pos} (hN:X.N[i]?=some x) (hv:Vc X.env.scope x) (hd:(x == ("__debug__":Str))=false:=by decide) (ZI:(x == ("__classdict__":Str))=false:=by decide):PE X (.Name x pos) (Q5 i):=by
 intro Xe s σ H Q I h;obtain v|e|h:=h;obtain m|hn|hl:=I.loc;obtain u|r|l:=hl i x v hN e hv;have fin:EP X Xe σ Q u s:=#[v,H,I,r,h];rcases l with ⟨hk,hm⟩ | ⟨hk,c,hc,_x⟩
 ·show wpAny_Name (wpAny_loadName_local I.ok.36 hk hn hm fin) hd
 ·rcases hk with hk | hk
  ·show wpAny_Name (wpAny_loadName_cell I.ok.36 hk hc _x fin) hd
  ·show wpAny_Name (wpAny_loadName_free I.ok.36 hk hc _x fin ZI) hd
theorem aw:PE X (.Constant (.int i) j pos) (tC (.int i)):=λ_ _ _ H _ I h=>wpAny_Constant_int #[.int i,H,I.tok _,#[_,rfl],h]
theorem nQ:PE X (.Constant (.bool b) j pos) (tC (.bl b)):=λ_ _ _ H _ I h=>Constant_bool #[.bl b,H,I,rfl,h]
theorem C7:PE X (.Constant .none j pos) (tC .Xy):=λ_ _ _ H _ I h=>Constant_none #[.Xy,H,I,rfl,h]
def Gl (X:Cx) (x:Str):Prop:=X.env.43 x=some .globalImplicit
theorem Dw {E:Value->Vr->Prop} {Xe:List (Addr×Obj)} {s:Vr} {σ:St} {H:Hp} {x:Str} {u:Value} {pos:Pos} {Q:Value->Vr->Prop} (I:Inv X Xe σ H s) (hg:Gl X x) (hm:X.mg x=some u) (h:Q u s)
  (hd:(x == ("__debug__":Str))=false:=by decide):VC (model X.18 X.w) X.A (eval (.Name x pos) X.16) Q E s :=
 Calls.Name_function_global I.ok.36 hg (Calls.loadGlobal_global (by rw[I.ok.glob];show I.mod.glob.keeps I.bk) hm h) hd
theorem kS {E:Value->Vr->Prop} {Xe:List (Addr×Obj)} {s:Vr} {σ:St} {H:Hp} {x:Str} {u:Value} {pos:Pos} {Q:Value->Vr->Prop} (I:Inv X Xe σ H s) (hg:Gl X x) (hm:X.mg x=none) (hv:Ww x=some u) (h:Q u s)
  (hn:x≠"__name__":=by decide) (hd:(x == ("__debug__":Str))=false:=by decide):VC (model X.18 X.w) X.A (eval (.Name x pos) X.16) Q E s:=by
 obtain mb|h1|h2:=I.mod.blt;show Calls.Name_function_global I.ok.36 hg (Calls.loadGlobal_builtin (by rw[I.ok.glob];show I.mod.glob.keeps I.bk) hm (by rw[I.ok.blt];show h1.keeps I.bk) ((h2 x hn).4 hv) h) hd
theorem qj {x:Str} {v:V} {u:Value} {pos:Pos} (hg:Gl X x) (hm:X.mg x=some u) (r:RelV v u) (hd:(x == ("__debug__":Str))=false:=by decide):PE X (.Name x pos) (tC v) :=
 λ_ _ _ H _ I h=>Dw I hg hm #[v,H,I,r,h] hd
theorem yL {x:Str} {v:V} {u:Value} {pos:Pos} (hg:Gl X x) (hm:X.mg x=none) (hv:Ww x=some u) (r:RelV v u) (hn:x≠"__name__":=by decide) (hd:(x == ("__debug__":Str))=false:=by decide):PE X (.Name x pos) (tC v) :=
 λ_ _ _ H _ I h=>kS I hg hm hv #[v,H,I,r,h] hn hd
variable {a b:Expr} {ta tb:TE} {pos:Pos}
def tB (t:TE):TT:=λσ H Q=>t σ H λx H1=>∃c,x=.bl c/\Q c H1
theorem je {e:Expr} {t:TE} (h:PE X e t) (he:∀whole,isTrue e X.16 whole=(do let v <- whole;standAt e.pos;holding [v] (truthy v)):=by intro _;rfl):PT X e (tB t):=by
 intro Xe s σ H Q I hw;refine isTrue_plain (gX (h Xe s σ H _ I hw) λv s1 hz=>?_) (he _);obtain x|H1|I1|r1|q1:=hz;obtain d|rfl|q:=q1;cases r1;show WE #[H1,I1,q]
variable {tA tB':TT} {rest:List Expr}
def TC (t u:TT):TT:=λσ H Q=>t σ H λc H1=>if c=true then u σ H1 Q else Q false H1
def tOr (t u:TT):TT:=λσ H Q=>t σ H λc H1=>if c=true then Q true H1 else u σ H1 Q
def Tw (t:TT):TT:=λσ H Q=>t σ H λc H1=>Q (!c) H1
theorem oq (ha:PT X a tA):PW X (.BoolOp .And [a] pos) tA:=by
 intro wh Xe s σ H Q I h;refine isTrue_and (gX (ha Xe s σ H Q I h) λc s1 e=>?_);cases c with
 | true=>show isTrue_and_nil e
 | false=>show e
theorem jc (ha:PT X a tA):PW X (.BoolOp .Or [a] pos) tA:=by
 intro wh Xe s σ H Q I h;refine isTrue_or (gX (ha Xe s σ H Q I h) λc s1 e=>?_);cases c with
 | false=>show isTrue_or_nil e
 | true=>show e
theorem mK (ha:PT X a tA) (hb:PW X (.BoolOp .And (b :: rest) pos) tB'):PW X (.BoolOp .And (a :: b :: rest) pos) (TC tA tB'):=by
 intro wh Xe s σ H Q I h;refine isTrue_and (gX (ha Xe s σ H _ I h) λc s1 hz=>?_);obtain H1|I1|q1:=hz;cases c with
 | true=>show hb wh Xe s1 σ H1 Q I1 q1
 | false=>show #[H1,I1,q1]
theorem mP (ha:PT X a tA) (hb:PW X (.BoolOp .Or (b :: rest) pos) tB'):PW X (.BoolOp .Or (a :: b :: rest) pos) (tOr tA tB'):=by
 intro wh Xe s σ H Q I h;refine isTrue_or (gX (ha Xe s σ H _ I h) λc s1 hz=>?_);obtain H1|I1|q1:=hz;cases c with
 | true=>show #[H1,I1,q1]
 | false=>show hb wh Xe s1 σ H1 Q I1 q1
theorem kI (ha:PT X a tA):PT X (.UnaryOp .Not a pos) (Tw tA):=by
 intro Xe s σ H Q I h;show isTrue_not (ha Xe s σ H (λc H1=>Q (!c) H1) I h)
def Qo (ta tb:TE):TE:=λσ H Q=>ta σ H λx H1=>∃c,x=.bl c/\if c=true then tb σ H1 Q else Q (.bl false) H1
def Qi (ta:TE):TE:=λσ H Q=>ta σ H λx H1=>∃c,x=.bl c/\Q (.bl (!c)) H1
theorem HR (h:PE X a t):PE X (.BoolOp op [a] pos) t:=λXe s σ H Q I hw=>BoolOp_one (h Xe s σ H Q I hw)
theorem HU (ha:PE X a ta) (hb:PE X (.BoolOp .And (b :: rest) pos) tb):PE X (.BoolOp .And (a :: b :: rest) pos) (Qo ta tb):=by
 intro Xe s σ H Q I h;refine BoolOp_and (gX (ha Xe s σ H _ I h) λv s1 hz=>?_);obtain x|H1|I1|r1|q1:=hz;obtain c|rfl|q1:=q1;cases r1;refine WE ?_;cases c with
 | true=>show hb Xe s1 σ H1 Q I1 q1
 | false=>show #[.bl false,H1,I1,rfl,q1]
theorem Si (ha:PE X a ta):PE X (.UnaryOp .Not a pos) (Qi ta):=by
 intro Xe s σ H Q I h;refine UnaryOp_ (gX (ha Xe s σ H _ I h) λv s1 hz=>?_);obtain x|H1|I1|r1|q1:=hz;obtain c|rfl|q1:=q1;cases r1;show not_of (WE #[.bl (!c),H1,I1,rfl,q1])
def tIf (t:TT) (ta tb:TE):TE:=λσ H Q=>t σ H λc H1=>if c=true then ta σ H1 Q else tb σ H1 Q
theorem MM (hc:PT X c tA) (ha:PE X a ta) (hb:PE X b tb):PE X (.IfExp c a b pos) (tIf tA ta tb):=by
 intro Xe s σ H Q I h;refine wpAny_IfExp (gX (hc Xe s σ H _ I h) λd s1 hz=>?_);obtain H1|I1|q1:=hz;cases d with
 | true=>show ha Xe s1 σ H1 Q I1 q1
 | false=>show hb Xe s1 σ H1 Q I1 q1
end
def bN (K:Xn) (H:Hp) (a:Addr) (xs:List V):Prop :=
 Rd H a (.lst xs) \/
  ∃(o:Obj) (Xp:Array Value) (n:Nat),K.13 a=some o/\o.cls=.type "list"/\o.dict=none/\o.data=.seq Xp n/\Xp.7<=VD/\cO xs Xp.toList
def kz (K:Xn) (H:Hp) (a:Addr) (xs:List V):Prop :=
 Rd H a (.tup xs) \/
  ∃(o:Obj) (Xp:Array Value) (n:Nat),K.13 a=some o/\o.cls=.type "tuple"/\o.data=.seq Xp n/\Xp.7<=VD/\cO xs Xp.toList
def Va:Value->Option V
 | .none=>some .Xy
 | .bool b=>some (.bl b)
 | .int i _=>some (.int i)
 | .str x _=>some (.str x)
 | .bytes b _=>some (.Zt b)
 | .float b _=>some (._B b)
 | .ref a=>some (.ref a)
 | .type n=>some (.ty n)
 | _=>none
theorem RelV.abs (r:RelV x u):Va u=some x:=by
 cases x with
 | Xy=>cases r;rfl
 | bl _=>cases r;rfl
 | int _=>obtain t|rfl:=r;rfl
 | str _=>obtain t|rfl:=r;rfl
 | Zt _=>obtain t|rfl:=r;rfl
 | _B _=>obtain t|rfl:=r;rfl
 | ref _=>cases r;rfl
 | ty _=>cases r;rfl
theorem RelV.inj (r:RelV x u) (q:RelV y u):x=y:=cv (r.abs.symm.4 q.abs)
theorem cO.inj:∀{xs ys:List V} {us:List Value},cO xs us->cO ys us->xs=ys
 := by
 intro xs ys us h
 induction h generalizing ys with
 | nil=>intro h';cases h';rfl
 | cons r t ih=>intro h';cases h' with | cons r' t'=>rw[r.inj r',ih t']
section
variable {σ:St}
theorem bN.of {K:Xn} (h:H a=some (.lst xs)):bN K H a xs:=.inl (.inl h)
theorem kz.of {K:Xn} (h:H a=some (.tup xs)):kz K H a xs:=.inl (.inl h)
theorem Inv.list (I:Inv X Xe σ H s) (h:bN X.K H a xs):∃Xp:List Value,cO xs Xp/\PlainL s.26 a Xp.5/\xs.9<=VD:=by
 rcases h with h | ⟨o,Xp,n,hk,hc,hd,hs,hz,r⟩
 ·obtain z|Xp|n|r|e:=h.ok I.Xw;show #[Xp,r,#[_,n,e,rfl,rfl,rfl],z]
 ·refine #[Xp.toList,r,#[o,n,I.XN a o hk,hc,hd,by simpa using hs],?_];have e:=r.9;simp only[Wg] at e
  lia
theorem Inv.tuple (I:Inv X Xe σ H s) (h:kz X.K H a xs):∃Xp:List Value,cO xs Xp/\IsTup s.26 a Xp.5/\xs.9<=VD:=by
 rcases h with h | ⟨o,Xp,n,hk,hc,hs,hz,r⟩
 ·obtain z|Xp|r|p:=h.ok I.Xw;show #[Xp,r,p,z]
 ·refine #[Xp.toList,r,#[o,I.XN a o hk,hc,n,by simpa using hs],?_];have e:=r.9;simp only[Wg] at e
  lia
theorem Inv.XE (I:Inv X Xe σ H s) (h:bN X.K H a xs) (h':bN X.K H a ys):xs=ys:=by
 obtain Xp|r|⟨o,n,e,_,_,d⟩|_:=I.30 h;obtain its'|r'|⟨o',n',e',_,_,d'⟩|_:=I.30 h';rw[e] at e';cases e';rw[d] at d';injection d' with d1 _
 have:Xp=its':=by simpa using congrArg Array.toList d1
 subst this;show r.inj r'
theorem Inv.Yf (I:Inv X Xe σ H s) (h:kz X.K H a xs) (h':kz X.K H a ys):xs=ys:=by
 obtain Xp|r|⟨o,e,_,n,d⟩|_:=I.45 h;obtain its'|r'|⟨o',e',_,n',d'⟩|_:=I.45 h';rw[e] at e';cases e';rw[d] at d';injection d' with d1 _
 have:Xp=its':=by simpa using congrArg Array.toList d1
 subst this;show r.inj r'
end
abbrev Cx.Yx (X:Cx) (E:Value->Vr->Prop):Cx:={ X with xe:=E }
abbrev Cx.B! (X:Cx):Cx:=X.Yx λ_ _=>False
theorem Cx.Ok.Yx {X:Cx} (ok:X.Ok) (E:Value->Vr->Prop):(X.Yx E).Ok :=
 #[ok.mod,ok.36,ok.glob,ok.blt,ok.above,ok.inj,ok.has,ok.cab,ok.hd,ok.frames,ok.stk,ok.exf,ok.bs,ok._i,ok.ZA,ok.ZL,ok.Yk,ok.n!]
theorem Cx.Ok.XO {X:Cx} (ok:(X.Yx E).Ok):X.Ok :=
 #[ok.mod,ok.36,ok.glob,ok.blt,ok.above,ok.inj,ok.has,ok.cab,ok.hd,ok.frames,ok.stk,ok.exf,ok.bs,ok._i,ok.ZA,ok.ZL,ok.Yk,ok.n!]
section
variable {σ:St}
theorem Inv.Yx (I:Inv X Xe σ H s) (E:Value->Vr->Prop):Inv (X.Yx E) Xe σ H s:=#[I.ok.Yx E,I.os,I.bare,I.49,I.loc,I.cell,I.54,I.XJ,I.pin,I.Xw,I.38]
theorem Inv.XO (I:Inv (X.Yx E) Xe σ H s):Inv X Xe σ H s:=#[I.ok.XO,I.os,I.bare,I.49,I.loc,I.cell,I.54,I.XJ,I.pin,I.Xw,I.38]
theorem SP.XO (h:SP (X.Yx E) Xe D f s'):SP X Xe D f s':=by
 cases f with
 | next=>obtain σ'|H'|I|q:=h;show #[σ',H',I.XO,q]
 | brk=>obtain σ'|H'|I|q:=h;show #[σ',H',I.XO,q]
 | cont=>obtain σ'|H'|I|q:=h;show #[σ',H',I.XO,q]
 | ret u=>obtain v|σ'|H'|I|r|q:=h;show #[v,σ',H',I.XO,r,q]
theorem GS.B! {st:List Stmt} (h:GS X.B! st t):GS X st t:=λXe s σ H D I hw =>
 Wy (h Xe s σ H D (I.Yx _) hw) (λ_ _ q=>q.XO) λ_ _ z=>V7 z
end
section
variable {X:Cx} {st:Stmt} {rest:List Stmt} {t u:TS} {e:Expr} {te:TE} {pos:Pos}
def Qj:TS:=λD σ H=>D.nx σ H
def Ts (t u:TS):TS:=λD σ H=>t { D with nx:=u D } σ H
theorem bX:GS X [] Qj:=λ_ _ σ H _ I h=>wpAny_execs_nil #[σ,H,I,h]
theorem av (h1:PS X st t) (h2:GS X rest u):GS X (st :: rest) (Ts t u):=by
 intro Xe s σ H D I h;refine wpAny_execs_cons (gX (h1 Xe s σ H { D with nx:=u D } I h) λf s1 q=>?_);cases f with
 | next =>
  obtain σ'|H'|I'|q:=q;show h2 Xe s1 σ' H' D I' q
 | ret v=>show q
 | brk=>show q
 | cont=>show q
theorem aA (h1:PS X st t):GS X [st] t:=by
 intro Xe s σ H D I h;refine wpAny_execs_cons (gX (h1 Xe s σ H D I h) λf s1 q=>?_);cases f with
 | next=>show wpAny_execs_nil q
 | ret v=>show q
 | brk=>show q
 | cont=>show q
theorem Inv.quiet {σ:St} (I:Inv X Xe σ H s):interactive X.16=false:=by simp [interactive,I.ok.36]
def Qm (te:TE):TS:=λD σ H=>te σ H λ_ H1=>D.nx σ H1
theorem jy (he:PE X e te) (hs:swapsWith e none pos.line X.16=pure false:=by rfl):PS X (.Expr e pos) (Qm te):=by
 intro Xe s σ H D I h;show wpAny_Expr_any (gX (he Xe s σ H _ I h) λv s1 #[x,H1,I1,r1,q1]=>#[σ,H1,I1,q1]) I.quiet hs
def Tt (te:TE):TS:=λD σ H=>te σ H D.rt
theorem aQ (he:PE X e te):PS X (.Return (some e) pos) (Tt te):=by
 intro Xe s σ H D I h;show wpAny_Return_some (gX (he Xe s σ H _ I h) λv s1 #[x,H1,I1,r1,q1]=>#[x,σ,H1,I1,r1,q1])
def Tz (c:TT) (t u:TS):TS:=λD σ H=>c σ H λb H1=>if b=true then t D σ H1 else u D σ H1
theorem c5 (hc:PT X c tc) (ha:GS X a t) (hb:GS X b u):PS X (.If c a b pos) (Tz tc t u):=by
 intro Xe s σ H D I h;refine wpAny_If (gX (hc Xe s σ H _ I h) λd s1 hz=>?_);obtain H1|I1|q1:=hz;cases d with
 | true=>show ha Xe s1 σ H1 D I1 q1
 | false=>show hb Xe s1 σ H1 D I1 q1
end
abbrev TG:=V->St->Hp->(St->Hp->Prop)->Prop
abbrev LX:=List V->St->Hp->(St->Hp->Prop)->Prop
def PG (X:Cx) (target:Expr) (t:TG):Prop :=
 ∀(Xe:List (Addr×Obj)) (s:Vr) (σ:St) (H:Hp) (v:V) (u:Value) (Q:St->Hp->Prop),Inv X Xe σ H s->RelV v u->t v σ H Q →
  VC (model X.18 X.w) X.A (assign target X.16 u) (λ_ s'=>∃σ' H',Inv X Xe σ' H' s'/\Q σ' H') X.xe s
def Tg (X:Cx) (ts:List Expr) (t:LX):Prop :=
 ∀(Xe:List (Addr×Obj)) (s:Vr) (σ:St) (H:Hp) (vs:List V) (us:List Value) (Q:St->Hp->Prop),Inv X Xe σ H s->cO vs us->t vs σ H Q →
  VC (model X.18 X.w) X.A (assignInOrder ((Wz ts X.16).11 (·.2)) us) (λ_ s'=>∃σ' H',Inv X Xe σ' H' s'/\Q σ' H') X.xe s
abbrev Jb:=V->V->V->Hp->(Hp->Prop)->Prop
def S5 (X:Cx) (t:Jb):Prop :=
 ∀(Xe:List (Addr×Obj)) (s:Vr) (σ:St) (H:Hp) (o i v:V) (ov iv u:Value) (Q:Hp->Prop),Inv X Xe σ H s->RelV o ov->RelV i iv->RelV v u->t o i v H Q →
  VC (model X.18 X.w) X.A (setItem ov iv u) (λ_ s'=>∃H',Inv X Xe σ H' s'/\Q H') X.xe s
abbrev Uz:=V->V->Hp->VK->Prop
def PIp (X:Cx) (op:Operator) (t:Uz):Prop :=
 ∀(Xe:List (Addr×Obj)) (s:Vr) (σ:St) (H:Hp) (x y:V) (v u:Value) (Q:VK),Inv X Xe σ H s->RelV x v->RelV y u->t x y H Q →
  VC (model X.18 X.w) X.A (inplaceOp op v u) (EP X Xe σ Q) X.xe s
section
variable {X:Cx} {pos:Pos}
def BY (i:Nat):TG:=λv σ H Q=>Q (σ.42 i (some v)) H
theorem Pf {i:Nat} {x:Str} (hN:X.N.33) (hi:X.N[i]?=some x:=by show rfl) (hx:Loc X.env.scope x:=by show Or.inl rfl) (hf:X.fn x=true\/X.env.scope.names.13 x=some .local:=by first | show .inl rfl | show .inr rfl | assumption):PG X (.Name x pos) (BY i):=by
 intro Xe s σ H v u Q I r h;show wpAny_assign_Name (uW I hN hi hx r (λs' I'=>#[_,H,I',h]) hf)
def Uu:LX:=λvs σ H Q=>vs=[]/\Q σ H
def QK (t:TG) (u:LX):LX:=λvs σ H Q=>∃v r,vs=v :: r/\t v σ H λσ' H'=>u r σ' H' Q
theorem kZ:Tg X [] Uu:=by
 intro Xe s σ H vs us Q I r h;obtain e|h:=h;subst e;cases r;show assignInOrder_nil #[σ,H,I,h]
theorem cZ {e:Expr} {es:List Expr} {t:TG} {u:LX} (h1:PG X e t) (h2:Tg X es u)
  (hs:(Wz (e :: es) X.16).11 (·.2)=assign e X.16 :: (Wz es X.16).11 (·.2):=by rfl):Tg X (e :: es) (QK t u):=by
 intro Xe s σ H vs us Q I r h;obtain v|vr|e1|h:=h;subst e1;cases r with
 | cons r rr =>
  rw[hs];refine assignInOrder_cons (gX (h1 Xe s σ H _ _ _ I r h) λ_ s1 hz=>?_);obtain σ1|H1|I1|q1:=hz;show h2 Xe s1 σ1 H1 _ _ Q I1 rr q1
def SJ (K:Xn) (n:Nat) (t:LX):TG:=λv σ H Q=>∃a xs,v=.ref a/\kz K H a xs/\xs.9=n/\t xs σ H Q
theorem zH {es:List Expr} {k:Nat} {t:LX} {n:Nat} (hc:X.calm=true) (h:Tg X es t)
  (hn:(Wz es X.16).9=n:=by rfl) (E!:(Wz es X.16).findIdx? (·.1)=none:=by rfl):PG X (.Tuple es k pos) (SJ X.K n t):=by
 intro Xe s σ H v u Q I r hw;obtain a|xs|e1|hq|hl|hw:=hw;subst e1;cases r;obtain Xp|rv|ht|hz:=I.45 hq;refine assign_Tuple_tuple (I.ok.hd hc) ht (by simp [hn,<- hl,rv.9]) E! λh' hx=>?_
 have I1:Inv X Xe σ H { s with heap:=h' }:=I.59 (t':=s.27) λb o e=>hx b o (cG (Vv e)) e
 show h Xe _ σ H xs _ Q I1 (by simpa using rv) hw
def Ut (to ti:TE) (t:Jb):TG:=λv σ H Q=>to σ H λo H1=>ti σ H1 λi H2=>t o i v H2 λH3=>Q σ H3
theorem ib {o i : Expr} {to ti : TE} {t : Jb} (ho : PE X o to) (hi : PE X i ti) (hs : S5 X t)
    (ha : ∀ v, assign (.Subscript o i pos) X.16 v = (do
      let ov <- holding [v] (eval o X.16)
      let iv <- holding [v, ov] (eval i X.16)
      standAt pos
      holding [v, ov, iv] (setItem ov iv v)
      release [v, ov, iv] []) := by intro _; rfl) : PG X (.Subscript o i pos) (Ut to ti t) := by
  intro Xe s σ H v u Q I r h;rw [ha];refine K0 (VS (gX (ho Xe s σ H _ I h) λov s1 hz => ?_));obtain x|H1|I1|r1|q1:= hz;refine K0 (VS (gX (hi Xe s1 σ H1 _ I1 q1) λiv s2 hz => ?_));obtain y|H2|I2|r2|q2:= hz;refine K0 (W0 (K0 (VS (gX (hs Xe s2 σ H2 x y v ov iv u _ I2 r1 r2 r q2) λ_ s3 hz => ?_))));obtain H3|I3|q3:= hz;show wpAny_release #[σ, H3, I3, q3]
def Mg (te:TE) (g:TG):TS:=λD σ H=>te σ H λx H1=>g x σ H1 D.nx
theorem fR {tg e:Expr} {te:TE} {g:TG} (he:PE X e te) (hg:PG X tg g) (hs:swapsWithSole [tg] e pos.line X.16=pure false:=by rfl) (hw:swappedStores [tg] e X.16=pure none:=by rfl)
  (h1:(Wz [tg] X.16).11 (·.2)=[assign tg X.16]:=by rfl):PS X (.Assign [tg] e pos) (Mg te g):=by
 intro Xe s σ H D I h;refine wpAny_Assign_stores (gX (he Xe s σ H _ I h) λv s1 hz=>?_) hs hw;obtain x|H1|I1|r1|q1:=hz;rw[h1];show gX (hg Xe s1 σ H1 x v _ I1 r1 q1) λ_ s2 q=>q
theorem Sd {i:Nat} {x:Str} {e:Expr} {te:TE} {pos':Pos} (hN:X.N.33) (hi:X.N[i]?=some x) (hx:Loc X.env.scope x) (he:PE X e te) (hs:swapsWith e (some (.Name x pos')) pos.line X.16=pure false:=by rfl) (hf:X.fn x=true\/X.env.scope.names.13 x=some .local:=by first | show .inl rfl | show .inr rfl | assumption) :
  PS X (.Assign [.Name x pos'] e pos) (Mg te (BY i)):=by
 intro Xe s σ H D I h;refine wpAny_Assign_Name (gX (he Xe s σ H _ I h) λv s1 hz=>?_) hs;obtain y|H1|I1|r1|q1:=hz;show uW I1 hN hi hx r1 (λs2 I2=>#[_,H1,I2,q1]) hf
def Tu (i j:Nat) (ta:TA):TS:=λD σ H=>ta σ H λvs H1=>∃v w,vs=[v,w]/\D.nx ((σ.42 i (some v)).42 j (some w)) H1
theorem MJ {i j:Nat} {x y:Str} {a b:Expr} {ta:TA} {px py pt:Pos} {kt k2 A!} (hc:X.calm=true) (hN:X.N.33) (hi:X.N[i]?=some x) (hj:X.N[j]?=some y) (_v:i≠j)
  (hx:X.env.scope.names.13 x=some .local) (hy:X.env.scope.names.13 y=some .local) (ha:PA X [a,b] ta)
  (hw:swappedStores [.Tuple [.Name x px,.Name y py] kt pt] (.Tuple [a,b] k2 A!) X.16=pure (some [x,y]))
  (hs:swapsWithSole [.Tuple [.Name x px,.Name y py] kt pt] (.Tuple [a,b] k2 A!) pos.line X.16=pure false:=by rfl) :
  PS X (.Assign [.Tuple [.Name x px,.Name y py] kt pt] (.Tuple [a,b] k2 A!) pos) (Tu i j ta):=by
 intro Xe s σ H D I h;rw[exec_Assign_arm];refine K0 (W0 ?_);rw[hs];refine K0 (VB ?_);rw[if_neg ()];refine K0 (Tuple_ (gX (ha _ Xe s σ H _ I h) λus s1 hz=>?_));obtain vs|H1|I1|r1|q1:=hz;obtain v|w|e1|q1:=q1;subst e1
 obtain ⟨u1,u2,rfl,rv,YX⟩:∃u1 u2,us=[u1,u2]/\RelV v u1/\RelV w u2:=by
  cases r1 with
  | cons p q =>
   cases q with
   | cons p' q' =>
    cases q';show #[_,_,rfl,p,p']
 refine wpAny_newObj_type ?_ (by change 2<=VD;decide);have I2:Inv X Xe σ H1 { s1 with heap:=s1.heap.25 { cls:=.type "tuple",data:=.seq [u1,u2].5 } }:=I1.59 (t':=s1.27) λb o e=>Vq _ e
 rw[hw];refine K0 (VB ?_);change VC (model X.18 X.w) X.A (do rule "assign.swapped-stores";let items <- unpackItems (.ref s1.6) 2 none;assignInOrder [λv=>bindName X.16 y v,λv=>bindName X.16 x v] items.reverse;pure Flow.next) _ _ _
 refine K0 (wpAny_rule (K0 (unpackItems_tuple (items:=[u1,u2].12) (I.ok.hd hc) (IsTup.new s1.26 _) λh' Xq=>?_)));have I3:=I2.59 (h':=h') (t':=s1.27) λb o e=>Xq b o (cG (Vv e)) e
 change VC _ _ (assignInOrder [λv=>bindName X.16 y v,λv=>bindName X.16 x v] [u2,u1] >>= λ_=>pure Flow.next) _ _ _
 refine K0 (assignInOrder_cons (wpAny_bindName (uW I3 hN hj (.inl hy) YX (λs2 I4=>?_) (.inr hy))));refine assignInOrder_cons (wpAny_bindName (uW I4 hN hi (.inl hx) rv (λs3 I5=>assignInOrder_nil (VB ?_)) (.inr hx)));rw[List.set_comm _ _ (Wc _v)] at I5;show #[_,H1,I5,q1]
def Qn (to ti te:TE) (Zh:V->V->Hp->VK->Prop) (u!:Uz) (Zg:Jb):TS:=λD σ H=>to σ H λo H1=>ti σ H1 λi H2=>Zh o i H2 λx H3=>te σ H3 λy H4=>u! x y H4 λz H5=>Zg o i z H5 λH6=>D.nx σ H6
def UA (X:Cx) (t:V->V->Hp->VK->Prop):Prop :=
 ∀(Xe:List (Addr×Obj)) (s:Vr) (σ:St) (H:Hp) (o i:V) (ov iv:Value) (Q:VK),Inv X Xe σ H s->RelV o ov->RelV i iv->t o i H Q →
  VC (model X.18 X.w) X.A (getItem ov iv) (EP X Xe σ Q) X.xe s
theorem Pd {o i e:Expr} {to ti te:TE} {Zh:V->V->Hp->VK->Prop} {u!:Uz} {Zg:Jb} {op:Operator} {Yp:Pos} (ho:PE X o to) (hi:PE X i ti) (hg:UA X Zh) (he:PE X e te) (hp:PIp X op u!) (hs:S5 X Zg)
  (ha:∀ov iv new,augStore i ov iv new=(do holding [new,ov,iv] (setItem ov iv new);release [new,ov,iv] [];pure .next):=by intros;rfl):PS X (.AugAssign (.Subscript o i Yp) op e pos) (Qn to ti te Zh u! Zg):=by
 intro Xe s σ H D I h;refine wpAny_AugAssign_SubscriptAny (gX (ho Xe s σ H _ I h) λov s1 hz=>?_) ha;obtain x1|H1|I1|r1|q1:=hz;refine gX (hi Xe s1 σ H1 _ I1 q1) λiv s2 hz=>?_
 obtain x2|H2|I2|r2|q2:=hz;refine gX (hg Xe s2 σ H2 x1 x2 ov iv _ I2 r1 r2 q2) λold s3 hz=>?_
 obtain x3|H3|I3|r3|q3:=hz;refine gX (he Xe s3 σ H3 _ I3 q3) λv s4 hz=>?_
 obtain x4|H4|I4|r4|q4:=hz;refine gX (hp Xe s4 σ H4 x3 x4 old v _ I4 r3 r4 q4) λnew s5 hz=>?_
 obtain x5|H5|I5|r5|q5:=hz;show gX (hs Xe s5 σ H5 x1 x2 x5 ov iv new _ I5 r1 r2 r5 q5) λ_ s6 #[H6,I6,q6]=>#[σ,H6,I6,q6]
def ipI (f:Int->Int->Int):Uz:=λx y H Q=>∃i j,x=.int i/\y=.int j/\Q (.int (f i j)) H
theorem SD:PIp X .Add (ipI λi j=>i+j):=by
 intro Xe s σ H x y v u Q I r1 r2 h;obtain i|j|e1|e2|q:=h;subst e1;subst e2;obtain t|rfl:=r1;obtain t'|rfl:=r2;show iadd_int #[.int _,H,I.tok _,#[_,rfl],q]
end
section
variable {X:Cx} {pos:Pos}
def Me (c:TT) (tb:TS):TS:=λD σ H=>∃W:Nat->St->Hp->Prop,(∃m,W m σ H)/\∀m σ H,W m σ H →
 c σ H λb H1=>if b=true then ∃N:St->Hp->Prop,(∀σ' H',N σ' H'->∃m',m' < m/\W m' σ' H')/\tb { D with nx:=N,ct:=N,bk:=D.nx } σ H1 else D.nx σ H1
theorem zE (hp:PassesOwn (model X.18 X.w) X.A X.16 X.xe) (hc:PT X c tc) (hb:GS X body tb):PS X (.While c body [] pos) (Me tc tb):=by
 intro Xe s σ H D I h;obtain W|⟨m0,w0⟩|turn:=h;refine wpAny_While (codeAny_whileLoop (λn s'=>∃σ' H',Inv X Xe σ' H' s'/\W n σ' H') ?_ m0 #[σ,H,I,w0]);rintro n s1 ⟨σ1,H1,I1,w1⟩;refine Wl hp (gX (hc Xe s1 σ1 H1 _ I1 (turn n σ1 H1 w1)) λb s2 hz=>?_);obtain H2|I2|q2:=hz;cases b with
 | true =>
  obtain N|hN|q2:=q2;rw[if_pos rfl];refine Wl hp (gX (hb Xe s2 σ1 H2 _ I2 q2) λf s3 q3=>?_);cases f with
  | next =>
   obtain σ3|H3|I3|n3:=q3;obtain m'|hm|w3:=hN σ3 H3 n3;show #[m',hm,σ3,H3,I3,w3]
  | cont =>
   obtain σ3|H3|I3|n3:=q3;obtain m'|hm|w3:=hN σ3 H3 n3;show #[m',hm,σ3,H3,I3,w3]
  | brk=>show q3
  | ret v=>show q3
 | false =>
  rw[if_neg a8];show wpAny_execs_nil #[σ1,H2,I2,q2]
end
structure It where
 go:Nat->Hp->Prop
 ZQ:Nat->Hp->V->Hp->Prop
 stop:Nat->Hp->Prop
def kX (X:Cx) (Xe:List (Addr×Obj)) (H:Hp) (b:Addr):Prop :=
 H b=none/\b≠X.env.41/\b∉X.fs/\(b∈X.ex\/X.s₀.6<=b)/\(∀x c,X.env.cells.13 x=some c->c≠b)/\∀p∈X.pn++Xe,p.1≠b
theorem Inv.Yt {σ:St} {b:Addr} (I:Inv X Xe σ H s) (hb:s.6<=b) (hn:H' b=none):kX X Xe H' b:=by
 refine #[hn,Ky (bI I.lt hb),I.adz hb,.inr (ag I.sz hb),λx c e z=>?_,λp hp z=>?_]
 ·obtain v|q:=I.cell x c e;show absurd (bI q.lt (by rw[z];show hb)) (dm _)
 ·show absurd (bI (Vv (I.pin p hp).1) (by rw[z];show hb)) (dm _)
structure Turn (P:Wa) (w:Wm) (K:Xn) (tg:Expr) (J:It) (fp:List Addr) (it:Addr) (tn:Nat->Heap->Prop):Prop where
 mem:it∈fp
 obj:∀i h,tn i h->∀b∈fp,∃o,h.14 b=some o/\∀v,o.data≠.cell v
 keep:∀i h h',tn i h->(∀b∈fp,∀o,h.14 b=some o->h'.14 b=some o)->tn i h'
 item:∀(X:Cx),X.18=P->X.w=w->X.K=K->X.calm=true->∀(i:Nat) (Xe:List (Addr×Obj)) (s:Vr) (σ:St) (H:Hp) (E:Value->Vr->Prop),Inv X Xe σ H s->(∀b∈fp,kX X Xe H b)->tn i s.8->J.go i H →
  VC (model P w) X.A (pyNext (.ref it)) (λr s1=>∃u,r=some u /\
   VC (model P w) X.A (letOwnedTupleGo tg (.ref it) u) (λ_ s2=>∃x H',Inv X Xe σ H' s2/\RelV x u/\J.ZQ i H x H'/\tn (i+1) s2.8/\∀b∈fp,H' b=none) E s1) E s
 done:∀(X:Cx),X.18=P->X.w=w->X.K=K->X.calm=true->∀(i:Nat) (Xe:List (Addr×Obj)) (s:Vr) (σ:St) (H:Hp) (E:Value->Vr->Prop),Inv X Xe σ H s->(∀b∈fp,kX X Xe H b)->tn i s.8->J.stop i H →
  VC (model P w) X.A (pyNext (.ref it)) (λr s1=>r=none/\Inv X Xe σ H s1) E s
 self:∀(A:VZ) (i:Nat) (s:Vr) (Q:Value->Vr->Prop) (E:Value->Vr->Prop),tn i s.8->Q (.ref it) s->VC (model P w) A (pyIter (.ref it)) Q E s
abbrev TI:=St->Hp->(It->Hp->Prop)->Prop
def PIE (X:Cx) (Xe:List (Addr×Obj)) (σ:St) (tg:Expr) (R:It->Hp->Prop) (itv:Value) (s2:Vr):Prop :=
 ∃(it:Addr) (fp:List Addr) (tn:Nat->Heap->Prop) (J:It) (H':Hp),itv=.ref it/\Inv X Xe σ H' s2/\Turn X.18 X.w X.K tg J fp it tn/\tn 0 s2.8/\(∀b∈fp,kX X Xe H' b)/\R J H'
def PI (X:Cx) (tg iter:Expr) (wi:TI):Prop :=
 ∀(Xe:List (Addr×Obj)) (s:Vr) (σ:St) (H:Hp) (R:It->Hp->Prop),Inv X Xe σ H s->wi σ H R →
  VC (model X.18 X.w) X.A (eval iter X.16) (λv s1=>VC (model X.18 X.w) X.A (pyIter v) (PIE X Xe σ tg R) X.xe s1) X.xe s
theorem Nn (ho:s.heap.14 it=some o) (hc:o.cls=.type n) (hd:o.data=.fields vs)
  (hn:["enumerate","zip","dict_itemiterator","dict_reverseitemiterator","odict_iterator","itertools.zip_longest","itertools.pairwise"].contains n=false) (hQ:Q .unit s):VC M A (letOwnedTupleGo tg (.ref it) u) Q E s:=by
 unfold letOwnedTupleGo
 cases tg <;> first
  | show VB hQ
  | (cases u <;> first | show VB hQ | (refine K0 (wpAny_load ho ?_);rw[hc,hd];change VC M A (if (["enumerate","zip","dict_itemiterator","dict_reverseitemiterator","odict_iterator","itertools.zip_longest","itertools.pairwise"].contains n && vs[0]? == some (rawInt _))=true then _ else _) Q E s;rw[if_neg (by intro h;rw[hn,Bool.false_and] at h;cases h)];show VB hQ))
def Oe (K:Xn) (a:Addr):It :=
 #[λi H=>∃xs x,bN K H a xs/\xs[i]?=some x,λi H x H'=>H'=H/\∀xs,bN K H a xs->xs[i]?=some x,λi H=>∃xs,bN K H a xs/\xs.9<=i]
def Qa (K:Xn) (a:Addr):It :=
 #[λi H=>∃xs x,kz K H a xs/\xs[i]?=some x,λi H x H'=>H'=H/\∀xs,kz K H a xs->xs[i]?=some x,λi H=>∃xs,kz K H a xs/\xs.9<=i]
def GU (lo:Int) (n:Nat):It:=#[λi _=>i < n,λi H x H'=>H'=H/\x=.int (lo+i),λi _=>n<=i]
theorem By {P:Wa} {w:Wm} {K:Xn} {tg:Expr} (a it:Addr):Turn P w K tg (Oe K a) [it] it (λi h=>h.24 it a i) where
 mem:=by simp
 obj:=λi h st b hb=>by
  have e:b=it:=by simpa using hb
  subst e;obtain o|e|c|d:=st;show #[o,e,λv z=>by rw[d] at z;cases z]
 keep:=λi h h' st k=>st.at λo e=>k it (by simp) o e
 item:=by
  intro X hP hw hK hc i Xe s σ H E I hf st hg;subst hP hw hK;obtain xs|x|hq|hx:=hg;obtain Xp|rv|p|hz:=I.30 hq;obtain u|hu|ru:=rv.get hx;obtain f0|f1|f2|f3|f4|f5:=hf it (by simp);refine wpAny_pyNext_list_item st p.19 (x:=u) (by simpa using hu) λh' _k sb=>?_
  have I1:Inv X Xe σ H { s with heap:=h' }:=I.turned (t':=s.27) (λb o hb e=>(sb.2 b hb).4 e) f0 f1 f3 f4 f5;obtain o|e|c|d:=id _k;show #[u,rfl,Nn (s:={ s with heap:=h' }) e c d () ⟨x,H,I1,ru,⟨rfl,λys hy=>by rw[I.XE hy hq];show hx⟩,_k,λb hb=>(hf b hb).1⟩]
 done:=by
  intro X hP hw hK hc i Xe s σ H E I hf st hg;subst hP hw hK;obtain xs|hq|hx:=hg;obtain Xp|rv|p|hz:=I.30 hq;obtain f0|f1|f2|f3|f4|f5:=hf it (by simp);have hl:=rv.9;show wpAny_pyNext_list_end (I.ok.hd hc) st p.19 (by simp;lia) λh' eb=>#[rfl,I.turned (t':=s.27) (λb o hb e=>eb b o hb e) f0 f1 f3 f4 f5]
 self:=λ_ _ _ _ _ st h=>wpAny_pyIter_listiter st h
theorem yW {P:Wa} {w:Wm} {K:Xn} {tg:Expr} (a it:Addr):Turn P w K tg (Qa K a) [it] it (λi h=>h.IsTupleIter it a i) where
 mem:=by simp
 obj:=λi h st b hb=>by
  have e:b=it:=by simpa using hb
  subst e;obtain o|e|c|d:=st;show #[o,e,λv z=>by rw[d] at z;cases z]
 keep:=λi h h' st k=>st.at λo e=>k it (by simp) o e
 item:=by
  intro X hP hw hK hc i Xe s σ H E I hf st hg;subst hP hw hK;obtain xs|x|hq|hx:=hg;obtain Xp|rv|p|hz:=I.45 hq;obtain u|hu|ru:=rv.get hx;obtain f0|f1|f2|f3|f4|f5:=hf it (by simp);refine wpAny_pyNext_tuple_item st (show s.heap.IsTuple a Xp.12 from p) (x:=u) (by simpa using hu) λh' _k sb=>?_
  have I1:Inv X Xe σ H { s with heap:=h' }:=I.turned (t':=s.27) (λb o hb e=>(sb.2 b hb).4 e) f0 f1 f3 f4 f5;obtain o|e|c|d:=id _k;show #[u,rfl,Nn (s:={ s with heap:=h' }) e c d () ⟨x,H,I1,ru,⟨rfl,λys hy=>by rw[I.Yf hy hq];show hx⟩,_k,λb hb=>(hf b hb).1⟩]
 done:=by
  intro X hP hw hK hc i Xe s σ H E I hf st hg;subst hP hw hK;obtain xs|hq|hx:=hg;obtain Xp|rv|p|hz:=I.45 hq;obtain f0|f1|f2|f3|f4|f5:=hf it (by simp);have hl:=rv.9;show wpAny_pyNext_tuple_end (I.ok.hd hc) st (show s.heap.IsTuple a Xp.12 from p) (by simp;lia) λh' eb=>#[rfl,I.turned (t':=s.27) (λb o hb e=>eb b o hb e) f0 f1 f3 f4 f5]
 self:=λ_ _ _ _ _ st h=>wpAny_pyIter_tupleiter st h
theorem HB {P:Wa} {w:Wm} {K:Xn} {tg:Expr} (it:Addr) (lo:Int) (n:Nat):Turn P w K tg (GU lo n) [it] it (λi h=>IsRangeIter h it (lo+(i:Nat)*1) ((n:Int) - (i:Nat)) 1) where
 mem:=by simp
 obj:=λi h st b hb=>by
  have e:b=it:=by simpa using hb
  subst e
  show #[_,st,λv z=>by
   have z':Data.fields _=Data.cell v:=z;cases z']
 keep:=λi h h' st k=>k it (by simp) _ st
 item:=by
  intro X hP hw hK hc i Xe s σ H E I hf st hg;subst hP hw hK;obtain f0|f1|f2|f3|f4|f5:=hf it (by simp);have W:=Walks.range (prog:=X.18) (w:=X.w) (I.ok.hd hc) it lo 1 n;refine W.item i s _ _ hg st λv h' tk hv _k kk=>?_
  obtain t|rfl:=hv;have I1:Inv X Xe σ H { s with heap:=h',toks:=tk }:=I.turned (λb o hb e=>kk b o (by simpa using hb) e) f0 f1 f3 f4 f5;refine #[_,rfl,Nn (s:={ s with heap:=h',toks:=tk }) (n:="range_iterator") _k rfl rfl () ⟨.int (lo+i),H,I1,⟨t,?_⟩,⟨rfl,rfl⟩,_k,λb hb=>(hf b hb).1⟩];rw[Int.mul_one]
 done:=by
  intro X hP hw hK hc i Xe s σ H E I hf st hg;subst hP hw hK;obtain f0|f1|f2|f3|f4|f5:=hf it (by simp);show wpAny_pyNext_range_end (I.ok.hd hc) st (by have:n<=i:=hg;lia) λh' eb=>#[rfl,I.turned (t':=s.27) (λb o hb e=>eb b o hb e) f0 f1 f3 f4 f5]
 self:=λ_ _ _ _ _ st h=>wpAny_pyIter_rangeiter st h
section
variable {X:Cx} {tg:Expr}
def Nk (K:Xn) (tl:TE):TI:=λσ H R=>tl σ H λx H1=>∃a,x=.ref a/\(∃xs,bN K H1 a xs)/\R (Oe K a) H1
def Uq (K:Xn) (tl:TE):TI:=λσ H R=>tl σ H λx H1=>∃a,x=.ref a/\(∃xs,kz K H1 a xs)/\R (Qa K a) H1
theorem cg (hl:PE X l tl):PI X tg l (Nk X.K tl):=by
 intro Xe s σ H R I h;refine gX (hl Xe s σ H _ I h) λv s1 hz=>?_
 obtain x|H1|I1|r1|q1:=hz;obtain a|e|⟨xs,hq⟩|q:=q1;subst e;cases r1;obtain Xp|rv|p|hz:=I1.30 hq;refine WW p.19 ?_;refine #[s1.6,[s1.6],_,_,H1,rfl,I1.59 (t':=s1.27) λb o e=>Vq _ e,By a _,#[_,VG _ rfl,rfl,rfl],λb hb=>?_,q];have e:b=s1.6:=by simpa using hb
 subst e;show I1.Yt (aj _) (I1.Xw.39 (aj _))
theorem C6 (hl:PE X l tl):PI X tg l (Uq X.K tl):=by
 intro Xe s σ H R I h;refine gX (hl Xe s σ H _ I h) λv s1 hz=>?_
 obtain x|H1|I1|r1|q1:=hz;obtain a|e|⟨xs,hq⟩|q:=q1;subst e;cases r1;obtain Xp|rv|p|hz:=I1.45 hq;refine wpAny_pyIter_tuple (show s1.heap.IsTuple a Xp.12 from p) ?_;refine #[s1.6,[s1.6],_,_,H1,rfl,I1.59 (t':=s1.27) λb o e=>Vq _ e,yW a _,#[_,VG _ rfl,rfl,rfl],λb hb=>?_,q];have e:b=s1.6:=by simpa using hb
 subst e;show I1.Yt (aj _) (I1.Xw.39 (aj _))
theorem Ff {σ:St} {lo hi:Int} (I:Inv X Xe σ H s) (h1:-(2^62)<=lo) (h2:lo < 2^62) (h3:-(2^62)<=hi) (h4:hi < 2^62)
  (q:R (GU lo (hi - lo).28) H):VC (model X.18 X.w) X.A (pyIter (.ref s.6)) (PIE X Xe σ tg R) E { s with heap:=s.heap.25 { cls:=.type "range",data:=.fields [.int lo t,.int hi u,.int 1 v].12 },toks:=tk }:=by
 refine wpAny_pyIter_range (IsRange.new ..) (small_one h1 h2 h3 h4) ?_;have I1:Inv X Xe σ H { s with heap:=s.heap.25 { cls:=.type "range",data:=.fields [.int lo t,.int hi u,.int 1 v].12 },toks:=tk }:=I.59 λb o e=>Vq _ e
 refine #[(s.heap.25 { cls:=.type "range",data:=.fields [.int lo t,.int hi u,.int 1 v].12 }).objs.size,[(s.heap.25 { cls:=.type "range",data:=.fields [.int lo t,.int hi u,.int 1 v].12 }).objs.size],_,_,H,rfl,
  I1.59 (t':=tk) λb o e=>Vq _ e,HB _ lo (hi - lo).28,?_,λb hb=>?_,q]
 ·have e1:lo+((0:Nat):Int)*1=lo:=by simp
  have e2:(((hi - lo).28:Nat):Int) - ((0:Nat):Int)=WA.Range.rangeSize lo hi 1:=by rw[rangeSize_one];split <;> lia
  change IsRangeIter _ _ (lo+((0:Nat):Int)*1) ((((hi - lo).28:Nat):Int) - ((0:Nat):Int)) 1
  rw[e1,e2];show VG _ rfl
 ·have e:b=(s.heap.25 { cls:=.type "range",data:=.fields [.int lo t,.int hi u,.int 1 v].12 }).objs.size:=by simpa using hb
  subst e;show I1.Yt (aj _) (I1.Xw.39 (aj _))
def QG (ta:TA):TI:=λσ H R=>ta σ H λvs H1=>∃j:Int,vs=[.int j]/\-(2^62)<=j/\j < 2^62/\R (GU 0 j.28) H1
def QF (ta:TA):TI:=λσ H R=>ta σ H λvs H1=>∃i j:Int,vs=[.int i,.int j]/\(-(2^62)<=i/\i < 2^62/\-(2^62)<=j/\j < 2^62)/\R (GU i (j - i).28) H1
theorem b8 {a:Expr} {ta:TA} {p pos:Pos} (hg:Gl X "range") (hm:X.mg "range"=none) (ha:PA X [a] ta) (hs:Vu [a] X.16=[(false,eval a X.16)]:=by rfl):PI X tg (.Call (.Name "range" p) [a] [] pos) (QG ta):=by
 intro Xe s σ H R I h;refine Call_ (kS I hg hm boot_range (VI (gX (ha pos Xe s σ H _ I h) λus s1 hz=>?_) hs rfl));obtain vs|H1|I1|r1|q1:=hz;obtain j|e|q1|q2|q:=q1;subst e;cases r1 with
 | cons r rr =>
  cases rr;obtain t|rfl:=r;show call_range_1 (Ff I1 () () q1 q2 (by simpa using q))
theorem K3 {a b:Expr} {ta:TA} {p pos:Pos} (hg:Gl X "range") (hm:X.mg "range"=none) (ha:PA X [a,b] ta) (hs:Vu [a,b] X.16=[(false,eval a X.16),(false,eval b X.16)]:=by rfl) (Zl:Vu [b] X.16=[(false,eval b X.16)]:=by rfl) :
  PI X tg (.Call (.Name "range" p) [a,b] [] pos) (QF ta):=by
 intro Xe s σ H R I h;refine Call_ (kS I hg hm boot_range (VI (gX (ha pos Xe s σ H _ I h) λus s1 hz=>?_) (by rw[hs,Zl]) (by rw[Zl];rfl)));obtain vs|H1|I1|r1|q1:=hz;obtain i|j|e|⟨q1,q2,q3,q4⟩|q:=q1;subst e;cases r1 with
 | cons r rr =>
  cases rr with
  | cons r' rr =>
   cases rr;obtain t|rfl:=r;obtain t'|rfl:=r';show call_range_2 (Ff I1 q1 q2 q3 q4 q)
def TB (wi:TI) (g:TG) (tb:TS):TS:=λD σ H=>wi σ H λJ H1=>∃W:Nat->Nat->St->Hp->Prop,(∃m,W 0 m σ H1)/\∀i m σ H,W i m σ H →
 (J.stop i H/\D.nx σ H)\/(J.go i H/\∃N:St->Hp->Prop,(∀σ' H',N σ' H'->∃m',m' < m/\W (i+1) m' σ' H')/\∀x H',J.ZQ i H x H'->g x σ H' λσ2 H2=>tb { D with nx:=N,ct:=N,bk:=D.nx } σ2 H2)
def zG (fp:List Addr) (h:Heap):List (Addr×Obj):=fp.filterMap λb=>(h.14 b).11 λo=>(b,o)
theorem qN (hb:b∈fp) (e:h.14 b=some o):(b,o)∈zG fp h:=List.mem_filterMap.mpr #[b,hb,by rw[e];rfl]
theorem K6 (hp:p∈zG fp h):p.1∈fp/\h.14 p.1=some p.2:=by
 obtain b|hb|e:=List.mem_filterMap.mp hp;cases q:h.14 b with
 | none=>rw[q] at e;cases e
 | some o =>
  rw[q] at e;have e':(b,o)=p:=cv e;subst e';show #[hb,q]
theorem Inv.pinned {σ:St} (I:Inv X Xe σ H s) (hf:∀b∈fp,kX X Xe H b) (ho:∀b∈fp,∃o,s.heap.14 b=some o/\∀v,o.data≠.cell v):Inv X (Xe++zG fp s.8) σ H s :=
 I.Yn λp hp=>(ao.mp hp).55 (λz=>I.pin p (aU _ z)) λz=>by
  obtain hb|e:=K6 z;obtain f0|f1|f2|_:=hf p.1 hb;obtain o|e'|d:=ho p.1 hb;rw[e] at e';cases e';show #[e,f0,f1,f2,d]
theorem Inv.X7 {σ:St} (I:Inv X (Xe++pl) σ H s):Inv X Xe σ H s:=I.Yn λp hp=>I.pin p (aU _ (cI _ hp))
theorem fo {iter:Expr} {body:List Stmt} {wi:TI} {g:TG} {tb:TS} {pos:Pos} (hp:PassesOwn (model X.18 X.w) X.A X.16 X.xe) (hc:X.calm=true) (hi:PI X tg iter wi) (hg:PG X tg g) (hb:GS X body tb)
  (hs:∀x,WX iter X.16 x=pure x:=by intro _;rfl):PS X (.For tg iter body [] pos) (TB wi g tb):=by
 intro Xe s σ H D I h;refine wpAny_For (gX (hi Xe s σ H _ I h) λv s1 h1=>gX h1 λitv s2 h2=>?_) hs;obtain it|fp|tn|J|H2|e|I2|T|st2|f2|W|⟨m0,w0⟩|turn:=h2;subst e;have _F:∀{H':Hp},(∀b∈fp,H' b=none)->∀b∈fp,kX X Xe H' b:=λhn b hb=>#[hn b hb,(f2 b hb).2]
 refine codeAny_forLoop_any (λn s'=>∃i σ' H',Inv X Xe σ' H' s'/\tn i s'.8/\(∀b∈fp,H' b=none)/\W i n σ' H') ?_ m0 #[0,σ,H2,I2,st2,λb hb=>(f2 b hb).1,w0];rintro n s3 ⟨i,σ3,H3,I3,U!,fr3,w3⟩;rcases turn i n σ3 H3 w3 with ⟨stop,qn⟩ | ⟨go,N,hN,step⟩
 ·refine Wl hp (gX (T.done X rfl rfl rfl hc i Xe s3 σ3 H3 X.xe I3 (_F fr3) U! stop) λr s4 #[hr,I4]=>?_);subst hr;show wpAny_execs_nil #[σ3,H3,I4,qn]
 ·refine Wl hp (gX (T.item X rfl rfl rfl hc i Xe s3 σ3 H3 X.xe I3 (_F fr3) U! go) λr s4 #[u,hr,h4]=>?_);subst hr;refine Wl hp (gX h4 λ_ s5 hz=>?_);obtain x|H5|I5|r5|y5|st5|fr5:=hz;have I5':=I5.pinned (_F fr5) (T.obj _ _ st5);refine Wl hp (gX (hg _ s5 σ3 H5 x u _ I5' r5 (step x H5 y5)) λ_ s6 hz=>?_);obtain σ6|H6|I6|q6:=hz;refine Wl hp (gX (hb _ s6 σ6 H6 _ I6 q6) λf s7 q7=>?_)
  have again:∀{σ7:St} {H7:Hp},Inv X (Xe++zG fp s5.8) σ7 H7 s7->N σ7 H7->∃m,m < n/\∃i σ' H',Inv X Xe σ' H' s7/\tn i s7.8/\(∀b∈fp,H' b=none)/\W i m σ' H':=λ{σ7 H7} I7 n7=>by
   obtain m'|hm|w7:=hN σ7 H7 n7;refine #[m',hm,i+1,σ7,H7,I7.X7,T.keep _ _ _ st5 λb hb o e=>(I7.pin (b,o) (aU _ (aU _ (qN hb e)))).1,λb hb=>?_,w7];obtain o|e|d:=T.obj _ _ st5 b hb;show (I7.pin (b,o) (aU _ (aU _ (qN hb e)))).2.1
  cases f with
  | next=>obtain σ7|H7|I7|n7:=q7;show again I7 n7
  | cont=>obtain σ7|H7|I7|n7:=q7;show again I7 n7
  | brk=>obtain σ7|H7|I7|q7:=q7;show #[σ7,H7,I7.X7,q7]
  | ret v=>obtain x7|σ7|H7|I7|r7|q7:=q7;show #[x7,σ7,H7,I7.X7,r7,q7]
end
theorem mB {K:Xn} {g:TG} {tb:TS} {D:Ends} (Pv:Nat->St->Hp->Prop) (h0:Pv 0 σ H) (hl:∀i σ H,i<=xs.9->Pv i σ H->bN K H a xs)
  (hs:∀i x σ H,xs[i]?=some x->Pv i σ H->g x σ H λσ2 H2=>tb { D with nx:=Pv (i+1),ct:=Pv (i+1),bk:=D.nx } σ2 H2) (hd:∀σ H,Pv xs.9 σ H->D.nx σ H) :
  ∃W:Nat->Nat->St->Hp->Prop,(∃m,W 0 m σ H)/\∀i m σ H,W i m σ H →
   ((Oe K a).stop i H/\D.nx σ H)\/((Oe K a).go i H/\∃N:St->Hp->Prop,(∀σ' H',N σ' H'->∃m',m' < m/\W (i+1) m' σ' H')/\∀x H',(Oe K a).ZQ i H x H'->g x σ H' λσ2 H2=>tb { D with nx:=N,ct:=N,bk:=D.nx } σ2 H2):=by
 refine #[λi m σ H=>m=xs.9 - i/\i<=xs.9/\Pv i σ H,#[xs.9,by simp,be _,h0],?_];rintro i m σ H ⟨rfl,hi,p⟩;have q:=hl i σ H hi p;by_cases XB:i < xs.9
 ·refine .inr #[#[xs,xs[i],q,by simp [XB]],Pv (i+1),λσ' H' p'=>#[xs.9 - (i+1),(),rfl,XB,p'],λx H' y=>?_];obtain e|y:=y;subst e;show hs i x σ _ (y xs q) p
 ·have e:i=xs.9:=()
  subst e;show .inl #[#[xs,q,aj _],hd σ H p]
theorem yP {K:Xn} {g:TG} {tb:TS} {D:Ends} (Pv:Nat->St->Hp->Prop) (h0:Pv 0 σ H) (hl:∀i σ H,i<=xs.9->Pv i σ H->kz K H a xs)
  (hs:∀i x σ H,xs[i]?=some x->Pv i σ H->g x σ H λσ2 H2=>tb { D with nx:=Pv (i+1),ct:=Pv (i+1),bk:=D.nx } σ2 H2) (hd:∀σ H,Pv xs.9 σ H->D.nx σ H) :
  ∃W:Nat->Nat->St->Hp->Prop,(∃m,W 0 m σ H)/\∀i m σ H,W i m σ H →
   ((Qa K a).stop i H/\D.nx σ H)\/((Qa K a).go i H/\∃N:St->Hp->Prop,(∀σ' H',N σ' H'->∃m',m' < m/\W (i+1) m' σ' H')/\∀x H',(Qa K a).ZQ i H x H'->g x σ H' λσ2 H2=>tb { D with nx:=N,ct:=N,bk:=D.nx } σ2 H2):=by
 refine #[λi m σ H=>m=xs.9 - i/\i<=xs.9/\Pv i σ H,#[xs.9,by simp,be _,h0],?_];rintro i m σ H ⟨rfl,hi,p⟩;have q:=hl i σ H hi p;by_cases XB:i < xs.9
 ·refine .inr #[#[xs,xs[i],q,by simp [XB]],Pv (i+1),λσ' H' p'=>#[xs.9 - (i+1),(),rfl,XB,p'],λx H' y=>?_];obtain e|y:=y;subst e;show hs i x σ _ (y xs q) p
 ·have e:i=xs.9:=()
  subst e;show .inl #[#[xs,q,aj _],hd σ H p]
theorem BZ {lo:Int} {g:TG} {tb:TS} {D:Ends} (Pv:Nat->St->Hp->Prop) (h0:Pv 0 σ H)
  (hs:∀i σ H,i < n->Pv i σ H->g (.int (lo+i)) σ H λσ2 H2=>tb { D with nx:=Pv (i+1),ct:=Pv (i+1),bk:=D.nx } σ2 H2) (hd:∀σ H,Pv n σ H->D.nx σ H) :
  ∃W:Nat->Nat->St->Hp->Prop,(∃m,W 0 m σ H)/\∀i m σ H,W i m σ H →
   ((GU lo n).stop i H/\D.nx σ H)\/((GU lo n).go i H/\∃N:St->Hp->Prop,(∀σ' H',N σ' H'->∃m',m' < m/\W (i+1) m' σ' H')/\∀x H',(GU lo n).ZQ i H x H'->g x σ H' λσ2 H2=>tb { D with nx:=N,ct:=N,bk:=D.nx } σ2 H2):=by
 refine #[λi m σ H=>m=n - i/\i<=n/\Pv i σ H,#[n,by simp,be _,h0],?_];rintro i m σ H ⟨rfl,hi,p⟩;by_cases XB:i < n
 ·refine .inr #[XB,Pv (i+1),λσ' H' p'=>#[n - (i+1),(),rfl,XB,p'],λx H' y=>?_];obtain e|y:=y;subst e y;show hs i σ _ XB p
 ·have e:i=n:=()
  subst e;show .inl #[aj _,hd σ H p]
abbrev R2:=V->V->Hp->VK->Prop
def xT (X:Cx) (f:Value->Value->Sem Value) (r:R2):Prop :=
 ∀(Xe:List (Addr×Obj)) (s:Vr) (σ:St) (H:Hp) (x y:V) (v u:Value) (Q:VK),Inv X Xe σ H s->RelV x v->RelV y u->r x y H Q →
  VC (model X.18 X.w) X.A (f v u) (EP X Xe σ Q) X.xe s
def Ve (X:Cx) (f:Value->Sem Value) (r:V->Hp->VK->Prop):Prop :=
 ∀(Xe:List (Addr×Obj)) (s:Vr) (σ:St) (H:Hp) (x:V) (v:Value) (Q:VK),Inv X Xe σ H s->RelV x v->r x H Q →
  VC (model X.18 X.w) X.A (f v) (EP X Xe σ Q) X.xe s
def rB (X:Cx) (f:Value) (r:List V->Hp->VK->Prop):Prop :=
 ∀(Xe:List (Addr×Obj)) (s:Vr) (σ:St) (H:Hp) (xs:List V) (us:List Value) (Q:VK),Inv X Xe σ H s->cO xs us->r xs H Q →
  VC (model X.18 X.w) X.A (call f us) (EP X Xe σ Q) X.xe s
def Tv (r:R2) (ta tb:TE):TE:=λσ H Q=>ta σ H λx H1=>tb σ H1 λy H2=>r x y H2 Q
def UM (r:V->Hp->VK->Prop) (ta:TE):TE:=λσ H Q=>ta σ H λx H1=>r x H1 Q
def rI (C:Int->Int->Prop) (g:Int->Int->V):R2:=λx y H Q=>∃i j,x=.int i/\y=.int j/\C i j/\Q (g i j) H
def Pc (g:Int->Int->V):R2:=λx y H Q=>∃i j,x=.int i/\y=.int j/\Q (g i j) H
def rU (g:Int->V):V->Hp->VK->Prop:=λx H Q=>∃i,x=.int i/\Q (g i) H
section
variable {X:Cx} {a b c:Expr} {ta tb tc:TE} {pos:Pos}
theorem SX (ha:PE X a ta) (hb:PE X b tb) {σ:St} {R:V->V->Hp->Prop} (I:Inv X Xe σ H s)
  (h:ta σ H λx H1=>tb σ H1 λy H2=>R x y H2) {f:Value->Value->Sem Value}
  (hf:∀v u s2 x y H2,Inv X Xe σ H2 s2->RelV x v->RelV y u->R x y H2->VC (model X.18 X.w) X.A (f v u) Q X.xe s2) :
  VC (model X.18 X.w) X.A (eval a X.16) (λv s₁=>VC (model X.18 X.w) X.A (eval b X.16) (λu s₂=>VC (model X.18 X.w) X.A (f v u) Q X.xe s₂) X.xe s₁) X.xe s:=by
 refine gX (ha Xe s σ H _ I h) λv s1 hz=>?_
 obtain x|H1|I1|r1|q1:=hz;refine gX (hb Xe s1 σ H1 _ I1 q1) λu s2 hz=>?_
 obtain y|H2|I2|r2|q2:=hz;show hf v u s2 x y H2 I2 r1 r2 q2
theorem bF (ho:xT X (W8 op) r) (ha:PE X a ta) (hb:PE X b tb):PE X (.BinOp a op b pos) (Tv r ta tb):=by
 intro Xe s σ H Q I h;show wpAny_BinOp (SX ha hb I h λv u s2 x y H2 I2 rx ry q=>ho Xe s2 σ H2 x y v u Q I2 rx ry q)
theorem zI (ho:Ve X (unaryOp op) r) (ha:PE X a ta):PE X (.UnaryOp op a pos) (UM r ta):=by
 intro Xe s σ H Q I h;show UnaryOp_ (gX (ha Xe s σ H _ I h) λv s1 #[x,H1,I1,r1,q1]=>ho Xe s1 σ H1 x v Q I1 r1 q1)
theorem U3 {g:Int->Int->Int}
  (rule:∀(i j:Int) (t u:Tok) (s:Vr) (Q:Value->Vr->Prop) (E:Value->Vr->Prop),C i j->Q (.int (g i j) s.27) { s with toks:=s.27+1 }->VC (model X.18 X.w) X.A (f (.int i t) (.int j u)) Q E s) :
  xT X f (rI C λi j=>.int (g i j)):=by
 intro Xe s σ H x y v u Q I rx ry h;obtain i|j|rfl|rfl|hc|q:=h;obtain t|rfl:=rx;obtain t'|rfl:=ry;show rule i j t t' s _ _ hc #[.int (g i j),H,I.tok _,#[_,rfl],q]
theorem Ug {g:Int->Int->Int}
  (rule:∀(i j:Int) (t u:Tok) (s:Vr) (Q:Value->Vr->Prop) (E:Value->Vr->Prop),Q (.int (g i j) s.27) { s with toks:=s.27+1 }->VC (model X.18 X.w) X.A (f (.int i t) (.int j u)) Q E s) :
  xT X f (Pc λi j=>.int (g i j)):=by
 intro Xe s σ H x y v u Q I rx ry h;obtain i|j|rfl|rfl|q:=h;obtain t|rfl:=rx;obtain t'|rfl:=ry;show rule i j t t' s _ _ #[.int (g i j),H,I.tok _,#[_,rfl],q]
theorem Pl {g:Int->Int->Bool}
  (rule:∀(i j:Int) (t u:Tok) (s:Vr) (Q:Value->Vr->Prop) (E:Value->Vr->Prop),Q (.bool (g i j)) s->VC (model X.18 X.w) X.A (f (.int i t) (.int j u)) Q E s) :
  xT X f (Pc λi j=>.bl (g i j)):=by
 intro Xe s σ H x y v u Q I rx ry h;obtain i|j|rfl|rfl|q:=h;obtain t|rfl:=rx;obtain t'|rfl:=ry;show rule i j t t' s _ _ #[.bl (g i j),H,I,rfl,q]
def Tb (i j:Int):Prop:=(-(2^64) < i/\i < 2^64)\/(-(2^64) < j/\j < 2^64)
theorem Tb.ok (h:Tb i j):IntMulOk i j:=by
 rcases h with ⟨h1,h2⟩ | ⟨h1,h2⟩
 ·show .of_left (intBits_le_64 h1 h2)
 ·show .of_right (intBits_le_64 h1 h2)
theorem ic:xT X (W8 .Add) (Pc λi j=>.int (i+j)):=Ug λ_ _ _ _ _ _ _ q=>add_int q
theorem jf:xT X (W8 .Sub) (Pc λi j=>.int (i - j)):=Ug λ_ _ _ _ _ _ _ q=>sub_int q
theorem oV:xT X (W8 .Mod) (rI (λ_ j=>0 < j) λi j=>.int (i % j)):=U3 λi j _ _ _ _ _ hc q=>by
 have h1:(0:Int) < j:=hc;show mod_int' () (by rw[Int.fmod_eq_emod_of_nonneg i ()];show q)
theorem Pk:xT X (W8 .Mod) (rI (λ_ j=>j≠0) λi j=>.int (i.fmod j)):=U3 λ_ _ _ _ _ _ _ hc q=>mod_int' hc q
theorem unI {g:Int->Int}
  (rule:∀(i:Int) (t:Tok) (s:Vr) (Q:Value->Vr->Prop) (E:Value->Vr->Prop),Q (.int (g i) s.27) { s with toks:=s.27+1 }->VC (model X.18 X.w) X.A (f (.int i t)) Q E s) :
  Ve X f (rU λi=>.int (g i)):=by
 intro Xe s σ H x v Q I rx h;obtain i|rfl|q:=h;obtain t|rfl:=rx;show rule i t s _ _ #[.int (g i),H,I.tok _,#[_,rfl],q]
theorem uj:Ve X (unaryOp .USub) (rU λi=>.int (-i)):=unI λ_ _ _ _ _ q=>neg_int q
end
def TN:V->V->Bool
 | .Xy,.Xy=>true | .Xy,.int _=>true | .int _,.Xy=>true | .Xy,.bl _=>true | .bl _,.Xy=>true | .Xy,.str _=>true | .str _,.Xy=>true
 | .int _,.int _=>true | .bl _,.bl _=>true | .str _,.str _=>true | .Zt _,.Zt _=>true
 | .int _,.str _=>true | .str _,.int _=>true | .bl _,.str _=>true | .str _,.bl _=>true
 | _,_=>false
def rEq:R2:=λx y H Q=>TN x y=true/\Q (.bl (decide (x=y))) H
def rNe:R2:=λx y H Q=>TN x y=true/\Q (.bl (!decide (x=y))) H
theorem Kn:decide (V.int i=V.int j)=(i == j):=by
 rw[nE];simp
theorem NL:decide (V.bl i=V.bl j)=(i == j):=by
 rw[nE];simp
theorem Km:decide (V.str i=V.str j)=(i == j):=by
 rw[nE];simp
theorem Ko:decide (V.Zt i=V.Zt j)=(i.toList == j.toList):=by
 rw[nE];cases i;cases j;simp
section
variable {X:Cx} {a b c:Expr} {ta tb tc:TE} {pos:Pos}
theorem dh {σ:St} (I:Inv X Xe σ H s) (q:Q (.bl k) H) (e:k=k'):EP X Xe σ Q (.bool k') s:=by
 subst e;show #[.bl k,H,I,rfl,q]
theorem gD:xT X (We .Eq) rEq:=by
 intro Xe s σ H x y v u Q I rx ry h;obtain hs|q:=h;cases x with
 | Xy =>
  cases rx;cases y with
  | Xy=>cases ry;show PySem.EqNone.eq_none_none (dh I q (by simp))
  | bl j=>cases ry;show PySem.EqNone.eq_none_bool (dh I q (by simp))
  | int j=>obtain t'|rfl:=ry;show PySem.EqNone.eq_none_int (dh I q (by simp))
  | str j=>obtain t'|rfl:=ry;show PySem.EqNone.eq_none_str (dh I q (by simp))
  | _=>show absurd (show false=true from hs) a8
 | bl i =>
  cases rx;cases y with
  | Xy=>cases ry;show PySem.EqNone.eq_bool_none (dh I q (by simp))
  | bl j=>cases ry;show eq_bool (dh I q NL)
  | str j=>obtain t'|rfl:=ry;show PySem.EqMixed.eq_bool_str (dh I q (by simp))
  | _=>show absurd (show false=true from hs) a8
 | int i =>
  obtain t|rfl:=rx;cases y with
  | Xy=>cases ry;show PySem.EqNone.eq_int_none (dh I q (by simp))
  | int j=>obtain t'|rfl:=ry;show eq_int (dh I q Kn)
  | str j=>obtain t'|rfl:=ry;show PySem.EqMixed.eq_int_str (dh I q (by simp))
  | _=>show absurd (show false=true from hs) a8
 | str i =>
  obtain t|rfl:=rx;cases y with
  | Xy=>cases ry;show PySem.EqNone.eq_str_none (dh I q (by simp))
  | bl j=>cases ry;show PySem.EqMixed.eq_str_bool (dh I q (by simp))
  | int j=>obtain t'|rfl:=ry;show PySem.EqMixed.eq_str_int (dh I q (by simp))
  | str j=>obtain t'|rfl:=ry;show eq_str (dh I q Km)
  | _=>show absurd (show false=true from hs) a8
 | Zt i =>
  obtain t|rfl:=rx;cases y with
  | Zt j=>obtain t'|rfl:=ry;show PySem.W.eq_bytes (dh I q Ko)
  | _=>show absurd (show false=true from hs) a8
 | _=>cases y <;> show absurd (show false=true from hs) a8
theorem pA:xT X (We .NotEq) rNe:=by
 intro Xe s σ H x y v u Q I rx ry h;obtain hs|q:=h;cases x with
 | Xy =>
  cases rx;cases y with
  | Xy=>cases ry;show PySem.EqNone.ne_none_none (dh I q (by simp))
  | bl j=>cases ry;show PySem.EqNone.ne_none_bool (dh I q (by simp))
  | int j=>obtain t'|rfl:=ry;show PySem.EqNone.ne_none_int (dh I q (by simp))
  | str j=>obtain t'|rfl:=ry;show PySem.EqNone.ne_none_str (dh I q (by simp))
  | _=>show absurd (show false=true from hs) a8
 | bl i =>
  cases rx;cases y with
  | Xy=>cases ry;show PySem.EqNone.ne_bool_none (dh I q (by simp))
  | bl j=>cases ry;show ne_bool (dh I q (congrArg not NL))
  | str j=>obtain t'|rfl:=ry;show PySem.EqMixed.ne_bool_str (dh I q (by simp))
  | _=>show absurd (show false=true from hs) a8
 | int i =>
  obtain t|rfl:=rx;cases y with
  | Xy=>cases ry;show PySem.EqNone.ne_int_none (dh I q (by simp))
  | int j=>obtain t'|rfl:=ry;show ne_int (dh I q (congrArg not Kn))
  | str j=>obtain t'|rfl:=ry;show PySem.EqMixed.ne_int_str (dh I q (by simp))
  | _=>show absurd (show false=true from hs) a8
 | str i =>
  obtain t|rfl:=rx;cases y with
  | Xy=>cases ry;show PySem.EqNone.ne_str_none (dh I q (by simp))
  | bl j=>cases ry;show PySem.EqMixed.ne_str_bool (dh I q (by simp))
  | int j=>obtain t'|rfl:=ry;show PySem.EqMixed.ne_str_int (dh I q (by simp))
  | str j=>obtain t'|rfl:=ry;show ne_str (dh I q (congrArg not Km))
  | _=>show absurd (show false=true from hs) a8
 | Zt i =>
  obtain t|rfl:=rx;cases y with
  | Zt j=>obtain t'|rfl:=ry;show PySem.W.ne_bytes (dh I q (congrArg not Ko))
  | _=>show absurd (show false=true from hs) a8
 | _=>cases y <;> show absurd (show false=true from hs) a8
theorem tW:xT X (We .Lt) (Pc λi j=>.bl (decide (i < j))):=Pl λ_ _ _ _ _ _ _ q=>lt_int q
theorem Ue:xT X (We .LtE) (Pc λi j=>.bl (decide (i<=j))):=Pl λ_ _ _ _ _ _ _ q=>le_int q
theorem zO:xT X (We .Gt) (Pc λi j=>.bl (decide (j < i))):=Pl λ_ _ _ _ _ _ _ q=>gt_int q
theorem zP:xT X (We .GtE) (Pc λi j=>.bl (decide (j<=i))):=Pl λ_ _ _ _ _ _ _ q=>ge_int q
theorem Sl:xT X (We .Is) (λx y H Q=>y=.Xy/\Q (.bl (decide (x=.Xy))) H):=by
 intro Xe s σ H x y v u Q I rx ry h;obtain rfl|q:=h;cases ry;refine is_none_gen (dh I q ?_)
 cases x <;> first
  | (cases rx;rfl)
  | (obtain ⟨t,rfl⟩:=rx;rfl)
theorem Pj:xT X (We .IsNot) (λx y H Q=>y=.Xy/\Q (.bl (!decide (x=.Xy))) H):=by
 intro Xe s σ H x y v u Q I rx ry h;obtain rfl|q:=h;cases ry;refine isnot_none_gen (dh I q ?_)
 cases x <;> first
  | (cases rx;rfl)
  | (obtain ⟨t,rfl⟩:=rx;rfl)
theorem bE (b:Expr) {op:CmpOp} (h:op≠.In:=by decide) (h2:op≠.NotIn:=by decide):behindInMarks op b=false:=by
 have e1:(op == CmpOp.In)=false:=by cases op <;> first | rfl | show absurd rfl h
 have e2:(op == CmpOp.NotIn)=false:=by cases op <;> first | rfl | show absurd rfl h2
 cases b <;> simp [behindInMarks,e1,e2]
theorem jz (ho:xT X (We op) r) (ha:PE X a ta) (hb:PE X b tb) (hm:behindInMarks op b=false):PE X (.Compare a [op] [b] pos) (Tv r ta tb):=by
 intro Xe s σ H Q I h;show wpAny_Compare1 (SX ha hb I h λv u s2 x y H2 I2 rx ry q=>ho Xe s2 σ H2 x y v u Q I2 rx ry q) hm
def Qg (t:TE):TT:=λσ H Q=>t σ H λx H'=>∃k,x=.bl k/\Q k H'
theorem bf (ho:xT X (We op) r) (ha:PE X a ta) (hb:PE X b tb) (hm:behindInMarks op b=false):PT X (.Compare a [op] [b] pos) (Qg (Tv r ta tb)):=by
 intro Xe s σ H Q I h
 refine wpAny_isTrue_Compare1 (gX (ha Xe s σ H _ I h) λv s1 #[x,H1,I1,r1,q1]=>gX (hb Xe s1 σ H1 _ I1 q1) λu s2 #[y,H2,I2,r2,q2] =>
  gX (ho Xe s2 σ H2 x y v u _ I2 r1 r2 q2) λc s3 #[z,H3,I3,r3,k,e,q3]=>?_) hm
 subst e;cases r3;show WE #[H3,I3,q3]
theorem z5:(VD:Nat) < 2^63:=by rw[sizeLine_eq];decide
theorem vals1 (r:cO [x] us):∃u,us=[u]/\RelV x u:=by
 cases r with
 | cons r1 r2=>cases r2;show #[_,rfl,r1]
theorem vals2 (r:cO [x,y] us):∃u w',us=[u,w']/\RelV x u/\RelV y w':=by
 cases r with
 | cons r1 r2 =>
  cases r2 with
  | cons r3 r4=>cases r4;show #[_,_,rfl,r1,r3]
theorem As:rB X (.builtin "abs") (λxs H Q=>∃i,xs=[.int i]/\Q (.int (if i < 0 then -i else i)) H):=by
 intro Xe s σ H xs us Q I r h;obtain i|rfl|q:=h;obtain u|rfl|t|rfl:=vals1 r;show call_abs_int λu tk=>#[.int (if i < 0 then -i else i),H,I.tok _,#[_,rfl],q]
theorem tG (hc:X.calm=true):rB X (.builtin "min") (λxs H Q=>∃i j,xs=[.int i,.int j]/\Q (.int (if j < i then j else i)) H):=by
 intro Xe s σ H xs us Q I r h;obtain i|j|rfl|q:=h;obtain u|w'|rfl|⟨t,rfl⟩|⟨t',rfl⟩:=vals2 r;refine min_two_ints (I.ok.hd hc) λh' tk k=>#[_,H,I.59 k,?_,q]
 by_cases hj:j < i
 ·rw[if_pos hj,if_pos hj];show #[_,rfl]
 ·rw[if_neg hj,if_neg hj];show #[_,rfl]
end
structure Je (h:Heap) (x dx C:Addr) (mA:Str->Option Value):Prop where
 obj:h.14 x=some (Wf C dx)
 ns:h.Ns1 dx mA
 ne:dx≠x
theorem Lb {h:Heap} (n:h.Ns1 dx mA):∃od,h.14 dx=some od/\∀name,PySem.W.lookIn name od=some (mA name):=by
 obtain o|es|ep|ho|hd|hk|_|hm:=n;refine #[o,ho,λname=>?_];have e:=hm name;unfold nsFind findBy at e;rw[<- Array.find?_toList] at e;unfold PySem.W.lookIn;rw[hd]
 dsimp only
 split
 ·rename_i y q
  rw[q] at e;show congrArg some e
 ·rename_i q
  rw[q] at e
  have a:es.toList.58 (·.refKey)=false:=by
   rw[List.any_eq_false];intro y hy;obtain z|t|aeC:=hk y (Array.mem_toList_iff.mp hy);simp [DictEntry.refKey,aeC]
  have a':¬es.toList.58 (·.refKey)=true:=by rw[a];show a8
  rw[if_neg a'];show congrArg some e
theorem Je.look (I:Je h x dx C mA):∃od,PySem.W.InstAt h x (Wf C dx) C (some od)/\∀name,PySem.W.lookIn name od=some (mA name) :=
 let ⟨od,ho,hl⟩:=Lb I.ns
 #[od,#[I.obj,rfl,rfl,ho],hl]
section
variable {K:Xn}
theorem get_map (X:K.In s.8) (I:Je s.26 x dx C mA) (hg:PySem.W.plainGet K C name=true) (hh:PySem.W.hasDictIn K C=true)
  (ha:VO K (.ref C) name=some none) (hv:mA name=some v) (hv':PySem.W.handedIn v=true) (h:Q v { s with toks:=s.27+1 }) :
  VC (model prog w) A (getAttr (.ref x) name expr) Q E s:=by
 obtain od|J|hl:=I.look;show PySem.W.get_value X J (EB hg).1 (PySem.W.findObj_own hh ha rfl (by rw[hl,hv])) hv' h
theorem Nq (X:K.In s.8) (I:Je s.26 x dx C mA) (hg:PySem.W.plainGet K C name=true)
  (hf:VO K (.ref C) name=some (some (.ref f))) (ht:PySem.W.isFn K (.ref f)=true) (hv:mA name=none) (h:Q (.ref f,[.ref x]) s) :
  VC (model prog w) A (getMethod (.ref x) name pl) Q E s:=by
 obtain od|J|hl:=I.look;show PySem.W.method_fn X J (EB hg).1 (EB hg).2 hf (beq_iff_eq.mp ht) (by change (PySem.W.lookIn name od).11 (·.isSome)=some false;rw[hl,hv];rfl) h
theorem OL (X:K.In s.8) (I:Je s.26 x dx C mA)
  (hs:VO K (.ref C) "__setattr__"=some (some (.builtin "object.__setattr__"))) (hp:PySem.W.plainOver K C=true) (ht:PySem.W.takerIn K C name=some none) (hh:PySem.W.hasDictIn K C=true)
  (hw:PySem.Within mA ns) (hsz:ns.9<=VD)
  (h:∀h',Je h' x dx C (λy=>if y=name then some v else mA y)->WS dx s.26 h'->Q .unit { s with heap:=h',toks:=s.27+2 }) :
  VC (model prog w) A (setAttr (.ref x) name v) Q E s:=by
 obtain od|J|hl:=I.look;refine PySem.W.set_plain X J hs (PySem.W.osa_open (s:={ s with toks:=s.27+1 }) (r:=none) X J hp ht λb=>?_);obtain cd|hc|hd':=PySem.W.any_some hh;have hx:s.heap.14 x=some #[.ref C,some dx,.plain,[].12]:=I.obj;refine K0 (VB (K0 (K0 (wpAny_loadPart hx (K0 (PySem.W.Looks.here (s:={ s with toks:=s.27+1 }) (PySem.W.looks_clsIn X hc) ?_))))));rw[hd'];refine VB (a:=some dx) (K0 (VB (K0 ?_)));refine wpAny_nsSet1 (s:={ s with toks:=s.27+1 }) I.ns λh' hn2 Zl=>?_
 obtain oD|esD|epD|F!|hdD|hcD:=hn2.count (PySem.Within.cons name v hw);refine K0 (wpAny_lookBehind F! (by rw[hdD];show pastItsLine_dict (ag hcD (by rw[bC];lia))) ?_);show VB (h _ #[(Zl.2 _ (Wc I.ne)).4 I.obj,hn2,I.ne] Zl)
theorem M5 (X:K.In s.8) (hm:PySem.W.makesIn K C=true)
  (hi:VO K (.ref C) "__init__"=some (some (.ref f))) (hf:PySem.W.typeIn K (.ref f)=some (.type "function"))
  (h:W5 (model prog w) (A.under (.builtin "type.__call__" #[.ref C :: vs,kw])) (.call (.ref f) #[.ref (s.6+1) :: vs,kw]) (PySem.W.InitBack (s.6+1) R)
   { s with heap:=(s.heap.25 VR).25 (Wf C s.6) }) :
  W5 (model prog w) A (.call (.ref C) #[vs,kw]) R s:=by
 obtain hh|g|d|t|os:=s;show PySem.W.make_core (PySem.W.makes_of X hm) (PySem.W.looks_findIn X hi) (λself=>PySem.W.bind_fn X self hf) (.inl rfl) h
end
def cy (f:Str) (v:V):List (Str×V)->List (Str×V)
 | []=>[(f,v)]
 | (g,x) :: r=>if g=f then (g,v) :: r else (g,x) :: cy f v r
theorem bL (f g:Str) (v:V):∀fs:List (Str×V),(cy f v fs).13 g=if g=f then some v else fs.13 g
 | []=>by
  change WN g [(f,v)]=_
  by_cases h:g=f
  ·have hb:(g == f)=true:=beq_iff_eq.mpr h;simp only[WN,hb,if_pos h]
  ·have hb:(g == f)=false:=beq_eq_false_iff_ne.mpr h;simp only[WN,hb,if_neg h]
 | (k,x) :: r=>by
  have ih:=bL f g v r;rw[show cy f v ((k,x) :: r)=(if k=f then (k,v) :: r else (k,x) :: cy f v r) from rfl];by_cases hk:k=f
  ·rw[if_pos hk];by_cases h:g=k
   ·have hb:(g == k)=true:=beq_iff_eq.mpr h;simp only[WN,hb,if_pos (h.4 hk)]
   ·have hb:(g == k)=false:=beq_eq_false_iff_ne.mpr h;simp only[WN,hb,if_neg (λe:g=f=>h (e.4 hk.20))]
  ·rw[if_neg hk];by_cases h:g=k
   ·have hb:(g == k)=true:=beq_iff_eq.mpr h;simp only[WN,hb,if_neg (λe:g=f=>hk (h.symm.4 e))]
   ·have hb:(g == k)=false:=beq_eq_false_iff_ne.mpr h;simp only[WN,hb];show ih
theorem xF (f:Str) (v:V):∀fs:List (Str×V),f∈(cy f v fs).11 (·.1)/\∀g,g∈fs.11 (·.1)->g∈(cy f v fs).11 (·.1)
 | []=>#[by simp [cy],λg h=>by simp at h]
 | (k,x) :: r=>by
  obtain i1|i2:=xF f v r;rw[show cy f v ((k,x) :: r)=(if k=f then (k,v) :: r else (k,x) :: cy f v r) from rfl];by_cases hk:k=f
  ·rw[if_pos hk];subst hk;show #[by simp,λg h=>by simpa using h]
  ·rw[if_neg hk];refine #[?_,λg h=>?_]
   ·rw[iB];show bP _ i1
   ·rw[iB] at h ⊢;rcases aF.mp h with e | e
    ·show aF.mpr (.inl e)
    ·show bP _ (i2 g e)
theorem ye (f:Str) (v:V):∀fs:List (Str×V),(cy f v fs).9<=fs.9+1
 | []=>by simp [cy]
 | (k,x) :: r=>by
  have ih:=ye f v r;rw[show cy f v ((k,x) :: r)=(if k=f then (k,v) :: r else (k,x) :: cy f v r) from rfl];by_cases hk:k=f
  ·rw[if_pos hk,bC,bC];lia
  ·rw[if_neg hk,bC,bC];lia
theorem Bv.some_of (r:Bv (some v) o):∃u,o=some u/\RelV v u:=by
 cases o with
 | none=>show (show False from r).55
 | some u=>show #[u,rfl,r]
theorem Bv.none_of (r:Bv none o):o=none:=by
 cases o with
 | none=>rfl
 | some u=>show (show False from r).55
theorem Lg (r:RelV v u):PySem.W.handedIn u=true:=by
 cases v with
 | Xy=>cases (show u=V4 from r);rfl
 | bl b=>cases (show u=WL b from r);rfl
 | int i=>obtain t|e:=(show ∃t,u=Value.int i t from r);cases e;rfl
 | str x=>obtain t|e:=(show ∃t,u=Value.str x t from r);cases e;rfl
 | Zt b=>obtain t|e:=(show ∃t,u=Value.bytes b t from r);cases e;rfl
 | _B b=>obtain t|e:=(show ∃t,u=Value.float b t from r);cases e;rfl
 | ref a=>cases (show u=Vy a from r);rfl
 | ty n=>cases (show u=V6 n from r);rfl
theorem vI (Xw:yS P w H h) (e:H a=some (.ins C dx fs)):∃mA,Je h a dx C mA/\(∀f,Bv (fs.13 f) (mA f))/\PySem.Within mA (fs.11 (·.1))/\fs.9<=1000/\H dx=some (.own a):=by
 obtain d|z|ne|ob|mA|n|r|q:=(show gL P w H h a (.ins C dx fs) from Xw a _ e);show #[mA,#[ob,n,ne],r,q,z,d]
structure LZ (K:Xn) (C:Addr):Prop where
 pg:PySem.W.plainGet K C Str.empty=true
 hd:PySem.W.hasDictIn K C=true
 po:PySem.W.plainOver K C=true
 sa:VO K (.ref C) "__setattr__"=some (some (.builtin "object.__setattr__"))
theorem LZ.get {K:Xn} (c:LZ K C) (f:Str):PySem.W.plainGet K C f=true:=c.pg
def ku (K:Xn) (C:Addr) (f:Str):Prop:=VO K (.ref C) f=some none
theorem ku.R! {K:Xn} (n:ku K C f):PySem.W.takerIn K C f=some none:=by
 unfold PySem.W.takerIn;rw[show VO K (.ref C) f=some none from n];rfl
structure S7 (K:Xn) (C:Addr) (m:Str) (f:Addr):Prop where
 at_:VO K (.ref C) m=some (some (.ref f))
 fn:PySem.W.isFn K (.ref f)=true
 kp:WH K (.ref f)=true
section
variable {σ:St}
theorem Iq (I:Inv X Xe σ H s) (e:H a=some (.ins C dx fs)) (c:LZ X.K C) (n:ku X.K C f) (l:fs.13 f=some v)
  (h:∀u s',Inv X Xe σ H s'->RelV v u->Q u s'):VC (model X.18 X.w) A (getAttr (.ref a) f b) Q E s:=by
 obtain mA|O|r|_|_|_:=vI I.Xw e;obtain u|hu|ru:=Bv.some_of (v:=v) (o:=mA f) (by rw[<- l];show r f);show get_map I.XN O (c.get f) c.hd n hu (Lg ru) (h u _ (I.tok _) ru)
theorem Ip (I:Inv X Xe σ H s) (e:H a=some (.ins C dx fs)) (c:LZ X.K C) (k:S7 X.K C m g) (l:fs.13 m=none)
  (h:Q (.ref g,[.ref a]) s):VC (model X.18 X.w) A (getMethod (.ref a) m pl) Q E s:=by
 obtain mA|O|r|_|_|_:=vI I.Xw e;have hn:mA m=none:=Bv.none_of (by rw[<- l];show r m);show Nq I.XN O (c.get m) k.at_ k.fn hn h
theorem HG (I:Inv X Xe σ H s) (e:H a=some (.ins C dx fs)) (c:LZ X.K C) (n:ku X.K C f) (hl:fs.9 < 1000) (ry:RelV y u)
  (h:∀s',Inv X Xe σ (upd H a (.ins C dx (cy f y fs))) s'->Q .unit s'):VC (model X.18 X.w) A (setAttr (.ref a) f u) Q E s:=by
 obtain mA|O|r|wi|_|ho:=vI I.Xw e;have hz:(fs.11 (·.1)).9<=VD:=by rw[af,sizeLine_eq];lia
 refine OL I.XN O c.sa c.po n.R! c.hd wi hz λh' O' sb=>h _ ?_
 have hd:∃o,h'.14 dx=some o:=let ⟨o,_,_,e',_⟩:=O'.ns;#[o,e']
 refine I.write (x:=a) (e:=dx) (by rw[e];show Wi) (.inr ho) (λb q hb z=>(sb.2 b hb).4 z) hd ?_;refine #[by rw[bA O.ne];show ho,?_,O.ne,O'.obj,_,O'.ns,λg=>?_,λg hg=>?_]
 ·have:=ye f y fs;lia
 ·change Bv ((cy f y fs).13 g) (if g=f then some u else mA g)
  rw[bL];by_cases q:g=f
  ·rw[if_pos q,if_pos q];show ry
  ·rw[if_neg q,if_neg q];show r g
 ·by_cases q:g=f
  ·rw[q];show (xF f y fs).1
  ·refine (xF f y fs).2 g (wi g λz=>hg ?_);change (if g=f then some u else mA g)=none
   rw[if_neg q];show z
theorem Inv.made (I:Inv X Xe σ H s):Inv X Xe σ (upd (upd H s.heap.objs.35 (.own (s.6+1))) (s.6+1) (.ins C s.6 []))
  { s with heap:=(s.heap.25 VR).25 (Wf C s.6) }:=by
 have e1:(s.heap.25 VR).14 s.6=some VR:=VG s.26 rfl
 have e2:((s.heap.25 VR).25 (Wf C s.6)).14 (s.6+1)=some (Wf C s.6):=by
  have:=VG (s.heap.25 VR) (o:=Wf C s.6) rfl;rwa [Wq] at this
 have e3:(s.heap.25 VR).Ns s.heap.objs.35 (λ_=>none):=#[VR,[].12,_,e1,rfl,(λe he=>absurd he (by simp)),λ_=>rfl];have I1:=I.laid (a:=s.6) (o:=.own (s.6+1)) (h':=s.heap.25 VR) (t':=s.27) (λb u q=>Vq _ q) (aj _) #[_,e1];refine I1.laid (a:=s.6+1) (o:=.ins C s.6 []) (t':=s.27) (λb u q=>Vq _ q) (Nat.le_of_eq (Wq _ _)) ?_;have ne:s.6≠s.6+1:=cG (dr _);refine #[by rw[bA ne,aK],be _,ne,e2,λ_=>none,(Heap.Ns1.of_empty e3).at λo q=>Vq _ q,λ_=>Wi,λy hy=>absurd rfl hy]
theorem PY (hb:W6 e f env (eval e env)=eval e env)
  (h:VC (model prog w) A (eval e env) (λo s₁=>VC (model prog w) A (getAttr o f true) Q E s₁) E s):VC (model prog w) A (eval (.Attribute e f pos) env) Q E s :=
 Attribute_any_ h (by rw[arm_eval_Attribute,hb])
end
def Q6 (K:Xn) (ta:TE) (f:Str):TE:=λσ H Q=>ta σ H λx H1=>∃a C dx fs v,x=.ref a/\H1 a=some (.ins C dx fs)/\LZ K C/\ku K C f/\fs.13 f=some v/\Q v H1
def TQ (K:Xn) (ta tv:TE) (f:Str):TS:=λD σ H=>tv σ H λy H1=>ta σ H1 λx H2=>∃a C dx fs,x=.ref a/\H2 a=some (.ins C dx fs)/\LZ K C/\ku K C f/\fs.9 < 1000 /\
 D.nx σ (upd H2 a (.ins C dx (cy f y fs)))
theorem dB (he:PE X e ta) (hb:W6 e f X.16 (eval e X.16)=eval e X.16):PE X (.Attribute e f pos) (Q6 X.K ta f):=by
 intro Xe s σ H Q I h;refine PY hb (gX (he Xe s σ H _ I h) λu s1 hz=>?_);obtain x|H1|I1|rx|a|C|dx|fs|v|ex|ea|c|n|l|q:=hz;subst ex;obtain rfl:u=Vy a:=rx;show Iq I1 ea c n l λu' s2 I2 ru=>#[v,H1,I2,ru,q]
theorem xp (ha:PE X o ta) (hv:PE X value tv) (hs:swapsWith value (some (.Attribute o f pos')) pos.line X.16=pure false):PS X (.Assign [.Attribute o f pos'] value pos) (TQ X.K ta tv f):=by
 intro Xe s σ H D I h;refine plainObj_wpAny_Assign_Attribute (gX (hv Xe s σ H _ I h) λu s1 #[y,H1,I1,ry,q]=>gX (ha Xe s1 σ H1 _ I1 q) λov s2 hz=>?_) hs;obtain x|H2|I2|rx|a|C|dx|fs|ex|ea|c|n|l|q2:=hz;subst ex;obtain rfl:ov=Vy a:=rx;show HG I2 ea c n l ry λs3 I3=>#[σ,_,I3,q2]
section
variable {X:Cx} {Xe:List (Addr×Obj)} {σ:St} {H:Hp} {s:Vr} {A:VZ} {E:Value->Vr->Prop} {Q:Value->Vr->Prop} {c:Value} {b:Bool}
inductive uP (K:Xn) (H:Hp):V->Value->Prop where
 | Xy:uP K H .Xy (.type "NoneType")
 | bl (x:Bool):uP K H (.bl x) (.type "bool")
 | int (i:Int):uP K H (.int i) (.type "int")
 | str (x:Str):uP K H (.str x) (.type "str")
 | _B (x:UInt64):uP K H (._B x) (.type "float")
 | lst {a:Addr} {xs:List V} (e:H a=some (.lst xs)):uP K H (.ref a) (.type "list")
 | YZ {a:Addr} {o:Obj} {xs:List V} (e:H a=some (.YZ o (.lst xs))):uP K H (.ref a) (.type "list")
 | tup {a:Addr} {xs:List V} (e:H a=some (.tup xs)):uP K H (.ref a) (.type "tuple")
 | dK {a:Addr} {Ya:List (Key×V)} (e:H a=some (.dK Ya)):uP K H (.ref a) (.type "dict")
 | dT {a:Addr} {Ya:List (List Key×V)} (e:H a=some (.dT Ya)):uP K H (.ref a) (.type "dict")
 | ins {a C dx:Addr} {fs:List (Str×V)} (e:H a=some (.ins C dx fs)) (cl:LZ K C) (ha:VO K (.ref C) "__class__"=some (some (.builtin "object.__class__")))
   (hn:PySem.W.specialIn K (.builtin "object.__class__") "__get__"=some (some (.builtin "getset_descriptor.__get__"))) (htk:PySem.W.takesIn K (.builtin "object.__class__")=some true)
   (hm:PySem.W.mroIn K C (.type "object")=some true):uP K H (.ref a) (.ref C)
theorem BX (I:Inv X Xe σ H s) (rx:RelV x u) (ty:uP X.K H x t) (e:PySem.W.kitOne X.K t c=some b) (h:∀tk,Q (.bool b) { s with toks:=tk }) :
  VC (model X.18 X.w) A (call (.builtin "isinstance") [u,c]) Q E s:=by
 cases ty with
 | Xy=>cases (show u=V4 from rx);show dk PySem.W.kitx_none I.XN Wi e (λz=>nomatch z) h
 | bl y=>cases (show u=WL y from rx);show dk PySem.W.kitx_bool I.XN Wi e (λz=>nomatch z) h
 | int i=>obtain t|q:=(show ∃t,u=Value.int i t from rx);cases q;show dk PySem.W.kitx_int I.XN Wi e (λz=>nomatch z) h
 | str y=>obtain t|q:=(show ∃t,u=Value.str y t from rx);cases q;show dk PySem.W.kitx_str I.XN Wi e (λz=>nomatch z) h
 | _B y=>obtain t|q:=(show ∃t,u=Value.float y t from rx);cases q;show dk PySem.W.kitx_float I.XN Wi e (λz=>nomatch z) h
 | @lst a xs ea =>
  cases (show u=Vy a from rx);obtain _|_|n|_|h1:=(show gL X.18 X.w H s.26 a (.lst xs) from I.Xw a _ ea);show dk wa I.XN #[_,h1,rfl] e (λz=>nomatch z) h
 | @YZ a ob xs ea =>
  cases (show u=Vy a from rx);obtain _|_|_|n|_|h1:=(show gL X.18 X.w H s.26 a (.YZ ob (.lst xs)) from I.Xw a _ ea);show dk wa I.XN #[_,h1,rfl] e (λz=>nomatch z) h
 | @tup a xs ea =>
  cases (show u=Vy a from rx);obtain _|_|_|p:=(show gL X.18 X.w H s.26 a (.tup xs) from I.Xw a _ ea);obtain o|h1|h2|_:=p;show dk uf I.XN #[o,h1,h2] e (λz=>nomatch z) h
 | @dK a Ya ea =>
  cases (show u=Vy a from rx);obtain _|_|vs|_|p:=(show gL X.18 X.w H s.26 a (.dK Ya) from I.Xw a _ ea);obtain o|es|ep|h1|h2|_:=p;show dk wb I.XN #[o,h1,h2.1] e (λz=>nomatch z) h
 | @dT a Ya ea =>
  cases (show u=Vy a from rx);obtain _|_|xs|_|o|es|ep|h1|h2|_:=(show gL X.18 X.w H s.26 a (.dT Ya) from I.Xw a _ ea);show dk wb I.XN #[o,h1,h2.1] e (λz=>nomatch z) h
 | @ins a C dx fs ea cl ha hn htk hm =>
  cases (show u=Vy a from rx);obtain mA|O|_:=vI I.Xw ea;obtain od|J|_:=O.look;show dk (PySem.W.kitx_own (cl.get _) cl.hd ha hn htk hm) I.XN J e (λz=>nomatch z) h
end
structure kW (k:Nat) (A:VZ):Prop where
 hd:A.handled=none
 dp:A.depth+3*k+105 < recursionLimit
 un:A.50+16*k+200 < cLine
theorem kW.mono (r:kW k A) (h:j<=k):kW j A:=#[r.hd,by have:=r.dp;lia,by have:=r.un;lia]
theorem kW.deeper (r:kW (k+1) A) (env:Env):kW k (A.deeper env) :=
 #[r.hd,by have:=r.dp;change A.depth+1+3*k+105 < _;lia,by have:=r.un;change A.50+3+16*k+200 < _;lia]
theorem Ih {A:VZ}:(A.under (.builtin "type.__call__" #[.ref C :: us,kw])).depth=A.depth+1:=by
 first | rfl | simp [VZ.under,Code.weight,Code.isCreation,Code.isGuard,Code.isCaller,Code.frames,Code.isFrame,guardIds]
theorem Ig {A:VZ}:(A.under (.builtin "type.__call__" #[.ref C :: us,kw])).50=A.50+1:=by
 first | rfl | simp [VZ.under,Code.cUnits,Code.frames,Code.isFrame]
theorem kW.make (r:kW (k+1) A) (C:Addr) (us:List Value) (kw:List (Str×Value)):kW k (A.under (.builtin "type.__call__" #[.ref C :: us,kw])) :=
 #[r.hd,by have:=r.dp;rw[Ih];lia,by have:=r.un;rw[Ig];lia]
theorem kW.depth (r:kW k A):A.depth < recursionLimit:=by have:=r.dp;lia
theorem kW.units (r:kW k A):A.50+64 < cLine:=by have:=r.un;lia
def yX:TA:=λ_ H Q=>Q [] H
def ji (ta:TE) (tr:TA):TA:=λσ H Q=>ta σ H λx H1=>tr σ H1 λxs H2=>Q (x :: xs) H2
section
variable {X:Cx} {e:Expr} {es:List Expr} {te:TE} {t:TA} {pos:Pos}
theorem iE:PA X [] yX:=λ_ _ _ _ H Q I h=>Calls.spliced_nil #[[],H,I,.nil,h]
theorem fI (ha:PE X e te) (hr:PA X es t) (hs:Vu (e :: es) X.16=(false,eval e X.16) :: Vu es X.16:=by rfl):PA X (e :: es) (ji te t):=by
 intro pos Xe s σ H Q I h;rw[hs];change VC _ _ (spliced ((false,eval e X.16) :: WT pos (Vu es X.16))) _ _ s
 refine Calls.spliced_cons (gX (ha Xe s σ H _ I h) λu s1 hz=>?_);obtain x|H1|I1|r1|q1:=hz;show gX (hr pos Xe s1 σ H1 _ I1 q1) λus s2 #[xs,H2,I2,r2,q2]=>#[x :: xs,H2,I2,.cons r1 r2,q2]
def Tq (t:TA):TE:=λσ H Q=>t σ H λxs H1=>xs.9<=VD/\∀p,H1 p=none->Q (.ref p) (upd H1 p (.tup xs))
def Tx (t:TA):TE:=λσ H Q=>t σ H λxs H1=>xs.9<=VD/\∀p,H1 p=none->Q (.ref p) (upd H1 p (.lst xs))
theorem cY (h:PA X es t):PE X (.Tuple es x1 pos) (Tq t):=by
 intro Xe s σ H Q I hq;refine wpAny_Tuple_spliced (gX (h pos Xe s σ H _ I hq) λus s1 #[xs,H1,I1,r,z,q]=>#[by rw[<- r.9];show z,?_]);have hf:H1 s1.6=none:=I1.Xw.39 (aj _);refine #[.ref s1.6,upd H1 s1.heap.objs.35 (.tup xs),I1.laid (t':=s1.27) (λb u e=>Vq _ e) (aj _) ?_,rfl,q _ hf];show #[z,us,r,#[_,VG _ rfl,rfl,_,rfl]]
theorem fq (h:PA X es t):PE X (.List es pos) (Tx t):=by
 intro Xe s σ H Q I hq;refine wpAny_List_spliced (gX (h pos Xe s σ H _ I hq) λus s1 #[xs,H1,I1,r,z,q]=>#[by rw[<- r.9];show z,?_]);have hf:H1 s1.6=none:=I1.Xw.39 (aj _);refine #[.ref s1.6,upd H1 s1.heap.objs.35 (.lst xs),I1.laid (t':=s1.27) (λb u e=>Vq _ e) (aj _) ?_,rfl,q _ hf];show #[z,us,0,r,VG _ rfl]
end
abbrev Sp:=List V->Hp->VK->XK->Prop
abbrev L0:=List Env->Hp->Vr->XK->Value->Vr->Prop
structure Jf (P:Wa) (w:Wm) (K:Xn) (mg:Str->Option Value) (base:Heap) (A:VZ) (outer:List Env) (s:Vr) (H:Hp):Prop where
 frames:A.frames=some outer
 mod:Mod K mg base
 bs:∀b o,base.14 b=some o->s.heap.14 b=some o/\H b=none
 _i:base.objs.7<=s.heap.objs.35
 Yk:s.heap.FunFrames base outer
 n!:∀b∈LU outer,H b=none
 Xw:yS P w H s.26
 bare:AllBare s.gens
def CE (outer:List Env) (P:Wa) (w:Wm) (H:Hp) (s:Vr) (Q:VK) (u:Value) (s':Vr):Prop :=
 ∃v H',s'.os=s.os/\AllBare s'.gens/\Un (LU outer) [] H H' s.26 s'.8/\yS P w H' s'.8/\RelV v u/\Q v H'
def CR (CX:L0) (outer:List Env) (P:Wa) (w:Wm) (H:Hp) (s:Vr) (Q:VK) (E:XK) (r:Result) (s':Vr):Prop :=
 match r with
 | .ok (.ret u)=>CE outer P w H s Q u s'
 | .ok _=>False
 | .error e=>CX outer H s E e s'
structure qY (P:Wa) (w:Wm) (K:Xn) (mg:Str->Option Value) (base:Heap) (CX:L0) (k:Nat) (f:Addr) (fd:Vp) (ps:List Str) (sp:Sp):Prop where
 len:∀vs H Q E,sp vs H Q E->vs.9=ps.9
 run:∀(A:VZ) (outer:List Env) (s:Vr) (H:Hp) (args:Args) (us:List Value) (vs:List V) (Q:VK) (E:XK),kW k A->Jf P w K mg base A outer s H->BindsTo s fd args (ps.zip us)->cO vs us->sp vs H Q E →
  W5 (model P w) A (.call (.ref f) args) (CR CX outer P w H s Q E) s
theorem Jf.make {K:Xn} (e:Jf P w K mg base A outer s H) (C:Addr) (us:List Value) (kw:List (Str×Value)) :
  Jf P w K mg base (A.under (.builtin "type.__call__" #[.ref C :: us,kw])) outer s H:=#[by first | show e.frames | (simpa [VZ.under,Code.envs,Code.isFrame,pushEnvs] using e.frames),e.mod,e.bs,e._i,e.Yk,e.n!,e.Xw,e.bare]
section
variable {σ:St}
theorem Inv.abn (I:Inv X Xe σ H s):Jf X.18 X.w X.K X.mg X.49 X.A X.51 s H :=
 #[I.ok.frames,I.ok.mod,I.bs,ag I.ok._i I.sz,I.51,I.Y8,I.Xw,I.bare]
theorem Inv.after (I:Inv X Xe σ H s) (h:CE X.51 X.18 X.w H s Q u s'):EP X Xe σ Q u s':=by
 obtain v|H'|os|bare|un|Xw|r|q:=h;obtain hh|g|d|t|os':=s';obtain rfl:os'=s.os:=os;show #[v,H',I.call (h':=hh) (g':=g) (d':=d) (t':=t) (ch:=[]) un Xw bare (λb z=>absurd z (by simp)),r,q]
end
def Mf (sp:Sp) (YM:List V) (E:XK) (t:TA):TE:=λσ H Q=>t σ H λvs H1=>sp (vs++YM) H1 Q E
def Qk (C:Addr) (m:Str) (sp:Sp) (YM:List V) (E:XK) (ta:TE) (t:TA):TE:=λσ H Q=>ta σ H λx H1=>∃a dx fs,x=.ref a/\H1 a=some (.ins C dx fs)/\fs.13 m=none /\
 t σ H1 λvs H2=>sp (x :: (vs++YM)) H2 Q E
def Ql (C:Addr) (sp:Sp) (YM:List V) (E:XK) (t:TA):TE:=λσ H Q=>t σ H λvs H1=>∀x dx,H1 x=none->H1 dx=none->dx≠x →
 sp (.ref x :: (vs++YM)) (upd (upd H1 dx (.own x)) x (.ins C dx [])) (λv H2=>v=.Xy/\Q (.ref x) H2) E
def Binds (K:Xn) (fd:Vp) (ps:List Str) (ds:List Value):Prop :=
 ∀(s:Vr) (us:List Value),K.In s.8->(us++ds).9=ps.9->BindsTo s fd #[us,[]] (ps.zip (us++ds))
theorem Binds.all {K:Xn} (h:∀us:List Value,us.9=ps.9->bindArgs fd #[us,[]]=pure (ps.zip us)):Binds K fd ps []:=λs us _ hl=>by
 rw[nC] at hl ⊢;show .of_eq (h us hl)
def xS (CX:L0) (X:Cx) (E:XK):Prop:=∀(Xe:List (Addr×Obj)) (σ:St) (H:Hp) (s:Vr) (e:Value) (s':Vr),Inv X Xe σ H s->CX X.51 H s E e s'->X.xe e s'
section
variable {X:Cx} {CX:L0} {k:Nat} {f C:Addr} {fd:Vp} {ps:List Str} {sp:Sp} {YM:List V} {ds:List Value} {E:XK} {x m:Str} {p pos apos:Pos} {e o:Expr} {es:List Expr} {ta:TE} {t:TA}
theorem Mx {σ:St} (F:qY X.18 X.w X.K X.mg X.49 CX k f fd ps sp) (hr:kW k X.A) (hb:Binds X.K fd ps ds) (hd:cO YM ds) (hx:xS CX X E)
  (I:Inv X Xe σ H s) (r:cO vs us) (h:sp (vs++YM) H Q E):VC (model X.18 X.w) X.A (call (.ref f) us) (EP X Xe σ Q) X.xe s:=by
 have r2:cO (vs++YM) (us++ds):=r.append hd;have hl:(us++ds).9=ps.9:=by rw[<- r2.9];show F.38 _ _ _ _ h
 refine wpAny_call (codeAny_mono (F.run X.A X.51 s H #[us,[]] (us++ds) (vs++YM) Q E hr I.abn (hb s us I.XN hl) r2 h) λr s' hq=>?_);cases r with
 | error e=>show hx Xe σ H s e s' I hq
 | ok fl =>
  cases fl with
  | ret u=>show I.46 hq
  | next=>show V7 hq
  | brk=>show V7 hq
  | cont=>show V7 hq
theorem JX (F:qY X.18 X.w X.K X.mg X.49 CX k f fd ps sp) (hr:kW k X.A) (hg:Gl X x) (hm:X.mg x=some (.ref f)) (hk:WH X.K (.ref f)=true) (hb:Binds X.K fd ps ds) (hd:cO YM ds) (hx:xS CX X E)
  (ha:PA X (e :: es) t) (_c:(x == ("__debug__":Str))=false:=by decide) (he:Vu (e :: es) X.16=(false,eval e X.16) :: Vu es X.16:=by rfl) (Zd:(WT pos (Vu es X.16)).58 (·.1)=false:=by rfl) :
  PE X (.Call (.Name x p) (e :: es) [] pos) (Mf sp YM E t):=by
 intro Xe s σ H Q I h;refine VW (Dw I hg hm ?_ _c);refine PySem.W.callWith_K (h₀:=X.49) I.ok.mod.kin hk (gX (ha pos Xe s σ H _ I h) λus s1 #[vs,H1,I1,r,q]=>#[I1.XN,?_]) he Zd;show Mx F hr hb hd hx I1 r q
theorem ML {pl : Sem Bool} (he : PE X o ta) (c : LZ X.K C) (hm : S7 X.K C m f) (F : qY X.18 X.w X.K X.mg X.49 CX k f fd ps sp) (hr : kW k X.A) (hb : Binds X.K fd ps ds) (hd : cO YM ds) (hx : xS CX X E)
    (ht : eval (.Call (.Attribute o m apos) [] [] pos) X.16 = (do
      let ov <- eval o X.16
      standAt apos.atName
      let (f, first) <- holding [ov] (getMethod ov m pl)
      callWith pos f first (WT pos (Vu [] X.16)) (backToKw pos (keywordEach [] X.16))) := by rfl) :
    PE X (.Call (.Attribute o m apos) [] [] pos) (Qk C m sp YM E ta yX) := by
  intro Xe s σ H Q I h;refine PySem.W.methodCall_KW (pl := pl) (gX (he Xe s σ H _ I h) λu s1 hz => ?_) ht;obtain x|H1|I1|rx|a|dx|fs|ex|ea|l|q:= hz;subst ex;obtain rfl : u = Vy a := rx;refine Ip I1 ea c hm l ?_;show PySem.W.callWith_K0 (first := [.ref a]) I1.XN hm.kp (Mx (us := [.ref a]) (vs := [.ref a]) F hr hb hd hx I1 (.cons rfl .nil) q)

structure Mk (K:Xn) (C f:Addr):Prop where
 makes:PySem.W.makesIn K C=true
 init:VO K (.ref C) "__init__"=some (some (.ref f))
 fn:PySem.W.isFn K (.ref f)=true
 kp:WH K (.ref C)=true
theorem Mw {σ:St} (M:Mk X.K C f) (F:qY X.18 X.w X.K X.mg X.49 CX k f fd ps sp) (hr:kW (k+1) X.A) (hb:Binds X.K fd ps ds) (hd:cO YM ds)
  (hx:xS CX X E) (I:Inv X Xe σ H s) (r:cO vs us)
  (h:∀x dx,H x=none->H dx=none->dx≠x->sp (.ref x :: (vs++YM)) (upd (upd H dx (.own x)) x (.ins C dx [])) (λv H2=>v=.Xy/\Q (.ref x) H2) E) :
  VC (model X.18 X.w) X.A (call (.ref C) us) (EP X Xe σ Q) X.xe s:=by
 have hq:=h (s.6+1) s.heap.objs.35 (I.Xw.39 (rD _)) (I.Xw.39 (aj _)) (cG (dr _));have I2:=Inv.made (C:=C) I;have r2:cO (V.ref (s.6+1) :: (vs++YM)) (Vy (s.6+1) :: (us++ds)):=.cons rfl (r.append hd)
 have hl:(Vy (s.6+1) :: us++ds).9=ps.9:=by
  have e:=r2.9;rw[F.38 _ _ _ _ hq] at e;show e.20
 refine wpAny_call (M5 (f:=f) I.XN M.makes M.init (beq_iff_eq.mp M.fn) (codeAny_mono (F.run _ X.51 _ _ #[Vy (s.6+1) :: us,[]] (Vy (s.6+1) :: (us++ds)) _ _ E (hr.make C us [])
  (I2.abn.make C us []) (hb _ (Vy (s.6+1) :: us) I2.XN hl) r2 hq) λr s' Z8=>?_))
 cases r with
 | error e=>show hx Xe σ _ _ e s' I2 Z8
 | ok fl =>
  cases fl with
  | ret u =>
   obtain v|H'|I3|rv|ev|q3:=I2.46 Z8;subst ev;show #[rv,#[V.ref (s.6+1),H',I3,rfl,q3]]
  | next=>show V7 Z8
  | brk=>show V7 Z8
  | cont=>show V7 Z8
theorem yK (M:Mk X.K C f) (F:qY X.18 X.w X.K X.mg X.49 CX k f fd ps sp) (hr:kW (k+1) X.A) (hg:Gl X x) (hm:X.mg x=some (.ref C)) (hb:Binds X.K fd ps ds) (hd:cO YM ds) (hx:xS CX X E)
  (ha:PA X (e :: es) t) (_c:(x == ("__debug__":Str))=false:=by decide) (he:Vu (e :: es) X.16=(false,eval e X.16) :: Vu es X.16:=by rfl) (Zd:(WT pos (Vu es X.16)).58 (·.1)=false:=by rfl) :
  PE X (.Call (.Name x p) (e :: es) [] pos) (Ql C sp YM E t):=by
 intro Xe s σ H Q I h;refine VW (Dw I hg hm ?_ _c);refine PySem.W.callWith_K (h₀:=X.49) I.ok.mod.kin M.kp (gX (ha pos Xe s σ H _ I h) λus s1 #[vs,H1,I1,r,q]=>#[I1.XN,?_]) he Zd;show Mw M F hr hb hd hx I1 r q
end
structure tH (N P:List Str) (sc:Scope):Prop where
 kind:sc.36=.function
 co:sc.isCoroutine=false
 gen:sc.isGenerator=false
 nd:N.33
 pre:N.21 P.9=P
 par:∀x∈P,sc.names.13 x=some .local\/sc.names.13 x=some .cell
 _R:∀y∈sc.29,y.2≠.free
theorem Ck {kindOf:Str->Option Wn} {x:Str}:∀{binds:List (Str×Value)} {m:Str->Option Value},(∀v,(x,v)∉binds)->bindL kindOf binds m x=m x
 | [],_,_=>rfl
 | (n,v) :: r,m,h=>by
  unfold bindL;rw[Ck λw hw=>h w (bP _ hw)]
  split
  ·have:x≠n:=by rintro rfl;show h v cC
   simp [this]
  ·rfl
theorem Cn {kindOf:Str->Option Wn} {x:Str}:∀{binds:List (Str×Value)} {m:Str->Option Value},(∀v,(x,v)∉binds)->bindC kindOf binds m x=m x
 | [],_,_=>rfl
 | (n,v) :: r,m,h=>by
  unfold bindC;rw[Cn λw hw=>h w (bP _ hw)]
  split
  ·rfl
  ·have:x≠n:=by rintro rfl;show h v cC
   simp [this]
theorem Cm {kindOf:Str->Option Wn} {x:Str} {v:Value}:∀{P:List Str} {vs:List Value} {i:Nat} {m:Str->Option Value},P.33->P[i]?=some x->vs[i]?=some v->kindOf x=some .local →
  bindL kindOf (P.zip vs) m x=some v
 | [],_,_,_,_,h,_,_=>by simp at h
 | _ :: _,[],_,_,_,_,h,_=>by simp at h
 | p :: P,w :: vs,0,m,nd,h1,h2,hk=>by
  simp at h1 h2;subst h1;subst h2;change bindL kindOf ((p,w) :: P.zip vs) m p=_
  unfold bindL;rw[Ck λv hv=>(eP.mp nd).1 (Oh hv).1,if_pos hk];simp
 | p :: P,w :: vs,i+1,m,nd,h1,h2,hk=>by
  change bindL kindOf ((p,w) :: P.zip vs) m x=_
  unfold bindL;show Cm (i:=i) (eP.mp nd).2 (by simpa using h1) (by simpa using h2) hk
theorem Co {kindOf:Str->Option Wn} {x:Str} {v:Value}:∀{P:List Str} {vs:List Value} {i:Nat} {m:Str->Option Value},P.33->P[i]?=some x->vs[i]?=some v->kindOf x≠some .local →
  bindC kindOf (P.zip vs) m x=some v
 | [],_,_,_,_,h,_,_=>by simp at h
 | _ :: _,[],_,_,_,_,h,_=>by simp at h
 | p :: P,w :: vs,0,m,nd,h1,h2,hk=>by
  simp at h1 h2;subst h1;subst h2;change bindC kindOf ((p,w) :: P.zip vs) m p=_
  unfold bindC;rw[Cn λv hv=>(eP.mp nd).1 (Oh hv).1,if_neg hk];simp
 | p :: P,w :: vs,i+1,m,nd,h1,h2,hk=>by
  change bindC kindOf ((p,w) :: P.zip vs) m x=_
  unfold bindC;show Co (i:=i) (eP.mp nd).2 (by simpa using h1) (by simpa using h2) hk
def start (N:List Str) (vs:List V):St:=vs.11 some++Vz (N.9 - vs.9) none
def Tf:List Str->List V->St
 | [],_=>[]
 | _ :: N,[]=>none :: Tf N []
 | _ :: N,v :: vs=>some v :: Tf N vs
theorem HD:∀{N:List Str} {vs:List V},vs.9<=N.9->start N vs=Tf N vs
 | [],[],_=>rfl
 | [],_ :: _,h=>absurd h (Nat.not_succ_le_zero _)
 | _ :: N,[],_=>congrArg (none :: ·) (HD (N:=N) (vs:=[]) (be _))
 | _ :: N,v :: vs,h=>by
  change some v :: (vs.11 some++Vz (N.9+1 - (vs.9+1)) none)=some v :: Tf N vs
  rw[Nat.add_sub_add_right,<- HD (Nat.le_of_succ_le_succ h)];rfl
def FZ (CX:L0) (P:Wa) (w:Wm) (K:Xn) (mg:Str->Option Value) (base:Heap) (N:List Str) (qual:Str) (scope:Scope) (f:Addr) (cd:Value) (A:VZ) (outer:List Env) (s:Vr) (H:Hp) (E:XK):Cx where
 prog:=P
 w:=w
 K:=K
 mg:=mg
 base:=base
 A:=A.deeper (envOfC qual scope s.heap.objs.35 f cd)
 N:=N
 s₀:=s
 H₀:=H
 env:=envOfC qual scope s.heap.objs.35 f cd
 outer:=outer
 stack:=envOfC qual scope s.heap.objs.35 f cd :: outer
 ex:=[]
 calm:=true
 fn:=λ_=>true
 pn:=[]
 xe:=λe s'=>VC (model P w) (A.deeper (envOfC qual scope s.heap.objs.35 f cd)) (leaving (envOfC qual scope s.heap.objs.35 f cd) e) (λ_ s''=>CX outer H s E e s'') (λe' s''=>CX outer H s E e' s'') s'
theorem F4 {sc:Scope} (h:sc.names.13 x=some .cell):∃c,(VX n sc.29 []).13 x=some c:=by
 have q:=yU sc.29 n [] (.inl h);show Th.mp q
theorem Ld {K:Xn} 
  (S:tH N ps scope) (hd:A.handled=none) (e0:Jf P w K mg base A outer s H) (hl:vs.9=ps.9) (r:cO vs us)
  (x:InCallC s s.heap.objs.35 (bindL (envOfC qual scope s.heap.objs.35 f cd).43 (ps.zip us) λ_=>none) (VX (s.6+1) scope.29 []) (bindC (envOfC qual scope s.heap.objs.35 f cd).43 (ps.zip us) λ_=>none) s1) :
  Inv (FZ CX P w K mg base N qual scope f cd A outer s H E) [] (start N vs) H s1:=by
 have Zd:ps.9<=N.9:=by have:=congrArg Wt S.pre;rw[bU] at this;lia
 obtain h1|tk|rfl|hk:=x.done;have noA:∀b:Addr,b∉(FZ CX P w K mg base N qual scope f cd A outer s H E).ex:=λb z=>absurd (show b∈([]:List Addr) from z) (by simp)
 refine #[#[e0.mod,S.36,rfl,rfl,aj _,λy z c h1 h2=>?_,λy hy=>?_,λy c _ h=>?_,λ_=>hd,VZ.frames_deeper e0.frames,.inr #[rfl,rfl],λb z=>absurd z (noA b),e0.bs,e0._i,λb _ _=>noA b,λb z=>absurd z (noA b),e0.Yk,e0.n!],
  rfl,e0.bare,Un.kept hk,#[_,x.toInCall.ns,λi y v h1 h2 h3=>?_],λy c h=>#[_,x.cell y c h],e0.Xw.39 (aj _),λy c h=>?_,λp hp=>absurd (show p∈([]:List (Addr×Obj)) from hp) (by simp),e0.Xw.59 hk,?_]
 ·show name_of_addr x.apart (mE h1) (mE h2)
 ·have hy:scope.names.13 y=some .cell\/scope.names.13 y=some .free:=hy;rcases hy with hy | hy
  ·show F4 hy
  ·show absurd rfl (S._R _ (mE hy))
 ·show cP (x.above y c (mE h))
 ·have hi:i < vs.9:=by
   unfold start at h2;by_cases hi:i < vs.9
   ·show hi
   ·rw[bM (by simpa using hi)] at h2;rw[UJ] at h2
    split at h2 <;> cases h2
  have ha:vs[i]?=some v:=by
   unfold start at h2;rw[cF (by simpa using hi),az] at h2;cases e:vs[i]? with
   | none=>rw[e] at h2;cases h2
   | some a=>rw[e] at h2;cases h2;rfl
  obtain u|hu|rv:=r.get ha
  have hp:ps[i]?=some y:=by
   rw[<- S.pre,fB ()];show h1
  have ndP:ps.33:=by rw[<- S.pre];show S.nd.sublist (List.take_sublist _ _)
  refine #[u,rv,?_];rcases S.par y (ar hp) with k | k
  ·show .inl #[k,Cm ndP hp hu k]
  ·obtain c|e:=F4 (n:=s.6+1) k;refine .inr #[.inl k,c,e,?_];have q:=x.cell y c e;rw[Co ndP hp hu (by change scope.names.13 y≠_;rw[k];decide)] at q;show q
 ·show e0.Xw.39 (cP (x.above y c (mE h)))
 ·unfold start;change _=N.9
  rw[ai,af,gW]
  lia
theorem Ux {K:Xn} {dV kV doc pm XG ct oc:Value} 
 (lk:K.13 f=some #[oc,od,.func (Wo name qual params body scope dV kV doc pm an XG ct),_P]) (ZI:PySem.W.codeIn K XG qual=true) (S:tH N ps scope)
  (len:∀vs H Q E,sp vs H Q E->vs.9=ps.9)
  (YW:∀(A:VZ) (outer:List Env) (s:Vr) (H:Hp) (vs:List V) (Q:VK) (E:XK),kW k (A.deeper (envOfC qual scope s.heap.objs.35 f XG))->sp vs H Q E →
   ∃t,GS (FZ CX P w K mg base N qual scope f XG A outer s H E) body t/\t { nx:=λ_ H'=>Q .Xy H',rt:=Q } (start N vs) H) :
  qY P w K mg base CX (k+1) f (Wo name qual params body scope dV kV doc pm an XG ct) ps sp:=by
 refine #[len,λA outer s H args us vs Q E hr e0 hb r _s=>?_];have hl:=len _ _ _ _ _s;have KX:K.In s.8:=e0.mod.kin.keeps λb o e=>(e0.bs b o e).1
 have lim:s.heap.NoLimit:=e0.mod.nolimit.keeps λb o e=>(e0.bs b o e).1
 have aaW:∀y∈ps.zip us,scope.names.13 y.1=some .local\/(scope.names.13 y.1=some .cell/\((VX (s.6+1) scope.29 []).13 y.1).isSome=true):=λ#[n,v] hy=>by
  rcases S.par n (Oh hy).1 with q | q
  ·show .inl q
  ·show .inr #[q,yU _ _ _ (.inl q)]
 refine codeAny_call_function hr.depth (KX _ _ lk) rfl S.co S.gen rfl (PySem.W.codeRec_of KX ZI) (hb _ _ _ _ ?_);refine wpAny_newFunctionEnv_cells S.36 aaW λenv he s1 x=>?_
 subst he;refine #[lim.keeps x.toInCall.keep,codeAny_func ?_];obtain t|ht|hq:=YW A outer s H vs Q E (hr.deeper _) _s;have I:Inv (FZ CX P w K mg base N qual scope f XG A outer s H E) [] (start N vs) H s1:=Ld S hr.hd e0 hl r x;refine Wy (ht [] s1 (start N vs) H _ I hq) (λfl s' hs=>?_) λe s' hs=>hs
 have fin:∀{σ':St} {H':Hp} {v:V} {u:Value},Inv (FZ CX P w K mg base N qual scope f XG A outer s H E) [] σ' H' s'->RelV v u->Q v H'->CE outer P w H s Q u s' :=
  λ{σ' H' v u} J rv q=>#[v,H',J.os,J.bare,J.49,J.Xw,rv,q]
 cases fl with
 | ret u =>
  obtain v|σ'|H'|J|rv|q:=hs;show fin J rv q
 | next =>
  obtain σ'|H'|J|q:=hs;show fin (v:=V.Xy) (u:=V4) J rfl q
 | brk =>
  obtain _|_|_|q:=hs;show V7 q
 | cont =>
  obtain _|_|_|q:=hs;show V7 q
section
variable {X:Cx} {x:Str} {p pos:Pos} {e:Expr} {es:List Expr} {t:TA} {id T:String} {r:List V->Hp->VK->Prop}
def UW (r:List V->Hp->VK->Prop) (t:TA):TE:=λσ H Q=>t σ H λvs H1=>r vs H1 Q
theorem bx (hc:rB X (.builtin id) r) (hg:Gl X x) (hm:X.mg x=none) (hv:Ww x=some (.builtin id)) (ha:PA X (e :: es) t) (hn:x≠"__name__":=by decide) (_c:(x == ("__debug__":Str))=false:=by decide)
  (he:Vu (e :: es) X.16=(false,eval e X.16) :: Vu es X.16:=by rfl) (Zd:(WT pos (Vu es X.16)).58 (·.1)=false:=by rfl):PE X (.Call (.Name x p) (e :: es) [] pos) (UW r t):=by
 intro Xe s σ H Q I h;refine VW (kS I hg hm hv ?_ hn _c);show Wr (gX (ha pos Xe s σ H _ I h) λus s1 #[vs,H1,I1,r1,q1]=>hc Xe s1 σ H1 vs us Q I1 r1 q1) he Zd
theorem eZ (hc:rB X (.type T) r) (hg:Gl X x) (hm:X.mg x=none) (hv:Ww x=some (.type T)) (ha:PA X (e :: es) t) (hn:x≠"__name__":=by decide) (_c:(x == ("__debug__":Str))=false:=by decide)
  (he:Vu (e :: es) X.16=(false,eval e X.16) :: Vu es X.16:=by rfl) (Zd:(WT pos (Vu es X.16)).58 (·.1)=false:=by rfl):PE X (.Call (.Name x p) (e :: es) [] pos) (UW r t):=by
 intro Xe s σ H Q I h;refine VW (kS I hg hm hv ?_ hn _c);show VI (gX (ha pos Xe s σ H _ I h) λus s1 #[vs,H1,I1,r1,q1]=>hc Xe s1 σ H1 vs us Q I1 r1 q1) he Zd
end
end L2
namespace HT
open PySem PyProof.Rows
section
open PySem.SeqAt
open PySem.AutoSeq1 (wpAny_loadPart')
open PySem.MeetsSeq PySem.MeetsSeq2 PySem.MeetsSeq3
end
section
variable {prog:Wa} {w:Wm} {A:VZ} {E:Value->Vr->Prop} {s:Vr}
def E8 (n d:Nat):Option Int->Nat
 | none=>d
 | some v=>if v < 0 then (v+(n:Int)).28 else min v.28 n
theorem zA (n d:Nat):E8 n d none=d:=rfl
theorem C1 (n d k:Nat):E8 n d (some (k:Int))=min k n:=by
 change (if (k:Int) < 0 then ((k:Int)+(n:Int)).28 else min (k:Int).28 n)=min k n
 rw[if_neg (),Int.toNat_natCast]
end
end HT
namespace L2
open PySem PySem.Spec PyProof.Rows
abbrev TO:=St->Hp->(Option Int->Hp->Prop)->Prop
def PO (X:Cx) (e:Option Expr) (t:TO):Prop :=
 ∀(Xe:List (Addr×Obj)) (s:Vr) (σ:St) (H:Hp) (Q:Option Int->Hp->Prop),Inv X Xe σ H s->t σ H Q →
  VC (model X.18 X.w) X.A (evalPart e X.16) (λu s'=>∃o H',Inv X Xe σ H' s'/\IsPart u o/\Q o H') X.xe s
def Jl:TO:=λ_ H Q=>Q none H
def Qh (t:TE):TO:=λσ H Q=>t σ H λx H1=>∃i,x=.int i/\Q (some i) H1
theorem intsAre_of:∀{us:List Value},cO (ns.11 V.int) us->IntsAre us ns:=by
 induction ns with
 | nil=>intro us r;rw[List.map_nil] at r;cases r;show .nil
 | cons n ns ih =>
  intro us r;rw[iB] at r;cases r with
  | cons r1 r2 =>
   obtain t|e:=r1;subst e;show .cons n t (ih r2)
section
variable {X:Cx} {e:Expr} {te:TE} {lo hi:Option Expr} {tl th:TO} {pos p2:Pos}
theorem vm:PO X none Jl:=by
 intro Xe s σ H Q I h;rw[evalPart_none];show VB #[none,H,I,.none,h]
theorem vh (h:PE X e te):PO X (some e) (Qh te):=by
 intro Xe s σ H Q I hw;rw[evalPart_some];refine gX (h Xe s σ H _ I hw) λu s1 hz=>?_
 obtain x|H1|I1|r1|q1:=hz;obtain i|rfl|q:=q1;obtain t|rfl:=r1;show #[some i,H1,I1,.int i t,q]
def Vg (X:Cx) (r:V->Option Int->Option Int->Hp->VK->Prop):Prop :=
 ∀(Xe:List (Addr×Obj)) (s:Vr) (σ:St) (H:Hp) (x:V) (v vl vu:Value) (lo hi:Option Int) (sl:Addr) (Q:VK),Inv X Xe σ H s->RelV x v->s.heap.IsSliceOf sl vl vu .none->IsPart vl lo->IsPart vu hi->r x lo hi H Q →
  ∃T id,typeLookup (.type T) "__getitem__"=pure (some (.builtin id))/\s.TypeIs v T/\VC (model X.18 X.w) X.A (getItem v (.ref sl)) (EP X Xe σ Q) X.xe s
def tSl (r:V->Option Int->Option Int->Hp->VK->Prop) (te:TE) (tl th:TO):TE:=λσ H Q=>te σ H λx H1=>tl σ H1 λl H2=>th σ H2 λu H3=>r x l u H3 Q
theorem sQ (hr:Vg X r) (he:PE X e te) (hl:PO X lo tl) (hu:PO X hi th):PE X (.Subscript e (.Slice lo hi none p2) pos) (tSl r te tl th):=by
 intro Xe s σ H Q I h;refine Subscript_ (gX (he Xe s σ H _ I h) λv s1 hz=>?_);obtain x|H1|I1|r1|q1:=hz;refine wpAny_Slice (gX (hl Xe s1 σ H1 _ I1 q1) λvl s2 #[l,H2,I2,pl,q2]=>gX (hu Xe s2 σ H2 _ I2 q2) λvu s3 hz=>?_);obtain u|H3|I3|pu|q3:=hz;rw[evalPart_none];refine VB ?_;have I4:Inv X Xe σ H3 { s3 with heap:=s3.heap.25 { cls:=.type "slice",data:=.fields [vl,vu,.none].12 } }:=I3.59 (t':=s3.27) λb ob q=>Vq _ q
 obtain T|id|hT|ht|hg:=hr Xe { s3 with heap:=s3.heap.25 { cls:=.type "slice",data:=.fields [vl,vu,.none].12 } } σ H3 x v vl vu l u s3.heap.objs.35 Q I4 r1 (Heap.IsSliceOf.new ..) pl pu q3;change VC (model X.18 X.w) X.A (subscriptTail e (.Slice lo hi none p2) v (.ref s3.6)) (EP X Xe σ Q) X.xe { s3 with heap:=s3.heap.25 { cls:=.type "slice",data:=.fields [vl,vu,.none].12 } }
 show tail_any (ops:=[.ref s3.6,v]) ht hT hg (by with_unfolding_all rfl)
def tJ (xs:List V) (lo hi:Option Int):List V:=(xs.47 (HT.E8 xs.9 0 lo)).21 (HT.E8 xs.9 xs.9 hi - HT.E8 xs.9 0 lo)
theorem yg (xs:List V) (lo hi:Option Int):(tJ xs lo hi).9<=xs.9:=by
 unfold tJ;rw[bU,List.length_drop]
 lia
end
def LR (n:Nat) (i:Int):Option Nat:=if 0<=i then (if i < n then some i.28 else none) else if -(n:Int)<=i then some (i+n).28 else none
def IP {α:Type} (xs:List α) (i:Int):Option α:=(LR xs.9 i).bind λj=>xs[j]?
theorem Kg (h:LR n i=some j):seqIndex? i n=some j/\j < n/\-(n:Int)<=i/\i < n:=by
 unfold LR at h;by_cases h0:0<=i
 ·rw[if_pos h0] at h;by_cases h1:i < n
  ·rw[if_pos h1] at h;have e:i.28=j:=cv h;show #[by rw[seqIndex_of h0 h1,e],(),(),h1]
  ·rw[if_neg h1] at h;cases h
 ·rw[if_neg h0] at h;by_cases h1:-(n:Int)<=i
  ·rw[if_pos h1] at h;have e:(i+n).28=j:=cv h;show #[by rw[seqIndex_neg () h1,e],(),h1,()]
  ·rw[if_neg h1] at h;cases h
theorem D7 {xs:List α} {v:α} (h:IP xs i=some v):∃j,seqIndex? i xs.9=some j/\xs[j]?=some v/\j < xs.9/\-(xs.9:Int)<=i/\i < xs.9:=by
 unfold IP at h;cases e:LR xs.9 i with
 | none=>rw[e] at h;cases h
 | some j =>
  rw[e] at h;obtain h1|h2|h3|h4:=Kg e;show #[j,h1,h,h2,h3,h4]
theorem ee {xs:List α} {j:Nat} {v:α} (h:xs[j]?=some v):IP xs (j:Int)=some v:=by
 have hj:j < xs.9:=(aB.mp h).1
 have e:LR xs.9 (j:Int)=some j:=by
  unfold LR;rw[if_pos (),if_pos ()];simp
 unfold IP;rw[e];show h
theorem Av (xs:List α) (v:α):IP (xs++[v]) (-1)=some v:=by
 have hl:(xs++[v]).9=xs.9+1:=by simp
 have e:LR (xs++[v]).9 (-1)=some xs.9:=by
  unfold LR;rw[hl,if_neg (),if_pos ()];congr 1
  lia
 unfold IP;rw[e];change (xs++[v])[xs.9]?=some v
 simp
def P8 (b:Expr):Prop:=∀o i,subscripted b false o i=operate [o,i] (getItem o i)
def UD (X:Cx) (r:R2):Prop :=
 ∀(value slice:Expr) (Xe:List (Addr×Obj)) (s:Vr) (σ:St) (H:Hp) (x y:V) (v u:Value) (Q:VK),Inv X Xe σ H s->RelV x v->RelV y u->r x y H Q →
  subscripted slice false v u=operate [v,u] (getItem v u)->VC (model X.18 X.w) X.A (subscriptTail value slice v u) (EP X Xe σ Q) X.xe s
def MtR (X:Cx) (id:String) (r:V->List V->Hp->VK->Prop):Prop :=
 ∀(Xe:List (Addr×Obj)) (s:Vr) (σ:St) (H:Hp) (x:V) (xs:List V) (v:Value) (us:List Value) (Q:VK),Inv X Xe σ H s->RelV x v->cO xs us->r x xs H Q →
  VC (model X.18 X.w) X.A (call (.builtin id) (v :: us)) (EP X Xe σ Q) X.xe s
section
variable {X:Cx} {a b:Expr} {ta tb:TE} {pos:Pos}
theorem aZ {r:R2} (hr:UD X r) (ha:PE X a ta) (hb:PE X b tb) (hs:P8 b:=by intro _ _;rfl):PE X (.Subscript a b pos) (Tv r ta tb):=by
 intro Xe s σ H Q I h;show Subscript_ (SX ha hb I h λv u s2 x y H2 I2 rx ry q=>hr a b Xe s2 σ H2 x y v u Q I2 rx ry q (hs _ _))
def Sb (K:Xn):R2:=λx y H Q=>∃p xs i v,x=.ref p/\y=.int i/\bN K H p xs/\IP xs i=some v/\Q v H
def Sa (K:Xn):R2:=λx y H Q=>∃p xs i v,x=.ref p/\y=.int i/\kz K H p xs/\IP xs i=some v/\Q v H
theorem bV:UD X (Sb X.K):=by
 intro value slice Xe s σ H x y v u Q I rx ry h hs;obtain p|xs|i|z|rfl|rfl|hq|he|q:=h;cases rx;obtain t|rfl:=ry;obtain Xp|r|pl|hz:=I.30 hq;obtain j|h1|h2|h3|h4|h5:=D7 he;obtain w|ew|YX:=r.get h2;have hl:=r.9;have hn:=z5;have fin:EP X Xe σ Q w s:=#[z,H,I,YX,q];by_cases h0:0<=i
 ·have hj:i.28=j:=by
   rw[seqIndex_of h0 h5] at h1;show cv h1
  show item_listR pl.19 h0 () (by rw[hj];simpa using ew) fin hs
 ·have hj:(i+(Xp.5.7:Int)).28=j:=by
   rw[seqIndex_neg () h4] at h1;rw[aX,<- hl];show cv h1
  show subscriptTail_builtinR (x:=w) pl.isList.typeIs slot_list_getitem.13
   (wpAny_getItem_list_neg (Q:=λr s'=>r=w/\EP X Xe σ Q r s') pl.19 () (by rw[aX] <;> lia) () (by rw[hj];simpa using ew) #[rfl,fin]) hs
theorem bW:UD X (Sa X.K):=by
 intro value slice Xe s σ H x y v u Q I rx ry h hs;obtain p|xs|i|z|rfl|rfl|hq|he|q:=h;cases rx;obtain t|rfl:=ry;obtain Xp|r|pl|hz:=I.45 hq;obtain j|h1|h2|h3|h4|h5:=D7 he;obtain w|ew|YX:=r.get h2;have hl:=r.9;have hn:=z5;have fin:EP X Xe σ Q w s:=#[z,H,I,YX,q]
 show subscriptTail_builtinR (x:=w) pl.typeIs slot_tuple_getitem.13
  (getItem_tuple (j:=j) (Q:=λr s'=>r=w/\EP X Xe σ Q r s') pl () () (by rw[aX,<- hl];show h1) (by simpa using ew) #[rfl,fin]) hs
theorem Ie (Xp:List Value) (n j:Nat) (u:Value):VQ (·.setIfInBounds j u) { cls:=.type "list",data:=.seq Xp.12 n }={ cls:=.type "list",data:=.seq (Xp.42 j u).12 n }:=by
 simp [VQ]
theorem Inv.lst {Xe:List (Addr×Obj)} {σ:St} {H:Hp} {s:Vr} {p:Addr} {xs:List V} (I:Inv X Xe σ H s) (h:H p=some (.lst xs)) :
  ∃(Xp:List Value) (n:Nat),cO xs Xp/\s.heap.14 p=some { cls:=.type "list",data:=.seq Xp.12 n }/\xs.9<=VD:=by
 obtain z|Xp|n|r|e:=I.Xw p _ h;show #[Xp,n,r,e,z]
theorem Inv._U {σ:St} {Xp its':List Value} (I:Inv X Xe σ H s) (h:H p=some (.lst xs))
  (ho:s.heap.14 p=some { cls:=.type "list",data:=.seq Xp.12 n }) (hf:f { cls:=.type "list",data:=.seq Xp.12 n }={ cls:=.type "list",data:=.seq its'.12 n' }) (r:cO ys its') (hz:ys.9<=VD) (t:Nat) :
  Inv X Xe σ (upd H p (.lst ys)) { s with heap:=s.heap.48 p f,toks:=t }:=by
 have e:(s.heap.48 p f).14 p=some { cls:=.type "list",data:=.seq its'.12 n' }:=by
  rw[Heap.get?_update_self f ho (by rw[hf] <;> rfl),hf]
 refine I.write (x:=p) (e:=p) (by rw[h];trivial) (.inl rfl) (λb u hb q=>(VN _ _ (Wc hb)).4 q) #[_,e] ?_;show #[hz,its',n',r,e]
def Qx:V->V->V->Hp->(Hp->Prop)->Prop:=λo i v H Q=>∃p xs k j,o=.ref p/\i=.int k/\H p=some (.lst xs)/\LR xs.9 k=some j/\Q (upd H p (.lst (xs.42 j v)))
theorem set_list:S5 X Qx:=by
 intro Xe s σ H o i v ov iv u Q I ro ri rv h;obtain p|xs|k|j|rfl|rfl|hp|hj|q:=h;cases ro;obtain t|rfl:=ri;obtain Xp|n|r|ho|hz:=I.lst hp;obtain h1|h2|h3|h4:=Kg hj;have hl:=r.9;have hn:=z5
 have I':Inv X Xe σ (upd H p (.lst (xs.42 j v))) { s with heap:=s.heap.48 p (VQ (·.setIfInBounds j u)) } :=
  I._U hp ho (Ie Xp n j u) (r.42 rv j) (by rw[eQ];show hz) s.27
 by_cases h0:0<=k
 ·have hk:k.28=j:=by
   rw[seqIndex_of h0 h4] at h1;show cv h1
  show PySem.W.ki_setAt ho h0 () (by rw[aX,<- hl];show h4) (by rw[hk];show #[_,I',q])
 ·have hk:(k+(Xp.5.7:Int)).28=j:=by
   rw[seqIndex_neg () h3] at h1;rw[aX,<- hl];show cv h1
  show PySem.W.ki_setBack ho () (by rw[aX,<- hl];show h3) () (by rw[hk];show #[_,I',q])
theorem CH (lo hi:Option Int) (n:Nat):(WO lo hi none n).1=((HT.E8 n 0 lo:Nat):Int)/\(WO lo hi none n).2.1=((HT.E8 n n hi:Nat):Int)/\(WO lo hi none n).2.2=1:=by
 refine #[?_,?_,rfl]
 ·cases lo with
  | none=>simp [WO,HT.E8]
  | some i =>
   simp only[WO,HT.E8,Option.getD_none,show (1:Int) > 0 by decide,if_true];by_cases h:i < 0
   ·simp only[h,if_true] <;> lia
   ·simp only[h,if_false] <;> lia
 ·cases hi with
  | none=>simp [WO,HT.E8]
  | some i =>
   simp only[WO,HT.E8,Option.getD_none,show (1:Int) > 0 by decide,if_true];by_cases h:i < 0
   ·simp only[h,if_true] <;> lia
   ·simp only[h,if_false] <;> lia
theorem AM (Xp:List Value) (lo hi:Option Int):slicePick Xp.12 lo hi none=((Xp.47 (HT.E8 Xp.9 0 lo)).21 (HT.E8 Xp.9 Xp.9 hi - HT.E8 Xp.9 0 lo)).5:=by
 obtain h1|h2|h3:=CH lo hi Xp.5.7;unfold slicePick;rw[h1,h2,h3];simp only[sliceRange_one,pick_run,aX] <;> rfl
def R4 (K:Xn):V->Option Int->Option Int->Hp->VK->Prop:=λx lo hi H Q=>∃a xs,x=.ref a/\bN K H a xs/\∀p,H p=none->Q (.ref p) (upd H p (.lst (tJ xs lo hi)))
theorem CI:Vg X (R4 X.K):=by
 intro Xe s σ H x v vl vu lo hi sl Q I rx hs pl pu h;obtain a|xs|rfl|hx|q:=h;cases rx;obtain Xp|r|ht|hz:=I.30 hx;have Xv:=r.9;refine #["list",_,slot_list_getitem.13,ht.isList.typeIs,?_];refine wpAny_getItem_list_slice ht.19 hs pl pu .none (by simp) ?_ (by rw[aX] <;> lia);rw[AM,<- Xv];refine #[.ref s.6,_,I.laid (t':=s.27) (o:=.lst (tJ xs lo hi)) (λb ob q=>Vq _ q) (aj _) ?_,rfl,q _ (I.Xw.39 (aj _))];show #[ag (yg xs lo hi) hz,_,0,(r.47 (HT.E8 xs.9 0 lo)).21 (HT.E8 xs.9 xs.9 hi - HT.E8 xs.9 0 lo),VG _ rfl]
def rh:V->Bool
 | .Xy=>true
 | .bl _=>true
 | .int _=>true
 | .str _=>true
 | _=>false
def QM:V->V->Bool
 | .Xy,.Xy=>true
 | .bl a,.bl b=>a == b
 | .bl a,.int b=>(if a then 1 else 0) == b
 | .int a,.bl b=>a == (if b then 1 else 0)
 | .int a,.int b=>a == b
 | .str a,.str b=>a == b
 | _,_=>false
theorem SN (ry:RelV y u) (rx:RelV x v) (fy:rh y=true) (fx:rh x=true):VM A s u v (QM y x):=by
 cases y with
 | Xy =>
  cases ry;cases x with
  | Xy=>cases rx;show VM.same _
  | bl b=>cases rx;show VM.none_bool b
  | int b=>obtain t|rfl:=rx;show VM.none_int b t
  | str b=>obtain t|rfl:=rx;show VM.none_str b t
  | _=>show absurd (show false=true from fx) a8
 | bl a =>
  cases ry;cases x with
  | Xy=>cases rx;show VM.bool_none a
  | bl b=>cases rx;show VM.bool_bool a b
  | int b=>obtain t|rfl:=rx;show VM.bool_int a b t
  | str b=>obtain t|rfl:=rx;show VM.bool_str a b t
  | _=>show absurd (show false=true from fx) a8
 | int a =>
  obtain t'|rfl:=ry;cases x with
  | Xy=>cases rx;show VM.int_none a t'
  | bl b=>cases rx;show VM.int_bool a t' b
  | int b=>obtain t|rfl:=rx;show VM.int_int a t' b t
  | str b=>obtain t|rfl:=rx;show VM.int_str a t' b t
  | _=>show absurd (show false=true from fx) a8
 | str a =>
  obtain t'|rfl:=ry;cases x with
  | Xy=>cases rx;show VM.str_none a t'
  | bl b=>cases rx;show VM.str_bool a t' b
  | int b=>obtain t|rfl:=rx;show VM.str_int a t' b t
  | str b=>obtain t|rfl:=rx;show VM.str_str a t' b t
  | _=>show absurd (show false=true from fx) a8
 | _=>show absurd (show false=true from fy) a8
def Pz (x:V) (u:Value):Bool:=match u with
 | .none=>QM .Xy x
 | .bool b=>QM (.bl b) x
 | .int i _=>QM (.int i) x
 | .str z _=>QM (.str z) x
 | _=>false
theorem NF (r:RelV y u) (f:rh y=true):Pz x u=QM y x:=by
 cases y with
 | Xy=>cases r;rfl
 | bl b=>cases r;rfl
 | int i=>obtain t|rfl:=r;rfl
 | str z=>obtain t|rfl:=r;rfl
 | _=>show absurd (show false=true from f) a8
theorem Ea {x:V}:∀{xs:List V} {us:List Value},cO xs us->xs.all rh=true->us.58 (Pz x)=xs.58 λy=>QM y x
 | _,_,.nil,_=>rfl
 | y :: xs,u :: us,.cons r t,f=>by
  rw[List.all_cons,dR] at f;rw[List.any_cons,List.any_cons,NF r f.1,Ea t f.2]
theorem zW {A:VZ} {s:Vr} {x:V} {v:Value} (rx:RelV x v) (fx:rh x=true):∀{xs:List V} {us:List Value},cO xs us->xs.all rh=true->∀u∈us,VM A s u v (Pz x u)
 | _,_,.nil,_=>λu hu=>by cases hu
 | y :: xs,u :: us,.cons r t,f=>λu' hu=>by
  rw[List.all_cons,dR] at f;rcases aF.mp hu with rfl | hu
  ·rw[NF r f.1];show SN r rx f.1 fx
  ·show zW rx fx t f.2 u' hu
def UO (x:V) (xs:List V):Bool:=xs.58 λy=>QM y x
def rIn (K:Xn) (neg:Bool):R2:=λx y H Q=>∃p xs,y=.ref p/\(bN K H p xs\/kz K H p xs)/\rh x=true/\xs.all rh=true/\Q (.bl (if neg then !UO x xs else UO x xs)) H
theorem Dc:xT X (We .NotIn) (rIn X.K true):=by
 intro Xe s σ H x y v u Q I rx ry h;obtain p|xs|rfl|hq|fx|fs|q:=h;cases ry;rcases hq with hq | hq
 ·obtain Xp|r|pl|hz:=I.30 hq;refine SeqAt.notIn_listAt (Pz x) pl.19 (λw hw=>zW rx fx r fs w (by simpa using hw)) #[.bl _,H,I,rfl,?_];rw[show Xp.toArray.58 (Pz x)=Xp.58 (Pz x) by simp,Ea r fs];show q
 ·obtain Xp|r|pl|hz:=I.45 hq;refine SeqAt.notIn_tupleAt (Pz x) pl (λw hw=>zW rx fx r fs w (by simpa using hw)) #[.bl _,H,I,rfl,?_];rw[show Xp.toArray.58 (Pz x)=Xp.58 (Pz x) by simp,Ea r fs];show q
theorem aR:rB X (.builtin "len") (λxs H Q=>∃p ys,xs=[.ref p]/\(bN X.K H p ys\/kz X.K H p ys)/\Q (.int ys.9) H):=by
 intro Xe s σ H xs us Q I r h;obtain p|ys|rfl|hq|q:=h;obtain u|rfl|rx:=vals1 r;cases rx;have hn:=z5;rcases hq with hq | hq
 ·obtain Xp|r'|pl|hz:=I.30 hq;have Xv:=r'.9;show Calls.call_len_list pl.19 (by simp only[aX] <;> lia) #[.int ys.9,H,I.tok _,#[s.27+1,by rw[aX,Xv]],q]
 ·obtain Xp|r'|pl|hz:=I.45 hq;have Xv:=r'.9;show len_tuple pl (by simp only[aX] <;> lia) #[.int ys.9,H,I.tok _,#[s.27+1,by rw[aX,Xv]],q]
theorem vS:rB X (.type "list") (λxs H Q=>∃p ys,xs=[.ref p]/\(bN X.K H p ys\/kz X.K H p ys)/\∀l,H l=none->Q (.ref l) (upd H l (.lst ys))):=by
 intro Xe s σ H xs us Q I r h;obtain p|ys|rfl|hq|q:=h;obtain u|rfl|rx:=vals1 r;cases rx
 have fin:∀(Xp:List Value),cO ys Xp->ys.9<=VD->∀(h':Heap) (c':Nat),(∀b o',s.heap.14 b=some o'->h'.14 b=some o') →
   h'.14 s.6=some { cls:=.type "list",dict:=none,data:=.seq Xp.12 c',slots:=[].12 }->EP X Xe σ Q (.ref s.6) { s with heap:=h' }:=λXp r' hz h' c' kp e =>
  #[.ref s.6,_,I.laid (t':=s.27) kp (aj _) (show gL X.18 X.w _ h' _ (.lst ys) from #[hz,Xp,c',r',e]),rfl,q _ (I.Xw.39 (aj _))]
 rcases hq with hq | hq
 ·obtain Xp|r'|pl|hz:=I.30 hq;have Xv:=r'.9;obtain o|ho|hc|n|hd:=pl.19;show call_list_seq p (.inl rfl) ho hc hd (λh' c' kp e=>fin Xp r' hz h' c' kp e) (by simp only[aX] <;> lia)
 ·obtain Xp|r'|pl|hz:=I.45 hq;have Xv:=r'.9;obtain o|ho|hc|n|hd:=pl;show call_list_seq p (.inr rfl) ho hc hd (λh' c' kp e=>fin Xp r' hz h' c' kp e) (by simp only[aX] <;> lia)
def UU (K:Xn) (T:String) (x:V) (H:Hp):Prop:=match x with
 | .str _=>T="str"
 | .int _=>T="int"
 | .ref p=>(T="list"/\∃xs,bN K H p xs)\/(T="tuple"/\∃o,K.13 p=some o/\o.cls=.type "tuple"/\o.dict=none) \/
   (T="dict"/\((∃Ya,H p=some (.dK Ya))\/∃Ya,H p=some (.dT Ya)))\/(T="set"/\∃S n,H p=some (.set S n))
 | _=>False
theorem Q2 {σ:St} (I:Inv X Xe σ H s) (r:RelV x v) (ty:UU X.K T x H) :
  s.TypeIs v T/\∀a,v=.ref a->∃ob,s.heap.14 a=some ob/\ob.dict=none:=by
 cases x with
 | str z =>
  obtain t|rfl:=r;cases (show T="str" from ty);show #[typeIs_str s z t,λ_ e=>nomatch e]
 | int i =>
  obtain t|rfl:=r;cases (show T="int" from ty);show #[typeIs_int s i t,λ_ e=>nomatch e]
 | ref p =>
  cases r;rcases ty with ⟨rfl,xs,hq⟩ | ⟨rfl,o,hk,hc,hd⟩ | ⟨rfl,hk⟩ | ⟨rfl,S,n,hk⟩
  ·obtain Xp|_|pl|_:=I.30 hq;refine #[pl.isList.typeIs,λa e=>?_];cases e;obtain o|n|e|c|hd|_:=pl;show #[o,e,hd]
  ·refine #[#[o,I.XN p o hk,hc],λa e=>?_];cases e;show #[o,I.XN _ o hk,hd]
  ·have z:∃o,s.heap.14 p=some o/\o.ExactDict:=by
    rcases hk with ⟨Ya,hk⟩ | ⟨Ya,hk⟩
    ·obtain _|_|_|_|o|_|_|e|ex|_:=I.Xw p _ hk;show #[o,e,ex]
    ·obtain _|_|_|_|o|_|_|e|ex|_:=I.Xw p _ hk;show #[o,e,ex]
   obtain o|e|ex:=z;refine #[#[o,e,ex.1],λa e2=>?_];cases e2;show #[o,e,ex.2.1]
  ·obtain o|_|_|_|e|ex|_:=I.Xw p _ hk;refine #[#[o,e,ex.1],λa e2=>?_];cases e2;show #[o,e,ex.2.1]
 | _=>show V7 ty
def UX (K:Xn) (T:String) (r:V->List V->Hp->VK->Prop) (to:TE) (t:TA):TE:=λσ H Q=>to σ H λx H1=>UU K T x H1/\t σ H1 λxs H2=>r x xs H2 Q
variable {o e:Expr} {es:List Expr} {to:TE} {t:TA} {name:Str} {apos Yg:Pos} {T id:String} {r:V->List V->Hp->VK->Prop}
theorem vp (pa:PlainAttrs T) (slot:Slot T name id) (hty:typeOf (.builtin id)=pure (.type "method_descriptor")) (hm:MtR X id r) (ho:PE X o to) (ha:PA X (e :: es) t)
  (ZJ:W6 o name X.16 (eval o X.16)=eval o X.16:=by rfl)
  (e!:((WT Yg (Vu (e :: es) X.16)).all (λx=>!x.1) && (backToKw Yg (keywordEach [] X.16)).all (λx=>x.1.isSome)
   && decide ((e :: es).9+([]:List Keyword).9+(if ([]:List Keyword).isEmpty then 0 else 1) < 30))=true:=by rfl)
  (ZF:(apos.endLine == Yg.line)=true:=by rfl) (hs:Vu (e :: es) X.16=(false,eval e X.16) :: Vu es X.16:=by rfl) (Y3:(WT Yg (Vu es X.16)).58 (·.1)=false:=by rfl) :
  PE X (.Call (.Attribute o name apos) (e :: es) [] Yg) (UX X.K T r to t):=by
 intro Xe s σ H Q I h;refine wpAny_Call_method_late ZJ e! ZF rfl (gX (ho Xe s σ H _ I h) λv s1 hz=>?_);obtain x|H1|I1|r1|ty|q1:=hz;obtain h1|h2:=Q2 I1 r1 ty;refine #[T,id,pa,slot,hty,h1,h2,?_];have hA:=ha Yg Xe s1 σ H1 _ I1 q1;rw[hs] at hA ⊢;refine Calls.callWith_builtin (by change (false || (WT Yg (Vu es X.16)).58 (·.1))=false;rw[Y3] <;> rfl) (Calls.evalArgs_plain ?_);show gX hA λus s2 ⟨vs,H2,I2,r2,q2⟩=>hm Xe s2 σ H2 x vs v us Q I2 r1 r2 q2
end
def Vj (X:Cx) (id:String) (r:V->List V->Hp->VK->Prop):Prop :=
 ∀(Xe:List (Addr×Obj)) (s:Vr) (σ:St) (H:Hp) (x:V) (xs:List V) (v:Value) (us:List Value) (Q:VK),Inv X Xe σ H s->RelV x v->cO xs us->r x xs H Q →
  VC (model X.18 X.w) X.A (call (.builtin id) (v :: us)) (EP X Xe σ Q) X.xe s
theorem cO.one:∀{x:V} {us:List Value},cO [x] us->∃u,us=[u]/\RelV x u
 := by
 intro x us h;cases h with | cons r t=>cases t;show #[_,rfl,r]
theorem cO.eraseIdx:∀{xs:List V} {us:List Value} (i:Nat),cO xs us->cO (xs.23 i) (us.23 i)
 | _,_,_,.nil=>.nil
 | _,_,0,.cons _ t=>t
 | _,_,i+1,.cons r t=>.cons r (cO.eraseIdx i t)
theorem cO.rep {xs:List V} {us:List Value} (h:cO xs us):∀k:Nat,cO (Vz k xs).flatten (Vz k us).flatten
 | 0=>.nil
 | k+1=>by
  rw[mG,mG,kx,kx];show cO.append h (cO.rep h k)
theorem BU {α:Type}:∀(l:List α) (i:Nat),(l.23 i).9<=l.9
 | [],_=>aj _
 | _ :: _,0=>rD _
 | _ :: r,i+1=>dq (BU r i)
theorem foldl_rep (Xp:List Value):∀(k:Nat) (acc:List Value),
  List.foldl (λx1 x2=>x1++x2) acc.12 (Vz k Xp.5)=(acc++(Vz k Xp).flatten).5
 | 0,acc=>by simp
 | k+1,acc=>by
  have e:acc.5++Xp.5=(acc++Xp).5:=by simp
  have e2:(acc++Xp)++(Vz k Xp).flatten=acc++(Vz (k+1) Xp).flatten:=by
   rw[mG,kx,cp]
  rw[<- e2,<- foldl_rep Xp k (acc++Xp),<- e,mG,List.foldl_cons]
section
variable {σ:St}
theorem Inv.aaD {Xp its':List Value} (I:Inv X Xe σ H s) (hH:H l=some (.lst xs))
  (e:s.heap.14 l=some { cls:=.type "list",data:=.seq Xp.12 n }) (hf:f Xp.5=its'.5) (hv:cO ys its') (hz:ys.9<=VD) :
  Inv X Xe σ (upd H l (.lst ys)) { s with heap:=s.heap.48 l (VQ f),toks:=t' }:=by
 have q:=lV e f;rw[hf] at q;refine I.write (x:=l) (e:=l) (by rw[hH];show trivial) (.inl rfl) (λb' u hb hu=>(VN s.26 (VQ f) (Wc hb)).4 hu) #[_,q] ?_;show #[hz,its',_,hv,q]
theorem Inv.aaE (I:Inv X Xe σ H s) (hv:cO ys Xp) (hz:ys.9<=VD) :
  Inv X Xe σ (upd H s.heap.objs.35 (.lst ys)) { s with heap:=s.heap.25 { cls:=.type "list",data:=.seq Xp.5 },toks:=t' } :=
 I.laid (λ_ _ q=>Vq _ q) (aj _) #[hz,Xp,0,hv,VG _ rfl]
theorem Inv.fresh (I:Inv X Xe σ H s):H s.6=none:=I.Xw.39 (aj _)
theorem Inv.Zj (I:Inv X Xe σ H s) (hH:H l=some (.lst xs)):xs.9<=VD/\∃(Xp:List Value) (n:Nat),cO xs Xp/\xs.9=Xp.9/\s.heap.14 l=some { cls:=.type "list",data:=.seq Xp.12 n }:=by
 obtain z|Xp|n|r|e:=I.Xw l _ hH;show #[z,Xp,n,r,r.9,e]
theorem MU (h:n<=VD):WK n=false:=by
 unfold WK;show decide_eq_false ()
end
section
variable {X:Cx}
def JU:V->List V->Hp->VK->Prop:=λx vs H Q=>∃l xs y,x=.ref l/\vs=[y]/\H l=some (.lst xs)/\xs.9 < VD/\Q .Xy (upd H l (.lst (xs++[y])))
theorem kO:Vj X "list.append" JU:=by
 intro Xe s σ H x vs v us Q I rx rv h;obtain l|xs|y|rfl|rfl|hH|hz|q:=h;cases rx;obtain u|rfl|ru:=rv.one;obtain z|Xp|n|r|hl|e:=I.Zj hH;refine call_meets F.slot_list_append #[_,e,rfl] F.entry_list_append (F.args_list_append_2 _ _) (PySem.list_append l Xp.12 n u (by rw[aX];lia)) #[e,?_];refine #[.Xy,_,I.aaD (its':=Xp++[u]) hH e (by simp) (r.append (.cons ru .nil)) ?_,rfl,q];rw[ai,a9]
 lia
def R5:V->List V->Hp->VK->Prop:=λx vs H Q=>∃l xs i k y,x=.ref l/\vs=[.int i]/\H l=some (.lst xs)/\-(2^63)<=i/\i < 2^63/\seqIndex? i xs.9=some k/\xs[k]?=some y/\Q y (upd H l (.lst (xs.23 k)))
theorem MX:Vj X "list.pop" R5:=by
 intro Xe s σ H x vs v us Q I rx rv h;obtain l|xs|i|k|y|rfl|rfl|hH|h1|h2|hk|hy|q:=h;cases rx;obtain u|rfl|ru:=rv.one;obtain t|rfl:=ru;obtain z|Xp|n|r|hl|e:=I.Zj hH;obtain w|hw|YX:=r.get hy
 refine call_meets F.slot_list_pop #[_,e,rfl] F.entry_list_pop (F.args_list_pop_2 _ _)
  (MeetsSeq.list_pop_at l Xp.12 n i t k w (fitsIndex_both h1 h2) (by rw[aX,<- hl];show hk) (by rw[<- Array.getElem?_toList];show hw) (by rw[aX];lia)) #[e,?_]
 refine #[y,_,I.aaD (its':=Xp.23 k) hH e ?_ (r.23 k) ?_,YX,q]
 ·change Xp.toArray.eraseIdxIfInBounds k=(Xp.23 k).12
  rw[List.eraseIdxIfInBounds_toArray]
 ·have:=BU xs k
  lia
def Ud:R2:=λx y H Q=>∃l b xs zs,x=.ref l/\y=.ref b/\H l=some (.lst xs)/\H b=some (.lst zs)/\xs.9+zs.9<=VD/\∀p,H p=none->Q (.ref p) (upd H p (.lst (xs++zs)))
theorem gE:xT X (W8 .Add) Ud:=by
 intro Xe s σ H x y v u Q I rx ry h;obtain l|b|xs|zs|rfl|rfl|hH|hB|hz|q:=h;cases rx;cases ry;obtain z|Xp|n|r|hl|e:=I.Zj hH;obtain z2|aaJ|n2|r2|hl2|e2:=I.Zj hB;refine PySem.P.add_list e e2 ?_ (by rw[aX,aX];lia);have ea:Xp.5++aaJ.5=(Xp++aaJ).5:=by simp
 rw[ea];show #[.ref _,_,I.aaE (t':=s.27) (r.append r2) (by rw[ai];lia),rfl,q _ I.39]
def Ua:R2:=λx y H Q=>∃l k xs,x=.ref l/\y=.int k/\H l=some (.lst xs)/\-(2^63)<=k/\k < 2^63/\xs.9*k.28<=VD /\
 ∀p,H p=none->Q (.ref p) (upd H p (.lst (Vz k.28 xs).flatten))
theorem len_rep {α:Type} (xs:List α) (k:Nat):(Vz k xs).flatten.length=k*xs.9:=by
 induction k with
 | zero=>simp
 | succ k ih=>rw[mG,kx,ai,ih,lW,ir]
theorem MN:xT X (W8 .Mult) Ua:=by
 intro Xe s σ H x y v u Q I rx ry h;obtain l|k|xs|rfl|rfl|hH|h1|h2|hz|q:=h;cases rx;obtain t|rfl:=ry;obtain z|Xp|n|r|hl|e:=I.Zj hH;have Xv:Xp.5.7*k.28<=VD:=by rw[aX,<- hl];show hz
 have X3:¬Xp.5.7*k.28 > (2^63 - 1) / 8:=by
  have:(VD:Nat)<=(2^63 - 1) / 8:=()
  lia
 have aeH:¬(!WA.List.listFitsIndex k)=true:=by
  rw[fitsIndex_both h1 h2];show a8
 have aaT:¬WK (Xp.5.7*k.28)=true:=by
  rw[MU Xv];show a8
 have aeu:List.foldl (λx1 x2=>x1++x2) [].12 (Vz (if Xp.toArray.isEmpty=true then 0 else k.28) Xp.5)=(Vz k.28 Xp).flatten.toArray:=by
  have f0:∀m:Nat,List.foldl (λx1 x2=>x1++x2) [].12 (Vz m Xp.5)=(Vz m Xp).flatten.toArray:=λm=>by
   have:=foldl_rep Xp m [];rw[c8] at this;show this
  rw[f0];cases Xp with
  | nil=>simp
  | cons a r'=>rw[if_neg (by simp)]
 refine wpAny_binaryOp_repeat_ref (T:="list") (U:="int") () #[_,e,rfl] (λs'=>typeIs_int s' k t) noFill_list_mul F.fills_int_mul F.slot_int_rmul repeat_list F.slot_int_index.13
  (call_meets F.slot_int_rmul (typeIs_int s k t) F.entry_int_rmul (F.args_int_rmul_2 _ _) (int___rmul___int_list k t l Xp.12 n)
   #[e,rfl,#[_,e,rfl],call_meets F.slot_list_mul #[_,e,rfl] F.entry_list_mul (F.args_list_mul_2 _ _) (AutoListH.list___mul___list_int_3 l Xp.12 n k t aeH X3 aaT) #[e,?_]])
 rw[aeu];show #[.ref _,_,I.aaE (t':=s.27) (r.rep k.28) (by rw[len_rep,cw];show hz),rfl,q _ I.39]
end
end L2
namespace Att
open PySem PySem.W PySem.Calls PyProof.Rows
theorem yv:∀(ns:List Int) (vs:List Value),WellAll P h vs (ns.11 WData.int)->IntsAre vs ns:=by
 intro ns
 induction ns with
 | nil =>
  intro vs w;rw[List.map_nil] at w;cases w;show .nil
 | cons n ns ih =>
  intro vs w;rw[iB] at w;cases w with
  | cons a b =>
   cases a;show .cons _ _ (ih _ b)
theorem KR {l:OpenLaw} (hn:l.most=some n) 
  (_a:l.row.toRowW.claim.pre args=true) (hwl:WellAll P h vals args) :
  ∃a vs ns,vals=[Vy a]/\args=[WData.list (ns.11 WData.int)]/\h.14 a=some { cls:=.type "list",data:=.seq vs.5 }/\IntsAre vs ns/\ns.9<=n:=by
 have hsh:WShape.hasAll [] args [.list .int]=true:=(pre_splitW _a).1;have hc:l.pre.holds [] { args:=args }=true:=(pre_splitW _a).2;obtain d|r|rfl|h1|h2:=hasAllW_cons hsh;obtain rfl:=hasAllW_nil h2;obtain xs|rfl|h3:=hasW_list h1;obtain ns|rfl:=items_int h3
 have Xv:ns.9<=n:=by
  unfold OpenLaw.pre at hc
  have h4:(WTm.not (.lt (.lit (.int (n:Int))) (.len (.arg 0)))).holds [] { args:=[.list (ns.11 .int)] }=true:=by
   have h4:=(holds_andW hc).1;rw[hn] at h4;show h4
  have h5:=condW_of h4 (w_not (w_lt w_lit (w_len_list (w_arg rfl))));rw[af] at h5;refine Nat.le_of_not_lt λq=>?_
  have q':(n:Int) < ((ns.9:Nat):Int):=()
  first
   | (rw[decide_eq_true q'] at h5;show absurd h5 ())
   | (simp at h5;lia)
 cases hwl with
 | cons w1 w2 =>
  cases w2;cases w1 with
  | list ho j!=>show #[_,_,ns,rfl,rfl,ho,yv ns _ j!,Xv]
theorem K2 (l:OpenLaw) (args:List WData):l.row.toRowW.claim.post args (.bool true) args=true :=
 postW_of (r:=l.row.toRowW) (X:=(true == true))
  (show WShape.has [] (.bool true) .bool=true by first | rfl | decide | simp [WShape.has,WShape.arms,WShape.armsAll])
  (show (WTm.eq .res (.lit (.bool true))).value [] { args:=args,res:=some (.bool true),after:=args }=some (.bool (true == true)) from w_eq_bool (w_res rfl) w_lit) rfl
theorem F8 {l:OpenLaw} 
  (hn:l.most=some n) (hdf:d.params.defaults=[])
  (call:∀(w:Wm) (s₀ s₁:Vr) (mg mb:Str->Option Value) (fa:Addr) (o:Obj) (pm cd doc:Value) (a:Addr) (vs:List Value) (ns:List Int),
   Ground q loose [] XP w s₀ mg mb s₁.8->YP w s₁.8 →
   s₁.heap.14 fa=some o->o.data=.func (docDef d.name d.params d.body d.scope pm cd doc)->s₁.heap.CodeRec cd d.name->mg d.name=some (.ref fa) →
   s₁.heap.14 a=some { cls:=.type "list",data:=.seq vs.5 }->IntsAre vs ns->ns.9<=n->s₁.gens=[].12 →
   W5 (model l.18 w) callerA (.call (.ref fa) #[[.ref a],[]]) (λr s'=>r=.ok (.ret (.bool true))/\OldK s₁.26 s'.8/\s'.os=s₁.os/\AllBare s'.gens) s₁) :
  WalkO q loose XP YP l.row.toRowW d [] (λf vs=>PySem.call f vs):=by
 intro w s₀ s₁ mg mb G Y fa o pm cd doc dV kV ho hd ZI hD hmg hg args vals as _a hlay hrd hwl hlo;obtain rfl:dV=.none:=Dflts.none hD hdf;obtain rfl:kV=.none:=Dflts.noKw hD;obtain a|vs|ns|rfl|rfl|_Z|hints|Xv:=KR hn _a hwl;refine enter_call (codeAny_mono (call w s₀ s₁ mg mb fa o pm cd doc a vs ns G Y ho (fd_plain hd) ZI hmg _Z hints Xv hg) λr s' hq=>?_);obtain rfl|h2|h3|h4:=hq;show #[.inl #[.bool true,.bool true,[],rfl,λ_=>rfl,.bool true,K2 l _,λ_=>#[List.Pairwise.nil,λ_ hm=>(nomatch hm)]],h2,h3,h4]
end Att
namespace L2
open PySem PySem.Spec PyProof.Rows
theorem Bx:∀{vs:List Value} {ns:List Int},IntsAre vs ns->cO (ns.11 V.int) vs
 | _,_,.nil=>.nil
 | _,_,.cons n t h=>.cons #[t,rfl] (Bx h)
def S6 (H:Hp):Prop:=∀b,H b=none\/∃o xs,H b=some (.YZ o (.lst xs))
theorem M8 {K:Xn} 
  (KX:K.In s₁.8) (G!:s₁.heap.Ns VE mg) (hb:s₁.heap.Ns builtinsNs mb) (hbb:∀x:Str,x≠"__name__"->mb x=Ww x) (aez:s₁.heap.NoLimit) (hsr:s₁.heap.NoSeer) (hg:s₁.gens=[].12)
  (ha:s₁.heap.14 a=some { cls:=.type "list",data:=.seq vs.5 }) (hi:IntsAre vs ns) (hl:ns.9<=VD) (hr:kW k callerA)
  (F:∀base:Heap,K.In base->base.Ns VE mg->qY P w K mg base CX k fa fd [x] sp) (abf:∀(s:Vr) (u:Value),BindsTo s fd #[[u],[]] [(x,u)])
  (_s:∀H:Hp,S6 H->bN K H a (ns.11 V.int)->sp [.ref a] H (λv _=>v=.bl true) λ_ _ _=>False)
  (hCX:∀H e s',CX [] H s₁ (λ_ _ _=>False) e s'->False) :
  W5 (model P w) callerA (.call (.ref fa) #[[.ref a],[]]) (λr s'=>r=.ok (.ret (.bool true))/\OldK s₁.26 s'.8/\s'.os=s₁.os/\AllBare s'.gens) s₁:=by
 have rv:=Bx hi;have adO:=hi.length
 have core:∀H:Hp,S6 H->bN K H a (ns.11 V.int)->yS P w H s₁.8->(∀b,H b≠none->b=a)->(H a≠none->K.13 a=none) →
   W5 (model P w) callerA (.call (.ref fa) #[[.ref a],[]]) (λr s'=>r=.ok (.ret (.bool true))/\OldK s₁.26 s'.8/\s'.os=s₁.os/\AllBare s'.gens) s₁:=by
  intro H hO hS Xw hA hK;have YN:∀{b:Addr} {o:Obj},s₁.heap.14 b=some o->H b=none->(DB s₁.26 H).14 b=some o:=λe n=>Nl e n
  have noA:∀{b:Addr} {o:Obj} {es:Array DictEntry} {ep:Nat},s₁.heap.14 b=some o->o.data=.dict es ep->H b=none:=λ{b o es ep} e d=>by
   cases q:H b with
   | none=>rfl
   | some u =>
    have e':b=a:=hA b (by rw[q];simp);subst e';rw[ha] at e;cases e;have d':Data.seq vs.12 _=Data.dict es ep:=d;cases d'
  have _n:∀{b:Addr} {m:Str->Option Value},s₁.heap.Ns b m->(DB s₁.26 H).Ns b m:=λ{b m} #[o,es,ep,e,d,r]=>#[o,es,ep,YN e (noA e d),d,r]
  have hKb:K.In (DB s₁.26 H):=λb o e=>YN (KX b o e) (by
   cases q:H b with
   | none=>rfl
   | some u =>
    have e':b=a:=hA b (by rw[q];simp);subst e';rw[hK (by rw[q];simp)] at e;cases e)
  have hM:Mod K mg (DB s₁.26 H):=#[hKb,_n G!,#[mb,_n hb,hbb],let ⟨mc,h1,h2⟩:=aez;#[mc,_n h1,h2],#[let ⟨mc,h1,h2⟩:=hsr.statics;#[mc,_n h1,h2],let ⟨mm,h1,h2⟩:=hsr.mods;#[mm,_n h1,h2],#[mb,_n hb,hbb],let ⟨mg',bm,ob,h1,h2,h3,h4,h5⟩:=hsr.main;#[mg',bm,ob,_n h1,h2,YN h3 (by
   cases q:H bm with
   | none=>rfl
   | some u =>
    have e':bm=a:=hA bm (by rw[q];simp);subst e';rw[ha] at h3;cases h3;injection h4 with q4
    show absurd q4 ()),h4,h5]]]
  have e0:Jf P w K mg (DB s₁.26 H) callerA [] s₁ H:=#[rfl,hM,λb o e=>Pn e,Nat.le_of_eq (Lf _ _),trivial,λb hb=>absurd (show b∈([]:List Addr) from hb) (by simp),Xw,.of_eq hg];refine codeAny_mono ((F _ hKb (_n G!)).run callerA [] s₁ H #[[.ref a],[]] [.ref a] [.ref a] _ _ hr e0 (abf s₁ (.ref a)) (.cons rfl .nil) (_s H hO hS)) λr s' h=>?_
  cases r with
  | error e=>show (hCX H e s' h).55
  | ok fl =>
   cases fl with
   | next=>show V7 h
   | brk=>show V7 h
   | cont=>show V7 h
   | ret u =>
    obtain v|H'|os|bare|un|aes|r'|q:=h;have q':v=.bl true:=q;subst q';obtain rfl:u=WL true:=r';refine #[rfl,OldK.of_keep λb o e=>?_,os,bare];cases q:H b with
    | none=>show un.keep b o e q (by intro z;show absurd (show b∈([]:List Addr) from z) (by simp)) (by simp)
    | some u =>
     rcases hO b with z | ⟨ob,xs,z⟩
     ·rw[q] at z;cases z
     ·have z2:=un.YC b ob _ z;obtain e1|_:=Xw b _ z;obtain e2|_:=aes b _ z2;rw[e] at e1;cases e1;show e2
 cases hk:K.13 a with
 | some o =>
  have e:=KX a o hk;rw[ha] at e;cases e;refine core (λ_=>none) (λ_=>.inl rfl) (.inr #[_,vs.5,_,hk,rfl,rfl,rfl,by rw[aX,adO];show hl,by simpa using rv]) (λb u z=>by have z':(none:Option HO)=some u:=z;cases z') (λb z=>absurd rfl z) λz=>absurd rfl z
 | none =>
  refine core (λb=>if b=a then some (.YZ { cls:=.type "list",data:=.seq vs.5 } (.lst (ns.11 V.int))) else none) (λb=>?_) (.inl (.inr #[{ cls:=.type "list",data:=.seq vs.5 },if_pos rfl])) (λb u z=>?_) (λb z=>?_) λ_=>hk
  ·by_cases hb:b=a
   ·show .inr #[_,_,if_pos hb]
   ·show .inl (if_neg hb)
  ·by_cases hb:b=a
   ·have z':=(if_pos hb).symm.trans z;cases z';subst hb;show #[ha,by rw[af];show hl,vs,_,rv,ha]
   ·have z':=(if_neg hb).symm.trans z;cases z'
  ·by_cases hb:b=a
   ·show hb
   ·show absurd (if_neg hb) z
theorem Oq {l:PySem.W.OpenLaw} {K:Params->Xn} {CX:Wm->L0} {sp:Wm->Sp} 
  (hn:l.most=some n) (hn2:n<=VD) (hdf:d.params.defaults=[]) (hr:kW k callerA) (hi:importsNone q=true)
  (hY:∀(w:Wm) (h:Heap),YP w h->(K w.params).In h)
  (F:∀(w:Wm) (mg:Str->Option Value) (fa:Addr) (h:Heap),(K w.params).In h->h.Ns VE mg->mg d.name=some (.ref fa) →
   ∃fd:Vp,(∀(s:Vr) (u:Value),BindsTo s fd #[[u],[]] [(x,u)]) /\
    ∀base:Heap,(K w.params).In base->base.Ns VE mg->qY l.18 w (K w.params) mg base (CX w) k fa fd [x] (sp w))
  (_s:∀(w:Wm) (H:Hp) (a:Addr) (ns:List Int),ns.9<=n->S6 H->bN (K w.params) H a (ns.11 V.int)->sp w [.ref a] H (λv _=>v=.bl true) λ_ _ _=>False)
  (hCX:∀(w:Wm) (H:Hp) (s:Vr) (e:Value) (s':Vr),CX w [] H s (λ_ _ _=>False) e s'->False) :
  PySem.W.WalkO q loose XP YP l.row.toRowW d [] (λf vs=>PySem.call f vs):=by
 refine Att.F8 hn hdf λw s₀ s₁ mg mb fa o pm cd doc a vs ns G Y ho hd ZI hmg _Z hints Xv hg=>?_
 have KX:=hY w _ Y;obtain fd|hb|hF:=F w mg fa _ KX G.T.g hmg;show M8 KX G.T.g G.T.b G.T.builtins G.T.nolimit (G.T.seer hi) hg _Z hints (ag Xv hn2) hr hF hb (λH hO hS=>_s w H a ns Xv hO hS) λH e s'=>hCX w H s₁ e s'
end L2

namespace L2
open PySem PySem.Spec PyProof.Rows
def inClass (s:Stmt) (j:Nat):Stmt:=match s with
 | .ClassDef _ _ _ body _ _ _ _ _ _ _=>body.3 j (.Pass #[0,0,0,0])
 | _=>.Pass #[0,0,0,0]
def nA (s:Stmt):Arguments:=match s with
 | .FunctionDef _ a _ _ _ _ _ _ _ _=>a
 | _=>{ posonlyargs:=[],args:=[],vararg:=none,kwonlyargs:=[],kw_defaults:=[],kwarg:=none,defaults:=[] }
def jC (s:Stmt):List Stmt:=match s with
 | .FunctionDef _ _ b _ _ _ _ _ _ _=>b
 | _=>[]
def eN (s:Stmt):Scope:=match s with
 | .FunctionDef _ _ _ _ _ _ sc _ _ _=>sc
 | _=>{ kind:=.function,names:=[],isGenerator:=false,isCoroutine:=false }
abbrev Jg:L0:=λ_ _ _ _ _ _=>False
abbrev E0:XK:=λ_ _ _=>False
theorem zJ:xS Jg X E0:=λ_ _ _ _ _ _ _ h=>h.55
structure LY (K:Xn) (x qual:Str) (st:Stmt) (f:Addr) (fd:Vp):Prop where
 ex:∃(oc:Value) (od:Option Addr) (kV doc pm:Value) (an:Option Addr) (XG ct:Value) (_P:Array (Option Value)),
  fd=Wo x qual (nA st) (jC st) (eN st) .none kV doc pm an XG ct/\K.13 f=some #[oc,od,.func fd,_P]/\PySem.W.codeIn K XG qual=true
 kp:WH K (.ref f)=true
section
variable {P:Wa} {w:Wm} {K:Xn} {mg:Str->Option Value} {base:Heap}
theorem LY.ok {st:Stmt} (F:LY K x qual st f fd) (S:tH N ps (eN st)) (len:∀vs H Q E,sp vs H Q E->vs.9=ps.9)
  (YW:∀(XG:Value) (A:VZ) (outer:List Env) (s:Vr) (H:Hp) (vs:List V) (Q:VK) (E:XK),kW k (A.deeper (envOfC qual (eN st) s.heap.objs.35 f XG))->sp vs H Q E →
   ∃t,GS (FZ Jg P w K mg base N qual (eN st) f XG A outer s H E).B! (jC st) t/\t { nx:=λ_ H'=>Q .Xy H',rt:=Q } (start N vs) H):qY P w K mg base Jg (k+1) f fd ps sp:=by
 obtain oc|od|kV|doc|pm|an|XG|ct|_P|rfl|lk|ZI:=F.ex;refine Ux lk ZI S len λA outer s H vs Q E hr _s=>?_
 obtain t|h|q:=YW XG A outer s H vs Q E hr _s;show #[t,h.B!,q]
theorem Q9 {N ps:List Str} {vs:List V} (h:N.21 ps.9=ps) (l:vs.9=ps.9):vs.9<=N.9:=by
 have:=congrArg Wt h;rw[bU] at this
 lia
theorem LY.k {x qual:Str} {st:Stmt} {f:Addr} {fd:Vp} {N ps:List Str} {k:Nat} {sp:Sp} (F:LY K x qual st f fd) (S:tH N ps (eN st))
  (YW:∀(XG:Value) (A:VZ) (outer:List Env) (s:Vr) (H:Hp) (vs:List V) (Q:VK) (E:XK) (hr:kW k (A.deeper (envOfC qual (eN st) s.heap.objs.35 f XG))) (h:sp vs H Q E),
   ∃t,GS (FZ Jg P w K mg base N qual (eN st) f XG A outer s H E).B! (jC st) t/\t { nx:=λ_ H'=>Q .Xy H',rt:=Q } (Tf N vs) H) (len:∀vs H Q E,sp vs H Q E->vs.9=ps.9:=by walk_at "n"):qY P w K mg base Jg (k+1) f fd ps sp :=
 F.ok S len λXG A outer s H vs Q E hr h=>by
  rw[HD (Q9 S.pre (len _ _ _ _ h))];show YW XG A outer s H vs Q E hr h
theorem LY.binds {st:Stmt} (F:LY K x qual st f fd)
  (h:∀(kV doc pm:Value) (an:Option Addr) (XG ct:Value) (us:List Value),us.9=ps.9->bindArgs (Wo x qual (nA st) (jC st) (eN st) .none kV doc pm an XG ct) #[us,[]]=pure (ps.zip us)):Binds K fd ps []:=by
 obtain oc|od|kV|doc|pm|an|XG|ct|_P|rfl|lk|ZI:=F.ex;show .all (h kV doc pm an XG ct)
theorem Ir {st:Stmt} {kV doc pm XG ct:Value} (l:K.13 f=some #[oc,od,.func (Wo x qual (nA st) (jC st) (eN st) .none kV doc pm an XG ct),_P])
  (c:PySem.W.codeIn K XG qual=true) (k:WH K (.ref f)=true):LY K x qual st f (Wo x qual (nA st) (jC st) (eN st) .none kV doc pm an XG ct):=#[#[oc,od,kV,doc,pm,an,XG,ct,_P,rfl,l,c],k]
end
structure Df (K:Xn) (mg:Str->Option Value) (x:Str) (st:Stmt) (ps:List Str) (f:Addr) (fd:Vp):Prop where
 m:mg x=some (.ref f)
 b:Binds K fd ps []
 F:LY K x x st f fd
structure Dh (K:Xn) (x:Str) (st:Stmt) (f:Addr) (fd:Vp):Prop where
 a:PySem.W.nsIn K VE x=some (some (.ref f))
 F:LY K x x st f fd
theorem Uy {K:Xn} {st:Stmt} {kV doc pm XG ct:Value} (a:PySem.W.nsIn K VE x=some (some (.ref f))) (l:K.13 f=some #[oc,od,.func (Wo x x (nA st) (jC st) (eN st) .none kV doc pm an XG ct),_P]) (c:PySem.W.codeIn K XG x=true) (k:WH K (.ref f)=true):Dh K x st f (Wo x x (nA st) (jC st) (eN st) .none kV doc pm an XG ct):=#[a,Ir l c k]
theorem Dh.D {K:Xn} {x:Str} {st:Stmt} {f:Addr} {fd:Vp} {ps:List Str} {mg:Str->Option Value} {h:Heap} (d:Dh K x st f fd) (X:K.In h) (G:h.Ns VE mg) (hb:∀(kV doc pm:Value) (an:Option Addr) (XG ct:Value) (us:List Value),us.9=ps.9->bindArgs (Wo x x (nA st) (jC st) (eN st) .none kV doc pm an XG ct) #[us,[]]=pure (ps.zip us):=by walk_at "b"):Df K mg x st ps f fd:=#[PySem.W.mg_of X G d.a,d.F.binds hb,d.F]
abbrev Df.o {K:Xn} {mg:Str->Option Value} {x:Str} {st:Stmt} {ps:List Str} {f:Addr} {fd:Vp} (_:Df K mg x st ps f fd) (P:Wa) (w:Wm) (base:Heap) (k:Nat) (sp:Sp):Prop:=qY P w K mg base Jg k f fd ps sp
theorem cH {X:Cx} {k k':Nat} {f:Addr} {fd:Vp} {ps:List Str} {sp:Sp} {x:Str} {st:Stmt} {p pos:Pos} {e:Expr} {es:List Expr} {t:TA} (F:qY X.18 X.w X.K X.mg X.49 Jg k f fd ps sp) (hr:kW k' X.A) (D:Df X.K X.mg x st ps f fd) (ha:PA X (e :: es) t) (hle:k<=k':=by decide) (hg:Gl X x:=by show rfl) (_c:(x == ("__debug__":Str))=false:=by decide) (he:Vu (e :: es) X.16=(false,eval e X.16) :: Vu es X.16:=by rfl) (Zd:(WT pos (Vu es X.16)).58 (·.1)=false:=by rfl):PE X (.Call (.Name x p) (e :: es) [] pos) (Mf sp [] E0 t):=JX F (hr.22 hle) hg D.m D.F.kp D.b .nil zJ ha _c he Zd
theorem cV (h:n<=1000):n < VD:=bw h ()
theorem gU {n:Nat} (h:n<=1000:=by lia):n<=VD:=cP (cV h)
section
variable {X:Cx}
theorem pv (i:Nat) {x:Str} {pos:Pos} (hN:X.N[i]?=some x:=by rfl) (hv:Vc X.env.scope x:=by first | show Or.inl rfl | show Or.inr (Or.inl rfl) | show Or.inr (Or.inr rfl)) (hd:(x == ("__debug__":Str))=false:=by decide)
  (ZI:(x == ("__classdict__":Str))=false:=by decide):PE X (.Name x pos) (Q5 i):=Sh hN hv hd ZI
end
theorem Nh {A B:Prop} (h:B):if false=true then A else B:=by
 rw[if_neg a8];show h
theorem Ul {A B:Prop} (h:A):if true=true then A else B:=by
 rw[if_pos rfl];show h
theorem jL {c A B:Prop} [Decidable c] (h1:c->A) (h2:¬c->B):if c then A else B:=by
 by_cases h:c
 ·rw[if_pos h];show h1 h
 ·rw[if_neg h];show h2 h
def aE (H H':Hp):Prop:=∀b o,H b=some o->H' b=some o
theorem aE.refl (H:Hp):aE H H:=λ_ _ h=>h
theorem aE.trans (a:aE H H1) (b:aE H1 H2):aE H H2:=λc o h=>b c o (a c o h)
theorem aE.free (e:aE H H') (h:H' l=Wh):H l=Wh:=by
 cases q:H l with
 | none=>rfl
 | some o =>
  rw[e l o q] at h;cases h
theorem aE.seq {K:Xn} (e:aE H H') (h:bN K H a xs):bN K H' a xs:=by
 rcases h with (h | ⟨o,h⟩) | h
 ·show .inl (.inl (e _ _ h))
 ·show .inl (.inr #[o,e _ _ h])
 ·show .inr h
end L2
namespace Nm
theorem Nu (a b:Int):VY b (a.fmod b)=VY a b:=by
 rw[Int.fmod_def,lZ a b];apply Nat.dvd_antisymm
 ·apply N4
  ·show fg ..
  ·have h1:=fg (a:=b) (b:=a - b*a.fdiv b);have h2:=fM (a:=b) (b:=a - b*a.fdiv b);have h3:=Int.dvd_add h2 (oa (c:=a.fdiv b) h1);rwa [Int.sub_add_cancel] at h3
 ·apply N4
  ·show fg ..
  ·show Int.dvd_sub (fM ..) (oa (fg ..))
theorem Nv (a b:Int):VY b (a % b)=VY a b:=by
 rw[Int.emod_def,lZ a b];apply Nat.dvd_antisymm
 ·apply N4
  ·show fg ..
  ·have h1:=fg (a:=b) (b:=a - b*(a / b));have h2:=fM (a:=b) (b:=a - b*(a / b));have h3:=Int.dvd_add h2 (oa (c:=a / b) h1);rwa [Int.sub_add_cancel] at h3
 ·apply N4
  ·show fg ..
  ·show Int.dvd_sub (fM ..) (oa (fg ..))
theorem Py (a b:Int) (h:b≠0):(a.fmod b).15 < b.15:=by
 rcases Int.lt_or_gt_of_ne h with h | h
 ·have e:a.fmod b=-((-a).fmod (-b)):=by
   have:=Int.neg_fmod_neg (-a) (-b);simp only[Int.neg_neg] at this;show this
  have h1:=Int.fmod_nonneg_of_pos (-a) (b:=-b) ();have h2:=Int.fmod_lt_of_pos (-a) (b:=-b) ()
  lia
 ·have h1:=Int.fmod_nonneg_of_pos a h;have h2:=Int.fmod_lt_of_pos a h
  lia
def g (t b:Int):Int:=(VY t b:Int)
def lo (t b:Int):Int:=t / g t b
def hi (t b:Int):Int:=b / g t b
theorem Ad (h:b≠0):0 < g t b:=by
 unfold g;have:0 < VY t b:=Oj _ h
 lia
theorem zZ (t b:Int):lo t b*g t b=t:=Int.ediv_mul_cancel (fg ..)
theorem xI (t b:Int):hi t b*g t b=b:=Int.ediv_mul_cancel (fM ..)
theorem DD (h:0 < b):0 < hi t b:=by
 have h1:=Ad (t:=t) (b:=b) ();have h2:=xI t b;by_cases h3:0 < hi t b
 ·show h3
 ·have:hi t b*g t b<=0:=Int.mul_nonpos_of_nonpos_of_nonneg () ()
  lia
theorem zX (h:b≠0):VY (lo t b) (hi t b)=1:=by
 have h1:=Ad (t:=t) h;have e:=Int.gcd_mul_right (lo t b) (g t b) (hi t b);rw[zZ,xI] at e;have e2:(g t b).15=VY t b:=by unfold g;simp
 rw[e2] at e;have h2:0 < VY t b:=Oj _ h;show Nat.eq_of_mul_eq_mul_right h2 (by rw[<- e,NZ])
theorem zY (t b:Int):lo t b*b=t*hi t b:=by
 have h1:=zZ t b;have h2:=xI t b
 calc lo t b*b=lo t b*(hi t b*g t b):=by rw[h2]
  _=(lo t b*g t b)*hi t b:=by rw[gB (hi t b),<- dH]
  _=t*hi t b:=by rw[h1]
theorem qR (h:VY a b=1) (hd:a∣b*c):a∣c:=by
 have h1:a.15∣b.15*c.15:=by rw[<- eF];show eY.mpr hd
 have h2:Nat.Coprime a.15 b.15:=h;show eY.mp (h2.dvd_of_dvd_mul_left h1)
theorem uniq (hb:0 < b) (hd:0 < d) (h1:VY a b=1) (h2:VY c d=1) (e:a*d=c*b):a=c/\b=d:=by
 have e1:b∣d:=by
  have:b∣a*d:=#[c,by rw[e,gB]];show qR (by rw[lZ];show h1) this
 have e2:d∣b:=by
  have:d∣c*b:=#[a,by rw[<- e,gB]];show qR (by rw[lZ];show h2) this
 have e3:b=d:=Int.dvd_antisymm () () e1 e2;subst e3;show #[ui () e,rfl]
theorem Ss (hb:0 < b) (hd:0 < d) (h2:VY c d=1) (e:t*d=c*b):lo t b=c/\hi t b=d:=by
 refine uniq (DD hb) hd (zX ()) h2 ?_;have h:=zY t b;have Y5:b≠0:=()
 apply ui Y5
 calc lo t b*d*b=lo t b*b*d:=by rw[dH,gB d b,<- dH]
  _=t*hi t b*d:=by rw[h]
  _=t*d*hi t b:=by rw[dH,gB (hi t b),<- dH]
  _=c*b*hi t b:=by rw[e]
  _=c*hi t b*b:=by rw[dH,gB b,<- dH]
theorem Su (hb:0 < b) (h:VY a b=1):lo a b=a/\hi a b=b:=Ss hb hb h rfl
theorem oX {a b:Int} (h:b≠0):a.15<=(a*b).15:=by
 rw[eF];show dP _ (Int.natAbs_pos.mpr h)
theorem lo_le (h:b≠0):(lo t b).15<=t.15:=by
 have:=oX (a:=lo t b) (b:=g t b) (by have:=Ad (t:=t) h;lia);rwa [zZ] at this
theorem QJ (h:b≠0):(hi t b).15<=b.15:=by
 have:=oX (a:=hi t b) (b:=g t b) (by have:=Ad (t:=t) h;lia);rwa [xI] at this
def Sz (k:Nat) (x:Int):Prop:=x.15 < 2^k
theorem Sz.mono (h:Sz j x) (l:j<=k):Sz k x:=bI h (ak () l)
theorem Sz.mul (h1:Sz j x) (h2:Sz k y):Sz (j+k) (x*y):=by
 unfold Sz at *
 rw[eF,bg];show Nat.mul_lt_mul'' h1 h2
theorem Sz.neg (h:Sz k x):Sz k (-x):=by unfold Sz at *;rw[kD];show h
theorem Sz.le (h:Sz k y) (l:x.15<=y.15):Sz k x:=bw l h
theorem Sz.hi {k:Nat} {t b:Int} (h:Sz k b) (hb:b≠0):Sz k (hi t b):=h.le (QJ hb)
end Nm
namespace L2
open PySem PySem.Spec PyProof.Rows
structure Bk (env:Env) (scope:Scope) (own Xr:List Str):Prop where
 kind:scope.36=.function
 locs:∀y∈scope.29,y.2=.local->scope.names.13 y.1=some .local
 ownk:∀x∈own,scope.names.13 x=some .local\/scope.names.13 x=some .cell
 cells:∀y∈scope.29,y.2=.cell->y.1∈own/\y.1∉Xr
 frees:∀y∈scope.29,y.2=.free->y.1∈Xr/\y.1∉own
 abp:∀x∈Xr,scope.names.13 x=some .free
 q!:∀x∈Xr,env.43 x=some .cell\/env.43 x=some .free
def UP (scope:Scope) (own Xr:List Str):Bool :=
 decide (scope.36=.function) && scope.names.all (λy=>decide (y.2=.local->scope.names.13 y.1=some .local) && decide (y.2=.cell->y.1∈own/\y.1∉Xr) && decide (y.2=.free->y.1∈Xr/\y.1∉own)) &&
 own.all (λx=>decide (scope.names.13 x=some .local\/scope.names.13 x=some .cell)) && Xr.all λx=>decide (scope.names.13 x=some .free)
def Cj (env:Env):List Str->Bool
 | []=>true
 | x :: r=>(match env.43 x with | some .cell=>true | some .free=>true | _=>false) && Cj env r
theorem F5 {env:Env}:∀{Xr:List Str},Cj env Xr=true->∀x∈Xr,env.43 x=some .cell\/env.43 x=some .free
 | [],_,_,h=>nomatch h
 | y :: r,h,x,hx=>by
  unfold Cj at h;rw[dR] at h;rcases aF.mp hx with e | hx
  ·subst e;have h1:=h.1
   split at h1
   ·rename_i e;show .inl e
   ·rename_i e;show .inr e
   ·cases h1
  ·show F5 h.2 x hx
theorem Bk.of (h1:UP scope own Xr=true) (h2:Cj env Xr=true):Bk env scope own Xr:=by
 unfold UP at h1;rw[dR,dR,dR,pM,pM,pM] at h1;obtain ⟨⟨a1,a2⟩,a3⟩|a4:=h1
 have a2':∀y∈scope.29,(y.2=.local->scope.names.13 y.1=some .local)/\(y.2=.cell->y.1∈own/\y.1∉Xr)/\(y.2=.free->y.1∈Xr/\y.1∉own):=λy hy=>by
  have q:=a2 y hy;rw[dR,dR] at q;show #[of_decide_eq_true q.1.1,of_decide_eq_true q.1.2,of_decide_eq_true q.2]
 show #[of_decide_eq_true a1,λy hy=>(a2' y hy).1,λx hx=>of_decide_eq_true (a3 x hx),λy hy=>(a2' y hy).2.1,λy hy=>(a2' y hy).2.2,λx hx=>of_decide_eq_true (a4 x hx),F5 h2]
def d5 (env:Env):List (Str×Wn)->List (Str×Addr)->List (Str×Addr)
 | [],acc=>acc
 | (n,k) :: r,acc=>if k == .free then d5 env r ((n,(env.cells.13 n).3 0) :: acc) else d5 env r acc
theorem iZ (env:Env):∀(names:List (Str×Wn)) (acc:List (Str×Addr)),d5 env names acc=d5 env names []++acc
 | [],_=>rfl
 | (n,k) :: r,acc=>by
  unfold d5
  split
  ·rw[iZ env r (_ :: acc),iZ env r [_],cp];rfl
  ·show iZ env r acc
theorem qU (env:Env):∀(names:List (Str×Wn)) {x:Str} {c:Addr},(x,c)∈d5 env names []->(x,VT)∈names/\c=(env.cells.13 x).3 0
 | [],_,_,h=>nomatch h
 | (n,k) :: r,x,c,h=>by
  unfold d5 at h
  split at h
  ·rename_i hk
   have ek:k=.free:=by simpa using hk
   subst ek;rw[iZ] at h;rcases ao.mp h with h | h
   ·have q:=qU env r h;show #[bP _ q.1,q.2]
   ·have e:(x,c)=(n,(env.cells.13 n).3 0):=by simpa using h
    cases e;show #[cC,rfl]
  ·have q:=qU env r h;show #[bP _ q.1,q.2]
theorem jK {α:Type}:∀{l:List (Str×α)} {x:Str} {c:α},(x,c)∈l->∃d,l.13 x=some d
 | (k,v) :: r,x,c,h=>by
  rw[lX];cases hb:x == k with
  | true=>show #[v,rfl]
  | false =>
   rcases aF.mp h with e | h
   ·cases e;simp at hb
   ·show jK h
theorem qV (env:Env):∀(names:List (Str×Wn)) {x:Str},(x,VT)∈names->∃c,(x,c)∈d5 env names []
 | (n,k) :: r,x,h=>by
  unfold d5;rcases aF.mp h with e | h
  ·cases e;rw[if_pos (),iZ];show #[_,aU _ cC]
  ·obtain c|q:=qV env r h
   split
   ·rw[iZ];show #[c,cI _ q]
   ·show #[c,q]
theorem Aq (h:∀y∈scope.29,y.2=.free->∃c,env.cells.13 y.1=some c):closureFor scope env=pure (d5 env scope.29 []):=by
 have gen:∀(names:List (Str×Wn)) (acc:List (Str×Addr)) (f:Str×Wn->List (Str×Addr)->Sem (ForInStep (List (Str×Addr)))),
   (∀name kind cells,f (name,kind) cells=if kind == .free then (do let a <- cellOf env name;pure (.yield ((name,a) :: cells))) else pure (.yield cells)) →
   (∀y∈names,y.2=.free->∃c,env.cells.13 y.1=some c)->forIn names acc f=pure (d5 env names acc):=by
  intro names
  induction names with
  | nil=>intro acc f hf _;rw[Cu];rfl
  | cons y r ih =>
   intro acc f hf hh;obtain n|k:=y;rw[Oi,hf];unfold d5;by_cases hk:(k == VT)=true
   ·obtain c|hc:=hh (n,k) cC (by simpa using hk);have YB:env.cells.13 n=some c:=hc;have e:cellOf env n=pure c:=by unfold cellOf;rw[YB]
    rw[if_pos hk,if_pos hk,e,YB];simp only[pure_bind,Option.getD_some];show ih _ f hf λy hy=>hh y (bP _ hy)
   ·rw[if_neg hk,if_neg hk];simp only[pure_bind];show ih _ f hf λy hy=>hh y (bP _ hy)
 simp only[closureFor];rw[gen scope.29 [] _ (λname kind cells=>by cases hkc:kind == VT <;> simp [hkc]) h];rfl
theorem fX:∀(names:List (Str×Wn)) (n:Nat) (acc:List (Str×Addr)),VX n names acc=VX n names []++acc
 | [],_,_=>rfl
 | (x,k) :: r,n,acc=>by
  unfold VX
  split
  ·rw[fX r (n+1) (_ :: acc),fX r (n+1) [_],cp];rfl
  ·show fX r n acc
theorem lT:∀(names:List (Str×Wn)) (n:Nat) {x:Str} {c:Addr},(x,c)∈VX n names []->(x,W7)∈names
 | [],_,_,_,h=>nomatch h
 | (y,k) :: r,n,x,c,h=>by
  unfold VX at h
  split at h
  ·rename_i hk
   have ek:k=.cell:=by simpa using hk
   subst ek;rw[fX] at h;rcases ao.mp h with h | h
   ·show bP _ (lT r _ h)
   ·have e:(x,c)=(y,n):=by simpa using h
    cases e;show cC
  ·show bP _ (lT r _ h)
def xO (env:Env) (scope:Scope) (C:Addr):Env :=
 { scope:=relabel scope env,locals:=C,globals:=env.globals,cells:=VX (C+1) scope.29 (d5 env scope.29 []),qual:=env.qual,func:=none,code:=env.code,frame:=env.frame,builtins:=env.builtins }
theorem Fq 
  (h:Q (newEnv scope s.heap.objs.35 g (VX (s.6+1) scope.29 cl) qual none .none (some env) builtinsNs) { s with heap:=pushCells (s.heap.25 { cls:=.type "dict",data:=.dict [].12 }) scope.29 }) :
  VC M A (newFunctionEnv scope g cl [] qual none .none (some env)) Q E s:=by
 simp only[newFunctionEnv,Option.isSome_some,if_true];refine K0 (wpAny_alloc ?_);refine K0 (wpAny_layCells _ (λname kind cells=>by cases hkc:kind == W7 <;> simp [hkc]) _ _ _ _ ?_);rw[show ({ s with heap:=s.heap.25 { cls:=.type "dict",data:=.dict [].12 } }:Vr).6=s.6+1 from Wq ..];rw[Cu];show K0 (VB (VB h))
theorem vg:∀{k:Wn},(relabel scope env).names.lookup x=some k->∃k0,scope.names.13 x=some k0/\(k=k0\/(k0=.free/\k=.cell)):=by
 unfold relabel;change ∀{k:Wn},(scope.names.11 λ(n,k)=>if (k == VT && env.scope.36 == .function && env.43 n == some .cell) then (n,W7) else (n,k)).13 x=some k->_
 induction scope.29 with
 | nil=>intro k h;cases h
 | cons y r ih =>
  intro k h;obtain n|k1:=y;rw[iB,lX] at h;rw[lX];by_cases hc:(k1 == VT && env.scope.36 == .function && env.43 n == some .cell)=true
  ·simp only[hc,if_true] at h;cases hb:x == n with
   | true =>
    simp only[hb] at h
    have e1:k1=.free:=by
     rw[dR,dR] at hc;simpa using hc.1.1
    cases h;show #[k1,rfl,.inr #[e1,rfl]]
   | false=>simp only[hb] at h;show ih h
  ·have YB:(k1 == VT && env.scope.36 == .function && env.43 n == some .cell)=false:=by simpa using hc
   simp only[YB,fh,if_false] at h;cases hb:x == n with
   | true=>simp only[hb] at h;cases h;show #[_,rfl,.inl rfl]
   | false=>simp only[hb] at h;show ih h
theorem Fe:scope.names.13 x=some .free->(relabel scope env).names.lookup x=some .cell\/(relabel scope env).names.lookup x=some .free:=by
 unfold relabel;change _->(scope.names.11 λ(n,k)=>if (k == VT && env.scope.36 == .function && env.43 n == some .cell) then (n,W7) else (n,k)).13 x=some .cell\/(scope.names.11 λ(n,k)=>if (k == VT && env.scope.36 == .function && env.43 n == some .cell) then (n,W7) else (n,k)).13 x=some .free
 induction scope.29 with
 | nil=>intro h;cases h
 | cons y r ih =>
  intro h;obtain n|k1:=y;rw[lX] at h;rw[iB];by_cases hc:(k1 == VT && env.scope.36 == .function && env.43 n == some .cell)=true
  ·simp only[hc,if_true,lX];cases hb:x == n with
   | true=>show .inl rfl
   | false=>rw[hb] at h;show ih h
  ·have YB:(k1 == VT && env.scope.36 == .function && env.43 n == some .cell)=false:=by simpa using hc
   simp only[YB,fh,if_false,lX];cases hb:x == n with
   | true=>rw[hb] at h;cases h;show .inr rfl
   | false=>rw[hb] at h;show ih h
structure Bz where
 s:Vr
 H:Hp
 fp:List Addr
 C:Addr
def yA (X:Cx) (own Xr:List Str) (scope:Scope) (Z:Bz):Cx where
 prog:=X.18
 w:=X.w
 K:=X.K
 mg:=X.mg
 base:=X.49
 A:=X.A
 N:=own++Xr
 s₀:=Z.s
 H₀:=Z.H
 env:=xO X.16 scope Z.C
 outer:=X.51
 stack:=X.51
 ex:=Z.fp
 fn:=λx=>own.contains x
 calm:=true
 pn:=[]
 xe:=λ_ _=>False
section
variable {X:Cx} {Xe:List (Addr×Obj)} {σ:St} {own Xr:List Str} {scope:Scope} {Z:Bz}
theorem jU (B:Bk X.16 scope own Xr) (I:Inv X Xe σ Z.H Z.s) (h:(xO X.16 scope Z.C).cells.lookup x=some c) :
  (x∈own/\(x,c)∈VX (Z.C+1) scope.29 [])\/(x∈Xr/\x∉own/\X.env.cells.13 x=some c):=by
 have h':(VX (Z.C+1) scope.29 (d5 X.16 scope.29 [])).13 x=some c:=h;rw[fX] at h';rcases ao.mp (mem_of_lookup h') with m | m
 ·show .inl #[(B.cells _ (lT _ _ m) rfl).1,m]
 ·obtain m1|e:=qU _ _ m;obtain q1|q2:=B.frees _ m1 rfl;obtain d|hd:=I.ok.has x (B.q! x q1);rw[hd] at e;show .inr #[q1,q2,by rw[hd,e];rfl]
theorem PX (B:Bk X.16 scope own Xr) (I:Inv X Xe σ Z.H Z.s) (hx:x∈Xr) (h:X.env.cells.13 x=some c):(xO X.16 scope Z.C).cells.lookup x=some c:=by
 have hm:(x,VT)∈scope.29:=mem_of_lookup (B.abp x hx);obtain c1|m1:=qV X.16 scope.29 hm
 have hs:∃d,(xO X.16 scope Z.C).cells.lookup x=some d:=by
  change ∃d,(VX (Z.C+1) scope.29 (d5 X.16 scope.29 [])).13 x=some d
  rw[fX];show jK (aU _ m1)
 obtain d|hd:=hs;rcases jU B I hd with ⟨q,m⟩ | ⟨_,_,q⟩
 ·show absurd hx (B.cells _ (lT _ _ m) rfl).2
 ·rw[h] at q;cases q;show hd
theorem K4 (h:Heap) (C:Addr) (hC:h.objs.7=C+1) (names:List (Str×Wn)):CellsOk (pushCells h names) (C+1) (VX (C+1) names []):=by
 have q:=cellsFrom_ok names h (C+1) [] #[λ_ _ hm=>(nomatch hm),List.Pairwise.nil] (by rw[hC];show aj _);rwa [hC] at q
theorem D6 (I:Inv X Xe σ Z.H Z.s) (h:X.env.cells.13 x=some c):@LT.lt Nat instLTNat c Z.s.6:=by
 obtain v|q:=I.cell x c h;show q.lt
theorem SV (I:Inv X Xe σ Z.H Z.s) (hc:X.calm=true) (B:Bk X.16 scope own Xr) (hC:Z.s.6<=Z.C) (YR:CellsOk h1 (Z.C+1) (VX (Z.C+1) scope.29 []))
  (hf:∀b∈Z.fp,kX X Xe Z.H b/\@LT.lt Nat instLTNat b Z.s.6):(yA X own Xr scope Z).Ok:=by
 refine #[I.ok.mod,B.36,I.ok.glob,I.ok.blt,hC,λx y c h1 h2=>?_,λx hx=>?_,λx c hx h=>?_,λ_=>I.ok.hd hc,I.ok.frames,.inl rfl,λb hb=>#[?_,λx c h=>?_],I.bs,ag I.ok._i I.sz,λb o e hb=>?_,λb hb hz=>?_,I.51,I.Y8]
 ·rcases jU B I h1 with ⟨q1,m1⟩ | ⟨q1,n1,m1⟩ <;> rcases jU B I h2 with ⟨q2,m2⟩ | ⟨q2,n2,m2⟩
  ·show name_of_addr YR.apart m1 m2
  ·have l1:=(YR.empty _ _ m1).2;have l2:=D6 I m2
   lia
  ·have l1:=(YR.empty _ _ m2).2;have l2:=D6 I m1
   lia
  ·show I.ok.inj x y c m1 m2
 ·have Xq:(relabel scope X.16).names.lookup x=some .cell\/(relabel scope X.16).names.lookup x=some .free:=hx
  have hk:scope.names.13 x=some .cell\/scope.names.13 x=some .free:=by
   rcases Xq with h | h
   ·obtain ⟨k0,e,q | ⟨q,_⟩⟩:=vg h
    ·show .inl (by rw[e,<- q])
    ·show .inr (by rw[e,q])
   ·obtain ⟨k0,e,q | ⟨_,q⟩⟩:=vg h
    ·show .inr (by rw[e,<- q])
    ·cases q
  change ∃c,(VX (Z.C+1) scope.29 (d5 X.16 scope.29 [])).13 x=some c
  rcases hk with h | h
  ·show Th.mp (yU scope.29 (Z.C+1) _ (.inl h))
  ·obtain c|m:=qV X.16 scope.29 (mem_of_lookup h);rw[fX];show jK (aU _ m)
 ·have ho:x∈own:=by have Xq:own.contains x=true:=hx;simpa using Xq
  rcases jU B I h with ⟨_,m⟩ | ⟨_,n,_⟩
  ·have:=(YR.empty _ _ m).2;have hC':Z.s.6<=Z.C:=hC;change Z.s.6<=c
   lia
  ·show absurd ho n
 ·intro e;have e':@Eq Nat b Z.C:=e;have:=(hf b hb).2
  lia
 ·have l:=(hf b hb).2;rcases jU B I h with ⟨_,m⟩ | ⟨_,_,m⟩
  ·intro e;have e':@Eq Nat c b:=e;have:=(YR.empty _ _ m).2
   lia
  ·show (hf b hb).1.2.2.2.2.1 x c m
 ·obtain _|_|_|f3|_:=(hf b hb).1;rcases f3 with f3 | f3
  ·show I.ok.ZA b o e f3
  ·show absurd (bI (Vv e) (ag I.ok._i f3)) (dm _)
 ·obtain _|f1|f2|_:=(hf b hb).1;rcases aF.mp (I.Y0 b hz) with e | e
  ·show f1 e
  ·show f2 e
def LP (k:Nat) (Ye:List Nat) (σ:St):St:=Vz k none++Ye.11 λj=>(σ[j]?).join
def yh (X:Cx) (Xr:List Str) (Ye:List Nat):Prop:=Ye.11 (λj=>X.N[j]?)=Xr.11 some
theorem yh.get (h:yh X Xr Ye) {i:Nat} (e:Xr[i]?=some x):∃j,Ye[i]?=some j/\X.N[j]?=some x:=by
 have q:=congrArg (λl=>l[i]?) h;simp only[az,e,Option.map_some] at q;cases hc:Ye[i]? with
 | none=>rw[hc] at q;cases q
 | some j=>rw[hc] at q;show #[j,rfl,by simpa using q]
theorem F6 (I:Inv X Xe σ Z.H Z.s) (B:Bk X.16 scope own Xr) (X3:yh X Xr Ye)
  (kc:∀x c,X.env.cells.13 x=some c->∀v,Z.s.heap.IsCell c v->h'.IsCell c v) {i:Nat} (e1:(own++Xr)[i]?=some x) (e2:(LP own.9 Ye σ)[i]?=some (some v)) :
  ∃u,RelV v u/\Look (xO X.16 scope Z.C) h' m x u:=by
 have hi:own.9<=i:=by
  by_cases hi:own.9<=i
  ·show hi
  ·exfalso
   unfold LP at e2;rw[cF (by simpa using hi),UJ] at e2
   split at e2 <;> cases e2
 rw[bM hi] at e1;unfold LP at e2;rw[bM (by simpa using hi),gW,az] at e2;obtain j|hj|hN:=X3.get e1;rw[hj] at e2;have e3:(σ[j]?).join=some v:=by simpa using e2
 have e4:σ[j]?=some (some v):=by
  cases q:σ[j]? with
  | none=>rw[q] at e3;cases e3
  | some o=>rw[q] at e3;simp at e3;rw[e3]
 have hx:x∈Xr:=ar e1;have hk:=B.q! x hx;obtain m0|_|hl:=I.loc;obtain u|r|l:=hl j x v hN e4 (.inr hk);refine #[u,r,.inr #[Fe (B.abp x hx),?_]];rcases l with ⟨H!,_⟩ | ⟨_,c,hc,z⟩
 ·rcases hk with hk | hk
  ·rw[hk] at H!;cases H!
  ·rw[hk] at H!;cases H!
 ·show #[c,PX B I hx hc,kc x c hc _ z]
theorem Uv (I:Inv X Xe σ Z.H Z.s) (h:b∈LU X.51):@LT.lt Nat instLTNat b Z.s.6:=by
 obtain _|o|ho|_:=I.stack.mem h;show Vv ho
theorem PU {D:Addr} (I:Inv X Xe σ Z.H Z.s) (hc:X.calm=true) (B:Bk X.16 scope own Xr) (X3:yh X Xr Ye) (hC:Z.s.6<=Z.C)
  (YR:CellsOk h1 (Z.C+1) (VX (Z.C+1) scope.29 [])) (hf:∀b∈Z.fp,kX X Xe Z.H b/\@LT.lt Nat instLTNat b Z.s.6)
  (hk:∀b o,Z.s.heap.14 b=some o->h1.14 b=some o) (hn:h1.Ns Z.C λ_=>none) (hD:Z.s.6<=D) (hDC:D≠Z.C) (F!:h1.14 D=some oD) (hdD:∀v,oD.data≠.cell v) :
  Inv (yA X own Xr scope Z) [(D,oD)] (LP own.9 Ye σ) Z.H { Z.s with heap:=h1,toks:=t1 }:=by
 refine #[SV I hc B hC YR hf,rfl,I.bare,Un.kept hk,#[_,hn,λi x v e1 e2 _=>F6 I B X3 (λx c _ v z=>z.keeps hk) e1 e2],λx c h=>?_,I.Xw.39 hC,λx c h=>?_,λp hp=>?_,I.Xw.59 hk,?_]
 ·rcases jU B I h with ⟨_,m⟩ | ⟨_,_,m⟩
  ·show #[none,(YR.empty _ _ m).1]
  ·obtain v|q:=I.cell x c m;show #[v,q.keeps hk]
 ·rcases jU B I h with ⟨_,m⟩ | ⟨_,_,m⟩
  ·show I.Xw.39 (by have:=(YR.empty _ _ m).2;lia)
  ·show I.XJ x c m
 ·have e:p=(D,oD):=by simpa [yA] using hp
  subst e;show #[F!,I.Xw.39 hD,hDC,λz=>dm _ (bI (Uv I z) hD),hdD]
 ·change (LP own.9 Ye σ).9=(own++Xr).9
  have:=congrArg Wt X3;simp only[af] at this;unfold LP;simp [this]
theorem NV {σ':St} (I:Inv X Xe σ Z.H Z.s) (B:Bk X.16 scope own Xr) (X3:yh X Xr Ye) (hf:∀b∈Z.fp,kX X Xe Z.H b/\@LT.lt Nat instLTNat b Z.s.6)
  (J:Inv (yA X own Xr scope Z) pins' σ' H' s'):Inv (yA X own Xr scope Z) pins' (LP own.9 Ye σ) H' s':=by
 refine #[J.ok,J.os,J.bare,J.49,?_,J.cell,J.54,J.XJ,J.pin,J.Xw,?_]
 ·obtain m|hn|_:=J.loc;refine #[m,hn,λi x v e1 e2 _=>F6 I B X3 (λx c hx v z=>?_) e1 e2];obtain o|ho|hd:=z;obtain sl|e:=J.base.58 ho (I.XJ x c hx) λz=>(hf c z).1.2.2.2.2.1 x c hx rfl
  show #[_,e,hd]
 ·change (LP own.9 Ye σ).9=(own++Xr).9
  have:=congrArg Wt X3;simp only[af] at this;unfold LP;simp [this]
theorem PV {σ':St} {D:Addr} (I:Inv X Xe σ Z.H Z.s) (hf:∀b∈Z.fp,kX X Xe Z.H b/\@LT.lt Nat instLTNat b Z.s.6) (hD:Z.s.6<=D)
  (J:Inv (yA X own Xr scope Z) [(D,{ cls:=.type "list",data:=.seq Xp.12 n })] σ' H' s') (r:cO ys Xp) (hz:ys.9<=VD) :
  Inv X Xe σ (upd H' D (.lst ys)) s':=by
 have pD:=J.pin (D,{ cls:=.type "list",data:=.seq Xp.12 n }) (by simp);have ne:∀{b:Addr} {o:Obj},Z.s.heap.14 b=some o->b≠D:=λe z=>by subst z;show dm _ (bI (Vv e) hD)
 have nt:∀{b:Addr} {u:HO},H' b=some u->b≠D:=λe z=>by rw[z,pD.2.1] at e;cases e
 refine I.abq (ch:=Z.fp) J.os #[J.base.keep,J.base.slot,λb o e h hx=>?_,J.base.there,λb xs e=>?_,λb o u e=>?_,λb ps e=>?_] (λb u e=>?_) J.bare λb hb=>?_
 ·rw[bA (ne e)];show J.base.54 b o e h hx
 ·have q:=J.base.YG b xs e;rw[bA (nt q)];show q
 ·have q:=J.base.YC b o u e;rw[bA (nt q)];show q
 ·obtain more|q:=J.base.YH b ps e;show #[more,by rw[bA (nt q)];show q]
 ·by_cases hb:b=D
  ·subst hb;rw[aK] at e;cases e;show #[hz,Xp,n,r,pD.1]
  ·rw[bA hb] at e;show (J.Xw b u e).Yz (λc v _ q=>q) (λc q=>by rw[bA (nt q)];show q) λc xs q=>by rw[bA (nt q)];show q
 ·obtain _|f1|_|f3|f4|f5:=(hf b hb).1;show #[f3,f1,f4,f5]
end
theorem Q4 {t:Sem α} {Q Q':α->Vr->Prop} (h:VC M A t Q (λ_ _=>False) s) (hQ:∀a s,Q a s->Q' a s):VC M A t Q' E s :=
 Wy h hQ λ_ _ z=>V7 z
theorem D5 (I:Nat->Vr->Prop)
  (turn:∀(E:Value->Vr->Prop) n s,I n s->VC (model prog w) A (pyNext it) (λr s₁=>match r with
   | none=>R (.ok .next) s₁
   | some v=>VC (model prog w) A (letOwnedTupleGo target it v) (λ_ s₂=>VC (model prog w) A (assign target env v) (λ_ s₃ =>
     VC (model prog w) A (forIn ifs true λc r=>if r=true then do let ok <- isTrue c env (eval c env);pure (ForInStep.yield ok) else pure (ForInStep.yield r)) (λok s₄ =>
      if ok=true then VC (model prog w) A (eval elt env) (λx s₅=>VC (model prog w) A (call (.builtin "list.append") [acc,x]) (λ_ s₆=>∃m,m < n/\I m s₆) E s₅) E s₄
      else ∃m,m < n/\I m s₄) E s₃) E s₂) E s₁) E s)
  (n:Nat) (h:I n s):W5 (model prog w) A (.compLoop (.ListComp elt [#[target,iter,ifs,0]] scope pos) 0 it acc env) R s:=by
 refine codeAny_loop rfl I (λn s hI=>?_) n h;change VC _ A ((compTurn (.ListComp elt [#[target,iter,ifs,0]] scope pos) 0 it acc env).onRaise (λx=>do noteFrame x env;theTreesLotGoes x)) _ _ s
 refine wpAny_noted ?_;rw[compTurn_list];refine K0 (W0 (K0 (Wy (turn _ n s hI) (λr s₁ h₁=>?_) λ_ _ h'=>h')));cases r with
 | none=>show VB h₁
 | some v =>
  refine K0 (Wy h₁ (λ_ s₂ h₂=>K0 (Wy h₂ (λ_ s₃ h₃=>K0 (Wy h₃ (λok s₄ h₄=>?_) λ_ _ h'=>h')) λ_ _ h'=>h')) λ_ _ h'=>h');cases ok with
  | false=>show VB #[rfl,h₄]
  | true =>
   show K0 (K0 (Wy h₄ (λx s₅ h₅=>K0 (Wy h₅ (λ_ s₆ h₆=>VB (VB #[rfl,h₆])) λ_ _ h'=>h')) λ_ _ h'=>h'))
def PF (X:Cx) (ifs:List Expr) (t:TT):Prop :=
 ∀(Xe:List (Addr×Obj)) (s:Vr) (σ:St) (H:Hp) (Q:Bool->Hp->Prop),Inv X Xe σ H s->t σ H Q →
  VC (model X.18 X.w) X.A (forIn ifs true λc r=>if r=true then do let ok <- isTrue c X.16 (eval c X.16);pure (ForInStep.yield ok) else pure (ForInStep.yield r)) (TP X Xe σ Q) X.xe s
def To:TT:=λ_ H Q=>Q true H
theorem bZ:PF X [] To:=λ_ _ _ H _ I h=>wpAny_tests_nil #[H,I,h]
theorem xu (h:PT X c t):PF X [c] t:=λXe s σ H Q I hw=>wpAny_tests_one (h Xe s σ H Q I hw)
def o6 (σ₀:St) (g:TG) (tf:TT) (te:TE) (x:V) (H:Hp) (NY:V->Hp->Prop) (NN:Hp->Prop):Prop :=
 g x σ₀ H λσ2 H2=>tf σ2 H2 λb H3=>if b=true then te σ2 H3 NY else NN H3
def pI (J:It) (σ₀:St) (g:TG) (tf:TT) (te:TE) (Q:VK) (H1:Hp):Prop :=
 ∃W:Nat->Nat->List V->Hp->Prop,(∃m,W 0 m [] H1)/\∀i m ys H,W i m ys H →
  (J.stop i H/\ys.9<=VD/\∀p,H p=none->Q (.ref p) (upd H p (.lst ys))) \/
  (J.go i H/\ys.9 < VD/\∃(NY:V->Hp->Prop) (NN:Hp->Prop),(∀y H',NY y H'->∃m',m' < m/\W (i+1) m' (ys++[y]) H')/\(∀H',NN H'->∃m',m' < m/\W (i+1) m' ys H') /\
   ∀x H',J.ZQ i H x H'->o6 σ₀ g tf te x H' NY NN)
def EK (wi:TI) (k:Nat) (Ye:List Nat) (g:TG) (tf:TT) (te:TE):TE:=λσ H Q=>wi σ H λJ H1=>pI J (LP k Ye σ) g tf te Q H1
abbrev lobj (Xp:List Value) (n:Nat):Obj:={ cls:=.type "list",data:=.seq Xp.12 n }
section
variable {X:Cx} {own Xr:List Str} {Ye:List Nat} {scope:Scope} {elt tg iter:Expr} {ifs:List Expr} {pos:Pos} {wi:TI} {g:TG} {tf:TT} {te:TE}
theorem Cf (hc:X.calm=true) (B:Bk X.16 scope own Xr) (X3:yh X Xr Ye)
  (hi:PI X tg iter wi) (hg:∀Z,PG (yA X own Xr scope Z) tg g) (hf:∀Z,PF (yA X own Xr scope Z) ifs tf) (he:∀Z,PE (yA X own Xr scope Z) elt te)
  (hs:∀x,WX iter X.16 x=pure x) {σ:St} (I:Inv X Xe σ H s) (h:EK wi own.9 Ye g tf te σ H Q)
  (fin:∀(D C:Addr) (s':Vr) (H':Hp),Inv X Xe σ H' s'->kX X Xe H' C->(∃m,s'.heap.Ns C m)->Q (.ref D) H'->compPost (model X.18 X.w) X.A X.xe use Qe (.ref D) C (.ok .next) s') :
  VC (model X.18 X.w) X.A (comprehension (.ListComp elt [#[tg,iter,ifs,0]] scope pos) scope X.16 fpos (newList []) false (eval iter X.16) use) Qe X.xe s:=by
 refine wpAny_comprehension_free (use:=use) rfl hs (Aq λy hy hk=>I.ok.has y.1 (B.q! _ (B.frees y hy hk).1)) B.36 B.locs ?_;refine gX (hi Xe s σ H _ I h) λv s1 h1=>gX h1 λitv s2 h2=>?_
 obtain it|fp|tn|J|H2|e|I2|T|st2|f2|W|⟨m0,w0⟩|turn:=h2;subst e;have hfp:∀b∈fp,kX X Xe H2 b/\@LT.lt Nat instLTNat b s2.6:=λb hb=>#[f2 b hb,let ⟨_,e,_⟩:=T.obj _ _ st2 b hb;Vv e]
 refine wpAny_newObj_type (Fq ?_) (be _);have es:(s2.heap.25 { cls:=.type "list",data:=.seq ([]:List Value).5 }).objs.size=s2.6+1:=Wq ..
 change W5 _ _ (.compStart _ 0 (.ref it) (.ref s2.6) { newEnv scope (s2.heap.25 { cls:=.type "list",data:=.seq ([]:List Value).5 }).objs.size X.env.globals (VX ((s2.heap.25 { cls:=.type "list",data:=.seq ([]:List Value).5 }).objs.size+1) scope.29 (d5 X.16 scope.29 [])) X.env.qual none .none (some X.16) builtinsNs with scope:=relabel scope X.16 })
  (compPost (model X.18 X.w) X.A X.xe use Qe (.ref s2.6) (s2.heap.25 { cls:=.type "list",data:=.seq ([]:List Value).5 }).objs.size)
  { s2 with heap:=pushCells ((s2.heap.25 { cls:=.type "list",data:=.seq ([]:List Value).5 }).25 { cls:=.type "dict",data:=.dict [].12 }) scope.29 }
 have hk1:∀b o,(s2.heap.25 { cls:=.type "list",data:=.seq ([]:List Value).5 }).14 b=some o->(pushCells ((s2.heap.25 { cls:=.type "list",data:=.seq ([]:List Value).5 }).25 { cls:=.type "dict",data:=.dict [].12 }) scope.29).14 b=some o :=
  λb o e=>pushCells_keeps _ _ _ _ (Vq _ e)
 have hk:∀b o,s2.heap.14 b=some o->(pushCells ((s2.heap.25 { cls:=.type "list",data:=.seq ([]:List Value).5 }).25 { cls:=.type "dict",data:=.dict [].12 }) scope.29).14 b=some o:=λb o e=>hk1 b o (Vq _ e)
 have F!:=hk1 s2.heap.objs.35 _ (VG s2.26 (o:={ cls:=.type "list",data:=.seq ([]:List Value).5 }) rfl);have hn:=(Heap.Ns.new (s2.heap.25 { cls:=.type "list",data:=.seq ([]:List Value).5 }) (.type "dict")).keeps (pushCells_keeps scope.29 _);have YR:=K4 ((s2.heap.25 { cls:=.type "list",data:=.seq ([]:List Value).5 }).25 { cls:=.type "dict",data:=.dict [].12 }) (s2.6+1) (by rw[Wq,es]) scope.29;rw[es] at hn ⊢;generalize pushCells ((s2.heap.25 { cls:=.type "list",data:=.seq ([]:List Value).5 }).25 { cls:=.type "dict",data:=.dict [].12 }) scope.29=h3 at hk F! hn YR ⊢;have Z:Bz:=#[s2,H2,fp,s2.6+1]
 have I3:Inv (yA X own Xr scope #[s2,H2,fp,s2.6+1]) [(s2.6,lobj [] 0)] (LP own.9 Ye σ) H2 { s2 with heap:=h3 } :=
  PU (Z:=#[s2,H2,fp,s2.6+1]) (t1:=s2.27) I2 hc B X3 (rD _) YR hfp hk hn (aj _) (cG (dr _)) F! (λv z=>nomatch z)
 have U!:tn 0 h3:=T.keep _ _ _ st2 λb _ o e=>hk b o e
 have loop:W5 (model X.18 X.w) X.A (.compLoop (.ListComp elt [#[tg,iter,ifs,0]] scope pos) 0 (.ref it) (.ref s2.6) (xO X.16 scope (s2.6+1))) (compPost (model X.18 X.w) X.A X.xe use Qe (.ref s2.6) (s2.6+1)) { s2 with heap:=h3 }:=by
  refine D5 (λm s'=>∃i ys σ' H' Xp n,Inv (yA X own Xr scope #[s2,H2,fp,s2.6+1]) [(s2.6,lobj Xp n)] σ' H' s'/\tn i s'.8/\(∀b∈fp,H' b=none)/\cO ys Xp/\W i m ys H') ?_ m0
   #[0,[],_,H2,[],0,I3,U!,λb hb=>(f2 b hb).1,.nil,w0]
  rintro E n s4 ⟨i,ys,σ4,H4,Xp,k,I4,st4,fr4,rv,w4⟩
  have fpo:∀{pp:List (Addr×Obj)} {H':Hp},(∀p∈pp,p.1=s2.6)->(∀b∈fp,H' b=none)->∀b∈fp,kX (yA X own Xr scope #[s2,H2,fp,s2.6+1]) pp H' b:=λ{pp H'} hpp hn b hb=>by
   obtain e1|e2:=I4.ok.exf b hb;refine #[hn b hb,e1,I4.ok.ZL b hb,.inl hb,e2,λp hp=>?_];have ZV:p∈pp:=by simpa [yA] using hp
   have l:=(hfp b hb).2;rw[hpp p ZV];show λz=>dm _ (by rw[<- z] at l;show l)
  have _O:∀{Xp:List Value} {n:Nat},∀p∈[(s2.6,lobj Xp n)],p.1=s2.6:=λp hp=>by simp at hp;rw[hp]
  rcases turn i n ys H4 w4 with ⟨stop,hz,q⟩ | ⟨go,XB,NY,NN,hNY,hNN,step⟩
  ·refine gX (T.done (yA X own Xr scope #[s2,H2,fp,s2.6+1]) rfl rfl rfl rfl i _ s4 σ4 H4 E I4 (fpo _O fr4) st4 stop) λr s5 #[hr,I5]=>?_
   subst hr;have pD:=I5.pin (s2.6,lobj Xp k) (by simp);have I6:=PV (Z:=#[s2,H2,fp,s2.6+1]) I2 hfp (aj _) I5 rv hz
   have hC:upd H4 s2.heap.objs.35 (.lst ys) (s2.6+1)=none:=by
    rw[bA (Ky (dr _))];show I5.54
   obtain m|hm|_:=I5.loc;show fin _ _ s5 _ I6 (I2.Yt (rD _) hC) #[m,hm] (q _ pD.2.1)
  ·refine gX (T.item (yA X own Xr scope #[s2,H2,fp,s2.6+1]) rfl rfl rfl rfl i _ s4 σ4 H4 E I4 (fpo _O fr4) st4 go) λr s5 #[u,hr,h5]=>?_
   subst hr;refine gX h5 λ_ s6 hz=>?_
   obtain x|H6|I6|r6|y6|st6|fr6:=hz;have I6':=(NV (Z:=#[s2,H2,fp,s2.6+1]) I2 B X3 hfp I6).pinned (fpo _O fr6) (T.obj _ _ st6)
   have back:∀{σ7:St} {H7:Hp} {s7:Vr},Inv (yA X own Xr scope #[s2,H2,fp,s2.6+1]) ([(s2.6,lobj Xp k)]++zG fp s6.8) σ7 H7 s7 →
     Inv (yA X own Xr scope #[s2,H2,fp,s2.6+1]) [(s2.6,lobj Xp k)] σ7 H7 s7/\tn (i+1) s7.8/\∀b∈fp,H7 b=none:=λ{σ7 H7 s7} I7=>by
    refine #[I7.X7,T.keep _ _ _ st6 λb hb o e=>(I7.pin (b,o) (aU _ (aU _ (qN hb e)))).1,λb hb=>?_];obtain o|e|d:=T.obj _ _ st6 b hb;show (I7.pin (b,o) (aU _ (aU _ (qN hb e)))).2.1
   refine Q4 (hg _ _ s6 _ H6 x u _ I6' r6 (step x H6 y6)) λ_ s7 hz=>?_
   obtain σ7|H7|I7|q7:=hz;refine Q4 (hf _ _ s7 σ7 H7 _ I7 q7) λok s8 hz=>?_
   obtain H8|I8|q8:=hz;cases ok with
   | false =>
    rw[if_neg a8] at q8 ⊢;obtain m'|hm|w8:=hNN H8 q8;obtain J1|J2|J3:=back I8;show #[m',hm,i+1,ys,σ7,H8,Xp,k,J1,J2,J3,rv,w8]
   | true =>
    rw[if_pos rfl] at q8 ⊢;refine Q4 (he _ _ s8 σ7 H8 _ I8 q8) λz s9 hz=>?_
    obtain y|H9|I9|r9|q9:=hz;obtain J1|J2|J3:=back I9;obtain m'|hm|w9:=hNY y H9 q9;have pD:=J1.pin (s2.6,lobj Xp k) (by simp);have hl:=rv.9;refine call_meets F.slot_list_append #[_,pD.1,rfl] F.entry_list_append (F.args_list_append_2 _ _) (PySem.list_append s2.heap.objs.35 Xp.12 k z (by rw[aX];lia)) #[pD.1,?_];have e9:=lV pD.1 (λa=>a.25 z);have e9':(Xp.toArray.25 z)=(Xp++[z]).5:=by simp
    rw[e9'] at e9;obtain ⟨n',e9⟩:∃n',(s9.heap.48 s2.heap.objs.35 (VQ λa=>a.25 z)).14 s2.6=some (lobj (Xp++[z]) n'):=#[_,e9]
    have J4:Inv (yA X own Xr scope #[s2,H2,fp,s2.6+1]) [] σ7 H9 { s9 with heap:=s9.heap.48 s2.heap.objs.35 (VQ λa=>a.25 z),toks:=s9.27 } :=
     (J1.Yn (pins':=[]) λp hp=>nomatch hp).turned (λb o hb e=>(VN s9.26 _ (Wc hb)).4 e) pD.2.1 pD.2.2.1 (.inr (aj _)) (λx c hx z=>by
      rcases jU (Z:=⟨s2,H2,fp,s2.6+1⟩) B I2 hx with ⟨_,m⟩ | ⟨_,_,m⟩
      ·have:=(YR.empty _ _ m).2;have z':@Eq Nat c s2.6:=z
       lia
      ·have:=D6 (Z:=#[s2,H2,fp,s2.6+1]) I2 m;rw[z] at this;show dm _ this) λp hp=>by simp [yA] at hp
    have nfp:∀b∈fp,b≠s2.6:=λb hb z=>by have:=(hfp b hb).2;rw[z] at this;show dm _ this
    refine #[m',hm,i+1,ys++[y],σ7,H9,Xp++[z],n',J4.Yn λp hp=>?_,T.keep _ _ _ J2 λb hb o e=>(VN s9.26 _ (Wc (nfp b hb))).4 e,J3,rv.append (.cons r9 .nil),w9];have ep:p=(s2.6,lobj (Xp++[z]) n'):=by simpa using hp
    rw[ep];show #[e9,pD.2.1,pD.2.2.1,pD.2.2.2.1,λv z=>nomatch z]
 show codeAny_compStart_list loop (T.self _ _ _ _ _ U! loop)
theorem bS (own Xr:List Str) (Ye:List Nat) (hi:PI X tg iter wi) (hg:∀Z,PG (yA X own Xr scope Z) tg g) (hf:∀Z,PF (yA X own Xr scope Z) ifs tf) (he:∀Z,PE (yA X own Xr scope Z) elt te)
  (h1:UP scope own Xr=true:=by decide +kernel) (h2:Cj X.16 Xr=true:=by rfl) (X3:yh X Xr Ye:=by rfl) (hc:X.calm=true:=by rfl) (hs:∀x,WX iter X.16 x=pure x:=by intro _;rfl) :
  PE X (.ListComp elt [#[tg,iter,ifs,0]] scope pos) (EK wi own.9 Ye g tf te):=by
 intro Xe s σ H Q I h;rw[eval_ListComp];refine Cf (use:=none) hc (Bk.of h1 h2) X3 hi hg hf he hs I h λD C s' H' I' fC hm q=>?_
 obtain m|hm:=hm;refine #[m,hm,λh' Z7=>?_];obtain f0|f1|f2|f3|f4|f5:=fC;show #[.ref D,H',I'.turned (t':=s'.27) (λb o hb e=>(Z7.2 b hb).4 e) f0 f1 f3 f4 f5,rfl,q]
theorem iQ (i:Nat) (own Xr:List Str) (Ye:List Nat) {x:Str} {pos' V!:Pos} (hN:X.N.33) (c!:X.N[i]?=some x) (hx:X.env.scope.names.13 x=some .local) (hi:PI X tg iter wi) (hg:∀Z,PG (yA X own Xr scope Z) tg g) (hf:∀Z,PF (yA X own Xr scope Z) ifs tf) (he:∀Z,PE (yA X own Xr scope Z) elt te)
  (h1:UP scope own Xr=true:=by decide +kernel) (h2:Cj X.16 Xr=true:=by rfl) (X3:yh X Xr Ye:=by rfl) (hc:X.calm=true:=by rfl) (hs:∀x,WX iter X.16 x=pure x:=by intro _;rfl)
  (hsw:swapsWith (.ListComp elt [#[tg,iter,ifs,0]] scope pos) (some (.Name x pos')) V!.line X.16=pure true:=by rfl) :
  PS X (.Assign [.Name x pos'] (.ListComp elt [#[tg,iter,ifs,0]] scope pos) V!) (Mg (EK wi own.9 Ye g tf te) (BY i)):=by
 intro Xe s σ H D I h;rw[exec_Assign_Name_used _ _ _ _ hsw];refine K0 (W0 (K0 ?_));rw[arm_evalThenUse_ListComp];refine K0 (Cf (Q:=λv H1=>D.nx (σ.42 i (some v)) H1) (use:=some _) hc (Bk.of h1 h2) X3 hi hg hf he hs I h λL C s' H' I' fC hm q=>?_);obtain m|hm:=hm;obtain f0|f1|f2|f3|f4|f5:=fC;refine wpAny_assign_Name (BA I' hN c! (.inl hx) (v:=.ref L) rfl (λs'' I'' hz=>?_) (.inr hx));obtain a|sb|ha:=hz
 have hCa:C≠a:=by
  rcases ha with e | e
  ·rw[e];show f1
  ·show (f4 x a e).20
 refine #[m,hm.at' λo e=>(sb.2 C hCa).4 e,λh' Z7=>?_];have I3:=I''.turned (h':=h') (t':=s''.27) (λb o hb e=>(Z7.2 b hb).4 e) f0 f1 f3 f4 f5;show VB (VB #[_,H',I3,q])
end
section
variable {K:Xn}
theorem dn (Pv:Nat->List V->Hp->Prop) (hz:xs.9<=VD) (h0:Pv 0 [] H) (hl:∀i ys H,i<=xs.9->Pv i ys H->bN K H a xs)
  (hs:∀i x ys H,xs[i]?=some x->ys.9<=i->Pv i ys H->o6 σ₀ g tf te x H (λy H'=>Pv (i+1) (ys++[y]) H') (λH'=>Pv (i+1) ys H'))
  (hd:∀ys H,ys.9<=xs.9->Pv xs.9 ys H->∀p,H p=none->Q (.ref p) (upd H p (.lst ys))):pI (Oe K a) σ₀ g tf te Q H:=by
 refine #[λi m ys H=>m=xs.9 - i/\i<=xs.9/\ys.9<=i/\Pv i ys H,#[xs.9,by simp,be _,be _,h0],?_];rintro i m ys H ⟨rfl,hi,hy,p⟩;have q:=hl i ys H hi p;by_cases XB:i < xs.9
 ·refine .inr #[#[xs,xs[i],q,by simp [XB]],(),λy H'=>Pv (i+1) (ys++[y]) H',λH'=>Pv (i+1) ys H',λy H' p'=>#[xs.9 - (i+1),(),rfl,XB,by rw[ai,a9];lia,p'],λH' p'=>#[xs.9 - (i+1),(),rfl,XB,(),p'],λx H' y=>?_];obtain e|y:=y;subst e;show hs i x ys _ (y xs q) hy p
 ·have e:i=xs.9:=()
  subst e;show .inl #[#[xs,q,aj _],(),hd ys H hy p]
theorem NS (Pv:Nat->List V->Hp->Prop) (hz:xs.9<=VD) (h0:Pv 0 [] H) (hl:∀i ys H,i<=xs.9->Pv i ys H->kz K H a xs)
  (hs:∀i x ys H,xs[i]?=some x->ys.9<=i->Pv i ys H->o6 σ₀ g tf te x H (λy H'=>Pv (i+1) (ys++[y]) H') (λH'=>Pv (i+1) ys H'))
  (hd:∀ys H,ys.9<=xs.9->Pv xs.9 ys H->∀p,H p=none->Q (.ref p) (upd H p (.lst ys))):pI (Qa K a) σ₀ g tf te Q H:=by
 refine #[λi m ys H=>m=xs.9 - i/\i<=xs.9/\ys.9<=i/\Pv i ys H,#[xs.9,by simp,be _,be _,h0],?_];rintro i m ys H ⟨rfl,hi,hy,p⟩;have q:=hl i ys H hi p;by_cases XB:i < xs.9
 ·refine .inr #[#[xs,xs[i],q,by simp [XB]],(),λy H'=>Pv (i+1) (ys++[y]) H',λH'=>Pv (i+1) ys H',λy H' p'=>#[xs.9 - (i+1),(),rfl,XB,by rw[ai,a9];lia,p'],λH' p'=>#[xs.9 - (i+1),(),rfl,XB,(),p'],λx H' y=>?_];obtain e|y:=y;subst e;show hs i x ys _ (y xs q) hy p
 ·have e:i=xs.9:=()
  subst e;show .inl #[#[xs,q,aj _],(),hd ys H hy p]
theorem jM {lo:Int} (Pv:Nat->List V->Hp->Prop) (hz:n<=VD) (h0:Pv 0 [] H)
  (hs:∀i ys H,i < n->ys.9<=i->Pv i ys H->o6 σ₀ g tf te (.int (lo+i)) H (λy H'=>Pv (i+1) (ys++[y]) H') (λH'=>Pv (i+1) ys H'))
  (hd:∀ys H,ys.9<=n->Pv n ys H->∀p,H p=none->Q (.ref p) (upd H p (.lst ys))):pI (GU lo n) σ₀ g tf te Q H:=by
 refine #[λi m ys H=>m=n - i/\i<=n/\ys.9<=i/\Pv i ys H,#[n,by simp,be _,be _,h0],?_];rintro i m ys H ⟨rfl,hi,hy,p⟩;by_cases XB:i < n
 ·refine .inr #[XB,(),λy H'=>Pv (i+1) (ys++[y]) H',λH'=>Pv (i+1) ys H',λy H' p'=>#[n - (i+1),(),rfl,XB,by rw[ai,a9];lia,p'],λH' p'=>#[n - (i+1),(),rfl,XB,(),p'],λx H' y=>?_];obtain e|y:=y;subst e y;show hs i ys _ XB hy p
 ·have e:i=n:=()
  subst e;show .inl #[aj _,(),hd ys H hy p]
end
open Nm
def gM (i j:Int):Prop:=Tb i j\/∃m n,Sz m i/\Sz n j/\m+n<=100000000
def rC (i j:Int):Prop:=j≠0/\Sz 8999000 j
theorem Au (h:Sz k i):WA.Int.intBits i<=k:=by
 unfold WA.Int.intBits;by_cases e:i=0
 ·subst e;simp
 ·have e':(i == 0)=false:=by simpa using e
  rw[e'];have hn:i.15≠0:=()
  have:=(Nat.log2_lt hn).mpr h;simp only[fh,if_false]
  lia
theorem gM.ok (h:gM i j):IntMulOk i j:=by
 rcases h with h | ⟨m,n,h1,h2,h3⟩
 ·show h.ok
 ·show .of_le (Au h1) (Au h2) (ag h3 ())
section
variable {X:Cx} {a b:Expr} {ta tb:TE} {pos:Pos}
theorem c4:xT X (W8 .Mult) (rI gM λi j=>.int (i*j)):=U3 λ_ _ _ _ _ _ _ hc q=>mul_int q hc.ok
theorem j8 (hs:X.51=env :: l) (S:tH N ps sc) (he:env.scope=sc) (hb:env.builtins=builtinsNs) (hg:env.globals=VE) (ht:X.prog.given.tree=none) (hd:X.A.depth+WA.pylongFrames < recursionLimit):xT X (W8 .FloorDiv) (rI rC λi j=>.int (i.fdiv j)):=by
 intro Xe s σ H x y v u Q I rx ry h;obtain i|j|rfl|rfl|hc|q:=h;obtain t|rfl:=rx;obtain t'|rfl:=ry;refine floordiv_int hc.1 #[.int _,H,I.tok _,#[_,rfl],q] (.inr (PySem.PylongRoom.of I.nolimit hd (PySem.SeerAt.of (I.ok.mod.seer.keeps I.bk) ht (env:=env) (l:=l) (by rw[I.ok.frames,hs]) (by rw[he];show S.gen) (by rw[he];show S.co) hb hg)))
theorem vP (hr:kW k A):A.depth+WA.pylongFrames < recursionLimit:=by have:=hr.dp;change A.depth+100 < _;lia
def Tr (t u:TS):TS:=λD σ H=>∃N:St->Hp->Prop,t { D with nx:=N } σ H/\∀σ' H',N σ' H'->u D σ' H'
theorem jR {st:Stmt} (h1:PS X st t) (h2:GS X rest u):GS X (st :: rest) (Tr t u):=by
 intro Xe s σ H D I h;obtain N|h|k:=h;refine wpAny_execs_cons (gX (h1 Xe s σ H { D with nx:=N } I h) λf s1 q=>?_);cases f with
 | next =>
  obtain σ'|H'|I'|q:=q;show h2 Xe s1 σ' H' D I' (k _ _ q)
 | ret v=>show q
 | brk=>show q
 | cont=>show q
def Qy (K:Xn):V->V->Hp->VK->Prop:=λo i H Q=>∃p xs k v,o=.ref p/\i=.int k/\bN K H p xs/\IP xs k=some v/\Q v H
theorem Nr:UA X (Qy X.K):=by
 intro Xe s σ H o i ov iv Q I ro ri h;obtain p|xs|k|z|rfl|rfl|hq|he|q:=h;cases ro;obtain t|rfl:=ri;obtain Xp|r|pl|hz:=I.30 hq;obtain j|h1|h2|h3|h4|h5:=D7 he;obtain w|ew|YX:=r.get h2;have hl:=r.9;have hn:=z5;have fin:EP X Xe σ Q w s:=#[z,H,I,YX,q];by_cases h0:0<=k
 ·have hj:k.28=j:=by
   rw[seqIndex_of h0 h5] at h1;show cv h1
  show wpAny_getItem_list pl.19 h0 () (by rw[hj];simpa using ew) fin
 ·have hj:(k+(Xp.5.7:Int)).28=j:=by
   rw[seqIndex_neg () h4] at h1;rw[aX,<- hl];show cv h1
  show wpAny_getItem_list_neg pl.19 () (by rw[aX] <;> lia) () (by rw[hj];simpa using ew) fin
def KZ (K:Xn) (T:String):V->Hp->VK->Prop:=λx H Q=>∃t b,uP K H x t/\PySem.W.kitOne K t (.type T)=some b/\Q (.bl b) H
theorem xv {c:Str} {T:String} {p p2:Pos} (hg:Gl X "isinstance") (hm:X.mg "isinstance"=none) (hb:Ww c=some (.type T)) (hmc:X.mg c=none) (ha:PE X a ta) (hgc:Gl X c:=by rfl) (hn:c≠"__name__":=by decide)
  (hd:(c == ("__debug__":Str))=false:=by decide) (he:Vu [a,.Name c p2] X.16=[(false,eval a X.16),(false,eval (.Name c p2) X.16)]:=by rfl)
  (Zd:(WT pos (Vu [.Name c p2] X.16)).58 (·.1)=false:=by rfl) (g!:Vu [.Name c p2] X.16=[(false,eval (.Name c p2) X.16)]:=by rfl):PE X (.Call (.Name "isinstance" p) [a,.Name c p2] [] pos) (UM (KZ X.K T) ta):=by
 intro Xe s σ H Q I h;refine VW (kS I hg hm WC ?_);have hA:PA X [a,.Name c p2] (ji ta (ji (tC (.ty T)) yX)):=fI ha (fI (yL hgc hmc hb rfl hn hd) iE g!) (by rw[he,g!])
 have hq:ji ta (ji (tC (.ty T)) yX) σ H (λvs H1=>∃x,vs=[x,.ty T]/\KZ X.K T x H1 Q):=by
  change ta σ H λx H1=>∃x',[x,V.ty T]=[x',V.ty T]/\KZ X.K T x' H1 Q
  have e:(λx H1=>∃x',[x,V.ty T]=[x',V.ty T]/\KZ X.K T x' H1 Q)=λx H1=>KZ X.K T x H1 Q:=by
   funext x H1;apply propext;constructor
   ·rintro ⟨x',e,q⟩;cases e;show q
   ·intro q;show #[x,rfl,q]
  rw[e];show h
 refine Wr (gX (hA pos Xe s σ H _ I hq) λus s1 hz=>?_) (by rw[he,g!]) Zd;obtain vs|H1|I1|r1|x|e|q1:=hz;subst e;obtain u|w'|rfl|ru|rt:=vals2 r1;cases rt;obtain t|bb|ty|ek|q:=q1;show BX I1 ru ty ek λtk=>#[.bl bb,H1,I1.tok tk,rfl,q]
end
structure Kind (α:Type) [DecidableEq α] where
 R:Xn->Hp->V->α->Prop
 d:Nat
 inj:∀{X:Cx} {Xe:List (Addr×Obj)} {σ:St} {H:Hp} {s:Vr} {x:V} {a b:α},Inv X Xe σ H s->R X.K H x a->R X.K H x b->a=b
 rc:∀{X:Cx} {Xe:List (Addr×Obj)} {σ:St} {H:Hp} {s:Vr} {x y:V} {v u:Value} {a b:α} {A:VZ},Inv X Xe σ H s->RelV x v->RelV y u->R X.K H x a->R X.K H y b->A.50+d < cLine->WZ A s v u (decide (a=b))
 ne:∀{X:Cx} {Xe:List (Addr×Obj)} {σ:St} {H:Hp} {s:Vr} {x y:V} {v u:Value} {a b:α} {A:VZ},Inv X Xe σ H s->RelV x v->RelV y u->R X.K H x a->R X.K H y b->A.50+d < cLine->WY A s v u (!decide (a=b))
 eq:∀{X:Cx} {Xe:List (Addr×Obj)} {σ:St} {H:Hp} {s:Vr} {x y:V} {v u:Value} {a b:α} {A:VZ},Inv X Xe σ H s->RelV x v->RelV y u->R X.K H x a->R X.K H y b->A.50+d < cLine->VM A s v u (decide (a=b))
def Nc:Kind Int where
 R:=λ_ _ x i=>x=.int i
 d:=0
 inj:=λ_ h1 h2=>by rw[h1] at h2;cases h2;rfl
 rc:=λ{X Xe σ H s x y v u a b A} I rx ry h1 h2 _=>by
  subst h1 h2;obtain t|rfl:=rx;obtain t'|rfl:=ry;have q:=WZ.int_int (A:=A) (s:=s) a t b t';rwa [AL] at q
 ne:=λ{X Xe σ H s x y v u a b A} I rx ry h1 h2 _=>by
  subst h1 h2;obtain t|rfl:=rx;obtain t'|rfl:=ry;have q:=WY.int_int (A:=A) (s:=s) a t b t';rwa [AL] at q
 eq:=λ{X Xe σ H s x y v u a b A} I rx ry h1 h2 _=>by
  subst h1 h2;obtain t|rfl:=rx;obtain t'|rfl:=ry;have q:=VM.int_int (A:=A) (s:=s) a t b t';rwa [AL] at q
theorem kL {α β:Type} {F:α->β->Prop}:∀{l1:List α} {l2:List β} {i:Nat} (_:Vs F l1 l2) (h1:i < l1.9) (h2:i < l2.9),F l1[i] l2[i]
 | _,_,_,.nil,h1,_=>absurd h1 (fO _)
 | _,_,0,.cons r _,_,_=>r
 | _,_,i+1,.cons _ t,h1,h2=>kL (i:=i) t (Nat.lt_of_succ_lt_succ h1) (Nat.lt_of_succ_lt_succ h2)
theorem qo {F:α->β->Prop} (hF:∀a b x,F a x->F b x->a=b):∀{l1 l2:List α} {l:List β},Vs F l1 l->Vs F l2 l->l1=l2:=by
 intro l1 l2 l h
 induction h generalizing l2 with
 | nil=>intro h';cases h';rfl
 | cons r t ih=>intro h';cases h' with | cons r' t'=>rw[hF _ _ _ r r',ih t']
theorem vQ {α:Type} [DecidableEq α] (as bs:List α) (h:as.9=bs.9):(Vt as.9).all (λj=>decide (as[j]?=bs[j]?))=decide (as=bs):=by
 rw[nE,pM,decide_eq_true_iff];constructor
 ·intro q;apply KA;intro i;by_cases hi:i < as.9
  ·show of_decide_eq_true (q i (kC.mpr hi))
  ·rw[aJ (),aJ ()]
 ·rintro rfl i _;simp
section
variable {α:Type} [DecidableEq α] (k:Kind α)
theorem Kind.items {X:Cx} {Xe:List (Addr×Obj)} {σ:St} {H:Hp} {s:Vr} {A:VZ} (I:Inv X Xe σ H s) (hA:A.50+k.d < cLine) {xs ys:List V} {us ws:List Value} {as bs:List α}
  (rx:cO xs us) (ry:cO ys ws) (ha:Vs (λa x=>k.R X.K H x a) as xs) (hb:Vs (λa x=>k.R X.K H x a) bs ys) :
  ∀j (h1:j < us.5.7) (h2:j < ws.5.7),VM A s us.5[j] ws.5[j] (decide (as[j]?=bs[j]?)):=λj h1 h2=>by
 have l1:j < us.9:=by simpa using h1
 have l2:j < ws.9:=by simpa using h2
 have e1:=rx.9;have e2:=ry.9;have e3:=ha.9;have e4:=hb.9;obtain u|hu|ru:=rx.get (i:=j) (x:=xs[j]'()) (by simp);obtain w|hw|YX:=ry.get (i:=j) (x:=ys[j]'()) (by simp);have q:=k.eq (A:=A) I ru YX (kL ha () ()) (kL hb () ()) hA
 have eu:us.5[j]=u:=by
  have:=hu;rw[ae l1] at this;simpa using this
 have ew:ws.5[j]=w:=by
  have:=hw;rw[ae l2] at this;simpa using this
 rw[eu,ew,ae (show j < as.9 by lia),ae (show j < bs.9 by lia)];have e5:decide (some as[j]=some bs[j])=decide (as[j]=bs[j]):=by simp
 rw[e5];show q
theorem CA {α:Type} [DecidableEq α] (as bs:List α) {n m:Nat} (h1:as.9=n) (h2:bs.9=m):((Vt (min n m)).all (λj=>decide (as[j]?=bs[j]?)) && n == m)=decide (as=bs):=by
 subst h1 h2;by_cases e:as.9=bs.9
 ·rw[show min as.9 bs.9=as.9 by lia,vQ as bs e];simp [e]
 ·have h1:(as.9 == bs.9)=false:=by simpa using e
  rw[h1,Bool.and_false];show (decide_eq_false λz=>e (by rw[z])).20
def U6:Kind (List α) where
 R:=λK H x as=>∃p xs,x=.ref p/\kz K H p xs/\Vs (λa x=>k.R K H x a) as xs
 d:=k.d+1
 inj:=λ{X Xe σ H s x a b} I h1 h2=>by
  obtain p|xs|rfl|hp|pa:=h1;obtain q|ys|e|hq|pb:=h2;cases e;have e:=I.Yf hp hq;subst e;show qo (F:=λa x=>k.R X.K H x a) (λa b x=>k.inj I) pa pb
 rc:=λ{X Xe σ H s x y v u a b A} I rx ry h1 h2 hA=>by
  obtain p|xs|rfl|hp|pa:=h1;obtain q|ys|rfl|hq|pb:=h2;cases rx;cases ry;obtain us|r1|t1|_:=I.45 hp;obtain ws|r2|t2|_:=I.45 hq;have z:=WZ.tuples (A:=A) (e:=λj=>decide (a[j]?=b[j]?)) (show s.heap.IsTuple p us.12 from t1) (show s.heap.IsTuple q ws.12 from t2) () (k.items (A:=A.in1) I (by change A.50+1+k.d < cLine;lia) r1 r2 pa pb);rwa [CA a b (by rw[pa.9,r1.9];simp) (by rw[pb.9,r2.9];simp)] at z
 ne:=λ{X Xe σ H s x y v u a b A} I rx ry h1 h2 hA=>by
  obtain p|xs|rfl|hp|pa:=h1;obtain q|ys|rfl|hq|pb:=h2;cases rx;cases ry;obtain us|r1|t1|_:=I.45 hp;obtain ws|r2|t2|_:=I.45 hq;have z:=WY.tuples (A:=A) (e:=λj=>decide (a[j]?=b[j]?)) (show s.heap.IsTuple p us.12 from t1) (show s.heap.IsTuple q ws.12 from t2) () (k.items (A:=A.in1) I (by change A.50+1+k.d < cLine;lia) r1 r2 pa pb);rwa [CA a b (by rw[pa.9,r1.9];simp) (by rw[pb.9,r2.9];simp)] at z
 eq:=λ{X Xe σ H s x y v u a b A} I rx ry h1 h2 hA=>by
  obtain p|xs|rfl|hp|pa:=h1;obtain q|ys|rfl|hq|pb:=h2;cases rx;cases ry;by_cases e:p=q
  ·subst e;have e:=I.Yf hp hq;subst e;rw[qo (F:=λa x=>k.R X.K H x a) (λa b x=>k.inj I) pa pb,decide_eq_true rfl];show VM.same _
  ·obtain us|r1|t1|_:=I.45 hp;obtain ws|r2|t2|_:=I.45 hq;have z:=WZ.tuples (A:=A) (e:=λj=>decide (a[j]?=b[j]?)) (show s.heap.IsTuple p us.12 from t1) (show s.heap.IsTuple q ws.12 from t2) () (k.items (A:=A.in1) I (by change A.50+1+k.d < cLine;lia) r1 r2 pa pb);rw[CA a b (by rw[pa.9,r1.9];simp) (by rw[pb.9,r2.9];simp)] at z;show .of_refs e z
theorem Ii {X:Cx} {Xe:List (Addr×Obj)} {σ:St} {H:Hp} {s:Vr} {p q:Addr} {xs ys:List V} {a b:List α} {A:VZ} (I:Inv X Xe σ H s) (hp:bN X.K H p xs) (hq:bN X.K H q ys)
  (pa:Vs (λa x=>k.R X.K H x a) a xs) (pb:Vs (λa x=>k.R X.K H x a) b ys) (hA:A.50+(k.d+1) < cLine) :
  WZ A s (.ref p) (.ref q) (decide (a=b))/\WY A s (.ref p) (.ref q) (!decide (a=b)):=by
 obtain us|r1|t1|_:=I.30 hp;obtain ws|r2|t2|_:=I.30 hq;have l1:=r1.9;have l2:=r2.9;have l3:=pa.9;have l4:=pb.9;by_cases e:us.9=ws.9
 ·have it:=k.items (A:=A.in1) I (by change A.50+1+k.d < cLine;lia) r1 r2 pa pb;have z:=WZ.lists (A:=A) (e:=λj=>decide (a[j]?=b[j]?)) t1.19 t2.19 (by simpa using e) () it;have z2:=WY.lists (A:=A) (e:=λj=>decide (a[j]?=b[j]?)) t1.19 t2.19 (by simpa using e) () it;have e1:us.5.7=a.9:=by rw[aX];lia
  rw[e1,vQ a b ()] at z z2;show #[z,z2]
 ·have Yr:¬a=b:=λz=>e (by have:=congrArg Wt z;lia)
  rw[decide_eq_false Yr];show #[WZ.lists_lengths t1.19 t2.19 (by simpa using e) (),WY.lists_lengths t1.19 t2.19 (by simpa using e) ()]
def Lc:Kind (List α) where
 R:=λK H x as=>∃p xs,x=.ref p/\bN K H p xs/\Vs (λa x=>k.R K H x a) as xs
 d:=k.d+1
 inj:=λ{X Xe σ H s x a b} I h1 h2=>by
  obtain p|xs|rfl|hp|pa:=h1;obtain q|ys|e|hq|pb:=h2;cases e;have e:=I.XE hp hq;subst e;show qo (F:=λa x=>k.R X.K H x a) (λa b x=>k.inj I) pa pb
 rc:=λ{X Xe σ H s x y v u a b A} I rx ry h1 h2 hA=>by
  obtain p|xs|rfl|hp|pa:=h1;obtain q|ys|rfl|hq|pb:=h2;cases rx;cases ry;show (Ii k I hp hq pa pb hA).1
 ne:=λ{X Xe σ H s x y v u a b A} I rx ry h1 h2 hA=>by
  obtain p|xs|rfl|hp|pa:=h1;obtain q|ys|rfl|hq|pb:=h2;cases rx;cases ry;show (Ii k I hp hq pa pb hA).2
 eq:=λ{X Xe σ H s x y v u a b A} I rx ry h1 h2 hA=>by
  obtain p|xs|rfl|hp|pa:=h1;obtain q|ys|rfl|hq|pb:=h2;cases rx;cases ry;by_cases e:p=q
  ·subst e;have e:=I.XE hp hq;subst e;rw[qo (F:=λa x=>k.R X.K H x a) (λa b x=>k.inj I) pa pb,decide_eq_true rfl];show VM.same _
  ·show .of_refs e (Ii k I hp hq pa pb hA).1
def Kind.via {β:Type} [DecidableEq β] (f:β->α) (fi:∀a b,f a=f b->a=b) (R':Xn->Hp->V->β->Prop) (im:∀{K H x b},R' K H x b->k.R K H x (f b)):Kind β where
 R:=R'
 d:=k.d
 inj:=λI h1 h2=>fi _ _ (k.inj I (im h1) (im h2))
 rc:=λ{X Xe σ H s x y v u a b A} I rx ry h1 h2 hA=>by
  have z:=k.rc (A:=A) I rx ry (im h1) (im h2) hA;rwa [decide_eq_decide.mpr (show f a=f b↔a=b from #[fi a b,λe=>by rw[e]])] at z
 ne:=λ{X Xe σ H s x y v u a b A} I rx ry h1 h2 hA=>by
  have z:=k.ne (A:=A) I rx ry (im h1) (im h2) hA;rwa [decide_eq_decide.mpr (show f a=f b↔a=b from #[fi a b,λe=>by rw[e]])] at z
 eq:=λ{X Xe σ H s x y v u a b A} I rx ry h1 h2 hA=>by
  have z:=k.eq (A:=A) I rx ry (im h1) (im h2) hA;rwa [decide_eq_decide.mpr (show f a=f b↔a=b from #[fi a b,λe=>by rw[e]])] at z
end
def vZ (K:Xn) (H:Hp) (x:V) (n:Int×Int):Prop:=∃p,x=.ref p/\kz K H p [.int n.1,.int n.2]
def Uj:Kind (Int×Int):=(U6 Nc).via (λn=>[n.1,n.2]) (λa b e=>by cases a;cases b;simp at e;rw[e.1,e.2]) vZ λ#[p,e,h]=>#[p,_,e,h,.cons rfl (.cons rfl .nil)]
def U0 (K:Xn):R2:=λx y H Q=>∃(α:Type) (_:DecidableEq α) (k:Kind α) (a b:α),k.d<=50/\k.R K H x a/\k.R K H y b/\Q (.bl (decide (a=b))) H
def Ub (K:Xn):R2:=λx y H Q=>∃(α:Type) (_:DecidableEq α) (k:Kind α) (a b:α),k.d<=50/\k.R K H x a/\k.R K H y b/\Q (.bl (!decide (a=b))) H
theorem MO (hu:X.A.50+50 < cLine):xT X (We .Eq) (U0 X.K):=by
 intro Xe s σ H x y v u Q I rx ry h;obtain α|_|k|a|b|hd|ha|hb|q:=h;show k.rc (A:=X.A) I rx ry ha hb () _ _ _ _ #[.bl (decide (a=b)),H,I,rfl,q]
theorem uJ (hu:X.A.50+50 < cLine):xT X (We .NotEq) (Ub X.K):=by
 intro Xe s σ H x y v u Q I rx ry h;obtain α|_|k|a|b|hd|ha|hb|q:=h;show k.ne (A:=X.A) I rx ry ha hb () _ _ _ _ #[.bl (!decide (a=b)),H,I,rfl,q]
theorem Ac (hr:kW k A):A.50+50 < cLine:=by have:=hr.50;lia
def Inner (H:Hp) (p q:Addr):Prop:=∃a b c:Int,H p=some (.lst [.int a,.int b,.int c,.ref q])
def de (p:Addr) (H H':Hp):Prop:=(∀b o,H b=some o->b≠p->H' b=some o)/\∀q,Inner H p q->Inner H' p q
theorem de.refl (H:Hp):de p H H:=#[λ_ _ h _=>h,λ_ h=>h]
theorem de.trans (a:de p H H1) (b:de p H1 H2):de p H H2:=#[λc o h n=>b.1 c o (a.1 c o h n) n,λq h=>b.2 q (a.2 q h)]
theorem Inner.inj (h:Inner H p q) (h':Inner H p q'):q=q':=by
 obtain a|b|c|e:=h;obtain a'|b'|c'|e':=h';rw[e] at e';have:=HO.lst.inj (cv e');simp at this;show this.2.2.2
theorem de.set (h:H p=some (.lst [.int a,.int b,.int c,.ref q])):de p H (upd H p (.lst [.int a',.int b',.int c',.ref q])) :=
 #[λb u h n=>by rw[bA n];show h,λq' h'=>by
  rw[(Inner.inj #[a,b,c,h] h').20];show #[a',b',c',aK]]
theorem aE.Xs (h:aE H H'):de p H H':=#[λb o e _=>h b o e,λq #[a,b,c,e]=>#[a,b,c,h _ _ e]]
theorem aE.new (h:H p=Wh):aE H (upd H p o):=λb u e=>by rw[bA (fV e h)];show e
theorem aE.Y9 {K:Xn} (e:aE H H') (h:kz K H a xs):kz K H' a xs:=by
 rcases h with (h | ⟨o,h⟩) | h
 ·show .inl (.inl (e _ _ h))
 ·show .inl (.inr #[o,e _ _ h])
 ·show .inr h
theorem aE.num {K:Xn} (e:aE H H') (h:vZ K H x n):vZ K H' x n:=by obtain p|q|r:=h;show #[p,q,e.Y9 r]
section
variable {σ:St} {H:Hp} {D:Ends}
theorem pe {t:TS} (e:σ0=σ) (h:t D σ H):t D σ0 H:=by rw[e];show h
theorem OV (h:D.nx σ H):Qj D σ H:=h
theorem RY {g:TG} (h:te σ H λx H1=>g x σ H1 D.nx):Mg te g D σ H:=h
theorem MH (h:Q (σ.42 i (some v)) H):BY i v σ H Q:=h
theorem RD (h:te σ H D.rt):Tt te D σ H:=h
theorem RP (h:c σ H λb H1=>if b=true then t D σ H1 else u D σ H1):Tz c t u D σ H:=h
theorem O4 (h:te σ H λ_ H1=>D.nx σ H1):Qm te D σ H:=h
theorem RE (h:ta σ H λvs H1=>∃v w,vs=[v,w]/\D.nx ((σ.42 i (some v)).42 j (some w)) H1):Tu i j ta D σ H:=h
theorem O8 
  (h:to σ H λo H1=>ti σ H1 λi H2=>Zh o i H2 λx H3=>te σ H3 λy H4=>u! x y H4 λz H5=>Zg o i z H5 λH6=>D.nx σ H6):Qn to ti te Zh u! Zg D σ H:=h
theorem RM (h:Q (.int (f i j)) H):ipI f (.int i) (.int j) H Q:=#[i,j,rfl,rfl,h]
theorem RS {g:TG} (h:wi σ H λJ H1=>∃W:Nat->Nat->St->Hp->Prop,(∃m,W 0 m σ H1)/\∀i m σ H,W i m σ H →
  (J.stop i H/\D.nx σ H)\/(J.go i H/\∃N:St->Hp->Prop,(∀σ' H',N σ' H'->∃m',m' < m/\W (i+1) m' σ' H')/\∀x H',J.ZQ i H x H'->g x σ H' λσ2 H2=>tb { D with nx:=N,ct:=N,bk:=D.nx } σ2 H2)):TB wi g tb D σ H:=h
variable {Q:VK} {QA:List V->Hp->Prop} {QB:Bool->Hp->Prop}
theorem RA (e:σ[i]?=some (some v)) (h:Q v H):Q5 i σ H Q:=#[v,e,h]
theorem UY (h:Q v H):tC v σ H Q:=h
theorem T5 (h:ta σ H λx H1=>tb σ H1 λy H2=>r x y H2 Q):Tv r ta tb σ H Q:=h
theorem TX (h:ta σ H λx H1=>r x H1 Q):UM r ta σ H Q:=h
theorem T9 {g:Int->Int->V} (h:Q (g i j) H):Pc g (.int i) (.int j) H Q:=#[i,j,rfl,rfl,h]
theorem gI {g:Int->Int->V} (hc:C i j) (h:Q (g i j) H):rI C g (.int i) (.int j) H Q:=#[i,j,rfl,rfl,hc,h]
theorem UZ {g:Int->V} (h:Q (g i) H):rU g (.int i) H Q:=#[i,rfl,h]
theorem RX (h:Q (.bl (decide (i=j))) H):rEq (.int i) (.int j) H Q:=#[rfl,by
 have e:decide (V.int i=V.int j)=decide (i=j):=by simp
 rw[e];show h]
theorem RJ (h:Q (.bl (!decide (i=j))) H):rNe (.int i) (.int j) H Q:=#[rfl,by
 have e:decide (V.int i=V.int j)=decide (i=j):=by simp
 rw[e];show h]
theorem OQ (h:t σ H λx H'=>∃k,x=.bl k/\QB k H'):Qg t σ H QB:=h
theorem TY (h:t σ H λx H'=>∃k,x=.bl k/\QB k H'):tB t σ H QB:=h
theorem RZ (h:t σ H λc H1=>if c=true then u σ H1 QB else QB false H1):TC t u σ H QB:=h
theorem T4 (h:t σ H λc H1=>if c=true then QB true H1 else u σ H1 QB):tOr t u σ H QB:=h
theorem RH (h:t σ H λc H1=>QB (!c) H1):Tw t σ H QB:=h
theorem O9 (h:t σ H λx H1=>∃c,x=.bl c/\if c=true then u σ H1 Q else Q (.bl false) H1):Qo t u σ H Q:=h
theorem OU (h:t σ H λx H1=>∃c,x=.bl c/\Q (.bl (!c)) H1):Qi t σ H Q:=h
theorem RQ (h:c σ H λb H1=>if b=true then ta σ H1 Q else tb σ H1 Q):tIf c ta tb σ H Q:=h
theorem Ry (h:QB true H):To σ H QB:=h
theorem RI (h:QA [] H):yX σ H QA:=h
theorem O5 (h:ta σ H λx H1=>tr σ H1 λxs H2=>QA (x :: xs) H2):ji ta tr σ H QA:=h
theorem O7 (h:t σ H λvs H1=>sp vs H1 Q E):Mf sp [] E t σ H Q:=by
 have e:(λvs H1=>sp (vs++[]) H1 Q E)=λvs H1=>sp vs H1 Q E:=by funext vs H1;rw[nC]
 change t σ H λvs H1=>sp (vs++[]) H1 Q E
 rw[e];show h
theorem T7 (h:t σ H λvs H1=>r vs H1 Q):UW r t σ H Q:=h
theorem HQ {K:Xn} (hx:kz K H p xs) (e:IP xs i=some v) (h:Q v H):Sa K (.ref p) (.int i) H Q:=#[p,xs,i,v,rfl,rfl,hx,e,h]
theorem cz {K:Xn} (hx:bN K H p xs) (e:IP xs i=some v) (h:Q v H):Sb K (.ref p) (.int i) H Q:=#[p,xs,i,v,rfl,rfl,hx,e,h]
theorem O3 {K:Xn} (hx:bN K H p xs) (e:IP xs i=some v) (h:Q v H):Qy K (.ref p) (.int i) H Q:=#[p,xs,i,v,rfl,rfl,hx,e,h]
theorem fz (hx:H p=some (.lst xs)) (e:LR xs.9 i=some j) (ey:xs.42 j v=ys) (h:QH (upd H p (.lst ys))):Qx (.ref p) (.int i) v H QH:=#[p,xs,i,j,rfl,rfl,hx,e,by rw[ey];show h]
theorem O1 (h:to σ H λo H1=>ti σ H1 λi H2=>t o i v H2 λH3=>QS σ H3):Ut to ti t v σ H QS:=h
theorem MI (h:t v σ H λσ' H'=>u r σ' H' QS):QK t u (v :: r) σ H QS:=#[v,r,rfl,h]
theorem O2 (h:QS σ H):Uu [] σ H QS:=#[rfl,h]
theorem O0 {K:Xn} (hx:kz K H a xs) (hl:xs.9=n) (h:t xs σ H QS):SJ K n t (.ref a) σ H QS:=#[a,xs,rfl,hx,hl,h]
theorem TZ (h:te σ H λx H1=>tl σ H1 λl H2=>th σ H2 λu H3=>r x l u H3 Q):tSl r te tl th σ H Q:=h
theorem KW (h:QO none H):Jl σ H QO:=h
theorem OT (h:t σ H λx H1=>∃i,x=.int i/\QO (some i) H1):Qh t σ H QO:=h
variable {R:It->Hp->Prop} {K:Xn}
theorem MF (h:tl σ H λx H1=>∃a,x=.ref a/\(∃xs,bN K H1 a xs)/\R (Oe K a) H1):Nk K tl σ H R:=h
theorem OZ (h:tl σ H λx H1=>∃a,x=.ref a/\(∃xs,kz K H1 a xs)/\R (Qa K a) H1):Uq K tl σ H R:=h
theorem ME (h:ta σ H λvs H1=>∃j:Int,vs=[.int j]/\-(2^62)<=j/\j < 2^62/\R (GU 0 j.28) H1):QG ta σ H R:=h
theorem MD (h:ta σ H λvs H1=>∃i j:Int,vs=[.int i,.int j]/\(-(2^62)<=i/\i < 2^62/\-(2^62)<=j/\j < 2^62)/\R (GU i (j - i).28) H1):QF ta σ H R:=h
theorem O6 {g:TG} (e:LP k Ye σ=σ₀) (h:wi σ H λJ H1=>pI J σ₀ g tf te Q H1):EK wi k Ye g tf te σ H Q:=by
 unfold EK;rw[e];show h
theorem OP {g:TG} {NY:V->Hp->Prop} (h:g x σ H λσ2 H2=>tf σ2 H2 λb H3=>if b=true then te σ2 H3 NY else NN H3):o6 σ g tf te x H NY NN:=h
theorem T8 (h:to σ H λx H1=>UU K T x H1/\t σ H1 λxs H2=>r x xs H2 Q):UX K T r to t σ H Q:=h
def UB (Q:VK) (xs:List V) (H:Hp):Prop:=xs.9<=VD/\∀p,H p=none->Q (.ref p) (upd H p (.tup xs))
def UC (Q:VK) (xs:List V) (H:Hp):Prop:=xs.9<=VD/\∀p,H p=none->Q (.ref p) (upd H p (.lst xs))
theorem RC (h:t σ H (UB Q)):Tq t σ H Q:=h
theorem RK (h:t σ H (UC Q)):Tx t σ H Q:=h
theorem jZ (h:Nat.ble n 1000=true):n<=VD:=cP (cV (Nat.le_of_ble_eq_true h))
theorem cb {xs:List V} (h:∀p H',aE H H'->H' p=some (.tup xs)->Q (.ref p) H') (hl:Nat.ble xs.9 1000=true:=by rfl):UB Q xs H :=
 #[jZ hl,λp hp=>h p _ (aE.new hp) aK]
theorem dJ {xs:List V} (h:∀p H',aE H H'->H p=none->H' p=some (.lst xs)->Q (.ref p) H') (hl:Nat.ble xs.9 1000=true:=by rfl):UC Q xs H :=
 #[jZ hl,λp hp=>h p _ (aE.new hp) hp aK]
theorem Um {A B:Prop} (h:B):if (!true)=true then A else B:=Nh h
theorem Uo {A B:Prop} (h:A):if (!false)=true then A else B:=Ul h
def WB (tb:TS) (D:Ends) (Pv:St->Hp->Prop) (μ:St->Hp->Nat) (n:Nat) (σ:St) (H:Hp):Prop:=∃N:St->Hp->Prop,(∀σ' H',N σ' H'->∃m',m' < n/\(m'=μ σ' H'/\Pv σ' H'))/\tb { D with nx:=N,ct:=N,bk:=D.nx } σ H
theorem Qw (h:tb { D with nx:=λσ' H'=>Pv σ' H'/\μ σ' H' < n,ct:=λσ' H'=>Pv σ' H'/\μ σ' H' < n,bk:=D.nx } σ H):WB tb D Pv μ n σ H :=
 #[_,λσ' H' #[p,l]=>#[_,l,rfl,p],h]
theorem Cw (Pv:St->Hp->Prop) (μ:St->Hp->Nat) (h0:Pv σ H) (hs:∀σ H,Pv σ H->c σ H λb H1=>if b=true then WB tb D Pv μ (μ σ H) σ H1 else D.nx σ H1):Me c tb D σ H:=by
 refine #[λm σ H=>m=μ σ H/\Pv σ H,#[_,rfl,h0],?_];rintro m σ H ⟨rfl,p⟩;show hs σ H p
end
def jW (H:Hp) (p:Addr):Prop:=∃(q:Addr) (a b c:Int) (cs:List Int),H p=some (.lst [.int a,.int b,.int c,.ref q])/\H q=some (.lst (cs.11 V.int))/\0<=a/\0<=c/\c<=(cs.9:Int)/\∀x∈cs,(0:Int)<=x
theorem Lz {H:Hp} {cs:List Int} (hp:H p=some (.lst [.int a,.int b,.int c,.ref q])) (hq:H q=some (.lst (cs.11 V.int))):q≠p:=λe=>by
 rw[e,hp] at hq;have h:=HO.lst.inj (cv hq);cases cs with
 | nil=>cases h
 | cons x1 cs=>cases cs with
  | nil=>cases h
  | cons x2 cs=>cases cs with
   | nil=>cases h
   | cons x3 cs=>cases cs with
    | nil=>cases h
    | cons x4 cs=>simp at h
theorem jW.same (h:jW H p) (e:aE H H'):jW H' p:=by obtain q|a|b|c|cs|h1|h2|r:=h;show #[q,a,b,c,cs,e _ _ h1,e _ _ h2,r]
theorem de.tup {H H':Hp} {p r:Addr} {xs:List V} (u:de p H H') (B:jW H p) (h:H r=some (.tup xs)):H' r=some (.tup xs):=by
 obtain q|a|b|c|cs|h1|_:=B;show u.1 r _ h λe=>by rw[e,h1] at h;cases h
theorem de.other (u:de p H H') (n:r≠p) (h:H r=some o):H' r=some o:=u.1 r _ h n
theorem jW.inner (h:jW H p):∃q,Inner H p q/\∃xs,H q=some (.lst xs):=by obtain q|a|b|c|cs|h1|h2|_:=h;show #[q,#[a,b,c,h1],_,h2]
theorem jW.upd (h:jW H p) (hi:Inner H p q) (n1:r≠p) (n2:r≠q):jW (L2.upd H r o) p:=by
 obtain q'|a|b|c|cs|h1|h2|z:=h;have e:q'=q:=Inner.inj #[a,b,c,h1] hi;subst e;show #[q',a,b,c,cs,by rw[bA n1.20];show h1,by rw[bA n2.20];show h2,z]
theorem Inner.upd (hi:Inner H p q) (n1:r≠p):Inner (L2.upd H r o) p q:=by obtain a|b|c|h:=hi;show #[a,b,c,by rw[bA n1.20];show h]
def OG:Sp:=λvs H Q _=>∃p n,vs=[.ref p,.int n]/\jW H p/\0 < n/\n < 2^64/\∀v H',0<=v->v < n->jW H' p->de p H H'->Q (.int v) H'
inductive Ms (K:Xn) (vs:List V) (H:Hp) (Q:VK) (E9:XK):Prop
 | mk (a:Addr) (ns:List Int):vs=[.ref a]->bN K H a (ns.11 V.int)->ns.9<=63->(∀p H',H p=none->jW H' p->aE H H'->Q (.ref p) H')->Ms K vs H Q E9
inductive zg (K:Xn) (vs:List V) (H:Hp) (Q:VK) (E9:XK):Prop
 | mk (a:Addr) (ns:List Int):vs=[.ref a]->bN K H a (ns.11 V.int)->ns.9<=63->(∀H',Q (.bl true) H')->zg K vs H Q E9
def Rm:Sp:=λvs H Q _=>∃t b,vs=[.int t,.int b]/\0 < b/\Sz 8999000 b/\∀r H',aE H H'->H' r=some (.tup [.int (lo t b),.int (hi t b)])->Q (.ref r) H'
def TJ:Sp:=λvs H Q _=>∃a b,vs=[.int a,.int b]/\Q (.int (g a b)) H
def KJ:Sp:=λvs H Q _=>∃t b,vs=[.int t,.int b]/\b≠0/\Sz 8999000 b/\∀r H',aE H H'->H' r=some (.tup [.int (lo (if b < 0 then -t else t) (if b < 0 then -b else b)),.int (hi (if b < 0 then -t else t) (if b < 0 then -b else b))])->Q (.ref r) H'
def QL (a b c d:Int):Int:=a*d+c*b
def ND (a b c d:Int):Int:=a*d - c*b
def NC (a _b c _d:Int):Int:=a*c
def JO (K:Xn) (f:Int->Int->Int->Int->Int):Sp:=λvs H Q _=>∃p q a b c d,vs=[.ref p,.ref q]/\kz K H p [.int a,.int b]/\kz K H q [.int c,.int d]/\0 < b/\0 < d/\Sz 4000000 a/\Sz 4000000 b/\Sz 4000000 c/\Sz 4000000 d /\
 ∀r H',aE H H'->H' r=some (.tup [.int (lo (f a b c d) (b*d)),.int (hi (f a b c d) (b*d))])->Q (.ref r) H'
def OI (K:Xn):Sp:=λvs H Q _=>∃p q a b c d,vs=[.ref p,.ref q]/\kz K H p [.int a,.int b]/\kz K H q [.int c,.int d]/\0 < b/\0 < d/\c≠0/\Sz 4000000 a/\Sz 4000000 b/\Sz 4000000 c/\Sz 4000000 d /\
 ∀r H',aE H H'->H' r=some (.tup [.int (lo (if c < 0 then 0 - a*d else a*d) (if c < 0 then 0 - b*c else b*c)),.int (hi (if c < 0 then 0 - a*d else a*d) (if c < 0 then 0 - b*c else b*c))])->Q (.ref r) H'
theorem bD {F:α->β->Prop}:∀{l1 l1':List α} {l2 l2':List β},Vs F l1 l2->Vs F l1' l2'->Vs F (l1++l1') (l2++l2'):=by
 intro l1 l1' l2 l2' p h
 induction p with
 | nil=>show h
 | cons r t ih=>show .cons r ih
theorem dg {h:Heap} (ha:h.14 a=some o) (hb:h.14 b=some u) (hc:o.cls≠u.cls):a≠b:=λe=>by
 subst e;rw[ha] at hb;cases hb;show hc rfl
theorem nJ (h:a≠b):V6 a≠V6 b:=λe=>h (by injection e)
theorem Bw {z TI TO i1 i2 l1 l2:Addr} (hz:IsZip h z TI TO f0) (YK:WM h TI (.ref i1) (.ref i2)) (Yw:WM h TO a b)
  (h1:h.24 i1 l1 k1) (h2:h.24 i2 l2 k2) (Ys:h.53 l1 xs) (hl2:h.53 l2 ys) (hT:TI≠TO) (hi:i1≠i2):ZipApart z TI TO i1 i2 l1 l2:=by
 obtain o1|g1|c1|_:=h1;obtain o2|g2|c2|_:=h2;obtain p1|q1|d1|_:=Ys;obtain p2|q2|d2|_:=hl2;refine #[dg YK hz ?_,dg Yw hz ?_,dg g1 hz ?_,dg g2 hz ?_,hT,dg YK g1 ?_,dg YK g2 ?_,dg Yw g1 ?_,dg Yw g2 ?_,hi,dg q1 hz ?_,dg q1 Yw ?_,dg q1 g1 ?_,dg q1 g2 ?_,dg q2 hz ?_,dg q2 Yw ?_,dg q2 g1 ?_,dg q2 g2 ?_]
 all_goals first
  | (rw[d1];first | (rw[c1];show nJ ()) | (rw[c2];show nJ ()) | show nJ ())
  | (rw[d2];first | (rw[c1];show nJ ()) | (rw[c2];show nJ ()) | show nJ ())
  | (rw[c1];show nJ ())
  | (rw[c2];show nJ ())
  | show nJ ()
def S8 (K : Xn) (l1 l2 : Addr) : It :=
  #[λi H => ∃ xs ys x y, bN K H l1 xs /\ bN K H l2 ys /\ xs[i]? = some x /\ ys[i]? = some y,
   λi H v H' => ∃ p x y, v = .ref p /\ H p = none /\ H' = upd H p (.tup [x, y]) /\ (∀ xs, bN K H l1 xs → xs[i]? = some x) /\ ∀ ys, bN K H l2 ys → ys[i]? = some y,
   λi H => ∃ xs ys, bN K H l1 xs /\ bN K H l2 ys /\ (xs.9 ≤ i \/ ys.9 ≤ i)]
def tnZ (z TI TO i1 i2 l1 l2:Addr) (i:Nat) (h:Heap):Prop:=IsZip h z TI TO .none/\WM h TI (.ref i1) (.ref i2)/\(∃a b,WM h TO a b)/\h.24 i1 l1 i/\h.24 i2 l2 i
theorem Mb {P:Wa} {w:Wm} {K:Xn} {elts:List Expr} {kk:Nat} {Yp:Pos} (z TI TO i1 i2 l1 l2:Addr) (hT:TI≠TO) (hi:i1≠i2):Turn P w K (.Tuple elts kk Yp) (S8 K l1 l2) [z,TI,TO,i1,i2] z (tnZ z TI TO i1 i2 l1 l2) where
 mem:=by simp
 obj:=λi h st b hb=>by
  obtain hz|YK|⟨a,c,Yw⟩|⟨o1,g1,c1,d1⟩|⟨o2,g2,c2,d2⟩:=st;simp only[aF,aS,or_false] at hb;rcases hb with rfl | rfl | rfl | rfl | rfl
  ·show #[_,hz,λv q=>nomatch q]
  ·show #[_,YK,λv q=>nomatch q]
  ·show #[_,Yw,λv q=>nomatch q]
  ·show #[o1,g1,λv q=>by rw[d1] at q;cases q]
  ·show #[o2,g2,λv q=>by rw[d2] at q;cases q]
 keep:=λi h h' st k=>by
  obtain hz|YK|⟨a,c,Yw⟩|h1|h2:=st;show #[k z (by simp) _ hz,k TI (by simp) _ YK,#[a,c,k TO (by simp) _ Yw],h1.at λo e=>k i1 (by simp) o e,h2.at λo e=>k i2 (by simp) o e]
 item:=by
  intro X hP hw hK hc i Xe s σ H E I hf st hg;subst hP hw hK;obtain hz|YK|⟨a,c,Yw⟩|h1|h2:=st;obtain xs|ys|x|y|qx|qy|ex|ey:=hg;obtain us|rx|px|_:=I.30 qx;obtain ws|ry|py|_:=I.30 qy;obtain u|eu|ru:=rx.get ex;obtain v|ev|rv:=ry.get ey;have D:=Bw hz YK Yw h1 h2 px.19 py.19 hT hi;refine wpAny_pyNext_zip_item D hz YK Yw h1 h2 px.19 py.19 (x:=u) (y:=v) (by simpa using eu) (by simpa using ev) λh' a1 a2 a3 a4 a5 a6 hk=>?_
  refine #[_,rfl,wpAny_letOwnedTupleGo_zip a1 λk! aef hs=>?_];have _e:H s.6=none:=I.Xw.39 (aj _);have zne:s.6≠z:=Ky (Vv hz)
  have up:∀b o,b∉[z,TO,i1,i2]->s.heap.14 b=some o->k!.14 b=some o:=λb o hb e=>by
   simp only[aF,aS,or_false,not_or] at hb;show (hs.2 b hb.1).4 (hk b o hb.1 hb.2.1 hb.2.2.1 hb.2.2.2 e)
  have fx:∀b∈[z,TO,i1,i2],kX X Xe H b:=λb hb=>hf b (by
   simp only[aF,aS,or_false] at hb ⊢;rcases hb with rfl | rfl | rfl | rfl <;> simp)
  have nx:∀b o,H b=some o->b∉[z,TO,i1,i2]:=λb o e hb=>by
   have:=(fx b hb).1;rw[this] at e;cases e
  have nT:∀{b:Addr} {o:HO},H b=some o->b≠s.6:=λe q=>by rw[q,_e] at e;cases e
  have tup:k!.14 s.6=some { cls:=.type "tuple",data:=.seq [u,v].12 }:=(hs.2 _ zne).4 a5
  have I2:Inv X Xe σ (upd H s.heap.objs.35 (.tup [x,y])) { s with heap:=k! }:=by
   refine I.step (g':=s.gens) (d':=s.drawn) (t':=s.27) (ch:=[z,TO,i1,i2]) (λb hb=>?_) (λb o _ _ hb e _=>up b o hb e) (λb o _ _ hb e _=>#[o.slots,up b o hb e]) (λb o hb e n=>?_)
    (λb o hb e=>#[o,up b o hb e]) (λb q e=>by rw[bA (nT e)];show e) (λb o q e=>by rw[bA (nT e)];show e) (λb q e=>#[[].12,by rw[bA (nT e),e];simp]) (λm hm=>?_) (λb o e=>?_) I.bare
   ·obtain _|f1|_|f3|f4|f5:=fx b hb;show #[f3,f1,f4,f5]
   ·rw[bA (cG (Vv e))];show n
   ·obtain o|es|ep|ho|r:=hm;show #[o,es,ep,up _ o (λz=>(fx _ z).2.1 rfl) ho,r]
   ·by_cases hb:b=s.6
    ·subst hb;rw[aK] at e;cases e;show #[jZ rfl,[u,v],.cons ru (.cons rv .nil),#[_,tup,rfl,_,rfl]]
    ·rw[bA hb] at e;refine (I.Xw b o e).Yz (λc v' hc q=>up c v' ?_ q) (λc q=>by rw[bA (nT q)];show q) λc xs q=>by rw[bA (nT q)];show q
     rcases hc with rfl | hc
     ·show nx _ _ e
     ·show nx _ _ hc
  refine #[.ref s.6,_,I2,rfl,#[_,x,y,rfl,_e,rfl,λxs' q=>by rw[I.XE q qx];show ex,λYc q=>by rw[I.XE q qy];show ey],?_,λb hb=>?_]
  ·refine #[aef,(hs.2 _ D.TIz).4 (hk _ _ D.TIz D.TITO D.TIi1 D.TIi2 YK),#[_,_,(hs.2 _ D.TOz).4 a2],a3.at λo e=>(hs.2 _ D.i1z).4 e,a4.at λo e=>(hs.2 _ D.i2z).4 e]
  ·obtain ⟨o,e,_⟩:∃o,s.heap.14 b=some o/\True:=by
    obtain o1|g1|_:=h1;obtain o2|g2|_:=h2;simp only[aF,aS,or_false] at hb;rcases hb with rfl | rfl | rfl | rfl | rfl
    ·show #[_,hz,trivial]
    ·show #[_,YK,trivial]
    ·show #[_,Yw,trivial]
    ·show #[_,g1,trivial]
    ·show #[_,g2,trivial]
   rw[bA (cG (Vv e))];show (hf b hb).1
 done:=by
  intro X hP hw hK hc i Xe s σ H E I hf st hg;subst hP hw hK;obtain hz|YK|⟨a,c,Yw⟩|h1|h2:=st;obtain xs|ys|qx|qy|aaZ:=hg;obtain us|rx|px|_:=I.30 qx;obtain ws|ry|py|_:=I.30 qy;have lx:=rx.9;have ly:=ry.9;have D:=Bw hz YK Yw h1 h2 px.19 py.19 hT hi
  refine wpAny_pyNext_zip_end (I.ok.hd hc) D hz YK Yw h1 h2 px.19 py.19 (by
   rcases aaZ with q | q
   ·show .inl (by simp;lia)
   ·show .inr (by simp;lia)) λh' hk=>#[rfl,?_]
  have up:∀b o,b∉[z,TO,i1,i2]->s.heap.14 b=some o->h'.14 b=some o:=λb o hb e=>by
   simp only[aF,aS,or_false,not_or] at hb;show hk b o hb.1 hb.2.1 hb.2.2.1 hb.2.2.2 e
  have fx:∀b∈[z,TO,i1,i2],kX X Xe H b:=λb hb=>hf b (by
   simp only[aF,aS,or_false] at hb ⊢;rcases hb with rfl | rfl | rfl | rfl <;> simp)
  have nx:∀b o,H b=some o->b∉[z,TO,i1,i2]:=λb o e hb=>by
   have:=(fx b hb).1;rw[this] at e;cases e
  refine I.step (g':=s.gens) (d':=s.drawn) (t':=s.27) (ch:=[z,TO,i1,i2]) (λb hb=>?_) (λb o _ _ hb e _=>up b o hb e) (λb o _ _ hb e _=>#[o.slots,up b o hb e]) (λb o hb e n=>n)
   (λb o hb e=>#[o,up b o hb e]) (λb q e=>e) (λb o q e=>e) (λb q e=>#[[].12,by rw[e];simp]) (λm hm=>?_) (λb o e=>?_) I.bare
  ·obtain _|f1|_|f3|f4|f5:=fx b hb;show #[f3,f1,f4,f5]
  ·obtain o|es|ep|ho|r:=hm;show #[o,es,ep,up _ o (λz=>(fx _ z).2.1 rfl) ho,r]
  ·refine (I.Xw b o e).Yz (λc v' hc q=>up c v' ?_ q) (λc q=>q) λc xs q=>q
   rcases hc with rfl | hc
   ·show nx _ _ e
   ·show nx _ _ hc
 self:=λ_ _ _ _ _ st h=>wpAny_pyIter_zip st.1 h
section
variable {X:Cx}
def SH (K:Xn) (ta:TA):TI:=λσ H R=>ta σ H λvs H1=>∃l1 l2,vs=[.ref l1,.ref l2]/\(∃xs,bN K H1 l1 xs)/\(∃ys,bN K H1 l2 ys)/\R (S8 K l1 l2) H1
theorem yJ {a b:Expr} {ta:TA} {p pos Yp:Pos} {elts:List Expr} {kk:Nat} (hg:Gl X "zip") (hm:X.mg "zip"=none) (ha:PA X [a,b] ta) (hs:Vu [a,b] X.16=[(false,eval a X.16),(false,eval b X.16)]:=by rfl) (Zl:Vu [b] X.16=[(false,eval b X.16)]:=by rfl) :
  PI X (.Tuple elts kk Yp) (.Call (.Name "zip" p) [a,b] [] pos) (SH X.K ta):=by
 intro Xe s σ H R I h;refine Call_ (kS I hg hm boot_zip (VI (gX (ha pos Xe s σ H _ I h) λus s1 hz=>?_) (by rw[hs,Zl]) (by rw[Zl];rfl)));obtain vs|H1|I1|r1|q1:=hz;obtain l1|l2|e|⟨xs,qx⟩|⟨ys,qy⟩|q:=q1;subst e;obtain u|v|rfl|ru|rv:=vals2 r1;cases ru;cases rv;obtain us|rx|px|_:=I1.30 qx;obtain ws|ry|py|_:=I1.30 qy;refine call_zip_2 px.19 py.19 λh' a1 a2 a3 a4 a5 a6 hk=>wpAny_pyIter_zip a1 ?_
 have I2:Inv X Xe σ H1 { s1 with heap:=h' }:=I1.59 (t':=s1.27) hk;refine #[_,[s1.6+4,s1.6+2,s1.6+3,s1.6,s1.6+1],_,_,H1,rfl,I2,Mb (s1.6+4) (s1.6+2) (s1.6+3) s1.heap.objs.35 (s1.6+1) l1 l2 (cG (dr _)) (cG (dr _)),#[a1,a2,#[_,_,a3],a4,a5],λb hb=>?_,q]
 have Y5:s1.6<=b:=by
  simp only[aF,aS,or_false] at hb;rcases hb with rfl | rfl | rfl | rfl | rfl <;> first | show i8 _ _ | show aj _
 show I1.Yt Y5 (I1.Xw.39 Y5)
theorem Ar (hc:X.calm=true):rB X (.builtin "all") (λxs H Q=>∃(p:Addr) (bs:List Bool),xs=[.ref p]/\bN X.K H p (bs.11 V.bl)/\Q (.bl (bs.all id)) H):=by
 intro Xe s σ H xs us Q I r h;obtain p|bs|rfl|hp|q:=h;obtain u|rfl|ru:=vals1 r;cases ru;obtain vs|rv|pl|hz:=I.30 hp
 have hb:PyProof.Rows.LSm.BoolsAre vs bs:=by
  clear q hp pl hz
  induction bs generalizing vs with
  | nil=>cases rv;show .nil
  | cons b bs ih =>
   rw[iB] at rv;cases rv with
   | cons r1 r2=>cases r1;show .cons b (ih _ r2)
 have XB:p < s.6:=by obtain _|e|_:=pl.19;show Vv e
 refine call_all_walk (WW pl.19 ?_)
 refine #[s.6,[s.6,p],[s.6],vs.5.7,_,_,λi=>(bs[i]?).3 true,rfl,Walks.list (A:=X.A.in1) (I.ok.hd hc) _ p (cG XB) vs.5,
  #[#[_,VG _ rfl,rfl,rfl],pl.isList.25 _],λi v s' Q' E' hP hQ=>?_,λh' tk hk=>?_]
 ·obtain b|e|rfl:=hb.get i v (by simpa using hP);simp only[e,Option.getD_some] at hQ;show WE hQ
 ·have e:((Vt vs.5.7).all λi=>(bs[i]?).3 true)=bs.all id:=by
   rw[aX,hb.9];show PyProof.Rows.LSm.range_all bs
  rw[e];show #[.bl _,H,I.59 (t':=tk) (PyProof.Rows.LSm.kept_iter hk),rfl,q]
theorem NU (hc:X.calm=true):rB X (.builtin "sum") (λxs H Q=>∃(p:Addr) (ns:List Int),xs=[.ref p]/\bN X.K H p (ns.11 V.int)/\Q (.int ns.sum) H):=by
 intro Xe s σ H xs us Q I r h;obtain p|ns|rfl|hp|q:=h;obtain u|rfl|ru:=vals1 r;cases ru;obtain vs|rv|pl|_:=I.30 hp;have hi:IntsAre vs ns:=intsAre_of rv;obtain xs|hx:=hi.allInts.items;have YQ:s.heap.53 p (intItems xs):=hx ▸ pl.19;refine sum_intListG (I.ok.hd hc) YQ λh' tk t' hk=>?_
 have e1:ns=xs.toList.11 (·.1):=by
  rw[<- nums_intItems,<- hx];show (show numsOf vs.toArray.toList=ns from hi.numsOf).20
 have e2:preSum (numAt xs) xs.7=ns.sum:=by
  rw[preSum_eq,aH (by simp),e1]
 rw[e2];show #[.int _,H,I.59 (t':=tk) hk,#[_,rfl],q]
end
section
variable {K:Xn} {g:TG}
theorem Ap (Pv:Nat->List V->Hp->Prop) (hz:xs.9<=VD) (hw:ws.9=xs.9) (h0:Pv 0 [] H) (hl:∀i ys H,i<=xs.9->Pv i ys H->bN K H l1 xs/\bN K H l2 ws)
  (hs:∀i x y ys H p,xs[i]?=some x->ws[i]?=some y->ys.9<=i->Pv i ys H->H p=none->o6 σ₀ g tf te (.ref p) (upd H p (.tup [x,y])) (λy H'=>Pv (i+1) (ys++[y]) H') (λH'=>Pv (i+1) ys H'))
  (hd:∀ys H,ys.9<=xs.9->Pv xs.9 ys H->∀p,H p=none->Q (.ref p) (upd H p (.lst ys))):pI (S8 K l1 l2) σ₀ g tf te Q H:=by
 refine #[λi m ys H=>m=xs.9 - i/\i<=xs.9/\ys.9<=i/\Pv i ys H,#[xs.9,by simp,be _,be _,h0],?_];rintro i m ys H ⟨rfl,hi,hy,p⟩;obtain q1|q2:=hl i ys H hi p;by_cases XB:i < xs.9
 ·refine .inr #[#[xs,ws,xs[i],ws[i]'(),q1,q2,by simp [XB],by simp],(),λy H'=>Pv (i+1) (ys++[y]) H',λH'=>Pv (i+1) ys H',λy H' p'=>#[xs.9 - (i+1),(),rfl,XB,by rw[ai,a9];lia,p'],λH' p'=>#[xs.9 - (i+1),(),rfl,XB,(),p'],λx H' y=>?_];obtain r|x'|y'|rfl|hr|rfl|e1|e2:=y;show hs i x' y' ys _ r (e1 xs q1) (e2 ws q2) hy p hr
 ·have e:i=xs.9:=()
  subst e;show .inl #[#[xs,ws,q1,q2,.inl (aj _)],(),hd ys H hy p]
theorem Px {tb:TS} {D:Ends} (Pv:Nat->St->Hp->Prop) (hw:ws.9=xs.9) (h0:Pv 0 σ H) (hl:∀i σ H,i<=xs.9->Pv i σ H->bN K H l1 xs/\bN K H l2 ws)
  (hs:∀i x y σ H p,xs[i]?=some x->ws[i]?=some y->Pv i σ H->H p=none->g (.ref p) σ (upd H p (.tup [x,y])) λσ2 H2=>tb { D with nx:=Pv (i+1),ct:=Pv (i+1),bk:=D.nx } σ2 H2) (hd:∀σ H,Pv xs.9 σ H->D.nx σ H) :
  ∃W:Nat->Nat->St->Hp->Prop,(∃m,W 0 m σ H)/\∀i m σ H,W i m σ H →
   ((S8 K l1 l2).stop i H/\D.nx σ H)\/((S8 K l1 l2).go i H/\∃N:St->Hp->Prop,(∀σ' H',N σ' H'->∃m',m' < m/\W (i+1) m' σ' H')/\∀x H',(S8 K l1 l2).ZQ i H x H'->g x σ H' λσ2 H2=>tb { D with nx:=N,ct:=N,bk:=D.nx } σ2 H2):=by
 refine #[λi m σ H=>m=xs.9 - i/\i<=xs.9/\Pv i σ H,#[xs.9,by simp,be _,h0],?_];rintro i m σ H ⟨rfl,hi,p⟩;obtain q1|q2:=hl i σ H hi p;by_cases XB:i < xs.9
 ·refine .inr #[#[xs,ws,xs[i],ws[i]'(),q1,q2,by simp [XB],by simp],Pv (i+1),λσ' H' p'=>#[xs.9 - (i+1),(),rfl,XB,p'],λx H' y=>?_];obtain r|x'|y'|rfl|hr|rfl|e1|e2:=y;show hs i x' y' σ _ r (e1 xs q1) (e2 ws q2) p hr
 ·have e:i=xs.9:=()
  subst e;show .inl #[#[xs,ws,q1,q2,.inl (aj _)],hd σ H p]
end
section
variable {X:Cx}
theorem vo (K:Xn) (n:Nat) {es:List Expr} {k:Nat} {pos:Pos} {t:LX} (h:Tg X es t) (hK:X.K=K:=by rfl) (hc:X.calm=true:=by rfl)
  (hn:(Wz es X.16).9=n:=by rfl) (E!:(Wz es X.16).findIdx? (·.1)=none:=by rfl):PG X (.Tuple es k pos) (SJ K n t):=by subst hK;show zH hc h hn E!
theorem vH (K:Xn) (hK:X.K=K):UD X (Sa K):=by subst hK;show bW
theorem gG (K:Xn) (hK:X.K=K):UD X (Sb K):=by subst hK;show bV
theorem Dd (K:Xn) (hK:X.K=K) (hu:X.A.50+50 < cLine):xT X (We .NotEq) (Ub K):=by subst hK;show uJ hu
theorem vn (K:Xn) {tg l:Expr} {tl:TE} (hl:PE X l tl) (hK:X.K=K:=by rfl):PI X tg l (Nk K tl):=by subst hK;show cg hl
theorem zo (K:Xn) (hK:X.K=K):Vg X (R4 K):=by subst hK;show CI
end
theorem eL {X:Cx} {e e':Expr} {es:List Expr} {te:TE} {t:TA} (h:e=e') (ha:PE X e' te) (hr:PA X es t) (hs:∀l,Vu (e' :: l) X.16=(false,eval e' X.16) :: Vu l X.16:=by intro _;rfl):PA X (e :: es) (ji te t):=by subst h;show fI ha hr (hs _)
theorem jQ (hl:H l=some (.lst xs)) (hz:xs.9 < VD) (h:Q .Xy (upd H l (.lst (xs++[y])))):JU (.ref l) [y] H Q:=#[l,xs,y,rfl,rfl,hl,hz,h]
theorem OY {K:Xn} (h:ta σ H λvs H1=>∃l1 l2,vs=[.ref l1,.ref l2]/\(∃xs,bN K H1 l1 xs)/\(∃ys,bN K H1 l2 ys)/\R (S8 K l1 l2) H1):SH K ta σ H R:=h
theorem gC (h1:H l=some (.lst xs)) (h2:H b=some (.lst zs)) (hz:xs.9+zs.9<=VD) (h:∀p H',aE H H'->H p=none->H' p=some (.lst (xs++zs))->Q (.ref p) H'):Ud (.ref l) (.ref b) H Q :=
 #[l,b,xs,zs,rfl,rfl,h1,h2,hz,λp hp=>h p _ (aE.new hp) hp aK]
theorem C3 {K:Xn} {lo hi:Option Int} (h1:bN K H a xs) (h:∀p H',aE H H'->H p=none->H' p=some (.lst (tJ xs lo hi))->Q (.ref p) H'):R4 K (.ref a) lo hi H Q :=
 #[a,xs,rfl,h1,λp hp=>h p _ (aE.new hp) hp aK]
theorem nX {xs:List α} {i:Int} (h0:0<=i) (h1:i < xs.9):∃v,IP xs i=some v/\v∈xs/\xs[i.28]?=some v:=by
 have hj:i.28 < xs.9:=()
 refine #[xs[i.28],?_,aG hj,by simp [hj]];have:=ee (xs:=xs) (j:=i.28) (v:=xs[i.28]) (by simp [hj]);rwa [Int.toNat_of_nonneg h0] at this
theorem cM {F:α->β->Prop}:∀{l1:List α} {l2:List β} {y:β},Vs F l1 l2->y∈l2->∃x∈l1,F x y:=by
 intro l1 l2 y p h
 induction p with
 | nil=>cases h
 | cons r t ih =>
  rcases aF.mp h with rfl | h
  ·show #[_,cC,r]
  ·obtain x|hx|q:=ih h;show #[x,bP _ hx,q]
theorem cN {F:α->β->Prop} {l1:List α} {l2:List β} {i:Nat} {y:β} (h:Vs F l1 l2) (e:l2[i]?=some y):∃x,l1[i]?=some x/\F x y:=by
 have hl:=h.9;have hi:i < l2.9:=(aB.mp e).1;refine #[l1[i]'(),by simp,?_];have:=kL h (i:=i) () hi;have e2:l2[i]=y:=(aB.mp e).2;rwa [e2] at this
def v5 (n:Int×Int):Prop:=0 < n.2/\VY n.1 n.2=1/\Sz 8000000 n.1/\Sz 8000000 n.2
theorem take_snoc {α:Type} {l:List α} {v:α} (h:l[i]?=some v):l.21 (i+1)=l.21 i++[v]:=by rw[List.take_add_one,h];rfl
theorem aE.after (s:aE H H') (h:H r=Wh):aE H (upd H' r o):=λb u e=>by rw[bA (fV e h)];show s b u e
theorem de.after (s:de b H H') (h:H r=Wh):de b H (upd H' r o):=#[λc u e n=>by rw[bA (fV e h)];show s.1 c u e n,λq hi=>(s.2 q hi).upd λz=>by obtain _|_|_|e:=hi;rw[<- z,h] at e;cases e]
theorem de.same (s:de b H H') (e:aE H' YS):de b H YS:=s.4 e.Xs
theorem D9 {α:Type} {Pr:α->Prop} {l:List α} {a:α} (h:∀n∈l,Pr n) (ha:Pr a):∀n∈l++[a],Pr n:=λn hn=>by
 rcases ao.mp hn with hn | hn
 ·show h n hn
 ·have e:n=a:=by simpa using hn
  rw[e];show ha
abbrev Az (h:Heap) (z TI TO:Addr) (f0 f1:Value):Prop:=h.14 z=some { cls:=.type "zip",dict:=none,data:=.fields [f0,f1,.bool false,.ref TI,.ref TO].12,slots:=[].12 }
theorem IQ (e:s.heap.14 a=some o) (h:Q (some o) s):VC (model prog w) A (loadIfAlive a) Q E s:=by
 intro Γ p hp;change Sem.wp _ _ (.loadIfAlive a .pure) _ _ _ _
 simp only[Sem.wp_loadIfAlive,e];show VB h Γ p hp
theorem zN {z TI TO T:Addr} (zr:Az s.26 z TI TO (rawInt T) (.bool b1)) (al:s.heap.14 T=some o)
  (h:∀h',Az h' z TI TO (rawInt T) (.bool true)->WS z s.26 h'->Q false { s with heap:=h' }):VC (model prog w) A (VU (.ref z)) Q E s:=by
 unfold VU;refine K0 (Xc zr rfl (x:=rawInt T) rfl ?_);refine K0 (IQ (a:=T) al ?_);refine K0 (Xc zr rfl (x:=.bool b1) rfl ?_);cases b1 with
 | true=>show VB (h _ zr (.refl ..))
 | false=>show K0 (wpAny_setField_rec zr (by simp) λh' zr' sb=>VB (h h' zr' sb))
theorem La {z TI TO T i1 i2 l1 l2:Addr} {Q:Value->Vr->Prop} (D:ZipApart z TI TO i1 i2 l1 l2) (zr:Az s.26 z TI TO (rawInt T) (.bool b1)) (al:s.heap.14 T=some o)
  (pt:WM s.26 TI (.ref i1) (.ref i2)) (j1:s.heap.24 i1 l1 k1) (j2:s.heap.24 i2 l2 k2) (m1:s.heap.53 l1 us) (m2:s.heap.53 l2 ws) (eu:us[k1]?=some u) (ev:ws[k2]?=some v)
  (hQ:∀h',Az h' z TI TO (rawInt T) (.bool true)->h'.24 i1 l1 (k1+1)->h'.24 i2 l2 (k2+1)->WM h' s.heap.objs.35 u v->(∀c o,c≠z->c≠i1->c≠i2->s.heap.14 c=some o->h'.14 c=some o)->Q (.ref s.6) { s with heap:=h' }) :
  VC (model prog w) A (WA.«zip.__next__» #[[.ref z],[]]) (λfin s'=>∃v,fin=.done (.ret v)/\Q v s') E s:=by
 change VC _ _ (field (Vy z) 2 >>= _) _ _ s
 refine K0 (Xc zr rfl (x:=.bool false) rfl ?_)
 change VC _ _ (field (Vy z) 3 >>= _) _ _ s
 refine K0 (Xc zr rfl (x:=.ref TI) rfl (K0 (wpAny_seqItems pt rfl ?_)))
 change VC _ _ (VU (Vy z) >>= _) _ _ s
 refine K0 (zN zr al λg1 zr1 ZR=>?_);simp only[fh,if_false];refine K0 ?_;rw[<- Array.forIn_toList];simp only[Oi,Cu];have j1':=j1.31 ZR.31 D.i1z;have m1':=m1.31 ZR.31 D.l1z;refine K0 (K0 (VS ?_))
 change VC _ _ (WJ (Vy i1) >>= _) _ _ _
 refine K0 (wpAny_nextOf_list_item j1' m1' eu λg2 j1a X!=>VB ?_);refine VB ?_;have j2':=(j2.31 ZR.31 D.i2z).31 X!.31 D.i12.20;have m2':=(m2.31 ZR.31 D.l2z).31 X!.31 D.l2i1;refine K0 (K0 (VS ?_))
 change VC _ _ (WJ (Vy i2) >>= _) _ _ _
 refine K0 (wpAny_nextOf_list_item j2' m2' ev λg3 j2a sb3=>VB ?_);refine VB (VB ?_);refine K0 (wpAny_newTuple (hsz:=jZ rfl) ?_);have sz:g3.objs.7=s.6:=by rw[sb3.1,X!.1,ZR.1]
 have up:∀c o,c≠z->c≠i1->c≠i2->s.heap.14 c=some o->g3.14 c=some o:=λc o c1 c2 c3 e=>sb3.31 _ _ c3 (X!.31 _ _ c2 (ZR.31 _ _ c1 e))
 have zr3:Az g3 z TI TO (rawInt T) (.bool true):=sb3.31 _ _ D.i2z.20 (X!.31 _ _ D.i1z.20 zr1);refine VB #[_,rfl,?_]
 change Q (.ref g3.objs.7) { s with heap:=g3.25 { cls:=.type "tuple",data:=.seq [u,v].12 } }
 have last:=hQ (g3.25 { cls:=.type "tuple",data:=.seq [u,v].12 }) (Vq _ zr3) ((j1a.31 sb3.31 D.i12).at λo e=>Vq _ e) (j2a.at λo e=>Vq _ e)
  (by rw[<- sz];show VG _ rfl) λc o c1 c2 c3 e=>Vq _ (up c o c1 c2 c3 e)
 rw[sz];show last
theorem MZ {z TI TO T i1 i2 l1 l2:Addr} (hh:A.handled=none) (D:ZipApart z TI TO i1 i2 l1 l2) (zr:Az s.26 z TI TO (rawInt T) (.bool b1)) (al:s.heap.14 T=some o)
  (pt:WM s.26 TI (.ref i1) (.ref i2)) (j1:s.heap.24 i1 l1 k1) (m1:s.heap.53 l1 us) (eu:us[k1]?=none)
  (hE:∀h' e,(∀c o,c≠z->c≠i1->c≠i2->s.heap.14 c=some o->h'.14 c=some o)->(∃o,h'.14 e=some o/\o.cls=.type "StopIteration")->E (.ref e) { s with heap:=h' }) :
  VC (model prog w) A (WA.«zip.__next__» #[[.ref z],[]]) Q E s:=by
 change VC _ _ (field (Vy z) 2 >>= _) _ _ s
 refine K0 (Xc zr rfl (x:=.bool false) rfl ?_)
 change VC _ _ (field (Vy z) 3 >>= _) _ _ s
 refine K0 (Xc zr rfl (x:=.ref TI) rfl (K0 (wpAny_seqItems pt rfl ?_)))
 change VC _ _ (VU (Vy z) >>= _) _ _ s
 refine K0 (zN zr al λg1 zr1 ZR=>?_);simp only[fh,if_false];refine K0 ?_;rw[<- Array.forIn_toList];simp only[Oi,Cu];refine K0 (K0 (VS ?_))
 change VC _ _ (WJ (Vy i1) >>= _) _ _ _
 show K0 (wpAny_nextOf_list_end hh (j1.31 ZR.31 D.i1z) (m1.31 ZR.31 D.l1z) eu λg2 e xb he=>hE g2 e (λc o c1 c2 _ q=>xb _ _ c2 (ZR.31 _ _ c1 q)) he)
theorem K9 {z TI TO T i1 i2 l1 l2:Addr} (D:ZipApart z TI TO i1 i2 l1 l2) (zr:Az s.26 z TI TO (rawInt T) (.bool b1)) (al:s.heap.14 T=some o)
  (pt:WM s.26 TI (.ref i1) (.ref i2)) (j1:s.heap.24 i1 l1 k1) (j2:s.heap.24 i2 l2 k2) (m1:s.heap.53 l1 us) (m2:s.heap.53 l2 ws) (eu:us[k1]?=some u) (ev:ws[k2]?=some v)
  (hQ:∀h',Az h' z TI TO (rawInt T) (.bool true)->h'.24 i1 l1 (k1+1)->h'.24 i2 l2 (k2+1)->WM h' s.heap.objs.35 u v->(∀c o,c≠z->c≠i1->c≠i2->s.heap.14 c=some o->h'.14 c=some o)->Q (some (.ref s.6)) { s with heap:=h' }) :
  VC (model prog w) A (pyNext (.ref z)) Q E s:=by
 have ty:s.TypeIs (.ref z) "zip":=#[_,zr,rfl];unfold pyNext;refine K0 (wpAny_attempt (wpAny_callSpecial?_slot (name:=Str.ofString "__next__") ty pJ (wpAny_call_entry pJ ty PySem.F.entry_zip_next ?_ (UH _))));show La D zr al pt j1 j2 m1 m2 eu ev λh' a1 a2 a3 a4 a5=>VB (hQ h' a1 a2 a3 a4 a5)
theorem K8 {z TI TO T i1 i2 l1 l2:Addr} (hh:A.handled=none) (D:ZipApart z TI TO i1 i2 l1 l2) (zr:Az s.26 z TI TO (rawInt T) (.bool b1)) (al:s.heap.14 T=some o)
  (pt:WM s.26 TI (.ref i1) (.ref i2)) (j1:s.heap.24 i1 l1 k1) (m1:s.heap.53 l1 us) (eu:us[k1]?=none)
  (hQ:∀h',(∀c o,c≠z->c≠i1->c≠i2->s.heap.14 c=some o->h'.14 c=some o)->Q none { s with heap:=h' }):VC (model prog w) A (pyNext (.ref z)) Q E s:=by
 have ty:s.TypeIs (.ref z) "zip":=#[_,zr,rfl];unfold pyNext;refine K0 (wpAny_attempt (wpAny_callSpecial?_slot (name:=Str.ofString "__next__") ty pJ (wpAny_call_entry pJ ty PySem.F.entry_zip_next ?_ (UH _))));refine MZ hh D zr al pt j1 m1 eu λh' e kk hz=>?_
 obtain oe|he|hc:=hz;show K0 (wpAny_isInstance (T:="StopIteration") (b:=true) #[oe,he,hc] isSubtype_stop (VB (hQ _ kk)))
section
variable {σ:St}
theorem Inv.moved {ch:List Addr} (I:Inv X Xe σ H s) (fx:∀b∈ch,kX X Xe H b) (up:∀b o,b∉ch->s.heap.14 b=some o->h'.14 b=some o) (hg:AllBare g') :
  Inv X Xe σ H { s with heap:=h',gens:=g',drawn:=d',toks:=t' }:=by
 have nx:∀b o,H b=some o->b∉ch:=λb o e hb=>by have:=(fx b hb).1;rw[this] at e;cases e
 refine I.step (ch:=ch) (λb hb=>?_) (λb o _ _ hb e _=>up b o hb e) (λb o _ _ hb e _=>#[o.slots,up b o hb e]) (λb o hb e n=>n) (λb o hb e=>#[o,up b o hb e]) (λb q e=>e) (λb o q e=>e) (λb q e=>#[[].12,by rw[e];simp]) (λm hm=>?_) (λb o e=>?_) hg
 ·obtain _|f1|_|f3|f4|f5:=fx b hb;show #[f3,f1,f4,f5]
 ·obtain o|es|ep|ho|r:=hm;show #[o,es,ep,up _ o (λz=>(fx _ z).2.1 rfl) ho,r]
 ·refine (I.Xw b o e).Yz (λc v' hc q=>up c v' ?_ q) (λc q=>q) λc xs q=>q
  rcases hc with rfl | hc
  ·show nx _ _ e
  ·show nx _ _ hc
theorem Inv.Zu (I:Inv X Xe σ H s) (fp:kX X Xe H p) (new:gL X.18 X.w (upd H p o) s.26 p o):Inv X Xe σ (upd H p o) s:=by
 have nt:∀{b:Addr} {u:HO},H b=some u->b≠p:=λe z=>by rw[z,fp.1] at e;cases e
 refine I.step (h':=s.8) (g':=s.gens) (d':=s.drawn) (t':=s.27) (ch:=[p]) (λb hb=>?_) (λb o _ _ _ e _=>e) (λb o _ _ _ e _=>#[o.slots,e]) (λb o hb e n=>?_) (λb o _ e=>#[o,e]) (λb q e=>by rw[bA (nt e)];show e) (λb o q e=>by rw[bA (nt e)];show e)
  (λb q e=>#[[].12,by rw[bA (nt e),e];simp]) (λm hm=>hm) (λb u e=>?_) I.bare
 ·have e:b=p:=by simpa using hb
  subst e;obtain _|f1|_|f3|f4|f5:=fp;show #[f3,f1,f4,f5]
 ·rw[bA λz=>hb (by simp [z])];show n
 ·by_cases hb:b=p
  ·subst hb;rw[aK] at e;cases e;show new
  ·rw[bA hb] at e;show (I.Xw b u e).Yz (λc v _ q=>q) (λc q=>by rw[bA (nt q)];show q) λc xs q=>by rw[bA (nt q)];show q
end
def QR (H:Hp) (p:V×V) (x:V):Prop:=∃T,x=.ref T/\H T=some (.tup [p.1,p.2])
theorem QR.same (h:QR H p x) (e:aE H H'):QR H' p x:=by obtain T|q|g:=h;show #[T,q,e _ _ g]
def Zst (h:Heap) (z TI TO:Addr) (base:Nat):Prop:=(∃a b,WM h TO a b)/\(IsZip h z TI TO .none\/∃(T:Addr) (b1:Bool) (o:Obj),Az h z TI TO (rawInt T) (.bool b1)/\h.14 T=some o/\@LE.le Nat instLENat base T)
theorem Cv {z TI TO i1 i2 l1 l2:Addr} (hz:Az h z TI TO f0 f1) (YK:WM h TI (.ref i1) (.ref i2)) (Yw:WM h TO a b) (h1:h.24 i1 l1 k1) (h2:h.24 i2 l2 k2) (Ys:h.53 l1 xs) (hl2:h.53 l2 ys) (hT:TI≠TO) (hi:i1≠i2):ZipApart z TI TO i1 i2 l1 l2:=by
 obtain o1|g1|c1|_:=h1;obtain o2|g2|c2|_:=h2;obtain p1|q1|d1|_:=Ys;obtain p2|q2|d2|_:=hl2;have zt:V6 "zip"≠.type "tuple":=nJ ();have it:V6 "list_iterator"≠.type "tuple":=nJ ();have iz:V6 "list_iterator"≠.type "zip":=nJ ();have lz:V6 "list"≠.type "zip":=nJ ();have lt:V6 "list"≠.type "tuple":=nJ ();have li:V6 "list"≠.type "list_iterator":=nJ ()
 show #[dg YK hz zt.20,dg Yw hz zt.20,dg g1 hz (by rw[c1];show iz),dg g2 hz (by rw[c2];show iz),hT,dg YK g1 (by rw[c1];show it.20),dg YK g2 (by rw[c2];show it.20),dg Yw g1 (by rw[c1];show it.20),dg Yw g2 (by rw[c2];show it.20),hi,
  dg q1 hz (by rw[d1];show lz),dg q1 Yw (by rw[d1];show lt),dg q1 g1 (by rw[d1,c1];show li),dg q1 g2 (by rw[d1,c2];show li),dg q2 hz (by rw[d2];show lz),dg q2 Yw (by rw[d2];show lt),dg q2 g1 (by rw[d2,c1];show li),dg q2 g2 (by rw[d2,c2];show li)]
section
variable {X:Cx} {Xe:List (Addr×Obj)} {σ:St}
theorem kX.heap (f:kX X Xe H b) (e:H' b=none):kX X Xe H' b:=#[e,f.2]
structure Es where
 z:Addr
 TI:Addr
 TO:Addr
 i1:Addr
 i2:Addr
 S:Addr
 base:Nat
def Es.all (a:Es):List Addr:=[a.z,a.TI,a.TO,a.i1,a.i2,a.S]
structure Es.Ok (a:Es):Prop where
 tt:a.TI≠a.TO
 ii:a.i1≠a.i2
 Sz:a.S≠a.z
 STI:a.S≠a.TI
 STO:a.S≠a.TO
 Si1:a.S≠a.i1
 Si2:a.S≠a.i2
 lt:∀b∈a.all,@LT.lt Nat instLTNat b a.49
structure P9 (X:Cx) (Xe:List (Addr×Obj)) (σ:St) (H1:Hp) (a:Es) (l1 l2:Addr) (i:Nat) (H:Hp) (s:Vr):Prop where
 inv:Inv X Xe σ H s
 same:aE H1 H
 _g:∀b∈a.all,kX X Xe H b
 sz:a.49<=s.heap.objs.35
 O!:Zst s.26 a.z a.TI a.TO a.49
 pt:WM s.26 a.TI (.ref a.i1) (.ref a.i2)
 j1:s.heap.24 a.i1 l1 i
 j2:s.heap.24 a.i2 l2 i
variable {a:Es} {l1 l2:Addr} {H1 H:Hp} {s:Vr} {i:Nat} {xs ys:List V}
theorem P9.push (L:P9 X Xe σ H1 a l1 l2 i H s) (O:a.Ok) (k:∀b o,b≠a.S->s.heap.14 b=some o->h'.14 b=some o) (hz:h'.objs.7=s.6):P9 X Xe σ H1 a l1 l2 i H { s with heap:=h' }:=by
 refine #[L.inv.moved (g':=s.gens) (d':=s.drawn) (t':=s.27) (ch:=[a.S]) (λb hb=>?_) (λb o hb e=>k b o (λz=>hb (by simp [z])) e) L.inv.bare,L.10,L._g,by change a.49<=h'.objs.7;rw[hz];show L.sz,?_,k _ _ O.STI.20 L.pt,L.j1.at λo e=>k _ o O.Si1.20 e,L.j2.at λo e=>k _ o O.Si2.20 e]
 ·have e:b=a.S:=by simpa using hb
  rw[e];show L._g _ (by simp [Es.all])
 ·obtain ⟨c,d,z0⟩|z4:=L.O!;refine #[#[c,d,k _ _ O.STO.20 z0],?_];rcases z4 with z1 | ⟨T,b1,o,z1,z2,z3⟩
  ·show .inl (k _ _ O.Sz.20 z1)
  ·refine .inr #[T,b1,o,k _ _ O.Sz.20 z1,k _ _ (λe=>?_) z2,z3];have:=O.lt a.S (by simp [Es.all]);rw[<- e] at this;show absurd this (Nat.not_lt.mpr z3)
theorem L7 (O:a.Ok) (q1:bN X.K H1 l1 xs) (q2:bN X.K H1 l2 ys) (ex:xs[i]?=some x) (ey:ys[i]?=some y) (L:P9 X Xe σ H1 a l1 l2 i H s)
  (hQ:∀s',P9 X Xe σ H1 a l1 l2 (i+1) (upd H s.heap.objs.35 (.tup [x,y])) s'->(∀c o,c∉[a.z,a.TO,a.i1,a.i2]->s.heap.14 c=some o->s'.heap.14 c=some o)->H s.6=none->Q (some (.ref s.6)) s'):VC (model X.18 X.w) A' (pyNext (.ref a.z)) Q E s:=by
 obtain I|sm|_g|sz|O!|pt|j1|j2:=id L;obtain us|ru|pu|_:=I.30 (sm.seq q1);obtain ws|YX|pw|_:=I.30 (sm.seq q2);obtain u|eu|r1:=ru.get ex;obtain v|ev|r2:=YX.get ey;have fx:∀b∈[a.z,a.TO,a.i1,a.i2],kX X Xe H b:=λb hb=>_g b (by simp only[Es.all,aF,aS,or_false] at hb ⊢;rcases hb with e | e | e | e <;> simp [e])
 have _e:H s.6=none:=I.Xw.39 (aj _);have fT:kX X Xe H s.6:=I.Yt (aj _) _e;have lt:∀b∈a.all,b≠s.6:=λb hb e=>by have:=O.lt b hb;rw[e] at this;show absurd this (Nat.not_lt.mpr sz)
 have fin:∀h',(∀c o,c∉[a.z,a.TO,a.i1,a.i2]->s.heap.14 c=some o->h'.14 c=some o)->WM h' s.heap.objs.35 u v->WM h' a.TI (.ref a.i1) (.ref a.i2)->h'.24 a.i1 l1 (i+1)->h'.24 a.i2 l2 (i+1)->Zst h' a.z a.TI a.TO a.49 →
   Q (some (.ref s.6)) { s with heap:=h' }:=λh' up pr pt' j1' j2' acp=>by
  have I2:Inv X Xe σ H { s with heap:=h' }:=I.moved (g':=s.gens) (d':=s.drawn) (t':=s.27) fx up I.bare;have I3:Inv X Xe σ (upd H s.heap.objs.35 (.tup [x,y])) { s with heap:=h' }:=I2.Zu fT ⟨jZ rfl,[u,v],.cons r1 (.cons r2 .nil),⟨_,pr,rfl,_,rfl⟩⟩;refine hQ _ #[I3,sm.4 (aE.new _e),λb hb=>(_g b hb).26 (by rw[bA (lt b hb)];show (_g b hb).1),?_,acp,pt',j1',j2'] up _e;show ag sz (cP (Vv pr))
 obtain ⟨c,d,z0⟩|z4:=O!;rcases z4 with z1 | ⟨T,b1,o,z1,z2,z3⟩
 ·have D:=Cv z1 pt z0 j1 j2 pu.19 pw.19 O.tt O.ii;refine wpAny_pyNext_zip_item D z1 pt z0 j1 j2 pu.19 pw.19 (x:=u) (y:=v) (by simpa using eu) (by simpa using ev) λh' a1 a2 a3 a4 a5 a6 hk=>?_
  have up:∀c o,c∉[a.z,a.TO,a.i1,a.i2]->s.heap.14 c=some o->h'.14 c=some o:=λc o hc e=>by
   simp only[aF,aS,or_false,not_or] at hc;show hk c o hc.1 hc.2.1 hc.2.2.1 hc.2.2.2 e
  show fin h' up a5 (hk _ _ D.TIz D.TITO D.TIi1 D.TIi2 pt) a3 a4 #[#[_,_,a2],.inr #[s.6,false,_,a1,a5,sz]]
 ·have D:=Cv z1 pt z0 j1 j2 pu.19 pw.19 O.tt O.ii;refine K9 D z1 z2 pt j1 j2 pu.19 pw.19 (u:=u) (v:=v) (by simpa using eu) (by simpa using ev) λh' a1 a3 a4 a5 hk=>?_
  have up:∀c o,c∉[a.z,a.TO,a.i1,a.i2]->s.heap.14 c=some o->h'.14 c=some o:=λc o hc e=>by
   simp only[aF,aS,or_false,not_or] at hc;show hk c o hc.1 hc.2.2.1 hc.2.2.2 e
  have Tn:∀b∈a.all,T≠b:=λb hb e=>by have:=O.lt b hb;rw[<- e] at this;show absurd this (Nat.not_lt.mpr z3)
  show fin h' up a5 (hk _ _ D.TIz D.TIi1 D.TIi2 pt) a3 a4 #[#[_,_,hk _ _ D.TOz D.TOi1 D.TOi2 z0],.inr #[T,true,o,a1,hk _ _ (Tn _ (by simp [Es.all])) (Tn _ (by simp [Es.all])) (Tn _ (by simp [Es.all])) z2,z3]]
theorem L6 (hh:A'.handled=none) (O:a.Ok) (q1:bN X.K H1 l1 xs) (q2:bN X.K H1 l2 ys) (hi:xs.9<=i) (L:P9 X Xe σ H1 a l1 l2 i H s)
  (hQ:∀s',Inv X Xe σ H s'->(∀c o,c∉[a.z,a.TO,a.i1,a.i2]->s.heap.14 c=some o->s'.heap.14 c=some o)->Q none s'):VC (model X.18 X.w) A' (pyNext (.ref a.z)) Q E s:=by
 obtain I|sm|_g|sz|O!|pt|j1|j2:=id L;obtain us|ru|pu|_:=I.30 (sm.seq q1);obtain ws|YX|pw|_:=I.30 (sm.seq q2);have lx:=ru.9;have _o:us.5[i]?=none:=by simp;lia
 have fx:∀b∈[a.z,a.TO,a.i1,a.i2],kX X Xe H b:=λb hb=>_g b (by simp only[Es.all,aF,aS,or_false] at hb ⊢;rcases hb with e | e | e | e <;> simp [e])
 have fin:∀h',(∀c o,c∉[a.z,a.TO,a.i1,a.i2]->s.heap.14 c=some o->h'.14 c=some o)->Q none { s with heap:=h' }:=λh' up=>hQ _ (I.moved (g':=s.gens) (d':=s.drawn) (t':=s.27) fx up I.bare) up
 obtain ⟨c,d,z0⟩|z4:=O!;rcases z4 with z1 | ⟨T,b1,o,z1,z2,z3⟩
 ·have D:=Cv z1 pt z0 j1 j2 pu.19 pw.19 O.tt O.ii;refine wpAny_pyNext_zip_end hh D z1 pt z0 j1 j2 pu.19 pw.19 (.inl _o) λh' hk=>fin h' λc o hc e=>?_
  simp only[aF,aS,or_false,not_or] at hc;show hk c o hc.1 hc.2.1 hc.2.2.1 hc.2.2.2 e
 ·have D:=Cv z1 pt z0 j1 j2 pu.19 pw.19 O.tt O.ii;refine K8 hh D z1 z2 pt j1 pu.19 _o λh' hk=>fin h' λc o hc e=>?_
  simp only[aF,aS,or_false,not_or] at hc;show hk c o hc.1 hc.2.2.1 hc.2.2.2 e
theorem L9 (hh:A'.handled=none) (O:a.Ok) (hz:xs.9<=VD) (hl:ys.9=xs.9) (q1:bN X.K H1 l1 xs) (q2:bN X.K H1 l2 ys)
  (fin:∀s' H' ts acc c,Inv X Xe σ H' s'->aE H1 H'->kX X Xe H' a.S->s'.heap.14 a.S=some (lobj acc c)->cO ts acc->Vs (QR H') (xs.zip ys) ts->R (.ok (.ret .none)) s') :
  ∀(k i:Nat) (s:Vr) (H:Hp) (ts:List V) (acc:List Value) (c:Nat),xs.9 - i=k->i<=xs.9->P9 X Xe σ H1 a l1 l2 i H s->s.heap.14 a.S=some (lobj acc c)->cO ts acc->Vs (QR H) ((xs.zip ys).21 i) ts →
   W5 (model X.18 X.w) A' (.builtin "list.extend.loop" #[[.ref a.S,.ref a.z,.none],[]]) R s:=by
 have Sn:a.S∉[a.z,a.TO,a.i1,a.i2]:=λh=>by
  simp only[aF,aS,or_false] at h;rcases h with e | e | e | e
  ·show O.Sz e
  ·show O.STO e
  ·show O.Si1 e
  ·show O.Si2 e
 intro k
 induction k with
 | zero =>
  intro i s H ts acc c hk hi L gS rv _L;have e:i=xs.9:=()
  refine codeAny_builtin Tc ?_;rw[VZ.under_plainId mC _]
  change VC _ A'.in1 (pyNext (Vy a.z) >>= _) _ _ s
  refine K0 (L6 hh O q1 q2 () L λs' I' up=>VB (fin s' H ts acc c I' L.10 (L._g _ (by simp [Es.all])) (up _ _ Sn gS) rv ?_));rwa [aH (by rw[AI];lia)] at _L
 | succ k ih =>
  intro i s H ts acc c hk hi L gS rv _L;have XB:i < xs.9:=()
  have lt:=_L.9;have la:=rv.9;refine codeAny_builtin Tc ?_;rw[VZ.under_plainId mC _]
  change VC _ A'.in1 (pyNext (Vy a.z) >>= _) _ _ s
  refine K0 (L7 O q1 q2 (x:=xs[i]) (y:=ys[i]'()) (by simp [XB]) (by simp) L λs' L' up hT=>?_);have gS':=up _ _ Sn gS
  change VC _ A'.in1 (updateSeq a.S (·.push (Vy s.6)) >>= _) _ _ s'
  have small:acc.9<=VD:=by
   rw[bU,AI] at lt
   lia
  refine K0 (wpAny_updateSeq gS' rfl (VB #[plainId_quiet mC _,?_]) (by rw[aX];show small) (by
   change (acc.toArray.25 (Vy s.6)).7<=VD+1
   rw[Array.size_push,aX]
   lia))
  have gS2:=lV gS' (λb=>b.25 (Vy s.6));have e2:(acc.toArray.25 (Vy s.6))=(acc++[Vy s.6]).5:=by simp
  rw[e2] at gS2;refine ih (i+1) _ (upd H s.heap.objs.35 (.tup [xs[i],ys[i]'()])) (ts++[.ref s.6]) (acc++[.ref s.6]) _ () XB (L'.25 O (λb o hb e=>(VN _ _ (Wc hb)).4 e) (Heap.size_update ..)) gS2 (rv.append (show cO [V.ref s.6] [Vy s.6] from .cons rfl .nil)) ?_;have zp:(xs.zip ys)[i]?=some (xs[i],ys[i]'()):=by simp [Td,XB]
  rw[take_snoc zp];show (bv (λ_ _ z=>z.10 (aE.new hT)) _L).snoc #[_,rfl,aK]
theorem Hs:typeLookup (.type "zip") "__len__"=pure Wh:=by rw[typeLookup_type,builtinLookup_eq_fast];kernel_rfl
theorem EF:typeLookup (.type "zip") "__length_hint__"=pure Wh:=by rw[typeLookup_type,builtinLookup_eq_fast];kernel_rfl
theorem L8 (hh:A'.handled=none) (O:a.Ok) (hz:xs.9<=VD) (hl:ys.9=xs.9) (q1:bN X.K H1 l1 xs) (q2:bN X.K H1 l2 ys) (L:P9 X Xe σ H1 a l1 l2 0 H s) (gS:s.heap.14 a.S=some (lobj [] 0)) (z0:IsZip s.26 a.z a.TI a.TO .none)
  (fin:∀s' H' ts acc c,Inv X Xe σ H' s'->aE H1 H'->kX X Xe H' a.S->s'.heap.14 a.S=some (lobj acc c)->cO ts acc->Vs (QR H') (xs.zip ys) ts->R (.ok (.ret .none)) s') :
  VC (model X.18 X.w) A'.in1 (WA.«list.__init__» #[[.ref a.S,.ref a.z],[]]) (λfl s'=>match fl with | .done f=>R (.ok f) s' | .again c'=>c'.quiet=true/\W5 (model X.18 X.w) A' c' R s') (λe s'=>R (.error e) s') s:=by
 change VC _ A'.in1 (do let old <- WA.List.listItems (Vy a.S);WA.List.listUpdate (Vy a.S) (λ_=>[].12);letGo old.toList.reverse;WG (Vy a.S) (Vy a.z) V4) _ _ s
 refine K0 ?_;unfold WA.List.listItems;refine K0 (wpAny_seqItems gS rfl (VB ?_))
 change VC _ A'.in1 (updateSeq a.S (λ_=>[].12) >>= λ_=>letGo ([].12:Array Value).toList.reverse >>= λ_=>WG (Vy a.S) (Vy a.z) V4) _ _ s
 refine K0 (wpAny_updateSeq gS rfl ?_);have g1:=lV gS (λ_=>([].12:Array Value));obtain ⟨n1,g1⟩:∃n1,(s.heap.48 a.S (VQ λ_=>([].12:Array Value))).14 a.S=some (lobj [] n1):=#[_,g1];have L1:=L.25 (h':=s.heap.48 a.S (VQ λ_=>([].12:Array Value))) O (λb o hb e=>(VN _ _ (Wc hb)).4 e) (Heap.size_update ..);have z1:IsZip (s.heap.48 a.S (VQ λ_=>([].12:Array Value))) a.z a.TI a.TO .none:=(VN _ _ O.Sz).4 z0;refine K0 (wpAny_letGo ?_);unfold WG;have ty:Vr.TypeIs { s with heap:=s.heap.48 a.S (VQ λ_=>([].12:Array Value)) } (.ref a.z) "zip":=#[_,z1,rfl];refine K0 (wpAny_typeOf ty ?_);have h1:WA.List.listSameRef (.ref a.S) (.ref a.z)=false:=by simp [WA.List.listSameRef,O.Sz]
 have h2:(V6 "zip" == V6 "list")=false:=()
 have h3:(V6 "zip" == V6 "tuple")=false:=()
 simp only[h1,h2,h3,Bool.or_false,fh,if_false];refine K0 (wpAny_pyIter_zip z1 (K0 (VS ?_)));unfold WA.List.listLengthHint;refine K0 (wpAny_specialOf ty Hs ?_)
 change VC _ A'.in1 (specialOf (Vy a.z) (Str.ofString "__length_hint__") >>= _) _ _ _
 refine K0 (wpAny_specialOf ty EF (VB ?_))
 change VC _ A'.in1 (rule "list.extend.makes-room" >>= λ_=>WA.List.listTouch (Vy a.S) >>= λ_=>again (.builtin "list.extend.loop" #[[Vy a.S,Vy a.z,V4],[]])) _ _ _
 refine K0 (wpAny_rule (K0 ?_))
 change VC _ A'.in1 (updateSeq a.S (·.push V4) >>= λ_=>updateSeq a.S (·.pop)) _ _ _
 refine K0 (wpAny_updateSeq g1 rfl ?_);have g2:=lV g1 (λb=>b.25 V4);obtain ⟨n2,g2⟩:∃n2,((s.heap.48 a.S (VQ λ_=>([].12:Array Value))).48 a.S (VQ λb=>b.25 V4)).14 a.S=some (lobj [V4] n2):=#[_,g2];have L2:=L1.25 (h':=(s.heap.48 a.S (VQ λ_=>([].12:Array Value))).48 a.S (VQ λb=>b.25 V4)) O (λb o hb e=>(VN _ _ (Wc hb)).4 e) (Heap.size_update ..);refine wpAny_updateSeq g2 rfl ?_ (jZ rfl);have g3:=lV g2 (λb=>b.pop);have L3:=L2.push (h':=((s.heap.48 a.S (VQ λ_=>([].12:Array Value))).48 a.S (VQ λb=>b.25 V4)).48 a.S (VQ λb=>b.pop)) O (λb o hb e=>(VN _ _ (Wc hb)).4 e) (Heap.size_update ..);show VB #[plainId_quiet mC _,L9 hh O hz hl q1 q2 fin _ 0 _ H [] [] _ rfl (be _) L3 g3 .nil .nil]
end
section
variable {X:Cx}
theorem QY (n:Nat):Es.Ok #[n+4,n+2,n+3,n,n+1,n+5,n+5+1]:=by
 have ne:∀p q:Nat,p≠q->@Ne Addr p q:=λ_ _ h=>h
 refine #[ne (n+2) (n+3) (),ne n (n+1) (),ne (n+5) (n+4) (),ne (n+5) (n+2) (),ne (n+5) (n+3) (),ne (n+5) n (),ne (n+5) (n+1) (),λb hb=>?_];have Y5:b∈[n+4,n+2,n+3,n,n+1,n+5]:=hb;change @LT.lt Nat instLTNat b (n+5+1)
 simp only[aF,aS,or_false] at Y5;rcases Y5 with e | e | e | e | e | e <;> (rw[e];show bI (dr _) ())
def EJ (K:Xn) (ta:TA):TE:=λσ H Q=>ta σ H λvs H1=>∃(l1 l2:Addr) (xs ys:List V),vs=[.ref l1,.ref l2]/\bN K H1 l1 xs/\bN K H1 l2 ys/\ys.9=xs.9 /\
 ∀L ts H',aE H1 H'->H1 L=none->H' L=some (.lst ts)->Vs (QR H') (xs.zip ys) ts->Q (.ref L) H'
theorem HS {e1 e2:Expr} {ta:TA} {p p2 pos Yq:Pos} (hg:Gl X "list") (hm:X.mg "list"=none) (hg2:Gl X "zip") (hm2:X.mg "zip"=none) (ha:PA X [e1,e2] ta) (hc:X.calm=true:=by rfl)
  (hs:Vu [e1,e2] X.16=[(false,eval e1 X.16),(false,eval e2 X.16)]:=by rfl) (Zl:Vu [e2] X.16=[(false,eval e2 X.16)]:=by rfl)
  (hs3:Vu [WI (.Name "zip" p2) [e1,e2] [] Yq] X.16=[(false,eval (.Call (.Name "zip" p2) [e1,e2] [] Yq) X.16)]:=by rfl) :
  PE X (.Call (.Name "list" p) [.Call (.Name "zip" p2) [e1,e2] [] Yq] [] pos) (EJ X.K ta):=by
 intro Xe s σ H Q I h;refine VW (kS I hg hm boot_list ?_);refine VI ?_ (by rw[hs3];rfl) rfl;rw[hs3];change VC _ _ (spliced ((false,eval (.Call (.Name "zip" p2) [e1,e2] [] Yq) X.16) :: [])) _ _ s
 refine Calls.spliced_cons ?_;refine Call_ (kS I hg2 hm2 boot_zip (VI (gX (ha Yq Xe s σ H _ I h) λus s1 hz=>?_) (by rw[hs,Zl]) (by rw[Zl];rfl)));obtain vs|H1|I1|r1|q1:=hz;obtain l1|l2|xs|ys|e|qx|qy|hl|q:=q1;subst e;obtain u|v|rfl|ru|rv:=vals2 r1;cases ru;cases rv;obtain us|rx|px|hz:=I1.30 qx;obtain ws|ry|py|_:=I1.30 qy;refine call_zip_2 px.19 py.19 λh' a1 a2 a3 a4 a5 a6 hk=>?_
 refine Calls.spliced_nil ?_;have I2:Inv X Xe σ H1 { s1 with heap:=h' }:=I1.59 (t':=s1.27) hk;have up:∀b o,h'.14 b=some o->(h'.25 { cls:=.type "list",data:=.seq [].12 }).14 b=some o:=λb o e=>Vq _ e
 have O:Es.Ok #[s1.6+4,s1.6+2,s1.6+3,s1.6,s1.6+1,h'.objs.7,h'.objs.7+1]:=by
  rw[a6];show QY s1.heap.objs.35
 have old:∀b∈(Es.mk (s1.6+4) (s1.6+2) (s1.6+3) s1.heap.objs.35 (s1.6+1) h'.objs.35 (h'.objs.7+1)).all,s1.6<=b:=λb hb=>by
  rw[a6] at hb;simp only[Es.all,aF,aS,or_false] at hb;rcases hb with rfl | rfl | rfl | rfl | rfl | rfl <;> first | show i8 _ _ | show aj _
 have gS:(h'.25 { cls:=.type "list",data:=.seq [].12 }).14 h'.objs.7=some (lobj [] 0):=VG _ rfl;refine callType_codes (Q₁:=λob t=>ob=.ref h'.objs.7/\t={ s1 with heap:=h'.25 { cls:=.type "list",data:=.seq [].12 } }) PySem.F.called_list (PySem.F.typeCall_list_1 _) PySem.F.entry_list_init (code_list_new _ ⟨rfl,rfl⟩) λob t ht=>?_
 obtain rfl|rfl:=ht;refine #[#[_,gS,rfl],PySem.F.args_list_init_2 _ _,?_]
 have L:P9 X Xe σ H1 #[s1.6+4,s1.6+2,s1.6+3,s1.6,s1.6+1,h'.objs.7,h'.objs.7+1] l1 l2 0 H1 { s1 with heap:=h'.25 { cls:=.type "list",data:=.seq [].12 } } :=
  #[I2.59 (t':=s1.27) up,aE.refl _,λb hb=>I1.Yt (old b hb) (I1.Xw.39 (old b hb)),by rw[Wq];show aj _,#[#[_,_,up _ _ a3],.inl (up _ _ a1)],up _ _ a2,a4.at λo e=>up _ o e,a5.at λo e=>up _ o e]
 refine L8 (A':=X.A.in1) (I.ok.hd hc) O hz hl qx qy L gS (up _ _ a1) λs' H' ts acc c I' sm fS gS' vs' _L=>#[rfl,?_]
 have nS:H1 h'.objs.7=none:=I1.Xw.39 (old _ (by simp [Es.all]));have lt:=_L.9;rw[AI] at lt;show #[.ref h'.objs.7,_,I'.Zu (o:=.lst ts) fS #[(),acc,c,vs',gS'],rfl,q _ ts _ (sm.4 (aE.new fS.1)) nS aK (bv (λ_ _ z=>z.10 (aE.new fS.1)) _L)]
end
end L2
namespace Nm
def xE:List Int->Int->Int
 | [],m=>m
 | b :: r,m=>xE r (m*(b / g m b))
theorem vF (hm:0 < m) (hb:0 < b):0 < m*(b / g m b):=jx hm (DD (t:=m) hb)
theorem Dx:b∣m*(b / g m b):=by
 have h1:=zZ m b;refine #[lo m b,?_];have h2:b / g m b*g m b=b:=xI m b
 calc m*(b / g m b)=lo m b*g m b*(b / g m b):=by rw[h1]
  _=lo m b*(b / g m b*g m b):=by rw[dH,gB (g m b)]
  _=b*lo m b:=by rw[h2,gB]
theorem z6:∀{bs:List Int} {m:Int},0 < m->(∀b∈bs,0 < b)->0 < xE bs m
 | [],_,hm,_=>hm
 | b :: r,m,hm,h=>z6 (bs:=r) (vF hm (h b cC)) λc hc=>h c (bP _ hc)
theorem Fu:∀{bs:List Int} {m:Int},m∣xE bs m
 | [],_=>KC _
 | b :: r,m=>Int.dvd_trans (Int.dvd_mul_right m _) (Fu (bs:=r))
theorem Fs:∀{bs:List Int} {m b:Int},b∈bs->b∣xE bs m
 | c :: r,m,b,h=>by
  rcases aF.mp h with rfl | h
  ·show Int.dvd_trans Dx (Fu (bs:=r))
  ·show Fs (bs:=r) h
end Nm
namespace L2
open PySem PySem.Spec PyProof.Rows Nm
def Et (K:Xn) (H:Hp) (p:Addr) (ns:List (Int×Int)):Prop:=∃xs,H p=some (.lst xs)/\Vs (λn x=>vZ K H x n) ns xs
theorem Et.same {K:Xn} (h:Et K H p ns) (e:aE H H'):Et K H' p ns:=by obtain xs|g|q:=h;show #[xs,e _ _ g,bv (λ_ _ z=>e.num z) q]
def Fg (K:Xn) (T:String):V->Hp->VK->Prop:=λx H Q=>KZ K T x H Q\/∃a xs b,x=.ref a/\kz K H a xs/\PySem.W.kitOne K (.type "tuple") (.type T)=some b/\Q (.bl b) H
theorem BV:∀{bs:List Int} {m b:Int},xE (bs++[b]) m=xE bs m*(b / g (xE bs m) b)
 | [],_,_=>rfl
 | c :: r,m,b=>BV (bs:=r)
def fY (ns:List (Int×Int)) (B:Int):List Int:=ns.11 λn=>n.1*(B / n.2)
def iw (ns:List (Int×Int)):Int:=xE (ns.11 (·.2)) 1
def NJ (ns ms:List (Int×Int)):Int:=(VH (λx y=>x*y) (fY ns (iw ns)) (fY ms (iw ms))).sum
theorem pG (h:n∈ns):n.2∣iw ns:=Fs (au.mpr #[n,h,rfl])
theorem HP {K:Xn} (h:ta σ H λvs H1=>∃(l1 l2:Addr) (xs ys:List V),vs=[.ref l1,.ref l2]/\bN K H1 l1 xs/\bN K H1 l2 ys/\ys.9=xs.9 /\
 ∀L ts H',aE H1 H'->H1 L=none->H' L=some (.lst ts)->Vs (QR H') (xs.zip ys) ts->Q (.ref L) H'):EJ K ta σ H Q:=h
theorem U7 (hb:0 < b) (h:Sz k b):Sz k (g m b):=h.le (by
 have h1:(g m b).15=VY m b:=by unfold g;simp
 rw[h1];show jY () (by have:=fM (a:=m) (b:=b);show eY.mpr this |> λz=>by simpa using z))
theorem Ol {ts us:List Int} {i:Nat} (h:((ts.11 V.int).zip (us.11 V.int))[i]?=some pq):∃t u,ts[i]?=some t/\us[i]?=some u/\pq=(.int t,.int u):=by
 rw[Td,az,az] at h;obtain h1|h2:=h;cases e1:ts[i]? with
 | none=>rw[e1] at h1;cases h1
 | some t =>
  cases e2:us[i]? with
  | none=>rw[e2] at h2;cases h2
  | some u =>
   rw[e1] at h1;rw[e2] at h2;refine #[t,u,rfl,rfl,?_];cases pq;simp at h1 h2;rw[h1,h2]
def KO (K:Xn):Sp:=λvs H Q _=>∃x n,vs=[x]/\vZ K H x n/\v5 n/\∀H',aE H H'->Q (.bl true) H'
inductive wM (K:Xn) (vs:List V) (H:Hp) (Q:VK) (E9:XK):Prop
 | mk (p:Addr) (ns:List (Int×Int)):vs=[.ref p,.int ns.9]->Et K H p ns->ns.9<=1000->(∀n∈ns,v5 n)->(∀H',aE H H'->Q (.bl true) H')->wM K vs H Q E9
theorem qi {X:Cx} {a:Expr} {ta:TE} {pos:Pos} {c:Str} {T:String} {p p2:Pos} (hg:Gl X "isinstance") (hm:X.mg "isinstance"=none) (hb:Ww c=some (.type T)) (hmc:X.mg c=none) (ha:PE X a ta) (hgc:Gl X c:=by rfl) (hn:c≠"__name__":=by decide)
  (hd:(c == ("__debug__":Str))=false:=by decide) (he:Vu [a,.Name c p2] X.16=[(false,eval a X.16),(false,eval (.Name c p2) X.16)]:=by rfl)
  (Zd:(WT pos (Vu [.Name c p2] X.16)).58 (·.1)=false:=by rfl) (g!:Vu [.Name c p2] X.16=[(false,eval (.Name c p2) X.16)]:=by rfl):PE X (.Call (.Name "isinstance" p) [a,.Name c p2] [] pos) (UM (Fg X.K T) ta):=by
 intro Xe s σ H Q I h;refine VW (kS I hg hm WC ?_);have hA:PA X [a,.Name c p2] (ji ta (ji (tC (.ty T)) yX)):=fI ha (fI (yL hgc hmc hb rfl hn hd) iE g!) (by rw[he,g!])
 have hq:ji ta (ji (tC (.ty T)) yX) σ H (λvs H1=>∃x,vs=[x,.ty T]/\Fg X.K T x H1 Q):=by
  change ta σ H λx H1=>∃x',[x,V.ty T]=[x',V.ty T]/\Fg X.K T x' H1 Q
  have e:(λx H1=>∃x',[x,V.ty T]=[x',V.ty T]/\Fg X.K T x' H1 Q)=λx H1=>Fg X.K T x H1 Q:=by
   funext x H1;apply propext;constructor
   ·rintro ⟨x',e,q⟩;cases e;show q
   ·intro q;show #[x,rfl,q]
  rw[e];show h
 refine Wr (gX (hA pos Xe s σ H _ I hq) λus s1 hz=>?_) (by rw[he,g!]) Zd;obtain vs|H1|I1|r1|x|e|q1:=hz;subst e;obtain u|w'|rfl|ru|rt:=vals2 r1;cases rt;rcases q1 with ⟨t,bb,ty,ek,q⟩ | ⟨ad,xs,bb,rfl,hs,ek,q⟩
 ·show BX I1 ru ty ek λtk=>#[.bl bb,H1,I1.tok tk,rfl,q]
 ·cases ru;obtain Xp|_|⟨o,g1,g2,_⟩|_:=I1.45 hs;show dk uf I1.XN #[o,g1,g2] ek (λz=>nomatch z) λtk=>#[.bl bb,H1,I1.tok tk,rfl,q]
theorem MC (h:H l=some (.lst [x])) (hk:k<=1000) (q:∀p H',aE H H'->H p=none->H' p=some (.lst (Vz k x))->Q (.ref p) H'):Ua (.ref l) (.int k) H Q :=
 #[l,k,[x],rfl,rfl,h,(),(),cP (cV (by simp;lia)),λp hp=>q p _ (aE.new hp) hp (by rw[aK];simp)]
theorem IL {k:Nat} (h:k<=xs.9):tJ xs none (some (k:Int))=xs.21 k:=by
 unfold tJ;rw[HT.zA,HT.C1,Nat.min_eq_left h];simp
theorem NR {k:Nat}:tJ xs (some (k:Int)) none=xs.47 k:=by
 unfold tJ;rw[HT.zA,HT.C1];by_cases h:k<=xs.9
 ·rw[Nat.min_eq_left h,aH (by simp)]
 ·rw[Nat.min_eq_right (),yV (),yV ()];simp
theorem uI {α β:Type} {F:α->β->Prop} {x:α} {y:β} (h:F x y):∀m:Nat,Vs F (Vz m x) (Vz m y)
 | 0=>.nil
 | m+1=>.cons h (uI h m)
theorem U4:v5 (0,1):=#[(),(),show (0:Nat) < 2^8000000 from Og _,Nat.one_lt_two_pow ()]
theorem fK (h:a < n):LR n (a:Int)=some a:=by
 unfold LR;rw[if_pos (),if_pos (),Int.toNat_natCast]
theorem NQ {k:Nat}:tJ xs none (some (k:Int))=xs.21 k:=by
 by_cases h:k<=xs.9
 ·show IL h
 ·unfold tJ;rw[HT.zA,HT.C1,Nat.min_eq_right (),aH (by simp),aH ()];rfl
theorem md {α β:Type} {F:α->β->Prop}:∀{l1:List α} {l2:List β} (_:Vs F l1 l2) (k:Nat),Vs F (l1.21 k) (l2.21 k)
 | _,_,.nil,k=>by simp;show .nil
 | _,_,.cons h r,0=>.nil
 | _,_,.cons h r,k+1=>.cons h (md r k)
def Pa (K:Xn):List V->Hp->VK->Prop:=λxs H Q=>∃p ys,xs=[.ref p]/\(bN K H p ys\/kz K H p ys)/\∀l,H l=none->Q (.ref l) (upd H l (.lst ys))
theorem ia (K:Xn) (hK:X.K=K):rB X (.type "list") (Pa K):=by subst hK;show vS
theorem aE.none (s:aE H H') (h:H' l=Wh):H l=Wh:=by
 cases e:H l with
 | none=>rfl
 | some o=>have:=s _ _ e;rw[h] at this;cases this
def QT (K:Xn) (H:Hp) (p:Addr) (rows:List (List (Int×Int))):Prop:=∃xs,H p=some (.lst xs)/\Vs (λns x=>∃q,x=V.ref q/\Et K H q ns) rows xs
theorem Mi (h:b.15<=1000000):Sz 20 b:=bw h ()
theorem de.none (u:de b H H') (B:jW H' b) (h:H' l=Wh):H l=Wh:=by
 cases e:H l with
 | none=>rfl
 | some o =>
  by_cases z:l=b
  ·obtain _|_|_|_|_|e2|_:=B;rw[<- z,h] at e2;cases e2
  ·have:=u.1 l o e z;rw[h] at this;cases this
inductive zh (K:Xn) (vs:List V) (H:Hp) (Q:VK) (E9:XK):Prop
 | mk (p:Addr) (rows:List (List (Int×Int))) (m:Nat):vs=[.ref p,.int rows.9,.int m]->QT K H p rows->rows.9<=1000->m<=1000->((∀ns∈rows,ns.9=m/\∀n∈ns,v5 n))->(∀H',aE H H'->Q (.bl true) H')->zh K vs H Q E9
end L2
namespace Nm
def nm (q:Rat):Int×Int:=(q.num,(q.57:Int))
theorem iG (q:Rat):0 < (nm q).2:=by have:=q.den_pos;change 0 < (q.57:Int);lia
theorem Dt (q:Rat):VY (nm q).1 (nm q).2=1:=q.reduced
theorem Sq (h:nm p=nm q):p=q:=by
 have h1:p.num=q.num:=congrArg Prod.fst h;have h2:(p.57:Int)=q.57:=congrArg Prod.snd h;show Rat.ext h1 ()
theorem mT (q:Rat):(q.num:Rat)=q*(q.57:Rat):=by
 have h:=Rat.num_divInt_den q;rw[Rat.divInt_eq_div] at h
 have hd:((q.57:Int):Rat)≠0:=by
  intro z;have z:=yi.mp z;have:=q.den_pos
  lia
 have e:((q.57:Int):Rat)=(q.57:Rat):=aW _
 calc (q.num:Rat)=(q.num:Rat) / ((q.57:Int):Rat)*((q.57:Int):Rat):=(GV hd).20
  _=q*(q.57:Rat):=by rw[h,e]
theorem Uh (hb:0 < b) (hg:VY a b=1) (e:q*(b:Rat)=(a:Rat)):(a,b)=nm q:=by
 have h1:a*(q.57:Int)=q.num*b:=by
  apply dM.mp;rw[aT,aT,<- e,mT,aW];grind
 obtain e1|e2:=uniq hb (iG q) hg (Dt q) h1;show Prod.ext e1 e2
theorem qO {t b:Int} (hb:0 < b) (e:q*(b:Rat)=(t:Rat)):(lo t b,hi t b)=nm q:=by
 refine Uh (DD hb) (zX ()) ?_;have h:=zY t b;have Y5:(b:Rat)≠0:=λz=>by have:=yi.mp z;lia
 have h2:((lo t b:Int):Rat)*(b:Rat)=(t:Rat)*((hi t b:Int):Rat):=by rw[<- aT,h,aT]
 rw[<- e] at h2;have h3:(q*((hi t b:Int):Rat) - ((lo t b:Int):Rat))*(b:Rat)=0:=by grind
 rcases Of.mp h3 with h4 | h4
 ·grind
 ·show absurd h4 Y5
def Fr (M V:Nat) (q:Rat):Prop:=∃z:Int,q*(M:Rat)=(z:Rat)/\z.15<=V*M
theorem Fr.mono (h:Fr M V q) (l:V<=V'):Fr M V' q:=by obtain z|e|b:=h;show #[z,e,ag b (ax _ l)]
theorem Fr.scale (h:Fr M V q) (k:Nat):Fr (M*k) V q:=by
 obtain z|e|b:=h;refine #[z*k,?_,?_]
 ·rw[rJ,aT,<- e,aW,Rat.mul_assoc]
 ·rw[eF,cQ,<- b9];show ax _ b
theorem Fr.Y1 (h:Fr M V q) (k:Nat):Fr (k*M) V q:=by rw[cw];show h.scale k
theorem Fr.dvd (h:Fr M V q) (d:M∣N):Fr N V q:=by obtain k|rfl:=d;show h.scale k
theorem Fr.add (h:Fr M V p) (h':Fr M W q):Fr M (V+W) (p+q):=by
 obtain z|e|b:=h;obtain z'|e'|b':=h';refine #[z+z',by rw[AH,<- e,<- e',Rat.add_mul],?_];rw[N2];have:=Int.natAbs_add_le z z'
 lia
theorem Fr.neg (h:Fr M V q):Fr M V (-q):=by
 obtain z|e|b:=h;show #[-z,by rw[c7,<- e,Rat.neg_mul],by rw[kD];show b]
theorem Fr.mul (h:Fr M V p) (h':Fr N W q):Fr (M*N) (V*W) (p*q):=by
 obtain z|e|b:=h;obtain z'|e'|b':=h';refine #[z*z',?_,?_]
 ·rw[rJ,aT,<- e,<- e'];grind
 ·rw[eF]
  calc z.15*z'.15<=(V*M)*(W*N):=aI b b'
   _=V*W*(M*N):=by rw[b9,Nat.mul_left_comm M,<- b9]
theorem Fr.zero:Fr M V 0:=#[0,by simp,by simp]
theorem Fr.int {i:Int} (h:i.15<=V):Fr M V (i:Rat):=#[i*M,by rw[aT,aW],by rw[eF,cQ];show ax _ h]
theorem Fr.den (h:Fr M V q):(q.57:Int)∣(M:Int):=by
 obtain z|e|b:=h
 have h1:q.num*(M:Int)=z*(q.57:Int):=by
  apply dM.mp;rw[aT,aT,<- e,mT,aW,aW];grind
 have h2:(q.57:Int)∣q.num*(M:Int):=#[z,by rw[h1,gB]];show qR (by rw[lZ];show Dt q) h2
theorem Fr.o! (h:Fr M V q) (hM:0 < M):q.57<=M:=jY hM (nZ.mp h.57)
theorem Fr._Q (h:Fr M V q) (hM:0 < M):q.num.15<=V*M:=by
 have hd:=h.57;obtain z|e|b:=h;obtain k|hk:=nZ.mp hd;have hk0:k≠0:=λz=>by rw[z,Nat.mul_zero] at hk;lia
 have h1:z=q.num*(k:Int):=by
  apply dM.mp;rw[aT,<- e,mT,aW,hk,rJ];grind
 rw[h1] at b;show ag (oX ()) b
theorem Fr.own (q:Rat) (h:q.num.15<=V):Fr q.57 V q:=#[q.num,(mT q).20,ag h (dP _ q.den_pos)]
theorem Fr.sz (h:Fr M V q) (hM:0 < M) (h1:M<=2^k) (h2:V<=2^j):Sz (j+k+1) (nm q).1/\Sz (k+1) (nm q).2:=by
 constructor
 ·change q.num.15 < 2^(j+k+1)
  have h3:=h._Q hM;have h4:V*M<=2^j*2^k:=aI h2 h1;rw[jD,bg];have:=Og (j+k);rw[bg] at this
  lia
 ·change (q.57:Int).15 < 2^(k+1)
  have h3:=h.o! hM;rw[cQ,jD];have:=Og k
  lia
theorem Fr.sum {M V:Nat}:∀{l:List Rat},(∀x∈l,Fr M V x)->Fr M (l.9*V) l.sum
 | [],_=>by simp;show Fr.zero
 | x :: r,h=>by
  rw[List.sum_cons,bC,lW,ir];show (h x (.head _)).add (Fr.sum λy hy=>h y (.tail _ hy))
def cS (xs ys:List Rat):Rat:=(VH (λx y=>x*y) xs ys).sum
theorem Fr.dot (h:∀x∈xs,Fr M V x) (h':∀y∈ys,Fr N W y):Fr (M*N) (xs.9*(V*W)) (cS xs ys):=by
 have q:=Fr.sum (M:=M*N) (V:=V*W) (l:=VH (λx y=>x*y) xs ys) λz hz=>by
  obtain i|hi|e:=aN hz;rw[rE] at e;rw[<- e];show (h _ (aG _)).mul (h' _ (aG _))
 show q.22 (ax _ (by rw[dw];lia))
theorem Lj (xs ys:List Rat):cS xs ys=cS ys xs:=by
 unfold cS;rw[List.zipWith_comm];congr 2;funext a b;show cf ..
theorem yN:∀{bs:List Int} {m M:Int},0 < m->m∣M->(∀b∈bs,0 < b/\b∣M)->xE bs m∣M
 | [],_,_,_,h,_=>h
 | b :: r,m,M,hm,h,hb=>by
  have b1:=hb b cC;refine yN (bs:=r) (vF hm b1.1) ?_ λc hc=>hb c (bP _ hc)
  have gp:0 < g m b:=Ad ();have e1:=zZ m b;have e2:=xI m b;obtain u|hu:=h;obtain v|hv:=b1.2
  have h3:lo m b*u=hi m b*v:=by
   apply ui (show g m b≠0 by lia)
   calc lo m b*u*g m b=lo m b*g m b*u:=by rw[dH,gB u,<- dH]
    _=m*u:=by rw[e1]
    _=M:=hu.20
    _=b*v:=hv
    _=hi m b*g m b*v:=by rw[e2]
    _=hi m b*v*g m b:=by rw[dH,gB (g m b),<- dH]
  have h4:hi m b∣lo m b*u:=#[v,h3];have h5:hi m b∣u:=qR (by rw[lZ];show zX ()) h4;obtain w|hw:=h5;refine #[w,?_];change M=m*hi m b*w
  rw[hu,hw,dH]
theorem DI (hb:0 < b) (d:a∣b) (h:Sz k b):Sz k a:=h.le (jY () (eY.mpr d))
end Nm
namespace Nm
def Dr (W:Nat) (x:Rat):Prop:=x.num.15<=W/\x.57<=W
def BP:List Nat->Nat
 | []=>1
 | a :: r=>a*BP r
theorem BN:∀{l:List Nat},(∀a∈l,0 < a)->0 < BP l
 | [],_=>Nat.one_pos
 | a :: r,h=>bY (h a (.head _)) (BN λb hb=>h b (.tail _ hb))
theorem BO:∀{l:List Nat} {a:Nat},a∈l->a∣BP l
 | b :: r,a,h=>by
  rcases aF.mp h with rfl | h
  ·show Kz ..
  ·show Nat.dvd_trans (BO h) (pL ..)
theorem Fi {k:Nat}:∀{l:List Nat},(∀a∈l,a<=2^k)->BP l<=2^(k*l.9)
 | [],_=>by simp [BP]
 | a :: r,h=>by
  rw[bC,Nat.mul_succ,bg,cw (2^(k*r.9))];show aI (h a (.head _)) (Fi λb hb=>h b (.tail _ hb))
def GF (M V:Nat) (rows:Xo):Prop:=∀xs∈rows,∀x∈xs,Fr M V x
def aO (rows:Xo) (w:Nat):Xo:=(Vt w).11 λj=>rows.11 λxs=>xs.3 j 0
def iC (one other:Xo) (w:Nat):Xo:=one.11 λxs=>(aO other w).11 λys=>cS ys xs
theorem b7:(aO rows w).9=w:=by simp [aO]
theorem tx:∀ys∈aO rows w,ys.9=rows.9:=λys hy=>by
 obtain j|_|rfl:=au.mp hy;show af ..
end Nm
namespace L2
open PySem PySem.Spec PyProof.Rows Nm
theorem de.Y9 {K:Xn} (u:de b H H') (B:jW H b) (h:kz K H a xs):kz K H' a xs:=by
 rcases h with (h | ⟨o,h⟩) | h
 ·show .inl (.inl (u.tup B h))
 ·show .inl (.inr #[o,u.40 (λz=>by obtain _|_|_|_|_|e|_:=B;rw[z,e] at h;cases h) h])
 ·show .inr h
theorem Mm {K:Xn} (h:kz K H a xs) (hl:H l=some (.lst ys)):kz K (upd H l o) a xs:=by
 rcases h with (h | ⟨o,h⟩) | h
 ·show .inl (.inl (by rw[bA λz=>by rw[z,hl] at h;cases h];show h))
 ·show .inl (.inr #[o,by rw[bA λz=>by rw[z,hl] at h;cases h];show h])
 ·show .inr h
def cm (K:Xn) (H:Hp) (q:Rat) (x:V):Prop:=vZ K H x (nm q)
section
variable {K:Xn} {H H':Hp} {q:Rat} {x:V} {b l p:Addr} {qs:List Rat}
theorem cm.same (h:cm K H q x) (e:aE H H'):cm K H' q x:=e.num h
theorem cm.Xs (h:cm K H q x) (u:de b H H') (B:jW H b):cm K H' q x:=by obtain p|e|s:=h;show #[p,e,u.Y9 B s]
theorem cm.XA (h:cm K H q x) (hl:H l=some (.lst ys)):cm K (upd H l o) q x:=by obtain p|e|s:=h;show #[p,e,Mm s hl]
theorem cm.mk (h:H r=some (.tup [.int a,.int c])) (e:(a,c)=nm q):cm K H q (.ref r):=#[r,rfl,by rw[<- e];show kz.of h]
def dI (K:Xn) (H:Hp) (p:Addr) (qs:List Rat):Prop:=∃xs,H p=some (.lst xs)/\Vs (cm K H) qs xs
theorem dI.same (h:dI K H p qs) (e:aE H H'):dI K H' p qs:=by obtain xs|g|r:=h;show #[xs,e _ _ g,bv (λ_ _ z=>z.10 e) r]
theorem dI.Xs (h:dI K H p qs) (u:de b H H') (B:jW H b) (n:p≠b):dI K H' p qs:=by obtain xs|g|r:=h;show #[xs,u.40 n g,bv (λ_ _ z=>z.Xs u B) r]
theorem dI.XA (h:dI K H p qs) (hl:H l=some (.lst ys)) (n:p≠l):dI K (upd H l o) p qs:=by obtain xs|g|r:=h;show #[xs,by rw[bA n];show g,bv (λ_ _ z=>z.XA hl) r]
theorem xZ {F:α->β->Prop} {f:γ->α}:∀{l:List γ} {l2:List β},Vs (λc x=>F (f c) x) l l2->Vs F (l.11 f) l2:=by
 intro l l2 p
 induction p with
 | nil=>show .nil
 | cons r t ih=>show .cons r ih
theorem dI.Zi (h:dI K H p qs):Et K H p (qs.11 nm):=by obtain xs|g|r:=h;show #[xs,g,xZ (F:=λn x=>vZ K H x n) r]
def cu (K:Xn) (H0 H:Hp) (qs:List Rat) (x:V):Prop:=∃q,x=V.ref q/\H0 q=none/\dI K H q qs
def aP (K:Xn) (H0 H:Hp) (p:Addr) (rows:Xo):Prop:=∃xs,H p=some (.lst xs)/\Vs (cu K H0 H) rows xs/\V.ref p∉xs
theorem dZ {rows:Xo} (h:∃H2,H2 p=none/\Vs (cu K H0 H2) rows ys):V.ref p∉ys:=λhm=>by
 obtain H2|e|pr:=h;obtain qs|_|q|z|_|xs|g|_:=cM pr hm;cases z;rw[e] at g;cases g
variable {H0:Hp} {rows:Xo}
theorem cu.same (h:cu K H0 H qs x) (e:aE H H'):cu K H0 H' qs x:=by obtain q|a|b|c:=h;show #[q,a,b,c.10 e]
theorem cu.Xs (h:cu K H0 H qs x) (u:de b H H') (B:jW H b) (nb:H0 b≠none):cu K H0 H' qs x:=by obtain q|a|c|d:=h;show #[q,a,c,d.Xs u B λz=>nb (by rw[<- z];show c)]
theorem cu.weak (h:cu K H0 H qs x) (e:aE H1 H0):cu K H1 H qs x:=by obtain q|a|b|c:=h;show #[q,a,e.17 b,c]
theorem aP.same (h:aP K H0 H p rows) (e:aE H H'):aP K H0 H' p rows:=by obtain xs|g|r|n:=h;show #[xs,e _ _ g,bv (λ_ _ z=>z.10 e) r,n]
theorem aP.Xs (h:aP K H0 H p rows) (u:de b H H') (B:jW H b) (n:p≠b) (nb:H0 b≠none):aP K H0 H' p rows:=by obtain xs|g|r|nn:=h;show #[xs,u.40 n g,bv (λ_ _ z=>z.Xs u B nb) r,nn]
theorem aP.weak (h:aP K H0 H p rows) (e:aE H1 H0):aP K H1 H p rows:=by obtain xs|g|r|n:=h;show #[xs,g,bv (λ_ _ z=>z.44 e) r,n]
theorem aP.abj (h:aP K H0 H p rows):QT K H p (rows.11 (V9 nm)):=by obtain xs|g|r|_:=h;show #[xs,g,xZ (F:=λns x=>∃q,x=V.ref q/\Et K H q ns) (bv (λ_ _ #[q,a,_,c]=>#[q,a,c.Zi]) r)]
end
def Kd:Kind Rat:=Uj.via nm (λ_ _ e=>Sq e) (λK H x q=>cm K H q x) id
def QE:Kind (List Rat):=Lc Kd
def xG:Kind (Xo):=Lc QE
theorem dI.kind {K:Xn} (h:dI K H p qs):QE.R K H (.ref p) qs:=by obtain xs|g|q:=h;show #[p,xs,rfl,bN.of g,q]
theorem aP.kind {K:Xn} (h:aP K H0 H p rows):xG.R K H (.ref p) rows:=by obtain xs|g|q|_:=h;show #[p,xs,rfl,bN.of g,bv (λ_ _ #[q,a,_,c]=>by rw[a];show c.36) q]
def pK (x:Rat):Prop:=Sz 4000000 (nm x).1/\Sz 4000000 (nm x).2
def Fits (l:List Rat):Prop:=∃M V:Nat,0 < M/\M<=2^900/\V<=2^900/\∀x∈l,Fr M V x
theorem Fits.S! (h:Fits l) (hx:x∈l):pK x:=by
 obtain M|V|h0|h1|h2|h3:=h;obtain a|b:=(h3 x hx).sz h0 h1 h2;show #[a.22 (),b.22 ()]
theorem Fits.ok (h:Fits l) (hx:x∈l):v5 (nm x):=#[iG x,Dt x,(h.S! hx).1.mono (),(h.S! hx).2.mono ()]
theorem Iu {M V:Nat} (h0:0 < M) (h1:M<=2^1800) (h2:V<=2^1810) (h:Fr M V x):pK x:=by
 obtain a|b:=h.sz h0 h1 h2;show #[a.22 (),b.22 ()]
theorem oF (h:pK x):v5 (nm x):=#[iG x,Dt x,h.1.22 (),h.2.22 ()]
inductive pP (K:Xn) (f:Rat->Rat->Rat) (vs:List V) (H:Hp) (Q:VK) (E9:XK):Prop
 | mk (u v:V) (x y:Rat):vs=[u,v]->cm K H x u->cm K H y v->pK x->pK y->(∀r H',aE H H'->cm K H' (f x y) (.ref r)->Q (.ref r) H')->pP K f vs H Q E9
section
variable {K:Xn}
theorem HV (hf:∀x y:Rat,(f x y)*(((nm x).2*(nm y).2:Int):Rat)=((F (nm x).1 (nm x).2 (nm y).1 (nm y).2:Int):Rat)) (h:pP K f vs H Q E):JO K F vs H Q E:=by
 obtain u|v|x|y|rfl|⟨p,rfl,hp⟩|⟨q,rfl,hq⟩|⟨s1,s2⟩|⟨s3,s4⟩|k:=h;refine #[p,q,_,_,_,_,rfl,hp,hq,iG x,iG y,s1,s2,s3,s4,λr H' s g=>k r H' s (cm.mk g ?_)];show qO (jx (iG x) (iG y)) (hf x y)
theorem qG (x:Rat):(((nm x).1:Int):Rat)=x*(((nm x).2:Int):Rat):=by
 change (x.num:Rat)=x*(((x.57:Nat):Int):Rat)
 rw[mT,aW]
theorem Ks (h:pP K (λx y=>x+y) vs H Q E):JO K QL vs H Q E:=HV (λx y=>by
 unfold QL;rw[AH,aT,aT,aT,qG,qG];grind) h
theorem yI (h:pP K (λx y=>x - y) vs H Q E):JO K ND vs H Q E:=HV (λx y=>by
 unfold ND;rw[AG,aT,aT,aT,qG,qG];grind) h
theorem J6 (h:pP K (λx y=>x*y) vs H Q E):JO K NC vs H Q E:=HV (λx y=>by
 unfold NC;rw[aT,aT,qG,qG];grind) h
end
def Jc (M:Int) (ns:List (Int×Int)):Prop:=0 < M/\Sz 4400000 M/\∀n∈ns,0 < n.2/\n.2∣M/\Sz 4400000 n.1
theorem Jc.bot (h:Jc M ns):0 < iw ns/\Sz 4400000 (iw ns):=by
 have hb:∀b∈ns.11 (·.2),0 < b/\b∣M:=λb hb=>by
  obtain n|hn|rfl:=au.mp hb;show #[(h.2.2 n hn).1,(h.2.2 n hn).2.1]
 show #[z6 () λb q=>(hb b q).1,DI h.1 (yN () (Int.one_dvd _) hb) h.2.1]
inductive Mo (K:Xn) (vs:List V) (H:Hp) (Q:VK) (E9:XK):Prop
 | mk (p:Addr) (bs:List Int) (M:Int):vs=[.ref p]->bN K H p (bs.11 V.int)->0 < M->Sz 4400000 M->((∀b∈bs,0 < b/\b∣M))->Q (.int (xE bs 1)) H->Mo K vs H Q E9
inductive Mp (K:Xn) (vs:List V) (H:Hp) (Q:VK) (E9:XK):Prop
 | mk (p:Addr) (ns:List (Int×Int)) (M:Int):vs=[.ref p]->Et K H p ns->ns.9<=1000->Jc M ns->(∀H',aE H H'->Q (.int (iw ns)) H')->Mp K vs H Q E9
inductive EO (K:Xn) (vs:List V) (H:Hp) (Q:VK) (E9:XK):Prop
 | mk (p:Addr) (ns:List (Int×Int)) (M:Int) (B:Int):vs=[.ref p,.int B]->Et K H p ns->ns.9<=1000->Jc M ns->0 < B->Sz 4400000 B->(∀r H',H r=none->aE H H'->H' r=some (.lst ((fY ns B).11 V.int))->Q (.ref r) H')->EO K vs H Q E9
theorem EI (h:Jc M ns) (hB:0 < B) (sB:Sz 4400000 B) (ht:t∈fY ns B):Sz 8800000 t:=by
 obtain n|hn|rfl:=au.mp ht;have hp:=h.2.2 n hn
 have sq:Sz 4400000 (B / n.2):=sB.le (by
  rw[Te ()];show Nat.div_le_self ..)
 show (hp.2.2.mul sq).22 ()
theorem rM (h:(nm x).2∣B):(((nm x).1*(B / (nm x).2):Int):Rat)=x*(B:Rat):=by
 obtain k|rfl:=h;have hp:=iG x;rw[Int.mul_ediv_cancel_left _ (),aT,aT,qG];grind
theorem FD {B C:Int}:∀{xs ys:List Rat},(∀x∈xs,(nm x).2∣B)->(∀y∈ys,(nm y).2∣C)->(((VH (λx y=>x*y) (fY (xs.11 nm) B) (fY (ys.11 nm) C)).sum:Int):Rat)=cS xs ys*((B:Rat)*(C:Rat))
 | [],ys,_,_=>by simp [fY,cS]
 | x :: xs,[],_,_=>by simp [fY,cS]
 | x :: xs,y :: ys,h1,h2=>by
  have ih:=FD (B:=B) (C:=C) (xs:=xs) (ys:=ys) (λz hz=>h1 z (.tail _ hz)) (λz hz=>h2 z (.tail _ hz));have e1:=rM (h1 x (.head _));have e2:=rM (h2 y (.head _));have e3:(VH (λx y=>x*y) (fY ((x :: xs).11 nm) B) (fY ((y :: ys).11 nm) C)).sum=((nm x).1*(B / (nm x).2))*((nm y).1*(C / (nm y).2))+(VH (λx y=>x*y) (fY (xs.11 nm) B) (fY (ys.11 nm) C)).sum:=rfl;have e4:cS (x :: xs) (y :: ys)=x*y+cS xs ys:=rfl;rw[e3,e4,AH,aT,ih,e1,e2];grind
theorem PD (h1:0 < iw (xs.11 nm)) (h2:0 < iw (ys.11 nm)):(lo (NJ (xs.11 nm) (ys.11 nm)) (iw (xs.11 nm)*iw (ys.11 nm)),hi (NJ (xs.11 nm) (ys.11 nm)) (iw (xs.11 nm)*iw (ys.11 nm)))=nm (cS xs ys):=by
 refine qO (jx h1 h2) ?_;unfold NJ;rw[FD (λx hx=>pG (au.mpr #[x,hx,rfl])) (λx hx=>pG (au.mpr #[x,hx,rfl])),aT]
inductive EN (K:Xn) (vs:List V) (H:Hp) (Q:VK) (E9:XK):Prop
 | mk (p:Addr) (w:Nat) (H0:Hp) (rows:Xo):vs=[.ref p,.int w]->aP K H0 H p rows->rows.9<=1000->w<=1000->(∀xs∈rows,xs.9=w)->(∀r H',H r=none->aE H H'->aP K H H' r (aO rows w)->Q (.ref r) H')->EN K vs H Q E9
def jX (m:Nat) (a:Int):List Rat:=(Vt m).11 λ(i:Nat)=>if ((i:Nat):Int)=a then 1 else 0
def bT (m:Nat):Xo:=(Vt m).11 λ(i:Nat)=>jX m i
inductive EM (K:Xn) (vs:List V) (H:Hp) (Q:VK) (E9:XK):Prop
 | mk (m:Nat) (a:Int):vs=[.int m,.int a]->m<=1000->(∀r H',H r=none->aE H H'->dI K H' r (jX m a)->Q (.ref r) H')->EM K vs H Q E9
def KH (K:Xn):Sp:=λvs H Q _=>∃m:Nat,vs=[.int m]/\m<=1000/\∀r H',H r=none->aE H H'->aP K H H' r (bT m)->Q (.ref r) H'
inductive zd (K:Xn) (vs:List V) (H:Hp) (Q:VK) (E9:XK):Prop
 | mk (b:Addr) (w:Nat):vs=[.ref b,.int w]->jW H b->1<=w->w<=1000000->(∀r x H',Dr (max w 6) x->cm K H' x (.ref r)->jW H' b->de b H H'->Q (.ref r) H')->zd K vs H Q E9
inductive EX (K:Xn) (vs:List V) (H:Hp) (Q:VK) (E9:XK):Prop
 | mk (b:Addr) (m w:Nat):vs=[.ref b,.int m,.int w]->jW H b->m<=1000->1<=w->w<=1000000->(∀r xs H',H r=none->dI K H' r xs->xs.9=m->(∀x∈xs,Dr (max w 6) x)->jW H' b->de b H H'->Q (.ref r) H')->EX K vs H Q E9
inductive ER (K:Xn) (vs:List V) (H:Hp) (Q:VK) (E9:XK):Prop
 | mk (p q:Addr) (xs ys:List Rat):vs=[.ref p,.ref q]->dI K H p xs->dI K H q ys->ys.9=xs.9->xs.9<=1000->(∀x∈xs,pK x)->(∀y∈ys,pK y)->(∀r H',H r=none->aE H H'->dI K H' r (VH (λx y=>x+y) xs ys)->Q (.ref r) H')->ER K vs H Q E9
inductive Mq (K:Xn) (vs:List V) (H:Hp) (Q:VK) (E9:XK):Prop
 | mk (u:V) (q:Addr) (c:Rat) (ys:List Rat):vs=[u,.ref q]->cm K H c u->pK c->dI K H q ys->ys.9<=1000->(∀y∈ys,pK y)->(∀r H',H r=none->aE H H'->dI K H' r (ys.11 λy=>c*y)->Q (.ref r) H')->Mq K vs H Q E9
inductive zm (K:Xn) (vs:List V) (H:Hp) (Q:VK) (E9:XK):Prop
 | mk (p:Addr) (H0:Hp) (rows:Xo):vs=[.ref p]->aP K H0 H p rows->rows.9<=1000->(∀xs∈rows,xs.9<=1000)->(∀r H',H r=none->aE H H'->aP K H H' r rows->Q (.ref r) H')->zm K vs H Q E9
section
variable {K:Xn} {g:TG}
theorem cW {F:Hp->α->V->Prop} (G:Hp->β->V->Prop) (f:α->β) (hx:H a=some (.lst xs)) (pf:Vs (F H) as xs) (hl:as.9<=1000)
  (hF:∀{H H' c x},F H c x->aE H H'->F H' c x) (hG:∀{H H' c x},G H c x->aE H H'->G H' c x)
  (hs:∀(i:Nat) c x H' NY NN,as[i]?=some c->aE H H'->F H' c x->(∀y H2,aE H' H2->G H2 (f c) y->NY y H2)->o6 σ₀ g tf te x H' NY NN)
  (hd:∀ys H' p,H p=none->aE H H'->H' p=some (.lst ys)->Vs (G H') (as.11 f) ys->(∃H2,H2 p=none/\Vs (G H2) (as.11 f) ys)->Q (.ref p) H'):pI (Oe K a) σ₀ g tf te Q H:=by
 have lx:=pf.9;refine dn (K:=K) (xs:=xs) (λi ys H'=>aE H H'/\Vs (G H') ((as.21 i).11 f) ys) gU #[aE.refl _,.nil] (λi ys H' _ #[s,_]=>bN.of (s _ _ hx)) ?_ ?_
 ·rintro i x ys H' Xq Xv ⟨s,pr⟩;obtain c|ec|hc:=cN pf Xq;refine hs i c x H' _ _ ec s (hF hc s) λy H2 s2 gy=>#[s.4 s2,?_]
  rw[take_snoc ec,bH];show bD (bv (λ_ _ z=>hG z s2) pr) (.cons gy .nil)
 ·rintro ys H' hy ⟨s,pr⟩ p hp;rw[aH ()] at pr;show hd ys _ p (s.17 hp) (s.4 (aE.new hp)) aK (bv (λ_ _ z=>hG z (aE.new hp)) pr) #[H',hp,pr]
theorem gH (G:Hp->β->V->Prop) (f:Nat->β) (hl:n<=1000) (hG:∀{H H' c x},G H c x->aE H H'->G H' c x)
  (hs:∀(i:Nat) H' NY NN,i < n->aE H H'->(∀y H2,aE H' H2->G H2 (f i) y->NY y H2)->o6 σ₀ g tf te (.int i) H' NY NN)
  (hd:∀ys H' p,H p=none->aE H H'->H' p=some (.lst ys)->Vs (G H') ((Vt n).11 f) ys->(∃H2,H2 p=none/\Vs (G H2) ((Vt n).11 f) ys)->Q (.ref p) H'):pI (GU 0 n) σ₀ g tf te Q H:=by
 refine jM (λi ys H'=>aE H H'/\Vs (G H') ((Vt i).11 f) ys) gU #[aE.refl _,.nil] ?_ ?_
 ·rintro i ys H' hi Xv ⟨s,pr⟩;rw[lY];refine hs i H' _ _ hi s λy H2 s2 gy=>#[s.4 s2,?_]
  rw[rK,bH];show bD (bv (λ_ _ z=>hG z s2) pr) (.cons gy .nil)
 ·rintro ys H' hy ⟨s,pr⟩ p hp;show hd ys _ p (s.17 hp) (s.4 (aE.new hp)) aK (bv (λ_ _ z=>hG z (aE.new hp)) pr) #[H',hp,pr]
theorem Cg (G:Hp->β->V->Prop) (C:β->Prop) (hB:jW H b) (hl:n<=1000) (hG:∀{H' YS c x},G H' c x->de b H' YS->jW H' b->G YS c x)
  (hs:∀(i:Nat) H' NY NN,i < n->de b H H'->jW H' b->(∀y c H2,de b H' H2->jW H2 b->C c->G H2 c y->NY y H2)->o6 σ₀ g tf te (.int i) H' NY NN)
  (hd:∀ys cs H' p,H p=none->de b H H'->jW H' b->H' p=some (.lst ys)->cs.9=n->(∀c∈cs,C c)->Vs (G H') cs ys->(∃H2,H2 p=none/\Vs (G H2) cs ys)->Q (.ref p) H'):pI (GU 0 n) σ₀ g tf te Q H:=by
 refine jM (λi ys H'=>de b H H'/\jW H' b/\∃cs,cs.9=i/\(∀c∈cs,C c)/\Vs (G H') cs ys) gU #[(aE.refl _).Xs,hB,[],rfl,(λ_ z=>nomatch z),.nil] ?_ ?_
 ·rintro i ys H' hi Xv ⟨u,B,cs,lc,hc,pr⟩;rw[lY];refine hs i H' _ _ hi u B λy c H2 u2 B2 cc gy=>#[u.4 u2,B2,cs++[c],by simp [lc],D9 hc cc,bD (bv (λ_ _ z=>hG z u2 B) pr) (.cons gy .nil)]
 ·rintro ys H' hy ⟨u,B,cs,lc,hc,pr⟩ p hp;have s:aE H' (upd H' p (.lst ys)):=aE.new hp;show hd ys cs _ p (u.17 B hp) (u.10 s) (B.10 s) aK lc hc (bv (λ_ _ z=>hG z s.Xs B) pr) #[H',hp,pr]
end
theorem fw {g:TG} {tb:TS} {D:Ends} (Pv:Nat->St->Hp->Prop) (h0:Pv 0 σ H)
  (hs:∀(i:Nat) σ H,i < n->Pv i σ H->g (.int i) σ H λσ2 H2=>tb { D with nx:=Pv (i+1),ct:=Pv (i+1),bk:=D.nx } σ2 H2) (hd:∀σ H,Pv n σ H->D.nx σ H) :
  ∃W:Nat->Nat->St->Hp->Prop,(∃m,W 0 m σ H)/\∀i m σ H,W i m σ H →
   ((GU 0 n).stop i H/\D.nx σ H)\/((GU 0 n).go i H/\∃N:St->Hp->Prop,(∀σ' H',N σ' H'->∃m',m' < m/\W (i+1) m' σ' H')/\∀x H',(GU 0 n).ZQ i H x H'->g x σ H' λσ2 H2=>tb { D with nx:=N,ct:=N,bk:=D.nx } σ2 H2) :=
 BZ (lo:=0) Pv h0 (λi σ H hi p=>by rw[lY];show hs i σ H hi p) hd
theorem nI:rB X (.type "int") (λxs H Q=>∃b:Bool,xs=[.bl b]/\Q (.int (if b=true then 1 else 0)) H):=by
 intro Xe s σ H xs us Q I r h;obtain b|rfl|q:=h;obtain u|rfl|ru:=vals1 r;cases ru;show call_int_bool #[.int _,H,I.tok _,#[_,rfl],q]
theorem JV {st:Stmt}:PS X st (λ_ _ _=>False):=λ_ _ _ _ _ _ h=>h.55
theorem M7 {t b:Int} (hb:0 < b) (h1:t.15<=W) (h2:b.15<=W):∃q:Rat,(lo t b,hi t b)=nm q/\Dr W q/\q*(b:Rat)=(t:Rat):=by
 have Y5:(b:Rat)≠0:=λz=>by have:=yi.mp z;lia
 have e:(t:Rat) / (b:Rat)*(b:Rat)=t:=GV Y5;have h:=qO hb e;refine #[_,h,#[?_,?_],e]
 ·have:=congrArg Prod.fst h;have z:=lo_le (t:=t) (b:=b) ();change ((nm ((t:Rat) / (b:Rat))).1).15<=W
  rw[<- this];show ag z h1
 ·have:=congrArg Prod.snd h;have z:=QJ (t:=t) (b:=b) ();have hd:(((t:Rat) / (b:Rat)).57:Int)=hi t b:=this.20;have hp:=DD (t:=t) hb
  lia
theorem Fx {K:Xn} (h:Vs (cm K H) qs xs) (hj:j < qs.9):∃v,IP xs (j:Int)=some v/\cm K H (qs.3 j 0) v:=by
 have hl:=h.9;refine #[xs[j]'(),ee (by simp),?_];have:=kL h (i:=j) hj ();rwa [aa,ae hj]
theorem Cc {xs ys:List Rat} (h1:i < xs.9) (h2:i < ys.9):cS (xs.21 (i+1)) (ys.21 (i+1))=cS (xs.21 i) (ys.21 i)+xs.3 i 0*ys.3 i 0:=by
 have e1:xs[i]?=some (xs.3 i 0):=by rw[aa,ae h1];rfl
 have e2:ys[i]?=some (ys.3 i 0):=by rw[aa,ae h2];rfl
 unfold cS;rw[take_snoc e1,take_snoc e2,List.zipWith_append (by simp;lia),List.sum_append];simp [tI]
theorem getD_mem {xs:List Rat} (h:i < xs.9):xs.3 i 0∈xs:=by
 rw[aa,ae h];show aG h
theorem KD {xs ys:List Rat} (h:ys.9=xs.9):VH (λx y=>x+y) xs ys=(Vt xs.9).11 λi=>xs.3 i 0+ys.3 i 0:=by
 apply KA;intro i;rw[eX,az];by_cases hi:i < xs.9
 ·rw[bR hi,ae hi,ae (show i < ys.9 by lia)];simp [aa,ae hi,ae (show i < ys.9 by lia)]
 ·rw[aJ (show (Vt xs.9).9<=i by simp;lia),aJ (show xs.9<=i by lia)];rfl
theorem cu.XA {K:Xn} (h:cu K H0 H qs x) (hl:H l=some (.lst ys)) (nl:H0 l≠none):cu K H0 (upd H l o) qs x:=by obtain q|a|b|c:=h;show #[q,a,b,c.XA hl λz=>nl (by rw[<- z];show b)]
theorem jW.at (B:jW H b):H b≠none:=by obtain _|_|_|_|_|e|_:=B;rw[e];simp
theorem Inner.at (B:jW H b) (i:Inner H b q):H q≠none:=by
 obtain q'|i'|xs|e:=B.inner;rw[<- Inner.inj i' i,e];simp
theorem fU {F:α->β->Prop} {l1:List α} {l2:List β} (h:Vs F l1 l2) (hi:i < l1.9):∃x y,l1[i]?=some x/\l2[i]?=some y/\x∈l1/\F x y:=by
 have hl:=h.9;show #[l1[i],l2[i]'(),by simp,by simp,aG _,kL h hi ()]
theorem Kq (h1:-(2^64) < i) (h2:i < 2^64):gM i j:=.inl (.inl #[h1,h2])
theorem PR (h1:-(2^64) < j) (h2:j < 2^64):gM i j:=.inl (.inr #[h1,h2])
def Ta (K : Xn) (l : Addr) : It :=
  #[λi H => ∃ xs x, bN K H l xs /\ xs[i]? = some x,
   λi H v H' => ∃ p x, v = .ref p /\ H p = none /\ H' = upd H p (.tup [.int i, x]) /\ ∀ xs, bN K H l xs → xs[i]? = some x,
   λi H => ∃ xs, bN K H l xs /\ xs.9 ≤ i]
def tnE (e it l:Addr) (i:Nat) (h:Heap):Prop:=(∃old,IsEnum h e it i old)/\h.24 it l i
theorem KE {P:Wa} {w:Wm} {K:Xn} {elts:List Expr} {kk:Nat} {Yp:Pos} (e it l:Addr) (hei:e≠it):Turn P w K (.Tuple elts kk Yp) (Ta K l) [e,it] e (tnE e it l) where
 mem:=by simp
 obj:=λi h st b hb=>by
  obtain ⟨old,he⟩|⟨o1,g1,c1,d1⟩:=st;simp only[aF,aS,or_false] at hb;rcases hb with rfl | rfl
  ·show #[_,he,λv q=>nomatch q]
  ·show #[o1,g1,λv q=>by rw[d1] at q;cases q]
 keep:=λi h h' st k=>by
  obtain ⟨old,he⟩|h1:=st;show #[#[old,k e (by simp) _ he],h1.at λo q=>k it (by simp) o q]
 item:=by
  intro X hP hw hK hc i Xe s σ H E I hf st hg;subst hP hw hK;obtain ⟨old,he⟩|h1:=st;obtain xs|x|qx|ex:=hg;obtain us|rx|px|_:=I.30 qx;obtain u|eu|ru:=rx.get ex;refine wpAny_pyNext_enum_item he h1 px.19 (x:=u) (by simpa using eu) hei λh' a1 a2 a3 a4 hk=>?_
  refine #[_,rfl,wpAny_letOwnedTupleGo_enum a1 λk! aeI hs=>?_];have _e:H s.6=none:=I.Xw.39 (aj _);have ene:s.6≠e:=Ky (Vv he)
  have up:∀b o,b∉[e,it]->s.heap.14 b=some o->k!.14 b=some o:=λb o hb q=>by
   simp only[aF,aS,or_false,not_or] at hb;show (hs.2 b hb.1).4 (hk b o hb.1 hb.2 q)
  have tup:k!.14 s.6=some { cls:=.type "tuple",data:=.seq [.int i s.27,u].12 }:=(hs.2 _ ene).4 a3;have I1:Inv X Xe σ H { s with heap:=k!,toks:=s.27+1 }:=I.moved (g':=s.gens) (d':=s.drawn) (t':=s.27+1) (ch:=[e,it]) hf up I.bare;have fT:kX X Xe H s.6:=I.Yt (aj _) _e;have I2:=I1.Zu (o:=.tup [.int i,x]) fT #[jZ rfl,[.int i s.27,u],.cons #[_,rfl] (.cons ru .nil),#[_,tup,rfl,_,rfl]];refine #[.ref s.6,_,I2,rfl,#[_,x,rfl,_e,rfl,λxs' q=>by rw[I.XE q qx];show ex],?_,λb hb=>?_]
  ·show #[#[_,by simpa using aeI],a2.at λo q=>(hs.2 _ hei.20).4 q]
  ·rw[bA]
   ·show (hf b hb).1
   ·obtain o1|g1|_:=h1;simp only[aF,aS,or_false] at hb;rcases hb with rfl | rfl
    ·show ene.20
    ·show cG (Vv g1)
 done:=by
  intro X hP hw hK hc i Xe s σ H E I hf st hg;subst hP hw hK;obtain ⟨old,he⟩|h1:=st;obtain xs|qx|aaZ:=hg;obtain us|rx|px|_:=I.30 qx;have lx:=rx.9;refine wpAny_pyNext_enum_end (I.ok.hd hc) he h1 px.19 (by simp;lia) λh' hk=>#[rfl,?_]
  show I.moved (g':=s.gens) (d':=s.drawn) (t':=s.27) (ch:=[e,it]) hf (λb o hb q=>hk b o (λz=>hb (by simp [z])) q) I.bare
 self:=λ_ _ _ _ _ st h=>let ⟨⟨_,he⟩,_⟩:=st;wpAny_pyIter_enum he h
section
variable {X:Cx}
def QI (K:Xn) (ta:TA):TI:=λσ H R=>ta σ H λvs H1=>∃l,vs=[.ref l]/\(∃xs,bN K H1 l xs)/\R (Ta K l) H1
theorem JW {a:Expr} {ta:TA} {p pos Yp:Pos} {elts:List Expr} {kk:Nat} (hg:Gl X "enumerate") (hm:X.mg "enumerate"=none) (ha:PA X [a] ta) (hs:Vu [a] X.16=[(false,eval a X.16)]:=by rfl) :
  PI X (.Tuple elts kk Yp) (.Call (.Name "enumerate" p) [a] [] pos) (QI X.K ta):=by
 intro Xe s σ H R I h;refine Call_ (kS I hg hm boot_enumerate (VI (gX (ha pos Xe s σ H _ I h) λus s1 hz=>?_) (by rw[hs];rfl) rfl));obtain vs|H1|I1|r1|q1:=hz;obtain l|e|⟨xs,qx⟩|q:=q1;subst e;obtain u|rfl|ru:=vals1 r1;cases ru;obtain us|rx|px|_:=I1.30 qx;refine call_enumerate_list px.19 λh' a1 a2 a3 hk=>wpAny_pyIter_enum a1 ?_
 have I2:Inv X Xe σ H1 { s1 with heap:=h' }:=I1.59 (t':=s1.27) hk;refine #[_,[s1.6+1,s1.6],_,_,H1,rfl,I2,KE (s1.6+1) s1.heap.objs.35 l (Nat.succ_ne_self _),#[#[_,a1],a2],λb hb=>?_,q]
 have Y5:s1.6<=b:=by
  simp only[aF,aS,or_false] at hb;rcases hb with rfl | rfl <;> first | show rD _ | show aj _
 show I1.Yt Y5 (I1.Xw.39 Y5)
end
theorem MG {K:Xn} (h:ta σ H λvs H1=>∃l,vs=[.ref l]/\(∃xs,bN K H1 l xs)/\R (Ta K l) H1):QI K ta σ H R:=h
theorem NA {K:Xn} {g:TG} {tb:TS} {D:Ends} (Pv:Nat->St->Hp->Prop) (h0:Pv 0 σ H) (hl:∀i σ H,i<=xs.9->Pv i σ H->bN K H l xs)
  (hs:∀i x σ H p,xs[i]?=some x->Pv i σ H->H p=none->g (.ref p) σ (upd H p (.tup [.int i,x])) λσ2 H2=>tb { D with nx:=Pv (i+1),ct:=Pv (i+1),bk:=D.nx } σ2 H2) (hd:∀σ H,Pv xs.9 σ H->D.nx σ H) :
  ∃W:Nat->Nat->St->Hp->Prop,(∃m,W 0 m σ H)/\∀i m σ H,W i m σ H →
   ((Ta K l).stop i H/\D.nx σ H)\/((Ta K l).go i H/\∃N:St->Hp->Prop,(∀σ' H',N σ' H'->∃m',m' < m/\W (i+1) m' σ' H')/\∀x H',(Ta K l).ZQ i H x H'->g x σ H' λσ2 H2=>tb { D with nx:=N,ct:=N,bk:=D.nx } σ2 H2):=by
 refine #[λi m σ H=>m=xs.9 - i/\i<=xs.9/\Pv i σ H,#[xs.9,by simp,be _,h0],?_];rintro i m σ H ⟨rfl,hi,p⟩;have q1:=hl i σ H hi p;by_cases XB:i < xs.9
 ·refine .inr #[#[xs,xs[i],q1,by simp [XB]],Pv (i+1),λσ' H' p'=>#[xs.9 - (i+1),(),rfl,XB,p'],λx H' y=>?_];obtain r|x'|rfl|hr|rfl|e1:=y;show hs i x' σ _ r (e1 xs q1) p hr
 ·have e:i=xs.9:=()
  subst e;show .inl #[#[xs,q1,aj _],hd σ H p]
section
variable {X:Cx}
theorem Pg (K:Xn) {e:Expr} {f:Str} {pos:Pos} {ta:TE} (he:PE X e ta) (hb:W6 e f X.16 (eval e X.16)=eval e X.16) (hK:X.K=K:=by rfl):PE X (.Attribute e f pos) (Q6 K ta f):=by subst hK;show dB he hb
end
theorem RW {K:Xn} (h:ta σ H λx H1=>∃a C dx fs v,x=.ref a/\H1 a=some (.ins C dx fs)/\LZ K C/\ku K C f/\fs.13 f=some v/\Q v H1):Q6 K ta f σ H Q:=h
theorem OR {K:Xn} (h:tv σ H λy H1=>ta σ H1 λx H2=>∃a C dx fs,x=.ref a/\H2 a=some (.ins C dx fs)/\LZ K C/\ku K C f/\fs.9 < 1000 /\
 D.nx σ (upd H2 a (.ins C dx (cy f y fs)))):TQ K ta tv f D σ H:=h
theorem OW (h:ta σ H λx H1=>∃a dx fs,x=.ref a/\H1 a=some (.ins C dx fs)/\fs.13 m=none /\
 t σ H1 λvs H2=>sp (x :: vs) H2 Q E):Qk C m sp [] E ta t σ H Q:=by
 have e:(λ(x:V) H1=>∃a dx fs,x=.ref a/\H1 a=some (.ins C dx fs)/\fs.13 m=none/\t σ H1 λvs H2=>sp (x :: (vs++[])) H2 Q E)=λx H1=>∃a dx fs,x=.ref a/\H1 a=some (.ins C dx fs)/\fs.13 m=none/\t σ H1 λvs H2=>sp (x :: vs) H2 Q E:=by
  funext x H1;simp only[nC]
 change ta σ H (λ(x:V) H1=>∃a dx fs,x=.ref a/\H1 a=some (.ins C dx fs)/\fs.13 m=none/\t σ H1 λvs H2=>sp (x :: (vs++[])) H2 Q E)
 rw[e];show h
theorem OX (h:t σ H λvs H1=>∀x dx,H1 x=none->H1 dx=none->dx≠x →
 sp (.ref x :: vs) (upd (upd H1 dx (.own x)) x (.ins C dx [])) (λv H2=>v=.Xy/\Q (.ref x) H2) E):Ql C sp [] E t σ H Q:=by
 have e:(λvs (H1:Hp)=>∀x dx,H1 x=none->H1 dx=none->dx≠x->sp (.ref x :: (vs++[])) (upd (upd H1 dx (.own x)) x (.ins C dx [])) (λv H2=>v=.Xy/\Q (.ref x) H2) E)=λvs H1=>∀x dx,H1 x=none->H1 dx=none->dx≠x->sp (.ref x :: vs) (upd (upd H1 dx (.own x)) x (.ins C dx [])) (λv H2=>v=.Xy/\Q (.ref x) H2) E:=by
  funext vs H1;simp only[nC]
 change t σ H (λvs (H1:Hp)=>∀x dx,H1 x=none->H1 dx=none->dx≠x->sp (.ref x :: (vs++[])) (upd (upd H1 dx (.own x)) x (.ins C dx [])) (λv H2=>v=.Xy/\Q (.ref x) H2) E)
 rw[e];show h
def Ex (x:Addr) (H H':Hp):Prop:=∀b o,H b=some o->b≠x->H' b=some o
theorem Ex.upd:Ex x H (L2.upd H x o):=λb u h n=>by rw[bA n];show h
def ue (H:Hp) (x:Addr):Prop:=∃C dx fs,H x=some (.ins C dx fs)
section
variable {K:Xn}
theorem cm.exc (h:cm K H q v) (e:Ex x H H') (hx:ue H x):cm K H' q v:=by
 obtain C|dx|fs|hx:=hx;obtain r|er|s:=h;refine #[r,er,?_];rcases s with (h | ⟨o,h⟩) | h
 ·show .inl (.inl (e _ _ h λz=>by rw[z,hx] at h;cases h))
 ·show .inl (.inr #[o,e _ _ h λz=>by rw[z,hx] at h;cases h])
 ·show .inr h
theorem dI.exc (h:dI K H p qs) (e:Ex x H H') (hx:ue H x):dI K H' p qs:=by
 obtain xs|g|r:=h;have Xq:=hx;obtain C|dx|fs|hx:=hx;show #[xs,e _ _ g (λz=>by rw[z,hx] at g;cases g),bv (λ_ _ z=>z.exc e Xq) r]
theorem cu.exc (h:cu K H0 H qs v) (e:Ex x H H') (hx:ue H x):cu K H0 H' qs v:=by obtain q|a|b|c:=h;show #[q,a,b,c.exc e hx]
theorem aP.exc (h:aP K H0 H p rows) (e:Ex x H H') (hx:ue H x):aP K H0 H' p rows:=by
 obtain xs|g|r|n:=h;have Xq:=hx;obtain C|dx|fs|hx:=hx;show #[xs,e _ _ g (λz=>by rw[z,hx] at g;cases g),bv (λ_ _ z=>z.exc e Xq) r,n]
end
def qZ (a b c:Addr) (n i o:Nat):List (Str×V):=cy "outs" (.int o) (cy "look" (.ref c) (cy "ins" (.int i) (cy "put" (.ref b) (cy "states" (.int n) (cy "move" (.ref a) [])))))
theorem uU:(qZ a b c n i o).13 ("look":Str)=some (.ref c):=by
 unfold qZ;rw[bL,if_neg (by decide +kernel),bL,if_pos rfl]
theorem uS:(qZ a b c n i o).13 ("put":Str)=some (.ref b):=by
 unfold qZ;rw[bL,if_neg (by decide +kernel),bL,if_neg (by decide +kernel),bL,if_neg (by decide +kernel),bL,if_pos rfl]
theorem fj:(qZ a b c n i o).13 ("states":Str)=some (.int n):=by
 unfold qZ;rw[bL,if_neg (by decide +kernel),bL,if_neg (by decide +kernel),bL,if_neg (by decide +kernel),bL,if_neg (by decide +kernel),bL,if_pos rfl]
theorem uT:(qZ a b c n i o).13 ("move":Str)=some (.ref a):=by
 unfold qZ;rw[bL,if_neg (by decide +kernel),bL,if_neg (by decide +kernel),bL,if_neg (by decide +kernel),bL,if_neg (by decide +kernel),bL,if_neg (by decide +kernel),bL,if_pos rfl]
theorem Q7 {m:Str} (h1:¬m="outs") (h2:¬m="look") (h3:¬m="ins") (h4:¬m="put") (h5:¬m="states") (h6:¬m="move"):(qZ a b c n i o).13 m=none:=by
 unfold qZ;rw[bL,if_neg h1,bL,if_neg h2,bL,if_neg h3,bL,if_neg h4,bL,if_neg h5,bL,if_neg h6];rfl
theorem HC:(qZ a b c n i o).13 ("turned":Str)=none:=Q7 (by decide +kernel) (by decide +kernel) (by decide +kernel) (by decide +kernel) (by decide +kernel) (by decide +kernel)
theorem eK {k:Str} {v:V}:∀{l:List (Str×V)},(cy k v l).9<=l.9+1
 | []=>aj _
 | (x,y) :: r=>by
  unfold cy
  split
  ·simp
  ·have:=eK (k:=k) (v:=v) (l:=r);simp only[bC]
   lia
structure eO (mv pt lk:Xo):Prop where
 n8:mv.9<=8
 i4:pt.9<=4
 o4:lk.9<=4
 mw:∀xs∈mv,xs.9=mv.9
 pw:∀xs∈pt,xs.9=mv.9
 lw:∀xs∈lk,xs.9=mv.9
def Cq (mv pt lk:Xo):Prop:=∃M V:Nat,0 < M/\M<=2^800/\V<=2^400/\GF M V mv/\GF M V pt/\GF M V lk
def kU (K:Xn) (H0 H:Hp) (C p:Addr) (mv pt lk:Xo):Prop:=∃dx a b c,H p=some (.ins C dx (qZ a b c mv.9 pt.9 lk.9))/\H0 a=none/\H0 b=none/\H0 c=none/\aP K H0 H a mv/\aP K H0 H b pt/\aP K H0 H c lk
section
variable {K:Xn}
theorem kU.same (h:kU K H0 H C p mv pt lk) (e:aE H H'):kU K H0 H' C p mv pt lk:=by obtain dx|a|b|c|g|n1|n2|n3|g1|g2|g3:=h;show #[dx,a,b,c,e _ _ g,n1,n2,n3,g1.10 e,g2.10 e,g3.10 e]
theorem kU.weak (h:kU K H0 H C p mv pt lk) (e:aE H1 H0):kU K H1 H C p mv pt lk:=by obtain dx|a|b|c|g|n1|n2|n3|g1|g2|g3:=h;show #[dx,a,b,c,g,e.17 n1,e.17 n2,e.17 n3,g1.44 e,g2.44 e,g3.44 e]
theorem Cq.fits (h:Cq mv pt lk) (hl:∀x∈l,(∃xs∈mv,x∈xs)\/(∃xs∈pt,x∈xs)\/(∃xs∈lk,x∈xs)\/x=0):Fits l:=by
 obtain M|V|h0|h1|h2|h3|h4|h5:=h;refine #[M,V,h0,ag h1 (ak () ()),ag h2 (ak () ()),λx hx=>?_];rcases hl x hx with ⟨xs,a,b⟩ | ⟨xs,a,b⟩ | ⟨xs,a,b⟩ | rfl
 ·show h3 xs a x b
 ·show h4 xs a x b
 ·show h5 xs a x b
 ·show Fr.zero
theorem eO.turn (h:eO mv pt lk):eO (aO mv mv.9) lk pt:=#[by rw[b7];show h.n8,h.o4,h.i4,λxs hx=>by rw[tx xs hx,b7],λxs hx=>by rw[b7];show h.lw xs hx,λxs hx=>by rw[b7];show h.pw xs hx]
end
def KG:Sp:=λvs H Q _=>∃i:Int,vs=[.int i]/\Q (.bl true) H
def KN (K:Xn):Sp:=λvs H Q _=>∃x n,vs=[x]/\vZ K H x n/\v5 n/\∀H',aE H H'->Q (.bl true) H'
inductive Jt (vs:List V) (H:Hp) (Q:VK) (E9:XK):Prop
 | mk (p:Addr) (xs:List V) (a m:Int):vs=[.ref p,.int a,.int m]->H p=some (.lst xs)->(xs.9:Int)<=m->Q .Xy H->Jt  vs H Q E9
inductive JN (K:Xn) (vs:List V) (H:Hp) (Q:VK) (E9:XK):Prop
 | mk (p:Addr) (H0:Hp) (rows:Xo) (w:Nat):vs=[.ref p,.int w]->aP K H0 H p rows->rows.9<=1000->w<=1000->((∀xs∈rows,xs.9=w/\∀x∈xs,v5 (nm x)))->(∀r H',H r=none->aE H H'->aP K H H' r rows->Q (.ref r) H')->JN K vs H Q E9
def tO (rows:Xo):Prop:=∀xs∈rows,∀x∈xs,v5 (nm x)
inductive JK (K:Xn) (C:Addr) (vs:List V) (H:Hp) (Q:VK) (E9:XK):Prop
 | mk (x dx p q r:Addr) (Hb H0 H1 H2:Hp) (mv pt lk:Xo):vs=[.ref x,.ref p,.ref q,.ref r]->Hb x=none->Hb dx=none->dx≠x->H=upd (upd Hb dx (.own x)) x (.ins C dx [])->aP K H0 Hb p mv->aP K H1 Hb q pt->aP K H2 Hb r lk->eO mv pt lk->tO mv->tO pt->tO lk->(∀H',aE Hb H'->kU K Hb H' C x mv pt lk->Q .Xy H')->JK K C vs H Q E9
theorem Cq.ok (h:Cq mv pt lk):tO mv/\tO pt/\tO lk :=
 #[λxs hx x Xq=>(h.fits (l:=xs) λy hy=>.inl #[xs,hx,hy]).ok Xq,λxs hx x Xq=>(h.fits (l:=xs) λy hy=>.inr (.inl #[xs,hx,hy])).ok Xq,λxs hx x Xq=>(h.fits (l:=xs) λy hy=>.inr (.inr (.inl #[xs,hx,hy]))).ok Xq]
def fZ (K:Xn) (A:Addr->Prop) (H:Hp) (n:Nat) (C:Rat->Prop) (x:V):Prop:=∃q qs,x=V.ref q/\A q/\dI K H q qs/\qs.9=n/\∀y∈qs,C y
section
variable {K:Xn} {A A':Addr->Prop} {H H' H0:Hp} {n:Nat} {C C':Rat->Prop} {x v:V} {q b l p:Addr} {xs zs:List V} {y:Rat} {o:HO}
theorem fZ.same (h:fZ K A H n C x) (e:aE H H'):fZ K A H' n C x:=by obtain q|qs|a|c|r|z:=h;show #[q,qs,a,c,r.10 e,z]
theorem fZ.Xs (h:fZ K A H n C x) (u:de b H H') (B:jW H b) (nb:¬A b):fZ K A H' n C x:=by obtain q|qs|a|c|r|z:=h;show #[q,qs,a,c,r.Xs u B (λe=>nb (by rw[<- e];show c)),z]
theorem fZ.other (h:fZ K A H n C x) (hl:H l=some (.lst zs)) (nl:¬A l):fZ K A (upd H l o) n C x:=by obtain q|qs|a|c|r|z:=h;show #[q,qs,a,c,r.XA hl (λe=>nl (by rw[<- e];show c)),z]
theorem fZ.weak (h:fZ K A H n C x) (w:∀q,A q->A' q) (wc:∀y,C y->C' y):fZ K A' H n C' x:=by obtain q|qs|a|c|r|l|z:=h;show #[q,qs,a,w q c,r,l,λy hy=>wc y (z y hy)]
theorem zK {α β:Type} {F:α->β->Prop} {a:α} {b:β} (h:F a b):∀{l1:List α} {l2:List β} (j:Nat),Vs F l1 l2->Vs F (l1.42 j a) (l2.42 j b)
 | _,_,_,.nil=>.nil
 | _,_,0,.cons _ t=>.cons h t
 | _,_,j+1,.cons r t=>.cons r (zK h j t)
theorem fZ.put (h:fZ K A H n C x) (hq:H q=some (.lst zs)) (hv:cm K H y v) (hc:C y) (j:Nat):fZ K A (upd H q (.lst (zs.42 j v))) n C x:=by
 obtain q1|qs|rfl|a|⟨zs1,g1,pr⟩|l1|c1:=h;by_cases e:q1=q
 ·subst e;rw[hq] at g1;cases g1;refine #[q1,qs.42 j y,rfl,a,#[_,aK,zK (hv.XA hq) j (bv (λ_ _ z=>z.XA hq) pr)],by rw[eQ];show l1,λz hz=>?_];rcases cE hz with hz | rfl
  ·show c1 z hz
  ·show hc
 ·show #[q1,qs,rfl,a,#[zs1,by rw[bA e];show g1,bv (λ_ _ z=>z.XA hq) pr],l1,c1]
theorem fZ.at (h:fZ K A H n C x):∃q zs qs,x=V.ref q/\A q/\H q=some (.lst zs)/\zs.9=n/\Vs (cm K H) qs zs/\qs.9=n/\∀y∈qs,C y:=by obtain q|qs|a|c|⟨zs,g,pr⟩|l|z:=h;show #[q,zs,qs,a,c,g,by rw[<- pr.9];show l,pr,l,z]
end
theorem td {i:Int} (h:i.15<=W) (hW:1<=W):Dr W (i:Rat):=#[h,hW]
def UG (K:Xn) (A:Addr->Prop) (H:Hp) (n:Nat) (C:Rat->Prop) (p:Addr) (m:Nat):Prop:=∃us,H p=some (.lst us)/\us.9=m/\¬A p/\∀x∈us,fZ K A H n C x
structure GO (A:Addr->Prop) (m p l b q0:Addr):Prop where
 am:¬A m
 ap:¬A p
 al:¬A l
 ab:¬A b
 aq:¬A q0
 mb:m≠b
 pb:p≠b
 lb:l≠b
 mp:m≠p
 ml:m≠l
 mq:m≠q0
theorem Ki {M:Nat} {z:Int} (h:z.15<=2):Fr 1 2 (z:Rat):=Fr.int h
theorem DF {z:Int} (hz:z.15<=2) (ha:Fr M W a) (hc:Fr M W c):Fr M (3*W) (a+(z:Rat)*c):=by
 have h:=(Ki (M:=M) hz).mul hc;rw[NZ] at h;show (ha.add h).22 ()
theorem CD {z:Int} (h:z.15<=1000):pK (z:Rat):=Iu (M:=1) (V:=1000) () (bu) (ag (show 1000<=2^10 by decide) (ak () ())) (Fr.int h)
theorem yZ {z:Int} (hz:z.15<=2) (hc:Fr M W c) (h0:0 < M) (h1:M<=2^800) (hW:W<=2^140):pK ((z:Rat)*c):=by
 have h:=(Ki (M:=M) hz).mul hc;rw[NZ] at h;refine Iu h0 (ag h1 (ak () ())) (ag (bc 2 hW) ?_) h;rw[show 2*2^140=2^141 by rw[jD,cw]];show ak () ()
def i5 (A:Addr->Prop) (b m:Addr) (H H':Hp):Prop:=∀c u,H c=some u->c≠b->¬A c->c≠m->H' c=some u
theorem i5.same (h:i5 A b m H H1) (s:aE H1 H2):i5 A b m H H2:=λc u e n1 n2 n3=>s _ _ (h c u e n1 n2 n3)
theorem i5.Xs (h:i5 A b m H H1) (s:de b H1 H2):i5 A b m H H2:=λc u e n1 n2 n3=>s.1 _ _ (h c u e n1 n2 n3) n1
theorem i5.upd (h:i5 A b m H H1) (hq:A q\/q=m):i5 A b m H (L2.upd H1 q o):=λc u e n1 n2 n3=>by
 rw[bA]
 ·show h c u e n1 n2 n3
 ·rintro rfl;rcases hq with hq | hq
  ·show n2 hq
  ·show n3 hq
theorem i5.new (h:i5 A b m H H1) (hA:∀q,H q=none->A q) (B:jW H1 b) (hm:H1 m≠none) (hr:H1 r=none):A r:=by
 by_cases z:A r
 ·show z
 ·cases e:H r with
  | none=>show hA r e
  | some u =>
   have:=h r u e (λy=>B.at (by rw[<- y];show hr)) z (λy=>hm (by rw[<- y];show hr));rw[hr] at this;cases this
structure Kx (K:Xn) (A:Addr->Prop) (n:Nat) (C:Rat->Prop) (r p b q0:Addr) (us:List V) (H0 H:Hp):Prop where
 gr:H r=some (.lst us)
 ru:∀x∈us,fZ K A H n C x
 rp:fZ K A H n C (.ref p)
 YD:jW H b
 YV:Inner H b q0
 up:de b H0 H
section
variable {K:Xn}
theorem Kx.same (h:Kx K A n C r p b q0 us H0 H) (e:aE H H'):Kx K A n C r p b q0 us H0 H':=#[e _ _ h.gr,λx hx=>(h.ru x hx).10 e,h.rp.10 e,h.YD.10 e,(e.Xs (p:=b)).2 _ h.YV,h.up.10 e]
theorem Kx.Xs (h:Kx K A n C r p b q0 us H0 H) (u:de b H H') (B:jW H' b) (nb:¬A b) (rb:r≠b):Kx K A n C r p b q0 us H0 H':=#[u.40 rb h.gr,λx hx=>(h.ru x hx).Xs u h.YD nb,h.rp.Xs u h.YD nb,B,u.2 _ h.YV,h.up.4 u]
theorem Kx.put (h:Kx K A n C r p b q0 us H0 H) (ap:A p) (nr:¬A r) (nb:¬A b) (nq:¬A q0) (hp:H0 p=none) (hv:cm K H y v) (hc:C y) (j:Nat):∃zs,H p=some (.lst zs)/\zs.9=n/\Kx K A n C r p b q0 us H0 (upd H p (.lst (zs.42 j v))):=by
 obtain q|zs|qs|e|a|g|l|_:=h.rp.at;cases e;have ne:∀{z},¬A z->z≠p:=λh e=>h (by rw[e];show ap)
 show #[zs,g,l,by rw[bA (ne nr)];show h.gr,λx hx=>(h.ru x hx).put g hv hc j,h.rp.put g hv hc j,h.YD.upd h.YV (ne nb).20 (ne nq).20,h.YV.upd (ne nb).20,h.up.46 hp]
end
theorem zC {K:Xn} (h:∀x∈us,fZ K A H n C x):∃rows:Xo,Vs (λqs x=>∃q,x=V.ref q/\A q/\dI K H q qs) rows us/\rows.9=us.9/\∀qs∈rows,qs.9=n/\∀y∈qs,C y:=by
 induction us with
 | nil=>show #[[],.nil,rfl,λ_ z=>nomatch z]
 | cons u us ih =>
  obtain rows|pr|l|hr:=ih λx hx=>h x (.tail _ hx)
  obtain q|qs|e|a|r|l1|c:=h u (.head _);refine #[qs :: rows,.cons #[q,e,a,r] pr,by simp [l],λzs hz=>?_];rcases aF.mp hz with rfl | hz
  ·show #[l1,c]
  ·show hr zs hz
theorem HN {K:Xn} {rows:Xo} (pr:Vs (λqs x=>∃q,x=V.ref q/\A q/\dI K H q qs) rows us) (h:∀qs∈rows,qs.9=n/\∀y∈qs,C y):∀x∈us,fZ K A H n C x:=λx hx=>by
 obtain qs|hq|q|e|a|r:=cM pr hx;show #[q,qs,e,a,r,(h qs hq).1,(h qs hq).2]
theorem Ca {n:Nat}:∀{rows:Xo},(∀xs∈rows,xs.9=n)->rows.flatten.9=rows.9*n
 | [],_=>by simp
 | xs :: rows,h=>by
  rw[kx,ai,h xs (.head _),Ca λys hy=>h ys (.tail _ hy),bC,lW,ir]
theorem OO {rows:Xo} (h:∀qs∈rows,qs.9=n/\∀y∈qs,Dr (2^c) y):∃M:Nat,0 < M/\M<=2^(c*(rows.9*n))/\∀qs∈rows,∀y∈qs,Fr M (2^c) y:=by
 have fl:rows.flatten.9=rows.9*n:=Ca λys hy=>(h ys hy).1
 have hm:∀a∈rows.flatten.11 (·.den),0 < a/\a<=2^c:=λa ha=>by
  obtain y|hy|rfl:=au.mp ha;obtain qs|hq|hy:=yj.mp hy;show #[y.den_pos,((h qs hq).2 y hy).2]
 refine #[BP (rows.flatten.11 (·.den)),BN λa ha=>(hm a ha).1,?_,λqs hq y hy=>?_]
 ·have:=Fi (k:=c) (l:=rows.flatten.11 (·.den)) λa ha=>(hm a ha).2
  rwa [af,fl] at this
 ·show (Fr.own y ((h qs hq).2 y hy).1).dvd (BO (au.mpr #[y,yj.mpr #[qs,hq,hy],rfl]))
theorem kT {K:Xn} (h:UG K A H n C p m) (w:∀q,A q->H0 q=none):∃rows,aP K H0 H p rows/\rows.9=m/\∀qs∈rows,qs.9=n/\∀y∈qs,C y:=by
 obtain us|g|l|a|r:=h;obtain rows|pr|lr|hr:=zC r;refine #[rows,#[us,g,bv (λ_ _ #[q,e,aq,rq]=>#[q,e,w q aq,rq]) pr,λhm=>?_],by rw[lr,l],hr];obtain q|_|e|aq|_:=r _ hm;cases e;show a aq
theorem i5.trans (h:i5 A b m H H1) (h':i5 A b m H1 H2):i5 A b m H H2:=λc u e n1 n2 n3=>h' c u (h c u e n1 n2 n3) n1 n2 n3
theorem Mz {K:Xn} {rows:Xo} (pr:Vs (cu K H0 H) rows us) (h:∀qs∈rows,qs.9=n/\∀y∈qs,C y) (w:∀q,V.ref q∈us->H0 q=none->H q≠none->A q):∀x∈us,fZ K A H n C x:=λx hx=>by
 obtain qs|hq|q|e|a|r:=cM pr hx;subst e;show #[q,qs,rfl,w q hx a (by obtain _|g|_:=r;rw[g];simp),r,(h qs hq).1,(h qs hq).2]
def KI:Sp:=λvs H Q _=>∃b,vs=[.ref b]/\jW H b/\∀r (n i o w:Nat) H',H' r=some (.tup [.int n,.int i,.int o,.int w])->n<=5->i<=4->o<=4->(w=4\/w=9\/(w=1000000/\n<=2))->(n=5->i<=2/\o<=2)->jW H' b->de b H H'->Q (.ref r) H'
def gV (K:Xn) (H0 H:Hp) (r:Addr) (mv pt lk:Xo):Prop:=∃m p l,H r=some (.tup [.ref m,.ref p,.ref l])/\H0 m=none/\H0 p=none/\H0 l=none/\aP K H0 H m mv/\aP K H0 H p pt/\aP K H0 H l lk
section
variable {K:Xn}
theorem gV.same (h:gV K H0 H r mv pt lk) (e:aE H H'):gV K H0 H' r mv pt lk:=by obtain m|p|l|g|n1|n2|n3|g1|g2|g3:=h;show #[m,p,l,e _ _ g,n1,n2,n3,g1.10 e,g2.10 e,g3.10 e]
theorem gV.Xs (h:gV K H0 H r mv pt lk) (u:de b H H') (B:jW H b) (nb:H0 b≠none):gV K H0 H' r mv pt lk:=by
 obtain m|p|l|g|n1|n2|n3|g1|g2|g3:=h;show #[m,p,l,u.tup B g,n1,n2,n3,g1.Xs u B (λz=>nb (by rw[<- z];show n1)) nb,g2.Xs u B (λz=>nb (by rw[<- z];show n2)) nb,g3.Xs u B (λz=>nb (by rw[<- z];show n3)) nb]
theorem gV.weak (h:gV K H0 H r mv pt lk) (e:∀q,H0 q=none->H1 q=none):gV K H1 H r mv pt lk:=by
 obtain m|p|l|g|n1|n2|n3|⟨x1,y1,z1,w1⟩|⟨x2,y2,z2,w2⟩|⟨x3,y3,z3,w3⟩:=h;show #[m,p,l,g,e _ n1,e _ n2,e _ n3,#[x1,y1,bv (λ_ _ #[q,a,b,c]=>#[q,a,e _ b,c]) z1,w1],#[x2,y2,bv (λ_ _ #[q,a,b,c]=>#[q,a,e _ b,c]) z2,w2],#[x3,y3,bv (λ_ _ #[q,a,b,c]=>#[q,a,e _ b,c]) z3,w3]]
end
inductive y8 (K:Xn) (C:Addr) (vs:List V) (H:Hp) (Q:VK) (E9:XK):Prop
 | mk (r:Addr) (H0:Hp) (mv pt lk:Xo):vs=[.ref r]->gV K H0 H r mv pt lk->eO mv pt lk->Cq mv pt lk->(∀x H',H x=none->aE H H'->kU K H H' C x mv pt lk->Q (.ref x) H')->y8 K C vs H Q E9
theorem Ow (h:i < w):(aO rows w)[i]?=some (rows.11 λxs=>xs.3 i 0):=by
 unfold aO;rw[az,bR h];rfl
def rn (J:Addr->Prop) (H H':Hp):Prop:=∀c u,H c=some u->(J c->∀xs,u≠.lst xs)->H' c=some u
theorem rn.of (e:aE H H'):rn J H H':=λc u h _=>e c u h
theorem rn.trans (a:rn J H H1) (b:rn J H1 H'):rn J H H':=λc u h n=>b c u (a c u h n) n
theorem rn.set (h:H p=some (.lst xs)) (hJ:J p):rn J H (upd H p (.lst ys)):=λc u e n=>by
 by_cases z:c=p
 ·subst z;rw[h] at e;cases e;show absurd rfl (n hJ xs)
 ·rw[bA z];show e
def rF (k j:Nat) (l:List Rat):Prop:=∃M V:Nat,0 < M/\M<=2^k/\V<=2^j/\∀x∈l,Fr M V x
section
variable {k j k' j':Nat} {l xs ys:List Rat} {x y:Rat}
theorem rF.S! (h:rF k j l) (hx:x∈l) (hk:k+j<=3950000:=by decide):pK x:=by
 obtain M|V|h0|h1|h2|h3:=h;obtain a|b:=(h3 x hx).sz h0 h1 h2;show #[a.22 (),b.22 ()]
theorem rF.Z5 (h:rF k j l) (hk:k+j<=4200000:=by decide):∃M,Jc M (l.11 nm):=by
 obtain M|V|h0|h1|h2|h3:=h;refine #[M,(),?_,λn hn=>?_]
 ·change ((M:Nat):Int).15 < 2^4400000
  rw[cQ];show bw h1 (fF () ())
 ·obtain x|hx|rfl:=au.mp hn;obtain a|_:=(h3 x hx).sz h0 h1 h2;show #[iG x,(h3 x hx).57,a.22 ()]
theorem rF.one (h:rF k j l) (hx:x∈l):rF k j [x]:=by
 obtain M|V|h0|h1|h2|h3:=h;show #[M,V,h0,h1,h2,λy hy=>by rw[cA.mp hy];show h3 x hx]
theorem NI (h:rF k j xs) (h':rF k' j' ys) (hl:xs.9<=1000) (i:Nat) (hk:(k+k')+(j+j')<=3930000:=by decide):pK (cS (xs.21 i) (ys.21 i)):=by
 obtain M|V|h0|h1|h2|h3:=h;obtain N|W|k0|k1|k2|k3:=h'
 have e:1000*(V*W)<=2^(10+(j+j')):=by
  rw[bg 2 10];show aI () (ag (aI h2 k2) (by rw[<- bg];show aj _))
 obtain a|b:=((Fr.dot (λx hx=>h3 x (b6 hx)) (λy hy=>k3 y (b6 hy))).22 (ax _ (show (xs.21 i).9<=1000 by rw[bU];lia))).sz (bY h0 k0) (ag (aI h1 k1) (by rw[<- bg];show aj _)) e;show #[a.22 (),b.22 ()]
theorem MV (hx:rF k j [x]) (hy:rF k' j' [y]) (hk:(k+k')+(j+j')<=3930000:=by decide):pK (x*y):=by
 obtain M|V|h0|h1|h2|h3:=hx;obtain N|W|k0|k1|k2|k3:=hy;obtain a|b:=((h3 x (.head _)).mul (k3 y (.head _))).sz (bY h0 k0) (ag (aI h1 k1) (by rw[<- bg];show aj _)) (ag (aI h2 k2) (by rw[<- bg];show aj _));show #[a.22 (),b.22 ()]
def v9 (xs ys:List Rat):Prop:=∃k j k' j':Nat,rF k j xs/\rF k' j' ys/\(k+k')+(j+j')<=3930000
end
def N6 (mv pt lk:Xo):Prop:=∃M V:Nat,0 < M/\M<=2^400/\V<=2^120/\GF M V mv/\GF M V pt/\GF M V lk
theorem N6.sf (h:N6 mv pt lk):Cq mv pt lk:=by obtain M|V|a|b|c|d:=h;show #[M,V,a,ag b (ak () ()),ag c (ak () ()),d]
inductive CG (K:Xn) (vs:List V) (H:Hp) (Q:VK) (E9:XK):Prop
 | mk (p q:Addr) (xs ys:List Rat):vs=[.ref p,.ref q]->dI K H p xs->dI K H q ys->ys.9=xs.9->xs.9<=1000->v9 xs ys->(∀r H',aE H H'->cm K H' (cS xs ys) (.ref r)->Q (.ref r) H')->CG K vs H Q E9
inductive CF (K:Xn) (vs:List V) (H:Hp) (Q:VK) (E9:XK):Prop
 | mk (p q:Addr) (H0:Hp) (rows:Xo) (ys:List Rat):vs=[.ref p,.ref q]->aP K H0 H p rows->dI K H q ys->rows.9<=1000->ys.9<=1000->((∀xs∈rows,xs.9=ys.9/\v9 xs ys))->(∀r H',H r=none->aE H H'->dI K H' r (rows.11 λxs=>cS xs ys)->Q (.ref r) H')->CF K vs H Q E9
theorem uR (h:GF M W rows):GF M W (aO rows w):=λys hy y YY=>by
 obtain j|_|rfl:=au.mp hy;obtain xs|hx|rfl:=au.mp YY;rw[aa];cases e:xs[j]? with
 | none=>show Fr.zero
 | some z=>show h xs hx z (ar e)
theorem TK {i:Int} (h:i=0\/i=1):Fr 1 1 (i:Rat):=Fr.int (by rcases h with rfl | rfl <;> decide)
theorem tV {α β:Type} {F:α->β->Prop}:∀{l1:List α} {l2:List β} (_:Vs F l1 l2) (k:Nat),Vs F (l1.47 k) (l2.47 k)
 | _,_,h,0=>h
 | _,_,.nil,_+1=>.nil
 | _,_,.cons _ r,k+1=>tV r k
end L2
namespace L2
abbrev jV:=Nat->Rat
def AK (F:List jV->Rat) (r:Nat):List jV->List jV->Rat->Rat
 | _,[],_=>0
 | pre,v :: post,s=>s*v r*F (pre++post)+AK F r (pre++[v]) post (-s)
def rH:List Nat->List jV->Rat
 | [],[]=>1
 | [],_ :: _=>0
 | r :: rs,vs=>AK (λws=>rH rs ws) r [] vs 1
theorem DK:rH [] (a++x :: b)=0:=by
 cases a <;> rfl
theorem Dv {F:List jV->Rat} {r:Nat} {f g h:jV} {x y:Rat} (hF:∀a b,F (a++h :: b)=x*F (a++f :: b)+y*F (a++g :: b)):∀(b p q:List jV) (s:Rat),AK F r (p++h :: q) b s=x*AK F r (p++f :: q) b s+y*AK F r (p++g :: q) b s
 | [],p,q,s=>by simp only[AK,bB,tI]
 | v :: b,p,q,s=>by
  have i1:=hF p (q++b);have i2:=Dv (r:=r) hF b p (q++[v]) (-s);simp only[AK,cp,fe] at i1 i2 ⊢;rw[i1,i2];grind
theorem Ka {F:List jV->Rat} {r:Nat} {f g h:jV} {x y:Rat} (hF:∀a b,F (a++h :: b)=x*F (a++f :: b)+y*F (a++g :: b)) (hr:h r=x*f r+y*g r):∀(a pre b:List jV) (s:Rat),AK F r pre (a++h :: b) s=x*AK F r pre (a++f :: b) s+y*AK F r pre (a++g :: b) s
 | [],pre,b,s=>by
  have i2:=Dv (r:=r) hF b pre [] (-s);simp only[AK,c8] at i2 ⊢;rw[i2,hr];grind
 | v :: a,pre,b,s=>by
  have i1:=hF (pre++a) b;have i2:=Ka hF hr a (pre++[v]) b (-s);simp only[AK,cp,fe] at i1 i2 ⊢;rw[i1,i2];grind
theorem uO {f g h:jV} {x y:Rat}:∀{rs:List Nat},(∀r∈rs,h r=x*f r+y*g r)->∀a b,rH rs (a++h :: b)=x*rH rs (a++f :: b)+y*rH rs (a++g :: b)
 | [],_,a,b=>by rw[DK,DK,DK];grind
 | r :: rs,hr,a,b=>Ka (λa b=>uO (λr' h'=>hr r' (.tail _ h')) a b) (hr r (.head _)) a [] b 1
theorem DJ (hr:∀r∈rs,h r=0) (a b:List jV):rH rs (a++h :: b)=0:=by
 rw[uO (f:=h) (g:=h) (x:=0) (y:=0) (λr h'=>by rw[hr r h'];grind) a b];grind
theorem Kb {F:List jV->Rat} {r:Nat} {x:jV} (hF:∀a b,F (a++x :: x :: b)=0):∀(b p q:List jV) (s:Rat),AK F r (p++x :: x :: q) b s=0
 | [],p,q,s=>rfl
 | v :: b,p,q,s=>by
  have i1:=hF p (q++b);have i2:=Kb (r:=r) hF b p (q++[v]) (-s);simp only[AK,cp,fe] at i1 i2 ⊢;rw[i1,i2];grind
theorem Kc {F:List jV->Rat} {r:Nat} {x:jV} (hF:∀a b,F (a++x :: x :: b)=0):∀(a pre b:List jV) (s:Rat),AK F r pre (a++x :: x :: b) s=0
 | [],pre,b,s=>by
  have i2:=Kb (r:=r) hF b pre [] (- -s);simp only[AK,c8,cp,fe] at i2 ⊢;rw[i2];grind
 | v :: a,pre,b,s=>by
  have i1:=hF (pre++a) b;have i2:=Kc (r:=r) hF a (pre++[v]) b (-s);simp only[AK,cp,fe] at i1 i2 ⊢;rw[i1,i2];grind
theorem Ah {x:jV}:∀{rs:List Nat} (a b:List jV),rH rs (a++x :: x :: b)=0
 | [],a,b=>DK
 | r :: rs,a,b=>Kc (λa b=>Ah a b) a [] b 1
theorem PB (a b:List jV):rH rs (a++x :: y :: b)=- rH rs (a++y :: x :: b):=by
 have hr:∀r∈rs,(λr=>1*x r+1*y r) r=1*x r+1*y r:=λ_ _=>rfl
 have h0:=Ah (x:=λr=>1*x r+1*y r) (rs:=rs) a b;have h1:=uO hr a ((λr=>1*x r+1*y r) :: b);have h2:=uO hr (a++[x]) b;have h3:=uO hr (a++[y]) b;have h4:=Ah (x:=x) (rs:=rs) a b;have h5:=Ah (x:=y) (rs:=rs) a b;simp only[cp,fe,c8] at h0 h1 h2 h3 h4 h5;rw[h1,h2,h3,h4,h5] at h0;grind
theorem DL {x:jV} {rs:List Nat}:∀(b a c:List jV),rH rs (a++x :: (b++x :: c))=0
 | [],a,c=>Ah a c
 | y :: b,a,c=>by
  have:=DL (x:=x) (rs:=rs) b (a++[y]) c;simp only[cp,fe,c8] at this;rw[fe,PB,this];rfl
def aV:Nat->(Nat->Rat)->Rat
 | 0,_=>0
 | k+1,f=>aV k f+f k
theorem ay {f g:Nat->Rat}:∀{k:Nat},(∀j,j < k->f j=g j)->aV k f=aV k g
 | 0,_=>rfl
 | k+1,h=>by
  change aV k f+f k=aV k g+g k
  rw[ay λj hj=>h j (),h k ()]
theorem jm {f g:Nat->Rat}:∀{k:Nat},aV k (λj=>f j+g j)=aV k f+aV k g
 | 0=>by change (0:Rat)=0+0;grind
 | k+1=>by
  change aV k (λj=>f j+g j)+_=(aV k f+f k)+(aV k g+g k)
  rw[jm];grind
theorem bK {f:Nat->Rat} {c:Rat}:∀{k:Nat},aV k (λj=>c*f j)=c*aV k f
 | 0=>by change (0:Rat)=c*0;grind
 | k+1=>by
  change aV k (λj=>c*f j)+_=c*(aV k f+f k)
  rw[bK];grind
theorem bJ {f:Nat->Rat}:∀{k:Nat},(∀j,j < k->f j=0)->aV k f=0
 | 0,_=>rfl
 | k+1,h=>by
  change aV k f+f k=0
  rw[bJ λj hj=>h j (),h k ()];grind
theorem cx {f:Nat->Rat} {i:Nat}:∀{k:Nat},i < k->(∀j,j < k->j≠i->f j=0)->aV k f=f i
 | k+1,hi,h=>by
  change aV k f+f k=f i
  by_cases e:i=k
  ·subst e;rw[bJ λj hj=>h j () ()];grind
  ·rw[cx () λj hj=>h j (),h k () (λz=>e z.20)];grind
theorem cT {f:Nat->Nat->Rat} {m:Nat}:∀{k:Nat},aV k (λi=>aV m (f i))=aV m (λj=>aV k λi=>f i j)
 | 0=>(bJ λ_ _=>rfl).20
 | k+1=>by
  change aV k (λi=>aV m (f i))+aV m (f k)=aV m (λj=>aV k (λi=>f i j)+f k j)
  rw[cT,jm]
theorem Iz {rs:List Nat} {W:jV} {v:Nat->jV} {c:Nat->Rat} (a b:List jV):∀{k:Nat} {W:jV},(∀r∈rs,W r=aV k λj=>c j*v j r)->rH rs (a++W :: b)=aV k λj=>c j*rH rs (a++v j :: b)
 | 0,W,h=>DJ h a b
 | k+1,W,h=>by
  rw[uO (f:=λr=>aV k λj=>c j*v j r) (g:=v k) (x:=1) (y:=c k) (λr hr=>by rw[h r hr];change aV k _+_=_;grind) a b,Iz a b (k:=k) (W:=λr=>aV k λj=>c j*v j r) λr _=>rfl];change _=aV k _+_
  grind
end L2
namespace L2
open Nm
def xo (f:Nat->Nat):Nat->List Nat
 | 0=>[]
 | k+1=>f k :: xo f k
def qT (v:Nat->jV):Nat->List jV
 | 0=>[]
 | k+1=>v k :: qT v k
def LV (v:Nat->jV) (i:Nat):Nat->List jV
 | 0=>[]
 | k+1=>if k<=i then [] else v k :: LV v i k
theorem sP {f:Nat->Nat}:∀{k:Nat},(xo f k).9=k
 | 0=>rfl
 | k+1=>by change (xo f k).9+1=_;rw[sP]
theorem XS {v:Nat->jV}:∀{k:Nat},(qT v k).9=k
 | 0=>rfl
 | k+1=>by change (qT v k).9+1=_;rw[XS]
theorem oT {f:Nat->Nat} {r:Nat}:∀{k:Nat},r∈xo f k->∃t,t < k/\r=f t
 | k+1,h=>by
  rcases aF.mp h with h | h
  ·show #[k,(),h]
  ·obtain t|a|b:=oT h;show #[t,(),b]
theorem zD {f g:Nat->Nat}:∀{k:Nat},(∀j,j < k->f j=g j)->xo f k=xo g k
 | 0,_=>rfl
 | k+1,h=>by
  change f k :: xo f k=g k :: xo g k
  rw[h k (),zD λj hj=>h j ()]
theorem Yu {f g:Nat->jV}:∀{k:Nat},(∀j,j < k->f j=g j)->qT f k=qT g k
 | 0,_=>rfl
 | k+1,h=>by
  change f k :: qT f k=g k :: qT g k
  rw[h k (),Yu λj hj=>h j ()]
theorem Y6 {v:Nat->jV} {j:Nat}:∀{k:Nat},j < k->v j∈qT v k
 | k+1,h=>by
  by_cases e:j=k
  ·subst e;show .head _
  ·show .tail _ (Y6 ())
theorem Yj {v:Nat->jV} {x:jV}:∀{k:Nat},x∈qT v k->∃t,t < k/\x=v t
 | k+1,h=>by
  rcases aF.mp h with h | h
  ·show #[k,(),h]
  ·obtain t|a|b:=Yj h;show #[t,(),b]
theorem NP {v:Nat->jV} {i j:Nat} (h1:i < j):∀{k:Nat},j < k->v j∈LV v i k
 | k+1,h=>by
  change v j∈if k<=i then [] else v k :: LV v i k
  rw[if_neg ()];by_cases e:j=k
  ·subst e;show .head _
  ·show .tail _ (NP h1 ())
theorem F1 {v:Nat->jV} {i:Nat} {x:jV}:∀{k:Nat},x∈LV v i k->∃t,t < k/\x=v t
 | k+1,h=>by
  have h:x∈if k<=i then [] else v k :: LV v i k:=h
  split at h
  ·cases h
  ·rcases aF.mp h with h | h
   ·show #[k,(),h]
   ·obtain t|a|b:=F1 h;show #[t,(),b]
theorem XF {v:Nat->jV} {i:Nat}:∀{k:Nat},i < k->qT v k=LV v i k++v i :: qT v i
 | k+1,h=>by
  change v k :: qT v k=(if k<=i then [] else v k :: LV v i k)++_
  by_cases e:i=k
  ·subst e;rw[if_pos (aj _)];rfl
  ·rw[if_neg (),XF (k:=k) (i:=i) ()];rfl
theorem Cb {c:Nat->Rat} (hi:i < k) (hW:∀r∈rs,W r=aV k λj=>c j*v j r):rH rs (LV v i k++W :: qT v i)=c i*rH rs (qT v k):=by
 rw[Iz (v:=v) (c:=c) (W:=W) _ _ hW,cx hi λj hj ne=>?_,XF hi];rcases aY j i with h | h
 ·obtain s|t|e:=GZ (Y6 (v:=v) h);rw[e,DL];grind
 ·obtain s|t|e:=GZ (NP (v:=v) (show i < j by lia) hj);have:=DL (x:=v j) (rs:=rs) t s (qT v i);rw[e,cp,fe,this];grind
theorem SQ {c:Nat->Rat} (hW:∀r∈rs,W r=aV k λj=>c j*v j r):rH rs (W :: qT v k)=0:=by
 have:=Iz (v:=v) (c:=c) (W:=W) [] (qT v k) hW;rw[c8] at this;rw[this];refine bJ λj hj=>?_
 obtain s|t|e:=GZ (Y6 (v:=v) hj);have:=DL (x:=v j) (rs:=rs) s [] t;rw[c8] at this;rw[e,c8,this];grind
theorem Li {c:Nat->Rat} (hi:i∉rs) (h1:W i=aV k (λj=>c j*v j i)+s) (hW:∀r∈rs,W r=aV k λj=>c j*v j r):rH (i :: rs) (W :: qT v k)=s*rH rs (qT v k):=by
 have e:=uO (rs:=i :: rs) (h:=W) (f:=λr=>aV k λj=>c j*v j r) (g:=λr=>if r=i then 1 else 0) (x:=1) (y:=s) (λr hr=>by
  rcases aF.mp hr with rfl | hr
  ·rw[h1,if_pos rfl];grind
  ·rw[hW r hr,if_neg (λz=>hi (by rw[<- z];show hr))];grind) [] (qT v k)
 rw[c8,c8,c8,SQ (c:=c) λr _=>rfl] at e
 have e2:rH (i :: rs) ((λr=>if r=i then (1:Rat) else 0) :: qT v k)=rH rs (qT v k):=by
  change 1*(if i=i then (1:Rat) else 0)*rH rs ([]++qT v k)+AK (λws=>rH rs ws) i ([]++[λr=>if r=i then (1:Rat) else 0]) (qT v k) (-1)=_
  have hF:∀a b,(λws=>rH rs ws) (a++(λr=>if r=i then (1:Rat) else 0) :: b)=0*(λws=>rH rs ws) (a++(λr=>if r=i then (1:Rat) else 0) :: b)+0*(λws=>rH rs ws) (a++(λr=>if r=i then (1:Rat) else 0) :: b):=λa b=>by
   have:=DJ (h:=λr=>if r=i then (1:Rat) else 0) (rs:=rs) (λr hr=>if_neg λz=>hi (by rw[<- z];show hr)) a b
   dsimp only
   rw[this];grind
  have:=Dv (r:=i) hF (qT v k) [] [] (-1);rw[this,if_pos rfl,c8];grind
 rw[e2] at e;rw[e];grind
theorem QC {F:List jV->Rat} {r B W:Nat}:∀{post pre:List jV} {s:Rat},(∀ws,(∀w∈ws,w∈pre++post)->ws.9+1=(pre++post).9->Fr 1 B (F ws))->(∀w∈post,Fr 1 W (w r))->Fr 1 1 s->Fr 1 (post.9*(W*B)) (AK F r pre post s)
 | [],pre,s,_,_,_=>by change Fr 1 _ 0;show Fr.zero
 | v :: post,pre,s,hF,hw,hs=>by
  have t1:Fr 1 (W*B) (s*v r*F (pre++post)):=by
   have:=(hs.mul (hw v (.head _))).mul (hF (pre++post) (λw h=>by
    rcases ao.mp h with h | h
    ·show cI _ h
    ·show aU _ (.tail _ h)) (by simp only[ai,bC];lia))
   simpa using this
  have t2:=QC (F:=F) (r:=r) (B:=B) (W:=W) (post:=post) (pre:=pre++[v]) (s:=-s) (λws h h'=>hF ws (λw hw=>by simpa using h w hw) (by simpa using h')) (λw h=>hw w (.tail _ h)) (by simpa using hs.neg);show (t1.add t2).22 (by rw[bC,lW];lia)
theorem Ag {W N:Nat}:∀{rs:List Nat} {vs:List jV},vs.9<=N->(∀v∈vs,∀r∈rs,Fr 1 W (v r))->Fr 1 ((N*W)^rs.9) (rH rs vs)
 | [],[],_,_=>by change Fr 1 1 1;show (Fr.int (i:=1) ())
 | [],_ :: _,_,_=>by change Fr 1 _ 0;show Fr.zero
 | r :: rs,vs,hl,h=>by
  have:=QC (F:=λws=>rH rs ws) (r:=r) (B:=(N*W)^rs.9) (W:=W) (post:=vs) (pre:=[]) (s:=1) (λws h1 h2=>Ag (by rw[c8] at h2;lia) λv hv r' Zp=>h v (by simpa using h1 v hv) r' (.tail _ Zp)) (λw hw=>h w hw r (.head _)) (Fr.int (i:=1) ());refine this.22 ?_;rw[bC,jD,cw ((N*W)^rs.9),b9 N];show ax _ hl
structure wj (a:Nat->Nat->Rat) (m k:Nat) (pm p:Nat->Nat) (l:Nat->Nat->Rat) (d:Rat):Prop where
 inj:∀i j,i < m->j < m->pm i=pm j->i=j
 Ym:∀i,i < m->pm i < m
 km:k<=m
 d0:d≠0
 det:d=rH (xo pm k) (qT (λj r=>a r (p j)) k)
 Zs:∀i,i < m->∀c,d*a (pm i) c=aV k (λj=>a (pm i) (p j)*l j c)+if i < k then 0 else l i c
 unit:∀i,i < m->∀j,j < k->l i (p j)=if i=j then d else 0
section
variable {a l:Nat->Nat->Rat} {m k:Nat} {pm p:Nat->Nat} {d:Rat}
theorem wj.start (h:∀i,i < m->pm i=i):wj a m 0 pm p a 1 where
 inj i j hi hj e:=by rw[h i hi,h j hj] at e;show e
 Ym i hi:=by rw[h i hi];show hi
 km:=be _
 d0:=()
 det:=rfl
 Zs i hi c:=by
  rw[h i hi,if_neg ()];change 1*a i c=0+a i c
  grind
 unit i _ j hj:=absurd hj ()
theorem wj.Yl (B:wj a m k pm p l d) (hi:i < m):a (pm i) c=aV k (λj=>(l j c / d)*a (pm i) (p j))+if i < k then 0 else l i c / d:=by
 have h:=B.Zs i hi c;have d0:=B.d0
 have e:aV k (λj=>(l j c / d)*a (pm i) (p j))=(1 / d)*aV k (λj=>a (pm i) (p j)*l j c):=by
  rw[<- bK];show ay λj _=>by grind
 rw[e]
 split at h
 ·rw[if_pos (by assumption)];grind
 ·rw[if_neg (by assumption)];grind
theorem wj.old (B:wj a m k pm p l d) (hi:i < k):l i c=rH (xo pm k) (LV (λj r=>a r (p j)) i k++(λr=>a r c) :: qT (λj r=>a r (p j)) i):=by
 have km:=B.km;have d0:=B.d0;rw[Cb (v:=λj r=>a r (p j)) (c:=λj=>l j c / d) hi λr hr=>?_,<- B.det]
 ·grind
 ·obtain t|ht|rfl:=oT hr;have:=B.Yl (i:=t) (c:=c) ();rw[if_pos ht] at this;rw[this];grind
theorem wj.new (B:wj a m k pm p l d) (h1:k<=i) (hi:i < m):l i c=rH (pm i :: xo pm k) ((λr=>a r c) :: qT (λj r=>a r (p j)) k):=by
 have km:=B.km;have d0:=B.d0
 have hn:pm i∉xo pm k:=λhm=>by
  obtain t|ht|e:=oT hm;have:=B.inj i t hi () e
  lia
 have e1:a (pm i) c=aV k (λj=>(l j c / d)*a (pm i) (p j))+l i c / d:=by
  have:=B.Yl (i:=i) (c:=c) hi;rwa [if_neg ()] at this
 have e2:∀r∈xo pm k,a r c=aV k (λj=>(l j c / d)*a r (p j)):=λr hr=>by
  obtain t|ht|rfl:=oT hr;have:=B.Yl (i:=t) (c:=c) ();rw[if_pos ht] at this;rw[this];grind
 rw[Li (v:=λj r=>a r (p j)) (c:=λj=>l j c / d) (W:=λr=>a r c) (s:=l i c / d) hn e1 e2,<- B.det];grind
theorem wj.fr (B:wj a m k pm p l d) (hN:k < N) (hW:1<=W) (ha:∀i,i < m->∀c,Fr 1 W (a i c)) (hi:i < m):Fr 1 ((N*W)^(k+1)) (l i c):=by
 have km:=B.km;have mono:∀t,t<=k+1->(N*W)^t<=(N*W)^(k+1):=λt ht=>ak (bY () hW) ht
 have ZX:∀r∈xo pm k,∀c,Fr 1 W (a r c):=λr hr c=>by
  obtain t|ht|rfl:=oT hr;show ha _ (B.Ym t ()) c
 by_cases h:i < k
 ·rw[B.old h];refine (Ag (W:=W) (N:=N) ?_ ?_).22 (mono _ (by rw[sP];lia))
  ·have:=congrArg Wt (XF (v:=λj r=>a r (p j)) h);rw[ai,bC,XS] at this;rw[ai,bC]
   lia
  ·intro v hv r hr;rcases ao.mp hv with hv | hv
   ·obtain t|_|rfl:=F1 hv;show ZX r hr _
   ·rcases aF.mp hv with rfl | hv
    ·show ZX r hr _
    ·obtain t|_|rfl:=Yj hv;show ZX r hr _
 ·rw[B.new () hi];refine (Ag (W:=W) (N:=N) ?_ ?_).22 (mono _ (by rw[bC,sP];lia))
  ·rw[bC,XS]
   lia
  ·intro v hv r hr
   have Zp:∀c,Fr 1 W (a r c):=λc=>by
    rcases aF.mp hr with rfl | hr
    ·show ha _ (B.Ym i hi) c
    ·show ZX r hr c
   rcases aF.mp hv with rfl | hv
   ·show Zp _
   ·obtain t|_|rfl:=Yj hv;show Zp _
theorem wj.dfr (B:wj a m k pm p l d) (hN:k<=N) (ha:∀i,i < m->∀c,Fr 1 W (a i c)):Fr 1 ((N*W)^k) d:=by
 have km:=B.km;rw[B.det]
 have:=Ag (W:=W) (N:=N) (rs:=xo pm k) (vs:=qT (λj r=>a r (p j)) k) (by rw[XS];show hN) λv hv r hr=>by
  obtain t|ht|rfl:=oT hr;obtain t'|_|rfl:=Yj hv;show ha _ (B.Ym t ()) _
 rwa [sP] at this
def kB (k t i:Nat):Nat:=if i=k then t else if i=t then k else i
theorem tP (hk:k < m) (ht:t < m) (hi:i < m):kB k t i < m:=by
 unfold kB
 split
 ·show ht
 ·split
  ·show hk
  ·show hi
theorem Q8 (h:kB k t i=kB k t j):i=j:=by
 unfold kB at h
 split at h <;> split at h <;> (try split at h) <;> (try split at h) <;> lia
theorem uq (h:k<=t) (hi:i < k):kB k t i=i:=by
 unfold kB;rw[if_neg (),if_neg ()]
theorem uV (h:k<=t) (hi:k<=i):k<=kB k t i:=by
 unfold kB
 split
 ·show h
 ·split <;> lia
theorem wj.swap (B:wj a m k pm p l d) {t:Nat} (h:k<=t) (ht:t < m):wj a m k (λi=>pm (kB k t i)) p (λi=>l (kB k t i)) d where
 inj i j hi hj e:=Q8 (B.inj _ _ (tP () ht hi) (tP () ht hj) e)
 Ym i hi:=B.Ym _ (tP () ht hi)
 km:=B.km
 d0:=B.d0
 det:=by rw[B.det,zD (f:=pm) (g:=λi=>pm (kB k t i)) λj hj=>by rw[uq h hj]]
 Zs i hi c:=by
  have e:=B.Zs (kB k t i) (tP () ht hi) c;have e1:aV k (λj=>a (pm (kB k t i)) (p j)*l (kB k t j) c)=aV k (λj=>a (pm (kB k t i)) (p j)*l j c):=ay λj hj=>by rw[uq h hj]
  rw[e1];by_cases hk:i < k
  ·rw[uq h hk] at e ⊢;show e
  ·rw[if_neg hk];rw[if_neg (by have:=uV h (show k<=i by lia);lia)] at e;show e
 unit i hi j hj:=by
  rw[B.32 _ (tP () ht hi) j hj];by_cases hk:i < k
  ·rw[uq h hk]
  ·have:=uV h (show k<=i by lia);rw[if_neg (),if_neg ()]
theorem wj.step (B:wj a m k pm p l d) {c0:Nat} (hk:k < m) (h0:l k c0≠0):wj a m (k+1) pm (λj=>if j=k then c0 else p j) (λi c=>if i=k then l k c else (l k c0*l i c - l i c0*l k c) / d) (l k c0) where
 inj:=B.inj
 Ym:=B.Ym
 km:=hk
 d0:=h0
 det:=by
  rw[B.new (aj _) hk];change _=rH (pm k :: xo pm k) ((λr=>a r (if k=k then c0 else p k)) :: qT _ k)
  rw[if_pos rfl];congr 2;show Yu λj hj=>by rw[if_neg (show j≠k by lia)]
 Zs i hi c:=by
  have d0:=B.d0;have e1:=B.Zs i hi c;have e2:=B.Zs i hi c0;change l k c0*a (pm i) c=(aV k _+_)+_
  have s1:aV k (λj=>a (pm i) (if j=k then c0 else p j)*(if j=k then l k c else (l k c0*l j c - l j c0*l k c) / d))=(l k c0 / d)*aV k (λj=>a (pm i) (p j)*l j c)+(- l k c / d)*aV k (λj=>a (pm i) (p j)*l j c0):=by
   rw[<- bK,<- bK,<- jm];refine ay λj hj=>?_
   rw[if_neg (show j≠k by lia),if_neg (show j≠k by lia)];grind
  rw[s1];simp only[if_true];generalize aV k (λj=>a (pm i) (p j)*l j c)=S1 at e1 ⊢;generalize aV k (λj=>a (pm i) (p j)*l j c0)=S2 at e2 ⊢;rcases eE i k with h | h | h
  ·rw[if_pos h] at e1 e2;rw[if_pos ()];grind
  ·subst h;rw[if_neg ()] at e1 e2;rw[if_pos ()];grind
  ·rw[if_neg ()] at e1 e2;rw[if_neg (),if_neg ()];grind
 unit i hi j hj:=by
  have d0:=B.d0;by_cases e:j=k
  ·subst e;simp only[if_true];by_cases ei:i=j
   ·rw[if_pos ei,if_pos ei]
   ·rw[if_neg ei,if_neg ei];grind
  ·have Yb:j < k:=()
   rw[if_neg e];by_cases ei:i=k
   ·rw[if_pos ei,B.32 k hk j Yb,if_neg (),if_neg ()]
   ·rw[if_neg ei,B.32 i hi j Yb,B.32 k hk j Yb,if_neg (show k≠j by lia)]
    split
    ·grind
    ·grind
end
def dE (m:Nat) (a:Nat->Nat->Rat) (x:Nat->Rat):Prop:=∃w:Nat->Rat,∀c,x c=aV m λt=>w t*a t c
theorem dE.row (hi:i < m):dE m a (a i):=#[λt=>if t=i then 1 else 0,λc=>by
 rw[cx hi λj _ ne=>by dsimp only;rw[if_neg ne];grind]
 dsimp only
 rw[if_pos rfl];grind]
theorem dE._q (α β:Rat) (hx:dE m a x) (hy:dE m a y):dE m a λc=>α*x c+β*y c:=by
 obtain w|hw:=hx;obtain v|hv:=hy;refine #[λt=>α*w t+β*v t,λc=>?_]
 dsimp only
 rw[hw c,hv c,<- bK,<- bK,<- jm];show ay λj _=>by grind
theorem dE.congr (h:∀c,x c=y c) (hx:dE m a x):dE m a y:=by obtain w|hw:=hx;show #[w,λc=>by rw[<- h c];show hw c]
theorem dE.trans (h:∀t,t < m'->dE m a (b t)) (hx:dE m' b x):dE m a x:=by
 obtain v|hv:=hx
 have h2:∀t,∃w:Nat->Rat,t < m'->∀c,b t c=aV m λs=>w s*a s c:=λt=>by
  by_cases ht:t < m'
  ·obtain w|hw:=h t ht;show #[w,λ_=>hw]
  ·show #[λ_=>0,λz=>absurd z ht]
 have hc:=Classical.axiomOfChoice h2;obtain w|hw:=hc;refine #[λs=>aV m' λt=>v t*w t s,λc=>?_];rw[hv c];have e1:aV m' (λt=>v t*b t c)=aV m' (λt=>aV m λs=>v t*(w t s*a s c)):=ay λt ht=>by rw[hw t ht c,<- bK]
 rw[e1,cT];refine ay λs _=>?_
 have:aV m' (λt=>v t*w t s)*a s c=a s c*aV m' (λt=>v t*w t s):=cf ..;rw[this,<- bK];show ay λt _=>by grind
theorem dE.zero (h:∀c,x c=0):dE m a x:=#[λ_=>0,λc=>by rw[h c,bJ λ_ _=>by grind]]
structure Cr (m n:Nat) (a:Nat->Nat->Rat) (k:Nat) (p:Nat->Nat) (R:Nat->Nat->Rat):Prop where
 inc:∀i j,i < j->j < k->p i < p j
 low:∀j,j < k->p j < n
 unit:∀i,i < k->∀j,j < k->R i (p j)=if i=j then 1 else 0
 lead:∀i,i < k->∀c,c < p i->R i c=0
 span:∀i,i < m->dE k R (a i)
 back:∀i,i < k->dE m a (R i)
section
variable {m m' k k' n:Nat} {a a' R R':Nat->Nat->Rat} {p p':Nat->Nat} {x:Nat->Rat}
theorem Cr.Yl (h:Cr m n a k p R) (hx:dE k R x) (c:Nat):x c=aV k λj=>x (p j)*R j c:=by
 obtain w|hw:=hx;rw[hw c];refine ay λj hj=>?_
 rw[hw (p j),cx hj λt ht ne=>by rw[h.32 t ht j hj,if_neg ne];grind,h.32 j hj j hj,if_pos rfl];grind
theorem Cr.X9 (h:Cr m n a k p R) (hx:dE k R x) (h1:x c≠0) (h0:∀c',c' < c->x c'=0):∃j,j < k/\p j=c:=by
 refine Wk λhn=>h1 ?_
 rw[h.Yl hx c];refine bJ λj hj=>?_
 rcases eE (p j) c with z | z | z
 ·rw[h0 _ z];grind
 ·show absurd #[j,hj,z] hn
 ·rw[h.lead j hj c z];grind
theorem inc_le (h1:∀i j,i < j->j < k->p i < p j) (h2:∀i j,i < j->j < k'->p' i < p' j) (hs:∀j,j < k'->∃i,i < k/\p i=p' j):∀{j:Nat},j < k'->∀{i:Nat},i < k->p i=p' j->j<=i
 | 0,_,_,_,_=>be _
 | j+1,hj,i,hi,e=>by
  obtain i0|hi0|e0:=hs j ();have:=inc_le h1 h2 hs (j:=j) () hi0 e0;have lt:=h2 j (j+1) () hj;rcases eE i0 i with z | z | z
  ·lia
  ·subst z;lia
  ·have:=h1 i i0 z hi0;lia
theorem Ni (h1:∀i j,i < j->j < k->p i < p j) (h:i<=j) (hj:j < k):p i<=p j:=by
 rcases aY i j with z | z
 ·show cP (h1 i j z hj)
 ·have:i=j:=()
  rw[this];show aj _
theorem Kh (h1:∀i j,i < j->j < k->p i < p j) (h2:∀i j,i < j->j < k'->p' i < p' j) (hs:∀j,j < k'->∃i,i < k/\p i=p' j):k'<=k/\∀j,j < k'->p j<=p' j:=by
 refine #[?_,λj hj=>?_]
 ·rcases ug k' with z | z
  ·lia
  ·obtain i|hi|e:=hs (k' - 1) ();have:=inc_le h1 h2 hs (j:=k' - 1) () hi e
   lia
 ·obtain i|hi|e:=hs j hj;rw[<- e];show Ni h1 (inc_le h1 h2 hs hj hi e) hi
theorem Cr.uniq (h:Cr m n a k p R) (h':Cr m' n a' k' p' R') (s1:∀i,i < m->dE m' a' (a i)) (s2:∀i,i < m'->dE m a (a' i)):k=k'/\(∀j,j < k->p j=p' j)/\∀i,i < k->∀c,R i c=R' i c:=by
 have x1:∀i,i < k->dE k' R' (R i):=λi hi=>dE.trans (λt ht=>h'.span t ht) (dE.trans s1 (h.56 i hi))
 have x2:∀i,i < k'->dE k R (R' i):=λi hi=>dE.trans (λt ht=>h.span t ht) (dE.trans s2 (h'.56 i hi))
 have y1:∀j,j < k->∃i,i < k'/\p' i=p j:=λj hj=>h'.X9 (x1 j hj) (by rw[h.32 j hj j hj,if_pos rfl];decide) (h.lead j hj)
 have y2:∀j,j < k'->∃i,i < k/\p i=p' j:=λj hj=>h.X9 (x2 j hj) (by rw[h'.32 j hj j hj,if_pos rfl];decide) (h'.lead j hj)
 obtain z1|w1:=Kh h'.inc h.inc y1;obtain z2|w2:=Kh h.inc h'.inc y2;have ek:k=k':=nB z1 z2;subst ek;have ep:∀j,j < k->p j=p' j:=λj hj=>nB (w2 j hj) (w1 j hj)
 refine #[rfl,ep,λi hi c=>?_];rw[h.Yl (x2 i hi) c,cx hi λj hj ne=>by rw[ep j hj,h'.32 i hi j hj,if_neg (λz=>ne z.20)];grind,ep i hi,h'.32 i hi i hi,if_pos rfl];grind
end
structure kY (a:Nat->Nat->Rat) (m k P:Nat) (p:Nat->Nat) (l:Nat->Nat->Rat) (d:Rat):Prop where
 km:k<=m
 d0:d≠0
 unit:∀i,i < m->∀j,j < k->l i (p j)=if i=j then d else 0
 inc:∀i j,i < j->j < k->p i < p j
 low:∀j,j < k->p j < P
 zero:∀i,k<=i->i < m->∀c,c < P->l i c=0
 lead:∀j,j < k->∀c,c < p j->l j c=0
 there:∀i,i < m->dE m l (a i)
 back:∀i,i < m->dE m a (l i)
section
variable {m k n P:Nat} {a l l':Nat->Nat->Rat} {p:Nat->Nat} {d d':Rat}
theorem kY.start:kY a m 0 0 p a 1 where
 km:=be _
 d0:=()
 unit _ _ j hj:=absurd hj ()
 inc _ j _ hj:=absurd hj ()
 low j hj:=absurd hj ()
 zero _ _ _ c hc:=absurd hc ()
 lead j hj:=absurd hj ()
 there i hi:=dE.row hi
 back i hi:=dE.row hi
theorem kY.skip (E:kY a m k P p l d) (h:∀i,k<=i->i < m->l i P=0):kY a m k (P+1) p l d :=
 #[E.km,E.d0,E.32,E.inc,λj hj=>Nat.lt_succ_of_lt (E.52 j hj),λi h1 h2 c hc=>by
  by_cases e:c=P
  ·rw[e];show h i h1 h2
  ·show E.zero i h1 h2 c (),E.lead,E.there,E.56]
theorem TF:kB k t (kB k t i)=i:=by
 unfold kB
 split
 ·split <;> (try split) <;> lia
 ·split
  ·rw[if_pos rfl];lia
  ·rfl
theorem kY.swap (E:kY a m k P p l d) {t:Nat} (h:k<=t) (ht:t < m):kY a m k P p (λi=>l (kB k t i)) d where
 km:=E.km
 d0:=E.d0
 unit i hi j hj:=by
  rw[E.32 _ (tP () ht hi) j hj];by_cases hk:i < k
  ·rw[uq h hk]
  ·have:=uV h (show k<=i by lia);rw[if_neg (),if_neg ()]
 inc:=E.inc
 low:=E.52
 zero i h1 h2 c hc:=E.zero _ (uV h h1) (tP () ht h2) c hc
 lead j hj c hc:=by rw[uq h hj];show E.lead j hj c hc
 there i hi:=dE.trans (λs hs=>dE.congr (λc=>by rw[TF]) (dE.row (a:=λi=>l (kB k t i)) (i:=kB k t s) (tP () ht hs))) (E.there i hi)
 back i hi:=E.56 _ (tP () ht hi)
theorem kY.step (E:kY a m k P p l d) (hk:k < m) (h0:d'≠0) (_j:∀i,i < m->∀j,j < k+1->l' i (if j=k then P else p j)=if i=j then d' else 0)
  (hl:∀i,i < m->∃β γ:Rat,β≠0/\(i=k->γ=0)/\∀c,l' i c=β*l i c+γ*l k c):kY a m (k+1) (P+1) (λj=>if j=k then P else p j) l' d' where
 km:=hk
 d0:=h0
 unit:=_j
 inc i j _v hj:=by
  by_cases e:j=k
  ·rw[if_pos e,if_neg ()];show E.52 i ()
  ·rw[if_neg e,if_neg ()];show E.inc i j _v ()
 low j hj:=by
  by_cases e:j=k
  ·rw[if_pos e];lia
  ·rw[if_neg e];show Nat.lt_succ_of_lt (E.52 j ())
 zero i h1 h2 c hc:=by
  by_cases e:c=P
  ·have:=_j i h2 k ();rw[if_pos rfl,if_neg ()] at this;rw[e];show this
  ·obtain β|γ|_|_|q:=hl i h2;rw[q c,E.zero i () h2 c (),E.zero k (aj _) hk c ()];grind
 lead j hj c hc:=by
  have km:=E.km;obtain β|γ|_|_|q:=hl j ();by_cases e:j=k
  ·rw[if_pos e] at hc;rw[q c,e,E.zero k (aj _) hk c hc];grind
  ·rw[if_neg e] at hc;have:=E.52 j ();rw[q c,E.lead j () c hc,E.zero k (aj _) hk c ()];grind
 there i hi:=by
  refine dE.trans (λs hs=>?_) (E.there i hi);obtain β|γ|b0|_|q:=hl s hs;obtain βk|γk|bk0|gk|qk:=hl k hk;have g0:=gk rfl;refine dE.congr (λc=>?_) (dE._q (1 / β) (-(γ / β) / βk) (dE.row (a:=l') hs) (dE.row (a:=l') hk));rw[q c,qk c,g0];grind
 back i hi:=by
  obtain β|γ|_|_|q:=hl i hi;show dE.congr (λc=>(q c).20) (dE._q β γ (E.56 i hi) (E.56 k hk))
theorem kY.done (E:kY a m k n p l d) (ha:∀i,i < m->∀c,n<=c->a i c=0):Cr m n a k p (λi c=>l i c / d) where
 inc:=E.inc
 low:=E.52
 unit i hi j hj:=by
  have d0:=E.d0;have km:=E.km;rw[E.32 i () j hj]
  split
  ·grind
  ·grind
 lead i hi c hc:=by
  rw[E.lead i hi c hc];grind
 span i hi:=by
  have d0:=E.d0;refine dE.trans (λs hs=>?_) (E.there i hi);by_cases z:s < k
  ·refine dE.congr (λc=>?_) (dE._q d 0 (dE.row (a:=λi c=>l i c / d) z) (dE.row (a:=λi c=>l i c / d) z));grind
  ·refine dE.zero λc=>?_
   by_cases hc:c < n
   ·show E.zero s () hs c hc
   ·obtain w|hw:=E.56 s hs;rw[hw c,bJ λt ht=>by rw[ha t ht c ()];grind]
 back i hi:=by
  have km:=E.km;have d0:=E.d0;refine dE.congr (λc=>?_) (dE._q (1 / d) 0 (E.56 i ()) (E.56 i ()));grind
end
def d6 (ls:List (List Int)) (i c:Nat):Rat:=(((ls.3 i []).3 c 0:Int):Rat)
def a7 (rows:Xo) (i c:Nat):Rat:=(rows.3 i []).3 c 0
def pO (ls:List (List Int)) (k t:Nat):List (List Int):=(ls.42 k (ls.3 t [])).42 t (ls.3 k [])
def F3 (ls:List (List Int)) (k c:Nat) (b:Int):List (List Int):=(ls.11 λzs=>VH (λx y=>((ls.3 k []).3 c 0*x - zs.3 c 0*y).fdiv b) zs (ls.3 k [])).42 k (ls.3 k [])
section
variable {b d:Int}
theorem sZ {α:Type} {l:List α} {x e:α} (hi:i < l.9):(l.42 i x).3 j e=if j=i then x else l.3 j e:=by
 rw[aa,aa,List.getElem?_set];by_cases h:j=i
 ·subst h;rw[if_pos rfl,if_pos hi,if_pos rfl];rfl
 ·rw[if_neg (λz=>h z.20),if_neg h]
theorem wF:(pO ls k t).9=ls.9:=by unfold pO;rw[eQ,eQ]
theorem NT:(F3 ls k c b).9=ls.9:=by unfold F3;rw[eQ,af]
theorem getD_in {α:Type} {l:List α} {e:α} (h:i < l.9):l.3 i e∈l:=by
 rw[aa,ae h];show aG h
theorem Jm (w:∀zs∈ls,zs.9=n) (hk:k < ls.9) (ht:t < ls.9):∀zs∈pO ls k t,zs.9=n:=λzs hz=>by
 unfold pO at hz;rcases cE hz with h | h
 ·rcases cE h with h | h
  ·show w zs h
  ·rw[h];show w _ (getD_in ht)
 ·rw[h];show w _ (getD_in hk)
theorem Kr (w:∀zs∈ls,zs.9=n) (hk:k < ls.9):∀zs∈F3 ls k c b,zs.9=n:=λzs hz=>by
 unfold F3 at hz;rcases cE hz with h | h
 ·obtain y|hy|rfl:=au.mp h;rw[dw,w y hy,w _ (getD_in hk)]
  lia
 ·rw[h];show w _ (getD_in hk)
theorem vO (hk:k < ls.9) (ht:t < ls.9) (i c:Nat):d6 (pO ls k t) i c=d6 ls (kB k t i) c:=by
 unfold d6 pO kB;rw[sZ (by rw[eQ];show ht),sZ hk];by_cases h1:i=t
 ·rw[if_pos h1];by_cases h2:i=k
  ·rw[if_pos h2,<- h1,<- h2]
  ·rw[if_neg h2,if_pos h1]
 ·rw[if_neg h1];by_cases h2:i=k
  ·rw[if_pos h2,if_pos h2]
  ·rw[if_neg h2,if_neg h2,if_neg h1]
theorem uN (w:∀zs∈ls,zs.9=n) (hc:n<=c):d6 ls i c=0:=by
 unfold d6;by_cases h:i < ls.9
 ·have:=w _ (getD_in (e:=[]) h);rw[aa (l:=ls.3 i []),aJ ()];rfl
 ·rw[aa (l:=ls),aJ ()];rfl
theorem tj {x:Int} (h:(x:Rat)=0):x=0:=by
 have:(x:Rat)=((0:Int):Rat):=h;show dM.mp this
theorem Iy {x b:Int} (hb:b≠0) (hq:∃z:Int,q=(z:Rat)) (e:(x:Rat)=(b:Rat)*q):((x.fdiv b:Int):Rat)=q:=by
 obtain z|rfl:=hq;rw[<- aT] at e;have:=dM.mp e;rw[this,Int.mul_fdiv_cancel_left _ hb]
theorem vM (h:Fr 1 W q):∃z:Int,q=(z:Rat):=by
 obtain z|e|_:=h;show #[z,by rw[<- e];simp]
theorem uM {z:Int} (h:Fr 1 W (z:Rat)):z.15<=W:=by
 obtain y|e|b:=h;have:(z:Rat)=(y:Rat):=by rw[<- e];simp
 rw[dM.mp this];simpa using b
theorem NB (w:∀zs∈ls,zs.9=n) (hk:k < ls.9) (hb:b≠0) (hi:i < ls.9) (hz:∀c,∃z:Int,(d6 ls k P*d6 ls i c - d6 ls i P*d6 ls k c) / (b:Rat)=(z:Rat)) (c:Nat) :
  d6 (F3 ls k P b) i c=if i=k then d6 ls k c else (d6 ls k P*d6 ls i c - d6 ls i P*d6 ls k c) / (b:Rat):=by
 by_cases e:i=k
 ·rw[if_pos e];unfold d6 F3;rw[sZ (by rw[af];show hk),if_pos e]
 ·rw[if_neg e];by_cases hc:c < n
  ·have Y5:(b:Rat)≠0:=λz=>hb (tj z)
   have lk:=w _ (getD_in (e:=[]) hk);have li:=w _ (getD_in (e:=[]) hi)
   have e1:d6 (F3 ls k P b) i c=(((((ls.3 k []).3 P 0*(ls.3 i []).3 c 0 - (ls.3 i []).3 P 0*(ls.3 k []).3 c 0).fdiv b:Int)):Rat):=by
    unfold F3;rw[d6,sZ (by rw[af];show hk),if_neg e];rw[aa (l:=V9 _ ls),az,ae hi];change ((((VH _ ls[i] (ls.3 k [])).3 c 0:Int)):Rat)=_
    have ei:ls.3 i []=ls[i]:=by rw[aa,ae hi];rfl
    rw[<- ei];rw[aa (l:=VH _ _ _),eX,aa (l:=ls.3 i []) (i:=c),aa (l:=ls.3 k []) (i:=c),ae (show c < (ls.3 i []).9 by lia),ae (show c < (ls.3 k []).9 by lia)];rfl
   rw[e1];refine Iy hb (hz c) ?_;rw[AG,aT,aT];change _=(b:Rat)*((d6 ls k P*d6 ls i c - d6 ls i P*d6 ls k c) / (b:Rat))
   change d6 ls k P*d6 ls i c - d6 ls i P*d6 ls k c=_
   grind
  ·rw[uN (Kr w hk) (show n<=c by lia),uN w (i:=i) (show n<=c by lia),uN w (i:=k) (show n<=c by lia)];grind
end
section
variable {m k n P:Nat} {a l l2:Nat->Nat->Rat} {pm p p2:Nat->Nat} {d:Rat}
theorem wj.congr (B:wj a m k pm p l d) (hp:∀j,j < k->p2 j=p j) (hl:∀i,i < m->∀c,l2 i c=l i c):wj a m k pm p2 l2 d where
 inj:=B.inj
 Ym:=B.Ym
 km:=B.km
 d0:=B.d0
 det:=by rw[B.det,Yu (f:=λj r=>a r (p j)) (g:=λj r=>a r (p2 j)) λj hj=>by rw[hp j hj]]
 Zs i hi c:=by
  have km:=B.km;rw[B.Zs i hi c,hl i hi c];congr 1;show ay λj hj=>by rw[hp j hj,hl j () c]
 unit i hi j hj:=by rw[hp j hj,hl i hi];show B.32 i hi j hj
theorem dE.rows (h:∀i,i < m->∀c,l2 i c=l i c) (hx:dE m l x):dE m l2 x:=by obtain w|hw:=hx;show #[w,λc=>by rw[hw c];show ay λt ht=>by rw[h t ht c]]
theorem kY.congr (E:kY a m k P p l d) (hp:∀j,j < k->p2 j=p j) (hl:∀i,i < m->∀c,l2 i c=l i c):kY a m k P p2 l2 d where
 km:=E.km
 d0:=E.d0
 unit i hi j hj:=by rw[hp j hj,hl i hi];show E.32 i hi j hj
 inc i j _v hj:=by rw[hp i (),hp j hj];show E.inc i j _v hj
 low j hj:=by rw[hp j hj];show E.52 j hj
 zero i h1 h2 c hc:=by rw[hl i h2];show E.zero i h1 h2 c hc
 lead j hj c hc:=by
  have km:=E.km;rw[hp j hj] at hc;rw[hl j ()];show E.lead j hj c hc
 there i hi:=(E.there i hi).rows hl
 back i hi:=(E.56 i hi).congr λc=>(hl i hi c).20
theorem kY.kP (E:kY a m k P p l d):k<=P:=by
 have:∀j,j < k->j<=p j:=by
  intro j
  induction j with
  | zero=>intro _;show be _
  | succ j ih =>
   intro hj;have:=ih ();have:=E.inc j (j+1) () hj
   lia
 rcases ug k with z | z
 ·lia
 ·have h1:=this (k - 1) ();have h2:=E.52 (k - 1) ()
  lia
end
structure Cp (Yd:List (List Int)) (n P:Nat) (ls:List (List Int)) (ps:List Nat) (d:Int):Prop where
 len:ls.9=Yd.9
 wide:∀zs∈ls,zs.9=n
 bar:∃pm,wj (d6 Yd) Yd.9 ps.9 pm (λj=>ps.3 j 0) (d6 ls) d
 el:kY (d6 Yd) Yd.9 ps.9 P (λj=>ps.3 j 0) (d6 ls) d
theorem Cp.start (w:∀zs∈Yd,zs.9=n):Cp Yd n 0 Yd [] 1:=#[rfl,w,#[λi=>i,wj.start λ_ _=>rfl],kY.start]
theorem Cp.d0 (h:Cp Yd n P ls ps d):d≠0:=λz=>h.el.d0 (by rw[z];rfl)
theorem Cp.skip (h:Cp Yd n P ls ps d) (hz:∀i,ps.9<=i->i < ls.9->d6 ls i P=0):Cp Yd n (P+1) ls ps d:=#[h.38,h.wide,h.bar,h.el.skip λi h1 h2=>hz i h1 (by rw[h.38];show h2)]
theorem getD_snoc (hj:j < l.9+1):(l++[x]).3 j 0=if j=l.9 then x else l.3 j 0:=by
 rw[aa,aa];by_cases e:j=l.9
 ·rw[if_pos e,e,bM (aj _),oC];rfl
 ·rw[if_neg e,cF ()]
theorem Cp.int (h:Cp Yd n P ls ps d) (hW:1<=W) (h0:∀i,i < Yd.9->∀c,Fr 1 W (d6 Yd i c)) (ht:ps.9<=t) (Z6:t < ls.9) (Yr:d6 ls t P≠0) :
  ∀i,i < ls.9->i≠ps.9->∀c,∃z:Int,(d6 (pO ls ps.9 t) ps.9 P*d6 (pO ls ps.9 t) i c - d6 (pO ls ps.9 t) i P*d6 (pO ls ps.9 t) ps.9 c) / (d:Rat)=(z:Rat):=λi hi ne c=>by
 obtain pm|B:=h.bar;have hl:=h.38;have hk:ps.9 < ls.9:=()
 have B1:=(B.swap ht ()).congr (p2:=λj=>ps.3 j 0) (l2:=d6 (pO ls ps.9 t)) (λ_ _=>rfl) (λi _ c=>vO hk Z6 i c)
 have h1:d6 (pO ls ps.9 t) ps.9 P≠0:=by
  rw[vO hk Z6];unfold kB;rw[if_pos rfl];show Yr
 have B2:=B1.step (c0:=P) () h1;have:=B2.fr (W:=W) (N:=ps.9+2) () hW h0 (i:=i) (c:=c) ();rw[if_neg ne] at this;show vM this
theorem Cp.step (h:Cp Yd n P ls ps d) (hW:1<=W) (h0:∀i,i < Yd.9->∀c,Fr 1 W (d6 Yd i c)) (ht:ps.9<=t) (Z6:t < ls.9) (Yr:d6 ls t P≠0) :
  Cp Yd n (P+1) (F3 (pO ls ps.9 t) ps.9 P d) (ps++[P]) (((F3 (pO ls ps.9 t) ps.9 P d).3 ps.9 []).3 P 0):=by
 obtain pm|B:=h.bar;have hl:=h.38;have hk:ps.9 < ls.9:=()
 have hz:=h.int hW h0 ht Z6 Yr;have w1:=Jm h.wide hk Z6;have k1:ps.9 < (pO ls ps.9 t).9:=by rw[wF];show hk
 have B1:=(B.swap ht ()).congr (p2:=λj=>ps.3 j 0) (l2:=d6 (pO ls ps.9 t)) (λ_ _=>rfl) (λi _ c=>vO hk Z6 i c);have E1:=(h.el.swap ht ()).congr (p2:=λj=>ps.3 j 0) (l2:=d6 (pO ls ps.9 t)) (λ_ _=>rfl) (λi _ c=>vO hk Z6 i c)
 have h1:d6 (pO ls ps.9 t) ps.9 P≠0:=by
  rw[vO hk Z6];unfold kB;rw[if_pos rfl];show Yr
 have B2:=B1.step (c0:=P) () h1
 have fc:∀i,i < Yd.9->∀c,d6 (F3 (pO ls ps.9 t) ps.9 P d) i c=if i=ps.9 then d6 (pO ls ps.9 t) ps.9 c else (d6 (pO ls ps.9 t) ps.9 P*d6 (pO ls ps.9 t) i c - d6 (pO ls ps.9 t) i P*d6 (pO ls ps.9 t) ps.9 c) / (d:Rat):=λi hi c=>by
  by_cases e:i=ps.9
  ·rw[if_pos e];unfold d6 F3;rw[sZ (by rw[af];show k1),if_pos e]
  ·have:=NB w1 k1 h.d0 (i:=i) (by rw[wF];lia) (hz i () e) c;rw[this]
 have ed:(((((F3 (pO ls ps.9 t) ps.9 P d).3 ps.9 []).3 P 0:Int)):Rat)=d6 (pO ls ps.9 t) ps.9 P:=by
  have:=fc ps.9 () P;rw[if_pos rfl] at this;show this
 have lp:(ps++[P]).9=ps.9+1:=by rw[ai];rfl
 have hp:∀j,j < ps.9+1->(ps++[P]).3 j 0=if j=ps.9 then P else ps.3 j 0:=λj hj=>getD_snoc hj
 refine #[by rw[NT,wF];show hl,Kr w1 k1,#[λi=>pm (kB ps.9 t i),?_],?_]
 ·rw[ed,lp];show B2.congr hp fc
 ·rw[ed,lp];refine kY.congr (E1.step (d':=d6 (pO ls ps.9 t) ps.9 P) (l':=λi c=>if i=ps.9 then d6 (pO ls ps.9 t) ps.9 c else (d6 (pO ls ps.9 t) ps.9 P*d6 (pO ls ps.9 t) i c - d6 (pO ls ps.9 t) i P*d6 (pO ls ps.9 t) ps.9 c) / (d:Rat)) () h1 B2.32 λi hi=>?_) hp fc;have d0:=h.el.d0;by_cases e:i=ps.9
  ·refine #[1,0,(),λ_=>rfl,λc=>?_];rw[if_pos e,e];grind
  ·refine #[d6 (pO ls ps.9 t) ps.9 P / (d:Rat),-(d6 (pO ls ps.9 t) i P) / (d:Rat),?_,λz=>absurd z e,λc=>?_]
   ·intro z;apply h1;grind
   ·rw[if_neg e];grind
theorem Cp.sz (h:Cp Yd n P ls ps d) (hW:1<=W) (h0:∀i,i < Yd.9->∀c,Fr 1 W (d6 Yd i c)) (hP:P<=n) (hr:min Yd.9 n<=r) (_K:r<=15):(d.15<=(16*W)^r)/\∀zs∈ls,∀z∈zs,z.15<=(16*W)^r:=by
 obtain pm|B:=h.bar;have kP:=h.el.kP;have km:=B.km;have hl:=h.38;have mono:∀{s t:Nat},s<=t->(16*W)^s<=(16*W)^t:=λhs=>ak (bY () hW) hs
 refine #[ag (uM (B.dfr (W:=W) (N:=16) () h0)) (mono ()),λzs hz z YA=>?_];obtain i|hi|rfl:=aN hz;obtain c|hc|rfl:=aN YA;have hw:=h.wide _ (aG hi)
 have ez:d6 ls i c=(((ls[i])[c]:Int):Rat):=by
  unfold d6;rw[aa (l:=ls),ae hi];change ((ls[i].3 c 0:Int):Rat)=_
  rw[aa,ae hc];rfl
 by_cases hk:i < ps.9
 ·have:Fr 1 ((16*W)^ps.9) (d6 ls i c):=by
   have hd:=B.d0;rw[B.old hk]
   have:=Ag (W:=W) (N:=16) (rs:=xo pm ps.9) (vs:=LV (λj r=>d6 Yd r (ps.3 j 0)) i ps.9++(λr=>d6 Yd r c) :: qT (λj r=>d6 Yd r (ps.3 j 0)) i) (by
    have:=congrArg Wt (XF (v:=λj r=>d6 Yd r (ps.3 j 0)) hk);rw[ai,bC,XS] at this;rw[ai,bC]
    lia) (by
    intro v hv r hr
    have Zp:∀c,Fr 1 W (d6 Yd r c):=λc=>by
     obtain t|ht|rfl:=oT hr;show h0 _ (B.Ym t ()) c
    rcases ao.mp hv with hv | hv
    ·obtain t|_|rfl:=F1 hv;show Zp _
    ·rcases aF.mp hv with rfl | hv
     ·show Zp _
     ·obtain t|_|rfl:=Yj hv;show Zp _)
   rwa [sP] at this
  rw[ez] at this;show ag (uM this) (mono ())
 ·by_cases hn:ps.9 < n
  ·have:=B.fr (W:=W) (N:=16) () hW h0 (i:=i) (c:=c) ();rw[ez] at this;show ag (uM this) (mono ())
  ·have:=h.el.zero i () () c ();rw[ez] at this;rw[tj this];show be _
def Tp (M W:Nat) (q:Rat):Prop:=∃z:Int,q*(M:Rat)=(z:Rat)/\z.15<=W
theorem Tp.of {M V W:Nat} (h:Fr M V q) (hW:V*M<=W):Tp M W q:=by obtain z|a|b:=h;show #[z,a,ag b hW]
theorem Tp.mono (h:Tp M W q) (hW:W<=W'):Tp M W' q:=by obtain z|a|b:=h;show #[z,a,ag b hW]
theorem Tp.fr (h:Tp M W q) (h0:0 < M):Fr M W q:=by obtain z|a|b:=h;show #[z,a,ag b (dP _ h0)]
def vY (rows:Xo) (n w:Nat):Prop:=∃M W:Nat,0 < M/\M<=2^4300000/\1<=W/\W<=2^w/\(∀xs∈rows,∀x∈xs,Tp M W x)/\w<=4300000/\min rows.9 n<=15/\min rows.9 n*(w+4)<=8900000
def iu (xs:List Rat):List Int:=fY (xs.11 nm) (iw (xs.11 nm))
theorem o5:(iu xs).9=xs.9:=by unfold iu fY;rw[af,af]
theorem pF {xs:List Rat}:0 < iw (xs.11 nm):=z6 () λb hb=>by
 obtain n|hn|rfl:=au.mp hb;obtain x|_|rfl:=au.mp hn;show iG x
theorem Ox:(((iu xs).3 c 0:Int):Rat)=xs.3 c 0*((iw (xs.11 nm):Int):Rat):=by
 unfold iu fY;rw[aa,aa,az,az];cases e:xs[c]? with
 | none=>change ((0:Int):Rat)=0*_;rw[df];rfl
 | some x=>show rM (pG (au.mpr #[x,ar e,rfl]))
section
variable {xs:List Rat}
theorem xV (hi:i < rows.9):d6 (rows.11 iu) i c=((iw ((rows.3 i []).11 nm):Int):Rat)*a7 rows i c:=by
 unfold d6 a7
 have e:(rows.11 iu).3 i []=iu (rows.3 i []):=by
  rw[aa,aa,az,ae hi];rfl
 rw[e,Ox,cf]
theorem jg (hw:∀xs∈rows,xs.9=n) (hc:n<=c):a7 rows i c=0:=by
 unfold a7;by_cases h:i < rows.9
 ·have:=hw _ (getD_in (e:=[]) h);rw[aa (l:=rows.3 i []),aJ ()];rfl
 ·rw[aa (l:=rows),aJ ()];rfl
theorem yG (i:Nat) (hi:i < rows.9):dE rows.9 (d6 (rows.11 iu)) (a7 rows i):=by
 have h0:((iw ((rows.3 i []).11 nm):Int):Rat)≠0:=λz=>by
  have:=pF (xs:=rows.3 i []);have:=tj z
  lia
 refine dE.congr (λc=>?_) (dE._q (1 / ((iw ((rows.3 i []).11 nm):Int):Rat)) 0 (dE.row (a:=d6 (rows.11 iu)) hi) (dE.row (a:=d6 (rows.11 iu)) hi));rw[xV hi];grind
theorem yF (i:Nat) (hi:i < rows.9):dE rows.9 (a7 rows) (d6 (rows.11 iu) i):=by
 refine dE.congr (λc=>?_) (dE._q ((iw ((rows.3 i []).11 nm):Int):Rat) 0 (dE.row (a:=a7 rows) hi) (dE.row (a:=a7 rows) hi));rw[xV hi];grind
theorem uk (h:Tp M W x):(nm x).2∣(M:Int):=by
 obtain z|e|b:=h
 show Fr.den (V:=z.15) (M:=M) #[z,e,by
  rcases ug M with h | h
  ·subst h;have:(z:Rat)=0:=by rw[<- e];simp
   rw[tj this];simp
  ·show dP _ h]
theorem wD (h:Tp M W x) (h0:0 < M) (hB:0 < B) (d1:(nm x).2∣B) (d2:B∣(M:Int)):∃t:Int,x*(B:Rat)=(t:Rat)/\t.15<=W:=by
 obtain z|e|b:=h;obtain s|es:=d2;refine #[(nm x).1*(B / (nm x).2),(rM d1).20,?_]
 have s0:0 < s:=by
  rcases Int.lt_trichotomy s 0 with h | h | h
  ·have:=uQ hB h
   lia
  ·rw[h] at es;lia
  ·show h
 have e2:(((nm x).1*(B / (nm x).2)*s:Int):Rat)=(z:Rat):=by
  rw[aT,rM d1,<- e,<- aW,es,aT];grind
 have e3:=dM.mp e2;have:((nm x).1*(B / (nm x).2)).15*s.15=z.15:=by rw[<- eF,e3]
 have h1:1<=s.15:=()
 have:=dP ((nm x).1*(B / (nm x).2)).15 h1
 lia
theorem yQ (h0:0 < M) (h:∀x∈xs,Tp M W x):iw (xs.11 nm)∣(M:Int):=yN () (Int.one_dvd _) λb hb=>by
 obtain n|hn|rfl:=au.mp hb;obtain x|hx|rfl:=au.mp hn;show #[iG x,uk (h x hx)]
theorem vY.Z5 (F:vY rows n w) (hx:xs∈rows):∃M,Jc M (xs.11 nm):=by
 obtain M|W|h0|h1|hW|h2|h3|h4|_:=F;refine #[M,Int.ofNat_lt.mpr h0,?_,λy hy=>?_]
 ·change ((M:Nat):Int).15 < 2^4400000
  rw[cQ];show bw h1 (fF () ())
 ·obtain x|Xq|rfl:=au.mp hy;have t:=h3 xs hx x Xq;refine #[iG x,uk t,?_];obtain s|e|b:=wD t h0 (iG x) (KC _) (uk t);have e2:(((nm x).1:Int):Rat)=(s:Rat):=by rw[<- e];show mT x
  rw[dM.mp e2];show bw (ag b h2) (fF () ())
theorem vY.ent (F:vY rows n w):∃W:Nat,1<=W/\W<=2^w/\∀i,i < (rows.11 iu).9->∀c,Fr 1 W (d6 (rows.11 iu) i c):=by
 obtain M|W|h0|h1|hW|h2|h3|h4|_:=F;refine #[W,hW,h2,λi hi c=>?_];rw[af] at hi;have hx:=getD_in (e:=[]) hi;rw[xV hi];unfold a7;generalize rows.3 i []=xs at hx ⊢;by_cases hc:c < xs.9
 ·have t:=h3 xs hx _ (getD_in (e:=0) hc);obtain s|e|b:=wD t h0 (pF (xs:=xs)) (pG (au.mpr #[_,getD_in (e:=0) hc,rfl])) (yQ h0 (h3 xs hx));rw[cf,e];show Fr.int b
 ·rw[aa,aJ ()];change Fr 1 W (_*0)
  rw[bB];show Fr.zero
end
def aD (rows:Xo) (n:Nat) (R:Xo) (ps:List Nat):Prop:=R.9=ps.9/\(∀xs∈R,xs.9=n)/\Cr rows.9 n (a7 rows) ps.9 (λj=>ps.3 j 0) (a7 R)
structure Vf (rows:Xo) (n w:Nat) (R:Xo) (ps:List Nat) (d:Int) (ls:List (List Int)):Prop where
 rr:aD rows n R ps
 d0:d≠0
 len:ls.9=ps.9
 wide:∀zs∈ls,zs.9=n
 val:∀i c,d6 ls i c=(d:Rat)*a7 R i c
 dsz:d.15<=2^(min rows.9 n*(w+4))
 zsz:∀zs∈ls,∀z∈zs,z.15<=2^(min rows.9 n*(w+4))
 tp:∀xs∈R,∀x∈xs,Tp d.15 (2^(min rows.9 n*(w+4))) x
 km:ps.9<=rows.9
theorem Cr.ZO {a R R2:Nat->Nat->Rat} (h:Cr m n a k p R) (hr:∀i,i < k->∀c,R2 i c=R i c):Cr m n a k p R2 :=
 #[h.inc,h.52,λi hi j hj=>by rw[hr i hi];show h.32 i hi j hj,λi hi c hc=>by rw[hr i hi];show h.lead i hi c hc,λi hi=>(h.span i hi).rows hr,λi hi=>(h.56 i hi).congr λc=>(hr i hi c).20]
theorem Cr.other (h:Cr m n a k p R) (s1:∀i,i < m->dE m' a' (a i)) (s2:∀i,i < m'->dE m a (a' i)):Cr m' n a' k p R :=
 #[h.inc,h.52,h.32,h.lead,λi hi=>dE.trans h.span (s2 i hi),λi hi=>dE.trans s1 (h.56 i hi)]
theorem xr (h:W<=2^w):(16*W)^r<=2^(r*(w+4)):=by
 calc (16*W)^r<=(2^(w+4))^r:=mF (by rw[bg];lia) _
  _=2^(r*(w+4)):=by rw[<- wg,cw]
theorem Cp.done (h:Cp (rows.11 iu) n n ls ps d) (hw:∀xs∈rows,xs.9=n) (F:vY rows n w) :
  ∃R,Vf rows n w R ps d (ls.21 ps.9):=by
 obtain W|hW|W2|ent:=F.ent;obtain _|_|_|_|_|_|_|_|_K|_:=F;have hl:=h.38;have d0:=h.d0;have d0':(d:Rat)≠0:=λz=>d0 (tj z)
 have km:=h.el.km;have hm:(rows.11 iu).9=rows.9:=af ..;obtain s1|s2:=h.sz (r:=min rows.9 n) hW ent (aj _) (by rw[hm];show aj _) _K;have s2':∀zs∈ls,∀z∈zs,z.15<=2^(min rows.9 n*(w+4)):=λzs hz z YA=>ag (s2 zs hz z YA) (xr W2)
 have er:∀i c,a7 ((ls.21 ps.9).11 λzs=>zs.11 λ(z:Int)=>(z:Rat) / (d:Rat)) i c=d6 (ls.21 ps.9) i c / (d:Rat):=λi c=>by
  unfold a7 d6;rw[aa (l:=V9 _ _),az,aa (l:=List.take _ _)];cases e:(ls.21 ps.9)[i]? with
  | none=>change (0:Rat)=((0:Int):Rat) / _;grind
  | some zs =>
   change (zs.11 λ(z:Int)=>(z:Rat) / (d:Rat)).3 c 0=((zs.3 c 0:Int):Rat) / (d:Rat)
   rw[aa,aa,az];cases e2:zs[c]? with
   | none=>change (0:Rat)=((0:Int):Rat) / _;grind
   | some z=>rfl
 have et:∀i,i < ps.9->∀c,d6 (ls.21 ps.9) i c=d6 ls i c:=λi hi c=>by
  unfold d6;rw[aa (l:=List.take _ _),fB hi,<- aa]
 have RR:=(h.el.done λi hi c hc=>uN (n:=n) (λzs hz=>by
  obtain xs|hx|rfl:=au.mp hz;rw[o5];show hw xs hx) hc).ZO (R2:=a7 ((ls.21 ps.9).11 λzs=>zs.11 λ(z:Int)=>(z:Rat) / (d:Rat))) λi hi c=>by rw[er,et i hi]
 rw[hm] at RR;refine #[(ls.21 ps.9).11 λzs=>zs.11 λ(z:Int)=>(z:Rat) / (d:Rat),#[by rw[af,bU];lia,λxs hx=>?_,RR.40 yF yG],d0,by rw[bU];lia,λzs hz=>h.wide zs (b6 hz),λi c=>?_,ag s1 (xr W2),λzs hz=>s2' zs (b6 hz),λxs hx x Xq=>?_,()]
 ·obtain zs|hz|rfl:=au.mp hx;rw[af];show h.wide zs (b6 hz)
 ·rw[er];grind
 ·obtain zs|hz|rfl:=au.mp hx;obtain z|YA|rfl:=au.mp Xq;have b:=s2' zs (b6 hz) z YA;rcases GR d with e | e
  ·refine #[z,?_,b];have:((d.15:Nat):Rat)=(d:Rat):=by rw[<- aW,<- e]
   rw[this];grind
  ·refine #[-z,?_,by rw[kD];show b];have:((d.15:Nat):Rat)=-(d:Rat):=by rw[<- aW,<- c7];congr 1;lia
   rw[this,c7];grind
theorem Nz (hl:R.9=R'.9) (w1:∀xs∈R,xs.9=n) (w2:∀xs∈R',xs.9=n) (h:∀i,i < R.9->∀c,a7 R i c=a7 R' i c):R=R':=by
 apply dQ hl;intro i h1 h2;apply dQ (by rw[w1 _ (aG h1),w2 _ (aG h2)]);intro c h3 h4;have:=h i h1 c;unfold a7 at this;rw[aa (l:=R),aa (l:=R'),ae h1,ae h2] at this;have this:(R[i]).3 c 0=(R'[i]).3 c 0:=this;rw[aa,aa,ae h3,ae h4] at this;show this
theorem aD.uniq (h:aD rows n R ps) (h':aD Yi n R' Xx) (s1:∀i,i < rows.9->dE Yi.9 (a7 Yi) (a7 rows i)) (s2:∀i,i < Yi.9->dE rows.9 (a7 rows) (a7 Yi i)):R=R'/\ps=Xx:=by
 obtain l1|w1|r1:=h;obtain l2|w2|r2:=h';obtain ek|ep|eR:=r1.uniq r2 s1 s2;refine #[Nz () w1 w2 λi hi c=>eR i () c,?_];apply dQ ek;intro j h1 h2;have:=ep j h1;rw[aa,aa,ae h1,ae h2] at this;show this
theorem aD.same (h:aD rows n R ps) (h':aD rows n R' Xx):R=R'/\ps=Xx:=h.uniq h' (λ_ hi=>dE.row hi) (λ_ hi=>dE.row hi)
open PySem PySem.Spec PyProof.Rows
def Kw (l:Addr) (H:Hp) (zs:List Int) (v:V):Prop:=∃q,v=V.ref q/\q≠l/\H q=some (.lst (zs.11 V.int))
def tm (l:Addr) (H:Hp) (p:Addr) (ls:List (List Int)):Prop:=p≠l/\∃xs,H p=some (.lst xs)/\Vs (Kw l H) ls xs
theorem Kw.same (h:Kw l H zs v) (e:aE H H'):Kw l H' zs v:=by obtain q|a|n|b:=h;show #[q,a,n,e _ _ b]
theorem Kw.upd {l:Addr} {H:Hp} {zs:List Int} {v:V} {o:HO} (h:Kw l H zs v):Kw l (upd H l o) zs v:=by obtain q|a|n|b:=h;show #[q,a,n,by rw[bA n];show b]
theorem tm.upd {l:Addr} {H:Hp} {p:Addr} {ls:List (List Int)} {o:HO} (h:tm l H p ls):tm l (upd H l o) p ls:=by obtain n|xs|a|b:=h;show #[n,xs,by rw[bA n];show a,bv (λ_ _ z=>z.upd) b]
theorem ne_old {H:Hp} (h:H l≠none) (n:H r=none):r≠l:=λz=>h (by rw[<- z];show n)
theorem kJ {α β:Type} {F:α->β->Prop}:∀{l1:List α} {l2:List β} (_:Vs F l1 l2) (i:Nat) {x:α} {y:β},F x y->Vs F (l1.42 i x) (l2.42 i y):=by
 intro l1 l2 p
 induction p with
 | nil=>show λ_ _ _ _=>.nil
 | cons a r ih =>
  intro i x y h;cases i with
  | zero=>show .cons h r
  | succ i=>show .cons a (ih i h)
theorem QZ (h:ls[i]?=some zs):d6 ls i c=((zs.3 c 0:Int):Rat):=by
 unfold d6;rw[aa (l:=ls),h];rfl
theorem UT:((z:Int):Rat)≠0↔z≠0:=#[λh e=>h (by rw[e];rfl),λh e=>h (tj e)]
theorem EE {zs:List Int} (h:c < zs.9):IP (zs.11 V.int) (c:Int)=some (V.int (zs.3 c 0)):=ee (by rw[az,aa,ae h];rfl)
inductive BK (vs:List V) (H:Hp) (Q:VK) (E9:XK):Prop
 | mk (l p:Addr) (ls:List (List Int)) (b c:Nat):vs=[.ref p,.int b,.int c]->tm l H p ls->ls.9<=1000->b<=1000->(∀zs∈ls,c < zs.9)->(∀t:Nat,b<=t->t < ls.9->d6 ls t c≠0->Q (.int t) H)->((∀t,b<=t->t < ls.9->d6 ls t c=0)->Q .Xy H)->BK  vs H Q E9
inductive xY (vs:List V) (H:Hp) (Q:VK) (E9:XK):Prop
 | mk (l p:Addr) (ls:List (List Int)) (t k:Nat):vs=[.ref p,.int t,.int k]->H l≠none->tm l H p ls->ls.9<=1000->t < ls.9->k < ls.9->(∀r H',H r=none->aE H H'->tm l H' r (pO ls k t)->Q (.ref r) H')->xY  vs H Q E9
inductive BL (vs:List V) (H:Hp) (Q:VK) (E9:XK):Prop
 | mk (l p:Addr) (ls:List (List Int)) (k c n:Nat) (b:Int):vs=[.ref p,.int k,.int c,.int b]->H l≠none->tm l H p ls->ls.9<=1000->k < ls.9->(∀zs∈ls,zs.9=n)->n<=1000->c < n->b≠0->Sz 8999000 b->(∀zs∈ls,∀z∈zs,Sz 8999000 z)->(∀r H',H r=none->aE H H'->tm l H' r (F3 ls k c b)->Q (.ref r) H')->BL  vs H Q E9
theorem MK (K:Xn) {X:Cx} {a b:Expr} {ta:TA} {p pos Yp:Pos} {elts:List Expr} {kk:Nat} (hg:Gl X "zip") (hm:X.mg "zip"=none) (ha:PA X [a,b] ta) (hK:X.K=K:=by rfl) (hs:Vu [a,b] X.16=[(false,eval a X.16),(false,eval b X.16)]:=by rfl) (Zl:Vu [b] X.16=[(false,eval b X.16)]:=by rfl) :
  PI X (.Tuple elts kk Yp) (.Call (.Name "zip" p) [a,b] [] pos) (SH K ta):=by subst hK;show yJ hg hm ha hs Zl
def ck (ps:List Nat):List V:=ps.11 λ(j:Nat)=>V.int (j:Int)
inductive BB (K:Xn) (vs:List V) (H:Hp) (Q:VK) (E9:XK):Prop
 | mk (p:Addr) (n w:Nat) (H0:Hp) (rows:Xo):vs=[.ref p,.int n]->aP K H0 H p rows->rows.9<=100->n<=100->(∀xs∈rows,xs.9=n)->vY rows n w->(∀t lp qp R ps d ls H',H' t=some (.tup [.ref lp,.ref qp])->H' qp=some (.lst (ck ps))->tm qp H' lp ls->aE H H'->Vf rows n w R ps d ls->Q (.ref t) H')->BB K vs H Q E9
inductive xW (K:Xn) (vs:List V) (H:Hp) (Q:VK) (E9:XK):Prop
 | mk (p:Addr) (n w:Nat) (H0:Hp) (rows:Xo):vs=[.ref p,.int n]->aP K H0 H p rows->rows.9<=100->n<=100->(∀xs∈rows,xs.9=n)->vY rows n w->(∀r R ps M H',H r=none->aE H H'->aP K H H' r R->aD rows n R ps->ps.9<=rows.9->0 < M->M<=2^(min rows.9 n*(w+4))->(∀xs∈R,∀x∈xs,Tp M (2^(min rows.9 n*(w+4))) x)->Q (.ref r) H')->xW K vs H Q E9
def yz (rows:Xo) (i:Nat):Rat:=((iw ((rows.3 i []).11 nm):Int):Rat)
theorem vV:yz rows i≠0:=λz=>by
 have:=pF (xs:=rows.3 i []);have:=tj z
 lia
structure yR (rows:Xo) (n P:Nat) (rs:Xo) (ps:List Nat):Prop where
 len:rs.9=rows.9
 wide:∀xs∈rs,xs.9=n
 ex:∃pm l d,wj (d6 (rows.11 iu)) rows.9 ps.9 pm (λj=>ps.3 j 0) l d/\kY (d6 (rows.11 iu)) rows.9 ps.9 P (λj=>ps.3 j 0) l d/\∀i,i < rows.9->∀c,a7 rs i c=l i c / (d*if i < ps.9 then 1 else yz rows (pm i))
section
variable {rows rs rs':Xo} {n P w a:Nat} {ps:List Nat}
theorem M6 {k i j:Nat} (h:d≠0):d*(if i < k then 1 else yz rows j)≠0:=by
 have:=vV (rows:=rows) (i:=j)
 split <;> grind
theorem yR.start (hw:∀xs∈rows,xs.9=n):yR rows n 0 rows []:=#[rfl,hw,λi=>i,d6 (rows.11 iu),1,wj.start λ_ _=>rfl,kY.start,λi hi c=>by
 rw[xV hi,if_neg (by change ¬i < 0;lia)];have:=vV (rows:=rows) (i:=i);change a7 rows i c=yz rows i*a7 rows i c / (1*yz rows i)
 grind]
theorem yR.skip (h:yR rows n P rs ps) (hz:∀i,ps.9<=i->i < rs.9->a7 rs i P=0):yR rows n (P+1) rs ps:=by
 obtain len|wide|pm|l|d|B|E|v:=h;refine #[len,wide,pm,l,d,B,E.skip λi h1 h2=>?_,v];have:=v i h2 P;rw[hz i h1 ()] at this;have ne:=M6 (rows:=rows) (i:=i) (j:=pm i) (k:=ps.9) B.d0;generalize d*(if i < ps.9 then 1 else yz rows (pm i))=D at this ne;grind
theorem yR.km (h:yR rows n P rs ps):ps.9<=rows.9/\ps.9<=P:=by obtain _|_|_|_|_|_|E|_:=h;show #[E.km,E.kP]
theorem yR.step (h:yR rows n P rs ps) (ht:ps.9<=t) (Z6:t < rs.9) (Yr:a7 rs t P≠0) (l':rs'.9=rows.9) (w':∀xs∈rs',xs.9=n)
  (hv:∀i,i < rows.9->∀c,a7 rs' i c=if i=ps.9 then 1 / a7 rs t P*a7 rs t c else a7 rs (kB ps.9 t i) c - a7 rs (kB ps.9 t i) P*(1 / a7 rs t P*a7 rs t c)):yR rows n (P+1) rs' (ps++[P]):=by
 obtain len|wide|pm|l|d|B|E|v:=h;have hk:ps.9 < rows.9:=()
 have B1:=B.swap ht ();have E1:=E.swap ht ();have d0:=B.d0
 have v1:∀i,i < rows.9->∀c,a7 rs (kB ps.9 t i) c=l (kB ps.9 t i) c / (d*if i < ps.9 then 1 else yz rows (pm (kB ps.9 t i))):=λi hi c=>by
  rw[v _ (tP hk () hi) c];by_cases z:i < ps.9
  ·rw[uq ht z,if_pos z]
  ·rw[if_neg z,if_neg (by have:=uV ht (show ps.9<=i by lia);lia)]
 have sk:kB ps.9 t ps.9=t:=by unfold kB;rw[if_pos rfl]
 have vt:∀c,a7 rs t c=l (kB ps.9 t ps.9) c / (d*yz rows (pm (kB ps.9 t ps.9))):=λc=>by
  have:=v1 ps.9 hk c;rw[if_neg (),sk] at this;rw[sk];show this
 have bt:=vV (rows:=rows) (i:=pm (kB ps.9 t ps.9));have h1:l (kB ps.9 t ps.9) P≠0:=λz=>Yr (by rw[vt P,z];grind)
 have B2:=B1.step (c0:=P) hk h1;have lp:(ps++[P]).9=ps.9+1:=by rw[ai];rfl
 have hp:∀j,j < ps.9+1->(ps++[P]).3 j 0=if j=ps.9 then P else ps.3 j 0:=λj hj=>getD_snoc hj
 refine #[l',w',λi=>pm (kB ps.9 t i),_,_,by rw[lp];show B2.congr (l2:=λi c=>if i=ps.9 then l (kB ps.9 t ps.9) c else (l (kB ps.9 t ps.9) P*l (kB ps.9 t i) c - l (kB ps.9 t i) P*l (kB ps.9 t ps.9) c) / d) hp (λ_ _ _=>rfl),?_,λi hi c=>?_]
 ·rw[lp];refine kY.congr (E1.step (d':=l (kB ps.9 t ps.9) P) (l':=λi c=>if i=ps.9 then l (kB ps.9 t ps.9) c else (l (kB ps.9 t ps.9) P*l (kB ps.9 t i) c - l (kB ps.9 t i) P*l (kB ps.9 t ps.9) c) / d) hk h1 B2.32 λi hi=>?_) hp (λ_ _ _=>rfl);by_cases e:i=ps.9
  ·refine #[1,0,(),λ_=>rfl,λc=>?_];rw[if_pos e,e];grind
  ·refine #[l (kB ps.9 t ps.9) P / d,-(l (kB ps.9 t i) P) / d,?_,λz=>absurd z e,λc=>?_]
   ·intro z;apply h1;grind
   ·rw[if_neg e];grind
 ·rw[hv i hi c,lp,vt c,vt P];by_cases e:i=ps.9
  ·rw[if_pos e,if_pos e,if_pos ()];grind
  ·rw[if_neg e,if_neg e,v1 i hi c,v1 i hi P];have ne:=M6 (rows:=rows) (i:=i) (j:=pm (kB ps.9 t i)) (k:=ps.9) d0;by_cases z:i < ps.9
   ·rw[if_pos z,if_pos ()];grind
   ·have bi:=vV (rows:=rows) (i:=pm (kB ps.9 t i));rw[if_neg z,if_neg ()];grind
theorem yR.done (h:yR rows n n rs ps) (hw:∀xs∈rows,xs.9=n):aD rows n (rs.21 ps.9) ps:=by
 obtain len|wide|pm|l|d|B|E|v:=h;have km:=E.km;refine #[by rw[bU];lia,λxs hx=>wide xs (b6 hx),Cr.other ((E.done λi hi c hc=>?_).ZO λi hi c=>?_) yF yG]
 ·show uN (n:=n) (λzs hz=>by
   obtain xs|hx|rfl:=au.mp hz;rw[o5];show hw xs hx) hc
 ·have e:a7 (rs.21 ps.9) i c=a7 rs i c:=by
   unfold a7;rw[aa (l:=List.take _ _),fB hi,<- aa]
  rw[e,v i () c,if_pos hi,fE]
def N9 (rows:Xo) (n w a:Nat):Prop:=∃M W:Nat,0 < M/\M<=2^a/\1<=W/\W<=2^w/\(∀xs∈rows,∀x∈xs,Tp M W x)/\min rows.9 n<=16/\2*(min rows.9 n*(w+4)+a)<=3990000
theorem N9.ent (F:N9 rows n w a):∃W:Nat,1<=W/\W<=2^w/\∀i,i < rows.9->∀c,Fr 1 W (d6 (rows.11 iu) i c):=by
 obtain M|W|h0|h1|hW|h2|h3|_:=F;refine #[W,hW,h2,λi hi c=>?_];have hx:=getD_in (e:=[]) hi;rw[xV hi];unfold a7;generalize rows.3 i []=xs at hx ⊢;by_cases hc:c < xs.9
 ·have t:=h3 xs hx _ (getD_in (e:=0) hc);obtain s|e|b:=wD t h0 (pF (xs:=xs)) (pG (au.mpr #[_,getD_in (e:=0) hc,rfl])) (yQ h0 (h3 xs hx));rw[cf,e];show Fr.int b
 ·rw[aa,aJ ()];change Fr 1 W (_*0)
  rw[bB];show Fr.zero
theorem N9.bot (F:N9 rows n w a) (hi:i < rows.9):∃b:Nat,0 < b/\b<=2^a/\yz rows i=(b:Rat):=by
 obtain M|W|h0|h1|hW|h2|h3|_:=F;have hx:=getD_in (e:=[]) hi;have p:=pF (xs:=rows.3 i []);have dv:=yQ h0 (h3 _ hx);refine #[(iw ((rows.3 i []).11 nm)).15,(),ag (jY h0 ?_) h1,?_]
 ·have:=eY.mpr dv;rwa [cQ] at this
 ·unfold yz;rw[<- aW];congr 1
  lia
theorem Q3 {z y:Int} (hl:l=(z:Rat)) (hD:D=(y:Rat)) (h0:D≠0) (hz:z.15<=W):Tp y.15 W (l / D):=by
 rcases GR y with e | e
 ·refine #[z,?_,hz];have:((y.15:Nat):Rat)=D:=by rw[<- aW,<- e,hD]
  rw[this,hl];grind
 ·refine #[-z,?_,by rw[kD];show hz];have:((y.15:Nat):Rat)=-D:=by rw[<- aW,hD,<- c7];congr 1;lia
  rw[this,hl,c7];grind
theorem yR.sz (h:yR rows n P rs ps) (F:N9 rows n w a) (hP:P<=n) (hi:i < rows.9):∃D:Nat,0 < D/\D<=2^(min rows.9 n*(w+4)+a)/\∀c,Tp D (2^(min rows.9 n*(w+4))) (a7 rs i c):=by
 obtain len|wide|pm|l|d|B|E|v:=h;obtain W|hW|W2|ent:=F.ent;obtain _|_|_|_|_|_|_|_K|_:=id F;have kP:=E.kP;have km:=B.km;have mono:∀{s t:Nat},s<=t->(16*W)^s<=(16*W)^t:=λhs=>ak (bY () hW) hs
 obtain y|ey:=vM (B.dfr (W:=W) (N:=16) () ent);have hy:=B.dfr (W:=W) (N:=16) () ent;rw[ey] at hy;have yb:y.15<=2^(min rows.9 n*(w+4)):=ag (uM hy) (ag (mono (show ps.9<=min rows.9 n by lia)) (xr W2));have y0:y≠0:=λz=>B.d0 (by rw[ey,z];rfl)
 have lb:∀c,∃z:Int,l i c=(z:Rat)/\z.15<=2^(min rows.9 n*(w+4)):=λc=>by
  by_cases hk:i < ps.9
  ·have f:Fr 1 ((16*W)^ps.9) (l i c):=by
    rw[B.old hk]
    have:=Ag (W:=W) (N:=16) (rs:=xo pm ps.9) (vs:=LV (λj r=>d6 (rows.11 iu) r (ps.3 j 0)) i ps.9++(λr=>d6 (rows.11 iu) r c) :: qT (λj r=>d6 (rows.11 iu) r (ps.3 j 0)) i) (by
     have:=congrArg Wt (XF (v:=λj r=>d6 (rows.11 iu) r (ps.3 j 0)) hk);rw[ai,bC,XS] at this;rw[ai,bC]
     lia) (by
     intro v hv r hr
     have Zp:∀c,Fr 1 W (d6 (rows.11 iu) r c):=λc=>by
      obtain t|ht|rfl:=oT hr;show ent _ (B.Ym t ()) c
     rcases ao.mp hv with hv | hv
     ·obtain t|_|rfl:=F1 hv;show Zp _
     ·rcases aF.mp hv with rfl | hv
      ·show Zp _
      ·obtain t|_|rfl:=Yj hv;show Zp _)
    rwa [sP] at this
   obtain z|ez:=vM f;rw[ez] at f;show #[z,ez,ag (uM f) (ag (mono ()) (xr W2))]
  ·by_cases hn:ps.9 < n
   ·have f:=B.fr (W:=W) (N:=16) () hW ent (i:=i) (c:=c) hi;obtain z|ez:=vM f;rw[ez] at f;show #[z,ez,ag (uM f) (ag (mono ()) (xr W2))]
   ·refine #[0,?_,be _];by_cases hc:c < n
    ·rw[E.zero i () hi c ()];rfl
    ·have:=v i hi c;rw[jg wide ()] at this;have ne:=M6 (rows:=rows) (i:=i) (j:=pm i) (k:=ps.9) B.d0;generalize d*(if i < ps.9 then 1 else yz rows (pm i))=D at this ne;change l i c=0
     grind
 obtain ⟨b,b0,b1,eb⟩:∃b:Nat,0 < b/\b<=2^a/\(if i < ps.9 then 1 else yz rows (pm i))=(b:Rat):=by
  by_cases hk:i < ps.9
  ·show #[1,(),bu,by rw[if_pos hk];rfl]
  ·obtain b|x1|x2|x3:=F.bot (B.Ym i hi);show #[b,x1,x2,by rw[if_neg hk,x3]]
 have eD:d*(b:Rat)=((y*b:Int):Rat):=by rw[aT,ey,aW]
 refine #[(y*b).15,?_,?_,λc=>?_]
 ·rw[eF,cQ];show bY () b0
 ·rw[eF,cQ,bg];show aI yb b1
 ·obtain z|ez|bz:=lb c;rw[v i hi c,eb];refine Q3 ez eD (λq=>?_) bz;rw[eD] at q;have:=tj q;rcases Int.mul_eq_zero.mp this with q | q
  ·show y0 q
  ·lia
end
theorem uo (h:Tp M W x) (h0:0 < M) (h1:M<=2^3995000) (h2:W<=2^3995000):pK x:=by
 refine #[?_,?_]
 ·obtain s|e|b:=wD h h0 (iG x) (KC _) (uk h);have e2:(((nm x).1:Int):Rat)=(s:Rat):=by rw[<- e];show mT x
  rw[dM.mp e2];show bw (ag b h2) (fF () ())
 ·have:=jY h0 (nZ.mp (uk h));change ((x.57:Nat):Int).15 < _
  rw[cQ];show bw (ag this h1) (fF () ())
theorem Tp.mul (h:Tp M W x) (h':Tp M' W' y):Tp (M*M') (W*W') (x*y):=by
 obtain z|e|b:=h;obtain z'|e'|b':=h';refine #[z*z',?_,by rw[eF];show aI b b'];rw[aT,<- e,<- e',rJ];grind
theorem OB (h:pK x) (h0:x≠0):pK (1 / x):=by
 have n0:x.num≠0:=λz=>h0 (Rat.num_eq_zero.mp z)
 have e:=mT x;have e1:(1 / x)*(x.num:Rat)=(x.57:Rat):=by rw[e];grind
 have t:Tp x.num.15 x.57 (1 / x):=by
  rcases GR x.num with q | q
  ·refine #[x.57,?_,by simp];have:((x.num.15:Nat):Rat)=(x.num:Rat):=by rw[<- aW,<- q]
   rw[this,e1,aW]
  ·refine #[-(x.57:Int),?_,by simp];have:((x.num.15:Nat):Rat)=-(x.num:Rat):=by rw[<- aW,<- c7];congr 1;lia
   rw[this,c7,aW,<- e1];grind
 obtain h1|h2:=h;have h1:x.num.15 < 2^4000000:=h1;have h2:((x.57:Nat):Int).15 < 2^4000000:=h2;rw[cQ] at h2;refine #[?_,?_]
 ·obtain s|e|b:=wD t () (iG (1 / x)) (KC _) (uk t);have e2:(((nm (1 / x)).1:Int):Rat)=(s:Rat):=by rw[<- e];show mT (1 / x)
  rw[dM.mp e2];show bw b h2
 ·have:=jY (show 0 < x.num.15 by lia) (nZ.mp (uk t));change (((1 / x).57:Nat):Int).15 < _
  rw[cQ];show bw this h1
section
variable {X:Cx}
def Pb:V->List V->Hp->VK->Prop:=λx vs H Q=>∃(l:Addr) (bs:List Bool) (c:Bool) (j:Nat),x=.ref l/\vs=[.bl c]/\H l=some (.lst (bs.11 V.bl))/\bs[j]?=some c/\(∀m,m < j->bs[m]?≠some c)/\Q (.int (j:Int)) H
theorem Ji:∀{bs:List Bool} {us:List Value},cO (bs.11 V.bl) us->us=bs.11 WL
 | [],_,h=>by cases h;rfl
 | b :: bs,_,h=>by
  cases h with
  | cons a r =>
   cases a;rw[Ji r];rfl
theorem MY:Vj X "list.index" Pb:=by
 intro Xe s σ H x vs v us Q I rx rv h;obtain l|bs|c|j|rfl|rfl|hH|hj|hn|q:=h;cases rx;obtain u|rfl|ru:=rv.one;cases ru;obtain z|Xp|n|r|hl|e:=I.Zj hH;obtain rfl:=Ji r;have jl:j < bs.9:=(aB.mp hj).1;rw[af] at z;have big:VD < 2^62:=()
 refine call_meets F.slot_list_index #[_,e,rfl] F.entry_list_index (F.args_list_index_2 _ _)
  (PySem.SeqAt.list_indexAt l (bs.11 WL).12 n none [].12 (.bool c) (isBoolOf c) j (by simpa using jl) () ?_ ?_) #[e,λy hy=>?_,?_]
 ·have:bs[j]=c:=(aB.mp hj).2;simp [isBoolOf,this]
 ·intro m hm hmj;have hm':m < bs.9:=by simpa using hm
  have:=hn m hmj;rw[ae hm'] at this;simp only[List.getElem_toArray,ja,isBoolOf];cases h1:bs[m] <;> cases c <;> simp_all
 ·have hy:y∈bs.11 WL:=by simpa using hy
  obtain b|_|rfl:=au.mp hy;show PySem.SeqAt.EqAt.bool_bool b c
 ·show #[.int j,H,I.tok _,#[_,rfl],q]
end
theorem Sk (K:Xn) {X:Cx} {o e:Expr} {es:List Expr} {to:TE} {t:TA} {name:Str} {apos Yg:Pos} {T id:String} {r:V->List V->Hp->VK->Prop} (pa:PlainAttrs T) (slot:Slot T name id) (hty:typeOf (.builtin id)=pure (.type "method_descriptor")) (hm:MtR X id r) (ho:PE X o to) (ha:PA X (e :: es) t) (hK:X.K=K:=by rfl)
  (ZJ:W6 o name X.16 (eval o X.16)=eval o X.16:=by rfl)
  (e!:((WT Yg (Vu (e :: es) X.16)).all (λx=>!x.1) && (backToKw Yg (keywordEach [] X.16)).all (λx=>x.1.isSome)
   && decide ((e :: es).9+([]:List Keyword).9+(if ([]:List Keyword).isEmpty then 0 else 1) < 30))=true:=by rfl)
  (ZF:(apos.endLine == Yg.line)=true:=by rfl) (hs:Vu (e :: es) X.16=(false,eval e X.16) :: Vu es X.16:=by rfl) (Y3:(WT Yg (Vu es X.16)).58 (·.1)=false:=by rfl) :
  PE X (.Call (.Attribute o name apos) (e :: es) [] Yg) (UX K T r to t):=by subst hK;show vp pa slot hty hm ho ha ZJ e! ZF hs Y3
inductive y9 (K:Xn) (vs:List V) (H:Hp) (Q:VK) (E9:XK):Prop
 | mk (u v:V) (x y:Rat):vs=[u,v]->cm K H x u->cm K H y v->pK x->pK y->y≠0->(∀r H',aE H H'->cm K H' (x / y) (.ref r)->Q (.ref r) H')->y9 K vs H Q E9
theorem Fh {K:Xn} (h:y9 K vs H Q E):OI K vs H Q E:=by
 obtain u|v|x|y|rfl|⟨p,rfl,hp⟩|⟨q,rfl,hq⟩|⟨s1,s2⟩|⟨s3,s4⟩|y0|k:=h;have n0:(nm y).1≠0:=λz=>y0 (Rat.num_eq_zero.mp z)
 have px:=iG x;have py:=iG y;have e1:=qG x;have e2:=qG y;have dx:(((nm x).2:Int):Rat)≠0:=λz=>by have:=tj z;lia
 have dy:(((nm y).2:Int):Rat)≠0:=λz=>by have:=tj z;lia
 refine #[p,q,_,_,_,_,rfl,hp,hq,px,py,n0,s1,s2,s3,s4,λr H' s g=>k r H' s (cm.mk g ?_)];by_cases hc:(nm y).1 < 0
 ·rw[if_pos hc,if_pos hc];refine qO (by have:=uQ px hc;lia) ?_;rw[AG,AG,aT,aT,e1,e2];change x / y*(((0:Int):Rat) - _)=((0:Int):Rat) - _
  grind
 ·rw[if_neg hc,if_neg hc];refine qO (jx px ()) ?_;rw[aT,aT,e1,e2];grind
inductive BH (K:Xn) (vs:List V) (H:Hp) (Q:VK) (E9:XK):Prop
 | mk (p q:Addr) (xs ys:List Rat):vs=[.ref p,.ref q]->dI K H p xs->dI K H q ys->ys.9=xs.9->xs.9<=1000->(∀x∈xs,pK x)->(∀y∈ys,pK y)->(∀r H',H r=none->aE H H'->dI K H' r (VH (λx y=>x - y) xs ys)->Q (.ref r) H')->BH K vs H Q E9
theorem SI {xs ys:List Rat} (h:xs.9=ys.9):(VH (λx y=>x - y) xs ys).3 c 0=xs.3 c 0 - ys.3 c 0:=by
 rw[aa,aa,aa,eX];by_cases hc:c < xs.9
 ·rw[ae hc,ae (show c < ys.9 by lia)];rfl
 ·rw[aJ (),aJ ()];change (0:Rat)=0 - 0
  grind
theorem Nt {xs:List Rat}:(xs.11 λy=>q*y).3 c 0=q*xs.3 c 0:=by
 rw[aa,aa,az];cases xs[c]? with
 | none=>change (0:Rat)=q*0;grind
 | some x=>rfl
inductive EV (K:Xn) (vs:List V) (H:Hp) (Q:VK) (E9:XK):Prop
 | mk (p:Addr) (n:Nat) (H0:Hp) (R:Xo) (ps:List Nat):vs=[.ref p]->aP K H0 H p R->R.9<=100->n<=100->(∃rows,aD rows n R ps)->(∀r H',H r=none->aE H H'->H' r=some (.lst (ck ps))->Q (.ref r) H')->EV K vs H Q E9
theorem Hr {xs ys:List Rat} (h:ys.9=xs.9):VH (λx y=>x - y) xs ys=(Vt xs.9).11 λi=>xs.3 i 0 - ys.3 i 0:=by
 apply KA;intro i;rw[eX,az];by_cases hi:i < xs.9
 ·rw[bR hi,ae hi,ae (show i < ys.9 by lia)];simp [aa,ae hi,ae (show i < ys.9 by lia)]
 ·rw[aJ (show (Vt xs.9).9<=i by simp;lia),aJ (show xs.9<=i by lia)];rfl
theorem xJ {K:Xn} {rows:Xo} (pr:Vs (cu K H0 H) rows vs) (s:aE H H') (n:H q=none) (g:H' q=some (.lst vs)):aP K H0 H' q rows :=
 #[vs,g,bv (λ_ _ z=>z.10 s) pr,λz=>by
  obtain _|_|q'|e|_|_|g'|_:=cM pr z;cases e;rw[n] at g';cases g']
theorem OA:pK 1:=uo (M:=1) (W:=1) #[1,by simp,()] () bu bu
theorem aD.le (h:aD rows n R ps):ps.9<=n:=by
 obtain _|_|rr:=h;rcases aY n ps.9 with z | z
 ·have inc:∀j,j < ps.9->j<=ps.3 j 0:=by
   intro j
   induction j with
   | zero=>intro _;show be _
   | succ j ih =>
    intro hj;have:=ih ();have:=rr.inc j (j+1) () hj
    lia
  have h1:=inc (ps.9 - 1) ();have h2:=rr.52 (ps.9 - 1) ()
  lia
 ·show z
theorem Tp.zero:Tp M W 0:=#[0,by simp,by simp]
theorem Tp.add (h:Tp M W x) (h':Tp M W' y):Tp M (W+W') (x+y):=by
 obtain z|e|b:=h;obtain z'|e'|b':=h';refine #[z+z',?_,ag (Int.natAbs_add_le _ _) (Nat.add_le_add b b')];rw[AH,<- e,<- e'];grind
theorem Tp.sum {M W:Nat} {f:Nat->Rat}:∀{k:Nat},(∀j,j < k->Tp M W (f j))->Tp M (k*W) (aV k f)
 | 0,_=>Tp.zero
 | k+1,h=>by
  have:=(Tp.sum (k:=k) λj hj=>h j ()).add (h k ());show this.22 (by rw[lW];show aj _)
theorem CC {xs:List Rat} (h:∀x∈xs,Tp M W x) (c:Nat):Tp M W (xs.3 c 0):=by
 by_cases hc:c < xs.9
 ·show h _ (getD_in hc)
 ·rw[aa,aJ ()];show Tp.zero
theorem Qd (h:∀xs∈R,∀x∈xs,Tp M W x) (i c:Nat):Tp M W (a7 R i c):=by
 unfold a7;by_cases hi:i < R.9
 ·show CC (h _ (getD_in hi)) c
 ·rw[aa (l:=R),aJ ()];show Tp.zero
theorem Lv {K:Xn} {g:TG} (Pv:Nat->List V->Hp->Prop) (hz:xs.9<=VD) (h0:Pv 0 [] H) (hl:∀i ys H,i<=xs.9->Pv i ys H->bN K H l xs)
  (hs:∀i x ys H p,xs[i]?=some x->ys.9<=i->Pv i ys H->H p=none->o6 σ₀ g tf te (.ref p) (upd H p (.tup [.int i,x])) (λy H'=>Pv (i+1) (ys++[y]) H') (λH'=>Pv (i+1) ys H'))
  (hd:∀ys H,ys.9<=xs.9->Pv xs.9 ys H->∀p,H p=none->Q (.ref p) (upd H p (.lst ys))):pI (Ta K l) σ₀ g tf te Q H:=by
 refine #[λi m ys H=>m=xs.9 - i/\i<=xs.9/\ys.9<=i/\Pv i ys H,#[xs.9,by simp,be _,be _,h0],?_];rintro i m ys H ⟨rfl,hi,hy,p⟩;have q1:=hl i ys H hi p;by_cases XB:i < xs.9
 ·refine .inr #[#[xs,xs[i],q1,by simp [XB]],(),λy H'=>Pv (i+1) (ys++[y]) H',λH'=>Pv (i+1) ys H',λy H' p'=>#[xs.9 - (i+1),(),rfl,XB,by rw[ai,a9];lia,p'],λH' p'=>#[xs.9 - (i+1),(),rfl,XB,(),p'],λx H' y=>?_];obtain r|x'|rfl|hr|rfl|e1:=y;show hs i x' ys _ r (e1 xs q1) hy p hr
 ·have e:i=xs.9:=()
  subst e;show .inl #[#[xs,q1,aj _],(),hd ys H hy p]
theorem Lx (hc:X.calm=true):rB X (.builtin "min") (λxs H Q=>∃(p:Addr) (ns:List Int),xs=[.ref p]/\bN X.K H p (ns.11 V.int)/\0 < ns.9/\∀M,M∈ns->(∀a,a∈ns->M<=a)->Q (.int M) H):=by
 intro Xe s σ H xs us Q I r h;obtain p|ns|rfl|hp|Yr|q:=h;obtain u|rfl|ru:=vals1 r;cases ru;obtain Xp|r2|pl|_:=I.30 hp;have hi:=intsAre_of r2;have hl:=pl.19;obtain xs|e:=hi.allInts.items
 have G!:ns=xs.toList.11 (·.1):=by
  rw[<- hi.numsOf,<- nums_intItems,<- e]
 have hsz:0 < xs.7:=by
  have h3:=Yr;rw[G!,af,Wg] at h3;show h3
 rw[e] at hl;refine min_intList (I.ok.hd hc) hl hsz λv h' tk hv hk=>?_
 obtain t|rfl:=intItems_at hv;obtain h1|h2:=argBest_lt (numAt xs) (xs.7 - 1);refine #[.int _,H,I.59 hk,#[_,rfl],q _ ?_ λa ha=>?_]
 ·rw[G!,numAt_eq];show getD_in (by rw[af,Wg];lia)
 ·rw[G!] at ha;obtain j|hj|rfl:=mem_getD ha;rw[af,Wg] at hj;rw[<- numAt_eq];show h2 j ()
theorem oU (K:Xn) (hK:X.K=K):xT X (We .NotIn) (rIn K true):=by subst hK;show Dc
theorem Aa {j:Nat}:UO (.int (j:Int)) (ck ps)=decide (j∈ps):=by
 unfold UO ck;rw[List.any_map,nE,List.any_eq_true,decide_eq_true_iff];constructor
 ·rintro ⟨x,hx,e⟩;have e:((x:Int) == (j:Int))=true:=e;have:(x:Int)=j:=by simpa using e
  have:x=j:=()
  rw[<- this];show hx
 ·intro h;show #[j,h,by change ((j:Int) == (j:Int))=true;simp]
theorem xD:(ck ps).all rh=true:=by
 unfold ck;rw[List.all_map];show pM.mpr λ_ _=>rfl
theorem mh:(ck ps).9=ps.9:=af ..
def sY (ps:List Nat):List Int:=ps.11 λ(j:Nat)=>(j:Int)
theorem BS:ck ps=(sY ps).11 V.int:=by unfold ck sY;rw[jE];rfl
theorem paired_ints {K:Xn} {H:Hp}:∀{zs:List Int},Vs (λa x=>Nc.R K H x a) zs (zs.11 V.int)
 | []=>.nil
 | z :: zs=>.cons rfl paired_ints
theorem tz {K:Xn} (h:H p=some (.lst (ck ps))):(Lc Nc).R K H (.ref p) (sY ps):=#[p,ck ps,rfl,bN.of h,by rw[BS];show paired_ints]
theorem vC {i:Nat} (h:(ck ps)[i]?=some v):∃j,ps[i]?=some j/\v=V.int (j:Int):=by
 unfold ck at h;rw[az] at h;cases e:ps[i]? with
 | none=>rw[e] at h;cases h
 | some x=>rw[e] at h;show #[x,rfl,(cv h).20]
def Fo (xs:List Rat) (i:Nat):List Nat:=(Vt i).filter λc=>decide (xs.3 c 0≠0)
theorem yM:Fo xs (i+1)=if xs.3 i 0≠0 then Fo xs i++[i] else Fo xs i:=by
 unfold Fo;rw[rK,uh];by_cases h:xs.3 i 0≠0
 ·rw[if_pos h,yk (by simpa using h)];rfl
 ·rw[if_neg h,ym (by simpa using h)];simp
def dD (ps:List Nat) (i:Nat):List Nat:=(Vt i).filter λc=>decide (c∉ps)
theorem nW:dD ps (i+1)=if i∉ps then dD ps i++[i] else dD ps i:=by
 unfold dD;rw[rK,uh];by_cases h:i∉ps
 ·rw[if_pos h,yk (by simpa using h)];rfl
 ·rw[if_neg h,ym (by simpa using h)];simp
theorem Ae:(dD ps i).9<=i:=by
 unfold dD;show ag (List.length_filter_le ..) (by rw[bG];show aj _)
inductive EU (K:Xn) (vs:List V) (H:Hp) (Q:VK) (E9:XK):Prop
 | mk (p:Addr) (xs:List Rat) (j:Nat):vs=[.ref p]->dI K H p xs->xs.9<=1000->j < xs.9->xs.3 j 0≠0->(∀c,c < j->xs.3 c 0=0)->(∀H',aE H H'->Q (.int (j:Int)) H')->EU K vs H Q E9
inductive zj (K:Xn) (vs:List V) (H:Hp) (Q:VK) (E9:XK):Prop
 | mk (p:Addr) (n:Nat) (H0:Hp) (R:Xo) (ps:List Nat):vs=[.ref p,.int n]->aP K H0 H p R->R.9<=100->n<=100->(∃rows,aD rows n R ps)->(∀r H',H r=none->aE H H'->H' r=some (.lst (ck (dD ps n)))->Q (.ref r) H')->zj K vs H Q E9
def Ic (R:Xo) (ps:List Nat) (n at_ j:Nat):List Rat:=(Vt n).11 λc=>if c=at_ then 1 else aV j λi=>if ps.3 i 0=c then -(a7 R i at_) else 0
def sW (R:Xo) (ps:List Nat) (n at_:Nat):List Rat:=Ic R ps n at_ ps.9
def aL (R:Xo) (ps:List Nat) (n:Nat):Xo:=(dD ps n).11 (sW R ps n)
theorem iF:(Ic R ps n a j).9=n:=by unfold Ic;rw[af,bG]
theorem J5 (h:c < n):(Ic R ps n a j).3 c 0=if c=a then 1 else aV j λi=>if ps.3 i 0=c then -(a7 R i a) else 0:=by
 unfold Ic;rw[aa,az,bR h];rfl
theorem JY:Ic R ps n a 0=jX n a:=by
 unfold Ic jX;refine tu λc _=>?_
 by_cases e:c=a
 ·subst e;simp
 ·rw[if_neg e];change (0:Rat)=_
  have:¬(c:Int)=(a:Int):=()
  simp [this]
theorem JZ (RR:aD rows n R ps) (hj:j < ps.9) (ha:a∉ps):(Ic R ps n a j).42 (ps.3 j 0) (-(a7 R j a))=Ic R ps n a (j+1):=by
 obtain _|_|rr:=RR;have low:=rr.52 j hj;have pm:ps.3 j 0∈ps:=getD_in hj;apply dQ (by rw[eQ,iF,iF]);intro c h1 h2;rw[iF] at h2;have e1:(Ic R ps n a j)[c]'(by rw[iF];show h2)=if c=a then 1 else aV j λi=>if ps.3 i 0=c then -(a7 R i a) else 0:=by simp only[Ic,ja,GY]
 have e2:(Ic R ps n a (j+1))[c]'(by rw[iF];show h2)=if c=a then 1 else aV (j+1) λi=>if ps.3 i 0=c then -(a7 R i a) else 0:=by simp only[Ic,ja,GY]
 rw[List.getElem_set,e2];have es:aV (j+1) (λi=>if ps.3 i 0=c then -(a7 R i a) else 0)=aV j (λi=>if ps.3 i 0=c then -(a7 R i a) else 0)+if ps.3 j 0=c then -(a7 R j a) else 0:=rfl
 by_cases q:ps.3 j 0=c
 ·rw[if_pos q,if_neg (λz=>ha (by rw[<- z,<- q];show pm)),es,if_pos q,bJ λi hi=>?_,yT];rw[if_neg];intro z;have:=rr.inc i j hi hj
  lia
 ·rw[if_neg q,e1];by_cases z:c=a
  ·rw[if_pos z,if_pos z]
  ·rw[if_neg z,if_neg z,es,if_neg q,tI]
theorem mU (hc:c < n) (hp:c∉ps):(sW R ps n a).3 c 0=if c=a then 1 else 0:=by
 unfold sW;rw[J5 hc];by_cases e:c=a
 ·rw[if_pos e,if_pos e]
 ·rw[if_neg e,if_neg e,bJ λi hi=>?_];rw[if_neg (λz=>hp (by rw[<- z];show getD_in hi))]
theorem cD:∀{xs ys:List Rat},xs.9=ys.9->cS xs ys=aV xs.9 λc=>xs.3 c 0*ys.3 c 0:=by
 intro xs ys h
 have key:∀k,k<=xs.9->cS (xs.21 k) (ys.21 k)=aV k λc=>xs.3 c 0*ys.3 c 0:=by
  intro k
  induction k with
  | zero=>intro _;rfl
  | succ k ih =>
   intro hk;rw[Cc () (),ih ()];rfl
 have:=key xs.9 (aj _);rwa [aH (aj _),aH ()] at this
theorem xC (RR:aD rows n R ps) (ha:a < n) (hp:a∉ps) {i:Nat} (hr:rows[i]?=some row) (hw:row.9=n):cS row (sW R ps n a)=0:=by
 obtain _|_|rr:=RR;have hi:=(aB.mp hr).1;have ef:∀c,a7 rows i c=row.3 c 0:=λc=>by unfold a7;rw[aa (l:=rows),hr];rfl
 have co:=rr.Yl (rr.span i hi) a;rw[ef] at co;rw[cD (by unfold sW;rw[iF,hw]),hw]
 have e1:aV n (λc=>row.3 c 0*(sW R ps n a).3 c 0)=aV n (λc=>(if c=a then row.3 a 0 else 0)+aV ps.9 λj=>if ps.3 j 0=c then row.3 (ps.3 j 0) 0*-(a7 R j a) else 0):=by
  refine ay λc hc=>?_
  unfold sW;rw[J5 hc];by_cases e:c=a
  ·rw[if_pos e,if_pos e,e,bJ λj hj=>?_]
   ·grind
   ·rw[if_neg (λz=>hp (by rw[<- z];show getD_in hj))]
  ·rw[if_neg e,if_neg e,<- bK,yT];refine ay λj _=>?_
   split
   ·rename_i q;rw[q]
   ·grind
 rw[e1,jm,cx (i:=a) ha (λj _ ne=>if_neg ne),if_pos rfl,<- cT]
 have e2:aV ps.9 (λj=>aV n λc=>if ps.3 j 0=c then row.3 (ps.3 j 0) 0*-(a7 R j a) else 0)=aV ps.9 λj=>-1*(a7 rows i (ps.3 j 0)*a7 R j a):=by
  refine ay λj hj=>?_
  rw[cx (i:=ps.3 j 0) (rr.52 j hj) λc _ ne=>if_neg λz=>ne z.20,if_pos rfl,ef];grind
 rw[e2,bK,co];grind
theorem MT (h0:0 < M) (hW:M<=W) (tp:∀xs∈R,∀x∈xs,Tp M W x) (RR:aD rows n R ps):∀x∈sW R ps n a,Tp M W x:=λx hx=>by
 obtain _|_|rr:=RR;obtain c|hc|rfl:=au.mp hx
 split
 ·show #[M,by rw[iq,aW],by simpa using hW]
 ·by_cases hp:∃j,j < ps.9/\ps.3 j 0=c
  ·obtain j|hj|e:=hp;rw[cx hj λi hi ne=>if_neg λz=>?_,if_pos e]
   ·obtain z|ez|b:=Qd tp j a;show #[-z,by rw[c7,<- ez];grind,by rw[kD];show b]
   ·rcases eE i j with q | q | q
    ·have:=rr.inc i j q hj;lia
    ·show ne q
    ·have:=rr.inc j i q hi;lia
  ·rw[bJ λj hj=>if_neg λz=>hp #[j,hj,z]];show Tp.zero
theorem ko:c∈dD ps n↔c < n/\c∉ps:=by
 unfold dD;rw[fP,kC,decide_eq_true_iff]
inductive BE (K:Xn) (vs:List V) (H:Hp) (Q:VK) (E9:XK):Prop
 | mk (p:Addr) (n a:Nat) (H0:Hp) (R:Xo) (ps:List Nat):vs=[.ref p,.int n,.int a]->aP K H0 H p R->R.9<=100->n<=100->(∃rows,aD rows n R ps)->a < n->a∉ps->(∀xs∈R,∀x∈xs,pK x)->(∀r H',H r=none->aE H H'->dI K H' r (sW R ps n a)->Q (.ref r) H')->BE K vs H Q E9
theorem Mh:pK 0:=uo (M:=1) (W:=1) Tp.zero () bu bu
theorem kN (h:xs∈aL R ps n):∃a,a < n/\a∉ps/\xs=sW R ps n a:=by
 obtain a|ha|rfl:=au.mp h;obtain h1|h2:=ko.mp ha;show #[a,h1,h2,rfl]
theorem PH {q:Rat} (h:q.57<=9):q.57∣2520:=by
 have:=q.den_pos;generalize q.57=d at h this;have:d=1\/d=2\/d=3\/d=4\/d=5\/d=6\/d=7\/d=8\/d=9:=()
 rcases this with rfl | rfl | rfl | rfl | rfl | rfl | rfl | rfl | rfl <;> decide
theorem SR (h:Dr 9 q) (hM:2520∣M):Fr M 9 q:=(Fr.own q h.1).dvd (Nat.dvd_trans (PH h.2) hM)
theorem aP.any {K:Xn} (h:aP K H0 H p rows):aP K (λ_=>none) H p rows:=by obtain xs|g|r|n:=h;show #[xs,g,bv (λ_ _ #[q,a,_,c]=>#[q,a,rfl,c]) r,n]
def UK (rows:Xo) (ws:List Rat) (n j:Nat):List Rat:=(Vt n).11 λc=>aV j λi=>ws.3 i 0*a7 rows i c
def yH (rows:Xo) (ws:List Rat) (n:Nat):List Rat:=UK rows ws n ws.9
theorem rL:(UK rows ws n j).9=n:=by unfold UK;rw[af,bG]
theorem pN (hc:c < n):(yH rows ws n).3 c 0=aV ws.9 λi=>ws.3 i 0*a7 rows i c:=by
 unfold yH UK;rw[aa,az,bR hc];rfl
theorem Aj (h:xs.9=ws.9):cS xs ws=cS ws xs:=by
 rw[cD h,cD h.20,h];show ay λc _=>cf ..
theorem Sr:(rows.11 λxs=>xs.3 c 0).3 i 0=a7 rows i c:=by
 unfold a7;rw[aa,az,aa (l:=rows)];cases rows[i]? with
 | none=>rfl
 | some y=>rfl
theorem Fr.up {M V M' V':Nat} (h:Fr M V x) (hd:M∣M') (hv:V<=V'):Fr M' V' x:=(h.dvd hd).22 hv
theorem PC {M V D B:Nat} (h:ys.9=xs.9) (hx:∀x∈xs,Fr M V x) (hy:∀y∈ys,Fr D B y):Fr (M*D) (xs.9*(V*B)) (cS xs ys):=by
 rw[cD h.20]
 have key:∀j,j<=xs.9->Fr (M*D) (j*(V*B)) (aV j λc=>xs.3 c 0*ys.3 c 0):=by
  intro j
  induction j with
  | zero=>intro _;show Fr.zero
  | succ j ih =>
   intro hj;show ((ih ()).add ((hx _ (getD_in ())).mul (hy _ (getD_in ())))).22 (Nat.le_of_eq (lW j (V*B)).20)
 show key _ (aj _)
def pC (rows us:Xo):Xo:=VH (λx y=>x++y) rows us
def yE (A:Xo) (n:Nat):Prop:=A.9=n/\∀xs∈A,xs.9=n
def LO (A B:Xo) (n:Nat):Prop:=∀i,i < n->∀k,k < n->aV n (λj=>a7 A i j*a7 B j k)=if i=k then 1 else 0
section
variable {n m i c:Nat}
theorem xH (h:us.9=rows.9):(pC rows us).9=rows.9:=by unfold pC;rw[dw];lia
theorem Ng (h1:rows[i]?=some x) (h2:us[i]?=some y):(pC rows us)[i]?=some (x++y):=by
 unfold pC;rw[eX,h1,h2]
theorem DA (h:∀xs∈rows,xs.9=n) (h':∀xs∈us,xs.9=m):∀xs∈pC rows us,xs.9=n+m:=λxs hx=>by
 unfold pC at hx;obtain i|hi|rfl:=aN hx;rw[rE,ai,h _ (aG _),h' _ (aG _)]
theorem Ke (h:us.9=rows.9) (hw:∀xs∈rows,xs.9=n) (hi:i < rows.9):(∀c,c < n->a7 (pC rows us) i c=a7 rows i c)/\∀c,a7 (pC rows us) i (n+c)=a7 us i c:=by
 have e1:=ae hi;have e2:=ae (show i < us.9 by lia);have e3:=Ng e1 e2;have w1:=hw _ (aG hi);refine #[λc hc=>?_,λc=>?_]
 ·unfold a7;rw[aa (l:=pC rows us),e3,aa (l:=rows),e1];change (rows[i]++us[i]).3 c 0=rows[i].3 c 0
  rw[aa,cF (),aa]
 ·unfold a7;rw[aa (l:=pC rows us),e3,aa (l:=us),e2];change (rows[i]++us[i]).3 (n+c) 0=us[i].3 c 0
  rw[aa,bM (),aa,w1,show n+c - n=c by lia]
theorem wo:yE (bT n) n:=#[by unfold bT;rw[af,bG],λxs hx=>by
 unfold bT at hx;obtain i|_|rfl:=au.mp hx;unfold jX;rw[af,bG]]
theorem Qc (hi:i < n) (hc:c < n):a7 (bT n) i c=if i=c then 1 else 0:=by
 unfold a7 bT;rw[aa (l:=V9 _ _),az,bR hi];change (jX n i).3 c 0=_
 unfold jX;rw[aa,az,bR hc];change (if ((c:Nat):Int)=i then (1:Rat) else 0)=_
 by_cases e:i=c
 ·rw[if_pos (),if_pos e]
 ·rw[if_neg (),if_neg e]
theorem vf (hi:i < n):(Vt n).3 i 0=i:=by
 rw[aa,bR hi];rfl
theorem Kl {f:Nat->Rat} (hi:i < n):aV n (λj=>f j*(if j=i then 1 else 0))=f i:=by
 rw[cx hi λj _ hj=>by rw[if_neg hj];grind,if_pos rfl];grind
theorem Fy (hA:yE A n) (hB:yE B n) (h1:LO B A n) (h2:LO A B n):aD (pC A (bT n)) (n+n) (pC (bT n) B) (Vt n):=by
 obtain lA|wA:=hA;obtain lB|wB:=hB;obtain lU|wU:=wo (n:=n);have lJ:(pC A (bT n)).9=n:=by rw[xH (),lA]
 have lK:(pC (bT n) B).9=n:=by rw[xH (),lU]
 have jl:∀i,i < n->∀c,c < n->a7 (pC A (bT n)) i c=a7 A i c:=λi hi c hc=>(Ke () wA ()).1 c hc
 have jr:∀i,i < n->∀c,c < n->a7 (pC A (bT n)) i (n+c)=if i=c then 1 else 0:=λi hi c hc=>by
  rw[(Ke () wA ()).2 c,Qc hi hc]
 have kl:∀i,i < n->∀c,c < n->a7 (pC (bT n) B) i c=if i=c then 1 else 0:=λi hi c hc=>by
  rw[(Ke () wU ()).1 c hc,Qc hi hc]
 have kr:∀i,i < n->∀c,a7 (pC (bT n) B) i (n+c)=a7 B i c:=λi hi c=>(Ke () wU ()).2 c
 have wJ:=DA wA wU;have wK:=DA wU wB
 have split:∀c:Nat,c < n\/(∃d,c=n+d/\d < n)\/n+n<=c:=λc=>by
  by_cases h:c < n
  ·show .inl h
  ·by_cases h':n+n<=c
   ·show .inr (.inr h')
   ·show .inr (.inl #[c - n,(),()])
 refine #[by rw[lK,bG],wK,λi j hi hj=>?_,λj hj=>?_,λi hi j hj=>?_,λi hi c hc=>?_,λi hi=>#[λj=>a7 A i j,λc=>?_],λi hi=>#[λj=>a7 B i j,λc=>?_]]
 ·rw[bG] at hj;rw[vf hj,vf ()];show hi
 ·rw[bG] at hj;rw[vf hj]
  lia
 ·rw[bG] at hi hj;rw[vf hj];show kl i hi j hj
 ·rw[bG] at hi;rw[vf hi] at hc;rw[kl i hi c (),if_neg ()]
 ·rw[lJ] at hi;rw[bG];rcases split c with hc | ⟨d,rfl,hd⟩ | hc
  ·rw[jl i hi c hc,ay (g:=λj=>a7 A i j*(if j=c then 1 else 0)) λj hj=>by rw[kl j hj c hc],Kl hc]
  ·rw[jr i hi d hd,<- h2 i hi d hd];show ay λj hj=>by rw[kr j hj d]
  ·rw[jg wJ hc,bJ λj _=>by rw[jg wK hc];grind]
 ·rw[bG] at hi;rw[lJ];rcases split c with hc | ⟨d,rfl,hd⟩ | hc
  ·rw[kl i hi c hc,<- h1 i hi c hc];show ay λj hj=>by rw[jl j hj c hc]
  ·rw[kr i hi d,ay (g:=λj=>a7 B i j*(if j=d then 1 else 0)) λj hj=>by rw[jr j hj d hd],Kl hd]
  ·rw[jg wK hc,bJ λj _=>by rw[jg wJ hc];grind]
theorem Kf (hA:yE A n) (hB:B.9=n):(pC A B).11 (λxs=>xs.47 n)=B:=by
 obtain lA|wA:=hA;apply dQ (by rw[af,xH ()];lia);intro i h1 h2;have e:(pC A B)[i]?=some (A[i]'()++B[i]):=Ng (ae _) (ae _);rw[af] at h1;rw[ja,(aB.mp e).2];have:=wA _ (aG (show i < A.9 by lia));rw[List.drop_append_of_le_length (),yV ()];rfl
end
section
variable {X:Cx}
theorem Ht:∀{n:Nat} {us:List Value},us.9=n->(∀(j:Nat) (v:Value),us[j]?=some v->∃t,v=.int ((0:Int)+(j:Int)*1) t)->cO (ck (Vt n)) us:=by
 intro n
 induction n with
 | zero=>intro us h _;rw[List.length_eq_zero_iff.mp h];show .nil
 | succ n ih =>
  intro us h hv
  have h1:=ih (us:=us.21 n) (by rw[bU];lia) λj v e=>by
   have hj:j < n:=by have:=(aB.mp e).1;rw[bU] at this;lia
   rw[fB hj] at e;show hv j v e
  obtain t|ht:=hv n (us[n]'()) (ae _);have e:us=us.21 n++[us[n]'()]:=by rw[<- List.take_succ_eq_append_getElem (),aH ()]
  rw[e,rK];unfold ck at h1 ⊢;rw[bH];refine cO.append h1 (.cons ?_ .nil);rw[ht];show #[t,by simp]
def yY (ta:TA):TE:=λσ H Q=>ta σ H λvs H1=>∃n:Nat,vs=[.int n]/\n<=1000/\∀L H',aE H1 H'->H1 L=none->H' L=some (.lst (ck (Vt n)))->Q (.ref L) H'
theorem C8 {e1:Expr} {ta:TA} {p p2 pos Yq:Pos} (hg:Gl X "list") (hm:X.mg "list"=none) (hg2:Gl X "range") (hm2:X.mg "range"=none) (ha:PA X [e1] ta) (hc:X.calm=true:=by rfl)
  (hs:Vu [e1] X.16=[(false,eval e1 X.16)]:=by rfl)
  (hs3:Vu [WI (.Name "range" p2) [e1] [] Yq] X.16=[(false,eval (.Call (.Name "range" p2) [e1] [] Yq) X.16)]:=by rfl) :
  PE X (.Call (.Name "list" p) [.Call (.Name "range" p2) [e1] [] Yq] [] pos) (yY ta):=by
 intro Xe s σ H Q I h;refine VW (kS I hg hm boot_list ?_);refine VI ?_ (by rw[hs3];rfl) rfl;rw[hs3];change VC _ _ (spliced ((false,eval (.Call (.Name "range" p2) [e1] [] Yq) X.16) :: [])) _ _ s
 refine Calls.spliced_cons ?_;refine Call_ (kS I hg2 hm2 boot_range (VI (gX (ha Yq Xe s σ H _ I h) λus s1 hz=>?_) hs rfl));obtain vs|H1|I1|r1|q1:=hz;obtain n|e|hn|q:=q1;subst e;obtain u|rfl|t|rfl:=vals1 r1;refine call_range_1 ?_;refine Calls.spliced_nil ?_;have kp:∀b o,s1.heap.14 b=some o->(s1.heap.25 { cls:=.type "range",data:=.fields [.int 0 s1.27,.int n t,.int 1 (s1.27+1)].12 }).14 b=some o:=λb o e=>Vq _ e
 refine call_list_range (I.ok.hd hc) (IsRange.new ..) (small_one () () () ()) (n:=n) (by rw[rangeSize_one];split <;> lia) () λh' tk acc c hk hS abg=>?_
 have sz:s1.6<=(s1.heap.25 { cls:=.type "range",data:=.fields [.int 0 s1.27,.int n t,.int 1 (s1.27+1)].12 }).objs.size:=by rw[Wq];show rD _
 have nS:=I1.Xw.39 sz
 have vs':cO (ck (Vt n)) acc.toList:=Ht (by rw[Wg];show abg.1) λj v e=>by
  have:=abg.2 j v (by rw[<- Array.getElem?_toList];show e);show this
 have sl:(ck (Vt n)).9<=VD:=by rw[mh,bG];show cP (cV hn)
 refine #[.ref _,_,I1.laid (o:=.lst (ck (Vt n))) (λb o e=>hk b o (kp b o e)) sz ?_,rfl,q _ _ (aE.new nS) nS aK];show #[sl,acc.toList,c,vs',by simpa using hS]
end
theorem Uk (M0:0 < M) (hM:M<=W) (h:∀xs∈A,∀x∈xs,Tp M W x):∀xs∈pC A (bT n),∀x∈xs,Tp M W x:=λxs hx x Xq=>by
 unfold pC at hx;obtain i|hi|rfl:=aN hx;rw[rE] at Xq;rcases ao.mp Xq with z | z
 ·show h _ (aG _) x z
 ·have m:=aG (l:=bT n) (n:=i) (by rw[dw] at hi;lia);generalize (bT n)[i]'(by rw[dw] at hi;lia)=ys at m z;unfold bT at m;obtain j|_|rfl:=au.mp m;unfold jX at z;obtain c|_|rfl:=au.mp z;by_cases e:((c:Nat):Int)=((j:Nat):Int)
  ·rw[if_pos e];show #[M,by rw[iq];rfl,by simpa using hM]
  ·rw[if_neg e];show #[0,by simp,by simp]
theorem Nf (hA:yE A n) (n15:n<=15) (M0:0 < M) (hM:M<=2^w) (w4:w<=4300000) (h:∀xs∈A,∀x∈xs,Tp M (2^w) x) (hw:n*(w+4)<=8900000):vY (pC A (bT n)) (n+n) w :=
 #[M,2^w,M0,ag hM (ak () w4),bu,aj _,Uk M0 hM h,w4,by rw[xH (by rw[wo.1,hA.1]),hA.1];lia,by rw[xH (by rw[wo.1,hA.1]),hA.1,show min n (n+n)=n by lia];show hw]
theorem Fz (h:sY ps=sY qs):ps=qs:=List.map_inj_right (λ_ _ e=>Int.ofNat.inj e) |>.mp h
inductive xX (K:Xn) (vs:List V) (H:Hp) (Q:VK) (E9:XK):Prop
 | mk (p:Addr) (n w:Nat) (H0:Hp) (A:Xo):vs=[.ref p]->aP K H0 H p A->yE A n->n<=40->vY (pC A (bT n)) (n+n) w->((∀r R M H',aD (pC A (bT n)) (n+n) R (Vt n)->H r=none->aE H H'->aP K H H' r (R.11 λxs=>xs.47 n)->0 < M->M<=2^(n*(w+4))->(∀xs∈R.11 (λxs=>xs.47 n),∀x∈xs,Tp M (2^(n*(w+4))) x)->Q (.ref r) H')/\(∀R ps H',aD (pC A (bT n)) (n+n) R ps->ps.9<=n->ps≠Vt n->aE H H'->Q .Xy H'))->xX K vs H Q E9
def oY (K:Xn) (P:Addr->Prop) (H:Hp) (xs:List Rat) (v:V):Prop:=∃q,v=.ref q/\P q/\dI K H q xs
section
variable {K:Xn}
theorem oY.same (h:oY K P H xs v) (s:aE H H'):oY K P H' xs v:=by obtain q|a|c|d:=h;show #[q,a,c,d.10 s]
theorem oY.XA (h:oY K P H xs v) (hl:H l=some (.lst ys)) (nb:∀q,P q->q≠l):oY K P (upd H l o) xs v:=by obtain q|a|c|d:=h;show #[q,a,c,d.XA hl (nb q c)]
theorem aP.ofE {rows:Xo} (g:H l=some (.lst us)) (h:Vs (oY K P H) rows us) (h0:∀q,P q->H0 q=none) (hn:∀q,P q->q≠l):aP K H0 H l rows :=
 #[us,g,bv (λ_ _ #[q,a,c,d]=>#[q,a,h0 q c,d]) h,λz=>by
  obtain _|_|q|e|c|_:=cM h z;cases e;show hn _ c rfl]
end
theorem sR {α β:Type} {F G:α->β->Prop}:∀{l1:List α} {l2:List β},(∀a b,b∈l2->F a b->G a b)->Vs F l1 l2->Vs G l1 l2
 | _,_,_,.nil=>.nil
 | _,_,h,.cons a r=>.cons (h _ _ (by simp) a) (sR (λx y hy=>h x y (by simp [hy])) r)
section
variable {rows Yi R R':Xo}
theorem wG (hw:∀xs∈rows,xs.9=n) (hW:1<=W) (ent:∀i,i < (rows.11 iu).9->∀c,Fr 1 W (d6 (rows.11 iu) i c)):∀P,P<=n->∃ls ps d,Cp (rows.11 iu) n P ls ps d:=by
 intro P
 induction P with
 | zero=>intro _;show #[_,_,_,Cp.start λzs hz=>by obtain x|hx|rfl:=au.mp hz;rw[o5];show hw x hx]
 | succ P ih =>
  intro hP;obtain ls|ps|d|I:=ih ();by_cases e:∃t,ps.9<=t/\t < ls.9/\d6 ls t P≠0
  ·obtain t|h1|h2|h3:=e;show #[_,_,_,I.step hW ent h1 h2 h3]
  ·show #[_,_,_,I.skip λi h1 h2=>by
    by_cases z:d6 ls i P=0
    ·show z
    ·show absurd #[i,h1,h2,z] e]
theorem xn (hw:∀xs∈rows,xs.9=n) (F:vY rows n w):∃R ps d ls,Vf rows n w R ps d ls:=by
 obtain W|hW|W2|ent:=F.ent;obtain ls|ps|d|I:=wG hw hW ent n (aj _);obtain R|S:=I.done hw F;show #[R,ps,d,_,S]
theorem Fc (hw:∀xs∈rows,xs.9=n) (F:vY rows n w) (RR:aD rows n R ps):ps.9<=rows.9/\∃M,0 < M/\M<=2^(min rows.9 n*(w+4))/\∀xs∈R,∀x∈xs,Tp M (2^(min rows.9 n*(w+4))) x:=by
 obtain R2|YF|d|ls|S:=xn hw F;obtain rfl|rfl:=S.rr.10 RR;show #[S.km,d.15,Int.natAbs_pos.mpr S.d0,S.dsz,S.tp]
theorem Le {p q:Nat->Nat} (hp:∀i j,i < j->j < k->p i < p j) (hq:∀i j,i < j->j < k->q i < q j) (hs:∀i,i < k->∃j,j < k/\q j=p i):∀i,i < k->p i=q i:=by
 have hqm:∀i j,i<=j->j < k->q i<=q j:=λi j h hj=>by
  rcases aY i j with z | z
  ·show cP (hq i j z hj)
  ·have:i=j:=()
   rw[this];show aj _
 have hqi:∀i j,i < k->j < k->q i < q j->i < j:=λi j hi hj h=>by
  rcases aY i j with z | z
  ·show z
  ·have:=hqm j i z hi
   lia
 have key:∀i,i < k->∀j,j < k->q j=p i->i<=j:=by
  intro i
  induction i with
  | zero=>intro _ j _ _;show be _
  | succ i ih =>
   intro hi j hj e;obtain j'|Yb|e':=hs i ();have h1:=ih () j' Yb e';have h2:=hp i (i+1) () hi;have:=hqi j' j Yb hj ()
   lia
 have adY:∀t i,i+t+1=k->∀j,j < k->q j=p i->j<=i:=by
  intro t
  induction t with
  | zero=>intro i e j hj _;lia
  | succ t ih =>
   intro i e j hj ej;obtain j'|Yb|e':=hs (i+1) ();have h1:=ih (i+1) () j' Yb e';have h2:=hp i (i+1) () ();have:=hqi j j' hj Yb ()
   lia
 intro i hi;obtain j|hj|e:=hs i hi;have h1:=key i hi j hj e;have h2:=adY (k - 1 - i) i () j hj e;have:j=i:=()
 rw[<- e,this]
theorem KU (h:aD rows n R ps) (h':aD Yi n R' Xx) (hl:ps.9=Xx.9) (hs:∀i,i < ps.9->dE Xx.9 (a7 R') (a7 R i)):R=R'/\ps=Xx:=by
 obtain l1|w1|r1:=h;obtain l2|w2|r2:=h'
 have ep:∀i,i < ps.9->ps.3 i 0=Xx.3 i 0:=Le r1.inc (by rw[hl];show r2.inc) λi hi=>by
  have u:=r1.32 i hi i hi;rw[if_pos rfl] at u;obtain j|hj|e:=r2.X9 (hs i hi) (c:=ps.3 i 0) (by rw[u];decide) (λc hc=>r1.lead i hi c hc);show #[j,(),e]
 have eps:ps=Xx:=by
  apply dQ hl;intro i a b;have:=ep i a;rw[aa,aa,ae a,ae b] at this;show this
 refine #[Nz (n:=n) () w1 w2 λi hi c=>?_,eps];rw[l1] at hi;rw[r2.Yl (hs i hi) c,<- hl,cx hi λj hj Yb=>?_]
 ·rw[<- ep i hi];have u:=r1.32 i hi i hi;rw[if_pos rfl] at u;rw[u];grind
 ·rw[<- ep j hj];have u:=r1.32 i hi j hj;rw[if_neg (Wc Yb)] at u;rw[u];grind
end
def og (mv:Xo) (x:List Rat):List Rat:=mv.11 λxs=>cS xs x
def Xt (mv pt:Xo):Nat->Xo
 | 0=>[]
 | t+1=>pt++(Xt mv pt t).11 (og mv)
section
variable {mv pt R R' S X Y:Xo} {n t m i c:Nat} {ps Xx:List Nat} {a:Nat->Nat->Rat}
theorem mL:(og mv x).9=mv.9:=af ..
theorem MQ (lm:mv.9=n) (wm:∀xs∈mv,xs.9=n) (wR:∀xs∈R,xs.9=n) (hi:i < R.9) (c:Nat):a7 (R.11 (og mv)) i c=aV n λj=>a7 mv c j*a7 R i j:=by
 have wi:=wR _ (aG hi);have e1:(R.11 (og mv)).3 i []=og mv R[i]:=by rw[aa,az,ae hi];rfl
 have e2:R.3 i []=R[i]:=by rw[aa,ae hi];rfl
 by_cases hc:c < n
 ·have wc:=wm _ (aG (show c < mv.9 by lia));have e3:mv.3 c []=mv[c]'():=by rw[aa,ae ()];rfl
  have e4:(og mv R[i]).3 c 0=cS (mv[c]'()) R[i]:=by
   unfold og;rw[aa,az,ae ()];rfl
  unfold a7;rw[e1,e2,e3,e4,cD (),wc]
 ·have e3:mv.3 c []=[]:=by rw[aa,aJ ()];rfl
  unfold a7
  rw[e1,e3,aa,aJ (by rw[mL];lia),bJ λj _=>by
   change ([]:List Rat).3 j 0*_=0
   rw[aa];change (0:Rat)*_=0
   grind]
  rfl
theorem y7 (lm:mv.9=n) (wm:∀xs∈mv,xs.9=n) (wR:∀xs∈R,xs.9=n) (wS:∀xs∈S,xs.9=n) (hi:i < R.9) (h:dE S.9 (a7 S) (a7 R i)):dE (S.11 (og mv)).9 (a7 (S.11 (og mv))) (a7 (R.11 (og mv)) i):=by
 obtain w|hw:=h;refine #[w,λc=>?_];rw[MQ lm wm wR hi,af]
 have e1:aV n (λj=>a7 mv c j*a7 R i j)=aV n (λj=>aV S.9 λs=>w s*(a7 mv c j*a7 S s j)):=ay λj _=>by
  rw[hw j,<- bK];show ay λs _=>by grind
 rw[e1,cT];show ay λs hs=>by rw[bK,MQ lm wm wS hs]
theorem tK (h:i < X.9):a7 (X++Y) i=a7 X i:=by
 funext c;unfold a7;rw[aa (l:=X++Y),cF h,<- aa]
theorem pH:a7 (X++Y) (X.9+i)=a7 Y i:=by
 funext c;unfold a7;rw[aa (l:=X++Y),bM (),show X.9+i - X.9=i by lia,<- aa]
theorem uX (h1:∀i,i < X.9->dE m a (a7 X i)) (h2:∀i,i < Y.9->dE m a (a7 Y i)):∀i,i < (X++Y).9->dE m a (a7 (X++Y) i):=λi hi=>by
 rw[ai] at hi;by_cases h:i < X.9
 ·rw[tK h];show h1 i h
 ·obtain ⟨j,rfl⟩:∃j,i=X.9+j:=#[i - X.9,()];rw[pH];show h2 j ()
theorem rN (h:i < X.9):dE (X++Y).9 (a7 (X++Y)) (a7 X i):=by
 have:=dE.row (a:=a7 (X++Y)) (m:=(X++Y).9) (i:=i) (by rw[ai];lia);rwa [tK h] at this
theorem o7 (h:dE Y.9 (a7 Y) x):dE (X++Y).9 (a7 (X++Y)) x:=dE.trans (λs hs=>by
 have:=dE.row (a:=a7 (X++Y)) (m:=(X++Y).9) (i:=X.9+s) (by rw[ai];lia);rwa [pH] at this) h
theorem dO (lm:mv.9=n) (wp:∀xs∈pt,xs.9=n):∀t,∀xs∈Xt mv pt t,xs.9=n:=by
 intro t
 induction t with
 | zero=>intro xs hx;cases hx
 | succ t ih =>
  intro xs hx;rcases ao.mp hx with hx | hx
  ·show wp xs hx
  ·obtain y|_|rfl:=au.mp hx;rw[mL,lm]
theorem vG (lm:mv.9=n) (wm:∀xs∈mv,xs.9=n) (wp:∀xs∈pt,xs.9=n) (RR:aD (Xt mv pt t) n R ps) (X6:aD (pt++R.11 (og mv)) n R' Xx):aD (Xt mv pt (t+1)) n R' Xx:=by
 have wk:=dO (mv:=mv) lm wp t;refine #[X6.1,X6.2.1,X6.2.2.40 ?_ ?_]
 ·refine uX (λi hi=>rN hi) λi hi=>o7 ?_
  rw[af] at hi;show y7 lm wm RR.2.1 wk hi (RR.2.2.56 i (by rw[<- RR.1];show hi))
 ·refine uX (λi hi=>rN hi) λi hi=>o7 ?_
  rw[af] at hi;have:=RR.2.2.span i hi;rw[<- RR.1] at this;show y7 lm wm wk RR.2.1 hi this
theorem M9 (lm:mv.9=n) (wm:∀xs∈mv,xs.9=n) (wp:∀xs∈pt,xs.9=n):∀t i,i < (Xt mv pt t).9->dE (Xt mv pt (t+1)).9 (a7 (Xt mv pt (t+1))) (a7 (Xt mv pt t) i):=by
 intro t
 induction t with
 | zero=>intro i hi;cases hi
 | succ t ih =>
  refine uX (λi hi=>rN hi) λi hi=>o7 ?_
  rw[af] at hi;show y7 lm wm (dO lm wp t) (dO lm wp (t+1)) hi (ih i hi)
theorem z9 (lm:mv.9=n) (wm:∀xs∈mv,xs.9=n) (wp:∀xs∈pt,xs.9=n) (RR:aD (Xt mv pt t) n R ps) (X6:aD (Xt mv pt (t+1)) n R' Xx):∀i,i < ps.9->dE Xx.9 (a7 R') (a7 R i):=λi hi =>
 dE.trans (λs hs=>X6.2.2.span s hs) (dE.trans (M9 lm wm wp t) (RR.2.2.56 i hi))
theorem BW (lm:mv.9=n) (wm:∀xs∈mv,xs.9=n) (wp:∀xs∈pt,xs.9=n) (RR:aD (Xt mv pt t) n R ps) (X6:aD (pt++R.11 (og mv)) n R' Xx) (hl:Xx.9=ps.9):∀s,aD (Xt mv pt (t+s)) n R ps:=by
 have K1:=vG lm wm wp RR X6;obtain e1|e2:=KU RR K1 hl.20 (z9 lm wm wp RR K1);subst e1 e2;intro s
 induction s with
 | zero=>show RR
 | succ s ih=>show vG lm wm wp ih X6
theorem Fv (lm:mv.9=n) (wm:∀xs∈mv,xs.9=n) (wp:∀xs∈pt,xs.9=n) (RR:aD (Xt mv pt t) n R ps) (X6:aD (Xt mv pt (t+1)) n R' Xx):ps.9<=Xx.9:=by
 have h:=z9 lm wm wp RR X6
 have hs:∀i,i < ps.9->∃j,j < Xx.9/\Xx.3 j 0=ps.3 i 0:=λi hi=>by
  have u:=RR.2.2.32 i hi i hi;rw[if_pos rfl] at u;show X6.2.2.X9 (h i hi) (c:=ps.3 i 0) (by rw[u];decide) (λc hc=>RR.2.2.lead i hi c hc)
 rcases aY Xx.9 ps.9 with z | z
 ·exfalso
  have key:∀i,i < ps.9->∀j,j < Xx.9->Xx.3 j 0=ps.3 i 0->i<=j:=by
   intro i
   induction i with
   | zero=>intro _ j _ _;show be _
   | succ i ih =>
    intro hi j hj e;obtain j'|Yb|e':=hs i ();have h1:=ih () j' Yb e';have h2:=RR.2.2.inc i (i+1) () hi;rcases aY j' j with y | y
    ·lia
    ·rcases aY j j' with x | x
     ·have:=X6.2.2.inc j j' x Yb
      lia
     ·have:j=j':=()
      rw[this] at e
      lia
  obtain j|hj|e:=hs (ps.9 - 1) ();have:=key (ps.9 - 1) () j hj e
  lia
 ·show z
theorem Nb {M V c:Nat} (lm:mv.9=n) (wm:∀xs∈mv,xs.9=n) (wp:∀xs∈pt,xs.9=n) (hc:(n+1)*V<=2^c) (fm:GF M V mv) (fp:GF M V pt):∀t,∀xs∈Xt mv pt t,∀x∈xs,Fr (M^t) (2^(c*t)) x:=by
 intro t
 induction t with
 | zero=>intro xs hx;cases hx
 | succ t ih =>
  intro xs hx x Xq;have hV:V<=2^c:=ag (gA _ ()) hc;rcases ao.mp hx with hx | hx
  ·refine Fr.up (fp xs hx x Xq) (by rw[jD];show pL _ _) (ag hV (ak () (dP _ ())))
  ·obtain y|hy|rfl:=au.mp hx;unfold og at Xq;obtain r|hr|rfl:=au.mp Xq;have wr:=wm r hr;have wy:=dO (mv:=mv) lm wp t y hy;have f:=PC () (fm r hr) (ih y hy);rw[jD,cw (M^t)];refine f.22 ?_;rw[jv,Nat.mul_one,bg,cw (2^(c*t)),<- b9,wr];show ax _ (ag (ax _ ()) hc)
def jN (mv pt:Xo) (a c:Nat):Prop:=∃M V:Nat,0 < M/\M<=2^a/\(mv.9+1)*V<=2^c/\GF M V mv/\GF M V pt/\a<=200000/\c<=200000/\mv.9*(mv.9*(a+c)+4)<=1740000/\mv.9*(mv.9*(mv.9*(a+c)+4)+a+c+4)<=8900000
theorem jN.ZY {a c:Nat} (F:jN mv pt a c) (D:mv.9<=8) (wm:∀xs∈mv,xs.9=mv.9) (wp:∀xs∈pt,xs.9=mv.9) (ht:t<=mv.9):vY (Xt mv pt t) mv.9 (mv.9*(a+c)):=by
 obtain M|V|M0|Ma|hV|fm|fp|a3|c3|e14|e89:=F;have f:=Nb rfl wm wp hV fm fp t;have h1:mv.9*(a+c)<=8*400000:=aI D ();have hM:M^t<=2^(a*mv.9):=ag (mF Ma _) (by rw[<- wg];show ak () (bc _ ht));have h2:a*mv.9<=mv.9*(a+c):=by rw[cw];show bc _ ()
 have h3:mv.9=0\/mv.9*(a+c)<=1740000:=by
  rcases ug mv.9 with z | z
  ·show .inl z
  ·right
   have:=gA (mv.9*(a+c)+4) z
   lia
 have h4:mv.9*(a+c)<=1740000:=by
  rcases h3 with z | z
  ·rw[z];lia
  ·show z
 refine #[M^t,2^(mv.9*(a+c)),we M0,ag hM (ak () ()),bu,aj _,λxs hx x Xq=>Tp.of (f xs hx x Xq) ?_,(),(),?_]
 ·refine ag (aI (ak () (bc c ht)) hM) ?_;rw[<- bg];refine ak () ?_;rw[cw c,cw a,<- jv,ir c];show aj _
 ·show ag (ax _ (L4 _ _)) ()
theorem jN.tp {a c:Nat} (F:jN mv pt a c) (D:mv.9<=8) (wm:∀xs∈mv,xs.9=mv.9) (wp:∀xs∈pt,xs.9=mv.9) (ht:t<=mv.9) (RR:aD (Xt mv pt t) mv.9 R ps):∃M,0 < M/\M<=2^(mv.9*(mv.9*(a+c)+4))/\∀xs∈R,∀x∈xs,Tp M (2^(mv.9*(mv.9*(a+c)+4))) x:=by
 obtain _|M|h0|h1|h2:=Fc (dO rfl wp t) (F.ZY D wm wp ht) RR;have le:2^(min (Xt mv pt t).9 mv.9*(mv.9*(a+c)+4))<=2^(mv.9*(mv.9*(a+c)+4)):=ak () (ax _ (L4 _ _));show #[M,h0,ag h1 le,λxs hx x Xq=>(h2 xs hx x Xq).22 le]
theorem jN.step {a c:Nat} (F:jN mv pt a c) (D:mv.9<=8) (wm:∀xs∈mv,xs.9=mv.9) (wp:∀xs∈pt,xs.9=mv.9) (ht:t<=mv.9) (RR:aD (Xt mv pt t) mv.9 R ps):vY (pt++R.11 (og mv)) mv.9 (mv.9*(mv.9*(a+c)+4)+a+c):=by
 obtain N|N0|N1|tN:=F.tp D wm wp ht RR;obtain M|V|M0|Ma|hV|fm|fp|a3|c3|e14|e89:=F;generalize mv.9*(mv.9*(a+c)+4)=e at *
 have V1:V<=2^c:=ag (gA _ ()) hV;have eW:(2:Nat)^(e+a+c)=2^c*(2^a*2^e):=by rw[<- bg,<- bg];congr 1;lia
 refine #[N*M,2^(e+a+c),bY N0 M0,?_,bu,aj _,λxs hx x Xq=>?_,(),(),?_]
 ·show ag (aI N1 Ma) (by rw[<- bg];show ak () ())
 ·rcases ao.mp hx with hx | hx
  ·refine Tp.of ((fp xs hx x Xq).Y1 N) ?_;rw[eW,cw N];show aI V1 (aI Ma N1)
  ·obtain y|hy|rfl:=au.mp hx;unfold og at Xq;obtain r|hr|rfl:=au.mp Xq;have wr:=wm r hr;have wy:=RR.2.1 y hy;rw[cD (),wr];have t1:∀j,Tp M (V*M) (r.3 j 0):=λj=>CC (λx hx=>Tp.of (fm r hr x hx) (aj _)) j
   have t2:∀j,Tp N (2^e) (y.3 j 0):=λj=>CC (tN y hy) j
   have:=Tp.sum (k:=mv.9) (M:=N*M) (W:=V*M*2^e) (f:=λj=>r.3 j 0*y.3 j 0) λj _=>by
    have:=(t1 j).mul (t2 j);rwa [cw M N] at this
   refine this.22 ?_;rw[eW,b9 V,<- b9 mv.9];show aI (ag (ax _ ()) hV) (ax _ Ma)
 ·show ag (ax _ (L4 _ _)) (by rw[show e+a+c+4=e+a+c+4 from rfl];show e89)
theorem jN._C {a c:Nat} (F:jN mv pt a c) (D:mv.9<=8) (wm:∀xs∈mv,xs.9=mv.9) (wp:∀xs∈pt,xs.9=mv.9) (ht:t<=mv.9) (RR:aD (Xt mv pt t) mv.9 R ps):∀xs∈mv,∀r∈R,v9 xs r:=λxs hx r hr=>by
 obtain N|N0|N1|tN:=F.tp D wm wp ht RR;obtain M|V|M0|Ma|hV|fm|fp|a3|c3|e14|e89:=F;have V1:V<=2^c:=ag (gA _ ()) hV;have p14:=ak (show 0 < 2 by decide) e14;show #[200000,200000,1740000,1740000,#[M,V,M0,ag Ma (ak () a3),ag V1 (ak () c3),fm xs hx],#[N,2^1740000,N0,ag N1 p14,aj _,λx hx=>((tN r hr x hx).22 p14).fr N0],()]
end
inductive BF (K:Xn) (C:Addr) (vs:List V) (H:Hp) (Q:VK) (E9:XK):Prop
 | mk (x p:Addr) (H0 H1:Hp) (mv pt lk R:Xo):vs=[.ref x,.ref p]->kU K H0 H C x mv pt lk->eO mv pt lk->aP K H1 H p R->R.9<=100->(∀r∈R,r.9=mv.9)->(∀xs∈mv,∀r∈R,v9 xs r)->(∀r H',H r=none->aE H H'->aP K H H' r (R.11 (og mv))->Q (.ref r) H')->BF K C vs H Q E9
structure AA (mv pt:Xo) (Rs:List (Xo)):Prop where
 ne:Rs≠[]
 rr:∀t R,Rs[t]?=some R->∃ps,aD (Xt mv pt t) mv.9 R ps
 up:∀t R R',Rs[t]?=some R->Rs[t+1]?=some R'->R.9 < R'.9
def GrL (K:Xn) (H0 H:Hp) (l:Addr) (Rs:List (Xo)):Prop:=∃us,H l=some (.lst us)/\Vs (λR v=>∃q,v=V.ref q/\H0 q=none/\q≠l/\aP K H0 H q R) Rs us
inductive BI (K:Xn) (C:Addr) (vs:List V) (H:Hp) (Q:VK) (E9:XK):Prop
 | mk (x:Addr) (a c st:Nat) (H0:Hp) (mv pt lk:Xo):vs=[.ref x,.int st]->st<=1000->kU K H0 H C x mv pt lk->eO mv pt lk->jN mv pt a c->(∀r Rs H',H r=none->aE H H'->GrL K H H' r Rs->AA mv pt Rs->Rs.9<=st+1->(∀R,Rs.getLast?=some R->∀s,(Rs.9 - 1=st/\s=st\/Rs.9 - 1 < st/\Rs.9 - 1<=s)->∃ps,aD (Xt mv pt s) mv.9 R ps)->Q (.ref r) H')->BI K C vs H Q E9
inductive BC (K:Xn) (C:Addr) (vs:List V) (H:Hp) (Q:VK) (E9:XK):Prop
 | mk (x:Addr) (a c st:Nat) (H0:Hp) (mv pt lk:Xo):vs=[.ref x,.int st]->st<=1000->kU K H0 H C x mv pt lk->eO mv pt lk->jN mv pt a c->(∀r R ps H',H r=none->aE H H'->aP K H H' r R->aD (Xt mv pt st) mv.9 R ps->Q (.ref r) H')->BC K C vs H Q E9
section
variable {K:Xn}
theorem aP.YT (h:aP K H0 H p rows) (hn:∀q,H0 q=none->H1 q=none):aP K H1 H p rows:=by obtain xs|g|r|n:=h;show #[xs,g,bv (λ_ _ #[q,a,b,c]=>#[q,a,hn q b,c]) r,n]
theorem aP.XA (h:aP K H0 H p rows) (hl:H l=some (.lst ys)) (nl:H0 l≠none) (pl:p≠l):aP K H0 (upd H l o) p rows:=by obtain xs|g|r|n:=h;show #[xs,by rw[bA pl];show g,bv (λ_ _ z=>cu.XA z hl nl) r,n]
theorem HM:aD [] n [] []:=#[rfl,(λ_ h=>by cases h),(λ_ _ _ h=>absurd h (fO _)),(λ_ h=>absurd h (fO _)),(λ_ h=>absurd h (fO _)),(λ_ h=>absurd h (fO _)),(λ_ h=>absurd h (fO _)),(λ_ h=>absurd h (fO _))]
theorem AA.len (h:AA mv pt Rs):∀(t:Nat) (R:Xo),Rs[t]?=some R->t<=R.9:=by
 intro t
 induction t with
 | zero=>intro R _;show be _
 | succ t ih =>
  intro R e;have ht:=(aB.mp e).1;have e0:=ae (show t < Rs.9 by lia);have:=ih _ e0;have:=h.up t _ R e0 e
  lia
theorem AA.snoc (h:AA mv pt (Rs++[R])) (h1:aD (Xt mv pt (Rs.9+1)) mv.9 R' Xx) (h2:R.9 < R'.9):AA mv pt ((Rs++[R])++[R']):=by
 have l1:(Rs++[R]).9=Rs.9+1:=by rw[ai];rfl
 refine #[by simp,λt S e=>?_,λt S S' e e'=>?_]
 ·rcases aY t (Rs.9+1) with z | z
  ·rw[cF ()] at e;show h.rr t S e
  ·have ht:=(aB.mp e).1;rw[ai,a9] at ht;have:t=Rs.9+1:=()
   subst this;rw[bM (),l1,oC] at e;cases e;show #[Xx,h1]
 ·have ht:=(aB.mp e').1;rw[ai,a9] at ht;rw[cF ()] at e;rcases aY (t+1) (Rs.9+1) with z | z
  ·rw[cF ()] at e';show h.up t S S' e e'
  ·have:t=Rs.9:=()
   subst this;rw[bM (),l1,oC] at e';cases e';rw[bM (aj _),oC] at e;cases e;show h2
end
def rf (k t i:Nat):Nat:=if i < k then i else if i=k then t else if i<=t then i - 1 else i
def Fb (k t i:Nat):Nat:=if i < k then i else if i=t then k else if i < t then i+1 else i
section
variable {k t m i j:Nat}
theorem vd (h : k ≤ t) (ht : t < m) (hi : i < m) : rf k t i < m := by     unfold rf; split; · show hi
                                                                          · split; · show ht
                                                                            · split <;> lia
theorem TV (h : k ≤ t) (ht : t < m) (hi : i < m) : Fb k t i < m := by     unfold Fb; split; · show hi
                                                                          · split; · lia
                                                                            · split <;> lia
theorem TU (h:k<=t):rf k t (Fb k t i)=i:=by
 by_cases h1:i < k
 ·rw[show Fb k t i=i by unfold Fb;rw[if_pos h1]];unfold rf;rw[if_pos h1]
 ·by_cases h2:i=t
  ·rw[show Fb k t i=k by unfold Fb;rw[if_neg h1,if_pos h2]];unfold rf;rw[if_neg (),if_pos rfl,h2]
  ·by_cases h3:i < t
   ·rw[show Fb k t i=i+1 by unfold Fb;rw[if_neg h1,if_neg h2,if_pos h3]];unfold rf;rw[if_neg (),if_neg (),if_pos ()];lia
   ·rw[show Fb k t i=i by unfold Fb;rw[if_neg h1,if_neg h2,if_neg h3]];unfold rf;rw[if_neg h1,if_neg (),if_neg ()]
theorem Qv (h:k<=t):Fb k t (rf k t i)=i:=by
 by_cases h1:i < k
 ·rw[show rf k t i=i by unfold rf;rw[if_pos h1]];unfold Fb;rw[if_pos h1]
 ·by_cases h2:i=k
  ·rw[show rf k t i=t by unfold rf;rw[if_neg h1,if_pos h2]];unfold Fb;rw[if_neg (),if_pos rfl,h2]
  ·by_cases h3:i<=t
   ·rw[show rf k t i=i - 1 by unfold rf;rw[if_neg h1,if_neg h2,if_pos h3]];unfold Fb;rw[if_neg (),if_neg (),if_pos ()];lia
   ·rw[show rf k t i=i by unfold rf;rw[if_neg h1,if_neg h2,if_neg h3]];unfold Fb;rw[if_neg h1,if_neg (),if_neg ()]
theorem sO (hi:i < k):rf k t i=i:=by unfold rf;rw[if_pos hi]
theorem ve (h:k<=t) (hi:k<=i):k<=rf k t i:=by
 unfold rf;rw[if_neg ()]
 split
 ·show h
 ·split <;> lia
variable {a l:Nat->Nat->Rat} {pm p:Nat->Nat} {d:Rat} {P:Nat}
theorem wj.rot (B:wj a m k pm p l d) (h:k<=t) (ht:t < m):wj a m k (λi=>pm (rf k t i)) p (λi=>l (rf k t i)) d where
 inj i j hi hj e:=by
  have:=B.inj _ _ (vd h ht hi) (vd h ht hj) e;rw[<- Qv (i:=i) h,this,Qv h]
 Ym i hi:=B.Ym _ (vd h ht hi)
 km:=B.km
 d0:=B.d0
 det:=by rw[B.det,zD (f:=pm) (g:=λi=>pm (rf k t i)) λj hj=>by rw[sO hj]]
 Zs i hi c:=by
  have e:=B.Zs (rf k t i) (vd h ht hi) c;have e1:aV k (λj=>a (pm (rf k t i)) (p j)*l (rf k t j) c)=aV k (λj=>a (pm (rf k t i)) (p j)*l j c):=ay λj hj=>by rw[sO hj]
  rw[e1];by_cases hk:i < k
  ·rw[sO hk] at e ⊢;show e
  ·rw[if_neg hk];rw[if_neg (by have:=ve h (show k<=i by lia);lia)] at e;show e
 unit i hi j hj:=by
  rw[B.32 _ (vd h ht hi) j hj];by_cases hk:i < k
  ·rw[sO hk]
  ·have:=ve h (show k<=i by lia);rw[if_neg (),if_neg ()]
theorem kY.rot (E:kY a m k P p l d) (h:k<=t) (ht:t < m):kY a m k P p (λi=>l (rf k t i)) d where
 km:=E.km
 d0:=E.d0
 unit i hi j hj:=by
  rw[E.32 _ (vd h ht hi) j hj];by_cases hk:i < k
  ·rw[sO hk]
  ·have:=ve h (show k<=i by lia);rw[if_neg (),if_neg ()]
 inc:=E.inc
 low:=E.52
 zero i h1 h2 c hc:=E.zero _ (ve h h1) (vd h ht h2) c hc
 lead j hj c hc:=by rw[sO hj];show E.lead j hj c hc
 there i hi:=dE.trans (λs hs=>dE.congr (λc=>by rw[TU h]) (dE.row (a:=λi=>l (rf k t i)) (i:=Fb k t s) (TV h ht hs))) (E.there i hi)
 back i hi:=E.56 _ (vd h ht hi)
end
section
variable {rows fs ls:Xo} {n P w a:Nat} {ps:List Nat}
theorem OC:kB k k i=i:=by unfold kB;split <;> (try split) <;> lia
theorem yR.rot (h:yR rows n P (fs++ls) ps) (hf:fs.9=ps.9) (ht:t < ls.9):yR rows n P (fs++ls.3 t [] :: ls.23 t) ps:=by
 obtain len|wide|pm|l|d|B|E|v:=h;rw[ai] at len;have h1:ps.9<=ps.9+t:=()
 have h2:ps.9+t < rows.9:=()
 have ef:∀i,i < rows.9->∀c,a7 (fs++ls.3 t [] :: ls.23 t) i c=a7 (fs++ls) (rf ps.9 (ps.9+t) i) c:=λi hi c=>by
  by_cases z:i < ps.9
  ·rw[sO z,tK (),tK ()]
  ·obtain ⟨j,rfl⟩:∃j,i=fs.9+j:=#[i - fs.9,()];rw[pH];cases j with
   | zero =>
    rw[show rf ps.9 (ps.9+t) (fs.9+0)=fs.9+t by unfold rf;rw[if_neg (),if_pos ()];lia,pH];rfl
   | succ j =>
    by_cases y:j < t
    ·rw[show rf ps.9 (ps.9+t) (fs.9+(j+1))=fs.9+j by unfold rf;rw[if_neg (),if_neg (),if_pos ()];lia,pH];change a7 (ls.23 t) j c=_
     unfold a7;rw[aa (l:=ls.23 t),List.getElem?_eraseIdx_of_lt y,<- aa]
    ·rw[show rf ps.9 (ps.9+t) (fs.9+(j+1))=fs.9+(j+1) by unfold rf;rw[if_neg (),if_neg (),if_neg ()],pH];change a7 (ls.23 t) j c=_
     unfold a7;rw[aa (l:=ls.23 t),List.getElem?_eraseIdx_of_ge (),<- aa]
 refine #[?_,λxs hx=>?_,λi=>pm (rf ps.9 (ps.9+t) i),λi=>l (rf ps.9 (ps.9+t) i),d,B.rot h1 h2,E.rot h1 h2,λi hi c=>?_]
 ·rw[ai,bC,QX ht];lia
 ·rcases ao.mp hx with hx | hx
  ·show wide xs (ao.mpr (.inl hx))
  ·rcases aF.mp hx with rfl | hx
   ·show wide _ (ao.mpr (.inr (getD_in ht)))
   ·show wide xs (ao.mpr (.inr (Ti hx)))
 ·rw[ef i hi c,v _ (vd h1 h2 hi) c];by_cases z:i < ps.9
  ·dsimp only
   rw[sO z]
  ·rw[if_neg z,if_neg (by have:=ve h1 (show ps.9<=i by lia);lia)]
def oy (P:Nat) (h:List Rat):List Rat:=h.11 λy=>1 / h.3 P 0*y
def yu (P:Nat) (u r:List Rat):List Rat:=VH (λx y=>x - y) r (u.11 λy=>r.3 P 0*y)
theorem yR.lean (h:yR rows n P (fs++ls) ps) (hf:fs.9=ps.9) (ht:t < ls.9) (hP:P < n) (Yr:(ls.3 t []).3 P 0≠0):yR rows n (P+1) ((fs.11 (yu P (oy P (ls.3 t [])) )++[oy P (ls.3 t [])])++(ls.23 t).11 (yu P (oy P (ls.3 t [])))) (ps++[P]):=by
 have R:=h.rot hf ht;have len:=R.38;have wide:=R.wide;generalize ls.3 t []=hd at *
 generalize ls.23 t=l2 at *
 rw[ai,bC] at len;have whd:hd.9=n:=wide _ (ao.mpr (.inr (.head _)));have wu:(oy P hd).9=n:=by unfold oy;rw[af];show whd
 have ek:a7 (fs++hd :: l2) ps.9=λc=>hd.3 c 0:=by
  have:=pH (X:=fs) (Y:=hd :: l2) (i:=0);rw[show fs.9+0=ps.9 by lia] at this;rw[this];rfl
 have wl:∀r,r.9=n->(yu P (oy P hd) r).9=n:=λr hr=>by unfold yu;rw[dw,af,wu,hr];lia
 have vl:∀r,r.9=n->∀c,(yu P (oy P hd) r).3 c 0=r.3 c 0 - r.3 P 0*(1 / hd.3 P 0*hd.3 c 0):=λr hr c=>by
  unfold yu;rw[SI (by rw[af,wu,hr]),Nt];unfold oy;rw[Nt]
 refine R.step (t:=ps.9) (aj _) (by rw[ai,bC];lia) (by rw[ek];show Yr) ?_ ?_ λi hi c=>?_
 ·rw[ai,ai,af,af,a9];lia
 ·intro xs hx;rcases ao.mp hx with hx | hx
  ·rcases ao.mp hx with hx | hx
   ·obtain r|hr|rfl:=au.mp hx;show wl r (wide r (ao.mpr (.inl hr)))
   ·rw[cA.mp hx];show wu
  ·obtain r|hr|rfl:=au.mp hx;show wl r (wide r (ao.mpr (.inr (.tail _ hr))))
 ·rw[OC,ek]
  dsimp only
  have lf:(fs.11 (yu P (oy P hd))).9=ps.9:=by rw[af];show hf
  have key:∀{X:Xo} {s:Nat} (hs:s < X.9) (_:∀r∈X,r.9=n),a7 (X.11 (yu P (oy P hd))) s c=a7 X s c - a7 X s P*(1 / hd.3 P 0*hd.3 c 0):=λ{X s} hs hX=>by
   unfold a7;have e1:(X.11 (yu P (oy P hd))).3 s []=yu P (oy P hd) X[s]:=by rw[aa,az,ae hs];rfl
   have e2:X.3 s []=X[s]:=by rw[aa,ae hs];rfl
   rw[e1,e2];show vl _ (hX _ (aG hs)) c
  rcases eE i ps.9 with z | z | z
  ·rw[if_neg (),cp,tK (),tK (),key () λr hr=>wide r (ao.mpr (.inl hr))]
  ·rw[if_pos z,cp,show i=(fs.11 (yu P (oy P hd))).9+0 by lia,pH];change (oy P hd).3 c 0=_
   unfold oy;rw[Nt]
  ·rw[if_neg ()];obtain ⟨j,rfl⟩:∃j,i=ps.9+1+j:=#[i - ps.9 - 1,()]
   have e1:a7 (fs++hd :: l2) (ps.9+1+j)=a7 l2 j:=by
    have:=pH (X:=fs) (Y:=hd :: l2) (i:=j+1);rw[show fs.9+(j+1)=ps.9+1+j by lia] at this;rw[this];rfl
   have e2:a7 ((fs.11 (yu P (oy P hd))++[oy P hd])++l2.11 (yu P (oy P hd))) (ps.9+1+j)=a7 (l2.11 (yu P (oy P hd))) j:=by
    have:=pH (X:=fs.11 (yu P (oy P hd))++[oy P hd]) (Y:=l2.11 (yu P (oy P hd))) (i:=j);rw[ai,lf,a9] at this;show this
   rw[e1,e2,key () λr hr=>wide r (ao.mpr (.inr (.tail _ hr)))]
end
theorem vq {α β:Type} {F:α->β->Prop}:∀{l1:List α} {l2:List β} (_:Vs F l1 l2) (i:Nat),Vs F (l1.23 i) (l2.23 i)
 | _,_,.nil,_=>.nil
 | _,_,.cons _ r,0=>r
 | _,_,.cons h r,i+1=>.cons h (vq r i)
theorem So:c∈Fo xs i↔c < i/\xs.3 c 0≠0:=by
 unfold Fo;rw[fP,kC];simp
theorem aP.toE {K:Xn} (h:aP K H0 H l rows):∃us,H l=some (.lst us)/\Vs (oY K (λq=>H0 q=none/\q≠l) H) rows us:=by
 obtain us|g|pr|nn:=h;show #[us,g,sR (λxs v hv #[q,e,a,b]=>#[q,e,#[a,λz=>nn (by rw[<- z,<- e];show hv)],b]) pr]
theorem BR {α:Type} {v:α}:∀{l:List α},l.33->v∉l->∀j,(l.42 j v).33
 | [],_,_,_=>oE
 | a :: l,h,hn,0=>by
  rw[eP] at h;rw[List.set_cons_zero,eP];show #[λz=>hn (.tail _ z),h.2]
 | a :: l,h,hn,j+1=>by
  rw[eP] at h;rw[List.set_cons_succ,eP];refine #[λz=>?_,BR h.2 (λz=>hn (.tail _ z)) j];rcases cE z with z | z
  ·show h.1 z
  ·show hn (by rw[z];show .head _)
structure kv (K:Xn) (A:Addr->Prop) (H:Hp) (n:Nat) (C:V->Rat->Prop) (m p l b q0:Addr) (us ws vs:List V):Prop where
 YD:jW H b
 YV:Inner H b q0
 gm:H m=some (.lst us)
 gp:H p=some (.lst ws)
 gl:H l=some (.lst vs)
 lm:us.9=n
 row:∀x∈us++vs++ws,fZ K A H n (C x) x
 nd:(us++vs++ws).33
section
variable {K:Xn}
theorem kv.same (h:kv K A H n C m p l b q0 us ws vs) (e:aE H H'):kv K A H' n C m p l b q0 us ws vs :=
 #[h.YD.10 e,(e.Xs (p:=b)).2 _ h.YV,e _ _ h.gm,e _ _ h.gp,e _ _ h.gl,h.lm,λx hx=>(h.row x hx).10 e,h.nd]
theorem kv.Xs (h:kv K A H n C m p l b q0 us ws vs) (M:GO A m p l b q0) (u:de b H H') (B':jW H' b):kv K A H' n C m p l b q0 us ws vs :=
 #[B',u.2 _ h.YV,u.40 M.mb h.gm,u.40 M.pb h.gp,u.40 M.lb h.gl,h.lm,λx hx=>(h.row x hx).Xs u h.YD M.ab,h.nd]
theorem kv.weak (h:kv K A H n C m p l b q0 us ws vs) (w:∀x∈us++vs++ws,∀y,C x y->C' x y):kv K A H n C' m p l b q0 us ws vs :=
 #[h.YD,h.YV,h.gm,h.gp,h.gl,h.lm,λx hx=>(h.row x hx).44 (λ_ z=>z) (w x hx),h.nd]
theorem kv.put (h:kv K A H n C m p l b q0 us ws vs) (M:GO A m p l b q0) (aq:A q) (hq:H q=some (.lst zs)) (hv:cm K H y v) (hc:C (.ref q) y) (j:Nat):kv K A (upd H q (.lst (zs.42 j v))) n C m p l b q0 us ws vs:=by
 have ne:∀{z},¬A z->z≠q:=λh e=>h (by rw[e];show aq)
 refine #[h.YD.upd h.YV (ne M.ab).20 (ne M.aq).20,h.YV.upd (ne M.ab).20,by rw[bA (ne M.am)];show h.gm,by rw[bA (ne M.ap)];show h.gp,by rw[bA (ne M.al)];show h.gl,h.lm,λx hx=>?_,h.nd];by_cases e:x=.ref q
 ·subst e;show (h.row _ hx).put hq hv hc j
 ·obtain q1|qs|rfl|a1|r1|l1|c1:=h.row x hx;show #[q1,qs,rfl,a1,r1.XA hq (λz=>e (by rw[z])),l1,c1]
theorem kv.set (h:kv K A H n C m p l b q0 us ws vs) (M:GO A m p l b q0) (hx:fZ K A H n (C v) v) (hn:v∉us++vs++ws) (j:Nat):kv K A (upd H m (.lst (us.42 j v))) n C m p l b q0 (us.42 j v) ws vs:=by
 have mem:∀x∈us.42 j v++vs++ws,x=v\/x∈us++vs++ws:=λx hx=>by
  rcases ao.mp hx with hx | hx
  ·rcases ao.mp hx with hx | hx
   ·rcases cE hx with hx | hx
    ·show .inr (by simp [hx])
    ·show .inl hx
   ·show .inr (by simp [hx])
  ·show .inr (by simp [hx])
 refine #[h.YD.upd h.YV M.mb M.mq,h.YV.upd M.mb,aK,by rw[bA M.mp.20];show h.gp,by rw[bA M.ml.20];show h.gl,by rw[eQ];show h.lm,λx Xq=>?_,?_]
 ·rcases mem x Xq with rfl | Xq
  ·show hx.40 h.gm M.am
  ·show (h.row x Xq).40 h.gm M.am
 ·have nd:=h.nd;rw[cp] at nd hn ⊢;obtain n1|n2|n3:=dC.mp nd;refine dC.mpr #[?_,n2,λa ha c hc=>?_]
  ·rcases aY j us.9 with z | z
   ·show BR n1 (λz'=>hn (ao.mpr (.inl z'))) j
   ·rw[List.set_eq_of_length_le z];show n1
  ·rcases cE ha with ha | rfl
   ·show n3 a ha c hc
   ·show λz=>hn (ao.mpr (.inr (by rw[z];show hc)))
end
theorem Kj (h0:0 < M) (h1:M<=2^800) (hW:W<=2^140) (h:Fr M W x):pK x :=
 Iu h0 (ag h1 (ak () ())) (ag hW (ak () ())) h
theorem Pe {t V c:Nat} (ht:t<=3) (hV:V<=2^20) (hc:c<=9):c*(9^t*V)<=2^140:=by
 have h1:9^t<=9^3:=ak () ht;have h2:c*(9^t*V)<=9*(9^3*2^20):=aI hc (aI h1 hV);show ag h2 (ag (show 9*(9^3*2^20)<=2^40 by decide) (ak () ()))
theorem qH {α:Type} {l:List α} {v:α} (h:l.33) (hn:v∉l):(l++[v]).33:=dC.mpr #[h,by simp,λa ha c hc=>by rw[cA.mp hc];show λz=>hn (by rw[<- z];show ha)]
section
variable {g:TG}
theorem Ci (G:Hp->β->V->Prop) (C:β->Prop) (hB:jW H b) (hl:n<=1000) (hG:∀{H' YS c x},G H' c x->de b H' YS->jW H' b->G YS c x)
  (hA:∀{H' c x},G H' c x->∃q,x=V.ref q/\H' q≠none)
  (hs:∀(i:Nat) H' NY NN,i < n->de b H H'->jW H' b->(∀y c H2,de b H' H2->jW H2 b->C c->G H2 c y->(∃q,y=V.ref q/\H' q=none)->NY y H2)->o6 σ₀ g tf te (.int i) H' NY NN)
  (hd:∀ys cs H' p,H p=none->de b H H'->jW H' b->H' p=some (.lst ys)->cs.9=n->ys.33->(∀c∈cs,C c)->Vs (G H') cs ys->(∃H2,H2 p=none/\Vs (G H2) cs ys)->Q (.ref p) H'):pI (GU 0 n) σ₀ g tf te Q H:=by
 refine jM (λi ys H'=>de b H H'/\jW H' b/\∃cs,cs.9=i/\ys.33/\(∀c∈cs,C c)/\Vs (G H') cs ys) gU #[(aE.refl _).Xs,hB,[],rfl,oE,(λ_ z=>nomatch z),.nil] ?_ ?_
 ·rintro i ys H' hi Xv ⟨u,B,cs,lc,nd,hc,pr⟩;rw[lY];refine hs i H' _ _ hi u B λy c H2 u2 B2 cc gy #[q,ey,nq]=>#[u.4 u2,B2,cs++[c],by simp [lc],qH nd (λz=>by obtain c'|_|gc:=cM pr z;obtain q'|e'|h':=hA gc;rw[ey] at e';cases e';show h' nq),D9 hc cc,bD (bv (λ_ _ z=>hG z u2 B) pr) (.cons gy .nil)]
 ·rintro ys H' hy ⟨u,B,cs,lc,nd,hc,pr⟩ p hp;have s:aE H' (upd H' p (.lst ys)):=aE.new hp;show hd ys cs _ p (u.17 B hp) (u.10 s) (B.10 s) aK lc nd hc (bv (λ_ _ z=>hG z s.Xs B) pr) #[H',hp,pr]
end
structure Jd (K:Xn) (A:Addr->Prop) (n:Nat) (C:Rat->Prop) (m p l b q0:Addr) (us ws vs:List V) (H0 H:Hp):Prop where
 YO:kv K A H n (λ_=>C) m p l b q0 us ws vs
 gp:H p=some (.lst ws)
 gl:H l=some (.lst vs)
 kp:i5 A b m H0 H
section
variable {K:Xn}
theorem Jd.same (h:Jd K A n C m p l b q0 us ws vs H0 H) (e:aE H H'):Jd K A n C m p l b q0 us ws vs H0 H':=#[h.YO.10 e,e _ _ h.gp,e _ _ h.gl,h.kp.10 e]
theorem Jd.Xs (h:Jd K A n C m p l b q0 us ws vs H0 H) (M:GO A m p l b q0) (u:de b H H') (B:jW H' b):Jd K A n C m p l b q0 us ws vs H0 H':=#[h.YO.Xs M u B,u.40 M.pb h.gp,u.40 M.lb h.gl,h.kp.Xs u]
theorem Jd.row (h:Jd K A n C m p l b q0 us ws vs H0 H) (hx:x∈ws\/x∈vs):fZ K A H n C x:=h.YO.row x (by rcases hx with hx | hx <;> simp [hx])
theorem Jd.put (h:Jd K A n C m p l b q0 us ws vs H0 H) (M:GO A m p l b q0) (hx:V.ref q∈ws\/V.ref q∈vs) (hv:cm K H y v) (hc:C y) (j:Nat):∃zs,H q=some (.lst zs)/\zs.9=n/\Jd K A n C m p l b q0 us ws vs H0 (upd H q (.lst (zs.42 j v))):=by
 obtain q'|zs|qs|e|a|g|lz|_:=(h.row hx).at;cases e;have ne:∀{z},¬A z->z≠q:=λh e=>h (by rw[e];show a)
 show #[zs,g,lz,h.YO.put M a g hv hc j,by rw[bA (ne M.ap)];show h.gp,by rw[bA (ne M.al)];show h.gl,h.kp.upd (.inl a)]
end
inductive ES (K:Xn) (vs:List V) (H:Hp) (Q:VK) (E9:XK):Prop
 | mk (b:Addr) (n w:Nat) (way first:Int):vs=[.ref b,.int n,.int way,.int first,.int w]->jW H b->n<=8->1<=w->w<=1000000->(∀r us H',H r=none->H' r=some (.lst us)->us.9=n->us.33->(∀x∈us,fZ K (λq=>H q=none/\q≠r) H' n (Dr (max w 6)) x)->jW H' b->de b H H'->Q (.ref r) H')->ES K vs H Q E9
def PtF (n i o w c:Nat) (mv pt lk:Xo):Prop:=∃M V1:Nat,0 < M/\GF M V1 mv/\GF M V1 pt/\GF M V1 lk/\((w<=9/\M=2520/\V1=9^3*9)\/(9 < w/\M<=2^(c*((n+i+o)*n))/\V1=9^3*2^c))
inductive ET (K:Xn) (vs:List V) (H:Hp) (Q:VK) (E9:XK):Prop
 | mk (b:Addr) (n:Nat):vs=[.ref b,.int n]->jW H b->1<=n->n<=8->(∀r mv pt lk H',gV K H H' r mv pt lk->mv.9=n->pt.9=1->lk.9=1->eO mv pt lk->GF 1 1 mv->GF 1 1 pt->GF 1 1 lk->jW H' b->de b H H'->Q (.ref r) H')->ET K vs H Q E9
theorem Dy (M0:0 < M) (hM:M<=2^a) (hn:mv.9<=n0) (hV:(n0+1)*V1<=2^c) (fm:GF M V1 mv) (fp:GF M V1 pt) (h4:a<=200000/\c<=200000/\n0*(n0*(a+c)+4)<=1740000/\n0*(n0*(n0*(a+c)+4)+a+c+4)<=8900000):jN mv pt a c:=by
 obtain h1|h2|h3|h5:=h4;have e1:mv.9*(a+c)<=n0*(a+c):=ax _ hn;have e2:mv.9*(mv.9*(a+c)+4)<=n0*(n0*(a+c)+4):=aI hn ();have e3:mv.9*(mv.9*(mv.9*(a+c)+4)+a+c+4)<=n0*(n0*(n0*(a+c)+4)+a+c+4):=aI hn ();show #[M,V1,M0,hM,ag (ax _ ()) hV,fm,fp,h1,h2,(),()]
def OF (K:Xn):Sp:=λvs H Q _=>∃b:Addr,vs=[.ref b]/\jW H b /\
 ∀r mv pt lk H',gV K H H' r mv pt lk->6<=mv.9->eO mv pt lk->GF 1 (9^3) mv->GF 1 (9^3) pt->GF 1 (9^3) lk->jW H' b->de b H H'->Q (.ref r) H'
theorem Fw (lm:mv.9=n) (wm:∀xs∈mv,xs.9=n) (wp:∀xs∈pt,xs.9=n) (RR:aD (Xt mv pt t) n R ps) (X6:aD (Xt mv pt (t+1)) n R' Xx):aD (pt++R.11 (og mv)) n R' Xx:=by
 have wk:=dO (mv:=mv) lm wp t;refine #[X6.1,X6.2.1,X6.2.2.40 ?_ ?_]
 ·refine uX (λi hi=>rN hi) λi hi=>o7 ?_
  rw[af] at hi;have:=RR.2.2.span i hi;rw[<- RR.1] at this;show y7 lm wm wk RR.2.1 hi this
 ·refine uX (λi hi=>rN hi) λi hi=>o7 ?_
  rw[af] at hi;show y7 lm wm RR.2.1 wk hi (RR.2.2.56 i (by rw[<- RR.1];show hi))
theorem Qz {F G:List jV->Rat} {r:Nat} {σ:Nat->Nat} (hF:∀ws:List jV,F (ws.11 λv i=>v (σ i))=G ws):∀(post pre:List jV) (s:Rat),AK F r (pre.11 λv i=>v (σ i)) (post.11 λv i=>v (σ i)) s=AK G (σ r) pre post s
 | [],_,_=>rfl
 | v :: post,pre,s=>by
  have i1:=hF (pre++post);have i2:=Qz (r:=r) hF post (pre++[v]) (-s);simp only[bH,iB,List.map_nil,AK] at i1 i2 ⊢;rw[i1,i2]
theorem QN {σ:Nat->Nat}:∀(rs:List Nat) (vs:List jV),rH rs (vs.11 λv i=>v (σ i))=rH (rs.11 σ) vs
 | [],[]=>rfl
 | [],_ :: _=>rfl
 | r :: rs,vs=>Qz (λws=>QN rs ws) vs [] 1
theorem MB {σ:Nat->Nat}:∀{k:Nat},(xo (λi=>i) k).11 σ=xo σ k
 | 0=>rfl
 | k+1=>by change σ k :: _=_;rw[MB];rfl
theorem ZN {τ:jV->jV} {v:Nat->jV}:∀{k:Nat},(qT v k).11 τ=qT (λj=>τ (v j)) k
 | 0=>rfl
 | k+1=>by change τ (v k) :: _=_;rw[ZN];rfl
theorem SO:rH (xo σ k) (qT v k)=rH (xo (λi=>i) k) (qT (λj i=>v j (σ i)) k):=by
 rw[<- MB,<- QN,ZN]
structure Vb (r n:Nat) (Pm Y Z:Nat->Nat->Rat) (d:Rat) (W:Nat):Prop where
 d0:d≠0
 det:d=rH (xo (λi=>i) r) (qT (λj i=>Pm i j) r)
 eq:∀i,i < r->∀c,c < n->Z i c=aV r λs=>Pm i s*Y s c
 pf:∀i,i < r->∀s,s < r->Fr 1 W (Pm i s)
 zf:∀i,i < r->∀c,c < n->Fr 1 W (Z i c)
section
variable {rows fs ls:Xo} {n r M W Wv Wb k P:Nat} {Pm Y Z B E a:Nat->Nat->Rat} {d:Rat} {ps:List Nat} {rs:Xo}
def N7 (rows:Xo) (n S:Nat):Prop:=2*S<=3990000/\∃J:Nat->Xo->List Nat->Prop,J 0 rows []/\(∀P rs ps,J P rs ps->(∀i,ps.9<=i->i < rs.9->a7 rs i P=0)->J (P+1) rs ps) /\
 (∀P fs ls ps t,J P (fs++ls) ps->fs.9=ps.9->t < ls.9->P < n->(ls.3 t []).3 P 0≠0->J (P+1) ((fs.11 (yu P (oy P (ls.3 t [])) )++[oy P (ls.3 t [])])++(ls.23 t).11 (yu P (oy P (ls.3 t [])))) (ps++[P])) /\
 (∀P rs ps,J P rs ps->yR rows n P rs ps)/\∀P rs ps,J P rs ps->P<=n->∀i,i < rows.9->∃D:Nat,0 < D/\D<=2^S/\∀c,Tp D (2^S) (a7 rs i c)
theorem N9.Zo {w a:Nat} (F:N9 rows n w a) (hw:∀xs∈rows,xs.9=n):N7 rows n (min rows.9 n*(w+4)+a):=by
 obtain _|_|_|_|_|_|_|_|e:=id F;refine #[e,yR rows n,yR.start hw,λ_ _ _ h z=>h.skip z,λ_ _ _ _ _ h hf ht hP Yr=>h.lean hf ht hP Yr,λ_ _ _ h=>h,λP rs ps h hP i hi=>?_];obtain D|D0|D1|D2:=h.sz F hP hi;show #[D,D0,D1,λc=>(D2 c).22 (ak () ())]
end
section
variable {rows R R1 R2 mv pt:Xo} {n r M V1 W W' Wv Wb k P:Nat} {Pm Y Z B E a:Nat->Nat->Rat} {d:Rat} {ps ps1 YF:List Nat} {rs:Xo}
theorem Mc (h0:0 < M) (h3:∀xs∈rows,∀x∈xs,Tp M W x):∀i,i < rows.9->∀c,Fr 1 W (d6 (rows.11 iu) i c):=λi hi c=>by
 have hx:=getD_in (e:=[]) hi;rw[xV hi];unfold a7;generalize rows.3 i []=xs at hx ⊢;by_cases hc:c < xs.9
 ·have t:=h3 xs hx _ (getD_in (e:=0) hc);obtain s|e|b:=wD t h0 (pF (xs:=xs)) (pG (au.mpr #[_,getD_in (e:=0) hc,rfl])) (yQ h0 (h3 xs hx));rw[cf,e];show Fr.int b
 ·rw[aa,aJ ()];change Fr 1 W (_*0)
  rw[bB];show Fr.zero
theorem Vb.of (hw:∀xs∈rows,xs.9=n) (hW:1<=W) (h0:0 < M) (h3:∀xs∈rows,∀x∈xs,Tp M W x) (RR:aD rows n R ps):∃Pm Z d,Vb ps.9 n Pm (a7 R) Z d W:=by
 have ent:=Mc h0 h3;obtain ls|YF|d|I:=wG hw hW (by rw[af];show ent) n (aj _);obtain _|_|⟨pm,B⟩|E:=I;rw[af] at B E
 have RF:Cr rows.9 n (a7 rows) YF.9 (λj=>YF.3 j 0) (λi c=>d6 ls i c / d):=Cr.other (E.done λi hi c hc=>uN (n:=n) (λzs hz=>by
  obtain xs|hx|rfl:=au.mp hz;rw[o5];show hw xs hx) hc) yF yG
 obtain e1|e2|e3:=RF.uniq RR.2.2 (λ_ hi=>dE.row hi) (λ_ hi=>dE.row hi);refine #[λi s=>d6 (rows.11 iu) (pm i) (YF.3 s 0),λi c=>d6 (rows.11 iu) (pm i) c,d,?_];rw[<- e1];have km:=B.km;refine #[B.d0,?_,λi hi c hc=>?_,λi hi s hs=>ent _ (B.Ym i ()) _,λi hi c hc=>ent _ (B.Ym i ()) _]
 ·rw[B.det];show SO
 ·have:=B.Yl (i:=i) (c:=c) ();rw[if_pos hi,tI] at this;rw[this];show ay λs hs=>by rw[<- e3 s hs c];show cf _ _
theorem nF {f:Nat->Rat} {a:Nat}:∀{b:Nat},aV (a+b) f=aV a f+aV b λt=>f (a+t)
 | 0=>by change aV a f=aV a f+0;grind
 | b+1=>by
  change aV (a+b) f+f (a+b)=_+(aV b _+f (a+b))
  rw[nF];grind
end
theorem ig (RR:aD rows n R ps):aD R n R ps:=#[RR.1,RR.2.1,RR.2.2.40 (λi hi=>by rw[RR.1];show RR.2.2.span i hi) (λi hi=>RR.2.2.56 i (by rw[<- RR.1];show hi))]
theorem ON (RR:aD rows n R ps) (e:ps.9=n) (hi:i < n) (c:Nat):a7 R i c=if c=i then 1 else 0:=by
 have lo:∀j,j < n->j<=ps.3 j 0:=by
  intro j
  induction j with
  | zero=>intro _;show be _
  | succ j ih =>
   intro hj;have:=ih ();have:=RR.2.2.inc j (j+1) () ()
   lia
 have hi2:∀s j,j+s+1=n->ps.3 j 0<=j:=by
  intro s
  induction s with
  | zero =>
   intro j hj;have:=RR.2.2.52 j ()
   lia
  | succ s ih =>
   intro j hj;have:=ih (j+1) ();have:=RR.2.2.inc j (j+1) () ()
   lia
 have ep:∀j,j < n->ps.3 j 0=j:=λj hj=>nB (hi2 (n - 1 - j) j ()) (lo j hj)
 by_cases hc:c < n
 ·have:=RR.2.2.32 i () c ();rw[ep c hc] at this;rw[this];by_cases z:i=c
  ·rw[if_pos z,if_pos z.20]
  ·rw[if_neg z,if_neg (Wc z)]
 ·rw[jg RR.2.1 (),if_neg ()]
theorem DH (h:∀i,i < rows.9->∀c,Tp M W (a7 rows i c)):∀xs∈rows,∀x∈xs,Tp M W x:=λxs hx x Xq=>by
 obtain i|hi|rfl:=aN hx;obtain c|hc|rfl:=aN Xq;have:=h i hi c;unfold a7 at this;rw[aa (l:=rows),ae hi] at this;have e:(some rows[i]).3 []=rows[i]:=rfl;rw[e,aa,ae hc] at this;show this
theorem jN.vb (F:jN mv pt a c) (wm:∀xs∈mv,xs.9=mv.9) (wp:∀xs∈pt,xs.9=mv.9) (ht:t<=ps.9) (RR:aD (Xt mv pt t) mv.9 R ps):∃Pm Z d w,Vb ps.9 mv.9 Pm (a7 R) Z d (2^w)/\(ps.9 < mv.9/\w=(mv.9 - 1)*(a+c)\/ps.9=mv.9/\w=0):=by
 have le:=RR.le;rcases aY ps.9 mv.9 with z | z
 ·obtain M|V|M0|Ma|hV|fm|fp|_:=F;have f:=Nb rfl wm wp hV fm fp t
  obtain Pm|Z|d|vb:=Vb.of (dO rfl wp t) (bu (n:=(mv.9 - 1)*(a+c))) (we M0 (n:=t)) (λxs hx x Xq=>Tp.of (f xs hx x Xq) (by
   refine ag (bc _ (mF Ma t)) ?_;rw[<- wg,<- bg];refine ak () ?_;rw[<- N2,cw,ir c];show ax _ ())) RR
  show #[Pm,Z,d,_,vb,.inl #[z,rfl]]
 ·have e:ps.9=mv.9:=()
  obtain Pm|Z|d|vb:=Vb.of (W:=2^0) (M:=1) RR.2.1 () () (DH λi hi c=>by
   rw[RR.1,e] at hi;rw[ON RR e hi c]
   split
   ·show #[1,by rw[iq];rfl,()]
   ·show #[0,by rw[df];rfl,()]) (ig RR)
  show #[Pm,Z,d,0,vb,.inr #[e,rfl]]
inductive ze (K:Xn) (vs:List V) (H:Hp) (Q:VK) (E9:XK):Prop
 | mk (p:Addr) (n S:Nat) (H0:Hp) (rows:Xo):vs=[.ref p,.int n]->aP K H0 H p rows->rows.9<=100->n<=100->(∀xs∈rows,xs.9=n)->N7 rows n S->(∀r R ps H',H r=none->aE H H'->aP K H H' r R->aD rows n R ps->ps.9<=rows.9->Q (.ref r) H')->ze K vs H Q E9
section
variable {K:Xn} {g:TG}
theorem Ce {F:Hp->α->V->Prop} (G:Hp->β->V->Prop) (f:α->β) (hx:H a=some (.lst xs)) (pf:Vs (F H) as xs) (hl:as.9<=1000)
  (hF:∀{H H' c x},F H c x->aE H H'->F H' c x) (hG:∀{H H' c x},G H c x->aE H H'->G H' c x) (hA:∀{H' c x},G H' c x->∃q,x=V.ref q/\H' q≠none)
  (hs:∀(i:Nat) c x H' NY NN,as[i]?=some c->aE H H'->F H' c x->(∀y H2,aE H' H2->G H2 (f c) y->(∃q,y=V.ref q/\H' q=none)->NY y H2)->o6 σ₀ g tf te x H' NY NN)
  (hd:∀ys H' p,H p=none->aE H H'->H' p=some (.lst ys)->ys.33->(∀y∈ys,∃q,y=V.ref q/\H q=none/\q≠p)->Vs (G H') (as.11 f) ys->Q (.ref p) H'):pI (Oe K a) σ₀ g tf te Q H:=by
 have lx:=pf.9;refine dn (K:=K) (xs:=xs) (λi ys H'=>aE H H'/\ys.33/\(∀y∈ys,∃q,y=V.ref q/\H q=none)/\Vs (G H') ((as.21 i).11 f) ys) gU #[aE.refl _,oE,(λ_ z=>nomatch z),.nil] (λi ys H' _ #[s,_]=>bN.of (s _ _ hx)) ?_ ?_
 ·rintro i x ys H' Xq Xv ⟨s,nd,hn,pr⟩;obtain c|ec|hc:=cN pf Xq;refine hs i c x H' _ _ ec s (hF hc s) λy H2 s2 gy #[q,ey,nq]=>#[s.4 s2,qH nd (λz=>?_),D9 hn #[q,ey,s.17 nq],?_]
  ·obtain c'|_|gc:=cM pr z;obtain q'|e'|h':=hA gc;rw[ey] at e';cases e';show h' nq
  ·rw[take_snoc ec,bH];show bD (bv (λ_ _ z=>hG z s2) pr) (.cons gy .nil)
 ·rintro ys H' hy ⟨s,nd,hn,pr⟩ p hp;rw[aH ()] at pr;refine hd ys _ p (s.17 hp) (s.4 (aE.new hp)) aK nd (λy hy=>?_) (bv (λ_ _ z=>hG z (aE.new hp)) pr);obtain q|e|nq:=hn y hy;refine #[q,e,nq,λz=>?_];obtain c'|_|gc:=cM pr hy;obtain q'|e'|h':=hA gc;rw[e] at e';cases e';show h' (by rw[z];show hp)
end
structure UQ (K:Xn) (H0 H:Hp) (n:Nat) (fd:Addr) (L:List (Addr×List V)):Prop where
 gf:H fd=some (.lst (L.11 λe=>V.ref e.1))
 nf:H0 fd=none
 ls:∀e∈L,H0 e.1=none/\e.1≠fd/\H e.1=some (.lst e.2)
 nd:(L.11 λe=>e.1).33
 rows:∀e∈L,∀x∈e.2,fZ K (λq=>(H0 q=none/\q≠fd)/\q∉L.11 λe=>e.1) H n (Fr 1 1) x
 rd:(L.flatMap λe=>e.2).33
section
variable {K:Xn}
theorem UQ.snoc (h:UQ K H0 H n fd L) (s0:aE H0 H) (s:aE H H1) (hq:H q=none) (gq:H1 q=some (.lst us)) (nd:us.33) (hr:∀x∈us,fZ K (λz=>H z=none/\z≠q) H1 n (Fr 1 1) x):UQ K H0 (upd H1 fd (.lst ((L.11 λe=>V.ref e.1)++[.ref q]))) n fd (L++[(q,us)]):=by
 have qf:q≠fd:=λz=>by rw[z,h.gf] at hq;cases hq
 have old:∀{z},z∈(L.11 λe=>e.1)->H z≠none:=λhz=>by
  obtain e|he|rfl:=au.mp hz;rw[(h.ls e he).2.2];show λz=>nomatch z
 have g1:=s _ _ h.gf;refine #[by rw[aK,bH];rfl,h.nf,λe he=>?_,?_,λe he x hx=>?_,?_]
 ·rcases ao.mp he with he | he
  ·obtain a|b|c:=h.ls e he;show #[a,b,by rw[bA b];show s _ _ c]
  ·rw[cA.mp he];show #[s0.17 hq,qf,by rw[bA qf];show gq]
 ·rw[bH];show qH h.nd λz=>old z hq
 ·have key:fZ K (λz=>(H0 z=none/\z≠fd)/\z∉(L++[(q,us)]).11 λe=>e.1) H1 n (Fr 1 1) x:=by
   rcases ao.mp he with he | he
   ·obtain z|qs|e1|⟨e2,e3⟩|e4|e5:=h.rows e he x hx;refine #[z,qs,e1,#[e2,λhz=>?_],e4.10 s,e5];rw[bH] at hz;rcases ao.mp hz with hz | hz
    ·show e3 hz
    ·have hz:z=q:=cA.mp hz;obtain _|gg|_:=e4;rw[hz,hq] at gg;cases gg
   ·rw[cA.mp he] at hx;refine (hr x hx).44 (λz hz=>#[#[s0.17 hz.1,λy=>by rw[y] at hz;rw[h.gf] at hz;show absurd hz.1 (λw=>nomatch w)],λy=>?_]) (λ_ w=>w);rw[bH] at y;rcases ao.mp y with y | y
    ·show old y hz.1
    ·show hz.2 (cA.mp y)
  show key.40 g1 (λz=>z.1.2 rfl)
 ·rw[List.flatMap_append];refine dC.mpr #[h.rd,by simpa using nd,λx hx y hy z=>?_];obtain e|he|hx:=List.mem_flatMap.mp hx;obtain w|qs|e1|_|⟨_,gg,_⟩|_:=h.rows e he x hx;obtain w'|_|e1'|⟨hw,_⟩|_:=hr y (by simpa using hy);rw[<- z,e1] at e1';cases e1';rw[hw] at gg;cases gg
end
def Gd (mv pt:Xo) (i:Nat) (R:Xo) (ps:List Nat):Prop:=aD (Xt mv pt i) mv.9 R ps/\∃t,t<=ps.9/\t<=i/\aD (Xt mv pt t) mv.9 R ps/\(t=i\/∀s,aD (Xt mv pt (t+s)) mv.9 R ps)
theorem Gd.start:Gd mv pt 0 [] []:=#[HM,0,aj _,aj _,HM,.inl rfl]
theorem My (wm:∀xs∈mv,xs.9=mv.9) (wp:∀xs∈pt,xs.9=mv.9) (h:aD (Xt mv pt i) mv.9 R ps) (h':aD (Xt mv pt (i+1)) mv.9 R' Xx) (e:Xx.9=ps.9):∀s,aD (Xt mv pt (i+s)) mv.9 R ps:=BW rfl wm wp h (Fw rfl wm wp h h') e
theorem Gd.step (wm:∀xs∈mv,xs.9=mv.9) (wp:∀xs∈pt,xs.9=mv.9) (h:Gd mv pt i R ps) (h':aD (Xt mv pt (i+1)) mv.9 R' Xx):Gd mv pt (i+1) R' Xx/\(mv.9<=i->R'=R):=by
 obtain h0|t|t1|t2|ht|hs:=h
 have st:(∀s,aD (Xt mv pt (t+s)) mv.9 R ps)->Gd mv pt (i+1) R' Xx/\(mv.9<=i->R'=R):=λhs=>by
  have:=hs (i+1 - t);rw[show t+(i+1 - t)=i+1 by lia] at this;obtain rfl|rfl:=this.10 h';show #[#[h',t,t1,(),ht,.inr hs],λ_=>rfl]
 rcases hs with rfl | hs
 ·have gr:=Fv rfl wm wp h0 h';by_cases e:Xx.9=ps.9
  ·show st (My wm wp h0 h' e)
  ·refine #[#[h',t+1,(),aj _,h',.inl rfl],λhn=>?_];have:=h'.le
   lia
 ·show st hs
theorem Gd.Zk (h:Gd mv pt i R ps) (hi:mv.9 < i) (hj:mv.9<=j):aD (Xt mv pt j) mv.9 R ps:=by
 obtain h0|t|t1|t2|ht|hs:=h;have le:=h0.le;rcases hs with rfl | hs
 ·lia
 ·have:=hs (j - t);rwa [show t+(j - t)=j by lia] at this
theorem NH (hl:vs.9<=N) (h:∀v∈vs,∀r∈rs,Fr 1 Wx (v r)):∃z:Int,rH rs vs=(z:Rat)/\z.15<=(N*Wx)^rs.9:=by
 have f:=Ag hl h;obtain z|ez:=vM f;rw[ez] at f;show #[z,ez,uM f]
def ph (mv:Xo):Nat->List Rat->List Rat
 | 0,x=>x
 | t+1,x=>og mv (ph mv t x)
section
variable {mv pt lk pus:Xo} {st pu go:List Rat} {n t T c:Nat}
theorem C5 (h:st.9=mv.9):∀t,(ph mv t st).9=mv.9
 | 0=>h
 | _+1=>mL
theorem tE:∀t,(Xt mv pt t).9=t*pt.9
 | 0=>by rw[Nat.zero_mul];rfl
 | t+1=>by
  change (pt++(Xt mv pt t).11 (og mv)).9=_
  rw[ai,af,tE t,lW,ir]
end
section
variable {K:Xn} {H0 H H':Hp} {l p q:Addr} {R:Xo} {v:V} {mv pt:Xo} {u T:Nat}
def S0 (mv pt:Xo) (u:Nat):List (Xo):=(Vt u).11 λs=>pt.11 (ph mv s)
theorem Kt:S0 mv pt (u+1)=S0 mv pt u++[pt.11 (ph mv u)]:=by unfold S0;rw[rK,bH];rfl
theorem vW:∀u,(S0 mv pt u).flatten=Xt mv pt u
 | 0=>rfl
 | u+1=>by
  have e:S0 mv pt (u+1)=pt :: (S0 mv pt u).11 (V9 (og mv)):=by
   unfold S0;rw[List.range_succ_eq_map,iB,jE];congr 1
   ·show jw pt
   ·rw[jE];refine tu λs _=>?_
    change pt.11 (ph mv (s+1))=(pt.11 (ph mv s)).11 (og mv)
    rw[jE];rfl
  rw[e,kx,<- List.map_flatten,vW u];rfl
end
theorem Vb.tp (V:Vb r n Pm Y Z d W) (_K:r<=15) (w1:1<=W):∃q:Nat,0 < q/\q<=(16*W)^r/\∀s,s < r->∀c,c < n->Tp q ((16*W)^r) (Y s c):=by
 have rlt:∀i∈xo (λi=>i) r,i < r:=λi hi=>by
  obtain t|ht|e:=oT hi;have e:i=t:=e
  lia
 obtain q|eq|bq:=NH (N:=16) (Wx:=W) (rs:=xo (λi=>i) r) (vs:=qT (λj i=>Pm i j) r) (by rw[XS];lia) λw hw i hi=>by
  obtain s|hs|rfl:=Yj hw;show V.pf i (rlt i hi) s hs
 rw[sP] at bq;rw[<- V.det] at eq;have q0:q≠0:=λz=>V.d0 (by rw[eq,z];rfl)
 refine #[q.15,(),bq,λs hs c hc=>?_]
 have cr:=Cb (rs:=xo (λi=>i) r) (v:=λj i=>Pm i j) (c:=λj=>Y j c) (W:=λi=>Z i c) hs (λi hi=>by
  rw[V.eq i (rlt i hi) c hc];show ay λj _=>cf _ _)
 obtain z|ez|bz:=NH (N:=16) (Wx:=W) (rs:=xo (λi=>i) r) (vs:=LV (λj i=>Pm i j) s r++(λi=>Z i c) :: qT (λj i=>Pm i j) s) (by
  have:=congrArg Wt (XF (v:=λj i=>Pm i j) hs);rw[ai,bC,XS] at this;rw[ai,bC]
  lia) λw hw i hi=>by
   rcases ao.mp hw with hw | hw
   ·obtain s'|Z7|rfl:=F1 hw;show V.pf i (rlt i hi) s' Z7
   ·rcases aF.mp hw with rfl | hw
    ·show V.zf i (rlt i hi) c hc
    ·obtain s'|Z7|rfl:=Yj hw;show V.pf i (rlt i hi) s' ()
 rw[sP] at bz;rw[ez,<- V.det,eq] at cr;have key:Y s c*(q:Rat)=(z:Rat):=cr.20;rcases GR q with h | h
 ·have hq:((q.15:Nat):Rat)=(q:Rat):=by rw[<- aW,<- h]
  show #[z,by rw[hq,key],bz]
 ·have hq:((q.15:Nat):Rat)=-(q:Rat):=by rw[<- aW,<- c7];congr 1;lia
  show #[-z,by rw[hq,c7,<- key];grind,by rw[kD];show bz]
theorem DE (F:jN mv pt a c) (D8:mv.9<=8) (wm:∀xs∈mv,xs.9=mv.9) (wp:∀xs∈pt,xs.9=mv.9):∀T,∃R ps,Gd mv pt T R ps:=by
 intro T
 induction T with
 | zero=>show #[_,_,Gd.start]
 | succ T ih =>
  obtain R|ps|G:=ih;obtain RR|t|t1|t2|RRt|hs:=id G;have le:=RR.le
  obtain R'|Xx|d|ls|S:=xn (n:=mv.9) (rows:=pt++R.11 (og mv)) (λxs hx=>by
   rcases ao.mp hx with hx | hx
   ·show wp xs hx
   ·obtain y|_|rfl:=au.mp hx;show mL) (F.step D8 wm wp (t:=t) () RRt)
  have X6:=vG rfl wm wp RR S.rr;show #[R',Xx,(G.step wm wp X6).1]
theorem Ur (F:jN mv pt a c) (D8:mv.9<=8) (wm:∀xs∈mv,xs.9=mv.9) (wp:∀xs∈pt,xs.9=mv.9) (RR:aD (Xt mv pt T) mv.9 R ps):Gd mv pt T R ps:=by
 obtain R'|Xx|G:=DE F D8 wm wp T;obtain rfl|rfl:=RR.10 G.1;show G
theorem jN.rtp (F:jN mv pt a c) (D8:mv.9<=8) (wm:∀xs∈mv,xs.9=mv.9) (wp:∀xs∈pt,xs.9=mv.9) (RR:aD (Xt mv pt T) mv.9 R ps):∃q,0 < q/\q<=2^(ps.9*((mv.9 - 1)*(a+c)+4))/\∀xs∈R,∀x∈xs,Tp q (2^(ps.9*((mv.9 - 1)*(a+c)+4))) x:=by
 obtain _|t|t1|_|RRt|_:=Ur F D8 wm wp RR;obtain Pm|Z|d|w|vb|hw:=F.vb wm wp t1 RRt;have le:=RR.le;obtain q|q0|q1|q2:=vb.tp () bu
 have up:(16*2^w)^ps.9<=2^(ps.9*((mv.9 - 1)*(a+c)+4)):=by
  have e:(16*2^w)^ps.9=2^(ps.9*(w+4)):=by rw[show (16:Nat)=2^4 from rfl,<- bg,<- wg,cw ps.9,ir w]
  rw[e];refine ak () (bc _ ?_);rcases hw with ⟨_,rfl⟩ | ⟨_,rfl⟩ <;> lia
 refine #[q,q0,ag q1 up,DH λi hi e=>?_];by_cases he:e < mv.9
 ·show (q2 i (by rw[<- RR.1];show hi) e he).22 up
 ·rw[jg RR.2.1 ()];show Tp.zero
theorem KY (hw:∀xs∈N,xs.9=n) (hW:1<=W) (h0:0 < M) (h3:∀xs∈N,∀x∈xs,Tp M W x) (f:Nat->Nat) (hf:∀i,i < N.9->a7 N i (f i)≠0/\∀j,j < N.9->j≠i->a7 N j (f i)=0) (hn:∀i,i < N.9->f i < n) (RR:aD N n Hd psd):psd.9=N.9:=by
 have ent:=Mc h0 h3;obtain ls|YF|d|I:=wG hw hW (by rw[af];show ent) n (aj _);obtain _|_|⟨pm,B⟩|E:=I;rw[af] at B E
 have RF:Cr N.9 n (a7 N) YF.9 (λj=>YF.3 j 0) (λi c=>d6 ls i c / d):=Cr.other (E.done λi hi c hc=>uN (n:=n) (λzs hz=>by
  obtain xs|hx|rfl:=au.mp hz;rw[o5];show hw xs hx) hc) yF yG
 obtain e1|_|_:=RF.uniq RR.2.2 (λ_ hi=>dE.row hi) (λ_ hi=>dE.row hi);rw[<- e1];have km:=B.km;rcases aY YF.9 N.9 with z | z
 ·exfalso
  have hk:=B.Ym YF.9 z;obtain f1|f2:=hf _ hk
  have low:∀i,i < YF.9->d6 (N.11 iu) (pm i) (f (pm YF.9))=0:=λi hi=>by
   rw[xV (B.Ym i ()),f2 _ (B.Ym i ()) (λe=>by have:=B.inj i YF.9 () z e;lia),bB]
  have lz:∀j,j < YF.9->d6 ls j (f (pm YF.9))=0:=λj hj=>by
   rw[B.old hj]
   show DJ (λr hr=>by
    obtain t|ht|rfl:=oT hr;show low t ht) _ _
  have:=B.Zs YF.9 z (f (pm YF.9));rw[if_neg (dm _),E.zero YF.9 (aj _) z _ (hn _ hk),bJ λj hj=>by rw[lz j hj,bB],xV hk] at this;have bne:=vV (rows:=N) (i:=pm YF.9);have d0:=B.d0;rcases Of.mp (this.4 (by grind)) with q | q
  ·show d0 q
  ·rcases Of.mp q with q | q
   ·show bne q
   ·show f1 q
 ·lia
theorem Ny (h1:∀i j,i < j->j < ps.9->ps.3 i 0 < ps.3 j 0) (h2:∀j,j < ps.9->ps.3 j 0 < n):(dD ps n).9+ps.9=n:=by
 have key:∀i,∃k,k<=ps.9/\(dD ps i).9+k=i/\(∀j,j < k->ps.3 j 0 < i)/\∀j,k<=j->j < ps.9->i<=ps.3 j 0:=by
  intro i
  induction i with
  | zero=>show #[0,be _,rfl,λj hj=>absurd hj (fO _),λj _ _=>be _]
  | succ i ih =>
   obtain k|k1|k2|k3|k4:=ih;rw[nW];by_cases hk:k < ps.9/\ps.3 k 0=i
   ·have hm:i∈ps:=by rw[<- hk.2];show getD_in hk.1
    rw[if_neg (λz=>z hm)];refine #[k+1,hk.1,(),λj hj=>?_,λj hj hl=>?_]
    ·rcases aY j k with z | z
     ·have:=k3 j z;lia
     ·rw[show j=k by lia,hk.2];lia
    ·have:=h1 k j () hl
     lia
   ·have hm:i∉ps:=λz=>by
     obtain j|hj|ej:=aN z;have ej':ps.3 j 0=i:=by rw[aa,ae hj];show ej
     rcases aY j k with y | y
     ·have:=k3 j y;lia
     ·rcases aY k j with x | x
      ·have:=h1 k j x hj;have:=k4 k (aj _) ()
       lia
      ·show hk #[(),by rw[show k=j by lia];show ej']
    rw[if_pos hm];refine #[k,k1,by rw[ai,a9];lia,λj hj=>by have:=k3 j hj;lia,λj hj hl=>?_];have:=k4 j hj hl;rcases aY i (ps.3 j 0) with y | y
    ·show y
    ·show absurd (by rw[show i=ps.3 j 0 by lia];show getD_in hl) hm
 obtain k|k1|k2|k3|k4:=key n;rcases aY k ps.9 with z | z
 ·have:=k4 k (aj _) z;have:=h2 k z
  lia
 ·lia
theorem fA:∀xs∈aL R ps n,xs.9=n:=λxs hx=>by
 obtain _|_|_|rfl:=kN hx;show iF
theorem iS (RR:aD rows n R ps):(aL R ps n).9+ps.9=n:=by
 unfold aL;rw[af];show Ny RR.2.2.inc RR.2.2.52
theorem Ib (RR:aD rows n R ps) (hW:1<=W) (h0:0 < M) (h3:∀xs∈aL R ps n,∀x∈xs,Tp M W x) (RN:aD (aL R ps n) n Hd psd):psd.9+ps.9=n:=by
 have fn:∀i,i < (aL R ps n).9->∀c,c < n->c∉ps->a7 (aL R ps n) i c=if c=(dD ps n).3 i 0 then 1 else 0:=λi hi c hc hp=>by
  unfold aL at hi ⊢;rw[af] at hi;unfold a7;rw[aa (l:=V9 _ _),az,ae hi];change (sW R ps n (dD ps n)[i]).3 c 0=_
  rw[mU hc hp,aa,ae hi];rfl
 have fm:∀i,i < (aL R ps n).9->(dD ps n).3 i 0 < n/\(dD ps n).3 i 0∉ps:=λi hi=>by
  unfold aL at hi;rw[af] at hi;show ko.mp (getD_in hi)
 have nd:(dD ps n).33:=by
  unfold dD;show Hq EC L5
 rw[KY fA hW h0 h3 (λi=>(dD ps n).3 i 0) (λi hi=>#[?_,λj hj ne=>?_]) (λi hi=>(fm i hi).1) RN,iS RR]
 ·rw[fn i hi _ (fm i hi).1 (fm i hi).2,if_pos rfl];decide
 ·rw[fn j hj _ (fm i hi).1 (fm i hi).2,if_neg λz=>ne ?_];unfold aL at hi hj;rw[af] at hi hj;rw[aa,aa,ae hi,ae hj] at z;have z:(dD ps n)[i]=(dD ps n)[j]:=z;have pw:=mD.mp nd;rcases eE i j with y | y | y
  ·show absurd z (pw i j hi hj y)
  ·show y.20
  ·show absurd z.20 (pw j i hj hi y)
theorem Hu (RR:aD rows n R ps) (RN:aD (aL R ps n) n Hd psd):∀h∈Hd,∀r∈R,cS h r=0:=λh hh r hr=>by
 obtain i|hi|rfl:=aN hh;have wr:=RR.2.1 r hr;have wh:=RN.2.1 _ (aG hi);obtain v|hv:=RN.2.2.56 i (by rw[<- RN.1];show hi);rw[cD (),wh]
 have fnh:∀c,Hd[i].3 c 0=a7 Hd i c:=λc=>by
  unfold a7;rw[aa (l:=Hd),ae hi];rfl
 have e1:(aV n λc=>Hd[i].3 c 0*r.3 c 0)=aV (aL R ps n).9 λt=>v t*aV n λc=>a7 (aL R ps n) t c*r.3 c 0:=by
  have q:∀c,c < n->Hd[i].3 c 0*r.3 c 0=aV (aL R ps n).9 λt=>v t*(a7 (aL R ps n) t c*r.3 c 0):=λc _=>by
   rw[fnh c,hv c,cf,<- bK];show ay λt _=>by grind
  rw[ay q,cT];show ay λt _=>bK
 rw[e1];refine bJ λt ht=>?_
 have mt:=aG ht;obtain at_|ha|hp|en:=kN mt;obtain j|hj|rfl:=aN hr;have dz:=xC (ig RR) ha hp (ae hj) wr;rw[<- en] at dz;have wn:(aL R ps n)[t].9=n:=fA _ mt;rw[cD (),wr] at dz
 have q:(aV n λc=>a7 (aL R ps n) t c*R[j].3 c 0)=0:=by
  refine Eq.trans (ay λc _=>?_) dz
  have:a7 (aL R ps n) t c=(aL R ps n)[t].3 c 0:=by
   unfold a7;rw[aa (l:=aL R ps n),ae ht];rfl
  rw[this];show cf _ _
 rw[q,bB]
structure Bd (mv pt:Xo) (M1 M2 V a1 a2 c:Nat):Prop where
 m1:0 < M1
 m2:0 < M2
 b1:M1<=2^a1
 b2:M2<=2^a2
 gm:GF M1 V mv
 gp:GF M2 V pt
 vc:(mv.9+4)*V<=2^c
section
variable {M1 M2 V a1 a2 c N Np p t T ν:Nat}
theorem Bd.v1 (B:Bd mv pt M1 M2 V a1 a2 c):V<=2^c:=ag (gA _ ()) B.vc
theorem Nw (h0:0 < M) (h1:M<=2^a) (h2:W<=2^b) (hab:a+b<=3990000) (h:Fr M W x):pK x:=by
 refine uo (Tp.of h (aj _)) h0 (ag h1 (ak () ())) ?_;refine ag (aI h2 h1) ?_;rw[<- bg];show ak () ()
end
section
variable {mv pt lk pus:Xo} {st pu go:List Rat} {M1 M2 V a1 a2 c N Np p t T ν k:Nat}
theorem zF (h:M<=2^a) (hN:N<=2^ν):M^t*N<=2^(a*t+ν):=by
 rw[bg,wg];show aI (mF h t) hN
def Vo (mv:Xo) (st:List Rat) (T:Nat):Prop:=∃M1 V a1 c N p ν,0 < M1/\M1<=2^a1/\GF M1 V mv/\(mv.9+4)*V<=2^c/\0 < N/\N<=2^ν/\(∀x∈st,Fr N (2^p) x)/\a1*(T+1)+ν+c*(T+1)+p<=3900000
theorem Se (gm:GF M1 V mv) (wm:∀xs∈mv,xs.9=mv.9) (vc:(mv.9+4)*V<=2^c) (ls:st.9=mv.9) (hs:∀x∈st,Fr N (2^p) x):∀t,∀x∈ph mv t st,Fr (M1^t*N) (2^(c*t+p)) x:=by
 intro t
 induction t with
 | zero =>
  intro x hx;rw[Nat.pow_zero,NZ,Nat.mul_zero,Nat.zero_add];show hs x hx
 | succ t ih =>
  intro x hx;obtain row|hr|rfl:=au.mp (show x∈mv.11 λxs=>cS xs (ph mv t st) from hx);have f:=Fr.dot (gm row hr) ih;rw[<- b9,cw M1,<- jD] at f;refine f.22 ?_;rw[wm row hr,<- b9,show c*(t+1)+p=c+(c*t+p) by rw[jv];lia,bg 2 c];show ax _ (ag (ax V (show mv.9<=mv.9+4 by lia)) vc)
theorem Vo._C (h:Vo mv st T) (wm:∀xs∈mv,xs.9=mv.9) (ls:st.9=mv.9) (ht:t<=T):(∀xs∈mv,v9 xs (ph mv t st))/\∀x∈ph mv t st,pK x:=by
 obtain M1|V|a1|c|N|p|ν|m0|m1|gm|vc|N0|hN|hs|sz:=h;have f:=Se gm wm vc ls hs t;have V1:V<=2^c:=ag (gA _ ()) vc;have e1:a1*t<=a1*T:=bc _ ht;have e2:c*t<=c*T:=bc _ ht;rw[jv,jv,Nat.mul_one,Nat.mul_one] at sz;show #[λxs hx=>#[a1,c,a1*t+ν,c*t+p,#[M1,V,m0,m1,V1,gm xs hx],#[M1^t*N,2^(c*t+p),bY (we m0) N0,zF m1 hN,aj _,f],()],λx hx=>Nw (bY (we m0) N0) (zF m1 hN) (aj _) () (f x hx)]
def QW (mv pt:Xo) (T:Nat):Prop:=∃M1 M2 V a1 a2 c,Bd mv pt M1 M2 V a1 a2 c/\a1*(T+1)+a2+c*(T+2)<=3900000
theorem QW.row (h:QW mv pt T) (wm:∀xs∈mv,xs.9=mv.9) (wp:∀xs∈pt,xs.9=mv.9):∀xs∈pt,Vo mv xs T:=λxs hx=>by
 obtain M1|M2|V|a1|a2|c|B|sz:=h;refine #[M1,V,a1,c,M2,c,a2,B.m1,B.b1,B.gm,B.vc,B.m2,B.b2,λx Xq=>(B.gp xs hx x Xq).22 B.v1,?_];rw[jv c T 2] at sz;rw[jv c T 1]
 lia
end
inductive BM (K:Xn) (vs:List V) (H:Hp) (Q:VK) (E9:XK):Prop
 | mk (r:Addr) (T:Nat) (H0:Hp) (mv pt lk:Xo):vs=[.ref r,.int T]->T<=20->gV K H0 H r mv pt lk->eO mv pt lk->QW mv pt T->(∀q H',H q=none->aE H H'->aP K H H' q (Xt mv pt T)->Q (.ref q) H')->BM K vs H Q E9
theorem MW (ws vs:List V) (M1 M2 M3:Nat):∃μ:V->Nat,(∀x∈ws,μ x=M2)/\(∀x∈vs,x∉ws->μ x=M3)/\(∀x,x∉ws->x∉vs->μ x=M1)/\∀x,μ x=M1\/μ x=M2\/μ x=M3:=by
 classical
 refine #[λx=>if x∈ws then M2 else if x∈vs then M3 else M1,λx h=>if_pos h,λx h h'=>?_,λx h h'=>?_,λx=>?_]
 ·change (if x∈ws then M2 else if x∈vs then M3 else M1)=M3
  rw[if_neg h',if_pos h]
 ·change (if x∈ws then M2 else if x∈vs then M3 else M1)=M1
  rw[if_neg h,if_neg h']
 ·change (if x∈ws then M2 else if x∈vs then M3 else M1)=M1\/(if x∈ws then M2 else if x∈vs then M3 else M1)=M2\/(if x∈ws then M2 else if x∈vs then M3 else M1)=M3
  by_cases h:x∈ws
  ·rw[if_pos h];show .inr (.inl rfl)
  ·rw[if_neg h];by_cases h':x∈vs
   ·rw[if_pos h'];show .inr (.inr rfl)
   ·rw[if_neg h'];show .inl rfl
theorem kv.apart {K:Xn} (h:kv K A H n C m p l b q0 us ws vs):(∀x∈us,x∉ws/\x∉vs)/\∀x∈vs,x∉ws:=by
 obtain n1|n2|n3:=dC.mp h.nd;obtain n4|n5|n6:=dC.mp n1;show #[λx hx=>#[λz=>n3 x (ao.mpr (.inl hx)) x z rfl,λz=>n6 x hx x z rfl],λx hx z=>n3 x (ao.mpr (.inr hx)) x z rfl]
theorem kv.fr3 {K:Xn} (h:kv K A H n (λ_=>Dr (2^c)) m p l b q0 us ws vs):∃M1 M2 M3,0 < M1/\0 < M2/\0 < M3/\M1<=2^(c*(n*n))/\M2<=2^(c*(ws.9*n))/\M3<=2^(c*(vs.9*n))/\(∀x∈us,fZ K A H n (Fr M1 (2^c)) x)/\(∀x∈ws,fZ K A H n (Fr M2 (2^c)) x)/\∀x∈vs,fZ K A H n (Fr M3 (2^c)) x:=by
 have one:∀l:List V,(∀x∈l,x∈us++vs++ws)->∃M,0 < M/\M<=2^(c*(l.9*n))/\∀x∈l,fZ K A H n (Fr M (2^c)) x:=λl hl=>by
  obtain ra|pa|la|ha:=zC λx hx=>h.row x (hl x hx)
  obtain M|m0|m1|m2:=OO (c:=c) (n:=n) (rows:=ra) ha;show #[M,m0,by rw[la] at m1;show m1,HN pa λqs hq=>#[(ha qs hq).1,m2 qs hq]]
 obtain M1|a1|a2|a3:=one us λx hx=>by simp [hx]
 obtain M2|b1|b2|b3:=one ws λx hx=>by simp [hx]
 obtain M3|c1|c2|c3:=one vs λx hx=>by simp [hx]
 rw[h.lm] at a2;show #[M1,M2,M3,a1,b1,c1,a2,b2,c2,a3,b3,c3]
inductive BG (K:Xn) (xs:List V) (H:Hp) (Q:VK) (E9:XK):Prop
 | mk (b m p l q0:Addr) (n V1:Nat) (μ:V->Nat) (A:Addr->Prop) (us ws vs:List V):xs=[.ref b,.ref m,.ref p,.ref l]->GO A m p l b q0->kv K A H n (λx=>Fr (μ x) V1) m p l b q0 us ws vs->n<=8->ws.9<=4->vs.9<=4->(∀x,0 < μ x)->(∀x,μ x<=2^800)->(∃M,∀x,x∉ws->x∉vs->μ x=M)->V1<=2^20->(∀q,H q=none->A q)->(∀r Yo H',H' r=some (.tup [.ref m,.ref p,.ref l])->kv K A H' n (λx=>Fr (μ x) (9^3*V1)) m p l b q0 Yo ws vs->i5 A b m H H'->Q (.ref r) H')->BG K xs H Q E9
def Vi (n i o w c:Nat) (mv pt lk:Xo):Prop:=∃M1 M2 M3 V1:Nat,0 < M1/\0 < M2/\0 < M3/\GF M1 V1 mv/\GF M2 V1 pt/\GF M3 V1 lk/\((w<=9/\M1=2520/\M2=2520/\M3=2520/\V1=9^3*9)\/(9 < w/\M1<=2^(c*(n*n))/\M2<=2^(c*(i*n))/\M3<=2^(c*(o*n))/\V1=9^3*2^c))
inductive BD (K:Xn) (vs:List V) (H:Hp) (Q:VK) (E9:XK):Prop
 | mk (b:Addr) (n i o w c:Nat):vs=[.ref b,.int n,.int i,.int o,.int w]->jW H b->n<=8->i<=4->o<=4->1<=w->w<=1000000->max w 6<=2^c->c<=20->c*((n+i+o)*n)<=800->(∀r mv pt lk H',gV K H H' r mv pt lk->mv.9=n->pt.9=i->lk.9=o->eO mv pt lk->Vi n i o w c mv pt lk->jW H' b->de b H H'->Q (.ref r) H')->BD K vs H Q E9
def Rg (mv pt:Xo) (w:Nat):Prop:=(w<=9/\Bd mv pt 1 1 (9^3) 0 0 14)\/(w<=9/\mv.9<=5/\Bd mv pt 2520 2520 (9^3*9) 12 12 16)\/(w=1000/\mv.9<=2/\∃M1 M2,Bd mv pt M1 M2 (9^3*2^20) 80 160 33)
theorem Io {M V:Nat} (h:GF M V l) (k:Nat):GF (k*M) V l:=λxs hx x Xq=>(h xs hx x Xq).Y1 k
theorem Vi.n {n i o w c:Nat} (h:Vi n i o w c mv pt lk):PtF n i o w c mv pt lk:=by
 obtain M1|M2|M3|V1|a1|a2|a3|f1|f2|f3|hc:=h;rcases hc with ⟨w9,rfl,rfl,rfl,e⟩ | ⟨w9,e1,e2,e3,e⟩
 ·show #[2520,V1,(),f1,f2,f3,.inl #[w9,rfl,e]]
 ·refine #[M1*M2*M3,V1,bY (bY a1 a2) a3,?_,?_,?_,.inr #[w9,?_,e]]
  ·have:=Io f1 (M2*M3);rwa [show M2*M3*M1=M1*M2*M3 by rw[cw (M2*M3),b9]] at this
  ·have:=Io f2 (M1*M3);rwa [show M1*M3*M2=M1*M2*M3 by rw[b9,cw M3,b9]] at this
  ·show Io f3 (M1*M2)
  ·refine ag (aI (aI e1 e2) e3) ?_;rw[<- bg,<- bg,show c*((n+i+o)*n)=c*(n*n)+c*(i*n)+c*(o*n) by rw[N2,N2,jv,jv]];show aj _
section
variable {mv pt lk pus:Xo} {st pu go pr:List Rat} {M1 M2 V a1 a2 c B b g p t T w:Nat}
theorem Bd.Xt (X:Bd mv pt M1 M2 V a1 a2 c) (D:eO mv pt lk):∀t,∀xs∈Xt mv pt t,∀x∈xs,Fr (M1^(t - 1)*M2) (2^(c*t)) x:=by
 intro t
 induction t with
 | zero=>intro xs hx;show nomatch hx
 | succ t ih =>
  intro xs hx x Xq;rcases ao.mp (show xs∈pt++(L2.Xt mv pt t).11 (og mv) from hx) with hx | hx
  ·refine Fr.up (X.gp xs hx x Xq) (pL _ _) (ag X.v1 (ak () ?_));show dP _ ()
  ·obtain ys|hy|rfl:=au.mp hx;obtain row|hr|rfl:=au.mp (show x∈mv.11 λzs=>cS zs ys from Xq);rcases t with _ | t
   ·show nomatch hy
   have f:=Fr.dot (X.gm row hr) (ih ys hy);rw[show M1*(M1^(t+1 - 1)*M2)=M1^(t+1+1 - 1)*M2 by rw[<- b9,show t+1 - 1=t by lia,show t+1+1 - 1=t+1 by lia,jD,cw M1]] at f;refine f.22 ?_;rw[D.mw row hr,<- b9,show c*(t+1+1)=c+c*(t+1) by rw[jv c (t+1)];lia,bg 2 c];show ax _ (ag (ax V (show mv.9<=mv.9+4 by lia)) X.vc)
end
open PySem.MeetsSeq
section
variable {rows rows0 fs l2 R Hd:Xo} {hd:List Rat} {n P:Nat} {ps psd:List Nat}
def US (rows:Xo) (n S:Nat):Prop:=2*S<=3990000/\∃J:Nat->Xo->List Nat->Prop,J 0 rows []/\(∀P rs ps,J P rs ps->(∀i,ps.9<=i->i < rs.9->a7 rs i P=0)->J (P+1) rs ps) /\
 (∀P fs ls ps t,J P (fs++ls) ps->fs.9=ps.9->t < ls.9->P < n->(ls.3 t []).3 P 0≠0->(∀j,j < t->a7 ls j P=0)->J (P+1) ((fs.11 (yu P (oy P (ls.3 t [])) )++[oy P (ls.3 t [])])++(ls.23 t).11 (yu P (oy P (ls.3 t [])))) (ps++[P])) /\
 (∀P rs ps,J P rs ps->yR rows n P rs ps)/\∀P rs ps,J P rs ps->P<=n->∀i,i < rows.9->∃D:Nat,0 < D/\D<=2^S/\∀c,Tp D (2^S) (a7 rs i c)
theorem N7.lwt (h:N7 rows n S):US rows n S:=by
 obtain a|J|j0|j1|j2|j3|j4:=h;show #[a,J,j0,j1,λP fs ls ps t h1 h2 h3 h4 h5 _=>j2 P fs ls ps t h1 h2 h3 h4 h5,j3,j4]
theorem Tp.neg (h:Tp M W x):Tp M W (-x):=by
 obtain z|e|b:=h;show #[-z,by rw[Rat.neg_mul,e];show (c7 z).20,by rw[kD];show b]
end
theorem BQ (RR:aD rows n R ps) (far:∀c,n<=c->x c=0) (hx:∀j,j < ps.9->(aV n λc=>a7 R j c*x c)=0):dE (aL R ps n).9 (a7 (aL R ps n)) x:=by
 have Rf:=RR.2.2;have lN:(aL R ps n).9=(dD ps n).9:=by unfold aL;rw[af]
 have fN:∀t,t < (aL R ps n).9->(dD ps n).3 t 0 < n/\(dD ps n).3 t 0∉ps:=λt ht=>ko.mp (getD_in ())
 have vN:∀t,t < (aL R ps n).9->∀c,a7 (aL R ps n) t c=(sW R ps n ((dD ps n).3 t 0)).3 c 0:=λt ht c=>by
  have h:t < (dD ps n).9:=()
  unfold a7 aL;rw[aa (l:=V9 _ _),az,ae h,aa (l:=dD ps n),ae h];rfl
 have nd:(dD ps n).33:=by
  unfold dD;show Hq EC L5
 refine #[λt=>x ((dD ps n).3 t 0),λc=>?_]
 suffices y0:∀c,x c - (aV (aL R ps n).9 λt=>x ((dD ps n).3 t 0)*a7 (aL R ps n) t c)=0 by
  have:=y0 c;grind
 have free:∀c,c < n->c∉ps->x c - (aV (aL R ps n).9 λt=>x ((dD ps n).3 t 0)*a7 (aL R ps n) t c)=0:=λc hc hp=>by
  obtain t0|h0|e0:=aN (ko.mpr #[hc,hp]);have g0:(dD ps n).3 t0 0=c:=by rw[aa,ae h0];show e0
  rw[cx (i:=t0) () λt ht ne=>?_,vN t0 (),mU hc hp,g0,if_pos rfl]
  ·grind
  ·rw[vN t ht,mU hc hp,if_neg λz=>ne ?_]
   ·grind
   ·have _X:t < (dD ps n).9:=()
    have z:(dD ps n)[t]=(dD ps n)[t0]:=by
     rw[aa,ae _X] at z;rw[e0];show z.20
    have pw:=mD.mp nd;rcases eE t t0 with y | y | y
    ·show absurd z (pw t t0 _X h0 y)
    ·show y
    ·show absurd z.20 (pw t0 t h0 _X y)
 have dN:∀j,j < ps.9->∀t,t < (aL R ps n).9->(aV n λc=>a7 R j c*a7 (aL R ps n) t c)=0:=λj hj t ht=>by
  have Yb:j < R.9:=by rw[RR.1];show hj
  have wr:=RR.2.1 _ (aG Yb);have dz:=xC (ig RR) (fN t ht).1 (fN t ht).2 (ae Yb) wr;rw[cD (by rw[wr];show iF.symm),wr] at dz;refine Eq.trans (ay λc _=>?_) dz;rw[vN t ht];unfold a7;rw[aa (l:=R),ae Yb];rfl
 have dY:∀j,j < ps.9->(aV n λc=>a7 R j c*(x c - (aV (aL R ps n).9 λt=>x ((dD ps n).3 t 0)*a7 (aL R ps n) t c)))=0:=λj hj=>by
  have e:∀c,c < n->a7 R j c*(x c - (aV (aL R ps n).9 λt=>x ((dD ps n).3 t 0)*a7 (aL R ps n) t c))=a7 R j c*x c+(-1)*(aV (aL R ps n).9 λt=>x ((dD ps n).3 t 0)*(a7 R j c*a7 (aL R ps n) t c)):=λc _=>by
   have:(aV (aL R ps n).9 λt=>x ((dD ps n).3 t 0)*(a7 R j c*a7 (aL R ps n) t c))=a7 R j c*aV (aL R ps n).9 λt=>x ((dD ps n).3 t 0)*a7 (aL R ps n) t c:=by
    rw[<- bK];show ay λt _=>by grind
   rw[this];grind
  rw[ay e,jm,hx j hj,bK,cT,bJ (k:=(aL R ps n).9) λt ht=>?_]
  ·grind
  ·rw[bK,dN j hj t ht];grind
 intro c;by_cases hc:c < n
 ·by_cases hp:c∈ps
  ·obtain j|hj|ej:=aN hp;have g:ps.3 j 0=c:=by rw[aa,ae hj];show ej
   have:=dY j hj;rw[cx (i:=c) hc λc' YB ne=>?_] at this
   ·have u:=Rf.32 j hj j hj;rw[g,if_pos rfl] at u;rw[u] at this;grind
   ·by_cases ZV:c'∈ps
    ·obtain i|hi|ei:=aN ZV;have gi:ps.3 i 0=c':=by rw[aa,ae hi];show ei
     have u:=Rf.32 j hj i hi;rw[gi,if_neg (λz=>ne (by rw[<- gi,<- g,z]))] at u;rw[u];grind
    ·rw[free c' YB ZV];grind
  ·show free c hc hp
 ·rw[far c (),bJ λt _=>by rw[jg fA ()];grind];grind
theorem Na (F:jN mv pt a c) (D8:mv.9<=8) (wm:∀xs∈mv,xs.9=mv.9) (wp:∀xs∈pt,xs.9=mv.9) (h:mv.9<=T) (h':mv.9<=T') (RR:aD (Xt mv pt T) mv.9 R ps) (X6:aD (Xt mv pt T') mv.9 R' Xx):R=R'/\ps=Xx:=by
 obtain R0|ps0|G:=DE F D8 wm wp (mv.9+1);obtain rfl|rfl:=RR.10 (G.Zk (dr _) h);obtain rfl|rfl:=X6.10 (G.Zk (dr _) h');show #[rfl,rfl]
structure N5 (A lk:Xo) (e:Nat):Prop where
 n8:A.9<=8
 wm:∀xs∈A,xs.9=A.9
 wp:∀xs∈lk,xs.9=A.9
 kf:∃a c,jN A lk a c/\A.9*((A.9 - 1)*(a+c)+4)<=900000/\∀p,p<=A.9->(A.9 - p)*(p*((A.9 - 1)*(a+c)+4)+4)<=e
 e1:e<=1650000
def Vd (A lk:Xo) (n t e:Nat) (Hd:Xo):Prop:=∃R ps psd M,aD (Xt A lk t) n R ps/\aD (aL R ps n) n Hd psd/\psd.9+ps.9=n/\0 < M/\M<=2^e/\∀xs∈Hd,∀x∈xs,Tp M (2^e) x
theorem N5.sw (h:N5 A lk e) (RR:aD (Xt A lk T) A.9 R ps):(∃w,vY R A.9 w)/\(∀xs∈R,∀x∈xs,pK x)/\∃w,vY (aL R ps A.9) A.9 w/\min (aL R ps A.9).9 A.9*(w+4)<=e/\∃q,0 < q/\∀xs∈aL R ps A.9,∀x∈xs,Tp q (2^w) x:=by
 obtain a|c|KF|b1|b2:=h.kf;obtain q|q0|q1|q2:=KF.rtp h.n8 h.wm h.wp RR;have n8:=h.n8;have le:=RR.le;have lR:=RR.1;have cnt:=iS RR;have e1:=h.e1;have bp:=b2 ps.9 le;generalize (A.9 - 1)*(a+c)+4=E at b1 b2 q1 q2 bp;have pE:ps.9*E<=900000:=ag (ax _ le) b1;have up:∀{m:Nat},900000<=m->2^(ps.9*E)<=2^m:=λh=>ak () ()
 have tn:∀xs∈aL R ps A.9,∀x∈xs,Tp q (2^(ps.9*E)) x:=λxs hx x Xq=>by
  obtain a|_|_|rfl:=kN hx;show MT q0 q1 q2 RR x Xq
 have bn:min (aL R ps A.9).9 A.9*(ps.9*E+4)<=e:=ag (ax _ (show min (aL R ps A.9).9 A.9<=A.9 - ps.9 by lia)) bp;refine #[#[ps.9*E,q,2^(ps.9*E),q0,ag q1 (up ()),bu,aj _,q2,(),(),?_],λxs hx x Xq=>uo (q2 xs hx x Xq) q0 (ag q1 (up ())) (up ()),ps.9*E,#[q,2^(ps.9*E),q0,ag q1 (up ()),bu,aj _,tn,(),(),()],bn,q,q0,tn];have:min R.9 A.9*(ps.9*E+4)<=8*900004:=aI () ()
 lia
def StT (n w T:Nat):Prop:=T<=12/\(9 < w->T<=3)/\(3 < n->n<=5->T<=5)/\(n=3->T<=6)
structure V51 (A lk:Xo) (T e:Nat):Prop where
 un:N5 A lk e
 ad:QW A lk T
 lw:∃S,US (Xt A lk T) A.9 S
 ft:∃k j,2*e+k+j<=3930000/\∀xs∈Xt A lk T,rF k j xs
theorem F7 (B:Bd A lk M1 M2 Vx a1 a2 c) (D:eO A lk pk) (hn:A.9<=n) (n15:n<=15) (sz:2*(n*(c*T+(a1*(T - 1)+a2)+4)+(a1*(T - 1)+a2))<=3990000):(∃S,US (Xt A lk T) A.9 S)/\∀xs∈Xt A lk T,rF (a1*(T - 1)+a2) (c*T) xs:=by
 have f:=B.Xt D T;have M0:0 < M1^(T - 1)*M2:=bY (we B.m1) B.m2
 have hM:M1^(T - 1)*M2<=2^(a1*(T - 1)+a2):=by
  rw[bg];show aI (ag (mF B.b1 _) (by rw[<- wg];show aj _)) B.b2
 refine #[#[_,(N9.Zo (w:=c*T+(a1*(T - 1)+a2)) (a:=a1*(T - 1)+a2) #[_,2^(c*T+(a1*(T - 1)+a2)),M0,hM,bu,aj _,λxs hx x Xq=>Tp.of (f xs hx x Xq) (by rw[bg];show bc _ hM),(),?_] (dO rfl D.pw T)).lwt],λxs hx=>#[_,_,M0,hM,aj _,f xs hx]];have:min (Xt A lk T).9 A.9*(c*T+(a1*(T - 1)+a2)+4)<=n*(c*T+(a1*(T - 1)+a2)+4):=ax _ ()
 lia
theorem JT (G:Rg A lk w) (D:eO A lk pk) (St:StT A.9 w T):∃e,V51 A lk T e:=by
 obtain s1|s2|s3|s4:=St;have tri:∀{n N:Nat} (E e:Nat),n<=N->(∀p,p<=N->(N - p)*(p*E+4)<=e)->∀p,p<=n->(n - p)*(p*E+4)<=e:=λE e hn h p hp=>ag (ax _ ()) (h p ())
 rcases G with ⟨_,B⟩ | ⟨_,n5,B⟩ | ⟨w1,n2,M1,M2,B⟩
 ·obtain l1|l2:=F7 (T:=T) (n:=8) B D D.n8 () ();refine #[1650000,#[D.n8,D.mw,D.pw,#[0,14,Dy (M:=1) (V1:=9^3) (n0:=8) () () D.n8 () B.gm B.gp (),?_,λp hp=>?_],()],#[_,_,_,_,_,_,B,()],l1,#[_,_,(),l2]]
  ·show ag (aI D.n8 (show (A.9 - 1)*(0+14)+4<=102 by have:=D.n8;lia)) ()
  ·have:=tri 102 1650000 D.n8 () p hp;show ag (bc _ (Cs (bc _ (by have:=D.n8;lia)) _)) this
 ·obtain ⟨l1,l2⟩:(∃S,US (Xt A lk T) A.9 S)/\∀xs∈Xt A lk T,rF (12*(T - 1)+12) (16*T) xs:=by
   rcases (show A.9<=2\/A.9=3\/3 < A.9 by lia) with h | h | h
   ·show F7 (n:=2) B D h () ()
   ·have:=s4 h;show F7 (n:=3) B D () () ()
   ·have:=s3 h n5;show F7 (n:=5) B D n5 () ()
  refine #[720,#[D.n8,D.mw,D.pw,#[12,16,Dy (M:=2520) (V1:=9^3*9) (n0:=5) () () n5 () B.gm B.gp (),?_,λp hp=>?_],()],#[_,_,_,_,_,_,B,()],l1,#[_,_,(),l2]]
  ·show ag (aI n5 (show (A.9 - 1)*(12+16)+4<=116 by lia)) ()
  ·have:=tri 116 720 n5 () p hp;show ag (bc _ (Cs (bc _ ()) _)) this
 ·have t3:=s2 ();obtain l1|l2:=F7 (T:=T) (n:=2) B D n2 () ();have fm:GF (M1*M2) (9^3*2^20) A:=λxs hx x Xq=>(B.gm xs hx x Xq).scale M2
  have fp:GF (M1*M2) (9^3*2^20) lk:=λxs hx x Xq=>(B.gp xs hx x Xq).Y1 M1
  have hM:M1*M2<=2^240:=ag (aI B.b1 B.b2) (by rw[<- bg];show aj _);refine #[600,#[D.n8,D.mw,D.pw,#[240,32,Dy (n0:=2) (bY B.m1 B.m2) hM n2 () fm fp (),?_,λp hp=>?_],()],#[_,_,_,_,_,_,B,()],l1,#[_,_,(),l2]]
  ·show ag (aI n2 (show (A.9 - 1)*(240+32)+4<=276 by lia)) ()
  ·have:=tri 276 600 n2 () p hp;show ag (bc _ (Cs (bc _ ()) _)) this
theorem v9.symm (h:v9 xs ys):v9 ys xs:=by obtain k|j|k'|j'|a|b|c:=h;show #[k',j',k,j,b,a,()]
section
theorem Jo {M V:Nat} {f:Nat->Rat}:∀k,(∀i,i < k->Fr M V (f i))->Fr M (k*V) (aV k f)
 | 0,_=>Fr.zero
 | k+1,h=>by
  rw[lW];show (Jo k λi hi=>h i ()).add (h k ())
variable {d j n w M:Nat} {go ws:List Rat} {rows:Xo}
end
section
variable {X:Cx} {tg l:Expr} {tl:TE}
def Nj (K:Xn) (tl:TE):TI:=λσ H R=>tl σ H λx H1=>∃a,x=.ref a/\((∃xs,bN K H1 a xs)/\R (Oe K a) H1\/(∃xs,kz K H1 a xs)/\R (Qa K a) H1)
theorem Sf (hl:PE X l tl):PI X tg l (Nj X.K tl):=by
 intro Xe s σ H R I h;refine gX (hl Xe s σ H _ I h) λv s1 hz=>?_
 obtain x|H1|I1|r1|q1:=hz;obtain a|e|q1:=q1;subst e;cases r1;rcases q1 with ⟨⟨xs,hq⟩,q⟩ | ⟨⟨xs,hq⟩,q⟩
 ·obtain Xp|rv|p|hz:=I1.30 hq;refine WW p.19 ?_;refine #[s1.6,[s1.6],_,_,H1,rfl,I1.59 (t':=s1.27) λb o e=>Vq _ e,By a _,#[_,VG _ rfl,rfl,rfl],λb hb=>?_,q];have e:b=s1.6:=by simpa using hb
  subst e;show I1.Yt (aj _) (I1.Xw.39 (aj _))
 ·obtain Xp|rv|p|hz:=I1.45 hq;refine wpAny_pyIter_tuple (show s1.heap.IsTuple a Xp.12 from p) ?_;refine #[s1.6,[s1.6],_,_,H1,rfl,I1.59 (t':=s1.27) λb o e=>Vq _ e,yW a _,#[_,VG _ rfl,rfl,rfl],λb hb=>?_,q];have e:b=s1.6:=by simpa using hb
  subst e;show I1.Yt (aj _) (I1.Xw.39 (aj _))
end
section
variable {X:Cx} {Xe:List (Addr×Obj)} {σ:St} {H:Hp} {s:Vr} {A:VZ} {E:Value->Vr->Prop} {Q:Value->Vr->Prop} {b:Bool} {tp:Addr} {dd:Option Addr} {Xp:List Value} {n:Nat} {sl:Array (Option Value)}
theorem Ik (I:Inv X Xe σ H s) (rx:RelV x u) (ty:uP X.K H x t) (ZE:s.heap.14 tp=some #[.type "tuple",dd,.seq Xp.12 n,sl]) (e:PySem.W.kitAny X.K t Xp=some b) (h:∀tk,Q (.bool b) { s with toks:=tk }) :
  VC (model X.18 X.w) A (call (.builtin "isinstance") [u,.ref tp]) Q E s:=by
 cases ty with
 | Xy=>cases (show u=V4 from rx);show di PySem.W.kitx_none I.XN Wi ZE e (λz=>nomatch z) h
 | bl y=>cases (show u=WL y from rx);show di PySem.W.kitx_bool I.XN Wi ZE e (λz=>nomatch z) h
 | int i=>obtain t|q:=(show ∃t,u=Value.int i t from rx);cases q;show di PySem.W.kitx_int I.XN Wi ZE e (λz=>nomatch z) h
 | str y=>obtain t|q:=(show ∃t,u=Value.str y t from rx);cases q;show di PySem.W.kitx_str I.XN Wi ZE e (λz=>nomatch z) h
 | _B y=>obtain t|q:=(show ∃t,u=Value.float y t from rx);cases q;show di PySem.W.kitx_float I.XN Wi ZE e (λz=>nomatch z) h
 | @lst a xs ea =>
  cases (show u=Vy a from rx);obtain _|_|n|_|h1:=(show gL X.18 X.w H s.26 a (.lst xs) from I.Xw a _ ea);show di wa I.XN #[_,h1,rfl] ZE e (λz=>nomatch z) h
 | @YZ a ob xs ea =>
  cases (show u=Vy a from rx);obtain _|_|_|n|_|h1:=(show gL X.18 X.w H s.26 a (.YZ ob (.lst xs)) from I.Xw a _ ea);show di wa I.XN #[_,h1,rfl] ZE e (λz=>nomatch z) h
 | @tup a xs ea =>
  cases (show u=Vy a from rx);obtain _|_|_|p:=(show gL X.18 X.w H s.26 a (.tup xs) from I.Xw a _ ea);obtain o|h1|h2|_:=p;show di uf I.XN #[o,h1,h2] ZE e (λz=>nomatch z) h
 | @dK a Ya ea =>
  cases (show u=Vy a from rx);obtain _|_|vs|_|p:=(show gL X.18 X.w H s.26 a (.dK Ya) from I.Xw a _ ea);obtain o|es|ep|h1|h2|_:=p;show di wb I.XN #[o,h1,h2.1] ZE e (λz=>nomatch z) h
 | @dT a Ya ea =>
  cases (show u=Vy a from rx);obtain _|_|xs|_|o|es|ep|h1|h2|_:=(show gL X.18 X.w H s.26 a (.dT Ya) from I.Xw a _ ea);show di wb I.XN #[o,h1,h2.1] ZE e (λz=>nomatch z) h
 | @ins a C dx fs ea cl ha hn htk hm =>
  cases (show u=Vy a from rx);obtain mA|O|_:=vI I.Xw ea;obtain od|J|_:=O.look;show di (PySem.W.kitx_own (cl.get _) cl.hd ha hn htk hm) I.XN J ZE e (λz=>nomatch z) h
def Uc (K:Xn):List V->Hp->VK->Prop:=λvs H Q=>∃x tp,vs=[x,.ref tp]/\H tp=some (.tup [.ty "list",.ty "tuple"])/\((∃t b,uP K H x t/\PySem.W.kitAny K t [.type "list",.type "tuple"]=some b/\Q (.bl b) H)\/∃a xs,x=.ref a/\kz K H a xs/\Q (.bl true) H)
theorem Ly:rB X (.builtin "isinstance") (Uc X.K):=by
 intro Xe s σ H vs us Q I r h;obtain x|tp|rfl|et|q1:=h;obtain u|v|rfl|ru|rv:=vals2 r;cases rv;obtain _|Xp|adk|o|ho|hoc|n|hod:=(show gL X.18 X.w H s.26 tp (.tup [.ty "list",.ty "tuple"]) from I.Xw tp _ et);obtain oc|od|dt|sl:=o
 dsimp only at hoc hod
 subst hoc hod
 obtain rfl:Xp=[.type "list",.type "tuple"]:=by
  cases adk with
  | cons a r=>cases r with
   | cons a2 r2=>cases r2;cases a;cases a2;rfl
 rcases q1 with ⟨t,b,ty,ek,q⟩ | ⟨ad,xs,rfl,hs,q⟩
 ·show Ik I ru ty ho ek λtk=>#[.bl b,H,I.tok tk,rfl,q]
 ·cases ru;obtain _|_|⟨o,g1,g2,_⟩|_:=I.45 hs;show di uf I.XN #[o,g1,g2] ho (b:=true) rfl (λz=>nomatch z) λtk=>#[.bl true,H,I.tok tk,rfl,q]
end
inductive Ed where
 | fl (v:V)
 | row (qs:List Rat)
 | grid (rs:Xo)
def Ed.ok:Ed->Prop
 | .fl v=>rh v=true
 | .row qs=>qs.9<=100
 | .grid rs=>rs.9<=100/\∀qs∈rs,qs.9<=100
def Vn (K:Xn) (H0 H:Hp):Ed->V->Prop
 | .fl v,x=>x=v
 | .row qs,x=>∃p,x=.ref p/\H0 p=none/\dI K H p qs
 | .grid rs,x=>∃p,x=.ref p/\H0 p=none/\aP K H0 H p rs
section
variable {K:Xn} {g:TG}
theorem Cd {F:Hp->α->V->Prop} (G:Hp->β->V->Prop) (f:α->β) (hx:kz K H a xs) (pf:Vs (F H) as xs) (hl:as.9<=1000)
  (hF:∀{H H' c x},F H c x->aE H H'->F H' c x) (hG:∀{H H' c x},G H c x->aE H H'->G H' c x)
  (hs:∀(i:Nat) c x H' NY NN,as[i]?=some c->aE H H'->F H' c x->(∀y H2,aE H' H2->G H2 (f c) y->NY y H2)->o6 σ₀ g tf te x H' NY NN)
  (hd:∀ys H' p,H p=none->aE H H'->H' p=some (.lst ys)->Vs (G H') (as.11 f) ys->(∃H2,H2 p=none/\Vs (G H2) (as.11 f) ys)->Q (.ref p) H'):pI (Qa K a) σ₀ g tf te Q H:=by
 have lx:=pf.9;refine NS (K:=K) (xs:=xs) (λi ys H'=>aE H H'/\Vs (G H') ((as.21 i).11 f) ys) gU #[aE.refl _,.nil] (λi ys H' _ #[s,_]=>s.Y9 hx) ?_ ?_
 ·rintro i x ys H' Xq Xv ⟨s,pr⟩;obtain c|ec|hc:=cN pf Xq;refine hs i c x H' _ _ ec s (hF hc s) λy H2 s2 gy=>#[s.4 s2,?_]
  rw[take_snoc ec,bH];show bD (bv (λ_ _ z=>hG z s2) pr) (.cons gy .nil)
 ·rintro ys H' hy ⟨s,pr⟩ p hp;rw[aH ()] at pr;show hd ys _ p (s.17 hp) (s.4 (aE.new hp)) aK (bv (λ_ _ z=>hG z (aE.new hp)) pr) #[H',hp,pr]
end
def Kp (S:Addr->Prop) (H H':Hp):Prop:=∀a o,H a=some o->(¬S a\/∀zs,o≠.lst zs)->H' a=some o
section
variable {K:Xn} {S S':Addr->Prop} {H H' YS:Hp} {p:Addr} {q:Rat} {qs:List Rat} {x:V}
theorem Kp.of (s:aE H H'):Kp S H H':=λa o h _=>s a o h
theorem Kp.mono (h:Kp S H H') (hs:∀a,S a->S' a):Kp S' H H':=λa o e c=>h a o e (c.55 (λn=>.inl λz=>n (hs a z)) .inr)
theorem Kp.trans (h:Kp S H H') (h':Kp S H' YS):Kp S H YS:=λa o e c=>h' a o (h a o e c) c
theorem Kp.upd {ys:List V} {o:HO} (hl:H p=some (.lst ys)) (hS:S p):Kp S H (upd H p o):=λa o' e c=>by
 by_cases z:a=p
 ·subst z;rw[hl] at e;cases e;show c.55 (λn=>absurd hS n) λn=>absurd rfl (n ys)
 ·rw[bA z];show e
theorem Kp.Y9 (h:Kp S H H') (s:kz K H a xs):kz K H' a xs:=by
 rcases s with (e | ⟨o,e⟩) | e
 ·show .inl (.inl (h _ _ e (.inr λ_ z=>nomatch z)))
 ·show .inl (.inr #[o,h _ _ e (.inr λ_ z=>nomatch z)])
 ·show .inr e
theorem Kp.aar (h:Kp S H H') (m:vZ K H x n):vZ K H' x n:=by obtain p|e|s:=m;show #[p,e,h.Y9 s]
theorem Kp.num (h:Kp S H H') (n:cm K H q x):cm K H' q x:=by obtain p|e|s:=n;show #[p,e,h.Y9 s]
theorem Kp.row (h:Kp S H H') (n:¬S p) (r:dI K H p qs):dI K H' p qs:=by
 obtain xs|g|pr:=r;show #[xs,h _ _ g (.inl n),bv (λ_ _ z=>h.num z) pr]
end
def EA (K:Xn) (W:Addr->Prop) (H:Hp):Ed->V->Prop
 | .fl v,x=>x=v
 | .row qs,x=>∃p,x=.ref p/\W p/\dI K H p qs
 | .grid rs,x=>∃p us,x=.ref p/\W p/\H p=some (.lst us)/\V.ref p∉us/\Vs (λqs v=>∃q,v=V.ref q/\W q/\dI K H q qs) rs us
theorem EA.kp {K:Xn} (h:EA K W H d x) (k:Kp S H H') (n:∀a,W a->¬S a):EA K W H' d x:=by
 cases d with
 | fl v=>show h
 | row qs=>obtain p|a|b|c:=h;show #[p,a,b,k.row (n p b) c]
 | grid rs =>
  obtain p|us|a|b|c|d|e:=h;show #[p,us,a,b,k _ _ c (.inl (n p b)),d,bv (λ_ _ #[q,a,b,c]=>#[q,a,b,k.row (n q b) c]) e]
theorem Vn.elW {K:Xn} (h:Vn K H0 Hf d x) (s:aE Hf H):EA K (λa=>H0 a=none/\Hf a≠none) H d x:=by
 cases d with
 | fl v=>show h
 | row qs =>
  obtain p|a|b|c:=h;show #[p,a,#[b,by obtain _|g|_:=c;rw[g];show λz=>nomatch z],c.10 s]
 | grid rs =>
  obtain p|a|b|us|c|d|e:=h;show #[p,us,a,#[b,by rw[c];show λz=>nomatch z],s _ _ c,e,bv (λ_ _ #[q,a,b,c]=>#[q,a,#[b,by obtain _|g|_:=c;rw[g];show λz=>nomatch z],c.10 s]) d]
def wI (K:Xn) (n:Nat):Sp:=match n with
 | 0=>λ_ _ _ _=>False
 | i+1=>λvs H Q _=>∃x,vs=[x] /\
  ((rh x=true/\∀H',aE H H'->Q .Xy H')
  \/ (1<=i/\∃n,vZ K H x n/\∀H',aE H H'->Q .Xy H')
  \/ (2<=i/\∃p zs,x=.ref p/\H p=some (.lst zs)/\zs.9<=500/\(∀z∈zs,∃n,vZ K H z n)/\∀t H',Kp (λa=>a=p) H H'->H' t=some (.tup [.int 7,.int 1])->H' p=some (.lst (zs++[.ref t]))->Q .Xy H')
  \/ (3<=i/\∃p us,x=.ref p/\H p=some (.lst us)/\us.9<=100/\V.ref p∉us/\(∀y∈us,∃q zs,y=.ref q/\H q=some (.lst zs)/\zs.9<=100/\∀z∈zs,∃n,vZ K H z n)/\∀H',Kp (λa=>a=p\/V.ref a∈us) H H'->Q .Xy H')
  \/ (4<=i/\∃(t:Addr) (xs:List V) (ZM:List (Ed×(Addr->Prop))),x=.ref t/\kz K H t xs/\Vs (λ(e:Ed×(Addr->Prop)) v=>EA K e.2 H e.1 v) ZM xs/\ZM.9<=10/\(∀e∈ZM,Ed.ok e.1)/\(∀(i j:Nat) (e e':Ed×(Addr->Prop)),i < j->ZM[i]?=some e->ZM[j]?=some e'->∀a,e'.2 a->¬e.2 a)/\∀H',Kp (λa=>∃e∈ZM,e.2 a) H H'->Q .Xy H'))
theorem zL:∀{bs:List Bool} {ys:List V},Vs (λb y=>y=V.bl b) bs ys->ys=bs.11 V.bl
 | _,_,.nil=>rfl
 | _,_,.cons h t=>by rw[h,zL t];rfl
theorem Q0 (hA:∀xs∈A,xs.9=n) (hr:row.9=n) (h:dE A.9 (a7 A) λc=>row.3 c 0):∃ws,ws.9=A.9/\row=yH A ws n:=by
 obtain w|hw:=h;refine #[(Vt A.9).11 w,by rw[af,bG],?_];apply dQ (by rw[hr];show rL.symm);intro c h1 h2;have e1:row.3 c 0=row[c]:=by rw[aa,ae h1];rfl
 have e2:(yH A ((Vt A.9).11 w) n).3 c 0=(yH A ((Vt A.9).11 w) n)[c]:=by rw[aa,ae h2];rfl
 have hw:row.3 c 0=_:=hw c;rw[<- e1,<- e2,pN (),hw,af,bG];refine ay λi hi=>?_
 rw[aa,az,bR hi];rfl
theorem Pp (RR:aD rows n R ps) (ha:a < n) (hp:a∉ps) (hr:row.9=n):cS row (sW R ps n a)=row.3 a 0 - aV ps.9 λj=>row.3 (ps.3 j 0) 0*a7 R j a:=by
 obtain _|_|rr:=RR;rw[cD (by unfold sW;rw[iF,hr]),hr]
 have e1:aV n (λc=>row.3 c 0*(sW R ps n a).3 c 0)=aV n (λc=>(if c=a then row.3 a 0 else 0)+aV ps.9 λj=>if ps.3 j 0=c then -1*(row.3 (ps.3 j 0) 0*a7 R j a) else 0):=by
  refine ay λc hc=>?_
  unfold sW;rw[J5 hc];by_cases e:c=a
  ·rw[if_pos e,if_pos e,e,bJ λj hj=>?_]
   ·grind
   ·rw[if_neg (λz=>hp (by rw[<- z];show getD_in hj))]
  ·rw[if_neg e,if_neg e,<- bK,yT];refine ay λj _=>?_
   split
   ·rename_i q;rw[q];grind
   ·grind
 rw[e1,jm,cx (i:=a) ha (λj _ ne=>if_neg ne),if_pos rfl,<- cT]
 have e2:aV ps.9 (λj=>aV n λc=>if ps.3 j 0=c then -1*(row.3 (ps.3 j 0) 0*a7 R j a) else 0)=aV ps.9 λj=>-1*(row.3 (ps.3 j 0) 0*a7 R j a):=by
  refine ay λj hj=>?_
  rw[cx (i:=ps.3 j 0) (rr.52 j hj) λc _ ne=>if_neg λz=>ne z.20,if_pos rfl]
 rw[e2,bK];grind
theorem K7 (RR:aD rows n R ps) (hw:∀xs∈rows,xs.9=n) (hr:row.9=n) (h:∀xs∈aL R ps n,cS xs row=0):∃ws,ws.9=rows.9/\row=yH rows ws n:=by
 refine Q0 hw hr (dE.trans (λj hj=>RR.2.2.56 j hj) #[λj=>row.3 (ps.3 j 0) 0,λc=>?_]);change row.3 c 0=_
 by_cases hc:c < n
 ·by_cases hp:c∈ps
  ·obtain j|hj|ej:=aN hp;have g:ps.3 j 0=c:=by rw[aa,ae hj];show ej
   rw[<- g,cx hj λi hi ne=>?_]
   ·have u:=RR.2.2.32 j hj j hj;rw[if_pos rfl] at u;rw[u,fE]
   ·have u:=RR.2.2.32 i hi j hj;rw[if_neg ne] at u;rw[u,bB]
  ·have z:=h _ (au.mpr #[c,ko.mpr #[hc,hp],rfl]);rw[Aj (by rw[hr];show iF),Pp RR hc hp hr] at z;grind
 ·rw[aa,aJ (),bJ λj _=>by rw[jg RR.2.1 (),bB]];rfl
theorem MS (RR:aD rows n R ps) (hw:∀xs∈rows,xs.9=n):∀z∈aL R ps n,∀xs∈rows,cS xs z=0:=λz hz xs hx=>by
 obtain a|h1|h2|rfl:=kN hz;obtain i|hi|rfl:=aN hx;show xC RR h1 h2 (ae hi) (hw _ (aG hi))
theorem Pq:((0 - (nm x).1,(nm x).2):Int×Int)=nm (-x):=by
 unfold nm;rw[Rat.neg_num,Rat.neg_den,Int.zero_sub]
theorem Jj:(jX n a).9=n:=by unfold jX;rw[af,bG]
section
variable {mv pt lk F R:Xo} {n m:Nat} {ps:List Nat} {x:Nat->Rat} {st pu:List Rat}
theorem Js {a:Nat->Nat->Rat} {f:Nat->Nat->Rat} {w:Nat->Rat}:∀k,(∀i,i < k->dE m a (f i))->dE m a λc=>aV k λi=>w i*f i c
 | 0,_=>dE.zero λ_=>rfl
 | k+1,h=>by
  have:=dE._q 1 (w k) (Js (w:=w) k λi hi=>h i ()) (h k ());show this.congr λc=>by change _=aV k _+_;grind
theorem Pt (KF:jN mv pt a c) (D8:mv.9<=8) (wm:∀xs∈mv,xs.9=mv.9) (wp:∀xs∈pt,xs.9=mv.9) (RR:aD (Xt mv pt mv.9) mv.9 R ps):(∀k,k < pt.9->dE ps.9 (a7 R) (a7 pt k))/\∀x:Nat->Rat,dE ps.9 (a7 R) x->dE ps.9 (a7 R) λc=>aV mv.9 λj=>a7 mv c j*x j:=by
 obtain R0|ps0|G:=DE KF D8 wm wp (mv.9+1);have R1:=G.Zk (dr _) (aj _);have R2:=G.Zk (dr _) (rD mv.9);obtain rfl|rfl:=RR.10 R1;have B:=Fw rfl wm wp R1 R2;have sp:=B.2.2.span;refine #[λk hk=>?_,λx hx=>?_]
 ·have:=sp k (by rw[ai];lia);rwa [tK hk] at this
 ·obtain w|hw:=hx
  have key:=Js (w:=w) (f:=λs=>a7 (R.11 (og mv)) s) ps.9 λs hs=>by
   have:=sp (pt.9+s) (by rw[ai,af,RR.1];lia);rwa [pH] at this
  refine key.congr λc=>?_
  have e:(aV mv.9 λj=>a7 mv c j*x j)=aV mv.9 λj=>aV ps.9 λs=>w s*(a7 mv c j*a7 R s j):=ay λj _=>by
   rw[hw j,<- bK];show ay λs _=>by grind
  rw[e,cT];refine ay λs hs=>?_
  rw[bK,MQ rfl wm RR.2.1 (by rw[RR.1];show hs)]
end
theorem Iw {M V i j:Nat} (h:GF M V rows):Fr M V (a7 rows i j):=by
 unfold a7;rw[aa (l:=rows)];cases ei:rows[i]? with
 | none=>change Fr M V (([]:List Rat).3 j 0);show Fr.zero
 | some xs =>
  change Fr M V (xs.3 j 0)
  rw[aa];cases ej:xs[j]? with
  | none=>show Fr.zero
  | some y=>show h xs (ar ei) y (ar ej)
inductive zi (K:Xn) (vs:List V) (H:Hp) (Q:VK) (E9:XK):Prop
 | mk (p q:Addr) (w:Nat) (H0 H1:Hp) (one other:Xo):vs=[.ref p,.ref q,.int w]->aP K H0 H p one->aP K H1 H q other->one.9<=1000->other.9<=1000->w<=1000->((∀xs∈one,xs.9=other.9/\∀ys∈aO other w,v9 ys xs))->(∀xs∈other,xs.9=w)->(∀r H',H r=none->aE H H'->aP K H H' r (iC one other w)->Q (.ref r) H')->zi K vs H Q E9
open PySem.W
def Ab (inv mv rows:Xo) (n:Nat):Xo:=iC (iC inv mv n) (aO rows n) n
def Im (inv pt:Xo):Xo:=pt.11 λxs=>inv.11 λr=>cS r xs
theorem Af {rows:Xo} (h:rows[i]?=some xs):a7 (rows.11 f) i j=(f xs).3 j 0:=by
 unfold a7;rw[aa (l:=rows.11 f),az,h];rfl
theorem iK (h:rows[i]?=some xs):a7 rows i j=xs.3 j 0:=by
 unfold a7;rw[aa (l:=rows),h];rfl
theorem J9 {rows:Xo} {f:List Rat->Rat} (h:rows[i]?=some xs):(rows.11 f).3 i 0=f xs:=by
 rw[aa,az,h];rfl
theorem Rx {f:Nat->Rat} (h:i < n):((Vt n).11 f).3 i 0=f i:=by
 rw[aa,az,bR h];rfl
theorem jh (h:i < w):a7 (aO rows w) i j=a7 rows j i:=by
 unfold aO;rw[iK (xs:=rows.11 λxs=>xs.3 i 0) (by rw[az,bR h];rfl)];unfold a7;rw[aa,aa (l:=rows),az];cases rows[j]? <;> rfl
theorem SS (hw:∀r∈rows,r.9=n) (hx:xs.9=n) (hi:i < rows.9):(rows.11 λr=>cS r xs).3 i 0=aV n λa=>a7 rows i a*xs.3 a 0:=by
 have e:=ae hi;have l:=hw _ (aG hi);rw[J9 e,cD (),l];show ay λa _=>by rw[iK e]
theorem Md (hi:i < one.9) (ho:∀xs∈one,xs.9=other.9) (hj:j < w):a7 (iC one other w) i j=aV other.9 λl=>a7 one i l*a7 other l j:=by
 have e:=ae hi;have l:=ho _ (aG hi);unfold iC;rw[Af e];unfold aO;rw[jE,Rx hj];change cS (other.11 λxs=>xs.3 j 0) _=_
 rw[cD (by rw[af];lia),af];refine ay λa ha=>?_
 rw[iK e,cf];congr 1;rw[J9 (ae ha),iK (ae ha)]
theorem vJ (hi:yE inv n):(Ab inv mv rows n).9=n:=by unfold Ab iC;rw[af,af,hi.1]
theorem Up:∀xs∈Ab inv mv rows n,xs.9=n:=λxs hx=>by
 unfold Ab iC at hx;obtain ys|_|rfl:=au.mp hx;rw[af,b7]
theorem Qf:∀xs∈iC one other n,xs.9=n:=λxs hx=>by
 unfold iC at hx;obtain ys|_|rfl:=au.mp hx;rw[af,b7]
theorem SG (hi:yE inv n) (hm:yE mv n) (h1:i < n) (h2:k < n):a7 (Ab inv mv rows n) i k=aV n λc=>(aV n λa=>a7 inv i a*a7 mv a c)*a7 rows k c:=by
 unfold Ab;rw[Md (by unfold iC;rw[af,hi.1];show h1) (λxs hx=>by rw[b7];show Qf xs hx) h2,b7];refine ay λc hc=>?_
 rw[jh hc,Md (by rw[hi.1];show h1) (λxs hx=>by rw[hi.2 xs hx,hm.1]) hc,hm.1]
theorem SE (hi:yE inv n) (hp:∀xs∈pt,xs.9=n) (h1:p < pt.9) (h2:i < n):a7 (Im inv pt) p i=aV n λd=>a7 inv i d*a7 pt p d:=by
 have e:=ae h1;unfold Im;rw[Af e,SS hi.2 (hp _ (aG h1)) (by rw[hi.1];show h2)];show ay λd _=>by rw[iK e]
theorem oZ (hr:yE rows n):yE (aO rows n) n:=#[b7,λxs hx=>by rw[tx xs hx,hr.1]]
theorem lQ {M V w:Nat} (h:GF M V rows):GF M V (aO rows w):=λys hy y YY=>by
 obtain j|_|rfl:=au.mp hy;obtain xs|hx|rfl:=au.mp YY;rw[aa];cases e:xs[j]? with
 | none=>show Fr.zero
 | some z=>show h xs hx z (ar e)
theorem gs {M V k j:Nat} (h:GF M V rows) (M0:0 < M) (hM:M<=2^k) (hV:V<=2^j):∀xs∈rows,rF k j xs:=λxs hx=>#[M,V,M0,hM,hV,h xs hx]
theorem qP {M V k j:Nat} (h:GF M V rows) (M0:0 < M) (hM:M<=2^k) (hV:V<=2^j) (hk:k+j<=3990000):∀xs∈rows,∀x∈xs,pK x:=λxs hx x Xq=>Nw M0 hM hV hk (h xs hx x Xq)
theorem vK {M N V W w:Nat} (h1:GF N W one) (h2:GF M V other):GF (M*N) (other.9*(V*W)) (iC one other w):=λxs hx x Xq=>by
 unfold iC at hx;obtain os|ho|rfl:=au.mp hx;obtain ys|hy|rfl:=au.mp Xq;have l:=tx ys hy;rw[<- l];show Fr.dot (lQ h2 ys hy) (h1 os ho)
theorem FA {M N V W n:Nat} (h1:GF N W one) (h2:GF M V other) (hw:∀xs∈one,xs.9=n):GF (N*M) (n*(W*V)) (other.11 λxs=>one.11 λr=>cS r xs):=λzs hz z YA=>by
 obtain xs|hx|rfl:=au.mp hz;obtain r|hr|rfl:=au.mp YA;have:=Fr.dot (h1 r hr) (h2 xs hx);rwa [hw r hr] at this
theorem nk {M V W:Nat} (h:GF M V rows) (hv:V<=W):GF M W rows:=λxs hx x Xq=>(h xs hx x Xq).22 hv
section
variable {mv pt lk rows inv:Xo} {M1 M2 V a1 a2 c Mr D n:Nat}
theorem AJ (h1:x<=2^i) (h2:y<=2^j) (h:i+j<=k):x*y<=2^k:=ag (aI h1 h2) (by rw[<- bg];show ak () h)
structure QV (mv pt lk rows inv:Xo):Prop where
 f1:∀xs∈inv,∀ys∈aO mv mv.9,v9 ys xs
 f2:∀xs∈iC inv mv mv.9,∀ys∈aO (aO rows mv.9) mv.9,v9 ys xs
 f3:∀ys∈pt,∀xs∈inv,v9 xs ys
 f4:∀ys∈lk,∀xs∈rows,v9 xs ys
 g1:tO (Ab inv mv rows mv.9)
 g2:tO (Im inv pt)
 g3:tO (lk.11 λxs=>rows.11 λr=>cS r xs)
end
theorem yO (D:eO mv pt lk) (hi:yE inv mv.9) (hr:yE rows mv.9):eO (Ab inv mv rows mv.9) (Im inv pt) (lk.11 λxs=>rows.11 λr=>cS r xs):=by
 have lM:=vJ (mv:=mv) (rows:=rows) hi;refine #[by rw[lM];show D.n8,by unfold Im;rw[af];show D.i4,by rw[af];show D.o4,λxs hx=>by rw[lM];show Up xs hx,λxs hx=>?_,λxs hx=>?_]
 ·obtain ys|_|rfl:=au.mp hx;rw[af,lM,hi.1]
 ·obtain ys|_|rfl:=au.mp hx;rw[af,lM,hr.1]
def kE (R:Xo) (ps:List Nat) (n:Nat):Xo:=R++(dD ps n).11 λa=>jX n ((a:Nat):Int)
def stC (R:Xo) (ps:List Nat) (n:Nat):Xo:=ps.11 (λa=>jX n ((a:Nat):Int))++aL R ps n
theorem Hw (h:c < n):(jX n ((a:Nat):Int)).3 c 0=if c=a then 1 else 0:=by
 unfold jX;rw[aa,az,bR h];by_cases e:c=a
 ·subst e;simp
 ·have:¬(c:Int)=(a:Int):=()
  simp [this,e]
theorem J7 {l:List Nat} (h:t < l.9):a7 (l.11 f) t c=(f (l.3 t 0)).3 c 0:=by
 unfold a7;rw[aa (l:=V9 f l),az,aa (l:=l),ae h];rfl
theorem DG (hs:s < (dD ps n).9) (ht:t < (dD ps n).9) (e:(dD ps n).3 s 0=(dD ps n).3 t 0):s=t:=by
 have nd:(dD ps n).33:=Hq EC L5;rw[aa,aa,ae hs,ae ht] at e;show (List.getElem_inj nd).mp e
theorem C4 (RR:aD rows n R ps) (hi:i < ps.9) (hj:j < ps.9) (e:ps.3 i 0=ps.3 j 0):i=j:=by
 rcases eE i j with q | q | q
 ·have:=RR.2.2.inc i j q hj;lia
 ·show q
 ·have:=RR.2.2.inc j i q hi;lia
theorem vL (RR:aD rows n R ps):(dD ps n).9+ps.9=n:=Ny RR.2.2.inc RR.2.2.52
theorem FC (ht:t < (dD ps n).9):(dD ps n).3 t 0 < n/\(dD ps n).3 t 0∉ps:=ko.mp (getD_in ht)
theorem Jr (RR:aD rows n R ps) (ha:a < ps.9):a7 (kE R ps n) a i=a7 R a i:=by
 unfold kE;rw[tK (by rw[RR.1];show ha)]
theorem Jq (RR:aD rows n R ps) (ht:t < (dD ps n).9) (hi:i < n):a7 (kE R ps n) (ps.9+t) i=if i=(dD ps n).3 t 0 then 1 else 0:=by
 unfold kE;rw[<- RR.1,pH,J7 ht,Hw hi]
theorem y4 (ha:a < ps.9) (hi:i < n):a7 (stC R ps n) a i=if i=ps.3 a 0 then 1 else 0:=by
 unfold stC;rw[tK (by rw[af];show ha),J7 ha,Hw hi]
theorem Ml (ht:t < (dD ps n).9):a7 (stC R ps n) (ps.9+t) i=(sW R ps n ((dD ps n).3 t 0)).3 i 0:=by
 unfold stC aL;have:=pH (X:=ps.11 λa=>jX n ((a:Nat):Int)) (Y:=(dD ps n).11 (sW R ps n)) (i:=t);rw[af] at this;rw[this,J7 ht]
theorem oi (RR:aD rows n R ps):yE (kE R ps n) n:=by
 have:=vL RR;refine #[by unfold kE;rw[ai,af,RR.1];lia,λxs hx=>?_];rcases ao.mp hx with hx | hx
 ·show RR.2.1 xs hx
 ·obtain a|_|rfl:=au.mp hx;show Jj
theorem mQ (RR:aD rows n R ps):yE (stC R ps n) n:=by
 have:=vL RR;refine #[by unfold stC aL;rw[ai,af,af];lia,λxs hx=>?_];rcases ao.mp hx with hx | hx
 ·obtain a|_|rfl:=au.mp hx;show Jj
 ·show fA xs hx
theorem J0 (RR:aD rows n R ps) (hj:j < ps.9) (ha:a∉ps):(sW R ps n a).3 (ps.3 j 0) 0=-(a7 R j a):=by
 unfold sW;rw[J5 (RR.2.2.52 j hj),if_neg (λe=>ha (by rw[<- e];show getD_in hj)),cx hj λi hi ne=>if_neg λz=>ne (C4 RR hi hj z),if_pos rfl]
theorem Po (RR:aD rows n R ps) (ht:t < (dD ps n).9) (hk:k < ps.9):(aV n λj=>(sW R ps n ((dD ps n).3 t 0)).3 j 0*a7 R k j)=0:=by
 obtain f1|f2:=FC ht;have hk':k < R.9:=by rw[RR.1];show hk
 have w:=RR.2.1 _ (aG hk');have d:=xC (ig RR) f1 f2 (ae hk') w;rw[cD (by rw[w];show iF.symm),w] at d;refine Eq.trans (ay λj _=>?_) d;rw[iK (ae hk'),cf]
theorem Qq (RR:aD rows n R ps):LO (stC R ps n) (aO (kE R ps n) n) n:=λi hi k hk=>by
 have cn:=vL RR;rw[ay (g:=λj=>a7 (stC R ps n) i j*a7 (kE R ps n) k j) λj hj=>by rw[jh hj]];rcases aY i ps.9 with h1 | h1
 ·have lo:=RR.2.2.52 i h1;rw[cx lo λj hj ne=>by rw[y4 h1 hj,if_neg ne,df],y4 h1 lo,if_pos rfl,iq];rcases aY k ps.9 with h2 | h2
  ·rw[Jr RR h2,RR.2.2.32 k h2 i h1];by_cases e:i=k
   ·rw[if_pos e,if_pos e.20]
   ·rw[if_neg e,if_neg λz=>e z.20]
  ·obtain t|rfl:=nY h2;have ht:t < (dD ps n).9:=()
   rw[Jq RR ht lo,if_neg (λe=>(FC ht).2 (by rw[<- e];show getD_in h1)),if_neg ()]
 ·obtain s|rfl:=nY h1;have hs:s < (dD ps n).9:=()
  rcases aY k ps.9 with h2 | h2
  ·rw[ay (g:=λj=>(sW R ps n ((dD ps n).3 s 0)).3 j 0*a7 R k j) λj _=>by rw[Ml hs,Jr RR h2],Po RR hs h2,if_neg ()]
  ·obtain t|rfl:=nY h2;have ht:t < (dD ps n).9:=()
   obtain f1|f2:=FC ht;rw[cx f1 λj hj ne=>by rw[Jq RR ht hj,if_neg ne,bB],Jq RR ht f1,if_pos rfl,fE,Ml hs,mU f1 f2];by_cases e:s=t
   ·subst e;rw[if_pos rfl,if_pos rfl]
   ·rw[if_neg λz=>e (DG ht hs z).20,if_neg ()]
theorem Qp (RR:aD rows n R ps):LO (aO (kE R ps n) n) (stC R ps n) n:=λi hi k hk=>by
 have cn:=vL RR;rw[ay (g:=λj=>a7 (kE R ps n) j i*a7 (stC R ps n) j k) λj _=>by rw[jh hi]]
 have sp:aV n (λj=>a7 (kE R ps n) j i*a7 (stC R ps n) j k)=aV ps.9 (λj=>a7 (kE R ps n) j i*a7 (stC R ps n) j k)+aV (dD ps n).9 λt=>a7 (kE R ps n) (ps.9+t) i*a7 (stC R ps n) (ps.9+t) k:=by
  rw[<- nF,show ps.9+(dD ps n).9=n by lia]
 rw[sp,ay (g:=λj=>a7 R j i*if k=ps.3 j 0 then 1 else 0) λj hj=>by rw[Jr RR hj,y4 hj hk]];rw[ay (k:=(dD ps n).9) (g:=λt=>(if i=(dD ps n).3 t 0 then 1 else 0)*(sW R ps n ((dD ps n).3 t 0)).3 k 0) λt ht=>by rw[Jq RR ht hi,Ml ht]]
 have e1:∀j,j < ps.9->ps.3 j 0=k->(aV ps.9 λj=>a7 R j i*if k=ps.3 j 0 then 1 else 0)=a7 R j i:=λj hj e=>by
  rw[cx hj λl hl ne=>by rw[if_neg λz=>ne (C4 RR hl hj (by rw[<- z,e])),bB],if_pos e.20,fE]
 have e1':k∉ps->(aV ps.9 λj=>a7 R j i*if k=ps.3 j 0 then 1 else 0)=0:=λh=>bJ λj hj=>by rw[if_neg λz=>h (by rw[z];show getD_in hj),bB]
 have e2:i∉ps->(aV (dD ps n).9 λt=>(if i=(dD ps n).3 t 0 then 1 else 0)*(sW R ps n ((dD ps n).3 t 0)).3 k 0)=(sW R ps n i).3 k 0:=λh=>by
  obtain t|ht|et:=aN (ko.mpr #[hi,h]);have eg:(dD ps n).3 t 0=i:=by rw[aa,ae ht,et];rfl
  rw[cx ht λs hs ne=>by rw[if_neg λz=>ne (DG hs ht (by rw[<- z,eg])),df],if_pos eg.20,iq,eg]
 have e2':i∈ps->(aV (dD ps n).9 λt=>(if i=(dD ps n).3 t 0 then 1 else 0)*(sW R ps n ((dD ps n).3 t 0)).3 k 0)=0:=λh=>bJ λt ht=>by rw[if_neg λz=>(FC ht).2 (by rw[<- z];show h),df]
 have ix:∀{x},x∈ps->∃j,j < ps.9/\ps.3 j 0=x:=λh=>by
  obtain j|hj|e:=aN h;show #[j,hj,by rw[aa,ae hj,e];rfl]
 by_cases pk:k∈ps
 ·obtain j|hj|ej:=ix pk;rw[e1 j hj ej];by_cases pi:i∈ps
  ·obtain l|hl|el:=ix pi;rw[e2' pi,tI,<- el,RR.2.2.32 j hj l hl,<- ej];by_cases e:j=l
   ·subst e;rw[if_pos rfl,if_pos rfl]
   ·rw[if_neg e,if_neg λz=>e (C4 RR hl hj z).20]
  ·rw[e2 pi,<- ej,J0 RR hj pi,ej,if_neg λz=>pi (by rw[z];show pk),Rat.add_neg_cancel]
 ·rw[e1' pk,yT];by_cases pi:i∈ps
  ·rw[e2' pi,if_neg λz=>pk (by rw[<- z];show pi)]
  ·rw[e2 pi,mU hk pk];by_cases e:k=i
   ·rw[if_pos e,if_pos e.20]
   ·rw[if_neg e,if_neg λz=>e z.20]
theorem Rh (RR:aD rows n R ps) (h:aD (pC (aO (kE R ps n) n) (bT n)) (n+n) R' Xx):Xx=Vt n/\R'.11 (λxs=>xs.47 n)=stC R ps n:=by
 have J:=Fy (oZ (oi RR)) (mQ RR) (Qq RR) (Qp RR);obtain rfl|rfl:=h.10 J;show #[rfl,Kf wo (mQ RR).1]
structure Kv (mv pt lk R:Xo) (M1 M2 V a1 a2 c q E:Nat):Prop where
 B:Bd mv pt M1 M2 V a1 a2 c
 q0:0 < q
 q1:q<=2^E
 rt:∀xs∈R,∀x∈xs,Tp q (2^E) x
 e1:4*E+a1+a2+c+3<=3900000
 e3:2*E<=3000000
 e2:mv.9*(E+4)<=8900000
 lf:∃M3 V3:Nat,0 < M3/\M3<=2^100000/\V3<=2^100000/\GF M3 V3 lk
section
variable {M1 M2 V a1 a2 c q E N w n:Nat}
theorem SY (B:Bd mv pt M1 M2 V a1 a2 c) (D:eO mv pt lk) (hn:mv.9<=N) (h1:a1*(N - 1)+a2+c*N<=w):0 < M1^(mv.9 - 1)*M2/\M1^(mv.9 - 1)*M2<=2^w/\∀xs∈Xt mv pt mv.9,∀x∈xs,Tp (M1^(mv.9 - 1)*M2) (2^w) x:=by
 have q1:a1*(mv.9 - 1)<=a1*(N - 1):=bc _ ();have q2:c*mv.9<=c*N:=bc _ hn;have p:=zF (t:=mv.9 - 1) B.b1 B.b2;refine #[bY (we B.m1) B.m2,ag p (ak () ()),λxs hx x Xq=>Tp.of (B.Xt D _ xs hx x Xq) ?_];show AJ (aj _) p ()
theorem Dz (B:Bd mv pt M1 M2 V a1 a2 c) (D:eO mv pt lk) (hn:mv.9<=N) (N8:N<=8) (h1:a1*(N - 1)+a2+c*N<=w) (h2:N*(w+4)<=E) (h3:2*(E+w)<=3990000) (h4:a1*(N+1)+a2+c*(N+2)<=3900000):QW mv pt mv.9/\∃S,N7 (Xt mv pt mv.9) mv.9 S:=by
 obtain p0|p1|t:=SY B D hn h1;have q1:a1*(mv.9+1)<=a1*(N+1):=bc _ ();have q2:c*(mv.9+2)<=c*(N+2):=bc _ ();have q3:min (Xt mv pt mv.9).9 mv.9*(w+4)<=N*(w+4):=ax _ ();show #[#[M1,M2,V,a1,a2,c,B,()],_,N9.Zo (w:=w) (a:=w) #[_,2^w,p0,p1,bu,aj _,t,(),()] (dO rfl D.pw _)]
theorem Jh (B:Bd mv pt M1 M2 V a1 a2 c) (D:eO mv pt lk) (F:N6 mv pt lk) (hn:mv.9<=N) (N8:N<=8) (h1:a1*(N - 1)+a2+c*N<=w) (h2:N*(w+4)<=E) (h3:4*E+a1+a2+c+3<=3900000) (h5:2*E<=3000000) (h4:N*(E+4)<=8900000) (h6:w<=4000000) (RR:aD (Xt mv pt mv.9) mv.9 R ps):∃q,Kv mv pt lk R M1 M2 V a1 a2 c q E:=by
 obtain p0|p1|t:=SY B D hn h1;have q3:min (Xt mv pt mv.9).9 mv.9*(w+4)<=N*(w+4):=ax _ ();have q4:mv.9*(E+4)<=N*(E+4):=ax _ hn;have S:vY (Xt mv pt mv.9) mv.9 w:=#[_,2^w,p0,ag p1 (ak () ()),bu,aj _,t,(),(),()];obtain _|q|q0|q1|tq:=Fc (dO rfl D.pw _) S RR;have up:(2:Nat)^(min (Xt mv pt mv.9).9 mv.9*(w+4))<=2^E:=ak () ();show #[q,B,q0,ag q1 up,λxs hx x Xq=>(tq xs hx x Xq).22 up,h3,h5,(),let ⟨M,W,a,b,c,_,_,d⟩:=F;#[M,W,a,ag b (ak () ()),ag c (ak () ()),d]]
theorem Nd (h:Rg mv pt w) (D:eO mv pt lk):QW mv pt mv.9/\∃S,N7 (Xt mv pt mv.9) mv.9 S:=by
 rcases h with ⟨_,B⟩ | ⟨_,n5,B⟩ | ⟨_,n2,M1,M2,B⟩
 ·show Dz (N:=8) (w:=112) (E:=928) B D D.n8 () () () () ()
 ·show Dz (N:=5) (w:=140) (E:=720) B D n5 () () () () ()
 ·show Dz (N:=2) (w:=306) (E:=620) B D n2 () () () () ()
theorem Hv (h:M<=W):∀x∈jX n a,Tp M W x:=λx hx=>by
 obtain i|_|rfl:=au.mp hx
 split
 ·show #[M,by rw[iq,aW],by simpa using h]
 ·show Tp.zero
theorem Kv.tb (z:Kv mv pt lk R M1 M2 V a1 a2 c q E):∀xs∈kE R ps n,∀x∈xs,Tp q (2^E) x:=λxs hx x Xq=>by
 rcases ao.mp hx with hx | hx
 ·show z.rt xs hx x Xq
 ·obtain a|_|rfl:=au.mp hx;show Hv z.q1 x Xq
theorem Kv.tc (z:Kv mv pt lk R M1 M2 V a1 a2 c q E) (RR:aD rows n R ps):∀xs∈stC R ps n,∀x∈xs,Tp q (2^E) x:=λxs hx x Xq=>by
 rcases ao.mp hx with hx | hx
 ·obtain a|_|rfl:=au.mp hx;show Hv z.q1 x Xq
 ·obtain a|_|_|rfl:=kN hx;show MT z.q0 z.q1 z.rt RR x Xq
theorem CB (h:∀xs∈rows,∀x∈xs,Tp M W x):∀xs∈aO rows w,∀x∈xs,Tp M W x:=λys hy y YY=>by
 obtain j|_|rfl:=au.mp hy;obtain xs|hx|rfl:=au.mp YY;rw[aa];cases e:xs[j]? with
 | none=>show Tp.zero
 | some z=>show h xs hx z (ar e)
theorem Kv.sw (z:Kv mv pt lk R M1 M2 V a1 a2 c q E) (n8:mv.9<=8) (RR:aD rows mv.9 R ps):vY (pC (aO (kE R ps mv.9) mv.9) (bT mv.9)) (mv.9+mv.9) E :=
 Nf (M:=q) (oZ (oi RR)) () z.q0 z.q1 (by have:=z.e3;lia) (CB z.tb) z.e2
theorem Kv._C (z:Kv mv pt lk R M1 M2 V a1 a2 c q E) (n8:mv.9<=8) (RR:aD rows mv.9 R ps):QV mv pt lk (kE R ps mv.9) (stC R ps mv.9):=by
 have e1:=z.e1;have e3:=z.e3;have v1:=z.B.v1;have gb:GF q (2^E) (kE R ps mv.9):=λxs hx x Xq=>(z.tb xs hx x Xq).fr z.q0
 have gc:GF q (2^E) (stC R ps mv.9):=λxs hx x Xq=>(z.tc RR xs hx x Xq).fr z.q0
 have im:GF (M1*q) (2^(c+E)) (iC (stC R ps mv.9) mv mv.9):=nk (vK gc z.B.gm) (by
  rw[<- b9,bg];show ax _ (ag (ax _ (i8 _ 4)) z.B.vc))
 have m0:0 < M1*q:=bY z.B.m1 z.q0;have m1:M1*q<=2^(a1+E):=AJ z.B.b1 z.q1 (aj _)
 have iM:GF (q*(M1*q)) (2^(3+E+(c+E))) (Ab (stC R ps mv.9) mv (kE R ps mv.9) mv.9):=nk (vK im (lQ gb)) (by
  rw[b7,<- b9,bg 2 (3+E)];show ax _ (AJ (i:=3) () (aj _) (aj _)))
 have iP:GF (q*M2) (2^(c+E)) (Im (stC R ps mv.9) pt):=nk (FA gc z.B.gp (mQ RR).2) (by
  rw[cw (2^E),<- b9,bg];show ax _ (ag (ax _ (i8 _ 4)) z.B.vc))
 obtain M3|V3|l0|l1|l2|lg:=z.lf;have iL:GF (q*M3) (2^(3+(E+100000))) (lk.11 λxs=>(kE R ps mv.9).11 λr=>cS r xs):=nk (FA gb lg (oi RR).2) (AJ (i:=3) () (AJ (aj _) l2 (aj _)) (aj _))
 refine #[λxs hx ys hy=>#[_,_,_,_,gs (lQ z.B.gm) z.B.m1 z.B.b1 v1 ys hy,gs gc z.q0 z.q1 (aj _) xs hx,()],
  λxs hx ys hy=>#[_,_,_,_,gs (lQ (lQ gb)) z.q0 z.q1 (aj _) ys hy,gs im m0 m1 (aj _) xs hx,()],
  λys hy xs hx=>#[_,_,_,_,gs gc z.q0 z.q1 (aj _) xs hx,gs z.B.gp z.B.m2 z.B.b2 v1 ys hy,()],
  λys hy xs hx=>#[_,_,_,_,gs gb z.q0 z.q1 (aj _) xs hx,gs lg l0 l1 l2 ys hy,()],
  λxs hx x Xq=>oF (qP iM (bY z.q0 m0) (AJ z.q1 m1 (aj _)) (aj _) () xs hx x Xq),
  λxs hx x Xq=>oF (qP iP (bY z.q0 z.B.m2) (AJ z.q1 z.B.b2 (aj _)) (aj _) () xs hx x Xq),
  λxs hx x Xq=>oF (qP iL (bY z.q0 l0) (AJ z.q1 l1 (aj _)) (aj _) () xs hx x Xq)]
end
inductive EW (K:Xn) (C:Addr) (vs:List V) (H:Hp) (Q:VK) (E9:XK):Prop
 | mk (x r:Addr) (w:Nat) (H0 H1:Hp) (mv pt lk rows inv:Xo):vs=[.ref x,.ref r]->kU K H0 H C x mv pt lk->eO mv pt lk->aP K H1 H r rows->yE rows mv.9->vY (pC (aO rows mv.9) (bT mv.9)) (mv.9+mv.9) w →
   (∀R ps,aD (pC (aO rows mv.9) (bT mv.9)) (mv.9+mv.9) R ps->ps=Vt mv.9/\R.11 (λxs=>xs.47 mv.9)=inv)->yE inv mv.9->QV mv pt lk rows inv →
   (∀z H',aE H H'->kU K H H' C z (Ab inv mv rows mv.9) (Im inv pt) (lk.11 λxs=>rows.11 λr=>cS r xs)->Q (.ref z) H')->EW K C vs H Q E9
inductive JL (K:Xn) (vs:List V) (H:Hp) (Q:VK) (E9:XK):Prop
 | mk (p:Addr) (n:Nat) (H0:Hp) (R:Xo) (ps:List Nat):vs=[.ref p,.int n]->aP K H0 H p R->R.9<=100->n<=100->(∃rows,aD rows n R ps)->(∀r H',H r=none->aE H H'->aP K H H' r ((dD ps n).11 λa=>jX n ((a:Nat):Int))->Q (.ref r) H')->JL K vs H Q E9
inductive JC (K:Xn) (C:Addr) (vs:List V) (H:Hp) (Q:VK) (E9:XK):Prop
 | mk (x:Addr) (a c:Nat) (H0:Hp) (mv pt lk:Xo):vs=[.ref x]->kU K H0 H C x mv pt lk->eO mv pt lk->jN mv pt a c->(∀t l R ps H',aD (Xt mv pt mv.9) mv.9 R ps->H l=none->aE H H'->H' t=some (.tup [.ref l,.int ps.9])->aP K H H' l (kE R ps mv.9)->Q (.ref t) H')->JC K C vs H Q E9
inductive Jw (K:Xn) (vs:List V) (H:Hp) (Q:VK) (E9:XK):Prop
 | mk (n a:Nat):vs=[.int n,.int a]->n<=100->(∀r H',H r=none->aE H H'->dI K H' r (jX n ((a:Nat):Int))->Q (.ref r) H')->Jw K vs H Q E9
theorem oh {f:Nat->Rat}:∀k,aV (k+1) f=f 0+aV k λi=>f (i+1)
 | 0=>by change (0:Rat)+f 0=f 0+0;grind
 | k+1=>by
  change aV (k+1) f+f (k+1)=_
  rw[oh k];change _=f 0+(aV k (λi=>f (i+1))+f (k+1))
  grind
theorem EL:∀{n:Nat} {f:Nat->Rat},aV n (λc=>f (n - 1 - c))=aV n f
 | 0,_=>rfl
 | n+1,f=>by
  rw[oh (f:=λc=>f (n+1 - 1 - c))];change f (n+1 - 1 - 0)+aV n (λc=>f (n+1 - 1 - (c+1)))=aV n f+f n
  rw[ay (g:=λc=>f (n - 1 - c)) λc hc=>by rw[show n+1 - 1 - (c+1)=n - 1 - c by lia],EL (n:=n) (f:=f)];change f n+_=_
  grind
theorem TR (hw:∀xs∈rows,xs.9=n) (hc:c < n):a7 (rows.11 Wp) i c=a7 rows i (n - 1 - c):=by
 rcases aY i rows.9 with hi | hi
 ·have w:=hw _ (aG hi);rw[Af (ae hi),iK (ae hi),aa,List.getElem?_reverse (),aa,w]
 ·unfold a7;rw[aa (l:=V9 _ rows),aJ (by rw[af];show hi),aa (l:=rows),aJ hi];show List.getD_nil.trans List.getD_nil.symm
theorem Ou (RR:aD rows n R ps) (RN:aD (aL R ps n) n U pu) (ht:t < pu.9) (hi:i < rows.9):(aV n λc=>a7 rows i c*a7 U t c)=0:=by
 obtain w|hw:=RR.2.2.span i hi;have _X:t < U.9:=by rw[RN.1];show ht
 have wu:=RN.2.1 _ (aG _X)
 have k:∀j,j < ps.9->(aV n λc=>a7 R j c*a7 U t c)=0:=λj hj=>by
  have Yb:j < R.9:=by rw[RR.1];show hj
  have wr:=RR.2.1 _ (aG Yb);have d:=Hu RR RN _ (aG _X) _ (aG Yb);rw[cD (),wu] at d;refine Eq.trans (ay λc _=>?_) d;rw[iK (ae Yb),iK (ae _X),cf]
 rw[ay (g:=λc=>aV ps.9 λj=>w j*(a7 R j c*a7 U t c)) λc _=>by
  rw[hw c,cf,<- bK];show ay λj _=>by grind,cT]
 show bJ λj hj=>by rw[bK,k j hj,bB]
theorem EG (hw:∀xs∈rows,xs.9=n) (RR:aD rows n R ps) (RN:aD (aL R ps n) n U pu) (RV:aD (rows.11 Wp) n R' Xx) (ht:t < pu.9) (hj:j < Xx.9):(aV n λc=>a7 R' j (n - 1 - c)*a7 U t c)=0:=by
 obtain w|e:=RV.2.2.56 j hj;rw[af] at e
 rw[ay (g:=λc=>aV rows.9 λi=>w i*(a7 rows i c*a7 U t c)) λc hc=>by
  rw[e (n - 1 - c),cf,<- bK];show ay λi _=>by rw[TR hw (),show n - 1 - (n - 1 - c)=c by lia];grind,cT]
 show bJ λi hi=>by rw[bK,Ou RR RN ht hi,bB]
theorem EH (hw:∀xs∈rows,xs.9=n) (RR:aD rows n R ps) (RN:aD (aL R ps n) n U pu) (RV:aD (rows.11 Wp) n R' Xx) (ht:t < pu.9) (hj:j < Xx.9):pu.3 t 0≠n - 1 - Xx.3 j 0:=λe=>by
 have lo:=RN.2.2.52 t ht;have lv:=RV.2.2.52 j hj;have k:=EG hw RR RN RV ht hj;rw[cx lo λc hc ne=>?_] at k
 ·have u1:=RN.2.2.32 t ht t ht;have u2:=RV.2.2.32 j hj j hj;rw[if_pos rfl] at u1 u2;rw[u1,e,show n - 1 - (n - 1 - Xx.3 j 0)=Xx.3 j 0 by lia,u2,fE] at k;show absurd k ()
 ·rcases aY c (pu.3 t 0) with h | h
  ·rw[RN.2.2.lead t ht c h,bB]
  ·rw[RV.2.2.lead j hj (n - 1 - c) (),df]
theorem Qb (hw:∀xs∈rows,xs.9=n) (RR:aD rows n R ps) (RN:aD (aL R ps n) n U pu) (RV:aD (rows.11 Wp) n R' Xx) (ha:a < n) (hp:a∉Xx):∃s,s < pu.9/\pu.3 s 0=n - 1 - a:=by
 have dead:∀i,i < rows.9->(aV n λc=>a7 rows i c*(if c < n then (sW R' Xx n a).3 (n - 1 - c) 0 else 0))=0:=λi hi=>by
  have w:=hw _ (aG hi);have d:=xC RV ha hp (i:=i) (row:=rows[i].reverse) (by rw[az,ae hi];rfl) (by rw[tw];show w);rw[cD (by rw[tw,w];show iF.symm),tw,w] at d;rw[<- EL] at d;refine Eq.trans (ay λc hc=>?_) d;rw[if_pos hc,iK (ae hi),aa (l:=rows[i].reverse),List.getElem?_reverse (),w,show n - 1 - (n - 1 - c)=c by lia,<- aa]
 have sp:=BQ RR (x:=λc=>if c < n then (sW R' Xx n a).3 (n - 1 - c) 0 else 0) (λc hc=>if_neg ()) λj hj=>by
  obtain w|e:=RR.2.2.56 j hj
  rw[ay (g:=λc=>aV rows.9 λi=>w i*(a7 rows i c*(if c < n then (sW R' Xx n a).3 (n - 1 - c) 0 else 0))) λc hc=>by
   rw[e c,cf,<- bK];show ay λi _=>by grind,cT]
  show bJ λi hi=>by rw[bK,dead i hi,bB]
 refine RN.2.2.X9 (dE.trans (λt ht=>RN.2.2.span t ht) sp) (c:=n - 1 - a) ?_ λc hc=>?_
 ·change (if n - 1 - a < n then _ else _)≠(0:Rat)
  rw[if_pos (),show n - 1 - (n - 1 - a)=a by lia,mU ha hp,if_pos rfl];decide
 ·change (if c < n then _ else _)=(0:Rat)
  rw[if_pos ()];by_cases q:n - 1 - c∈Xx
  ·obtain j|hj|e:=aN q;have ej:Xx.3 j 0=n - 1 - c:=by rw[aa,ae hj,e];rfl
   rw[<- ej,J0 RV hj hp,RV.2.2.lead j hj a ()];grind
  ·rw[mU () q,if_neg ()]
theorem Tj (hw:∀xs∈rows,xs.9=n) (RR:aD rows n R ps) (RN:aD (aL R ps n) n U pu) (RV:aD (rows.11 Wp) n R' Xx) (qW:q<=W) (tR:∀xs∈R',∀x∈xs,Tp q W x):∀xs∈U,∀x∈xs,Tp q W x:=DH λt ht c=>by
 rw[RN.1] at ht;rcases aY c n with hc | hc
 ·by_cases hp:n - 1 - c∈Xx
  ·obtain j|hj|e:=aN hp;have ej:Xx.3 j 0=n - 1 - c:=by rw[aa,ae hj,e];rfl
   have ap:=EH hw RR RN RV ht hj;rw[ej,show n - 1 - (n - 1 - c)=c by lia] at ap;have k:=EG hw RR RN RV ht hj;have u1:=RV.2.2.32 j hj j hj;rw[if_pos rfl,ej] at u1;have lo:=RN.2.2.52 t ht;rw[ay (g:=λd=>(if d=c then a7 U t c else 0)+(if d=pu.3 t 0 then a7 R' j (n - 1 - pu.3 t 0) else 0)) λd hd=>?_,jm,cx hc λd _ ne=>if_neg ne,if_pos rfl,cx lo λd _ ne=>if_neg ne,if_pos rfl] at k
   ·rw[show a7 U t c=-(a7 R' j (n - 1 - pu.3 t 0)) by grind];show (Qd tR _ _).neg
   ·by_cases dc:d=c
    ·subst dc;rw[if_pos rfl,if_neg (λz=>ap z.20),u1,iq,tI]
    ·rw[if_neg dc,yT];by_cases dp:n - 1 - d∈Xx
     ·obtain l|hl|el':=aN dp;have el:Xx.3 l 0=n - 1 - d:=by rw[aa,ae hl,el'];rfl
      have u2:=RV.2.2.32 j hj l hl;rw[if_neg (λz=>dc (by rw[<- z,ej] at el;lia)),el] at u2;have ap2:=EH hw RR RN RV ht hl;rw[u2,df,if_neg (λz=>ap2 (by rw[el];lia))]
     ·obtain s|hs|es:=Qb hw RR RN RV (a:=n - 1 - d) () dp;rw[show n - 1 - (n - 1 - d)=d by lia] at es;have u3:=RN.2.2.32 t ht s hs;rw[es] at u3;rw[u3];by_cases ts:t=s
      ·subst ts;rw[if_pos rfl,if_pos es.20,es,fE]
      ·rw[if_neg ts,bB,if_neg (λz=>ts (C4 RN ht hs (by rw[es,z])))]
  ·obtain s|hs|es:=Qb hw RR RN RV (a:=n - 1 - c) () hp;rw[show n - 1 - (n - 1 - c)=c by lia] at es;have u3:=RN.2.2.32 t ht s hs;rw[es] at u3;rw[u3]
   split
   ·show #[q,by rw[iq,aW],by simpa using qW]
   ·show Tp.zero
 ·rw[jg RN.2.1 hc];show Tp.zero
def yn (U:Xo) (pu:List Nat) (n:Nat):Xo:=((dD pu n).11 λa=>jX n ((a:Nat):Int))++U
def AN (U:Xo) (pu:List Nat) (n:Nat):Xo:=aL U pu n++pu.11 λa=>jX n ((a:Nat):Int)
theorem Qu (RN:aD rows n U pu) (ht:t < (dD pu n).9):a7 (yn U pu n) t c=a7 (kE U pu n) (pu.9+t) c:=by
 unfold yn kE;rw[tK (by rw[af];show ht),<- RN.1,pH]
theorem Qt (RN:aD rows n U pu) (hj:j < pu.9):a7 (yn U pu n) ((dD pu n).9+j) c=a7 (kE U pu n) j c:=by
 unfold yn kE;have:=pH (X:=(dD pu n).11 λa=>jX n ((a:Nat):Int)) (Y:=U) (i:=j);rw[af] at this;rw[this,tK (by rw[RN.1];show hj)]
theorem Qs (ht:t < (dD pu n).9):a7 (AN U pu n) t c=a7 (stC U pu n) (pu.9+t) c:=by
 unfold AN stC;have:=pH (X:=pu.11 λa=>jX n ((a:Nat):Int)) (Y:=aL U pu n) (i:=t);rw[af] at this;rw[tK (by unfold aL;rw[af];show ht),this]
theorem Qr (hj:j < pu.9):a7 (AN U pu n) ((dD pu n).9+j) c=a7 (stC U pu n) j c:=by
 unfold AN stC;have:=pH (X:=aL U pu n) (Y:=pu.11 λa=>jX n ((a:Nat):Int)) (i:=j);rw[show (aL U pu n).9=(dD pu n).9 by unfold aL;rw[af]] at this;rw[this,tK (by rw[af];show hj)]
theorem JR:xs∈yn U pu n↔xs∈kE U pu n:=by unfold yn kE;rw[ao,ao,Or.comm]
theorem JQ:xs∈AN U pu n↔xs∈stC U pu n:=by unfold AN stC;rw[ao,ao,Or.comm]
theorem CJ (RN:aD rows n U pu):yE (yn U pu n) n:=by
 have h:=oi RN;refine #[?_,λxs hx=>h.2 xs (JR.mp hx)];have:=h.1;unfold kE at this;unfold yn;rw[ai] at this ⊢
 lia
theorem uY (RN:aD rows n U pu):yE (AN U pu n) n:=by
 have h:=mQ RN;refine #[?_,λxs hx=>h.2 xs (JQ.mp hx)];have:=h.1;unfold stC at this;unfold AN;rw[ai] at this ⊢
 lia
theorem TM (RN:aD rows n U pu):LO (AN U pu n) (aO (yn U pu n) n) n:=λi hi k hk=>by
 have cn:=vL RN
 have key:∀x,x < n->∃y,y < n/\(∀c,a7 (AN U pu n) x c=a7 (stC U pu n) y c)/\(∀c,a7 (yn U pu n) x c=a7 (kE U pu n) y c)/\y=if x < (dD pu n).9 then pu.9+x else x - (dD pu n).9:=λx hx=>by
  rcases aY x (dD pu n).9 with h | h
  ·show #[pu.9+x,(),λc=>Qs h,λc=>Qu RN h,by rw[if_pos h]]
  ·obtain j|rfl:=nY h;show #[j,(),λc=>Qr (),λc=>Qt RN (),by rw[if_neg ()];lia]
 obtain i'|c!|ci|_|ei:=key i hi;obtain k'|hk'|_|bk|ek:=key k hk;have:=Qq RN i' c! k' hk';rw[ay (g:=λj=>a7 (stC U pu n) i' j*a7 (aO (kE U pu n) n) j k') λj hj=>by rw[jh hj,jh hj,ci,bk],this];by_cases e:i=k
 ·subst e;rw[if_pos (by rw[ei,ek]),if_pos rfl]
 ·rw[if_neg e,if_neg];rw[ei,ek]
  split <;> split <;> lia
theorem TL (RN:aD rows n U pu):LO (aO (yn U pu n) n) (AN U pu n) n:=λi hi k hk=>by
 have cn:=vL RN;rw[<- Qp RN i hi k hk];rw[ay (g:=λj=>a7 (yn U pu n) j i*a7 (AN U pu n) j k) λj _=>by rw[jh hi]];rw[ay (f:=λj=>a7 (aO (kE U pu n) n) i j*a7 (stC U pu n) j k) (g:=λj=>a7 (kE U pu n) j i*a7 (stC U pu n) j k) λj _=>by rw[jh hi]]
 have s1:aV n (λj=>a7 (yn U pu n) j i*a7 (AN U pu n) j k)=aV (dD pu n).9 (λj=>a7 (yn U pu n) j i*a7 (AN U pu n) j k)+aV pu.9 λt=>a7 (yn U pu n) ((dD pu n).9+t) i*a7 (AN U pu n) ((dD pu n).9+t) k:=by
  rw[<- nF,show (dD pu n).9+pu.9=n by lia]
 have s2:aV n (λj=>a7 (kE U pu n) j i*a7 (stC U pu n) j k)=aV pu.9 (λj=>a7 (kE U pu n) j i*a7 (stC U pu n) j k)+aV (dD pu n).9 λt=>a7 (kE U pu n) (pu.9+t) i*a7 (stC U pu n) (pu.9+t) k:=by
  rw[<- nF,show pu.9+(dD pu n).9=n by lia]
 rw[s1,s2,ay (k:=(dD pu n).9) λt ht=>by rw[Qu RN ht,Qs ht],ay (k:=pu.9) λj hj=>by rw[Qt RN hj,Qr hj],Rat.add_comm]
theorem Rp (RN:aD rows n U pu) (h:aD (pC (aO (yn U pu n) n) (bT n)) (n+n) R' Xx):Xx=Vt n/\R'.11 (λxs=>xs.47 n)=AN U pu n:=by
 have J:=Fy (oZ (CJ RN)) (uY RN) (TM RN) (TL RN);obtain rfl|rfl:=h.10 J;show #[rfl,Kf wo (uY RN).1]
section
variable {M1 M2 V a1 a2 c q E N w n:Nat}
theorem U9 (z:Kv mv pt lk U M1 M2 V a1 a2 c q E) (n8:mv.9<=8) (hB:yE B mv.9) (hC:yE C mv.9) (tb:∀xs∈B,∀x∈xs,Tp q (2^E) x) (tc:∀xs∈C,∀x∈xs,Tp q (2^E) x):QV mv pt lk B C/\vY (pC (aO B mv.9) (bT mv.9)) (mv.9+mv.9) E:=by
 have e1:=z.e1;have e3:=z.e3;have v1:=z.B.v1;have gb:GF q (2^E) B:=λxs hx x Xq=>(tb xs hx x Xq).fr z.q0
 have gc:GF q (2^E) C:=λxs hx x Xq=>(tc xs hx x Xq).fr z.q0
 have im:GF (M1*q) (2^(c+E)) (iC C mv mv.9):=nk (vK gc z.B.gm) (by
  rw[<- b9,bg];show ax _ (ag (ax _ (i8 _ 4)) z.B.vc))
 have m0:0 < M1*q:=bY z.B.m1 z.q0;have m1:M1*q<=2^(a1+E):=AJ z.B.b1 z.q1 (aj _)
 have iM:GF (q*(M1*q)) (2^(3+E+(c+E))) (Ab C mv B mv.9):=nk (vK im (lQ gb)) (by
  rw[b7,<- b9,bg 2 (3+E)];show ax _ (AJ (i:=3) () (aj _) (aj _)))
 have iP:GF (q*M2) (2^(c+E)) (Im C pt):=nk (FA gc z.B.gp hC.2) (by
  rw[cw (2^E),<- b9,bg];show ax _ (ag (ax _ (i8 _ 4)) z.B.vc))
 obtain M3|V3|l0|l1|l2|lg:=z.lf;have iL:GF (q*M3) (2^(3+(E+100000))) (lk.11 λxs=>B.11 λr=>cS r xs):=nk (FA gb lg hB.2) (AJ (i:=3) () (AJ (aj _) l2 (aj _)) (aj _))
 refine #[#[λxs hx ys hy=>#[_,_,_,_,gs (lQ z.B.gm) z.B.m1 z.B.b1 v1 ys hy,gs gc z.q0 z.q1 (aj _) xs hx,()],
  λxs hx ys hy=>#[_,_,_,_,gs (lQ (lQ gb)) z.q0 z.q1 (aj _) ys hy,gs im m0 m1 (aj _) xs hx,()],
  λys hy xs hx=>#[_,_,_,_,gs gc z.q0 z.q1 (aj _) xs hx,gs z.B.gp z.B.m2 z.B.b2 v1 ys hy,()],
  λys hy xs hx=>#[_,_,_,_,gs gb z.q0 z.q1 (aj _) xs hx,gs lg l0 l1 l2 ys hy,()],
  λxs hx x Xq=>oF (qP iM (bY z.q0 m0) (AJ z.q1 m1 (aj _)) (aj _) () xs hx x Xq),
  λxs hx x Xq=>oF (qP iP (bY z.q0 z.B.m2) (AJ z.q1 z.B.b2 (aj _)) (aj _) () xs hx x Xq),
  λxs hx x Xq=>oF (qP iL (bY z.q0 l0) (AJ z.q1 l1 (aj _)) (aj _) () xs hx x Xq)],?_]
 show Nf (M:=q) (oZ hB) () z.q0 z.q1 () (CB tb) z.e2
theorem Cz (B:Bd A lk M1 M2 V a1 a2 c) (D:eO A lk pk) (hn:A.9<=N) (N8:N<=8) (h1:a1*(N - 1)+a2+c*N<=w) (h2:N*(w+4)<=E) (h6:w<=4000000) (h7:E<=8900000) (RR:aD (Xt A lk A.9) A.9 R ps) (RN:aD (aL R ps A.9) A.9 U pu):∃q,0 < q/\q<=2^E/\∀xs∈U,∀x∈xs,Tp q (2^E) x:=by
 obtain p0|p1|t:=SY B D hn h1;have wk:=dO rfl D.pw A.9
 have wr:∀xs∈(Xt A lk A.9).11 Wp,xs.9=A.9:=λxs hx=>by
  obtain ys|hy|rfl:=au.mp hx;rw[tw];show wk ys hy
 have q3:min ((Xt A lk A.9).11 Wp).9 A.9*(w+4)<=N*(w+4):=ax _ ()
 have S:vY ((Xt A lk A.9).11 Wp) A.9 w:=#[_,2^w,p0,ag p1 (ak () ()),bu,aj _,λxs hx x Xq=>by
  obtain ys|hy|rfl:=au.mp hx;show t ys hy x (List.mem_reverse.mp Xq),(),(),()]
 obtain R'|Xx|_|_|X:=xn wr S;obtain _|q|q0|q1|tq:=Fc wr S X.rr;have up:(2:Nat)^(min ((Xt A lk A.9).11 Wp).9 A.9*(w+4))<=2^E:=ak () ();show #[q,q0,ag q1 up,Tj wk RR RN X.rr (ag q1 up) λxs hx x Xq=>(tq xs hx x Xq).22 up]
theorem Q1 (h:Rg A lk w) (D:eO A lk pk) (RR:aD (Xt A lk A.9) A.9 R ps) (RN:aD (aL R ps A.9) A.9 U pu):∃q E,0 < q/\q<=2^E/\E<=928/\(9 < w->E<=620)/\∀xs∈U,∀x∈xs,Tp q (2^E) x:=by
 rcases h with ⟨w9,B⟩ | ⟨w9,n5,B⟩ | ⟨w9,n2,M1,M2,B⟩
 ·obtain q|a|b|t:=Cz (N:=8) (w:=112) (E:=928) B D D.n8 () () () () () RR RN;show #[q,_,a,b,(),(),t]
 ·obtain q|a|b|t:=Cz (N:=5) (w:=140) (E:=720) B D n5 () () () () () RR RN;show #[q,_,a,b,(),(),t]
 ·obtain q|a|b|t:=Cz (N:=2) (w:=306) (E:=620) B D n2 () () () () () RR RN;show #[q,_,a,b,(),λ_=>(),t]
end
def OH (K:Xn):Sp:=λvs H Q _=>∃b:Addr,vs=[.ref b]/\jW H b /\
 ∀t r (w:Nat) mv pt lk H',H' t=some (.tup [.ref r,.int w])->gV K H H' r mv pt lk->eO mv pt lk->N6 mv pt lk->Rg mv pt w->Rg (aO mv mv.9) lk w->1<=w->w<=1000->jW H' b->de b H H'->Q (.ref t) H'
inductive JF (K:Xn) (vs:List V) (H:Hp) (Q:VK) (E9:XK):Prop
 | mk (r a:Addr) (H0:Hp) (mv pt lk:Xo) (z:List Rat):vs=[.ref r,.ref a]->gV K H0 H r mv pt lk->eO mv pt lk->dI K H a z->z.9=mv.9->(∀ys∈aO mv mv.9,v9 ys z)->(∀q H',H q=none->aE H H'->dI K H' q ((aO mv mv.9).11 λys=>cS ys z)->Q (.ref q) H')->JF K vs H Q E9
inductive JA (K:Xn) (vs:List V) (H:Hp) (Q:VK) (E9:XK):Prop
 | mk (r:Addr) (T:Nat) (H0:Hp) (mv pt lk:Xo):vs=[.ref r,.int T]->T<=20->gV K H0 H r mv pt lk->eO mv pt lk->QW (aO mv mv.9) lk T->(∀q H',H q=none->aE H H'->aP K H H' q (Xt (aO mv mv.9) lk T)->Q (.ref q) H')->JA K vs H Q E9
theorem HE:∀{l1 l2:List Nat},l1.Pairwise (· < ·)->l2.Pairwise (· < ·)->(∀x,x∈l1↔x∈l2)->l1=l2
 | [],[],_,_,_=>rfl
 | [],b :: u,_,_,h=>absurd ((h b).mpr (cC ..)) (by simp)
 | a :: t,[],_,_,h=>absurd ((h a).mp (cC ..)) (by simp)
 | a :: t,b :: u,h1,h2,h=>by
  rw[List.pairwise_cons] at h1 h2
  have ab:a=b:=by
   rcases aF.mp ((h a).mp (cC ..)) with e | e
   ·show e
   ·rcases aF.mp ((h b).mpr (cC ..)) with e' | e'
    ·show e'.20
    ·have:=h2.1 a e;have:=h1.1 b e'
     lia
  subst ab;rw[HE h1.2 h2.2 λx=>#[λhx=>?_,λhx=>?_]]
  ·rcases aF.mp ((h x).mp (bP _ hx)) with e | e
   ·have:=h1.1 x hx;lia
   ·show e
  ·rcases aF.mp ((h x).mpr (bP _ hx)) with e | e
   ·have:=h2.1 x hx;lia
   ·show e
theorem Uw (RR:aD rows n R ps):dD (dD ps n) n=ps:=by
 refine HE (List.Pairwise.filter _ List.pairwise_lt_range) (mD.mpr λi j hi hj h=>?_) λx=>?_
 ·have:=RR.2.2.inc i j h hj;rwa [aa,aa,ae hi,ae hj] at this
 ·rw[ko,ko];constructor
  ·rintro ⟨h1,h2⟩;show Wk λz=>h2 #[h1,z]
  ·intro h;obtain j|hj|e:=aN h;have:=RR.2.2.52 j hj;rw[aa,ae hj] at this;show #[by rw[<- e];show this,λz=>z.2 h]
def Vh (K:Xn) (H:Hp) (fl:Addr) (H':Hp) (qs:List Rat) (x:V):Prop:=∃q,x=V.ref q/\H q=none/\q≠fl/\dI K H' q qs
inductive Jv (K:Xn) (vs:List V) (H:Hp) (Q:VK) (E9:XK):Prop
 | mk (r:Addr) (S:Nat) (H0:Hp) (mv pt lk:Xo):vs=[.ref r]->gV K H0 H r mv pt lk->eO mv pt lk->QW (aO mv mv.9) lk mv.9->N7 (Xt (aO mv mv.9) lk mv.9) mv.9 S->(∀R ps,aD (Xt (aO mv mv.9) lk mv.9) mv.9 R ps->∃S',N7 (aL R ps mv.9) mv.9 S')->(∀q R ps U pu H',aD (Xt (aO mv mv.9) lk mv.9) mv.9 R ps->aD (aL R ps mv.9) mv.9 U pu->H q=none->aE H H'->aP K H H' q U->Q (.ref q) H')->Jv K vs H Q E9
def iN (m:Nat) (rows:Xo):Xo:=rows.11 λxs=>xs.21 m
theorem An (D:eO mv pt lk) (h:m<=mv.9):eO (iN m (mv.21 m)) (iN m pt) (iN m lk):=by
 have l:(iN m (mv.21 m)).9=m:=by unfold iN;rw[af,bU];lia
 have n8:=D.n8;refine #[(),by unfold iN;rw[af];show D.i4,by unfold iN;rw[af];show D.o4,λxs hx=>?_,λxs hx=>?_,λxs hx=>?_]
 ·obtain ys|hy|rfl:=au.mp hx;rw[l,bU,D.mw ys (b6 hy)]
  lia
 ·obtain ys|hy|rfl:=au.mp hx;rw[l,bU,D.pw ys hy]
  lia
 ·obtain ys|hy|rfl:=au.mp hx;rw[l,bU,D.lw ys hy]
  lia
theorem IM (h:tO rows):tO (iN m rows):=λxs hx x Xq=>by
 obtain ys|hy|rfl:=au.mp hx;show h ys hy x (b6 Xq)
theorem Oy (h:tO rows):tO (rows.21 m):=λxs hx=>h xs (b6 hx)
inductive JM (K:Xn) (vs:List V) (H:Hp) (Q:VK) (E9:XK):Prop
 | mk (p:Addr) (m:Nat) (H0:Hp) (rows:Xo):vs=[.ref p,.int m]->aP K H0 H p rows->rows.9<=100->(∀xs∈rows,m<=xs.9)->(∀r H',H r=none->aE H H'->aP K H H' r (iN m rows)->Q (.ref r) H')->JM K vs H Q E9
structure Vl (K:Xn) (H0 H1 H:Hp) (C x l:Addr) (w m:Nat) (mv pt lk rows inv:Xo):Prop where
 S:kU K H0 H C x mv pt lk
 D:eO mv pt lk
 G:aP K H1 H l rows
 hR:yE rows mv.9
 sw:vY (pC (aO rows mv.9) (bT mv.9)) (mv.9+mv.9) w
 iv:∀R ps,aD (pC (aO rows mv.9) (bT mv.9)) (mv.9+mv.9) R ps->ps=Vt mv.9/\R.11 (λxs=>xs.47 mv.9)=inv
 hi:yE inv mv.9
 F:QV mv pt lk rows inv
 mn:m<=mv.9
inductive JE (K:Xn) (C:Addr) (vs:List V) (H:Hp) (Q:VK) (E9:XK):Prop
 | mk (x t l:Addr) (w m:Nat) (H0 H1:Hp) (mv pt lk rows inv:Xo):vs=[.ref x,.ref t]->H t=some (.tup [.ref l,.int m])->Vl K H0 H1 H C x l w m mv pt lk rows inv->(∀z H',aE H H'->kU K H H' C z (iN m ((Ab inv mv rows mv.9).21 m)) (iN m (Im inv pt)) (iN m (lk.11 λxs=>rows.11 λr=>cS r xs))->Q (.ref z) H')->JE K C vs H Q E9
theorem Oz {l:List Rat} (h:i < m):(l.21 m).3 i 0=l.3 i 0:=by
 rw[aa,fB h,<- aa]
theorem PN (hj:j < m):a7 (iN m rows) i j=a7 rows i j:=by
 unfold iN a7;rw[aa (l:=V9 _ rows),az,aa (l:=rows)];cases rows[i]? with
 | none=>rfl
 | some ys=>show Oz hj
theorem Jk (hi:i < m):a7 (rows.21 m) i j=a7 rows i j:=by
 unfold a7;rw[aa (l:=List.take m rows),fB hi,<- aa]
inductive Jy (K:Xn) (C:Addr) (vs:List V) (H:Hp) (Q:VK) (E9:XK):Prop
 | mk (x:Addr) (a c:Nat) (H0:Hp) (mv pt lk:Xo):vs=[.ref x]->kU K H0 H C x mv pt lk->eO mv pt lk->jN mv pt a c->(∀R ps,aD (Xt mv pt mv.9) mv.9 R ps->QV mv pt lk (kE R ps mv.9) (stC R ps mv.9)/\∃w,vY (pC (aO (kE R ps mv.9) mv.9) (bT mv.9)) (mv.9+mv.9) w)->(∀z R ps H',aD (Xt mv pt mv.9) mv.9 R ps->aE H H'->kU K H H' C z (iN ps.9 ((Ab (stC R ps mv.9) mv (kE R ps mv.9) mv.9).21 ps.9)) (iN ps.9 (Im (stC R ps mv.9) pt)) (iN ps.9 (lk.11 λxs=>(kE R ps mv.9).11 λr=>cS r xs))->Q (.ref z) H')->Jy K C vs H Q E9
theorem Mj (wm:∀xs∈mv,xs.9=mv.9) (RR:aD rows0 mv.9 R ps) (hi:i < ps.9) (hj:j < ps.9):a7 (Ab (stC R ps mv.9) mv (kE R ps mv.9) mv.9) i j=aV mv.9 λc=>a7 mv (ps.3 i 0) c*a7 R j c:=by
 have le:=RR.le;have lo:=RR.2.2.52 i hi;rw[SG (mQ RR) #[rfl,wm] () ()];refine ay λc hc=>?_
 rw[Jr RR hj,cx lo λa ha ne=>by rw[y4 hi ha,if_neg ne,df],y4 hi lo,if_pos rfl,iq]
section
variable {M1 M2 V a1 a2 c q E m:Nat}
theorem F2 (hx:xs∈iN m rows) (hy:y∈xs):∃i j,i < rows.9/\j < m/\y=a7 rows i j:=by
 obtain ys|hz|rfl:=au.mp hx;obtain i|hi|rfl:=aN hz;obtain j|hj|rfl:=aN hy;have Yb:=hj;rw[bU] at Yb;show #[i,j,hi,(),by rw[iK (ae hi),List.getElem_take,aa,ae ()];rfl]
theorem Kv.Zv (z:Kv mv pt lk R M1 M2 V a1 a2 c q E) (D:eO mv pt lk) (RR:aD rows0 mv.9 R ps) (hl:∀y∈l,(∃xs∈iN ps.9 ((Ab (stC R ps mv.9) mv (kE R ps mv.9) mv.9).21 ps.9),y∈xs)\/(∃xs∈iN ps.9 (Im (stC R ps mv.9) pt),y∈xs)\/y=0):rF (a1+E+a2) (c+E) l:=by
 have le:=RR.le;have gR:GF q (2^E) R:=λxs hx x Xq=>(z.rt xs hx x Xq).fr z.q0
 have vE:mv.9*(V*2^E)<=2^(c+E):=by
  rw[<- b9,bg];show ax _ (ag (ax _ (i8 _ 4)) z.B.vc)
 refine #[M1*q*M2,2^(c+E),bY (bY z.B.m1 z.q0) z.B.m2,AJ (AJ z.B.b1 z.q1 (aj _)) z.B.b2 (aj _),aj _,λy hy=>?_];rcases hl y hy with ⟨xs,h1,h2⟩ | ⟨xs,h1,h2⟩ | rfl
 ·obtain i|j|hi|hj|rfl:=F2 h1 h2;rw[bU] at hi;rw[Jk (),Mj D.mw RR () hj];show ((Jo (M:=M1*q) (V:=V*2^E) mv.9 λc _=>(Iw z.B.gm).mul (Iw gR)).22 vE).dvd (Kz _ _)
 ·obtain i|j|hi|hj|rfl:=F2 h1 h2;unfold Im at hi;rw[af] at hi;have lo:=RR.2.2.52 j hj;rw[SE (mQ RR) D.pw hi (),cx lo λa ha ne=>by rw[y4 hj ha,if_neg ne,df],y4 hj lo,if_pos rfl,iq];show ((Iw z.B.gp).22 (ag z.B.v1 (ak () ()))).dvd (pL _ _)
 ·show Fr.zero
end
theorem Ao (hi:yE inv mv.9) (h:m<=mv.9):(iN m ((Ab inv mv rows mv.9).21 m)).9=m:=by
 unfold iN;rw[af,bU,vJ hi]
 lia
theorem NK:∀(n:Nat) (v:Nat->Nat->Rat),∃(k:Nat) (d:Nat->Rat),k<=n/\∀j,j < n->v k j=aV k λi=>d i*v i j
 | 0,_=>#[0,λ_=>0,aj _,λj hj=>absurd hj (fO _)]
 | n+1,v=>by
  by_cases h:∀j,j < n+1->v 0 j=0
  ·show #[0,λ_=>0,be _,λj hj=>h j hj]
  obtain j0|h:=Classical.not_forall.mp h;obtain lj|hz:=Classical.not_imp.mp h
  let r:Nat->Rat:=λi=>v (i+1) j0 / v 0 j0
  let u:Nat->Nat->Rat:=λi j=>v (i+1) j - r i*v 0 j
  obtain k|d|hk|e:=NK n λi j=>u i (if j=j0 then n else j)
  have rz:∀i,r i*v 0 j0=v (i+1) j0:=λi=>GV hz
  have all:∀j,j < n+1->u k j=aV k λi=>d i*u i j:=λj hj=>by
   by_cases e1:j=j0
   ·subst e1;have z:∀i,u i j=0:=λi=>by change v (i+1) j - r i*v 0 j=0;rw[rz];grind
    rw[z k,bJ λi _=>by rw[z i,bB]]
   ·by_cases e2:j=n
    ·have:=e j0 ();simp only[if_true] at this;rw[e2];show this
    ·have:=e j ();simp only[if_neg e1] at this;show this
  refine #[k+1,λi=>if i=0 then r k - aV k (λi=>d i*r i) else d (i - 1),(),λj hj=>?_];have:=all j hj;rw[oh];simp only[if_true,Nat.add_one_ne_zero,if_false,GW]
  have e3:(aV k λi=>d i*u i j)=(aV k λi=>d i*v (i+1) j) - (aV k λi=>d i*r i)*v 0 j:=by
   have e4:(aV k λi=>d i*u i j)=aV k λi=>d i*v (i+1) j+(- v 0 j)*(d i*r i):=ay λi _=>by change d i*(v (i+1) j - r i*v 0 j)=_;grind
   rw[e4,jm,bK];grind
  rw[e3] at this;have e5:u k j=v (k+1) j - r k*v 0 j:=rfl;rw[e5] at this;grind
def Vk (k:Nat) (f:Nat->Nat->Rat):Prop:=∀w:Nat->Rat,(∀c,(aV k λt=>w t*f t c)=0)->∀t,t < k->w t=0
theorem Il {f g:Nat->Nat->Rat} (h:Vk k f) (s:∀i,i < k->dE m g (f i)):k<=m:=by
 refine Nat.le_of_not_lt λhm=>?_
 let A:Nat->Nat->Rat:=λi=>if h:i < k then Classical.choose (s i h) else λ_=>0
 have hA:∀i,i < k->∀c,f i c=aV m λt=>A i t*g t c:=λi hi c=>by
  have e:=Classical.choose_spec (s i hi) c;have e2:A i=Classical.choose (s i hi):=dif_pos hi;rw[e2];show e
 obtain j|d|hj|e:=NK m A;have jk:j < k:=()
 have z:=h (λt=>if t < j then d t else if t=j then -1 else 0) (λc=>?_) j jk
 ·simp only[dm,if_false,if_true] at z;show absurd z ()
 obtain ⟨r,rfl⟩:∃r,k=j+(r+1):=#[k - j - 1,()];rw[nF,oh,bJ (k:=r) λt _=>by rw[if_neg (),if_neg (),df],ay (k:=j) (g:=λt=>d t*f t c) λt ht=>by rw[if_pos ht]]
 rw[Nat.add_zero,if_neg (dm _),if_pos rfl,hA j () c,ay (k:=m) (g:=λt=>aV j λi=>d i*(A i t*g t c)) λt ht=>by
  rw[e t ht,cf,<- bK];show ay λi _=>by grind]
 rw[cT,ay (k:=j) (g:=λi=>aV m λt=>d i*(A i t*g t c)) λi hi=>by rw[hA i () c,bK]];grind
section
variable {rows R X Y:Xo} {ps pv:List Nat} {n k:Nat}
theorem Rw (RR:aD rows n R ps):Vk ps.9 (a7 R):=λw h t ht=>by
 have:=h (ps.3 t 0);rw[cx ht λj hj ne=>by rw[RR.2.2.32 j hj t ht,if_neg ne,bB],RR.2.2.32 t ht t ht,if_pos rfl,fE] at this;show this
def fD (X:Xo) (x:Nat->Rat):Prop:=dE X.9 (a7 X) x
def tL (X:Xo):Prop:=Vk X.9 (a7 X)
theorem qQ (hi:i < X.9):∃xs∈X,a7 X i=λc=>xs.3 c 0:=#[X[i],aG hi,funext λc=>by unfold a7;rw[aa (l:=X),ae hi];rfl]
theorem fD.row (h:xs∈X):fD X λc=>xs.3 c 0:=by
 obtain i|hi|rfl:=aN h;refine dE.congr (λc=>?_) (dE.row (a:=a7 X) hi);unfold a7;rw[aa (l:=X),ae hi];rfl
theorem fD.sub (h:∀xs∈X,fD Y λc=>xs.3 c 0) (hx:fD X x):fD Y x:=dE.trans (λt ht=>by
 obtain xs|hx|e:=qQ ht;rw[e];show h xs hx) hx
theorem aD.sp (RR:aD rows n R ps):fD R x↔fD rows x:=by
 unfold fD;rw[RR.1];show #[dE.trans λi hi=>RR.2.2.56 i hi,dE.trans λi hi=>RR.2.2.span i hi]
theorem aD.ind (RR:aD rows n R ps):tL R:=by
 unfold tL;rw[RR.1];show Rw RR
theorem fD.le (h:tL X) (s:∀xs∈X,fD Y λc=>xs.3 c 0):X.9<=Y.9:=Il h λi hi=>by
 obtain xs|hx|e:=qQ hi;rw[e];show s xs hx
theorem tL.rank (RR:aD X n R ps) (h:tL X):ps.9=X.9:=by
 rw[<- RR.1];show nB (fD.le RR.ind λxs hx=>RR.sp.mp (fD.row hx)) (fD.le h λxs hx=>RR.sp.mpr (fD.row hx))
theorem Fd (RR:aD rows n R ps) (X6:aD Yi n R' Xx) (h1:∀xs∈rows,fD R' λc=>xs.3 c 0) (h2:∀xs∈Yi,fD R λc=>xs.3 c 0):R=R'/\ps=Xx:=RR.uniq X6 (λi hi=>by
  obtain xs|hx|e:=qQ hi;rw[e];show X6.sp.mp (h1 xs hx)) λi hi=>by
  obtain xs|hx|e:=qQ hi;rw[e];show RR.sp.mp (h2 xs hx)
theorem Jn {w:Nat->Rat}:(aV (X++Y).9 λt=>w t*a7 (X++Y) t c)=(aV X.9 λt=>w t*a7 X t c)+aV Y.9 λt=>w (X.9+t)*a7 Y t c:=by
 rw[ai,nF];congr 1
 ·show ay λt ht=>by rw[tK ht]
 ·show ay λt _=>by rw[pH]
theorem Pu (h:∀w1 w2:Nat->Rat,(∀c,(aV X.9 λt=>w1 t*a7 X t c)+(aV Y.9 λt=>w2 t*a7 Y t c)=0)->(∀t,t < X.9->w1 t=0)/\∀t,t < Y.9->w2 t=0):tL (X++Y):=λw hw t ht=>by
 obtain a|b:=h w (λt=>w (X.9+t)) λc=>by rw[<- Jn];show hw c
 rw[ai] at ht;rcases aY t X.9 with z | z
 ·show a t z
 ·have:=b (t - X.9) ();rwa [show X.9+(t - X.9)=t by lia] at this
theorem PZ (h:tL (X++Y)) {w1 w2:Nat->Rat} (hw:∀c,(aV X.9 λt=>w1 t*a7 X t c)+(aV Y.9 λt=>w2 t*a7 Y t c)=0):(∀t,t < X.9->w1 t=0)/\∀t,t < Y.9->w2 t=0:=by
 have:=h (λt=>if t < X.9 then w1 t else w2 (t - X.9)) λc=>by
  rw[Jn,<- hw c];congr 1
  ·show ay λt ht=>by rw[if_pos ht]
  ·show ay λt _=>by rw[if_neg (),UI]
 refine #[λt ht=>?_,λt ht=>?_]
 ·have:=this t (by rw[ai];lia);rwa [if_pos ht] at this
 ·have:=this (X.9+t) (by rw[ai];lia);rwa [if_neg (),UI] at this
theorem fD.sum {w:Nat->Rat}:fD X λc=>aV X.9 λt=>w t*a7 X t c:=#[w,λ_=>rfl]
theorem fD.far (hw:∀xs∈X,xs.9=n) (hx:fD X x) (hc:n<=c):x c=0:=by
 obtain w|e:=hx;rw[e c,bJ λt _=>by rw[jg hw hc,bB]]
def uu (X:Xo) (pv:List Nat):Xo:=pv.map λp=>X.3 p []
def Ku (X:Xo) (b:Nat) (pv:List Nat):Xo:=uu X (pv.filter λp=>decide (b<=p))
theorem Mt (hi:i < pv.length):a7 (uu X pv) i c=a7 X (pv.getD i 0) c:=by
 unfold a7 uu;rw[aa (l:=V9 _ _),az,ae hi,aa (l:=pv),ae hi];rfl
variable {T:Xo}
theorem JS (wX:∀xs∈X,xs.9=n) (RT:aD (aO X n) X.9 T pv) (c:Nat):a7 X p c=aV pv.length λi=>a7 T i p*a7 X (pv.getD i 0) c:=by
 rcases aY c n with hc | hc
 ·have:=RT.2.2.Yl (RT.2.2.span c (by rw[b7];show hc)) p;rw[jh hc] at this;rw[this];show ay λi _=>by rw[jh hc,cf]
 ·rw[jg wX hc,bJ λi _=>by rw[jg wX hc,bB]]
theorem OM (RT:aD (aO X n) X.9 T pv):tL (uu X pv):=λw h t ht=>by
 have lS:(uu X pv).9=pv.length:=af _;rw[lS] at h ht;obtain d|hd:=RT.2.2.56 t ht
 have e:(aV pv.length λi=>w i*a7 T t (pv.getD i 0))=w t:=by
  rw[cx ht λi hi ne=>by rw[RT.2.2.32 t ht i hi,if_neg (Wc ne),bB],RT.2.2.32 t ht t ht,if_pos rfl,fE]
 rw[<- e,ay (g:=λi=>aV (aO X n).9 λc=>d c*(w i*a7 (aO X n) c (pv.getD i 0))) λi _=>by
  rw[hd,<- bK];show ay λc _=>by grind]
 rw[cT];refine bJ λc hc=>?_
 rw[b7] at hc;rw[bK,<- bB (d c),<- h c];congr 1;show ay λi hi=>by rw[jh hc,Mt hi]
theorem HH (RT:aD (aO X n) X.9 T pv) (hp:p∈pv):p < X.9:=by
 obtain i|hi|rfl:=aN hp;have:=RT.2.2.52 i hi;rwa [aa,ae hi] at this
theorem Rv (wX:∀xs∈X,xs.9=n) (RT:aD (aO X n) X.9 T pv):fD (uu X pv) x↔fD X x:=by
 constructor
 ·refine fD.sub λxs hx=>?_
  obtain p|hp|rfl:=au.mp hx;show fD.row (getD_in (HH RT hp))
 ·refine dE.trans λp hp=>#[λi=>a7 T i p,λc=>?_]
  rw[JS wX RT c,show (uu X pv).9=pv.length from af _];show ay λi hi=>by rw[Mt hi]
theorem KQ (wX:∀xs∈A++B,xs.9=n) (IA:tL A) (RT:aD (aO (A++B) n) (A++B).9 T pv) (hp:p < A.9):p∈pv:=Wk λhn=>by
 have far:∀i,i < pv.length->A.9<=pv.getD i 0\/p<=pv.getD i 0->a7 T i p=0:=λi hi h=>by
  refine RT.2.2.lead i hi p ?_;have:pv.getD i 0≠p:=λz=>hn (by rw[<- z];show getD_in hi)
  change p < pv.getD i 0
  lia
 have z:=IA (λt=>(if t=p then 1 else 0) - aV pv.length λi=>if pv.getD i 0=t then a7 T i p else 0) (λc=>?_) p hp
 ·rw[if_pos rfl,bJ λi hi=>if_neg λe=>hn (by rw[<- e];show getD_in hi)] at z;grind
 have e:=JS wX RT (p:=p) c;rw[tK hp] at e
 rw[ay (g:=λt=>(if t=p then 1 else 0)*a7 A t c+(-1)*aV pv.length λi=>(if pv.getD i 0=t then a7 T i p else 0)*a7 A t c) λt _=>by
  rw[show (aV pv.length λi=>(if pv.getD i 0=t then a7 T i p else 0)*a7 A t c)=a7 A t c*aV pv.length λi=>if pv.getD i 0=t then a7 T i p else 0 by rw[<- bK];show ay λi _=>cf _ _];grind]
 rw[jm,bK,cx hp λt _ ne=>by rw[if_neg ne,df],if_pos rfl,iq,e,cT]
 rw[ay (k:=pv.length) (f:=λj=>aV A.9 λi=>(if pv.getD j 0=i then a7 T j p else 0)*a7 A i c) (g:=λi=>a7 T i p*a7 (A++B) (pv.getD i 0) c) λi hi=>by
  rcases aY (pv.getD i 0) A.9 with q | q
  ·rw[cx q λt _ ne=>by rw[if_neg (Wc ne),df],if_pos rfl,tK q]
  ·rw[bJ λt ht=>by rw[if_neg (),df],far i hi (.inl q),df]]
 grind
theorem KP (wX : ∀ xs ∈ A ++ B, xs.9 = n) (IA : tL A) (RT : aD (aO (A ++ B) n) (A ++ B).9 T pv) : uu (A ++ B) pv = A ++ Ku (A ++ B) A.9 pv := by
  have inc : pv.Pairwise (· < ·) := mD.mpr λi j hi hj h => by
    have := RT.2.2.inc i j h hj;rwa [aa, aa, ae hi, ae hj] at this
  have e : pv = Vt A.9 ++ pv.filter λp => decide (A.9 ≤ p) := by
    refine HE inc (List.pairwise_append.mpr #[List.pairwise_lt_range, inc.filter _, λa ha b hb => ?_]) λx => ?_
    · have := kC.mp ha;have := of_decide_eq_true (fP.mp hb).2
      lia
    · rw [ao, kC, fP];constructor
      · intro h;rcases aY x A.9 with q | q
        · show .inl q
        · show .inr #[h, decide_eq_true q]
      · rintro (h | h)
        · show KQ wX IA RT h
        · show h.1
  have eA : uu (A ++ B) (Vt A.9) = A := by
    change (Vt A.9).11 (λp => (A ++ B).3 p []) = A
    apply dQ (by rw [af, bG]);intro i h1 h2;rw [ja, GY, aa, cF h2, ae h2];rfl
  have sa : ∀ l1 l2 : List Nat, uu (A ++ B) (l1 ++ l2) = uu (A ++ B) l1 ++ uu (A ++ B) l2 := λl1 l2 => bH
  have := congrArg (uu (A ++ B)) e;rw [sa, eA] at this;show this
theorem F9 (wX:∀xs∈A++B,xs.9=n) (IA:tL A) (RT:aD (aO (A++B) n) (A++B).9 T pv):tL (A++Ku (A++B) A.9 pv)/\∀{x:Nat->Rat},fD (A++Ku (A++B) A.9 pv) x↔fD (A++B) x:=by
 rw[<- KP wX IA RT];show #[OM RT,Rv wX RT]
theorem oz (RT:aD (aO (A++B) n) (A++B).9 T pv):∀xs∈Ku (A++B) A.9 pv,xs∈B:=λxs hx=>by
 obtain p|hp|rfl:=au.mp hx;obtain h1|h2:=fP.mp hp;have q:=of_decide_eq_true h2;have:=HH RT h1;rw[ai] at this;rw[aa,bM q,ae ()];show aG _
end
theorem JG (RR:aD rows0 n R ps) (lx:x.9=n):fD R (λc=>x.3 c 0)↔∀z∈aL R ps n,cS z x=0:=by
 have R':=ig RR;constructor
 ·intro h z hz;obtain w|hw:=h
  dsimp only at hw
  obtain a|h1|h2|rfl:=kN hz;rw[cD (by rw[lx];show iF),show (sW R ps n a).9=n from iF]
  rw[ay (g:=λc=>aV R.9 λt=>w t*(a7 R t c*(sW R ps n a).3 c 0)) λc _=>by
   rw[hw c,<- bK];show ay λt _=>by grind]
  rw[cT];refine bJ λt ht=>?_
  rw[bK];have wr:=RR.2.1 _ (aG ht);have d:=xC R' h1 h2 (ae ht) wr;rw[cD (by rw[wr];show iF.symm),wr] at d;rw[ay (g:=λc=>R[t].3 c 0*(sW R ps n a).3 c 0) λc _=>by rw[iK (ae ht)],d,bB]
 ·intro h;obtain ws|lw|e:=K7 R' RR.2.1 lx h;refine #[λi=>ws.3 i 0,λc=>?_]
  dsimp only
  rcases aY c n with hc | hc
  ·rw[e,pN hc,lw]
  ·rw[aa,aJ (),bJ λt _=>by rw[jg RR.2.1 hc,bB]];rfl
theorem Ds (RR:aD rows0 n R ps) (lx:x.9=n):fD (aL R ps n) (λc=>x.3 c 0)↔∀r∈R,cS r x=0:=by
 constructor
 ·intro h r hr;have wr:=RR.2.1 r hr;obtain w|hw:=h
  dsimp only at hw
  rw[cD (by rw[lx,wr]),wr]
  rw[ay (g:=λc=>aV (aL R ps n).9 λt=>w t*(r.3 c 0*a7 (aL R ps n) t c)) λc _=>by
   rw[hw c,<- bK];show ay λt _=>by grind]
  rw[cT];refine bJ λt ht=>?_
  rw[bK];obtain z|hz|ez:=qQ ht;have wz:=fA z hz;have d:=MS (ig RR) RR.2.1 z hz r hr;rw[cD (by rw[wr,wz]),wr] at d;rw[ez,d,bB]
 ·intro h;refine BQ RR (λc hc=>?_) λj hj=>?_
  ·rw[aa,aJ ()];rfl
  ·have Yb:j < R.9:=by rw[RR.1];show hj
   have wr:=RR.2.1 _ (aG Yb);have d:=h _ (aG Yb);rw[cD (by rw[lx,wr]),wr] at d;show Eq.trans (ay λc _=>by rw[iK (ae Yb)]) d
theorem nG (RR:aD rows0 n R ps):tL (aL R ps n):=λw h t ht=>by
 have lN:(aL R ps n).9=(dD ps n).9:=by unfold aL;rw[af]
 have vN:∀t,t < (aL R ps n).9->∀c,a7 (aL R ps n) t c=(sW R ps n ((dD ps n).3 t 0)).3 c 0:=λt ht c=>J7 ()
 have ft:=FC (ps:=ps) (n:=n) (t:=t) ();have:=h ((dD ps n).3 t 0);rw[cx ht λj hj ne=>by rw[vN j hj,mU ft.1 ft.2,if_neg λe=>ne (DG () () e.20),bB],vN t ht,mU ft.1 ft.2,if_pos rfl,fE] at this;show this
theorem tF {X Y:Xo} (wX:∀xs∈X,xs.9=n) (wY:∀xs∈Y,xs.9=n) (lx:x.9=n) (h:∀xs∈X,fD Y λc=>xs.3 c 0) (h0:∀ys∈Y,cS ys x=0):∀xs∈X,cS xs x=0:=λxs hx=>by
 obtain w|hw:=h xs hx
 dsimp only at hw
 have wx:=wX xs hx
 rw[cD (),wx,ay (g:=λc=>aV Y.9 λt=>w t*(a7 Y t c*x.3 c 0)) λc _=>by
  rw[hw c,cf,<- bK];show ay λt _=>by grind]
 rw[cT];refine bJ λt ht=>?_
 obtain ys|hy|e:=qQ ht;have d:=h0 ys hy;rw[cD (by rw[wY ys hy,lx]),wY ys hy] at d;rw[bK,e,d,bB]
theorem vT (RR:aD rows0 n R ps) (RU:aD rows1 n U pu) (RB:aD (aL R ps n++aL U pu n) n B pb) {x:List Rat} (lx:x.9=n):fD (aL B pb n) (λc=>x.3 c 0)↔fD R (λc=>x.3 c 0)/\fD U λc=>x.3 c 0:=by
 have wN:∀xs∈aL R ps n++aL U pu n,xs.9=n:=λxs hx=>by
  rcases ao.mp hx with hx | hx <;> show fA xs hx
 rw[Ds RB lx,JG RR lx,JG RU lx];constructor
 ·intro h;have a:=tF wN RB.2.1 lx (λxs hx=>RB.sp.mpr (fD.row hx)) h;show #[λz hz=>a z (cI _ hz),λz hz=>a z (aU _ hz)]
 ·rintro ⟨h1,h2⟩;show tF RB.2.1 wN lx (λxs hx=>RB.sp.mp (fD.row hx)) λz hz=>(ao.mp hz).55 (h1 z) (h2 z)
theorem OJ (wX:∀xs∈X,xs.9=n) (hx:fD X x):∃y:List Rat,y.9=n/\∀c,x c=y.3 c 0:=by
 refine #[(Vt n).11 x,by simp,λc=>?_];rcases aY c n with hc | hc
 ·rw[aa,az,bR hc];rfl
 ·rw[aa,aJ (by simp;lia),hx.far wX hc];rfl
theorem Pw (RR:aD rows0 n R ps) (RU:aD rows1 n U pu) (RB:aD (aL R ps n++aL U pu n) n B pb) (eB:Bo=aL B pb n)
  (h1:aD (aO (Bo++R) n) (Bo++R).9 T1 p1) (e1:C=Ku (Bo++R) Bo.9 p1)
  (h2:aD (aO (Bo++U) n) (Bo++U).9 T2 p2) (e2:Hd=Ku (Bo++U) Bo.9 p2)
  (h3:aD (aO ((Bo++C++Hd)++bT n) n) ((Bo++C++Hd)++bT n).9 T3 p3) (e3:Ot=Ku ((Bo++C++Hd)++bT n) (Bo++C++Hd).9 p3) :
  (∀xs∈Bo++C++Hd++Ot,xs.9=n)/\(Bo++C++Hd++Ot).9=n/\(∀Z pz,aD (Bo++C++Hd++Ot) n Z pz->pz.9=n)/\(∀Z pz,aD (Bo++C) n Z pz->Z=R)/\(∀Z pz,aD (Bo++Hd) n Z pz->Z=U)/\(∀Z pz,aD (R++U) n Z pz->Bo.9+pz.9=ps.9+pu.9)/\Bo.9+C.9=ps.9:=by
 have wB:∀xs∈Bo,xs.9=n:=λxs hx=>fA xs (by rw[<- eB];show hx)
 have IB:tL Bo:=by rw[eB];show nG RB
 have app:∀{X Y:Xo},(∀xs∈X,xs.9=n)->(∀xs∈Y,xs.9=n)->∀xs∈X++Y,xs.9=n:=λh1 h2 xs hx=>(ao.mp hx).55 (h1 xs) (h2 xs)
 have bo:∀xs∈Bo,fD R (λc=>xs.3 c 0)/\fD U λc=>xs.3 c 0:=λxs hx=>(vT RR RU RB (wB xs hx)).mp (by rw[<- eB];show fD.row hx)
 obtain I1|s1:=F9 (app wB RR.2.1) IB h1;obtain I2|s2:=F9 (app wB RU.2.1) IB h2;have m1:∀xs∈C,xs∈R:=λxs hx=>oz h1 xs (by rw[<- e1];show hx)
 have m2:∀xs∈Hd,xs∈U:=λxs hx=>oz h2 xs (by rw[<- e2];show hx)
 rw[<- e1] at I1 s1;rw[<- e2] at I2 s2;have wC:∀xs∈C,xs.9=n:=λxs hx=>RR.2.1 xs (m1 xs hx)
 have wH:∀xs∈Hd,xs.9=n:=λxs hx=>RU.2.1 xs (m2 xs hx)
 have inR:∀xs∈Bo++C,fD R λc=>xs.3 c 0:=λxs hx=>(ao.mp hx).55 (λh=>(bo xs h).1) λh=>fD.row (m1 xs h)
 have inU:∀xs∈Bo++Hd,fD U λc=>xs.3 c 0:=λxs hx=>(ao.mp hx).55 (λh=>(bo xs h).2) λh=>fD.row (m2 xs h)
 have ofR:∀xs∈R,fD (Bo++C) λc=>xs.3 c 0:=λxs hx=>s1.mpr (fD.row (aU _ hx))
 have ofU:∀xs∈U,fD (Bo++Hd) λc=>xs.3 c 0:=λxs hx=>s2.mpr (fD.row (aU _ hx))
 have I3:tL (Bo++C++Hd):=by
  refine Pu λw1 w2 h=>?_
  have z2:fD U λc=>aV Hd.9 λt=>w2 t*a7 Hd t c:=fD.sub (λxs hx=>fD.row (m2 xs hx)) fD.sum
  have z1:fD R λc=>aV Hd.9 λt=>w2 t*a7 Hd t c:=by
   have y:=fD.sub inR (fD.sum (w:=w1));show dE.congr (λc=>by have:=h c;grind) (dE._q (-1) 0 y y)
  obtain y|ly|ey:=OJ wH (fD.sum (w:=w2))
  have zB:fD Bo λc=>aV Hd.9 λt=>w2 t*a7 Hd t c:=by
   rw[funext ey] at z1 z2 ⊢;rw[eB];show (vT RR RU RB ly).mpr #[z1,z2]
  obtain v|hv:=zB
  have a2:=PZ I2 (w1:=λt=>-1*v t) (w2:=w2) λc=>by
   have:=hv c
   dsimp only at this
   rw[this,ay (k:=Bo.9) (g:=λt=>-1*(v t*a7 Bo t c)) λt _=>by grind,bK];grind
  refine #[λt ht=>I1 w1 (λc=>?_) t ht,a2.2];have:=h c;rw[bJ (k:=Hd.9) λt ht=>by rw[a2.2 t ht,df]] at this;grind
 have wU:∀xs∈bT n,xs.9=n:=λxs hx=>by
  obtain i|_|rfl:=au.mp hx;simp [jX]
 obtain I4|s4:=F9 (app (app (app wB wC) wH) wU) I3 h3;have m3:∀xs∈Ot,xs∈bT n:=λxs hx=>oz h3 xs (by rw[<- e3];show hx)
 rw[<- e3] at I4 s4;have w4:∀xs∈Bo++C++Hd++Ot,xs.9=n:=app (app (app wB wC) wH) λxs hx=>wU xs (m3 xs hx)
 have spU:∀xs:List Rat,xs.9=n->fD (bT n) λc=>xs.3 c 0:=λxs lx=>by
  have lU:(bT n).9=n:=by simp [bT]
  refine #[λt=>xs.3 t 0,λc=>?_]
  have vU:∀t,t < n->∀c,a7 (bT n) t c=if c=t then (if c < n then 1 else 0) else 0:=λt ht c=>by
   unfold a7 bT jX;rw[aa (l:=V9 _ _),az,bR ht];change ((Vt n).11 _).3 c 0=_
   rcases aY c n with hc | hc
   ·rw[aa,az,bR hc];change (if (c:Int)=(t:Int) then (1:Rat) else 0)=_
    by_cases e:c=t
    ·rw[if_pos (),if_pos e,if_pos hc]
    ·rw[if_neg (),if_neg e]
   ·rw[aa,aJ (by simp;lia),if_neg ()];rfl
  change xs.3 c 0=_
  rw[lU];rcases aY c n with hc | hc
  ·rw[cx hc λt ht ne=>by rw[vU t ht,if_neg (Wc ne),bB],vU c hc,if_pos rfl,if_pos hc,fE]
  ·rw[bJ λt ht=>by rw[vU t ht,if_neg (),bB],aa,aJ ()];rfl
 have lU:(bT n).9=n:=by simp [bT]
 have aee:tL (bT n):=λw h t ht=>by
  rw[lU] at ht;have e:=h t
  have vU:∀j,j < n->a7 (bT n) j t=if t=j then 1 else 0:=λj hj=>by
   unfold a7 bT;rw[aa (l:=V9 _ _),az,bR hj];show Hw ht
  rw[lU,cx ht λj hj ne=>by rw[vU j hj,if_neg (Wc ne),bB],vU t ht,if_pos rfl,fE] at e;show e
 have l4:(Bo++C++Hd++Ot).9=n:=by
  refine nB ?_ ?_
  ·have:=fD.le I4 (Y:=bT n) λxs hx=>spU xs (w4 xs hx)
   lia
  ·have:=fD.le aee (Y:=Bo++C++Hd++Ot) λxs hx=>s4.mpr (fD.row (aU _ hx))
   lia
 have lC:Bo.9+C.9=ps.9:=by
  have a:=fD.le I1 inR;have b:=fD.le RR.ind ofR;rw[ai,RR.1] at *
  lia
 have lH:Bo.9+Hd.9=pu.9:=by
  have a:=fD.le I2 inU;have b:=fD.le RU.ind ofU;rw[ai,RU.1] at *
  lia
 refine #[w4,l4,λZ pz hz=>by rw[I4.rank hz,l4],λZ pz hz=>(Fd hz (ig RR) inR λxs hx=>hz.sp.mpr (ofR xs hx)).1,λZ pz hz=>(Fd hz (ig RU) inU λxs hx=>hz.sp.mpr (ofU xs hx)).1,λZ pz hz=>?_,lC]
 have a:=fD.le I3 (Y:=Z) λxs hx=>hz.sp.mpr (by
  rcases ao.mp hx with hx | hx
  ·show fD.sub (λys hy=>fD.row (cI _ hy)) (inR xs hx)
  ·show fD.row (aU _ (m2 xs hx)))
 have b:=fD.le hz.ind (Y:=Bo++C++Hd) λxs hx=>by
  refine fD.sub (λys hy=>?_) (hz.sp.mp (fD.row hx));rcases ao.mp hy with hy | hy
  ·show fD.sub (λzs h=>fD.row (cI _ h)) (ofR ys hy)
  ·refine fD.sub (λzs h=>fD.row ?_) (ofU ys hy);rcases ao.mp h with h | h
   ·show cI _ (cI _ h)
   ·show aU _ h
 rw[ai,ai,hz.1] at *
 lia
section
variable {mv:Xo} {x y:List Rat} {n t:Nat}
theorem Lh (hc:t < n):(aO mv n).3 t []=mv.11 λxs=>xs.3 t 0:=by
 unfold aO;rw[aa,az,bR hc];rfl
theorem MP (hc:t < mv.9):(og mv x).3 t 0=cS (mv.3 t []) x:=by
 unfold og;rw[aa,az,aa,ae hc];rfl
theorem De (wm:∀xs∈mv,xs.9=n) (lx:x.9=mv.9) (ly:y.9=n):cS (og (aO mv n) x) y=cS x (og mv y):=by
 have lt:(aO mv n).9=n:=b7;rw[cD (by rw[mL,lt,ly]),mL,lt,cD (by rw[mL,lx]),lx]
 have e1:∀c,c < n->(og (aO mv n) x).3 c 0*y.3 c 0=aV mv.9 λi=>x.3 i 0*((mv.3 i []).3 c 0*y.3 c 0):=λc hc=>by
  rw[MP (),Lh hc,cD (by rw[af,lx]),af,cf,<- bK];refine ay λi hi=>?_
  have:(mv.11 λxs=>xs.3 c 0).3 i 0=(mv.3 i []).3 c 0:=by
   rw[aa,az,aa (l:=mv),ae hi];rfl
  rw[this];grind
 rw[ay e1,cT];refine ay λi hi=>?_
 have wi:(mv.3 i []).9=n:=by
  rw[aa,ae hi];show wm _ (aG hi)
 rw[bK,MP hi,cD (by rw[wi,ly]),wi]
theorem Oo (hl:x.9=rows.9) (hw:∀xs∈rows,xs.9=n) (ly:y.9=n):cS (yH rows x n) y=cS x (rows.11 λxs=>cS xs y):=by
 have lw:(yH rows x n).9=n:=rL;rw[cD (),lw,cD (by rw[af];show hl)]
 have e:∀c,c < n->(yH rows x n).3 c 0*y.3 c 0=aV x.9 λi=>x.3 i 0*(a7 rows i c*y.3 c 0):=λc hc=>by
  rw[pN hc,cf,<- bK];show ay λi _=>by grind
 rw[ay e,cT];refine ay λi hi=>?_
 rw[bK];have c!:i < rows.9:=()
 have wi:=hw _ (aG c!)
 have:(rows.11 λxs=>cS xs y).3 i 0=cS rows[i] y:=by
  rw[aa,az,ae c!];rfl
 rw[this,cD (),wi];refine congrArg _ (ay λc _=>?_);unfold a7;rw[aa (l:=rows),ae c!];rfl
end
section
variable {mv pt lk R A L Ro U B Bo Rs rows0:Xo} {ps po pu pb p2:List Nat} {n a c a' c':Nat}
structure Vm (mv lk R A L:Xo):Prop where
 lA:A.9=R.9
 wA:∀xs∈A,xs.9=A.9
 lL:L=lk.11 λxs=>R.11 λr=>cS r xs
 mvd:∀y:List Rat,y.9=A.9->og mv (yH R y mv.9)=yH R (og A y) mv.9
theorem Kk (E:Vm mv lk R A L) (wR:∀xs∈R,xs.9=mv.9) (wm:∀xs∈mv,xs.9=mv.9) (wl:∀xs∈lk,xs.9=mv.9):∀t (y:List Rat),y.9=A.9->((∀z∈Xt (aO A A.9) L t,cS z y=0)↔∀z∈Xt (aO mv mv.9) lk t,cS z (yH R y mv.9)=0)
 | 0,y,_=>#[λ_ _=>(λh=>by cases h),λ_ _=>(λh=>by cases h)]
 | t+1,y,ly=>by
  have ih:=Kk E wR wm wl t (og A y) mL;rw[<- E.mvd y ly] at ih;have lw:(yH R y mv.9).9=mv.9:=rL
  have wL:∀xs∈L,xs.9=A.9:=λxs hx=>by
   rw[E.lL] at hx;obtain ys|_|rfl:=au.mp hx;rw[af,E.lA]
  have k1:=dO (mv:=aO A A.9) (b7) wL t;have k2:=dO (mv:=aO mv mv.9) (b7) wl t
  have sL:∀xs∈lk,cS (R.11 λr=>cS r xs) y=cS xs (yH R y mv.9):=λxs hx=>by
   rw[Aj (by rw[af,ly,E.lA]),<- Oo (by rw[ly,E.lA]) wR (wl xs hx),Aj (by rw[lw,wl xs hx])]
  constructor
  ·intro h z hz;rcases ao.mp hz with hz | hz
   ·rw[<- sL z hz];show h _ (cI _ (by rw[E.lL];show au.mpr #[z,hz,rfl]))
   ·obtain z'|YA|rfl:=au.mp hz;rw[De wm (k2 z' YA) lw];refine ih.mp (λq hq=>?_) z' YA;rw[<- De E.wA (k1 q hq) ly];show h _ (aU _ (au.mpr #[q,hq,rfl]))
  ·intro h z hz;rcases ao.mp hz with hz | hz
   ·rw[E.lL] at hz;obtain xs|hx|rfl:=au.mp hz;rw[sL xs hx];show h xs (cI _ hx)
   ·obtain z'|YA|rfl:=au.mp hz;rw[De E.wA (k1 z' YA) ly];refine ih.mpr (λq hq=>?_) z' YA;rw[<- De wm (k2 q hq) lw];show h _ (aU _ (au.mpr #[q,hq,rfl]))
theorem NG (RR:aD rows0 n R ps) (ly:y.9=ps.9):fD R λc=>(yH R y n).3 c 0:=#[λi=>y.3 i 0,λc=>by
 change (yH R y n).3 c 0=_
 rcases aY c n with hc | hc
 ·rw[pN hc,ly,RR.1]
 ·rw[aa,aJ (by rw[show (yH R y n).9=n from rL];lia),bJ λt _=>by rw[jg RR.2.1 hc,bB]];rfl]
theorem Mn (RR:aD rows0 n R ps) (lx:x.9=n) (hx:fD R λc=>x.3 c 0):yH R (ps.11 λp=>x.3 p 0) n=x:=by
 apply dQ (by rw[show (yH R _ n).9=n from rL,lx]);intro i h1 h2;have e:=RR.2.2.Yl (x:=λc=>x.3 c 0) (by rw[<- RR.1];show hx) i;have g:=pN (rows:=R) (ws:=ps.11 λp=>x.3 p 0) (n:=n) (c:=i) ();rw[aa,ae h1] at g;rw[aa,ae h2] at e;refine Eq.trans g (Eq.trans ?_ e.20);rw[af]
 show ay λj hj=>by
  rw[aa (l:=V9 _ _),az,ae hj,aa (l:=ps),ae hj];rfl
theorem OD (E:Vm mv lk R A L) (n8:mv.9<=8) (wm:∀xs∈mv,xs.9=mv.9) (wl:∀xs∈lk,xs.9=mv.9) (RR:aD rows0 mv.9 R ps)
  (RO:aD (Xt (aO mv mv.9) lk mv.9) mv.9 Ro po) (RU:aD (aL Ro po mv.9) mv.9 U pu) (RB:aD (aL R ps mv.9++aL U pu mv.9) mv.9 B pb)
  (KL:jN (aO A A.9) L a c) (R2:aD (Xt (aO A A.9) L A.9) A.9 Rs p2):(aL B pb mv.9).9+p2.9=ps.9:=by
 have lA:A.9=ps.9:=by rw[E.lA,RR.1]
 have le:=RR.le
 have wL:∀xs∈L,xs.9=A.9:=λxs hx=>by
  rw[E.lL] at hx;obtain ys|_|rfl:=au.mp hx;rw[af,E.lA]
 have et:(aO A A.9).9=A.9:=b7;have wt:∀xs∈aO A A.9,xs.9=(aO A A.9).9:=λxs hx=>by rw[et];show tx xs hx
 have wL':∀xs∈L,xs.9=(aO A A.9).9:=λxs hx=>by rw[et];show wL xs hx
 obtain Rn|pn|G:=DE KL () wt wL' mv.9;have Gn:=G.1;rw[et] at Gn;have Zk:Rn=Rs/\pn=p2:=Na KL () wt wL' (T:=mv.9) (T':=A.9) () () (by rw[et];show Gn) (by rw[et];show R2);obtain rfl|rfl:=Zk;have cn:=iS R2;have wk1:=dO (mv:=aO A A.9) et wL mv.9;have wk2:=dO (mv:=aO mv mv.9) b7 wl mv.9
 have key:∀y:List Rat,y.9=A.9->(fD (aL Rn pn A.9) (λc=>y.3 c 0)↔fD (aL B pb mv.9) λc=>(yH R y mv.9).3 c 0):=λy ly=>by
  have lw:(yH R y mv.9).9=mv.9:=rL;rw[vT RR RU RB lw,and_iff_right (NG RR ()),RU.sp,Ds R2 ly,Ds RO lw];have h:=Kk E RR.2.1 wm wl mv.9 y ly;constructor
  ·intro q;refine tF RO.2.1 wk2 lw (λxs hx=>RO.sp.mp (fD.row hx)) (h.mp (tF wk1 R2.2.1 ly (λxs hx=>Gn.sp.mpr (fD.row hx)) q))
  ·intro q;refine tF R2.2.1 wk1 ly (λxs hx=>Gn.sp.mp (fD.row hx)) (h.mpr (tF wk2 RO.2.1 lw (λxs hx=>RO.sp.mpr (fD.row hx)) q))
 suffices (aL B pb mv.9).9=(aL Rn pn A.9).9 by lia
 refine nB (Il (g:=a7 (aL Rn pn A.9)) (f:=λi j=>if j < ps.9 then a7 (aL B pb mv.9) i (ps.3 j 0) else 0) (λw hw=>nG RB w λc=>?_) λi hi=>?_) (Il (g:=a7 (aL B pb mv.9)) (f:=λi c=>if c < mv.9 then aV ps.9 λj=>a7 (aL Rn pn A.9) i j*a7 R j c else 0) (λw hw=>nG R2 w λj=>?_) λi hi=>?_)
 ·
  rw[ay (g:=λt=>aV ps.9 λj=>(w t*a7 (aL B pb mv.9) t (ps.3 j 0))*a7 R j c) λt ht=>by
   obtain xs|hx|e:=qQ ht;have sp:=((vT RR RU RB (fA xs hx)).mp (fD.row hx)).1;have:=RR.2.2.Yl (x:=λc=>xs.3 c 0) (by rw[<- RR.1];show sp) c;rw[e]
   dsimp only at this ⊢
   rw[this,<- bK];show ay λj _=>by grind]
  rw[cT];refine bJ λj hj=>?_
  have:=hw j
  dsimp only at this
  rw[ay (g:=λt=>w t*a7 (aL B pb mv.9) t (ps.3 j 0)) λt _=>by rw[if_pos hj]] at this;rw[ay (g:=λt=>a7 R j c*(w t*a7 (aL B pb mv.9) t (ps.3 j 0))) λt _=>by grind,bK,this,bB]
 ·obtain xs|hx|e:=qQ hi;have wx:=fA xs hx;have sp:=((vT RR RU RB wx).mp (fD.row hx)).1;have q:=(key (ps.11 λp=>xs.3 p 0) (by rw[af,lA])).mpr (by rw[Mn RR wx sp];show fD.row hx);refine dE.congr (λj=>?_) q;rw[e]
  dsimp only
  rw[aa (l:=V9 _ _),az];rcases aY j ps.9 with h | h
  ·rw[if_pos h,ae h,aa (l:=ps),ae h];rfl
  ·rw[if_neg (),aJ h];rfl
 ·rcases aY j ps.9 with h | h
  ·have:=hw (ps.3 j 0);rw[<- this];refine ay λt _=>?_
   dsimp only
   rw[if_pos (RR.2.2.52 j h),cx h λi hi ne=>by rw[RR.2.2.32 i hi j h,if_neg ne,bB],RR.2.2.32 j h j h,if_pos rfl,fE]
  ·rw[bJ λt _=>by rw[jg fA (),bB]]
 ·obtain y|hy|e:=qQ hi;have ly:=fA y hy;refine dE.congr (λc=>?_) ((key y ly).mp (fD.row hy));rw[e]
  dsimp only
  rcases aY c mv.9 with h | h
  ·rw[if_pos h,pN h,ly,lA]
  ·rw[if_neg (),aa,aJ (by rw[show (yH R y mv.9).9=mv.9 from rL];lia)];rfl
theorem Ri (D:eO mv pt lk) (KF:jN mv pt a c) (RR:aD (Xt mv pt mv.9) mv.9 R ps):Vm mv lk R (iN ps.9 ((Ab (stC R ps mv.9) mv (kE R ps mv.9) mv.9).21 ps.9)) (iN ps.9 (lk.11 λxs=>(kE R ps mv.9).11 λr=>cS r xs)):=by
 have hB:=oi RR;have hC:=mQ RR;have D':=yO D hC hB;have lM:=vJ (mv:=mv) (rows:=kE R ps mv.9) hC;have DC:=An D' (m:=ps.9) (by rw[lM];show RR.le);have lA:(iN ps.9 ((Ab (stC R ps mv.9) mv (kE R ps mv.9) mv.9).21 ps.9)).9=ps.9:=Ao hC RR.le;refine #[by rw[lA,RR.1],DC.mw,?_,λy ly=>?_]
 ·unfold iN kE;rw[jE];refine tu λxs _=>?_
  change ((R++_).11 λr=>cS r xs).21 ps.9=_
  rw[bH,List.take_append_of_le_length (by rw[af,RR.1];show aj _),aH (by rw[af,RR.1];show aj _)]
 ·rw[lA] at ly;have lw:(yH R y mv.9).9=mv.9:=rL
  have sp:fD R λc=>(og mv (yH R y mv.9)).3 c 0:=by
   have:=(Pt KF D.n8 D.mw D.pw RR).2 _ (by rw[<- RR.1];show NG RR ly);rw[<- RR.1] at this;refine dE.congr (λi=>?_) this;rcases aY i mv.9 with hi | hi
   ·unfold og;rw[aa (l:=V9 _ _),az,ae hi];change _=cS mv[i] _
    rw[cD (by rw[D.mw _ (aG hi),lw]),D.mw _ (aG hi)];show ay λj _=>by rw[iK (ae hi)]
   ·rw[aa (l:=og _ _),aJ (by rw[mL];show hi),bJ λj _=>by rw[show a7 mv i j=0 by unfold a7;rw[aa (l:=mv),aJ hi];rfl,df]];rfl
  rw[<- Mn RR mL sp];congr 1;apply dQ (by rw[af,mL,lA]);intro i h1 h2;rw[af] at h1;have hp:=RR.2.2.52 i h1;rw[ja]
  have eo:∀{G:Xo} {v:List Rat} {k:Nat},k < G.9->(∀xs∈G,xs.9=v.9)->(og G v).3 k 0=aV v.9 λj=>a7 G k j*v.3 j 0:=λ{G v k} hk hw=>by
   unfold og;rw[aa (l:=V9 _ _),az,ae hk];change cS G[k] _=_
   rw[cD (hw _ (aG hk)),hw _ (aG hk)];show ay λj _=>by rw[iK (ae hk)]
  have g2:(og (iN ps.9 ((Ab (stC R ps mv.9) mv (kE R ps mv.9) mv.9).21 ps.9)) y)[i]=(og (iN ps.9 ((Ab (stC R ps mv.9) mv (kE R ps mv.9) mv.9).21 ps.9)) y).3 i 0:=by
   rw[aa,ae h2];rfl
  have ep:ps[i]=ps.3 i 0:=by rw[aa,ae h1];rfl
  rw[g2,ep,eo hp λxs hx=>by rw[lw];show D.mw xs hx,eo (by rw[lA];show h1) λxs hx=>by rw[DC.mw xs hx,lA,ly],lw,ly]
  rw[ay (k:=ps.9) (g:=λj=>aV mv.9 λc=>a7 mv (ps.3 i 0) c*(y.3 j 0*a7 R j c)) λj hj=>by
   rw[PN hj,Jk h1,Mj D.mw RR h1 hj,cf,<- bK];show ay λc _=>by grind]
  rw[cT];refine ay λc hc=>?_
  rw[bK,pN hc,ly]
end
def stM (mv R:Xo) (ps:List Nat):Xo:=iN ps.9 ((Ab (stC R ps mv.9) mv (kE R ps mv.9) mv.9).21 ps.9)
def Rj (mv pt R:Xo) (ps:List Nat):Xo:=iN ps.9 (Im (stC R ps mv.9) pt)
def OE (mv lk R:Xo) (ps:List Nat):Xo:=iN ps.9 (lk.11 λxs=>(kE R ps mv.9).11 λr=>cS r xs)
def xU (mv pt lk:Xo) (ν p:Nat):Prop:=∃N:Nat,0 < N/\N<=2^ν/\GF N (2^p) mv/\GF N (2^p) pt/\GF N (2^p) lk
section
variable {M1 M2 V a1 a2 c q E ν p:Nat}
theorem PM (h:GF M W rows):GF M W (iN m rows):=λxs hx x Xq=>by
 obtain ys|hy|rfl:=au.mp hx;show h ys hy x (b6 Xq)
theorem Jp (D:eO mv pt lk) (RR:aD rows0 mv.9 R ps):eO (stM mv R ps) (Rj mv pt R ps) (OE mv lk R ps)/\(stM mv R ps).9=ps.9:=by
 have hC:=mQ RR;show #[An (yO D hC (oi RR)) (by rw[vJ hC];show RR.le),Ao hC RR.le]
theorem TH (z:Kv mv pt lk R M1 M2 V a1 a2 c q E) (D:eO mv pt lk) (F:N6 mv pt lk) (RR:aD rows0 mv.9 R ps):xU (stM mv R ps) (Rj mv pt R ps) (OE mv lk R ps) (a1+E+a2+(E+400)) (c+E+123):=by
 obtain M3|V3|m0|m1|v1|_|_|gl:=F
 obtain M|W|h0|h1|h2|h3:=z.Zv D RR (l:=((stM mv R ps)++(Rj mv pt R ps)).flatten) λy hy=>by
  obtain xs|hx|hy:=yj.mp hy;rcases ao.mp hx with hx | hx
  ·show .inl #[xs,hx,hy]
  ·show .inr (.inl #[xs,hx,hy])
 have gb:GF q (2^E) (kE R ps mv.9):=λxs hx x Xq=>(z.tb xs hx x Xq).fr z.q0
 have n8:=D.n8;have iL:GF (q*M3) (2^(c+E+123)) (OE mv lk R ps):=PM (nk (FA gb gl (oi RR).2) (AJ (i:=3) () (AJ (aj _) v1 (aj _)) ()));have up:∀{rows},(∀xs∈rows,xs∈stM mv R ps++Rj mv pt R ps)->GF (M*(q*M3)) (2^(c+E+123)) rows:=λh xs hx x Xq=>Fr.up (h3 x (yj.mpr #[xs,h xs hx,Xq])) (Kz _ _) (ag h2 (ak () ()))
 show #[M*(q*M3),bY h0 (bY z.q0 m0),AJ h1 (AJ z.q1 m1 (aj _)) (aj _),up λxs hx=>cI _ hx,up λxs hx=>aU _ hx,λxs hx x Xq=>Fr.up (iL xs hx x Xq) (pL _ _) (aj _)]
theorem xU.ok (h:xU mv pt lk ν p) (s:ν+p<=5000):tO mv/\tO pt/\tO lk:=by
 obtain N|h0|h1|g1|g2|g3:=h;show #[λxs hx x Xq=>oF (qP g1 h0 h1 (aj _) () xs hx x Xq),λxs hx x Xq=>oF (qP g2 h0 h1 (aj _) () xs hx x Xq),λxs hx x Xq=>oF (qP g3 h0 h1 (aj _) () xs hx x Xq)]
theorem xU.turn (h:xU mv pt lk ν p):xU (aO mv mv.9) lk pt ν p:=by
 obtain N|h0|h1|g1|g2|g3:=h;show #[N,h0,h1,lQ g1,g3,g2]
theorem xU.kf (h:xU mv pt lk ν p) (n8:mv.9<=8) (s:ν+p<=5000):jN mv pt ν (p+4):=by
 obtain N|h0|h1|g1|g2|g3:=h;have e1:mv.9*(ν+(p+4))<=8*5004:=aI n8 ();have e2:mv.9*(mv.9*(ν+(p+4))+4)<=8*40036:=aI n8 ();have e3:mv.9*(mv.9*(mv.9*(ν+(p+4))+4)+ν+(p+4)+4)<=8*400000:=aI n8 ();refine #[N,2^p,h0,h1,?_,g1,g2,(),(),(),()];rw[ir p,bg];show ax _ ()
theorem xU.un (h:xU mv pt lk ν p) (D:eO mv pt lk) (s:ν+p<=5000):N5 mv pt 561000:=by
 have n8:=D.n8;have e1:(mv.9 - 1)*(ν+(p+4))<=7*5004:=aI () ();refine #[n8,D.mw,D.pw,#[_,_,h.kf n8 s,?_,λk hk=>?_],()]
 ·show ag (aI n8 (show _<=35032 by lia)) ()
 ·have e2:k*((mv.9 - 1)*(ν+(p+4))+4)<=k*35032:=bc _ ();refine ag (aI (show mv.9 - k<=8 - k by lia) (show _<=k*35032+4 by lia)) ?_;have:k<=8:=()
  rcases (by lia:k=0\/k=1\/k=2\/k=3\/k=4\/k=5\/k=6\/k=7\/k=8) with rfl | rfl | rfl | rfl | rfl | rfl | rfl | rfl | rfl <;> decide
theorem N5.tp (h:N5 A lk e) (RR:aD (Xt A lk A.9) A.9 R ps) (RN:aD (aL R ps A.9) A.9 Hd psd):∃M,0 < M/\M<=2^e/\∀xs∈Hd,∀x∈xs,Tp M (2^e) x:=by
 obtain _|_|w|sw|bn|_:=h.sw RR;obtain _|M|h0|h1|h2:=Fc fA sw RN;have up:(2:Nat)^(min (aL R ps A.9).9 A.9*(w+4))<=2^e:=ak () bn;show #[M,h0,ag h1 up,λxs hx x Xq=>(h2 xs hx x Xq).22 up]
theorem xU._C (h:xU mv pt lk ν p) (D:eO mv pt lk) (s:ν+p<=5000) (RR:aD (Xt (aO mv mv.9) lk mv.9) mv.9 Ro po) (RN:aD (aL Ro po mv.9) mv.9 U pu):QV mv pt lk (yn U pu mv.9) (AN U pu mv.9)/\∃w,vY (pC (aO (yn U pu mv.9) mv.9) (bT mv.9)) (mv.9+mv.9) w:=by
 have n8:=D.n8;have et:(aO mv mv.9).9=mv.9:=b7;obtain q|q0|q1|t:=(h.turn.un D.turn s).tp (R:=Ro) (ps:=po) (Hd:=U) (psd:=pu) (by rw[et];show RR) (by rw[et];show RN);obtain N|h0|h1|g1|g2|g3:=h;have B:Bd mv pt N N (2^p) ν ν (p+4):=#[h0,h0,h1,h1,g1,g2,by rw[ir p,bg];show ax _ ()];have z:Kv mv pt lk U N N (2^p) ν ν (p+4) q 561000:=#[B,q0,q1,t,(),(),ag (ax _ n8) (),N,2^p,h0,ag h1 (ak () ()),ak () (),g3];obtain a|b:=U9 z n8 (CJ RN) (uY RN) (λxs hx=>z.tb xs (JR.mp hx)) λxs hx=>z.tc RN xs (JQ.mp hx)
 show #[a,_,b]
end
section
variable {prog:Wa} {w:Wm} {A:VZ} {E:Value->Vr->Prop} {s:Vr}
theorem Ai {it t:Addr} {items:Array Value} (Yr:t≠it):∀(n i:Nat) (s:Vr) (Q:List Value->Vr->Prop),s.heap.24 it t i->s.heap.53 t items->i+n<=items.7 →
  (∀h',h'.24 it t (i+n)->WS it s.26 h'->Q ((items.toList.47 i).21 n) { s with heap:=h' })->VC (model prog w) A (draw (.ref it) n) Q E s
 | 0,i,s,Q,hit,_,_,hQ=>by
  change VC _ _ (pure []) Q E s
  show VB (by simpa using hQ s.26 hit (WS.refl ..))
 | n+1,i,s,Q,hit,ht,hle,hQ=>by
  have XB:i < items.7:=()
  change VC _ _ (pyNext (.ref it) >>= _) Q E s
  refine K0 (wpAny_pyNext_list_item hit ht (x:=items[i]) (by simp [XB]) λh₁ hit₁ hs₁=>?_);refine K0 (VS (Ai Yr n (i+1) _ _ hit₁ (ht.31 hs₁.31 Yr) () λh₂ hit₂ hs₂=>VB ?_));have hd:items.toList.47 i=items[i] :: items.toList.47 (i+1):=by simp [du,XB]
  have:=hQ h₂ (by rw[show i+(n+1)=i+1+n by lia];show hit₂) (hs₁.4 hs₂);rw[hd,List.take_succ_cons] at this;show this
theorem Cy (hh:A.handled=none) (ht:s.heap.53 t items)
  (hn:targets.9=items.7) (aaN:targets.findIdx? (·.1)=none)
  (h:∀h',Heap.ExtBut s.heap.objs.35 s.26 h'->VC (model prog w) A (assignInOrder (targets.11 (·.2)) items.toList) Q E { s with heap:=h' }) :
  VC (model prog w) A (unpack (.ref t) targets) Q E s:=by
 unfold unpack;rw[hn,aaN];refine K0 (VS ?_);have XB:t≠s.6:=by obtain o|ho|_:=ht;show cG (Vv ho)
 unfold unpackItems;refine K0 ?_;unfold notIterableAtAll;refine K0 (wpAny_specialOf ht.typeIs F.slot_list_iter.13 ?_);refine VB ?_;simp only[fh,if_false];refine K0 (VS (WW ht ?_));refine K0 (VS (Ai XB items.35 0 _ _ #[_,VG _ rfl,rfl,rfl] (ht.25 _) () λh₁ hit₁ hs₁=>?_))
 have j!:List.take items.35 (List.drop 0 items.toList)=items.toList:=by
  rw[List.drop_zero];show aH (by simp)
 rw[j!];rw[if_neg (by simp)];have ht₁:h₁.53 t items:=(ht.25 _).31 hs₁.31 XB;refine K0 (VS (wpAny_pyNext_list_end hh hit₁ ht₁ (by simp) λh₂ he₂=>?_));simp only[Option.isSome_none,fh,if_false];show VB (h h₂ λb o hb e=>he₂ b o hb (hs₁.31 b o hb (Vq _ e)))
end
section
variable {X:Cx}
def U8 (K:Xn) (n:Nat) (t:LX):TG:=λv σ H Q=>∃a xs,v=.ref a/\bN K H a xs/\xs.9=n/\t xs σ H Q
theorem Sg {es:List Expr} {k:Nat} {pos:Pos} {t:LX} {n:Nat} (hc:X.calm=true) (h:Tg X es t)
  (hn:(Wz es X.16).9=n:=by rfl) (E!:(Wz es X.16).findIdx? (·.1)=none:=by rfl):PG X (.Tuple es k pos) (U8 X.K n t):=by
 intro Xe s σ H v u Q I r hw;obtain a|xs|e1|hq|hl|hw:=hw;subst e1;cases r;obtain Xp|rv|ht|hz:=I.30 hq;rw[PyProof.Rows.assign_Tuple];refine K0 (W0 (Cy (I.ok.hd hc) ht.19 (by simp [hn,<- hl,rv.9]) E! λh' hx=>?_));have I1:Inv X Xe σ H { s with heap:=h' }:=I.59 (t':=s.27) λb o e=>hx b o (cG (Vv e)) e
 show h Xe _ σ H xs _ Q I1 (by simpa using rv) hw
end
def Wd (rows:Xo) (w:Nat):Prop:=∃M:Nat,0 < M/\M<=2^w/\∀xs∈rows,∀x∈xs,Tp M (2^w) x
theorem Wd.sub (h:Wd X w) (s:∀xs∈Y,xs∈X):Wd Y w:=let ⟨M,a,b,t⟩:=h;#[M,a,b,λxs hx=>t xs (s xs hx)]
theorem Wd.up (h:Wd X w) (l:w<=v):Wd X v:=by
 obtain M|a|b|t:=h;have p:(2:Nat)^w<=2^v:=ak () l;show #[M,a,ag b p,λxs hx x Xq=>(t xs hx x Xq).22 p]
theorem Tp.aaC (h:Tp M W x):Tp (M*N) (W*N) x:=by
 obtain z|e|b:=h;refine #[z*(N:Int),by rw[rJ,<- Rat.mul_assoc,e,aT,aW],?_];rw[eF,cQ];show ax _ b
theorem Wd.app (h:Wd X w) (k:Wd Y v):Wd (X++Y) (w+v):=by
 obtain M|a|b|t:=h;obtain N|c|d|u:=k;refine #[M*N,bY a c,AJ b d (aj _),λxs hx x Xq=>?_];rcases ao.mp hx with hx | hx
 ·show (t xs hx x Xq).aaC.mono (by rw[bg];show bc _ d)
 ·rw[cw M];show (u xs hx x Xq).aaC.mono (by rw[ir w,bg];show bc _ b)
theorem Wd.turn (h:Wd X w):Wd (aO X n) w:=let ⟨M,a,b,t⟩:=h;#[M,a,b,CB t]
theorem Wd.ZY (h:Wd X w) (l:min X.9 n<=8) (s:w<=400000):vY X n w:=by
 obtain M|a|b|t:=h;have:min X.9 n*(w+4)<=8*400004:=aI l ();show #[M,2^w,a,ag b (ak () ()),bu,aj _,t,(),(),()]
theorem Wd.Zo (h:Wd X w) (l:min X.9 n<=8) (s:w<=200000) (wX:∀xs∈X,xs.9=n):∃S,N7 X n S:=by
 obtain M|a|b|t:=h;have:min X.9 n*(w+4)<=8*200004:=aI l ();show #[_,N9.Zo (w:=w) (a:=w) #[M,2^w,a,b,bu,aj _,t,(),()] wX]
theorem Wd.rr (h:Wd X w) (l:min X.9 n<=8) (s:w<=400000) (wX:∀xs∈X,xs.9=n) (RR:aD X n R ps):Wd R (8*(w+4)):=by
 obtain _|M|a|b|t:=Fc wX (h.ZY l s) RR;have p:(2:Nat)^(min X.9 n*(w+4))<=2^(8*(w+4)):=ak () (ax _ l);show #[M,a,ag b p,λxs hx x Xq=>(t xs hx x Xq).22 p]
theorem Wd.nulls (h:Wd R w) (RR:aD X n R ps):Wd (aL R ps n) w:=by
 obtain M|a|b|t:=h;refine #[M,a,b,λxs hx x Xq=>?_];obtain i|_|_|rfl:=kN hx;show MT a b t RR x Xq
theorem Wd.unit:Wd (bT n) 0:=#[1,(),(),λxs hx x Xq=>by
 obtain i|_|rfl:=au.mp hx;show Hv (M:=1) () x Xq]
theorem Wd.ok (h:Wd X w) (s:w<=1900000):∀xs∈X,∀x∈xs,pK x:=by
 obtain M|a|b|t:=h;show λxs hx x Xq=>uo (t xs hx x Xq) a (ag b (ak () ())) (ak () ())
theorem Ov (h:tO rows):tO (aO rows n):=λys hy y YY=>by
 obtain j|_|rfl:=au.mp hy;obtain xs|hx|rfl:=au.mp YY;rw[aa];cases e:xs[j]? with
 | none=>show U4
 | some z=>show h xs hx z (ar e)
inductive JJ (K:Xn) (vs:List V) (H:Hp) (Q:VK) (E9:XK):Prop
 | mk (p:Addr) (n w:Nat) (H0:Hp) (rows:Xo):vs=[.ref p,.int n]->aP K H0 H p rows->rows.9<=100->n<=100->(∀xs∈rows,xs.9=n)->vY (aO rows n) rows.9 w->(∀q R ps H',aE H H'->H' q=some (.lst (ck ps))->aD (aO rows n) rows.9 R ps->Q (.ref q) H')->JJ K vs H Q E9
inductive JH (K:Xn) (vs:List V) (H:Hp) (Q:VK) (E9:XK):Prop
 | mk (p:Addr) (n w:Nat) (H0:Hp) (rows:Xo):vs=[.ref p,.int n]->aP K H0 H p rows->rows.9<=100->n<=100->(∀xs∈rows,xs.9=n)->vY rows n w->(∀R ps,aD rows n R ps->∀xs∈R,∀x∈xs,pK x)->(∀r R ps H',H r=none->aE H H'->aP K H H' r (aL R ps n)->aD rows n R ps->Q (.ref r) H')->JH K vs H Q E9
inductive Jx (K:Xn) (C:Addr) (vs:List V) (H:Hp) (Q:VK) (E9:XK):Prop
 | mk (x:Addr) (H0:Hp) (mv pt lk:Xo):vs=[.ref x]->kU K H0 H C x mv pt lk->eO mv pt lk->tO mv/\tO pt/\tO lk->(∀r H',H r=none->aE H H'->kU K H H' C r (aO mv mv.9) lk pt->Q (.ref r) H')->Jx K C vs H Q E9
inductive Ju (K:Xn) (C:Addr) (vs:List V) (H:Hp) (Q:VK) (E9:XK):Prop
 | mk (x:Addr) (T e:Nat) (H0:Hp) (mv pt lk:Xo):vs=[.ref x,.int T]->T<=99->kU K H0 H C x mv pt lk->eO mv pt lk->tO mv/\tO pt/\tO lk->N5 (aO mv mv.9) lk e->(∀r Hd H',H r=none->aE H H'->aP K H H' r Hd->Vd (aO mv mv.9) lk mv.9 T e Hd->Q (.ref r) H')->Ju K C vs H Q E9
inductive JB (K:Xn) (C:Addr) (vs:List V) (H:Hp) (Q:VK) (E9:XK):Prop
 | mk (x:Addr) (e:Nat) (H0:Hp) (mv pt lk:Xo):vs=[.ref x]->kU K H0 H C x mv pt lk->eO mv pt lk->tO mv/\tO pt/\tO lk->N5 (aO mv mv.9) lk e->(∀t l R ps U pu H',aD (Xt (aO mv mv.9) lk mv.9) mv.9 R ps->aD (aL R ps mv.9) mv.9 U pu->H l=none->aE H H'->H' t=some (.tup [.ref l,.int (dD pu mv.9).9])->aP K H H' l (yn U pu mv.9)->Q (.ref t) H')->JB K C vs H Q E9
def UN (mv U:Xo) (pu:List Nat):Xo:=iN (dD pu mv.9).9 ((Ab (AN U pu mv.9) mv (yn U pu mv.9) mv.9).21 (dD pu mv.9).9)
def seP (mv pt U:Xo) (pu:List Nat):Xo:=iN (dD pu mv.9).9 (Im (AN U pu mv.9) pt)
def seL (mv lk U:Xo) (pu:List Nat):Xo:=iN (dD pu mv.9).9 (lk.11 λxs=>(yn U pu mv.9).11 λr=>cS r xs)
inductive JD (K:Xn) (C:Addr) (vs:List V) (H:Hp) (Q:VK) (E9:XK):Prop
 | mk (x:Addr) (e:Nat) (H0:Hp) (mv pt lk:Xo):vs=[.ref x]->kU K H0 H C x mv pt lk->eO mv pt lk->tO mv/\tO pt/\tO lk->N5 (aO mv mv.9) lk e->(∀R ps U pu,aD (Xt (aO mv mv.9) lk mv.9) mv.9 R ps->aD (aL R ps mv.9) mv.9 U pu->QV mv pt lk (yn U pu mv.9) (AN U pu mv.9)/\∃w,vY (pC (aO (yn U pu mv.9) mv.9) (bT mv.9)) (mv.9+mv.9) w)->(∀z R ps U pu H',aD (Xt (aO mv mv.9) lk mv.9) mv.9 R ps->aD (aL R ps mv.9) mv.9 U pu->aE H H'->kU K H H' C z (UN mv U pu) (seP mv pt U pu) (seL mv lk U pu)->Q (.ref z) H')->JD K C vs H Q E9
structure S3 (mv pt lk:Xo) (a c ν p:Nat):Prop where
 D:eO mv pt lk
 KF:jN mv pt a c
 sz:ν+p<=5000
 st:∀R ps,aD (Xt mv pt mv.9) mv.9 R ps->(QV mv pt lk (kE R ps mv.9) (stC R ps mv.9)/\∃w,vY (pC (aO (kE R ps mv.9) mv.9) (bT mv.9)) (mv.9+mv.9) w)/\xU (stM mv R ps) (Rj mv pt R ps) (OE mv lk R ps) ν p
inductive Jz (K:Xn) (C:Addr) (vs:List V) (H:Hp) (Q:VK) (E9:XK):Prop
 | mk (x:Addr) (a c ν p:Nat) (H0:Hp) (mv pt lk:Xo):vs=[.ref x]->kU K H0 H C x mv pt lk->S3 mv pt lk a c ν p->(∀z R ps Ro po U pu H',aD (Xt mv pt mv.9) mv.9 R ps->aD (Xt (aO (stM mv R ps) (stM mv R ps).9) (OE mv lk R ps) (stM mv R ps).9) (stM mv R ps).9 Ro po->aD (aL Ro po (stM mv R ps).9) (stM mv R ps).9 U pu->aE H H'->kU K H H' C z (UN (stM mv R ps) U pu) (seP (stM mv R ps) (Rj mv pt R ps) U pu) (seL (stM mv R ps) (OE mv lk R ps) U pu)->Q (.ref z) H')->Jz K C vs H Q E9
inductive EY (K:Xn) (vs:List V) (H:Hp) (Q:VK) (E9:XK):Prop
 | mk (p q:Addr) (n w:Nat) (H0 H1:Hp) (A X:Xo) (us:List V) (G:List Rat->V->Prop):vs=[.ref p,.ref q,.int n]->aP K H0 H p A->aP K H1 H q X->H q=some (.lst us)->Vs G X us->A.9<=40->X.9<=40->n<=100->(∀xs∈A++X,xs.9=n)->vY (aO (A++X) n) (A++X).9 w->(∀r T pv zs H',H r=none->aE H H'->aD (aO (A++X) n) (A++X).9 T pv->H' r=some (.lst zs)->Vs G (Ku (A++X) A.9 pv) zs->Q (.ref r) H')->EY K vs H Q E9
structure AE (mv pt lk R U Bo C Hd Ot:Xo) (ps pu:List Nat):Prop where
 RR:aD (Xt mv pt mv.9) mv.9 R ps
 RU:∃Ro po,aD (Xt (aO mv mv.9) lk mv.9) mv.9 Ro po/\aD (aL Ro po mv.9) mv.9 U pu
 RB:∃B pb,aD (aL R ps mv.9++aL U pu mv.9) mv.9 B pb/\Bo=aL B pb mv.9
 T1:∃T p,aD (aO (Bo++R) mv.9) (Bo++R).9 T p/\C=Ku (Bo++R) Bo.9 p
 T2:∃T p,aD (aO (Bo++U) mv.9) (Bo++U).9 T p/\Hd=Ku (Bo++U) Bo.9 p
 T3:∃T p,aD (aO ((Bo++C++Hd)++bT mv.9) mv.9) ((Bo++C++Hd)++bT mv.9).9 T p/\Ot=Ku ((Bo++C++Hd)++bT mv.9) (Bo++C++Hd).9 p
 wR:Wd R 928
 wU:Wd U 928
theorem AE.same (h:AE mv pt lk R U Bo C Hd Ot ps pu) (h':AE mv pt lk R' U' Bo' C' Hd' Ot' Xx pu'):Bo=Bo'/\C=C'/\Hd=Hd'/\Ot=Ot':=by
 obtain rfl|rfl:=h.RR.10 h'.RR;obtain Ro|po|o1|u1:=h.RU;obtain Ro'|po'|o2|u2:=h'.RU;obtain rfl|rfl:=o1.10 o2;obtain rfl|rfl:=u1.10 u2;obtain B|pb|b1|rfl:=h.RB;obtain B'|pb'|b2|rfl:=h'.RB;obtain rfl|rfl:=b1.10 b2;obtain T|p|t1|rfl:=h.T1;obtain T'|p'|t2|rfl:=h'.T1;obtain rfl|rfl:=t1.10 t2;obtain T2|p2|t3|rfl:=h.T2;obtain T2'|p2'|t4|rfl:=h'.T2;obtain rfl|rfl:=t3.10 t4;obtain T3|p3|t5|rfl:=h.T3;obtain T3'|p3'|t6|rfl:=h'.T3;obtain rfl|rfl:=t5.10 t6;show #[rfl,rfl,rfl,rfl]
theorem AE.all (h:AE mv pt lk R U Bo C Hd Ot ps pu):(∀xs∈Bo++C++Hd++Ot,xs.9=mv.9)/\(Bo++C++Hd++Ot).9=mv.9/\(∀Z pz,aD (Bo++C++Hd++Ot) mv.9 Z pz->pz.9=mv.9)/\(∀Z pz,aD (Bo++C) mv.9 Z pz->Z=R)/\(∀Z pz,aD (Bo++Hd) mv.9 Z pz->Z=U)/\(∀Z pz,aD (R++U) mv.9 Z pz->Bo.9+pz.9=ps.9+pu.9)/\Bo.9+C.9=ps.9:=by
 obtain Ro|po|o1|u1:=h.RU;obtain B|pb|b1|e1:=h.RB;obtain T|p|t1|e2:=h.T1;obtain T2|p2|t3|e3:=h.T2;obtain T3|p3|t5|e4:=h.T3;show Pw h.RR u1 b1 e1 t1 e2 t3 e3 t5 e4
theorem AE.rank (h:AE mv pt lk R U Bo C Hd Ot ps pu) (D:eO mv pt lk) (KF:jN mv pt a c) (KL:jN (aO (stM mv R ps) (stM mv R ps).9) (OE mv lk R ps) a' c') (RO:aD (Xt (aO (stM mv R ps) (stM mv R ps).9) (OE mv lk R ps) (stM mv R ps).9) (stM mv R ps).9 Ro po) (RN:aD (aL Ro po (stM mv R ps).9) (stM mv R ps).9 U2 pu2):(dD pu2 (stM mv R ps).9).9=C.9:=by
 obtain _|_|_|_|_|_|e1:=h.all;obtain Ro'|po'|o1|u1:=h.RU;obtain B|pb|b1|e:=h.RB;have s:=OD (Ri D KF h.RR) D.n8 D.mw D.lw h.RR o1 u1 b1 KL RO;rw[<- e] at s;have n1:=iS RO;have n2:=(nG RO).rank RN;have n3:=vL RN
 lia
theorem AE.wd (h:AE mv pt lk R U Bo C Hd Ot ps pu) (n8:mv.9<=8):Wd Bo 14880/\Wd (Bo++C++Hd++Ot) 20000/\Wd (Bo++C) 20000/\Wd (Bo++Hd) 20000/\Wd (R++U) 20000/\(∀xs∈C,xs∈R)/\∀xs∈Hd,xs∈U:=by
 obtain Ro|po|o1|u1:=h.RU;obtain B|pb|b1|e1:=h.RB;obtain T|p|t1|e2:=h.T1;obtain T2|p2|t3|e3:=h.T2;obtain T3|p3|t5|e4:=h.T3
 have wB:Wd Bo 14880:=by
  rw[e1];refine Wd.nulls ?_ b1
  show ((h.wR.nulls h.RR).app (h.wU.nulls u1)).rr () () (λxs hx=>by
   rcases ao.mp hx with hx | hx <;> show fA xs hx) b1
 have m1:∀xs∈C,xs∈R:=λxs hx=>oz t1 xs (by rw[<- e2];show hx)
 have m2:∀xs∈Hd,xs∈U:=λxs hx=>oz t3 xs (by rw[<- e3];show hx)
 have wC:=h.wR.sub m1;have wH:=h.wU.sub m2;have wO:Wd Ot 0:=Wd.unit.sub λxs hx=>oz t5 xs (by rw[<- e4];show hx)
 show #[wB,(((wB.app wC).app wH).app wO).up (),(wB.app wC).up (),(wB.app wH).up (),(h.wR.app h.wU).up (),m1,m2]
inductive LM (K:Xn) (H H':Hp) (t:Addr) (Bo C Hd Ot:Xo):Prop
 | mk (l1 l2 l3 l4:Addr) (W1 W2 W3 W4:Addr->Prop):H' t=some (.tup [.ref l1,.ref l2,.ref l3,.ref l4])->EA K W1 H' (.grid Bo) (.ref l1)->EA K W2 H' (.grid C) (.ref l2)->EA K W3 H' (.grid Hd) (.ref l3)->EA K W4 H' (.grid Ot) (.ref l4)->(∀a,W1 a\/W2 a\/W3 a\/W4 a->H a=none/\H' a≠none)->(∀a,(W2 a->¬W1 a)/\(W3 a->¬W1 a/\¬W2 a)/\(W4 a->¬W1 a/\¬W2 a/\¬W3 a))->LM K H H' t Bo C Hd Ot
inductive BJ (K:Xn) (C9:Addr) (vs:List V) (H:Hp) (Q:VK) (E9:XK):Prop
 | mk (x:Addr) (a c e:Nat) (H0:Hp) (mv pt lk:Xo):vs=[.ref x]->kU K H0 H C9 x mv pt lk->eO mv pt lk->jN mv pt a c->tO mv/\tO pt/\tO lk->N5 (aO mv mv.9) lk e->(∀R ps,aD (Xt mv pt mv.9) mv.9 R ps->Wd R 928)->(∀Ro po U pu,aD (Xt (aO mv mv.9) lk mv.9) mv.9 Ro po->aD (aL Ro po mv.9) mv.9 U pu->Wd U 928)->(∀t R U Bo C Hd Ot ps pu H',aE H H'->AE mv pt lk R U Bo C Hd Ot ps pu->LM K H H' t Bo C Hd Ot->Q (.ref t) H')->BJ K C9 vs H Q E9
theorem EA.Ze {K:Xn} (h:EA K W H (.grid rs) (.ref p)) (n:∀a,W a->H0 a=none):aP K H0 H p rs:=by
 obtain q|us|e|_|g|nu|pr:=h;cases e;show #[us,g,bv (λ_ _ #[q,a,b,c]=>#[q,a,n q b,c]) pr,nu]
theorem LM._z {K:Xn} (h:LM K H H' t Bo C Hd Ot):∃l1 l2 l3 l4,H' t=some (.tup [.ref l1,.ref l2,.ref l3,.ref l4])/\aP K H H' l1 Bo/\aP K H H' l2 C/\aP K H H' l3 Hd/\aP K H H' l4 Ot:=by
 obtain l1|l2|l3|l4|W1|W2|W3|W4|g|e1|e2|e3|e4|w|_:=h;show #[l1,l2,l3,l4,g,e1.Ze λa z=>(w a (.inl z)).1,e2.Ze λa z=>(w a (.inr (.inl z))).1,e3.Ze λa z=>(w a (.inr (.inr (.inl z)))).1,e4.Ze λa z=>(w a (.inr (.inr (.inr z)))).1]
theorem LM.W! {K:Xn} (h:LM K H H' t Bo C Hd Ot) (s:aE H' H2) (ok:Ed.ok (.grid Bo)/\Ed.ok (.grid C)/\Ed.ok (.grid Hd)/\Ed.ok (.grid Ot)) (k:∀H3,Kp (λa=>H a=none/\H' a≠none) H2 H3->Q .Xy H3):wI K 5 [.ref t] H2 Q E9:=by
 obtain l1|l2|l3|l4|W1|W2|W3|W4|g|e1|e2|e3|e4|w|dj:=h;have k0:Kp (λ_=>False) H' H2:=.of s;refine #[_,rfl,.inr (.inr (.inr (.inr #[(),t,_,[(.grid Bo,W1),(.grid C,W2),(.grid Hd,W3),(.grid Ot,W4)],rfl,kz.of (s _ _ g),.cons (EA.kp e1 k0 λ_ _ z=>z) (.cons (EA.kp e2 k0 λ_ _ z=>z) (.cons (EA.kp e3 k0 λ_ _ z=>z) (.cons (EA.kp e4 k0 λ_ _ z=>z) .nil))),(show 4<=10 by decide),λd hd=>?_,λi j f f' _v hf Y4 a h1 h2=>?_,λH3 k'=>k _ (k'.22 λa z=>?_)])))]
 ·simp only[aF,aS,or_false] at hd;rcases hd with rfl | rfl | rfl | rfl
  ·show ok.1
  ·show ok.2.1
  ·show ok.2.2.1
  ·show ok.2.2.2
 ·have d:=dj a
  match i,j,_v,hf,Y4 with
  | 0,1,_,hf,Y4=>cases hf;cases Y4;show d.1 h1 h2
  | 0,2,_,hf,Y4=>cases hf;cases Y4;show (d.2.1 h1).1 h2
  | 0,3,_,hf,Y4=>cases hf;cases Y4;show (d.2.2 h1).1 h2
  | 1,2,_,hf,Y4=>cases hf;cases Y4;show (d.2.1 h1).2 h2
  | 1,3,_,hf,Y4=>cases hf;cases Y4;show (d.2.2 h1).2.1 h2
  | 2,3,_,hf,Y4=>cases hf;cases Y4;show (d.2.2 h1).2.2 h2
  | _,j+4,_,_,Y4=>cases Y4
  | i+3,3,_v,_,_=>lia
 ·obtain f|mf|wf:=z;simp only[aF,aS,or_false] at mf;rcases mf with rfl | rfl | rfl | rfl
  ·show w a (.inl wf)
  ·show w a (.inr (.inl wf))
  ·show w a (.inr (.inr (.inl wf)))
  ·show w a (.inr (.inr (.inr wf)))
theorem CK {K:Xn} {rs:Xo} (nl:Hk l=none) (s1:aE H1 Hk) (se:aE H1 He) (g:He l=some (.lst zs)) (q:Vs (cu K H H1) rs zs):EA K (λa=>(H a=none/\H1 a≠none)\/a=l) He (.grid rs) (.ref l):=by
 refine #[l,zs,rfl,.inr rfl,g,λhm=>?_,bv (λ_ _ #[q,e,n,r]=>#[q,e,.inl #[n,by obtain _|g|_:=r;rw[g];show λz=>nomatch z],r.10 se]) q];obtain _|_|q|e|_|r:=cM q hm;cases e;obtain _|g|_:=r;rw[s1 _ _ g] at nl;cases nl
theorem Iv (m1:h1->h) (m2:h2->h1) (m5:h5->h2) (m6:h6->h5) (m7:h7->h6) (m8:h8->h7) (ma:ha->h8) (mb:hb->ha) (f7:e7->h6/\¬h7) (f8:e8->h7/\¬h8) (f9:e9->hb):((h/\¬h1\/e7)->¬(h5/\¬h6))/\((h1/\¬h2\/e8)->¬(h5/\¬h6)/\¬(h/\¬h1\/e7))/\((ha/\¬hb\/e9)->¬(h5/\¬h6)/\¬(h/\¬h1\/e7)/\¬(h1/\¬h2\/e8)):=by
 refine #[?_,?_,?_]
 ·rintro (⟨a,b⟩ | e) ⟨c,d⟩
  ·show b (m2 (m5 c))
  ·show d (f7 e).1
 ·rintro (⟨a,b⟩ | e)
  ·refine #[λ#[c,d]=>b (m5 c),?_];rintro (⟨c,d⟩ | e)
   ·show d a
   ·show b (m5 (m6 (f7 e).1))
  ·have y:=f8 e;refine #[λ#[c,d]=>d (m7 y.1),?_];rintro (⟨c,d⟩ | e)
   ·show d (m2 (m5 (m6 (m7 y.1))))
   ·show (f7 e).2 y.1
 ·intro q
  have y:ha:=by
   rcases q with ⟨a,_⟩ | e
   ·show a
   ·show mb (f9 e)
  have y6:=m7 (m8 (ma y));refine #[λ#[c,d]=>d y6,?_,?_]
  ·rintro (⟨c,d⟩ | e)
   ·show d (m2 (m5 (m6 y6)))
   ·show (f7 e).2 (m8 (ma y))
  ·rintro (⟨c,d⟩ | e)
   ·show d (m5 (m6 y6))
   ·show (f8 e).2 (ma y)
theorem Kp.below (k:Kp S H H') (hS:∀a,S a->Hb a=none) (s:aE Hb H):aE Hb H':=λa o e=>k a o (s a o e) (.inl λz=>by rw[hS a z] at e;cases e)
theorem Kp.Zf {K:Xn} (k:Kp S H H') (hS:∀a,S a->Hb a≠none) (np:Hb p=none) (g:aP K Hb H p rows):aP K Hb H' p rows:=by
 obtain us|g|pr|nu:=g;show #[us,k _ _ g (.inl λz=>hS p z np),bv (λ_ _ #[q,e,n,r]=>#[q,e,n,k.row (λz=>hS q z n) r]) pr,nu]
theorem Ph {F:α->V->Prop} {a b c d:α} (h:Vs F [a,b,c,d] ys):∃x1 x2 x3 x4,ys=[x1,x2,x3,x4]/\F a x1/\F b x2/\F c x3/\F d x4:=by
 cases h with
 | cons h1 h=>cases h with
  | cons h2 h=>cases h with
   | cons h3 h=>cases h with
    | cons h4 h=>cases h with
     | nil=>show #[_,_,_,_,rfl,h1,h2,h3,h4]
theorem HF {M1 M2 V a1 a2 c9 N v E:Nat} (B:Bd mv pt M1 M2 V a1 a2 c9) (D:eO mv pt lk) (F:N6 mv pt lk) (hn:mv.9<=N) (N8:N<=8) (h1:a1*(N - 1)+a2+c9*N<=v) (h2:N*(v+4)<=E) (h3:4*E+a1+a2+c9+3<=3900000) (h5:2*E<=3000000) (h4:N*(E+4)<=8900000) (h6:v<=4000000) (h7:a1+E+a2+(E+400)+(c9+E+123)<=5000) (h8:E<=928):(∃ν p,∀{a c},jN mv pt a c->S3 mv pt lk a c ν p)/\∀R ps,aD (Xt mv pt mv.9) mv.9 R ps->Wd R 928:=by
 refine #[#[_,_,λKF=>#[D,KF,h7,λR ps RR=>?_]],λR ps RR=>?_]
 ·obtain q|z:=Jh B D F hn N8 h1 h2 h3 h5 h4 h6 RR;show #[#[z._C D.n8 RR,_,z.sw D.n8 RR],TH z D F RR]
 ·obtain q|z:=Jh B D F hn N8 h1 h2 h3 h5 h4 h6 RR;show Wd.up #[q,z.q0,z.q1,z.rt] h8
theorem JP (h:Rg mv pt w) (D:eO mv pt lk) (F:N6 mv pt lk):(∃ν p,∀{a c},jN mv pt a c->S3 mv pt lk a c ν p)/\∀R ps,aD (Xt mv pt mv.9) mv.9 R ps->Wd R 928:=by
 rcases h with ⟨_,B⟩ | ⟨_,n5,B⟩ | ⟨_,n2,M1,M2,B⟩
 ·show HF (N:=8) (v:=112) (E:=928) B D F D.n8 () () () () () () () () ()
 ·show HF (N:=5) (v:=140) (E:=720) B D F n5 () () () () () () () () ()
 ·show HF (N:=2) (v:=306) (E:=620) B D F n2 () () () () () () () () ()
theorem Om (h:Rg (aO mv mv.9) lk w) (D:eO mv pt lk) (F:N6 mv pt lk):(∀Ro po U pu,aD (Xt (aO mv mv.9) lk mv.9) mv.9 Ro po->aD (aL Ro po mv.9) mv.9 U pu->Wd U 928)/\∀Ro po,aD (Xt (aO mv mv.9) lk mv.9) mv.9 Ro po->∃S,N7 (aL Ro po mv.9) mv.9 S:=by
 have et:(aO mv mv.9).9=mv.9:=b7;refine #[λRo po U pu RO RN=>?_,λRo po RO=>?_]
 ·obtain q|E|q0|q1|E1|_|t:=Q1 h D.turn (R:=Ro) (ps:=po) (U:=U) (pu:=pu) (by rw[et];show RO) (by rw[et];show RN);show Wd.up #[q,q0,q1,t] E1
 ·obtain M|V|a|b|c|d|e|f:=F;have wd:=(JP h D.turn #[M,V,a,b,c,uR d,f,e]).2 Ro po (by rw[et];show RO);have n8:=D.n8;show (wd.nulls RO).Zo () () fA
def Nx (N:St->Hp->Prop) (u:TS) (D:Ends):Prop:=∀σ H,u D σ H->N σ H
theorem OS (h:∀N:St->Hp->Prop,Nx N u D->t { D with nx:=N } σ H):Ts t u D σ H:=h (u D) λ_ _ q=>q
theorem T6 (hN:Nx N u D) (h:u D σ H):N σ H:=hN _ _ h
theorem gJ {K:Xn}:(FZ CX P w K mg base N qual scope f cd A outer s H E).B!.K=K:=rfl
end L2
open L2
local macro_rules | `(tactic| walk_at "hl") => `(tactic| first | (show _ ≤ VD; with_unfolding_all decide) | (with_unfolding_all exact (by decide)))
local macro_rules | `(tactic| walk_at "sq") => `(tactic| first | with_reducible assumption | with_reducible exact kz.of (by assumption) | with_reducible exact bN.of (by assumption) | with_reducible exact kz.of aK | with_reducible exact bN.of aK | assumption)
local macro_rules | `(tactic| walk_at "sc") => `(tactic| first | (with_reducible show (0 : Int) < _; decide) | with_reducible exact PR (by decide) (by decide) | with_reducible exact Kq (by decide) (by decide) | with_reducible exact cpow_of (by decide) (by decide) (by decide))
def walkOf(x:String):Lean.MacroM (Lean.TSyntax ``Lean.Parser.Tactic.tacticSeq):=
 let i:=Lean.mkIdent (.mkSimple (x.drop 1).toString)
 match x.front with
 |'0'=>`(tacticSeq|with_reducible refine $i ?_)
 |'1'=>`(tacticSeq|(with_reducible refine' $i ?h ?_);case h=>with_unfolding_all rfl)
 |'3'=>`(tacticSeq|(with_reducible refine' $i ?h ?_);case h=>walk_at "sc")
 |'4'=>`(tacticSeq|(with_reducible refine' $i ?h ?k ?l ?_);(case h=>with_reducible first|assumption|exact aK);(case k=>with_unfolding_all rfl);case l=>with_unfolding_all rfl)
 |'5'=>`(tacticSeq|(with_reducible refine' $i ?h ?_);case h=>with_reducible assumption)
 |'6'=>`(tacticSeq|with_reducible refine $i ?_;intro N hN)
 |_=>`(tacticSeq|(with_reducible refine' $i ?h ?k ?_);(case h=>walk_at "sq");case k=>with_unfolding_all rfl)
local macro_rules | `(tactic| walk_at "rd") => do
 let a←("1RA 0O5 0T5 0RI 0UY 0MH 0O7 6OS 0RY 2HQ 1O6 2cz 0OP 0RD 0RP 0T7 5T6 0OQ 0T9 3gI 0OV 0RC 4fz 0Ul 0MF 0Ry 0MI 0TX 0RS 0O1 0ME 0TY 0RK 0RX 2O0 0Nh 0RZ 0RW 0Um 0T4 0T8 0O4 0RH 0O2 0RJ 0OR 0TZ 0UZ 0OY 0Uo 0OT 0rd_eqS 0O9 0Qw 0RQ 0KW 0OZ 0MG 0OX 0RE 0OW 0O8 2O3 0rd_neS 0rd_eqB 0rd_neB 0HP 0rd_retN 0rd_orV 0OU 1rd_aug 0RM 0MD 0rd_bm0 0rd_brk 0rd_cont".splitOn " ").toArray.mapM walkOf
 `(tactic|first $[|$a]*|with_reducible refine ⟨_, rfl, ?_⟩|with_reducible refine ⟨_, _, rfl, ?_⟩)
namespace L2
open PySem PySem.Spec PyProof.Rows Nm
section
variable {X:Cx} {e e1 e2 e3:Expr} {te t1 t2 t3:TE}
theorem eG (i:Nat) {x:Str} {pos:Pos} (hN:X.N.33:=by walk_at "u") (hi:X.N[i]?=some x:=by rfl) (hx:Loc X.env.scope x:=by first | show Or.inl rfl | show Or.inr rfl) (hf:X.fn x=true\/X.env.scope.names.13 x=some .local:=by first | show .inl rfl | show .inr rfl | assumption):PG X (.Name x pos) (BY i):=Pf hN hi hx hf
theorem eJ (i:Nat) {x:Str} {pos pos':Pos} (hN:X.N.33) (he:PE X e te) (hi:X.N[i]?=some x:=by rfl) (hx:Loc X.env.scope x:=by first | show Or.inl rfl | show Or.inr rfl) (hs:swapsWith e (some (.Name x pos')) pos.line X.16=pure false:=by rfl) (hf:X.fn x=true\/X.env.scope.names.13 x=some .local:=by first | show .inl rfl | show .inr rfl | assumption):PS X (.Assign [.Name x pos'] e pos) (Mg te (BY i)):=Sd hN hi hx he hs hf
theorem c6 (a:PE X e te) (h0:Vu [e] X.16=(false,eval e X.16) :: Vu [] X.16:=by rfl):PA X [e] (ji te yX):=(fI a iE h0)
theorem cK (a:PE X e te) (b:PE X e1 t1) (h0:Vu [e,e1] X.16=(false,eval e X.16) :: Vu [e1] X.16:=by rfl) (h1:Vu [e1] X.16=(false,eval e1 X.16) :: Vu [] X.16:=by rfl):PA X [e,e1] (ji te (ji t1 yX)):=(fI a (fI b iE h1) h0)
theorem zM (a:PE X e te) (b:PE X e1 t1) (c:PE X e2 t2) (h0:Vu [e,e1,e2] X.16=(false,eval e X.16) :: Vu [e1,e2] X.16:=by rfl) (h1:Vu [e1,e2] X.16=(false,eval e1 X.16) :: Vu [e2] X.16:=by rfl) (h2:Vu [e2] X.16=(false,eval e2 X.16) :: Vu [] X.16:=by rfl):PA X [e,e1,e2] (ji te (ji t1 (ji t2 yX))):=(fI a (fI b (fI c iE h2) h1) h0)
theorem LQ (a:PE X e te) (b:PE X e1 t1) (c:PE X e2 t2) (d:PE X e3 t3) (h0:Vu [e,e1,e2,e3] X.16=(false,eval e X.16) :: Vu [e1,e2,e3] X.16:=by rfl) (h1:Vu [e1,e2,e3] X.16=(false,eval e1 X.16) :: Vu [e2,e3] X.16:=by rfl) (h2:Vu [e2,e3] X.16=(false,eval e2 X.16) :: Vu [e3] X.16:=by rfl) (h3:Vu [e3] X.16=(false,eval e3 X.16) :: Vu [] X.16:=by rfl):PA X [e,e1,e2,e3] (ji te (ji t1 (ji t2 (ji t3 yX)))):=(fI a (fI b (fI c (fI d iE h3) h2) h1) h0)
abbrev bQ:=@pv X 0
abbrev cJ:=@pv X 1
abbrev eI:=@pv X 2
abbrev ky:=@pv X 3
abbrev rG:=@pv X 4
abbrev tU:=@pv X 5
abbrev rg:=@pv X 6
abbrev Ez:=@pv X 7
abbrev Ey:=@pv X 8
abbrev sC (N:List Str) (k:Nat) (st:Stmt):Prop:=tH N (N.21 k) (eN st)
end
end L2
local macro_rules | `(tactic| walk_at "w") => `(tactic| repeat walk_at "rd")
local macro_rules | `(tactic| walk_at "d") => `(tactic| exact ⟨rfl,rfl,rfl,by decide +kernel,rfl,by decide +kernel,by decide +kernel⟩)
namespace Lw
open PySem PySem.Spec PyProof.Rows L2 Nm
abbrev bd (P:Wa):Prop:=P.given.tree=none
local macro_rules | `(tactic| exists $e) => `(tactic| (walk_at "w";refine $e))
local macro_rules | `(tactic| walk_at "n") => `(tactic| (intro vs H Q E h;repeat first|(subst_vars;rfl)|(cases h;subst_vars;rfl)|rcases h with ⟨_,h⟩))
local macro_rules | `(tactic| walk_at "i") => `(tactic| set_option tactic.hygienic false in intros)
local macro_rules | `(tactic| walk_at "s") => `(tactic| refine pe (by dsimp only [Tf] <;> rfl) ?_)
local macro_rules | `(tactic| left) => `(tactic| (walk_at "s";try rw[gJ]))
local macro_rules | `(tactic| walk_at "d") => `(tactic| exact ⟨rfl, rfl, rfl, by decide +kernel, rfl, by decide +kernel, by decide +kernel⟩)
local macro_rules | `(tactic| walk_at "u") => `(tactic| (change Wu (α := Str) (_::_);decide +kernel))
set_option maxHeartbeats 4000000
def top (i:Nat):Stmt:=PySem.Challenge.pw_helmsum_k76_four_parts.main.body.getD i (.Pass #[0,0,0,0])
abbrev uH:Stmt:=top 68
abbrev r8:Stmt:=top 69
abbrev mR:Stmt:=top 85
abbrev sG:Stmt:=top 87
abbrev uF:Stmt:=top 70
abbrev uD:Stmt:=top 71
abbrev sA:Stmt:=top 78
abbrev sv:Stmt:=top 73
abbrev xm:Stmt:=top 80
abbrev qe:Stmt:=top 82
abbrev kG:Stmt:=top 88
abbrev oQ:Stmt:=top 75
abbrev uE:Stmt:=top 76
abbrev sE:Stmt:=top 81
abbrev qd:Stmt:=top 83
abbrev oP:Stmt:=top 89
abbrev rS:Stmt:=top 49
abbrev uB:Stmt:=top 10
abbrev kF:Stmt:=top 11
abbrev rX:Stmt:=top 13
abbrev zz:Stmt:=top 17
abbrev oN:Stmt:=top 50
abbrev d7:Stmt:=inClass (top 51) 0
abbrev oS:Stmt:=top 84
abbrev sF:Stmt:=top 90
abbrev rV:Stmt:=top 19
abbrev j7:Stmt:=top 12
abbrev mJ:Stmt:=top 18
abbrev p5:Stmt:=top 31
abbrev xk:Stmt:=top 33
abbrev p6:Stmt:=top 32
abbrev CY:Stmt:=top 34
abbrev zy:Stmt:=top 14
abbrev w5:Stmt:=top 35
abbrev wZ:Stmt:=top 20
abbrev xj:Stmt:=top 23
abbrev pX:Stmt:=top 42
abbrev oJ:Stmt:=top 43
abbrev pV:Stmt:=top 44
abbrev oK:Stmt:=top 24
abbrev fG:Stmt:=inClass (top 51) 3
abbrev uy:Stmt:=top 21
abbrev mI:Stmt:=top 28
abbrev xh:Stmt:=top 29
abbrev C0:Stmt:=top 15
abbrev xg:Stmt:=top 38
abbrev oM:Stmt:=top 30
abbrev CZ:Stmt:=top 39
abbrev oI:Stmt:=top 53
abbrev pW:Stmt:=top 36
abbrev rY:Stmt:=top 65
abbrev rT:Stmt:=top 26
abbrev p4:Stmt:=top 66
abbrev kH:Stmt:=top 91
abbrev oR:Stmt:=top 92
abbrev nP:Stmt:=top 93
abbrev su:Stmt:=top 74
abbrev sI:Stmt:=top 72
abbrev qg:Stmt:=top 79
abbrev sJ:Stmt:=top 94
abbrev uG:Stmt:=top 77
abbrev xl:Stmt:=top 86
abbrev qh:Stmt:=top 95
abbrev sD:Stmt:=top 96
abbrev p9:Stmt:=top 97
abbrev sN:Stmt:=top 99
abbrev rZ:Stmt:=top 98
abbrev oO:Stmt:=top 100
abbrev xi:Stmt:=top 40
abbrev pY:Stmt:=top 25
abbrev uC:Stmt:=top 55
abbrev nO:Stmt:=top 60
abbrev xf:Stmt:=top 61
abbrev pZ:Stmt:=top 56
abbrev pT:Stmt:=top 58
abbrev rW:Stmt:=top 63
abbrev mH:Stmt:=top 57
abbrev nN:Stmt:=top 62
abbrev uA:Stmt:=top 64
abbrev p7:Stmt:=top 101
abbrev Mv:Stmt:=top 102
set_option genInjectivity false in
set_option genSizeOf false in
structure Ads where
 Ja:Addr
 IK:Vp
 Gx:Addr
 FL:Vp
 El:Addr
 DW:Vp
 GH:Addr
 FV:Vp
 IY:Addr
 II:Vp
 IW:Addr
 IG:Vp
 GB:Addr
 FQ:Vp
 Gz:Addr
 FO:Vp
 LL:Addr
 Lu:Vp
 Eo:Addr
 DZ:Vp
 xQ:Addr
 xM:Vp
 Bs:Addr
 Bf:Vp
 IX:Addr
 IH:Vp
 GD:Addr
 FT:Vp
 En:Addr
 DY:Vp
 Br:Addr
 Be:Vp
 Ge:Addr
 FE:Vp
 IU:Addr
 IE:Vp
 xP:Addr
 xK:Vp
 Gr:Addr
 FI:Vp
 NX:Addr
 NO:Vp
 Bp:Addr
 A9:Vp
 ks:Addr
 kq:Vp
 Bu:Addr
 Bh:Vp
 GG:Addr
 FU:Vp
 Gh:Addr
 FG:Vp
 vX:Addr
 vR:Vp
 yD:Addr
 yy:Vp
 Ej:Addr
 DU:Vp
 LI:Addr
 Lr:Vp
 Ek:Addr
 DV:Vp
 P0:Addr
 PJ:Vp
 NW:Addr
 NM:Vp
 LB:Addr
 Ll:Vp
 LA:Addr
 Lk:Vp
 LH:Addr
 Lq:Vp
 Ef:Addr
 DP:Vp
 Bl:Addr
 A6:Vp
 Ec:Addr
 DN:Vp
 Bm:Addr
 A7:Vp
 mO:Addr
 mN:Vp
 IS:Addr
 IC:Vp
 yC:Addr
 yx:Vp
 LF:Addr
 Lo:Vp
 P7:Addr
 PL:Vp
 LD:Addr
 Ln:Vp
 Bn:Addr
 A8:Vp
 P6:Addr
 PK:Vp
 Bj:Addr
 A5:Vp
 Ee:Addr
 DO:Vp
 Gu:Addr
 FJ:Vp
 Gg:Addr
 FF:Vp
 Ei:Addr
 DS:Vp
 xR:Addr
 xN:Vp
 Bt:Addr
 Bg:Vp
 Ay:Addr
 Am:Vp
 Gy:Addr
 FN:Vp
 GI:Addr
 FW:Vp
 Ep:Addr
 D3:Vp
 GK:Addr
 FX:Vp
 IZ:Addr
 IJ:Vp
 LJ:Addr
 Ls:Vp
 Er:Addr
 D4:Vp
 GC:Addr
 FR:Vp
 Em:Addr
 DX:Vp
 GN:Addr
 FY:Vp
 Gv:Addr
 FK:Vp
 Bq:Addr
 Bc:Vp
 LG:Addr
 Lp:Vp
 Eg:Addr
 DQ:Vp
 IV:Addr
 IF:Vp
 Ax:Addr
 Al:Vp
 LC:Addr
 Lm:Vp
 Eh:Addr
 DR:Vp
 Eb:Addr
 DM:Vp
 Gj:Addr
 FH:Vp
 yB:Addr
 yw:Vp
 Aw:Addr
 Ak:Vp
 IT:Addr
 ID:Vp
 qX:Addr
 qS:Vp
 QQ:Addr
 QP:Vp
 XT:Addr
 ZP:Addr
 Yy:Tok
 YU:Tok
 YI:Tok
 Xg:Addr
structure Txt (K:W.Frag) (mg:Str->Option Value) (Z:Ads):Prop where
 ox:Df K mg "_law_bag" uH ["_law_script"] Z.Ja Z.IK
 br:Df K mg "_law_take" r8 ["_law_bag_here","_law_many"] Z.Gx Z.FL
 lF:Df K mg "_law_sizes" mR ["_law_bag_here"] Z.El Z.DW
 iY:Df K mg "_law_line" sG ["_law_bag_here","_law_n"] Z.GH Z.FV
 d4:Df K mg "_law_low" uF ["_law_top","_law_bottom"] Z.IY Z.II
 iJ:Df K mg "_law_sum" uD ["_law_one","_law_other"] Z.IW Z.IG
 mZ:Df K mg "_law_plus" sA ["_law_one","_law_other"] Z.GB Z.FQ
 gQ:Df K mg "_law_prod" sv ["_law_one","_law_other"] Z.Gz Z.FO
 jJ:Df K mg "_law_by" xm ["_law_by_here","_law_row_here"] Z.LL Z.Lu
 jt:Df K mg "_law_mixed" qe ["_law_bag_here","_law_move_here","_law_put","_law_look"] Z.Eo Z.DZ
 ij:Df K mg "_law_two_lines" kG ["_law_bag_here"] Z.xQ Z.xM
 ki:Df K mg "_law_number" oQ ["_law_bag_here","_law_wide"] Z.Bs Z.Bf
 jT:Df K mg "_law_row" uE ["_law_bag_here","_law_many","_law_wide"] Z.IX Z.IH
 m9:Df K mg "_law_move" sE ["_law_bag_here","_law_n","_law_way","_law_first","_law_wide"] Z.GD Z.FT
 lI:Df K mg "_law_parts" qd ["_law_bag_here","_law_n","_law_ins","_law_outs","_law_wide"] Z.En Z.DY
 kh:Df K mg "_law_system" oP ["_law_bag_here"] Z.Br Z.Be
 iT:Df K mg "want_list" rS ["thing","at","most"] Z.Ge Z.FE
 mi:Df K mg "is_whole" uB ["thing"] Z.IU Z.IE
 d9:Df K mg "common_divisor" kF ["one","other"] Z.xP Z.xK
 mW:Df K mg "is_number" rX ["thing"] Z.Gr Z.FI
 tD:Df K mg "is_row" zz ["thing","many"] Z.NX Z.NO
 gF:Df K mg "copied_rows" oN ["things","wide"] Z.Bp Z.A9
 fL:Binds K Z.kq ["self","move","put","look"] []
 oB:LY K "__init__" "System.__init__" d7 Z.ks Z.kq
 fv:Df K mg "_law_copied" oS ["_law_grid"] Z.Bu Z.Bh
 ng:Df K mg "_law_made" sF ["_law_parts_here"] Z.GG Z.FU
 iU:Df K mg "tops_over" rV ["row","bottom"] Z.Gh Z.FG
 gP:Df K mg "common_multiple" j7 ["wholes"] Z.vX Z.vR
 fb:Df K mg "common_bottom" mJ ["row"] Z.yD Z.yy
 lD:Df K mg "first_with" p5 ["lines","begin","place"] Z.Ej Z.DU
 qL:Df K mg "cleared" xk ["lines","at","place","before"] Z.LI Z.Lr
 lE:Df K mg "brought_up" p6 ["lines","at","to"] Z.Ek Z.DV
 sX:Df K mg "swept" CY ["rows","wide"] Z.P0 Z.PJ
 nH:Df K mg "lowest" zy ["top","bottom"] Z.NW Z.NM
 jH:Df K mg "reduced" w5 ["rows","wide"] Z.LB Z.Ll
 qI:Df K mg "row_dot" wZ ["one","other"] Z.LA Z.Lk
 jI:Df K mg "grid_on" xj ["grid","row"] Z.LH Z.Lq
 lh:Df K mg "moved_rows" pX ["system","rows"] Z.Ef Z.DP
 ke:Df K mg "reach_grown" oJ ["system","steps"] Z.Bl Z.A6
 hZ:Df K mg "reach_rows" pV ["system","steps"] Z.Ec Z.DN
 fu:Df K mg "grid_turned" oK ["grid","wide"] Z.Bm Z.A7
 pB:S7 K Z.Xg "turned" Z.mO
 rj:Binds K Z.mN ["self"] []
 rA:LY K "turned" "System.turned" fG Z.mO Z.mN
 jS:Df K mg "unit_row" uy ["many","at"] Z.IS Z.IC
 iW:Df K mg "leading_place" mI ["row"] Z.yC Z.yx
 kR:Df K mg "leading" xh ["rows"] Z.LF Z.Lo
 vD:Df K mg "minus" C0 ["one","other"] Z.P7 Z.PL
 qJ:Df K mg "null_at" xg ["rows","wide","at"] Z.LD Z.Ln
 iI:Df K mg "free_places" oM ["rows","wide"] Z.Bn Z.A8
 nV:Df K mg "nulls" CZ ["rows","wide"] Z.P6 Z.PK
 iH:Df K mg "unseen_rows" oI ["system","steps"] Z.Bj Z.A5
 k9:Df K mg "new_places" pW ["rows","wide"] Z.Ee Z.DO
 iX:Df K mg "adding_to" rY ["ahead","rows","wide"] Z.Gu Z.FJ
 kd:Df K mg "unit_grid" rT ["many"] Z.Gg Z.FF
 js:Df K mg "four_parts" p4 ["system"] Z.Ei Z.DS
 ik:Df K mg "_law_is_number" kH ["_law_thing"] Z.xR Z.xN
 kj:Df K mg "_law_is_row" oR ["_law_thing","_law_many"] Z.Bt Z.Bg
 jB:Df K mg "_law_is_grid" nP ["_law_thing","_law_many","_law_wide"] Z.Ay Z.Am
 mY:Df K mg "_law_quot" su ["_law_one","_law_other"] Z.Gy Z.FN
 nh:Df K mg "_law_less" sI ["_law_one","_law_other"] Z.GI Z.FW
 ju:Df K mg "_law_minus" qg ["_law_one","_law_other"] Z.Ep Z.D3
 dW:Df K mg "_law_lean" sJ ["_law_rows","_law_wide"] Z.GK Z.FX
 mo:Df K mg "_law_dot" uG ["_law_one","_law_other"] Z.IZ Z.IJ
 qM:Df K mg "_law_on" xl ["_law_grid","_law_row_here"] Z.LJ Z.Ls
 lO:Df K mg "_law_added" qh ["_law_parts_here","_law_steps"] Z.Er Z.D4
 m4:Df K mg "_law_over" sD ["_law_parts_here","_law_row_here"] Z.GC Z.FR
 lG:Df K mg "_law_shown" p9 ["_law_parts_here","_law_steps"] Z.Em Z.DX
 kn:Df K mg "_law_free" sN ["_law_rows","_law_n"] Z.GN Z.FY
 mX:Df K mg "_law_unit" rZ ["_law_n","_law_at"] Z.Gv Z.FK
 kg:Df K mg "_law_unseen" oO ["_law_parts_here"] Z.Bq Z.Bc
 qK:Df K mg "inverse" xi ["grid"] Z.LG Z.Lp
 jo:Df K mg "grid_times" pY ["one","other","wide"] Z.Eg Z.DQ
 ow:Df K mg "in_basis" uC ["system","rows"] Z.IV Z.IF
 fH:Df K mg "first_places" nO ["rows","many"] Z.Ax Z.Al
 nU:Df K mg "part_by" xf ["system","found"] Z.LC Z.Lm
 jq:Df K mg "free_units" pZ ["rows","wide"] Z.Eh Z.DR
 k6:Df K mg "seen_first" pT ["system"] Z.Eb Z.DM
 mV:Df K mg "seen_part" rW ["system"] Z.Gj Z.FH
 iV:Df K mg "steered_first" mH ["system"] Z.yB Z.yw
 jA:Df K mg "steered_part" nN ["system"] Z.Aw Z.Ak
 ou:Df K mg "smallest" uA ["system"] Z.IT Z.ID
 fW:Df K mg "_law_spoil" p7 ["_law_thing"] Z.qX Z.qS
 QU:LY K "law" "law" Mv Z.QQ Z.QP
 abs:mg "abs"=none
 len:mg "len"=none
 min:mg "min"=none
 int:mg "int"=none
 range:mg "range"=none
 isinstance:mg "isinstance"=none
 list:mg "list"=none
 bool:mg "bool"=none
 tuple:mg "tuple"=none
 all:mg "all"=none
 enumerate:mg "enumerate"=none
 zip:mg "zip"=none
 sum:mg "sum"=none
 XW:mg "NOUGHT"=some (.ref Z.XT)
 XU:∀H,kz K H Z.XT [.int 0,.int 1]
 ZD:mg "ONE"=some (.ref Z.ZP)
 Zw:∀H,kz K H Z.ZP [.int 1,.int 1]
 XR:mg "MOST_STATES"=some (.int 8 Z.Yy)
 X8:mg "MOST_PUTS"=some (.int 4 Z.YU)
 X4:mg "MOST_LOOKS"=some (.int 4 Z.YI)
 XD:mg "System"=some (.ref Z.Xg)
 Xm:LZ K Z.Xg
 XH:ku K Z.Xg "move"
 Xu:ku K Z.Xg "states"
 XQ:ku K Z.Xg "put"
 ZC:ku K Z.Xg "ins"
 XI:ku K Z.Xg "look"
 Zc:ku K Z.Xg "outs"
 XC:Mk K Z.Xg Z.ks
section
variable {P:Wa} {w:Wm} {K:W.Frag} {mg:Str->Option Value} {base:Heap} {Z:Ads}
theorem E7:sC ["_law_script"] 1 uH:=by walk_at "d"
theorem Fn (T:Txt K mg Z) (ac:bd P):T.ox.o P w base 1 (Ms K):=by
 refine T.ox.F.k E7 ?_;walk_at "i";obtain a|ns|rfl|hS|Xv|k:=h;refine #[_,(aA (aQ (fq (LQ aw aw aw (bS ["_law_cell"] [] [] (cg (sQ CI bQ vm (vh aw))) (λ_=>(eG 0)) (λ_=>bZ) (λ_=>(bx As (by rfl) T.abs PyProof.Rows.boot_abs (c6 bQ)))))))),?_];left
 exists #[a,_,rfl,hS,λl hl=>?_];have YR:(tJ (ns.11 V.int) none (some 63)).9<=63:=ag (yg _ _ _) (by simpa using Xv);refine #[l,rfl,#[_,bN.of aK],?_];refine dn (K:=K) (a:=l) (xs:=tJ (ns.11 V.int) none (some 63)) (λi ys H'=>H'=upd H l (.lst (tJ (ns.11 V.int) none (some 63)))/\∃cs:List Int,ys=cs.11 V.int/\∀x∈cs,0<=x) (ag YR ()) #[rfl,[],rfl,λ_ z=>nomatch z] (λi ys H' _ #[e,_]=>by subst e;show bN.of aK) ?_ ?_
 ·rintro i x ys H' hx hi ⟨rfl,cs,rfl,Zq⟩
  obtain ⟨z,rfl⟩:∃z,x=V.int z:=by
   have hm:x∈ns.11 V.int:=List.mem_of_mem_drop (b6 (ar hx));obtain z|_|e:=au.mp hm;show #[z,e.20]
  exists #[rfl,cs++[if z < 0 then -z else z],by simp,λx hx=>?_];rcases ao.mp hx with hx | hx
  ·show Zq x hx
  ·have e:x=if z < 0 then -z else z:=by simpa using hx
   subst e
   split <;> lia
 ·rintro ys H' hy ⟨rfl,cs,rfl,Zq⟩ p hp;exists #[by change 4<=VD;decide,λb hb=>?_];have n1:b≠p:=λz=>by rw[z,aK] at hb;cases hb
  have hb1:(upd H l (.lst (tJ (ns.11 V.int) none (some 63)))) b=none:=by rw[bA n1] at hb;show hb
  have s1:aE H (upd H l (.lst (tJ (ns.11 V.int) none (some 63)))):=aE.new hl;refine k b _ (s1.54 hb1) #[p,0,1234567891,0,cs,aK,by rw[bA n1.20];show aK,(),(),(),Zq] ((s1.4 (aE.new hp)).4 (aE.new hb))
theorem eS:sC ["_law_bag_here","_law_many","_law_more","_law_cell","_law_value","_law_first","_law_second"] 2 r8:=by walk_at "d"
theorem bO (T:Txt K mg Z) (ac:bd P):T.br.o P w base 1 OG:=by
 refine T.br.F.k eS ?_;walk_at "i";obtain p|n|rfl|⟨q,a,b,c,cs,hp,hq,ha,hc,YR,Zq⟩|hn|hn2|k:=h;have nqp:q≠p:=Lz hp hq
 refine #[_,(jR (c5 (bf gD (aZ bV bQ aw) aw (bE _)) (av (eJ 2 eS.nd aw)
  (jR (c5 (bf tW (aZ bV bQ aw) (bx aR (by rfl) T.38 aM (c6 (aZ bV bQ aw))) (bE _)) (av (eJ 3 eS.nd (aZ bV (aZ bV bQ aw) (aZ bV bQ aw)))
  (av (Pd bQ aw Nr aw SD set_list)
  (av (c5 (bf zP ky aw (bE _)) (aA (fR ky (ib bQ aw set_list))) bX)
  (aA (eJ 2 eS.nd (bF ic (bF oV ky aw) aw)))))) bX)
  (aA (fR (bF oV (bF ic (bF c4 (aZ bV bQ aw) aw) eI) aw) (ib bQ aw set_list))))) bX)
  (av (c5 (bf zO (aZ bV bQ aw) aw (bE _)) (av (eJ 4 eS.nd (bF oV (aZ bV bQ aw) cJ))
  (av (fR (bF (j8 rfl eS rfl rfl rfl ac (vP hr)) (aZ bV bQ aw) cJ) (ib bQ aw set_list))
  (aA (aQ rG)))) bX)
  (av (eJ 5 eS.nd (bF oV (bF c4 (aZ bV bQ aw) aw) aw))
  (av (eJ 6 eS.nd (bF oV (bF c4 tU aw) aw))
  (av (c5 (bf zO cJ aw (bE _)) (aA (aQ (bF oV (bF ic (bF c4 rg aw) tU) cJ))) bX)
  (aA (aQ (bF oV (bF (j8 rfl eS rfl rfl rfl ac (vP hr)) rg aw) cJ)))))))),?_]
 left
 refine #[λσ' H'=>∃(x y:Option V) (a' b' c':Int),σ'=[some (.ref p),some (.int n),x,y,none,none,none]/\H' p=some (.lst [.int a',.int b',.int c',.ref q])/\0<=a'/\0<=c'/\c'<=cs.9/\de p H H',?_,?_]
 ·exists jL (λh0=>?_) (λh0=>?_)
  ·exists #[λσ' H'=>∃(m:Int) (y:Option V) (a' c':Int),σ'=[some (.ref p),some (.int n),some (.int m),y,none,none,none]/\H' p=some (.lst [.int a',.int b,.int c',.ref q])/\0<=a'/\0<=c'/\c'<=cs.9/\de p H H',?_,?_]
   ·exists #[_,_,rfl,.inl (bN.of hq),?_];exists jL (λh1=>?_) (λh1=>?_)
    ·have h1':c < cs.9:=by simpa using of_decide_eq_true h1
     obtain ⟨z,hz⟩:∃z,cs[c.28]?=some z:=#[_,ae ()];have hz0:0<=z:=Zq z (ar hz);exists cz (bN.of hq) (v:=.int z) ?_ ?_
     ·have:=ee (xs:=cs.11 V.int) (j:=c.28) (v:=.int z) (by rw[az,hz];rfl);rwa [Int.toNat_of_nonneg hc] at this
     exists jL (λh2=>?_) (λh2=>?_)
     ·exists #[_,_,z,c+1,rfl,aK,hz0,(),(),(de.set hp).4 (de.set aK)]
     ·exists #[_,_,a,c+1,rfl,aK,ha,(),(),de.set hp]
    ·exists #[_,_,a,c,rfl,hp,ha,hc,YR,de.refl _]
   ·rintro σ' H' ⟨m,y,a',c',rfl,ZV,ZX,YB,ZH,u'⟩;exists #[_,_,a',_,c',rfl,aK,ZX,YB,ZH,u'.4 (de.set ZV)]
  ·exists #[_,_,a,b,c,rfl,hp,ha,hc,YR,de.refl _]
 ·rintro σ' H' ⟨x,y,a',b',c',rfl,ZV,ZX,YB,ZH,u'⟩;have Z8:H' q=some (.lst (cs.11 V.int)):=u'.1 q _ hq nqp
  have sn:Sz 8999000 n:=by
   change n.15 < 2^8999000
   show bI (show n.15 < 2^64 by lia) (ak () ())
  exists jL (λh0=>?_) (λh0=>?_)
  ·exists gI (show (0:Int) < n from hn) ?_;exists gI (show rC _ _ from #[(),sn]) ?_;exists k _ _ (nD _ ()) (jF _ hn) #[q,_,b',c',cs,aK,by rw[bA nqp];show Z8,?_,YB,ZH,Zq] (u'.4 (de.set ZV));rw[cL _ ()];show Int.ediv_nonneg ZX ()
  ·exists jL (λh1=>?_) (λh1=>?_)
   ·exists gI (show (0:Int) < n from hn) ?_;show k _ _ (nD _ ()) (jF _ hn) #[q,a',b',c',cs,ZV,Z8,ZX,YB,ZH,Zq] u'
   ·exists gI (show rC _ _ from #[(),by change (3:Nat) < 2^8999000;show bI (show 3 < 2^2 by decide) (ak () ())]) ?_;exists gI (show (0:Int) < n from hn) ?_;show k _ _ (nD _ ()) (jF _ hn) #[q,a',b',c',cs,ZV,Z8,ZX,YB,ZH,Zq] u'
theorem Bi:∃x1 x2 x3 x4 x5 x6 x7 x8 x9 x10 x11 x12 x13 x14 x15 x16:Expr,x1=(Vw (VJ 0) 0 #[337,16,337,17])/\x2=(Vw (VJ 1) 0 #[337,19,337,20])/\x3=(Vw (VJ 1) 0 #[337,22,337,23])/\x4=(Vw (VJ 1) 0 #[337,25,337,26])/\x5=(Vw (VJ 2) 0 #[337,28,337,29])/\x6=(Vw (VJ 2) 0 #[337,31,337,32])/\x7=(Vw (VJ 3) 0 #[337,34,337,35])/\x8=(Vw (VJ 4) 0 #[337,37,337,38])/\x9=(Vw (VJ 0) 0 #[338,17,338,18])/\x10=(Vw (VJ 1) 0 #[338,20,338,21])/\x11=(Vw (VJ 1) 0 #[338,23,338,24])/\x12=(Vw (VJ 1) 0 #[338,26,338,27])/\x13=(Vw (VJ 2) 0 #[338,29,338,30])/\x14=(Vw (VJ 2) 0 #[338,32,338,33])/\x15=(Vw (VJ 3) 0 #[338,35,338,36])/\x16=(Vw (VJ 4) 0 #[338,38,338,39])/\jC mR=[ (WQ (targets:=[(VL "_law_n" #[334,4,334,10])]) (value:=(WI (func:=(VL "_law_take" #[334,13,334,22])) (args:=[ (VL "_law_bag_here" #[334,23,334,36]),(Vw (VJ 5) 0 #[334,38,334,39])]) (keywords:=[]) (pos:=#[334,13,334,40]))) (pos:=#[334,4,334,40])),(Stmt.If (test:=(Expr.Compare (left:=(WI (func:=(VL "_law_take" #[335,7,335,16])) (args:=[ (VL "_law_bag_here" #[335,17,335,30]),(Vw (VJ 8) 0 #[335,32,335,33])]) (keywords:=[]) (pos:=#[335,7,335,34]))) (ops:=[PySem.CmpOp.Eq]) (comparators:=[(Vw (VJ 7) 0 #[335,38,335,39])]) (pos:=#[335,7,335,39]))) (body:=[ (WQ (targets:=[(VL "_law_n" #[336,8,336,14])]) (value:=(Vw (VJ 5) 0 #[336,17,336,18])) (pos:=#[336,8,336,18]))]) (orelse:=[]) (pos:=#[335,4,336,18])),(WQ (targets:=[(VL "_law_ins" #[337,4,337,12])]) (value:=(Expr.Subscript (value:=(Expr.List (elts:=[x1,x2,x3,x4,x5,x6,x7,x8]) (pos:=#[337,15,337,39]))) (slice:=(WI (func:=(VL "_law_take" #[337,40,337,49])) (args:=[ (VL "_law_bag_here" #[337,50,337,63]),(Vw (VJ 8) 0 #[337,65,337,66])]) (keywords:=[]) (pos:=#[337,40,337,67]))) (pos:=#[337,15,337,68]))) (pos:=#[337,4,337,68])),(WQ (targets:=[(VL "_law_outs" #[338,4,338,13])]) (value:=(Expr.Subscript (value:=(Expr.List (elts:=[x9,x10,x11,x12,x13,x14,x15,x16]) (pos:=#[338,16,338,40]))) (slice:=(WI (func:=(VL "_law_take" #[338,41,338,50])) (args:=[ (VL "_law_bag_here" #[338,51,338,64]),(Vw (VJ 8) 0 #[338,66,338,67])]) (keywords:=[]) (pos:=#[338,41,338,68]))) (pos:=#[338,16,338,69]))) (pos:=#[338,4,338,69])),(Stmt.If (test:=(Expr.Compare (left:=(VL "_law_n" #[339,7,339,13])) (ops:=[PySem.CmpOp.Eq]) (comparators:=[(Vw (VJ 5) 0 #[339,17,339,18])]) (pos:=#[339,7,339,18]))) (body:=[ (WQ (targets:=[ (Expr.Tuple (elts:=[(VL "_law_ins" #[340,8,340,16]),(VL "_law_outs" #[340,18,340,27])]) (k:=0) (pos:=#[340,8,340,27]))]) (value:=(Expr.Tuple (elts:=[ (WI (func:=(VL "min" #[340,31,340,34])) (args:=[ (VL "_law_ins" #[340,35,340,43]),(Vw (VJ 2) 0 #[340,45,340,46])]) (keywords:=[]) (pos:=#[340,31,340,47])),(WI (func:=(VL "min" #[340,49,340,52])) (args:=[ (VL "_law_outs" #[340,53,340,62]),(Vw (VJ 2) 0 #[340,64,340,65])]) (keywords:=[]) (pos:=#[340,49,340,66]))]) (k:=0) (pos:=#[340,30,340,67]))) (pos:=#[340,8,340,67]))]) (orelse:=[]) (pos:=#[339,4,340,67])),(WQ (targets:=[(VL "_law_wide" #[341,4,341,13])]) (value:=(Expr.Subscript (value:=(Expr.List (elts:=[ (Vw (VJ 4) 0 #[341,17,341,18]),(Vw (VJ 4) 0 #[341,20,341,21]),(Vw (VJ 9) 0 #[341,23,341,24]),(Vw (VJ 1000000) 0 #[341,26,341,33])]) (pos:=#[341,16,341,34]))) (slice:=(WI (func:=(VL "_law_take" #[341,35,341,44])) (args:=[ (VL "_law_bag_here" #[341,45,341,58]),(Vw (VJ 4) 0 #[341,60,341,61])]) (keywords:=[]) (pos:=#[341,35,341,62]))) (pos:=#[341,16,341,63]))) (pos:=#[341,4,341,63])),(Stmt.If (test:=(Expr.Compare (left:=(VL "_law_wide" #[342,7,342,16])) (ops:=[PySem.CmpOp.Gt]) (comparators:=[(Vw (VJ 9) 0 #[342,19,342,20])]) (pos:=#[342,7,342,20]))) (body:=[ (WQ (targets:=[(VL "_law_n" #[343,8,343,14])]) (value:=(WI (func:=(VL "min" #[343,17,343,20])) (args:=[ (VL "_law_n" #[343,21,343,27]),(Vw (VJ 2) 0 #[343,29,343,30])]) (keywords:=[]) (pos:=#[343,17,343,31]))) (pos:=#[343,8,343,31]))]) (orelse:=[]) (pos:=#[342,4,343,31])),(Stmt.Return (value:=(some (Expr.Tuple (elts:=[ (VL "_law_n" #[344,12,344,18]),(VL "_law_ins" #[344,20,344,28]),(VL "_law_outs" #[344,30,344,39]),(VL "_law_wide" #[344,41,344,50])]) (k:=0) (pos:=#[344,11,344,51])))) (pos:=#[344,4,344,51]))]:=#[_,_,_,_,_,_,_,_,_,_,_,_,_,_,_,_,rfl,rfl,rfl,rfl,rfl,rfl,rfl,rfl,rfl,rfl,rfl,rfl,rfl,rfl,rfl,rfl,by with_unfolding_all rfl]
theorem eV:sC ["_law_bag_here","_law_n","_law_ins","_law_outs","_law_wide"] 1 mR:=by walk_at "d"
theorem A1 (T:Txt K mg Z) (ac:bd P):T.lF.o P w base 2 KI:=by
 refine T.lF.F.k eV ?_;walk_at "i";obtain b|rfl|hB|k:=h;obtain x1|x2|x3|x4|x5|x6|x7|x8|x9|x10|x11|x12|x13|x14|x15|x16|hx1|hx2|hx3|_W|hx5|hx6|_V|hx8|hx9|aem|ael|aek|aej|aei|aeh|aeg|_y:=Bi;rw[_y]
 refine #[_,(av (eJ 1 eV.nd (cH (bO T ac) hr T.br (cK bQ aw)))
  (jR (c5 (bf gD (cH (bO T ac) hr T.br (cK bQ aw)) aw (bE _)) (aA (eJ 1 eV.nd aw)) bX)
  (av (eJ 2 eV.nd (aZ bV (fq (eL hx1 aw (eL hx2 aw (eL hx3 aw (eL _W aw (eL hx5 aw (eL hx6 aw (eL _V aw (eL hx8 aw iE))))))))) (cH (bO T ac) hr T.br (cK bQ aw))))
  (av (eJ 3 eV.nd (aZ bV (fq (eL hx9 aw (eL aem aw (eL ael aw (eL aek aw (eL aej aw (eL aei aw (eL aeh aw (eL aeg aw iE))))))))) (cH (bO T ac) hr T.br (cK bQ aw))))
  (jR (c5 (bf gD cJ aw (bE _)) (aA (MJ (i:=2) (j:=3) rfl eV.nd rfl rfl () rfl rfl (cK (bx (tG rfl) (by rfl) T.min Wj (cK eI aw)) (bx (tG rfl) (by rfl) T.min Wj (cK ky aw))) rfl)) bX)
  (av (eJ 4 eV.nd (aZ bV (fq (LQ aw aw aw aw)) (cH (bO T ac) hr T.br (cK bQ aw))))
  (jR (c5 (bf zO rG aw (bE _)) (aA (eJ 1 eV.nd (bx (tG rfl) (by rfl) T.min Wj (cK cJ aw)))) bX)
  (aA (aQ (cY (LQ cJ eI ky rG))))))))))),?_]
 left
 exists #[b,5,rfl,hB,(),(),λn H1 n0 n1 B1 u1=>?_];obtain n|rfl:=jb n0;exists #[λσ' H'=>(∃n:Nat,σ'=[some (.ref b),some (.int n),none,none,none]/\n<=5)/\jW H' b/\de b H H',?_,?_]
 ·exists #[b,8,rfl,B1,(),(),λv H2 v0 v1 B2 u2=>?_];exists jL (λ_=>?_) (λ_=>?_)
  ·exists #[#[5,rfl,()],B2,u1.4 u2]
  ·exists #[#[n,rfl,()],B2,u1.4 u2]
 clear n0 n1 u1 B1;rintro σ' H1 ⟨⟨n,rfl,n5⟩,B1,u1⟩;exists dJ λl0 H2 s2 n2 g2=>?_
 exists #[b,8,rfl,B1.10 s2,(),(),λv H3 v0 v1 B3 u3=>?_];have g3:=u3.40 (λz=>B1.at (by rw[<- z];show n2)) g2;obtain x|ex|mx|_:=nX (xs:=[V.int 0,V.int 1,V.int 1,V.int 1,V.int 2,V.int 2,V.int 3,V.int 4]) v0 (by simpa using v1)
 obtain ⟨i,rfl,hi⟩:∃z:Nat,x=.int z/\z<=4:=by
  simp only[aF,aS,or_false] at mx;rcases mx with rfl | rfl | rfl | rfl | rfl | rfl | rfl | rfl
  ·show #[0,rfl,()]
  ·show #[1,rfl,()]
  ·show #[1,rfl,()]
  ·show #[1,rfl,()]
  ·show #[2,rfl,()]
  ·show #[2,rfl,()]
  ·show #[3,rfl,()]
  ·show #[4,rfl,()]
 exists cz (bN.of g3) ex ?_;clear ex mx g3 g2;exists dJ λl1 H4 s4 n4 g4=>?_
 exists #[b,8,rfl,B3.10 s4,(),(),λt H5 t0 t1 B5 u5=>?_];have g5:=u5.40 (λz=>B3.at (by rw[<- z];show n4)) g4;obtain x|ex|mx|_:=nX (xs:=[V.int 0,V.int 1,V.int 1,V.int 1,V.int 2,V.int 2,V.int 3,V.int 4]) t0 (by simpa using t1)
 obtain ⟨o,rfl,ho⟩:∃z:Nat,x=.int z/\z<=4:=by
  simp only[aF,aS,or_false] at mx;rcases mx with rfl | rfl | rfl | rfl | rfl | rfl | rfl | rfl
  ·show #[0,rfl,()]
  ·show #[1,rfl,()]
  ·show #[1,rfl,()]
  ·show #[1,rfl,()]
  ·show #[2,rfl,()]
  ·show #[2,rfl,()]
  ·show #[3,rfl,()]
  ·show #[4,rfl,()]
 exists cz (bN.of g5) ex ?_;clear ex mx g5 g4;have u15:=(((u1.10 s2).4 u3).10 s4).4 u5;exists #[λσ' H'=>(∃i o:Nat,σ'=[some (.ref b),some (.int n),some (.int i),some (.int o),none]/\i<=4/\o<=4/\(n=5->i<=2/\o<=2))/\jW H' b/\de b H H',?_,?_]
 ·exists jL (λh0=>?_) (λh0=>?_)
  ·exists #[#[min i 2,min o 2,?_,(),(),λ_=>#[(),()]],B5,u15];have e1:(if (2:Int) < (i:Int) then (2:Int) else (i:Int))=((min i 2:Nat):Int):=by split <;> lia
   have e2:(if (2:Int) < (o:Int) then (2:Int) else (o:Int))=((min o 2:Nat):Int):=by split <;> lia
   rw[<- e1,<- e2];rfl
  ·exists #[#[i,o,rfl,hi,ho,λz=>absurd (decide_eq_true (show (n:Int)=5 by lia)) h0],B5,u15]
 clear hi ho u15 B5 u5 u3 u1;rintro σ' H5 ⟨⟨i,o,rfl,hi,ho,h5⟩,B5,u5⟩;exists dJ λl2 H6 s6 n6 g6=>?_
 exists #[b,4,rfl,B5.10 s6,(),(),λv H7 v0 v1 B7 u7=>?_];have g7:=u7.40 (λz=>B5.at (by rw[<- z];show n6)) g6;obtain x|ex|mx|_:=nX (xs:=[V.int 4,V.int 4,V.int 9,V.int 1000000]) v0 (by simpa using v1)
 obtain ⟨w,rfl,hw⟩:∃w:Nat,x=.int w/\(w=4\/w=9\/w=1000000):=by
  simp only[aF,aS,or_false] at mx;rcases mx with rfl | rfl | rfl | rfl
  ·show #[4,rfl,.inl rfl]
  ·show #[4,rfl,.inl rfl]
  ·show #[9,rfl,.inr (.inl rfl)]
  ·show #[1000000,rfl,.inr (.inr rfl)]
 exists cz (bN.of g7) ex ?_;have u07:=(u5.10 s6).4 u7;exists #[λσ' H'=>(∃n:Nat,σ'=[some (.ref b),some (.int n),some (.int i),some (.int o),some (.int w)]/\n<=5/\(w=4\/w=9\/(w=1000000/\n<=2))/\(n=5->i<=2/\o<=2))/\jW H' b/\de b H H',?_,?_]
 ·exists jL (λh0=>?_) (λh0=>?_)
  ·exists #[#[min n 2,?_,(),(),λz=>()],B7,u07];have e1:(if (2:Int) < (n:Int) then (2:Int) else (n:Int))=((min n 2:Nat):Int):=by split <;> lia
   rw[<- e1];rfl
  ·exists #[#[n,rfl,n5,?_,h5],B7,u07];rcases hw with z | z | z
   ·show .inl z
   ·show .inr (.inl z)
   ·show absurd (decide_eq_true (show (9:Int) < (w:Int) by lia)) h0
 ·clear h5 n5;rintro σ' H8 ⟨⟨n',rfl,n5,hwn,h5⟩,B8,u8⟩;exists cb λr H9 s9 g9=>?_
  show k r n' i o w H9 g9 n5 hi ho hwn h5 (B8.10 s9) (u8.10 s9)
theorem iO:sC ["_law_bag_here","_law_n","_law_move_here","_law_at","_law_put","_law_first","_law_look"] 2 sG:=by walk_at "d"
theorem qE (T:Txt K mg Z) (ac:bd P):T.iY.o P w base 2 (ET K):=by
 refine T.iY.F.k iO ?_;walk_at "i";obtain b|n|rfl|hB|n1|n8|k:=h
 refine #[_,(av (iQ 2 ["_law_i"] ["_law_n"] [1] iO.nd rfl rfl (b8 rfl T.34 (c6 cJ)) (λ_=>(eG 0)) (λ_=>bZ) (λ_=>(bS ["_law_j"] ["_law_i"] [0] (b8 rfl T.34 (c6 cJ)) (λ_=>(eG 0)) (λ_=>bZ) (λ_=>(cY (cK (eZ nI (by rfl) T.int VP (c6 (jz gD bQ (bF ic cJ aw) (bE _)))) aw))))))
  (av (fR (bS ["_law_j"] ["_law_bag_here"] [0] (b8 rfl T.34 (c6 cJ)) (λ_=>(eG 0)) (λ_=>bZ) (λ_=>(cY (cK (bF jf (cH (bO T ac) hr T.br (cK cJ aw)) aw) aw)))) (ib eI (bF jf cJ aw) set_list))
  (av (eJ 3 iO.nd (aZ bV (fq (cK (bF jf cJ aw) (cH (bO T ac) hr T.br (cK bQ cJ)))) (cH (bO T ac) hr T.br (cK bQ aw))))
  (av (eJ 4 iO.nd (fq (c6 (bS ["_law_j"] ["_law_at"] [3] (b8 rfl T.34 (c6 cJ)) (λ_=>(eG 0)) (λ_=>bZ) (λ_=>(cY (cK (eZ nI (by rfl) T.int VP (c6 (jz gD bQ cJ (bE _)))) aw)))))))
  (av (eJ 5 iO.nd (aZ bV (fq (zM aw aw (cH (bO T ac) hr T.br (cK bQ cJ)))) (cH (bO T ac) hr T.br (cK bQ aw))))
  (av (eJ 6 iO.nd (fq (c6 (bS ["_law_j"] ["_law_first"] [5] (b8 rfl T.34 (c6 cJ)) (λ_=>(eG 0)) (λ_=>bZ) (λ_=>(cY (cK (eZ nI (by rfl) T.int VP (c6 (jz gD bQ cJ (bE _)))) aw)))))))
  (aA (aQ (cY (zM eI rG rg)))))))))),?_]
 left
 have bit:∀{z:Int},∀y∈(Vt n).11 (λ(j:Nat)=>(((if decide ((j:Int)=z)=true then 1 else 0:Int)):Rat)),Fr 1 1 y:=λy hy=>by
  obtain j|_|rfl:=au.mp hy;show TK (by split <;> simp)
 exists #[(),(),?_];refine gH (n:=n) (cu K H) (λ(i:Nat)=>(Vt n).11 λ(j:Nat)=>(((if decide ((j:Int)=(i:Int)+1)=true then 1 else 0:Int)):Rat)) () (λa b=>a.10 b) ?_ ?_
 ·rintro i Hb NY NN hi sa k1;exists #[(),(),?_];refine gH (n:=n) (cm K) (λ(j:Nat)=>(((if decide ((j:Int)=(i:Int)+1)=true then 1 else 0:Int)):Rat)) () (λa b=>a.10 b) ?_ ?_
  ·rintro j Hz NY2 NN2 hj sz k2;exists cb λt Hy sy gy=>?_
   show k2 _ _ sy (cm.mk gy rfl)
  ·rintro ys Hz t ht sz g pr nx;show k1 _ _ sz #[t,rfl,sa.17 ht,ys,g,pr]
 rintro ys H1 mm hm s1 g1 YJ Zb;have G1:aP K H H1 mm ((Vt n).11 λ(i:Nat)=>(Vt n).11 λ(j:Nat)=>(((if decide ((j:Int)=(i:Int)+1)=true then 1 else 0:Int)):Rat)):=#[ys,g1,YJ,dZ Zb];clear g1 YJ Zb;have B1:=hB.10 s1;have mb:mm≠b:=λz=>hB.at (by rw[<- z];show hm)
 obtain q0|I0|xq|Zr:=hB.inner;have mq:mm≠q0:=λz=>by rw[<- z,hm] at Zr;cases Zr
 exists #[(),(),?_];refine Cg (n:=n) (b:=b) (cm K) (Fr 1 1) B1 () (λa u B=>a.Xs u B) ?_ ?_
 ·rintro j Ha NY NN hj ua Ba k1;exists #[b,3,rfl,Ba,(),(),λv Hb v0 v1 Bb ub=>?_];exists cb λt Hc sc gc=>?_
  show k1 _ ((v - 1:Int):Rat) _ (ub.10 sc) (Bb.10 sc) (Fr.int ()) (cm.mk gc rfl)
 rintro P! cs H2 q2 hq2 u2 B2 g2 lc hc _N _;have Y7:=(s1.Xs (p:=b)).4 u2;have nq2:H q2=none:=s1.17 hq2;obtain us|gu|pu:=(G1.Xs u2 B1 mb hB.at).toE;have lu:=pu.9;rw[af,bG] at lu
 have q2m:q2≠mm:=λz=>by
  obtain _|gg|_:=id G1;rw[z,gg] at hq2;cases hq2
 walk_at "w";rw[show ((n:Int) - 1)=((n - 1:Nat):Int) by lia];refine fz gu (fK ()) rfl ?_;have G3:aP K H (upd H2 mm (.lst (us.42 (n - 1) (.ref q2)))) mm (((Vt n).11 λ(i:Nat)=>(Vt n).11 λ(j:Nat)=>(((if decide ((j:Int)=(i:Int)+1)=true then 1 else 0:Int)):Rat)).42 (n - 1) cs):=aP.ofE aK (kJ (bv (λ_ _ z=>oY.XA z gu (λq h=>h.2)) pu) (n - 1) #[q2,rfl,#[nq2,q2m],dI.XA #[P!,g2,_N] gu q2m]) (λq h=>h.1) (λq h=>h.2);have B3:jW (upd H2 mm (.lst (us.42 (n - 1) (.ref q2)))) b:=B2.upd (Y7.2 _ I0) mb mq;have Zn:de b H (upd H2 mm (.lst (us.42 (n - 1) (.ref q2)))):=Y7.46 hm;obtain ⟨mv,emv⟩:∃mv,mv=((Vt n).11 λ(i:Nat)=>(Vt n).11 λ(j:Nat)=>(((if decide ((j:Int)=(i:Int)+1)=true then 1 else 0:Int)):Rat)).42 (n - 1) cs:=#[_,rfl];have Y2:mv.9=n:=by rw[emv,eQ,af,bG]
 have _t:∀xs∈mv,xs.9=n/\∀y∈xs,Fr 1 1 y:=λxs hx=>by
  rw[emv] at hx;rcases cE hx with hx | rfl
  ·obtain i|_|rfl:=au.mp hx;show #[by rw[af,bG],bit]
  ·show #[lc,hc]
 rw[<- emv] at G3;generalize upd H2 mm (.lst (us.42 (n - 1) (.ref q2)))=H3 at G3 B3 Zn ⊢;clear emv pu gu G1 u2 _N g2 B2;exists #[b,n,rfl,B3,(),(),λa1 H4 a10 a11 B4 u4=>?_];exists dJ λl1 H5 s5 nl1 g5=>?_
 exists #[b,2,rfl,B4.10 s5,(),(),λv H6 v0 v1 B6 u6=>?_];have g6:=u6.40 (λz=>B4.at (by rw[<- z];show nl1)) g5;obtain x|ex|mx|_:=nX (xs:=[V.int ((n:Int) - 1),V.int a1]) v0 (by simpa using v1)
 obtain ⟨at',rfl⟩:∃a:Int,x=.int a:=by
  simp only[aF,aS,or_false] at mx;rcases mx with rfl | rfl
  ·show #[_,rfl]
  ·show #[_,rfl]
 exists cz (bN.of g6) ex ?_;have u36:=(u4.10 s5).4 u6;have G6:=G3.Xs u36 B3 mb hB.at;have u06:=Zn.4 u36;clear ex mx g6 g5 G3 u4 u6;exists #[(),(),?_];refine gH (n:=n) (cm K) (λ(j:Nat)=>(((if decide ((j:Int)=at')=true then 1 else 0:Int)):Rat)) () (λa b=>a.10 b) ?_ ?_
 ·rintro j Hz NY2 NN2 hj sz k2;exists cb λt Hy sy gy=>?_
  show k2 _ _ sy (cm.mk gy rfl)
 rintro ys7 H7 q7 hq7 s7 g7 pr7 _;have R7:dI K H7 q7 _:=#[ys7,g7,pr7];exists dJ λp8 H8 s8 n8' g8=>?_
 have Zz:=s7.4 s8;have q78:q7≠p8:=λz=>by rw[z,n8'] at g7;cases g7
 have np8:H p8=none:=u06.17 B6 (s7.17 n8');have nq7:H q7=none:=u06.17 B6 hq7
 have GP:aP K H H8 p8 [(Vt n).11 λ(j:Nat)=>(((if decide ((j:Int)=at')=true then 1 else 0:Int)):Rat)]:=#[_,g8,.cons #[q7,rfl,nq7,R7.10 s8] .nil,λz=>by
  rw[cA] at z;cases z;show q78 rfl]
 have B8:=B6.10 Zz;have u08:=u06.10 Zz;have G8:=G6.10 Zz;have pb:p8≠b:=λz=>hB.at (by rw[<- z];show np8)
 exists #[b,n,rfl,B8,(),(),λa2 H9 a20 a21 B9 u9=>?_];exists dJ λl2 Ha sa nl2 ga=>?_
 exists #[b,3,rfl,B9.10 sa,(),(),λv' Hb v0' v1' Bb ub=>?_];have gb:=ub.40 (λz=>B9.at (by rw[<- z];show nl2)) ga;obtain x|ex|mx|_:=nX (xs:=[V.int 0,V.int 0,V.int a2]) v0' (by simpa using v1')
 obtain ⟨fi,rfl⟩:∃a:Int,x=.int a:=by
  simp only[aF,aS,or_false] at mx;rcases mx with rfl | rfl | rfl
  ·show #[_,rfl]
  ·show #[_,rfl]
  ·show #[_,rfl]
 exists cz (bN.of gb) ex ?_;have u8b:=(u9.10 sa).4 ub;have Gb:=G8.Xs u8b B8 mb hB.at;have GPb:=GP.Xs u8b B8 pb hB.at;have u0b:=u08.4 u8b;clear ex mx gb ga G8 GP u9 ub;exists #[(),(),?_];refine gH (n:=n) (cm K) (λ(j:Nat)=>(((if decide ((j:Int)=fi)=true then 1 else 0:Int)):Rat)) () (λa b=>a.10 b) ?_ ?_
 ·rintro j Hz NY2 NN2 hj sz k2;exists cb λt Hy sy gy=>?_
  show k2 _ _ sy (cm.mk gy rfl)
 rintro ysc Hc qc hqc sc gc prc _;have Rc:dI K Hc qc _:=#[ysc,gc,prc];exists dJ λpd Hd sd nd gd=>?_
 have Yh:=sc.4 sd;have qcd:qc≠pd:=λz=>by rw[z,nd] at gc;cases gc
 have npd:H pd=none:=u0b.17 Bb (sc.17 nd);have nqc:H qc=none:=u0b.17 Bb hqc
 have GL:aP K H Hd pd [(Vt n).11 λ(j:Nat)=>(((if decide ((j:Int)=fi)=true then 1 else 0:Int)):Rat)]:=#[_,gd,.cons #[qc,rfl,nqc,Rc.10 sd] .nil,λz=>by
  rw[cA] at z;cases z;show qcd rfl]
 exists cb λr He se ge=>?_
 have x!:=Yh.4 se;refine k r mv _ _ He #[mm,p8,pd,ge,hm,np8,npd,Gb.10 x!,GPb.10 x!,GL.10 se] Y2 rfl rfl #[(),by simp,by simp,λxs hx=>by rw[(_t xs hx).1,Y2],λxs hx=>?_,λxs hx=>?_] (λxs hx=>(_t xs hx).2) (λxs hx=>?_) (λxs hx=>?_) (Bb.10 x!) (u0b.10 x!)
 ·rw[cA.mp hx,af,bG,Y2]
 ·rw[cA.mp hx,af,bG,Y2]
 ·rw[cA.mp hx];show bit
 ·rw[cA.mp hx];show bit
theorem jP:sC ["_law_top","_law_bottom","_law_one","_law_other"] 2 uF:=by walk_at "d"
theorem gK (T:Txt K mg Z) (ac:bd P):T.d4.o P w base 1 Rm:=by
 refine T.d4.F.k jP ?_;walk_at "i";obtain t|b|rfl|hb|hs|k:=h
 refine #[_,(av (eJ 2 jP.nd (bx As (by rfl) T.abs PyProof.Rows.boot_abs (c6 bQ)))
  (av (eJ 3 jP.nd cJ)
  (av (zE VA (bf pA eI aw (bE _))
   (aA (MJ (i:=2) (j:=3) rfl jP.nd rfl rfl () rfl rfl (cK (bF oV ky eI) eI) rfl)))
  (aA (aQ (cY (cK (bF (j8 rfl jP rfl rfl rfl ac (vP hr)) bQ ky) (bF (j8 rfl jP rfl rfl rfl ac (vP hr)) cJ ky)))))))),?_]
 left
 walk_at "w"
 refine Cw (λσ' H'=>∃(u v:Int),σ'=[some (.int t),some (.int b),some (.int u),some (.int v)]/\H'=H/\0<=u/\0 < v/\VY u v=VY t b) (λσ' _=>match σ' with | [_,_,some (.int u),_]=>u.15 | _=>0) #[_,b,rfl,rfl,by split <;> lia,hb,by
  split
  ·rw[Int.neg_gcd]
  ·rfl] ?_
 rintro σ' H' ⟨u,v,rfl,rfl,hu,hv,hg⟩;exists jL (λh=>?_) (λh=>?_)
 ·have hu0:u≠0:=λz=>by subst z;simp at h
  exists gI (show (0:Int) < u by lia) ?_;walk_at "w";have h1:=nD v hu0;have h2:=jF v (show 0 < u by lia);show #[#[v % u,u,rfl,rfl,h1,(),by rw[lZ,Nv,lZ];show hg],by change (v % u).15 < u.15;lia]
 ·have hu0:u=0:=by
   by_cases z:u=0
   ·show z
   ·exfalso;apply h;simp [z]
  subst hu0
  have e:v=g t b:=by
   unfold g;rw[<- hg,Int.gcd_zero_left]
   lia
  have d!:Sz 8999000 v:=hs.le (by
   rw[e];have h1:(g t b).15=VY t b:=by unfold g;simp
   rw[h1];show jY () (by have:=fM (a:=t) (b:=b);show eY.mpr this |> λz=>by simpa using z))
  exists gI (show rC _ _ from #[(),d!]) ?_;exists gI (show rC _ _ from #[(),d!]) ?_;exists cb λr H' s' h'=>?_
  rw[cL _ (),cL _ (),e] at h';show k r H' s' h'
theorem E5:sC ["_law_one","_law_other"] 2 uD:=by walk_at "d"
theorem ot (T:Txt K mg Z) (ac:bd P):T.iJ.o P w base 2 (pP K (λx y=>x+y)):=by
 refine T.iJ.F.ok E5 (λvs H Q E h=>?_) (λXG A outer s H vs Q E hr h=>?_)
 ·obtain p|q|a|b|c|d|rfl|hp|hq|hb|hd|sa|sb|sc|sd|k:=Ks h;rfl
 ·obtain p|q|a|b|c|d|rfl|hp|hq|hb|hd|sa|sb|sc|sd|k:=Ks h;refine #[_,(aA (aQ (cH (gK T ac) hr T.d4 (cK (bF ic (bF c4 (aZ bW bQ aw) (aZ bW cJ aw)) (bF c4 (aZ bW cJ aw) (aZ bW bQ aw))) (bF c4 (aZ bW bQ aw) (aZ bW cJ aw)))))),?_];refine pe (σ:=[some (.ref p),some (.ref q)]) rfl ?_
  try rw[gJ]
  have _y:0 < b*d:=jx hb hd;have Yh:Sz 8999000 (b*d):=(sb.mul sd).22 ();exists gI (show gM _ _ from .inr #[_,_,sa,sd,()]) ?_;exists gI (show gM _ _ from .inr #[_,_,sc,sb,()]) ?_;exists gI (show gM _ _ from .inr #[_,_,sb,sd,()]) ?_;walk_at "w";exists #[_,_,rfl,_y,Yh,k]
theorem CT:sC ["_law_one","_law_other"] 2 sA:=by walk_at "d"
theorem Dl (T:Txt K mg Z) (ac:bd P):T.mZ.o P w base 3 (ER K):=by
 refine T.mZ.F.k CT ?_;walk_at "i";obtain p|q|xs|ys|rfl|hp|hq|hl|hz|h1|h2|kk:=h;refine #[_,(aA (aQ (bS ["_law_k"] ["_law_one","_law_other"] [0,1] (b8 rfl T.34 (c6 (bx aR (by rfl) T.38 aM (c6 bQ)))) (λ_=>(eG 0)) (λ_=>bZ) (λ_=>(cH (ot T ac) hr T.iJ (cK (aZ (gG K (by rfl)) cJ bQ) (aZ (gG K (by rfl)) eI bQ))))))),?_];left
 obtain us|gu|qu:=id hp;obtain ws|gw|qw:=id hq;have lu:=qu.9;exists #[_,_,rfl,.inl (bN.of gu),?_];exists #[(),(),?_];refine gH (n:=us.9) (cm K) (λi=>xs.3 i 0+ys.3 i 0) () (λa b=>a.10 b) ?_ ?_
 ·rintro i H' NY NN hi s k1;have ix:i < xs.9:=()
  have iy:i < ys.9:=()
  obtain vx|ex|nx:=Fx (bv (λ_ _ z=>z.10 s) qu) ix;obtain vy|ey|ny:=Fx (bv (λ_ _ z=>z.10 s) qw) iy;exists cz (bN.of (s _ _ gu)) ex ?_;exists cz (bN.of (s _ _ gw)) ey ?_;exists #[_,_,_,_,rfl,nx,ny,h1 _ (getD_mem ix),h2 _ (getD_mem iy),λr3 H3 s3 n3=>k1 _ _ s3 n3]
 ·rintro Yc H' l YQ s g pr nx;show kk l H' YQ s #[Yc,g,by rw[KD ()];rw[<- lu] at pr;show pr]
theorem CS:sC ["_law_one","_law_other"] 2 sv:=by walk_at "d"
theorem mS (T:Txt K mg Z) (ac:bd P):T.gQ.o P w base 2 (pP K (λx y=>x*y)):=by
 refine T.gQ.F.ok CS (λvs H Q E h=>?_) (λXG A outer s H vs Q E hr h=>?_)
 ·obtain p|q|a|b|c|d|rfl|hp|hq|hb|hd|sa|sb|sc|sd|k:=J6 h;rfl
 ·obtain p|q|a|b|c|d|rfl|hp|hq|hb|hd|sa|sb|sc|sd|k:=J6 h;refine #[_,(aA (aQ (cH (gK T ac) hr T.d4 (cK (bF c4 (aZ bW bQ aw) (aZ bW cJ aw)) (bF c4 (aZ bW bQ aw) (aZ bW cJ aw)))))),?_];refine pe (σ:=[some (.ref p),some (.ref q)]) rfl ?_
  try rw[gJ]
  have _y:0 < b*d:=jx hb hd;have Yh:Sz 8999000 (b*d):=(sb.mul sd).22 ();exists gI (show gM _ _ from .inr #[_,_,sa,sc,()]) ?_;exists gI (show gM _ _ from .inr #[_,_,sb,sd,()]) ?_;walk_at "w";exists #[_,_,rfl,_y,Yh,k]
theorem HL:sC ["_law_by_here","_law_row_here"] 2 xm:=by walk_at "d"
theorem qF (T:Txt K mg Z) (ac:bd P):T.jJ.o P w base 3 (Mq K):=by
 refine T.jJ.F.k HL ?_;walk_at "i";obtain u|q|c|ys|rfl|hc|sc|hq|hz|h2|kk:=h;refine #[_,(aA (aQ (bS ["_law_one"] ["_law_by_here"] [0] (cg cJ) (λ_=>(eG 0)) (λ_=>bZ) (λ_=>(cH (mS T ac) hr T.gQ (cK cJ bQ)))))),?_];left
 obtain us|gu|qu:=id hq;exists #[#[_,bN.of gu],?_];refine cW (K:=K) (F:=cm K) (cm K) (λy=>c*y) gu qu hz (λa b=>a.10 b) (λa b=>a.10 b) ?_ ?_
 ·rintro i y x H' NY NN en s hx k;exists #[_,_,_,_,rfl,hc.10 s,hx,sc,h2 y (ar en),λr H2 s2 h2'=>k _ _ s2 h2']
 ·rintro Yc H' r hr s g pr nx;show kk r H' hr s #[Yc,g,pr]
theorem dU:sC ["_law_bag_here","_law_move_here","_law_put","_law_look","_law_n","_law_turn","_law_i","_law_j","_law_by_here","_law_less_here","_law_row_here"] 4 qe:=by walk_at "d"
theorem t9 (T:Txt K mg Z) (ac:bd P):T.jt.o P w base 4 (BG K):=by
 refine T.jt.F.k dU ?_;walk_at "i";obtain b|m|p|l|q0|n|WV|μ|A|us|ws|vs|rfl|MA|X|n8|i4|o4|M0|M1|⟨M,eM⟩|V1|hA|k:=h
 refine #[_,(av (eJ 4 dU.nd (bx aR (by rfl) T.38 aM (c6 cJ)))
  (av (c5 (PW.pt (mP (bf tW rG aw (bE _)) (jc (bf gD (cH (bO T ac) hr T.br (cK bQ aw)) aw (bE _))))) (aA (aQ (cY (zM cJ eI ky)))) bX)
  (av (fo VA rfl (b8 rfl T.34 (c6 (bF ic aw (cH (bO T ac) hr T.br (cK bQ aw))))) (eG 5 dU.nd)
   (av (eJ 6 dU.nd (cH (bO T ac) hr T.br (cK bQ rG)))
  (av (eJ 7 dU.nd (bF oV (bF ic (bF ic rg aw) (cH (bO T ac) hr T.br (cK bQ (bF jf rG aw)))) rG))
  (av (eJ 8 dU.nd (cY (cK (aZ bV (fq (LQ aw (zI uj aw) aw (zI uj aw))) (cH (bO T ac) hr T.br (cK bQ aw))) aw)))
  (av (eJ 9 dU.nd (cY (cK (bF jf aw (aZ bW Ey aw)) aw)))
  (av (fR (cH (Dl T ac) hr T.mZ (cK (aZ bV cJ rg) (cH (qF T ac) hr T.jJ (cK Ey (aZ bV cJ Ez))))) (ib cJ rg set_list))
  (av (fo VA rfl (cg (bF gE cJ ky)) (eG 10 dU.nd)
   (aA (fR (cH (ot T ac) hr T.iJ (cK (aZ bV (pv 10) Ez) (cH (mS T ac) hr T.gQ (cK (pv 9) (aZ bV (pv 10) rg))))) (ib (pv 10) Ez set_list))))
  (aA (fo VA rfl (cg eI) (eG 10 dU.nd)
   (aA (fR (cH (ot T ac) hr T.iJ (cK (aZ bV (pv 10) rg) (cH (mS T ac) hr T.gQ (cK Ey (aZ bV (pv 10) Ez))))) (ib (pv 10) rg set_list))))))))))))
  (aA (aQ (cY (zM cJ eI ky))))))),?_]
 left
 have done:∀r Yo H' t,t<=3->H' r=some (.tup [.ref m,.ref p,.ref l])->kv K A H' n (λx=>Fr (μ x) (9^t*WV)) m p l b q0 Yo ws vs->i5 A b m H H'->Q (.ref r) H':=λr Yo H' t ht g x kp=>k r Yo H' g (x.44 λ_ _ y h=>h.22 (ax _ (ak () ht))) kp
 have X0:kv K A H n (λx=>Fr (μ x) (9^0*WV)) m p l b q0 us ws vs:=X.44 λ_ _ y h=>h.22 (by simp)
 clear X k;have gu:=X0.gm;have lu:=X0.lm;exists #[_,_,rfl,.inl (bN.of gu),?_];rw[lu];clear gu lu;have kp0:i5 A b m H H:=λ_ _ h _ _ _=>h
 exists jL (λh0=>?_) (λh0=>?_)
 ·exists cb λr H' s' g'=>?_
  show done r us H' 0 () g' (X0.10 s') (kp0.10 s')
 have n2:2<=n:=by
  rcases aY n 2 with z | z
  ·show absurd (decide_eq_true (show (n:Int) < 2 by lia)) h0
  ·show z
 exists #[b,2,rfl,X0.YD,(),(),λv H1 v0 v1 B1 u1=>?_];have X1:=X0.Xs MA u1 B1;have kp1:=kp0.Xs u1;exists jL (λh1=>?_) (λh1=>?_)
 ·exists cb λr H' s' g'=>?_
  show done r us H' 0 () g' (X1.10 s') (kp1.10 s')
 exists #[b,3,rfl,B1,(),(),λc H2 c0 c1 B2 u2=>?_];have X2:=X1.Xs MA u2 B2;have kp2:=kp1.Xs u2;clear X0 X1 kp0 kp1 u1 u2 B1;exists #[(),(),?_];refine fw (n:=(1+c).28) (λt σ' H'=>∃(x1 x2 x3 x4 x5 x6:Option V) (us:List V),σ'=[some (.ref b),some (.ref m),some (.ref p),some (.ref l),some (.int n),x1,x2,x3,x4,x5,x6]/\kv K A H' n (λx=>Fr (μ x) (9^t*WV)) m p l b q0 us ws vs/\i5 A b m H H') #[none,none,none,none,none,none,us,rfl,X2,kp2] ?_ ?_
 ·rintro t σ' H' ht ⟨x1,x2,x3,x4,x5,x6,us,rfl,X,kp⟩;have t3:t<=2:=()
  exists #[b,n,rfl,X.YD,(),(),λii Ha i0 i1 Ba ua=>?_];obtain ii|rfl:=jb i0;have Xa:=X.Xs MA ua Ba;have kpa:=kp.Xs ua;exists #[b,_,rfl,Ba,(),(),λd Hb d0 d1 Bb ub=>?_];have Xb:=Xa.Xs MA ub Bb;have kpb:=kpa.Xs ub;exists gI (show (0:Int) < n by lia) ?_;have j0:=nD ((ii:Int)+1+d) (show (n:Int)≠0 by lia);have j1:=jF ((ii:Int)+1+d) (show (0:Int) < n by lia);generalize ((ii:Int)+1+d) % (n:Int)=jj at j0 j1 ⊢;obtain jj|rfl:=jb j0;exists dJ λl0 Hc sc nc gc=>?_
  exists #[b,4,rfl,Bb.10 sc,(),(),λv' Hd v0' v1' Bd ud=>?_];have gd:=ud.40 (λz=>Bb.at (by rw[<- z];show nc)) gc;obtain x|ex|mx|_:=nX (xs:=[V.int 1,V.int (-1),V.int 2,V.int (-2)]) v0' (by simpa using v1')
  obtain ⟨z,rfl,hz⟩:∃z:Int,x=.int z/\z.15<=2:=by
   simp only[aF,aS,or_false] at mx;rcases mx with rfl | rfl | rfl | rfl
   ·show #[1,rfl,()]
   ·show #[-1,rfl,()]
   ·show #[2,rfl,()]
   ·show #[-2,rfl,()]
  have Xd:=(Xb.10 sc).Xs MA ud Bd;have kpd:=(kpb.10 sc).Xs ud;exists cz (bN.of gd) ex ?_;exists cb λbt He se ge=>?_
  exists cb λlt Hf sf gf=>?_
  have Xf:=(Xd.10 se).10 sf;have kpf:=(kpd.10 se).10 sf;have nb:cm K Hf ((z:Int):Rat) (.ref bt):=cm.mk (sf _ _ ge) rfl;have nl:cm K Hf ((0 - z:Int):Rat) (.ref lt):=cm.mk gf rfl;clear X Xa Xb Xd kp kpa kpb kpd ua ub ud sc gc gd ex mx ge gf se sf Ba Bb Bd nc;have gu:=Xf.gm;have lu:=Xf.lm
  have ru:∀x∈us,fZ K A Hf n (Fr M (9^t*WV)) x:=λx hx=>by
   have:=Xf.row x (by simp [hx]);rwa [eM x (Xf.apart.1 x hx).1 (Xf.apart.1 x hx).2] at this
  have hM:0 < M/\M<=2^800:=by
   have hx:us[ii]'()∈us:=aG _;have:=eM _ (Xf.apart.1 _ hx).1 (Xf.apart.1 _ hx).2;rw[<- this];show #[M0 _,M1 _]
  have e1:us[ii]?=some (us[ii]'()):=by simp
  have e2:us[jj]?=some (us[jj]'()):=by simp
  obtain q1|z1|qs1|w1|a1|g1|k1|p1|l1|c1:=(ru _ (ar e1)).at;obtain q2|z2|qs2|w2|a2|g2|k2|p2|l2|c2:=(ru _ (ar e2)).at;rw[w1] at e1;rw[w2] at e2;generalize eW:9^t*WV=W at *
  have W9:9*W<=2^140:=by rw[<- eW];show Pe () V1 ()
  have T!:∀{x:Rat} {U:Nat},U<=9*W->Fr M U x->pK x:=λhU h=>Kj hM.1 hM.2 (ag hU W9) h
  have sz9:∀{x:Rat} {U:Nat} {v:V},U<=9*W->Fr (μ v) U x->pK x:=λhU h=>Kj (M0 _) (M1 _) (ag hU W9) h
  exists cz (bN.of gu) (ee e1) ?_;exists cz (bN.of gu) (ee e2) ?_;exists #[_,q2,_,qs2,rfl,nb,CD (),#[z2,g2,p2],(),λy hy=>T! () (c2 y hy),λr1 Hg n1 sg R1=>?_];exists #[q1,r1,qs1,_,rfl,#[z1,sg _ _ g1,bv (λ_ _ y=>y.10 sg) p1],R1,by rw[af,l1,l2],(),λy hy=>T! () (c1 y hy),λy hy=>?_,λr2 Hh n2' sh R2=>?_]
  ·obtain y'|YY|rfl:=au.mp hy;show yZ hz (c2 y' YY) hM.1 hM.2 ()
  have w!:=sg.4 sh
  have new:V.ref r2∉us++vs++ws:=λz=>by
   obtain q'|_|_|e'|_|g'|_:=((Xf.10 sg).row _ z).at;cases e';rw[n2'] at g';cases g'
  have Xh:=(Xf.10 w!).44 (C':=λx y=>(x∈ws->Fr (μ x) W y)/\Fr (μ x) (3*W) y) λx _ y h=>#[λ_=>h,h.22 ()]
  have kph:=kpf.10 w!;have guh:=w! _ _ gu;have ar2:A r2:=(kpf.10 sg).new hA (Xf.10 sg).YD (by rw[sg _ _ gu];simp) n2'
  have rp2:fZ K A Hh n (λy=>(V.ref r2∈ws->Fr (μ (.ref r2)) W y)/\Fr (μ (.ref r2)) (3*W) y) (.ref r2):=by
   rw[eM (.ref r2) (λz=>new (ao.mpr (.inr z))) (λz=>new (ao.mpr (.inl (ao.mpr (.inr z)))))];refine #[r2,_,rfl,ar2,R2,by rw[dw,af];lia,λy hy=>#[λz=>absurd (ao.mpr (.inr z)) new,?_]];obtain j'|Yb|e:=aN hy;rw[rE,ja] at e;rw[<- e];show DF hz (c1 _ (aG _)) (c2 _ (aG _))
  exists fz guh (fK ()) rfl ?_;have Xi:=Xh.42 MA rp2 new ii;have kpi:=kph.upd (o:=.lst (us.42 ii (.ref r2))) (q:=m) (.inr rfl);have nli:cm K (upd Hh m (.lst (us.42 ii (.ref r2)))) ((0 - z:Int):Rat) (.ref lt):=(nl.10 w!).XA guh;have nbi:cm K (upd Hh m (.lst (us.42 ii (.ref r2)))) ((z:Int):Rat) (.ref bt):=(nb.10 w!).XA guh;generalize upd Hh m (.lst (us.42 ii (.ref r2)))=Hi at Xi kpi nli nbi ⊢;generalize us.42 ii (.ref r2)=um at Xi;clear nb nl Xf kpf gu ru e1 e2 g1 p1 g2 p2 R1 R2 Xh kph guh rp2 sg sh w! new;have gm:=Xi.gm;have lm:=Xi.lm;have gl:=Xi.gl;have nd:=Xi.nd;obtain nd1|nd2|nd3:=dC.mp nd;exists gC gm gl gU λcl Hj sj nj gj=>?_
  have kpj:=kpi.10 sj
  have rows:∀x∈um++vs,∀q,x=V.ref q->q≠cl:=λx hx q e y=>by
   obtain q'|zs|_|e'|_|g'|_:=(Xi.row x (ao.mpr (.inl hx))).at;rw[e] at e';cases e';rw[y,nj] at g';cases g'
  have Xj:=(Xi.10 sj).44 (C':=λx y=>(x∈ws->Fr (μ x) W y)/\(x∈(um++vs).47 0->Fr (μ x) (3*W) y)/\Fr (μ x) (9*W) y) λx _ y h=>#[h.1,λ_=>h.2,h.2.22 ()]
  have lj:cm K Hj ((0 - z:Int):Rat) (.ref lt):=nli.10 sj;have bj:cm K Hj ((z:Int):Rat) (.ref bt):=nbi.10 sj;clear Xi kpi nli nbi;refine #[_,rfl,#[_,bN.of gj],?_];refine mB (K:=K) (a:=cl) (xs:=um++vs) (λs σ' H'=>∃x6:Option V,σ'=[some (.ref b),some (.ref m),some (.ref p),some (.ref l),some (.int n),some (.int t),some (.int ii),some (.int jj),some (.ref bt),some (.ref lt),x6]/\kv K A H' n (λx y=>(x∈ws->Fr (μ x) W y)/\(x∈(um++vs).47 s->Fr (μ x) (3*W) y)/\Fr (μ x) (9*W) y) m p l b q0 um ws vs/\i5 A b m H H'/\H' cl=some (.lst (um++vs))/\cm K H' ((0 - z:Int):Rat) (.ref lt)/\cm K H' ((z:Int):Rat) (.ref bt)) #[_,rfl,Xj,kpj,gj,lj,bj] (λs σ' H' _ #[_,_,_,_,e,_]=>bN.of e) ?_ ?_
  ·rintro s x σ' Hk hx ⟨y6,rfl,Xk,kpk,gk,lk,bk⟩;have hs:s < (um++vs).9:=(aB.mp hx).1;have mx:=ar hx
   have xd:x∈(um++vs).47 s:=by
    rw[du hs,(aB.mp hx).2];show .head _
   have xd2:x∉(um++vs).47 (s+1):=λz=>by
    have:=nd1.sublist (List.drop_sublist s _);rw[du hs,eP,(aB.mp hx).2] at this;show this.1 z
   have xw:x∉ws:=λz=>nd3 x mx x z rfl
   have rx:=Xk.row x (ao.mpr (.inl mx));obtain q|zs|qs|rfl|aq|gq|lq|pq|lq2|cq:=rx.at;have qcl:=rows _ mx q rfl;obtain vj|ej|nj':=Fx pq (j:=jj) ();obtain vi|ei|ni':=Fx pq (j:=ii) ();have cj:=(cq _ (getD_mem (xs:=qs) (i:=jj) ())).2.1 xd;have ci:=(cq _ (getD_mem (xs:=qs) (i:=ii) ())).2.1 xd;exists cz (bN.of gq) ej ?_;exists cz (bN.of gq) ei ?_;exists #[_,_,_,_,rfl,lk,ni',CD (),sz9 () ci,λr3 Hl sl n3=>?_];exists #[_,_,_,_,rfl,nj'.10 sl,n3,sz9 () cj,yZ () ci (M0 _) (M1 _) (),λr4 Hm sm n4=>?_];have ZZ:=sl.4 sm;exists fz (ZZ _ _ gq) (fK ()) rfl ?_;refine #[_,rfl,?_,(kpk.10 ZZ).upd (.inl aq),by rw[bA qcl.20];show ZZ _ _ gk,(lk.10 ZZ).XA (ZZ _ _ gq),(bk.10 ZZ).XA (ZZ _ _ gq)];refine ((Xk.10 ZZ).44 λx' _ y h=>#[h.1,λz=>h.2.1 ?_,h.2.2]).put MA aq (ZZ _ _ gq) n4 #[λz=>absurd z xw,λz=>absurd z xd2,?_] jj
   ·rw[du hs];show .tail _ z
   ·show (DF () cj ci).22 ()
  ·rintro σ' Hk ⟨y6,rfl,Xk,kpk,gk,lk,bk⟩;have gp:=Xk.gp;have Xk2:=Xk.44 (C':=λx y=>(x∈ws.47 0->Fr (μ x) W y)/\Fr (μ x) (9*W) y) λx _ y h=>#[λz=>h.1 (by simpa using z),h.2.2]
   clear Xk;exists #[#[_,bN.of gp],?_];refine mB (K:=K) (a:=p) (xs:=ws) (λs σ' H'=>∃x6:Option V,σ'=[some (.ref b),some (.ref m),some (.ref p),some (.ref l),some (.int n),some (.int t),some (.int ii),some (.int jj),some (.ref bt),some (.ref lt),x6]/\kv K A H' n (λx y=>(x∈ws.47 s->Fr (μ x) W y)/\Fr (μ x) (9*W) y) m p l b q0 um ws vs/\i5 A b m H H'/\cm K H' ((z:Int):Rat) (.ref bt)) #[_,rfl,Xk2,kpk,bk] (λs σ' H' _ #[_,_,X,_]=>bN.of X.gp) ?_ ?_
   ·rintro s x σ' Hl hx ⟨w6,rfl,Xl,kpl,bl⟩;have hs:s < ws.9:=(aB.mp hx).1;have mx:=ar hx
    have xd:x∈ws.47 s:=by
     rw[du hs,(aB.mp hx).2];show .head _
    have xd2:x∉ws.47 (s+1):=λz=>by
     have:=nd2.sublist (List.drop_sublist s _);rw[du hs,eP,(aB.mp hx).2] at this;show this.1 z
    have rx:=Xl.row x (ao.mpr (.inr mx));obtain q|zs|qs|rfl|aq|gq|lq|pq|lq2|cq:=rx.at;obtain vj|ej|nj':=Fx pq (j:=jj) ();obtain vi|ei|ni':=Fx pq (j:=ii) ();have cj:=(cq _ (getD_mem (xs:=qs) (i:=jj) ())).1 xd;have ci:=(cq _ (getD_mem (xs:=qs) (i:=ii) ())).1 xd;exists cz (bN.of gq) ei ?_;exists cz (bN.of gq) ej ?_;exists #[_,_,_,_,rfl,bl,nj',CD (),sz9 () cj,λr3 Hm sm n3=>?_];exists #[_,_,_,_,rfl,ni'.10 sm,n3,sz9 () ci,yZ () cj (M0 _) (M1 _) (),λr4 Hn sn n4=>?_];have _l:=sm.4 sn;exists fz (_l _ _ gq) (fK ()) rfl ?_;refine #[_,rfl,?_,(kpl.10 _l).upd (.inl aq),(bl.10 _l).XA (_l _ _ gq)];refine ((Xl.10 _l).44 λx' _ y h=>#[λz=>h.1 ?_,h.2]).put MA aq (_l _ _ gq) n4 #[λz=>absurd z xd2,?_] ii
    ·rw[du hs];show .tail _ z
    ·show (DF () ci cj).22 ()
   ·rintro σ' Hl ⟨w6,rfl,Xl,kpl,bl⟩;refine #[_,_,_,_,_,_,um,rfl,Xl.44 λ_ _ y h=>h.2.22 ?_,kpl];rw[<- eW,jD,cw (9^t) 9,b9];show aj _
 ·rintro σ' H' ⟨x1,x2,x3,x4,x5,x6,Yo,rfl,X,kp⟩;exists cb λr H2' s' g'=>?_
  show done r Yo H2' _ () g' (X.10 s') (kp.10 s')
theorem dA:sC ["_law_bag_here","_law_one","_law_other","_law_ahead","_law_behind","_law_found","_law_k"] 1 kG:=by walk_at "d"
theorem vz (T:Txt K mg Z) (ac:bd P):T.ij.o P w base 5 (OF K):=by
 refine T.ij.F.k dA ?_;walk_at "i";obtain b|rfl|hB|k:=h
 refine #[_,(av (eJ 1 dA.nd (cH (qE T ac) hr T.iY (cK bQ aw)))
  (av (eJ 2 dA.nd (cH (qE T ac) hr T.iY (cK bQ (bF ic aw (cH (bO T ac) hr T.br (cK bQ aw))))))
  (av (eJ 3 dA.nd (bF MN (fq (c6 (cY (cK aw aw)))) aw))
  (av (eJ 4 dA.nd (bF MN (fq (c6 (cY (cK aw aw)))) (bx aR (by rfl) T.38 aM (c6 (aZ bW eI aw)))))
  (av (eJ 5 dA.nd (fq iE))
  (av (fo VA rfl (b8 rfl T.34 (c6 aw)) (eG 6 dA.nd)
   (aA (jy (vp cX dG dF kO tU (c6 (bF gE (bS ["_law_row_here"] ["_law_behind"] [4] (cg (aZ bW cJ rg)) (λ_=>(eG 0)) (λ_=>bZ) (λ_=>(bF gE bQ cJ))) (bS ["_law_row_here"] ["_law_ahead"] [3] (cg (aZ bW eI rg)) (λ_=>(eG 0)) (λ_=>bZ) (λ_=>(bF gE cJ bQ)))))))))
  (aA (aQ (cH (t9 T ac) hr T.jt (LQ bQ (aZ bV tU aw) (aZ bV tU aw) (aZ bV tU aw))))))))))),?_]
 left
 obtain q0|I0|xq|Zr:=hB.inner;exists #[b,3,rfl,hB,(),(),λr1 mv1 pt1 lk1 H1 P1 lm1 lp1 ll1 D1 fm1 fp1 fl1 B1 u1=>?_];exists #[b,3,rfl,B1,(),(),λv H2 v0 v1 B2 u2=>?_];obtain v|rfl:=jb v0;have Y7:=u1.4 u2;walk_at "w";rw[show ((3:Int)+(v:Int))=((3+v:Nat):Int) by lia];refine #[b,3+v,rfl,B2,(),(),λr2 mv2 A! lk2 H3 P2 lm2 _p ll2 D2 fm2 _h fl2 B3 u3=>?_];have Zn:=Y7.4 u3;have P1c:=(P1.Xs (u2.4 u3) B1 hB.at);have P2c:gV K H H3 r2 mv2 A! lk2:=P2.44 λq h=>Y7.17 B2 h
 exists cb λt0 H4 s4 g4=>?_
 exists dJ λa1 H5 s5 n5 g5=>?_
 exists MC (k:=3) g5 () λah H6 s6 n6 g6=>?_
 have Z!:=(s4.4 s5).4 s6;obtain m1|p1|l1|gt1|m1n|p1n|l1n|Gm1|Gp1|Gl1:=P1c.10 Z!;obtain m2|p2|l2|K!|m2n|p2n|l2n|Gm2|Gp2|Gl2:=P2c.10 Z!;have N0:cm K H6 0 (V.ref t0):=cm.mk (q:=0) ((s5.4 s6) _ _ g4) rfl;exists cb λt1 H7 s7 g7=>?_
 exists dJ λa2 H8 s8 n8' g8=>?_
 have Zz:=s7.4 s8;have gt2':=Zz _ _ K!;obtain um2|gm2|qm2|_:=id (Gm2.10 Zz);have adN:=qm2.9;exists #[_,_,rfl,.inl (bN.of gm2),?_];rw[<- adN,lm2];exists MC (k:=3+v) g8 () λbh H9 s9 n9 g9=>?_
 have Zy:=Zz.4 s9;have s39:=Z!.4 Zy;have N1:cm K H9 0 (V.ref t1):=cm.mk (q:=0) ((s8.4 s9) _ _ g7) rfl;have Q!:=Zn.10 s39;have B9:=B3.10 s39;have g6':=Zy _ _ g6;have N0':=N0.10 Zy;exists dJ λfd H10 s10 n10 g10=>?_
 have X1:∀i:Nat,i < 3->∃q1 R1 q2 R2,[V.ref m1,V.ref p1,V.ref l1][i]?=some (V.ref q1)/\aP K H H9 q1 R1/\(∀xs∈R1,xs.9=3/\∀y∈xs,Fr 1 1 y)/\[V.ref m2,V.ref p2,V.ref l2][i]?=some (V.ref q2)/\aP K H H9 q2 R2/\(∀xs∈R2,xs.9=3+v/\∀y∈xs,Fr 1 1 y)/\R1.9<=100/\R2.length<=100/\[6+v,2,2][i]?=some (R1.9+R2.length):=λi hi=>by
  rcases (show i=0\/i=1\/i=2 by lia) with rfl | rfl | rfl
  ·show #[m1,mv1,m2,mv2,rfl,Gm1.10 Zy,λxs hx=>#[by rw[D1.mw xs hx,lm1],fm1 xs hx],rfl,Gm2.10 Zy,λxs hx=>#[by rw[D2.mw xs hx,lm2],fm2 xs hx],(),(),by rw[lm1,lm2,show 3+(3+v)=6+v by lia];rfl]
  ·show #[p1,pt1,p2,A!,rfl,Gp1.10 Zy,λxs hx=>#[by rw[D1.pw xs hx,lm1],fp1 xs hx],rfl,Gp2.10 Zy,λxs hx=>#[by rw[D2.pw xs hx,lm2],_h xs hx],(),(),by rw[lp1,_p];rfl]
  ·show #[l1,lk1,l2,lk2,rfl,Gl1.10 Zy,λxs hx=>#[by rw[D1.lw xs hx,lm1],fl1 xs hx],rfl,Gl2.10 Zy,λxs hx=>#[by rw[D2.lw xs hx,lm2],fl2 xs hx],(),(),by rw[ll1,ll2];rfl]
 exists #[(),(),?_];refine fw (n:=3) (λi σ' H'=>aE H9 H'/\∃x6 L,σ'=[some (.ref b),some (.ref r1),some (.ref r2),some (.ref ah),some (.ref bh),some (.ref fd),x6]/\UQ K H9 H' (6+v) fd L/\L.9=i/\∀(j:Nat) (e:Addr×List V),L[j]?=some e->[6+v,2,2][j]?=some e.2.9) #[s10,none,[],rfl,#[g10,n10,(λ_ z=>nomatch z),oE,(λ_ z=>nomatch z),oE],rfl,λj e h=>by simp at h] ?_ ?_
 ·rintro i σ' H' hi ⟨s',x6,L,rfl,T,lL,hL⟩;obtain q1|R1|q2|R2|e1|G1|w1|e2|G2|w2|b1|b2|Xv:=X1 i hi;have aeT:=s' _ _ (Zy _ _ gt1);have abi:=s' _ _ (Zy _ _ K!);obtain ux1|_f|qx1|_:=id (G1.10 s');have gb:=s' _ _ g9;have ga:=s' _ _ g6';exists #[.inl #[rfl,_,bN.of T.gf],?_];exists HQ (kz.of aeT) (ee e1) ?_;exists #[#[_,bN.of _f],?_];refine Ce (K:=K) (F:=cu K H) (λYS c x=>∃q,x=V.ref q/\dI K YS q c) (λr=>r++Vz (3+v) 0) _f qx1 () (λa b=>a.10 b) (λa b=>by obtain q|e|r:=a;show #[q,e,r.10 b]) (λa=>by obtain q|e|_|gg|_:=a;show #[q,e,by rw[gg];show λz=>nomatch z]) ?_ ?_
  ·rintro j ns x Hi NY NN en si ⟨q,rfl,_,zs,gz,qz⟩ k1;have ws:=(w1 ns (ar en)).1;have lz:=qz.9;exists gC gz (si _ _ gb) (cP (cV (by rw[gW];lia))) λc Hj sj nj gj=>?_
   show k1 _ _ sj #[c,rfl,_,gj,bD (bv (λ_ _ z=>z.10 sj) qz) (uI (((N1.10 s').10 si).10 sj) _)] #[c,rfl,nj]
  rintro _D Ha c1 hc1 sa ga1 nd1 ne1 YJ;obtain ux2|gx2|qx2|_:=id ((G2.10 s').10 sa);have aeS:=sa _ _ abi;exists HQ (kz.of aeS) (ee e2) ?_;exists #[#[_,bN.of gx2],?_];refine Ce (K:=K) (F:=cu K H) (λYS c x=>∃q,x=V.ref q/\dI K YS q c) (λr=>Vz 3 0++r) gx2 qx2 () (λa b=>a.10 b) (λa b=>by obtain q|e|r:=a;show #[q,e,r.10 b]) (λa=>by obtain q|e|_|gg|_:=a;show #[q,e,by rw[gg];show λz=>nomatch z]) ?_ ?_
  ·rintro j ns x Hi NY NN en si ⟨q,rfl,_,zs,gz,qz⟩ k1;have ws:=(w2 ns (ar en)).1;have lz:=qz.9;exists gC ((sa.4 si) _ _ ga) gz (cP (cV (by rw[gW];lia))) λc Hj sj nj gj=>?_
   show k1 _ _ sj #[c,rfl,_,gj,bD (uI ((((N0'.10 s').10 sa).10 si).10 sj) _) (bv (λ_ _ z=>z.10 sj) qz)] #[c,rfl,nj]
  rintro P! Hb c2 hc2 sb gb2 nd2 ne2 _N;have Zx:=sa.4 sb;have ly1:=YJ.9;have ly2:=_N.9;rw[af] at ly1 ly2;exists gC (sb _ _ ga1) gb2 gU λqn Hc sc nc gc=>?_
  have sac:=Zx.4 sc;have gfc:=sac _ _ T.gf;exists jQ gfc (cV (by rw[af];lia)) ?_
  have rP:∀{c:List Rat} {x:V},(∃q,x=V.ref q/\dI K Hb q c)->(∃q,x=V.ref q/\H' q=none)->c.9=6+v->(∀y∈c,Fr 1 1 y)->fZ K (λz=>H' z=none/\z≠qn) Hc (6+v) (Fr 1 1) x:=λ#[q,e,r] #[q',e',nq] hl hf=>by
   rw[e] at e';cases e';show #[q,_,e,#[nq,λz=>by obtain _|gg|_:=r;rw[z,nc] at gg;cases gg],r.10 sc,hl,hf]
  refine #[(s'.4 sac).46 n10,some (.int i),L++[(qn,_D++P!)],rfl,T.snoc s' sac (Zx.17 nc) gc ?_ (λx hx=>?_),by rw[ai,a9,lL],λj e he=>?_]
  ·refine dC.mpr #[nd1,nd2,λx hx y hy z=>?_];obtain _|_|q|e|_|gg|_:=cM YJ hx;obtain q'|e'|nq|_:=ne2 y hy;rw[<- z,e] at e';cases e';rw[nq] at gg;cases gg
  ·rcases ao.mp hx with hx | hx
   ·obtain c|mc|q|e|r:=cM YJ hx;obtain ns|mn|rfl:=au.mp mc;obtain q'|e'|nq|_:=ne1 x hx;refine rP #[q,e,r.10 sb] #[q',e',nq] (by rw[ai,gW,(w1 ns mn).1];lia) λy hy=>?_
    rcases ao.mp hy with hy | hy
    ·show (w1 ns mn).2 y hy
    ·rw[(List.mem_replicate.mp hy).2];show Fr.zero
   ·obtain c|mc|q|e|r:=cM _N hx;obtain ns|mn|rfl:=au.mp mc;obtain q'|e'|nq|_:=ne2 x hx;refine rP #[q,e,r] #[q',e',sa.17 nq] (by rw[ai,gW,(w2 ns mn).1];lia) λy hy=>?_
    rcases ao.mp hy with hy | hy
    ·rw[(List.mem_replicate.mp hy).2];show Fr.zero
    ·show (w2 ns mn).2 y hy
  ·rcases aY j L.9 with z | z
   ·rw[cF z] at he;show hL j e he
   ·have hj:=(aB.mp he).1;rw[ai,a9] at hj;have ej:j=L.9:=()
    subst ej;rw[bM (aj _),oC] at he;cases he;rw[lL,Xv,ai,ly1,ly2]
 ·rintro σ' H' ⟨s',x6,L,rfl,T,lL,hL⟩
  obtain ⟨⟨m,us⟩,⟨p,ws⟩,⟨l,vs⟩,rfl⟩:∃a b c,L=[a,b,c]:=by
   rcases L with _ | ⟨a,_ | ⟨b,_ | ⟨c,_ | ⟨d,L⟩⟩⟩⟩
   ·cases lL
   ·cases lL
   ·cases lL
   ·show #[a,b,c,rfl]
   ·simp at lL
  have lu:us.9=6+v:=by have:=hL 0 _ rfl;simpa using this.20
  have lw:ws.9=2:=by have:=hL 1 _ rfl;simpa using this.20
  have lv:vs.9=2:=by have:=hL 2 _ rfl;simpa using this.20
  have gf:=T.gf;obtain mn|mf|gm:=T.ls (m,us) (by simp);obtain pn|pf|gp:=T.ls (p,ws) (by simp);obtain ln|lf|gl:=T.ls (l,vs) (by simp);have nd:=T.nd;have YX:=T.rows;have rd:=T.rd;clear T hL;have gf:H' fd=some (.lst [.ref m,.ref p,.ref l]):=gf;have nd:[m,p,l].33:=nd;have rd:(us++(ws++(vs++[]))).33:=rd;have u0':=Q!.10 s';have B':=B9.10 s';have _u:H m=none:=Q!.17 B9 mn;have ZU:H p=none:=Q!.17 B9 pn;have hl0:H l=none:=Q!.17 B9 ln;obtain ⟨A,eA⟩:∃A:Addr->Prop,A=λq=>H q=none/\q≠m/\q≠p/\q≠l:=#[_,rfl]
  have _S:∀{q},H q=none->q≠m->q≠p->q≠l->A q:=λh1 h2 h3 h4=>by rw[eA];show #[h1,h2,h3,h4]
  have YE:∀{q},A q->H q=none/\q≠m/\q≠p/\q≠l:=λh=>by rw[eA] at h;show h
  have nb:∀{q},H q=none->q≠b:=λh z=>hB.at (by rw[<- z];show h)
  have MA:GO A m p l b q0:=#[λz=>(YE z).2.1 rfl,λz=>(YE z).2.2.1 rfl,λz=>(YE z).2.2.2 rfl,λz=>hB.at (YE z).1,(λz=>by have z1:=(YE z).1;rw[Zr] at z1;cases z1),nb _u,nb ZU,nb hl0,by intro z;subst z;simp at nd,by intro z;subst z;simp at nd,λz=>by rw[<- z,_u] at Zr;cases Zr];have X:kv K A H' (6+v) (λ_=>Fr 1 1) m p l b q0 us ws vs:=#[B',u0'.2 _ I0,gm,gp,gl,lu,λx hx=>?_,?_]
  ·exists #[b,m,p,l,q0,6+v,1,λ_=>1,A,us,ws,vs,rfl,MA,X,(),(),(),λ_=>Nat.zero_lt_one,λ_=>bu,#[1,λ_ _ _=>rfl],(),λq hq=>?_,λr Yo YS g Y kp=>?_]
   ·show _S (u0'.17 B' hq) (λz=>by rw[z,gm] at hq;cases hq) (λz=>by rw[z,gp] at hq;cases hq) (λz=>by rw[z,gl] at hq;cases hq)
   ·obtain mv|Gm|Y2|_t:=kT (H0:=H) (n:=6+v) (C:=Fr 1 (9^3*1)) (m:=6+v) #[Yo,Y.gm,Y.lm,MA.am,λx hx=>Y.row x (by simp [hx])] λq h=>(YE h).1
    obtain pt|Gp|lpt|hpt:=kT (H0:=H) (n:=6+v) (C:=Fr 1 (9^3*1)) (m:=2) #[ws,Y.gp,lw,MA.ap,λx hx=>Y.row x (by simp [hx])] λq h=>(YE h).1
    obtain lk|Gl|llk|hlk:=kT (H0:=H) (n:=6+v) (C:=Fr 1 (9^3*1)) (m:=2) #[vs,Y.gl,lv,MA.al,λx hx=>Y.row x (by simp [hx])] λq h=>(YE h).1
    refine k r mv pt lk YS #[m,p,l,g,_u,ZU,hl0,Gm,Gp,Gl] () #[(),(),(),λxs hx=>by rw[(_t xs hx).1,Y2],λxs hx=>by rw[(hpt xs hx).1,Y2],λxs hx=>by rw[(hlk xs hx).1,Y2]] (λxs hx=>(_t xs hx).2) (λxs hx=>(hpt xs hx).2) (λxs hx=>(hlk xs hx).2) Y.YD #[λc' u e n1=>kp c' u (u0'.1 _ _ e n1) n1 (λz=>by have:=(YE z).1;rw[e] at this;cases this) (λz=>by rw[z,_u] at e;cases e),λq h=>by rw[<- Inner.inj I0 h];show Y.YV]
  ·have hx:∃e∈[(m,us),(p,ws),(l,vs)],x∈e.2:=by
    rcases ao.mp hx with hx | hx
    ·rcases ao.mp hx with hx | hx
     ·show #[(m,us),by simp,hx]
     ·show #[(l,vs),by simp,hx]
    ·show #[(p,ws),by simp,hx]
   obtain e|he|hx:=hx;refine (YX e he x hx).44 (λq hq=>?_) (λ_ w=>w);obtain ⟨h1,_⟩|h2:=hq;have h2:q∉[m,p,l]:=h2;simp only[aF,aS,or_false,not_or] at h2;show _S (Q!.17 B9 h1) h2.1 h2.2.1 h2.2.2
  ·rw[nC] at rd
   have e:(us++vs++ws).Perm (us++(ws++vs)):=by
    rw[cp];show List.Perm.append_left _ List.perm_append_comm
   show e.nodup_iff.mpr rd
theorem rR:sC ["_law_bag_here","_law_wide","_law_way"] 2 oQ:=by walk_at "d"
theorem zU (T:Txt K mg Z) (ac:bd P):T.ki.o P w base 2 (zd K):=by
 refine T.ki.F.k rR ?_;walk_at "i";obtain b|w|rfl|hB|w0|w1|k:=h
 refine #[_,(av (eJ 2 rR.nd (cH (bO T ac) hr T.br (cK bQ aw)))
  (av (c5 (bf tW eI aw (bE _)) (aA (aQ (cY (cK aw aw)))) bX)
  (av (c5 (bf tW eI aw (bE _)) (aA (aQ (cY (cK (bF jf (cH (bO T ac) hr T.br (cK bQ aw)) aw) aw)))) bX)
  (av (c5 (bf gD eI aw (bE _)) (aA (aQ (cH (gK T ac) hr T.d4 (cK (bF jf (cH (bO T ac) hr T.br (cK bQ aw)) aw) (bF ic aw (cH (bO T ac) hr T.br (cK bQ aw))))))) bX)
  (aA (aQ (cH (gK T ac) hr T.d4 (cK (bF jf (cH (bO T ac) hr T.br (cK bQ (bF ic (bF c4 aw cJ) aw))) cJ) (bF ic aw (cH (bO T ac) hr T.br (cK bQ cJ))))))))))),?_]
 left
 exists #[b,8,rfl,hB,(),(),λv H1 v0 v1 B1 u1=>?_];exists jL (λh0=>?_) (λh0=>?_)
 ·exists cb λr H2 s2 g2=>?_
  show k r 0 _ #[be _,by change 1<=_;lia] (cm.mk g2 rfl) (B1.10 s2) (u1.10 s2)
 exists jL (λh1=>?_) (λh1=>?_)
 ·exists #[b,7,rfl,B1,(),(),λa H2 a0 a1 B2 u2=>?_];exists cb λr H3 s3 g3=>?_
  show k r ((a - 3:Int):Rat) _ #[by change (a - 3).15<=_;lia,by change 1<=_;lia] (cm.mk g3 rfl) (B2.10 s3) ((u1.4 u2).10 s3)
 exists jL (λh2=>?_) (λh2=>?_)
 ·exists #[b,13,rfl,B1,(),(),λa H2 a0 a1 B2 u2=>?_];exists #[b,6,rfl,B2,(),(),λc H3 c0 c1 B3 u3=>?_];exists #[_,_,rfl,(),(Mi ()).22 (),λr H4 s4 g4=>?_];obtain q|e|d|_:=M7 (t:=a - 6) (b:=1+c) (W:=max w 6) () () ();show k r q _ d (cm.mk g4 e) (B3.10 s4) (((u1.4 u2).4 u3).10 s4)
 exists #[b,_,rfl,B1,(),(),λa H2 a0 a1 B2 u2=>?_];exists #[b,_,rfl,B2,(),(),λc H3 c0 c1 B3 u3=>?_];exists #[_,_,rfl,(),(Mi ()).22 (),λr H4 s4 g4=>?_];obtain q|e|d|_:=M7 (t:=a - w) (b:=1+c) (W:=max w 6) () () ();show k r q _ d (cm.mk g4 e) (B3.10 s4) (((u1.4 u2).4 u3).10 s4)
theorem E6:sC ["_law_bag_here","_law_many","_law_wide"] 3 uE:=by walk_at "d"
theorem yc (T:Txt K mg Z) (ac:bd P):T.jT.o P w base 3 (EX K):=by
 refine T.jT.F.k E6 ?_;walk_at "i";obtain b|m|w|rfl|hB|hm|w0|w1|k:=h;refine #[_,(aA (aQ (bS ["_law_k"] ["_law_bag_here","_law_wide"] [0,2] (b8 rfl T.34 (c6 cJ)) (λ_=>(eG 0)) (λ_=>bZ) (λ_=>(cH (zU T ac) hr T.ki (cK cJ eI)))))),?_];left
 exists #[(),(),?_];refine Cg (n:=m) (cm K) (Dr (max w 6)) hB hm (λa u B=>a.Xs u B) ?_ ?_
 ·rintro i H' NY NN hi u B k1;exists #[b,w,rfl,B,w0,w1,λr x H2 hx h2 B2 u2=>k1 _ x _ u2 B2 hx h2]
 ·rintro ys cs H' p hp u B g lc hc pr nx;show k p cs H' hp #[ys,g,pr] lc hc B u
theorem j6:sC ["_law_bag_here","_law_n","_law_way","_law_first","_law_wide","_law_move_here","_law_i","_law_row_here","_law_j"] 5 sE:=by walk_at "d"
theorem Dn (T:Txt K mg Z) (ac:bd P):T.m9.o P w base 4 (ES K):=by
 refine T.m9.F.k j6 ?_;walk_at "i";obtain b|n|w|way|first|rfl|hB|n8|w0|w1|k:=h
 refine #[_,(av (eJ 5 j6.nd (fq iE))
  (av (fo VA rfl (b8 rfl T.34 (c6 cJ)) (eG 6 j6.nd)
   (av (eJ 7 j6.nd (cH (yc T ac) hr T.jT (zM bQ cJ rG)))
  (av (fo VA rfl (b8 rfl T.34 (c6 cJ)) (eG 8 j6.nd)
   (jR (c5 (PW.pt (mK (bf gD eI aw (bE _)) (oq (bf zO (cH (bO T ac) hr T.br (cK bQ aw)) aw (bE _))))) (aA (fR (cY (cK aw aw)) (ib Ez Ey set_list))) bX)
  (jR (c5 (PW.pt (mK (bf gD eI aw (bE _)) (oq (bf tW (bF ic rg aw) cJ (bE _))))) (aA (fR (cY (cK (eZ nI (by rfl) T.int VP (c6 (jz gD Ey (bF ic rg aw) (bE _)))) aw)) (ib Ez Ey set_list))) bX)
  (jR (c5 (PW.pt (mP (PW.pt (mK (bf gD eI aw (bE _)) (mK (bf zP rg ky (bE _)) (oq (bf tW Ey ky (bE _)))))) (jc (PW.pt (mK (bf gD eI aw (bE _)) (mK (bf tW rg ky (bE _)) (oq (bf zP Ey ky (bE _))))))))) (aA (fR (cY (cK aw aw)) (ib Ez Ey set_list))) bX)
  (aA (c5 (bf gD eI aw (bE _)) (aA (fR (cY (cK (bF c4 (aZ bV (fq (LQ aw aw (zI uj aw) aw)) (bF oV ky aw)) (eZ nI (by rfl) T.int VP (c6 (jz gD rg Ey (bE _))))) aw)) (ib Ez Ey set_list))) bX))))))
  (aA (jy (vp cX dG dF kO tU (c6 Ez)))))))
  (aA (aQ tU)))),?_]
 left
 have W1:1<=max w 6:=()
 exists dJ λr H1 s1 n1 g1=>?_
 have rb:r≠b:=λz=>hB.at (by rw[<- z];show n1)
 obtain q0|I0|xs0|Zr:=hB.inner;have I1:Inner H1 b q0:=(s1.Xs (p:=b)).2 _ I0;obtain ⟨A,eA⟩:∃A:Addr->Prop,A=λq=>H q=none/\q≠r:=#[_,rfl]
 have nb:¬A b:=by rw[eA];show λz=>hB.at z.1
 have nr:¬A r:=by rw[eA];show λz=>z.2 rfl
 have nq:¬A q0:=by rw[eA];show λz=>by have z1:=z.1;rw[Zr] at z1;cases z1
 have rq:r≠q0:=λz=>by rw[<- z,n1] at Zr;cases Zr
 exists #[(),(),?_];refine fw (n:=n) (λi σ' H'=>∃(x1 x2 x3:Option V) (us:List V),σ'=[some (.ref b),some (.int n),some (.int way),some (.int first),some (.int w),some (.ref r),x1,x2,x3]/\H' r=some (.lst us)/\us.9=i/\us.33/\(∀x∈us,fZ K A H' n (Dr (max w 6)) x)/\jW H' b/\Inner H' b q0/\de b H H') #[none,none,none,[],rfl,g1,rfl,oE,(λ_ z=>nomatch z),hB.10 s1,I1,s1.Xs] ?_ ?_
 ·rintro i σ' H' hi ⟨x1,x2,x3,us,rfl,gu,lu,nd,ru,B',I',u'⟩;exists #[b,n,w,rfl,B',(),w0,w1,λp xs Ha np Ra la da Ba ua=>?_];have ZU:H p=none:=u'.17 B' np
  have pn:V.ref p∉us:=λz=>by
   obtain q'|_|_|e'|_|g'|_:=(ru _ z).at;cases e';rw[np] at g';cases g'
  have ap':H p=none/\p≠r:=#[ZU,λz=>by rw[z,gu] at np;cases np];have ap:A p:=by rw[eA];show ap'
  have X0:Kx K A n (Dr (max w 6)) r p b q0 us H Ha:=#[ua.40 rb gu,λx hx=>(ru x hx).Xs ua B' nb,#[p,xs,rfl,ap,Ra,la,da],Ba,ua.2 _ I',u'.4 ua];clear ru Ra gu;exists #[(),(),?_];refine fw (n:=n) (λj σ' H'=>(∃x3,σ'=[some (.ref b),some (.int n),some (.int way),some (.int first),some (.int w),some (.ref r),some (.int i),some (.ref p),x3])/\Kx K A n (Dr (max w 6)) r p b q0 us H H') #[#[_,rfl],X0] ?_ ?_
  ·rintro j σ' Hj hj ⟨⟨x3,rfl⟩,X⟩;exists #[λσ' H'=>σ'=[some (.ref b),some (.int n),some (.int way),some (.int first),some (.int w),some (.ref r),some (.int i),some (.ref p),some (.int j)]/\Kx K A n (Dr (max w 6)) r p b q0 us H H',?_,?_]
   ·exists jL (λ_=>?_) (λ_=>?_)
    ·exists #[b,3,rfl,X.YD,(),(),λd Hd d0 d1 Bd ud=>?_];replace X:=X.Xs ud Bd nb rb
     repeat' (first | walk_at "rd" | refine jL (λ_=>?_) (λ_=>?_))
     all_goals first
      | show ⟨rfl,X⟩
      | (refine cb λt Hb sb gb=>?_;walk_at "w";obtain zs|gz|lz|Xz:=(X.10 sb).put ap nr nb nq ZU (cm.mk (q:=0) gb rfl) (td (i:=0) (be _) W1) j;refine fz gz (fK ()) rfl ?_;show #[rfl,Xz])
    ·exists #[rfl,X]
   clear X;rintro σ' Hj ⟨rfl,X⟩;refine #[λσ' H'=>σ'=[some (.ref b),some (.int n),some (.int way),some (.int first),some (.int w),some (.ref r),some (.int i),some (.ref p),some (.int j)]/\Kx K A n (Dr (max w 6)) r p b q0 us H H',?_,?_]
   ·repeat' (first | walk_at "rd" | refine jL (λ_=>?_) (λ_=>?_))
    all_goals first
     | show ⟨rfl,X⟩
     | (refine cb λt Hb sb gb=>?_;walk_at "w";obtain zs|gz|lz|Xz:=(X.10 sb).put ap nr nb nq ZU (cm.mk (q:=((if decide ((j:Int)=(i:Int)+1)=true then (1:Int) else 0:Int):Rat)) gb rfl) (td (by split <;> lia) W1) j;refine fz gz (fK ()) rfl ?_;show #[rfl,Xz])
   clear X;rintro σ' Hj ⟨rfl,X⟩;refine #[λσ' H'=>σ'=[some (.ref b),some (.int n),some (.int way),some (.int first),some (.int w),some (.ref r),some (.int i),some (.ref p),some (.int j)]/\Kx K A n (Dr (max w 6)) r p b q0 us H H',?_,?_]
   ·repeat' (first | walk_at "rd" | refine jL (λ_=>?_) (λ_=>?_))
    all_goals first
     | show ⟨rfl,X⟩
     | (refine cb λt Hb sb gb=>?_;walk_at "w";obtain zs|gz|lz|Xz:=(X.10 sb).put ap nr nb nq ZU (cm.mk (q:=0) gb rfl) (td (i:=0) (be _) W1) j;refine fz gz (fK ()) rfl ?_;show #[rfl,Xz])
   clear X;rintro σ' Hj ⟨rfl,X⟩;exists jL (λ_=>?_) (λ_=>?_)
   ·exists dJ λl0 Hc sc nc gc=>?_
    walk_at "w";obtain x|ex|mx|_:=nX (xs:=[V.int 2,V.int 1,V.int (-1),V.int 0]) (i:=first % 4) (nD _ ()) (by have:=jF first (show (0:Int) < 4 by decide);simpa using this)
    obtain ⟨z,rfl,hz⟩:∃z:Int,x=.int z/\z.15<=2:=by
     simp only[aF,aS,or_false] at mx;rcases mx with rfl | rfl | rfl | rfl
     ·show #[2,rfl,()]
     ·show #[1,rfl,()]
     ·show #[-1,rfl,()]
     ·show #[0,rfl,()]
    refine cz (bN.of gc) ex ?_;exists gI (Kq () ()) ?_;exists cb λt Hb sb gb=>?_
    walk_at "w";obtain zs|gz|lz|Xz:=((X.10 sc).10 sb).put ap nr nb nq ZU (cm.mk (q:=((z*(if decide ((i:Int)=(j:Int))=true then (1:Int) else 0):Int):Rat)) gb rfl) (td (by split <;> lia) W1) j;refine fz gz (fK ()) rfl ?_;show #[#[_,rfl],Xz]
   ·exists #[#[_,rfl],X]
  ·rintro σ' Hj ⟨⟨x3,rfl⟩,X⟩;exists #[.inl #[rfl,_,bN.of X.gr],?_];exists jQ X.gr (cV ()) ?_;refine #[_,_,_,us++[.ref p],rfl,aK,by simp [lu],qH nd pn,λx hx=>?_,X.YD.upd X.YV rb rq,X.YV.upd rb,X.up.46 n1];rcases ao.mp hx with hx | hx
   ·show (X.ru x hx).40 X.gr nr
   ·have e:x=V.ref p:=by simpa using hx
    rw[e];show X.rp.40 X.gr nr
 ·rintro σ' H' ⟨x1,x2,x3,us,rfl,gu,lu,nd,ru,B',I',u'⟩;exists k r us H' n1 gu lu nd (by rw[eA] at ru;show ru) B' u'
theorem dS:sC ["_law_bag_here","_law_n","_law_ins","_law_outs","_law_wide","_law_way","_law_first","_law_move_here","_law_put","_law_look","_law_k","_law_row_here"] 5 qd:=by walk_at "d"
theorem A3 (T : Txt K mg Z) (ac : P.given.tree = none) : T.lI.o P w base 5 (BD K) := by
  have oA := bO (P := P) (w := w) (base := base) T ac;have GQ := Dn (P := P) (w := w) (base := base) T ac;have AB := yc (P := P) (w := w) (base := base) T ac;have Ew := t9 (P := P) (w := w) (base := base) T ac;refine T.lI.F.k dS ?_;walk_at "i";obtain b|n|i|o|w|c|rfl|hB|n8|i4|o4|w0|w1|hc|h!|hcM|k:= h
  refine #[_, (av (eJ 5 dS.nd (cH oA hr T.br (cK bQ aw)))
    (av (eJ 6 dS.nd (cH oA hr T.br (cK bQ (bF ic cJ aw))))
    (av (eJ 7 dS.nd (cH GQ hr T.m9 (fI bQ (LQ cJ tU rg rG))))
    (av (iQ 8 ["_law_k"] ["_law_bag_here", "_law_n", "_law_wide"] [0, 1, 4] dS.nd rfl rfl (b8 rfl T.34 (c6 eI)) (λ_ => (eG 0)) (λ_ => bZ) (λ_ => (cH AB hr T.jT (zM cJ eI ky))))
    (av (iQ 9 ["_law_k"] ["_law_bag_here", "_law_n", "_law_wide"] [0, 1, 4] dS.nd rfl rfl (b8 rfl T.34 (c6 ky)) (λ_ => (eG 0)) (λ_ => bZ) (λ_ => (cH AB hr T.jT (zM cJ eI ky))))
    (av (fo VA rfl (b8 rfl T.34 (c6 cJ)) (eG 10 dS.nd)
      (av (fo VA rfl (cg Ey) (eG 11 dS.nd)
      (aA (c5 (PW.pt (mP (PW.pt (mK (bf gD tU aw (bE _)) (oq (bf zP (pv 10) rg (bE _))))) (jc (PW.pt (mK (bf gD tU aw (bE _)) (mK (bf tW (bF ic (pv 10) aw) cJ (bE _)) (oq (bf gD (cH oA hr T.br (cK bQ aw)) aw (bE _))))))))) (aA (fR (cY (cK aw aw)) (ib (pv 11) (pv 10) set_list))) bX)))
    (aA (fo VA rfl (cg (pv 9)) (eG 11 dS.nd)
      (aA (c5 (PW.pt (mP (PW.pt (mK (bf gD tU aw (bE _)) (oq (bf zP (pv 10) rg (bE _))))) (jc (PW.pt (mK (bf gD tU aw (bE _)) (mK (bf zO (pv 10) aw (bE _)) (oq (bf gD (cH oA hr T.br (cK bQ aw)) aw (bE _))))))))) (aA (fR (cY (cK aw aw)) (ib (pv 11) (pv 10) set_list))) bX))))))
    (aA (aQ (cH Ew hr T.jt (LQ bQ Ez Ey (pv 9))))))))))), ?_]
  walk_at "s"
  try rw [gJ]
  have W1 : 1 ≤ max w 6 := by lia
  obtain q0|I0|xs0|Zr:= hB.inner;exists #[b, 6, rfl, hB, by decide, by decide, λway H1 a0 a1 B1 u1 => ?_];exists #[b, _, rfl, B1, by lia, by lia, λfirst H2 f0 f1 B2 u2 => ?_];have Y7 := u1.4 u2;exists #[b, n, w, way, first, rfl, B2, n8, w0, w1, λm us H3 nm0 gm lm ndm rm B3 u3 => ?_];have Zn := Y7.4 u3;exists #[(), by lia, ?_];refine Ci (n := i) (b := b) (cu K H3) (λxs => xs.9 = n /\ ∀ x ∈ xs, Dr (max w 6) x) B3 () (λa u B => a.Xs u B B3.at) (λ#[q, e, _, _, g, _] => #[q, e, by rw [g]; show λz => nomatch z]) ?_ ?_
  · rintro s H' NY NN hi u B k1;exists #[b, n, w, rfl, B, by lia, w0, w1, λr xs H2 nr R lx dx B2 u2 => k1 _ xs _ u2 B2 #[lx, dx] #[r, rfl, u.17 B nr, R] #[r, rfl, nr]]
  rintro ws puts H4 p np u4 B4 gp lp ndp hp pr4 nx4;have t! := Zn.4 u4;exists #[(), by lia, ?_];refine Ci (n := o) (b := b) (cu K H4) (λxs => xs.9 = n /\ ∀ x ∈ xs, Dr (max w 6) x) B4 () (λa u B => a.Xs u B B4.at) (λ#[q, e, _, _, g, _] => #[q, e, by rw [g]; show λz => nomatch z]) ?_ ?_
  · rintro s H' NY NN hi u B k1;exists #[b, n, w, rfl, B, by lia, w0, w1, λr xs H2 nr R lx dx B2 u2 => k1 _ xs _ u2 B2 #[lx, dx] #[r, rfl, u.17 B nr, R] #[r, rfl, nr]]
  rintro vs agU H5 l nl u5 B5 gl ll ndl hl pr5 nx5;have u05 := t!.4 u5;have _u : H m = none := Y7.17 B2 nm0;have ZU : H p = none := Zn.17 B3 np;have hl0 : H l = none := t!.17 B4 nl;have mb : m ≠ b := λz => B2.at (by rw [<- z]; show nm0)
  have pb : p ≠ b := λz => B3.at (by rw [<- z]; show np)
  have lb : l ≠ b := λz => B4.at (by rw [<- z]; show nl)
  have gm4 := u4.40 mb gm;have gm5 := u5.40 mb gm4;have gp5 := u5.40 pb gp;have mp : m ≠ p := λz => by rw [z, np] at gm; cases gm
  have ml : m ≠ l := λz => by rw [z, nl] at gm4; cases gm4
  have pl : p ≠ l := λz => by rw [z, nl] at gp; cases gp
  have mq : m ≠ q0 := λz => Inner.at B2 (Y7.2 _ I0) (by rw [<- z]; show nm0)
  obtain ⟨A, eA⟩ : ∃ A : Addr → Prop, A = λq => H q = none /\ q ≠ m /\ q ≠ p /\ q ≠ l := #[_, rfl]
  have _S : ∀ {q}, H q = none → q ≠ m → q ≠ p → q ≠ l → A q := λh1 h2 h3 h4 => by rw [eA]; show #[h1, h2, h3, h4]
  have YE : ∀ {q}, A q → H q = none /\ q ≠ m /\ q ≠ p /\ q ≠ l := λh => by rw [eA] at h; show h
  have MA : GO A m p l b q0 := #[λz => (YE z).2.1 rfl, λz => (YE z).2.2.1 rfl, λz => (YE z).2.2.2 rfl, λz => hB.at (YE z).1, (λz => by have z1 := (YE z).1; rw [Zr] at z1; cases z1), mb, pb, lb, mp, ml, mq];clear eA;have Zo : ws.9 = i := by rw [<- pr4.9]; show lp
  have lvs : vs.9 = o := by rw [<- pr5.9]; show ll
  have alM : ∀ q, V.ref q ∈ us → H3 q ≠ none /\ q ≠ b /\ H4 q ≠ none := λq hq => by
    obtain q'|qs|e|⟨a1, a2⟩|r|z:= rm _ hq;cases e;have qb : q ≠ b := λy => B2.at (by rw [<- y]; show a1)
    obtain xq|gq|_:= id r;obtain xq4|gq4|_:= r.Xs u4 B3 qb;show #[(by rw [gq]; show λz => nomatch z), qb, (by rw [gq4]; show λz => nomatch z)]
  have alP : ∀ q, V.ref q ∈ ws → H3 q = none /\ H4 q ≠ none := λq hq => by
    obtain _|_|q'|e|a|_|g|_:= cM pr4 hq;cases e;show #[a, by rw [g]; show λz => nomatch z]
  have alL : ∀ q, V.ref q ∈ vs → H4 q = none := λq hq => by
    obtain _|_|q'|e|a|_:= cM pr5 hq;cases e;show a
  have isR : ∀ x, x ∈ us \/ x ∈ ws \/ x ∈ vs → ∃ q, x = V.ref q := λx hx => by
    rcases hx with hx | hx | hx
    · obtain q|_|e|_:= rm x hx; show #[q, e]
    · obtain _|_|q|e|_:= cM pr4 hx; show #[q, e]
    · obtain _|_|q|e|_:= cM pr5 hx; show #[q, e]
  have nd : (us ++ vs ++ ws).33 := by
    refine dC.mpr #[dC.mpr #[ndm, ndl, λx hx y hy e => ?_], ndp, λx hx y hy e => ?_]
    · subst e;obtain q|rfl:= isR x (.inl hx);show (alM q hx).2.2 (alL q hy)
    · subst e;obtain q|rfl:= isR x (.inr (.inl hy));rcases ao.mp hx with hx | hx
      · show (alM q hx).1 (alP q hy).1
      · show (alP q hy).2 (alL q hx)
  have X5 : Jd K A n (Dr (max w 6)) m p l b q0 us ws vs H H5 := by
    refine #[#[B5, u05.2 _ I0, gm5, gp5, gl, lm, λx hx => ?_, nd], gp5, gl, λc u e n1 _ _ => u05.1 c u e n1];rcases ao.mp hx with hx | hx
    · rcases ao.mp hx with hx | hx
      · obtain q|qs|e|⟨a1, a2⟩|r|z:= rm x hx;obtain xq|gq|_:= id r;have qb : q ≠ b := λy => B2.at (by rw [<- y]; show a1)
        have r4 := r.Xs u4 B3 qb;obtain xq4|gq4|_:= id r4;show #[q, qs, e, _S (Y7.17 B2 a1) a2 (λy => by rw [y, np] at gq; cases gq) (λy => by rw [y, nl] at gq4; cases gq4), r4.Xs u5 B4 qb, z]
      · refine Mz (A := A) pr5 hl (λq hq a b' => ?_) x hx;show _S (t!.17 B4 a) (λy => by rw [y, gm4] at a; cases a) (λy => by rw [y, gp] at a; cases a) (λy => dZ nx5 (by rw [<- y]; show hq))
    · refine fZ.Xs (Mz (A := A) pr4 hp (λq hq a b' => ?_) x hx) u5 B4 MA.ab;show _S (Zn.17 B3 a) (λy => by rw [y, gm] at a; cases a) (λy => dZ nx4 (by rw [<- y]; show hq)) (λy => b' (by rw [y]; show nl))
  clear alM alP alL isR rm pr4 pr5 nx4 nx5 gm gm4 gm5 gp gp5 gl hp hl;exists #[(), by lia, ?_];refine fw (n := n) (λkk σ' H' => (∃ x1 x2, σ' = [some (.ref b), some (.int n), some (.int i), some (.int o), some (.int w), some (.int way), some (.int first), some (.ref m), some (.ref p), some (.ref l), x1, x2]) /\ Jd K A n (Dr (max w 6)) m p l b q0 us ws vs H H') #[#[_, _, rfl], X5] ?_ ?_
  · rintro kk σ' Hj hk ⟨⟨x1, x2, rfl⟩, X⟩;exists #[#[_, bN.of X.gp], ?_];refine mB (K := K) (a := p) (xs := ws) (λs σ' H' => (∃ x2, σ' = [some (.ref b), some (.int n), some (.int i), some (.int o), some (.int w), some (.int way), some (.int first), some (.ref m), some (.ref p), some (.ref l), some (.int kk), x2]) /\ Jd K A n (Dr (max w 6)) m p l b q0 us ws vs H H') #[#[_, rfl], X] (λs σ' H' _ #[_, e] => bN.of e.gp) ?_ ?_
    · rintro s x σ' Hk hx ⟨⟨y2, rfl⟩, X⟩;have mx := ar hx;obtain q|_|rfl|_:= X.row (.inl mx)
      repeat' (first | walk_at "rd" | refine jL (λ_ => ?_) (λ_ => ?_))
      all_goals first
        | show ⟨⟨_, rfl⟩, X⟩
        | (refine cb λt Hb sb gb => ?_; walk_at "w"; obtain zs|gz|lz|Xz:= (X.10 sb).put MA (.inl mx) (cm.mk (q := 0) gb rfl) (td (i := 0) (be _) W1) kk; refine fz gz (fK ()) rfl ?_; show #[#[_, rfl], Xz])
        | (refine ⟨b, 2, rfl, X.YO.YD, by decide, by decide, λd Hd d0 d1 Bd ud => ?_⟩
           replace X := X.Xs MA ud Bd
           repeat' (first | walk_at "rd" | refine jL (λ_ => ?_) (λ_ => ?_))
           all_goals first
             | show ⟨⟨_, rfl⟩, X⟩
             | (refine cb λt Hb sb gb => ?_
                walk_at "w";obtain zs|gz|lz|Xz:= (X.10 sb).put MA (.inl mx) (cm.mk (q := 0) gb rfl) (td (i := 0) (be _) W1) kk;refine fz gz (fK ()) rfl ?_;show #[#[_, rfl], Xz]))
    · rintro σ' Hk ⟨⟨y2, rfl⟩, X⟩;exists #[#[_, bN.of X.gl], ?_];refine mB (K := K) (a := l) (xs := vs) (λs σ' H' => (∃ x2, σ' = [some (.ref b), some (.int n), some (.int i), some (.int o), some (.int w), some (.int way), some (.int first), some (.ref m), some (.ref p), some (.ref l), some (.int kk), x2]) /\ Jd K A n (Dr (max w 6)) m p l b q0 us ws vs H H') #[#[_, rfl], X] (λs σ' H' _ #[_, e] => bN.of e.gl) ?_ ?_
      · rintro s x σ' Hk hx ⟨⟨y2, rfl⟩, X⟩;have mx := ar hx;obtain q|_|rfl|_:= X.row (.inr mx)
        repeat' (first | walk_at "rd" | refine jL (λ_ => ?_) (λ_ => ?_))
        all_goals first
          | show ⟨⟨_, rfl⟩, X⟩
          | (refine cb λt Hb sb gb => ?_; walk_at "w"; obtain zs|gz|lz|Xz:= (X.10 sb).put MA (.inr mx) (cm.mk (q := 0) gb rfl) (td (i := 0) (be _) W1) kk; refine fz gz (fK ()) rfl ?_; show #[#[_, rfl], Xz])
          | (refine ⟨b, 2, rfl, X.YO.YD, by decide, by decide, λd Hd d0 d1 Bd ud => ?_⟩
             replace X := X.Xs MA ud Bd
             repeat' (first | walk_at "rd" | refine jL (λ_ => ?_) (λ_ => ?_))
             all_goals first
               | show ⟨⟨_, rfl⟩, X⟩
               | (refine cb λt Hb sb gb => ?_
                  walk_at "w";obtain zs|gz|lz|Xz:= (X.10 sb).put MA (.inr mx) (cm.mk (q := 0) gb rfl) (td (i := 0) (be _) W1) kk;refine fz gz (fK ()) rfl ?_;show #[#[_, rfl], Xz]))
      · rintro σ' Hk ⟨⟨y2, rfl⟩, X⟩;show #[#[_, _, rfl], X]
  · rintro σ' Hj ⟨⟨x1, x2, rfl⟩, X⟩
    obtain ⟨M1, M2, M3, V0, a1, a2, a3, V2, Zq, R1, R2, R3⟩ : ∃ M1 M2 M3 V0 : Nat, (0 < M1 /\ M1 ≤ 2 ^ 800) /\ (0 < M2 /\ M2 ≤ 2 ^ 800) /\ (0 < M3 /\ M3 ≤ 2 ^ 800) /\ V0 ≤ 2 ^ 20 /\ ((w ≤ 9 /\ M1 = 2520 /\ M2 = 2520 /\ M3 = 2520 /\ V0 = 9) \/ (9 < w /\ M1 ≤ 2 ^ (c * (n * n)) /\ M2 ≤ 2 ^ (c * (i * n)) /\ M3 ≤ 2 ^ (c * (o * n)) /\ V0 = 2 ^ c)) /\ (∀ x ∈ us, fZ K A Hj n (Fr M1 V0) x) /\ (∀ x ∈ ws, fZ K A Hj n (Fr M2 V0) x) /\ ∀ x ∈ vs, fZ K A Hj n (Fr M3 V0) x := by
      by_cases w9 : w ≤ 9
      · have XM := X.YO.44 (C' := λ_ => Fr 2520 9) λ_ _ y h => SR #[ag h.1 (), ag h.2 ()] (Nat.dvd_refl _)
        have z : 0 < 2520 /\ 2520 ≤ 2 ^ 800 := #[(), ag (show 2520 ≤ 2 ^ 12 by decide) (ak () ())];show #[2520, 2520, 2520, 9, z, z, z, by decide, .inl #[w9, rfl, rfl, rfl, rfl], λx hx => XM.row x (by simp [hx]), λx hx => XM.row x (by simp [hx]), λx hx => XM.row x (by simp [hx])]
      · obtain M1|M2|M3|a1|a2|a3|b1|b2|b3|R1|R2|R3:= (X.YO.44 (C' := λ_ => Dr (2 ^ c)) λ_ _ y h => #[ag h.1 hc, ag h.2 hc]).fr3;rw [Zo] at b2;rw [lvs] at b3;have up : ∀ {M k : Nat}, M ≤ 2 ^ (c * k) → k ≤ (n + i + o) * n → M ≤ 2 ^ 800 := λh hk => ag h (ak () (ag (bc _ hk) hcM))
        show #[M1, M2, M3, 2 ^ c, #[a1, up b1 (ax _ ())], #[a2, up b2 (ax _ ())], #[a3, up b3 (ax _ ())], ak () h!, .inr #[(), b1, b2, b3, rfl], R1, R2, R3]
    obtain μ|e2|e3|e1|e4:= MW ws vs M1 M2 M3;obtain ap1|ap2:= X.YO.apart
    have XM : kv K A Hj n (λx => Fr (μ x) V0) m p l b q0 us ws vs := by
      refine #[X.YO.YD, X.YO.YV, X.YO.gm, X.YO.gp, X.YO.gl, X.YO.lm, λx hx => ?_, X.YO.nd];rcases ao.mp hx with hx | hx
      · rcases ao.mp hx with hx | hx
        · rw [e1 x (ap1 x hx).1 (ap1 x hx).2]; show R1 x hx
        · rw [e3 x hx (ap2 x hx)]; show R3 x hx
      · rw [e2 x hx]; show R2 x hx
    have p1 : ∀ x, 0 < μ x := λx => by
      rcases e4 x with e | e | e
      · rw [e]; show a1.1
      · rw [e]; show a2.1
      · rw [e]; show a3.1
    have p2 : ∀ x, μ x ≤ 2 ^ 800 := λx => by
      rcases e4 x with e | e | e
      · rw [e]; show a1.2
      · rw [e]; show a2.2
      · rw [e]; show a3.2
    have gmj := X.YO.gm;exists #[b, m, p, l, q0, n, V0, μ, A, us, ws, vs, rfl, MA, XM, n8, by lia, by lia, p1, p2, #[M1, e1], V2, λq hq => ?_, λr Yo H' g Y kp => ?_]
    · refine _S ?_ (λz => by rw [z, gmj] at hq; cases hq) (λz => by rw [z, X.gp] at hq; cases hq) (λz => by rw [z, X.gl] at hq; cases hq);cases e : H q with
      | none => rfl
      | some u =>
        have := X.kp q u e (λz => X.YO.YD.at (by rw [<- z]; show hq)) (λz => by have := (YE z).1; rw [e] at this; cases this) (λz => by rw [z, _u] at e; cases e);rw [hq] at this; cases this
    · obtain yp1|yp2:= Y.apart;obtain mv|Gm|Y2|_t:= kT (H0 := H) (n := n) (C := Fr M1 (9 ^ 3 * V0)) (m := n) #[Yo, Y.gm, Y.lm, MA.am, λx hx => by have := Y.row x (by simp [hx]); rwa [e1 x (yp1 x hx).1 (yp1 x hx).2] at this] λq h => (YE h).1
      obtain pt|Gp|lpt|hpt:= kT (H0 := H) (n := n) (C := Fr M2 (9 ^ 3 * V0)) (m := i) #[ws, Y.gp, Zo, MA.ap, λx hx => by have := Y.row x (by simp [hx]); rwa [e2 x hx] at this] λq h => (YE h).1
      obtain lk|Gl|llk|hlk:= kT (H0 := H) (n := n) (C := Fr M3 (9 ^ 3 * V0)) (m := o) #[vs, Y.gl, lvs, MA.al, λx hx => by have := Y.row x (by simp [hx]); rwa [e3 x hx (yp2 x hx)] at this] λq h => (YE h).1
      refine k r mv pt lk H' #[m, p, l, g, _u, ZU, hl0, Gm, Gp, Gl] Y2 lpt llk #[(), by lia, by lia, λxs hx => by rw [(_t xs hx).1, Y2], λxs hx => by rw [(hpt xs hx).1, Y2], λxs hx => by rw [(hlk xs hx).1, Y2]] #[M1, M2, M3, 9 ^ 3 * V0, a1.1, a2.1, a3.1, λxs hx => (_t xs hx).2, λxs hx => (hpt xs hx).2, λxs hx => (hlk xs hx).2, ?_] Y.YD #[λc' u e n1 => (X.kp.4 kp) c' u e n1 (λz => by have := (YE z).1; rw [e] at this; cases this) (λz => by rw [z, _u] at e; cases e), λq h => by rw [<- Inner.inj I0 h]; show Y.YV];rcases Zq with ⟨b1, b2, b3, b4, b5⟩ | ⟨b1, b2, b3, b4, b5⟩
      · show .inl #[b1, b2, b3, b4, by rw [b5]]
      · show .inr #[b1, b2, b3, b4, by rw [b5]]
theorem iD:sC ["_law_bag_here","_law_n","_law_ins","_law_outs","_law_wide"] 1 oP:=by walk_at "d"
theorem zT (T:Txt K mg Z) (ac:bd P):T.kh.o P w base 6 (OH K):=by
 refine T.kh.F.k iD ?_;walk_at "i";obtain b|rfl|hB|k:=h
 refine #[_,(av (fR (cH (A1 T ac) hr T.lF (c6 bQ)) (zH rfl (cZ (eG 1 iD.nd) (cZ (eG 2 iD.nd) (cZ (eG 3 iD.nd) (cZ (eG 4 iD.nd) kZ))))))
  (av (c5 (bf gD (cH (bO T ac) hr T.br (cK bQ aw)) aw (bE _)) (av (c5 (bf gD (cH (bO T ac) hr T.br (cK bQ aw)) aw (bE _)) (aA (aQ (cY (cK (cH (vz T ac) hr T.ij (c6 bQ)) aw)))) bX)
  (aA (aQ (cY (cK (cH (qE T ac) hr T.iY (cK bQ (bF ic aw (cH (bO T ac) hr T.br (cK bQ aw))))) aw))))) bX)
  (aA (aQ (cY (cK (cH (A3 T ac) hr T.lI (fI bQ (LQ cJ eI ky rG))) (bx (tG rfl) (by rfl) T.min Wj (cK rG aw)))))))),?_]
 left
 have sf:∀{mv pt lk:Xo} {M V1:Nat},0 < M->M<=2^400->V1<=2^30->GF M V1 mv->GF M V1 pt->GF M V1 lk->N6 mv pt lk:=λh0 h1 h2 a b c=>#[_,_,h0,h1,ag h2 (ak () ()),a,b,c]
 have et:∀{mv:Xo},(aO mv mv.9).9=mv.9:=b7;exists #[b,rfl,hB,λr n i o w H1 g1 n5 i4 o4 hw h5 B1 u1=>?_];exists #[b,16,rfl,B1,(),(),λv H2 v0 v1 B2 u2=>?_];have Y7:=u1.4 u2;exists jL (λh0=>?_) (λh0=>?_)
 ·exists #[b,2,rfl,B2,(),(),λv2 H3 _ _ B3 u3=>?_];have Zn:=Y7.4 u3;exists jL (λh1=>?_) (λh1=>?_)
  ·exists #[b,rfl,B3,λr4 mv pt lk H4 P4 l6 D fm fp fl B4 u4=>?_];exists cb λt H5 s5 g5=>?_
   show k t r4 4 mv pt lk H5 g5 ((P4.44 λq h=>Zn.17 B3 h).10 s5) D (sf () bu () fm fp fl) (.inl #[(),(),(),(),(),fm,fp,ag (ax _ (show mv.9+4<=12 by have:=D.n8;lia)) ()]) (.inl #[(),(),(),(),(),uR fm,fl,ag (ax _ (show (aO mv mv.9).9+4<=12 by have:=D.n8;rw[et];lia)) ()]) () () (B4.10 s5) ((Zn.4 u4).10 s5)
  ·exists #[b,3,rfl,B3,(),(),λv3 H4 v30 v31 B4 u4=>?_];obtain v3|rfl:=jb v30;have t!:=Zn.4 u4;walk_at "w";rw[show ((6:Int)+(v3:Int))=((6+v3:Nat):Int) by lia];refine #[b,6+v3,rfl,B4,(),(),λr4 mv pt lk H5 P5 lm _ _ D fm fp fl B5 u5=>?_];exists cb λt H6 s6 g6=>?_
   show k t r4 4 mv pt lk H6 g6 ((P5.44 λq h=>t!.17 B4 h).10 s6) D (sf () bu () fm fp fl) (.inl #[(),(),(),(),(),(λxs hx x Xq=>(fm xs hx x Xq).22 ()),(λxs hx x Xq=>(fp xs hx x Xq).22 ()),ag (ax _ (show mv.9+4<=12 by have:=D.n8;lia)) ()]) (.inl #[(),(),(),(),(),uR (λxs hx x Xq=>(fm xs hx x Xq).22 ()),(λxs hx x Xq=>(fl xs hx x Xq).22 ()),ag (ax _ (show (aO mv mv.9).9+4<=12 by have:=D.n8;rw[et];lia)) ()]) () () (B5.10 s6) ((t!.4 u5).10 s6)
 ·obtain ⟨c,hc,h!,hcM⟩:∃c:Nat,max w 6<=2^c/\c<=20/\c*((n+i+o)*n)<=800/\(9 < w->c=20/\(n+i+o)*n<=20/\n<=2):=by
   have m1:(n+i+o)*n<=13*5:=aI () n5;rcases hw with rfl | rfl | ⟨rfl,n2⟩
   ·show #[4,(),(),(),λz=>()]
   ·show #[4,(),(),(),λz=>()]
   ·have m2:(n+i+o)*n<=10*2:=aI () n2;show #[20,(),(),(),λ_=>#[rfl,(),n2]]
  obtain hcM|i!:=hcM;exists #[b,n,i,o,w,c,rfl,B2,(),i4,o4,(),(),hc,h!,hcM,λr4 mv pt lk H4 P4 lm lp ll D PF B4 u4=>?_];have aew:(if (1000:Int) < (w:Int) then (1000:Int) else (w:Int))=((min w 1000:Nat):Int):=by split <;> lia
  have PG:=PF;obtain M|V1|M0|fm|fp|fl|Zq:=PF.n
  have SF:N6 mv pt lk:=by
   rcases Zq with ⟨w9,rfl,rfl⟩ | ⟨w9,M1,rfl⟩
   ·show sf () (ag (show 2520<=2^12 by decide) (ak () ())) () fm fp fl
   ·obtain rfl|e1|e2:=i! w9;show sf M0 (ag M1 (ak () ())) () fm fp fl
  have RG:Rg mv pt (min w 1000):=by
   obtain M1|M2|M3|V1|a1|a2|a3|f1|f2|f3|YB:=PG;rcases YB with ⟨w9,rfl,rfl,_,rfl⟩ | ⟨w9,b1,b2,_,rfl⟩
   ·show .inr (.inl #[(),(),(),(),(),(),f1,f2,ag (ax _ (show mv.9+4<=9 by lia)) ()])
   ·obtain rfl|e1|e2:=i! w9;have q1:n*n<=2*2:=aI e2 e2;have q2:i*n<=4*2:=aI i4 e2;have w6:w=1000000:=()
    show .inr (.inr #[(),(),M1,M2,a1,a2,ag b1 (ak () ()),ag b2 (ak () ()),f1,f2,ag (ax _ (show mv.9+4<=6 by lia)) ()])
  have RL:Rg (aO mv mv.9) lk (min w 1000):=by
   obtain M1|M2|M3|V1|a1|a2|a3|f1|f2|f3|YB:=PG;rcases YB with ⟨w9,rfl,rfl,rfl,rfl⟩ | ⟨w9,b1,b2,b3,rfl⟩
   ·show .inr (.inl #[(),by rw[et];lia,(),(),(),(),uR f1,f3,ag (ax _ (show (aO mv mv.9).9+4<=9 by rw[et];lia)) ()])
   ·obtain rfl|e1|e2:=i! w9;have q1:n*n<=2*2:=aI e2 e2;have q2:o*n<=4*2:=aI o4 e2;have w6:w=1000000:=()
    show .inr (.inr #[(),by rw[et];lia,M1,M3,a1,a3,ag b1 (ak () ()),ag b3 (ak () ()),uR f1,f3,ag (ax _ (show (aO mv mv.9).9+4<=6 by rw[et];lia)) ()])
  exists cb λt H5 s5 g5=>?_
  rw[aew] at g5;show k t r4 (min w 1000) mv pt lk H5 g5 ((P4.44 λq h=>Y7.17 B2 h).10 s5) D SF RG RL () () (B4.10 s5) ((Y7.4 u4).10 s5)
theorem CL:sC ["thing","at","most"] 3 rS:=by walk_at "d"
theorem qq (T:Txt K mg Z) (ac:bd P):T.iT.o P w base 1 Jt:=by
 refine T.iT.F.k CL ?_;walk_at "i";obtain p|xs|a|m|rfl|gx|hm|k:=h
 refine #[_,(av (c5 (kI (je (xv rfl T.37 VF T.30 bQ))) (aA JV) bX)
  (aA (c5 (bf zO (bx aR (by rfl) T.38 aM (c6 bQ)) eI (bE _)) (aA JV) bX))),?_]
 left
 exists #[_,_,.lst gx,rfl,?_];exists #[_,_,rfl,.inl (bN.of gx),?_];walk_at "w";rw[decide_eq_false (show ¬m < (xs.9:Int) by lia)];exists k
theorem E4:sC ["thing"] 1 uB:=by walk_at "d"
theorem ya (T:Txt K mg Z) (ac:bd P):T.mi.o P w base 1 KG:=by
 refine T.mi.F.k E4 ?_;walk_at "i";obtain i|rfl|k:=h;refine #[_,(aA (aQ (HU (xv rfl T.37 VP T.int bQ) (HR (Si (xv rfl T.37 PyProof.Rows.boot_bool T.bool bQ)))))),?_];left
 exists #[_,_,.int i,rfl,?_];exists #[_,_,.int i,rfl,?_];exists k
theorem ie:sC ["one","other","rest"] 2 kF:=by walk_at "d"
theorem ka (T:Txt K mg Z) (ac:bd P):T.d9.o P w base 1 TJ:=by
 refine T.d9.F.k ie ?_;walk_at "i";obtain a|b|rfl|k:=h
 refine #[_,(av (zE VA (bf pA cJ aw (bE _))
   (av (eJ 2 ie.nd (bF Pk bQ cJ))
  (av (eJ 0 ie.nd cJ)
  (aA (eJ 1 ie.nd eI)))))
  (aA (aQ (bx As (by rfl) T.abs PyProof.Rows.boot_abs (c6 bQ))))),?_]
 left
 exists Cw (λσ' H'=>∃(u v:Int) (r:Option V),σ'=[some (.int u),some (.int v),r]/\H'=H/\VY u v=VY a b) (λσ' _=>match σ' with | [_,some (.int v),_]=>v.15 | _=>0) #[a,b,none,rfl,rfl,rfl] ?_;rintro σ' H' ⟨u,v,r,rfl,rfl,hg⟩;exists jL (λh=>?_) (λh=>?_)
 ·have hv:v≠0:=λz=>by subst z;simp at h
  exists gI (show v≠0 from hv) ?_;exists #[#[v,u.fmod v,_,rfl,rfl,(Nu u v).4 hg],Py u v hv]
 ·have hv:v=0:=by
   by_cases z:v=0
   ·show z
   ·exfalso;apply h;simp [z]
  subst hv;walk_at "w"
  have e:(if u < 0 then -u else u)=g a b:=by
   unfold g;rw[<- hg,Int.gcd_zero_right]
   split <;> lia
  rw[e];show k
theorem CO:sC ["thing"] 1 rX:=by walk_at "d"
theorem Di (T:Txt K mg Z) (ac:bd P):T.mW.o P w base 2 (KN K):=by
 refine T.mW.F.k CO ?_;walk_at "i";obtain x|n|rfl|⟨p,rfl,hp⟩|hn|k:=h
 refine #[_,(av (c5 (PW.pt (mP (kI (je (qi rfl T.37 Ws T.45 bQ))) (jc (bf pA (bx aR (by rfl) T.38 aM (c6 bQ)) aw (bE _))))) (aA (aQ nQ)) bX)
  (av (c5 (PW.pt (mP (kI (je (cH (ya T ac) hr T.mi (c6 (aZ bW bQ aw))))) (jc (kI (je (cH (ya T ac) hr T.mi (c6 (aZ bW bQ aw)))))))) (aA (aQ nQ)) bX)
  (aA (aQ (HU (jz zP (aZ bW bQ aw) aw (bE _)) (HR (jz gD (cH (ka T ac) hr T.d9 (cK (aZ bW bQ aw) (aZ bW bQ aw))) aw (bE _)))))))),?_]
 left
 obtain hb|hg|s1|s2:=hn;exists .inr #[p,_,_,rfl,hp,rfl,?_];exists #[_,_,rfl,.inr hp,?_];walk_at "w"
 try refine Nh ?_
 exists #[n.1,rfl,?_];exists #[n.2,rfl,?_];walk_at "w";rw[decide_eq_true (show (1:Int)<=n.2 by lia)];exists #[n.1,n.2,rfl,?_];walk_at "w";have e:g n.1 n.2=1:=by unfold g;rw[hg];rfl
 rw[e,decide_eq_true rfl];show k _ (aE.refl _)
theorem KS:sC ["thing","many"] 2 zz:=by walk_at "d"
theorem K5 (T:Txt K mg Z) (ac:bd P):T.tD.o P w base 3 (wM K):=by
 refine T.tD.F.k KS ?_;walk_at "i";obtain p|ns|rfl|hp|hl|hn|k:=h
 refine #[_,(av (c5 (PW.pt (mP (kI (je (xv rfl T.37 VF T.30 bQ))) (jc (bf pA (bx aR (by rfl) T.38 aM (c6 bQ)) cJ (bE _))))) (aA (aQ nQ)) bX)
  (aA (aQ (bx (Ar rfl) (by rfl) T.all PyProof.Rows.boot_all (c6 (bS ["value"] [] [] (cg bQ) (λ_=>(eG 0)) (λ_=>bZ) (λ_=>(cH (Di T ac) hr T.mW (c6 bQ))))))))),?_]
 left
 obtain xs|gx|qx:=id hp;have lx:=qx.9;exists #[_,_,.lst gx,rfl,?_];exists #[_,_,rfl,.inl (bN.of gx),?_];walk_at "w";rw[show ((xs.9:Nat):Int)=(ns.9:Nat) by rw[lx],decide_eq_true rfl];exists #[#[_,bN.of gx],?_];refine dn (K:=K) (xs:=xs) (λi ys H'=>aE H H'/\ys=Vz i (.bl true)) gU #[aE.refl _,rfl] (λi ys H' _ #[s,_]=>bN.of (s _ _ gx)) ?_ ?_
 ·rintro i x ys H' hx Xv ⟨s,rfl⟩;obtain n|en|z:=cN qx hx;exists #[x,n,rfl,s.num z,hn n (ar en),λH2 s2=>#[s.4 s2,by rw[Ct]]]
 ·rintro ys H' hy ⟨s,rfl⟩ l YQ;exists #[l,Vz xs.9 true,rfl,bN.of (by rw[aK];simp),?_];have e4:(Vz xs.9 true).all id=true:=by simp
  rw[e4];show k _ (s.4 (aE.new YQ))
theorem nL:sC ["things","wide","place","thing"] 2 oN:=by walk_at "d"
theorem nR (T:Txt K mg Z) (ac:bd P):T.gF.o P w base 4 (JN K):=by
 refine T.gF.F.k nL ?_;walk_at "i";obtain p|H0|rows|w|rfl|hp|hl|hw|hn|k:=h
 refine #[_,(av (fo VA rfl (JW rfl T.enumerate (c6 bQ)) (zH rfl (cZ (eG 2 nL.nd) (cZ (eG 3 nL.nd) kZ)))
   (aA (c5 (kI (je (cH (K5 T ac) hr T.tD (cK ky cJ)))) (aA JV) bX)))
  (aA (aQ (bS ["row"] [] [] (cg bQ) (λ_=>(eG 0)) (λ_=>bZ) (λ_=>(eZ (ia K (by rfl)) (by rfl) T.30 VF (c6 bQ))))))),?_]
 left
 obtain xs|gx|qx|_:=id hp;exists #[#[_,bN.of gx],?_];refine NA (K:=K) (l:=p) (xs:=xs) (λi σ' H'=>aE H H'/\∃x y,σ'=[some (.ref p),some (.int w),x,y]) #[aE.refl _,none,none,rfl] (λi σ' H' _ #[s,_]=>bN.of (s _ _ gx)) ?_ ?_
 ·rintro i x σ' H' t hx ⟨s,x1,y1,rfl⟩ ht;obtain qs|eq|q|rfl|_|Rq:=cN qx hx;have hm:=ar eq;have st:aE H' (upd H' t (.tup [.int i,.ref q])):=aE.new ht;have gt:(upd H' t (.tup [.int i,.ref q])) t=some (.tup [.int i,.ref q]):=aK;have s2:=s.4 st;generalize upd H' t (.tup [.int i,.ref q])=H2 at st gt s2 ⊢;have lq:(qs.11 nm).9=w:=by rw[af];show (hn qs hm).1
  exists #[q,_,by rw[lq],(Rq.10 s2).Zi,by rw[lq];show hw,λn hn'=>?_,λH3 s3=>?_]
  ·obtain y|hy|rfl:=au.mp hn';show (hn qs hm).2 y hy
  exists #[s2.4 s3,_,_,rfl]
 ·rintro σ' H' ⟨s,x1,y1,rfl⟩;exists #[#[_,bN.of (s _ _ gx)],?_];refine cW (K:=K) (F:=cu K H0) (cu K H) id (s _ _ gx) (bv (λ_ _ z=>z.10 s) qx) hl (λa b=>a.10 b) (λa b=>a.10 b) ?_ ?_
  ·rintro i ns x H2 NY NN en s2 ⟨u,rfl,_,zs,gz,qz⟩ k1;exists #[u,zs,rfl,.inl (bN.of gz),λl1 Ys=>?_];show k1 _ _ (aE.new Ys) #[l1,rfl,s.17 (s2.17 Ys),zs,aK,bv (λ_ _ z=>z.10 (aE.new Ys)) qz]
  ·rintro Yc H2 r hr s2 g pr nx;rw[jw] at pr nx;show k r H2 (s.17 hr) (s.4 s2) #[Yc,g,pr,dZ nx]
theorem ux:sC ["self","move","put","look"] 4 d7:=by walk_at "d"
theorem gO (T:Txt K mg Z) (ac:bd P):qY P w K mg base Jg 5 Z.ks Z.kq ["self","move","put","look"] (JK K Z.Xg):=by
 refine T.oB.k ux ?_;walk_at "i";obtain x|dx|p|q|r|Hb|H0|H1|H2|mv|pt|lk|rfl|nx|ndx|nex|rfl|gp|gq|gr|D|om|op|ol|k:=h
 refine #[_,(av (jy (cH (qq T ac) hr T.iT (zM cJ aw (qj (v:=.int 8) rfl T.XR #[_,rfl]))))
  (av (xp bQ (cH (nR T ac) hr T.gF (cK cJ (bx aR (by rfl) T.38 aM (c6 cJ)))) rfl)
  (av (xp bQ (bx aR (by rfl) T.38 aM (c6 (dB bQ rfl))) rfl)
  (av (jy (cH (qq T ac) hr T.iT (zM eI aw (qj (v:=.int 4) rfl T.X8 #[_,rfl]))))
  (av (xp bQ (cH (nR T ac) hr T.gF (cK eI (dB bQ rfl))) rfl)
  (av (xp bQ (bx aR (by rfl) T.38 aM (c6 (dB bQ rfl))) rfl)
  (av (jy (cH (qq T ac) hr T.iT (zM ky aw (qj (v:=.int 4) rfl T.X4 #[_,rfl]))))
  (av (xp bQ (cH (nR T ac) hr T.gF (cK ky (dB bQ rfl))) rfl)
  (aA (xp bQ (bx aR (by rfl) T.38 aM (c6 (dB bQ rfl))) rfl)))))))))),?_]
 left
 have s0:aE Hb (upd (upd Hb dx (.own x)) x (.ins Z.Xg dx [])):=λb o e=>by
  rw[bA (fV e nx),bA (fV e ndx)];show e
 have hx:(upd (upd Hb dx (.own x)) x (.ins Z.Xg dx [])) x=some (.ins Z.Xg dx []):=aK;have back:∀{b},(upd (upd Hb dx (.own x)) x (.ins Z.Xg dx [])) b=none->Hb b=none:=λh=>s0.17 h
 generalize upd (upd Hb dx (.own x)) x (.ins Z.Xg dx [])=Ha at s0 hx back ⊢;obtain xs|gx|qx|_:=id gp;obtain ys|gy|qy|_:=id gq;obtain zs|gz|qz|_:=id gr;have lx:=qx.9;have ly:=qy.9;have lz:=qz.9;have d1:=D.n8;have d2:=D.i4;have d3:=D.o4;exists #[p,xs,0,8,rfl,s0 _ _ gx,(),?_];exists #[_,_,rfl,.inl (bN.of (s0 _ _ gx)),?_];exists #[p,H0,mv,mv.9,by rw[lx],gp.10 s0,(),(),λws hw=>#[D.mw ws hw,om ws hw],λa H3 na s3 Ga=>?_];have hx3:=s3 _ _ hx;exists #[x,Z.Xg,dx,_,rfl,hx3,T.Xm,T.XH,(by change 0 < 1000;decide),?_];have e3:Ex x H3 (upd H3 x (.ins Z.Xg dx (cy "move" (.ref a) []))):=Ex.upd;have i3:ue H3 x:=#[_,_,_,hx3];have _W:(upd H3 x (.ins Z.Xg dx (cy "move" (.ref a) []))) x=some (.ins Z.Xg dx (cy "move" (.ref a) [])):=aK;have Ga4:=Ga.exc e3 i3;have k4:aE Hb (upd H3 x (.ins Z.Xg dx (cy "move" (.ref a) []))):=(s0.4 s3).46 nx;generalize upd H3 x (.ins Z.Xg dx (cy "move" (.ref a) []))=H4 at e3 _W Ga4 k4 ⊢;exists #[x,Z.Xg,dx,_,_,rfl,_W,T.Xm,T.XH,(by rw[bL,if_pos rfl]),?_];obtain as|ga|qa|_:=id Ga4;have la:=qa.9;exists #[_,_,rfl,.inl (bN.of ga),?_];exists #[x,Z.Xg,dx,_,rfl,_W,T.Xm,T.Xu,bw eK (by change 1 < 1000;decide),?_];rw[show ((as.9:Nat):Int)=((mv.9:Nat):Int) by rw[la]];have e4:Ex x H4 (upd H4 x (.ins Z.Xg dx (cy "states" (.int mv.9) (cy "move" (.ref a) [])))):=Ex.upd;have i4:ue H4 x:=#[_,_,_,_W];have hx5:(upd H4 x (.ins Z.Xg dx (cy "states" (.int mv.9) (cy "move" (.ref a) [])))) x=some (.ins Z.Xg dx (cy "states" (.int mv.9) (cy "move" (.ref a) []))):=aK;have Ga5:=Ga4.exc e4 i4;have k5:aE Hb (upd H4 x (.ins Z.Xg dx (cy "states" (.int mv.9) (cy "move" (.ref a) [])))):=k4.46 nx;generalize upd H4 x (.ins Z.Xg dx (cy "states" (.int mv.9) (cy "move" (.ref a) [])))=H5 at e4 hx5 Ga5 k5 ⊢;clear e3 e4 i3 i4 _W Ga4 ga qa;exists #[q,ys,1,4,rfl,k5 _ _ gy,(),?_];exists #[x,Z.Xg,dx,_,_,rfl,hx5,T.Xm,T.Xu,(by rw[bL,if_pos rfl]),?_];exists #[q,H1,pt,mv.9,rfl,gq.10 k5,(),(),λws hw=>#[D.pw ws hw,op ws hw],λb H6 nb s6 Gb=>?_];have hx6:=s6 _ _ hx5;have i6:ue H6 x:=#[_,_,_,hx6];exists #[x,Z.Xg,dx,_,rfl,hx6,T.Xm,T.XQ,bw eK (bw (dq eK) (by change 2 < 1000;decide)),?_];have e6:Ex x H6 (upd H6 x (.ins Z.Xg dx (cy "put" (.ref b) (cy "states" (.int mv.9) (cy "move" (.ref a) []))))):=Ex.upd;have _V:(upd H6 x (.ins Z.Xg dx (cy "put" (.ref b) (cy "states" (.int mv.9) (cy "move" (.ref a) []))))) x=some (.ins Z.Xg dx (cy "put" (.ref b) (cy "states" (.int mv.9) (cy "move" (.ref a) [])))):=aK;have Ga7:=(Ga5.10 s6).exc e6 i6;have Gb7:=(Gb.44 k5).exc e6 i6;have k7:aE Hb (upd H6 x (.ins Z.Xg dx (cy "put" (.ref b) (cy "states" (.int mv.9) (cy "move" (.ref a) []))))):=(k5.4 s6).46 nx;generalize upd H6 x (.ins Z.Xg dx (cy "put" (.ref b) (cy "states" (.int mv.9) (cy "move" (.ref a) []))))=H7 at e6 _V Ga7 Gb7 k7 ⊢;obtain bs|gb|qb|_:=id Gb7;have lb:=qb.9;exists #[x,Z.Xg,dx,_,_,rfl,_V,T.Xm,T.XQ,(by rw[bL,if_pos rfl]),?_];exists #[_,_,rfl,.inl (bN.of gb),?_];exists #[x,Z.Xg,dx,_,rfl,_V,T.Xm,T.ZC,bw eK (bw (dq (ag eK (dq eK))) (by change 3 < 1000;decide)),?_];rw[show ((bs.9:Nat):Int)=((pt.9:Nat):Int) by rw[lb]];have i7:ue H7 x:=#[_,_,_,_V];have e7:Ex x H7 (upd H7 x (.ins Z.Xg dx (cy "ins" (.int pt.9) (cy "put" (.ref b) (cy "states" (.int mv.9) (cy "move" (.ref a) [])))))):=Ex.upd;have hx8:(upd H7 x (.ins Z.Xg dx (cy "ins" (.int pt.9) (cy "put" (.ref b) (cy "states" (.int mv.9) (cy "move" (.ref a) [])))))) x=some (.ins Z.Xg dx (cy "ins" (.int pt.9) (cy "put" (.ref b) (cy "states" (.int mv.9) (cy "move" (.ref a) []))))):=aK;have Ga8:=Ga7.exc e7 i7;have Gb8:=Gb7.exc e7 i7;have k8:aE Hb (upd H7 x (.ins Z.Xg dx (cy "ins" (.int pt.9) (cy "put" (.ref b) (cy "states" (.int mv.9) (cy "move" (.ref a) [])))))):=k7.46 nx;generalize upd H7 x (.ins Z.Xg dx (cy "ins" (.int pt.9) (cy "put" (.ref b) (cy "states" (.int mv.9) (cy "move" (.ref a) [])))))=H8 at e7 hx8 Ga8 Gb8 k8 ⊢;clear e6 e7 i6 i7 _V Ga7 Gb7 gb qb;exists #[r,zs,2,4,rfl,k8 _ _ gz,(),?_];exists #[x,Z.Xg,dx,_,_,rfl,hx8,T.Xm,T.Xu,(by rw[bL,if_neg (by decide +kernel),bL,if_neg (by decide +kernel),bL,if_pos rfl]),?_];exists #[r,H2,lk,mv.9,rfl,gr.10 k8,(),(),λws hw=>#[D.lw ws hw,ol ws hw],λc H9 nc s9 Gc=>?_];have hx9:=s9 _ _ hx8;have i9:ue H9 x:=#[_,_,_,hx9];exists #[x,Z.Xg,dx,_,rfl,hx9,T.Xm,T.XI,bw eK (bw (dq (ag eK (dq (ag eK (dq eK))))) (by change 4 < 1000;decide)),?_];have e9:Ex x H9 (upd H9 x (.ins Z.Xg dx (cy "look" (.ref c) (cy "ins" (.int pt.9) (cy "put" (.ref b) (cy "states" (.int mv.9) (cy "move" (.ref a) []))))))):=Ex.upd;have hxA:(upd H9 x (.ins Z.Xg dx (cy "look" (.ref c) (cy "ins" (.int pt.9) (cy "put" (.ref b) (cy "states" (.int mv.9) (cy "move" (.ref a) []))))))) x=some (.ins Z.Xg dx (cy "look" (.ref c) (cy "ins" (.int pt.9) (cy "put" (.ref b) (cy "states" (.int mv.9) (cy "move" (.ref a) [])))))):=aK;have GaA:=(Ga8.10 s9).exc e9 i9;have GbA:=(Gb8.10 s9).exc e9 i9;have GcA:=(Gc.44 k8).exc e9 i9;have kA:aE Hb (upd H9 x (.ins Z.Xg dx (cy "look" (.ref c) (cy "ins" (.int pt.9) (cy "put" (.ref b) (cy "states" (.int mv.9) (cy "move" (.ref a) []))))))):=(k8.4 s9).46 nx;generalize upd H9 x (.ins Z.Xg dx (cy "look" (.ref c) (cy "ins" (.int pt.9) (cy "put" (.ref b) (cy "states" (.int mv.9) (cy "move" (.ref a) []))))))=HA at e9 hxA GaA GbA GcA kA ⊢;obtain cs|gc|qc|_:=id GcA;have lc:=qc.9;exists #[x,Z.Xg,dx,_,_,rfl,hxA,T.Xm,T.XI,(by rw[bL,if_pos rfl]),?_];exists #[_,_,rfl,.inl (bN.of gc),?_];exists #[x,Z.Xg,dx,_,rfl,hxA,T.Xm,T.Zc,bw eK (bw (dq (ag eK (dq (ag eK (dq (ag eK (dq eK))))))) (by change 5 < 1000;decide)),?_];rw[show ((cs.9:Nat):Int)=((lk.9:Nat):Int) by rw[lc]];have iA:ue HA x:=#[_,_,_,hxA];show k _ (kA.46 nx) #[dx,a,b,c,aK,back na,k5.17 nb,k8.17 nc,(GaA.exc Ex.upd iA).44 s0,GbA.exc Ex.upd iA,GcA.exc Ex.upd iA]
theorem zx:sC ["_law_grid"] 1 oS:=by walk_at "d"
theorem kb (T:Txt K mg Z) (ac:bd P):T.fv.o P w base 1 (zm K):=by
 refine T.fv.F.k zx ?_;walk_at "i";obtain p|H0|rows|rfl|hp|hl|hm|k:=h;refine #[_,(aA (aQ (bS ["_law_row_here"] [] [] (cg bQ) (λ_=>(eG 0)) (λ_=>bZ) (λ_=>(eZ (ia K (by rfl)) (by rfl) T.30 VF (c6 bQ)))))),?_];left
 obtain xs|gx|qx|_:=id hp;exists #[#[_,bN.of gx],?_];refine cW (K:=K) (F:=cu K H0) (cu K H) id gx qx hl (λa b=>a.10 b) (λa b=>a.10 b) ?_ ?_
 ·rintro i ns x H' NY NN en s ⟨u,rfl,_,zs,gz,qz⟩ k1;exists #[u,zs,rfl,.inl (bN.of gz),λl1 Ys=>?_];show k1 _ _ (aE.new Ys) #[l1,rfl,s.17 Ys,zs,aK,bv (λ_ _ z=>z.10 (aE.new Ys)) qz]
 ·rintro Yc H' r hr s g pr nx;rw[jw] at pr nx;show k r H' hr s #[Yc,g,pr,dZ nx]
theorem CV:sC ["_law_parts_here"] 1 sF:=by walk_at "d"
theorem Dp (T:Txt K mg Z) (ac:bd P):T.ng.o P w base 7 (y8 K Z.Xg):=by
 refine T.ng.F.k CV ?_;walk_at "i";obtain r|H0|mv|pt|lk|rfl|PQ|D|F|k:=h;refine #[_,(aA (aQ (yK T.XC (gO T ac) (hr.22 ()) rfl T.XD T.fL .nil zJ (zM (cH (kb T ac) hr T.fv (c6 (aZ bW bQ aw))) (cH (kb T ac) hr T.fv (c6 (aZ bW bQ aw))) (cH (kb T ac) hr T.fv (c6 (aZ bW bQ aw))))))),?_];left
 obtain m|p|l|g|n1|n2|n3|Gm|Gp|Gl:=id PQ;have d1:=D.n8;have d2:=D.i4;have d3:=D.o4;exists #[m,H0,mv,rfl,Gm,(),λxs hx=>by rw[D.mw xs hx];lia,λa H1 na s1 Ga=>?_];have g1:=s1 _ _ g;exists #[p,H0,pt,rfl,Gp.10 s1,(),λxs hx=>by rw[D.pw xs hx];lia,λb H2 nb s2 Gb=>?_];have s12:=s1.4 s2;have g2:=s12 _ _ g;exists #[l,H0,lk,rfl,Gl.same s12,(),λxs hx=>by rw[D.lw xs hx];lia,λc H3 nc s3 Gc=>?_];have _J:=s12.4 s3;walk_at "w";intro x dx nx ndx nex;show #[x,dx,a,b,c,H3,H,H1,H2,mv,pt,lk,rfl,nx,ndx,nex,rfl,(Ga.10 s2).10 s3,Gb.10 s3,Gc,D,F.ok.1,F.ok.2.1,F.ok.2.2,λH' s' S'=>#[rfl,k x H' (_J.17 nx) (_J.4 s') (S'.44 _J)]]
theorem uZ:sC ["row","bottom"] 2 rV:=by walk_at "d"
theorem qA (T:Txt K mg Z) (ac:bd P):T.iU.o P w base 1 (EO K):=by
 refine T.iU.F.k uZ ?_;walk_at "i";obtain p|ns|M|B|rfl|hp|hl|hz|hB|sB|q:=h;refine #[_,(aA (aQ (bS ["value"] ["bottom"] [1] (cg bQ) (λ_=>(eG 0)) (λ_=>bZ) (λ_=>(bF c4 (aZ (vH K (by rfl)) bQ aw) (bF (j8 rfl uZ rfl rfl rfl ac (vP hr)) cJ (aZ (vH K (by rfl)) bQ aw))))))),?_];left
 obtain xs|gx|qx:=id hp;have lx:=qx.9;exists #[#[_,bN.of gx],?_];refine dn (K:=K) (xs:=xs) (λi ys H'=>H'=H/\ys=(fY (ns.21 i) B).11 V.int) gU #[rfl,rfl] (λi ys H' _ #[e,_]=>by subst e;show bN.of gx) ?_ ?_
 ·rintro i x ys H' hx Xv ⟨rfl,rfl⟩;obtain n|en|r|rfl|_Y:=cN qx hx;have nz:=hz.2.2 n (ar en);have sn:Sz 4400000 n.2:=DI hz.1 nz.2.1 hz.2.1;exists gI (show rC _ _ from #[(),sn.22 ()]) ?_;rw[cL _ ()]
  have sq:Sz 4400000 (B / n.2):=sB.le (by
   rw[Te ()];show Nat.div_le_self ..)
  exists gI (show gM _ _ from .inr #[_,_,nz.2.2,sq,()]) ?_;show #[rfl,by rw[take_snoc en];simp [fY]]
 ·rintro ys H' hy ⟨rfl,rfl⟩ l YQ;show q l _ YQ (aE.new YQ) (by rw[aK,aH ()])
theorem fk:sC ["wholes","multiple","whole"] 1 j7:=by walk_at "d"
theorem uL (T:Txt K mg Z) (ac:bd P):T.gP.o P w base 2 (Mo K):=by
 refine T.gP.F.k fk ?_;walk_at "i";obtain p|bs|M|rfl|hp|hM|sM|hb|q:=h
 refine #[_,(av (eJ 1 fk.nd aw)
  (av (fo VA rfl (cg bQ) (eG 2 fk.nd)
   (aA (eJ 1 fk.nd (bF c4 cJ (bF (j8 rfl fk rfl rfl rfl ac (vP hr)) eI (cH (ka T ac) hr T.d9 (cK cJ eI)))))))
  (aA (aQ cJ)))),?_]
 left
 exists #[#[_,hp],?_];refine mB (K:=K) (a:=p) (xs:=bs.11 V.int) (λi σ' H'=>H'=H/\∃x,σ'=[some (.ref p),some (.int (xE (bs.21 i) 1)),x]) #[rfl,none,rfl] (λi σ' H' _ #[e,_]=>by subst e;show hp) ?_ ?_
 ·rintro i x σ' H' hx ⟨rfl,y,rfl⟩;rw[az] at hx
  obtain ⟨b,eb,rfl⟩:∃b,bs[i]?=some b/\x=.int b:=by
   cases e:bs[i]? with
   | none=>rw[e] at hx;cases hx
   | some b=>rw[e] at hx;cases hx;show #[b,rfl,rfl]
  have b1:=hb b (ar eb);have sb:Sz 4400000 b:=DI hM b1.2 sM;have ht:∀c∈bs.21 i,0 < c/\c∣M:=λc hc=>hb c (b6 hc)
  have msz:Sz 4400000 (xE (bs.21 i) 1):=DI hM (yN () (Int.one_dvd _) ht) sM;generalize hm:xE (bs.21 i) 1=m at msz ⊢;have gp:0 < g m b:=Ad ();exists #[m,b,rfl,?_];exists gI (show rC _ _ from #[(),(U7 b1.1 sb).22 ()]) ?_;rw[cL _ ()];exists gI (show gM _ _ from .inr #[_,_,msz,sb.hi (t:=m) (),()]) ?_;exists #[rfl,_,by rw[take_snoc eb,BV,hm];rfl]
 ·rintro σ' H' ⟨rfl,y,rfl⟩;walk_at "w";rw[aH (by simp)];show q
theorem wV:sC ["row"] 1 mJ:=by walk_at "d"
theorem kM (T:Txt K mg Z) (ac:bd P):T.fb.o P w base 3 (Mp K):=by
 refine T.fb.F.k wV ?_;walk_at "i";obtain p|ns|M|rfl|hp|hl|hz|q:=h;refine #[_,(aA (aQ (cH (uL T ac) hr T.gP (c6 (bS ["value"] [] [] (cg bQ) (λ_=>(eG 0)) (λ_=>bZ) (λ_=>(aZ (vH K (by rfl)) bQ aw))))))),?_];left
 obtain xs|gx|qx:=id hp;have lx:=qx.9;exists #[#[_,bN.of gx],?_];refine dn (K:=K) (xs:=xs) (λi ys H'=>H'=H/\ys=((ns.21 i).11 (·.2)).11 V.int) gU #[rfl,rfl] (λi ys H' _ #[e,_]=>by subst e;show bN.of gx) ?_ ?_
 ·rintro i x ys H' hx Xv ⟨rfl,rfl⟩;obtain n|en|r|rfl|_Y:=cN qx hx;exists #[rfl,by rw[take_snoc en];simp]
 ·rintro ys H' hy ⟨rfl,rfl⟩ l YQ;exists #[l,ns.11 (·.2),M,rfl,bN.of (by rw[aK,aH ()]),hz.1,hz.2.1,λb hb=>?_,?_]
  ·obtain n|hn|rfl:=au.mp hb;show #[(hz.2.2 n hn).1,(hz.2.2 n hn).2.1]
  ·show q _ (aE.new YQ)
theorem tS:sC ["lines","begin","place","at"] 3 p5:=by walk_at "d"
theorem AY (T:Txt K mg Z) (ac:bd P):T.lD.o P w base 1 BK:=by
 refine T.lD.F.k tS ?_;walk_at "i";obtain l|p|ls|b|c|rfl|G|_r|ahM|hc|k1|k2:=h
 refine #[_,(av (fo VA rfl (K3 rfl T.34 (cK cJ (bx aR (by rfl) T.38 aM (c6 bQ)))) (eG 3 tS.nd)
   (aA (c5 (bf pA (aZ bV (aZ bV bQ ky) eI) aw (bE _)) (aA (aQ ky)) bX)))
  (aA (aQ C7))),?_]
 left
 obtain _|xs|gx|qx:=id G;have lx:=qx.9;exists #[_,_,rfl,.inl (bN.of gx),?_];rw[<- lx];exists #[#[(),(),(),()],?_];refine BZ (lo:=(b:Int)) (n:=((ls.9:Int) - (b:Int)).28) (λi σ' H'=>H'=H/\(∃y,σ'=[some (.ref p),some (.int b),some (.int c),y])/\∀s,b<=s->s < b+i->d6 ls s c=0) #[rfl,#[_,rfl],λs h1 h2=>absurd h2 ()] ?_ ?_
 ·rintro i σ' H' hi ⟨rfl,⟨y,rfl⟩,hz⟩;rw[show ((b:Int)+(i:Int))=((b+i:Nat):Int) by lia];obtain zs|v|ez|ev|mz|q|rfl|_|gq:=fU qx (i:=b+i) ();exists cz (bN.of gx) (ee ev) ?_;exists cz (bN.of gq) (EE (hc zs mz)) ?_;walk_at "w";have ef:=QZ (c:=c) ez;by_cases e:zs.3 c 0=0
  ·rw[decide_eq_true e];exists #[rfl,#[_,rfl],λs h1 h2=>?_];by_cases e2:s=b+i
   ·rw[e2,ef,e];rfl
   ·show hz s h1 ()
  ·rw[decide_eq_false e];exists k1 (b+i) () () (by rw[ef];show UT.mpr e)
 ·rintro σ' H' ⟨rfl,⟨y,rfl⟩,hz⟩;exists k2 λt h1 h2=>hz t h1 ()
theorem nM:sC ["lines","at","place","before","used","by","swept"] 4 xk:=by walk_at "d"
theorem HZ (T:Txt K mg Z) (ac:bd P):T.qL.o P w base 1 BL:=by
 refine T.qL.F.k nM ?_;walk_at "i";obtain l|p|ls|kk|c|n|b|rfl|hl|G|_r|hk|hw|agJ|hc|b0|sb|hs|k:=h
 refine #[_,(av (eJ 4 nM.nd (aZ bV bQ cJ))
  (av (eJ 5 nM.nd (aZ bV rG eI))
  (av (iQ 6 ["line"] ["used","by","place","before"] [4,5,2,3] nM.nd rfl rfl (cg bQ) (λ_=>(eG 0)) (λ_=>bZ) (λ_=>(bS ["mine","yours"] ["by","line","place","before"] [2,0,3,4] (MK K rfl T.zip (cK bQ cJ)) (λ_=>(vo K 2 (cZ (eG 0) (cZ (eG 1) kZ)))) (λ_=>bZ) (λ_=>(bF (j8 rfl nM rfl rfl rfl ac (vP hr)) (bF jf (bF c4 eI bQ) (bF c4 (aZ (gG K (by rfl)) ky rG) cJ)) tU)))))
  (av (fR rG (ib rg cJ set_list))
  (aA (aQ rg)))))),?_]
 left
 obtain pl|xs|gx|qx:=id G;have lx:=qx.9;obtain zk|vk|ek|evk|mk|qk|rfl|qkl|gk:=fU qx hk;have wk:=hw zk mk;have ek':ls.3 kk []=zk:=by rw[aa,ek];rfl
 exists cz (bN.of gx) (ee evk) ?_;exists cz (bN.of gk) (EE ()) ?_;exists #[#[_,bN.of gx],?_];refine dn (K:=K) (xs:=xs) (λi ys H'=>aE H H'/\Vs (Kw l H') ((ls.21 i).11 λzs=>VH (λx y=>(zk.3 c 0*x - zs.3 c 0*y).fdiv b) zs zk) ys) gU #[aE.refl _,.nil] (λi ys H' _ #[s,_]=>bN.of (s _ _ gx)) ?_ ?_
 ·rintro i v ys0 H' hx Xv ⟨s',pr⟩;obtain zs|ec|q|rfl|ql|gq:=cN qx hx;have mz:=ar ec;have wz:=hw zs mz;have YL:=s' _ _ gq;have gk':=s' _ _ gk;exists #[#[_,bN.of YL],#[_,bN.of gk'],?_];refine Ap (K:=K) (xs:=zs.11 V.int) (ws:=zk.11 V.int) (λj ys H2=>aE H' H2/\ys=((VH (λx y=>(zk.3 c 0*x - zs.3 c 0*y).fdiv b) zs zk).21 j).11 V.int) (cP (cV (by rw[af];lia))) (by rw[af,af];lia) #[aE.refl _,rfl] (λj ys H2 _ #[s2,_]=>#[bN.of (s2 _ _ YL),bN.of (s2 _ _ gk')]) ?_ ?_
  ·rintro j v1 v2 ys H2 r h1 h2 hy ⟨s2,rfl⟩ hr
   obtain ⟨x,ex,rfl⟩:∃x,zs[j]?=some x/\V.int x=v1:=by
    rw[az] at h1;cases e:zs[j]? with
    | none=>rw[e] at h1;cases h1
    | some x=>rw[e] at h1;show #[x,rfl,cv h1]
   obtain ⟨y,ey,rfl⟩:∃y,zk[j]?=some y/\V.int y=v2:=by
    rw[az] at h2;cases e:zk[j]? with
    | none=>rw[e] at h2;cases h2
    | some x=>rw[e] at h2;show #[x,rfl,cv h2]
   have sr:aE H2 (upd H2 r (.tup [.int x,.int y])):=aE.new hr;have gr:(upd H2 r (.tup [.int x,.int y])) r=some (.tup [.int x,.int y]):=aK;generalize upd H2 r (.tup [.int x,.int y])=H3 at sr gr ⊢;have gq3:=sr _ _ (s2 _ _ YL);have sx:=hs zs mz x (ar ex);have sy:=hs zk mk y (ar ey);have s1:=hs zk mk _ (getD_in (e:=0) (show c < zk.9 by lia));have s3:=hs zs mz _ (getD_in (e:=0) (show c < zs.9 by lia));exists gI (show gM _ _ from .inr #[_,_,s1,sx,()]) ?_;exists cz (bN.of gq3) (EE ()) ?_;exists gI (show gM _ _ from .inr #[_,_,s3,sy,()]) ?_;exists gI (show rC _ _ from #[b0,sb]) ?_;have ez:(VH (λx y=>(zk.3 c 0*x - zs.3 c 0*y).fdiv b) zs zk)[j]?=some ((zk.3 c 0*x - zs.3 c 0*y).fdiv b):=by rw[eX,ex,ey]
   show #[s2.4 sr,by rw[take_snoc ez];simp]
  ·rintro ys H2 hy ⟨s2,rfl⟩ r hr;have sn:aE H2 (upd H2 r (.lst (((VH (λx y=>(zk.3 c 0*x - zs.3 c 0*y).fdiv b) zs zk).21 (zs.11 V.int).9).11 V.int))):=aE.new hr;refine #[(s'.4 s2).4 sn,?_];rw[take_snoc ec,bH];refine bD (bv (λ_ _ z=>(Kw.same z s2).10 sn) pr) (.cons #[r,rfl,ne_old (λz=>hl (s'.17 (s2.17 z))) hr,?_] .nil);rw[aK,aH (by rw[dw,af];lia)]
 ·rintro ys H1 hy ⟨s1,pr⟩ r hr;have sn:aE H1 (upd H1 r (.lst ys)):=aE.new hr;have gn:(upd H1 r (.lst ys)) r=some (.lst ys):=aK;have ly:=pr.9;rw[af,bU] at ly;generalize upd H1 r (.lst ys)=H2 at sn gn ⊢;exists fz gn (fK ()) rfl ?_;have s2:aE H1 (upd H2 r (.lst (ys.42 kk (.ref qk)))):=sn.46 hr;exists k r _ (s1.17 hr) (s1.4 s2) #[ne_old (λz=>hl (s1.17 z)) hr,_,aK,?_];unfold F3;rw[ek'];rw[aH ()] at pr;show kJ (bv (λ_ _ z=>Kw.same z s2) pr) kk #[qk,rfl,qkl,(s1.4 s2) _ _ gk]
theorem tT:sC ["lines","at","to","swapped"] 3 p6:=by walk_at "d"
theorem AZ (T:Txt K mg Z) (ac:bd P):T.lE.o P w base 1 xY:=by
 refine T.lE.F.k tT ?_;walk_at "i";obtain l|p|ls|t|kk|rfl|hl|G|_r|ht|hk|k:=h
 refine #[_,(av (eJ 3 tT.nd (eZ vS (by rfl) T.30 VF (c6 bQ)))
  (av (fR (aZ bV bQ cJ) (ib ky eI set_list))
  (av (fR (aZ bV bQ eI) (ib ky cJ set_list))
  (aA (aQ ky))))),?_]
 left
 obtain pl|xs|gx|qx:=id G;have lx:=qx.9;obtain zt|vt|et|M!|_|Ft:=fU qx ht;obtain zk|vk|ek|evk|_|Fk:=fU qx hk;exists #[p,xs,rfl,.inl (bN.of gx),λc hc=>?_];have sc:aE H (upd H c (.lst xs)):=aE.new hc;have gc:(upd H c (.lst xs)) c=some (.lst xs):=aK;generalize upd H c (.lst xs)=Hc at sc gc ⊢;exists cz (bN.of (sc _ _ gx)) (ee M!) ?_;exists fz gc (fK ()) rfl ?_;have s1:aE H (upd Hc c (.lst (xs.42 kk vt))):=sc.46 hc;have g1:(upd Hc c (.lst (xs.42 kk vt))) c=some (.lst (xs.42 kk vt)):=aK;generalize upd Hc c (.lst (xs.42 kk vt))=H1 at s1 g1 ⊢;exists cz (bN.of (s1 _ _ gx)) (ee evk) ?_;exists fz g1 (fK (by rw[eQ];lia)) rfl ?_;have s2:aE H (upd H1 c (.lst ((xs.42 kk vt).42 t vk))):=s1.46 hc;exists k c _ hc s2 #[ne_old hl hc,_,aK,?_];have et':ls.3 t []=zt:=by rw[aa,et];rfl
 have ek':ls.3 kk []=zk:=by rw[aa,ek];rfl
 unfold pO;rw[et',ek'];show kJ (kJ (bv (λ_ _ z=>Kw.same z s2) qx) kk (Kw.same Ft s2)) t (Kw.same Fk s2)
theorem j5:sC ["rows","wide","lines","leads","before","place","many","at"] 2 CY:=by walk_at "d"
theorem Fj (T:Txt K mg Z) (ac:bd P):T.sX.o P w base 4 (BB K):=by
 refine T.sX.F.k j5 ?_;walk_at "i";obtain p|n|w|H0|rows|rfl|G|XY|XZ|hw|F|k:=h
 refine #[_,(av (iQ 2 ["row"] [] [] j5.nd rfl rfl (cg bQ) (λ_=>(eG 0)) (λ_=>bZ) (λ_=>(cH (qA T ac) hr T.iU (cK bQ (cH (kM T ac) hr T.fb (c6 bQ))))))
  (av (eJ 3 j5.nd (fq iE))
  (av (eJ 4 j5.nd aw)
  (av (fo VA rfl (b8 rfl T.34 (c6 cJ)) (eG 5 j5.nd)
   (av (eJ 6 j5.nd (bx aR (by rfl) T.38 aM (c6 ky)))
  (av (eJ 7 j5.nd (cH (AY T ac) hr T.lD (zM eI rg tU)))
  (aA (c5 (bf Pj Ez C7 (bE _)) (av (eJ 2 j5.nd (cH (HZ T ac) hr T.qL (LQ (cH (AZ T ac) hr T.lE (zM eI Ez rg)) rg tU rG)))
  (av (eJ 4 j5.nd (aZ bV (aZ bV eI rg) tU))
  (aA (jy (vp cX dG dF kO ky (c6 tU)))))) bX)))))
  (aA (aQ (cY (cK (sQ CI eI vm (vh (bx aR (by rfl) T.38 aM (c6 ky)))) ky)))))))),?_]
 left
 obtain xs|gx|qx|_:=id G;obtain W|hW|W2|ent:=F.ent;obtain _|_|_|_|_|_|_|_|_K|r89:=id F;exists #[#[_,bN.of gx],?_];refine cW (K:=K) (as:=rows) (F:=cu K H0) (λ(H:Hp) (zs:List Int) (v:V)=>∃q,v=V.ref q/\H q=some (.lst (zs.11 V.int))) iu gx qx () (λa b=>a.10 b) (λ#[q,a,b] s=>#[q,a,s _ _ b]) ?_ ?_
 ·rintro i qs v H' NY NN ec s' ⟨u,rfl,_,R⟩ k1;have mx:=ar ec;obtain M|hM:=F.Z5 mx;obtain b1|sb:=hM.bot;have lq:(qs.11 nm).9<=1000:=by rw[af,hw qs mx];lia
  exists #[u,_,M,rfl,R.Zi,lq,hM,λH2 s2=>?_];exists #[u,_,M,_,rfl,(R.10 s2).Zi,lq,hM,b1,sb,λr H3 n3 s3 g3=>k1 _ _ (s2.4 s3) #[r,rfl,g3]]
 rintro ys H1 lp0 hlp s1 g1 YJ Zb;exists dJ λqp H2 s2 nq gq=>?_
 have G2:tm qp H2 lp0 (rows.11 iu):=#[(λz=>by rw[z,nq] at g1;cases g1),ys,s2 _ _ g1,bv (λ_ _ #[q,a,b]=>#[q,a,(λz=>by rw[z,nq] at b;cases b),s2 _ _ b]) YJ];have hq0:H qp=none:=s1.17 nq;have Yv:=s1.4 s2;have hm:(rows.11 iu).9=rows.9:=af ..;clear g1 YJ Zb;exists #[(),(),?_];refine fw (n:=n) (λP σ' H'=>aE H H'/\∃lp ls ps d y1 y2 y3,σ'=[some (.ref p),some (.int n),some (.ref lp),some (.ref qp),some (.int d),y1,y2,y3]/\H' qp=some (.lst (ck ps))/\tm qp H' lp ls/\Cp (rows.11 iu) n P ls ps d) #[Yv,lp0,rows.11 iu,[],1,_,_,_,rfl,gq,G2,Cp.start λzs hz=>by obtain x|hx|rfl:=au.mp hz;rw[o5];show hw x hx] ?_ ?_
 ·rintro P σ' H' hP ⟨s',lp,ls,ps,d,y1,y2,y3,rfl,YL,G',I⟩;have hl:=I.38;have kP:=I.el.kP;have km:=I.el.km;have C!:(ck ps).9=ps.9:=af ..;have hqp:H' qp≠none:=by rw[YL];show λz=>nomatch z
  obtain z1|z2:=I.sz (r:=min rows.9 n) hW ent () (by rw[hm];show aj _) _K;have big:(16*W)^min rows.9 n < 2^8999000:=bw (xr W2) (fF () ());exists #[_,_,rfl,.inl (bN.of YL),?_];rw[C!];exists #[qp,lp,ls,ps.9,P,rfl,G',(),(),λzs hz=>by rw[I.wide zs hz];show hP,λt h1 h2 h3=>?_,λhz=>?_]
  ·exists #[rfl,_,rfl,?_];rw[show decide (V.int (t:Int)=V.Xy)=false from decide_eq_false (λz=>nomatch z)];exists #[qp,lp,ls,t,ps.9,rfl,hqp,G',(),h2,(),λl1 Ha na sa Ga=>?_];exists #[qp,l1,_,ps.9,P,n,d,rfl,λz=>hqp (sa.17 z),Ga,by rw[wF];lia,by rw[wF];lia,Jm I.wide () h2,(),hP,I.d0,bw z1 big,λzs hz z YA=>?_,λl2 Hb nb sb Gb=>?_]
   ·unfold pO at hz;have key:∀ys,ys∈ls->∀z∈ys,Sz 8999000 z:=λys hy z hz=>bw (z2 ys hy z hz) big
    rcases cE hz with h | h
    ·rcases cE h with h | h
     ·show key zs h z YA
     ·rw[h] at YA;show key _ (getD_in h2) z YA
    ·rw[h] at YA;show key _ (getD_in ()) z YA
   have Zx:=sa.4 sb;have I2:=I.step hW ent h1 h2 h3;have H!:ps.9 < (F3 (pO ls ps.9 t) ps.9 P d).9:=by rw[NT,wF];lia
   obtain n2|xs2|gx2|qx2:=id Gb;obtain zk|vk|ek|evk|mk|qk|rfl|_|gk:=fU qx2 H!;have wk:=I2.wide zk mk;exists cz (bN.of gx2) (ee evk) ?_;exists cz (bN.of gk) (EE ()) ?_;have gqb:=Zx _ _ YL;exists #[.inl #[rfl,_,bN.of gqb],?_];exists jQ gqb (cV ()) ?_;refine #[(s'.4 Zx).46 hq0,l2,_,ps++[P],_,_,_,_,rfl,?_,Gb.upd,?_]
   ·rw[aK];unfold ck;rw[bH];rfl
   ·have e:(F3 (pO ls ps.9 t) ps.9 P d).3 ps.9 []=zk:=by rw[aa,ek];rfl
    rw[e] at I2;show I2
  ·exists #[rfl,_,rfl,?_];rw[show decide (V.Xy=V.Xy)=true from decide_eq_true rfl];exists #[s',lp,ls,ps,d,_,_,_,rfl,YL,G',I.skip hz]
 rintro σ' H' ⟨s',lp,ls,ps,d,y1,y2,y3,rfl,YL,G',I⟩;obtain R|hR:=I.done hw F;have C!:(ck ps).9=ps.9:=af ..;obtain nl|xs'|gx'|qx':=id G';exists #[_,_,rfl,.inl (bN.of YL),?_];rw[C!];exists C3 (bN.of gx') λsl H3 s3 n3 g3=>?_
 rw[NQ] at g3;exists cb λt H4 s4 g4=>?_
 have s34:=s3.4 s4;show k t sl qp R ps d _ H4 g4 (s34 _ _ YL) #[(λz=>by rw[z,YL] at n3;cases n3),_,s4 _ _ g3,bv (λ_ _ z=>Kw.same z s34) (md qx' ps.9)] (s'.4 s34) hR
theorem o9:sC ["top","bottom","divisor"] 2 zy:=by walk_at "d"
theorem xy (T:Txt K mg Z) (ac:bd P):T.nH.o P w base 2 KJ:=by
 refine T.nH.F.k o9 ?_;walk_at "i";obtain t|b|rfl|hb|hs|k:=h
 refine #[_,(av (eJ 2 o9.nd (cH (ka T ac) hr T.d9 (cK bQ cJ)))
  (av (c5 (bf tW cJ aw (bE _)) (aA (eJ 2 o9.nd (zI uj eI))) bX)
  (aA (aQ (cY (cK (bF (j8 rfl o9 rfl rfl rfl ac (vP hr)) bQ eI) (bF (j8 rfl o9 rfl rfl rfl ac (vP hr)) cJ eI))))))),?_]
 left
 exists #[t,b,rfl,?_];have hg:=Ad (t:=t) hb
 have d!:Sz 8999000 (g t b):=hs.le (by
  have h1:(g t b).15=VY t b:=by unfold g;simp
  rw[h1];show jY () (by have:=fM (a:=t) (b:=b);show eY.mpr this |> λz=>by simpa using z))
 have hgn:g (-t) (-b)=g t b:=by unfold g;rw[Int.gcd_neg,Int.neg_gcd]
 exists jL (λh=>?_) (λh=>?_)
 ·have J!:b < 0:=of_decide_eq_true h;exists gI (show rC _ _ from #[(),d!.neg]) ?_;exists gI (show rC _ _ from #[(),d!.neg]) ?_;exists cb λr H' s' h'=>?_
  have e1:t.fdiv (-g t b)=lo (-t) (-b):=by
   unfold Nm.lo;rw[hgn,<- cL _ (),<- Int.neg_fdiv_neg (-t),Int.neg_neg]
  have e2:b.fdiv (-g t b)=hi (-t) (-b):=by
   unfold Nm.hi;rw[hgn,<- cL _ (),<- Int.neg_fdiv_neg (-b),Int.neg_neg]
  show k r H' s' (by rw[if_pos J!,if_pos J!,<- e1,<- e2];show h')
 ·have J!:¬b < 0:=λz=>h (decide_eq_true z)
  exists gI (show rC _ _ from #[(),d!]) ?_;exists gI (show rC _ _ from #[(),d!]) ?_;exists cb λr H' s' h'=>?_
  rw[cL _ (),cL _ ()] at h';show k r H' s' (by rw[if_neg J!,if_neg J!];show h')
theorem zu:sC ["rows","wide","found"] 2 w5:=by walk_at "d"
theorem qB (T:Txt K mg Z) (ac:bd P):T.jH.o P w base 5 (xW K):=by
 refine T.jH.F.k zu ?_;walk_at "i";obtain p|n|w|H0|rows|rfl|G|XY|XZ|hw|F|k:=h
 refine #[_,(av (eJ 2 zu.nd (cH (Fj T ac) hr T.sX (cK bQ cJ)))
  (aA (aQ (bS ["line","lead"] [] [] (yJ rfl T.zip (cK (aZ bW eI aw) (aZ bW eI aw))) (λ_=>(vo K 2 (cZ (eG 0) (cZ (eG 1) kZ)))) (λ_=>bZ) (λ_=>(bS ["top"] ["line","lead"] [0,1] (vn K bQ) (λ_=>(eG 0)) (λ_=>bZ) (λ_=>(cH (xy T ac) hr T.nH (cK bQ (aZ (gG K (by rfl)) cJ eI)))))))))),?_]
 left
 obtain _|_|_|_|_|_|_|_|_K|r89:=id F;exists #[p,n,w,H0,rows,rfl,G,XY,XZ,hw,F,λt lp qp R ps d ls H1 gt gq G1 s1 S=>?_];obtain lR|wR|RR:=id S.rr;have hl:=S.38;obtain _|xs|gx|qx:=id G1;have lx:=qx.9;have C!:(ck ps).9=ps.9:=af ..;have d0:(d:Rat)≠0:=λz=>S.d0 (tj z)
 have dsz:Sz 8999000 d:=bw S.dsz (fF () ())
 have km:ps.9<=n:=by
  rcases aY n ps.9 with z | z
  ·have inc:∀j,j < ps.9->j<=ps.3 j 0:=by
    intro j
    induction j with
    | zero=>intro _;show be _
    | succ j ih =>
     intro hj;have:=ih ();have:=RR.inc j (j+1) () hj
     lia
   have h1:=inc (ps.9 - 1) ();have h2:=RR.52 (ps.9 - 1) ()
   lia
  ·show z
 exists #[#[_,bN.of gx],#[_,bN.of gq],?_];refine Ap (K:=K) (xs:=xs) (ws:=ck ps) (λi ys H'=>aE H1 H'/\Vs (cu K H1 H') (R.21 i) ys) gU () #[aE.refl _,.nil] (λi ys H' _ #[s,_]=>#[bN.of (s _ _ gx),bN.of (s _ _ gq)]) ?_ ?_
 ·rintro i v1 v2 ys H' r h1 h2 hy ⟨s,pr⟩ hr;obtain zs|ez|q|rfl|_|gq1:=cN qx h1;have hi:i < ls.9:=(aB.mp ez).1;have mz:=ar ez;have wz:=S.wide zs mz
  obtain ⟨j,ej,rfl⟩:∃j:Nat,ps[i]?=some j/\V.int (j:Int)=v2:=by
   unfold ck at h2;rw[az] at h2;cases e:ps[i]? with
   | none=>rw[e] at h2;cases h2
   | some x=>rw[e] at h2;show #[x,rfl,cv h2]
  have ej':ps.3 i 0=j:=by rw[aa,ej];rfl
  have jn:j < n:=by have:=RR.52 i ();rw[ej'] at this;show this
  have sr:aE H' (upd H' r (.tup [.ref q,.int j])):=aE.new hr;have gr:(upd H' r (.tup [.ref q,.int j])) r=some (.tup [.ref q,.int j]):=aK;generalize upd H' r (.tup [.ref q,.int j])=H2 at sr gr ⊢;have s2:=s.4 sr;have iR:i < R.9:=()
  have eR:=ae iR;have wRi:=wR _ (aG iR)
  have ed:zs.3 j 0=d:=by
   have h:=S.val i j;rw[QZ ez] at h;have u:=RR.32 i () i ();rw[if_pos rfl,ej'] at u;rw[u,fE] at h;show dM.mp h
  have val:∀c,((zs.3 c 0:Int):Rat)=(d:Rat)*(R[i]).3 c 0:=λc=>by
   have h:=S.val i c;rw[QZ ez] at h;rw[h];unfold a7;rw[aa (l:=R),eR];rfl
  exists #[#[_,bN.of (s2 _ _ gq1)],?_];refine dn (K:=K) (xs:=zs.11 V.int) (λc Yc H3=>aE H2 H3/\Vs (cm K H3) ((R[i]).21 c) Yc) (cP (cV (by rw[af];lia))) #[aE.refl _,.nil] (λc Yc H3 _ #[s3,_]=>bN.of ((s2.4 s3) _ _ gq1)) ?_ ?_
  ·rintro c x Yc H3 hx Xv ⟨s3,_M⟩
   obtain ⟨z,ec,rfl⟩:∃z,zs[c]?=some z/\V.int z=x:=by
    rw[az] at hx;cases e:zs[c]? with
    | none=>rw[e] at hx;cases hx
    | some x=>rw[e] at hx;show #[x,rfl,cv hx]
   have hc:c < zs.9:=(aB.mp ec).1;have vc:=val c;have e1:zs.3 c 0=z:=by rw[aa,ec];rfl
   rw[e1] at vc;exists cz (bN.of ((s2.4 s3) _ _ gq1)) (EE ()) ?_;rw[ed];exists #[z,d,rfl,S.d0,dsz,λr4 H4 s4 g4=>?_];have ec':(R[i])[c]?=some ((R[i]).3 c 0):=by rw[aa,ae (show c < (R[i]).9 by lia)];rfl
   refine #[s3.4 s4,?_];rw[take_snoc ec'];refine bD (bv (λ_ _ z=>cm.same z s4) _M) (.cons (cm.mk g4 ?_) .nil);rcases Int.lt_or_lt_of_ne S.d0 with hd | hd
   ·rw[if_pos hd,if_pos hd];refine qO () ?_;rw[c7,c7,vc];grind
   ·rw[if_neg (),if_neg ()];refine qO hd ?_;rw[vc];grind
  ·rintro Yc H3 YY ⟨s3,_M⟩ l4 hl4;have sn:aE H3 (upd H3 l4 (.lst Yc)):=aE.new hl4;refine #[(s2.4 s3).4 sn,?_];rw[take_snoc eR];rw[aH (by rw[af];lia)] at _M;show bD (bv (λ_ _ z=>cu.same z ((sr.4 s3).4 sn)) pr) (.cons #[l4,rfl,(s2.4 s3).17 hl4,Yc,aK,bv (λ_ _ z=>cm.same z sn) _M] .nil)
 ·rintro ys H' hy ⟨s,pr⟩ r hr;have sn:aE H' (upd H' r (.lst ys)):=aE.new hr;rw[aH ()] at pr;refine k r R ps d.15 _ (s1.17 (s.17 hr)) ((s1.4 s).4 sn) #[ys,aK,bv (λ_ _ z=>(cu.weak z s1).10 sn) pr,dZ (H0:=H1) (rows:=R) #[H',hr,pr]] S.rr S.km ?_ S.dsz S.tp;have:=S.d0
  lia
theorem pQ:sC ["one","other","one_bottom","other_bottom","pairs"] 2 wZ:=by walk_at "d"
theorem HW (T:Txt K mg Z) (ac:bd P):T.qI.o P w base 4 (CG K):=by
 refine T.qI.F.k pQ ?_;walk_at "i";obtain p|q|xs|ys|rfl|hp|hq|hl|hz|⟨k1,j1,k2,j2,h1,h2,hkj⟩|kk:=h
 refine #[_,(av (eJ 2 pQ.nd (cH (kM T ac) hr T.fb (c6 bQ)))
  (av (eJ 3 pQ.nd (cH (kM T ac) hr T.fb (c6 cJ)))
  (av (eJ 4 pQ.nd (HS rfl T.30 rfl T.zip (cK (cH (qA T ac) hr T.iU (cK bQ eI)) (cH (qA T ac) hr T.iU (cK cJ ky)))))
  (aA (aQ (cH (xy T ac) hr T.nH (cK (bx (NU rfl) (by rfl) T.sum PyProof.Rows.boot_sum (c6 (bS ["mine","yours"] [] [] (cg rG) (λ_=>(vo K 2 (cZ (eG 0) (cZ (eG 1) kZ)))) (λ_=>bZ) (λ_=>(bF c4 bQ cJ))))) (bF c4 eI ky)))))))),?_]
 left
 obtain M|h1:=h1.Z5 ();obtain N|h2:=h2.Z5 ();replace hp:=hp.Zi;replace hq:=hq.Zi;replace hl:(ys.11 nm).9=(xs.11 nm).9:=by simpa using hl
 replace hz:(xs.11 nm).9<=1000:=by simpa using hz
 obtain b1|s1:=h1.bot;obtain b2|s2:=h2.bot;have k2:∀r H',aE H H'->H' r=some (.tup [.int (lo (NJ (xs.11 nm) (ys.11 nm)) (iw (xs.11 nm)*iw (ys.11 nm))),.int (hi (NJ (xs.11 nm) (ys.11 nm)) (iw (xs.11 nm)*iw (ys.11 nm)))])->Q (.ref r) H':=λr H' s g=>kk r H' s (cm.mk g (PD b1 b2))
 clear kk;generalize xs.11 nm=ns at hp hq hl hz h1 h2 b1 b2 s1 s2 k2;generalize ys.11 nm=ms at hp hq hl hz h1 h2 b1 b2 s1 s2 k2;have hb:0 < iw ns*iw ms:=jx b1 b2;exists #[p,ns,M,rfl,hp,hz,h1,λH1 t1=>?_];exists #[q,ms,N,rfl,hq.10 t1,(),h2,λH2 t2=>?_];have u2:=t1.4 t2;exists #[p,ns,M,_,rfl,hp.10 u2,hz,h1,b1,s1,λr1 H3 n3 t3 g3=>?_];exists #[q,ms,N,_,rfl,(hq.10 u2).10 t3,(),h2,b2,s2,λr2 H4 n4 t4 g4=>?_];exists #[r1,r2,_,_,rfl,bN.of (t4 _ _ g3),bN.of g4,by simp [fY,hl],λL ts H5 t5 n5 g5 pr=>?_];have lt:=pr.9;have ll:(fY ns (iw ns)).9=ns.9:=by simp [fY]
 have lm:(fY ms (iw ms)).9=ns.9:=by simp [fY,hl]
 rw[AI,af,af,ll,lm] at lt;exists #[#[_,bN.of g5],?_];refine dn (K:=K) (xs:=ts) (λi ys H'=>H'=H5/\ys=((VH (λx y=>x*y) (fY ns (iw ns)) (fY ms (iw ms))).21 i).11 V.int) gU #[rfl,rfl] (λi ys H' _ #[e,_]=>by subst e;show bN.of g5) ?_ ?_
 ·rintro i x ys H' hx Xv ⟨rfl,rfl⟩;obtain pq|epq|T|rfl|gT:=cN pr hx;obtain t|u|et|eu|rfl:=Ol epq;exists gI (show gM _ _ from .inr #[_,_,EI h1 b1 s1 (ar et),EI h2 b2 s2 (ar eu),()]) ?_;have ez:(VH (λx y=>x*y) (fY ns (iw ns)) (fY ms (iw ms)))[i]?=some (t*u):=by rw[eX,et,eu]
  show #[rfl,by rw[take_snoc ez];simp]
 ·rintro ys H' hy ⟨rfl,rfl⟩ l YQ;exists #[l,VH (λx y=>x*y) (fY ns (iw ns)) (fY ms (iw ms)),rfl,bN.of (by rw[aK,aH (by rw[dw];lia)]),?_];exists gI (show gM _ _ from .inr #[_,_,s1,s2,()]) ?_;exists #[_,_,rfl,(),(s1.mul s2).22 (),λr H6 t6 g6=>?_];rw[if_neg (),if_neg ()] at g6;show k2 r H6 ((((u2.4 t3).4 t4).4 t5).4 ((aE.new YQ).4 t6)) g6
theorem HJ:sC ["grid","row"] 2 xj:=by walk_at "d"
theorem qC (T:Txt K mg Z) (ac:bd P):T.jI.o P w base 5 (CF K):=by
 refine T.jI.F.k HJ ?_;walk_at "i";obtain p|q|H0|rows|ys|rfl|hp|hq|hz|hl|_Y|kk:=h;refine #[_,(aA (aQ (bS ["line"] ["row"] [1] (cg bQ) (λ_=>(eG 0)) (λ_=>bZ) (λ_=>(cH (HW T ac) hr T.qI (cK bQ cJ)))))),?_];left
 obtain xs|gx|qx|_:=id hp;exists #[#[_,bN.of gx],?_];refine cW (K:=K) (F:=cu K H0) (cm K) (λxs=>cS xs ys) gx qx hz (λa b=>a.10 b) (λa b=>a.10 b) ?_ ?_
 ·rintro i ns x H' NY NN en s ⟨u,rfl,_,hu⟩ k;obtain e1|e2:=_Y ns (ar en);exists #[u,q,ns,ys,rfl,hu,hq.10 s,e1.20,(),e2,λr H2 s2 h2'=>k _ _ s2 h2']
 ·rintro Yc H' r hr s g pr nx;show kk r H' hr s #[Yc,g,pr]
theorem AR:sC ["system","rows"] 2 pX:=by walk_at "d"
theorem AX (T:Txt K mg Z) (ac:bd P):T.lh.o P w base 6 (BF K Z.Xg):=by
 refine T.lh.F.k AR ?_;walk_at "i";obtain x|p|H0|H1|mv|pt|lk|R|rfl|S|D|G|adQ|wR|hf|k:=h;refine #[_,(aA (aQ (bS ["row"] ["system"] [0] (cg cJ) (λ_=>(eG 0)) (λ_=>bZ) (λ_=>(cH (qC T ac) hr T.jI (cK (Pg K cJ rfl) bQ)))))),?_];left
 obtain dx|a'|b'|c'|gx|_|_|_|Ga|Gb|Gc:=id S;have d8:=D.n8;obtain xs|gxs|qx|_:=id G;exists #[#[_,bN.of gxs],?_];refine cW (K:=K) (F:=cu K H1) (cu K H) (og mv) gxs qx () (λa b=>a.10 b) (λa b=>a.10 b) ?_ ?_
 ·rintro i ns v H' NY NN en s ⟨u,rfl,_,hu⟩ k1;have mn:=ar en;exists #[x,Z.Xg,dx,_,_,rfl,s _ _ gx,T.Xm,T.XH,uT,?_];exists #[a',u,H0,mv,ns,rfl,Ga.10 s,hu,(),by rw[wR ns mn];lia,λxs hx=>#[by rw[D.mw xs hx,wR ns mn],hf xs hx ns mn],λr H2 nr s2 R2=>k1 _ _ s2 #[r,rfl,s.17 nr,R2]]
 ·rintro ys H' r hr s g pr nx;show k r H' hr s #[ys,g,pr,dZ nx]
theorem nK:sC ["system","steps","lists","rows"] 2 oJ:=by walk_at "d"
theorem zQ (T:Txt K mg Z) (ac:bd P):T.ke.o P w base 7 (BI K Z.Xg):=by
 refine T.ke.F.k nK ?_;walk_at "i";obtain x|a|c|st|H0|mv|pt|lk|rfl|_m|S|D|F|k:=h
 refine #[_,(av (eJ 2 nK.nd (fq (c6 (fq iE))))
  (av (zE VA (bf Ue (bx aR (by rfl) T.38 aM (c6 eI)) cJ (bE _))
   (av (eJ 3 nK.nd (cH (qB T ac) hr T.jH (cK (bF gE (dB bQ rfl) (cH (AX T ac) hr T.lh (cK bQ (aZ bV eI (zI uj aw))))) (dB bQ rfl))))
  (av (c5 (bf gD (bx aR (by rfl) T.38 aM (c6 ky)) (bx aR (by rfl) T.38 aM (c6 (aZ bV eI (zI uj aw)))) (bE _)) (aA (aQ eI)) bX)
  (aA (jy (vp cX dG dF kO eI (c6 ky)))))))
  (aA (aQ eI)))),?_]
 left
 obtain dx|a'|b'|c'|gx|_|_|_|Ga|Gb|Gc:=id S;have d8:=D.n8;have i4:=D.i4;have lP:=dO (mv:=mv) (pt:=pt) rfl D.pw;exists dJ λq0 H1 s1 nq0 g1=>?_
 exists dJ λl H2 s2 nl g2=>?_
 have Yv:=s1.4 s2;have nl0:H l=none:=s1.17 nl;obtain ⟨Hz,eHz⟩:∃Hz,Hz=upd H l (.lst []):=#[_,rfl];have zl:Hz l≠none:=by rw[eHz,aK];show λz=>nomatch z
 have zn:∀q,Hz q=none->H q=none/\q≠l:=λq h=>by
  have ne:q≠l:=λz=>zl (by rw[<- z];show h)
  rw[eHz,bA ne] at h;show #[h,ne]
 have nz:∀q,H q=none->q≠l->Hz q=none:=λq h ne=>by rw[eHz,bA ne];show h
 clear eHz;have q0l:q0≠l:=λz=>by rw[z,nl] at g1;cases g1
 have G0:aP K Hz H2 q0 []:=#[[],s2 _ _ g1,.nil,λz=>nomatch z];exists Cw (λσ' H'=>aE H H'/\∃Rs R us y,σ'=[some (.ref x),some (.int st),some (.ref l),y]/\H' l=some (.lst us)/\Vs (λR v=>∃q,v=V.ref q/\Hz q=none/\aP K Hz H' q R) (Rs++[R]) us/\AA mv pt (Rs++[R])/\Rs.9<=st) (λ_ H'=>match H' l with | some (.lst us)=>st+1 - us.9 | _=>0) #[Yv,[],[],_,_,rfl,g2,.cons #[q0,rfl,nz q0 nq0 q0l,G0] .nil,#[by simp,λt R e=>?_,λt R R' e e'=>?_],be _] ?_
 ·have ht:=(aB.mp e).1;have:t=0:=by simpa using ht
  subst this;cases e;show #[[],HM]
 ·have ht:=(aB.mp e').1;simp at ht
 rintro σ' Ha ⟨sa,Rs,R,us,y,rfl,gu,pa,Gw,E!⟩;have lu:=pa.9;rw[ai,a9] at lu;have eR:(Rs++[R])[Rs.9]?=some R:=by rw[bM (aj _),oC];rfl
 obtain ps|RR:=Gw.rr _ _ eR;have tn:Rs.9<=mv.9:=by have:=Gw.38 _ _ eR;have:=RR.le;have:=RR.1;lia
 have fin:∀(Hx:Hp) (sx:aE Ha Hx) (hh:∀s,(Rs.9=st/\s=st\/Rs.9 < st/\Rs.9<=s)->∃ps,aD (Xt mv pt s) mv.9 R ps),Q (.ref l) Hx:=λHx sx hh=>by
  refine k l (Rs++[R]) Hx nl0 (sa.4 sx) #[us,sx _ _ gu,bv (λ_ _ #[q,e1,e2,e3]=>#[q,e1,(zn q e2).1,(zn q e2).2,aP.YT (aP.same e3 sx) λq h=>(zn q h).1]) pa] Gw (by rw[ai,a9];lia) λR2 e2 s hs=>?_
  rw[List.getLast?_concat] at e2;cases e2;rw[ai,a9,GW] at hs;show hh s hs
 exists #[_,_,rfl,.inl (bN.of gu),?_];exists jL (λh0=>?_) (λh0=>?_)
 ·have h0:=of_decide_eq_true h0;refine Qw ?_
  obtain ⟨zs,gS⟩:∃zs q,us=zs++[V.ref q]/\Hz q=none/\aP K Hz Ha q R:=by
   obtain ⟨v,ev,q,rfl,e2,e3⟩:∃v,us[Rs.9]?=some v/\∃q,v=V.ref q/\Hz q=none/\aP K Hz Ha q R:=by
    have ev:=ae (show Rs.9 < us.9 by lia);obtain R2|e2|w:=cN pa ev;rw[eR] at e2;cases e2;show #[_,ev,w]
   refine #[us.21 Rs.9,q,?_,e2,e3];rw[<- take_snoc ev,aH ()]
  obtain q|rfl|zq|Gq:=gS;have gxa:=sa _ _ gx;exists #[x,Z.Xg,dx,_,_,rfl,gxa,T.Xm,T.XQ,uS,?_];exists cz (bN.of gu) (Av _ _) ?_;have wR:=RR.2.1;have lR:=RR.1;have pn:=RR.le;exists #[x,q,H0,Hz,mv,pt,lk,R,rfl,S.10 sa,D,Gq,(),wR,F._C d8 D.mw D.pw tn RR,λmr Hb nmr sb Gm=>?_];obtain pv|gpv|qpv|_:=Gb.10 (sa.4 sb);obtain mvs|gmv|qmv|_:=id Gm;have lpv:=qpv.9;have Y2:=qmv.9;rw[af] at Y2;exists gC gpv gmv gU λcr Hc sc nc gc=>?_
  have Zx:=sa.4 (sb.4 sc);have Gc':aP K (λ_=>none) Hc cr (pt++R.11 (og mv)):=xJ (H:=Hb) (bD (bv (λ_ _ #[q,e1,e2,e3]=>#[q,e1,rfl,e3]) qpv) (bv (λ_ _ #[q,e1,e2,e3]=>#[q,e1,rfl,e3]) qmv)) sc nc gc;exists #[x,Z.Xg,dx,_,_,rfl,Zx _ _ gx,T.Xm,T.Xu,fj,?_];exists #[cr,mv.9,_,_,_,rfl,Gc',by rw[ai,af];lia,(),λxs hx=>?_,F.step d8 D.mw D.pw tn RR,λrr R' Xx M' Hd nrr sd G' X6 pm' _ _ _=>?_]
  ·rcases ao.mp hx with hx | hx
   ·show D.pw xs hx
   ·obtain y|_|rfl:=au.mp hx;show mL
  have Yh:=sb.4 (sc.4 sd);have sad:=sa.4 Yh;have K1:=vG rfl D.mw D.pw RR X6;have Zm:=Yh _ _ gu;obtain rv|grv|qrv|_:=id G';have lrv:=qrv.9;have lR':=X6.1;have pn':=X6.le;exists #[_,_,rfl,.inl (bN.of grv),?_];exists cz (bN.of Zm) (Av _ _) ?_;obtain ov|gov|qov|_:=Gq.10 Yh;have lov:=qov.9;exists #[_,_,rfl,.inl (bN.of gov),?_];exists jL (λh1=>?_) (λh1=>?_)
  ·have h1:=of_decide_eq_true h1;exists fin Hd Yh λs hs=>#[ps,?_]
   obtain ⟨s',rfl⟩:∃s',s=Rs.9+s':=#[s - Rs.9,()];show BW rfl D.mw D.pw RR X6 () s'
  ·have h1:¬((rv.9:Int)=ov.9):=λz=>h1 (decide_eq_true z)
   have gr:=Fv rfl D.mw D.pw RR K1;have rl:rr≠l:=λz=>by rw[z,(sb.4 sc) _ _ gu] at nrr;cases nrr
   have zc:∀q,Hc q=none->Hz q=none:=λq h=>nz q (Zx.17 h) (λz=>by rw[z,(sb.4 sc) _ _ gu] at h;cases h)
   exists #[.inl #[rfl,_,bN.of Zm],?_];exists jQ Zm (cV ()) ?_;refine #[#[sad.46 nl0,Rs++[R],R',_,_,rfl,aK,bD (bv (λ_ _ #[q,e1,e2,e3]=>#[q,e1,e2,aP.XA (aP.same e3 Yh) Zm zl (zn q e2).2]) pa) (.cons #[rr,rfl,zc rr nrr,aP.XA (G'.YT zc) Zm zl rl] .nil),Gw.snoc K1 (),by rw[ai,a9];lia],?_];simp only[gu,aK,ai,a9] at lu h0 ⊢
   lia
 ·have h0:¬((us.9:Int)<=st):=λz=>h0 (decide_eq_true z)
  walk_at "w"
  show fin Ha (aE.refl _) λs hs=>#[ps,by
   have:s=Rs.9:=()
   rw[this];show RR]
theorem AO:sC ["system","steps"] 2 pV:=by walk_at "d"
theorem oW (T:Txt K mg Z) (ac:bd P):T.hZ.o P w base 8 (BC K Z.Xg):=by
 refine T.hZ.F.k AO ?_;walk_at "i";obtain x|a|c|st|H0|mv|pt|lk|rfl|_m|S|D|F|k:=h;refine #[_,(aA (aQ (aZ bV (cH (zQ T ac) hr T.ke (cK bQ cJ)) (zI uj aw)))),?_];left
 exists #[x,a,c,st,H0,mv,pt,lk,rfl,_m,S,D,F,λr Rs H1 nr s1 #[us,gu,pa] Gw hl hh=>?_];have lu:=pa.9;obtain ⟨N!,R,rfl⟩:∃N! R,Rs=N!++[R]:=#[Rs.dropLast,Rs.getLast Gw.ne,(List.dropLast_concat_getLast Gw.ne).20];rw[ai,a9] at lu hl;have eR:(N!++[R])[N!.9]?=some R:=by rw[bM (aj _),oC];rfl
 obtain ⟨zs,q,rfl,zq,ql,Gq⟩:∃zs q,us=zs++[V.ref q]/\H q=none/\q≠r/\aP K H H1 q R:=by
  have ev:=ae (show N!.9 < us.9 by lia);obtain R2|e2|q|e3|e4|e5|e6:=cN pa ev;rw[eR] at e2;cases e2;rw[e3] at ev;refine #[us.21 N!.9,q,?_,e4,e5,e6];rw[<- take_snoc ev,aH ()]
 obtain ps|RR:=hh R (by rw[List.getLast?_concat]) st (by rw[ai,a9,GW];lia);exists cz (bN.of gu) (Av _ _) ?_;show k q R ps H1 zq s1 Gq RR
theorem zv:sC ["grid","wide"] 2 oK:=by walk_at "d"
theorem j9 (T:Txt K mg Z) (ac:bd P):T.fu.o P w base 1 (EN K):=by
 refine T.fu.F.k zv ?_;walk_at "i";obtain p|w|H0|rows|rfl|hp|hz|hw|hl|kk:=h;refine #[_,(aA (aQ (bS ["place"] ["grid"] [0] (b8 rfl T.34 (c6 cJ)) (λ_=>(eG 0)) (λ_=>bZ) (λ_=>(bS ["line"] ["place"] [0] (vn K cJ) (λ_=>(eG 0)) (λ_=>bZ) (λ_=>(aZ (gG K (by rfl)) bQ cJ))))))),?_];left
 exists #[(),(),?_];refine gH (n:=w) (cu K H) (λj=>rows.11 λxs=>xs.3 j 0) hw (λa b=>a.10 b) ?_ ?_
 ·rintro j H1 NY NN hj s1 k1;obtain xs|gx|qx|_:=hp.10 s1;exists #[#[_,bN.of gx],?_];refine cW (K:=K) (F:=cu K H0) (cm K) (λxs=>xs.3 j 0) gx qx hz (λa b=>a.10 b) (λa b=>a.10 b) ?_ ?_
  ·rintro i ns x H2 NY2 NN2 en s2 ⟨u,rfl,_,zs,gz,qz⟩ k2;obtain v|ev|hv:=Fx qz (j:=j) (by rw[hl ns (ar en)];show hj);exists cz (bN.of gz) ev ?_;show k2 _ _ (aE.refl _) hv
  ·rintro Yc H2 r hr s2 g pr nx;show k1 _ _ s2 #[r,rfl,s1.17 hr,Yc,g,pr]
 ·rintro Yc H1 r hr s1 g pr nx;show kk r H1 hr s1 #[Yc,g,pr,dZ nx]
theorem wW:sC ["self"] 1 fG:=by walk_at "d"
theorem xB (T:Txt K mg Z) (ac:bd P):qY P w K mg base Jg 7 Z.mO Z.mN ["self"] (Jx K Z.Xg):=by
 refine T.rA.k wW ?_;walk_at "i";obtain x|H0|mv|pt|lk|rfl|S|D|F|k:=h;refine #[_,(aA (aQ (yK T.XC (gO T ac) (hr.22 ()) rfl T.XD T.fL .nil zJ (zM (cH (j9 T ac) hr T.fu (cK (dB bQ rfl) (dB bQ rfl))) (dB bQ rfl) (dB bQ rfl))))),?_];left
 obtain dx|a|b|c|gx|n1|n2|n3|Ga|Gb|Gc:=id S;have d1:=D.n8;exists #[x,Z.Xg,dx,_,_,rfl,gx,T.Xm,T.XH,uT,?_];exists #[x,Z.Xg,dx,_,_,rfl,gx,T.Xm,T.Xu,fj,?_];exists #[a,mv.9,H0,mv,rfl,Ga,(),(),D.mw,λt H1 nt s1 Gt=>?_];have _f:=s1 _ _ gx;exists #[x,Z.Xg,dx,_,_,rfl,_f,T.Xm,T.XI,uU,?_];exists #[x,Z.Xg,dx,_,_,rfl,_f,T.Xm,T.XQ,uS,?_];walk_at "w";intro x' dx' nx ndx nex;show #[x',dx',t,c,b,H1,H,H0,H0,_,_,_,rfl,nx,ndx,nex,rfl,Gt,Gc.10 s1,Gb.10 s1,D.turn,Ov F.1,F.2.2,F.2.1,λH' s' S'=>#[rfl,k x' H' (s1.17 nx) (s1.4 s') (S'.44 s1)]]
theorem EZ:sC ["many","at"] 2 uy:=by walk_at "d"
theorem sU (T:Txt K mg Z) (ac:bd P):T.jS.o P w base 1 (EM K):=by
 refine T.jS.F.k EZ ?_;walk_at "i";obtain m|a'|rfl|hm|k:=h;refine #[_,(aA (aQ (bS ["place"] ["at"] [1] (b8 rfl T.34 (c6 bQ)) (λ_=>(eG 0)) (λ_=>bZ) (λ_=>(MM (bf gD bQ cJ (bE _)) (qj (v:=.ref Z.ZP) rfl T.ZD rfl) (qj (v:=.ref Z.XT) rfl T.XW rfl)))))),?_];left
 exists #[(),(),?_];refine gH (n:=m) (cm K) (λi=>if ((i:Nat):Int)=a' then 1 else 0) hm (λa b=>a.10 b) ?_ ?_
 ·rintro i H' NY NN hi s k1;exists jL (λh0=>?_) (λh0=>?_)
  ·exists k1 _ _ (aE.refl _) (by rw[if_pos (of_decide_eq_true h0)];show #[_,rfl,T.Zw _])
  ·exists k1 _ _ (aE.refl _) (by rw[if_neg (λz=>h0 (decide_eq_true z))];show #[_,rfl,T.XU _])
 ·rintro ys H' l hl s g pr nx;show k l _ hl s #[ys,g,pr]
theorem wQ:sC ["row"] 1 mI:=by walk_at "d"
theorem xA (T:Txt K mg Z) (ac:bd P):T.iW.o P w base 1 (EU K):=by
 refine T.iW.F.k wQ ?_;walk_at "i";obtain p|xs|j|rfl|R|afA|hj|Yr|hz|k:=h;refine #[_,(aA (aQ (bx (Lx rfl) (by rfl) T.min Wj (c6 (bS ["place","value"] [] [] (JW rfl T.enumerate (c6 bQ)) (λ_=>(vo K 2 (cZ (eG 0) (cZ (eG 1) kZ)))) (λ_=>xu (bf (Dd K (by rfl) (Ac hr)) cJ (qj (v:=.ref Z.XT) rfl T.XW rfl) (bE _))) (λ_=>bQ)))))),?_];left
 obtain zs|gz|qz:=id R;have lz:=qz.9;exists #[#[_,bN.of gz],?_];refine Lv (K:=K) (xs:=zs) (λi ys H'=>aE H H'/\ys=ck (Fo xs i)) gU #[aE.refl _,rfl] (λi ys H' _ #[s,_]=>bN.of (s _ _ gz)) ?_ ?_
 ·rintro i v ys H' r hx Xv ⟨s',rfl⟩ hr;obtain y|ey|ny:=cN qz hx;have ey':xs.3 i 0=y:=by rw[aa,ey];rfl
  have sr:aE H' (upd H' r (.tup [.int i,v])):=aE.new hr;have gr:(upd H' r (.tup [.int i,v])) r=some (.tup [.int i,v]):=aK;generalize upd H' r (.tup [.int i,v])=H2 at sr gr ⊢;exists #[_,_,Kd,y,0,(),(ny.10 s').10 sr,#[_,rfl,T.XU _],?_];by_cases e:y=0
  ·rw[decide_eq_true e];exists #[s'.4 sr,?_];rw[yM,ey',if_neg (by simpa using e)]
  ·rw[decide_eq_false e];exists #[s'.4 sr,?_];rw[yM,ey',if_pos e];unfold ck;rw[bH];rfl
 ·rintro ys H1 hy ⟨s1,rfl⟩ l hl;have sn:aE H1 (upd H1 l (.lst (ck (Fo xs zs.9)))):=aE.new hl;have gn:(upd H1 l (.lst (ck (Fo xs zs.9)))) l=some (.lst (ck (Fo xs zs.9))):=aK;generalize upd H1 l (.lst (ck (Fo xs zs.9)))=H2 at sn gn ⊢
  have mj:j∈Fo xs zs.9:=by
   unfold Fo;show fP.mpr #[kC.mpr (),by simpa using Yr]
  exists #[l,sY (Fo xs zs.9),rfl,bN.of (by rw[<- BS];show gn),?_,λM hM hle=>?_]
  ·unfold sY;rw[af];show List.length_pos_of_mem mj
  ·obtain c|hc|rfl:=au.mp hM;have h1:=hle j (au.mpr #[j,mj,rfl]);have h2:=(fP.mp hc).2
   have e:c=j:=by
    rcases eE c j with z | z | z
    ·show absurd (hz c z) (of_decide_eq_true h2)
    ·show z
    ·lia
   rw[e];show k _ (s1.4 sn)
theorem HI:sC ["rows"] 1 xh:=by walk_at "d"
theorem uK (T:Txt K mg Z) (ac:bd P):T.kR.o P w base 2 (EV K):=by
 refine T.kR.F.k HI ?_;walk_at "i";obtain p|n|H0|R|ps|rfl|G|XY|XZ|⟨rows,RR⟩|k:=h;refine #[_,(aA (aQ (bS ["row"] [] [] (cg bQ) (λ_=>(eG 0)) (λ_=>bZ) (λ_=>(cH (xA T ac) hr T.iW (c6 bQ)))))),?_];left
 obtain lR|wR|rr:=id RR;obtain xs|gx|qx|_:=id G;have lx:=qx.9;exists #[#[_,bN.of gx],?_];refine dn (K:=K) (xs:=xs) (λi ys H'=>aE H H'/\ys=ck (ps.21 i)) gU #[aE.refl _,rfl] (λi ys H' _ #[s,_]=>bN.of (s _ _ gx)) ?_ ?_
 ·rintro i v ys H' hx Xv ⟨s',rfl⟩;obtain row|er|q|rfl|_|Rr:=cN qx hx;have wr:=wR row (ar er);have hi:i < ps.9:=by have:=(aB.mp er).1;lia
  have ef:∀c,a7 R i c=row.3 c 0:=λc=>by unfold a7;rw[aa (l:=R),er];rfl
  have ep:ps[i]?=some (ps.3 i 0):=by rw[aa,ae hi];rfl
  have lowp:=rr.52 i hi;have u:=rr.32 i hi i hi;rw[if_pos rfl,ef] at u;exists #[q,row,ps.3 i 0,rfl,Rr.10 s',(),(),by rw[u];decide,λc hc=>by rw[<- ef];show rr.lead i hi c hc,λH2 s2=>?_];refine #[s'.4 s2,?_];unfold ck;rw[take_snoc ep,bH];rfl
 ·rintro ys H1 hy ⟨s1,rfl⟩ r hr;refine k r _ (s1.17 hr) (s1.4 (aE.new hr)) ?_;rw[aK,aH ()]
theorem Mu:sC ["one","other"] 2 C0:=by walk_at "d"
theorem MR (T:Txt K mg Z) (ac:bd P):T.vD.o P w base 3 (pP K (λx y=>x - y)):=by
 refine T.vD.F.ok Mu (λvs H Q E h=>?_) (λXG A outer s H vs Q E hr h=>?_)
 ·obtain p|q|a|b|c|d|rfl|hp|hq|hb|hd|sa|sb|sc|sd|k:=yI h;rfl
 ·obtain p|q|a|b|c|d|rfl|hp|hq|hb|hd|sa|sb|sc|sd|k:=yI h;refine #[_,(aA (aQ (cH (xy T ac) hr T.nH (cK (bF jf (bF c4 (aZ bW bQ aw) (aZ bW cJ aw)) (bF c4 (aZ bW cJ aw) (aZ bW bQ aw))) (bF c4 (aZ bW bQ aw) (aZ bW cJ aw)))))),?_];refine pe (σ:=[some (.ref p),some (.ref q)]) rfl ?_
  try rw[gJ]
  have _y:0 < b*d:=jx hb hd;have Yh:Sz 8999000 (b*d):=(sb.mul sd).22 ();exists gI (show gM _ _ from .inr #[_,_,sa,sd,()]) ?_;exists gI (show gM _ _ from .inr #[_,_,sc,sb,()]) ?_;exists gI (show gM _ _ from .inr #[_,_,sb,sd,()]) ?_;walk_at "w";exists #[_,_,rfl,(),Yh,λr H' s' h'=>?_];rw[if_neg (),if_neg ()] at h';show k r H' s' h'
theorem pS:sC ["rows","wide","at","answer","lead","row"] 3 xg:=by walk_at "d"
theorem HX (T:Txt K mg Z) (ac:bd P):T.qJ.o P w base 4 (BE K):=by
 refine T.qJ.F.k pS ?_;walk_at "i";obtain p|n|a|H0|R|ps|rfl|G|XY|XZ|⟨rows,RR⟩|ha|hp|hz|k:=h
 refine #[_,(av (eJ 3 pS.nd (cH (sU T ac) hr T.jS (cK cJ eI)))
  (av (fo VA rfl (yJ rfl T.zip (cK (cH (uK T ac) hr T.kR (c6 bQ)) bQ)) (zH rfl (cZ (eG 4 pS.nd) (cZ (eG 5 pS.nd) kZ)))
   (aA (fR (cH (MR T ac) hr T.vD (cK (qj (v:=.ref Z.XT) rfl T.XW rfl) (aZ bV tU eI))) (ib ky rG set_list))))
  (aA (aQ ky)))),?_]
 left
 obtain lR|wR|rr:=id RR;exists #[n,a,rfl,(),λan H1 na s1 R1=>?_];rw[<- JY (R:=R) (ps:=ps)] at R1;obtain vs0|g0|q0:=id R1;exists #[p,n,H0,R,ps,rfl,G.10 s1,XY,XZ,#[rows,RR],λle H2 nl s2 g2=>?_];have anl:le≠an:=λz=>by rw[z,g0] at nl;cases nl
 obtain rs|grs|qrs|_:=id G;have lrs:=qrs.9;have C!:=mh (ps:=ps);exists #[#[_,bN.of g2],#[_,bN.of ((s1.4 s2) _ _ grs)],?_];refine Px (K:=K) (xs:=ck ps) (ws:=rs) (λj σ' H'=>aE H H'/\H' le=some (.lst (ck ps))/\∃y1 y2 vs,σ'=[some (.ref p),some (.int n),some (.int a),some (.ref an),y1,y2]/\H' an=some (.lst vs)/\Vs (cm K H') (Ic R ps n a j) vs) () #[s1.4 s2,g2,_,_,vs0,rfl,s2 _ _ g0,bv (λ_ _ z=>cm.same z s2) q0] (λj σ' H' _ #[e,e2,_]=>#[bN.of e2,bN.of (e _ _ grs)]) ?_ ?_
 ·rintro j v1 v2 σ' H' r h1 h2 ⟨s',gl,y1,y2,vs,rfl,ga,qa⟩ hr;obtain row|er|q|rfl|_|Rr:=cN qrs h2;have mr:=ar er;have wr:=wR row mr;obtain pj|ej|rfl:=vC h1;have hj:j < ps.9:=(aB.mp ej).1;have ejD:ps.3 j 0=pj:=by rw[aa,ej];rfl
  have pjn:pj < n:=by have:=rr.52 j hj;rw[ejD] at this;show this
  have fr:a7 R j a=row.3 a 0:=by unfold a7;rw[aa (l:=R),er];rfl
  have sr:aE H' (upd H' r (.tup [.int pj,.ref q])):=aE.new hr;have gr:(upd H' r (.tup [.int pj,.ref q])) r=some (.tup [.int pj,.ref q]):=aK;generalize upd H' r (.tup [.int pj,.ref q])=H3 at sr gr ⊢;have XX:=s'.4 sr;obtain us|gu|qu:=Rr.10 XX;obtain vx|ex|nx:=Fx qu (j:=a) ();exists cz (bN.of gu) ex ?_;exists #[_,_,0,row.3 a 0,rfl,#[_,rfl,T.XU _],nx,Mh,hz row mr _ (getD_in ()),λr4 H4 s4 n4=>?_];have ga4:=(sr.4 s4) _ _ ga;have gl4:=(sr.4 s4) _ _ gl;have la:=qa.9;rw[iF] at la;exists fz ga4 (fK ()) rfl ?_;refine #[(XX.4 s4).46 na,by rw[bA anl];show gl4,_,_,_,rfl,aK,?_];rw[<- JZ RR hj hp,ejD,fr,show -(row.3 a 0)=0 - row.3 a 0 by grind];show kJ (bv (λ_ _ z=>(cm.same z (sr.4 s4)).XA ga4) qa) pj (n4.XA ga4)
 ·rintro σ' H' ⟨s',gl,y1,y2,vs,rfl,ga,qa⟩;rw[C!] at qa;exists k an H' na s' #[vs,ga,qa]
theorem rQ:sC ["rows","wide","leads"] 2 oM:=by walk_at "d"
theorem sV (T:Txt K mg Z) (ac:bd P):T.iI.o P w base 3 (zj K):=by
 refine T.iI.F.k rQ ?_;walk_at "i";obtain p|n|H0|R|ps|rfl|G|XY|XZ|RR|k:=h
 refine #[_,(av (eJ 2 rQ.nd (cH (uK T ac) hr T.kR (c6 bQ)))
  (aA (aQ (bS ["place"] ["leads"] [2] (b8 rfl T.34 (c6 cJ)) (λ_=>(eG 0)) (λ_=>xu (bf (oU K (by rfl)) bQ cJ (by with_unfolding_all rfl))) (λ_=>bQ))))),?_]
 left
 exists #[p,n,H0,R,ps,rfl,G,XY,XZ,RR,λl H1 nl s1 g1=>?_];exists #[(),(),?_];refine jM (n:=n) (λi ys H'=>aE H1 H'/\ys=ck (dD ps i)) gU #[aE.refl _,rfl] ?_ ?_
 ·rintro i ys H' hi Xv ⟨s',rfl⟩;rw[lY];exists #[l,ck ps,rfl,.inl (bN.of (s' _ _ g1)),rfl,xD,?_];rw[Aa];by_cases e:i∈ps
  ·rw[decide_eq_true e];exists #[s',?_];rw[nW,if_neg (by simpa using e)]
  ·rw[decide_eq_false e,show (if true=true then !false else false)=true from rfl];exists #[s',?_];rw[nW,if_pos e];unfold ck;rw[bH];rfl
 ·rintro ys H2 hy ⟨s2,rfl⟩ r hr;show k r _ (s1.17 (s2.17 hr)) ((s1.4 s2).4 (aE.new hr)) aK
theorem E3:sC ["rows","wide","basis"] 2 CZ:=by walk_at "d"
theorem vw (T:Txt K mg Z) (ac:bd P):T.nV.o P w base 6 (JH K):=by
 refine T.nV.F.k E3 ?_;walk_at "i";obtain p|n|w|H0|rows|rfl|G|XY|XZ|hw|F|SZ|k:=h
 refine #[_,(av (eJ 2 E3.nd (cH (qB T ac) hr T.jH (cK bQ cJ)))
  (aA (aQ (bS ["at"] ["basis","wide"] [2,1] (cg (cH (sV T ac) hr T.iI (cK eI cJ))) (λ_=>(eG 0)) (λ_=>bZ) (λ_=>(cH (HX T ac) hr T.qJ (zM cJ eI bQ))))))),?_]
 left
 exists #[p,n,w,H0,rows,rfl,G,XY,XZ,hw,F,λba R ps M H1 nb s1 G1 RR pm M0 M1 tM=>?_];obtain lR|wR|rr:=id RR;have pn:=RR.le;have szR:=SZ R ps RR;have fl:=Ae (ps:=ps) (i:=n);exists #[ba,n,H,R,ps,rfl,G1,(),(),#[rows,RR],λfr H2 nf s2 g2=>?_];exists #[#[_,bN.of g2],?_];refine dn (K:=K) (xs:=ck (dD ps n)) (λi ys H'=>aE H2 H'/\Vs (cu K H H') ((dD ps n).21 i |>.map (sW R ps n)) ys) (cP (cV (by rw[mh];lia))) ⟨aE.refl _,.nil⟩ (λi ys H' _ ⟨s,_⟩=>bN.of (s _ _ g2)) ?_ ?_
 ·rintro i v ys H' hx Xv ⟨s',pr⟩;obtain a|ea|rfl:=vC hx;obtain an|ap:=ko.mp (ar ea);have Yv:=(s1.4 s2).4 s';exists #[ba,n,a,H,R,ps,rfl,(G1.10 s2).10 s',(),(),#[rows,RR],an,ap,szR,λr H3 nr s3 R3=>?_];refine #[s'.4 s3,?_];rw[take_snoc ea,bH];show bD (bv (λ_ _ z=>cu.same z s3) pr) (.cons #[r,rfl,Yv.17 nr,R3] .nil)
 ·rintro ys H3 hy ⟨s3,pr⟩ r hr;rw[aH (by rw[mh];show aj _)] at pr;have sn:aE H3 (upd H3 r (.lst ys)):=aE.new hr;have XX:=(s1.4 s2).4 s3;show k r R ps _ (XX.17 hr) (XX.4 sn) #[ys,aK,bv (λ_ _ z=>cu.same z sn) pr,dZ (H0:=H) (rows:=aL R ps n) #[H3,hr,pr]] RR
theorem rO:sC ["system","steps","told"] 2 oI:=by walk_at "d"
theorem sT (T:Txt K mg Z) (ac:bd P):T.iH.o P w base 9 (Ju K Z.Xg):=by
 refine T.iH.F.k rO ?_;walk_at "i";obtain x|tt|e|H0|mv|pt|lk|rfl|hT|S|D|F|UF|k:=h
 refine #[_,(av (eJ 2 rO.nd (cH (oW T ac) hr T.hZ (cK (ML bQ T.Xm T.pB (xB T ac) (hr.22 ()) T.rj .nil zJ) cJ)))
  (aA (aQ (cH (qB T ac) hr T.jH (cK (cH (vw T ac) hr T.nV (cK eI (dB bQ rfl))) (dB bQ rfl)))))),?_]
 left
 have d8:=D.n8;have et:(aO mv mv.9).9=mv.9:=b7;obtain a|c|KF|_|_:=UF.kf;obtain dx|a'|b'|c'|gx|_:=id S;exists #[x,dx,_,rfl,gx,HC,?_];exists #[x,H0,mv,pt,lk,rfl,S,D,F,λy H1 ny s1 S1=>?_];exists #[y,a,c,tt,H,_,lk,pt,rfl,(),S1,D.turn,KF,λq R ps H2 nq s2 G2 RR=>?_];have Yv:=s1.4 s2;obtain ⟨w1,sw⟩|szR|w2|swn|bn|q1|q10|tn:=UF.sw RR;have e1:=UF.e1;rw[et] at RR sw swn bn tn;have le:=RR.le;have lR:=RR.1;have cnt:=iS RR;exists #[x,Z.Xg,dx,_,_,rfl,Yv _ _ gx,T.Xm,T.Xu,fj,?_];exists #[q,mv.9,w1,H1,R,rfl,G2,(),(),RR.2.1,sw,λR' Xx h'=>by obtain rfl|rfl:=h'.10 (ig RR);show szR,λr3 R' Xx H3 n3 s3 G3 h'=>?_];obtain rfl|rfl:=(ig RR).10 h';have XX:=Yv.4 s3;exists #[x,Z.Xg,dx,_,_,rfl,XX _ _ gx,T.Xm,T.Xu,fj,?_];exists #[r3,mv.9,w2,H2,_,rfl,G3,(),(),fA,swn,λr4 Hd psd M4 H4 n4 s4 G4 RN _ M0 M1 tp=>?_];have up:=ak (show 0 < 2 by decide) bn;show k r4 Hd H4 (XX.17 n4) (XX.4 s4) (G4.YT λq h=>XX.17 h) #[R,ps,psd,M4,RR,RN,Ib RR bu q10 tn RN,M0,ag M1 up,λxs hx x Xq=>(tp xs hx x Xq).22 up]
theorem AQ:sC ["rows","wide"] 2 pW:=by walk_at "d"
theorem AW (T:Txt K mg Z) (ac:bd P):T.k9.o P w base 5 (JJ K):=by
 refine T.k9.F.k AQ ?_;walk_at "i";obtain p|n|w|H0|rows|rfl|G|XY|XZ|hw|F|k:=h;refine #[_,(aA (aQ (aZ bW (cH (Fj T ac) hr T.sX (cK (cH (j9 T ac) hr T.fu (cK bQ cJ)) (bx aR (by rfl) T.38 aM (c6 bQ)))) aw))),?_];left
 obtain xs|gx|qx|_:=id G;have lx:=qx.9;have lt:(aO rows n).9=n:=b7;exists #[p,n,H0,rows,rfl,G,(),(),hw,λr H1 nr s1 G1=>?_];exists #[_,_,rfl,.inl (bN.of (s1 _ _ gx)),?_];rw[<- lx];exists #[r,rows.9,w,_,aO rows n,rfl,G1,(),XY,λys hy=>?_,F,λt lp qp R ps d ls H2 gt gq G2 s2 S=>?_]
 ·unfold aO at hy;obtain i|_|rfl:=au.mp hy;rw[af]
 exists k qp R ps H2 (s1.4 s2) gq S.rr
theorem u0:sC ["ahead","rows","wide","many"] 3 rY:=by walk_at "d"
theorem qD (T:Txt K mg Z) (ac:bd P):T.iX.o P w base 6 (EY K):=by
 refine T.iX.F.k u0 ?_;walk_at "i";obtain p|q|n|w|H0|H1|A|X|us|G|rfl|GA|GX|gq|pq|a40|x40|XZ|wA|SW|k:=h
 refine #[_,(av (eJ 3 u0.nd (bx aR (by rfl) T.38 aM (c6 bQ)))
  (aA (aQ (bS ["place"] ["rows","many"] [1,3] (cg (cH (AW T ac) hr T.k9 (cK (bF gE bQ cJ) eI))) (λ_=>(eG 0)) (λ_=>xu (bf zP bQ eI (bE _))) (λ_=>(aZ (gG K (by rfl)) cJ (bF jf bQ eI))))))),?_]
 left
 obtain vs|ga|qa|_:=id GA.58;obtain Yo|YL|qx|_:=id GX.58;obtain rfl:us=Yo:=by rw[gq] at YL;injection YL with e;injection e
 have la:=qa.9;have lx:=pq.9;exists #[_,_,rfl,.inl (bN.of ga),?_];rw[show ((vs.9:Nat):Int)=(A.9:Int) by lia];exists gC ga gq gU λl1 Ha sa na gl=>?_
 have qc:=bD qa qx;have G1:aP K (λ_=>none) Ha l1 (A++X):=#[_,gl,bv (λ_ _ z=>z.10 sa) qc,dZ #[_,na,qc]];have lc:(A++X).9=A.9+X.9:=ai;exists #[l1,n,w,_,A++X,rfl,G1,(),(),wA,SW,λqv T pv Hb sb gb RT=>?_];have Zx:=sa.4 sb;have lp:=RT.le;have ls:=mh (ps:=pv);exists #[#[_,bN.of gb],?_];refine dn (K:=K) (xs:=ck pv) (λi ys H'=>aE Hb H'/\Vs G (uu (A++X) ((pv.take i).filter λp=>decide (A.9<=p))) ys) gU #[aE.refl _,.nil] (λi ys H' _ #[s,_]=>bN.of (s _ _ gb)) ?_ ?_
 ·rintro i v ys H' hx Xv ⟨s',pr⟩;obtain pl|ea|rfl:=vC hx;have ip:=HH RT (ar ea);rw[lc] at ip;walk_at "w";by_cases h:A.9<=pl
  ·rw[decide_eq_true (show (A.9:Int)<=(pl:Int) by lia)];walk_at "w";rw[show (pl:Int) - (A.9:Int)=((pl - A.9:Nat):Int) by lia];obtain xs|v|e1|e2|_|gv:=fU pq (i:=pl - A.9) ();refine cz (bN.of (s' _ _ (Zx _ _ gq))) (ee e2) ?_;refine #[s',?_];rw[take_snoc ea,uh,yk (by simpa using h)];unfold uu at pr ⊢;rw[bH];refine bD pr (.cons ?_ .nil);change G ((A++X).3 pl []) v
   rw[aa,bM h,e1];show gv
  ·rw[decide_eq_false (show ¬(A.9:Int)<=(pl:Int) by lia)];exists #[s',?_];rw[take_snoc ea,uh,ym (by simpa using h),List.filter_nil,nC];show pr
 ·rintro ys H3 hy ⟨s3,pr⟩ r hr;rw[aH ()] at pr;have XX:=Zx.4 s3;show k r T pv ys _ (XX.17 hr) (XX.4 (aE.new hr)) RT aK pr
theorem CM:sC ["many"] 1 rT:=by walk_at "d"
theorem vv (T:Txt K mg Z) (ac:bd P):T.kd.o P w base 2 (KH K):=by
 refine T.kd.F.k CM ?_;walk_at "i";obtain m|rfl|hm|k:=h;refine #[_,(aA (aQ (bS ["at"] ["many"] [0] (b8 rfl T.34 (c6 bQ)) (λ_=>(eG 0)) (λ_=>bZ) (λ_=>(cH (sU T ac) hr T.jS (cK cJ bQ)))))),?_];left
 exists #[(),(),?_];refine gH (n:=m) (cu K H) (λi=>jX m i) hm (λa b=>a.10 b) ?_ ?_
 ·rintro i H' NY NN hi s k1;exists #[m,i,rfl,hm,λr H2 n2 s2 h2=>k1 _ _ s2 #[r,rfl,s.17 n2,h2]]
 ·rintro ys H' l hl s g pr nx;show k l _ hl s #[ys,g,pr,dZ nx]
theorem fQ:sC ["system","wide","reach","unseen","both","steered","hidden"] 1 p4:=by walk_at "d"
theorem tZ (T:Txt K mg Z) (ac:bd P):T.js.o P w base 10 (BJ K Z.Xg):=by
 refine T.js.F.k fQ ?_;walk_at "i";obtain x|a|c|e|H0|mv|pt|lk|rfl|S|D|KF|F|UF|WR|WU|k:=h
 refine #[_,(av (eJ 1 fQ.nd (dB bQ rfl))
  (av (eJ 2 fQ.nd (cH (oW T ac) hr T.hZ (cK bQ cJ)))
  (av (eJ 3 fQ.nd (cH (sT T ac) hr T.iH (cK bQ cJ)))
  (av (eJ 4 fQ.nd (cH (vw T ac) hr T.nV (cK (bF gE (cH (vw T ac) hr T.nV (cK eI cJ)) (cH (vw T ac) hr T.nV (cK ky cJ))) cJ)))
  (av (eJ 5 fQ.nd (cH (qD T ac) hr T.iX (zM rG eI cJ)))
  (av (eJ 6 fQ.nd (cH (qD T ac) hr T.iX (zM rG ky cJ)))
  (aA (aQ (cY (LQ rG tU rg (cH (qD T ac) hr T.iX (zM (bF gE (bF gE rG tU) rg) (cH (vv T ac) hr T.kd (c6 cJ)) cJ)))))))))))),?_]
 left
 obtain dx|xa|xb|xc|gx|_:=id S;have d8:=D.n8;exists #[x,Z.Xg,dx,_,_,rfl,gx,T.Xm,T.Xu,fj,?_];exists #[x,a,c,mv.9,H0,mv,pt,lk,rfl,(),S,D,KF,λl1 R ps H1 n1 s1 G1 RR=>?_];have lR:=RR.1;have pR:=RR.le;exists #[x,mv.9,e,H0,mv,pt,lk,rfl,(),S.10 s1,D,F,UF,λl2 U H2 n2 s2 G2 UE=>?_];obtain Ro|po|pu|M|RO|RU|_:=id UE;have lU:=RU.1;have pU:=RU.le;have wR:=WR R ps RR;have wU:=WU Ro po U pu RO RU;have wNR:=wR.nulls RR;have wNU:=wU.nulls RU;have cR:=iS RR;have cU:=iS RU;exists #[l1,mv.9,928,H,R,rfl,G1.10 s2,(),(),RR.2.1,wR.ZY () (),λR' Xx h'=>by obtain rfl|rfl:=(ig RR).10 h';show wR.ok (),λr3 R' Xx H3 n3 s3 G3 h'=>?_];obtain rfl|rfl:=(ig RR).10 h';clear h';exists #[l2,mv.9,928,H1,U,rfl,G2.10 s3,(),(),RU.2.1,wU.ZY () (),λR' Xx h'=>by obtain rfl|rfl:=(ig RU).10 h';show wU.ok (),λr4 R' Xx H4 n4 s4 G4 h'=>?_];obtain rfl|rfl:=(ig RU).10 h';clear h';obtain v3|g3|q3|_:=id G3.58;obtain v4|g4|q4|_:=id G4.58;have lv3:=q3.9;have lv4:=q4.9;exists gC (s4 _ _ g3) g4 gU λl5 H5 s5 n5 g5=>?_
 have q5:=bD (bv (λ_ _ z=>cu.same z s4) q3) q4;have G5:aP K (λ_=>none) H5 l5 (aL R ps mv.9++aL U pu mv.9):=#[_,g5,bv (λ_ _ z=>cu.same z s5) q5,dZ #[_,n5,q5]]
 have wN:∀xs∈aL R ps mv.9++aL U pu mv.9,xs.9=mv.9:=λxs hx=>by
  rcases ao.mp hx with hx | hx <;> show fA xs hx
 have wdN:=wNR.app wNU;have y!:=s2.4 (s3.4 (s4.4 s5));have ZS:=s3.4 (s4.4 s5);clear q3 q4 q5 g3 g4 g5 G3 G4;exists #[l5,mv.9,_,_,_,rfl,G5,by rw[ai];lia,(),wN,wdN.ZY () (),λB pb h'=>(wdN.rr () () wN h').ok (),λl6 B pb H6 n6 s6 G6 RB=>?_];have cB:=iS RB;have wB:Wd (aL B pb mv.9) 14880:=(wdN.rr () () wN RB).nulls RB;have r!:∀xs∈aL B pb mv.9,xs.9=mv.9:=fA;generalize eBo:aL B pb mv.9=Bo at G6 cB wB r!;have app:∀{X Y:Xo},(∀xs∈X,xs.9=mv.9)->(∀xs∈Y,xs.9=mv.9)->∀xs∈X++Y,xs.9=mv.9:=λh1 h2 xs hx=>(ao.mp hx).55 (h1 xs) (h2 xs)
 have lt:∀{X:Xo},(aO X mv.9).9=mv.9:=b7;have ZT:=y!.4 s6;have s26:=ZS.4 s6;obtain us1|gu1|qu1|_:=id G1;obtain us2|gu2|qu2|_:=id G2;exists #[l6,l1,mv.9,_,H5,H,Bo,R,us1,cu K H H1,rfl,G6,G1.10 ZT,ZT _ _ gu1,qu1,(),(),(),app r! RR.2.1,((wB.app wR).turn (n:=mv.9)).ZY (by rw[lt];lia) (),λl7 T1 p1 z7 H7 n7 s7 RT1 g7 q7=>?_];have m1:=oz RT1;generalize eC:Ku (Bo++R) Bo.9 p1=C at q7 m1;have s17:=ZT.4 s7;have s27:=s26.4 s7;exists #[l6,l2,mv.9,_,H5,H1,Bo,U,us2,cu K H1 H2,rfl,G6.10 s7,G2.10 s27,s27 _ _ gu2,qu2,(),(),(),app r! RU.2.1,((wB.app wU).turn (n:=mv.9)).ZY (by rw[lt];lia) (),λl8 T2 p2 z8 H8 n8 s8 RT2 g8 q8=>?_];have m2:=oz RT2;generalize eH:Ku (Bo++U) Bo.9 p2=Hd at q8 m2;have s18:=s17.4 s8;have s28:=s27.4 s8;have Zz:=s7.4 s8;obtain v6|g6|q6|_:=id G6.58;have l6':=q6.9;have l7':=q7.9;have l8':=q8.9;have all:=F9 (app r! RR.2.1) (by rw[<- eBo];show nG RB) RT1;have all2:=F9 (app r! RU.2.1) (by rw[<- eBo];show nG RB) RT2
 have lC:C.9<=8:=by
  have:=fD.le all.1 (Y:=Bo++R) λxs hx=>all.2.mp (fD.row hx)
  rw[eC,ai,ai] at this
  lia
 have lH:Hd.9<=8:=by
  have:=fD.le all2.1 (Y:=Bo++U) λxs hx=>all2.2.mp (fD.row hx)
  rw[eH,ai,ai] at this
  lia
 clear all all2;exists gC (Zz _ _ g6) (s8 _ _ g7) gU λl9 H9 s9 n9 g9=>?_
 exists gC g9 (s9 _ _ g8) (cP (cV (by rw[ai];lia))) λla Ha sa na ga=>?_
 have _H:=s9.4 sa;have s1a:=s18.4 _H;have s2a:=s28.4 _H;have qa:Vs (cu K (λ_=>none) H9) (Bo++C++Hd) (v6++z7++z8):=bD (bD (bv (λ_ _ z=>cu.same z (Zz.4 s9)) q6) (bv (λ_ _ #[q,e,_,r]=>#[q,e,rfl,r.10 (s18.4 s9)]) q7)) (bv (λ_ _ #[q,e,_,r]=>#[q,e,rfl,r.10 (s28.4 s9)]) q8);have Ga:aP K (λ_=>none) Ha la (Bo++C++Hd):=#[_,ga,bv (λ_ _ z=>cu.same z sa) qa,dZ #[_,na,qa]];exists #[mv.9,rfl,(),λlb Hb nb sb Gb=>?_];obtain ub|gub|qub|_:=id Gb;have lub:(bT mv.9).9=mv.9:=by simp [bT]
 have wU1:∀xs∈bT mv.9,xs.9=mv.9:=λxs hx=>by
  obtain i|_|rfl:=au.mp hx;simp [jX]
 have wA:=app (app r! λxs hx=>RR.2.1 xs (m1 xs hx)) λxs hx=>RU.2.1 xs (m2 xs hx)
 have wdA:=((wB.app (wR.sub m1)).app (wU.sub m2)).app (Wd.unit (n:=mv.9));exists #[la,lb,mv.9,_,_,Ha,Bo++C++Hd,bT mv.9,ub,cu K Ha Hb,rfl,Ga.10 sb,Gb,gub,qub,by rw[ai,ai];lia,(),(),app wA wU1,(wdA.turn (n:=mv.9)).ZY (by rw[lt];lia) (),λlc T3 p3 zc Hc nc sc RT3 gc qc=>?_];exists cb λt He se ge=>?_
 have sce:=sc.4 se;have x!:=sb.4 sce;have Za:=_H.4 x!;have s1e:=s18.4 Za;have s2e:=s28.4 Za;have s6e:=Zz.4 Za;have s01:=s1.4 s2;have sHe:=s1.4 s1e;have FP:AE mv pt lk R U Bo C Hd (Ku (Bo++C++Hd++bT mv.9) (Bo++C++Hd).9 p3) ps pu:=#[RR,#[Ro,po,RO,RU],#[B,pb,RB,eBo.20],#[T1,p1,RT1,eC.20],#[T2,p2,RT2,eH.20],#[T3,p3,RT3,rfl],wR,wU];have H05:∀a,H5 a=none->H a=none:=λa h=>s1.17 (y!.17 h)
 have ap:=λa:Addr=>Iv (h:=H a=none) (h1:=H1 a=none) (h2:=H2 a=none) (h5:=H5 a=none) (h6:=H6 a=none) (h7:=H7 a=none) (h8:=H8 a=none) (ha:=Ha a=none) (hb:=Hb a=none) (e7:=a=l7) (e8:=a=l8) (e9:=a=lc) s1.17 s2.17 ZS.17 s6.17 s7.17 s8.17 _H.17 sb.17 (λe=>by subst e;show #[n7,by rw[g7];show λz=>nomatch z]) (λe=>by subst e;show #[n8,by rw[g8];show λz=>nomatch z]) (λe=>by subst e;show nc)
 refine k t R U Bo C Hd _ ps pu He sHe FP #[l6,l7,l8,lc,λa=>H5 a=none/\H6 a≠none,λa=>(H a=none/\H1 a≠none)\/a=l7,λa=>(H1 a=none/\H2 a≠none)\/a=l8,λa=>(Ha a=none/\Hb a≠none)\/a=lc,ge,Vn.elW (d:=.grid Bo) #[l6,rfl,n6,G6] s6e,CK n7 ZT s1e ((s8.4 Za) _ _ g7) q7,CK n8 s27 s2e (Za _ _ g8) q8,CK nc (aE.refl _) sce (se _ _ gc) qc,λa ha=>?_,ap];have nn:∀{Hx:Hp},aE Hx He->Hx a≠none->He a≠none:=λs h z=>h (s.17 z)
 rcases ha with ⟨h1,h2⟩ | (⟨h1,h2⟩ | rfl) | (⟨h1,h2⟩ | rfl) | (⟨h1,h2⟩ | rfl)
 ·show #[H05 a h1,nn s6e h2]
 ·show #[h1,nn s1e h2]
 ·show #[s1.17 (ZT.17 n7),nn (s8.4 Za) (by rw[g7];show λz=>nomatch z)]
 ·show #[s1.17 h1,nn s2e h2]
 ·show #[s1.17 (s17.17 n8),nn Za (by rw[g8];show λz=>nomatch z)]
 ·show #[s1.17 (s1a.17 h1),nn sce h2]
 ·show #[s1.17 (s1a.17 (sb.17 nc)),nn se (by rw[gc];show λz=>nomatch z)]
theorem oj:sC ["_law_thing","_law_part"] 1 kH:=by walk_at "d"
theorem vA (T:Txt K mg Z) (ac:bd P):T.ik.o P w base 2 (KO K):=by
 refine T.ik.F.k oj ?_;walk_at "i";obtain x|n|rfl|⟨p,rfl,hp⟩|hn|k:=h
 refine #[_,(av (c5 (PW.pt (mP (kI (je (qi rfl T.37 Ws T.45 bQ))) (jc (bf pA (bx aR (by rfl) T.38 aM (c6 bQ)) aw (bE _))))) (aA (aQ nQ)) bX)
  (av (fo VA rfl (C6 bQ) (eG 1 oj.nd)
   (aA (c5 (PW.pt (mP (kI (je (qi rfl T.37 VP T.int cJ))) (jc (je (qi rfl T.37 PyProof.Rows.boot_bool T.bool cJ))))) (aA (aQ nQ)) bX)))
  (aA (aQ (HU (jz zO (aZ bW bQ aw) aw (bE _)) (HR (jz (MO (Ac hr)) (cH (gK T ac) hr T.d4 (cK (aZ bW bQ aw) (aZ bW bQ aw))) bQ (bE _)))))))),?_]
 left
 obtain hb|hg|_|hs:=hn;exists .inr #[p,_,_,rfl,hp,rfl,?_];exists #[_,_,rfl,.inr hp,?_];walk_at "w"
 try refine Nh ?_
 exists #[#[_,hp],?_];refine yP (K:=K) (a:=p) (xs:=[.int n.1,.int n.2]) (λi σ' H'=>H'=H/\∃x,σ'=[some (.ref p),x]) #[rfl,none,rfl] (λi σ' H' _ #[e,_]=>by subst e;show hp) ?_ ?_
 ·rintro i x σ' H' hx ⟨rfl,y,rfl⟩
  obtain ⟨z,rfl⟩:∃z,x=V.int z:=by
   have hm:x∈[V.int n.1,V.int n.2]:=ar hx;simp only[aF,aS,or_false] at hm;rcases hm with e | e
   ·show #[_,e]
   ·show #[_,e]
  exists .inl #[_,_,.int z,rfl,?_];exists .inl #[_,_,.int z,rfl,?_];exists #[rfl,_,rfl]
 ·rintro σ' H' ⟨rfl,x,rfl⟩;walk_at "w";rw[decide_eq_true hb];exists #[n.1,n.2,rfl,hb,hs.22 (),λr H' s1 h'=>?_];obtain e1|e2:=Su hb hg;exists #[_,_,Uj,(lo n.1 n.2,hi n.1 n.2),n,(),#[r,rfl,kz.of h'],#[p,rfl,s1.Y9 hp],?_];rw[e1,e2,decide_eq_true rfl];show k _ s1
theorem zw:sC ["_law_thing","_law_many"] 2 oR:=by walk_at "d"
theorem zV (T:Txt K mg Z) (ac:bd P):T.kj.o P w base 3 (wM K):=by
 refine T.kj.F.k zw ?_;walk_at "i";obtain p|ns|rfl|hp|hl|hn|k:=h
 refine #[_,(av (c5 (PW.pt (mP (kI (je (xv rfl T.37 VF T.30 bQ))) (jc (bf pA (bx aR (by rfl) T.38 aM (c6 bQ)) cJ (bE _))))) (aA (aQ nQ)) bX)
  (aA (aQ (bx (Ar rfl) (by rfl) T.all PyProof.Rows.boot_all (c6 (bS ["_law_one"] [] [] (cg bQ) (λ_=>(eG 0)) (λ_=>bZ) (λ_=>(cH (vA T ac) hr T.ik (c6 bQ))))))))),?_]
 left
 obtain xs|gx|qx:=id hp;have lx:=qx.9;exists #[_,_,.lst gx,rfl,?_];exists #[_,_,rfl,.inl (bN.of gx),?_];walk_at "w";rw[show ((xs.9:Nat):Int)=(ns.9:Nat) by rw[lx],decide_eq_true rfl];exists #[#[_,bN.of gx],?_];refine dn (K:=K) (xs:=xs) (λi ys H'=>aE H H'/\ys=Vz i (.bl true)) gU #[aE.refl _,rfl] (λi ys H' _ #[s,_]=>bN.of (s _ _ gx)) ?_ ?_
 ·rintro i x ys H' hx Xv ⟨s,rfl⟩;obtain n|en|z:=cN qx hx;exists #[x,n,rfl,s.num z,hn n (ar en),λH2 s2=>#[s.4 s2,by rw[Ct]]]
 ·rintro ys H' hy ⟨s,rfl⟩ l YQ;exists #[l,Vz xs.9 true,rfl,bN.of (by rw[aK];simp),?_];have e4:(Vz xs.9 true).all id=true:=by simp
  rw[e4];show k _ (s.4 (aE.new YQ))
theorem yq:sC ["_law_thing","_law_many","_law_wide"] 3 nP:=by walk_at "d"
theorem yt (T:Txt K mg Z) (ac:bd P):T.jB.o P w base 4 (zh K):=by
 refine T.jB.F.k yq ?_;walk_at "i";obtain p|rows|m|rfl|hp|hl|hm|hn|k:=h
 refine #[_,(av (c5 (PW.pt (mP (kI (je (xv rfl T.37 VF T.30 bQ))) (jc (bf pA (bx aR (by rfl) T.38 aM (c6 bQ)) cJ (bE _))))) (aA (aQ nQ)) bX)
  (aA (aQ (bx (Ar rfl) (by rfl) T.all PyProof.Rows.boot_all (c6 (bS ["_law_row_here"] ["_law_wide"] [2] (cg bQ) (λ_=>(eG 0)) (λ_=>bZ) (λ_=>(cH (zV T ac) hr T.kj (cK bQ cJ))))))))),?_]
 left
 obtain xs|gx|qx:=id hp;have lx:=qx.9;exists #[_,_,.lst gx,rfl,?_];exists #[_,_,rfl,.inl (bN.of gx),?_];walk_at "w";rw[show ((xs.9:Nat):Int)=(rows.9:Nat) by rw[lx],decide_eq_true rfl];exists #[#[_,bN.of gx],?_];refine dn (K:=K) (xs:=xs) (λi ys H'=>aE H H'/\ys=Vz i (.bl true)) gU #[aE.refl _,rfl] (λi ys H' _ #[s,_]=>bN.of (s _ _ gx)) ?_ ?_
 ·rintro i x ys H' hx Xv ⟨s,rfl⟩;obtain ns|en|q|rfl|z:=cN qx hx;obtain e1|e2:=hn ns (ar en);exists #[q,ns,by rw[e1],z.10 s,(),e2,λH2 s2=>#[s.4 s2,by rw[Ct]]]
 ·rintro ys H' hy ⟨s,rfl⟩ l YQ;exists #[l,Vz xs.9 true,rfl,bN.of (by rw[aK];simp),?_];have e4:(Vz xs.9 true).all id=true:=by simp
  rw[e4];show k _ (s.4 (aE.new YQ))
theorem CQ:sC ["_law_one","_law_other"] 2 su:=by walk_at "d"
theorem Dk (T:Txt K mg Z) (ac:bd P):T.mY.o P w base 2 (y9 K):=by
 refine T.mY.F.ok CQ (λvs H Q E h=>?_) (λXG A outer s H vs Q E hr h=>?_)
 ·obtain p|q|a|b|c|d|rfl|hp|hq|hb|hd|hc|sa|sb|sc|sd|k:=Fh h;rfl
 ·obtain p|q|a|b|c|d|rfl|hp|hq|hb|hd|hc|sa|sb|sc|sd|k:=Fh h
  refine #[_,(av (c5 (bf tW (aZ bW cJ aw) aw (bE _)) (aA (aQ (cH (gK T ac) hr T.d4 (cK (bF jf aw (bF c4 (aZ bW bQ aw) (aZ bW cJ aw))) (bF jf aw (bF c4 (aZ bW bQ aw) (aZ bW cJ aw))))))) bX)
   (aA (aQ (cH (gK T ac) hr T.d4 (cK (bF c4 (aZ bW bQ aw) (aZ bW cJ aw)) (bF c4 (aZ bW bQ aw) (aZ bW cJ aw))))))),?_]
  refine pe (σ:=[some (.ref p),some (.ref q)]) rfl ?_
  try rw[gJ]
  have sbc:Sz 8999000 (b*c):=(sb.mul sc).22 ();exists jL (λh=>?_) (λh=>?_)
  ·have h0:c < 0:=of_decide_eq_true h;have hbc:b*c < 0:=uQ hb h0;exists gI (show gM _ _ from .inr #[_,_,sa,sd,()]) ?_;exists gI (show gM _ _ from .inr #[_,_,sb,sc,()]) ?_;exists #[_,_,rfl,(),by rw[Int.zero_sub];show sbc.neg,λr H' s' h'=>?_];show k r H' s' (by rw[if_pos h0,if_pos h0];show h')
  ·have h0:¬c < 0:=λz=>h (decide_eq_true z)
   have hbc:0 < b*c:=jx hb ();exists gI (show gM _ _ from .inr #[_,_,sa,sd,()]) ?_;exists gI (show gM _ _ from .inr #[_,_,sb,sc,()]) ?_;exists #[_,_,rfl,hbc,sbc,λr H' s' h'=>?_];show k r H' s' (by rw[if_neg h0,if_neg h0];show h')
theorem CW:sC ["_law_one","_law_other"] 2 sI:=by walk_at "d"
theorem Dq (T:Txt K mg Z) (ac:bd P):T.nh.o P w base 2 (pP K (λx y=>x - y)):=by
 refine T.nh.F.ok CW (λvs H Q E h=>?_) (λXG A outer s H vs Q E hr h=>?_)
 ·obtain p|q|a|b|c|d|rfl|hp|hq|hb|hd|sa|sb|sc|sd|k:=yI h;rfl
 ·obtain p|q|a|b|c|d|rfl|hp|hq|hb|hd|sa|sb|sc|sd|k:=yI h;refine #[_,(aA (aQ (cH (gK T ac) hr T.d4 (cK (bF jf (bF c4 (aZ bW bQ aw) (aZ bW cJ aw)) (bF c4 (aZ bW cJ aw) (aZ bW bQ aw))) (bF c4 (aZ bW bQ aw) (aZ bW cJ aw)))))),?_];refine pe (σ:=[some (.ref p),some (.ref q)]) rfl ?_
  try rw[gJ]
  have _y:0 < b*d:=jx hb hd;have Yh:Sz 8999000 (b*d):=(sb.mul sd).22 ();exists gI (show gM _ _ from .inr #[_,_,sa,sd,()]) ?_;exists gI (show gM _ _ from .inr #[_,_,sc,sb,()]) ?_;exists gI (show gM _ _ from .inr #[_,_,sb,sd,()]) ?_;walk_at "w";exists #[_,_,rfl,_y,Yh,k]
theorem AU:sC ["_law_one","_law_other"] 2 qg:=by walk_at "d"
theorem uc (T:Txt K mg Z) (ac:bd P):T.ju.o P w base 3 (BH K):=by
 refine T.ju.F.k AU ?_;walk_at "i";obtain p|q|xs|ys|rfl|hp|hq|hl|hz|h1|h2|kk:=h;refine #[_,(aA (aQ (bS ["_law_k"] ["_law_one","_law_other"] [0,1] (b8 rfl T.34 (c6 (bx aR (by rfl) T.38 aM (c6 bQ)))) (λ_=>(eG 0)) (λ_=>bZ) (λ_=>(cH (Dq T ac) hr T.nh (cK (aZ (gG K (by rfl)) cJ bQ) (aZ (gG K (by rfl)) eI bQ))))))),?_];left
 obtain us|gu|qu:=id hp;obtain ws|gw|qw:=id hq;have lu:=qu.9;exists #[_,_,rfl,.inl (bN.of gu),?_];exists #[(),(),?_];refine gH (n:=us.9) (cm K) (λi=>xs.3 i 0 - ys.3 i 0) () (λa b=>a.10 b) ?_ ?_
 ·rintro i H' NY NN hi s k1;have ix:i < xs.9:=()
  have iy:i < ys.9:=()
  obtain vx|ex|nx:=Fx (bv (λ_ _ z=>z.10 s) qu) ix;obtain vy|ey|ny:=Fx (bv (λ_ _ z=>z.10 s) qw) iy;exists cz (bN.of (s _ _ gu)) ex ?_;exists cz (bN.of (s _ _ gw)) ey ?_;exists #[_,_,_,_,rfl,nx,ny,h1 _ (getD_mem ix),h2 _ (getD_mem iy),λr3 H3 s3 n3=>k1 _ _ s3 n3]
 ·rintro Yc H' l YQ s g pr nx;show kk l H' YQ s #[Yc,g,by rw[Hr ()];rw[<- lu] at pr;show pr]
theorem eT:sC ["_law_rows","_law_wide","_law_left","_law_found","_law_place","_law_heads","_law_head"] 2 sJ:=by walk_at "d"
theorem gN (T:Txt K mg Z) (ac:bd P):T.dW.o P w base 4 (ze K):=by
 refine T.dW.F.k eT ?_;walk_at "i";obtain p|n|S|H0|rows|rfl|G|XY|XZ|hw|⟨e39,J,j0,aaH,aaI,jlw,jsz⟩|k:=h
 refine #[_,(av (eJ 2 eT.nd (bS ["_law_row_here"] [] [] (cg bQ) (λ_=>(eG 0)) (λ_=>bZ) (λ_=>(eZ (ia K (by rfl)) (by rfl) T.30 VF (c6 bQ)))))
  (av (eJ 3 eT.nd (fq iE))
  (av (fo VA rfl (b8 rfl T.34 (c6 cJ)) (eG 4 eT.nd)
   (av (iQ 5 ["_law_k"] ["_law_left","_law_place"] [2,4] eT.nd rfl rfl (b8 rfl T.34 (c6 (bx aR (by rfl) T.38 aM (c6 eI)))) (λ_=>(eG 0)) (λ_=>xu (bf (Dd K (by rfl) (Ac hr)) (aZ (gG K (by rfl)) (aZ (gG K (by rfl)) cJ bQ) eI) (cY (cK aw aw)) (bE _))) (λ_=>bQ))
  (aA (c5 (bf (uJ (Ac hr)) tU (fq iE) (bE _)) (av (eJ 6 eT.nd (vp cX PySem.F.slot_list_pop PySem.F.type_list_pop MX eI (c6 (aZ bV tU aw))))
  (av (eJ 6 eT.nd (cH (qF T ac) hr T.jJ (cK (cH (Dk T ac) hr T.mY (cK (cY (cK aw aw)) (aZ bV rg rG))) rg)))
  (av (eJ 2 eT.nd (bS ["_law_row_here"] ["_law_place","_law_head"] [4,6] (cg eI) (λ_=>(eG 0)) (λ_=>bZ) (λ_=>(cH (uc T ac) hr T.ju (cK bQ (cH (qF T ac) hr T.jJ (cK (aZ (gG K (by rfl)) bQ cJ) eI)))))))
  (av (iQ 3 ["_law_row_here"] ["_law_place","_law_head"] [4,6] eT.nd rfl rfl (cg ky) (λ_=>(eG 0)) (λ_=>bZ) (λ_=>(cH (uc T ac) hr T.ju (cK bQ (cH (qF T ac) hr T.jJ (cK (aZ (gG K (by rfl)) bQ cJ) eI))))))
  (aA (jy (vp cX dG dF kO ky (c6 rg)))))))) bX))))
  (aA (aQ ky))))),?_]
 left
 obtain xs|gx|qx|_:=id G;have szT:∀{D:Nat} {x:Rat},0 < D->D<=2^S->Tp D (2^S) x->pK x:=λh0 h1 t=>uo t h0 (ag h1 (ak () ())) (ak () ())
 have szP:∀{D D':Nat} {x y:Rat},0 < D->0 < D'->D<=2^S->D'<=2^S->Tp D (2^S) x->Tp D' (2^S) y->pK (x*y):=λh0 h0' h1 h1' t t'=>uo (t.mul t') (bY h0 h0') (ag (aI h1 h1') (by rw[<- bg];show ak () ())) (by rw[<- bg];show ak () ())
 exists #[#[_,bN.of gx],?_];refine cW (K:=K) (F:=cu K H0) (cu K H) id gx qx () (λa b=>a.10 b) (λa b=>a.10 b) ?_ ?_
 ·rintro i ns x H' NY NN en s ⟨u,rfl,_,zs,gz,qz⟩ k1;exists #[u,zs,rfl,.inl (bN.of gz),λl1 Ys=>?_];show k1 _ _ (aE.new Ys) #[l1,rfl,s.17 Ys,zs,aK,bv (λ_ _ z=>z.10 (aE.new Ys)) qz]
 rintro _D H1 L hL s1 g1 YJ Zb;rw[jw] at YJ Zb;have GL1:aP K H H1 L rows:=#[_D,g1,YJ,dZ Zb];exists dJ λfd H2 s2 nf gf=>?_
 have fdL:fd≠L:=λz=>by rw[z,g1] at nf;cases nf
 clear g1 YJ Zb;exists #[(),(),?_];refine fw (n:=n) (λP σ' H'=>aE H H'/\∃lp fp ls fs ps vs y1 y2 y3,σ'=[some (.ref p),some (.int n),some (.ref lp),some (.ref fp),y1,y2,y3]/\H lp=none/\H fp=none/\fp≠lp/\aP K H H' lp ls/\H' fp=some (.lst vs)/\Vs (oY K (λq=>(H q=none/\q≠fp)/\q≠lp) H') fs vs/\fs.9=ps.9/\J P (fs++ls) ps) #[s1.4 s2,L,fd,rows,[],[],[],_,_,_,rfl,hL,s1.17 nf,fdL,GL1.10 s2,gf,.nil,rfl,j0] ?_ ?_
 ·rintro P σ' H' hP ⟨s',lp,fp,ls,fs,ps,vs,y1,y2,y3,rfl,nlp,nfp,fl,GL,gv,pv,hf,JI⟩;have I:=jlw _ _ _ JI;have len:=I.38;rw[ai] at len;have wide:=I.wide;obtain us|gu|qu|nu:=id GL;have lu:=qu.9;have lv:=pv.length
  have szI:∀{i:Nat},i < rows.9->∀c,pK (a7 (fs++ls) i c):=λhi c=>by
   obtain D|D0|D1|D2:=jsz _ _ _ JI () _ hi;show szT D0 D1 (D2 c)
  have ez:∀i,(ls.11 λr=>r.3 P 0).3 i 0=a7 ls i P:=λi=>Sr
  exists #[_,_,rfl,.inl (bN.of gu),?_];rw[<- lu];exists #[(),(),?_];refine jM (n:=ls.9) (λi ys YS=>aE H' YS/\ys=ck (Fo (ls.11 λr=>r.3 P 0) i)) gU #[aE.refl _,rfl] ?_ ?_
  ·rintro i ys Hb hi Xv ⟨sb,rfl⟩;rw[lY];obtain xt|vt|et|M!|mt|qt|rfl|nqt|Rt:=fU (bv (λ_ _ z=>cu.same z sb) qu) hi;have wt:=wide xt (ao.mpr (.inr mt));obtain zs|gz|qz:=id Rt;obtain vx|ex|nx:=Fx qz (j:=P) ();have fx:(ls.11 λr=>r.3 P 0).3 i 0=xt.3 P 0:=by rw[ez];unfold a7;rw[aa (l:=ls),et];rfl
   exists cz (bN.of (sb _ _ gu)) (ee M!) ?_;exists cz (bN.of gz) ex ?_;exists cb λt0 Hc sc gc=>?_
   exists #[_,_,Kd,xt.3 P 0,0,(),nx.10 sc,cm.mk (q:=0) gc rfl,?_];by_cases e:xt.3 P 0=0
   ·rw[decide_eq_true e];exists #[sb.4 sc,?_];rw[yM,fx,if_neg (by simpa using e)]
   ·rw[decide_eq_false e];exists #[sb.4 sc,?_];rw[yM,fx,if_pos e];unfold ck;rw[bH];rfl
  rintro ys Hb hy ⟨sb,rfl⟩ hd hhd;have nzm:∀c,c∈Fo (ls.11 λr=>r.3 P 0) ls.9↔c < ls.9/\a7 ls c P≠0:=λc=>by rw[So,ez]
  generalize Fo (ls.11 λr=>r.3 P 0) ls.9=hs at hy hhd nzm;have sn:aE Hb (upd Hb hd (.lst (ck hs))):=aE.new hhd;have gh:(upd Hb hd (.lst (ck hs))) hd=some (.lst (ck hs)):=aK;generalize upd Hb hd (.lst (ck hs))=Hc at sn gh ⊢;have sbc:=sb.4 sn;exists dJ λem Hd sd nd gd=>?_
  exists #[_,_,Lc Nc,sY hs,sY [],(),tz (sd _ _ gh),tz gd,?_];have Yh:=sbc.4 sd;by_cases e0:hs=[]
  ·subst e0;rw[decide_eq_true rfl];exists #[s'.4 Yh,lp,fp,ls,fs,ps,vs,_,_,_,rfl,nlp,nfp,fl,GL.10 Yh,Yh _ _ gv,bv (λ_ _ z=>oY.same z Yh) pv,hf,aaH _ _ _ JI λi h1 h2=>?_];rw[ai] at h2;obtain ⟨j,rfl⟩:∃j,i=fs.9+j:=#[i - fs.9,()];rw[pH];by_cases z:a7 ls j P=0
   ·show z
   ·show absurd ((nzm j).mpr #[(),z]) (by simp)
  ·rw[decide_eq_false (λz=>e0 (Fz z))]
   obtain ⟨t,Z7,rfl⟩:∃t Z7,hs=t :: Z7:=by cases hs with
    | nil=>show absurd rfl e0
    | cons t r=>show #[t,r,rfl]
   obtain tl|Yr:=(nzm t).mp (.head _);have Zm:=Yh _ _ gu;obtain xt|vt|et|M!|mt|qt|rfl|nqt|Rt:=fU (bv (λ_ _ z=>cu.same z Yh) qu) tl;have ext:ls.3 t []=xt:=by rw[aa,et];rfl
   have b!:xt.3 P 0≠0:=by unfold a7 at Yr;rw[ext] at Yr;show Yr
   have wt:=wide xt (ao.mpr (.inr mt));have qtl:qt≠lp:=λz=>nu (by rw[<- z];show ar M!)
   exists #[.inl #[rfl,_,bN.of Zm],?_];exists cz (bN.of (sd _ _ gh)) (ee (j:=0) rfl) ?_;exists #[lp,us,t,t,_,rfl,rfl,Zm,(),(),PySem.StrLaws.seqIndex_nonneg () (),M!,?_];have s0e:aE H (upd Hd lp (.lst (us.23 t))):=(s'.4 Yh).46 nlp;obtain Yo|gu'|pu':=(GL.10 Yh).toE;have eus:Yo=us:=by rw[Zm] at gu';cases gu';rfl
   subst eus;have ple:Vs (oY K (λq=>H q=none/\q≠lp) (upd Hd lp (.lst (Yo.23 t)))) (ls.23 t) (Yo.23 t):=vq (bv (λ_ _ z=>oY.XA z Zm (λq h=>h.2)) pu') t;have gle:(upd Hd lp (.lst (Yo.23 t))) lp=some (.lst (Yo.23 t)):=aK;have gve:(upd Hd lp (.lst (Yo.23 t))) fp=some (.lst vs):=by rw[bA fl];show Yh _ _ gv
   have pve:Vs (oY K (λq=>(H q=none/\q≠fp)/\q≠lp) (upd Hd lp (.lst (Yo.23 t)))) fs vs:=bv (λ_ _ z=>oY.XA (oY.same z Yh) Zm (λq h=>h.2)) pv;have Re:dI K (upd Hd lp (.lst (Yo.23 t))) qt xt:=Rt.XA Zm qtl;generalize upd Hd lp (.lst (Yo.23 t))=He at s0e ple gle gve pve Re ⊢;clear pu' gu' Zm Rt;have I2:=aaI _ _ _ _ _ JI hf tl hP (by rw[ext];show b!);rw[ext] at I2
   have aag:∀r∈fs++ls,∃D:Nat,0 < D/\D<=2^S/\∀c,Tp D (2^S) (r.3 c 0):=λr hr=>by
    obtain i|hi|rfl:=aN hr;obtain D|D0|D1|D2:=jsz _ _ _ JI () i (by rw[ai] at hi;lia);refine #[D,D0,D1,λc=>?_];have:=D2 c;unfold a7 at this;rw[aa (l:=fs++ls),ae hi] at this;show this
   have v!:∀r∈fs++ls,∀y∈r,pK y:=λr hr y hy=>by
    obtain D|D0|D1|D2:=aag r hr;obtain c|hc|rfl:=aN hy;have:=D2 c;rw[aa,ae hc] at this;show szT D0 D1 this
   have mxt:xt∈fs++ls:=ao.mpr (.inr mt);have lu2:(oy P xt).9=n:=by unfold oy;rw[af];show wt
   obtain ⟨Du,Du0,Du1,Du2⟩:∃D:Nat,0 < D/\D<=2^S/\∀y∈oy P xt,Tp D (2^S) y:=by
    obtain D|D0|D1|D2:=jsz _ _ _ I2 () ps.9 ();refine #[D,D0,D1,λy hy=>?_];obtain c|hc|rfl:=aN hy;have:=D2 c;rw[cp,show ps.9=(fs.11 (yu P (oy P xt))).9+0 by rw[af];lia,pH] at this
    have e:a7 ([oy P xt]++(ls.23 t).11 (yu P (oy P xt))) 0 c=(oy P xt)[c]:=by
     change (oy P xt).3 c 0=_
     rw[aa,ae hc];rfl
    rw[e] at this;show this
   have szu:∀y∈oy P xt,pK y:=λy hy=>szT Du0 Du1 (Du2 y hy)
   have szp:∀r∈fs++ls,∀y∈oy P xt,pK (r.3 P 0*y):=λr hr y hy=>by
    obtain D|D0|D1|D2:=aag r hr;show szP D0 Du0 D1 Du1 (D2 P) (Du2 y hy)
   obtain zs|gz|qz:=id Re;obtain vx|ex|nx:=Fx qz (j:=P) ();have szx:pK (xt.3 P 0):=v! xt mxt _ (getD_in ());exists cb λtq Hf sf gf=>?_
   exists cz (bN.of (sf _ _ gz)) ex ?_;exists #[_,_,1,xt.3 P 0,rfl,cm.mk (q:=1) gf rfl,nx.10 sf,OA,szx,b!,λqr Hg sg nq=>?_];have sfg:=sf.4 sg;exists #[_,qt,1 / xt.3 P 0,xt,rfl,nq,OB szx b!,Re.same sfg,(),v! xt mxt,λur Hh nur sh Rur=>?_];have Rur:dI K Hh ur (oy P xt):=Rur;have _G:=sfg.4 sh;have s0h:=s0e.4 _G;have adt:H ur=none:=(s0e.4 sfg).17 nur;exists #[#[_,bN.of (_G _ _ gle)],?_];refine cW (K:=K) (F:=oY K (λq=>H q=none/\q≠lp)) (cu K H) (yu P (oy P xt)) (_G _ _ gle) (bv (λ_ _ z=>oY.same z _G) ple) (by rw[QX tl];lia) (λa b=>a.10 b) (λa b=>a.10 b) ?_ ?_
   ·rintro i ns x Hi NY NN en si ⟨q,rfl,nq0,Rq⟩ k1;have mn:ns∈fs++ls:=ao.mpr (.inr (Ti (ar en)));have wn:=wide ns mn;obtain zs2|gz2|qz2:=id Rq;obtain vx2|ex2|nx2:=Fx qz2 (j:=P) ();exists cz (bN.of gz2) ex2 ?_;exists #[_,ur,ns.3 P 0,oy P xt,rfl,nx2,v! ns mn _ (getD_in ()),Rur.10 si,(),szu,λb1 Hj nb1 sj Rb=>?_];exists #[q,b1,ns,_,rfl,Rq.10 sj,Rb,by rw[af];lia,(),v! ns mn,λy hy=>?_,λr2 Hk nr2 sk Rk=>?_]
    ·obtain y'|YY|rfl:=au.mp hy;show szp ns mn y' YY
    ·show k1 _ _ (sj.4 sk) #[r2,rfl,s0h.17 (si.17 (sj.17 nr2)),Rk]
   rintro yl Hk _p aaS sk gk prk nxk;have s0k:=s0h.4 sk;have Gk:aP K H Hk _p ((ls.23 t).11 (yu P (oy P xt))):=#[yl,gk,prk,dZ nxk];have Ruk:=Rur.10 sk;exists #[#[_,bN.of (sk _ _ (_G _ _ gve))],?_];refine cW (K:=K) (F:=oY K (λq=>(H q=none/\q≠fp)/\q≠lp)) (cu K Hk) (yu P (oy P xt)) (sk _ _ (_G _ _ gve)) (bv (λ_ _ z=>oY.same (oY.same z _G) sk) pve) () (λa b=>a.10 b) (λa b=>a.10 b) ?_ ?_
   ·rintro i ns x Hi NY NN en si ⟨q,rfl,nq0,Rq⟩ k1;have mn:ns∈fs++ls:=ao.mpr (.inl (ar en));have wn:=wide ns mn;obtain zs2|gz2|qz2:=id Rq;obtain vx2|ex2|nx2:=Fx qz2 (j:=P) ();exists cz (bN.of gz2) ex2 ?_;exists #[_,ur,ns.3 P 0,oy P xt,rfl,nx2,v! ns mn _ (getD_in ()),Ruk.10 si,(),szu,λb1 Hj nb1 sj Rb=>?_];exists #[q,b1,ns,_,rfl,Rq.10 sj,Rb,by rw[af];lia,(),v! ns mn,λy hy=>?_,λr2 Hl nr2 sl Rl=>?_]
    ·obtain y'|YY|rfl:=au.mp hy;show szp ns mn y' YY
    ·show k1 _ _ (sj.4 sl) #[r2,rfl,si.17 (sj.17 nr2),Rl]
   rintro yf Hl _h ZG sl gl prl nxl;have lyf:=prl.9;rw[af] at lyf;have aav:H _h=none:=s0k.17 ZG;have adB:H _p=none:=s0h.17 aaS;have fl2:_h≠_p:=λz=>by rw[z,gk] at ZG;cases ZG
   have urk:Hk ur≠none:=by obtain _|gg|_:=Ruk;rw[gg];show λz=>nomatch z
   have urf:ur≠_h:=λz=>urk (by rw[z];show ZG)
   have url:ur≠_p:=λz=>by obtain _|gg|_:=Rur;rw[z,aaS] at gg;cases gg
   exists #[.inl #[rfl,_,bN.of gl],?_];exists jQ gl (cV ()) ?_;refine #[(s0k.4 sl).46 aav,_p,_h,_,_,ps++[P],_,_,_,_,rfl,adB,aav,fl2,?_,aK,?_,by rw[ai,ai,af];change fs.9+1=ps.9+1;lia,I2]
   ·obtain ul|gul|pul:=Gk.toE;refine aP.ofE (P:=λq=>(H q=none/\q≠_p)/\q≠_h) (by rw[bA (Wc fl2)];show sl _ _ gul) (bv (λ_ _ #[q,e1,e2,e3]=>?_) pul) (λq h=>h.1.1) (λq h=>h.1.2);have qf:q≠_h:=λz=>by obtain _|gg|_:=e3;rw[z,ZG] at gg;cases gg
    show #[q,e1,#[e2,qf],(dI.same e3 sl).XA gl qf]
   ·have nn:=dZ nxl;refine bD (sR (λxs v hv #[q,e1,e2,e3]=>?_) prl) (.cons #[ur,rfl,#[#[adt,urf],url],(Ruk.10 sl).XA gl urf] .nil);have qf:q≠_h:=λz=>nn (by rw[<- z,<- e1];show hv)
    show #[q,e1,#[#[s0k.17 e2,qf],λz=>by rw[z,gk] at e2;cases e2],dI.XA e3 gl qf]
 ·rintro σ' H' ⟨s',lp,fp,ls,fs,ps,vs,y1,y2,y3,rfl,nlp,nfp,fl,GL,gv,pv,hf,JI⟩;have I:=jlw _ _ _ JI;have D:=I.done hw;rw[List.take_left' hf] at D;obtain km|_:=I.km;exists k fp fs ps H' nfp s' (aP.ofE gv pv (λq h=>h.1.1) (λq h=>h.1.2)) D km
theorem oo:sC ["_law_one","_law_other","_law_total","_law_k"] 2 uG:=by walk_at "d"
theorem yd (T:Txt K mg Z) (ac:bd P):T.mo.o P w base 3 (CG K):=by
 refine T.mo.F.k oo ?_;walk_at "i";obtain p|q|xs|ys|rfl|hp|hq|hl|hz|⟨k1,j1,k2,j2,h1,h2,hkj⟩|kk:=h
 refine #[_,(av (eJ 2 oo.nd (cY (cK aw aw)))
  (av (fo VA rfl (b8 rfl T.34 (c6 (bx aR (by rfl) T.38 aM (c6 bQ)))) (eG 3 oo.nd)
   (aA (eJ 2 oo.nd (cH (ot T ac) hr T.iJ (cK eI (cH (mS T ac) hr T.gQ (cK (aZ bV bQ ky) (aZ bV cJ ky))))))))
  (aA (aQ eI)))),?_]
 left
 obtain us|gu|qu:=id hp;obtain ws|gw|qw:=id hq;have lu:=qu.9;have lw:=qw.9;exists cb λr0 H0 s0 g0=>?_
 exists #[_,_,rfl,.inl (bN.of (s0 _ _ gu)),?_];exists #[(),(),?_];refine fw (n:=us.9) (λi σ' H'=>aE H H'/\∃(r:V) (v:Option V),σ'=[some (.ref p),some (.ref q),some r,v]/\cm K H' (cS (xs.21 i) (ys.21 i)) r) #[s0,_,none,rfl,cm.mk g0 rfl] ?_ ?_
 ·rintro i σ' H' hi ⟨s,r,v,rfl,hr⟩;have ix:i < xs.9:=()
  have iy:i < ys.9:=()
  obtain vx|ex|nx:=Fx (bv (λ_ _ z=>z.10 s) qu) ix;obtain vy|ey|ny:=Fx (bv (λ_ _ z=>z.10 s) qw) iy;exists cz (bN.of (s _ _ gu)) ex ?_;exists cz (bN.of (s _ _ gw)) ey ?_;exists #[_,_,_,_,rfl,nx,ny,h1.S! (getD_mem ix) (),h2.S! (getD_mem iy) (),λr3 H3 s3 n3=>?_];exists #[_,_,_,_,rfl,hr.10 s3,n3,NI h1 h2 hz i hkj,MV (h1.one (getD_mem ix)) (h2.one (getD_mem iy)) hkj,λr4 H4 s4 n4=>?_];exists #[(s.4 s3).4 s4,_,_,rfl,by rw[Cc ix iy];show n4]
 ·rintro σ' H' ⟨s,r,v,rfl,hr⟩;rw[aH (),aH ()] at hr;obtain t|rfl|ht:=hr;exists kk _ H' s #[t,rfl,ht]
theorem HK:sC ["_law_grid","_law_row_here"] 2 xl:=by walk_at "d"
theorem Ia (T:Txt K mg Z) (ac:bd P):T.qM.o P w base 4 (CF K):=by
 refine T.qM.F.k HK ?_;walk_at "i";obtain p|q|H0|rows|ys|rfl|hp|hq|hz|hl|_Y|kk:=h;refine #[_,(aA (aQ (bS ["_law_one"] ["_law_row_here"] [1] (cg bQ) (λ_=>(eG 0)) (λ_=>bZ) (λ_=>(cH (yd T ac) hr T.mo (cK bQ cJ)))))),?_];left
 obtain xs|gx|qx|_:=id hp;exists #[#[_,bN.of gx],?_];refine cW (K:=K) (F:=cu K H0) (cm K) (λxs=>cS xs ys) gx qx hz (λa b=>a.10 b) (λa b=>a.10 b) ?_ ?_
 ·rintro i ns x H' NY NN en s ⟨u,rfl,_,hu⟩ k;obtain e1|e2:=_Y ns (ar en);exists #[u,q,ns,ys,rfl,hu,hq.10 s,e1.20,(),e2,λr H2 s2 h2'=>k _ _ s2 h2']
 ·rintro Yc H' r hr s g pr nx;show kk r H' hr s #[Yc,g,pr]
theorem gZ:sC ["_law_parts_here","_law_steps","_law_rows","_law_some","_law_turn"] 2 qh:=by walk_at "d"
theorem A4 (T:Txt K mg Z) (ac:bd P):T.lO.o P w base 5 (BM K):=by
 refine T.lO.F.k gZ ?_;walk_at "i";obtain r|tt|H0|mv|pt|lk|rfl|hT|PQ|D|AF|k:=h
 refine #[_,(av (iQ 2 ["_law_row_here"] [] [] gZ.nd rfl rfl (cg (aZ bW bQ aw)) (λ_=>(eG 0)) (λ_=>bZ) (λ_=>(eZ (ia K (by rfl)) (by rfl) T.30 VF (c6 bQ))))
  (av (eJ 3 gZ.nd (fq iE))
  (av (fo VA rfl (b8 rfl T.34 (c6 cJ)) (eG 4 gZ.nd)
   (av (eJ 3 gZ.nd (bF gE ky eI))
  (aA (iQ 2 ["_law_row_here"] ["_law_parts_here"] [0] gZ.nd rfl rfl (cg eI) (λ_=>(eG 0)) (λ_=>bZ) (λ_=>(cH (Ia T ac) hr T.qM (cK (aZ (vH K (by rfl)) cJ aw) bQ)))))))
  (aA (aQ ky))))),?_]
 left
 have d1:=D.n8;have i4:=D.i4;obtain m|p|l|g|n1|n2|n3|Gm|Gp|Gl:=id PQ;obtain up|gp|qp|_:=id Gp;have lup:=qp.9;exists #[#[_,bN.of gp],?_];refine cW (K:=K) (F:=cu K H0) (cu K H) id gp qp () (λa b=>a.10 b) (λa b=>a.10 b) ?_ ?_
 ·rintro i ns x H' NY NN en s ⟨u,rfl,_,zs,gz,qz⟩ k1;exists #[u,zs,rfl,.inl (bN.of gz),λl1 Ys=>?_];show k1 _ _ (aE.new Ys) #[l1,rfl,s.17 Ys,zs,aK,bv (λ_ _ z=>z.10 (aE.new Ys)) qz]
 rintro _D H1 rq1 _Y s1 g1 YJ Zb;rw[jw] at YJ Zb;have G1:aP K H H1 rq1 pt:=#[_D,g1,YJ,dZ Zb];exists dJ λsm0 H2 s2 nf gf=>?_
 have Yv:=s1.4 s2;exists #[(),(),?_];refine fw (n:=tt) (λt σ' H'=>aE H H'/\∃rq sm y,σ'=[some (.ref r),some (.int tt),some (.ref rq),some (.ref sm),y]/\H sm=none/\aP K H H' sm (Xt mv pt t)/\aP K H H' rq (pt.11 (ph mv t))) #[Yv,rq1,sm0,_,rfl,s1.17 nf,#[[],gf,.nil,λz=>nomatch z],by rw[show pt.11 (ph mv 0)=pt from jw pt];show G1.10 s2] ?_ ?_
 ·rintro t σ' H' ht ⟨s',rq,sm,y,rfl,nsm,Gs,Gq⟩;obtain us|gu|pu|_:=id Gs;obtain zs|gz|qz|_:=id Gq;have lz:=qz.9;rw[af] at lz;have lu:=pu.9;rw[tE] at lu;have lb:t*pt.9<=20*4:=aI () i4;exists gC gu gz gU λcc H3 s3 nc gc=>?_
  have ek:Xt mv pt (t+1)=Xt mv pt t++pt.11 (ph mv t):=by
   rw[<- vW,Kt,List.flatten_append,vW];simp
  have Gc:aP K H H3 cc (Xt mv pt (t+1)):=by
   rw[ek];show #[_,gc,bv (λ_ _ z=>cu.same z s3) (bD pu qz),dZ #[H',nc,bD pu qz]]
  have XX:=s'.4 s3;have g3:=XX _ _ g;exists #[#[_,bN.of (s3 _ _ gz)],?_];refine cW (K:=K) (F:=cu K H) (cu K H) (og mv) (s3 _ _ gz) (bv (λ_ _ z=>cu.same z s3) qz) (by rw[af];lia) (λa b=>a.10 b) (λa b=>a.10 b) ?_ ?_
  ·rintro i ns v Ha NY NN en sa ⟨u,rfl,_,Ru⟩ k1;have mn:=ar en;obtain y0|D!|rfl:=au.mp mn;have wy:=D.pw y0 D!;have ga:=sa _ _ g3;exists #[m,u,H0,mv,_,rfl,(Gm.10 XX).10 sa,Ru,(),by rw[C5 wy];lia,λxs hx=>#[by rw[D.mw xs hx,C5 wy],((AF.row D.mw D.pw y0 D!)._C D.mw wy (show t<=tt by lia)).1 xs hx],λz Hj nz sj Rz=>k1 _ _ sj #[z,rfl,XX.17 (sa.17 nz),Rz]]
  ·rintro ys Hb rr hrr sb gb prb nxb;have e:(pt.11 (ph mv t)).11 (og mv)=pt.11 (ph mv (t+1)):=by rw[jE];rfl
   rw[e] at prb nxb;show #[XX.4 sb,rr,cc,_,rfl,s'.17 nc,Gc.10 sb,ys,gb,prb,dZ nxb]
 ·rintro σ' H' ⟨s',rq,sm,y,rfl,nsm,Gs,Gq⟩;exists k sm H' nsm s' Gs
theorem CU:sC ["_law_parts_here","_law_row_here"] 2 sD:=by walk_at "d"
theorem Dm (T:Txt K mg Z) (ac:bd P):T.m4.o P w base 4 (JF K):=by
 refine T.m4.F.k CU ?_;walk_at "i";obtain r|a|H0|mv|pt|lk|z|rfl|PQ|D|Rz|lz|ff|k:=h;refine #[_,(aA (aQ (bS ["_law_j"] ["_law_row_here","_law_parts_here"] [1,0] (b8 rfl T.34 (c6 (bx aR (by rfl) T.38 aM (c6 cJ)))) (λ_=>(eG 0)) (λ_=>bZ) (λ_=>(cH (yd T ac) hr T.mo (cK cJ (bS ["_law_some"] ["_law_j"] [0] (vn K (aZ (vH K (by rfl)) eI aw)) (λ_=>(eG 0)) (λ_=>bZ) (λ_=>(aZ (gG K (by rfl)) bQ cJ))))))))),?_];left
 have d8:=D.n8;obtain m|p|l|gt|mn|pn|ln|Gm|Gp|Gl:=id PQ;obtain um|gm|qm|_:=id Gm;obtain uz|gz|qz:=id Rz;have lum:=qm.9;have luz:=qz.9;exists #[_,_,rfl,.inl (bN.of gz),?_];rw[<- luz,lz];exists #[(),(),?_];refine gH (n:=mv.9) (cm K) (λj=>cS (mv.11 λxs=>xs.3 j 0) z) () (λa b=>a.10 b) ?_ ?_
 ·rintro j H' NY NN hj s' k1;have gt':=s' _ _ gt;exists #[#[_,bN.of (s' _ _ gm)],?_];refine cW (K:=K) (as:=mv) (F:=cu K H0) (cm K) (λxs=>xs.3 j 0) (s' _ _ gm) (bv (λ_ _ y=>cu.same y s') qm) () (λh s=>h.10 s) (λh s=>h.10 s) ?_ ?_
  ·rintro i xs x H2 NY2 NN2 ex s2 ⟨u,rfl,_,zs,gzs,qzs⟩ k2;have lx:=D.mw xs (ar ex);have lzs:=qzs.9;obtain w|v|e1|e2|_|nv:=fU qzs (i:=j) ();exists cz (bN.of gzs) (ee e2) ?_;refine k2 _ _ (aE.refl _) ?_;rw[aa,e1];show nv
  rintro ys H2 c nc s2 gc pc _;walk_at "w";have mc:(mv.11 λxs=>xs.3 j 0)∈aO mv mv.9:=ar (Ow hj);refine #[a,c,z,_,rfl,Rz.10 (s'.4 s2),#[ys,gc,pc],by rw[af,lz],(),(ff _ mc).20,λq H3 s3 N3=>?_];refine k1 _ _ (s2.4 s3) ?_;rw[Lj];show N3
 rintro ys H2 q nq s2 gq pq _;refine k q H2 nq s2 #[ys,gq,?_];have e:((aO mv mv.9).11 λys=>cS ys z)=(Vt mv.9).11 λj=>cS (mv.11 λxs=>xs.3 j 0) z:=by unfold aO;rw[jE];rfl
 rw[e];show pq
theorem gY:sC ["_law_parts_here","_law_steps","_law_rows","_law_some","_law_turn"] 2 p9:=by walk_at "d"
theorem A2 (T:Txt K mg Z) (ac:bd P):T.lG.o P w base 5 (JA K):=by
 refine T.lG.F.k gY ?_;walk_at "i";obtain r|tt|H0|mv|pt|lk|rfl|hT|PQ|D|AF|k:=h
 refine #[_,(av (iQ 2 ["_law_row_here"] [] [] gY.nd rfl rfl (cg (aZ bW bQ aw)) (λ_=>(eG 0)) (λ_=>bZ) (λ_=>(eZ (ia K (by rfl)) (by rfl) T.30 VF (c6 bQ))))
  (av (eJ 3 gY.nd (fq iE))
  (av (fo VA rfl (b8 rfl T.34 (c6 cJ)) (eG 4 gY.nd)
   (av (eJ 3 gY.nd (bF gE ky eI))
  (aA (iQ 2 ["_law_row_here"] ["_law_parts_here"] [0] gY.nd rfl rfl (cg eI) (λ_=>(eG 0)) (λ_=>bZ) (λ_=>(cH (Dm T ac) hr T.m4 (cK cJ bQ)))))))
  (aA (aQ ky))))),?_]
 left
 have d1:=D.n8;have i4:=D.o4;have lt:(aO mv mv.9).9=mv.9:=b7;have DT:=D.turn;have mwT:=DT.mw;have pwT:=DT.pw;obtain m|p|l|g|n1|n2|n3|Gm|Gp|Gl:=id PQ;obtain up|gp|qp|_:=id Gl;have lup:=qp.9;exists #[#[_,bN.of gp],?_];refine cW (K:=K) (F:=cu K H0) (cu K H) id gp qp () (λa b=>a.10 b) (λa b=>a.10 b) ?_ ?_
 ·rintro i ns x H' NY NN en s ⟨u,rfl,_,zs,gz,qz⟩ k1;exists #[u,zs,rfl,.inl (bN.of gz),λl1 Ys=>?_];show k1 _ _ (aE.new Ys) #[l1,rfl,s.17 Ys,zs,aK,bv (λ_ _ z=>z.10 (aE.new Ys)) qz]
 rintro _D H1 rq1 _Y s1 g1 YJ Zb;rw[jw] at YJ Zb;have G1:aP K H H1 rq1 lk:=#[_D,g1,YJ,dZ Zb];exists dJ λsm0 H2 s2 nf gf=>?_
 have Yv:=s1.4 s2;exists #[(),(),?_];refine fw (n:=tt) (λt σ' H'=>aE H H'/\∃rq sm y,σ'=[some (.ref r),some (.int tt),some (.ref rq),some (.ref sm),y]/\H sm=none/\aP K H H' sm (Xt (aO mv mv.9) lk t)/\aP K H H' rq (lk.11 (ph (aO mv mv.9) t))) #[Yv,rq1,sm0,_,rfl,s1.17 nf,#[[],gf,.nil,λz=>nomatch z],by rw[show lk.11 (ph (aO mv mv.9) 0)=lk from jw lk];show G1.10 s2] ?_ ?_
 ·rintro t σ' H' ht ⟨s',rq,sm,y,rfl,nsm,Gs,Gq⟩;obtain us|gu|pu|_:=id Gs;obtain zs|gz|qz|_:=id Gq;have lz:=qz.9;rw[af] at lz;have lu:=pu.9;rw[tE] at lu;have lb:t*lk.9<=20*4:=aI () i4;exists gC gu gz gU λcc H3 s3 nc gc=>?_
  have ek:Xt (aO mv mv.9) lk (t+1)=Xt (aO mv mv.9) lk t++lk.11 (ph (aO mv mv.9) t):=by
   rw[<- vW,Kt,List.flatten_append,vW];simp
  have Gc:aP K H H3 cc (Xt (aO mv mv.9) lk (t+1)):=by
   rw[ek];show #[_,gc,bv (λ_ _ z=>cu.same z s3) (bD pu qz),dZ #[H',nc,bD pu qz]]
  have XX:=s'.4 s3;have g3:=XX _ _ g;exists #[#[_,bN.of (s3 _ _ gz)],?_];refine cW (K:=K) (F:=cu K H) (cu K H) (og (aO mv mv.9)) (s3 _ _ gz) (bv (λ_ _ z=>cu.same z s3) qz) (by rw[af];lia) (λa b=>a.10 b) (λa b=>a.10 b) ?_ ?_
  ·rintro i ns v Ha NY NN en sa ⟨u,rfl,_,Ru⟩ k1;have mn:=ar en;obtain y0|D!|rfl:=au.mp mn;have wy:=D.lw y0 D!;have wyT:=pwT y0 D!;exists #[r,u,H0,mv,pt,lk,_,rfl,(PQ.10 XX).10 sa,D,Ru,by rw[C5 wyT,lt],λxs hx=>((AF.row mwT pwT y0 D!)._C mwT wyT (show t<=tt by lia)).1 xs hx,λz Hj nz sj Rz=>k1 _ _ sj #[z,rfl,XX.17 (sa.17 nz),Rz]]
  ·rintro ys Hb rr hrr sb gb prb nxb;have e:(lk.11 (ph (aO mv mv.9) t)).11 (og (aO mv mv.9))=lk.11 (ph (aO mv mv.9) (t+1)):=by rw[jE];rfl
   rw[e] at prb nxb;show #[XX.4 sb,rr,cc,_,rfl,s'.17 nc,Gc.10 sb,ys,gb,prb,dZ nxb]
 ·rintro σ' H' ⟨s',rq,sm,y,rfl,nsm,Gs,Gq⟩;exists k sm H' nsm s' Gs
theorem va:sC ["_law_rows","_law_n","_law_heads"] 2 sN:=by walk_at "d"
theorem vB (T:Txt K mg Z) (ac:bd P):T.kn.o P w base 1 (zj K):=by
 refine T.kn.F.k va ?_;walk_at "i";obtain p|n|H0|R|ps|rfl|G|XY|XZ|RR|k:=h
 refine #[_,(av (eJ 2 va.nd (bS ["_law_row_here"] [] [] (cg bQ) (λ_=>(eG 0)) (λ_=>bZ) (λ_=>(Sk K cX PySem.F.slot_list_index PySem.F.type_list_index MY (bS ["_law_one"] [] [] (vn K bQ) (λ_=>(eG 0)) (λ_=>bZ) (λ_=>(jz (Dd K (by rfl) (Ac hr)) bQ (cY (cK aw aw)) (bE _)))) (c6 nQ)))))
  (aA (aQ (bS ["_law_at"] ["_law_heads"] [2] (b8 rfl T.34 (c6 cJ)) (λ_=>(eG 0)) (λ_=>xu (bf (oU K (by rfl)) bQ cJ (by with_unfolding_all rfl))) (λ_=>bQ))))),?_]
 left
 obtain rows|RR:=RR;obtain vs|gv|qv|_:=id G;have lv:=qv.9;have lR:=RR.1;exists #[#[_,bN.of gv],?_];refine dn (K:=K) (xs:=vs) (λi ys H'=>aE H H'/\ys=ck (ps.21 i)) gU #[aE.refl _,rfl] (λi ys H' _ #[s,_]=>bN.of (s _ _ gv)) ?_ ?_
 ·rintro i v ys H' hx Xv ⟨s',rfl⟩;obtain row|er|u|rfl|_|Ru:=cN qv hx;have hi:i < ps.9:=by have:=(aB.mp er).1;lia
  have wr:=RR.2.1 row (ar er);have low:=RR.2.2.52 i hi;obtain us|gu|qu:=Ru.10 s';have lu:=qu.9;exists #[#[_,bN.of gu],?_];refine cW (K:=K) (as:=row) (F:=cm K) (λ_ b y=>y=V.bl b) (λy=>decide (y≠0)) gu qu () (λh s=>h.10 s) (λh _=>h) ?_ ?_
  ·rintro i2 c x H2 NY NN ec s2 nc k1;exists cb λt6 H6 s6 g6=>?_
   exists #[_,_,Kd,c,0,(),nc.10 s6,cm.mk (q:=0) g6 rfl,?_];refine k1 _ _ s6 ?_;rw[decide_not]
  rintro P! H2 l hl2 s2 g2 _N _;have ey:P!=(row.11 λy=>decide (y≠0)).11 V.bl:=zL _N;rw[ey] at g2;exists #[.inl #[rfl,_,bN.of g2],?_];walk_at "w"
  have at_:∀j,j < row.9->(row.11 λy=>decide (y≠0))[j]?=some (decide (a7 R i j≠0)):=λj hj=>by
   rw[az,ae hj,iK er,aa,ae hj];rfl
  have one:=RR.2.2.32 i hi i hi;rw[if_pos rfl] at one;refine #[l,_,true,ps.3 i 0,rfl,rfl,g2,by rw[at_ _ (),one];rfl,λj hj z=>?_,?_]
  ·rw[at_ j (),RR.2.2.lead i hi j hj] at z;show absurd z ()
  refine #[s'.4 s2,?_];rw[take_snoc (show ps[i]?=some (ps.3 i 0) by rw[aa,ae hi];rfl)];unfold ck;rw[bH];rfl
 rintro ys H1' hy ⟨s1',rfl⟩ l hl;rw[aH ()];have sn:aE H1' (upd H1' l (.lst (ck ps))):=aE.new hl;have g1:(upd H1' l (.lst (ck ps))) l=some (.lst (ck ps)):=aK;generalize upd H1' l (.lst (ck ps))=H1 at sn g1 ⊢;have s1:=s1'.4 sn;exists #[(),(),?_];refine jM (n:=n) (λi ys H'=>aE H1 H'/\ys=ck (dD ps i)) gU #[aE.refl _,rfl] ?_ ?_
 ·rintro i ys H' hi Xv ⟨s',rfl⟩;rw[lY];exists #[l,ck ps,rfl,.inl (bN.of (s' _ _ g1)),rfl,xD,?_];rw[Aa];by_cases e:i∈ps
  ·rw[decide_eq_true e];exists #[s',?_];rw[nW,if_neg (by simpa using e)]
  ·rw[decide_eq_false e,show (if true=true then !false else false)=true from rfl];exists #[s',?_];rw[nW,if_pos e];unfold ck;rw[bH];rfl
 ·rintro ys H2 hy ⟨s2,rfl⟩ r hr;show k r _ (s1.17 (s2.17 hr)) ((s1.4 s2).4 (aE.new hr)) aK
theorem CP:sC ["_law_n","_law_at"] 2 rZ:=by walk_at "d"
theorem Dj (T:Txt K mg Z) (ac:bd P):T.mX.o P w base 1 (Jw K):=by
 refine T.mX.F.k CP ?_;walk_at "i";obtain n|a|rfl|XZ|k:=h;refine #[_,(aA (aQ (bS ["_law_j"] ["_law_at"] [1] (b8 rfl T.34 (c6 bQ)) (λ_=>(eG 0)) (λ_=>bZ) (λ_=>(cY (cK (eZ nI (by rfl) T.int VP (c6 (jz gD bQ cJ (bE _)))) aw)))))),?_];left
 exists #[(),(),?_];refine gH (n:=n) (cm K) (λ(j:Nat)=>(((if decide ((j:Int)=(a:Int))=true then 1 else 0:Int)):Rat)) () (λa b=>a.10 b) ?_ ?_
 ·rintro j Hz NY2 NN2 hj sz k2;exists cb λt Hy sy gy=>?_
  show k2 _ _ sy (cm.mk gy rfl)
 ·rintro ys Hz t ht sz g pr nx
  have e:(Vt n).11 (λ(j:Nat)=>(((if decide ((j:Int)=(a:Int))=true then 1 else 0:Int)):Rat))=jX n ((a:Nat):Int):=by
   unfold jX;refine tu λj _=>?_
   by_cases q:(j:Int)=(a:Int)
   ·rw[if_pos (decide_eq_true q),if_pos q];rfl
   ·rw[if_neg (λz=>q (of_decide_eq_true z)),if_neg q];rfl
  rw[e] at pr;show k t Hz ht sz #[ys,g,pr]
theorem dX:sC ["_law_parts_here","_law_n","_law_rows","_law_heads","_law_found","_law_at","_law_row_here","_law_k"] 1 oO:=by walk_at "d"
theorem zS (T:Txt K mg Z) (ac:bd P):T.kg.o P w base 6 (Jv K):=by
 refine T.kg.F.k dX ?_;walk_at "i";obtain r|S|H0|mv|pt|lk|rfl|PQ|D|AD|LW|LN|k:=h
 refine #[_,(av (eJ 1 dX.nd (bx aR (by rfl) T.38 aM (c6 (aZ bW bQ aw))))
  (av (eJ 2 dX.nd (cH (gN T ac) hr T.dW (cK (cH (A2 T ac) hr T.lG (cK bQ cJ)) cJ)))
  (av (iQ 3 ["_law_at"] ["_law_rows","_law_n"] [2,1] dX.nd rfl rfl (b8 rfl T.34 (c6 cJ)) (λ_=>(eG 0)) (λ_=>xu (bf (oU K (by rfl)) bQ (cH (vB T ac) hr T.kn (cK cJ eI)) (by with_unfolding_all rfl))) (λ_=>bQ))
  (av (eJ 4 dX.nd (fq iE))
  (av (fo VA rfl (cg (cH (vB T ac) hr T.kn (cK eI cJ))) (eG 5 dX.nd)
   (av (eJ 6 dX.nd (cH (Dj T ac) hr T.mX (cK cJ tU)))
  (av (fo VA rfl (b8 rfl T.34 (c6 (bx aR (by rfl) T.38 aM (c6 eI)))) (eG 7 dX.nd)
   (aA (fR (cY (cK (bF jf aw (aZ bW (aZ bV (aZ bV eI Ez) tU) aw)) (aZ bW (aZ bV (aZ bV eI Ez) tU) aw))) (ib rg (aZ bV ky Ez) set_list))))
  (aA (jy (vp cX dG dF kO rG (c6 rg)))))))
  (aA (aQ (cH (gN T ac) hr T.dW (cK rG cJ))))))))),?_]
 left
 have n8:=D.n8;have o4:=D.o4;obtain m0|p0|l0|gr|_|_|_|Gm|_|_:=id PQ;obtain ms|gm|qm|_:=id Gm;have lm:=qm.9;exists #[_,_,rfl,.inl (bN.of gm),?_];rw[show ((ms.9:Nat):Int)=(mv.9:Int) by lia];exists #[r,mv.9,H0,mv,pt,lk,rfl,(),PQ,D,AD,λq H1 nq s1 G1=>?_];have et:(aO mv mv.9).9=mv.9:=b7;have wk:∀xs∈Xt (aO mv mv.9) lk mv.9,xs.9=mv.9:=dO et (λxs hx=>D.lw xs hx) _
 have lK:(Xt (aO mv mv.9) lk mv.9).9<=100:=by
  rw[tE];show ag (aI n8 o4) ()
 exists #[q,mv.9,S,H,_,rfl,G1,lK,(),wk,LW,λl R ps H2 nl s2 G2 RR _=>?_];have lR:=RR.1;have pl:=RR.le;have fl':=Ae (ps:=ps) (i:=mv.9);have Yv:=s1.4 s2;exists #[(),(),?_];refine jM (n:=mv.9) (λi ys H'=>aE H2 H'/\ys=ck (dD (dD ps mv.9) i)) gU #[aE.refl _,rfl] ?_ ?_
 ·rintro i ys H' hi Xv ⟨s',rfl⟩;rw[lY];exists #[l,mv.9,H1,R,ps,rfl,G2.10 s',(),(),#[_,RR],λf1 H3 nf s3 g3=>?_];exists #[f1,ck (dD ps mv.9),rfl,.inl (bN.of g3),rfl,xD,?_];rw[Aa];by_cases e:i∈dD ps mv.9
  ·rw[decide_eq_true e];exists #[s'.4 s3,?_];rw[nW,if_neg (by simpa using e)]
  ·rw[decide_eq_false e,show (if true=true then !false else false)=true from rfl];exists #[s'.4 s3,?_];rw[nW,if_pos e];unfold ck;rw[bH];rfl
 rintro ys H3' hy ⟨s3',rfl⟩ hl hhl;rw[Uw RR];have sn:aE H3' (upd H3' hl (.lst (ck ps))):=aE.new hhl;have gh:(upd H3' hl (.lst (ck ps))) hl=some (.lst (ck ps)):=aK;generalize upd H3' hl (.lst (ck ps))=H3 at sn gh ⊢;have s23:=s3'.4 sn;have XX:=Yv.4 s23;exists dJ λfl H4 s4 nfl gfl=>?_
 exists #[l,mv.9,H1,R,ps,rfl,(G2.10 s23).10 s4,(),(),#[_,RR],λfr H5 nfr s5 g5=>?_];have aeY:=s5 _ _ gfl;have frl:fr≠fl:=λz=>by rw[z,gfl] at nfr;cases nfr
 obtain vs|gv|qv|_:=G2.10 s23;have lv:=qv.9;exists #[#[_,bN.of g5],?_];refine mB (K:=K) (a:=fr) (xs:=ck (dD ps mv.9)) (λi σ' H'=>aE H3 H'/\rn (λq=>q=fl) H5 H'/\(∃y1 y2 y3,σ'=[some (.ref r),some (.int mv.9),some (.ref l),some (.ref hl),some (.ref fl),y1,y2,y3])/\∃ys,H' fl=some (.lst ys)/\Vs (Vh K H fl H') (((dD ps mv.9).21 i).11 (sW R ps mv.9)) ys) #[s4.4 s5,rn.of (aE.refl _),#[_,_,_,rfl],[],aeY,.nil] (λi σ' H' _ #[_,kp,_]=>bN.of (kp _ _ g5 λz=>absurd z frl)) ?_ ?_
 ·rintro i v σ' H' hv ⟨sH,kp,⟨y1,y2,y3,rfl⟩,ys,gys,pr⟩;obtain a|ea|rfl:=vC hv;have ma:=ar ea;obtain an|ap:=ko.mp ma;have il:=(aB.mp ea).1;exists #[mv.9,a,rfl,(),λu H6 nu s6 R6=>?_];rw[<- JY (R:=R) (ps:=ps)] at R6;have ul:u≠fl:=λz=>by rw[z,gys] at nu;cases nu
  have Z!:=sH.4 s6;exists #[_,_,rfl,.inl (bN.of (Z! _ _ gv)),?_];rw[show ((vs.9:Nat):Int)=(ps.9:Int) by lia];exists #[(),(),?_];refine fw (n:=ps.9) (λj σ' H7=>aE H' H7/\(∃y,σ'=[some (.ref r),some (.int mv.9),some (.ref l),some (.ref hl),some (.ref fl),some (.int a),some (.ref u),y])/\dI K H7 u (Ic R ps mv.9 a j)) #[s6,#[_,rfl],R6] ?_ ?_
  ·rintro j σ' H7 hj ⟨s7,⟨y,rfl⟩,R7⟩;have s37:=sH.4 s7;obtain row|vr|er|ev|mr|q'|rfl|_|Rr:=fU (bv (λ_ _ z=>cu.same z s37) qv) (i:=j) ();have wr:=RR.2.1 row mr;obtain zs|gz|qz:=id Rr;obtain vx|evx|nvx:=Fx qz (j:=a) ();obtain tq|rfl|sq:=id nvx;have gv7:=s37 _ _ gv;have gh7:=s37 _ _ gh
   have eh:(ck ps)[j]?=some (V.int (ps.3 j 0)):=by
    unfold ck;rw[az,ae hj,aa,ae hj];rfl
   exists cz (bN.of gv7) (ee ev) ?_;exists cz (bN.of gz) evx ?_;exists cz (bN.of gv7) (ee ev) ?_;exists cz (bN.of gz) evx ?_;exists cb λt8 H8 s8 g8=>?_
   have n8':cm K H8 (-(row.3 a 0)) (.ref t8):=cm.mk g8 Pq;obtain ws|gw|qw:=R7.10 s8;have lw:=qw.9;rw[iF] at lw;have low:=RR.2.2.52 j hj;exists cz (bN.of (s8 _ _ gh7)) (ee eh) ?_;exists fz gw (fK ()) rfl ?_;refine #[(s7.4 s8).46 nu,#[_,rfl],?_];rw[<- JZ RR hj ap,iK er];show #[_,aK,kJ (bv (λ_ _ z=>cm.XA z gw) qw) _ (n8'.XA gw)]
  rintro σ' H7 ⟨s7,⟨y,rfl⟩,R7⟩;have ZK:=s7 _ _ gys;have lys:=pr.9;rw[af,bU] at lys;exists #[.inl #[rfl,_,bN.of ZK],?_];exists jQ ZK (cV ()) ?_;refine #[(sH.4 s7).46 nfl,(kp.4 (rn.of s7)).4 (rn.set ZK rfl),#[_,_,_,rfl],_,aK,?_];rw[take_snoc ea,bH];refine bD (bv (λ_ _ #[q,e,nq',ne,Rq]=>#[q,e,nq',ne,(Rq.10 s7).XA ZK ne]) pr) (.cons #[u,rfl,XX.17 (sH.17 nu),ul,R7.XA ZK ul] .nil)
 rintro σ' H6 ⟨sH,kp,⟨y1,y2,y3,rfl⟩,ys,gys,pr⟩;rw[aH (by rw[mh];show aj _)] at pr;obtain S'|LS:=LN R ps RR;have nc:=iS RR
 have Gf:aP K H H6 fl (aL R ps mv.9):=#[ys,gys,bv (λ_ _ #[q,e,nq',_,Rq]=>#[q,e,nq',Rq]) pr,λz=>by
  obtain _|_|q|e|_|ne|_:=cM pr z;cases e;show ne rfl]
 exists #[fl,mv.9,S',H,_,rfl,Gf,(),(),fA,LS,λr9 U pu H9 n9 s9 G9 RN _=>?_];have s09:=XX.4 (sH.4 s9);show k r9 R ps U pu H9 RR RN ((XX.4 sH).17 n9) s09 (G9.YT λq h=>(XX.4 sH).17 h)
theorem uw:sC ["grid","many","joined"] 1 xi:=by walk_at "d"
theorem HY (T:Txt K mg Z) (ac:bd P):T.qK.o P w base 6 (xX K):=by
 refine T.qK.F.k uw ?_;walk_at "i";obtain p|n|w|H0|A|rfl|G|SA|n40|F|k1|k2:=h
 refine #[_,(av (eJ 1 uw.nd (bx aR (by rfl) T.38 aM (c6 bQ)))
  (av (eJ 2 uw.nd (cH (qB T ac) hr T.jH (cK (bS ["row","unit"] [] [] (yJ rfl T.zip (cK bQ (cH (vv T ac) hr T.kd (c6 cJ)))) (λ_=>(vo K 2 (cZ (eG 0) (cZ (eG 1) kZ)))) (λ_=>bZ) (λ_=>(bF gE bQ cJ))) (bF c4 aw cJ))))
  (av (c5 (bf (uJ (Ac hr)) (cH (uK T ac) hr T.kR (c6 eI)) (C8 rfl T.30 rfl T.34 (c6 cJ)) (bE _)) (aA (aQ C7)) bX)
  (aA (aQ (bS ["row"] ["many"] [1] (cg eI) (λ_=>(eG 0)) (λ_=>bZ) (λ_=>(sQ (zo K (by rfl)) bQ (vh cJ) vm)))))))),?_]
 left
 obtain lA|wA:=id SA;obtain xs|gx|qx|_:=id G;have lx:=qx.9;obtain lU|wU:=wo (n:=n);have lj:(pC A (bT n)).9=n:=by rw[xH (),lA]
 exists #[_,_,rfl,.inl (bN.of gx),?_];rw[show ((xs.9:Nat):Int)=((n:Nat):Int) by lia];exists #[n,rfl,(),λu H1 nu s1 U1=>?_];obtain us|gu|qu|_:=id U1;have lu:=qu.9;exists #[#[_,bN.of (s1 _ _ gx)],#[_,bN.of gu],?_];refine Ap (K:=K) (xs:=xs) (ws:=us) (λi ys H'=>aE H1 H'/\Vs (cu K H H') ((pC A (bT n)).21 i) ys) gU () #[aE.refl _,.nil] (λi ys H' _ #[s,_]=>#[bN.of (s _ _ (s1 _ _ gx)),bN.of (s _ _ gu)]) ?_ ?_
 ·rintro i v1 v2 ys H' r h1 h2 hy ⟨s,pr⟩ hr;obtain row|er|a1|rfl|_|Ra:=cN qx h1;obtain un|eu|a2|rfl|_|Ru:=cN qu h2;have wr:=wA row (ar er);have wn:=wU un (ar eu);have sr:aE H' (upd H' r (.tup [.ref a1,.ref a2])):=aE.new hr;have gr:(upd H' r (.tup [.ref a1,.ref a2])) r=some (.tup [.ref a1,.ref a2]):=aK;generalize upd H' r (.tup [.ref a1,.ref a2])=H2 at sr gr ⊢;have s2:=s.4 sr;obtain zs|gz|qz:=Ra.10 (s1.4 s2);obtain Yc|gy|qy:=Ru.10 s2;have lz:=qz.9;have ly:=qy.9;exists gC gz gy gU λl2 H4 s4 n4 g4=>?_
  refine #[s2.4 s4,?_];rw[take_snoc (Ng er eu)];show bD (bv (λ_ _ z=>cu.same z (sr.4 s4)) pr) (.cons #[l2,rfl,(s1.4 s2).17 n4,_,g4,bv (λ_ _ z=>cm.same z s4) (bD qz qy)] .nil)
 rintro ys H2 hy ⟨s2,pr⟩ l hl;have sn:aE H2 (upd H2 l (.lst ys)):=aE.new hl;have gn:(upd H2 l (.lst ys)) l=some (.lst ys):=aK;rw[aH ()] at pr;generalize upd H2 l (.lst ys)=H3 at sn gn ⊢;have GJ:aP K H H3 l (pC A (bT n)):=xJ pr sn hl gn;have XX:=s1.4 (s2.4 sn);walk_at "w";rw[show (2*(n:Int))=((n+n:Nat):Int) by lia];refine #[l,n+n,w,H,_,rfl,GJ,(),(),DA wA wU,F,λjd R ps M H4 nj s4 G4 RR pm M0 M1 tM=>?_];rw[lj,show min n (n+n)=n by lia] at M1 tM;rw[lj] at pm;have s04:=XX.4 s4;have lR:=RR.1;have wR:=RR.2.1;exists #[jd,n+n,H3,R,ps,rfl,G4,(),(),#[_,RR],λle H5 nle s5 g5=>?_];walk_at "w";unfold yY;exists #[(),λrl H6 s6 n6 g6=>?_];have z!:=(s04.4 s5).4 s6;exists #[_,_,Lc Nc,sY ps,sY (Vt n),(),tz (s6 _ _ g5),tz g6,?_];by_cases e:ps=Vt n
 ·subst e;rw[decide_eq_true rfl];obtain vs|gv|qv|_:=G4.10 (s5.4 s6);have lv:=qv.9;rw[bG] at lR;exists #[#[_,bN.of gv],?_];refine dn (K:=K) (xs:=vs) (λi ys H'=>aE H6 H'/\Vs (cu K H H') ((R.11 λxs=>xs.47 n).21 i) ys) gU #[aE.refl _,.nil] (λi ys H' _ #[s,_]=>bN.of (s _ _ gv)) ?_ ?_
  ·rintro i v ys H' hx Xv ⟨s',pr⟩;obtain row|er|q|rfl|_|Rr:=cN qv hx;have wr:=wR row (ar er);obtain zs|gz|qz:=Rr.10 s';have lz:=qz.9;exists C3 (bN.of gz) λl3 H8 s8 n8 g8=>?_
   rw[NR] at g8;refine #[s'.4 s8,?_];rw[take_snoc (show (R.11 λxs=>xs.47 n)[i]?=some (row.47 n) by rw[az,er];rfl)];show bD (bv (λ_ _ z=>cu.same z s8) pr) (.cons #[l3,rfl,z!.17 (s'.17 n8),_,g8,bv (λ_ _ z=>cm.same z s8) (tV qz n)] .nil)
  rintro ys3 H7 hy3 ⟨s7,_M⟩ l3 hl3;have sn3:aE H7 (upd H7 l3 (.lst ys3)):=aE.new hl3;rw[aH (by rw[af];lia)] at _M;have s07:=z!.4 s7;refine k1 l3 R M _ RR (s07.17 hl3) (s07.4 sn3) (xJ _M sn3 hl3 aK) M0 M1 λxs hx x Xq=>?_
  obtain y|hy|rfl:=au.mp hx;show tM y hy x (List.mem_of_mem_drop Xq)
 ·rw[decide_eq_false (λz=>e (Fz z))];exists k2 R ps H6 RR pm e z!
theorem tQ:sC ["one","other","wide","columns"] 3 pY:=by walk_at "d"
theorem tX (T:Txt K mg Z) (ac:bd P):T.jo.o P w base 6 (zi K):=by
 refine T.jo.F.k tQ ?_;walk_at "i";obtain p|q|w|H0|H1|one|other|rfl|hp|hq|z1|z2|hw|h1|h2|kk:=h
 refine #[_,(av (eJ 3 tQ.nd (cH (j9 T ac) hr T.fu (cK cJ eI)))
  (aA (aQ (bS ["line"] ["columns"] [3] (cg bQ) (λ_=>(eG 0)) (λ_=>bZ) (λ_=>(cH (qC T ac) hr T.jI (cK cJ bQ))))))),?_]
 left
 exists #[q,w,H1,other,rfl,hq,z2,hw,h2,λc H2 nc s2 hc=>?_];obtain xs|gx|qx|_:=hp.10 s2;exists #[#[_,bN.of gx],?_];refine cW (K:=K) (F:=cu K H0) (cu K H) (λxs=>(aO other w).11 λys=>cS ys xs) gx qx z1 (λa b=>a.10 b) (λa b=>a.10 b) ?_ ?_
 ·rintro i ns x H3 NY NN en s3 ⟨u,rfl,_,hu⟩ k;obtain e1|e2:=h1 ns (ar en);exists #[c,u,H,aO other w,ns,rfl,hc.10 s3,hu,by simp [aO];lia,(),λys hy=>#[?_,e2 ys hy],λr H4 nr s4 hr=>k _ _ s4 #[r,rfl,s2.17 (s3.17 nr),hr]];obtain j|_|rfl:=au.mp hy;rw[af];show e1.20
 ·rintro Yc H3 r hr s3 g pr nx;show kk r H3 (s2.17 hr) (s2.4 s3) #[Yc,g,pr,dZ nx]
theorem jO:sC ["system","rows","wide","to_state","to_numbers","move","put"] 2 uC:=by walk_at "d"
theorem Fm (T:Txt K mg Z) (ac:bd P):T.ow.o P w base 7 (EW K Z.Xg):=by
 refine T.ow.F.k jO ?_;walk_at "i";obtain x|r|w|H0|H1|mv|pt|lk|rows|inv|rfl|S|D|G|hR|sw|iv|hi|F|kQ:=h
 refine #[_,(av (eJ 2 jO.nd (dB bQ rfl))
  (av (eJ 3 jO.nd (cH (j9 T ac) hr T.fu (cK cJ eI)))
  (av (eJ 4 jO.nd (cH (HY T ac) hr T.qK (c6 ky)))
  (av (c5 (bf Sl rG C7 (bE _)) (aA JV) bX)
  (av (eJ 5 jO.nd (cH (tX T ac) hr T.jo (zM (cH (tX T ac) hr T.jo (zM rG (dB bQ rfl) eI)) ky eI)))
  (av (iQ 6 ["row"] ["to_numbers"] [4] jO.nd rfl rfl (cg (dB bQ rfl)) (λ_=>(eG 0)) (λ_=>bZ) (λ_=>(cH (qC T ac) hr T.jI (cK cJ bQ))))
  (aA (aQ (yK T.XC (gO T ac) (hr.22 ()) rfl T.XD T.fL .nil zJ (zM tU rg (bS ["row"] ["rows"] [1] (cg (dB bQ rfl)) (λ_=>(eG 0)) (λ_=>bZ) (λ_=>(cH (qC T ac) hr T.jI (cK cJ bQ)))))))))))))),?_]
 left
 obtain dx|xa|xb|xc|gx|n1|n2|n3|Ga|Gb|Gc:=id S;have d1:=D.n8;have d2:=D.i4;have d3:=D.o4;have lr:=hR.1;exists #[x,Z.Xg,dx,_,_,rfl,gx,T.Xm,T.Xu,fj,?_];exists #[r,mv.9,H1,rows,rfl,G,(),(),hR.2,λt H2 n2' s2 Gt=>?_];exists #[t,mv.9,w,H,aO rows mv.9,rfl,Gt,oZ hR,(),sw,λi R M H3 RR ni s3 Gi M0 M1' tp=>?_,λR ps H3 RR _ ne s3=>absurd (iv R ps RR).1 ne];rw[(iv _ _ RR).2] at Gi;have D':=yO D hi hR;have li:=hi.1;have _J:=s2.4 s3;have gx3:=_J _ _ gx;have Ga3:=Ga.10 _J;exists #[rfl,?_];rw[decide_eq_false (λz=>nomatch z)];exists #[x,Z.Xg,dx,_,_,rfl,gx3,T.Xm,T.XH,uT,?_];exists #[i,xa,mv.9,H2,H0,inv,mv,rfl,Gi,Ga3,(),(),(),λxs hx=>#[hi.2 xs hx,λys hy=>F.f1 xs hx ys hy],D.mw,λm1 H4 n4 s4 G4=>?_];exists #[m1,t,mv.9,H3,H,iC inv mv mv.9,aO rows mv.9,rfl,G4,(Gt.same s3).10 s4,by unfold iC;rw[af];lia,by rw[b7];lia,(),λxs hx=>#[by rw[Qf xs hx,b7],F.f2 xs hx],(oZ hR).2,λm2 H5 n5 s5 G5=>?_];have s35:=s4.4 s5;have y!:=_J.4 s35;have gx5:=y! _ _ gx;have Gi5:=Gi.10 s35;obtain bs|gb|qb|_:=Gb.10 y!;have lb:=qb.9;exists #[x,Z.Xg,dx,_,_,rfl,gx5,T.Xm,T.XQ,uS,?_];exists #[#[_,bN.of gb],?_];refine cW (K:=K) (as:=pt) (F:=cu K H0) (cu K H5) (λxs=>inv.11 λr=>cS r xs) gb qb () (λa b=>a.10 b) (λa b=>a.10 b) ?_ ?_
 ·rintro j xs y H6 NY NN ex s6 ⟨u,rfl,_,Ru⟩ k1;have mx:=ar ex;exists #[i,u,H2,inv,xs,rfl,Gi5.10 s6,Ru,(),by rw[D.pw xs mx];lia,λzs hz=>#[by rw[hi.2 zs hz,D.pw xs mx],F.f3 xs mx zs hz],λv H7 n7 s7 R7=>?_];show k1 _ _ s7 #[v,rfl,s6.17 n7,R7]
 rintro ysP H6 pp np s6 gp prp nxp;have Gp:aP K H5 H6 pp (Im inv pt):=#[ysP,gp,prp,dZ nxp];clear gp prp nxp gb qb lb;have ZT:=y!.4 s6;have gx6:=ZT _ _ gx;obtain cs|gc|qc|_:=Gc.10 ZT;have lc:=qc.9;exists #[x,Z.Xg,dx,_,_,rfl,gx6,T.Xm,T.XI,uU,?_];exists #[#[_,bN.of gc],?_];refine cW (K:=K) (as:=lk) (F:=cu K H0) (cu K H6) (λxs=>rows.11 λr=>cS r xs) gc qc () (λa b=>a.10 b) (λa b=>a.10 b) ?_ ?_
 ·rintro j xs y H7 NY NN ex s7 ⟨u,rfl,_,Ru⟩ k1;have mx:=ar ex;exists #[r,u,H1,rows,xs,rfl,(G.10 ZT).10 s7,Ru,(),by rw[D.lw xs mx];lia,λzs hz=>#[by rw[hR.2 zs hz,D.lw xs mx],F.f4 xs mx zs hz],λv H8 n8 s8 R8=>?_];show k1 _ _ s8 #[v,rfl,s7.17 n8,R8]
 rintro ysL H7 ll nl s7 gl prl nxl;have Gl:aP K H6 H7 ll (lk.11 λxs=>rows.11 λr=>cS r xs):=#[ysL,gl,prl,dZ nxl];clear gl prl nxl gc qc lc;have s17:=ZT.4 s7;walk_at "w";intro z' dz nz ndz nez;show #[z',dz,m2,pp,ll,H7,H4,H5,H6,_,_,_,rfl,nz,ndz,nez,rfl,(G5.10 s6).10 s7,Gp.10 s7,Gl,D',F.g1,F.g2,F.g3,λH9 s9 S9=>#[rfl,kQ z' H9 (s17.4 s9) (S9.44 s17)]]
theorem yp:sC ["rows","many"] 2 nO:=by walk_at "d"
theorem mM (T:Txt K mg Z) (ac:bd P):T.fH.o P w base 1 (JM K):=by
 refine T.fH.F.k yp ?_;walk_at "i";obtain p|m|H0|rows|rfl|G|XY|wm|k:=h;refine #[_,(aA (aQ (bS ["row"] ["many"] [1] (cg bQ) (λ_=>(eG 0)) (λ_=>bZ) (λ_=>(sQ (zo K (by rfl)) bQ vm (vh cJ)))))),?_];left
 obtain vs|gv|qv|_:=id G;have lv:=qv.9;exists #[#[_,bN.of gv],?_];refine cW (K:=K) (as:=rows) (F:=cu K H0) (cu K H) (λxs=>xs.21 m) gv qv () (λa b=>a.10 b) (λa b=>a.10 b) ?_ ?_
 ·rintro j xs x Ha NY NN ex sa ⟨u,rfl,_,zs,gz,qz⟩ k1;have wx:=wm xs (ar ex);have lz:=qz.9;exists C3 (bN.of gz) λl1 Hb sb nb gb=>?_
  rw[IL ()] at gb;show k1 _ _ sb #[l1,rfl,sa.17 nb,_,gb,bv (λ_ _ z=>cm.same z sb) (md qz m)]
 ·rintro ys Hb t ht sb g pr nx;show k t Hb ht sb #[ys,g,pr,dZ nx]
theorem uv:sC ["system","found","whole","many"] 2 xf:=by walk_at "d"
theorem zR (T:Txt K mg Z) (ac:bd P):T.nU.o P w base 8 (JE K Z.Xg):=by
 refine T.nU.F.k uv ?_;walk_at "i";obtain x|t|l|w|m|H0|H1|mv|pt|lk|rows|inv|rfl|gt|I|k:=h
 refine #[_,(av (eJ 2 uv.nd (cH (Fm T ac) hr T.ow (cK bQ (aZ bW cJ aw))))
  (av (eJ 3 uv.nd (aZ bW cJ aw))
  (aA (aQ (yK T.XC (gO T ac) (hr.22 ()) rfl T.XD T.fL .nil zJ (zM (cH (mM T ac) hr T.fH (cK (sQ (zo K (by rfl)) (dB eI rfl) vm (vh ky)) ky)) (cH (mM T ac) hr T.fH (cK (dB eI rfl) ky)) (cH (mM T ac) hr T.fH (cK (dB eI rfl) ky)))))))),?_]
 left
 obtain S|D|G|hR|sw|iv|hi|F|mn:=I;have n8:=D.n8;have i4:=D.i4;have o4:=D.o4;have D':=yO D hi hR;have lM:=vJ (mv:=mv) (rows:=rows) hi;have DC:=An D' (m:=m) ();exists #[x,l,w,H0,H1,mv,pt,lk,rows,inv,rfl,S,D,G,hR,sw,iv,hi,F,λz H2 s2 S2=>?_];obtain dz|za|zb|zc|gz|n1|n2|n3|Ga|Gb|Gc:=id S2;obtain ms|gm|qm|_:=id Ga;have lm:=qm.9;have K!:=s2 _ _ gt;exists #[z,Z.Xg,dz,_,_,rfl,gz,T.Xm,T.XH,uT,?_];exists C3 (bN.of gm) λl1 H3 s3 nl1 g3=>?_
 rw[IL ()] at g3;have G3:aP K H H3 l1 ((Ab inv mv rows mv.9).21 m):=#[_,g3,bv (λ_ _ z=>cu.same z s3) (md qm m),dZ #[H2,nl1,md qm m]];exists #[l1,m,H,_,rfl,G3,by rw[bU];lia,λxs hx=>by rw[D'.mw xs (b6 hx),lM];show mn,λq1 H4 n4 s4 G4=>?_];have s24:=s3.4 s4;have gz4:=s24 _ _ gz;exists #[z,Z.Xg,dz,_,_,rfl,gz4,T.Xm,T.XQ,uS,?_];exists #[zb,m,H,_,rfl,Gb.10 s24,by have:=D'.i4;lia,λxs hx=>by rw[D'.pw xs hx,lM];show mn,λq2 H5 n5 s5 G5=>?_];have ZS:=s24.4 s5;have gz5:=ZS _ _ gz;exists #[z,Z.Xg,dz,_,_,rfl,gz5,T.Xm,T.XI,uU,?_];exists #[zc,m,H,_,rfl,Gc.10 ZS,by have:=D'.o4;lia,λxs hx=>by rw[D'.lw xs hx,lM];show mn,λq3 H6 n6 s6 G6=>?_];have z!:=s2.4 (ZS.4 s6);walk_at "w";intro z' dz' nz ndz nez;show #[z',dz',q1,q2,q3,H6,H3,H4,H5,_,_,_,rfl,nz,ndz,nez,rfl,(G4.10 s5).10 s6,G5.10 s6,G6,DC,IM (Oy F.g1),IM F.g2,IM F.g3,λH9 s9 S9=>#[rfl,k z' H9 (z!.4 s9) (S9.44 z!)]]
theorem AS:sC ["rows","wide"] 2 pZ:=by walk_at "d"
theorem tY (T:Txt K mg Z) (ac:bd P):T.jq.o P w base 4 (JL K):=by
 refine T.jq.F.k AS ?_;walk_at "i";obtain p|n|H0|R|ps|rfl|G|XY|XZ|RR|k:=h;refine #[_,(aA (aQ (bS ["place"] ["wide"] [1] (cg (cH (sV T ac) hr T.iI (cK bQ cJ))) (λ_=>(eG 0)) (λ_=>bZ) (λ_=>(cH (sU T ac) hr T.jS (cK cJ bQ)))))),?_];left
 exists #[p,n,H0,R,ps,rfl,G,XY,XZ,RR,λfr H2 nf s2 g2=>?_];have fl:=Ae (ps:=ps) (i:=n);exists #[#[_,bN.of g2],?_];refine dn (K:=K) (xs:=ck (dD ps n)) (λi ys H'=>aE H2 H'/\Vs (cu K H H') ((dD ps n).21 i |>.map λa=>jX n ((a:Nat):Int)) ys) (cP (cV (by rw[mh];lia))) #[aE.refl _,.nil] (λi ys H' _ #[s,_]=>bN.of (s _ _ g2)) ?_ ?_
 ·rintro i v ys H' hx Xv ⟨s',pr⟩;obtain a|ea|rfl:=vC hx;have Yv:=s2.4 s';exists #[n,a,rfl,(),λr H3 nr s3 R3=>?_];refine #[s'.4 s3,?_];rw[take_snoc ea,bH];show bD (bv (λ_ _ z=>cu.same z s3) pr) (.cons #[r,rfl,Yv.17 nr,R3] .nil)
 ·rintro ys H3 hy ⟨s3,pr⟩ r hr;rw[aH (by rw[mh];show aj _)] at pr;have sn:aE H3 (upd H3 r (.lst ys)):=aE.new hr;have XX:=s2.4 s3;show k r _ (XX.17 hr) (XX.4 sn) #[ys,aK,bv (λ_ _ z=>cu.same z sn) pr,dZ (H0:=H) #[H3,hr,pr]]
theorem oG:sC ["system","unseen","units"] 1 pT:=by walk_at "d"
theorem AV (T:Txt K mg Z) (ac:bd P):T.k6.o P w base 10 (JB K Z.Xg):=by
 refine T.k6.F.k oG ?_;walk_at "i";obtain x|e|H0|mv|pt|lk|rfl|S|D|F|UF|k:=h
 refine #[_,(av (eJ 1 oG.nd (cH (sT T ac) hr T.iH (cK bQ (dB bQ rfl))))
  (av (eJ 2 oG.nd (cH (tY T ac) hr T.jq (cK cJ (dB bQ rfl))))
  (aA (aQ (cY (cK (bF gE eI cJ) (bx aR (by rfl) T.38 aM (c6 eI)))))))),?_]
 left
 obtain dx|xa|xb|xc|gx|_:=id S;have d1:=D.n8;exists #[x,Z.Xg,dx,_,_,rfl,gx,T.Xm,T.Xu,fj,?_];exists #[x,mv.9,e,H0,mv,pt,lk,rfl,(),S,D,F,UF,λr U H1 nr s1 G1 UE=>?_];obtain R|ps|pu|M|RR|RN|_:=id UE;have _f:=s1 _ _ gx;have lU:=RN.1;have pl:=RN.le;have fl:=Ae (ps:=pu) (i:=mv.9);exists #[x,Z.Xg,dx,_,_,rfl,_f,T.Xm,T.Xu,fj,?_];exists #[r,mv.9,H,U,pu,rfl,G1,(),(),#[_,RN],λu H2 nu s2 G2=>?_];obtain us|gu|qu|_:=G1.10 s2;obtain vs|gv|qv|_:=id G2;have lu:=qu.9;have lv:=qv.9;rw[af] at lv;have qv':Vs (cu K H H2) _ vs:=bv (λ_ _ #[q,e,n,r]=>#[q,e,s1.17 n,r]) qv;exists gC gv gu gU λl H3 s3 nl gl=>?_
 have Yv:=s1.4 s2;have Gl:aP K H H3 l (yn U pu mv.9):=#[_,gl,bv (λ_ _ z=>cu.same z s3) (bD qv' qu),dZ #[H2,nl,bD qv' qu]];exists #[_,_,rfl,.inl (bN.of (s3 _ _ gv)),?_];rw[show ((vs.9:Nat):Int)=((dD pu mv.9).9:Int) by lia];exists cb λt H4 s4 g4=>?_
 show k t l R ps U pu H4 RR RN (Yv.17 nl) ((Yv.4 s3).4 s4) g4 (Gl.same s4)
theorem CN:sC ["system"] 1 rW:=by walk_at "d"
theorem Dg (T:Txt K mg Z) (ac:bd P):T.mV.o P w base 11 (JD K Z.Xg):=by
 refine T.mV.F.k CN ?_;walk_at "i";obtain x|e|H0|mv|pt|lk|rfl|S|D|F0|UF|Z9|k:=h;refine #[_,(aA (aQ (cH (zR T ac) hr T.nU (cK bQ (cH (AV T ac) hr T.k6 (c6 bQ)))))),?_];left
 exists #[x,e,H0,mv,pt,lk,rfl,S,D,F0,UF,λt l R ps U pu H1 RR RN nl s1 gt G=>?_];obtain F|w|sw:=Z9 R ps U pu RR RN;have cn:=vL RN;exists #[x,t,l,w,(dD pu mv.9).9,H0,H,mv,pt,lk,yn U pu mv.9,AN U pu mv.9,rfl,gt,#[S.10 s1,D,G,CJ RN,sw,λR9 ps9 h9=>Rp RN h9,uY RN,F,()],λz H2 s2 S2=>k z R ps U pu H2 RR RN (s1.4 s2) (S2.44 s1)]
theorem o8:sC ["system","reach"] 1 mH:=by walk_at "d"
theorem xx (T:Txt K mg Z) (ac:bd P):T.iV.o P w base 9 (JC K Z.Xg):=by
 refine T.iV.F.k o8 ?_;walk_at "i";obtain x|a|c|H0|mv|pt|lk|rfl|S|D|KF|k:=h
 refine #[_,(av (eJ 1 o8.nd (cH (oW T ac) hr T.hZ (cK bQ (dB bQ rfl))))
  (aA (aQ (cY (cK (bF gE cJ (cH (tY T ac) hr T.jq (cK cJ (dB bQ rfl)))) (bx aR (by rfl) T.38 aM (c6 cJ))))))),?_]
 left
 obtain dx|xa|xb|xc|gx|_:=id S;have d1:=D.n8;exists #[x,Z.Xg,dx,_,_,rfl,gx,T.Xm,T.Xu,fj,?_];exists #[x,a,c,mv.9,H0,mv,pt,lk,rfl,(),S,D,KF,λr R ps H1 nr s1 G1 RR=>?_];have _f:=s1 _ _ gx;have lR:=RR.1;have pl:=RR.le;have fl:=Ae (ps:=ps) (i:=mv.9);exists #[x,Z.Xg,dx,_,_,rfl,_f,T.Xm,T.Xu,fj,?_];exists #[r,mv.9,H,R,ps,rfl,G1,(),(),#[_,RR],λu H2 nu s2 G2=>?_];obtain us|gu|qu|_:=G1.10 s2;obtain vs|gv|qv|_:=id G2;have lu:=qu.9;have lv:=qv.9;rw[af] at lv;have qv':Vs (cu K H H2) _ vs:=bv (λ_ _ #[q,e,n,r]=>#[q,e,s1.17 n,r]) qv;exists gC gu gv gU λl H3 s3 nl gl=>?_
 have Yv:=s1.4 s2;have Gl:aP K H H3 l (kE R ps mv.9):=#[_,gl,bv (λ_ _ z=>cu.same z s3) (bD qu qv'),dZ #[H2,nl,bD qu qv']];exists #[_,_,rfl,.inl (bN.of (s3 _ _ gu)),?_];rw[show ((us.9:Nat):Int)=(ps.9:Int) by lia];exists cb λt H4 s4 g4=>?_
 show k t l R ps H4 RR (Yv.17 nl) ((Yv.4 s3).4 s4) g4 (Gl.same s4)
theorem yo:sC ["system"] 1 nN:=by walk_at "d"
theorem yr (T:Txt K mg Z) (ac:bd P):T.jA.o P w base 10 (Jy K Z.Xg):=by
 refine T.jA.F.k yo ?_;walk_at "i";obtain x|a|c|H0|mv|pt|lk|rfl|S|D|KF|Z9|k:=h;refine #[_,(aA (aQ (cH (zR T ac) hr T.nU (cK bQ (cH (xx T ac) hr T.iV (c6 bQ)))))),?_];left
 exists #[x,a,c,H0,mv,pt,lk,rfl,S,D,KF,λt l R ps H1 RR nl s1 gt G=>?_];obtain F|w|sw:=Z9 R ps RR;exists #[x,t,l,w,ps.9,H0,H,mv,pt,lk,kE R ps mv.9,stC R ps mv.9,rfl,gt,#[S.10 s1,D,G,oi RR,sw,λR9 ps9 h9=>Rh RR h9,mQ RR,F,RR.le],λz H2 s2 S2=>k z R ps H2 RR (s1.4 s2) (S2.44 s1)]
theorem E2:sC ["system"] 1 uA:=by walk_at "d"
theorem Fl (T:Txt K mg Z) (ac:bd P):T.ou.o P w base 12 (Jz K Z.Xg):=by
 refine T.ou.F.k E2 ?_;walk_at "i";obtain x|a|c|ν|p|H0|mv|pt|lk|rfl|S|SM|k:=h;refine #[_,(aA (aQ (cH (Dg T ac) hr T.mV (c6 (cH (yr T ac) hr T.jA (c6 bQ)))))),?_];left
 have D:=SM.D;exists #[x,a,c,H0,mv,pt,lk,rfl,S,D,SM.KF,λR ps RR=>(SM.st R ps RR).1,λz R ps H1 RR s1 S1=>?_];have G:=(SM.st R ps RR).2;obtain D1|l1:=Jp D RR;exists #[z,561000,H,stM mv R ps,Rj mv pt R ps,OE mv lk R ps,rfl,S1,D1,G.ok SM.sz,G.turn.un D1.turn SM.sz,λRo po U pu RO RN=>G._C D1 SM.sz RO RN,λz2 Ro po U pu H2 RO RN s2 S2=>k z2 R ps Ro po U pu H2 RR RO RN (s1.4 s2) (S2.44 s1)]
theorem oH:sC ["_law_thing","_law_one"] 1 p7:=by walk_at "d"
theorem sS (T:Txt K mg Z) (ac:bd P):∀i:Nat,qY P w K mg base Jg (0+i+1) Z.qX Z.qS ["_law_thing"] (wI K i)
| 0=>T.fW.F.ok oH (λvs H Q E h=>(show False from h).55) (λXG A outer s H vs Q E hr h=>(show False from h).55)
| i+1=>by
 have Eu:=sS T ac i;refine T.fW.F.k oH ?_;walk_at "i";obtain x|rfl|h:=h
 refine #[_,(av (c5 (je (bx Ly (by rfl) T.37 WC (cK bQ (cY (cK (yL (v:=.ty "list") rfl T.30 VF rfl) (yL (v:=.ty "tuple") rfl T.45 Ws rfl)))))) (aA (fo VA rfl (Sf bQ) (eG 1 oH.nd)
   (aA (jy (JX Eu (hr.22 ()) rfl T.fW.m T.fW.F.kp T.fW.b .nil zJ (c6 cJ)))))) bX)
  (aA (c5 (je (qi rfl T.37 VF T.30 bQ)) (aA (jy (vp cX dG dF kO bQ (c6 (cY (cK aw aw)))))) bX))),?_]
 left
 exists cb λtp H1 s1 g1=>?_
 rcases h with ⟨fx,k⟩ | ⟨hi,n,nq,k⟩ | ⟨hi,p,zs,rfl,gp,l500,hz,k⟩ | ⟨hi,p,us,rfl,gp,adQ,pu,hu,k⟩ | ⟨hi,t,xs,ZM,rfl,st,pd,l10,Xw,dj,k⟩
 ·walk_at "w";cases x with
  | Xy =>
   refine #[_,tp,rfl,g1,.inl #[_,false,.Xy,rfl,?_]];exists .inl #[_,false,.Xy,rfl,?_];exists k _ s1
  | bl v =>
   refine #[_,tp,rfl,g1,.inl #[_,false,.bl v,rfl,?_]];exists .inl #[_,false,.bl v,rfl,?_];exists k _ s1
  | int v =>
   refine #[_,tp,rfl,g1,.inl #[_,false,.int v,rfl,?_]];exists .inl #[_,false,.int v,rfl,?_];exists k _ s1
  | str v =>
   refine #[_,tp,rfl,g1,.inl #[_,false,.str v,rfl,?_]];exists .inl #[_,false,.str v,rfl,?_];exists k _ s1
  | _=>show absurd (show false=true from fx) a8
 ·obtain ⟨j,rfl⟩:∃j,i=j+1:=#[i - 1,()];obtain p|rfl|sq:=id nq;have sq1:=s1.Y9 sq;exists #[_,tp,rfl,g1,.inr #[p,_,rfl,sq1,?_]];walk_at "w";unfold Nj;exists .inr #[#[_,sq1],?_];refine yP (K:=K) (a:=p) (xs:=[V.int n.1,V.int n.2]) (λi σ' H'=>aE H1 H'/\∃y,σ'=[some (.ref p),y]) #[aE.refl _,_,rfl] (λi σ' H' _ #[s,_]=>s.Y9 sq1) ?_ ?_
  ·rintro i2 x σ' H2 hx ⟨s2,y,rfl⟩;have hm:=ar hx
   have fx:rh x=true:=by
    simp only[aF,aS,or_false] at hm;rcases hm with rfl | rfl <;> rfl
   exists #[_,rfl,.inl #[fx,λH3 s3=>#[s2.4 s3,_,rfl]]]
  rintro σ' H2 ⟨s2,y,rfl⟩;exists .inr #[p,_,false,rfl,s2.Y9 sq1,rfl,?_];exists k _ (s1.4 s2)
 ·obtain ⟨j,rfl⟩:∃j,i=j+1:=#[i - 1,()];have _A:=s1 _ _ gp;exists #[_,tp,rfl,g1,.inl #[_,true,.lst _A,rfl,?_]];walk_at "w";unfold Nj;exists .inl #[#[_,bN.of _A],?_];refine mB (K:=K) (a:=p) (xs:=zs) (λi σ' H'=>aE H1 H'/\∃y,σ'=[some (.ref p),y]) #[aE.refl _,_,rfl] (λi σ' H' _ #[s,_]=>bN.of (s _ _ _A)) ?_ ?_
  ·rintro i2 x σ' H2 hx ⟨s2,y,rfl⟩;obtain n|nx:=hz x (ar hx);exists #[_,rfl,.inr (.inl #[(),n,(s1.4 s2).num nx,λH3 s3=>#[s2.4 s3,_,rfl]])]
  rintro σ' H2 ⟨s2,y,rfl⟩;have l!:=s2 _ _ _A;exists .inl #[_,true,.lst l!,rfl,?_];exists #[.inl #[rfl,_,bN.of l!],?_];exists cb λt7 H3 s3 g3=>?_
  walk_at "w";have L!:=s3 _ _ l!;refine jQ L! (cV ()) ?_;exists k t7 _ ((Kp.of ((s1.4 s2).4 s3)).4 (Kp.upd L! rfl)) (by rw[bA λz=>by rw[z,L!] at g3;cases g3];show g3) aK
 ·obtain ⟨j,rfl⟩:∃j,i=j+1:=#[i - 1,()];have _A:=s1 _ _ gp;exists #[_,tp,rfl,g1,.inl #[_,true,.lst _A,rfl,?_]];walk_at "w";unfold Nj;exists .inl #[#[_,bN.of _A],?_];refine mB (K:=K) (a:=p) (xs:=us) (λi σ' H'=>Kp (λa=>V.ref a∈us) H H'/\H' p=some (.lst us)/\(∀y∈us,∃q zs,y=.ref q/\H' q=some (.lst zs)/\zs.9<=100+i/\∀z∈zs,∃n,vZ K H' z n)/\∃y,σ'=[some (.ref p),y]) #[.of s1,_A,λy hy=>?_,_,rfl] (λi σ' H' _ #[_,g,_]=>bN.of g) ?_ ?_
  ·obtain q|zs|a1|a2|a3|a4:=hu y hy;show #[q,zs,a1,s1 _ _ a2,a3,λz hz=>by obtain n|hn:=a4 z hz;show #[n,s1.num hn]]
  ·rintro i2 x σ' H2 hx ⟨k2,g2,hu2,y,rfl⟩;have mx:=ar hx;have hi2:i2 < us.9:=(aB.mp hx).1;obtain q|zs|rfl|gq|lz|hz:=hu2 x mx;have qp:p≠q:=λz=>pu (by rw[z];show mx)
   exists #[_,rfl,.inr (.inr (.inl #[(),q,zs,rfl,gq,(),hz,λt7 H3 k3 g7 gq3=>?_]))];refine #[k2.4 (k3.22 λa e=>by rw[e];show mx),k3 _ _ g2 (.inl qp),λy' YY=>?_,_,rfl];obtain q'|zs'|rfl|YL|lz'|YA:=hu2 y' YY;by_cases e:q'=q
   ·subst e;refine #[q',_,rfl,gq3,by rw[ai,a9];rw[gq] at YL;cases YL;lia,λz mz=>?_];rcases ao.mp mz with mz | mz
    ·obtain n|hn:=hz z mz;show #[n,k3.aar hn]
    ·rw[cA.mp mz];show #[(7,1),t7,rfl,kz.of g7]
   ·show #[q',zs',rfl,k3 _ _ YL (.inl e),(),λz mz=>by obtain n|hn:=YA z mz;show #[n,k3.aar hn]]
  rintro σ' H2 ⟨k2,l!,_,y,rfl⟩;exists .inl #[_,true,.lst l!,rfl,?_];exists #[.inl #[rfl,_,bN.of l!],?_];exists cb λt7 H3 s3 g3=>?_
  walk_at "w";have L!:=s3 _ _ l!;refine jQ L! (cV ()) ?_;exists k _ (((k2.22 λa e=>.inr e).4 (Kp.of s3)).4 (Kp.upd L! (.inl rfl)))
 ·obtain ⟨j,rfl⟩:∃j,i=j+1:=#[i - 1,()];have st1:=s1.Y9 st;have lx:=pd.9;exists #[_,tp,rfl,g1,.inr #[t,_,rfl,st1,?_]];walk_at "w";unfold Nj;exists .inr #[#[_,st1],?_];refine yP (K:=K) (a:=t) (xs:=xs) (λi σ' H'=>Kp (λa=>∃e∈ZM,e.2 a) H H'/\(∀m e v,i<=m->ZM[m]?=some e->xs[m]?=some v->EA K e.2 H' e.1 v)/\∃y,σ'=[some (.ref t),y]) #[.of s1,λm e v _ he hv=>?_,_,rfl] (λi σ' H' _ #[k2,_]=>k2.Y9 st) ?_ ?_
  ·obtain e'|he'|el:=cN pd hv;rw[he] at he';cases he';show el.kp (S:=λ_=>False) (.of s1) (λ_ _ z=>z)
  ·rintro i2 x σ' H2 hx ⟨k2,hel,y,rfl⟩;obtain e|he|_:=cN pd hx;have el:=hel i2 e x (aj _) he hx;have me:=ar he;have ok:=Xw e me;have nxt:∀H3,Kp e.2 H2 H3->∀m e' v,i2+1<=m->ZM[m]?=some e'->xs[m]?=some v->EA K e'.2 H3 e'.1 v:=λH3 k3 m e' v hm he' hv=>(hel m e' v () he' hv).kp k3 λa h1 h2=>dj i2 m e e' () he he' a h1 h2
   have upk:∀H3,Kp e.2 H2 H3->Kp (λa=>∃e∈ZM,e.2 a) H H3:=λH3 k3=>k2.4 (k3.22 λa h=>#[e,me,h])
   walk_at "w";obtain d|W:=e;cases d with
   | fl v =>
    obtain rfl:x=v:=el;show #[_,rfl,.inl #[ok,λH3 s3=>#[upk H3 (.of s3),nxt H3 (.of s3),_,rfl]]]
   | row qs =>
    obtain p|rfl|wp|zs|gz|qz:=el;have lz:=qz.9;have ok:qs.9<=100:=ok;refine #[_,rfl,.inr (.inr (.inl #[(),p,zs,rfl,gz,(),λz mz=>?_,λt7 H3 k3 _ _=>?_]))]
    ·obtain c|_|nc:=cM qz mz;show #[_,nc]
    ·have k3':Kp W H2 H3:=k3.22 λa e=>by rw[e];show wp
     show #[upk H3 k3',nxt H3 k3',_,rfl]
   | grid rs =>
    obtain p|us|rfl|wp|gu|nu|qu:=el;have lu:=qu.9;have ok1:rs.9<=100:=ok.1;refine #[_,rfl,.inr (.inr (.inr (.inl #[(),p,us,rfl,gu,(),nu,λy my=>?_,λH3 k3=>?_])))]
    ·obtain qs|mq|q|rfl|_|zs|gz|qz:=cM qu my;have lz:=qz.9;have:=ok.2 qs mq;show #[q,zs,rfl,gz,(),λz mz=>by obtain c|_|nc:=cM qz mz;show #[_,nc]]
    ·have k3':Kp W H2 H3:=k3.22 λa e=>by
      rcases e with e | e
      ·rw[e];show wp
      ·obtain qs|_|q|eq|wq|_:=cM qu e;cases eq;show wq
     show #[upk H3 k3',nxt H3 k3',_,rfl]
  rintro σ' H2 ⟨k2,_,y,rfl⟩;exists .inr #[t,_,false,rfl,k2.Y9 st,rfl,?_];exists k _ k2
theorem A0 (T:Txt K mg Z) (ac:bd P):qY P w K mg base Jg 6 Z.qX Z.qS ["_law_thing"] (wI K 5):=sS T ac 5
theorem jG:sC ["_law_script","_law_bag_here","_law_parts_here","_law_wide","_law_n","_law_system_here","_law_found","_law_some","_law_both","_law_come_to","_law_hidden","_law_others","_law_reach","_law_unseen_here","_law_rows"] 1 Mv:=by walk_at "d"
theorem Sm (T:Txt K mg Z) (ac:bd P):qY P w K mg base Jg 13 Z.QQ Z.QP ["_law_script"] (zg K):=by
 refine T.QU.k jG ?_;walk_at "i";obtain a0|ns|rfl|hS|Xv|k:=h
 refine #[_,(av (eJ 1 jG.nd (cH (Fn T ac) hr T.ox (c6 bQ)))
  (av (fR (cH (zT T ac) hr T.kh (c6 cJ)) (zH rfl (cZ (eG 2 jG.nd) (cZ (eG 3 jG.nd) kZ))))
  (av (eJ 4 jG.nd (bx aR (by rfl) T.38 aM (c6 (aZ bW eI aw))))
  (av (eJ 5 jG.nd (cH (Dp T ac) hr T.ng (c6 eI)))
  (av (eJ 6 jG.nd (cH (tZ T ac) hr T.js (c6 tU)))
  (av (c5 (PW.pt (mP (kI (je (qi rfl T.37 Ws T.45 rg))) (jc (bf pA (bx aR (by rfl) T.38 aM (c6 rg)) aw (bE _))))) (aA (aQ nQ)) bX)
  (av (fo VA rfl (C6 rg) (eG 7 jG.nd)
   (aA (c5 (PW.pt (mP (kI (je (qi rfl T.37 VF T.30 Ez))) (jc (kI (je (cH (yt T ac) hr T.jB (zM Ez (bx aR (by rfl) T.38 aM (c6 Ez)) rG))))))) (aA (aQ nQ)) bX)))
  (av (fR (bS ["_law_some"] [] [] (C6 rg) (λ_=>(eG 0)) (λ_=>bZ) (λ_=>(cH (kb T ac) hr T.fv (c6 bQ)))) (Sg rfl (cZ (eG 8 jG.nd) (cZ (eG 9 jG.nd) (cZ (eG 10 jG.nd) (cZ (eG 11 jG.nd) kZ))))))
  (av (eJ 12 jG.nd (cH (gN T ac) hr T.dW (cK (cH (A4 T ac) hr T.lO (cK eI rG)) rG)))
  (av (eJ 13 jG.nd (cH (zS T ac) hr T.kg (c6 eI)))
  (av (eJ 14 jG.nd (bF gE (bF gE (bF gE Ey (pv 9)) (pv 10)) (pv 11)))
  (av (c5 (PW.pt (mP (bf pA (bx aR (by rfl) T.38 aM (c6 (pv 14))) rG (bE _)) (jc (bf pA (bx aR (by rfl) T.38 aM (c6 (cH (gN T ac) hr T.dW (cK (pv 14) rG)))) rG (bE _))))) (aA (aQ nQ)) bX)
  (av (c5 (PW.pt (mP (bf (uJ (Ac hr)) (cH (gN T ac) hr T.dW (cK (bF gE Ey (pv 9)) rG)) (pv 12) (bE _)) (jc (bf (uJ (Ac hr)) (cH (gN T ac) hr T.dW (cK (bF gE Ey (pv 10)) rG)) (pv 13) (bE _))))) (aA (aQ nQ)) bX)
  (av (c5 (bf pA (bx aR (by rfl) T.38 aM (c6 Ey)) (bF jf (bF ic (bx aR (by rfl) T.38 aM (c6 (pv 12))) (bx aR (by rfl) T.38 aM (c6 (pv 13)))) (bx aR (by rfl) T.38 aM (c6 (cH (gN T ac) hr T.dW (cK (bF gE (pv 12) (pv 13)) rG))))) (bE _)) (aA (aQ nQ)) bX)
  (av (c5 (bf pA (bx aR (by rfl) T.38 aM (c6 (pv 9))) (dB (cH (Fl T ac) hr T.ou (c6 tU)) rfl) (bE _)) (aA (aQ nQ)) bX)
  (av (jy (cH (A0 T ac) hr T.fW (c6 rg)))
  (av (c5 (PW.pt (mP (bf (uJ (Ac hr)) (dB tU rfl) (aZ bW eI aw) (bE _)) (jc (bf (uJ (Ac hr)) (dB tU rfl) (aZ bW eI aw) (bE _))))) (aA (aQ nQ)) bX)
  (aA (aQ (jz (MO (Ac hr)) (bS ["_law_some"] [] [] (C6 (cH (tZ T ac) hr T.js (c6 tU))) (λ_=>(eG 0)) (λ_=>bZ) (λ_=>(eZ (ia K (by rfl)) (by rfl) T.30 VF (c6 bQ)))) (fq (LQ Ey (pv 9) (pv 10) (pv 11))) (bE _))))))))))))))))))))),?_]
 left
 exists #[a0,ns,rfl,hS,Xv,λb H0 J! B0 s0=>?_];exists #[b,rfl,B0,λt1 r w mv pt lk H1 g1 P1 D F RG RL w1 w2 B1 u1=>?_];have n8:=D.n8;have i4:=D.i4;have o4:=D.o4;have et:(aO mv mv.9).9=mv.9:=b7
 have w3:9 < w->mv.9<=2:=λh=>by
  rcases RG with ⟨w9,_⟩ | ⟨w9,_⟩ | ⟨_,n2,_⟩
  ·lia
  ·lia
  ·show n2
 obtain m0|p0|l0|gr|nm0|np0|nl0|Gm|Gp|Gl:=id P1;obtain ms|gm|qm|_:=id Gm;have lm:=qm.9;obtain AD|SK|LK:=Nd RG D;obtain ADt|SKt|LKt:=Nd RL D.turn;rw[et] at ADt LKt;obtain e8|V8:=JT (T:=mv.9) RG D #[(),λh=>by have:=w3 h;lia,λ_ h=>h,λh=>()];obtain a|c|KF|_:=V8.un.kf;obtain e9|V5:=JT (T:=mv.9) RL D.turn (by rw[et];show #[(),λh=>by have:=w3 h;lia,λ_ h=>h,λh=>()]);have UF:=V5.un;clear V5 V8
 have lK:(Xt mv pt mv.9).9<=100:=by
  rw[tE];show ag (aI n8 i4) ()
 have lKt:(Xt (aO mv mv.9) lk mv.9).9<=100:=by
  rw[tE];show ag (aI n8 o4) ()
 exists #[_,_,rfl,.inl (bN.of gm),?_];rw[show ((ms.9:Nat):Int)=(mv.9:Int) by lia];exists #[r,H0,mv,pt,lk,rfl,P1,D,F.sf,λx H2 nx s2 S2=>?_];obtain ⟨ν,pz,SM⟩|WR:=JP RG D F;obtain WU|LN:=Om RL D F;have OK:=F.sf.ok;exists #[x,a,c,e9,H1,mv,pt,lk,rfl,S2,D,KF,OK,UF,WR,WU,λt R U Bo C Hd Ot ps pu H3 s3 FP TO=>?_];obtain l1|l2|l3|l4|gt|Ga|Gb|Gc|Gd:=TO._z;obtain wA|lA|rkA|eR|eU|rk2|ln:=FP.all;obtain wB|wd4|wd2|wd3|wdU|m1|m2:=FP.wd n8;have lR:=FP.RR.1;have pR:=FP.RR.le;have lU:U.9=pu.9:=let ⟨_,_,_,h⟩:=FP.RU;h.1
 have pU:pu.9<=mv.9:=let ⟨_,_,_,h⟩:=FP.RU;h.le
 rw[ai,ai,ai] at lA;have w1:∀xs∈Bo,xs.9=mv.9:=λxs hx=>wA xs (by simp [hx])
 have w2':∀xs∈C,xs.9=mv.9:=λxs hx=>wA xs (by simp [hx])
 have w3':∀xs∈Hd,xs.9=mv.9:=λxs hx=>wA xs (by simp [hx])
 have w4:∀xs∈Ot,xs.9=mv.9:=λxs hx=>wA xs (by simp [hx])
 have PT:Vs (λrs v=>∃l,v=V.ref l/\aP K H2 H3 l rs/\rs.9<=8/\(∀xs∈rs,xs∈Bo++C++Hd++Ot)) [Bo,C,Hd,Ot] [.ref l1,.ref l2,.ref l3,.ref l4]:=.cons #[l1,rfl,Ga,(),λxs hx=>by simp [hx]] (.cons #[l2,rfl,Gb,(),λxs hx=>by simp [hx]] (.cons #[l3,rfl,Gc,(),λxs hx=>by simp [hx]] (.cons #[l4,rfl,Gd,(),λxs hx=>by simp [hx]] .nil)));exists .inr #[t,_,_,rfl,kz.of gt,rfl,?_];exists #[_,_,rfl,.inr (kz.of gt),?_];walk_at "w"
 try refine Nh ?_
 exists #[#[_,kz.of gt],?_];refine yP (K:=K) (a:=t) (xs:=[.ref l1,.ref l2,.ref l3,.ref l4]) (λi σ' H'=>aE H3 H'/\∃y,σ'=[some (.ref a0),some (.ref b),some (.ref r),some (.int w),some (.int mv.9),some (.ref x),some (.ref t),y,none,none,none,none,none,none,none]) #[aE.refl _,_,rfl] (λi σ' H' _ #[s,_]=>kz.of (s _ _ gt)) ?_ ?_
 ·rintro i v σ' H' hv ⟨s,y,rfl⟩;obtain rs|er|l|rfl|Gl|l8|ws:=cN PT hv;have Gl':=Gl.same s;obtain us|gu|qu|_:=id Gl';have lu:=qu.9;exists .inl #[_,true,.lst gu,rfl,?_];exists #[_,_,rfl,.inl (bN.of gu),?_];rw[show ((us.9:Nat):Int)=((rs.11 (V9 nm)).9:Int) by rw[af];lia];exists #[l,_,mv.9,rfl,Gl'.abj,by rw[af];lia,(),λns hn=>?_,λH6 s6=>?_]
  ·obtain qs|hq|rfl:=au.mp hn;refine #[by rw[af];show wA qs (ws qs hq),λn hn=>?_];obtain y|hy|rfl:=au.mp hn;show oF (wd4.ok () qs (ws qs hq) y hy)
  exists #[s.4 s6,_,rfl]
 rintro σ' H4 ⟨s4,y,rfl⟩;exists #[#[_,kz.of (s4 _ _ gt)],?_];refine Cd (K:=K) (as:=[Bo,C,Hd,Ot]) (F:=λH' rs v=>∃l,v=V.ref l/\aP K H2 H' l rs/\rs.9<=8/\(∀xs∈rs,xs∈Bo++C++Hd++Ot)) (λH' rs v=>∃l,v=V.ref l/\H3 l=none/\aP K H3 H' l rs) id (kz.of (s4 _ _ gt)) (bv (λ_ _ #[l,e,g,z]=>#[l,e,g.same s4,z]) PT) (show 4<=1000 by decide) (λ#[l,e,g,z] s=>#[l,e,g.same s,z]) (λ#[l,e,n,g] s=>#[l,e,n,g.same s]) ?_ ?_
 ·rintro i rs v H' NY NN er sa ⟨l,rfl,Gl,l8,ws⟩ k1;have s':=s4.4 sa;exists #[l,H2,rs,rfl,Gl,(),λxs hx=>by rw[wA xs (ws xs hx)];lia,λq H6 nq s6 G6=>k1 _ _ s6 #[q,rfl,s'.17 nq,G6.YT λq h=>s'.17 h]]
 rintro ys H5 tl ntl s5 gtl pr _;rw[jw] at pr;obtain _|_|_|_|rfl|⟨b1,rfl,n1,G1⟩|⟨b2,rfl,n2,G2⟩|⟨b3,rfl,n3,G3⟩|⟨b4,rfl,n4,G4⟩:=Ph pr;clear pr PT;have s35:=s4.4 s5;exists #[tl,_,rfl,bN.of gtl,rfl,?_];walk_at "w";have ZS:=s3.4 s35;refine #[r,mv.9,H0,mv,pt,lk,rfl,(),(P1.10 s2).10 ZS,D,AD,λq6 H6 n6 s6 G6=>?_];exists #[q6,mv.9,SK,H5,Xt mv pt mv.9,rfl,G6,lK,(),dO rfl D.pw _,LK,λlr R' Xx H7 nlr s7 G7 X6 _=>?_];obtain rfl|rfl:=FP.RR.10 X6;clear X6;have s57:=s6.4 s7;exists #[r,SKt,H0,mv,pt,lk,rfl,((P1.10 s2).10 ZS).10 s57,D,ADt,LKt,LN,λlu Ro po U' pu' H8 RO RN nlu s8 G8=>?_]
 obtain ⟨rfl,rfl⟩:U=U'/\pu=pu':=by
  obtain Ro'|po'|h1|h2:=FP.RU;obtain rfl|rfl:=h1.10 RO;show h2.10 RN
 have _I:=s57.4 s8;obtain v1|g1'|q1|_:=id (G1.10 _I).58;obtain v2|g2'|q2|_:=id (G2.10 _I).58;obtain v3|g3'|q3|_:=id (G3.10 _I).58;obtain v4|g4'|q4|_:=id (G4.10 _I).58;obtain v7|g7'|q7|_:=id (G7.10 s8).58;obtain v8|g8'|q8|_:=id G8.58;have lv1:=q1.9;have lv2:=q2.9;have lv3:=q3.9;have lv4:=q4.9;have lv7:=q7.9;have lv8:=q8.9;exists gC g1' g2' gU λc1 H9 s9 nc1 gc1=>?_
 exists gC gc1 (s9 _ _ g3') (cP (cV (by rw[ai];lia))) λc2 Ha sa nc2 gc2=>?_
 exists gC gc2 ((s9.4 sa) _ _ g4') (cP (cV (by rw[ai,ai];lia))) λc3 Hb sb nc3 gc3=>?_
 have _H:=s9.4 sa;have s8b:=_H.4 sb;have qc3:=bD (bD (bD q1 q2) q3) q4;have G3c:aP K (λ_=>none) Hb c3 (Bo++C++Hd++Ot):=#[_,gc3,bv (λ_ _ z=>cu.same z s8b) qc3,dZ #[_,nc3,bv (λ_ _ z=>cu.same z _H) qc3]];obtain S4|LS4:=wd4.Zo (n:=mv.9) () () wA;obtain S2'|LS2:=wd2.Zo (n:=mv.9) (by rw[ai];lia) () λxs hx=>(ao.mp hx).55 (w1 xs) (w2' xs)
 obtain S3'|LS3:=wd3.Zo (n:=mv.9) (by rw[ai];lia) () λxs hx=>(ao.mp hx).55 (w1 xs) (w3' xs)
 obtain SU|LSU:=wdU.Zo (n:=mv.9) () () λxs hx=>(ao.mp hx).55 (FP.RR.2.1 xs) (RN.2.1 xs)
 exists #[_,_,rfl,.inl (bN.of gc3),?_];rw[show (((v1++v2++v3++v4).9:Nat):Int)=(mv.9:Int) by rw[ai,ai,ai];lia];walk_at "w";rw[decide_eq_true rfl];exists #[c3,mv.9,S4,_,_,rfl,G3c,by rw[ai,ai,ai];lia,(),wA,LS4,λz1 Z1 pz1 Hc nz1 sc Gz1 RZ1 _=>?_];have k1:=rkA Z1 pz1 RZ1;obtain vz1|gz1|qz1|_:=id Gz1;have lz1:=qz1.9;have lZ1:=RZ1.1;exists #[_,_,rfl,.inl (bN.of gz1),?_];rw[show ((vz1.9:Nat):Int)=(mv.9:Int) by lia];walk_at "w";rw[decide_eq_true rfl];walk_at "w";have Y!:=s8b.4 sc;refine gC (Y! _ _ g1') (Y! _ _ g2') gU λd1 Hd1 sd1 nd1 gd1=>?_
 have qd1:=bD q1 q2;have Gd1:aP K (λ_=>none) Hd1 d1 (Bo++C):=#[_,gd1,bv (λ_ _ z=>cu.same z (Y!.4 sd1)) qd1,dZ #[_,nd1,bv (λ_ _ z=>cu.same z Y!) qd1]];exists #[d1,mv.9,S2',_,_,rfl,Gd1,by rw[ai];lia,(),λxs hx=>(ao.mp hx).55 (w1 xs) (w2' xs),LS2,λz2 Z2 pz2 He nz2 se Gz2 RZ2 _=>?_];obtain rfl:=eR Z2 pz2 RZ2;have Za:=Y!.4 (sd1.4 se);exists #[_,_,xG,_,_,(),Gz2.36,(G7.10 (s8.4 Za)).36,?_];rw[decide_eq_true rfl];exists gC (Za _ _ g1') (Za _ _ g3') gU λd2 Hf sf nd2 gd2=>?_
 have qd2:=bD q1 q3;have Gd2:aP K (λ_=>none) Hf d2 (Bo++Hd):=#[_,gd2,bv (λ_ _ z=>cu.same z (Za.4 sf)) qd2,dZ #[_,nd2,bv (λ_ _ z=>cu.same z Za) qd2]];exists #[d2,mv.9,S3',_,_,rfl,Gd2,by rw[ai];lia,(),λxs hx=>(ao.mp hx).55 (w1 xs) (w3' xs),LS3,λz3 Z3 pz3 Hg nz3 sg Gz3 RZ3 _=>?_];obtain rfl:=eU Z3 pz3 RZ3;have Z0:=Za.4 (sf.4 sg);exists #[_,_,xG,_,_,(),Gz3.36,(G8.10 Z0).36,?_];rw[decide_eq_true rfl];exists #[_,_,rfl,.inl (bN.of (Z0 _ _ g1')),?_];exists #[_,_,rfl,.inl (bN.of (Z0 _ _ g7')),?_];exists #[_,_,rfl,.inl (bN.of (Z0 _ _ g8')),?_];exists gC (Z0 _ _ g7') (Z0 _ _ g8') gU λd3 Hh sh nd3 gd3=>?_
 have qd3:=bD q7 q8;have Gd3:aP K (λ_=>none) Hh d3 (Z2++Z3):=#[_,gd3,bv (λ_ _ z=>cu.same z (Z0.4 sh)) qd3,dZ #[_,nd3,bv (λ_ _ z=>cu.same z Z0) qd3]];exists #[d3,mv.9,SU,_,_,rfl,Gd3,by rw[ai];lia,(),λxs hx=>(ao.mp hx).55 (FP.RR.2.1 xs) (RN.2.1 xs),LSU,λz4 Z4 pz4 Hi nz4 si Gz4 RZ4 _=>?_];have k2:=rk2 Z4 pz4 RZ4;obtain vz4|gz4|qz4|_:=id Gz4;have lz4:=qz4.9;have lZ4:=RZ4.1;have s8i:=Z0.4 (sh.4 si);exists #[_,_,rfl,.inl (bN.of gz4),?_];walk_at "w";rw[decide_eq_true (show ((v1.9:Nat):Int)=(v7.9:Int)+(v8.9:Int) - (vz4.9:Int) by lia)];exists #[_,_,rfl,.inl (bN.of (s8i _ _ g2')),?_];walk_at "w";have s2i:=ZS.4 (_I.4 s8i);refine #[x,a,c,ν,pz,H1,mv,pt,lk,rfl,S2.10 s2i,SM KF,λzs Rs YF Rq pq Us pus Hj RRs RRq RNq sj Sj=>?_];obtain rfl|rfl:=FP.RR.10 RRs;clear RRs;have rk:=FP.rank D KF (((SM KF).st _ _ FP.RR).2.turn.kf (by rw[b7];show (Jp D FP.RR).1.n8) (SM KF).sz) RRq RNq;obtain dz|za|zb|zc|gz|_:=id Sj
 have lse:(UN (stM mv Z2 ps) Us pus).9=C.9:=by
  rw[<- rk];show Ao (uY RNq) (by have:=vL RNq;lia)
 exists #[zs,Z.Xg,dz,_,_,rfl,gz,T.Xm,T.Xu,fj,?_];walk_at "w";rw[show ((v2.9:Nat):Int)=((UN (stM mv Z2 ps) Us pus).9:Int) by lia,decide_eq_true rfl];walk_at "w";have s2j:=s2i.4 sj;have s3j:=s35.4 (_I.4 (s8i.4 sj));refine TO.W! s3j #[#[(),λxs hx=>by rw[w1 xs hx];lia],#[(),λxs hx=>by rw[w2' xs hx];lia],#[(),λxs hx=>by rw[w3' xs hx];lia],#[(),λxs hx=>by rw[w4 xs hx];lia]] λHk kK=>?_
 have s2k:aE H2 Hk:=kK.below (λa z=>z.1) s2j;have nS:∀a,(H2 a=none/\H3 a≠none)->H3 a≠none:=λ_ z=>z.2
 have s5j:=_I.4 (s8i.4 sj);have B1':=kK.Zf nS n1 (G1.10 s5j);have B2':=kK.Zf nS n2 (G2.10 s5j);have B3':=kK.Zf nS n3 (G3.10 s5j);have B4':=kK.Zf nS n4 (G4.10 s5j);obtain dx|xa|xb|xc|gx|_|_|_|_|Gxb|Gxc:=S2.10 s2k;have s1k:=s2.4 s2k;have grk:=s1k _ _ gr;exists #[x,Z.Xg,dx,_,_,rfl,gx,T.Xm,T.XQ,uS,?_];exists #[_,_,xG,_,_,(),Gxb.36,(Gp.10 s1k).36,?_];rw[decide_eq_true rfl];exists #[x,Z.Xg,dx,_,_,rfl,gx,T.Xm,T.XI,uU,?_];exists #[_,_,xG,_,_,(),Gxc.36,(Gl.same s1k).36,?_];rw[decide_eq_true rfl];exists #[x,a,c,e9,H1,mv,pt,lk,rfl,S2.10 s2k,D,KF,OK,UF,WR,WU,λt2 R2 U2 Bo2 C2 Hd2 Ot2 ps3 pu3 Hm sm FP2 TO2=>?_];obtain rfl|rfl|rfl|rfl:=FP.10 FP2;obtain o1|o2|o3|o4'|K!|Oa|Ob|Oc|Od:=TO2._z;exists #[#[_,kz.of K!],?_];refine Cd (K:=K) (as:=[Bo,C,Hd,Ot]) (F:=λH' rs v=>∃l,v=V.ref l/\aP K Hk H' l rs) (λH' rs v=>∃l,v=V.ref l/\aP K Hk H' l rs) id (kz.of K!) (.cons #[o1,rfl,Oa] (.cons #[o2,rfl,Ob] (.cons #[o3,rfl,Oc] (.cons #[o4',rfl,Od] .nil)))) (show 4<=1000 by decide) (λ#[l,e,g] s=>#[l,e,g.same s]) (λ#[l,e,g] s=>#[l,e,g.same s]) ?_ ?_
 ·rintro i rs v H' NY NN er sa ⟨l,rfl,Gl⟩ k1;obtain us|gu|qu|_:=id Gl;exists #[l,us,rfl,.inl (bN.of gu),λq hq=>?_];have sn:aE H' (upd H' q (.lst us)):=aE.new hq;show k1 _ _ sn #[q,rfl,us,aK,bv (λ_ _ z=>cu.same z sn) qu,dZ #[H',hq,qu]]
 rintro ys Hn yl nyl sn gyl pr _;rw[jw] at pr;have _l:=sm.4 sn;exists dJ λrl Ho so nrl grl=>?_
 have sko:=_l.4 so;exists #[_,_,Lc xG,[Bo,C,Hd,Ot],[Bo,C,Hd,Ot],(),#[yl,ys,rfl,bN.of (so _ _ gyl),bv (λ_ _ #[_,e,g]=>by rw[e];show (g.same so).36) pr],#[rl,_,rfl,bN.of grl,.cons (B1'.10 sko).36 (.cons (B2'.10 sko).36 (.cons (B3'.10 sko).36 (.cons (B4'.10 sko).36 .nil)))],?_];rw[decide_eq_true rfl];show k _
end
theorem Ui {P:List Value->Prop} (h:P []):∀us:List Value,us.9=0->P us
 | [],_=>h
theorem Ij {P:List Value->Prop} {n:Nat} (h:∀x us,us.9=n->P (x :: us)):∀us:List Value,us.9=n+1->P us
 | x :: us,e=>h x us (Nat.succ.inj e)
theorem ln1 {P:List Value->Prop} (h:∀x0,P [x0]):∀us:List Value,us.9=1->P us:=Ij λx0=>Ui (h x0)
theorem ln2 {P:List Value->Prop} (h:∀x0 x1,P [x0,x1]):∀us:List Value,us.9=2->P us:=Ij λx0=>Ij λx1=>Ui (h x0 x1)
theorem ln3 {P:List Value->Prop} (h:∀x0 x1 x2,P [x0,x1,x2]):∀us:List Value,us.9=3->P us:=Ij λx0=>Ij λx1=>Ij λx2=>Ui (h x0 x1 x2)
theorem ln4 {P:List Value->Prop} (h:∀x0 x1 x2 x3,P [x0,x1,x2,x3]):∀us:List Value,us.9=4->P us:=Ij λx0=>Ij λx1=>Ij λx2=>Ij λx3=>Ui (h x0 x1 x2 x3)
theorem ln5 {P:List Value->Prop} (h:∀x0 x1 x2 x3 x4,P [x0,x1,x2,x3,x4]):∀us:List Value,us.9=5->P us:=Ij λx0=>Ij λx1=>Ij λx2=>Ij λx3=>Ij λx4=>Ui (h x0 x1 x2 x3 x4)
local macro_rules | `(tactic| walk_at "b") => `(tactic| (intro _ _ _ _ _ _; first | (refine ln1 ?_; intros; rfl) | (refine ln2 ?_; intros; rfl) | (refine ln3 ?_; intros; rfl) | (refine ln4 ?_; intros; rfl) | (refine ln5 ?_; intros; rfl)))
theorem all_mk {l:W.OpenLaw} {K:W.Frag} 
 
  (X:K.In h) (G:h.Ns VE mg) (hfa:mg "law"=some (.ref fa)) (aaM:l.prog.given.tree=none)
 (aC:WD K VE "System"=some (some (.ref C)))
  (h0:Dh K "_law_bag" uH f0 e0)
  (h1:Dh K "_law_take" r8 f1 e1)
  (h2:Dh K "_law_sizes" mR f2 e2)
  (h3:Dh K "_law_line" sG f3 e3)
  (h4:Dh K "_law_low" uF f4 e4)
  (h5:Dh K "_law_sum" uD f5 e5)
  (h6:Dh K "_law_plus" sA f6 e6)
  (h7:Dh K "_law_prod" sv f7 e7)
  (h8:Dh K "_law_by" xm f8 e8)
  (h9:Dh K "_law_mixed" qe f9 e9)
  (h10:Dh K "_law_two_lines" kG f10 e10)
  (h11:Dh K "_law_number" oQ f11 e11)
  (h12:Dh K "_law_row" uE f12 e12)
  (h13:Dh K "_law_move" sE f13 e13)
  (h14:Dh K "_law_parts" qd f14 e14)
  (h15:Dh K "_law_system" oP f15 e15)
  (h16:Dh K "want_list" rS f16 e16)
  (h17:Dh K "is_whole" uB f17 e17)
  (h18:Dh K "common_divisor" kF f18 e18)
  (h19:Dh K "is_number" rX f19 e19)
  (h20:Dh K "is_row" zz f20 e20)
  (h21:Dh K "copied_rows" oN f21 e21)
  (a22:VO K (.ref C) "__init__"=some (some (.ref f22))) (i22:W.isFn K (.ref f22)=true) (l22:K.13 f22=some #[oc22,od22,.func (W.fnOf "__init__" "System.__init__" (nA d7) (jC d7) (eN d7) .none kV22 dc22 pm22 an22 cd22 ct22),sl22]) (c22:W.codeIn K cd22 "System.__init__"=true) (k22:W.keepIn K (.ref f22)=true)
  (h23:Dh K "_law_copied" oS f23 e23)
  (h24:Dh K "_law_made" sF f24 e24)
  (h25:Dh K "tops_over" rV f25 e25)
  (h26:Dh K "common_multiple" j7 f26 e26)
  (h27:Dh K "common_bottom" mJ f27 e27)
  (h28:Dh K "first_with" p5 f28 e28)
  (h29:Dh K "cleared" xk f29 e29)
  (h30:Dh K "brought_up" p6 f30 e30)
  (h31:Dh K "swept" CY f31 e31)
  (h32:Dh K "lowest" zy f32 e32)
  (h33:Dh K "reduced" w5 f33 e33)
  (h34:Dh K "row_dot" wZ f34 e34)
  (h35:Dh K "grid_on" xj f35 e35)
  (h36:Dh K "moved_rows" pX f36 e36)
  (h37:Dh K "reach_grown" oJ f37 e37)
  (h38:Dh K "reach_rows" pV f38 e38)
  (h39:Dh K "grid_turned" oK f39 e39)
  (a40:VO K (.ref C) "turned"=some (some (.ref f40))) (i40:W.isFn K (.ref f40)=true) (l40:K.13 f40=some #[oc40,od40,.func (W.fnOf "turned" "System.turned" (nA fG) (jC fG) (eN fG) .none kV40 dc40 pm40 an40 cd40 ct40),sl40]) (c40:W.codeIn K cd40 "System.turned"=true) (k40:W.keepIn K (.ref f40)=true)
  (h41:Dh K "unit_row" uy f41 e41)
  (h42:Dh K "leading_place" mI f42 e42)
  (h43:Dh K "leading" xh f43 e43)
  (h44:Dh K "minus" C0 f44 e44)
  (h45:Dh K "null_at" xg f45 e45)
  (h46:Dh K "free_places" oM f46 e46)
  (h47:Dh K "nulls" CZ f47 e47)
  (h48:Dh K "unseen_rows" oI f48 e48)
  (h49:Dh K "new_places" pW f49 e49)
  (h50:Dh K "adding_to" rY f50 e50)
  (h51:Dh K "unit_grid" rT f51 e51)
  (h52:Dh K "four_parts" p4 f52 e52)
  (h53:Dh K "_law_is_number" kH f53 e53)
  (h54:Dh K "_law_is_row" oR f54 e54)
  (h55:Dh K "_law_is_grid" nP f55 e55)
  (h56:Dh K "_law_quot" su f56 e56)
  (h57:Dh K "_law_less" sI f57 e57)
  (h58:Dh K "_law_minus" qg f58 e58)
  (h59:Dh K "_law_lean" sJ f59 e59)
  (h60:Dh K "_law_dot" uG f60 e60)
  (h61:Dh K "_law_on" xl f61 e61)
  (h62:Dh K "_law_added" qh f62 e62)
  (h63:Dh K "_law_over" sD f63 e63)
  (h64:Dh K "_law_shown" p9 f64 e64)
  (h65:Dh K "_law_free" sN f65 e65)
  (h66:Dh K "_law_unit" rZ f66 e66)
  (h67:Dh K "_law_unseen" oO f67 e67)
  (h68:Dh K "inverse" xi f68 e68)
  (h69:Dh K "grid_times" pY f69 e69)
  (h70:Dh K "in_basis" uC f70 e70)
  (h71:Dh K "first_places" nO f71 e71)
  (h72:Dh K "part_by" xf f72 e72)
  (h73:Dh K "free_units" pZ f73 e73)
  (h74:Dh K "seen_first" pT f74 e74)
  (h75:Dh K "seen_part" rW f75 e75)
  (h76:Dh K "steered_first" mH f76 e76)
  (h77:Dh K "steered_part" nN f77 e77)
  (h78:Dh K "smallest" uA f78 e78)
  (h79:Dh K "_law_spoil" p7 f79 e79)
  (h80:Dh K "law" Mv f80 e80)
 (ca0:WD K VE "NOUGHT"=some (some (.ref m0))) (cl0:K.13 m0=some #[.type "tuple",mo0,.seq [.int 0 mt0_0,.int 1 mt0_1].12 mn0,ms0])
 (ca1:WD K VE "ONE"=some (some (.ref m1))) (cl1:K.13 m1=some #[.type "tuple",mo1,.seq [.int 1 mt1_0,.int 1 mt1_1].12 mn1,ms1])
 (ci0:WD K VE "MOST_STATES"=some (some (.int 8 it0)))
 (ci1:WD K VE "MOST_PUTS"=some (some (.int 4 it1)))
 (ci2:WD K VE "MOST_LOOKS"=some (some (.int 4 it2)))
  (pg:W.plainGet K C Str.empty=true) (hd:W.hasDictIn K C=true) (po:W.plainOver K C=true) (sa:VO K (.ref C) "__setattr__"=some (some (.builtin "object.__setattr__"))) (mk:W.makesIn K C=true) (kc:W.keepIn K (.ref C)=true)
  (n_move:VO K (.ref C) "move"=some none)
  (n_states:VO K (.ref C) "states"=some none)
  (n_put:VO K (.ref C) "put"=some none)
  (n_ins:VO K (.ref C) "ins"=some none)
  (n_look:VO K (.ref C) "look"=some none)
  (n_outs:VO K (.ref C) "outs"=some none)
  (z_abs:WD K VE "abs"=some none)
  (z_len:WD K VE "len"=some none)
  (z_min:WD K VE "min"=some none)
  (z_int:WD K VE "int"=some none)
  (z_range:WD K VE "range"=some none)
  (z_isinstance:WD K VE "isinstance"=some none)
  (z_list:WD K VE "list"=some none)
  (z_bool:WD K VE "bool"=some none)
  (z_tuple:WD K VE "tuple"=some none)
  (z_all:WD K VE "all"=some none)
  (z_enumerate:WD K VE "enumerate"=some none)
  (z_zip:WD K VE "zip"=some none)
  (z_sum:WD K VE "sum"=some none)
  : ∃fd:Vp,(∀(s:Vr) (v:Value),BindsTo s fd #[[v],[]] [("_law_script",v)])/\∀base:Heap,K.In base->base.Ns VE mg->qY l.18 w K mg base Jg 13 fa fd ["_law_script"] (zg K):=by
 have e:=hfa.symm.4 (W.mg_of X G h80.a);cases e;obtain _|_|_|_|_|_|_|_|_|rfl|_|_:=h80.F.ex;have F22:=Ir (st:=d7) l22 c22 k22;have F40:=Ir (st:=fG) l40 c40 k40
 have T:Txt K mg #[f0,_,f1,_,f2,_,f3,_,f4,_,f5,_,f6,_,f7,_,f8,_,f9,_,f10,_,f11,_,f12,_,f13,_,f14,_,f15,_,f16,_,f17,_,f18,_,f19,_,f20,_,f21,_,f22,_,f23,_,f24,_,f25,_,f26,_,f27,_,f28,_,f29,_,f30,_,f31,_,f32,_,f33,_,f34,_,f35,_,f36,_,f37,_,f38,_,f39,_,f40,_,f41,_,f42,_,f43,_,f44,_,f45,_,f46,_,f47,_,f48,_,f49,_,f50,_,f51,_,f52,_,f53,_,f54,_,f55,_,f56,_,f57,_,f58,_,f59,_,f60,_,f61,_,f62,_,f63,_,f64,_,f65,_,f66,_,f67,_,f68,_,f69,_,f70,_,f71,_,f72,_,f73,_,f74,_,f75,_,f76,_,f77,_,f78,_,f79,_,fa,_,m0,m1,it0,it1,it2,C]:={
  ox:=h0.D X G
  br:=h1.D X G
  lF:=h2.D X G
  iY:=h3.D X G
  d4:=h4.D X G
  iJ:=h5.D X G
  mZ:=h6.D X G
  gQ:=h7.D X G
  jJ:=h8.D X G
  jt:=h9.D X G
  ij:=h10.D X G
  ki:=h11.D X G
  jT:=h12.D X G
  m9:=h13.D X G
  lI:=h14.D X G
  kh:=h15.D X G
  iT:=h16.D X G
  mi:=h17.D X G
  d9:=h18.D X G
  mW:=h19.D X G
  tD:=h20.D X G
  gF:=h21.D X G
  fL:=F22.binds (ps:=["self","move","put","look"]) λ_ _ _ _ _ _=>by refine ln4 ?_;intros;rfl
  oB:=F22
  fv:=h23.D X G
  ng:=h24.D X G
  iU:=h25.D X G
  gP:=h26.D X G
  fb:=h27.D X G
  lD:=h28.D X G
  qL:=h29.D X G
  lE:=h30.D X G
  sX:=h31.D X G
  nH:=h32.D X G
  jH:=h33.D X G
  qI:=h34.D X G
  jI:=h35.D X G
  lh:=h36.D X G
  ke:=h37.D X G
  hZ:=h38.D X G
  fu:=h39.D X G
  pB:=#[a40,i40,k40]
  rj:=F40.binds (ps:=["self"]) λ_ _ _ _ _ _=>by refine ln1 ?_;intros;rfl
  rA:=F40
  jS:=h41.D X G
  iW:=h42.D X G
  kR:=h43.D X G
  vD:=h44.D X G
  qJ:=h45.D X G
  iI:=h46.D X G
  nV:=h47.D X G
  iH:=h48.D X G
  k9:=h49.D X G
  iX:=h50.D X G
  kd:=h51.D X G
  js:=h52.D X G
  ik:=h53.D X G
  kj:=h54.D X G
  jB:=h55.D X G
  mY:=h56.D X G
  nh:=h57.D X G
  ju:=h58.D X G
  dW:=h59.D X G
  mo:=h60.D X G
  qM:=h61.D X G
  lO:=h62.D X G
  m4:=h63.D X G
  lG:=h64.D X G
  kn:=h65.D X G
  mX:=h66.D X G
  kg:=h67.D X G
  qK:=h68.D X G
  jo:=h69.D X G
  ow:=h70.D X G
  fH:=h71.D X G
  nU:=h72.D X G
  jq:=h73.D X G
  k6:=h74.D X G
  mV:=h75.D X G
  iV:=h76.D X G
  jA:=h77.D X G
  ou:=h78.D X G
  fW:=h79.D X G
  QU:=h80.F
  abs:=VV X G z_abs
  len:=VV X G z_len
  min:=VV X G z_min
  int:=VV X G z_int
  range:=VV X G z_range
  isinstance:=VV X G z_isinstance
  list:=VV X G z_list
  bool:=VV X G z_bool
  tuple:=VV X G z_tuple
  all:=VV X G z_all
  enumerate:=VV X G z_enumerate
  zip:=VV X G z_zip
  sum:=VV X G z_sum
  XW:=W.mg_of X G ca0
  XU:=λH=>.inr #[_,_,_,cl0,rfl,rfl,jZ rfl,.cons #[_,rfl] (.cons #[_,rfl] (.nil))]
  ZD:=W.mg_of X G ca1
  Zw:=λH=>.inr #[_,_,_,cl1,rfl,rfl,jZ rfl,.cons #[_,rfl] (.cons #[_,rfl] (.nil))]
  XR:=W.mg_of X G ci0
  X8:=W.mg_of X G ci1
  X4:=W.mg_of X G ci2
  XD:=W.mg_of X G aC
  Xm:=#[pg,hd,po,sa]
  XH:=n_move
  Xu:=n_states
  XQ:=n_put
  ZC:=n_ins
  XI:=n_look
  Zc:=n_outs
  XC:=#[mk,a22,i22,kc] }
 show #[_,λs v=>.of_eq rfl,λbase _ _=>Sm T aaM]
theorem walk {l:W.OpenLaw} {K:Params->W.Frag} (hn:l.most=some 63) (hdf:d.params.defaults=[])
  (hi:PyProof.Rows.importsNone q=true)
  (hY:∀(w:Wm) (h:Heap),YP w h->(K w.params).In h)
  (F:∀(w:Wm) (mg:Str->Option Value) (fa:Addr) (h:Heap),(K w.params).In h->h.Ns VE mg->mg d.name=some (.ref fa) →
   ∃fd:Vp,(∀(s:Vr) (u:Value),BindsTo s fd #[[u],[]] [("_law_script",u)])/\∀base:Heap,(K w.params).In base->base.Ns VE mg->qY l.18 w (K w.params) mg base Jg 13 fa fd ["_law_script"] (zg (K w.params))) :
  W.WalkO q loose XP YP l.row.toRowW d [] (λf vs=>PySem.call f vs) :=
 L2.Oq (n:=63) (k:=13) (x:="_law_script") (CX:=λ_=>Jg) (sp:=λw=>zg (K w.params)) hn () hdf #[rfl,(),()] hi hY F (λ_ _ a ns hl _ hS=>#[a,ns,rfl,hS,hl,λ_=>rfl]) λ_ _ _ _ _ z=>z
end Lw
namespace PySem.W.Fast
local macro_rules | `(universe $x*) => do
 let c ← x.mapM fun y => `(def $(Lean.mkIdent (.mkSimple s!"tw{(y.getId.toString.drop 1).foldl (fun a c => a*62+(if c.isDigit then c.toNat-48 else if c.isLower then c.toNat-87 else c.toNat-29)) 0}")):ident:=1)
 return Lean.mkNullNode c
universe ajG5humI6Cjj aaKl0oKJFD8w a3ZBIt2xDmk3 a4pBjDKyaVnR ac8D740SPE2c alk5A4KYIlzk ajpCTEyxKyZI akNa5E3MAmqZ aytXS36xGQh aeFytRo8Gb71 acJISDpdMjIz ajEZq3UmkfLB afEF6oJLOAdA a9RuUuLJy15p a9cgKQzyVy9o a93OLM1lFvf9 a792iJ2l9ZgR a9dKUXo6epsj ai0EVy110hl1 aeVadIfTGiq8 a5pNiiTjQ5FY a8DKLCErExne aluEn1BZoZYr ag5xleQS6L4F alVD3WeTSdy adRkWGVA7EZd abzR4MebxmvY abTLOimJ8rK1 a6oZ2KtLYOP8 a4zs0npPGXg6 ahoERL47WOT6 a1UddBdYFDVa aagLca7qNkOC aewlLL2hgomv a8KLKs2UvIcy ajX9fB32G6gv ahLF7xyOmzk4 adDS7JwiPfsM ahw5XZ8RHWDz adgiJZVTXVcq abbLZ9Wbh2yv alfVVGcR3cT8 a2eU2NLLNYeD aaT0dV9uKGCX alJqp5VOJsnc aeTIfB7djkbY a6ghpGPttMb a9N908whVLbT altmFaAzQV4n a4afaD6BnpsP afTBpa6V6ywN addXuPUdg9by akdLOnC96Es3 ajDwqZBoU0wr agSmVv68ZODc a9xSxOoQzAeR a5aggo9aiUJ6 a8rXG0zxFRPg a7BemhCIXCaA aR8C6rnUDcK a6F351CcfcYS a2yB6r4MdwKe afhlKxeWlCuy aj3HHioJ1Td9 alsN1MrO1V6D a7pTGkM7OCPh a6XShXTtNU88 afYK3H5yAUqH agnjwaIDcqfo a5RVdHZ8AVdp ah6ajR6Hy9Ea a8XFptuRtTwN a2DPbYsJvSNu ae6sYuNJ3ttY a4t6LlfDoONZ af8QpTSYKqNB acfIV0aO2GyF alQC0PWSH9N4 a8klSz9MhSKN ab5JBH7AOz3j a6cQwJULJV8F abEiZC5kAwhF a6VgE784Wqk7 ahqBjD2nXjG1 aeJbHuzZaqjE a7IzIPnt25Xd abuBCF7PiWiT a8roXzbBPzes a7PmXI0Bp6c0 a9jKwhLSZwJk a4osexXTQJhj ab4BthFfFHhh adA9b5QrIpwX akEdTYfHaITO a9qJMV0MJH4p a6de14znr1o4 a4SXhsWElSDi almjivwLrgau aeTLDoKGa6dP alqwTy5C9FIg a4Ef5UJURPKx almJgpd0hBhv aHj5G4j4uQL acSM4YKDh6wQ acR5Nl0FfLD1 alDjcBLp3Q3z acWNoXkx5xIE a7AE0Hm4qDWc aiFkGIS0hh8q a8OdpBf7U8d al2kbI2grd0Q a4AZNLWypTp7 a6mv3KJTz4Nw a4stItwNIBJj a9fW6AmayJB afutvb5Qc5g0 a5KEhmqu4xiT akNhjXbjYcNs adWNkrQhhNMQ abQXMbo3DBhm aaSI1jN3zWTc a3Dj28eYFUhh a2Y2mgRpj0Lu ac59HZqIC14J aiEktbpJsg8c a1AnXP8jCNKK aiDW2dWIY9hP a8KUPiV7yvI5 a7YefDksuJI0 afyivwtoIdYd a8rhSLaWmSI ahtMeW7liHa3 abvTDkNbIvoZ al7n7T7PmNta a455HAkMRztu adTCela24yCV afVG61OUDOYq aa9DZPdkkvPa ac3ch7UH3623 aaczZPa4pJTz agpVTxbitanS aei57zziV9LT ahzKKRurdOBP aiHppXZFnN1T aiPgLErisPpT a6j6iGWPpALP a3U95rFoFNBA a1UEe7wYN7YV a39SNUZtIaeT a7FqfyAZgefg afUa811uv0wq a6pt1bsLY7B0 a41UAgFOF2cA a9CuRzFKXCJ9 acoCgzUIopmy adHVpFfMyYKk ajA3wFyvMUxT a71IuXzqk0a3 aNyz0yHogM ak9WEUt7PIkC ablJywD5TtJo aeVZWNqmILre akqaNqPrsVRU aiiyAMmuYQDU aba6iIwUHJXC ah6xp8ZcyuYO a2T9BsTkGrLL ai3o3pn5uxlB a73onBVxjtd1 aetNnwmyHmyp acq4RwuOiIQQ ad3mW46tVhfL a86V2aOaQly7 agRzPqnpWc1D akXGbMBk0kbx a5F8BrU3IrVd a2NxHxMLo1LR acYY83Sui4sZ ah3fErCm2KbH afv1U4pZPHZ1 a8YAvGPsYmB9 a3bX4IAzZfOf ak3bdSqF28Qp ajOWgThv54o1 a5SL4D8wlY48 ah83jHjNiCgC aiZJz0wrvrfp a7j7CfhnXlvc aco0X6z2zimL adzrfDVO1GWg ahz73aoayKfu a7aqkw24FKx2 aetCoDKEL6Y3 agQQz10h3m4c a6GUV4cSqSGY adebD9TYgaA0 akBShEdgBWG2 a9iQVZyXaSmL aad6y3pjHSqI afaIL4X4GQc9 ahmn3NrdV92s a789ypzuIxnV afRJNIAClooN ahn7HNqWIwuV a3jEGwusC2tz aa1KRriSgN6j ae7axcis0BAn aaMthHFzDdAK aec518zjesqB ai7TFr2SbJfW agv7wf89PfMv aajXJCLOn32K a21dEVumYVlz a8wEc91Eiyt4 a4OID7rHPbsv aiPk6oLbTQdm a4ccmDqCih95 ajFKV0wH5UEj adFmfcDdlqdb abfqReonz9Ou akrpVxvl4b0n a6UMxpEEz9C1 aa85l1Z9vWOq alkCqmeKijHA a89zFqodzRG aeNztTIH3EYw aahej9KTwF2g a1vsucXm6HCM a7Dc3VdmKh7z a2iujyHlDPBl a1tVlUlqNDdM a3V1p4pg8jNT a1z2pChbODoj a4DbuBhyrVDz agsmu4wAW4Cz aclSFPcAarID ajuLakXR3X4W a1EgLK352t8 akDvJsX5F5sI a1cnQcAhtiQn aldykix3IhOa abQjXJzj2yGZ afbFac6UJRV1 a8J6zkvRDHOY a3bO0KKCMd0X a4lRs16u2qAw abF4H0HmstUw aaoQsTwrGBxS aa7LRevvFUJ6 alS5Pr0Cidvj aapZWyZb6ay3 a7Mf5U2vblhE aejf5wQiAldJ aa1jRpwxyw4m alVA5DZatdpk aaUdvg0rpt2r aivSMQadvk82 a2rtL4IicbQW aiDVQseni8ia aghcbT7YWmyf aiK78qCWMEE1 a4CDn1VEhxTT ajtqBQMp87qE aaIAxF534twr a7lUvFgPFRmM a32HR0l1lS6P a5RGBacn2OJd aiufRUHMVip7 a5CDIccgQx4U a9TWNuBgTHQc awnAr8MBisy acqC1FFpCNiu a8h5YySEe0UC a9jm9Zd0iOKn ajoo9Q1TlXrQ a9WJs0ci2675 a3JDC0DXj05D a8WxjgX5MlAp a43XJdehbEKF a3EggXGt5HTy affzPAVKD9dB a8ca512n5RJj a3PwZquLt4Gj aaetIBFTFLOK akwYOktE3uVG a9tBNpT4K3mn a85qmEVe0ZwX aBbbWuTYjHb asD3Q8BOudM ah68uXcQi34L abtacml32VJj adpJhNaqCid4 a87zRj1XuNxi add6MI9CuFq7 aii3sFct978J aai3dfgKg24l ahrR1wWS8sIS ahNyn34gGVMB a6gH4mSZflvO a9ob3IcHWHIf a7E62GBkM1hm adAUkTdS3Q2l a31YDCtqQSms a1rpeuAUhx3M ad1MjGNEjxhf a63Jexb3AKAB ahpvTZGLDUlD awk1gTCdRCf a737lIMRN9ql a6ORGC5T4ca a7DH0DDhP1AX a6XsDIH3CnzC a33r2duXQZUg a8HH7YjcsF2q a90GmEHS0QkI ac7LmXMLKtmo agid2GcV9Lix a3NyZvrW2o16 a1sT14W8M0UL a8PpdYKazwSU a6wMel4UL7wW a67zioTYG0J5 a8vkAVRLXrih a8AL7oj3b9Ux a25iGkIr0Oak ache2E4yIjpE afOD6AGH5ggS aiqpvxFOXBPU agXiDZbz2eMR a3YrnPlJhb6c a4CPDMTh5IhU abnADUGwoT0F acNblixhX7T a5gRGxvq6B4J aeQvDQFPKgwc akTFgE7QsjDJ a9VvmDibP6uJ a2TLlLbV7cum afp7eUmYLcH6 aUMEjEL3P5Z al6nO6GJ33pK alHl7Ti9CB5G aBlRacTQR64 a1ZzoeYOITD0 a3nQCJYhJCVL air4PUQ1q9wi acizAH6nEN2r ajxxE0mC4KLN a3rB7CMEY2AG a7vo0GA7z7Mn a71N5HxXqp9m aa7PAeSk5x19 alb6O879RGZ7 a5NWrIyVdFf4 al8I7PUh3VtV alDYc2rLVf6m acQauxALnEC5 alJpHBL4tWWN afwIQ0JYJwhy aaEuuOtH3TZn aj3eydTGrkbu a2JdOAYLP4Nh a2whIYtjTD0f a1LOWyBEwCwR afLgp5G5fOYM alm5i4WZVRwM afSu8tDDV9Ea a3bPH0tw0ZaE a9O5ZGtmO3oT a8TCfAXQ47Xl aakR9MsoxcjK a711ncBhj0D4 ahWSSTuYiQ0l a1im4eF1VmMu aeDn6SsfFuq9 a5YYF4xNTwtg aiwvxUofX37L a93G11ig8r1K alBPUcAHGI7O aiFK7QlMvUj3 addYsZEdG6g8 af3VUiiKoKTT a4nnbtzn6qoh a91hjXuPJgda aiTJVfmZ1TXw aiqJwFEKFvvi a6qauqW0Gi1u a1k0kPGLl34K a2Z0iKrxA9iU a2wYBvgn0LXZ aan6gW26C7Cx aah4B88WxjDm absdZf68ZuU a7pXbPRm8uK4 aj5D6mio9tih alBuWgyShmYt a7OjSA89uSuI a4UKcruuKyIJ a5ZwcGlxOxsB aheqeOB3l7Gr acO27QM0HSza a6KbjKpjI7HG a4mjsWEyGE8B alfD3E63zohj abpiELgbkpIw aiu9v2o7CN1m a16XUz5VrHcs agGh9eEGtOTH a16xRGviOCwZ a4g8M3zVFrPf aa6GNOaxQNS4 afl0AR87LXBF acwuxrq3my0r ajgaF8nwAcr5 a7O2s9l4qElQ a29GJ7Hew9np ak0sqZOlHBB3 a3nqdFl2KiTY acIHaVDdV04I a2KRo282OTmS akxCswlUlV16 afpWl30FZTkJ agCuW0pjnObz a8ncFMl5lFdS akYzo34WeOFx aIG7E1GiddL a1PIGV6F46M7 aepj4as3y6DH ajQbSSUcE3gw a89nKHZe4kiY a9QMdvCU8lfa aeqobuOAwxZ0 a6dUdO4qlewV abW1EhZln1HG ajpaUhglroer a7O06XdQ6EF7 a946UzPOIIxU acSpUcONgUgn a9oXd7yPXkk1 aKv37SrbQqr abHy2j8hApMJ alhcWcM8GMBL afr0tuYAYgL7 a1FVqK56xidB afG7xHzsbZbE a4ON5kFJPNNA a27QQLE0x27X ab1nVMqzBgNo acpfISnzzXFq ab9XAr0ES8nt a34GEvXCn4Q8 a7V2oWnqHmUm a4OaG83OlN19 aerzbTblHOJ abXrP9w3QMLD ag2WBi4xr3Gj aaHZM9yD3g9L alNNHCBcRg2t a3xK8nnVpv37 aj92Mr5l0jgS
theorem te16516398879231489301:True:=trivial
end PySem.W.Fast
open PySem PySem.W PyProof.Rows
set_option maxRecDepth 100000 in
set_option maxHeartbeats 0 in
theorem PySem.Challenge.cw_helmsum_k76_four_parts_holds : PySem.Challenge.rw_helmsum_k76_four_parts.Holds := by
 w_on;o_law;k_head;(case hw=>w_witness2)
 k_fill
 refine Lw.walk (l:=PySem.Challenge.rw_helmsum_k76_four_parts) rfl rfl ?hi (λw h Y=>PySem.W.kIn_of Y) ?F
 case hi=>decide +kernel
 case F =>
  intro w mg fa h KX G hmg;refine' Lw.all_mk KX G hmg rfl ?aC ?_ ?_ ?_ ?_ ?_ ?_ ?_ ?_ ?_ ?_ ?_ ?_ ?_ ?_ ?_ ?_ ?_ ?_ ?_ ?_ ?_ ?_ ?a22 ?i22 ?l22 ?c22 ?k22 ?_ ?_ ?_ ?_ ?_ ?_ ?_ ?_ ?_ ?_ ?_ ?_ ?_ ?_ ?_ ?_ ?_ ?a40 ?i40 ?l40 ?c40 ?k40 ?_ ?_ ?_ ?_ ?_ ?_ ?_ ?_ ?_ ?_ ?_ ?_ ?_ ?_ ?_ ?_ ?_ ?_ ?_ ?_ ?_ ?_ ?_ ?_ ?_ ?_ ?_ ?_ ?_ ?_ ?_ ?_ ?_ ?_ ?_ ?_ ?_ ?_ ?_ ?_ ?ca0 ?cl0 ?ca1 ?cl1 ?ci0 ?ci1 ?ci2 ?pg ?hd ?po ?sa ?mk ?kc ?n_move ?n_states ?n_put ?n_ins ?n_look ?n_outs ?z_abs ?z_len ?z_min ?z_int ?z_range ?z_isinstance ?z_list ?z_bool ?z_tuple ?z_all ?z_enumerate ?z_zip ?z_sum
  all_goals try refine' Uy ?_ ?_ ?_ ?_
  all_goals try k_is