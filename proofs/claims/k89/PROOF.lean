import PyProof.Rows.All
import Wide.All
import OpenK.AllK
import Wide.FinOn
import Lean
import PyProof.EqAt
import PyProof.EqKinds
import PyProof.TupleCall
import PyProof.NeKinds
import PySem.Challenge.RW_helmsum_k89_whole_pilot_rests
set_option Elab.async false
set_option linter.all false
set_option maxRecDepth 100000
set_option compiler.extract_closed false
open PySem renaming wpAny_bind→K0,FuncData→W0,Shared→Y5,wpAny_pure→Y6,starEach→Y8,Paired→Y9,wpAny→Zd,mainGlobals→Ze,sizeLine→Zh,Program→Zx,wpAny_Call_Name_kw→Zz,Builtin→ZA,wpAny_mono→ZD,wpAny_field→ZG,cellsFrom→ZJ,Around→ZK,NameKind→ZM,World→ZO,compareOp→ZQ,wpAny_holding→ZR,wpAny_seqItems→ZS,wpAny_nextOf_list_item→ZV,wpAny_setField_rec→ZX,wpAny_passesOwn→ZY,wpAny_truthy_bool→ZZ,wpAny_callSpecial?_slot→Z5,bootBuiltins→Z8,wpAny_pyIter_list→aaa,codeAny→aab,codeAny_mono→aad,wpAny_pyIter_zip→aae,backTo→aag,rawInt→aah,wpAny_standAt→aai,assignEach→aak
open List renaming replicate→Wb,zipWith→Wv,range→Zi,lookup→Z0,length→Z7,Nodup→Z9
open PySem.Heap renaming get?_push_of_some→Y4,lt_size→Y7,get?_push_size→Zc,get?_update_other→Zm,size_push→Zy,FlyingW→aaf
open PySem.Value renaming ref→Za,type→ZL,none→ZP
open PySem.PassesOwn renaming never→Zb
open PySem.W renaming findIn→Zf,keepIn→Zs,mg_none_of→Zw,emptyDict→ZF,instObj→ZT,nsIn→ZU,fnOf→Z1,Looks→aac,codeIn→aaj
open PySem.Expr renaming Constant→Zg,Name→Zp
open PySem.Builtin.SmallTypes renaming ownedTupleIsFree→Zj,nextOf→Zt
open PyProof.Rows renaming callWith_type1→Zk,boot_list→Zn,boot_int→Zv,boot_min→ZH,envOfC→Z2,callWith_builtin1→Z4
open PySem.Const renaming int→Zl
open Ne renaming symm→Zo
open PySem.SeqAt renaming EqAt→Zq
open False renaming elim→Zr
open PySem.Obj renaming mapSeq→Zu
open Classical renaming byContradiction→ZC
open Array renaming length_toList→ZE
open PySem.NameKind renaming free→ZI
open Int renaming gcd→ZN
open Option renaming none→ZW
open True renaming intro→aal
def fldOf(i:Lean.Syntax):Option Lean.Ident:=(i.isFieldIdx?.bind λk=>if k<3 then none else ("trans getD toArray heap.objs.size size heap length same get? map lookup toArray extBut env natAbs IsListIter none isList take heap prog mono push symm toks size toNat set len list names IsList other fresh drop range locals after base update stack kind elim Nodup free kindOf frames bare wide unit weak isinstance units there step tuple kept".splitOn " ")[k-3]?).map λf=>Lean.mkIdent f.toName
local macro_rules | `($x.$i:fieldIdx) => match fldOf i with|some f=>`(($x).$f:ident)|_=>Lean.Macro.throwUnsupported
local macro_rules | `($x.$i:fieldIdx $a*) => match fldOf i with|some f=>`(($x).$f:ident $a*)|_=>Lean.Macro.throwUnsupported
local macro_rules | `(#[$a,*]) => `(⟨$a,*⟩)
local macro_rules | `(tactic| obtain $p:rcasesPatMed := $e:term) => do
 let a := p.raw[0].getSepArgs
 let q : Lean.TSyntax `rcasesPat ← if a.size == 1 then pure ⟨a[0]!⟩ else do
  let l ← a.mapM fun x => `(Lean.Parser.Tactic.rcasesPatLo| $(⟨x⟩):rcasesPat)
  `(rcasesPat| ⟨$l,*⟩)
 `(tactic| first | (refine ZC fun ng => ?_; (rcases $e:term with $q:rcasesPat) <;> (refine ng ?_; clear ng)) | rcases $e:term with $q:rcasesPat)
local macro_rules | `(()) => `(by first | decide | lia)
local macro_rules | `(tactic| show $e) => `(tactic| exact $e)
abbrev aa:=@List.getD_eq_getElem?_getD
abbrev ae:=@List.getElem?_eq_getElem
abbrev af:=@List.length_map
abbrev ag:=@Nat.le_trans
abbrev ah:=@Nat.le_refl
abbrev ai:=@List.mem_of_getElem?
abbrev ak:=@Nat.pow_le_pow_right
abbrev ar:=@List.length_append
abbrev au:=@List.mem_map
abbrev aw:=@List.getElem_mem
abbrev ax:=@List.mem_cons
abbrev ay:=@Nat.mul_le_mul_right
abbrev az:=@List.getElem?_map
abbrev aA:=@List.getElem?_eq_none
abbrev aB:=@List.mem_append
abbrev aF:=@List.take_of_length_le
abbrev aH:=@List.getElem?_eq_some_iff
abbrev aI:=@List.not_mem_nil
abbrev aJ:=@List.length_zipWith
abbrev aK:=@PySem.boot_len
abbrev aL:=@Nat.mul_le_mul
abbrev aM:=@List.mem_singleton
abbrev aP:=@Nat.lt_of_le_of_lt
abbrev aQ:=@Bool.false_ne_true
abbrev aV:=@Rat.intCast_mul
abbrev aW:=@Nat.zero_le
abbrev aX:=@Nat.lt_or_ge
abbrev aY:=@List.length_singleton
abbrev aZ:=@Rat.intCast_natCast
abbrev bc:=@List.size_toArray
abbrev bg:=@Nat.pow_add
abbrev bh:=@List.getElem?_zipWith
abbrev br:=@List.length_take
abbrev bu:=@List.getElem_of_mem
abbrev bD:=@Nat.one_le_two_pow
abbrev bE:=@Nat.mul_comm
abbrev bF:=@Nat.lt_of_lt_of_le
abbrev bG:=@List.getElem?_append_right
abbrev bH:=@List.length_cons
abbrev bK:=@List.length_replicate
abbrev bM:=@Nat.ne_of_lt
abbrev bO:=@List.mem_of_mem_take
abbrev bP:=@List.mem_cons_of_mem
abbrev bR:=@List.getElem?_append_left
abbrev bU:=@Option.some.inj
abbrev bV:=@List.mem_append_right
abbrev bX:=@List.length_range
abbrev bY:=@Nat.mul_pos
abbrev cv:=@List.append_assoc
abbrev cw:=@Int.natAbs_natCast
abbrev cx:=@List.getElem?_range
abbrev cy:=@Nat.le_mul_of_pos_left
abbrev cD:=@List.mem_or_eq_of_mem_set
abbrev cJ:=@Nat.mul_assoc
abbrev cK:=@Int.fdiv_eq_ediv_of_nonneg
abbrev cL:=@Rat.mul_comm
abbrev cN:=@List.length_set
abbrev cP:=@List.getElem_zipWith
abbrev cR:=@PySem.F.type_list_append
abbrev cS:=@PySem.F.slot_list_append
abbrev cT:=@List.mem_cons_self
abbrev cV:=@Nat.not_lt_zero
abbrev cW:=@List.nodup_cons
abbrev cX:=@List.nil_append
abbrev cY:=@List.map_append
abbrev cZ:=@PySem.F.plainAttrs_list
abbrev c8:=@Nat.pow_succ
abbrev dg:=@Rat.intCast_neg
abbrev dk:=@Rat.zero_mul
abbrev dm:=@Nat.le_of_lt
abbrev dD:=@Nat.pow_lt_pow_right
abbrev dE:=@Nat.eq_zero_or_pos
abbrev dG:=@Rat.intCast_inj
abbrev dH:=@PySem.W.kia_one
abbrev dN:=@Nat.succ_le_succ
abbrev dO:=@List.ext_getElem
abbrev dP:=@Bool.and_eq_true
abbrev dR:=@List.drop_eq_getElem_cons
abbrev dZ:=@Nat.lt_irrefl
abbrev d5:=@List.eq_of_mem_replicate
abbrev d6:=@Int.mul_assoc
abbrev d9:=@List.append_nil
abbrev eG:=@Nat.le_mul_of_pos_right
abbrev eH:=@List.length_drop
abbrev fq:=@Rat.mul_zero
abbrev fu:=@Option.map_eq_some_iff
abbrev fv:=@Int.natAbs_mul
abbrev fE:=@Nat.mul_le_mul_left
abbrev fP:=@Int.natAbs_dvd_natAbs
abbrev fR:=@Nat.lt_succ_self
abbrev fU:=@List.getElem_map
abbrev fV:=@List.cons_append
abbrev fW:=@Int.gcd_dvd_left
abbrev gJ:=@Int.mul_pos
abbrev gZ:=@List.nodup_append
abbrev hZ:=@List.ext_getElem?
abbrev ia:=@Int.gcd_dvd_right
abbrev ib:=@List.mem_filter
abbrev ir:=@Nat.succ_mul
abbrev iu:=@Nat.add_comm
abbrev iw:=@Int.mul_comm
abbrev iK:=@List.mem_range
abbrev jA:=@List.map_map
abbrev jC:=@Nat.le_of_dvd
abbrev jD:=@List.map_cons
abbrev jE:=@List.getElem?_take_of_lt
abbrev jZ:=@Option.getD_some
abbrev j4:=@Nat.dvd_mul_left
abbrev kC:=@Nat.pow_pos
abbrev kG:=@Nat.sub_self
abbrev kH:=@Int.emod_lt_of_pos
abbrev kI:=@Bool.false_eq_true
abbrev mE:=@Nat.lt_trichotomy
abbrev mG:=@List.flatten_cons
abbrev mM:=@List.nodup_nil
abbrev mO:=@List.mem_of_mem_drop
abbrev mQ:=@List.mem_append_left
abbrev mS:=@Int.natAbs_neg
abbrev nN:=@PySem.IsL.update
abbrev nO:=@List.lookup_cons
abbrev nP:=@Int.gcd_comm
abbrev nZ:=@PySem.F.plain_extend_loop
abbrev oa:=@PySem.mem_of_lookup
abbrev og:=@Nat.pow_le_pow_left
abbrev oh:=@List.replicate_succ
abbrev oU:=@List.range_succ
abbrev oV:=@Int.emod_nonneg
abbrev oW:=@Bool.eq_iff_iff
abbrev o5:=@PySem.W.callWith_K
abbrev pW:=@Nat.mul_add
abbrev pX:=@Int.natCast_dvd_natCast
abbrev pY:=@Int.dvd_mul_of_dvd_left
abbrev qK:=@Nat.ne_of_gt
abbrev qL:=@Nat.min_self
abbrev qM:=@Nat.dvd_mul_right
abbrev qN:=@List.forIn_nil
abbrev rW:=@PySem.F.slot_zip_next
abbrev rY:=@Nat.min_le_right
abbrev rZ:=@Nat.le_add_right
abbrev sv:=@List.all_eq_true
abbrev uG:=@Rat.natCast_mul
abbrev uH:=@List.length_zip
abbrev uI:=@List.forIn_cons
abbrev vR:=@List.map_congr_left
abbrev vS:=@List.filterMap_cons
abbrev v5:=@Rat.add_zero
abbrev wQ:=@Rat.sub_eq_add_neg
abbrev wU:=@List.getElem?_drop
abbrev wV:=@List.filter_append
abbrev wW:=@Int.eq_of_mul_eq_mul_right
abbrev xN:=@Int.mul_neg_of_pos_of_neg
abbrev yM:=@Nat.pow_mul
abbrev yN:=@Nat.one_mul
abbrev yO:=@Nat.le_succ
abbrev Aj:=@Rat.intCast_eq_zero_iff
abbrev Ak:=@List.getElem?_replicate
abbrev Al:=@List.filter_cons_of_pos
abbrev Am:=@List.filter_cons_of_neg
abbrev An:=@Int.eq_ofNat_of_zero_le
abbrev A5:=@PySem.W.cellsFrom_some
abbrev A6:=@Nat.le_of_eq
abbrev A7:=@List.length_pos_of_mem
abbrev A8:=@List.drop_of_length_le
abbrev A9:=@Int.zero_add
abbrev Bc:=@Int.dvd_refl
abbrev De:=@Rat.intCast_sub
abbrev Dg:=@Rat.intCast_add
abbrev Di:=@Nat.le_antisymm
abbrev Dl:=@Bool.beq_eq_decide_eq
abbrev Fd:=@Nat.add_mul
abbrev HY:=@PySem.W.plainGet_of
abbrev HZ:=@List.mem_map_of_mem
abbrev Km:=@Nat.dvd_trans
abbrev Kn:=@Int.natAbs_eq
abbrev Kr:=@Rat.div_mul_cancel
abbrev Ks:=@Nat.sub_add_cancel
abbrev Kt:=@Nat.add_sub_cancel
abbrev Ku:=@List.mem_filterMap
abbrev Kv:=@List.getElem_range
abbrev Kw:=@List.append_of_mem
abbrev Nk:=@Nat.zero_add
abbrev Nl:=@Nat.lt_succ_of_lt
abbrev Q7:=@Rat.one_mul
abbrev Q8:=@Rat.mul_one
abbrev Q9:=@Rat.add_mul
abbrev Rc:=@List.map_id
abbrev Rf:=@Int.dvd_gcd
abbrev Rj:=@Rat.mul_eq_zero
abbrev Rl:=@List.of_mem_zip
abbrev Rm:=@Int.gcd_pos_of_ne_zero_right
abbrev WM:=@PySem.F.entry_extend_loop
abbrev WN:=@List.pairwise_iff_getElem
abbrev WO:=@List.getElem?_zip_eq_some
abbrev WQ:=@Int.natAbs_ediv_of_nonneg
abbrev WS:=@Option.isSome_iff_exists
abbrev Yp:=@PySem.F.args_zip_next_1
abbrev Yq:=@List.length_eq_zero_iff
abbrev _m:=List (List Rat)
abbrev _g:=PySem.W.Frag
namespace L2
open PySem PySem.Spec PyProof.Rows
abbrev Key:=Sum Int Str
def Uu:Key->Value->Bool
 | .inl k,v=>Value.isInt k v
 | .inr x,v=>Value.isStrOf x v
def YL (w:ZO):Key->Int
 | .inl k=>hashInt k
 | .inr x=>hashStr w x
theorem gW:∀{k:Key} {v:Value},Uu k v=true->(∃i t,k=Sum.inl i/\v=Value.int i t)\/(∃x t,k=Sum.inr x/\v=Value.str x t)
 | .inl i,v,h=>by
  obtain t|e:=Value.isInt_shape (k:=i) (v:=v) h;show .inl #[i,t,rfl,e]
 | .inr x,v,h=>by
  obtain t|e:=Value.isStrOf_shape (x:=x) (v:=v) h;show .inr #[x,t,rfl,e]
theorem VZ (a b:Int):decide ((Sum.inl a:Key)=Sum.inl b)=(a == b):=by
 by_cases e:a=b
 ·subst e;simp
 ·have h:¬(Sum.inl a:Key)=Sum.inl b:=λq=>e (Sum.inl.inj q)
  rw[decide_eq_false h];show (beq_eq_false_iff_ne.mpr e).26
theorem VW (a b:Str):decide ((Sum.inr a:Key)=Sum.inr b)=decide (a=b):=by
 by_cases e:a=b
 ·subst e;simp
 ·have h:¬(Sum.inr a:Key)=Sum.inr b:=λq=>e (Sum.inr.inj q)
  rw[decide_eq_false h,decide_eq_false e]
theorem VY (a:Int) (b:Str):decide ((Sum.inl a:Key)=Sum.inr b)=false:=decide_eq_false (λq=>nomatch q)
theorem VX (a:Str) (b:Int):decide ((Sum.inr a:Key)=Sum.inl b)=false:=decide_eq_false (λq=>nomatch q)
def ME (prog:Zx) (w:ZO):PySem.KeyKind prog w Key where
 is:=Uu
 hash:=YL w
 inj:=λv a b ha hb=>by
  rcases gW ha with ⟨i,t,rfl,rfl⟩ | ⟨x,t,rfl,rfl⟩
  ·rcases gW hb with ⟨j,u,rfl,e⟩ | ⟨y,u,rfl,e⟩
   ·injection e with e1 _;rw[e1]
   ·show nomatch e
  ·rcases gW hb with ⟨j,u,rfl,e⟩ | ⟨y,u,rfl,e⟩
   ·show nomatch e
   ·injection e with e1 _;rw[e1]
 byValue:=λk v h=>by
  rcases gW h with ⟨i,t,rfl,rfl⟩ | ⟨x,t,rfl,rfl⟩ <;> rfl
 pyHash:=λhv h=>by
  rcases gW hv with ⟨i,t,rfl,rfl⟩ | ⟨x,t,rfl,rfl⟩
  ·show wpAny_pyHash_int h
  ·show wpAny_pyHash_str h
 eqBool:=λhu hv h=>by
  rcases gW hu with ⟨i,t,rfl,rfl⟩ | ⟨x,t,rfl,rfl⟩
  ·rcases gW hv with ⟨j,u,rfl,rfl⟩ | ⟨y,u,rfl,rfl⟩
   ·rw[VZ] at h;show wpAny_eqBool_int h
   ·rw[VY] at h;show Zq.int_str i t y u _ _ _ _ h
  ·rcases gW hv with ⟨j,u,rfl,rfl⟩ | ⟨y,u,rfl,rfl⟩
   ·rw[VX] at h;show Zq.str_int x t j u _ _ _ _ h
   ·rw[VW] at h;show wpAny_eqBool_str h
 «strs»:=λk x t v h=>by
  rcases gW h with ⟨i,u,rfl,e⟩ | ⟨y,u,rfl,e⟩
  ·show nomatch e
  ·injection e with e1 _
   subst e1;cases v <;> rfl
inductive V where
  | _B | bl (b : Bool) | int (i : Int) | str (x : Str) | byt (b : Array UInt8) | flt (b : UInt64) | ref (a : Addr) | ty (n : String)
  deriving DecidableEq

def RelV:V->Value->Prop
 | ._B,u=>u=ZP
 | .bl b,u=>u=Value.bool b
 | .int i,u=>∃t,u=Value.int i t
 | .str x,u=>∃t,u=Value.str x t
 | .byt b,u=>∃t,u=Value.bytes b t
 | .flt b,u=>∃t,u=Value.float b t
 | .ref a,u=>u=Za a
 | .ty n,u=>u=ZL n
abbrev cU:List V->List Value->Prop:=Y9 RelV
theorem cU.length (r:cU xs us):xs.9=us.9:=Y9.length r
theorem cU.get:∀{xs:List V} {us:List Value} {i:Nat} {x:V},cU xs us->xs[i]?=some x->∃u,us[i]?=some u/\RelV x u
 | _,_,_,_,.nil,e=>by simp at e
 | _,_,0,_,.cons r _,e=>by simp at e;subst e;show #[_,rfl,r]
 | _,_,i+1,x,.cons _ t,e=>by
  obtain u|h1|h2:=cU.get (i:=i) (x:=x) t (by simpa using e);show #[u,by simpa using h1,h2]
theorem cU.set {x:V} {u:Value} (r:RelV x u):∀{xs:List V} {us:List Value} (i:Nat),cU xs us->cU (xs.30 i x) (us.30 i u)
 | _,_,_,.nil=>.nil
 | _,_,0,.cons _ t=>.cons r t
 | _,_,i+1,.cons q t=>.cons q (cU.set r i t)
theorem cU.append:∀{xs ys:List V} {us ws:List Value},cU xs us->cU ys ws->cU (xs++ys) (us++ws)
 | _,_,_,_,.nil,s=>s
 | _,_,_,_,.cons r t,s=>.cons r (cU.append t s)
theorem cU.take:∀{xs:List V} {us:List Value} (n:Nat),cU xs us->cU (xs.21 n) (us.21 n)
 | _,_,0,_=>.nil
 | _,_,_+1,.nil=>.nil
 | _,_,n+1,.cons r t=>.cons r (cU.take n t)
theorem cU.drop:∀{xs:List V} {us:List Value} (n:Nat),cU xs us->cU (xs.37 n) (us.37 n)
 | _,_,0,r=>r
 | _,_,_+1,.nil=>.nil
 | _,_,n+1,.cons _ t=>cU.drop n t
def C8:Option V->Option Value->Prop
 | some v,some u=>RelV v u
 | none,none=>True
 | _,_=>False
def KV {κ:Type}:List (κ×V)->List (κ×Value)->Prop:=Y9 λ(p:κ×V) (q:κ×Value)=>p.1=q.1/\RelV p.2 q.2
def kV:Key->V
 | .inl i=>.int i
 | .inr x=>.str x
inductive HO where
 | lst (xs:List V)
 | tup (xs:List V)
 | dK (I!:List (Key×V)) | dT (I!:List (List Key×V))
 | set (S:Int->Bool) (n:Nat)
 | ins (C dx:Addr) (fs:List (Str×V))
 | own (x:Addr)
 | xd (fs:List (Str×V))
 | met (f x:Addr)
 | Q! (lo hi:Int)
 | frz (o:Obj) (u:HO)
 | tbl (ps:Array Value)
 | ext (φ:Heap->Prop)
abbrev Hp:=Addr->Option HO
def upd (H:Hp) (a:Addr) (o:HO):Hp:=λb=>if b=a then some o else H b
theorem aD:upd H a o a=some o:=by unfold upd;rw[if_pos rfl]
theorem aR (h:b≠a):upd H a o b=H b:=by unfold upd;rw[if_neg h]
theorem dU {H:Hp} (h:H a=some o) (h':H b=none):a≠b:=by
 intro e;subst e;rw[h] at h';cases h'
section
variable (P:Zx) (w:ZO)
def iJ (H:Hp) (h:Heap) (a:Addr):HO->Prop
 | .lst xs=>xs.9<=Zh/\∃(_n:List Value) (n:Nat),cU xs _n/\h.11 a=some { cls:=.type "list",data:=.seq _n.14 n }
 | .tup xs=>xs.9<=Zh/\∃_n:List Value,cU xs _n/\IsTup h a _n.5
 | .dK I!=>I!.9<=Zh/\(a == sysModules)=false/\∃vs,KV I! vs/\h.DictOf (ME P w) a vs
 | .dT I!=>I!.9<=Zh/\(a == sysModules)=false/\∃xs:List (List Key×Addr×Value),
   Y9 (λ(p:List Key×V) (q:List Key×Addr×Value)=>p.1=q.1/\H q.2.1=some (.tup (p.1.12 kV))/\RelV p.2 q.2.2) I! xs /\
   ∃o es ep,h.11 a=some o/\o.ExactDict/\o.data=.dict es ep/\es.toList=xs.12 (entryOfKey (tupleKind (ME P w)))/\(xs.12 (·.1)).46
 | .set S n=>h.SetOf (intKind P w) a S n
 | .ins C dx fs=>H dx=some (.own a)/\fs.9<=1000/\dx≠a/\h.11 a=some (ZT C dx) /\
   ∃mA,h.Ns1 dx mA/\(∀f,C8 (fs.13 f) (mA f))/\PySem.Within mA (fs.12 (·.1))
 | .own _=>∃o,h.11 a=some o
 | .xd fs=>∃mA,h.Ns1 a mA/\∀f,C8 (fs.13 f) (mA f)
 | .Q! lo hi=>∃t u v,h.11 a=some { cls:=.type "range",data:=.fields [.int lo t,.int hi u,.int 1 v].14 }
 | .frz o u=>h.11 a=some o/\iJ H h a u
 | .tbl ps=>h.11 a=some { cls:=.none,data:=.fields ps }
 | .met f x=>h.11 a=some (PySem.W.methodObj (.ref f) (.ref x))
 | .ext φ=>φ h/\(∃o,h.11 a=some o)/\∀h1 h2:Heap,φ h1->(∀o,h1.11 a=some o->h2.11 a=some o)->φ h2
def yR (H:Hp) (h:Heap):Prop:=∀a o,H a=some o->iJ P w H h a o
end
section
variable {P:Zx} {w:ZO} {H H':Hp} {h h':Heap} {a:Addr} {o:HO}
theorem iJ.lt (x:iJ P w H h a o):a < h.objs.7:=by
 cases o with
 | lst xs=>obtain _|_|_|_|e:=x;show Y7 e
 | tup xs=>obtain _|_|_|p:=x;show p.lt
 | dK I!=>obtain _|_|_|_|o|_|_|e|_:=x;show Y7 e
 | dT I!=>obtain _|_|_|_|o|_|_|e|_:=x;show Y7 e
 | set S n=>obtain o|_|_|_|e|_:=x;show Y7 e
 | ins C dx fs=>obtain _|_|_|e|_:=x;show Y7 e
 | own y=>obtain _|e:=x;show Y7 e
 | xd fs=>obtain _|⟨_,_,_,e,_⟩|_:=x;show Y7 e
 | Q! lo hi=>obtain _|_|_|e:=x;show Y7 e
 | frz ob u=>obtain e|_:=x;show Y7 e
 | tbl ps=>show Y7 (show h.11 a=some _ from x)
 | met f y=>show Y7 (show h.11 a=some _ from x)
 | ext φ=>obtain _|⟨_,e⟩|_:=x;show Y7 e
theorem Y9.adt {α β:Type} {F G:α->β->Prop}:∀{l₁:List α} {l₂:List β},Y9 F l₁ l₂->(∀a b,F a b->G a b)->Y9 G l₁ l₂
 | _,_,.nil,_=>.nil
 | _,_,.cons r t,f=>.cons (f _ _ r) (Y9.adt t f)
theorem Y9.imp' {F G:α->β->Prop} (f:∀a b,F a b->G a b) {l₁:List α} {l₂:List β} (r:Y9 F l₁ l₂):Y9 G l₁ l₂:=Y9.adt r f
abbrev ce:=@Y9.imp'
theorem iJ.r! (x:iJ P w H h a o) (k:∀b u,(b=a\/H b=some (.own a))->h.11 b=some u->h'.11 b=some u)
  (ho:∀b,H b=some (.own a)->H' b=some (.own a)) (ht:∀b xs,H b=some (.tup xs)->H' b=some (.tup xs)):iJ P w H' h' a o:=by
 induction o with
 | lst xs=>obtain z|_n|n|r|e:=x;show #[z,_n,n,r,k _ _ (.inl rfl) e]
 | tup xs=>obtain z|_n|r|ob|e|c:=x;show #[z,_n,r,ob,k _ _ (.inl rfl) e,c]
 | dK I!=>obtain z|y|vs|r|ob|es|ep|e|c:=x;show #[z,y,vs,r,ob,es,ep,k _ _ (.inl rfl) e,c]
 | dT I! =>
  obtain z|y|xs|r|ob|es|ep|e|c:=x;show #[z,y,xs,Y9.adt r λp q z=>#[z.1,ht _ _ z.2.1,z.2.2],ob,es,ep,k _ _ (.inl rfl) e,c]
 | set S n=>obtain ob|es|ep|t|e|c:=x;show #[ob,es,ep,t,k _ _ (.inl rfl) e,c]
 | ins C dx fs =>
  obtain d|z|ne|e|mA|⟨od,es,ep,e2,c⟩|r:=x;show #[ho _ d,z,ne,k _ _ (.inl rfl) e,mA,#[od,es,ep,k _ _ (.inr d) e2,c],r]
 | own y=>obtain ob|e:=x;show #[ob,k _ _ (.inl rfl) e]
 | xd fs=>obtain mA|⟨od,es,ep,e,c⟩|r:=x;show #[mA,#[od,es,ep,k _ _ (.inl rfl) e,c],r]
 | Q! lo hi=>obtain t|u|v|e:=x;show #[t,u,v,k _ _ (.inl rfl) e]
 | frz ob u ih=>obtain e|q:=x;show #[k _ _ (.inl rfl) e,ih q]
 | tbl ps =>
  have e:h.11 a=some { cls:=.none,data:=.fields ps }:=x;change h'.11 a=some { cls:=.none,data:=.fields ps }
  show k a _ (.inl rfl) e
 | met f y =>
  have e:h.11 a=some (PySem.W.methodObj (.ref f) (.ref y)):=x;change h'.11 a=some (PySem.W.methodObj (.ref f) (.ref y))
  show k a _ (.inl rfl) e
 | ext φ=>obtain p|⟨o,e⟩|st:=x;show #[st _ _ p λo q=>k _ _ (.inl rfl) q,#[o,k _ _ (.inl rfl) e],st]
theorem yR.lt (x:yR P w H h) (e:H a=some o):a < h.objs.7:=(x a o e).lt
theorem yR.fresh (x:yR P w H h) (e:h.objs.7<=a):H a=none:=by
 cases q:H a with
 | none=>rfl
 | some u=>show absurd (bF (x.lt q) e) (dZ _)
theorem yR.kept (x:yR P w H h) (k:∀b u,h.11 b=some u->h'.11 b=some u):yR P w H h':=λa o e =>
 (x a o e).r! (λb u _ q=>k b u q) (λ_ q=>q) λ_ _ q=>q
theorem yR.laid (x:yR P w H h) (k:∀b u,h.11 b=some u->h'.11 b=some u) (hp:h.objs.7<=a) (new:iJ P w (upd H a o) h' a o):yR P w (upd H a o) h':=λb u e=>by
 have hn:=x.36 hp;by_cases hb:b=a
 ·subst hb;rw[aD] at e;cases e;show new
 ·rw[aR hb] at e;show (x b u e).r! (λc v _ q=>k c v q) (λc q=>by rw[aR (dU q hn)];show q) λc xs q=>by rw[aR (dU q hn)];show q
end
def Rd (H:Hp) (a:Addr) (u:HO):Prop:=H a=some u\/∃o,H a=some (.frz o u)
theorem Rd.ok (r:Rd H a u) (x:yR P w H h):iJ P w H h a u:=by
 rcases r with r | ⟨o,r⟩
 ·show x a u r
 ·obtain _|q:=x a _ r;show q
def YA:Option HO->Prop
 | some (.lst _)=>True
 | some (.dK _)=>True
 | some (.dT _)=>True
 | some (.set _ _)=>True
 | some (.ins _ _ _)=>True
 | some (.ext _)=>True
 | _=>False
theorem yR.write (ok:yR P w H h) (mu:YA (H x)) (he:e=x\/H e=some (.own x)) (k:∀b u,b≠e->h.11 b=some u->h'.11 b=some u) (heo:∃u,h'.11 e=some u)
  (new:iJ P w (upd H x o') h' x o'):yR P w (upd H x o') h':=λb u q=>by
 have aeX:∀c y,H c=some (.own y)->c≠x:=λc y r z=>by subst z;rw[r] at mu;show mu
 have aiq:∀c xs,H c=some (.tup xs)->c≠x:=λc xs r z=>by subst z;rw[r] at mu;show mu
 by_cases hb:b=x
 ·subst hb;rw[aD] at q;cases q;show new
 ·rw[aR hb] at q;by_cases hbe:b=e
  ·have q':H b=some (.own x):=by
    rcases he with z | z
    ·show absurd (hbe.3 z) hb
    ·rw[hbe];show z
   rw[q] at q';cases q';obtain v|hv:=heo;show #[v,by rw[hbe];show hv]
  ·refine (ok b u q).r! (λc v hc r=>k c v ?_ r) (λc r=>by rw[aR (aeX c b r)];show r) λc xs r=>by rw[aR (aiq c xs r)];show r
   rcases hc with rfl | hc
   ·show hbe
   ·rintro rfl;rcases he with z | z
    ·show aeX c b hc z
    ·rw[hc] at z;cases z;show hb rfl
structure Un (fs ex:List Addr) (H H':Hp) (h h':Heap):Prop where
 keep:∀b o,h.11 b=some o->H b=none->b∉fs->b∉ex->h'.11 b=some o
 slot:∀b o,h.11 b=some o->H b=none->b∈fs->b∉ex->∃sl,h'.11 b=some { o with slots:=sl }
 free:∀b o,h.11 b=some o->H b=none->b∉ex->H' b=none
 there:∀b o,h.11 b=some o->b∉ex->∃o',h'.11 b=some o'
 z!:∀b xs,H b=some (.tup xs)->H' b=some (.tup xs)
 x!:∀b o u,H b=some (.frz o u)->H' b=some (.frz o u)
 A!:∀b ps,H b=some (.tbl ps)->∃more,H' b=some (.tbl (ps++more))
section
variable {fs fs' ex ex':List Addr} {H H1 H2:Hp} {h h1 h2 h':Heap} {a x e:Addr} {o:HO}
theorem Un.any (u:Un fs ex H H1 h h1) (q:h.11 b=some ob) (n:H b=none) (hx:b∉ex):∃sl,h1.11 b=some { ob with slots:=sl }:=by
 by_cases hb:b∈fs
 ·show u.slot b ob q n hb hx
 ·show #[ob.slots,u.keep b ob q n hb hx]
theorem Un.kept (k:∀b u,h.11 b=some u->h'.11 b=some u):Un fs ex H H h h' :=
 #[λb ob q _ _ _=>k b ob q,λb ob q _ _ _=>#[ob.slots,k b ob q],λ_ _ _ n _=>n,λb ob q _=>#[ob,k b ob q],λ_ _ q=>q,λ_ _ _ q=>q,λ_ ps q=>#[[].14,by rw[q];simp]]
theorem Un.refl:Un fs ex H H h h:=Un.kept λ_ _ q=>q
theorem Un.laid (k:∀b u,h.11 b=some u->h'.11 b=some u) (hp:h.objs.7<=a) (hn:H a=none):Un fs ex H (upd H a o) h h' where
 keep:=λb u q _ _ _=>k b u q
 slot:=λb u q _ _ _=>#[u.slots,k b u q]
 free:=λb u q n _=>by rw[aR (bM (bF (Y7 q) hp))];show n
 there:=λb u q _=>#[u,k b u q]
 z!:=λb xs q=>by rw[aR (dU q hn)];show q
 x!:=λb u xs q=>by rw[aR (dU q hn)];show q
 A!:=λb ps q=>#[[].14,by rw[aR (dU q hn),q];simp]
theorem Un.write (mu:YA (H x)) (he:e=x\/H e=some (.own x)) (k:∀b u,b≠e->h.11 b=some u->h'.11 b=some u) (heo:∃u,h'.11 e=some u):Un fs ex H (upd H x o) h h':=by
 have hx:∀b,H b=none->b≠x:=λb n z=>by subst z;rw[n] at mu;show mu
 have hb:∀b,H b=none->b≠e:=λb n z=>by
  subst z;rcases he with r | r
  ·show hx b n r
  ·rw[n] at r;cases r
 have hm:∀b u,H b=some u->¬YA (some u)->b≠x:=λb u q nm z=>by subst z;rw[q] at mu;show nm mu
 refine #[λb u q n _ _=>k b u (hb b n) q,λb u q n _ _=>#[u.slots,k b u (hb b n) q],λb u q n _=>by rw[aR (hx b n)];show n,λb u q _=>?_,
  λb xs q=>by rw[aR (hm b _ q λz=>z)];show q,λb u xs q=>by rw[aR (hm b _ q λz=>z)];show q,λb ps q=>#[[].14,by rw[aR (hm b _ q λz=>z),q];simp]]
 by_cases hbe:b=e
 ·subst hbe;show heo
 ·show #[u,k b u hbe q]
end
def Yv (h:Heap) (H:Hp):List Addr:=(Zi h.objs.7).filter λa=>(H a).isSome
def Gj (h:Heap) (H:Hp):Heap:=PySem.W.hideAll h (Yv h H)
theorem N3 (h:Heap) (H:Hp):(Gj h H).objs.size=h.objs.7:=PySem.W.hideAll_size _ _
theorem Qi (e:h.11 b=some o) (n:H b=none):(Gj h H).11 b=some o :=
 PySem.W.hideAll_get _ e λhm=>by
  have q:(H b).isSome=true:=(ib.mp hm).2;rw[n] at q;simp at q
theorem SN (e:(Gj h H).11 b=some o):h.11 b=some o/\H b=none:=by
 have e':h.11 b=some o:=PySem.W.of_hideAll (Yv h H) e;refine #[e',?_];cases q:H b with
 | none=>rfl
 | some x =>
  have hm:b∈Yv h H:=ib.mpr #[iK.mpr (Y7 e'),by simp [q]];have z:(Gj h H).11 b=none:=PySem.W.hideAll_none (Yv h H) hm;rw[z] at e;cases e
structure Mod (K:_g) (mg:Str->Option Value) (base:Heap):Prop where
 kin:K.In base
 glob:base.Ns Ze mg
 blt:∃mb,base.Ns builtinsNs mb/\∀x:Str,x≠"__name__"->mb x=Z8 x
 nolimit:base.NoLimit
 seer:base.NoSeer
structure Cx where
 prog:Zx
 w:ZO
 K:_g
 mg:Str->Option Value
 base:Heap
 A:ZK
 N:List Str
 s₀:Y5
 H₀:Hp
 env:Env
 outer:List Env
 stack:List Env
 ex:List Addr
 fn:Str->Bool
 calm:Bool
 pn:List (Addr×Obj)
 xe:Value->Y5->Prop
def yx (l:List Env):List Addr:=l.filterMap (·.frame)
abbrev Cx.fs (X:Cx):List Addr:=yx X.outer
def YS (sc:Scope) (x:Str):Prop:=sc.names.13 x=some .local\/sc.names.13 x=some .cell\/sc.names.13 x=some .free
def Loc (sc:Scope) (x:Str):Prop:=sc.names.13 x=some .local\/sc.names.13 x=some .cell
def Look (env:Env) (h:Heap) (m:Str->Option Value) (x:Str) (u:Value):Prop :=
 (env.48 x=some .local/\m x=some u)\/((env.48 x=some .cell\/env.48 x=some .free)/\∃c,env.cells.13 x=some c/\h.IsCell c (some u))
structure Cx.Ok (X:Cx):Prop where
 mod:Mod X.K X.mg X.41
 kind:X.env.scope.44=.function
 glob:X.env.globals=Ze
 blt:X.env.builtins=builtinsNs
 above:X.s₀.6<=X.env.39
 inj:∀x y c,X.env.cells.13 x=some c->X.env.cells.13 y=some c->x=y
 has:∀x,(X.env.48 x=some .cell\/X.env.48 x=some .free)->∃c,X.env.cells.13 x=some c
 cab:∀x c,X.fn x=true->X.env.cells.13 x=some c->X.s₀.6<=c
 hd:X.calm=true->X.A.handled=none
 frames:X.A.49=some X.43
 stk:X.43=X.outer\/(X.43=X.16 :: X.outer/\X.env.frame=some X.env.39)
 exf:∀b∈X.ex,b≠X.env.39/\∀x c,X.env.cells.13 x=some c->c≠b
 bs:∀b o,X.base.11 b=some o->X.s₀.heap.11 b=some o/\X.H₀ b=none
 bsz:X.base.objs.7<=X.s₀.heap.objs.28
 aaG:∀b o,X.base.11 b=some o->b∉X.ex
 aaL:∀b∈X.ex,b∉X.fs
 e!:X.s₀.heap.FunFrames X.41 X.outer
 frf:∀b∈X.fs,X.H₀ b=none
structure Inv (X:Cx) (_a:List (Addr×Obj)) (σ:List (Option V)) (H:Hp) (s:Y5):Prop where
 ok:X.Ok
 os:s.os=X.s₀.os
 bare:AllBare s.gens
 base:Un X.fs X.ex X.H₀ H X.s₀.22 s.22
 loc:∃m,s.heap.Ns X.env.39 m/\∀(i:Nat) (x:Str) (v:V),X.N[i]?=some x->σ[i]?=some (some v)->YS X.env.scope x->∃u,RelV v u/\Look X.16 s.22 m x u
 cell:∀x c,X.env.cells.13 x=some c->∃v,s.heap.IsCell c v
 free:H X.env.39=none
 _K:∀x c,X.env.cells.13 x=some c->H c=none
 pin:∀p∈X.pn++_a,s.heap.11 p.1=some p.2/\H p.1=none/\p.1≠X.env.39/\p.1∉X.fs/\∀v,p.2.data≠.cell v
 _u:yR X.23 X.w H s.22
 len:σ.9=X.N.9
section
variable {X:Cx} {_a:List (Addr×Obj)} {σ:List (Option V)} {H H':Hp} {s:Y5} {h':Heap}
theorem Cx.Ok.ais (ok:X.Ok) (e:X.base.11 b=some o):b∉X.fs:=λhb=>by
 have:=(ok.e!.mem hb).1;rw[e] at this;cases this
theorem Inv.bs (I:Inv X _a σ H s):∀b o,X.base.11 b=some o->s.heap.11 b=some o/\H b=none:=λb o e =>
 #[I.base.keep b o (I.ok.bs b o e).1 (I.ok.bs b o e).2 (I.ok.ais e) (I.ok.aaG b o e),I.base.47 b o (I.ok.bs b o e).1 (I.ok.bs b o e).2 (I.ok.aaG b o e)]
theorem Inv.bk (I:Inv X _a σ H s):∀b o,X.base.11 b=some o->s.heap.11 b=some o:=λb o e=>(I.bs b o e).1
theorem Inv.mod (I:Inv X _a σ H s):Mod X.K X.mg X.41:=I.ok.mod
theorem Inv._X (I:Inv X _a σ H s):X.K.In s.8:=I.ok.mod.kin.keeps I.bk
theorem Inv.nolimit (I:Inv X _a σ H s):s.heap.NoLimit:=I.ok.mod.nolimit.keeps I.bk
theorem Inv.lt (I:Inv X _a σ H s):X.env.39 < s.6:=let ⟨_,hn,_⟩:=I.loc;hn.lt
theorem Inv.sz (I:Inv X _a σ H s):X.s₀.6<=s.6:=ag I.ok.above (dm I.lt)
theorem Inv.air (I:Inv X _a σ H s) {a:Addr} (h:s.6<=a):a∉X.fs:=λhb=>by
 obtain _|o|ho|_:=I.ok.e!.mem hb;show absurd (bF (Y7 ho) (ag I.sz h)) (dZ _)
theorem Inv.cne (I:Inv X _a σ H s):∀x c,X.env.cells.13 x=some c->c≠X.env.39:=λx c e z=>by
 obtain v|o|ho|hd:=I.cell x c e;obtain m|⟨o',es,ep,ho',hd',_⟩|_:=I.loc;rw[z,ho'] at ho;cases ho;rw[hd'] at hd;cases hd
theorem Inv.e! (I:Inv X _a σ H s):s.heap.FunFrames X.41 X.outer:=by
 have all:∀(l:List Env),(∀b∈yx l,b∈X.fs)->X.s₀.heap.FunFrames X.41 l->s.heap.FunFrames X.41 l:=by
  intro l
  induction l with
  | nil=>intro _ _;trivial
  | cons env r ih =>
   intro hs hl;obtain hk|⟨L,o,hf,hn,ho,hd⟩|hr:=hl;have hL:L∈X.fs:=hs L (by unfold yx;rw[vS,hf];show cT);obtain sl|e:=I.base.slot L o ho (I.ok.frf L hL) hL λz=>I.ok.aaL L z hL
   show #[hk,#[L,_,hf,hn,e,hd],ih (λb hb=>hs b (by unfold yx;rw[vS,hf];show bP _ hb)) hr]
 show all X.outer (λ_ hb=>hb) I.ok.e!
theorem Inv.stack (I:Inv X _a σ H s):s.heap.FunFrames X.41 X.43:=by
 rcases I.ok.stk with e | ⟨e,hf⟩
 ·rw[e];show I.e!
 ·rw[e];obtain m|hn|_:=I.loc;refine .cons (by rw[I.ok.44];decide) hf hn ?_ I.e!;show Heap.get?_none_of_le (ag I.ok.bsz I.ok.above)
theorem Inv.aaR (I:Inv X _a σ H s):∀b∈yx X.43,b∈X.env.39 :: X.fs:=λb hb=>by
 rcases I.ok.stk with e | ⟨e,hf⟩
 ·rw[e] at hb;show bP _ hb
 ·rw[e] at hb;unfold yx at hb;rw[vS,hf] at hb;show hb
theorem Inv.B! (I:Inv X _a σ H s):∀b∈yx X.43,H b=none:=λb hb=>by
 rcases ax.mp (I.aaR b hb) with e | hb
 ·rw[e];show I.47
 ·obtain _|o|ho|_:=I.ok.e!.mem hb;show I.base.47 b o ho (I.ok.frf b hb) λz=>I.ok.aaL b z hb
theorem Inv.step {ch:List Addr} (I:Inv X _a σ H s)
  (hch:∀b∈ch,(b∈X.ex\/X.s₀.6<=b)/\b≠X.env.39/\(∀x c,X.env.cells.13 x=some c->c≠b)/\∀p∈X.pn++_a,p.1≠b)
  (keep:∀b o,b≠X.env.39->b∉X.fs->b∉ch->s.heap.11 b=some o->H b=none->h'.11 b=some o)
  (slot:∀b o,b≠X.env.39->b∈X.fs->b∉ch->s.heap.11 b=some o->H b=none->∃sl,h'.11 b=some { o with slots:=sl }) (free:∀b o,b∉ch->s.heap.11 b=some o->H b=none->H' b=none)
  (there:∀b o,b∉ch->s.heap.11 b=some o->∃o',h'.11 b=some o')
  (z!:∀b xs,H b=some (.tup xs)->H' b=some (.tup xs)) (x!:∀b o u,H b=some (.frz o u)->H' b=some (.frz o u)) (A!:∀b ps,H b=some (.tbl ps)->∃more,H' b=some (.tbl (ps++more)))
  (ns:∀m,s.heap.Ns X.env.39 m->h'.Ns X.env.39 m) (_u:yR X.23 X.w H' h') (hg:AllBare g') :
  Inv X _a σ H' { s with heap:=h',gens:=g',drawn:=d',toks:=t' }:=by
 have neL:∀b o,X.s₀.heap.11 b=some o->b≠X.env.39:=λb o e=>bM (bF (Y7 e) I.ok.above)
 have neC:∀b o,X.s₀.heap.11 b=some o->b∉X.ex->b∉ch:=λb o e hx hb=>by
  rcases (hch b hb).1 with z | z
  ·show hx z
  ·show absurd (bF (Y7 e) z) (dZ _)
 have cellK:∀x c,X.env.cells.13 x=some c->∀v,s.heap.IsCell c v->h'.IsCell c v:=λx c e v #[o,ho,hd]=>by
  have nch:c∉ch:=λz=>(hch c z).2.2.1 x c e rfl
  by_cases hc:c∈X.fs
  ·obtain sl|q:=slot c o (I.cne x c e) hc nch ho (I._K x c e);show #[_,q,hd]
  ·show #[o,keep c o (I.cne x c e) hc nch ho (I._K x c e),hd]
 refine #[I.ok,I.os,hg,#[λb o e n hb hx=>?_,λb o e n hb hx=>?_,λb o e n hx=>?_,λb o e hx=>?_,λb xs e=>z! b xs (I.base.z! b xs e),λb o xs e=>x! b o xs (I.base.x! b o xs e),λb ps e=>?_],?_,λx c e=>?_,?_,λx c e=>?_,λp hp=>?_,_u,I.31]
 ·show keep b o (neL b o e) hb (neC b o e hx) (I.base.keep b o e n hb hx) (I.base.47 b o e n hx)
 ·obtain sl|e1:=I.base.slot b o e n hb hx;obtain sl'|e2:=slot b _ (neL b o e) hb (neC b o e hx) e1 (I.base.47 b o e n hx);show #[sl',e2]
 ·obtain o'|e1:=I.base.56 b o e hx;show free b o' (neC b o e hx) e1 (I.base.47 b o e n hx)
 ·obtain o'|e1:=I.base.56 b o e hx;show there b o' (neC b o e hx) e1
 ·obtain m1|e1:=I.base.A! b ps e;obtain m2|e2:=A! b _ e1;show #[m1++m2,by rw[e2,Array.append_assoc]]
 ·obtain m|hn|hl:=I.loc;refine #[m,ns m hn,λi x v e1 e2 e3=>?_];obtain u|r|l:=hl i x v e1 e2 e3;refine #[u,r,?_];rcases l with l | ⟨k,c,e,z⟩
  ·show .inl l
  ·show .inr #[k,c,e,cellK x c e _ z]
 ·obtain v|z:=I.cell x c e;show #[v,cellK x c e v z]
 ·obtain m|⟨o,_,_,ho,_⟩|_:=I.loc;show free _ o (λz=>(hch _ z).2.1 rfl) ho I.47
 ·obtain v|o|ho|hd:=I.cell x c e;show free c o (λz=>(hch c z).2.2.1 x c e rfl) ho (I._K x c e)
 ·obtain e|n|ne|nf|d:=I.pin p hp;have nch:p.1∉ch:=λz=>(hch p.1 z).2.2.2 p hp rfl
  show #[keep p.1 p.2 ne nf nch e n,free p.1 p.2 nch e n,ne,nf,d]
theorem Inv.un (I:Inv X _a σ H s) (u:Un X.fs [] H H' s.22 h') (_u:yR X.23 X.w H' h'):Inv X _a σ H' { s with heap:=h',toks:=t' }:=by
 obtain m|⟨o,es,ep,ho,r⟩|_:=id I.loc;obtain sl|hL:=u.any ho I.47 (by simp)
 show I.57 (g':=s.gens) (d':=s.drawn) (ch:=[]) (λ_ z=>nomatch z) (λb o _ hb _ e n=>u.keep b o e n hb (by simp)) (λb o _ hb _ e n=>u.slot b o e n hb (by simp)) (λb o _ e n=>u.47 b o e n (by simp)) (λb o _ e=>u.56 b o e (by simp)) u.z! u.x! u.A! (λm' hm=>by
  obtain o'|es'|ep'|ho'|r':=hm;rw[ho] at ho';cases ho';show #[_,es',ep',hL,r']) _u I.50
theorem Inv.call (I:Inv X _a σ H s) (u:Un (yx X.43) ch H H' s.22 h') (_u:yR X.23 X.w H' h') (hg:AllBare g')
  (hch:∀b∈ch,(b∈X.ex\/X.s₀.6<=b)/\b≠X.env.39/\(∀x c,X.env.cells.13 x=some c->c≠b)/\∀p∈X.pn++_a,p.1≠b) :
  Inv X _a σ H' { s with heap:=h',gens:=g',drawn:=d',toks:=t' }:=by
 obtain m|⟨o,es,ep,ho,r⟩|_:=id I.loc;obtain sl|hL:=u.any ho I.47 λz=>(hch _ z).2.1 rfl
 show I.57 (ch:=ch) hch (λb o hL hb hc e n=>u.keep b o e n (λz=>(ax.mp (I.aaR b z)).45 hL hb) hc) (λb o _ _ hc e n=>u.any e n hc) (λb o hc e n=>u.47 b o e n hc) (λb o hc e=>u.56 b o e hc) u.z! u.x! u.A! (λm' hm=>by
  obtain o'|es'|ep'|ho'|r':=hm;rw[ho] at ho';cases ho';show #[_,es',ep',hL,r']) _u hg
theorem Inv.turned (I:Inv X _a σ H s) (k:∀b o,b≠it->s.heap.11 b=some o->h'.11 b=some o) (hn:H it=none) (hL:it≠X.env.39)
  (h1:it∈X.ex\/X.s₀.6<=it) (h2:∀x c,X.env.cells.13 x=some c->c≠it) (h3:∀p∈X.pn++_a,p.1≠it):Inv X _a σ H { s with heap:=h',toks:=t' }:=by
 have nit:∀b u,H b=some u->b≠it:=λb u e z=>by rw[z,hn] at e;cases e
 refine I.57 (g':=s.gens) (d':=s.drawn) (ch:=[it]) (λb hb=>?_) (λb o _ _ hc e _=>k b o (λz=>hc (by simp [z])) e) (λb o _ _ hc e _=>#[o.slots,k b o (λz=>hc (by simp [z])) e]) (λ_ _ _ _ n=>n)
  (λb o hc e=>#[o,k b o (λz=>hc (by simp [z])) e]) (λ_ _ e=>e) (λ_ _ _ e=>e) (λb ps e=>#[[].14,by rw[e];simp]) (λm hm=>?_) (λb u e=>?_) I.50
 ·have e:b=it:=by simpa using hb
  subst e;show #[h1,hL,h2,h3]
 ·obtain o|es|ep|ho|r:=hm;show #[o,es,ep,k _ o (Zo hL) ho,r]
 ·refine (I._u b u e).r! (λc v hc q=>k c v ?_ q) (λ_ q=>q) λ_ _ q=>q
  rcases hc with z | z
  ·rw[z];show nit b u e
  ·show nit c _ z
theorem Inv.tok (I:Inv X _a σ H s) (t:Nat):Inv X _a σ H { s with toks:=t }:=I.un (h':=s.8) (t':=t) Un.refl I._u
theorem Inv.kept (I:Inv X _a σ H s) (k:∀b u,s.heap.11 b=some u->h'.11 b=some u):Inv X _a σ H { s with heap:=h',toks:=t' }:=I.un (Un.kept k) (I._u.59 k)
theorem Inv.laid {a:Addr} (I:Inv X _a σ H s) (k:∀b u,s.heap.11 b=some u->h'.11 b=some u) (hp:s.6<=a) (new:iJ X.23 X.w (upd H a o) h' a o) :
  Inv X _a σ (upd H a o) { s with heap:=h',toks:=t' }:=I.un (Un.laid k hp (I._u.36 hp)) (I._u.laid k hp new)
theorem Inv.write (I:Inv X _a σ H s) (mu:YA (H x)) (he:e=x\/H e=some (.own x)) (k:∀b u,b≠e->s.heap.11 b=some u->h'.11 b=some u) (heo:∃u,h'.11 e=some u)
  (new:iJ X.23 X.w (upd H x o) h' x o):Inv X _a σ (upd H x o) { s with heap:=h',toks:=t' }:=I.un (Un.write mu he k heo) (I._u.write mu he k heo new)
theorem Inv.O! (I:Inv X _a σ H s) (h:∀p∈pins',s.heap.11 p.1=some p.2/\H p.1=none/\p.1≠X.env.39/\p.1∉X.fs/\∀v,p.2.data≠.cell v):Inv X pins' σ H s :=
 #[I.ok,I.os,I.50,I.41,I.loc,I.cell,I.47,I._K,λp hp=>(aB.mp hp).45 (λz=>I.pin p (mQ _ z)) (h p),I._u,I.31]
theorem Jg {N:List Str} (hN:N.46) {i j:Nat} (a:N[i]?=some x) (b:N[j]?=some x):i=j:=by
 obtain h1|e1:=aH.mp a;obtain h2|e2:=aH.mp b;show (List.getElem_inj hN).mp (e1.3 e2.26)
theorem Ei {M:Model} {A:ZK} {E:Value->Y5->Prop} {i:Nat} {x:Str} {v:V} {u:Value} {Q:Unit->Y5->Prop} (I:Inv X _a σ H s) (hN:X.N.46) (hi:X.N[i]?=some x) (hx:Loc X.env.scope x) (r:RelV v u)
  (h:∀s',Inv X _a (σ.30 i (some v)) H s'->(∃a,Heap.SameBut a s.22 s'.8/\(a=X.env.39\/X.env.cells.13 x=some a))->Q .unit s') (hf:X.fn x=true\/X.env.scope.names.13 x=some .local:=by first | show .inl rfl | show .inr rfl | assumption):Zd M A (storeName X.16 x u) Q E s:=by
 obtain m|hn|hl:=id I.loc;have ajJ:(X.env.scope.44 == .class || (X.env.scope.44 == .module && X.env.39 != X.env.globals))=false:=by rw[I.ok.44];rfl
 have hiσ:i < σ.9:=by rw[I.31];show (aH.mp hi).1
 have cne:=I.cne
 have tracked:∀{a:Addr} {h':Heap},(∃o,s.heap.11 a=some o/\H a=none)->Heap.SameBut a s.22 h'->yR X.23 X.w H h':=λ{a h'} ha hs b ob e=>by
  obtain _|_|acX:=ha;refine (I._u b ob e).r! (λc w' hc q=>(hs.2 c ?_).3 q) (λ_ q=>q) λ_ _ q=>q
  rintro rfl;rcases hc with rfl | hc
  ·rw[acX] at e;cases e
  ·rw[acX] at hc;cases hc
 rcases hx with hk | hk
 ·refine wpAny_storeName_local hk hn (λh' hn' hs=>?_) ajJ;obtain oL|_|_|hoL|_:=id hn;refine h _ #[I.ok,I.os,I.50,#[λb o e n hb hx=>?_,λb o e n hb hx=>?_,I.base.47,λb o e hx=>?_,I.base.z!,I.base.x!,I.base.A!],#[_,hn',λj y v' e1 e2 e3=>?_],λy c e=>?_,I.47,I._K,λp hp=>?_,tracked #[oL,hoL,I.47] hs,by simpa using I.31] #[_,hs,.inl rfl]
  ·show (hs.2 b (bM (bF (Y7 e) I.ok.above))).3 (I.base.keep b o e n hb hx)
  ·obtain sl|e1:=I.base.slot b o e n hb hx;show #[sl,(hs.2 b (bM (bF (Y7 e) I.ok.above))).3 e1]
  ·obtain o'|e1:=I.base.56 b o e hx;show #[o',(hs.2 b (bM (bF (Y7 e) I.ok.above))).3 e1]
  ·by_cases hj:j=i
   ·subst hj;rw[hi] at e1;cases e1;rw[List.getElem?_set_self hiσ] at e2;cases e2;show #[u,r,.inl #[hk,by simp]]
   ·rw[List.getElem?_set_ne (Zo hj)] at e2;obtain u'|r'|q:=hl j y v' e1 e2 e3;refine #[u',r',?_];rcases q with ⟨k,e⟩ | ⟨k,c,e,z⟩
    ·refine .inl #[k,?_];have:y≠x:=λe=>hj (Jg hN e1 (e ▸ hi))
     simp [this,e]
    ·show .inr #[k,c,e,z.sameBut hs (cne y c e)]
  ·obtain w'|z:=I.cell y c e;show #[w',z.sameBut hs (cne y c e)]
  ·obtain e|n|ne|nf|d:=I.pin p hp;show #[(hs.2 p.1 ne).3 e,n,ne,nf,d]
 ·have hfn:X.fn x=true:=by
   rcases hf with z | z
   ·show z
   ·rw[z] at hk;cases hk
  obtain c|hc:=I.ok.has x (.inl hk);obtain w'|z:=I.cell x c hc;refine wpAny_storeName_cell I.ok.44 hk hc z (λh' hc' hs=>?_);obtain oc|hoc|ajs:=id z;refine h { s with heap:=h' } ⟨I.ok,I.os,I.50,⟨λb o e n hb hx=>?_,λb o e n hb hx=>?_,I.base.47,λb o e hx=>?_,I.base.z!,I.base.x!,I.base.A!⟩,#[m,hn.sameBut hs (Zo (cne x c hc)),λj y v' e1 e2 e3=>?_],λy c' e=>?_,I.47,I._K,λp hp=>?_,tracked #[oc,hoc,I._K x c hc] hs,by simpa using I.31⟩ #[c,hs,.inr hc]
  ·show (hs.2 b (bM (bF (Y7 e) (I.ok.cab x c hfn hc)))).3 (I.base.keep b o e n hb hx)
  ·obtain sl|e1:=I.base.slot b o e n hb hx;show #[sl,(hs.2 b (bM (bF (Y7 e) (I.ok.cab x c hfn hc)))).3 e1]
  ·obtain o'|e1:=I.base.56 b o e hx;show #[o',(hs.2 b (bM (bF (Y7 e) (I.ok.cab x c hfn hc)))).3 e1]
  ·by_cases hj:j=i
   ·subst hj;rw[hi] at e1;cases e1;rw[List.getElem?_set_self hiσ] at e2;cases e2;show #[u,r,.inr #[.inl hk,c,hc,hc']]
   ·rw[List.getElem?_set_ne (Zo hj)] at e2;obtain u'|r'|q:=hl j y v' e1 e2 e3;refine #[u',r',?_];rcases q with q | ⟨k,c',e,z'⟩
    ·show .inl q
    ·refine .inr #[k,c',e,z'.sameBut hs ?_];rintro rfl;show hj (Jg hN e1 (I.ok.inj _ _ _ e hc ▸ hi))
  ·by_cases hcc:c'=c
   ·subst hcc;show #[_,hc']
   ·obtain w2|z2:=I.cell y c' e;show #[w2,z2.sameBut hs hcc]
  ·obtain e|n|ne|nf|d:=I.pin p hp;refine #[(hs.2 p.1 ?_).3 e,n,ne,nf,d];intro q;rw[q,hoc] at e;have q':oc=p.2:=bU e;show d w' (by rw[<- q'];show ajs)
theorem xS {M:Model} {A:ZK} {E:Value->Y5->Prop} {i:Nat} {x:Str} {v:V} {u:Value} {Q:Unit->Y5->Prop} (I:Inv X _a σ H s) (hN:X.N.46) (hi:X.N[i]?=some x) (hx:Loc X.env.scope x) (r:RelV v u)
  (h:∀s',Inv X _a (σ.30 i (some v)) H s'->Q .unit s') (hf:X.fn x=true\/X.env.scope.names.13 x=some .local:=by first | show .inl rfl | show .inr rfl | assumption):Zd M A (storeName X.16 x u) Q E s :=
 Ei I hN hi hx r (λs' I' _=>h s' I') hf
theorem Inv.afW (I:Inv X _a σ H s) (ho:s'.os=s.os) (u:Un (yx X.43) ch H H' s.22 s'.8) (_u:yR X.23 X.w H' s'.8) (hg:AllBare s'.gens)
  (hch:∀b∈ch,(b∈X.ex\/X.s₀.6<=b)/\b≠X.env.39/\(∀x c,X.env.cells.13 x=some c->c≠b)/\∀p∈X.pn++_a,p.1≠b):Inv X _a σ H' s':=by
 obtain h'|g'|d'|t'|o':=s';have e:o'=s.os:=ho;subst e;show I.call (g':=g') (t':=t') (d':=d') u _u hg hch
end
abbrev XK:=Value->Option Addr->Hp->Prop
abbrev St:=List (Option V)
abbrev VK:=V->Hp->Prop
abbrev TE:=St->Hp->VK->Prop
abbrev TT:=St->Hp->(Bool->Hp->Prop)->Prop
abbrev TA:=St->Hp->(List V->Hp->Prop)->Prop
structure Ends where
 nx:St->Hp->Prop
 rt:VK
 bk:St->Hp->Prop:=λ_ _=>False
 ct:St->Hp->Prop:=λ_ _=>False
abbrev TS:=Ends->St->Hp->Prop
def EP (X:Cx) (_a:List (Addr×Obj)) (σ:St) (Q:VK) (u:Value) (s':Y5):Prop:=∃v H',Inv X _a σ H' s'/\RelV v u/\Q v H'
def TP (X:Cx) (_a:List (Addr×Obj)) (σ:St) (Q:Bool->Hp->Prop) (b:Bool) (s':Y5):Prop:=∃H',Inv X _a σ H' s'/\Q b H'
def AP (X:Cx) (_a:List (Addr×Obj)) (σ:St) (Q:List V->Hp->Prop) (us:List Value) (s':Y5):Prop:=∃vs H',Inv X _a σ H' s'/\cU vs us/\Q vs H'
def SP (X:Cx) (_a:List (Addr×Obj)) (D:Ends) (f:Flow) (s':Y5):Prop :=
 match f with
 | .next=>∃σ' H',Inv X _a σ' H' s'/\D.nx σ' H'
 | .brk=>∃σ' H',Inv X _a σ' H' s'/\D.bk σ' H'
 | .cont=>∃σ' H',Inv X _a σ' H' s'/\D.ct σ' H'
 | .ret u=>∃v σ' H',Inv X _a σ' H' s'/\RelV v u/\D.rt v H'
def PE (X:Cx) (e:Expr) (t:TE):Prop :=
 ∀(_a:List (Addr×Obj)) (s:Y5) (σ:St) (H:Hp) (Q:VK),Inv X _a σ H s->t σ H Q->Zd (model X.23 X.w) X.A (eval e X.16) (EP X _a σ Q) X.xe s
def PT (X:Cx) (e:Expr) (t:TT):Prop :=
 ∀(_a:List (Addr×Obj)) (s:Y5) (σ:St) (H:Hp) (Q:Bool->Hp->Prop),Inv X _a σ H s->t σ H Q->Zd (model X.23 X.w) X.A (isTrue e X.16 (eval e X.16)) (TP X _a σ Q) X.xe s
def PW (X:Cx) (e:Expr) (t:TT):Prop :=
 ∀(whole:Sem Value) (_a:List (Addr×Obj)) (s:Y5) (σ:St) (H:Hp) (Q:Bool->Hp->Prop),Inv X _a σ H s->t σ H Q->Zd (model X.23 X.w) X.A (isTrue e X.16 whole) (TP X _a σ Q) X.xe s
theorem PW.pt (h:PW X e t):PT X e t:=h _
def PA (X:Cx) (es:List Expr) (t:TA):Prop :=
 ∀(pos:Pos) (_a:List (Addr×Obj)) (s:Y5) (σ:St) (H:Hp) (Q:List V->Hp->Prop),Inv X _a σ H s->t σ H Q->Zd (model X.23 X.w) X.A (spliced (aag pos (Y8 es X.16))) (AP X _a σ Q) X.xe s
def PS (X:Cx) (st:Stmt) (t:TS):Prop :=
 ∀(_a:List (Addr×Obj)) (s:Y5) (σ:St) (H:Hp) (D:Ends),Inv X _a σ H s->t D σ H->Zd (model X.23 X.w) X.A (exec st X.16) (SP X _a D) X.xe s
def Fc (X:Cx) (st:List Stmt) (t:TS):Prop :=
 ∀(_a:List (Addr×Obj)) (s:Y5) (σ:St) (H:Hp) (D:Ends),Inv X _a σ H s->t D σ H->Zd (model X.23 X.w) X.A (execs st X.16) (SP X _a D) X.xe s
theorem ik {t:Sem α} {Q Q':α->Y5->Prop} (h:Zd M A t Q E s) (hQ:∀a s,Q a s->Q' a s):Zd M A t Q' E s:=ZD h hQ λ_ _ x=>x
section
variable {X:Cx}
def UZ (i:Nat):TE:=λσ H Q=>∃v,σ[i]?=some (some v)/\Q v H
def tC (v:V):TE:=λ_ H Q=>Q v H
theorem VH {i:Nat} {x:Str} {pos:Pos} (hN:X.N[i]?=some x) (hv:YS X.env.scope x) (hd:(x == ("__debug__":Str))=false:=by decide) (hcd:(x == ("__classdict__":Str))=false:=by decide):PE X (.Name x pos) (UZ i):=by
 intro _a s σ H Q I h;obtain v|e|h:=h;obtain m|hn|hl:=I.loc;obtain u|r|l:=hl i x v hN e hv;have fin:EP X _a σ Q u s:=#[v,H,I,r,h];rcases l with ⟨hk,hm⟩ | ⟨hk,c,hc,acY⟩
 ·show wpAny_Name (wpAny_loadName_local I.ok.44 hk hn hm fin) hd
 ·rcases hk with hk | hk
  ·show wpAny_Name (wpAny_loadName_cell I.ok.44 hk hc acY fin) hd
  ·show wpAny_Name (wpAny_loadName_free I.ok.44 hk hc acY fin hcd) hd
theorem aj:PE X (.Constant (.int i) j pos) (tC (.int i)):=λ_ _ _ H _ I h=>wpAny_Constant_int #[.int i,H,I.tok _,#[_,rfl],h]
theorem z8:PE X (.Constant (.bool b) j pos) (tC (.bl b)):=λ_ _ _ H _ I h=>Constant_bool #[.bl b,H,I,rfl,h]
theorem tz:PE X (.Constant .none j pos) (tC ._B):=λ_ _ _ H _ I h=>Constant_none #[._B,H,I,rfl,h]
def Gl (X:Cx) (x:Str):Prop:=X.env.48 x=some .globalImplicit
theorem vZ {E:Value->Y5->Prop} {_a:List (Addr×Obj)} {s:Y5} {σ:St} {H:Hp} {x:Str} {u:Value} {pos:Pos} {Q:Value->Y5->Prop} (I:Inv X _a σ H s) (hg:Gl X x) (hm:X.mg x=some u) (h:Q u s)
  (hd:(x == ("__debug__":Str))=false:=by decide):Zd (model X.23 X.w) X.A (eval (.Name x pos) X.16) Q E s :=
 Calls.Name_function_global I.ok.44 hg (Calls.loadGlobal_global (by rw[I.ok.glob];show I.mod.glob.keeps I.bk) hm h) hd
theorem m5 {E:Value->Y5->Prop} {_a:List (Addr×Obj)} {s:Y5} {σ:St} {H:Hp} {x:Str} {u:Value} {pos:Pos} {Q:Value->Y5->Prop} (I:Inv X _a σ H s) (hg:Gl X x) (hm:X.mg x=none) (hv:Z8 x=some u) (h:Q u s)
  (hn:x≠"__name__":=by decide) (hd:(x == ("__debug__":Str))=false:=by decide):Zd (model X.23 X.w) X.A (eval (.Name x pos) X.16) Q E s:=by
 obtain mb|h1|h2:=I.mod.blt;show Calls.Name_function_global I.ok.44 hg (Calls.loadGlobal_builtin (by rw[I.ok.glob];show I.mod.glob.keeps I.bk) hm (by rw[I.ok.blt];show h1.keeps I.bk) ((h2 x hn).3 hv) h) hd
theorem ng {x:Str} {v:V} {u:Value} {pos:Pos} (hg:Gl X x) (hm:X.mg x=some u) (r:RelV v u) (hd:(x == ("__debug__":Str))=false:=by decide):PE X (.Name x pos) (tC v) :=
 λ_ _ _ H _ I h=>vZ I hg hm #[v,H,I,r,h] hd
theorem My {x:Str} {v:V} {u:Value} {pos:Pos} (hg:Gl X x) (hm:X.mg x=none) (hv:Z8 x=some u) (r:RelV v u) (hn:x≠"__name__":=by decide) (hd:(x == ("__debug__":Str))=false:=by decide):PE X (.Name x pos) (tC v) :=
 λ_ _ _ H _ I h=>m5 I hg hm hv #[v,H,I,r,h] hn hd
variable {a b:Expr} {ta tb:TE} {pos:Pos}
def tB (t:TE):TT:=λσ H Q=>t σ H λx H1=>∃c,x=.bl c/\Q c H1
theorem mW {e:Expr} {t:TE} (h:PE X e t) (he:∀whole,isTrue e X.16 whole=(do let v <- whole;standAt e.pos;holding [v] (truthy v)):=by intro _;rfl):PT X e (tB t):=by
 intro _a s σ H Q I hw;refine isTrue_plain (ik (h _a s σ H _ I hw) λv s1 hz=>?_) (he _);obtain x|H1|I1|r1|q1:=hz;obtain d|rfl|q:=q1;cases r1;show ZZ #[H1,I1,q]
variable {tA tB':TT} {rest:List Expr}
def Xm (t u:TT):TT:=λσ H Q=>t σ H λc H1=>if c=true then u σ H1 Q else Q false H1
def tOr (t u:TT):TT:=λσ H Q=>t σ H λc H1=>if c=true then Q true H1 else u σ H1 Q
def W8 (t:TT):TT:=λσ H Q=>t σ H λc H1=>Q (!c) H1
theorem kD (ha:PT X a tA):PW X (.BoolOp .And [a] pos) tA:=by
 intro wh _a s σ H Q I h;refine isTrue_and (ik (ha _a s σ H Q I h) λc s1 e=>?_);cases c with
 | true=>show isTrue_and_nil e
 | false=>show e
theorem oq (ha:PT X a tA):PW X (.BoolOp .Or [a] pos) tA:=by
 intro wh _a s σ H Q I h;refine isTrue_or (ik (ha _a s σ H Q I h) λc s1 e=>?_);cases c with
 | false=>show isTrue_or_nil e
 | true=>show e
theorem j9 (ha:PT X a tA) (hb:PW X (.BoolOp .And (b :: rest) pos) tB'):PW X (.BoolOp .And (a :: b :: rest) pos) (Xm tA tB'):=by
 intro wh _a s σ H Q I h;refine isTrue_and (ik (ha _a s σ H _ I h) λc s1 hz=>?_);obtain H1|I1|q1:=hz;cases c with
 | true=>show hb wh _a s1 σ H1 Q I1 q1
 | false=>show #[H1,I1,q1]
theorem ui (ha:PT X a tA) (hb:PW X (.BoolOp .Or (b :: rest) pos) tB'):PW X (.BoolOp .Or (a :: b :: rest) pos) (tOr tA tB'):=by
 intro wh _a s σ H Q I h;refine isTrue_or (ik (ha _a s σ H _ I h) λc s1 hz=>?_);obtain H1|I1|q1:=hz;cases c with
 | true=>show #[H1,I1,q1]
 | false=>show hb wh _a s1 σ H1 Q I1 q1
theorem rf (ha:PT X a tA):PT X (.UnaryOp .Not a pos) (W8 tA):=by
 intro _a s σ H Q I h;show isTrue_not (ha _a s σ H (λc H1=>Q (!c) H1) I h)
def Ul (ta tb:TE):TE:=λσ H Q=>ta σ H λx H1=>∃c,x=.bl c/\if c=true then tb σ H1 Q else Q (.bl false) H1
def W6 (ta tb:TE):TE:=λσ H Q=>ta σ H λx H1=>∃c,x=.bl c/\if c=true then Q (.bl true) H1 else tb σ H1 Q
def Ug (ta:TE):TE:=λσ H Q=>ta σ H λx H1=>∃c,x=.bl c/\Q (.bl (!c)) H1
theorem FT (h:PE X a t):PE X (.BoolOp op [a] pos) t:=λ_a s σ H Q I hw=>BoolOp_one (h _a s σ H Q I hw)
theorem K2 (ha:PE X a ta) (hb:PE X (.BoolOp .And (b :: rest) pos) tb):PE X (.BoolOp .And (a :: b :: rest) pos) (Ul ta tb):=by
 intro _a s σ H Q I h;refine BoolOp_and (ik (ha _a s σ H _ I h) λv s1 hz=>?_);obtain x|H1|I1|r1|q1:=hz;obtain c|rfl|q1:=q1;cases r1;refine ZZ ?_;cases c with
 | true=>show hb _a s1 σ H1 Q I1 q1
 | false=>show #[.bl false,H1,I1,rfl,q1]
theorem XG (ha:PE X a ta) (hb:PE X (.BoolOp .Or (b :: rest) pos) tb):PE X (.BoolOp .Or (a :: b :: rest) pos) (W6 ta tb):=by
 intro _a s σ H Q I h;refine BoolOp_or (ik (ha _a s σ H _ I h) λv s1 hz=>?_);obtain x|H1|I1|r1|q1:=hz;obtain c|rfl|q1:=q1;cases r1;refine ZZ ?_;cases c with
 | false=>show hb _a s1 σ H1 Q I1 q1
 | true=>show #[.bl true,H1,I1,rfl,q1]
theorem VI (ha:PE X a ta):PE X (.UnaryOp .Not a pos) (Ug ta):=by
 intro _a s σ H Q I h;refine UnaryOp_ (ik (ha _a s σ H _ I h) λv s1 hz=>?_);obtain x|H1|I1|r1|q1:=hz;obtain c|rfl|q1:=q1;cases r1;show not_of (ZZ #[.bl (!c),H1,I1,rfl,q1])
def tIf (t:TT) (ta tb:TE):TE:=λσ H Q=>t σ H λc H1=>if c=true then ta σ H1 Q else tb σ H1 Q
theorem IY (hc:PT X c tA) (ha:PE X a ta) (hb:PE X b tb):PE X (.IfExp c a b pos) (tIf tA ta tb):=by
 intro _a s σ H Q I h;refine wpAny_IfExp (ik (hc _a s σ H _ I h) λd s1 hz=>?_);obtain H1|I1|q1:=hz;cases d with
 | true=>show ha _a s1 σ H1 Q I1 q1
 | false=>show hb _a s1 σ H1 Q I1 q1
end
def bA (K:_g) (H:Hp) (a:Addr) (xs:List V):Prop :=
 Rd H a (.lst xs) \/
  ∃(o:Obj) (_n:Array Value) (n:Nat),K.13 a=some o/\o.cls=.type "list"/\o.dict=none/\o.data=.seq _n n/\_n.7<=Zh/\cU xs _n.toList
def ue (K:_g) (H:Hp) (a:Addr) (xs:List V):Prop :=
 Rd H a (.tup xs) \/
  ∃(o:Obj) (_n:Array Value) (n:Nat),K.13 a=some o/\o.cls=.type "tuple"/\o.data=.seq _n n/\_n.7<=Zh/\cU xs _n.toList
def YR:Value->Option V
 | .none=>some ._B
 | .bool b=>some (.bl b)
 | .int i _=>some (.int i)
 | .str x _=>some (.str x)
 | .bytes b _=>some (.byt b)
 | .float b _=>some (.flt b)
 | .ref a=>some (.ref a)
 | .type n=>some (.ty n)
 | _=>none
theorem RelV.abs (r:RelV x u):YR u=some x:=by
 cases x with
 | _B=>cases r;rfl
 | bl _=>cases r;rfl
 | int _=>obtain t|rfl:=r;rfl
 | str _=>obtain t|rfl:=r;rfl
 | byt _=>obtain t|rfl:=r;rfl
 | flt _=>obtain t|rfl:=r;rfl
 | ref _=>cases r;rfl
 | ty _=>cases r;rfl
theorem RelV.inj (r:RelV x u) (q:RelV y u):x=y:=bU (r.abs.symm.3 q.abs)
theorem cU.inj:∀{xs ys:List V} {us:List Value},cU xs us->cU ys us->xs=ys
 := by
 intro xs ys us h
 induction h generalizing ys with
 | nil=>intro h';cases h';rfl
 | cons r t ih=>intro h';cases h' with | cons r' t'=>rw[r.inj r',ih t']
section
variable {σ:St}
theorem bA.of {K:_g} (h:H a=some (.lst xs)):bA K H a xs:=.inl (.inl h)
theorem ue.of {K:_g} (h:H a=some (.tup xs)):ue K H a xs:=.inl (.inl h)
theorem Inv.list (I:Inv X _a σ H s) (h:bA X.K H a xs):∃_n:List Value,cU xs _n/\PlainL s.22 a _n.5/\xs.9<=Zh:=by
 rcases h with h | ⟨o,_n,n,hk,hc,hd,hs,hz,r⟩
 ·obtain z|_n|n|r|e:=h.ok I._u;show #[_n,r,#[_,n,e,rfl,rfl,rfl],z]
 ·refine #[_n.toList,r,#[o,n,I._X a o hk,hc,hd,by simpa using hs],?_];have e:=r.9;simp only[ZE] at e
  lia
theorem Inv.tuple (I:Inv X _a σ H s) (h:ue X.K H a xs):∃_n:List Value,cU xs _n/\IsTup s.22 a _n.5/\xs.9<=Zh:=by
 rcases h with h | ⟨o,_n,n,hk,hc,hs,hz,r⟩
 ·obtain z|_n|r|p:=h.ok I._u;show #[_n,r,p,z]
 ·refine #[_n.toList,r,#[o,I._X a o hk,hc,n,by simpa using hs],?_];have e:=r.9;simp only[ZE] at e
  lia
theorem Inv._D (I:Inv X _a σ H s) (h:bA X.K H a xs) (h':bA X.K H a ys):xs=ys:=by
 obtain _n|r|⟨o,n,e,_,_,d⟩|_:=I.32 h;obtain its'|r'|⟨o',n',e',_,_,d'⟩|_:=I.32 h';rw[e] at e';cases e';rw[d] at d';injection d' with d1 _
 have:_n=its':=by simpa using congrArg Array.toList d1
 subst this;show r.inj r'
theorem Inv.H! (I:Inv X _a σ H s) (h:ue X.K H a xs) (h':ue X.K H a ys):xs=ys:=by
 obtain _n|r|⟨o,e,_,n,d⟩|_:=I.58 h;obtain its'|r'|⟨o',e',_,n',d'⟩|_:=I.58 h';rw[e] at e';cases e';rw[d] at d';injection d' with d1 _
 have:_n=its':=by simpa using congrArg Array.toList d1
 subst this;show r.inj r'
end
abbrev Cx.wish (X:Cx) (E:Value->Y5->Prop):Cx:={ X with xe:=E }
abbrev Cx.nox (X:Cx):Cx:=X.wish λ_ _=>False
theorem Cx.Ok.wish {X:Cx} (ok:X.Ok) (E:Value->Y5->Prop):(X.wish E).Ok :=
 #[ok.mod,ok.44,ok.glob,ok.blt,ok.above,ok.inj,ok.has,ok.cab,ok.hd,ok.49,ok.stk,ok.exf,ok.bs,ok.bsz,ok.aaG,ok.aaL,ok.e!,ok.frf]
theorem Cx.Ok.c! {X:Cx} (ok:(X.wish E).Ok):X.Ok :=
 #[ok.mod,ok.44,ok.glob,ok.blt,ok.above,ok.inj,ok.has,ok.cab,ok.hd,ok.49,ok.stk,ok.exf,ok.bs,ok.bsz,ok.aaG,ok.aaL,ok.e!,ok.frf]
section
variable {σ:St}
theorem Inv.wish (I:Inv X _a σ H s) (E:Value->Y5->Prop):Inv (X.wish E) _a σ H s:=#[I.ok.wish E,I.os,I.50,I.41,I.loc,I.cell,I.47,I._K,I.pin,I._u,I.31]
theorem Inv.c! (I:Inv (X.wish E) _a σ H s):Inv X _a σ H s:=#[I.ok.c!,I.os,I.50,I.41,I.loc,I.cell,I.47,I._K,I.pin,I._u,I.31]
theorem SP.c! (h:SP (X.wish E) _a D f s'):SP X _a D f s':=by
 cases f with
 | next=>obtain σ'|H'|I|q:=h;show #[σ',H',I.c!,q]
 | brk=>obtain σ'|H'|I|q:=h;show #[σ',H',I.c!,q]
 | cont=>obtain σ'|H'|I|q:=h;show #[σ',H',I.c!,q]
 | ret u=>obtain v|σ'|H'|I|r|q:=h;show #[v,σ',H',I.c!,r,q]
theorem Fc.nox {st:List Stmt} (h:Fc X.nox st t):Fc X st t:=λ_a s σ H D I hw =>
 ZD (h _a s σ H D (I.wish _) hw) (λ_ _ q=>q.c!) λ_ _ z=>Zr z
end
section
variable {X:Cx} {st:Stmt} {rest:List Stmt} {t u:TS} {e:Expr} {te:TE} {pos:Pos}
def Uh:TS:=λD σ H=>D.nx σ H
def W3 (t u:TS):TS:=λD σ H=>t { D with nx:=u D } σ H
theorem b9:Fc X [] Uh:=λ_ _ σ H _ I h=>wpAny_execs_nil #[σ,H,I,h]
theorem ao (h1:PS X st t) (h2:Fc X rest u):Fc X (st :: rest) (W3 t u):=by
 intro _a s σ H D I h;refine wpAny_execs_cons (ik (h1 _a s σ H { D with nx:=u D } I h) λf s1 q=>?_);cases f with
 | next =>
  obtain σ'|H'|I'|q:=q;show h2 _a s1 σ' H' D I' q
 | ret v=>show q
 | brk=>show q
 | cont=>show q
theorem av (h1:PS X st t):Fc X [st] t:=by
 intro _a s σ H D I h;refine wpAny_execs_cons (ik (h1 _a s σ H D I h) λf s1 q=>?_);cases f with
 | next=>show wpAny_execs_nil q
 | ret v=>show q
 | brk=>show q
 | cont=>show q
theorem Inv.quiet {σ:St} (I:Inv X _a σ H s):interactive X.16=false:=by simp [interactive,I.ok.44]
def Uj (te:TE):TS:=λD σ H=>te σ H λ_ H1=>D.nx σ H1
theorem jv (he:PE X e te) (hs:swapsWith e none pos.line X.16=pure false:=by rfl):PS X (.Expr e pos) (Uj te):=by
 intro _a s σ H D I h;show wpAny_Expr_any (ik (he _a s σ H _ I h) λv s1 #[x,H1,I1,r1,q1]=>#[σ,H1,I1,q1]) I.quiet hs
def W4 (te:TE):TS:=λD σ H=>te σ H D.rt
theorem aT (he:PE X e te):PS X (.Return (some e) pos) (W4 te):=by
 intro _a s σ H D I h;show wpAny_Return_some (ik (he _a s σ H _ I h) λv s1 #[x,H1,I1,r1,q1]=>#[x,σ,H1,I1,r1,q1])
def Xe (c:TT) (t u:TS):TS:=λD σ H=>c σ H λb H1=>if b=true then t D σ H1 else u D σ H1
theorem dj (hc:PT X c tc) (ha:Fc X a t) (hb:Fc X b u):PS X (.If c a b pos) (Xe tc t u):=by
 intro _a s σ H D I h;refine wpAny_If (ik (hc _a s σ H _ I h) λd s1 hz=>?_);obtain H1|I1|q1:=hz;cases d with
 | true=>show ha _a s1 σ H1 D I1 q1
 | false=>show hb _a s1 σ H1 D I1 q1
end
abbrev TG:=V->St->Hp->(St->Hp->Prop)->Prop
abbrev Ri:=List V->St->Hp->(St->Hp->Prop)->Prop
def PG (X:Cx) (target:Expr) (t:TG):Prop :=
 ∀(_a:List (Addr×Obj)) (s:Y5) (σ:St) (H:Hp) (v:V) (u:Value) (Q:St->Hp->Prop),Inv X _a σ H s->RelV v u->t v σ H Q →
  Zd (model X.23 X.w) X.A (assign target X.16 u) (λ_ s'=>∃σ' H',Inv X _a σ' H' s'/\Q σ' H') X.xe s
def Yh (X:Cx) (ts:List Expr) (t:Ri):Prop :=
 ∀(_a:List (Addr×Obj)) (s:Y5) (σ:St) (H:Hp) (vs:List V) (us:List Value) (Q:St->Hp->Prop),Inv X _a σ H s->cU vs us->t vs σ H Q →
  Zd (model X.23 X.w) X.A (assignInOrder ((aak ts X.16).12 (·.2)) us) (λ_ s'=>∃σ' H',Inv X _a σ' H' s'/\Q σ' H') X.xe s
abbrev LS:=V->V->V->Hp->(Hp->Prop)->Prop
def WA (X:Cx) (t:LS):Prop :=
 ∀(_a:List (Addr×Obj)) (s:Y5) (σ:St) (H:Hp) (o i v:V) (ov iv u:Value) (Q:Hp->Prop),Inv X _a σ H s->RelV o ov->RelV i iv->RelV v u->t o i v H Q →
  Zd (model X.23 X.w) X.A (setItem ov iv u) (λ_ s'=>∃H',Inv X _a σ H' s'/\Q H') X.xe s
abbrev Ye:=V->V->Hp->VK->Prop
def PIp (X:Cx) (op:Operator) (t:Ye):Prop :=
 ∀(_a:List (Addr×Obj)) (s:Y5) (σ:St) (H:Hp) (x y:V) (v u:Value) (Q:VK),Inv X _a σ H s->RelV x v->RelV y u->t x y H Q →
  Zd (model X.23 X.w) X.A (inplaceOp op v u) (EP X _a σ Q) X.xe s
section
variable {X:Cx} {pos:Pos}
def EO (i:Nat):TG:=λv σ H Q=>Q (σ.30 i (some v)) H
theorem SA {i:Nat} {x:Str} (hN:X.N.46) (hi:X.N[i]?=some x:=by show rfl) (hx:Loc X.env.scope x:=by show Or.inl rfl) (hf:X.fn x=true\/X.env.scope.names.13 x=some .local:=by first | show .inl rfl | show .inr rfl | assumption):PG X (.Name x pos) (EO i):=by
 intro _a s σ H v u Q I r h;show wpAny_assign_Name (xS I hN hi hx r (λs' I'=>#[_,H,I',h]) hf)
def X7:Ri:=λvs σ H Q=>vs=[]/\Q σ H
def UC (t:TG) (u:Ri):Ri:=λvs σ H Q=>∃v r,vs=v :: r/\t v σ H λσ' H'=>u r σ' H' Q
theorem gR:Yh X [] X7:=by
 intro _a s σ H vs us Q I r h;obtain e|h:=h;subst e;cases r;show assignInOrder_nil #[σ,H,I,h]
theorem bZ {e:Expr} {es:List Expr} {t:TG} {u:Ri} (h1:PG X e t) (h2:Yh X es u)
  (hs:(aak (e :: es) X.16).12 (·.2)=assign e X.16 :: (aak es X.16).12 (·.2):=by rfl):Yh X (e :: es) (UC t u):=by
 intro _a s σ H vs us Q I r h;obtain v|vr|e1|h:=h;subst e1;cases r with
 | cons r rr =>
  rw[hs];refine assignInOrder_cons (ik (h1 _a s σ H _ _ _ I r h) λ_ s1 hz=>?_);obtain σ1|H1|I1|q1:=hz;show h2 _a s1 σ1 H1 _ _ Q I1 rr q1
def Wf (K:_g) (n:Nat) (t:Ri):TG:=λv σ H Q=>∃a xs,v=.ref a/\ue K H a xs/\xs.9=n/\t xs σ H Q
theorem zB {es:List Expr} {k:Nat} {t:Ri} {n:Nat} (hc:X.calm=true) (h:Yh X es t)
  (hn:(aak es X.16).9=n:=by rfl) (hst:(aak es X.16).findIdx? (·.1)=none:=by rfl):PG X (.Tuple es k pos) (Wf X.K n t):=by
 intro _a s σ H v u Q I r hw;obtain a|xs|e1|hq|hl|hw:=hw;subst e1;cases r;obtain _n|rv|ht|hz:=I.58 hq;refine assign_Tuple_tuple (I.ok.hd hc) ht (by simp [hn,<- hl,rv.9]) hst λh' hx=>?_
 have I1:Inv X _a σ H { s with heap:=h' }:=I.59 (t':=s.27) λb o e=>hx b o (bM (Y7 e)) e
 show h _a _ σ H xs _ Q I1 (by simpa using rv) hw
def X6 (to ti:TE) (t:LS):TG:=λv σ H Q=>to σ H λo H1=>ti σ H1 λi H2=>t o i v H2 λH3=>Q σ H3
theorem gg {o i : Expr} {to ti : TE} {t : LS} (ho : PE X o to) (hi : PE X i ti) (hs : WA X t)
    (ha : ∀ v, assign (.Subscript o i pos) X.16 v = (do
      let ov <- holding [v] (eval o X.16)
      let iv <- holding [v, ov] (eval i X.16)
      standAt pos
      holding [v, ov, iv] (setItem ov iv v)
      release [v, ov, iv] []) := by intro _; rfl) : PG X (.Subscript o i pos) (X6 to ti t) := by
  intro _a s σ H v u Q I r h;rw [ha];refine K0 (ZR (ik (ho _a s σ H _ I h) λov s1 hz => ?_));obtain x|H1|I1|r1|q1:= hz;refine K0 (ZR (ik (hi _a s1 σ H1 _ I1 q1) λiv s2 hz => ?_));obtain y|H2|I2|r2|q2:= hz;refine K0 (aai (K0 (ZR (ik (hs _a s2 σ H2 x y v ov iv u _ I2 r1 r2 r q2) λ_ s3 hz => ?_))));obtain H3|I3|q3:= hz;show wpAny_release #[σ, H3, I3, q3]
def OY (te:TE) (g:TG):TS:=λD σ H=>te σ H λx H1=>g x σ H1 D.nx
theorem fM {tg e:Expr} {te:TE} {g:TG} (he:PE X e te) (hg:PG X tg g) (hs:swapsWithSole [tg] e pos.line X.16=pure false:=by rfl) (hw:swappedStores [tg] e X.16=pure none:=by rfl)
  (h1:(aak [tg] X.16).12 (·.2)=[assign tg X.16]:=by rfl):PS X (.Assign [tg] e pos) (OY te g):=by
 intro _a s σ H D I h;refine wpAny_Assign_stores (ik (he _a s σ H _ I h) λv s1 hz=>?_) hs hw;obtain x|H1|I1|r1|q1:=hz;rw[h1];show ik (hg _a s1 σ H1 x v _ I1 r1 q1) λ_ s2 q=>q
theorem VD {i:Nat} {x:Str} {e:Expr} {te:TE} {pos':Pos} (hN:X.N.46) (hi:X.N[i]?=some x) (hx:Loc X.env.scope x) (he:PE X e te) (hs:swapsWith e (some (.Name x pos')) pos.line X.16=pure false:=by rfl) (hf:X.fn x=true\/X.env.scope.names.13 x=some .local:=by first | show .inl rfl | show .inr rfl | assumption) :
  PS X (.Assign [.Name x pos'] e pos) (OY te (EO i)):=by
 intro _a s σ H D I h;refine wpAny_Assign_Name (ik (he _a s σ H _ I h) λv s1 hz=>?_) hs;obtain y|H1|I1|r1|q1:=hz;show xS I1 hN hi hx r1 (λs2 I2=>#[_,H1,I2,q1]) hf
def W5 (i j:Nat) (ta:TA):TS:=λD σ H=>ta σ H λvs H1=>∃v w,vs=[v,w]/\D.nx ((σ.30 i (some v)).30 j (some w)) H1
theorem Pu {i j:Nat} {x y:Str} {a b:Expr} {ta:TA} {px py pt:Pos} {kt k2 pt2} (hc:X.calm=true) (hN:X.N.46) (hi:X.N[i]?=some x) (hj:X.N[j]?=some y) (hij:i≠j)
  (hx:X.env.scope.names.13 x=some .local) (hy:X.env.scope.names.13 y=some .local) (ha:PA X [a,b] ta)
  (hw:swappedStores [.Tuple [.Name x px,.Name y py] kt pt] (.Tuple [a,b] k2 pt2) X.16=pure (some [x,y]))
  (hs:swapsWithSole [.Tuple [.Name x px,.Name y py] kt pt] (.Tuple [a,b] k2 pt2) pos.line X.16=pure false:=by rfl) :
  PS X (.Assign [.Tuple [.Name x px,.Name y py] kt pt] (.Tuple [a,b] k2 pt2) pos) (W5 i j ta):=by
 intro _a s σ H D I h;rw[exec_Assign_arm];refine K0 (aai ?_);rw[hs];refine K0 (Y6 ?_);rw[if_neg ()];refine K0 (Tuple_ (ik (ha _ _a s σ H _ I h) λus s1 hz=>?_));obtain vs|H1|I1|r1|q1:=hz;obtain v|w|e1|q1:=q1;subst e1
 obtain ⟨u1,u2,rfl,rv,rw'⟩:∃u1 u2,us=[u1,u2]/\RelV v u1/\RelV w u2:=by
  cases r1 with
  | cons p q =>
   cases q with
   | cons p' q' =>
    cases q';show #[_,_,rfl,p,p']
 refine wpAny_newObj_type ?_ (by change 2<=Zh;decide);have I2:Inv X _a σ H1 { s1 with heap:=s1.heap.25 { cls:=.type "tuple",data:=.seq [u1,u2].5 } }:=I1.59 (t':=s1.27) λb o e=>Y4 _ e
 rw[hw];refine K0 (Y6 ?_);change Zd (model X.23 X.w) X.A (do rule "assign.swapped-stores";let items <- unpackItems (.ref s1.6) 2 none;assignInOrder [λv=>bindName X.16 y v,λv=>bindName X.16 x v] items.reverse;pure Flow.next) _ _ _
 refine K0 (wpAny_rule (K0 (unpackItems_tuple (items:=[u1,u2].14) (I.ok.hd hc) (IsTup.new s1.22 _) λh' _v=>?_)));have I3:=I2.59 (h':=h') (t':=s1.27) λb o e=>_v b o (bM (Y7 e)) e
 change Zd _ _ (assignInOrder [λv=>bindName X.16 y v,λv=>bindName X.16 x v] [u2,u1] >>= λ_=>pure Flow.next) _ _ _
 refine K0 (assignInOrder_cons (wpAny_bindName (xS I3 hN hj (.inl hy) rw' (λs2 I4=>?_) (.inr hy))));refine assignInOrder_cons (wpAny_bindName (xS I4 hN hi (.inl hx) rv (λs3 I5=>assignInOrder_nil (Y6 ?_)) (.inr hx)));rw[List.set_comm _ _ (Zo hij)] at I5;show #[_,H1,I5,q1]
def Uk (to ti te:TE) (abj:V->V->Hp->VK->Prop) (tip:Ye) (abi:LS):TS:=λD σ H=>to σ H λo H1=>ti σ H1 λi H2=>abj o i H2 λx H3=>te σ H3 λy H4=>tip x y H4 λz H5=>abi o i z H5 λH6=>D.nx σ H6
def Yi (X:Cx) (t:V->V->Hp->VK->Prop):Prop :=
 ∀(_a:List (Addr×Obj)) (s:Y5) (σ:St) (H:Hp) (o i:V) (ov iv:Value) (Q:VK),Inv X _a σ H s->RelV o ov->RelV i iv->t o i H Q →
  Zd (model X.23 X.w) X.A (getItem ov iv) (EP X _a σ Q) X.xe s
theorem Su {o i e:Expr} {to ti te:TE} {abj:V->V->Hp->VK->Prop} {tip:Ye} {abi:LS} {op:Operator} {q!:Pos} (ho:PE X o to) (hi:PE X i ti) (hg:Yi X abj) (he:PE X e te) (hp:PIp X op tip) (hs:WA X abi)
  (ha:∀ov iv new,augStore i ov iv new=(do holding [new,ov,iv] (setItem ov iv new);release [new,ov,iv] [];pure .next):=by intros;rfl):PS X (.AugAssign (.Subscript o i q!) op e pos) (Uk to ti te abj tip abi):=by
 intro _a s σ H D I h;refine wpAny_AugAssign_SubscriptAny (ik (ho _a s σ H _ I h) λov s1 hz=>?_) ha;obtain x1|H1|I1|r1|q1:=hz;refine ik (hi _a s1 σ H1 _ I1 q1) λiv s2 hz=>?_
 obtain x2|H2|I2|r2|q2:=hz;refine ik (hg _a s2 σ H2 x1 x2 ov iv _ I2 r1 r2 q2) λold s3 hz=>?_
 obtain x3|H3|I3|r3|q3:=hz;refine ik (he _a s3 σ H3 _ I3 q3) λv s4 hz=>?_
 obtain x4|H4|I4|r4|q4:=hz;refine ik (hp _a s4 σ H4 x3 x4 old v _ I4 r3 r4 q4) λnew s5 hz=>?_
 obtain x5|H5|I5|r5|q5:=hz;show ik (hs _a s5 σ H5 x1 x2 x5 ov iv new _ I5 r1 r2 r5 q5) λ_ s6 #[H6,I6,q6]=>#[σ,H6,I6,q6]
def ipI (f:Int->Int->Int):Ye:=λx y H Q=>∃i j,x=.int i/\y=.int j/\Q (.int (f i j)) H
theorem V3:PIp X .Add (ipI λi j=>i+j):=by
 intro _a s σ H x y v u Q I r1 r2 h;obtain i|j|e1|e2|q:=h;subst e1;subst e2;obtain t|rfl:=r1;obtain t'|rfl:=r2;show iadd_int #[.int _,H,I.tok _,#[_,rfl],q]
end
section
variable {X:Cx} {pos:Pos}
def OV (c:TT) (tb:TS):TS:=λD σ H=>∃W:Nat->St->Hp->Prop,(∃m,W m σ H)/\∀m σ H,W m σ H →
 c σ H λb H1=>if b=true then ∃N:St->Hp->Prop,(∀σ' H',N σ' H'->∃m',m' < m/\W m' σ' H')/\tb { D with nx:=N,ct:=N,bk:=D.nx } σ H1 else D.nx σ H1
theorem xZ (hp:PassesOwn (model X.23 X.w) X.A X.16 X.xe) (hc:PT X c tc) (hb:Fc X body tb):PS X (.While c body [] pos) (OV tc tb):=by
 intro _a s σ H D I h;obtain W|⟨m0,w0⟩|turn:=h;refine wpAny_While (codeAny_whileLoop (λn s'=>∃σ' H',Inv X _a σ' H' s'/\W n σ' H') ?_ m0 #[σ,H,I,w0]);rintro n s1 ⟨σ1,H1,I1,w1⟩;refine ZY hp (ik (hc _a s1 σ1 H1 _ I1 (turn n σ1 H1 w1)) λb s2 hz=>?_);obtain H2|I2|q2:=hz;cases b with
 | true =>
  obtain N|hN|q2:=q2;rw[if_pos rfl];refine ZY hp (ik (hb _a s2 σ1 H2 _ I2 q2) λf s3 q3=>?_);cases f with
  | next =>
   obtain σ3|H3|I3|n3:=q3;obtain m'|hm|w3:=hN σ3 H3 n3;show #[m',hm,σ3,H3,I3,w3]
  | cont =>
   obtain σ3|H3|I3|n3:=q3;obtain m'|hm|w3:=hN σ3 H3 n3;show #[m',hm,σ3,H3,I3,w3]
  | brk=>show q3
  | ret v=>show q3
 | false =>
  rw[if_neg aQ];show wpAny_execs_nil #[σ1,H2,I2,q2]
end
structure It where
 go:Nat->Hp->Prop
 yld:Nat->Hp->V->Hp->Prop
 stop:Nat->Hp->Prop
def mD (X:Cx) (_a:List (Addr×Obj)) (H:Hp) (b:Addr):Prop :=
 H b=none/\b≠X.env.39/\b∉X.fs/\(b∈X.ex\/X.s₀.6<=b)/\(∀x c,X.env.cells.13 x=some c->c≠b)/\∀p∈X.pn++_a,p.1≠b
theorem Inv.T! {σ:St} {b:Addr} (I:Inv X _a σ H s) (hb:s.6<=b) (hn:H' b=none):mD X _a H' b:=by
 refine #[hn,qK (bF I.lt hb),I.air hb,.inr (ag I.sz hb),λx c e z=>?_,λp hp z=>?_]
 ·obtain v|q:=I.cell x c e;show absurd (bF q.lt (by rw[z];show hb)) (dZ _)
 ·show absurd (bF (Y7 (I.pin p hp).1) (by rw[z];show hb)) (dZ _)
structure Turn (P:Zx) (w:ZO) (K:_g) (tg:Expr) (J:It) (fp:List Addr) (it:Addr) (tn:Nat->Heap->Prop):Prop where
 mem:it∈fp
 obj:∀i h,tn i h->∀b∈fp,∃o,h.11 b=some o/\∀v,o.data≠.cell v
 keep:∀i h h',tn i h->(∀b∈fp,∀o,h.11 b=some o->h'.11 b=some o)->tn i h'
 item:∀(X:Cx),X.23=P->X.w=w->X.K=K->X.calm=true->∀(i:Nat) (_a:List (Addr×Obj)) (s:Y5) (σ:St) (H:Hp) (E:Value->Y5->Prop),Inv X _a σ H s->(∀b∈fp,mD X _a H b)->tn i s.8->J.go i H →
  Zd (model P w) X.A (pyNext (.ref it)) (λr s1=>∃u,r=some u /\
   Zd (model P w) X.A (letOwnedTupleGo tg (.ref it) u) (λ_ s2=>∃x H',Inv X _a σ H' s2/\RelV x u/\J.yld i H x H'/\tn (i+1) s2.8/\∀b∈fp,H' b=none) E s1) E s
 done:∀(X:Cx),X.23=P->X.w=w->X.K=K->X.calm=true->∀(i:Nat) (_a:List (Addr×Obj)) (s:Y5) (σ:St) (H:Hp) (E:Value->Y5->Prop),Inv X _a σ H s->(∀b∈fp,mD X _a H b)->tn i s.8->J.stop i H →
  Zd (model P w) X.A (pyNext (.ref it)) (λr s1=>r=none/\Inv X _a σ H s1) E s
 self:∀(A:ZK) (i:Nat) (s:Y5) (Q:Value->Y5->Prop) (E:Value->Y5->Prop),tn i s.8->Q (.ref it) s->Zd (model P w) A (pyIter (.ref it)) Q E s
abbrev TI:=St->Hp->(It->Hp->Prop)->Prop
def PIE (X:Cx) (_a:List (Addr×Obj)) (σ:St) (tg:Expr) (R:It->Hp->Prop) (itv:Value) (s2:Y5):Prop :=
 ∃(it:Addr) (fp:List Addr) (tn:Nat->Heap->Prop) (J:It) (H':Hp),itv=.ref it/\Inv X _a σ H' s2/\Turn X.23 X.w X.K tg J fp it tn/\tn 0 s2.8/\(∀b∈fp,mD X _a H' b)/\R J H'
def PI (X:Cx) (tg iter:Expr) (wi:TI):Prop :=
 ∀(_a:List (Addr×Obj)) (s:Y5) (σ:St) (H:Hp) (R:It->Hp->Prop),Inv X _a σ H s->wi σ H R →
  Zd (model X.23 X.w) X.A (eval iter X.16) (λv s1=>Zd (model X.23 X.w) X.A (pyIter v) (PIE X _a σ tg R) X.xe s1) X.xe s
theorem MR (ho:s.heap.11 it=some o) (hc:o.cls=.type n) (hd:o.data=.fields vs)
  (hn:["enumerate","zip","dict_itemiterator","dict_reverseitemiterator","odict_iterator","itertools.zip_longest","itertools.pairwise"].contains n=false) (hQ:Q .unit s):Zd M A (letOwnedTupleGo tg (.ref it) u) Q E s:=by
 unfold letOwnedTupleGo
 cases tg <;> first
  | show Y6 hQ
  | (cases u <;> first | show Y6 hQ | (refine K0 (wpAny_load ho ?_);rw[hc,hd];change Zd M A (if (["enumerate","zip","dict_itemiterator","dict_reverseitemiterator","odict_iterator","itertools.zip_longest","itertools.pairwise"].contains n && vs[0]? == some (aah _))=true then _ else _) Q E s;rw[if_neg (by intro h;rw[hn,Bool.false_and] at h;cases h)];show Y6 hQ))
def UN (K:_g) (a:Addr):It :=
 #[λi H=>∃xs x,bA K H a xs/\xs[i]?=some x,λi H x H'=>H'=H/\∀xs,bA K H a xs->xs[i]?=some x,λi H=>∃xs,bA K H a xs/\xs.9<=i]
def WR (K:_g) (a:Addr):It :=
 #[λi H=>∃xs x,ue K H a xs/\xs[i]?=some x,λi H x H'=>H'=H/\∀xs,ue K H a xs->xs[i]?=some x,λi H=>∃xs,ue K H a xs/\xs.9<=i]
def Kp (lo:Int) (n:Nat):It:=#[λi _=>i < n,λi H x H'=>H'=H/\x=.int (lo+i),λi _=>n<=i]
theorem Nq {P:Zx} {w:ZO} {K:_g} {tg:Expr} (a it:Addr):Turn P w K tg (UN K a) [it] it (λi h=>h.18 it a i) where
 mem:=by simp
 obj:=λi h st b hb=>by
  have e:b=it:=by simpa using hb
  subst e;obtain o|e|c|d:=st;show #[o,e,λv z=>by rw[d] at z;cases z]
 keep:=λi h h' st k=>st.at λo e=>k it (by simp) o e
 item:=by
  intro X hP hw hK hc i _a s σ H E I hf st hg;subst hP hw hK;obtain xs|x|hq|hx:=hg;obtain _n|rv|p|hz:=I.32 hq;obtain u|hu|ru:=rv.get hx;obtain f0|f1|f2|f3|f4|f5:=hf it (by simp);refine wpAny_pyNext_list_item st p.20 (x:=u) (by simpa using hu) λh' st' sb=>?_
  have I1:Inv X _a σ H { s with heap:=h' }:=I.turned (t':=s.27) (λb o hb e=>(sb.2 b hb).3 e) f0 f1 f3 f4 f5;obtain o|e|c|d:=id st';show #[u,rfl,MR (s:={ s with heap:=h' }) e c d () ⟨x,H,I1,ru,⟨rfl,λys hy=>by rw[I._D hy hq];show hx⟩,st',λb hb=>(hf b hb).1⟩]
 done:=by
  intro X hP hw hK hc i _a s σ H E I hf st hg;subst hP hw hK;obtain xs|hq|hx:=hg;obtain _n|rv|p|hz:=I.32 hq;obtain f0|f1|f2|f3|f4|f5:=hf it (by simp);have hl:=rv.9;show wpAny_pyNext_list_end (I.ok.hd hc) st p.20 (by simp;lia) λh' eb=>#[rfl,I.turned (t':=s.27) (λb o hb e=>eb b o hb e) f0 f1 f3 f4 f5]
 self:=λ_ _ _ _ _ st h=>wpAny_pyIter_listiter st h
theorem KA {P:Zx} {w:ZO} {K:_g} {tg:Expr} (a it:Addr):Turn P w K tg (WR K a) [it] it (λi h=>h.IsTupleIter it a i) where
 mem:=by simp
 obj:=λi h st b hb=>by
  have e:b=it:=by simpa using hb
  subst e;obtain o|e|c|d:=st;show #[o,e,λv z=>by rw[d] at z;cases z]
 keep:=λi h h' st k=>st.at λo e=>k it (by simp) o e
 item:=by
  intro X hP hw hK hc i _a s σ H E I hf st hg;subst hP hw hK;obtain xs|x|hq|hx:=hg;obtain _n|rv|p|hz:=I.58 hq;obtain u|hu|ru:=rv.get hx;obtain f0|f1|f2|f3|f4|f5:=hf it (by simp);refine wpAny_pyNext_tuple_item st (show s.heap.IsTuple a _n.14 from p) (x:=u) (by simpa using hu) λh' st' sb=>?_
  have I1:Inv X _a σ H { s with heap:=h' }:=I.turned (t':=s.27) (λb o hb e=>(sb.2 b hb).3 e) f0 f1 f3 f4 f5;obtain o|e|c|d:=id st';show #[u,rfl,MR (s:={ s with heap:=h' }) e c d () ⟨x,H,I1,ru,⟨rfl,λys hy=>by rw[I.H! hy hq];show hx⟩,st',λb hb=>(hf b hb).1⟩]
 done:=by
  intro X hP hw hK hc i _a s σ H E I hf st hg;subst hP hw hK;obtain xs|hq|hx:=hg;obtain _n|rv|p|hz:=I.58 hq;obtain f0|f1|f2|f3|f4|f5:=hf it (by simp);have hl:=rv.9;show wpAny_pyNext_tuple_end (I.ok.hd hc) st (show s.heap.IsTuple a _n.14 from p) (by simp;lia) λh' eb=>#[rfl,I.turned (t':=s.27) (λb o hb e=>eb b o hb e) f0 f1 f3 f4 f5]
 self:=λ_ _ _ _ _ st h=>wpAny_pyIter_tupleiter st h
theorem KC {P:Zx} {w:ZO} {K:_g} {tg:Expr} (it:Addr) (lo:Int) (n:Nat):Turn P w K tg (Kp lo n) [it] it (λi h=>IsRangeIter h it (lo+(i:Nat)*1) ((n:Int) - (i:Nat)) 1) where
 mem:=by simp
 obj:=λi h st b hb=>by
  have e:b=it:=by simpa using hb
  subst e
  show #[_,st,λv z=>by
   have z':Data.fields _=Data.cell v:=z;cases z']
 keep:=λi h h' st k=>k it (by simp) _ st
 item:=by
  intro X hP hw hK hc i _a s σ H E I hf st hg;subst hP hw hK;obtain f0|f1|f2|f3|f4|f5:=hf it (by simp);have W:=Walks.range (prog:=X.23) (w:=X.w) (I.ok.hd hc) it lo 1 n;refine W.item i s _ _ hg st λv h' tk hv st' kk=>?_
  obtain t|rfl:=hv;have I1:Inv X _a σ H { s with heap:=h',toks:=tk }:=I.turned (λb o hb e=>kk b o (by simpa using hb) e) f0 f1 f3 f4 f5;refine #[_,rfl,MR (s:={ s with heap:=h',toks:=tk }) (n:="range_iterator") st' rfl rfl () ⟨.int (lo+i),H,I1,⟨t,?_⟩,⟨rfl,rfl⟩,st',λb hb=>(hf b hb).1⟩];rw[Int.mul_one]
 done:=by
  intro X hP hw hK hc i _a s σ H E I hf st hg;subst hP hw hK;obtain f0|f1|f2|f3|f4|f5:=hf it (by simp);show wpAny_pyNext_range_end (I.ok.hd hc) st (by have:n<=i:=hg;lia) λh' eb=>#[rfl,I.turned (t':=s.27) (λb o hb e=>eb b o hb e) f0 f1 f3 f4 f5]
 self:=λ_ _ _ _ _ st h=>wpAny_pyIter_rangeiter st h
section
variable {X:Cx} {tg:Expr}
def Qg (K:_g) (tl:TE):TI:=λσ H R=>tl σ H λx H1=>∃a,x=.ref a/\(∃xs,bA K H1 a xs)/\R (UN K a) H1
def XY (K:_g) (tl:TE):TI:=λσ H R=>tl σ H λx H1=>∃a,x=.ref a/\(∃xs,ue K H1 a xs)/\R (WR K a) H1
theorem cF (hl:PE X l tl):PI X tg l (Qg X.K tl):=by
 intro _a s σ H R I h;refine ik (hl _a s σ H _ I h) λv s1 hz=>?_
 obtain x|H1|I1|r1|q1:=hz;obtain a|e|⟨xs,hq⟩|q:=q1;subst e;cases r1;obtain _n|rv|p|hz:=I1.32 hq;refine aaa p.20 ?_;refine #[s1.6,[s1.6],_,_,H1,rfl,I1.59 (t':=s1.27) λb o e=>Y4 _ e,Nq a _,#[_,Zc _ rfl,rfl,rfl],λb hb=>?_,q];have e:b=s1.6:=by simpa using hb
 subst e;show I1.T! (ah _) (I1._u.36 (ah _))
theorem VF (hl:PE X l tl):PI X tg l (XY X.K tl):=by
 intro _a s σ H R I h;refine ik (hl _a s σ H _ I h) λv s1 hz=>?_
 obtain x|H1|I1|r1|q1:=hz;obtain a|e|⟨xs,hq⟩|q:=q1;subst e;cases r1;obtain _n|rv|p|hz:=I1.58 hq;refine wpAny_pyIter_tuple (show s1.heap.IsTuple a _n.14 from p) ?_;refine #[s1.6,[s1.6],_,_,H1,rfl,I1.59 (t':=s1.27) λb o e=>Y4 _ e,KA a _,#[_,Zc _ rfl,rfl,rfl],λb hb=>?_,q];have e:b=s1.6:=by simpa using hb
 subst e;show I1.T! (ah _) (I1._u.36 (ah _))
theorem IT {σ:St} {lo hi:Int} (I:Inv X _a σ H s) (h1:-(2^62)<=lo) (h2:lo < 2^62) (h3:-(2^62)<=hi) (h4:hi < 2^62)
  (q:R (Kp lo (hi - lo).29) H):Zd (model X.23 X.w) X.A (pyIter (.ref s.6)) (PIE X _a σ tg R) E { s with heap:=s.heap.25 { cls:=.type "range",data:=.fields [.int lo t,.int hi u,.int 1 v].14 },toks:=tk }:=by
 refine wpAny_pyIter_range (IsRange.new ..) (small_one h1 h2 h3 h4) ?_;have I1:Inv X _a σ H { s with heap:=s.heap.25 { cls:=.type "range",data:=.fields [.int lo t,.int hi u,.int 1 v].14 },toks:=tk }:=I.59 λb o e=>Y4 _ e
 refine #[(s.heap.25 { cls:=.type "range",data:=.fields [.int lo t,.int hi u,.int 1 v].14 }).objs.size,[(s.heap.25 { cls:=.type "range",data:=.fields [.int lo t,.int hi u,.int 1 v].14 }).objs.size],_,_,H,rfl,
  I1.59 (t':=tk) λb o e=>Y4 _ e,KC _ lo (hi - lo).29,?_,λb hb=>?_,q]
 ·have e1:lo+((0:Nat):Int)*1=lo:=by simp
  have e2:(((hi - lo).29:Nat):Int) - ((0:Nat):Int)=ZA.Range.rangeSize lo hi 1:=by rw[rangeSize_one];split <;> lia
  change IsRangeIter _ _ (lo+((0:Nat):Int)*1) ((((hi - lo).29:Nat):Int) - ((0:Nat):Int)) 1
  rw[e1,e2];show Zc _ rfl
 ·have e:b=(s.heap.25 { cls:=.type "range",data:=.fields [.int lo t,.int hi u,.int 1 v].14 }).objs.size:=by simpa using hb
  subst e;show I1.T! (ah _) (I1._u.36 (ah _))
def Ux (ta:TA):TI:=λσ H R=>ta σ H λvs H1=>∃j:Int,vs=[.int j]/\-(2^62)<=j/\j < 2^62/\R (Kp 0 j.29) H1
def Uw (ta:TA):TI:=λσ H R=>ta σ H λvs H1=>∃i j:Int,vs=[.int i,.int j]/\(-(2^62)<=i/\i < 2^62/\-(2^62)<=j/\j < 2^62)/\R (Kp i (j - i).29) H1
theorem cu {a:Expr} {ta:TA} {p pos:Pos} (hg:Gl X "range") (hm:X.mg "range"=none) (ha:PA X [a] ta) (hs:Y8 [a] X.16=[(false,eval a X.16)]:=by rfl):PI X tg (.Call (.Name "range" p) [a] [] pos) (Ux ta):=by
 intro _a s σ H R I h;refine Call_ (m5 I hg hm boot_range (Zk (ik (ha pos _a s σ H _ I h) λus s1 hz=>?_) hs rfl));obtain vs|H1|I1|r1|q1:=hz;obtain j|e|q1|q2|q:=q1;subst e;cases r1 with
 | cons r rr =>
  cases rr;obtain t|rfl:=r;show call_range_1 (IT I1 () () q1 q2 (by simpa using q))
theorem NJ {a b:Expr} {ta:TA} {p pos:Pos} (hg:Gl X "range") (hm:X.mg "range"=none) (ha:PA X [a,b] ta) (hs:Y8 [a,b] X.16=[(false,eval a X.16),(false,eval b X.16)]:=by rfl) (hs2:Y8 [b] X.16=[(false,eval b X.16)]:=by rfl) :
  PI X tg (.Call (.Name "range" p) [a,b] [] pos) (Uw ta):=by
 intro _a s σ H R I h;refine Call_ (m5 I hg hm boot_range (Zk (ik (ha pos _a s σ H _ I h) λus s1 hz=>?_) (by rw[hs,hs2]) (by rw[hs2];rfl)));obtain vs|H1|I1|r1|q1:=hz;obtain i|j|e|⟨q1,q2,q3,q4⟩|q:=q1;subst e;cases r1 with
 | cons r rr =>
  cases rr with
  | cons r' rr =>
   cases rr;obtain t|rfl:=r;obtain t'|rfl:=r';show call_range_2 (IT I1 q1 q2 q3 q4 q)
def Xg (wi:TI) (g:TG) (tb:TS):TS:=λD σ H=>wi σ H λJ H1=>∃W:Nat->Nat->St->Hp->Prop,(∃m,W 0 m σ H1)/\∀i m σ H,W i m σ H →
 (J.stop i H/\D.nx σ H)\/(J.go i H/\∃N:St->Hp->Prop,(∀σ' H',N σ' H'->∃m',m' < m/\W (i+1) m' σ' H')/\∀x H',J.yld i H x H'->g x σ H' λσ2 H2=>tb { D with nx:=N,ct:=N,bk:=D.nx } σ2 H2)
def BZ (fp:List Addr) (h:Heap):List (Addr×Obj):=fp.filterMap λb=>(h.11 b).12 λo=>(b,o)
theorem tU (hb:b∈fp) (e:h.11 b=some o):(b,o)∈BZ fp h:=Ku.mpr #[b,hb,by rw[e];rfl]
theorem NO (hp:p∈BZ fp h):p.1∈fp/\h.11 p.1=some p.2:=by
 obtain b|hb|e:=Ku.mp hp;cases q:h.11 b with
 | none=>rw[q] at e;cases e
 | some o =>
  rw[q] at e;have e':(b,o)=p:=bU e;subst e';show #[hb,q]
theorem Inv.pinned {σ:St} (I:Inv X _a σ H s) (hf:∀b∈fp,mD X _a H b) (ho:∀b∈fp,∃o,s.heap.11 b=some o/\∀v,o.data≠.cell v):Inv X (_a++BZ fp s.8) σ H s :=
 I.O! λp hp=>(aB.mp hp).45 (λz=>I.pin p (bV _ z)) λz=>by
  obtain hb|e:=NO z;obtain f0|f1|f2|_:=hf p.1 hb;obtain o|e'|d:=ho p.1 hb;rw[e] at e';cases e';show #[e,f0,f1,f2,d]
theorem Inv.y! {σ:St} (I:Inv X (_a++pl) σ H s):Inv X _a σ H s:=I.O! λp hp=>I.pin p (bV _ (mQ _ hp))
theorem fw {iter:Expr} {body:List Stmt} {wi:TI} {g:TG} {tb:TS} {pos:Pos} (hp:PassesOwn (model X.23 X.w) X.A X.16 X.xe) (hc:X.calm=true) (hi:PI X tg iter wi) (hg:PG X tg g) (hb:Fc X body tb)
  (hs:∀x,foldedSetIterable iter X.16 x=pure x:=by intro _;rfl):PS X (.For tg iter body [] pos) (Xg wi g tb):=by
 intro _a s σ H D I h;refine wpAny_For (ik (hi _a s σ H _ I h) λv s1 h1=>ik h1 λitv s2 h2=>?_) hs;obtain it|fp|tn|J|H2|e|I2|T|st2|f2|W|⟨m0,w0⟩|turn:=h2;subst e;have adg:∀{H':Hp},(∀b∈fp,H' b=none)->∀b∈fp,mD X _a H' b:=λhn b hb=>#[hn b hb,(f2 b hb).2]
 refine codeAny_forLoop_any (λn s'=>∃i σ' H',Inv X _a σ' H' s'/\tn i s'.8/\(∀b∈fp,H' b=none)/\W i n σ' H') ?_ m0 #[0,σ,H2,I2,st2,λb hb=>(f2 b hb).1,w0];rintro n s3 ⟨i,σ3,H3,I3,st3,fr3,w3⟩;rcases turn i n σ3 H3 w3 with ⟨stop,qn⟩ | ⟨go,N,hN,step⟩
 ·refine ZY hp (ik (T.done X rfl rfl rfl hc i _a s3 σ3 H3 X.xe I3 (adg fr3) st3 stop) λr s4 #[hr,I4]=>?_);subst hr;show wpAny_execs_nil #[σ3,H3,I4,qn]
 ·refine ZY hp (ik (T.item X rfl rfl rfl hc i _a s3 σ3 H3 X.xe I3 (adg fr3) st3 go) λr s4 #[u,hr,h4]=>?_);subst hr;refine ZY hp (ik h4 λ_ s5 hz=>?_);obtain x|H5|I5|r5|y5|st5|fr5:=hz;have I5':=I5.pinned (adg fr5) (T.obj _ _ st5);refine ZY hp (ik (hg _ s5 σ3 H5 x u _ I5' r5 (step x H5 y5)) λ_ s6 hz=>?_);obtain σ6|H6|I6|q6:=hz;refine ZY hp (ik (hb _ s6 σ6 H6 _ I6 q6) λf s7 q7=>?_)
  have again:∀{σ7:St} {H7:Hp},Inv X (_a++BZ fp s5.8) σ7 H7 s7->N σ7 H7->∃m,m < n/\∃i σ' H',Inv X _a σ' H' s7/\tn i s7.8/\(∀b∈fp,H' b=none)/\W i m σ' H':=λ{σ7 H7} I7 n7=>by
   obtain m'|hm|w7:=hN σ7 H7 n7;refine #[m',hm,i+1,σ7,H7,I7.y!,T.keep _ _ _ st5 λb hb o e=>(I7.pin (b,o) (bV _ (bV _ (tU hb e)))).1,λb hb=>?_,w7];obtain o|e|d:=T.obj _ _ st5 b hb;show (I7.pin (b,o) (bV _ (bV _ (tU hb e)))).2.1
  cases f with
  | next=>obtain σ7|H7|I7|n7:=q7;show again I7 n7
  | cont=>obtain σ7|H7|I7|n7:=q7;show again I7 n7
  | brk=>obtain σ7|H7|I7|q7:=q7;show #[σ7,H7,I7.y!,q7]
  | ret v=>obtain x7|σ7|H7|I7|r7|q7:=q7;show #[x7,σ7,H7,I7.y!,r7,q7]
end
theorem pK {K:_g} {g:TG} {tb:TS} {D:Ends} (Pv:Nat->St->Hp->Prop) (h0:Pv 0 σ H) (hl:∀i σ H,i<=xs.9->Pv i σ H->bA K H a xs)
  (hs:∀i x σ H,xs[i]?=some x->Pv i σ H->g x σ H λσ2 H2=>tb { D with nx:=Pv (i+1),ct:=Pv (i+1),bk:=D.nx } σ2 H2) (hd:∀σ H,Pv xs.9 σ H->D.nx σ H) :
  ∃W:Nat->Nat->St->Hp->Prop,(∃m,W 0 m σ H)/\∀i m σ H,W i m σ H →
   ((UN K a).stop i H/\D.nx σ H)\/((UN K a).go i H/\∃N:St->Hp->Prop,(∀σ' H',N σ' H'->∃m',m' < m/\W (i+1) m' σ' H')/\∀x H',(UN K a).yld i H x H'->g x σ H' λσ2 H2=>tb { D with nx:=N,ct:=N,bk:=D.nx } σ2 H2):=by
 refine #[λi m σ H=>m=xs.9 - i/\i<=xs.9/\Pv i σ H,#[xs.9,by simp,aW _,h0],?_];rintro i m σ H ⟨rfl,hi,p⟩;have q:=hl i σ H hi p;by_cases _J:i < xs.9
 ·refine .inr #[#[xs,xs[i],q,by simp [_J]],Pv (i+1),λσ' H' p'=>#[xs.9 - (i+1),(),rfl,_J,p'],λx H' y=>?_];obtain e|y:=y;subst e;show hs i x σ _ (y xs q) p
 ·have e:i=xs.9:=()
  subst e;show .inl #[#[xs,q,ah _],hd σ H p]
theorem Tb {K:_g} {g:TG} {tb:TS} {D:Ends} (Pv:Nat->St->Hp->Prop) (h0:Pv 0 σ H) (hl:∀i σ H,i<=xs.9->Pv i σ H->ue K H a xs)
  (hs:∀i x σ H,xs[i]?=some x->Pv i σ H->g x σ H λσ2 H2=>tb { D with nx:=Pv (i+1),ct:=Pv (i+1),bk:=D.nx } σ2 H2) (hd:∀σ H,Pv xs.9 σ H->D.nx σ H) :
  ∃W:Nat->Nat->St->Hp->Prop,(∃m,W 0 m σ H)/\∀i m σ H,W i m σ H →
   ((WR K a).stop i H/\D.nx σ H)\/((WR K a).go i H/\∃N:St->Hp->Prop,(∀σ' H',N σ' H'->∃m',m' < m/\W (i+1) m' σ' H')/\∀x H',(WR K a).yld i H x H'->g x σ H' λσ2 H2=>tb { D with nx:=N,ct:=N,bk:=D.nx } σ2 H2):=by
 refine #[λi m σ H=>m=xs.9 - i/\i<=xs.9/\Pv i σ H,#[xs.9,by simp,aW _,h0],?_];rintro i m σ H ⟨rfl,hi,p⟩;have q:=hl i σ H hi p;by_cases _J:i < xs.9
 ·refine .inr #[#[xs,xs[i],q,by simp [_J]],Pv (i+1),λσ' H' p'=>#[xs.9 - (i+1),(),rfl,_J,p'],λx H' y=>?_];obtain e|y:=y;subst e;show hs i x σ _ (y xs q) p
 ·have e:i=xs.9:=()
  subst e;show .inl #[#[xs,q,ah _],hd σ H p]
theorem ER {lo:Int} {g:TG} {tb:TS} {D:Ends} (Pv:Nat->St->Hp->Prop) (h0:Pv 0 σ H)
  (hs:∀i σ H,i < n->Pv i σ H->g (.int (lo+i)) σ H λσ2 H2=>tb { D with nx:=Pv (i+1),ct:=Pv (i+1),bk:=D.nx } σ2 H2) (hd:∀σ H,Pv n σ H->D.nx σ H) :
  ∃W:Nat->Nat->St->Hp->Prop,(∃m,W 0 m σ H)/\∀i m σ H,W i m σ H →
   ((Kp lo n).stop i H/\D.nx σ H)\/((Kp lo n).go i H/\∃N:St->Hp->Prop,(∀σ' H',N σ' H'->∃m',m' < m/\W (i+1) m' σ' H')/\∀x H',(Kp lo n).yld i H x H'->g x σ H' λσ2 H2=>tb { D with nx:=N,ct:=N,bk:=D.nx } σ2 H2):=by
 refine #[λi m σ H=>m=n - i/\i<=n/\Pv i σ H,#[n,by simp,aW _,h0],?_];rintro i m σ H ⟨rfl,hi,p⟩;by_cases _J:i < n
 ·refine .inr #[_J,Pv (i+1),λσ' H' p'=>#[n - (i+1),(),rfl,_J,p'],λx H' y=>?_];obtain e|y:=y;subst e y;show hs i σ _ _J p
 ·have e:i=n:=()
  subst e;show .inl #[ah _,hd σ H p]
abbrev R2:=V->V->Hp->VK->Prop
def yQ (X:Cx) (f:Value->Value->Sem Value) (r:R2):Prop :=
 ∀(_a:List (Addr×Obj)) (s:Y5) (σ:St) (H:Hp) (x y:V) (v u:Value) (Q:VK),Inv X _a σ H s->RelV x v->RelV y u->r x y H Q →
  Zd (model X.23 X.w) X.A (f v u) (EP X _a σ Q) X.xe s
def YT (X:Cx) (f:Value->Sem Value) (r:V->Hp->VK->Prop):Prop :=
 ∀(_a:List (Addr×Obj)) (s:Y5) (σ:St) (H:Hp) (x:V) (v:Value) (Q:VK),Inv X _a σ H s->RelV x v->r x H Q →
  Zd (model X.23 X.w) X.A (f v) (EP X _a σ Q) X.xe s
def qJ (X:Cx) (f:Value) (r:List V->Hp->VK->Prop):Prop :=
 ∀(_a:List (Addr×Obj)) (s:Y5) (σ:St) (H:Hp) (xs:List V) (us:List Value) (Q:VK),Inv X _a σ H s->cU xs us->r xs H Q →
  Zd (model X.23 X.w) X.A (call f us) (EP X _a σ Q) X.xe s
def W7 (r:R2) (ta tb:TE):TE:=λσ H Q=>ta σ H λx H1=>tb σ H1 λy H2=>r x y H2 Q
def Yw (r:V->Hp->VK->Prop) (ta:TE):TE:=λσ H Q=>ta σ H λx H1=>r x H1 Q
def rI (C:Int->Int->Prop) (g:Int->Int->V):R2:=λx y H Q=>∃i j,x=.int i/\y=.int j/\C i j/\Q (g i j) H
def Sr (g:Int->Int->V):R2:=λx y H Q=>∃i j,x=.int i/\y=.int j/\Q (g i j) H
def rU (g:Int->V):V->Hp->VK->Prop:=λx H Q=>∃i,x=.int i/\Q (g i) H
section
variable {X:Cx} {a b c:Expr} {ta tb tc:TE} {pos:Pos}
theorem Ws (ha:PE X a ta) (hb:PE X b tb) {σ:St} {R:V->V->Hp->Prop} (I:Inv X _a σ H s)
  (h:ta σ H λx H1=>tb σ H1 λy H2=>R x y H2) {f:Value->Value->Sem Value}
  (hf:∀v u s2 x y H2,Inv X _a σ H2 s2->RelV x v->RelV y u->R x y H2->Zd (model X.23 X.w) X.A (f v u) Q X.xe s2) :
  Zd (model X.23 X.w) X.A (eval a X.16) (λv s₁=>Zd (model X.23 X.w) X.A (eval b X.16) (λu s₂=>Zd (model X.23 X.w) X.A (f v u) Q X.xe s₂) X.xe s₁) X.xe s:=by
 refine ik (ha _a s σ H _ I h) λv s1 hz=>?_
 obtain x|H1|I1|r1|q1:=hz;refine ik (hb _a s1 σ H1 _ I1 q1) λu s2 hz=>?_
 obtain y|H2|I2|r2|q2:=hz;show hf v u s2 x y H2 I2 r1 r2 q2
theorem bB (ho:yQ X (binaryOp op) r) (ha:PE X a ta) (hb:PE X b tb):PE X (.BinOp a op b pos) (W7 r ta tb):=by
 intro _a s σ H Q I h;show wpAny_BinOp (Ws ha hb I h λv u s2 x y H2 I2 rx ry q=>ho _a s2 σ H2 x y v u Q I2 rx ry q)
theorem uj (ho:YT X (unaryOp op) r) (ha:PE X a ta):PE X (.UnaryOp op a pos) (Yw r ta):=by
 intro _a s σ H Q I h;show UnaryOp_ (ik (ha _a s σ H _ I h) λv s1 #[x,H1,I1,r1,q1]=>ho _a s1 σ H1 x v Q I1 r1 q1)
theorem YJ {g:Int->Int->Int}
  (rule:∀(i j:Int) (t u:Tok) (s:Y5) (Q:Value->Y5->Prop) (E:Value->Y5->Prop),C i j->Q (.int (g i j) s.27) { s with toks:=s.27+1 }->Zd (model X.23 X.w) X.A (f (.int i t) (.int j u)) Q E s) :
  yQ X f (rI C λi j=>.int (g i j)):=by
 intro _a s σ H x y v u Q I rx ry h;obtain i|j|rfl|rfl|hc|q:=h;obtain t|rfl:=rx;obtain t'|rfl:=ry;show rule i j t t' s _ _ hc #[.int (g i j),H,I.tok _,#[_,rfl],q]
theorem XI {g:Int->Int->Int}
  (rule:∀(i j:Int) (t u:Tok) (s:Y5) (Q:Value->Y5->Prop) (E:Value->Y5->Prop),Q (.int (g i j) s.27) { s with toks:=s.27+1 }->Zd (model X.23 X.w) X.A (f (.int i t) (.int j u)) Q E s) :
  yQ X f (Sr λi j=>.int (g i j)):=by
 intro _a s σ H x y v u Q I rx ry h;obtain i|j|rfl|rfl|q:=h;obtain t|rfl:=rx;obtain t'|rfl:=ry;show rule i j t t' s _ _ #[.int (g i j),H,I.tok _,#[_,rfl],q]
theorem SJ {g:Int->Int->Bool}
  (rule:∀(i j:Int) (t u:Tok) (s:Y5) (Q:Value->Y5->Prop) (E:Value->Y5->Prop),Q (.bool (g i j)) s->Zd (model X.23 X.w) X.A (f (.int i t) (.int j u)) Q E s) :
  yQ X f (Sr λi j=>.bl (g i j)):=by
 intro _a s σ H x y v u Q I rx ry h;obtain i|j|rfl|rfl|q:=h;obtain t|rfl:=rx;obtain t'|rfl:=ry;show rule i j t t' s _ _ #[.bl (g i j),H,I,rfl,q]
def WL (i j:Int):Prop:=(-(2^64) < i/\i < 2^64)\/(-(2^64) < j/\j < 2^64)
theorem WL.ok (h:WL i j):IntMulOk i j:=by
 rcases h with ⟨h1,h2⟩ | ⟨h1,h2⟩
 ·show .of_left (intBits_le_64 h1 h2)
 ·show .of_right (intBits_le_64 h1 h2)
theorem fN:yQ X (binaryOp .Add) (Sr λi j=>.int (i+j)):=XI λ_ _ _ _ _ _ _ q=>add_int q
theorem lK:yQ X (binaryOp .Sub) (Sr λi j=>.int (i - j)):=XI λ_ _ _ _ _ _ _ q=>sub_int q
theorem rg:yQ X (binaryOp .Mod) (rI (λ_ j=>0 < j) λi j=>.int (i % j)):=YJ λi j _ _ _ _ _ hc q=>by
 have h1:(0:Int) < j:=hc;show mod_int' () (by rw[Int.fmod_eq_emod_of_nonneg i ()];show q)
theorem SH:yQ X (binaryOp .Mod) (rI (λ_ j=>j≠0) λi j=>.int (i.fmod j)):=YJ λ_ _ _ _ _ _ _ hc q=>mod_int' hc q
theorem unI {g:Int->Int}
  (rule:∀(i:Int) (t:Tok) (s:Y5) (Q:Value->Y5->Prop) (E:Value->Y5->Prop),Q (.int (g i) s.27) { s with toks:=s.27+1 }->Zd (model X.23 X.w) X.A (f (.int i t)) Q E s) :
  YT X f (rU λi=>.int (g i)):=by
 intro _a s σ H x v Q I rx h;obtain i|rfl|q:=h;obtain t|rfl:=rx;show rule i t s _ _ #[.int (g i),H,I.tok _,#[_,rfl],q]
theorem oi:YT X (unaryOp .USub) (rU λi=>.int (-i)):=unI λ_ _ _ _ _ q=>neg_int q
end
def Xq:V->V->Bool
 | ._B,._B=>true | ._B,.int _=>true | .int _,._B=>true | ._B,.bl _=>true | .bl _,._B=>true | ._B,.str _=>true | .str _,._B=>true
 | .int _,.int _=>true | .bl _,.bl _=>true | .str _,.str _=>true | .byt _,.byt _=>true
 | .int _,.str _=>true | .str _,.int _=>true | .bl _,.str _=>true | .str _,.bl _=>true
 | _,_=>false
def rEq:R2:=λx y H Q=>Xq x y=true/\Q (.bl (decide (x=y))) H
def YI:R2:=λx y H Q=>Xq x y=true/\Q (.bl (!decide (x=y))) H
theorem M6:decide (V.int i=V.int j)=(i == j):=by
 rw[oW];simp
theorem QJ:decide (V.bl i=V.bl j)=(i == j):=by
 rw[oW];simp
theorem M5:decide (V.str i=V.str j)=(i == j):=by
 rw[oW];simp
theorem M7:decide (V.byt i=V.byt j)=(i.toList == j.toList):=by
 rw[oW];cases i;cases j;simp
section
variable {X:Cx} {a b c:Expr} {ta tb tc:TE} {pos:Pos}
theorem dB {σ:St} (I:Inv X _a σ H s) (q:Q (.bl k) H) (e:k=k'):EP X _a σ Q (.bool k') s:=by
 subst e;show #[.bl k,H,I,rfl,q]
theorem gH:yQ X (ZQ .Eq) rEq:=by
 intro _a s σ H x y v u Q I rx ry h;obtain hs|q:=h;cases x with
 | _B =>
  cases rx;cases y with
  | _B=>cases ry;show PySem.EqNone.eq_none_none (dB I q (by simp))
  | bl j=>cases ry;show PySem.EqNone.eq_none_bool (dB I q (by simp))
  | int j=>obtain t'|rfl:=ry;show PySem.EqNone.eq_none_int (dB I q (by simp))
  | str j=>obtain t'|rfl:=ry;show PySem.EqNone.eq_none_str (dB I q (by simp))
  | _=>show absurd (show false=true from hs) aQ
 | bl i =>
  cases rx;cases y with
  | _B=>cases ry;show PySem.EqNone.eq_bool_none (dB I q (by simp))
  | bl j=>cases ry;show eq_bool (dB I q QJ)
  | str j=>obtain t'|rfl:=ry;show PySem.EqMixed.eq_bool_str (dB I q (by simp))
  | _=>show absurd (show false=true from hs) aQ
 | int i =>
  obtain t|rfl:=rx;cases y with
  | _B=>cases ry;show PySem.EqNone.eq_int_none (dB I q (by simp))
  | int j=>obtain t'|rfl:=ry;show eq_int (dB I q M6)
  | str j=>obtain t'|rfl:=ry;show PySem.EqMixed.eq_int_str (dB I q (by simp))
  | _=>show absurd (show false=true from hs) aQ
 | str i =>
  obtain t|rfl:=rx;cases y with
  | _B=>cases ry;show PySem.EqNone.eq_str_none (dB I q (by simp))
  | bl j=>cases ry;show PySem.EqMixed.eq_str_bool (dB I q (by simp))
  | int j=>obtain t'|rfl:=ry;show PySem.EqMixed.eq_str_int (dB I q (by simp))
  | str j=>obtain t'|rfl:=ry;show eq_str (dB I q M5)
  | _=>show absurd (show false=true from hs) aQ
 | byt i =>
  obtain t|rfl:=rx;cases y with
  | byt j=>obtain t'|rfl:=ry;show PySem.W.eq_bytes (dB I q M7)
  | _=>show absurd (show false=true from hs) aQ
 | _=>cases y <;> show absurd (show false=true from hs) aQ
theorem yf:yQ X (ZQ .NotEq) YI:=by
 intro _a s σ H x y v u Q I rx ry h;obtain hs|q:=h;cases x with
 | _B =>
  cases rx;cases y with
  | _B=>cases ry;show PySem.EqNone.ne_none_none (dB I q (by simp))
  | bl j=>cases ry;show PySem.EqNone.ne_none_bool (dB I q (by simp))
  | int j=>obtain t'|rfl:=ry;show PySem.EqNone.ne_none_int (dB I q (by simp))
  | str j=>obtain t'|rfl:=ry;show PySem.EqNone.ne_none_str (dB I q (by simp))
  | _=>show absurd (show false=true from hs) aQ
 | bl i =>
  cases rx;cases y with
  | _B=>cases ry;show PySem.EqNone.ne_bool_none (dB I q (by simp))
  | bl j=>cases ry;show ne_bool (dB I q (congrArg not QJ))
  | str j=>obtain t'|rfl:=ry;show PySem.EqMixed.ne_bool_str (dB I q (by simp))
  | _=>show absurd (show false=true from hs) aQ
 | int i =>
  obtain t|rfl:=rx;cases y with
  | _B=>cases ry;show PySem.EqNone.ne_int_none (dB I q (by simp))
  | int j=>obtain t'|rfl:=ry;show ne_int (dB I q (congrArg not M6))
  | str j=>obtain t'|rfl:=ry;show PySem.EqMixed.ne_int_str (dB I q (by simp))
  | _=>show absurd (show false=true from hs) aQ
 | str i =>
  obtain t|rfl:=rx;cases y with
  | _B=>cases ry;show PySem.EqNone.ne_str_none (dB I q (by simp))
  | bl j=>cases ry;show PySem.EqMixed.ne_str_bool (dB I q (by simp))
  | int j=>obtain t'|rfl:=ry;show PySem.EqMixed.ne_str_int (dB I q (by simp))
  | str j=>obtain t'|rfl:=ry;show ne_str (dB I q (congrArg not M5))
  | _=>show absurd (show false=true from hs) aQ
 | byt i =>
  obtain t|rfl:=rx;cases y with
  | byt j=>obtain t'|rfl:=ry;show PySem.W.ne_bytes (dB I q (congrArg not M7))
  | _=>show absurd (show false=true from hs) aQ
 | _=>cases y <;> show absurd (show false=true from hs) aQ
theorem pC:yQ X (ZQ .Lt) (Sr λi j=>.bl (decide (i < j))):=SJ λ_ _ _ _ _ _ _ q=>lt_int q
theorem XH:yQ X (ZQ .LtE) (Sr λi j=>.bl (decide (i<=j))):=SJ λ_ _ _ _ _ _ _ q=>le_int q
theorem Aa:yQ X (ZQ .Gt) (Sr λi j=>.bl (decide (j < i))):=SJ λ_ _ _ _ _ _ _ q=>gt_int q
theorem Ab:yQ X (ZQ .GtE) (Sr λi j=>.bl (decide (j<=i))):=SJ λ_ _ _ _ _ _ _ q=>ge_int q
theorem VJ:yQ X (ZQ .Is) (λx y H Q=>y=._B/\Q (.bl (decide (x=._B))) H):=by
 intro _a s σ H x y v u Q I rx ry h;obtain rfl|q:=h;cases ry;refine is_none_gen (dB I q ?_)
 cases x <;> first
  | (cases rx;rfl)
  | (obtain ⟨t,rfl⟩:=rx;rfl)
theorem FU:yQ X (ZQ .IsNot) (λx y H Q=>y=._B/\Q (.bl (!decide (x=._B))) H):=by
 intro _a s σ H x y v u Q I rx ry h;obtain rfl|q:=h;cases ry;refine isnot_none_gen (dB I q ?_)
 cases x <;> first
  | (cases rx;rfl)
  | (obtain ⟨t,rfl⟩:=rx;rfl)
theorem bx (b:Expr) {op:CmpOp} (h:op≠.In:=by decide) (h2:op≠.NotIn:=by decide):behindInMarks op b=false:=by
 have e1:(op == CmpOp.In)=false:=by cases op <;> first | rfl | show absurd rfl h
 have e2:(op == CmpOp.NotIn)=false:=by cases op <;> first | rfl | show absurd rfl h2
 cases b <;> simp [behindInMarks,e1,e2]
theorem iN (ho:yQ X (ZQ op) r) (ha:PE X a ta) (hb:PE X b tb) (hm:behindInMarks op b=false):PE X (.Compare a [op] [b] pos) (W7 r ta tb):=by
 intro _a s σ H Q I h;show wpAny_Compare1 (Ws ha hb I h λv u s2 x y H2 I2 rx ry q=>ho _a s2 σ H2 x y v u Q I2 rx ry q) hm
def Ud (t:TE):TT:=λσ H Q=>t σ H λx H'=>∃k,x=.bl k/\Q k H'
theorem bw (ho:yQ X (ZQ op) r) (ha:PE X a ta) (hb:PE X b tb) (hm:behindInMarks op b=false):PT X (.Compare a [op] [b] pos) (Ud (W7 r ta tb)):=by
 intro _a s σ H Q I h
 refine wpAny_isTrue_Compare1 (ik (ha _a s σ H _ I h) λv s1 #[x,H1,I1,r1,q1]=>ik (hb _a s1 σ H1 _ I1 q1) λu s2 #[y,H2,I2,r2,q2] =>
  ik (ho _a s2 σ H2 x y v u _ I2 r1 r2 q2) λc s3 #[z,H3,I3,r3,k,e,q3]=>?_) hm
 subst e;cases r3;show ZZ #[H3,I3,q3]
theorem CJ:(Zh:Nat) < 2^63:=by rw[sizeLine_eq];decide
theorem vals1 (r:cU [x] us):∃u,us=[u]/\RelV x u:=by
 cases r with
 | cons r1 r2=>cases r2;show #[_,rfl,r1]
theorem vals2 (r:cU [x,y] us):∃u w',us=[u,w']/\RelV x u/\RelV y w':=by
 cases r with
 | cons r1 r2 =>
  cases r2 with
  | cons r3 r4=>cases r4;show #[_,_,rfl,r1,r3]
theorem C1:qJ X (.builtin "abs") (λxs H Q=>∃i,xs=[.int i]/\Q (.int (if i < 0 then -i else i)) H):=by
 intro _a s σ H xs us Q I r h;obtain i|rfl|q:=h;obtain u|rfl|t|rfl:=vals1 r;show call_abs_int λu tk=>#[.int (if i < 0 then -i else i),H,I.tok _,#[_,rfl],q]
theorem E3 (hc:X.calm=true):qJ X (.builtin "max") (λxs H Q=>∃i j,xs=[.int i,.int j]/\Q (.int (if j > i then j else i)) H):=by
 intro _a s σ H xs us Q I r h;obtain i|j|rfl|q:=h;obtain u|w'|rfl|⟨t,rfl⟩|⟨t',rfl⟩:=vals2 r;refine max_two_ints (I.ok.hd hc) λh' tk k=>#[_,H,I.59 k,?_,q]
 by_cases hj:j > i
 ·rw[if_pos hj,if_pos hj];show #[_,rfl]
 ·rw[if_neg hj,if_neg hj];show #[_,rfl]
theorem rP (hc:X.calm=true):qJ X (.builtin "min") (λxs H Q=>∃i j,xs=[.int i,.int j]/\Q (.int (if j < i then j else i)) H):=by
 intro _a s σ H xs us Q I r h;obtain i|j|rfl|q:=h;obtain u|w'|rfl|⟨t,rfl⟩|⟨t',rfl⟩:=vals2 r;refine min_two_ints (I.ok.hd hc) λh' tk k=>#[_,H,I.59 k,?_,q]
 by_cases hj:j < i
 ·rw[if_pos hj,if_pos hj];show #[_,rfl]
 ·rw[if_neg hj,if_neg hj];show #[_,rfl]
end
structure LX (h:Heap) (x dx C:Addr) (mA:Str->Option Value):Prop where
 obj:h.11 x=some (ZT C dx)
 ns:h.Ns1 dx mA
 ne:dx≠x
theorem NW {h:Heap} (n:h.Ns1 dx mA):∃od,h.11 dx=some od/\∀name,PySem.W.lookIn name od=some (mA name):=by
 obtain o|es|ep|ho|hd|hk|_|hm:=n;refine #[o,ho,λname=>?_];have e:=hm name;unfold nsFind findBy at e;rw[<- Array.find?_toList] at e;unfold PySem.W.lookIn;rw[hd]
 dsimp only
 split
 ·rename_i y q
  rw[q] at e;show congrArg some e
 ·rename_i q
  rw[q] at e
  have a:es.toList.any (·.refKey)=false:=by
   rw[List.any_eq_false];intro y hy;obtain z|t|ajz:=hk y (Array.mem_toList_iff.mp hy);simp [DictEntry.refKey,ajz]
  have a':¬es.toList.any (·.refKey)=true:=by rw[a];show aQ
  rw[if_neg a'];show congrArg some e
theorem LX.look (I:LX h x dx C mA):∃od,PySem.W.InstAt h x (ZT C dx) C (some od)/\∀name,PySem.W.lookIn name od=some (mA name) :=
 let ⟨od,ho,hl⟩:=NW I.ns
 #[od,#[I.obj,rfl,rfl,ho],hl]
section
variable {K:_g}
theorem get_map (X:K.In s.8) (I:LX s.22 x dx C mA) (hg:PySem.W.plainGet K C name=true) (hh:PySem.W.hasDictIn K C=true)
  (ha:Zf K (.ref C) name=some none) (hv:mA name=some v) (hv':PySem.W.handedIn v=true) (h:Q v { s with toks:=s.27+1 }) :
  Zd (model prog w) A (getAttr (.ref x) name expr) Q E s:=by
 obtain od|J|hl:=I.look;show PySem.W.get_value X J (HY hg).1 (PySem.W.findObj_own hh ha rfl (by rw[hl,hv])) hv' h
theorem Qn (X:K.In s.8) (I:LX s.22 x dx C mA) (hg:PySem.W.plainGet K C name=true)
  (hf:Zf K (.ref C) name=some (some (.ref f))) (ht:PySem.W.isFn K (.ref f)=true) (hv:mA name=none) (h:Q (.ref f,[.ref x]) s) :
  Zd (model prog w) A (getMethod (.ref x) name pl) Q E s:=by
 obtain od|J|hl:=I.look;show PySem.W.method_fn X J (HY hg).1 (HY hg).2 hf (beq_iff_eq.mp ht) (by change (PySem.W.lookIn name od).12 (·.isSome)=some false;rw[hl,hv];rfl) h
theorem RJ (X:K.In s.8) (I:LX s.22 x dx C mA)
  (hs:Zf K (.ref C) "__setattr__"=some (some (.builtin "object.__setattr__"))) (hp:PySem.W.plainOver K C=true) (ht:PySem.W.takerIn K C name=some none) (hh:PySem.W.hasDictIn K C=true)
  (hw:PySem.Within mA ns) (hsz:ns.9<=Zh)
  (h:∀h',LX h' x dx C (λy=>if y=name then some v else mA y)->Heap.SameBut dx s.22 h'->Q .unit { s with heap:=h',toks:=s.27+2 }) :
  Zd (model prog w) A (setAttr (.ref x) name v) Q E s:=by
 obtain od|J|hl:=I.look;refine PySem.W.set_plain X J hs (PySem.W.osa_open (s:={ s with toks:=s.27+1 }) (r:=none) X J hp ht λb=>?_);obtain cd|hc|hd':=PySem.W.any_some hh;have hx:s.heap.11 x=some #[.ref C,some dx,.plain,[].14]:=I.obj;refine K0 (Y6 (K0 (K0 (wpAny_loadPart hx (K0 (PySem.W.Looks.here (s:={ s with toks:=s.27+1 }) (PySem.W.looks_clsIn X hc) ?_))))));rw[hd'];refine Y6 (a:=some dx) (K0 (Y6 (K0 ?_)));refine wpAny_nsSet1 (s:={ s with toks:=s.27+1 }) I.ns λh' hn2 hs2=>?_
 obtain oD|esD|epD|hoD|hdD|hcD:=hn2.count (PySem.Within.cons name v hw);refine K0 (wpAny_lookBehind hoD (by rw[hdD];show pastItsLine_dict (ag hcD (by rw[bH];lia))) ?_);show Y6 (h _ #[(hs2.2 _ (Zo I.ne)).3 I.obj,hn2,I.ne] hs2)
theorem Jj (X:K.In s.8) (hm:PySem.W.makesIn K C=true)
  (hi:Zf K (.ref C) "__init__"=some (some (.ref f))) (hf:PySem.W.typeIn K (.ref f)=some (.type "function"))
  (h:aab (model prog w) (A.under (.builtin "type.__call__" #[.ref C :: vs,kw])) (.call (.ref f) #[.ref (s.6+1) :: vs,kw]) (PySem.W.InitBack (s.6+1) R)
   { s with heap:=(s.heap.25 ZF).25 (ZT C s.6) }) :
  aab (model prog w) A (.call (.ref C) #[vs,kw]) R s:=by
 obtain hh|g|d|t|os:=s;show PySem.W.make_core (PySem.W.makes_of X hm) (PySem.W.looks_findIn X hi) (λself=>PySem.W.bind_fn X self hf) (.inl rfl) h
end
def bS (f:Str) (v:V):List (Str×V)->List (Str×V)
 | []=>[(f,v)]
 | (g,x) :: r=>if g=f then (g,v) :: r else (g,x) :: bS f v r
theorem aO (f g:Str) (v:V):∀fs:List (Str×V),(bS f v fs).13 g=if g=f then some v else fs.13 g
 | []=>by
  change Z0 g [(f,v)]=_
  by_cases h:g=f
  ·have hb:(g == f)=true:=beq_iff_eq.mpr h;simp only[Z0,hb,if_pos h]
  ·have hb:(g == f)=false:=beq_eq_false_iff_ne.mpr h;simp only[Z0,hb,if_neg h]
 | (k,x) :: r=>by
  have ih:=aO f g v r;rw[show bS f v ((k,x) :: r)=(if k=f then (k,v) :: r else (k,x) :: bS f v r) from rfl];by_cases hk:k=f
  ·rw[if_pos hk];by_cases h:g=k
   ·have hb:(g == k)=true:=beq_iff_eq.mpr h;simp only[Z0,hb,if_pos (h.3 hk)]
   ·have hb:(g == k)=false:=beq_eq_false_iff_ne.mpr h;simp only[Z0,hb,if_neg (λe:g=f=>h (e.3 hk.26))]
  ·rw[if_neg hk];by_cases h:g=k
   ·have hb:(g == k)=true:=beq_iff_eq.mpr h;simp only[Z0,hb,if_neg (λe:g=f=>hk (h.symm.3 e))]
   ·have hb:(g == k)=false:=beq_eq_false_iff_ne.mpr h;simp only[Z0,hb];show ih
theorem zJ (f:Str) (v:V):∀fs:List (Str×V),f∈(bS f v fs).12 (·.1)/\∀g,g∈fs.12 (·.1)->g∈(bS f v fs).12 (·.1)
 | []=>#[by simp [bS],λg h=>by simp at h]
 | (k,x) :: r=>by
  obtain i1|i2:=zJ f v r;rw[show bS f v ((k,x) :: r)=(if k=f then (k,v) :: r else (k,x) :: bS f v r) from rfl];by_cases hk:k=f
  ·rw[if_pos hk];subst hk;show #[by simp,λg h=>by simpa using h]
  ·rw[if_neg hk];refine #[?_,λg h=>?_]
   ·rw[jD];show bP _ i1
   ·rw[jD] at h ⊢;rcases ax.mp h with e | e
    ·show ax.mpr (.inl e)
    ·show bP _ (i2 g e)
theorem Af (f:Str) (v:V):∀fs:List (Str×V),(bS f v fs).9<=fs.9+1
 | []=>by simp [bS]
 | (k,x) :: r=>by
  have ih:=Af f v r;rw[show bS f v ((k,x) :: r)=(if k=f then (k,v) :: r else (k,x) :: bS f v r) from rfl];by_cases hk:k=f
  ·rw[if_pos hk,bH,bH];lia
  ·rw[if_neg hk,bH,bH];lia
theorem C8.some_of (r:C8 (some v) o):∃u,o=some u/\RelV v u:=by
 cases o with
 | none=>show (show False from r).45
 | some u=>show #[u,rfl,r]
theorem C8.none_of (r:C8 none o):o=none:=by
 cases o with
 | none=>rfl
 | some u=>show (show False from r).45
theorem N4 (r:RelV v u):PySem.W.handedIn u=true:=by
 cases v with
 | _B=>cases (show u=ZP from r);rfl
 | bl b=>cases (show u=Value.bool b from r);rfl
 | int i=>obtain t|e:=(show ∃t,u=Value.int i t from r);cases e;rfl
 | str x=>obtain t|e:=(show ∃t,u=Value.str x t from r);cases e;rfl
 | byt b=>obtain t|e:=(show ∃t,u=Value.bytes b t from r);cases e;rfl
 | flt b=>obtain t|e:=(show ∃t,u=Value.float b t from r);cases e;rfl
 | ref a=>cases (show u=Za a from r);rfl
 | ty n=>cases (show u=ZL n from r);rfl
theorem A0 (_u:yR P w H h) (e:H a=some (.ins C dx fs)):∃mA,LX h a dx C mA/\(∀f,C8 (fs.13 f) (mA f))/\PySem.Within mA (fs.12 (·.1))/\fs.9<=1000/\H dx=some (.own a):=by
 obtain d|z|ne|ob|mA|n|r|q:=(show iJ P w H h a (.ins C dx fs) from _u a _ e);show #[mA,#[ob,n,ne],r,q,z,d]
structure L5 (K:_g) (C:Addr):Prop where
 pg:PySem.W.plainGet K C Str.empty=true
 hd:PySem.W.hasDictIn K C=true
 po:PySem.W.plainOver K C=true
 sa:Zf K (.ref C) "__setattr__"=some (some (.builtin "object.__setattr__"))
theorem L5.get {K:_g} (c:L5 K C) (f:Str):PySem.W.plainGet K C f=true:=c.pg
def iU (K:_g) (C:Addr) (f:Str):Prop:=Zf K (.ref C) f=some none
theorem iU.aeG {K:_g} (n:iU K C f):PySem.W.takerIn K C f=some none:=by
 unfold PySem.W.takerIn;rw[show Zf K (.ref C) f=some none from n];rfl
structure HW (K:_g) (C:Addr) (m:Str) (f:Addr):Prop where
 at_:Zf K (.ref C) m=some (some (.ref f))
 fn:PySem.W.isFn K (.ref f)=true
 kp:Zs K (.ref f)=true
section
variable {σ:St}
theorem Li (I:Inv X _a σ H s) (e:H a=some (.ins C dx fs)) (c:L5 X.K C) (n:iU X.K C f) (l:fs.13 f=some v)
  (h:∀u s',Inv X _a σ H s'->RelV v u->Q u s'):Zd (model X.23 X.w) A (getAttr (.ref a) f b) Q E s:=by
 obtain mA|O|r|_|_|_:=A0 I._u e;obtain u|hu|ru:=C8.some_of (v:=v) (o:=mA f) (by rw[<- l];show r f);show get_map I._X O (c.get f) c.hd n hu (N4 ru) (h u _ (I.tok _) ru)
theorem CN (I:Inv X _a σ H s) (e:H a=some (.ins C dx fs)) (c:L5 X.K C) (k:HW X.K C m g) (l:fs.13 m=none)
  (h:Q (.ref g,[.ref a]) s):Zd (model X.23 X.w) A (getMethod (.ref a) m pl) Q E s:=by
 obtain mA|O|r|_|_|_:=A0 I._u e;have hn:mA m=none:=C8.none_of (by rw[<- l];show r m);show Qn I._X O (c.get m) k.at_ k.fn hn h
theorem KJ (I:Inv X _a σ H s) (e:H a=some (.ins C dx fs)) (c:L5 X.K C) (n:iU X.K C f) (hl:fs.9 < 1000) (ry:RelV y u)
  (h:∀s',Inv X _a σ (upd H a (.ins C dx (bS f y fs))) s'->Q .unit s'):Zd (model X.23 X.w) A (setAttr (.ref a) f u) Q E s:=by
 obtain mA|O|r|wi|_|ho:=A0 I._u e;have hz:(fs.12 (·.1)).9<=Zh:=by rw[af,sizeLine_eq];lia
 refine RJ I._X O c.sa c.po n.aeG c.hd wi hz λh' O' sb=>h _ ?_
 have hd:∃o,h'.11 dx=some o:=let ⟨o,_,_,e',_⟩:=O'.ns;#[o,e']
 refine I.write (x:=a) (e:=dx) (by rw[e];show aal) (.inr ho) (λb q hb z=>(sb.2 b hb).3 z) hd ?_;refine #[by rw[aR O.ne];show ho,?_,O.ne,O'.obj,_,O'.ns,λg=>?_,λg hg=>?_]
 ·have:=Af f y fs;lia
 ·change C8 ((bS f y fs).13 g) (if g=f then some u else mA g)
  rw[aO];by_cases q:g=f
  ·rw[if_pos q,if_pos q];show ry
  ·rw[if_neg q,if_neg q];show r g
 ·by_cases q:g=f
  ·rw[q];show (zJ f y fs).1
  ·refine (zJ f y fs).2 g (wi g λz=>hg ?_);change (if g=f then some u else mA g)=none
   rw[if_neg q];show z
theorem Inv.made (I:Inv X _a σ H s):Inv X _a σ (upd (upd H s.heap.objs.28 (.own (s.6+1))) (s.6+1) (.ins C s.6 []))
  { s with heap:=(s.heap.25 ZF).25 (ZT C s.6) }:=by
 have e1:(s.heap.25 ZF).11 s.6=some ZF:=Zc s.22 rfl
 have e2:((s.heap.25 ZF).25 (ZT C s.6)).11 (s.6+1)=some (ZT C s.6):=by
  have:=Zc (s.heap.25 ZF) (o:=ZT C s.6) rfl;rwa [Zy] at this
 have e3:(s.heap.25 ZF).Ns s.heap.objs.28 (λ_=>none):=#[ZF,[].14,_,e1,rfl,(λe he=>absurd he (by simp)),λ_=>rfl];have I1:=I.laid (a:=s.6) (o:=.own (s.6+1)) (h':=s.heap.25 ZF) (t':=s.27) (λb u q=>Y4 _ q) (ah _) #[_,e1];refine I1.laid (a:=s.6+1) (o:=.ins C s.6 []) (t':=s.27) (λb u q=>Y4 _ q) (A6 (Zy _ _)) ?_;have ne:s.6≠s.6+1:=bM (fR _);refine #[by rw[aR ne,aD],aW _,ne,e2,λ_=>none,(Heap.Ns1.of_empty e3).at λo q=>Y4 _ q,λ_=>aal,λy hy=>absurd rfl hy]
theorem TJ (hb:attributeBase e f env (eval e env)=eval e env)
  (h:Zd (model prog w) A (eval e env) (λo s₁=>Zd (model prog w) A (getAttr o f true) Q E s₁) E s):Zd (model prog w) A (eval (.Attribute e f pos) env) Q E s :=
 Attribute_any_ h (by rw[arm_eval_Attribute,hb])
end
def U0 (K:_g) (ta:TE) (f:Str):TE:=λσ H Q=>ta σ H λx H1=>∃a C dx fs v,x=.ref a/\H1 a=some (.ins C dx fs)/\L5 K C/\iU K C f/\fs.13 f=some v/\Q v H1
def Xr (K:_g) (ta tv:TE) (f:Str):TS:=λD σ H=>tv σ H λy H1=>ta σ H1 λx H2=>∃a C dx fs,x=.ref a/\H2 a=some (.ins C dx fs)/\L5 K C/\iU K C f/\fs.9 < 1000 /\
 D.nx σ (upd H2 a (.ins C dx (bS f y fs)))
theorem ck (he:PE X e ta) (hb:attributeBase e f X.16 (eval e X.16)=eval e X.16):PE X (.Attribute e f pos) (U0 X.K ta f):=by
 intro _a s σ H Q I h;refine TJ hb (ik (he _a s σ H _ I h) λu s1 hz=>?_);obtain x|H1|I1|rx|a|C|dx|fs|v|ex|ea|c|n|l|q:=hz;subst ex;obtain rfl:u=Za a:=rx;show Li I1 ea c n l λu' s2 I2 ru=>#[v,H1,I2,ru,q]
theorem ot (ha:PE X o ta) (hv:PE X value tv) (hs:swapsWith value (some (.Attribute o f pos')) pos.line X.16=pure false):PS X (.Assign [.Attribute o f pos'] value pos) (Xr X.K ta tv f):=by
 intro _a s σ H D I h;refine plainObj_wpAny_Assign_Attribute (ik (hv _a s σ H _ I h) λu s1 #[y,H1,I1,ry,q]=>ik (ha _a s1 σ H1 _ I1 q) λov s2 hz=>?_) hs;obtain x|H2|I2|rx|a|C|dx|fs|ex|ea|c|n|l|q2:=hz;subst ex;obtain rfl:ov=Za a:=rx;show KJ I2 ea c n l ry λs3 I3=>#[σ,_,I3,q2]
section
variable {X:Cx} {_a:List (Addr×Obj)} {σ:St} {H:Hp} {s:Y5} {A:ZK} {E:Value->Y5->Prop} {Q:Value->Y5->Prop} {c:Value} {b:Bool}
inductive zU (K:_g) (H:Hp):V->Value->Prop where
 | _B:zU K H ._B (.type "NoneType")
 | bl (x:Bool):zU K H (.bl x) (.type "bool")
 | int (i:Int):zU K H (.int i) (.type "int")
 | str (x:Str):zU K H (.str x) (.type "str")
 | flt (x:UInt64):zU K H (.flt x) (.type "float")
 | lst {a:Addr} {xs:List V} (e:H a=some (.lst xs)):zU K H (.ref a) (.type "list")
 | frz {a:Addr} {o:Obj} {xs:List V} (e:H a=some (.frz o (.lst xs))):zU K H (.ref a) (.type "list")
 | tup {a:Addr} {xs:List V} (e:H a=some (.tup xs)):zU K H (.ref a) (.type "tuple")
 | dK {a:Addr} {I!:List (Key×V)} (e:H a=some (.dK I!)):zU K H (.ref a) (.type "dict")
 | dT {a:Addr} {I!:List (List Key×V)} (e:H a=some (.dT I!)):zU K H (.ref a) (.type "dict")
 | ins {a C dx:Addr} {fs:List (Str×V)} (e:H a=some (.ins C dx fs)) (cl:L5 K C) (ha:Zf K (.ref C) "__class__"=some (some (.builtin "object.__class__")))
   (hn:PySem.W.specialIn K (.builtin "object.__class__") "__get__"=some (some (.builtin "getset_descriptor.__get__"))) (htk:PySem.W.takesIn K (.builtin "object.__class__")=some true)
   (hm:PySem.W.mroIn K C (.type "object")=some true):zU K H (.ref a) (.ref C)
theorem EK (I:Inv X _a σ H s) (rx:RelV x u) (ty:zU X.K H x t) (e:PySem.W.kitOne X.K t c=some b) (h:∀tk,Q (.bool b) { s with toks:=tk }) :
  Zd (model X.23 X.w) A (call (.builtin "isinstance") [u,c]) Q E s:=by
 cases ty with
 | _B=>cases (show u=ZP from rx);show dH PySem.W.kitx_none I._X aal e (λz=>nomatch z) h
 | bl y=>cases (show u=Value.bool y from rx);show dH PySem.W.kitx_bool I._X aal e (λz=>nomatch z) h
 | int i=>obtain t|q:=(show ∃t,u=Value.int i t from rx);cases q;show dH PySem.W.kitx_int I._X aal e (λz=>nomatch z) h
 | str y=>obtain t|q:=(show ∃t,u=Value.str y t from rx);cases q;show dH PySem.W.kitx_str I._X aal e (λz=>nomatch z) h
 | flt y=>obtain t|q:=(show ∃t,u=Value.float y t from rx);cases q;show dH PySem.W.kitx_float I._X aal e (λz=>nomatch z) h
 | @lst a xs ea =>
  cases (show u=Za a from rx);obtain _|_|n|_|h1:=(show iJ X.23 X.w H s.22 a (.lst xs) from I._u a _ ea);show dH PySem.W.kitx_list I._X #[_,h1,rfl] e (λz=>nomatch z) h
 | @frz a ob xs ea =>
  cases (show u=Za a from rx);obtain _|_|_|n|_|h1:=(show iJ X.23 X.w H s.22 a (.frz ob (.lst xs)) from I._u a _ ea);show dH PySem.W.kitx_list I._X #[_,h1,rfl] e (λz=>nomatch z) h
 | @tup a xs ea =>
  cases (show u=Za a from rx);obtain _|_|_|p:=(show iJ X.23 X.w H s.22 a (.tup xs) from I._u a _ ea);obtain o|h1|h2|_:=p;show dH PySem.W.kitx_tuple I._X #[o,h1,h2] e (λz=>nomatch z) h
 | @dK a I! ea =>
  cases (show u=Za a from rx);obtain _|_|vs|_|p:=(show iJ X.23 X.w H s.22 a (.dK I!) from I._u a _ ea);obtain o|es|ep|h1|h2|_:=p;show dH PySem.W.kitx_dict I._X #[o,h1,h2.1] e (λz=>nomatch z) h
 | @dT a I! ea =>
  cases (show u=Za a from rx);obtain _|_|xs|_|o|es|ep|h1|h2|_:=(show iJ X.23 X.w H s.22 a (.dT I!) from I._u a _ ea);show dH PySem.W.kitx_dict I._X #[o,h1,h2.1] e (λz=>nomatch z) h
 | @ins a C dx fs ea cl ha hn htk hm =>
  cases (show u=Za a from rx);obtain mA|O|_:=A0 I._u ea;obtain od|J|_:=O.look;show dH (PySem.W.kitx_own (cl.get _) cl.hd ha hn htk hm) I._X J e (λz=>nomatch z) h
end
structure kv (k:Nat) (A:ZK):Prop where
 hd:A.handled=none
 dp:A.depth+3*k+105 < recursionLimit
 un:A.55+16*k+200 < cLine
theorem kv.mono (r:kv k A) (h:j<=k):kv j A:=#[r.hd,by have:=r.dp;lia,by have:=r.un;lia]
theorem kv.deeper (r:kv (k+1) A) (env:Env):kv k (A.deeper env) :=
 #[r.hd,by have:=r.dp;change A.depth+1+3*k+105 < _;lia,by have:=r.un;change A.55+3+16*k+200 < _;lia]
theorem Lf {A:ZK}:(A.under (.builtin "type.__call__" #[.ref C :: us,kw])).depth=A.depth+1:=by
 first | rfl | simp [ZK.under,Code.weight,Code.isCreation,Code.isGuard,Code.isCaller,Code.frames,Code.isFrame,guardIds]
theorem Le {A:ZK}:(A.under (.builtin "type.__call__" #[.ref C :: us,kw])).55=A.55+1:=by
 first | rfl | simp [ZK.under,Code.cUnits,Code.frames,Code.isFrame]
theorem kv.make (r:kv (k+1) A) (C:Addr) (us:List Value) (kw:List (Str×Value)):kv k (A.under (.builtin "type.__call__" #[.ref C :: us,kw])) :=
 #[r.hd,by have:=r.dp;rw[Lf];lia,by have:=r.un;rw[Le];lia]
theorem kv.depth (r:kv k A):A.depth < recursionLimit:=by have:=r.dp;lia
theorem kv.units (r:kv k A):A.55+64 < cLine:=by have:=r.un;lia
def Be:TA:=λ_ H Q=>Q [] H
def kh (ta:TE) (tr:TA):TA:=λσ H Q=>ta σ H λx H1=>tr σ H1 λxs H2=>Q (x :: xs) H2
section
variable {X:Cx} {e:Expr} {es:List Expr} {te:TE} {t:TA} {pos:Pos}
theorem lJ:PA X [] Be:=λ_ _ _ _ H Q I h=>Calls.spliced_nil #[[],H,I,.nil,h]
theorem gC (ha:PE X e te) (hr:PA X es t) (hs:Y8 (e :: es) X.16=(false,eval e X.16) :: Y8 es X.16:=by rfl):PA X (e :: es) (kh te t):=by
 intro pos _a s σ H Q I h;rw[hs];change Zd _ _ (spliced ((false,eval e X.16) :: aag pos (Y8 es X.16))) _ _ s
 refine Calls.spliced_cons (ik (ha _a s σ H _ I h) λu s1 hz=>?_);obtain x|H1|I1|r1|q1:=hz;show ik (hr pos _a s1 σ H1 _ I1 q1) λus s2 #[xs,H2,I2,r2,q2]=>#[x :: xs,H2,I2,.cons r1 r2,q2]
def WX (t:TA):TE:=λσ H Q=>t σ H λxs H1=>xs.9<=Zh/\∀p,H1 p=none->Q (.ref p) (upd H1 p (.tup xs))
def Xc (t:TA):TE:=λσ H Q=>t σ H λxs H1=>xs.9<=Zh/\∀p,H1 p=none->Q (.ref p) (upd H1 p (.lst xs))
theorem dh (h:PA X es t):PE X (.Tuple es x1 pos) (WX t):=by
 intro _a s σ H Q I hq;refine wpAny_Tuple_spliced (ik (h pos _a s σ H _ I hq) λus s1 #[xs,H1,I1,r,z,q]=>#[by rw[<- r.9];show z,?_]);have hf:H1 s1.6=none:=I1._u.36 (ah _);refine #[.ref s1.6,upd H1 s1.heap.objs.28 (.tup xs),I1.laid (t':=s1.27) (λb u e=>Y4 _ e) (ah _) ?_,rfl,q _ hf];show #[z,us,r,#[_,Zc _ rfl,rfl,_,rfl]]
theorem fB (h:PA X es t):PE X (.List es pos) (Xc t):=by
 intro _a s σ H Q I hq;refine wpAny_List_spliced (ik (h pos _a s σ H _ I hq) λus s1 #[xs,H1,I1,r,z,q]=>#[by rw[<- r.9];show z,?_]);have hf:H1 s1.6=none:=I1._u.36 (ah _);refine #[.ref s1.6,upd H1 s1.heap.objs.28 (.lst xs),I1.laid (t':=s1.27) (λb u e=>Y4 _ e) (ah _) ?_,rfl,q _ hf];show #[z,us,0,r,Zc _ rfl]
end
abbrev Sp:=List V->Hp->VK->XK->Prop
abbrev L6:=List Env->Hp->Y5->XK->Value->Y5->Prop
structure L4 (P:Zx) (w:ZO) (K:_g) (mg:Str->Option Value) (base:Heap) (A:ZK) (outer:List Env) (s:Y5) (H:Hp):Prop where
 frames:A.49=some outer
 mod:Mod K mg base
 bs:∀b o,base.11 b=some o->s.heap.11 b=some o/\H b=none
 bsz:base.objs.7<=s.heap.objs.28
 e!:s.heap.FunFrames base outer
 frf:∀b∈yx outer,H b=none
 _u:yR P w H s.22
 bare:AllBare s.gens
def CE (outer:List Env) (P:Zx) (w:ZO) (H:Hp) (s:Y5) (Q:VK) (u:Value) (s':Y5):Prop :=
 ∃v H',s'.os=s.os/\AllBare s'.gens/\Un (yx outer) [] H H' s.22 s'.8/\yR P w H' s'.8/\RelV v u/\Q v H'
def CR (CX:L6) (outer:List Env) (P:Zx) (w:ZO) (H:Hp) (s:Y5) (Q:VK) (E:XK) (r:Result) (s':Y5):Prop :=
 match r with
 | .ok (.ret u)=>CE outer P w H s Q u s'
 | .ok _=>False
 | .error e=>CX outer H s E e s'
structure kB (P:Zx) (w:ZO) (K:_g) (mg:Str->Option Value) (base:Heap) (CX:L6) (k:Nat) (f:Addr) (fd:W0) (ps:List Str) (sp:Sp):Prop where
 len:∀vs H Q E,sp vs H Q E->vs.9=ps.9
 run:∀(A:ZK) (outer:List Env) (s:Y5) (H:Hp) (args:Args) (us:List Value) (vs:List V) (Q:VK) (E:XK),kv k A->L4 P w K mg base A outer s H->BindsTo s fd args (ps.zip us)->cU vs us->sp vs H Q E →
  aab (model P w) A (.call (.ref f) args) (CR CX outer P w H s Q E) s
theorem L4.make {K:_g} (e:L4 P w K mg base A outer s H) (C:Addr) (us:List Value) (kw:List (Str×Value)) :
  L4 P w K mg base (A.under (.builtin "type.__call__" #[.ref C :: us,kw])) outer s H:=#[by first | show e.49 | (simpa [ZK.under,Code.envs,Code.isFrame,pushEnvs] using e.49),e.mod,e.bs,e.bsz,e.e!,e.frf,e._u,e.50]
section
variable {σ:St}
theorem Inv.acz (I:Inv X _a σ H s):L4 X.23 X.w X.K X.mg X.41 X.A X.43 s H :=
 #[I.ok.49,I.ok.mod,I.bs,ag I.ok.bsz I.sz,I.43,I.B!,I._u,I.50]
theorem Inv.after (I:Inv X _a σ H s) (h:CE X.43 X.23 X.w H s Q u s'):EP X _a σ Q u s':=by
 obtain v|H'|os|bare|un|_u|r|q:=h;obtain hh|g|d|t|os':=s';obtain rfl:os'=s.os:=os;show #[v,H',I.call (h':=hh) (g':=g) (d':=d) (t':=t) (ch:=[]) un _u bare (λb z=>absurd z (by simp)),r,q]
end
def OX (sp:Sp) (F!:List V) (E:XK) (t:TA):TE:=λσ H Q=>t σ H λvs H1=>sp (vs++F!) H1 Q E
def OW (C:Addr) (m:Str) (sp:Sp) (F!:List V) (E:XK) (ta:TE) (t:TA):TE:=λσ H Q=>ta σ H λx H1=>∃a dx fs,x=.ref a/\H1 a=some (.ins C dx fs)/\fs.13 m=none /\
 t σ H1 λvs H2=>sp (x :: (vs++F!)) H2 Q E
def Ui (C:Addr) (sp:Sp) (F!:List V) (E:XK) (t:TA):TE:=λσ H Q=>t σ H λvs H1=>∀x dx,H1 x=none->H1 dx=none->dx≠x →
 sp (.ref x :: (vs++F!)) (upd (upd H1 dx (.own x)) x (.ins C dx [])) (λv H2=>v=._B/\Q (.ref x) H2) E
def Binds (K:_g) (fd:W0) (ps:List Str) (ds:List Value):Prop :=
 ∀(s:Y5) (us:List Value),K.In s.8->(us++ds).9=ps.9->BindsTo s fd #[us,[]] (ps.zip (us++ds))
theorem Binds.all {K:_g} (h:∀us:List Value,us.9=ps.9->bindArgs fd #[us,[]]=pure (ps.zip us)):Binds K fd ps []:=λs us _ hl=>by
 rw[d9] at hl ⊢;show .of_eq (h us hl)
def vM (CX:L6) (X:Cx) (E:XK):Prop:=∀(_a:List (Addr×Obj)) (σ:St) (H:Hp) (s:Y5) (e:Value) (s':Y5),Inv X _a σ H s->CX X.43 H s E e s'->X.xe e s'
section
variable {X:Cx} {CX:L6} {k:Nat} {f C:Addr} {fd:W0} {ps:List Str} {sp:Sp} {F!:List V} {ds:List Value} {E:XK} {x m:Str} {p pos apos:Pos} {e o:Expr} {es:List Expr} {ta:TE} {t:TA}
theorem KS {σ:St} (F:kB X.23 X.w X.K X.mg X.41 CX k f fd ps sp) (hr:kv k X.A) (hb:Binds X.K fd ps ds) (hd:cU F! ds) (hx:vM CX X E)
  (I:Inv X _a σ H s) (r:cU vs us) (h:sp (vs++F!) H Q E):Zd (model X.23 X.w) X.A (call (.ref f) us) (EP X _a σ Q) X.xe s:=by
 have r2:cU (vs++F!) (us++ds):=r.append hd;have hl:(us++ds).9=ps.9:=by rw[<- r2.9];show F.31 _ _ _ _ h
 refine wpAny_call (aad (F.run X.A X.43 s H #[us,[]] (us++ds) (vs++F!) Q E hr I.acz (hb s us I._X hl) r2 h) λr s' hq=>?_);cases r with
 | error e=>show hx _a σ H s e s' I hq
 | ok fl =>
  cases fl with
  | ret u=>show I.40 hq
  | next=>show Zr hq
  | brk=>show Zr hq
  | cont=>show Zr hq
theorem AU (F:kB X.23 X.w X.K X.mg X.41 CX k f fd ps sp) (hr:kv k X.A) (hg:Gl X x) (hm:X.mg x=some (.ref f)) (hk:Zs X.K (.ref f)=true) (hb:Binds X.K fd ps ds) (hd:cU F! ds) (hx:vM CX X E)
  (ha:PA X (e :: es) t) (hdb:(x == ("__debug__":Str))=false:=by decide) (he:Y8 (e :: es) X.16=(false,eval e X.16) :: Y8 es X.16:=by rfl) (hpl:(aag pos (Y8 es X.16)).any (·.1)=false:=by rfl) :
  PE X (.Call (.Name x p) (e :: es) [] pos) (OX sp F! E t):=by
 intro _a s σ H Q I h;refine Zz (vZ I hg hm ?_ hdb);refine o5 (h₀:=X.41) I.ok.mod.kin hk (ik (ha pos _a s σ H _ I h) λus s1 #[vs,H1,I1,r,q]=>#[I1._X,?_]) he hpl;show KS F hr hb hd hx I1 r q
theorem yc {pl : Sem Bool} (he : PE X o ta) (c : L5 X.K C) (hm : HW X.K C m f) (F : kB X.23 X.w X.K X.mg X.41 CX k f fd ps sp) (hr : kv k X.A) (hb : Binds X.K fd ps ds) (hd : cU F! ds) (hx : vM CX X E) (ha : PA X (e :: es) t)
    (hst : Y8 (e :: es) X.16 = (false, eval e X.16) :: Y8 es X.16 := by rfl) (hpl : (aag pos (Y8 es X.16)).any (·.1) = false := by rfl)
    (ht : eval (.Call (.Attribute o m apos) (e :: es) [] pos) X.16 = (do
      let ov <- eval o X.16
      standAt apos.atName
      let (f, first) <- holding [ov] (getMethod ov m pl)
      callWith pos f first (aag pos (Y8 (e :: es) X.16)) (backToKw pos (keywordEach [] X.16))) := by rfl) :
    PE X (.Call (.Attribute o m apos) (e :: es) [] pos) (OW C m sp F! E ta t) := by
  intro _a s σ H Q I h;refine PySem.W.methodCall_KW (pl := pl) (ik (he _a s σ H _ I h) λu s1 hz => ?_) ht;obtain x|H1|I1|rx|a|dx|fs|ex|ea|l|q:= hz;subst ex;obtain rfl : u = Za a := rx;refine CN I1 ea c hm l ?_;refine o5 (first := [.ref a]) (h₀ := X.41) I.ok.mod.kin hm.kp (ik (ha pos _a s1 σ H1 _ I1 q) λus s2 #[vs, H2, I2, r, q2] => #[I2._X, ?_]) hst hpl;show KS (us := .ref a :: us) (vs := .ref a :: vs) F hr hb hd hx I2 (.cons rfl r) q2
theorem Cb {pl : Sem Bool} (he : PE X o ta) (c : L5 X.K C) (hm : HW X.K C m f) (F : kB X.23 X.w X.K X.mg X.41 CX k f fd ps sp) (hr : kv k X.A) (hb : Binds X.K fd ps ds) (hd : cU F! ds) (hx : vM CX X E)
    (ht : eval (.Call (.Attribute o m apos) [] [] pos) X.16 = (do
      let ov <- eval o X.16
      standAt apos.atName
      let (f, first) <- holding [ov] (getMethod ov m pl)
      callWith pos f first (aag pos (Y8 [] X.16)) (backToKw pos (keywordEach [] X.16))) := by rfl) :
    PE X (.Call (.Attribute o m apos) [] [] pos) (OW C m sp F! E ta Be) := by
  intro _a s σ H Q I h;refine PySem.W.methodCall_KW (pl := pl) (ik (he _a s σ H _ I h) λu s1 hz => ?_) ht;obtain x|H1|I1|rx|a|dx|fs|ex|ea|l|q:= hz;subst ex;obtain rfl : u = Za a := rx;refine CN I1 ea c hm l ?_;show PySem.W.callWith_K0 (first := [.ref a]) I1._X hm.kp (KS (us := [.ref a]) (vs := [.ref a]) F hr hb hd hx I1 (.cons rfl .nil) q)

structure Mk (K:_g) (C f:Addr):Prop where
 makes:PySem.W.makesIn K C=true
 init:Zf K (.ref C) "__init__"=some (some (.ref f))
 fn:PySem.W.isFn K (.ref f)=true
 kp:Zs K (.ref C)=true
theorem Pd {σ:St} (M:Mk X.K C f) (F:kB X.23 X.w X.K X.mg X.41 CX k f fd ps sp) (hr:kv (k+1) X.A) (hb:Binds X.K fd ps ds) (hd:cU F! ds)
  (hx:vM CX X E) (I:Inv X _a σ H s) (r:cU vs us)
  (h:∀x dx,H x=none->H dx=none->dx≠x->sp (.ref x :: (vs++F!)) (upd (upd H dx (.own x)) x (.ins C dx [])) (λv H2=>v=._B/\Q (.ref x) H2) E) :
  Zd (model X.23 X.w) X.A (call (.ref C) us) (EP X _a σ Q) X.xe s:=by
 have hq:=h (s.6+1) s.heap.objs.28 (I._u.36 (yO _)) (I._u.36 (ah _)) (bM (fR _));have I2:=Inv.made (C:=C) I;have r2:cU (V.ref (s.6+1) :: (vs++F!)) (Za (s.6+1) :: (us++ds)):=.cons rfl (r.append hd)
 have hl:(Za (s.6+1) :: us++ds).9=ps.9:=by
  have e:=r2.9;rw[F.31 _ _ _ _ hq] at e;show e.26
 refine wpAny_call (Jj (f:=f) I._X M.makes M.init (beq_iff_eq.mp M.fn) (aad (F.run _ X.43 _ _ #[Za (s.6+1) :: us,[]] (Za (s.6+1) :: (us++ds)) _ _ E (hr.make C us [])
  (I2.acz.make C us []) (hb _ (Za (s.6+1) :: us) I2._X hl) r2 hq) λr s' hq'=>?_))
 cases r with
 | error e=>show hx _a σ _ _ e s' I2 hq'
 | ok fl =>
  cases fl with
  | ret u =>
   obtain v|H'|I3|rv|ev|q3:=I2.40 hq';subst ev;show #[rv,#[V.ref (s.6+1),H',I3,rfl,q3]]
  | next=>show Zr hq'
  | brk=>show Zr hq'
  | cont=>show Zr hq'
theorem AR (M:Mk X.K C f) (F:kB X.23 X.w X.K X.mg X.41 CX k f fd ps sp) (hr:kv (k+1) X.A) (hg:Gl X x) (hm:X.mg x=some (.ref C)) (hb:Binds X.K fd ps ds) (hd:cU F! ds) (hx:vM CX X E)
  (ha:PA X (e :: es) t) (hdb:(x == ("__debug__":Str))=false:=by decide) (he:Y8 (e :: es) X.16=(false,eval e X.16) :: Y8 es X.16:=by rfl) (hpl:(aag pos (Y8 es X.16)).any (·.1)=false:=by rfl) :
  PE X (.Call (.Name x p) (e :: es) [] pos) (Ui C sp F! E t):=by
 intro _a s σ H Q I h;refine Zz (vZ I hg hm ?_ hdb);refine o5 (h₀:=X.41) I.ok.mod.kin M.kp (ik (ha pos _a s σ H _ I h) λus s1 #[vs,H1,I1,r,q]=>#[I1._X,?_]) he hpl;show Pd M F hr hb hd hx I1 r q
end
structure qH (N P:List Str) (sc:Scope):Prop where
 kind:sc.44=.function
 co:sc.isCoroutine=false
 gen:sc.isGenerator=false
 nd:N.46
 pre:N.21 P.9=P
 par:∀x∈P,sc.names.13 x=some .local\/sc.names.13 x=some .cell
 ads:∀y∈sc.33,y.2≠.free
theorem E4 {kindOf:Str->Option ZM} {x:Str}:∀{binds:List (Str×Value)} {m:Str->Option Value},(∀v,(x,v)∉binds)->bindL kindOf binds m x=m x
 | [],_,_=>rfl
 | (n,v) :: r,m,h=>by
  unfold bindL;rw[E4 λw hw=>h w (bP _ hw)]
  split
  ·have:x≠n:=by rintro rfl;show h v cT
   simp [this]
  ·rfl
theorem E6 {kindOf:Str->Option ZM} {x:Str}:∀{binds:List (Str×Value)} {m:Str->Option Value},(∀v,(x,v)∉binds)->bindC kindOf binds m x=m x
 | [],_,_=>rfl
 | (n,v) :: r,m,h=>by
  unfold bindC;rw[E6 λw hw=>h w (bP _ hw)]
  split
  ·rfl
  ·have:x≠n:=by rintro rfl;show h v cT
   simp [this]
theorem E5 {kindOf:Str->Option ZM} {x:Str} {v:Value}:∀{P:List Str} {vs:List Value} {i:Nat} {m:Str->Option Value},P.46->P[i]?=some x->vs[i]?=some v->kindOf x=some .local →
  bindL kindOf (P.zip vs) m x=some v
 | [],_,_,_,_,h,_,_=>by simp at h
 | _ :: _,[],_,_,_,_,h,_=>by simp at h
 | p :: P,w :: vs,0,m,nd,h1,h2,hk=>by
  simp at h1 h2;subst h1;subst h2;change bindL kindOf ((p,w) :: P.zip vs) m p=_
  unfold bindL;rw[E4 λv hv=>(cW.mp nd).1 (Rl hv).1,if_pos hk];simp
 | p :: P,w :: vs,i+1,m,nd,h1,h2,hk=>by
  change bindL kindOf ((p,w) :: P.zip vs) m x=_
  unfold bindL;show E5 (i:=i) (cW.mp nd).2 (by simpa using h1) (by simpa using h2) hk
theorem E7 {kindOf:Str->Option ZM} {x:Str} {v:Value}:∀{P:List Str} {vs:List Value} {i:Nat} {m:Str->Option Value},P.46->P[i]?=some x->vs[i]?=some v->kindOf x≠some .local →
  bindC kindOf (P.zip vs) m x=some v
 | [],_,_,_,_,h,_,_=>by simp at h
 | _ :: _,[],_,_,_,_,h,_=>by simp at h
 | p :: P,w :: vs,0,m,nd,h1,h2,hk=>by
  simp at h1 h2;subst h1;subst h2;change bindC kindOf ((p,w) :: P.zip vs) m p=_
  unfold bindC;rw[E6 λv hv=>(cW.mp nd).1 (Rl hv).1,if_neg hk];simp
 | p :: P,w :: vs,i+1,m,nd,h1,h2,hk=>by
  change bindC kindOf ((p,w) :: P.zip vs) m x=_
  unfold bindC;show E7 (i:=i) (cW.mp nd).2 (by simpa using h1) (by simpa using h2) hk
def start (N:List Str) (vs:List V):St:=vs.12 some++Wb (N.9 - vs.9) none
def U7:List Str->List V->St
 | [],_=>[]
 | _ :: N,[]=>none :: U7 N []
 | _ :: N,v :: vs=>some v :: U7 N vs
theorem Fo:∀{N:List Str} {vs:List V},vs.9<=N.9->start N vs=U7 N vs
 | [],[],_=>rfl
 | [],_ :: _,h=>absurd h (Nat.not_succ_le_zero _)
 | _ :: N,[],_=>congrArg (none :: ·) (Fo (N:=N) (vs:=[]) (aW _))
 | _ :: N,v :: vs,h=>by
  change some v :: (vs.12 some++Wb (N.9+1 - (vs.9+1)) none)=some v :: U7 N vs
  rw[Nat.add_sub_add_right,<- Fo (Nat.le_of_succ_le_succ h)];rfl
def AA (CX:L6) (P:Zx) (w:ZO) (K:_g) (mg:Str->Option Value) (base:Heap) (N:List Str) (qual:Str) (scope:Scope) (f:Addr) (cd:Value) (A:ZK) (outer:List Env) (s:Y5) (H:Hp) (E:XK):Cx where
 prog:=P
 w:=w
 K:=K
 mg:=mg
 base:=base
 A:=A.deeper (Z2 qual scope s.heap.objs.28 f cd)
 N:=N
 s₀:=s
 H₀:=H
 env:=Z2 qual scope s.heap.objs.28 f cd
 outer:=outer
 stack:=Z2 qual scope s.heap.objs.28 f cd :: outer
 ex:=[]
 calm:=true
 fn:=λ_=>true
 pn:=[]
 xe:=λe s'=>Zd (model P w) (A.deeper (Z2 qual scope s.heap.objs.28 f cd)) (leaving (Z2 qual scope s.heap.objs.28 f cd) e) (λ_ s''=>CX outer H s E e s'') (λe' s''=>CX outer H s E e' s'') s'
theorem JR {sc:Scope} (h:sc.names.13 x=some .cell):∃c,(ZJ n sc.33 []).13 x=some c:=by
 have q:=A5 sc.33 n [] (.inl h);show WS.mp q
theorem NZ {K:_g} 
  (S:qH N ps scope) (hd:A.handled=none) (e0:L4 P w K mg base A outer s H) (hl:vs.9=ps.9) (r:cU vs us)
  (x:InCallC s s.heap.objs.28 (bindL (Z2 qual scope s.heap.objs.28 f cd).48 (ps.zip us) λ_=>none) (ZJ (s.6+1) scope.33 []) (bindC (Z2 qual scope s.heap.objs.28 f cd).48 (ps.zip us) λ_=>none) s1) :
  Inv (AA CX P w K mg base N qual scope f cd A outer s H E) [] (start N vs) H s1:=by
 have hpl:ps.9<=N.9:=by have:=congrArg Z7 S.pre;rw[br] at this;lia
 obtain h1|tk|rfl|hk:=x.done;have noA:∀b:Addr,b∉(AA CX P w K mg base N qual scope f cd A outer s H E).ex:=λb z=>absurd (show b∈([]:List Addr) from z) (by simp)
 refine #[#[e0.mod,S.44,rfl,rfl,ah _,λy z c h1 h2=>?_,λy hy=>?_,λy c _ h=>?_,λ_=>hd,ZK.frames_deeper e0.49,.inr #[rfl,rfl],λb z=>absurd z (noA b),e0.bs,e0.bsz,λb _ _=>noA b,λb z=>absurd z (noA b),e0.e!,e0.frf],
  rfl,e0.50,Un.kept hk,#[_,x.toInCall.ns,λi y v h1 h2 h3=>?_],λy c h=>#[_,x.cell y c h],e0._u.36 (ah _),λy c h=>?_,λp hp=>absurd (show p∈([]:List (Addr×Obj)) from hp) (by simp),e0._u.59 hk,?_]
 ·show name_of_addr x.apart (oa h1) (oa h2)
 ·have hy:scope.names.13 y=some .cell\/scope.names.13 y=some .free:=hy;rcases hy with hy | hy
  ·show JR hy
  ·show absurd rfl (S.ads _ (oa hy))
 ·show dm (x.above y c (oa h))
 ·have hi:i < vs.9:=by
   unfold start at h2;by_cases hi:i < vs.9
   ·show hi
   ·rw[bG (by simpa using hi)] at h2;rw[Ak] at h2
    split at h2 <;> cases h2
  have ha:vs[i]?=some v:=by
   unfold start at h2;rw[bR (by simpa using hi),az] at h2;cases e:vs[i]? with
   | none=>rw[e] at h2;cases h2
   | some a=>rw[e] at h2;cases h2;rfl
  obtain u|hu|rv:=r.get ha
  have hp:ps[i]?=some y:=by
   rw[<- S.pre,jE ()];show h1
  have ndP:ps.46:=by rw[<- S.pre];show S.nd.sublist (List.take_sublist _ _)
  refine #[u,rv,?_];rcases S.par y (ai hp) with k | k
  ·show .inl #[k,E5 ndP hp hu k]
  ·obtain c|e:=JR (n:=s.6+1) k;refine .inr #[.inl k,c,e,?_];have q:=x.cell y c e;rw[E7 ndP hp hu (by change scope.names.13 y≠_;rw[k];decide)] at q;show q
 ·show e0._u.36 (dm (x.above y c (oa h)))
 ·unfold start;change _=N.9
  rw[ar,af,bK]
  lia
theorem UD {K:_g} {dV kV doc pm _I ct oc:Value} 
 (lk:K.13 f=some #[oc,od,.func (Z1 name qual params body scope dV kV doc pm an _I ct),osl]) (hcd:PySem.W.codeIn K _I qual=true) (S:qH N ps scope)
  (len:∀vs H Q E,sp vs H Q E->vs.9=ps.9)
  (D!:∀(A:ZK) (outer:List Env) (s:Y5) (H:Hp) (vs:List V) (Q:VK) (E:XK),kv k (A.deeper (Z2 qual scope s.heap.objs.28 f _I))->sp vs H Q E →
   ∃t,Fc (AA CX P w K mg base N qual scope f _I A outer s H E) body t/\t { nx:=λ_ H'=>Q ._B H',rt:=Q } (start N vs) H) :
  kB P w K mg base CX (k+1) f (Z1 name qual params body scope dV kV doc pm an _I ct) ps sp:=by
 refine #[len,λA outer s H args us vs Q E hr e0 hb r hsp=>?_];have hl:=len _ _ _ _ hsp;have KX:K.In s.8:=e0.mod.kin.keeps λb o e=>(e0.bs b o e).1
 have lim:s.heap.NoLimit:=e0.mod.nolimit.keeps λb o e=>(e0.bs b o e).1
 have afn:∀y∈ps.zip us,scope.names.13 y.1=some .local\/(scope.names.13 y.1=some .cell/\((ZJ (s.6+1) scope.33 []).13 y.1).isSome=true):=λ#[n,v] hy=>by
  rcases S.par n (Rl hy).1 with q | q
  ·show .inl q
  ·show .inr #[q,A5 _ _ _ (.inl q)]
 refine codeAny_call_function hr.depth (KX _ _ lk) rfl S.co S.gen rfl (PySem.W.codeRec_of KX hcd) (hb _ _ _ _ ?_);refine wpAny_newFunctionEnv_cells S.44 afn λenv he s1 x=>?_
 subst he;refine #[lim.keeps x.toInCall.keep,codeAny_func ?_];obtain t|ht|hq:=D! A outer s H vs Q E (hr.deeper _) hsp;have I:Inv (AA CX P w K mg base N qual scope f _I A outer s H E) [] (start N vs) H s1:=NZ S hr.hd e0 hl r x;refine ZD (ht [] s1 (start N vs) H _ I hq) (λfl s' hs=>?_) λe s' hs=>hs
 have fin:∀{σ':St} {H':Hp} {v:V} {u:Value},Inv (AA CX P w K mg base N qual scope f _I A outer s H E) [] σ' H' s'->RelV v u->Q v H'->CE outer P w H s Q u s' :=
  λ{σ' H' v u} J rv q=>#[v,H',J.os,J.50,J.41,J._u,rv,q]
 cases fl with
 | ret u =>
  obtain v|σ'|H'|J|rv|q:=hs;show fin J rv q
 | next =>
  obtain σ'|H'|J|q:=hs;show fin (v:=V._B) (u:=ZP) J rfl q
 | brk =>
  obtain _|_|_|q:=hs;show Zr q
 | cont =>
  obtain _|_|_|q:=hs;show Zr q
section
variable {X:Cx} {x:Str} {p pos:Pos} {e:Expr} {es:List Expr} {t:TA} {id T:String} {r:List V->Hp->VK->Prop}
def YF (r:List V->Hp->VK->Prop) (t:TA):TE:=λσ H Q=>t σ H λvs H1=>r vs H1 Q
theorem a8 (hc:qJ X (.builtin id) r) (hg:Gl X x) (hm:X.mg x=none) (hv:Z8 x=some (.builtin id)) (ha:PA X (e :: es) t) (hn:x≠"__name__":=by decide) (hdb:(x == ("__debug__":Str))=false:=by decide)
  (he:Y8 (e :: es) X.16=(false,eval e X.16) :: Y8 es X.16:=by rfl) (hpl:(aag pos (Y8 es X.16)).any (·.1)=false:=by rfl):PE X (.Call (.Name x p) (e :: es) [] pos) (YF r t):=by
 intro _a s σ H Q I h;refine Zz (m5 I hg hm hv ?_ hn hdb);show Z4 (ik (ha pos _a s σ H _ I h) λus s1 #[vs,H1,I1,r1,q1]=>hc _a s1 σ H1 vs us Q I1 r1 q1) he hpl
theorem fj (hc:qJ X (.type T) r) (hg:Gl X x) (hm:X.mg x=none) (hv:Z8 x=some (.type T)) (ha:PA X (e :: es) t) (hn:x≠"__name__":=by decide) (hdb:(x == ("__debug__":Str))=false:=by decide)
  (he:Y8 (e :: es) X.16=(false,eval e X.16) :: Y8 es X.16:=by rfl) (hpl:(aag pos (Y8 es X.16)).any (·.1)=false:=by rfl):PE X (.Call (.Name x p) (e :: es) [] pos) (YF r t):=by
 intro _a s σ H Q I h;refine Zz (m5 I hg hm hv ?_ hn hdb);show Zk (ik (ha pos _a s σ H _ I h) λus s1 #[vs,H1,I1,r1,q1]=>hc _a s1 σ H1 vs us Q I1 r1 q1) he hpl
end
end L2
namespace HT
open PySem PyProof.Rows
section
open PySem.SeqAt
open PySem.AutoSeq1 (wpAny_loadPart')
open PySem.MeetsSeq PySem.MeetsSeq2 PySem.MeetsSeq3
end
section
variable {prog:Zx} {w:ZO} {A:ZK} {E:Value->Y5->Prop} {s:Y5}
def FO (n d:Nat):Option Int->Nat
 | none=>d
 | some v=>if v < 0 then (v+(n:Int)).29 else min v.29 n
theorem vv (n d:Nat):FO n d none=d:=rfl
theorem FL (n d k:Nat):FO n d (some (k:Int))=min k n:=by
 change (if (k:Int) < 0 then ((k:Int)+(n:Int)).29 else min (k:Int).29 n)=min k n
 rw[if_neg (),Int.toNat_natCast]
end
end HT
namespace L2
open PySem PySem.Spec PyProof.Rows
abbrev TO:=St->Hp->(Option Int->Hp->Prop)->Prop
def PO (X:Cx) (e:Option Expr) (t:TO):Prop :=
 ∀(_a:List (Addr×Obj)) (s:Y5) (σ:St) (H:Hp) (Q:Option Int->Hp->Prop),Inv X _a σ H s->t σ H Q →
  Zd (model X.23 X.w) X.A (evalPart e X.16) (λu s'=>∃o H',Inv X _a σ H' s'/\IsPart u o/\Q o H') X.xe s
def Md:TO:=λ_ H Q=>Q none H
def Ue (t:TE):TO:=λσ H Q=>t σ H λx H1=>∃i,x=.int i/\Q (some i) H1
theorem intsAre_of:∀{us:List Value},cU (ns.12 V.int) us->IntsAre us ns:=by
 induction ns with
 | nil=>intro us r;rw[List.map_nil] at r;cases r;show .nil
 | cons n ns ih =>
  intro us r;rw[jD] at r;cases r with
  | cons r1 r2 =>
   obtain t|e:=r1;subst e;show .cons n t (ih r2)
section
variable {X:Cx} {e:Expr} {te:TE} {lo hi:Option Expr} {tl th:TO} {pos p2:Pos}
theorem tx:PO X none Md:=by
 intro _a s σ H Q I h;rw[evalPart_none];show Y6 #[none,H,I,.none,h]
theorem tw (h:PE X e te):PO X (some e) (Ue te):=by
 intro _a s σ H Q I hw;rw[evalPart_some];refine ik (h _a s σ H _ I hw) λu s1 hz=>?_
 obtain x|H1|I1|r1|q1:=hz;obtain i|rfl|q:=q1;obtain t|rfl:=r1;show #[some i,H1,I1,.int i t,q]
def YW (X:Cx) (r:V->Option Int->Option Int->Hp->VK->Prop):Prop :=
 ∀(_a:List (Addr×Obj)) (s:Y5) (σ:St) (H:Hp) (x:V) (v vl vu:Value) (lo hi:Option Int) (sl:Addr) (Q:VK),Inv X _a σ H s->RelV x v->s.heap.IsSliceOf sl vl vu .none->IsPart vl lo->IsPart vu hi->r x lo hi H Q →
  ∃T id,typeLookup (.type T) "__getitem__"=pure (some (.builtin id))/\s.TypeIs v T/\Zd (model X.23 X.w) X.A (getItem v (.ref sl)) (EP X _a σ Q) X.xe s
def tSl (r:V->Option Int->Option Int->Hp->VK->Prop) (te:TE) (tl th:TO):TE:=λσ H Q=>te σ H λx H1=>tl σ H1 λl H2=>th σ H2 λu H3=>r x l u H3 Q
theorem pA (hr:YW X r) (he:PE X e te) (hl:PO X lo tl) (hu:PO X hi th):PE X (.Subscript e (.Slice lo hi none p2) pos) (tSl r te tl th):=by
 intro _a s σ H Q I h;refine Subscript_ (ik (he _a s σ H _ I h) λv s1 hz=>?_);obtain x|H1|I1|r1|q1:=hz;refine wpAny_Slice (ik (hl _a s1 σ H1 _ I1 q1) λvl s2 #[l,H2,I2,pl,q2]=>ik (hu _a s2 σ H2 _ I2 q2) λvu s3 hz=>?_);obtain u|H3|I3|pu|q3:=hz;rw[evalPart_none];refine Y6 ?_;have I4:Inv X _a σ H3 { s3 with heap:=s3.heap.25 { cls:=.type "slice",data:=.fields [vl,vu,.none].14 } }:=I3.59 (t':=s3.27) λb ob q=>Y4 _ q
 obtain T|id|hT|ht|hg:=hr _a { s3 with heap:=s3.heap.25 { cls:=.type "slice",data:=.fields [vl,vu,.none].14 } } σ H3 x v vl vu l u s3.heap.objs.28 Q I4 r1 (Heap.IsSliceOf.new ..) pl pu q3;change Zd (model X.23 X.w) X.A (subscriptTail e (.Slice lo hi none p2) v (.ref s3.6)) (EP X _a σ Q) X.xe { s3 with heap:=s3.heap.25 { cls:=.type "slice",data:=.fields [vl,vu,.none].14 } }
 show tail_any (ops:=[.ref s3.6,v]) ht hT hg (by with_unfolding_all rfl)
def rO (xs:List V) (lo hi:Option Int):List V:=(xs.37 (HT.FO xs.9 0 lo)).21 (HT.FO xs.9 xs.9 hi - HT.FO xs.9 0 lo)
theorem Ah (xs:List V) (lo hi:Option Int):(rO xs lo hi).9<=xs.9:=by
 unfold rO;rw[br,eH]
 lia
end
def OF (n:Nat) (i:Int):Option Nat:=if 0<=i then (if i < n then some i.29 else none) else if -(n:Int)<=i then some (i+n).29 else none
def Ko {α:Type} (xs:List α) (i:Int):Option α:=(OF xs.9 i).bind λj=>xs[j]?
theorem MO (h:OF n i=some j):seqIndex? i n=some j/\j < n/\-(n:Int)<=i/\i < n:=by
 unfold OF at h;by_cases h0:0<=i
 ·rw[if_pos h0] at h;by_cases h1:i < n
  ·rw[if_pos h1] at h;have e:i.29=j:=bU h;show #[by rw[seqIndex_of h0 h1,e],(),(),h1]
  ·rw[if_neg h1] at h;cases h
 ·rw[if_neg h0] at h;by_cases h1:-(n:Int)<=i
  ·rw[if_pos h1] at h;have e:(i+n).29=j:=bU h;show #[by rw[seqIndex_neg () h1,e],(),h1,()]
  ·rw[if_neg h1] at h;cases h
theorem G5 {xs:List α} {v:α} (h:Ko xs i=some v):∃j,seqIndex? i xs.9=some j/\xs[j]?=some v/\j < xs.9/\-(xs.9:Int)<=i/\i < xs.9:=by
 unfold Ko at h;cases e:OF xs.9 i with
 | none=>rw[e] at h;cases h
 | some j =>
  rw[e] at h;obtain h1|h2|h3|h4:=MO e;show #[j,h1,h,h2,h3,h4]
theorem dM {xs:List α} {j:Nat} {v:α} (h:xs[j]?=some v):Ko xs (j:Int)=some v:=by
 have hj:j < xs.9:=(aH.mp h).1
 have e:OF xs.9 (j:Int)=some j:=by
  unfold OF;rw[if_pos (),if_pos ()];simp
 unfold Ko;rw[e];show h
theorem yJ (xs:List α) (v:α):Ko (xs++[v]) (-1)=some v:=by
 have hl:(xs++[v]).9=xs.9+1:=by simp
 have e:OF (xs++[v]).9 (-1)=some xs.9:=by
  unfold OF;rw[hl,if_neg (),if_pos ()];congr 1
  lia
 unfold Ko;rw[e];change (xs++[v])[xs.9]?=some v
 simp
def TY (b:Expr):Prop:=∀o i,subscripted b false o i=operate [o,i] (getItem o i)
def Yl (X:Cx) (r:R2):Prop :=
 ∀(value slice:Expr) (_a:List (Addr×Obj)) (s:Y5) (σ:St) (H:Hp) (x y:V) (v u:Value) (Q:VK),Inv X _a σ H s->RelV x v->RelV y u->r x y H Q →
  subscripted slice false v u=operate [v,u] (getItem v u)->Zd (model X.23 X.w) X.A (subscriptTail value slice v u) (EP X _a σ Q) X.xe s
def MtR (X:Cx) (id:String) (r:V->List V->Hp->VK->Prop):Prop :=
 ∀(_a:List (Addr×Obj)) (s:Y5) (σ:St) (H:Hp) (x:V) (xs:List V) (v:Value) (us:List Value) (Q:VK),Inv X _a σ H s->RelV x v->cU xs us->r x xs H Q →
  Zd (model X.23 X.w) X.A (call (.builtin id) (v :: us)) (EP X _a σ Q) X.xe s
section
variable {X:Cx} {a b:Expr} {ta tb:TE} {pos:Pos}
theorem aN {r:R2} (hr:Yl X r) (ha:PE X a ta) (hb:PE X b tb) (hs:TY b:=by intro _ _;rfl):PE X (.Subscript a b pos) (W7 r ta tb):=by
 intro _a s σ H Q I h;show Subscript_ (Ws ha hb I h λv u s2 x y H2 I2 rx ry q=>hr a b _a s2 σ H2 x y v u Q I2 rx ry q (hs _ _))
def VA (K:_g):R2:=λx y H Q=>∃p xs i v,x=.ref p/\y=.int i/\bA K H p xs/\Ko xs i=some v/\Q v H
def Vz (K:_g):R2:=λx y H Q=>∃p xs i v,x=.ref p/\y=.int i/\ue K H p xs/\Ko xs i=some v/\Q v H
theorem bC:Yl X (VA X.K):=by
 intro value slice _a s σ H x y v u Q I rx ry h hs;obtain p|xs|i|z|rfl|rfl|hq|he|q:=h;cases rx;obtain t|rfl:=ry;obtain _n|r|pl|hz:=I.32 hq;obtain j|h1|h2|h3|h4|h5:=G5 he;obtain w|ew|rw':=r.get h2;have hl:=r.9;have hn:=CJ;have fin:EP X _a σ Q w s:=#[z,H,I,rw',q];by_cases h0:0<=i
 ·have hj:i.29=j:=by
   rw[seqIndex_of h0 h5] at h1;show bU h1
  show item_listR pl.20 h0 () (by rw[hj];simpa using ew) fin hs
 ·have hj:(i+(_n.5.7:Int)).29=j:=by
   rw[seqIndex_neg () h4] at h1;rw[bc,<- hl];show bU h1
  show subscriptTail_builtinR (x:=w) pl.isList.typeIs slot_list_getitem.13
   (wpAny_getItem_list_neg (Q:=λr s'=>r=w/\EP X _a σ Q r s') pl.20 () (by rw[bc] <;> lia) () (by rw[hj];simpa using ew) #[rfl,fin]) hs
theorem bN:Yl X (Vz X.K):=by
 intro value slice _a s σ H x y v u Q I rx ry h hs;obtain p|xs|i|z|rfl|rfl|hq|he|q:=h;cases rx;obtain t|rfl:=ry;obtain _n|r|pl|hz:=I.58 hq;obtain j|h1|h2|h3|h4|h5:=G5 he;obtain w|ew|rw':=r.get h2;have hl:=r.9;have hn:=CJ;have fin:EP X _a σ Q w s:=#[z,H,I,rw',q]
 show subscriptTail_builtinR (x:=w) pl.typeIs slot_tuple_getitem.13
  (getItem_tuple (j:=j) (Q:=λr s'=>r=w/\EP X _a σ Q r s') pl () () (by rw[bc,<- hl];show h1) (by simpa using ew) #[rfl,fin]) hs
theorem Lb (_n:List Value) (n j:Nat) (u:Value):Zu (·.setIfInBounds j u) { cls:=.type "list",data:=.seq _n.14 n }={ cls:=.type "list",data:=.seq (_n.30 j u).14 n }:=by
 simp [Zu]
theorem Inv.lst {_a:List (Addr×Obj)} {σ:St} {H:Hp} {s:Y5} {p:Addr} {xs:List V} (I:Inv X _a σ H s) (h:H p=some (.lst xs)) :
  ∃(_n:List Value) (n:Nat),cU xs _n/\s.heap.11 p=some { cls:=.type "list",data:=.seq _n.14 n }/\xs.9<=Zh:=by
 obtain z|_n|n|r|e:=I._u p _ h;show #[_n,n,r,e,z]
theorem Inv.adu {σ:St} {_n its':List Value} (I:Inv X _a σ H s) (h:H p=some (.lst xs))
  (ho:s.heap.11 p=some { cls:=.type "list",data:=.seq _n.14 n }) (hf:f { cls:=.type "list",data:=.seq _n.14 n }={ cls:=.type "list",data:=.seq its'.14 n' }) (r:cU ys its') (hz:ys.9<=Zh) (t:Nat) :
  Inv X _a σ (upd H p (.lst ys)) { s with heap:=s.heap.42 p f,toks:=t }:=by
 have e:(s.heap.42 p f).11 p=some { cls:=.type "list",data:=.seq its'.14 n' }:=by
  rw[Heap.get?_update_self f ho (by rw[hf] <;> rfl),hf]
 refine I.write (x:=p) (e:=p) (by rw[h];trivial) (.inl rfl) (λb u hb q=>(Zm _ _ (Zo hb)).3 q) #[_,e] ?_;show #[hz,its',n',r,e]
def Up:V->V->V->Hp->(Hp->Prop)->Prop:=λo i v H Q=>∃p xs k j,o=.ref p/\i=.int k/\H p=some (.lst xs)/\OF xs.9 k=some j/\Q (upd H p (.lst (xs.30 j v)))
theorem set_list:WA X Up:=by
 intro _a s σ H o i v ov iv u Q I ro ri rv h;obtain p|xs|k|j|rfl|rfl|hp|hj|q:=h;cases ro;obtain t|rfl:=ri;obtain _n|n|r|ho|hz:=I.lst hp;obtain h1|h2|h3|h4:=MO hj;have hl:=r.9;have hn:=CJ
 have I':Inv X _a σ (upd H p (.lst (xs.30 j v))) { s with heap:=s.heap.42 p (Zu (·.setIfInBounds j u)) } :=
  I.adu hp ho (Lb _n n j u) (r.30 rv j) (by rw[cN];show hz) s.27
 by_cases h0:0<=k
 ·have hk:k.29=j:=by
   rw[seqIndex_of h0 h4] at h1;show bU h1
  show PySem.W.ki_setAt ho h0 () (by rw[bc,<- hl];show h4) (by rw[hk];show #[_,I',q])
 ·have hk:(k+(_n.5.7:Int)).29=j:=by
   rw[seqIndex_neg () h3] at h1;rw[bc,<- hl];show bU h1
  show PySem.W.ki_setBack ho () (by rw[bc,<- hl];show h3) () (by rw[hk];show #[_,I',q])
theorem Fu (lo hi:Option Int) (n:Nat):(sliceBounds lo hi none n).1=((HT.FO n 0 lo:Nat):Int)/\(sliceBounds lo hi none n).2.1=((HT.FO n n hi:Nat):Int)/\(sliceBounds lo hi none n).2.2=1:=by
 refine #[?_,?_,rfl]
 ·cases lo with
  | none=>simp [sliceBounds,HT.FO]
  | some i =>
   simp only[sliceBounds,HT.FO,Option.getD_none,show (1:Int) > 0 by decide,if_true];by_cases h:i < 0
   ·simp only[h,if_true] <;> lia
   ·simp only[h,if_false] <;> lia
 ·cases hi with
  | none=>simp [sliceBounds,HT.FO]
  | some i =>
   simp only[sliceBounds,HT.FO,Option.getD_none,show (1:Int) > 0 by decide,if_true];by_cases h:i < 0
   ·simp only[h,if_true] <;> lia
   ·simp only[h,if_false] <;> lia
theorem Dn (_n:List Value) (lo hi:Option Int):slicePick _n.14 lo hi none=((_n.37 (HT.FO _n.9 0 lo)).21 (HT.FO _n.9 _n.9 hi - HT.FO _n.9 0 lo)).5:=by
 obtain h1|h2|h3:=Fu lo hi _n.5.7;unfold slicePick;rw[h1,h2,h3];simp only[sliceRange_one,pick_run,bc] <;> rfl
def Vy (K:_g):V->Option Int->Option Int->Hp->VK->Prop:=λx lo hi H Q=>∃a xs,x=.ref a/\bA K H a xs/\∀p,H p=none->Q (.ref p) (upd H p (.lst (rO xs lo hi)))
theorem sJ:YW X (Vy X.K):=by
 intro _a s σ H x v vl vu lo hi sl Q I rx hs pl pu h;obtain a|xs|rfl|hx|q:=h;cases rx;obtain _n|r|ht|hz:=I.32 hx;have _y:=r.9;refine #["list",_,slot_list_getitem.13,ht.isList.typeIs,?_];refine wpAny_getItem_list_slice ht.20 hs pl pu .none (by simp) ?_ (by rw[bc] <;> lia);rw[Dn,<- _y];refine #[.ref s.6,_,I.laid (t':=s.27) (o:=.lst (rO xs lo hi)) (λb ob q=>Y4 _ q) (ah _) ?_,rfl,q _ (I._u.36 (ah _))];show #[ag (Ah xs lo hi) hz,_,0,(r.37 (HT.FO xs.9 0 lo)).21 (HT.FO xs.9 xs.9 hi - HT.FO xs.9 0 lo),Zc _ rfl]
def yB:V->Bool
 | ._B=>true
 | .bl _=>true
 | .int _=>true
 | .str _=>true
 | _=>false
def UG:V->V->Bool
 | ._B,._B=>true
 | .bl a,.bl b=>a == b
 | .bl a,.int b=>(if a then 1 else 0) == b
 | .int a,.bl b=>a == (if b then 1 else 0)
 | .int a,.int b=>a == b
 | .str a,.str b=>a == b
 | _,_=>false
theorem Wj (ry:RelV y u) (rx:RelV x v) (fy:yB y=true) (fx:yB x=true):Zq A s u v (UG y x):=by
 cases y with
 | _B =>
  cases ry;cases x with
  | _B=>cases rx;show Zq.same _
  | bl b=>cases rx;show Zq.none_bool b
  | int b=>obtain t|rfl:=rx;show Zq.none_int b t
  | str b=>obtain t|rfl:=rx;show Zq.none_str b t
  | _=>show absurd (show false=true from fx) aQ
 | bl a =>
  cases ry;cases x with
  | _B=>cases rx;show Zq.bool_none a
  | bl b=>cases rx;show Zq.bool_bool a b
  | int b=>obtain t|rfl:=rx;show Zq.bool_int a b t
  | str b=>obtain t|rfl:=rx;show Zq.bool_str a b t
  | _=>show absurd (show false=true from fx) aQ
 | int a =>
  obtain t'|rfl:=ry;cases x with
  | _B=>cases rx;show Zq.int_none a t'
  | bl b=>cases rx;show Zq.int_bool a t' b
  | int b=>obtain t|rfl:=rx;show Zq.int_int a t' b t
  | str b=>obtain t|rfl:=rx;show Zq.int_str a t' b t
  | _=>show absurd (show false=true from fx) aQ
 | str a =>
  obtain t'|rfl:=ry;cases x with
  | _B=>cases rx;show Zq.str_none a t'
  | bl b=>cases rx;show Zq.str_bool a t' b
  | int b=>obtain t|rfl:=rx;show Zq.str_int a t' b t
  | str b=>obtain t|rfl:=rx;show Zq.str_str a t' b t
  | _=>show absurd (show false=true from fx) aQ
 | _=>show absurd (show false=true from fy) aQ
def Tf (x:V) (u:Value):Bool:=match u with
 | .none=>UG ._B x
 | .bool b=>UG (.bl b) x
 | .int i _=>UG (.int i) x
 | .str z _=>UG (.str z) x
 | _=>false
theorem QC (r:RelV y u) (f:yB y=true):Tf x u=UG y x:=by
 cases y with
 | _B=>cases r;rfl
 | bl b=>cases r;rfl
 | int i=>obtain t|rfl:=r;rfl
 | str z=>obtain t|rfl:=r;rfl
 | _=>show absurd (show false=true from f) aQ
theorem Ho {x:V}:∀{xs:List V} {us:List Value},cU xs us->xs.all yB=true->us.any (Tf x)=xs.any λy=>UG y x
 | _,_,.nil,_=>rfl
 | y :: xs,u :: us,.cons r t,f=>by
  rw[List.all_cons,dP] at f;rw[List.any_cons,List.any_cons,QC r f.1,Ho t f.2]
theorem CD {A:ZK} {s:Y5} {x:V} {v:Value} (rx:RelV x v) (fx:yB x=true):∀{xs:List V} {us:List Value},cU xs us->xs.all yB=true->∀u∈us,Zq A s u v (Tf x u)
 | _,_,.nil,_=>λu hu=>by cases hu
 | y :: xs,u :: us,.cons r t,f=>λu' hu=>by
  rw[List.all_cons,dP] at f;rcases ax.mp hu with rfl | hu
  ·rw[QC r f.1];show Wj r rx f.1 fx
  ·show CD rx fx t f.2 u' hu
def Yx (x:V) (xs:List V):Bool:=xs.any λy=>UG y x
def rIn (K:_g) (neg:Bool):R2:=λx y H Q=>∃p xs,y=.ref p/\(bA K H p xs\/ue K H p xs)/\yB x=true/\xs.all yB=true/\Q (.bl (if neg then !Yx x xs else Yx x xs)) H
theorem FW:yQ X (ZQ .NotIn) (rIn X.K true):=by
 intro _a s σ H x y v u Q I rx ry h;obtain p|xs|rfl|hq|fx|fs|q:=h;cases ry;rcases hq with hq | hq
 ·obtain _n|r|pl|hz:=I.32 hq;refine SeqAt.notIn_listAt (Tf x) pl.20 (λw hw=>CD rx fx r fs w (by simpa using hw)) #[.bl _,H,I,rfl,?_];rw[show _n.toArray.any (Tf x)=_n.any (Tf x) by simp,Ho r fs];show q
 ·obtain _n|r|pl|hz:=I.58 hq;refine SeqAt.notIn_tupleAt (Tf x) pl (λw hw=>CD rx fx r fs w (by simpa using hw)) #[.bl _,H,I,rfl,?_];rw[show _n.toArray.any (Tf x)=_n.any (Tf x) by simp,Ho r fs];show q
theorem aS:qJ X (.builtin "len") (λxs H Q=>∃p ys,xs=[.ref p]/\(bA X.K H p ys\/ue X.K H p ys)/\Q (.int ys.9) H):=by
 intro _a s σ H xs us Q I r h;obtain p|ys|rfl|hq|q:=h;obtain u|rfl|rx:=vals1 r;cases rx;have hn:=CJ;rcases hq with hq | hq
 ·obtain _n|r'|pl|hz:=I.32 hq;have _y:=r'.9;show Calls.call_len_list pl.20 (by simp only[bc] <;> lia) #[.int ys.9,H,I.tok _,#[s.27+1,by rw[bc,_y]],q]
 ·obtain _n|r'|pl|hz:=I.58 hq;have _y:=r'.9;show len_tuple pl (by simp only[bc] <;> lia) #[.int ys.9,H,I.tok _,#[s.27+1,by rw[bc,_y]],q]
theorem oR:qJ X (.type "list") (λxs H Q=>∃p ys,xs=[.ref p]/\(bA X.K H p ys\/ue X.K H p ys)/\∀l,H l=none->Q (.ref l) (upd H l (.lst ys))):=by
 intro _a s σ H xs us Q I r h;obtain p|ys|rfl|hq|q:=h;obtain u|rfl|rx:=vals1 r;cases rx
 have fin:∀(_n:List Value),cU ys _n->ys.9<=Zh->∀(h':Heap) (c':Nat),(∀b o',s.heap.11 b=some o'->h'.11 b=some o') →
   h'.11 s.6=some { cls:=.type "list",dict:=none,data:=.seq _n.14 c',slots:=[].14 }->EP X _a σ Q (.ref s.6) { s with heap:=h' }:=λ_n r' hz h' c' kp e =>
  #[.ref s.6,_,I.laid (t':=s.27) kp (ah _) (show iJ X.23 X.w _ h' _ (.lst ys) from #[hz,_n,c',r',e]),rfl,q _ (I._u.36 (ah _))]
 rcases hq with hq | hq
 ·obtain _n|r'|pl|hz:=I.32 hq;have _y:=r'.9;obtain o|ho|hc|n|hd:=pl.20;show call_list_seq p (.inl rfl) ho hc hd (λh' c' kp e=>fin _n r' hz h' c' kp e) (by simp only[bc] <;> lia)
 ·obtain _n|r'|pl|hz:=I.58 hq;have _y:=r'.9;obtain o|ho|hc|n|hd:=pl;show call_list_seq p (.inr rfl) ho hc hd (λh' c' kp e=>fin _n r' hz h' c' kp e) (by simp only[bc] <;> lia)
def YD (K:_g) (T:String) (x:V) (H:Hp):Prop:=match x with
 | .str _=>T="str"
 | .int _=>T="int"
 | .ref p=>(T="list"/\∃xs,bA K H p xs)\/(T="tuple"/\∃o,K.13 p=some o/\o.cls=.type "tuple"/\o.dict=none) \/
   (T="dict"/\((∃I!,H p=some (.dK I!))\/∃I!,H p=some (.dT I!)))\/(T="set"/\∃S n,H p=some (.set S n))
 | _=>False
theorem UU {σ:St} (I:Inv X _a σ H s) (r:RelV x v) (ty:YD X.K T x H) :
  s.TypeIs v T/\∀a,v=.ref a->∃ob,s.heap.11 a=some ob/\ob.dict=none:=by
 cases x with
 | str z =>
  obtain t|rfl:=r;cases (show T="str" from ty);show #[typeIs_str s z t,λ_ e=>nomatch e]
 | int i =>
  obtain t|rfl:=r;cases (show T="int" from ty);show #[typeIs_int s i t,λ_ e=>nomatch e]
 | ref p =>
  cases r;rcases ty with ⟨rfl,xs,hq⟩ | ⟨rfl,o,hk,hc,hd⟩ | ⟨rfl,hk⟩ | ⟨rfl,S,n,hk⟩
  ·obtain _n|_|pl|_:=I.32 hq;refine #[pl.isList.typeIs,λa e=>?_];cases e;obtain o|n|e|c|hd|_:=pl;show #[o,e,hd]
  ·refine #[#[o,I._X p o hk,hc],λa e=>?_];cases e;show #[o,I._X _ o hk,hd]
  ·have z:∃o,s.heap.11 p=some o/\o.ExactDict:=by
    rcases hk with ⟨I!,hk⟩ | ⟨I!,hk⟩
    ·obtain _|_|_|_|o|_|_|e|ex|_:=I._u p _ hk;show #[o,e,ex]
    ·obtain _|_|_|_|o|_|_|e|ex|_:=I._u p _ hk;show #[o,e,ex]
   obtain o|e|ex:=z;refine #[#[o,e,ex.1],λa e2=>?_];cases e2;show #[o,e,ex.2.1]
  ·obtain o|_|_|_|e|ex|_:=I._u p _ hk;refine #[#[o,e,ex.1],λa e2=>?_];cases e2;show #[o,e,ex.2.1]
 | _=>show Zr ty
def tBM (K:_g) (T:String) (r:V->List V->Hp->VK->Prop) (to:TE) (t:TA):TE:=λσ H Q=>to σ H λx H1=>YD K T x H1/\t σ H1 λxs H2=>r x xs H2 Q
variable {o e:Expr} {es:List Expr} {to:TE} {t:TA} {name:Str} {apos aaX:Pos} {T id:String} {r:V->List V->Hp->VK->Prop}
theorem yd (pa:PlainAttrs T) (slot:Slot T name id) (hty:typeOf (.builtin id)=pure (.type "method_descriptor")) (hm:MtR X id r) (ho:PE X o to) (ha:PA X (e :: es) t)
  (afv:attributeBase o name X.16 (eval o X.16)=eval o X.16:=by rfl)
  (ajH:((aag aaX (Y8 (e :: es) X.16)).all (λx=>!x.1) && (backToKw aaX (keywordEach [] X.16)).all (λx=>x.1.isSome)
   && decide ((e :: es).9+([]:List Keyword).9+(if ([]:List Keyword).isEmpty then 0 else 1) < 30))=true:=by rfl)
  (afm:(apos.endLine == aaX.line)=true:=by rfl) (hs:Y8 (e :: es) X.16=(false,eval e X.16) :: Y8 es X.16:=by rfl) (adB:(aag aaX (Y8 es X.16)).any (·.1)=false:=by rfl) :
  PE X (.Call (.Attribute o name apos) (e :: es) [] aaX) (tBM X.K T r to t):=by
 intro _a s σ H Q I h;refine wpAny_Call_method_late afv ajH afm rfl (ik (ho _a s σ H _ I h) λv s1 hz=>?_);obtain x|H1|I1|r1|ty|q1:=hz;obtain h1|h2:=UU I1 r1 ty;refine #[T,id,pa,slot,hty,h1,h2,?_];have hA:=ha aaX _a s1 σ H1 _ I1 q1;rw[hs] at hA ⊢;refine Calls.callWith_builtin (by change (false || (aag aaX (Y8 es X.16)).any (·.1))=false;rw[adB] <;> rfl) (Calls.evalArgs_plain ?_);show ik hA λus s2 ⟨vs,H2,I2,r2,q2⟩=>hm _a s2 σ H2 x vs v us Q I2 r1 r2 q2
end
def MtM (X:Cx) (id:String) (r:V->List V->Hp->VK->Prop):Prop :=
 ∀(_a:List (Addr×Obj)) (s:Y5) (σ:St) (H:Hp) (x:V) (xs:List V) (v:Value) (us:List Value) (Q:VK),Inv X _a σ H s->RelV x v->cU xs us->r x xs H Q →
  Zd (model X.23 X.w) X.A (call (.builtin id) (v :: us)) (EP X _a σ Q) X.xe s
theorem cU.one:∀{x:V} {us:List Value},cU [x] us->∃u,us=[u]/\RelV x u
 := by
 intro x us h;cases h with | cons r t=>cases t;show #[_,rfl,r]
theorem cU.rep {xs:List V} {us:List Value} (h:cU xs us):∀k:Nat,cU (Wb k xs).flatten (Wb k us).flatten
 | 0=>.nil
 | k+1=>by
  rw[oh,oh,mG,mG];show cU.append h (cU.rep h k)
theorem foldl_rep (_n:List Value):∀(k:Nat) (acc:List Value),
  List.foldl (λx1 x2=>x1++x2) acc.14 (Wb k _n.5)=(acc++(Wb k _n).flatten).5
 | 0,acc=>by simp
 | k+1,acc=>by
  have e:acc.5++_n.5=(acc++_n).5:=by simp
  have e2:(acc++_n)++(Wb k _n).flatten=acc++(Wb (k+1) _n).flatten:=by
   rw[oh,mG,cv]
  rw[<- e2,<- foldl_rep _n k (acc++_n),<- e,oh,List.foldl_cons]
section
variable {σ:St}
theorem Inv.aiG {_n its':List Value} (I:Inv X _a σ H s) (hH:H l=some (.lst xs))
  (e:s.heap.11 l=some { cls:=.type "list",data:=.seq _n.14 n }) (hf:f _n.5=its'.5) (hv:cU ys its') (hz:ys.9<=Zh) :
  Inv X _a σ (upd H l (.lst ys)) { s with heap:=s.heap.42 l (Zu f),toks:=t' }:=by
 have q:=nN e f;rw[hf] at q;refine I.write (x:=l) (e:=l) (by rw[hH];show trivial) (.inl rfl) (λb' u hb hu=>(Zm s.22 (Zu f) (Zo hb)).3 hu) #[_,q] ?_;show #[hz,its',_,hv,q]
theorem Inv.afd (I:Inv X _a σ H s) (hv:cU ys _n) (hz:ys.9<=Zh) :
  Inv X _a σ (upd H s.heap.objs.28 (.lst ys)) { s with heap:=s.heap.25 { cls:=.type "list",data:=.seq _n.5 },toks:=t' } :=
 I.laid (λ_ _ q=>Y4 _ q) (ah _) #[hz,_n,0,hv,Zc _ rfl]
theorem Inv.fresh (I:Inv X _a σ H s):H s.6=none:=I._u.36 (ah _)
theorem Inv.acm (I:Inv X _a σ H s) (hH:H l=some (.lst xs)):xs.9<=Zh/\∃(_n:List Value) (n:Nat),cU xs _n/\xs.9=_n.9/\s.heap.11 l=some { cls:=.type "list",data:=.seq _n.14 n }:=by
 obtain z|_n|n|r|e:=I._u l _ hH;show #[z,_n,n,r,r.9,e]
theorem PN (h:n<=Zh):ZA.List.listTooLong n=false:=by
 unfold ZA.List.listTooLong;show decide_eq_false ()
end
section
variable {X:Cx}
def Mt:V->List V->Hp->VK->Prop:=λx vs H Q=>∃l xs y,x=.ref l/\vs=[y]/\H l=some (.lst xs)/\xs.9 < Zh/\Q ._B (upd H l (.lst (xs++[y])))
theorem jQ:MtM X "list.append" Mt:=by
 intro _a s σ H x vs v us Q I rx rv h;obtain l|xs|y|rfl|rfl|hH|hz|q:=h;cases rx;obtain u|rfl|ru:=rv.one;obtain z|_n|n|r|hl|e:=I.acm hH;refine call_meets F.slot_list_append #[_,e,rfl] F.entry_list_append (F.args_list_append_2 _ _) (PySem.list_append l _n.14 n u (by rw[bc];lia)) #[e,?_];refine #[._B,_,I.aiG (its':=_n++[u]) hH e (by simp) (r.append (.cons ru .nil)) ?_,rfl,q];rw[ar,aY]
 lia
def XF:R2:=λx y H Q=>∃l b xs zs,x=.ref l/\y=.ref b/\H l=some (.lst xs)/\H b=some (.lst zs)/\xs.9+zs.9<=Zh/\∀p,H p=none->Q (.ref p) (upd H p (.lst (xs++zs)))
theorem rh:yQ X (binaryOp .Add) XF:=by
 intro _a s σ H x y v u Q I rx ry h;obtain l|b|xs|zs|rfl|rfl|hH|hB|hz|q:=h;cases rx;cases ry;obtain z|_n|n|r|hl|e:=I.acm hH;obtain z2|afe|n2|r2|hl2|e2:=I.acm hB;refine PySem.P.add_list e e2 ?_ (by rw[bc,bc];lia);have ea:_n.5++afe.5=(_n++afe).5:=by simp
 rw[ea];show #[.ref _,_,I.afd (t':=s.27) (r.append r2) (by rw[ar];lia),rfl,q _ I.36]
def XC:R2:=λx y H Q=>∃l k xs,x=.ref l/\y=.int k/\H l=some (.lst xs)/\-(2^63)<=k/\k < 2^63/\xs.9*k.29<=Zh /\
 ∀p,H p=none->Q (.ref p) (upd H p (.lst (Wb k.29 xs).flatten))
theorem len_rep {α:Type} (xs:List α) (k:Nat):(Wb k xs).flatten.length=k*xs.9:=by
 induction k with
 | zero=>simp
 | succ k ih=>rw[oh,mG,ar,ih,ir,iu]
theorem PD:yQ X (binaryOp .Mult) XC:=by
 intro _a s σ H x y v u Q I rx ry h;obtain l|k|xs|rfl|rfl|hH|h1|h2|hz|q:=h;cases rx;obtain t|rfl:=ry;obtain z|_n|n|r|hl|e:=I.acm hH;have _y:_n.5.7*k.29<=Zh:=by rw[bc,<- hl];show hz
 have l!:¬_n.5.7*k.29 > (2^63 - 1) / 8:=by
  have:(Zh:Nat)<=(2^63 - 1) / 8:=()
  lia
 have ajG:¬(!ZA.List.listFitsIndex k)=true:=by
  rw[fitsIndex_both h1 h2];show aQ
 have afl:¬ZA.List.listTooLong (_n.5.7*k.29)=true:=by
  rw[PN _y];show aQ
 have ajt:List.foldl (λx1 x2=>x1++x2) [].14 (Wb (if _n.toArray.isEmpty=true then 0 else k.29) _n.5)=(Wb k.29 _n).flatten.toArray:=by
  have f0:∀m:Nat,List.foldl (λx1 x2=>x1++x2) [].14 (Wb m _n.5)=(Wb m _n).flatten.toArray:=λm=>by
   have:=foldl_rep _n m [];rw[cX] at this;show this
  rw[f0];cases _n with
  | nil=>simp
  | cons a r'=>rw[if_neg (by simp)]
 refine wpAny_binaryOp_repeat_ref (T:="list") (U:="int") () #[_,e,rfl] (λs'=>typeIs_int s' k t) noFill_list_mul F.fills_int_mul F.slot_int_rmul repeat_list F.slot_int_index.13
  (call_meets F.slot_int_rmul (typeIs_int s k t) F.entry_int_rmul (F.args_int_rmul_2 _ _) (int___rmul___int_list k t l _n.14 n)
   #[e,rfl,#[_,e,rfl],call_meets F.slot_list_mul #[_,e,rfl] F.entry_list_mul (F.args_list_mul_2 _ _) (AutoListH.list___mul___list_int_3 l _n.14 n k t ajG l! afl) #[e,?_]])
 rw[ajt];show #[.ref _,_,I.afd (t':=s.27) (r.rep k.29) (by rw[len_rep,bE];show hz),rfl,q _ I.36]
end
end L2
namespace Att
open PySem PySem.W PySem.Calls PyProof.Rows
theorem Au:∀(ns:List Int) (vs:List Value),WellAll P h vs (ns.12 WData.int)->IntsAre vs ns:=by
 intro ns
 induction ns with
 | nil =>
  intro vs w;rw[List.map_nil] at w;cases w;show .nil
 | cons n ns ih =>
  intro vs w;rw[jD] at w;cases w with
  | cons a b =>
   cases a;show .cons _ _ (ih _ b)
theorem NA {l:OpenLaw} (hn:l.most=some n) 
  (acr:l.row.toRowW.claim.pre args=true) (hwl:WellAll P h vals args) :
  ∃a vs ns,vals=[Za a]/\args=[WData.list (ns.12 WData.int)]/\h.11 a=some { cls:=.type "list",data:=.seq vs.5 }/\IntsAre vs ns/\ns.9<=n:=by
 have hsh:WShape.hasAll [] args [.list .int]=true:=(pre_splitW acr).1;have hc:l.pre.holds [] { args:=args }=true:=(pre_splitW acr).2;obtain d|r|rfl|h1|h2:=hasAllW_cons hsh;obtain rfl:=hasAllW_nil h2;obtain xs|rfl|h3:=hasW_list h1;obtain ns|rfl:=items_int h3
 have _y:ns.9<=n:=by
  unfold OpenLaw.pre at hc
  have h4:(WTm.not (.lt (.lit (.int (n:Int))) (.len (.arg 0)))).holds [] { args:=[.list (ns.12 .int)] }=true:=by
   have h4:=(holds_andW hc).1;rw[hn] at h4;show h4
  have h5:=condW_of h4 (w_not (w_lt w_lit (w_len_list (w_arg rfl))));rw[af] at h5;refine Nat.le_of_not_lt λq=>?_
  have q':(n:Int) < ((ns.9:Nat):Int):=()
  first
   | (rw[decide_eq_true q'] at h5;show absurd h5 ())
   | (simp at h5;lia)
 cases hwl with
 | cons w1 w2 =>
  cases w2;cases w1 with
  | list ho hall=>show #[_,_,ns,rfl,rfl,ho,Au ns _ hall,_y]
theorem NI (l:OpenLaw) (args:List WData):l.row.toRowW.claim.post args (.bool true) args=true :=
 postW_of (r:=l.row.toRowW) (X:=(true == true))
  (show WShape.has [] (.bool true) .bool=true by first | rfl | decide | simp [WShape.has,WShape.arms,WShape.armsAll])
  (show (WTm.eq .res (.lit (.bool true))).value [] { args:=args,res:=some (.bool true),after:=args }=some (.bool (true == true)) from w_eq_bool (w_res rfl) w_lit) rfl
theorem JV {l:OpenLaw} 
  (hn:l.most=some n) (hdf:d.params.defaults=[])
  (call:∀(w:ZO) (s₀ s₁:Y5) (mg mb:Str->Option Value) (fa:Addr) (o:Obj) (pm cd doc:Value) (a:Addr) (vs:List Value) (ns:List Int),
   Ground q loose [] XP w s₀ mg mb s₁.8->YP w s₁.8 →
   s₁.heap.11 fa=some o->o.data=.func (docDef d.name d.params d.body d.scope pm cd doc)->s₁.heap.CodeRec cd d.name->mg d.name=some (.ref fa) →
   s₁.heap.11 a=some { cls:=.type "list",data:=.seq vs.5 }->IntsAre vs ns->ns.9<=n->s₁.gens=[].14 →
   aab (model l.23 w) callerA (.call (.ref fa) #[[.ref a],[]]) (λr s'=>r=.ok (.ret (.bool true))/\OldK s₁.22 s'.8/\s'.os=s₁.os/\AllBare s'.gens) s₁) :
  WalkO q loose XP YP l.row.toRowW d [] (λf vs=>PySem.call f vs):=by
 intro w s₀ s₁ mg mb G Y fa o pm cd doc dV kV ho hd hcd hD hmg hg args vals as acr hlay hrd hwl hlo;obtain rfl:dV=.none:=Dflts.none hD hdf;obtain rfl:kV=.none:=Dflts.noKw hD;obtain a|vs|ns|rfl|rfl|adE|hints|_y:=NA hn acr hwl;refine enter_call (aad (call w s₀ s₁ mg mb fa o pm cd doc a vs ns G Y ho (fd_plain hd) hcd hmg adE hints _y hg) λr s' hq=>?_);obtain rfl|h2|h3|h4:=hq;show #[.inl #[.bool true,.bool true,[],rfl,λ_=>rfl,.bool true,NI l _,λ_=>#[List.Pairwise.nil,λ_ hm=>(nomatch hm)]],h2,h3,h4]
end Att
namespace L2
open PySem PySem.Spec PyProof.Rows
theorem Ee:∀{vs:List Value} {ns:List Int},IntsAre vs ns->cU (ns.12 V.int) vs
 | _,_,.nil=>.nil
 | _,_,.cons n t h=>.cons #[t,rfl] (Ee h)
def WC (H:Hp):Prop:=∀b,H b=none\/∃o xs,H b=some (.frz o (.lst xs))
theorem Qa {K:_g} 
  (KX:K.In s₁.8) (hns:s₁.heap.Ns Ze mg) (hb:s₁.heap.Ns builtinsNs mb) (hbb:∀x:Str,x≠"__name__"->mb x=Z8 x) (ajx:s₁.heap.NoLimit) (hsr:s₁.heap.NoSeer) (hg:s₁.gens=[].14)
  (ha:s₁.heap.11 a=some { cls:=.type "list",data:=.seq vs.5 }) (hi:IntsAre vs ns) (hl:ns.9<=Zh) (hr:kv k callerA)
  (F:∀base:Heap,K.In base->base.Ns Ze mg->kB P w K mg base CX k fa fd [x] sp) (afu:∀(s:Y5) (u:Value),BindsTo s fd #[[u],[]] [(x,u)])
  (hsp:∀H:Hp,WC H->bA K H a (ns.12 V.int)->sp [.ref a] H (λv _=>v=.bl true) λ_ _ _=>False)
  (hCX:∀H e s',CX [] H s₁ (λ_ _ _=>False) e s'->False) :
  aab (model P w) callerA (.call (.ref fa) #[[.ref a],[]]) (λr s'=>r=.ok (.ret (.bool true))/\OldK s₁.22 s'.8/\s'.os=s₁.os/\AllBare s'.gens) s₁:=by
 have rv:=Ee hi;have aiJ:=hi.length
 have core:∀H:Hp,WC H->bA K H a (ns.12 V.int)->yR P w H s₁.8->(∀b,H b≠none->b=a)->(H a≠none->K.13 a=none) →
   aab (model P w) callerA (.call (.ref fa) #[[.ref a],[]]) (λr s'=>r=.ok (.ret (.bool true))/\OldK s₁.22 s'.8/\s'.os=s₁.os/\AllBare s'.gens) s₁:=by
  intro H hO hS _u hA hK;have aay:∀{b:Addr} {o:Obj},s₁.heap.11 b=some o->H b=none->(Gj s₁.22 H).11 b=some o:=λe n=>Qi e n
  have noA:∀{b:Addr} {o:Obj} {es:Array DictEntry} {ep:Nat},s₁.heap.11 b=some o->o.data=.dict es ep->H b=none:=λ{b o es ep} e d=>by
   cases q:H b with
   | none=>rfl
   | some u =>
    have e':b=a:=hA b (by rw[q];simp);subst e';rw[ha] at e;cases e;have d':Data.seq vs.14 _=Data.dict es ep:=d;cases d'
  have nsK:∀{b:Addr} {m:Str->Option Value},s₁.heap.Ns b m->(Gj s₁.22 H).Ns b m:=λ{b m} #[o,es,ep,e,d,r]=>#[o,es,ep,aay e (noA e d),d,r]
  have hKb:K.In (Gj s₁.22 H):=λb o e=>aay (KX b o e) (by
   cases q:H b with
   | none=>rfl
   | some u =>
    have e':b=a:=hA b (by rw[q];simp);subst e';rw[hK (by rw[q];simp)] at e;cases e)
  have hM:Mod K mg (Gj s₁.22 H):=#[hKb,nsK hns,#[mb,nsK hb,hbb],let ⟨mc,h1,h2⟩:=ajx;#[mc,nsK h1,h2],#[let ⟨mc,h1,h2⟩:=hsr.statics;#[mc,nsK h1,h2],let ⟨mm,h1,h2⟩:=hsr.mods;#[mm,nsK h1,h2],#[mb,nsK hb,hbb],let ⟨mg',bm,ob,h1,h2,h3,h4,h5⟩:=hsr.main;#[mg',bm,ob,nsK h1,h2,aay h3 (by
   cases q:H bm with
   | none=>rfl
   | some u =>
    have e':bm=a:=hA bm (by rw[q];simp);subst e';rw[ha] at h3;cases h3;injection h4 with q4
    show absurd q4 ()),h4,h5]]]
  have e0:L4 P w K mg (Gj s₁.22 H) callerA [] s₁ H:=#[rfl,hM,λb o e=>SN e,A6 (N3 _ _),trivial,λb hb=>absurd (show b∈([]:List Addr) from hb) (by simp),_u,.of_eq hg];refine aad ((F _ hKb (nsK hns)).run callerA [] s₁ H #[[.ref a],[]] [.ref a] [.ref a] _ _ hr e0 (afu s₁ (.ref a)) (.cons rfl .nil) (hsp H hO hS)) λr s' h=>?_
  cases r with
  | error e=>show (hCX H e s' h).45
  | ok fl =>
   cases fl with
   | next=>show Zr h
   | brk=>show Zr h
   | cont=>show Zr h
   | ret u =>
    obtain v|H'|os|bare|un|ajq|r'|q:=h;have q':v=.bl true:=q;subst q';obtain rfl:u=Value.bool true:=r';refine #[rfl,OldK.of_keep λb o e=>?_,os,bare];cases q:H b with
    | none=>show un.keep b o e q (by intro z;show absurd (show b∈([]:List Addr) from z) (by simp)) (by simp)
    | some u =>
     rcases hO b with z | ⟨ob,xs,z⟩
     ·rw[q] at z;cases z
     ·have z2:=un.x! b ob _ z;obtain e1|_:=_u b _ z;obtain e2|_:=ajq b _ z2;rw[e] at e1;cases e1;show e2
 cases hk:K.13 a with
 | some o =>
  have e:=KX a o hk;rw[ha] at e;cases e;refine core (λ_=>none) (λ_=>.inl rfl) (.inr #[_,vs.5,_,hk,rfl,rfl,rfl,by rw[bc,aiJ];show hl,by simpa using rv]) (λb u z=>by have z':(none:Option HO)=some u:=z;cases z') (λb z=>absurd rfl z) λz=>absurd rfl z
 | none =>
  refine core (λb=>if b=a then some (.frz { cls:=.type "list",data:=.seq vs.5 } (.lst (ns.12 V.int))) else none) (λb=>?_) (.inl (.inr #[{ cls:=.type "list",data:=.seq vs.5 },if_pos rfl])) (λb u z=>?_) (λb z=>?_) λ_=>hk
  ·by_cases hb:b=a
   ·show .inr #[_,_,if_pos hb]
   ·show .inl (if_neg hb)
  ·by_cases hb:b=a
   ·have z':=(if_pos hb).symm.trans z;cases z';subst hb;show #[ha,by rw[af];show hl,vs,_,rv,ha]
   ·have z':=(if_neg hb).symm.trans z;cases z'
  ·by_cases hb:b=a
   ·show hb
   ·show absurd (if_neg hb) z
theorem Rv {l:PySem.W.OpenLaw} {K:Params->_g} {CX:ZO->L6} {sp:ZO->Sp} 
  (hn:l.most=some n) (hn2:n<=Zh) (hdf:d.params.defaults=[]) (hr:kv k callerA) (hi:importsNone q=true)
  (hY:∀(w:ZO) (h:Heap),YP w h->(K w.params).In h)
  (F:∀(w:ZO) (mg:Str->Option Value) (fa:Addr) (h:Heap),(K w.params).In h->h.Ns Ze mg->mg d.name=some (.ref fa) →
   ∃fd:W0,(∀(s:Y5) (u:Value),BindsTo s fd #[[u],[]] [(x,u)]) /\
    ∀base:Heap,(K w.params).In base->base.Ns Ze mg->kB l.23 w (K w.params) mg base (CX w) k fa fd [x] (sp w))
  (hsp:∀(w:ZO) (H:Hp) (a:Addr) (ns:List Int),ns.9<=n->WC H->bA (K w.params) H a (ns.12 V.int)->sp w [.ref a] H (λv _=>v=.bl true) λ_ _ _=>False)
  (hCX:∀(w:ZO) (H:Hp) (s:Y5) (e:Value) (s':Y5),CX w [] H s (λ_ _ _=>False) e s'->False) :
  PySem.W.WalkO q loose XP YP l.row.toRowW d [] (λf vs=>PySem.call f vs):=by
 refine Att.JV hn hdf λw s₀ s₁ mg mb fa o pm cd doc a vs ns G Y ho hd hcd hmg adE hints _y hg=>?_
 have KX:=hY w _ Y;obtain fd|hb|hF:=F w mg fa _ KX G.T.g hmg;show Qa KX G.T.g G.T.b G.T.builtins G.T.nolimit (G.T.seer hi) hg adE hints (ag _y hn2) hr hF hb (λH hO hS=>hsp w H a ns _y hO hS) λH e s'=>hCX w H s₁ e s'
end L2

namespace L2
open PySem PySem.Spec PyProof.Rows
def inClass (s:Stmt) (j:Nat):Stmt:=match s with
 | .ClassDef _ _ _ body _ _ _ _ _ _ _=>body.4 j (.Pass #[0,0,0,0])
 | _=>.Pass #[0,0,0,0]
def gD (s:Stmt):Arguments:=match s with
 | .FunctionDef _ a _ _ _ _ _ _ _ _=>a
 | _=>{ posonlyargs:=[],args:=[],vararg:=none,kwonlyargs:=[],kw_defaults:=[],kwarg:=none,defaults:=[] }
def dW (s:Stmt):List Stmt:=match s with
 | .FunctionDef _ _ b _ _ _ _ _ _ _=>b
 | _=>[]
def cC (s:Stmt):Scope:=match s with
 | .FunctionDef _ _ _ _ _ _ sc _ _ _=>sc
 | _=>{ kind:=.function,names:=[],isGenerator:=false,isCoroutine:=false }
abbrev Eb:L6:=λ_ _ _ _ _ _=>False
abbrev E0:XK:=λ_ _ _=>False
theorem uk:vM Eb X E0:=λ_ _ _ _ _ _ _ h=>h.45
structure AG (K:_g) (x qual:Str) (st:Stmt) (f:Addr) (fd:W0):Prop where
 ex:∃(oc:Value) (od:Option Addr) (kV doc pm:Value) (an:Option Addr) (_I ct:Value) (osl:Array (Option Value)),
  fd=Z1 x qual (gD st) (dW st) (cC st) .none kV doc pm an _I ct/\K.13 f=some #[oc,od,.func fd,osl]/\PySem.W.codeIn K _I qual=true
 kp:Zs K (.ref f)=true
section
variable {P:Zx} {w:ZO} {K:_g} {mg:Str->Option Value} {base:Heap}
theorem AG.ok {st:Stmt} (F:AG K x qual st f fd) (S:qH N ps (cC st)) (len:∀vs H Q E,sp vs H Q E->vs.9=ps.9)
  (D!:∀(_I:Value) (A:ZK) (outer:List Env) (s:Y5) (H:Hp) (vs:List V) (Q:VK) (E:XK),kv k (A.deeper (Z2 qual (cC st) s.heap.objs.28 f _I))->sp vs H Q E →
   ∃t,Fc (AA Eb P w K mg base N qual (cC st) f _I A outer s H E).nox (dW st) t/\t { nx:=λ_ H'=>Q ._B H',rt:=Q } (start N vs) H):kB P w K mg base Eb (k+1) f fd ps sp:=by
 obtain oc|od|kV|doc|pm|an|_I|ct|osl|rfl|lk|hcd:=F.ex;refine UD lk hcd S len λA outer s H vs Q E hr hsp=>?_
 obtain t|h|q:=D! _I A outer s H vs Q E hr hsp;show #[t,h.nox,q]
theorem O1 {N ps:List Str} {vs:List V} (h:N.21 ps.9=ps) (l:vs.9=ps.9):vs.9<=N.9:=by
 have:=congrArg Z7 h;rw[br] at this
 lia
theorem AG.k {x qual:Str} {st:Stmt} {f:Addr} {fd:W0} {N ps:List Str} {k:Nat} {sp:Sp} (F:AG K x qual st f fd) (S:qH N ps (cC st))
  (D!:∀(_I:Value) (A:ZK) (outer:List Env) (s:Y5) (H:Hp) (vs:List V) (Q:VK) (E:XK) (hr:kv k (A.deeper (Z2 qual (cC st) s.heap.objs.28 f _I))) (h:sp vs H Q E),
   ∃t,Fc (AA Eb P w K mg base N qual (cC st) f _I A outer s H E).nox (dW st) t/\t { nx:=λ_ H'=>Q ._B H',rt:=Q } (U7 N vs) H) (len:∀vs H Q E,sp vs H Q E->vs.9=ps.9:=by walk_at "n"):kB P w K mg base Eb (k+1) f fd ps sp :=
 F.ok S len λ_I A outer s H vs Q E hr h=>by
  rw[Fo (O1 S.pre (len _ _ _ _ h))];show D! _I A outer s H vs Q E hr h
theorem AG.binds {st:Stmt} (F:AG K x qual st f fd)
  (h:∀(kV doc pm:Value) (an:Option Addr) (_I ct:Value) (us:List Value),us.9=ps.9->bindArgs (Z1 x qual (gD st) (dW st) (cC st) .none kV doc pm an _I ct) #[us,[]]=pure (ps.zip us)):Binds K fd ps []:=by
 obtain oc|od|kV|doc|pm|an|_I|ct|osl|rfl|lk|hcd:=F.ex;show .all (h kV doc pm an _I ct)
theorem ow {st:Stmt} {kV doc pm _I ct:Value} (l:K.13 f=some #[oc,od,.func (Z1 x qual (gD st) (dW st) (cC st) .none kV doc pm an _I ct),osl])
  (c:PySem.W.codeIn K _I qual=true) (k:Zs K (.ref f)=true):AG K x qual st f (Z1 x qual (gD st) (dW st) (cC st) .none kV doc pm an _I ct):=#[#[oc,od,kV,doc,pm,an,_I,ct,osl,rfl,l,c],k]
end
structure Df (K:_g) (mg:Str->Option Value) (x:Str) (st:Stmt) (ps:List Str) (f:Addr) (fd:W0):Prop where
 m:mg x=some (.ref f)
 b:Binds K fd ps []
 F:AG K x x st f fd
structure Dh (K:_g) (x:Str) (st:Stmt) (f:Addr) (fd:W0):Prop where
 a:PySem.W.nsIn K Ze x=some (some (.ref f))
 F:AG K x x st f fd
theorem Ya {K:_g} {st:Stmt} {kV doc pm _I ct:Value} (a:PySem.W.nsIn K Ze x=some (some (.ref f))) (l:K.13 f=some #[oc,od,.func (Z1 x x (gD st) (dW st) (cC st) .none kV doc pm an _I ct),osl]) (c:PySem.W.codeIn K _I x=true) (k:Zs K (.ref f)=true):Dh K x st f (Z1 x x (gD st) (dW st) (cC st) .none kV doc pm an _I ct):=#[a,ow l c k]
theorem Dh.D {K:_g} {x:Str} {st:Stmt} {f:Addr} {fd:W0} {ps:List Str} {mg:Str->Option Value} {h:Heap} (d:Dh K x st f fd) (X:K.In h) (G:h.Ns Ze mg) (hb:∀(kV doc pm:Value) (an:Option Addr) (_I ct:Value) (us:List Value),us.9=ps.9->bindArgs (Z1 x x (gD st) (dW st) (cC st) .none kV doc pm an _I ct) #[us,[]]=pure (ps.zip us):=by walk_at "b"):Df K mg x st ps f fd:=#[PySem.W.mg_of X G d.a,d.F.binds hb,d.F]
abbrev Df.o {K:_g} {mg:Str->Option Value} {x:Str} {st:Stmt} {ps:List Str} {f:Addr} {fd:W0} (_:Df K mg x st ps f fd) (P:Zx) (w:ZO) (base:Heap) (k:Nat) (sp:Sp):Prop:=kB P w K mg base Eb k f fd ps sp
theorem cH {X:Cx} {k k':Nat} {f:Addr} {fd:W0} {ps:List Str} {sp:Sp} {x:Str} {st:Stmt} {p pos:Pos} {e:Expr} {es:List Expr} {t:TA} (F:kB X.23 X.w X.K X.mg X.41 Eb k f fd ps sp) (hr:kv k' X.A) (D:Df X.K X.mg x st ps f fd) (ha:PA X (e :: es) t) (hle:k<=k':=by decide) (hg:Gl X x:=by show rfl) (hdb:(x == ("__debug__":Str))=false:=by decide) (he:Y8 (e :: es) X.16=(false,eval e X.16) :: Y8 es X.16:=by rfl) (hpl:(aag pos (Y8 es X.16)).any (·.1)=false:=by rfl):PE X (.Call (.Name x p) (e :: es) [] pos) (OX sp [] E0 t):=AU F (hr.24 hle) hg D.m D.F.kp D.b .nil uk ha hdb he hpl
theorem dn (h:n<=1000):n < Zh:=aP h ()
theorem mH {n:Nat} (h:n<=1000:=by lia):n<=Zh:=dm (dn h)
section
variable {X:Cx}
theorem pv (i:Nat) {x:Str} {pos:Pos} (hN:X.N[i]?=some x:=by rfl) (hv:YS X.env.scope x:=by first | show Or.inl rfl | show Or.inr (Or.inl rfl) | show Or.inr (Or.inr rfl)) (hd:(x == ("__debug__":Str))=false:=by decide)
  (hcd:(x == ("__classdict__":Str))=false:=by decide):PE X (.Name x pos) (UZ i):=VH hN hv hd hcd
end
theorem S0 {A B:Prop} (h:B):if false=true then A else B:=by
 rw[if_neg aQ];show h
theorem XU {A B:Prop} (h:A):if true=true then A else B:=by
 rw[if_pos rfl];show h
theorem jm {c A B:Prop} [Decidable c] (h1:c->A) (h2:¬c->B):if c then A else B:=by
 by_cases h:c
 ·rw[if_pos h];show h1 h
 ·rw[if_neg h];show h2 h
def aG (H H':Hp):Prop:=∀b o,H b=some o->H' b=some o
theorem aG.refl (H:Hp):aG H H:=λ_ _ h=>h
theorem aG.trans (a:aG H H1) (b:aG H1 H2):aG H H2:=λc o h=>b c o (a c o h)
theorem aG.free (e:aG H H') (h:H' l=ZW):H l=ZW:=by
 cases q:H l with
 | none=>rfl
 | some o =>
  rw[e l o q] at h;cases h
theorem aG.seq {K:_g} (e:aG H H') (h:bA K H a xs):bA K H' a xs:=by
 rcases h with (h | ⟨o,h⟩) | h
 ·show .inl (.inl (e _ _ h))
 ·show .inl (.inr #[o,e _ _ h])
 ·show .inr h
end L2
namespace Nm
theorem Qq (a b:Int):ZN b (a.fmod b)=ZN a b:=by
 rw[Int.fmod_def,nP a b];apply Nat.dvd_antisymm
 ·apply Rf
  ·show fW ..
  ·have h1:=fW (a:=b) (b:=a - b*a.fdiv b);have h2:=ia (a:=b) (b:=a - b*a.fdiv b);have h3:=Int.dvd_add h2 (pY (c:=a.fdiv b) h1);rwa [Int.sub_add_cancel] at h3
 ·apply Rf
  ·show fW ..
  ·show Int.dvd_sub (ia ..) (pY (fW ..))
theorem Qr (a b:Int):ZN b (a % b)=ZN a b:=by
 rw[Int.emod_def,nP a b];apply Nat.dvd_antisymm
 ·apply Rf
  ·show fW ..
  ·have h1:=fW (a:=b) (b:=a - b*(a / b));have h2:=ia (a:=b) (b:=a - b*(a / b));have h3:=Int.dvd_add h2 (pY (c:=a / b) h1);rwa [Int.sub_add_cancel] at h3
 ·apply Rf
  ·show fW ..
  ·show Int.dvd_sub (ia ..) (pY (fW ..))
theorem Td (a b:Int) (h:b≠0):(a.fmod b).17 < b.17:=by
 rcases Int.lt_or_gt_of_ne h with h | h
 ·have e:a.fmod b=-((-a).fmod (-b)):=by
   have:=Int.neg_fmod_neg (-a) (-b);simp only[Int.neg_neg] at this;show this
  have h1:=Int.fmod_nonneg_of_pos (-a) (b:=-b) ();have h2:=Int.fmod_lt_of_pos (-a) (b:=-b) ()
  lia
 ·have h1:=Int.fmod_nonneg_of_pos a h;have h2:=Int.fmod_lt_of_pos a h
  lia
def g (t b:Int):Int:=(ZN t b:Int)
def lo (t b:Int):Int:=t / g t b
def hi (t b:Int):Int:=b / g t b
theorem CO (h:b≠0):0 < g t b:=by
 unfold g;have:0 < ZN t b:=Rm _ h
 lia
theorem CI (t b:Int):lo t b*g t b=t:=Int.ediv_mul_cancel (fW ..)
theorem zK (t b:Int):hi t b*g t b=b:=Int.ediv_mul_cancel (ia ..)
theorem Gk (h:0 < b):0 < hi t b:=by
 have h1:=CO (t:=t) (b:=b) ();have h2:=zK t b;by_cases h3:0 < hi t b
 ·show h3
 ·have:hi t b*g t b<=0:=Int.mul_nonpos_of_nonpos_of_nonneg () ()
  lia
theorem CG (h:b≠0):ZN (lo t b) (hi t b)=1:=by
 have h1:=CO (t:=t) h;have e:=Int.gcd_mul_right (lo t b) (g t b) (hi t b);rw[CI,zK] at e;have e2:(g t b).17=ZN t b:=by unfold g;simp
 rw[e2] at e;have h2:0 < ZN t b:=Rm _ h;show Nat.eq_of_mul_eq_mul_right h2 (by rw[<- e,yN])
theorem CH (t b:Int):lo t b*b=t*hi t b:=by
 have h1:=CI t b;have h2:=zK t b
 calc lo t b*b=lo t b*(hi t b*g t b):=by rw[h2]
  _=(lo t b*g t b)*hi t b:=by rw[iw (hi t b),<- d6]
  _=t*hi t b:=by rw[h1]
theorem tX (h:ZN a b=1) (hd:a∣b*c):a∣c:=by
 have h1:a.17∣b.17*c.17:=by rw[<- fv];show fP.mpr hd
 have h2:Nat.Coprime a.17 b.17:=h;show fP.mp (h2.dvd_of_dvd_mul_left h1)
theorem uniq (hb:0 < b) (hd:0 < d) (h1:ZN a b=1) (h2:ZN c d=1) (e:a*d=c*b):a=c/\b=d:=by
 have e1:b∣d:=by
  have:b∣a*d:=#[c,by rw[e,iw]];show tX (by rw[nP];show h1) this
 have e2:d∣b:=by
  have:d∣c*b:=#[a,by rw[<- e,iw]];show tX (by rw[nP];show h2) this
 have e3:b=d:=Int.dvd_antisymm () () e1 e2;subst e3;show #[wW () e,rfl]
theorem VP (hb:0 < b) (hd:0 < d) (h2:ZN c d=1) (e:t*d=c*b):lo t b=c/\hi t b=d:=by
 refine uniq (Gk hb) hd (CG ()) h2 ?_;have h:=CH t b;have hb':b≠0:=()
 apply wW hb'
 calc lo t b*d*b=lo t b*b*d:=by rw[d6,iw d b,<- d6]
  _=t*hi t b*d:=by rw[h]
  _=t*d*hi t b:=by rw[d6,iw (hi t b),<- d6]
  _=c*b*hi t b:=by rw[e]
  _=c*hi t b*b:=by rw[d6,iw b,<- d6]
theorem VQ (hb:0 < b) (h:ZN a b=1):lo a b=a/\hi a b=b:=VP hb hb h rfl
theorem rn {a b:Int} (h:b≠0):a.17<=(a*b).17:=by
 rw[fv];show eG _ (Int.natAbs_pos.mpr h)
theorem lo_le (h:b≠0):(lo t b).17<=t.17:=by
 have:=rn (a:=lo t b) (b:=g t b) (by have:=CO (t:=t) h;lia);rwa [CI] at this
theorem Uz (h:b≠0):(hi t b).17<=b.17:=by
 have:=rn (a:=hi t b) (b:=g t b) (by have:=CO (t:=t) h;lia);rwa [zK] at this
def Sz (k:Nat) (x:Int):Prop:=x.17 < 2^k
theorem Sz.mono (h:Sz j x) (l:j<=k):Sz k x:=bF h (ak () l)
theorem Sz.mul (h1:Sz j x) (h2:Sz k y):Sz (j+k) (x*y):=by
 unfold Sz at *
 rw[fv,bg];show Nat.mul_lt_mul'' h1 h2
theorem Sz.neg (h:Sz k x):Sz k (-x):=by unfold Sz at *;rw[mS];show h
theorem Sz.le (h:Sz k y) (l:x.17<=y.17):Sz k x:=aP l h
theorem Sz.hi {k:Nat} {t b:Int} (h:Sz k b) (hb:b≠0):Sz k (hi t b):=h.le (Uz hb)
end Nm
namespace L2
open PySem PySem.Spec PyProof.Rows
structure Bk (env:Env) (scope:Scope) (own _q:List Str):Prop where
 kind:scope.44=.function
 locs:∀y∈scope.33,y.2=.local->scope.names.13 y.1=some .local
 ownk:∀x∈own,scope.names.13 x=some .local\/scope.names.13 x=some .cell
 cells:∀y∈scope.33,y.2=.cell->y.1∈own/\y.1∉_q
 frees:∀y∈scope.33,y.2=.free->y.1∈_q/\y.1∉own
 afV:∀x∈_q,scope.names.13 x=some .free
 adT:∀x∈_q,env.48 x=some .cell\/env.48 x=some .free
def Yy (scope:Scope) (own _q:List Str):Bool :=
 decide (scope.44=.function) && scope.names.all (λy=>decide (y.2=.local->scope.names.13 y.1=some .local) && decide (y.2=.cell->y.1∈own/\y.1∉_q) && decide (y.2=.free->y.1∈_q/\y.1∉own)) &&
 own.all (λx=>decide (scope.names.13 x=some .local\/scope.names.13 x=some .cell)) && _q.all λx=>decide (scope.names.13 x=some .free)
def EZ (env:Env):List Str->Bool
 | []=>true
 | x :: r=>(match env.48 x with | some .cell=>true | some .free=>true | _=>false) && EZ env r
theorem JS {env:Env}:∀{_q:List Str},EZ env _q=true->∀x∈_q,env.48 x=some .cell\/env.48 x=some .free
 | [],_,_,h=>nomatch h
 | y :: r,h,x,hx=>by
  unfold EZ at h;rw[dP] at h;rcases ax.mp hx with e | hx
  ·subst e;have h1:=h.1
   split at h1
   ·rename_i e;show .inl e
   ·rename_i e;show .inr e
   ·cases h1
  ·show JS h.2 x hx
theorem Bk.of (h1:Yy scope own _q=true) (h2:EZ env _q=true):Bk env scope own _q:=by
 unfold Yy at h1;rw[dP,dP,dP,sv,sv,sv] at h1;obtain ⟨⟨a1,a2⟩,a3⟩|a4:=h1
 have a2':∀y∈scope.33,(y.2=.local->scope.names.13 y.1=some .local)/\(y.2=.cell->y.1∈own/\y.1∉_q)/\(y.2=.free->y.1∈_q/\y.1∉own):=λy hy=>by
  have q:=a2 y hy;rw[dP,dP] at q;show #[of_decide_eq_true q.1.1,of_decide_eq_true q.1.2,of_decide_eq_true q.2]
 show #[of_decide_eq_true a1,λy hy=>(a2' y hy).1,λx hx=>of_decide_eq_true (a3 x hx),λy hy=>(a2' y hy).2.1,λy hy=>(a2' y hy).2.2,λx hx=>of_decide_eq_true (a4 x hx),JS h2]
def eX (env:Env):List (Str×ZM)->List (Str×Addr)->List (Str×Addr)
 | [],acc=>acc
 | (n,k) :: r,acc=>if k == .free then eX env r ((n,(env.cells.13 n).4 0) :: acc) else eX env r acc
theorem jV (env:Env):∀(names:List (Str×ZM)) (acc:List (Str×Addr)),eX env names acc=eX env names []++acc
 | [],_=>rfl
 | (n,k) :: r,acc=>by
  unfold eX
  split
  ·rw[jV env r (_ :: acc),jV env r [_],cv];rfl
  ·show jV env r acc
theorem t8 (env:Env):∀(names:List (Str×ZM)) {x:Str} {c:Addr},(x,c)∈eX env names []->(x,ZI)∈names/\c=(env.cells.13 x).4 0
 | [],_,_,h=>nomatch h
 | (n,k) :: r,x,c,h=>by
  unfold eX at h
  split at h
  ·rename_i hk
   have ek:k=.free:=by simpa using hk
   subst ek;rw[jV] at h;rcases aB.mp h with h | h
   ·have q:=t8 env r h;show #[bP _ q.1,q.2]
   ·have e:(x,c)=(n,(env.cells.13 n).4 0):=by simpa using h
    cases e;show #[cT,rfl]
  ·have q:=t8 env r h;show #[bP _ q.1,q.2]
theorem kN {α:Type}:∀{l:List (Str×α)} {x:Str} {c:α},(x,c)∈l->∃d,l.13 x=some d
 | (k,v) :: r,x,c,h=>by
  rw[nO];cases hb:x == k with
  | true=>show #[v,rfl]
  | false =>
   rcases ax.mp h with e | h
   ·cases e;simp at hb
   ·show kN h
theorem uc (env:Env):∀(names:List (Str×ZM)) {x:Str},(x,ZI)∈names->∃c,(x,c)∈eX env names []
 | (n,k) :: r,x,h=>by
  unfold eX;rcases ax.mp h with e | h
  ·cases e;rw[if_pos (),jV];show #[_,bV _ cT]
  ·obtain c|q:=uc env r h
   split
   ·rw[jV];show #[c,mQ _ q]
   ·show #[c,q]
theorem CZ (h:∀y∈scope.33,y.2=.free->∃c,env.cells.13 y.1=some c):closureFor scope env=pure (eX env scope.33 []):=by
 have gen:∀(names:List (Str×ZM)) (acc:List (Str×Addr)) (f:Str×ZM->List (Str×Addr)->Sem (ForInStep (List (Str×Addr)))),
   (∀name kind cells,f (name,kind) cells=if kind == .free then (do let a <- cellOf env name;pure (.yield ((name,a) :: cells))) else pure (.yield cells)) →
   (∀y∈names,y.2=.free->∃c,env.cells.13 y.1=some c)->forIn names acc f=pure (eX env names acc):=by
  intro names
  induction names with
  | nil=>intro acc f hf _;rw[qN];rfl
  | cons y r ih =>
   intro acc f hf hh;obtain n|k:=y;rw[uI,hf];unfold eX;by_cases hk:(k == ZI)=true
   ·obtain c|hc:=hh (n,k) cT (by simpa using hk);have hc':env.cells.13 n=some c:=hc;have e:cellOf env n=pure c:=by unfold cellOf;rw[hc']
    rw[if_pos hk,if_pos hk,e,hc'];simp only[pure_bind,jZ];show ih _ f hf λy hy=>hh y (bP _ hy)
   ·rw[if_neg hk,if_neg hk];simp only[pure_bind];show ih _ f hf λy hy=>hh y (bP _ hy)
 simp only[closureFor];rw[gen scope.33 [] _ (λname kind cells=>by cases hkc:kind == ZI <;> simp [hkc]) h];rfl
theorem ig:∀(names:List (Str×ZM)) (n:Nat) (acc:List (Str×Addr)),ZJ n names acc=ZJ n names []++acc
 | [],_,_=>rfl
 | (x,k) :: r,n,acc=>by
  unfold ZJ
  split
  ·rw[ig r (n+1) (_ :: acc),ig r (n+1) [_],cv];rfl
  ·show ig r n acc
theorem nM:∀(names:List (Str×ZM)) (n:Nat) {x:Str} {c:Addr},(x,c)∈ZJ n names []->(x,ZM.cell)∈names
 | [],_,_,_,h=>nomatch h
 | (y,k) :: r,n,x,c,h=>by
  unfold ZJ at h
  split at h
  ·rename_i hk
   have ek:k=.cell:=by simpa using hk
   subst ek;rw[ig] at h;rcases aB.mp h with h | h
   ·show bP _ (nM r _ h)
   ·have e:(x,c)=(y,n):=by simpa using h
    cases e;show cT
  ·show bP _ (nM r _ h)
def zO (env:Env) (scope:Scope) (C:Addr):Env :=
 { scope:=relabel scope env,locals:=C,globals:=env.globals,cells:=ZJ (C+1) scope.33 (eX env scope.33 []),qual:=env.qual,func:=none,code:=env.code,frame:=env.frame,builtins:=env.builtins }
theorem Ji 
  (h:Q (newEnv scope s.heap.objs.28 g (ZJ (s.6+1) scope.33 cl) qual none .none (some env) builtinsNs) { s with heap:=pushCells (s.heap.25 { cls:=.type "dict",data:=.dict [].14 }) scope.33 }) :
  Zd M A (newFunctionEnv scope g cl [] qual none .none (some env)) Q E s:=by
 simp only[newFunctionEnv,Option.isSome_some,if_true];refine K0 (wpAny_alloc ?_);refine K0 (wpAny_layCells _ (λname kind cells=>by cases hkc:kind == ZM.cell <;> simp [hkc]) _ _ _ _ ?_);rw[show ({ s with heap:=s.heap.25 { cls:=.type "dict",data:=.dict [].14 } }:Y5).6=s.6+1 from Zy ..];rw[qN];show K0 (Y6 (Y6 h))
theorem xY:∀{k:ZM},(relabel scope env).names.lookup x=some k->∃k0,scope.names.13 x=some k0/\(k=k0\/(k0=.free/\k=.cell)):=by
 unfold relabel;change ∀{k:ZM},(scope.names.12 λ(n,k)=>if (k == ZI && env.scope.44 == .function && env.48 n == some .cell) then (n,ZM.cell) else (n,k)).13 x=some k->_
 induction scope.33 with
 | nil=>intro k h;cases h
 | cons y r ih =>
  intro k h;obtain n|k1:=y;rw[jD,nO] at h;rw[nO];by_cases hc:(k1 == ZI && env.scope.44 == .function && env.48 n == some .cell)=true
  ·simp only[hc,if_true] at h;cases hb:x == n with
   | true =>
    simp only[hb] at h
    have e1:k1=.free:=by
     rw[dP,dP] at hc;simpa using hc.1.1
    cases h;show #[k1,rfl,.inr #[e1,rfl]]
   | false=>simp only[hb] at h;show ih h
  ·have hc':(k1 == ZI && env.scope.44 == .function && env.48 n == some .cell)=false:=by simpa using hc
   simp only[hc',kI,if_false] at h;cases hb:x == n with
   | true=>simp only[hb] at h;cases h;show #[_,rfl,.inl rfl]
   | false=>simp only[hb] at h;show ih h
theorem IQ:scope.names.13 x=some .free->(relabel scope env).names.lookup x=some .cell\/(relabel scope env).names.lookup x=some .free:=by
 unfold relabel;change _->(scope.names.12 λ(n,k)=>if (k == ZI && env.scope.44 == .function && env.48 n == some .cell) then (n,ZM.cell) else (n,k)).13 x=some .cell\/(scope.names.12 λ(n,k)=>if (k == ZI && env.scope.44 == .function && env.48 n == some .cell) then (n,ZM.cell) else (n,k)).13 x=some .free
 induction scope.33 with
 | nil=>intro h;cases h
 | cons y r ih =>
  intro h;obtain n|k1:=y;rw[nO] at h;rw[jD];by_cases hc:(k1 == ZI && env.scope.44 == .function && env.48 n == some .cell)=true
  ·simp only[hc,if_true,nO];cases hb:x == n with
   | true=>show .inl rfl
   | false=>rw[hb] at h;show ih h
  ·have hc':(k1 == ZI && env.scope.44 == .function && env.48 n == some .cell)=false:=by simpa using hc
   simp only[hc',kI,if_false,nO];cases hb:x == n with
   | true=>rw[hb] at h;cases h;show .inr rfl
   | false=>rw[hb] at h;show ih h
structure Bz where
 s:Y5
 H:Hp
 fp:List Addr
 C:Addr
def AD (X:Cx) (own _q:List Str) (scope:Scope) (Z:Bz):Cx where
 prog:=X.23
 w:=X.w
 K:=X.K
 mg:=X.mg
 base:=X.41
 A:=X.A
 N:=own++_q
 s₀:=Z.s
 H₀:=Z.H
 env:=zO X.16 scope Z.C
 outer:=X.43
 stack:=X.43
 ex:=Z.fp
 fn:=λx=>own.contains x
 calm:=true
 pn:=[]
 xe:=λ_ _=>False
section
variable {X:Cx} {_a:List (Addr×Obj)} {σ:St} {own _q:List Str} {scope:Scope} {Z:Bz}
theorem kW (B:Bk X.16 scope own _q) (I:Inv X _a σ Z.H Z.s) (h:(zO X.16 scope Z.C).cells.lookup x=some c) :
  (x∈own/\(x,c)∈ZJ (Z.C+1) scope.33 [])\/(x∈_q/\x∉own/\X.env.cells.13 x=some c):=by
 have h':(ZJ (Z.C+1) scope.33 (eX X.16 scope.33 [])).13 x=some c:=h;rw[ig] at h';rcases aB.mp (mem_of_lookup h') with m | m
 ·show .inl #[(B.cells _ (nM _ _ m) rfl).1,m]
 ·obtain m1|e:=t8 _ _ m;obtain q1|q2:=B.frees _ m1 rfl;obtain d|hd:=I.ok.has x (B.adT x q1);rw[hd] at e;show .inr #[q1,q2,by rw[hd,e];rfl]
theorem TH (B:Bk X.16 scope own _q) (I:Inv X _a σ Z.H Z.s) (hx:x∈_q) (h:X.env.cells.13 x=some c):(zO X.16 scope Z.C).cells.lookup x=some c:=by
 have hm:(x,ZI)∈scope.33:=mem_of_lookup (B.afV x hx);obtain c1|m1:=uc X.16 scope.33 hm
 have hs:∃d,(zO X.16 scope Z.C).cells.lookup x=some d:=by
  change ∃d,(ZJ (Z.C+1) scope.33 (eX X.16 scope.33 [])).13 x=some d
  rw[ig];show kN (bV _ m1)
 obtain d|hd:=hs;rcases kW B I hd with ⟨q,m⟩ | ⟨_,_,q⟩
 ·show absurd hx (B.cells _ (nM _ _ m) rfl).2
 ·rw[h] at q;cases q;show hd
theorem NK (h:Heap) (C:Addr) (hC:h.objs.7=C+1) (names:List (Str×ZM)):CellsOk (pushCells h names) (C+1) (ZJ (C+1) names []):=by
 have q:=cellsFrom_ok names h (C+1) [] #[λ_ _ hm=>(nomatch hm),List.Pairwise.nil] (by rw[hC];show ah _);rwa [hC] at q
theorem GZ (I:Inv X _a σ Z.H Z.s) (h:X.env.cells.13 x=some c):@LT.lt Nat instLTNat c Z.s.6:=by
 obtain v|q:=I.cell x c h;show q.lt
theorem Wr (I:Inv X _a σ Z.H Z.s) (hc:X.calm=true) (B:Bk X.16 scope own _q) (hC:Z.s.6<=Z.C) (Y!:CellsOk h1 (Z.C+1) (ZJ (Z.C+1) scope.33 []))
  (hf:∀b∈Z.fp,mD X _a Z.H b/\@LT.lt Nat instLTNat b Z.s.6):(AD X own _q scope Z).Ok:=by
 refine #[I.ok.mod,B.44,I.ok.glob,I.ok.blt,hC,λx y c h1 h2=>?_,λx hx=>?_,λx c hx h=>?_,λ_=>I.ok.hd hc,I.ok.49,.inl rfl,λb hb=>#[?_,λx c h=>?_],I.bs,ag I.ok.bsz I.sz,λb o e hb=>?_,λb hb hz=>?_,I.43,I.B!]
 ·rcases kW B I h1 with ⟨q1,m1⟩ | ⟨q1,n1,m1⟩ <;> rcases kW B I h2 with ⟨q2,m2⟩ | ⟨q2,n2,m2⟩
  ·show name_of_addr Y!.apart m1 m2
  ·have l1:=(Y!.empty _ _ m1).2;have l2:=GZ I m2
   lia
  ·have l1:=(Y!.empty _ _ m2).2;have l2:=GZ I m1
   lia
  ·show I.ok.inj x y c m1 m2
 ·have _v:(relabel scope X.16).names.lookup x=some .cell\/(relabel scope X.16).names.lookup x=some .free:=hx
  have hk:scope.names.13 x=some .cell\/scope.names.13 x=some .free:=by
   rcases _v with h | h
   ·obtain ⟨k0,e,q | ⟨q,_⟩⟩:=xY h
    ·show .inl (by rw[e,<- q])
    ·show .inr (by rw[e,q])
   ·obtain ⟨k0,e,q | ⟨_,q⟩⟩:=xY h
    ·show .inr (by rw[e,<- q])
    ·cases q
  change ∃c,(ZJ (Z.C+1) scope.33 (eX X.16 scope.33 [])).13 x=some c
  rcases hk with h | h
  ·show WS.mp (A5 scope.33 (Z.C+1) _ (.inl h))
  ·obtain c|m:=uc X.16 scope.33 (mem_of_lookup h);rw[ig];show kN (bV _ m)
 ·have ho:x∈own:=by have _v:own.contains x=true:=hx;simpa using _v
  rcases kW B I h with ⟨_,m⟩ | ⟨_,n,_⟩
  ·have:=(Y!.empty _ _ m).2;have hC':Z.s.6<=Z.C:=hC;change Z.s.6<=c
   lia
  ·show absurd ho n
 ·intro e;have e':@Eq Nat b Z.C:=e;have:=(hf b hb).2
  lia
 ·have l:=(hf b hb).2;rcases kW B I h with ⟨_,m⟩ | ⟨_,_,m⟩
  ·intro e;have e':@Eq Nat c b:=e;have:=(Y!.empty _ _ m).2
   lia
  ·show (hf b hb).1.2.2.2.2.1 x c m
 ·obtain _|_|_|f3|_:=(hf b hb).1;rcases f3 with f3 | f3
  ·show I.ok.aaG b o e f3
  ·show absurd (bF (Y7 e) (ag I.ok.bsz f3)) (dZ _)
 ·obtain _|f1|f2|_:=(hf b hb).1;rcases ax.mp (I.aaR b hz) with e | e
  ·show f1 e
  ·show f2 e
def KH (k:Nat) (G!:List Nat) (σ:St):St:=Wb k none++G!.12 λj=>(σ[j]?).join
def Ai (X:Cx) (_q:List Str) (G!:List Nat):Prop:=G!.12 (λj=>X.N[j]?)=_q.12 some
theorem Ai.get (h:Ai X _q G!) {i:Nat} (e:_q[i]?=some x):∃j,G![i]?=some j/\X.N[j]?=some x:=by
 have q:=congrArg (λl=>l[i]?) h;simp only[az,e,Option.map_some] at q;cases hc:G![i]? with
 | none=>rw[hc] at q;cases q
 | some j=>rw[hc] at q;show #[j,rfl,by simpa using q]
theorem JT (I:Inv X _a σ Z.H Z.s) (B:Bk X.16 scope own _q) (l!:Ai X _q G!)
  (kc:∀x c,X.env.cells.13 x=some c->∀v,Z.s.heap.IsCell c v->h'.IsCell c v) {i:Nat} (e1:(own++_q)[i]?=some x) (e2:(KH own.9 G! σ)[i]?=some (some v)) :
  ∃u,RelV v u/\Look (zO X.16 scope Z.C) h' m x u:=by
 have hi:own.9<=i:=by
  by_cases hi:own.9<=i
  ·show hi
  ·exfalso
   unfold KH at e2;rw[bR (by simpa using hi),Ak] at e2
   split at e2 <;> cases e2
 rw[bG hi] at e1;unfold KH at e2;rw[bG (by simpa using hi),bK,az] at e2;obtain j|hj|hN:=l!.get e1;rw[hj] at e2;have e3:(σ[j]?).join=some v:=by simpa using e2
 have e4:σ[j]?=some (some v):=by
  cases q:σ[j]? with
  | none=>rw[q] at e3;cases e3
  | some o=>rw[q] at e3;simp at e3;rw[e3]
 have hx:x∈_q:=ai e1;have hk:=B.adT x hx;obtain m0|_|hl:=I.loc;obtain u|r|l:=hl j x v hN e4 (.inr hk);refine #[u,r,.inr #[IQ (B.afV x hx),?_]];rcases l with ⟨hk2,_⟩ | ⟨_,c,hc,z⟩
 ·rcases hk with hk | hk
  ·rw[hk] at hk2;cases hk2
  ·rw[hk] at hk2;cases hk2
 ·show #[c,TH B I hx hc,kc x c hc _ z]
theorem X8 (I:Inv X _a σ Z.H Z.s) (h:b∈yx X.43):@LT.lt Nat instLTNat b Z.s.6:=by
 obtain _|o|ho|_:=I.stack.mem h;show Y7 ho
theorem TC {D:Addr} (I:Inv X _a σ Z.H Z.s) (hc:X.calm=true) (B:Bk X.16 scope own _q) (l!:Ai X _q G!) (hC:Z.s.6<=Z.C)
  (Y!:CellsOk h1 (Z.C+1) (ZJ (Z.C+1) scope.33 [])) (hf:∀b∈Z.fp,mD X _a Z.H b/\@LT.lt Nat instLTNat b Z.s.6)
  (hk:∀b o,Z.s.heap.11 b=some o->h1.11 b=some o) (hn:h1.Ns Z.C λ_=>none) (hD:Z.s.6<=D) (hDC:D≠Z.C) (hoD:h1.11 D=some oD) (hdD:∀v,oD.data≠.cell v) :
  Inv (AD X own _q scope Z) [(D,oD)] (KH own.9 G! σ) Z.H { Z.s with heap:=h1,toks:=t1 }:=by
 refine #[Wr I hc B hC Y! hf,rfl,I.50,Un.kept hk,#[_,hn,λi x v e1 e2 _=>JT I B l! (λx c _ v z=>z.keeps hk) e1 e2],λx c h=>?_,I._u.36 hC,λx c h=>?_,λp hp=>?_,I._u.59 hk,?_]
 ·rcases kW B I h with ⟨_,m⟩ | ⟨_,_,m⟩
  ·show #[none,(Y!.empty _ _ m).1]
  ·obtain v|q:=I.cell x c m;show #[v,q.keeps hk]
 ·rcases kW B I h with ⟨_,m⟩ | ⟨_,_,m⟩
  ·show I._u.36 (by have:=(Y!.empty _ _ m).2;lia)
  ·show I._K x c m
 ·have e:p=(D,oD):=by simpa [AD] using hp
  subst e;show #[hoD,I._u.36 hD,hDC,λz=>dZ _ (bF (X8 I z) hD),hdD]
 ·change (KH own.9 G! σ).9=(own++_q).9
  have:=congrArg Z7 l!;simp only[af] at this;unfold KH;simp [this]
theorem QY {σ':St} (I:Inv X _a σ Z.H Z.s) (B:Bk X.16 scope own _q) (l!:Ai X _q G!) (hf:∀b∈Z.fp,mD X _a Z.H b/\@LT.lt Nat instLTNat b Z.s.6)
  (J:Inv (AD X own _q scope Z) pins' σ' H' s'):Inv (AD X own _q scope Z) pins' (KH own.9 G! σ) H' s':=by
 refine #[J.ok,J.os,J.50,J.41,?_,J.cell,J.47,J._K,J.pin,J._u,?_]
 ·obtain m|hn|_:=J.loc;refine #[m,hn,λi x v e1 e2 _=>JT I B l! (λx c hx v z=>?_) e1 e2];obtain o|ho|hd:=z;obtain sl|e:=J.base.any ho (I._K x c hx) λz=>(hf c z).1.2.2.2.2.1 x c hx rfl
  show #[_,e,hd]
 ·change (KH own.9 G! σ).9=(own++_q).9
  have:=congrArg Z7 l!;simp only[af] at this;unfold KH;simp [this]
theorem TF {σ':St} {D:Addr} (I:Inv X _a σ Z.H Z.s) (hf:∀b∈Z.fp,mD X _a Z.H b/\@LT.lt Nat instLTNat b Z.s.6) (hD:Z.s.6<=D)
  (J:Inv (AD X own _q scope Z) [(D,{ cls:=.type "list",data:=.seq _n.14 n })] σ' H' s') (r:cU ys _n) (hz:ys.9<=Zh) :
  Inv X _a σ (upd H' D (.lst ys)) s':=by
 have pD:=J.pin (D,{ cls:=.type "list",data:=.seq _n.14 n }) (by simp);have ne:∀{b:Addr} {o:Obj},Z.s.heap.11 b=some o->b≠D:=λe z=>by subst z;show dZ _ (bF (Y7 e) hD)
 have nt:∀{b:Addr} {u:HO},H' b=some u->b≠D:=λe z=>by rw[z,pD.2.1] at e;cases e
 refine I.afW (ch:=Z.fp) J.os #[J.base.keep,J.base.slot,λb o e h hx=>?_,J.base.56,λb xs e=>?_,λb o u e=>?_,λb ps e=>?_] (λb u e=>?_) J.50 λb hb=>?_
 ·rw[aR (ne e)];show J.base.47 b o e h hx
 ·have q:=J.base.z! b xs e;rw[aR (nt q)];show q
 ·have q:=J.base.x! b o u e;rw[aR (nt q)];show q
 ·obtain more|q:=J.base.A! b ps e;show #[more,by rw[aR (nt q)];show q]
 ·by_cases hb:b=D
  ·subst hb;rw[aD] at e;cases e;show #[hz,_n,n,r,pD.1]
  ·rw[aR hb] at e;show (J._u b u e).r! (λc v _ q=>q) (λc q=>by rw[aR (nt q)];show q) λc xs q=>by rw[aR (nt q)];show q
 ·obtain _|f1|_|f3|f4|f5:=(hf b hb).1;show #[f3,f1,f4,f5]
end
theorem UY {t:Sem α} {Q Q':α->Y5->Prop} (h:Zd M A t Q (λ_ _=>False) s) (hQ:∀a s,Q a s->Q' a s):Zd M A t Q' E s :=
 ZD h hQ λ_ _ z=>Zr z
theorem GY (I:Nat->Y5->Prop)
  (turn:∀(E:Value->Y5->Prop) n s,I n s->Zd (model prog w) A (pyNext it) (λr s₁=>match r with
   | none=>R (.ok .next) s₁
   | some v=>Zd (model prog w) A (letOwnedTupleGo target it v) (λ_ s₂=>Zd (model prog w) A (assign target env v) (λ_ s₃ =>
     Zd (model prog w) A (forIn ifs true λc r=>if r=true then do let ok <- isTrue c env (eval c env);pure (ForInStep.yield ok) else pure (ForInStep.yield r)) (λok s₄ =>
      if ok=true then Zd (model prog w) A (eval elt env) (λx s₅=>Zd (model prog w) A (call (.builtin "list.append") [acc,x]) (λ_ s₆=>∃m,m < n/\I m s₆) E s₅) E s₄
      else ∃m,m < n/\I m s₄) E s₃) E s₂) E s₁) E s)
  (n:Nat) (h:I n s):aab (model prog w) A (.compLoop (.ListComp elt [#[target,iter,ifs,0]] scope pos) 0 it acc env) R s:=by
 refine codeAny_loop rfl I (λn s hI=>?_) n h;change Zd _ A ((compTurn (.ListComp elt [#[target,iter,ifs,0]] scope pos) 0 it acc env).onRaise (λx=>do noteFrame x env;theTreesLotGoes x)) _ _ s
 refine wpAny_noted ?_;rw[compTurn_list];refine K0 (aai (K0 (ZD (turn _ n s hI) (λr s₁ h₁=>?_) λ_ _ h'=>h')));cases r with
 | none=>show Y6 h₁
 | some v =>
  refine K0 (ZD h₁ (λ_ s₂ h₂=>K0 (ZD h₂ (λ_ s₃ h₃=>K0 (ZD h₃ (λok s₄ h₄=>?_) λ_ _ h'=>h')) λ_ _ h'=>h')) λ_ _ h'=>h');cases ok with
  | false=>show Y6 #[rfl,h₄]
  | true =>
   show K0 (K0 (ZD h₄ (λx s₅ h₅=>K0 (ZD h₅ (λ_ s₆ h₆=>Y6 (Y6 #[rfl,h₆])) λ_ _ h'=>h')) λ_ _ h'=>h'))
def PF (X:Cx) (ifs:List Expr) (t:TT):Prop :=
 ∀(_a:List (Addr×Obj)) (s:Y5) (σ:St) (H:Hp) (Q:Bool->Hp->Prop),Inv X _a σ H s->t σ H Q →
  Zd (model X.23 X.w) X.A (forIn ifs true λc r=>if r=true then do let ok <- isTrue c X.16 (eval c X.16);pure (ForInStep.yield ok) else pure (ForInStep.yield r)) (TP X _a σ Q) X.xe s
def WW:TT:=λ_ H Q=>Q true H
theorem cp:PF X [] WW:=λ_ _ _ H _ I h=>wpAny_tests_nil #[H,I,h]
theorem FR (h:PT X c t):PF X [c] t:=λ_a s σ H Q I hw=>wpAny_tests_one (h _a s σ H Q I hw)
def uN (σ₀:St) (g:TG) (tf:TT) (te:TE) (x:V) (H:Hp) (NY:V->Hp->Prop) (NN:Hp->Prop):Prop :=
 g x σ₀ H λσ2 H2=>tf σ2 H2 λb H3=>if b=true then te σ2 H3 NY else NN H3
def vQ (J:It) (σ₀:St) (g:TG) (tf:TT) (te:TE) (Q:VK) (H1:Hp):Prop :=
 ∃W:Nat->Nat->List V->Hp->Prop,(∃m,W 0 m [] H1)/\∀i m ys H,W i m ys H →
  (J.stop i H/\ys.9<=Zh/\∀p,H p=none->Q (.ref p) (upd H p (.lst ys))) \/
  (J.go i H/\ys.9 < Zh/\∃(NY:V->Hp->Prop) (NN:Hp->Prop),(∀y H',NY y H'->∃m',m' < m/\W (i+1) m' (ys++[y]) H')/\(∀H',NN H'->∃m',m' < m/\W (i+1) m' ys H') /\
   ∀x H',J.yld i H x H'->uN σ₀ g tf te x H' NY NN)
def Ii (wi:TI) (k:Nat) (G!:List Nat) (g:TG) (tf:TT) (te:TE):TE:=λσ H Q=>wi σ H λJ H1=>vQ J (KH k G! σ) g tf te Q H1
abbrev lobj (_n:List Value) (n:Nat):Obj:={ cls:=.type "list",data:=.seq _n.14 n }
section
variable {X:Cx} {own _q:List Str} {G!:List Nat} {scope:Scope} {elt tg iter:Expr} {ifs:List Expr} {pos:Pos} {wi:TI} {g:TG} {tf:TT} {te:TE}
theorem EW (hc:X.calm=true) (B:Bk X.16 scope own _q) (l!:Ai X _q G!)
  (hi:PI X tg iter wi) (hg:∀Z,PG (AD X own _q scope Z) tg g) (hf:∀Z,PF (AD X own _q scope Z) ifs tf) (he:∀Z,PE (AD X own _q scope Z) elt te)
  (hs:∀x,foldedSetIterable iter X.16 x=pure x) {σ:St} (I:Inv X _a σ H s) (h:Ii wi own.9 G! g tf te σ H Q)
  (fin:∀(D C:Addr) (s':Y5) (H':Hp),Inv X _a σ H' s'->mD X _a H' C->(∃m,s'.heap.Ns C m)->Q (.ref D) H'->compPost (model X.23 X.w) X.A X.xe use Qe (.ref D) C (.ok .next) s') :
  Zd (model X.23 X.w) X.A (comprehension (.ListComp elt [#[tg,iter,ifs,0]] scope pos) scope X.16 fpos (newList []) false (eval iter X.16) use) Qe X.xe s:=by
 refine wpAny_comprehension_free (use:=use) rfl hs (CZ λy hy hk=>I.ok.has y.1 (B.adT _ (B.frees y hy hk).1)) B.44 B.locs ?_;refine ik (hi _a s σ H _ I h) λv s1 h1=>ik h1 λitv s2 h2=>?_
 obtain it|fp|tn|J|H2|e|I2|T|st2|f2|W|⟨m0,w0⟩|turn:=h2;subst e;have hfp:∀b∈fp,mD X _a H2 b/\@LT.lt Nat instLTNat b s2.6:=λb hb=>#[f2 b hb,let ⟨_,e,_⟩:=T.obj _ _ st2 b hb;Y7 e]
 refine wpAny_newObj_type (Ji ?_) (aW _);have es:(s2.heap.25 { cls:=.type "list",data:=.seq ([]:List Value).5 }).objs.size=s2.6+1:=Zy ..
 change aab _ _ (.compStart _ 0 (.ref it) (.ref s2.6) { newEnv scope (s2.heap.25 { cls:=.type "list",data:=.seq ([]:List Value).5 }).objs.size X.env.globals (ZJ ((s2.heap.25 { cls:=.type "list",data:=.seq ([]:List Value).5 }).objs.size+1) scope.33 (eX X.16 scope.33 [])) X.env.qual none .none (some X.16) builtinsNs with scope:=relabel scope X.16 })
  (compPost (model X.23 X.w) X.A X.xe use Qe (.ref s2.6) (s2.heap.25 { cls:=.type "list",data:=.seq ([]:List Value).5 }).objs.size)
  { s2 with heap:=pushCells ((s2.heap.25 { cls:=.type "list",data:=.seq ([]:List Value).5 }).25 { cls:=.type "dict",data:=.dict [].14 }) scope.33 }
 have hk1:∀b o,(s2.heap.25 { cls:=.type "list",data:=.seq ([]:List Value).5 }).11 b=some o->(pushCells ((s2.heap.25 { cls:=.type "list",data:=.seq ([]:List Value).5 }).25 { cls:=.type "dict",data:=.dict [].14 }) scope.33).11 b=some o :=
  λb o e=>pushCells_keeps _ _ _ _ (Y4 _ e)
 have hk:∀b o,s2.heap.11 b=some o->(pushCells ((s2.heap.25 { cls:=.type "list",data:=.seq ([]:List Value).5 }).25 { cls:=.type "dict",data:=.dict [].14 }) scope.33).11 b=some o:=λb o e=>hk1 b o (Y4 _ e)
 have hoD:=hk1 s2.heap.objs.28 _ (Zc s2.22 (o:={ cls:=.type "list",data:=.seq ([]:List Value).5 }) rfl);have hn:=(Heap.Ns.new (s2.heap.25 { cls:=.type "list",data:=.seq ([]:List Value).5 }) (.type "dict")).keeps (pushCells_keeps scope.33 _);have Y!:=NK ((s2.heap.25 { cls:=.type "list",data:=.seq ([]:List Value).5 }).25 { cls:=.type "dict",data:=.dict [].14 }) (s2.6+1) (by rw[Zy,es]) scope.33;rw[es] at hn ⊢;generalize pushCells ((s2.heap.25 { cls:=.type "list",data:=.seq ([]:List Value).5 }).25 { cls:=.type "dict",data:=.dict [].14 }) scope.33=h3 at hk hoD hn Y! ⊢;have Z:Bz:=#[s2,H2,fp,s2.6+1]
 have I3:Inv (AD X own _q scope #[s2,H2,fp,s2.6+1]) [(s2.6,lobj [] 0)] (KH own.9 G! σ) H2 { s2 with heap:=h3 } :=
  TC (Z:=#[s2,H2,fp,s2.6+1]) (t1:=s2.27) I2 hc B l! (yO _) Y! hfp hk hn (ah _) (bM (fR _)) hoD (λv z=>nomatch z)
 have st3:tn 0 h3:=T.keep _ _ _ st2 λb _ o e=>hk b o e
 have loop:aab (model X.23 X.w) X.A (.compLoop (.ListComp elt [#[tg,iter,ifs,0]] scope pos) 0 (.ref it) (.ref s2.6) (zO X.16 scope (s2.6+1))) (compPost (model X.23 X.w) X.A X.xe use Qe (.ref s2.6) (s2.6+1)) { s2 with heap:=h3 }:=by
  refine GY (λm s'=>∃i ys σ' H' _n n,Inv (AD X own _q scope #[s2,H2,fp,s2.6+1]) [(s2.6,lobj _n n)] σ' H' s'/\tn i s'.8/\(∀b∈fp,H' b=none)/\cU ys _n/\W i m ys H') ?_ m0
   #[0,[],_,H2,[],0,I3,st3,λb hb=>(f2 b hb).1,.nil,w0]
  rintro E n s4 ⟨i,ys,σ4,H4,_n,k,I4,st4,fr4,rv,w4⟩
  have fpo:∀{pp:List (Addr×Obj)} {H':Hp},(∀p∈pp,p.1=s2.6)->(∀b∈fp,H' b=none)->∀b∈fp,mD (AD X own _q scope #[s2,H2,fp,s2.6+1]) pp H' b:=λ{pp H'} hpp hn b hb=>by
   obtain e1|e2:=I4.ok.exf b hb;refine #[hn b hb,e1,I4.ok.aaL b hb,.inl hb,e2,λp hp=>?_];have hp':p∈pp:=by simpa [AD] using hp
   have l:=(hfp b hb).2;rw[hpp p hp'];show λz=>dZ _ (by rw[<- z] at l;show l)
  have adn:∀{_n:List Value} {n:Nat},∀p∈[(s2.6,lobj _n n)],p.1=s2.6:=λp hp=>by simp at hp;rw[hp]
  rcases turn i n ys H4 w4 with ⟨stop,hz,q⟩ | ⟨go,_J,NY,NN,hNY,hNN,step⟩
  ·refine ik (T.done (AD X own _q scope #[s2,H2,fp,s2.6+1]) rfl rfl rfl rfl i _ s4 σ4 H4 E I4 (fpo adn fr4) st4 stop) λr s5 #[hr,I5]=>?_
   subst hr;have pD:=I5.pin (s2.6,lobj _n k) (by simp);have I6:=TF (Z:=#[s2,H2,fp,s2.6+1]) I2 hfp (ah _) I5 rv hz
   have hC:upd H4 s2.heap.objs.28 (.lst ys) (s2.6+1)=none:=by
    rw[aR (qK (fR _))];show I5.47
   obtain m|hm|_:=I5.loc;show fin _ _ s5 _ I6 (I2.T! (yO _) hC) #[m,hm] (q _ pD.2.1)
  ·refine ik (T.item (AD X own _q scope #[s2,H2,fp,s2.6+1]) rfl rfl rfl rfl i _ s4 σ4 H4 E I4 (fpo adn fr4) st4 go) λr s5 #[u,hr,h5]=>?_
   subst hr;refine ik h5 λ_ s6 hz=>?_
   obtain x|H6|I6|r6|y6|st6|fr6:=hz;have I6':=(QY (Z:=#[s2,H2,fp,s2.6+1]) I2 B l! hfp I6).pinned (fpo adn fr6) (T.obj _ _ st6)
   have back:∀{σ7:St} {H7:Hp} {s7:Y5},Inv (AD X own _q scope #[s2,H2,fp,s2.6+1]) ([(s2.6,lobj _n k)]++BZ fp s6.8) σ7 H7 s7 →
     Inv (AD X own _q scope #[s2,H2,fp,s2.6+1]) [(s2.6,lobj _n k)] σ7 H7 s7/\tn (i+1) s7.8/\∀b∈fp,H7 b=none:=λ{σ7 H7 s7} I7=>by
    refine #[I7.y!,T.keep _ _ _ st6 λb hb o e=>(I7.pin (b,o) (bV _ (bV _ (tU hb e)))).1,λb hb=>?_];obtain o|e|d:=T.obj _ _ st6 b hb;show (I7.pin (b,o) (bV _ (bV _ (tU hb e)))).2.1
   refine UY (hg _ _ s6 _ H6 x u _ I6' r6 (step x H6 y6)) λ_ s7 hz=>?_
   obtain σ7|H7|I7|q7:=hz;refine UY (hf _ _ s7 σ7 H7 _ I7 q7) λok s8 hz=>?_
   obtain H8|I8|q8:=hz;cases ok with
   | false =>
    rw[if_neg aQ] at q8 ⊢;obtain m'|hm|w8:=hNN H8 q8;obtain J1|J2|J3:=back I8;show #[m',hm,i+1,ys,σ7,H8,_n,k,J1,J2,J3,rv,w8]
   | true =>
    rw[if_pos rfl] at q8 ⊢;refine UY (he _ _ s8 σ7 H8 _ I8 q8) λz s9 hz=>?_
    obtain y|H9|I9|r9|q9:=hz;obtain J1|J2|J3:=back I9;obtain m'|hm|w9:=hNY y H9 q9;have pD:=J1.pin (s2.6,lobj _n k) (by simp);have hl:=rv.9;refine call_meets F.slot_list_append #[_,pD.1,rfl] F.entry_list_append (F.args_list_append_2 _ _) (PySem.list_append s2.heap.objs.28 _n.14 k z (by rw[bc];lia)) #[pD.1,?_];have e9:=nN pD.1 (λa=>a.25 z);have e9':(_n.toArray.25 z)=(_n++[z]).5:=by simp
    rw[e9'] at e9;obtain ⟨n',e9⟩:∃n',(s9.heap.42 s2.heap.objs.28 (Zu λa=>a.25 z)).11 s2.6=some (lobj (_n++[z]) n'):=#[_,e9]
    have J4:Inv (AD X own _q scope #[s2,H2,fp,s2.6+1]) [] σ7 H9 { s9 with heap:=s9.heap.42 s2.heap.objs.28 (Zu λa=>a.25 z),toks:=s9.27 } :=
     (J1.O! (pins':=[]) λp hp=>nomatch hp).turned (λb o hb e=>(Zm s9.22 _ (Zo hb)).3 e) pD.2.1 pD.2.2.1 (.inr (ah _)) (λx c hx z=>by
      rcases kW (Z:=⟨s2,H2,fp,s2.6+1⟩) B I2 hx with ⟨_,m⟩ | ⟨_,_,m⟩
      ·have:=(Y!.empty _ _ m).2;have z':@Eq Nat c s2.6:=z
       lia
      ·have:=GZ (Z:=#[s2,H2,fp,s2.6+1]) I2 m;rw[z] at this;show dZ _ this) λp hp=>by simp [AD] at hp
    have nfp:∀b∈fp,b≠s2.6:=λb hb z=>by have:=(hfp b hb).2;rw[z] at this;show dZ _ this
    refine #[m',hm,i+1,ys++[y],σ7,H9,_n++[z],n',J4.O! λp hp=>?_,T.keep _ _ _ J2 λb hb o e=>(Zm s9.22 _ (Zo (nfp b hb))).3 e,J3,rv.append (.cons r9 .nil),w9];have ep:p=(s2.6,lobj (_n++[z]) n'):=by simpa using hp
    rw[ep];show #[e9,pD.2.1,pD.2.2.1,pD.2.2.2.1,λv z=>nomatch z]
 show codeAny_compStart_list loop (T.self _ _ _ _ _ st3 loop)
theorem b6 (own _q:List Str) (G!:List Nat) (hi:PI X tg iter wi) (hg:∀Z,PG (AD X own _q scope Z) tg g) (hf:∀Z,PF (AD X own _q scope Z) ifs tf) (he:∀Z,PE (AD X own _q scope Z) elt te)
  (h1:Yy scope own _q=true:=by decide +kernel) (h2:EZ X.16 _q=true:=by rfl) (l!:Ai X _q G!:=by rfl) (hc:X.calm=true:=by rfl) (hs:∀x,foldedSetIterable iter X.16 x=pure x:=by intro _;rfl) :
  PE X (.ListComp elt [#[tg,iter,ifs,0]] scope pos) (Ii wi own.9 G! g tf te):=by
 intro _a s σ H Q I h;rw[eval_ListComp];refine EW (use:=none) hc (Bk.of h1 h2) l! hi hg hf he hs I h λD C s' H' I' fC hm q=>?_
 obtain m|hm:=hm;refine #[m,hm,λh' hs'=>?_];obtain f0|f1|f2|f3|f4|f5:=fC;show #[.ref D,H',I'.turned (t':=s'.27) (λb o hb e=>(hs'.2 b hb).3 e) f0 f1 f3 f4 f5,rfl,q]
theorem lI (i:Nat) (own _q:List Str) (G!:List Nat) {x:Str} {pos' aeL:Pos} (hN:X.N.46) (hi':X.N[i]?=some x) (hx:X.env.scope.names.13 x=some .local) (hi:PI X tg iter wi) (hg:∀Z,PG (AD X own _q scope Z) tg g) (hf:∀Z,PF (AD X own _q scope Z) ifs tf) (he:∀Z,PE (AD X own _q scope Z) elt te)
  (h1:Yy scope own _q=true:=by decide +kernel) (h2:EZ X.16 _q=true:=by rfl) (l!:Ai X _q G!:=by rfl) (hc:X.calm=true:=by rfl) (hs:∀x,foldedSetIterable iter X.16 x=pure x:=by intro _;rfl)
  (hsw:swapsWith (.ListComp elt [#[tg,iter,ifs,0]] scope pos) (some (.Name x pos')) aeL.line X.16=pure true:=by rfl) :
  PS X (.Assign [.Name x pos'] (.ListComp elt [#[tg,iter,ifs,0]] scope pos) aeL) (OY (Ii wi own.9 G! g tf te) (EO i)):=by
 intro _a s σ H D I h;rw[exec_Assign_Name_used _ _ _ _ hsw];refine K0 (aai (K0 ?_));rw[arm_evalThenUse_ListComp];refine K0 (EW (Q:=λv H1=>D.nx (σ.30 i (some v)) H1) (use:=some _) hc (Bk.of h1 h2) l! hi hg hf he hs I h λL C s' H' I' fC hm q=>?_);obtain m|hm:=hm;obtain f0|f1|f2|f3|f4|f5:=fC;refine wpAny_assign_Name (Ei I' hN hi' (.inl hx) (v:=.ref L) rfl (λs'' I'' hz=>?_) (.inr hx));obtain a|sb|ha:=hz
 have hCa:C≠a:=by
  rcases ha with e | e
  ·rw[e];show f1
  ·show (f4 x a e).26
 refine #[m,hm.at' λo e=>(sb.2 C hCa).3 e,λh' hs'=>?_];have I3:=I''.turned (h':=h') (t':=s''.27) (λb o hb e=>(hs'.2 b hb).3 e) f0 f1 f3 f4 f5;show Y6 (Y6 #[_,H',I3,q])
end
section
variable {K:_g}
theorem fo (Pv:Nat->List V->Hp->Prop) (hz:xs.9<=Zh) (h0:Pv 0 [] H) (hl:∀i ys H,i<=xs.9->Pv i ys H->bA K H a xs)
  (hs:∀i x ys H,xs[i]?=some x->ys.9<=i->Pv i ys H->uN σ₀ g tf te x H (λy H'=>Pv (i+1) (ys++[y]) H') (λH'=>Pv (i+1) ys H'))
  (hd:∀ys H,ys.9<=xs.9->Pv xs.9 ys H->∀p,H p=none->Q (.ref p) (upd H p (.lst ys))):vQ (UN K a) σ₀ g tf te Q H:=by
 refine #[λi m ys H=>m=xs.9 - i/\i<=xs.9/\ys.9<=i/\Pv i ys H,#[xs.9,by simp,aW _,aW _,h0],?_];rintro i m ys H ⟨rfl,hi,hy,p⟩;have q:=hl i ys H hi p;by_cases _J:i < xs.9
 ·refine .inr #[#[xs,xs[i],q,by simp [_J]],(),λy H'=>Pv (i+1) (ys++[y]) H',λH'=>Pv (i+1) ys H',λy H' p'=>#[xs.9 - (i+1),(),rfl,_J,by rw[ar,aY];lia,p'],λH' p'=>#[xs.9 - (i+1),(),rfl,_J,(),p'],λx H' y=>?_];obtain e|y:=y;subst e;show hs i x ys _ (y xs q) hy p
 ·have e:i=xs.9:=()
  subst e;show .inl #[#[xs,q,ah _],(),hd ys H hy p]
theorem tZ {lo:Int} (Pv:Nat->List V->Hp->Prop) (hz:n<=Zh) (h0:Pv 0 [] H)
  (hs:∀i ys H,i < n->ys.9<=i->Pv i ys H->uN σ₀ g tf te (.int (lo+i)) H (λy H'=>Pv (i+1) (ys++[y]) H') (λH'=>Pv (i+1) ys H'))
  (hd:∀ys H,ys.9<=n->Pv n ys H->∀p,H p=none->Q (.ref p) (upd H p (.lst ys))):vQ (Kp lo n) σ₀ g tf te Q H:=by
 refine #[λi m ys H=>m=n - i/\i<=n/\ys.9<=i/\Pv i ys H,#[n,by simp,aW _,aW _,h0],?_];rintro i m ys H ⟨rfl,hi,hy,p⟩;by_cases _J:i < n
 ·refine .inr #[_J,(),λy H'=>Pv (i+1) (ys++[y]) H',λH'=>Pv (i+1) ys H',λy H' p'=>#[n - (i+1),(),rfl,_J,by rw[ar,aY];lia,p'],λH' p'=>#[n - (i+1),(),rfl,_J,(),p'],λx H' y=>?_];obtain e|y:=y;subst e y;show hs i ys _ _J hy p
 ·have e:i=n:=()
  subst e;show .inl #[ah _,(),hd ys H hy p]
end
open Nm
def fK (i j:Int):Prop:=WL i j\/∃m n,Sz m i/\Sz n j/\m+n<=100000000
def uB (i j:Int):Prop:=j≠0/\Sz 8999000 j
theorem C2 (h:Sz k i):ZA.Int.intBits i<=k:=by
 unfold ZA.Int.intBits;by_cases e:i=0
 ·subst e;simp
 ·have e':(i == 0)=false:=by simpa using e
  rw[e'];have hn:i.17≠0:=()
  have:=(Nat.log2_lt hn).mpr h;simp only[kI,if_false]
  lia
theorem fK.ok (h:fK i j):IntMulOk i j:=by
 rcases h with h | ⟨m,n,h1,h2,h3⟩
 ·show h.ok
 ·show .of_le (C2 h1) (C2 h2) (ag h3 ())
section
variable {X:Cx} {a b:Expr} {ta tb:TE} {pos:Pos}
theorem cG:yQ X (binaryOp .Mult) (rI fK λi j=>.int (i*j)):=YJ λ_ _ _ _ _ _ _ hc q=>mul_int q hc.ok
theorem lM (hs:X.43=env :: l) (S:qH N ps sc) (he:env.scope=sc) (hb:env.builtins=builtinsNs) (hg:env.globals=Ze) (ht:X.prog.given.tree=none) (hd:X.A.depth+ZA.pylongFrames < recursionLimit):yQ X (binaryOp .FloorDiv) (rI uB λi j=>.int (i.fdiv j)):=by
 intro _a s σ H x y v u Q I rx ry h;obtain i|j|rfl|rfl|hc|q:=h;obtain t|rfl:=rx;obtain t'|rfl:=ry;refine floordiv_int hc.1 #[.int _,H,I.tok _,#[_,rfl],q] (.inr (PySem.PylongRoom.of I.nolimit hd (PySem.SeerAt.of (I.ok.mod.seer.keeps I.bk) ht (env:=env) (l:=l) (by rw[I.ok.49,hs]) (by rw[he];show S.gen) (by rw[he];show S.co) hb hg)))
theorem yC (hr:kv k A):A.depth+ZA.pylongFrames < recursionLimit:=by have:=hr.dp;change A.depth+100 < _;lia
def WZ (t u:TS):TS:=λD σ H=>∃N:St->Hp->Prop,t { D with nx:=N } σ H/\∀σ' H',N σ' H'->u D σ' H'
theorem gO {st:Stmt} (h1:PS X st t) (h2:Fc X rest u):Fc X (st :: rest) (WZ t u):=by
 intro _a s σ H D I h;obtain N|h|k:=h;refine wpAny_execs_cons (ik (h1 _a s σ H { D with nx:=N } I h) λf s1 q=>?_);cases f with
 | next =>
  obtain σ'|H'|I'|q:=q;show h2 _a s1 σ' H' D I' (k _ _ q)
 | ret v=>show q
 | brk=>show q
 | cont=>show q
def Uq (K:_g):V->V->Hp->VK->Prop:=λo i H Q=>∃p xs k v,o=.ref p/\i=.int k/\bA K H p xs/\Ko xs k=some v/\Q v H
theorem Qo:Yi X (Uq X.K):=by
 intro _a s σ H o i ov iv Q I ro ri h;obtain p|xs|k|z|rfl|rfl|hq|he|q:=h;cases ro;obtain t|rfl:=ri;obtain _n|r|pl|hz:=I.32 hq;obtain j|h1|h2|h3|h4|h5:=G5 he;obtain w|ew|rw':=r.get h2;have hl:=r.9;have hn:=CJ;have fin:EP X _a σ Q w s:=#[z,H,I,rw',q];by_cases h0:0<=k
 ·have hj:k.29=j:=by
   rw[seqIndex_of h0 h5] at h1;show bU h1
  show wpAny_getItem_list pl.20 h0 () (by rw[hj];simpa using ew) fin
 ·have hj:(k+(_n.5.7:Int)).29=j:=by
   rw[seqIndex_neg () h4] at h1;rw[bc,<- hl];show bU h1
  show wpAny_getItem_list_neg pl.20 () (by rw[bc] <;> lia) () (by rw[hj];simpa using ew) fin
def NH (K:_g) (T:String):V->Hp->VK->Prop:=λx H Q=>∃t b,zU K H x t/\PySem.W.kitOne K t (.type T)=some b/\Q (.bl b) H
theorem Cd {c:Str} {T:String} {p p2:Pos} (hg:Gl X "isinstance") (hm:X.mg "isinstance"=none) (hb:Z8 c=some (.type T)) (hmc:X.mg c=none) (ha:PE X a ta) (hgc:Gl X c:=by rfl) (hn:c≠"__name__":=by decide)
  (hd:(c == ("__debug__":Str))=false:=by decide) (he:Y8 [a,.Name c p2] X.16=[(false,eval a X.16),(false,eval (.Name c p2) X.16)]:=by rfl)
  (hpl:(aag pos (Y8 [.Name c p2] X.16)).any (·.1)=false:=by rfl) (he2:Y8 [.Name c p2] X.16=[(false,eval (.Name c p2) X.16)]:=by rfl):PE X (.Call (.Name "isinstance" p) [a,.Name c p2] [] pos) (Yw (NH X.K T) ta):=by
 intro _a s σ H Q I h;refine Zz (m5 I hg hm PyProof.Rows.boot_isinstance ?_);have hA:PA X [a,.Name c p2] (kh ta (kh (tC (.ty T)) Be)):=gC ha (gC (My hgc hmc hb rfl hn hd) lJ he2) (by rw[he,he2])
 have hq:kh ta (kh (tC (.ty T)) Be) σ H (λvs H1=>∃x,vs=[x,.ty T]/\NH X.K T x H1 Q):=by
  change ta σ H λx H1=>∃x',[x,V.ty T]=[x',V.ty T]/\NH X.K T x' H1 Q
  have e:(λx H1=>∃x',[x,V.ty T]=[x',V.ty T]/\NH X.K T x' H1 Q)=λx H1=>NH X.K T x H1 Q:=by
   funext x H1;apply propext;constructor
   ·rintro ⟨x',e,q⟩;cases e;show q
   ·intro q;show #[x,rfl,q]
  rw[e];show h
 refine Z4 (ik (hA pos _a s σ H _ I hq) λus s1 hz=>?_) (by rw[he,he2]) hpl;obtain vs|H1|I1|r1|x|e|q1:=hz;subst e;obtain u|w'|rfl|ru|rt:=vals2 r1;cases rt;obtain t|bb|ty|ek|q:=q1;show EK I1 ru ty ek λtk=>#[.bl bb,H1,I1.tok tk,rfl,q]
end
structure Kind (α:Type) [DecidableEq α] where
 R:_g->Hp->V->α->Prop
 d:Nat
 inj:∀{X:Cx} {_a:List (Addr×Obj)} {σ:St} {H:Hp} {s:Y5} {x:V} {a b:α},Inv X _a σ H s->R X.K H x a->R X.K H x b->a=b
 rc:∀{X:Cx} {_a:List (Addr×Obj)} {σ:St} {H:Hp} {s:Y5} {x y:V} {v u:Value} {a b:α} {A:ZK},Inv X _a σ H s->RelV x v->RelV y u->R X.K H x a->R X.K H y b->A.55+d < cLine->SeqAt.RcAt A s v u (decide (a=b))
 ne:∀{X:Cx} {_a:List (Addr×Obj)} {σ:St} {H:Hp} {s:Y5} {x y:V} {v u:Value} {a b:α} {A:ZK},Inv X _a σ H s->RelV x v->RelV y u->R X.K H x a->R X.K H y b->A.55+d < cLine->SeqAt.RcNeAt A s v u (!decide (a=b))
 eq:∀{X:Cx} {_a:List (Addr×Obj)} {σ:St} {H:Hp} {s:Y5} {x y:V} {v u:Value} {a b:α} {A:ZK},Inv X _a σ H s->RelV x v->RelV y u->R X.K H x a->R X.K H y b->A.55+d < cLine->Zq A s v u (decide (a=b))
def YO:Kind Int where
 R:=λ_ _ x i=>x=.int i
 d:=0
 inj:=λ_ h1 h2=>by rw[h1] at h2;cases h2;rfl
 rc:=λ{X _a σ H s x y v u a b A} I rx ry h1 h2 _=>by
  subst h1 h2;obtain t|rfl:=rx;obtain t'|rfl:=ry;have q:=SeqAt.RcAt.int_int (A:=A) (s:=s) a t b t';rwa [Dl] at q
 ne:=λ{X _a σ H s x y v u a b A} I rx ry h1 h2 _=>by
  subst h1 h2;obtain t|rfl:=rx;obtain t'|rfl:=ry;have q:=SeqAt.RcNeAt.int_int (A:=A) (s:=s) a t b t';rwa [Dl] at q
 eq:=λ{X _a σ H s x y v u a b A} I rx ry h1 h2 _=>by
  subst h1 h2;obtain t|rfl:=rx;obtain t'|rfl:=ry;have q:=Zq.int_int (A:=A) (s:=s) a t b t';rwa [Dl] at q
theorem mX {α β:Type} {F:α->β->Prop}:∀{l1:List α} {l2:List β} {i:Nat} (_:Y9 F l1 l2) (h1:i < l1.9) (h2:i < l2.9),F l1[i] l2[i]
 | _,_,_,.nil,h1,_=>absurd h1 (cV _)
 | _,_,0,.cons r _,_,_=>r
 | _,_,i+1,.cons _ t,h1,h2=>mX (i:=i) t (Nat.lt_of_succ_lt_succ h1) (Nat.lt_of_succ_lt_succ h2)
theorem tD {F:α->β->Prop} (hF:∀a b x,F a x->F b x->a=b):∀{l1 l2:List α} {l:List β},Y9 F l1 l->Y9 F l2 l->l1=l2:=by
 intro l1 l2 l h
 induction h generalizing l2 with
 | nil=>intro h';cases h';rfl
 | cons r t ih=>intro h';cases h' with | cons r' t'=>rw[hF _ _ _ r r',ih t']
theorem yF {α:Type} [DecidableEq α] (as bs:List α) (h:as.9=bs.9):(Zi as.9).all (λj=>decide (as[j]?=bs[j]?))=decide (as=bs):=by
 rw[oW,sv,decide_eq_true_iff];constructor
 ·intro q;apply hZ;intro i;by_cases hi:i < as.9
  ·show of_decide_eq_true (q i (iK.mpr hi))
  ·rw[aA (),aA ()]
 ·rintro rfl i _;simp
section
variable {α:Type} [DecidableEq α] (k:Kind α)
theorem Kind.items {X:Cx} {_a:List (Addr×Obj)} {σ:St} {H:Hp} {s:Y5} {A:ZK} (I:Inv X _a σ H s) (hA:A.55+k.d < cLine) {xs ys:List V} {us ws:List Value} {as bs:List α}
  (rx:cU xs us) (ry:cU ys ws) (ha:Y9 (λa x=>k.R X.K H x a) as xs) (hb:Y9 (λa x=>k.R X.K H x a) bs ys) :
  ∀j (h1:j < us.5.7) (h2:j < ws.5.7),Zq A s us.5[j] ws.5[j] (decide (as[j]?=bs[j]?)):=λj h1 h2=>by
 have l1:j < us.9:=by simpa using h1
 have l2:j < ws.9:=by simpa using h2
 have e1:=rx.9;have e2:=ry.9;have e3:=ha.9;have e4:=hb.9;obtain u|hu|ru:=rx.get (i:=j) (x:=xs[j]'()) (by simp);obtain w|hw|rw':=ry.get (i:=j) (x:=ys[j]'()) (by simp);have q:=k.eq (A:=A) I ru rw' (mX ha () ()) (mX hb () ()) hA
 have eu:us.5[j]=u:=by
  have:=hu;rw[ae l1] at this;simpa using this
 have ew:ws.5[j]=w:=by
  have:=hw;rw[ae l2] at this;simpa using this
 rw[eu,ew,ae (show j < as.9 by lia),ae (show j < bs.9 by lia)];have e5:decide (some as[j]=some bs[j])=decide (as[j]=bs[j]):=by simp
 rw[e5];show q
theorem Fh {α:Type} [DecidableEq α] (as bs:List α) {n m:Nat} (h1:as.9=n) (h2:bs.9=m):((Zi (min n m)).all (λj=>decide (as[j]?=bs[j]?)) && n == m)=decide (as=bs):=by
 subst h1 h2;by_cases e:as.9=bs.9
 ·rw[show min as.9 bs.9=as.9 by lia,yF as bs e];simp [e]
 ·have h1:(as.9 == bs.9)=false:=by simpa using e
  rw[h1,Bool.and_false];show (decide_eq_false λz=>e (by rw[z])).26
def YM:Kind (List α) where
 R:=λK H x as=>∃p xs,x=.ref p/\ue K H p xs/\Y9 (λa x=>k.R K H x a) as xs
 d:=k.d+1
 inj:=λ{X _a σ H s x a b} I h1 h2=>by
  obtain p|xs|rfl|hp|pa:=h1;obtain q|ys|e|hq|pb:=h2;cases e;have e:=I.H! hp hq;subst e;show tD (F:=λa x=>k.R X.K H x a) (λa b x=>k.inj I) pa pb
 rc:=λ{X _a σ H s x y v u a b A} I rx ry h1 h2 hA=>by
  obtain p|xs|rfl|hp|pa:=h1;obtain q|ys|rfl|hq|pb:=h2;cases rx;cases ry;obtain us|r1|t1|_:=I.58 hp;obtain ws|r2|t2|_:=I.58 hq;have z:=SeqAt.RcAt.tuples (A:=A) (e:=λj=>decide (a[j]?=b[j]?)) (show s.heap.IsTuple p us.14 from t1) (show s.heap.IsTuple q ws.14 from t2) () (k.items (A:=A.in1) I (by change A.55+1+k.d < cLine;lia) r1 r2 pa pb);rwa [Fh a b (by rw[pa.9,r1.9];simp) (by rw[pb.9,r2.9];simp)] at z
 ne:=λ{X _a σ H s x y v u a b A} I rx ry h1 h2 hA=>by
  obtain p|xs|rfl|hp|pa:=h1;obtain q|ys|rfl|hq|pb:=h2;cases rx;cases ry;obtain us|r1|t1|_:=I.58 hp;obtain ws|r2|t2|_:=I.58 hq;have z:=SeqAt.RcNeAt.tuples (A:=A) (e:=λj=>decide (a[j]?=b[j]?)) (show s.heap.IsTuple p us.14 from t1) (show s.heap.IsTuple q ws.14 from t2) () (k.items (A:=A.in1) I (by change A.55+1+k.d < cLine;lia) r1 r2 pa pb);rwa [Fh a b (by rw[pa.9,r1.9];simp) (by rw[pb.9,r2.9];simp)] at z
 eq:=λ{X _a σ H s x y v u a b A} I rx ry h1 h2 hA=>by
  obtain p|xs|rfl|hp|pa:=h1;obtain q|ys|rfl|hq|pb:=h2;cases rx;cases ry;by_cases e:p=q
  ·subst e;have e:=I.H! hp hq;subst e;rw[tD (F:=λa x=>k.R X.K H x a) (λa b x=>k.inj I) pa pb,decide_eq_true rfl];show Zq.same _
  ·obtain us|r1|t1|_:=I.58 hp;obtain ws|r2|t2|_:=I.58 hq;have z:=SeqAt.RcAt.tuples (A:=A) (e:=λj=>decide (a[j]?=b[j]?)) (show s.heap.IsTuple p us.14 from t1) (show s.heap.IsTuple q ws.14 from t2) () (k.items (A:=A.in1) I (by change A.55+1+k.d < cLine;lia) r1 r2 pa pb);rw[Fh a b (by rw[pa.9,r1.9];simp) (by rw[pb.9,r2.9];simp)] at z;show .of_refs e z
theorem Lg {X:Cx} {_a:List (Addr×Obj)} {σ:St} {H:Hp} {s:Y5} {p q:Addr} {xs ys:List V} {a b:List α} {A:ZK} (I:Inv X _a σ H s) (hp:bA X.K H p xs) (hq:bA X.K H q ys)
  (pa:Y9 (λa x=>k.R X.K H x a) a xs) (pb:Y9 (λa x=>k.R X.K H x a) b ys) (hA:A.55+(k.d+1) < cLine) :
  SeqAt.RcAt A s (.ref p) (.ref q) (decide (a=b))/\SeqAt.RcNeAt A s (.ref p) (.ref q) (!decide (a=b)):=by
 obtain us|r1|t1|_:=I.32 hp;obtain ws|r2|t2|_:=I.32 hq;have l1:=r1.9;have l2:=r2.9;have l3:=pa.9;have l4:=pb.9;by_cases e:us.9=ws.9
 ·have it:=k.items (A:=A.in1) I (by change A.55+1+k.d < cLine;lia) r1 r2 pa pb;have z:=SeqAt.RcAt.lists (A:=A) (e:=λj=>decide (a[j]?=b[j]?)) t1.20 t2.20 (by simpa using e) () it;have z2:=SeqAt.RcNeAt.lists (A:=A) (e:=λj=>decide (a[j]?=b[j]?)) t1.20 t2.20 (by simpa using e) () it;have e1:us.5.7=a.9:=by rw[bc];lia
  rw[e1,yF a b ()] at z z2;show #[z,z2]
 ·have hne:¬a=b:=λz=>e (by have:=congrArg Z7 z;lia)
  rw[decide_eq_false hne];show #[SeqAt.RcAt.lists_lengths t1.20 t2.20 (by simpa using e) (),SeqAt.RcNeAt.lists_lengths t1.20 t2.20 (by simpa using e) ()]
def YN:Kind (List α) where
 R:=λK H x as=>∃p xs,x=.ref p/\bA K H p xs/\Y9 (λa x=>k.R K H x a) as xs
 d:=k.d+1
 inj:=λ{X _a σ H s x a b} I h1 h2=>by
  obtain p|xs|rfl|hp|pa:=h1;obtain q|ys|e|hq|pb:=h2;cases e;have e:=I._D hp hq;subst e;show tD (F:=λa x=>k.R X.K H x a) (λa b x=>k.inj I) pa pb
 rc:=λ{X _a σ H s x y v u a b A} I rx ry h1 h2 hA=>by
  obtain p|xs|rfl|hp|pa:=h1;obtain q|ys|rfl|hq|pb:=h2;cases rx;cases ry;show (Lg k I hp hq pa pb hA).1
 ne:=λ{X _a σ H s x y v u a b A} I rx ry h1 h2 hA=>by
  obtain p|xs|rfl|hp|pa:=h1;obtain q|ys|rfl|hq|pb:=h2;cases rx;cases ry;show (Lg k I hp hq pa pb hA).2
 eq:=λ{X _a σ H s x y v u a b A} I rx ry h1 h2 hA=>by
  obtain p|xs|rfl|hp|pa:=h1;obtain q|ys|rfl|hq|pb:=h2;cases rx;cases ry;by_cases e:p=q
  ·subst e;have e:=I._D hp hq;subst e;rw[tD (F:=λa x=>k.R X.K H x a) (λa b x=>k.inj I) pa pb,decide_eq_true rfl];show Zq.same _
  ·show .of_refs e (Lg k I hp hq pa pb hA).1
def Kind.via {β:Type} [DecidableEq β] (f:β->α) (fi:∀a b,f a=f b->a=b) (R':_g->Hp->V->β->Prop) (im:∀{K H x b},R' K H x b->k.R K H x (f b)):Kind β where
 R:=R'
 d:=k.d
 inj:=λI h1 h2=>fi _ _ (k.inj I (im h1) (im h2))
 rc:=λ{X _a σ H s x y v u a b A} I rx ry h1 h2 hA=>by
  have z:=k.rc (A:=A) I rx ry (im h1) (im h2) hA;rwa [decide_eq_decide.mpr (show f a=f b↔a=b from #[fi a b,λe=>by rw[e]])] at z
 ne:=λ{X _a σ H s x y v u a b A} I rx ry h1 h2 hA=>by
  have z:=k.ne (A:=A) I rx ry (im h1) (im h2) hA;rwa [decide_eq_decide.mpr (show f a=f b↔a=b from #[fi a b,λe=>by rw[e]])] at z
 eq:=λ{X _a σ H s x y v u a b A} I rx ry h1 h2 hA=>by
  have z:=k.eq (A:=A) I rx ry (im h1) (im h2) hA;rwa [decide_eq_decide.mpr (show f a=f b↔a=b from #[fi a b,λe=>by rw[e]])] at z
end
def Ki (K:_g) (H:Hp) (x:V) (n:Int×Int):Prop:=∃p,x=.ref p/\ue K H p [.int n.1,.int n.2]
def XT:Kind (Int×Int):=(YM YO).via (λn=>[n.1,n.2]) (λa b e=>by cases a;cases b;simp at e;rw[e.1,e.2]) Ki λ#[p,e,h]=>#[p,_,e,h,.cons rfl (.cons rfl .nil)]
def XE (K:_g):R2:=λx y H Q=>∃(α:Type) (_:DecidableEq α) (k:Kind α) (a b:α),k.d<=50/\k.R K H x a/\k.R K H y b/\Q (.bl (decide (a=b))) H
def XD (K:_g):R2:=λx y H Q=>∃(α:Type) (_:DecidableEq α) (k:Kind α) (a b:α),k.d<=50/\k.R K H x a/\k.R K H y b/\Q (.bl (!decide (a=b))) H
theorem K3 (hu:X.A.55+50 < cLine):yQ X (ZQ .Eq) (XE X.K):=by
 intro _a s σ H x y v u Q I rx ry h;obtain α|_|k|a|b|hd|ha|hb|q:=h;show k.rc (A:=X.A) I rx ry ha hb () _ _ _ _ #[.bl (decide (a=b)),H,I,rfl,q]
theorem Cj (hu:X.A.55+50 < cLine):yQ X (ZQ .NotEq) (XD X.K):=by
 intro _a s σ H x y v u Q I rx ry h;obtain α|_|k|a|b|hd|ha|hb|q:=h;show k.ne (A:=X.A) I rx ry ha hb () _ _ _ _ #[.bl (!decide (a=b)),H,I,rfl,q]
theorem Jq (hr:kv k A):A.55+50 < cLine:=by have:=hr.55;lia
def Inner (H:Hp) (p q:Addr):Prop:=∃a b c:Int,H p=some (.lst [.int a,.int b,.int c,.ref q])
def c6 (p:Addr) (H H':Hp):Prop:=(∀b o,H b=some o->b≠p->H' b=some o)/\∀q,Inner H p q->Inner H' p q
theorem c6.refl (H:Hp):c6 p H H:=#[λ_ _ h _=>h,λ_ h=>h]
theorem c6.trans (a:c6 p H H1) (b:c6 p H1 H2):c6 p H H2:=#[λc o h n=>b.1 c o (a.1 c o h n) n,λq h=>b.2 q (a.2 q h)]
theorem Inner.inj (h:Inner H p q) (h':Inner H p q'):q=q':=by
 obtain a|b|c|e:=h;obtain a'|b'|c'|e':=h';rw[e] at e';have:=HO.lst.inj (bU e');simp at this;show this.2.2.2
theorem c6.set (h:H p=some (.lst [.int a,.int b,.int c,.ref q])):c6 p H (upd H p (.lst [.int a',.int b',.int c',.ref q])) :=
 #[λb u h n=>by rw[aR n];show h,λq' h'=>by
  rw[(Inner.inj #[a,b,c,h] h').26];show #[a',b',c',aD]]
theorem aG._i (h:aG H H'):c6 p H H':=#[λb o e _=>h b o e,λq #[a,b,c,e]=>#[a,b,c,h _ _ e]]
theorem aG.new (h:H p=ZW):aG H (upd H p o):=λb u e=>by rw[aR (dU e h)];show e
theorem aG.sqt {K:_g} (e:aG H H') (h:ue K H a xs):ue K H' a xs:=by
 rcases h with (h | ⟨o,h⟩) | h
 ·show .inl (.inl (e _ _ h))
 ·show .inl (.inr #[o,e _ _ h])
 ·show .inr h
theorem aG.num {K:_g} (e:aG H H') (h:Ki K H x n):Ki K H' x n:=by obtain p|q|r:=h;show #[p,q,e.sqt r]
section
variable {σ:St} {H:Hp} {D:Ends}
theorem nR {t:TS} (e:σ0=σ) (h:t D σ H):t D σ0 H:=by rw[e];show h
theorem RW (h:D.nx σ H):Uh D σ H:=h
theorem Vv {g:TG} (h:te σ H λx H1=>g x σ H1 D.nx):OY te g D σ H:=h
theorem Pq (h:Q (σ.30 i (some v)) H):EO i v σ H Q:=h
theorem Vg (h:te σ H D.rt):W4 te D σ H:=h
theorem Vq (h:c σ H λb H1=>if b=true then t D σ H1 else u D σ H1):Xe c t u D σ H:=h
theorem Si (h:te σ H λ_ H1=>D.nx σ H1):Uj te D σ H:=h
theorem Vh (h:ta σ H λvs H1=>∃v w,vs=[v,w]/\D.nx ((σ.30 i (some v)).30 j (some w)) H1):W5 i j ta D σ H:=h
theorem Sm 
  (h:to σ H λo H1=>ti σ H1 λi H2=>abj o i H2 λx H3=>te σ H3 λy H4=>tip x y H4 λz H5=>abi o i z H5 λH6=>D.nx σ H6):Uk to ti te abj tip abi D σ H:=h
theorem Vp (h:Q (.int (f i j)) H):ipI f (.int i) (.int j) H Q:=#[i,j,rfl,rfl,h]
theorem Vs {g:TG} (h:wi σ H λJ H1=>∃W:Nat->Nat->St->Hp->Prop,(∃m,W 0 m σ H1)/\∀i m σ H,W i m σ H →
  (J.stop i H/\D.nx σ H)\/(J.go i H/\∃N:St->Hp->Prop,(∀σ' H',N σ' H'->∃m',m' < m/\W (i+1) m' σ' H')/\∀x H',J.yld i H x H'->g x σ H' λσ2 H2=>tb { D with nx:=N,ct:=N,bk:=D.nx } σ2 H2)):Xg wi g tb D σ H:=h
variable {Q:VK} {QA:List V->Hp->Prop} {QB:Bool->Hp->Prop}
theorem Vd (e:σ[i]?=some (some v)) (h:Q v H):UZ i σ H Q:=#[v,e,h]
theorem YG (h:Q v H):tC v σ H Q:=h
theorem Xw (h:ta σ H λx H1=>tb σ H1 λy H2=>r x y H2 Q):W7 r ta tb σ H Q:=h
theorem Xs (h:ta σ H λx H1=>r x H1 Q):Yw r ta σ H Q:=h
theorem XB {g:Int->Int->V} (h:Q (g i j) H):Sr g (.int i) (.int j) H Q:=#[i,j,rfl,rfl,h]
theorem fZ {g:Int->Int->V} (hc:C i j) (h:Q (g i j) H):rI C g (.int i) (.int j) H Q:=#[i,j,rfl,rfl,hc,h]
theorem YH {g:Int->V} (h:Q (g i) H):rU g (.int i) H Q:=#[i,rfl,h]
theorem Vu (h:Q (.bl (decide (i=j))) H):rEq (.int i) (.int j) H Q:=#[rfl,by
 have e:decide (V.int i=V.int j)=decide (i=j):=by simp
 rw[e];show h]
theorem Vl (h:Q (.bl (!decide (i=j))) H):YI (.int i) (.int j) H Q:=#[rfl,by
 have e:decide (V.int i=V.int j)=decide (i=j):=by simp
 rw[e];show h]
theorem RQ (h:t σ H λx H'=>∃k,x=.bl k/\QB k H'):Ud t σ H QB:=h
theorem Xt (h:t σ H λx H'=>∃k,x=.bl k/\QB k H'):tB t σ H QB:=h
theorem Vw (h:t σ H λc H1=>if c=true then u σ H1 QB else QB false H1):Xm t u σ H QB:=h
theorem Xv (h:t σ H λc H1=>if c=true then QB true H1 else u σ H1 QB):tOr t u σ H QB:=h
theorem Vj (h:t σ H λc H1=>QB (!c) H1):W8 t σ H QB:=h
theorem So (h:t σ H λx H1=>∃c,x=.bl c/\if c=true then u σ H1 Q else Q (.bl false) H1):Ul t u σ H Q:=h
theorem Vi (h:t σ H λx H1=>∃c,x=.bl c/\if c=true then Q (.bl true) H1 else u σ H1 Q):W6 t u σ H Q:=h
theorem RV (h:t σ H λx H1=>∃c,x=.bl c/\Q (.bl (!c)) H1):Ug t σ H Q:=h
theorem Vr (h:c σ H λb H1=>if b=true then ta σ H1 Q else tb σ H1 Q):tIf c ta tb σ H Q:=h
theorem Vc (h:QB true H):WW σ H QB:=h
theorem Vk (h:QA [] H):Be σ H QA:=h
theorem Sj (h:ta σ H λx H1=>tr σ H1 λxs H2=>QA (x :: xs) H2):kh ta tr σ H QA:=h
theorem Sl (h:t σ H λvs H1=>sp vs H1 Q E):OX sp [] E t σ H Q:=by
 have e:(λvs H1=>sp (vs++[]) H1 Q E)=λvs H1=>sp vs H1 Q E:=by funext vs H1;rw[d9]
 change t σ H λvs H1=>sp (vs++[]) H1 Q E
 rw[e];show h
theorem Xy (h:t σ H λvs H1=>r vs H1 Q):YF r t σ H Q:=h
theorem Vo {K:_g} (hx:ue K H p xs) (e:Ko xs i=some v) (h:Q v H):Vz K (.ref p) (.int i) H Q:=#[p,xs,i,v,rfl,rfl,hx,e,h]
theorem b8 {K:_g} (hx:bA K H p xs) (e:Ko xs i=some v) (h:Q v H):VA K (.ref p) (.int i) H Q:=#[p,xs,i,v,rfl,rfl,hx,e,h]
theorem Sh {K:_g} (hx:bA K H p xs) (e:Ko xs i=some v) (h:Q v H):Uq K (.ref p) (.int i) H Q:=#[p,xs,i,v,rfl,rfl,hx,e,h]
theorem d7 (hx:H p=some (.lst xs)) (e:OF xs.9 i=some j) (ey:xs.30 j v=ys) (h:QH (upd H p (.lst ys))):Up (.ref p) (.int i) v H QH:=#[p,xs,i,j,rfl,rfl,hx,e,by rw[ey];show h]
theorem Sf (h:to σ H λo H1=>ti σ H1 λi H2=>t o i v H2 λH3=>QS σ H3):X6 to ti t v σ H QS:=h
theorem Pt (h:t v σ H λσ' H'=>u r σ' H' QS):UC t u (v :: r) σ H QS:=#[v,r,rfl,h]
theorem Sg (h:QS σ H):X7 [] σ H QS:=#[rfl,h]
theorem Se {K:_g} (hx:ue K H a xs) (hl:xs.9=n) (h:t xs σ H QS):Wf K n t (.ref a) σ H QS:=#[a,xs,rfl,hx,hl,h]
theorem Xu (h:te σ H λx H1=>tl σ H1 λl H2=>th σ H2 λu H3=>r x l u H3 Q):tSl r te tl th σ H Q:=h
theorem ND (h:QO none H):Md σ H QO:=h
theorem RU (h:t σ H λx H1=>∃i,x=.int i/\QO (some i) H1):Ue t σ H QO:=h
variable {R:It->Hp->Prop} {K:_g}
theorem Po (h:tl σ H λx H1=>∃a,x=.ref a/\(∃xs,bA K H1 a xs)/\R (UN K a) H1):Qg K tl σ H R:=h
theorem Sd (h:tl σ H λx H1=>∃a,x=.ref a/\(∃xs,ue K H1 a xs)/\R (WR K a) H1):XY K tl σ H R:=h
theorem Pn (h:ta σ H λvs H1=>∃j:Int,vs=[.int j]/\-(2^62)<=j/\j < 2^62/\R (Kp 0 j.29) H1):Ux ta σ H R:=h
theorem Pl (h:ta σ H λvs H1=>∃i j:Int,vs=[.int i,.int j]/\(-(2^62)<=i/\i < 2^62/\-(2^62)<=j/\j < 2^62)/\R (Kp i (j - i).29) H1):Uw ta σ H R:=h
theorem Sk {g:TG} (e:KH k G! σ=σ₀) (h:wi σ H λJ H1=>vQ J σ₀ g tf te Q H1):Ii wi k G! g tf te σ H Q:=by
 unfold Ii;rw[e];show h
theorem RP {g:TG} {NY:V->Hp->Prop} (h:g x σ H λσ2 H2=>tf σ2 H2 λb H3=>if b=true then te σ2 H3 NY else NN H3):uN σ g tf te x H NY NN:=h
theorem XA (h:to σ H λx H1=>YD K T x H1/\t σ H1 λxs H2=>r x xs H2 Q):tBM K T r to t σ H Q:=h
def Yj (Q:VK) (xs:List V) (H:Hp):Prop:=xs.9<=Zh/\∀p,H p=none->Q (.ref p) (upd H p (.tup xs))
def Yk (Q:VK) (xs:List V) (H:Hp):Prop:=xs.9<=Zh/\∀p,H p=none->Q (.ref p) (upd H p (.lst xs))
theorem Ve (h:t σ H (Yj Q)):WX t σ H Q:=h
theorem Vn (h:t σ H (Yk Q)):Xc t σ H Q:=h
theorem ki (h:Nat.ble n 1000=true):n<=Zh:=dm (dn (Nat.le_of_ble_eq_true h))
theorem cB {xs:List V} (h:∀p H',aG H H'->H' p=some (.tup xs)->Q (.ref p) H') (hl:Nat.ble xs.9 1000=true:=by rfl):Yj Q xs H :=
 #[ki hl,λp hp=>h p _ (aG.new hp) aD]
theorem dC {xs:List V} (h:∀p H',aG H H'->H p=none->H' p=some (.lst xs)->Q (.ref p) H') (hl:Nat.ble xs.9 1000=true:=by rfl):Yk Q xs H :=
 #[ki hl,λp hp=>h p _ (aG.new hp) hp aD]
theorem XW {A B:Prop} (h:B):if (!true)=true then A else B:=S0 h
theorem XX {A B:Prop} (h:A):if (!false)=true then A else B:=XU h
def WB (tb:TS) (D:Ends) (Pv:St->Hp->Prop) (μ:St->Hp->Nat) (n:Nat) (σ:St) (H:Hp):Prop:=∃N:St->Hp->Prop,(∀σ' H',N σ' H'->∃m',m' < n/\(m'=μ σ' H'/\Pv σ' H'))/\tb { D with nx:=N,ct:=N,bk:=D.nx } σ H
theorem Uo (h:tb { D with nx:=λσ' H'=>Pv σ' H'/\μ σ' H' < n,ct:=λσ' H'=>Pv σ' H'/\μ σ' H' < n,bk:=D.nx } σ H):WB tb D Pv μ n σ H :=
 #[_,λσ' H' #[p,l]=>#[_,l,rfl,p],h]
theorem AK (Pv:St->Hp->Prop) (μ:St->Hp->Nat) (h0:Pv σ H) (hs:∀σ H,Pv σ H->c σ H λb H1=>if b=true then WB tb D Pv μ (μ σ H) σ H1 else D.nx σ H1):OV c tb D σ H:=by
 refine #[λm σ H=>m=μ σ H/\Pv σ H,#[_,rfl,h0],?_];rintro m σ H ⟨rfl,p⟩;show hs σ H p
end
def kg (H:Hp) (p:Addr):Prop:=∃(q:Addr) (a b c:Int) (cs:List Int),H p=some (.lst [.int a,.int b,.int c,.ref q])/\H q=some (.lst (cs.12 V.int))/\0<=a/\0<=c/\c<=(cs.9:Int)/\∀x∈cs,(0:Int)<=x
theorem Ot {H:Hp} {cs:List Int} (hp:H p=some (.lst [.int a,.int b,.int c,.ref q])) (hq:H q=some (.lst (cs.12 V.int))):q≠p:=λe=>by
 rw[e,hp] at hq;have h:=HO.lst.inj (bU hq);cases cs with
 | nil=>cases h
 | cons x1 cs=>cases cs with
  | nil=>cases h
  | cons x2 cs=>cases cs with
   | nil=>cases h
   | cons x3 cs=>cases cs with
    | nil=>cases h
    | cons x4 cs=>simp at h
theorem kg.same (h:kg H p) (e:aG H H'):kg H' p:=by obtain q|a|b|c|cs|h1|h2|r:=h;show #[q,a,b,c,cs,e _ _ h1,e _ _ h2,r]
theorem c6.tup {H H':Hp} {p r:Addr} {xs:List V} (u:c6 p H H') (B:kg H p) (h:H r=some (.tup xs)):H' r=some (.tup xs):=by
 obtain q|a|b|c|cs|h1|_:=B;show u.1 r _ h λe=>by rw[e,h1] at h;cases h
theorem c6.other (u:c6 p H H') (n:r≠p) (h:H r=some o):H' r=some o:=u.1 r _ h n
theorem kg.inner (h:kg H p):∃q,Inner H p q/\∃xs,H q=some (.lst xs):=by obtain q|a|b|c|cs|h1|h2|_:=h;show #[q,#[a,b,c,h1],_,h2]
theorem kg.upd (h:kg H p) (hi:Inner H p q) (n1:r≠p) (n2:r≠q):kg (L2.upd H r o) p:=by
 obtain q'|a|b|c|cs|h1|h2|z:=h;have e:q'=q:=Inner.inj #[a,b,c,h1] hi;subst e;show #[q',a,b,c,cs,by rw[aR n1.26];show h1,by rw[aR n2.26];show h2,z]
theorem Inner.upd (hi:Inner H p q) (n1:r≠p):Inner (L2.upd H r o) p q:=by obtain a|b|c|h:=hi;show #[a,b,c,by rw[aR n1.26];show h]
def RH:Sp:=λvs H Q _=>∃p n,vs=[.ref p,.int n]/\kg H p/\0 < n/\n < 2^64/\∀v H',0<=v->v < n->kg H' p->c6 p H H'->Q (.int v) H'
inductive O6 (K:_g) (vs:List V) (H:Hp) (Q:VK) (E9:XK):Prop
 | mk (a:Addr) (ns:List Int):vs=[.ref a]->bA K H a (ns.12 V.int)->ns.9<=63->(∀p H',H p=none->kg H' p->aG H H'->Q (.ref p) H')->O6 K vs H Q E9
inductive Bu (K:_g) (vs:List V) (H:Hp) (Q:VK) (E9:XK):Prop
 | mk (a:Addr) (ns:List Int):vs=[.ref a]->bA K H a (ns.12 V.int)->ns.9<=63->(∀H',Q (.bl true) H')->Bu K vs H Q E9
def U9:Sp:=λvs H Q _=>∃t b,vs=[.int t,.int b]/\0 < b/\Sz 8999000 b/\∀r H',aG H H'->H' r=some (.tup [.int (lo t b),.int (hi t b)])->Q (.ref r) H'
def Xo:Sp:=λvs H Q _=>∃a b,vs=[.int a,.int b]/\Q (.int (g a b)) H
def Nw:Sp:=λvs H Q _=>∃t b,vs=[.int t,.int b]/\b≠0/\Sz 8999000 b/\∀r H',aG H H'->H' r=some (.tup [.int (lo (if b < 0 then -t else t) (if b < 0 then -b else b)),.int (hi (if b < 0 then -t else t) (if b < 0 then -b else b))])->Q (.ref r) H'
def UE (a b c d:Int):Int:=a*d+c*b
def Qx (a b c d:Int):Int:=a*d - c*b
def Qw (a _b c _d:Int):Int:=a*c
def Mo (K:_g) (f:Int->Int->Int->Int->Int):Sp:=λvs H Q _=>∃p q a b c d,vs=[.ref p,.ref q]/\ue K H p [.int a,.int b]/\ue K H q [.int c,.int d]/\0 < b/\0 < d/\Sz 4000000 a/\Sz 4000000 b/\Sz 4000000 c/\Sz 4000000 d /\
 ∀r H',aG H H'->H' r=some (.tup [.int (lo (f a b c d) (b*d)),.int (hi (f a b c d) (b*d))])->Q (.ref r) H'
def RI (K:_g):Sp:=λvs H Q _=>∃p q a b c d,vs=[.ref p,.ref q]/\ue K H p [.int a,.int b]/\ue K H q [.int c,.int d]/\0 < b/\0 < d/\c≠0/\Sz 4000000 a/\Sz 4000000 b/\Sz 4000000 c/\Sz 4000000 d /\
 ∀r H',aG H H'->H' r=some (.tup [.int (lo (if c < 0 then 0 - a*d else a*d) (if c < 0 then 0 - b*c else b*c)),.int (hi (if c < 0 then 0 - a*d else a*d) (if c < 0 then 0 - b*c else b*c))])->Q (.ref r) H'
theorem cm {F:α->β->Prop}:∀{l1 l1':List α} {l2 l2':List β},Y9 F l1 l2->Y9 F l1' l2'->Y9 F (l1++l1') (l2++l2'):=by
 intro l1 l1' l2 l2' p h
 induction p with
 | nil=>show h
 | cons r t ih=>show .cons r ih
theorem di {h:Heap} (ha:h.11 a=some o) (hb:h.11 b=some u) (hc:o.cls≠u.cls):a≠b:=λe=>by
 subst e;rw[ha] at hb;cases hb;show hc rfl
theorem oF (h:a≠b):ZL a≠ZL b:=λe=>h (by injection e)
theorem Ed {z TI TO i1 i2 l1 l2:Addr} (hz:IsZip h z TI TO f0) (_R:IsPair h TI (.ref i1) (.ref i2)) (_U:IsPair h TO a b)
  (h1:h.18 i1 l1 k1) (h2:h.18 i2 l2 k2) (hl1:h.34 l1 xs) (hl2:h.34 l2 ys) (hT:TI≠TO) (hi:i1≠i2):ZipApart z TI TO i1 i2 l1 l2:=by
 obtain o1|g1|c1|_:=h1;obtain o2|g2|c2|_:=h2;obtain p1|q1|d1|_:=hl1;obtain p2|q2|d2|_:=hl2;refine #[di _R hz ?_,di _U hz ?_,di g1 hz ?_,di g2 hz ?_,hT,di _R g1 ?_,di _R g2 ?_,di _U g1 ?_,di _U g2 ?_,hi,di q1 hz ?_,di q1 _U ?_,di q1 g1 ?_,di q1 g2 ?_,di q2 hz ?_,di q2 _U ?_,di q2 g1 ?_,di q2 g2 ?_]
 all_goals first
  | (rw[d1];first | (rw[c1];show oF ()) | (rw[c2];show oF ()) | show oF ())
  | (rw[d2];first | (rw[c1];show oF ()) | (rw[c2];show oF ()) | show oF ())
  | (rw[c1];show oF ())
  | (rw[c2];show oF ())
  | show oF ()
def WE (K : _g) (l1 l2 : Addr) : It :=
  #[λi H => ∃ xs ys x y, bA K H l1 xs /\ bA K H l2 ys /\ xs[i]? = some x /\ ys[i]? = some y,
   λi H v H' => ∃ p x y, v = .ref p /\ H p = none /\ H' = upd H p (.tup [x, y]) /\ (∀ xs, bA K H l1 xs → xs[i]? = some x) /\ ∀ ys, bA K H l2 ys → ys[i]? = some y,
   λi H => ∃ xs ys, bA K H l1 xs /\ bA K H l2 ys /\ (xs.9 ≤ i \/ ys.9 ≤ i)]
def tnZ (z TI TO i1 i2 l1 l2:Addr) (i:Nat) (h:Heap):Prop:=IsZip h z TI TO .none/\IsPair h TI (.ref i1) (.ref i2)/\(∃a b,IsPair h TO a b)/\h.18 i1 l1 i/\h.18 i2 l2 i
theorem OP {P:Zx} {w:ZO} {K:_g} {elts:List Expr} {kk:Nat} {q!:Pos} (z TI TO i1 i2 l1 l2:Addr) (hT:TI≠TO) (hi:i1≠i2):Turn P w K (.Tuple elts kk q!) (WE K l1 l2) [z,TI,TO,i1,i2] z (tnZ z TI TO i1 i2 l1 l2) where
 mem:=by simp
 obj:=λi h st b hb=>by
  obtain hz|_R|⟨a,c,_U⟩|⟨o1,g1,c1,d1⟩|⟨o2,g2,c2,d2⟩:=st;simp only[ax,aI,or_false] at hb;rcases hb with rfl | rfl | rfl | rfl | rfl
  ·show #[_,hz,λv q=>nomatch q]
  ·show #[_,_R,λv q=>nomatch q]
  ·show #[_,_U,λv q=>nomatch q]
  ·show #[o1,g1,λv q=>by rw[d1] at q;cases q]
  ·show #[o2,g2,λv q=>by rw[d2] at q;cases q]
 keep:=λi h h' st k=>by
  obtain hz|_R|⟨a,c,_U⟩|h1|h2:=st;show #[k z (by simp) _ hz,k TI (by simp) _ _R,#[a,c,k TO (by simp) _ _U],h1.at λo e=>k i1 (by simp) o e,h2.at λo e=>k i2 (by simp) o e]
 item:=by
  intro X hP hw hK hc i _a s σ H E I hf st hg;subst hP hw hK;obtain hz|_R|⟨a,c,_U⟩|h1|h2:=st;obtain xs|ys|x|y|qx|qy|ex|ey:=hg;obtain us|rx|px|_:=I.32 qx;obtain ws|ry|py|_:=I.32 qy;obtain u|eu|ru:=rx.get ex;obtain v|ev|rv:=ry.get ey;have D:=Ed hz _R _U h1 h2 px.20 py.20 hT hi;refine wpAny_pyNext_zip_item D hz _R _U h1 h2 px.20 py.20 (x:=u) (y:=v) (by simpa using eu) (by simpa using ev) λh' a1 a2 a3 a4 a5 a6 hk=>?_
  refine #[_,rfl,wpAny_letOwnedTupleGo_zip a1 λh'' adx hs=>?_];have hT0:H s.6=none:=I._u.36 (ah _);have zne:s.6≠z:=qK (Y7 hz)
  have up:∀b o,b∉[z,TO,i1,i2]->s.heap.11 b=some o->h''.11 b=some o:=λb o hb e=>by
   simp only[ax,aI,or_false,not_or] at hb;show (hs.2 b hb.1).3 (hk b o hb.1 hb.2.1 hb.2.2.1 hb.2.2.2 e)
  have fx:∀b∈[z,TO,i1,i2],mD X _a H b:=λb hb=>hf b (by
   simp only[ax,aI,or_false] at hb ⊢;rcases hb with rfl | rfl | rfl | rfl <;> simp)
  have nx:∀b o,H b=some o->b∉[z,TO,i1,i2]:=λb o e hb=>by
   have:=(fx b hb).1;rw[this] at e;cases e
  have nT:∀{b:Addr} {o:HO},H b=some o->b≠s.6:=λe q=>by rw[q,hT0] at e;cases e
  have tup:h''.11 s.6=some { cls:=.type "tuple",data:=.seq [u,v].14 }:=(hs.2 _ zne).3 a5
  have I2:Inv X _a σ (upd H s.heap.objs.28 (.tup [x,y])) { s with heap:=h'' }:=by
   refine I.57 (g':=s.gens) (d':=s.drawn) (t':=s.27) (ch:=[z,TO,i1,i2]) (λb hb=>?_) (λb o _ _ hb e _=>up b o hb e) (λb o _ _ hb e _=>#[o.slots,up b o hb e]) (λb o hb e n=>?_)
    (λb o hb e=>#[o,up b o hb e]) (λb q e=>by rw[aR (nT e)];show e) (λb o q e=>by rw[aR (nT e)];show e) (λb q e=>#[[].14,by rw[aR (nT e),e];simp]) (λm hm=>?_) (λb o e=>?_) I.50
   ·obtain _|f1|_|f3|f4|f5:=fx b hb;show #[f3,f1,f4,f5]
   ·rw[aR (bM (Y7 e))];show n
   ·obtain o|es|ep|ho|r:=hm;show #[o,es,ep,up _ o (λz=>(fx _ z).2.1 rfl) ho,r]
   ·by_cases hb:b=s.6
    ·subst hb;rw[aD] at e;cases e;show #[ki rfl,[u,v],.cons ru (.cons rv .nil),#[_,tup,rfl,_,rfl]]
    ·rw[aR hb] at e;refine (I._u b o e).r! (λc v' hc q=>up c v' ?_ q) (λc q=>by rw[aR (nT q)];show q) λc xs q=>by rw[aR (nT q)];show q
     rcases hc with rfl | hc
     ·show nx _ _ e
     ·show nx _ _ hc
  refine #[.ref s.6,_,I2,rfl,#[_,x,y,rfl,hT0,rfl,λxs' q=>by rw[I._D q qx];show ex,λb! q=>by rw[I._D q qy];show ey],?_,λb hb=>?_]
  ·refine #[adx,(hs.2 _ D.TIz).3 (hk _ _ D.TIz D.TITO D.TIi1 D.TIi2 _R),#[_,_,(hs.2 _ D.TOz).3 a2],a3.at λo e=>(hs.2 _ D.i1z).3 e,a4.at λo e=>(hs.2 _ D.i2z).3 e]
  ·obtain ⟨o,e,_⟩:∃o,s.heap.11 b=some o/\True:=by
    obtain o1|g1|_:=h1;obtain o2|g2|_:=h2;simp only[ax,aI,or_false] at hb;rcases hb with rfl | rfl | rfl | rfl | rfl
    ·show #[_,hz,trivial]
    ·show #[_,_R,trivial]
    ·show #[_,_U,trivial]
    ·show #[_,g1,trivial]
    ·show #[_,g2,trivial]
   rw[aR (bM (Y7 e))];show (hf b hb).1
 done:=by
  intro X hP hw hK hc i _a s σ H E I hf st hg;subst hP hw hK;obtain hz|_R|⟨a,c,_U⟩|h1|h2:=st;obtain xs|ys|qx|qy|adH:=hg;obtain us|rx|px|_:=I.32 qx;obtain ws|ry|py|_:=I.32 qy;have lx:=rx.9;have ly:=ry.9;have D:=Ed hz _R _U h1 h2 px.20 py.20 hT hi
  refine wpAny_pyNext_zip_end (I.ok.hd hc) D hz _R _U h1 h2 px.20 py.20 (by
   rcases adH with q | q
   ·show .inl (by simp;lia)
   ·show .inr (by simp;lia)) λh' hk=>#[rfl,?_]
  have up:∀b o,b∉[z,TO,i1,i2]->s.heap.11 b=some o->h'.11 b=some o:=λb o hb e=>by
   simp only[ax,aI,or_false,not_or] at hb;show hk b o hb.1 hb.2.1 hb.2.2.1 hb.2.2.2 e
  have fx:∀b∈[z,TO,i1,i2],mD X _a H b:=λb hb=>hf b (by
   simp only[ax,aI,or_false] at hb ⊢;rcases hb with rfl | rfl | rfl | rfl <;> simp)
  have nx:∀b o,H b=some o->b∉[z,TO,i1,i2]:=λb o e hb=>by
   have:=(fx b hb).1;rw[this] at e;cases e
  refine I.57 (g':=s.gens) (d':=s.drawn) (t':=s.27) (ch:=[z,TO,i1,i2]) (λb hb=>?_) (λb o _ _ hb e _=>up b o hb e) (λb o _ _ hb e _=>#[o.slots,up b o hb e]) (λb o hb e n=>n)
   (λb o hb e=>#[o,up b o hb e]) (λb q e=>e) (λb o q e=>e) (λb q e=>#[[].14,by rw[e];simp]) (λm hm=>?_) (λb o e=>?_) I.50
  ·obtain _|f1|_|f3|f4|f5:=fx b hb;show #[f3,f1,f4,f5]
  ·obtain o|es|ep|ho|r:=hm;show #[o,es,ep,up _ o (λz=>(fx _ z).2.1 rfl) ho,r]
  ·refine (I._u b o e).r! (λc v' hc q=>up c v' ?_ q) (λc q=>q) λc xs q=>q
   rcases hc with rfl | hc
   ·show nx _ _ e
   ·show nx _ _ hc
 self:=λ_ _ _ _ _ st h=>aae st.1 h
section
variable {X:Cx}
def V5 (K:_g) (ta:TA):TI:=λσ H R=>ta σ H λvs H1=>∃l1 l2,vs=[.ref l1,.ref l2]/\(∃xs,bA K H1 l1 xs)/\(∃ys,bA K H1 l2 ys)/\R (WE K l1 l2) H1
theorem qq {a b:Expr} {ta:TA} {p pos q!:Pos} {elts:List Expr} {kk:Nat} (hg:Gl X "zip") (hm:X.mg "zip"=none) (ha:PA X [a,b] ta) (hs:Y8 [a,b] X.16=[(false,eval a X.16),(false,eval b X.16)]:=by rfl) (hs2:Y8 [b] X.16=[(false,eval b X.16)]:=by rfl) :
  PI X (.Tuple elts kk q!) (.Call (.Name "zip" p) [a,b] [] pos) (V5 X.K ta):=by
 intro _a s σ H R I h;refine Call_ (m5 I hg hm boot_zip (Zk (ik (ha pos _a s σ H _ I h) λus s1 hz=>?_) (by rw[hs,hs2]) (by rw[hs2];rfl)));obtain vs|H1|I1|r1|q1:=hz;obtain l1|l2|e|⟨xs,qx⟩|⟨ys,qy⟩|q:=q1;subst e;obtain u|v|rfl|ru|rv:=vals2 r1;cases ru;cases rv;obtain us|rx|px|_:=I1.32 qx;obtain ws|ry|py|_:=I1.32 qy;refine call_zip_2 px.20 py.20 λh' a1 a2 a3 a4 a5 a6 hk=>aae a1 ?_
 have I2:Inv X _a σ H1 { s1 with heap:=h' }:=I1.59 (t':=s1.27) hk;refine #[_,[s1.6+4,s1.6+2,s1.6+3,s1.6,s1.6+1],_,_,H1,rfl,I2,OP (s1.6+4) (s1.6+2) (s1.6+3) s1.heap.objs.28 (s1.6+1) l1 l2 (bM (fR _)) (bM (fR _)),#[a1,a2,#[_,_,a3],a4,a5],λb hb=>?_,q]
 have hb':s1.6<=b:=by
  simp only[ax,aI,or_false] at hb;rcases hb with rfl | rfl | rfl | rfl | rfl <;> first | show rZ _ _ | show ah _
 show I1.T! hb' (I1._u.36 hb')
theorem C0 (hc:X.calm=true):qJ X (.builtin "all") (λxs H Q=>∃(p:Addr) (bs:List Bool),xs=[.ref p]/\bA X.K H p (bs.12 V.bl)/\Q (.bl (bs.all id)) H):=by
 intro _a s σ H xs us Q I r h;obtain p|bs|rfl|hp|q:=h;obtain u|rfl|ru:=vals1 r;cases ru;obtain vs|rv|pl|hz:=I.32 hp
 have hb:PyProof.Rows.LSm.BoolsAre vs bs:=by
  clear q hp pl hz
  induction bs generalizing vs with
  | nil=>cases rv;show .nil
  | cons b bs ih =>
   rw[jD] at rv;cases rv with
   | cons r1 r2=>cases r1;show .cons b (ih _ r2)
 have _J:p < s.6:=by obtain _|e|_:=pl.20;show Y7 e
 refine call_all_walk (aaa pl.20 ?_)
 refine #[s.6,[s.6,p],[s.6],vs.5.7,_,_,λi=>(bs[i]?).4 true,rfl,Walks.list (A:=X.A.in1) (I.ok.hd hc) _ p (bM _J) vs.5,
  #[#[_,Zc _ rfl,rfl,rfl],pl.isList.25 _],λi v s' Q' E' hP hQ=>?_,λh' tk hk=>?_]
 ·obtain b|e|rfl:=hb.get i v (by simpa using hP);simp only[e,jZ] at hQ;show ZZ hQ
 ·have e:((Zi vs.5.7).all λi=>(bs[i]?).4 true)=bs.all id:=by
   rw[bc,hb.9];show PyProof.Rows.LSm.range_all bs
  rw[e];show #[.bl _,H,I.59 (t':=tk) (PyProof.Rows.LSm.kept_iter hk),rfl,q]
theorem JU (hc:X.calm=true):qJ X (.builtin "sum") (λxs H Q=>∃(p:Addr) (ns:List Int),xs=[.ref p]/\bA X.K H p (ns.12 V.int)/\Q (.int ns.sum) H):=by
 intro _a s σ H xs us Q I r h;obtain p|ns|rfl|hp|q:=h;obtain u|rfl|ru:=vals1 r;cases ru;obtain vs|rv|pl|_:=I.32 hp;have hi:IntsAre vs ns:=intsAre_of rv;obtain xs|hx:=hi.allInts.items;have K!:s.heap.34 p (intItems xs):=hx ▸ pl.20;refine sum_intListG (I.ok.hd hc) K! λh' tk t' hk=>?_
 have e1:ns=xs.toList.12 (·.1):=by
  rw[<- nums_intItems,<- hx];show (show numsOf vs.toArray.toList=ns from hi.numsOf).26
 have e2:preSum (numAt xs) xs.7=ns.sum:=by
  rw[preSum_eq,aF (by simp),e1]
 rw[e2];show #[.int _,H,I.59 (t':=tk) hk,#[_,rfl],q]
end
section
variable {K:_g} {g:TG}
theorem pO (Pv:Nat->List V->Hp->Prop) (hz:xs.9<=Zh) (hw:ws.9=xs.9) (h0:Pv 0 [] H) (hl:∀i ys H,i<=xs.9->Pv i ys H->bA K H l1 xs/\bA K H l2 ws)
  (hs:∀i x y ys H p,xs[i]?=some x->ws[i]?=some y->ys.9<=i->Pv i ys H->H p=none->uN σ₀ g tf te (.ref p) (upd H p (.tup [x,y])) (λy H'=>Pv (i+1) (ys++[y]) H') (λH'=>Pv (i+1) ys H'))
  (hd:∀ys H,ys.9<=xs.9->Pv xs.9 ys H->∀p,H p=none->Q (.ref p) (upd H p (.lst ys))):vQ (WE K l1 l2) σ₀ g tf te Q H:=by
 refine #[λi m ys H=>m=xs.9 - i/\i<=xs.9/\ys.9<=i/\Pv i ys H,#[xs.9,by simp,aW _,aW _,h0],?_];rintro i m ys H ⟨rfl,hi,hy,p⟩;obtain q1|q2:=hl i ys H hi p;by_cases _J:i < xs.9
 ·refine .inr #[#[xs,ws,xs[i],ws[i]'(),q1,q2,by simp [_J],by simp],(),λy H'=>Pv (i+1) (ys++[y]) H',λH'=>Pv (i+1) ys H',λy H' p'=>#[xs.9 - (i+1),(),rfl,_J,by rw[ar,aY];lia,p'],λH' p'=>#[xs.9 - (i+1),(),rfl,_J,(),p'],λx H' y=>?_];obtain r|x'|y'|rfl|hr|rfl|e1|e2:=y;show hs i x' y' ys _ r (e1 xs q1) (e2 ws q2) hy p hr
 ·have e:i=xs.9:=()
  subst e;show .inl #[#[xs,ws,q1,q2,.inl (ah _)],(),hd ys H hy p]
theorem Ta {tb:TS} {D:Ends} (Pv:Nat->St->Hp->Prop) (hw:ws.9=xs.9) (h0:Pv 0 σ H) (hl:∀i σ H,i<=xs.9->Pv i σ H->bA K H l1 xs/\bA K H l2 ws)
  (hs:∀i x y σ H p,xs[i]?=some x->ws[i]?=some y->Pv i σ H->H p=none->g (.ref p) σ (upd H p (.tup [x,y])) λσ2 H2=>tb { D with nx:=Pv (i+1),ct:=Pv (i+1),bk:=D.nx } σ2 H2) (hd:∀σ H,Pv xs.9 σ H->D.nx σ H) :
  ∃W:Nat->Nat->St->Hp->Prop,(∃m,W 0 m σ H)/\∀i m σ H,W i m σ H →
   ((WE K l1 l2).stop i H/\D.nx σ H)\/((WE K l1 l2).go i H/\∃N:St->Hp->Prop,(∀σ' H',N σ' H'->∃m',m' < m/\W (i+1) m' σ' H')/\∀x H',(WE K l1 l2).yld i H x H'->g x σ H' λσ2 H2=>tb { D with nx:=N,ct:=N,bk:=D.nx } σ2 H2):=by
 refine #[λi m σ H=>m=xs.9 - i/\i<=xs.9/\Pv i σ H,#[xs.9,by simp,aW _,h0],?_];rintro i m σ H ⟨rfl,hi,p⟩;obtain q1|q2:=hl i σ H hi p;by_cases _J:i < xs.9
 ·refine .inr #[#[xs,ws,xs[i],ws[i]'(),q1,q2,by simp [_J],by simp],Pv (i+1),λσ' H' p'=>#[xs.9 - (i+1),(),rfl,_J,p'],λx H' y=>?_];obtain r|x'|y'|rfl|hr|rfl|e1|e2:=y;show hs i x' y' σ _ r (e1 xs q1) (e2 ws q2) p hr
 ·have e:i=xs.9:=()
  subst e;show .inl #[#[xs,ws,q1,q2,.inl (ah _)],hd σ H p]
end
section
variable {X:Cx}
theorem kE (K:_g) (n:Nat) {es:List Expr} {k:Nat} {pos:Pos} {t:Ri} (h:Yh X es t) (hK:X.K=K:=by rfl) (hc:X.calm=true:=by rfl)
  (hn:(aak es X.16).9=n:=by rfl) (hst:(aak es X.16).findIdx? (·.1)=none:=by rfl):PG X (.Tuple es k pos) (Wf K n t):=by subst hK;show zB hc h hn hst
theorem tW (K:_g) (hK:X.K=K):Yl X (Vz K):=by subst hK;show bN
theorem fI (K:_g) (hK:X.K=K):Yl X (VA K):=by subst hK;show bC
theorem SI (K:_g) (hK:X.K=K) (hu:X.A.55+50 < cLine):yQ X (ZQ .Eq) (XE K):=by subst hK;show K3 hu
theorem SG (K:_g) (hK:X.K=K) (hu:X.A.55+50 < cLine):yQ X (ZQ .NotEq) (XD K):=by subst hK;show Cj hu
theorem Ca (K:_g) {tg l:Expr} {tl:TE} (hl:PE X l tl) (hK:X.K=K:=by rfl):PI X tg l (Qg K tl):=by subst hK;show cF hl
theorem O7 (K:_g) (hK:X.K=K):YW X (Vy K):=by subst hK;show sJ
end
theorem fH {X:Cx} {e e':Expr} {es:List Expr} {te:TE} {t:TA} (h:e=e') (ha:PE X e' te) (hr:PA X es t) (hs:∀l,Y8 (e' :: l) X.16=(false,eval e' X.16) :: Y8 l X.16:=by intro _;rfl):PA X (e :: es) (kh te t):=by subst h;show gC ha hr (hs _)
theorem jO (hl:H l=some (.lst xs)) (hz:xs.9 < Zh) (h:Q ._B (upd H l (.lst (xs++[y])))):Mt (.ref l) [y] H Q:=#[l,xs,y,rfl,rfl,hl,hz,h]
theorem Vm (h:Q (.bl (!decide (i=j))) H):YI (.bl i) (.bl j) H Q:=#[rfl,by
 have e:decide (V.bl i=V.bl j)=decide (i=j):=by simp
 rw[e];show h]
theorem Sb {K:_g} (h:ta σ H λvs H1=>∃l1 l2,vs=[.ref l1,.ref l2]/\(∃xs,bA K H1 l1 xs)/\(∃ys,bA K H1 l2 ys)/\R (WE K l1 l2) H1):V5 K ta σ H R:=h
theorem rd (h1:H l=some (.lst xs)) (h2:H b=some (.lst zs)) (hz:xs.9+zs.9<=Zh) (h:∀p H',aG H H'->H p=none->H' p=some (.lst (xs++zs))->Q (.ref p) H'):XF (.ref l) (.ref b) H Q :=
 #[l,b,xs,zs,rfl,rfl,h1,h2,hz,λp hp=>h p _ (aG.new hp) hp aD]
theorem zx {K:_g} {lo hi:Option Int} (h1:bA K H a xs) (h:∀p H',aG H H'->H p=none->H' p=some (.lst (rO xs lo hi))->Q (.ref p) H'):Vy K (.ref a) lo hi H Q :=
 #[a,xs,rfl,h1,λp hp=>h p _ (aG.new hp) hp aD]
theorem vL {xs:List α} {i:Int} (h0:0<=i) (h1:i < xs.9):∃v,Ko xs i=some v/\v∈xs/\xs[i.29]?=some v:=by
 have hj:i.29 < xs.9:=()
 refine #[xs[i.29],?_,aw hj,by simp [hj]];have:=dM (xs:=xs) (j:=i.29) (v:=xs[i.29]) (by simp [hj]);rwa [Int.toNat_of_nonneg h0] at this
theorem ic {F:α->β->Prop}:∀{l1:List α} {l2:List β} {y:β},Y9 F l1 l2->y∈l2->∃x∈l1,F x y:=by
 intro l1 l2 y p h
 induction p with
 | nil=>cases h
 | cons r t ih =>
  rcases ax.mp h with rfl | h
  ·show #[_,cT,r]
  ·obtain x|hx|q:=ih h;show #[x,bP _ hx,q]
theorem bW {F:α->β->Prop} {l1:List α} {l2:List β} {i:Nat} {y:β} (h:Y9 F l1 l2) (e:l2[i]?=some y):∃x,l1[i]?=some x/\F x y:=by
 have hl:=h.9;have hi:i < l2.9:=(aH.mp e).1;refine #[l1[i]'(),by simp,?_];have:=mX h (i:=i) () hi;have e2:l2[i]=y:=(aH.mp e).2;rwa [e2] at this
def C9 (n:Int×Int):Prop:=0 < n.2/\ZN n.1 n.2=1/\Sz 8000000 n.1/\Sz 8000000 n.2
theorem take_snoc {α:Type} {l:List α} {v:α} (h:l[i]?=some v):l.21 (i+1)=l.21 i++[v]:=by rw[List.take_add_one,h];rfl
theorem aG.after (s:aG H H') (h:H r=ZW):aG H (upd H' r o):=λb u e=>by rw[aR (dU e h)];show s b u e
theorem c6.after (s:c6 b H H') (h:H r=ZW):c6 b H (upd H' r o):=#[λc u e n=>by rw[aR (dU e h)];show s.1 c u e n,λq hi=>(s.2 q hi).upd λz=>by obtain _|_|_|e:=hi;rw[<- z,h] at e;cases e]
theorem c6.same (s:c6 b H H') (e:aG H' H''):c6 b H H'':=s.3 e._i
theorem Nc {α:Type} {Pr:α->Prop} {l:List α} {a:α} (h:∀n∈l,Pr n) (ha:Pr a):∀n∈l++[a],Pr n:=λn hn=>by
 rcases aB.mp hn with hn | hn
 ·show h n hn
 ·have e:n=a:=by simpa using hn
  rw[e];show ha
abbrev C6 (h:Heap) (z TI TO:Addr) (f0 f1:Value):Prop:=h.11 z=some { cls:=.type "zip",dict:=none,data:=.fields [f0,f1,.bool false,.ref TI,.ref TO].14,slots:=[].14 }
theorem LJ (e:s.heap.11 a=some o) (h:Q (some o) s):Zd (model prog w) A (loadIfAlive a) Q E s:=by
 intro Γ p hp;change Sem.wp _ _ (.loadIfAlive a .pure) _ _ _ _
 simp only[Sem.wp_loadIfAlive,e];show Y6 h Γ p hp
theorem Ci {z TI TO T:Addr} (zr:C6 s.22 z TI TO (aah T) (.bool b1)) (al:s.heap.11 T=some o)
  (h:∀h',C6 h' z TI TO (aah T) (.bool true)->Heap.SameBut z s.22 h'->Q false { s with heap:=h' }):Zd (model prog w) A (Zj (.ref z)) Q E s:=by
 unfold Zj;refine K0 (ZG zr rfl (x:=aah T) rfl ?_);refine K0 (LJ (a:=T) al ?_);refine K0 (ZG zr rfl (x:=.bool b1) rfl ?_);cases b1 with
 | true=>show Y6 (h _ zr (.refl ..))
 | false=>show K0 (ZX zr (by simp) λh' zr' sb=>Y6 (h h' zr' sb))
theorem NV {z TI TO T i1 i2 l1 l2:Addr} {Q:Value->Y5->Prop} (D:ZipApart z TI TO i1 i2 l1 l2) (zr:C6 s.22 z TI TO (aah T) (.bool b1)) (al:s.heap.11 T=some o)
  (pt:IsPair s.22 TI (.ref i1) (.ref i2)) (j1:s.heap.18 i1 l1 k1) (j2:s.heap.18 i2 l2 k2) (m1:s.heap.34 l1 us) (m2:s.heap.34 l2 ws) (eu:us[k1]?=some u) (ev:ws[k2]?=some v)
  (hQ:∀h',C6 h' z TI TO (aah T) (.bool true)->h'.18 i1 l1 (k1+1)->h'.18 i2 l2 (k2+1)->IsPair h' s.heap.objs.28 u v->(∀c o,c≠z->c≠i1->c≠i2->s.heap.11 c=some o->h'.11 c=some o)->Q (.ref s.6) { s with heap:=h' }) :
  Zd (model prog w) A (ZA.«zip.__next__» #[[.ref z],[]]) (λfin s'=>∃v,fin=.done (.ret v)/\Q v s') E s:=by
 change Zd _ _ (field (Za z) 2 >>= _) _ _ s
 refine K0 (ZG zr rfl (x:=.bool false) rfl ?_)
 change Zd _ _ (field (Za z) 3 >>= _) _ _ s
 refine K0 (ZG zr rfl (x:=.ref TI) rfl (K0 (ZS pt rfl ?_)))
 change Zd _ _ (Zj (Za z) >>= _) _ _ s
 refine K0 (Ci zr al λg1 zr1 sb1=>?_);simp only[kI,if_false];refine K0 ?_;rw[<- Array.forIn_toList];simp only[uI,qN];have j1':=j1.15 sb1.15 D.i1z;have m1':=m1.15 sb1.15 D.l1z;refine K0 (K0 (ZR ?_))
 change Zd _ _ (Zt (Za i1) >>= _) _ _ _
 refine K0 (ZV j1' m1' eu λg2 j1a sb2=>Y6 ?_);refine Y6 ?_;have j2':=(j2.15 sb1.15 D.i2z).15 sb2.15 D.i12.26;have m2':=(m2.15 sb1.15 D.l2z).15 sb2.15 D.l2i1;refine K0 (K0 (ZR ?_))
 change Zd _ _ (Zt (Za i2) >>= _) _ _ _
 refine K0 (ZV j2' m2' ev λg3 j2a sb3=>Y6 ?_);refine Y6 (Y6 ?_);refine K0 (wpAny_newTuple (hsz:=ki rfl) ?_);have sz:g3.objs.7=s.6:=by rw[sb3.1,sb2.1,sb1.1]
 have up:∀c o,c≠z->c≠i1->c≠i2->s.heap.11 c=some o->g3.11 c=some o:=λc o c1 c2 c3 e=>sb3.15 _ _ c3 (sb2.15 _ _ c2 (sb1.15 _ _ c1 e))
 have zr3:C6 g3 z TI TO (aah T) (.bool true):=sb3.15 _ _ D.i2z.26 (sb2.15 _ _ D.i1z.26 zr1);refine Y6 #[_,rfl,?_]
 change Q (.ref g3.objs.7) { s with heap:=g3.25 { cls:=.type "tuple",data:=.seq [u,v].14 } }
 have last:=hQ (g3.25 { cls:=.type "tuple",data:=.seq [u,v].14 }) (Y4 _ zr3) ((j1a.15 sb3.15 D.i12).at λo e=>Y4 _ e) (j2a.at λo e=>Y4 _ e)
  (by rw[<- sz];show Zc _ rfl) λc o c1 c2 c3 e=>Y4 _ (up c o c1 c2 c3 e)
 rw[sz];show last
theorem PX {z TI TO T i1 i2 l1 l2:Addr} (hh:A.handled=none) (D:ZipApart z TI TO i1 i2 l1 l2) (zr:C6 s.22 z TI TO (aah T) (.bool b1)) (al:s.heap.11 T=some o)
  (pt:IsPair s.22 TI (.ref i1) (.ref i2)) (j1:s.heap.18 i1 l1 k1) (m1:s.heap.34 l1 us) (eu:us[k1]?=none)
  (hE:∀h' e,(∀c o,c≠z->c≠i1->c≠i2->s.heap.11 c=some o->h'.11 c=some o)->(∃o,h'.11 e=some o/\o.cls=.type "StopIteration")->E (.ref e) { s with heap:=h' }) :
  Zd (model prog w) A (ZA.«zip.__next__» #[[.ref z],[]]) Q E s:=by
 change Zd _ _ (field (Za z) 2 >>= _) _ _ s
 refine K0 (ZG zr rfl (x:=.bool false) rfl ?_)
 change Zd _ _ (field (Za z) 3 >>= _) _ _ s
 refine K0 (ZG zr rfl (x:=.ref TI) rfl (K0 (ZS pt rfl ?_)))
 change Zd _ _ (Zj (Za z) >>= _) _ _ s
 refine K0 (Ci zr al λg1 zr1 sb1=>?_);simp only[kI,if_false];refine K0 ?_;rw[<- Array.forIn_toList];simp only[uI,qN];refine K0 (K0 (ZR ?_))
 change Zd _ _ (Zt (Za i1) >>= _) _ _ _
 show K0 (wpAny_nextOf_list_end hh (j1.15 sb1.15 D.i1z) (m1.15 sb1.15 D.l1z) eu λg2 e xb he=>hE g2 e (λc o c1 c2 _ q=>xb _ _ c2 (sb1.15 _ _ c1 q)) he)
theorem NR {z TI TO T i1 i2 l1 l2:Addr} (D:ZipApart z TI TO i1 i2 l1 l2) (zr:C6 s.22 z TI TO (aah T) (.bool b1)) (al:s.heap.11 T=some o)
  (pt:IsPair s.22 TI (.ref i1) (.ref i2)) (j1:s.heap.18 i1 l1 k1) (j2:s.heap.18 i2 l2 k2) (m1:s.heap.34 l1 us) (m2:s.heap.34 l2 ws) (eu:us[k1]?=some u) (ev:ws[k2]?=some v)
  (hQ:∀h',C6 h' z TI TO (aah T) (.bool true)->h'.18 i1 l1 (k1+1)->h'.18 i2 l2 (k2+1)->IsPair h' s.heap.objs.28 u v->(∀c o,c≠z->c≠i1->c≠i2->s.heap.11 c=some o->h'.11 c=some o)->Q (some (.ref s.6)) { s with heap:=h' }) :
  Zd (model prog w) A (pyNext (.ref z)) Q E s:=by
 have ty:s.TypeIs (.ref z) "zip":=#[_,zr,rfl];unfold pyNext;refine K0 (wpAny_attempt (Z5 (name:=Str.ofString "__next__") ty rW (wpAny_call_entry rW ty PySem.F.entry_zip_next ?_ (Yp _))));show NV D zr al pt j1 j2 m1 m2 eu ev λh' a1 a2 a3 a4 a5=>Y6 (hQ h' a1 a2 a3 a4 a5)
theorem NQ {z TI TO T i1 i2 l1 l2:Addr} (hh:A.handled=none) (D:ZipApart z TI TO i1 i2 l1 l2) (zr:C6 s.22 z TI TO (aah T) (.bool b1)) (al:s.heap.11 T=some o)
  (pt:IsPair s.22 TI (.ref i1) (.ref i2)) (j1:s.heap.18 i1 l1 k1) (m1:s.heap.34 l1 us) (eu:us[k1]?=none)
  (hQ:∀h',(∀c o,c≠z->c≠i1->c≠i2->s.heap.11 c=some o->h'.11 c=some o)->Q none { s with heap:=h' }):Zd (model prog w) A (pyNext (.ref z)) Q E s:=by
 have ty:s.TypeIs (.ref z) "zip":=#[_,zr,rfl];unfold pyNext;refine K0 (wpAny_attempt (Z5 (name:=Str.ofString "__next__") ty rW (wpAny_call_entry rW ty PySem.F.entry_zip_next ?_ (Yp _))));refine PX hh D zr al pt j1 m1 eu λh' e kk hz=>?_
 obtain oe|he|hc:=hz;show K0 (wpAny_isInstance (T:="StopIteration") (b:=true) #[oe,he,hc] isSubtype_stop (Y6 (hQ _ kk)))
section
variable {σ:St}
theorem Inv.moved {ch:List Addr} (I:Inv X _a σ H s) (fx:∀b∈ch,mD X _a H b) (up:∀b o,b∉ch->s.heap.11 b=some o->h'.11 b=some o) (hg:AllBare g') :
  Inv X _a σ H { s with heap:=h',gens:=g',drawn:=d',toks:=t' }:=by
 have nx:∀b o,H b=some o->b∉ch:=λb o e hb=>by have:=(fx b hb).1;rw[this] at e;cases e
 refine I.57 (ch:=ch) (λb hb=>?_) (λb o _ _ hb e _=>up b o hb e) (λb o _ _ hb e _=>#[o.slots,up b o hb e]) (λb o hb e n=>n) (λb o hb e=>#[o,up b o hb e]) (λb q e=>e) (λb o q e=>e) (λb q e=>#[[].14,by rw[e];simp]) (λm hm=>?_) (λb o e=>?_) hg
 ·obtain _|f1|_|f3|f4|f5:=fx b hb;show #[f3,f1,f4,f5]
 ·obtain o|es|ep|ho|r:=hm;show #[o,es,ep,up _ o (λz=>(fx _ z).2.1 rfl) ho,r]
 ·refine (I._u b o e).r! (λc v' hc q=>up c v' ?_ q) (λc q=>q) λc xs q=>q
  rcases hc with rfl | hc
  ·show nx _ _ e
  ·show nx _ _ hc
theorem Inv.abB (I:Inv X _a σ H s) (fp:mD X _a H p) (new:iJ X.23 X.w (upd H p o) s.22 p o):Inv X _a σ (upd H p o) s:=by
 have nt:∀{b:Addr} {u:HO},H b=some u->b≠p:=λe z=>by rw[z,fp.1] at e;cases e
 refine I.57 (h':=s.8) (g':=s.gens) (d':=s.drawn) (t':=s.27) (ch:=[p]) (λb hb=>?_) (λb o _ _ _ e _=>e) (λb o _ _ _ e _=>#[o.slots,e]) (λb o hb e n=>?_) (λb o _ e=>#[o,e]) (λb q e=>by rw[aR (nt e)];show e) (λb o q e=>by rw[aR (nt e)];show e)
  (λb q e=>#[[].14,by rw[aR (nt e),e];simp]) (λm hm=>hm) (λb u e=>?_) I.50
 ·have e:b=p:=by simpa using hb
  subst e;obtain _|f1|_|f3|f4|f5:=fp;show #[f3,f1,f4,f5]
 ·rw[aR λz=>hb (by simp [z])];show n
 ·by_cases hb:b=p
  ·subst hb;rw[aD] at e;cases e;show new
  ·rw[aR hb] at e;show (I._u b u e).r! (λc v _ q=>q) (λc q=>by rw[aR (nt q)];show q) λc xs q=>by rw[aR (nt q)];show q
end
def UL (H:Hp) (p:V×V) (x:V):Prop:=∃T,x=.ref T/\H T=some (.tup [p.1,p.2])
theorem UL.same (h:UL H p x) (e:aG H H'):UL H' p x:=by obtain T|q|g:=h;show #[T,q,e _ _ g]
def Zst (h:Heap) (z TI TO:Addr) (base:Nat):Prop:=(∃a b,IsPair h TO a b)/\(IsZip h z TI TO .none\/∃(T:Addr) (b1:Bool) (o:Obj),C6 h z TI TO (aah T) (.bool b1)/\h.11 T=some o/\@LE.le Nat instLENat base T)
theorem Fe {z TI TO i1 i2 l1 l2:Addr} (hz:C6 h z TI TO f0 f1) (_R:IsPair h TI (.ref i1) (.ref i2)) (_U:IsPair h TO a b) (h1:h.18 i1 l1 k1) (h2:h.18 i2 l2 k2) (hl1:h.34 l1 xs) (hl2:h.34 l2 ys) (hT:TI≠TO) (hi:i1≠i2):ZipApart z TI TO i1 i2 l1 l2:=by
 obtain o1|g1|c1|_:=h1;obtain o2|g2|c2|_:=h2;obtain p1|q1|d1|_:=hl1;obtain p2|q2|d2|_:=hl2;have zt:ZL "zip"≠.type "tuple":=oF ();have it:ZL "list_iterator"≠.type "tuple":=oF ();have iz:ZL "list_iterator"≠.type "zip":=oF ();have lz:ZL "list"≠.type "zip":=oF ();have lt:ZL "list"≠.type "tuple":=oF ();have li:ZL "list"≠.type "list_iterator":=oF ()
 show #[di _R hz zt.26,di _U hz zt.26,di g1 hz (by rw[c1];show iz),di g2 hz (by rw[c2];show iz),hT,di _R g1 (by rw[c1];show it.26),di _R g2 (by rw[c2];show it.26),di _U g1 (by rw[c1];show it.26),di _U g2 (by rw[c2];show it.26),hi,
  di q1 hz (by rw[d1];show lz),di q1 _U (by rw[d1];show lt),di q1 g1 (by rw[d1,c1];show li),di q1 g2 (by rw[d1,c2];show li),di q2 hz (by rw[d2];show lz),di q2 _U (by rw[d2];show lt),di q2 g1 (by rw[d2,c1];show li),di q2 g2 (by rw[d2,c2];show li)]
section
variable {X:Cx} {_a:List (Addr×Obj)} {σ:St}
theorem mD.heap (f:mD X _a H b) (e:H' b=none):mD X _a H' b:=#[e,f.2]
structure HV where
 z:Addr
 TI:Addr
 TO:Addr
 i1:Addr
 i2:Addr
 S:Addr
 base:Nat
def HV.all (a:HV):List Addr:=[a.z,a.TI,a.TO,a.i1,a.i2,a.S]
structure HV.Ok (a:HV):Prop where
 tt:a.TI≠a.TO
 ii:a.i1≠a.i2
 Sz:a.S≠a.z
 STI:a.S≠a.TI
 STO:a.S≠a.TO
 Si1:a.S≠a.i1
 Si2:a.S≠a.i2
 lt:∀b∈a.all,@LT.lt Nat instLTNat b a.41
structure TZ (X:Cx) (_a:List (Addr×Obj)) (σ:St) (H1:Hp) (a:HV) (l1 l2:Addr) (i:Nat) (H:Hp) (s:Y5):Prop where
 inv:Inv X _a σ H s
 same:aG H1 H
 fps:∀b∈a.all,mD X _a H b
 sz:a.41<=s.heap.objs.28
 zst:Zst s.22 a.z a.TI a.TO a.41
 pt:IsPair s.22 a.TI (.ref a.i1) (.ref a.i2)
 j1:s.heap.18 a.i1 l1 i
 j2:s.heap.18 a.i2 l2 i
variable {a:HV} {l1 l2:Addr} {H1 H:Hp} {s:Y5} {i:Nat} {xs ys:List V}
theorem TZ.push (L:TZ X _a σ H1 a l1 l2 i H s) (O:a.Ok) (k:∀b o,b≠a.S->s.heap.11 b=some o->h'.11 b=some o) (hz:h'.objs.7=s.6):TZ X _a σ H1 a l1 l2 i H { s with heap:=h' }:=by
 refine #[L.inv.moved (g':=s.gens) (d':=s.drawn) (t':=s.27) (ch:=[a.S]) (λb hb=>?_) (λb o hb e=>k b o (λz=>hb (by simp [z])) e) L.inv.50,L.10,L.fps,by change a.41<=h'.objs.7;rw[hz];show L.sz,?_,k _ _ O.STI.26 L.pt,L.j1.at λo e=>k _ o O.Si1.26 e,L.j2.at λo e=>k _ o O.Si2.26 e]
 ·have e:b=a.S:=by simpa using hb
  rw[e];show L.fps _ (by simp [HV.all])
 ·obtain ⟨c,d,z0⟩|z4:=L.zst;refine #[#[c,d,k _ _ O.STO.26 z0],?_];rcases z4 with z1 | ⟨T,b1,o,z1,z2,z3⟩
  ·show .inl (k _ _ O.Sz.26 z1)
  ·refine .inr #[T,b1,o,k _ _ O.Sz.26 z1,k _ _ (λe=>?_) z2,z3];have:=O.lt a.S (by simp [HV.all]);rw[<- e] at this;show absurd this (Nat.not_lt.mpr z3)
theorem OI (O:a.Ok) (q1:bA X.K H1 l1 xs) (q2:bA X.K H1 l2 ys) (ex:xs[i]?=some x) (ey:ys[i]?=some y) (L:TZ X _a σ H1 a l1 l2 i H s)
  (hQ:∀s',TZ X _a σ H1 a l1 l2 (i+1) (upd H s.heap.objs.28 (.tup [x,y])) s'->(∀c o,c∉[a.z,a.TO,a.i1,a.i2]->s.heap.11 c=some o->s'.heap.11 c=some o)->H s.6=none->Q (some (.ref s.6)) s'):Zd (model X.23 X.w) A' (pyNext (.ref a.z)) Q E s:=by
 obtain I|sm|fps|sz|zst|pt|j1|j2:=id L;obtain us|ru|pu|_:=I.32 (sm.seq q1);obtain ws|rw'|pw|_:=I.32 (sm.seq q2);obtain u|eu|r1:=ru.get ex;obtain v|ev|r2:=rw'.get ey;have fx:∀b∈[a.z,a.TO,a.i1,a.i2],mD X _a H b:=λb hb=>fps b (by simp only[HV.all,ax,aI,or_false] at hb ⊢;rcases hb with e | e | e | e <;> simp [e])
 have hT0:H s.6=none:=I._u.36 (ah _);have fT:mD X _a H s.6:=I.T! (ah _) hT0;have lt:∀b∈a.all,b≠s.6:=λb hb e=>by have:=O.lt b hb;rw[e] at this;show absurd this (Nat.not_lt.mpr sz)
 have fin:∀h',(∀c o,c∉[a.z,a.TO,a.i1,a.i2]->s.heap.11 c=some o->h'.11 c=some o)->IsPair h' s.heap.objs.28 u v->IsPair h' a.TI (.ref a.i1) (.ref a.i2)->h'.18 a.i1 l1 (i+1)->h'.18 a.i2 l2 (i+1)->Zst h' a.z a.TI a.TO a.41 →
   Q (some (.ref s.6)) { s with heap:=h' }:=λh' up pr pt' j1' j2' ahq=>by
  have I2:Inv X _a σ H { s with heap:=h' }:=I.moved (g':=s.gens) (d':=s.drawn) (t':=s.27) fx up I.50;have I3:Inv X _a σ (upd H s.heap.objs.28 (.tup [x,y])) { s with heap:=h' }:=I2.abB fT ⟨ki rfl,[u,v],.cons r1 (.cons r2 .nil),⟨_,pr,rfl,_,rfl⟩⟩;refine hQ _ #[I3,sm.3 (aG.new hT0),λb hb=>(fps b hb).22 (by rw[aR (lt b hb)];show (fps b hb).1),?_,ahq,pt',j1',j2'] up hT0;show ag sz (dm (Y7 pr))
 obtain ⟨c,d,z0⟩|z4:=zst;rcases z4 with z1 | ⟨T,b1,o,z1,z2,z3⟩
 ·have D:=Fe z1 pt z0 j1 j2 pu.20 pw.20 O.tt O.ii;refine wpAny_pyNext_zip_item D z1 pt z0 j1 j2 pu.20 pw.20 (x:=u) (y:=v) (by simpa using eu) (by simpa using ev) λh' a1 a2 a3 a4 a5 a6 hk=>?_
  have up:∀c o,c∉[a.z,a.TO,a.i1,a.i2]->s.heap.11 c=some o->h'.11 c=some o:=λc o hc e=>by
   simp only[ax,aI,or_false,not_or] at hc;show hk c o hc.1 hc.2.1 hc.2.2.1 hc.2.2.2 e
  show fin h' up a5 (hk _ _ D.TIz D.TITO D.TIi1 D.TIi2 pt) a3 a4 #[#[_,_,a2],.inr #[s.6,false,_,a1,a5,sz]]
 ·have D:=Fe z1 pt z0 j1 j2 pu.20 pw.20 O.tt O.ii;refine NR D z1 z2 pt j1 j2 pu.20 pw.20 (u:=u) (v:=v) (by simpa using eu) (by simpa using ev) λh' a1 a3 a4 a5 hk=>?_
  have up:∀c o,c∉[a.z,a.TO,a.i1,a.i2]->s.heap.11 c=some o->h'.11 c=some o:=λc o hc e=>by
   simp only[ax,aI,or_false,not_or] at hc;show hk c o hc.1 hc.2.2.1 hc.2.2.2 e
  have Tn:∀b∈a.all,T≠b:=λb hb e=>by have:=O.lt b hb;rw[<- e] at this;show absurd this (Nat.not_lt.mpr z3)
  show fin h' up a5 (hk _ _ D.TIz D.TIi1 D.TIi2 pt) a3 a4 #[#[_,_,hk _ _ D.TOz D.TOi1 D.TOi2 z0],.inr #[T,true,o,a1,hk _ _ (Tn _ (by simp [HV.all])) (Tn _ (by simp [HV.all])) (Tn _ (by simp [HV.all])) z2,z3]]
theorem OH (hh:A'.handled=none) (O:a.Ok) (q1:bA X.K H1 l1 xs) (q2:bA X.K H1 l2 ys) (hi:xs.9<=i) (L:TZ X _a σ H1 a l1 l2 i H s)
  (hQ:∀s',Inv X _a σ H s'->(∀c o,c∉[a.z,a.TO,a.i1,a.i2]->s.heap.11 c=some o->s'.heap.11 c=some o)->Q none s'):Zd (model X.23 X.w) A' (pyNext (.ref a.z)) Q E s:=by
 obtain I|sm|fps|sz|zst|pt|j1|j2:=id L;obtain us|ru|pu|_:=I.32 (sm.seq q1);obtain ws|rw'|pw|_:=I.32 (sm.seq q2);have lx:=ru.9;have acN:us.5[i]?=none:=by simp;lia
 have fx:∀b∈[a.z,a.TO,a.i1,a.i2],mD X _a H b:=λb hb=>fps b (by simp only[HV.all,ax,aI,or_false] at hb ⊢;rcases hb with e | e | e | e <;> simp [e])
 have fin:∀h',(∀c o,c∉[a.z,a.TO,a.i1,a.i2]->s.heap.11 c=some o->h'.11 c=some o)->Q none { s with heap:=h' }:=λh' up=>hQ _ (I.moved (g':=s.gens) (d':=s.drawn) (t':=s.27) fx up I.50) up
 obtain ⟨c,d,z0⟩|z4:=zst;rcases z4 with z1 | ⟨T,b1,o,z1,z2,z3⟩
 ·have D:=Fe z1 pt z0 j1 j2 pu.20 pw.20 O.tt O.ii;refine wpAny_pyNext_zip_end hh D z1 pt z0 j1 j2 pu.20 pw.20 (.inl acN) λh' hk=>fin h' λc o hc e=>?_
  simp only[ax,aI,or_false,not_or] at hc;show hk c o hc.1 hc.2.1 hc.2.2.1 hc.2.2.2 e
 ·have D:=Fe z1 pt z0 j1 j2 pu.20 pw.20 O.tt O.ii;refine NQ hh D z1 z2 pt j1 pu.20 acN λh' hk=>fin h' λc o hc e=>?_
  simp only[ax,aI,or_false,not_or] at hc;show hk c o hc.1 hc.2.2.1 hc.2.2.2 e
theorem OM (hh:A'.handled=none) (O:a.Ok) (hz:xs.9<=Zh) (hl:ys.9=xs.9) (q1:bA X.K H1 l1 xs) (q2:bA X.K H1 l2 ys)
  (fin:∀s' H' ts acc c,Inv X _a σ H' s'->aG H1 H'->mD X _a H' a.S->s'.heap.11 a.S=some (lobj acc c)->cU ts acc->Y9 (UL H') (xs.zip ys) ts->R (.ok (.ret .none)) s') :
  ∀(k i:Nat) (s:Y5) (H:Hp) (ts:List V) (acc:List Value) (c:Nat),xs.9 - i=k->i<=xs.9->TZ X _a σ H1 a l1 l2 i H s->s.heap.11 a.S=some (lobj acc c)->cU ts acc->Y9 (UL H) ((xs.zip ys).21 i) ts →
   aab (model X.23 X.w) A' (.builtin "list.extend.loop" #[[.ref a.S,.ref a.z,.none],[]]) R s:=by
 have Sn:a.S∉[a.z,a.TO,a.i1,a.i2]:=λh=>by
  simp only[ax,aI,or_false] at h;rcases h with e | e | e | e
  ·show O.Sz e
  ·show O.STO e
  ·show O.Si1 e
  ·show O.Si2 e
 intro k
 induction k with
 | zero =>
  intro i s H ts acc c hk hi L gS rv prs;have e:i=xs.9:=()
  refine codeAny_builtin WM ?_;rw[ZK.under_plainId nZ _]
  change Zd _ A'.in1 (pyNext (Za a.z) >>= _) _ _ s
  refine K0 (OH hh O q1 q2 () L λs' I' up=>Y6 (fin s' H ts acc c I' L.10 (L.fps _ (by simp [HV.all])) (up _ _ Sn gS) rv ?_));rwa [aF (by rw[uH];lia)] at prs
 | succ k ih =>
  intro i s H ts acc c hk hi L gS rv prs;have _J:i < xs.9:=()
  have lt:=prs.9;have la:=rv.9;refine codeAny_builtin WM ?_;rw[ZK.under_plainId nZ _]
  change Zd _ A'.in1 (pyNext (Za a.z) >>= _) _ _ s
  refine K0 (OI O q1 q2 (x:=xs[i]) (y:=ys[i]'()) (by simp [_J]) (by simp) L λs' L' up hT=>?_);have gS':=up _ _ Sn gS
  change Zd _ A'.in1 (updateSeq a.S (·.push (Za s.6)) >>= _) _ _ s'
  have small:acc.9<=Zh:=by
   rw[br,uH] at lt
   lia
  refine K0 (wpAny_updateSeq gS' rfl (Y6 #[plainId_quiet nZ _,?_]) (by rw[bc];show small) (by
   change (acc.toArray.25 (Za s.6)).7<=Zh+1
   rw[Array.size_push,bc]
   lia))
  have gS2:=nN gS' (λb=>b.25 (Za s.6));have e2:(acc.toArray.25 (Za s.6))=(acc++[Za s.6]).5:=by simp
  rw[e2] at gS2;refine ih (i+1) _ (upd H s.heap.objs.28 (.tup [xs[i],ys[i]'()])) (ts++[.ref s.6]) (acc++[.ref s.6]) _ () _J (L'.25 O (λb o hb e=>(Zm _ _ (Zo hb)).3 e) (Heap.size_update ..)) gS2 (rv.append (show cU [V.ref s.6] [Za s.6] from .cons rfl .nil)) ?_;have zp:(xs.zip ys)[i]?=some (xs[i],ys[i]'()):=by simp [WO,_J]
  rw[take_snoc zp];show (ce (λ_ _ z=>z.10 (aG.new hT)) prs).snoc #[_,rfl,aD]
theorem Ky:typeLookup (.type "zip") "__len__"=pure ZW:=by rw[typeLookup_type,builtinLookup_eq_fast];kernel_rfl
theorem Ib:typeLookup (.type "zip") "__length_hint__"=pure ZW:=by rw[typeLookup_type,builtinLookup_eq_fast];kernel_rfl
theorem OJ (hh:A'.handled=none) (O:a.Ok) (hz:xs.9<=Zh) (hl:ys.9=xs.9) (q1:bA X.K H1 l1 xs) (q2:bA X.K H1 l2 ys) (L:TZ X _a σ H1 a l1 l2 0 H s) (gS:s.heap.11 a.S=some (lobj [] 0)) (z0:IsZip s.22 a.z a.TI a.TO .none)
  (fin:∀s' H' ts acc c,Inv X _a σ H' s'->aG H1 H'->mD X _a H' a.S->s'.heap.11 a.S=some (lobj acc c)->cU ts acc->Y9 (UL H') (xs.zip ys) ts->R (.ok (.ret .none)) s') :
  Zd (model X.23 X.w) A'.in1 (ZA.«list.__init__» #[[.ref a.S,.ref a.z],[]]) (λfl s'=>match fl with | .done f=>R (.ok f) s' | .again c'=>c'.quiet=true/\aab (model X.23 X.w) A' c' R s') (λe s'=>R (.error e) s') s:=by
 change Zd _ A'.in1 (do let old <- ZA.List.listItems (Za a.S);ZA.List.listUpdate (Za a.S) (λ_=>[].14);letGo old.toList.reverse;ZA.List.listExtendWith (Za a.S) (Za a.z) ZP) _ _ s
 refine K0 ?_;unfold ZA.List.listItems;refine K0 (ZS gS rfl (Y6 ?_))
 change Zd _ A'.in1 (updateSeq a.S (λ_=>[].14) >>= λ_=>letGo ([].14:Array Value).toList.reverse >>= λ_=>ZA.List.listExtendWith (Za a.S) (Za a.z) ZP) _ _ s
 refine K0 (wpAny_updateSeq gS rfl ?_);have g1:=nN gS (λ_=>([].14:Array Value));obtain ⟨n1,g1⟩:∃n1,(s.heap.42 a.S (Zu λ_=>([].14:Array Value))).11 a.S=some (lobj [] n1):=#[_,g1];have L1:=L.25 (h':=s.heap.42 a.S (Zu λ_=>([].14:Array Value))) O (λb o hb e=>(Zm _ _ (Zo hb)).3 e) (Heap.size_update ..);have z1:IsZip (s.heap.42 a.S (Zu λ_=>([].14:Array Value))) a.z a.TI a.TO .none:=(Zm _ _ O.Sz).3 z0;refine K0 (wpAny_letGo ?_);unfold ZA.List.listExtendWith;have ty:Y5.TypeIs { s with heap:=s.heap.42 a.S (Zu λ_=>([].14:Array Value)) } (.ref a.z) "zip":=#[_,z1,rfl];refine K0 (wpAny_typeOf ty ?_);have h1:ZA.List.listSameRef (.ref a.S) (.ref a.z)=false:=by simp [ZA.List.listSameRef,O.Sz]
 have h2:(ZL "zip" == ZL "list")=false:=()
 have h3:(ZL "zip" == ZL "tuple")=false:=()
 simp only[h1,h2,h3,Bool.or_false,kI,if_false];refine K0 (aae z1 (K0 (ZR ?_)));unfold ZA.List.listLengthHint;refine K0 (wpAny_specialOf ty Ky ?_)
 change Zd _ A'.in1 (specialOf (Za a.z) (Str.ofString "__length_hint__") >>= _) _ _ _
 refine K0 (wpAny_specialOf ty Ib (Y6 ?_))
 change Zd _ A'.in1 (rule "list.extend.makes-room" >>= λ_=>ZA.List.listTouch (Za a.S) >>= λ_=>again (.builtin "list.extend.loop" #[[Za a.S,Za a.z,ZP],[]])) _ _ _
 refine K0 (wpAny_rule (K0 ?_))
 change Zd _ A'.in1 (updateSeq a.S (·.push ZP) >>= λ_=>updateSeq a.S (·.pop)) _ _ _
 refine K0 (wpAny_updateSeq g1 rfl ?_);have g2:=nN g1 (λb=>b.25 ZP);obtain ⟨n2,g2⟩:∃n2,((s.heap.42 a.S (Zu λ_=>([].14:Array Value))).42 a.S (Zu λb=>b.25 ZP)).11 a.S=some (lobj [ZP] n2):=#[_,g2];have L2:=L1.25 (h':=(s.heap.42 a.S (Zu λ_=>([].14:Array Value))).42 a.S (Zu λb=>b.25 ZP)) O (λb o hb e=>(Zm _ _ (Zo hb)).3 e) (Heap.size_update ..);refine wpAny_updateSeq g2 rfl ?_ (ki rfl);have g3:=nN g2 (λb=>b.pop);have L3:=L2.push (h':=((s.heap.42 a.S (Zu λ_=>([].14:Array Value))).42 a.S (Zu λb=>b.25 ZP)).42 a.S (Zu λb=>b.pop)) O (λb o hb e=>(Zm _ _ (Zo hb)).3 e) (Heap.size_update ..);show Y6 #[plainId_quiet nZ _,OM hh O hz hl q1 q2 fin _ 0 _ H [] [] _ rfl (aW _) L3 g3 .nil .nil]
end
section
variable {X:Cx}
theorem UR (n:Nat):HV.Ok #[n+4,n+2,n+3,n,n+1,n+5,n+5+1]:=by
 have ne:∀p q:Nat,p≠q->@Ne Addr p q:=λ_ _ h=>h
 refine #[ne (n+2) (n+3) (),ne n (n+1) (),ne (n+5) (n+4) (),ne (n+5) (n+2) (),ne (n+5) (n+3) (),ne (n+5) n (),ne (n+5) (n+1) (),λb hb=>?_];have hb':b∈[n+4,n+2,n+3,n,n+1,n+5]:=hb;change @LT.lt Nat instLTNat b (n+5+1)
 simp only[ax,aI,or_false] at hb';rcases hb' with e | e | e | e | e | e <;> (rw[e];show bF (fR _) ())
def Ih (K:_g) (ta:TA):TE:=λσ H Q=>ta σ H λvs H1=>∃(l1 l2:Addr) (xs ys:List V),vs=[.ref l1,.ref l2]/\bA K H1 l1 xs/\bA K H1 l2 ys/\ys.9=xs.9 /\
 ∀L ts H',aG H1 H'->H1 L=none->H' L=some (.lst ts)->Y9 (UL H') (xs.zip ys) ts->Q (.ref L) H'
theorem Cc {e1 e2:Expr} {ta:TA} {p p2 pos abE:Pos} (hg:Gl X "list") (hm:X.mg "list"=none) (hg2:Gl X "zip") (hm2:X.mg "zip"=none) (ha:PA X [e1,e2] ta) (hc:X.calm=true:=by rfl)
  (hs:Y8 [e1,e2] X.16=[(false,eval e1 X.16),(false,eval e2 X.16)]:=by rfl) (hs2:Y8 [e2] X.16=[(false,eval e2 X.16)]:=by rfl)
  (hs3:Y8 [Expr.Call (.Name "zip" p2) [e1,e2] [] abE] X.16=[(false,eval (.Call (.Name "zip" p2) [e1,e2] [] abE) X.16)]:=by rfl) :
  PE X (.Call (.Name "list" p) [.Call (.Name "zip" p2) [e1,e2] [] abE] [] pos) (Ih X.K ta):=by
 intro _a s σ H Q I h;refine Zz (m5 I hg hm boot_list ?_);refine Zk ?_ (by rw[hs3];rfl) rfl;rw[hs3];change Zd _ _ (spliced ((false,eval (.Call (.Name "zip" p2) [e1,e2] [] abE) X.16) :: [])) _ _ s
 refine Calls.spliced_cons ?_;refine Call_ (m5 I hg2 hm2 boot_zip (Zk (ik (ha abE _a s σ H _ I h) λus s1 hz=>?_) (by rw[hs,hs2]) (by rw[hs2];rfl)));obtain vs|H1|I1|r1|q1:=hz;obtain l1|l2|xs|ys|e|qx|qy|hl|q:=q1;subst e;obtain u|v|rfl|ru|rv:=vals2 r1;cases ru;cases rv;obtain us|rx|px|hz:=I1.32 qx;obtain ws|ry|py|_:=I1.32 qy;refine call_zip_2 px.20 py.20 λh' a1 a2 a3 a4 a5 a6 hk=>?_
 refine Calls.spliced_nil ?_;have I2:Inv X _a σ H1 { s1 with heap:=h' }:=I1.59 (t':=s1.27) hk;have up:∀b o,h'.11 b=some o->(h'.25 { cls:=.type "list",data:=.seq [].14 }).11 b=some o:=λb o e=>Y4 _ e
 have O:HV.Ok #[s1.6+4,s1.6+2,s1.6+3,s1.6,s1.6+1,h'.objs.7,h'.objs.7+1]:=by
  rw[a6];show UR s1.heap.objs.28
 have old:∀b∈(HV.mk (s1.6+4) (s1.6+2) (s1.6+3) s1.heap.objs.28 (s1.6+1) h'.objs.28 (h'.objs.7+1)).all,s1.6<=b:=λb hb=>by
  rw[a6] at hb;simp only[HV.all,ax,aI,or_false] at hb;rcases hb with rfl | rfl | rfl | rfl | rfl | rfl <;> first | show rZ _ _ | show ah _
 have gS:(h'.25 { cls:=.type "list",data:=.seq [].14 }).11 h'.objs.7=some (lobj [] 0):=Zc _ rfl;refine callType_codes (Q₁:=λob t=>ob=.ref h'.objs.7/\t={ s1 with heap:=h'.25 { cls:=.type "list",data:=.seq [].14 } }) PySem.F.called_list (PySem.F.typeCall_list_1 _) PySem.F.entry_list_init (code_list_new _ ⟨rfl,rfl⟩) λob t ht=>?_
 obtain rfl|rfl:=ht;refine #[#[_,gS,rfl],PySem.F.args_list_init_2 _ _,?_]
 have L:TZ X _a σ H1 #[s1.6+4,s1.6+2,s1.6+3,s1.6,s1.6+1,h'.objs.7,h'.objs.7+1] l1 l2 0 H1 { s1 with heap:=h'.25 { cls:=.type "list",data:=.seq [].14 } } :=
  #[I2.59 (t':=s1.27) up,aG.refl _,λb hb=>I1.T! (old b hb) (I1._u.36 (old b hb)),by rw[Zy];show ah _,#[#[_,_,up _ _ a3],.inl (up _ _ a1)],up _ _ a2,a4.at λo e=>up _ o e,a5.at λo e=>up _ o e]
 refine OJ (A':=X.A.in1) (I.ok.hd hc) O hz hl qx qy L gS (up _ _ a1) λs' H' ts acc c I' sm fS gS' vs' prs=>#[rfl,?_]
 have nS:H1 h'.objs.7=none:=I1._u.36 (old _ (by simp [HV.all]));have lt:=prs.9;rw[uH] at lt;show #[.ref h'.objs.7,_,I'.abB (o:=.lst ts) fS #[(),acc,c,vs',gS'],rfl,q _ ts _ (sm.3 (aG.new fS.1)) nS aD (ce (λ_ _ z=>z.10 (aG.new fS.1)) prs)]
end
end L2
namespace Nm
def zI:List Int->Int->Int
 | [],m=>m
 | b :: r,m=>zI r (m*(b / g m b))
theorem yv (hm:0 < m) (hb:0 < b):0 < m*(b / g m b):=gJ hm (Gk (t:=m) hb)
theorem Gh:b∣m*(b / g m b):=by
 have h1:=CI m b;refine #[lo m b,?_];have h2:b / g m b*g m b=b:=zK m b
 calc m*(b / g m b)=lo m b*g m b*(b / g m b):=by rw[h1]
  _=lo m b*(b / g m b*g m b):=by rw[d6,iw (g m b)]
  _=b*lo m b:=by rw[h2,iw]
theorem CK:∀{bs:List Int} {m:Int},0 < m->(∀b∈bs,0 < b)->0 < zI bs m
 | [],_,hm,_=>hm
 | b :: r,m,hm,h=>CK (bs:=r) (yv hm (h b cT)) λc hc=>h c (bP _ hc)
theorem Jl:∀{bs:List Int} {m:Int},m∣zI bs m
 | [],_=>Bc _
 | b :: r,m=>Int.dvd_trans (Int.dvd_mul_right m _) (Jl (bs:=r))
theorem Jk:∀{bs:List Int} {m b:Int},b∈bs->b∣zI bs m
 | c :: r,m,b,h=>by
  rcases ax.mp h with rfl | h
  ·show Int.dvd_trans Gh (Jl (bs:=r))
  ·show Jk (bs:=r) h
end Nm
namespace L2
open PySem PySem.Spec PyProof.Rows Nm
def LU (K:_g) (H:Hp) (p:Addr) (ns:List (Int×Int)):Prop:=∃xs,H p=some (.lst xs)/\Y9 (λn x=>Ki K H x n) ns xs
theorem LU.same {K:_g} (h:LU K H p ns) (e:aG H H'):LU K H' p ns:=by obtain xs|g|q:=h;show #[xs,e _ _ g,ce (λ_ _ z=>e.num z) q]
def IU (K:_g) (T:String):V->Hp->VK->Prop:=λx H Q=>NH K T x H Q\/∃a xs b,x=.ref a/\ue K H a xs/\PySem.W.kitOne K (.type "tuple") (.type T)=some b/\Q (.bl b) H
theorem EI:∀{bs:List Int} {m b:Int},zI (bs++[b]) m=zI bs m*(b / g (zI bs m) b)
 | [],_,_=>rfl
 | c :: r,m,b=>EI (bs:=r)
def dS (ns:List (Int×Int)) (B:Int):List Int:=ns.12 λn=>n.1*(B / n.2)
def fJ (ns:List (Int×Int)):Int:=zI (ns.12 (·.2)) 1
def Lr (ns ms:List (Int×Int)):Int:=(Wv (λx y=>x*y) (dS ns (fJ ns)) (dS ms (fJ ms))).sum
theorem rR (h:n∈ns):n.2∣fJ ns:=Jk (au.mpr #[n,h,rfl])
theorem KY {K:_g} (h:ta σ H λvs H1=>∃(l1 l2:Addr) (xs ys:List V),vs=[.ref l1,.ref l2]/\bA K H1 l1 xs/\bA K H1 l2 ys/\ys.9=xs.9 /\
 ∀L ts H',aG H1 H'->H1 L=none->H' L=some (.lst ts)->Y9 (UL H') (xs.zip ys) ts->Q (.ref L) H'):Ih K ta σ H Q:=h
theorem YQ (hb:0 < b) (h:Sz k b):Sz k (g m b):=h.le (by
 have h1:(g m b).17=ZN m b:=by unfold g;simp
 rw[h1];show jC () (by have:=ia (a:=m) (b:=b);show fP.mpr this |> λz=>by simpa using z))
theorem L7 {ts us:List Int} {i:Nat} (h:((ts.12 V.int).zip (us.12 V.int))[i]?=some pq):∃t u,ts[i]?=some t/\us[i]?=some u/\pq=(.int t,.int u):=by
 rw[WO,az,az] at h;obtain h1|h2:=h;cases e1:ts[i]? with
 | none=>rw[e1] at h1;cases h1
 | some t =>
  cases e2:us[i]? with
  | none=>rw[e2] at h2;cases h2
  | some u =>
   rw[e1] at h1;rw[e2] at h2;refine #[t,u,rfl,rfl,?_];cases pq;simp at h1 h2;rw[h1,h2]
def Nz (K:_g):Sp:=λvs H Q _=>∃x n,vs=[x]/\Ki K H x n/\C9 n/\∀H',aG H H'->Q (.bl true) H'
inductive yW (K:_g) (vs:List V) (H:Hp) (Q:VK) (E9:XK):Prop
 | mk (p:Addr) (ns:List (Int×Int)):vs=[.ref p,.int ns.9]->LU K H p ns->ns.9<=1000->(∀n∈ns,C9 n)->(∀H',aG H H'->Q (.bl true) H')->yW K vs H Q E9
theorem AS {X:Cx} {a:Expr} {ta:TE} {pos:Pos} {c:Str} {T:String} {p p2:Pos} (hg:Gl X "isinstance") (hm:X.mg "isinstance"=none) (hb:Z8 c=some (.type T)) (hmc:X.mg c=none) (ha:PE X a ta) (hgc:Gl X c:=by rfl) (hn:c≠"__name__":=by decide)
  (hd:(c == ("__debug__":Str))=false:=by decide) (he:Y8 [a,.Name c p2] X.16=[(false,eval a X.16),(false,eval (.Name c p2) X.16)]:=by rfl)
  (hpl:(aag pos (Y8 [.Name c p2] X.16)).any (·.1)=false:=by rfl) (he2:Y8 [.Name c p2] X.16=[(false,eval (.Name c p2) X.16)]:=by rfl):PE X (.Call (.Name "isinstance" p) [a,.Name c p2] [] pos) (Yw (IU X.K T) ta):=by
 intro _a s σ H Q I h;refine Zz (m5 I hg hm PyProof.Rows.boot_isinstance ?_);have hA:PA X [a,.Name c p2] (kh ta (kh (tC (.ty T)) Be)):=gC ha (gC (My hgc hmc hb rfl hn hd) lJ he2) (by rw[he,he2])
 have hq:kh ta (kh (tC (.ty T)) Be) σ H (λvs H1=>∃x,vs=[x,.ty T]/\IU X.K T x H1 Q):=by
  change ta σ H λx H1=>∃x',[x,V.ty T]=[x',V.ty T]/\IU X.K T x' H1 Q
  have e:(λx H1=>∃x',[x,V.ty T]=[x',V.ty T]/\IU X.K T x' H1 Q)=λx H1=>IU X.K T x H1 Q:=by
   funext x H1;apply propext;constructor
   ·rintro ⟨x',e,q⟩;cases e;show q
   ·intro q;show #[x,rfl,q]
  rw[e];show h
 refine Z4 (ik (hA pos _a s σ H _ I hq) λus s1 hz=>?_) (by rw[he,he2]) hpl;obtain vs|H1|I1|r1|x|e|q1:=hz;subst e;obtain u|w'|rfl|ru|rt:=vals2 r1;cases rt;rcases q1 with ⟨t,bb,ty,ek,q⟩ | ⟨ad,xs,bb,rfl,hs,ek,q⟩
 ·show EK I1 ru ty ek λtk=>#[.bl bb,H1,I1.tok tk,rfl,q]
 ·cases ru;obtain _n|_|⟨o,g1,g2,_⟩|_:=I1.58 hs;show dH PySem.W.kitx_tuple I1._X #[o,g1,g2] ek (λz=>nomatch z) λtk=>#[.bl bb,H1,I1.tok tk,rfl,q]
theorem Pj (h:H l=some (.lst [x])) (hk:k<=1000) (q:∀p H',aG H H'->H p=none->H' p=some (.lst (Wb k x))->Q (.ref p) H'):XC (.ref l) (.int k) H Q :=
 #[l,k,[x],rfl,rfl,h,(),(),dm (dn (by simp;lia)),λp hp=>q p _ (aG.new hp) hp (by rw[aD];simp)]
theorem Wq {k:Nat} (h:k<=xs.9):rO xs none (some (k:Int))=xs.21 k:=by
 unfold rO;rw[HT.vv,HT.FL,Nat.min_eq_left h];simp
theorem JO {k:Nat}:rO xs (some (k:Int)) none=xs.37 k:=by
 unfold rO;rw[HT.vv,HT.FL];by_cases h:k<=xs.9
 ·rw[Nat.min_eq_left h,aF (by simp)]
 ·rw[Nat.min_eq_right (),A8 (),A8 ()];simp
theorem xy {α β:Type} {F:α->β->Prop} {x:α} {y:β} (h:F x y):∀m:Nat,Y9 F (Wb m x) (Wb m y)
 | 0=>.nil
 | m+1=>.cons h (xy h m)
theorem eN (h:a < n):OF n (a:Int)=some a:=by
 unfold OF;rw[if_pos (),if_pos (),Int.toNat_natCast]
theorem JN {k:Nat}:rO xs none (some (k:Int))=xs.21 k:=by
 by_cases h:k<=xs.9
 ·show Wq h
 ·unfold rO;rw[HT.vv,HT.FL,Nat.min_eq_right (),aF (by simp),aF ()];rfl
theorem qv {α β:Type} {F:α->β->Prop}:∀{l1:List α} {l2:List β} (_:Y9 F l1 l2) (k:Nat),Y9 F (l1.21 k) (l2.21 k)
 | _,_,.nil,k=>by simp;show .nil
 | _,_,.cons h r,0=>.nil
 | _,_,.cons h r,k+1=>.cons h (qv r k)
def Sq (K:_g):List V->Hp->VK->Prop:=λxs H Q=>∃p ys,xs=[.ref p]/\(bA K H p ys\/ue K H p ys)/\∀l,H l=none->Q (.ref l) (upd H l (.lst ys))
theorem kr (K:_g) (hK:X.K=K):qJ X (.type "list") (Sq K):=by subst hK;show oR
theorem aG.none (s:aG H H') (h:H' l=ZW):H l=ZW:=by
 cases e:H l with
 | none=>rfl
 | some o=>have:=s _ _ e;rw[h] at this;cases this
theorem OZ (h:b.17<=1000000):Sz 20 b:=aP h ()
theorem c6.none (u:c6 b H H') (B:kg H' b) (h:H' l=ZW):H l=ZW:=by
 cases e:H l with
 | none=>rfl
 | some o =>
  by_cases z:l=b
  ·obtain _|_|_|_|_|e2|_:=B;rw[<- z,h] at e2;cases e2
  ·have:=u.1 l o e z;rw[h] at this;cases this
end L2
namespace Nm
def nm (q:Rat):Int×Int:=(q.num,(q.den:Int))
theorem iO (q:Rat):0 < (nm q).2:=by have:=q.den_pos;change 0 < (q.den:Int);lia
theorem Ge (q:Rat):ZN (nm q).1 (nm q).2=1:=q.reduced
theorem VM (h:nm p=nm q):p=q:=by
 have h1:p.num=q.num:=congrArg Prod.fst h;have h2:(p.den:Int)=q.den:=congrArg Prod.snd h;show Rat.ext h1 ()
theorem nk (q:Rat):(q.num:Rat)=q*(q.den:Rat):=by
 have h:=Rat.num_divInt_den q;rw[Rat.divInt_eq_div] at h
 have hd:((q.den:Int):Rat)≠0:=by
  intro z;have z:=Aj.mp z;have:=q.den_pos
  lia
 have e:((q.den:Int):Rat)=(q.den:Rat):=aZ _
 calc (q.num:Rat)=(q.num:Rat) / ((q.den:Int):Rat)*((q.den:Int):Rat):=(Kr hd).26
  _=q*(q.den:Rat):=by rw[h,e]
theorem XO (hb:0 < b) (hg:ZN a b=1) (e:q*(b:Rat)=(a:Rat)):(a,b)=nm q:=by
 have h1:a*(q.den:Int)=q.num*b:=by
  apply dG.mp;rw[aV,aV,<- e,nk,aZ];grind
 obtain e1|e2:=uniq hb (iO q) hg (Ge q) h1;show Prod.ext e1 e2
theorem tV {t b:Int} (hb:0 < b) (e:q*(b:Rat)=(t:Rat)):(lo t b,hi t b)=nm q:=by
 refine XO (Gk hb) (CG ()) ?_;have h:=CH t b;have hb':(b:Rat)≠0:=λz=>by have:=Aj.mp z;lia
 have h2:((lo t b:Int):Rat)*(b:Rat)=(t:Rat)*((hi t b:Int):Rat):=by rw[<- aV,h,aV]
 rw[<- e] at h2;have h3:(q*((hi t b:Int):Rat) - ((lo t b:Int):Rat))*(b:Rat)=0:=by grind
 rcases Rj.mp h3 with h4 | h4
 ·grind
 ·show absurd h4 hb'
def Fr (M V:Nat) (q:Rat):Prop:=∃z:Int,q*(M:Rat)=(z:Rat)/\z.17<=V*M
theorem Fr.mono (h:Fr M V q) (l:V<=V'):Fr M V' q:=by obtain z|e|b:=h;show #[z,e,ag b (ay _ l)]
theorem Fr.scale (h:Fr M V q) (k:Nat):Fr (M*k) V q:=by
 obtain z|e|b:=h;refine #[z*k,?_,?_]
 ·rw[uG,aV,<- e,aZ,Rat.mul_assoc]
 ·rw[fv,cw,<- cJ];show ay _ b
theorem Fr._N (h:Fr M V q) (k:Nat):Fr (k*M) V q:=by rw[bE];show h.scale k
theorem Fr.dvd (h:Fr M V q) (d:M∣N):Fr N V q:=by obtain k|rfl:=d;show h.scale k
theorem Fr.add (h:Fr M V p) (h':Fr M W q):Fr M (V+W) (p+q):=by
 obtain z|e|b:=h;obtain z'|e'|b':=h';refine #[z+z',by rw[Dg,<- e,<- e',Q9],?_];rw[Fd];have:=Int.natAbs_add_le z z'
 lia
theorem Fr.neg (h:Fr M V q):Fr M V (-q):=by
 obtain z|e|b:=h;show #[-z,by rw[dg,<- e,Rat.neg_mul],by rw[mS];show b]
theorem Fr.sub (h:Fr M V p) (h':Fr M W q):Fr M (V+W) (p - q):=by rw[wQ];show h.add h'.neg
theorem Fr.mul (h:Fr M V p) (h':Fr N W q):Fr (M*N) (V*W) (p*q):=by
 obtain z|e|b:=h;obtain z'|e'|b':=h';refine #[z*z',?_,?_]
 ·rw[uG,aV,<- e,<- e'];grind
 ·rw[fv]
  calc z.17*z'.17<=(V*M)*(W*N):=aL b b'
   _=V*W*(M*N):=by rw[cJ,Nat.mul_left_comm M,<- cJ]
theorem Fr.zero:Fr M V 0:=#[0,by simp,by simp]
theorem Fr.int {i:Int} (h:i.17<=V):Fr M V (i:Rat):=#[i*M,by rw[aV,aZ],by rw[fv,cw];show ay _ h]
theorem Fr.one (h:1<=V):Fr M V 1:=Fr.int (i:=1) h
theorem Fr.den (h:Fr M V q):(q.den:Int)∣(M:Int):=by
 obtain z|e|b:=h
 have h1:q.num*(M:Int)=z*(q.den:Int):=by
  apply dG.mp;rw[aV,aV,<- e,nk,aZ,aZ];grind
 have h2:(q.den:Int)∣q.num*(M:Int):=#[z,by rw[h1,iw]];show tX (by rw[nP];show Ge q) h2
theorem Fr.adR (h:Fr M V q) (hM:0 < M):q.den<=M:=jC hM (pX.mp h.den)
theorem Fr.adp (h:Fr M V q) (hM:0 < M):q.num.17<=V*M:=by
 have hd:=h.den;obtain z|e|b:=h;obtain k|hk:=pX.mp hd;have hk0:k≠0:=λz=>by rw[z,Nat.mul_zero] at hk;lia
 have h1:z=q.num*(k:Int):=by
  apply dG.mp;rw[aV,<- e,nk,aZ,hk,uG];grind
 rw[h1] at b;show ag (rn ()) b
theorem Fr.own (q:Rat) (h:q.num.17<=V):Fr q.den V q:=#[q.num,(nk q).26,ag h (eG _ q.den_pos)]
theorem Fr.sz (h:Fr M V q) (hM:0 < M) (h1:M<=2^k) (h2:V<=2^j):Sz (j+k+1) (nm q).1/\Sz (k+1) (nm q).2:=by
 constructor
 ·change q.num.17 < 2^(j+k+1)
  have h3:=h.adp hM;have h4:V*M<=2^j*2^k:=aL h2 h1;rw[c8,bg];have:=Nat.two_pow_pos (j+k);rw[bg] at this
  lia
 ·change (q.den:Int).17 < 2^(k+1)
  have h3:=h.adR hM;rw[cw,c8];have:=Nat.two_pow_pos k
  lia
theorem Fr.sum {M V:Nat}:∀{l:List Rat},(∀x∈l,Fr M V x)->Fr M (l.9*V) l.sum
 | [],_=>by simp;show Fr.zero
 | x :: r,h=>by
  rw[List.sum_cons,bH,ir,iu];show (h x (.head _)).add (Fr.sum λy hy=>h y (.tail _ hy))
def fe (xs ys:List Rat):Rat:=(Wv (λx y=>x*y) xs ys).sum
theorem Fr.dot (h:∀x∈xs,Fr M V x) (h':∀y∈ys,Fr N W y):Fr (M*N) (xs.9*(V*W)) (fe xs ys):=by
 have q:=Fr.sum (M:=M*N) (V:=V*W) (l:=Wv (λx y=>x*y) xs ys) λz hz=>by
  obtain i|hi|e:=bu hz;rw[cP] at e;rw[<- e];show (h _ (aw _)).mul (h' _ (aw _))
 show q.24 (ay _ (by rw[aJ];lia))
theorem AY:∀{bs:List Int} {m M:Int},0 < m->m∣M->(∀b∈bs,0 < b/\b∣M)->zI bs m∣M
 | [],_,_,_,h,_=>h
 | b :: r,m,M,hm,h,hb=>by
  have b1:=hb b cT;refine AY (bs:=r) (yv hm b1.1) ?_ λc hc=>hb c (bP _ hc)
  have gp:0 < g m b:=CO ();have e1:=CI m b;have e2:=zK m b;obtain u|hu:=h;obtain v|hv:=b1.2
  have h3:lo m b*u=hi m b*v:=by
   apply wW (show g m b≠0 by lia)
   calc lo m b*u*g m b=lo m b*g m b*u:=by rw[d6,iw u,<- d6]
    _=m*u:=by rw[e1]
    _=M:=hu.26
    _=b*v:=hv
    _=hi m b*g m b*v:=by rw[e2]
    _=hi m b*v*g m b:=by rw[d6,iw (g m b),<- d6]
  have h4:hi m b∣lo m b*u:=#[v,h3];have h5:hi m b∣u:=tX (by rw[nP];show CG ()) h4;obtain w|hw:=h5;refine #[w,?_];change M=m*hi m b*w
  rw[hu,hw,d6]
theorem Gu (hb:0 < b) (d:a∣b) (h:Sz k b):Sz k a:=h.le (jC () (fP.mpr d))
end Nm
namespace Nm
def Dr (W:Nat) (x:Rat):Prop:=x.num.17<=W/\x.den<=W
def ya:List Nat->Nat
 | []=>1
 | a :: r=>a*ya r
theorem zy:∀{l:List Nat},(∀a∈l,0 < a)->0 < ya l
 | [],_=>Nat.one_pos
 | a :: r,h=>bY (h a (.head _)) (zy λb hb=>h b (.tail _ hb))
theorem zz:∀{l:List Nat} {a:Nat},a∈l->a∣ya l
 | b :: r,a,h=>by
  rcases ax.mp h with rfl | h
  ·show qM ..
  ·show Km (zz h) (j4 ..)
theorem BX {k:Nat}:∀{l:List Nat},(∀a∈l,a<=2^k)->ya l<=2^(k*l.9)
 | [],_=>by simp [ya]
 | a :: r,h=>by
  rw[bH,Nat.mul_succ,bg,bE (2^(k*r.9))];show aL (h a (.head _)) (BX λb hb=>h b (.tail _ hb))
def GF (M V:Nat) (rows:_m):Prop:=∀xs∈rows,∀x∈xs,Fr M V x
def WH (c n i:Nat) (rows:_m):Prop:=∃M,0 < M/\M<=2^(i*(c*n+2))/\GF M (2^(20+2*i)) rows
theorem V9:WH c n 0 []:=#[1,(),by simp,λ_ h=>nomatch h]
theorem Wa (c n i:Nat):(i+1)*(c*n+2)=i*(c*n+2)+(c*n+2):=ir ..
theorem S8 (h:WH c n i rows) (hl:xs.9=n) (hd:∀x∈xs,Dr (2^c) x) (hc:c<=20):WH c n (i+1) (rows++[xs]):=by
 obtain M|h0|h1|h2:=h
 have dp:0 < ya (xs.12 (·.den)):=zy λa ha=>by
  obtain x|_|rfl:=au.mp ha;show x.den_pos
 have dl:ya (xs.12 (·.den))<=2^(c*n):=by
  have:=BX (k:=c) (l:=xs.12 (·.den)) λa ha=>by
   obtain x|hx|rfl:=au.mp ha;show (hd x hx).2
  rwa [af,hl] at this
 refine #[M*ya (xs.12 (·.den)),bY h0 dp,?_,λys hy x hx=>?_]
 ·rw[Wa,bg];show aL h1 (ag dl (ak () ()))
 ·rcases aB.mp hy with hy | hy
  ·show ((h2 ys hy x hx).scale _).24 (ak () ())
  ·have e:ys=xs:=by simpa using hy
   subst e;have f:Fr x.den (2^c) x:=Fr.own x (hd x hx).1;have g:=(f.dvd (zz (au.mpr #[x,hx,rfl])))._N M;show g.mono (ak () ())
def a9 (rows:_m) (w:Nat):_m:=(Zi w).12 λj=>rows.12 λxs=>xs.4 j 0
def jF (one other:_m) (w:Nat):_m:=one.12 λxs=>(a9 other w).12 λys=>fe ys xs
theorem cz:(a9 rows w).9=w:=by simp [a9]
theorem i5:∀ys∈a9 rows w,ys.9=rows.9:=λys hy=>by
 obtain j|_|rfl:=au.mp hy;show af ..
theorem getD_map {α:Type} {l:List α} {f:α->Rat} (h:i < l.9):(l.12 f).4 i 0=f l[i]:=by
 rw[aa,az,ae h];rfl
end Nm
namespace L2
open PySem PySem.Spec PyProof.Rows Nm
theorem c6.sqt {K:_g} (u:c6 b H H') (B:kg H b) (h:ue K H a xs):ue K H' a xs:=by
 rcases h with (h | ⟨o,h⟩) | h
 ·show .inl (.inl (u.tup B h))
 ·show .inl (.inr #[o,u.35 (λz=>by obtain _|_|_|_|_|e|_:=B;rw[z,e] at h;cases h) h])
 ·show .inr h
theorem O2 {K:_g} (h:ue K H a xs) (hl:H l=some (.lst ys)):ue K (upd H l o) a xs:=by
 rcases h with (h | ⟨o,h⟩) | h
 ·show .inl (.inl (by rw[aR λz=>by rw[z,hl] at h;cases h];show h))
 ·show .inl (.inr #[o,by rw[aR λz=>by rw[z,hl] at h;cases h];show h])
 ·show .inr h
def cg (K:_g) (H:Hp) (q:Rat) (x:V):Prop:=Ki K H x (nm q)
section
variable {K:_g} {H H':Hp} {q:Rat} {x:V} {b l p:Addr} {qs:List Rat}
theorem cg.same (h:cg K H q x) (e:aG H H'):cg K H' q x:=e.num h
theorem cg._i (h:cg K H q x) (u:c6 b H H') (B:kg H b):cg K H' q x:=by obtain p|e|s:=h;show #[p,e,u.sqt B s]
theorem cg._A (h:cg K H q x) (hl:H l=some (.lst ys)):cg K (upd H l o) q x:=by obtain p|e|s:=h;show #[p,e,O2 s hl]
theorem cg.mk (h:H r=some (.tup [.int a,.int c])) (e:(a,c)=nm q):cg K H q (.ref r):=#[r,rfl,by rw[<- e];show ue.of h]
def cA (K:_g) (H:Hp) (p:Addr) (qs:List Rat):Prop:=∃xs,H p=some (.lst xs)/\Y9 (cg K H) qs xs
theorem cA.same (h:cA K H p qs) (e:aG H H'):cA K H' p qs:=by obtain xs|g|r:=h;show #[xs,e _ _ g,ce (λ_ _ z=>z.10 e) r]
theorem cA._i (h:cA K H p qs) (u:c6 b H H') (B:kg H b) (n:p≠b):cA K H' p qs:=by obtain xs|g|r:=h;show #[xs,u.35 n g,ce (λ_ _ z=>z._i u B) r]
theorem cA._A (h:cA K H p qs) (hl:H l=some (.lst ys)) (n:p≠l):cA K (upd H l o) p qs:=by obtain xs|g|r:=h;show #[xs,by rw[aR n];show g,ce (λ_ _ z=>z._A hl) r]
theorem IZ {F:α->β->Prop} {f:γ->α}:∀{l:List γ} {l2:List β},Y9 (λc x=>F (f c) x) l l2->Y9 F (l.12 f) l2:=by
 intro l l2 p
 induction p with
 | nil=>show .nil
 | cons r t ih=>show .cons r ih
theorem cA.aaF (h:cA K H p qs):LU K H p (qs.12 nm):=by obtain xs|g|r:=h;show #[xs,g,IZ (F:=λn x=>Ki K H x n) r]
def cO (K:_g) (H0 H:Hp) (qs:List Rat) (x:V):Prop:=∃q,x=V.ref q/\H0 q=none/\cA K H q qs
def bf (K:_g) (H0 H:Hp) (p:Addr) (rows:_m):Prop:=∃xs,H p=some (.lst xs)/\Y9 (cO K H0 H) rows xs/\V.ref p∉xs
theorem iW {rows:_m} (h:∃H2,H2 p=none/\Y9 (cO K H0 H2) rows ys):V.ref p∉ys:=λhm=>by
 obtain H2|e|pr:=h;obtain qs|_|q|z|_|xs|g|_:=ic pr hm;cases z;rw[e] at g;cases g
variable {H0:Hp} {rows:_m}
theorem cO.same (h:cO K H0 H qs x) (e:aG H H'):cO K H0 H' qs x:=by obtain q|a|b|c:=h;show #[q,a,b,c.10 e]
theorem cO._i (h:cO K H0 H qs x) (u:c6 b H H') (B:kg H b) (nb:H0 b≠none):cO K H0 H' qs x:=by obtain q|a|c|d:=h;show #[q,a,c,d._i u B λz=>nb (by rw[<- z];show c)]
theorem cO.weak (h:cO K H0 H qs x) (e:aG H1 H0):cO K H1 H qs x:=by obtain q|a|b|c:=h;show #[q,a,e.19 b,c]
theorem bf.same (h:bf K H0 H p rows) (e:aG H H'):bf K H0 H' p rows:=by obtain xs|g|r|n:=h;show #[xs,e _ _ g,ce (λ_ _ z=>z.10 e) r,n]
theorem bf._i (h:bf K H0 H p rows) (u:c6 b H H') (B:kg H b) (n:p≠b) (nb:H0 b≠none):bf K H0 H' p rows:=by obtain xs|g|r|nn:=h;show #[xs,u.35 n g,ce (λ_ _ z=>z._i u B nb) r,nn]
theorem bf.weak (h:bf K H0 H p rows) (e:aG H1 H0):bf K H1 H p rows:=by obtain xs|g|r|n:=h;show #[xs,g,ce (λ_ _ z=>z.53 e) r,n]
end
def MM:Kind Rat:=XT.via nm (λ_ _ e=>VM e) (λK H x q=>cg K H q x) id
def Jo:Kind (List Rat):=YN MM
theorem cA.kind {K:_g} (h:cA K H p qs):Jo.R K H (.ref p) qs:=by obtain xs|g|q:=h;show #[p,xs,rfl,bA.of g,q]
def jX (x:Rat):Prop:=Sz 4000000 (nm x).1/\Sz 4000000 (nm x).2
def Fits (l:List Rat):Prop:=∃M V:Nat,0 < M/\M<=2^900/\V<=2^900/\∀x∈l,Fr M V x
theorem Fits.szn (h:Fits l) (hx:x∈l):jX x:=by
 obtain M|V|h0|h1|h2|h3:=h;obtain a|b:=(h3 x hx).sz h0 h1 h2;show #[a.24 (),b.24 ()]
theorem Fits.ok (h:Fits l) (hx:x∈l):C9 (nm x):=#[iO x,Ge x,(h.szn hx).1.mono (),(h.szn hx).2.mono ()]
theorem Gn {M V:Nat} (h0:0 < M) (h1:M<=2^1800) (h2:V<=2^1810) (h:Fr M V x):jX x:=by
 obtain a|b:=h.sz h0 h1 h2;show #[a.24 (),b.24 ()]
theorem Fm (h:jX x):C9 (nm x):=#[iO x,Ge x,h.1.24 (),h.2.24 ()]
inductive o6 (K:_g) (f:Rat->Rat->Rat) (vs:List V) (H:Hp) (Q:VK) (E9:XK):Prop
 | mk (u v:V) (x y:Rat):vs=[u,v]->cg K H x u->cg K H y v->jX x->jX y->(∀r H',aG H H'->cg K H' (f x y) (.ref r)->Q (.ref r) H')->o6 K f vs H Q E9
section
variable {K:_g}
theorem K4 (hf:∀x y:Rat,(f x y)*(((nm x).2*(nm y).2:Int):Rat)=((F (nm x).1 (nm x).2 (nm y).1 (nm y).2:Int):Rat)) (h:o6 K f vs H Q E):Mo K F vs H Q E:=by
 obtain u|v|x|y|rfl|⟨p,rfl,hp⟩|⟨q,rfl,hq⟩|⟨s1,s2⟩|⟨s3,s4⟩|k:=h;refine #[p,q,_,_,_,_,rfl,hp,hq,iO x,iO y,s1,s2,s3,s4,λr H' s g=>k r H' s (cg.mk g ?_)];show tV (gJ (iO x) (iO y)) (hf x y)
theorem tL (x:Rat):(((nm x).1:Int):Rat)=x*(((nm x).2:Int):Rat):=by
 change (x.num:Rat)=x*(((x.den:Nat):Int):Rat)
 rw[nk,aZ]
theorem A4 (h:o6 K (λx y=>x+y) vs H Q E):Mo K UE vs H Q E:=K4 (λx y=>by
 unfold UE;rw[Dg,aV,aV,aV,tL,tL];grind) h
theorem AQ (h:o6 K (λx y=>x - y) vs H Q E):Mo K Qx vs H Q E:=K4 (λx y=>by
 unfold Qx;rw[De,aV,aV,aV,tL,tL];grind) h
theorem AV (h:o6 K (λx y=>x*y) vs H Q E):Mo K Qw vs H Q E:=K4 (λx y=>by
 unfold Qw;rw[aV,aV,tL,tL];grind) h
end
def Kh (M:Int) (ns:List (Int×Int)):Prop:=0 < M/\Sz 4400000 M/\∀n∈ns,0 < n.2/\n.2∣M/\Sz 4400000 n.1
theorem Kh.bot (h:Kh M ns):0 < fJ ns/\Sz 4400000 (fJ ns):=by
 have hb:∀b∈ns.12 (·.2),0 < b/\b∣M:=λb hb=>by
  obtain n|hn|rfl:=au.mp hb;show #[(h.2.2 n hn).1,(h.2.2 n hn).2.1]
 show #[CK () λb q=>(hb b q).1,Gu h.1 (AY () (Int.one_dvd _) hb) h.2.1]
inductive O4 (K:_g) (vs:List V) (H:Hp) (Q:VK) (E9:XK):Prop
 | mk (p:Addr) (bs:List Int) (M:Int):vs=[.ref p]->bA K H p (bs.12 V.int)->0 < M->Sz 4400000 M->((∀b∈bs,0 < b/\b∣M))->Q (.int (zI bs 1)) H->O4 K vs H Q E9
inductive O5 (K:_g) (vs:List V) (H:Hp) (Q:VK) (E9:XK):Prop
 | mk (p:Addr) (ns:List (Int×Int)) (M:Int):vs=[.ref p]->LU K H p ns->ns.9<=1000->Kh M ns->(∀H',aG H H'->Q (.int (fJ ns)) H')->O5 K vs H Q E9
inductive Il (K:_g) (vs:List V) (H:Hp) (Q:VK) (E9:XK):Prop
 | mk (p:Addr) (ns:List (Int×Int)) (M:Int) (B:Int):vs=[.ref p,.int B]->LU K H p ns->ns.9<=1000->Kh M ns->0 < B->Sz 4400000 B->(∀r H',H r=none->aG H H'->H' r=some (.lst ((dS ns B).12 V.int))->Q (.ref r) H')->Il K vs H Q E9
theorem xP (h:Kh M ns) (hB:0 < B) (sB:Sz 4400000 B) (ht:t∈dS ns B):Sz 8800000 t:=by
 obtain n|hn|rfl:=au.mp ht;have hp:=h.2.2 n hn
 have sq:Sz 4400000 (B / n.2):=sB.le (by
  rw[WQ ()];show Nat.div_le_self ..)
 show (hp.2.2.mul sq).24 ()
theorem uM (h:(nm x).2∣B):(((nm x).1*(B / (nm x).2):Int):Rat)=x*(B:Rat):=by
 obtain k|rfl:=h;have hp:=iO x;rw[Int.mul_ediv_cancel_left _ (),aV,aV,tL];grind
theorem Jv {B C:Int}:∀{xs ys:List Rat},(∀x∈xs,(nm x).2∣B)->(∀y∈ys,(nm y).2∣C)->(((Wv (λx y=>x*y) (dS (xs.12 nm) B) (dS (ys.12 nm) C)).sum:Int):Rat)=fe xs ys*((B:Rat)*(C:Rat))
 | [],ys,_,_=>by simp [dS,fe]
 | x :: xs,[],_,_=>by simp [dS,fe]
 | x :: xs,y :: ys,h1,h2=>by
  have ih:=Jv (B:=B) (C:=C) (xs:=xs) (ys:=ys) (λz hz=>h1 z (.tail _ hz)) (λz hz=>h2 z (.tail _ hz));have e1:=uM (h1 x (.head _));have e2:=uM (h2 y (.head _));have e3:(Wv (λx y=>x*y) (dS ((x :: xs).12 nm) B) (dS ((y :: ys).12 nm) C)).sum=((nm x).1*(B / (nm x).2))*((nm y).1*(C / (nm y).2))+(Wv (λx y=>x*y) (dS (xs.12 nm) B) (dS (ys.12 nm) C)).sum:=rfl;have e4:fe (x :: xs) (y :: ys)=x*y+fe xs ys:=rfl;rw[e3,e4,Dg,aV,ih,e1,e2];grind
theorem MW (h1:0 < fJ (xs.12 nm)) (h2:0 < fJ (ys.12 nm)):(lo (Lr (xs.12 nm) (ys.12 nm)) (fJ (xs.12 nm)*fJ (ys.12 nm)),hi (Lr (xs.12 nm) (ys.12 nm)) (fJ (xs.12 nm)*fJ (ys.12 nm)))=nm (fe xs ys):=by
 refine tV (gJ h1 h2) ?_;unfold Lr;rw[Jv (λx hx=>rR (au.mpr #[x,hx,rfl])) (λx hx=>rR (au.mpr #[x,hx,rfl])),aV]
inductive Ik (K:_g) (vs:List V) (H:Hp) (Q:VK) (E9:XK):Prop
 | mk (p:Addr) (w:Nat) (H0:Hp) (rows:_m):vs=[.ref p,.int w]->bf K H0 H p rows->rows.9<=1000->w<=1000->(∀xs∈rows,xs.9=w)->(∀r H',H r=none->aG H H'->bf K H H' r (a9 rows w)->Q (.ref r) H')->Ik K vs H Q E9
def nQ (m:Nat) (a:Int):List Rat:=(Zi m).12 λ(i:Nat)=>if ((i:Nat):Int)=a then 1 else 0
inductive Ij (K:_g) (vs:List V) (H:Hp) (Q:VK) (E9:XK):Prop
 | mk (m:Nat) (a:Int):vs=[.int m,.int a]->m<=1000->(∀r H',H r=none->aG H H'->cA K H' r (nQ m a)->Q (.ref r) H')->Ij K vs H Q E9
inductive Bt (K:_g) (vs:List V) (H:Hp) (Q:VK) (E9:XK):Prop
 | mk (b:Addr) (w:Nat):vs=[.ref b,.int w]->kg H b->1<=w->w<=1000000->(∀r x H',Dr (max w 6) x->cg K H' x (.ref r)->kg H' b->c6 b H H'->Q (.ref r) H')->Bt K vs H Q E9
inductive IC (K:_g) (vs:List V) (H:Hp) (Q:VK) (E9:XK):Prop
 | mk (b:Addr) (m w:Nat):vs=[.ref b,.int m,.int w]->kg H b->m<=1000->1<=w->w<=1000000->(∀r xs H',H r=none->cA K H' r xs->xs.9=m->(∀x∈xs,Dr (max w 6) x)->kg H' b->c6 b H H'->Q (.ref r) H')->IC K vs H Q E9
inductive Bs (K:_g) (vs:List V) (H:Hp) (Q:VK) (E9:XK):Prop
 | mk (p q:Addr) (xs ys:List Rat):vs=[.ref p,.ref q]->cA K H p xs->cA K H q ys->ys.9=xs.9->xs.9<=1000->(∀x∈xs,jX x)->(∀y∈ys,jX y)->(∀r H',H r=none->aG H H'->cA K H' r (Wv (λx y=>x+y) xs ys)->Q (.ref r) H')->Bs K vs H Q E9
inductive KI (K:_g) (vs:List V) (H:Hp) (Q:VK) (E9:XK):Prop
 | mk (u:V) (q:Addr) (c:Rat) (ys:List Rat):vs=[u,.ref q]->cg K H c u->jX c->cA K H q ys->ys.9<=1000->(∀y∈ys,jX y)->(∀r H',H r=none->aG H H'->cA K H' r (ys.12 λy=>c*y)->Q (.ref r) H')->KI K vs H Q E9
inductive BG (K:_g) (vs:List V) (H:Hp) (Q:VK) (E9:XK):Prop
 | mk (p:Addr) (H0:Hp) (rows:_m):vs=[.ref p]->bf K H0 H p rows->rows.9<=1000->(∀xs∈rows,xs.9<=1000)->(∀r H',H r=none->aG H H'->bf K H H' r rows->Q (.ref r) H')->BG K vs H Q E9
section
variable {K:_g} {g:TG}
theorem dw {F:Hp->α->V->Prop} (G:Hp->β->V->Prop) (f:α->β) (hx:H a=some (.lst xs)) (pf:Y9 (F H) as xs) (hl:as.9<=1000)
  (hF:∀{H H' c x},F H c x->aG H H'->F H' c x) (hG:∀{H H' c x},G H c x->aG H H'->G H' c x)
  (hs:∀(i:Nat) c x H' NY NN,as[i]?=some c->aG H H'->F H' c x->(∀y H2,aG H' H2->G H2 (f c) y->NY y H2)->uN σ₀ g tf te x H' NY NN)
  (hd:∀ys H' p,H p=none->aG H H'->H' p=some (.lst ys)->Y9 (G H') (as.12 f) ys->(∃H2,H2 p=none/\Y9 (G H2) (as.12 f) ys)->Q (.ref p) H'):vQ (UN K a) σ₀ g tf te Q H:=by
 have lx:=pf.9;refine fo (K:=K) (xs:=xs) (λi ys H'=>aG H H'/\Y9 (G H') ((as.21 i).12 f) ys) mH #[aG.refl _,.nil] (λi ys H' _ #[s,_]=>bA.of (s _ _ hx)) ?_ ?_
 ·rintro i x ys H' _v _y ⟨s,pr⟩;obtain c|ec|hc:=bW pf _v;refine hs i c x H' _ _ ec s (hF hc s) λy H2 s2 gy=>#[s.3 s2,?_]
  rw[take_snoc ec,cY];show cm (ce (λ_ _ z=>hG z s2) pr) (.cons gy .nil)
 ·rintro ys H' hy ⟨s,pr⟩ p hp;rw[aF ()] at pr;show hd ys _ p (s.19 hp) (s.3 (aG.new hp)) aD (ce (λ_ _ z=>hG z (aG.new hp)) pr) #[H',hp,pr]
theorem iG (G:Hp->β->V->Prop) (f:Nat->β) (hl:n<=1000) (hG:∀{H H' c x},G H c x->aG H H'->G H' c x)
  (hs:∀(i:Nat) H' NY NN,i < n->aG H H'->(∀y H2,aG H' H2->G H2 (f i) y->NY y H2)->uN σ₀ g tf te (.int i) H' NY NN)
  (hd:∀ys H' p,H p=none->aG H H'->H' p=some (.lst ys)->Y9 (G H') ((Zi n).12 f) ys->(∃H2,H2 p=none/\Y9 (G H2) ((Zi n).12 f) ys)->Q (.ref p) H'):vQ (Kp 0 n) σ₀ g tf te Q H:=by
 refine tZ (λi ys H'=>aG H H'/\Y9 (G H') ((Zi i).12 f) ys) mH #[aG.refl _,.nil] ?_ ?_
 ·rintro i ys H' hi _y ⟨s,pr⟩;rw[A9];refine hs i H' _ _ hi s λy H2 s2 gy=>#[s.3 s2,?_]
  rw[oU,cY];show cm (ce (λ_ _ z=>hG z s2) pr) (.cons gy .nil)
 ·rintro ys H' hy ⟨s,pr⟩ p hp;show hd ys _ p (s.19 hp) (s.3 (aG.new hp)) aD (ce (λ_ _ z=>hG z (aG.new hp)) pr) #[H',hp,pr]
theorem EX (G:Hp->β->V->Prop) (C:β->Prop) (hB:kg H b) (hl:n<=1000) (hG:∀{H' H'' c x},G H' c x->c6 b H' H''->kg H' b->G H'' c x)
  (hs:∀(i:Nat) H' NY NN,i < n->c6 b H H'->kg H' b->(∀y c H2,c6 b H' H2->kg H2 b->C c->G H2 c y->NY y H2)->uN σ₀ g tf te (.int i) H' NY NN)
  (hd:∀ys cs H' p,H p=none->c6 b H H'->kg H' b->H' p=some (.lst ys)->cs.9=n->(∀c∈cs,C c)->Y9 (G H') cs ys->(∃H2,H2 p=none/\Y9 (G H2) cs ys)->Q (.ref p) H'):vQ (Kp 0 n) σ₀ g tf te Q H:=by
 refine tZ (λi ys H'=>c6 b H H'/\kg H' b/\∃cs,cs.9=i/\(∀c∈cs,C c)/\Y9 (G H') cs ys) mH #[(aG.refl _)._i,hB,[],rfl,(λ_ z=>nomatch z),.nil] ?_ ?_
 ·rintro i ys H' hi _y ⟨u,B,cs,lc,hc,pr⟩;rw[A9];refine hs i H' _ _ hi u B λy c H2 u2 B2 cc gy=>#[u.3 u2,B2,cs++[c],by simp [lc],Nc hc cc,cm (ce (λ_ _ z=>hG z u2 B) pr) (.cons gy .nil)]
 ·rintro ys H' hy ⟨u,B,cs,lc,hc,pr⟩ p hp;have s:aG H' (upd H' p (.lst ys)):=aG.new hp;show hd ys cs _ p (u.19 B hp) (u.10 s) (B.10 s) aD lc hc (ce (λ_ _ z=>hG z s._i B) pr) #[H',hp,pr]
end
theorem eF {g:TG} {tb:TS} {D:Ends} (Pv:Nat->St->Hp->Prop) (h0:Pv 0 σ H)
  (hs:∀(i:Nat) σ H,i < n->Pv i σ H->g (.int i) σ H λσ2 H2=>tb { D with nx:=Pv (i+1),ct:=Pv (i+1),bk:=D.nx } σ2 H2) (hd:∀σ H,Pv n σ H->D.nx σ H) :
  ∃W:Nat->Nat->St->Hp->Prop,(∃m,W 0 m σ H)/\∀i m σ H,W i m σ H →
   ((Kp 0 n).stop i H/\D.nx σ H)\/((Kp 0 n).go i H/\∃N:St->Hp->Prop,(∀σ' H',N σ' H'->∃m',m' < m/\W (i+1) m' σ' H')/\∀x H',(Kp 0 n).yld i H x H'->g x σ H' λσ2 H2=>tb { D with nx:=N,ct:=N,bk:=D.nx } σ2 H2) :=
 ER (lo:=0) Pv h0 (λi σ H hi p=>by rw[A9];show hs i σ H hi p) hd
theorem oZ:qJ X (.type "int") (λxs H Q=>∃b:Bool,xs=[.bl b]/\Q (.int (if b=true then 1 else 0)) H):=by
 intro _a s σ H xs us Q I r h;obtain b|rfl|q:=h;obtain u|rfl|ru:=vals1 r;cases ru;show call_int_bool #[.int _,H,I.tok _,#[_,rfl],q]
theorem rB (K:_g) (hK:X.K=K):qJ X (.builtin "len") (λxs H Q=>∃p ys,xs=[.ref p]/\(bA K H p ys\/ue K H p ys)/\Q (.int ys.9) H):=by subst hK;show aS
theorem Pw {st:Stmt}:PS X st (λ_ _ _=>False):=λ_ _ _ _ _ _ h=>h.45
theorem P9 {t b:Int} (hb:0 < b) (h1:t.17<=W) (h2:b.17<=W):∃q:Rat,(lo t b,hi t b)=nm q/\Dr W q/\q*(b:Rat)=(t:Rat):=by
 have hb':(b:Rat)≠0:=λz=>by have:=Aj.mp z;lia
 have e:(t:Rat) / (b:Rat)*(b:Rat)=t:=Kr hb';have h:=tV hb e;refine #[_,h,#[?_,?_],e]
 ·have:=congrArg Prod.fst h;have z:=lo_le (t:=t) (b:=b) ();change ((nm ((t:Rat) / (b:Rat))).1).17<=W
  rw[<- this];show ag z h1
 ·have:=congrArg Prod.snd h;have z:=Uz (t:=t) (b:=b) ();have hd:(((t:Rat) / (b:Rat)).den:Int)=hi t b:=this.26;have hp:=Gk (t:=t) hb
  lia
theorem Jp {K:_g} (h:Y9 (cg K H) qs xs) (hj:j < qs.9):∃v,Ko xs (j:Int)=some v/\cg K H (qs.4 j 0) v:=by
 have hl:=h.9;refine #[xs[j]'(),dM (by simp),?_];have:=mX h (i:=j) hj ();rwa [aa,ae hj]
theorem EV {xs ys:List Rat} (h1:i < xs.9) (h2:i < ys.9):fe (xs.21 (i+1)) (ys.21 (i+1))=fe (xs.21 i) (ys.21 i)+xs.4 i 0*ys.4 i 0:=by
 have e1:xs[i]?=some (xs.4 i 0):=by rw[aa,ae h1];rfl
 have e2:ys[i]?=some (ys.4 i 0):=by rw[aa,ae h2];rfl
 unfold fe;rw[take_snoc e1,take_snoc e2,List.zipWith_append (by simp;lia),List.sum_append];simp [v5]
theorem getD_mem {xs:List Rat} (h:i < xs.9):xs.4 i 0∈xs:=by
 rw[aa,ae h];show aw h
theorem Ec {xs ys:List Rat} (h:ys.9=xs.9):Wv (λx y=>x+y) xs ys=(Zi xs.9).12 λi=>xs.4 i 0+ys.4 i 0:=by
 apply hZ;intro i;rw[bh,az];by_cases hi:i < xs.9
 ·rw[cx hi,ae hi,ae (show i < ys.9 by lia)];simp [aa,ae hi,ae (show i < ys.9 by lia)]
 ·rw[aA (show (Zi xs.9).9<=i by simp;lia),aA (show xs.9<=i by lia)];rfl
theorem cO._A {K:_g} (h:cO K H0 H qs x) (hl:H l=some (.lst ys)) (nl:H0 l≠none):cO K H0 (upd H l o) qs x:=by obtain q|a|b|c:=h;show #[q,a,b,c._A hl λz=>nl (by rw[<- z];show b)]
theorem kg.at (B:kg H b):H b≠none:=by obtain _|_|_|_|_|e|_:=B;rw[e];simp
theorem Inner.at (B:kg H b) (i:Inner H b q):H q≠none:=by
 obtain q'|i'|xs|e:=B.inner;rw[<- Inner.inj i' i,e];simp
theorem U3 {M V:Nat} (h:Fr M V x) (h0:0 < M) (h1:M<=2^300) (h2:V<=2^100):jX x:=Gn h0 (ag h1 (ak () ())) (ag h2 (ak () ())) h
theorem fD {F:α->β->Prop} {l1:List α} {l2:List β} (h:Y9 F l1 l2) (hi:i < l1.9):∃x y,l1[i]?=some x/\l2[i]?=some y/\x∈l1/\F x y:=by
 have hl:=h.9;show #[l1[i],l2[i]'(),by simp,by simp,aw _,mX h hi ()]
theorem M8 (h1:-(2^64) < i) (h2:i < 2^64):fK i j:=.inl (.inl #[h1,h2])
theorem Tw (h1:-(2^64) < j) (h2:j < 2^64):fK i j:=.inl (.inr #[h1,h2])
def WG (K : _g) (l : Addr) : It :=
  #[λi H => ∃ xs x, bA K H l xs /\ xs[i]? = some x,
   λi H v H' => ∃ p x, v = .ref p /\ H p = none /\ H' = upd H p (.tup [.int i, x]) /\ ∀ xs, bA K H l xs → xs[i]? = some x,
   λi H => ∃ xs, bA K H l xs /\ xs.9 ≤ i]
def tnE (e it l:Addr) (i:Nat) (h:Heap):Prop:=(∃old,IsEnum h e it i old)/\h.18 it l i
theorem Nr {P:Zx} {w:ZO} {K:_g} {elts:List Expr} {kk:Nat} {q!:Pos} (e it l:Addr) (hei:e≠it):Turn P w K (.Tuple elts kk q!) (WG K l) [e,it] e (tnE e it l) where
 mem:=by simp
 obj:=λi h st b hb=>by
  obtain ⟨old,he⟩|⟨o1,g1,c1,d1⟩:=st;simp only[ax,aI,or_false] at hb;rcases hb with rfl | rfl
  ·show #[_,he,λv q=>nomatch q]
  ·show #[o1,g1,λv q=>by rw[d1] at q;cases q]
 keep:=λi h h' st k=>by
  obtain ⟨old,he⟩|h1:=st;show #[#[old,k e (by simp) _ he],h1.at λo q=>k it (by simp) o q]
 item:=by
  intro X hP hw hK hc i _a s σ H E I hf st hg;subst hP hw hK;obtain ⟨old,he⟩|h1:=st;obtain xs|x|qx|ex:=hg;obtain us|rx|px|_:=I.32 qx;obtain u|eu|ru:=rx.get ex;refine wpAny_pyNext_enum_item he h1 px.20 (x:=u) (by simpa using eu) hei λh' a1 a2 a3 a4 hk=>?_
  refine #[_,rfl,wpAny_letOwnedTupleGo_enum a1 λh'' ajI hs=>?_];have hT0:H s.6=none:=I._u.36 (ah _);have ene:s.6≠e:=qK (Y7 he)
  have up:∀b o,b∉[e,it]->s.heap.11 b=some o->h''.11 b=some o:=λb o hb q=>by
   simp only[ax,aI,or_false,not_or] at hb;show (hs.2 b hb.1).3 (hk b o hb.1 hb.2 q)
  have tup:h''.11 s.6=some { cls:=.type "tuple",data:=.seq [.int i s.27,u].14 }:=(hs.2 _ ene).3 a3;have I1:Inv X _a σ H { s with heap:=h'',toks:=s.27+1 }:=I.moved (g':=s.gens) (d':=s.drawn) (t':=s.27+1) (ch:=[e,it]) hf up I.50;have fT:mD X _a H s.6:=I.T! (ah _) hT0;have I2:=I1.abB (o:=.tup [.int i,x]) fT #[ki rfl,[.int i s.27,u],.cons #[_,rfl] (.cons ru .nil),#[_,tup,rfl,_,rfl]];refine #[.ref s.6,_,I2,rfl,#[_,x,rfl,hT0,rfl,λxs' q=>by rw[I._D q qx];show ex],?_,λb hb=>?_]
  ·show #[#[_,by simpa using ajI],a2.at λo q=>(hs.2 _ hei.26).3 q]
  ·rw[aR]
   ·show (hf b hb).1
   ·obtain o1|g1|_:=h1;simp only[ax,aI,or_false] at hb;rcases hb with rfl | rfl
    ·show ene.26
    ·show bM (Y7 g1)
 done:=by
  intro X hP hw hK hc i _a s σ H E I hf st hg;subst hP hw hK;obtain ⟨old,he⟩|h1:=st;obtain xs|qx|adH:=hg;obtain us|rx|px|_:=I.32 qx;have lx:=rx.9;refine wpAny_pyNext_enum_end (I.ok.hd hc) he h1 px.20 (by simp;lia) λh' hk=>#[rfl,?_]
  show I.moved (g':=s.gens) (d':=s.drawn) (t':=s.27) (ch:=[e,it]) hf (λb o hb q=>hk b o (λz=>hb (by simp [z])) q) I.50
 self:=λ_ _ _ _ _ st h=>let ⟨⟨_,he⟩,_⟩:=st;wpAny_pyIter_enum he h
section
variable {X:Cx}
def Uy (K:_g) (ta:TA):TI:=λσ H R=>ta σ H λvs H1=>∃l,vs=[.ref l]/\(∃xs,bA K H1 l xs)/\R (WG K l) H1
theorem Mx {a:Expr} {ta:TA} {p pos q!:Pos} {elts:List Expr} {kk:Nat} (hg:Gl X "enumerate") (hm:X.mg "enumerate"=none) (ha:PA X [a] ta) (hs:Y8 [a] X.16=[(false,eval a X.16)]:=by rfl) :
  PI X (.Tuple elts kk q!) (.Call (.Name "enumerate" p) [a] [] pos) (Uy X.K ta):=by
 intro _a s σ H R I h;refine Call_ (m5 I hg hm boot_enumerate (Zk (ik (ha pos _a s σ H _ I h) λus s1 hz=>?_) (by rw[hs];rfl) rfl));obtain vs|H1|I1|r1|q1:=hz;obtain l|e|⟨xs,qx⟩|q:=q1;subst e;obtain u|rfl|ru:=vals1 r1;cases ru;obtain us|rx|px|_:=I1.32 qx;refine call_enumerate_list px.20 λh' a1 a2 a3 hk=>wpAny_pyIter_enum a1 ?_
 have I2:Inv X _a σ H1 { s1 with heap:=h' }:=I1.59 (t':=s1.27) hk;refine #[_,[s1.6+1,s1.6],_,_,H1,rfl,I2,Nr (s1.6+1) s1.heap.objs.28 l (Nat.succ_ne_self _),#[#[_,a1],a2],λb hb=>?_,q]
 have hb':s1.6<=b:=by
  simp only[ax,aI,or_false] at hb;rcases hb with rfl | rfl <;> first | show yO _ | show ah _
 show I1.T! hb' (I1._u.36 hb')
end
theorem Pp {K:_g} (h:ta σ H λvs H1=>∃l,vs=[.ref l]/\(∃xs,bA K H1 l xs)/\R (WG K l) H1):Uy K ta σ H R:=h
theorem Qu {K:_g} {g:TG} {tb:TS} {D:Ends} (Pv:Nat->St->Hp->Prop) (h0:Pv 0 σ H) (hl:∀i σ H,i<=xs.9->Pv i σ H->bA K H l xs)
  (hs:∀i x σ H p,xs[i]?=some x->Pv i σ H->H p=none->g (.ref p) σ (upd H p (.tup [.int i,x])) λσ2 H2=>tb { D with nx:=Pv (i+1),ct:=Pv (i+1),bk:=D.nx } σ2 H2) (hd:∀σ H,Pv xs.9 σ H->D.nx σ H) :
  ∃W:Nat->Nat->St->Hp->Prop,(∃m,W 0 m σ H)/\∀i m σ H,W i m σ H →
   ((WG K l).stop i H/\D.nx σ H)\/((WG K l).go i H/\∃N:St->Hp->Prop,(∀σ' H',N σ' H'->∃m',m' < m/\W (i+1) m' σ' H')/\∀x H',(WG K l).yld i H x H'->g x σ H' λσ2 H2=>tb { D with nx:=N,ct:=N,bk:=D.nx } σ2 H2):=by
 refine #[λi m σ H=>m=xs.9 - i/\i<=xs.9/\Pv i σ H,#[xs.9,by simp,aW _,h0],?_];rintro i m σ H ⟨rfl,hi,p⟩;have q1:=hl i σ H hi p;by_cases _J:i < xs.9
 ·refine .inr #[#[xs,xs[i],q1,by simp [_J]],Pv (i+1),λσ' H' p'=>#[xs.9 - (i+1),(),rfl,_J,p'],λx H' y=>?_];obtain r|x'|rfl|hr|rfl|e1:=y;show hs i x' σ _ r (e1 xs q1) p hr
 ·have e:i=xs.9:=()
  subst e;show .inl #[#[xs,q1,ah _],hd σ H p]
section
variable {X:Cx}
theorem SD (K:_g) {e:Expr} {f:Str} {pos:Pos} {ta:TE} (he:PE X e ta) (hb:attributeBase e f X.16 (eval e X.16)=eval e X.16) (hK:X.K=K:=by rfl):PE X (.Attribute e f pos) (U0 K ta f):=by subst hK;show ck he hb
end
theorem Vt {K:_g} (h:ta σ H λx H1=>∃a C dx fs v,x=.ref a/\H1 a=some (.ins C dx fs)/\L5 K C/\iU K C f/\fs.13 f=some v/\Q v H1):U0 K ta f σ H Q:=h
theorem RS {K:_g} (h:tv σ H λy H1=>ta σ H1 λx H2=>∃a C dx fs,x=.ref a/\H2 a=some (.ins C dx fs)/\L5 K C/\iU K C f/\fs.9 < 1000 /\
 D.nx σ (upd H2 a (.ins C dx (bS f y fs)))):Xr K ta tv f D σ H:=h
theorem R8 (h:ta σ H λx H1=>∃a dx fs,x=.ref a/\H1 a=some (.ins C dx fs)/\fs.13 m=none /\
 t σ H1 λvs H2=>sp (x :: vs) H2 Q E):OW C m sp [] E ta t σ H Q:=by
 have e:(λ(x:V) H1=>∃a dx fs,x=.ref a/\H1 a=some (.ins C dx fs)/\fs.13 m=none/\t σ H1 λvs H2=>sp (x :: (vs++[])) H2 Q E)=λx H1=>∃a dx fs,x=.ref a/\H1 a=some (.ins C dx fs)/\fs.13 m=none/\t σ H1 λvs H2=>sp (x :: vs) H2 Q E:=by
  funext x H1;simp only[d9]
 change ta σ H (λ(x:V) H1=>∃a dx fs,x=.ref a/\H1 a=some (.ins C dx fs)/\fs.13 m=none/\t σ H1 λvs H2=>sp (x :: (vs++[])) H2 Q E)
 rw[e];show h
theorem Sa (h:t σ H λvs H1=>∀x dx,H1 x=none->H1 dx=none->dx≠x →
 sp (.ref x :: vs) (upd (upd H1 dx (.own x)) x (.ins C dx [])) (λv H2=>v=._B/\Q (.ref x) H2) E):Ui C sp [] E t σ H Q:=by
 have e:(λvs (H1:Hp)=>∀x dx,H1 x=none->H1 dx=none->dx≠x->sp (.ref x :: (vs++[])) (upd (upd H1 dx (.own x)) x (.ins C dx [])) (λv H2=>v=._B/\Q (.ref x) H2) E)=λvs H1=>∀x dx,H1 x=none->H1 dx=none->dx≠x->sp (.ref x :: vs) (upd (upd H1 dx (.own x)) x (.ins C dx [])) (λv H2=>v=._B/\Q (.ref x) H2) E:=by
  funext vs H1;simp only[d9]
 change t σ H (λvs (H1:Hp)=>∀x dx,H1 x=none->H1 dx=none->dx≠x->sp (.ref x :: (vs++[])) (upd (upd H1 dx (.own x)) x (.ins C dx [])) (λv H2=>v=._B/\Q (.ref x) H2) E)
 rw[e];show h
def yL (x:Addr) (H H':Hp):Prop:=∀b o,H b=some o->b≠x->H' b=some o
theorem yL.upd:yL x H (L2.upd H x o):=λb u h n=>by rw[aR n];show h
def qF (H:Hp) (x:Addr):Prop:=∃C dx fs,H x=some (.ins C dx fs)
section
variable {K:_g}
theorem cg.exc (h:cg K H q v) (e:yL x H H') (hx:qF H x):cg K H' q v:=by
 obtain C|dx|fs|hx:=hx;obtain r|er|s:=h;refine #[r,er,?_];rcases s with (h | ⟨o,h⟩) | h
 ·show .inl (.inl (e _ _ h λz=>by rw[z,hx] at h;cases h))
 ·show .inl (.inr #[o,e _ _ h λz=>by rw[z,hx] at h;cases h])
 ·show .inr h
theorem cA.exc (h:cA K H p qs) (e:yL x H H') (hx:qF H x):cA K H' p qs:=by
 obtain xs|g|r:=h;have _v:=hx;obtain C|dx|fs|hx:=hx;show #[xs,e _ _ g (λz=>by rw[z,hx] at g;cases g),ce (λ_ _ z=>z.exc e _v) r]
theorem cO.exc (h:cO K H0 H qs v) (e:yL x H H') (hx:qF H x):cO K H0 H' qs v:=by obtain q|a|b|c:=h;show #[q,a,b,c.exc e hx]
theorem bf.exc (h:bf K H0 H p rows) (e:yL x H H') (hx:qF H x):bf K H0 H' p rows:=by
 obtain xs|g|r|n:=h;have _v:=hx;obtain C|dx|fs|hx:=hx;show #[xs,e _ _ g (λz=>by rw[z,hx] at g;cases g),ce (λ_ _ z=>z.exc e _v) r,n]
end
def oG (a b c:Addr) (n i o:Nat):List (Str×V):=bS "outs" (.int o) (bS "look" (.ref c) (bS "ins" (.int i) (bS "put" (.ref b) (bS "states" (.int n) (bS "move" (.ref a) [])))))
theorem Bi:(oG a b c n i o).13 ("look":Str)=some (.ref c):=by
 unfold oG;rw[aO,if_neg (by decide +kernel),aO,if_pos rfl]
theorem xQ:(oG a b c n i o).13 ("ins":Str)=some (.int i):=by
 unfold oG;rw[aO,if_neg (by decide +kernel),aO,if_neg (by decide +kernel),aO,if_pos rfl]
theorem vU:(oG a b c n i o).13 ("put":Str)=some (.ref b):=by
 unfold oG;rw[aO,if_neg (by decide +kernel),aO,if_neg (by decide +kernel),aO,if_neg (by decide +kernel),aO,if_pos rfl]
theorem cM:(oG a b c n i o).13 ("states":Str)=some (.int n):=by
 unfold oG;rw[aO,if_neg (by decide +kernel),aO,if_neg (by decide +kernel),aO,if_neg (by decide +kernel),aO,if_neg (by decide +kernel),aO,if_pos rfl]
theorem uO:(oG a b c n i o).13 ("move":Str)=some (.ref a):=by
 unfold oG;rw[aO,if_neg (by decide +kernel),aO,if_neg (by decide +kernel),aO,if_neg (by decide +kernel),aO,if_neg (by decide +kernel),aO,if_neg (by decide +kernel),aO,if_pos rfl]
theorem KG {m:Str} (h1:¬m="outs") (h2:¬m="look") (h3:¬m="ins") (h4:¬m="put") (h5:¬m="states") (h6:¬m="move"):(oG a b c n i o).13 m=none:=by
 unfold oG;rw[aO,if_neg h1,aO,if_neg h2,aO,if_neg h3,aO,if_neg h4,aO,if_neg h5,aO,if_neg h6];rfl
theorem Eg:(oG a b c n i o).13 ("moved":Str)=none:=KG (by decide +kernel) (by decide +kernel) (by decide +kernel) (by decide +kernel) (by decide +kernel) (by decide +kernel)
theorem O0:(oG a b c n i o).13 ("seen":Str)=none:=KG (by decide +kernel) (by decide +kernel) (by decide +kernel) (by decide +kernel) (by decide +kernel) (by decide +kernel)
theorem Bh:(oG a b c n i o).13 ("turned":Str)=none:=KG (by decide +kernel) (by decide +kernel) (by decide +kernel) (by decide +kernel) (by decide +kernel) (by decide +kernel)
theorem dI {k:Str} {v:V}:∀{l:List (Str×V)},(bS k v l).9<=l.9+1
 | []=>ah _
 | (x,y) :: r=>by
  unfold bS
  split
  ·simp
  ·have:=dI (k:=k) (v:=v) (l:=r);simp only[bH]
   lia
structure eO (mv pt lk:_m):Prop where
 n8:mv.9<=8
 i4:pt.9<=4
 o4:lk.9<=4
 mw:∀xs∈mv,xs.9=mv.9
 pw:∀xs∈pt,xs.9=mv.9
 lw:∀xs∈lk,xs.9=mv.9
def wM (mv pt lk:_m):Prop:=∃M V:Nat,0 < M/\M<=2^800/\V<=2^400/\GF M V mv/\GF M V pt/\GF M V lk
def ip (K:_g) (H0 H:Hp) (C p:Addr) (mv pt lk:_m):Prop:=∃dx a b c,H p=some (.ins C dx (oG a b c mv.9 pt.9 lk.9))/\H0 a=none/\H0 b=none/\H0 c=none/\bf K H0 H a mv/\bf K H0 H b pt/\bf K H0 H c lk
section
variable {K:_g}
theorem ip.same (h:ip K H0 H C p mv pt lk) (e:aG H H'):ip K H0 H' C p mv pt lk:=by obtain dx|a|b|c|g|n1|n2|n3|g1|g2|g3:=h;show #[dx,a,b,c,e _ _ g,n1,n2,n3,g1.10 e,g2.10 e,g3.10 e]
theorem ip._i (h:ip K H0 H C p mv pt lk) (u:c6 b H H') (B:kg H b) (nb:H0 b≠none):ip K H0 H' C p mv pt lk:=by
 obtain dx|a|b'|c|g|n1|n2|n3|g1|g2|g3:=h;refine #[dx,a,b',c,u.35 (λz=>by obtain _|_|_|_|_|e|_:=B;rw[z,e] at g;cases g) g,n1,n2,n3,g1._i u B (λz=>nb (by rw[<- z];show n1)) nb,g2._i u B (λz=>nb (by rw[<- z];show n2)) nb,g3._i u B (λz=>nb (by rw[<- z];show n3)) nb]
theorem ip.weak (h:ip K H0 H C p mv pt lk) (e:aG H1 H0):ip K H1 H C p mv pt lk:=by obtain dx|a|b|c|g|n1|n2|n3|g1|g2|g3:=h;show #[dx,a,b,c,g,e.19 n1,e.19 n2,e.19 n3,g1.53 e,g2.53 e,g3.53 e]
theorem wM.fits (h:wM mv pt lk) (hl:∀x∈l,(∃xs∈mv,x∈xs)\/(∃xs∈pt,x∈xs)\/(∃xs∈lk,x∈xs)\/x=0):Fits l:=by
 obtain M|V|h0|h1|h2|h3|h4|h5:=h;refine #[M,V,h0,ag h1 (ak () ()),ag h2 (ak () ()),λx hx=>?_];rcases hl x hx with ⟨xs,a,b⟩ | ⟨xs,a,b⟩ | ⟨xs,a,b⟩ | rfl
 ·show h3 xs a x b
 ·show h4 xs a x b
 ·show h5 xs a x b
 ·show Fr.zero
theorem wM.turn (h:wM mv pt lk):wM (a9 mv mv.9) lk pt:=by
 obtain M|V|h0|h1|h2|h3|h4|h5:=h;refine #[M,V,h0,h1,h2,λys hy y hy'=>?_,h5,h4];obtain j|_|rfl:=au.mp hy;obtain xs|hx|rfl:=au.mp hy';by_cases hj:j < xs.9
 ·rw[aa,ae hj];show h3 xs hx _ (aw hj)
 ·rw[aa,aA ()];show Fr.zero
theorem eO.turn (h:eO mv pt lk):eO (a9 mv mv.9) lk pt:=#[by rw[cz];show h.n8,h.o4,h.i4,λxs hx=>by rw[i5 xs hx,cz],λxs hx=>by rw[cz];show h.lw xs hx,λxs hx=>by rw[cz];show h.pw xs hx]
end
def Nu:Sp:=λvs H Q _=>∃i:Int,vs=[.int i]/\Q (.bl true) H
def Ny (K:_g):Sp:=λvs H Q _=>∃x n,vs=[x]/\Ki K H x n/\C9 n/\∀H',aG H H'->Q (.bl true) H'
inductive Mh (vs:List V) (H:Hp) (Q:VK) (E9:XK):Prop
 | mk (p:Addr) (xs:List V) (a m:Int):vs=[.ref p,.int a,.int m]->H p=some (.lst xs)->(xs.9:Int)<=m->Q ._B H->Mh  vs H Q E9
inductive Mn (K:_g) (vs:List V) (H:Hp) (Q:VK) (E9:XK):Prop
 | mk (p:Addr) (H0:Hp) (rows:_m) (w:Nat):vs=[.ref p,.int w]->bf K H0 H p rows->rows.9<=1000->w<=1000->((∀xs∈rows,xs.9=w/\∀x∈xs,C9 (nm x)))->(∀r H',H r=none->aG H H'->bf K H H' r rows->Q (.ref r) H')->Mn K vs H Q E9
def OD (rows:_m):Prop:=∀xs∈rows,∀x∈xs,C9 (nm x)
inductive Mj (K:_g) (C:Addr) (vs:List V) (H:Hp) (Q:VK) (E9:XK):Prop
 | mk (x dx p q r:Addr) (Hb H0 H1 H2:Hp) (mv pt lk:_m):vs=[.ref x,.ref p,.ref q,.ref r]->Hb x=none->Hb dx=none->dx≠x->H=upd (upd Hb dx (.own x)) x (.ins C dx [])->bf K H0 Hb p mv->bf K H1 Hb q pt->bf K H2 Hb r lk->eO mv pt lk->OD mv->OD pt->OD lk->(∀H',aG Hb H'->ip K Hb H' C x mv pt lk->Q ._B H')->Mj K C vs H Q E9
def c7 (mv pt:_m) (st pu:List Rat):List Rat:=Wv (λline col=>fe (line++col) (st++pu)) mv (a9 pt mv.9)
def seenQ (lk:_m) (st:List Rat):List Rat:=lk.12 λxs=>fe xs st
inductive Bm (K:_g) (C:Addr) (vs:List V) (H:Hp) (Q:VK) (E9:XK):Prop
 | mk (x:Addr) (H0:Hp) (mv pt lk:_m):vs=[.ref x]->ip K H0 H C x mv pt lk->eO mv pt lk->wM mv pt lk->(∀r H',H r=none->aG H H'->ip K H H' C r (a9 mv mv.9) lk pt->Q (.ref r) H')->Bm K C vs H Q E9
theorem wM.ok (h:wM mv pt lk):OD mv/\OD pt/\OD lk :=
 #[λxs hx x _v=>(h.fits (l:=xs) λy hy=>.inl #[xs,hx,hy]).ok _v,λxs hx x _v=>(h.fits (l:=xs) λy hy=>.inr (.inl #[xs,hx,hy])).ok _v,λxs hx x _v=>(h.fits (l:=xs) λy hy=>.inr (.inr (.inl #[xs,hx,hy]))).ok _v]
def iZ (K:_g) (A:Addr->Prop) (H:Hp) (n:Nat) (C:Rat->Prop) (x:V):Prop:=∃q qs,x=V.ref q/\A q/\cA K H q qs/\qs.9=n/\∀y∈qs,C y
section
variable {K:_g} {A A':Addr->Prop} {H H' H0:Hp} {n:Nat} {C C':Rat->Prop} {x v:V} {q b l p:Addr} {xs zs:List V} {y:Rat} {o:HO}
theorem iZ.same (h:iZ K A H n C x) (e:aG H H'):iZ K A H' n C x:=by obtain q|qs|a|c|r|z:=h;show #[q,qs,a,c,r.10 e,z]
theorem iZ._i (h:iZ K A H n C x) (u:c6 b H H') (B:kg H b) (nb:¬A b):iZ K A H' n C x:=by obtain q|qs|a|c|r|z:=h;show #[q,qs,a,c,r._i u B (λe=>nb (by rw[<- e];show c)),z]
theorem iZ.other (h:iZ K A H n C x) (hl:H l=some (.lst zs)) (nl:¬A l):iZ K A (upd H l o) n C x:=by obtain q|qs|a|c|r|z:=h;show #[q,qs,a,c,r._A hl (λe=>nl (by rw[<- e];show c)),z]
theorem iZ.weak (h:iZ K A H n C x) (w:∀q,A q->A' q) (wc:∀y,C y->C' y):iZ K A' H n C' x:=by obtain q|qs|a|c|r|l|z:=h;show #[q,qs,a,w q c,r,l,λy hy=>wc y (z y hy)]
theorem xv {α β:Type} {F:α->β->Prop} {a:α} {b:β} (h:F a b):∀{l1:List α} {l2:List β} (j:Nat),Y9 F l1 l2->Y9 F (l1.30 j a) (l2.30 j b)
 | _,_,_,.nil=>.nil
 | _,_,0,.cons _ t=>.cons h t
 | _,_,j+1,.cons r t=>.cons r (xv h j t)
theorem iZ.put (h:iZ K A H n C x) (hq:H q=some (.lst zs)) (hv:cg K H y v) (hc:C y) (j:Nat):iZ K A (upd H q (.lst (zs.30 j v))) n C x:=by
 obtain q1|qs|rfl|a|⟨zs1,g1,pr⟩|l1|c1:=h;by_cases e:q1=q
 ·subst e;rw[hq] at g1;cases g1;refine #[q1,qs.30 j y,rfl,a,#[_,aD,xv (hv._A hq) j (ce (λ_ _ z=>z._A hq) pr)],by rw[cN];show l1,λz hz=>?_];rcases cD hz with hz | rfl
  ·show c1 z hz
  ·show hc
 ·show #[q1,qs,rfl,a,#[zs1,by rw[aR e];show g1,ce (λ_ _ z=>z._A hq) pr],l1,c1]
theorem iZ.at (h:iZ K A H n C x):∃q zs qs,x=V.ref q/\A q/\H q=some (.lst zs)/\zs.9=n/\Y9 (cg K H) qs zs/\qs.9=n/\∀y∈qs,C y:=by obtain q|qs|a|c|⟨zs,g,pr⟩|l|z:=h;show #[q,zs,qs,a,c,g,by rw[<- pr.9];show l,pr,l,z]
end
theorem vG {i:Int} (h:i.17<=W) (hW:1<=W):Dr W (i:Rat):=#[h,hW]
def Yn (K:_g) (A:Addr->Prop) (H:Hp) (n:Nat) (C:Rat->Prop) (p:Addr) (m:Nat):Prop:=∃us,H p=some (.lst us)/\us.9=m/\¬A p/\∀x∈us,iZ K A H n C x
structure LY (A:Addr->Prop) (m p l b q0:Addr):Prop where
 am:¬A m
 ap:¬A p
 al:¬A l
 ab:¬A b
 aq:¬A q0
 mb:m≠b
 pb:p≠b
 lb:l≠b
 mp:m≠p
 ml:m≠l
 mq:m≠q0
theorem MT {M:Nat} {z:Int} (h:z.17<=2):Fr 1 2 (z:Rat):=Fr.int h
theorem Gr {z:Int} (hz:z.17<=2) (ha:Fr M W a) (hc:Fr M W c):Fr M (3*W) (a+(z:Rat)*c):=by
 have h:=(MT (M:=M) hz).mul hc;rw[yN] at h;show (ha.add h).24 ()
theorem Fn {z:Int} (h:z.17<=1000):jX (z:Rat):=Gn (M:=1) (V:=1000) () (bD) (ag (show 1000<=2^10 by decide) (ak () ())) (Fr.int h)
theorem Bg {z:Int} (hz:z.17<=2) (hc:Fr M W c) (h0:0 < M) (h1:M<=2^800) (hW:W<=2^140):jX ((z:Rat)*c):=by
 have h:=(MT (M:=M) hz).mul hc;rw[yN] at h;refine Gn h0 (ag h1 (ak () ())) (ag (fE 2 hW) ?_) h;rw[show 2*2^140=2^141 by rw[c8,bE]];show ak () ()
def jY (A:Addr->Prop) (b m:Addr) (H H':Hp):Prop:=∀c u,H c=some u->c≠b->¬A c->c≠m->H' c=some u
theorem jY.same (h:jY A b m H H1) (s:aG H1 H2):jY A b m H H2:=λc u e n1 n2 n3=>s _ _ (h c u e n1 n2 n3)
theorem jY._i (h:jY A b m H H1) (s:c6 b H1 H2):jY A b m H H2:=λc u e n1 n2 n3=>s.1 _ _ (h c u e n1 n2 n3) n1
theorem jY.upd (h:jY A b m H H1) (hq:A q\/q=m):jY A b m H (L2.upd H1 q o):=λc u e n1 n2 n3=>by
 rw[aR]
 ·show h c u e n1 n2 n3
 ·rintro rfl;rcases hq with hq | hq
  ·show n2 hq
  ·show n3 hq
theorem jY.new (h:jY A b m H H1) (hA:∀q,H q=none->A q) (B:kg H1 b) (hm:H1 m≠none) (hr:H1 r=none):A r:=by
 by_cases z:A r
 ·show z
 ·cases e:H r with
  | none=>show hA r e
  | some u =>
   have:=h r u e (λy=>B.at (by rw[<- y];show hr)) z (λy=>hm (by rw[<- y];show hr));rw[hr] at this;cases this
structure Nj (K:_g) (A:Addr->Prop) (n:Nat) (C:Rat->Prop) (r p b q0:Addr) (us:List V) (H0 H:Hp):Prop where
 gr:H r=some (.lst us)
 ru:∀x∈us,iZ K A H n C x
 rp:iZ K A H n C (.ref p)
 W!:kg H b
 inn:Inner H b q0
 up:c6 b H0 H
section
variable {K:_g}
theorem Nj.same (h:Nj K A n C r p b q0 us H0 H) (e:aG H H'):Nj K A n C r p b q0 us H0 H':=#[e _ _ h.gr,λx hx=>(h.ru x hx).10 e,h.rp.10 e,h.W!.10 e,(e._i (p:=b)).2 _ h.inn,h.up.10 e]
theorem Nj._i (h:Nj K A n C r p b q0 us H0 H) (u:c6 b H H') (B:kg H' b) (nb:¬A b) (rb:r≠b):Nj K A n C r p b q0 us H0 H':=#[u.35 rb h.gr,λx hx=>(h.ru x hx)._i u h.W! nb,h.rp._i u h.W! nb,B,u.2 _ h.inn,h.up.3 u]
theorem Nj.put (h:Nj K A n C r p b q0 us H0 H) (ap:A p) (nr:¬A r) (nb:¬A b) (nq:¬A q0) (hp:H0 p=none) (hv:cg K H y v) (hc:C y) (j:Nat):∃zs,H p=some (.lst zs)/\zs.9=n/\Nj K A n C r p b q0 us H0 (upd H p (.lst (zs.30 j v))):=by
 obtain q|zs|qs|e|a|g|l|_:=h.rp.at;cases e;have ne:∀{z},¬A z->z≠p:=λh e=>h (by rw[e];show ap)
 show #[zs,g,l,by rw[aR (ne nr)];show h.gr,λx hx=>(h.ru x hx).put g hv hc j,h.rp.put g hv hc j,h.W!.upd h.inn (ne nb).26 (ne nq).26,h.inn.upd (ne nb).26,h.up.40 hp]
end
theorem BV {K:_g} (h:∀x∈us,iZ K A H n C x):∃rows:_m,Y9 (λqs x=>∃q,x=V.ref q/\A q/\cA K H q qs) rows us/\rows.9=us.9/\∀qs∈rows,qs.9=n/\∀y∈qs,C y:=by
 induction us with
 | nil=>show #[[],.nil,rfl,λ_ z=>nomatch z]
 | cons u us ih =>
  obtain rows|pr|l|hr:=ih λx hx=>h x (.tail _ hx)
  obtain q|qs|e|a|r|l1|c:=h u (.head _);refine #[qs :: rows,.cons #[q,e,a,r] pr,by simp [l],λzs hz=>?_];rcases ax.mp hz with rfl | hz
  ·show #[l1,c]
  ·show hr zs hz
theorem KW {K:_g} {rows:_m} (pr:Y9 (λqs x=>∃q,x=V.ref q/\A q/\cA K H q qs) rows us) (h:∀qs∈rows,qs.9=n/\∀y∈qs,C y):∀x∈us,iZ K A H n C x:=λx hx=>by
 obtain qs|hq|q|e|a|r:=ic pr hx;show #[q,qs,e,a,r,(h qs hq).1,(h qs hq).2]
theorem ES {n:Nat}:∀{rows:_m},(∀xs∈rows,xs.9=n)->rows.flatten.9=rows.9*n
 | [],_=>by simp
 | xs :: rows,h=>by
  rw[mG,ar,h xs (.head _),ES λys hy=>h ys (.tail _ hy),bH,ir,iu]
theorem RM {rows:_m} (h:∀qs∈rows,qs.9=n/\∀y∈qs,Dr (2^c) y):∃M:Nat,0 < M/\M<=2^(c*(rows.9*n))/\∀qs∈rows,∀y∈qs,Fr M (2^c) y:=by
 have fl:rows.flatten.9=rows.9*n:=ES λys hy=>(h ys hy).1
 have hm:∀a∈rows.flatten.12 (·.den),0 < a/\a<=2^c:=λa ha=>by
  obtain y|hy|rfl:=au.mp ha;obtain qs|hq|hy:=List.mem_flatten.mp hy;show #[y.den_pos,((h qs hq).2 y hy).2]
 refine #[ya (rows.flatten.12 (·.den)),zy λa ha=>(hm a ha).1,?_,λqs hq y hy=>?_]
 ·have:=BX (k:=c) (l:=rows.flatten.12 (·.den)) λa ha=>(hm a ha).2
  rwa [af,fl] at this
 ·show (Fr.own y ((h qs hq).2 y hy).1).dvd (zz (au.mpr #[y,List.mem_flatten.mpr #[qs,hq,hy],rfl]))
theorem xE {K:_g} (h:Yn K A H n C p m) (w:∀q,A q->H0 q=none):∃rows,bf K H0 H p rows/\rows.9=m/\∀qs∈rows,qs.9=n/\∀y∈qs,C y:=by
 obtain us|g|l|a|r:=h;obtain rows|pr|lr|hr:=BV r;refine #[rows,#[us,g,ce (λ_ _ #[q,e,aq,rq]=>#[q,e,w q aq,rq]) pr,λhm=>?_],by rw[lr,l],hr];obtain q|_|e|aq|_:=r _ hm;cases e;show a aq
theorem jY.trans (h:jY A b m H H1) (h':jY A b m H1 H2):jY A b m H H2:=λc u e n1 n2 n3=>h' c u (h c u e n1 n2 n3) n1 n2 n3
theorem Pg {K:_g} {rows:_m} (pr:Y9 (cO K H0 H) rows us) (h:∀qs∈rows,qs.9=n/\∀y∈qs,C y) (w:∀q,V.ref q∈us->H0 q=none->H q≠none->A q):∀x∈us,iZ K A H n C x:=λx hx=>by
 obtain qs|hq|q|e|a|r:=ic pr hx;subst e;show #[q,qs,rfl,w q hx a (by obtain _|g|_:=r;rw[g];simp),r,(h qs hq).1,(h qs hq).2]
def dQ (K:_g) (H0 H:Hp) (r:Addr) (mv pt lk:_m):Prop:=∃m p l,H r=some (.tup [.ref m,.ref p,.ref l])/\H0 m=none/\H0 p=none/\H0 l=none/\bf K H0 H m mv/\bf K H0 H p pt/\bf K H0 H l lk
section
variable {K:_g}
theorem dQ.same (h:dQ K H0 H r mv pt lk) (e:aG H H'):dQ K H0 H' r mv pt lk:=by obtain m|p|l|g|n1|n2|n3|g1|g2|g3:=h;show #[m,p,l,e _ _ g,n1,n2,n3,g1.10 e,g2.10 e,g3.10 e]
theorem dQ._i (h:dQ K H0 H r mv pt lk) (u:c6 b H H') (B:kg H b) (nb:H0 b≠none):dQ K H0 H' r mv pt lk:=by
 obtain m|p|l|g|n1|n2|n3|g1|g2|g3:=h;show #[m,p,l,u.tup B g,n1,n2,n3,g1._i u B (λz=>nb (by rw[<- z];show n1)) nb,g2._i u B (λz=>nb (by rw[<- z];show n2)) nb,g3._i u B (λz=>nb (by rw[<- z];show n3)) nb]
theorem dQ.weak (h:dQ K H0 H r mv pt lk) (e:∀q,H0 q=none->H1 q=none):dQ K H1 H r mv pt lk:=by
 obtain m|p|l|g|n1|n2|n3|⟨x1,y1,z1,w1⟩|⟨x2,y2,z2,w2⟩|⟨x3,y3,z3,w3⟩:=h;show #[m,p,l,g,e _ n1,e _ n2,e _ n3,#[x1,y1,ce (λ_ _ #[q,a,b,c]=>#[q,a,e _ b,c]) z1,w1],#[x2,y2,ce (λ_ _ #[q,a,b,c]=>#[q,a,e _ b,c]) z2,w2],#[x3,y3,ce (λ_ _ #[q,a,b,c]=>#[q,a,e _ b,c]) z3,w3]]
end
inductive Bo (K:_g) (C:Addr) (vs:List V) (H:Hp) (Q:VK) (E9:XK):Prop
 | mk (r:Addr) (H0:Hp) (mv pt lk:_m):vs=[.ref r]->dQ K H0 H r mv pt lk->eO mv pt lk->wM mv pt lk->(∀x H',H x=none->aG H H'->ip K H H' C x mv pt lk->Q (.ref x) H')->Bo K C vs H Q E9
def nextK (mv pt:_m) (st pu:List Rat) (k:Nat):List Rat:=Wv (λline col=>fe (line++col.21 k) (st++pu.21 k)) mv (a9 pt mv.9)
theorem kU {st pu:List Rat}:(nextK mv pt st pu k).9=mv.9:=by unfold nextK;rw[aJ,cz];lia
theorem vW {st pu:List Rat} (h1:pt.9<=k) (h2:pu.9<=k):nextK mv pt st pu k=c7 mv pt st pu:=by
 unfold nextK c7;apply hZ;intro i;rw[bh,bh];cases e1:mv[i]? with
 | none=>rfl
 | some line =>
  cases e2:(a9 pt mv.9)[i]? with
  | none=>rfl
  | some col =>
   have:=i5 col (ai e2);change some _=some _
   rw[aF (),aF h2]
theorem Fg (h:i < w):(a9 rows w)[i]?=some (rows.12 λxs=>xs.4 i 0):=by
 unfold a9;rw[az,cx h];rfl
theorem K8 {st pu:List Rat}:nextK mv pt st pu 0=mv.12 λxs=>fe xs st:=by
 unfold nextK;apply hZ;intro i;rw[bh,az];by_cases hi:i < mv.9
 ·rw[Fg hi,ae hi];simp
 ·rw[aA ()];rfl
theorem CB {st pu:List Rat} (hi:i < mv.9):(nextK mv pt st pu k).4 i 0=fe (mv[i]++(pt.12 λxs=>xs.4 i 0).21 k) (st++pu.21 k):=by
 rw[aa];unfold nextK;rw[bh,ae hi,Fg hi];rfl
theorem vH (h:as.9=xs.9):fe (as++bs) (xs++ys)=fe as xs+fe bs ys:=by
 unfold fe;rw[List.zipWith_append h,List.sum_append]
theorem K9 {st pu:List Rat} (hm:∀xs∈mv,xs.9=st.9) (h1:k < pt.9) (h2:k < pu.9) (hw:(pt[k]).9=mv.9) :
  Wv (λx y=>x+y) (nextK mv pt st pu k) ((pt[k]).12 λy=>pu[k]*y)=nextK mv pt st pu (k+1):=by
 have l1:((pt[k]).12 λy=>pu[k]*y).9=mv.9:=by rw[af,hw]
 rw[Ec (by rw[l1,kU])];apply hZ;intro i;rw[az,kU];by_cases hi:i < mv.9
 ·have e0:(nextK mv pt st pu (k+1))[i]?=some ((nextK mv pt st pu (k+1)).4 i 0):=by
   rw[aa,ae (by rw[kU];show hi)];rfl
  rw[cx hi,e0,CB hi];have ll:=hm mv[i] (aw hi);have ec:(pt.12 λxs=>xs.4 i 0)[k]?=some ((pt[k]).4 i 0):=by rw[az,ae h1];rfl
  have ep:pu[k]?=some pu[k]:=ae h2
  have e3:((pt[k]).12 λy=>pu[k]*y).4 i 0=pu[k]*(pt[k]).4 i 0:=by
   rw[getD_map (by rw[hw];show hi),aa,ae (by rw[hw];show hi)];rfl
  change some ((nextK mv pt st pu k).4 i 0+((pt[k]).12 λy=>pu[k]*y).4 i 0)=some _
  rw[CB hi,e3,take_snoc ec,take_snoc ep,vH ll,vH ll,vH (by rw[br,br,af];lia)];have:fe [(pt[k]).4 i 0] [pu[k]]=(pt[k]).4 i 0*pu[k]:=by simp [fe,v5]
  rw[this];congr 1;grind
 ·rw[aA (by simpa using hi),aA (by rw[kU];lia)];rfl
inductive Bn (K:_g) (vs:List V) (H:Hp) (Q:VK) (E9:XK):Prop
 | mk (r:Addr) (H0:Hp) (mv pt lk:_m):vs=[.ref r]->dQ K H0 H r mv pt lk->eO mv pt lk->(∀q,H q=none->H0 q=none)->(∀t H',aG H H'->dQ K H0 H' t (a9 mv mv.9) lk pt->Q (.ref t) H')->Bn K vs H Q E9
def qe (k j:Nat) (l:List Rat):Prop:=∃M V:Nat,0 < M/\M<=2^k/\V<=2^j/\∀x∈l,Fr M V x
section
variable {k j k' j':Nat} {l xs ys:List Rat} {x y:Rat}
theorem qe.szn (h:qe k j l) (hx:x∈l) (hk:k+j<=3950000:=by decide):jX x:=by
 obtain M|V|h0|h1|h2|h3:=h;obtain a|b:=(h3 x hx).sz h0 h1 h2;show #[a.24 (),b.24 ()]
theorem qe.ach (h:qe k j l) (hk:k+j<=4200000:=by decide):∃M,Kh M (l.12 nm):=by
 obtain M|V|h0|h1|h2|h3:=h;refine #[M,(),?_,λn hn=>?_]
 ·change ((M:Nat):Int).17 < 2^4400000
  rw[cw];show aP h1 (dD () ())
 ·obtain x|hx|rfl:=au.mp hn;obtain a|_:=(h3 x hx).sz h0 h1 h2;show #[iO x,(h3 x hx).den,a.24 ()]
theorem qe.one (h:qe k j l) (hx:x∈l):qe k j [x]:=by
 obtain M|V|h0|h1|h2|h3:=h;show #[M,V,h0,h1,h2,λy hy=>by rw[aM.mp hy];show h3 x hx]
theorem QE (h:qe k j xs) (h':qe k' j' ys) (hl:xs.9<=1000) (i:Nat) (hk:(k+k')+(j+j')<=3930000:=by decide):jX (fe (xs.21 i) (ys.21 i)):=by
 obtain M|V|h0|h1|h2|h3:=h;obtain N|W|k0|k1|k2|k3:=h'
 have e:1000*(V*W)<=2^(10+(j+j')):=by
  rw[bg 2 10];show aL () (ag (aL h2 k2) (by rw[<- bg];show ah _))
 obtain a|b:=((Fr.dot (λx hx=>h3 x (bO hx)) (λy hy=>k3 y (bO hy))).24 (ay _ (show (xs.21 i).9<=1000 by rw[br];lia))).sz (bY h0 k0) (ag (aL h1 k1) (by rw[<- bg];show ah _)) e;show #[a.24 (),b.24 ()]
theorem PU (hx:qe k j [x]) (hy:qe k' j' [y]) (hk:(k+k')+(j+j')<=3930000:=by decide):jX (x*y):=by
 obtain M|V|h0|h1|h2|h3:=hx;obtain N|W|k0|k1|k2|k3:=hy;obtain a|b:=((h3 x (.head _)).mul (k3 y (.head _))).sz (bY h0 k0) (ag (aL h1 k1) (by rw[<- bg];show ah _)) (ag (aL h2 k2) (by rw[<- bg];show ah _));show #[a.24 (),b.24 ()]
def uD (xs ys:List Rat):Prop:=∃k j k' j':Nat,qe k j xs/\qe k' j' ys/\(k+k')+(j+j')<=3930000
theorem uD.sys (h:qe 400 120 xs) (h':qe 1800000 1800000 ys):uD xs ys:=#[_,_,_,_,h,h',()]
end
def Dk (mv pt lk:_m):Prop:=∃M V:Nat,0 < M/\M<=2^400/\V<=2^120/\GF M V mv/\GF M V pt/\GF M V lk
theorem Dk.fits (h:Dk mv pt lk) (hl:∀x∈l,(∃xs∈mv,x∈xs)\/(∃xs∈pt,x∈xs)\/(∃xs∈lk,x∈xs)\/x=0):qe 400 120 l:=by
 obtain M|V|h0|h1|h2|g1|g2|g3:=h;refine #[M,V,h0,h1,h2,λx hx=>?_];rcases hl x hx with ⟨xs,a,b⟩ | ⟨xs,a,b⟩ | ⟨xs,a,b⟩ | rfl
 ·show g1 xs a x b
 ·show g2 xs a x b
 ·show g3 xs a x b
 ·show Fr.zero
theorem Dk.sf (h:Dk mv pt lk):wM mv pt lk:=by obtain M|V|a|b|c|d:=h;show #[M,V,a,ag b (ak () ()),ag c (ak () ()),d]
inductive Fs (K:_g) (vs:List V) (H:Hp) (Q:VK) (E9:XK):Prop
 | mk (p q:Addr) (xs ys:List Rat):vs=[.ref p,.ref q]->cA K H p xs->cA K H q ys->ys.9=xs.9->xs.9<=1000->uD xs ys->(∀r H',aG H H'->cg K H' (fe xs ys) (.ref r)->Q (.ref r) H')->Fs K vs H Q E9
inductive Fq (K:_g) (vs:List V) (H:Hp) (Q:VK) (E9:XK):Prop
 | mk (p q:Addr) (H0:Hp) (rows:_m) (ys:List Rat):vs=[.ref p,.ref q]->bf K H0 H p rows->cA K H q ys->rows.9<=1000->ys.9<=1000->((∀xs∈rows,xs.9=ys.9/\uD xs ys))->(∀r H',H r=none->aG H H'->cA K H' r (rows.12 λxs=>fe xs ys)->Q (.ref r) H')->Fq K vs H Q E9
inductive Et (K:_g) (C:Addr) (vs:List V) (H:Hp) (Q:VK) (E9:XK):Prop
 | mk (x p q:Addr) (H0:Hp) (mv pt lk:_m) (st pu:List Rat):vs=[.ref x,.ref p,.ref q]->ip K H0 H C x mv pt lk->eO mv pt lk->Dk mv pt lk->cA K H p st->cA K H q pu->st.9=mv.9->pu.9=pt.9->qe 1800000 1800000 (st++pu)->(∀r H',H r=none->aG H H'->cA K H' r (c7 mv pt st pu)->Q (.ref r) H')->Et K C vs H Q E9
inductive Ip (K:_g) (C:Addr) (vs:List V) (H:Hp) (Q:VK) (E9:XK):Prop
 | mk (x p:Addr) (H0:Hp) (mv pt lk:_m) (st:List Rat):vs=[.ref x,.ref p]->ip K H0 H C x mv pt lk->eO mv pt lk->Dk mv pt lk->cA K H p st->st.9=mv.9->qe 1800000 1800000 st->(∀r H',H r=none->aG H H'->cA K H' r (L2.seenQ lk st)->Q (.ref r) H')->Ip K C vs H Q E9
theorem AL (h:GF M W rows):GF M W (a9 rows w):=λys hy y hy'=>by
 obtain j|_|rfl:=au.mp hy;obtain xs|hx|rfl:=au.mp hy';rw[aa];cases e:xs[j]? with
 | none=>show Fr.zero
 | some z=>show h xs hx z (ai e)
theorem EU {l:List Rat} (h:∀x∈l,Dr (2^c) x) (hc:c<=20):∃B:Nat,0 < B/\B<=2^(c*l.9+2)/\∀x∈l,Fr B (2^22) x:=by
 obtain M|h0|h1|h2:=S8 (c:=c) (n:=l.9) (i:=0) (rows:=[]) V9 rfl h hc;refine #[M,h0,?_,h2 l (by simp)];rw[Nk,yN] at h1;show h1
theorem ni {α β:Type} {F:α->β->Prop}:∀{l1:List α} {l2:List β} (_:Y9 F l1 l2) (k:Nat),Y9 F (l1.37 k) (l2.37 k)
 | _,_,h,0=>h
 | _,_,.nil,_+1=>.nil
 | _,_,.cons _ r,k+1=>ni r k
end L2
namespace L2
abbrev kY:=Nat->Rat
def Dj (F:List kY->Rat) (r:Nat):List kY->List kY->Rat->Rat
 | _,[],_=>0
 | pre,v :: post,s=>s*v r*F (pre++post)+Dj F r (pre++[v]) post (-s)
def uF:List Nat->List kY->Rat
 | [],[]=>1
 | [],_ :: _=>0
 | r :: rs,vs=>Dj (λws=>uF rs ws) r [] vs 1
theorem Gx:uF [] (a++x :: b)=0:=by
 cases a <;> rfl
theorem Gg {F:List kY->Rat} {r:Nat} {f g h:kY} {x y:Rat} (hF:∀a b,F (a++h :: b)=x*F (a++f :: b)+y*F (a++g :: b)):∀(b p q:List kY) (s:Rat),Dj F r (p++h :: q) b s=x*Dj F r (p++f :: q) b s+y*Dj F r (p++g :: q) b s
 | [],p,q,s=>by simp only[Dj,fq,v5]
 | v :: b,p,q,s=>by
  have i1:=hF p (q++b);have i2:=Gg (r:=r) hF b p (q++[v]) (-s);simp only[Dj,cv,fV] at i1 i2 ⊢;rw[i1,i2];grind
theorem MF {F:List kY->Rat} {r:Nat} {f g h:kY} {x y:Rat} (hF:∀a b,F (a++h :: b)=x*F (a++f :: b)+y*F (a++g :: b)) (hr:h r=x*f r+y*g r):∀(a pre b:List kY) (s:Rat),Dj F r pre (a++h :: b) s=x*Dj F r pre (a++f :: b) s+y*Dj F r pre (a++g :: b) s
 | [],pre,b,s=>by
  have i2:=Gg (r:=r) hF b pre [] (-s);simp only[Dj,cX] at i2 ⊢;rw[i2,hr];grind
 | v :: a,pre,b,s=>by
  have i1:=hF (pre++a) b;have i2:=MF hF hr a (pre++[v]) b (-s);simp only[Dj,cv,fV] at i1 i2 ⊢;rw[i1,i2];grind
theorem xH {f g h:kY} {x y:Rat}:∀{rs:List Nat},(∀r∈rs,h r=x*f r+y*g r)->∀a b,uF rs (a++h :: b)=x*uF rs (a++f :: b)+y*uF rs (a++g :: b)
 | [],_,a,b=>by rw[Gx,Gx,Gx];grind
 | r :: rs,hr,a,b=>MF (λa b=>xH (λr' h'=>hr r' (.tail _ h')) a b) (hr r (.head _)) a [] b 1
theorem Gv (hr:∀r∈rs,h r=0) (a b:List kY):uF rs (a++h :: b)=0:=by
 rw[xH (f:=h) (g:=h) (x:=0) (y:=0) (λr h'=>by rw[hr r h'];grind) a b];grind
theorem MG {F:List kY->Rat} {r:Nat} {x:kY} (hF:∀a b,F (a++x :: x :: b)=0):∀(b p q:List kY) (s:Rat),Dj F r (p++x :: x :: q) b s=0
 | [],p,q,s=>rfl
 | v :: b,p,q,s=>by
  have i1:=hF p (q++b);have i2:=MG (r:=r) hF b p (q++[v]) (-s);simp only[Dj,cv,fV] at i1 i2 ⊢;rw[i1,i2];grind
theorem MH {F:List kY->Rat} {r:Nat} {x:kY} (hF:∀a b,F (a++x :: x :: b)=0):∀(a pre b:List kY) (s:Rat),Dj F r pre (a++x :: x :: b) s=0
 | [],pre,b,s=>by
  have i2:=MG (r:=r) hF b pre [] (- -s);simp only[Dj,cX,cv,fV] at i2 ⊢;rw[i2];grind
 | v :: a,pre,b,s=>by
  have i1:=hF (pre++a) b;have i2:=MH (r:=r) hF a (pre++[v]) b (-s);simp only[Dj,cv,fV] at i1 i2 ⊢;rw[i1,i2];grind
theorem CU {x:kY}:∀{rs:List Nat} (a b:List kY),uF rs (a++x :: x :: b)=0
 | [],a,b=>Gx
 | r :: rs,a,b=>MH (λa b=>CU a b) a [] b 1
theorem Th (a b:List kY):uF rs (a++x :: y :: b)=- uF rs (a++y :: x :: b):=by
 have hr:∀r∈rs,(λr=>1*x r+1*y r) r=1*x r+1*y r:=λ_ _=>rfl
 have h0:=CU (x:=λr=>1*x r+1*y r) (rs:=rs) a b;have h1:=xH hr a ((λr=>1*x r+1*y r) :: b);have h2:=xH hr (a++[x]) b;have h3:=xH hr (a++[y]) b;have h4:=CU (x:=x) (rs:=rs) a b;have h5:=CU (x:=y) (rs:=rs) a b;simp only[cv,fV,cX] at h0 h1 h2 h3 h4 h5;rw[h1,h2,h3,h4,h5] at h0;grind
theorem Gy {x:kY} {rs:List Nat}:∀(b a c:List kY),uF rs (a++x :: (b++x :: c))=0
 | [],a,c=>CU a c
 | y :: b,a,c=>by
  have:=Gy (x:=x) (rs:=rs) b (a++[y]) c;simp only[cv,fV,cX] at this;rw[fV,Th,this];rfl
def aU:Nat->(Nat->Rat)->Rat
 | 0,_=>0
 | k+1,f=>aU k f+f k
theorem aE {f g:Nat->Rat}:∀{k:Nat},(∀j,j < k->f j=g j)->aU k f=aU k g
 | 0,_=>rfl
 | k+1,h=>by
  change aU k f+f k=aU k g+g k
  rw[aE λj hj=>h j (),h k ()]
theorem fX {f g:Nat->Rat}:∀{k:Nat},aU k (λj=>f j+g j)=aU k f+aU k g
 | 0=>by change (0:Rat)=0+0;grind
 | k+1=>by
  change aU k (λj=>f j+g j)+_=(aU k f+f k)+(aU k g+g k)
  rw[fX];grind
theorem bT {f:Nat->Rat} {c:Rat}:∀{k:Nat},aU k (λj=>c*f j)=c*aU k f
 | 0=>by change (0:Rat)=c*0;grind
 | k+1=>by
  change aU k (λj=>c*f j)+_=c*(aU k f+f k)
  rw[bT];grind
theorem bQ {f:Nat->Rat}:∀{k:Nat},(∀j,j < k->f j=0)->aU k f=0
 | 0,_=>rfl
 | k+1,h=>by
  change aU k f+f k=0
  rw[bQ λj hj=>h j (),h k ()];grind
theorem iV {f:Nat->Rat} {i:Nat}:∀{k:Nat},i < k->(∀j,j < k->j≠i->f j=0)->aU k f=f i
 | k+1,hi,h=>by
  change aU k f+f k=f i
  by_cases e:i=k
  ·subst e;rw[bQ λj hj=>h j () ()];grind
  ·rw[iV () λj hj=>h j (),h k () (λz=>e z.26)];grind
theorem ff {f:Nat->Nat->Rat} {m:Nat}:∀{k:Nat},aU k (λi=>aU m (f i))=aU m (λj=>aU k λi=>f i j)
 | 0=>(bQ λ_ _=>rfl).26
 | k+1=>by
  change aU k (λi=>aU m (f i))+aU m (f k)=aU m (λj=>aU k (λi=>f i j)+f k j)
  rw[ff,fX]
theorem Lo {rs:List Nat} {W:kY} {v:Nat->kY} {c:Nat->Rat} (a b:List kY):∀{k:Nat} {W:kY},(∀r∈rs,W r=aU k λj=>c j*v j r)->uF rs (a++W :: b)=aU k λj=>c j*uF rs (a++v j :: b)
 | 0,W,h=>Gv h a b
 | k+1,W,h=>by
  rw[xH (f:=λr=>aU k λj=>c j*v j r) (g:=v k) (x:=1) (y:=c k) (λr hr=>by rw[h r hr];change aU k _+_=_;grind) a b,Lo a b (k:=k) (W:=λr=>aU k λj=>c j*v j r) λr _=>rfl];change _=aU k _+_
  grind
end L2
namespace L2
open Nm
def zw (f:Nat->Nat):Nat->List Nat
 | 0=>[]
 | k+1=>f k :: zw f k
def tY (v:Nat->kY):Nat->List kY
 | 0=>[]
 | k+1=>v k :: tY v k
def OG (v:Nat->kY) (i:Nat):Nat->List kY
 | 0=>[]
 | k+1=>if k<=i then [] else v k :: OG v i k
theorem vw {f:Nat->Nat}:∀{k:Nat},(zw f k).9=k
 | 0=>rfl
 | k+1=>by change (zw f k).9+1=_;rw[vw]
theorem g! {v:Nat->kY}:∀{k:Nat},(tY v k).9=k
 | 0=>rfl
 | k+1=>by change (tY v k).9+1=_;rw[g!]
theorem qZ {f:Nat->Nat} {r:Nat}:∀{k:Nat},r∈zw f k->∃t,t < k/\r=f t
 | k+1,h=>by
  rcases ax.mp h with h | h
  ·show #[k,(),h]
  ·obtain t|a|b:=qZ h;show #[t,(),b]
theorem IM {f g:Nat->Nat}:∀{k:Nat},(∀j,j < k->f j=g j)->zw f k=zw g k
 | 0,_=>rfl
 | k+1,h=>by
  change f k :: zw f k=g k :: zw g k
  rw[h k (),IM λj hj=>h j ()]
theorem V! {f g:Nat->kY}:∀{k:Nat},(∀j,j < k->f j=g j)->tY f k=tY g k
 | 0,_=>rfl
 | k+1,h=>by
  change f k :: tY f k=g k :: tY g k
  rw[h k (),V! λj hj=>h j ()]
theorem aaW {v:Nat->kY} {j:Nat}:∀{k:Nat},j < k->v j∈tY v k
 | k+1,h=>by
  by_cases e:j=k
  ·subst e;show .head _
  ·show .tail _ (aaW ())
theorem L! {v:Nat->kY} {x:kY}:∀{k:Nat},x∈tY v k->∃t,t < k/\x=v t
 | k+1,h=>by
  rcases ax.mp h with h | h
  ·show #[k,(),h]
  ·obtain t|a|b:=L! h;show #[t,(),b]
theorem QQ {v:Nat->kY} {i j:Nat} (h1:i < j):∀{k:Nat},j < k->v j∈OG v i k
 | k+1,h=>by
  change v j∈if k<=i then [] else v k :: OG v i k
  rw[if_neg ()];by_cases e:j=k
  ·subst e;show .head _
  ·show .tail _ (QQ h1 ())
theorem JM {v:Nat->kY} {i:Nat} {x:kY}:∀{k:Nat},x∈OG v i k->∃t,t < k/\x=v t
 | k+1,h=>by
  have h:x∈if k<=i then [] else v k :: OG v i k:=h
  split at h
  ·cases h
  ·rcases ax.mp h with h | h
   ·show #[k,(),h]
   ·obtain t|a|b:=JM h;show #[t,(),b]
theorem _V {v:Nat->kY} {i:Nat}:∀{k:Nat},i < k->tY v k=OG v i k++v i :: tY v i
 | k+1,h=>by
  change v k :: tY v k=(if k<=i then [] else v k :: OG v i k)++_
  by_cases e:i=k
  ·subst e;rw[if_pos (ah _)];rfl
  ·rw[if_neg (),_V (k:=k) (i:=i) ()];rfl
theorem ET {c:Nat->Rat} (hi:i < k) (hW:∀r∈rs,W r=aU k λj=>c j*v j r):uF rs (OG v i k++W :: tY v i)=c i*uF rs (tY v k):=by
 rw[Lo (v:=v) (c:=c) (W:=W) _ _ hW,iV hi λj hj ne=>?_,_V hi];rcases aX j i with h | h
 ·obtain s|t|e:=Kw (aaW (v:=v) h);rw[e,Gy];grind
 ·obtain s|t|e:=Kw (QQ (v:=v) (show i < j by lia) hj);have:=Gy (x:=v j) (rs:=rs) t s (tY v i);rw[e,cv,fV,this];grind
theorem Wn {c:Nat->Rat} (hW:∀r∈rs,W r=aU k λj=>c j*v j r):uF rs (W :: tY v k)=0:=by
 have:=Lo (v:=v) (c:=c) (W:=W) [] (tY v k) hW;rw[cX] at this;rw[this];refine bQ λj hj=>?_
 obtain s|t|e:=Kw (aaW (v:=v) hj);have:=Gy (x:=v j) (rs:=rs) s [] t;rw[cX] at this;rw[e,cX,this];grind
theorem N7 {c:Nat->Rat} (hi:i∉rs) (h1:W i=aU k (λj=>c j*v j i)+s) (hW:∀r∈rs,W r=aU k λj=>c j*v j r):uF (i :: rs) (W :: tY v k)=s*uF rs (tY v k):=by
 have e:=xH (rs:=i :: rs) (h:=W) (f:=λr=>aU k λj=>c j*v j r) (g:=λr=>if r=i then 1 else 0) (x:=1) (y:=s) (λr hr=>by
  rcases ax.mp hr with rfl | hr
  ·rw[h1,if_pos rfl];grind
  ·rw[hW r hr,if_neg (λz=>hi (by rw[<- z];show hr))];grind) [] (tY v k)
 rw[cX,cX,cX,Wn (c:=c) λr _=>rfl] at e
 have e2:uF (i :: rs) ((λr=>if r=i then (1:Rat) else 0) :: tY v k)=uF rs (tY v k):=by
  change 1*(if i=i then (1:Rat) else 0)*uF rs ([]++tY v k)+Dj (λws=>uF rs ws) i ([]++[λr=>if r=i then (1:Rat) else 0]) (tY v k) (-1)=_
  have hF:∀a b,(λws=>uF rs ws) (a++(λr=>if r=i then (1:Rat) else 0) :: b)=0*(λws=>uF rs ws) (a++(λr=>if r=i then (1:Rat) else 0) :: b)+0*(λws=>uF rs ws) (a++(λr=>if r=i then (1:Rat) else 0) :: b):=λa b=>by
   have:=Gv (h:=λr=>if r=i then (1:Rat) else 0) (rs:=rs) (λr hr=>if_neg λz=>hi (by rw[<- z];show hr)) a b
   dsimp only
   rw[this];grind
  have:=Gg (r:=i) hF (tY v k) [] [] (-1);rw[this,if_pos rfl,cX];grind
 rw[e2] at e;rw[e];grind
theorem Ut {F:List kY->Rat} {r B W:Nat}:∀{post pre:List kY} {s:Rat},(∀ws,(∀w∈ws,w∈pre++post)->ws.9+1=(pre++post).9->Fr 1 B (F ws))->(∀w∈post,Fr 1 W (w r))->Fr 1 1 s->Fr 1 (post.9*(W*B)) (Dj F r pre post s)
 | [],pre,s,_,_,_=>by change Fr 1 _ 0;show Fr.zero
 | v :: post,pre,s,hF,hw,hs=>by
  have t1:Fr 1 (W*B) (s*v r*F (pre++post)):=by
   have:=(hs.mul (hw v (.head _))).mul (hF (pre++post) (λw h=>by
    rcases aB.mp h with h | h
    ·show mQ _ h
    ·show bV _ (.tail _ h)) (by simp only[ar,bH];lia))
   simpa using this
  have t2:=Ut (F:=F) (r:=r) (B:=B) (W:=W) (post:=post) (pre:=pre++[v]) (s:=-s) (λws h h'=>hF ws (λw hw=>by simpa using h w hw) (by simpa using h')) (λw h=>hw w (.tail _ h)) (by simpa using hs.neg);show (t1.add t2).24 (by rw[bH,ir];lia)
theorem CT {W N:Nat}:∀{rs:List Nat} {vs:List kY},vs.9<=N->(∀v∈vs,∀r∈rs,Fr 1 W (v r))->Fr 1 ((N*W)^rs.9) (uF rs vs)
 | [],[],_,_=>by change Fr 1 1 1;show (Fr.int (i:=1) ())
 | [],_ :: _,_,_=>by change Fr 1 _ 0;show Fr.zero
 | r :: rs,vs,hl,h=>by
  have:=Ut (F:=λws=>uF rs ws) (r:=r) (B:=(N*W)^rs.9) (W:=W) (post:=vs) (pre:=[]) (s:=1) (λws h1 h2=>CT (by rw[cX] at h2;lia) λv hv r' hr'=>h v (by simpa using h1 v hv) r' (.tail _ hr')) (λw hw=>h w hw r (.head _)) (Fr.int (i:=1) ());refine this.24 ?_;rw[bH,c8,bE ((N*W)^rs.9),cJ N];show ay _ hl
structure AH (a:Nat->Nat->Rat) (m k:Nat) (pm p:Nat->Nat) (l:Nat->Nat->Rat) (d:Rat):Prop where
 inj:∀i j,i < m->j < m->pm i=pm j->i=j
 Q!:∀i,i < m->pm i < m
 km:k<=m
 d0:d≠0
 det:d=uF (zw pm k) (tY (λj r=>a r (p j)) k)
 eqs:∀i,i < m->∀c,d*a (pm i) c=aU k (λj=>a (pm i) (p j)*l j c)+if i < k then 0 else l i c
 unit:∀i,i < m->∀j,j < k->l i (p j)=if i=j then d else 0
section
variable {a l:Nat->Nat->Rat} {m k:Nat} {pm p:Nat->Nat} {d:Rat}
theorem AH.start (h:∀i,i < m->pm i=i):AH a m 0 pm p a 1 where
 inj i j hi hj e:=by rw[h i hi,h j hj] at e;show e
 Q! i hi:=by rw[h i hi];show hi
 km:=aW _
 d0:=()
 det:=rfl
 eqs i hi c:=by
  rw[h i hi,if_neg ()];change 1*a i c=0+a i c
  grind
 unit i _ j hj:=absurd hj ()
theorem AH.aap (B:AH a m k pm p l d) (hi:i < m):a (pm i) c=aU k (λj=>(l j c / d)*a (pm i) (p j))+if i < k then 0 else l i c / d:=by
 have h:=B.eqs i hi c;have d0:=B.d0
 have e:aU k (λj=>(l j c / d)*a (pm i) (p j))=(1 / d)*aU k (λj=>a (pm i) (p j)*l j c):=by
  rw[<- bT];show aE λj _=>by grind
 rw[e]
 split at h
 ·rw[if_pos (by assumption)];grind
 ·rw[if_neg (by assumption)];grind
theorem AH.old (B:AH a m k pm p l d) (hi:i < k):l i c=uF (zw pm k) (OG (λj r=>a r (p j)) i k++(λr=>a r c) :: tY (λj r=>a r (p j)) i):=by
 have km:=B.km;have d0:=B.d0;rw[ET (v:=λj r=>a r (p j)) (c:=λj=>l j c / d) hi λr hr=>?_,<- B.det]
 ·grind
 ·obtain t|ht|rfl:=qZ hr;have:=B.aap (i:=t) (c:=c) ();rw[if_pos ht] at this;rw[this];grind
theorem AH.new (B:AH a m k pm p l d) (h1:k<=i) (hi:i < m):l i c=uF (pm i :: zw pm k) ((λr=>a r c) :: tY (λj r=>a r (p j)) k):=by
 have km:=B.km;have d0:=B.d0
 have hn:pm i∉zw pm k:=λhm=>by
  obtain t|ht|e:=qZ hm;have:=B.inj i t hi () e
  lia
 have e1:a (pm i) c=aU k (λj=>(l j c / d)*a (pm i) (p j))+l i c / d:=by
  have:=B.aap (i:=i) (c:=c) hi;rwa [if_neg ()] at this
 have e2:∀r∈zw pm k,a r c=aU k (λj=>(l j c / d)*a r (p j)):=λr hr=>by
  obtain t|ht|rfl:=qZ hr;have:=B.aap (i:=t) (c:=c) ();rw[if_pos ht] at this;rw[this];grind
 rw[N7 (v:=λj r=>a r (p j)) (c:=λj=>l j c / d) (W:=λr=>a r c) (s:=l i c / d) hn e1 e2,<- B.det];grind
theorem AH.fr (B:AH a m k pm p l d) (hN:k < N) (hW:1<=W) (ha:∀i,i < m->∀c,Fr 1 W (a i c)) (hi:i < m):Fr 1 ((N*W)^(k+1)) (l i c):=by
 have km:=B.km;have mono:∀t,t<=k+1->(N*W)^t<=(N*W)^(k+1):=λt ht=>ak (bY () hW) ht
 have ha':∀r∈zw pm k,∀c,Fr 1 W (a r c):=λr hr c=>by
  obtain t|ht|rfl:=qZ hr;show ha _ (B.Q! t ()) c
 by_cases h:i < k
 ·rw[B.old h];refine (CT (W:=W) (N:=N) ?_ ?_).24 (mono _ (by rw[vw];lia))
  ·have:=congrArg Z7 (_V (v:=λj r=>a r (p j)) h);rw[ar,bH,g!] at this;rw[ar,bH]
   lia
  ·intro v hv r hr;rcases aB.mp hv with hv | hv
   ·obtain t|_|rfl:=JM hv;show ha' r hr _
   ·rcases ax.mp hv with rfl | hv
    ·show ha' r hr _
    ·obtain t|_|rfl:=L! hv;show ha' r hr _
 ·rw[B.new () hi];refine (CT (W:=W) (N:=N) ?_ ?_).24 (mono _ (by rw[bH,vw];lia))
  ·rw[bH,g!]
   lia
  ·intro v hv r hr
   have hr':∀c,Fr 1 W (a r c):=λc=>by
    rcases ax.mp hr with rfl | hr
    ·show ha _ (B.Q! i hi) c
    ·show ha' r hr c
   rcases ax.mp hv with rfl | hv
   ·show hr' _
   ·obtain t|_|rfl:=L! hv;show hr' _
theorem AH.dfr (B:AH a m k pm p l d) (hN:k<=N) (ha:∀i,i < m->∀c,Fr 1 W (a i c)):Fr 1 ((N*W)^k) d:=by
 have km:=B.km;rw[B.det]
 have:=CT (W:=W) (N:=N) (rs:=zw pm k) (vs:=tY (λj r=>a r (p j)) k) (by rw[g!];show hN) λv hv r hr=>by
  obtain t|ht|rfl:=qZ hr;obtain t'|_|rfl:=L! hv;show ha _ (B.Q! t ()) _
 rwa [vw] at this
def jW (k t i:Nat):Nat:=if i=k then t else if i=t then k else i
theorem qg (hk:k < m) (ht:t < m) (hi:i < m):jW k t i < m:=by
 unfold jW
 split
 ·show ht
 ·split
  ·show hk
  ·show hi
theorem U5 (h:jW k t i=jW k t j):i=j:=by
 unfold jW at h
 split at h <;> split at h <;> (try split at h) <;> (try split at h) <;> lia
theorem wZ (h:k<=t) (hi:i < k):jW k t i=i:=by
 unfold jW;rw[if_neg (),if_neg ()]
theorem xR (h:k<=t) (hi:k<=i):k<=jW k t i:=by
 unfold jW
 split
 ·show h
 ·split <;> lia
theorem AH.swap (B:AH a m k pm p l d) {t:Nat} (h:k<=t) (ht:t < m):AH a m k (λi=>pm (jW k t i)) p (λi=>l (jW k t i)) d where
 inj i j hi hj e:=U5 (B.inj _ _ (qg () ht hi) (qg () ht hj) e)
 Q! i hi:=B.Q! _ (qg () ht hi)
 km:=B.km
 d0:=B.d0
 det:=by rw[B.det,IM (f:=pm) (g:=λi=>pm (jW k t i)) λj hj=>by rw[wZ h hj]]
 eqs i hi c:=by
  have e:=B.eqs (jW k t i) (qg () ht hi) c;have e1:aU k (λj=>a (pm (jW k t i)) (p j)*l (jW k t j) c)=aU k (λj=>a (pm (jW k t i)) (p j)*l j c):=aE λj hj=>by rw[wZ h hj]
  rw[e1];by_cases hk:i < k
  ·rw[wZ h hk] at e ⊢;show e
  ·rw[if_neg hk];rw[if_neg (by have:=xR h (show k<=i by lia);lia)] at e;show e
 unit i hi j hj:=by
  rw[B.52 _ (qg () ht hi) j hj];by_cases hk:i < k
  ·rw[wZ h hk]
  ·have:=xR h (show k<=i by lia);rw[if_neg (),if_neg ()]
theorem AH.step (B:AH a m k pm p l d) {c0:Nat} (hk:k < m) (h0:l k c0≠0):AH a m (k+1) pm (λj=>if j=k then c0 else p j) (λi c=>if i=k then l k c else (l k c0*l i c - l i c0*l k c) / d) (l k c0) where
 inj:=B.inj
 Q!:=B.Q!
 km:=hk
 d0:=h0
 det:=by
  rw[B.new (ah _) hk];change _=uF (pm k :: zw pm k) ((λr=>a r (if k=k then c0 else p k)) :: tY _ k)
  rw[if_pos rfl];congr 2;show V! λj hj=>by rw[if_neg (show j≠k by lia)]
 eqs i hi c:=by
  have d0:=B.d0;have e1:=B.eqs i hi c;have e2:=B.eqs i hi c0;change l k c0*a (pm i) c=(aU k _+_)+_
  have s1:aU k (λj=>a (pm i) (if j=k then c0 else p j)*(if j=k then l k c else (l k c0*l j c - l j c0*l k c) / d))=(l k c0 / d)*aU k (λj=>a (pm i) (p j)*l j c)+(- l k c / d)*aU k (λj=>a (pm i) (p j)*l j c0):=by
   rw[<- bT,<- bT,<- fX];refine aE λj hj=>?_
   rw[if_neg (show j≠k by lia),if_neg (show j≠k by lia)];grind
  rw[s1];simp only[if_true];generalize aU k (λj=>a (pm i) (p j)*l j c)=S1 at e1 ⊢;generalize aU k (λj=>a (pm i) (p j)*l j c0)=S2 at e2 ⊢;rcases mE i k with h | h | h
  ·rw[if_pos h] at e1 e2;rw[if_pos ()];grind
  ·subst h;rw[if_neg ()] at e1 e2;rw[if_pos ()];grind
  ·rw[if_neg ()] at e1 e2;rw[if_neg (),if_neg ()];grind
 unit i hi j hj:=by
  have d0:=B.d0;by_cases e:j=k
  ·subst e;simp only[if_true];by_cases ei:i=j
   ·rw[if_pos ei,if_pos ei]
   ·rw[if_neg ei,if_neg ei];grind
  ·have X!:j < k:=()
   rw[if_neg e];by_cases ei:i=k
   ·rw[if_pos ei,B.52 k hk j X!,if_neg (),if_neg ()]
   ·rw[if_neg ei,B.52 i hi j X!,B.52 k hk j X!,if_neg (show k≠j by lia)]
    split
    ·grind
    ·grind
end
def dA (m:Nat) (a:Nat->Nat->Rat) (x:Nat->Rat):Prop:=∃w:Nat->Rat,∀c,x c=aU m λt=>w t*a t c
theorem dA.row (hi:i < m):dA m a (a i):=#[λt=>if t=i then 1 else 0,λc=>by
 rw[iV hi λj _ ne=>by dsimp only;rw[if_neg ne];grind]
 dsimp only
 rw[if_pos rfl];grind]
theorem dA.lin (α β:Rat) (hx:dA m a x) (hy:dA m a y):dA m a λc=>α*x c+β*y c:=by
 obtain w|hw:=hx;obtain v|hv:=hy;refine #[λt=>α*w t+β*v t,λc=>?_]
 dsimp only
 rw[hw c,hv c,<- bT,<- bT,<- fX];show aE λj _=>by grind
theorem dA.congr (h:∀c,x c=y c) (hx:dA m a x):dA m a y:=by obtain w|hw:=hx;show #[w,λc=>by rw[<- h c];show hw c]
theorem dA.trans (h:∀t,t < m'->dA m a (b t)) (hx:dA m' b x):dA m a x:=by
 obtain v|hv:=hx
 have h2:∀t,∃w:Nat->Rat,t < m'->∀c,b t c=aU m λs=>w s*a s c:=λt=>by
  by_cases ht:t < m'
  ·obtain w|hw:=h t ht;show #[w,λ_=>hw]
  ·show #[λ_=>0,λz=>absurd z ht]
 have hc:=Classical.axiomOfChoice h2;obtain w|hw:=hc;refine #[λs=>aU m' λt=>v t*w t s,λc=>?_];rw[hv c];have e1:aU m' (λt=>v t*b t c)=aU m' (λt=>aU m λs=>v t*(w t s*a s c)):=aE λt ht=>by rw[hw t ht c,<- bT]
 rw[e1,ff];refine aE λs _=>?_
 have:aU m' (λt=>v t*w t s)*a s c=a s c*aU m' (λt=>v t*w t s):=cL ..;rw[this,<- bT];show aE λt _=>by grind
theorem dA.zero (h:∀c,x c=0):dA m a x:=#[λ_=>0,λc=>by rw[h c,bQ λ_ _=>by grind]]
structure Fb (m n:Nat) (a:Nat->Nat->Rat) (k:Nat) (p:Nat->Nat) (R:Nat->Nat->Rat):Prop where
 inc:∀i j,i < j->j < k->p i < p j
 low:∀j,j < k->p j < n
 unit:∀i,i < k->∀j,j < k->R i (p j)=if i=j then 1 else 0
 lead:∀i,i < k->∀c,c < p i->R i c=0
 span:∀i,i < m->dA k R (a i)
 back:∀i,i < k->dA m a (R i)
section
variable {m m' k k' n:Nat} {a a' R R':Nat->Nat->Rat} {p p':Nat->Nat} {x:Nat->Rat}
theorem Fb.aap (h:Fb m n a k p R) (hx:dA k R x) (c:Nat):x c=aU k λj=>x (p j)*R j c:=by
 obtain w|hw:=hx;rw[hw c];refine aE λj hj=>?_
 rw[hw (p j),iV hj λt ht ne=>by rw[h.52 t ht j hj,if_neg ne];grind,h.52 j hj j hj,if_pos rfl];grind
theorem Fb.P! (h:Fb m n a k p R) (hx:dA k R x) (h1:x c≠0) (h0:∀c',c' < c->x c'=0):∃j,j < k/\p j=c:=by
 refine ZC λhn=>h1 ?_
 rw[h.aap hx c];refine bQ λj hj=>?_
 rcases mE (p j) c with z | z | z
 ·rw[h0 _ z];grind
 ·show absurd #[j,hj,z] hn
 ·rw[h.lead j hj c z];grind
theorem inc_le (h1:∀i j,i < j->j < k->p i < p j) (h2:∀i j,i < j->j < k'->p' i < p' j) (hs:∀j,j < k'->∃i,i < k/\p i=p' j):∀{j:Nat},j < k'->∀{i:Nat},i < k->p i=p' j->j<=i
 | 0,_,_,_,_=>aW _
 | j+1,hj,i,hi,e=>by
  obtain i0|hi0|e0:=hs j ();have:=inc_le h1 h2 hs (j:=j) () hi0 e0;have lt:=h2 j (j+1) () hj;rcases mE i0 i with z | z | z
  ·lia
  ·subst z;lia
  ·have:=h1 i i0 z hi0;lia
theorem Qd (h1:∀i j,i < j->j < k->p i < p j) (h:i<=j) (hj:j < k):p i<=p j:=by
 rcases aX i j with z | z
 ·show dm (h1 i j z hj)
 ·have:i=j:=()
  rw[this];show ah _
theorem MQ (h1:∀i j,i < j->j < k->p i < p j) (h2:∀i j,i < j->j < k'->p' i < p' j) (hs:∀j,j < k'->∃i,i < k/\p i=p' j):k'<=k/\∀j,j < k'->p j<=p' j:=by
 refine #[?_,λj hj=>?_]
 ·rcases dE k' with z | z
  ·lia
  ·obtain i|hi|e:=hs (k' - 1) ();have:=inc_le h1 h2 hs (j:=k' - 1) () hi e
   lia
 ·obtain i|hi|e:=hs j hj;rw[<- e];show Qd h1 (inc_le h1 h2 hs hj hi e) hi
theorem Fb.uniq (h:Fb m n a k p R) (h':Fb m' n a' k' p' R') (s1:∀i,i < m->dA m' a' (a i)) (s2:∀i,i < m'->dA m a (a' i)):k=k'/\(∀j,j < k->p j=p' j)/\∀i,i < k->∀c,R i c=R' i c:=by
 have x1:∀i,i < k->dA k' R' (R i):=λi hi=>dA.trans (λt ht=>h'.span t ht) (dA.trans s1 (h.back i hi))
 have x2:∀i,i < k'->dA k R (R' i):=λi hi=>dA.trans (λt ht=>h.span t ht) (dA.trans s2 (h'.back i hi))
 have y1:∀j,j < k->∃i,i < k'/\p' i=p j:=λj hj=>h'.P! (x1 j hj) (by rw[h.52 j hj j hj,if_pos rfl];decide) (h.lead j hj)
 have y2:∀j,j < k'->∃i,i < k/\p i=p' j:=λj hj=>h.P! (x2 j hj) (by rw[h'.52 j hj j hj,if_pos rfl];decide) (h'.lead j hj)
 obtain z1|w1:=MQ h'.inc h.inc y1;obtain z2|w2:=MQ h.inc h'.inc y2;have ek:k=k':=Di z1 z2;subst ek;have ep:∀j,j < k->p j=p' j:=λj hj=>Di (w2 j hj) (w1 j hj)
 refine #[rfl,ep,λi hi c=>?_];rw[h.aap (x2 i hi) c,iV hi λj hj ne=>by rw[ep j hj,h'.52 i hi j hj,if_neg (λz=>ne z.26)];grind,ep i hi,h'.52 i hi i hi,if_pos rfl];grind
end
structure oT (a:Nat->Nat->Rat) (m k P:Nat) (p:Nat->Nat) (l:Nat->Nat->Rat) (d:Rat):Prop where
 km:k<=m
 d0:d≠0
 unit:∀i,i < m->∀j,j < k->l i (p j)=if i=j then d else 0
 inc:∀i j,i < j->j < k->p i < p j
 low:∀j,j < k->p j < P
 zero:∀i,k<=i->i < m->∀c,c < P->l i c=0
 lead:∀j,j < k->∀c,c < p j->l j c=0
 there:∀i,i < m->dA m l (a i)
 back:∀i,i < m->dA m a (l i)
section
variable {m k n P:Nat} {a l l':Nat->Nat->Rat} {p:Nat->Nat} {d d':Rat}
theorem oT.start:oT a m 0 0 p a 1 where
 km:=aW _
 d0:=()
 unit _ _ j hj:=absurd hj ()
 inc _ j _ hj:=absurd hj ()
 low j hj:=absurd hj ()
 zero _ _ _ c hc:=absurd hc ()
 lead j hj:=absurd hj ()
 there i hi:=dA.row hi
 back i hi:=dA.row hi
theorem oT.skip (E:oT a m k P p l d) (h:∀i,k<=i->i < m->l i P=0):oT a m k (P+1) p l d :=
 #[E.km,E.d0,E.52,E.inc,λj hj=>Nl (E.low j hj),λi h1 h2 c hc=>by
  by_cases e:c=P
  ·rw[e];show h i h1 h2
  ·show E.zero i h1 h2 c (),E.lead,E.56,E.back]
theorem Xn:jW k t (jW k t i)=i:=by
 unfold jW
 split
 ·split <;> (try split) <;> lia
 ·split
  ·rw[if_pos rfl];lia
  ·rfl
theorem oT.swap (E:oT a m k P p l d) {t:Nat} (h:k<=t) (ht:t < m):oT a m k P p (λi=>l (jW k t i)) d where
 km:=E.km
 d0:=E.d0
 unit i hi j hj:=by
  rw[E.52 _ (qg () ht hi) j hj];by_cases hk:i < k
  ·rw[wZ h hk]
  ·have:=xR h (show k<=i by lia);rw[if_neg (),if_neg ()]
 inc:=E.inc
 low:=E.low
 zero i h1 h2 c hc:=E.zero _ (xR h h1) (qg () ht h2) c hc
 lead j hj c hc:=by rw[wZ h hj];show E.lead j hj c hc
 there i hi:=dA.trans (λs hs=>dA.congr (λc=>by rw[Xn]) (dA.row (a:=λi=>l (jW k t i)) (i:=jW k t s) (qg () ht hs))) (E.56 i hi)
 back i hi:=E.back _ (qg () ht hi)
theorem oT.step (E:oT a m k P p l d) (hk:k < m) (h0:d'≠0) (acF:∀i,i < m->∀j,j < k+1->l' i (if j=k then P else p j)=if i=j then d' else 0)
  (hl:∀i,i < m->∃β γ:Rat,β≠0/\(i=k->γ=0)/\∀c,l' i c=β*l i c+γ*l k c):oT a m (k+1) (P+1) (λj=>if j=k then P else p j) l' d' where
 km:=hk
 d0:=h0
 unit:=acF
 inc i j hij hj:=by
  by_cases e:j=k
  ·rw[if_pos e,if_neg ()];show E.low i ()
  ·rw[if_neg e,if_neg ()];show E.inc i j hij ()
 low j hj:=by
  by_cases e:j=k
  ·rw[if_pos e];lia
  ·rw[if_neg e];show Nl (E.low j ())
 zero i h1 h2 c hc:=by
  by_cases e:c=P
  ·have:=acF i h2 k ();rw[if_pos rfl,if_neg ()] at this;rw[e];show this
  ·obtain β|γ|_|_|q:=hl i h2;rw[q c,E.zero i () h2 c (),E.zero k (ah _) hk c ()];grind
 lead j hj c hc:=by
  have km:=E.km;obtain β|γ|_|_|q:=hl j ();by_cases e:j=k
  ·rw[if_pos e] at hc;rw[q c,e,E.zero k (ah _) hk c hc];grind
  ·rw[if_neg e] at hc;have:=E.low j ();rw[q c,E.lead j () c hc,E.zero k (ah _) hk c ()];grind
 there i hi:=by
  refine dA.trans (λs hs=>?_) (E.56 i hi);obtain β|γ|b0|_|q:=hl s hs;obtain βk|γk|bk0|gk|qk:=hl k hk;have g0:=gk rfl;refine dA.congr (λc=>?_) (dA.lin (1 / β) (-(γ / β) / βk) (dA.row (a:=l') hs) (dA.row (a:=l') hk));rw[q c,qk c,g0];grind
 back i hi:=by
  obtain β|γ|_|_|q:=hl i hi;show dA.congr (λc=>(q c).26) (dA.lin β γ (E.back i hi) (E.back k hk))
theorem oT.done (E:oT a m k n p l d) (ha:∀i,i < m->∀c,n<=c->a i c=0):Fb m n a k p (λi c=>l i c / d) where
 inc:=E.inc
 low:=E.low
 unit i hi j hj:=by
  have d0:=E.d0;have km:=E.km;rw[E.52 i () j hj]
  split
  ·grind
  ·grind
 lead i hi c hc:=by
  rw[E.lead i hi c hc];grind
 span i hi:=by
  have d0:=E.d0;refine dA.trans (λs hs=>?_) (E.56 i hi);by_cases z:s < k
  ·refine dA.congr (λc=>?_) (dA.lin d 0 (dA.row (a:=λi c=>l i c / d) z) (dA.row (a:=λi c=>l i c / d) z));grind
  ·refine dA.zero λc=>?_
   by_cases hc:c < n
   ·show E.zero s () hs c hc
   ·obtain w|hw:=E.back s hs;rw[hw c,bQ λt ht=>by rw[ha t ht c ()];grind]
 back i hi:=by
  have km:=E.km;have d0:=E.d0;refine dA.congr (λc=>?_) (dA.lin (1 / d) 0 (E.back i ()) (E.back i ()));grind
end
def eY (ls:List (List Int)) (i c:Nat):Rat:=(((ls.4 i []).4 c 0:Int):Rat)
def bo (rows:_m) (i c:Nat):Rat:=(rows.4 i []).4 c 0
def sI (ls:List (List Int)) (k t:Nat):List (List Int):=(ls.30 k (ls.4 t [])).30 t (ls.4 k [])
def JQ (ls:List (List Int)) (k c:Nat) (b:Int):List (List Int):=(ls.12 λzs=>Wv (λx y=>((ls.4 k []).4 c 0*x - zs.4 c 0*y).fdiv b) zs (ls.4 k [])).30 k (ls.4 k [])
section
variable {b d:Int}
theorem nY {α:Type} {l:List α} {x e:α} (hi:i < l.9):(l.30 i x).4 j e=if j=i then x else l.4 j e:=by
 rw[aa,aa,List.getElem?_set];by_cases h:j=i
 ·subst h;rw[if_pos rfl,if_pos hi,if_pos rfl];rfl
 ·rw[if_neg (λz=>h z.26),if_neg h]
theorem yT:(sI ls k t).9=ls.9:=by unfold sI;rw[cN,cN]
theorem QU:(JQ ls k c b).9=ls.9:=by unfold JQ;rw[cN,af]
theorem getD_in {α:Type} {l:List α} {e:α} (h:i < l.9):l.4 i e∈l:=by
 rw[aa,ae h];show aw h
theorem Mf (w:∀zs∈ls,zs.9=n) (hk:k < ls.9) (ht:t < ls.9):∀zs∈sI ls k t,zs.9=n:=λzs hz=>by
 unfold sI at hz;rcases cD hz with h | h
 ·rcases cD h with h | h
  ·show w zs h
  ·rw[h];show w _ (getD_in ht)
 ·rw[h];show w _ (getD_in hk)
theorem M9 (w:∀zs∈ls,zs.9=n) (hk:k < ls.9):∀zs∈JQ ls k c b,zs.9=n:=λzs hz=>by
 unfold JQ at hz;rcases cD hz with h | h
 ·obtain y|hy|rfl:=au.mp h;rw[aJ,w y hy,w _ (getD_in hk)]
  lia
 ·rw[h];show w _ (getD_in hk)
theorem yz (hk:k < ls.9) (ht:t < ls.9) (i c:Nat):eY (sI ls k t) i c=eY ls (jW k t i) c:=by
 unfold eY sI jW;rw[nY (by rw[cN];show ht),nY hk];by_cases h1:i=t
 ·rw[if_pos h1];by_cases h2:i=k
  ·rw[if_pos h2,<- h1,<- h2]
  ·rw[if_neg h2,if_pos h1]
 ·rw[if_neg h1];by_cases h2:i=k
  ·rw[if_pos h2,if_pos h2]
  ·rw[if_neg h2,if_neg h2,if_neg h1]
theorem xG (w:∀zs∈ls,zs.9=n) (hc:n<=c):eY ls i c=0:=by
 unfold eY;by_cases h:i < ls.9
 ·have:=w _ (getD_in (e:=[]) h);rw[aa (l:=ls.4 i []),aA ()];rfl
 ·rw[aa (l:=ls),aA ()];rfl
theorem vJ {x:Int} (h:(x:Rat)=0):x=0:=by
 have:(x:Rat)=((0:Int):Rat):=h;show dG.mp this
theorem Lm {x b:Int} (hb:b≠0) (hq:∃z:Int,q=(z:Rat)) (e:(x:Rat)=(b:Rat)*q):((x.fdiv b:Int):Rat)=q:=by
 obtain z|rfl:=hq;rw[<- aV] at e;have:=dG.mp e;rw[this,Int.mul_fdiv_cancel_left _ hb]
theorem yy (h:Fr 1 W q):∃z:Int,q=(z:Rat):=by
 obtain z|e|_:=h;show #[z,by rw[<- e];simp]
theorem xF {z:Int} (h:Fr 1 W (z:Rat)):z.17<=W:=by
 obtain y|e|b:=h;have:(z:Rat)=(y:Rat):=by rw[<- e];simp
 rw[dG.mp this];simpa using b
theorem Qv (w:∀zs∈ls,zs.9=n) (hk:k < ls.9) (hb:b≠0) (hi:i < ls.9) (hz:∀c,∃z:Int,(eY ls k P*eY ls i c - eY ls i P*eY ls k c) / (b:Rat)=(z:Rat)) (c:Nat) :
  eY (JQ ls k P b) i c=if i=k then eY ls k c else (eY ls k P*eY ls i c - eY ls i P*eY ls k c) / (b:Rat):=by
 by_cases e:i=k
 ·rw[if_pos e];unfold eY JQ;rw[nY (by rw[af];show hk),if_pos e]
 ·rw[if_neg e];by_cases hc:c < n
  ·have hb':(b:Rat)≠0:=λz=>hb (vJ z)
   have lk:=w _ (getD_in (e:=[]) hk);have li:=w _ (getD_in (e:=[]) hi)
   have e1:eY (JQ ls k P b) i c=(((((ls.4 k []).4 P 0*(ls.4 i []).4 c 0 - (ls.4 i []).4 P 0*(ls.4 k []).4 c 0).fdiv b:Int)):Rat):=by
    unfold JQ;rw[eY,nY (by rw[af];show hk),if_neg e];rw[aa (l:=List.map _ ls),az,ae hi];change ((((Wv _ ls[i] (ls.4 k [])).4 c 0:Int)):Rat)=_
    have ei:ls.4 i []=ls[i]:=by rw[aa,ae hi];rfl
    rw[<- ei];rw[aa (l:=Wv _ _ _),bh,aa (l:=ls.4 i []) (i:=c),aa (l:=ls.4 k []) (i:=c),ae (show c < (ls.4 i []).9 by lia),ae (show c < (ls.4 k []).9 by lia)];rfl
   rw[e1];refine Lm hb (hz c) ?_;rw[De,aV,aV];change _=(b:Rat)*((eY ls k P*eY ls i c - eY ls i P*eY ls k c) / (b:Rat))
   change eY ls k P*eY ls i c - eY ls i P*eY ls k c=_
   grind
  ·rw[xG (M9 w hk) (show n<=c by lia),xG w (i:=i) (show n<=c by lia),xG w (i:=k) (show n<=c by lia)];grind
end
section
variable {m k n P:Nat} {a l l2:Nat->Nat->Rat} {pm p p2:Nat->Nat} {d:Rat}
theorem AH.congr (B:AH a m k pm p l d) (hp:∀j,j < k->p2 j=p j) (hl:∀i,i < m->∀c,l2 i c=l i c):AH a m k pm p2 l2 d where
 inj:=B.inj
 Q!:=B.Q!
 km:=B.km
 d0:=B.d0
 det:=by rw[B.det,V! (f:=λj r=>a r (p j)) (g:=λj r=>a r (p2 j)) λj hj=>by rw[hp j hj]]
 eqs i hi c:=by
  have km:=B.km;rw[B.eqs i hi c,hl i hi c];congr 1;show aE λj hj=>by rw[hp j hj,hl j () c]
 unit i hi j hj:=by rw[hp j hj,hl i hi];show B.52 i hi j hj
theorem dA.rows (h:∀i,i < m->∀c,l2 i c=l i c) (hx:dA m l x):dA m l2 x:=by obtain w|hw:=hx;show #[w,λc=>by rw[hw c];show aE λt ht=>by rw[h t ht c]]
theorem oT.congr (E:oT a m k P p l d) (hp:∀j,j < k->p2 j=p j) (hl:∀i,i < m->∀c,l2 i c=l i c):oT a m k P p2 l2 d where
 km:=E.km
 d0:=E.d0
 unit i hi j hj:=by rw[hp j hj,hl i hi];show E.52 i hi j hj
 inc i j hij hj:=by rw[hp i (),hp j hj];show E.inc i j hij hj
 low j hj:=by rw[hp j hj];show E.low j hj
 zero i h1 h2 c hc:=by rw[hl i h2];show E.zero i h1 h2 c hc
 lead j hj c hc:=by
  have km:=E.km;rw[hp j hj] at hc;rw[hl j ()];show E.lead j hj c hc
 there i hi:=(E.56 i hi).rows hl
 back i hi:=(E.back i hi).congr λc=>(hl i hi c).26
theorem oT.kP (E:oT a m k P p l d):k<=P:=by
 have:∀j,j < k->j<=p j:=by
  intro j
  induction j with
  | zero=>intro _;show aW _
  | succ j ih =>
   intro hj;have:=ih ();have:=E.inc j (j+1) () hj
   lia
 rcases dE k with z | z
 ·lia
 ·have h1:=this (k - 1) ();have h2:=E.low (k - 1) ()
  lia
end
structure E8 (E!:List (List Int)) (n P:Nat) (ls:List (List Int)) (ps:List Nat) (d:Int):Prop where
 len:ls.9=E!.9
 wide:∀zs∈ls,zs.9=n
 bar:∃pm,AH (eY E!) E!.9 ps.9 pm (λj=>ps.4 j 0) (eY ls) d
 el:oT (eY E!) E!.9 ps.9 P (λj=>ps.4 j 0) (eY ls) d
theorem E8.start (w:∀zs∈E!,zs.9=n):E8 E! n 0 E! [] 1:=#[rfl,w,#[λi=>i,AH.start λ_ _=>rfl],oT.start]
theorem E8.d0 (h:E8 E! n P ls ps d):d≠0:=λz=>h.el.d0 (by rw[z];rfl)
theorem E8.skip (h:E8 E! n P ls ps d) (hz:∀i,ps.9<=i->i < ls.9->eY ls i P=0):E8 E! n (P+1) ls ps d:=#[h.31,h.51,h.bar,h.el.skip λi h1 h2=>hz i h1 (by rw[h.31];show h2)]
theorem getD_snoc (hj:j < l.9+1):(l++[x]).4 j 0=if j=l.9 then x else l.4 j 0:=by
 rw[aa,aa];by_cases e:j=l.9
 ·rw[if_pos e,e,bG (ah _),kG];rfl
 ·rw[if_neg e,bR ()]
theorem E8.int (h:E8 E! n P ls ps d) (hW:1<=W) (h0:∀i,i < E!.9->∀c,Fr 1 W (eY E! i c)) (ht:ps.9<=t) (ht2:t < ls.9) (hne:eY ls t P≠0) :
  ∀i,i < ls.9->i≠ps.9->∀c,∃z:Int,(eY (sI ls ps.9 t) ps.9 P*eY (sI ls ps.9 t) i c - eY (sI ls ps.9 t) i P*eY (sI ls ps.9 t) ps.9 c) / (d:Rat)=(z:Rat):=λi hi ne c=>by
 obtain pm|B:=h.bar;have hl:=h.31;have hk:ps.9 < ls.9:=()
 have B1:=(B.swap ht ()).congr (p2:=λj=>ps.4 j 0) (l2:=eY (sI ls ps.9 t)) (λ_ _=>rfl) (λi _ c=>yz hk ht2 i c)
 have h1:eY (sI ls ps.9 t) ps.9 P≠0:=by
  rw[yz hk ht2];unfold jW;rw[if_pos rfl];show hne
 have B2:=B1.57 (c0:=P) () h1;have:=B2.fr (W:=W) (N:=ps.9+2) () hW h0 (i:=i) (c:=c) ();rw[if_neg ne] at this;show yy this
theorem E8.step (h:E8 E! n P ls ps d) (hW:1<=W) (h0:∀i,i < E!.9->∀c,Fr 1 W (eY E! i c)) (ht:ps.9<=t) (ht2:t < ls.9) (hne:eY ls t P≠0) :
  E8 E! n (P+1) (JQ (sI ls ps.9 t) ps.9 P d) (ps++[P]) (((JQ (sI ls ps.9 t) ps.9 P d).4 ps.9 []).4 P 0):=by
 obtain pm|B:=h.bar;have hl:=h.31;have hk:ps.9 < ls.9:=()
 have hz:=h.int hW h0 ht ht2 hne;have w1:=Mf h.51 hk ht2;have k1:ps.9 < (sI ls ps.9 t).9:=by rw[yT];show hk
 have B1:=(B.swap ht ()).congr (p2:=λj=>ps.4 j 0) (l2:=eY (sI ls ps.9 t)) (λ_ _=>rfl) (λi _ c=>yz hk ht2 i c);have E1:=(h.el.swap ht ()).congr (p2:=λj=>ps.4 j 0) (l2:=eY (sI ls ps.9 t)) (λ_ _=>rfl) (λi _ c=>yz hk ht2 i c)
 have h1:eY (sI ls ps.9 t) ps.9 P≠0:=by
  rw[yz hk ht2];unfold jW;rw[if_pos rfl];show hne
 have B2:=B1.57 (c0:=P) () h1
 have fc:∀i,i < E!.9->∀c,eY (JQ (sI ls ps.9 t) ps.9 P d) i c=if i=ps.9 then eY (sI ls ps.9 t) ps.9 c else (eY (sI ls ps.9 t) ps.9 P*eY (sI ls ps.9 t) i c - eY (sI ls ps.9 t) i P*eY (sI ls ps.9 t) ps.9 c) / (d:Rat):=λi hi c=>by
  by_cases e:i=ps.9
  ·rw[if_pos e];unfold eY JQ;rw[nY (by rw[af];show k1),if_pos e]
  ·have:=Qv w1 k1 h.d0 (i:=i) (by rw[yT];lia) (hz i () e) c;rw[this]
 have ed:(((((JQ (sI ls ps.9 t) ps.9 P d).4 ps.9 []).4 P 0:Int)):Rat)=eY (sI ls ps.9 t) ps.9 P:=by
  have:=fc ps.9 () P;rw[if_pos rfl] at this;show this
 have lp:(ps++[P]).9=ps.9+1:=by rw[ar];rfl
 have hp:∀j,j < ps.9+1->(ps++[P]).4 j 0=if j=ps.9 then P else ps.4 j 0:=λj hj=>getD_snoc hj
 refine #[by rw[QU,yT];show hl,M9 w1 k1,#[λi=>pm (jW ps.9 t i),?_],?_]
 ·rw[ed,lp];show B2.congr hp fc
 ·rw[ed,lp];refine oT.congr (E1.57 (d':=eY (sI ls ps.9 t) ps.9 P) (l':=λi c=>if i=ps.9 then eY (sI ls ps.9 t) ps.9 c else (eY (sI ls ps.9 t) ps.9 P*eY (sI ls ps.9 t) i c - eY (sI ls ps.9 t) i P*eY (sI ls ps.9 t) ps.9 c) / (d:Rat)) () h1 B2.52 λi hi=>?_) hp fc;have d0:=h.el.d0;by_cases e:i=ps.9
  ·refine #[1,0,(),λ_=>rfl,λc=>?_];rw[if_pos e,e];grind
  ·refine #[eY (sI ls ps.9 t) ps.9 P / (d:Rat),-(eY (sI ls ps.9 t) i P) / (d:Rat),?_,λz=>absurd z e,λc=>?_]
   ·intro z;apply h1;grind
   ·rw[if_neg e];grind
theorem E8.sz (h:E8 E! n P ls ps d) (hW:1<=W) (h0:∀i,i < E!.9->∀c,Fr 1 W (eY E! i c)) (hP:P<=n) (hr:min E!.9 n<=r) (r15:r<=15):(d.17<=(16*W)^r)/\∀zs∈ls,∀z∈zs,z.17<=(16*W)^r:=by
 obtain pm|B:=h.bar;have kP:=h.el.kP;have km:=B.km;have hl:=h.31;have mono:∀{s t:Nat},s<=t->(16*W)^s<=(16*W)^t:=λhs=>ak (bY () hW) hs
 refine #[ag (xF (B.dfr (W:=W) (N:=16) () h0)) (mono ()),λzs hz z hz'=>?_];obtain i|hi|rfl:=bu hz;obtain c|hc|rfl:=bu hz';have hw:=h.51 _ (aw hi)
 have ez:eY ls i c=(((ls[i])[c]:Int):Rat):=by
  unfold eY;rw[aa (l:=ls),ae hi];change ((ls[i].4 c 0:Int):Rat)=_
  rw[aa,ae hc];rfl
 by_cases hk:i < ps.9
 ·have:Fr 1 ((16*W)^ps.9) (eY ls i c):=by
   have hd:=B.d0;rw[B.old hk]
   have:=CT (W:=W) (N:=16) (rs:=zw pm ps.9) (vs:=OG (λj r=>eY E! r (ps.4 j 0)) i ps.9++(λr=>eY E! r c) :: tY (λj r=>eY E! r (ps.4 j 0)) i) (by
    have:=congrArg Z7 (_V (v:=λj r=>eY E! r (ps.4 j 0)) hk);rw[ar,bH,g!] at this;rw[ar,bH]
    lia) (by
    intro v hv r hr
    have hr':∀c,Fr 1 W (eY E! r c):=λc=>by
     obtain t|ht|rfl:=qZ hr;show h0 _ (B.Q! t ()) c
    rcases aB.mp hv with hv | hv
    ·obtain t|_|rfl:=JM hv;show hr' _
    ·rcases ax.mp hv with rfl | hv
     ·show hr' _
     ·obtain t|_|rfl:=L! hv;show hr' _)
   rwa [vw] at this
  rw[ez] at this;show ag (xF this) (mono ())
 ·by_cases hn:ps.9 < n
  ·have:=B.fr (W:=W) (N:=16) () hW h0 (i:=i) (c:=c) ();rw[ez] at this;show ag (xF this) (mono ())
  ·have:=h.el.zero i () () c ();rw[ez] at this;rw[vJ this];show aW _
def Tp (M W:Nat) (q:Rat):Prop:=∃z:Int,q*(M:Rat)=(z:Rat)/\z.17<=W
theorem Tp.of {M V W:Nat} (h:Fr M V q) (hW:V*M<=W):Tp M W q:=by obtain z|a|b:=h;show #[z,a,ag b hW]
theorem Tp.mono (h:Tp M W q) (hW:W<=W'):Tp M W' q:=by obtain z|a|b:=h;show #[z,a,ag b hW]
theorem Tp.fr (h:Tp M W q) (h0:0 < M):Fr M W q:=by obtain z|a|b:=h;show #[z,a,ag b (eG _ h0)]
def D9 (rows:_m) (n w:Nat):Prop:=∃M W:Nat,0 < M/\M<=2^4300000/\1<=W/\W<=2^w/\(∀xs∈rows,∀x∈xs,Tp M W x)/\w<=4300000/\min rows.9 n<=15/\min rows.9 n*(w+4)<=8900000
def jB (xs:List Rat):List Int:=dS (xs.12 nm) (fJ (xs.12 nm))
theorem rF:(jB xs).9=xs.9:=by unfold jB dS;rw[af,af]
theorem rQ {xs:List Rat}:0 < fJ (xs.12 nm):=CK () λb hb=>by
 obtain n|hn|rfl:=au.mp hb;obtain x|_|rfl:=au.mp hn;show iO x
theorem Rz:(((jB xs).4 c 0:Int):Rat)=xs.4 c 0*((fJ (xs.12 nm):Int):Rat):=by
 unfold jB dS;rw[aa,aa,az,az];cases e:xs[c]? with
 | none=>change ((0:Int):Rat)=0*_;rw[dk];rfl
 | some x=>show uM (rR (au.mpr #[x,ai e,rfl]))
section
variable {xs:List Rat}
theorem zW (hi:i < rows.9):eY (rows.12 jB) i c=((fJ ((rows.4 i []).12 nm):Int):Rat)*bo rows i c:=by
 unfold eY bo
 have e:(rows.12 jB).4 i []=jB (rows.4 i []):=by
  rw[aa,aa,az,ae hi];rfl
 rw[e,Rz,cL]
theorem Lk (hw:∀xs∈rows,xs.9=n) (hc:n<=c):bo rows i c=0:=by
 unfold bo;by_cases h:i < rows.9
 ·have:=hw _ (getD_in (e:=[]) h);rw[aa (l:=rows.4 i []),aA ()];rfl
 ·rw[aa (l:=rows),aA ()];rfl
theorem AJ (i:Nat) (hi:i < rows.9):dA rows.9 (eY (rows.12 jB)) (bo rows i):=by
 have h0:((fJ ((rows.4 i []).12 nm):Int):Rat)≠0:=λz=>by
  have:=rQ (xs:=rows.4 i []);have:=vJ z
  lia
 refine dA.congr (λc=>?_) (dA.lin (1 / ((fJ ((rows.4 i []).12 nm):Int):Rat)) 0 (dA.row (a:=eY (rows.12 jB)) hi) (dA.row (a:=eY (rows.12 jB)) hi));rw[zW hi];grind
theorem AI (i:Nat) (hi:i < rows.9):dA rows.9 (bo rows) (eY (rows.12 jB) i):=by
 refine dA.congr (λc=>?_) (dA.lin ((fJ ((rows.4 i []).12 nm):Int):Rat) 0 (dA.row (a:=bo rows) hi) (dA.row (a:=bo rows) hi));rw[zW hi];grind
theorem sH (h:Tp M W x):(nm x).2∣(M:Int):=by
 obtain z|e|b:=h
 show Fr.den (V:=z.17) (M:=M) #[z,e,by
  rcases dE M with h | h
  ·subst h;have:(z:Rat)=0:=by rw[<- e];simp
   rw[vJ this];simp
  ·show eG _ h]
theorem wY (h:Tp M W x) (h0:0 < M) (hB:0 < B) (d1:(nm x).2∣B) (d2:B∣(M:Int)):∃t:Int,x*(B:Rat)=(t:Rat)/\t.17<=W:=by
 obtain z|e|b:=h;obtain s|es:=d2;refine #[(nm x).1*(B / (nm x).2),(uM d1).26,?_]
 have s0:0 < s:=by
  rcases Int.lt_trichotomy s 0 with h | h | h
  ·have:=xN hB h
   lia
  ·rw[h] at es;lia
  ·show h
 have e2:(((nm x).1*(B / (nm x).2)*s:Int):Rat)=(z:Rat):=by
  rw[aV,uM d1,<- e,<- aZ,es,aV];grind
 have e3:=dG.mp e2;have:((nm x).1*(B / (nm x).2)).17*s.17=z.17:=by rw[<- fv,e3]
 have h1:1<=s.17:=()
 have:=eG ((nm x).1*(B / (nm x).2)).17 h1
 lia
theorem A3 (h0:0 < M) (h:∀x∈xs,Tp M W x):fJ (xs.12 nm)∣(M:Int):=AY () (Int.one_dvd _) λb hb=>by
 obtain n|hn|rfl:=au.mp hb;obtain x|hx|rfl:=au.mp hn;show #[iO x,sH (h x hx)]
theorem D9.ach (F:D9 rows n w) (hx:xs∈rows):∃M,Kh M (xs.12 nm):=by
 obtain M|W|h0|h1|hW|h2|h3|h4|_:=F;refine #[M,Int.ofNat_lt.mpr h0,?_,λy hy=>?_]
 ·change ((M:Nat):Int).17 < 2^4400000
  rw[cw];show aP h1 (dD () ())
 ·obtain x|_v|rfl:=au.mp hy;have t:=h3 xs hx x _v;refine #[iO x,sH t,?_];obtain s|e|b:=wY t h0 (iO x) (Bc _) (sH t);have e2:(((nm x).1:Int):Rat)=(s:Rat):=by rw[<- e];show nk x
  rw[dG.mp e2];show aP (ag b h2) (dD () ())
theorem D9.ent (F:D9 rows n w):∃W:Nat,1<=W/\W<=2^w/\∀i,i < (rows.12 jB).9->∀c,Fr 1 W (eY (rows.12 jB) i c):=by
 obtain M|W|h0|h1|hW|h2|h3|h4|_:=F;refine #[W,hW,h2,λi hi c=>?_];rw[af] at hi;have hx:=getD_in (e:=[]) hi;rw[zW hi];unfold bo;generalize rows.4 i []=xs at hx ⊢;by_cases hc:c < xs.9
 ·have t:=h3 xs hx _ (getD_in (e:=0) hc);obtain s|e|b:=wY t h0 (rQ (xs:=xs)) (rR (au.mpr #[_,getD_in (e:=0) hc,rfl])) (A3 h0 (h3 xs hx));rw[cL,e];show Fr.int b
 ·rw[aa,aA ()];change Fr 1 W (_*0)
  rw[fq];show Fr.zero
end
def bL (rows:_m) (n:Nat) (R:_m) (ps:List Nat):Prop:=R.9=ps.9/\(∀xs∈R,xs.9=n)/\Fb rows.9 n (bo rows) ps.9 (λj=>ps.4 j 0) (bo R)
structure YV (rows:_m) (n w:Nat) (R:_m) (ps:List Nat) (d:Int) (ls:List (List Int)):Prop where
 rr:bL rows n R ps
 d0:d≠0
 len:ls.9=ps.9
 wide:∀zs∈ls,zs.9=n
 val:∀i c,eY ls i c=(d:Rat)*bo R i c
 dsz:d.17<=2^(min rows.9 n*(w+4))
 zsz:∀zs∈ls,∀z∈zs,z.17<=2^(min rows.9 n*(w+4))
 tp:∀xs∈R,∀x∈xs,Tp d.17 (2^(min rows.9 n*(w+4))) x
 km:ps.9<=rows.9
theorem Fb.abO {a R R2:Nat->Nat->Rat} (h:Fb m n a k p R) (hr:∀i,i < k->∀c,R2 i c=R i c):Fb m n a k p R2 :=
 #[h.inc,h.low,λi hi j hj=>by rw[hr i hi];show h.52 i hi j hj,λi hi c hc=>by rw[hr i hi];show h.lead i hi c hc,λi hi=>(h.span i hi).rows hr,λi hi=>(h.back i hi).congr λc=>(hr i hi c).26]
theorem Fb.other (h:Fb m n a k p R) (s1:∀i,i < m->dA m' a' (a i)) (s2:∀i,i < m'->dA m a (a' i)):Fb m' n a' k p R :=
 #[h.inc,h.low,h.52,h.lead,λi hi=>dA.trans h.span (s2 i hi),λi hi=>dA.trans s1 (h.back i hi)]
theorem zA (h:W<=2^w):(16*W)^r<=2^(r*(w+4)):=by
 calc (16*W)^r<=(2^(w+4))^r:=og (by rw[bg];lia) _
  _=2^(r*(w+4)):=by rw[<- yM,bE]
theorem E8.done (h:E8 (rows.12 jB) n n ls ps d) (hw:∀xs∈rows,xs.9=n) (F:D9 rows n w) :
  ∃R,YV rows n w R ps d (ls.21 ps.9):=by
 obtain W|hW|W2|ent:=F.ent;obtain _|_|_|_|_|_|_|_|r15|_:=F;have hl:=h.31;have d0:=h.d0;have d0':(d:Rat)≠0:=λz=>d0 (vJ z)
 have km:=h.el.km;have hm:(rows.12 jB).9=rows.9:=af ..;obtain s1|s2:=h.sz (r:=min rows.9 n) hW ent (ah _) (by rw[hm];show ah _) r15;have s2':∀zs∈ls,∀z∈zs,z.17<=2^(min rows.9 n*(w+4)):=λzs hz z hz'=>ag (s2 zs hz z hz') (zA W2)
 have er:∀i c,bo ((ls.21 ps.9).12 λzs=>zs.12 λ(z:Int)=>(z:Rat) / (d:Rat)) i c=eY (ls.21 ps.9) i c / (d:Rat):=λi c=>by
  unfold bo eY;rw[aa (l:=List.map _ _),az,aa (l:=List.take _ _)];cases e:(ls.21 ps.9)[i]? with
  | none=>change (0:Rat)=((0:Int):Rat) / _;grind
  | some zs =>
   change (zs.12 λ(z:Int)=>(z:Rat) / (d:Rat)).4 c 0=((zs.4 c 0:Int):Rat) / (d:Rat)
   rw[aa,aa,az];cases e2:zs[c]? with
   | none=>change (0:Rat)=((0:Int):Rat) / _;grind
   | some z=>rfl
 have et:∀i,i < ps.9->∀c,eY (ls.21 ps.9) i c=eY ls i c:=λi hi c=>by
  unfold eY;rw[aa (l:=List.take _ _),jE hi,<- aa]
 have RR:=(h.el.done λi hi c hc=>xG (n:=n) (λzs hz=>by
  obtain xs|hx|rfl:=au.mp hz;rw[rF];show hw xs hx) hc).abO (R2:=bo ((ls.21 ps.9).12 λzs=>zs.12 λ(z:Int)=>(z:Rat) / (d:Rat))) λi hi c=>by rw[er,et i hi]
 rw[hm] at RR;refine #[(ls.21 ps.9).12 λzs=>zs.12 λ(z:Int)=>(z:Rat) / (d:Rat),#[by rw[af,br];lia,λxs hx=>?_,RR.35 AI AJ],d0,by rw[br];lia,λzs hz=>h.51 zs (bO hz),λi c=>?_,ag s1 (zA W2),λzs hz=>s2' zs (bO hz),λxs hx x _v=>?_,()]
 ·obtain zs|hz|rfl:=au.mp hx;rw[af];show h.51 zs (bO hz)
 ·rw[er];grind
 ·obtain zs|hz|rfl:=au.mp hx;obtain z|hz'|rfl:=au.mp _v;have b:=s2' zs (bO hz) z hz';rcases Kn d with e | e
  ·refine #[z,?_,b];have:((d.17:Nat):Rat)=(d:Rat):=by rw[<- aZ,<- e]
   rw[this];grind
  ·refine #[-z,?_,by rw[mS];show b];have:((d.17:Nat):Rat)=-(d:Rat):=by rw[<- aZ,<- dg];congr 1;lia
   rw[this,dg];grind
theorem Qt (hl:R.9=R'.9) (w1:∀xs∈R,xs.9=n) (w2:∀xs∈R',xs.9=n) (h:∀i,i < R.9->∀c,bo R i c=bo R' i c):R=R':=by
 apply dO hl;intro i h1 h2;apply dO (by rw[w1 _ (aw h1),w2 _ (aw h2)]);intro c h3 h4;have:=h i h1 c;unfold bo at this;rw[aa (l:=R),aa (l:=R'),ae h1,ae h2] at this;have this:(R[i]).4 c 0=(R'[i]).4 c 0:=this;rw[aa,aa,ae h3,ae h4] at this;show this
theorem bL.uniq (h:bL rows n R ps) (h':bL aar n R' _W) (s1:∀i,i < rows.9->dA aar.9 (bo aar) (bo rows i)) (s2:∀i,i < aar.9->dA rows.9 (bo rows) (bo aar i)):R=R'/\ps=_W:=by
 obtain l1|w1|r1:=h;obtain l2|w2|r2:=h';obtain ek|ep|eR:=r1.uniq r2 s1 s2;refine #[Qt () w1 w2 λi hi c=>eR i () c,?_];apply dO ek;intro j h1 h2;have:=ep j h1;rw[aa,aa,ae h1,ae h2] at this;show this
theorem bL.same (h:bL rows n R ps) (h':bL rows n R' _W):R=R'/\ps=_W:=h.uniq h' (λ_ hi=>dA.row hi) (λ_ hi=>dA.row hi)
open PySem PySem.Spec PyProof.Rows
def Nh (l:Addr) (H:Hp) (zs:List Int) (v:V):Prop:=∃q,v=V.ref q/\q≠l/\H q=some (.lst (zs.12 V.int))
def vN (l:Addr) (H:Hp) (p:Addr) (ls:List (List Int)):Prop:=p≠l/\∃xs,H p=some (.lst xs)/\Y9 (Nh l H) ls xs
theorem Nh.same (h:Nh l H zs v) (e:aG H H'):Nh l H' zs v:=by obtain q|a|n|b:=h;show #[q,a,n,e _ _ b]
theorem Nh.upd {l:Addr} {H:Hp} {zs:List Int} {v:V} {o:HO} (h:Nh l H zs v):Nh l (upd H l o) zs v:=by obtain q|a|n|b:=h;show #[q,a,n,by rw[aR n];show b]
theorem vN.upd {l:Addr} {H:Hp} {p:Addr} {ls:List (List Int)} {o:HO} (h:vN l H p ls):vN l (upd H l o) p ls:=by obtain n|xs|a|b:=h;show #[n,xs,by rw[aR n];show a,ce (λ_ _ z=>z.upd) b]
theorem ne_old {H:Hp} (h:H l≠none) (n:H r=none):r≠l:=λz=>h (by rw[<- z];show n)
theorem jK {α β:Type} {F:α->β->Prop}:∀{l1:List α} {l2:List β} (_:Y9 F l1 l2) (i:Nat) {x:α} {y:β},F x y->Y9 F (l1.30 i x) (l2.30 i y):=by
 intro l1 l2 p
 induction p with
 | nil=>show λ_ _ _ _=>.nil
 | cons a r ih =>
  intro i x y h;cases i with
  | zero=>show .cons h r
  | succ i=>show .cons a (ih i h)
theorem US (h:ls[i]?=some zs):eY ls i c=((zs.4 c 0:Int):Rat):=by
 unfold eY;rw[aa (l:=ls),h];rfl
theorem YC:((z:Int):Rat)≠0↔z≠0:=#[λh e=>h (by rw[e];rfl),λh e=>h (vJ e)]
theorem Ia {zs:List Int} (h:c < zs.9):Ko (zs.12 V.int) (c:Int)=some (V.int (zs.4 c 0)):=dM (by rw[az,aa,ae h];rfl)
inductive EA (vs:List V) (H:Hp) (Q:VK) (E9:XK):Prop
 | mk (l p:Addr) (ls:List (List Int)) (b c:Nat):vs=[.ref p,.int b,.int c]->vN l H p ls->ls.9<=1000->b<=1000->(∀zs∈ls,c < zs.9)->(∀t:Nat,b<=t->t < ls.9->eY ls t c≠0->Q (.int t) H)->((∀t,b<=t->t < ls.9->eY ls t c=0)->Q ._B H)->EA  vs H Q E9
inductive z6 (vs:List V) (H:Hp) (Q:VK) (E9:XK):Prop
 | mk (l p:Addr) (ls:List (List Int)) (t k:Nat):vs=[.ref p,.int t,.int k]->H l≠none->vN l H p ls->ls.9<=1000->t < ls.9->k < ls.9->(∀r H',H r=none->aG H H'->vN l H' r (sI ls k t)->Q (.ref r) H')->z6  vs H Q E9
inductive EB (vs:List V) (H:Hp) (Q:VK) (E9:XK):Prop
 | mk (l p:Addr) (ls:List (List Int)) (k c n:Nat) (b:Int):vs=[.ref p,.int k,.int c,.int b]->H l≠none->vN l H p ls->ls.9<=1000->k < ls.9->(∀zs∈ls,zs.9=n)->n<=1000->c < n->b≠0->Sz 8999000 b->(∀zs∈ls,∀z∈zs,Sz 8999000 z)->(∀r H',H r=none->aG H H'->vN l H' r (JQ ls k c b)->Q (.ref r) H')->EB  vs H Q E9
theorem Py (K:_g) {X:Cx} {a b:Expr} {ta:TA} {p pos q!:Pos} {elts:List Expr} {kk:Nat} (hg:Gl X "zip") (hm:X.mg "zip"=none) (ha:PA X [a,b] ta) (hK:X.K=K:=by rfl) (hs:Y8 [a,b] X.16=[(false,eval a X.16),(false,eval b X.16)]:=by rfl) (hs2:Y8 [b] X.16=[(false,eval b X.16)]:=by rfl) :
  PI X (.Tuple elts kk q!) (.Call (.Name "zip" p) [a,b] [] pos) (V5 K ta):=by subst hK;show qq hg hm ha hs hs2
def eB (ps:List Nat):List V:=ps.12 λ(j:Nat)=>V.int (j:Int)
inductive Ek (K:_g) (vs:List V) (H:Hp) (Q:VK) (E9:XK):Prop
 | mk (p:Addr) (n w:Nat) (H0:Hp) (rows:_m):vs=[.ref p,.int n]->bf K H0 H p rows->rows.9<=100->n<=100->(∀xs∈rows,xs.9=n)->D9 rows n w->(∀t lp qp R ps d ls H',H' t=some (.tup [.ref lp,.ref qp])->H' qp=some (.lst (eB ps))->vN qp H' lp ls->aG H H'->YV rows n w R ps d ls->Q (.ref t) H')->Ek K vs H Q E9
inductive zZ (K:_g) (vs:List V) (H:Hp) (Q:VK) (E9:XK):Prop
 | mk (p:Addr) (n w:Nat) (H0:Hp) (rows:_m):vs=[.ref p,.int n]->bf K H0 H p rows->rows.9<=100->n<=100->(∀xs∈rows,xs.9=n)->D9 rows n w->(∀r R ps M H',H r=none->aG H H'->bf K H H' r R->bL rows n R ps->ps.9<=rows.9->0 < M->M<=2^(min rows.9 n*(w+4))->(∀xs∈R,∀x∈xs,Tp M (2^(min rows.9 n*(w+4))) x)->Q (.ref r) H')->zZ K vs H Q E9
def AB (rows:_m) (i:Nat):Rat:=((fJ ((rows.4 i []).12 nm):Int):Rat)
theorem yI:AB rows i≠0:=λz=>by
 have:=rQ (xs:=rows.4 i []);have:=vJ z
 lia
structure Kj (rows:_m) (n P:Nat) (rs:_m) (ps:List Nat):Prop where
 len:rs.9=rows.9
 wide:∀xs∈rs,xs.9=n
 ex:∃pm l d,AH (eY (rows.12 jB)) rows.9 ps.9 pm (λj=>ps.4 j 0) l d/\oT (eY (rows.12 jB)) rows.9 ps.9 P (λj=>ps.4 j 0) l d/\∀i,i < rows.9->∀c,bo rs i c=l i c / (d*if i < ps.9 then 1 else AB rows (pm i))
section
variable {rows rs rs':_m} {n P w a:Nat} {ps:List Nat}
theorem P8 {k i j:Nat} (h:d≠0):d*(if i < k then 1 else AB rows j)≠0:=by
 have:=yI (rows:=rows) (i:=j)
 split <;> grind
theorem Kj.start (hw:∀xs∈rows,xs.9=n):Kj rows n 0 rows []:=#[rfl,hw,λi=>i,eY (rows.12 jB),1,AH.start λ_ _=>rfl,oT.start,λi hi c=>by
 rw[zW hi,if_neg (by change ¬i < 0;lia)];have:=yI (rows:=rows) (i:=i);change bo rows i c=AB rows i*bo rows i c / (1*AB rows i)
 grind]
theorem Kj.skip (h:Kj rows n P rs ps) (hz:∀i,ps.9<=i->i < rs.9->bo rs i P=0):Kj rows n (P+1) rs ps:=by
 obtain len|wide|pm|l|d|B|E|v:=h;refine #[len,wide,pm,l,d,B,E.skip λi h1 h2=>?_,v];have:=v i h2 P;rw[hz i h1 ()] at this;have ne:=P8 (rows:=rows) (i:=i) (j:=pm i) (k:=ps.9) B.d0;generalize d*(if i < ps.9 then 1 else AB rows (pm i))=D at this ne;grind
theorem Kj.km (h:Kj rows n P rs ps):ps.9<=rows.9/\ps.9<=P:=by obtain _|_|_|_|_|_|E|_:=h;show #[E.km,E.kP]
theorem Kj.step (h:Kj rows n P rs ps) (ht:ps.9<=t) (ht2:t < rs.9) (hne:bo rs t P≠0) (l':rs'.9=rows.9) (w':∀xs∈rs',xs.9=n)
  (hv:∀i,i < rows.9->∀c,bo rs' i c=if i=ps.9 then 1 / bo rs t P*bo rs t c else bo rs (jW ps.9 t i) c - bo rs (jW ps.9 t i) P*(1 / bo rs t P*bo rs t c)):Kj rows n (P+1) rs' (ps++[P]):=by
 obtain len|wide|pm|l|d|B|E|v:=h;have hk:ps.9 < rows.9:=()
 have B1:=B.swap ht ();have E1:=E.swap ht ();have d0:=B.d0
 have v1:∀i,i < rows.9->∀c,bo rs (jW ps.9 t i) c=l (jW ps.9 t i) c / (d*if i < ps.9 then 1 else AB rows (pm (jW ps.9 t i))):=λi hi c=>by
  rw[v _ (qg hk () hi) c];by_cases z:i < ps.9
  ·rw[wZ ht z,if_pos z]
  ·rw[if_neg z,if_neg (by have:=xR ht (show ps.9<=i by lia);lia)]
 have sk:jW ps.9 t ps.9=t:=by unfold jW;rw[if_pos rfl]
 have vt:∀c,bo rs t c=l (jW ps.9 t ps.9) c / (d*AB rows (pm (jW ps.9 t ps.9))):=λc=>by
  have:=v1 ps.9 hk c;rw[if_neg (),sk] at this;rw[sk];show this
 have bt:=yI (rows:=rows) (i:=pm (jW ps.9 t ps.9));have h1:l (jW ps.9 t ps.9) P≠0:=λz=>hne (by rw[vt P,z];grind)
 have B2:=B1.57 (c0:=P) hk h1;have lp:(ps++[P]).9=ps.9+1:=by rw[ar];rfl
 have hp:∀j,j < ps.9+1->(ps++[P]).4 j 0=if j=ps.9 then P else ps.4 j 0:=λj hj=>getD_snoc hj
 refine #[l',w',λi=>pm (jW ps.9 t i),_,_,by rw[lp];show B2.congr (l2:=λi c=>if i=ps.9 then l (jW ps.9 t ps.9) c else (l (jW ps.9 t ps.9) P*l (jW ps.9 t i) c - l (jW ps.9 t i) P*l (jW ps.9 t ps.9) c) / d) hp (λ_ _ _=>rfl),?_,λi hi c=>?_]
 ·rw[lp];refine oT.congr (E1.57 (d':=l (jW ps.9 t ps.9) P) (l':=λi c=>if i=ps.9 then l (jW ps.9 t ps.9) c else (l (jW ps.9 t ps.9) P*l (jW ps.9 t i) c - l (jW ps.9 t i) P*l (jW ps.9 t ps.9) c) / d) hk h1 B2.52 λi hi=>?_) hp (λ_ _ _=>rfl);by_cases e:i=ps.9
  ·refine #[1,0,(),λ_=>rfl,λc=>?_];rw[if_pos e,e];grind
  ·refine #[l (jW ps.9 t ps.9) P / d,-(l (jW ps.9 t i) P) / d,?_,λz=>absurd z e,λc=>?_]
   ·intro z;apply h1;grind
   ·rw[if_neg e];grind
 ·rw[hv i hi c,lp,vt c,vt P];by_cases e:i=ps.9
  ·rw[if_pos e,if_pos e,if_pos ()];grind
  ·rw[if_neg e,if_neg e,v1 i hi c,v1 i hi P];have ne:=P8 (rows:=rows) (i:=i) (j:=pm (jW ps.9 t i)) (k:=ps.9) d0;by_cases z:i < ps.9
   ·rw[if_pos z,if_pos ()];grind
   ·have bi:=yI (rows:=rows) (i:=pm (jW ps.9 t i));rw[if_neg z,if_neg ()];grind
theorem Kj.done (h:Kj rows n n rs ps) (hw:∀xs∈rows,xs.9=n):bL rows n (rs.21 ps.9) ps:=by
 obtain len|wide|pm|l|d|B|E|v:=h;have km:=E.km;refine #[by rw[br];lia,λxs hx=>wide xs (bO hx),Fb.other ((E.done λi hi c hc=>?_).abO λi hi c=>?_) AI AJ]
 ·show xG (n:=n) (λzs hz=>by
   obtain xs|hx|rfl:=au.mp hz;rw[rF];show hw xs hx) hc
 ·have e:bo (rs.21 ps.9) i c=bo rs i c:=by
   unfold bo;rw[aa (l:=List.take _ _),jE hi,<- aa]
  rw[e,v i () c,if_pos hi,Q8]
def UM (rows:_m) (n w a:Nat):Prop:=∃M W:Nat,0 < M/\M<=2^a/\1<=W/\W<=2^w/\(∀xs∈rows,∀x∈xs,Tp M W x)/\min rows.9 n<=15/\2*(min rows.9 n*(w+4)+a)<=3990000
theorem UM.ent (F:UM rows n w a):∃W:Nat,1<=W/\W<=2^w/\∀i,i < rows.9->∀c,Fr 1 W (eY (rows.12 jB) i c):=by
 obtain M|W|h0|h1|hW|h2|h3|_:=F;refine #[W,hW,h2,λi hi c=>?_];have hx:=getD_in (e:=[]) hi;rw[zW hi];unfold bo;generalize rows.4 i []=xs at hx ⊢;by_cases hc:c < xs.9
 ·have t:=h3 xs hx _ (getD_in (e:=0) hc);obtain s|e|b:=wY t h0 (rQ (xs:=xs)) (rR (au.mpr #[_,getD_in (e:=0) hc,rfl])) (A3 h0 (h3 xs hx));rw[cL,e];show Fr.int b
 ·rw[aa,aA ()];change Fr 1 W (_*0)
  rw[fq];show Fr.zero
theorem UM.bot (F:UM rows n w a) (hi:i < rows.9):∃b:Nat,0 < b/\b<=2^a/\AB rows i=(b:Rat):=by
 obtain M|W|h0|h1|hW|h2|h3|_:=F;have hx:=getD_in (e:=[]) hi;have p:=rQ (xs:=rows.4 i []);have dv:=A3 h0 (h3 _ hx);refine #[(fJ ((rows.4 i []).12 nm)).17,(),ag (jC h0 ?_) h1,?_]
 ·have:=fP.mpr dv;rwa [cw] at this
 ·unfold AB;rw[<- aZ];congr 1
  lia
theorem UX {z y:Int} (hl:l=(z:Rat)) (hD:D=(y:Rat)) (h0:D≠0) (hz:z.17<=W):Tp y.17 W (l / D):=by
 rcases Kn y with e | e
 ·refine #[z,?_,hz];have:((y.17:Nat):Rat)=D:=by rw[<- aZ,<- e,hD]
  rw[this,hl];grind
 ·refine #[-z,?_,by rw[mS];show hz];have:((y.17:Nat):Rat)=-D:=by rw[<- aZ,hD,<- dg];congr 1;lia
  rw[this,hl,dg];grind
theorem Kj.sz (h:Kj rows n P rs ps) (F:UM rows n w a) (hP:P<=n) (hi:i < rows.9):∃D:Nat,0 < D/\D<=2^(min rows.9 n*(w+4)+a)/\∀c,Tp D (2^(min rows.9 n*(w+4))) (bo rs i c):=by
 obtain len|wide|pm|l|d|B|E|v:=h;obtain W|hW|W2|ent:=F.ent;obtain _|_|_|_|_|_|_|r15|_:=id F;have kP:=E.kP;have km:=B.km;have mono:∀{s t:Nat},s<=t->(16*W)^s<=(16*W)^t:=λhs=>ak (bY () hW) hs
 obtain y|ey:=yy (B.dfr (W:=W) (N:=16) () ent);have hy:=B.dfr (W:=W) (N:=16) () ent;rw[ey] at hy;have yb:y.17<=2^(min rows.9 n*(w+4)):=ag (xF hy) (ag (mono (show ps.9<=min rows.9 n by lia)) (zA W2));have y0:y≠0:=λz=>B.d0 (by rw[ey,z];rfl)
 have lb:∀c,∃z:Int,l i c=(z:Rat)/\z.17<=2^(min rows.9 n*(w+4)):=λc=>by
  by_cases hk:i < ps.9
  ·have f:Fr 1 ((16*W)^ps.9) (l i c):=by
    rw[B.old hk]
    have:=CT (W:=W) (N:=16) (rs:=zw pm ps.9) (vs:=OG (λj r=>eY (rows.12 jB) r (ps.4 j 0)) i ps.9++(λr=>eY (rows.12 jB) r c) :: tY (λj r=>eY (rows.12 jB) r (ps.4 j 0)) i) (by
     have:=congrArg Z7 (_V (v:=λj r=>eY (rows.12 jB) r (ps.4 j 0)) hk);rw[ar,bH,g!] at this;rw[ar,bH]
     lia) (by
     intro v hv r hr
     have hr':∀c,Fr 1 W (eY (rows.12 jB) r c):=λc=>by
      obtain t|ht|rfl:=qZ hr;show ent _ (B.Q! t ()) c
     rcases aB.mp hv with hv | hv
     ·obtain t|_|rfl:=JM hv;show hr' _
     ·rcases ax.mp hv with rfl | hv
      ·show hr' _
      ·obtain t|_|rfl:=L! hv;show hr' _)
    rwa [vw] at this
   obtain z|ez:=yy f;rw[ez] at f;show #[z,ez,ag (xF f) (ag (mono ()) (zA W2))]
  ·by_cases hn:ps.9 < n
   ·have f:=B.fr (W:=W) (N:=16) () hW ent (i:=i) (c:=c) hi;obtain z|ez:=yy f;rw[ez] at f;show #[z,ez,ag (xF f) (ag (mono ()) (zA W2))]
   ·refine #[0,?_,aW _];by_cases hc:c < n
    ·rw[E.zero i () hi c ()];rfl
    ·have:=v i hi c;rw[Lk wide ()] at this;have ne:=P8 (rows:=rows) (i:=i) (j:=pm i) (k:=ps.9) B.d0;generalize d*(if i < ps.9 then 1 else AB rows (pm i))=D at this ne;change l i c=0
     grind
 obtain ⟨b,b0,b1,eb⟩:∃b:Nat,0 < b/\b<=2^a/\(if i < ps.9 then 1 else AB rows (pm i))=(b:Rat):=by
  by_cases hk:i < ps.9
  ·show #[1,(),bD,by rw[if_pos hk];rfl]
  ·obtain b|x1|x2|x3:=F.bot (B.Q! i hi);show #[b,x1,x2,by rw[if_neg hk,x3]]
 have eD:d*(b:Rat)=((y*b:Int):Rat):=by rw[aV,ey,aZ]
 refine #[(y*b).17,?_,?_,λc=>?_]
 ·rw[fv,cw];show bY () b0
 ·rw[fv,cw,bg];show aL yb b1
 ·obtain z|ez|bz:=lb c;rw[v i hi c,eb];refine UX ez eD (λq=>?_) bz;rw[eD] at q;have:=vJ q;rcases Int.mul_eq_zero.mp this with q | q
  ·show y0 q
  ·lia
end
theorem qO (h:Tp M W x) (h0:0 < M) (h1:M<=2^3995000) (h2:W<=2^3995000):jX x:=by
 refine #[?_,?_]
 ·obtain s|e|b:=wY h h0 (iO x) (Bc _) (sH h);have e2:(((nm x).1:Int):Rat)=(s:Rat):=by rw[<- e];show nk x
  rw[dG.mp e2];show aP (ag b h2) (dD () ())
 ·have:=jC h0 (pX.mp (sH h));change ((x.den:Nat):Int).17 < _
  rw[cw];show aP (ag this h1) (dD () ())
theorem Tp.mul (h:Tp M W x) (h':Tp M' W' y):Tp (M*M') (W*W') (x*y):=by
 obtain z|e|b:=h;obtain z'|e'|b':=h';refine #[z*z',?_,by rw[fv];show aL b b'];rw[aV,<- e,<- e',uG];grind
theorem RB (h:jX x) (h0:x≠0):jX (1 / x):=by
 have n0:x.num≠0:=λz=>h0 (Rat.num_eq_zero.mp z)
 have e:=nk x;have e1:(1 / x)*(x.num:Rat)=(x.den:Rat):=by rw[e];grind
 have t:Tp x.num.17 x.den (1 / x):=by
  rcases Kn x.num with q | q
  ·refine #[x.den,?_,by simp];have:((x.num.17:Nat):Rat)=(x.num:Rat):=by rw[<- aZ,<- q]
   rw[this,e1,aZ]
  ·refine #[-(x.den:Int),?_,by simp];have:((x.num.17:Nat):Rat)=-(x.num:Rat):=by rw[<- aZ,<- dg];congr 1;lia
   rw[this,dg,aZ,<- e1];grind
 obtain h1|h2:=h;have h1:x.num.17 < 2^4000000:=h1;have h2:((x.den:Nat):Int).17 < 2^4000000:=h2;rw[cw] at h2;refine #[?_,?_]
 ·obtain s|e|b:=wY t () (iO (1 / x)) (Bc _) (sH t);have e2:(((nm (1 / x)).1:Int):Rat)=(s:Rat):=by rw[<- e];show nk (1 / x)
  rw[dG.mp e2];show aP b h2
 ·have:=jC (show 0 < x.num.17 by lia) (pX.mp (sH t));change (((1 / x).den:Nat):Int).17 < _
  rw[cw];show aP this h1
theorem Ms {K:_g} {H H':Hp} {L:Addr}:∀{rows:_m} {ys:List V},Y9 (cO K H H') rows ys->V.ref L∉ys->Y9 (λxs x=>∃q,x=V.ref q/\H q=none/\q≠L/\cA K H' q xs) rows ys
 | _,_,.nil,_=>.nil
 | _,_,.cons ⟨q,a,b,c⟩ r,n=>.cons #[q,a,b,λz=>n (by rw[a,z];show .head _),c] (Ms r λz=>n (.tail _ z))
def gI (K:_g) (H:Hp) (l:Addr) (H':Hp) (xs:List Rat) (x:V):Prop:=∃q,x=V.ref q/\H q=none/\q≠l/\cA K H' q xs
section
variable {K:_g} {H H' H2:Hp} {l:Addr} {xs:List Rat} {x:V}
theorem gI.same (h:gI K H l H' xs x) (e:aG H' H2):gI K H l H2 xs x:=by obtain q|a|b|c|d:=h;show #[q,a,b,c,d.10 e]
theorem gI.upd {ys:List V} {o:HO} (h:gI K H l H' xs x) (hl:H' l=some (.lst ys)):gI K H l (upd H' l o) xs x:=by obtain q|a|b|c|d:=h;show #[q,a,b,c,d._A hl c]
theorem gI.ahY (h:gI K H l H' xs x):cO K H H' xs x:=by obtain q|a|b|_|d:=h;show #[q,a,b,d]
end
inductive Br (K:_g) (vs:List V) (H:Hp) (Q:VK) (E9:XK):Prop
 | mk (u v:V) (x y:Rat):vs=[u,v]->cg K H x u->cg K H y v->jX x->jX y->y≠0->(∀r H',aG H H'->cg K H' (x / y) (.ref r)->Q (.ref r) H')->Br K vs H Q E9
theorem IV {K:_g} (h:Br K vs H Q E):RI K vs H Q E:=by
 obtain u|v|x|y|rfl|⟨p,rfl,hp⟩|⟨q,rfl,hq⟩|⟨s1,s2⟩|⟨s3,s4⟩|y0|k:=h;have n0:(nm y).1≠0:=λz=>y0 (Rat.num_eq_zero.mp z)
 have px:=iO x;have py:=iO y;have e1:=tL x;have e2:=tL y;have dx:(((nm x).2:Int):Rat)≠0:=λz=>by have:=vJ z;lia
 have dy:(((nm y).2:Int):Rat)≠0:=λz=>by have:=vJ z;lia
 refine #[p,q,_,_,_,_,rfl,hp,hq,px,py,n0,s1,s2,s3,s4,λr H' s g=>k r H' s (cg.mk g ?_)];by_cases hc:(nm y).1 < 0
 ·rw[if_pos hc,if_pos hc];refine tV (by have:=xN px hc;lia) ?_;rw[De,De,aV,aV,e1,e2];change x / y*(((0:Int):Rat) - _)=((0:Int):Rat) - _
  grind
 ·rw[if_neg hc,if_neg hc];refine tV (gJ px ()) ?_;rw[aV,aV,e1,e2];grind
inductive yV (K:_g) (vs:List V) (H:Hp) (Q:VK) (E9:XK):Prop
 | mk (p q:Addr) (xs ys:List Rat):vs=[.ref p,.ref q]->cA K H p xs->cA K H q ys->ys.9=xs.9->xs.9<=1000->(∀x∈xs,jX x)->(∀y∈ys,jX y)->(∀r H',H r=none->aG H H'->cA K H' r (Wv (λx y=>x - y) xs ys)->Q (.ref r) H')->yV K vs H Q E9
def Ef (xs:List Rat) (P:Nat):List Rat:=xs.12 λy=>1 / xs.4 P 0*y
def Ju (rs:_m) (k t P:Nat):_m:=(Zi rs.9).12 λi=>if i=k then Ef (rs.4 t []) P else Wv (λx y=>x - y) (rs.4 (jW k t i) []) ((Ef (rs.4 t []) P).12 λy=>(rs.4 (jW k t i) []).4 P 0*y)
theorem Wc {xs ys:List Rat} (h:xs.9=ys.9):(Wv (λx y=>x - y) xs ys).4 c 0=xs.4 c 0 - ys.4 c 0:=by
 rw[aa,aa,aa,bh];by_cases hc:c < xs.9
 ·rw[ae hc,ae (show c < ys.9 by lia)];rfl
 ·rw[aA (),aA ()];change (0:Rat)=0 - 0
  grind
theorem Qp {xs:List Rat}:(xs.12 λy=>q*y).4 c 0=q*xs.4 c 0:=by
 rw[aa,aa,az];cases xs[c]? with
 | none=>change (0:Rat)=q*0;grind
 | some x=>rfl
theorem Wl:(Ju rs k t P).9=rs.9:=by unfold Ju;rw[af,bX]
theorem UH (hi:i < rs.9):(Ju rs k t P).4 i []=if i=k then Ef (rs.4 t []) P else Wv (λx y=>x - y) (rs.4 (jW k t i) []) ((Ef (rs.4 t []) P).12 λy=>(rs.4 (jW k t i) []).4 P 0*y):=by
 unfold Ju;rw[aa,az,cx hi];rfl
theorem Tg (w:∀xs∈rs,xs.9=n) (hk:k < rs.9) (ht:t < rs.9):∀xs∈Ju rs k t P,xs.9=n:=λxs hx=>by
 obtain i|hi|rfl:=au.mp hx;have hi:=iK.mp hi;have wt:=w _ (getD_in (e:=[]) ht)
 split
 ·unfold Ef;rw[af];show wt
 ·rw[aJ,af,w _ (getD_in (qg hk ht hi))];unfold Ef;rw[af,wt]
  lia
theorem Wk (w:∀xs∈rs,xs.9=n) (hk:k < rs.9) (ht:t < rs.9) (hi:i < rs.9) (c:Nat):bo (Ju rs k t P) i c=if i=k then 1 / bo rs t P*bo rs t c else bo rs (jW k t i) c - bo rs (jW k t i) P*(1 / bo rs t P*bo rs t c):=by
 unfold bo;rw[UH hi];have wt:=w _ (getD_in (e:=[]) ht);have wi:=w _ (getD_in (e:=[]) (qg hk ht hi))
 split
 ·unfold Ef;rw[Qp]
 ·rw[Wc (by rw[wi,af];unfold Ef;rw[af,wt]),Qp];unfold Ef;rw[Qp]
inductive Ex (K:_g) (vs:List V) (H:Hp) (Q:VK) (E9:XK):Prop
 | mk (p:Addr) (n w a:Nat) (H0:Hp) (rows:_m):vs=[.ref p,.int n]->bf K H0 H p rows->rows.9<=100->n<=100->(∀xs∈rows,xs.9=n)->UM rows n w a->(∀r R ps H',H r=none->aG H H'->bf K H H' r R->bL rows n R ps->ps.9<=rows.9->Q (.ref r) H')->Ex K vs H Q E9
inductive Iz (K:_g) (vs:List V) (H:Hp) (Q:VK) (E9:XK):Prop
 | mk (p:Addr) (n:Nat) (H0:Hp) (R:_m) (ps:List Nat):vs=[.ref p]->bf K H0 H p R->R.9<=100->n<=100->(∃rows,bL rows n R ps)->(∀r H',H r=none->aG H H'->H' r=some (.lst (eB ps))->Q (.ref r) H')->Iz K vs H Q E9
theorem Kx {xs ys:List Rat} (h:ys.9=xs.9):Wv (λx y=>x - y) xs ys=(Zi xs.9).12 λi=>xs.4 i 0 - ys.4 i 0:=by
 apply hZ;intro i;rw[bh,az];by_cases hi:i < xs.9
 ·rw[cx hi,ae hi,ae (show i < ys.9 by lia)];simp [aa,ae hi,ae (show i < ys.9 by lia)]
 ·rw[aA (show (Zi xs.9).9<=i by simp;lia),aA (show xs.9<=i by lia)];rfl
theorem U6 {rs:_m} (hk:k < rs.9) (ht:t < rs.9) (i:Nat):((rs.30 k (rs.4 t [])).30 t (rs.4 k [])).4 i []=rs.4 (jW k t i) []:=by
 unfold jW;rw[nY (by rw[cN];show ht),nY hk];by_cases h1:i=t
 ·rw[if_pos h1];by_cases h2:i=k
  ·rw[if_pos h2,<- h1,<- h2]
  ·rw[if_neg h2,if_pos h1]
 ·rw[if_neg h1];by_cases h2:i=k
  ·rw[if_pos h2,if_pos h2]
  ·rw[if_neg h2,if_neg h2,if_neg h1]
theorem Ig {α:Type} {B A:List α} (h:A.9=B.9):(B.21 s++A.37 s)[i]?=if i < s then B[i]? else A[i]?:=by
 by_cases hs:s<=B.9
 ·by_cases hi:i < s
  ·rw[if_pos hi,bR (by rw[br];lia),jE hi]
  ·rw[if_neg hi,bG (by rw[br];lia),br,wU];congr 1
   lia
 ·rw[aF (),List.drop_eq_nil_of_le (),d9];by_cases hi:i < s
  ·rw[if_pos hi]
  ·rw[if_neg hi,aA (),aA ()]
theorem Rx {α:Type} {B A:List α} (h:A.9=B.9) {x:α} (hb:B[s]?=some x):(B.21 s++A.37 s).30 s x=B.21 (s+1)++A.37 (s+1):=by
 apply hZ;intro i;have hs:s < B.9:=(aH.mp hb).1;rw[List.getElem?_set,Ig h,Ig h];by_cases e:s=i
 ·subst e;rw[if_pos rfl,if_pos (by rw[ar,br,eH];lia),if_pos (),hb]
 ·rw[if_neg e];by_cases hi:i < s
  ·rw[if_pos hi,if_pos ()]
  ·rw[if_neg hi,if_neg ()]
theorem L9 {α:Type} {B A:List α} (h:A.9=B.9) (e:A[s]?=B[s]?):B.21 s++A.37 s=B.21 (s+1)++A.37 (s+1):=by
 apply hZ;intro i;rw[Ig h,Ig h];by_cases q:i=s
 ·subst q;rw[if_neg (),if_pos (),e]
 ·by_cases hi:i < s
  ·rw[if_pos hi,if_pos ()]
  ·rw[if_neg hi,if_neg ()]
theorem YB {xs ys:List Rat} (h:xs.9=ys.9):Wv (λx y=>x - y) xs (ys.12 λy=>0*y)=xs:=by
 apply dO (by rw[aJ,af];lia);intro i h1 h2;rw[cP,fU];grind
theorem EM {K:_g} {rows:_m} (pr:Y9 (cO K H0 H) rows vs) (s:aG H H') (n:H q=none) (g:H' q=some (.lst vs)):bf K H0 H' q rows :=
 #[vs,g,ce (λ_ _ z=>z.10 s) pr,λz=>by
  obtain _|_|q'|e|_|_|g'|_:=ic pr z;cases e;rw[n] at g';cases g']
theorem Gs (h:rs.4 i []=xs) (hx:x∈xs):∃c,bo rs i c=x:=by
 obtain c|hc|rfl:=bu hx;refine #[c,?_];unfold bo;rw[h,aa,ae hc];rfl
theorem RA:jX 1:=qO (M:=1) (W:=1) #[1,by simp,()] () bD bD
theorem bL.le (h:bL rows n R ps):ps.9<=n:=by
 obtain _|_|rr:=h;rcases aX n ps.9 with z | z
 ·have inc:∀j,j < ps.9->j<=ps.4 j 0:=by
   intro j
   induction j with
   | zero=>intro _;show aW _
   | succ j ih =>
    intro hj;have:=ih ();have:=rr.inc j (j+1) () hj
    lia
  have h1:=inc (ps.9 - 1) ();have h2:=rr.low (ps.9 - 1) ()
  lia
 ·show z
theorem Tp.zero:Tp M W 0:=#[0,by simp,by simp]
theorem Tp.add (h:Tp M W x) (h':Tp M W' y):Tp M (W+W') (x+y):=by
 obtain z|e|b:=h;obtain z'|e'|b':=h';refine #[z+z',?_,ag (Int.natAbs_add_le _ _) (Nat.add_le_add b b')];rw[Dg,<- e,<- e'];grind
theorem Tp.sum {M W:Nat} {f:Nat->Rat}:∀{k:Nat},(∀j,j < k->Tp M W (f j))->Tp M (k*W) (aU k f)
 | 0,_=>Tp.zero
 | k+1,h=>by
  have:=(Tp.sum (k:=k) λj hj=>h j ()).add (h k ());show this.24 (by rw[ir];show ah _)
theorem sG {xs:List Rat} (h:∀x∈xs,Tp M W x) (c:Nat):Tp M W (xs.4 c 0):=by
 by_cases hc:c < xs.9
 ·show h _ (getD_in hc)
 ·rw[aa,aA ()];show Tp.zero
theorem Ub (h:∀xs∈R,∀x∈xs,Tp M W x) (i c:Nat):Tp M W (bo R i c):=by
 unfold bo;by_cases hi:i < R.9
 ·show sG (h _ (getD_in hi)) c
 ·rw[aa (l:=R),aA ()];show Tp.zero
theorem Ol {K:_g} {g:TG} (Pv:Nat->List V->Hp->Prop) (hz:xs.9<=Zh) (h0:Pv 0 [] H) (hl:∀i ys H,i<=xs.9->Pv i ys H->bA K H l xs)
  (hs:∀i x ys H p,xs[i]?=some x->ys.9<=i->Pv i ys H->H p=none->uN σ₀ g tf te (.ref p) (upd H p (.tup [.int i,x])) (λy H'=>Pv (i+1) (ys++[y]) H') (λH'=>Pv (i+1) ys H'))
  (hd:∀ys H,ys.9<=xs.9->Pv xs.9 ys H->∀p,H p=none->Q (.ref p) (upd H p (.lst ys))):vQ (WG K l) σ₀ g tf te Q H:=by
 refine #[λi m ys H=>m=xs.9 - i/\i<=xs.9/\ys.9<=i/\Pv i ys H,#[xs.9,by simp,aW _,aW _,h0],?_];rintro i m ys H ⟨rfl,hi,hy,p⟩;have q1:=hl i ys H hi p;by_cases _J:i < xs.9
 ·refine .inr #[#[xs,xs[i],q1,by simp [_J]],(),λy H'=>Pv (i+1) (ys++[y]) H',λH'=>Pv (i+1) ys H',λy H' p'=>#[xs.9 - (i+1),(),rfl,_J,by rw[ar,aY];lia,p'],λH' p'=>#[xs.9 - (i+1),(),rfl,_J,(),p'],λx H' y=>?_];obtain r|x'|rfl|hr|rfl|e1:=y;show hs i x' ys _ r (e1 xs q1) hy p hr
 ·have e:i=xs.9:=()
  subst e;show .inl #[#[xs,q1,ah _],(),hd ys H hy p]
theorem E2 (hc:X.calm=true):qJ X (.builtin "min") (λxs H Q=>∃(p:Addr) (ns:List Int),xs=[.ref p]/\bA X.K H p (ns.12 V.int)/\0 < ns.9/\∀M,M∈ns->(∀a,a∈ns->M<=a)->Q (.int M) H):=by
 intro _a s σ H xs us Q I r h;obtain p|ns|rfl|hp|hne|q:=h;obtain u|rfl|ru:=vals1 r;cases ru;obtain _n|r2|pl|_:=I.32 hp;have hi:=intsAre_of r2;have hl:=pl.20;obtain xs|e:=hi.allInts.items
 have hns:ns=xs.toList.12 (·.1):=by
  rw[<- hi.numsOf,<- nums_intItems,<- e]
 have hsz:0 < xs.7:=by
  have h3:=hne;rw[hns,af,ZE] at h3;show h3
 rw[e] at hl;refine min_intList (I.ok.hd hc) hl hsz λv h' tk hv hk=>?_
 obtain t|rfl:=intItems_at hv;obtain h1|h2:=argBest_lt (numAt xs) (xs.7 - 1);refine #[.int _,H,I.59 hk,#[_,rfl],q _ ?_ λa ha=>?_]
 ·rw[hns,numAt_eq];show getD_in (by rw[af,ZE];lia)
 ·rw[hns] at ha;obtain j|hj|rfl:=mem_getD ha;rw[af,ZE] at hj;rw[<- numAt_eq];show h2 j ()
theorem DB (K:_g) (hK:X.K=K):yQ X (ZQ .NotIn) (rIn K true):=by subst hK;show FW
theorem Qf {j:Nat}:Yx (.int (j:Int)) (eB ps)=decide (j∈ps):=by
 unfold Yx eB;rw[List.any_map,oW,List.any_eq_true,decide_eq_true_iff];constructor
 ·rintro ⟨x,hx,e⟩;have e:((x:Int) == (j:Int))=true:=e;have:(x:Int)=j:=by simpa using e
  have:x=j:=()
  rw[<- this];show hx
 ·intro h;show #[j,h,by change ((j:Int) == (j:Int))=true;simp]
theorem NT:(eB ps).all yB=true:=by
 unfold eB;rw[List.all_map];show sv.mpr λ_ _=>rfl
theorem CC:(eB ps).9=ps.9:=af ..
def MP (ps:List Nat):List Int:=ps.12 λ(j:Nat)=>(j:Int)
theorem NS:eB ps=(MP ps).12 V.int:=by unfold eB MP;rw[jA];rfl
theorem MD {i:Nat} (h:(eB ps)[i]?=some v):∃j,ps[i]?=some j/\v=V.int (j:Int):=by
 unfold eB at h;rw[az] at h;cases e:ps[i]? with
 | none=>rw[e] at h;cases h
 | some x=>rw[e] at h;show #[x,rfl,(bU h).26]
def OE (xs:List Rat) (i:Nat):List Nat:=(Zi i).filter λc=>decide (xs.4 c 0≠0)
theorem Mz:OE xs (i+1)=if xs.4 i 0≠0 then OE xs i++[i] else OE xs i:=by
 unfold OE;rw[oU,wV];by_cases h:xs.4 i 0≠0
 ·rw[if_pos h,Al (by simpa using h)];rfl
 ·rw[if_neg h,Am (by simpa using h)];simp
def Ax (ps:List Nat) (i:Nat):List Nat:=(Zi i).filter λc=>decide (c∉ps)
theorem CP:Ax ps (i+1)=if i∉ps then Ax ps i++[i] else Ax ps i:=by
 unfold Ax;rw[oU,wV];by_cases h:i∉ps
 ·rw[if_pos h,Al (by simpa using h)];rfl
 ·rw[if_neg h,Am (by simpa using h)];simp
theorem Wi:(Ax ps i).9<=i:=by
 unfold Ax;show ag (List.length_filter_le ..) (by rw[bX];show ah _)
inductive Iy (K:_g) (vs:List V) (H:Hp) (Q:VK) (E9:XK):Prop
 | mk (p:Addr) (xs:List Rat) (j:Nat):vs=[.ref p]->cA K H p xs->xs.9<=1000->j < xs.9->xs.4 j 0≠0->(∀c,c < j->xs.4 c 0=0)->(∀H',aG H H'->Q (.int (j:Int)) H')->Iy K vs H Q E9
inductive IB (K:_g) (vs:List V) (H:Hp) (Q:VK) (E9:XK):Prop
 | mk (p:Addr) (n:Nat) (H0:Hp) (R:_m) (ps:List Nat):vs=[.ref p,.int n]->bf K H0 H p R->R.9<=100->n<=100->(∃rows,bL rows n R ps)->(∀r H',H r=none->aG H H'->H' r=some (.lst (eB (Ax ps n)))->Q (.ref r) H')->IB K vs H Q E9
def MC (R:_m) (ps:List Nat) (n at_ j:Nat):List Rat:=(Zi n).12 λc=>if c=at_ then 1 else aU j λi=>if ps.4 i 0=c then -(bo R i at_) else 0
def Ur (R:_m) (ps:List Nat) (n at_:Nat):List Rat:=MC R ps n at_ ps.9
def eU (R:_m) (ps:List Nat) (n:Nat):_m:=(Ax ps n).12 (Ur R ps n)
theorem xC:(MC R ps n a j).9=n:=by unfold MC;rw[af,bX]
theorem XN (h:c < n):(MC R ps n a j).4 c 0=if c=a then 1 else aU j λi=>if ps.4 i 0=c then -(bo R i a) else 0:=by
 unfold MC;rw[aa,az,cx h];rfl
theorem SO:MC R ps n a 0=nQ n a:=by
 unfold MC nQ;refine vR λc _=>?_
 by_cases e:c=a
 ·subst e;simp
 ·rw[if_neg e];change (0:Rat)=_
  have:¬(c:Int)=(a:Int):=()
  simp [this]
theorem SQ (RR:bL rows n R ps) (hj:j < ps.9) (ha:a∉ps):(MC R ps n a j).30 (ps.4 j 0) (-(bo R j a))=MC R ps n a (j+1):=by
 obtain _|_|rr:=RR;have low:=rr.low j hj;have pm:ps.4 j 0∈ps:=getD_in hj;apply dO (by rw[cN,xC,xC]);intro c h1 h2;rw[xC] at h2;have e1:(MC R ps n a j)[c]'(by rw[xC];show h2)=if c=a then 1 else aU j λi=>if ps.4 i 0=c then -(bo R i a) else 0:=by simp only[MC,fU,Kv]
 have e2:(MC R ps n a (j+1))[c]'(by rw[xC];show h2)=if c=a then 1 else aU (j+1) λi=>if ps.4 i 0=c then -(bo R i a) else 0:=by simp only[MC,fU,Kv]
 rw[List.getElem_set,e2];have es:aU (j+1) (λi=>if ps.4 i 0=c then -(bo R i a) else 0)=aU j (λi=>if ps.4 i 0=c then -(bo R i a) else 0)+if ps.4 j 0=c then -(bo R j a) else 0:=rfl
 by_cases q:ps.4 j 0=c
 ·rw[if_pos q,if_neg (λz=>ha (by rw[<- z,<- q];show pm)),es,if_pos q,bQ λi hi=>?_,Rat.zero_add];rw[if_neg];intro z;have:=rr.inc i j hi hj
  lia
 ·rw[if_neg q,e1];by_cases z:c=a
  ·rw[if_pos z,if_pos z]
  ·rw[if_neg z,if_neg z,es,if_neg q,v5]
theorem SS (hc:c < n) (hp:c∉ps):(Ur R ps n a).4 c 0=if c=a then 1 else 0:=by
 unfold Ur;rw[XN hc];by_cases e:c=a
 ·rw[if_pos e,if_pos e]
 ·rw[if_neg e,if_neg e,bQ λi hi=>?_];rw[if_neg (λz=>hp (by rw[<- z];show getD_in hi))]
theorem gX:∀{xs ys:List Rat},xs.9=ys.9->fe xs ys=aU xs.9 λc=>xs.4 c 0*ys.4 c 0:=by
 intro xs ys h
 have key:∀k,k<=xs.9->fe (xs.21 k) (ys.21 k)=aU k λc=>xs.4 c 0*ys.4 c 0:=by
  intro k
  induction k with
  | zero=>intro _;rfl
  | succ k ih =>
   intro hk;rw[EV () (),ih ()];rfl
 have:=key xs.9 (ah _);rwa [aF (ah _),aF ()] at this
theorem XJ (h0:0 < M) (hW:M<=W) (tp:∀xs∈R,∀x∈xs,Tp M W x) (RR:bL rows n R ps):∀x∈Ur R ps n a,Tp M W x:=λx hx=>by
 obtain _|_|rr:=RR;obtain c|hc|rfl:=au.mp hx
 split
 ·show #[M,by rw[Q7,aZ],by simpa using hW]
 ·by_cases hp:∃j,j < ps.9/\ps.4 j 0=c
  ·obtain j|hj|e:=hp;rw[iV hj λi hi ne=>if_neg λz=>?_,if_pos e]
   ·obtain z|ez|b:=Ub tp j a;show #[-z,by rw[dg,<- ez];grind,by rw[mS];show b]
   ·rcases mE i j with q | q | q
    ·have:=rr.inc i j q hj;lia
    ·show ne q
    ·have:=rr.inc j i q hi;lia
  ·rw[bQ λj hj=>if_neg λz=>hp #[j,hj,z]];show Tp.zero
theorem A1:c∈Ax ps n↔c < n/\c∉ps:=by
 unfold Ax;rw[ib,iK,decide_eq_true_iff]
inductive Ep (K:_g) (vs:List V) (H:Hp) (Q:VK) (E9:XK):Prop
 | mk (p:Addr) (n a:Nat) (H0:Hp) (R:_m) (ps:List Nat):vs=[.ref p,.int n,.int a]->bf K H0 H p R->R.9<=100->n<=100->(∃rows,bL rows n R ps)->a < n->a∉ps->(∀xs∈R,∀x∈xs,jX x)->(∀r H',H r=none->aG H H'->cA K H' r (Ur R ps n a)->Q (.ref r) H')->Ep K vs H Q E9
theorem Bf:jX 0:=qO (M:=1) (W:=1) Tp.zero () bD bD
theorem EG (h:xs∈eU R ps n):∃a,a < n/\a∉ps/\xs=Ur R ps n a:=by
 obtain a|ha|rfl:=au.mp h;obtain h1|h2:=A1.mp ha;show #[a,h1,h2,rfl]
theorem To {q:Rat} (h:q.den<=9):q.den∣2520:=by
 have:=q.den_pos;generalize q.den=d at h this;have:d=1\/d=2\/d=3\/d=4\/d=5\/d=6\/d=7\/d=8\/d=9:=()
 rcases this with rfl | rfl | rfl | rfl | rfl | rfl | rfl | rfl | rfl <;> decide
theorem Wo (h:Dr 9 q) (hM:2520∣M):Fr M 9 q:=(Fr.own q h.1).dvd (Km (To h.2) hM)
theorem PY:((Zi n).12 λ_=>(0:Rat))=Wb n 0:=by rw[List.map_const',bX]
def U8 (K:_g):Sp:=λvs H Q _=>∃m:Nat,vs=[.int m]/\m<=100/\∀r H',H r=none->aG H H'->cA K H' r (Wb m 0)->Q (.ref r) H'
theorem bf.any {K:_g} (h:bf K H0 H p rows):bf K (λ_=>none) H p rows:=by obtain xs|g|r|n:=h;show #[xs,g,ce (λ_ _ #[q,a,_,c]=>#[q,a,rfl,c]) r,n]
theorem uL (hc:c < n):(a9 rows n)[c]?=some (rows.12 λxs=>xs.4 c 0):=by
 unfold a9;rw[az,cx hc];rfl
theorem P0:(rows.12 λxs=>xs.4 c 0).4 i 0=bo rows i c:=by
 unfold bo;rw[aa,az,aa (l:=rows)];cases rows[i]? with
 | none=>rfl
 | some y=>rfl
theorem Fr.up {M V M' V':Nat} (h:Fr M V x) (hd:M∣M') (hv:V<=V'):Fr M' V' x:=(h.dvd hd).24 hv
theorem Ti {M V D B:Nat} (h:ys.9=xs.9) (hx:∀x∈xs,Fr M V x) (hy:∀y∈ys,Fr D B y):Fr (M*D) (xs.9*(V*B)) (fe xs ys):=by
 rw[gX h.26]
 have key:∀j,j<=xs.9->Fr (M*D) (j*(V*B)) (aU j λc=>xs.4 c 0*ys.4 c 0):=by
  intro j
  induction j with
  | zero=>intro _;show Fr.zero
  | succ j ih =>
   intro hj;show ((ih ()).add ((hx _ (getD_in ())).mul (hy _ (getD_in ())))).24 (A6 (ir j (V*B)).26)
 show key _ (ah _)
def rT (K:_g) (P:Addr->Prop) (H:Hp) (xs:List Rat) (v:V):Prop:=∃q,v=.ref q/\P q/\cA K H q xs
section
variable {K:_g}
theorem rT.same (h:rT K P H xs v) (s:aG H H'):rT K P H' xs v:=by obtain q|a|c|d:=h;show #[q,a,c,d.10 s]
theorem rT._A (h:rT K P H xs v) (hl:H l=some (.lst ys)) (nb:∀q,P q->q≠l):rT K P (upd H l o) xs v:=by obtain q|a|c|d:=h;show #[q,a,c,d._A hl (nb q c)]
theorem bf.ofE {rows:_m} (g:H l=some (.lst us)) (h:Y9 (rT K P H) rows us) (h0:∀q,P q->H0 q=none) (hn:∀q,P q->q≠l):bf K H0 H l rows :=
 #[us,g,ce (λ_ _ #[q,a,c,d]=>#[q,a,h0 q c,d]) h,λz=>by
  obtain _|_|q|e|c|_:=ic h z;cases e;show hn _ c rfl]
end
section
variable {rows aar R R':_m}
theorem yU (hw:∀xs∈rows,xs.9=n) (hW:1<=W) (ent:∀i,i < (rows.12 jB).9->∀c,Fr 1 W (eY (rows.12 jB) i c)):∀P,P<=n->∃ls ps d,E8 (rows.12 jB) n P ls ps d:=by
 intro P
 induction P with
 | zero=>intro _;show #[_,_,_,E8.start λzs hz=>by obtain x|hx|rfl:=au.mp hz;rw[rF];show hw x hx]
 | succ P ih =>
  intro hP;obtain ls|ps|d|I:=ih ();by_cases e:∃t,ps.9<=t/\t < ls.9/\eY ls t P≠0
  ·obtain t|h1|h2|h3:=e;show #[_,_,_,I.57 hW ent h1 h2 h3]
  ·show #[_,_,_,I.skip λi h1 h2=>by
    by_cases z:eY ls i P=0
    ·show z
    ·show absurd #[i,h1,h2,z] e]
theorem zv (hw:∀xs∈rows,xs.9=n) (F:D9 rows n w):∃R ps d ls,YV rows n w R ps d ls:=by
 obtain W|hW|W2|ent:=F.ent;obtain ls|ps|d|I:=yU hw hW ent n (ah _);obtain R|S:=I.done hw F;show #[R,ps,d,_,S]
theorem Um (hw:∀xs∈rows,xs.9=n) (F:D9 rows n w) (RR:bL rows n R ps):ps.9<=rows.9/\∃M,0 < M/\M<=2^(min rows.9 n*(w+4))/\∀xs∈R,∀x∈xs,Tp M (2^(min rows.9 n*(w+4))) x:=by
 obtain R2|h!|d|ls|S:=zv hw F;obtain rfl|rfl:=S.rr.10 RR;show #[S.km,d.17,Int.natAbs_pos.mpr S.d0,S.dsz,S.tp]
theorem N2 {p q:Nat->Nat} (hp:∀i j,i < j->j < k->p i < p j) (hq:∀i j,i < j->j < k->q i < q j) (hs:∀i,i < k->∃j,j < k/\q j=p i):∀i,i < k->p i=q i:=by
 have hqm:∀i j,i<=j->j < k->q i<=q j:=λi j h hj=>by
  rcases aX i j with z | z
  ·show dm (hq i j z hj)
  ·have:i=j:=()
   rw[this];show ah _
 have hqi:∀i j,i < k->j < k->q i < q j->i < j:=λi j hi hj h=>by
  rcases aX i j with z | z
  ·show z
  ·have:=hqm j i z hi
   lia
 have key:∀i,i < k->∀j,j < k->q j=p i->i<=j:=by
  intro i
  induction i with
  | zero=>intro _ j _ _;show aW _
  | succ i ih =>
   intro hi j hj e;obtain j'|X!|e':=hs i ();have h1:=ih () j' X! e';have h2:=hp i (i+1) () hi;have:=hqi j' j X! hj ()
   lia
 have aiT:∀t i,i+t+1=k->∀j,j < k->q j=p i->j<=i:=by
  intro t
  induction t with
  | zero=>intro i e j hj _;lia
  | succ t ih =>
   intro i e j hj ej;obtain j'|X!|e':=hs (i+1) ();have h1:=ih (i+1) () j' X! e';have h2:=hp i (i+1) () ();have:=hqi j j' hj X! ()
   lia
 intro i hi;obtain j|hj|e:=hs i hi;have h1:=key i hi j hj e;have h2:=aiT (k - 1 - i) i () j hj e;have:j=i:=()
 rw[<- e,this]
theorem NC (h:bL rows n R ps) (h':bL aar n R' _W) (hl:ps.9=_W.9) (hs:∀i,i < ps.9->dA _W.9 (bo R') (bo R i)):R=R'/\ps=_W:=by
 obtain l1|w1|r1:=h;obtain l2|w2|r2:=h'
 have ep:∀i,i < ps.9->ps.4 i 0=_W.4 i 0:=N2 r1.inc (by rw[hl];show r2.inc) λi hi=>by
  have u:=r1.52 i hi i hi;rw[if_pos rfl] at u;obtain j|hj|e:=r2.P! (hs i hi) (c:=ps.4 i 0) (by rw[u];decide) (λc hc=>r1.lead i hi c hc);show #[j,(),e]
 have eps:ps=_W:=by
  apply dO hl;intro i a b;have:=ep i a;rw[aa,aa,ae a,ae b] at this;show this
 refine #[Qt (n:=n) () w1 w2 λi hi c=>?_,eps];rw[l1] at hi;rw[r2.aap (hs i hi) c,<- hl,iV hi λj hj X!=>?_]
 ·rw[<- ep i hi];have u:=r1.52 i hi i hi;rw[if_pos rfl] at u;rw[u];grind
 ·rw[<- ep j hj];have u:=r1.52 i hi j hj;rw[if_neg (Zo X!)] at u;rw[u];grind
end
def il (mv:_m) (x:List Rat):List Rat:=mv.12 λxs=>fe xs x
def iI (mv pt:_m):Nat->_m
 | 0=>[]
 | t+1=>pt++(iI mv pt t).12 (il mv)
section
variable {mv pt R R' S X Y:_m} {n t m i c:Nat} {ps _W:List Nat} {a:Nat->Nat->Rat}
theorem tE:(il mv x).9=mv.9:=af ..
theorem EF (lm:mv.9=n) (wm:∀xs∈mv,xs.9=n) (wR:∀xs∈R,xs.9=n) (hi:i < R.9) (c:Nat):bo (R.12 (il mv)) i c=aU n λj=>bo mv c j*bo R i j:=by
 have wi:=wR _ (aw hi);have e1:(R.12 (il mv)).4 i []=il mv R[i]:=by rw[aa,az,ae hi];rfl
 have e2:R.4 i []=R[i]:=by rw[aa,ae hi];rfl
 by_cases hc:c < n
 ·have wc:=wm _ (aw (show c < mv.9 by lia));have e3:mv.4 c []=mv[c]'():=by rw[aa,ae ()];rfl
  have e4:(il mv R[i]).4 c 0=fe (mv[c]'()) R[i]:=by
   unfold il;rw[aa,az,ae ()];rfl
  unfold bo;rw[e1,e2,e3,e4,gX (),wc]
 ·have e3:mv.4 c []=[]:=by rw[aa,aA ()];rfl
  unfold bo
  rw[e1,e3,aa,aA (by rw[tE];lia),bQ λj _=>by
   change ([]:List Rat).4 j 0*_=0
   rw[aa];change (0:Rat)*_=0
   grind]
  rfl
theorem Bj (lm:mv.9=n) (wm:∀xs∈mv,xs.9=n) (wR:∀xs∈R,xs.9=n) (wS:∀xs∈S,xs.9=n) (hi:i < R.9) (h:dA S.9 (bo S) (bo R i)):dA (S.12 (il mv)).9 (bo (S.12 (il mv))) (bo (R.12 (il mv)) i):=by
 obtain w|hw:=h;refine #[w,λc=>?_];rw[EF lm wm wR hi,af]
 have e1:aU n (λj=>bo mv c j*bo R i j)=aU n (λj=>aU S.9 λs=>w s*(bo mv c j*bo S s j)):=aE λj _=>by
  rw[hw j,<- bT];show aE λs _=>by grind
 rw[e1,ff];show aE λs hs=>by rw[bT,EF lm wm wS hs]
theorem C4 (h:i < X.9):bo (X++Y) i=bo X i:=by
 funext c;unfold bo;rw[aa (l:=X++Y),bR h,<- aa]
theorem LH:bo (X++Y) (X.9+i)=bo Y i:=by
 funext c;unfold bo;rw[aa (l:=X++Y),bG (),show X.9+i - X.9=i by lia,<- aa]
theorem vV (h1:∀i,i < X.9->dA m a (bo X i)) (h2:∀i,i < Y.9->dA m a (bo Y i)):∀i,i < (X++Y).9->dA m a (bo (X++Y) i):=λi hi=>by
 rw[ar] at hi;by_cases h:i < X.9
 ·rw[C4 h];show h1 i h
 ·obtain ⟨j,rfl⟩:∃j,i=X.9+j:=#[i - X.9,()];rw[LH];show h2 j ()
theorem uP (h:i < X.9):dA (X++Y).9 (bo (X++Y)) (bo X i):=by
 have:=dA.row (a:=bo (X++Y)) (m:=(X++Y).9) (i:=i) (by rw[ar];lia);rwa [C4 h] at this
theorem rG (h:dA Y.9 (bo Y) x):dA (X++Y).9 (bo (X++Y)) x:=dA.trans (λs hs=>by
 have:=dA.row (a:=bo (X++Y)) (m:=(X++Y).9) (i:=X.9+s) (by rw[ar];lia);rwa [LH] at this) h
theorem iY (lm:mv.9=n) (wp:∀xs∈pt,xs.9=n):∀t,∀xs∈iI mv pt t,xs.9=n:=by
 intro t
 induction t with
 | zero=>intro xs hx;cases hx
 | succ t ih =>
  intro xs hx;rcases aB.mp hx with hx | hx
  ·show wp xs hx
  ·obtain y|_|rfl:=au.mp hx;rw[tE,lm]
theorem yw (lm:mv.9=n) (wm:∀xs∈mv,xs.9=n) (wp:∀xs∈pt,xs.9=n) (RR:bL (iI mv pt t) n R ps) (J!:bL (pt++R.12 (il mv)) n R' _W):bL (iI mv pt (t+1)) n R' _W:=by
 have wk:=iY (mv:=mv) lm wp t;refine #[J!.1,J!.2.1,J!.2.2.35 ?_ ?_]
 ·refine vV (λi hi=>uP hi) λi hi=>rG ?_
  rw[af] at hi;show Bj lm wm RR.2.1 wk hi (RR.2.2.back i (by rw[<- RR.1];show hi))
 ·refine vV (λi hi=>uP hi) λi hi=>rG ?_
  rw[af] at hi;have:=RR.2.2.span i hi;rw[<- RR.1] at this;show Bj lm wm wk RR.2.1 hi this
theorem Qb (lm:mv.9=n) (wm:∀xs∈mv,xs.9=n) (wp:∀xs∈pt,xs.9=n):∀t i,i < (iI mv pt t).9->dA (iI mv pt (t+1)).9 (bo (iI mv pt (t+1))) (bo (iI mv pt t) i):=by
 intro t
 induction t with
 | zero=>intro i hi;cases hi
 | succ t ih =>
  refine vV (λi hi=>uP hi) λi hi=>rG ?_
  rw[af] at hi;show Bj lm wm (iY lm wp t) (iY lm wp (t+1)) hi (ih i hi)
theorem CL (lm:mv.9=n) (wm:∀xs∈mv,xs.9=n) (wp:∀xs∈pt,xs.9=n) (RR:bL (iI mv pt t) n R ps) (J!:bL (iI mv pt (t+1)) n R' _W):∀i,i < ps.9->dA _W.9 (bo R') (bo R i):=λi hi =>
 dA.trans (λs hs=>J!.2.2.span s hs) (dA.trans (Qb lm wm wp t) (RR.2.2.back i hi))
theorem EJ (lm:mv.9=n) (wm:∀xs∈mv,xs.9=n) (wp:∀xs∈pt,xs.9=n) (RR:bL (iI mv pt t) n R ps) (J!:bL (pt++R.12 (il mv)) n R' _W) (hl:_W.9=ps.9):∀s,bL (iI mv pt (t+s)) n R ps:=by
 have K1:=yw lm wm wp RR J!;obtain e1|e2:=NC RR K1 hl.26 (CL lm wm wp RR K1);subst e1 e2;intro s
 induction s with
 | zero=>show RR
 | succ s ih=>show yw lm wm wp ih J!
theorem Jn (lm:mv.9=n) (wm:∀xs∈mv,xs.9=n) (wp:∀xs∈pt,xs.9=n) (RR:bL (iI mv pt t) n R ps) (J!:bL (iI mv pt (t+1)) n R' _W):ps.9<=_W.9:=by
 have h:=CL lm wm wp RR J!
 have hs:∀i,i < ps.9->∃j,j < _W.9/\_W.4 j 0=ps.4 i 0:=λi hi=>by
  have u:=RR.2.2.52 i hi i hi;rw[if_pos rfl] at u;show J!.2.2.P! (h i hi) (c:=ps.4 i 0) (by rw[u];decide) (λc hc=>RR.2.2.lead i hi c hc)
 rcases aX _W.9 ps.9 with z | z
 ·exfalso
  have key:∀i,i < ps.9->∀j,j < _W.9->_W.4 j 0=ps.4 i 0->i<=j:=by
   intro i
   induction i with
   | zero=>intro _ j _ _;show aW _
   | succ i ih =>
    intro hi j hj e;obtain j'|X!|e':=hs i ();have h1:=ih () j' X! e';have h2:=RR.2.2.inc i (i+1) () hi;rcases aX j' j with y | y
    ·lia
    ·rcases aX j j' with x | x
     ·have:=J!.2.2.inc j j' x X!
      lia
     ·have:j=j':=()
      rw[this] at e
      lia
  obtain j|hj|e:=hs (ps.9 - 1) ();have:=key (ps.9 - 1) () j hj e
  lia
 ·show z
theorem Gi {M V c:Nat} (lm:mv.9=n) (wm:∀xs∈mv,xs.9=n) (wp:∀xs∈pt,xs.9=n) (hc:(n+1)*V<=2^c) (fm:GF M V mv) (fp:GF M V pt):∀t,∀xs∈iI mv pt t,∀x∈xs,Fr (M^t) (2^(c*t)) x:=by
 intro t
 induction t with
 | zero=>intro xs hx;cases hx
 | succ t ih =>
  intro xs hx x _v;have hV:V<=2^c:=ag (cy _ ()) hc;rcases aB.mp hx with hx | hx
  ·refine Fr.up (fp xs hx x _v) (by rw[c8];show j4 _ _) (ag hV (ak () (eG _ ())))
  ·obtain y|hy|rfl:=au.mp hx;unfold il at _v;obtain r|hr|rfl:=au.mp _v;have wr:=wm r hr;have wy:=iY (mv:=mv) lm wp t y hy;have f:=Ti () (fm r hr) (ih y hy);rw[c8,bE (M^t)];refine f.24 ?_;rw[pW,Nat.mul_one,bg,bE (2^(c*t)),<- cJ,wr];show ay _ (ag (ay _ ()) hc)
def m8 (mv pt:_m) (a c:Nat):Prop:=∃M V:Nat,0 < M/\M<=2^a/\(mv.9+1)*V<=2^c/\GF M V mv/\GF M V pt/\a<=400/\c<=40/\mv.9*(mv.9*(a+c)+4)<=1740/\mv.9*(mv.9*(mv.9*(a+c)+4)+a+c+4)<=8900000
theorem m8.swf {a c:Nat} (F:m8 mv pt a c) (D:mv.9<=8) (wm:∀xs∈mv,xs.9=mv.9) (wp:∀xs∈pt,xs.9=mv.9) (ht:t<=mv.9):D9 (iI mv pt t) mv.9 (mv.9*(a+c)):=by
 obtain M|V|M0|Ma|hV|fm|fp|a3|c3|e14|e89:=F;have f:=Gi rfl wm wp hV fm fp t;have h1:mv.9*(a+c)<=8*440:=aL D ();have hM:M^t<=2^(a*mv.9):=ag (og Ma _) (by rw[<- yM];show ak () (fE _ ht));have h2:a*mv.9<=mv.9*(a+c):=by rw[bE];show fE _ ()
 have h3:mv.9=0\/mv.9*(a+c)<=1740:=by
  rcases dE mv.9 with z | z
  ·show .inl z
  ·right
   have:=cy (mv.9*(a+c)+4) z
   lia
 have h4:mv.9*(a+c)<=1740:=by
  rcases h3 with z | z
  ·rw[z];lia
  ·show z
 refine #[M^t,2^(mv.9*(a+c)),kC M0,ag hM (ak () ()),bD,ah _,λxs hx x _v=>Tp.of (f xs hx x _v) ?_,(),(),?_]
 ·refine ag (aL (ak () (fE c ht)) hM) ?_;rw[<- bg];refine ak () ?_;rw[bE c,bE a,<- pW,iu c];show ah _
 ·show ag (ay _ (rY _ _)) ()
theorem m8.tp {a c:Nat} (F:m8 mv pt a c) (D:mv.9<=8) (wm:∀xs∈mv,xs.9=mv.9) (wp:∀xs∈pt,xs.9=mv.9) (ht:t<=mv.9) (RR:bL (iI mv pt t) mv.9 R ps):∃M,0 < M/\M<=2^(mv.9*(mv.9*(a+c)+4))/\∀xs∈R,∀x∈xs,Tp M (2^(mv.9*(mv.9*(a+c)+4))) x:=by
 obtain _|M|h0|h1|h2:=Um (iY rfl wp t) (F.swf D wm wp ht) RR;have le:2^(min (iI mv pt t).9 mv.9*(mv.9*(a+c)+4))<=2^(mv.9*(mv.9*(a+c)+4)):=ak () (ay _ (rY _ _));show #[M,h0,ag h1 le,λxs hx x _v=>(h2 xs hx x _v).24 le]
theorem m8.step {a c:Nat} (F:m8 mv pt a c) (D:mv.9<=8) (wm:∀xs∈mv,xs.9=mv.9) (wp:∀xs∈pt,xs.9=mv.9) (ht:t<=mv.9) (RR:bL (iI mv pt t) mv.9 R ps):D9 (pt++R.12 (il mv)) mv.9 (mv.9*(mv.9*(a+c)+4)+a+c):=by
 obtain N|N0|N1|tN:=F.tp D wm wp ht RR;obtain M|V|M0|Ma|hV|fm|fp|a3|c3|e14|e89:=F;generalize mv.9*(mv.9*(a+c)+4)=e at *
 have V1:V<=2^c:=ag (cy _ ()) hV;have eW:(2:Nat)^(e+a+c)=2^c*(2^a*2^e):=by rw[<- bg,<- bg];congr 1;lia
 refine #[N*M,2^(e+a+c),bY N0 M0,?_,bD,ah _,λxs hx x _v=>?_,(),(),?_]
 ·show ag (aL N1 Ma) (by rw[<- bg];show ak () ())
 ·rcases aB.mp hx with hx | hx
  ·refine Tp.of ((fp xs hx x _v)._N N) ?_;rw[eW,bE N];show aL V1 (aL Ma N1)
  ·obtain y|hy|rfl:=au.mp hx;unfold il at _v;obtain r|hr|rfl:=au.mp _v;have wr:=wm r hr;have wy:=RR.2.1 y hy;rw[gX (),wr];have t1:∀j,Tp M (V*M) (r.4 j 0):=λj=>sG (λx hx=>Tp.of (fm r hr x hx) (ah _)) j
   have t2:∀j,Tp N (2^e) (y.4 j 0):=λj=>sG (tN y hy) j
   have:=Tp.sum (k:=mv.9) (M:=N*M) (W:=V*M*2^e) (f:=λj=>r.4 j 0*y.4 j 0) λj _=>by
    have:=(t1 j).mul (t2 j);rwa [bE M N] at this
   refine this.24 ?_;rw[eW,cJ V,<- cJ mv.9];show aL (ag (ay _ ()) hV) (ay _ Ma)
 ·show ag (ay _ (rY _ _)) (by rw[show e+a+c+4=e+a+c+4 from rfl];show e89)
theorem m8.fit {a c:Nat} (F:m8 mv pt a c) (D:mv.9<=8) (wm:∀xs∈mv,xs.9=mv.9) (wp:∀xs∈pt,xs.9=mv.9) (ht:t<=mv.9) (RR:bL (iI mv pt t) mv.9 R ps):∀xs∈mv,∀r∈R,uD xs r:=λxs hx r hr=>by
 obtain N|N0|N1|tN:=F.tp D wm wp ht RR;obtain M|V|M0|Ma|hV|fm|fp|a3|c3|e14|e89:=F;have V1:V<=2^c:=ag (cy _ ()) hV;have p14:=ak (show 0 < 2 by decide) e14;show #[400,40,1740,1740,#[M,V,M0,ag Ma (ak () a3),ag V1 (ak () c3),fm xs hx],#[N,2^1740,N0,ag N1 p14,ah _,λx hx=>((tN r hr x hx).24 p14).fr N0],()]
end
inductive Er (K:_g) (C:Addr) (vs:List V) (H:Hp) (Q:VK) (E9:XK):Prop
 | mk (x p:Addr) (H0 H1:Hp) (mv pt lk R:_m):vs=[.ref x,.ref p]->ip K H0 H C x mv pt lk->eO mv pt lk->bf K H1 H p R->R.9<=100->(∀r∈R,r.9=mv.9)->(∀xs∈mv,∀r∈R,uD xs r)->(∀r H',H r=none->aG H H'->bf K H H' r (R.12 (il mv))->Q (.ref r) H')->Er K C vs H Q E9
structure Dc (mv pt:_m) (Rs:List (_m)):Prop where
 ne:Rs≠[]
 rr:∀t R,Rs[t]?=some R->∃ps,bL (iI mv pt t) mv.9 R ps
 up:∀t R R',Rs[t]?=some R->Rs[t+1]?=some R'->R.9 < R'.9
def GrL (K:_g) (H0 H:Hp) (l:Addr) (Rs:List (_m)):Prop:=∃us,H l=some (.lst us)/\Y9 (λR v=>∃q,v=V.ref q/\H0 q=none/\q≠l/\bf K H0 H q R) Rs us
inductive Ez (K:_g) (C:Addr) (vs:List V) (H:Hp) (Q:VK) (E9:XK):Prop
 | mk (x:Addr) (a c st:Nat) (H0:Hp) (mv pt lk:_m):vs=[.ref x,.int st]->st<=1000->ip K H0 H C x mv pt lk->eO mv pt lk->m8 mv pt a c->(∀r Rs H',H r=none->aG H H'->GrL K H H' r Rs->Dc mv pt Rs->Rs.9<=st+1->(∀R,Rs.getLast?=some R->∀s,(Rs.9 - 1=st/\s=st\/Rs.9 - 1 < st/\Rs.9 - 1<=s)->∃ps,bL (iI mv pt s) mv.9 R ps)->Q (.ref r) H')->Ez K C vs H Q E9
inductive El (K:_g) (C:Addr) (vs:List V) (H:Hp) (Q:VK) (E9:XK):Prop
 | mk (x:Addr) (a c st:Nat) (H0:Hp) (mv pt lk:_m):vs=[.ref x,.int st]->st<=1000->ip K H0 H C x mv pt lk->eO mv pt lk->m8 mv pt a c->(∀r R ps H',H r=none->aG H H'->bf K H H' r R->bL (iI mv pt st) mv.9 R ps->Q (.ref r) H')->El K C vs H Q E9
section
variable {K:_g}
theorem bf.aaY (h:bf K H0 H p rows) (hn:∀q,H0 q=none->H1 q=none):bf K H1 H p rows:=by obtain xs|g|r|n:=h;show #[xs,g,ce (λ_ _ #[q,a,b,c]=>#[q,a,hn q b,c]) r,n]
theorem bf._A (h:bf K H0 H p rows) (hl:H l=some (.lst ys)) (nl:H0 l≠none) (pl:p≠l):bf K H0 (upd H l o) p rows:=by obtain xs|g|r|n:=h;show #[xs,by rw[aR pl];show g,ce (λ_ _ z=>cO._A z hl nl) r,n]
theorem KU:bL [] n [] []:=#[rfl,(λ_ h=>by cases h),(λ_ _ _ h=>absurd h (cV _)),(λ_ h=>absurd h (cV _)),(λ_ h=>absurd h (cV _)),(λ_ h=>absurd h (cV _)),(λ_ h=>absurd h (cV _)),(λ_ h=>absurd h (cV _))]
theorem Dc.len (h:Dc mv pt Rs):∀(t:Nat) (R:_m),Rs[t]?=some R->t<=R.9:=by
 intro t
 induction t with
 | zero=>intro R _;show aW _
 | succ t ih =>
  intro R e;have ht:=(aH.mp e).1;have e0:=ae (show t < Rs.9 by lia);have:=ih _ e0;have:=h.up t _ R e0 e
  lia
theorem Dc.snoc (h:Dc mv pt (Rs++[R])) (h1:bL (iI mv pt (Rs.9+1)) mv.9 R' _W) (h2:R.9 < R'.9):Dc mv pt ((Rs++[R])++[R']):=by
 have l1:(Rs++[R]).9=Rs.9+1:=by rw[ar];rfl
 refine #[by simp,λt S e=>?_,λt S S' e e'=>?_]
 ·rcases aX t (Rs.9+1) with z | z
  ·rw[bR ()] at e;show h.rr t S e
  ·have ht:=(aH.mp e).1;rw[ar,aY] at ht;have:t=Rs.9+1:=()
   subst this;rw[bG (),l1,kG] at e;cases e;show #[_W,h1]
 ·have ht:=(aH.mp e').1;rw[ar,aY] at ht;rw[bR ()] at e;rcases aX (t+1) (Rs.9+1) with z | z
  ·rw[bR ()] at e';show h.up t S S' e e'
  ·have:t=Rs.9:=()
   subst this;rw[bG (),l1,kG] at e';cases e';rw[bG (ah _),kG] at e;cases e;show h2
end
theorem EH {α:Type} {v:α}:∀{l:List α},l.46->v∉l->∀j,(l.30 j v).46
 | [],_,_,_=>mM
 | a :: l,h,hn,0=>by
  rw[cW] at h;rw[List.set_cons_zero,cW];show #[λz=>hn (.tail _ z),h.2]
 | a :: l,h,hn,j+1=>by
  rw[cW] at h;rw[List.set_cons_succ,cW];refine #[λz=>?_,EH h.2 (λz=>hn (.tail _ z)) j];rcases cD z with z | z
  ·show h.1 z
  ·show hn (by rw[z];show .head _)
structure mI (K:_g) (A:Addr->Prop) (H:Hp) (n:Nat) (C:V->Rat->Prop) (m p l b q0:Addr) (us ws vs:List V):Prop where
 W!:kg H b
 inn:Inner H b q0
 gm:H m=some (.lst us)
 gp:H p=some (.lst ws)
 gl:H l=some (.lst vs)
 lm:us.9=n
 row:∀x∈us++vs++ws,iZ K A H n (C x) x
 nd:(us++vs++ws).46
section
variable {K:_g}
theorem mI.same (h:mI K A H n C m p l b q0 us ws vs) (e:aG H H'):mI K A H' n C m p l b q0 us ws vs :=
 #[h.W!.10 e,(e._i (p:=b)).2 _ h.inn,e _ _ h.gm,e _ _ h.gp,e _ _ h.gl,h.lm,λx hx=>(h.row x hx).10 e,h.nd]
theorem mI._i (h:mI K A H n C m p l b q0 us ws vs) (M:LY A m p l b q0) (u:c6 b H H') (B':kg H' b):mI K A H' n C m p l b q0 us ws vs :=
 #[B',u.2 _ h.inn,u.35 M.mb h.gm,u.35 M.pb h.gp,u.35 M.lb h.gl,h.lm,λx hx=>(h.row x hx)._i u h.W! M.ab,h.nd]
theorem mI.weak (h:mI K A H n C m p l b q0 us ws vs) (w:∀x∈us++vs++ws,∀y,C x y->C' x y):mI K A H n C' m p l b q0 us ws vs :=
 #[h.W!,h.inn,h.gm,h.gp,h.gl,h.lm,λx hx=>(h.row x hx).53 (λ_ z=>z) (w x hx),h.nd]
theorem mI.put (h:mI K A H n C m p l b q0 us ws vs) (M:LY A m p l b q0) (aq:A q) (hq:H q=some (.lst zs)) (hv:cg K H y v) (hc:C (.ref q) y) (j:Nat):mI K A (upd H q (.lst (zs.30 j v))) n C m p l b q0 us ws vs:=by
 have ne:∀{z},¬A z->z≠q:=λh e=>h (by rw[e];show aq)
 refine #[h.W!.upd h.inn (ne M.ab).26 (ne M.aq).26,h.inn.upd (ne M.ab).26,by rw[aR (ne M.am)];show h.gm,by rw[aR (ne M.ap)];show h.gp,by rw[aR (ne M.al)];show h.gl,h.lm,λx hx=>?_,h.nd];by_cases e:x=.ref q
 ·subst e;show (h.row _ hx).put hq hv hc j
 ·obtain q1|qs|rfl|a1|r1|l1|c1:=h.row x hx;show #[q1,qs,rfl,a1,r1._A hq (λz=>e (by rw[z])),l1,c1]
theorem mI.set (h:mI K A H n C m p l b q0 us ws vs) (M:LY A m p l b q0) (hx:iZ K A H n (C v) v) (hn:v∉us++vs++ws) (j:Nat):mI K A (upd H m (.lst (us.30 j v))) n C m p l b q0 (us.30 j v) ws vs:=by
 have mem:∀x∈us.30 j v++vs++ws,x=v\/x∈us++vs++ws:=λx hx=>by
  rcases aB.mp hx with hx | hx
  ·rcases aB.mp hx with hx | hx
   ·rcases cD hx with hx | hx
    ·show .inr (by simp [hx])
    ·show .inl hx
   ·show .inr (by simp [hx])
  ·show .inr (by simp [hx])
 refine #[h.W!.upd h.inn M.mb M.mq,h.inn.upd M.mb,aD,by rw[aR M.mp.26];show h.gp,by rw[aR M.ml.26];show h.gl,by rw[cN];show h.lm,λx _v=>?_,?_]
 ·rcases mem x _v with rfl | _v
  ·show hx.35 h.gm M.am
  ·show (h.row x _v).35 h.gm M.am
 ·have nd:=h.nd;rw[cv] at nd hn ⊢;obtain n1|n2|n3:=gZ.mp nd;refine gZ.mpr #[?_,n2,λa ha c hc=>?_]
  ·rcases aX j us.9 with z | z
   ·show EH n1 (λz'=>hn (aB.mpr (.inl z'))) j
   ·rw[List.set_eq_of_length_le z];show n1
  ·rcases cD ha with ha | rfl
   ·show n3 a ha c hc
   ·show λz=>hn (aB.mpr (.inr (by rw[z];show hc)))
end
theorem MU (h0:0 < M) (h1:M<=2^800) (hW:W<=2^140) (h:Fr M W x):jX x :=
 Gn h0 (ag h1 (ak () ())) (ag hW (ak () ())) h
theorem Sv {t V c:Nat} (ht:t<=3) (hV:V<=2^20) (hc:c<=9):c*(9^t*V)<=2^140:=by
 have h1:9^t<=9^3:=ak () ht;have h2:c*(9^t*V)<=9*(9^3*2^20):=aL hc (aL h1 hV);show ag h2 (ag (show 9*(9^3*2^20)<=2^40 by decide) (ak () ()))
theorem CA {α:Type} {l:List α} {v:α} (h:l.46) (hn:v∉l):(l++[v]).46:=gZ.mpr #[h,by simp,λa ha c hc=>by rw[aM.mp hc];show λz=>hn (by rw[<- z];show ha)]
section
variable {g:TG}
theorem EY (G:Hp->β->V->Prop) (C:β->Prop) (hB:kg H b) (hl:n<=1000) (hG:∀{H' H'' c x},G H' c x->c6 b H' H''->kg H' b->G H'' c x)
  (hA:∀{H' c x},G H' c x->∃q,x=V.ref q/\H' q≠none)
  (hs:∀(i:Nat) H' NY NN,i < n->c6 b H H'->kg H' b->(∀y c H2,c6 b H' H2->kg H2 b->C c->G H2 c y->(∃q,y=V.ref q/\H' q=none)->NY y H2)->uN σ₀ g tf te (.int i) H' NY NN)
  (hd:∀ys cs H' p,H p=none->c6 b H H'->kg H' b->H' p=some (.lst ys)->cs.9=n->ys.46->(∀c∈cs,C c)->Y9 (G H') cs ys->(∃H2,H2 p=none/\Y9 (G H2) cs ys)->Q (.ref p) H'):vQ (Kp 0 n) σ₀ g tf te Q H:=by
 refine tZ (λi ys H'=>c6 b H H'/\kg H' b/\∃cs,cs.9=i/\ys.46/\(∀c∈cs,C c)/\Y9 (G H') cs ys) mH #[(aG.refl _)._i,hB,[],rfl,mM,(λ_ z=>nomatch z),.nil] ?_ ?_
 ·rintro i ys H' hi _y ⟨u,B,cs,lc,nd,hc,pr⟩;rw[A9];refine hs i H' _ _ hi u B λy c H2 u2 B2 cc gy #[q,ey,nq]=>#[u.3 u2,B2,cs++[c],by simp [lc],CA nd (λz=>by obtain c'|_|gc:=ic pr z;obtain q'|e'|h':=hA gc;rw[ey] at e';cases e';show h' nq),Nc hc cc,cm (ce (λ_ _ z=>hG z u2 B) pr) (.cons gy .nil)]
 ·rintro ys H' hy ⟨u,B,cs,lc,nd,hc,pr⟩ p hp;have s:aG H' (upd H' p (.lst ys)):=aG.new hp;show hd ys cs _ p (u.19 B hp) (u.10 s) (B.10 s) aD lc nd hc (ce (λ_ _ z=>hG z s._i B) pr) #[H',hp,pr]
end
structure LV (K:_g) (A:Addr->Prop) (n:Nat) (C:Rat->Prop) (m p l b q0:Addr) (us ws vs:List V) (H0 H:Hp):Prop where
 mix:mI K A H n (λ_=>C) m p l b q0 us ws vs
 gp:H p=some (.lst ws)
 gl:H l=some (.lst vs)
 kp:jY A b m H0 H
section
variable {K:_g}
theorem LV.same (h:LV K A n C m p l b q0 us ws vs H0 H) (e:aG H H'):LV K A n C m p l b q0 us ws vs H0 H':=#[h.mix.10 e,e _ _ h.gp,e _ _ h.gl,h.kp.10 e]
theorem LV._i (h:LV K A n C m p l b q0 us ws vs H0 H) (M:LY A m p l b q0) (u:c6 b H H') (B:kg H' b):LV K A n C m p l b q0 us ws vs H0 H':=#[h.mix._i M u B,u.35 M.pb h.gp,u.35 M.lb h.gl,h.kp._i u]
theorem LV.row (h:LV K A n C m p l b q0 us ws vs H0 H) (hx:x∈ws\/x∈vs):iZ K A H n C x:=h.mix.row x (by rcases hx with hx | hx <;> simp [hx])
theorem LV.put (h:LV K A n C m p l b q0 us ws vs H0 H) (M:LY A m p l b q0) (hx:V.ref q∈ws\/V.ref q∈vs) (hv:cg K H y v) (hc:C y) (j:Nat):∃zs,H q=some (.lst zs)/\zs.9=n/\LV K A n C m p l b q0 us ws vs H0 (upd H q (.lst (zs.30 j v))):=by
 obtain q'|zs|qs|e|a|g|lz|_:=(h.row hx).at;cases e;have ne:∀{z},¬A z->z≠q:=λh e=>h (by rw[e];show a)
 show #[zs,g,lz,h.mix.put M a g hv hc j,by rw[aR (ne M.ap)];show h.gp,by rw[aR (ne M.al)];show h.gl,h.kp.upd (.inl a)]
end
inductive Iv (K:_g) (vs:List V) (H:Hp) (Q:VK) (E9:XK):Prop
 | mk (b:Addr) (n w:Nat) (way first:Int):vs=[.ref b,.int n,.int way,.int first,.int w]->kg H b->n<=8->1<=w->w<=1000000->(∀r us H',H r=none->H' r=some (.lst us)->us.9=n->us.46->(∀x∈us,iZ K (λq=>H q=none/\q≠r) H' n (Dr (max w 6)) x)->kg H' b->c6 b H H'->Q (.ref r) H')->Iv K vs H Q E9
theorem Qc (lm:mv.9=n) (wm:∀xs∈mv,xs.9=n) (wp:∀xs∈pt,xs.9=n) (RR:bL (iI mv pt t) n R ps) (J!:bL (iI mv pt (t+1)) n R' _W):bL (pt++R.12 (il mv)) n R' _W:=by
 have wk:=iY (mv:=mv) lm wp t;refine #[J!.1,J!.2.1,J!.2.2.35 ?_ ?_]
 ·refine vV (λi hi=>uP hi) λi hi=>rG ?_
  rw[af] at hi;have:=RR.2.2.span i hi;rw[<- RR.1] at this;show Bj lm wm wk RR.2.1 hi this
 ·refine vV (λi hi=>uP hi) λi hi=>rG ?_
  rw[af] at hi;show Bj lm wm RR.2.1 wk hi (RR.2.2.back i (by rw[<- RR.1];show hi))
theorem Us {F G:List kY->Rat} {r:Nat} {σ:Nat->Nat} (hF:∀ws:List kY,F (ws.12 λv i=>v (σ i))=G ws):∀(post pre:List kY) (s:Rat),Dj F r (pre.12 λv i=>v (σ i)) (post.12 λv i=>v (σ i)) s=Dj G (σ r) pre post s
 | [],_,_=>rfl
 | v :: post,pre,s=>by
  have i1:=hF (pre++post);have i2:=Us (r:=r) hF post (pre++[v]) (-s);simp only[cY,jD,List.map_nil,Dj] at i1 i2 ⊢;rw[i1,i2]
theorem UI {σ:Nat->Nat}:∀(rs:List Nat) (vs:List kY),uF rs (vs.12 λv i=>v (σ i))=uF (rs.12 σ) vs
 | [],[]=>rfl
 | [],_ :: _=>rfl
 | r :: rs,vs=>Us (λws=>UI rs ws) vs [] 1
theorem Ph {σ:Nat->Nat}:∀{k:Nat},(zw (λi=>i) k).12 σ=zw σ k
 | 0=>rfl
 | k+1=>by change σ k :: _=_;rw[Ph];rfl
theorem abN {τ:kY->kY} {v:Nat->kY}:∀{k:Nat},(tY v k).12 τ=tY (λj=>τ (v j)) k
 | 0=>rfl
 | k+1=>by change τ (v k) :: _=_;rw[abN];rfl
theorem Wm:uF (zw σ k) (tY v k)=uF (zw (λi=>i) k) (tY (λj i=>v j (σ i)) k):=by
 rw[<- Ph,<- UI,abN]
structure Vb (r n:Nat) (Pm Y Z:Nat->Nat->Rat) (d:Rat) (W:Nat):Prop where
 d0:d≠0
 det:d=uF (zw (λi=>i) r) (tY (λj i=>Pm i j) r)
 eq:∀i,i < r->∀c,c < n->Z i c=aU r λs=>Pm i s*Y s c
 pf:∀i,i < r->∀s,s < r->Fr 1 W (Pm i s)
 zf:∀i,i < r->∀c,c < n->Fr 1 W (Z i c)
section
variable {rows R R1 R2 mv pt:_m}
theorem OS (h0:0 < M) (h3:∀xs∈rows,∀x∈xs,Tp M W x):∀i,i < rows.9->∀c,Fr 1 W (eY (rows.12 jB) i c):=λi hi c=>by
 have hx:=getD_in (e:=[]) hi;rw[zW hi];unfold bo;generalize rows.4 i []=xs at hx ⊢;by_cases hc:c < xs.9
 ·have t:=h3 xs hx _ (getD_in (e:=0) hc);obtain s|e|b:=wY t h0 (rQ (xs:=xs)) (rR (au.mpr #[_,getD_in (e:=0) hc,rfl])) (A3 h0 (h3 xs hx));rw[cL,e];show Fr.int b
 ·rw[aa,aA ()];change Fr 1 W (_*0)
  rw[fq];show Fr.zero
theorem Vb.of (hw:∀xs∈rows,xs.9=n) (hW:1<=W) (h0:0 < M) (h3:∀xs∈rows,∀x∈xs,Tp M W x) (RR:bL rows n R ps):∃Pm Z d,Vb ps.9 n Pm (bo R) Z d W:=by
 have ent:=OS h0 h3;obtain ls|h!|d|I:=yU hw hW (by rw[af];show ent) n (ah _);obtain _|_|⟨pm,B⟩|E:=I;rw[af] at B E
 have RF:Fb rows.9 n (bo rows) h!.9 (λj=>h!.4 j 0) (λi c=>eY ls i c / d):=Fb.other (E.done λi hi c hc=>xG (n:=n) (λzs hz=>by
  obtain xs|hx|rfl:=au.mp hz;rw[rF];show hw xs hx) hc) AI AJ
 obtain e1|e2|e3:=RF.uniq RR.2.2 (λ_ hi=>dA.row hi) (λ_ hi=>dA.row hi);refine #[λi s=>eY (rows.12 jB) (pm i) (h!.4 s 0),λi c=>eY (rows.12 jB) (pm i) c,d,?_];rw[<- e1];have km:=B.km;refine #[B.d0,?_,λi hi c hc=>?_,λi hi s hs=>ent _ (B.Q! i ()) _,λi hi c hc=>ent _ (B.Q! i ()) _]
 ·rw[B.det];show Wm
 ·have:=B.aap (i:=i) (c:=c) ();rw[if_pos hi,v5] at this;rw[this];show aE λs hs=>by rw[<- e3 s hs c];show cL _ _
end
theorem Mr (RR:bL rows n R ps):bL R n R ps:=#[RR.1,RR.2.1,RR.2.2.35 (λi hi=>by rw[RR.1];show RR.2.2.span i hi) (λi hi=>RR.2.2.back i (by rw[<- RR.1];show hi))]
theorem FP (RR:bL rows n R ps) (e:ps.9=n) (hi:i < n) (c:Nat):bo R i c=if c=i then 1 else 0:=by
 have lo:∀j,j < n->j<=ps.4 j 0:=by
  intro j
  induction j with
  | zero=>intro _;show aW _
  | succ j ih =>
   intro hj;have:=ih ();have:=RR.2.2.inc j (j+1) () ()
   lia
 have hi2:∀s j,j+s+1=n->ps.4 j 0<=j:=by
  intro s
  induction s with
  | zero =>
   intro j hj;have:=RR.2.2.low j ()
   lia
  | succ s ih =>
   intro j hj;have:=ih (j+1) ();have:=RR.2.2.inc j (j+1) () ()
   lia
 have ep:∀j,j < n->ps.4 j 0=j:=λj hj=>Di (hi2 (n - 1 - j) j ()) (lo j hj)
 by_cases hc:c < n
 ·have:=RR.2.2.52 i () c ();rw[ep c hc] at this;rw[this];by_cases z:i=c
  ·rw[if_pos z,if_pos z.26]
  ·rw[if_neg z,if_neg (Zo z)]
 ·rw[Lk RR.2.1 (),if_neg ()]
theorem MV (h:∀i,i < rows.9->∀c,Tp M W (bo rows i c)):∀xs∈rows,∀x∈xs,Tp M W x:=λxs hx x _v=>by
 obtain i|hi|rfl:=bu hx;obtain c|hc|rfl:=bu _v;have:=h i hi c;unfold bo at this;rw[aa (l:=rows),ae hi] at this;have e:(some rows[i]).4 []=rows[i]:=rfl;rw[e,aa,ae hc] at this;show this
theorem m8.vb (F:m8 mv pt a c) (wm:∀xs∈mv,xs.9=mv.9) (wp:∀xs∈pt,xs.9=mv.9) (ht:t<=ps.9) (RR:bL (iI mv pt t) mv.9 R ps):∃Pm Z d w,Vb ps.9 mv.9 Pm (bo R) Z d (2^w)/\(ps.9 < mv.9/\w=(mv.9 - 1)*(a+c)\/ps.9=mv.9/\w=0):=by
 have le:=RR.le;rcases aX ps.9 mv.9 with z | z
 ·obtain M|V|M0|Ma|hV|fm|fp|_:=F;have f:=Gi rfl wm wp hV fm fp t
  obtain Pm|Z|d|vb:=Vb.of (iY rfl wp t) (bD (n:=(mv.9 - 1)*(a+c))) (kC M0 (n:=t)) (λxs hx x _v=>Tp.of (f xs hx x _v) (by
   refine ag (fE _ (og Ma t)) ?_;rw[<- yM,<- bg];refine ak () ?_;rw[<- Fd,bE,iu c];show ay _ ())) RR
  show #[Pm,Z,d,_,vb,.inl #[z,rfl]]
 ·have e:ps.9=mv.9:=()
  obtain Pm|Z|d|vb:=Vb.of (W:=2^0) (M:=1) RR.2.1 () () (MV λi hi c=>by
   rw[RR.1,e] at hi;rw[FP RR e hi c]
   split
   ·show #[1,by rw[Q7];rfl,()]
   ·show #[0,by rw[dk];rfl,()]) (Mr RR)
  show #[Pm,Z,d,0,vb,.inr #[e,rfl]]
def Gd (mv pt:_m) (i:Nat) (R:_m) (ps:List Nat):Prop:=bL (iI mv pt i) mv.9 R ps/\∃t,t<=ps.9/\t<=i/\bL (iI mv pt t) mv.9 R ps/\(t=i\/∀s,bL (iI mv pt (t+s)) mv.9 R ps)
theorem Gd.start:Gd mv pt 0 [] []:=#[KU,0,ah _,ah _,KU,.inl rfl]
theorem Pe (wm:∀xs∈mv,xs.9=mv.9) (wp:∀xs∈pt,xs.9=mv.9) (h:bL (iI mv pt i) mv.9 R ps) (h':bL (iI mv pt (i+1)) mv.9 R' _W) (e:_W.9=ps.9):∀s,bL (iI mv pt (i+s)) mv.9 R ps:=EJ rfl wm wp h (Qc rfl wm wp h h') e
theorem Gd.step (wm:∀xs∈mv,xs.9=mv.9) (wp:∀xs∈pt,xs.9=mv.9) (h:Gd mv pt i R ps) (h':bL (iI mv pt (i+1)) mv.9 R' _W):Gd mv pt (i+1) R' _W/\(mv.9<=i->R'=R):=by
 obtain h0|t|t1|t2|ht|hs:=h
 have st:(∀s,bL (iI mv pt (t+s)) mv.9 R ps)->Gd mv pt (i+1) R' _W/\(mv.9<=i->R'=R):=λhs=>by
  have:=hs (i+1 - t);rw[show t+(i+1 - t)=i+1 by lia] at this;obtain rfl|rfl:=this.10 h';show #[#[h',t,t1,(),ht,.inr hs],λ_=>rfl]
 rcases hs with rfl | hs
 ·have gr:=Jn rfl wm wp h0 h';by_cases e:_W.9=ps.9
  ·show st (Pe wm wp h0 h' e)
  ·refine #[#[h',t+1,(),ah _,h',.inl rfl],λhn=>?_];have:=h'.le
   lia
 ·show st hs
theorem QD (hl:vs.9<=N) (h:∀v∈vs,∀r∈rs,Fr 1 Wx (v r)):∃z:Int,uF rs vs=(z:Rat)/\z.17<=(N*Wx)^rs.9:=by
 have f:=CT hl h;obtain z|ez:=yy f;rw[ez] at f;show #[z,ez,xF f]
def jI (mv:_m):Nat->List Rat->List Rat
 | 0,x=>x
 | t+1,x=>il mv (jI mv t x)
section
variable {mv pt lk _p:_m} {st pu go:List Rat} {n t T c:Nat}
theorem FQ (h:st.9=mv.9):∀t,(jI mv t st).9=mv.9
 | 0=>h
 | _+1=>tE
theorem Wd {x y:List Rat} (h:x.9=y.9) (e:∀c,c < x.9->x.4 c 0=y.4 c 0):x=y:=by
 apply dO h;intro c h1 h2;have:=e c h1;rwa [aa,aa,ae h1,ae h2] at this
theorem yo (D:eO mv pt lk) (h:st.9=mv.9) (hp:pu.9=pt.9) (hc:c < mv.9):(c7 mv pt st pu).4 c 0=aU mv.9 (λj=>bo mv c j*st.4 j 0)+aU pt.9 λi=>pu.4 i 0*bo pt i c:=by
 have wc:=D.mw _ (aw hc)
 have e:(c7 mv pt st pu).4 c 0=fe (mv[c]++pt.12 λxs=>xs.4 c 0) (st++pu):=by
  unfold c7;rw[aa,bh,ae hc,uL hc];rfl
 rw[e,vH (),gX (),gX (by rw[af];lia),wc,af];congr 1
 ·refine aE λj _=>?_
  unfold bo;rw[aa (l:=mv),ae hc];rfl
 ·refine aE λi hi=>?_
  rw[cL];congr 1;unfold bo;rw[aa,az,aa (l:=pt),ae hi];rfl
theorem AZ:∀t,(iI mv pt t).9=t*pt.9
 | 0=>by rw[Nat.zero_mul];rfl
 | t+1=>by
  change (pt++(iI mv pt t).12 (il mv)).9=_
  rw[ar,af,AZ t,ir,iu]
end
theorem OL {x y:List Rat} (h:x.9=y.9) (hc:c < x.9):(Wv (λx y=>x - y) x y).4 c 0=x.4 c 0 - y.4 c 0:=by
 rw[aa,bh,aa (l:=x),aa (l:=y),ae hc,ae ()];rfl
section
variable {K:_g} {H0 H H':Hp} {l p q:Addr} {R:_m} {v:V} {mv pt:_m} {u T:Nat}
def Wu (mv pt:_m) (u:Nat):List (_m):=(Zi u).12 λs=>pt.12 (jI mv s)
theorem TL:Wu mv pt (u+1)=Wu mv pt u++[pt.12 (jI mv u)]:=by unfold Wu;rw[oU,cY];rfl
theorem Nf:∀u,(Wu mv pt u).flatten=iI mv pt u
 | 0=>rfl
 | u+1=>by
  have e:Wu mv pt (u+1)=pt :: (Wu mv pt u).12 (List.map (il mv)):=by
   unfold Wu;rw[List.range_succ_eq_map,jD,jA];congr 1
   ·show Rc pt
   ·rw[jA];refine vR λs _=>?_
    change pt.12 (jI mv (s+1))=(pt.12 (jI mv s)).12 (il mv)
    rw[jA];rfl
  rw[e,mG,<- List.map_flatten,Nf u];rfl
theorem Wt (h:xs∈pt.12 (jI mv s)):xs∈iI mv pt (s+1):=by
 rw[<- Nf,TL,List.flatten_append];show bV _ (by simpa using h)
theorem m8.akl (F:m8 mv pt a c) (wm:∀xs∈mv,xs.9=mv.9) (wp:∀xs∈pt,xs.9=mv.9) (hs:s+1<=mv.9):∀xs∈mv,∀r∈pt.12 (jI mv s),uD xs r:=λxs hx r hr=>by
 obtain M|V|M0|Ma|hV|fm|fp|a3|c3|e14|_:=F;have f:=Gi rfl wm wp hV fm fp (s+1) r (Wt hr);have V1:V<=2^c:=ag (cy _ ()) hV;have e1:(s+1)*(a+c)<=mv.9*(a+c):=ay _ hs;have e2:mv.9*(a+c)+4<=mv.9*(mv.9*(a+c)+4):=cy _ ();have e3:(s+1)*(a+c)=a*(s+1)+c*(s+1):=by rw[pW,bE,bE c]
 refine #[a,c,a*(s+1),c*(s+1),#[M,V,M0,Ma,V1,fm xs hx],#[M^(s+1),2^(c*(s+1)),kC M0,?_,ah _,f],()];show ag (og Ma _) (by rw[<- yM];show ah _)
end
theorem Tp.up (h:Tp M W q) (k:Nat) (hx:W*k<=x):Tp (M*k) x q:=by
 obtain z|e|b:=h;show #[z*k,by rw[uG,aV,<- e,aZ];grind,by rw[fv,cw];show ag (ay _ b) hx]
theorem Vb.tp (V:Vb r n Pm Y Z d W) (r15:r<=15) (w1:1<=W):∃q:Nat,0 < q/\q<=(16*W)^r/\∀s,s < r->∀c,c < n->Tp q ((16*W)^r) (Y s c):=by
 have rlt:∀i∈zw (λi=>i) r,i < r:=λi hi=>by
  obtain t|ht|e:=qZ hi;have e:i=t:=e
  lia
 obtain q|eq|bq:=QD (N:=16) (Wx:=W) (rs:=zw (λi=>i) r) (vs:=tY (λj i=>Pm i j) r) (by rw[g!];lia) λw hw i hi=>by
  obtain s|hs|rfl:=L! hw;show V.pf i (rlt i hi) s hs
 rw[vw] at bq;rw[<- V.det] at eq;have q0:q≠0:=λz=>V.d0 (by rw[eq,z];rfl)
 refine #[q.17,(),bq,λs hs c hc=>?_]
 have cr:=ET (rs:=zw (λi=>i) r) (v:=λj i=>Pm i j) (c:=λj=>Y j c) (W:=λi=>Z i c) hs (λi hi=>by
  rw[V.eq i (rlt i hi) c hc];show aE λj _=>cL _ _)
 obtain z|ez|bz:=QD (N:=16) (Wx:=W) (rs:=zw (λi=>i) r) (vs:=OG (λj i=>Pm i j) s r++(λi=>Z i c) :: tY (λj i=>Pm i j) s) (by
  have:=congrArg Z7 (_V (v:=λj i=>Pm i j) hs);rw[ar,bH,g!] at this;rw[ar,bH]
  lia) λw hw i hi=>by
   rcases aB.mp hw with hw | hw
   ·obtain s'|hs'|rfl:=JM hw;show V.pf i (rlt i hi) s' hs'
   ·rcases ax.mp hw with rfl | hw
    ·show V.zf i (rlt i hi) c hc
    ·obtain s'|hs'|rfl:=L! hw;show V.pf i (rlt i hi) s' ()
 rw[vw] at bz;rw[ez,<- V.det,eq] at cr;have key:Y s c*(q:Rat)=(z:Rat):=cr.26;rcases Kn q with h | h
 ·have hq:((q.17:Nat):Rat)=(q:Rat):=by rw[<- aZ,<- h]
  show #[z,by rw[hq,key],bz]
 ·have hq:((q.17:Nat):Rat)=-(q:Rat):=by rw[<- aZ,<- dg];congr 1;lia
  show #[-z,by rw[hq,dg,<- key];grind,by rw[mS];show bz]
theorem We (F:m8 mv pt a c) (D8:mv.9<=8) (wm:∀xs∈mv,xs.9=mv.9) (wp:∀xs∈pt,xs.9=mv.9):∀T,∃R ps,Gd mv pt T R ps:=by
 intro T
 induction T with
 | zero=>show #[_,_,Gd.start]
 | succ T ih =>
  obtain R|ps|G:=ih;obtain RR|t|t1|t2|RRt|hs:=id G;have le:=RR.le
  obtain R'|_W|d|ls|S:=zv (n:=mv.9) (rows:=pt++R.12 (il mv)) (λxs hx=>by
   rcases aB.mp hx with hx | hx
   ·show wp xs hx
   ·obtain y|_|rfl:=au.mp hx;show tE) (F.57 D8 wm wp (t:=t) () RRt)
  have J!:=yw rfl wm wp RR S.rr;show #[R',_W,(G.57 wm wp J!).1]
theorem X4 (F:m8 mv pt a c) (D8:mv.9<=8) (wm:∀xs∈mv,xs.9=mv.9) (wp:∀xs∈pt,xs.9=mv.9) (RR:bL (iI mv pt T) mv.9 R ps):Gd mv pt T R ps:=by
 obtain R'|_W|G:=We F D8 wm wp T;obtain rfl|rfl:=RR.10 G.1;show G
theorem m8.rtp (F:m8 mv pt a c) (D8:mv.9<=8) (wm:∀xs∈mv,xs.9=mv.9) (wp:∀xs∈pt,xs.9=mv.9) (RR:bL (iI mv pt T) mv.9 R ps):∃q,0 < q/\q<=2^(ps.9*((mv.9 - 1)*(a+c)+4))/\∀xs∈R,∀x∈xs,Tp q (2^(ps.9*((mv.9 - 1)*(a+c)+4))) x:=by
 obtain _|t|t1|_|RRt|_:=X4 F D8 wm wp RR;obtain Pm|Z|d|w|vb|hw:=F.vb wm wp t1 RRt;have le:=RR.le;obtain q|q0|q1|q2:=vb.tp () bD
 have up:(16*2^w)^ps.9<=2^(ps.9*((mv.9 - 1)*(a+c)+4)):=by
  have e:(16*2^w)^ps.9=2^(ps.9*(w+4)):=by rw[show (16:Nat)=2^4 from rfl,<- bg,<- yM,bE ps.9,iu w]
  rw[e];refine ak () (fE _ ?_);rcases hw with ⟨_,rfl⟩ | ⟨_,rfl⟩ <;> lia
 refine #[q,q0,ag q1 up,MV λi hi e=>?_];by_cases he:e < mv.9
 ·show (q2 i (by rw[<- RR.1];show hi) e he).24 up
 ·rw[Lk RR.2.1 ()];show Tp.zero
theorem NF (hw:∀xs∈N,xs.9=n) (hW:1<=W) (h0:0 < M) (h3:∀xs∈N,∀x∈xs,Tp M W x) (f:Nat->Nat) (hf:∀i,i < N.9->bo N i (f i)≠0/\∀j,j < N.9->j≠i->bo N j (f i)=0) (hn:∀i,i < N.9->f i < n) (RR:bL N n Hd psd):psd.9=N.9:=by
 have ent:=OS h0 h3;obtain ls|h!|d|I:=yU hw hW (by rw[af];show ent) n (ah _);obtain _|_|⟨pm,B⟩|E:=I;rw[af] at B E
 have RF:Fb N.9 n (bo N) h!.9 (λj=>h!.4 j 0) (λi c=>eY ls i c / d):=Fb.other (E.done λi hi c hc=>xG (n:=n) (λzs hz=>by
  obtain xs|hx|rfl:=au.mp hz;rw[rF];show hw xs hx) hc) AI AJ
 obtain e1|_|_:=RF.uniq RR.2.2 (λ_ hi=>dA.row hi) (λ_ hi=>dA.row hi);rw[<- e1];have km:=B.km;rcases aX h!.9 N.9 with z | z
 ·exfalso
  have hk:=B.Q! h!.9 z;obtain f1|f2:=hf _ hk
  have low:∀i,i < h!.9->eY (N.12 jB) (pm i) (f (pm h!.9))=0:=λi hi=>by
   rw[zW (B.Q! i ()),f2 _ (B.Q! i ()) (λe=>by have:=B.inj i h!.9 () z e;lia),fq]
  have lz:∀j,j < h!.9->eY ls j (f (pm h!.9))=0:=λj hj=>by
   rw[B.old hj]
   show Gv (λr hr=>by
    obtain t|ht|rfl:=qZ hr;show low t ht) _ _
  have:=B.eqs h!.9 z (f (pm h!.9));rw[if_neg (dZ _),E.zero h!.9 (ah _) z _ (hn _ hk),bQ λj hj=>by rw[lz j hj,fq],zW hk] at this;have bne:=yI (rows:=N) (i:=pm h!.9);have d0:=B.d0;rcases Rj.mp (this.3 (by grind)) with q | q
  ·show d0 q
  ·rcases Rj.mp q with q | q
   ·show bne q
   ·show f1 q
 ·lia
theorem Wh (h1:∀i j,i < j->j < ps.9->ps.4 i 0 < ps.4 j 0) (h2:∀j,j < ps.9->ps.4 j 0 < n):(Ax ps n).9+ps.9=n:=by
 have key:∀i,∃k,k<=ps.9/\(Ax ps i).9+k=i/\(∀j,j < k->ps.4 j 0 < i)/\∀j,k<=j->j < ps.9->i<=ps.4 j 0:=by
  intro i
  induction i with
  | zero=>show #[0,aW _,rfl,λj hj=>absurd hj (cV _),λj _ _=>aW _]
  | succ i ih =>
   obtain k|k1|k2|k3|k4:=ih;rw[CP];by_cases hk:k < ps.9/\ps.4 k 0=i
   ·have hm:i∈ps:=by rw[<- hk.2];show getD_in hk.1
    rw[if_neg (λz=>z hm)];refine #[k+1,hk.1,(),λj hj=>?_,λj hj hl=>?_]
    ·rcases aX j k with z | z
     ·have:=k3 j z;lia
     ·rw[show j=k by lia,hk.2];lia
    ·have:=h1 k j () hl
     lia
   ·have hm:i∉ps:=λz=>by
     obtain j|hj|ej:=bu z;have ej':ps.4 j 0=i:=by rw[aa,ae hj];show ej
     rcases aX j k with y | y
     ·have:=k3 j y;lia
     ·rcases aX k j with x | x
      ·have:=h1 k j x hj;have:=k4 k (ah _) ()
       lia
      ·show hk #[(),by rw[show k=j by lia];show ej']
    rw[if_pos hm];refine #[k,k1,by rw[ar,aY];lia,λj hj=>by have:=k3 j hj;lia,λj hj hl=>?_];have:=k4 j hj hl;rcases aX i (ps.4 j 0) with y | y
    ·show y
    ·show absurd (by rw[show i=ps.4 j 0 by lia];show getD_in hl) hm
 obtain k|k1|k2|k3|k4:=key n;rcases aX k ps.9 with z | z
 ·have:=k4 k (ah _) z;have:=h2 k z
  lia
 ·lia
theorem MB:∀xs∈eU R ps n,xs.9=n:=λxs hx=>by
 obtain _|_|_|rfl:=EG hx;show xC
theorem zH (RR:bL rows n R ps):(eU R ps n).9+ps.9=n:=by
 unfold eU;rw[af];show Wh RR.2.2.inc RR.2.2.low
theorem K7 (RR:bL rows n R ps) (hW:1<=W) (h0:0 < M) (h3:∀xs∈eU R ps n,∀x∈xs,Tp M W x) (RN:bL (eU R ps n) n Hd psd):psd.9+ps.9=n:=by
 have fn:∀i,i < (eU R ps n).9->∀c,c < n->c∉ps->bo (eU R ps n) i c=if c=(Ax ps n).4 i 0 then 1 else 0:=λi hi c hc hp=>by
  unfold eU at hi ⊢;rw[af] at hi;unfold bo;rw[aa (l:=List.map _ _),az,ae hi];change (Ur R ps n (Ax ps n)[i]).4 c 0=_
  rw[SS hc hp,aa,ae hi];rfl
 have fm:∀i,i < (eU R ps n).9->(Ax ps n).4 i 0 < n/\(Ax ps n).4 i 0∉ps:=λi hi=>by
  unfold eU at hi;rw[af] at hi;show A1.mp (getD_in hi)
 have nd:(Ax ps n).46:=by
  unfold Ax;show Z9.sublist List.filter_sublist List.nodup_range
 rw[NF MB hW h0 h3 (λi=>(Ax ps n).4 i 0) (λi hi=>#[?_,λj hj ne=>?_]) (λi hi=>(fm i hi).1) RN,zH RR]
 ·rw[fn i hi _ (fm i hi).1 (fm i hi).2,if_pos rfl];decide
 ·rw[fn j hj _ (fm i hi).1 (fm i hi).2,if_neg λz=>ne ?_];unfold eU at hi hj;rw[af] at hi hj;rw[aa,aa,ae hi,ae hj] at z;have z:(Ax ps n)[i]=(Ax ps n)[j]:=z;have pw:=WN.mp nd;rcases mE i j with y | y | y
  ·show absurd z (pw i j hi hj y)
  ·show y.26
  ·show absurd z.26 (pw j i hj hi y)
structure YX (mv pt:_m) (st pu:List Rat):Prop where
 f2:∀xs∈mv,uD xs st
 part:∀kk,∀x∈nextK mv pt st pu kk,jX x
 su:∀u∈pu,jX u
 sp:∀row∈pt,∀y∈row,jX y
 mul:∀u∈pu,∀row∈pt,∀y∈row,jX (u*y)
inductive Iu (K:_g) (vs:List V) (H:Hp) (Q:VK) (E9:XK):Prop
 | mk (r s u:Addr) (H0:Hp) (mv pt lk:_m) (st pu:List Rat):vs=[.ref r,.ref s,.ref u]->dQ K H0 H r mv pt lk->eO mv pt lk->cA K H s st->cA K H u pu->st.9=mv.9->pu.9=pt.9->YX mv pt st pu->(∀t H',H t=none->aG H H'->cA K H' t (c7 mv pt st pu)->Q (.ref t) H')->Iu K vs H Q E9
structure Bd (mv pt:_m) (M1 M2 V a1 a2 c:Nat):Prop where
 m1:0 < M1
 m2:0 < M2
 b1:M1<=2^a1
 b2:M2<=2^a2
 gm:GF M1 V mv
 gp:GF M2 V pt
 vc:(mv.9+4)*V<=2^c
section
variable {st pu go:List Rat} {M1 M2 V a1 a2 c N Np p t T ν:Nat}
theorem Bd.v1 (B:Bd mv pt M1 M2 V a1 a2 c):V<=2^c:=ag (cy _ ()) B.vc
theorem vF (h0:0 < M) (h1:M<=2^a) (h2:W<=2^b) (hab:a+b<=3990000) (h:Fr M W x):jX x:=by
 refine qO (Tp.of h (ah _)) h0 (ag h1 (ak () ())) ?_;refine ag (aL h2 h1) ?_;rw[<- bg];show ak () ()
theorem Bd.next (B:Bd mv pt M1 M2 V a1 a2 c) (D:eO mv pt lk) (ls:st.9=mv.9) (lu:pu.9=pt.9) (N0:0 < N) (dv:M2*Np∣M1*N) (hs:∀x∈st,Fr N (2^p) x) (hu:∀x∈pu,Fr Np (2^p) x) (hN:N<=2^ν) (sz:a1+ν+c+p<=3900000) (sp2:a2+c<=3900000):YX mv pt st pu/\∀x∈c7 mv pt st pu,Fr (M1*N) (2^(c+p)) x:=by
 have V1:=B.v1;have i4:=D.i4;have MN0:0 < M1*N:=bY B.m1 N0;have MN:M1*N<=2^(a1+ν):=by rw[bg];show aL B.b1 hN
 have Np0:0 < Np:=by
  rcases dE Np with z | z
  ·rw[z,Nat.mul_zero] at dv;have:=Nat.eq_zero_of_zero_dvd dv
   lia
  ·show z
 have akI:Np<=M1*N:=ag (cy _ B.m2) (jC MN0 dv)
 have one:∀u∈pu,∀row∈pt,∀y∈row,Fr (M1*N) (V*2^p) (u*y):=λu hu' row hr y hy=>by
  have:=(B.gp row hr y hy).mul (hu u hu');rw[cL];show this.dvd dv
 have part:∀kk,kk<=pt.9->∀x∈nextK mv pt st pu kk,Fr (M1*N) (2^(c+p)) x:=λkk hkk x hx=>by
  obtain j|hj|e:=bu hx;rw[kU] at hj;have e2:=CB (mv:=mv) (pt:=pt) (st:=st) (pu:=pu) (k:=kk) hj;rw[aa,ae (by rw[kU];show hj)] at e2;have e3:x=fe (mv[j]++(pt.12 λxs=>xs.4 j 0).21 kk) (st++pu.21 kk):=by rw[<- e,<- e2];rfl
  have wj:=D.mw _ (aw hj);rw[e3,vH ()];have f1:=Fr.dot (B.gm _ (aw hj)) hs;rw[wj] at f1
  have f2:Fr (M1*N) (4*(V*2^p)) (fe ((pt.12 λxs=>xs.4 j 0).21 kk) (pu.21 kk)):=by
   have hc:∀y∈(pt.12 λxs=>xs.4 j 0).21 kk,Fr M2 V y:=λy hy=>by
    obtain xs|hxs|rfl:=au.mp (bO hy);rw[aa];cases e:xs[j]? with
    | none=>show Fr.zero
    | some z=>show B.gp xs hxs z (ai e)
   have:=Fr.dot (ys:=pu.21 kk) hc (λy hy=>hu y (bO hy));refine (this.dvd dv).24 (ay _ ?_);rw[br,af]
   lia
  refine (f1.add f2).24 ?_;rw[<- Fd,bg,<- cJ];show ay _ B.vc
 have szb:∀{x:Rat},Fr (M1*N) (2^(c+p)) x->jX x:=λh=>vF MN0 MN (ah _) () h
 have all:∀kk,∀x∈nextK mv pt st pu kk,Fr (M1*N) (2^(c+p)) x:=λkk x hx=>by
  rcases aX pt.9 kk with z | z
  ·have e:nextK mv pt st pu kk=nextK mv pt st pu pt.9:=(vW () ()).3 (vW (ah _) ()).26;rw[e] at hx;show part _ (ah _) x hx
  ·show part kk z x hx
 refine #[#[λxs hx=>#[a1,c,ν,p,#[M1,V,B.m1,B.b1,V1,B.gm xs hx],#[N,2^p,N0,hN,ah _,hs],()],λkk x hx=>szb (all kk x hx),λu hu'=>?_,λrow hr y hy=>?_,λu hu' row hr y hy=>szb ((one u hu' row hr y hy).24 (by rw[bg];show ay _ V1))],λx hx=>?_]
 ·show vF Np0 (ag akI MN) (ah _) () (hu u hu')
 ·show vF B.m2 B.b2 V1 () (B.gp row hr y hy)
 ·rw[<- vW (k:=pt.9) (ah _) ()] at hx;show all _ x hx
end
theorem Oo (hc:X.calm=true):qJ X (.builtin "max") (λxs H Q=>∃(p:Addr) (ns:List Int),xs=[.ref p]/\bA X.K H p (ns.12 V.int)/\0 < ns.9/\∀M,M∈ns->(∀a,a∈ns->a<=M)->Q (.int M) H):=by
 intro _a s σ H xs us Q I r h;obtain p|ns|rfl|hp|hne|q:=h;obtain u|rfl|ru:=vals1 r;cases ru;obtain _n|r2|pl|_:=I.32 hp;have hi:=intsAre_of r2;have hl:=pl.20;obtain xs|e:=hi.allInts.items
 have hns:ns=xs.toList.12 (·.1):=by
  rw[<- hi.numsOf,<- nums_intItems,<- e]
 have hsz:0 < xs.7:=by
  have h3:=hne;rw[hns,af,ZE] at h3;show h3
 rw[e] at hl;refine max_intList (I.ok.hd hc) hl hsz λv h' tk hv hk=>?_
 obtain t|rfl:=intItems_at hv;obtain h1|h2:=argBest_gt (numAt xs) (xs.7 - 1);refine #[.int _,H,I.59 hk,#[_,rfl],q _ ?_ λa ha=>?_]
 ·rw[hns,numAt_eq];show getD_in (by rw[af,ZE];lia)
 ·rw[hns] at ha;obtain j|hj|rfl:=mem_getD ha;rw[af,ZE] at hj;rw[<- numAt_eq];show h2 j ()
theorem PV (ws vs:List V) (M1 M2 M3:Nat):∃μ:V->Nat,(∀x∈ws,μ x=M2)/\(∀x∈vs,x∉ws->μ x=M3)/\(∀x,x∉ws->x∉vs->μ x=M1)/\∀x,μ x=M1\/μ x=M2\/μ x=M3:=by
 classical
 refine #[λx=>if x∈ws then M2 else if x∈vs then M3 else M1,λx h=>if_pos h,λx h h'=>?_,λx h h'=>?_,λx=>?_]
 ·change (if x∈ws then M2 else if x∈vs then M3 else M1)=M3
  rw[if_neg h',if_pos h]
 ·change (if x∈ws then M2 else if x∈vs then M3 else M1)=M1
  rw[if_neg h,if_neg h']
 ·change (if x∈ws then M2 else if x∈vs then M3 else M1)=M1\/(if x∈ws then M2 else if x∈vs then M3 else M1)=M2\/(if x∈ws then M2 else if x∈vs then M3 else M1)=M3
  by_cases h:x∈ws
  ·rw[if_pos h];show .inr (.inl rfl)
  ·rw[if_neg h];by_cases h':x∈vs
   ·rw[if_pos h'];show .inr (.inr rfl)
   ·rw[if_neg h'];show .inl rfl
theorem mI.apart {K:_g} (h:mI K A H n C m p l b q0 us ws vs):(∀x∈us,x∉ws/\x∉vs)/\∀x∈vs,x∉ws:=by
 obtain n1|n2|n3:=gZ.mp h.nd;obtain n4|n5|n6:=gZ.mp n1;show #[λx hx=>#[λz=>n3 x (aB.mpr (.inl hx)) x z rfl,λz=>n6 x hx x z rfl],λx hx z=>n3 x (aB.mpr (.inr hx)) x z rfl]
theorem mI.fr3 {K:_g} (h:mI K A H n (λ_=>Dr (2^c)) m p l b q0 us ws vs):∃M1 M2 M3,0 < M1/\0 < M2/\0 < M3/\M1<=2^(c*(n*n))/\M2<=2^(c*(ws.9*n))/\M3<=2^(c*(vs.9*n))/\(∀x∈us,iZ K A H n (Fr M1 (2^c)) x)/\(∀x∈ws,iZ K A H n (Fr M2 (2^c)) x)/\∀x∈vs,iZ K A H n (Fr M3 (2^c)) x:=by
 have one:∀l:List V,(∀x∈l,x∈us++vs++ws)->∃M,0 < M/\M<=2^(c*(l.9*n))/\∀x∈l,iZ K A H n (Fr M (2^c)) x:=λl hl=>by
  obtain ra|pa|la|ha:=BV λx hx=>h.row x (hl x hx)
  obtain M|m0|m1|m2:=RM (c:=c) (n:=n) (rows:=ra) ha;show #[M,m0,by rw[la] at m1;show m1,KW pa λqs hq=>#[(ha qs hq).1,m2 qs hq]]
 obtain M1|a1|a2|a3:=one us λx hx=>by simp [hx]
 obtain M2|b1|b2|b3:=one ws λx hx=>by simp [hx]
 obtain M3|c1|c2|c3:=one vs λx hx=>by simp [hx]
 rw[h.lm] at a2;show #[M1,M2,M3,a1,b1,c1,a2,b2,c2,a3,b3,c3]
inductive Eu (K:_g) (xs:List V) (H:Hp) (Q:VK) (E9:XK):Prop
 | mk (b m p l q0:Addr) (n V1:Nat) (μ:V->Nat) (A:Addr->Prop) (us ws vs:List V):xs=[.ref b,.ref m,.ref p,.ref l]->LY A m p l b q0->mI K A H n (λx=>Fr (μ x) V1) m p l b q0 us ws vs->n<=8->ws.9<=4->vs.9<=4->(∀x,0 < μ x)->(∀x,μ x<=2^800)->(∃M,∀x,x∉ws->x∉vs->μ x=M)->V1<=2^20->(∀q,H q=none->A q)->(∀r us' H',H' r=some (.tup [.ref m,.ref p,.ref l])->mI K A H' n (λx=>Fr (μ x) (9^3*V1)) m p l b q0 us' ws vs->jY A b m H H'->Q (.ref r) H')->Eu K xs H Q E9
def PtG (n i o w c:Nat) (mv pt lk:_m):Prop:=∃M1 M2 M3 V1:Nat,0 < M1/\0 < M2/\0 < M3/\GF M1 V1 mv/\GF M2 V1 pt/\GF M3 V1 lk/\((w<=9/\M1=2520/\M2=2520/\M3=2520/\V1=9^3*9)\/(9 < w/\M1<=2^(c*(n*n))/\M2<=2^(c*(i*n))/\M3<=2^(c*(o*n))/\V1=9^3*2^c))
inductive En (K:_g) (vs:List V) (H:Hp) (Q:VK) (E9:XK):Prop
 | mk (b:Addr) (n i o w c:Nat):vs=[.ref b,.int n,.int i,.int o,.int w]->kg H b->n<=8->i<=4->o<=4->1<=w->w<=1000000->max w 6<=2^c->c<=20->c*((n+i+o)*n)<=800->(∀r mv pt lk H',dQ K H H' r mv pt lk->mv.9=n->pt.9=i->lk.9=o->eO mv pt lk->PtG n i o w c mv pt lk->kg H' b->c6 b H H'->Q (.ref r) H')->En K vs H Q E9
open PySem.MeetsSeq
theorem Tp.neg (h:Tp M W x):Tp M W (-x):=by
 obtain z|e|b:=h;show #[-z,by rw[Rat.neg_mul,e];show (dg z).26,by rw[mS];show b]
inductive Eo (K:_g) (vs:List V) (H:Hp) (Q:VK) (E9:XK):Prop
 | mk (p:Addr) (n w:Nat) (H0:Hp) (rows R:_m) (ps:List Nat):vs=[.ref p,.int n]->bf K H0 H p R->R.9<=100->n<=100->bL rows n R ps->D9 R n w->(∀xs∈R,∀x∈xs,jX x)->(∀r H',H r=none->aG H H'->bf K H H' r (eU R ps n)->Q (.ref r) H')->Eo K vs H Q E9
structure Yz (A lk:_m) (e:Nat):Prop where
 n8:A.9<=8
 wm:∀xs∈A,xs.9=A.9
 wp:∀xs∈lk,xs.9=A.9
 kf:∃a c,m8 A lk a c/\A.9*((A.9 - 1)*(a+c)+4)<=900/\∀p,p<=A.9->(A.9 - p)*(p*((A.9 - 1)*(a+c)+4)+4)<=e
 e1:e<=1650
def Kf (A lk:_m) (n t e:Nat) (Hd:_m):Prop:=∃R ps psd M,bL (iI A lk t) n R ps/\bL (eU R ps n) n Hd psd/\psd.9+ps.9=n/\0 < M/\M<=2^e/\∀xs∈Hd,∀x∈xs,Tp M (2^e) x
theorem Yz.sw (h:Yz A lk e) (RR:bL (iI A lk T) A.9 R ps):(∃w,D9 R A.9 w)/\(∀xs∈R,∀x∈xs,jX x)/\∃w,D9 (eU R ps A.9) A.9 w/\min (eU R ps A.9).9 A.9*(w+4)<=e/\∃q,0 < q/\∀xs∈eU R ps A.9,∀x∈xs,Tp q (2^w) x:=by
 obtain a|c|KF|b1|b2:=h.kf;obtain q|q0|q1|q2:=KF.rtp h.n8 h.wm h.wp RR;have n8:=h.n8;have le:=RR.le;have lR:=RR.1;have cnt:=zH RR;have e1:=h.e1;have bp:=b2 ps.9 le;generalize (A.9 - 1)*(a+c)+4=E at b1 b2 q1 q2 bp;have pE:ps.9*E<=900:=ag (ay _ le) b1;have up:∀{m:Nat},900<=m->2^(ps.9*E)<=2^m:=λh=>ak () ()
 have tn:∀xs∈eU R ps A.9,∀x∈xs,Tp q (2^(ps.9*E)) x:=λxs hx x _v=>by
  obtain a|_|_|rfl:=EG hx;show XJ q0 q1 q2 RR x _v
 have bn:min (eU R ps A.9).9 A.9*(ps.9*E+4)<=e:=ag (ay _ (show min (eU R ps A.9).9 A.9<=A.9 - ps.9 by lia)) bp;refine #[#[ps.9*E,q,2^(ps.9*E),q0,ag q1 (up ()),bD,ah _,q2,(),(),?_],λxs hx x _v=>qO (q2 xs hx x _v) q0 (ag q1 (up ())) (up ()),ps.9*E,#[q,2^(ps.9*E),q0,ag q1 (up ()),bD,ah _,tn,(),(),()],bn,q,q0,tn];have:min R.9 A.9*(ps.9*E+4)<=8*904:=aL () ()
 lia
inductive Bl (K:_g) (C:Addr) (vs:List V) (H:Hp) (Q:VK) (E9:XK):Prop
 | mk (x:Addr) (T e:Nat) (H0:Hp) (mv pt lk:_m):vs=[.ref x,.int T]->T<=99->ip K H0 H C x mv pt lk->eO mv pt lk->Dk mv pt lk->Yz (a9 mv mv.9) lk e->(∀r Hd H',H r=none->aG H H'->bf K H H' r Hd->Kf (a9 mv mv.9) lk mv.9 T e Hd->Q (.ref r) H')->Bl K C vs H Q E9
theorem Kf.cnt (h:Kf A lk n t e Hd) (RR:bL (iI A lk t) n R' _W):Hd.9+R'.9=n:=by
 obtain R|ps|psd|M|RR0|RN|c|_:=h;obtain rfl|rfl:=RR.10 RR0;rw[RN.1,RR.1];show c
theorem Dk.turn (h:Dk mv pt lk):Dk (a9 mv mv.9) lk pt:=by
 obtain M|V|a|b|c|d|e|f:=h;show #[M,V,a,b,c,AL d,f,e]
section
theorem AO {M V:Nat} {f:Nat->Rat}:∀k,(∀i,i < k->Fr M V (f i))->Fr M (k*V) (aU k f)
 | 0,_=>Fr.zero
 | k+1,h=>by
  rw[ir];show (AO k λi hi=>h i ()).add (h k ())
variable {d j n w M:Nat} {go ws:List Rat} {rows:_m}
end
section
variable [DecidableEq α] [DecidableEq β] [DecidableEq γ] (k1:Kind α) (k2:Kind β) (k3:Kind γ)
theorem vals3 (r:cU [x,y,z] us):∃u v w,us=[u,v,w]/\RelV x u/\RelV y v/\RelV z w:=by
 cases r with
 | cons a r=>cases r with
  | cons b r=>cases r with
   | cons c r=>cases r;show #[_,_,_,rfl,a,b,c]
end
theorem xO (h:∀xs∈rows,∀x∈xs,Tp M W x):∀xs∈a9 rows n,∀x∈xs,Tp M W x:=λxs hx x _v=>by
 obtain c|_|rfl:=au.mp hx;obtain ys|hy|rfl:=au.mp _v;show sG (h ys hy) c
theorem zY (h:Tp M W x) (M0:0 < M) (h1:M<=2^a) (h2:W<=2^a) (ha:a<=3995000):jX x:=qO h M0 (ag h1 (ak () ha)) (ag h2 (ak () ha))
def Nv:Sp:=λvs H Q _=>∃b,vs=[.ref b]/\kg H b/\∀r (n i o w:Nat) H',H' r=some (.tup [.int n,.int i,.int o,.int w])->n<=5->i<=4->o<=4->(w=4\/w=9\/(w=1000/\n<=2))->(n=5->i<=2/\o<=2)->kg H' b->c6 b H H'->Q (.ref r) H'
def wd (n:Nat) (ls:List Rat):_m:=(Zi n).12 λi=>if i+1=n then ls else (Zi n).12 λj=>if j=i+1 then 1 else 0
theorem Yb (hl:ls.9=n):∀xs∈wd n ls,xs.9=n:=λxs hx=>by
 obtain i|_|rfl:=au.mp hx
 split
 ·show hl
 ·rw[af,bX]
theorem yH:(wd n ls).9=n:=by unfold wd;rw[af,bX]
def vE (n:Nat) (f:Nat->Nat->Rat):_m:=(Zi n).12 λi=>(Zi n).12 λj=>f i j
theorem EN:(vE n f).9=n:=by unfold vE;rw[af,bX]
theorem S7:∀xs∈vE n f,xs.9=n:=λxs hx=>by obtain i|_|rfl:=au.mp hx;rw[af,bX]
theorem Js (h:i < n):(vE n f)[i]?=some ((Zi n).12 λj=>f i j):=by unfold vE;rw[az,cx h];rfl
theorem NG {h:Nat->Rat} (hi:i < n):((Zi n).12 h).4 i 0=h i:=by rw[aa,az,cx hi];rfl
theorem N5 (h:i < (vE n f).9):(vE n f)[i]=(Zi n).12 λj=>f i j:=by
 have:=Js (f:=f) (n:=n) (i:=i) (by rw[EN] at h;show h);rw[ae h] at this;show bU this
section
variable {K:_g} {H0 H:Hp}
theorem cO.ahA (h:cO K H0 H qs x) (hl:H l=some (.lst ys)) (n:x≠V.ref l):cO K H0 (upd H l o) qs x:=by obtain q|rfl|b|c:=h;show #[q,rfl,b,c._A hl λz=>n (by rw[z])]
theorem Ce {l:Addr} {zs:List V} {o:HO} (hl:H l=some (.lst zs)):∀{rows:_m} {ys:List V},Y9 (cO K H0 H) rows ys->V.ref l∉ys->Y9 (cO K H0 (upd H l o)) rows ys
 | _,_,.nil,_=>.nil
 | _,_,.cons h t,n=>.cons (h.ahA hl λz=>n (by rw[z];show .head _)) (Ce hl t λz=>n (.tail _ z))
end
theorem OO:∀x∈nQ n a,Fr 1 1 x:=λx hx=>by
 obtain i|_|rfl:=au.mp hx
 split
 ·show Fr.one ()
 ·show Fr.zero
theorem vT:(nQ n a).9=n:=by unfold nQ;rw[af,bX]
def kZ (mv pt F:_m):_m:=vE mv.9 λa b=>bo mv a b+aU pt.9 λk=>bo pt k a*bo F k b
section
variable {mv pt lk F R:_m} {n m:Nat} {ps:List Nat} {x:Nat->Rat} {st pu:List Rat}
theorem gY:(kZ mv pt F).9=mv.9:=EN
theorem JP:∀xs∈kZ mv pt F,xs.9=mv.9:=S7
theorem Qm (hi:i < n) (hj:j < n):bo (vE n f) i j=f i j:=by
 unfold bo;rw[aa (l:=vE n f),Js hi];show NG hj
theorem CY (ha:a < mv.9) (hb:b < mv.9):bo (kZ mv pt F) a b=bo mv a b+aU pt.9 λk=>bo pt k a*bo F k b:=Qm ha hb
theorem Tz (hw:∀xs∈mv,xs.9=mv.9) (lF:F.9=pt.9):Wv (λline more=>Wv (λx y=>x+y) line more) mv (jF (a9 pt mv.9) F mv.9)=kZ mv pt F:=by
 have l1:(jF (a9 pt mv.9) F mv.9).9=mv.9:=by unfold jF;rw[af,cz]
 apply dO (by rw[aJ,l1,gY,qL]);intro a h1 h2;have ha:a < mv.9:=by rw[gY] at h2;show h2
 rw[cP];unfold kZ at h2 ⊢;rw[N5 h2]
 have ea:(jF (a9 pt mv.9) F mv.9)[a]'(by rw[l1];show ha)=(a9 F mv.9).12 λys=>fe ys (pt.12 λxs=>xs.4 a 0):=by
  have:(jF (a9 pt mv.9) F mv.9)[a]?=some ((a9 F mv.9).12 λys=>fe ys (pt.12 λxs=>xs.4 a 0)):=by
   unfold jF;rw[az,uL ha];rfl
  rw[ae (by rw[l1];show ha)] at this;show bU this
 rw[ea];have wa:=hw _ (aw ha);apply dO (by rw[aJ,af,af,cz,bX,wa,qL]);intro b h3 h4;rw[af,bX] at h4;rw[cP,fU,fU,Kv]
 have e1:mv[a][b]'(by rw[wa];show h4)=bo mv a b:=by
  unfold bo;rw[aa (l:=mv),ae ha];change _=(mv[a]).4 b 0
  rw[aa,ae (by rw[wa];show h4)];rfl
 have e2:(a9 F mv.9)[b]'(by rw[cz];show h4)=F.12 λxs=>xs.4 b 0:=by
  have:=uL (rows:=F) (n:=mv.9) h4;rw[ae (by rw[cz];show h4)] at this;show bU this
 rw[e1,e2,gX (by rw[af,af,lF]),af,lF];congr 1;show aE λk _=>by rw[P0,P0];show cL _ _
theorem xT {a:Nat->Nat->Rat} {f:Nat->Nat->Rat} {w:Nat->Rat}:∀k,(∀i,i < k->dA m a (f i))->dA m a λc=>aU k λi=>w i*f i c
 | 0,_=>dA.zero λ_=>rfl
 | k+1,h=>by
  have:=dA.lin 1 (w k) (xT (w:=w) k λi hi=>h i ()) (h k ());show this.congr λc=>by change _=aU k _+_;grind
end
theorem CQ {M V i j:Nat} (h:GF M V rows):Fr M V (bo rows i j):=by
 unfold bo;rw[aa (l:=rows)];cases ei:rows[i]? with
 | none=>change Fr M V (([]:List Rat).4 j 0);show Fr.zero
 | some xs =>
  change Fr M V (xs.4 j 0)
  rw[aa];cases ej:xs[j]? with
  | none=>show Fr.zero
  | some y=>show h xs (ai ei) y (ai ej)
theorem afZ.aeJ (D:eO mv pt lk):eO (kZ mv pt F) pt lk:=#[by rw[gY];show D.n8,D.i4,D.o4,λxs hx=>by rw[gY];show JP xs hx,λxs hx=>by rw[gY];show D.pw xs hx,λxs hx=>by rw[gY];show D.lw xs hx]
inductive Bx (K:_g) (vs:List V) (H:Hp) (Q:VK) (E9:XK):Prop
 | mk (p q:Addr) (w:Nat) (H0 H1:Hp) (one other:_m):vs=[.ref p,.ref q,.int w]->bf K H0 H p one->bf K H1 H q other->one.9<=1000->other.9<=1000->w<=1000->((∀xs∈one,xs.9=other.9/\∀ys∈a9 other w,uD ys xs))->(∀xs∈other,xs.9=w)->(∀r H',H r=none->aG H H'->bf K H H' r (jF one other w)->Q (.ref r) H')->Bx K vs H Q E9
inductive kd {α:Type}:Sem α->Prop
 | pure (a:α):kd (.pure a)
 | raise (e:Value):kd (.raise e)
 | uns (w:String):kd (.unsupported w)
 | rule {t:String} {k:Unit->Sem α} (h:∀u,kd (k u)):kd (.rule t k)
 | load {a:Addr} {p:Option Value} {k:Obj->Sem α} (h:∀o,kd (k o)):kd (.load a p k)
 | update {a:Addr} {p:Option Value} {f:Obj->Obj} {k:Unit->Sem α} (hf:∀o,(f o).dict=o.dict) (h:∀u,kd (k u)):kd (.update a p f k)
 | alloc {o:Obj} {k:Addr->Sem α} (h:∀a,kd (k a)):kd (.alloc o k)
 | alive {a:Addr} {k:Option Obj->Sem α} (h:∀o,kd (k o)):kd (.loadIfAlive a k)
 | stack {k:List (Code×Pos)->Sem α} (h:∀l,kd (k l)):kd (.stack k)
 | reg {a:Addr} {k:Unit->Sem α}:kd (.register a k)
 | ask {k:Setting->Sem α} (h:∀x,kd (k x)):kd (.ask k)
theorem kd.bind {m:Sem α} {f:α->Sem β} (hm:kd m) (hf:∀a,kd (f a)):kd (m >>= f):=by
 change kd (Sem.bind m f)
 induction hm with
 | pure a=>show hf a
 | raise e=>show .raise e
 | uns w=>show .uns w
 | rule _ ih=>show .rule λu=>ih u
 | load _ ih=>show .load λu=>ih u
 | update hg _ ih=>show .update hg λu=>ih u
 | alloc _ ih=>show .alloc λu=>ih u
 | alive _ ih=>show .alive λu=>ih u
 | stack _ ih=>show .stack λu=>ih u
 | reg=>show .reg
 | ask _ ih=>show .ask λu=>ih u
def mL (e:Addr) (d:Option Addr) (h:Heap):Prop:=e < h.objs.7/\∀o,h.objs[e]?=some o->o.dict=d
theorem mL.of (q:h.11 e=some o):mL e o.dict h:=by
 refine #[Y7 q,λo' q'=>?_];unfold Heap.get? at q
 split at q
 ·cases q
 ·rw[q'] at q;cases q;rfl
theorem mL.update (x:mL e d h) (hf:∀o,(f o).dict=o.dict):mL e d (h.42 a f):=by
 obtain objs|l:=h;refine #[by change e < (objs.modify a f).7;rw[Array.size_modify];show x.1,λo q=>?_];have q:(objs.modify a f)[e]?=some o:=q;rw[Array.getElem?_modify] at q
 split at q
 ·obtain o'|q'|rfl:=fu.mp q;rw[hf];show x.2 o' q'
 ·show x.2 o q
theorem mL.push (x:mL e d h):mL e d (h.25 o):=by
 obtain objs|l:=h;refine #[by change e < (objs.25 o).7;rw[Array.size_push];show Nl x.1,λo' q=>?_];have q:(objs.25 o)[e]?=some o':=q;rw[Array.getElem?_push,if_neg (bM x.1)] at q;show x.2 o' q
theorem Ro {t:Sem α} (ht:kd t) {Q:α->Pos->Y5->Prop}:∀{p:Pos} {s:Y5},Sem.wp M Γ t Q E p s->mL e d s.8 →
  Sem.wp M Γ t (λa p s'=>Q a p s'/\mL e d s'.8) (λv p s'=>E v p s'/\mL e d s'.8) p s:=by
 induction ht with
 | pure a=>show λh x=>#[h,x]
 | raise v=>show λh x=>#[h,x]
 | uns w=>show λh _=>h
 | reg=>show λh _=>h
 | rule _ ih=>show λh x=>ih .unit h x
 | load _ ih=>show λ#[o,ho,h] x=>#[o,ho,ih o h x]
 | update hf _ ih=>show λ#[ha,h] x=>#[ha,ih .unit h (x.42 hf)]
 | alloc _ ih=>show λh x=>ih _ h x.25
 | alive _ ih=>show λh x=>ih _ h x
 | stack _ ih=>show λh x=>ih _ h x
 | ask _ ih=>show λh x=>ih _ h x
theorem sE {t:Sem α} (ht:kd t) {Q:α->Y5->Prop} (h:Zd M A t Q E s) (x:mL e d s.8) :
  Zd M A t (λa s'=>Q a s'/\mL e d s'.8) (λv s'=>E v s'/\mL e d s'.8) s:=λΓ p hΓ=>Ro ht (h Γ p hΓ) x
theorem QG (a:Addr) (p:Option Value):kd (Sem.load a p Sem.pure):=.load λo=>.pure o
theorem Jx (v:Value):kd (fieldsOf v):=by
 unfold fieldsOf;cases v <;> try show .uns _
 refine kd.bind (QG _ _) λo=>?_
 cases o.data <;> first | show .pure _ | show .uns _
theorem yE (v:Value) (i:Nat):kd (field v i):=by
 unfold field;refine kd.bind (Jx v) λvs=>?_
 split
 ·show .pure _
 ·show .uns _
theorem CF (f:Array Value->Array Value) (o:Obj):(o.mapFields f).dict=o.dict:=by
 obtain c|d|dt|sl:=o;cases dt <;> rfl
theorem vI (v:Value) (i:Nat) (x:Value):kd (setField v i x):=by
 unfold setField;cases v <;> try show .uns _
 change kd (updateField _ i x)
 unfold updateField;refine kd.bind (QG _ _) λo=>?_
 cases o.data <;> try show .uns _
 dsimp only
 split
 ·show .update (λo=>CF _ o) λu=>.pure u
 ·show .uns _
theorem yD (e:Value) (f:Option Addr):kd (setFlight e f):=by
 unfold setFlight;refine kd.bind (yE e 1) λtb=>?_
 split
 ·show vI _ _ _
 ·show .pure _
theorem N8 (env:Env) (l:List Env):kd (behindIsImport env l):=by
 unfold behindIsImport
 split
 ·show .pure _
 ·split
  ·show .pure _
  ·show kd.bind (yE _ _) λ_=>.pure _
theorem Tj (env:Env) (b:Bool):∀l:List Env,kd (keptBack env b l)
 | []=>by
  simp only[keptBack]
  split
  ·show .pure _
  ·refine kd.bind ?_ λ_=>.pure _
   unfold underTheClaimsCaller;show kd.bind (.stack λl=>.pure l) λ_=>.pure _
 | _ :: _=>.pure _
theorem Jw:∀l:List Env,kd (readyFrames l)
 | []=>.pure _
 | env :: outer=>by
  unfold readyFrames
  split
  ·refine kd.bind (QG _ _) λo=>?_
   split
   ·show .pure _
   ·refine kd.bind (N8 _ _) λb=>kd.bind (Tj _ _ _) λv=>kd.bind (.update (λ_=>rfl) λu=>.pure u) λ_=>Jw outer
  ·show .uns _
theorem Ls (env:Env):kd (PySem.frameOf env):=by
 unfold PySem.frameOf;refine kd.bind (kd.bind (.stack λl=>.pure l) λ_=>.pure _) λl=>kd.bind ?_ λo=>?_
 ·unfold frameObject
  split
  ·show .pure _
  ·show kd.bind (Jw _) λ_=>.pure _
 ·cases o
  ·show .uns _
  ·show .pure _
theorem QF (f:Addr) (b:Bool):kd (entryPlaceOf f b):=by
 unfold entryPlaceOf;refine kd.bind (.stack λl=>.pure l) λl=>?_
 split <;> show .pure _
theorem QI (a b c d e:Value) (l:List Value):kd (EntryCells.newEntry a b c d e l):=by
 unfold EntryCells.newEntry newFields;generalize ([a,b,c,d,e]++if l.isEmpty then Wb 6 ZP else l).5=vs;have fin:kd (newObjAsIs (.type "traceback") (.fields vs)):=kd.bind (.alloc λa=>.pure a) λ_=>.pure _
 unfold newObj
 dsimp only
 split
 ·show kd.bind (.uns _) λ_=>fin
 ·show fin
theorem MX (e:Value) (env:Env):kd (noteFrame e env):=by
 unfold noteFrame
 split
 ·refine kd.bind (yE e 1) λh=>?_
  have last:∀f:Addr,kd (do setField e 1 (<- EntryCells.newEntry h (<- PySem.frameOf env) .none (aah f) .none (<- entryPlaceOf f (h != .none)))):=λf =>
   kd.bind (Ls env) λ_=>kd.bind (QF _ _) λ_=>kd.bind (QI _ _ _ _ _ _) λ_=>vI _ _ _
  split
  ·refine kd.bind (yE _ _) λv=>?_
   split
   ·show .pure _
   ·show kd.bind (vI _ _ _) λ_=>last _
  ·show last _
 ·show .uns _
theorem CV (env:Env) (e:Value):kd (leaving env e):=kd.bind (MX e env) λ_=>yD e none
theorem iJ.there (x:iJ P w H h a o):∃u,h.11 a=some u:=by
 cases o with
 | lst xs=>obtain _|_|_|_|e:=x;show #[_,e]
 | tup xs=>obtain _|_|_|o|e|_:=x;show #[_,e]
 | dK I!=>obtain _|_|_|_|o|_|_|e|_:=x;show #[_,e]
 | dT I!=>obtain _|_|_|_|o|_|_|e|_:=x;show #[_,e]
 | set S n=>obtain o|_|_|_|e|_:=x;show #[_,e]
 | ins C dx fs=>obtain _|_|_|e|_:=x;show #[_,e]
 | own y=>show x
 | xd fs=>obtain _|⟨_,_,_,e,_⟩|_:=x;show #[_,e]
 | Q! lo hi=>obtain _|_|_|e:=x;show #[_,e]
 | frz ob u=>obtain e|_:=x;show #[_,e]
 | tbl ps=>show #[_,(show h.11 a=some _ from x)]
 | met f y=>show #[_,(show h.11 a=some _ from x)]
 | ext φ=>show x.2.1
section
variable {P:Zx} {w:ZO} {fs:List Addr} {H H1 H2:Hp} {h0 h1 h2 B:Heap}
theorem Ll (U:Un fs [] H H1 h0 h1) (ok:yR P w H1 h1) (hB1:B.StaysIn h1) (hB2:B.StaysIn h2) (up:h1.UpToSlots h2)
  (c1:∀b u,H1 b=some u->∃o,B.11 b=some o) (c2:∀b o,h0.11 b=some o->b∉fs->∃o',B.11 b=some o')
  (hf:∀b∈fs,H b=none) (hd:∀b∈fs,∀o,h0.11 b=some o->∀vs,o.data≠.fields vs):Un fs [] H H1 h0 h2/\yR P w H1 h2:=by
 have same:∀b o,h1.11 b=some o->(∃o',B.11 b=some o')->h2.11 b=some o:=λb o e #[o',eb]=>by
  have z:=hB1 _ _ eb;rw[e] at z;cases z;show hB2 _ _ eb
 have slot:∀b o,h0.11 b=some o->b∈fs->∃sl,h2.11 b=some { o with slots:=sl }:=λb o e hb=>by
  obtain sl|e1:=U.slot b o e (hf b hb) hb (by simp);obtain sl2|e2:=up b _ e1 (hd b hb o e);show #[sl2,e2]
 refine #[#[λb o e n hb hx=>same b o (U.keep b o e n hb hx) (c2 b o e hb),λb o e n hb _=>slot b o e hb,U.47,λb o e hx=>?_,U.z!,U.x!,U.A!],λa o e=>?_]
 ·by_cases hb:b∈fs
  ·obtain sl|q:=slot b o e hb;show #[_,q]
  ·obtain o'|q:=c2 b o e hb;show #[o',hB2 _ _ q]
 ·refine (ok a o e).r! (λb u hb q=>same b u q ?_) (λ_ q=>q) λ_ _ q=>q
  rcases hb with z | z
  ·rw[z];show c1 a o e
  ·show c1 b _ z
theorem Un.inner {L:Addr} (a:Un fs [] H H1 h0 h1) (b:Un (L :: fs) [] H1 H2 h1 h2) (hL:h0.11 L=none):Un fs [] H H2 h0 h2 where
 keep:=λc o q n hc hx=>b.keep c o (a.keep c o q n hc hx) (a.47 c o q n hx) (λz=>(ax.mp z).45 (λe=>by rw[e,hL] at q;cases q) hc) hx
 slot:=λc o q n hc hx=>by
  obtain sl|e1:=a.slot c o q n hc hx;obtain sl'|e2:=b.slot c _ e1 (a.47 c o q n hx) (bP _ hc) hx;show #[sl',e2]
 free:=λc o q n hx=>by
  obtain o'|e1:=a.56 c o q hx;show b.47 c o' e1 (a.47 c o q n hx) hx
 there:=λc o q hx=>by
  obtain o'|e1:=a.56 c o q hx;show b.56 c o' e1 hx
 z!:=λc xs q=>b.z! c xs (a.z! c xs q)
 x!:=λc o xs q=>b.x! c o xs (a.x! c o xs q)
 A!:=λc ps q=>by
  obtain m1|e1:=a.A! c ps q;obtain m2|e2:=b.A! c _ e1;show #[m1++m2,by rw[e2,Array.append_assoc]]
end
structure WI (P:Zx) (w:ZO) (outer:List Env) (H:Hp) (s:Y5) (H':Hp) (ea t:Addr) (cls:Value) (B:Heap) (s':Y5):Prop where
 os:s'.os=s.os
 bare:AllBare s'.gens
 un:Un (yx outer) [] H H' s.22 s'.22
 _u:yR P w H' s'.22
 fly:aaf B outer ea cls (.ref t) s'.22
 c1:∀b u,H' b=some u->∃o,B.11 b=some o
 c2:∀b o,s.heap.11 b=some o->b∉yx outer->∃o',B.11 b=some o'
structure Fly (P:Zx) (w:ZO) (outer:List Env) (H:Hp) (s:Y5) (H':Hp) (ea t:Addr) (cls:Value) (dx:Option Addr) (B:Heap) (s':Y5):Prop extends WI P w outer H s H' ea t cls B s' where
 dct:mL ea dx s'.8
def Q6 (P:Zx) (w:ZO):L6:=λouter H s E e s'=>∃ea t cls dx H' B,e=.ref ea/\Fly P w outer H s H' ea t cls dx B s'/\E cls dx H'
section
variable {K:_g}
theorem Jt (hf:env.frame=some L):yx (env :: outer)=L :: yx outer:=by unfold yx;rw[vS,hf]
theorem ye:vM (Q6 P w) (AA (Q6 P w) P w K mg base N qual scope f cd A outer s H E) E:=by
 rintro _a σ H1 s1 e s' I ⟨ea,t,cls,dx,H',B,rfl,F,hE⟩;have hfr:(A.deeper (Z2 qual scope s.heap.objs.28 f cd)).49=some (Z2 qual scope s.heap.objs.28 f cd :: outer):=I.ok.49;have nL:∀b o,s.heap.11 b=some o->b≠s.6:=λb o q=>bM (Y7 q)
 have hf:yx (Z2 qual scope s.heap.objs.28 f cd :: outer)=s.6 :: yx outer:=Jt rfl;have un:Un (s.6 :: yx outer) [] H1 H' s1.22 s'.8:=hf ▸ F.un;have hU:Un (yx outer) [] H H1 s.22 s1.8:=I.41;have U1:Un (yx outer) [] H H' s.22 s'.8:=hU.inner un (Heap.get?_none_of_le (ah _));refine ZD (sE (e:=ea) (d:=dx) (CV _ _) (wpAny_leaves_onW (E:=λ_ _=>False) (Q:=λ_ s2=>WI P w outer H s H' ea t cls B s2) hfr rfl F.fly λh2 x1 x2=>?_) F.dct) (λ_ s2 #[F0,dc]=>#[ea,t,cls,dx,H',B,rfl,#[F0,dc],hE]) (λ_ _ z=>z.1.45)
 have c2:∀b o,s.heap.11 b=some o->b∉yx outer->∃o',B.11 b=some o':=λb o q hb=>by
  obtain o'|e:=I.base.56 b o q (aI);refine F.c2 b o' e λz=>?_
  have z:b∈yx (Z2 qual scope s.heap.objs.28 f cd :: outer):=z;rw[hf] at z;rcases ax.mp z with z | z
  ·show nL b o q z
  ·show hb z
 obtain U2|ok2:=Ll U1 F._u F.fly.1 x1.1 x2 F.c1 c2 I.ok.frf (λb hb o q=>by
  obtain _|o'|e'|d:=I.ok.e!.mem hb;have e':s.heap.11 b=some o':=e';rw[q] at e';cases e';show d)
 show #[F.os.3 I.os,F.50,U2,ok2,x1,F.c1,c2]
end
abbrev yS:List Value:=[.type "ValueError",.type "Exception",.type "BaseException",.type "object"]
theorem Te {K:_g} (X':K.In h) (hk:PySem.W.excIn K C yS "ValueError.__new__"=true) :
  ∃bm N nm q bs aaK sn sub ab col dd k0 k1 k2 k3 k5 mN,h.11 C=some (excClassObj nm q C N bs bm aaK sn sub ab col dd k0 k1 k2 k3 k5 "ValueError.__new__")/\h.Ns N mN/\mN "__init__"=none/\OwnTail h yS bm:=by
 unfold PySem.W.excIn at hk
 split at hk
 ·rename_i dd cd sl ho
  split at hk
  ·rename_i C' bm k0 k1 k2 k3 n k5 hm hs
   simp only[dP,beq_iff_eq,Bool.not_eq_true'] at hk;obtain ⟨⟨⟨⟨rfl,rfl⟩,afs⟩,ht⟩,_u⟩|hni:=hk;obtain nm|bs|mro|ns|qn|hd'|sn|sub|ab|col|del:=cd
   dsimp only at hm afs _u hni
   subst hm afs
   have hsl:sl=[k0,k1,k2,k3,some (.builtin "ValueError.__new__"),k5].14:=by
    obtain ⟨l⟩:=sl;simp only at hs;rw[hs]
   subst hsl;show #[bm,ns,nm,qn,bs,hd',sn,sub,ab,col,dd,k0,k1,k2,k3,k5,_,X' _ _ ho,.of_isNs (PySem.W.isNs_of_in X' _u),PySem.W.nsMap_none_of_in X' _u hni,PySem.W.tail_of_in X' ht]
  ·cases hk
 ·cases hk
abbrev Cx.tr (X:Cx) (pn:List (Addr×Obj)) (xe:Value->Y5->Prop):Cx:={ X with pn:=pn,xe:=xe }
abbrev Cx.sm (X:Cx) (ea:Addr):Cx:={ X with A:=X.A.mark (some (.ref ea)),calm:=false,xe:=λ_ _=>False }
section
variable {σ:St}
theorem Inv.tr (I:Inv X _a σ H s) (xe:Value->Y5->Prop):Inv (X.tr (X.pn++_a) xe) [] σ H s :=
 #[#[I.ok.mod,I.ok.44,I.ok.glob,I.ok.blt,I.ok.above,I.ok.inj,I.ok.has,I.ok.cab,I.ok.hd,I.ok.49,I.ok.stk,I.ok.exf,I.ok.bs,I.ok.bsz,I.ok.aaG,I.ok.aaL,I.ok.e!,I.ok.frf],
  I.os,I.50,I.41,I.loc,I.cell,I.47,I._K,λp hp=>I.pin p (by simpa using hp),I._u,I.31]
theorem Inv.abA (I:Inv (X.tr (X.pn++_a) xe) ps σ H s):Inv X _a σ H s :=
 #[#[I.ok.mod,I.ok.44,I.ok.glob,I.ok.blt,I.ok.above,I.ok.inj,I.ok.has,I.ok.cab,I.ok.hd,I.ok.49,I.ok.stk,I.ok.exf,I.ok.bs,I.ok.bsz,I.ok.aaG,I.ok.aaL,I.ok.e!,I.ok.frf],
  I.os,I.50,I.41,I.loc,I.cell,I.47,I._K,λp hp=>I.pin p (mQ _ hp),I._u,I.31]
theorem Inv.sm (I:Inv X _a σ H s) (ea:Addr):Inv (X.sm ea) _a σ H s :=
 #[#[I.ok.mod,I.ok.44,I.ok.glob,I.ok.blt,I.ok.above,I.ok.inj,I.ok.has,I.ok.cab,λz=>Bool.noConfusion z,I.ok.49,I.ok.stk,I.ok.exf,I.ok.bs,I.ok.bsz,I.ok.aaG,I.ok.aaL,I.ok.e!,I.ok.frf],
  I.os,I.50,I.41,I.loc,I.cell,I.47,I._K,I.pin,I._u,I.31]
end
def Ni (CX:L6) (X:Cx) (E:St->XK):Prop:=∀(_a:List (Addr×Obj)) (σ:St) (H:Hp) (s:Y5) (e:Value) (s':Y5),Inv X _a σ H s->CX X.43 H s (E σ) e s'->X.xe e s'
section
variable {X:Cx} {CX:L6} {k:Nat} {f C:Addr} {fd:W0} {ps:List Str} {sp:Sp} {F!:List V} {ds:List Value} {E:St->XK} {x n:Str} {p pos afk np:Pos} {e:Expr} {es:List Expr} {t:TA}
structure T5 (X:Cx) (_a:List (Addr×Obj)) (σ:St) (H0:Hp) (s0:Y5) (H':Hp) (ea t:Addr) (cls:Value) (dx:Option Addr) (B:Heap) (s1:Y5):Prop where
 I:Inv X _a σ H0 s0
 F:Fly X.23 X.w X.43 H0 s0 H' ea t cls dx B s1
theorem T5.inv (L:T5 X _a σ H0 s0 H' ea tt cls dx B s1) (fl:aaf B X.43 ea cls (.ref tt) h) (up:s1.heap.UpToSlots h):Inv X _a σ H' { s1 with heap:=h }:=by
 obtain U|ok:=Ll L.F.un L.F._u L.F.fly.1 fl.1 up L.F.c1 L.F.c2 L.I.B! (λb hb o q=>by
  obtain _|o'|e'|d:=L.I.stack.mem hb;rw[q] at e';cases e';show d)
 have os:s1.os=s0.os:=L.F.os;have bare:AllBare s1.gens:=L.F.50;obtain hh|g|d|t|os':=s1
 dsimp only at os bare
 subst os;show Inv.call (s:=s0) (h':=h) (g':=g) (d':=d) (t':=t) (ch:=[]) L.I U ok bare (λb z=>absurd z (by simp))
def HB (X:Cx) (hs:List ExceptHandler) (hr:Ends->St->Value->Option Addr->Hp->Prop):Prop :=
 ∀(_a:List (Addr×Obj)) (σ:St) (H0:Hp) (s0:Y5) (H':Hp) (ea tt:Addr) (cls:Value) (dx:Option Addr) (B:Heap) (s1:Y5) (h:Heap) (D:Ends),T5 X _a σ H0 s0 H' ea tt cls dx B s1->aaf B X.43 ea cls (.ref tt) h->s1.heap.UpToSlots h->mL ea dx h →
  hr D σ cls dx H'->Zd (model X.23 X.w) X.A (handleBy (.ref ea) X.16 hs) (SP X _a D) X.xe { s1 with heap:=h }
def Va (D:Ends):Ends:={ nx:=λ_ _=>False,rt:=D.rt }
def X3:Ends->St->Value->Option Addr->Hp->Prop:=λ_ _ _ _ _=>False
theorem V6:HB X [] X3:=λ_ _ _ _ _ _ _ _ _ _ _ _ _ _ _ _ _ z=>Zr z
def WY (hr:Ends->St->Value->Option Addr->Hp->Prop) (tb:(St->XK)->TS):TS:=λD σ H=>tb (hr D) D σ H
theorem VC (hst:X.43=X.16 :: X.outer) (hfr:X.env.frame=some X.env.39)
  (hb:∀pn xe E,Ni (Q6 X.23 X.w) (X.tr pn xe) E->Fc (X.tr pn xe) body (tb E)) (hh:HB X (h₀ :: hs) hr):PS X (.Try body (h₀ :: hs) [] [] pos) (WY hr tb):=by
 intro _a s σ H D I h;refine wpAny_Try_except ?_;refine ZD (hb (X.pn++_a) (λe s1=>∃σ' H0 s0 H' ea t cls dx B,e=.ref ea/\T5 X _a σ' H0 s0 H' ea t cls dx B s1/\hr D σ' cls dx H') (hr D) ?_ [] s σ H D (I.tr _) h) (λf s1 hsp=>?_) (λe s1 hx=>?_)
 ·rintro ps σ' H1 s1 e s' J ⟨ea,t,cls,dx,H',B,rfl,F,hE⟩;show #[σ',H1,s1,H',ea,t,cls,dx,B,rfl,#[J.abA,F],hE]
 ·cases f with
  | next=>obtain σ'|H'|J|q:=hsp;show wpAny_execs_nil #[σ',H',J.abA,q]
  | brk=>obtain σ'|H'|J|q:=hsp;show #[σ',H',J.abA,q]
  | cont=>obtain σ'|H'|J|q:=hsp;show #[σ',H',J.abA,q]
  | ret u=>obtain v|σ'|H'|J|r|q:=hsp;show #[v,σ',H',J.abA,r,q]
 ·obtain σ'|H0|s0|H'|ea|t|cls|dx|B|rfl|L|hq:=hx;have ajE:X.A.49=some (X.16 :: X.outer):=by rw[<- hst];show L.I.ok.49
  have fl:aaf B (X.16 :: X.outer) ea cls (.ref t) s1.8:=by rw[<- hst];show L.F.fly
  refine ZD (sE (e:=ea) (d:=dx) (MX _ _) (wpAny_looks_onW (E:=λ_ _=>False) (Q:=λ_ s2=>∃h4,s2={ s1 with heap:=h4 }/\Heap.HeldW B (X.16 :: X.outer) ea cls (.ref t) X.env.39 h4/\s1.heap.UpToSlots h4) ajE hfr fl λh4 held up4=>#[h4,rfl,held,up4]) L.F.dct) ?_ (λ_ _ z=>z.1.45);rintro _ _ ⟨⟨h4,rfl,held,up4⟩,dc4⟩;refine ZD (sE (e:=ea) (d:=dx) (yD _ _) (wpAny_landsW (E:=λ_ _=>False) (Q:=λ_ s2=>∃h5,s2={ s1 with heap:=h5 }/\aaf B (X.16 :: X.outer) ea cls (.ref t) h5/\h4.UpToSlots h5) held λh5 fl5 up5=>#[h5,rfl,fl5,up5]) dc4) ?_ (λ_ _ z=>z.1.45);rintro _ _ ⟨⟨h5,rfl,fl5,up5⟩,dc5⟩;show hh _a σ' H0 s0 H' ea t cls dx B s1 h5 D L (by rw[hst];show fl5) (up4.3 up5) dc5 hq
end
open PySem.W
structure YY (K:Frag) (C:Addr):Prop where
 ga:findIn K (.ref C) "__getattribute__"=some (some (.builtin "BaseException.__getattribute__"))
 gt:findIn K (.ref C) "__getattr__"=some none
 mb:mroIn K C (.type "BaseException")=some true
 mo:mroIn K C (.type "object")=some true
 hd:hasDictIn K C=true
 ca:findIn K (.ref C) "__class__"=some (some (.builtin "object.__class__"))
 sg:specialIn K (.builtin "object.__class__") "__get__"=some (some (.builtin "getset_descriptor.__get__"))
 tk:takesIn K (.builtin "object.__class__")=some true
theorem Vf (h:tb (hr D) D σ H):WY hr tb D σ H:=h
section
variable {P:Zx} {w:ZO} {K:_g} {mg:Str->Option Value} {base:Heap}
theorem AG.okX {st:Stmt} {k:Nat} (F:AG K x qual st f fd) (S:qH N ps (cC st)) (len:∀vs H Q E,sp vs H Q E->vs.9=ps.9)
  (D!:∀(_I:Value) (A:ZK) (outer:List Env) (s:Y5) (H:Hp) (vs:List V) (Q:VK) (E:XK),kv k (A.deeper (Z2 qual (cC st) s.heap.objs.28 f _I))->sp vs H Q E →
   ∃t,Fc (AA (Q6 P w) P w K mg base N qual (cC st) f _I A outer s H E) (dW st) t/\t { nx:=λ_ H'=>Q ._B H',rt:=Q } (start N vs) H):kB P w K mg base (Q6 P w) (k+1) f fd ps sp:=by
 obtain oc|od|kV|doc|pm|an|_I|ct|osl|rfl|lk|hcd:=F.ex;show UD lk hcd S len λA outer s H vs Q E hr hsp=>D! _I A outer s H vs Q E hr hsp
theorem AG.kX {x qual:Str} {st:Stmt} {f:Addr} {fd:W0} {N ps:List Str} {k:Nat} {sp:Sp} (F:AG K x qual st f fd) (S:qH N ps (cC st))
  (D!:∀(_I:Value) (A:ZK) (outer:List Env) (s:Y5) (H:Hp) (vs:List V) (Q:VK) (E:XK) (hr:kv k (A.deeper (Z2 qual (cC st) s.heap.objs.28 f _I))) (h:sp vs H Q E),
   ∃t,Fc (AA (Q6 P w) P w K mg base N qual (cC st) f _I A outer s H E) (dW st) t/\t { nx:=λ_ H'=>Q ._B H',rt:=Q } (U7 N vs) H) (len:∀vs H Q E,sp vs H Q E->vs.9=ps.9:=by walk_at "n"):kB P w K mg base (Q6 P w) (k+1) f fd ps sp :=
 F.okX S len λ_I A outer s H vs Q E hr h=>by
  rw[Fo (O1 S.pre (len _ _ _ _ h))];show D! _I A outer s H vs Q E hr h
end
abbrev Df.oX {K:_g} {mg:Str->Option Value} {x:Str} {st:Stmt} {ps:List Str} {f:Addr} {fd:W0} (_:Df K mg x st ps f fd) (P:Zx) (w:ZO) (base:Heap) (k:Nat) (sp:Sp):Prop:=kB P w K mg base (Q6 P w) k f fd ps sp
def w5 (i0 i:Nat):Nat:=if i < i0 then i else i+1
theorem Eh {g:Nat->Rat} {i0:Nat}:∀{m:Nat},i0<=m->aU (m+1) g=aU m (λi=>g (w5 i0 i))+g i0
 | 0,h=>by
  have:i0=0:=()
  subst this;rfl
 | m+1,h=>by
  change aU (m+1) g+g (m+1)=aU m (λi=>g (w5 i0 i))+g (w5 i0 m)+g i0
  rcases aX m i0 with z | z
  ·have e:i0=m+1:=()
   subst e;have:aU m (λi=>g (w5 (m+1) i))=aU m g:=aE λj hj=>by unfold w5;rw[if_pos ()]
   rw[this,show w5 (m+1) m=m by unfold w5;rw[if_pos ()]];rfl
  ·rw[Eh (m:=m) z,show w5 i0 m=m+1 by unfold w5;rw[if_neg ()]];grind
theorem Gz:∀(k n:Nat) (w:Nat->Nat->Rat),k < n->∃y:Nat->Rat,(∃i,i < n/\y i≠0)/\∀t,t < k->aU n (λi=>y i*w i t)=0
 | 0,n,w,h=>#[λ_=>1,#[0,h,()],λt ht=>absurd ht (cV _)]
 | k+1,0,w,h=>absurd h (cV _)
 | k+1,m+1,w,h=>by
  rcases Classical.em (∃i0,i0<=m/\w i0 k≠0) with ⟨i0,hi,h0⟩ | z
  ·obtain y|⟨i1,hi1,hy1⟩|hy:=Gz k m (λi t=>w (w5 i0 i) t - w (w5 i0 i) k / w i0 k*w i0 t) ()
   have us:∀i,(if w5 i0 i < i0 then w5 i0 i else w5 i0 i - 1)=i:=λi=>by
    unfold w5
    split
    ·rfl
    ·rw[if_neg ()];lia
   have ne:∀i,w5 i0 i≠i0:=λi=>by unfold w5;split <;> lia
   let Y:Nat->Rat:=λj=>if j=i0 then -(aU m λi=>y i*(w (w5 i0 i) k / w i0 k)) else y (if j < i0 then j else j - 1)
   have Ys:∀i,Y (w5 i0 i)=y i:=λi=>by change (if _ then _ else _)=_;rw[if_neg (ne i),us i]
   have Y0:Y i0=-(aU m λi=>y i*(w (w5 i0 i) k / w i0 k)):=by change (if _ then _ else _)=_;rw[if_pos rfl]
   refine #[Y,#[w5 i0 i1,by unfold w5;split <;> lia,by rw[Ys];show hy1],λt ht=>?_];rw[Eh hi,Y0]
   have e:aU m (λi=>Y (w5 i0 i)*w (w5 i0 i) t)=aU m (λi=>y i*(w (w5 i0 i) t - w (w5 i0 i) k / w i0 k*w i0 t))+aU m (λi=>w i0 t*(y i*(w (w5 i0 i) k / w i0 k))):=by
    rw[<- fX];refine aE λi _=>?_
    rw[Ys];grind
   rw[e,bT]
   have z:aU m (λi=>y i*(w (w5 i0 i) t - w (w5 i0 i) k / w i0 k*w i0 t))=0:=by
    rcases aX t k with q | q
    ·show hy t q
    ·have:t=k:=()
     subst this;refine bQ λi _=>?_
     have:w (w5 i0 i) t / w i0 t*w i0 t=w (w5 i0 i) t:=Kr h0;rw[this];grind
   rw[z];grind
  ·obtain y|a|b:=Gz k (m+1) w ();refine #[y,a,λt ht=>?_];rcases aX t k with q | q
   ·show b t q
   ·have:t=k:=()
    subst this;refine bQ λi hi=>?_
    have:w i t=0:=ZC λq=>z #[i,(),q]
    rw[this];grind
theorem MY {a R:Nat->Nat->Rat} (h:k < n) (hs:∀i,i < n->dA k R (a i)):∃y:Nat->Rat,(∃i,i < n/\y i≠0)/\∀c,aU n (λi=>y i*a i c)=0:=by
 have hw:∀i,∃w:Nat->Rat,i < n->∀c,a i c=aU k λt=>w t*R t c:=λi=>by
  rcases aX i n with q | q
  ·obtain w|e:=hs i q;show #[w,λ_=>e]
  ·show #[λ_=>0,λz=>absurd z ()]
 obtain w|hw:=Classical.axiomOfChoice hw;obtain y|hy|h0:=Gz k n w h;refine #[y,hy,λc=>?_]
 have:aU n (λi=>y i*a i c)=aU n (λi=>aU k λt=>y i*w i t*R t c):=aE λi hi=>by
  rw[hw i hi c,<- bT];show aE λt _=>by grind
 rw[this,ff];refine bQ λt ht=>?_
 have:aU n (λi=>y i*w i t*R t c)=R t c*aU n (λi=>y i*w i t):=by
  rw[<- bT];show aE λi _=>by grind
 rw[this,h0 t ht];grind
theorem rE (h:i < n):bo (a9 rows n) i j=bo rows j i:=by
 unfold bo;rw[aa (l:=a9 rows n),Fg h];simp only[jZ,aa,az];cases rows[j]? <;> simp
theorem A2 (hw:∀xs∈rows,xs.9=n) (hc:n<=c):bo rows j c=0:=by
 unfold bo;rcases aX j rows.9 with q | q
 ·rw[aa (l:=rows),ae q];have:=hw _ (aw q);simp only[jZ];rw[aa,aA ()];rfl
 ·rw[aa (l:=rows),aA q];rfl
theorem PL (RR:bL (a9 rows n) rows.9 R ps) (hw:∀xs∈rows,xs.9=n) (ln:(a9 rows n).9=n) (j c:Nat):bo rows j c=aU ps.9 λt=>bo R t j*bo rows (ps.4 t 0) c:=by
 rcases aX c n with q | q
 ·have:=RR.2.2.aap (RR.2.2.span c (by rw[ln];show q)) j;rw[rE q] at this;rw[this];show aE λt _=>by rw[rE q];grind
 ·rw[A2 hw q];show (bQ λt _=>by rw[A2 hw q];grind).26
theorem PM (RR:bL (a9 rows n) rows.9 R ps) (ln:(a9 rows n).9=n) (ht:t < ps.9) (z:dA (ps.4 t 0) (bo rows) (bo rows (ps.4 t 0))):False:=by
 obtain w|hw:=z;obtain u|hu:=RR.2.2.back t ht;rw[ln] at hu
 have e1:bo R t (ps.4 t 0)=aU (ps.4 t 0) λi=>w i*bo R t i:=by
  rw[hu];have:∀i,w i*bo R t i=aU n λs=>w i*(u s*bo (a9 rows n) s i):=λi=>by rw[hu i,<- bT]
  rw[aE λi _=>this i,ff];refine aE λs hs=>?_
  rw[rE hs,hw s,<- bT];show aE λi _=>by rw[rE hs];grind
 rw[RR.2.2.52 t ht t ht,if_pos rfl,bQ λi hi=>by rw[RR.2.2.lead t ht i hi];grind] at e1;show absurd e1 ()
section
variable {mv pt _h _p rows R Rk:_m} {n m:Nat} {ps pk:List Nat} {a b:Nat->Nat->Rat} {x y:Nat->Rat}
theorem qi {f:Nat->Rat}:∀k,aU (k+1) f=f 0+aU k λi=>f (i+1)
 | 0=>by change (0:Rat)+f 0=f 0+0;grind
 | k+1=>by
  change aU (k+1) f+f (k+1)=f 0+(aU k (λi=>f (i+1))+f (k+1))
  rw[qi k];grind
theorem dA.base (h:∀t,t < m->∀c,a t c=b t c) (hx:dA m a x):dA m b x:=by
 obtain w|hw:=hx;show #[w,λc=>by rw[hw c];show aE λt ht=>by rw[h t ht c]]
theorem dA.wide (h:m<=m') (hx:dA m a x):dA m' a x:=dA.trans (b:=a) (m':=m) (λt ht=>dA.row ()) hx
structure Kq (mv pt _h _p:_m):Prop where
 len:_h.9=_p.9+1
 wide:∀xs∈_h,xs.9=mv.9
 wpu:∀xs∈_p,xs.9=pt.9
 zero:∀c,bo _h 0 c=0
 step:∀j,j < _p.9->∀c,bo _h (j+1) c=aU mv.9 (λi=>bo mv c i*bo _h j i)+aU pt.9 λl=>bo _p j l*bo pt l c
 new:∀j,0 < j->j < _h.9->¬dA j (bo _h) (bo _h j)
theorem RG (h:∀j,j < m->dA m a λc=>aU n λi=>bo mv c i*a j i) (hx:dA m a x):dA m a λc=>aU n λi=>bo mv c i*x i:=by
 obtain w|hw:=hx;have key:=xT (w:=w) (f:=λs c=>aU n λi=>bo mv c i*a s i) m h;refine key.congr λc=>?_
 have e:(aU n λj=>bo mv c j*x j)=aU n λj=>aU m λs=>w s*(bo mv c j*a s j):=aE λj _=>by
  rw[hw j,<- bT];show aE λs _=>by grind
 rw[e,ff];show aE λs hs=>by rw[bT]
theorem MK (wm:∀xs∈mv,xs.9=mv.9) (wp:∀xs∈pt,xs.9=mv.9) (hp:∀l,l < pt.9->dA m a (bo pt l)) (h:∀j,j < m->dA m a λc=>aU mv.9 λi=>bo mv c i*a j i):∀t i,i < (iI mv pt t).9->dA m a (bo (iI mv pt t) i)
 | 0,i,hi=>absurd hi (cV _)
 | t+1,i,hi=>by
  have wk:=iY (pt:=pt) (mv:=mv) rfl (λxs hx=>wp xs hx) t;refine vV (X:=pt) (Y:=(iI mv pt t).12 (il mv)) hp (λs hs=>?_) i hi;rw[af] at hs;show (RG h (MK wm wp hp h t s hs)).congr λc=>(EF rfl wm wk hs c).26
theorem Qs (RR:bL (iI mv pt mv.9) mv.9 Rk pk) (full:pk.9=mv.9) (hk:m < mv.9) (h:∀i,i < (iI mv pt mv.9).9->dA m a (bo (iI mv pt mv.9) i)):False:=by
 have hs:∀i,i < mv.9->dA m a (bo Rk i):=λi hi=>dA.trans h (RR.2.2.back i (by rw[full];show hi))
 obtain y|⟨i,hi,hy⟩|h0:=MY hk hs;refine hy ?_;have:=h0 i;rw[iV hi λj hj ne=>by rw[FP RR full hj i,if_neg λz=>ne z.26];grind,FP RR full hi i,if_pos rfl] at this;grind
theorem SV (wm:∀xs∈mv,xs.9=mv.9) (wp:∀xs∈pt,xs.9=mv.9) (KR:bL (iI mv pt mv.9) mv.9 Rk pk) (full:pk.9=mv.9) (C:Kq mv pt _h _p) (hk:_p.9 < mv.9) (hr:rows=_h++(il mv (_h.4 _p.9 []) :: pt)) (RR:bL (a9 rows mv.9) rows.9 R ps) (ln:(a9 rows mv.9).9=mv.9):∃t,t < ps.9/\_h.9<=ps.4 t 0:=by
 refine ZC λz=>?_
 have hz:∀t,t < ps.9->ps.4 t 0 < _h.9:=λt ht=>Nat.lt_of_not_le λq=>z #[t,ht,q]
 have lw:(_h.4 _p.9 []).9=mv.9:=by
  rw[aa,ae (by rw[C.31];lia)];show C.51 _ (aw _)
 have hw:∀xs∈rows,xs.9=mv.9:=λxs hx=>by
  rw[hr] at hx;rcases aB.mp hx with hx | hx
  ·show C.51 xs hx
  ·rcases ax.mp hx with rfl | hx
   ·show tE
   ·show wp xs hx
 have A:∀j,dA _h.9 (bo _h) (bo rows j):=λj=>by
  refine (xT (w:=λt=>bo R t j) (f:=λt=>bo rows (ps.4 t 0)) ps.9 λt ht=>?_).congr λc=>(PL RR hw ln j c).26
  change dA _ _ (bo rows (ps.4 t 0))
  rw[hr,C4 (hz t ht)];show dA.row (hz t ht)
 have e1:∀c,bo rows _h.9 c=aU mv.9 λi=>bo mv c i*bo _h _p.9 i:=λc=>by
  rw[hr,show _h.9=_h.9+0 from rfl,LH];show EF (R:=[_h.4 _p.9 []]) (i:=0) rfl wm (λxs hx=>by rw[aM.mp hx];show lw) Nat.one_pos c
 have P:∀l,l < pt.9->dA _h.9 (bo _h) (bo pt l):=λl hl=>by
  have:=A (_h.9+(l+1));rw[hr,LH] at this;show this
 have Mv:∀j,j < _h.9->dA _h.9 (bo _h) λc=>aU mv.9 λi=>bo mv c i*bo _h j i:=λj hj=>by
  rcases aX j _p.9 with q | q
  ·have s1:dA _h.9 (bo _h) (bo _h (j+1)):=dA.row (by rw[C.31];lia);have s2:=xT (w:=λl=>bo _p j l) pt.9 P;refine (dA.lin 1 (-1) s1 s2).congr λc=>?_
   rw[C.57 j q c];grind
  ·have:j=_p.9:=by have:=C.31;lia
   subst this;show (A _h.9).congr e1
 have K:=MK wm wp P Mv mv.9;refine Qs (m:=_p.9) (a:=λt=>bo _h (t+1)) KR full hk λi hi=>?_
 obtain w|hw':=K i hi;refine #[λt=>w (t+1),λc=>?_];rw[hw' c,C.31,qi,C.zero];grind
theorem zD {x:List Rat}:bo (rows++[x]) rows.9=λc=>x.4 c 0:=by
 have:=LH (X:=rows) (Y:=[x]) (i:=0);rw[Nat.add_zero] at this;rw[this];rfl
theorem QX (wm:∀xs∈mv,xs.9=mv.9) (wp:∀xs∈pt,xs.9=mv.9) (C:Kq mv pt _h _p) (hr:rows=_h++(il mv (_h.4 _p.9 []) :: pt)) (RR:bL (a9 rows mv.9) rows.9 R ps) (ln:(a9 rows mv.9).9=mv.9)
 (ht:t0 < ps.9) (hf:_h.9<=ps.4 t0 0) (acs:∀t,t < ps.9->_h.9<=ps.4 t 0->ps.4 t0 0<=ps.4 t 0) (lp:pu.9=pt.9) (ls:s'.9=mv.9)
  (hpu:(ps.4 t0 0=_h.9/\∀l,pu.4 l 0=0)\/∃l,l < pt.9/\ps.4 t0 0=_h.9+(1+l)/\∀l',pu.4 l' 0=if l'=l then 1 else 0)
  (hs:∀c,s'.4 c 0=aU mv.9 (λi=>bo mv c i*bo _h _p.9 i)+aU pt.9 λl=>pu.4 l 0*bo pt l c):Kq mv pt (_h++[s']) (_p++[pu]):=by
 have lw:(_h.4 _p.9 []).9=mv.9:=by
  rw[aa,ae (by rw[C.31];lia)];show C.51 _ (aw _)
 have hw:∀xs∈rows,xs.9=mv.9:=λxs hx=>by
  rw[hr] at hx;rcases aB.mp hx with hx | hx
  ·show C.51 xs hx
  ·rcases ax.mp hx with rfl | hx
   ·show tE
   ·show wp xs hx
 have e1:∀c,bo rows _h.9 c=aU mv.9 λi=>bo mv c i*bo _h _p.9 i:=λc=>by
  rw[hr,show _h.9=_h.9+0 from rfl,LH];show EF (R:=[_h.4 _p.9 []]) (i:=0) rfl wm (λxs hx=>by rw[aM.mp hx];show lw) Nat.one_pos c
 have bs:∀t,t < _h.9->∀c,bo _h t c=bo rows t c:=λt h c=>by rw[hr,C4 h]
 have zp:0 < _h.9:=by rw[C.31];lia
 have lS:(_h++[s']).9=_h.9+1:=by simp
 refine #[by rw[lS,C.31,ar];rfl,λxs hx=>?_,λxs hx=>?_,λc=>by rw[C4 zp];show C.zero c,λj hj c=>?_,λj j0 hj z=>?_]
 ·rcases aB.mp hx with hx | hx
  ·show C.51 xs hx
  ·rw[aM.mp hx];show ls
 ·rcases aB.mp hx with hx | hx
  ·show C.wpu xs hx
  ·rw[aM.mp hx];show lp
 ·rw[ar,aY] at hj;rcases aX j _p.9 with q | q
  ·rw[C4 (by rw[C.31];lia),C4 (by rw[C.31];lia),C4 q];show C.57 j q c
  ·have:j=_p.9:=()
   subst this;rw[show _p.9+1=_h.9 from C.len.26,zD,zD,C4 (by rw[C.31];lia)];show hs c
 ·rw[lS] at hj;have tr:∀{j:Nat} {x:Nat->Rat},j<=_h.9->dA j (bo (_h++[s'])) x->dA j (bo _h) x:=λh=>dA.base λt ht c=>by rw[C4 ()]
  rcases aX j _h.9 with q | q
  ·have z:=tr () z;rw[C4 q] at z;show C.new j j0 q z
  ·have:j=_h.9:=()
   subst this;have z:=tr (ah _) z;rw[zD] at z;have zr:dA _h.9 (bo rows) λc=>s'.4 c 0:=dA.base bs z
   rcases hpu with ⟨f0,p0⟩ | ⟨l,hl,f0,p0⟩
   ·refine PM RR ln ht ?_;rw[f0];refine zr.congr λc=>?_
    rw[hs c,e1 c,bQ (f:=λl=>pu.4 l 0*bo pt l c) λl _=>by rw[p0 l];grind];grind
   ·have s1:dA _h.9 (bo rows) (bo rows _h.9):=by
     refine (xT (w:=λt=>bo R t _h.9) (f:=λt c=>if ps.4 t 0 < _h.9 then bo rows (ps.4 t 0) c else 0) ps.9 λt ht'=>?_).congr λc=>?_
     ·by_cases q:ps.4 t 0 < _h.9
      ·show (dA.row (a:=bo rows) q).congr λc=>by rw[if_pos q]
      ·show dA.zero λc=>by rw[if_neg q]
     ·rw[PL RR hw ln];refine aE λt ht'=>?_
      by_cases q:ps.4 t 0 < _h.9
      ·rw[if_pos q]
      ·rw[if_neg q];have:=acs t ht' ();rw[RR.2.2.lead t ht' _h.9 (by change _h.9 < ps.4 t 0;lia)];grind
    refine PM RR ln ht ?_;have:=dA.wide (show _h.9<=ps.4 t0 0 from hf) (dA.lin 1 (-1) zr s1);refine this.congr λc=>?_
    rw[hs c,e1 c,f0,hr,LH,iV hl λj _ ne=>by rw[p0 j,if_neg ne];grind,p0 l,if_pos rfl,iu 1 l];change _=bo pt l c
    grind
theorem Na (C:Kq mv pt _h _p) (h:∀c,aU _p.9 (λi=>y i*bo _h (i+1) c)=0):∀i,i < _p.9->y i=0:=by
 have key:∀k,k<=_p.9->(∀c,aU k (λi=>y i*bo _h (i+1) c)=0)->∀i,i < k->y i=0:=by
  intro k
  induction k with
  | zero=>show λ_ _ i hi=>absurd hi (cV _)
  | succ k ih =>
   intro hk h i hi
   have yk:y k=0:=ZC λne=>by
    refine C.new (k+1) (Nat.succ_pos _) (by rw[C.31];lia) #[λt=>if t=0 then 0 else -(y (t - 1)) / y k,λc=>?_];have:=h c;have e:aU (k+1) (λi=>y i*bo _h (i+1) c)=aU k (λi=>y i*bo _h (i+1) c)+y k*bo _h (k+1) c:=rfl;rw[e] at this;rw[qi,C.zero]
    have e2:(aU k λi=>(if i+1=0 then 0 else -(y (i+1 - 1)) / y k)*bo _h (i+1) c)=-1 / y k*aU k (λi=>y i*bo _h (i+1) c):=by
     rw[<- bT];refine aE λi _=>?_
     rw[if_neg (),Kt];grind
    rw[e2];grind
   rcases aX i k with q | q
   ·refine ih () (λc=>?_) i q;have:=h c;have e:aU (k+1) (λi=>y i*bo _h (i+1) c)=aU k (λi=>y i*bo _h (i+1) c)+y k*bo _h (k+1) c:=rfl;rw[e,yk] at this;grind
   ·rw[show i=k by lia];show yk
 show key _ (ah _) h
theorem QW (C:Kq mv pt _h _p) (ll:lines.9=_p.9) (hl:∀i,i < _p.9->∀c,c < mv.9->bo lines i c=bo _h (i+1) c) (RR:bL lines wide R ps):_p.9<=ps.9:=by
 refine Nat.le_of_not_lt λz=>?_
 obtain y|⟨i,hi,hy⟩|h0:=MY z (a:=bo lines) λi hi=>RR.2.2.span i (by rw[ll];show hi)
 refine hy (Na C (y:=y) (λc=>?_) i hi);rcases aX c mv.9 with q | q
 ·rw[<- h0 c];show aE λi hi=>by rw[hl i hi c q]
 ·show bQ λi _=>by rw[A2 C.51 q];grind
end
section
variable {K:Frag}
theorem IS (self:Value):refuseLoop self "__setattr__" yS=pure .unit:=by kernel_rfl
theorem SE (X:K.In s.8) (I:InstAt s.22 a o C od) (hc:clsIn K C=some cd) (hl:cd.mro=l) (hr:refuseLoop (.ref a) "__setattr__" l=pure .unit) (hm:mroIn K C (.type "object")=some true)
  (ha:findIn K (.ref C) name=some none)
  (h:Zd (model prog w) A.in1 (ZA.ObjectAttr.storeInOwnDict (.ref a) (.ref C) (.str name tk) name v false) (λ(fin:Fin) s'=>match fin with | .done f=>R (.ok f) s' | .again c'=>c'.quiet=true/\aab (model prog w) A c' R s') (λe s'=>R (.error e) s') s) :
  aab (model prog w) A (.call (.builtin "object.__setattr__") #[[.ref a,.str name tk,v],[]]) R s:=by
 have SF:=PySem.F.store_object;have sub:aac (model prog w) s.22 (isInstance (.ref a) (.type "object")) true:=I.type.andThen (looks_mroIn X hm);refine codeAny_call_builtin SF.slot.plain SF.entry (@check_slot (model prog w) _ _ s "object.__setattr__" "object" "__setattr__" (.ref a) [.str name tk,v] [] _ SF.44 SF.split sub (SF.args (.ref a) (.str name tk) v) ?_);have hmr:aac (model prog w) s.22 (mroOf (.ref C)) cd.mro:=(looks_clsIn X hc).andThen .now;rw[osa_eq,refuse_eq];refine K0 (K0 (I.type.here (K0 (hmr.here ?_))));rw[hl,hr];refine Y6 (K0 (I.type.here (K0 ((looks_findIn X ha).here ?_))));show K0 (Y6 h)
theorem RK (X:K.In s.8) (I:InstAt s.22 a o C none) (hc:clsIn K C=some cd) (hl:cd.mro=l) (hr:refuseLoop (.ref a) "__setattr__" l=pure .unit) (hm:mroIn K C (.type "object")=some true)
  (hs:findIn K (.ref C) "__setattr__"=some (some (.builtin "object.__setattr__"))) (hd:hasDictIn K C=true) (ha:findIn K (.ref C) name=some none) (ho:o.data=.fields vs)
  (h:∀h',(∀b ob,b≠a->s.heap.11 b=some ob->h'.11 b=some ob)->h'.11 a=some { o with dict:=some s.6 }->h'.Ns1 s.heap.objs.28 (λy=>if y=name then some v else none)->Q .unit { s with heap:=h',toks:=s.27+2 }) :
  Zd (model prog w) A (setAttr (.ref a) name v) Q E s:=by
 refine set_plain X I hs (SE (s:={ s with toks:=s.27+1 }) X I hc hl hr hm ha ?_);obtain cd'|hc'|hd':=any_some hd;rw[hc] at hc';cases hc';obtain hx|Y!|hn|hdd:=I;obtain oc|odi|oda|osl:=o
 dsimp only at Y! hdd ho
 subst Y! ho;obtain rfl:odi=none:=by cases odi with | none=>rfl | some _=>show hdd.45
 have _J:a < s.6:=Y7 hx;have kp:∀b ob,s.heap.11 b=some ob->(s.heap.25 emptyDict).11 b=some ob:=λb ob q=>Y4 _ q
 refine K0 (Y6 ?_);have ne:(Za C == ZL "module")=false:=by rfl
 dsimp only
 rw[ne,if_neg aQ];refine K0 ?_;change Zd _ _ (instanceDict a true) _ _ _
 unfold instanceDict;refine K0 (wpAny_loadPart hx (K0 (aac.here (s:={ s with toks:=s.27+1 }) (looks_clsIn X hc) ?_)))
 dsimp only
 rw[hd'];have hx1:(s.heap.25 emptyDict).11 a=some { cls:=Za C,data:=Data.fields vs,slots:=osl }:=kp _ _ hx;refine K0 (wpAny_alloc (K0 (wpAny_update hx1 ?_)));have hx2:((s.heap.25 emptyDict).42 a λo=>{ o with dict:=some s.6 }).11 a=some { cls:=Za C,dict:=some s.6,data:=Data.fields vs,slots:=osl }:=Heap.get?_update_self _ hx1 rfl
 have hD:((s.heap.25 emptyDict).42 a λo=>{ o with dict:=some s.6 }).11 s.6=some emptyDict:=by
  rw[Zm _ _ (bM _J)];show Zc _ rfl
 have hN:((s.heap.25 emptyDict).42 a λo=>{ o with dict:=some s.6 }).Ns1 s.heap.objs.28 (λ_=>none):=#[_,_,_,hD,rfl,(λy hy=>by simp at hy),(by unfold UniqKeys;simp),λ_=>rfl];refine Y6 (K0 (Y6 (K0 ?_)));refine wpAny_nsSet1 (s:={ s with heap:=(s.heap.25 emptyDict).42 a λo=>{ o with dict:=some s.6 },toks:=s.27+1 }) hN λh' hn2 hs2=>?_
 obtain oD|esD|epD|hoD|hdD|hcD:=hn2.count (PySem.Within.cons name v (ns:=[]) (λ_ z=>absurd rfl z));refine K0 (wpAny_lookBehind hoD (by rw[hdD];show pastItsLine_dict (ag hcD (by change 1<=Zh+1;lia))) (Y6 (h h' (λb ob n q=>?_) ((hs2.2 a (bM _J)).3 hx2) hn2)));rw[hs2.2 b (bM (Y7 q)),Zm _ _ (Zo n)];show kp b ob q
end
section
variable {prog:Zx} {w:ZO} {A:ZK} {h:Heap} {g:Array GenState} {d:Drawn} {t:Nat} {os:OsState} {R:Result->Y5->Prop}
variable {nm q:Str} {C N f:Addr} {bs bm:List Value} {aaK:Bool} {sn:List Str} {sub:List Value} {ab:Bool} {col:Option Bool} {dd:Option Addr} {k0 k1 k2 k3 k5:Option Value}
abbrev ji (C t:Addr):Obj:={ cls:=.ref C,data:=.fields [.ref t,.none,.none,.none,.bool false,.none].14 }
theorem Oq (T:OwnTail h yS bm) (hC:h.11 C=some (excClassObj nm q C N bs bm aaK sn sub ab col dd k0 k1 k2 k3 k5 "ValueError.__new__"))
  (hi:aac (model prog w) h (typeLookup (.ref C) "__init__") (some (.ref f))) (hb:∀self,aac (model prog w) h (bindSpecial (.ref f) self) (.ref f,[self])) (abK:rest.9<=Zh)
  (hq:aab (model prog w) (A.under (.builtin "type.__call__" #[.ref C :: rest,[]])) (.call (.ref f) #[.ref (h.objs.7+1) :: rest,[]]) (InitBack (h.objs.7+1) R) #[(h.25 { cls:=.type "tuple",data:=.seq rest.5 }).25 (ji C h.objs.7),g,d,t,os]) :
  aab (model prog w) A (.call (.ref C) #[rest,[]]) R #[h,g,d,t,os]:=by
 have FV:=PySem.F.excBase_ValueError;have f1:=tc_lookup;have f2:=tc_bind (.ref C);have hT:(#[h,g,d,t,os]:Y5).TypeIs (.ref C) "type":=#[_,hC,rfl];refine codeAny_of_tree ?_;change Zd _ _ (callAny (.ref C) _) _ _ _
 (repeat (any_goals (first | assumption | with_reducible refine wpAny_loadPart_at hC ?_ | wp_step)))
 refine #[rfl,codeAny_call_builtin_at (Code.quiet_builtin _ (by decide +kernel)) entry_typeCall (wpAny_check_type_call_sub hC ?_)]
 (repeat (first | with_reducible refine wpAny_loadPart_at hC ?_ | with_reducible refine wpAny_madeBy_exc hC ?_ | wp_step))
 refine codeAny_call_builtin_code (Code.quiet_builtin _ FV.quiet) (wpAny_check_new_subT FV T hC (codeAny_exc_new_subT FV T hC ?_ abK));have kp:∀b ob,h.11 b=some ob->((h.25 { cls:=.type "tuple",data:=.seq rest.5 }).25 (ji C h.objs.7)).11 b=some ob:=λb ob z=>Y4 _ (Y4 _ z)
 have hC1:=kp _ _ hC;have hg1:((h.25 { cls:=.type "tuple",data:=.seq rest.5 }).25 (ji C h.objs.7)).11 (h.objs.7+1)=some (ji C h.objs.7):=by heap_get
 have hcC:(Za C :: bm).contains (.ref C)=true:=by simp
 change Zd _ _ _ _ _ _
 have t1:aac (model prog w) ((h.25 { cls:=.type "tuple",data:=.seq rest.5 }).25 (ji C h.objs.7)) (typeOf (.ref (h.objs.7+1))) (.ref C):=(aac.ld hg1).andThen .now
 have sb:aac (model prog w) ((h.25 { cls:=.type "tuple",data:=.seq rest.5 }).25 (ji C h.objs.7)) (isSubtype (.ref C) (.ref C)) true:=λA' Q' E' s' k z=>by
  obtain h'|g'|d'|t'|os':=s';show wpAny_isSubtype_exc (k _ _ hC1) (by rw[hcC];show z)
 have LI:aac (model prog w) ((h.25 { cls:=.type "tuple",data:=.seq rest.5 }).25 (ji C h.objs.7)) (isInstance (.ref (h.objs.7+1)) (.ref C)) true:=t1.andThen sb;refine K0 (aac.at LI ?_);rw[if_neg (by simp)];unfold callSpecial? specialOf;refine K0 (ZR (K0 (K0 (aac.at t1 (aac.at (hi.keeps kp) ?_)))))
 dsimp only
 refine ZR (K0 (aac.at ((hb _).keeps kp) ?_))
 dsimp only
 refine K0 (wpAny_call (aad hq λr s' z=>?_));rcases r with e | (v | _ | _ | _) <;> first | show z | show z.45 | skip
 obtain rfl|z:=z;show Y6 (Y6 z)
end
def Ln (a:Addr) (cls:Value) (dx:Option Addr):HO:=.ext λh=>∃o vs t,h.11 a=some o/\o.cls=cls/\o.data=.fields vs/\o.dict=dx/\vs[0]?=some (.ref t)/\vs[1]?=some .none
theorem Qy (e:h.11 a=some o) (c:o.cls=cls) (d:o.data=.fields vs) (x:o.dict=dx) (v0:vs[0]?=some (.ref t)) (v1:vs[1]?=some .none) :
  iJ P w H h a (Ln a cls dx):=#[#[o,vs,t,e,c,d,x,v0,v1],#[o,e],λh1 h2 #[o,vs,t,q,r] k=>#[o,vs,t,k o q,r]]
structure WK (K:Frag) (C S:Addr):Prop where
 lk:∃dd cd k0 k1 k2 k3 k5,K.13 C=some #[.type "type",dd,.cls cd,[k0,k1,k2,k3,some (.builtin "ValueError.__new__"),k5].14]/\cd.mro=.ref C :: .ref S :: yS/\cd.hasDel=false
 exS:excIn K S yS "ValueError.__new__"=true
 sa:findIn K (.ref C) "__setattr__"=some (some (.builtin "object.__setattr__"))
 xc:YY K C
theorem WK.at {K:Frag} (e:WK K C S) (X:K.In h):∃N nm q bs aaK sn sub ab col dd k0 k1 k2 k3 k5 cd,h.11 C=some (excClassObj nm q C N bs (.ref S :: yS) aaK sn sub ab col dd k0 k1 k2 k3 k5 "ValueError.__new__")/\OwnTail h yS (.ref S :: yS)/\clsIn K C=some cd/\cd.mro=.ref C :: .ref S :: yS:=by
 obtain dd|cd|k0|k1|k2|k3|k5|lk|hm|hdl:=e.lk;obtain nm|bs|mro|ns|qn|hd|sn|sub|ab|col|del:=cd
 dsimp only at hm hdl
 subst hm hdl;obtain tl|N|nm'|q'|bs'|anr|sn'|sub'|ab'|col'|dd'|j0|j1|j2|j3|j5|mN|hS|hN|hni|T:=Te X e.exS;show #[ns,nm,qn,bs,hd,sn,sub,ab,col,dd,k0,k1,k2,k3,k5,_,X _ _ lk,.own hS hN hni .base,by unfold clsIn;rw[lk],rfl]
section
variable {X:Cx} {_a:List (Addr×Obj)} {σ:St} {H:Hp} {s:Y5}
def Pb (K:Frag) (ta tv:TE) (f:Str):TS:=λD σ H=>tv σ H λy H1=>ta σ H1 λx H2=>∃a C S,x=.ref a/\H2 a=some (Ln a (.ref C) none)/\WK K C S/\findIn K (.ref C) f=some none /\
 ∀dx,H2 dx=none->dx≠a->D.nx σ (upd (upd H2 dx (.xd [(f,y)])) a (Ln a (.ref C) (some dx)))
theorem Mu (ha:PE X o ta) (hv:PE X value tv) (hs:swapsWith value (some (.Attribute o f pos')) pos.line X.16=pure false):PS X (.Assign [.Attribute o f pos'] value pos) (Pb X.K ta tv f):=by
 intro _a s σ H D I h;refine plainObj_wpAny_Assign_Attribute (ik (hv _a s σ H _ I h) λu s1 #[y,H1,I1,ry,q]=>ik (ha _a s1 σ H1 _ I1 q) λov s2 hz=>?_) hs;obtain x|H2|I2|rx|a|C|S|ex|ea|xi|na|q2:=hz;subst ex;cases rx;obtain ⟨ob,vs,t,g0,oc,od,odd,v0,v1⟩|_:=(show iJ X.23 X.w H2 s2.22 a (Ln a (.ref C) none) from I2._u a _ ea);obtain N|nm|qn|bs|aaK|sn|sub|ab|col|dd|k0|k1|k2|k3|k5|cd|hC|T|hc|hm:=xi.at I2._X
 have J:InstAt s2.22 a ob C none:=by
  obtain c1|d1|e1|l1:=ob
  dsimp only at oc od odd
  subst oc od odd;show #[g0,rfl,rfl,trivial]
 have alt:a < s2.6:=Y7 g0;have hn:H2 s2.6=none:=I2._u.36 (ah _);have nea:s2.6≠a:=Zo (bM alt);refine RK I2._X J hc hm (by rw[refuseLoop_ref,refuseLoop_ref];show IS _) xi.xc.mo xi.sa xi.xc.hd na od λh' kp g1 ns=>?_
 have kept:∀b ub,H2 b=none->s2.heap.11 b=some ub->h'.11 b=some ub:=λb ub n z=>kp b ub (λe=>by rw[e,ea] at n;cases n) z
 have nu:∀b ub,s2.heap.11 b=some ub->H2 b=none->upd (upd H2 s2.heap.objs.28 (.xd [(f,y)])) a (Ln a (.ref C) (some s2.6)) b=none:=λb ub z n=>by
  rw[aR (λe=>by rw[e,ea] at n;cases n),aR (bM (Y7 z))];show n
 have old:∀b u',H2 b=some u'->b≠a->upd (upd H2 s2.heap.objs.28 (.xd [(f,y)])) a (Ln a (.ref C) (some s2.6)) b=some u':=λb u' z n=>by
  rw[aR n,aR (λe=>by rw[e,hn] at z;cases z)];show z
 have nat:∀b xs,H2 b=some (.tup xs)->b≠a:=λb xs z e=>by rw[e,ea] at z;cases z
 refine #[σ,_,I2.un (t':=s2.27+2) #[λb ub z n _ _=>kept b ub n z,λb ub z n _ _=>#[ub.slots,kept b ub n z],λb ub z n _=>nu b ub z n,λb ub z _=>?_,λb xs z=>old b _ z (nat b xs z),λb ub u' z=>old b _ z (λe=>by rw[e,ea] at z;cases z),λb ps z=>#[[].14,by rw[old b _ z (λe=>by rw[e,ea] at z;cases z)];simp]] (λb u' z=>?_),q2 _ hn nea]
 ·by_cases e:b=a
  ·subst e;show #[_,g1]
  ·show #[ub,kp b ub e z]
 ·by_cases e:b=a
  ·subst e;rw[aD] at z;cases z;show Qy g1 oc od rfl v0 v1
  ·rw[aR e] at z;by_cases e2:b=s2.6
   ·subst e2;rw[aD] at z;cases z;refine #[_,ns,λgn=>?_];change C8 (Z0 gn [(f,y)]) (if gn=f then some u else none)
    by_cases q:gn=f
    ·subst q;rw[if_pos rfl];simp only[Z0,beq_self_eq_true];show ry
    ·rw[if_neg q];have hb:(gn == f)=false:=beq_eq_false_iff_ne.mpr q;simp only[Z0,hb];show aal
   ·rw[aR e2] at z
    have ne2:∀c,(c=b\/H2 c=some (.own b))->c≠a:=λc hcc=>by
     rcases hcc with rfl | hcc
     ·show e
     ·intro z2;rw[z2,ea] at hcc;cases hcc
    show (I2._u b u' z).r! (λc ub hcc q=>kp c ub (ne2 c hcc) q) (λc q=>old c _ q (ne2 c (.inr q))) λc xs q=>old c _ q (nat c xs q)
def KE (C:Addr) (sp:Sp) (t:TA):TE:=λσ H Q=>t σ H λvs H1=>∀e,H1 e=none->sp (.ref e :: vs) (upd H1 e (Ln e (.ref C) none)) (λv H2=>v=._B/\Q (.ref e) H2) E0
theorem Inv.newExc (hex:X.ex=[]) (I:Inv X _a σ H s) {rest:List Value}:H (s.6+1)=none /\
  Inv X _a σ (upd H (s.6+1) (Ln (s.6+1) (.ref C) none)) { s with heap:=(s.heap.25 { cls:=.type "tuple",data:=.seq rest.5 }).25 (ji C s.6) }:=by
 have hn:H (s.6+1)=none:=I._u.36 (yO _);have I1:=I.59 (t':=s.27) (h':=s.heap.25 { cls:=.type "tuple",data:=.seq rest.5 }) λb u q=>Y4 _ q
 have e2:((s.heap.25 { cls:=.type "tuple",data:=.seq rest.5 }).25 (ji C s.6)).11 (s.6+1)=some (ji C s.6):=by heap_get
 show #[hn,I1.laid (a:=s.6+1) (o:=Ln (s.6+1) (.ref C) none) (t':=s.27) (λb u q=>Y4 _ q) (A6 (Zy _ _)) (Qy e2 rfl rfl rfl rfl rfl)]
theorem IX {k:Nat} {C S f:Addr} {fd:W0} {ps:List Str} {sp:Sp} {x:Str} {e:Expr} {es:List Expr} {t:TA} {p pos:Pos} (hex:X.ex=[]) (xi:WK X.K C S) (hi:findIn X.K (.ref C) "__init__"=some (some (.ref f))) (hf:typeIn X.K (.ref f)=some (.type "function")) (kp:keepIn X.K (.ref C)=true)
  (F:kB X.23 X.w X.K X.mg X.41 Eb k f fd ps sp) (hr:kv (k+1) X.A) (hg:Gl X x) (hm:X.mg x=some (.ref C)) (hb:Binds X.K fd ps []) (ha:PA X (e :: es) t) (hps:Nat.ble ps.9 1000=true:=by rfl)
  (hdb:(x == ("__debug__":Str))=false:=by decide) (he:Y8 (e :: es) X.16=(false,eval e X.16) :: Y8 es X.16:=by rfl) (hpl:(aag pos (Y8 es X.16)).any (·.1)=false:=by rfl) :
  PE X (.Call (.Name x p) (e :: es) [] pos) (KE C sp t):=by
 intro _a s σ H Q I h;refine Zz (vZ I hg hm ?_ hdb);refine o5 (h₀:=X.41) I.ok.mod.kin kp (ik (ha pos _a s σ H _ I h) λus s1 #[vs,H1,I1,r,q]=>#[I1._X,?_]) he hpl;obtain N|nm|qn|bs|aaK|sn|sub|ab|col|dd|k0|k1|k2|k3|k5|cd|hC|T|hc|hmro:=xi.at I1._X;obtain hn|I2:=I1.newExc hex (C:=C) (rest:=us);have hq:=q _ hn;have r2:cU (V.ref (s1.6+1) :: vs) (Za (s1.6+1) :: us):=.cons rfl r
 have _y:(Za (s1.6+1) :: us++[]).9=ps.9:=by
  rw[d9];have e':=r2.9;rw[F.31 _ _ _ _ hq] at e';show e'.26
 have small:us.9<=Zh:=by
  have e':=r2.9;rw[F.31 _ _ _ _ hq,bH] at e';have:=Nat.le_of_ble_eq_true hps;have z:(1000:Nat)<=Zh:=by rw[sizeLine_eq];decide
  lia
 have bd:=hb _ (Za (s1.6+1) :: us) I2._X _y;rw[d9] at bd
 refine wpAny_call (Oq (h:=s1.8) (g:=s1.gens) (d:=s1.drawn) (t:=s1.27) (os:=s1.os) T hC (looks_findIn I1._X hi) (λself=>bind_fn I1._X self hf) small (aad (F.run _ X.43 _ _ #[Za (s1.6+1) :: us,[]] (Za (s1.6+1) :: us) _ _ E0 (hr.make C us [])
  (I2.acz.make C us []) bd r2 hq) λr' s' hq'=>?_))
 cases r' with
 | error z=>show hq'.45
 | ok fl =>
  cases fl with
  | ret u =>
   obtain v|H'|I3|rv|ev|q3:=I2.40 hq';subst ev;show #[rv,#[V.ref (s1.6+1),H',I3,rfl,q3]]
  | next=>show Zr hq'
  | brk=>show Zr hq'
  | cont=>show Zr hq'
def Aw (H:Hp) (a:Addr):Hp:=λb=>if b=a then none else H b
theorem vD (h:b≠a):Aw H a b=H b:=by unfold Aw;rw[if_neg h]
theorem Qh (h:Aw H a b=some u):b≠a/\H b=some u:=by
 unfold Aw at h
 split at h
 ·cases h
 ·show #[by assumption,h]
def Ng (X:Cx) (E:XK):Prop:=∀(_a:List (Addr×Obj)) (σ:St) (H:Hp) (s:Y5) (a:Addr) (cls:Value) (dx:Option Addr),Inv X _a σ H s->H a=some (Ln a cls dx)->X.H₀ a=none->E cls dx (Aw H a)->X.xe (.ref a) s
theorem zX {K:Frag} :
  Ng (AA (Q6 P w) P w K mg base N qual scope f cd A outer s H E) E:=by
 intro _a σ H1 s1 e cls dx I he h0 hE;have h0:H e=none:=h0;obtain ⟨oe,vs,t,g0,oc,od,odd,v0,v1⟩|_:=(show iJ P w H1 s1.22 e (Ln e cls dx) from I._u e _ he);subst oc;have hfr:(A.deeper (Z2 qual scope s.heap.objs.28 f cd)).49=some (Z2 qual scope s.heap.objs.28 f cd :: outer):=I.ok.49;have ajm:s1.heap.FunFrames base (Z2 qual scope s.heap.objs.28 f cd :: outer):=I.43;have nL:∀b o,s.heap.11 b=some o->b≠s.6:=λb o q=>bM (Y7 q)
 have ns0:s.heap.11 e=none:=by
  cases q:s.heap.11 e with
  | none=>rfl
  | some o =>
   have:=I.base.47 e o q h0 (aI);rw[he] at this;cases this
 have enf:e∉yx (Z2 qual scope s.heap.objs.28 f cd :: outer):=λz=>by
  have:=I.B! e z;rw[he] at this;cases this
 obtain ⟨hid,eh⟩:∃l,l=e :: yx (Z2 qual scope s.heap.objs.28 f cd :: outer):=#[_,rfl];have ajD:s1.heap.FunFrames (hideAll s1.22 hid) (Z2 qual scope s.heap.objs.28 f cd :: outer):=funFrames_hide ajm λenv hm b hb=>by rw[eh];show bP _ (Ku.mpr #[env,hm,hb])
 have hD:mL e dx s1.8:=odd ▸ mL.of g0
 have c1:∀b u,Aw H1 e b=some u->∃o,(hideAll s1.22 hid).11 b=some o:=λb u q=>by
  obtain ne|q:=Qh q;obtain o|z:=(I._u b u q).56;refine #[o,hideAll_get _ z λm=>?_];rw[eh] at m;rcases ax.mp m with m | m
  ·show ne m
  ·have:=I.B! b m;rw[q] at this;cases this
 have c2:∀b o,s.heap.11 b=some o->b∉yx outer->∃o',(hideAll s1.22 hid).11 b=some o':=λb o q hb=>by
  obtain o'|z:=I.base.56 b o q (aI);refine #[o',hideAll_get _ z λm=>?_];rw[eh,Jt (L:=s.6) rfl] at m;rcases ax.mp m with m | m
  ·rw[m,ns0] at q;cases q
  rcases ax.mp m with m | m
  ·show nL b o q m
  ·show hb m
 have hU0:Un (yx outer) [] H H1 s.22 s1.8:=I.41
 have hU:Un (yx outer) [] H (Aw H1 e) s.22 s1.8:=#[hU0.keep,hU0.slot,λb o q n hx=>by
   rw[vD (λz=>by rw[z,ns0] at q;cases q)];show hU0.47 b o q n hx,hU0.56,λb xs q=>by
   have q':=hU0.z! b xs q;rw[vD (λz=>by rw[z,he] at q';cases q')];show q',λb o u q=>by
   have q':=hU0.x! b o u q;rw[vD (λz=>by rw[z,he] at q';cases q')];show q',λb ps q=>by
   obtain m|q':=hU0.A! b ps q;show #[m,by rw[vD (λz=>by rw[z,he] at q';cases q')];show q']]
 have ajp:yR P w (Aw H1 e) s1.8:=λb u q=>by
  obtain ne|q:=Qh q;show (I._u b u q).r! (λc v _ z=>z) (λc z=>by rw[vD (λy=>by rw[y,he] at z;cases z)];show z) λc xs z=>by rw[vD (λy=>by rw[y,he] at z;cases z)];show z
 refine ZD (sE (e:=e) (d:=dx) (CV _ _) (wpAny_leaving_firstW (E:=λ_ _=>False) (Q:=λ_ s2=>WI P w outer H s (Aw H1 e) e t oe.cls (hideAll s1.22 hid) s2)
  (base:=hideAll s1.22 hid) (L:=s.6) hfr ajD rfl g0 (λb o q=>of_hideAll _ q) (hideAll_none _ (by rw[eh];show cT)) od v1 v0 λh2 hL=>?_) hD) (λ_ s2 #[F,dc]=>#[e,t,oe.cls,dx,Aw H1 e,_,rfl,#[F,dc],hE]) (λ_ _ z=>z.1.45)
 obtain x1|⟨_,_,x2⟩|x3|x4:=hL;have fl:aaf (hideAll s1.22 hid) outer e oe.cls (.ref t) h2:=#[x1,hideAll_none _ (by rw[eh];show cT),x2,x3]
 obtain U2|ok2:=Ll hU ajp (λb o q=>of_hideAll _ q) x1 x4 c1 c2 I.ok.frf (λb hb o q=>by
  obtain _|o'|e'|d:=I.ok.e!.mem hb;have e':s.heap.11 b=some o':=e';rw[q] at e';cases e';show d)
 show #[I.os,I.50,U2,ok2,fl,c1,c2]
end
section
variable {X:Cx}
def Fl (K:Frag) (H0:Hp) (te:TE) (E:XK):TS:=λ_ σ H=>te σ H λv H1=>∃a C S dx,v=.ref a/\H1 a=some (Ln a (.ref C) dx)/\H0 a=none/\WK K C S/\E (.ref C) dx (Aw H1 a)
theorem EC (hx:Ng X E) (hc:X.calm=true) (he:PE X e te):PS X (.Raise (some e) none pos) (Fl X.K X.H₀ te E):=by
 intro _a s σ H D I h;rw[arm_exec_Raise];refine K0 (aai ?_);unfold raiseStmt
 dsimp only
 refine K0 (K0 (ik (he _a s σ H _ I h) λu s1 #[v,H1,I1,rv,a,C,S,dx,ev,ea,h0,xi,q]=>K0 (aai (Y6 ?_))));subst ev;cases rv;obtain ⟨ob,vs,t,g0,oc,od,odd,v0,v1⟩|_:=(show iJ X.23 X.w H1 s1.22 a (Ln a (.ref C) dx) from I1._u a _ ea);obtain N|nm|qn|bs|aaK|sn|sub|ab|col|dd|k0|k1|k2|k3|k5|cd|hC|T|Y!|hm:=xi.at I1._X;have hxe:=hx _a σ H1 s1 a _ _ I1 ea h0 q;have hhd:=I1.ok.hd hc;obtain c1|d1|e1|l1:=ob
 dsimp only at oc od odd
 subst oc od odd;have hcB:(Za C :: .ref S :: yS).contains (.type "BaseException")=true:=by rfl
 obtain hp|gs|dr|tk|os:=s1;have LT:aac (model X.23 X.w) hp (typeOf (.ref a)) (.ref C):=(aac.ld g0).andThen .now;have LTT:aac (model X.23 X.w) hp (typeOf (.ref C)) (.type "type"):=(aac.ld hC).andThen .now
 have LIT:aac (model X.23 X.w) hp (isType (.ref a)) false:=λA' Q' E' s' k z=>by
  unfold isType loadHead;show K0 (wpAny_loadPart (k _ _ g0) (Y6 z))
 have LIE:aac (model X.23 X.w) hp (isExcClass (.ref a)) false:=λA' Q' E' s' k z=>by
  unfold isExcClass;refine K0 ((LIT.keeps k).here ?_);rw[if_neg aQ];show Y6 z
 have LIB:aac (model X.23 X.w) hp (isInstance (.ref a) (.type "BaseException")) true:=LT.andThen (looks_mroIn (show X.K.In hp from I1._X) xi.xc.mb);simp only[evalOpt,Option.map];refine K0 (Y6 (K0 (ZR ?_)));unfold excFromValue;refine K0 (aac.at LIE ?_);rw[if_neg aQ];refine K0 (aac.at LIB ?_);rw[if_pos rfl];refine Y6 ?_;refine K0 (aac.at LIT ?_);rw[if_neg aQ];unfold raisedInstance;refine K0 (K0 (aac.at LT (K0 (aac.at LTT ?_))));rw[if_pos (by rfl)];refine Y6 (K0 ?_);unfold setFlight;refine K0 (ZG g0 rfl v1 ?_);rw[if_neg ()];show Y6 (wpAny_raiseNew_none hhd hxe)
end
inductive Mi (K:_g) (vs:List V) (H:Hp) (Q:VK) (E9:XK):Prop
 | mk (p:Addr) (n w:Nat) (H0:Hp) (rows:_m):vs=[.ref p,.int n]->bf K H0 H p rows->rows.9<=100->n<=100->(∀xs∈rows,xs.9=n)->D9 (a9 rows n) rows.9 w->(∀q R ps H',aG H H'->H' q=some (.lst (eB ps))->bL (a9 rows n) rows.9 R ps->Q (.ref q) H')->Mi K vs H Q E9
theorem kS:(a9 rows n).9=n:=by unfold a9;simp
inductive Iw (K:_g) (C:Addr) (vs:List V) (H:Hp) (Q:VK) (E9:XK):Prop
 | mk (x p:Addr) (w:Nat) (H0 H1:Hp) (mv pt lk _h _p Rk:_m) (pk:List Nat):vs=[.ref x,.ref p]->ip K H0 H C x mv pt lk->eO mv pt lk->bf K H1 H p _h->Kq mv pt _h _p->_p.9 < mv.9->bL (iI mv pt mv.9) mv.9 Rk pk->pk.9=mv.9->(∀xs∈mv,uD xs (_h.4 _p.9 []))->D9 (a9 (_h++(il mv (_h.4 _p.9 []) :: pt)) mv.9) (_h++(il mv (_h.4 _p.9 []) :: pt)).9 w->(∀r pu H',H r=none->aG H H'->cA K H' r pu->pu.9=pt.9->(∀z∈pu,z=0\/z=1)->(∀s':List Rat,s'.9=mv.9->(∀c,s'.4 c 0=aU mv.9 (λi=>bo mv c i*bo _h _p.9 i)+aU pt.9 λl=>pu.4 l 0*bo pt l c)->Kq mv pt (_h++[s']) (_p++[pu]))->Q (.ref r) H')->Iw K C vs H Q E9
theorem Oi (h:xs.9=k+1):rO xs (some (-1)) none=xs.37 k:=by
 unfold rO
 have e:HT.FO xs.9 0 (some (-1))=k:=by
  change (if (-1:Int) < 0 then ((-1:Int)+(xs.9:Int)).29 else min (-1:Int).29 xs.9)=k
  rw[if_pos (),h]
  lia
 rw[e,HT.vv];show aF (by rw[eH];lia)
theorem Lp {xs:_m} (h:xs.9=k+1):xs.37 k=[xs.4 k []]:=by
 rw[dR (),A8 (),aa,ae ()];rfl
theorem BW:(Wb m (0:Rat)).4 l 0=0:=by
 rw[aa,Ak]
 split <;> rfl
theorem ON (hl:l < m):(nQ m ((l:Nat):Int)).4 l' 0=if l'=l then 1 else 0:=by
 unfold nQ;rw[aa,az];rcases aX l' m with q | q
 ·rw[cx q];change (if ((l':Nat):Int)=((l:Nat):Int) then (1:Rat) else 0)=_
  by_cases e:l'=l
  ·rw[if_pos (by rw[e]),if_pos e]
  ·rw[if_neg (),if_neg e]
 ·rw[aA (by rw[bX];show q),if_neg ()];rfl
theorem Sx {ps:List Nat} (h:M∈(ps.filter (k<=·)).12 λp=>((p:Nat):Int)):∃t,t < ps.9/\M=((ps.4 t 0:Nat):Int)/\k<=ps.4 t 0:=by
 obtain p|hp|rfl:=au.mp h;obtain h1|h2:=ib.mp hp;obtain t|ht|e:=bu h1;have eg:ps.4 t 0=p:=by rw[aa,ae ht,e];rfl
 show #[t,ht,by rw[eg],by rw[eg];simpa using h2]
def T9 (mv pt:_m):Prop:=∀_h _p,Kq mv pt _h _p->(∀pu∈_p,∀z∈pu,z=(0:Rat)\/z=1)->_p.9 < mv.9->(∀xs∈mv,uD xs (_h.4 _p.9 []))/\(∃w,D9 (a9 (_h++(il mv (_h.4 _p.9 []) :: pt)) mv.9) (_h++(il mv (_h.4 _p.9 []) :: pt)).9 w)/\∀pu:List Rat,(∀z∈pu,z=0\/z=1)->qe 1800000 1800000 (_h.4 _p.9 []++pu)
inductive ID (K:_g) (C:Addr) (vs:List V) (H:Hp) (Q:VK) (E9:XK):Prop
 | mk (x:Addr) (H0:Hp) (mv pt lk Rk:_m) (pk:List Nat):vs=[.ref x]->ip K H0 H C x mv pt lk->eO mv pt lk->Dk mv pt lk->bL (iI mv pt mv.9) mv.9 Rk pk->pk.9=mv.9->T9 mv pt->(∀t a b _h _p H',aG H H'->H' t=some (.tup [.ref a,.ref b])->bf K H H' a _h->bf K H H' b (_p++[Wb pt.9 0])->Kq mv pt _h _p->_p.9=mv.9->(∀pu∈_p,∀z∈pu,z=0\/z=1)->Q (.ref t) H')->ID K C vs H Q E9
theorem QV:Kq mv pt [Wb mv.9 0] [] :=
 #[rfl,λxs hx=>by rw[aM.mp hx];show bK,(λ_ h=>nomatch h),λc=>BW,(λj h=>absurd h (cV _)),λj j0 hj=>by
  have:j < 1:=hj
  lia]
theorem NU {st pu:List Rat} (D:eO mv pt lk) (h:st.9=mv.9) (hp:pu.9=pt.9) (c:Nat):(c7 mv pt st pu).4 c 0=aU mv.9 (λj=>bo mv c j*st.4 j 0)+aU pt.9 λi=>pu.4 i 0*bo pt i c:=by
 rcases aX c mv.9 with q | q
 ·show yo D h hp q
 ·have z1:∀j,bo mv c j=0:=λj=>by unfold bo;rw[aa (l:=mv),aA q];show List.getD_nil
  have l:(c7 mv pt st pu).9<=mv.9:=by unfold c7;rw[aJ];show Nat.min_le_left ..
  rw[aa,aA (),bQ λj _=>by rw[z1 j];grind,bQ λi _=>by rw[A2 D.pw q];grind];change (0:Rat)=0+0
  grind
theorem C3 {v:V} (h:xs.9=k+1) (e:xs[k]?=some v):Ko xs (-1)=some v:=by
 have:xs=xs.21 k++[v]:=by
  rw[aH] at e;obtain hk|e:=e;rw[<- e,List.take_append_getElem hk,aF ()]
 rw[this];show yJ _ _
theorem tO {st pu:List Rat} (D:eO mv pt lk):(c7 mv pt st pu).9=mv.9:=by
 unfold c7;rw[aJ,kS,qL]
abbrev oS (h:Heap) (T:Addr) (a b c:Value):Prop:=h.11 T=some { cls:=.type "tuple",data:=.seq [a,b,c].14 }
structure Z3 (z TI TO i1 i2 i3 l1 l2 l3:Addr):Prop where
 nd:[z,TO,i1,i2,i3].46
 ti:TI∉[z,TO,i1,i2,i3]
 m1:l1∉[z,TO,i1,i2,i3]
 m2:l2∉[z,TO,i1,i2,i3]
 m3:l3∉[z,TO,i1,i2,i3]
section
variable {prog:Zx} {w:ZO} {A:ZK} {E:Value->Y5->Prop} {s:Y5} {z TI TO i1 i2 i3 l1 l2 l3:Addr} {k:Nat} {xs ys zs:Array Value} {a b c u v t:Value}
theorem Kz (hT:oS s.22 T a b c)
  (h:∀h',h'.11 T=some { cls:=.type "tuple",data:=.seq (([a,b,c].14:Array Value).setIfInBounds j x) }->Heap.SameBut T s.22 h'->Q .unit { s with heap:=h' }):Zd (model prog w) A (updateSeq T (·.setIfInBounds j x)) Q E s:=by
 refine wpAny_updateSeq hT rfl (h _ ?_ (Heap.SameBut.update ..));rw[Heap.get?_update_self _ hT rfl];simp [Zu]
theorem Rn {Q:Value->Y5->Prop} (D:Z3 z TI TO i1 i2 i3 l1 l2 l3) (hz:IsZip s.22 z TI TO .none) (_R:oS s.22 TI (.ref i1) (.ref i2) (.ref i3)) (_U:oS s.22 TO a b c)
  (h1:s.heap.18 i1 l1 k) (h2:s.heap.18 i2 l2 k) (h3:s.heap.18 i3 l3 k) (g1:s.heap.34 l1 xs) (g2:s.heap.34 l2 ys) (g3:s.heap.34 l3 zs) (e1:xs[k]?=some u) (e2:ys[k]?=some v) (e3:zs[k]?=some t)
  (hQ:∀h',IsZip h' z TI TO (aah s.6)->oS h' TO u v t->h'.18 i1 l1 (k+1)->h'.18 i2 l2 (k+1)->h'.18 i3 l3 (k+1)->oS h' s.heap.objs.28 u v t →
   (∀d o,d∉[z,TO,i1,i2,i3]->s.heap.11 d=some o->h'.11 d=some o)->Q (.ref s.6) { s with heap:=h' }) :
  Zd (model prog w) A (ZA.«zip.__next__» #[[.ref z],[]]) (λfin s'=>∃v,fin=.done (.ret v)/\Q v s') E s:=by
 obtain nd|ti|m1|m2|m3:=D;simp only[cW,ax,aI,or_false,not_or,mM,and_true,not_false_eq_true] at nd ti m1 m2 m3;obtain ⟨zT,z1,z2,z3⟩|⟨T1,T2,T3⟩|⟨i12,i13⟩|i23:=nd;obtain _|_|_|_|_:=ti;obtain a1|a2|a3|a4|a5:=m1;obtain b1|b2|b3|b4|b5:=m2;obtain c1|c2|c3|c4|c5:=m3;change Zd _ _ (field (.ref z) 2 >>= _) _ _ _
 refine K0 (ZG hz rfl (x:=.bool false) rfl ?_);change Zd _ _ (field (.ref z) 3 >>= _) _ _ _
 refine K0 (ZG hz rfl (x:=.ref TI) rfl ?_);refine K0 (ZS _R rfl ?_);change Zd _ _ (Zj (.ref z) >>= _) _ _ _
 refine K0 ?_;unfold Zj;refine K0 (ZG hz rfl (x:=.none) rfl (Y6 ?_));simp only[if_true];refine K0 (wpAny_rule ?_);refine K0 (ZG hz rfl (x:=.ref TO) rfl ?_);refine K0 (ZX hz (by simp) λp1 y1 s1=>?_);replace y1:IsZip p1 z TI TO .ellipsis:=y1;refine K0 ?_;simp only[List.zipIdx_cons,List.zipIdx_nil,uI,qN];refine K0 (K0 (wpAny_onRaise ?_));change Zd _ _ (Zt (.ref i1) >>= _) _ _ _
 refine K0 (ZV (h1.15 s1.15 (Zo z1)) (g1.15 s1.15 a1) e1 λp2 n1 s2=>Y6 ?_);have t2:oS p2 TO a b c:=s2.15 _ _ T1 (s1.15 _ _ (Zo zT) _U);refine K0 (ZS t2 rfl ?_);refine K0 (Kz t2 λp3 t3 s3=>?_);replace t3:oS p3 TO u b c:=t3;refine K0 (wpAny_letGo (Y6 ?_));refine K0 (K0 (wpAny_onRaise ?_));change Zd _ _ (Zt (.ref i2) >>= _) _ _ _
 refine K0 (ZV (((h2.15 s1.15 (Zo z2)).15 s2.15 (Zo i12)).15 s3.15 (Zo T2)) (((g2.15 s1.15 b1).15 s2.15 b3).15 s3.15 b2) e2 λp4 n2 s4=>Y6 ?_);have t4:oS p4 TO u b c:=s4.15 _ _ T2 t3;refine K0 (ZS t4 rfl ?_);refine K0 (Kz t4 λp5 t5 s5=>?_);replace t5:oS p5 TO u v c:=t5;refine K0 (wpAny_letGo (Y6 ?_));refine K0 (K0 (wpAny_onRaise ?_));change Zd _ _ (Zt (.ref i3) >>= _) _ _ _
 refine K0 (ZV (((((h3.15 s1.15 (Zo z3)).15 s2.15 (Zo i13)).15 s3.15 (Zo T3)).15 s4.15 (Zo i23)).15 s5.15 (Zo T3)) (((((g3.15 s1.15 c1).15 s2.15 c3).15 s3.15 c2).15 s4.15 c4).15 s5.15 c2) e3 λp6 n3 s6=>Y6 ?_);have t6:oS p6 TO u v c:=s6.15 _ _ T3 t5;refine K0 (ZS t6 rfl ?_);refine K0 (Kz t6 λp7 t7 s7=>?_);replace t7:oS p7 TO u v t:=t7;refine K0 (wpAny_letGo (Y6 (Y6 ?_)));refine K0 (ZS t7 rfl ?_);refine K0 (wpAny_newTuple ?_);have hsz:p7.objs.7=s.6:=by rw[s7.1,s6.1,s5.1,s4.1,s3.1,s2.1,s1.1]
 have kp:∀d o,d∉[TO,i1,i2,i3]->p1.11 d=some o->p7.11 d=some o:=λd o hd e=>by
  simp only[ax,aI,or_false,not_or] at hd;obtain d1|d2|d3|d4:=hd;show s7.15 _ _ d1 (s6.15 _ _ d4 (s5.15 _ _ d1 (s4.15 _ _ d3 (s3.15 _ _ d1 (s2.15 _ _ d2 e)))))
 have y7:IsZip p7 z TI TO .ellipsis:=kp z _ (by simp [zT,z1,z2,z3]) y1;have zlt:z < p7.objs.7:=Y7 y7;change Zd _ _ (ZA.SmallTypes.ownedTupleHandOut (.ref z) (.ref p7.objs.7) >>= _) _ _ _
 refine K0 ?_;unfold ZA.SmallTypes.ownedTupleHandOut;have y8:IsZip (p7.25 { cls:=.type "tuple",data:=.seq [u,v,t].14 }) z TI TO .ellipsis:=Y4 _ y7;refine K0 (ZX y8 (by simp) λp8 y9 s8=>?_);replace y9:IsZip p8 z TI TO (aah p7.objs.7):=y9;refine ZX y9 (by simp) λp9 yA s9=>?_
 replace yA:IsZip p9 z TI TO (aah p7.objs.7):=yA;have up:∀d o,d≠z->p7.11 d=some o->p9.11 d=some o:=λd o hd e=>s9.15 _ _ hd (s8.15 _ _ hd (Y4 _ e))
 have tT:oS p9 p7.objs.28 u v t:=s9.15 _ _ (qK zlt) (s8.15 _ _ (qK zlt) (Zc _ rfl));rw[hsz] at yA tT;refine Y6 #[_,rfl,?_];change Q (.ref p7.objs.7) _
 rw[hsz];refine hQ p9 yA (up _ _ (Zo zT) t7) ?_ ?_ ?_ tT λd o hd e=>?_
 ·show ((((((n1.15 s3.15 (Zo T1)).15 s4.15 i12).15 s5.15 (Zo T1)).15 s6.15 i13).15 s7.15 (Zo T1))).at λo e=>up _ o (Zo z1) e
 ·show (((n2.15 s5.15 (Zo T2)).15 s6.15 i23).15 s7.15 (Zo T2)).at λo e=>up _ o (Zo z2) e
 ·show (n3.15 s7.15 (Zo T3)).at λo e=>up _ o (Zo z3) e
 ·simp only[ax,aI,or_false,not_or] at hd;obtain d0|d1|d2|d3|d4:=hd;show up d o d0 (kp d o (by simp [d1,d2,d3,d4]) (s1.15 _ _ d0 e))
theorem UT (hh:A.handled=none) (D:Z3 z TI TO i1 i2 i3 l1 l2 l3) (hz:IsZip s.22 z TI TO .none) (_R:oS s.22 TI (.ref i1) (.ref i2) (.ref i3))
  (h1:s.heap.18 i1 l1 k) (g1:s.heap.34 l1 xs) (e1:xs[k]?=none)
  (hE:∀h' e,(∀d o,d∉[z,TO,i1,i2,i3]->s.heap.11 d=some o->h'.11 d=some o)->(∃o,h'.11 e=some o/\o.cls=.type "StopIteration")->E (.ref e) { s with heap:=h' }) :
  Zd (model prog w) A (ZA.«zip.__next__» #[[.ref z],[]]) Q E s:=by
 obtain nd|ti|m1|_|_:=D;simp only[cW,ax,aI,or_false,not_or,mM,and_true,not_false_eq_true] at nd ti m1;obtain ⟨zT,z1,z2,z3⟩|⟨T1,T2,T3⟩|⟨i12,i13⟩|i23:=nd;change Zd _ _ (field (.ref z) 2 >>= _) _ _ _
 refine K0 (ZG hz rfl (x:=.bool false) rfl ?_);change Zd _ _ (field (.ref z) 3 >>= _) _ _ _
 refine K0 (ZG hz rfl (x:=.ref TI) rfl ?_);refine K0 (ZS _R rfl ?_);change Zd _ _ (Zj (.ref z) >>= _) _ _ _
 refine K0 ?_;unfold Zj;refine K0 (ZG hz rfl (x:=.none) rfl (Y6 ?_));simp only[if_true];refine K0 (wpAny_rule ?_);refine K0 (ZG hz rfl (x:=.ref TO) rfl ?_);refine K0 (ZX hz (by simp) λp1 y1 s1=>?_);replace y1:IsZip p1 z TI TO .ellipsis:=y1;refine K0 ?_;simp only[List.zipIdx_cons,List.zipIdx_nil,uI,qN];refine K0 (K0 (wpAny_onRaise ?_));change Zd _ _ (Zt (.ref i1) >>= _) _ _ _
 refine K0 (wpAny_nextOf_list_end hh (h1.15 s1.15 (Zo z1)) (g1.15 s1.15 m1.1) e1 λp2 e s2 he=>?_);obtain oe|hoe|hce:=he;have y2:IsZip p2 z TI TO .ellipsis:=s2 _ _ z1 y1;have ez:e≠z:=λx=>by subst x;rw[y2] at hoe;cases hoe;simp at hce
 refine ZX y2 (by simp) λp3 _ s3=>hE p3 e (λd o hd x=>?_) #[oe,s3.15 _ _ ez hoe,hce]
 simp only[ax,aI,or_false,not_or] at hd;show s3.15 _ _ hd.1 (s2 _ _ hd.2.2.1 (s1.15 _ _ hd.1 x))
theorem SU (D:Z3 z TI TO i1 i2 i3 l1 l2 l3) (hz:IsZip s.22 z TI TO .none) (_R:oS s.22 TI (.ref i1) (.ref i2) (.ref i3)) (_U:oS s.22 TO a b c)
  (h1:s.heap.18 i1 l1 k) (h2:s.heap.18 i2 l2 k) (h3:s.heap.18 i3 l3 k) (g1:s.heap.34 l1 xs) (g2:s.heap.34 l2 ys) (g3:s.heap.34 l3 zs) (e1:xs[k]?=some u) (e2:ys[k]?=some v) (e3:zs[k]?=some t)
  (hQ:∀h',IsZip h' z TI TO (aah s.6)->oS h' TO u v t->h'.18 i1 l1 (k+1)->h'.18 i2 l2 (k+1)->h'.18 i3 l3 (k+1)->oS h' s.heap.objs.28 u v t →
   (∀d o,d∉[z,TO,i1,i2,i3]->s.heap.11 d=some o->h'.11 d=some o)->Q (some (.ref s.6)) { s with heap:=h' }) :
  Zd (model prog w) A (pyNext (.ref z)) Q E s:=by
 have hT:s.TypeIs (.ref z) "zip":=#[_,hz,rfl];unfold pyNext
 show K0 (wpAny_attempt (Z5 (name:=Str.ofString "__next__") hT F.slot_zip_next
  (wpAny_call_entry F.slot_zip_next hT F.entry_zip_next
   (Rn D hz _R _U h1 h2 h3 g1 g2 g3 e1 e2 e3 λh' a1 a2 a3 a4 a5 a6 a7=>Y6 (hQ h' a1 a2 a3 a4 a5 a6 a7)) (F.args_zip_next_1 _))))
theorem Jh (hh:A.handled=none) (D:Z3 z TI TO i1 i2 i3 l1 l2 l3) (hz:IsZip s.22 z TI TO .none) (_R:oS s.22 TI (.ref i1) (.ref i2) (.ref i3))
  (h1:s.heap.18 i1 l1 k) (g1:s.heap.34 l1 xs) (e1:xs[k]?=none)
  (hQ:∀h',(∀d o,d∉[z,TO,i1,i2,i3]->s.heap.11 d=some o->h'.11 d=some o)->Q none { s with heap:=h' }):Zd (model prog w) A (pyNext (.ref z)) Q E s:=by
 have hT:s.TypeIs (.ref z) "zip":=#[_,hz,rfl];unfold pyNext
 refine K0 (wpAny_attempt (Z5 (name:=Str.ofString "__next__") hT F.slot_zip_next
  (wpAny_call_entry F.slot_zip_next hT F.entry_zip_next (UT hh D hz _R h1 g1 e1 λh' e hk he=>?_) (F.args_zip_next_1 _))))
 obtain o|ho|hc:=he;show K0 (wpAny_isInstance (T:="StopIteration") (b:=true) #[o,ho,hc] isSubtype_stop (Y6 (hQ _ hk)))
abbrev UQ (h:Heap) (l1:Addr):Heap:=h.25 { cls:=.type "list_iterator",data:=.fields [.ref l1,.int 0 0].14 }
abbrev WT (h:Heap) (l1 l2:Addr):Heap:=UQ (UQ h l1) l2
abbrev Yu (h:Heap) (l1 l2 l3:Addr):Heap:=UQ (WT h l1 l2) l3
abbrev Yt (h:Heap) (l1 l2 l3:Addr):Heap:=(Yu h l1 l2 l3).25 { cls:=.type "tuple",data:=.seq [.ref h.objs.7,.ref (UQ h l1).objs.size,.ref (WT h l1 l2).objs.size].14 }
abbrev Yr (h:Heap) (l1 l2 l3:Addr):Heap:=(Yt h l1 l2 l3).25 { cls:=.type "tuple",data:=.seq [.none,.none,.none].14 }
abbrev UP (h:Heap) (l1 l2 l3:Addr):Heap:=(Yr h l1 l2 l3).25 { cls:=.type "zip",data:=.fields [.none,.bool false,.bool false,.ref (Yu h l1 l2 l3).objs.size,.ref (Yt h l1 l2 l3).objs.size].14 }
set_option maxHeartbeats 0 in
theorem La (l1 l2 l3:Addr) (xs ys zs:Array Value) :
  Meets (ZA.«zip.__new__» #[[.type "zip",.ref l1,.ref l2,.ref l3],[]]) (λ_ R s=>s.heap.34 l1 xs/\s.heap.34 l2 ys/\s.heap.34 l3 zs /\
   R (.ok (.ret (.ref (Yr s.22 l1 l2 l3).objs.size))) { s with heap:=UP s.22 l1 l2 l3 }) :=
 .of_wp λprog w A R s h=>by
  obtain hp|g|d|tk|os:=s;obtain k1|k2|k3|h:=h;have hsub:=sub_zip;have hL1:Heap.IsList (Y5.heap #[hp,g,d,tk,os]) l1 xs:=k1;have hL2:Heap.IsList (Y5.heap #[UQ hp l1,g,d,tk,os]) l2 ys:=Heap.IsList.push k2 _;have hL3:Heap.IsList (Y5.heap #[WT hp l1 l2,g,d,tk,os]) l3 zs:=Heap.IsList.push (Heap.IsList.push k3 _) _
  wp_walk using aaa hL1,aaa hL2,aaa hL3
  show #[_,rfl,h]
theorem Dm (a b c:Value):checkTypeCall "zip" #[[a,b,c],[]]=pure .unit:=by kernel_rfl
theorem Gf (a b c:Value):checkBuiltinCall "zip.__new__" #[[.type "zip",a,b,c],[]]=pure .unit:=by kernel_rfl
theorem LG (a b c d:Value):argsOk "object.__init__" #[[a,b,c,d],[]]:=by
 unfold argsOk;rw[signature?_of (id:="object.__init__") (n:=['_','_','t','i','n','i','_','_']) (o:=['t','c','e','j','b','o']) (by kernel_rfl) F.owner_object]
 kernel_rfl
theorem Om (g1:s.heap.34 l1 xs) (g2:s.heap.34 l2 ys) (g3:s.heap.34 l3 zs)
  (h:∀h',IsZip h' (s.6+5) (s.6+3) (s.6+4) .none->oS h' (s.6+3) (.ref s.6) (.ref (s.6+1)) (.ref (s.6+2)) →
   oS h' (s.6+4) .none .none .none->h'.18 s.heap.objs.28 l1 0->h'.18 (s.6+1) l2 0->h'.18 (s.6+2) l3 0 →
   (∀d o,s.heap.11 d=some o->h'.11 d=some o)->Q (.ref (s.6+5)) { s with heap:=h' }) :
  Zd (model prog w) A (call (.type "zip") [.ref l1,.ref l2,.ref l3]) Q E s:=by
 refine callType_new F.called_zip () (Dm _ _ _) (Gf _ _ _) (λobj=>LG obj _ _ _) F.entry_zip_new (La l1 l2 l3 xs ys zs) #[g1,g2,g3,?_];have p:∀{h:Heap} {o:Obj} {d:Addr} {q:Obj},h.11 d=some q->(h.25 o).11 d=some q:=λe=>Y4 _ e
 have z1:(UQ s.22 l1).objs.size=s.6+1:=Zy ..;have z2:(WT s.22 l1 l2).objs.size=s.6+2:=by rw[Zy,z1]
 have z3:(Yu s.22 l1 l2 l3).objs.size=s.6+3:=by rw[Zy,z2]
 have z4:(Yt s.22 l1 l2 l3).objs.size=s.6+4:=by rw[Zy,z3]
 have z5:(Yr s.22 l1 l2 l3).objs.size=s.6+5:=by rw[Zy,z4]
 have q6:(UP s.22 l1 l2 l3).11 (Yr s.22 l1 l2 l3).objs.size=some _:=Zc _ rfl;have q5:(UP s.22 l1 l2 l3).11 (Yt s.22 l1 l2 l3).objs.size=some _:=p (Zc _ rfl);have q4:(UP s.22 l1 l2 l3).11 (Yu s.22 l1 l2 l3).objs.size=some _:=p (p (Zc _ rfl));have q3:(UP s.22 l1 l2 l3).11 (WT s.22 l1 l2).objs.size=some _:=p (p (p (Zc _ rfl)));have q2:(UP s.22 l1 l2 l3).11 (UQ s.22 l1).objs.size=some _:=p (p (p (p (Zc _ rfl))));have q1:(UP s.22 l1 l2 l3).11 s.6=some _:=p (p (p (p (p (Zc _ rfl)))));change _/\_
 rw[z3,z4,z5] at q6;rw[z4] at q5;rw[z1,z2,z3] at q4;rw[z2] at q3;rw[z1] at q2;rw[z5];show #[#[_,q6,rfl],h _ q6 q4 q5 #[_,q1,rfl,rfl] #[_,q2,rfl,rfl] #[_,q3,rfl,rfl] λd o e=>p (p (p (p (p (p e)))))]
end
def WD (K : _g) (l1 l2 l3 : Addr) : It :=
  #[λi H => ∃ xs ys zs x y t, bA K H l1 xs /\ bA K H l2 ys /\ bA K H l3 zs /\ xs[i]? = some x /\ ys[i]? = some y /\ zs[i]? = some t,
   λi H v H' => ∃ p x y t, v = .ref p /\ H p = none /\ H' = upd H p (.tup [x, y, t]) /\ (∀ xs, bA K H l1 xs → xs[i]? = some x) /\ (∀ ys, bA K H l2 ys → ys[i]? = some y) /\ ∀ zs, bA K H l3 zs → zs[i]? = some t,
   λi H => ∃ xs ys zs, bA K H l1 xs /\ bA K H l2 ys /\ bA K H l3 zs /\ xs.9 ≤ i]
def YE (z TI TO i1 i2 i3 l1 l2 l3:Addr) (i:Nat) (h:Heap):Prop:=IsZip h z TI TO .none/\oS h TI (.ref i1) (.ref i2) (.ref i3)/\(∃a b c,oS h TO a b c)/\h.18 i1 l1 i/\h.18 i2 l2 i/\h.18 i3 l3 i
theorem Ic {z TI TO i1 i2 i3 l1 l2 l3:Addr} (hz:IsZip h z TI TO f0) (_R:oS h TI (.ref i1) (.ref i2) (.ref i3)) (_U:oS h TO a b c)
  (h1:h.18 i1 l1 k1) (h2:h.18 i2 l2 k2) (h3:h.18 i3 l3 k3) (hl1:h.34 l1 xs) (hl2:h.34 l2 ys) (hl3:h.34 l3 zs) (hT:TI≠TO) (h12:i1≠i2) (h13:i1≠i3) (h23:i2≠i3):Z3 z TI TO i1 i2 i3 l1 l2 l3:=by
 obtain o1|g1|c1|_:=h1;obtain o2|g2|c2|_:=h2;obtain o3|g3|c3|_:=h3;have ne:∀{a b:Addr} {o u:Obj} {A B:String},h.11 a=some o->h.11 b=some u->o.cls=.type A->u.cls=.type B->A≠B->a≠b:=λha hb ca cb hn=>di ha hb (by rw[ca,cb];show oF hn)
 have li:∀{l:Addr} {ws:Array Value},h.34 l ws->l∉[z,TO,i1,i2,i3]:=λhl=>by
  obtain p|q|d|_:=hl;simp only[ax,aI,or_false,not_or];show #[ne q hz d rfl (),ne q _U d rfl (),ne q g1 d c1 (),ne q g2 d c2 (),ne q g3 d c3 ()]
 refine #[?_,?_,li hl1,li hl2,li hl3]
 ·simp only[cW,ax,aI,or_false,not_or,mM,and_true,not_false_eq_true];show #[#[ne hz _U rfl rfl (),ne hz g1 rfl c1 (),ne hz g2 rfl c2 (),ne hz g3 rfl c3 ()],#[ne _U g1 rfl c1 (),ne _U g2 rfl c2 (),ne _U g3 rfl c3 ()],#[h12,h13],h23]
 ·simp only[ax,aI,or_false,not_or];show #[ne _R hz rfl rfl (),hT,ne _R g1 rfl c1 (),ne _R g2 rfl c2 (),ne _R g3 rfl c3 ()]
theorem Nn {P:Zx} {w:ZO} {K:_g} {elts:List Expr} {kk:Nat} {q!:Pos} (z TI TO i1 i2 i3 l1 l2 l3:Addr) (hT:TI≠TO) (h12:i1≠i2) (h13:i1≠i3) (h23:i2≠i3):Turn P w K (.Tuple elts kk q!) (WD K l1 l2 l3) [z,TI,TO,i1,i2,i3] z (YE z TI TO i1 i2 i3 l1 l2 l3) where
 mem:=by simp
 obj:=λi h st b hb=>by
  obtain hz|_R|⟨a,c,e,_U⟩|⟨o1,g1,c1,d1⟩|⟨o2,g2,c2,d2⟩|⟨o3,g3,c3,d3⟩:=st;simp only[ax,aI,or_false] at hb;rcases hb with rfl | rfl | rfl | rfl | rfl | rfl
  ·show #[_,hz,λv q=>nomatch q]
  ·show #[_,_R,λv q=>nomatch q]
  ·show #[_,_U,λv q=>nomatch q]
  ·show #[o1,g1,λv q=>by rw[d1] at q;cases q]
  ·show #[o2,g2,λv q=>by rw[d2] at q;cases q]
  ·show #[o3,g3,λv q=>by rw[d3] at q;cases q]
 keep:=λi h h' st k=>by
  obtain hz|_R|⟨a,c,e,_U⟩|h1|h2|h3:=st;show #[k z (by simp) _ hz,k TI (by simp) _ _R,#[a,c,e,k TO (by simp) _ _U],h1.at λo e=>k i1 (by simp) o e,h2.at λo e=>k i2 (by simp) o e,h3.at λo e=>k i3 (by simp) o e]
 item:=by
  intro X hP hw hK hc i _a s σ H E I hf st hg;subst hP hw hK;obtain hz|_R|⟨a,c,d,_U⟩|h1|h2|h3:=st;obtain xs|ys|zs|x|y|t|qx|qy|qz|ex|ey|ez:=hg;obtain us|rx|px|_:=I.32 qx;obtain ws|ry|py|_:=I.32 qy;obtain ts|rz|pz|_:=I.32 qz;obtain u|eu|ru:=rx.get ex;obtain v|ev|rv:=ry.get ey;obtain t'|et|rt:=rz.get ez;have D:=Ic hz _R _U h1 h2 h3 px.20 py.20 pz.20 hT h12 h13 h23;refine SU D hz _R _U h1 h2 h3 px.20 py.20 pz.20 (u:=u) (v:=v) (t:=t') (by simpa using eu) (by simpa using ev) (by simpa using et) λh' a1 a2 a3 a4 a5 a6 hk=>?_
  refine #[_,rfl,wpAny_letOwnedTupleGo_zip a1 λh'' adx hs=>?_];have hT0:H s.6=none:=I._u.36 (ah _);have zne:s.6≠z:=qK (Y7 hz)
  have up:∀b o,b∉[z,TO,i1,i2,i3]->s.heap.11 b=some o->h''.11 b=some o:=λb o hb e=>by
   have:=hk b o hb e;show (hs.2 b λq=>hb (by simp [q])).3 this
  have fx:∀b∈[z,TO,i1,i2,i3],mD X _a H b:=λb hb=>hf b (by
   simp only[ax,aI,or_false] at hb ⊢;rcases hb with rfl | rfl | rfl | rfl | rfl <;> simp)
  have nx:∀b o,H b=some o->b∉[z,TO,i1,i2,i3]:=λb o e hb=>by
   have:=(fx b hb).1;rw[this] at e;cases e
  have nT:∀{b:Addr} {o:HO},H b=some o->b≠s.6:=λe q=>by rw[q,hT0] at e;cases e
  have tup:h''.11 s.6=some { cls:=.type "tuple",data:=.seq [u,v,t'].14 }:=(hs.2 _ zne).3 a6
  have I2:Inv X _a σ (upd H s.heap.objs.28 (.tup [x,y,t])) { s with heap:=h'' }:=by
   refine I.57 (g':=s.gens) (d':=s.drawn) (t':=s.27) (ch:=[z,TO,i1,i2,i3]) (λb hb=>?_) (λb o _ _ hb e _=>up b o hb e) (λb o _ _ hb e _=>#[o.slots,up b o hb e]) (λb o hb e n=>?_)
    (λb o hb e=>#[o,up b o hb e]) (λb q e=>by rw[aR (nT e)];show e) (λb o q e=>by rw[aR (nT e)];show e) (λb q e=>#[[].14,by rw[aR (nT e),e];simp]) (λm hm=>?_) (λb o e=>?_) I.50
   ·obtain _|f1|_|f3|f4|f5:=fx b hb;show #[f3,f1,f4,f5]
   ·rw[aR (bM (Y7 e))];show n
   ·obtain o|es|ep|ho|r:=hm;show #[o,es,ep,up _ o (λz=>(fx _ z).2.1 rfl) ho,r]
   ·by_cases hb:b=s.6
    ·subst hb;rw[aD] at e;cases e;show #[ki rfl,[u,v,t'],.cons ru (.cons rv (.cons rt .nil)),#[_,tup,rfl,_,rfl]]
    ·rw[aR hb] at e;refine (I._u b o e).r! (λc v' hc q=>up c v' ?_ q) (λc q=>by rw[aR (nT q)];show q) λc xs q=>by rw[aR (nT q)];show q
     rcases hc with rfl | hc
     ·show nx _ _ e
     ·show nx _ _ hc
  refine #[.ref s.6,_,I2,rfl,#[_,x,y,t,rfl,hT0,rfl,λxs' q=>by rw[I._D q qx];show ex,λb! q=>by rw[I._D q qy];show ey,λzs' q=>by rw[I._D q qz];show ez],?_,λb hb=>?_]
  ·have nd:=D.nd;simp only[cW,ax,aI,or_false,not_or,mM,and_true,not_false_eq_true] at nd;obtain ⟨zT,z1,z2,z3⟩|_:=nd;show #[adx,up _ _ D.ti _R,#[_,_,_,(hs.2 _ (Zo zT)).3 a2],a3.at λo e=>(hs.2 _ (Zo z1)).3 e,a4.at λo e=>(hs.2 _ (Zo z2)).3 e,a5.at λo e=>(hs.2 _ (Zo z3)).3 e]
  ·obtain ⟨o,e,_⟩:∃o,s.heap.11 b=some o/\True:=by
    obtain o1|g1|_:=h1;obtain o2|g2|_:=h2;obtain o3|g3|_:=h3;simp only[ax,aI,or_false] at hb;rcases hb with rfl | rfl | rfl | rfl | rfl | rfl
    ·show #[_,hz,trivial]
    ·show #[_,_R,trivial]
    ·show #[_,_U,trivial]
    ·show #[_,g1,trivial]
    ·show #[_,g2,trivial]
    ·show #[_,g3,trivial]
   rw[aR (bM (Y7 e))];show (hf b hb).1
 done:=by
  intro X hP hw hK hc i _a s σ H E I hf st hg;subst hP hw hK;obtain hz|_R|⟨a,c,d,_U⟩|h1|h2|h3:=st;obtain xs|ys|zs|qx|qy|qz|adH:=hg;obtain us|rx|px|_:=I.32 qx;obtain ws|ry|py|_:=I.32 qy;obtain ts|rz|pz|_:=I.32 qz;have lx:=rx.9;have D:=Ic hz _R _U h1 h2 h3 px.20 py.20 pz.20 hT h12 h13 h23;refine Jh (I.ok.hd hc) D hz _R h1 px.20 (by simp;lia) λh' hk=>#[rfl,?_]
  have fx:∀b∈[z,TO,i1,i2,i3],mD X _a H b:=λb hb=>hf b (by
   simp only[ax,aI,or_false] at hb ⊢;rcases hb with rfl | rfl | rfl | rfl | rfl <;> simp)
  have nx:∀b o,H b=some o->b∉[z,TO,i1,i2,i3]:=λb o e hb=>by
   have:=(fx b hb).1;rw[this] at e;cases e
  refine I.57 (g':=s.gens) (d':=s.drawn) (t':=s.27) (ch:=[z,TO,i1,i2,i3]) (λb hb=>?_) (λb o _ _ hb e _=>hk b o hb e) (λb o _ _ hb e _=>#[o.slots,hk b o hb e]) (λb o hb e n=>n)
   (λb o hb e=>#[o,hk b o hb e]) (λb q e=>e) (λb o q e=>e) (λb q e=>#[[].14,by rw[e];simp]) (λm hm=>?_) (λb o e=>?_) I.50
  ·obtain _|f1|_|f3|f4|f5:=fx b hb;show #[f3,f1,f4,f5]
  ·obtain o|es|ep|ho|r:=hm;show #[o,es,ep,hk _ o (λz=>(fx _ z).2.1 rfl) ho,r]
  ·refine (I._u b o e).r! (λc v' hc q=>hk c v' ?_ q) (λc q=>q) λc xs q=>q
   rcases hc with rfl | hc
   ·show nx _ _ e
   ·show nx _ _ hc
 self:=λ_ _ _ _ _ st h=>aae st.1 h
def Uv (K:_g) (ta:TA):TI:=λσ H R=>ta σ H λvs H1=>∃l1 l2 l3,vs=[.ref l1,.ref l2,.ref l3]/\(∃xs,bA K H1 l1 xs)/\(∃ys,bA K H1 l2 ys)/\(∃zs,bA K H1 l3 zs)/\R (WD K l1 l2 l3) H1
theorem Sy {X:Cx} {a b c:Expr} {ta:TA} {p pos q!:Pos} {elts:List Expr} {kk:Nat} (hg:Gl X "zip") (hm:X.mg "zip"=none) (ha:PA X [a,b,c] ta) (hs:Y8 [a,b,c] X.16=[(false,eval a X.16),(false,eval b X.16),(false,eval c X.16)]:=by rfl) (hs2:Y8 [b,c] X.16=[(false,eval b X.16),(false,eval c X.16)]:=by rfl) :
  PI X (.Tuple elts kk q!) (.Call (.Name "zip" p) [a,b,c] [] pos) (Uv X.K ta):=by
 intro _a s σ H R I h;refine Call_ (m5 I hg hm boot_zip (Zk (ik (ha pos _a s σ H _ I h) λus s1 hz=>?_) (by rw[hs,hs2]) (by rw[hs2];rfl)));obtain vs|H1|I1|r1|q1:=hz;obtain l1|l2|l3|e|⟨xs,qx⟩|⟨ys,qy⟩|⟨zs,qz⟩|q:=q1;subst e;obtain u|v|t|rfl|ru|rv|rt:=vals3 r1;cases ru;cases rv;cases rt;obtain us|rx|px|_:=I1.32 qx;obtain ws|ry|py|_:=I1.32 qy;obtain ts|rz|pz|_:=I1.32 qz;refine Om px.20 py.20 pz.20 λh' a1 a2 a3 a4 a5 a6 hk=>aae a1 ?_
 have I2:Inv X _a σ H1 { s1 with heap:=h' }:=I1.59 (t':=s1.27) hk;have lt:∀{i j:Nat},i < j->s1.6+i≠s1.6+j:=λh e=>bM h (Nat.add_left_cancel e)
 refine #[_,[s1.6+5,s1.6+3,s1.6+4,s1.6,s1.6+1,s1.6+2],_,_,H1,rfl,I2,Nn (s1.6+5) (s1.6+3) (s1.6+4) s1.heap.objs.28 (s1.6+1) (s1.6+2) l1 l2 l3 (lt ()) (lt (i:=0) ()) (lt (i:=0) ()) (lt ()),#[a1,a2,#[_,_,_,a3],a4,a5,a6],λb hb=>?_,q]
 have hb':s1.6<=b:=by
  simp only[ax,aI,or_false] at hb;rcases hb with rfl | rfl | rfl | rfl | rfl | rfl <;> first | show rZ _ _ | show ah _
 show I1.T! hb' (I1._u.36 hb')
theorem Oj {K:_g} {g:TG} (Pv:Nat->List V->Hp->Prop) (hz:xs.9<=Zh) (hw:ws.9=xs.9) (hv:zs.9=xs.9) (h0:Pv 0 [] H) (hl:∀i ys H,i<=xs.9->Pv i ys H->bA K H l1 xs/\bA K H l2 ws/\bA K H l3 zs)
  (hs:∀i x y t ys H p,xs[i]?=some x->ws[i]?=some y->zs[i]?=some t->ys.9<=i->Pv i ys H->H p=none->uN σ₀ g tf te (.ref p) (upd H p (.tup [x,y,t])) (λy H'=>Pv (i+1) (ys++[y]) H') (λH'=>Pv (i+1) ys H'))
  (hd:∀ys H,ys.9<=xs.9->Pv xs.9 ys H->∀p,H p=none->Q (.ref p) (upd H p (.lst ys))):vQ (WD K l1 l2 l3) σ₀ g tf te Q H:=by
 refine #[λi m ys H=>m=xs.9 - i/\i<=xs.9/\ys.9<=i/\Pv i ys H,#[xs.9,by simp,aW _,aW _,h0],?_];rintro i m ys H ⟨rfl,hi,hy,p⟩;obtain q1|q2|q3:=hl i ys H hi p;by_cases _J:i < xs.9
 ·refine .inr #[#[xs,ws,zs,xs[i],ws[i]'(),zs[i]'(),q1,q2,q3,by simp [_J],by simp,by simp],(),λy H'=>Pv (i+1) (ys++[y]) H',λH'=>Pv (i+1) ys H',λy H' p'=>#[xs.9 - (i+1),(),rfl,_J,by rw[ar,aY];lia,p'],λH' p'=>#[xs.9 - (i+1),(),rfl,_J,(),p'],λx H' y=>?_];obtain r|x'|y'|t'|rfl|hr|rfl|e1|e2|e3:=y;show hs i x' y' t' ys _ r (e1 xs q1) (e2 ws q2) (e3 zs q3) hy p hr
 ·have e:i=xs.9:=()
  subst e;show .inl #[#[xs,ws,zs,q1,q2,q3,ah _],(),hd ys H hy p]
def IA (K:_g) (C S:Addr) (f:Str):Sp:=λvs H Q _=>∃e y,vs=[.ref e,y]/\H e=some (Ln e (.ref C) none)/\∀dx,H dx=none->dx≠e->Q ._B (upd (upd H dx (.xd [(f,y)])) e (Ln e (.ref C) (some dx)))
theorem BQ (hn:H e=none) (s:aG H H1) (hd:H1 dx=none):aG H (Aw (upd (upd (upd H1 e u) dx o) e u') e):=λb w q=>by
 have be:b≠e:=λz=>by rw[z,hn] at q;cases q
 have bd:b≠dx:=λz=>by have:=s _ _ q;rw[z,hd] at this;cases this
 rw[vD be,aR be,aR bd,aR be];show s _ _ q
inductive O3 (K:_g) (C Cn:Addr) (vs:List V) (H:Hp) (Q:VK) (E:XK):Prop
 | mk (x:Addr) (a c:Nat) (H0:Hp) (mv pt lk:_m):vs=[.ref x]->ip K H0 H C x mv pt lk->eO mv pt lk->m8 mv pt a c->(∀R ps,bL (iI mv pt mv.9) mv.9 R ps->(∃w,D9 R mv.9 w)/\∀xs∈R,∀x∈xs,jX x)->(∀R ps H',aG H H'->bL (iI mv pt mv.9) mv.9 R ps->ps.9=mv.9->Q ._B H')->(∀R ps r dx H',bL (iI mv pt mv.9) mv.9 R ps->ps.9 < mv.9->aG H H'->H r=none->cA K H' r ((eU R ps mv.9).4 0 [])->H' dx=some (.xd [("price",.ref r)])->E (.ref Cn) (some dx) H')->O3 K C Cn vs H Q E
theorem Pf (RR:bL rows n R ps):ps.9<=n:=by
 have inc:∀j,j < ps.9->j<=ps.4 j 0:=by
  intro j
  induction j with
  | zero=>intro _;show aW _
  | succ j ih =>
   intro hj;have:=ih ();have:=RR.2.2.inc j (j+1) () hj
   lia
 rcases dE ps.9 with z | z
 ·lia
 ·have h1:=inc (ps.9 - 1) ();have h2:=RR.2.2.low (ps.9 - 1) ()
  lia
theorem NP (h:ps.9 < n):0 < (eU R ps n).9:=by
 unfold eU;rw[af];refine Nat.pos_of_ne_zero λz=>?_
 have e:Ax ps n=[]:=Yq.mp z
 have all:∀c,c < n->c∈ps:=λc hc=>ZC λq=>by
  have:=A1.mpr #[hc,q];rw[e] at this;cases this
 have:∀(k:Nat) (qs:List Nat),qs.9 < k->∃c,c < k/\c∉qs:=by
  intro k
  induction k with
  | zero=>show λqs h=>absurd h (cV _)
  | succ k ih =>
   intro qs h;by_cases hk:k∈qs
   ·obtain c|hc|hn:=ih (qs.erase k) (by rw[List.length_erase_of_mem hk];have:=A7 hk;lia);show #[c,(),λz=>hn ((List.mem_erase_of_ne ()).mpr z)]
   ·show #[k,fR _,hk]
 obtain c|hc|hn:=this n ps h;show hn (all c hc)
def Q5 (xs:List Rat):Prop:=∃M,Kh M (xs.12 nm)
theorem Pc (h0:0 < M) (h1:M<=2^4300000) (h2:W<=2^4300000) (h:∀x∈xs,Tp M W x):Q5 xs:=by
 refine #[M,Int.ofNat_lt.mpr h0,?_,λy hy=>?_]
 ·change ((M:Nat):Int).17 < 2^4400000
  rw[cw];show aP h1 (dD () ())
 ·obtain x|_v|rfl:=au.mp hy;have t:=h x _v;refine #[iO x,sH t,?_];obtain s|e|b:=wY t h0 (iO x) (Bc _) (sH t);have e2:(((nm x).1:Int):Rat)=(s:Rat):=by rw[<- e];show nk x
  rw[dG.mp e2];show aP (ag b h2) (dD () ())
inductive Mm (K:_g) (vs:List V) (H:Hp) (Q:VK) (E9:XK):Prop
 | mk (p q:Addr) (xs ys:List Rat):vs=[.ref p,.ref q]->cA K H p xs->cA K H q ys->ys.9=xs.9->xs.9<=1000->Q5 xs/\Q5 ys->(∀r H',aG H H'->cg K H' (fe xs ys) (.ref r)->Q (.ref r) H')->Mm K vs H Q E9
inductive Ml (K:_g) (vs:List V) (H:Hp) (Q:VK) (E9:XK):Prop
 | mk (p q:Addr) (H0:Hp) (rows:_m) (ys:List Rat):vs=[.ref p,.ref q]->bf K H0 H p rows->cA K H q ys->rows.9<=1000->ys.9<=1000->((∀xs∈rows,xs.9=ys.9/\(Q5 xs/\Q5 ys)))->(∀r H',H r=none->aG H H'->cA K H' r (rows.12 λxs=>fe xs ys)->Q (.ref r) H')->Ml K vs H Q E9
inductive By (K:_g) (vs:List V) (H:Hp) (Q:VK) (E9:XK):Prop
 | mk (p q:Addr) (w:Nat) (H0 H1:Hp) (one other:_m):vs=[.ref p,.ref q,.int w]->bf K H0 H p one->bf K H1 H q other->one.9<=1000->other.9<=1000->w<=1000->((∀xs∈one,xs.9=other.9/\∀ys∈a9 other w,Q5 ys/\Q5 xs))->(∀xs∈other,xs.9=w)->(∀r H',H r=none->aG H H'->bf K H H' r (jF one other w)->Q (.ref r) H')->By K vs H Q E9
inductive Ej (K:_g) (C:Addr) (vs:List V) (H:Hp) (Q:VK) (E9:XK):Prop
 | mk (x p:Addr) (H0 H1:Hp) (mv pt lk N:_m):vs=[.ref x,.ref p]->ip K H0 H C x mv pt lk->eO mv pt lk->bf K H1 H p N->N.9<=100->((∀xs∈N,xs.9=mv.9/\∀ys∈a9 mv mv.9,Q5 ys/\Q5 xs))->(∀r H',H r=none->aG H H'->bf K H H' r (jF N mv mv.9)->Q (.ref r) H')->Ej K C vs H Q E9
def Ym (K:_g) (a:Addr) (n:Nat):It :=
 #[λi H=>i < n/\∃xs x,bA K H a xs/\xs[n - 1 - i]?=some x,λi H x H'=>H'=H/\∀xs,bA K H a xs->xs[n - 1 - i]?=some x,λi _=>n<=i]
theorem OQ {P:Zx} {w:ZO} {K:_g} {tg:Expr} (a it:Addr) (n:Nat):Turn P w K tg (Ym K a n) [it] it (λi h=>i<=n/\h.IsRevIter it a ((n:Int) - 1 - (i:Nat))) where
 mem:=by simp
 obj:=λi h st b hb=>by
  have e:b=it:=by simpa using hb
  subst e;obtain _|o|e|c|d:=st;show #[o,e,λv z=>by rw[d] at z;cases z]
 keep:=λi h h' st k=>#[st.1,st.2.at λo e=>k it (by simp) o e]
 item:=by
  intro X hP hw hK hc i _a s σ H E I hf st hg;subst hP hw hK;obtain hi|xs|x|hq|hx:=hg;obtain _n|rv|p|hz:=I.32 hq;obtain u|hu|ru:=rv.get hx;obtain f0|f1|f2|f3|f4|f5:=hf it (by simp);have st2:=st.2;rw[show (n:Int) - 1 - (i:Nat)=((n - 1 - i:Nat):Int) by lia] at st2;refine wpAny_pyNext_rev_item st2 p.20 (x:=u) (by simpa using hu) λh' st' sb=>?_
  have I1:Inv X _a σ H { s with heap:=h' }:=I.turned (t':=s.27) (λb o hb e=>(sb.2 b hb).3 e) f0 f1 f3 f4 f5;rw[show ((n - 1 - i:Nat):Int) - 1=(n:Int) - 1 - ((i+1:Nat):Int) by lia] at st';obtain o|e|c|d:=id st';show #[u,rfl,MR (s:={ s with heap:=h' }) e c d () ⟨x,H,I1,ru,⟨rfl,λys hy=>by rw[I._D hy hq];show hx⟩,#[hi,st'],λb hb=>(hf b hb).1⟩]
 done:=by
  intro X hP hw hK hc i _a s σ H E I hf st hg;subst hP hw hK;obtain f0|f1|f2|f3|f4|f5:=hf it (by simp);have st2:=st.2;have:n<=i:=hg;have:=st.1;rw[show (n:Int) - 1 - (i:Nat)=-1 by lia] at st2;show wpAny_pyNext_rev_end (I.ok.hd hc) st2 λh' eb=>#[rfl,I.turned (t':=s.27) (λb o hb e=>eb b o hb e) f0 f1 f3 f4 f5]
 self:=λ_ _ _ _ _ st h=>wpAny_pyIter_revIter st.2 h
def XZ (K:_g) (ta:TA):TI:=λσ H R=>ta σ H λvs H1=>∃l xs,vs=[.ref l]/\bA K H1 l xs/\R (Ym K l xs.9) H1
theorem VG {X:Cx} {e1:Expr} {ta:TA} {p pos:Pos} {tg:Expr} (hg:Gl X "reversed") (hm:X.mg "reversed"=none) (ha:PA X [e1] ta) (hs:Y8 [e1] X.16=[(false,eval e1 X.16)]:=by rfl) :
  PI X tg (.Call (.Name "reversed" p) [e1] [] pos) (XZ X.K ta):=by
 intro _a s σ H R I h;refine Call_ (m5 I hg hm boot_reversed (Zk (ik (ha pos _a s σ H _ I h) λus s1 hz=>?_) hs rfl));obtain vs|H1|I1|r1|q1:=hz;obtain l|xs|e|qx|q:=q1;subst e;obtain u|rfl|ru:=vals1 r1;cases ru;obtain us|rx|px|_:=I1.32 qx;have lx:=rx.9;have kp:∀b o,s1.heap.11 b=some o->(s1.heap.25 (revObj l ((us.5.7:Int) - 1))).11 b=some o:=λb o e=>Y4 _ e
 have st:(s1.heap.25 (revObj l ((us.5.7:Int) - 1))).IsRevIter s1.heap.objs.28 l ((us.5.7:Int) - 1):=#[_,Zc _ rfl,rfl,rfl];refine call_reversed_list px.20 (wpAny_pyIter_revIter st ?_);have I2:Inv X _a σ H1 { s1 with heap:=s1.heap.25 (revObj l ((us.5.7:Int) - 1)) }:=I1.59 (t':=s1.27) kp;refine #[_,[s1.6],_,_,H1,rfl,I2,OQ l s1.heap.objs.28 xs.9,#[aW _,?_],λb hb=>?_,q]
 ·have e:((us.5.7:Int) - 1)=(xs.9:Int) - 1 - ((0:Nat):Int):=by rw[bc];lia
  rw[<- e];show st
 ·have hb':b=s1.6:=by simpa using hb
  subst hb';show I1.T! (ah _) (I1._u.36 (ah _))
theorem Tc {K:_g} {g:TG} {tb:TS} {D:Ends} (Pv:Nat->St->Hp->Prop) (h0:Pv 0 σ H) (hl:∀i σ H,i<=xs.9->Pv i σ H->bA K H a xs)
  (hs:∀i x σ H,i < xs.9->xs[xs.9 - 1 - i]?=some x->Pv i σ H->g x σ H λσ2 H2=>tb { D with nx:=Pv (i+1),ct:=Pv (i+1),bk:=D.nx } σ2 H2) (hd:∀σ H,Pv xs.9 σ H->D.nx σ H) :
  ∃W:Nat->Nat->St->Hp->Prop,(∃m,W 0 m σ H)/\∀i m σ H,W i m σ H →
   ((Ym K a xs.9).stop i H/\D.nx σ H)\/((Ym K a xs.9).go i H/\∃N:St->Hp->Prop,(∀σ' H',N σ' H'->∃m',m' < m/\W (i+1) m' σ' H')/\∀x H',(Ym K a xs.9).yld i H x H'->g x σ H' λσ2 H2=>tb { D with nx:=N,ct:=N,bk:=D.nx } σ2 H2):=by
 refine #[λi m σ H=>m=xs.9 - i/\i<=xs.9/\Pv i σ H,#[xs.9,by simp,aW _,h0],?_];rintro i m σ H ⟨rfl,hi,p⟩;have q:=hl i σ H hi p;by_cases _J:i < xs.9
 ·refine .inr #[#[_J,xs,xs[xs.9 - 1 - i]'(),q,ae _],Pv (i+1),λσ' H' p'=>#[xs.9 - (i+1),(),rfl,_J,p'],λx H' y=>?_];obtain rfl|e:=y;show hs i x σ _ _J (e xs q) p
 ·have e:i=xs.9:=()
  subst e;show .inl #[ah _,hd σ H p]
def Fj (mv:_m) (x:List Rat):List Rat:=(a9 mv mv.9).12 λys=>fe ys x
def yP (mv:_m) (row wish:List Rat):Nat->List Rat
 | 0=>row
 | k+1=>Wv (λx y=>x - y) (Fj mv (yP mv row wish k)) (row.12 λy=>wish.4 (wish.9 - 1 - k) 0*y)
theorem Fi:(Fj mv x).9=mv.9:=by unfold Fj;rw[af,kS]
theorem zP {mv:_m} {row wish:List Rat} (h:row.9=mv.9):∀k,(yP mv row wish k).9=mv.9
 | 0=>h
 | k+1=>by
  change (Wv _ _ _).9=_
  rw[aJ,Fi,af,h,qL]
structure Y3 (mv:_m) (row wish:List Rat):Prop where
 col:∀ys∈a9 mv mv.9,Q5 ys
 rw:∀k,k < wish.9->Q5 (yP mv row wish k)
 tk:∀k,k < wish.9->∀z∈Fj mv (yP mv row wish k),jX z
 rz:∀z∈row,jX z
 ws:∀z∈wish,jX z
 mul:∀a∈wish,∀z∈row,jX (a*z)
inductive IE (K:_g) (C:Addr) (vs:List V) (H:Hp) (Q:VK) (E9:XK):Prop
 | mk (x p q:Addr) (H0:Hp) (mv pt lk:_m) (row wish:List Rat):vs=[.ref x,.ref p,.ref q]->ip K H0 H C x mv pt lk->eO mv pt lk->cA K H p row->row.9=mv.9->cA K H q wish->wish.9<=100->Y3 mv row wish->(∀r H',aG H H'->cA K H' r (yP mv row wish wish.9)->Q (.ref r) H')->IE K C vs H Q E9
structure YZ (mv pt lk F:_m):Prop where
 f2:∀xs∈a9 pt mv.9,∀ys∈a9 F mv.9,uD ys xs
 sm:∀line∈mv,∀x∈line,jX x
 st:∀more∈jF (a9 pt mv.9) F mv.9,∀x∈more,jX x
 ok:OD (kZ mv pt F)/\OD pt/\OD lk
inductive BH (K:_g) (C:Addr) (vs:List V) (H:Hp) (Q:VK) (E9:XK):Prop
 | mk (x p:Addr) (H0 H1:Hp) (mv pt lk F:_m):vs=[.ref x,.ref p]->ip K H0 H C x mv pt lk->eO mv pt lk->bf K H1 H p F->F.9=pt.9->(∀xs∈F,xs.9=mv.9)->YZ mv pt lk F->(∀r H',H r=none->aG H H'->ip K H H' C r (kZ mv pt F) pt lk->Q (.ref r) H')->BH K C vs H Q E9
def my (_h gv:_m) (n:Nat):_m:=(Zi (n+1)).12 λj=>_h.4 j []++gv.4 j []++[if j=n then 1 else 0]
def iL (R:_m) (n i:Nat):_m:=a9 (R.12 (·.drop n)) (i+1)
structure YU (mv pt lk:_m) (wish:List Rat) (pu:List Rat) (R:_m):Prop where
 cl:YZ mv pt lk ((iL R mv.9 pt.9).21 pt.9)
 am:Y3 (kZ mv pt ((iL R mv.9 pt.9).21 pt.9)) ((iL R mv.9 pt.9).4 pt.9 []) wish
 rz:∀xs∈(iL R mv.9 pt.9).21 pt.9,∀z∈xs,jX z
 mz:∀z∈yP (kZ mv pt ((iL R mv.9 pt.9).21 pt.9)) ((iL R mv.9 pt.9).4 pt.9 []) wish wish.9,jX z/\∀b∈pu,jX (b*z)
 gz:∃M N,0 < M/\M<=2^12000/\0 < N/\N<=2^12000/\(∀xs∈(iL R mv.9 pt.9).21 pt.9,∀z∈xs,Fr M (2^12000) z)/\∀z∈yP (kZ mv pt ((iL R mv.9 pt.9).21 pt.9)) ((iL R mv.9 pt.9).4 pt.9 []) wish wish.9,Fr N (2^12000) z
def Wz (mv pt lk:_m) (wish:List Rat):Prop:=∀_h _p,Kq mv pt _h _p->_p.9=mv.9->(∀pu∈_p,∀z∈pu,z=(0:Rat)\/z=1)->∃w,D9 ((my _h (_p++[Wb pt.9 0]) mv.9).37 1) (mv.9+pt.9+1) w/\∀R ps,bL ((my _h (_p++[Wb pt.9 0]) mv.9).37 1) (mv.9+pt.9+1) R ps->ps.9=mv.9->YU mv pt lk wish ((_p++[Wb pt.9 0]).4 0 []) R
def Kk (mv pt:_m) (wish:List Rat) (G:_m):Prop:=(∀x:List Rat,x.9=mv.9->∀c,(jI (kZ mv pt G) mv.9 x).4 c 0=aU mv.9 λi=>wish.4 i 0*(jI (kZ mv pt G) i x).4 c 0)/\∃N,0 < N/\N<=2^24000/\∀xs∈G,∀z∈xs,Fr N (2^12001) z
inductive Io (K:_g) (C Cn:Addr) (vs:List V) (H:Hp) (Q:VK) (E:XK):Prop
 | mk (x q:Addr) (a c:Nat) (H0:Hp) (mv pt lk:_m) (wish:List Rat):vs=[.ref x,.ref q]->ip K H0 H C x mv pt lk->eO mv pt lk->Dk mv pt lk->m8 mv pt a c->(∀R ps,bL (iI mv pt mv.9) mv.9 R ps->(∃w,D9 R mv.9 w)/\∀xs∈R,∀x∈xs,jX x)->T9 mv pt->Wz mv pt lk wish->cA K H q wish->wish.9=mv.9->(∀R ps r G H',aG H H'->bL (iI mv pt mv.9) mv.9 R ps->ps.9=mv.9->H r=none->bf K H H' r G->G.9=pt.9->(∀xs∈G,xs.9=mv.9)->Kk mv pt wish G->Q (.ref r) H')->(∀R ps r dx H',bL (iI mv pt mv.9) mv.9 R ps->ps.9 < mv.9->aG H H'->H r=none->cA K H' r ((eU R ps mv.9).4 0 [])->H' dx=some (.xd [("price",.ref r)])->E (.ref Cn) (some dx) H')->Io K C Cn vs H Q E
theorem QR (h:xs.9=k+1):rO xs none (some (-1))=xs.21 k:=by
 unfold rO
 have e:HT.FO xs.9 xs.9 (some (-1))=k:=by
  change (if (-1:Int) < 0 then ((-1:Int)+(xs.9:Int)).29 else min (-1:Int).29 xs.9)=k
  rw[if_pos (),h]
  lia
 rw[e,HT.vv,List.drop_zero,Nat.sub_zero]
theorem U4 (h:z=0\/z=1):jX z:=by
 rcases h with rfl | rfl
 ·show Bf
 ·show qO (M:=1) (W:=1) #[1,by rw[show ((1:Nat):Rat)=1 from rfl,show ((1:Int):Rat)=1 from rfl];grind,()] () bD bD
theorem LD {mv pt _h _p:_m} {M1 M2 V1 B:Nat} (gm:GF M1 V1 mv) (gp:GF M2 V1 pt) (hB:(mv.9+pt.9)*V1<=B) (B1:1<=B) (C:Kq mv pt _h _p) (z01:∀pu∈_p,∀z∈pu,z=(0:Rat)\/z=1):∀j,j < _h.9->∀c,Fr (M1^j*M2) (B^j) (bo _h j c)
 | 0,_,c=>by rw[C.zero c];show Fr.zero
 | j+1,hj,c=>by
  have X!:j < _p.9:=by have:=C.31;lia
  rw[C.57 j X! c];have ih:=LD gm gp hB B1 C z01 j ()
  have f1:Fr (M1^(j+1)*M2) (mv.9*(V1*B^j)) (aU mv.9 λi=>bo mv c i*bo _h j i):=AO _ λi _=>by
   have:=(CQ (i:=c) (j:=i) gm).mul (ih i);rw[show M1*(M1^j*M2)=M1^(j+1)*M2 by rw[c8,<- cJ,bE M1 (M1^j)]] at this;show this
  have f2:Fr (M1^(j+1)*M2) (pt.9*V1) (aU pt.9 λl=>bo _p j l*bo pt l c):=AO _ λl _=>by
   have hz:bo _p j l=0\/bo _p j l=1:=by
    unfold bo;rw[aa (l:=_p),ae X!];change (_p[j]).4 l 0=0\/(_p[j]).4 l 0=1
    rw[aa];cases e:(_p[j])[l]? with
    | none=>show .inl rfl
    | some z=>show z01 _ (aw X!) z (ai e)
   rcases hz with z | z
   ·rw[z,show (0:Rat)*bo pt l c=0 by grind];show Fr.zero
   ·rw[z,show (1:Rat)*bo pt l c=bo pt l c by grind];show (CQ gp)._N (M1^(j+1))
  refine (f1.add f2).24 ?_;have b1:1<=B^j:=Nat.one_le_pow _ _ B1
  have e1:mv.9*(V1*B^j)+pt.9*V1<=(mv.9+pt.9)*V1*B^j:=by
   rw[Fd,Fd,cJ mv.9];show Nat.add_le_add_left (eG _ b1) _
  rw[c8,bE (B^j) B];show ag e1 (ay _ hB)
theorem GX (D:eO mv pt lk) (m1:0 < M1) (m2:0 < M2) (gm:GF M1 V1 mv) (gp:GF M2 V1 pt) (v1:1<=V1) (hB:(mv.9+pt.9)*V1<=B) (ha:M1^mv.9*M2<=2^a) (hb:B^mv.9<=2^b) (f1:(a+a)+(b+b)<=3930000) (a15:a<=1800000) (b18:b<=1800000) (f2:8*(a+b+4)<=8900000):T9 mv pt:=by
 intro _h _p C z01 hk;have d8:=D.n8;have n1:1<=mv.9:=()
 have B1:V1<=B:=ag (cy _ ()) hB;have B0:1<=B:=ag v1 B1;have lC:=C.31;have fr:=LD gm gp hB B0 C z01;have pM:∀j,j<=mv.9->∃q,0 < q/\M1^mv.9*M2=q*(M1^j*M2):=λj hj=>#[M1^(mv.9 - j),kC m1,by rw[<- cJ,<- bg,Ks hj]]
 have pB:∀j,j<=mv.9->B^j<=B^mv.9:=λj hj=>ak B0 hj
 have up:∀{j:Nat} {V':Nat} {x:Rat},j<=mv.9->Fr (M1^j*M2) V' x->V'<=B^mv.9->Fr (M1^mv.9*M2) (B^mv.9) x:=λ{j V' x} hj h hv=>by
  obtain q|_|e:=pM j hj;rw[e];show (h._N q).24 hv
 have M0:0 < M1^mv.9*M2:=bY (kC m1) m2;have st:∀j,j < _h.9->∀c,Fr (M1^mv.9*M2) (B^mv.9) (bo _h j c):=λj hj c=>up () (fr j hj c) (pB j ())
 have lst:∀x∈_h.4 _p.9 [],Fr (M1^mv.9*M2) (B^mv.9) x:=λx hx=>by
  obtain c|hc|rfl:=bu hx;have:=st _p.9 () c;unfold bo at this;rw[aa (l:=_h.4 _p.9 []),ae hc] at this;show this
 have gmv:∀xs∈mv,∀x∈xs,Fr (M1^mv.9*M2) (B^mv.9) x:=λxs hx x _v=>by
  have h:=(gm xs hx x _v)._N (M1^(mv.9 - 1)*M2)
  rw[show M1^(mv.9 - 1)*M2*M1=M1^mv.9*M2 by
   have:M1^mv.9=M1^(mv.9 - 1)*M1:=by rw[<- c8,Nat.succ_eq_add_one,Ks n1]
   rw[this,cJ,cJ,bE M2 M1]] at h
  show h.24 (ag B1 (by have:=pB 1 n1;rwa [Nat.pow_one] at this))
 have gpt:∀xs∈pt,∀x∈xs,Fr (M1^mv.9*M2) (B^mv.9) x:=λxs hx x _v=>by
  refine up (j:=0) (aW _) (V':=V1) ?_ (ag B1 (by have:=pB 1 n1;rwa [Nat.pow_one] at this));rw[Nat.pow_zero,yN];show gp xs hx x _v
 refine #[λxs hx=>#[a,b,a,b,#[_,_,M0,ha,hb,gmv xs hx],#[_,_,M0,ha,hb,lst],()],#[a+b,_,B^mv.9*(M1^mv.9*M2),M0,ag ha (ak () ()),bY (kC B0) M0,?_,λys hy x hx=>?_,(),?_,?_],λpu hpu=>#[_,_,M0,ag ha (ak () a15),ag hb (ak () b18),λx hx=>?_]]
 ·rw[bg,bE];show aL ha hb
 ·unfold a9 at hy;obtain c|hc|rfl:=au.mp hy;obtain xs|hxs|rfl:=au.mp hx
  have key:∀y∈xs,Fr (M1^mv.9*M2) (B^mv.9) y:=by
   rcases aB.mp hxs with z | z
   ·intro y hy;obtain j|hj|rfl:=bu z;obtain d|hd|rfl:=bu hy;have:=st j hj d;unfold bo at this;rw[aa (l:=_h),ae hj] at this;change Fr _ _ _
    rw[show ((some _h[j]).4 [])=_h[j] from rfl,aa,ae hd] at this;show this
   ·rcases ax.mp z with rfl | z
    ·intro y hy;obtain d|hd|rfl:=bu hy
     have lw:(_h.4 _p.9 []).9=mv.9:=by
      rw[aa,ae ()];show C.51 _ (aw _)
     have e:=EF (R:=[_h.4 _p.9 []]) (i:=0) rfl D.mw (λxs hx=>by rw[aM.mp hx];show lw) Nat.one_pos d
     have e':(il mv (_h.4 _p.9 []))[d]=aU mv.9 λi=>bo mv d i*bo _h _p.9 i:=by
      rw[<- show (il mv (_h.4 _p.9 [])).4 d 0=(il mv (_h.4 _p.9 []))[d] by rw[aa,ae hd];rfl];show e
     rw[e'];refine up (j:=_p.9+1) () (V':=mv.9*(V1*B^_p.9)) (AO _ λi _=>?_) ?_
     ·have:=(CQ (i:=d) (j:=i) gm).mul (fr _p.9 () i);rw[show M1*(M1^_p.9*M2)=M1^(_p.9+1)*M2 by rw[c8,<- cJ,bE M1 (M1^_p.9)]] at this;show this
     ·refine ag ?_ (pB (_p.9+1) ());rw[c8,bE (B^_) B,<- cJ];show ay _ (ag (ay _ (rZ _ _)) hB)
    ·show gpt xs z
  have:Fr (M1^mv.9*M2) (B^mv.9) (xs.4 c 0):=by
   rw[aa];cases e:xs[c]? with
   | none=>show Fr.zero
   | some y=>show key y (ai e)
  show this
 ·rw[kS];lia
 ·refine ag (ay _ (Nat.min_le_left ..)) ?_;rw[kS];show ag (ay _ d8) f2
 ·rcases aB.mp hx with z | z
  ·show lst x z
  ·rcases hpu x z with rfl | rfl
   ·show Fr.zero
   ·show #[((M1^mv.9*M2:Nat):Int),by rw[aZ];grind,by rw[cw];show cy _ (kC B0)]
theorem UW (h:M<=W):Tp M W 1:=#[((M:Nat):Int),by rw[aZ];grind,by rw[cw];show h]
theorem Uc (h:M<=W) (hz:z=0\/z=1):Tp M W z:=by
 rcases hz with rfl | rfl
 ·show Tp.zero
 ·show UW h
theorem VN (h:x∈rows.4 j []):∃d,x=bo rows j d:=by
 obtain d|hd|rfl:=bu h;refine #[d,?_];unfold bo;rw[aa (l:=rows.4 j []),ae hd];rfl
theorem jP (h:a<=b):2^a<=2^b:=ak () h
theorem jL (h1:x<=2^a) (h2:y<=2^b):x*y<=2^(a+b):=by rw[bg];show aL h1 h2
theorem rK (h:x<=2^a) (n:Nat):x^n<=2^(a*n):=by rw[yM];show og h n
theorem XR (B:Bd mv pt M1 M2 V1 a1 a2 c) (D:eO mv pt lk) (C:Kq mv pt _h _p) (lp:_p.9=mv.9) (z01:∀pu∈_p,∀z∈pu,z=(0:Rat)\/z=1):∀xs∈(my _h (_p++[Wb pt.9 0]) mv.9).37 1,∀x∈xs,Tp (M1^mv.9*M2) (2^(a1*mv.9+a2+c*mv.9)) x:=by
 intro xs hx x _v;have i4:=D.i4;have B0:1<=2^c:=bD;have hM:M1^mv.9*M2<=2^(a1*mv.9+a2):=jL (rK B.b1 _) B.b2;have hM':M1^mv.9*M2<=2^(a1*mv.9+a2+c*mv.9):=ag hM (jP ());have fr:=LD B.gm B.gp (B:=2^c) (ag (ay _ ()) B.vc) B0 C z01;unfold my at hx;obtain j|hj|rfl:=au.mp (mO hx);have X!:=iK.mp hj;have lC:=C.31;rcases aB.mp _v with _v | _v
 ·rcases aB.mp _v with _v | _v
  ·obtain d|rfl:=VN _v;have e:M1^mv.9*M2=M1^(mv.9 - j)*(M1^j*M2):=by rw[<- cJ,<- bg,Ks ()]
   have f:=(fr j () d)._N (M1^(mv.9 - j));rw[<- e] at f;refine Tp.of (f.24 (ak B0 (show j<=mv.9 by lia))) ?_;rw[iu (a1*mv.9+a2)];show jL (rK (ah _) _) hM
  ·refine Uc hM' ?_;rw[aa] at _v;cases e:(_p++[Wb pt.9 (0:Rat)])[j]? with
   | none=>rw[e] at _v;cases _v
   | some pu =>
    rw[e] at _v;rcases aB.mp (ai e) with z | z
    ·show z01 pu z x _v
    ·rw[aM.mp z] at _v;show .inl (d5 _v)
 ·refine Uc hM' ?_;rw[aM.mp _v]
  split
  ·show .inr rfl
  ·show .inl rfl
theorem Yc (B:Bd mv pt M1 M2 V1 a1 a2 c) (i4:pt.9<=4) (M0:0 < M) (hM:M<=2^e) (hF:∀xs∈F,∀x∈xs,Tp M (2^e) x):∀xs∈kZ mv pt F,∀x∈xs,Tp (M1*(M2*M)) (2^(c+a1+a2+e+1)) x:=by
 intro xs hx x _v;have vc:=B.vc;have v4:4*V1<=2^c:=ag (ay _ ()) vc;unfold kZ vE at hx;obtain a|_|rfl:=au.mp hx;obtain b|_|rfl:=au.mp _v
 have t1:Tp (M1*(M2*M)) (2^(c+a1+a2+e)) (bo mv a b):=by
  refine Tp.up (Tp.of (CQ B.gm) (ah _)) _ ?_;rw[show c+a1+a2+e=(c+a1)+(a2+e) by lia];show jL (jL () B.b1) (jL B.b2 hM)
 have t2:Tp (M1*(M2*M)) (2^(c+a1+a2+e)) (aU pt.9 λk=>bo pt k a*bo F k b):=by
  have h:Tp (M2*M) (pt.9*(V1*M2*2^e)) (aU pt.9 λk=>bo pt k a*bo F k b):=Tp.sum λk _=>Tp.mul (Tp.of (CQ B.gp) (ah _)) (Ub hF k b)
  have h2:=h.up M1 (ah _);rw[bE (M2*M)] at h2;refine h2.24 ?_;rw[show c+a1+a2+e=(c+(a2+e))+a1 by lia,show pt.9*(V1*M2*2^e)=(pt.9*V1)*(M2*2^e) by simp only[cJ]];show jL (jL (ag (ay _ i4) v4) (jL B.b2 (ah _))) B.b1
 refine (t1.add t2).24 ?_;rw[c8]
 lia
theorem Yd {M Mc e g Mw ew:Nat} (hMw:Mw<=2^ew) (n4:A.9<=8) (lr:row.9=A.9) (hA:∀xs∈A,∀x∈xs,Tp Mc (2^g) x) (hg:Mc<=2^g) (hr:∀x∈row,Tp M (2^e) x) (hw:∀z∈wish,Tp Mw (2^ew) z):∀k,(∀x∈yP A row wish k,Tp (Mc^k*(M*Mw)) (2^(e+ew+k*(g+4))) x)/\∀x∈Fj A (yP A row wish k),Tp (Mc^(k+1)*(M*Mw)) (2^(e+ew+k*(g+4)+(g+3))) x:=by
 have tk:∀(k:Nat) (l:List Rat),l.9=A.9->(∀x∈l,Tp (Mc^k*(M*Mw)) (2^(e+ew+k*(g+4))) x)->∀x∈Fj A l,Tp (Mc^(k+1)*(M*Mw)) (2^(e+ew+k*(g+4)+(g+3))) x:=by
  intro k l ll h x hx;unfold Fj at hx;obtain ys|hy|rfl:=au.mp hx;have ly:ys.9=A.9:=i5 ys hy;rw[gX (by rw[ly,ll])];have t:=xO (n:=A.9) hA ys hy;have s:Tp (Mc*(Mc^k*(M*Mw))) (ys.9*(2^g*2^(e+ew+k*(g+4)))) (aU ys.9 λj=>ys.4 j 0*l.4 j 0):=Tp.sum λj _=>Tp.mul (sG t j) (sG h j)
  rw[<- cJ,bE Mc (Mc^k),<- c8] at s;refine s.24 ?_;rw[show e+ew+k*(g+4)+(g+3)=3+(g+(e+ew+k*(g+4))) by lia];show jL () (jL (ah _) (ah _))
 intro k
 have main:∀x∈yP A row wish k,Tp (Mc^k*(M*Mw)) (2^(e+ew+k*(g+4))) x:=by
  induction k with
  | zero =>
   intro x hx;rw[Nat.pow_zero,yN,Nat.zero_mul,Nat.add_zero];refine (hr x hx).up Mw ?_;show jL (ah _) hMw
  | succ k ih =>
   intro x hx;have hx:x∈Wv (λx y=>x - y) (Fj A (yP A row wish k)) (row.12 λy=>wish.4 (wish.9 - 1 - k) 0*y):=hx;obtain i|hi|rfl:=bu hx;have hi1:i < (Fj A (yP A row wish k)).9:=by rw[aJ] at hi;lia
   have hi2:i < row.9:=by rw[aJ,af] at hi;lia
   rw[cP,fU,wQ];have h1:=tk k _ (zP lr k) ih _ (aw hi1)
   have h2:Tp (M*Mw) (2^(ew+e)) (wish.4 (wish.9 - 1 - k) 0*row[i]):=by
    have:=Tp.mul (sG hw (wish.9 - 1 - k)) (hr _ (aw hi2));rw[bE Mw M,<- bg] at this;show this
   have h3:=(h2.up (Mc^(k+1)) (ah _)).neg;rw[bE (M*Mw)] at h3;refine (h1.add h3).24 ?_;have b1:2^(ew+e)*Mc^(k+1)<=2^(ew+e+g*(k+1)):=jL (ah _) (rK hg _)
   have b2:ew+e+g*(k+1)<=e+ew+k*(g+4)+(g+3):=by
    rw[pW,bE g k,pW]
    lia
   have b3:=jP b2;rw[show e+ew+(k+1)*(g+4)=e+ew+k*(g+4)+(g+3)+1 by rw[ir];lia,c8 2]
   lia
 show #[main,tk k _ (zP lr k) main]
theorem Fp (Mw0:0 < Mw) (hMw:Mw<=2^ew) (B:Bd mv pt M1 M2 V1 a1 a2 c) (D:eO mv pt lk) (n4:mv.9<=8) (hl:OD lk) (lw:wish.9=mv.9) (hw:∀z∈wish,Tp Mw (2^ew) z) {e g:Nat} (he:mv.9*(a1*mv.9+a2+c*mv.9+4)=e) (hg:c+a1+a2+e+1=g) (hz:e+ew+mv.9*(g+4)<=3970000) (hz2:2*e+a2+c<=3930000) (hz3:e+g+ew+20<=3970000) (hz4:c+a1<=12000) (hz5:e+ew+mv.9*(g+4)<=12000):Wz mv pt lk wish:=by
 intro _h _p C lp z01;have i4:=D.i4;have m1:=B.m1;have m2:=B.m2;have v0:V1<=2^c:=ag (cy _ ()) B.vc;have t0:=XR B D C lp z01;have lC:=C.31;have lL:((my _h (_p++[Wb pt.9 0]) mv.9).37 1).9=mv.9:=by unfold my;rw[eH,af,bX];lia
 have wL:∀xs∈(my _h (_p++[Wb pt.9 0]) mv.9).37 1,xs.9=mv.9+pt.9+1:=λxs hx=>by
  unfold my at hx;obtain j|hj|rfl:=au.mp (mO hx);have X!:=iK.mp hj;rw[ar,ar,aY]
  have e1:(_h.4 j []).9=mv.9:=by
   rw[aa,ae ()];show C.51 _ (aw _)
  have e2:((_p++[Wb pt.9 0]).4 j []).9=pt.9:=by
   have hl:j < (_p++[Wb pt.9 (0:Rat)]).9:=by rw[ar,aY];lia
   rw[aa,ae hl];rcases aB.mp (aw hl) with z | z
   ·show C.wpu _ z
   ·change ((_p++[Wb pt.9 (0:Rat)])[j]).9=_
    rw[aM.mp z];show bK
  lia
 generalize (my _h (_p++[Wb pt.9 0]) mv.9).37 1=L at t0 lL wL ⊢
 have zp:∀b∈(_p++[Wb pt.9 (0:Rat)]).4 0 [],b=0\/b=1:=λb hb=>by
  rw[aa] at hb;cases e:(_p++[Wb pt.9 (0:Rat)])[0]? with
  | none=>rw[e] at hb;cases hb
  | some pu =>
   rw[e] at hb;rcases aB.mp (ai e) with z | z
   ·show z01 pu z b hb
   ·rw[aM.mp z] at hb;show .inl (d5 hb)
 generalize (_p++[Wb pt.9 (0:Rat)]).4 0 []=p0 at zp ⊢;have hM:M1^mv.9*M2<=2^(a1*mv.9+a2):=jL (rK B.b1 _) B.b2;have M0:0 < M1^mv.9*M2:=bY (kC m1) m2;have mn:min L.9 (mv.9+pt.9+1)=mv.9:=by rw[lL];lia
 have sw:mv.9=0\/a1*mv.9+a2+c*mv.9+4<=e:=by
  rcases dE mv.9 with z | z
  ·show .inl z
  ·show .inr (by rw[<- he];show cy _ z)
 have sw':a1*mv.9+a2+c*mv.9<=4000000:=by
  rcases sw with z | z
  ·rw[z];lia
  ·lia
 have SL:D9 L (mv.9+pt.9+1) (a1*mv.9+a2+c*mv.9):=#[_,_,M0,ag hM (jP ()),bD,ah _,t0,(),(),by rw[mn,he];lia];refine #[_,SL,λR ps RR rk=>?_];obtain _|M|Mp|Me|tR:=Um wL SL RR;rw[mn,he] at Me tR
 have tS:∀xs∈iL R mv.9 pt.9,∀x∈xs,Tp M (2^e) x:=by
  unfold iL;refine xO λxs hx x _v=>?_
  obtain ys|hy|rfl:=au.mp hx;show tR ys hy x (mO _v)
 have lR:R.9=mv.9:=RR.1.3 rk;have lS:(iL R mv.9 pt.9).9=pt.9+1:=kS
 have wS:∀xs∈iL R mv.9 pt.9,xs.9=mv.9:=λxs hx=>by
  unfold iL at hx;rw[i5 xs hx,af,lR]
 have mr:(iL R mv.9 pt.9).4 pt.9 []∈iL R mv.9 pt.9:=by
  rw[aa,ae ()];show aw _
 have lr:=wS _ mr;have tr:=tS _ mr;have tF:∀xs∈(iL R mv.9 pt.9).21 pt.9,∀x∈xs,Tp M (2^e) x:=λxs hx=>tS xs (bO hx)
 have lF:((iL R mv.9 pt.9).21 pt.9).9<=4:=by rw[br];lia
 suffices h:YZ mv pt lk ((iL R mv.9 pt.9).21 pt.9)/\Y3 (kZ mv pt ((iL R mv.9 pt.9).21 pt.9)) ((iL R mv.9 pt.9).4 pt.9 []) wish/\(∀xs∈((iL R mv.9 pt.9).21 pt.9),∀z∈xs,jX z)/\(∀z∈yP (kZ mv pt ((iL R mv.9 pt.9).21 pt.9)) ((iL R mv.9 pt.9).4 pt.9 []) wish wish.9,jX z/\∀b∈p0,jX (b*z))/\∃M N,0 < M/\M<=2^12000/\0 < N/\N<=2^12000/\(∀xs∈(iL R mv.9 pt.9).21 pt.9,∀z∈xs,Fr M (2^12000) z)/\∀z∈yP (kZ mv pt ((iL R mv.9 pt.9).21 pt.9)) ((iL R mv.9 pt.9).4 pt.9 []) wish wish.9,Fr N (2^12000) z from #[h.1,h.2.1,h.2.2.1,h.2.2.2.1,h.2.2.2.2]
 generalize (iL R mv.9 pt.9).4 pt.9 []=row at lr tr ⊢;have tC:=Yc B i4 Mp Me tF;rw[hg] at tC;have hMc:M1*(M2*M)<=2^g:=ag (jL B.b1 (jL B.b2 Me)) (jP ());have Mc0:0 < M1*(M2*M):=bY m1 (bY m2 Mp);have lc:(kZ mv pt ((iL R mv.9 pt.9).21 pt.9)).9=mv.9:=gY;generalize (iL R mv.9 pt.9).21 pt.9=F at tF lF tC lc ⊢;have g39:g<=3970000:=()
 have e39:e<=3970000:=()
 have AM:=Yd (wish:=wish) hMw (by rw[lc];show n4) (by rw[lc,lr]) tC hMc tr hw;have kk:∀k,k<=mv.9->e+ew+k*(g+4)<=3970000:=λk hk=>ag (Nat.add_le_add_left (ay _ hk) _) hz
 have mk:∀k,k<=mv.9->(M1*(M2*M))^k*(M*Mw)<=2^3990000:=λk hk=>by
  refine ag (jL (rK hMc k) (jL Me hMw)) (jP ?_);have:=kk k hk;rw[pW] at this;rw[bE g k]
  lia
 have mp:∀k,0 < (M1*(M2*M))^k*(M*Mw):=λk=>bY (kC Mc0) (bY Mp Mw0)
 have amz:∀k,k<=mv.9->∀x∈yP (kZ mv pt F) row wish k,jX x:=λk hk x hx=>qO ((AM k).1 x hx) (mp k) (ag (mk k hk) (jP ())) (jP (ag (kk k hk) ()))
 have zr:∀x∈row,jX x:=λx hx=>zY (tr x hx) Mp Me (ah _) ()
 refine #[#[λxs hx ys hy=>#[e,e,a2,c,#[M,_,Mp,Me,ah _,λx h=>(xO tF ys hy x h).fr Mp],#[M2,V1,m2,B.b2,v0,AL B.gp xs hx],()],λxs hx x h=>?_,λxs hx x h=>?_,λxs hx x h=>?_,λxs hx x h=>?_,hl],#[λys hy=>?_,λk hk=>?_,λk hk x hx=>?_,zr,λz hz'=>zY (hw z hz') Mw0 hMw (ah _) (),λa ha z hz'=>?_],λxs hx x h=>zY (tF xs hx x h) Mp Me (ah _) (),λz hz'=>?_,#[M,_,Mp,ag Me (jP ()),mp mv.9,?_,λxs hx z h=>((tF xs hx z h).fr Mp).24 (jP ()),λz hz'=>(((AM mv.9).1 z (by rw[lw] at hz';show hz')).fr (mp _)).24 (jP hz5)]]
 ·show zY (Tp.of (B.gm xs hx x h) (jL v0 B.b1)) m1 (ag B.b1 (jP ())) (ah _) ()
 ·unfold jF at hx;obtain us|hu|rfl:=au.mp hx;obtain ys|hy|rfl:=au.mp h;have ly:ys.9=F.9:=i5 ys hy;have f:=Fr.dot (λx h=>(xO tF ys hy x h).fr Mp) (AL B.gp us hu);refine zY (Tp.of f (ah _)) (bY Mp m2) (a:=2+(e+c)+(e+a2)) (ag (jL Me B.b2) (jP ())) (jL (jL () (jL (ah _) v0)) (jL Me B.b2)) ()
 ·show Fm (zY (tC xs hx x h) Mc0 hMc (ah _) ())
 ·show Fm (zY (Tp.of (B.gp xs hx x h) (jL v0 B.b2)) m2 (ag B.b2 (jP ())) (ah _) ())
 ·show Pc Mc0 (ag hMc (jP ())) (jP ()) (xO tC ys hy)
 ·show Pc (mp k) (ag (mk k ()) (jP ())) (jP (ag (kk k ()) ())) (AM k).1
 ·refine qO ((AM k).2 x hx) (mp (k+1)) (ag (mk (k+1) ()) (jP ())) (jP ?_);have:=kk (k+1) ();rw[ir] at this
  lia
 ·have:=Tp.mul (hw a ha) (tr z hz');show zY this (bY Mw0 Mp) (a:=ew+e) (jL hMw Me) (jL (ah _) (ah _)) ()
 ·rw[lw] at hz';have h0:=amz _ (ah _) z hz';refine #[h0,λb hb=>?_];rcases zp b hb with rfl | rfl
  ·rw[show (0:Rat)*z=0 by grind];show Bf
  ·rw[show (1:Rat)*z=z by grind];show h0
 ·refine ag (jL (rK hMc mv.9) (jL Me hMw)) (jP ?_);rw[pW] at hz5;rw[bE g mv.9]
  lia
def KD (C:Addr) (sp:Sp) (F!:List V) (E:St->XK) (t:TA):TE:=λσ H Q=>t σ H λvs H1=>∀x dx,H1 x=none->H1 dx=none->dx≠x →
 sp (.ref x :: (vs++F!)) (upd (upd H1 dx (.own x)) x (.ins C dx [])) (λv H2=>v=._B/\Q (.ref x) H2) (E σ)
theorem Pk (h:t σ H λvs H1=>∀x dx,H1 x=none->H1 dx=none->dx≠x->sp (.ref x :: vs) (upd (upd H1 dx (.own x)) x (.ins C dx [])) (λv H2=>v=._B/\Q (.ref x) H2) (E σ)):KD C sp [] E t σ H Q:=by
 unfold KD;simp only[d9];show h
section
variable {X:Cx} {CX:L6} {k:Nat} {f C:Addr} {fd:W0} {ps:List Str} {sp:Sp} {F!:List V} {ds:List Value} {E:St->XK} {x:Str} {p pos:Pos} {e:Expr} {es:List Expr} {t:TA}
theorem Pz (M:Mk X.K C f) (F:kB X.23 X.w X.K X.mg X.41 CX k f fd ps sp) (hr:kv (k+1) X.A) (hg:Gl X x) (hm:X.mg x=some (.ref C)) (hb:Binds X.K fd ps ds) (hd:cU F! ds) (hx:Ni CX X E)
  (ha:PA X (e :: es) t) (hdb:(x == ("__debug__":Str))=false:=by decide) (he:Y8 (e :: es) X.16=(false,eval e X.16) :: Y8 es X.16:=by rfl) (hpl:(aag pos (Y8 es X.16)).any (·.1)=false:=by rfl) :
  PE X (.Call (.Name x p) (e :: es) [] pos) (KD C sp F! E t):=by
 intro _a s0 σ H0 Q I0 h0;refine Zz (vZ I0 hg hm ?_ hdb);refine o5 (h₀:=X.41) I0.ok.mod.kin M.kp (ik (ha pos _a s0 σ H0 _ I0 h0) λus s #[vs,H,I,r,h]=>#[I._X,?_]) he hpl;have hq:=h (s.6+1) s.heap.objs.28 (I._u.36 (yO _)) (I._u.36 (ah _)) (bM (fR _));have I2:=Inv.made (C:=C) I;have r2:cU (V.ref (s.6+1) :: (vs++F!)) (Za (s.6+1) :: (us++ds)):=.cons rfl (r.append hd)
 have hl:(Za (s.6+1) :: us++ds).9=ps.9:=by
  have e:=r2.9;rw[F.31 _ _ _ _ hq] at e;show e.26
 refine wpAny_call (Jj (f:=f) I._X M.makes M.init (beq_iff_eq.mp M.fn) (aad (F.run _ X.43 _ _ #[Za (s.6+1) :: us,[]] (Za (s.6+1) :: (us++ds)) _ _ (E σ) (hr.make C us [])
  (I2.acz.make C us []) (hb _ (Za (s.6+1) :: us) I2._X hl) r2 hq) λr s' hq'=>?_))
 cases r with
 | error e=>show hx _a σ _ _ e s' I2 hq'
 | ok fl =>
  cases fl with
  | ret u =>
   obtain v|H'|I3|rv|ev|q3:=I2.40 hq';subst ev;show #[rv,#[V.ref (s.6+1),H',I3,rfl,q3]]
  | next=>show Zr hq'
  | brk=>show Zr hq'
  | cont=>show Zr hq'
end
section
variable {X:Cx} {_a:List (Addr×Obj)} {σ:St} {H H':Hp} {s:Y5} {C:Addr} {x:Str} {afk np:Pos}
theorem Inv.ahE (ok:X.Ok) (I:Inv (X.sm ea) _a σ H s):Inv X _a σ H s:=#[ok,I.os,I.50,I.41,I.loc,I.cell,I.47,I._K,I.pin,I._u,I.31]
def hNo (K:_g) (C:Addr) (ts:Addr->TS) (hr:Ends->St->Value->Option Addr->Hp->Prop):Ends->St->Value->Option Addr->Hp->Prop:=λD σ cls dx H =>
 (PySem.W.exmOne K cls (.ref C)=some true/\∀ea,ts ea (Va D) σ H)\/(PySem.W.exmOne K cls (.ref C)=some false/\hr D σ cls dx H)
theorem UA {b₀:Stmt} {acI:List Stmt} {rest:List ExceptHandler} {ts:Addr->TS} {hr:Ends->St->Value->Option Addr->Hp->Prop} (hex:X.ex=[]) (hg:Gl X x) (hm:X.mg x=some (.ref C))
  (hs:∀ea,Fc (X.sm ea) (b₀ :: acI) (ts ea)) (abK:HB X rest hr) (hdb:(x == ("__debug__":Str))=false:=by decide) :
  HB X (.ExceptHandler (some (.Name x np)) none (b₀ :: acI) afk :: rest) (hNo X.K C ts hr):=by
 intro _a σ H0 s0 H' ea tt cls dx B s1 h D L fl up dc hq;have J:=L.inv fl up;refine wpAny_handleBy_cons (codeAny_handlers_test (vZ (X:=X.sm ea) (J.sm ea) hg hm ?_ hdb)) (by intro q;cases q)
 have LT:PySem.W.Looks (model X.23 X.w) h (typeOf (.ref ea)) cls:=by
  obtain o|e|c:=fl.56;show c ▸ (PySem.W.Looks.ld e).andThen .now
 rcases hq with ⟨hb,hts⟩ | ⟨hb,hq⟩
 ·refine (PySem.W.exm_one (show X.K.In h from J._X) LT hb) _ _ _ _ (λ_ _ q=>q) ?_;refine codeAny_handlers_suite ?_;refine ZD (lands_againW (E:=λ_ _=>False) (Q:=λ_ s2=>∃h6,s2={ s1 with heap:=h6 }/\aaf B X.43 ea cls (.ref tt) h6/\h.UpToSlots h6) fl λh6 fl6 up6=>#[h6,rfl,fl6,up6]) ?_ (λ_ _ z=>z.45);rintro _ _ ⟨h6,rfl,fl6,up6⟩;have J6:=(L.inv fl6 (up.3 up6)).sm ea;refine ZD (hs ea _a _ _ _ _ J6 (hts ea)) (λf s2 hsp=>?_) λ_ _ z=>Zr z
  cases f with
  | next=>obtain _|_|_|z:=hsp;show Zr z
  | brk=>obtain _|_|_|z:=hsp;show Zr z
  | cont=>obtain _|_|_|z:=hsp;show Zr z
  | ret u =>
   obtain v|σ'|H2|J2|rv|q:=hsp;show #[v,_,H2,J2.ahE L.I.ok,rv,q]
 ·refine (PySem.W.exm_one (show X.K.In h from J._X) LT hb) _ _ _ _ (λ_ _ q=>q) ?_;show abK _a σ H0 s0 H' ea tt cls dx B s1 h D L fl up dc hq
end
structure C7 (mv pt lk:_m):Prop where
 un:Yz mv pt 1000
 lw:∃w a,UM (iI mv pt mv.9) mv.9 w a
 pr:∃a c,m8 mv pt a c/\mv.9*(a+c)<=300
 cs:T9 mv pt
 st:∀(wish:List Rat) (Mw:Nat),wish.9=mv.9->0 < Mw->Mw<=2^480->(∀z∈wish,Tp Mw (2^480) z)->Wz mv pt lk wish
theorem VO (K:m8 mv pt a c) (D:eO mv pt lk) (h:2*(mv.9*(mv.9*(a+c)+4)+mv.9*a)<=3990000):UM (iI mv pt mv.9) mv.9 (mv.9*(a+c)) (mv.9*a):=by
 obtain M|V|M0|Ma|hV|fm|fp|_:=K;have d8:=D.n8;have f:=Gi rfl D.mw D.pw hV fm fp mv.9;have hM:M^mv.9<=2^(mv.9*a):=by rw[bE];show rK Ma _
 refine #[M^mv.9,2^(mv.9*(a+c)),kC M0,hM,bD,ah _,λxs hx x _v=>Tp.of (f xs hx x _v) ?_,ag (rY ..) (),?_]
 ·rw[show mv.9*(a+c)=c*mv.9+mv.9*a by rw[pW,bE c];lia];show jL (ah _) hM
 ·refine ag (fE _ (Nat.add_le_add_right (ay _ (rY ..)) _)) h
theorem AN (B:Bd mv pt M1 M2 V1 a1 a2 c) (D:eO mv pt lk) (v1:1<=V1) (hl:OD lk) (h:(mv.9<=4/\M2=M1/\a1=12/\a2=12/\c=16)\/(mv.9<=2/\a1=40/\a2=80/\c=23)):C7 mv pt lk:=by
 have vc:=B.vc;have i4:=D.i4;have d8:=D.n8;have n04:mv.9<=4:=()
 rcases h with ⟨n4,rfl,rfl,rfl,rfl⟩ | ⟨n2,rfl,rfl,rfl⟩
 ·have hn:mv.9=0\/mv.9=1\/mv.9=2\/mv.9=3\/mv.9=4:=()
  have KF:m8 mv pt 12 16:=#[M2,V1,B.m1,B.b1,ag (ay _ ()) vc,B.gm,B.gp,(),(),by rcases hn with h | h | h | h | h <;> rw[h] <;> decide,by rcases hn with h | h | h | h | h <;> rw[h] <;> decide];refine #[#[d8,D.mw,D.pw,#[12,16,KF,?_,?_],()],#[_,_,VO KF D (by rcases hn with h | h | h | h | h <;> rw[h] <;> decide)],#[12,16,KF,()],?_,λwish Mw lw Mw0 Mwb hw=>?_]
  ·rcases hn with h | h | h | h | h <;> rw[h] <;> decide
  ·rcases hn with h | h | h | h | h <;> rw[h] <;> decide
  ·refine GX D B.m1 B.m1 B.gm B.gp v1 (B:=2^16) (ag (ay _ ()) vc) (a:=12*mv.9+12) (b:=16*mv.9) (jL (rK B.b1 _) B.b1) (rK (ah _) _) () () () ()
  ·refine Fp Mw0 Mwb B D () hl lw hw rfl rfl ?_ ?_ ?_ () ?_
   ·rcases hn with h | h | h | h | h <;> rw[h] <;> decide
   ·rcases hn with h | h | h | h | h <;> rw[h] <;> decide
   ·rcases hn with h | h | h | h | h <;> rw[h] <;> decide
   ·rcases hn with h | h | h | h | h <;> rw[h] <;> decide
 ·have hn:mv.9=0\/mv.9=1\/mv.9=2:=()
  have dv1:M1∣M1*M2:=qM ..;have dv2:M2∣M1*M2:=j4 ..;have KF:m8 mv pt 120 23:=#[M1*M2,V1,bY B.m1 B.m2,jL B.b1 B.b2,ag (ay _ ()) vc,λxs hx x _v=>(B.gm xs hx x _v).dvd dv1,λxs hx x _v=>(B.gp xs hx x _v).dvd dv2,(),(),by rcases hn with h | h | h <;> rw[h] <;> decide,by rcases hn with h | h | h <;> rw[h] <;> decide];refine #[#[d8,D.mw,D.pw,#[120,23,KF,?_,?_],()],#[_,_,VO KF D (by rcases hn with h | h | h <;> rw[h] <;> decide)],#[120,23,KF,()],?_,λwish Mw lw Mw0 Mwb hw=>?_]
  ·rcases hn with h | h | h <;> rw[h] <;> decide
  ·rcases hn with h | h | h <;> rw[h] <;> decide
  ·refine GX D B.m1 B.m2 B.gm B.gp v1 (B:=2^23) (ag (ay _ ()) vc) (a:=40*mv.9+80) (b:=23*mv.9) (jL (rK B.b1 _) B.b2) (rK (ah _) _) () () () ()
  ·refine Fp Mw0 Mwb B D () hl lw hw rfl rfl ?_ ?_ ?_ () ?_
   ·rcases hn with h | h | h <;> rw[h] <;> decide
   ·rcases hn with h | h | h <;> rw[h] <;> decide
   ·rcases hn with h | h | h <;> rw[h] <;> decide
   ·rcases hn with h | h | h <;> rw[h] <;> decide
theorem MS {M V:Nat} (h:GF M V rows) (m0:0 < M) (hM:M<=2^100) (hV:V<=2^30):OD rows:=λxs hx x _v=>Fm (U3 (h xs hx x _v) m0 (ag hM (jP ())) (ag hV (jP ())))
theorem Ss (P:PtG n i o w c mv pt lk) (D:eO mv pt lk) (lm:mv.9=n) (i4:i<=4) (o4:o<=4) (hw:(n<=4/\w<=9)\/(n<=2/\c=10)):C7 mv pt lk/\C7 (a9 mv mv.9) lk pt/\Dk mv pt lk:=by
 obtain M1|M2|M3|V1|p1|p2|p3|g1|g2|g3|hc:=P;have et:(a9 mv mv.9).9=mv.9:=cz;have D':eO (a9 mv mv.9) lk pt:=D.turn;have g1':GF M1 V1 (a9 mv mv.9):=AL g1;have fin:∀{a1 a2 a3 c:Nat},M1<=2^a1->M2<=2^a2->M3<=2^a3->V1<=2^30->a1+(a2+a3)<=400->Dk mv pt lk:=λ{a1 a2 a3 c} h1 h2 h3 h4 h5=>#[M1*(M2*M3),V1,bY p1 (bY p2 p3),ag (jL h1 (jL h2 h3)) (jP h5),ag h4 (jP ()),λxs hx x _v=>(g1 xs hx x _v).dvd (qM ..),λxs hx x _v=>(g2 xs hx x _v).dvd (Km (qM ..) (j4 ..)),λxs hx x _v=>(g3 xs hx x _v).dvd (Km (j4 ..) (j4 ..))]
 rcases hc with ⟨w9,rfl,rfl,rfl,rfl⟩ | ⟨w9,b1,b2,b3,rfl⟩
 ·have n4:mv.9<=4:=()
  have vc:(mv.9+4)*(9^3*9)<=2^16:=ag (ay _ (show mv.9+4<=8 by lia)) ();show #[AN #[p1,p2,(),(),g1,g2,vc] D () (MS g3 p3 () ()) (.inl #[n4,rfl,rfl,rfl,rfl]),AN #[p1,p3,(),(),g1',g3,by rw[et];show vc] D' () (MS g2 p2 () ()) (.inl #[by rw[et];show n4,rfl,rfl,rfl,rfl]),fin (a1:=12) (a2:=12) (a3:=12) (c:=0) () () () () ()]
 ·obtain ⟨n2,rfl⟩:n<=2/\c=10:=()
  have e1:10*(n*n)<=40:=by have:n*n<=2*2:=aL n2 n2;lia
  have e2:10*(i*n)<=80:=by have:i*n<=4*2:=aL i4 n2;lia
  have e3:10*(o*n)<=80:=by have:o*n<=4*2:=aL o4 n2;lia
  have b1:=ag b1 (jP e1);have b2:=ag b2 (jP e2);have b3:=ag b3 (jP e3);have vc:(mv.9+4)*(9^3*2^10)<=2^23:=ag (ay _ (show mv.9+4<=6 by lia)) ();show #[AN #[p1,p2,b1,b2,g1,g2,vc] D () (MS g3 p3 (ag b3 (jP ())) ()) (.inr #[(),rfl,rfl,rfl]),AN #[p1,p3,b1,b3,g1',g3,by rw[et];show vc] D' () (MS g2 p2 (ag b2 (jP ())) ()) (.inr #[by rw[et];lia,rfl,rfl,rfl]),fin (c:=0) b1 b2 b3 () ()]
def mF (n:Nat) (A:Nat->Nat->Rat) (x:Nat->Rat):Nat->Rat:=λc=>aU n λi=>A c i*x i
def pF (n:Nat) (A:Nat->Nat->Rat):Nat->(Nat->Rat)->Nat->Rat
 | 0,x=>x
 | t+1,x=>mF n A (pF n A t x)
def dF (n:Nat) (g x:Nat->Rat):Rat:=aU n λi=>g i*x i
section
variable {n:Nat} {A A':Nat->Nat->Rat} {g m w:Nat->Rat} {s:Nat->Nat->Rat} {x y:Nat->Rat} {k:Rat}
theorem P7:mF n A (λc=>x c+k*y c)=λc=>mF n A x c+k*mF n A y c:=by
 funext c;unfold mF;rw[<- bT,<- fX];show aE λi _=>by grind
theorem PC:∀t,pF n A t (λc=>x c+k*y c)=λc=>pF n A t x c+k*pF n A t y c
 | 0=>rfl
 | t+1=>by
  change mF n A (pF n A t _)=_
  rw[PC t,P7];rfl
theorem qB:∀t,pF n A (t+1) x=pF n A t (mF n A x)
 | 0=>rfl
 | t+1=>by
  change mF n A (pF n A (t+1) x)=_
  rw[qB t];rfl
theorem QP:dF n g (λc=>x c+k*y c)=dF n g x+k*dF n g y:=by
 unfold dF;rw[<- bT,<- fX];show aE λi _=>by grind
theorem P5 {f:Nat->Nat->Rat}:mF n A (λc=>aU q λi=>w i*f i c)=λc=>aU q λi=>w i*mF n A (f i) c:=by
 funext c;unfold mF
 have:∀j,A c j*(aU q λi=>w i*f i j)=aU q λi=>w i*(A c j*f i j):=λj=>by
  rw[<- bT];show aE λi _=>by grind
 rw[aE λj _=>this j,ff];show aE λi _=>by rw[bT]
theorem PB {q:Nat} {f:Nat->Nat->Rat} {w:Nat->Rat}:∀t,pF n A t (λc=>aU q λi=>w i*f i c)=λc=>aU q λi=>w i*pF n A t (f i) c
 | 0=>rfl
 | t+1=>by
  change mF n A (pF n A t _)=_
  rw[PB t,P5];rfl
theorem QN {f:Nat->Nat->Rat}:dF n g (λc=>aU q λi=>w i*f i c)=aU q λi=>w i*dF n g (f i):=by
 unfold dF
 have:∀j,g j*(aU q λi=>w i*f i j)=aU q λi=>w i*(g j*f i j):=λj=>by
  rw[<- bT];show aE λi _=>by grind
 rw[aE λj _=>this j,ff];show aE λi _=>by rw[bT]
theorem ack (h1:∀j,1<=j->j < n->mF n A (s j)=s (j+1)) (h2:∀j,1<=j->j<=n->dF n g (s j)=if j=n then 1 else 0) (h3:∀x,dF n m x=dF n g (pF n A n x) - aU n λi=>w i*dF n g (pF n A i x)) (h4:∀x,mF n A' x=λc=>mF n A x c+-(dF n m x)*s 1 c)
  (C:(Nat->Rat)->Prop) (h5:∀x,C x->∃k:Nat->Rat,x=λc=>aU n λj=>k j*s (j+1) c) (h6:∀x,C x->C (mF n A' x)) (h7:∀x,C x->C λc=>pF n A' n x c+-1*aU n λi=>w i*pF n A' i x c):∀x,C x->∀c,pF n A' n x c=aU n λi=>w i*pF n A' i x c:=by
 have it:∀i j,1<=j->i+j<=n->pF n A i (s j)=s (i+j):=by
  intro i
  induction i with
  | zero=>intro j _ _;rw[Nk];rfl
  | succ i ih =>
   intro j hj hn;change mF n A (pF n A i (s j))=_
   rw[ih j hj (),h1 _ () ()];congr 1
   lia
 have stp:∀i x,i < n->(∀x,dF n g (pF n A' i x)=dF n g (pF n A i x))->dF n g (pF n A' (i+1) x)=dF n g (pF n A (i+1) x)+-(dF n m x)*dF n g (s (i+1)):=λi x hi ih=>by
  rw[qB,ih,h4,PC,QP,it i 1 () (),<- qB]
 have gA:∀i,i < n->∀x,dF n g (pF n A' i x)=dF n g (pF n A i x):=by
  intro i
  induction i with
  | zero=>intro _ _;rfl
  | succ i ih =>
   intro hi x;rw[stp i x () (ih ()),h2 (i+1) () (),if_neg ()];grind
 intro x hx;obtain ⟨z,ez⟩:∃z:(Nat->Rat)->Nat->Rat,z=λx c=>pF n A' n x c+-1*aU n λi=>w i*pF n A' i x c:=#[_,rfl]
 have gz:∀x,dF n g (z x)=0:=λx=>by
  rw[ez];change dF n g (λc=>pF n A' n x c+-1*aU n λi=>w i*pF n A' i x c)=0
  rw[QP,QN];cases n with
  | zero=>change (0:Rat)+-1*0=0;grind
  | succ n' =>
   have e1:=stp n' x () (gA n' ());rw[h2 (n'+1) () (ah _),if_pos rfl] at e1;rw[e1,aE λi hi=>by rw[gA i hi x],h3 x];grind
 have zc:∀x,mF n A' (z x)=z (mF n A' x):=λx=>by
  rw[ez];change mF n A' (λc=>pF n A' n x c+-1*aU n λi=>w i*pF n A' i x c)=_
  rw[P7,P5];funext c
  dsimp only
  rw[<- qB];congr 2;show aE λi _=>by rw[<- qB];rfl
 have zp:∀i x,pF n A' i (z x)=z (pF n A' i x):=by
  intro i
  induction i with
  | zero=>intro x;rfl
  | succ i ih =>
   intro x;change mF n A' (pF n A' i (z x))=_
   rw[ih,zc];rfl
 have aky:∀i,i < n->dF n g (pF n A i (z x))=0:=λi hi=>by rw[<- gA i hi,zp,gz]
 obtain k|ek:=h5 (z x) (by rw[ez];show h7 x hx)
 have kz:∀d,d < n->k (n - 1 - d)=0:=by
  intro d
  induction d using Nat.strongRecOn with
  | ind d ih =>
   intro hd;have e:=aky d hd;rw[ek,PB,QN,iV (show n - 1 - d < n by lia) λj hj ne=>?_,it d (n - 1 - d+1) () (),h2 _ () (),if_pos (),Q8] at e
   ·show e
   ·rcases aX j (n - 1 - d) with q | q
    ·rw[it d (j+1) () (),h2 _ () (),if_neg (),fq]
    ·have:=ih (n - 1 - j) () ();rw[show n - 1 - (n - 1 - j)=j by lia] at this;rw[this,dk]
 intro c
 have e0:z x c=0:=by
  rw[ek]
  show bQ λj hj=>by
   have:=kz (n - 1 - j) ();rw[show n - 1 - (n - 1 - j)=j by lia] at this;rw[this,dk]
 rw[ez] at e0
 dsimp only at e0
 grind
end
section
variable {mv pt _h _p R F G L:_m} {wish x:List Rat} {ps:List Nat} {n i m:Nat}
theorem V4 {p:Nat->Nat} (h1:∀i j,i < j->j < k->p i < p j) (h2:∀j,j < k->p j < k):∀j,j < k->p j=j:=by
 have lo:∀j,j < k->j<=p j:=by
  intro j
  induction j with
  | zero=>intro _;show aW _
  | succ j ih=>intro h;have:=ih ();have:=h1 j (j+1) () h;lia
 have hi:∀d j,j+d+1=k->p j<=j:=by
  intro d
  induction d with
  | zero=>intro j h;have:=h2 j ();lia
  | succ d ih=>intro j h;have:=ih (j+1) ();have:=h1 j (j+1) () ();lia
 show λj hj=>Di (hi (k - 1 - j) j ()) (lo j hj)
theorem VT (ls:_h.9=n+1) (lg:gv.9=n+1) (ws:∀xs∈_h,xs.9=n) (wg:∀xs∈gv,xs.9=i) (hj:j < n):(∀c,c < n->bo ((my _h gv n).37 1) j c=bo _h (j+1) c)/\(∀c,c < i->bo ((my _h gv n).37 1) j (n+c)=bo gv (j+1) c)/\bo ((my _h gv n).37 1) j (n+i)=if j+1=n then 1 else 0:=by
 have e1:((my _h gv n).37 1).4 j []=_h.4 (j+1) []++gv.4 (j+1) []++[if j+1=n then 1 else 0]:=by
  unfold my;rw[aa,wU,iu 1 j,az,cx ()];rfl
 have w1:(_h.4 (j+1) []).9=n:=by
  rw[aa,ae ()];show ws _ (aw _)
 have w2:(gv.4 (j+1) []).9=i:=by
  rw[aa,ae ()];show wg _ (aw _)
 unfold bo;rw[e1];refine #[λc hc=>?_,λc hc=>?_,?_]
 ·rw[aa,cv,bR (),<- aa]
 ·rw[aa,bR (by rw[ar];lia),bG (),w1,Nat.add_sub_cancel_left,<- aa]
 ·rw[aa,bG (by rw[ar];lia),ar,w1,w2,kG];rfl
theorem VU (C:Kq mv pt _h _p) (lp:_p.9=n) (lm:mv.9=n) (hl:∀j,j < n->∀c,c < n->bo L j c=bo _h (j+1) c) (lL:L.9=n) (RR:bL L m R ps) (hps:ps.9=n):(∀j,j < n->ps.4 j 0=j)/\(∀j,j < n->∀c,bo L j c=aU n λt=>bo _h (j+1) t*bo R t c)/\∀t,t < n->∃y:Nat->Rat,∀c,c < n->aU n (λj=>y j*bo _h (j+1) c)=if t=c then 1 else 0:=by
 have rr:=RR.2.2;rw[lL,hps] at rr
 have sw:∀j,j<=n->∀c,n<=c->bo _h j c=0:=λj hj c hc=>by
  unfold bo;rw[aa (l:=_h),ae (by have:=C.31;lia),aa,aA (by rw[jZ,C.51 _ (aw _),lm];show hc)];rfl
 have lt:∀t,t < n->ps.4 t 0 < n:=λt ht=>by
  rcases aX (ps.4 t 0) n with q | q
  ·show q
  ·obtain y|hy:=rr.back t ht
   have y0:=Na C (y:=y) (λc=>by
    rw[lp];rcases aX c n with hc | hc
    ·rw[<- rr.lead t ht c (),hy c];show aE λj hj=>by rw[hl j hj c hc]
    ·show bQ λj hj=>by rw[sw (j+1) () c hc,fq])
   have u:=rr.52 t ht t ht;rw[if_pos rfl,hy,bQ λj hj=>by rw[y0 j (),dk]] at u;show absurd u ()
 have id_:=V4 (p:=λj=>ps.4 j 0) (k:=n) rr.inc lt;refine #[id_,λj hj c=>?_,λt ht=>?_]
 ·rw[rr.aap (rr.span j hj) c];show aE λt ht=>by rw[show ps.4 t 0=t from id_ t ht,hl j hj t ht]
 ·obtain y|hy:=rr.back t ht;refine #[y,λc hc=>?_];have u:=rr.52 t ht c hc;rw[show ps.4 c 0=c from id_ c hc,hy c] at u;rw[<- u];show aE λj hj=>by rw[hl j hj c hc]
theorem KZ {A:_m} (lA:A.9=n) (wA:∀xs∈A,xs.9=n) (lx:x.9=n):∀t,(λc=>(jI A t x).4 c 0)=pF n (bo A) t λc=>x.4 c 0
 | 0=>rfl
 | t+1=>by
  change _=mF n (bo A) (pF n (bo A) t _)
  rw[<- KZ lA wA lx t];funext c;change ((A.12 λxs=>fe xs (jI A t x)).4 c 0)=_
  unfold mF;rcases aX c n with hc | hc
  ·have w:=wA _ (aw (l:=A) (n:=c) ());rw[getD_map (),gX (by rw[w,FQ (by rw[lx,lA]),lA]),w];refine aE λi hi=>?_
   congr 1;unfold bo;rw[aa (l:=A),ae ()];rfl
  ·rw[aa,aA (by rw[af];lia)];refine (bQ λi hi=>?_).26
   have:bo A c i=0:=by
    unfold bo;rw[aa (l:=A),aA ()];rfl
   rw[this,dk]
end
section
variable {mv pt lk _h _p R F G L:_m} {wish x row p0 me:List Rat} {ps:List Nat} {n i m:Nat}
theorem X9:bo rows k t=(rows.4 k []).4 t 0:=rfl
theorem Xp (hk:k < i+1) (ht:t < R.9):bo (iL R n i) k t=bo R t (n+k):=by
 unfold iL bo;rw[aa (l:=a9 _ _),uL hk];change ((R.12 (·.drop n)).12 λxs=>xs.4 k 0).4 t 0=_
 rw[jA,getD_map ht,aa (l:=R),ae ht];change (R[t].37 n).4 k 0=R[t].4 (n+k) 0
 rw[aa,wU,aa]
theorem TK (lA:A.9=n) (wA:∀xs∈A,xs.9=n) (lr:row.9=n) (lw:wish.9=n):∀k,k<=n->∀y:Nat->Rat,dF n (λc=>(yP A row wish k).4 c 0) y=dF n (λc=>row.4 c 0) (pF n (bo A) k y) - aU k λl=>wish.4 (n - k+l) 0*dF n (λc=>row.4 c 0) (pF n (bo A) l y):=by
 have tk:∀(r:List Rat) (y:Nat->Rat),r.9=n->dF n (λc=>(Fj A r).4 c 0) y=dF n (λc=>r.4 c 0) (mF n (bo A) y):=λr y hr=>by
  unfold dF mF
  have e:∀c,c < n->(Fj A r).4 c 0=aU n λa=>bo A a c*r.4 a 0:=λc hc=>by
   unfold Fj;rw[aa,az,lA,uL hc];change fe (A.12 λxs=>xs.4 c 0) r=_
   rw[gX (by rw[af,lA,hr]),af,lA];refine aE λa ha=>?_
   rw[getD_map ()];unfold bo;rw[aa (l:=A),ae ()];rfl
  have e1:∀c,c < n->(Fj A r).4 c 0*y c=aU n λa=>r.4 a 0*(bo A a c*y c):=λc hc=>by
   rw[e c hc,cL,<- bT];show aE λa _=>by grind
  rw[aE e1,ff];show aE λa _=>by rw[bT]
 intro k
 induction k with
 | zero =>
  intro _ y;change dF n (λc=>row.4 c 0) y=dF n (λc=>row.4 c 0) y - 0
  generalize dF n (λc=>row.4 c 0) y=q;clear tk;grind
 | succ k ih =>
  intro hk y;have la:=zP (mv:=A) (wish:=wish) (show row.9=A.9 by rw[lr,lA]) k;rw[lA] at la
  have e1:dF n (λc=>(yP A row wish (k+1)).4 c 0) y=dF n (λc=>(Fj A (yP A row wish k)).4 c 0+-(wish.4 (n - 1 - k) 0)*row.4 c 0) y:=aE λc hc=>by
   have lt:(Fj A (yP A row wish k)).9=n:=by rw[Fi,lA]
   dsimp only
   congr 1;change (Wv _ _ _).4 c 0=_
   rw[OL (by rw[lt,af,lr]) (),getD_map (),lw,aa (l:=row),ae (),jZ];grind
  have e2:dF n (λc=>(Fj A (yP A row wish k)).4 c 0+-(wish.4 (n - 1 - k) 0)*row.4 c 0) y=dF n (λc=>(Fj A (yP A row wish k)).4 c 0) y+-(wish.4 (n - 1 - k) 0)*dF n (λc=>row.4 c 0) y:=by
   unfold dF;rw[<- bT,<- fX];show aE λc _=>by grind
  rw[e1,e2,tk _ _ la,ih (),<- qB,qi,show n - (k+1)+0=n - 1 - k by lia];have e3:(aU k λl=>wish.4 (n - k+l) 0*dF n (λc=>row.4 c 0) (pF n (bo A) l (mF n (bo A) y)))=aU k λl=>wish.4 (n - (k+1)+(l+1)) 0*dF n (λc=>row.4 c 0) (pF n (bo A) (l+1) y):=aE λl _=>by rw[<- qB,show n - (k+1)+(l+1)=n - k+l by lia]
  rw[e3];change _=_ - (wish.4 (n - 1 - k) 0*dF n _ y+_)
  grind
set_option maxHeartbeats 4000000 in
theorem SX (D:eO mv pt lk) (C:Kq mv pt _h _p) (lp:_p.9=mv.9) (RR:bL ((my _h (_p++[Wb pt.9 0]) mv.9).37 1) (mv.9+pt.9+1) R ps) (hps:ps.9=mv.9) (lq:wish.9=mv.9)
  (hF:F=(iL R mv.9 pt.9).21 pt.9) (hr:row=(iL R mv.9 pt.9).4 pt.9 []) (hm:me=yP (kZ mv pt F) row wish wish.9) (hp:p0=(_p++[Wb pt.9 0]).4 0 []) (hG:G=Wv (λrow b=>Wv (λx y=>x - y) row (me.12 λy=>b*y)) F p0) :
  ∀x:List Rat,x.9=mv.9->∀c,(jI (kZ mv pt G) mv.9 x).4 c 0=aU mv.9 λi=>wish.4 i 0*(jI (kZ mv pt G) i x).4 c 0:=by
 obtain ⟨n,en⟩:∃n,mv.9=n:=#[_,rfl];obtain ⟨gv,eg⟩:∃gv,_p++[Wb pt.9 (0:Rat)]=gv:=#[_,rfl];rw[eg] at RR hp;rw[en] at lp RR hps lq hF hr ⊢;have lR:R.9=n:=by rw[RR.1,hps]
 have lg:gv.9=n+1:=by rw[<- eg,ar,lp];rfl
 have wg:∀xs∈gv,xs.9=pt.9:=λxs hx=>by
  rw[<- eg] at hx;rcases aB.mp hx with hx | hx
  ·show C.wpu xs hx
  ·rw[aM.mp hx,bK]
 have ls:_h.9=n+1:=by rw[C.31,lp]
 have ws:∀xs∈_h,xs.9=n:=λxs hx=>by rw[C.51 xs hx,en]
 have lL:((my _h gv n).37 1).9=n:=by unfold my;rw[eH,af,bX];rfl
 have lnr:=λj (hj:j < n)=>VT (i:=pt.9) ls lg ws wg hj
 obtain _|cf|ba:=VU C lp en (λj hj c hc=>(lnr j hj).1 c hc) lL RR hps;obtain ⟨S9,eS⟩:∃S,iL R n pt.9=S:=#[_,rfl];rw[eS] at hF hr;have lS:S9.9=pt.9+1:=by rw[<- eS];show cz
 have wS:∀xs∈S9,xs.9=n:=λxs hx=>by rw[<- eS] at hx;rw[i5 xs hx,af,lR]
 have fS:∀k,k < pt.9+1->∀t,t < n->bo S9 k t=bo R t (n+k):=λk hk t ht=>by rw[<- eS];show Xp hk ()
 have lF:F.9=pt.9:=by rw[hF,br];lia
 have fF:∀k,k < pt.9->∀t,bo F k t=bo S9 k t:=λk hk t=>by
  rw[hF];unfold bo;rw[aa (l:=S9.21 _),jE hk,<- aa]
 have tell:∀j,j < n->∀k,k < pt.9->aU n (λt=>bo F k t*bo _h (j+1) t)=bo gv (j+1) k:=λj hj k hk=>by
  rw[<- (lnr j hj).2.1 k hk,cf j hj];show aE λt ht=>by rw[fF k hk,fS k () t ht,cL]
 have aeF:∀j,j < n->aU n (λt=>row.4 t 0*bo _h (j+1) t)=if j+1=n then 1 else 0:=λj hj=>by
  rw[<- (lnr j hj).2.2,cf j hj];refine aE λt ht=>?_
  rw[hr,<- X9,fS _ () t ht,cL]
 have lr:row.9=n:=by
  rw[hr,aa,ae ()];show wS _ (aw _)
 have sw:∀j,j < n+1->∀c,n<=c->bo _h j c=0:=λj hj c hc=>by
  unfold bo;rw[aa (l:=_h),ae (),aa,aA (by rw[jZ,ws _ (aw _)];show hc)];rfl
 have far:∀{X:_m} {c t:Nat},X.9=n->n<=c->bo X c t=0:=λ{X c t} h hc=>by
  unfold bo;rw[aa (l:=X),aA ()];rfl
 have lA:(kZ mv pt F).9=n:=by rw[gY,en]
 have wA:∀xs∈kZ mv pt F,xs.9=n:=λxs hx=>by rw[JP xs hx,en]
 have lA':(kZ mv pt G).9=n:=by rw[gY,en]
 have wA':∀xs∈kZ mv pt G,xs.9=n:=λxs hx=>by rw[JP xs hx,en]
 have lp0:p0.9=pt.9:=by
  rw[hp,aa,ae ()];show wg _ (aw _)
 have lme:me.9=n:=by
  rw[hm];have:=zP (wish:=wish) (show row.9=(kZ mv pt F).9 by rw[lr,lA]) wish.9;rw[this,lA]
 have wF:∀xs∈F,xs.9=n:=λxs hx=>wS xs (by rw[hF] at hx;show bO hx)
 have fG:∀k,k < pt.9->∀b,b < n->bo G k b=bo F k b - p0.4 k 0*me.4 b 0:=λk hk b hb=>by
  have w1:=wF _ (aw (l:=F) (n:=k) ());rw[hG];unfold bo;rw[aa (l:=Wv _ _ _),bh,ae (show k < F.9 by lia),ae (show k < p0.9 by lia),aa (l:=F),ae (show k < F.9 by lia),aa (l:=p0),ae (show k < p0.9 by lia)];change (Wv (λx y=>x - y) F[k] (me.12 λy=>p0[k]*y)).4 b 0=_
  rw[OL (by rw[w1,af,lme]) (),getD_map (),aa (l:=me),ae ()];rfl
 have s1:∀c,c < n->bo _h 1 c=aU pt.9 λl=>p0.4 l 0*bo pt l c:=λc hc=>by
  have:=C.57 0;rcases dE n with z | z
  ·lia
  rw[this () c,bQ λt ht=>by rw[C.zero,fq],Rat.zero_add];refine aE λl hl=>?_
  congr 1;rw[hp,<- eg];unfold bo;rw[aa (l:=_p++_),bR (),<- aa]
 intro x lx c;have pe:∀t,(jI (kZ mv pt G) t x).4 c 0=pF n (bo (kZ mv pt G)) t (λc=>x.4 c 0) c:=λt=>congrFun (KZ lA' wA' lx t) c
 rw[pe,aE λt _=>by rw[pe]];refine ack (A:=bo (kZ mv pt F)) (g:=λc=>row.4 c 0) (m:=λc=>me.4 c 0) (w:=λj=>wish.4 j 0) (s:=bo _h) ?_ ?_ ?_ ?_ (λy=>∀c,n<=c->y c=0) ?_ ?_ ?_ (λc=>x.4 c 0) (λc hc=>by rw[aa,aA ()];rfl) c
 ·intro j h1 h2;funext a;unfold mF;rcases aX a n with ha | ha
  ·obtain ⟨j,rfl⟩:∃j',j=j'+1:=#[j - 1,()];rw[C.57 (j+1) () a,en]
   have e:∀b,b < n->bo (kZ mv pt F) a b*bo _h (j+1) b=bo mv a b*bo _h (j+1) b+aU pt.9 λk=>bo pt k a*(bo F k b*bo _h (j+1) b):=λb hb=>by
    rw[CY () (),Q9,cL (aU _ _),<- bT];congr 1;show aE λk _=>by grind
   rw[aE e,fX,ff];congr 1;refine aE λk hk=>?_
   rw[bT,tell j () k hk,cL];congr 1;rw[<- eg];unfold bo;rw[aa (l:=_p++_),bR (),<- aa]
  ·rw[sw (j+1) () a ha];show bQ λb _=>by rw[far lA ha,dk]
 ·intro j h1 h2;obtain ⟨j,rfl⟩:∃j',j=j'+1:=#[j - 1,()];show aeF j ()
 ·intro y;have:=TK lA wA lr lq n (ah _) y;rw[hm,lq,this];congr 1;show aE λl _=>by rw[kG,Nk]
 ·intro y;funext a;unfold mF;rcases aX a n with ha | ha
  ·have e:∀b,b < n->bo (kZ mv pt G) a b*y b=bo (kZ mv pt F) a b*y b+-(bo _h 1 a)*(me.4 b 0*y b):=λb hb=>by
    rw[CY () (),CY () (),s1 a ha]
    have e2:(aU pt.9 λk=>bo pt k a*bo G k b)=(aU pt.9 λk=>bo pt k a*bo F k b)+-(me.4 b 0)*aU pt.9 λl=>p0.4 l 0*bo pt l a:=by
     rw[<- bT,<- fX];show aE λk hk=>by rw[fG k hk b hb];grind
    rw[e2];grind
   rw[aE e,fX,bT];unfold dF;grind
  ·rw[bQ λb _=>by rw[far lA' ha,dk],bQ λb _=>by rw[far lA ha,dk],show bo _h 1 a=0 from by
    rcases dE n with z | z
    ·unfold bo;rw[aa (l:=_h),aA ()];rfl
    ·show sw 1 () a ha]
   grind
 ·intro y hy
  have:∀t,∃z:Nat->Rat,t < n->∀c,c < n->aU n (λj=>z j*bo _h (j+1) c)=if t=c then 1 else 0:=λt=>by
   by_cases ht:t < n
   ·obtain z|hz:=ba t ht;show #[z,λ_=>hz]
   ·show #[λ_=>0,λh=>absurd h ht]
  obtain z|hz:=Classical.axiomOfChoice this;refine #[λj=>aU n λt=>y t*z t j,?_];funext c;rcases aX c n with hc | hc
  ·have e:∀j,(aU n λt=>y t*z t j)*bo _h (j+1) c=aU n λt=>y t*(z t j*bo _h (j+1) c):=λj=>by
    rw[cL,<- bT];show aE λt _=>by grind
   rw[aE λj _=>e j,ff,iV hc λt ht ne=>by rw[bT,hz t ht c hc,if_neg ne,fq],bT,hz c hc c hc,if_pos rfl,Q8]
  ·rw[hy c hc];show (bQ λj hj=>by rw[sw (j+1) () c hc,fq]).26
 ·intro y _ c hc;show bQ λb _=>by rw[far lA' hc,dk]
 ·intro y hy c hc
  have z:∀t,pF n (bo (kZ mv pt G)) t y c=0:=λt=>by
   cases t with
   | zero=>show hy c hc
   | succ t=>show bQ λb _=>by rw[far lA' hc,dk]
  dsimp only
  rw[z,bQ λt _=>by rw[z,fq]];grind
end
section
variable {mv pt lk G:_m} {st x:List Rat} {M1 M2 V a1 a2 c N Mg p q ν μ t T:Nat}
theorem Wg (h1:Fr M W f) (h2:Fr M W m) (hb:b=0\/b=1):Fr M (W+W) (f - b*m):=by
 rcases hb with rfl | rfl
 ·rw[dk,wQ,Rat.neg_zero,v5];show h1.24 (rZ _ _)
 ·rw[Q7];show h1.sub h2
theorem TB (D:eO mv pt lk) (lx:x.9=mv.9) (lG:G.9=pt.9) (wG:∀xs∈G,xs.9=mv.9):c7 mv pt x (il G x)=il (kZ mv pt G) x:=by
 have l1:(c7 mv pt x (il G x)).9=mv.9:=tO D;refine Wd (by rw[l1,tE,gY]) λa ha=>?_
 rw[l1] at ha
 have e1:(il (kZ mv pt G) x).4 a 0=aU mv.9 λb=>bo (kZ mv pt G) a b*x.4 b 0:=by
  unfold il;have w:=JP _ (aw (l:=kZ mv pt G) (n:=a) (by rw[gY];show ha));rw[getD_map (by rw[gY];show ha),gX (by rw[w,lx]),w];refine aE λb _=>?_
  congr 1;unfold bo;rw[aa (l:=kZ mv pt G),ae (by rw[gY];show ha)];rfl
 rw[yo D lx (by unfold il;rw[af,lG]) ha,e1]
 have e2:∀k,k < pt.9->(il G x).4 k 0=aU mv.9 λb=>bo G k b*x.4 b 0:=λk hk=>by
  unfold il;have w:=wG _ (aw (l:=G) (n:=k) ());rw[getD_map (),gX (by rw[w,lx]),w];refine aE λb _=>?_
  congr 1;unfold bo;rw[aa (l:=G),ae ()];rfl
 have e3:∀b,b < mv.9->bo (kZ mv pt G) a b*x.4 b 0=bo mv a b*x.4 b 0+aU pt.9 λk=>bo pt k a*(bo G k b*x.4 b 0):=λb hb=>by
  rw[CY ha hb,Q9,cL (aU _ _),<- bT];congr 1;show aE λk _=>by grind
 rw[aE e3,fX,ff];congr 1;refine aE λk hk=>?_
 rw[e2 k hk,bT,cL]
theorem IW (lx:x.9=mv.9) (t:Nat):(jI (kZ mv pt G) t x).9=mv.9:=by
 have:=FQ (mv:=kZ mv pt G) (st:=x) (by rw[gY];show lx) t;rwa [gY] at this
theorem pow_add {A:_m} {x:List Rat} {u:Nat}:∀t,jI A t (jI A u x)=jI A (u+t) x
 | 0=>rfl
 | t+1=>by
  change il A (jI A t (jI A u x))=il A (jI A (u+t) x)
  rw[pow_add t]
end
theorem MJ (hl:ls.9=n) (n8:n<=8) (hf:∀x∈ls,Fr 1 2 x):Bd (wd n ls) [nQ n ((n - 1:Nat):Int)] 1 1 2 0 0 5:=by
 refine #[(),(),ah _,ah _,λxs hx x _v=>?_,λxs hx x _v=>?_,by rw[yH];lia]
 ·obtain i|_|rfl:=au.mp hx
  try dsimp only at _v
  split at _v
  ·show hf x _v
  ·obtain j|_|rfl:=au.mp _v
   try dsimp only
   split
   ·show Fr.one ()
   ·show Fr.zero
 ·rw[aM.mp hx] at _v;show (OO x _v).24 ()
theorem VV (hl:ls.9=n) (n8:n<=8):eO (wd n ls) [nQ n ((n - 1:Nat):Int)] []:=#[by rw[yH];show n8,(show 1<=4 by decide),(show 0<=4 by decide),λxs hx=>by rw[yH];show Yb hl xs hx,λxs hx=>by rw[aM.mp hx,vT,yH],λxs hx=>nomatch hx]
theorem MI (B:Bd mv pt 1 1 2 0 0 5) (D:eO mv pt lk) (hl:OD lk):C7 mv pt lk:=by
 have vc:=B.vc;have i4:=D.i4;have d8:=D.n8;have hn:mv.9=0\/mv.9=1\/mv.9=2\/mv.9=3\/mv.9=4\/mv.9=5\/mv.9=6\/mv.9=7\/mv.9=8:=()
 have KF:m8 mv pt 0 5:=#[1,2,B.m1,B.b1,ag (ay _ ()) vc,B.gm,B.gp,(),(),by rcases hn with h | h | h | h | h | h | h | h | h <;> rw[h] <;> decide,by rcases hn with h | h | h | h | h | h | h | h | h <;> rw[h] <;> decide];refine #[#[d8,D.mw,D.pw,#[0,5,KF,?_,?_],()],#[_,_,VO KF D (by rcases hn with h | h | h | h | h | h | h | h | h <;> rw[h] <;> decide)],#[0,5,KF,()],?_,λwish Mw lw Mw0 Mwb hw=>?_]
 ·rcases hn with h | h | h | h | h | h | h | h | h <;> rw[h] <;> decide
 ·rcases hn with h | h | h | h | h | h | h | h | h <;> rw[h] <;> decide
 ·refine GX D B.m1 B.m1 B.gm B.gp () (B:=2^5) (ag (ay _ ()) vc) (a:=0*mv.9+0) (b:=5*mv.9) (jL (rK B.b1 _) B.b1) (rK (ah _) _) () () () ()
 ·refine Fp Mw0 Mwb B D () hl lw hw rfl rfl ?_ ?_ ?_ () ?_
  all_goals rcases hn with h | h | h | h | h | h | h | h | h <;> rw[h] <;> decide
section
variable {mv pt:_m}
theorem Jm:∀t,iI mv pt (t+1)=iI mv pt t++pt.12 (jI mv t)
 | 0=>by
  change pt++[]=[]++pt.12 λx=>x
  rw[d9,cX,List.map_id']
 | t+1=>by
  change pt++(iI mv pt (t+1)).12 (il mv)=(pt++(iI mv pt t).12 (il mv))++pt.12 λx=>il mv (jI mv t x)
  rw[Jm t,cY,cv,jA];rfl
theorem Px:(pt.12 (jI mv t)).12 (il mv)=pt.12 (jI mv (t+1)):=by rw[jA];rfl
end
inductive Bq (K:_g) (vs:List V) (H:Hp) (Q:VK) (E9:XK):Prop
 | mk (r:Addr) (a c:Nat) (H0 Hz:Hp) (mv pt lk:_m):vs=[.ref r]->dQ K H0 H r mv pt lk->eO mv pt lk->m8 mv pt a c->(∀q,H0 q=none->Hz q=none)->(∀q,H q=none->Hz q=none)->(∀l H',H l=none->aG H H'->bf K Hz H' l (iI mv pt mv.9)->Q (.ref l) H')->Bq K vs H Q E9
theorem Tx (n0:0 < n):((Zi (n - 1)).12 λ(i:Nat)=>(Zi n).12 λ(j:Nat)=>(((if decide ((j:Int)=(i:Int)+1)=true then 1 else 0:Int)):Rat))++[ls]=wd n ls:=by
 obtain ⟨m,rfl⟩:∃m,n=m+1:=#[n - 1,()];unfold wd;rw[show m+1 - 1=m by lia,oU,cY,List.map_singleton,if_pos rfl,<- oU];congr 1;refine vR λi hi=>?_
 have:=iK.mp hi;rw[if_neg ()];refine vR λj _=>?_
 by_cases y:j=i+1
 ·rw[if_pos y,if_pos (decide_eq_true ())];rfl
 ·rw[if_neg y,if_neg (λz=>y (by have:=of_decide_eq_true z;lia))];rfl
def uf (mv pt lk N:_m) (g pu y:List Rat):List Rat:=Wv (λx y=>x+y) (c7 mv pt g pu) (N.12 λxs=>fe xs (Wv (λx y=>x - y) (seenQ lk g) y))
section
variable {g x pu y:List Rat}
theorem OT (D:eO mv pt lk) (lN:N.9=mv.9):(uf mv pt lk N g pu y).9=mv.9:=by
 unfold uf;rw[aJ,tO D,af,lN,qL]
theorem OU (D:eO mv pt lk) (lG:G.9=lk.9) (lg:g.length=mv.9) (lx:x.9=mv.9) (lu:pu.9=pt.9) (ha:a < mv.9):(uf mv pt lk (a9 G mv.9) g pu (seenQ lk x)).4 a 0 - (c7 mv pt x pu).4 a 0=aU mv.9 λb=>bo (kZ (a9 mv mv.9) lk G) b a*(g.getD b 0 - x.4 b 0):=by
 have et:(a9 mv mv.9).9=mv.9:=cz
 have e1:(uf mv pt lk (a9 G mv.9) g pu (seenQ lk x)).4 a 0=(c7 mv pt g pu).4 a 0+aU lk.9 λl=>bo G l a*((aU mv.9 λb=>bo lk l b*g.getD b 0) - aU mv.9 λb=>bo lk l b*x.4 b 0):=by
  unfold uf;have lm:=tO (st:=g) (pu:=pu) D;rw[aa,bh,ae (show a < (c7 mv pt g pu).9 by lia),az,ae (show a < (a9 G mv.9).9 by rw[cz];show ha),aa (l:=c7 mv pt g pu),ae (show a < (c7 mv pt g pu).9 by lia)];change (c7 mv pt g pu)[a]+fe _ _=(c7 mv pt g pu)[a]+_
  congr 1;have lr:((a9 G mv.9)[a]'(by rw[cz];show ha)).9=lk.9:=by rw[i5 _ (aw _),lG]
  rw[gX (by rw[lr,aJ];unfold seenQ;rw[af,af,qL]),lr];refine aE λl hl=>?_
  have f1:((a9 G mv.9)[a]'(by rw[cz];show ha)).4 l 0=bo G l a:=by
   rw[<- rE (rows:=G) ha];unfold bo;rw[aa (l:=a9 _ _),ae (by rw[cz];show ha)];rfl
  have ls:∀z:List Rat,l < (seenQ lk z).9:=λz=>by unfold seenQ;rw[af];show hl
  have f2:∀z:List Rat,z.9=mv.9->(seenQ lk z)[l]'(ls z)=aU mv.9 λb=>bo lk l b*z.4 b 0:=λz lz=>by
   have w:=D.lw _ (aw hl);have e0:(seenQ lk z)[l]'(ls z)=fe (lk[l]'hl) z:=fU ..;rw[e0,gX (by rw[w,lz]),w];refine aE λb _=>?_
   unfold bo;rw[aa (l:=lk),ae hl];rfl
  rw[f1,aa (l:=Wv _ _ _),bh,ae (ls g),ae (ls x)];change bo G l a*((seenQ lk g)[l]'(ls g) - (seenQ lk x)[l]'(ls x))=_
  rw[f2 g lg,f2 x lx]
 have e2:∀b,b < mv.9->bo (kZ (a9 mv mv.9) lk G) b a*(g.getD b 0 - x.4 b 0)=(bo mv a b*g.getD b 0+-1*(bo mv a b*x.4 b 0))+aU lk.9 λl=>bo G l a*(bo lk l b*g.getD b 0+-1*(bo lk l b*x.4 b 0)):=λb hb=>by
  rw[CY (by rw[et];show hb) (by rw[et];show ha),rE hb,Q9,cL (aU _ _),<- bT];congr 1
  ·grind
  ·show aE λl _=>by grind
 rw[e1,yo D lg lu ha,yo D lx lu ha,aE e2,fX,fX,bT,ff]
 have e3:(aU lk.9 λl=>aU mv.9 λb=>bo G l a*(bo lk l b*g.getD b 0+-1*(bo lk l b*x.4 b 0)))=aU lk.9 λl=>bo G l a*((aU mv.9 λb=>bo lk l b*g.getD b 0) - aU mv.9 λb=>bo lk l b*x.4 b 0):=aE λl _=>by
  rw[bT,fX,bT,wQ];congr 1;congr 1;grind
 rw[e3];grind
theorem Qz {e:Nat->Nat->Rat} (h:∀i,i < n->∀c,c < n->pF n A n (λc=>if c=i then 1 else 0) c=0) (he:∀t a,a < n->e (t+1) a=aU n λb=>A b a*e t b) (t:Nat) (ht:n<=t) (i:Nat) (hi:i < n):e t i=0:=by
 have key:∀s t (z:Nat->Rat),(aU n λa=>z a*e (t+s) a)=aU n λa=>pF n A s z a*e t a:=by
  intro s
  induction s with
  | zero=>intro t z;rfl
  | succ s ih =>
   intro t z
   have e1:∀a,a < n->z a*e (t+(s+1)) a=aU n λb=>A b a*z a*e (t+s) b:=λa ha=>by
    rw[show t+(s+1)=t+s+1 from rfl,he _ a ha,<- bT];show aE λb _=>by grind
   have e2:∀b,(aU n λa=>A b a*z a*e (t+s) b)=mF n A z b*e (t+s) b:=λb=>by
    unfold mF;rw[cL (aU _ _),<- bT];show aE λa _=>by grind
   rw[aE e1,ff,aE λb _=>e2 b,ih t (mF n A z)];show aE λa _=>by rw[qB]
 have k:=key n (t - n) (λc=>if c=i then 1 else 0);rw[show t - n+n=t by lia,iV hi λa _ ne=>by rw[if_neg ne,dk],if_pos rfl,Q7,bQ λa ha=>by rw[h i hi a ha,dk]] at k;show k
theorem RO (lA:A.9=n) (wA:∀xs∈A,xs.9=n) (h:∀x:List Rat,x.9=n->∀c,(jI A n x).4 c 0=0):∀i,i < n->∀c,c < n->pF n (bo A) n (λc=>if c=i then 1 else 0) c=0:=λi hi c _=>by
 have p:=congrFun (KZ lA wA (x:=nQ n ((i:Nat):Int)) vT n) c;rw[show (λc=>(nQ n ((i:Nat):Int)).4 c 0)=λc=>if c=i then 1 else 0 from funext λc=>ON hi] at p;rw[<- p];show h _ vT c
end
def wit (H:Hp) (d:Addr):Hp:=λq=>if q=d then some (.tup []) else H q
theorem Ff:wit H d d≠none:=by unfold wit;rw[if_pos rfl];show λz=>nomatch z
theorem uK (h:q≠d):wit H d q=H q:=by unfold wit;rw[if_neg h]
theorem uJ (h:wit H d q=none):H q=none:=by
 unfold wit at h
 split at h
 ·cases h
 ·show h
section
variable {K:_g} {H0 H:Hp} {p r d:Addr} {rows mv pt lk:_m} {xs:List V} {o:HO}
theorem bf.wit (h:bf K H0 H p rows) (n:H d=none):bf K (wit H0 d) H p rows:=by
 obtain us|g|q|m:=h;refine #[us,g,ce (λ_ _ #[a,e,z,R]=>#[a,e,?_,R]) q,m];obtain zs|gz|_:=R;rw[uK (λe=>by rw[e,n] at gz;cases gz)];show z
theorem dQ.wit (h:dQ K H0 H r mv pt lk) (n:H d=none):dQ K (wit H0 d) H r mv pt lk:=by
 obtain a|b|c|g|n1|n2|n3|g1|g2|g3:=h
 have ne:∀{p:Addr} {rows:_m},bf K H0 H p rows->p≠d:=λh e=>by
  obtain us|g|_:=h;rw[e,n] at g;cases g
 show #[a,b,c,g,by rw[uK (ne g1)];show n1,by rw[uK (ne g2)];show n2,by rw[uK (ne g3)];show n3,g1.wit n,g2.wit n,g3.wit n]
end
def Wx (J X:Addr->Prop) (H H':Hp):Prop:=∀a o,H a=some o->(J a->∀xs,o≠.lst xs)->(X a->∀C dx fs,o≠.ins C dx fs)->H' a=some o
section
variable {K:_g} {J X:Addr->Prop} {H H' H2 H0:Hp} {C p b r x l:Addr} {q:Rat} {v:V} {qs:List Rat} {rows mv pt lk:_m}
theorem Wx.of (s:aG H H'):Wx J X H H':=λa o h _ _=>s a o h
theorem Wx.trans (k:Wx J X H H') (k2:Wx J X H' H2):Wx J X H H2:=λa o h j x=>k2 a o (k a o h j x) j x
theorem Wx.exl (e:yL l H H') (g:H l=some (.lst ws)) (hl:J l):Wx J X H H':=λa o h j _=>e a o h λz=>by
 rw[z,g] at h;cases h;show j (by rw[z];show hl) _ rfl
theorem Wx.W! (u:c6 b H H') (B:kg H b) (hb:J b):Wx J X H H':=by
 obtain _|_|_|_|_|g|_:=B;show Wx.exl (λa o h n=>u.35 n h) g hb
theorem cg.wx (h:cg K H q v) (k:Wx J X H H'):cg K H' q v:=by
 obtain r|er|s:=h;refine #[r,er,?_];rcases s with (h | ⟨o,h⟩) | h
 ·show .inl (.inl (k _ _ h (λ_ _ z=>by cases z) λ_ _ _ _ z=>by cases z))
 ·show .inl (.inr #[o,k _ _ h (λ_ _ z=>by cases z) λ_ _ _ _ z=>by cases z])
 ·show .inr h
theorem cA.wx (h:cA K H p qs) (k:Wx J X H H') (n:¬J p):cA K H' p qs:=by
 obtain xs|g|r:=h;show #[xs,k _ _ g (λz=>absurd z n) λ_ _ _ _ z=>(by cases z),ce (λ_ _ z=>z.wx k) r]
theorem bf.wx (h:bf K H0 H p rows) (k:Wx J X H H') (n:H0 p=none) (hJ:∀q,H0 q=none->¬J q):bf K H0 H' p rows:=by
 obtain xs|g|r|nn:=h;show #[xs,k _ _ g (λz=>absurd z (hJ p n)) λ_ _ _ _ z=>(by cases z),ce (λ_ _ #[a,e,z,R]=>#[a,e,z,R.wx k (hJ a z)]) r,nn]
theorem dQ.wx (h:dQ K H0 H r mv pt lk) (k:Wx J X H H') (hJ:∀q,H0 q=none->¬J q):dQ K H0 H' r mv pt lk:=by
 obtain a|b|c|g|n1|n2|n3|g1|g2|g3:=h;show #[a,b,c,k _ _ g (λ_ _ z=>by cases z) λ_ _ _ _ z=>(by cases z),n1,n2,n3,g1.wx k n1 hJ,g2.wx k n2 hJ,g3.wx k n3 hJ]
theorem ip.wx (h:ip K H0 H C p mv pt lk) (k:Wx J X H H') (hJ:∀q,H0 q=none->¬J q) (hp:¬X p):ip K H0 H' C p mv pt lk:=by
 obtain dx|a|b|c|g|n1|n2|n3|g1|g2|g3:=h;show #[dx,a,b,c,k _ _ g (λ_ _ z=>by cases z) λz=>absurd z hp,n1,n2,n3,g1.wx k n1 hJ,g2.wx k n2 hJ,g3.wx k n3 hJ]
theorem ip.wit {d:Addr} (h:ip K H0 H C p mv pt lk) (n:H d=none):ip K (wit H0 d) H C p mv pt lk:=by
 obtain dx|a|b|c|g|n1|n2|n3|g1|g2|g3:=h
 have ne:∀{p:Addr} {rows:_m},bf K H0 H p rows->p≠d:=λh e=>by
  obtain us|g|_:=h;rw[e,n] at g;cases g
 show #[dx,a,b,c,g,by rw[uK (ne g1)];show n1,by rw[uK (ne g2)];show n2,by rw[uK (ne g3)];show n3,g1.wit n,g2.wit n,g3.wit n]
end
def pZ (sy a m:Addr):List (Str×V):=bS "mends" (.ref m) (bS "state" (.ref a) (bS "system" (.ref sy) []))
theorem Qk:pZ sy a m=[(("system":Str),V.ref sy),(("state":Str),V.ref a),(("mends":Str),V.ref m)]:=by
 unfold pZ;simp only[bS,if_neg (show ¬("system":Str)="state" by decide +kernel),if_neg (show ¬("system":Str)="mends" by decide +kernel),if_neg (show ¬("state":Str)="mends" by decide +kernel)]
theorem V7:bS "state" (.ref b) (pZ sy a m)=pZ sy b m:=by
 rw[Qk,Qk];simp only[bS,if_neg (show ¬("system":Str)="state" by decide +kernel),if_pos]
theorem EL:(pZ sy a m).13 ("system":Str)=some (.ref sy):=by
 unfold pZ;rw[aO,if_neg (by decide +kernel),aO,if_neg (by decide +kernel),aO,if_pos rfl]
theorem CM:(pZ sy a m).13 ("state":Str)=some (.ref a):=by
 unfold pZ;rw[aO,if_neg (by decide +kernel),aO,if_pos rfl]
theorem Qj:(pZ sy a m).13 ("mends":Str)=some (.ref m):=by
 unfold pZ;rw[aO,if_pos rfl]
theorem UB {f:Str} (h1:¬f="mends") (h2:¬f="state") (h3:¬f="system"):(pZ sy a m).13 f=none:=by
 unfold pZ;rw[aO,if_neg h1,aO,if_neg h2,aO,if_neg h3];rfl
theorem Ql:(pZ sy a m).13 ("guess":Str)=none:=UB (by decide +kernel) (by decide +kernel) (by decide +kernel)
theorem S6:(pZ sy a m).13 ("take":Str)=none:=UB (by decide +kernel) (by decide +kernel) (by decide +kernel)
theorem V8:(pZ sy a m).9=3:=by rw[Qk];rfl
structure T6 (K:_g) (C Cg:Addr) (H0 H:Hp) (x dx sy a m:Addr) (mv pt lk N:_m) (g:List Rat):Prop where
 i:H x=some (.ins Cg dx (pZ sy a m))
 R:cA K H a g
 mn:H0 m=none
 G:bf K H0 H m N
 S:ip K H0 H C sy mv pt lk
theorem T6.same {K:_g} {g:List Rat} (h:T6 K C Cg H0 H x dx sy a m mv pt lk N g) (s:aG H H'):T6 K C Cg H0 H' x dx sy a m mv pt lk N g:=#[s _ _ h.i,h.R.10 s,h.mn,h.G.10 s,h.S.10 s]
structure Yf (mv pt lk N:_m) (g st pu:List Rat):Prop where
 fs:∀xs∈lk,uD xs st
 fg:qe 1800000 1800000 g
 z1:∀z∈seenQ lk g,jX z
 z2:∀z∈seenQ lk st,jX z
 fm:qe 1800000 1800000 (g++pu)
 nx:YX mv pt st pu
 fn:∀xs∈N,uD xs (Wv (λx y=>x - y) (seenQ lk g) (seenQ lk st))
 p1:∀z∈c7 mv pt g pu,jX z
 p2:∀z∈N.12 (λxs=>fe xs (Wv (λx y=>x - y) (seenQ lk g) (seenQ lk st))),jX z
inductive Ey (K:_g) (C Cg:Addr) (vs:List V) (H:Hp) (Q:VK) (E9:XK):Prop
 | mk (x dx sy a m:Addr) (H0:Hp) (mv pt lk N:_m) (g:List Rat):vs=[.ref x]->T6 K C Cg H0 H x dx sy a m mv pt lk N g->g.length<=900->(∀r H',H r=none->aG H H'->cA K H' r g->Q (.ref r) H')->Ey K C Cg vs H Q E9
inductive Im (K:_g) (C Cg:Addr) (vs:List V) (H:Hp) (Q:VK) (E9:XK):Prop
 | mk (x dx sy a m u y:Addr) (H0:Hp) (mv pt lk N:_m) (g st pu:List Rat):vs=[.ref x,.ref u,.ref y]->T6 K C Cg H0 H x dx sy a m mv pt lk N g->eO mv pt lk->Dk mv pt lk->N.9=mv.9->(∀xs∈N,xs.9=lk.9)->cA K H u pu->cA K H y (seenQ lk st)->g.length=mv.9->pu.9=pt.9->Yf mv pt lk N g st pu->(∀a' H',H a'=none->yL x H H'->H' x=some (.ins Cg dx (pZ sy a' m))->cA K H' a' (uf mv pt lk N g pu (seenQ lk st))->Q ._B H')->Im K C Cg vs H Q E9
theorem Ie (h:Kf A lk n t e []) (RR:bL (iI A lk t) n R ps):ps.9=n:=by
 have:=h.cnt RR;rw[RR.1] at this;show (Nk _).symm.trans this
inductive Bw (K:_g) (C Cg Cn:Addr) (vs:List V) (H:Hp) (Q:VK) (E:XK):Prop
 | mk (x dx sy:Addr) (Hb H0:Hp) (mv pt lk:_m):vs=[.ref x,.ref sy]->Hb x=none->Hb dx=none->dx≠x->H=upd (upd Hb dx (.own x)) x (.ins Cg dx [])->ip K H0 Hb C sy mv pt lk->eO mv pt lk->Dk mv pt lk->C7 (a9 mv mv.9) lk pt->(∀a m G H',aG Hb H'->Kf (a9 mv mv.9) lk mv.9 mv.9 1000 []->H' x=some (.ins Cg dx (pZ sy a m))->Hb a=none->cA K H' a (Wb mv.9 0)->Hb m=none->bf K Hb H' m (a9 G mv.9)->G.9=lk.9->(∀xs∈G,xs.9=mv.9)->Kk (a9 mv mv.9) lk (Wb mv.9 0) G->Q ._B H')->(∀Hd dq H',aG Hb H'->Kf (a9 mv mv.9) lk mv.9 mv.9 1000 Hd->0 < Hd.9->E (.ref Cn) (some dq) H')->Bw K C Cg Cn vs H Q E
theorem Wx.set (g:H l=some (.lst ws)) (hl:J l):Wx J X H (L2.upd H l o):=Wx.exl (λb u h n=>by rw[aR n];show h) g hl
def T7 (G:_m):Prop:=∃N,0 < N/\N<=2^24000/\∀xs∈G,∀z∈xs,Fr N (2^12001) z
section
variable {t M V W p e:Nat}
theorem Mq (gl:GF M V lk) (lw:∀xs∈lk,xs.9=x.9) (n8:x.9<=8) (hV:V<=2^120) (hx:∀z∈x,Fr W (2^p) z):∀z∈seenQ lk x,Fr (M*W) (2^(123+p)) z:=λz hz=>by
 obtain xs|hs|rfl:=au.mp hz;refine (Fr.dot (gl xs hs) hx).24 ?_;rw[lw xs hs];refine ag (aL (show x.9<=2^3 from n8) (ay _ hV)) ?_;rw[<- bg,<- bg];show ak () ()
end
section
variable {mv pt lk G:_m} {g st:List Rat} {A:Nat->Nat->Rat} {n t:Nat}
def TX (A:Nat->Nat->Rat) (n t:Nat) (g st:List Rat):Prop:=∃e:Nat->Nat->Rat,(∀s a,a < n->e (s+1) a=aU n λb=>A b a*e s b)/\∀a,a < n->e t a=g.getD a 0 - st.4 a 0
theorem OR:TX A n 0 g st:=#[λs=>Nat.rec (λa=>g.getD a 0 - st.4 a 0) (λ_ f a=>aU n λb=>A b a*f b) s,λ_ _ _=>rfl,λ_ _=>rfl]
theorem TX.next (h:TX A n t g st) (hn:∀a,a < n->g'.4 a 0 - st'.4 a 0=aU n λb=>A b a*(g.getD b 0 - st.4 b 0)):TX A n (t+1) g' st':=by
 obtain e|h1|h2:=h;show #[e,h1,λa ha=>by rw[h1 t a ha,hn a ha];show aE λb hb=>by rw[h2 b hb]]
theorem TX.eq (h:TX (bo (kZ (a9 mv mv.9) lk G)) mv.9 t g st) (D:eO mv pt lk) (KP:Kk (a9 mv mv.9) lk (Wb mv.9 0) G) (ht:mv.9<=t) (lg:g.length=mv.9) (ls:st.9=mv.9):g=st:=by
 obtain e|h1|h2:=h;have et:(a9 mv mv.9).9=mv.9:=cz;have lc:(kZ (a9 mv mv.9) lk G).9=mv.9:=by rw[gY,et]
 have z:=Qz (n:=mv.9) (A:=bo (kZ (a9 mv mv.9) lk G)) (RO lc (λxs hx=>by rw[JP xs hx,et]) λx lx c=>by
  have:=KP.1 x (by rw[et];show lx) c;rw[et] at this;rw[this];show bQ λi _=>by rw[BW,dk]) h1 t ht
 apply dO (by rw[lg,ls]);intro i hi hi';have:=h2 i ();rw[z i (),aa,aa,ae hi,ae hi'] at this;have e2:(0:Rat)=g[i] - st[i]:=this;grind
end
structure RD where
 q:Addr
 r:Addr
 x:Addr
 dx:Addr
 sy:Addr
 m:Addr
 H0:Hp
 H1:Hp
 mv:_m
 pt:_m
 lk:_m
 G:_m
structure RD.Ok (D:RD):Prop where
 d:eO D.mv D.pt D.lk
 f:Dk D.mv D.pt D.lk
 lG:D.G.9=D.lk.9
 wG:∀xs∈D.G,xs.9=D.mv.9
 kp:Kk (a9 D.mv D.mv.9) D.lk (Wb D.mv.9 0) D.G
structure RD.Kept (D:RD) (J X:Addr->Prop):Prop where
 h0:∀p,D.H0 p=none->¬J p
 h1:∀p,D.H1 p=none->¬J p
 q:J D.q
 x:X D.x
 sy:¬X D.sy
def zV (K:_g) (J:Addr->Prop) (H:Hp) (v:V):Prop:=∃t a c g,v=.ref t/\H t=some (.tup [.ref a,.ref c])/\cA K H a g/\cA K H c g/\¬J a/\¬J c/\g.length<=8
theorem zV.wx {K:_g} (h:zV K J H v) (k:Wx J' X' H H') (hJ:∀p,J' p->J p):zV K J H' v:=by
 obtain t|a|c|g|e|gt|R1|R2|n1|n2|l:=h;show #[t,a,c,g,e,k _ _ gt (λ_ _ z=>by cases z) λ_ _ _ _ z=>(by cases z),R1.wx k λz=>n1 (hJ _ z),R2.wx k λz=>n2 (hJ _ z),n1,n2,l]
def RD.wit (h:Addr) (D:RD):RD:={ D with H0:=L2.wit D.H0 h,H1:=L2.wit D.H1 h }
theorem Cf:∀{l:List Int} {ys:List V},Y9 (λn v=>v=V.int n) l ys->ys=l.12 V.int
 | [],_,.nil=>rfl
 | _ :: _,_,.cons e r=>by rw[e,Cf r];rfl
theorem z9 {α β:Type} {F:α->β->Prop} {g:α->β}:∀{l:List α},(∀a∈l,F a (g a))->Y9 F l (l.12 g)
 | [],_=>.nil
 | a :: l,h=>.cons (h a (.head _)) (z9 λx m=>h x (.tail _ m))
theorem S4 (h:T7 G):T7 (a9 G n):=by
 obtain N|N0|N1|f:=h;refine #[N,N0,N1,λxs hx z hz=>?_];obtain j|_|rfl:=au.mp hx;obtain ys|hy|rfl:=au.mp hz;by_cases hj:j < ys.9
 ·rw[aa,ae hj];show f ys hy _ (aw hj)
 ·rw[aa,aA ()];show Fr.zero
theorem Nd {α:Type}:∀l:List α,(l.12 λ_=>true).all id=true
 | []=>rfl
 | _ :: l=>Nd l
theorem EE {α:Type} {f:α->Bool}:∀{l:List α} {ys:List V},Y9 (λb v=>v=V.bl b) (l.12 f) ys->ys=(l.12 f).12 V.bl
 | [],_,.nil=>rfl
 | _ :: _,_,.cons e r=>by rw[e,EE r];rfl
theorem ED {F:V->V->Prop}:∀{l:List V},(∀v∈l,F v v)->Y9 F l l
 | [],_=>.nil
 | v :: l,h=>.cons (h v (.head _)) (ED λx m=>h x (.tail _ m))
noncomputable def wJ (J:Addr->Prop):Hp:=λp=>open Classical in if J p then some (.tup []) else none
section
variable {K:_g}
theorem Ua (h:J q):wJ J q≠none:=by unfold wJ;rw[if_pos h];show λz=>nomatch z
theorem L8 (h:¬J q):wJ J q=none:=by unfold wJ;rw[if_neg h]
theorem wX (h:wJ J q=none):¬J q:=λz=>Ua z h
theorem bf.toJ (h:bf K H0 H p rows) (hJ:∀q,J q->H0 q≠none\/H q=none):bf K (wJ J) H p rows:=by
 obtain us|g|q|m:=h;refine #[us,g,ce (λ_ _ #[a,e,z,R]=>#[a,e,L8 λj=>?_,R]) q,m];obtain zs|gz|_:=R;rcases hJ a j with h | h
 ·show h z
 ·rw[h] at gz;cases gz
theorem bf.noJ (h:bf K H0 H p rows) (n:H0 p=none) (hJ:∀q,J q->H0 q≠none\/H q=none):wJ J p=none:=L8 λj=>by
 obtain us|g|_:=h;rcases hJ p j with h | h
 ·show h n
 ·rw[h] at g;cases g
theorem dQ.toJ (h:dQ K H0 H r mv pt lk) (hJ:∀q,J q->H0 q≠none\/H q=none):dQ K (wJ J) H r mv pt lk:=by
 obtain a|b|c|g|n1|n2|n3|g1|g2|g3:=h;show #[a,b,c,g,g1.noJ n1 hJ,g2.noJ n2 hJ,g3.noJ n3 hJ,g1.toJ hJ,g2.toJ hJ,g3.toJ hJ]
theorem ip.toJ (h:ip K H0 H C p mv pt lk) (hJ:∀q,J q->H0 q≠none\/H q=none):ip K (wJ J) H C p mv pt lk:=by
 obtain dx|a|b|c|g|n1|n2|n3|g1|g2|g3:=h;show #[dx,a,b,c,g,g1.noJ n1 hJ,g2.noJ n2 hJ,g3.noJ n3 hJ,g1.toJ hJ,g2.toJ hJ,g3.toJ hJ]
end
structure Yg (mv pt lk:_m):Prop where
 d:eO mv pt lk
 f:Dk mv pt lk
 y:C7 (a9 mv mv.9) lk pt
structure xM (K:_g) (Cg:Addr) (H0 H:Hp) (x dx sy a m:Addr) (mv lk G:_m):Prop where
 i:H x=some (.ins Cg dx (pZ sy a m))
 R:cA K H a (Wb mv.9 0)
 na:H0 a=none
 mn:H0 m=none
 gm:bf K H0 H m (a9 G mv.9)
 lG:G.9=lk.9
 wG:∀xs∈G,xs.9=mv.9
 kp:Kk (a9 mv mv.9) lk (Wb mv.9 0) G
section
variable {K:_g}
theorem xM.same (h:xM K Cg H0 H x dx sy a m mv lk G) (s:aG H H'):xM K Cg H0 H' x dx sy a m mv lk G:=#[s _ _ h.i,h.R.10 s,h.na,h.mn,h.gm.10 s,h.lG,h.wG,h.kp]
theorem xM._i (h:xM K Cg H0 H x dx sy a m mv lk G) (u:c6 b H H') (B:kg H b) (nb:H0 b≠none):xM K Cg H0 H' x dx sy a m mv lk G:=by
 obtain _|_|_|_|_|gb|_:=id B;show #[u.35 (λz=>by have:=h.i;rw[z,gb] at this;cases this) h.i,h.R._i u B λz=>nb (by rw[<- z];show h.na),h.na,h.mn,h.gm._i u B (λz=>nb (by rw[<- z];show h.mn)) nb,h.lG,h.wG,h.kp]
theorem xM.toJ (h:xM K Cg H0 H x dx sy a m mv lk G) (hJ:∀q,J q->H0 q≠none\/H q=none):xM K Cg (wJ J) H x dx sy a m mv lk G:=by
 refine #[h.i,h.R,L8 λj=>?_,h.gm.noJ h.mn hJ,h.gm.toJ hJ,h.lG,h.wG,h.kp];obtain _|g|_:=h.R;rcases hJ a j with z | z
 ·show z h.na
 ·rw[z] at g;cases g
theorem xM.wx (h:xM K Cg H0 H x dx sy a m mv lk G) (k:Wx J' (λ_=>False) H H') (hJ:∀p,H0 p=none->¬J' p):xM K Cg H0 H' x dx sy a m mv lk G:=#[k _ _ h.i (λ_ _ z=>by cases z) λz=>z.45,h.R.wx k (hJ _ h.na),h.na,h.mn,h.gm.wx k h.mn hJ,h.lG,h.wG,h.kp]
theorem xM.gsx (h:xM K Cg H0 H x dx sy a m mv lk G) (S:ip K H0 H C sy mv pt lk):T6 K C Cg H0 H x dx sy a m mv pt lk (a9 G mv.9) (Wb mv.9 0):=#[h.i,h.R,h.mn,h.gm,S]
end
theorem QT:((Zi 8).12 λ(i:Nat)=>(Zi 8).12 λ(j:Nat)=>(((if decide ((j:Int)=(i:Int)+1)=true then 1 else 0:Int)):Rat)).30 7 ls=wd 8 ls:=by
 rw[<- Tx (n:=8) ()];rfl
theorem WU:((Zi 8).12 λ(j:Nat)=>if ((j:Nat):Int)=((k:Nat):Int) then (1:Rat) else 0)=nQ 8 ((k:Nat):Int):=rfl
theorem VS (hl:ls.9=8) (hf:∀x∈ls,Fr 1 2 x):Yg (wd 8 ls) [nQ 8 ((7:Nat):Int)] [nQ 8 ((0:Nat):Int)]:=by
 have B:=MJ hl () hf;have D0:=VV hl ();have lc:(wd 8 ls).9=8:=yH;have D:eO (wd 8 ls) [nQ 8 ((7:Nat):Int)] [nQ 8 ((0:Nat):Int)]:=#[D0.n8,D0.i4,(show 1<=4 by decide),D0.mw,D0.pw,λxs hx=>by rw[aM.mp hx,vT,lc]]
 have gk:∀k:Nat,GF 1 2 [nQ 8 ((k:Nat):Int)]:=λk xs hx x _v=>by
  rw[aM.mp hx] at _v;show (OO x _v).24 ()
 have F:Dk (wd 8 ls) [nQ 8 ((7:Nat):Int)] [nQ 8 ((0:Nat):Int)]:=#[1,2,(),bD,(),B.gm,gk 7,gk 0]
 have gt:GF 1 2 (a9 (wd 8 ls) (wd 8 ls).9):=λxs hx z hz=>by
  obtain j|_|rfl:=au.mp hx;obtain ys|hy|rfl:=au.mp hz;by_cases hj:j < ys.9
  ·rw[aa,ae hj];show B.gm ys hy _ (aw hj)
  ·rw[aa,aA ()];show Fr.zero
 show #[D,F,MI #[(),(),ah _,ah _,gt,gk 0,by rw[cz,lc];decide] D.turn F.sf.ok.2.1]
theorem Lq {l:List Rat} (h:∀x∈l,Dr (max f 6) x) (hf:(f=9/\l.9<=8)\/(f=1000/\l.9<=2)):∃B,0 < B/\B<=2^40/\∀x∈l,Fr B (2^40) x:=by
 rcases hf with ⟨rfl,hl⟩ | ⟨rfl,hl⟩
 ·obtain B|h0|h1|h2:=EU (c:=4) (l:=l) (λx hx=>#[ag (h x hx).1 (),ag (h x hx).2 ()]) ();show #[B,h0,ag h1 (jP ()),λx hx=>(h2 x hx).24 (jP ())]
 ·obtain B|h0|h1|h2:=EU (c:=10) (l:=l) (λx hx=>#[ag (h x hx).1 (),ag (h x hx).2 ()]) ();show #[B,h0,ag h1 (jP ()),λx hx=>(h2 x hx).24 (jP ())]
def L0 (t:Nat) (g st:List Rat):Prop:=∃N,0 < N/\N<=2^(50+t*49000)/\(∀x∈g,Fr N (2^(50+t*24300)) x)/\∀x∈st,Fr N (2^(50+t*24300)) x
section
variable {mv pt lk N G:_m} {g st x:List Rat} {t:Nat}
theorem N6 (F:Dk mv pt lk) (D:eO mv pt lk) (ht:t<=19) (lN:N.9=mv.9) (wN:∀xs∈N,xs.9=lk.9) (GN:T7 N) (lG:G.9=pt.9) (wG:∀xs∈G,xs.9=mv.9) (GG:T7 G) (lg:g.length=mv.9) (ls:st.9=mv.9) (h:L0 t g st):Yf mv pt lk N g st (il G g)/\L0 (t+1) (uf mv pt lk N g (il G g) (seenQ lk st)) (c7 mv pt st (il G g))/\(∀xs∈G,uD xs g)/\∀z∈il G g,jX z:=by
 obtain M|V|M0|M1|V1|gm|gp|gl:=F;obtain Nt|N0|N1|hg|hs:=h;obtain Mg|G0|G1|hG:=GN;obtain B|B0|B1|hB:=GG;have d8:=D.n8;have o4:=D.o4;have lu:(il G g).9=pt.9:=by unfold il;rw[af,lG]
 obtain ⟨p,ep⟩:∃p,50+t*24300=p:=#[_,rfl];obtain ⟨v,ev⟩:∃v,50+t*49000=v:=#[_,rfl];rw[ep] at hg hs;rw[ev] at N1;have pm:p<=461750:=()
 have vm:v<=931050:=()
 have X:Bd mv pt M M V 400 400 124:=#[M0,M0,M1,M1,gm,gp,ag (aL (show mv.9+4<=2^4 by change mv.9+4<=16;lia) V1) (by rw[<- bg];show ah _)]
 have hu:∀z∈il G g,Fr (B*Nt) (2^(12004+p)) z:=λz hz=>by
  obtain xs|hx|rfl:=au.mp hz;refine (Fr.dot (hB xs hx) hg).24 ?_;rw[wG xs hx];refine ag (aL (show mv.9<=2^3 from d8) (ah _)) ?_;rw[<- bg,<- bg];show ak () ()
 have BN0:0 < B*Nt:=bY B0 N0;have BN:B*Nt<=2^(24000+v):=by rw[bg];show aL B1 N1
 have up:∀{W a b:Nat} {z:Rat},a<=b->Fr W (2^a) z->Fr W (2^b) z:=λhab h=>h.24 (ak () hab)
 have dv:M*(B*Nt)∣M*(B*Nt):=Nat.dvd_refl _;obtain nx|ms:=X.next D ls lu BN0 dv (λx hx=>up () ((hs x hx)._N B)) hu BN () ();obtain nxg|mg:=X.next D lg lu BN0 dv (λx hx=>up () ((hg x hx)._N B)) hu BN () ();have sg:=Mq gl (λxs hx=>by rw[D.lw xs hx,lg]) () V1 hg;have ss:=Mq gl (λxs hx=>by rw[D.lw xs hx,ls]) () V1 hs
 have df:∀z∈Wv (λx y=>x - y) (seenQ lk g) (seenQ lk st),Fr (M*Nt) (2^(124+p)) z:=λz hz=>by
  obtain i|hi|rfl:=bu hz;rw[cP];refine ((sg _ (aw _)).sub (ss _ (aw _))).24 ?_;rw[show 124+p=1+(123+p) by lia,bg 2 1]
  lia
 have MN0:0 < M*Nt:=bY M0 N0;have MN:M*Nt<=2^(400+v):=by rw[bg];show aL M1 N1
 have nd:∀z∈N.12 (λxs=>fe xs (Wv (λx y=>x - y) (seenQ lk g) (seenQ lk st))),Fr (Mg*(M*Nt)) (2^(12127+p)) z:=λz hz=>by
  obtain xs|hx|rfl:=au.mp hz;refine (Fr.dot (hG xs hx) df).24 ?_;rw[wN xs hx];refine ag (aL (show lk.9<=2^2 from o4) (ah _)) ?_;rw[<- bg,<- bg];show ak () ()
 have GM0:0 < Mg*(M*Nt):=bY G0 MN0;have GM:Mg*(M*Nt)<=2^(24000+(400+v)):=by rw[bg];show aL G1 MN
 have fl:∀xs∈lk,qe 400 120 xs:=λxs hx=>#[M,V,M0,M1,V1,gl xs hx]
 have MB0:0 < M*(B*Nt):=bY M0 BN0;have e1:Mg*(M*(B*Nt))=Mg*(M*Nt)*B:=by grind
 refine #[#[λxs hx=>#[400,120,v,p,fl xs hx,#[Nt,_,N0,N1,ah _,hs],()],#[Nt,_,N0,ag N1 (ak () ()),ak () (),hg],λz hz=>vF MN0 MN (ah _) () (sg z hz),λz hz=>vF MN0 MN (ah _) () (ss z hz),#[B*Nt,2^(12004+p),BN0,ag BN (ak () ()),ak () (),λx hx=>?_],nx,λxs hx=>#[24000,12001,400+v,124+p,#[Mg,_,G0,G1,ah _,hG xs hx],#[M*Nt,_,MN0,MN,ah _,df],()],λz hz=>vF MB0 (show M*(B*Nt)<=2^(400+(24000+v)) by rw[bg];show aL M1 BN) (ah _) () (mg z hz),λz hz=>vF GM0 GM (ah _) () (nd z hz)],#[Mg*(M*Nt)*B,bY GM0 B0,?_,λz hz=>?_,λz hz=>?_],λxs hx=>#[24000,12001,v,p,#[B,_,B0,B1,ah _,hB xs hx],#[Nt,_,N0,N1,ah _,hg],()],λz hz=>vF BN0 BN (ah _) () (hu z hz)]
 ·rcases aB.mp hx with hx | hx
  ·show up () ((hg x hx)._N B)
  ·show hu x hx
 ·refine ag (aL GM B1) ?_;rw[<- bg];show ak () ()
 ·unfold uf at hz;obtain i|hi|rfl:=bu hz;rw[cP];rw[aJ] at hi;have a1:=(mg _ (aw (n:=i) ()))._N Mg;have a2:=(nd _ (aw (n:=i) ())).scale B;rw[e1] at a1;refine (a1.add a2).24 ?_;refine ag (Nat.add_le_add (ah _) (ak () (show 12127+p<=124+(12004+p) by lia))) ?_;refine ag (A6 (show 2^(124+(12004+p))+2^(124+(12004+p))=2^(124+(12004+p)+1) by rw[c8];lia)) (ak () ())
 ·have a1:=up (show 124+(12004+p)<=50+(t+1)*24300 by lia) ((ms z hz)._N Mg);rw[e1] at a1;show a1
def Kg (mv pt G:_m) (t:Nat) (st:List Rat):Prop:=mv.9<=t->∃x:List Rat,x.9=mv.9/\st=jI (kZ mv pt G) (t - mv.9) x
theorem Kg.next (h:Kg mv pt G t st) (D:eO mv pt lk) (lG:G.9=pt.9) (wG:∀xs∈G,xs.9=mv.9) (lg:g.length=mv.9) (ls:st.9=mv.9) (e:mv.9<=t->g=st):Kg mv pt G (t+1) (c7 mv pt st (il G g)):=λht=>by
 rcases aX t mv.9 with z | z
 ·show #[_,tO D,by rw[show t+1 - mv.9=0 by lia];rfl]
 ·obtain x|lx|ex:=h z;refine #[x,lx,?_];rw[e z,TB D ls lG wG,ex,show t+1 - mv.9=t - mv.9+1 by lia];rfl
theorem Kg.rest (h:Kg mv pt G t st) (KP:Kk mv pt (Wb mv.9 0) G) (ht:2*mv.9<=t):st=Wb mv.9 0:=by
 obtain x|lx|ex:=h ();have lp:(jI (kZ mv pt G) (t - mv.9) x).9=mv.9:=IW lx _;rw[ex]
 have e:jI (kZ mv pt G) (t - mv.9) x=jI (kZ mv pt G) mv.9 (jI (kZ mv pt G) (t - mv.9 - mv.9) x):=by
  rw[pow_add,show t - mv.9 - mv.9+mv.9=t - mv.9 by lia]
 apply dO (by rw[lp,bK]);intro i hi hi';have k:=KP.1 (jI (kZ mv pt G) (t - mv.9 - mv.9) x) (IW lx _) i;rw[<- e,bQ λj _=>by rw[BW,dk],aa,ae hi] at k;rw[List.getElem_replicate];show k
theorem SK (wG:∀xs∈G,xs.9=mv.9):il G (Wb mv.9 0)=Wb G.9 0:=by
 unfold il;rw[List.eq_replicate_iff];refine #[af ..,λz hz=>?_];obtain xs|hx|rfl:=au.mp hz;rw[gX (by rw[wG xs hx,bK])];show bQ λj _=>by rw[BW,fq]
end
def DA (w x:Addr):List (Str×V):=bS "guesser" (.ref x) (bS "rows" (.ref w) [])
theorem Sw:(DA w x).13 ("rows":Str)=some (.ref w):=by
 unfold DA;rw[aO,if_neg (by decide +kernel),aO,if_pos rfl]
theorem BY:(DA w x).13 ("guesser":Str)=some (.ref x):=by
 unfold DA;rw[aO,if_pos rfl]
theorem VE:(DA w x).13 ("put_for":Str)=none:=by
 unfold DA;rw[aO,if_neg (by decide +kernel),aO,if_neg (by decide +kernel)];rfl
structure xK (K:_g) (Cg Cp:Addr) (H0 H:Hp) (z dz w x dx sy a m:Addr) (mv pt lk F G:_m):Prop where
 i:H z=some (.ins Cp dz (DA w x))
 wn:H0 w=none
 gw:bf K H0 H w F
 lF:F.9=pt.9
 wF:∀xs∈F,xs.9=mv.9
 kF:Kk mv pt (Wb mv.9 0) F
 g:xM K Cg H0 H x dx sy a m mv lk G
section
variable {K:_g}
theorem xK.same (h:xK K Cg Cp H0 H z dz w x dx sy a m mv pt lk F G) (s:aG H H'):xK K Cg Cp H0 H' z dz w x dx sy a m mv pt lk F G:=#[s _ _ h.i,h.wn,h.gw.10 s,h.lF,h.wF,h.kF,h.g.10 s]
theorem xK._i (h:xK K Cg Cp H0 H z dz w x dx sy a m mv pt lk F G) (u:c6 b H H') (B:kg H b) (nb:H0 b≠none):xK K Cg Cp H0 H' z dz w x dx sy a m mv pt lk F G:=by
 obtain _|_|_|_|_|gb|_:=id B;show #[u.35 (λe=>by have:=h.i;rw[e,gb] at this;cases this) h.i,h.wn,h.gw._i u B (λe=>nb (by rw[<- e];show h.wn)) nb,h.lF,h.wF,h.kF,h.g._i u B nb]
theorem xK.toJ (h:xK K Cg Cp H0 H z dz w x dx sy a m mv pt lk F G) (hJ:∀q,J q->H0 q≠none\/H q=none):xK K Cg Cp (wJ J) H z dz w x dx sy a m mv pt lk F G:=#[h.i,h.gw.noJ h.wn hJ,h.gw.toJ hJ,h.lF,h.wF,h.kF,h.g.toJ hJ]
theorem xK.wx (h:xK K Cg Cp H0 H z dz w x dx sy a m mv pt lk F G) (k:Wx J' (λ_=>False) H H') (hJ:∀p,H0 p=none->¬J' p):xK K Cg Cp H0 H' z dz w x dx sy a m mv pt lk F G:=#[k _ _ h.i (λ_ _ e=>by cases e) λe=>e.45,h.wn,h.gw.wx k h.wn hJ,h.lF,h.wF,h.kF,h.g.wx k hJ]
end
structure LW (mv pt lk:_m):Prop where
 p:Yg mv pt lk
 y:C7 mv pt lk
inductive Ir (K:_g) (C Cg Cp Cn Cs:Addr) (vs:List V) (H:Hp) (Q:VK) (E:XK):Prop
 | mk (z dz sy:Addr) (Hb H0:Hp) (mv pt lk:_m):vs=[.ref z,.ref sy]->Hb z=none->Hb dz=none->dz≠z->H=upd (upd Hb dz (.own z)) z (.ins Cp dz [])->ip K H0 Hb C sy mv pt lk->LW mv pt lk →
  (∀w x dx a m F G R ps H',aG Hb H'->bL (iI mv pt mv.9) mv.9 R ps->ps.9=mv.9->Kf (a9 mv mv.9) lk mv.9 mv.9 1000 []->Hb x=none->xK K Cg Cp Hb H' z dz w x dx sy a m mv pt lk F G->Q ._B H') →
  (∀R ps dq H',bL (iI mv pt mv.9) mv.9 R ps->ps.9 < mv.9->aG Hb H'->E (.ref Cn) (some dq) H') →
  (∀Hd dq H',aG Hb H'->Kf (a9 mv mv.9) lk mv.9 mv.9 1000 Hd->0 < Hd.9->E (.ref Cs) (some dq) H')->Ir K C Cg Cp Cn Cs vs H Q E
inductive Iq (K:_g) (C Cg Cp:Addr) (vs:List V) (H:Hp) (Q:VK) (E9:XK):Prop
 | mk (sy:Addr) (H0:Hp) (mv pt lk R R2:_m) (ps h!:List Nat) (fl:Bool):vs=[.ref sy]->ip K H0 H C sy mv pt lk->LW mv pt lk->bL (iI mv pt mv.9) mv.9 R ps->bL (iI (a9 mv mv.9) lk mv.9) mv.9 R2 h!->fl=decide (ps.9=mv.9/\h!.9=mv.9)->(∀z dz w x dx a m F G H',aG H H'->(fl=true->H x=none/\xK K Cg Cp H H' z dz w x dx sy a m mv pt lk F G)->Q (if fl then .ref z else ._B) H')->Iq K C Cg Cp vs H Q E9
inductive Em (K:_g) (C Cg Cp:Addr) (vs:List V) (H:Hp) (Q:VK) (E9:XK):Prop
 | mk (z dz w x dx sy a m y:Addr) (H0:Hp) (mv pt lk N F:_m) (g st:List Rat):vs=[.ref z,.ref y]->H z=some (.ins Cp dz (DA w x))->H0 w=none->bf K H0 H w F->T6 K C Cg H0 H x dx sy a m mv pt lk N g->eO mv pt lk->Dk mv pt lk->N.9=mv.9->(∀xs∈N,xs.9=lk.9)->F.9=pt.9->(∀xs∈F,xs.9=mv.9)->cA K H y (seenQ lk st)->g.length=mv.9->Yf mv pt lk N g st (il F g)->(∀xs∈F,uD xs g)->(∀q∈il F g,jX q)->(∀u a' H',H u=none->H a'=none->u≠a'->yL x H H'->H' x=some (.ins Cg dx (pZ sy a' m))->cA K H' u (il F g)->cA K H' a' (uf mv pt lk N g (il F g) (seenQ lk st))->Q (.ref u) H')->Em K C Cg Cp vs H Q E9
inductive BI (K:_g) (C Cg Cp:Addr) (vs:List V) (H:Hp) (Q:VK) (E9:XK):Prop
 | mk (z dz w x dx sy a m r s h:Addr) (H0 H1:Hp) (ws:List V) (mv pt lk N F:_m) (g st:List Rat) (la:Bool):vs=[.ref z,.ref r,.ref s,.bl la,.ref h]->H z=some (.ins Cp dz (DA w x))->H0 w=none->bf K H0 H w F->T6 K C Cg H0 H x dx sy a m mv pt lk N g->dQ K H1 H r mv pt lk->eO mv pt lk->Dk mv pt lk->N.9=mv.9->(∀xs∈N,xs.9=lk.9)->F.9=pt.9->(∀xs∈F,xs.9=mv.9)->cA K H s st->g.length=mv.9->st.9=mv.9->Yf mv pt lk N g st (il F g)->(∀xs∈F,uD xs g)->(∀q∈il F g,jX q)->H h=some (.lst ws)->ws.9<=900->s≠h->H1 h≠none->(la=true->st=Wb mv.9 0/\il F g=Wb pt.9 0) →
  (∀a' t ws' H',H a'=none->H t=none->Wx (λp=>p=h) (λp=>p=x) H H'->H' x=some (.ins Cg dx (pZ sy a' m))->cA K H' a' (uf mv pt lk N g (il F g) (seenQ lk st))->cA K H' t (c7 mv pt st (il F g))->H' h=some (.lst ws')->ws'.9<=ws.9+1->(∀v∈ws',v∈ws\/zV K (λp=>H p≠none) H' v)->Q (.ref t) H')->BI K C Cg Cp vs H Q E9
theorem zV.mono {K:_g} (h:zV K J H v) (hJ:∀p,J' p->J p):zV K J' H v:=by
 obtain t|a|c|g|e|gt|R1|R2|n1|n2|l:=h;show #[t,a,c,g,e,gt,R1,R2,λj=>n1 (hJ _ j),λj=>n2 (hJ _ j),l]
structure RE where
 D:RD
 z:Addr
 dz:Addr
 w:Addr
 F:_m
structure RE.Ok (R:RE):Prop where
 o:R.D.Ok
 lF:R.F.9=R.D.pt.9
 wF:∀xs∈R.F,xs.9=R.D.mv.9
 kF:Kk R.D.mv R.D.pt (Wb R.D.mv.9 0) R.F
structure RE.Ag (K:_g) (C Cg Cp:Addr) (J:Addr->Prop) (H:Hp) (R:RE) (t:Nat) (g st:List Rat) (a s:Addr):Prop where
 q:H R.D.q=some (.lst [.ref R.D.r,.ref R.z,.ref s])
 i:H R.z=some (.ins Cp R.dz (DA R.w R.D.x))
 wn:R.D.H0 R.w=none
 W:bf K R.D.H0 H R.w R.F
 P:dQ K R.D.H1 H R.D.r R.D.mv R.D.pt R.D.lk
 X:T6 K C Cg R.D.H0 H R.D.x R.D.dx R.D.sy a R.D.m R.D.mv R.D.pt R.D.lk (a9 R.D.G R.D.mv.9) g
 S:cA K H s st
 ja:¬J a
 js:¬J s
 lg:g.length=R.D.mv.9
 ls:st.9=R.D.mv.9
 tr:TX (bo (kZ (a9 R.D.mv R.D.mv.9) R.D.lk R.D.G)) R.D.mv.9 t g st
 t9:Kg R.D.mv R.D.pt R.F t st
 gd:L0 t g st
def RE.At (K:_g) (C Cg Cp:Addr) (J:Addr->Prop) (H:Hp) (R:RE) (t:Nat):Prop:=∃g st a s,R.Ag K C Cg Cp J H t g st a s
section
variable {K:_g} {J X J' X':Addr->Prop} {R:RE} {g st:List Rat}
theorem RE.Ag.wx (h:R.Ag K C Cg Cp J H t g st a s) (k:Wx J' X' H H') (P:R.D.Kept J X) (hJ:∀p,J' p->J p) (hX:∀p,X' p->X p) (nz:¬X R.z) (nq:¬J' R.D.q) (nx:¬X' R.D.x):R.Ag K C Cg Cp J H' t g st a s :=
 #[k _ _ h.q (λz=>absurd z nq) λ_ _ _ _ z=>(by cases z),k _ _ h.i (λ_ _ z=>by cases z) λz=>absurd (hX _ z) nz,h.wn,h.W.wx k h.wn λp z y=>P.h0 p z (hJ p y),h.P.wx k λp z y=>P.h1 p z (hJ p y),#[k _ _ h.X.i (λ_ _ z=>by cases z) λz=>absurd z nx,h.X.R.wx k λz=>h.ja (hJ _ z),h.X.mn,h.X.G.wx k h.X.mn λp z y=>P.h0 p z (hJ p y),h.X.S.wx k (λp z y=>P.h0 p z (hJ p y)) λz=>P.sy (hX _ z)],h.S.wx k λz=>h.js (hJ _ z),h.ja,h.js,h.lg,h.ls,h.tr,h.t9,h.gd]
theorem RE.Ag.same (h:R.Ag K C Cg Cp J H t g st a s) (k:aG H H'):R.Ag K C Cg Cp J H' t g st a s :=
 #[k _ _ h.q,k _ _ h.i,h.wn,h.W.10 k,h.P.10 k,h.X.10 k,h.S.10 k,h.ja,h.js,h.lg,h.ls,h.tr,h.t9,h.gd]
theorem RE.At.same (A:R.At K C Cg Cp J H t) (k:aG H H'):R.At K C Cg Cp J H' t:=by
 obtain g|st|a|s|A:=A;show #[g,st,a,s,A.10 k]
theorem RE.Ok.step (o:R.Ok) (A:R.Ag K C Cg Cp J H t g st a s) (ht:t<=19):((a9 R.D.G R.D.mv.9).9=R.D.mv.9/\(∀xs∈a9 R.D.G R.D.mv.9,xs.9=R.D.lk.9))/\(Yf R.D.mv R.D.pt R.D.lk (a9 R.D.G R.D.mv.9) g st (il R.F g)/\(∀xs∈R.F,uD xs g)/\∀z∈il R.F g,jX z)/\(decide (2*R.D.mv.9<=t)=true->st=Wb R.D.mv.9 0/\il R.F g=Wb R.D.pt.9 0)/\TX (bo (kZ (a9 R.D.mv R.D.mv.9) R.D.lk R.D.G)) R.D.mv.9 (t+1) (uf R.D.mv R.D.pt R.D.lk (a9 R.D.G R.D.mv.9) g (il R.F g) (seenQ R.D.lk st)) (c7 R.D.mv R.D.pt st (il R.F g))/\Kg R.D.mv R.D.pt R.F (t+1) (c7 R.D.mv R.D.pt st (il R.F g))/\L0 (t+1) (uf R.D.mv R.D.pt R.D.lk (a9 R.D.G R.D.mv.9) g (il R.F g) (seenQ R.D.lk st)) (c7 R.D.mv R.D.pt st (il R.F g)):=by
 have lN:(a9 R.D.G R.D.mv.9).9=R.D.mv.9:=cz;have wN:∀xs∈a9 R.D.G R.D.mv.9,xs.9=R.D.lk.9:=λxs hx=>by rw[i5 xs hx,o.o.lG]
 obtain T8|gd|ft|sz:=N6 o.o.f o.o.d ht lN wN (S4 o.o.kp.2) o.lF o.wF o.kF.2 A.lg A.ls A.gd;have eq:R.D.mv.9<=t->g=st:=λh=>A.tr.eq o.o.d o.o.kp h A.lg A.ls
 refine #[#[lN,wN],#[T8,ft,sz],λh=>?_,A.tr.next λa ha=>OU o.o.d o.o.lG A.lg A.ls (by unfold il;rw[af,o.lF]) ha,A.t9.next o.o.d o.lF o.wF A.lg A.ls eq,gd];have h2:=of_decide_eq_true h;have e:=A.t9.rest o.kF h2;rw[eq (),e,SK o.wF,o.lF];show #[rfl,rfl]
end
def LZ (h:Addr) (Es:List RE) (p:Addr):Prop:=p=h\/∃R∈Es,p=R.D.q
def Wy (Es:List RE) (p:Addr):Prop:=∃R∈Es,p=R.D.x
structure Yo (rl h:Addr) (Es:List RE):Prop where
 ok:∀R∈Es,R.Ok
 kp:∀R∈Es,R.D.Kept (LZ h Es) (Wy Es)/\¬Wy Es R.z
 ne:∀i j:Nat,i < j->∀R R':RE,Es[i]?=some R->Es[j]?=some R'->R.D.q≠R'.D.q/\R.D.x≠R'.D.x
 qh:∀R∈Es,R.D.q≠h
 jr:¬LZ h Es rl
structure uC (K:_g) (C Cg Cp rl h:Addr) (Es:List RE) (k i:Nat) (H:Hp):Prop where
 R:H rl=some (.lst (Es.12 λR=>.ref R.D.q))
 T:∀(j:Nat) (R:RE),Es[j]?=some R->R.At K C Cg Cp (LZ h Es) H (if j < i then k+1 else k)
 W:∃ws,H h=some (.lst ws)/\ws.9<=k*3+i/\∀v∈ws,zV K (LZ h Es) H v
section
variable {K:_g} {C Cg Cp rl h a t:Addr} {Es:List RE} {H H':Hp} {R:RE} {k i m:Nat} {ws ws':List V} {g st:List Rat}
theorem uC.all (L:uC K C Cg Cp rl h Es k i H) (j:LZ h Es p):∃zs,H p=some (.lst zs):=by
 rcases j with rfl | ⟨R,m,rfl⟩
 ·obtain ws|g|_:=L.W;show #[_,g]
 ·obtain j|hj|rfl:=bu m;obtain _|_|_|_|A:=L.T j _ (ae hj);show #[_,A.q]
theorem uC.new (L:uC K C Cg Cp rl h Es k i H) (n:H p=none):¬LZ h Es p:=λj=>by
 obtain _|g:=L.all j;rw[n] at g;cases g
theorem uC.same (L:uC K C Cg Cp rl h Es k i H) (s:aG H H'):uC K C Cg Cp rl h Es k i H':=by
 refine #[s _ _ L.R,λj R e=>RE.At.same (L.T j R e) s,?_];obtain ws|g|l|f:=L.W;show #[ws,s _ _ g,l,λv hv=>(f v hv).wx (X':=λ_=>False) (Wx.of s) λ_ z=>z]
theorem uC.next (F:Yo rl h Es) (hD:Es[i]?=some R) (L:uC K C Cg Cp rl h Es k i H) (gh:H h=some (.lst ws)) (w:Wx (λp=>p=h) (λp=>p=R.D.x) H H') (gx:H' R.D.x=some (.ins Cg R.D.dx (pZ R.D.sy a R.D.m))) (Ra:cA K H' a g) (Rt:cA K H' t st) (gh':H' h=some (.lst ws')) (lw:ws'.9<=ws.9+1) (hv:∀v∈ws',v∈ws\/zV K (λp=>H p≠none) H' v) (na:H a=none) (nt:H t=none) (lg:g.length=R.D.mv.9) (ls:st.9=R.D.mv.9) (tr:TX (bo (kZ (a9 R.D.mv R.D.mv.9) R.D.lk R.D.G)) R.D.mv.9 (k+1) g st) (t9:Kg R.D.mv R.D.pt R.F (k+1) st) (gd:L0 (k+1) g st):(∃s,H' R.D.q=some (.lst [.ref R.D.r,.ref R.z,.ref s]))/\uC K C Cg Cp rl h Es k (i+1) (upd H' R.D.q (.lst [.ref R.D.r,.ref R.z,.ref t])):=by
 have m:=ai hD;obtain kp|kz:=F.kp R m;have jh:∀p,p=h->LZ h Es p:=λp z=>.inl z
 have jq:∀p,p=R.D.q->LZ h Es p:=λp z=>.inr #[R,m,z]
 have xx:∀p,p=R.D.x->Wy Es p:=λp z=>#[R,m,z]
 obtain g0|KH|a0|s0|A:=L.T i R hD;have gq:=w _ _ A.q (λz=>absurd z (F.qh R m)) λ_ _ _ _ z=>(by cases z)
 refine #[#[_,gq],?_];have w2:Wx (λp=>p=h\/p=R.D.q) (λp=>p=R.D.x) H (upd H' R.D.q (.lst [.ref R.D.r,.ref R.z,.ref t])):=Wx.trans (λb o g j x=>w b o g (λz=>j (.inl z)) x) (Wx.set gq (.inr rfl));have wq:Wx (λp=>p=R.D.q) (λ_=>False) H' (upd H' R.D.q (.lst [.ref R.D.r,.ref R.z,.ref t])):=Wx.set gq rfl;have jj:∀p,p=h\/p=R.D.q->LZ h Es p:=λp z=>z.45 (jh p) (jq p)
 have ja:=L.new na;have jt:=L.new nt;refine #[w2 _ _ L.R (λz=>absurd (jj _ z) F.jr) λ_ _ _ _ z=>(by cases z),λj R' ej=>?_,ws',?_,?_,λv hv'=>?_]
 ·have m':=ai ej;by_cases ij:j=i
  ·subst ij;rw[hD] at ej;cases ej;rw[if_pos ()];show #[g,st,a,t,aD,w2 _ _ A.i (λ_ _ z=>by cases z) λz=>absurd (xx _ z) kz,A.wn,A.W.wx w2 A.wn λp z y=>kp.h0 p z (jj p y),A.P.wx w2 λp z y=>kp.h1 p z (jj p y),#[by rw[aR λz=>by rw[z,gq] at gx;cases gx];show gx,Ra.wx wq λz=>ja (jq _ z),A.X.mn,A.X.G.wx w2 A.X.mn λp z y=>kp.h0 p z (jj p y),A.X.S.wx w2 (λp z y=>kp.h0 p z (jj p y)) λz=>kp.sy (xx _ z)],Rt.wx wq λz=>jt (jq _ z),ja,jt,lg,ls,tr,t9,gd]
  ·have nn:R'.D.q≠R.D.q/\R'.D.x≠R.D.x:=by
    rcases Nat.lt_or_gt_of_ne ij with l | l
    ·show F.ne j i l R' R ej hD
    ·have:=F.ne i j l R R' hD ej;show #[λz=>this.1 z.26,λz=>this.2 z.26]
   obtain g1|st1|a1|s1|A':=L.T j R' ej;rw[show (if j < i+1 then k+1 else k)=if j < i then k+1 else k by by_cases h:j < i <;> simp [h] <;> lia];show #[g1,st1,a1,s1,A'.wx w2 (F.kp R' m').1 jj xx (F.kp R' m').2 (λz=>z.45 (F.qh R' m') nn.1) nn.2]
 ·rw[aR λz=>F.qh R m z.26];show gh'
 ·obtain _|g'|l|_:=L.W;rw[gh] at g';cases g'
  lia
 ·refine zV.wx ?_ wq jq;rcases hv v hv' with hv | hv
  ·obtain _|g'|_|f:=L.W;rw[gh] at g';cases g';show (f v hv).wx w jh
  ·show hv.24 λp j n=>L.new n j
theorem uC.turn (L:uC K C Cg Cp rl h Es k m H) (hm:Es.9=m) (h3:m<=3):uC K C Cg Cp rl h Es (k+1) 0 H:=by
 refine #[L.R,λj R e=>?_,?_]
 ·have:=L.T j R e;rw[if_pos (by have:=(aH.mp e).1;lia)] at this;show this
 ·obtain ws|g|l|f:=L.W;show #[ws,g,(),f]
def RE.wit (h:Addr) (R:RE):RE:={ R with D:=R.D.wit h }
theorem SY (j:LZ h (Es.12 (RE.wit h)) p):p=h\/∃R∈Es,p=R.D.q:=by
 rcases j with j | ⟨R',m,j⟩
 ·show .inl j
 ·obtain R|mR|rfl:=au.mp m;show .inr #[R,mR,j]
structure WJ (J:Addr->Prop) (rl:Addr) (Es:List RE):Prop where
 ok:∀R∈Es,R.Ok
 jJ:∀R∈Es,J R.D.q
 kp:∀R∈Es,(∀p,R.D.H0 p=none->¬J p)/\(∀p,R.D.H1 p=none->¬J p)/\¬Wy Es R.D.sy/\¬Wy Es R.z
 ne:∀i j:Nat,i < j->∀R R':RE,Es[i]?=some R->Es[j]?=some R'->R.D.q≠R'.D.q/\R.D.x≠R'.D.x
 jr:¬J rl
theorem uC.init (F:WJ J rl Es) (hr:H rl=some (.lst (Es.12 λR=>.ref R.D.q))) (A:∀R∈Es,R.At K C Cg Cp J H 0) (n:H h=none) (s:aG H H') (g:H' h=some (.lst [])):Yo rl h (Es.12 (RE.wit h))/\uC K C Cg Cp rl h (Es.12 (RE.wit h)) 0 0 H':=by
 have hq:∀R∈Es,R.D.q≠h:=λR m z=>by
  obtain _|_|_|_|A:=A R m;have g:=A.q;rw[z,n] at g;cases g
 have hrn:rl≠h:=λz=>by rw[z,n] at hr;cases hr
 have jw:∀p,LZ h (Es.12 (RE.wit h)) p->p=h\/J p:=λp j=>(SY j).imp id λ#[R,m,e]=>by rw[e];show F.jJ R m
 have xw:∀p,Wy (Es.12 (RE.wit h)) p->Wy Es p:=λp #[R',m,j]=>by
  obtain R|mR|rfl:=au.mp m;show #[R,mR,j]
 refine #[#[λR' m=>?_,λR' m=>?_,λi j ij R R' e e'=>?_,λR' m=>?_,λz=>?_],?_,λj R' e=>?_,[],g,aW _,λv hv=>by cases hv]
 ·obtain R|mR|rfl:=au.mp m;have o:=F.ok R mR;show #[#[o.o.d,o.o.f,o.o.lG,o.o.wG,o.o.kp],o.lF,o.wF,o.kF]
 ·obtain R|mR|rfl:=au.mp m;obtain k0|k1|ks|kz:=F.kp R mR;refine #[#[λp z y=>?_,λp z y=>?_,.inr #[_,HZ mR,rfl],#[_,HZ mR,rfl],λz=>ks (xw _ z)],λz=>kz (xw _ z)]
  ·rcases jw p y with y | y
   ·rw[y] at z;show Ff z
   ·show k0 p (uJ z) y
  ·rcases jw p y with y | y
   ·rw[y] at z;show Ff z
   ·show k1 p (uJ z) y
 ·rw[az] at e e';obtain R|eR|rfl:=fu.mp e;obtain R'|eR'|rfl:=fu.mp e';show F.ne i j ij R R' eR eR'
 ·obtain R|mR|rfl:=au.mp m;show hq R mR
 ·rcases jw _ z with z | z
  ·show hrn z
  ·show F.jr z
 ·rw[jA];show s _ _ hr
 ·rw[az] at e;obtain R|eR|rfl:=fu.mp e;obtain g0|KH|a|s0|A:=A R (ai eR)
  have aux:∀{p:Addr} {qs:List Rat},cA K H p qs->¬J p->¬LZ h (Es.12 (RE.wit h)) p:=λR nj z=>by
   rcases jw _ z with z | z
   ·obtain _|g|_:=R;rw[z,n] at g;cases g
   ·show nj z
  rw[show (if j < 0 then 0+1 else 0)=0 by simp]
  have gn:∀{p:Addr} {rows:_m},bf K R.D.H0 H p rows->R.D.H0 p=none->L2.wit R.D.H0 h p=none:=λG e=>by
   obtain _|g|_:=G;rw[uK λz=>by rw[z,n] at g;cases g];show e
  show #[g0,KH,a,s0,s _ _ A.q,s _ _ A.i,gn A.W A.wn,(A.W.wit n).10 s,(A.P.wit n).10 s,#[s _ _ A.X.i,A.X.R.10 s,gn A.X.G A.X.mn,(A.X.G.wit n).10 s,(A.X.S.wit n).10 s],A.S.10 s,aux A.X.R A.ja,aux A.S A.js,A.lg,A.ls,A.tr,A.t9,A.gd]
end
inductive Bp (K:_g) (C Cg Cp:Addr) (vs:List V) (H:Hp) (Q:VK) (E9:XK):Prop
 | mk (rl:Addr) (J:Addr->Prop) (Es:List RE):vs=[.ref rl]->WJ J rl Es->H rl=some (.lst (Es.12 λR=>.ref R.D.q))->Es.9<=3->0 < Es.9->(∀R∈Es,R.At K C Cg Cp J H 0)->(∀H',Q (.bl true) H')->Bp K C Cg Cp vs H Q E9
theorem VR (hl:ls.9=8) (hf:∀x∈ls,Fr 1 2 x):LW (wd 8 ls) [nQ 8 ((7:Nat):Int)] [nQ 8 ((0:Nat):Int)] :=
 have P:=VS hl hf
 #[P,MI (MJ hl () hf) P.d P.f.sf.ok.2.2]
inductive BF (K:_g) (vs:List V) (H:Hp) (Q:VK) (E9:XK):Prop
 | mk (b:Addr) (f:Nat):vs=[.ref b,.int f]->f<=1->kg H b->(∀r mv pt lk H',dQ K H H' r mv pt lk->LW mv pt lk->mv.9<=4->kg H' b->c6 b H H'->Q (.ref r) H')->BF K vs H Q E9
inductive Ew (K:_g) (vs:List V) (H:Hp) (Q:VK) (E9:XK):Prop
 | mk (b:Addr):vs=[.ref b]->kg H b->(∀r mv pt lk H',dQ K H H' r mv pt lk->LW mv pt lk->kg H' b->c6 b H H'->Q (.ref r) H')->Ew K vs H Q E9
theorem Lj {st:List Rat} (h:∃B,0 < B/\B<=2^40/\∀x∈st,Fr B (2^40) x):L0 0 (Wb n 0) st:=by
 obtain B|B0|B1|f:=h;show #[B,B0,ag B1 (ak () ()),λx hx=>by rw[d5 hx];show Fr.zero,λx hx=>(f x hx).24 (ak () ())]
structure PR where
 R:RE
 fl:Bool
 s:Addr
 a:Addr
 st:List Rat
def PR.v (P:PR):V:=if P.fl then .ref P.R.z else ._B
theorem PR.vf (P:PR):(!decide (P.v=V._B))=P.fl:=by
 unfold PR.v;cases P.fl
 ·rfl
 ·rfl
structure PR.Is (K:_g) (C Cg Cp:Addr) (J:Addr->Prop) (H:Hp) (P:PR):Prop where
 q:H P.R.D.q=some (.lst [.ref P.R.D.r,P.v,.ref P.s])
 pa:dQ K (wJ J) H P.R.D.r P.R.D.mv P.R.D.pt P.R.D.lk
 pt:LW P.R.D.mv P.R.D.pt P.R.D.lk
 S:cA K H P.s P.st
 ls:P.st.9=P.R.D.mv.9
 js:¬J P.s
 gd:L0 0 (Wb P.R.D.mv.9 0) P.st
 rr:∃X X2 ps h!,bL (iI P.R.D.mv P.R.D.pt P.R.D.mv.9) P.R.D.mv.9 X ps/\bL (iI (a9 P.R.D.mv P.R.D.mv.9) P.R.D.lk P.R.D.mv.9) P.R.D.mv.9 X2 h!/\P.fl=decide (ps.9=P.R.D.mv.9/\h!.9=P.R.D.mv.9)
 Y:ip K (wJ J) H C P.R.D.sy P.R.D.mv P.R.D.pt P.R.D.lk
 pz:P.fl=true->xK K Cg Cp (wJ J) H P.R.z P.R.dz P.R.w P.R.D.x P.R.D.dx P.R.D.sy P.a P.R.D.m P.R.D.mv P.R.D.pt P.R.D.lk P.R.F P.R.D.G
 h0:P.R.D.H0=wJ J
 h1:P.R.D.H1=wJ J
section
variable {K:_g} {C Cg Cp rl:Addr} {J:Addr->Prop} {H H':Hp} {P:PR} {Rs:List PR}
theorem C7.rr (Y:C7 mv pt lk) (D:eO mv pt lk):∃X ps,bL (iI mv pt mv.9) mv.9 X ps:=by
 obtain ka|kc|KF|_:=Y.pr;obtain X|ps|_|_|SR:=zv (iY (mv:=mv) (pt:=pt) rfl D.pw mv.9) (KF.swf D.n8 D.mw D.pw (ah _));show #[X,ps,SR.rr]
theorem C7.rr2 (Y:C7 (a9 mv mv.9) lk pt) (D:eO mv pt lk):∃X ps,bL (iI (a9 mv mv.9) lk mv.9) mv.9 X ps:=by
 have:=Y.rr D.turn;rwa [cz] at this
theorem PR.Is.same (h:P.Is K C Cg Cp J H) (s:aG H H'):P.Is K C Cg Cp J H':=#[s _ _ h.q,h.pa.10 s,h.pt,h.S.10 s,h.ls,h.js,h.gd,h.rr,h.Y.10 s,λe=>(h.pz e).10 s,h.h0,h.h1]
theorem PR.Is.wx (h:P.Is K C Cg Cp J H) (k:Wx J' (λ_=>False) H H') (hJ:∀p,J' p->J p) (nq:¬J' P.R.D.q):P.Is K C Cg Cp J H':=#[k _ _ h.q (λz=>absurd z nq) λz=>z.45,h.pa.wx k λp z y=>wX z (hJ p y),h.pt,h.S.wx k λz=>h.js (hJ _ z),h.ls,h.js,h.gd,h.rr,h.Y.wx k (λp z y=>wX z (hJ p y)) λz=>z,λe=>(h.pz e).wx k λp z y=>wX z (hJ p y),h.h0,h.h1]
theorem Vx {a b n:Nat} (ha:a<=n) (hb:b<=n):decide ((if (b:Int) < (a:Int) then (b:Int) else (a:Int))=(n:Int))=decide (a=n/\b=n):=by
 split <;> show decide_eq_decide.mpr ()
theorem PR.Is.at (h:P.Is K C Cg Cp J H) (e:P.fl=true):P.R.At K C Cg Cp J H 0:=by
 have z:=h.pz e;have q:=h.q;unfold PR.v at q;rw[e,if_pos rfl] at q;refine #[_,_,P.a,P.s,q,z.i,by rw[h.h0];show z.wn,by rw[h.h0];show z.gw,by rw[h.h1];show h.pa,by rw[h.h0];show z.g.gsx h.Y,h.S,wX z.g.na,h.js,bK,h.ls,OR,λ_=>#[P.st,h.ls,by rw[Nat.zero_sub];rfl],h.gd]
def Ea (Rs:List PR):List RE:=(Rs.filter λP=>P.fl).12 λP=>P.R
theorem xD (h:R∈Ea Rs):∃P∈Rs,P.fl=true/\P.R=R:=by
 obtain P|m|e:=au.mp h;obtain m|f:=ib.mp m;show #[P,m,f,e]
theorem VB:∀{Rs:List PR},(Rs.Pairwise λP P'=>P.R.D.q≠P'.R.D.q/\(P.fl=true->P'.fl=true->P.R.D.x≠P'.R.D.x))->(Ea Rs).Pairwise λR R'=>R.D.q≠R'.D.q/\R.D.x≠R'.D.x
 | [],_=>.nil
 | P :: Rs,.cons h t=>by
  unfold Ea;rw[List.filter_cons]
  split
  ·rename_i e
   refine .cons (λR m=>?_) (VB t);obtain P'|m'|f'|rfl:=xD m;show #[(h P' m').1,(h P' m').2 e f']
  ·show VB t
theorem PR.fin (hI:∀P∈Rs,P.Is K C Cg Cp J H) (hJ:∀P∈Rs,J P.R.D.q) (ne:Rs.Pairwise λP P'=>P.R.D.q≠P'.R.D.q/\(P.fl=true->P'.fl=true->P.R.D.x≠P'.R.D.x)) (hr:¬J rl):WJ J rl (Ea Rs)/\∀R∈Ea Rs,R.At K C Cg Cp J H 0:=by
 refine #[#[λR m=>?_,λR m=>?_,λR m=>?_,λi j ij R R' e e'=>?_,hr],λR m=>?_]
 ·obtain P|mP|f|rfl:=xD m;have h:=hI P mP;have z:=h.pz f;show #[#[h.pt.p.d,h.pt.p.f,z.g.lG,z.g.wG,z.g.kp],z.lF,z.wF,z.kF]
 ·obtain P|mP|f|rfl:=xD m;show hJ P mP
 ·obtain P|mP|f|rfl:=xD m;have h:=hI P mP;refine #[λp z=>by rw[h.h0] at z;show wX z,λp z=>by rw[h.h1] at z;show wX z,λ#[R',m',z]=>?_,λ#[R',m',z]=>?_]
  ·obtain P'|mP'|f'|rfl:=xD m';obtain dy|n1|n2|n3|gy|_:=h.Y;rw[z,((hI P' mP').pz f').g.i] at gy;cases gy
  ·obtain P'|mP'|f'|rfl:=xD m';have gz:=(h.pz f).i;rw[z,((hI P' mP').pz f').g.i] at gz;injection gz with gz
   injection gz with _ _ e
   cases e
 ·have P:=WN.mp (VB ne);obtain h1|r1:=aH.mp e;obtain h2|r2:=aH.mp e';have:=P i j h1 h2 ij;rwa [r1,r2] at this
 ·obtain P|mP|f|rfl:=xD m;show (hI P mP).at f
end
def Nx (N:St->Hp->Prop) (u:TS) (D:Ends):Prop:=∀σ H,u D σ H->N σ H
theorem RT (h:∀N:St->Hp->Prop,Nx N u D->t { D with nx:=N } σ H):W3 t u D σ H:=h (u D) λ_ _ q=>q
theorem Xx (hN:Nx N u D) (h:u D σ H):N σ H:=hN _ _ h
theorem gP {K:_g}:(AA CX P w K mg base N qual scope f cd A outer s H E).nox.K=K:=rfl
end L2
open L2
local macro_rules | `(tactic| walk_at "hl") => `(tactic| first | (show _ ≤ Zh; with_unfolding_all decide) | (with_unfolding_all exact (by decide)))
local macro_rules | `(tactic| walk_at "sq") => `(tactic| first | with_reducible assumption | with_reducible exact ue.of (by assumption) | with_reducible exact bA.of (by assumption) | with_reducible exact ue.of aD | with_reducible exact bA.of aD | assumption)
local macro_rules | `(tactic| walk_at "sc") => `(tactic| first | (with_reducible show (0 : Int) < _; decide) | with_reducible exact Tw (by decide) (by decide) | with_reducible exact M8 (by decide) (by decide) | with_reducible exact cpow_of (by decide) (by decide) (by decide))
def walkOf(x:String):Lean.MacroM (Lean.TSyntax ``Lean.Parser.Tactic.tacticSeq):=
 let i:=Lean.mkIdent (.mkSimple (x.drop 1).toString)
 match x.front with
 |'0'=>`(tacticSeq|with_reducible refine $i ?_)
 |'1'=>`(tacticSeq|(with_reducible refine' $i ?h ?_);case h=>with_unfolding_all rfl)
 |'3'=>`(tacticSeq|(with_reducible refine' $i ?h ?_);case h=>walk_at "sc")
 |'4'=>`(tacticSeq|(with_reducible refine' $i ?h ?k ?l ?_);(case h=>with_reducible first|assumption|exact aD);(case k=>with_unfolding_all rfl);case l=>with_unfolding_all rfl)
 |'5'=>`(tacticSeq|(with_reducible refine' $i ?h ?_);case h=>with_reducible assumption)
 |'6'=>`(tacticSeq|with_reducible refine $i ?_;intro N hN)
 |_=>`(tacticSeq|(with_reducible refine' $i ?h ?k ?_);(case h=>walk_at "sq");case k=>with_unfolding_all rfl)
local macro_rules | `(tactic| walk_at "rd") => do
 let a←("1Vd 0Sj 0Xw 0Vk 0YG 0Pq 0Sl 6RT 0Vv 2Vo 1Sk 2b8 0RP 0Vg 0Vq 0Xy 5Xx 0RQ 0XB 3fZ 0RW 0Ve 4d7 0XU 0Po 0Vc 0Pt 0Xs 0Vs 0Sf 0Pn 0Xt 0Vn 0Vu 2Se 0S0 0Vw 0Vt 0XW 0Xv 0XA 0Si 0Vj 0Sg 0Vl 0RS 0Xu 0YH 0Sb 0XX 0RU 0rd_eqS 0So 0Uo 0Vr 0ND 0Sd 0Pp 0Sa 0Vh 0R8 0Sm 2Sh 0rd_neS 0rd_eqB 0Vm 0KY 0rd_retN 0Vi 0RV 1rd_aug 0Vp 0Pl 0rd_bm0 0rd_brk 0rd_cont".splitOn " ").toArray.mapM walkOf
 `(tactic|first $[|$a]*|with_reducible refine ⟨_, rfl, ?_⟩|with_reducible refine ⟨_, _, rfl, ?_⟩)
namespace L2
open PySem PySem.Spec PyProof.Rows Nm
section
variable {X:Cx} {e e1 e2 e3:Expr} {te t1 t2 t3:TE}
theorem fA (i:Nat) {x:Str} {pos:Pos} (hN:X.N.46:=by walk_at "u") (hi:X.N[i]?=some x:=by rfl) (hx:Loc X.env.scope x:=by first | show Or.inl rfl | show Or.inr rfl) (hf:X.fn x=true\/X.env.scope.names.13 x=some .local:=by first | show .inl rfl | show .inr rfl | assumption):PG X (.Name x pos) (EO i):=SA hN hi hx hf
theorem eZ (i:Nat) {x:Str} {pos pos':Pos} (hN:X.N.46) (he:PE X e te) (hi:X.N[i]?=some x:=by rfl) (hx:Loc X.env.scope x:=by first | show Or.inl rfl | show Or.inr rfl) (hs:swapsWith e (some (.Name x pos')) pos.line X.16=pure false:=by rfl) (hf:X.fn x=true\/X.env.scope.names.13 x=some .local:=by first | show .inl rfl | show .inr rfl | assumption):PS X (.Assign [.Name x pos'] e pos) (OY te (EO i)):=VD hN hi hx he hs hf
theorem cQ (a:PE X e te) (h0:Y8 [e] X.16=(false,eval e X.16) :: Y8 [] X.16:=by rfl):PA X [e] (kh te Be):=(gC a lJ h0)
theorem cI (a:PE X e te) (b:PE X e1 t1) (h0:Y8 [e,e1] X.16=(false,eval e X.16) :: Y8 [e1] X.16:=by rfl) (h1:Y8 [e1] X.16=(false,eval e1 X.16) :: Y8 [] X.16:=by rfl):PA X [e,e1] (kh te (kh t1 Be)):=(gC a (gC b lJ h1) h0)
theorem zC (a:PE X e te) (b:PE X e1 t1) (c:PE X e2 t2) (h0:Y8 [e,e1,e2] X.16=(false,eval e X.16) :: Y8 [e1,e2] X.16:=by rfl) (h1:Y8 [e1,e2] X.16=(false,eval e1 X.16) :: Y8 [e2] X.16:=by rfl) (h2:Y8 [e2] X.16=(false,eval e2 X.16) :: Y8 [] X.16:=by rfl):PA X [e,e1,e2] (kh te (kh t1 (kh t2 Be))):=(gC a (gC b (gC c lJ h2) h1) h0)
theorem Rg (a:PE X e te) (b:PE X e1 t1) (c:PE X e2 t2) (d:PE X e3 t3) (h0:Y8 [e,e1,e2,e3] X.16=(false,eval e X.16) :: Y8 [e1,e2,e3] X.16:=by rfl) (h1:Y8 [e1,e2,e3] X.16=(false,eval e1 X.16) :: Y8 [e2,e3] X.16:=by rfl) (h2:Y8 [e2,e3] X.16=(false,eval e2 X.16) :: Y8 [e3] X.16:=by rfl) (h3:Y8 [e3] X.16=(false,eval e3 X.16) :: Y8 [] X.16:=by rfl):PA X [e,e1,e2,e3] (kh te (kh t1 (kh t2 (kh t3 Be)))):=(gC a (gC b (gC c (gC d lJ h3) h2) h1) h0)
abbrev bI:=@pv X 0
abbrev cE:=@pv X 1
abbrev eQ:=@pv X 2
abbrev kb:=@pv X 3
abbrev rX:=@pv X 4
abbrev z7:=@pv X 5
abbrev wB:=@pv X 6
abbrev Ao:=@pv X 7
abbrev Dz:=@pv X 8
abbrev sC (N:List Str) (k:Nat) (st:Stmt):Prop:=qH N (N.21 k) (cC st)
end
end L2
local macro_rules | `(tactic| walk_at "w") => `(tactic| repeat walk_at "rd")
local macro_rules | `(tactic| walk_at "d") => `(tactic| exact ⟨rfl,rfl,rfl,by decide +kernel,rfl,by decide +kernel,by decide +kernel⟩)
namespace Lw
open PySem PySem.Spec PyProof.Rows L2 Nm
abbrev bv (P:Zx):Prop:=P.given.tree=none
local macro_rules | `(tactic| exists $e) => `(tactic| (walk_at "w";refine $e))
local macro_rules | `(tactic| walk_at "n") => `(tactic| (intro vs H Q E h;repeat first|(subst_vars;rfl)|(cases h;subst_vars;rfl)|rcases h with ⟨_,h⟩))
local macro_rules | `(tactic| walk_at "i") => `(tactic| set_option tactic.hygienic false in intros)
local macro_rules | `(tactic| walk_at "s") => `(tactic| refine nR (by dsimp only [U7] <;> rfl) ?_)
local macro_rules | `(tactic| left) => `(tactic| (walk_at "s";try rw[gP]))
local macro_rules | `(tactic| walk_at "d") => `(tactic| exact ⟨rfl, rfl, rfl, by decide +kernel, rfl, by decide +kernel, by decide +kernel⟩)
local macro_rules | `(tactic| walk_at "u") => `(tactic| (change Z9 (α := Str) (_::_);decide +kernel))
set_option maxHeartbeats 4000000
def top (i:Nat):Stmt:=PySem.Challenge.pw_helmsum_k89_whole_pilot_rests.main.body.getD i (.Pass #[0,0,0,0])
abbrev xu:Stmt:=top 72
abbrev uZ:Stmt:=top 73
abbrev oI:Stmt:=top 90
abbrev xo:Stmt:=top 74
abbrev qW:Stmt:=top 79
abbrev xn:Stmt:=top 80
abbrev vh:Stmt:=top 87
abbrev xm:Stmt:=top 75
abbrev ve:Stmt:=top 82
abbrev vd:Stmt:=top 77
abbrev zu:Stmt:=top 83
abbrev td:Stmt:=top 88
abbrev sZ:Stmt:=top 89
abbrev tm:Stmt:=top 102
abbrev vo:Stmt:=top 101
abbrev uU:Stmt:=top 55
abbrev xj:Stmt:=top 10
abbrev mT:Stmt:=top 11
abbrev uY:Stmt:=top 13
abbrev BS:Stmt:=top 19
abbrev qU:Stmt:=top 56
abbrev fh:Stmt:=inClass (top 57) 0
abbrev qY:Stmt:=top 91
abbrev vn:Stmt:=top 92
abbrev uV:Stmt:=top 24
abbrev lH:Stmt:=top 12
abbrev oo:Stmt:=top 23
abbrev sV:Stmt:=top 36
abbrev zm:Stmt:=top 38
abbrev sW:Stmt:=top 37
abbrev FG:Stmt:=top 39
abbrev BR:Stmt:=top 14
abbrev zg:Stmt:=top 40
abbrev ze:Stmt:=top 25
abbrev zj:Stmt:=top 29
abbrev sT:Stmt:=top 46
abbrev qQ:Stmt:=top 47
abbrev sQ:Stmt:=top 48
abbrev du:Stmt:=inClass (top 5) 0
abbrev xg:Stmt:=top 27
abbrev oj:Stmt:=top 33
abbrev zi:Stmt:=top 34
abbrev FI:Stmt:=top 16
abbrev zh:Stmt:=top 43
abbrev qT:Stmt:=top 35
abbrev FH:Stmt:=top 44
abbrev kJ:Stmt:=top 61
abbrev sR:Stmt:=top 26
abbrev qS:Stmt:=top 30
abbrev sS:Stmt:=top 41
abbrev qR:Stmt:=top 62
abbrev iB:Stmt:=inClass (top 57) 1
abbrev FJ:Stmt:=top 63
abbrev uX:Stmt:=top 21
abbrev sU:Stmt:=top 31
abbrev sP:Stmt:=top 50
abbrev FF:Stmt:=top 17
abbrev uW:Stmt:=top 22
abbrev FK:Stmt:=top 64
abbrev KQ:Stmt:=top 15
abbrev xh:Stmt:=top 20
abbrev BU:Stmt:=top 59
abbrev zd:Stmt:=top 65
abbrev gK:Stmt:=inClass (top 57) 3
abbrev qP:Stmt:=top 67
abbrev eC:Stmt:=inClass (top 6) 0
abbrev eE:Stmt:=inClass (top 69) 0
abbrev fQ:Stmt:=inClass (top 70) 0
abbrev sY:Stmt:=top 99
abbrev va:Stmt:=top 78
abbrev vq:Stmt:=top 76
abbrev tj:Stmt:=top 93
abbrev ph:Stmt:=top 94
abbrev xp:Stmt:=top 81
abbrev zo:Stmt:=top 95
abbrev sX:Stmt:=top 97
abbrev qV:Stmt:=top 98
abbrev gN:Stmt:=inClass (top 69) 1
abbrev jf:Stmt:=inClass (top 57) 2
abbrev iC:Stmt:=inClass (top 69) 2
abbrev gM:Stmt:=inClass (top 70) 1
abbrev mV:Stmt:=top 84
abbrev qX:Stmt:=top 85
abbrev vg:Stmt:=top 96
abbrev tu:Stmt:=top 100
abbrev mU:Stmt:=top 103
abbrev Pa:Stmt:=top 104
set_option genInjectivity false in
set_option genSizeOf false in
structure Ads where
 LR:Addr
 LC:W0
 J5:Addr
 JD:W0
 HL:Addr
 GO:W0
 LP:Addr
 LA:W0
 D5:Addr
 DS:W0
 LO:Addr
 Lz:W0
 Kb:Addr
 JI:W0
 LN:Addr
 Ly:W0
 J9:Addr
 JG:W0
 J8:Addr
 JF:W0
 OC:Addr
 Oh:W0
 HQ:Addr
 GS:W0
 HP:Addr
 GR:W0
 HS:Addr
 GV:W0
 Kd:Addr
 JK:W0
 JW:Addr
 Jy:W0
 LM:Addr
 Lx:W0
 zQ:Addr
 zL:W0
 J0:Addr
 JC:W0
 Q0:Addr
 QL:W0
 D3:Addr
 DQ:W0
 mC:Addr
 mB:W0
 D7:Addr
 DU:W0
 Kc:Addr
 JJ:W0
 JX:Addr
 Jz:W0
 yK:Addr
 yG:W0
 AF:Addr
 Az:W0
 HJ:Addr
 GK:W0
 OA:Addr
 Of:W0
 HK:Addr
 GL:W0
 TN:Addr
 Tr:W0
 QZ:Addr
 QK:W0
 Ow:Addr
 Ob:W0
 Ov:Addr
 Oa:W0
 Oz:Addr
 Oe:W0
 HH:Addr
 GI:W0
 DX:Addr
 DM:W0
 Hs:Addr
 GC:W0
 gG:Addr
 jo:W0
 LK:Addr
 Lu:W0
 AE:Addr
 Ay:W0
 Oy:Addr
 Od:W0
 TR:Addr
 Tt:W0
 Ox:Addr
 Oc:W0
 D1:Addr
 DP:W0
 TQ:Addr
 Ts:W0
 xJ:Addr
 xI:W0
 Hu:Addr
 GD:W0
 DZ:Addr
 DO:W0
 Hw:Addr
 GH:W0
 DY:Addr
 DN:W0
 pS:Addr
 pL:W0
 TU:Addr
 Tu:W0
 JZ:Addr
 JB:W0
 HI:Addr
 GJ:W0
 Hq:Addr
 GB:W0
 TM:Addr
 Tq:W0
 JY:Addr
 JA:W0
 TV:Addr
 Tv:W0
 Ww:Addr
 Wp:W0
 LL:Addr
 Lv:W0
 Q4:Addr
 QM:W0
 Ou:Addr
 N9:W0
 oB:Addr
 ox:W0
 DW:Addr
 DL:W0
 iT:Addr
 kO:W0
 kR:Addr
 kQ:W0
 m7:Addr
 m6:W0
 HN:Addr
 GQ:W0
 J7:Addr
 JE:W0
 Ke:Addr
 JL:W0
 HR:Addr
 GU:W0
 C5:Addr
 CW:W0
 LQ:Addr
 LB:W0
 OB:Addr
 Og:W0
 HM:Addr
 GP:W0
 D4:Addr
 DR:W0
 oE:Addr
 oz:W0
 rC:Addr
 rA:W0
 pT:Addr
 pN:W0
 oC:Addr
 oy:W0
 zS:Addr
 zN:W0
 D6:Addr
 DT:W0
 Ka:Addr
 JH:W0
 HU:Addr
 GW:W0
 zR:Addr
 zM:W0
 UK:Addr
 UJ:W0
 _P:Addr
 abg:Addr
 aam:Tok
 aaC:Tok
 aaw:Tok
 _c:Addr
 _f:Addr
 _l:Addr
 _G:Addr
 _o:Addr
 _t:Addr
structure Txt (K:W.Frag) (mg:Str->Option Value) (Z:Ads):Prop where
 qE:Df K mg "_law_bag" xu ["_law_script"] Z.LR Z.LC
 bJ:Df K mg "_law_take" uZ ["_law_bag_here","_law_many"] Z.J5 Z.JD
 nG:Df K mg "_law_sizes" oI ["_law_bag_here"] Z.HL Z.GO
 eV:Df K mg "_law_low" xo ["_law_top","_law_bottom"] Z.LP Z.LA
 mf:Df K mg "_law_number" qW ["_law_bag_here","_law_wide"] Z.D5 Z.DS
 gV:Df K mg "_law_row" xn ["_law_bag_here","_law_many","_law_wide"] Z.LO Z.Lz
 oO:Df K mg "_law_move" vh ["_law_bag_here","_law_n","_law_way","_law_first","_law_wide"] Z.Kb Z.JI
 jN:Df K mg "_law_sum" xm ["_law_one","_law_other"] Z.LN Z.Ly
 md:Df K mg "_law_plus" ve ["_law_one","_law_other"] Z.J9 Z.JG
 iS:Df K mg "_law_prod" vd ["_law_one","_law_other"] Z.J8 Z.JF
 kM:Df K mg "_law_by" zu ["_law_by_here","_law_row_here"] Z.OC Z.Oh
 nI:Df K mg "_law_mixed" td ["_law_bag_here","_law_move_here","_law_put","_law_look"] Z.HQ Z.GS
 nH:Df K mg "_law_parts" sZ ["_law_bag_here","_law_n","_law_ins","_law_outs","_law_wide"] Z.HP Z.GR
 kq:Df K mg "_law_drawn" tm ["_law_bag_here","_law_fewest"] Z.HS Z.GV
 oP:Df K mg "_law_long" vo ["_law_bag_here"] Z.Kd Z.JK
 jR:Df K mg "want_list" uU ["thing","at","most"] Z.JW Z.Jy
 nX:Df K mg "is_whole" xj ["thing"] Z.LM Z.Lx
 fk:Df K mg "common_divisor" mT ["one","other"] Z.zQ Z.zL
 oK:Df K mg "is_number" uY ["thing"] Z.J0 Z.JC
 vX:Df K mg "is_row" BS ["thing","many"] Z.Q0 Z.QL
 iE:Df K mg "copied_rows" qU ["things","wide"] Z.D3 Z.DQ
 jz:Binds K Z.mB ["self","move","put","look"] []
 qI:AG K "__init__" "System.__init__" fh Z.mC Z.mB
 iF:Df K mg "_law_copied" qY ["_law_grid"] Z.D7 Z.DU
 mh:Df K mg "_law_made" vn ["_law_parts_here"] Z.Kc Z.JJ
 gU:Df K mg "tops_over" uV ["row","bottom"] Z.JX Z.Jz
 iQ:Df K mg "common_multiple" lH ["wholes"] Z.yK Z.yG
 dJ:Df K mg "common_bottom" oo ["row"] Z.AF Z.Az
 nD:Df K mg "first_with" sV ["lines","begin","place"] Z.HJ Z.GK
 tQ:Df K mg "cleared" zm ["lines","at","place","before"] Z.OA Z.Of
 nE:Df K mg "brought_up" sW ["lines","at","to"] Z.HK Z.GL
 vz:Df K mg "swept" FG ["rows","wide"] Z.TN Z.Tr
 jT:Df K mg "lowest" BR ["top","bottom"] Z.QZ Z.QK
 kL:Df K mg "reduced" zg ["rows","wide"] Z.Ow Z.Ob
 jM:Df K mg "row_dot" ze ["one","other"] Z.Ov Z.Oa
 gi:Df K mg "grid_on" zj ["grid","row"] Z.Oz Z.Oe
 kl:Df K mg "moved_rows" sT ["system","rows"] Z.HH Z.GI
 lW:Df K mg "reach_grown" qQ ["system","steps"] Z.DX Z.DM
 kj:Df K mg "reach_rows" sQ ["system","steps"] Z.Hs Z.GC
 mJ:Binds K Z.jo ["self","price"] []
 mK:AG K "__init__" "NotSteered.__init__" du Z.gG Z.jo
 nV:Df K mg "unit_row" xg ["many","at"] Z.LK Z.Lu
 jU:Df K mg "leading_place" oj ["row"] Z.AE Z.Ay
 pJ:Df K mg "leading" zi ["rows"] Z.Oy Z.Od
 vB:Df K mg "minus" FI ["one","other"] Z.TR Z.Tt
 tP:Df K mg "null_at" zh ["rows","wide","at"] Z.Ox Z.Oc
 lY:Df K mg "free_places" qT ["rows","wide"] Z.D1 Z.DP
 vA:Df K mg "nulls" FH ["rows","wide"] Z.TQ Z.Ts
 dX:Df K mg "refuse_unsteered" kJ ["system"] Z.xJ Z.xI
 eL:Df K mg "nought_row" sR ["many"] Z.Hu Z.GD
 de:Df K mg "grid_turned" qS ["grid","wide"] Z.DZ Z.DO
 nC:Df K mg "new_places" sS ["rows","wide"] Z.Hw Z.GH
 lX:Df K mg "leading_out" qR ["system","states"] Z.DY Z.DN
 ou:HW K Z._c "moved" Z.pS
 pP:Binds K Z.pL ["self","state","puts"] []
 vO:AG K "moved" "System.moved" iB Z.pS Z.pL
 yt:Df K mg "chain" FJ ["system"] Z.TU Z.Tu
 jS:Df K mg "row_minus" uX ["one","other"] Z.JZ Z.JB
 ie:Df K mg "grid_times" sU ["one","other","wide"] Z.HI Z.GJ
 nv:Df K mg "taken_over" sP ["system","rows"] Z.Hq Z.GB
 yr:Df K mg "times" FF ["one","other"] Z.TM Z.Tq
 lV:Df K mg "row_times" uW ["by","row"] Z.JY Z.JA
 yu:Df K mg "amiss" FK ["system","row","wish"] Z.TV Z.Tv
 AW:Df K mg "plus" KQ ["one","other"] Z.Ww Z.Wp
 nW:Df K mg "row_plus" xh ["one","other"] Z.LL Z.Lv
 vY:Df K mg "closed" BU ["system","rows"] Z.Q4 Z.QM
 iP:Df K mg "steered" zd ["system","wish"] Z.Ou Z.N9
 mZ:HW K Z._c "turned" Z.oB
 oA:Binds K Z.ox ["self"] []
 uy:AG K "turned" "System.turned" gK Z.oB Z.ox
 lU:Df K mg "unseen_rows" qP ["system","steps"] Z.DW Z.DL
 pQ:Binds K Z.kO ["self","state"] []
 pU:AG K "__init__" "NotSeen.__init__" eC Z.iT Z.kO
 pR:Binds K Z.kQ ["self","system"] []
 pV:AG K "__init__" "Guesser.__init__" eE Z.kR Z.kQ
 rS:Binds K Z.m6 ["self","system"] []
 rV:AG K "__init__" "Pilot.__init__" fQ Z.m7 Z.m6
 jk:Df K mg "_law_pilot" sY ["_law_system"] Z.HN Z.GQ
 oM:Df K mg "_law_quot" va ["_law_one","_law_other"] Z.J7 Z.JE
 oQ:Df K mg "_law_less" vq ["_law_one","_law_other"] Z.Ke Z.JL
 nJ:Df K mg "_law_minus" tj ["_law_one","_law_other"] Z.HR Z.GU
 iX:Df K mg "_law_reduced" ph ["_law_rows","_law_size"] Z.C5 Z.CW
 qD:Df K mg "_law_dot" xp ["_law_one","_law_other"] Z.LQ Z.LB
 mY:Df K mg "_law_on" zo ["_law_grid","_law_row_here"] Z.OB Z.Og
 ko:Df K mg "_law_reach" sX ["_law_parts_here"] Z.HM Z.GP
 lZ:Df K mg "_law_turned" qV ["_law_parts_here"] Z.D4 Z.DR
 rN:HW K Z._f "guess" Z.oE
 ux:Binds K Z.oz ["self"] []
 uA:AG K "guess" "Guesser.guess" gN Z.oE Z.oz
 vC:HW K Z._c "seen" Z.rC
 wK:Binds K Z.rA ["self","state"] []
 wO:AG K "seen" "System.seen" jf Z.rC Z.rA
 uu:HW K Z._f "take" Z.pT
 vK:Binds K Z.pN ["self","puts","looks"] []
 vP:AG K "take" "Guesser.take" iC Z.pT Z.pN
 rM:HW K Z._l "put_for" Z.oC
 uw:Binds K Z.oy ["self","looks"] []
 uz:AG K "put_for" "Pilot.put_for" gM Z.oC Z.oy
 jy:Df K mg "_law_is_number" mV ["_law_thing"] Z.zS Z.zN
 mi:Df K mg "_law_is_row" qX ["_law_thing","_law_many"] Z.D6 Z.DT
 oN:Df K mg "_law_next" vg ["_law_parts_here","_law_state","_law_puts"] Z.Ka Z.JH
 nK:Df K mg "_law_after" tu ["_law_pilot_here","_law_parts_here","_law_state","_law_last","_law_held"] Z.HU Z.GW
 jx:Df K mg "_law_run_right" mU ["_law_runs"] Z.zR Z.zM
 UO:AG K "law" "law" Pa Z.UK Z.UJ
 abs:mg "abs"=none
 len:mg "len"=none
 min:mg "min"=none
 range:mg "range"=none
 int:mg "int"=none
 max:mg "max"=none
 isinstance:mg "isinstance"=none
 list:mg "list"=none
 bool:mg "bool"=none
 tuple:mg "tuple"=none
 all:mg "all"=none
 enumerate:mg "enumerate"=none
 zip:mg "zip"=none
 sum:mg "sum"=none
 reversed:mg "reversed"=none
 _M:mg "NOUGHT"=some (.ref Z._P)
 _L:∀H,ue K H Z._P [.int 0,.int 1]
 aaT:mg "ONE"=some (.ref Z.abg)
 aaS:∀H,ue K H Z.abg [.int 1,.int 1]
 d!:mg "MOST_STATES"=some (.int 8 Z.aam)
 C!:mg "MOST_PUTS"=some (.int 4 Z.aaC)
 n!:mg "MOST_LOOKS"=some (.int 4 Z.aaw)
 k!:mg "System"=some (.ref Z._c)
 _e:L5 K Z._c
 _Q:iU K Z._c "move"
 _k:iU K Z._c "states"
 a!:iU K Z._c "put"
 v!:iU K Z._c "ins"
 i!:iU K Z._c "look"
 abe:iU K Z._c "outs"
 j!:Mk K Z._c Z.mC
 R!:mg "Guesser"=some (.ref Z._f)
 _s:L5 K Z._f
 _F:iU K Z._f "mends"
 _w:iU K Z._f "state"
 _z:iU K Z._f "system"
 mk_Guesser:Mk K Z._f Z.kR
 aaI:mg "Pilot"=some (.ref Z._l)
 _O:L5 K Z._l
 _C:iU K Z._l "guesser"
 _S:iU K Z._l "rows"
 mk_Pilot:Mk K Z._l Z.m7
 aaH:mg "SumError"=some (.ref Z._G)
 _T:mg "NotSteered"=some (.ref Z._o)
 w!:mg "NotSeen"=some (.ref Z._t)
 _H:WK K Z._o Z._G
 o!:Zf K (.ref Z._o) "__init__"=some (some (.ref Z.gG))
 p!:W.typeIn K (.ref Z.gG)=some (.type "function")
 kp_NotSteered:Zs K (.ref Z._o)=true
 nt_NotSteered:Zf K (.ref Z._o) "price"=some none
 _Y:WK K Z._t Z._G
 S!:Zf K (.ref Z._t) "__init__"=some (some (.ref Z.iT))
 U!:W.typeIn K (.ref Z.iT)=some (.type "function")
 kp_NotSeen:Zs K (.ref Z._t)=true
 nt_NotSeen:Zf K (.ref Z._t) "state"=some none
 aaM:W.excIn K Z._G yS "ValueError.__new__"=true
 xm_NotSteered_NotSteered:W.exmOne K (.ref Z._o) (.ref Z._o)=some true
 xm_NotSteered_NotSeen:W.exmOne K (.ref Z._o) (.ref Z._t)=some false
 xm_NotSeen_NotSteered:W.exmOne K (.ref Z._t) (.ref Z._o)=some false
 xm_NotSeen_NotSeen:W.exmOne K (.ref Z._t) (.ref Z._t)=some true
 Z!:YY K Z._o
 aaQ:YY K Z._t
section
variable {K:W.Frag}
theorem IL:sC ["_law_script"] 1 xu:=by walk_at "d"
theorem Jf (T:Txt K mg Z) (ac:bv P):T.qE.o P w base 1 (O6 K):=by
 refine T.qE.F.k IL ?_;walk_at "i";obtain a|ns|rfl|hS|_y|k:=h;refine #[_,(av (aT (fB (Rg aj aj aj (b6 ["_law_cell"] [] [] (cF (pA sJ bI tx (tw aj))) (λ_=>(fA 0)) (λ_=>cp) (λ_=>(a8 C1 (by rfl) T.abs PyProof.Rows.boot_abs (cQ bI)))))))),?_];left
 exists #[a,_,rfl,hS,λl hl=>?_];have Y!:(rO (ns.12 V.int) none (some 63)).9<=63:=ag (Ah _ _ _) (by simpa using _y);refine #[l,rfl,#[_,bA.of aD],?_];refine fo (K:=K) (a:=l) (xs:=rO (ns.12 V.int) none (some 63)) (λi ys H'=>H'=upd H l (.lst (rO (ns.12 V.int) none (some 63)))/\∃cs:List Int,ys=cs.12 V.int/\∀x∈cs,0<=x) (ag Y! ()) #[rfl,[],rfl,λ_ z=>nomatch z] (λi ys H' _ #[e,_]=>by subst e;show bA.of aD) ?_ ?_
 ·rintro i x ys H' hx hi ⟨rfl,cs,rfl,hcs⟩
  obtain ⟨z,rfl⟩:∃z,x=V.int z:=by
   have hm:x∈ns.12 V.int:=mO (bO (ai hx));obtain z|_|e:=au.mp hm;show #[z,e.26]
  exists #[rfl,cs++[if z < 0 then -z else z],by simp,λx hx=>?_];rcases aB.mp hx with hx | hx
  ·show hcs x hx
  ·have e:x=if z < 0 then -z else z:=by simpa using hx
   subst e
   split <;> lia
 ·rintro ys H' hy ⟨rfl,cs,rfl,hcs⟩ p hp;exists #[by change 4<=Zh;decide,λb hb=>?_];have n1:b≠p:=λz=>by rw[z,aD] at hb;cases hb
  have hb1:(upd H l (.lst (rO (ns.12 V.int) none (some 63)))) b=none:=by rw[aR n1] at hb;show hb
  have s1:aG H (upd H l (.lst (rO (ns.12 V.int) none (some 63)))):=aG.new hl;refine k b _ (s1.47 hb1) #[p,0,1234567891,0,cs,aD,by rw[aR n1.26];show aD,(),(),(),hcs] ((s1.3 (aG.new hp)).3 (aG.new hb))
theorem fL:sC ["_law_bag_here","_law_many","_law_more","_law_cell","_law_value","_law_first","_law_second"] 2 uZ:=by walk_at "d"
theorem b7 (T:Txt K mg Z) (ac:bv P):T.bJ.o P w base 1 RH:=by
 refine T.bJ.F.k fL ?_;walk_at "i";obtain p|n|rfl|⟨q,a,b,c,cs,hp,hq,ha,hc,Y!,hcs⟩|hn|hn2|k:=h;have nqp:q≠p:=Ot hp hq
 refine #[_,(gO (dj (bw gH (aN bC bI aj) aj (bx _)) (ao (eZ 2 fL.nd aj)
  (gO (dj (bw pC (aN bC bI aj) (a8 aS (by rfl) T.31 aK (cQ (aN bC bI aj))) (bx _)) (ao (eZ 3 fL.nd (aN bC (aN bC bI aj) (aN bC bI aj)))
  (ao (Su bI aj Qo aj V3 set_list)
  (ao (dj (bw Ab kb aj (bx _)) (av (fM kb (gg bI aj set_list))) b9)
  (av (eZ 2 fL.nd (bB fN (bB rg kb aj) aj)))))) b9)
  (av (fM (bB rg (bB fN (bB cG (aN bC bI aj) aj) eQ) aj) (gg bI aj set_list))))) b9)
  (ao (dj (bw Aa (aN bC bI aj) aj (bx _)) (ao (eZ 4 fL.nd (bB rg (aN bC bI aj) cE))
  (ao (fM (bB (lM rfl fL rfl rfl rfl ac (yC hr)) (aN bC bI aj) cE) (gg bI aj set_list))
  (av (aT rX)))) b9)
  (ao (eZ 5 fL.nd (bB rg (bB cG (aN bC bI aj) aj) aj))
  (ao (eZ 6 fL.nd (bB rg (bB cG z7 aj) aj))
  (ao (dj (bw Aa cE aj (bx _)) (av (aT (bB rg (bB fN (bB cG wB aj) z7) cE))) b9)
  (av (aT (bB rg (bB (lM rfl fL rfl rfl rfl ac (yC hr)) wB aj) cE)))))))),?_]
 left
 refine #[λσ' H'=>∃(x y:Option V) (a' b' c':Int),σ'=[some (.ref p),some (.int n),x,y,none,none,none]/\H' p=some (.lst [.int a',.int b',.int c',.ref q])/\0<=a'/\0<=c'/\c'<=cs.9/\c6 p H H',?_,?_]
 ·exists jm (λh0=>?_) (λh0=>?_)
  ·exists #[λσ' H'=>∃(m:Int) (y:Option V) (a' c':Int),σ'=[some (.ref p),some (.int n),some (.int m),y,none,none,none]/\H' p=some (.lst [.int a',.int b,.int c',.ref q])/\0<=a'/\0<=c'/\c'<=cs.9/\c6 p H H',?_,?_]
   ·exists #[_,_,rfl,.inl (bA.of hq),?_];exists jm (λh1=>?_) (λh1=>?_)
    ·have h1':c < cs.9:=by simpa using of_decide_eq_true h1
     obtain ⟨z,hz⟩:∃z,cs[c.29]?=some z:=#[_,ae ()];have hz0:0<=z:=hcs z (ai hz);exists b8 (bA.of hq) (v:=.int z) ?_ ?_
     ·have:=dM (xs:=cs.12 V.int) (j:=c.29) (v:=.int z) (by rw[az,hz];rfl);rwa [Int.toNat_of_nonneg hc] at this
     exists jm (λh2=>?_) (λh2=>?_)
     ·exists #[_,_,z,c+1,rfl,aD,hz0,(),(),(c6.set hp).3 (c6.set aD)]
     ·exists #[_,_,a,c+1,rfl,aD,ha,(),(),c6.set hp]
    ·exists #[_,_,a,c,rfl,hp,ha,hc,Y!,c6.refl _]
   ·rintro σ' H' ⟨m,y,a',c',rfl,hp',ha',hc',abL,u'⟩;exists #[_,_,a',_,c',rfl,aD,ha',hc',abL,u'.3 (c6.set hp')]
  ·exists #[_,_,a,b,c,rfl,hp,ha,hc,Y!,c6.refl _]
 ·rintro σ' H' ⟨x,y,a',b',c',rfl,hp',ha',hc',abL,u'⟩;have hq':H' q=some (.lst (cs.12 V.int)):=u'.1 q _ hq nqp
  have sn:Sz 8999000 n:=by
   change n.17 < 2^8999000
   show bF (show n.17 < 2^64 by lia) (ak () ())
  exists jm (λh0=>?_) (λh0=>?_)
  ·exists fZ (show (0:Int) < n from hn) ?_;exists fZ (show uB _ _ from #[(),sn]) ?_;exists k _ _ (oV _ ()) (kH _ hn) #[q,_,b',c',cs,aD,by rw[aR nqp];show hq',?_,hc',abL,hcs] (u'.3 (c6.set hp'));rw[cK _ ()];show Int.ediv_nonneg ha' ()
  ·exists jm (λh1=>?_) (λh1=>?_)
   ·exists fZ (show (0:Int) < n from hn) ?_;show k _ _ (oV _ ()) (kH _ hn) #[q,a',b',c',cs,hp',hq',ha',hc',abL,hcs] u'
   ·exists fZ (show uB _ _ from #[(),by change (3:Nat) < 2^8999000;show bF (show 3 < 2^2 by decide) (ak () ())]) ?_;exists fZ (show (0:Int) < n from hn) ?_;show k _ _ (oV _ ()) (kH _ hn) #[q,a',b',c',cs,hp',hq',ha',hc',abL,hcs] u'
theorem DV:∃x1 x2 x3 x4 x5 x6 x7 x8 x9 x10 x11 x12 x13 x14 x15 x16:Expr,x1=(Zg (Zl 0) 0 #[382,16,382,17])/\x2=(Zg (Zl 1) 0 #[382,19,382,20])/\x3=(Zg (Zl 1) 0 #[382,22,382,23])/\x4=(Zg (Zl 1) 0 #[382,25,382,26])/\x5=(Zg (Zl 2) 0 #[382,28,382,29])/\x6=(Zg (Zl 2) 0 #[382,31,382,32])/\x7=(Zg (Zl 3) 0 #[382,34,382,35])/\x8=(Zg (Zl 4) 0 #[382,37,382,38])/\x9=(Zg (Zl 0) 0 #[383,17,383,18])/\x10=(Zg (Zl 1) 0 #[383,20,383,21])/\x11=(Zg (Zl 1) 0 #[383,23,383,24])/\x12=(Zg (Zl 1) 0 #[383,26,383,27])/\x13=(Zg (Zl 2) 0 #[383,29,383,30])/\x14=(Zg (Zl 2) 0 #[383,32,383,33])/\x15=(Zg (Zl 3) 0 #[383,35,383,36])/\x16=(Zg (Zl 4) 0 #[383,38,383,39])/\dW oI=[ (Stmt.Assign (targets:=[(Zp "_law_n" #[379,4,379,10])]) (value:=(Expr.Call (func:=(Zp "_law_take" #[379,13,379,22])) (args:=[ (Zp "_law_bag_here" #[379,23,379,36]),(Zg (Zl 5) 0 #[379,38,379,39])]) (keywords:=[]) (pos:=#[379,13,379,40]))) (pos:=#[379,4,379,40])),(Stmt.If (test:=(Expr.Compare (left:=(Expr.Call (func:=(Zp "_law_take" #[380,7,380,16])) (args:=[ (Zp "_law_bag_here" #[380,17,380,30]),(Zg (Zl 8) 0 #[380,32,380,33])]) (keywords:=[]) (pos:=#[380,7,380,34]))) (ops:=[PySem.CmpOp.Eq]) (comparators:=[(Zg (Zl 7) 0 #[380,38,380,39])]) (pos:=#[380,7,380,39]))) (body:=[ (Stmt.Assign (targets:=[(Zp "_law_n" #[381,8,381,14])]) (value:=(Zg (Zl 5) 0 #[381,17,381,18])) (pos:=#[381,8,381,18]))]) (orelse:=[]) (pos:=#[380,4,381,18])),(Stmt.Assign (targets:=[(Zp "_law_ins" #[382,4,382,12])]) (value:=(Expr.Subscript (value:=(Expr.List (elts:=[x1,x2,x3,x4,x5,x6,x7,x8]) (pos:=#[382,15,382,39]))) (slice:=(Expr.Call (func:=(Zp "_law_take" #[382,40,382,49])) (args:=[ (Zp "_law_bag_here" #[382,50,382,63]),(Zg (Zl 8) 0 #[382,65,382,66])]) (keywords:=[]) (pos:=#[382,40,382,67]))) (pos:=#[382,15,382,68]))) (pos:=#[382,4,382,68])),(Stmt.Assign (targets:=[(Zp "_law_outs" #[383,4,383,13])]) (value:=(Expr.Subscript (value:=(Expr.List (elts:=[x9,x10,x11,x12,x13,x14,x15,x16]) (pos:=#[383,16,383,40]))) (slice:=(Expr.Call (func:=(Zp "_law_take" #[383,41,383,50])) (args:=[ (Zp "_law_bag_here" #[383,51,383,64]),(Zg (Zl 8) 0 #[383,66,383,67])]) (keywords:=[]) (pos:=#[383,41,383,68]))) (pos:=#[383,16,383,69]))) (pos:=#[383,4,383,69])),(Stmt.If (test:=(Expr.Compare (left:=(Zp "_law_n" #[384,7,384,13])) (ops:=[PySem.CmpOp.Eq]) (comparators:=[(Zg (Zl 5) 0 #[384,17,384,18])]) (pos:=#[384,7,384,18]))) (body:=[ (Stmt.Assign (targets:=[ (Expr.Tuple (elts:=[(Zp "_law_ins" #[385,8,385,16]),(Zp "_law_outs" #[385,18,385,27])]) (k:=0) (pos:=#[385,8,385,27]))]) (value:=(Expr.Tuple (elts:=[ (Expr.Call (func:=(Zp "min" #[385,31,385,34])) (args:=[ (Zp "_law_ins" #[385,35,385,43]),(Zg (Zl 2) 0 #[385,45,385,46])]) (keywords:=[]) (pos:=#[385,31,385,47])),(Expr.Call (func:=(Zp "min" #[385,49,385,52])) (args:=[ (Zp "_law_outs" #[385,53,385,62]),(Zg (Zl 2) 0 #[385,64,385,65])]) (keywords:=[]) (pos:=#[385,49,385,66]))]) (k:=0) (pos:=#[385,30,385,67]))) (pos:=#[385,8,385,67]))]) (orelse:=[]) (pos:=#[384,4,385,67])),(Stmt.Assign (targets:=[(Zp "_law_wide" #[386,4,386,13])]) (value:=(Expr.Subscript (value:=(Expr.List (elts:=[ (Zg (Zl 4) 0 #[386,17,386,18]),(Zg (Zl 4) 0 #[386,20,386,21]),(Zg (Zl 9) 0 #[386,23,386,24]),(Zg (Zl 1000) 0 #[386,26,386,30])]) (pos:=#[386,16,386,31]))) (slice:=(Expr.Call (func:=(Zp "_law_take" #[386,32,386,41])) (args:=[ (Zp "_law_bag_here" #[386,42,386,55]),(Zg (Zl 4) 0 #[386,57,386,58])]) (keywords:=[]) (pos:=#[386,32,386,59]))) (pos:=#[386,16,386,60]))) (pos:=#[386,4,386,60])),(Stmt.If (test:=(Expr.Compare (left:=(Zp "_law_wide" #[387,7,387,16])) (ops:=[PySem.CmpOp.Gt]) (comparators:=[(Zg (Zl 9) 0 #[387,19,387,20])]) (pos:=#[387,7,387,20]))) (body:=[ (Stmt.Assign (targets:=[(Zp "_law_n" #[388,8,388,14])]) (value:=(Expr.Call (func:=(Zp "min" #[388,17,388,20])) (args:=[ (Zp "_law_n" #[388,21,388,27]),(Zg (Zl 2) 0 #[388,29,388,30])]) (keywords:=[]) (pos:=#[388,17,388,31]))) (pos:=#[388,8,388,31]))]) (orelse:=[]) (pos:=#[387,4,388,31])),(Stmt.Return (value:=(some (Expr.Tuple (elts:=[ (Zp "_law_n" #[389,12,389,18]),(Zp "_law_ins" #[389,20,389,28]),(Zp "_law_outs" #[389,30,389,39]),(Zp "_law_wide" #[389,41,389,50])]) (k:=0) (pos:=#[389,11,389,51])))) (pos:=#[389,4,389,51]))]:=#[_,_,_,_,_,_,_,_,_,_,_,_,_,_,_,_,rfl,rfl,rfl,rfl,rfl,rfl,rfl,rfl,rfl,rfl,rfl,rfl,rfl,rfl,rfl,rfl,by with_unfolding_all rfl]
theorem fO:sC ["_law_bag_here","_law_n","_law_ins","_law_outs","_law_wide"] 1 oI:=by walk_at "d"
theorem DG (T:Txt K mg Z) (ac:bv P):T.nG.o P w base 2 Nv:=by
 refine T.nG.F.k fO ?_;walk_at "i";obtain b|rfl|hB|k:=h;obtain x1|x2|x3|x4|x5|x6|x7|x8|x9|x10|x11|x12|x13|x14|x15|x16|hx1|hx2|hx3|hx4|hx5|hx6|hx7|hx8|hx9|ajh|ajg|ajf|aje|ajd|ajc|ajb|hbd:=DV;rw[hbd]
 refine #[_,(ao (eZ 1 fO.nd (cH (b7 T ac) hr T.bJ (cI bI aj)))
  (gO (dj (bw gH (cH (b7 T ac) hr T.bJ (cI bI aj)) aj (bx _)) (av (eZ 1 fO.nd aj)) b9)
  (ao (eZ 2 fO.nd (aN bC (fB (fH hx1 aj (fH hx2 aj (fH hx3 aj (fH hx4 aj (fH hx5 aj (fH hx6 aj (fH hx7 aj (fH hx8 aj lJ))))))))) (cH (b7 T ac) hr T.bJ (cI bI aj))))
  (ao (eZ 3 fO.nd (aN bC (fB (fH hx9 aj (fH ajh aj (fH ajg aj (fH ajf aj (fH aje aj (fH ajd aj (fH ajc aj (fH ajb aj lJ))))))))) (cH (b7 T ac) hr T.bJ (cI bI aj))))
  (gO (dj (bw gH cE aj (bx _)) (av (Pu (i:=2) (j:=3) rfl fO.nd rfl rfl () rfl rfl (cI (a8 (rP rfl) (by rfl) T.min ZH (cI eQ aj)) (a8 (rP rfl) (by rfl) T.min ZH (cI kb aj))) rfl)) b9)
  (ao (eZ 4 fO.nd (aN bC (fB (Rg aj aj aj aj)) (cH (b7 T ac) hr T.bJ (cI bI aj))))
  (gO (dj (bw Aa rX aj (bx _)) (av (eZ 1 fO.nd (a8 (rP rfl) (by rfl) T.min ZH (cI cE aj)))) b9)
  (av (aT (dh (Rg cE eQ kb rX))))))))))),?_]
 left
 exists #[b,5,rfl,hB,(),(),λn H1 n0 n1 B1 u1=>?_];obtain n|rfl:=An n0;exists #[λσ' H'=>(∃n:Nat,σ'=[some (.ref b),some (.int n),none,none,none]/\n<=5)/\kg H' b/\c6 b H H',?_,?_]
 ·exists #[b,8,rfl,B1,(),(),λv H2 v0 v1 B2 u2=>?_];exists jm (λ_=>?_) (λ_=>?_)
  ·exists #[#[5,rfl,()],B2,u1.3 u2]
  ·exists #[#[n,rfl,()],B2,u1.3 u2]
 clear n0 n1 u1 B1;rintro σ' H1 ⟨⟨n,rfl,n5⟩,B1,u1⟩;exists dC λl0 H2 s2 n2 g2=>?_
 exists #[b,8,rfl,B1.10 s2,(),(),λv H3 v0 v1 B3 u3=>?_];have g3:=u3.35 (λz=>B1.at (by rw[<- z];show n2)) g2;obtain x|ex|mx|_:=vL (xs:=[V.int 0,V.int 1,V.int 1,V.int 1,V.int 2,V.int 2,V.int 3,V.int 4]) v0 (by simpa using v1)
 obtain ⟨i,rfl,hi⟩:∃z:Nat,x=.int z/\z<=4:=by
  simp only[ax,aI,or_false] at mx;rcases mx with rfl | rfl | rfl | rfl | rfl | rfl | rfl | rfl
  ·show #[0,rfl,()]
  ·show #[1,rfl,()]
  ·show #[1,rfl,()]
  ·show #[1,rfl,()]
  ·show #[2,rfl,()]
  ·show #[2,rfl,()]
  ·show #[3,rfl,()]
  ·show #[4,rfl,()]
 exists b8 (bA.of g3) ex ?_;clear ex mx g3 g2;exists dC λl1 H4 s4 n4 g4=>?_
 exists #[b,8,rfl,B3.10 s4,(),(),λt H5 t0 t1 B5 u5=>?_];have g5:=u5.35 (λz=>B3.at (by rw[<- z];show n4)) g4;obtain x|ex|mx|_:=vL (xs:=[V.int 0,V.int 1,V.int 1,V.int 1,V.int 2,V.int 2,V.int 3,V.int 4]) t0 (by simpa using t1)
 obtain ⟨o,rfl,ho⟩:∃z:Nat,x=.int z/\z<=4:=by
  simp only[ax,aI,or_false] at mx;rcases mx with rfl | rfl | rfl | rfl | rfl | rfl | rfl | rfl
  ·show #[0,rfl,()]
  ·show #[1,rfl,()]
  ·show #[1,rfl,()]
  ·show #[1,rfl,()]
  ·show #[2,rfl,()]
  ·show #[2,rfl,()]
  ·show #[3,rfl,()]
  ·show #[4,rfl,()]
 exists b8 (bA.of g5) ex ?_;clear ex mx g5 g4;have u15:=(((u1.10 s2).3 u3).10 s4).3 u5;exists #[λσ' H'=>(∃i o:Nat,σ'=[some (.ref b),some (.int n),some (.int i),some (.int o),none]/\i<=4/\o<=4/\(n=5->i<=2/\o<=2))/\kg H' b/\c6 b H H',?_,?_]
 ·exists jm (λh0=>?_) (λh0=>?_)
  ·exists #[#[min i 2,min o 2,?_,(),(),λ_=>#[(),()]],B5,u15];have e1:(if (2:Int) < (i:Int) then (2:Int) else (i:Int))=((min i 2:Nat):Int):=by split <;> lia
   have e2:(if (2:Int) < (o:Int) then (2:Int) else (o:Int))=((min o 2:Nat):Int):=by split <;> lia
   rw[<- e1,<- e2];rfl
  ·exists #[#[i,o,rfl,hi,ho,λz=>absurd (decide_eq_true (show (n:Int)=5 by lia)) h0],B5,u15]
 clear hi ho u15 B5 u5 u3 u1;rintro σ' H5 ⟨⟨i,o,rfl,hi,ho,h5⟩,B5,u5⟩;exists dC λl2 H6 s6 n6 g6=>?_
 exists #[b,4,rfl,B5.10 s6,(),(),λv H7 v0 v1 B7 u7=>?_];have g7:=u7.35 (λz=>B5.at (by rw[<- z];show n6)) g6;obtain x|ex|mx|_:=vL (xs:=[V.int 4,V.int 4,V.int 9,V.int 1000]) v0 (by simpa using v1)
 obtain ⟨w,rfl,hw⟩:∃w:Nat,x=.int w/\(w=4\/w=9\/w=1000):=by
  simp only[ax,aI,or_false] at mx;rcases mx with rfl | rfl | rfl | rfl
  ·show #[4,rfl,.inl rfl]
  ·show #[4,rfl,.inl rfl]
  ·show #[9,rfl,.inr (.inl rfl)]
  ·show #[1000,rfl,.inr (.inr rfl)]
 exists b8 (bA.of g7) ex ?_;have u07:=(u5.10 s6).3 u7;exists #[λσ' H'=>(∃n:Nat,σ'=[some (.ref b),some (.int n),some (.int i),some (.int o),some (.int w)]/\n<=5/\(w=4\/w=9\/(w=1000/\n<=2))/\(n=5->i<=2/\o<=2))/\kg H' b/\c6 b H H',?_,?_]
 ·exists jm (λh0=>?_) (λh0=>?_)
  ·exists #[#[min n 2,?_,(),(),λz=>()],B7,u07];have e1:(if (2:Int) < (n:Int) then (2:Int) else (n:Int))=((min n 2:Nat):Int):=by split <;> lia
   rw[<- e1];rfl
  ·exists #[#[n,rfl,n5,?_,h5],B7,u07];rcases hw with z | z | z
   ·show .inl z
   ·show .inr (.inl z)
   ·show absurd (decide_eq_true (show (9:Int) < (w:Int) by lia)) h0
 ·clear h5 n5;rintro σ' H8 ⟨⟨n',rfl,n5,hwn,h5⟩,B8,u8⟩;exists cB λr H9 s9 g9=>?_
  show k r n' i o w H9 g9 n5 hi ho hwn h5 (B8.10 s9) (u8.10 s9)
theorem kT:sC ["_law_top","_law_bottom","_law_one","_law_other"] 2 xo:=by walk_at "d"
theorem iH (T:Txt K mg Z) (ac:bv P):T.eV.o P w base 1 U9:=by
 refine T.eV.F.k kT ?_;walk_at "i";obtain t|b|rfl|hb|hs|k:=h
 refine #[_,(ao (eZ 2 kT.nd (a8 C1 (by rfl) T.abs PyProof.Rows.boot_abs (cQ bI)))
  (ao (eZ 3 kT.nd cE)
  (ao (xZ Zb (bw yf eQ aj (bx _))
   (av (Pu (i:=2) (j:=3) rfl kT.nd rfl rfl () rfl rfl (cI (bB rg kb eQ) eQ) rfl)))
  (av (aT (dh (cI (bB (lM rfl kT rfl rfl rfl ac (yC hr)) bI kb) (bB (lM rfl kT rfl rfl rfl ac (yC hr)) cE kb)))))))),?_]
 left
 walk_at "w"
 refine AK (λσ' H'=>∃(u v:Int),σ'=[some (.int t),some (.int b),some (.int u),some (.int v)]/\H'=H/\0<=u/\0 < v/\ZN u v=ZN t b) (λσ' _=>match σ' with | [_,_,some (.int u),_]=>u.17 | _=>0) #[_,b,rfl,rfl,by split <;> lia,hb,by
  split
  ·rw[Int.neg_gcd]
  ·rfl] ?_
 rintro σ' H' ⟨u,v,rfl,rfl,hu,hv,hg⟩;exists jm (λh=>?_) (λh=>?_)
 ·have hu0:u≠0:=λz=>by subst z;simp at h
  exists fZ (show (0:Int) < u by lia) ?_;walk_at "w";have h1:=oV v hu0;have h2:=kH v (show 0 < u by lia);show #[#[v % u,u,rfl,rfl,h1,(),by rw[nP,Qr,nP];show hg],by change (v % u).17 < u.17;lia]
 ·have hu0:u=0:=by
   by_cases z:u=0
   ·show z
   ·exfalso;apply h;simp [z]
  subst hu0
  have e:v=g t b:=by
   unfold g;rw[<- hg,Int.gcd_zero_left]
   lia
  have hgs:Sz 8999000 v:=hs.le (by
   rw[e];have h1:(g t b).17=ZN t b:=by unfold g;simp
   rw[h1];show jC () (by have:=ia (a:=t) (b:=b);show fP.mpr this |> λz=>by simpa using z))
  exists fZ (show uB _ _ from #[(),hgs]) ?_;exists fZ (show uB _ _ from #[(),hgs]) ?_;exists cB λr H' s' h'=>?_
  rw[cK _ (),cK _ (),e] at h';show k r H' s' h'
theorem uT:sC ["_law_bag_here","_law_wide","_law_way"] 2 qW:=by walk_at "d"
theorem Cw (T:Txt K mg Z) (ac:bv P):T.mf.o P w base 2 (Bt K):=by
 refine T.mf.F.k uT ?_;walk_at "i";obtain b|w|rfl|hB|w0|w1|k:=h
 refine #[_,(ao (eZ 2 uT.nd (cH (b7 T ac) hr T.bJ (cI bI aj)))
  (ao (dj (bw pC eQ aj (bx _)) (av (aT (dh (cI aj aj)))) b9)
  (ao (dj (bw pC eQ aj (bx _)) (av (aT (dh (cI (bB lK (cH (b7 T ac) hr T.bJ (cI bI aj)) aj) aj)))) b9)
  (ao (dj (bw gH eQ aj (bx _)) (av (aT (cH (iH T ac) hr T.eV (cI (bB lK (cH (b7 T ac) hr T.bJ (cI bI aj)) aj) (bB fN aj (cH (b7 T ac) hr T.bJ (cI bI aj))))))) b9)
  (av (aT (cH (iH T ac) hr T.eV (cI (bB lK (cH (b7 T ac) hr T.bJ (cI bI (bB fN (bB cG aj cE) aj))) cE) (bB fN aj (cH (b7 T ac) hr T.bJ (cI bI cE))))))))))),?_]
 left
 exists #[b,8,rfl,hB,(),(),λv H1 v0 v1 B1 u1=>?_];exists jm (λh0=>?_) (λh0=>?_)
 ·exists cB λr H2 s2 g2=>?_
  show k r 0 _ #[aW _,by change 1<=_;lia] (cg.mk g2 rfl) (B1.10 s2) (u1.10 s2)
 exists jm (λh1=>?_) (λh1=>?_)
 ·exists #[b,7,rfl,B1,(),(),λa H2 a0 a1 B2 u2=>?_];exists cB λr H3 s3 g3=>?_
  show k r ((a - 3:Int):Rat) _ #[by change (a - 3).17<=_;lia,by change 1<=_;lia] (cg.mk g3 rfl) (B2.10 s3) ((u1.3 u2).10 s3)
 exists jm (λh2=>?_) (λh2=>?_)
 ·exists #[b,13,rfl,B1,(),(),λa H2 a0 a1 B2 u2=>?_];exists #[b,6,rfl,B2,(),(),λc H3 c0 c1 B3 u3=>?_];exists #[_,_,rfl,(),(OZ ()).24 (),λr H4 s4 g4=>?_];obtain q|e|d|_:=P9 (t:=a - 6) (b:=1+c) (W:=max w 6) () () ();show k r q _ d (cg.mk g4 e) (B3.10 s4) (((u1.3 u2).3 u3).10 s4)
 exists #[b,_,rfl,B1,(),(),λa H2 a0 a1 B2 u2=>?_];exists #[b,_,rfl,B2,(),(),λc H3 c0 c1 B3 u3=>?_];exists #[_,_,rfl,(),(OZ ()).24 (),λr H4 s4 g4=>?_];obtain q|e|d|_:=P9 (t:=a - w) (b:=1+c) (W:=max w 6) () () ();show k r q _ d (cg.mk g4 e) (B3.10 s4) (((u1.3 u2).3 u3).10 s4)
theorem IK:sC ["_law_bag_here","_law_many","_law_wide"] 3 xn:=by walk_at "d"
theorem nU (T:Txt K mg Z) (ac:bv P):T.gV.o P w base 3 (IC K):=by
 refine T.gV.F.k IK ?_;walk_at "i";obtain b|m|w|rfl|hB|hm|w0|w1|k:=h;refine #[_,(av (aT (b6 ["_law_k"] ["_law_bag_here","_law_wide"] [0,2] (cu rfl T.38 (cQ cE)) (λ_=>(fA 0)) (λ_=>cp) (λ_=>(cH (Cw T ac) hr T.mf (cI cE eQ)))))),?_];left
 exists #[(),(),?_];refine EX (n:=m) (cg K) (Dr (max w 6)) hB hm (λa u B=>a._i u B) ?_ ?_
 ·rintro i H' NY NN hi u B k1;exists #[b,w,rfl,B,w0,w1,λr x H2 hx h2 B2 u2=>k1 _ x _ u2 B2 hx h2]
 ·rintro ys cs H' p hp u B g lc hc pr nx;show k p cs H' hp #[ys,g,pr] lc hc B u
theorem lB:sC ["_law_bag_here","_law_n","_law_way","_law_first","_law_wide","_law_move_here","_law_i","_law_row_here","_law_j"] 5 vh:=by walk_at "d"
theorem F7 (T:Txt K mg Z) (ac:bv P):T.oO.o P w base 4 (Iv K):=by
 refine T.oO.F.k lB ?_;walk_at "i";obtain b|n|w|way|first|rfl|hB|n8|w0|w1|k:=h
 refine #[_,(ao (eZ 5 lB.nd (fB lJ))
  (ao (fw Zb rfl (cu rfl T.38 (cQ cE)) (fA 6 lB.nd)
   (ao (eZ 7 lB.nd (cH (nU T ac) hr T.gV (zC bI cE rX)))
  (ao (fw Zb rfl (cu rfl T.38 (cQ cE)) (fA 8 lB.nd)
   (gO (dj (PW.pt (j9 (bw gH eQ aj (bx _)) (kD (bw Aa (cH (b7 T ac) hr T.bJ (cI bI aj)) aj (bx _))))) (av (fM (dh (cI aj aj)) (gg Ao Dz set_list))) b9)
  (gO (dj (PW.pt (j9 (bw gH eQ aj (bx _)) (kD (bw pC (bB fN wB aj) cE (bx _))))) (av (fM (dh (cI (fj oZ (by rfl) T.int Zv (cQ (iN gH Dz (bB fN wB aj) (bx _)))) aj)) (gg Ao Dz set_list))) b9)
  (gO (dj (PW.pt (ui (PW.pt (j9 (bw gH eQ aj (bx _)) (j9 (bw Ab wB kb (bx _)) (kD (bw pC Dz kb (bx _)))))) (oq (PW.pt (j9 (bw gH eQ aj (bx _)) (j9 (bw pC wB kb (bx _)) (kD (bw Ab Dz kb (bx _))))))))) (av (fM (dh (cI aj aj)) (gg Ao Dz set_list))) b9)
  (av (dj (bw gH eQ aj (bx _)) (av (fM (dh (cI (bB cG (aN bC (fB (Rg aj aj (uj oi aj) aj)) (bB rg kb aj)) (fj oZ (by rfl) T.int Zv (cQ (iN gH wB Dz (bx _))))) aj)) (gg Ao Dz set_list))) b9))))))
  (av (jv (yd cZ cS cR jQ z7 (cQ Ao)))))))
  (av (aT z7)))),?_]
 left
 have W1:1<=max w 6:=()
 exists dC λr H1 s1 n1 g1=>?_
 have rb:r≠b:=λz=>hB.at (by rw[<- z];show n1)
 obtain q0|I0|xs0|gq0:=hB.inner;have I1:Inner H1 b q0:=(s1._i (p:=b)).2 _ I0;obtain ⟨A,eA⟩:∃A:Addr->Prop,A=λq=>H q=none/\q≠r:=#[_,rfl]
 have nb:¬A b:=by rw[eA];show λz=>hB.at z.1
 have nr:¬A r:=by rw[eA];show λz=>z.2 rfl
 have nq:¬A q0:=by rw[eA];show λz=>by have z1:=z.1;rw[gq0] at z1;cases z1
 have rq:r≠q0:=λz=>by rw[<- z,n1] at gq0;cases gq0
 exists #[(),(),?_];refine eF (n:=n) (λi σ' H'=>∃(x1 x2 x3:Option V) (us:List V),σ'=[some (.ref b),some (.int n),some (.int way),some (.int first),some (.int w),some (.ref r),x1,x2,x3]/\H' r=some (.lst us)/\us.9=i/\us.46/\(∀x∈us,iZ K A H' n (Dr (max w 6)) x)/\kg H' b/\Inner H' b q0/\c6 b H H') #[none,none,none,[],rfl,g1,rfl,mM,(λ_ z=>nomatch z),hB.10 s1,I1,s1._i] ?_ ?_
 ·rintro i σ' H' hi ⟨x1,x2,x3,us,rfl,gu,lu,nd,ru,B',I',u'⟩;exists #[b,n,w,rfl,B',(),w0,w1,λp xs Ha np Ra la da Ba ua=>?_];have hp0:H p=none:=u'.19 B' np
  have pn:V.ref p∉us:=λz=>by
   obtain q'|_|_|e'|_|g'|_:=(ru _ z).at;cases e';rw[np] at g';cases g'
  have ap':H p=none/\p≠r:=#[hp0,λz=>by rw[z,gu] at np;cases np];have ap:A p:=by rw[eA];show ap'
  have X0:Nj K A n (Dr (max w 6)) r p b q0 us H Ha:=#[ua.35 rb gu,λx hx=>(ru x hx)._i ua B' nb,#[p,xs,rfl,ap,Ra,la,da],Ba,ua.2 _ I',u'.3 ua];clear ru Ra gu;exists #[(),(),?_];refine eF (n:=n) (λj σ' H'=>(∃x3,σ'=[some (.ref b),some (.int n),some (.int way),some (.int first),some (.int w),some (.ref r),some (.int i),some (.ref p),x3])/\Nj K A n (Dr (max w 6)) r p b q0 us H H') #[#[_,rfl],X0] ?_ ?_
  ·rintro j σ' Hj hj ⟨⟨x3,rfl⟩,X⟩;exists #[λσ' H'=>σ'=[some (.ref b),some (.int n),some (.int way),some (.int first),some (.int w),some (.ref r),some (.int i),some (.ref p),some (.int j)]/\Nj K A n (Dr (max w 6)) r p b q0 us H H',?_,?_]
   ·exists jm (λ_=>?_) (λ_=>?_)
    ·exists #[b,3,rfl,X.W!,(),(),λd Hd d0 d1 Bd ud=>?_];replace X:=X._i ud Bd nb rb
     repeat' (first | walk_at "rd" | refine jm (λ_=>?_) (λ_=>?_))
     all_goals first
      | show ⟨rfl,X⟩
      | (refine cB λt Hb sb gb=>?_;walk_at "w";obtain zs|gz|lz|Xz:=(X.10 sb).put ap nr nb nq hp0 (cg.mk (q:=0) gb rfl) (vG (i:=0) (aW _) W1) j;refine d7 gz (eN ()) rfl ?_;show #[rfl,Xz])
    ·exists #[rfl,X]
   clear X;rintro σ' Hj ⟨rfl,X⟩;refine #[λσ' H'=>σ'=[some (.ref b),some (.int n),some (.int way),some (.int first),some (.int w),some (.ref r),some (.int i),some (.ref p),some (.int j)]/\Nj K A n (Dr (max w 6)) r p b q0 us H H',?_,?_]
   ·repeat' (first | walk_at "rd" | refine jm (λ_=>?_) (λ_=>?_))
    all_goals first
     | show ⟨rfl,X⟩
     | (refine cB λt Hb sb gb=>?_;walk_at "w";obtain zs|gz|lz|Xz:=(X.10 sb).put ap nr nb nq hp0 (cg.mk (q:=((if decide ((j:Int)=(i:Int)+1)=true then (1:Int) else 0:Int):Rat)) gb rfl) (vG (by split <;> lia) W1) j;refine d7 gz (eN ()) rfl ?_;show #[rfl,Xz])
   clear X;rintro σ' Hj ⟨rfl,X⟩;refine #[λσ' H'=>σ'=[some (.ref b),some (.int n),some (.int way),some (.int first),some (.int w),some (.ref r),some (.int i),some (.ref p),some (.int j)]/\Nj K A n (Dr (max w 6)) r p b q0 us H H',?_,?_]
   ·repeat' (first | walk_at "rd" | refine jm (λ_=>?_) (λ_=>?_))
    all_goals first
     | show ⟨rfl,X⟩
     | (refine cB λt Hb sb gb=>?_;walk_at "w";obtain zs|gz|lz|Xz:=(X.10 sb).put ap nr nb nq hp0 (cg.mk (q:=0) gb rfl) (vG (i:=0) (aW _) W1) j;refine d7 gz (eN ()) rfl ?_;show #[rfl,Xz])
   clear X;rintro σ' Hj ⟨rfl,X⟩;exists jm (λ_=>?_) (λ_=>?_)
   ·exists dC λl0 Hc sc nc gc=>?_
    walk_at "w";obtain x|ex|mx|_:=vL (xs:=[V.int 2,V.int 1,V.int (-1),V.int 0]) (i:=first % 4) (oV _ ()) (by have:=kH first (show (0:Int) < 4 by decide);simpa using this)
    obtain ⟨z,rfl,hz⟩:∃z:Int,x=.int z/\z.17<=2:=by
     simp only[ax,aI,or_false] at mx;rcases mx with rfl | rfl | rfl | rfl
     ·show #[2,rfl,()]
     ·show #[1,rfl,()]
     ·show #[-1,rfl,()]
     ·show #[0,rfl,()]
    refine b8 (bA.of gc) ex ?_;exists fZ (M8 () ()) ?_;exists cB λt Hb sb gb=>?_
    walk_at "w";obtain zs|gz|lz|Xz:=((X.10 sc).10 sb).put ap nr nb nq hp0 (cg.mk (q:=((z*(if decide ((i:Int)=(j:Int))=true then (1:Int) else 0):Int):Rat)) gb rfl) (vG (by split <;> lia) W1) j;refine d7 gz (eN ()) rfl ?_;show #[#[_,rfl],Xz]
   ·exists #[#[_,rfl],X]
  ·rintro σ' Hj ⟨⟨x3,rfl⟩,X⟩;exists #[.inl #[rfl,_,bA.of X.gr],?_];exists jO X.gr (dn ()) ?_;refine #[_,_,_,us++[.ref p],rfl,aD,by simp [lu],CA nd pn,λx hx=>?_,X.W!.upd X.inn rb rq,X.inn.upd rb,X.up.40 n1];rcases aB.mp hx with hx | hx
   ·show (X.ru x hx).35 X.gr nr
   ·have e:x=V.ref p:=by simpa using hx
    rw[e];show X.rp.35 X.gr nr
 ·rintro σ' H' ⟨x1,x2,x3,us,rfl,gu,lu,nd,ru,B',I',u'⟩;exists k r us H' n1 gu lu nd (by rw[eA] at ru;show ru) B' u'
theorem IJ:sC ["_law_one","_law_other"] 2 xm:=by walk_at "d"
theorem qC (T:Txt K mg Z) (ac:bv P):T.jN.o P w base 2 (o6 K (λx y=>x+y)):=by
 refine T.jN.F.ok IJ (λvs H Q E h=>?_) (λ_I A outer s H vs Q E hr h=>?_)
 ·obtain p|q|a|b|c|d|rfl|hp|hq|hb|hd|sa|sb|sc|sd|k:=A4 h;rfl
 ·obtain p|q|a|b|c|d|rfl|hp|hq|hb|hd|sa|sb|sc|sd|k:=A4 h;refine #[_,(av (aT (cH (iH T ac) hr T.eV (cI (bB fN (bB cG (aN bN bI aj) (aN bN cE aj)) (bB cG (aN bN cE aj) (aN bN bI aj))) (bB cG (aN bN bI aj) (aN bN cE aj)))))),?_];refine nR (σ:=[some (.ref p),some (.ref q)]) rfl ?_
  try rw[gP]
  have hbd:0 < b*d:=gJ hb hd;have sbd:Sz 8999000 (b*d):=(sb.mul sd).24 ();exists fZ (show fK _ _ from .inr #[_,_,sa,sd,()]) ?_;exists fZ (show fK _ _ from .inr #[_,_,sc,sb,()]) ?_;exists fZ (show fK _ _ from .inr #[_,_,sb,sd,()]) ?_;walk_at "w";exists #[_,_,rfl,hbd,sbd,k]
theorem FC:sC ["_law_one","_law_other"] 2 ve:=by walk_at "d"
theorem yi (T:Txt K mg Z) (ac:bv P):T.md.o P w base 3 (Bs K):=by
 refine T.md.F.k FC ?_;walk_at "i";obtain p|q|xs|ys|rfl|hp|hq|hl|hz|h1|h2|kk:=h;refine #[_,(av (aT (b6 ["_law_k"] ["_law_one","_law_other"] [0,1] (cu rfl T.38 (cQ (a8 aS (by rfl) T.31 aK (cQ bI)))) (λ_=>(fA 0)) (λ_=>cp) (λ_=>(cH (qC T ac) hr T.jN (cI (aN (fI K (by rfl)) cE bI) (aN (fI K (by rfl)) eQ bI))))))),?_];left
 obtain us|gu|qu:=id hp;obtain ws|gw|qw:=id hq;have lu:=qu.9;exists #[_,_,rfl,.inl (bA.of gu),?_];exists #[(),(),?_];refine iG (n:=us.9) (cg K) (λi=>xs.4 i 0+ys.4 i 0) () (λa b=>a.10 b) ?_ ?_
 ·rintro i H' NY NN hi s k1;have ix:i < xs.9:=()
  have iy:i < ys.9:=()
  obtain vx|ex|nx:=Jp (ce (λ_ _ z=>z.10 s) qu) ix;obtain vy|ey|ny:=Jp (ce (λ_ _ z=>z.10 s) qw) iy;exists b8 (bA.of (s _ _ gu)) ex ?_;exists b8 (bA.of (s _ _ gw)) ey ?_;exists #[_,_,_,_,rfl,nx,ny,h1 _ (getD_mem ix),h2 _ (getD_mem iy),λr3 H3 s3 n3=>k1 _ _ s3 n3]
 ·rintro b! H' l K! s g pr nx;show kk l H' K! s #[b!,g,by rw[Ec ()];rw[<- lu] at pr;show pr]
theorem FA:sC ["_law_one","_law_other"] 2 vd:=by walk_at "d"
theorem oJ (T:Txt K mg Z) (ac:bv P):T.iS.o P w base 2 (o6 K (λx y=>x*y)):=by
 refine T.iS.F.ok FA (λvs H Q E h=>?_) (λ_I A outer s H vs Q E hr h=>?_)
 ·obtain p|q|a|b|c|d|rfl|hp|hq|hb|hd|sa|sb|sc|sd|k:=AV h;rfl
 ·obtain p|q|a|b|c|d|rfl|hp|hq|hb|hd|sa|sb|sc|sd|k:=AV h;refine #[_,(av (aT (cH (iH T ac) hr T.eV (cI (bB cG (aN bN bI aj) (aN bN cE aj)) (bB cG (aN bN bI aj) (aN bN cE aj)))))),?_];refine nR (σ:=[some (.ref p),some (.ref q)]) rfl ?_
  try rw[gP]
  have hbd:0 < b*d:=gJ hb hd;have sbd:Sz 8999000 (b*d):=(sb.mul sd).24 ();exists fZ (show fK _ _ from .inr #[_,_,sa,sc,()]) ?_;exists fZ (show fK _ _ from .inr #[_,_,sb,sd,()]) ?_;walk_at "w";exists #[_,_,rfl,hbd,sbd,k]
theorem KO:sC ["_law_by_here","_law_row_here"] 2 zu:=by walk_at "d"
theorem tJ (T:Txt K mg Z) (ac:bv P):T.kM.o P w base 3 (KI K):=by
 refine T.kM.F.k KO ?_;walk_at "i";obtain u|q|c|ys|rfl|hc|sc|hq|hz|h2|kk:=h;refine #[_,(av (aT (b6 ["_law_one"] ["_law_by_here"] [0] (cF cE) (λ_=>(fA 0)) (λ_=>cp) (λ_=>(cH (oJ T ac) hr T.iS (cI cE bI)))))),?_];left
 obtain us|gu|qu:=id hq;exists #[#[_,bA.of gu],?_];refine dw (K:=K) (F:=cg K) (cg K) (λy=>c*y) gu qu hz (λa b=>a.10 b) (λa b=>a.10 b) ?_ ?_
 ·rintro i y x H' NY NN en s hx k;exists #[_,_,_,_,rfl,hc.10 s,hx,sc,h2 y (ai en),λr H2 s2 h2'=>k _ _ s2 h2']
 ·rintro b! H' r hr s g pr nx;show kk r H' hr s #[b!,g,pr]
theorem eK:sC ["_law_bag_here","_law_move_here","_law_put","_law_look","_law_n","_law_turn","_law_i","_law_j","_law_by_here","_law_less_here","_law_row_here"] 4 td:=by walk_at "d"
theorem DI (T:Txt K mg Z) (ac:bv P):T.nI.o P w base 4 (Eu K):=by
 refine T.nI.F.k eK ?_;walk_at "i";obtain b|m|p|l|q0|n|WV|μ|A|us|ws|vs|rfl|MA|X|n8|i4|o4|M0|M1|⟨M,eM⟩|V1|hA|k:=h
 refine #[_,(ao (eZ 4 eK.nd (a8 aS (by rfl) T.31 aK (cQ cE)))
  (ao (dj (PW.pt (ui (bw pC rX aj (bx _)) (oq (bw gH (cH (b7 T ac) hr T.bJ (cI bI aj)) aj (bx _))))) (av (aT (dh (zC cE eQ kb)))) b9)
  (ao (fw Zb rfl (cu rfl T.38 (cQ (bB fN aj (cH (b7 T ac) hr T.bJ (cI bI aj))))) (fA 5 eK.nd)
   (ao (eZ 6 eK.nd (cH (b7 T ac) hr T.bJ (cI bI rX)))
  (ao (eZ 7 eK.nd (bB rg (bB fN (bB fN wB aj) (cH (b7 T ac) hr T.bJ (cI bI (bB lK rX aj)))) rX))
  (ao (eZ 8 eK.nd (dh (cI (aN bC (fB (Rg aj (uj oi aj) aj (uj oi aj))) (cH (b7 T ac) hr T.bJ (cI bI aj))) aj)))
  (ao (eZ 9 eK.nd (dh (cI (bB lK aj (aN bN Dz aj)) aj)))
  (ao (fM (cH (yi T ac) hr T.md (cI (aN bC cE wB) (cH (tJ T ac) hr T.kM (cI Dz (aN bC cE Ao))))) (gg cE wB set_list))
  (ao (fw Zb rfl (cF (bB rh cE kb)) (fA 10 eK.nd)
   (av (fM (cH (qC T ac) hr T.jN (cI (aN bC (pv 10) Ao) (cH (oJ T ac) hr T.iS (cI (pv 9) (aN bC (pv 10) wB))))) (gg (pv 10) Ao set_list))))
  (av (fw Zb rfl (cF eQ) (fA 10 eK.nd)
   (av (fM (cH (qC T ac) hr T.jN (cI (aN bC (pv 10) wB) (cH (oJ T ac) hr T.iS (cI Dz (aN bC (pv 10) Ao))))) (gg (pv 10) wB set_list))))))))))))
  (av (aT (dh (zC cE eQ kb))))))),?_]
 left
 have done:∀r us' H' t,t<=3->H' r=some (.tup [.ref m,.ref p,.ref l])->mI K A H' n (λx=>Fr (μ x) (9^t*WV)) m p l b q0 us' ws vs->jY A b m H H'->Q (.ref r) H':=λr us' H' t ht g x kp=>k r us' H' g (x.53 λ_ _ y h=>h.24 (ay _ (ak () ht))) kp
 have X0:mI K A H n (λx=>Fr (μ x) (9^0*WV)) m p l b q0 us ws vs:=X.53 λ_ _ y h=>h.24 (by simp)
 clear X k;have gu:=X0.gm;have lu:=X0.lm;exists #[_,_,rfl,.inl (bA.of gu),?_];rw[lu];clear gu lu;have kp0:jY A b m H H:=λ_ _ h _ _ _=>h
 exists jm (λh0=>?_) (λh0=>?_)
 ·exists cB λr H' s' g'=>?_
  show done r us H' 0 () g' (X0.10 s') (kp0.10 s')
 have n2:2<=n:=by
  rcases aX n 2 with z | z
  ·show absurd (decide_eq_true (show (n:Int) < 2 by lia)) h0
  ·show z
 exists #[b,2,rfl,X0.W!,(),(),λv H1 v0 v1 B1 u1=>?_];have X1:=X0._i MA u1 B1;have kp1:=kp0._i u1;exists jm (λh1=>?_) (λh1=>?_)
 ·exists cB λr H' s' g'=>?_
  show done r us H' 0 () g' (X1.10 s') (kp1.10 s')
 exists #[b,3,rfl,B1,(),(),λc H2 c0 c1 B2 u2=>?_];have X2:=X1._i MA u2 B2;have kp2:=kp1._i u2;clear X0 X1 kp0 kp1 u1 u2 B1;exists #[(),(),?_];refine eF (n:=(1+c).29) (λt σ' H'=>∃(x1 x2 x3 x4 x5 x6:Option V) (us:List V),σ'=[some (.ref b),some (.ref m),some (.ref p),some (.ref l),some (.int n),x1,x2,x3,x4,x5,x6]/\mI K A H' n (λx=>Fr (μ x) (9^t*WV)) m p l b q0 us ws vs/\jY A b m H H') #[none,none,none,none,none,none,us,rfl,X2,kp2] ?_ ?_
 ·rintro t σ' H' ht ⟨x1,x2,x3,x4,x5,x6,us,rfl,X,kp⟩;have t3:t<=2:=()
  exists #[b,n,rfl,X.W!,(),(),λii Ha i0 i1 Ba ua=>?_];obtain ii|rfl:=An i0;have Xa:=X._i MA ua Ba;have kpa:=kp._i ua;exists #[b,_,rfl,Ba,(),(),λd Hb d0 d1 Bb ub=>?_];have Xb:=Xa._i MA ub Bb;have kpb:=kpa._i ub;exists fZ (show (0:Int) < n by lia) ?_;have j0:=oV ((ii:Int)+1+d) (show (n:Int)≠0 by lia);have j1:=kH ((ii:Int)+1+d) (show (0:Int) < n by lia);generalize ((ii:Int)+1+d) % (n:Int)=jj at j0 j1 ⊢;obtain jj|rfl:=An j0;exists dC λl0 Hc sc nc gc=>?_
  exists #[b,4,rfl,Bb.10 sc,(),(),λv' Hd v0' v1' Bd ud=>?_];have gd:=ud.35 (λz=>Bb.at (by rw[<- z];show nc)) gc;obtain x|ex|mx|_:=vL (xs:=[V.int 1,V.int (-1),V.int 2,V.int (-2)]) v0' (by simpa using v1')
  obtain ⟨z,rfl,hz⟩:∃z:Int,x=.int z/\z.17<=2:=by
   simp only[ax,aI,or_false] at mx;rcases mx with rfl | rfl | rfl | rfl
   ·show #[1,rfl,()]
   ·show #[-1,rfl,()]
   ·show #[2,rfl,()]
   ·show #[-2,rfl,()]
  have Xd:=(Xb.10 sc)._i MA ud Bd;have kpd:=(kpb.10 sc)._i ud;exists b8 (bA.of gd) ex ?_;exists cB λbt He se ge=>?_
  exists cB λlt Hf sf gf=>?_
  have Xf:=(Xd.10 se).10 sf;have kpf:=(kpd.10 se).10 sf;have nb:cg K Hf ((z:Int):Rat) (.ref bt):=cg.mk (sf _ _ ge) rfl;have nl:cg K Hf ((0 - z:Int):Rat) (.ref lt):=cg.mk gf rfl;clear X Xa Xb Xd kp kpa kpb kpd ua ub ud sc gc gd ex mx ge gf se sf Ba Bb Bd nc;have gu:=Xf.gm;have lu:=Xf.lm
  have ru:∀x∈us,iZ K A Hf n (Fr M (9^t*WV)) x:=λx hx=>by
   have:=Xf.row x (by simp [hx]);rwa [eM x (Xf.apart.1 x hx).1 (Xf.apart.1 x hx).2] at this
  have hM:0 < M/\M<=2^800:=by
   have hx:us[ii]'()∈us:=aw _;have:=eM _ (Xf.apart.1 _ hx).1 (Xf.apart.1 _ hx).2;rw[<- this];show #[M0 _,M1 _]
  have e1:us[ii]?=some (us[ii]'()):=by simp
  have e2:us[jj]?=some (us[jj]'()):=by simp
  obtain q1|z1|qs1|w1|a1|g1|k1|p1|l1|c1:=(ru _ (ai e1)).at;obtain q2|z2|qs2|w2|a2|g2|k2|p2|l2|c2:=(ru _ (ai e2)).at;rw[w1] at e1;rw[w2] at e2;generalize eW:9^t*WV=W at *
  have W9:9*W<=2^140:=by rw[<- eW];show Sv () V1 ()
  have aeI:∀{x:Rat} {U:Nat},U<=9*W->Fr M U x->jX x:=λhU h=>MU hM.1 hM.2 (ag hU W9) h
  have sz9:∀{x:Rat} {U:Nat} {v:V},U<=9*W->Fr (μ v) U x->jX x:=λhU h=>MU (M0 _) (M1 _) (ag hU W9) h
  exists b8 (bA.of gu) (dM e1) ?_;exists b8 (bA.of gu) (dM e2) ?_;exists #[_,q2,_,qs2,rfl,nb,Fn (),#[z2,g2,p2],(),λy hy=>aeI () (c2 y hy),λr1 Hg n1 sg R1=>?_];exists #[q1,r1,qs1,_,rfl,#[z1,sg _ _ g1,ce (λ_ _ y=>y.10 sg) p1],R1,by rw[af,l1,l2],(),λy hy=>aeI () (c1 y hy),λy hy=>?_,λr2 Hh n2' sh R2=>?_]
  ·obtain y'|hy'|rfl:=au.mp hy;show Bg hz (c2 y' hy') hM.1 hM.2 ()
  have sfh:=sg.3 sh
  have new:V.ref r2∉us++vs++ws:=λz=>by
   obtain q'|_|_|e'|_|g'|_:=((Xf.10 sg).row _ z).at;cases e';rw[n2'] at g';cases g'
  have Xh:=(Xf.10 sfh).53 (C':=λx y=>(x∈ws->Fr (μ x) W y)/\Fr (μ x) (3*W) y) λx _ y h=>#[λ_=>h,h.24 ()]
  have kph:=kpf.10 sfh;have guh:=sfh _ _ gu;have ar2:A r2:=(kpf.10 sg).new hA (Xf.10 sg).W! (by rw[sg _ _ gu];simp) n2'
  have rp2:iZ K A Hh n (λy=>(V.ref r2∈ws->Fr (μ (.ref r2)) W y)/\Fr (μ (.ref r2)) (3*W) y) (.ref r2):=by
   rw[eM (.ref r2) (λz=>new (aB.mpr (.inr z))) (λz=>new (aB.mpr (.inl (aB.mpr (.inr z)))))];refine #[r2,_,rfl,ar2,R2,by rw[aJ,af];lia,λy hy=>#[λz=>absurd (aB.mpr (.inr z)) new,?_]];obtain j'|X!|e:=bu hy;rw[cP,fU] at e;rw[<- e];show Gr hz (c1 _ (aw _)) (c2 _ (aw _))
  exists d7 guh (eN ()) rfl ?_;have Xi:=Xh.30 MA rp2 new ii;have kpi:=kph.upd (o:=.lst (us.30 ii (.ref r2))) (q:=m) (.inr rfl);have nli:cg K (upd Hh m (.lst (us.30 ii (.ref r2)))) ((0 - z:Int):Rat) (.ref lt):=(nl.10 sfh)._A guh;have nbi:cg K (upd Hh m (.lst (us.30 ii (.ref r2)))) ((z:Int):Rat) (.ref bt):=(nb.10 sfh)._A guh;generalize upd Hh m (.lst (us.30 ii (.ref r2)))=Hi at Xi kpi nli nbi ⊢;generalize us.30 ii (.ref r2)=um at Xi;clear nb nl Xf kpf gu ru e1 e2 g1 p1 g2 p2 R1 R2 Xh kph guh rp2 sg sh sfh new;have gm:=Xi.gm;have lm:=Xi.lm;have gl:=Xi.gl;have nd:=Xi.nd;obtain nd1|nd2|nd3:=gZ.mp nd;exists rd gm gl mH λcl Hj sj nj gj=>?_
  have kpj:=kpi.10 sj
  have rows:∀x∈um++vs,∀q,x=V.ref q->q≠cl:=λx hx q e y=>by
   obtain q'|zs|_|e'|_|g'|_:=(Xi.row x (aB.mpr (.inl hx))).at;rw[e] at e';cases e';rw[y,nj] at g';cases g'
  have Xj:=(Xi.10 sj).53 (C':=λx y=>(x∈ws->Fr (μ x) W y)/\(x∈(um++vs).37 0->Fr (μ x) (3*W) y)/\Fr (μ x) (9*W) y) λx _ y h=>#[h.1,λ_=>h.2,h.2.24 ()]
  have lj:cg K Hj ((0 - z:Int):Rat) (.ref lt):=nli.10 sj;have bj:cg K Hj ((z:Int):Rat) (.ref bt):=nbi.10 sj;clear Xi kpi nli nbi;refine #[_,rfl,#[_,bA.of gj],?_];refine pK (K:=K) (a:=cl) (xs:=um++vs) (λs σ' H'=>∃x6:Option V,σ'=[some (.ref b),some (.ref m),some (.ref p),some (.ref l),some (.int n),some (.int t),some (.int ii),some (.int jj),some (.ref bt),some (.ref lt),x6]/\mI K A H' n (λx y=>(x∈ws->Fr (μ x) W y)/\(x∈(um++vs).37 s->Fr (μ x) (3*W) y)/\Fr (μ x) (9*W) y) m p l b q0 um ws vs/\jY A b m H H'/\H' cl=some (.lst (um++vs))/\cg K H' ((0 - z:Int):Rat) (.ref lt)/\cg K H' ((z:Int):Rat) (.ref bt)) #[_,rfl,Xj,kpj,gj,lj,bj] (λs σ' H' _ #[_,_,_,_,e,_]=>bA.of e) ?_ ?_
  ·rintro s x σ' Hk hx ⟨y6,rfl,Xk,kpk,gk,lk,bk⟩;have hs:s < (um++vs).9:=(aH.mp hx).1;have mx:=ai hx
   have xd:x∈(um++vs).37 s:=by
    rw[dR hs,(aH.mp hx).2];show .head _
   have xd2:x∉(um++vs).37 (s+1):=λz=>by
    have:=nd1.sublist (List.drop_sublist s _);rw[dR hs,cW,(aH.mp hx).2] at this;show this.1 z
   have xw:x∉ws:=λz=>nd3 x mx x z rfl
   have rx:=Xk.row x (aB.mpr (.inl mx));obtain q|zs|qs|rfl|aq|gq|lq|pq|lq2|cq:=rx.at;have qcl:=rows _ mx q rfl;obtain vj|ej|nj':=Jp pq (j:=jj) ();obtain vi|ei|ni':=Jp pq (j:=ii) ();have cj:=(cq _ (getD_mem (xs:=qs) (i:=jj) ())).2.1 xd;have ci:=(cq _ (getD_mem (xs:=qs) (i:=ii) ())).2.1 xd;exists b8 (bA.of gq) ej ?_;exists b8 (bA.of gq) ei ?_;exists #[_,_,_,_,rfl,lk,ni',Fn (),sz9 () ci,λr3 Hl sl n3=>?_];exists #[_,_,_,_,rfl,nj'.10 sl,n3,sz9 () cj,Bg () ci (M0 _) (M1 _) (),λr4 Hm sm n4=>?_];have slm:=sl.3 sm;exists d7 (slm _ _ gq) (eN ()) rfl ?_;refine #[_,rfl,?_,(kpk.10 slm).upd (.inl aq),by rw[aR qcl.26];show slm _ _ gk,(lk.10 slm)._A (slm _ _ gq),(bk.10 slm)._A (slm _ _ gq)];refine ((Xk.10 slm).53 λx' _ y h=>#[h.1,λz=>h.2.1 ?_,h.2.2]).put MA aq (slm _ _ gq) n4 #[λz=>absurd z xw,λz=>absurd z xd2,?_] jj
   ·rw[dR hs];show .tail _ z
   ·show (Gr () cj ci).24 ()
  ·rintro σ' Hk ⟨y6,rfl,Xk,kpk,gk,lk,bk⟩;have gp:=Xk.gp;have Xk2:=Xk.53 (C':=λx y=>(x∈ws.37 0->Fr (μ x) W y)/\Fr (μ x) (9*W) y) λx _ y h=>#[λz=>h.1 (by simpa using z),h.2.2]
   clear Xk;exists #[#[_,bA.of gp],?_];refine pK (K:=K) (a:=p) (xs:=ws) (λs σ' H'=>∃x6:Option V,σ'=[some (.ref b),some (.ref m),some (.ref p),some (.ref l),some (.int n),some (.int t),some (.int ii),some (.int jj),some (.ref bt),some (.ref lt),x6]/\mI K A H' n (λx y=>(x∈ws.37 s->Fr (μ x) W y)/\Fr (μ x) (9*W) y) m p l b q0 um ws vs/\jY A b m H H'/\cg K H' ((z:Int):Rat) (.ref bt)) #[_,rfl,Xk2,kpk,bk] (λs σ' H' _ #[_,_,X,_]=>bA.of X.gp) ?_ ?_
   ·rintro s x σ' Hl hx ⟨w6,rfl,Xl,kpl,bl⟩;have hs:s < ws.9:=(aH.mp hx).1;have mx:=ai hx
    have xd:x∈ws.37 s:=by
     rw[dR hs,(aH.mp hx).2];show .head _
    have xd2:x∉ws.37 (s+1):=λz=>by
     have:=nd2.sublist (List.drop_sublist s _);rw[dR hs,cW,(aH.mp hx).2] at this;show this.1 z
    have rx:=Xl.row x (aB.mpr (.inr mx));obtain q|zs|qs|rfl|aq|gq|lq|pq|lq2|cq:=rx.at;obtain vj|ej|nj':=Jp pq (j:=jj) ();obtain vi|ei|ni':=Jp pq (j:=ii) ();have cj:=(cq _ (getD_mem (xs:=qs) (i:=jj) ())).1 xd;have ci:=(cq _ (getD_mem (xs:=qs) (i:=ii) ())).1 xd;exists b8 (bA.of gq) ei ?_;exists b8 (bA.of gq) ej ?_;exists #[_,_,_,_,rfl,bl,nj',Fn (),sz9 () cj,λr3 Hm sm n3=>?_];exists #[_,_,_,_,rfl,ni'.10 sm,n3,sz9 () ci,Bg () cj (M0 _) (M1 _) (),λr4 Hn sn n4=>?_];have smn:=sm.3 sn;exists d7 (smn _ _ gq) (eN ()) rfl ?_;refine #[_,rfl,?_,(kpl.10 smn).upd (.inl aq),(bl.10 smn)._A (smn _ _ gq)];refine ((Xl.10 smn).53 λx' _ y h=>#[λz=>h.1 ?_,h.2]).put MA aq (smn _ _ gq) n4 #[λz=>absurd z xd2,?_] ii
    ·rw[dR hs];show .tail _ z
    ·show (Gr () ci cj).24 ()
   ·rintro σ' Hl ⟨w6,rfl,Xl,kpl,bl⟩;refine #[_,_,_,_,_,_,um,rfl,Xl.53 λ_ _ y h=>h.2.24 ?_,kpl];rw[<- eW,c8,bE (9^t) 9,cJ];show ah _
 ·rintro σ' H' ⟨x1,x2,x3,x4,x5,x6,us',rfl,X,kp⟩;exists cB λr H2' s' g'=>?_
  show done r us' H2' _ () g' (X.10 s') (kp.10 s')
theorem eI:sC ["_law_bag_here","_law_n","_law_ins","_law_outs","_law_wide","_law_way","_law_first","_law_move_here","_law_put","_law_look","_law_k","_law_row_here"] 5 sZ:=by walk_at "d"
theorem DH (T : Txt K mg Z) (ac : P.given.tree = none) : T.nH.o P w base 5 (En K) := by
  have qG := b7 (P := P) (w := w) (base := base) T ac;have Kl := F7 (P := P) (w := w) (base := base) T ac;have Dd := nU (P := P) (w := w) (base := base) T ac;have HX := DI (P := P) (w := w) (base := base) T ac;refine T.nH.F.k eI ?_;walk_at "i";obtain b|n|i|o|w|c|rfl|hB|n8|i4|o4|w0|w1|hc|ajL|hcM|k:= h
  refine #[_, (ao (eZ 5 eI.nd (cH qG hr T.bJ (cI bI aj)))
    (ao (eZ 6 eI.nd (cH qG hr T.bJ (cI bI (bB fN cE aj))))
    (ao (eZ 7 eI.nd (cH Kl hr T.oO (gC bI (Rg cE z7 wB rX))))
    (ao (lI 8 ["_law_k"] ["_law_bag_here", "_law_n", "_law_wide"] [0, 1, 4] eI.nd rfl rfl (cu rfl T.38 (cQ eQ)) (λ_ => (fA 0)) (λ_ => cp) (λ_ => (cH Dd hr T.gV (zC cE eQ kb))))
    (ao (lI 9 ["_law_k"] ["_law_bag_here", "_law_n", "_law_wide"] [0, 1, 4] eI.nd rfl rfl (cu rfl T.38 (cQ kb)) (λ_ => (fA 0)) (λ_ => cp) (λ_ => (cH Dd hr T.gV (zC cE eQ kb))))
    (ao (fw Zb rfl (cu rfl T.38 (cQ cE)) (fA 10 eI.nd)
      (ao (fw Zb rfl (cF Dz) (fA 11 eI.nd)
      (av (dj (PW.pt (ui (PW.pt (j9 (bw gH z7 aj (bx _)) (kD (bw Ab (pv 10) wB (bx _))))) (oq (PW.pt (j9 (bw gH z7 aj (bx _)) (j9 (bw pC (bB fN (pv 10) aj) cE (bx _)) (kD (bw gH (cH qG hr T.bJ (cI bI aj)) aj (bx _))))))))) (av (fM (dh (cI aj aj)) (gg (pv 11) (pv 10) set_list))) b9)))
    (av (fw Zb rfl (cF (pv 9)) (fA 11 eI.nd)
      (av (dj (PW.pt (ui (PW.pt (j9 (bw gH z7 aj (bx _)) (kD (bw Ab (pv 10) wB (bx _))))) (oq (PW.pt (j9 (bw gH z7 aj (bx _)) (j9 (bw Aa (pv 10) aj (bx _)) (kD (bw gH (cH qG hr T.bJ (cI bI aj)) aj (bx _))))))))) (av (fM (dh (cI aj aj)) (gg (pv 11) (pv 10) set_list))) b9))))))
    (av (aT (cH HX hr T.nI (Rg bI Ao Dz (pv 9))))))))))), ?_]
  walk_at "s"
  try rw [gP]
  have W1 : 1 ≤ max w 6 := by lia
  obtain q0|I0|xs0|gq0:= hB.inner;exists #[b, 6, rfl, hB, by decide, by decide, λway H1 a0 a1 B1 u1 => ?_];exists #[b, _, rfl, B1, by lia, by lia, λfirst H2 f0 f1 B2 u2 => ?_];have u02 := u1.3 u2;exists #[b, n, w, way, first, rfl, B2, n8, w0, w1, λm us H3 nm0 gm lm ndm rm B3 u3 => ?_];have u03 := u02.3 u3;exists #[(), by lia, ?_];refine EY (n := i) (b := b) (cO K H3) (λxs => xs.9 = n /\ ∀ x ∈ xs, Dr (max w 6) x) B3 () (λa u B => a._i u B B3.at) (λ#[q, e, _, _, g, _] => #[q, e, by rw [g]; show λz => nomatch z]) ?_ ?_
  · rintro s H' NY NN hi u B k1;exists #[b, n, w, rfl, B, by lia, w0, w1, λr xs H2 nr R lx dx B2 u2 => k1 _ xs _ u2 B2 #[lx, dx] #[r, rfl, u.19 B nr, R] #[r, rfl, nr]]
  rintro ws puts H4 p np u4 B4 gp lp ndp hp pr4 nx4;have u04 := u03.3 u4;exists #[(), by lia, ?_];refine EY (n := o) (b := b) (cO K H4) (λxs => xs.9 = n /\ ∀ x ∈ xs, Dr (max w 6) x) B4 () (λa u B => a._i u B B4.at) (λ#[q, e, _, _, g, _] => #[q, e, by rw [g]; show λz => nomatch z]) ?_ ?_
  · rintro s H' NY NN hi u B k1;exists #[b, n, w, rfl, B, by lia, w0, w1, λr xs H2 nr R lx dx B2 u2 => k1 _ xs _ u2 B2 #[lx, dx] #[r, rfl, u.19 B nr, R] #[r, rfl, nr]]
  rintro vs looks H5 l nl u5 B5 gl ll ndl hl pr5 nx5;have u05 := u04.3 u5;have hm0 : H m = none := u02.19 B2 nm0;have hp0 : H p = none := u03.19 B3 np;have hl0 : H l = none := u04.19 B4 nl;have mb : m ≠ b := λz => B2.at (by rw [<- z]; show nm0)
  have pb : p ≠ b := λz => B3.at (by rw [<- z]; show np)
  have lb : l ≠ b := λz => B4.at (by rw [<- z]; show nl)
  have gm4 := u4.35 mb gm;have gm5 := u5.35 mb gm4;have gp5 := u5.35 pb gp;have mp : m ≠ p := λz => by rw [z, np] at gm; cases gm
  have ml : m ≠ l := λz => by rw [z, nl] at gm4; cases gm4
  have pl : p ≠ l := λz => by rw [z, nl] at gp; cases gp
  have mq : m ≠ q0 := λz => Inner.at B2 (u02.2 _ I0) (by rw [<- z]; show nm0)
  obtain ⟨A, eA⟩ : ∃ A : Addr → Prop, A = λq => H q = none /\ q ≠ m /\ q ≠ p /\ q ≠ l := #[_, rfl]
  have mkA : ∀ {q}, H q = none → q ≠ m → q ≠ p → q ≠ l → A q := λh1 h2 h3 h4 => by rw [eA]; show #[h1, h2, h3, h4]
  have unA : ∀ {q}, A q → H q = none /\ q ≠ m /\ q ≠ p /\ q ≠ l := λh => by rw [eA] at h; show h
  have MA : LY A m p l b q0 := #[λz => (unA z).2.1 rfl, λz => (unA z).2.2.1 rfl, λz => (unA z).2.2.2 rfl, λz => hB.at (unA z).1, (λz => by have z1 := (unA z).1; rw [gq0] at z1; cases z1), mb, pb, lb, mp, ml, mq];clear eA;have lws : ws.9 = i := by rw [<- pr4.9]; show lp
  have lvs : vs.9 = o := by rw [<- pr5.9]; show ll
  have alM : ∀ q, V.ref q ∈ us → H3 q ≠ none /\ q ≠ b /\ H4 q ≠ none := λq hq => by
    obtain q'|qs|e|⟨a1, a2⟩|r|z:= rm _ hq;cases e;have qb : q ≠ b := λy => B2.at (by rw [<- y]; show a1)
    obtain xq|gq|_:= id r;obtain xq4|gq4|_:= r._i u4 B3 qb;show #[(by rw [gq]; show λz => nomatch z), qb, (by rw [gq4]; show λz => nomatch z)]
  have alP : ∀ q, V.ref q ∈ ws → H3 q = none /\ H4 q ≠ none := λq hq => by
    obtain _|_|q'|e|a|_|g|_:= ic pr4 hq;cases e;show #[a, by rw [g]; show λz => nomatch z]
  have alL : ∀ q, V.ref q ∈ vs → H4 q = none := λq hq => by
    obtain _|_|q'|e|a|_:= ic pr5 hq;cases e;show a
  have isR : ∀ x, x ∈ us \/ x ∈ ws \/ x ∈ vs → ∃ q, x = V.ref q := λx hx => by
    rcases hx with hx | hx | hx
    · obtain q|_|e|_:= rm x hx; show #[q, e]
    · obtain _|_|q|e|_:= ic pr4 hx; show #[q, e]
    · obtain _|_|q|e|_:= ic pr5 hx; show #[q, e]
  have nd : (us ++ vs ++ ws).46 := by
    refine gZ.mpr #[gZ.mpr #[ndm, ndl, λx hx y hy e => ?_], ndp, λx hx y hy e => ?_]
    · subst e;obtain q|rfl:= isR x (.inl hx);show (alM q hx).2.2 (alL q hy)
    · subst e;obtain q|rfl:= isR x (.inr (.inl hy));rcases aB.mp hx with hx | hx
      · show (alM q hx).1 (alP q hy).1
      · show (alP q hy).2 (alL q hx)
  have X5 : LV K A n (Dr (max w 6)) m p l b q0 us ws vs H H5 := by
    refine #[#[B5, u05.2 _ I0, gm5, gp5, gl, lm, λx hx => ?_, nd], gp5, gl, λc u e n1 _ _ => u05.1 c u e n1];rcases aB.mp hx with hx | hx
    · rcases aB.mp hx with hx | hx
      · obtain q|qs|e|⟨a1, a2⟩|r|z:= rm x hx;obtain xq|gq|_:= id r;have qb : q ≠ b := λy => B2.at (by rw [<- y]; show a1)
        have r4 := r._i u4 B3 qb;obtain xq4|gq4|_:= id r4;show #[q, qs, e, mkA (u02.19 B2 a1) a2 (λy => by rw [y, np] at gq; cases gq) (λy => by rw [y, nl] at gq4; cases gq4), r4._i u5 B4 qb, z]
      · refine Pg (A := A) pr5 hl (λq hq a b' => ?_) x hx;show mkA (u04.19 B4 a) (λy => by rw [y, gm4] at a; cases a) (λy => by rw [y, gp] at a; cases a) (λy => iW nx5 (by rw [<- y]; show hq))
    · refine iZ._i (Pg (A := A) pr4 hp (λq hq a b' => ?_) x hx) u5 B4 MA.ab;show mkA (u03.19 B3 a) (λy => by rw [y, gm] at a; cases a) (λy => iW nx4 (by rw [<- y]; show hq)) (λy => b' (by rw [y]; show nl))
  clear alM alP alL isR rm pr4 pr5 nx4 nx5 gm gm4 gm5 gp gp5 gl hp hl;exists #[(), by lia, ?_];refine eF (n := n) (λkk σ' H' => (∃ x1 x2, σ' = [some (.ref b), some (.int n), some (.int i), some (.int o), some (.int w), some (.int way), some (.int first), some (.ref m), some (.ref p), some (.ref l), x1, x2]) /\ LV K A n (Dr (max w 6)) m p l b q0 us ws vs H H') #[#[_, _, rfl], X5] ?_ ?_
  · rintro kk σ' Hj hk ⟨⟨x1, x2, rfl⟩, X⟩;exists #[#[_, bA.of X.gp], ?_];refine pK (K := K) (a := p) (xs := ws) (λs σ' H' => (∃ x2, σ' = [some (.ref b), some (.int n), some (.int i), some (.int o), some (.int w), some (.int way), some (.int first), some (.ref m), some (.ref p), some (.ref l), some (.int kk), x2]) /\ LV K A n (Dr (max w 6)) m p l b q0 us ws vs H H') #[#[_, rfl], X] (λs σ' H' _ #[_, e] => bA.of e.gp) ?_ ?_
    · rintro s x σ' Hk hx ⟨⟨y2, rfl⟩, X⟩;have mx := ai hx;obtain q|_|rfl|_:= X.row (.inl mx)
      repeat' (first | walk_at "rd" | refine jm (λ_ => ?_) (λ_ => ?_))
      all_goals first
        | show ⟨⟨_, rfl⟩, X⟩
        | (refine cB λt Hb sb gb => ?_; walk_at "w"; obtain zs|gz|lz|Xz:= (X.10 sb).put MA (.inl mx) (cg.mk (q := 0) gb rfl) (vG (i := 0) (aW _) W1) kk; refine d7 gz (eN ()) rfl ?_; show #[#[_, rfl], Xz])
        | (refine ⟨b, 2, rfl, X.mix.W!, by decide, by decide, λd Hd d0 d1 Bd ud => ?_⟩
           replace X := X._i MA ud Bd
           repeat' (first | walk_at "rd" | refine jm (λ_ => ?_) (λ_ => ?_))
           all_goals first
             | show ⟨⟨_, rfl⟩, X⟩
             | (refine cB λt Hb sb gb => ?_
                walk_at "w";obtain zs|gz|lz|Xz:= (X.10 sb).put MA (.inl mx) (cg.mk (q := 0) gb rfl) (vG (i := 0) (aW _) W1) kk;refine d7 gz (eN ()) rfl ?_;show #[#[_, rfl], Xz]))
    · rintro σ' Hk ⟨⟨y2, rfl⟩, X⟩;exists #[#[_, bA.of X.gl], ?_];refine pK (K := K) (a := l) (xs := vs) (λs σ' H' => (∃ x2, σ' = [some (.ref b), some (.int n), some (.int i), some (.int o), some (.int w), some (.int way), some (.int first), some (.ref m), some (.ref p), some (.ref l), some (.int kk), x2]) /\ LV K A n (Dr (max w 6)) m p l b q0 us ws vs H H') #[#[_, rfl], X] (λs σ' H' _ #[_, e] => bA.of e.gl) ?_ ?_
      · rintro s x σ' Hk hx ⟨⟨y2, rfl⟩, X⟩;have mx := ai hx;obtain q|_|rfl|_:= X.row (.inr mx)
        repeat' (first | walk_at "rd" | refine jm (λ_ => ?_) (λ_ => ?_))
        all_goals first
          | show ⟨⟨_, rfl⟩, X⟩
          | (refine cB λt Hb sb gb => ?_; walk_at "w"; obtain zs|gz|lz|Xz:= (X.10 sb).put MA (.inr mx) (cg.mk (q := 0) gb rfl) (vG (i := 0) (aW _) W1) kk; refine d7 gz (eN ()) rfl ?_; show #[#[_, rfl], Xz])
          | (refine ⟨b, 2, rfl, X.mix.W!, by decide, by decide, λd Hd d0 d1 Bd ud => ?_⟩
             replace X := X._i MA ud Bd
             repeat' (first | walk_at "rd" | refine jm (λ_ => ?_) (λ_ => ?_))
             all_goals first
               | show ⟨⟨_, rfl⟩, X⟩
               | (refine cB λt Hb sb gb => ?_
                  walk_at "w";obtain zs|gz|lz|Xz:= (X.10 sb).put MA (.inr mx) (cg.mk (q := 0) gb rfl) (vG (i := 0) (aW _) W1) kk;refine d7 gz (eN ()) rfl ?_;show #[#[_, rfl], Xz]))
      · rintro σ' Hk ⟨⟨y2, rfl⟩, X⟩;show #[#[_, _, rfl], X]
  · rintro σ' Hj ⟨⟨x1, x2, rfl⟩, X⟩
    obtain ⟨M1, M2, M3, V0, a1, a2, a3, V2, hcs, R1, R2, R3⟩ : ∃ M1 M2 M3 V0 : Nat, (0 < M1 /\ M1 ≤ 2 ^ 800) /\ (0 < M2 /\ M2 ≤ 2 ^ 800) /\ (0 < M3 /\ M3 ≤ 2 ^ 800) /\ V0 ≤ 2 ^ 20 /\ ((w ≤ 9 /\ M1 = 2520 /\ M2 = 2520 /\ M3 = 2520 /\ V0 = 9) \/ (9 < w /\ M1 ≤ 2 ^ (c * (n * n)) /\ M2 ≤ 2 ^ (c * (i * n)) /\ M3 ≤ 2 ^ (c * (o * n)) /\ V0 = 2 ^ c)) /\ (∀ x ∈ us, iZ K A Hj n (Fr M1 V0) x) /\ (∀ x ∈ ws, iZ K A Hj n (Fr M2 V0) x) /\ ∀ x ∈ vs, iZ K A Hj n (Fr M3 V0) x := by
      by_cases w9 : w ≤ 9
      · have XM := X.mix.53 (C' := λ_ => Fr 2520 9) λ_ _ y h => Wo #[ag h.1 (), ag h.2 ()] (Nat.dvd_refl _)
        have z : 0 < 2520 /\ 2520 ≤ 2 ^ 800 := #[(), ag (show 2520 ≤ 2 ^ 12 by decide) (ak () ())];show #[2520, 2520, 2520, 9, z, z, z, by decide, .inl #[w9, rfl, rfl, rfl, rfl], λx hx => XM.row x (by simp [hx]), λx hx => XM.row x (by simp [hx]), λx hx => XM.row x (by simp [hx])]
      · obtain M1|M2|M3|a1|a2|a3|b1|b2|b3|R1|R2|R3:= (X.mix.53 (C' := λ_ => Dr (2 ^ c)) λ_ _ y h => #[ag h.1 hc, ag h.2 hc]).fr3;rw [lws] at b2;rw [lvs] at b3;have up : ∀ {M k : Nat}, M ≤ 2 ^ (c * k) → k ≤ (n + i + o) * n → M ≤ 2 ^ 800 := λh hk => ag h (ak () (ag (fE _ hk) hcM))
        show #[M1, M2, M3, 2 ^ c, #[a1, up b1 (ay _ ())], #[a2, up b2 (ay _ ())], #[a3, up b3 (ay _ ())], ak () ajL, .inr #[(), b1, b2, b3, rfl], R1, R2, R3]
    obtain μ|e2|e3|e1|e4:= PV ws vs M1 M2 M3;obtain ap1|ap2:= X.mix.apart
    have XM : mI K A Hj n (λx => Fr (μ x) V0) m p l b q0 us ws vs := by
      refine #[X.mix.W!, X.mix.inn, X.mix.gm, X.mix.gp, X.mix.gl, X.mix.lm, λx hx => ?_, X.mix.nd];rcases aB.mp hx with hx | hx
      · rcases aB.mp hx with hx | hx
        · rw [e1 x (ap1 x hx).1 (ap1 x hx).2]; show R1 x hx
        · rw [e3 x hx (ap2 x hx)]; show R3 x hx
      · rw [e2 x hx]; show R2 x hx
    have p1 : ∀ x, 0 < μ x := λx => by
      rcases e4 x with e | e | e
      · rw [e]; show a1.1
      · rw [e]; show a2.1
      · rw [e]; show a3.1
    have p2 : ∀ x, μ x ≤ 2 ^ 800 := λx => by
      rcases e4 x with e | e | e
      · rw [e]; show a1.2
      · rw [e]; show a2.2
      · rw [e]; show a3.2
    have gmj := X.mix.gm;exists #[b, m, p, l, q0, n, V0, μ, A, us, ws, vs, rfl, MA, XM, n8, by lia, by lia, p1, p2, #[M1, e1], V2, λq hq => ?_, λr us' H' g Y kp => ?_]
    · refine mkA ?_ (λz => by rw [z, gmj] at hq; cases hq) (λz => by rw [z, X.gp] at hq; cases hq) (λz => by rw [z, X.gl] at hq; cases hq);cases e : H q with
      | none => rfl
      | some u =>
        have := X.kp q u e (λz => X.mix.W!.at (by rw [<- z]; show hq)) (λz => by have := (unA z).1; rw [e] at this; cases this) (λz => by rw [z, hm0] at e; cases e);rw [hq] at this; cases this
    · obtain yp1|yp2:= Y.apart;obtain mv|Gm|lmv|hmv:= xE (H0 := H) (n := n) (C := Fr M1 (9 ^ 3 * V0)) (m := n) #[us', Y.gm, Y.lm, MA.am, λx hx => by have := Y.row x (by simp [hx]); rwa [e1 x (yp1 x hx).1 (yp1 x hx).2] at this] λq h => (unA h).1
      obtain pt|Gp|lpt|hpt:= xE (H0 := H) (n := n) (C := Fr M2 (9 ^ 3 * V0)) (m := i) #[ws, Y.gp, lws, MA.ap, λx hx => by have := Y.row x (by simp [hx]); rwa [e2 x hx] at this] λq h => (unA h).1
      obtain lk|Gl|llk|hlk:= xE (H0 := H) (n := n) (C := Fr M3 (9 ^ 3 * V0)) (m := o) #[vs, Y.gl, lvs, MA.al, λx hx => by have := Y.row x (by simp [hx]); rwa [e3 x hx (yp2 x hx)] at this] λq h => (unA h).1
      refine k r mv pt lk H' #[m, p, l, g, hm0, hp0, hl0, Gm, Gp, Gl] lmv lpt llk #[(), by lia, by lia, λxs hx => by rw [(hmv xs hx).1, lmv], λxs hx => by rw [(hpt xs hx).1, lmv], λxs hx => by rw [(hlk xs hx).1, lmv]] #[M1, M2, M3, 9 ^ 3 * V0, a1.1, a2.1, a3.1, λxs hx => (hmv xs hx).2, λxs hx => (hpt xs hx).2, λxs hx => (hlk xs hx).2, ?_] Y.W! #[λc' u e n1 => (X.kp.3 kp) c' u e n1 (λz => by have := (unA z).1; rw [e] at this; cases this) (λz => by rw [z, hm0] at e; cases e), λq h => by rw [<- Inner.inj I0 h]; show Y.inn];rcases hcs with ⟨b1, b2, b3, b4, b5⟩ | ⟨b1, b2, b3, b4, b5⟩
      · show .inl #[b1, b2, b3, b4, by rw [b5]]
      · show .inr #[b1, b2, b3, b4, by rw [b5]]
theorem jd:sC ["_law_bag_here","_law_fewest","_law_n","_law_ins","_law_outs","_law_wide"] 2 tm:=by walk_at "d"
theorem wI (T:Txt K mg Z) (ac:bv P):T.kq.o P w base 6 (BF K):=by
 refine T.kq.F.k jd ?_;walk_at "i";obtain b|f|rfl|f1|B0|k:=h
 refine #[_,(ao (fM (cH (DG T ac) hr T.nG (cQ bI)) (zB rfl (bZ (fA 2 jd.nd) (bZ (fA 3 jd.nd) (bZ (fA 4 jd.nd) (bZ (fA 5 jd.nd) gR))))))
  (ao (eZ 2 jd.nd (a8 (rP rfl) (by rfl) T.min ZH (cI eQ (bB fN aj (fj oZ (by rfl) T.int Zv (cQ (iN gH (cH (b7 T ac) hr T.bJ (cI bI aj)) aj (bx _))))))))
  (av (aT (cH (DH T ac) hr T.nH (gC bI (Rg eQ (a8 (E3 rfl) (by rfl) T.max PyProof.Rows.boot_max (cI kb cE)) (a8 (E3 rfl) (by rfl) T.max PyProof.Rows.boot_max (cI rX cE)) z7))))))),?_]
 left
 exists #[b,rfl,B0,λt1 n i o w H1 g1 n5 i4 o4 hw hn B1 u1=>?_];exists #[b,8,rfl,B1,(),(),λv Hv v0 v1 Bv uv=>?_];walk_at "w"
 obtain ⟨m,em,m4,mn⟩:∃m:Nat,(if (3+if decide (v=0)=true then (1:Int) else 0) < (n:Int) then 3+(if decide (v=0)=true then (1:Int) else 0) else (n:Int))=(m:Int)/\m<=4/\m<=n:=by
  by_cases hv:v=0
  ·rw[decide_eq_true hv,if_pos rfl];by_cases h:(3+1:Int) < n
   ·show #[4,by rw[if_pos h];rfl,(),()]
   ·show #[n,by rw[if_neg h],(),()]
  ·rw[decide_eq_false hv,if_neg aQ];by_cases h:(3+0:Int) < n
   ·show #[3,by rw[if_pos h];rfl,(),()]
   ·show #[n,by rw[if_neg h],(),()]
 rw[em]
 obtain ⟨i',ei,i4'⟩:∃i':Nat,(if (i:Int) < (f:Int) then (f:Int) else (i:Int))=(i':Int)/\i'<=4:=by
  by_cases h:(i:Int) < (f:Int)
  ·show #[f,by rw[if_pos h],()]
  ·show #[i,by rw[if_neg h],i4]
 obtain ⟨o',eo,o4'⟩:∃o':Nat,(if (o:Int) < (f:Int) then (f:Int) else (o:Int))=(o':Int)/\o'<=4:=by
  by_cases h:(o:Int) < (f:Int)
  ·show #[f,by rw[if_pos h],()]
  ·show #[o,by rw[if_neg h],o4]
 obtain ⟨c,c20,wc,hc2,cn⟩:∃c,c<=20/\max w 6<=2^c/\((m<=4/\w<=9)\/(m<=2/\c=10))/\c*((m+i'+o')*m)<=800:=by
  have a1:(m+i'+o')*m<=12*4:=aL () m4;rcases hw with rfl | rfl | ⟨rfl,h2⟩
  ·show #[4,(),(),.inl #[m4,()],()]
  ·show #[4,(),(),.inl #[m4,()],()]
  ·have a2:(m+i'+o')*m<=10*2:=aL () ();show #[10,(),(),.inr #[(),rfl],()]
 walk_at "w";rw[ei,eo];refine #[b,m,i',o',w,c,rfl,Bv,(),i4',o4',(),(),wc,c20,cn,λr mv pt lk H2 P2 lm lp ll D PG B2 u2=>?_];obtain Y|Y2|SF:=Ss PG D lm i4' o4' hc2;show k r mv pt lk H2 (P2.53 λq h=>(u1.3 uv).19 Bv h) #[#[D,SF,Y2],Y] () B2 ((u1.3 uv).3 u2)
theorem sN:sC ["_law_bag_here","_law_n","_law_move_here"] 1 vo:=by walk_at "d"
theorem F8 (T:Txt K mg Z) (ac:bv P):T.oP.o P w base 2 (Ew K):=by
 refine T.oP.F.k sN ?_;walk_at "i";obtain b|rfl|B0|k:=h
 refine #[_,(ao (eZ 1 sN.nd aj)
  (ao (lI 2 ["_law_i"] ["_law_n"] [1] sN.nd rfl rfl (cu rfl T.38 (cQ cE)) (λ_=>(fA 0)) (λ_=>cp) (λ_=>(b6 ["_law_j"] ["_law_i"] [0] (cu rfl T.38 (cQ cE)) (λ_=>(fA 0)) (λ_=>cp) (λ_=>(dh (cI (fj oZ (by rfl) T.int Zv (cQ (iN gH bI (bB fN cE aj) (bx _)))) aj))))))
  (ao (fM (b6 ["_law_j"] ["_law_bag_here"] [0] (cu rfl T.38 (cQ cE)) (λ_=>(fA 0)) (λ_=>cp) (λ_=>(dh (cI (bB lK (cH (b7 T ac) hr T.bJ (cI cE aj)) aj) aj)))) (gg eQ (bB lK cE aj) set_list))
  (av (aT (dh (zC eQ (fB (cQ (b6 ["_law_j"] ["_law_n"] [1] (cu rfl T.38 (cQ cE)) (λ_=>(fA 0)) (λ_=>cp) (λ_=>(dh (cI (fj oZ (by rfl) T.int Zv (cQ (iN gH bI (bB lK cE aj) (bx _)))) aj)))))) (fB (cQ (b6 ["_law_j"] [] [] (cu rfl T.38 (cQ cE)) (λ_=>(fA 0)) (λ_=>cp) (λ_=>(dh (cI (fj oZ (by rfl) T.int Zv (cQ (iN gH bI aj (bx _)))) aj))))))))))))),?_]
 left
 exists #[(),(),?_];refine iG (n:=8) (cO K H) (λ(i:Nat)=>(Zi 8).12 λ(j:Nat)=>(((if decide ((j:Int)=(i:Int)+1)=true then 1 else 0:Int)):Rat)) () (λa b=>a.10 b) ?_ ?_
 ·rintro i Hb NY NN hi sa k1;exists #[(),(),?_];refine iG (n:=8) (cg K) (λ(j:Nat)=>(((if decide ((j:Int)=(i:Int)+1)=true then 1 else 0:Int)):Rat)) () (λa b=>a.10 b) ?_ ?_
  ·rintro j Hz NY2 NN2 hj sz k2;exists cB λt Hy sy gy=>?_
   show k2 _ _ sy (cg.mk gy rfl)
  ·rintro ys Hz t ht sz g pr nx;show k1 _ _ sz #[t,rfl,sa.19 ht,ys,g,pr]
 rintro ys H1 mp nmp s1 gm pr1 nx1;have XS:=pr1.9;rw[af,bX] at XS;have B1:=B0.10 s1;exists #[(),(),?_];refine EX (n:=8) (b:=b) (cg K) (Fr 1 2) B1 () (λa u B=>a._i u B) ?_ ?_
 ·rintro j Ha NY NN hj ua Ba k1;exists #[b,3,rfl,Ba,(),(),λv Hb v0 v1 Bb ub=>?_];exists cB λt Hc sc gc=>?_
  show k1 _ ((v - 1:Int):Rat) _ (ub.10 sc) (Bb.10 sc) (Fr.int ()) (cg.mk gc rfl)
 rintro ys2 ls H2 lr nlr u2 B2 gl ll hf prl _;have nm:mp≠b:=λz=>B0.at (by rw[<- z];show nmp)
 have gm2:=u2.35 nm gm;have nb0:=B0.at;walk_at "w";have lm:lr≠mp:=λz=>by rw[z,gm] at nlr;cases nlr
 have hlr:H lr=none:=s1.19 nlr;have nne:=iW nx1;have P2:=ce (λ_ _ z=>cO._i z u2 B1 nb0) pr1;have P3:=xv (a:=ls) (b:=V.ref lr) (F:=cO K H (upd H2 mp (.lst (ys.30 7 (.ref lr))))) #[lr,rfl,hlr,cA._A #[ys2,gl,prl] gm2 lm] 7 (Ce gm2 P2 nne);rw[QT] at P3
 have Gm:bf K H (upd H2 mp (.lst (ys.30 7 (.ref lr)))) mp (wd 8 ls):=#[_,aD,P3,λz=>by
  rcases cD z with z | z
  ·show nne z
  ·cases z;show lm rfl]
 have u3:c6 b H (upd H2 mp (.lst (ys.30 7 (.ref lr)))):=(s1._i.3 u2).40 nmp
 have B3:kg (upd H2 mp (.lst (ys.30 7 (.ref lr)))) b:=by
  obtain q|iq|xs|gq:=B0.inner;have iq2:=u2.2 q ((s1._i (p:=b)).2 q iq);refine B2.upd iq2 nm λz=>?_
  rw[<- z,nmp] at gq;cases gq
 rw[show (8 - 1:Int)=((7:Nat):Int) from rfl];refine d7 gm2 (eN ()) rfl ?_;clear P2 P3 pr1 nx1 gm gm2 prl gl u2 B2 B1 s1;generalize upd H2 mp (.lst (ys.30 7 (.ref lr)))=H3 at Gm u3 B3 ⊢;exists #[(),(),?_];refine iG (n:=8) (cg K) (λ(j:Nat)=>if ((j:Nat):Int)=((7:Nat):Int) then (1:Rat) else 0) () (λa b=>a.10 b) ?_ ?_
 ·rintro j Hz NY2 NN2 hj sz k2;exists cB λt Hy sy gy=>?_
  refine k2 _ _ sy (cg.mk gy ?_);by_cases z:((j:Nat):Int)=((7:Nat):Int)
  ·rw[if_pos z,decide_eq_true ()];rfl
  ·rw[if_neg z,decide_eq_false ()];rfl
 rw[WU];rintro yp H6 pr nup s6 gp prp _;have Rp:cA K H6 pr (nQ 8 ((7:Nat):Int)):=#[yp,gp,prp];exists dC λe1 H7 s7 n7 g7=>?_
 have np1:pr≠e1:=λz=>by rw[<- z,gp] at n7;cases n7
 exists #[(),(),?_];refine iG (n:=8) (cg K) (λ(j:Nat)=>if ((j:Nat):Int)=((0:Nat):Int) then (1:Rat) else 0) () (λa b=>a.10 b) ?_ ?_
 ·rintro j Hz NY2 NN2 hj sz k2;exists cB λt Hy sy gy=>?_
  refine k2 _ _ sy (cg.mk gy ?_);by_cases z:((j:Nat):Int)=((0:Nat):Int)
  ·rw[if_pos z,decide_eq_true ()];rfl
  ·rw[if_neg z,decide_eq_false ()];rfl
 rw[WU];rintro yl H8 lo nlo s8 glo aih _;exists dC λe2 H9 s9 n9 g9=>?_
 have np2:lo≠e2:=λz=>by rw[<- z,glo] at n9;cases n9
 refine cB λt HA sA gA=>?_
 have s67:=s6.3 s7;have bk:∀q,H3 q=none->H q=none:=λq h=>u3.19 B3 h
 have adh:=(s67.3 s8).3 (s9.3 sA)
 have Gp:bf K H H7 e1 [nQ 8 ((7:Nat):Int)]:=#[_,g7,.cons #[pr,rfl,bk _ nup,Rp.10 s7] .nil,λz=>by
  cases aM.mp z;show np1 rfl]
 have Gl:bf K H H9 e2 [nQ 8 ((0:Nat):Int)]:=#[_,g9,.cons #[lo,rfl,bk _ (s67.19 nlo),cA.same #[yl,glo,aih] s9] .nil,λz=>by
  cases aM.mp z;show np2 rfl]
 show k t _ _ _ HA #[mp,e1,e2,gA,nmp,bk _ (s6.19 n7),bk _ ((s67.3 s8).19 n9),Gm.10 adh,Gp.10 (s8.3 (s9.3 sA)),Gl.same sA] (VR ll hf) (B3.10 adh) (u3.10 adh)
theorem Fv:sC ["thing","at","most"] 3 uU:=by walk_at "d"
theorem tG (T:Txt K mg Z) (ac:bv P):T.jR.o P w base 1 Mh:=by
 refine T.jR.F.k Fv ?_;walk_at "i";obtain p|xs|a|m|rfl|gx|hm|k:=h
 refine #[_,(ao (dj (rf (mW (Cd rfl T.54 Zn T.32 bI))) (av Pw) b9)
  (av (dj (bw Aa (a8 aS (by rfl) T.31 aK (cQ bI)) eQ (bx _)) (av Pw) b9))),?_]
 left
 exists #[_,_,.lst gx,rfl,?_];exists #[_,_,rfl,.inl (bA.of gx),?_];walk_at "w";rw[decide_eq_false (show ¬m < (xs.9:Int) by lia)];exists k
theorem II:sC ["thing"] 1 xj:=by walk_at "d"
theorem Ae (T:Txt K mg Z) (ac:bv P):T.nX.o P w base 1 Nu:=by
 refine T.nX.F.k II ?_;walk_at "i";obtain i|rfl|k:=h;refine #[_,(av (aT (K2 (Cd rfl T.54 Zv T.int bI) (FT (VI (Cd rfl T.54 PyProof.Rows.boot_bool T.bool bI)))))),?_];left
 exists #[_,_,.int i,rfl,?_];exists #[_,_,.int i,rfl,?_];exists k
theorem ju:sC ["one","other","rest"] 2 mT:=by walk_at "d"
theorem lQ (T:Txt K mg Z) (ac:bv P):T.fk.o P w base 1 Xo:=by
 refine T.fk.F.k ju ?_;walk_at "i";obtain a|b|rfl|k:=h
 refine #[_,(ao (xZ Zb (bw yf cE aj (bx _))
   (ao (eZ 2 ju.nd (bB SH bI cE))
  (ao (eZ 0 ju.nd cE)
  (av (eZ 1 ju.nd eQ)))))
  (av (aT (a8 C1 (by rfl) T.abs PyProof.Rows.boot_abs (cQ bI))))),?_]
 left
 exists AK (λσ' H'=>∃(u v:Int) (r:Option V),σ'=[some (.int u),some (.int v),r]/\H'=H/\ZN u v=ZN a b) (λσ' _=>match σ' with | [_,some (.int v),_]=>v.17 | _=>0) #[a,b,none,rfl,rfl,rfl] ?_;rintro σ' H' ⟨u,v,r,rfl,rfl,hg⟩;exists jm (λh=>?_) (λh=>?_)
 ·have hv:v≠0:=λz=>by subst z;simp at h
  exists fZ (show v≠0 from hv) ?_;exists #[#[v,u.fmod v,_,rfl,rfl,(Qq u v).3 hg],Td u v hv]
 ·have hv:v=0:=by
   by_cases z:v=0
   ·show z
   ·exfalso;apply h;simp [z]
  subst hv;walk_at "w"
  have e:(if u < 0 then -u else u)=g a b:=by
   unfold g;rw[<- hg,Int.gcd_zero_right]
   split <;> lia
  rw[e];show k
theorem Fy:sC ["thing"] 1 uY:=by walk_at "d"
theorem FZ (T:Txt K mg Z) (ac:bv P):T.oK.o P w base 2 (Ny K):=by
 refine T.oK.F.k Fy ?_;walk_at "i";obtain x|n|rfl|⟨p,rfl,hp⟩|hn|k:=h
 refine #[_,(ao (dj (PW.pt (ui (rf (mW (AS rfl T.54 PyProof.Rows.boot_tuple T.58 bI))) (oq (bw yf (a8 aS (by rfl) T.31 aK (cQ bI)) aj (bx _))))) (av (aT z8)) b9)
  (ao (dj (PW.pt (ui (rf (mW (cH (Ae T ac) hr T.nX (cQ (aN bN bI aj))))) (oq (rf (mW (cH (Ae T ac) hr T.nX (cQ (aN bN bI aj)))))))) (av (aT z8)) b9)
  (av (aT (K2 (iN Ab (aN bN bI aj) aj (bx _)) (FT (iN gH (cH (lQ T ac) hr T.fk (cI (aN bN bI aj) (aN bN bI aj))) aj (bx _)))))))),?_]
 left
 obtain hb|hg|s1|s2:=hn;exists .inr #[p,_,_,rfl,hp,rfl,?_];exists #[_,_,rfl,.inr hp,?_];walk_at "w"
 try refine S0 ?_
 exists #[n.1,rfl,?_];exists #[n.2,rfl,?_];walk_at "w";rw[decide_eq_true (show (1:Int)<=n.2 by lia)];exists #[n.1,n.2,rfl,?_];walk_at "w";have e:g n.1 n.2=1:=by unfold g;rw[hg];rfl
 rw[e,decide_eq_true rfl];show k _ (aG.refl _)
theorem NB:sC ["thing","many"] 2 BS:=by walk_at "d"
theorem NL (T:Txt K mg Z) (ac:bv P):T.vX.o P w base 3 (yW K):=by
 refine T.vX.F.k NB ?_;walk_at "i";obtain p|ns|rfl|hp|hl|hn|k:=h
 refine #[_,(ao (dj (PW.pt (ui (rf (mW (Cd rfl T.54 Zn T.32 bI))) (oq (bw yf (a8 aS (by rfl) T.31 aK (cQ bI)) cE (bx _))))) (av (aT z8)) b9)
  (av (aT (a8 (C0 rfl) (by rfl) T.all PyProof.Rows.boot_all (cQ (b6 ["value"] [] [] (cF bI) (λ_=>(fA 0)) (λ_=>cp) (λ_=>(cH (FZ T ac) hr T.oK (cQ bI))))))))),?_]
 left
 obtain xs|gx|qx:=id hp;have lx:=qx.9;exists #[_,_,.lst gx,rfl,?_];exists #[_,_,rfl,.inl (bA.of gx),?_];walk_at "w";rw[show ((xs.9:Nat):Int)=(ns.9:Nat) by rw[lx],decide_eq_true rfl];exists #[#[_,bA.of gx],?_];refine fo (K:=K) (xs:=xs) (λi ys H'=>aG H H'/\ys=Wb i (.bl true)) mH #[aG.refl _,rfl] (λi ys H' _ #[s,_]=>bA.of (s _ _ gx)) ?_ ?_
 ·rintro i x ys H' hx _y ⟨s,rfl⟩;obtain n|en|z:=bW qx hx;exists #[x,n,rfl,s.num z,hn n (ai en),λH2 s2=>#[s.3 s2,by rw[List.replicate_succ']]]
 ·rintro ys H' hy ⟨s,rfl⟩ l K!;exists #[l,Wb xs.9 true,rfl,bA.of (by rw[aD];simp),?_];have e4:(Wb xs.9 true).all id=true:=by simp
  rw[e4];show k _ (s.3 (aG.new K!))
theorem o9:sC ["things","wide","place","thing"] 2 qU:=by walk_at "d"
theorem pH (T:Txt K mg Z) (ac:bv P):T.iE.o P w base 4 (Mn K):=by
 refine T.iE.F.k o9 ?_;walk_at "i";obtain p|H0|rows|w|rfl|hp|hl|hw|hn|k:=h
 refine #[_,(ao (fw Zb rfl (Mx rfl T.enumerate (cQ bI)) (zB rfl (bZ (fA 2 o9.nd) (bZ (fA 3 o9.nd) gR)))
   (av (dj (rf (mW (cH (NL T ac) hr T.vX (cI kb cE)))) (av Pw) b9)))
  (av (aT (b6 ["row"] [] [] (cF bI) (λ_=>(fA 0)) (λ_=>cp) (λ_=>(fj (kr K (by rfl)) (by rfl) T.32 Zn (cQ bI))))))),?_]
 left
 obtain xs|gx|qx|_:=id hp;exists #[#[_,bA.of gx],?_];refine Qu (K:=K) (l:=p) (xs:=xs) (λi σ' H'=>aG H H'/\∃x y,σ'=[some (.ref p),some (.int w),x,y]) #[aG.refl _,none,none,rfl] (λi σ' H' _ #[s,_]=>bA.of (s _ _ gx)) ?_ ?_
 ·rintro i x σ' H' t hx ⟨s,x1,y1,rfl⟩ ht;obtain qs|eq|q|rfl|_|Rq:=bW qx hx;have hm:=ai eq;have st:aG H' (upd H' t (.tup [.int i,.ref q])):=aG.new ht;have gt:(upd H' t (.tup [.int i,.ref q])) t=some (.tup [.int i,.ref q]):=aD;have s2:=s.3 st;generalize upd H' t (.tup [.int i,.ref q])=H2 at st gt s2 ⊢;have lq:(qs.12 nm).9=w:=by rw[af];show (hn qs hm).1
  exists #[q,_,by rw[lq],(Rq.10 s2).aaF,by rw[lq];show hw,λn hn'=>?_,λH3 s3=>?_]
  ·obtain y|hy|rfl:=au.mp hn';show (hn qs hm).2 y hy
  exists #[s2.3 s3,_,_,rfl]
 ·rintro σ' H' ⟨s,x1,y1,rfl⟩;exists #[#[_,bA.of (s _ _ gx)],?_];refine dw (K:=K) (F:=cO K H0) (cO K H) id (s _ _ gx) (ce (λ_ _ z=>z.10 s) qx) hl (λa b=>a.10 b) (λa b=>a.10 b) ?_ ?_
  ·rintro i ns x H2 NY NN en s2 ⟨u,rfl,_,zs,gz,qz⟩ k1;exists #[u,zs,rfl,.inl (bA.of gz),λl1 hl1=>?_];show k1 _ _ (aG.new hl1) #[l1,rfl,s.19 (s2.19 hl1),zs,aD,ce (λ_ _ z=>z.10 (aG.new hl1)) qz]
  ·rintro b! H2 r hr s2 g pr nx;rw[Rc] at pr nx;show k r H2 (s.19 hr) (s.3 s2) #[b!,g,pr,iW nx]
theorem xf:sC ["self","move","put","look"] 4 fh:=by walk_at "d"
theorem kK (T:Txt K mg Z) (ac:bv P):kB P w K mg base Eb 5 Z.mC Z.mB ["self","move","put","look"] (Mj K Z._c):=by
 refine T.qI.k xf ?_;walk_at "i";obtain x|dx|p|q|r|Hb|H0|H1|H2|mv|pt|lk|rfl|nx|ndx|nex|rfl|gp|gq|gr|D|om|op|ol|k:=h
 refine #[_,(ao (jv (cH (tG T ac) hr T.jR (zC cE aj (ng (v:=.int 8) rfl T.d! #[_,rfl]))))
  (ao (ot bI (cH (pH T ac) hr T.iE (cI cE (a8 aS (by rfl) T.31 aK (cQ cE)))) rfl)
  (ao (ot bI (a8 aS (by rfl) T.31 aK (cQ (ck bI rfl))) rfl)
  (ao (jv (cH (tG T ac) hr T.jR (zC eQ aj (ng (v:=.int 4) rfl T.C! #[_,rfl]))))
  (ao (ot bI (cH (pH T ac) hr T.iE (cI eQ (ck bI rfl))) rfl)
  (ao (ot bI (a8 aS (by rfl) T.31 aK (cQ (ck bI rfl))) rfl)
  (ao (jv (cH (tG T ac) hr T.jR (zC kb aj (ng (v:=.int 4) rfl T.n! #[_,rfl]))))
  (ao (ot bI (cH (pH T ac) hr T.iE (cI kb (ck bI rfl))) rfl)
  (av (ot bI (a8 aS (by rfl) T.31 aK (cQ (ck bI rfl))) rfl)))))))))),?_]
 left
 have s0:aG Hb (upd (upd Hb dx (.own x)) x (.ins Z._c dx [])):=λb o e=>by
  rw[aR (dU e nx),aR (dU e ndx)];show e
 have hx:(upd (upd Hb dx (.own x)) x (.ins Z._c dx [])) x=some (.ins Z._c dx []):=aD;have back:∀{b},(upd (upd Hb dx (.own x)) x (.ins Z._c dx [])) b=none->Hb b=none:=λh=>s0.19 h
 generalize upd (upd Hb dx (.own x)) x (.ins Z._c dx [])=Ha at s0 hx back ⊢;obtain xs|gx|qx|_:=id gp;obtain ys|gy|qy|_:=id gq;obtain zs|gz|qz|_:=id gr;have lx:=qx.9;have ly:=qy.9;have lz:=qz.9;have d1:=D.n8;have d2:=D.i4;have d3:=D.o4;exists #[p,xs,0,8,rfl,s0 _ _ gx,(),?_];exists #[_,_,rfl,.inl (bA.of (s0 _ _ gx)),?_];exists #[p,H0,mv,mv.9,by rw[lx],gp.10 s0,(),(),λws hw=>#[D.mw ws hw,om ws hw],λa H3 na s3 Ga=>?_];have hx3:=s3 _ _ hx;exists #[x,Z._c,dx,_,rfl,hx3,T._e,T._Q,(by change 0 < 1000;decide),?_];have e3:yL x H3 (upd H3 x (.ins Z._c dx (bS "move" (.ref a) []))):=yL.upd;have i3:qF H3 x:=#[_,_,_,hx3];have hx4:(upd H3 x (.ins Z._c dx (bS "move" (.ref a) []))) x=some (.ins Z._c dx (bS "move" (.ref a) [])):=aD;have Ga4:=Ga.exc e3 i3;have k4:aG Hb (upd H3 x (.ins Z._c dx (bS "move" (.ref a) []))):=(s0.3 s3).40 nx;generalize upd H3 x (.ins Z._c dx (bS "move" (.ref a) []))=H4 at e3 hx4 Ga4 k4 ⊢;exists #[x,Z._c,dx,_,_,rfl,hx4,T._e,T._Q,(by rw[aO,if_pos rfl]),?_];obtain as|ga|qa|_:=id Ga4;have la:=qa.9;exists #[_,_,rfl,.inl (bA.of ga),?_];exists #[x,Z._c,dx,_,rfl,hx4,T._e,T._k,aP dI (by change 1 < 1000;decide),?_];rw[show ((as.9:Nat):Int)=((mv.9:Nat):Int) by rw[la]];have e4:yL x H4 (upd H4 x (.ins Z._c dx (bS "states" (.int mv.9) (bS "move" (.ref a) [])))):=yL.upd;have i4:qF H4 x:=#[_,_,_,hx4];have hx5:(upd H4 x (.ins Z._c dx (bS "states" (.int mv.9) (bS "move" (.ref a) [])))) x=some (.ins Z._c dx (bS "states" (.int mv.9) (bS "move" (.ref a) []))):=aD;have Ga5:=Ga4.exc e4 i4;have k5:aG Hb (upd H4 x (.ins Z._c dx (bS "states" (.int mv.9) (bS "move" (.ref a) [])))):=k4.40 nx;generalize upd H4 x (.ins Z._c dx (bS "states" (.int mv.9) (bS "move" (.ref a) [])))=H5 at e4 hx5 Ga5 k5 ⊢;clear e3 e4 i3 i4 hx4 Ga4 ga qa;exists #[q,ys,1,4,rfl,k5 _ _ gy,(),?_];exists #[x,Z._c,dx,_,_,rfl,hx5,T._e,T._k,(by rw[aO,if_pos rfl]),?_];exists #[q,H1,pt,mv.9,rfl,gq.10 k5,(),(),λws hw=>#[D.pw ws hw,op ws hw],λb H6 nb s6 Gb=>?_];have hx6:=s6 _ _ hx5;have i6:qF H6 x:=#[_,_,_,hx6];exists #[x,Z._c,dx,_,rfl,hx6,T._e,T.a!,aP dI (aP (dN dI) (by change 2 < 1000;decide)),?_];have e6:yL x H6 (upd H6 x (.ins Z._c dx (bS "put" (.ref b) (bS "states" (.int mv.9) (bS "move" (.ref a) []))))):=yL.upd;have hx7:(upd H6 x (.ins Z._c dx (bS "put" (.ref b) (bS "states" (.int mv.9) (bS "move" (.ref a) []))))) x=some (.ins Z._c dx (bS "put" (.ref b) (bS "states" (.int mv.9) (bS "move" (.ref a) [])))):=aD;have Ga7:=(Ga5.10 s6).exc e6 i6;have Gb7:=(Gb.53 k5).exc e6 i6;have k7:aG Hb (upd H6 x (.ins Z._c dx (bS "put" (.ref b) (bS "states" (.int mv.9) (bS "move" (.ref a) []))))):=(k5.3 s6).40 nx;generalize upd H6 x (.ins Z._c dx (bS "put" (.ref b) (bS "states" (.int mv.9) (bS "move" (.ref a) []))))=H7 at e6 hx7 Ga7 Gb7 k7 ⊢;obtain bs|gb|qb|_:=id Gb7;have lb:=qb.9;exists #[x,Z._c,dx,_,_,rfl,hx7,T._e,T.a!,(by rw[aO,if_pos rfl]),?_];exists #[_,_,rfl,.inl (bA.of gb),?_];exists #[x,Z._c,dx,_,rfl,hx7,T._e,T.v!,aP dI (aP (dN (ag dI (dN dI))) (by change 3 < 1000;decide)),?_];rw[show ((bs.9:Nat):Int)=((pt.9:Nat):Int) by rw[lb]];have i7:qF H7 x:=#[_,_,_,hx7];have e7:yL x H7 (upd H7 x (.ins Z._c dx (bS "ins" (.int pt.9) (bS "put" (.ref b) (bS "states" (.int mv.9) (bS "move" (.ref a) [])))))):=yL.upd;have hx8:(upd H7 x (.ins Z._c dx (bS "ins" (.int pt.9) (bS "put" (.ref b) (bS "states" (.int mv.9) (bS "move" (.ref a) [])))))) x=some (.ins Z._c dx (bS "ins" (.int pt.9) (bS "put" (.ref b) (bS "states" (.int mv.9) (bS "move" (.ref a) []))))):=aD;have Ga8:=Ga7.exc e7 i7;have Gb8:=Gb7.exc e7 i7;have k8:aG Hb (upd H7 x (.ins Z._c dx (bS "ins" (.int pt.9) (bS "put" (.ref b) (bS "states" (.int mv.9) (bS "move" (.ref a) [])))))):=k7.40 nx;generalize upd H7 x (.ins Z._c dx (bS "ins" (.int pt.9) (bS "put" (.ref b) (bS "states" (.int mv.9) (bS "move" (.ref a) [])))))=H8 at e7 hx8 Ga8 Gb8 k8 ⊢;clear e6 e7 i6 i7 hx7 Ga7 Gb7 gb qb;exists #[r,zs,2,4,rfl,k8 _ _ gz,(),?_];exists #[x,Z._c,dx,_,_,rfl,hx8,T._e,T._k,(by rw[aO,if_neg (by decide +kernel),aO,if_neg (by decide +kernel),aO,if_pos rfl]),?_];exists #[r,H2,lk,mv.9,rfl,gr.10 k8,(),(),λws hw=>#[D.lw ws hw,ol ws hw],λc H9 nc s9 Gc=>?_];have hx9:=s9 _ _ hx8;have i9:qF H9 x:=#[_,_,_,hx9];exists #[x,Z._c,dx,_,rfl,hx9,T._e,T.i!,aP dI (aP (dN (ag dI (dN (ag dI (dN dI))))) (by change 4 < 1000;decide)),?_];have e9:yL x H9 (upd H9 x (.ins Z._c dx (bS "look" (.ref c) (bS "ins" (.int pt.9) (bS "put" (.ref b) (bS "states" (.int mv.9) (bS "move" (.ref a) []))))))):=yL.upd;have hxA:(upd H9 x (.ins Z._c dx (bS "look" (.ref c) (bS "ins" (.int pt.9) (bS "put" (.ref b) (bS "states" (.int mv.9) (bS "move" (.ref a) []))))))) x=some (.ins Z._c dx (bS "look" (.ref c) (bS "ins" (.int pt.9) (bS "put" (.ref b) (bS "states" (.int mv.9) (bS "move" (.ref a) [])))))):=aD;have GaA:=(Ga8.10 s9).exc e9 i9;have GbA:=(Gb8.10 s9).exc e9 i9;have GcA:=(Gc.53 k8).exc e9 i9;have kA:aG Hb (upd H9 x (.ins Z._c dx (bS "look" (.ref c) (bS "ins" (.int pt.9) (bS "put" (.ref b) (bS "states" (.int mv.9) (bS "move" (.ref a) []))))))):=(k8.3 s9).40 nx;generalize upd H9 x (.ins Z._c dx (bS "look" (.ref c) (bS "ins" (.int pt.9) (bS "put" (.ref b) (bS "states" (.int mv.9) (bS "move" (.ref a) []))))))=HA at e9 hxA GaA GbA GcA kA ⊢;obtain cs|gc|qc|_:=id GcA;have lc:=qc.9;exists #[x,Z._c,dx,_,_,rfl,hxA,T._e,T.i!,(by rw[aO,if_pos rfl]),?_];exists #[_,_,rfl,.inl (bA.of gc),?_];exists #[x,Z._c,dx,_,rfl,hxA,T._e,T.abe,aP dI (aP (dN (ag dI (dN (ag dI (dN (ag dI (dN dI))))))) (by change 5 < 1000;decide)),?_];rw[show ((cs.9:Nat):Int)=((lk.9:Nat):Int) by rw[lc]];have iA:qF HA x:=#[_,_,_,hxA];show k _ (kA.40 nx) #[dx,a,b,c,aD,back na,k5.19 nb,k8.19 nc,(GaA.exc yL.upd iA).53 s0,GbA.exc yL.upd iA,GcA.exc yL.upd iA]
theorem BO:sC ["_law_grid"] 1 qY:=by walk_at "d"
theorem pI (T:Txt K mg Z) (ac:bv P):T.iF.o P w base 1 (BG K):=by
 refine T.iF.F.k BO ?_;walk_at "i";obtain p|H0|rows|rfl|hp|hl|hm|k:=h;refine #[_,(av (aT (b6 ["_law_row_here"] [] [] (cF bI) (λ_=>(fA 0)) (λ_=>cp) (λ_=>(fj (kr K (by rfl)) (by rfl) T.32 Zn (cQ bI)))))),?_];left
 obtain xs|gx|qx|_:=id hp;exists #[#[_,bA.of gx],?_];refine dw (K:=K) (F:=cO K H0) (cO K H) id gx qx hl (λa b=>a.10 b) (λa b=>a.10 b) ?_ ?_
 ·rintro i ns x H' NY NN en s ⟨u,rfl,_,zs,gz,qz⟩ k1;exists #[u,zs,rfl,.inl (bA.of gz),λl1 hl1=>?_];show k1 _ _ (aG.new hl1) #[l1,rfl,s.19 hl1,zs,aD,ce (λ_ _ z=>z.10 (aG.new hl1)) qz]
 ·rintro b! H' r hr s g pr nx;rw[Rc] at pr nx;show k r H' hr s #[b!,g,pr,iW nx]
theorem FD:sC ["_law_parts_here"] 1 vn:=by walk_at "d"
theorem yj (T:Txt K mg Z) (ac:bv P):T.mh.o P w base 7 (Bo K Z._c):=by
 refine T.mh.F.k FD ?_;walk_at "i";obtain r|H0|mv|pt|lk|rfl|PQ|D|F|k:=h;refine #[_,(av (aT (AR T.j! (kK T ac) (hr.24 ()) rfl T.k! T.jz .nil uk (zC (cH (pI T ac) hr T.iF (cQ (aN bN bI aj))) (cH (pI T ac) hr T.iF (cQ (aN bN bI aj))) (cH (pI T ac) hr T.iF (cQ (aN bN bI aj))))))),?_];left
 obtain m|p|l|g|n1|n2|n3|Gm|Gp|Gl:=id PQ;have d1:=D.n8;have d2:=D.i4;have d3:=D.o4;exists #[m,H0,mv,rfl,Gm,(),λxs hx=>by rw[D.mw xs hx];lia,λa H1 na s1 Ga=>?_];have g1:=s1 _ _ g;exists #[p,H0,pt,rfl,Gp.10 s1,(),λxs hx=>by rw[D.pw xs hx];lia,λb H2 nb s2 Gb=>?_];have s12:=s1.3 s2;have g2:=s12 _ _ g;exists #[l,H0,lk,rfl,Gl.same s12,(),λxs hx=>by rw[D.lw xs hx];lia,λc H3 nc s3 Gc=>?_];have s13:=s12.3 s3;walk_at "w";intro x dx nx ndx nex;show #[x,dx,a,b,c,H3,H,H1,H2,mv,pt,lk,rfl,nx,ndx,nex,rfl,(Ga.10 s2).10 s3,Gb.10 s3,Gc,D,F.ok.1,F.ok.2.1,F.ok.2.2,λH' s' S'=>#[rfl,k x H' (s13.19 nx) (s13.3 s') (S'.53 s13)]]
theorem xU:sC ["row","bottom"] 2 uV:=by walk_at "d"
theorem lO (T:Txt K mg Z) (ac:bv P):T.gU.o P w base 1 (Il K):=by
 refine T.gU.F.k xU ?_;walk_at "i";obtain p|ns|M|B|rfl|hp|hl|hz|hB|sB|q:=h;refine #[_,(av (aT (b6 ["value"] ["bottom"] [1] (cF bI) (λ_=>(fA 0)) (λ_=>cp) (λ_=>(bB cG (aN (tW K (by rfl)) bI aj) (bB (lM rfl xU rfl rfl rfl ac (yC hr)) cE (aN (tW K (by rfl)) bI aj))))))),?_];left
 obtain xs|gx|qx:=id hp;have lx:=qx.9;exists #[#[_,bA.of gx],?_];refine fo (K:=K) (xs:=xs) (λi ys H'=>H'=H/\ys=(dS (ns.21 i) B).12 V.int) mH #[rfl,rfl] (λi ys H' _ #[e,_]=>by subst e;show bA.of gx) ?_ ?_
 ·rintro i x ys H' hx _y ⟨rfl,rfl⟩;obtain n|en|r|rfl|hr1:=bW qx hx;have nz:=hz.2.2 n (ai en);have sn:Sz 4400000 n.2:=Gu hz.1 nz.2.1 hz.2.1;exists fZ (show uB _ _ from #[(),sn.24 ()]) ?_;rw[cK _ ()]
  have sq:Sz 4400000 (B / n.2):=sB.le (by
   rw[WQ ()];show Nat.div_le_self ..)
  exists fZ (show fK _ _ from .inr #[_,_,nz.2.2,sq,()]) ?_;show #[rfl,by rw[take_snoc en];simp [dS]]
 ·rintro ys H' hy ⟨rfl,rfl⟩ l K!;show q l _ K! (aG.new K!) (by rw[aD,aF ()])
theorem fY:sC ["wholes","multiple","whole"] 1 lH:=by walk_at "d"
theorem xA (T:Txt K mg Z) (ac:bv P):T.iQ.o P w base 2 (O4 K):=by
 refine T.iQ.F.k fY ?_;walk_at "i";obtain p|bs|M|rfl|hp|hM|sM|hb|q:=h
 refine #[_,(ao (eZ 1 fY.nd aj)
  (ao (fw Zb rfl (cF bI) (fA 2 fY.nd)
   (av (eZ 1 fY.nd (bB cG cE (bB (lM rfl fY rfl rfl rfl ac (yC hr)) eQ (cH (lQ T ac) hr T.fk (cI cE eQ)))))))
  (av (aT cE)))),?_]
 left
 exists #[#[_,hp],?_];refine pK (K:=K) (a:=p) (xs:=bs.12 V.int) (λi σ' H'=>H'=H/\∃x,σ'=[some (.ref p),some (.int (zI (bs.21 i) 1)),x]) #[rfl,none,rfl] (λi σ' H' _ #[e,_]=>by subst e;show hp) ?_ ?_
 ·rintro i x σ' H' hx ⟨rfl,y,rfl⟩;rw[az] at hx
  obtain ⟨b,eb,rfl⟩:∃b,bs[i]?=some b/\x=.int b:=by
   cases e:bs[i]? with
   | none=>rw[e] at hx;cases hx
   | some b=>rw[e] at hx;cases hx;show #[b,rfl,rfl]
  have b1:=hb b (ai eb);have sb:Sz 4400000 b:=Gu hM b1.2 sM;have ht:∀c∈bs.21 i,0 < c/\c∣M:=λc hc=>hb c (bO hc)
  have msz:Sz 4400000 (zI (bs.21 i) 1):=Gu hM (AY () (Int.one_dvd _) ht) sM;generalize hm:zI (bs.21 i) 1=m at msz ⊢;have gp:0 < g m b:=CO ();exists #[m,b,rfl,?_];exists fZ (show uB _ _ from #[(),(YQ b1.1 sb).24 ()]) ?_;rw[cK _ ()];exists fZ (show fK _ _ from .inr #[_,_,msz,sb.hi (t:=m) (),()]) ?_;exists #[rfl,_,by rw[take_snoc eb,EI,hm];rfl]
 ·rintro σ' H' ⟨rfl,y,rfl⟩;walk_at "w";rw[aF (by simp)];show q
theorem yY:sC ["row"] 1 oo:=by walk_at "d"
theorem iD (T:Txt K mg Z) (ac:bv P):T.dJ.o P w base 3 (O5 K):=by
 refine T.dJ.F.k yY ?_;walk_at "i";obtain p|ns|M|rfl|hp|hl|hz|q:=h;refine #[_,(av (aT (cH (xA T ac) hr T.iQ (cQ (b6 ["value"] [] [] (cF bI) (λ_=>(fA 0)) (λ_=>cp) (λ_=>(aN (tW K (by rfl)) bI aj))))))),?_];left
 obtain xs|gx|qx:=id hp;have lx:=qx.9;exists #[#[_,bA.of gx],?_];refine fo (K:=K) (xs:=xs) (λi ys H'=>H'=H/\ys=((ns.21 i).12 (·.2)).12 V.int) mH #[rfl,rfl] (λi ys H' _ #[e,_]=>by subst e;show bA.of gx) ?_ ?_
 ·rintro i x ys H' hx _y ⟨rfl,rfl⟩;obtain n|en|r|rfl|hr1:=bW qx hx;exists #[rfl,by rw[take_snoc en];simp]
 ·rintro ys H' hy ⟨rfl,rfl⟩ l K!;exists #[l,ns.12 (·.2),M,rfl,bA.of (by rw[aD,aF ()]),hz.1,hz.2.1,λb hb=>?_,?_]
  ·obtain n|hn|rfl:=au.mp hb;show #[(hz.2.2 n hn).1,(hz.2.2 n hn).2.1]
  ·show q _ (aG.new K!)
theorem we:sC ["lines","begin","place","at"] 3 sV:=by walk_at "d"
theorem DE (T:Txt K mg Z) (ac:bv P):T.nD.o P w base 1 EA:=by
 refine T.nD.F.k we ?_;walk_at "i";obtain l|p|ls|b|c|rfl|G|acS|aow|hc|k1|k2:=h
 refine #[_,(ao (fw Zb rfl (NJ rfl T.38 (cI cE (a8 aS (by rfl) T.31 aK (cQ bI)))) (fA 3 we.nd)
   (av (dj (bw yf (aN bC (aN bC bI kb) eQ) aj (bx _)) (av (aT kb)) b9)))
  (av (aT tz))),?_]
 left
 obtain _|xs|gx|qx:=id G;have lx:=qx.9;exists #[_,_,rfl,.inl (bA.of gx),?_];rw[<- lx];exists #[#[(),(),(),()],?_];refine ER (lo:=(b:Int)) (n:=((ls.9:Int) - (b:Int)).29) (λi σ' H'=>H'=H/\(∃y,σ'=[some (.ref p),some (.int b),some (.int c),y])/\∀s,b<=s->s < b+i->eY ls s c=0) #[rfl,#[_,rfl],λs h1 h2=>absurd h2 ()] ?_ ?_
 ·rintro i σ' H' hi ⟨rfl,⟨y,rfl⟩,hz⟩;rw[show ((b:Int)+(i:Int))=((b+i:Nat):Int) by lia];obtain zs|v|ez|ev|mz|q|rfl|_|gq:=fD qx (i:=b+i) ();exists b8 (bA.of gx) (dM ev) ?_;exists b8 (bA.of gq) (Ia (hc zs mz)) ?_;walk_at "w";have ef:=US (c:=c) ez;by_cases e:zs.4 c 0=0
  ·rw[decide_eq_true e];exists #[rfl,#[_,rfl],λs h1 h2=>?_];by_cases e2:s=b+i
   ·rw[e2,ef,e];rfl
   ·show hz s h1 ()
  ·rw[decide_eq_false e];exists k1 (b+i) () () (by rw[ef];show YC.mpr e)
 ·rintro σ' H' ⟨rfl,⟨y,rfl⟩,hz⟩;exists k2 λt h1 h2=>hz t h1 ()
theorem pd:sC ["lines","at","place","before","used","by","swept"] 4 zm:=by walk_at "d"
theorem K6 (T:Txt K mg Z) (ac:bv P):T.tQ.o P w base 1 EB:=by
 refine T.tQ.F.k pd ?_;walk_at "i";obtain l|p|ls|kk|c|n|b|rfl|hl|G|acS|hk|hw|amy|hc|b0|sb|hs|k:=h
 refine #[_,(ao (eZ 4 pd.nd (aN bC bI cE))
  (ao (eZ 5 pd.nd (aN bC rX eQ))
  (ao (lI 6 ["line"] ["used","by","place","before"] [4,5,2,3] pd.nd rfl rfl (cF bI) (λ_=>(fA 0)) (λ_=>cp) (λ_=>(b6 ["mine","yours"] ["by","line","place","before"] [2,0,3,4] (Py K rfl T.zip (cI bI cE)) (λ_=>(kE K 2 (bZ (fA 0) (bZ (fA 1) gR)))) (λ_=>cp) (λ_=>(bB (lM rfl pd rfl rfl rfl ac (yC hr)) (bB lK (bB cG eQ bI) (bB cG (aN (fI K (by rfl)) kb rX) cE)) z7)))))
  (ao (fM rX (gg wB cE set_list))
  (av (aT wB)))))),?_]
 left
 obtain pl|xs|gx|qx:=id G;have lx:=qx.9;obtain zk|vk|ek|evk|mk|qk|rfl|qkl|gk:=fD qx hk;have wk:=hw zk mk;have ek':ls.4 kk []=zk:=by rw[aa,ek];rfl
 exists b8 (bA.of gx) (dM evk) ?_;exists b8 (bA.of gk) (Ia ()) ?_;exists #[#[_,bA.of gx],?_];refine fo (K:=K) (xs:=xs) (λi ys H'=>aG H H'/\Y9 (Nh l H') ((ls.21 i).12 λzs=>Wv (λx y=>(zk.4 c 0*x - zs.4 c 0*y).fdiv b) zs zk) ys) mH #[aG.refl _,.nil] (λi ys H' _ #[s,_]=>bA.of (s _ _ gx)) ?_ ?_
 ·rintro i v ys0 H' hx _y ⟨s',pr⟩;obtain zs|ec|q|rfl|ql|gq:=bW qx hx;have mz:=ai ec;have wz:=hw zs mz;have gq':=s' _ _ gq;have gk':=s' _ _ gk;exists #[#[_,bA.of gq'],#[_,bA.of gk'],?_];refine pO (K:=K) (xs:=zs.12 V.int) (ws:=zk.12 V.int) (λj ys H2=>aG H' H2/\ys=((Wv (λx y=>(zk.4 c 0*x - zs.4 c 0*y).fdiv b) zs zk).21 j).12 V.int) (dm (dn (by rw[af];lia))) (by rw[af,af];lia) #[aG.refl _,rfl] (λj ys H2 _ #[s2,_]=>#[bA.of (s2 _ _ gq'),bA.of (s2 _ _ gk')]) ?_ ?_
  ·rintro j v1 v2 ys H2 r h1 h2 hy ⟨s2,rfl⟩ hr
   obtain ⟨x,ex,rfl⟩:∃x,zs[j]?=some x/\V.int x=v1:=by
    rw[az] at h1;cases e:zs[j]? with
    | none=>rw[e] at h1;cases h1
    | some x=>rw[e] at h1;show #[x,rfl,bU h1]
   obtain ⟨y,ey,rfl⟩:∃y,zk[j]?=some y/\V.int y=v2:=by
    rw[az] at h2;cases e:zk[j]? with
    | none=>rw[e] at h2;cases h2
    | some x=>rw[e] at h2;show #[x,rfl,bU h2]
   have sr:aG H2 (upd H2 r (.tup [.int x,.int y])):=aG.new hr;have gr:(upd H2 r (.tup [.int x,.int y])) r=some (.tup [.int x,.int y]):=aD;generalize upd H2 r (.tup [.int x,.int y])=H3 at sr gr ⊢;have gq3:=sr _ _ (s2 _ _ gq');have sx:=hs zs mz x (ai ex);have sy:=hs zk mk y (ai ey);have s1:=hs zk mk _ (getD_in (e:=0) (show c < zk.9 by lia));have s3:=hs zs mz _ (getD_in (e:=0) (show c < zs.9 by lia));exists fZ (show fK _ _ from .inr #[_,_,s1,sx,()]) ?_;exists b8 (bA.of gq3) (Ia ()) ?_;exists fZ (show fK _ _ from .inr #[_,_,s3,sy,()]) ?_;exists fZ (show uB _ _ from #[b0,sb]) ?_;have ez:(Wv (λx y=>(zk.4 c 0*x - zs.4 c 0*y).fdiv b) zs zk)[j]?=some ((zk.4 c 0*x - zs.4 c 0*y).fdiv b):=by rw[bh,ex,ey]
   show #[s2.3 sr,by rw[take_snoc ez];simp]
  ·rintro ys H2 hy ⟨s2,rfl⟩ r hr;have sn:aG H2 (upd H2 r (.lst (((Wv (λx y=>(zk.4 c 0*x - zs.4 c 0*y).fdiv b) zs zk).21 (zs.12 V.int).9).12 V.int))):=aG.new hr;refine #[(s'.3 s2).3 sn,?_];rw[take_snoc ec,cY];refine cm (ce (λ_ _ z=>(Nh.same z s2).10 sn) pr) (.cons #[r,rfl,ne_old (λz=>hl (s'.19 (s2.19 z))) hr,?_] .nil);rw[aD,aF (by rw[aJ,af];lia)]
 ·rintro ys H1 hy ⟨s1,pr⟩ r hr;have sn:aG H1 (upd H1 r (.lst ys)):=aG.new hr;have gn:(upd H1 r (.lst ys)) r=some (.lst ys):=aD;have ly:=pr.9;rw[af,br] at ly;generalize upd H1 r (.lst ys)=H2 at sn gn ⊢;exists d7 gn (eN ()) rfl ?_;have s2:aG H1 (upd H2 r (.lst (ys.30 kk (.ref qk)))):=sn.40 hr;exists k r _ (s1.19 hr) (s1.3 s2) #[ne_old (λz=>hl (s1.19 z)) hr,_,aD,?_];unfold JQ;rw[ek'];rw[aF ()] at pr;show jK (ce (λ_ _ z=>Nh.same z s2) pr) kk #[qk,rfl,qkl,(s1.3 s2) _ _ gk]
theorem wo:sC ["lines","at","to","swapped"] 3 sW:=by walk_at "d"
theorem DF (T:Txt K mg Z) (ac:bv P):T.nE.o P w base 1 z6:=by
 refine T.nE.F.k wo ?_;walk_at "i";obtain l|p|ls|t|kk|rfl|hl|G|acS|ht|hk|k:=h
 refine #[_,(ao (eZ 3 wo.nd (fj oR (by rfl) T.32 Zn (cQ bI)))
  (ao (fM (aN bC bI cE) (gg kb eQ set_list))
  (ao (fM (aN bC bI eQ) (gg kb cE set_list))
  (av (aT kb))))),?_]
 left
 obtain pl|xs|gx|qx:=id G;have lx:=qx.9;obtain zt|vt|et|evt|_|Ft:=fD qx ht;obtain zk|vk|ek|evk|_|Fk:=fD qx hk;exists #[p,xs,rfl,.inl (bA.of gx),λc hc=>?_];have sc:aG H (upd H c (.lst xs)):=aG.new hc;have gc:(upd H c (.lst xs)) c=some (.lst xs):=aD;generalize upd H c (.lst xs)=Hc at sc gc ⊢;exists b8 (bA.of (sc _ _ gx)) (dM evt) ?_;exists d7 gc (eN ()) rfl ?_;have s1:aG H (upd Hc c (.lst (xs.30 kk vt))):=sc.40 hc;have g1:(upd Hc c (.lst (xs.30 kk vt))) c=some (.lst (xs.30 kk vt)):=aD;generalize upd Hc c (.lst (xs.30 kk vt))=H1 at s1 g1 ⊢;exists b8 (bA.of (s1 _ _ gx)) (dM evk) ?_;exists d7 g1 (eN (by rw[cN];lia)) rfl ?_;have s2:aG H (upd H1 c (.lst ((xs.30 kk vt).30 t vk))):=s1.40 hc;exists k c _ hc s2 #[ne_old hl hc,_,aD,?_];have et':ls.4 t []=zt:=by rw[aa,et];rfl
 have ek':ls.4 kk []=zk:=by rw[aa,ek];rfl
 unfold sI;rw[et',ek'];show jK (jK (ce (λ_ _ z=>Nh.same z s2) qx) kk (Nh.same Ft s2)) t (Nh.same Fk s2)
theorem k9:sC ["rows","wide","lines","leads","before","place","many","at"] 2 FG:=by walk_at "d"
theorem Ja (T:Txt K mg Z) (ac:bv P):T.vz.o P w base 4 (Ek K):=by
 refine T.vz.F.k k9 ?_;walk_at "i";obtain p|n|w|H0|rows|rfl|G|M!|N!|hw|F|k:=h
 refine #[_,(ao (lI 2 ["row"] [] [] k9.nd rfl rfl (cF bI) (λ_=>(fA 0)) (λ_=>cp) (λ_=>(cH (lO T ac) hr T.gU (cI bI (cH (iD T ac) hr T.dJ (cQ bI))))))
  (ao (eZ 3 k9.nd (fB lJ))
  (ao (eZ 4 k9.nd aj)
  (ao (fw Zb rfl (cu rfl T.38 (cQ cE)) (fA 5 k9.nd)
   (ao (eZ 6 k9.nd (a8 aS (by rfl) T.31 aK (cQ kb)))
  (ao (eZ 7 k9.nd (cH (DE T ac) hr T.nD (zC eQ wB z7)))
  (av (dj (bw FU Ao tz (bx _)) (ao (eZ 2 k9.nd (cH (K6 T ac) hr T.tQ (Rg (cH (DF T ac) hr T.nE (zC eQ Ao wB)) wB z7 rX)))
  (ao (eZ 4 k9.nd (aN bC (aN bC eQ wB) z7))
  (av (jv (yd cZ cS cR jQ kb (cQ z7)))))) b9)))))
  (av (aT (dh (cI (pA sJ eQ tx (tw (a8 aS (by rfl) T.31 aK (cQ kb)))) kb)))))))),?_]
 left
 obtain xs|gx|qx|_:=id G;obtain W|hW|W2|ent:=F.ent;obtain _|_|_|_|_|_|_|_|r15|r89:=id F;exists #[#[_,bA.of gx],?_];refine dw (K:=K) (as:=rows) (F:=cO K H0) (λ(H:Hp) (zs:List Int) (v:V)=>∃q,v=V.ref q/\H q=some (.lst (zs.12 V.int))) jB gx qx () (λa b=>a.10 b) (λ#[q,a,b] s=>#[q,a,s _ _ b]) ?_ ?_
 ·rintro i qs v H' NY NN ec s' ⟨u,rfl,_,R⟩ k1;have mx:=ai ec;obtain M|hM:=F.ach mx;obtain b1|sb:=hM.bot;have lq:(qs.12 nm).9<=1000:=by rw[af,hw qs mx];lia
  exists #[u,_,M,rfl,R.aaF,lq,hM,λH2 s2=>?_];exists #[u,_,M,_,rfl,(R.10 s2).aaF,lq,hM,b1,sb,λr H3 n3 s3 g3=>k1 _ _ (s2.3 s3) #[r,rfl,g3]]
 rintro ys H1 lp0 hlp s1 g1 pr1 nx1;exists dC λqp H2 s2 nq gq=>?_
 have G2:vN qp H2 lp0 (rows.12 jB):=#[(λz=>by rw[z,nq] at g1;cases g1),ys,s2 _ _ g1,ce (λ_ _ #[q,a,b]=>#[q,a,(λz=>by rw[z,nq] at b;cases b),s2 _ _ b]) pr1];have hq0:H qp=none:=s1.19 nq;have u!:=s1.3 s2;have hm:(rows.12 jB).9=rows.9:=af ..;clear g1 pr1 nx1;exists #[(),(),?_];refine eF (n:=n) (λP σ' H'=>aG H H'/\∃lp ls ps d y1 y2 y3,σ'=[some (.ref p),some (.int n),some (.ref lp),some (.ref qp),some (.int d),y1,y2,y3]/\H' qp=some (.lst (eB ps))/\vN qp H' lp ls/\E8 (rows.12 jB) n P ls ps d) #[u!,lp0,rows.12 jB,[],1,_,_,_,rfl,gq,G2,E8.start λzs hz=>by obtain x|hx|rfl:=au.mp hz;rw[rF];show hw x hx] ?_ ?_
 ·rintro P σ' H' hP ⟨s',lp,ls,ps,d,y1,y2,y3,rfl,gq',G',I⟩;have hl:=I.31;have kP:=I.el.kP;have km:=I.el.km;have lps:(eB ps).9=ps.9:=af ..;have hqp:H' qp≠none:=by rw[gq'];show λz=>nomatch z
  obtain z1|z2:=I.sz (r:=min rows.9 n) hW ent () (by rw[hm];show ah _) r15;have big:(16*W)^min rows.9 n < 2^8999000:=aP (zA W2) (dD () ());exists #[_,_,rfl,.inl (bA.of gq'),?_];rw[lps];exists #[qp,lp,ls,ps.9,P,rfl,G',(),(),λzs hz=>by rw[I.51 zs hz];show hP,λt h1 h2 h3=>?_,λhz=>?_]
  ·exists #[rfl,_,rfl,?_];rw[show decide (V.int (t:Int)=V._B)=false from decide_eq_false (λz=>nomatch z)];exists #[qp,lp,ls,t,ps.9,rfl,hqp,G',(),h2,(),λl1 Ha na sa Ga=>?_];exists #[qp,l1,_,ps.9,P,n,d,rfl,λz=>hqp (sa.19 z),Ga,by rw[yT];lia,by rw[yT];lia,Mf I.51 () h2,(),hP,I.d0,aP z1 big,λzs hz z hz'=>?_,λl2 Hb nb sb Gb=>?_]
   ·unfold sI at hz;have key:∀ys,ys∈ls->∀z∈ys,Sz 8999000 z:=λys hy z hz=>aP (z2 ys hy z hz) big
    rcases cD hz with h | h
    ·rcases cD h with h | h
     ·show key zs h z hz'
     ·rw[h] at hz';show key _ (getD_in h2) z hz'
    ·rw[h] at hz';show key _ (getD_in ()) z hz'
   have sab:=sa.3 sb;have I2:=I.57 hW ent h1 h2 h3;have hk2:ps.9 < (JQ (sI ls ps.9 t) ps.9 P d).9:=by rw[QU,yT];lia
   obtain n2|xs2|gx2|qx2:=id Gb;obtain zk|vk|ek|evk|mk|qk|rfl|_|gk:=fD qx2 hk2;have wk:=I2.51 zk mk;exists b8 (bA.of gx2) (dM evk) ?_;exists b8 (bA.of gk) (Ia ()) ?_;have gqb:=sab _ _ gq';exists #[.inl #[rfl,_,bA.of gqb],?_];exists jO gqb (dn ()) ?_;refine #[(s'.3 sab).40 hq0,l2,_,ps++[P],_,_,_,_,rfl,?_,Gb.upd,?_]
   ·rw[aD];unfold eB;rw[cY];rfl
   ·have e:(JQ (sI ls ps.9 t) ps.9 P d).4 ps.9 []=zk:=by rw[aa,ek];rfl
    rw[e] at I2;show I2
  ·exists #[rfl,_,rfl,?_];rw[show decide (V._B=V._B)=true from decide_eq_true rfl];exists #[s',lp,ls,ps,d,_,_,_,rfl,gq',G',I.skip hz]
 rintro σ' H' ⟨s',lp,ls,ps,d,y1,y2,y3,rfl,gq',G',I⟩;obtain R|hR:=I.done hw F;have lps:(eB ps).9=ps.9:=af ..;obtain nl|xs'|gx'|qx':=id G';exists #[_,_,rfl,.inl (bA.of gq'),?_];rw[lps];exists zx (bA.of gx') λsl H3 s3 n3 g3=>?_
 rw[JN] at g3;exists cB λt H4 s4 g4=>?_
 have s34:=s3.3 s4;show k t sl qp R ps d _ H4 g4 (s34 _ _ gq') #[(λz=>by rw[z,gq'] at n3;cases n3),_,s4 _ _ g3,ce (λ_ _ z=>Nh.same z s34) (qv qx' ps.9)] (s'.3 s34) hR
theorem rH:sC ["top","bottom","divisor"] 2 BR:=by walk_at "d"
theorem oY (T:Txt K mg Z) (ac:bv P):T.jT.o P w base 2 Nw:=by
 refine T.jT.F.k rH ?_;walk_at "i";obtain t|b|rfl|hb|hs|k:=h
 refine #[_,(ao (eZ 2 rH.nd (cH (lQ T ac) hr T.fk (cI bI cE)))
  (ao (dj (bw pC cE aj (bx _)) (av (eZ 2 rH.nd (uj oi eQ))) b9)
  (av (aT (dh (cI (bB (lM rfl rH rfl rfl rfl ac (yC hr)) bI eQ) (bB (lM rfl rH rfl rfl rfl ac (yC hr)) cE eQ))))))),?_]
 left
 exists #[t,b,rfl,?_];have hg:=CO (t:=t) hb
 have hgs:Sz 8999000 (g t b):=hs.le (by
  have h1:(g t b).17=ZN t b:=by unfold g;simp
  rw[h1];show jC () (by have:=ia (a:=t) (b:=b);show fP.mpr this |> λz=>by simpa using z))
 have hgn:g (-t) (-b)=g t b:=by unfold g;rw[Int.gcd_neg,Int.neg_gcd]
 exists jm (λh=>?_) (λh=>?_)
 ·have hb0:b < 0:=of_decide_eq_true h;exists fZ (show uB _ _ from #[(),hgs.neg]) ?_;exists fZ (show uB _ _ from #[(),hgs.neg]) ?_;exists cB λr H' s' h'=>?_
  have e1:t.fdiv (-g t b)=lo (-t) (-b):=by
   unfold Nm.lo;rw[hgn,<- cK _ (),<- Int.neg_fdiv_neg (-t),Int.neg_neg]
  have e2:b.fdiv (-g t b)=hi (-t) (-b):=by
   unfold Nm.hi;rw[hgn,<- cK _ (),<- Int.neg_fdiv_neg (-b),Int.neg_neg]
  show k r H' s' (by rw[if_pos hb0,if_pos hb0,<- e1,<- e2];show h')
 ·have hb0:¬b < 0:=λz=>h (decide_eq_true z)
  exists fZ (show uB _ _ from #[(),hgs]) ?_;exists fZ (show uB _ _ from #[(),hgs]) ?_;exists cB λr H' s' h'=>?_
  rw[cK _ (),cK _ ()] at h';show k r H' s' (by rw[if_neg hb0,if_neg hb0];show h')
theorem BJ:sC ["rows","wide","found"] 2 zg:=by walk_at "d"
theorem tI (T:Txt K mg Z) (ac:bv P):T.kL.o P w base 5 (zZ K):=by
 refine T.kL.F.k BJ ?_;walk_at "i";obtain p|n|w|H0|rows|rfl|G|M!|N!|hw|F|k:=h
 refine #[_,(ao (eZ 2 BJ.nd (cH (Ja T ac) hr T.vz (cI bI cE)))
  (av (aT (b6 ["line","lead"] [] [] (qq rfl T.zip (cI (aN bN eQ aj) (aN bN eQ aj))) (λ_=>(kE K 2 (bZ (fA 0) (bZ (fA 1) gR)))) (λ_=>cp) (λ_=>(b6 ["top"] ["line","lead"] [0,1] (Ca K bI) (λ_=>(fA 0)) (λ_=>cp) (λ_=>(cH (oY T ac) hr T.jT (cI bI (aN (fI K (by rfl)) cE eQ)))))))))),?_]
 left
 obtain _|_|_|_|_|_|_|_|r15|r89:=id F;exists #[p,n,w,H0,rows,rfl,G,M!,N!,hw,F,λt lp qp R ps d ls H1 gt gq G1 s1 S=>?_];obtain lR|wR|RR:=id S.rr;have hl:=S.31;obtain _|xs|gx|qx:=id G1;have lx:=qx.9;have lps:(eB ps).9=ps.9:=af ..;have d0:(d:Rat)≠0:=λz=>S.d0 (vJ z)
 have dsz:Sz 8999000 d:=aP S.dsz (dD () ())
 have km:ps.9<=n:=by
  rcases aX n ps.9 with z | z
  ·have inc:∀j,j < ps.9->j<=ps.4 j 0:=by
    intro j
    induction j with
    | zero=>intro _;show aW _
    | succ j ih =>
     intro hj;have:=ih ();have:=RR.inc j (j+1) () hj
     lia
   have h1:=inc (ps.9 - 1) ();have h2:=RR.low (ps.9 - 1) ()
   lia
  ·show z
 exists #[#[_,bA.of gx],#[_,bA.of gq],?_];refine pO (K:=K) (xs:=xs) (ws:=eB ps) (λi ys H'=>aG H1 H'/\Y9 (cO K H1 H') (R.21 i) ys) mH () #[aG.refl _,.nil] (λi ys H' _ #[s,_]=>#[bA.of (s _ _ gx),bA.of (s _ _ gq)]) ?_ ?_
 ·rintro i v1 v2 ys H' r h1 h2 hy ⟨s,pr⟩ hr;obtain zs|ez|q|rfl|_|gq1:=bW qx h1;have hi:i < ls.9:=(aH.mp ez).1;have mz:=ai ez;have wz:=S.51 zs mz
  obtain ⟨j,ej,rfl⟩:∃j:Nat,ps[i]?=some j/\V.int (j:Int)=v2:=by
   unfold eB at h2;rw[az] at h2;cases e:ps[i]? with
   | none=>rw[e] at h2;cases h2
   | some x=>rw[e] at h2;show #[x,rfl,bU h2]
  have ej':ps.4 i 0=j:=by rw[aa,ej];rfl
  have jn:j < n:=by have:=RR.low i ();rw[ej'] at this;show this
  have sr:aG H' (upd H' r (.tup [.ref q,.int j])):=aG.new hr;have gr:(upd H' r (.tup [.ref q,.int j])) r=some (.tup [.ref q,.int j]):=aD;generalize upd H' r (.tup [.ref q,.int j])=H2 at sr gr ⊢;have s2:=s.3 sr;have iR:i < R.9:=()
  have eR:=ae iR;have wRi:=wR _ (aw iR)
  have ed:zs.4 j 0=d:=by
   have h:=S.val i j;rw[US ez] at h;have u:=RR.52 i () i ();rw[if_pos rfl,ej'] at u;rw[u,Q8] at h;show dG.mp h
  have val:∀c,((zs.4 c 0:Int):Rat)=(d:Rat)*(R[i]).4 c 0:=λc=>by
   have h:=S.val i c;rw[US ez] at h;rw[h];unfold bo;rw[aa (l:=R),eR];rfl
  exists #[#[_,bA.of (s2 _ _ gq1)],?_];refine fo (K:=K) (xs:=zs.12 V.int) (λc b! H3=>aG H2 H3/\Y9 (cg K H3) ((R[i]).21 c) b!) (dm (dn (by rw[af];lia))) #[aG.refl _,.nil] (λc b! H3 _ #[s3,_]=>bA.of ((s2.3 s3) _ _ gq1)) ?_ ?_
  ·rintro c x b! H3 hx _y ⟨s3,pr3⟩
   obtain ⟨z,ec,rfl⟩:∃z,zs[c]?=some z/\V.int z=x:=by
    rw[az] at hx;cases e:zs[c]? with
    | none=>rw[e] at hx;cases hx
    | some x=>rw[e] at hx;show #[x,rfl,bU hx]
   have hc:c < zs.9:=(aH.mp ec).1;have vc:=val c;have e1:zs.4 c 0=z:=by rw[aa,ec];rfl
   rw[e1] at vc;exists b8 (bA.of ((s2.3 s3) _ _ gq1)) (Ia ()) ?_;rw[ed];exists #[z,d,rfl,S.d0,dsz,λr4 H4 s4 g4=>?_];have ec':(R[i])[c]?=some ((R[i]).4 c 0):=by rw[aa,ae (show c < (R[i]).9 by lia)];rfl
   refine #[s3.3 s4,?_];rw[take_snoc ec'];refine cm (ce (λ_ _ z=>cg.same z s4) pr3) (.cons (cg.mk g4 ?_) .nil);rcases Int.lt_or_lt_of_ne S.d0 with hd | hd
   ·rw[if_pos hd,if_pos hd];refine tV () ?_;rw[dg,dg,vc];grind
   ·rw[if_neg (),if_neg ()];refine tV hd ?_;rw[vc];grind
  ·rintro b! H3 hy' ⟨s3,pr3⟩ l4 hl4;have sn:aG H3 (upd H3 l4 (.lst b!)):=aG.new hl4;refine #[(s2.3 s3).3 sn,?_];rw[take_snoc eR];rw[aF (by rw[af];lia)] at pr3;show cm (ce (λ_ _ z=>cO.same z ((sr.3 s3).3 sn)) pr) (.cons #[l4,rfl,(s2.3 s3).19 hl4,b!,aD,ce (λ_ _ z=>cg.same z sn) pr3] .nil)
 ·rintro ys H' hy ⟨s,pr⟩ r hr;have sn:aG H' (upd H' r (.lst ys)):=aG.new hr;rw[aF ()] at pr;refine k r R ps d.17 _ (s1.19 (s.19 hr)) ((s1.3 s).3 sn) #[ys,aD,ce (λ_ _ z=>(cO.weak z s1).10 sn) pr,iW (H0:=H1) (rows:=R) #[H',hr,pr]] S.rr S.km ?_ S.dsz S.tp;have:=S.d0
  lia
theorem jH:sC ["one","other","one_bottom","other_bottom","pairs"] 2 ze:=by walk_at "d"
theorem Co (T:Txt K mg Z) (ac:bv P):T.jM.o P w base 4 (Fs K):=by
 refine T.jM.F.k jH ?_;walk_at "i";obtain p|q|xs|ys|rfl|hp|hq|hl|hz|⟨k1,j1,k2,j2,h1,h2,hkj⟩|kk:=h
 refine #[_,(ao (eZ 2 jH.nd (cH (iD T ac) hr T.dJ (cQ bI)))
  (ao (eZ 3 jH.nd (cH (iD T ac) hr T.dJ (cQ cE)))
  (ao (eZ 4 jH.nd (Cc rfl T.32 rfl T.zip (cI (cH (lO T ac) hr T.gU (cI bI eQ)) (cH (lO T ac) hr T.gU (cI cE kb)))))
  (av (aT (cH (oY T ac) hr T.jT (cI (a8 (JU rfl) (by rfl) T.sum PyProof.Rows.boot_sum (cQ (b6 ["mine","yours"] [] [] (cF rX) (λ_=>(kE K 2 (bZ (fA 0) (bZ (fA 1) gR)))) (λ_=>cp) (λ_=>(bB cG bI cE))))) (bB cG eQ kb)))))))),?_]
 left
 obtain M|h1:=h1.ach ();obtain N|h2:=h2.ach ();replace hp:=hp.aaF;replace hq:=hq.aaF;replace hl:(ys.12 nm).9=(xs.12 nm).9:=by simpa using hl
 replace hz:(xs.12 nm).9<=1000:=by simpa using hz
 obtain b1|s1:=h1.bot;obtain b2|s2:=h2.bot;have k2:∀r H',aG H H'->H' r=some (.tup [.int (lo (Lr (xs.12 nm) (ys.12 nm)) (fJ (xs.12 nm)*fJ (ys.12 nm))),.int (hi (Lr (xs.12 nm) (ys.12 nm)) (fJ (xs.12 nm)*fJ (ys.12 nm)))])->Q (.ref r) H':=λr H' s g=>kk r H' s (cg.mk g (MW b1 b2))
 clear kk;generalize xs.12 nm=ns at hp hq hl hz h1 h2 b1 b2 s1 s2 k2;generalize ys.12 nm=ms at hp hq hl hz h1 h2 b1 b2 s1 s2 k2;have hb:0 < fJ ns*fJ ms:=gJ b1 b2;exists #[p,ns,M,rfl,hp,hz,h1,λH1 t1=>?_];exists #[q,ms,N,rfl,hq.10 t1,(),h2,λH2 t2=>?_];have u2:=t1.3 t2;exists #[p,ns,M,_,rfl,hp.10 u2,hz,h1,b1,s1,λr1 H3 n3 t3 g3=>?_];exists #[q,ms,N,_,rfl,(hq.10 u2).10 t3,(),h2,b2,s2,λr2 H4 n4 t4 g4=>?_];exists #[r1,r2,_,_,rfl,bA.of (t4 _ _ g3),bA.of g4,by simp [dS,hl],λL ts H5 t5 n5 g5 pr=>?_];have lt:=pr.9;have ll:(dS ns (fJ ns)).9=ns.9:=by simp [dS]
 have lm:(dS ms (fJ ms)).9=ns.9:=by simp [dS,hl]
 rw[uH,af,af,ll,lm] at lt;exists #[#[_,bA.of g5],?_];refine fo (K:=K) (xs:=ts) (λi ys H'=>H'=H5/\ys=((Wv (λx y=>x*y) (dS ns (fJ ns)) (dS ms (fJ ms))).21 i).12 V.int) mH #[rfl,rfl] (λi ys H' _ #[e,_]=>by subst e;show bA.of g5) ?_ ?_
 ·rintro i x ys H' hx _y ⟨rfl,rfl⟩;obtain pq|epq|T|rfl|gT:=bW pr hx;obtain t|u|et|eu|rfl:=L7 epq;exists fZ (show fK _ _ from .inr #[_,_,xP h1 b1 s1 (ai et),xP h2 b2 s2 (ai eu),()]) ?_;have ez:(Wv (λx y=>x*y) (dS ns (fJ ns)) (dS ms (fJ ms)))[i]?=some (t*u):=by rw[bh,et,eu]
  show #[rfl,by rw[take_snoc ez];simp]
 ·rintro ys H' hy ⟨rfl,rfl⟩ l K!;exists #[l,Wv (λx y=>x*y) (dS ns (fJ ns)) (dS ms (fJ ms)),rfl,bA.of (by rw[aD,aF (by rw[aJ];lia)]),?_];exists fZ (show fK _ _ from .inr #[_,_,s1,s2,()]) ?_;exists #[_,_,rfl,(),(s1.mul s2).24 (),λr H6 t6 g6=>?_];rw[if_neg (),if_neg ()] at g6;show k2 r H6 ((((u2.3 t3).3 t4).3 t5).3 ((aG.new K!).3 t6)) g6
theorem BL:sC ["grid","row"] 2 zj:=by walk_at "d"
theorem pG (T:Txt K mg Z) (ac:bv P):T.gi.o P w base 5 (Fq K):=by
 refine T.gi.F.k BL ?_;walk_at "i";obtain p|q|H0|rows|ys|rfl|hp|hq|hz|hl|hr1|kk:=h;refine #[_,(av (aT (b6 ["line"] ["row"] [1] (cF bI) (λ_=>(fA 0)) (λ_=>cp) (λ_=>(cH (Co T ac) hr T.jM (cI bI cE)))))),?_];left
 obtain xs|gx|qx|_:=id hp;exists #[#[_,bA.of gx],?_];refine dw (K:=K) (F:=cO K H0) (cg K) (λxs=>fe xs ys) gx qx hz (λa b=>a.10 b) (λa b=>a.10 b) ?_ ?_
 ·rintro i ns x H' NY NN en s ⟨u,rfl,_,hu⟩ k;obtain e1|e2:=hr1 ns (ai en);exists #[u,q,ns,ys,rfl,hu,hq.10 s,e1.26,(),e2,λr H2 s2 h2'=>k _ _ s2 h2']
 ·rintro b! H' r hr s g pr nx;show kk r H' hr s #[b!,g,pr]
theorem Dw:sC ["system","rows"] 2 sT:=by walk_at "d"
theorem wD (T:Txt K mg Z) (ac:bv P):T.kl.o P w base 6 (Er K Z._c):=by
 refine T.kl.F.k Dw ?_;walk_at "i";obtain x|p|H0|H1|mv|pt|lk|R|rfl|S|D|G|aiL|wR|hf|k:=h;refine #[_,(av (aT (b6 ["row"] ["system"] [0] (cF cE) (λ_=>(fA 0)) (λ_=>cp) (λ_=>(cH (pG T ac) hr T.gi (cI (SD K cE rfl) bI)))))),?_];left
 obtain dx|a'|b'|c'|gx|_|_|_|Ga|Gb|Gc:=id S;have d8:=D.n8;obtain xs|gxs|qx|_:=id G;exists #[#[_,bA.of gxs],?_];refine dw (K:=K) (F:=cO K H1) (cO K H) (il mv) gxs qx () (λa b=>a.10 b) (λa b=>a.10 b) ?_ ?_
 ·rintro i ns v H' NY NN en s ⟨u,rfl,_,hu⟩ k1;have mn:=ai en;exists #[x,Z._c,dx,_,_,rfl,s _ _ gx,T._e,T._Q,uO,?_];exists #[a',u,H0,mv,ns,rfl,Ga.10 s,hu,(),by rw[wR ns mn];lia,λxs hx=>#[by rw[D.mw xs hx,wR ns mn],hf xs hx ns mn],λr H2 nr s2 R2=>k1 _ _ s2 #[r,rfl,s.19 nr,R2]]
 ·rintro ys H' r hr s g pr nx;show k r H' hr s #[ys,g,pr,iW nx]
theorem o7:sC ["system","steps","lists","rows"] 2 qQ:=by walk_at "d"
theorem Cq (T:Txt K mg Z) (ac:bv P):T.lW.o P w base 7 (Ez K Z._c):=by
 refine T.lW.F.k o7 ?_;walk_at "i";obtain x|a|c|st|H0|mv|pt|lk|rfl|acJ|S|D|F|k:=h
 refine #[_,(ao (eZ 2 o7.nd (fB (cQ (fB lJ))))
  (ao (xZ Zb (bw XH (a8 aS (by rfl) T.31 aK (cQ eQ)) cE (bx _))
   (ao (eZ 3 o7.nd (cH (tI T ac) hr T.kL (cI (bB rh (ck bI rfl) (cH (wD T ac) hr T.kl (cI bI (aN bC eQ (uj oi aj))))) (ck bI rfl))))
  (ao (dj (bw gH (a8 aS (by rfl) T.31 aK (cQ kb)) (a8 aS (by rfl) T.31 aK (cQ (aN bC eQ (uj oi aj)))) (bx _)) (av (aT eQ)) b9)
  (av (jv (yd cZ cS cR jQ eQ (cQ kb)))))))
  (av (aT eQ)))),?_]
 left
 obtain dx|a'|b'|c'|gx|_|_|_|Ga|Gb|Gc:=id S;have d8:=D.n8;have i4:=D.i4;have lP:=iY (mv:=mv) (pt:=pt) rfl D.pw;exists dC λq0 H1 s1 nq0 g1=>?_
 exists dC λl H2 s2 nl g2=>?_
 have u!:=s1.3 s2;have nl0:H l=none:=s1.19 nl;obtain ⟨Hz,eHz⟩:∃Hz,Hz=upd H l (.lst []):=#[_,rfl];have zl:Hz l≠none:=by rw[eHz,aD];show λz=>nomatch z
 have zn:∀q,Hz q=none->H q=none/\q≠l:=λq h=>by
  have ne:q≠l:=λz=>zl (by rw[<- z];show h)
  rw[eHz,aR ne] at h;show #[h,ne]
 have nz:∀q,H q=none->q≠l->Hz q=none:=λq h ne=>by rw[eHz,aR ne];show h
 clear eHz;have q0l:q0≠l:=λz=>by rw[z,nl] at g1;cases g1
 have G0:bf K Hz H2 q0 []:=#[[],s2 _ _ g1,.nil,λz=>nomatch z];exists AK (λσ' H'=>aG H H'/\∃Rs R us y,σ'=[some (.ref x),some (.int st),some (.ref l),y]/\H' l=some (.lst us)/\Y9 (λR v=>∃q,v=V.ref q/\Hz q=none/\bf K Hz H' q R) (Rs++[R]) us/\Dc mv pt (Rs++[R])/\Rs.9<=st) (λ_ H'=>match H' l with | some (.lst us)=>st+1 - us.9 | _=>0) #[u!,[],[],_,_,rfl,g2,.cons #[q0,rfl,nz q0 nq0 q0l,G0] .nil,#[by simp,λt R e=>?_,λt R R' e e'=>?_],aW _] ?_
 ·have ht:=(aH.mp e).1;have:t=0:=by simpa using ht
  subst this;cases e;show #[[],KU]
 ·have ht:=(aH.mp e').1;simp at ht
 rintro σ' Ha ⟨sa,Rs,R,us,y,rfl,gu,pa,Gw,hst⟩;have lu:=pa.9;rw[ar,aY] at lu;have eR:(Rs++[R])[Rs.9]?=some R:=by rw[bG (ah _),kG];rfl
 obtain ps|RR:=Gw.rr _ _ eR;have tn:Rs.9<=mv.9:=by have:=Gw.31 _ _ eR;have:=RR.le;have:=RR.1;lia
 have fin:∀(Hx:Hp) (sx:aG Ha Hx) (hh:∀s,(Rs.9=st/\s=st\/Rs.9 < st/\Rs.9<=s)->∃ps,bL (iI mv pt s) mv.9 R ps),Q (.ref l) Hx:=λHx sx hh=>by
  refine k l (Rs++[R]) Hx nl0 (sa.3 sx) #[us,sx _ _ gu,ce (λ_ _ #[q,e1,e2,e3]=>#[q,e1,(zn q e2).1,(zn q e2).2,bf.aaY (bf.same e3 sx) λq h=>(zn q h).1]) pa] Gw (by rw[ar,aY];lia) λR2 e2 s hs=>?_
  rw[List.getLast?_concat] at e2;cases e2;rw[ar,aY,Kt] at hs;show hh s hs
 exists #[_,_,rfl,.inl (bA.of gu),?_];exists jm (λh0=>?_) (λh0=>?_)
 ·have h0:=of_decide_eq_true h0;refine Uo ?_
  obtain ⟨zs,gS⟩:∃zs q,us=zs++[V.ref q]/\Hz q=none/\bf K Hz Ha q R:=by
   obtain ⟨v,ev,q,rfl,e2,e3⟩:∃v,us[Rs.9]?=some v/\∃q,v=V.ref q/\Hz q=none/\bf K Hz Ha q R:=by
    have ev:=ae (show Rs.9 < us.9 by lia);obtain R2|e2|w:=bW pa ev;rw[eR] at e2;cases e2;show #[_,ev,w]
   refine #[us.21 Rs.9,q,?_,e2,e3];rw[<- take_snoc ev,aF ()]
  obtain q|rfl|zq|Gq:=gS;have gxa:=sa _ _ gx;exists #[x,Z._c,dx,_,_,rfl,gxa,T._e,T.a!,vU,?_];exists b8 (bA.of gu) (yJ _ _) ?_;have wR:=RR.2.1;have lR:=RR.1;have pn:=RR.le;exists #[x,q,H0,Hz,mv,pt,lk,R,rfl,S.10 sa,D,Gq,(),wR,F.fit d8 D.mw D.pw tn RR,λmr Hb nmr sb Gm=>?_];obtain pv|gpv|qpv|_:=Gb.10 (sa.3 sb);obtain mvs|gmv|qmv|_:=id Gm;have lpv:=qpv.9;have lmv:=qmv.9;rw[af] at lmv;exists rd gpv gmv mH λcr Hc sc nc gc=>?_
  have sab:=sa.3 (sb.3 sc);have Gc':bf K (λ_=>none) Hc cr (pt++R.12 (il mv)):=EM (H:=Hb) (cm (ce (λ_ _ #[q,e1,e2,e3]=>#[q,e1,rfl,e3]) qpv) (ce (λ_ _ #[q,e1,e2,e3]=>#[q,e1,rfl,e3]) qmv)) sc nc gc;exists #[x,Z._c,dx,_,_,rfl,sab _ _ gx,T._e,T._k,cM,?_];exists #[cr,mv.9,_,_,_,rfl,Gc',by rw[ar,af];lia,(),λxs hx=>?_,F.57 d8 D.mw D.pw tn RR,λrr R' _W M' Hd nrr sd G' J! pm' _ _ _=>?_]
  ·rcases aB.mp hx with hx | hx
   ·show D.pw xs hx
   ·obtain y|_|rfl:=au.mp hx;show tE
  have sbd:=sb.3 (sc.3 sd);have sad:=sa.3 sbd;have K1:=yw rfl D.mw D.pw RR J!;have gud:=sbd _ _ gu;obtain rv|grv|qrv|_:=id G';have lrv:=qrv.9;have lR':=J!.1;have pn':=J!.le;exists #[_,_,rfl,.inl (bA.of grv),?_];exists b8 (bA.of gud) (yJ _ _) ?_;obtain ov|gov|qov|_:=Gq.10 sbd;have lov:=qov.9;exists #[_,_,rfl,.inl (bA.of gov),?_];exists jm (λh1=>?_) (λh1=>?_)
  ·have h1:=of_decide_eq_true h1;exists fin Hd sbd λs hs=>#[ps,?_]
   obtain ⟨s',rfl⟩:∃s',s=Rs.9+s':=#[s - Rs.9,()];show EJ rfl D.mw D.pw RR J! () s'
  ·have h1:¬((rv.9:Int)=ov.9):=λz=>h1 (decide_eq_true z)
   have gr:=Jn rfl D.mw D.pw RR K1;have rl:rr≠l:=λz=>by rw[z,(sb.3 sc) _ _ gu] at nrr;cases nrr
   have zc:∀q,Hc q=none->Hz q=none:=λq h=>nz q (sab.19 h) (λz=>by rw[z,(sb.3 sc) _ _ gu] at h;cases h)
   exists #[.inl #[rfl,_,bA.of gud],?_];exists jO gud (dn ()) ?_;refine #[#[sad.40 nl0,Rs++[R],R',_,_,rfl,aD,cm (ce (λ_ _ #[q,e1,e2,e3]=>#[q,e1,e2,bf._A (bf.same e3 sbd) gud zl (zn q e2).2]) pa) (.cons #[rr,rfl,zc rr nrr,bf._A (G'.aaY zc) gud zl rl] .nil),Gw.snoc K1 (),by rw[ar,aY];lia],?_];simp only[gu,aD,ar,aY] at lu h0 ⊢
   lia
 ·have h0:¬((us.9:Int)<=st):=λz=>h0 (decide_eq_true z)
  walk_at "w"
  show fin Ha (aG.refl _) λs hs=>#[ps,by
   have:s=Rs.9:=()
   rw[this];show RR]
theorem Dq:sC ["system","steps"] 2 sQ:=by walk_at "d"
theorem wC (T:Txt K mg Z) (ac:bv P):T.kj.o P w base 8 (El K Z._c):=by
 refine T.kj.F.k Dq ?_;walk_at "i";obtain x|a|c|st|H0|mv|pt|lk|rfl|acJ|S|D|F|k:=h;refine #[_,(av (aT (aN bC (cH (Cq T ac) hr T.lW (cI bI cE)) (uj oi aj)))),?_];left
 exists #[x,a,c,st,H0,mv,pt,lk,rfl,acJ,S,D,F,λr Rs H1 nr s1 #[us,gu,pa] Gw hl hh=>?_];have lu:=pa.9;obtain ⟨Rs',R,rfl⟩:∃Rs' R,Rs=Rs'++[R]:=#[Rs.dropLast,Rs.getLast Gw.ne,(List.dropLast_concat_getLast Gw.ne).26];rw[ar,aY] at lu hl;have eR:(Rs'++[R])[Rs'.9]?=some R:=by rw[bG (ah _),kG];rfl
 obtain ⟨zs,q,rfl,zq,ql,Gq⟩:∃zs q,us=zs++[V.ref q]/\H q=none/\q≠r/\bf K H H1 q R:=by
  have ev:=ae (show Rs'.9 < us.9 by lia);obtain R2|e2|q|e3|e4|e5|e6:=bW pa ev;rw[eR] at e2;cases e2;rw[e3] at ev;refine #[us.21 Rs'.9,q,?_,e4,e5,e6];rw[<- take_snoc ev,aF ()]
 obtain ps|RR:=hh R (by rw[List.getLast?_concat]) st (by rw[ar,aY,Kt];lia);exists b8 (bA.of gu) (yJ _ _) ?_;show k q R ps H1 zq s1 Gq RR
theorem sO:sC ["self","price"] 2 du:=by walk_at "d"
theorem tK (T:Txt K mg Z) (ac:bv P):kB P w K mg base Eb 1 Z.gG Z.jo ["self","price"] (IA K Z._o Z._G "price"):=by
 refine T.mK.k sO ?_;walk_at "i";obtain e|y|rfl|he|k:=h;refine #[_,(av (Mu bI cE rfl)),?_];left
 walk_at "w";unfold Pb;exists #[e,_,_,rfl,he,T._H,T.nt_NotSteered,λdx hd ne=>?_];exists k dx hd ne
theorem IF:sC ["many","at"] 2 xg:=by walk_at "d"
theorem Ac (T:Txt K mg Z) (ac:bv P):T.nV.o P w base 1 (Ij K):=by
 refine T.nV.F.k IF ?_;walk_at "i";obtain m|a'|rfl|hm|k:=h;refine #[_,(av (aT (b6 ["place"] ["at"] [1] (cu rfl T.38 (cQ bI)) (λ_=>(fA 0)) (λ_=>cp) (λ_=>(IY (bw gH bI cE (bx _)) (ng (v:=.ref Z.abg) rfl T.aaT rfl) (ng (v:=.ref Z._P) rfl T._M rfl)))))),?_];left
 exists #[(),(),?_];refine iG (n:=m) (cg K) (λi=>if ((i:Nat):Int)=a' then 1 else 0) hm (λa b=>a.10 b) ?_ ?_
 ·rintro i H' NY NN hi s k1;exists jm (λh0=>?_) (λh0=>?_)
  ·exists k1 _ _ (aG.refl _) (by rw[if_pos (of_decide_eq_true h0)];show #[_,rfl,T.aaS _])
  ·exists k1 _ _ (aG.refl _) (by rw[if_neg (λz=>h0 (decide_eq_true z))];show #[_,rfl,T._L _])
 ·rintro ys H' l hl s g pr nx;show k l _ hl s #[ys,g,pr]
theorem yX:sC ["row"] 1 oj:=by walk_at "d"
theorem zE (T:Txt K mg Z) (ac:bv P):T.jU.o P w base 1 (Iy K):=by
 refine T.jU.F.k yX ?_;walk_at "i";obtain p|xs|j|rfl|R|akU|hj|hne|hz|k:=h;refine #[_,(av (aT (a8 (E2 rfl) (by rfl) T.min ZH (cQ (b6 ["place","value"] [] [] (Mx rfl T.enumerate (cQ bI)) (λ_=>(kE K 2 (bZ (fA 0) (bZ (fA 1) gR)))) (λ_=>FR (bw (SG K (by rfl) (Jq hr)) cE (ng (v:=.ref Z._P) rfl T._M rfl) (bx _))) (λ_=>bI)))))),?_];left
 obtain zs|gz|qz:=id R;have lz:=qz.9;exists #[#[_,bA.of gz],?_];refine Ol (K:=K) (xs:=zs) (λi ys H'=>aG H H'/\ys=eB (OE xs i)) mH #[aG.refl _,rfl] (λi ys H' _ #[s,_]=>bA.of (s _ _ gz)) ?_ ?_
 ·rintro i v ys H' r hx _y ⟨s',rfl⟩ hr;obtain y|ey|ny:=bW qz hx;have ey':xs.4 i 0=y:=by rw[aa,ey];rfl
  have sr:aG H' (upd H' r (.tup [.int i,v])):=aG.new hr;have gr:(upd H' r (.tup [.int i,v])) r=some (.tup [.int i,v]):=aD;generalize upd H' r (.tup [.int i,v])=H2 at sr gr ⊢;exists #[_,_,MM,y,0,(),(ny.10 s').10 sr,#[_,rfl,T._L _],?_];by_cases e:y=0
  ·rw[decide_eq_true e];exists #[s'.3 sr,?_];rw[Mz,ey',if_neg (by simpa using e)]
  ·rw[decide_eq_false e];exists #[s'.3 sr,?_];rw[Mz,ey',if_pos e];unfold eB;rw[cY];rfl
 ·rintro ys H1 hy ⟨s1,rfl⟩ l hl;have sn:aG H1 (upd H1 l (.lst (eB (OE xs zs.9)))):=aG.new hl;have gn:(upd H1 l (.lst (eB (OE xs zs.9)))) l=some (.lst (eB (OE xs zs.9))):=aD;generalize upd H1 l (.lst (eB (OE xs zs.9)))=H2 at sn gn ⊢
  have mj:j∈OE xs zs.9:=by
   unfold OE;show ib.mpr #[iK.mpr (),by simpa using hne]
  exists #[l,MP (OE xs zs.9),rfl,bA.of (by rw[<- NS];show gn),?_,λM hM hle=>?_]
  ·unfold MP;rw[af];show A7 mj
  ·obtain c|hc|rfl:=au.mp hM;have h1:=hle j (au.mpr #[j,mj,rfl]);have h2:=(ib.mp hc).2
   have e:c=j:=by
    rcases mE c j with z | z | z
    ·show absurd (hz c z) (of_decide_eq_true h2)
    ·show z
    ·lia
   rw[e];show k _ (s1.3 sn)
theorem KL:sC ["rows"] 1 zi:=by walk_at "d"
theorem Ct (T:Txt K mg Z) (ac:bv P):T.pJ.o P w base 2 (Iz K):=by
 refine T.pJ.F.k KL ?_;walk_at "i";obtain p|n|H0|R|ps|rfl|G|M!|N!|⟨rows,RR⟩|k:=h;refine #[_,(av (aT (b6 ["row"] [] [] (cF bI) (λ_=>(fA 0)) (λ_=>cp) (λ_=>(cH (zE T ac) hr T.jU (cQ bI)))))),?_];left
 obtain lR|wR|rr:=id RR;obtain xs|gx|qx|_:=id G;have lx:=qx.9;exists #[#[_,bA.of gx],?_];refine fo (K:=K) (xs:=xs) (λi ys H'=>aG H H'/\ys=eB (ps.21 i)) mH #[aG.refl _,rfl] (λi ys H' _ #[s,_]=>bA.of (s _ _ gx)) ?_ ?_
 ·rintro i v ys H' hx _y ⟨s',rfl⟩;obtain row|er|q|rfl|_|Rr:=bW qx hx;have wr:=wR row (ai er);have hi:i < ps.9:=by have:=(aH.mp er).1;lia
  have ef:∀c,bo R i c=row.4 c 0:=λc=>by unfold bo;rw[aa (l:=R),er];rfl
  have ep:ps[i]?=some (ps.4 i 0):=by rw[aa,ae hi];rfl
  have lowp:=rr.low i hi;have u:=rr.52 i hi i hi;rw[if_pos rfl,ef] at u;exists #[q,row,ps.4 i 0,rfl,Rr.10 s',(),(),by rw[u];decide,λc hc=>by rw[<- ef];show rr.lead i hi c hc,λH2 s2=>?_];refine #[s'.3 s2,?_];unfold eB;rw[take_snoc ep,cY];rfl
 ·rintro ys H1 hy ⟨s1,rfl⟩ r hr;refine k r _ (s1.19 hr) (s1.3 (aG.new hr)) ?_;rw[aD,aF ()]
theorem O9:sC ["one","other"] 2 FI:=by walk_at "d"
theorem Jd (T:Txt K mg Z) (ac:bv P):T.vB.o P w base 3 (o6 K (λx y=>x - y)):=by
 refine T.vB.F.ok O9 (λvs H Q E h=>?_) (λ_I A outer s H vs Q E hr h=>?_)
 ·obtain p|q|a|b|c|d|rfl|hp|hq|hb|hd|sa|sb|sc|sd|k:=AQ h;rfl
 ·obtain p|q|a|b|c|d|rfl|hp|hq|hb|hd|sa|sb|sc|sd|k:=AQ h;refine #[_,(av (aT (cH (oY T ac) hr T.jT (cI (bB lK (bB cG (aN bN bI aj) (aN bN cE aj)) (bB cG (aN bN cE aj) (aN bN bI aj))) (bB cG (aN bN bI aj) (aN bN cE aj)))))),?_];refine nR (σ:=[some (.ref p),some (.ref q)]) rfl ?_
  try rw[gP]
  have hbd:0 < b*d:=gJ hb hd;have sbd:Sz 8999000 (b*d):=(sb.mul sd).24 ();exists fZ (show fK _ _ from .inr #[_,_,sa,sd,()]) ?_;exists fZ (show fK _ _ from .inr #[_,_,sc,sb,()]) ?_;exists fZ (show fK _ _ from .inr #[_,_,sb,sd,()]) ?_;walk_at "w";exists #[_,_,rfl,(),sbd,λr H' s' h'=>?_];rw[if_neg (),if_neg ()] at h';show k r H' s' h'
theorem sL:sC ["rows","wide","at","answer","lead","row"] 3 zh:=by walk_at "d"
theorem K5 (T:Txt K mg Z) (ac:bv P):T.tP.o P w base 4 (Ep K):=by
 refine T.tP.F.k sL ?_;walk_at "i";obtain p|n|a|H0|R|ps|rfl|G|M!|N!|⟨rows,RR⟩|ha|hp|hz|k:=h
 refine #[_,(ao (eZ 3 sL.nd (cH (Ac T ac) hr T.nV (cI cE eQ)))
  (ao (fw Zb rfl (qq rfl T.zip (cI (cH (Ct T ac) hr T.pJ (cQ bI)) bI)) (zB rfl (bZ (fA 4 sL.nd) (bZ (fA 5 sL.nd) gR)))
   (av (fM (cH (Jd T ac) hr T.vB (cI (ng (v:=.ref Z._P) rfl T._M rfl) (aN bC z7 eQ))) (gg kb rX set_list))))
  (av (aT kb)))),?_]
 left
 obtain lR|wR|rr:=id RR;exists #[n,a,rfl,(),λan H1 na s1 R1=>?_];rw[<- SO (R:=R) (ps:=ps)] at R1;obtain vs0|g0|q0:=id R1;exists #[p,n,H0,R,ps,rfl,G.10 s1,M!,N!,#[rows,RR],λle H2 nl s2 g2=>?_];have anl:le≠an:=λz=>by rw[z,g0] at nl;cases nl
 obtain rs|grs|qrs|_:=id G;have lrs:=qrs.9;have lps:=CC (ps:=ps);exists #[#[_,bA.of g2],#[_,bA.of ((s1.3 s2) _ _ grs)],?_];refine Ta (K:=K) (xs:=eB ps) (ws:=rs) (λj σ' H'=>aG H H'/\H' le=some (.lst (eB ps))/\∃y1 y2 vs,σ'=[some (.ref p),some (.int n),some (.int a),some (.ref an),y1,y2]/\H' an=some (.lst vs)/\Y9 (cg K H') (MC R ps n a j) vs) () #[s1.3 s2,g2,_,_,vs0,rfl,s2 _ _ g0,ce (λ_ _ z=>cg.same z s2) q0] (λj σ' H' _ #[e,e2,_]=>#[bA.of e2,bA.of (e _ _ grs)]) ?_ ?_
 ·rintro j v1 v2 σ' H' r h1 h2 ⟨s',gl,y1,y2,vs,rfl,ga,qa⟩ hr;obtain row|er|q|rfl|_|Rr:=bW qrs h2;have mr:=ai er;have wr:=wR row mr;obtain pj|ej|rfl:=MD h1;have hj:j < ps.9:=(aH.mp ej).1;have ejD:ps.4 j 0=pj:=by rw[aa,ej];rfl
  have pjn:pj < n:=by have:=rr.low j hj;rw[ejD] at this;show this
  have fr:bo R j a=row.4 a 0:=by unfold bo;rw[aa (l:=R),er];rfl
  have sr:aG H' (upd H' r (.tup [.int pj,.ref q])):=aG.new hr;have gr:(upd H' r (.tup [.int pj,.ref q])) r=some (.tup [.int pj,.ref q]):=aD;generalize upd H' r (.tup [.int pj,.ref q])=H3 at sr gr ⊢;have t!:=s'.3 sr;obtain us|gu|qu:=Rr.10 t!;obtain vx|ex|nx:=Jp qu (j:=a) ();exists b8 (bA.of gu) ex ?_;exists #[_,_,0,row.4 a 0,rfl,#[_,rfl,T._L _],nx,Bf,hz row mr _ (getD_in ()),λr4 H4 s4 n4=>?_];have ga4:=(sr.3 s4) _ _ ga;have gl4:=(sr.3 s4) _ _ gl;have la:=qa.9;rw[xC] at la;exists d7 ga4 (eN ()) rfl ?_;refine #[(t!.3 s4).40 na,by rw[aR anl];show gl4,_,_,_,rfl,aD,?_];rw[<- SQ RR hj hp,ejD,fr,show -(row.4 a 0)=0 - row.4 a 0 by grind];show jK (ce (λ_ _ z=>(cg.same z (sr.3 s4))._A ga4) qa) pj (n4._A ga4)
 ·rintro σ' H' ⟨s',gl,y1,y2,vs,rfl,ga,qa⟩;rw[lps] at qa;exists k an H' na s' #[vs,ga,qa]
theorem uR:sC ["rows","wide","leads"] 2 qT:=by walk_at "d"
theorem Cu (T:Txt K mg Z) (ac:bv P):T.lY.o P w base 3 (IB K):=by
 refine T.lY.F.k uR ?_;walk_at "i";obtain p|n|H0|R|ps|rfl|G|M!|N!|RR|k:=h
 refine #[_,(ao (eZ 2 uR.nd (cH (Ct T ac) hr T.pJ (cQ bI)))
  (av (aT (b6 ["place"] ["leads"] [2] (cu rfl T.38 (cQ cE)) (λ_=>(fA 0)) (λ_=>FR (bw (DB K (by rfl)) bI cE (by with_unfolding_all rfl))) (λ_=>bI))))),?_]
 left
 exists #[p,n,H0,R,ps,rfl,G,M!,N!,RR,λl H1 nl s1 g1=>?_];exists #[(),(),?_];refine tZ (n:=n) (λi ys H'=>aG H1 H'/\ys=eB (Ax ps i)) mH #[aG.refl _,rfl] ?_ ?_
 ·rintro i ys H' hi _y ⟨s',rfl⟩;rw[A9];exists #[l,eB ps,rfl,.inl (bA.of (s' _ _ g1)),rfl,NT,?_];rw[Qf];by_cases e:i∈ps
  ·rw[decide_eq_true e];exists #[s',?_];rw[CP,if_neg (by simpa using e)]
  ·rw[decide_eq_false e,show (if true=true then !false else false)=true from rfl];exists #[s',?_];rw[CP,if_pos e];unfold eB;rw[cY];rfl
 ·rintro ys H2 hy ⟨s2,rfl⟩ r hr;show k r _ (s1.19 (s2.19 hr)) ((s1.3 s2).3 (aG.new hr)) aD
theorem IH:sC ["rows","wide","basis"] 2 FH:=by walk_at "d"
theorem Jc (T:Txt K mg Z) (ac:bv P):T.vA.o P w base 6 (Eo K):=by
 refine T.vA.F.k IH ?_;walk_at "i";obtain p|n|w|H0|rows|R|ps|rfl|G|M!|N!|RR|F|szR|k:=h
 refine #[_,(ao (eZ 2 IH.nd (cH (tI T ac) hr T.kL (cI bI cE)))
  (av (aT (b6 ["at"] ["basis","wide"] [2,1] (cF (cH (Cu T ac) hr T.lY (cI eQ cE))) (λ_=>(fA 0)) (λ_=>cp) (λ_=>(cH (K5 T ac) hr T.tP (zC cE eQ bI))))))),?_]
 left
 exists #[p,n,w,H0,R,rfl,G,M!,N!,RR.2.1,F,λba R2 h! M H1 nb s1 G1 RR2 pm M0 M1 tM=>?_];obtain rfl|rfl:=RR2.10 (Mr RR);have pn:=RR.le;have lR:=RR.1;have fl:=Wi (ps:=h!) (i:=n);exists #[ba,n,H,R2,h!,rfl,G1,(),(),#[rows,RR],λfr H2 nf s2 g2=>?_];exists #[#[_,bA.of g2],?_];refine fo (K:=K) (xs:=eB (Ax h! n)) (λi ys H'=>aG H2 H'/\Y9 (cO K H H') ((Ax h! n).21 i |>.map (Ur R2 h! n)) ys) (dm (dn (by rw[CC];lia))) ⟨aG.refl _,.nil⟩ (λi ys H' _ ⟨s,_⟩=>bA.of (s _ _ g2)) ?_ ?_
 ·rintro i v ys H' hx _y ⟨s',pr⟩;obtain a|ea|rfl:=MD hx;obtain an|ap:=A1.mp (ai ea);have u!:=(s1.3 s2).3 s';exists #[ba,n,a,H,R2,h!,rfl,(G1.10 s2).10 s',(),(),#[rows,RR],an,ap,szR,λr H3 nr s3 R3=>?_];refine #[s'.3 s3,?_];rw[take_snoc ea,cY];show cm (ce (λ_ _ z=>cO.same z s3) pr) (.cons #[r,rfl,u!.19 nr,R3] .nil)
 ·rintro ys H3 hy ⟨s3,pr⟩ r hr;rw[aF (by rw[CC];show ah _)] at pr;have sn:aG H3 (upd H3 r (.lst ys)):=aG.new hr;have t!:=(s1.3 s2).3 s3;show k r _ (t!.19 hr) (t!.3 sn) #[ys,aD,ce (λ_ _ z=>cO.same z sn) pr,iW (H0:=H) (rows:=eU R2 h! n) #[H3,hr,pr]]
theorem oH:sC ["system","reach"] 1 kJ:=by walk_at "d"
theorem v8 (T:Txt K mg Z) (ac:bv P):T.dX.oX P w base 9 (O3 K Z._c Z._o):=by
 refine T.dX.F.kX oH ?_;walk_at "i";obtain x|a|c|H0|mv|pt|lk|rfl|S|D|KF|SW|k|ke:=h
 refine #[_,(ao (eZ 1 oH.nd (cH (wC T ac) hr T.kj (cI bI (ck bI rfl))))
  (av (dj (bw pC (a8 aS (by rfl) T.31 aK (cQ cE)) (ck bI rfl) (bx _)) (av (EC zX rfl (IX rfl T._H T.o! T.p! T.kp_NotSteered (tK T ac) (hr.24 ()) rfl T._T T.mJ (cQ (aN bC (cH (Jc T ac) hr T.vA (cI cE (ck bI rfl))) aj))))) b9))),?_]
 left
 obtain dx|am|ap|al|gx|m1|m2|m3|Gm|Gp|Gl:=id S;have d8:=D.n8;exists #[x,Z._c,dx,_,_,rfl,gx,T._e,T._k,cM,?_];exists #[x,a,c,mv.9,H0,mv,pt,lk,rfl,(),S,D,KF,λr R ps H1 nr s1 G1 RR=>?_];obtain xs|g1|q1|_:=id G1;have l1:=q1.9;have lR:=RR.1;have sh:=Pf RR;have gx1:=s1 _ _ gx;exists #[_,_,rfl,.inl (bA.of g1),?_];exists #[x,Z._c,dx,_,_,rfl,gx1,T._e,T._k,cM,?_];walk_at "w";rw[<- l1,lR];by_cases hf:ps.9 < mv.9
 rotate_left
 ·rw[decide_eq_false (show ¬((ps.9:Nat):Int) < ((mv.9:Nat):Int) by lia)];exists k R ps H1 s1 RR ()
 rw[decide_eq_true (show ((ps.9:Nat):Int) < ((mv.9:Nat):Int) by lia)];obtain ⟨w,F⟩|sz:=SW R ps RR;walk_at "w";unfold Fl KE;exists #[x,Z._c,dx,_,_,rfl,gx1,T._e,T._k,cM,?_];exists #[r,mv.9,w,_,_,R,ps,rfl,G1,(),(),RR,F,sz,λq H2 nq s2 G2=>?_];obtain zs|gz|qz|_:=id G2;have lz:=qz.9;have np:=NP (R:=R) hf;obtain ⟨v,ev⟩:∃v,zs[0]?=some v:=#[_,ae ()];obtain row|er|r0|rfl|n0|R0:=bW qz ev;have er':(eU R ps mv.9).4 0 []=row:=by rw[aa,er];rfl
 have s12:=s1.3 s2;exists b8 (bA.of gz) (dM (j:=0) ev) ?_;walk_at "w";intro e he;refine #[e,.ref r0,rfl,aD,λdq hd ne=>#[rfl,e,Z._o,_,some dq,rfl,aD,s12.19 he,T._H,?_]];have hd':H2 dq=none:=by rw[aR ne] at hd;show hd
 refine ke R ps r0 dq _ RR hf (BQ (s12.19 he) s12 hd') (s1.19 n0) ?_ (by rw[vD ne,aR ne,aD]);rw[er'];show R0.10 (BQ he (aG.refl _) hd')
theorem Ds:sC ["many"] 1 sR:=by walk_at "d"
theorem jg (T:Txt K mg Z) (ac:bv P):T.eL.o P w base 1 (U8 K):=by
 refine T.eL.F.k Ds ?_;walk_at "i";obtain m|rfl|hm|k:=h;refine #[_,(av (aT (b6 ["place"] [] [] (cu rfl T.38 (cQ bI)) (λ_=>(fA 0)) (λ_=>cp) (λ_=>(ng (v:=.ref Z._P) rfl T._M rfl))))),?_];left
 exists #[(),(),?_];refine iG (n:=m) (cg K) (λ_=>0) () (λa b=>a.10 b) ?_ ?_
 ·rintro i Ha NY NN hi sa k1;exists k1 _ _ (aG.refl _) #[_,rfl,T._L _]
 ·rintro ys H1 t ht s1 g1 pr _;show k t H1 ht s1 #[ys,g1,by rw[<- PY];show pr]
theorem BK:sC ["grid","wide"] 2 qS:=by walk_at "d"
theorem eT (T:Txt K mg Z) (ac:bv P):T.de.o P w base 1 (Ik K):=by
 refine T.de.F.k BK ?_;walk_at "i";obtain p|w|H0|rows|rfl|hp|hz|hw|hl|kk:=h;refine #[_,(av (aT (b6 ["place"] ["grid"] [0] (cu rfl T.38 (cQ cE)) (λ_=>(fA 0)) (λ_=>cp) (λ_=>(b6 ["line"] ["place"] [0] (Ca K cE) (λ_=>(fA 0)) (λ_=>cp) (λ_=>(aN (fI K (by rfl)) bI cE))))))),?_];left
 exists #[(),(),?_];refine iG (n:=w) (cO K H) (λj=>rows.12 λxs=>xs.4 j 0) hw (λa b=>a.10 b) ?_ ?_
 ·rintro j H1 NY NN hj s1 k1;obtain xs|gx|qx|_:=hp.10 s1;exists #[#[_,bA.of gx],?_];refine dw (K:=K) (F:=cO K H0) (cg K) (λxs=>xs.4 j 0) gx qx hz (λa b=>a.10 b) (λa b=>a.10 b) ?_ ?_
  ·rintro i ns x H2 NY2 NN2 en s2 ⟨u,rfl,_,zs,gz,qz⟩ k2;obtain v|ev|hv:=Jp qz (j:=j) (by rw[hl ns (ai en)];show hj);exists b8 (bA.of gz) ev ?_;show k2 _ _ (aG.refl _) hv
  ·rintro b! H2 r hr s2 g pr nx;show k1 _ _ s2 #[r,rfl,s1.19 hr,b!,g,pr]
 ·rintro b! H1 r hr s1 g pr nx;show kk r H1 hr s1 #[b!,g,pr,iW nx]
theorem Dv:sC ["rows","wide"] 2 sS:=by walk_at "d"
theorem DC (T:Txt K mg Z) (ac:bv P):T.nC.o P w base 5 (Mi K):=by
 refine T.nC.F.k Dv ?_;walk_at "i";obtain p|n|w|H0|rows|rfl|G|M!|N!|hw|F|k:=h;refine #[_,(av (aT (aN bN (cH (Ja T ac) hr T.vz (cI (cH (eT T ac) hr T.de (cI bI cE)) (a8 aS (by rfl) T.31 aK (cQ bI)))) aj))),?_];left
 obtain xs|gx|qx|_:=id G;have lx:=qx.9;have lt:(a9 rows n).9=n:=kS;exists #[p,n,H0,rows,rfl,G,(),(),hw,λr H1 nr s1 G1=>?_];exists #[_,_,rfl,.inl (bA.of (s1 _ _ gx)),?_];rw[<- lx];exists #[r,rows.9,w,_,a9 rows n,rfl,G1,(),M!,λys hy=>?_,F,λt lp qp R ps d ls H2 gt gq G2 s2 S=>?_]
 ·unfold a9 at hy;obtain i|_|rfl:=au.mp hy;rw[af]
 exists k qp R ps H2 (s1.3 s2) gq S.rr
theorem o8:sC ["system","states","steps","first"] 2 qR:=by walk_at "d"
theorem Cr (T:Txt K mg Z) (ac:bv P):T.lX.o P w base 7 (Iw K Z._c):=by
 refine T.lX.F.k o8 ?_;walk_at "i";obtain x|p|w|H0|H1|mv|pt|lk|_h|_p|Rk|pk|rfl|S|D|G|C|kn|KR|full|F2|SW|k:=h
 refine #[_,(ao (eZ 2 o8.nd (bB rh cE (cH (wD T ac) hr T.kl (cI bI (pA sJ cE (tw (uj oi aj)) tx)))))
  (ao (eZ 3 o8.nd (a8 (E2 rfl) (by rfl) T.min ZH (cQ (b6 ["place"] ["states"] [1] (cF (cH (DC T ac) hr T.nC (cI (bB rh eQ (ck bI rfl)) (ck bI rfl)))) (λ_=>(fA 0)) (λ_=>FR (bw Ab bI (a8 (rB K (by rfl)) (by rfl) T.31 aK (cQ cE)) (bx _))) (λ_=>bI)))))
  (ao (dj (bw pC kb (a8 aS (by rfl) T.31 aK (cQ eQ)) (bx _)) (av (aT (cH (jg T ac) hr T.eL (cQ (ck bI rfl))))) b9)
  (av (aT (cH (Ac T ac) hr T.nV (cI (ck bI rfl) (bB lK kb (a8 aS (by rfl) T.31 aK (cQ eQ)))))))))),?_]
 left
 obtain dx|am|ap|al|gx|m1|m2|m3|Gm|Gp|Gl:=id S;obtain xs|gs|qs|_:=id G.any;have lx:=qs.9;have ls:=C.31;have d8:=D.n8;have i4:=D.i4
 have lw:(_h.4 _p.9 []).9=mv.9:=by
  rw[aa,ae ()];show C.51 _ (aw _)
 exists zx (bA.of gs) λl1 Ha sa na ga=>?_
 rw[Oi (show xs.9=_p.9+1 by lia)] at ga;have qd:=ni qs _p.9;rw[Lp ls] at qd;have Ga:bf K (λ_=>none) Ha l1 [_h.4 _p.9 []]:=#[_,ga,ce (λ_ _ z=>z.10 sa) qd,iW #[_,na,qd]];exists #[x,l1,_,_,mv,pt,lk,_,rfl,S.10 sa,D,Ga,(show 1<=100 by decide),λr hr=>by rw[aM.mp hr];show lw,λys hy r hr=>by rw[aM.mp hr];show F2 ys hy,λr Hb nb sb Gb=>?_];obtain ys|gy|qy|_:=id Gb.any;have ly:ys.9=1:=qy.length.26;have sab:=sa.3 sb;exists rd (sab _ _ gs) gy mH λl2 Hc sc nc gc=>?_
 have sac:=sab.3 sc;have gxc:=sac _ _ gx;obtain zs|gz|qz|_:=id (Gp.10 sac).any;have lz:=qz.9;exists #[x,Z._c,dx,_,_,rfl,gxc,T._e,T.a!,vU,?_];exists rd gc gz (dm (dn (by rw[ar];lia))) λl3 Hd sd nd gd=>?_
 have sad:=sac.3 sd;have gxd:=sad _ _ gx;have q3:Y9 (cO K (λ_=>none) Hc) (_h++[il mv (_h.4 _p.9 [])]++pt) (xs++ys++zs):=cm (cm (ce (λ_ _ z=>z.10 sac) qs) (ce (λ_ _ z=>z.10 sc) qy)) qz;have Gd:bf K (λ_=>none) Hd l3 (_h++[il mv (_h.4 _p.9 [])]++pt):=#[_,gd,ce (λ_ _ z=>z.10 sd) q3,iW #[_,nd,q3]];rw[cv,List.singleton_append] at Gd;generalize hr:_h++(il mv (_h.4 _p.9 []) :: pt)=rows at Gd SW;have lr:rows.9=_h.9+1+pt.9:=by rw[<- hr];simp;lia
 have hw:∀xs∈rows,xs.9=mv.9:=λxs hx=>by
  rw[<- hr] at hx;rcases aB.mp hx with hx | hx
  ·show C.51 xs hx
  ·rcases ax.mp hx with rfl | hx
   ·show tE
   ·show D.pw xs hx
 exists #[x,Z._c,dx,_,_,rfl,gxd,T._e,T._k,cM,?_];exists #[l3,mv.9,w,_,rows,rfl,Gd,(),(),hw,SW,λq R ps He se ge RR=>?_];have sae:=sad.3 se;have gse:=sae _ _ gs;exists #[#[_,bA.of ge],?_];have ln:(a9 rows mv.9).9=mv.9:=kS;have lps:(eB ps).9=ps.9:=af ..
 have kp:ps.9<=rows.9:=by
  have inc:∀j,j < ps.9->j<=ps.4 j 0:=by
   intro j
   induction j with
   | zero=>intro _;show aW _
   | succ j ih =>
    intro hj;have:=ih ();have:=RR.2.2.inc j (j+1) () hj
    lia
  rcases dE ps.9 with z | z
  ·lia
  ·have h1:=inc (ps.9 - 1) ();have h2:=RR.2.2.low (ps.9 - 1) ()
   lia
 obtain t1|ht1|hf1:=SV D.mw D.pw KR full C kn hr.26 RR ln;refine fo (K:=K) (a:=q) (xs:=eB ps) (λi ys H'=>H'=He/\ys=((ps.21 i).filter (_h.9<=·)).12 λp=>V.int ((p:Nat):Int)) mH #[rfl,rfl] (λi ys H' _ #[e,_]=>by rw[e];show bA.of ge) ?_ ?_
 ·rintro i v ys H' hv _y ⟨rfl,rfl⟩;unfold eB at hv;rw[az] at hv;cases ep:ps[i]? with
  | none=>rw[ep] at hv;cases hv
  | some pi =>
  rw[ep] at hv;cases hv;exists #[_,_,rfl,.inl (bA.of gse),?_];walk_at "w";rw[take_snoc ep,wV,cY];by_cases h:_h.9<=pi
  ·rw[decide_eq_true (show ((xs.9:Nat):Int)<=((pi:Nat):Int) by lia)];exists #[rfl,?_];rw[show [pi].filter (_h.9<=·)=[pi] by simp [h]];rfl
  ·rw[decide_eq_false (show ¬((xs.9:Nat):Int)<=((pi:Nat):Int) by lia)];exists #[rfl,?_];rw[show [pi].filter (_h.9<=·)=[] by simp;lia];simp
 rintro b! Hf hy ⟨rfl,rfl⟩ l4 n4;rw[lps,List.take_length];have s4:aG Hf (upd Hf l4 (.lst ((ps.filter (_h.9<=·)).12 λp=>V.int ((p:Nat):Int)))):=aG.new n4;have g4:(upd Hf l4 (.lst ((ps.filter (_h.9<=·)).12 λp=>V.int ((p:Nat):Int)))) l4=some (.lst ((ps.filter (_h.9<=·)).12 λp=>V.int ((p:Nat):Int))):=aD;generalize upd Hf l4 (.lst ((ps.filter (_h.9<=·)).12 λp=>V.int ((p:Nat):Int)))=Hg at s4 g4 ⊢;have sag:=sae.3 s4;exists #[l4,(ps.filter (_h.9<=·)).12 λp=>((p:Nat):Int),rfl,bA.of (by rw[g4,jA];rfl),?_,λM hM acs=>?_]
 ·rw[af];refine A7 (a:=ps.4 t1 0) (ib.mpr #[?_,by simpa using hf1]);rw[aa,ae ht1];show aw _
 obtain t0|ht0|rfl|hf0:=Sx hM
 have hm:∀t,t < ps.9->_h.9<=ps.4 t 0->ps.4 t0 0<=ps.4 t 0:=λt ht h=>by
  have:=acs ((ps.4 t 0:Nat):Int) (au.mpr #[_,ib.mpr #[by rw[aa,ae ht];show aw _,by simpa using h],rfl])
  lia
 have lo0:=RR.2.2.low t0 ht0;have nx:=λ(pu s':List Rat) lp ls' hpu hs=>QX D.mw D.pw C hr.26 RR ln ht0 hf0 hm (pu:=pu) (s':=s') lp ls' hpu hs
 have gxg:=sag _ _ gx;have l2g:=(sd.3 se).3 s4;clear acs hM;generalize ps.4 t0 0=f at lo0 hf0 nx ⊢;exists #[_,_,rfl,.inl (bA.of (l2g _ _ gc)),?_];rw[ar,<- lx,ly];walk_at "w";by_cases e:f=_h.9
 ·rw[decide_eq_true (show ((f:Nat):Int) < ((_h.9+1:Nat):Int) by lia)];exists #[x,Z._c,dx,_,_,rfl,gxg,T._e,T.v!,xQ,?_];exists #[pt.9,rfl,(),λr Hh nh sh Rh=>?_];show k r _ Hh (sag.19 nh) (sag.3 sh) Rh bK (λz hz=>.inl (d5 hz)) λs' ls' hs=>nx _ s' bK ls' (.inl #[e,λl=>BW]) hs
 ·rw[decide_eq_false (show ¬((f:Nat):Int) < ((_h.9+1:Nat):Int) by lia)];exists #[x,Z._c,dx,_,_,rfl,gxg,T._e,T.v!,xQ,?_];exists #[_,_,rfl,.inl (bA.of (l2g _ _ gc)),?_];rw[ar,<- lx,ly];walk_at "w";obtain ⟨l,rfl⟩:∃l,f=_h.9+(1+l):=#[f - _h.9 - 1,()];rw[show ((_h.9+(1+l):Nat):Int) - ((_h.9+1:Nat):Int)=((l:Nat):Int) by lia];refine #[pt.9,_,rfl,(),λr Hh nh sh Rh=>?_];refine k r _ Hh (sag.19 nh) (sag.3 sh) Rh vT (λz hz=>?_) λs' ls' hs=>nx _ s' vT ls' (.inr #[l,(),rfl,λl'=>?_]) hs
  ·unfold nQ at hz;obtain i|_|rfl:=au.mp hz
   split
   ·show .inr rfl
   ·show .inl rfl
  ·show ON ()
theorem ug:sC ["self","state","puts","columns"] 3 iB:=by walk_at "d"
theorem uq (T:Txt K mg Z) (ac:bv P):kB P w K mg base Eb 5 Z.pS Z.pL ["self","state","puts"] (Et K Z._c):=by
 refine T.vO.k ug ?_;walk_at "i";obtain x|p|q|H0|mv|pt|lk|st|pu|rfl|S|D|F|hp|hq|l1|l2|fs|k:=h
 refine #[_,(ao (eZ 3 ug.nd (cH (eT T ac) hr T.de (cI (ck bI rfl) (ck bI rfl))))
  (av (aT (b6 ["line","column"] ["state","puts"] [1,2] (qq rfl T.zip (cI (ck bI rfl) kb)) (λ_=>(kE K 2 (bZ (fA 0) (bZ (fA 1) gR)))) (λ_=>cp) (λ_=>(cH (Co T ac) hr T.jM (cI (bB rh bI cE) (bB rh eQ kb)))))))),?_]
 left
 obtain dx|a|b|c|gx|n1|n2|n3|Ga|Gb|Gc:=id S;have d1:=D.n8;have d2:=D.i4;exists #[x,Z._c,dx,_,_,rfl,gx,T._e,T.a!,vU,?_];exists #[x,Z._c,dx,_,_,rfl,gx,T._e,T._k,cM,?_];exists #[b,mv.9,H0,pt,rfl,Gb,(),(),D.pw,λt H1 nt s1 Gt=>?_];obtain as|ga|qa|_:=Ga.10 s1;obtain ts|gt|qt|_:=id Gt;have la:=qa.9;have lt:=qt.9;rw[cz] at lt;have gx1:=s1 _ _ gx;exists #[x,Z._c,dx,_,_,rfl,gx1,T._e,T._Q,uO,?_];exists #[#[_,bA.of ga],#[_,bA.of gt],?_];refine pO (K:=K) (xs:=as) (ws:=ts) (λi ys H'=>aG H1 H'/\Y9 (cg K H') ((c7 mv pt st pu).21 i) ys) mH () #[aG.refl _,.nil] (λi ys H' _ #[s,_]=>#[bA.of (s _ _ ga),bA.of (s _ _ gt)]) ?_ ?_
 ·rintro i v1 v2 ys H' r h1 h2 hy ⟨s,pr⟩ hr;obtain line|el|u1|rfl|_|R1:=bW qa h1;obtain col|ec|u2|rfl|_|R2:=bW qt h2;have ml:=ai el;have mc:=ai ec;have sr:aG H' (upd H' r (.tup [.ref u1,.ref u2])):=aG.new hr;have gr:(upd H' r (.tup [.ref u1,.ref u2])) r=some (.tup [.ref u1,.ref u2]):=aD;have s2:=s.3 sr;generalize upd H' r (.tup [.ref u1,.ref u2])=H2 at sr gr s2 ⊢;have lc:col.9=pt.9:=i5 col mc;have ll:line.9=mv.9:=D.mw line ml;obtain z1|g1|q1:=R1.10 s2;obtain z2|g2|q2:=R2.same s2;have y1:=q1.9;have y2:=q2.9;exists rd g1 g2 mH λc1 H3 s3 n3' g3=>?_
  have s13:=s2.3 s3;obtain z3|g4|q3:=(hp.10 s1).10 s13;obtain z4|g5|q4:=(hq.10 s1).10 s13;have y3:=q3.9;have y4:=q4.9;exists rd g4 g5 mH λc2 H4 s4 n4 g6=>?_
  have s34:=s3.3 s4;exists #[c1,c2,line++col,st++pu,rfl,#[_,s4 _ _ g3,ce (λ_ _ z=>z.10 s34) (cm q1 q2)],#[_,g6,ce (λ_ _ z=>z.10 s4) (cm q3 q4)],by rw[ar,ar];lia,by rw[ar];lia,.sys ?_ fs,λr2 H5 s5 h5=>?_]
  ·refine F.fits λy hy=>?_
   rcases aB.mp hy with hy | hy
   ·show .inl #[line,ml,hy]
   ·obtain j|_|rfl:=au.mp mc;obtain xs|hx|rfl:=au.mp hy;by_cases hj:j < xs.9
    ·refine .inr (.inl #[xs,hx,?_]);rw[aa,ae hj];show aw hj
    ·show .inr (.inr (.inr (by rw[aa,aA ()];rfl)))
  ·have em:(c7 mv pt st pu)[i]?=some (fe (line++col) (st++pu)):=by
    unfold c7;rw[bh,el,ec]
   refine #[((s2.3 s34).3 s5),?_];rw[take_snoc em];show cm (ce (λ_ _ z=>(z.10 (sr.3 s34)).10 s5) pr) (.cons h5 .nil)
 ·rintro ys H' hy ⟨s,pr⟩ l hl;have lm:(c7 mv pt st pu).9=mv.9:=by unfold c7;rw[aJ,cz];lia
  rw[aF ()] at pr;show k l _ (s1.19 (s.19 hl)) ((s1.3 s).3 (aG.new hl)) #[ys,aD,ce (λ_ _ z=>z.10 (aG.new hl)) pr]
theorem xV:sC ["system","states","puts","step"] 1 FJ:=by walk_at "d"
theorem PJ (T:Txt K mg Z) (ac:bv P):T.yt.o P w base 8 (ID K Z._c):=by
 refine T.yt.F.k xV ?_;walk_at "i";obtain x|H0|mv|pt|lk|Rk|pk|rfl|S|D|SF|KR|full|CS|k:=h
 refine #[_,(ao (eZ 1 xV.nd (fB (cQ (cH (jg T ac) hr T.eL (cQ (ck bI rfl))))))
  (ao (eZ 2 xV.nd (fB lJ))
  (ao (fw Zb rfl (cu rfl T.38 (cQ (ck bI rfl))) (fA 3 xV.nd)
   (ao (jv (yd cZ cS cR jQ eQ (cQ (cH (Cr T ac) hr T.lX (cI bI cE)))))
  (av (jv (yd cZ cS cR jQ cE (cQ (yc bI T._e T.ou (uq T ac) (hr.24 ()) T.pP .nil uk (cI (aN bC cE (uj oi aj)) (aN bC eQ (uj oi aj))))))))))
  (av (aT (dh (cI cE (bB rh eQ (fB (cQ (cH (jg T ac) hr T.eL (cQ (ck bI rfl))))))))))))),?_]
 left
 obtain dx|am|ap|al|gx|m1|m2|m3|Gm|Gp|Gl:=id S;have d8:=D.n8;have i4:=D.i4;exists #[x,Z._c,dx,_,_,rfl,gx,T._e,T._k,cM,?_];exists #[mv.9,rfl,(),λr0 H1 n0 s1 R0=>?_];exists dC λa H2 s2 na ga=>?_
 exists dC λb H3 s3 nb gb=>?_
 have t!:=(s1.3 s2).3 s3;have gx3:=t! _ _ gx;have ga3:=s3 _ _ ga;have ab:a≠b:=λz=>by rw[<- z,ga] at nb;cases nb
 have Ha0:H a=none:=s1.19 na;have Hb0:H b=none:=(s1.3 s2).19 nb;obtain zs0|gz0|_:=id R0;have r0a:r0≠a:=λz=>by rw[<- z,gz0] at na;cases na
 have r0b:r0≠b:=λz=>by rw[<- z,s2 _ _ gz0] at nb;cases nb
 exists #[x,Z._c,dx,_,_,rfl,gx3,T._e,T._k,cM,?_];exists #[(),(),?_];refine eF (n:=mv.9) (λj σ' H'=>aG H H'/\∃xs ys _h _p y,σ'=[some (.ref x),some (.ref a),some (.ref b),y]/\H' a=some (.lst xs)/\H' b=some (.lst ys)/\Y9 (rT K (λq=>H q=none/\q≠a/\q≠b) H') _h xs/\Y9 (rT K (λq=>H q=none/\q≠a/\q≠b) H') _p ys/\Kq mv pt _h _p/\_p.9=j/\∀pu∈_p,∀z∈pu,z=0\/z=1) #[t!,[.ref r0],[],[Wb mv.9 0],[],none,rfl,ga3,gb,.cons #[r0,rfl,#[n0,r0a,r0b],(R0.10 s2).10 s3] .nil,.nil,QV,rfl,(λ_ h=>nomatch h)] ?_ ?_
 ·rintro j σ' H' hj ⟨s',xs,ys,_h,_p,y,rfl,ga',gb',pa,pb,C,lj,z01⟩;have lxs:=pa.9;have lys:=pb.9;have lC:=C.31;obtain F2|⟨w,SW⟩|FN:=CS _h _p C z01 ()
  have lst:(_h.4 _p.9 []).9=mv.9:=by
   rw[aa,ae ()];show C.51 _ (aw _)
  exists #[.inl #[rfl,_,bA.of gb'],?_];exists #[x,a,w,_,H,mv,pt,lk,_h,_p,Rk,pk,rfl,S.10 s',D,bf.ofE ga' pa (λq h=>h.1) (λq h=>h.2.1),C,(),KR,full,F2,SW,λr pu Hc nr sc Rr lp z1 nx=>?_];have gbc:=sc _ _ gb';have gac:=sc _ _ ga';obtain zs1|gz1|_:=id Rr;have ra:r≠a:=λz=>by rw[z,ga'] at nr;cases nr
  have rb:r≠b:=λz=>by rw[z,gb'] at nr;cases nr
  exists jO gbc (dn ()) ?_;have gad:(upd Hc b (.lst (ys++[.ref r]))) a=some (.lst xs):=by rw[aR ab];show gac
  have gbd:(upd Hc b (.lst (ys++[.ref r]))) b=some (.lst (ys++[.ref r])):=aD;have sd:aG H (upd Hc b (.lst (ys++[.ref r]))):=(s'.3 sc).40 Hb0;have pad:=ce (λ_ _ z=>rT._A (o:=.lst (ys++[.ref r])) (rT.same z sc) gbc (λq h=>h.2.2)) pa;have pbd:=cm (ce (λ_ _ z=>rT._A (o:=.lst (ys++[.ref r])) (rT.same z sc) gbc (λq h=>h.2.2)) pb) (.cons (rT._A (o:=.lst (ys++[.ref r])) (P:=λq=>H q=none/\q≠a/\q≠b) #[r,rfl,#[s'.19 nr,ra,rb],Rr] gbc (λq h=>h.2.2)) .nil);have Rrd:cA K (upd Hc b (.lst (ys++[.ref r]))) r pu:=Rr._A gbc rb;generalize upd Hc b (.lst (ys++[.ref r]))=Hd at gad gbd sd pad pbd Rrd ⊢;exists #[.inl #[rfl,_,bA.of gad],?_];obtain ⟨v,ev⟩:∃v,xs[_p.9]?=some v:=#[_,ae ()];obtain st|est|q|rfl|hq|Rq:=bW pad ev;have afP:_h.4 _p.9 []=st:=by rw[aa,est];rfl
  rw[afP] at lst FN;exists #[x,dx,_,rfl,sd _ _ gx,Eg,?_];exists b8 (bA.of gad) (C3 () ev) ?_;exists b8 (bA.of gbd) (C3 (k:=ys.9) (by rw[ar];rfl) (by rw[bG (ah _),kG];rfl)) ?_;exists #[x,q,r,_,mv,pt,lk,st,pu,rfl,S.10 sd,D,SF,Rq,Rrd,lst,lp,FN pu z1,λr2 He n2 se R2=>?_];have pbd:Y9 (rT K (λq=>H q=none/\q≠a/\q≠b) Hd) (_p++[pu]) (ys++[.ref r]):=pbd;have gae:=se _ _ gad;have gbe:=se _ _ gbd;have r2a:r2≠a:=λz=>by rw[z,gad] at n2;cases n2
  have r2b:r2≠b:=λz=>by rw[z,gbd] at n2;cases n2
  exists jO gae (dn ()) ?_;exists #[(sd.3 se).40 Ha0,xs++[.ref r2],ys++[.ref r],_h++[c7 mv pt st pu],_p++[pu],_,rfl,aD,by rw[aR ab.26];show gbe,cm (ce (λ_ _ z=>rT._A (rT.same z se) gae (λq h=>h.2.1)) pad) (.cons (rT._A (P:=λq=>H q=none/\q≠a/\q≠b) #[r2,rfl,#[sd.19 n2,r2a,r2b],R2] gae (λq h=>h.2.1)) .nil),ce (λ_ _ z=>rT._A (rT.same z se) gae (λq h=>h.2.1)) pbd,nx _ (tO D) (λc=>?_),by rw[ar,lj];rfl,λp' hp=>?_]
  ·rw[NU D lst lp c];unfold bo;rw[afP]
  ·rcases aB.mp hp with hp | hp
   ·show z01 p' hp
   ·rw[aM.mp hp];show z1
 ·rintro σ' H' ⟨s',xs,ys,_h,_p,y,rfl,ga',gb',pa,pb,C,lj,z01⟩;have lys:=pb.9;have gx':=s' _ _ gx;exists #[x,Z._c,dx,_,_,rfl,gx',T._e,T.v!,xQ,?_];exists #[pt.9,rfl,(),λr Hc nr sc Rr=>?_];exists dC λl Hd sd nl gl=>?_
  exists rd ((sc.3 sd) _ _ gb') gl (dm (dn (show ys.9+1<=_ by lia))) λl2 He se n2 ge=>?_
  exists cB λt Hf sf gf=>?_
  have scf:=((sc.3 sd).3 se).3 sf;have q3:Y9 (cO K H Hd) (_p++[Wb pt.9 0]) (ys++[.ref r]):=cm (ce (λ_ _ #[q,e,h,R]=>#[q,e,h.1,R.10 (sc.3 sd)]) pb) (.cons #[r,rfl,s'.19 nr,Rr.10 sd] .nil);show k t a l2 _h _p Hf (s'.3 scf) gf ((bf.ofE ga' pa (λq h=>h.1) (λq h=>h.2.1)).10 scf) #[_,sf _ _ ge,ce (λ_ _ z=>z.10 (se.3 sf)) q3,iW #[_,n2,q3]] C lj z01
theorem Fx:sC ["one","other"] 2 uX:=by walk_at "d"
theorem tH (T:Txt K mg Z) (ac:bv P):T.jS.o P w base 4 (yV K):=by
 refine T.jS.F.k Fx ?_;walk_at "i";obtain p|q|xq|yq|rfl|hp|hq|hl|hz|hn|hm|k:=h;refine #[_,(av (aT (b6 ["mine","yours"] [] [] (qq rfl T.zip (cI bI cE)) (λ_=>(kE K 2 (bZ (fA 0) (bZ (fA 1) gR)))) (λ_=>cp) (λ_=>(cH (Jd T ac) hr T.vB (cI bI cE)))))),?_];left
 obtain xs|gx|qx:=id hp;obtain ys|gy|qy:=id hq;have lx:=qx.9;have ly:=qy.9;exists #[#[_,bA.of gx],#[_,bA.of gy],?_];refine pO (K:=K) (xs:=xs) (ws:=ys) (λi zs H'=>aG H H'/\Y9 (cg K H') ((Wv (λx y=>x - y) xq yq).21 i) zs) mH () #[aG.refl _,.nil] (λi zs H' _ #[s,_]=>#[bA.of (s _ _ gx),bA.of (s _ _ gy)]) ?_ ?_
 ·rintro i x y zs H' r hx hy _y ⟨s,hP⟩ hr;obtain n|en|hn1:=bW qx hx;obtain m|em|hm1:=bW qy hy;have s1:=aG.new (o:=.tup [x,y]) hr;have s01:=s.3 s1;have gr:(upd H' r (.tup [x,y])) r=some (.tup [x,y]):=aD;generalize upd H' r (.tup [x,y])=Hr at s1 s01 gr ⊢;exists #[_,_,n,m,rfl,hn1.10 s01,hm1.10 s01,hn n (ai en),hm m (ai em),λr3 H3 s3 h3=>?_];refine #[s01.3 s3,?_];have ez:(Wv (λx y=>x - y) xq yq)[i]?=some (n - m):=by rw[bh,en,em]
  rw[take_snoc ez];show cm (ce (λ_ _ z=>z.10 (s1.3 s3)) hP) (.cons h3 .nil)
 ·rintro zs H' hy ⟨s,hP⟩ l K!;rw[aF (by rw[aJ];lia)] at hP;show k l _ (s.19 K!) (s.3 (aG.new K!)) #[zs,aD,ce (λ_ _ z=>z.10 (aG.new K!)) hP]
theorem m9:sC ["one","other","wide","columns"] 3 sU:=by walk_at "d"
theorem DD (T:Txt K mg Z) (ac:bv P):T.ie.o P w base 6 (Bx K):=by
 refine T.ie.F.k m9 ?_;walk_at "i";obtain p|q|w|H0|H1|one|other|rfl|hp|hq|z1|z2|hw|h1|h2|kk:=h
 refine #[_,(ao (eZ 3 m9.nd (cH (eT T ac) hr T.de (cI cE eQ)))
  (av (aT (b6 ["line"] ["columns"] [3] (cF bI) (λ_=>(fA 0)) (λ_=>cp) (λ_=>(cH (pG T ac) hr T.gi (cI cE bI))))))),?_]
 left
 exists #[q,w,H1,other,rfl,hq,z2,hw,h2,λc H2 nc s2 hc=>?_];obtain xs|gx|qx|_:=hp.10 s2;exists #[#[_,bA.of gx],?_];refine dw (K:=K) (F:=cO K H0) (cO K H) (λxs=>(a9 other w).12 λys=>fe ys xs) gx qx z1 (λa b=>a.10 b) (λa b=>a.10 b) ?_ ?_
 ·rintro i ns x H3 NY NN en s3 ⟨u,rfl,_,hu⟩ k;obtain e1|e2:=h1 ns (ai en);exists #[c,u,H,a9 other w,ns,rfl,hc.10 s3,hu,by simp [a9];lia,(),λys hy=>#[?_,e2 ys hy],λr H4 nr s4 hr=>k _ _ s4 #[r,rfl,s2.19 (s3.19 nr),hr]];obtain j|_|rfl:=au.mp hy;rw[af];show e1.26
 ·rintro b! H3 r hr s3 g pr nx;show kk r H3 (s2.19 hr) (s2.3 s3) #[b!,g,pr,iW nx]
theorem Dp:sC ["system","rows"] 2 sP:=by walk_at "d"
theorem FY (T:Txt K mg Z) (ac:bv P):T.jM.o P w base 4 (Mm K):=by
 refine T.jM.F.k jH ?_;walk_at "i";obtain p|q|xs|ys|rfl|hp|hq|hl|hz|⟨⟨M,h1⟩,⟨N,h2⟩⟩|kk:=h
 refine #[_,(ao (eZ 2 jH.nd (cH (iD T ac) hr T.dJ (cQ bI)))
  (ao (eZ 3 jH.nd (cH (iD T ac) hr T.dJ (cQ cE)))
  (ao (eZ 4 jH.nd (Cc rfl T.32 rfl T.zip (cI (cH (lO T ac) hr T.gU (cI bI eQ)) (cH (lO T ac) hr T.gU (cI cE kb)))))
  (av (aT (cH (oY T ac) hr T.jT (cI (a8 (JU rfl) (by rfl) T.sum PyProof.Rows.boot_sum (cQ (b6 ["mine","yours"] [] [] (cF rX) (λ_=>(kE K 2 (bZ (fA 0) (bZ (fA 1) gR)))) (λ_=>cp) (λ_=>(bB cG bI cE))))) (bB cG eQ kb)))))))),?_]
 left
 replace hp:=hp.aaF;replace hq:=hq.aaF;replace hl:(ys.12 nm).9=(xs.12 nm).9:=by simpa using hl
 replace hz:(xs.12 nm).9<=1000:=by simpa using hz
 obtain b1|s1:=h1.bot;obtain b2|s2:=h2.bot;have k2:∀r H',aG H H'->H' r=some (.tup [.int (lo (Lr (xs.12 nm) (ys.12 nm)) (fJ (xs.12 nm)*fJ (ys.12 nm))),.int (hi (Lr (xs.12 nm) (ys.12 nm)) (fJ (xs.12 nm)*fJ (ys.12 nm)))])->Q (.ref r) H':=λr H' s g=>kk r H' s (cg.mk g (MW b1 b2))
 clear kk;generalize xs.12 nm=ns at hp hq hl hz h1 h2 b1 b2 s1 s2 k2;generalize ys.12 nm=ms at hp hq hl hz h1 h2 b1 b2 s1 s2 k2;have hb:0 < fJ ns*fJ ms:=gJ b1 b2;exists #[p,ns,M,rfl,hp,hz,h1,λH1 t1=>?_];exists #[q,ms,N,rfl,hq.10 t1,(),h2,λH2 t2=>?_];have u2:=t1.3 t2;exists #[p,ns,M,_,rfl,hp.10 u2,hz,h1,b1,s1,λr1 H3 n3 t3 g3=>?_];exists #[q,ms,N,_,rfl,(hq.10 u2).10 t3,(),h2,b2,s2,λr2 H4 n4 t4 g4=>?_];exists #[r1,r2,_,_,rfl,bA.of (t4 _ _ g3),bA.of g4,by simp [dS,hl],λL ts H5 t5 n5 g5 pr=>?_];have lt:=pr.9;have ll:(dS ns (fJ ns)).9=ns.9:=by simp [dS]
 have lm:(dS ms (fJ ms)).9=ns.9:=by simp [dS,hl]
 rw[uH,af,af,ll,lm] at lt;exists #[#[_,bA.of g5],?_];refine fo (K:=K) (xs:=ts) (λi ys H'=>H'=H5/\ys=((Wv (λx y=>x*y) (dS ns (fJ ns)) (dS ms (fJ ms))).21 i).12 V.int) mH #[rfl,rfl] (λi ys H' _ #[e,_]=>by subst e;show bA.of g5) ?_ ?_
 ·rintro i x ys H' hx _y ⟨rfl,rfl⟩;obtain pq|epq|T|rfl|gT:=bW pr hx;obtain t|u|et|eu|rfl:=L7 epq;exists fZ (show fK _ _ from .inr #[_,_,xP h1 b1 s1 (ai et),xP h2 b2 s2 (ai eu),()]) ?_;have ez:(Wv (λx y=>x*y) (dS ns (fJ ns)) (dS ms (fJ ms)))[i]?=some (t*u):=by rw[bh,et,eu]
  show #[rfl,by rw[take_snoc ez];simp]
 ·rintro ys H' hy ⟨rfl,rfl⟩ l K!;exists #[l,Wv (λx y=>x*y) (dS ns (fJ ns)) (dS ms (fJ ms)),rfl,bA.of (by rw[aD,aF (by rw[aJ];lia)]),?_];exists fZ (show fK _ _ from .inr #[_,_,s1,s2,()]) ?_;exists #[_,_,rfl,(),(s1.mul s2).24 (),λr H6 t6 g6=>?_];rw[if_neg (),if_neg ()] at g6;show k2 r H6 ((((u2.3 t3).3 t4).3 t5).3 ((aG.new K!).3 t6)) g6
theorem F4 (T:Txt K mg Z) (ac:bv P):T.gi.o P w base 5 (Ml K):=by
 refine T.gi.F.k BL ?_;walk_at "i";obtain p|q|H0|rows|ys|rfl|hp|hq|hz|hl|hr1|kk:=h;refine #[_,(av (aT (b6 ["line"] ["row"] [1] (cF bI) (λ_=>(fA 0)) (λ_=>cp) (λ_=>(cH (FY T ac) hr T.jM (cI bI cE)))))),?_];left
 obtain xs|gx|qx|_:=id hp;exists #[#[_,bA.of gx],?_];refine dw (K:=K) (F:=cO K H0) (cg K) (λxs=>fe xs ys) gx qx hz (λa b=>a.10 b) (λa b=>a.10 b) ?_ ?_
 ·rintro i ns x H' NY NN en s ⟨u,rfl,_,hu⟩ k;obtain e1|e2:=hr1 ns (ai en);exists #[u,q,ns,ys,rfl,hu,hq.10 s,e1.26,(),e2,λr H2 s2 h2'=>k _ _ s2 h2']
 ·rintro b! H' r hr s g pr nx;show kk r H' hr s #[b!,g,pr]
theorem Ar (T:Txt K mg Z) (ac:bv P):T.ie.o P w base 6 (By K):=by
 refine T.ie.F.k m9 ?_;walk_at "i";obtain p|q|w|H0|H1|one|other|rfl|hp|hq|z1|z2|hw|h1|h2|kk:=h
 refine #[_,(ao (eZ 3 m9.nd (cH (eT T ac) hr T.de (cI cE eQ)))
  (av (aT (b6 ["line"] ["columns"] [3] (cF bI) (λ_=>(fA 0)) (λ_=>cp) (λ_=>(cH (F4 T ac) hr T.gi (cI cE bI))))))),?_]
 left
 exists #[q,w,H1,other,rfl,hq,z2,hw,h2,λc H2 nc s2 hc=>?_];obtain xs|gx|qx|_:=hp.10 s2;exists #[#[_,bA.of gx],?_];refine dw (K:=K) (F:=cO K H0) (cO K H) (λxs=>(a9 other w).12 λys=>fe ys xs) gx qx z1 (λa b=>a.10 b) (λa b=>a.10 b) ?_ ?_
 ·rintro i ns x H3 NY NN en s3 ⟨u,rfl,_,hu⟩ k;obtain e1|e2:=h1 ns (ai en);exists #[c,u,H,a9 other w,ns,rfl,hc.10 s3,hu,by simp [a9];lia,(),λys hy=>#[?_,e2 ys hy],λr H4 nr s4 hr=>k _ _ s4 #[r,rfl,s2.19 (s3.19 nr),hr]];obtain j|_|rfl:=au.mp hy;rw[af];show e1.26
 ·rintro b! H3 r hr s3 g pr nx;show kk r H3 (s2.19 hr) (s2.3 s3) #[b!,g,pr,iW nx]
theorem Ap (T:Txt K mg Z) (ac:bv P):T.nv.o P w base 7 (Ej K Z._c):=by
 refine T.nv.F.k Dp ?_;walk_at "i";obtain x|p|H0|H1|mv|pt|lk|N|rfl|S|D|GN|N!|hN|k:=h;refine #[_,(av (aT (cH (Ar T ac) hr T.ie (zC cE (ck bI rfl) (ck bI rfl))))),?_];left
 obtain dx|am|ap|al|gx|_|_|_|Gm|_|_:=id S;have d1:=D.n8;exists #[x,Z._c,dx,_,_,rfl,gx,T._e,T._Q,uO,?_];exists #[x,Z._c,dx,_,_,rfl,gx,T._e,T._k,cM,?_];exists #[p,am,mv.9,H1,H0,N,mv,rfl,GN,Gm,(),(),(),hN,D.mw,k]
theorem O8:sC ["one","other"] 2 FF:=by walk_at "d"
theorem PH (T:Txt K mg Z) (ac:bv P):T.yr.o P w base 3 (o6 K (λx y=>x*y)):=by
 refine T.yr.F.ok O8 (λvs H Q E h=>?_) (λ_I A outer s H vs Q E hr h=>?_)
 ·obtain p|q|a|b|c|d|rfl|hp|hq|hb|hd|sa|sb|sc|sd|k:=AV h;rfl
 ·obtain p|q|a|b|c|d|rfl|hp|hq|hb|hd|sa|sb|sc|sd|k:=AV h;refine #[_,(av (aT (cH (oY T ac) hr T.jT (cI (bB cG (aN bN bI aj) (aN bN cE aj)) (bB cG (aN bN bI aj) (aN bN cE aj)))))),?_];refine nR (σ:=[some (.ref p),some (.ref q)]) rfl ?_
  try rw[gP]
  have hbd:0 < b*d:=gJ hb hd;have sbd:Sz 8999000 (b*d):=(sb.mul sd).24 ();exists fZ (show fK _ _ from .inr #[_,_,sa,sc,()]) ?_;exists fZ (show fK _ _ from .inr #[_,_,sb,sd,()]) ?_;walk_at "w";exists #[_,_,rfl,(),sbd,λr H' s' h'=>?_];rw[if_neg (),if_neg ()] at h';show k r H' s' h'
theorem Fw:sC ["by","row"] 2 uW:=by walk_at "d"
theorem yg (T:Txt K mg Z) (ac:bv P):T.lV.o P w base 4 (KI K):=by
 refine T.lV.F.k Fw ?_;walk_at "i";obtain u|q|c|ys|rfl|hc|sc|hq|hz|h2|kk:=h;refine #[_,(av (aT (b6 ["value"] ["by"] [0] (cF cE) (λ_=>(fA 0)) (λ_=>cp) (λ_=>(cH (PH T ac) hr T.yr (cI cE bI)))))),?_];left
 obtain us|gu|qu:=id hq;exists #[#[_,bA.of gu],?_];refine dw (K:=K) (F:=cg K) (cg K) (λy=>c*y) gu qu hz (λa b=>a.10 b) (λa b=>a.10 b) ?_ ?_
 ·rintro i y x H' NY NN en s hx k;exists #[_,_,_,_,rfl,hc.10 s,hx,sc,h2 y (ai en),λr H2 s2 h2'=>k _ _ s2 h2']
 ·rintro b! H' r hr s g pr nx;show kk r H' hr s #[b!,g,pr]
theorem xW:sC ["system","row","wish","told","weight"] 3 FK:=by walk_at "d"
theorem PK (T:Txt K mg Z) (ac:bv P):T.yu.o P w base 8 (IE K Z._c):=by
 refine T.yu.F.k xW ?_;walk_at "i";obtain x|p|q|H0|mv|pt|lk|row|wish|rfl|S|D|Rp|lr|Rq|aiL|F|k:=h
 refine #[_,(ao (eZ 3 xW.nd cE)
  (ao (fw Zb rfl (VG rfl T.reversed (cQ eQ)) (fA 4 xW.nd)
   (av (eZ 3 xW.nd (cH (tH T ac) hr T.jS (cI (aN bC (cH (Ap T ac) hr T.nv (cI bI (fB (cQ kb)))) aj) (cH (yg T ac) hr T.lV (cI rX cE)))))))
  (av (aT kb)))),?_]
 left
 obtain ws|gw|qw:=id Rq;have lw:=qw.9;have d8:=D.n8;walk_at "w";unfold XZ;exists #[q,ws,rfl,bA.of gw,?_];refine Tc (K:=K) (a:=q) (xs:=ws) (λi σ' H'=>aG H H'/\∃r y,σ'=[some (.ref x),some (.ref p),some (.ref q),some (.ref r),y]/\cA K H' r (yP mv row wish i)) #[aG.refl _,p,_,rfl,Rp] (λi σ' H' _ #[s,_]=>bA.of (s _ _ gw)) ?_ ?_
 ·rintro i v σ' H' hi hv ⟨s',r,y,rfl,Rr⟩;obtain a|ea|hq:=bW qw hv;have ma:=ai ea;have ea':wish.4 (wish.9 - 1 - i) 0=a:=by rw[aa,lw,ea];rfl
  have ln:=zP (wish:=wish) lr i;exists dC λl H1 s1 nl gl=>?_
  have G1:bf K (λ_=>none) H1 l [yP mv row wish i]:=#[_,gl,.cons #[r,rfl,rfl,Rr.10 s1] .nil,λz=>by
   obtain zs|gz|_:=Rr;cases aM.mp z;rw[gz] at nl;cases nl]
  have s01:=s'.3 s1;exists #[x,l,_,_,mv,pt,lk,_,rfl,S.10 s01,D,G1,(show 1<=100 by decide),λxs hx=>?_,λt H2 nt s2 G2=>?_]
  ·rw[aM.mp hx];show #[ln,λys hy=>#[F.col ys hy,F.rw i ()]]
  obtain us|gu|qu|_:=id G2;have e2:jF [yP mv row wish i] mv mv.9=[Fj mv (yP mv row wish i)]:=rfl;rw[e2] at qu;cases qu with | cons hqu tqu=>?_
  cases tqu;obtain t1|et|_|Rt:=hqu;subst et;have u!:=s01.3 s2;exists #[_,p,a,row,rfl,?_,F.ws a ma,Rp.10 u!,(),F.rz,λt2 H3 n3 s3 R3=>?_]
  ·show hq.10 u!
  exists #[t1,t2,_,_,rfl,Rt.10 s3,R3,by rw[af,Fi,lr],by rw[Fi];lia,F.tk i (),λz hz=>?_,λt3 H4 n4 s4 R4=>?_]
  ·obtain y|hy|rfl:=au.mp hz;show F.mul a ma y hy
  exists #[(u!.3 s3).3 s4,t3,_,rfl,?_];change cA K H4 t3 (Wv (λx y=>x - y) (Fj mv (yP mv row wish i)) (row.12 λy=>wish.4 (wish.9 - 1 - i) 0*y))
  rw[ea'];show R4
 ·rintro σ' H' ⟨s',r,y,rfl,Rr⟩;walk_at "w";rw[<- lw] at Rr;show k r H' s' Rr
theorem RL:sC ["one","other"] 2 KQ:=by walk_at "d"
theorem SM (T:Txt K mg Z) (ac:bv P):T.AW.o P w base 3 (o6 K (λx y=>x+y)):=by
 refine T.AW.F.ok RL (λvs H Q E h=>?_) (λ_I A outer s H vs Q E hr h=>?_)
 ·obtain p|q|a|b|c|d|rfl|hp|hq|hb|hd|sa|sb|sc|sd|k:=A4 h;rfl
 ·obtain p|q|a|b|c|d|rfl|hp|hq|hb|hd|sa|sb|sc|sd|k:=A4 h;refine #[_,(av (aT (cH (oY T ac) hr T.jT (cI (bB fN (bB cG (aN bN bI aj) (aN bN cE aj)) (bB cG (aN bN cE aj) (aN bN bI aj))) (bB cG (aN bN bI aj) (aN bN cE aj)))))),?_];refine nR (σ:=[some (.ref p),some (.ref q)]) rfl ?_
  try rw[gP]
  have hbd:0 < b*d:=gJ hb hd;have sbd:Sz 8999000 (b*d):=(sb.mul sd).24 ();exists fZ (show fK _ _ from .inr #[_,_,sa,sd,()]) ?_;exists fZ (show fK _ _ from .inr #[_,_,sc,sb,()]) ?_;exists fZ (show fK _ _ from .inr #[_,_,sb,sd,()]) ?_;walk_at "w";exists #[_,_,rfl,(),sbd,λr H' s' h'=>?_];rw[if_neg (),if_neg ()] at h';show k r H' s' h'
theorem IG:sC ["one","other"] 2 xh:=by walk_at "d"
theorem Ad (T:Txt K mg Z) (ac:bv P):T.nW.o P w base 4 (Bs K):=by
 refine T.nW.F.k IG ?_;walk_at "i";obtain p|q|xs|ys|rfl|hp|hq|hl|anD|sx|sy|k:=h;refine #[_,(av (aT (b6 ["mine","yours"] [] [] (qq rfl T.zip (cI bI cE)) (λ_=>(kE K 2 (bZ (fA 0) (bZ (fA 1) gR)))) (λ_=>cp) (λ_=>(cH (SM T ac) hr T.AW (cI bI cE)))))),?_];left
 obtain us|gu|qu:=id hp;obtain ws|gw|qw:=id hq;have lu:=qu.9;have lw:=qw.9;exists #[#[_,bA.of gu],#[_,bA.of gw],?_];refine pO (K:=K) (xs:=us) (ws:=ws) (λi zs H'=>aG H H'/\Y9 (cg K H') ((Wv (λx y=>x+y) xs ys).21 i) zs) mH () #[aG.refl _,.nil] (λi zs H' _ #[s,_]=>#[bA.of (s _ _ gu),bA.of (s _ _ gw)]) ?_ ?_
 ·rintro i u w zs H' r hu hw _y ⟨s',pr⟩ hr;obtain x|ex|nx:=bW qu hu;obtain y|ey|ny:=bW qw hw;have sr:aG H' (upd H' r (.tup [u,w])):=aG.new hr;have gr:(upd H' r (.tup [u,w])) r=some (.tup [u,w]):=aD;generalize upd H' r (.tup [u,w])=H2 at sr gr ⊢;exists #[_,_,x,y,rfl,(nx.10 s').10 sr,(ny.10 s').10 sr,sx x (ai ex),sy y (ai ey),λr3 H3 s3 n3=>?_];refine #[(s'.3 sr).3 s3,?_];have ez:(Wv (λx y=>x+y) xs ys)[i]?=some (x+y):=by rw[bh,ex,ey]
  rw[take_snoc ez];show cm (ce (λ_ _ z=>cg.same z (sr.3 s3)) pr) (.cons n3 .nil)
 rintro zs H' hz ⟨s',pr⟩ l K!;rw[aF (by rw[aJ];lia)] at pr;show k l _ (s'.19 K!) (s'.3 (aG.new K!)) #[zs,aD,ce (λ_ _ z=>cg.same z (aG.new K!)) pr]
theorem yZ:sC ["system","rows","fed_back","move"] 2 BU:=by walk_at "d"
theorem NM (T:Txt K mg Z) (ac:bv P):T.vY.o P w base 7 (BH K Z._c):=by
 refine T.vY.F.k yZ ?_;walk_at "i";obtain x|p|H0|H1|mv|pt|lk|F|rfl|S|D|GF_|lF|wF|C|k:=h
 refine #[_,(ao (eZ 2 yZ.nd (cH (DD T ac) hr T.ie (zC (cH (eT T ac) hr T.de (cI (ck bI rfl) (ck bI rfl))) cE (ck bI rfl))))
  (ao (lI 3 ["line","more"] [] [] yZ.nd rfl rfl (qq rfl T.zip (cI (ck bI rfl) eQ)) (λ_=>(kE K 2 (bZ (fA 0) (bZ (fA 1) gR)))) (λ_=>cp) (λ_=>(cH (Ad T ac) hr T.nW (cI bI cE))))
  (av (aT (AR T.j! (kK T ac) (hr.24 ()) rfl T.k! T.jz .nil uk (zC kb (ck bI rfl) (ck bI rfl))))))),?_]
 left
 obtain dx|am|ap|al|gx|_|_|_|Gm|Gp|Gl:=id S;have d1:=D.n8;have d2:=D.i4;exists #[x,Z._c,dx,_,_,rfl,gx,T._e,T.a!,vU,?_];exists #[x,Z._c,dx,_,_,rfl,gx,T._e,T._k,cM,?_];exists #[ap,mv.9,H0,pt,rfl,Gp,(),(),D.pw,λtp H2 ntp s2 G2=>?_];have gx2:=s2 _ _ gx;exists #[x,Z._c,dx,_,_,rfl,gx2,T._e,T._k,cM,?_];exists #[tp,p,mv.9,H,H1,a9 pt mv.9,F,rfl,G2,GF_.10 s2,by rw[cz];lia,(),(),λxs hx=>#[by rw[i5 xs hx,lF],λys hy=>C.f2 xs hx ys hy],wF,λfb H3 nfb s3 G3=>?_];have s13:=s2.3 s3;have gx3:=s13 _ _ gx;obtain ms|gm|qm|_:=Gm.10 s13;obtain fs|gf|qf|_:=id G3;have lm:=qm.9;have lf:=qf.9;have lT:(jF (a9 pt mv.9) F mv.9).9=mv.9:=by unfold jF;rw[af,cz]
 have wT:∀xs∈jF (a9 pt mv.9) F mv.9,xs.9=mv.9:=λxs hx=>by
  obtain z|_|rfl:=au.mp hx;rw[af,cz]
 exists #[x,Z._c,dx,_,_,rfl,gx3,T._e,T._Q,uO,?_];exists #[#[_,bA.of gm],#[_,bA.of gf],?_];refine pO (K:=K) (xs:=ms) (ws:=fs) (λi ys H'=>aG H3 H'/\Y9 (cO K H H') ((Wv (λline more=>Wv (λx y=>x+y) line more) mv (jF (a9 pt mv.9) F mv.9)).21 i) ys) mH () #[aG.refl _,.nil] (λi ys H' _ #[s,_]=>#[bA.of (s _ _ gm),bA.of (s _ _ gf)]) ?_ ?_
 ·rintro i u w ys H4 r4 hu hw _y ⟨s4,pr4⟩ hr4;obtain line|el|qa|rfl|_|Ra:=bW qm hu;obtain more|em|qb|rfl|_|Rb:=bW qf hw;have ml:=ai el;have mm:=ai em;have sr:aG H4 (upd H4 r4 (.tup [.ref qa,.ref qb])):=aG.new hr4;have gr:(upd H4 r4 (.tup [.ref qa,.ref qb])) r4=some (.tup [.ref qa,.ref qb]):=aD;generalize upd H4 r4 (.tup [.ref qa,.ref qb])=H5 at sr gr ⊢;have s35:=s4.3 sr;exists #[qa,qb,line,more,rfl,Ra.10 s35,Rb.10 s35,by rw[wT more mm,D.mw line ml],by rw[D.mw line ml];lia,C.sm line ml,C.st more mm,λr6 H6 n6 s6 R6=>?_];refine #[s35.3 s6,?_];have ez:(Wv (λline more=>Wv (λx y=>x+y) line more) mv (jF (a9 pt mv.9) F mv.9))[i]?=some (Wv (λx y=>x+y) line more):=by rw[bh,el,em]
  rw[take_snoc ez];show cm (ce (λ_ _ z=>cO.same z (sr.3 s6)) pr4) (.cons #[r6,rfl,s13.19 (s35.19 n6),R6] .nil)
 rintro ys H4 hy ⟨s4,pr4⟩ mp hmp;have sn:aG H4 (upd H4 mp (.lst ys)):=aG.new hmp;have gn:(upd H4 mp (.lst ys)) mp=some (.lst ys):=aD;have nn:V.ref mp∉ys:=iW #[H4,hmp,pr4];rw[aF (by rw[aJ];lia),Tz D.mw lF] at pr4;generalize upd H4 mp (.lst ys)=H5 at sn gn ⊢;have GM:bf K H H5 mp (kZ mv pt F):=#[ys,gn,ce (λ_ _ z=>cO.same z sn) pr4,nn];have s15:=s13.3 (s4.3 sn);have gx5:=s15 _ _ gx;exists #[x,Z._c,dx,_,_,rfl,gx5,T._e,T.a!,vU,?_];exists #[x,Z._c,dx,_,_,rfl,gx5,T._e,T.i!,Bi,?_];walk_at "w";intro x2 dx2 nx ndx nex;have ok:=C.ok;show #[x2,dx2,mp,ap,al,H5,H,H0,H0,_,_,_,rfl,nx,ndx,nex,rfl,GM,Gp.10 s15,Gl.same s15,afZ.aeJ D,ok.1,ok.2.1,ok.2.2,λH' s' S'=>#[rfl,k x2 H' (s15.19 nx) (s15.3 s') (S'.53 s15)]]
theorem jG:sC ["system","wish","wide","found","last","lines","sides","rows","mend"] 2 zd:=by walk_at "d"
theorem Cm (T:Txt K mg Z) (ac:bv P):T.iP.oX P w base 10 (Io K Z._c Z._o):=by
 refine T.iP.F.kX jG ?_;walk_at "i";obtain x|q|a|c|H0|mv|pt|lk|wish|rfl|S|D|SF|KF|SW|CS|ST|Rq|lq|k|ke:=h
 refine #[_,(ao (jv (AU (v8 T ac) (hr.24 ()) rfl T.dX.m T.dX.F.kp T.dX.b .nil ye (cQ bI)))
  (ao (eZ 2 jG.nd (ck bI rfl))
  (ao (eZ 3 jG.nd (cH (PJ T ac) hr T.yt (cQ bI)))
  (ao (lI 4 ["step"] ["wide"] [2] jG.nd rfl rfl (cu rfl T.38 (cQ (bB fN eQ aj))) (λ_=>(fA 0)) (λ_=>cp) (λ_=>(fB (cQ (IY (bw gH bI cE (bx _)) (ng (v:=.ref Z.abg) rfl T.aaT rfl) (ng (v:=.ref Z._P) rfl T._M rfl))))))
  (ao (lI 5 ["state","given","end"] [] [] jG.nd rfl rfl (Sy rfl T.zip (zC (aN bN kb aj) (aN bN kb aj) rX)) (λ_=>(kE K 3 (bZ (fA 0) (bZ (fA 1) (bZ (fA 2) gR))))) (λ_=>cp) (λ_=>(bB rh (bB rh bI cE) eQ)))
  (ao (eZ 6 jG.nd (cH (eT T ac) hr T.de (cI (b6 ["line"] ["wide"] [2] (cF (cH (tI T ac) hr T.kL (cI (pA sJ z7 (tw aj) tx) (bB fN (bB fN eQ (ck bI rfl)) aj)))) (λ_=>(fA 0)) (λ_=>cp) (λ_=>(pA (O7 K (by rfl)) bI (tw cE) tx))) (bB fN (ck bI rfl) aj))))
  (ao (eZ 7 jG.nd (pA sJ wB tx (tw (uj oi aj))))
  (ao (eZ 8 jG.nd (cH (PK T ac) hr T.yu (zC (cH (NM T ac) hr T.vY (cI bI Ao)) (aN bC wB (uj oi aj)) cE)))
  (av (aT (b6 ["row","by"] ["mend"] [8] (qq rfl T.zip (cI Ao (aN bC (aN bN kb aj) aj))) (λ_=>(kE K 2 (bZ (fA 0) (bZ (fA 1) gR)))) (λ_=>cp) (λ_=>(cH (tH T ac) hr T.jS (cI bI (cH (yg T ac) hr T.lV (cI cE eQ)))))))))))))))),?_]
 left
 obtain dx|am|ap|al|gx|m1|m2|m3|Gm|Gp|Gl:=id S;have d8:=D.n8;have i4:=D.i4;exists #[x,a,c,H0,mv,pt,lk,rfl,S,D,KF,SW,λRk pk H1 s1 KR full=>?_,λR ps r dx H' RR hf s' nr Rr hd=>ke R ps r dx H' RR hf s' nr Rr hd];exists #[x,Z._c,dx,_,_,rfl,(s1 _ _ gx),T._e,T._k,cM,?_];exists #[x,H0,mv,pt,lk,Rk,pk,rfl,S.10 s1,D,SF,KR,full,CS,λt a b _h _p H2 s2 gt Ga Gb C lp z01=>?_];have s12:=s1.3 s2;exists #[(),(),?_];rw[show (((mv.9:Nat):Int)+1).29=mv.9+1 by lia];obtain xa|ga|qa|_:=id Ga;obtain xb|gb|qb|_:=id Gb;have lxa:=qa.9;have lxb:=qb.9;have lC:=C.31;rw[ar,aY] at lxb;refine iG (n:=mv.9+1) (cO K H) (λj=>[if j=mv.9 then (1:Rat) else 0]) () (λa b=>a.10 b) ?_ ?_
 ·rintro j H3 NY NN hj s3 k1;exists jm (λh0=>?_) (λh0=>?_)
  ·exists dC λl Hx sx nx gl=>?_
   refine k1 _ _ sx #[l,rfl,s12.19 (s3.19 nx),_,gl,.cons ?_ .nil];have e:j=mv.9:=by have:=of_decide_eq_true h0;lia
   rw[if_pos e];show #[_,rfl,T.aaS _]
  ·exists dC λl Hx sx nx gl=>?_
   refine k1 _ _ sx #[l,rfl,s12.19 (s3.19 nx),_,gl,.cons ?_ .nil];have e:j≠mv.9:=λz=>h0 (decide_eq_true (by rw[z]))
   rw[if_neg e];show #[_,rfl,T._L _]
 rintro xl H3 l3 n3 s3 g3 p3 nx3;have lxl:=p3.9;rw[af,bX] at lxl;have ga3:=s3 _ _ ga;have gb3:=s3 _ _ gb;have gt3:=s3 _ _ gt;walk_at "w";unfold Uv;exists #[a,b,l3,rfl,#[_,bA.of ga3],#[_,bA.of gb3],#[_,bA.of g3],?_];have s13:=s12.3 s3;refine Oj (K:=K) (xs:=xa) (ws:=xb) (zs:=xl) (λi ys H'=>aG H3 H'/\Y9 (cO K H H') ((my _h (_p++[Wb pt.9 0]) mv.9).21 i) ys) mH () () #[aG.refl _,.nil] (λi ys H' _ #[e,_]=>#[bA.of (e _ _ ga3),bA.of (e _ _ gb3),bA.of (e _ _ g3)]) ?_ ?_
 ·rintro j u1 u2 u3 ys H4 r4 h1 h2 h3 _y ⟨s4,pr4⟩ hr4;obtain st|es|q1|rfl|_|R1:=bW qa h1;obtain gv|eg|q2|rfl|_|R2:=bW qb h2;obtain en|ee|q3|rfl|_|R3:=bW p3 h3;have sr:aG H4 (upd H4 r4 (.tup [.ref q1,.ref q2,.ref q3])):=aG.new hr4;have gr:(upd H4 r4 (.tup [.ref q1,.ref q2,.ref q3])) r4=some (.tup [.ref q1,.ref q2,.ref q3]):=aD;generalize upd H4 r4 (.tup [.ref q1,.ref q2,.ref q3])=H5 at sr gr ⊢;obtain v1|w1|y1:=(R1.10 s3).10 (s4.3 sr);obtain v2|w2|y2:=(R2.same s3).10 (s4.3 sr);obtain v3|w3|y3:=R3.10 (s4.3 sr);have lv1:=y1.9;have lv2:=y2.9;have lv3:=y3.9;have c1:st.9=mv.9:=C.51 st (ai es)
  have c2:gv.9=pt.9:=by
   rcases aB.mp (ai eg) with z | z
   ·show C.wpu gv z
   ·rw[aM.mp z];show bK
  rw[az] at ee;have jl:j < mv.9+1:=by have:=(aH.mp h1).1;lia
  rw[cx jl] at ee;cases ee;have c3:v3.9=1:=lv3.26;exists rd w1 w2 mH λl5 H6 s6 n6 g6=>?_
  exists rd g6 (s6 _ _ w3) (dm (dn (by rw[ar];lia))) λl6 H7 s7 n7 g7=>?_
  have s57:=s6.3 s7;have s37:=(s4.3 sr).3 s57;refine #[s37,?_]
  have ez:(my _h (_p++[Wb pt.9 0]) mv.9)[j]?=some (st++gv++[if j=mv.9 then 1 else 0]):=by
   unfold my;rw[az,cx jl];change some (_h.4 j []++(_p++[Wb pt.9 0]).4 j []++_)=_
   rw[aa (l:=_h),es,aa (l:=_p++_),eg];rfl
  rw[take_snoc ez];show cm (ce (λ_ _ z=>cO.same z (sr.3 s57)) pr4) (.cons #[l6,rfl,s13.19 ((s4.3 sr).19 (s6.19 n7)),_,g7,ce (λ_ _ z=>cg.same z s57) (cm (cm y1 y2) y3)] .nil)
 rintro yl H4 hyl ⟨s4,pr4⟩ l4 n4;rw[aF (by unfold my;rw[af,bX];lia)] at pr4;have G4:bf K H (upd H4 l4 (.lst yl)) l4 (my _h (_p++[Wb pt.9 0]) mv.9):=#[yl,aD,ce (λ_ _ z=>cO.same z (aG.new n4)) pr4,iW #[_,n4,pr4]];have s44:aG H4 (upd H4 l4 (.lst yl)):=aG.new n4;generalize upd H4 l4 (.lst yl)=H5 at G4 s44 ⊢;have s15:=s13.3 (s4.3 s44);have gx5:=s15 _ _ gx;have lL:(my _h (_p++[Wb pt.9 0]) mv.9).9=mv.9+1:=by unfold my;rw[af,bX]
 have wg:∀xs∈_p++[Wb pt.9 (0:Rat)],xs.9=pt.9:=λxs hx=>by
  rcases aB.mp hx with z | z
  ·show C.wpu xs z
  ·rw[aM.mp z];show bK
 have wL:∀xs∈my _h (_p++[Wb pt.9 0]) mv.9,xs.9=mv.9+pt.9+1:=λxs hx=>by
  unfold my at hx;obtain j|hj|rfl:=au.mp hx;have X!:=iK.mp hj;rw[ar,ar,aY]
  have e1:(_h.4 j []).9=mv.9:=by
   rw[aa,ae ()];show C.51 _ (aw _)
  have e2:((_p++[Wb pt.9 0]).4 j []).9=pt.9:=by
   rw[aa,ae (by rw[ar,aY];lia)];show wg _ (aw _)
  lia
 obtain w|SL|SR:=ST _h _p C lp z01;obtain zl|gl5|ql5|_:=id G4;exists zx (bA.of gl5) λl6 H6 s6 n6 g6=>?_
 rw[show (1:Int)=((1:Nat):Int) from rfl,JO] at g6;have q6:=ni ql5 1;have G6:bf K H H6 l6 ((my _h (_p++[Wb pt.9 0]) mv.9).37 1):=#[_,g6,ce (λ_ _ z=>cO.same z s6) q6,iW #[_,n6,q6]];have lD:((my _h (_p++[Wb pt.9 0]) mv.9).37 1).9=mv.9:=by rw[eH,lL];lia
 have s16:=s15.3 s6;have gx6:=s16 _ _ gx;exists #[x,Z._c,dx,_,_,rfl,gx6,T._e,T.v!,xQ,?_];walk_at "w";rw[show ((mv.9:Nat):Int)+((pt.9:Nat):Int)+1=((mv.9+pt.9+1:Nat):Int) by lia];refine #[l6,mv.9+pt.9+1,w,_,_,rfl,G6,(),(),λxs hx=>wL xs (mO hx),SL,λr R ps M H7 nr s7 G7 RR kp M0 ML tp=>?_]
 have rk:ps.9=mv.9:=by
  have:=QW C (by rw[lD,lp]) (λj hj c hc=>?_) RR
  ·lia
  ·unfold my bo;rw[aa (l:=List.drop 1 _),wU,az,cx (),iu 1 j];change (_h.4 (j+1) []++_++_).4 c 0=_
   have e1:(_h.4 (j+1) []).9=mv.9:=by
    rw[aa,ae ()];show C.51 _ (aw _)
   rw[cv,aa,bR (),<- aa]
 have Z6:=SR R ps RR rk;have lR:R.9=mv.9:=by rw[RR.1,rk]
 obtain xr|gr7|qr7|_:=id G7;have lxr:=qr7.9;exists #[#[_,bA.of gr7],?_];have s17:=s16.3 s7;refine dw (K:=K) (F:=cO K H6) (cO K H) (λxs=>xs.37 mv.9) gr7 qr7 () (λa b=>a.10 b) (λa b=>a.10 b) ?_ ?_
 ·rintro j xs v H8 NY NN en s8 ⟨u,rfl,_,hu⟩ k1;obtain us|gu|qu:=id hu;exists zx (bA.of gu) λl8 H9 s9 n9 g9=>?_
  rw[JO] at g9;show k1 _ _ s9 #[l8,rfl,s17.19 (s8.19 n9),_,g9,ce (λ_ _ z=>cg.same z s9) (ni qu mv.9)]
 rintro ys8 H8 r8 n8 s8 g8 pr8 nx8;have G8:bf K H H8 r8 (R.12 (·.drop mv.9)):=#[ys8,g8,pr8,iW nx8];have s18:=s17.3 s8;have gx8:=s18 _ _ gx;exists #[x,Z._c,dx,_,_,rfl,gx8,T._e,T.v!,xQ,?_];walk_at "w";rw[show ((pt.9:Nat):Int)+1=((pt.9+1:Nat):Int) by lia];refine #[r8,pt.9+1,H,_,rfl,G8,by rw[af];lia,(),λxs hx=>?_,λr9 H9 n9 s9 G9=>?_]
 ·obtain ys|hy|rfl:=au.mp hx;rw[eH,RR.2.1 ys hy]
  lia
 have s19:=s18.3 s9;have G9':bf K H H9 r9 (iL R mv.9 pt.9):=G9.53 s18;generalize hS:iL R mv.9 pt.9=S9 at G9';have lS:S9.9=pt.9+1:=by rw[<- hS];unfold iL;show kS
 have wS:∀xs∈S9,xs.9=mv.9:=λxs hx=>by
  rw[<- hS] at hx;unfold iL a9 at hx;obtain j|_|rfl:=au.mp hx;rw[af,af,lR]
 obtain x9|g9|q9|_:=id G9';have lx9:=q9.9;exists zx (bA.of g9) λlA HA sA nA gA=>?_
 rw[QR (show x9.9=pt.9+1 by lia)] at gA;have qA:=qv q9 pt.9;have GA:bf K H HA lA (S9.21 pt.9):=#[_,gA,ce (λ_ _ z=>cO.same z sA) qA,iW #[_,nA,qA]];have s1A:=s19.3 sA;exists #[x,lA,H0,H,mv,pt,lk,S9.21 pt.9,rfl,S.10 s1A,D,GA,by rw[br];lia,λxs hx=>wS xs (bO hx),by rw[<- hS];show Z6.cl,λxc HB nB sB SB=>?_];obtain ⟨v,ev⟩:∃v,x9[pt.9]?=some v:=#[_,ae ()];obtain sd|esd|qs|rfl|_|Rs:=bW q9 ev;have acy:S9.4 pt.9 []=sd:=by rw[aa,esd];rfl
 have sAB:=sA.3 sB;exists b8 (bA.of (sAB _ _ g9)) (C3 (k:=pt.9) () ev) ?_;have lc:(kZ mv pt (S9.21 pt.9)).9=mv.9:=gY;have lsd:sd.9=mv.9:=wS sd (ai esd);have s1B:=s1A.3 sB;exists #[xc,qs,q,_,_,pt,lk,sd,wish,rfl,SB,afZ.aeJ D,Rs.same sAB,by rw[lc,lsd],Rq.10 s1B,(),by rw[<- acy,<- hS];show Z6.am,λrm HC sC RC=>?_];have MZ:=Z6.mz;rw[hS,acy] at MZ;have lme:=zP (wish:=wish) (show sd.9=(kZ mv pt (S9.21 pt.9)).9 by rw[lc,lsd]) wish.9;rw[lc] at lme;obtain ⟨me,eme⟩:∃me,yP (kZ mv pt (S9.21 pt.9)) sd wish wish.9=me:=#[_,rfl];rw[eme] at RC MZ lme;have s1C:=s1B.3 sC;have s2C:=((((s3.3 (s4.3 s44)).3 s6).3 s7).3 s8).3 ((s9.3 sAB).3 sC);obtain ⟨v0,ev0⟩:∃v,xb[0]?=some v:=#[_,ae ()];obtain p0|ep0|qp|rfl|_|Rp0:=bW qb ev0;have afR:(_p++[Wb pt.9 (0:Rat)]).4 0 []=p0:=by rw[aa,ep0];rfl
 rw[afR] at MZ;have lp0:p0.9=pt.9:=wg p0 (ai ep0);obtain vp|gp0|qp0:=Rp0.10 s2C;have lvp:=qp0.9;have gAC:=(sB.3 sC) _ _ gA;have qAC:=ce (λ_ _ z=>cO.same z (sAB.3 sC)) qA;have lqA:=qAC.9;rw[br] at lqA;have gtC:=s2C _ _ gt;have gbC:=s2C _ _ gb
 have z0:∀z∈p0,z=0\/z=1:=λz hz=>by
  rcases aB.mp (ai ep0) with y | y
  ·show z01 p0 y z hz
  ·rw[aM.mp y] at hz;show .inl (d5 hz)
 have RZ:=Z6.rz;rw[hS] at RZ;exists b8 (bA.of gbC) (dM (j:=0) ev0) ?_;exists #[#[_,bA.of gAC],#[_,bA.of gp0],?_];refine pO (K:=K) (xs:=x9.21 pt.9) (ws:=vp) (λj ys H'=>aG HC H'/\Y9 (cO K H H') ((Wv (λrow b=>Wv (λx y=>x - y) row (me.12 λy=>b*y)) (S9.21 pt.9) p0).21 j) ys) (dm (dn (by rw[br];lia))) (by rw[br];lia) #[aG.refl _,.nil] (λj ys H' _ #[e,_]=>#[bA.of (e _ _ gAC),bA.of (e _ _ gp0)]) ?_ ?_
 ·rintro j u1 u2 ys HD rD h1 h2 _y ⟨sD,prD⟩ hrD;obtain row|er|q1|rfl|_|R1:=bW qAC h1;obtain b0|eb|Nb:=bW qp0 h2;have mr:=ai er;have mb:=ai eb;have sr:aG HD (upd HD rD (.tup [.ref q1,u2])):=aG.new hrD;have gr:(upd HD rD (.tup [.ref q1,u2])) rD=some (.tup [.ref q1,u2]):=aD;generalize upd HD rD (.tup [.ref q1,u2])=HE at sr gr ⊢;have sCE:=sD.3 sr;exists #[u2,rm,b0,me,rfl,Nb.10 sCE,U4 (z0 b0 mb),RC.10 sCE,(),λz hz=>(MZ z hz).1,λt6 H6 n6 s6 R6=>?_];exists #[q1,t6,row,_,rfl,R1.10 (sCE.3 s6),R6,by rw[af,lme,wS row (bO mr)],by rw[wS row (bO mr)];lia,RZ row mr,λz hz=>?_,λt7 H7 n7 s7 R7=>?_]
  ·obtain y|hy|rfl:=au.mp hz;show (MZ y hy).2 b0 mb
  refine #[(sCE.3 s6).3 s7,?_];have ez:(Wv (λrow b=>Wv (λx y=>x - y) row (me.12 λy=>b*y)) (S9.21 pt.9) p0)[j]?=some (Wv (λx y=>x - y) row (me.12 λy=>b0*y)):=by rw[bh,er,eb]
  rw[take_snoc ez];show cm (ce (λ_ _ z=>cO.same z ((sr.3 s6).3 s7)) prD) (.cons #[t7,rfl,s1C.19 (sCE.19 (s6.19 n7)),R7] .nil)
 rintro ys HD hy ⟨sD,prD⟩ rr nrr;rw[aF (by rw[aJ,br,br];lia)] at prD
 have wG:∀xs∈Wv (λrow b=>Wv (λx y=>x - y) row (me.12 λy=>b*y)) (S9.21 pt.9) p0,xs.9=mv.9:=λxs hx=>by
  obtain j|hj|rfl:=bu hx;rw[cP,aJ,af,lme,wS _ (bO (aw _)),qL]
 obtain Ma|Mb|a0|ab|b0'|bb|fa|fb:=Z6.gz;rw[hS,acy,eme] at fb;rw[hS] at fa;refine k Rk pk rr _ _ ((s1C.3 sD).3 (aG.new nrr)) KR full (s1C.19 (sD.19 nrr)) #[ys,aD,ce (λ_ _ z=>cO.same z (aG.new nrr)) prD,iW #[_,nrr,prD]] (by rw[aJ,br];lia) wG #[SX D C lp RR rk lq (by rw[hS]) (by rw[hS];show acy.26) eme.26 afR.26 rfl,Ma*Mb,bY a0 b0',ag (aL ab bb) (by rw[<- bg];show jP ()),λxs hx z hz=>?_];obtain j|hj|rfl:=bu hx;rw[cP] at hz;obtain c9|hc9|rfl:=bu hz;rw[cP,fU];have f1:=(fa _ (aw (l:=S9.21 pt.9) (n:=j) (by rw[aJ] at hj;lia)) _ (aw (n:=c9) (by rw[aJ] at hc9;lia))).dvd (qM Ma Mb);have f2:=(fb _ (aw (l:=me) (n:=c9) (by rw[aJ,af] at hc9;lia))).dvd (j4 Mb Ma);have mj:=aw (l:=p0) (n:=j) (by rw[aJ] at hj;lia);rw[show (2:Nat)^12001=2^12000+2^12000 by rw[c8,Nat.mul_two]];show Wg f1 f2 (z0 _ mj)
theorem za:sC ["self"] 1 gK:=by walk_at "d"
theorem rL (T:Txt K mg Z) (ac:bv P):kB P w K mg base Eb 7 Z.oB Z.ox ["self"] (Bm K Z._c):=by
 refine T.uy.k za ?_;walk_at "i";obtain x|H0|mv|pt|lk|rfl|S|D|F|k:=h;refine #[_,(av (aT (AR T.j! (kK T ac) (hr.24 ()) rfl T.k! T.jz .nil uk (zC (cH (eT T ac) hr T.de (cI (ck bI rfl) (ck bI rfl))) (ck bI rfl) (ck bI rfl))))),?_];left
 obtain dx|a|b|c|gx|n1|n2|n3|Ga|Gb|Gc:=id S;have d1:=D.n8;exists #[x,Z._c,dx,_,_,rfl,gx,T._e,T._Q,uO,?_];exists #[x,Z._c,dx,_,_,rfl,gx,T._e,T._k,cM,?_];exists #[a,mv.9,H0,mv,rfl,Ga,(),(),D.mw,λt H1 nt s1 Gt=>?_];have gx1:=s1 _ _ gx;exists #[x,Z._c,dx,_,_,rfl,gx1,T._e,T.i!,Bi,?_];exists #[x,Z._c,dx,_,_,rfl,gx1,T._e,T.a!,vU,?_];walk_at "w";intro x' dx' nx ndx nex;have F':=F.turn;show #[x',dx',t,c,b,H1,H,H0,H0,_,_,_,rfl,nx,ndx,nex,rfl,Gt,Gc.10 s1,Gb.10 s1,D.turn,F'.ok.1,F'.ok.2.1,F'.ok.2.2,λH' s' S'=>#[rfl,k x' H' (s1.19 nx) (s1.3 s') (S'.53 s1)]]
theorem uQ:sC ["system","steps","told"] 2 qP:=by walk_at "d"
theorem Ck (T:Txt K mg Z) (ac:bv P):T.lU.o P w base 9 (Bl K Z._c):=by
 refine T.lU.F.k uQ ?_;walk_at "i";obtain x|tt|e|H0|mv|pt|lk|rfl|hT|S|D|F|UF|k:=h
 refine #[_,(ao (eZ 2 uQ.nd (cH (wC T ac) hr T.kj (cI (Cb bI T._e T.mZ (rL T ac) (hr.24 ()) T.oA .nil uk) cE)))
  (av (aT (cH (tI T ac) hr T.kL (cI (cH (Jc T ac) hr T.vA (cI eQ (ck bI rfl))) (ck bI rfl)))))),?_]
 left
 have d8:=D.n8;have et:(a9 mv mv.9).9=mv.9:=cz;obtain a|c|KF|_|_:=UF.kf;obtain dx|a'|b'|c'|gx|_:=id S;exists #[x,dx,_,rfl,gx,Bh,?_];exists #[x,H0,mv,pt,lk,rfl,S,D,F.sf,λy H1 ny s1 S1=>?_];exists #[y,a,c,tt,H,_,lk,pt,rfl,(),S1,D.turn,KF,λq R ps H2 nq s2 G2 RR=>?_];have u!:=s1.3 s2;obtain ⟨w1,sw⟩|szR|w2|swn|bn|q1|q10|tn:=UF.sw RR;have e1:=UF.e1;rw[et] at RR sw swn bn tn;have le:=RR.le;have lR:=RR.1;have cnt:=zH RR;exists #[x,Z._c,dx,_,_,rfl,u! _ _ gx,T._e,T._k,cM,?_];exists #[q,mv.9,w1,H1,_,R,ps,rfl,G2,(),(),RR,sw,szR,λr3 H3 n3 s3 G3=>?_];have t!:=u!.3 s3;exists #[x,Z._c,dx,_,_,rfl,t! _ _ gx,T._e,T._k,cM,?_];exists #[r3,mv.9,w2,H2,_,rfl,G3,(),(),MB,swn,λr4 Hd psd M4 H4 n4 s4 G4 RN _ M0 M1 tp=>?_];have up:=ak (show 0 < 2 by decide) bn;show k r4 Hd H4 (t!.19 n4) (t!.3 s4) (G4.aaY λq h=>t!.19 h) #[R,ps,psd,M4,RR,RN,K7 RR bD q10 tn RN,M0,ag M1 up,λxs hx x _v=>(tp xs hx x _v).24 up]
theorem v7:sC ["self","state"] 2 eC:=by walk_at "d"
theorem v9 (T:Txt K mg Z) (ac:bv P):kB P w K mg base Eb 1 Z.iT Z.kO ["self","state"] (IA K Z._t Z._G "state"):=by
 refine T.pU.k v7 ?_;walk_at "i";obtain e|y|rfl|he|k:=h;refine #[_,(av (Mu bI cE rfl)),?_];left
 walk_at "w";unfold Pb;exists #[e,_,_,rfl,he,T._Y,T.nt_NotSeen,λdx hd ne=>?_];exists k dx hd ne
theorem j8:sC ["self","system","unseen","rows"] 2 eE:=by walk_at "d"
theorem wb (T:Txt K mg Z) (ac:bv P):kB P w K mg base (Q6 P w) 11 Z.kR Z.kQ ["self","system"] (Bw K Z._c Z._f Z._t):=by
 refine T.pV.kX j8 ?_;walk_at "i";obtain x|dx|sy|Hb|H0|mv|pt|lk|rfl|nx|ndx|nex|rfl|S|D|SF|Y|k|ke:=h
 refine #[_,(ao (eZ 2 j8.nd (cH (Ck T ac) hr T.lU (cI cE (ck cE rfl))))
  (ao (dj (bw Aa (a8 aS (by rfl) T.31 aK (cQ eQ)) aj (bx _)) (av (EC zX rfl (IX rfl T._Y T.S! T.U! T.kp_NotSeen (v9 T ac) (hr.24 ()) rfl T.w! T.pQ (cQ (aN bC eQ aj))))) b9)
  (ao (ot bI cE rfl)
  (ao (ot bI (cH (jg T ac) hr T.eL (cQ (ck cE rfl))) rfl)
  (ao (eZ 3 j8.nd (AU (Cm T ac) (hr.24 ()) rfl T.iP.m T.iP.F.kp T.iP.b .nil ye (cI (Cb cE T._e T.mZ (rL T ac) (hr.24 ()) T.oA .nil uk) (cH (jg T ac) hr T.eL (cQ (ck cE rfl))))))
  (av (ot bI (cH (eT T ac) hr T.de (cI kb (ck cE rfl))) rfl))))))),?_]
 left
 have s0:aG Hb (upd (upd Hb dx (.own x)) x (.ins Z._f dx [])):=λb o e=>by
  rw[aR (dU e nx),aR (dU e ndx)];show e
 have hx:(upd (upd Hb dx (.own x)) x (.ins Z._f dx [])) x=some (.ins Z._f dx []):=aD;generalize upd (upd Hb dx (.own x)) x (.ins Z._f dx [])=Ha at s0 hx ⊢;obtain dy|am|ap|al|gy|m1|m2|m3|Gm|Gp|Gl:=id S;have d8:=D.n8;have o4:=D.o4;have et:(a9 mv mv.9).9=mv.9:=cz;have gya:=s0 _ _ gy;exists #[sy,Z._c,dy,_,_,rfl,gya,T._e,T._k,cM,?_];exists #[sy,mv.9,1000,H0,mv,pt,lk,rfl,(),S.10 s0,D,SF,Y.un,λr Hd H1 nr s1 G1 U=>?_];obtain us|gu|qu|_:=id G1;have lu:=qu.9;have s01:=s0.3 s1;have hx1:=s1 _ _ hx;exists #[_,_,rfl,.inl (bA.of gu),?_];walk_at "w";rw[<- lu];by_cases hd:0 < Hd.9
 ·rw[decide_eq_true (show (0:Int) < ((Hd.9:Nat):Int) by lia)];walk_at "w";unfold Fl KE;obtain ⟨v,ev⟩:∃v,us[0]?=some v:=#[_,ae ()];obtain row|er|r0|rfl|n0|R0:=bW qu ev;have er':Hd.4 0 []=row:=by rw[aa,er];rfl
  exists b8 (bA.of gu) (dM (j:=0) ev) ?_;walk_at "w";intro e he;refine #[e,.ref r0,rfl,aD,λdq hdq ne=>#[rfl,e,Z._t,_,some dq,rfl,aD,s1.19 he,T._Y,?_]];have hd':H1 dq=none:=by rw[aR ne] at hdq;show hdq
  show ke Hd dq _ (BQ (s01.19 he) s01 hd') U hd
 rw[decide_eq_false (show ¬(0:Int) < ((Hd.9:Nat):Int) by lia)];obtain rfl:Hd=[]:=Yq.mp ();clear hd;exists #[x,Z._f,dx,_,rfl,hx1,T._s,T._z,(by change 0 < 1000;decide),?_];have hx2:(upd H1 x (.ins Z._f dx (bS "system" (.ref sy) []))) x=some (.ins Z._f dx (bS "system" (.ref sy) [])):=aD;have k2:aG Hb (upd H1 x (.ins Z._f dx (bS "system" (.ref sy) []))):=s01.40 nx;generalize upd H1 x (.ins Z._f dx (bS "system" (.ref sy) []))=H2 at hx2 k2 ⊢;have gy2:=k2 _ _ gy;exists #[sy,Z._c,dy,_,_,rfl,gy2,T._e,T._k,cM,?_];exists #[mv.9,rfl,(),λr3 H3 n3 s3 R3=>?_];have hx3:=s3 _ _ hx2;exists #[x,Z._f,dx,_,rfl,hx3,T._s,T._w,aP dI (by change 1 < 1000;decide),?_];have hx4:(upd H3 x (.ins Z._f dx (bS "state" (.ref r3) (bS "system" (.ref sy) [])))) x=some (.ins Z._f dx (bS "state" (.ref r3) (bS "system" (.ref sy) []))):=aD;have k4:aG Hb (upd H3 x (.ins Z._f dx (bS "state" (.ref r3) (bS "system" (.ref sy) [])))):=(k2.3 s3).40 nx;have hR4:=R3.exc (H':=upd H3 x (.ins Z._f dx (bS "state" (.ref r3) (bS "system" (.ref sy) [])))) yL.upd #[_,_,_,hx3];generalize upd H3 x (.ins Z._f dx (bS "state" (.ref r3) (bS "system" (.ref sy) [])))=H4 at hx4 k4 hR4 ⊢;have gy4:=k4 _ _ gy;exists #[sy,dy,_,rfl,gy4,Bh,?_];exists #[sy,H0,mv,pt,lk,rfl,S.10 k4,D,SF.sf,λy H5 ny s5 S5=>?_];have k5:=k4.3 s5;have gy5:=k5 _ _ gy;exists #[sy,Z._c,dy,_,_,rfl,gy5,T._e,T._k,cM,?_];exists #[mv.9,rfl,(),λr6 H6 n6 s6 R6=>?_];obtain a|c|KF|_|_:=Y.un.kf;have k6:=k5.3 s6;exists #[y,r6,a,c,H4,_,lk,pt,_,rfl,S5.10 s6,D.turn,SF.turn,KF,λR ps RR=>#[(Y.un.sw RR).1,(Y.un.sw RR).2.1],Y.cs,Y.st _ 1 (by rw[bK,et]) () bD (λz hz=>by rw[d5 hz];show Tp.zero),R6,by rw[bK,et],λR ps r7 G H7 s7 RR full n7 G7 lG wG KP=>?_,λR ps r7 dq H7 RR lt=>?_]
 rotate_left
 ·rw[et] at RR lt;have:=Ie U RR
  lia
 have hx7:=(s5.3 (s6.3 s7)) _ _ hx4;have k7:=k6.3 s7;have gy7:=k7 _ _ gy;exists #[sy,Z._c,dy,_,_,rfl,gy7,T._e,T._k,cM,?_];exists #[r7,mv.9,H6,G,rfl,G7,(),(),λxs hxs=>by rw[wG xs hxs,et],λr8 H8 n8 s8 G8=>?_];have hx8:=s8 _ _ hx7;exists #[x,Z._f,dx,_,rfl,hx8,T._s,T._F,aP dI (aP (dN dI) (by change 2 < 1000;decide)),?_]
 have hr3:cA K H8 r3 (Wb mv.9 0):=by
  have R4:cA K H4 r3 (Wb mv.9 0):=by
   have:=R3;show hR4
  show R4.10 (s5.3 (s6.3 (s7.3 s8)))
 refine k r3 r8 G _ ((k7.3 s8).40 nx) U aD (k2.19 n3) (hr3.exc yL.upd #[_,_,_,hx8]) (k7.19 n8) (G8.53 k7 |>.exc yL.upd ⟨_,_,_,hx8⟩) lG (λxs hx=>by rw[wG xs hx,et]) KP
theorem xX:sC ["self","system"] 2 fQ:=by walk_at "d"
theorem yn (T:Txt K mg Z) (ac:bv P):kB P w K mg base (Q6 P w) 13 Z.m7 Z.m6 ["self","system"] (Ir K Z._c Z._f Z._l Z._o Z._t):=by
 refine T.rV.kX xX ?_;walk_at "i";obtain x|dx|sy|Hb|H0|mv|pt|lk|rfl|nx|ndx|nex|rfl|S|⟨⟨D,SF,Y2⟩,Y⟩|k|ke|kx:=h
 refine #[_,(ao (ot bI (AU (Cm T ac) (hr.24 ()) rfl T.iP.m T.iP.F.kp T.iP.b .nil ye (cI cE (cH (jg T ac) hr T.eL (cQ (ck cE rfl))))) rfl)
  (av (ot bI (AR T.mk_Guesser (wb T ac) (hr.24 ()) rfl T.R! T.pR .nil ye (cQ cE)) rfl))),?_]
 left
 have s0:aG Hb (upd (upd Hb dx (.own x)) x (.ins Z._l dx [])):=λb o e=>by
  rw[aR (dU e nx),aR (dU e ndx)];show e
 have hx:(upd (upd Hb dx (.own x)) x (.ins Z._l dx [])) x=some (.ins Z._l dx []):=aD;generalize upd (upd Hb dx (.own x)) x (.ins Z._l dx [])=Ha at s0 hx ⊢;obtain dy|am|ap|al|gy|m1|m2|m3|Gm|Gp|Gl:=id S;have d8:=D.n8;have gya:=s0 _ _ gy;obtain a|c|KF|_|_:=Y.un.kf;exists #[sy,Z._c,dy,_,_,rfl,gya,T._e,T._k,cM,?_];exists #[mv.9,rfl,(),λr6 H6 n6 s6 R6=>?_];have k6:=s0.3 s6;exists #[sy,r6,a,c,H0,_,pt,lk,_,rfl,S.10 k6,D,SF,KF,λR ps RR=>#[(Y.un.sw RR).1,(Y.un.sw RR).2.1],Y.cs,Y.st _ 1 bK () bD (λz hz=>by rw[d5 hz];show Tp.zero),R6,bK,λR ps r7 G H7 s7 RR full n7 G7 lG wG KP=>?_,λR ps r7 dq H7 RR lt s7 _ _ _=>ke R ps dq H7 RR lt (k6.3 s7)];have k7:=k6.3 s7;have hx7:=(s6.3 s7) _ _ hx;exists #[x,Z._l,dx,_,rfl,hx7,T._O,T._S,(by change 0 < 1000;decide),?_];have gr8:bf K Hb (upd H7 x (.ins Z._l dx (bS "rows" (.ref r7) []))) r7 G:=(G7.53 k6).exc yL.upd #[_,_,_,hx7];have hx8:(upd H7 x (.ins Z._l dx (bS "rows" (.ref r7) []))) x=some (.ins Z._l dx (bS "rows" (.ref r7) [])):=aD;have k8:aG Hb (upd H7 x (.ins Z._l dx (bS "rows" (.ref r7) []))):=k7.40 nx;generalize upd H7 x (.ins Z._l dx (bS "rows" (.ref r7) []))=H8 at hx8 k8 gr8 ⊢;walk_at "w";intro x2 dx2 nx2 aiz aiy;refine #[x2,dx2,sy,H8,H0,mv,pt,lk,rfl,nx2,aiz,aiy,rfl,S.10 k8,D,SF,Y2,λa2 m2 G2 H9 s9 U gx9 na9 R9 nm9 Gm9 lG9 wG9 KP9=>#[rfl,?_],λHd dq H9 s9 U hd=>kx Hd dq H9 (k8.3 s9) U hd];have hx9:=s9 _ _ hx8;exists #[x,Z._l,dx,_,rfl,hx9,T._O,T._C,aP dI (by change 1 < 1000;decide),?_];have ix:qF H9 x:=#[_,_,_,hx9];have i8:qF H7 x:=#[_,_,_,hx7];have e9:yL x H9 (upd H9 x (.ins Z._l dx (bS "guesser" (.ref x2) (bS "rows" (.ref r7) [])))):=yL.upd;have x2x:x2≠x:=λe=>by rw[e,hx8] at nx2;cases nx2
 show k r7 x2 dx2 a2 m2 G G2 R ps _ ((k8.3 s9).40 nx) RR full U (k8.19 nx2) #[aD,k6.19 n7,((gr8.10 s9).exc e9 ix),lG,wG,KP,#[e9 _ _ gx9 x2x,R9.exc e9 ix,k8.19 na9,k8.19 nm9,(Gm9.53 k8).exc e9 ix,lG9,wG9,KP9]]
theorem Dx:sC ["_law_system"] 1 sY:=by walk_at "d"
theorem rj (T:Txt K mg Z) (ac:bv P):T.jk.o P w base 15 (Iq K Z._c Z._f Z._l):=by
 refine T.jk.F.k Dx ?_;walk_at "i";obtain sy|H0|mv|pt|lk|R|R2|ps|h!|fl|rfl|S|PT|RR|RR2|hfl|ky:=h
 refine #[_,(av (VC rfl rfl (λ_ _ _ hX=>(av (aT (Pz T.mk_Pilot (yn T ac) (hr.24 ()) rfl T.aaI T.rS .nil hX (cQ bI)))))
  (UA rfl rfl T._T (λ_=>(av (aT tz))) (UA rfl rfl T.w! (λ_=>(av (aT tz))) V6)))),?_]
 left
 exists Vf ?_;exists Pk ?_;walk_at "w";intro z dz nz ndz nez;refine #[z,dz,sy,H,H0,mv,pt,lk,rfl,nz,ndz,nez,rfl,S,PT,λw x dx a m F G R' _W H7 s7 J! full U nx PZ=>#[rfl,?_],λR' _W dq H7 J! lt s7=>?_,λHd dq H7 s7 U hd=>?_]
 ·walk_at "w";obtain rfl|rfl:=RR.10 J!;rw[decide_eq_true #[full,Ie U RR2]] at hfl;subst hfl;show ky z dz w x dx a m F G H7 s7 λ_=>#[nx,PZ]
 ·refine .inl #[T.xm_NotSteered_NotSteered,λea=>?_];walk_at "w";obtain rfl|rfl:=RR.10 J!;rw[decide_eq_false (λh=>by have:=h.1;lia)] at hfl;subst hfl;show ky z z z z z z z [] [] H7 s7 λz=>(by cases z)
 ·refine .inr #[T.xm_NotSeen_NotSteered,.inl #[T.xm_NotSeen_NotSeen,λea=>?_]];walk_at "w";have:=U.cnt RR2;rw[RR2.1] at this;rw[decide_eq_false (λh=>by have:=h.2;lia)] at hfl;subst hfl;show ky z z z z z z z [] [] H7 s7 λz=>(by cases z)
theorem Fz:sC ["_law_one","_law_other"] 2 va:=by walk_at "d"
theorem F5 (T:Txt K mg Z) (ac:bv P):T.oM.o P w base 2 (Br K):=by
 refine T.oM.F.ok Fz (λvs H Q E h=>?_) (λ_I A outer s H vs Q E hr h=>?_)
 ·obtain p|q|a|b|c|d|rfl|hp|hq|hb|hd|hc|sa|sb|sc|sd|k:=IV h;rfl
 ·obtain p|q|a|b|c|d|rfl|hp|hq|hb|hd|hc|sa|sb|sc|sd|k:=IV h
  refine #[_,(ao (dj (bw pC (aN bN cE aj) aj (bx _)) (av (aT (cH (iH T ac) hr T.eV (cI (bB lK aj (bB cG (aN bN bI aj) (aN bN cE aj))) (bB lK aj (bB cG (aN bN bI aj) (aN bN cE aj))))))) b9)
   (av (aT (cH (iH T ac) hr T.eV (cI (bB cG (aN bN bI aj) (aN bN cE aj)) (bB cG (aN bN bI aj) (aN bN cE aj))))))),?_]
  refine nR (σ:=[some (.ref p),some (.ref q)]) rfl ?_
  try rw[gP]
  have sbc:Sz 8999000 (b*c):=(sb.mul sc).24 ();exists jm (λh=>?_) (λh=>?_)
  ·have h0:c < 0:=of_decide_eq_true h;have hbc:b*c < 0:=xN hb h0;exists fZ (show fK _ _ from .inr #[_,_,sa,sd,()]) ?_;exists fZ (show fK _ _ from .inr #[_,_,sb,sc,()]) ?_;exists #[_,_,rfl,(),by rw[Int.zero_sub];show sbc.neg,λr H' s' h'=>?_];show k r H' s' (by rw[if_pos h0,if_pos h0];show h')
  ·have h0:¬c < 0:=λz=>h (decide_eq_true z)
   have hbc:0 < b*c:=gJ hb ();exists fZ (show fK _ _ from .inr #[_,_,sa,sd,()]) ?_;exists fZ (show fK _ _ from .inr #[_,_,sb,sc,()]) ?_;exists #[_,_,rfl,hbc,sbc,λr H' s' h'=>?_];show k r H' s' (by rw[if_neg h0,if_neg h0];show h')
theorem FE:sC ["_law_one","_law_other"] 2 vq:=by walk_at "d"
theorem F9 (T:Txt K mg Z) (ac:bv P):T.oQ.o P w base 2 (o6 K (λx y=>x - y)):=by
 refine T.oQ.F.ok FE (λvs H Q E h=>?_) (λ_I A outer s H vs Q E hr h=>?_)
 ·obtain p|q|a|b|c|d|rfl|hp|hq|hb|hd|sa|sb|sc|sd|k:=AQ h;rfl
 ·obtain p|q|a|b|c|d|rfl|hp|hq|hb|hd|sa|sb|sc|sd|k:=AQ h;refine #[_,(av (aT (cH (iH T ac) hr T.eV (cI (bB lK (bB cG (aN bN bI aj) (aN bN cE aj)) (bB cG (aN bN cE aj) (aN bN bI aj))) (bB cG (aN bN bI aj) (aN bN cE aj)))))),?_];refine nR (σ:=[some (.ref p),some (.ref q)]) rfl ?_
  try rw[gP]
  have hbd:0 < b*d:=gJ hb hd;have sbd:Sz 8999000 (b*d):=(sb.mul sd).24 ();exists fZ (show fK _ _ from .inr #[_,_,sa,sd,()]) ?_;exists fZ (show fK _ _ from .inr #[_,_,sc,sb,()]) ?_;exists fZ (show fK _ _ from .inr #[_,_,sb,sd,()]) ?_;walk_at "w";exists #[_,_,rfl,hbd,sbd,k]
theorem Dy:sC ["_law_one","_law_other"] 2 tj:=by walk_at "d"
theorem DJ (T:Txt K mg Z) (ac:bv P):T.nJ.o P w base 3 (yV K):=by
 refine T.nJ.F.k Dy ?_;walk_at "i";obtain p|q|xs|ys|rfl|hp|hq|hl|hz|h1|h2|kk:=h;refine #[_,(av (aT (b6 ["_law_k"] ["_law_one","_law_other"] [0,1] (cu rfl T.38 (cQ (a8 aS (by rfl) T.31 aK (cQ bI)))) (λ_=>(fA 0)) (λ_=>cp) (λ_=>(cH (F9 T ac) hr T.oQ (cI (aN (fI K (by rfl)) cE bI) (aN (fI K (by rfl)) eQ bI))))))),?_];left
 obtain us|gu|qu:=id hp;obtain ws|gw|qw:=id hq;have lu:=qu.9;exists #[_,_,rfl,.inl (bA.of gu),?_];exists #[(),(),?_];refine iG (n:=us.9) (cg K) (λi=>xs.4 i 0 - ys.4 i 0) () (λa b=>a.10 b) ?_ ?_
 ·rintro i H' NY NN hi s k1;have ix:i < xs.9:=()
  have iy:i < ys.9:=()
  obtain vx|ex|nx:=Jp (ce (λ_ _ z=>z.10 s) qu) ix;obtain vy|ey|ny:=Jp (ce (λ_ _ z=>z.10 s) qw) iy;exists b8 (bA.of (s _ _ gu)) ex ?_;exists b8 (bA.of (s _ _ gw)) ey ?_;exists #[_,_,_,_,rfl,nx,ny,h1 _ (getD_mem ix),h2 _ (getD_mem iy),λr3 H3 s3 n3=>k1 _ _ s3 n3]
 ·rintro b! H' l K! s g pr nx;show kk l H' K! s #[b!,g,by rw[Kx ()];rw[<- lu] at pr;show pr]
theorem dY:sC ["_law_rows","_law_size","_law_rank","_law_place","_law_at","_law_k"] 2 ph:=by walk_at "d"
theorem uo (T:Txt K mg Z) (ac:bv P):T.iX.o P w base 4 (Ex K):=by
 refine T.iX.F.k dY ?_;walk_at "i";obtain p|n|w|a|H0|rows|rfl|G|M!|N!|hw|F|k:=h
 refine #[_,(ao (lI 0 ["_law_row_here"] [] [] dY.nd rfl rfl (cF bI) (λ_=>(fA 0)) (λ_=>cp) (λ_=>(fj (kr K (by rfl)) (by rfl) T.32 Zn (cQ bI))))
  (ao (eZ 2 dY.nd aj)
  (ao (fw Zb rfl (cu rfl T.38 (cQ cE)) (fA 3 dY.nd)
   (ao (eZ 4 dY.nd eQ)
  (ao (xZ Zb (PW.pt (j9 (bw pC rX (a8 aS (by rfl) T.31 aK (cQ bI)) (bx _)) (kD (bw (K3 (Jq hr)) (aN bC (aN bC bI rX) kb) (dh (cI aj aj)) (bx _)))))
   (av (eZ 4 dY.nd (bB fN rX aj))))
  (av (dj (bw pC rX (a8 aS (by rfl) T.31 aK (cQ bI)) (bx _)) (ao (fM (dh (cI (aN bC bI rX) (aN bC bI eQ))) (zB rfl (bZ (gg bI eQ set_list) (bZ (gg bI rX set_list) gR))))
  (ao (fM (cH (tJ T ac) hr T.kM (cI (cH (F5 T ac) hr T.oM (cI (dh (cI aj aj)) (aN bC (aN bC bI eQ) kb))) (aN bC bI eQ))) (gg bI eQ set_list))
  (ao (fw Zb rfl (cu rfl T.38 (cQ (a8 aS (by rfl) T.31 aK (cQ bI)))) (fA 5 dY.nd)
   (av (dj (PW.pt (j9 (bw yf z7 eQ (bx _)) (kD (bw (Cj (Jq hr)) (aN bC (aN bC bI z7) kb) (dh (cI aj aj)) (bx _))))) (av (fM (cH (DJ T ac) hr T.nJ (cI (aN bC bI z7) (cH (tJ T ac) hr T.kM (cI (aN bC (aN bC bI z7) kb) (aN bC bI eQ))))) (gg bI z7 set_list))) b9)))
  (av (eZ 2 dY.nd (bB fN eQ aj)))))) b9)))))
  (av (aT (pA sJ bI tx (tw eQ))))))),?_]
 left
 obtain xs|gx|qx|_:=id G;obtain _|_|_|_|_|_|_|r15|e39:=id F;have szT:∀{D:Nat} {x:Rat},0 < D->D<=2^(min rows.9 n*(w+4)+a)->Tp D (2^(min rows.9 n*(w+4))) x->jX x:=λh0 h1 t=>qO t h0 (ag h1 (ak () ())) (ak () ())
 have szP:∀{D D':Nat} {x y:Rat},0 < D->0 < D'->D<=2^(min rows.9 n*(w+4)+a)->D'<=2^(min rows.9 n*(w+4)+a)->Tp D (2^(min rows.9 n*(w+4))) x->Tp D' (2^(min rows.9 n*(w+4))) y->jX (x*y):=λh0 h0' h1 h1' t t'=>qO (t.mul t') (bY h0 h0') (ag (aL h1 h1') (by rw[<- bg];show ak () ())) (by rw[<- bg];show ak () ())
 exists #[#[_,bA.of gx],?_];refine dw (K:=K) (F:=cO K H0) (cO K H) id gx qx () (λa b=>a.10 b) (λa b=>a.10 b) ?_ ?_
 ·rintro i ns x H' NY NN en s ⟨u,rfl,_,zs,gz,qz⟩ k1;exists #[u,zs,rfl,.inl (bA.of gz),λl1 hl1=>?_];show k1 _ _ (aG.new hl1) #[l1,rfl,s.19 hl1,zs,aD,ce (λ_ _ z=>z.10 (aG.new hl1)) qz]
 rintro ys1 H1 L hL s1 g1 pr1 nx1;rw[Rc] at pr1 nx1;have PR1:Y9 (gI K H L H1) rows ys1:=Ms pr1 (iW nx1);clear pr1 nx1;exists #[(),(),?_];refine eF (n:=n) (λP σ' H'=>aG H H'/\∃rs ps y1 y2 y3 vs,σ'=[some (.ref L),some (.int n),some (.int ps.9),y1,y2,y3]/\H' L=some (.lst vs)/\Y9 (gI K H L H') rs vs/\Kj rows n P rs ps) #[s1,rows,[],_,_,_,ys1,rfl,g1,PR1,Kj.start hw] ?_ ?_
 ·rintro P σ' H' hP ⟨s',rs,ps,y1,y2,y3,vs,rfl,gL,pr,I⟩;have hl:=I.31;obtain km|kP:=I.km;have lv:=pr.9;exists AK (λσ' H''=>aG H' H''/\∃t:Nat,σ'=[some (.ref L),some (.int n),some (.int ps.9),some (.int P),some (.int t),y3]/\ps.9<=t/\t<=rs.9/\∀s,ps.9<=s->s < t->bo rs s P=0) (λσ' _=>match σ' with | [_,_,_,_,some (.int v),_]=>rs.9 - v.29 | _=>0) #[aG.refl _,ps.9,rfl,ah _,(),λs h1 h2=>absurd h2 ()] ?_;rintro σ' Ha ⟨sa,t,rfl,kt,tl,hz⟩;have gLa:=sa _ _ gL;have pra:Y9 (gI K H L Ha) rs vs:=ce (λ_ _ z=>z.10 sa) pr;exists #[_,_,rfl,.inl (bA.of gLa),?_];rw[<- lv];exists jm (λh=>?_) (λh=>?_)
  ·have ht:t < rs.9:=by have:=of_decide_eq_true h;lia
   obtain xt|vt|et|evt|mt|qt|rfl|nqt|qtL|Rt:=fD pra ht;have wt:=I.51 xt mt;obtain us|gu|qu:=id Rt;obtain vx|ex|nx:=Jp qu (j:=P) ();have ext:rs.4 t []=xt:=by rw[aa,et];rfl
   have fx:bo rs t P=xt.4 P 0:=by unfold bo;rw[ext]
   exists b8 (bA.of gLa) (dM evt) ?_;exists b8 (bA.of gu) ex ?_;exists cB λt0 Hb sb gb=>?_
   have sab:=sa.3 sb;exists #[_,_,MM,xt.4 P 0,0,(),nx.10 sb,cg.mk (q:=0) gb rfl,?_];by_cases e0:xt.4 P 0=0
   ·rw[decide_eq_true e0];exists #[#[sab,t+1,?_,(),(),λs h1 h2=>?_],?_]
    ·rw[show ((t:Int)+1)=((t+1:Nat):Int) by lia];rfl
    ·by_cases e:s=t
     ·rw[e,fx];show e0
     ·show hz s h1 ()
    ·change rs.9 - ((t:Int)+1).29 < rs.9 - (t:Int).29
     lia
   ·rw[decide_eq_false e0];have hne:bo rs t P≠0:=by rw[fx];show e0
    have gLb:=sb _ _ gLa;have prb:Y9 (gI K H L Hb) rs vs:=ce (λ_ _ z=>z.10 sb) pra;have s0b:=s'.3 sab;clear pra gLa gu qu ex nx gb Rt;exists #[_,_,rfl,.inl (bA.of gLb),?_];rw[<- lv];walk_at "w";rw[decide_eq_true (show (t:Int) < (rs.9:Int) by lia)];have hk:ps.9 < rs.9:=()
    obtain xt'|vt'|et'|afO|mt'|Ft:=fD prb ht;obtain xk|vk|ek|evk|mk|Fk:=fD prb hk;rw[et] at et';cases et';have exk:rs.4 ps.9 []=xk:=by rw[aa,ek];rfl
    exists b8 (bA.of gLb) (dM afO) ?_;exists b8 (bA.of gLb) (dM evk) ?_;exists cB λtp Hc sc gc=>?_
    have gLc:=sc _ _ gLb;have s0c:=s0b.3 sc;have prc:Y9 (gI K H L Hc) rs vs:=ce (λ_ _ z=>z.10 sc) prb;have Ftc:=gI.same Ft sc;have Fkc:=gI.same Fk sc;exists d7 gLc (eN ()) rfl ?_;have gLd:(upd Hc L (.lst (vs.30 ps.9 vt'))) L=some (.lst (vs.30 ps.9 vt')):=aD;have s0d:aG H (upd Hc L (.lst (vs.30 ps.9 vt'))):=s0c.40 hL;have prd:Y9 (gI K H L (upd Hc L (.lst (vs.30 ps.9 vt')))) (rs.30 ps.9 xt) (vs.30 ps.9 vt'):=jK (ce (λ_ _ z=>gI.upd z gLc) prc) _ (gI.upd Ftc gLc);have Fkd:=gI.upd (o:=.lst (vs.30 ps.9 vt')) Fkc gLc;generalize upd Hc L (.lst (vs.30 ps.9 vt'))=Hd at gLd s0d prd Fkd ⊢;exists d7 gLd (eN (by rw[cN];lia)) rfl ?_;have gLe:(upd Hd L (.lst ((vs.30 ps.9 vt').30 t vk))) L=some (.lst ((vs.30 ps.9 vt').30 t vk)):=aD;have s0e:aG H (upd Hd L (.lst ((vs.30 ps.9 vt').30 t vk))):=s0d.40 hL;have pre:Y9 (gI K H L (upd Hd L (.lst ((vs.30 ps.9 vt').30 t vk)))) ((rs.30 ps.9 xt).30 t xk) ((vs.30 ps.9 vt').30 t vk):=jK (ce (λ_ _ z=>gI.upd z gLd) prd) _ (gI.upd Fkd gLd);generalize upd Hd L (.lst ((vs.30 ps.9 vt').30 t vk))=He at gLe s0e pre ⊢;have sw:=U6 hk ht;rw[ext,exk] at sw;obtain ⟨rs1,adP⟩:∃rs1,rs1=(rs.30 ps.9 xt).30 t xk:=#[_,rfl];have l1:rs1.9=rs.9:=by rw[adP,cN,cN]
    rw[<- adP] at pre sw;have sk:jW ps.9 t ps.9=t:=by unfold jW;rw[if_pos rfl]
    generalize (vs.30 ps.9 vt').30 t vk=vs1 at gLe pre;clear gLb prb gLc prc Ftc Fkc gLd prd Fkd Ft Fk afO evk adP gc sc;obtain x1|v1|e1|ev1|m1|q1|rfl|nq1|q1L|R1:=fD pre (i:=ps.9) ()
    have ex1:x1=xt:=by
     have:=sw ps.9;rw[sk,ext,aa,e1] at this;show this
    subst ex1;obtain us1|gu1|qu1:=id R1;obtain vx1|akm|nx1:=Jp qu1 (j:=P) ();obtain Dt|Dt0|Dt1|Dt2:=I.sz F () (i:=t) ()
    have szt:∀y∈x1,jX y:=λy hy=>by
     obtain c|rfl:=Gs ext hy;show szT Dt0 Dt1 (Dt2 c)
    have szx:jX (x1.4 P 0):=szt _ (getD_in ());exists cB λtq Hf sf gf=>?_
    exists b8 (bA.of (sf _ _ gLe)) (dM ev1) ?_;exists b8 (bA.of (sf _ _ gu1)) akm ?_;exists #[_,_,1,x1.4 P 0,rfl,cg.mk (q:=1) gf rfl,nx1.10 sf,RA,szx,e0,λqr Hg sg nq=>?_];have sfg:=sf.3 sg;exists b8 (bA.of (sfg _ _ gLe)) (dM ev1) ?_;exists #[_,q1,1 / x1.4 P 0,x1,rfl,nq,RB szx e0,R1.10 sfg,(),szt,λur Hh nur sh Rur=>?_];have seh:=sfg.3 sh;have gLh:=seh _ _ gLe;have prh:Y9 (gI K H L Hh) rs1 vs1:=ce (λ_ _ z=>z.10 seh) pre;have lv1:=prh.9;have urL:ur≠L:=λz=>by rw[z,sfg _ _ gLe] at nur;cases nur
    have aio:H ur=none:=(s0e.3 sfg).19 nur;exists d7 gLh (eN ()) rfl ?_;obtain ⟨Aq,eA⟩:∃Aq,Aq=rs1.30 ps.9 (Ef x1 P):=#[_,rfl];have gLi:(upd Hh L (.lst (vs1.30 ps.9 (.ref ur)))) L=some (.lst (vs1.30 ps.9 (.ref ur))):=aD;have s0i:aG H (upd Hh L (.lst (vs1.30 ps.9 (.ref ur)))):=(s0e.3 seh).40 hL
    have pri:Y9 (gI K H L (upd Hh L (.lst (vs1.30 ps.9 (.ref ur))))) Aq (vs1.30 ps.9 (.ref ur)):=by
     rw[eA];show jK (ce (λ_ _ z=>gI.upd z gLh) prh) _ #[ur,rfl,aio,urL,Rur._A gLh urL]
    generalize upd Hh L (.lst (vs1.30 ps.9 (.ref ur)))=Hi at gLi s0i pri ⊢;have lA:Aq.9=rs.9:=by rw[eA,cN,l1]
    have lvi:=pri.9;generalize vs1.30 ps.9 (.ref ur)=vs2 at gLi pri lvi;clear gLh prh gLe pre R1 gu1 qu1 nx1 gf nq Rur;have hB:=Wl (rs:=rs) (k:=ps.9) (t:=t) (P:=P);have Bv:=λi (hi:i < rs.9)=>UH (rs:=rs) (k:=ps.9) (t:=t) (P:=P) hi
    rw[ext] at Bv
    have Av:∀i,i < rs.9->Aq.4 i []=if i=ps.9 then Ef x1 P else rs.4 (jW ps.9 t i) []:=λi hi=>by
     rw[eA,nY ()]
     split
     ·rfl
     ·show sw i
    have I2:Kj rows n (P+1) (Ju rs ps.9 t P) (ps++[P]):=I.57 kt ht hne (by rw[hB,hl]) (Tg I.51 hk ht) λi hi c=>Wk I.51 hk ht () c
    obtain Du|Du0|Du1|Du2:=I2.sz F () (i:=ps.9) ();have lur:(Ef x1 P).9=n:=by unfold Ef;rw[af];show wt
    have bk:(Ju rs ps.9 t P).4 ps.9 []=Ef x1 P:=by rw[Bv _ hk,if_pos rfl]
    exists #[_,_,rfl,.inl (bA.of gLi),?_];rw[<- lvi,lA];exists #[(),(),?_];refine eF (n:=rs.9) (λs σ' H'=>aG H H'/\∃y vs',σ'=[some (.ref L),some (.int n),some (.int ps.9),some (.int P),some (.int t),y]/\H' L=some (.lst vs')/\Y9 (gI K H L H') ((Ju rs ps.9 t P).21 s++Aq.37 s) vs') #[s0i,_,vs2,rfl,gLi,pri] ?_ ?_
    ·rintro s σ' Hj hs ⟨sj,y,vs',rfl,gLj,prj⟩;have lj:=prj.9;rw[ar,br,eH,hB,lA] at lj;have at':∀i,((Ju rs ps.9 t P).21 s++Aq.37 s)[i]?=if i < s then (Ju rs ps.9 t P)[i]? else Aq[i]?:=λi=>Ig (by rw[lA,hB])
     walk_at "w";by_cases es:s=ps.9
     ·rw[decide_eq_true (show (s:Int)=(ps.9:Int) by lia)];exists #[sj,_,vs',rfl,gLj,?_];rw[<- L9 (by rw[lA,hB]) ?_]
      ·show prj
      ·have h1:=Av s hs;have h2:=Bv s hs;rw[if_pos es] at h1 h2;rw[ae (show s < Aq.9 by lia),ae (show s < (Ju rs ps.9 t P).9 by lia)];rw[aa,ae (show s < Aq.9 by lia)] at h1;rw[aa,ae (show s < (Ju rs ps.9 t P).9 by lia)] at h2;have h1:Aq[s]=Ef x1 P:=h1;have h2:(Ju rs ps.9 t P)[s]=Ef x1 P:=h2;rw[h1,h2]
     ·rw[decide_eq_false (show ¬(s:Int)=(ps.9:Int) by lia)];obtain x2|v2|e2|ev2|m2|q2|rfl|nq2|q2L|R2:=fD prj (i:=s) (by rw[ar,br,eH,hB,lA];lia)
      have ex2:rs.4 (jW ps.9 t s) []=x2:=by
       have h1:=Av s hs;rw[if_neg es] at h1;rw[at' s,if_neg ()] at e2;rw[<- h1,aa,e2];rfl
      have w2:x2.9=n:=by rw[<- ex2];show I.51 _ (getD_in (qg hk ht hs))
      have B2:=Bv s hs;rw[if_neg es,ex2] at B2
      have eB2:(Ju rs ps.9 t P)[s]?=some (Wv (λx y=>x - y) x2 ((Ef x1 P).12 λy=>x2.4 P 0*y)):=by
       rw[<- B2,aa,ae (show s < (Ju rs ps.9 t P).9 by lia)];rfl
      obtain us2|gu2|qu2:=id R2;obtain vx2|afN|nx2:=Jp qu2 (j:=P) ();obtain D2|D20|D21|D22:=I.sz F () (i:=jW ps.9 t s) (by rw[<- hl];show qg hk ht hs)
      have sz2:∀y∈x2,jX y:=λy hy=>by
       obtain c|rfl:=Gs ex2 hy;show szT D20 D21 (D22 c)
      exists b8 (bA.of gLj) (dM ev2) ?_;exists b8 (bA.of gu2) afN ?_;exists cB λt2 Hk sk' gk=>?_
      exists #[_,_,MM,x2.4 P 0,0,(),nx2.10 sk',cg.mk (q:=0) gk rfl,?_];have gLk:=sk' _ _ gLj;have prk:Y9 (gI K H L Hk) ((Ju rs ps.9 t P).21 s++Aq.37 s) vs':=ce (λ_ _ z=>z.10 sk') prj;by_cases ez:x2.4 P 0=0
      ·rw[decide_eq_true ez];exists #[sj.3 sk',_,vs',rfl,gLk,?_];rw[<- L9 (by rw[lA,hB]) ?_]
       ·show prk
       ·rw[eB2,ez,YB ()];rw[at' s,if_neg ()] at e2;show e2
      ·rw[decide_eq_false ez];obtain x3|v3|e3|ev3|m3|q3|rfl|nq3|q3L|R3:=fD prk (i:=ps.9) (by rw[ar,br,eH,hB,lA];lia)
       have ex3:x3=Ef x1 P:=by
        rw[at' ps.9] at e3
        split at e3
        ·rw[<- bk,aa,e3];rfl
        ·have h1:=Av _ hk;rw[if_pos rfl] at h1;rw[<- h1,aa,e3];rfl
       subst ex3
       have szu:∀y∈Ef x1 P,jX y:=λy hy=>by
        obtain c|rfl:=Gs bk hy;show szT Du0 Du1 (Du2 c)
       have R2k:=R2.same sk';exists b8 (bA.of gLk) (dM ev2) ?_;exists b8 (bA.of gLk) (dM ev2) ?_;exists b8 (bA.of (sk' _ _ gu2)) afN ?_;exists b8 (bA.of gLk) (dM ev3) ?_;exists #[_,q3,x2.4 P 0,Ef x1 P,rfl,nx2.10 sk',sz2 _ (getD_in ()),R3,(),szu,λr4 Hl n4 sl R4=>?_];exists #[q2,r4,x2,_,rfl,R2k.10 sl,R4,by rw[af];lia,(),sz2,λy hy=>?_,λr5 Hm n5 sm R5=>?_]
       ·obtain y'|hy'|rfl:=au.mp hy;obtain c|rfl:=Gs bk hy';have fz:bo rs (jW ps.9 t s) P=x2.4 P 0:=by unfold bo;rw[ex2]
        have:=szP D20 Du0 D21 Du1 (D22 P) (Du2 c);rw[fz] at this;show this
       have slm:=sl.3 sm;have gLm:=slm _ _ gLk;have r5L:r5≠L:=λz=>by rw[z,sl _ _ gLk] at n5;cases n5
       exists d7 gLm (eN ()) rfl ?_;refine #[((sj.3 sk').3 slm).40 hL,_,_,rfl,aD,?_];rw[<- Rx (by rw[lA,hB]) eB2];show jK (ce (λ_ _ z=>gI.upd (gI.same z slm) gLm) prk) s #[r5,rfl,((sj.3 sk').3 sl).19 n5,r5L,R5._A gLm r5L]
    ·rintro σ' Hj ⟨sj,y,vs',rfl,gLj,prj⟩;rw[aF (),List.drop_eq_nil_of_le (),d9] at prj;exists #[sj,_,ps++[P],some (.int P),some (.int t),y,vs',?_,gLj,prj,I2];rw[ar,aY,show ((ps.9:Int)+1)=((ps.9+1:Nat):Int) by lia];rfl
  ·have te:t=rs.9:=by
    rcases aX t rs.9 with z | z
    ·show absurd (decide_eq_true (show (t:Int) < (rs.9:Int) by lia)) h
    ·lia
   exists #[_,_,rfl,.inl (bA.of gLa),?_];rw[<- lv];walk_at "w";rw[decide_eq_false (show ¬(t:Int) < (rs.9:Int) by lia)];exists #[s'.3 sa,rs,ps,_,_,_,vs,rfl,gLa,pra,I.skip λi h1 h2=>hz i h1 ()]
 rintro σ' H' ⟨s',rs,ps,y1,y2,y3,vs,rfl,gL,pr,I⟩;exists zx (bA.of gL) λsl H3 s3 n3 g3=>?_
 rw[JN] at g3;show k sl _ ps H3 (s'.19 n3) (s'.3 s3) (EM (qv (ce (λ_ _ z=>gI.ahY z) pr) ps.9) s3 n3 g3) (I.done hw) I.km.1
theorem qo:sC ["_law_one","_law_other","_law_total","_law_k"] 2 xp:=by walk_at "d"
theorem Je (T:Txt K mg Z) (ac:bv P):T.qD.o P w base 3 (Fs K):=by
 refine T.qD.F.k qo ?_;walk_at "i";obtain p|q|xs|ys|rfl|hp|hq|hl|hz|⟨k1,j1,k2,j2,h1,h2,hkj⟩|kk:=h
 refine #[_,(ao (eZ 2 qo.nd (dh (cI aj aj)))
  (ao (fw Zb rfl (cu rfl T.38 (cQ (a8 aS (by rfl) T.31 aK (cQ bI)))) (fA 3 qo.nd)
   (av (eZ 2 qo.nd (cH (qC T ac) hr T.jN (cI eQ (cH (oJ T ac) hr T.iS (cI (aN bC bI kb) (aN bC cE kb))))))))
  (av (aT eQ)))),?_]
 left
 obtain us|gu|qu:=id hp;obtain ws|gw|qw:=id hq;have lu:=qu.9;have lw:=qw.9;exists cB λr0 H0 s0 g0=>?_
 exists #[_,_,rfl,.inl (bA.of (s0 _ _ gu)),?_];exists #[(),(),?_];refine eF (n:=us.9) (λi σ' H'=>aG H H'/\∃(r:V) (v:Option V),σ'=[some (.ref p),some (.ref q),some r,v]/\cg K H' (fe (xs.21 i) (ys.21 i)) r) #[s0,_,none,rfl,cg.mk g0 rfl] ?_ ?_
 ·rintro i σ' H' hi ⟨s,r,v,rfl,hr⟩;have ix:i < xs.9:=()
  have iy:i < ys.9:=()
  obtain vx|ex|nx:=Jp (ce (λ_ _ z=>z.10 s) qu) ix;obtain vy|ey|ny:=Jp (ce (λ_ _ z=>z.10 s) qw) iy;exists b8 (bA.of (s _ _ gu)) ex ?_;exists b8 (bA.of (s _ _ gw)) ey ?_;exists #[_,_,_,_,rfl,nx,ny,h1.szn (getD_mem ix) (),h2.szn (getD_mem iy) (),λr3 H3 s3 n3=>?_];exists #[_,_,_,_,rfl,hr.10 s3,n3,QE h1 h2 hz i hkj,PU (h1.one (getD_mem ix)) (h2.one (getD_mem iy)) hkj,λr4 H4 s4 n4=>?_];exists #[(s.3 s3).3 s4,_,_,rfl,by rw[EV ix iy];show n4]
 ·rintro σ' H' ⟨s,r,v,rfl,hr⟩;rw[aF (),aF ()] at hr;obtain t|rfl|ht:=hr;exists kk _ H' s #[t,rfl,ht]
theorem KN:sC ["_law_grid","_law_row_here"] 2 zo:=by walk_at "d"
theorem xB (T:Txt K mg Z) (ac:bv P):T.mY.o P w base 4 (Fq K):=by
 refine T.mY.F.k KN ?_;walk_at "i";obtain p|q|H0|rows|ys|rfl|hp|hq|hz|hl|hr1|kk:=h;refine #[_,(av (aT (b6 ["_law_one"] ["_law_row_here"] [1] (cF bI) (λ_=>(fA 0)) (λ_=>cp) (λ_=>(cH (Je T ac) hr T.qD (cI bI cE)))))),?_];left
 obtain xs|gx|qx|_:=id hp;exists #[#[_,bA.of gx],?_];refine dw (K:=K) (F:=cO K H0) (cg K) (λxs=>fe xs ys) gx qx hz (λa b=>a.10 b) (λa b=>a.10 b) ?_ ?_
 ·rintro i ns x H' NY NN en s ⟨u,rfl,_,hu⟩ k;obtain e1|e2:=hr1 ns (ai en);exists #[u,q,ns,ys,rfl,hu,hq.10 s,e1.26,(),e2,λr H2 s2 h2'=>k _ _ s2 h2']
 ·rintro b! H' r hr s g pr nx;show kk r H' hr s #[b!,g,pr]
theorem jb:sC ["_law_parts_here","_law_rows","_law_some","_law_k"] 1 sX:=by walk_at "d"
theorem wH (T:Txt K mg Z) (ac:bv P):T.ko.o P w base 5 (Bq K):=by
 refine T.ko.F.k jb ?_;walk_at "i";obtain r|a|c|H0|Hz|mv|pt|lk|rfl|PQ|D|KF|z0|z1|k:=h
 refine #[_,(ao (eZ 1 jb.nd (fB lJ))
  (ao (eZ 2 jb.nd (fj oR (by rfl) T.32 Zn (cQ (aN bN bI aj))))
  (ao (fw Zb rfl (cu rfl T.38 (cQ (a8 aS (by rfl) T.31 aK (cQ (aN bN bI aj))))) (fA 3 jb.nd)
   (ao (eZ 1 jb.nd (bB rh cE eQ))
  (av (lI 2 ["_law_row_here"] ["_law_parts_here"] [0] jb.nd rfl rfl (cF eQ) (λ_=>(fA 0)) (λ_=>cp) (λ_=>(cH (xB T ac) hr T.mY (cI (aN (tW K (by rfl)) cE aj) bI)))))))
  (av (aT cE))))),?_]
 left
 obtain m|p|l|g|n1|n2|n3|Gm|Gp|Gl:=id PQ;obtain ms|gm|qm|_:=id Gm;obtain qs|gp|qp|_:=id (Gp.aaY z0);have lms:=qm.9;have lqs:=qp.9;have d8:=D.n8;have i4:=D.i4;exists dC λro H1 s1 nro g1=>?_
 have gr1:=s1 _ _ g;have gp1:=s1 _ _ gp;exists #[p,qs,rfl,.inl (bA.of gp1),λso nso=>?_];have s2:aG H1 (upd H1 so (.lst qs)):=aG.new nso;have g2:(upd H1 so (.lst qs)) so=some (.lst qs):=aD;generalize upd H1 so (.lst qs)=H2 at s2 g2 ⊢;have u!:=s1.3 s2;have gr2:=u! _ _ g;exists #[_,_,rfl,.inl (bA.of (u! _ _ gm)),?_];rw[<- lms];exists #[(),(),?_];have q1:Y9 (cO K Hz H1) pt qs:=ce (λ_ _ z=>cO.same z s1) qp;refine eF (n:=mv.9) (λj σ' H'=>aG H H'/\∃ro so y,σ'=[some (.ref r),some (.ref ro),some (.ref so),y]/\H ro=none/\bf K Hz H' ro (iI mv pt j)/\bf K Hz H' so (pt.12 (jI mv j))) #[u!,ro,so,_,rfl,nro,#[[],s2 _ _ g1,.nil,(λz=>nomatch z)],#[qs,g2,?_,iW #[_,nso,q1]]] ?_ ?_
 ·rw[show pt.12 (jI mv 0)=pt from List.map_id' ..];show ce (λ_ _ z=>cO.same z s2) q1
 ·rintro j σ' H' hj ⟨s',ro,so,y,rfl,nro,Ga,Gb⟩;obtain xs|ga|qa|_:=id Ga;obtain ys|gb|qb|_:=id Gb;have lxs:=qa.9;have lys:=qb.9;rw[AZ] at lxs;rw[af] at lys;have b1:j*pt.9<=8*4:=aL () i4;exists rd ga gb mH λl3 H3 s3 n3 g3=>?_
  have q3:=cm qa qb
  have G3:bf K Hz H3 l3 (iI mv pt (j+1)):=by
   rw[Jm];show #[_,g3,ce (λ_ _ z=>cO.same z s3) q3,iW #[_,n3,q3]]
  have Gb3:=Gb.10 s3;obtain zs|gz|qz|_:=id Gb3;have t!:=s'.3 s3;have gr3:=t! _ _ g;exists #[#[_,bA.of gz],?_];refine dw (K:=K) (F:=cO K Hz) (cO K Hz) (il mv) gz qz (by rw[af];lia) (λa b=>a.10 b) (λa b=>a.10 b) ?_ ?_
  ·rintro i xs v H4 NY NN en s4 ⟨u,rfl,_,hu⟩ k1;have mn:=ai en
   have wx:xs.9=mv.9:=by
    obtain y0|h0|rfl:=au.mp mn;show FQ (D.pw y0 h0) _
   have gr4:=s4 _ _ gr3;exists #[m,u,H0,mv,xs,rfl,(Gm.10 t!).10 s4,hu,(),(),λws hw=>#[by rw[D.mw ws hw,wx],KF.akl D.mw D.pw (show j+1<=mv.9 by lia) ws hw xs mn],λr5 H5 n5 s5 R5=>k1 _ _ s5 #[r5,rfl,z1 _ (t!.19 (s4.19 n5)),R5]]
  rintro ys4 H4 l4 n4 s4 g4 pr4 nx4;walk_at "w";rw[Px] at pr4;show #[t!.3 s4,l3,l4,_,rfl,s'.19 n3,G3.10 s4,ys4,g4,pr4,iW nx4]
 ·rintro σ' H' ⟨s',ro,so,y,rfl,nro,Ga,Gb⟩;exists k ro H' nro s' Ga
theorem uS:sC ["_law_parts_here","_law_n"] 1 qV:=by walk_at "d"
theorem Cv (T:Txt K mg Z) (ac:bv P):T.lZ.o P w base 1 (Bn K):=by
 refine T.lZ.F.k uS ?_;walk_at "i";obtain r|H0|mv|pt|lk|rfl|PQ|D|hn|k:=h
 refine #[_,(ao (eZ 1 uS.nd (a8 aS (by rfl) T.31 aK (cQ (aN bN bI aj))))
  (av (aT (dh (zC (b6 ["_law_j"] ["_law_parts_here"] [0] (cu rfl T.38 (cQ cE)) (λ_=>(fA 0)) (λ_=>cp) (λ_=>(b6 ["_law_row_here"] ["_law_j"] [0] (Ca K (aN (tW K (by rfl)) cE aj)) (λ_=>(fA 0)) (λ_=>cp) (λ_=>(aN (fI K (by rfl)) bI cE))))) (aN bN bI aj) (aN bN bI aj)))))),?_]
 left
 obtain m|p|l|g|n1|n2|n3|Gm|Gp|Gl:=id PQ;have d1:=D.n8;obtain ms|gm|qm|_:=id Gm;have lms:=qm.9;exists #[_,_,rfl,.inl (bA.of gm),?_];rw[<- lms];exists #[(),(),?_];refine iG (n:=mv.9) (cO K H) (λj=>mv.12 λxs=>xs.4 j 0) () (λa b=>a.10 b) ?_ ?_
 ·rintro i Ha NY NN hi sa k1;have ga:=sa _ _ g;have gma:=sa _ _ gm;exists #[#[_,bA.of gma],?_];refine dw (K:=K) (F:=cO K H0) (cg K) (λxs=>xs.4 i 0) gma (ce (λ_ _ z=>cO.same z sa) qm) () (λa b=>a.10 b) (λa b=>a.10 b) ?_ ?_
  ·rintro j row v Hb NY2 NN2 en sb ⟨q,rfl,_,Rq⟩ k2;obtain zs|gz|qz:=id Rq;obtain vx|ex|nx:=Jp qz (j:=i) (by rw[D.mw row (ai en)];show hi);exists b8 (bA.of gz) ex ?_;show k2 _ _ (aG.refl _) nx
  ·rintro ys Hb t ht sb g' pr nx;show k1 _ _ sb #[t,rfl,sa.19 ht,ys,g',pr]
 rintro ys H1 t ht s1 g1 pr nx;have g1t:=s1 _ _ g;exists cB λt2 H2 s2 g2=>?_
 have s12:=s1.3 s2;have Gt:bf K H0 H2 t (a9 mv mv.9):=#[ys,s2 _ _ g1,ce (λ_ _ #[q,a,b,c]=>#[q,a,hn q b,c.10 s2]) pr,iW nx];show k t2 H2 s12 #[t,l,p,g2,hn t ht,n3,n2,Gt,Gl.same s12,Gp.10 s12]
theorem zb:sC ["self"] 1 gN:=by walk_at "d"
theorem zG (T:Txt K mg Z) (ac:bv P):kB P w K mg base Eb 1 Z.oE Z.oz ["self"] (Ey K Z._c Z._f):=by
 refine T.uA.k zb ?_;walk_at "i";obtain x|dx|sy|a|m|H0|mv|pt|lk|N|g|rfl|X|g9|k:=h;refine #[_,(av (aT (fj oR (by rfl) T.32 Zn (cQ (ck bI rfl))))),?_];left
 have gx:=X.i;obtain ws|gw|qw:=id X.R;exists #[x,Z._f,dx,_,_,rfl,gx,T._s,T._w,CM,?_];exists #[a,ws,rfl,.inl (bA.of gw),λc nc=>?_];have sc:aG H (upd H c (.lst ws)):=aG.new nc;show k c _ nc sc #[ws,aD,ce (λ_ _ z=>cg.same z sc) qw]
theorem BP:sC ["self","state"] 2 jf:=by walk_at "d"
theorem Cz (T:Txt K mg Z) (ac:bv P):kB P w K mg base Eb 6 Z.rC Z.rA ["self","state"] (Ip K Z._c):=by
 refine T.wO.k BP ?_;walk_at "i";obtain x|p|H0|mv|pt|lk|st|rfl|S|D|F|hp|l1|fs|k:=h;refine #[_,(av (aT (cH (pG T ac) hr T.gi (cI (ck bI rfl) cE)))),?_];left
 obtain dx|a|b|c|gx|n1|n2|n3|Ga|Gb|Gc:=id S;have d3:=D.o4;have d1:=D.n8;exists #[x,Z._c,dx,_,_,rfl,gx,T._e,T.i!,Bi,?_];exists #[c,p,H0,lk,st,rfl,Gc,hp,(),(),λxs hx=>#[by rw[D.lw xs hx,l1],.sys (F.fits λy hy=>.inr (.inr (.inl #[xs,hx,hy]))) fs],k]
theorem uh:sC ["self","puts","looks","wrong"] 3 iC:=by walk_at "d"
theorem As (T:Txt K mg Z) (ac:bv P):kB P w K mg base Eb 7 Z.pT Z.pN ["self","puts","looks"] (Im K Z._c Z._f):=by
 refine T.vP.k uh ?_;walk_at "i";obtain x|dx|sy|a|m|u|y|H0|mv|pt|lk|N|g|st|pu|rfl|X|D|SF|lN|wN|Ru|Ry|lg|lu|T8|k:=h
 refine #[_,(ao (eZ 3 uh.nd (cH (tH T ac) hr T.jS (cI (yc (ck bI rfl) T._e T.vC (Cz T ac) (hr.24 ()) T.wK .nil uk (cQ (ck bI rfl))) eQ)))
  (av (ot bI (cH (Ad T ac) hr T.nW (cI (yc (ck bI rfl) T._e T.ou (uq T ac) (hr.24 ()) T.pP .nil uk (cI (ck bI rfl) cE)) (cH (pG T ac) hr T.gi (cI (ck bI rfl) kb)))) rfl))),?_]
 left
 have gx:=X.i;have d8:=D.n8;have i4:=D.i4;have o4:=D.o4;have lsn:∀z,(seenQ lk z).9=lk.9:=λz=>af ..
 obtain dy|n1|n2|n3|gy|_|_|_|_|_|_:=id X.S;exists #[x,Z._f,dx,_,_,rfl,gx,T._s,T._z,EL,?_];exists #[sy,dy,_,rfl,gy,O0,?_];exists #[x,Z._f,dx,_,_,rfl,gx,T._s,T._w,CM,?_];refine #[sy,a,H0,mv,pt,lk,g,rfl,X.S,D,SF,X.R,lg,T8.fg,λr1 H1 n1' s1 R1=>?_];exists #[r1,y,_,_,rfl,R1,Ry.10 s1,by rw[lsn,lsn],by rw[lsn];lia,T8.z1,T8.z2,λw H2 nw s2 Rw=>?_];have u!:=s1.3 s2;have gx2:=u! _ _ gx;have gy2:=u! _ _ gy;exists #[x,Z._f,dx,_,_,rfl,gx2,T._s,T._z,EL,?_];exists #[sy,dy,_,rfl,gy2,Eg,?_];exists #[x,Z._f,dx,_,_,rfl,gx2,T._s,T._w,CM,?_];exists #[sy,a,u,H0,mv,pt,lk,g,pu,rfl,X.S.10 u!,D,SF,X.R.10 u!,Ru.10 u!,lg,lu,T8.fm,λr3 H3 n3' s3 R3=>?_];have t!:=u!.3 s3;have gx3:=t! _ _ gx;exists #[x,Z._f,dx,_,_,rfl,gx3,T._s,T._F,Qj,?_];exists #[m,w,H0,N,_,rfl,X.G.10 t!,Rw.10 s3,(),by rw[aJ,lsn,lsn];lia,λxs hx=>#[by rw[aJ,lsn,lsn,wN xs hx];lia,T8.fn xs hx],λr4 H4 n4 s4 R4=>?_];have lm:=tO (st:=g) (pu:=pu) D;exists #[r3,r4,_,_,rfl,R3.10 s4,R4,by rw[af,lN,lm],(),T8.p1,T8.p2,λr5 H5 n5 s5 R5=>?_];have s05:=(t!.3 s4).3 s5;have gx5:=s05 _ _ gx;exists #[x,Z._f,dx,_,rfl,gx5,T._s,T._w,by rw[V8];decide,?_];rw[V7];show k r5 _ ((t!.3 s4).19 n5) (λb o h n=>by rw[aR n];show s05 _ _ h) aD (R5.exc yL.upd #[_,_,_,gx5])
theorem rJ:sC ["self","looks","puts"] 2 gM:=by walk_at "d"
theorem zF (T:Txt K mg Z) (ac:bv P):kB P w K mg base Eb 8 Z.oC Z.oy ["self","looks"] (Em K Z._c Z._f Z._l):=by
 refine T.uz.k rJ ?_;walk_at "i";obtain z|dz|w|x|dx|sy|a|m|y|H0|mv|pt|lk|N|F|g|st|rfl|gz|nw|Gw|X|D|SF|lN|wN|lF|wF|Ry|lg|T8|ft|su|k:=h
 refine #[_,(ao (eZ 2 rJ.nd (cH (pG T ac) hr T.gi (cI (ck bI rfl) (Cb (ck bI rfl) T._s T.rN (zG T ac) (hr.24 ()) T.ux .nil uk))))
  (ao (jv (yc (ck bI rfl) T._s T.uu (As T ac) (hr.24 ()) T.vK .nil uk (cI eQ cE)))
  (av (aT eQ)))),?_]
 left
 have gx:=X.i;have d8:=D.n8;have i4:=D.i4;exists #[z,Z._l,dz,_,_,rfl,gz,T._O,T._S,Sw,?_];exists #[z,Z._l,dz,_,_,rfl,gz,T._O,T._C,BY,?_];exists #[x,dx,_,rfl,gx,Ql,?_];refine #[x,dx,sy,a,m,H0,mv,pt,lk,N,g,rfl,X,(),λr1 H1 n1 s1 R1=>?_];exists #[w,r1,H0,F,_,rfl,Gw.10 s1,R1,(),(),λxs hx=>#[by rw[wF xs hx,lg],ft xs hx],λu H2 nu s2 R2=>?_];have u!:=s1.3 s2;exists #[z,Z._l,dz,_,_,rfl,u! _ _ gz,T._O,T._C,BY,?_];exists #[x,dx,_,rfl,u! _ _ gx,S6,?_];exists #[x,dx,sy,a,m,u,y,H0,mv,pt,lk,N,g,st,_,rfl,X.10 u!,D,SF,lN,wN,R2,Ry.10 u!,lg,by rw[af,lF],T8,λa' H3 na e3 gx3 Ra=>?_];have ix:qF H2 x:=#[_,_,_,u! _ _ gx];walk_at "w";have ua:u≠a':=λe=>by obtain _|g|_:=R2;rw[e,na] at g;cases g
 show k u a' H3 (s1.19 nu) (u!.19 na) ua (λb o q n=>e3 _ _ (u! _ _ q) n) gx3 (R2.exc e3 ix) Ra
theorem qj:sC ["_law_thing","_law_part"] 1 mV:=by walk_at "d"
theorem ym (T:Txt K mg Z) (ac:bv P):T.jy.o P w base 2 (Nz K):=by
 refine T.jy.F.k qj ?_;walk_at "i";obtain x|n|rfl|⟨p,rfl,hp⟩|hn|k:=h
 refine #[_,(ao (dj (PW.pt (ui (rf (mW (AS rfl T.54 PyProof.Rows.boot_tuple T.58 bI))) (oq (bw yf (a8 aS (by rfl) T.31 aK (cQ bI)) aj (bx _))))) (av (aT z8)) b9)
  (ao (fw Zb rfl (VF bI) (fA 1 qj.nd)
   (av (dj (PW.pt (ui (rf (mW (AS rfl T.54 Zv T.int cE))) (oq (mW (AS rfl T.54 PyProof.Rows.boot_bool T.bool cE))))) (av (aT z8)) b9)))
  (av (aT (K2 (iN Aa (aN bN bI aj) aj (bx _)) (FT (iN (K3 (Jq hr)) (cH (iH T ac) hr T.eV (cI (aN bN bI aj) (aN bN bI aj))) bI (bx _)))))))),?_]
 left
 obtain hb|hg|_|hs:=hn;exists .inr #[p,_,_,rfl,hp,rfl,?_];exists #[_,_,rfl,.inr hp,?_];walk_at "w"
 try refine S0 ?_
 exists #[#[_,hp],?_];refine Tb (K:=K) (a:=p) (xs:=[.int n.1,.int n.2]) (λi σ' H'=>H'=H/\∃x,σ'=[some (.ref p),x]) #[rfl,none,rfl] (λi σ' H' _ #[e,_]=>by subst e;show hp) ?_ ?_
 ·rintro i x σ' H' hx ⟨rfl,y,rfl⟩
  obtain ⟨z,rfl⟩:∃z,x=V.int z:=by
   have hm:x∈[V.int n.1,V.int n.2]:=ai hx;simp only[ax,aI,or_false] at hm;rcases hm with e | e
   ·show #[_,e]
   ·show #[_,e]
  exists .inl #[_,_,.int z,rfl,?_];exists .inl #[_,_,.int z,rfl,?_];exists #[rfl,_,rfl]
 ·rintro σ' H' ⟨rfl,x,rfl⟩;walk_at "w";rw[decide_eq_true hb];exists #[n.1,n.2,rfl,hb,hs.24 (),λr H' s1 h'=>?_];obtain e1|e2:=VQ hb hg;exists #[_,_,XT,(lo n.1 n.2,hi n.1 n.2),n,(),#[r,rfl,ue.of h'],#[p,rfl,s1.sqt hp],?_];rw[e1,e2,decide_eq_true rfl];show k _ s1
theorem BM:sC ["_law_thing","_law_many"] 2 qX:=by walk_at "d"
theorem Cy (T:Txt K mg Z) (ac:bv P):T.mi.o P w base 3 (yW K):=by
 refine T.mi.F.k BM ?_;walk_at "i";obtain p|ns|rfl|hp|hl|hn|k:=h
 refine #[_,(ao (dj (PW.pt (ui (rf (mW (Cd rfl T.54 Zn T.32 bI))) (oq (bw yf (a8 aS (by rfl) T.31 aK (cQ bI)) cE (bx _))))) (av (aT z8)) b9)
  (av (aT (a8 (C0 rfl) (by rfl) T.all PyProof.Rows.boot_all (cQ (b6 ["_law_one"] [] [] (cF bI) (λ_=>(fA 0)) (λ_=>cp) (λ_=>(cH (ym T ac) hr T.jy (cQ bI))))))))),?_]
 left
 obtain xs|gx|qx:=id hp;have lx:=qx.9;exists #[_,_,.lst gx,rfl,?_];exists #[_,_,rfl,.inl (bA.of gx),?_];walk_at "w";rw[show ((xs.9:Nat):Int)=(ns.9:Nat) by rw[lx],decide_eq_true rfl];exists #[#[_,bA.of gx],?_];refine fo (K:=K) (xs:=xs) (λi ys H'=>aG H H'/\ys=Wb i (.bl true)) mH #[aG.refl _,rfl] (λi ys H' _ #[s,_]=>bA.of (s _ _ gx)) ?_ ?_
 ·rintro i x ys H' hx _y ⟨s,rfl⟩;obtain n|en|z:=bW qx hx;exists #[x,n,rfl,s.num z,hn n (ai en),λH2 s2=>#[s.3 s2,by rw[List.replicate_succ']]]
 ·rintro ys H' hy ⟨s,rfl⟩ l K!;exists #[l,Wb xs.9 true,rfl,bA.of (by rw[aD];simp),?_];have e4:(Wb xs.9 true).all id=true:=by simp
  rw[e4];show k _ (s.3 (aG.new K!))
theorem iM:sC ["_law_parts_here","_law_state","_law_puts","_law_move_here","_law_put","_law_look","_law_found","_law_k"] 3 vg:=by walk_at "d"
theorem F6 (T:Txt K mg Z) (ac:bv P):T.oN.o P w base 5 (Iu K):=by
 refine T.oN.F.k iM ?_;walk_at "i";obtain r|s0|u0|H0|mv|pt|lk|st|pu|rfl|PQ|D|hs|hu|l1|l2|NX|k:=h
 refine #[_,(ao (fM bI (zB rfl (bZ (fA 3 iM.nd) (bZ (fA 4 iM.nd) (bZ (fA 5 iM.nd) gR)))))
  (ao (eZ 6 iM.nd (cH (xB T ac) hr T.mY (cI kb cE)))
  (ao (fw Zb rfl (cu rfl T.38 (cQ (a8 aS (by rfl) T.31 aK (cQ rX)))) (fA 7 iM.nd)
   (av (eZ 6 iM.nd (cH (yi T ac) hr T.md (cI wB (cH (tJ T ac) hr T.kM (cI (aN bC eQ Ao) (aN bC rX Ao))))))))
  (av (aT wB))))),?_]
 left
 obtain m|p|l|g|n1|n2|n3|Gm|Gp|Gl:=id PQ;have d1:=D.n8;have d2:=D.i4;exists #[m,s0,H0,mv,st,rfl,Gm,hs,(),(),λxs hx=>#[by rw[D.mw xs hx,l1],NX.f2 xs hx],λf H1 nf s1 R1=>?_];obtain ps|gp|qp|_:=Gp.10 s1;have lp:=qp.9;exists #[_,_,rfl,.inl (bA.of gp),?_];exists #[(),(),?_];refine eF (n:=ps.9) (λkk σ' H'=>∃(f:Addr) (x:Option V),σ'=[some (.ref r),some (.ref s0),some (.ref u0),some (.ref m),some (.ref p),some (.ref l),some (.ref f),x]/\H f=none/\aG H1 H'/\cA K H' f (nextK mv pt st pu kk)) #[f,none,rfl,nf,aG.refl _,by rw[K8];show R1] ?_ ?_
 ·rintro kk σ' H' hk ⟨f',x,rfl,nf',s',R'⟩;have kp:kk < pt.9:=()
  have ku:kk < pu.9:=()
  obtain zs|gz|qz:=(hu.10 s1).10 s';have lz:=qz.9;obtain vu|eu|nu:=Jp qz ku;obtain row|vr|er|ev|mr|q|rfl|_|Rq:=fD qp kp
  have er':pt[kk]=row:=by
   rw[ae kp] at er;show bU er
  have eu':pu.4 kk 0=pu[kk]:=by rw[aa,ae ku];rfl
  have mu:pu.4 kk 0∈pu:=getD_mem ku;exists b8 (bA.of gz) eu ?_;exists b8 (bA.of (s' _ _ gp)) (dM ev) ?_;exists #[vu,q,_,row,rfl,nu,NX.su _ mu,Rq.10 s',by rw[D.pw row mr];lia,NX.sp row mr,λr1 H2 n1' s2 R2=>?_];exists #[f',r1,_,_,rfl,R'.10 s2,R2,by rw[af,kU,D.pw row mr],by rw[kU];lia,NX.part kk,λy hy=>?_,λr2 H3 n2' s3 R3=>?_]
  ·obtain y'|hy'|rfl:=au.mp hy;show NX.mul _ mu row mr y' hy'
  ·exists #[s1.19 (s'.19 (s2.19 n2')),(s'.3 s2).3 s3,?_];have e:=K9 (st:=st) (pu:=pu) (λxs hx=>by rw[D.mw xs hx,l1]) kp ku (by rw[er'];show D.pw row mr);rw[er',<- eu'] at e;rw[<- e];show R3
 ·rintro σ' H' ⟨f',x,rfl,nf',s',R'⟩;rw[vW () ()] at R';exists k f' H' nf' (s1.3 s') R'
theorem je:sC ["_law_pilot_here","_law_parts_here","_law_state","_law_last","_law_held","_law_looks","_law_shown","_law_told","_law_puts","_law_k"] 5 tu:=by walk_at "d"
theorem DK (T:Txt K mg Z) (ac:bv P):T.nK.o P w base 9 (BI K Z._c Z._f Z._l):=by
 refine T.nK.F.k je ?_;walk_at "i";obtain z|dz|w|x|dx|sy|a|m|r|s|h|H0|H1|ws|mv|pt|lk|N|F|g|st|la|rfl|gz|nw|Gw|X|PQ|D|SF|lN|wN|lF|wF|Rs|lg|ls|T8|ft|su|gh|l9|sh9|h19|lz|k:=h
 refine #[_,(ao (eZ 5 je.nd (cH (xB T ac) hr T.mY (cI (aN bN cE aj) eQ)))
  (ao (eZ 6 je.nd (fj (kr K (by rfl)) (by rfl) T.32 Zn (cQ z7)))
  (ao (eZ 7 je.nd (yc bI T._O T.rM (zF T ac) (hr.24 ()) T.uw .nil uk (cQ wB)))
  (ao (dj (PW.pt (ui (bw (Cj (Jq hr)) wB z7 (bx _)) (oq (rf (mW (cH (Cy T ac) hr T.mi (cI Ao (a8 aS (by rfl) T.31 aK (cQ (aN bN cE aj)))))))))) (av (aT tz)) b9)
  (ao (eZ 8 je.nd (fj (kr K (by rfl)) (by rfl) T.32 Zn (cQ Ao)))
  (gO (dj (mW kb) (av (jv (yd cZ cS cR jQ Ao (cQ (dh (cI aj aj)))))) (av (jv (yd cZ cS cR jQ rX (cQ (dh (cI Ao Dz)))))))
  (ao (fw Zb rfl (cu rfl T.38 (cQ (a8 aS (by rfl) T.31 aK (cQ wB)))) (fA 9 je.nd)
   (av (fM (dh (cI aj aj)) (gg wB (pv 9) set_list))))
  (ao (jv (yd cZ cS cR jQ wB (cQ (dh (cI aj aj)))))
  (gO (dj (PW.pt (j9 (mW kb) (kD (PW.pt (ui (bw (Cj (Jq hr)) Dz (bB PD (fB (cQ (dh (cI aj aj)))) (a8 aS (by rfl) T.31 aK (cQ Dz))) (bx _)) (oq (bw (Cj (Jq hr)) eQ (bB PD (fB (cQ (dh (cI aj aj)))) (a8 aS (by rfl) T.31 aK (cQ eQ))) (bx _)))))))) (av (aT tz)) b9)
  (av (aT (cH (F6 T ac) hr T.oN (zC cE eQ Dz))))))))))))),?_]
 left
 obtain mm|pp|ll|gt|mn|pn|ln|Gm|Gp|Gl:=id PQ;obtain ups|gpp|qpp|_:=id Gp;have gx:=X.i;have d8:=D.n8;have i4:=D.i4;have o4:=D.o4;have lu:(il F g).9=pt.9:=by unfold il;rw[af,lF]
 exists #[ll,s,_,lk,st,rfl,Gl,Rs,(),(),λxs hx=>#[by rw[D.lw xs hx,ls],T8.fs xs hx],λlo H2 nlo s2 R2=>?_];replace R2:cA K H2 lo (seenQ lk st):=R2;obtain lw|glo|qlo:=id R2;exists #[lo,lw,rfl,.inl (bA.of glo),λsh nsh=>?_];have s3:aG H2 (upd H2 sh (.lst lw)):=aG.new nsh;have R3:cA K (upd H2 sh (.lst lw)) sh (seenQ lk st):=#[lw,aD,ce (λ_ _ z=>cg.same z s3) qlo];generalize upd H2 sh (.lst lw)=H3 at s3 R3 ⊢;have t!:=s2.3 s3;have hx3:=t! _ _ gx;have hz3:=t! _ _ gz;exists #[z,dz,_,rfl,hz3,VE,?_];exists #[z,dz,w,x,dx,sy,a,m,sh,H0,mv,pt,lk,N,F,g,st,rfl,hz3,nw,Gw.10 t!,X.10 t!,D,SF,lN,wN,lF,wF,R3,lg,T8,ft,su,λu a' H4 nu na ua e4 gx4 Ru Ra=>?_];have ix:qF H3 x:=#[_,_,_,hx3];have Q2:=(R2.same s3).exc e4 ix;have Q3:=R3.exc e4 ix;exists #[_,_,Jo,_,_,(),Q3.44,Q2.44,?_];rw[decide_eq_true rfl];have r4:∀b o,H b=some o->b≠x->H4 b=some o:=λb o q n=>e4 _ _ (t! _ _ q) n
 have gt4:=r4 _ _ gt λe=>by rw[e,gx] at gt;cases gt
 have gp4:=r4 _ _ gpp λe=>by rw[e,gx] at gpp;cases gpp
 exists #[_,_,rfl,.inl (bA.of gp4),?_];rw[<- qpp.9];exists #[u,(il F g).12 nm,by rw[af,lu],Ru.aaF,by rw[af];lia,λm hm=>?_,λH5 s5=>#[true,rfl,?_]]
 ·obtain q|hq|rfl:=au.mp hm;show Fm (su q hq)
 rw[if_neg ()];obtain wu|gu5|qu5:=id (Ru.10 s5);have lwu:=qu5.9;exists #[u,wu,rfl,.inl (bA.of gu5),λpu npu=>?_];have s6:aG H5 (upd H5 pu (.lst wu)):=aG.new npu;have R6:cA K (upd H5 pu (.lst wu)) pu (il F g):=#[wu,aD,ce (λ_ _ z=>cg.same z s6) qu5];generalize upd H5 pu (.lst wu)=H6 at s6 R6 ⊢;have s46:=s5.3 s6;have gu6:=s6 _ _ gu5;have Ru6:=Ru.10 s46;have Ra6:=Ra.10 s46;have gx6:=s46 _ _ gx4;have r6:∀b o,H b=some o->b≠x->H6 b=some o:=λb o q n=>s46 _ _ (r4 b o q n)
 have gh6:=r6 _ _ gh λe=>by rw[e,gx] at gh;cases gh
 have R36:=Q3.10 s46;obtain w3|g36|q36:=id R36
 have abI:H pu=none:=by
  cases e:H pu with
  | none=>rfl
  | some o =>
   by_cases z:pu=x
   ·rw[z,s5 _ _ gx4] at npu;cases npu
   ·rw[s5 _ _ (r4 _ _ e z)] at npu;cases npu
 have nu0:H u=none:=t!.19 nu;have hu:h≠u:=λe=>by rw[e,nu0] at gh;cases gh
 have abH:H sh=none:=s2.19 nsh;have hsh:h≠sh:=λe=>by rw[e,abH] at gh;cases gh
 have ush:u≠sh:=λe=>by obtain _|g|_:=R3;rw[e] at nu;rw[nu] at g;cases g
 have psh:pu≠sh:=λe=>by obtain _|g|_:=Q3.10 s5;rw[<- e,npu] at g;cases g
 have aif:pu≠u:=λe=>by rw[<- e,npu] at gu5;cases gu5
 exists #[λσ' H'=>∃ws',σ'=[some (.ref z),some (.ref r),some (.ref s),some (.bl la),some (.ref h),some (.ref lo),some (.ref sh),some (.ref u),some (.ref pu),none]/\Wx (λp=>p=u\/p=h) (λ_=>False) H6 H'/\H' h=some (.lst ws')/\ws'.9<=ws.9+1/\∀v∈ws',v∈ws\/zV K (λp=>H p≠none\/p=sh) H' v,?_,?_]
 ·exists jm (λhl=>?_) (λhl=>?_)
  ·exists #[.inl #[rfl,_,bA.of gu6],?_];exists cB λt7 H7 s7 g7=>?_
   exists jO (s7 _ _ gu6) (dn ()) ?_;exists #[ws,rfl,(Wx.of s7).3 (Wx.set (s7 _ _ gu6) (.inl rfl)),by rw[aR hu];show s7 _ _ gh6,(),λv hv=>.inl hv]
  ·exists #[.inl #[rfl,_,bA.of gh6],?_];exists cB λt7 H7 s7 g7=>?_
   have gh7:=s7 _ _ gh6;exists jO gh7 (dn ()) ?_;exists #[_,rfl,(Wx.of s7).3 (Wx.set gh7 (.inr rfl)),aD,by rw[ar];show ah _,λv hv=>?_];rcases aB.mp hv with hv | hv
   ·show .inl hv
   ·cases aM.mp hv;have ht7:t7≠h:=λe=>by rw[e,gh7] at g7;cases g7
    have hpu:pu≠h:=λe=>by rw[e,gh] at abI;cases abI
    show .inr #[t7,u,pu,_,rfl,by rw[aR ht7];show g7,(Ru6.10 s7)._A gh7 hu.26,(R6.10 s7)._A gh7 hpu,λz=>z.45 (λz=>z nu0) ush,λz=>z.45 (λz=>z abI) psh,()]
 rintro σ' H7 ⟨ws',rfl,k7,gh7,lw7,hv7⟩;have j7:∀{p:Addr} {qs:List Rat},cA K H6 p qs->p≠u->p≠h->cA K H7 p qs:=λR a b=>R.wx k7 λz=>z.45 a b
 have gs7:=k7 _ _ g36 (λz=>by rcases z with z | z;show absurd z.26 ush;show absurd z.26 hsh) λz=>z.45
 exists #[_,_,rfl,.inl (bA.of gs7),?_];have l3:w3.9=lk.9:=by rw[<- q36.9];show af ..
 exists #[(),(),?_];refine eF (n:=w3.9) (λj σ' H'=>Wx (λp=>p=sh) (λ_=>False) H7 H'/\(∃ys,H' sh=some (.lst ys)/\ys.9=w3.9)/\∃y2,σ'=[some (.ref z),some (.ref r),some (.ref s),some (.bl la),some (.ref h),some (.ref lo),some (.ref sh),some (.ref u),some (.ref pu),y2]) #[Wx.of (aG.refl _),#[_,gs7,rfl],_,rfl] ?_ ?_
 ·rintro j σ' H8 hj ⟨k8,⟨ys,gy,ly⟩,y2,rfl⟩;exists cB λt9 H9 s9 g9=>?_
  exists d7 (s9 _ _ gy) (eN ()) rfl ?_;show #[(k8.3 (Wx.of s9)).3 (Wx.set (s9 _ _ gy) rfl),#[_,aD,by rw[cN];show ly],_,rfl]
 rintro σ' H8 ⟨k8,⟨ys,gy,ly⟩,y2,rfl⟩;exists #[.inl #[rfl,_,bA.of gy],?_];exists cB λt9 H9 s9 g9=>?_
 exists jO (s9 _ _ gy) (dn ()) ?_;have k10:Wx (λp=>p=sh) (λ_=>False) H7 (upd H9 sh (.lst (ys++[.ref t9]))):=(k8.3 (Wx.of s9)).3 (Wx.set (s9 _ _ gy) rfl);generalize upd H9 sh (.lst (ys++[.ref t9]))=H10 at k10 ⊢;have kk:Wx (λp=>p=sh\/p=u\/p=h) (λp=>p=x) H H10:=λb o q j n=>k10 _ _ (k7 _ _ (r6 b o q λe=>by rw[e,gx] at q;cases q;show n (by rw[e]) _ _ _ rfl) (λe=>j (.inr e)) λe=>e.45) (λe=>j (.inl e)) λe=>e.45
 have P6:=((PQ.wit abH).wit nu0).wx kk λq n=>λe=>by
  rcases e with e | e | e
  ·rw[e] at n;show Ff (uJ n)
  ·rw[e] at n;show Ff n
  ·rw[e] at n;show h19 (uJ (uJ n))
 have ne0:∀{p:Addr} {qs:List Rat},cA K H p qs->p≠sh/\p≠u:=λR=>by
  obtain _|g|_:=R;show #[λe=>(by rw[e,abH] at g;cases g),λe=>(by rw[e,nu0] at g;cases g)]
 have acA:=Rs.wx kk λe=>by
  rcases e with e | e | e
  ·show (ne0 Rs).1 e
  ·show (ne0 Rs).2 e
  ·show sh9 e
 have hpu:pu≠h:=λe=>by rw[e,gh] at abI;cases abI
 have acB:=(R6.wx k7 λe=>e.45 aif hpu).wx k10 psh;have na0:H a'=none:=t!.19 na;have ha':a'≠h:=λe=>by rw[e,gh] at na0;cases na0
 have sa':a'≠sh:=λe=>by obtain _|g|_:=R3;rw[e] at na;rw[na] at g;cases g
 have akE:=(Ra6.wx k7 λe=>e.45 (λe=>ua e.26) ha').wx k10 sa';have afx:=k10 _ _ (k7 _ _ gx6 (λ_ _ e=>by cases e) λe=>e.45) (λ_ _ e=>by cases e) λe=>e.45
 have afD:=k10 _ _ gh7 (λe=>absurd e hsh) λe=>e.45
 have ajj:∀v∈ws',v∈ws\/zV K (λp=>H p≠none) H10 v:=λv hv=>(hv7 v hv).imp id λz=>(z.wx k10 λp e=>.inr e).24 λp e=>.inl e
 clear k7 k10 R6 Ra6 gs7 hv7 gh7 Q2 Q3 R36 gu5 gu6 Ru6 g36 gh6 gx6 gt4 gp4 q36 qu5 j7 r4 r6 glo qlo;exists #[λσ' H'=>aG H10 H'/\σ'=[some (.ref z),some (.ref r),some (.ref s),some (.bl la),some (.ref h),some (.ref lo),some (.ref sh),some (.ref u),some (.ref pu),y2],?_,?_]
 ·exists jm (λhl=>?_) (λhl=>?_)
  ·obtain e1|e2:=lz hl;rw[e2] at acB;rw[e1] at acA;obtain wp|ajZ|aie:=id acB;obtain ws10|ajT|aic:=id acA;have afc:=aie.9;have afa:=aic.9;rw[bK] at afc afa;exists cB λt6 Hc sc g6=>?_
   exists dC λl7 Hd sd n7 g7=>?_
   have s1d:=sc.3 sd;exists #[_,_,rfl,.inl (bA.of (s1d _ _ ajZ)),?_];rw[<- afc];refine Pj g7 () λq9 He se nq9 g8=>?_
   have s1e:=s1d.3 se;refine #[_,_,Jo,_,Wb pt.9 0,(),(acB.10 s1e).44,cA.kind #[_,g8,xy (cg.mk (q:=0) ((sd.3 se) _ _ g6) rfl) pt.9],?_];rw[decide_eq_true rfl];exists cB λt6 Hf sf g6'=>?_
   exists dC λl7' Hg sg n7' g7'=>?_
   have s1g:=(s1e.3 sf).3 sg;exists #[_,_,rfl,.inl (bA.of (s1g _ _ ajT)),?_];rw[<- afa];refine Pj g7' () λq10 Hh si nq10 g8'=>?_
   have s1i:=s1g.3 si;refine #[_,_,Jo,_,Wb mv.9 0,(),(acA.10 s1i).44,cA.kind #[_,g8',xy (cg.mk (q:=0) ((sg.3 si) _ _ g6') rfl) mv.9],?_];rw[decide_eq_true rfl];exists #[s1i,rfl]
  ·exists #[aG.refl _,rfl]
 rintro σ' H11 ⟨s11,rfl⟩;exists #[r,s,pu,_,mv,pt,lk,st,il F g,rfl,P6.10 s11,D,acA.10 s11,acB.10 s11,ls,lu,T8.nx,λt H12 nt s12 R12=>?_];have s1z:=s11.3 s12
 have k12:Wx (λp=>p=h) (λp=>p=x) H H12:=λb o q j n=>s1z _ _ (kk _ _ q (λe=>by
  rcases e with e | e | e
  ·rw[e,abH] at q;cases q
  ·rw[e,nu0] at q;cases q
  ·show j e) n)
 refine k a' t ws' H12 na0 ?_ k12 (s1z _ _ afx) (akE.10 s1z) R12 (s1z _ _ afD) lw7 λv hv=>(ajj v hv).imp id λe=>e.wx (X':=λ_=>False) (Wx.of s1z) λ_ e=>e
 cases e:H t with
 | none=>rfl
 | some o =>
  by_cases z1:t=h
  ·rw[z1,s11 _ _ afD] at nt;cases nt
  by_cases z2:t=x
  ·rw[z2,s11 _ _ afx] at nt;cases nt
  have:=kk _ _ e (λy=>by
   rcases y with y | y | y
   ·rw[y,abH] at e;cases e
   ·rw[y,nu0] at e;cases e
   ·show absurd y z1) λy=>absurd y z2
  rw[s11 _ _ this] at nt;cases nt
theorem gQ:sC ["_law_runs","_law_held","_law_most","_law_k","_law_run"] 1 mU:=by walk_at "d"
theorem yh (T:Txt K mg Z) (ac:bv P):T.jx.o P w base 10 (Bp K Z._c Z._f Z._l):=by
 refine T.jx.F.k gQ ?_;walk_at "i";obtain rl|J|Es|rfl|F0|gr0|l3|l0|hD|k:=h
 refine #[_,(ao (eZ 1 gQ.nd (fB lJ))
  (ao (eZ 2 gQ.nd (a8 (Oo rfl) (by rfl) T.max PyProof.Rows.boot_max (cQ (b6 ["_law_run"] [] [] (cF bI) (λ_=>(fA 0)) (λ_=>cp) (λ_=>(a8 (rB K (by rfl)) (by rfl) T.31 aK (cQ (aN (tW K (by rfl)) (aN (fI K (by rfl)) bI aj) aj))))))))
  (ao (fw Zb rfl (cu rfl T.38 (cQ (bB fN (bB cG aj eQ) aj))) (fA 3 gQ.nd)
   (av (fw Zb rfl (cF bI) (fA 4 gQ.nd)
   (ao (fM (cH (DK T ac) hr T.nK (gC (aN bC rX aj) (Rg (aN (fI K (by rfl)) rX aj) (aN bC rX aj) (iN Ab kb (bB cG aj (a8 (rB K (by rfl)) (by rfl) T.31 aK (cQ (aN (tW K (by rfl)) (aN (fI K (by rfl)) rX aj) aj)))) (bx _)) cE))) (gg rX aj set_list))
  (av (dj (bw VJ (aN bC rX aj) tz (bx _)) (av (aT z8)) b9))))))
  (av (aT (a8 (C0 rfl) (by rfl) T.all PyProof.Rows.boot_all (cQ (b6 ["_law_told","_law_kept"] [] [] (cF cE) (λ_=>(kE K 2 (bZ (fA 0) (bZ (fA 1) gR)))) (λ_=>cp) (λ_=>(iN (SI K (by rfl) (Jq hr)) bI cE (bx _))))))))))),?_]
 left
 exists dC λh Ha sa na ga=>?_
 obtain F|L:=uC.init F0 gr0 hD na sa ga;have lE:(Es.12 (RE.wit h)).9=Es.9:=af ..;generalize Es.12 (RE.wit h)=Rs at F L lE;clear F0 hD gr0
 have pE:Y9 (λ(R:RE) v=>v=V.ref R.D.q/\R.At K Z._c Z._f Z._l (LZ h Rs) Ha 0) Rs (Rs.map λR=>.ref R.D.q):=z9 λR m=>#[rfl,by
  obtain j|hj|rfl:=bu m;show L.T j _ (ae hj)]
 have e8:∀R∈Rs,R.D.mv.9<=8:=λR m=>(F.ok R m).o.d.n8
 exists #[#[_,bA.of L.R],?_];refine dw (K:=K) (F:=λH (R:RE) v=>v=V.ref R.D.q/\R.At K Z._c Z._f Z._l (LZ h Rs) H 0) (λ_ (n:Int) v=>v=.int n) (λR=>(R.D.mv.9:Int)) L.R pE () (λ#[e,A] s=>#[e,RE.At.same A s]) (λa _=>a) ?_ ?_
 ·rintro j R x Hb NY NN ej sb ⟨rfl,g,st,a,s,A⟩ k1;have gq:=A.q;obtain m|p|l|gt|_|_|_|Gm|_|_:=A.P;obtain us|gm|qm|_:=Gm;exists #[_,_,rfl,.inl (bA.of gm),?_];rw[<- qm.9];show k1 _ _ (aG.refl _) rfl
 rintro ys Hb p np sb gp prp _;rw[Cf prp] at gp;replace L:=L.10 sb;refine #[p,_,rfl,bA.of gp,by rw[af];lia,λM hM hle=>?_];obtain R0|m0|rfl:=au.mp hM;have n8:=e8 R0 m0
 have hm:∀R∈Rs,R.D.mv.9<=R0.D.mv.9:=λR m=>by
  have:=hle _ (HZ m)
  lia
 generalize R0.D.mv.9=n at n8 hm ⊢;clear pE prp gp hM hle m0 np;exists #[(),(),?_];rw[show 2*(n:Int)+3=((2*n+3:Nat):Int) by lia];refine eF (n:=2*n+3) (λi σ' H'=>uC K Z._c Z._f Z._l rl h Rs i 0 H'/\∃y1 y2,σ'=[some (.ref rl),some (.ref h),some (.int n),y1,y2]) #[L,_,_,rfl] ?_ ?_
 ·rintro i σ' Hc hi ⟨Lc,y1,y2,rfl⟩;exists #[#[_,bA.of Lc.R],?_];refine pK (K:=K) (a:=rl) (xs:=Rs.map λR=>V.ref R.D.q) (λj σ' H'=>uC K Z._c Z._f Z._l rl h Rs i j H'/\∃y2,σ'=[some (.ref rl),some (.ref h),some (.int n),some (.int i),y2]) #[Lc,_,rfl] (λ_ _ _ _ #[L,_]=>bA.of L.R) ?_ ?_
  ·rintro j v σ' Hd hv ⟨Ld,y2,rfl⟩
   obtain ⟨R,eR,rfl⟩:∃R,Rs[j]?=some R/\v=.ref R.D.q:=by
    rw[az] at hv;obtain R|e|rfl:=fu.mp hv;show #[R,e,rfl]
   have mR:=ai eR;have OK:=F.ok R mR;have d8:=OK.o.d.n8;have kp:=(F.kp R mR).1;have A:=Ld.T j R eR;rw[if_neg (dZ j)] at A;obtain g|st|a|s|A:=A;obtain ⟨lN,wN⟩|⟨T8,ft,su⟩|lz|tr'|t9'|gd':=OK.57 A ();have gq:=A.q;obtain mm|pp|ll|gt|_|_|_|Gm|_|_:=id A.P;obtain um|gm|qm|_:=Gm;obtain ws|gh|wl|_:=id Ld.W;have hj3:j < Rs.9:=(aH.mp eR).1;exists #[_,_,rfl,.inl (bA.of gm),?_];rw[<- qm.9];exists #[R.z,R.dz,R.w,R.D.x,R.D.dx,R.D.sy,a,R.D.m,R.D.r,s,h,R.D.H0,R.D.H1,ws,R.D.mv,R.D.pt,R.D.lk,_,R.F,g,st,_,rfl,A.i,A.wn,A.W,A.X,A.P,OK.o.d,OK.o.f,lN,wN,OK.lF,OK.wF,A.S,A.lg,A.ls,T8,ft,su,gh,(),λe=>A.js (.inl e),λe=>kp.h1 _ e (.inl rfl),λe=>lz (decide_eq_true (by have:=of_decide_eq_true e;lia)),λa' t ws' H' na nt w gx Ra Rt gh' lw' hv'=>?_];obtain ⟨s',gq'⟩|L':=Ld.next F eR gh w gx Ra Rt gh' lw' hv' na nt (OT OK.o.d lN) (tO OK.o.d) tr' t9' gd';clear A Ld lz tr' t9' gd' T8 ft su lN wN w Ra Rt hv' gh gh' gx gq gm qm gt;exists #[rfl,_,rfl,?_];exists #[L',_,rfl]
  ·rintro σ' Hd ⟨Ld,y2,rfl⟩;rw[af] at Ld;show #[Ld.turn rfl (),_,_,rfl]
 rintro σ' Hc ⟨Lc,y1,y2,rfl⟩;obtain ws|gh|wl|wf:=Lc.W;clear Lc F;exists #[#[_,bA.of gh],?_];refine dw (K:=K) (F:=λH (v:V) x=>x=v/\zV K (LZ h Rs) H v) (λ_ (b:Bool) v=>v=.bl b) (λ_=>true) gh (ED λv m=>#[rfl,wf v m]) () (λ#[e,A] s=>#[e,A.wx (X':=λ_=>False) (Wx.of s) λp j=>j]) (λa _=>a) ?_ ?_
 ·rintro j v x Hb' NY NN ej sb' ⟨rfl,t,a,c,g,rfl,gt,R1,R2,_,_,_⟩ k1;exists #[_,_,Jo,g,g,(),R1.44,R2.kind,?_];rw[decide_eq_true rfl];show k1 _ _ (aG.refl _) rfl
 rintro ys He p np se gp prp _;rw[EE prp] at gp;exists #[p,_,rfl,bA.of gp,?_];rw[Nd];show k _
theorem lh:sC ["_law_script","_law_bag_here","_law_parts_here","_law_other","_law_n","_law_system","_law_far","_law_runs","_law_run","_law_rank"] 1 Pa:=by walk_at "d"
theorem VL (T:Txt K mg Z) (ac:bv P):kB P w K mg base Eb 16 Z.UK Z.UJ ["_law_script"] (Bu K):=by
 refine T.UO.k lh ?_;walk_at "i";obtain a0|ns|rfl|hS|_y|k:=h
 refine #[_,(ao (eZ 1 lh.nd (cH (Jf T ac) hr T.qE (cQ bI)))
  (ao (eZ 2 lh.nd (cH (wI T ac) hr T.kq (cI cE aj)))
  (ao (eZ 3 lh.nd (cH (wI T ac) hr T.kq (cI cE aj)))
  (gO (dj (bw gH (cH (b7 T ac) hr T.bJ (cI cE aj)) aj (bx _)) (av (eZ 3 lh.nd (cH (F8 T ac) hr T.oP (cQ cE)))) b9)
  (ao (eZ 4 lh.nd (a8 aS (by rfl) T.31 aK (cQ (aN bN eQ aj))))
  (ao (eZ 5 lh.nd (cH (yj T ac) hr T.mh (cQ eQ)))
  (ao (eZ 6 lh.nd aj)
  (gO (dj (PW.pt (j9 (bw pC rX aj (bx _)) (kD (bw gH (cH (b7 T ac) hr T.bJ (cI cE aj)) aj (bx _))))) (av (eZ 6 lh.nd aj)) b9)
  (ao (eZ 7 lh.nd (fB (cI (fB (zC eQ (cH (rj T ac) hr T.jk (cQ z7)) (cH (nU T ac) hr T.gV (zC cE rX wB)))) (fB (zC eQ (cH (rj T ac) hr T.jk (cQ z7)) (cH (nU T ac) hr T.gV (zC cE rX aj)))))))
  (ao (jv (yd cZ cS cR jQ Ao (cQ (fB (zC kb (cH (rj T ac) hr T.jk (cQ (cH (yj T ac) hr T.mh (cQ kb)))) (cH (nU T ac) hr T.gV (zC cE (a8 aS (by rfl) T.31 aK (cQ (aN bN kb aj))) aj)))))))
  (ao (fw Zb rfl (cF Ao) (fA 8 lh.nd)
   (ao (eZ 4 lh.nd (a8 aS (by rfl) T.31 aK (cQ (aN bN (aN (fI K (by rfl)) Dz aj) aj))))
  (ao (eZ 9 lh.nd (a8 (rP rfl) (by rfl) T.min ZH (cI (a8 aS (by rfl) T.31 aK (cQ (cH (uo T ac) hr T.iX (cI (cH (wH T ac) hr T.ko (cQ (aN (fI K (by rfl)) Dz aj))) rX)))) (a8 aS (by rfl) T.31 aK (cQ (cH (uo T ac) hr T.iX (cI (cH (wH T ac) hr T.ko (cQ (cH (Cv T ac) hr T.lZ (cQ (aN (fI K (by rfl)) Dz aj))))) rX)))))))
  (av (dj (bw yf (iN gH (pv 9) rX (bx _)) (iN FU (aN (fI K (by rfl)) Dz aj) tz (bx _)) (bx _)) (av (aT z8)) b9)))))
  (ao (lI 7 ["_law_run"] [] [] lh.nd rfl rfl (cF Ao) (λ_=>(fA 0)) (λ_=>FR (bw FU (aN (fI K (by rfl)) bI aj) tz (bx _))) (λ_=>bI))
  (av (aT (XG (iN gH (a8 aS (by rfl) T.31 aK (cQ Ao)) aj (bx _)) (FT (cH (yh T ac) hr T.jx (cQ Ao)))))))))))))))))),?_]
 left
 exists #[a0,ns,rfl,hS,_y,λb H0 hb0 B0 s0=>?_];exists #[b,1,rfl,(),B0,λr1 mv1 pt1 lk1 H1 P1 T1 n14 B1 u1=>?_];exists #[b,0,rfl,(),B1,λr2 mv2 pt2 lk2 H2 P2 T2 n24 B2 u2=>?_];exists #[λσ' H'=>∃r mv pt lk,σ'=[some (.ref a0),some (.ref b),some (.ref r1),some (.ref r),none,none,none,none,none,none]/\dQ K H1 H' r mv pt lk/\LW mv pt lk/\kg H' b/\c6 b H1 H',?_,?_]
 ·exists #[b,16,rfl,B2,(),(),λv H3 v0 v1 B3 u3=>?_];have u13:=u2.3 u3;exists jm (λh0=>?_) (λh0=>?_)
  ·exists #[b,rfl,B3,λr mv pt lk H4 P4 T4 B4 u4=>?_];exists #[r,mv,pt,lk,rfl,P4.53 λq h=>u13.19 B3 h,T4,B4,u13.3 u4]
  ·exists #[r2,mv2,pt2,lk2,rfl,P2._i u3 B2 B1.at,T2,B3,u13]
 clear P2 T2 n24 B2 u2;rintro σ' H2 ⟨r2,mv2,pt2,lk2,rfl,P2,T2,B2,u2⟩;have P1b:=P1._i u2 B1 B0.at;obtain mm|pp|ll|gt|_|_|_|Gm|_|_:=id P1b;obtain um|gm|qm|_:=Gm;exists #[_,_,rfl,.inl (bA.of gm),?_];rw[<- qm.9];exists #[r1,H0,mv1,pt1,lk1,rfl,P1b,T1.p.d,T1.p.f.sf,λsy1 H3 ny1 s3 S1=>?_];obtain X1|p1|RX1:=T1.y.rr T1.p.d;obtain Y1|q1|RY1:=T1.p.y.rr2 T1.p.d;obtain ⟨fl1,hf1⟩:∃fl,fl=decide (p1.9=mv1.9/\q1.9=mv1.9):=#[_,rfl];have B3:=B2.10 s3;exists #[λσ' H'=>∃far:Nat,σ'=[some (.ref a0),some (.ref b),some (.ref r1),some (.ref r2),some (.int mv1.9),some (.ref sy1),some (.int far),none,none,none]/\((far=9/\mv1.9<=8)\/(far=1000/\mv1.9<=2))/\kg H' b/\c6 b H3 H',?_,?_]
 ·exists jm (λh0=>?_) (λh0=>?_)
  ·exists #[b,8,rfl,B3,(),(),λv H7 v0 v1 B7 u7=>?_];exists jm (λh1=>?_) (λh1=>?_)
   ·exists #[.inr #[rfl,by have:=of_decide_eq_true h0;lia],B7,u7]
   ·exists #[.inl #[rfl,()],B7,u7]
  ·exists #[.inl #[rfl,()],B3,c6.refl _]
 rintro σ' H4 ⟨far,rfl,hfar,B4,u4⟩;exists #[sy1,H2,mv1,pt1,lk1,X1,Y1,p1,q1,fl1,rfl,S1._i u4 B3 B2.at,T1,RX1,RY1,hf1,λz1 dz1 w1 x1 dx1 a1 m1 F1 G1 H5 s5 hz1=>?_];have B5:=B4.10 s5;exists #[b,mv1.9,far,rfl,B5,(),(),(),λc1 t1 H6 nc1 R1 l1 d1 B6 u6=>?_];exists dC λe1 H7 s7 n7 g7=>?_
 have B7:=B6.10 s7;have u24:=s3._i.3 u4;have u27:=((u24.3 s5._i).3 u6).3 s7._i;have S17:=((((S1._i u4 B3 B2.at).10 s5)._i u6 B5 B2.at).10 s7);exists #[sy1,H2,mv1,pt1,lk1,X1,Y1,p1,q1,fl1,rfl,S17,T1,RX1,RY1,hf1,λz2 dz2 w2 x2 dx2 a2 m2 F2 G2 H8 s8 hz2=>?_];have B8:=B7.10 s8;exists #[b,mv1.9,9,rfl,B8,(),(),(),λc2 t2 H9 nc2 R2 l2 d2 B9 u9=>?_];exists dC λe2 HA sA nA gA=>?_
 exists dC λrl HB sB nB gB=>?_
 have BA:=B9.10 sA;have BB:=BA.10 sB;have u69:=(s7.3 s8)._i.trans u9;have u6B:=u69.3 (sA.3 sB)._i;have u26:=(u24.3 s5._i).3 u6;have P26:=P2._i u26 B2 B1.at;have P2B:=P26._i u6B B6 B1.at;obtain X2|p2|RX2:=T2.y.rr T2.p.d;obtain Y2|q2|RY2:=T2.p.y.rr2 T2.p.d;obtain ⟨fl2,hf2⟩:∃fl,fl=decide (p2.9=mv2.9/\q2.9=mv2.9):=#[_,rfl];exists #[.inl #[rfl,_,bA.of gB],?_];exists #[r2,H1,mv2,pt2,lk2,rfl,P2B,T2.p.d,T2.p.f.sf,λsy3 HC ny3 sC S3=>?_];have BC:=BB.10 sC;exists #[sy3,HB,mv2,pt2,lk2,X2,Y2,p2,q2,fl2,rfl,S3,T2,RX2,RY2,hf2,λz3 dz3 w3 x3 dx3 a3 m3 F3 G3 HD sD hz3=>?_];have BD:=BC.10 sD;have sBD:=sC.trans sD;obtain mm2|pp2|ll2|gt2|_|_|_|Gm2|_|_:=id (P2B.10 sBD);obtain um2|gm2|qm2|_:=Gm2;have d82:=T2.p.d.n8;exists #[_,_,rfl,.inl (bA.of gm2),?_];rw[<- qm2.9];exists #[b,mv2.9,9,rfl,BD,(),(),(),λc3 t3 HE nc3 R3 l3 d3 BE uE=>?_];exists dC λe3 HF sF nF gF=>?_
 have rlb:rl≠b:=λz=>BA.at (by rw[<- z];show nB)
 have gBD:=sBD _ _ gB;have gBF:=sF _ _ (uE.35 rlb gBD);exists jO gBF (by change 2 < _;decide) ?_;have uBF:c6 b HB HF:=(sBD._i.3 uE).10 sF;have u7F:c6 b H7 HF:=(s8._i.3 u9).3 ((sA.3 sB)._i.trans uBF);have n2:H6 e2=none:=u69.19 B9 nA;have nr:H6 rl=none:=u69.19 B9 (sA.19 nB);have nD3:HD e3=none:=uE.19 BE nF;have n93:H9 e3=none:=(sA.3 sB).19 (sBD.19 nD3);have n3:H6 e3=none:=u69.19 B9 n93;obtain ⟨J,hJ⟩:∃J:Addr->Prop,∀p,J p↔p=b\/p=rl\/p=e1\/p=e2\/p=e3:=#[_,λ_=>Iff.rfl];have Jb:J b:=(hJ b).mpr (.inl rfl);have Jr:J rl:=(hJ rl).mpr (.inr (.inl rfl));have J1:J e1:=(hJ e1).mpr (.inr (.inr (.inl rfl)));have J2:J e2:=(hJ e2).mpr (.inr (.inr (.inr (.inl rfl))));have J3:J e3:=(hJ e3).mpr (.inr (.inr (.inr (.inr rfl))))
 have jc:∀{P:Addr->Prop},P b->P rl->P e1->P e2->P e3->∀q,J q->P q:=λa b c d e q j=>by
  rcases (hJ q).mp j with z | z | z | z | z
  ·rw[z];show a
  ·rw[z];show b
  ·rw[z];show c
  ·rw[z];show d
  ·rw[z];show e
 have j6:∀{Hb:Hp},Hb b≠none->∀q,J q->Hb q≠none\/H6 q=none:=λh=>jc (.inl h) (.inr nr) (.inr n7) (.inr n2) (.inr n3)
 have wJb:=Ua Jb
 have nn:∀{Hi:Hp} {p:Addr} {qs:List Rat} {q:Addr},cA K Hi p qs->Hi q=none->q≠p:=λR n z=>by
  obtain _|g|_:=R;rw[<- z,n] at g;cases g
 have ne:∀{Hi:Hp} {p q:Addr} {o:HO},Hi q=some o->Hi p=none->q≠p:=λg n z=>by rw[z,n] at g;cases g
 have g18:=s8 _ _ g7;have e1b:e1≠b:=λz=>B6.at (by rw[<- z];show n7)
 have e2b:e2≠b:=λz=>B9.at (by rw[<- z];show nA)
 have e3b:e3≠b:=λz=>BE.at (by rw[<- z];show nF)
 have g19:=u9.35 e1b g18;have g1B:=(sA.3 sB) _ _ g19;have g2B:=sB _ _ gA;have g1D:=sBD _ _ g1B;have g2D:=sBD _ _ g2B;have jc1:¬J c1:=λj=>jc (P:=λq=>q≠c1) (λz=>B5.at (by rw[z];show nc1)) (nn R1 nr) (nn R1 n7) (nn R1 n2) (nn R1 n3) c1 j rfl
 have jc2:¬J c2:=λj=>jc (P:=λq=>q≠c2) (λz=>B8.at (by rw[z];show nc2)) (nn R2 (sA.19 nB)) (ne g18 nc2) (nn R2 nA) (nn R2 n93) c2 j rfl
 have jc3:¬J c3:=λj=>jc (P:=λq=>q≠c3) (λz=>BD.at (by rw[z];show nc3)) (ne gBD nc3) (ne g1D nc3) (ne g2D nc3) (nn R3 nF) c3 j rfl
 have P1J:=(P1b._i u26 B2 B0.at).toJ (j6 B0.at);have P2J:=P26.toJ (j6 B1.at);have S1J:=((((S1._i u4 B3 B2.at).10 s5)._i u6 B5 B2.at)).toJ (j6 B2.at);have u6F:=u6B.3 uBF;have I1:PR.Is K Z._c Z._f Z._l J H7 #[#[#[e1,r1,x1,dx1,sy1,m1,wJ J,wJ J,mv1,pt1,lk1,G1],z1,dz1,w1,F1],fl1,c1,a1,t1]:=#[g7,P1J.10 s7,T1,R1.10 s7,l1,jc1,Lj (Lq d1 (by rw[l1];lia)),#[X1,Y1,p1,q1,RX1,RY1,hf1],S1J.10 s7,λe=>(((hz1 e).2._i u6 B5 B4.at).toJ (j6 B4.at)).10 s7,rfl,rfl];have I2:PR.Is K Z._c Z._f Z._l J HA #[#[#[e2,r1,x2,dx2,sy1,m2,wJ J,wJ J,mv1,pt1,lk1,G2],z2,dz2,w2,F2],fl1,c2,a2,t2]:=#[gA,(P1J._i u69 B6 wJb).10 sA,T1,R2.same sA,l2,jc2,Lj (Lq d2 (.inl #[rfl,by change t2.9<=8;lia])),#[X1,Y1,p1,q1,RX1,RY1,hf1],(S1J._i u69 B6 wJb).10 sA,λe=>(((hz2 e).2._i u9 B8 B7.at).toJ (jc (.inl B7.at) (.inr (sA.19 nB)) (.inl (by rw[g7];show λz=>nomatch z)) (.inr nA) (.inr n93))).10 sA,rfl,rfl];have hl:∀{Hi:Hp} {p:Addr} {o:HO},Hi p=some o->Hi p≠none:=λg z=>by rw[g] at z;cases z
 have I3:PR.Is K Z._c Z._f Z._l J HF #[#[#[e3,r2,x3,dx3,sy3,m3,wJ J,wJ J,mv2,pt2,lk2,G3],z3,dz3,w3,F3],fl2,c3,a3,t3]:=#[gF,P2J._i u6F B6 wJb,T2,R3.10 sF,l3,jc3,Lj (Lq d3 (.inl #[rfl,by change t3.9<=8;lia])),#[X2,Y2,p2,q2,RX2,RY2,hf2],(((S3.10 sD)._i uE BD BB.at).toJ (jc (.inl BB.at) (.inl (hl gB)) (.inl (hl g1B)) (.inl (hl g2B)) (.inr nF))).10 sF,λe=>(((hz3 e).2._i uE BD BC.at).toJ (jc (.inl BC.at) (.inl (hl (sC _ _ gB))) (.inl (hl (sC _ _ g1B))) (.inl (hl (sC _ _ g2B))) (.inr nF))).10 sF,rfl,rfl]
 have x12:fl1=true->x1≠x2:=λe z=>by
  have:=(((hz1 e).2._i u6 B5 B4.at).10 s7).g.i;rw[z,(hz2 e).1] at this;cases this
 have x13:fl1=true->fl2=true->x1≠x3:=λe e' z=>by
  have:=(((((hz1 e).2._i u6 B5 B4.at))._i u6B B6 B4.at).10 sC).g.i;rw[z,(hz3 e').1] at this;cases this
 have x23:fl1=true->fl2=true->x2≠x3:=λe e' z=>by
  have:=(((hz2 e).2._i u9 B8 B7.at).10 ((sA.3 sB).3 sC)).g.i;rw[z,(hz3 e').1] at this;cases this
 have wr:Wx (λp=>p=b\/p=rl) (λ_=>False) HF (upd HF rl (.lst ([.ref e1,.ref e2]++[.ref e3]))):=Wx.set gBF (.inr rfl);have gE:(upd HF rl (.lst ([.ref e1,.ref e2]++[.ref e3]))) rl=some (.lst [.ref e1,.ref e2,.ref e3]):=aD;have hbG:(upd HF rl (.lst ([.ref e1,.ref e2]++[.ref e3]))) b≠none:=by rw[aR rlb.26];show (BE.10 sF).at
 generalize upd HF rl (.lst ([.ref e1,.ref e2]++[.ref e3]))=HG at wr gE hbG ⊢;have wA:Wx (λp=>p=b\/p=rl) (λ_=>False) HA HG:=(Wx.W! (sB._i.3 uBF) BA (.inl rfl)).3 wr;have w7:Wx (λp=>p=b\/p=rl) (λ_=>False) H7 HG:=(Wx.W! u7F B7 (.inl rfl)).3 wr;have jj:∀p,p=b\/p=rl->J p:=λp z=>z.45 (λz=>by rw[z];show Jb) λz=>by rw[z];show Jr
 have I1:=I1.wx w7 jj λz=>z.45 e1b (ne ((u9.35 e1b g18) |> sA _ _) nB)
 have I2:=I2.wx wA jj λz=>z.45 e2b (ne gA nB)
 have I3:=I3.wx wr jj λz=>z.45 e3b (ne (uE.35 rlb gBD) nF).26
 obtain ⟨Rs,eRs⟩:∃Rs:List PR,Rs=[⟨⟨⟨e1,r1,x1,dx1,sy1,m1,wJ J,wJ J,mv1,pt1,lk1,G1⟩,z1,dz1,w1,F1⟩,fl1,c1,a1,t1⟩,⟨⟨⟨e2,r1,x2,dx2,sy1,m2,wJ J,wJ J,mv1,pt1,lk1,G2⟩,z2,dz2,w2,F2⟩,fl1,c2,a2,t2⟩,⟨⟨⟨e3,r2,x3,dx3,sy3,m3,wJ J,wJ J,mv2,pt2,lk2,G3⟩,z3,dz3,w3,F3⟩,fl2,c3,a3,t3⟩]:=#[_,rfl]
 have hI:∀P∈Rs,P.Is K Z._c Z._f Z._l J HG/\J P.R.D.q:=λP m=>by
  rw[eRs] at m;rcases ax.mp m with rfl | m
  ·show #[I1,J1]
  rcases ax.mp m with rfl | m
  ·show #[I2,J2]
  ·rw[aM.mp m];show #[I3,J3]
 have lR:Rs.9=3:=by rw[eRs];rfl
 have gE':HG rl=some (.lst (Rs.map λP=>.ref P.R.D.q)):=by rw[eRs];show gE
 have pw:Rs.Pairwise λP P'=>P.R.D.q≠P'.R.D.q/\(P.fl=true->P'.fl=true->P.R.D.x≠P'.R.D.x):=by
  rw[eRs];refine .cons (λP m=>?_) (.cons (λP m=>?_) (.cons (λP m=>by cases m) .nil))
  ·rcases ax.mp m with rfl | m
   ·show #[ne g19 nA,λe _=>x12 e]
   ·rw[aM.mp m];show #[ne g1D nD3,x13]
  ·rw[aM.mp m];show #[ne g2D nD3,x23]
 have eJ:∀q,HG q=none->wJ J q=none:=λq n=>L8 λj=>by
  revert n
  show jc (P:=λq=>¬HG q=none) hbG (hl gE) (hl I1.q) (hl I2.q) (hl I3.q) q j
 clear I1 I2 I3 x12 x13 x23 eRs P1J P2J S1J hz1 hz2 hz3 jc1 jc2 jc3 wr wA w7 j6 u6F u6B u69 u7F uBF;exists #[#[_,bA.of gE'],?_];refine pK (K:=K) (a:=rl) (xs:=Rs.map λP=>.ref P.R.D.q) (λi σ' H'=>aG HG H'/\∃x y z,σ'=[some (.ref a0),some (.ref b),some (.ref r1),some (.ref r2),x,some (.ref sy1),some (.int far),some (.ref rl),y,z]) #[aG.refl _,_,_,_,rfl] (λ_ _ _ _ #[s,_]=>bA.of (s _ _ gE')) ?_ ?_
 ·rintro j v σ' Hx hv ⟨sx,x,y,z,rfl⟩
  obtain ⟨P,eP,rfl⟩:∃P,Rs[j]?=some P/\v=.ref P.R.D.q:=by
   rw[az] at hv;obtain P|e|rfl:=fu.mp hv;show #[P,e,rfl]
  have IP:=(hI P (ai eP)).1.same sx;have gq:=IP.q;have D:=IP.pt.p.d;have d8:=D.n8;have i4:=D.i4;have o4:=D.o4;obtain ka|kc|KF|_:=IP.pt.y.pr;obtain lw|la|LF:=IP.pt.y.lw;obtain ka2|kc2|KF2|_:=IP.pt.p.y.pr;obtain lw2|la2|LF2:=IP.pt.p.y.lw;have et:(a9 P.R.D.mv P.R.D.mv.9).9=P.R.D.mv.9:=cz;rw[et] at LF2;obtain mm|_|_|gt|_|_|_|Gm|_|_:=id IP.pa;obtain um|gm|qm|_:=Gm;exists #[_,_,rfl,.inl (bA.of gm),?_];rw[<- qm.9];exists #[P.R.D.r,ka,kc,wJ J,wJ J,_,_,P.R.D.lk,rfl,IP.pa,D,KF,λq h=>h,λq h=>eJ q (sx.19 h),λg1 Hg1 ng1 sg1 Gg1=>?_];have lk1:(iI P.R.D.mv P.R.D.pt P.R.D.mv.9).9<=32:=by rw[AZ];show aL d8 i4
  exists #[g1,P.R.D.mv.9,lw,la,_,_,rfl,Gg1,(),(),iY rfl D.pw _,LF,λrr Q1 pq1 Ha nr sa Ga RQ1 _=>?_];obtain rv|grv|qrv|_:=id Ga;have lrv:=qrv.9;have lR1:=RQ1.1;have sta:=sg1.3 sa;exists #[_,_,rfl,.inl (bA.of grv),?_];rw[<- lrv,lR1];have gqa:=sta _ _ gq;exists #[P.R.D.r,wJ J,P.R.D.mv,P.R.D.pt,P.R.D.lk,rfl,IP.pa.10 sta,D,λq h=>eJ q ((sx.3 sta).19 h),λt Ht st PT=>?_];have stt:=sta.3 st;exists #[t,ka2,kc2,wJ J,wJ J,_,P.R.D.lk,P.R.D.pt,rfl,PT,D.turn,KF2,λq h=>h,λq h=>eJ q ((sx.3 stt).19 h),λg2 Hg2 ng2 sg2 Gg2=>?_];rw[et] at Gg2;have lkr:(iI (a9 P.R.D.mv P.R.D.mv.9) P.R.D.lk P.R.D.mv.9).9<=32:=by rw[AZ];show aL d8 o4
  exists #[g2,P.R.D.mv.9,lw2,la2,_,_,rfl,Gg2,(),(),iY et D.lw P.R.D.mv.9,LF2,λrr2 Q2 pq2 Hb nr2 sb Gb RQ2 _=>?_];obtain rw2|grw|qrw|_:=id Gb;have lrw:=qrw.9;have lR2:=RQ2.1;have stz:=stt.3 (sg2.3 sb);have gqz:=stz _ _ gq;exists #[_,_,rfl,.inl (bA.of grw),?_];rw[<- lrw,lR2];exists #[rfl,?_];walk_at "w";obtain X|X2|ps|h!|RX|RY|ef:=IP.rr;obtain rfl|rfl:=RX.10 RQ1;obtain rfl|rfl:=RY.10 RQ2;rw[Vx RX.le RY.le,<- ef,P.vf,if_neg (by rw[decide_eq_true rfl];decide)];exists #[sx.3 stz,_,_,_,rfl]
 rintro σ' Hx ⟨sx,x,y,z,rfl⟩;walk_at "w";have gEx:=sx _ _ gE';refine #[#[_,bA.of gEx],?_];refine fo (K:=K) (xs:=Rs.map λP=>.ref P.R.D.q) (λi ys H'=>aG Hx H'/\ys=((Rs.take i).filter λP=>P.fl).12 λP=>.ref P.R.D.q) (by rw[af,lR];decide) #[aG.refl _,rfl] (λ_ _ _ _ #[s,_]=>bA.of (s _ _ gEx)) ?_ ?_
 ·rintro j v ys Hy hv _ ⟨sy,rfl⟩
  obtain ⟨P,eP,rfl⟩:∃P,Rs[j]?=some P/\v=.ref P.R.D.q:=by
   rw[az] at hv;obtain P|e|rfl:=fu.mp hv;show #[P,e,rfl]
  have gq:=((hI P (ai eP)).1.same (sx.3 sy)).q;rw[take_snoc eP,wV,cY];exists #[rfl,_,rfl,?_];rw[P.vf];by_cases e:P.fl=true
  ·rw[if_pos e,Al e];exists #[sy,rfl]
  ·rw[if_neg e,Am e];show #[sy,(d9 _).26]
 rintro ys Hy _ ⟨sy,rfl⟩ p np;rw[af,List.take_length];have sp:aG Hy (upd Hy p (.lst ((Rs.filter λP=>P.fl).12 λP=>.ref P.R.D.q))):=aG.new np;have gp0:(upd Hy p (.lst ((Rs.filter λP=>P.fl).12 λP=>.ref P.R.D.q))) p=some (.lst ((Rs.filter λP=>P.fl).12 λP=>.ref P.R.D.q)):=aD;generalize upd Hy p (.lst ((Rs.filter λP=>P.fl).12 λP=>.ref P.R.D.q))=Hp0 at sp gp0 ⊢;obtain FX|AX:=PR.fin (rl:=p) (λP m=>(hI P m).1.same (sx.3 (sy.3 sp))) (λP m=>(hI P m).2) pw (wX (eJ p ((sx.3 sy).19 np)))
 have gpz:Hp0 p=some (.lst ((Ea Rs).12 λR=>.ref R.D.q)):=by
  unfold Ea;rw[jA];show gp0
 have lD:(Ea Rs).9<=3:=by
  unfold Ea;rw[af,<- lR];show List.length_filter_le ..
 clear hI gp0 pw hJ eJ;generalize Ea Rs=Es at FX AX gpz lD;exists #[p,_,rfl,.inl (bA.of gpz),?_];rw[af];exists jm (λh0=>?_) (λh0=>?_)
 ·show k _
 ·have:=of_decide_eq_false (Bool.eq_false_iff.mpr h0);exists #[p,J,Es,rfl,FX,gpz,lD,(),AX,k]
end
theorem XQ {P:List Value->Prop} (h:P []):∀us:List Value,us.9=0->P us
 | [],_=>h
theorem Lh {P:List Value->Prop} {n:Nat} (h:∀x us,us.9=n->P (x :: us)):∀us:List Value,us.9=n+1->P us
 | x :: us,e=>h x us (Nat.succ.inj e)
theorem XS {P:List Value->Prop} (h:∀x0,P [x0]):∀us:List Value,us.9=1->P us:=Lh λx0=>XQ (h x0)
theorem ln2 {P:List Value->Prop} (h:∀x0 x1,P [x0,x1]):∀us:List Value,us.9=2->P us:=Lh λx0=>Lh λx1=>XQ (h x0 x1)
theorem YK {P:List Value->Prop} (h:∀x0 x1 x2,P [x0,x1,x2]):∀us:List Value,us.9=3->P us:=Lh λx0=>Lh λx1=>Lh λx2=>XQ (h x0 x1 x2)
theorem ln4 {P:List Value->Prop} (h:∀x0 x1 x2 x3,P [x0,x1,x2,x3]):∀us:List Value,us.9=4->P us:=Lh λx0=>Lh λx1=>Lh λx2=>Lh λx3=>XQ (h x0 x1 x2 x3)
theorem ln5 {P:List Value->Prop} (h:∀x0 x1 x2 x3 x4,P [x0,x1,x2,x3,x4]):∀us:List Value,us.9=5->P us:=Lh λx0=>Lh λx1=>Lh λx2=>Lh λx3=>Lh λx4=>XQ (h x0 x1 x2 x3 x4)
local macro_rules | `(tactic| walk_at "b") => `(tactic| (intro _ _ _ _ _ _; first | (refine XS ?_; intros; rfl) | (refine ln2 ?_; intros; rfl) | (refine YK ?_; intros; rfl) | (refine ln4 ?_; intros; rfl) | (refine ln5 ?_; intros; rfl)))
theorem all_mk {l:W.OpenLaw} {K:W.Frag} 
 
  (X:K.In h) (G:h.Ns Ze mg) (hfa:mg "law"=some (.ref fa)) (afj:l.prog.given.tree=none)
 (aC:ZU K Ze "System"=some (some (.ref C)))
 (aC_Guesser:ZU K Ze "Guesser"=some (some (.ref _x)))
 (aC_Pilot:ZU K Ze "Pilot"=some (some (.ref _E)))
  (h0:Dh K "_law_bag" xu f0 e0)
  (h1:Dh K "_law_take" uZ f1 e1)
  (h2:Dh K "_law_sizes" oI f2 e2)
  (h3:Dh K "_law_low" xo f3 e3)
  (h4:Dh K "_law_number" qW f4 e4)
  (h5:Dh K "_law_row" xn f5 e5)
  (h6:Dh K "_law_move" vh f6 e6)
  (h7:Dh K "_law_sum" xm f7 e7)
  (h8:Dh K "_law_plus" ve f8 e8)
  (h9:Dh K "_law_prod" vd f9 e9)
  (h10:Dh K "_law_by" zu f10 e10)
  (h11:Dh K "_law_mixed" td f11 e11)
  (h12:Dh K "_law_parts" sZ f12 e12)
  (h13:Dh K "_law_drawn" tm f13 e13)
  (h14:Dh K "_law_long" vo f14 e14)
  (h15:Dh K "want_list" uU f15 e15)
  (h16:Dh K "is_whole" xj f16 e16)
  (h17:Dh K "common_divisor" mT f17 e17)
  (h18:Dh K "is_number" uY f18 e18)
  (h19:Dh K "is_row" BS f19 e19)
  (h20:Dh K "copied_rows" qU f20 e20)
  (a21:Zf K (.ref C) "__init__"=some (some (.ref f21))) (i21:W.isFn K (.ref f21)=true) (l21:K.13 f21=some #[oc21,od21,.func (W.fnOf "__init__" "System.__init__" (gD fh) (dW fh) (cC fh) .none kV21 dc21 pm21 an21 cd21 ct21),sl21]) (c21:aaj K cd21 "System.__init__"=true) (k21:Zs K (.ref f21)=true)
  (h22:Dh K "_law_copied" qY f22 e22)
  (h23:Dh K "_law_made" vn f23 e23)
  (h24:Dh K "tops_over" uV f24 e24)
  (h25:Dh K "common_multiple" lH f25 e25)
  (h26:Dh K "common_bottom" oo f26 e26)
  (h27:Dh K "first_with" sV f27 e27)
  (h28:Dh K "cleared" zm f28 e28)
  (h29:Dh K "brought_up" sW f29 e29)
  (h30:Dh K "swept" FG f30 e30)
  (h31:Dh K "lowest" BR f31 e31)
  (h32:Dh K "reduced" zg f32 e32)
  (h33:Dh K "row_dot" ze f33 e33)
  (h34:Dh K "grid_on" zj f34 e34)
  (h35:Dh K "moved_rows" sT f35 e35)
  (h36:Dh K "reach_grown" qQ f36 e36)
  (h37:Dh K "reach_rows" sQ f37 e37)
 (xa_NotSteered:ZU K Ze "NotSteered"=some (some (.ref _j)))
  (a38:Zf K (.ref _j) "__init__"=some (some (.ref f38))) (i38:W.isFn K (.ref f38)=true) (l38:K.13 f38=some #[oc38,od38,.func (W.fnOf "__init__" "NotSteered.__init__" (gD du) (dW du) (cC du) .none kV38 dc38 pm38 an38 cd38 ct38),sl38]) (c38:aaj K cd38 "NotSteered.__init__"=true) (k38:Zs K (.ref f38)=true)
  (h39:Dh K "unit_row" xg f39 e39)
  (h40:Dh K "leading_place" oj f40 e40)
  (h41:Dh K "leading" zi f41 e41)
  (h42:Dh K "minus" FI f42 e42)
  (h43:Dh K "null_at" zh f43 e43)
  (h44:Dh K "free_places" qT f44 e44)
  (h45:Dh K "nulls" FH f45 e45)
  (h46:Dh K "refuse_unsteered" kJ f46 e46)
  (h47:Dh K "nought_row" sR f47 e47)
  (h48:Dh K "grid_turned" qS f48 e48)
  (h49:Dh K "new_places" sS f49 e49)
  (h50:Dh K "leading_out" qR f50 e50)
  (a51:Zf K (.ref C) "moved"=some (some (.ref f51))) (i51:W.isFn K (.ref f51)=true) (l51:K.13 f51=some #[oc51,od51,.func (W.fnOf "moved" "System.moved" (gD iB) (dW iB) (cC iB) .none kV51 dc51 pm51 an51 cd51 ct51),sl51]) (c51:aaj K cd51 "System.moved"=true) (k51:Zs K (.ref f51)=true)
  (h52:Dh K "chain" FJ f52 e52)
  (h53:Dh K "row_minus" uX f53 e53)
  (h54:Dh K "grid_times" sU f54 e54)
  (h55:Dh K "taken_over" sP f55 e55)
  (h56:Dh K "times" FF f56 e56)
  (h57:Dh K "row_times" uW f57 e57)
  (h58:Dh K "amiss" FK f58 e58)
  (h59:Dh K "plus" KQ f59 e59)
  (h60:Dh K "row_plus" xh f60 e60)
  (h61:Dh K "closed" BU f61 e61)
  (h62:Dh K "steered" zd f62 e62)
  (a63:Zf K (.ref C) "turned"=some (some (.ref f63))) (i63:W.isFn K (.ref f63)=true) (l63:K.13 f63=some #[oc63,od63,.func (W.fnOf "turned" "System.turned" (gD gK) (dW gK) (cC gK) .none kV63 dc63 pm63 an63 cd63 ct63),sl63]) (c63:aaj K cd63 "System.turned"=true) (k63:Zs K (.ref f63)=true)
  (h64:Dh K "unseen_rows" qP f64 e64)
 (xa_NotSeen:ZU K Ze "NotSeen"=some (some (.ref _r)))
  (a65:Zf K (.ref _r) "__init__"=some (some (.ref f65))) (i65:W.isFn K (.ref f65)=true) (l65:K.13 f65=some #[oc65,od65,.func (W.fnOf "__init__" "NotSeen.__init__" (gD eC) (dW eC) (cC eC) .none kV65 dc65 pm65 an65 cd65 ct65),sl65]) (c65:aaj K cd65 "NotSeen.__init__"=true) (k65:Zs K (.ref f65)=true)
  (a66:Zf K (.ref _x) "__init__"=some (some (.ref f66))) (i66:W.isFn K (.ref f66)=true) (l66:K.13 f66=some #[oc66,od66,.func (W.fnOf "__init__" "Guesser.__init__" (gD eE) (dW eE) (cC eE) .none kV66 dc66 pm66 an66 cd66 ct66),sl66]) (c66:aaj K cd66 "Guesser.__init__"=true) (k66:Zs K (.ref f66)=true)
  (a67:Zf K (.ref _E) "__init__"=some (some (.ref f67))) (i67:W.isFn K (.ref f67)=true) (l67:K.13 f67=some #[oc67,od67,.func (W.fnOf "__init__" "Pilot.__init__" (gD fQ) (dW fQ) (cC fQ) .none kV67 dc67 pm67 an67 cd67 ct67),sl67]) (c67:aaj K cd67 "Pilot.__init__"=true) (k67:Zs K (.ref f67)=true)
  (h68:Dh K "_law_pilot" sY f68 e68)
  (h69:Dh K "_law_quot" va f69 e69)
  (h70:Dh K "_law_less" vq f70 e70)
  (h71:Dh K "_law_minus" tj f71 e71)
  (h72:Dh K "_law_reduced" ph f72 e72)
  (h73:Dh K "_law_dot" xp f73 e73)
  (h74:Dh K "_law_on" zo f74 e74)
  (h75:Dh K "_law_reach" sX f75 e75)
  (h76:Dh K "_law_turned" qV f76 e76)
  (a77:Zf K (.ref _x) "guess"=some (some (.ref f77))) (i77:W.isFn K (.ref f77)=true) (l77:K.13 f77=some #[oc77,od77,.func (W.fnOf "guess" "Guesser.guess" (gD gN) (dW gN) (cC gN) .none kV77 dc77 pm77 an77 cd77 ct77),sl77]) (c77:aaj K cd77 "Guesser.guess"=true) (k77:Zs K (.ref f77)=true)
  (a78:Zf K (.ref C) "seen"=some (some (.ref f78))) (i78:W.isFn K (.ref f78)=true) (l78:K.13 f78=some #[oc78,od78,.func (W.fnOf "seen" "System.seen" (gD jf) (dW jf) (cC jf) .none kV78 dc78 pm78 an78 cd78 ct78),sl78]) (c78:aaj K cd78 "System.seen"=true) (k78:Zs K (.ref f78)=true)
  (a79:Zf K (.ref _x) "take"=some (some (.ref f79))) (i79:W.isFn K (.ref f79)=true) (l79:K.13 f79=some #[oc79,od79,.func (W.fnOf "take" "Guesser.take" (gD iC) (dW iC) (cC iC) .none kV79 dc79 pm79 an79 cd79 ct79),sl79]) (c79:aaj K cd79 "Guesser.take"=true) (k79:Zs K (.ref f79)=true)
  (a80:Zf K (.ref _E) "put_for"=some (some (.ref f80))) (i80:W.isFn K (.ref f80)=true) (l80:K.13 f80=some #[oc80,od80,.func (W.fnOf "put_for" "Pilot.put_for" (gD gM) (dW gM) (cC gM) .none kV80 dc80 pm80 an80 cd80 ct80),sl80]) (c80:aaj K cd80 "Pilot.put_for"=true) (k80:Zs K (.ref f80)=true)
  (h81:Dh K "_law_is_number" mV f81 e81)
  (h82:Dh K "_law_is_row" qX f82 e82)
  (h83:Dh K "_law_next" vg f83 e83)
  (h84:Dh K "_law_after" tu f84 e84)
  (h85:Dh K "_law_run_right" mU f85 e85)
  (h86:Dh K "law" Pa f86 e86)
 (ca0:ZU K Ze "NOUGHT"=some (some (.ref m0))) (cl0:K.13 m0=some #[.type "tuple",mo0,.seq [.int 0 mt0_0,.int 1 mt0_1].14 mn0,ms0])
 (ca1:ZU K Ze "ONE"=some (some (.ref m1))) (cl1:K.13 m1=some #[.type "tuple",mo1,.seq [.int 1 mt1_0,.int 1 mt1_1].14 mn1,ms1])
 (ci0:ZU K Ze "MOST_STATES"=some (some (.int 8 it0)))
 (ci1:ZU K Ze "MOST_PUTS"=some (some (.int 4 it1)))
 (ci2:ZU K Ze "MOST_LOOKS"=some (some (.int 4 it2)))
  (pg:W.plainGet K C Str.empty=true) (hd:W.hasDictIn K C=true) (po:W.plainOver K C=true) (sa:Zf K (.ref C) "__setattr__"=some (some (.builtin "object.__setattr__"))) (mk:W.makesIn K C=true) (kc:Zs K (.ref C)=true)
  (n_move:Zf K (.ref C) "move"=some none)
  (n_states:Zf K (.ref C) "states"=some none)
  (n_put:Zf K (.ref C) "put"=some none)
  (n_ins:Zf K (.ref C) "ins"=some none)
  (n_look:Zf K (.ref C) "look"=some none)
  (n_outs:Zf K (.ref C) "outs"=some none)
  (pg_Guesser:W.plainGet K _x Str.empty=true) (hd_Guesser:W.hasDictIn K _x=true) (po_Guesser:W.plainOver K _x=true) (sa_Guesser:Zf K (.ref _x) "__setattr__"=some (some (.builtin "object.__setattr__"))) (mk_Guesser:W.makesIn K _x=true) (kc_Guesser:Zs K (.ref _x)=true)
  (n_Guesser_mends:Zf K (.ref _x) "mends"=some none)
  (n_Guesser_state:Zf K (.ref _x) "state"=some none)
  (n_Guesser_system:Zf K (.ref _x) "system"=some none)
  (pg_Pilot:W.plainGet K _E Str.empty=true) (hd_Pilot:W.hasDictIn K _E=true) (po_Pilot:W.plainOver K _E=true) (sa_Pilot:Zf K (.ref _E) "__setattr__"=some (some (.builtin "object.__setattr__"))) (mk_Pilot:W.makesIn K _E=true) (kc_Pilot:Zs K (.ref _E)=true)
  (n_Pilot_guesser:Zf K (.ref _E) "guesser"=some none)
  (n_Pilot_rows:Zf K (.ref _E) "rows"=some none)
 (xa_SumError:ZU K Ze "SumError"=some (some (.ref _Z)))
 
  (lx_NotSteered:K.13 _j=some #[.type "type",dd_NotSteered,.cls #[nm_NotSteered,bs_NotSteered,[.ref _j,.ref _Z,.type "ValueError",.type "Exception",.type "BaseException",.type "object"],ns_NotSteered,qn_NotSteered,hd_NotSteered,sn_NotSteered,su_NotSteered,ab_NotSteered,co_NotSteered,false],[ka_NotSteered,kb_NotSteered,kc_NotSteered,kd_NotSteered,some (.builtin "ValueError.__new__"),ke_NotSteered].14])
  (sa_NotSteered:Zf K (.ref _j) "__setattr__"=some (some (.builtin "object.__setattr__"))) (kp_NotSteered:Zs K (.ref _j)=true) (nt_NotSteered:Zf K (.ref _j) "price"=some none)
 
  (lx_NotSeen:K.13 _r=some #[.type "type",dd_NotSeen,.cls #[nm_NotSeen,bs_NotSeen,[.ref _r,.ref _Z,.type "ValueError",.type "Exception",.type "BaseException",.type "object"],ns_NotSeen,qn_NotSeen,hd_NotSeen,sn_NotSeen,su_NotSeen,ab_NotSeen,co_NotSeen,false],[ka_NotSeen,kb_NotSeen,kc_NotSeen,kd_NotSeen,some (.builtin "ValueError.__new__"),ke_NotSeen].14])
  (sa_NotSeen:Zf K (.ref _r) "__setattr__"=some (some (.builtin "object.__setattr__"))) (kp_NotSeen:Zs K (.ref _r)=true) (nt_NotSeen:Zf K (.ref _r) "state"=some none)
  (xe_SumError:W.excIn K _Z yS "ValueError.__new__"=true)
  (xm_NotSteered_NotSteered:W.exmOne K (.ref _j) (.ref _j)=some true)
  (xm_NotSteered_NotSeen:W.exmOne K (.ref _j) (.ref _r)=some false)
  (xm_NotSeen_NotSteered:W.exmOne K (.ref _r) (.ref _j)=some false)
  (xm_NotSeen_NotSeen:W.exmOne K (.ref _r) (.ref _r)=some true)
  (ga_NotSteered:Zf K (.ref _j) "__getattribute__"=some (some (.builtin "BaseException.__getattribute__")))
  (gt_NotSteered:Zf K (.ref _j) "__getattr__"=some none)
  (mb_NotSteered:W.mroIn K _j (.type "BaseException")=some true)
  (mo_NotSteered:W.mroIn K _j (.type "object")=some true)
  (hd_NotSteered:W.hasDictIn K _j=true)
  (ca_NotSteered:Zf K (.ref _j) "__class__"=some (some (.builtin "object.__class__")))
  (ga_NotSeen:Zf K (.ref _r) "__getattribute__"=some (some (.builtin "BaseException.__getattribute__")))
  (gt_NotSeen:Zf K (.ref _r) "__getattr__"=some none)
  (mb_NotSeen:W.mroIn K _r (.type "BaseException")=some true)
  (mo_NotSeen:W.mroIn K _r (.type "object")=some true)
  (hd_NotSeen:W.hasDictIn K _r=true)
  (ca_NotSeen:Zf K (.ref _r) "__class__"=some (some (.builtin "object.__class__")))
  (sg_:W.specialIn K (.builtin "object.__class__") "__get__"=some (some (.builtin "getset_descriptor.__get__")))
  (tk_:W.takesIn K (.builtin "object.__class__")=some true)
  (z_abs:ZU K Ze "abs"=some none)
  (z_len:ZU K Ze "len"=some none)
  (z_min:ZU K Ze "min"=some none)
  (z_range:ZU K Ze "range"=some none)
  (z_int:ZU K Ze "int"=some none)
  (z_max:ZU K Ze "max"=some none)
  (z_isinstance:ZU K Ze "isinstance"=some none)
  (z_list:ZU K Ze "list"=some none)
  (z_bool:ZU K Ze "bool"=some none)
  (z_tuple:ZU K Ze "tuple"=some none)
  (z_all:ZU K Ze "all"=some none)
  (z_enumerate:ZU K Ze "enumerate"=some none)
  (z_zip:ZU K Ze "zip"=some none)
  (z_sum:ZU K Ze "sum"=some none)
  (z_reversed:ZU K Ze "reversed"=some none)
  : ∃fd:W0,(∀(s:Y5) (v:Value),BindsTo s fd #[[v],[]] [("_law_script",v)])/\∀base:Heap,K.In base->base.Ns Ze mg->kB l.23 w K mg base Eb 16 fa fd ["_law_script"] (Bu K):=by
 have e:=hfa.symm.3 (W.mg_of X G h86.a);cases e;obtain _|_|_|_|_|_|_|_|_|rfl|_|_:=h86.F.ex;have F21:=ow (st:=fh) l21 c21 k21;have F38:=ow (st:=du) l38 c38 k38;have F51:=ow (st:=iB) l51 c51 k51;have F63:=ow (st:=gK) l63 c63 k63;have F65:=ow (st:=eC) l65 c65 k65;have F66:=ow (st:=eE) l66 c66 k66;have F67:=ow (st:=fQ) l67 c67 k67;have F77:=ow (st:=gN) l77 c77 k77;have F78:=ow (st:=jf) l78 c78 k78;have F79:=ow (st:=iC) l79 c79 k79;have F80:=ow (st:=gM) l80 c80 k80
 have T:Txt K mg #[f0,_,f1,_,f2,_,f3,_,f4,_,f5,_,f6,_,f7,_,f8,_,f9,_,f10,_,f11,_,f12,_,f13,_,f14,_,f15,_,f16,_,f17,_,f18,_,f19,_,f20,_,f21,_,f22,_,f23,_,f24,_,f25,_,f26,_,f27,_,f28,_,f29,_,f30,_,f31,_,f32,_,f33,_,f34,_,f35,_,f36,_,f37,_,f38,_,f39,_,f40,_,f41,_,f42,_,f43,_,f44,_,f45,_,f46,_,f47,_,f48,_,f49,_,f50,_,f51,_,f52,_,f53,_,f54,_,f55,_,f56,_,f57,_,f58,_,f59,_,f60,_,f61,_,f62,_,f63,_,f64,_,f65,_,f66,_,f67,_,f68,_,f69,_,f70,_,f71,_,f72,_,f73,_,f74,_,f75,_,f76,_,f77,_,f78,_,f79,_,f80,_,f81,_,f82,_,f83,_,f84,_,f85,_,fa,_,m0,m1,it0,it1,it2,C,_x,_E,_Z,_j,_r]:={
  qE:=h0.D X G
  bJ:=h1.D X G
  nG:=h2.D X G
  eV:=h3.D X G
  mf:=h4.D X G
  gV:=h5.D X G
  oO:=h6.D X G
  jN:=h7.D X G
  md:=h8.D X G
  iS:=h9.D X G
  kM:=h10.D X G
  nI:=h11.D X G
  nH:=h12.D X G
  kq:=h13.D X G
  oP:=h14.D X G
  jR:=h15.D X G
  nX:=h16.D X G
  fk:=h17.D X G
  oK:=h18.D X G
  vX:=h19.D X G
  iE:=h20.D X G
  jz:=F21.binds (ps:=["self","move","put","look"]) λ_ _ _ _ _ _=>by refine ln4 ?_;intros;rfl
  qI:=F21
  iF:=h22.D X G
  mh:=h23.D X G
  gU:=h24.D X G
  iQ:=h25.D X G
  dJ:=h26.D X G
  nD:=h27.D X G
  tQ:=h28.D X G
  nE:=h29.D X G
  vz:=h30.D X G
  jT:=h31.D X G
  kL:=h32.D X G
  jM:=h33.D X G
  gi:=h34.D X G
  kl:=h35.D X G
  lW:=h36.D X G
  kj:=h37.D X G
  mJ:=F38.binds (ps:=["self","price"]) λ_ _ _ _ _ _=>by refine ln2 ?_;intros;rfl
  mK:=F38
  nV:=h39.D X G
  jU:=h40.D X G
  pJ:=h41.D X G
  vB:=h42.D X G
  tP:=h43.D X G
  lY:=h44.D X G
  vA:=h45.D X G
  dX:=h46.D X G
  eL:=h47.D X G
  de:=h48.D X G
  nC:=h49.D X G
  lX:=h50.D X G
  ou:=#[a51,i51,k51]
  pP:=F51.binds (ps:=["self","state","puts"]) λ_ _ _ _ _ _=>by refine YK ?_;intros;rfl
  vO:=F51
  yt:=h52.D X G
  jS:=h53.D X G
  ie:=h54.D X G
  nv:=h55.D X G
  yr:=h56.D X G
  lV:=h57.D X G
  yu:=h58.D X G
  AW:=h59.D X G
  nW:=h60.D X G
  vY:=h61.D X G
  iP:=h62.D X G
  mZ:=#[a63,i63,k63]
  oA:=F63.binds (ps:=["self"]) λ_ _ _ _ _ _=>by refine XS ?_;intros;rfl
  uy:=F63
  lU:=h64.D X G
  pQ:=F65.binds (ps:=["self","state"]) λ_ _ _ _ _ _=>by refine ln2 ?_;intros;rfl
  pU:=F65
  pR:=F66.binds (ps:=["self","system"]) λ_ _ _ _ _ _=>by refine ln2 ?_;intros;rfl
  pV:=F66
  rS:=F67.binds (ps:=["self","system"]) λ_ _ _ _ _ _=>by refine ln2 ?_;intros;rfl
  rV:=F67
  jk:=h68.D X G
  oM:=h69.D X G
  oQ:=h70.D X G
  nJ:=h71.D X G
  iX:=h72.D X G
  qD:=h73.D X G
  mY:=h74.D X G
  ko:=h75.D X G
  lZ:=h76.D X G
  rN:=#[a77,i77,k77]
  ux:=F77.binds (ps:=["self"]) λ_ _ _ _ _ _=>by refine XS ?_;intros;rfl
  uA:=F77
  vC:=#[a78,i78,k78]
  wK:=F78.binds (ps:=["self","state"]) λ_ _ _ _ _ _=>by refine ln2 ?_;intros;rfl
  wO:=F78
  uu:=#[a79,i79,k79]
  vK:=F79.binds (ps:=["self","puts","looks"]) λ_ _ _ _ _ _=>by refine YK ?_;intros;rfl
  vP:=F79
  rM:=#[a80,i80,k80]
  uw:=F80.binds (ps:=["self","looks"]) λ_ _ _ _ _ _=>by refine ln2 ?_;intros;rfl
  uz:=F80
  jy:=h81.D X G
  mi:=h82.D X G
  oN:=h83.D X G
  nK:=h84.D X G
  jx:=h85.D X G
  UO:=h86.F
  abs:=Zw X G z_abs
  len:=Zw X G z_len
  min:=Zw X G z_min
  range:=Zw X G z_range
  int:=Zw X G z_int
  max:=Zw X G z_max
  isinstance:=Zw X G z_isinstance
  list:=Zw X G z_list
  bool:=Zw X G z_bool
  tuple:=Zw X G z_tuple
  all:=Zw X G z_all
  enumerate:=Zw X G z_enumerate
  zip:=Zw X G z_zip
  sum:=Zw X G z_sum
  reversed:=Zw X G z_reversed
  _M:=W.mg_of X G ca0
  _L:=λH=>.inr #[_,_,_,cl0,rfl,rfl,ki rfl,.cons #[_,rfl] (.cons #[_,rfl] (.nil))]
  aaT:=W.mg_of X G ca1
  aaS:=λH=>.inr #[_,_,_,cl1,rfl,rfl,ki rfl,.cons #[_,rfl] (.cons #[_,rfl] (.nil))]
  d!:=W.mg_of X G ci0
  C!:=W.mg_of X G ci1
  n!:=W.mg_of X G ci2
  k!:=W.mg_of X G aC
  _e:=#[pg,hd,po,sa]
  _Q:=n_move
  _k:=n_states
  a!:=n_put
  v!:=n_ins
  i!:=n_look
  abe:=n_outs
  j!:=#[mk,a21,i21,kc]
  R!:=W.mg_of X G aC_Guesser
  _s:=#[pg_Guesser,hd_Guesser,po_Guesser,sa_Guesser]
  _F:=n_Guesser_mends
  _w:=n_Guesser_state
  _z:=n_Guesser_system
  mk_Guesser:=#[mk_Guesser,a66,i66,kc_Guesser]
  aaI:=W.mg_of X G aC_Pilot
  _O:=#[pg_Pilot,hd_Pilot,po_Pilot,sa_Pilot]
  _C:=n_Pilot_guesser
  _S:=n_Pilot_rows
  mk_Pilot:=#[mk_Pilot,a67,i67,kc_Pilot]
  aaH:=W.mg_of X G xa_SumError
  _T:=W.mg_of X G xa_NotSteered
  w!:=W.mg_of X G xa_NotSeen
  aaM:=xe_SumError
  xm_NotSteered_NotSteered:=xm_NotSteered_NotSteered
  xm_NotSteered_NotSeen:=xm_NotSteered_NotSeen
  xm_NotSeen_NotSteered:=xm_NotSeen_NotSteered
  xm_NotSeen_NotSeen:=xm_NotSeen_NotSeen
  _H:=#[#[_,_,_,_,_,_,_,lx_NotSteered,rfl,rfl],xe_SumError,sa_NotSteered,#[ga_NotSteered,gt_NotSteered,mb_NotSteered,mo_NotSteered,hd_NotSteered,ca_NotSteered,sg_,tk_]]
  o!:=a38
  p!:=beq_iff_eq.mp i38
  kp_NotSteered:=kp_NotSteered
  nt_NotSteered:=nt_NotSteered
  _Y:=#[#[_,_,_,_,_,_,_,lx_NotSeen,rfl,rfl],xe_SumError,sa_NotSeen,#[ga_NotSeen,gt_NotSeen,mb_NotSeen,mo_NotSeen,hd_NotSeen,ca_NotSeen,sg_,tk_]]
  S!:=a65
  U!:=beq_iff_eq.mp i65
  kp_NotSeen:=kp_NotSeen
  nt_NotSeen:=nt_NotSeen
  Z!:=#[ga_NotSteered,gt_NotSteered,mb_NotSteered,mo_NotSteered,hd_NotSteered,ca_NotSteered,sg_,tk_]
  aaQ:=#[ga_NotSeen,gt_NotSeen,mb_NotSeen,mo_NotSeen,hd_NotSeen,ca_NotSeen,sg_,tk_] }
 show #[_,λs v=>.of_eq rfl,λbase _ _=>VL T afj]
theorem walk {l:W.OpenLaw} {K:Params->W.Frag} (hn:l.most=some 63) (hdf:d.params.defaults=[])
  (hi:PyProof.Rows.importsNone q=true)
  (hY:∀(w:ZO) (h:Heap),YP w h->(K w.params).In h)
  (F:∀(w:ZO) (mg:Str->Option Value) (fa:Addr) (h:Heap),(K w.params).In h->h.Ns Ze mg->mg d.name=some (.ref fa) →
   ∃fd:W0,(∀(s:Y5) (u:Value),BindsTo s fd #[[u],[]] [("_law_script",u)])/\∀base:Heap,(K w.params).In base->base.Ns Ze mg->kB l.23 w (K w.params) mg base Eb 16 fa fd ["_law_script"] (Bu (K w.params))) :
  W.WalkO q loose XP YP l.row.toRowW d [] (λf vs=>PySem.call f vs) :=
 L2.Rv (n:=63) (k:=16) (x:="_law_script") (CX:=λ_=>Eb) (sp:=λw=>Bu (K w.params)) hn () hdf #[rfl,(),()] hi hY F (λ_ _ a ns hl _ hS=>#[a,ns,rfl,hS,hl,λ_=>rfl]) λ_ _ _ _ _ z=>z
end Lw
namespace PySem.W.Fast
local macro_rules | `(universe $x*) => do
 let c ← x.mapM fun y => `(def $(Lean.mkIdent (.mkSimple s!"tw{(y.getId.toString.drop 1).foldl (fun a c => a*62+(if c.isDigit then c.toNat-48 else if c.isLower then c.toNat-87 else c.toNat-29)) 0}")):ident:=1)
 return Lean.mkNullNode c
universe aRZ7vXPsnyZ a8mMj71Rjthr agVDAcuqSure ahkSARf8UdGs aja4rvg5Ka1j agHbTatPt7Ik a3itMWoZ6fbV aaToSIpUMI4K a7h7d2LurruJ ahzDDq15eeV5 aaHnU8IBB5RF a6RTbmBS0Qb8 a5cxVxUu5WqL abQU4tLGG820 ahTponlLUvt7 ahOlLnAnxqoy abOQYrQ4tGNO a3qEQii0PUQQ ag7dWj7WW96Y a5pTaoTfTGjw a6DNIdv8Dg7V agcQbNbVHmUi a19pcBCWFX1w aiZqSWtgHaTO a21brxiBG9I6 ai526r9paFoW a15r7rgTxLcr adnJAvh1zkxD adkcAO4PLeg2 aenaZfi5zqZQ a7KPkGxILZHh akdoP0G0paca adbPPn45Y01V a8GZaeLxrrTF a6LLvXpbARWC aiVNaGQjaVXr acSRDaKpTVWj a4Qsntqezn4Y a9SQHfhUVo5c alhdodzOX4JH a3wzliXuz9Xy a1iNOb6giUSS a2qmMyJrtpJZ a2FOCkIUfQ3p a4nQNSAXgRGo agmJ8Q7aDSfF aaZCoxmFoqkD adQ6LF5u11WP a1oKJ2R6CvVS a7aXnFAbU9tI ae6W3CX0zy80 a1pzFRBAVoCm a52CcM9qITpi a8lucnD5zywz age4EHYcJ7zk a8xO467QQbpV ai6ii9gZgOcL a4sG5GnKGmyA abCF7z4sx4eC aanGuyJ4uR3x aeDVo5zUtSPu alJVKdtzYNqY ag7CShID7Cdj aeuEgspLmz73 a6fEVmYZ80j0 a7H8Ovf2rNUF abFIfVAfCU0n a3X8qN00B9cX ae6fqTizntPC ak2JylMesGpD alw9MZAGfZtj a4AcPPOSG7HN a8L9E9Ybx6kq a8WZu5d29u1J acAu1BttDF0f aj9XUU4lkOK1 acRtLmB6736P a5Qqhi0Y1mfR alFX2m5g3BXX a6kcsTJrCxP3 a3tQ3XvPUznJ alOBpMrRf9wg ajv06arScy1L agDxJDNg5sFR a5TeBbNP45u a8C542ZqYRJk a3959gwYAiIU aeguI3UsZkJ8 aajkelJE2YLL a9YuZiGaCcW9 a7RlHeIwGL75 a6AyOsbUJ8Mr a3ILxnk3kQMO afBcb4TvK2W a2Mi3zMxVdw9 a1J8yu6EB45D akPNI4DQrtd8 afey7iTBsa4m ajowuLiRXaSU adcInTBhqNaU acqgNJVaD75v a2fZcC1vOk1T a396M3LKpOqK alMkWMNgwI5T alg56ehUfbVq a4TAHYr9dv70 ae57BB6wWlsi a6sdyUBuixMs alVNXNLfSHhC almWTxxy4mbC a1FFoAX7QOeb a5Y3XiSqnVEa aaVpjSMpIzZT aitakKXiDudx a9OorKBTUj02 a9J6iWeb6vLO ac6QTYeea6xL a83MNE5slLrl a4c2k5zfUlK8 adNFoUb2iBMF a2PoiwQP4hYD abvTfZl1IG6b ahmnVPXVO8NY air2cJ3QpeTZ ajj5JQxjVQy5 aaEHwxjuPJh5 a8amuei9LZHq a8QqLYcHbOSs a428UUu1sT0Q ajKByeF9MBuE acJXRMI3RfKn acYkKnpmbKak ahbMTdE07zEZ ac6n12FzAofD aaPsiJhzxfA1 agnZaVtJKFcU ahAZwAV3cAhi akw9qFztE7Qk a9i8iE6CjS06 ajY8pjaKDfNC ahSG9KH6hSa3 aa1lO0EgwWAy a3vzET527aIB a1ky9tgNh4st a7sBYnvygemb a6FTa2wFaAAd a6DmZ2XaIDDD a4pgRjMEZ5yi a77aZMW2AUQd a2mFmz1QosjQ a2ROJblLFFjo acE3IhdWoM7K ah6eD6beXDiR a2wqKiUKAsuv aGGI9vmmooo aghGdT4Drdcl a3V9EjbrXq7a alymqwb95cKj a2M4ojRnRYDu acvRxDk6YcHq afLpHYOq01XS ah0IMUXEyeV8 ag3HjZJIT041 abnbF7VFQFOH a5C9bjvXdAM8 aftgwWv4hUOZ ak6EZrodfCig a5NpsOK2pmsm a2yK1DESPgED adCn6OcASpkm a2pgeaApucx9 afsBpSBvziQ5 a7i60e5NOtqV a8UY2ZpMWQcC a89JFOu1bmIr a4PJrp23vEMA a63U1LdqUrVk a2bwO8wDn6ad a2IqXh4APUv8 a4XaoWlU8quU a2ILFjjbwAiy agFXgJPzDaBp ahLskzj1S3q agvjYupFk0cS agkdLRPI0PZH aaSo3v5ywp0v a9iWBZoGBFEI abM2uC6mQBTa akybNjpaElcy a3N5aU5yPPQJ a1xpZ1u08r3W aghpVBYE3QaZ a2Vc9H4iPayg ajJ3sZhXRN2 acDKm76yey5J a8boqUmG6oKN acf85D6oBH9g ajqgvWvXevUE a9xpVartFdxY agqRKELDzUgz a9ys8qY6saSb aazBzRDQpl5h aerPn5BQrPjs abRGMxq4xJWc a2FjYnCIpdLg aehmSmWPMRnm a4EPHo7xwTZ7 a1hb5xj6f5AY aiARPH3cA0B3 akEhPKTLlQoJ aj3KZZnqZxJp a1W0qV5BgNXj a8JtIlINuB05 ahi6AMFO3Us6 a3fYOCpR81KC a3sKwyx9HK4d a66Yk90Igllh aj1v1mEAyVZb a8mPxUN4sDkK a1wHlM9P67S9 absWMdUvJ2s afAWsVfV5EnT ag9QY1sMZyUB a80Zdrn3cgeF aiF03vjbp2AF a1D5S4rLisPt akZH45kwpJSp a7M2ESITgA9j ai17NJ5uAzpL abWZVTNlCI0p asGWBZUMx7K ajYfUWVwVrt3 a5FN6fUXPqEI a915ZjG5Zct9 akVfiz00HQgb at5IWJ9KczS adMQig7bcYal a71NWS8815tY aa8VxKX8813z adJPM9p6e2MC a7RI2WqhTlkk a5AbrWvbjkc ajWUmEVLl2If aj44uQIpLXay af6UoVYHCqzq abl0uPCGB75X acNi6nXJzrW2 ab6qbOkwnTy8 a6VSohugiEhS a3ezWFfMGLEX a5Qcuj6nVdXq a10MnBARnXA9 a1mrraaj04Au abvcHYD8e57o abAfOKFxIWPB aeih4LkgZscK akKrs3lJTN2W a5oSBdQB9dl3 a4eA3LGZvb4Y ap8FfbV4yLN ahVyiciQyMYg acU1qMTIwShA a3t0FGehYh9R a3K93kRlqfTJ a5BxfVr8MFTh aaHHqFyL0Cy5 a5HIgIkfAJsH acVLm61eYCZg afPv87ge6i35 a2xWBSArTUGx ajKlocwOKYMV ajNE5HnWp3om a1jDgf3ug4dL a6sQUurts7Op a8AWdwiUMq57 aj1dph0qd2xT a852TNb0QhAJ a3kgOm0aFKvi a2y9JXRVHmXy aaF1FMOyqwHk acanJkUphBlG a25ftP2FLhtt a4AFITVTKZtT a4Y0GZsm5cH acKPZaKm6NZz ae0wlAq1XnxS a4hYlep6YNti a80X4kDw9AFT ab2Gu3zZmW64 aj0XG65lTuns ai0rdxkEGeEo a48Tq964I7zL a4exWJwx7Xe8 aldUnrtIHxCM agtBcugmCEie ac6cGdyBxabg agWNyV4F8Pcr afeqPvUPP7va ac2EIBI1jklx afEcwVFtcfG9 agDO9dtc4EeB aOTgNgS9eYu a7N0RPhBzcln a3uysCoLiVd7 ak2ZrYsBv5kF a99cFqTnD8He akqwKe3db4hl adqsR8h5RDBP a9w5HXfbGqJ2 aiJ04FjJHlMz a5SKBFBboPh0 acHxhdsQkLfu a9p7nZn2YGMp ahltZnkFbjTq afgL1G2mIoiz a4f7lvT61VQK agNxjhtS37Bs a5qSHFlOrG0Y aeJfIByAZqle abvdKRAINSIU afE29kqoLS5h a9eXDz4pXNAI a3RRq3yU4RqO a3rNMKKMKuHy a36Qc36JzNNu ahRdPUUVTakz agXP3AsgBuY3 a8vOETiyyhAr aj0gzNjaeWXV a8cNWbjpXVAC aerOEUnEG6Uv aa1pfwsXrTbd adbgkEDByceW a2hzXUR47rgW aaEu4t1e1sow alvspEffHOFM akKG5Fx6Zhbj a976MhRkBatF af0xJpVTUn8Q aecaljZDxmym ajrpNXvdWM7V a1Uaevnep3MK af1IGDGrsxY5 aj0VaDOXbpXy a6Qeu7AlVZOo afVSI9h7GBCZ abthaudMQd2U ab2eWhEYZmUb a341kREr8sTi ac4hNJfnq9wK a3UM8HfvFNl3 a4iEDK45MyQE abkJVZ0xD2kJ ab0PnO5du8hf akOfDxhkCKUq a6xje0pBCTLl afWlccouimgP anT6oJ2Os8A abthNuF1uagl acXDEx3GHp6e aKieibbi1Gp agSEGKU4Pyi3 aj3dUnGVgiY4 aj1o9tz5N6RH a3O28Mt6iDfb ag07kmtm1cZi a2c04KYN1x3s a6gk5kdHWu0S aeuwVM0pn7Et aavIqX98wrKJ aemUm9YWM6I3 agba0oMXtWbJ a9ZvpuQXhnCX acQ8YuutGw8m a18mQyAYgdnP a7OXBPC186mm a8D8nc3ieB43 a8zx2i1MSyFt a7ROw5Kpqb4a acEkD9WgzlwW a9WXaZ6Uae2i adcPssqoS8bp ai8pC9VrCIBE ahG4AUldWyNQ a9qyoE42v3sh afCgUqHJvsf5 abjgrCt2DUJS aaoA8ThrkRLy aj6Zjhiy6DFn a7uac4CsiuqY ajcbL9070EBZ agKzD9037zPq ajPk2C1dToPW abKE8vPBlEr3 a8r8Jy0UrOhn aiZujZkBY9ny a5vPg6UYvr7U a9yy0Sms7jmL aDwPggi8GA1 aCYD7Mtaqyj ab6le95qZEhR aiK8Xlih4zse abR5pSdtlbMz afix8HR6sYhN aafL3pGMMoza a5gWIENcgkCp aeFDEhyKze60 a6kN3aHjXh1c a9sEHGtS3EDb afyJtUqf9aju a8pG8JKFg1eQ aIoJxpQBhjn alYe8n6aspge a2InhdjovJCB a5MSwQ1iYBPG ajk9GPki34rB afMS8wVO3yyl ali26aN7JB8c agG18LInWxUp akB69jqWuoOB amEHfimy86l aa2UOvfwkJiA ag7CQeM6eeUr ajaIYCi0bZB6 aixitJ3h1592 a6Jq5WvCmbkN adeYLsKXGRhX a1iVYheIwKpw ale9cyrk2kjU actYJoZoqMZD aaXjYL9KojkL abvOHsUXcCl4 afSDIOVUNJhj a63VdfPtzAhm abclI78fgQ18 ahVbon7n2doZ a9Pbqv42OYZB a2Y8MlCqCw6X admEd0IfivIs ae0x9MPI9W8E aejIfjKo2Tor a5xGkvOUIyJq ajOWBrOSNPZK a5cOUspXvPJc a8g5ZUWXSsw4 a1tK6Ant342X adDUGMCMpgrb ac80nmDxgHMj ahBC7WtRk9EE acEPKhj5lkqy a5IS0JWTAAj6 ac5Nb51sogyD agGU7VyiXdPX a7mpOHvlLHaZ ak3CY8VaAyse a4dQzmGbRE2C aeVmA2HixYu1 a8lMIeSBacTR a6k32JDUSN5f adGdAEEZhAUb
theorem te730810800314387461:True:=trivial
end PySem.W.Fast
open PySem PySem.W PyProof.Rows
set_option maxRecDepth 100000 in
set_option maxHeartbeats 0 in
theorem PySem.Challenge.cw_helmsum_k89_whole_pilot_rests_holds : PySem.Challenge.rw_helmsum_k89_whole_pilot_rests.Holds := by
 w_on;o_law;k_head;(case hw=>w_witness2)
 k_fill
 refine Lw.walk (l:=PySem.Challenge.rw_helmsum_k89_whole_pilot_rests) rfl rfl ?hi (λw h Y=>PySem.W.kIn_of Y) ?F
 case hi=>decide +kernel
 case F =>
  intro w mg fa h KX G hmg;refine' Lw.all_mk KX G hmg rfl ?aC ?aC_Guesser ?aC_Pilot ?_ ?_ ?_ ?_ ?_ ?_ ?_ ?_ ?_ ?_ ?_ ?_ ?_ ?_ ?_ ?_ ?_ ?_ ?_ ?_ ?_ ?a21 ?i21 ?l21 ?c21 ?k21 ?_ ?_ ?_ ?_ ?_ ?_ ?_ ?_ ?_ ?_ ?_ ?_ ?_ ?_ ?_ ?_ ?xa_NotSteered ?a38 ?i38 ?l38 ?c38 ?k38 ?_ ?_ ?_ ?_ ?_ ?_ ?_ ?_ ?_ ?_ ?_ ?_ ?a51 ?i51 ?l51 ?c51 ?k51 ?_ ?_ ?_ ?_ ?_ ?_ ?_ ?_ ?_ ?_ ?_ ?a63 ?i63 ?l63 ?c63 ?k63 ?_ ?xa_NotSeen ?a65 ?i65 ?l65 ?c65 ?k65 ?a66 ?i66 ?l66 ?c66 ?k66 ?a67 ?i67 ?l67 ?c67 ?k67 ?_ ?_ ?_ ?_ ?_ ?_ ?_ ?_ ?_ ?a77 ?i77 ?l77 ?c77 ?k77 ?a78 ?i78 ?l78 ?c78 ?k78 ?a79 ?i79 ?l79 ?c79 ?k79 ?a80 ?i80 ?l80 ?c80 ?k80 ?_ ?_ ?_ ?_ ?_ ?_ ?ca0 ?cl0 ?ca1 ?cl1 ?ci0 ?ci1 ?ci2 ?pg ?hd ?po ?sa ?mk ?kc ?n_move ?n_states ?n_put ?n_ins ?n_look ?n_outs ?pg_Guesser ?hd_Guesser ?po_Guesser ?sa_Guesser ?mk_Guesser ?kc_Guesser ?n_Guesser_mends ?n_Guesser_state ?n_Guesser_system ?pg_Pilot ?hd_Pilot ?po_Pilot ?sa_Pilot ?mk_Pilot ?kc_Pilot ?n_Pilot_guesser ?n_Pilot_rows ?xa_SumError ?lx_NotSteered ?sa_NotSteered ?kp_NotSteered ?nt_NotSteered ?lx_NotSeen ?sa_NotSeen ?kp_NotSeen ?nt_NotSeen ?xe_SumError ?xm_NotSteered_NotSteered ?xm_NotSteered_NotSeen ?xm_NotSeen_NotSteered ?xm_NotSeen_NotSeen ?ga_NotSteered ?gt_NotSteered ?mb_NotSteered ?mo_NotSteered ?hd_NotSteered ?ca_NotSteered ?ga_NotSeen ?gt_NotSeen ?mb_NotSeen ?mo_NotSeen ?hd_NotSeen ?ca_NotSeen ?sg_ ?tk_ ?z_abs ?z_len ?z_min ?z_range ?z_int ?z_max ?z_isinstance ?z_list ?z_bool ?z_tuple ?z_all ?z_enumerate ?z_zip ?z_sum ?z_reversed
  all_goals try refine' Ya ?_ ?_ ?_ ?_
  all_goals try k_is
  (case xe_SumError=>k_exc)
  (case xm_NotSteered_NotSteered=>kts_exm)
  (case xm_NotSteered_NotSeen=>kts_exm)
  (case xm_NotSeen_NotSteered=>kts_exm)
  (case xm_NotSeen_NotSeen=>kts_exm)