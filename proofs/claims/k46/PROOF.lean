import PyProof.Rows.All
import Wide.All
import OpenK.AllK
import Wide.FinOn
import Lean
import PyProof.EqAt
import PyProof.EqKinds
import PyProof.TupleCall
import PyProof.NeKinds
import PySem.Challenge.RW_helmsum_k46_shut_off
set_option Elab.async false
set_option linter.all false
set_option maxRecDepth 100000
set_option compiler.extract_closed false
open List renaming replicate→ce,range→on,zipWith→xL,length→FS,Nodup→TW,lookup→Zr
open PySem renaming wpAny_bind→db,FuncData→dL,Paired→jp,Shared→nw,wpAny_pure→pi,starEach→r8,sizeLine→ww,wpAny→wE,mainGlobals→xz,wpAny_Call_Name_kw→GM,cellsFrom→GT,Around→Ix,NameKind→IO,compareOp→NE,Builtin→On,cLine→Op,Program→Pi,wpAny_holding→Ps,wpAny_passesOwn→SC,wpAny_newObj_type→ST,World→Uf,wpAny_callSpecial?_slot→WF,wpAny_field→XL,bootBuiltins→XV,wpAny_mono→Zc,builtinLookup_eq_fast→Zf,wpAny_truthy_bool→Zh,wpAny_updateSeq→Zo,assignEach→Zp,IsPair→Zq,sliceBounds→Zs,codeAny→Zu
open PySem.Heap renaming get?_push_of_some→io,lt_size→o0,get?_push_size→At,get?_update_other→Cl,size_push→UF
open PySem.PassesOwn renaming never→r0
open PySem.Value renaming ref→sK,none→KM,type→KT
open PySem.Expr renaming Constant→ut,Name→BT,Call→Zk
open PyProof.Rows renaming boot_list→wv,callWith_type1→AC,boot_int→Db,boot_tuple→Id,boot_min→KK,slot_tuple_getitem→Sc,callWith_builtin1→UV,boot_isinstance→Ze,boot_abs→Zg
open PySem.Str renaming ofString→wP
open PySem.Const renaming int→AT
open PySem.SeqAt renaming EqAt→Ch,RcNeAt→Tk,RcAt→Zx
open Array renaming length_toList→Da
open PySem.Obj renaming mapSeq→Do
open PySem.Builtin.List renaming listExtendWith→Ev,listTooLong→TD,listItems→Zd,listLengthHint→Zi
open PySem.W renaming mg_none_of→EQ,emptyDict→FM,findIn→IN,instObj→Os,fnOf→SZ,nsIn→WP,keepIn→Zj
open Classical renaming byContradiction→Fa
open PySem.NameKind renaming free→Go
open PySem.Builtin.SmallTypes renaming ownedTupleIsFree→GE,nextOf→Zl
open Int renaming gcd→IR
open False renaming elim→No
open Option renaming none→PP
open True renaming intro→P3
open Ne renaming symm→SL
open PySem.SeqAt.RcAt renaming tuples→Tl
open PySem.Builtin.Tuple renaming tupleExact→T0
open PySem.Builtin.Slice renaming sliceAdjust→Zm
open PySem.SeqAt.EqAt renaming same→Zn
open PySem.Stmt renaming Assign→Zt
open Prod renaming ext→Zv
open Eq renaming trans→Zw
local macro_rules | `($x.$i:fieldIdx) => match i.raw.isFieldIdx? with | some 9 => `(($x).length) | some 8 => `(($x).heap) | some 7 => `(($x).size) | some 6 => `(($x).heap.objs.size) | some 5 => `(($x).toArray) | _ => Lean.Macro.throwUnsupported
local macro_rules | `(#[$a,*]) => `(⟨$a,*⟩)
local macro_rules | `(tactic| obtain $p:rcasesPatMed := $e:term) => do
 let a := p.raw[0].getSepArgs
 let q : Lean.TSyntax `rcasesPat ← if a.size == 1 then pure ⟨a[0]!⟩ else do
  let l ← a.mapM fun x => `(Lean.Parser.Tactic.rcasesPatLo| $(⟨x⟩):rcasesPat)
  `(rcasesPat| ⟨$l,*⟩)
 `(tactic| first | (refine Fa fun ng => ?_; (rcases $e:term with $q:rcasesPat) <;> (refine ng ?_; clear ng)) | rcases $e:term with $q:rcasesPat)
local macro_rules | `(()) => `(by first | decide | lia)
abbrev aa:=@List.getD_eq_getElem?_getD
abbrev ae:=@List.getElem?_eq_getElem
abbrev af:=@List.length_map
abbrev ag:=@Nat.le_trans
abbrev ah:=@Nat.le_refl
abbrev ai:=@List.length_append
abbrev aj:=@Nat.pow_le_pow_right
abbrev ar:=@List.mem_of_getElem?
abbrev av:=@List.mem_append
abbrev ax:=@Nat.mul_le_mul_right
abbrev aA:=@List.getElem?_map
abbrev aB:=@List.mem_map
abbrev aD:=@Nat.mul_le_mul_left
abbrev aE:=@List.getElem?_eq_none
abbrev aF:=@List.getElem?_eq_some_iff
abbrev aG:=@List.size_toArray
abbrev aI:=@List.length_replicate
abbrev aJ:=@List.mem_cons
abbrev aK:=@Nat.mul_le_mul
abbrev aL:=@Rat.intCast_natCast
abbrev aM:=@List.take_of_length_le
abbrev aP:=@PySem.boot_len
abbrev aQ:=@List.getElem_mem
abbrev aT:=@List.length_singleton
abbrev aV:=@Nat.pow_add
abbrev aW:=@Rat.intCast_mul
abbrev aX:=@List.not_mem_nil
abbrev a7:=@Nat.zero_le
abbrev a9:=@List.length_cons
abbrev bc:=@List.getElem?_append_right
abbrev bh:=@Bool.false_ne_true
abbrev bu:=@List.getElem_of_mem
abbrev bx:=@Nat.lt_of_le_of_lt
abbrev bA:=@List.mem_singleton
abbrev bB:=@List.length_range
abbrev bC:=@Nat.mul_pos
abbrev bF:=@List.getElem?_append_left
abbrev bJ:=@List.mem_append_right
abbrev bK:=@Nat.le_mul_of_pos_left
abbrev bL:=@Nat.lt_of_lt_of_le
abbrev bM:=@Int.natAbs_natCast
abbrev bP:=@List.length_take
abbrev bY:=@Option.some.inj
abbrev bZ:=@Nat.le_mul_of_pos_right
abbrev b7:=@Nat.mul_comm
abbrev b9:=@List.getElem?_zipWith
abbrev cg:=@Nat.lt_or_ge
abbrev cm:=@Nat.one_le_two_pow
abbrev cu:=@List.length_zipWith
abbrev cw:=@List.mem_of_mem_take
abbrev cz:=@List.mem_cons_of_mem
abbrev cA:=@Nat.le_of_lt
abbrev cD:=@Rat.mul_comm
abbrev cE:=@Nat.ne_of_lt
abbrev cF:=@List.append_assoc
abbrev cG:=@List.map_append
abbrev cH:=@Int.eq_ofNat_of_zero_le
abbrev cI:=@List.mem_or_eq_of_mem_set
abbrev cL:=@Rat.intCast_neg
abbrev cP:=@Int.fdiv_eq_ediv_of_nonneg
abbrev cS:=@Rat.mul_zero
abbrev cT:=@Nat.lt_trichotomy
abbrev cU:=@List.getElem?_replicate
abbrev cV:=@Nat.mul_assoc
abbrev cZ:=@List.getElem?_range
abbrev dc:=@Int.natAbs_mul
abbrev dh:=@PySem.F.plainAttrs_list
abbrev dq:=@List.map_congr_left
abbrev dw:=@Nat.not_lt_zero
abbrev dA:=@List.nil_append
abbrev dE:=@List.mem_replicate
abbrev dG:=@PySem.F.type_list_append
abbrev dH:=@PySem.F.slot_list_append
abbrev dI:=@List.ext_getElem
abbrev dM:=@List.ext_getElem?
abbrev dR:=@List.mem_cons_self
abbrev dS:=@List.mem_append_left
abbrev dW:=@Rat.intCast_inj
abbrev dX:=@PySem.W.kia_tup
abbrev dZ:=@PySem.W.kia_one
abbrev d5:=@List.length_set
abbrev d7:=@Nat.succ_mul
abbrev d9:=@Nat.succ_le_succ
abbrev eh:=@Nat.dvd_mul_left
abbrev eH:=@Nat.pow_pos
abbrev eN:=@Int.mul_assoc
abbrev eQ:=@Nat.pow_lt_pow_right
abbrev eT:=@Bool.and_eq_true
abbrev fj:=@Nat.lt_irrefl
abbrev fE:=@Rat.natCast_mul
abbrev fF:=@List.nodup_cons
abbrev fL:=@List.drop_eq_getElem_cons
abbrev fO:=@Int.natAbs_dvd_natAbs
abbrev fR:=@Nat.lt_succ_self
abbrev fV:=@Nat.eq_zero_or_pos
abbrev fW:=@List.cons_append
abbrev fX:=@Int.gcd_dvd_left
abbrev gK:=@Nat.pow_succ
abbrev gL:=@List.map_cons
abbrev gN:=@Nat.mul_add
abbrev gV:=@List.nodup_append
abbrev gW:=@List.flatten_cons
abbrev gX:=@Int.gcd_dvd_right
abbrev ig:=@Rat.zero_mul
abbrev ij:=@Nat.sub_self
abbrev ik:=@List.map_map
abbrev il:=@Int.mul_comm
abbrev iC:=@Nat.le_of_dvd
abbrev iD:=@List.getElem_map
abbrev iP:=@Bool.beq_eq_decide_eq
abbrev ja:=@List.mem_filter
abbrev jg:=@Nat.min_self
abbrev jh:=@List.map_id
abbrev ji:=@List.getElem_zipWith
abbrev jK:=@Nat.pow_le_pow_left
abbrev jL:=@List.replicate_succ
abbrev jM:=@List.flatten_append
abbrev jP:=@List.mem_range
abbrev jQ:=@List.mem_flatten
abbrev jR:=@Int.natAbs_neg
abbrev j9:=@Int.mul_pos
abbrev kg:=@Int.emod_lt_of_pos
abbrev kh:=@Bool.false_eq_true
abbrev kF:=@Nat.min_eq_left
abbrev kG:=@List.map_const'
abbrev kH:=@Bool.eq_iff_iff
abbrev md:=@Nat.le_succ
abbrev nH:=@Rat.add_zero
abbrev nJ:=@PySem.IsL.update
abbrev nK:=@List.lookup_cons
abbrev nM:=@Int.gcd_comm
abbrev nV:=@PySem.F.plain_extend_loop
abbrev nW:=@PySem.mem_of_lookup
abbrev nX:=@List.length_reverse
abbrev ou:=@Nat.dvd_trans
abbrev ow:=@List.getElem?_take_of_lt
abbrev ox:=@List.eq_of_mem_replicate
abbrev oV:=@List.append_nil
abbrev oW:=@Int.emod_nonneg
abbrev oX:=@List.getElem_range
abbrev pN:=@Int.natCast_dvd_natCast
abbrev pO:=@Int.dvd_mul_of_dvd_left
abbrev qq:=@Nat.add_comm
abbrev rF:=@PySem.F.slot_zip_next
abbrev rJ:=@List.length_drop
abbrev rK:=@List.all_eq_true
abbrev tV:=@Int.natAbs_eq
abbrev ui:=@Rat.mul_one
abbrev uj:=@Nat.pow_mul
abbrev uo:=@Nat.one_mul
abbrev uq:=@List.replicate_succ'
abbrev uv:=@List.range_succ
abbrev wo:=@Nat.dvd_refl
abbrev wA:=@Int.zero_add
abbrev wW:=@PySem.W.kitx_tuple
abbrev wX:=@Int.eq_of_mul_eq_mul_right
abbrev xE:=@Int.mul_neg_of_pos_of_neg
abbrev yz:=@PySem.W.kitx_list
abbrev yA:=@PySem.W.kitx_dict
abbrev yB:=@Nat.dvd_mul_right
abbrev yC:=@List.reverse_cons
abbrev zZ:=@Rat.intCast_eq_zero_iff
abbrev z9:=@Nat.min_le_right
abbrev Aa:=@Nat.le_add_right
abbrev Ab:=@List.mem_reverse
abbrev AM:=@PySem.W.cellsFrom_some
abbrev AN:=@Nat.mul_zero
abbrev Cp:=@Rat.mul_eq_zero
abbrev Cq:=@Rat.intCast_sub
abbrev Cr:=@Rat.intCast_add
abbrev Cs:=@List.length_zip
abbrev EK:=@Nat.add_mul
abbrev EL:=@List.mem_of_mem_drop
abbrev EM:=@List.forIn_nil
abbrev Ih:=@PySem.W.plainGet_of
abbrev Ii:=@List.filterMap_cons
abbrev KE:=@List.all_cons
abbrev KI:=@PySem.W.callWith_K
abbrev KJ:=@List.append_of_mem
abbrev Ng:=@Nat.ne_of_gt
abbrev Nh:=@List.map_nil
abbrev Ni:=@Int.dvd_refl
abbrev Ry:=@Rat.one_mul
abbrev RC:=@Nat.mul_one
abbrev RD:=@Int.dvd_gcd
abbrev RJ:=@Nat.le_antisymm
abbrev RK:=@List.of_mem_zip
abbrev RL:=@List.forIn_cons
abbrev RM:=@Int.gcd_pos_of_ne_zero_right
abbrev RN:=@Bool.decide_and
abbrev UR:=@List.nodup_nil
abbrev US:=@List.length_eraseIdx_of_lt
abbrev WJ:=@PySem.F.entry_extend_loop
abbrev WK:=@List.pairwise_iff_getElem
abbrev WL:=@List.getElem?_zip_eq_some
abbrev WM:=@Int.natAbs_ediv_of_nonneg
abbrev WS:=@Option.isSome_iff_exists
abbrev WT:=@List.mem_of_mem_eraseIdx
abbrev Yu:=@PySem.F.args_zip_next_1
abbrev Yv:=@Nat.eq_zero_of_zero_dvd
abbrev Yw:=@Nat.add_sub_cancel_left
abbrev Yx:=@List.getElem?_cons_succ
abbrev Yy:=@List.filter_cons_of_pos
abbrev Yz:=@List.filter_cons_of_neg
abbrev LR9:=List (List Rat)
abbrev FG9:=PySem.W.Frag
namespace L2
open PySem PySem.Spec PyProof.Rows
abbrev Key:=Sum Int Str
def UA:Key->Value->Bool
 | .inl k,v=>Value.isInt k v
 | .inr x,v=>Value.isStrOf x v
def Y1 (w:Uf):Key->Int
 | .inl k=>hashInt k
 | .inr x=>hashStr w x
theorem gU:∀{k:Key} {v:Value},UA k v=true->(∃i t,k=Sum.inl i/\v=Value.int i t)\/(∃x t,k=Sum.inr x/\v=Value.str x t)
 | .inl i,v,h=>by
  obtain t|e:=Value.isInt_shape (k:=i) (v:=v) h;exact .inl #[i,t,rfl,e]
 | .inr x,v,h=>by
  obtain t|e:=Value.isStrOf_shape (x:=x) (v:=v) h;exact .inr #[x,t,rfl,e]
theorem V5 (a b:Int):decide ((Sum.inl a:Key)=Sum.inl b)=(a == b):=by
 by_cases e:a=b
 ·subst e;simp
 ·have h:¬(Sum.inl a:Key)=Sum.inl b:=λq=>e (Sum.inl.inj q)
  rw[decide_eq_false h];exact (beq_eq_false_iff_ne.mpr e).symm
theorem VZ (a b:Str):decide ((Sum.inr a:Key)=Sum.inr b)=decide (a=b):=by
 by_cases e:a=b
 ·subst e;simp
 ·have h:¬(Sum.inr a:Key)=Sum.inr b:=λq=>e (Sum.inr.inj q)
  rw[decide_eq_false h,decide_eq_false e]
theorem V4 (a:Int) (b:Str):decide ((Sum.inl a:Key)=Sum.inr b)=false:=decide_eq_false (λq=>nomatch q)
theorem V3 (a:Str) (b:Int):decide ((Sum.inr a:Key)=Sum.inl b)=false:=decide_eq_false (λq=>nomatch q)
def ML (prog:Pi) (w:Uf):PySem.KeyKind prog w Key where
 is:=UA
 hash:=Y1 w
 inj:=λv a b ha hb=>by
  rcases gU ha with ⟨i,t,rfl,rfl⟩ | ⟨x,t,rfl,rfl⟩
  ·rcases gU hb with ⟨j,u,rfl,e⟩ | ⟨y,u,rfl,e⟩
   ·injection e with e1 _;rw[e1]
   ·exact nomatch e
  ·rcases gU hb with ⟨j,u,rfl,e⟩ | ⟨y,u,rfl,e⟩
   ·exact nomatch e
   ·injection e with e1 _;rw[e1]
 byValue:=λk v h=>by
  rcases gU h with ⟨i,t,rfl,rfl⟩ | ⟨x,t,rfl,rfl⟩ <;> rfl
 pyHash:=λhv h=>by
  rcases gU hv with ⟨i,t,rfl,rfl⟩ | ⟨x,t,rfl,rfl⟩
  ·exact wpAny_pyHash_int h
  ·exact wpAny_pyHash_str h
 eqBool:=λhu hv h=>by
  rcases gU hu with ⟨i,t,rfl,rfl⟩ | ⟨x,t,rfl,rfl⟩
  ·rcases gU hv with ⟨j,u,rfl,rfl⟩ | ⟨y,u,rfl,rfl⟩
   ·rw[V5] at h;exact wpAny_eqBool_int h
   ·rw[V4] at h;exact Ch.int_str i t y u _ _ _ _ h
  ·rcases gU hv with ⟨j,u,rfl,rfl⟩ | ⟨y,u,rfl,rfl⟩
   ·rw[V3] at h;exact Ch.str_int x t j u _ _ _ _ h
   ·rw[VZ] at h;exact wpAny_eqBool_str h
 «strs»:=λk x t v h=>by
  rcases gU h with ⟨i,u,rfl,e⟩ | ⟨y,u,rfl,e⟩
  ·exact nomatch e
  ·injection e with e1 _
   subst e1;cases v <;> rfl
inductive V where
  | non | bl (b : Bool) | int (i : Int) | str (x : Str) | byt (b : Array UInt8) | flt (b : UInt64) | ref (a : Addr) | ty (n : String)
  deriving DecidableEq

def RelV:V->Value->Prop
 | .non,u=>u=KM
 | .bl b,u=>u=Value.bool b
 | .int i,u=>∃t,u=Value.int i t
 | .str x,u=>∃t,u=Value.str x t
 | .byt b,u=>∃t,u=Value.bytes b t
 | .flt b,u=>∃t,u=Value.float b t
 | .ref a,u=>u=sK a
 | .ty n,u=>u=KT n
abbrev c7:List V->List Value->Prop:=jp RelV
theorem c7.length (r:c7 xs us):xs.9=us.9:=jp.length r
theorem c7.get:∀{xs:List V} {us:List Value} {i:Nat} {x:V},c7 xs us->xs[i]?=some x->∃u,us[i]?=some u/\RelV x u
 | _,_,_,_,.nil,e=>by simp at e
 | _,_,0,_,.cons r _,e=>by simp at e;subst e;exact #[_,rfl,r]
 | _,_,i+1,x,.cons _ t,e=>by
  obtain u|h1|h2:=c7.get (i:=i) (x:=x) t (by simpa using e);exact #[u,by simpa using h1,h2]
theorem c7.set {x:V} {u:Value} (r:RelV x u):∀{xs:List V} {us:List Value} (i:Nat),c7 xs us->c7 (xs.set i x) (us.set i u)
 | _,_,_,.nil=>.nil
 | _,_,0,.cons _ t=>.cons r t
 | _,_,i+1,.cons q t=>.cons q (c7.set r i t)
theorem c7.append:∀{xs ys:List V} {us ws:List Value},c7 xs us->c7 ys ws->c7 (xs++ys) (us++ws)
 | _,_,_,_,.nil,s=>s
 | _,_,_,_,.cons r t,s=>.cons r (c7.append t s)
theorem c7.take:∀{xs:List V} {us:List Value} (n:Nat),c7 xs us->c7 (xs.take n) (us.take n)
 | _,_,0,_=>.nil
 | _,_,_+1,.nil=>.nil
 | _,_,n+1,.cons r t=>.cons r (c7.take n t)
theorem c7.drop:∀{xs:List V} {us:List Value} (n:Nat),c7 xs us->c7 (xs.drop n) (us.drop n)
 | _,_,0,r=>r
 | _,_,_+1,.nil=>.nil
 | _,_,n+1,.cons _ t=>c7.drop n t
def Dx:Option V->Option Value->Prop
 | some v,some u=>RelV v u
 | none,none=>True
 | _,_=>False
def KV {κ:Type}:List (κ×V)->List (κ×Value)->Prop:=jp λ(p:κ×V) (q:κ×Value)=>p.1=q.1/\RelV p.2 q.2
def kV:Key->V
 | .inl i=>.int i
 | .inr x=>.str x
inductive HO where
 | lst (xs:List V)
 | tup (xs:List V)
 | dK (kvs:List (Key×V)) | dT (kvs:List (List Key×V))
 | set (S:Int->Bool) (n:Nat)
 | ins (C dx:Addr) (fs:List (Str×V))
 | own (x:Addr)
 | xd (fs:List (Str×V))
 | met (f x:Addr)
 | rng (lo hi:Int)
 | frz (o:Obj) (u:HO)
 | tbl (ps:Array Value)
 | ext (φ:Heap->Prop)
abbrev Hp:=Addr->Option HO
def upd (H:Hp) (a:Addr) (o:HO):Hp:=λb=>if b=a then some o else H b
theorem aN:upd H a o a=some o:=by unfold upd;rw[if_pos rfl]
theorem bG (h:b≠a):upd H a o b=H b:=by unfold upd;rw[if_neg h]
theorem hZ {H:Hp} (h:H a=some o) (h':H b=none):a≠b:=by
 intro e;subst e;rw[h] at h';cases h'
section
variable (P:Pi) (w:Uf)
def iB (H:Hp) (h:Heap) (a:Addr):HO->Prop
 | .lst xs=>xs.9<=ww/\∃(its:List Value) (n:Nat),c7 xs its/\h.get? a=some { cls:=.type "list",data:=.seq its.toArray n }
 | .tup xs=>xs.9<=ww/\∃its:List Value,c7 xs its/\IsTup h a its.5
 | .dK kvs=>kvs.9<=ww/\(a == sysModules)=false/\∃vs,KV kvs vs/\h.DictOf (ML P w) a vs
 | .dT kvs=>kvs.9<=ww/\(a == sysModules)=false/\∃xs:List (List Key×Addr×Value),
   jp (λ(p:List Key×V) (q:List Key×Addr×Value)=>p.1=q.1/\H q.2.1=some (.tup (p.1.map kV))/\RelV p.2 q.2.2) kvs xs /\
   ∃o es ep,h.get? a=some o/\o.ExactDict/\o.data=.dict es ep/\es.toList=xs.map (entryOfKey (tupleKind (ML P w)))/\(xs.map (·.1)).Nodup
 | .set S n=>h.SetOf (intKind P w) a S n
 | .ins C dx fs=>H dx=some (.own a)/\fs.9<=1000/\dx≠a/\h.get? a=some (Os C dx) /\
   ∃mA,h.Ns1 dx mA/\(∀f,Dx (fs.lookup f) (mA f))/\PySem.Within mA (fs.map (·.1))
 | .own _=>∃o,h.get? a=some o
 | .xd fs=>∃mA,h.Ns1 a mA/\∀f,Dx (fs.lookup f) (mA f)
 | .rng lo hi=>∃t u v,h.get? a=some { cls:=.type "range",data:=.fields [.int lo t,.int hi u,.int 1 v].toArray }
 | .frz o u=>h.get? a=some o/\iB H h a u
 | .tbl ps=>h.get? a=some { cls:=.none,data:=.fields ps }
 | .met f x=>h.get? a=some (PySem.W.methodObj (.ref f) (.ref x))
 | .ext φ=>φ h/\(∃o,h.get? a=some o)/\∀h1 h2:Heap,φ h1->(∀o,h1.get? a=some o->h2.get? a=some o)->φ h2
def AL (H:Hp) (h:Heap):Prop:=∀a o,H a=some o->iB P w H h a o
end
section
variable {P:Pi} {w:Uf} {H H':Hp} {h h':Heap} {a:Addr} {o:HO}
theorem iB.lt (x:iB P w H h a o):a < h.objs.7:=by
 cases o with
 | lst xs=>obtain _|_|_|_|e:=x;exact o0 e
 | tup xs=>obtain _|_|_|p:=x;exact p.lt
 | dK kvs=>obtain _|_|_|_|o|_|_|e|_:=x;exact o0 e
 | dT kvs=>obtain _|_|_|_|o|_|_|e|_:=x;exact o0 e
 | set S n=>obtain o|_|_|_|e|_:=x;exact o0 e
 | ins C dx fs=>obtain _|_|_|e|_:=x;exact o0 e
 | own y=>obtain _|e:=x;exact o0 e
 | xd fs=>obtain _|⟨_,_,_,e,_⟩|_:=x;exact o0 e
 | rng lo hi=>obtain _|_|_|e:=x;exact o0 e
 | frz ob u=>obtain e|_:=x;exact o0 e
 | tbl ps=>exact o0 (show h.get? a=some _ from x)
 | met f y=>exact o0 (show h.get? a=some _ from x)
 | ext φ=>obtain _|⟨_,e⟩|_:=x;exact o0 e
theorem jp.mapP {α β:Type} {F G:α->β->Prop}:∀{l₁:List α} {l₂:List β},jp F l₁ l₂->(∀a b,F a b->G a b)->jp G l₁ l₂
 | _,_,.nil,_=>.nil
 | _,_,.cons r t,f=>.cons (f _ _ r) (jp.mapP t f)
theorem jp.imp' {F G:α->β->Prop} (f:∀a b,F a b->G a b) {l₁:List α} {l₂:List β} (r:jp F l₁ l₂):jp G l₁ l₂:=jp.mapP r f
abbrev ca:=@jp.imp'
theorem iB.stay (x:iB P w H h a o) (k:∀b u,(b=a\/H b=some (.own a))->h.get? b=some u->h'.get? b=some u)
  (ho:∀b,H b=some (.own a)->H' b=some (.own a)) (ht:∀b xs,H b=some (.tup xs)->H' b=some (.tup xs)):iB P w H' h' a o:=by
 induction o with
 | lst xs=>obtain z|its|n|r|e:=x;exact #[z,its,n,r,k _ _ (.inl rfl) e]
 | tup xs=>obtain z|its|r|ob|e|c:=x;exact #[z,its,r,ob,k _ _ (.inl rfl) e,c]
 | dK kvs=>obtain z|y|vs|r|ob|es|ep|e|c:=x;exact #[z,y,vs,r,ob,es,ep,k _ _ (.inl rfl) e,c]
 | dT kvs =>
  obtain z|y|xs|r|ob|es|ep|e|c:=x;exact #[z,y,xs,jp.mapP r λp q z=>#[z.1,ht _ _ z.2.1,z.2.2],ob,es,ep,k _ _ (.inl rfl) e,c]
 | set S n=>obtain ob|es|ep|t|e|c:=x;exact #[ob,es,ep,t,k _ _ (.inl rfl) e,c]
 | ins C dx fs =>
  obtain d|z|ne|e|mA|⟨od,es,ep,e2,c⟩|r:=x;exact #[ho _ d,z,ne,k _ _ (.inl rfl) e,mA,#[od,es,ep,k _ _ (.inr d) e2,c],r]
 | own y=>obtain ob|e:=x;exact #[ob,k _ _ (.inl rfl) e]
 | xd fs=>obtain mA|⟨od,es,ep,e,c⟩|r:=x;exact #[mA,#[od,es,ep,k _ _ (.inl rfl) e,c],r]
 | rng lo hi=>obtain t|u|v|e:=x;exact #[t,u,v,k _ _ (.inl rfl) e]
 | frz ob u ih=>obtain e|q:=x;exact #[k _ _ (.inl rfl) e,ih q]
 | tbl ps =>
  have e:h.get? a=some { cls:=.none,data:=.fields ps }:=x;show h'.get? a=some { cls:=.none,data:=.fields ps }
  exact k a _ (.inl rfl) e
 | met f y =>
  have e:h.get? a=some (PySem.W.methodObj (.ref f) (.ref y)):=x;show h'.get? a=some (PySem.W.methodObj (.ref f) (.ref y))
  exact k a _ (.inl rfl) e
 | ext φ=>obtain p|⟨o,e⟩|st:=x;exact #[st _ _ p λo q=>k _ _ (.inl rfl) q,#[o,k _ _ (.inl rfl) e],st]
theorem AL.lt (x:AL P w H h) (e:H a=some o):a < h.objs.7:=(x a o e).lt
theorem AL.fresh (x:AL P w H h) (e:h.objs.7<=a):H a=none:=by
 cases q:H a with
 | none=>rfl
 | some u=>exact absurd (bL (x.lt q) e) (fj _)
theorem AL.kept (x:AL P w H h) (k:∀b u,h.get? b=some u->h'.get? b=some u):AL P w H h':=λa o e =>
 (x a o e).stay (λb u _ q=>k b u q) (λ_ q=>q) λ_ _ q=>q
theorem AL.laid (x:AL P w H h) (k:∀b u,h.get? b=some u->h'.get? b=some u) (hp:h.objs.7<=a) (new:iB P w (upd H a o) h' a o):AL P w (upd H a o) h':=λb u e=>by
 have hn:=x.fresh hp;by_cases hb:b=a
 ·subst hb;rw[aN] at e;cases e;exact new
 ·rw[bG hb] at e;exact (x b u e).stay (λc v _ q=>k c v q) (λc q=>by rw[bG (hZ q hn)];exact q) λc xs q=>by rw[bG (hZ q hn)];exact q
end
def Rd (H:Hp) (a:Addr) (u:HO):Prop:=H a=some u\/∃o,H a=some (.frz o u)
theorem Rd.ok (r:Rd H a u) (x:AL P w H h):iB P w H h a u:=by
 rcases r with r | ⟨o,r⟩
 ·exact x a u r
 ·obtain _|q:=x a _ r;exact q
def YF:Option HO->Prop
 | some (.lst _)=>True
 | some (.dK _)=>True
 | some (.dT _)=>True
 | some (.set _ _)=>True
 | some (.ins _ _ _)=>True
 | some (.ext _)=>True
 | _=>False
theorem AL.write (ok:AL P w H h) (mu:YF (H x)) (he:e=x\/H e=some (.own x)) (k:∀b u,b≠e->h.get? b=some u->h'.get? b=some u) (heo:∃u,h'.get? e=some u)
  (new:iB P w (upd H x o') h' x o'):AL P w (upd H x o') h':=λb u q=>by
 have nown:∀c y,H c=some (.own y)->c≠x:=λc y r z=>by subst z;rw[r] at mu;exact mu
 have ntup:∀c xs,H c=some (.tup xs)->c≠x:=λc xs r z=>by subst z;rw[r] at mu;exact mu
 by_cases hb:b=x
 ·subst hb;rw[aN] at q;cases q;exact new
 ·rw[bG hb] at q;by_cases hbe:b=e
  ·have q':H b=some (.own x):=by
    rcases he with z | z
    ·exact absurd (hbe.trans z) hb
    ·rw[hbe];exact z
   rw[q] at q';cases q';obtain v|hv:=heo;exact #[v,by rw[hbe];exact hv]
  ·refine (ok b u q).stay (λc v hc r=>k c v ?_ r) (λc r=>by rw[bG (nown c b r)];exact r) λc xs r=>by rw[bG (ntup c xs r)];exact r
   rcases hc with rfl | hc
   ·exact hbe
   ·rintro rfl;rcases he with z | z
    ·exact nown c b hc z
    ·rw[hc] at z;cases z;exact hb rfl
structure Un (fs ex:List Addr) (H H':Hp) (h h':Heap):Prop where
 keep:∀b o,h.get? b=some o->H b=none->b∉fs->b∉ex->h'.get? b=some o
 slot:∀b o,h.get? b=some o->H b=none->b∈fs->b∉ex->∃sl,h'.get? b=some { o with slots:=sl }
 free:∀b o,h.get? b=some o->H b=none->b∉ex->H' b=none
 there:∀b o,h.get? b=some o->b∉ex->∃o',h'.get? b=some o'
 tups:∀b xs,H b=some (.tup xs)->H' b=some (.tup xs)
 frzs:∀b o u,H b=some (.frz o u)->H' b=some (.frz o u)
 tbls:∀b ps,H b=some (.tbl ps)->∃more,H' b=some (.tbl (ps++more))
section
variable {fs fs' ex ex':List Addr} {H H1 H2:Hp} {h h1 h2 h':Heap} {a x e:Addr} {o:HO}
theorem Un.any (u:Un fs ex H H1 h h1) (q:h.get? b=some ob) (n:H b=none) (hx:b∉ex):∃sl,h1.get? b=some { ob with slots:=sl }:=by
 by_cases hb:b∈fs
 ·exact u.slot b ob q n hb hx
 ·exact #[ob.slots,u.keep b ob q n hb hx]
theorem Un.kept (k:∀b u,h.get? b=some u->h'.get? b=some u):Un fs ex H H h h' :=
 #[λb ob q _ _ _=>k b ob q,λb ob q _ _ _=>#[ob.slots,k b ob q],λ_ _ _ n _=>n,λb ob q _=>#[ob,k b ob q],λ_ _ q=>q,λ_ _ _ q=>q,λ_ ps q=>#[[].toArray,by rw[q];simp]]
theorem Un.refl:Un fs ex H H h h:=Un.kept λ_ _ q=>q
theorem Un.laid (k:∀b u,h.get? b=some u->h'.get? b=some u) (hp:h.objs.7<=a) (hn:H a=none):Un fs ex H (upd H a o) h h' where
 keep:=λb u q _ _ _=>k b u q
 slot:=λb u q _ _ _=>#[u.slots,k b u q]
 free:=λb u q n _=>by rw[bG (cE (bL (o0 q) hp))];exact n
 there:=λb u q _=>#[u,k b u q]
 tups:=λb xs q=>by rw[bG (hZ q hn)];exact q
 frzs:=λb u xs q=>by rw[bG (hZ q hn)];exact q
 tbls:=λb ps q=>#[[].toArray,by rw[bG (hZ q hn),q];simp]
theorem Un.write (mu:YF (H x)) (he:e=x\/H e=some (.own x)) (k:∀b u,b≠e->h.get? b=some u->h'.get? b=some u) (heo:∃u,h'.get? e=some u):Un fs ex H (upd H x o) h h':=by
 have hx:∀b,H b=none->b≠x:=λb n z=>by subst z;rw[n] at mu;exact mu
 have hb:∀b,H b=none->b≠e:=λb n z=>by
  subst z;rcases he with r | r
  ·exact hx b n r
  ·rw[n] at r;cases r
 have hm:∀b u,H b=some u->¬YF (some u)->b≠x:=λb u q nm z=>by subst z;rw[q] at mu;exact nm mu
 refine #[λb u q n _ _=>k b u (hb b n) q,λb u q n _ _=>#[u.slots,k b u (hb b n) q],λb u q n _=>by rw[bG (hx b n)];exact n,λb u q _=>?_,
  λb xs q=>by rw[bG (hm b _ q λz=>z)];exact q,λb u xs q=>by rw[bG (hm b _ q λz=>z)];exact q,λb ps q=>#[[].toArray,by rw[bG (hm b _ q λz=>z),q];simp]]
 by_cases hbe:b=e
 ·subst hbe;exact heo
 ·exact #[u,k b u hbe q]
end
def YA (h:Heap) (H:Hp):List Addr:=(on h.objs.7).filter λa=>(H a).isSome
def F5 (h:Heap) (H:Hp):Heap:=PySem.W.hideAll h (YA h H)
theorem Of (h:Heap) (H:Hp):(F5 h H).objs.size=h.objs.7:=PySem.W.hideAll_size _ _
theorem Qx (e:h.get? b=some o) (n:H b=none):(F5 h H).get? b=some o :=
 PySem.W.hideAll_get _ e λhm=>by
  have q:(H b).isSome=true:=(ja.mp hm).2;rw[n] at q;simp at q
theorem Te (e:(F5 h H).get? b=some o):h.get? b=some o/\H b=none:=by
 have e':h.get? b=some o:=PySem.W.of_hideAll (YA h H) e;refine #[e',?_];cases q:H b with
 | none=>rfl
 | some x =>
  have hm:b∈YA h H:=ja.mpr #[jP.mpr (o0 e'),by simp [q]];have z:(F5 h H).get? b=none:=PySem.W.hideAll_none (YA h H) hm;rw[z] at e;cases e
structure Mod (K:FG9) (mg:Str->Option Value) (base:Heap):Prop where
 kin:K.In base
 glob:base.Ns xz mg
 blt:∃mb,base.Ns builtinsNs mb/\∀x:Str,x≠"__name__"->mb x=XV x
 nolimit:base.NoLimit
 seer:base.NoSeer
structure Cx where
 prog:Pi
 w:Uf
 K:FG9
 mg:Str->Option Value
 base:Heap
 A:Ix
 N:List Str
 s₀:nw
 H₀:Hp
 env:Env
 outer:List Env
 stack:List Env
 ex:List Addr
 fn:Str->Bool
 calm:Bool
 pn:List (Addr×Obj)
 xe:Value->nw->Prop
def OU (l:List Env):List Addr:=l.filterMap (·.frame)
abbrev Cx.fs (X:Cx):List Addr:=OU X.outer
def Y5 (sc:Scope) (x:Str):Prop:=sc.names.lookup x=some .local\/sc.names.lookup x=some .cell\/sc.names.lookup x=some .free
def Loc (sc:Scope) (x:Str):Prop:=sc.names.lookup x=some .local\/sc.names.lookup x=some .cell
def Look (env:Env) (h:Heap) (m:Str->Option Value) (x:Str) (u:Value):Prop :=
 (env.kindOf x=some .local/\m x=some u)\/((env.kindOf x=some .cell\/env.kindOf x=some .free)/\∃c,env.cells.lookup x=some c/\h.IsCell c (some u))
structure Cx.Ok (X:Cx):Prop where
 mod:Mod X.K X.mg X.base
 kind:X.env.scope.kind=.function
 glob:X.env.globals=xz
 blt:X.env.builtins=builtinsNs
 above:X.s₀.6<=X.env.locals
 inj:∀x y c,X.env.cells.lookup x=some c->X.env.cells.lookup y=some c->x=y
 has:∀x,(X.env.kindOf x=some .cell\/X.env.kindOf x=some .free)->∃c,X.env.cells.lookup x=some c
 cab:∀x c,X.fn x=true->X.env.cells.lookup x=some c->X.s₀.6<=c
 hd:X.calm=true->X.A.handled=none
 frames:X.A.frames=some X.stack
 stk:X.stack=X.outer\/(X.stack=X.env :: X.outer/\X.env.frame=some X.env.locals)
 exf:∀b∈X.ex,b≠X.env.locals/\∀x c,X.env.cells.lookup x=some c->c≠b
 bs:∀b o,X.base.get? b=some o->X.s₀.heap.get? b=some o/\X.H₀ b=none
 bsz:X.base.objs.7<=X.s₀.heap.objs.size
 noex:∀b o,X.base.get? b=some o->b∉X.ex
 exfs:∀b∈X.ex,b∉X.fs
 funs:X.s₀.heap.FunFrames X.base X.outer
 frf:∀b∈X.fs,X.H₀ b=none
structure Inv (X:Cx) (pins:List (Addr×Obj)) (σ:List (Option V)) (H:Hp) (s:nw):Prop where
 ok:X.Ok
 os:s.os=X.s₀.os
 bare:AllBare s.gens
 base:Un X.fs X.ex X.H₀ H X.s₀.heap s.heap
 loc:∃m,s.heap.Ns X.env.locals m/\∀(i:Nat) (x:Str) (v:V),X.N[i]?=some x->σ[i]?=some (some v)->Y5 X.env.scope x->∃u,RelV v u/\Look X.env s.heap m x u
 cell:∀x c,X.env.cells.lookup x=some c->∃v,s.heap.IsCell c v
 free:H X.env.locals=none
 freeC:∀x c,X.env.cells.lookup x=some c->H c=none
 pin:∀p∈X.pn++pins,s.heap.get? p.1=some p.2/\H p.1=none/\p.1≠X.env.locals/\p.1∉X.fs/\∀v,p.2.data≠.cell v
 hok:AL X.prog X.w H s.heap
 len:σ.9=X.N.9
section
variable {X:Cx} {pins:List (Addr×Obj)} {σ:List (Option V)} {H H':Hp} {s:nw} {h':Heap}
theorem Cx.Ok.nofr (ok:X.Ok) (e:X.base.get? b=some o):b∉X.fs:=λhb=>by
 have:=(ok.funs.mem hb).1;rw[e] at this;cases this
theorem Inv.bs (I:Inv X pins σ H s):∀b o,X.base.get? b=some o->s.heap.get? b=some o/\H b=none:=λb o e =>
 #[I.base.keep b o (I.ok.bs b o e).1 (I.ok.bs b o e).2 (I.ok.nofr e) (I.ok.noex b o e),I.base.free b o (I.ok.bs b o e).1 (I.ok.bs b o e).2 (I.ok.noex b o e)]
theorem Inv.bk (I:Inv X pins σ H s):∀b o,X.base.get? b=some o->s.heap.get? b=some o:=λb o e=>(I.bs b o e).1
theorem Inv.mod (I:Inv X pins σ H s):Mod X.K X.mg X.base:=I.ok.mod
theorem Inv.kIn (I:Inv X pins σ H s):X.K.In s.8:=I.ok.mod.kin.keeps I.bk
theorem Inv.nolimit (I:Inv X pins σ H s):s.heap.NoLimit:=I.ok.mod.nolimit.keeps I.bk
theorem Inv.lt (I:Inv X pins σ H s):X.env.locals < s.6:=let ⟨_,hn,_⟩:=I.loc;hn.lt
theorem Inv.sz (I:Inv X pins σ H s):X.s₀.6<=s.6:=ag I.ok.above (cA I.lt)
theorem Inv.nofs (I:Inv X pins σ H s) {a:Addr} (h:s.6<=a):a∉X.fs:=λhb=>by
 obtain _|o|ho|_:=I.ok.funs.mem hb;exact absurd (bL (o0 ho) (ag I.sz h)) (fj _)
theorem Inv.cne (I:Inv X pins σ H s):∀x c,X.env.cells.lookup x=some c->c≠X.env.locals:=λx c e z=>by
 obtain v|o|ho|hd:=I.cell x c e;obtain m|⟨o',es,ep,ho',hd',_⟩|_:=I.loc;rw[z,ho'] at ho;cases ho;rw[hd'] at hd;cases hd
theorem Inv.funs (I:Inv X pins σ H s):s.heap.FunFrames X.base X.outer:=by
 have all:∀(l:List Env),(∀b∈OU l,b∈X.fs)->X.s₀.heap.FunFrames X.base l->s.heap.FunFrames X.base l:=by
  intro l
  induction l with
  | nil=>intro _ _;trivial
  | cons env r ih =>
   intro hs hl;obtain hk|⟨L,o,hf,hn,ho,hd⟩|hr:=hl;have hL:L∈X.fs:=hs L (by unfold OU;rw[Ii,hf];exact dR);obtain sl|e:=I.base.slot L o ho (I.ok.frf L hL) hL λz=>I.ok.exfs L z hL
   exact #[hk,#[L,_,hf,hn,e,hd],ih (λb hb=>hs b (by unfold OU;rw[Ii,hf];exact cz _ hb)) hr]
 exact all X.outer (λ_ hb=>hb) I.ok.funs
theorem Inv.stack (I:Inv X pins σ H s):s.heap.FunFrames X.base X.stack:=by
 rcases I.ok.stk with e | ⟨e,hf⟩
 ·rw[e];exact I.funs
 ·rw[e];obtain m|hn|_:=I.loc;refine .cons (by rw[I.ok.kind];decide) hf hn ?_ I.funs;exact Heap.get?_none_of_le (ag I.ok.bsz I.ok.above)
theorem Inv.stkSub (I:Inv X pins σ H s):∀b∈OU X.stack,b∈X.env.locals :: X.fs:=λb hb=>by
 rcases I.ok.stk with e | ⟨e,hf⟩
 ·rw[e] at hb;exact cz _ hb
 ·rw[e] at hb;unfold OU at hb;rw[Ii,hf] at hb;exact hb
theorem Inv.stkFree (I:Inv X pins σ H s):∀b∈OU X.stack,H b=none:=λb hb=>by
 rcases aJ.mp (I.stkSub b hb) with e | hb
 ·rw[e];exact I.free
 ·obtain _|o|ho|_:=I.ok.funs.mem hb;exact I.base.free b o ho (I.ok.frf b hb) λz=>I.ok.exfs b z hb
theorem Inv.step {ch:List Addr} (I:Inv X pins σ H s)
  (hch:∀b∈ch,(b∈X.ex\/X.s₀.6<=b)/\b≠X.env.locals/\(∀x c,X.env.cells.lookup x=some c->c≠b)/\∀p∈X.pn++pins,p.1≠b)
  (keep:∀b o,b≠X.env.locals->b∉X.fs->b∉ch->s.heap.get? b=some o->H b=none->h'.get? b=some o)
  (slot:∀b o,b≠X.env.locals->b∈X.fs->b∉ch->s.heap.get? b=some o->H b=none->∃sl,h'.get? b=some { o with slots:=sl }) (free:∀b o,b∉ch->s.heap.get? b=some o->H b=none->H' b=none)
  (there:∀b o,b∉ch->s.heap.get? b=some o->∃o',h'.get? b=some o')
  (tups:∀b xs,H b=some (.tup xs)->H' b=some (.tup xs)) (frzs:∀b o u,H b=some (.frz o u)->H' b=some (.frz o u)) (tbls:∀b ps,H b=some (.tbl ps)->∃more,H' b=some (.tbl (ps++more)))
  (ns:∀m,s.heap.Ns X.env.locals m->h'.Ns X.env.locals m) (hok:AL X.prog X.w H' h') (hg:AllBare g') :
  Inv X pins σ H' { s with heap:=h',gens:=g',drawn:=d',toks:=t' }:=by
 have neL:∀b o,X.s₀.heap.get? b=some o->b≠X.env.locals:=λb o e=>cE (bL (o0 e) I.ok.above)
 have neC:∀b o,X.s₀.heap.get? b=some o->b∉X.ex->b∉ch:=λb o e hx hb=>by
  rcases (hch b hb).1 with z | z
  ·exact hx z
  ·exact absurd (bL (o0 e) z) (fj _)
 have cellK:∀x c,X.env.cells.lookup x=some c->∀v,s.heap.IsCell c v->h'.IsCell c v:=λx c e v #[o,ho,hd]=>by
  have nch:c∉ch:=λz=>(hch c z).2.2.1 x c e rfl
  by_cases hc:c∈X.fs
  ·obtain sl|q:=slot c o (I.cne x c e) hc nch ho (I.freeC x c e);exact #[_,q,hd]
  ·exact #[o,keep c o (I.cne x c e) hc nch ho (I.freeC x c e),hd]
 refine #[I.ok,I.os,hg,#[λb o e n hb hx=>?_,λb o e n hb hx=>?_,λb o e n hx=>?_,λb o e hx=>?_,λb xs e=>tups b xs (I.base.tups b xs e),λb o xs e=>frzs b o xs (I.base.frzs b o xs e),λb ps e=>?_],?_,λx c e=>?_,?_,λx c e=>?_,λp hp=>?_,hok,I.len]
 ·exact keep b o (neL b o e) hb (neC b o e hx) (I.base.keep b o e n hb hx) (I.base.free b o e n hx)
 ·obtain sl|e1:=I.base.slot b o e n hb hx;obtain sl'|e2:=slot b _ (neL b o e) hb (neC b o e hx) e1 (I.base.free b o e n hx);exact #[sl',e2]
 ·obtain o'|e1:=I.base.there b o e hx;exact free b o' (neC b o e hx) e1 (I.base.free b o e n hx)
 ·obtain o'|e1:=I.base.there b o e hx;exact there b o' (neC b o e hx) e1
 ·obtain m1|e1:=I.base.tbls b ps e;obtain m2|e2:=tbls b _ e1;exact #[m1++m2,by rw[e2,Array.append_assoc]]
 ·obtain m|hn|hl:=I.loc;refine #[m,ns m hn,λi x v e1 e2 e3=>?_];obtain u|r|l:=hl i x v e1 e2 e3;refine #[u,r,?_];rcases l with l | ⟨k,c,e,z⟩
  ·exact .inl l
  ·exact .inr #[k,c,e,cellK x c e _ z]
 ·obtain v|z:=I.cell x c e;exact #[v,cellK x c e v z]
 ·obtain m|⟨o,_,_,ho,_⟩|_:=I.loc;exact free _ o (λz=>(hch _ z).2.1 rfl) ho I.free
 ·obtain v|o|ho|hd:=I.cell x c e;exact free c o (λz=>(hch c z).2.2.1 x c e rfl) ho (I.freeC x c e)
 ·obtain e|n|ne|nf|d:=I.pin p hp;have nch:p.1∉ch:=λz=>(hch p.1 z).2.2.2 p hp rfl
  exact #[keep p.1 p.2 ne nf nch e n,free p.1 p.2 nch e n,ne,nf,d]
theorem Inv.un (I:Inv X pins σ H s) (u:Un X.fs [] H H' s.heap h') (hok:AL X.prog X.w H' h'):Inv X pins σ H' { s with heap:=h',toks:=t' }:=by
 obtain m|⟨o,es,ep,ho,r⟩|_:=id I.loc;obtain sl|hL:=u.any ho I.free (by simp)
 exact I.step (g':=s.gens) (d':=s.drawn) (ch:=[]) (λ_ z=>nomatch z) (λb o _ hb _ e n=>u.keep b o e n hb (by simp)) (λb o _ hb _ e n=>u.slot b o e n hb (by simp)) (λb o _ e n=>u.free b o e n (by simp)) (λb o _ e=>u.there b o e (by simp)) u.tups u.frzs u.tbls (λm' hm=>by
  obtain o'|es'|ep'|ho'|r':=hm;rw[ho] at ho';cases ho';exact #[_,es',ep',hL,r']) hok I.bare
theorem Inv.call (I:Inv X pins σ H s) (u:Un (OU X.stack) ch H H' s.heap h') (hok:AL X.prog X.w H' h') (hg:AllBare g')
  (hch:∀b∈ch,(b∈X.ex\/X.s₀.6<=b)/\b≠X.env.locals/\(∀x c,X.env.cells.lookup x=some c->c≠b)/\∀p∈X.pn++pins,p.1≠b) :
  Inv X pins σ H' { s with heap:=h',gens:=g',drawn:=d',toks:=t' }:=by
 obtain m|⟨o,es,ep,ho,r⟩|_:=id I.loc;obtain sl|hL:=u.any ho I.free λz=>(hch _ z).2.1 rfl
 exact I.step (ch:=ch) hch (λb o hL hb hc e n=>u.keep b o e n (λz=>(aJ.mp (I.stkSub b z)).elim hL hb) hc) (λb o _ _ hc e n=>u.any e n hc) (λb o hc e n=>u.free b o e n hc) (λb o hc e=>u.there b o e hc) u.tups u.frzs u.tbls (λm' hm=>by
  obtain o'|es'|ep'|ho'|r':=hm;rw[ho] at ho';cases ho';exact #[_,es',ep',hL,r']) hok hg
theorem Inv.turned (I:Inv X pins σ H s) (k:∀b o,b≠it->s.heap.get? b=some o->h'.get? b=some o) (hn:H it=none) (hL:it≠X.env.locals)
  (h1:it∈X.ex\/X.s₀.6<=it) (h2:∀x c,X.env.cells.lookup x=some c->c≠it) (h3:∀p∈X.pn++pins,p.1≠it):Inv X pins σ H { s with heap:=h',toks:=t' }:=by
 have nit:∀b u,H b=some u->b≠it:=λb u e z=>by rw[z,hn] at e;cases e
 refine I.step (g':=s.gens) (d':=s.drawn) (ch:=[it]) (λb hb=>?_) (λb o _ _ hc e _=>k b o (λz=>hc (by simp [z])) e) (λb o _ _ hc e _=>#[o.slots,k b o (λz=>hc (by simp [z])) e]) (λ_ _ _ _ n=>n)
  (λb o hc e=>#[o,k b o (λz=>hc (by simp [z])) e]) (λ_ _ e=>e) (λ_ _ _ e=>e) (λb ps e=>#[[].toArray,by rw[e];simp]) (λm hm=>?_) (λb u e=>?_) I.bare
 ·have e:b=it:=by simpa using hb
  subst e;exact #[h1,hL,h2,h3]
 ·obtain o|es|ep|ho|r:=hm;exact #[o,es,ep,k _ o (SL hL) ho,r]
 ·refine (I.hok b u e).stay (λc v hc q=>k c v ?_ q) (λ_ q=>q) λ_ _ q=>q
  rcases hc with z | z
  ·rw[z];exact nit b u e
  ·exact nit c _ z
theorem Inv.tok (I:Inv X pins σ H s) (t:Nat):Inv X pins σ H { s with toks:=t }:=I.un (h':=s.8) (t':=t) Un.refl I.hok
theorem Inv.kept (I:Inv X pins σ H s) (k:∀b u,s.heap.get? b=some u->h'.get? b=some u):Inv X pins σ H { s with heap:=h',toks:=t' }:=I.un (Un.kept k) (I.hok.kept k)
theorem Inv.laid {a:Addr} (I:Inv X pins σ H s) (k:∀b u,s.heap.get? b=some u->h'.get? b=some u) (hp:s.6<=a) (new:iB X.prog X.w (upd H a o) h' a o) :
  Inv X pins σ (upd H a o) { s with heap:=h',toks:=t' }:=I.un (Un.laid k hp (I.hok.fresh hp)) (I.hok.laid k hp new)
theorem Inv.write (I:Inv X pins σ H s) (mu:YF (H x)) (he:e=x\/H e=some (.own x)) (k:∀b u,b≠e->s.heap.get? b=some u->h'.get? b=some u) (heo:∃u,h'.get? e=some u)
  (new:iB X.prog X.w (upd H x o) h' x o):Inv X pins σ (upd H x o) { s with heap:=h',toks:=t' }:=I.un (Un.write mu he k heo) (I.hok.write mu he k heo new)
theorem Inv.pins_of (I:Inv X pins σ H s) (h:∀p∈pins',s.heap.get? p.1=some p.2/\H p.1=none/\p.1≠X.env.locals/\p.1∉X.fs/\∀v,p.2.data≠.cell v):Inv X pins' σ H s :=
 #[I.ok,I.os,I.bare,I.base,I.loc,I.cell,I.free,I.freeC,λp hp=>(av.mp hp).elim (λz=>I.pin p (dS _ z)) (h p),I.hok,I.len]
theorem Jn {N:List Str} (hN:N.Nodup) {i j:Nat} (a:N[i]?=some x) (b:N[j]?=some x):i=j:=by
 obtain h1|e1:=aF.mp a;obtain h2|e2:=aF.mp b;exact (List.getElem_inj hN).mp (e1.trans e2.symm)
theorem DC {M:Model} {A:Ix} {E:Value->nw->Prop} {i:Nat} {x:Str} {v:V} {u:Value} {Q:Unit->nw->Prop} (I:Inv X pins σ H s) (hN:X.N.Nodup) (hi:X.N[i]?=some x) (hx:Loc X.env.scope x) (r:RelV v u)
  (h:∀s',Inv X pins (σ.set i (some v)) H s'->(∃a,Heap.SameBut a s.heap s'.8/\(a=X.env.locals\/X.env.cells.lookup x=some a))->Q .unit s') (hf:X.fn x=true\/X.env.scope.names.lookup x=some .local:=by first | exact .inl rfl | exact .inr rfl | assumption):wE M A (storeName X.env x u) Q E s:=by
 obtain m|hn|hl:=id I.loc;have hcls:(X.env.scope.kind == .class || (X.env.scope.kind == .module && X.env.locals != X.env.globals))=false:=by rw[I.ok.kind];rfl
 have hiσ:i < σ.9:=by rw[I.len];exact (aF.mp hi).1
 have cne:=I.cne
 have tracked:∀{a:Addr} {h':Heap},(∃o,s.heap.get? a=some o/\H a=none)->Heap.SameBut a s.heap h'->AL X.prog X.w H h':=λ{a h'} ha hs b ob e=>by
  obtain _|_|hfree:=ha;refine (I.hok b ob e).stay (λc w' hc q=>(hs.2 c ?_).trans q) (λ_ q=>q) λ_ _ q=>q
  rintro rfl;rcases hc with rfl | hc
  ·rw[hfree] at e;cases e
  ·rw[hfree] at hc;cases hc
 rcases hx with hk | hk
 ·refine wpAny_storeName_local hk hn (λh' hn' hs=>?_) hcls;obtain oL|_|_|hoL|_:=id hn;refine h _ #[I.ok,I.os,I.bare,#[λb o e n hb hx=>?_,λb o e n hb hx=>?_,I.base.free,λb o e hx=>?_,I.base.tups,I.base.frzs,I.base.tbls],#[_,hn',λj y v' e1 e2 e3=>?_],λy c e=>?_,I.free,I.freeC,λp hp=>?_,tracked #[oL,hoL,I.free] hs,by simpa using I.len] #[_,hs,.inl rfl]
  ·exact (hs.2 b (cE (bL (o0 e) I.ok.above))).trans (I.base.keep b o e n hb hx)
  ·obtain sl|e1:=I.base.slot b o e n hb hx;exact #[sl,(hs.2 b (cE (bL (o0 e) I.ok.above))).trans e1]
  ·obtain o'|e1:=I.base.there b o e hx;exact #[o',(hs.2 b (cE (bL (o0 e) I.ok.above))).trans e1]
  ·by_cases hj:j=i
   ·subst hj;rw[hi] at e1;cases e1;rw[List.getElem?_set_self hiσ] at e2;cases e2;exact #[u,r,.inl #[hk,by simp]]
   ·rw[List.getElem?_set_ne (SL hj)] at e2;obtain u'|r'|q:=hl j y v' e1 e2 e3;refine #[u',r',?_];rcases q with ⟨k,e⟩ | ⟨k,c,e,z⟩
    ·refine .inl #[k,?_];have:y≠x:=λe=>hj (Jn hN e1 (e ▸ hi))
     simp [this,e]
    ·exact .inr #[k,c,e,z.sameBut hs (cne y c e)]
  ·obtain w'|z:=I.cell y c e;exact #[w',z.sameBut hs (cne y c e)]
  ·obtain e|n|ne|nf|d:=I.pin p hp;exact #[(hs.2 p.1 ne).trans e,n,ne,nf,d]
 ·have hfn:X.fn x=true:=by
   rcases hf with z | z
   ·exact z
   ·rw[z] at hk;cases hk
  obtain c|hc:=I.ok.has x (.inl hk);obtain w'|z:=I.cell x c hc;refine wpAny_storeName_cell I.ok.kind hk hc z (λh' hc' hs=>?_);obtain oc|hoc|hocd:=id z;refine h { s with heap:=h' } ⟨I.ok,I.os,I.bare,⟨λb o e n hb hx=>?_,λb o e n hb hx=>?_,I.base.free,λb o e hx=>?_,I.base.tups,I.base.frzs,I.base.tbls⟩,#[m,hn.sameBut hs (SL (cne x c hc)),λj y v' e1 e2 e3=>?_],λy c' e=>?_,I.free,I.freeC,λp hp=>?_,tracked #[oc,hoc,I.freeC x c hc] hs,by simpa using I.len⟩ #[c,hs,.inr hc]
  ·exact (hs.2 b (cE (bL (o0 e) (I.ok.cab x c hfn hc)))).trans (I.base.keep b o e n hb hx)
  ·obtain sl|e1:=I.base.slot b o e n hb hx;exact #[sl,(hs.2 b (cE (bL (o0 e) (I.ok.cab x c hfn hc)))).trans e1]
  ·obtain o'|e1:=I.base.there b o e hx;exact #[o',(hs.2 b (cE (bL (o0 e) (I.ok.cab x c hfn hc)))).trans e1]
  ·by_cases hj:j=i
   ·subst hj;rw[hi] at e1;cases e1;rw[List.getElem?_set_self hiσ] at e2;cases e2;exact #[u,r,.inr #[.inl hk,c,hc,hc']]
   ·rw[List.getElem?_set_ne (SL hj)] at e2;obtain u'|r'|q:=hl j y v' e1 e2 e3;refine #[u',r',?_];rcases q with q | ⟨k,c',e,z'⟩
    ·exact .inl q
    ·refine .inr #[k,c',e,z'.sameBut hs ?_];rintro rfl;exact hj (Jn hN e1 (I.ok.inj _ _ _ e hc ▸ hi))
  ·by_cases hcc:c'=c
   ·subst hcc;exact #[_,hc']
   ·obtain w2|z2:=I.cell y c' e;exact #[w2,z2.sameBut hs hcc]
  ·obtain e|n|ne|nf|d:=I.pin p hp;refine #[(hs.2 p.1 ?_).trans e,n,ne,nf,d];intro q;rw[q,hoc] at e;have q':oc=p.2:=bY e;exact d w' (by rw[<- q'];exact hocd)
theorem xH {M:Model} {A:Ix} {E:Value->nw->Prop} {i:Nat} {x:Str} {v:V} {u:Value} {Q:Unit->nw->Prop} (I:Inv X pins σ H s) (hN:X.N.Nodup) (hi:X.N[i]?=some x) (hx:Loc X.env.scope x) (r:RelV v u)
  (h:∀s',Inv X pins (σ.set i (some v)) H s'->Q .unit s') (hf:X.fn x=true\/X.env.scope.names.lookup x=some .local:=by first | exact .inl rfl | exact .inr rfl | assumption):wE M A (storeName X.env x u) Q E s :=
 DC I hN hi hx r (λs' I' _=>h s' I') hf
theorem Inv.call' (I:Inv X pins σ H s) (ho:s'.os=s.os) (u:Un (OU X.stack) ch H H' s.heap s'.8) (hok:AL X.prog X.w H' s'.8) (hg:AllBare s'.gens)
  (hch:∀b∈ch,(b∈X.ex\/X.s₀.6<=b)/\b≠X.env.locals/\(∀x c,X.env.cells.lookup x=some c->c≠b)/\∀p∈X.pn++pins,p.1≠b):Inv X pins σ H' s':=by
 obtain h'|g'|d'|t'|o':=s';have e:o'=s.os:=ho;subst e;exact I.call (g':=g') (t':=t') (d':=d') u hok hg hch
end
abbrev XK:=Value->Option Addr->Hp->Prop
abbrev St:=List (Option V)
abbrev VK:=V->Hp->Prop
abbrev TE:=St->Hp->VK->Prop
abbrev TT:=St->Hp->(Bool->Hp->Prop)->Prop
abbrev TA:=St->Hp->(List V->Hp->Prop)->Prop
structure Ends where
 nx:St->Hp->Prop
 rt:VK
 bk:St->Hp->Prop:=λ_ _=>False
 ct:St->Hp->Prop:=λ_ _=>False
abbrev TS:=Ends->St->Hp->Prop
def EP (X:Cx) (pins:List (Addr×Obj)) (σ:St) (Q:VK) (u:Value) (s':nw):Prop:=∃v H',Inv X pins σ H' s'/\RelV v u/\Q v H'
def TP (X:Cx) (pins:List (Addr×Obj)) (σ:St) (Q:Bool->Hp->Prop) (b:Bool) (s':nw):Prop:=∃H',Inv X pins σ H' s'/\Q b H'
def AP (X:Cx) (pins:List (Addr×Obj)) (σ:St) (Q:List V->Hp->Prop) (us:List Value) (s':nw):Prop:=∃vs H',Inv X pins σ H' s'/\c7 vs us/\Q vs H'
def SP (X:Cx) (pins:List (Addr×Obj)) (D:Ends) (f:Flow) (s':nw):Prop :=
 match f with
 | .next=>∃σ' H',Inv X pins σ' H' s'/\D.nx σ' H'
 | .brk=>∃σ' H',Inv X pins σ' H' s'/\D.bk σ' H'
 | .cont=>∃σ' H',Inv X pins σ' H' s'/\D.ct σ' H'
 | .ret u=>∃v σ' H',Inv X pins σ' H' s'/\RelV v u/\D.rt v H'
def PE (X:Cx) (e:Expr) (t:TE):Prop :=
 ∀(pins:List (Addr×Obj)) (s:nw) (σ:St) (H:Hp) (Q:VK),Inv X pins σ H s->t σ H Q->wE (model X.prog X.w) X.A (eval e X.env) (EP X pins σ Q) X.xe s
def PT (X:Cx) (e:Expr) (t:TT):Prop :=
 ∀(pins:List (Addr×Obj)) (s:nw) (σ:St) (H:Hp) (Q:Bool->Hp->Prop),Inv X pins σ H s->t σ H Q->wE (model X.prog X.w) X.A (isTrue e X.env (eval e X.env)) (TP X pins σ Q) X.xe s
def PW (X:Cx) (e:Expr) (t:TT):Prop :=
 ∀(whole:Sem Value) (pins:List (Addr×Obj)) (s:nw) (σ:St) (H:Hp) (Q:Bool->Hp->Prop),Inv X pins σ H s->t σ H Q->wE (model X.prog X.w) X.A (isTrue e X.env whole) (TP X pins σ Q) X.xe s
theorem PW.pt (h:PW X e t):PT X e t:=h _
def PA (X:Cx) (es:List Expr) (t:TA):Prop :=
 ∀(pos:Pos) (pins:List (Addr×Obj)) (s:nw) (σ:St) (H:Hp) (Q:List V->Hp->Prop),Inv X pins σ H s->t σ H Q->wE (model X.prog X.w) X.A (spliced (backTo pos (r8 es X.env))) (AP X pins σ Q) X.xe s
def PS (X:Cx) (st:Stmt) (t:TS):Prop :=
 ∀(pins:List (Addr×Obj)) (s:nw) (σ:St) (H:Hp) (D:Ends),Inv X pins σ H s->t D σ H->wE (model X.prog X.w) X.A (exec st X.env) (SP X pins D) X.xe s
def KG (X:Cx) (st:List Stmt) (t:TS):Prop :=
 ∀(pins:List (Addr×Obj)) (s:nw) (σ:St) (H:Hp) (D:Ends),Inv X pins σ H s->t D σ H->wE (model X.prog X.w) X.A (execs st X.env) (SP X pins D) X.xe s
theorem iQ {t:Sem α} {Q Q':α->nw->Prop} (h:wE M A t Q E s) (hQ:∀a s,Q a s->Q' a s):wE M A t Q' E s:=Zc h hQ λ_ _ x=>x
section
variable {X:Cx}
def UZ (i:Nat):TE:=λσ H Q=>∃v,σ[i]?=some (some v)/\Q v H
def tC (v:V):TE:=λ_ H Q=>Q v H
theorem VM {i:Nat} {x:Str} {pos:Pos} (hN:X.N[i]?=some x) (hv:Y5 X.env.scope x) (hd:(x == ("__debug__":Str))=false:=by decide) (hcd:(x == ("__classdict__":Str))=false:=by decide):PE X (.Name x pos) (UZ i):=by
 intro pins s σ H Q I h;obtain v|e|h:=h;obtain m|hn|hl:=I.loc;obtain u|r|l:=hl i x v hN e hv;have fin:EP X pins σ Q u s:=#[v,H,I,r,h];rcases l with ⟨hk,hm⟩ | ⟨hk,c,hc,hcell⟩
 ·exact wpAny_Name (wpAny_loadName_local I.ok.kind hk hn hm fin) hd
 ·rcases hk with hk | hk
  ·exact wpAny_Name (wpAny_loadName_cell I.ok.kind hk hc hcell fin) hd
  ·exact wpAny_Name (wpAny_loadName_free I.ok.kind hk hc hcell fin hcd) hd
theorem ak:PE X (.Constant (.int i) j pos) (tC (.int i)):=λ_ _ _ H _ I h=>wpAny_Constant_int #[.int i,H,I.tok _,#[_,rfl],h]
theorem ma:PE X (.Constant (.bool b) j pos) (tC (.bl b)):=λ_ _ _ H _ I h=>Constant_bool #[.bl b,H,I,rfl,h]
theorem vg:PE X (.Constant .none j pos) (tC .non):=λ_ _ _ H _ I h=>Constant_none #[.non,H,I,rfl,h]
theorem kU:PE X (.Constant (.str x) j pos) (tC (.str x)):=λ_ _ _ H _ I h=>Calls.Constant_str #[.str x,H,I.tok _,#[_,rfl],h]
def Gl (X:Cx) (x:Str):Prop:=X.env.kindOf x=some .globalImplicit
theorem FZ {E:Value->nw->Prop} {pins:List (Addr×Obj)} {s:nw} {σ:St} {H:Hp} {x:Str} {u:Value} {pos:Pos} {Q:Value->nw->Prop} (I:Inv X pins σ H s) (hg:Gl X x) (hm:X.mg x=some u) (h:Q u s)
  (hd:(x == ("__debug__":Str))=false:=by decide):wE (model X.prog X.w) X.A (eval (.Name x pos) X.env) Q E s :=
 Calls.Name_function_global I.ok.kind hg (Calls.loadGlobal_global (by rw[I.ok.glob];exact I.mod.glob.keeps I.bk) hm h) hd
theorem mL {E:Value->nw->Prop} {pins:List (Addr×Obj)} {s:nw} {σ:St} {H:Hp} {x:Str} {u:Value} {pos:Pos} {Q:Value->nw->Prop} (I:Inv X pins σ H s) (hg:Gl X x) (hm:X.mg x=none) (hv:XV x=some u) (h:Q u s)
  (hn:x≠"__name__":=by decide) (hd:(x == ("__debug__":Str))=false:=by decide):wE (model X.prog X.w) X.A (eval (.Name x pos) X.env) Q E s:=by
 obtain mb|h1|h2:=I.mod.blt;exact Calls.Name_function_global I.ok.kind hg (Calls.loadGlobal_builtin (by rw[I.ok.glob];exact I.mod.glob.keeps I.bk) hm (by rw[I.ok.blt];exact h1.keeps I.bk) ((h2 x hn).trans hv) h) hd
theorem mT {x:Str} {v:V} {u:Value} {pos:Pos} (hg:Gl X x) (hm:X.mg x=some u) (r:RelV v u) (hd:(x == ("__debug__":Str))=false:=by decide):PE X (.Name x pos) (tC v) :=
 λ_ _ _ H _ I h=>FZ I hg hm #[v,H,I,r,h] hd
theorem AA {x:Str} {v:V} {u:Value} {pos:Pos} (hg:Gl X x) (hm:X.mg x=none) (hv:XV x=some u) (r:RelV v u) (hn:x≠"__name__":=by decide) (hd:(x == ("__debug__":Str))=false:=by decide):PE X (.Name x pos) (tC v) :=
 λ_ _ _ H _ I h=>mL I hg hm hv #[v,H,I,r,h] hn hd
variable {a b:Expr} {ta tb:TE} {pos:Pos}
def tB (t:TE):TT:=λσ H Q=>t σ H λx H1=>∃c,x=.bl c/\Q c H1
theorem fJ {e:Expr} {t:TE} (h:PE X e t) (he:∀whole,isTrue e X.env whole=(do let v <- whole;standAt e.pos;holding [v] (truthy v)):=by intro _;rfl):PT X e (tB t):=by
 intro pins s σ H Q I hw;refine isTrue_plain (iQ (h pins s σ H _ I hw) λv s1 #[x,H1,I1,r1,q1]=>?_) (he _);obtain d|rfl|q:=q1;cases r1;exact Zh #[H1,I1,q]
variable {tA tB':TT} {rest:List Expr}
def Xg (t u:TT):TT:=λσ H Q=>t σ H λc H1=>if c=true then u σ H1 Q else Q false H1
def tOr (t u:TT):TT:=λσ H Q=>t σ H λc H1=>if c=true then Q true H1 else u σ H1 Q
def W7 (t:TT):TT:=λσ H Q=>t σ H λc H1=>Q (!c) H1
theorem kT (ha:PT X a tA):PW X (.BoolOp .And [a] pos) tA:=by
 intro wh pins s σ H Q I h;refine isTrue_and (iQ (ha pins s σ H Q I h) λc s1 e=>?_);cases c with
 | true=>exact isTrue_and_nil e
 | false=>exact e
theorem jq (ha:PT X a tA):PW X (.BoolOp .Or [a] pos) tA:=by
 intro wh pins s σ H Q I h;refine isTrue_or (iQ (ha pins s σ H Q I h) λc s1 e=>?_);cases c with
 | false=>exact isTrue_or_nil e
 | true=>exact e
theorem kj (ha:PT X a tA) (hb:PW X (.BoolOp .And (b :: rest) pos) tB'):PW X (.BoolOp .And (a :: b :: rest) pos) (Xg tA tB'):=by
 intro wh pins s σ H Q I h;refine isTrue_and (iQ (ha pins s σ H _ I h) λc s1 #[H1,I1,q1]=>?_);cases c with
 | true=>exact hb wh pins s1 σ H1 Q I1 q1
 | false=>exact #[H1,I1,q1]
theorem lZ (ha:PT X a tA) (hb:PW X (.BoolOp .Or (b :: rest) pos) tB'):PW X (.BoolOp .Or (a :: b :: rest) pos) (tOr tA tB'):=by
 intro wh pins s σ H Q I h;refine isTrue_or (iQ (ha pins s σ H _ I h) λc s1 #[H1,I1,q1]=>?_);cases c with
 | true=>exact #[H1,I1,q1]
 | false=>exact hb wh pins s1 σ H1 Q I1 q1
theorem iY (ha:PT X a tA):PT X (.UnaryOp .Not a pos) (W7 tA):=by
 intro pins s σ H Q I h;exact isTrue_not (ha pins s σ H (λc H1=>Q (!c) H1) I h)
def Uk (ta tb:TE):TE:=λσ H Q=>ta σ H λx H1=>∃c,x=.bl c/\if c=true then tb σ H1 Q else Q (.bl false) H1
def Ud (ta:TE):TE:=λσ H Q=>ta σ H λx H1=>∃c,x=.bl c/\Q (.bl (!c)) H1
theorem Fs (h:PE X a t):PE X (.BoolOp op [a] pos) t:=λpins s σ H Q I hw=>BoolOp_one (h pins s σ H Q I hw)
theorem Fu (ha:PE X a ta) (hb:PE X (.BoolOp .And (b :: rest) pos) tb):PE X (.BoolOp .And (a :: b :: rest) pos) (Uk ta tb):=by
 intro pins s σ H Q I h;refine BoolOp_and (iQ (ha pins s σ H _ I h) λv s1 #[x,H1,I1,r1,q1]=>?_);obtain c|rfl|q1:=q1;cases r1;refine Zh ?_;cases c with
 | true=>exact hb pins s1 σ H1 Q I1 q1
 | false=>exact #[.bl false,H1,I1,rfl,q1]
theorem VN (ha:PE X a ta):PE X (.UnaryOp .Not a pos) (Ud ta):=by
 intro pins s σ H Q I h;refine UnaryOp_ (iQ (ha pins s σ H _ I h) λv s1 #[x,H1,I1,r1,q1]=>?_);obtain c|rfl|q1:=q1;cases r1;exact not_of (Zh #[.bl (!c),H1,I1,rfl,q1])
def tIf (t:TT) (ta tb:TE):TE:=λσ H Q=>t σ H λc H1=>if c=true then ta σ H1 Q else tb σ H1 Q
theorem Jf (hc:PT X c tA) (ha:PE X a ta) (hb:PE X b tb):PE X (.IfExp c a b pos) (tIf tA ta tb):=by
 intro pins s σ H Q I h;refine wpAny_IfExp (iQ (hc pins s σ H _ I h) λd s1 #[H1,I1,q1]=>?_);cases d with
 | true=>exact ha pins s1 σ H1 Q I1 q1
 | false=>exact hb pins s1 σ H1 Q I1 q1
end
def bI (K:FG9) (H:Hp) (a:Addr) (xs:List V):Prop :=
 Rd H a (.lst xs) \/
  ∃(o:Obj) (its:Array Value) (n:Nat),K.lookup a=some o/\o.cls=.type "list"/\o.dict=none/\o.data=.seq its n/\its.7<=ww/\c7 xs its.toList
def jN (K:FG9) (H:Hp) (a:Addr) (xs:List V):Prop :=
 Rd H a (.tup xs) \/
  ∃(o:Obj) (its:Array Value) (n:Nat),K.lookup a=some o/\o.cls=.type "tuple"/\o.data=.seq its n/\its.7<=ww/\c7 xs its.toList
def Y4:Value->Option V
 | .none=>some .non
 | .bool b=>some (.bl b)
 | .int i _=>some (.int i)
 | .str x _=>some (.str x)
 | .bytes b _=>some (.byt b)
 | .float b _=>some (.flt b)
 | .ref a=>some (.ref a)
 | .type n=>some (.ty n)
 | _=>none
theorem RelV.abs (r:RelV x u):Y4 u=some x:=by
 cases x with
 | non=>cases r;rfl
 | bl _=>cases r;rfl
 | int _=>obtain t|rfl:=r;rfl
 | str _=>obtain t|rfl:=r;rfl
 | byt _=>obtain t|rfl:=r;rfl
 | flt _=>obtain t|rfl:=r;rfl
 | ref _=>cases r;rfl
 | ty _=>cases r;rfl
theorem RelV.inj (r:RelV x u) (q:RelV y u):x=y:=bY (r.abs.symm.trans q.abs)
theorem c7.inj:∀{xs ys:List V} {us:List Value},c7 xs us->c7 ys us->xs=ys
 | _,_,_,.nil,.nil=>rfl
 | _,_,_,.cons r t,.cons r' t'=>by rw[r.inj r',c7.inj t t']
section
variable {σ:St}
theorem bI.of {K:FG9} (h:H a=some (.lst xs)):bI K H a xs:=.inl (.inl h)
theorem jN.of {K:FG9} (h:H a=some (.tup xs)):jN K H a xs:=.inl (.inl h)
theorem Inv.list (I:Inv X pins σ H s) (h:bI X.K H a xs):∃its:List Value,c7 xs its/\PlainL s.heap a its.5/\xs.9<=ww:=by
 rcases h with h | ⟨o,its,n,hk,hc,hd,hs,hz,r⟩
 ·obtain z|its|n|r|e:=h.ok I.hok;exact #[its,r,#[_,n,e,rfl,rfl,rfl],z]
 ·refine #[its.toList,r,#[o,n,I.kIn a o hk,hc,hd,by simpa using hs],?_];have e:=r.9;simp only[Da] at e
  lia
theorem Inv.tuple (I:Inv X pins σ H s) (h:jN X.K H a xs):∃its:List Value,c7 xs its/\IsTup s.heap a its.5/\xs.9<=ww:=by
 rcases h with h | ⟨o,its,n,hk,hc,hs,hz,r⟩
 ·obtain z|its|r|p:=h.ok I.hok;exact #[its,r,p,z]
 ·refine #[its.toList,r,#[o,I.kIn a o hk,hc,n,by simpa using hs],?_];have e:=r.9;simp only[Da] at e
  lia
theorem Inv.list_inj (I:Inv X pins σ H s) (h:bI X.K H a xs) (h':bI X.K H a ys):xs=ys:=by
 obtain its|r|⟨o,n,e,_,_,d⟩|_:=I.list h;obtain its'|r'|⟨o',n',e',_,_,d'⟩|_:=I.list h';rw[e] at e';cases e';rw[d] at d';injection d' with d1 _
 have:its=its':=by simpa using congrArg Array.toList d1
 subst this;exact r.inj r'
theorem Inv.tuple_inj (I:Inv X pins σ H s) (h:jN X.K H a xs) (h':jN X.K H a ys):xs=ys:=by
 obtain its|r|⟨o,e,_,n,d⟩|_:=I.tuple h;obtain its'|r'|⟨o',e',_,n',d'⟩|_:=I.tuple h';rw[e] at e';cases e';rw[d] at d';injection d' with d1 _
 have:its=its':=by simpa using congrArg Array.toList d1
 subst this;exact r.inj r'
end
abbrev Cx.wish (X:Cx) (E:Value->nw->Prop):Cx:={ X with xe:=E }
abbrev Cx.nox (X:Cx):Cx:=X.wish λ_ _=>False
theorem Cx.Ok.wish {X:Cx} (ok:X.Ok) (E:Value->nw->Prop):(X.wish E).Ok :=
 #[ok.mod,ok.kind,ok.glob,ok.blt,ok.above,ok.inj,ok.has,ok.cab,ok.hd,ok.frames,ok.stk,ok.exf,ok.bs,ok.bsz,ok.noex,ok.exfs,ok.funs,ok.frf]
theorem Cx.Ok.unwish {X:Cx} (ok:(X.wish E).Ok):X.Ok :=
 #[ok.mod,ok.kind,ok.glob,ok.blt,ok.above,ok.inj,ok.has,ok.cab,ok.hd,ok.frames,ok.stk,ok.exf,ok.bs,ok.bsz,ok.noex,ok.exfs,ok.funs,ok.frf]
section
variable {σ:St}
theorem Inv.wish (I:Inv X pins σ H s) (E:Value->nw->Prop):Inv (X.wish E) pins σ H s:=#[I.ok.wish E,I.os,I.bare,I.base,I.loc,I.cell,I.free,I.freeC,I.pin,I.hok,I.len]
theorem Inv.unwish (I:Inv (X.wish E) pins σ H s):Inv X pins σ H s:=#[I.ok.unwish,I.os,I.bare,I.base,I.loc,I.cell,I.free,I.freeC,I.pin,I.hok,I.len]
theorem SP.unwish (h:SP (X.wish E) pins D f s'):SP X pins D f s':=by
 cases f with
 | next=>obtain σ'|H'|I|q:=h;exact #[σ',H',I.unwish,q]
 | brk=>obtain σ'|H'|I|q:=h;exact #[σ',H',I.unwish,q]
 | cont=>obtain σ'|H'|I|q:=h;exact #[σ',H',I.unwish,q]
 | ret u=>obtain v|σ'|H'|I|r|q:=h;exact #[v,σ',H',I.unwish,r,q]
theorem KG.nox {st:List Stmt} (h:KG X.nox st t):KG X st t:=λpins s σ H D I hw =>
 Zc (h pins s σ H D (I.wish _) hw) (λ_ _ q=>q.unwish) λ_ _ z=>No z
end
section
variable {X:Cx} {st:Stmt} {rest:List Stmt} {t u:TS} {e:Expr} {te:TE} {pos:Pos}
def Ue:TS:=λD σ H=>D.nx σ H
def W3 (t u:TS):TS:=λD σ H=>t { D with nx:=u D } σ H
theorem bN:KG X [] Ue:=λ_ _ σ H _ I h=>wpAny_execs_nil #[σ,H,I,h]
theorem au (h1:PS X st t) (h2:KG X rest u):KG X (st :: rest) (W3 t u):=by
 intro pins s σ H D I h;refine wpAny_execs_cons (iQ (h1 pins s σ H { D with nx:=u D } I h) λf s1 q=>?_);cases f with
 | next =>
  obtain σ'|H'|I'|q:=q;exact h2 pins s1 σ' H' D I' q
 | ret v=>exact q
 | brk=>exact q
 | cont=>exact q
theorem ay (h1:PS X st t):KG X [st] t:=by
 intro pins s σ H D I h;refine wpAny_execs_cons (iQ (h1 pins s σ H D I h) λf s1 q=>?_);cases f with
 | next=>exact wpAny_execs_nil q
 | ret v=>exact q
 | brk=>exact q
 | cont=>exact q
theorem Inv.quiet {σ:St} (I:Inv X pins σ H s):interactive X.env=false:=by simp [interactive,I.ok.kind]
def Ui (te:TE):TS:=λD σ H=>te σ H λ_ H1=>D.nx σ H1
theorem jc (he:PE X e te) (hs:swapsWith e none pos.line X.env=pure false:=by rfl):PS X (.Expr e pos) (Ui te):=by
 intro pins s σ H D I h;exact wpAny_Expr_any (iQ (he pins s σ H _ I h) λv s1 #[x,H1,I1,r1,q1]=>#[σ,H1,I1,q1]) I.quiet hs
def W4 (te:TE):TS:=λD σ H=>te σ H D.rt
theorem aS (he:PE X e te):PS X (.Return (some e) pos) (W4 te):=by
 intro pins s σ H D I h;exact wpAny_Return_some (iQ (he pins s σ H _ I h) λv s1 #[x,H1,I1,r1,q1]=>#[x,σ,H1,I1,r1,q1])
def Xc (c:TT) (t u:TS):TS:=λD σ H=>c σ H λb H1=>if b=true then t D σ H1 else u D σ H1
theorem cY (hc:PT X c tc) (ha:KG X a t) (hb:KG X b u):PS X (.If c a b pos) (Xc tc t u):=by
 intro pins s σ H D I h;refine wpAny_If (iQ (hc pins s σ H _ I h) λd s1 #[H1,I1,q1]=>?_);cases d with
 | true=>exact ha pins s1 σ H1 D I1 q1
 | false=>exact hb pins s1 σ H1 D I1 q1
end
abbrev TG:=V->St->Hp->(St->Hp->Prop)->Prop
abbrev RE:=List V->St->Hp->(St->Hp->Prop)->Prop
def PG (X:Cx) (target:Expr) (t:TG):Prop :=
 ∀(pins:List (Addr×Obj)) (s:nw) (σ:St) (H:Hp) (v:V) (u:Value) (Q:St->Hp->Prop),Inv X pins σ H s->RelV v u->t v σ H Q →
  wE (model X.prog X.w) X.A (assign target X.env u) (λ_ s'=>∃σ' H',Inv X pins σ' H' s'/\Q σ' H') X.xe s
def Ym (X:Cx) (ts:List Expr) (t:RE):Prop :=
 ∀(pins:List (Addr×Obj)) (s:nw) (σ:St) (H:Hp) (vs:List V) (us:List Value) (Q:St->Hp->Prop),Inv X pins σ H s->c7 vs us->t vs σ H Q →
  wE (model X.prog X.w) X.A (assignInOrder ((Zp ts X.env).map (·.2)) us) (λ_ s'=>∃σ' H',Inv X pins σ' H' s'/\Q σ' H') X.xe s
abbrev Mf:=V->V->V->Hp->(Hp->Prop)->Prop
def Wy (X:Cx) (t:Mf):Prop :=
 ∀(pins:List (Addr×Obj)) (s:nw) (σ:St) (H:Hp) (o i v:V) (ov iv u:Value) (Q:Hp->Prop),Inv X pins σ H s->RelV o ov->RelV i iv->RelV v u->t o i v H Q →
  wE (model X.prog X.w) X.A (setItem ov iv u) (λ_ s'=>∃H',Inv X pins σ H' s'/\Q H') X.xe s
abbrev Yk:=V->V->Hp->VK->Prop
def PIp (X:Cx) (op:Operator) (t:Yk):Prop :=
 ∀(pins:List (Addr×Obj)) (s:nw) (σ:St) (H:Hp) (x y:V) (v u:Value) (Q:VK),Inv X pins σ H s->RelV x v->RelV y u->t x y H Q →
  wE (model X.prog X.w) X.A (inplaceOp op v u) (EP X pins σ Q) X.xe s
section
variable {X:Cx} {pos:Pos}
def El (i:Nat):TG:=λv σ H Q=>Q (σ.set i (some v)) H
theorem S7 {i:Nat} {x:Str} (hN:X.N.Nodup) (hi:X.N[i]?=some x:=by exact rfl) (hx:Loc X.env.scope x:=by exact Or.inl rfl) (hf:X.fn x=true\/X.env.scope.names.lookup x=some .local:=by first | exact .inl rfl | exact .inr rfl | assumption):PG X (.Name x pos) (El i):=by
 intro pins s σ H v u Q I r h;exact wpAny_assign_Name (xH I hN hi hx r (λs' I'=>#[_,H,I',h]) hf)
def Yc:RE:=λvs σ H Q=>vs=[]/\Q σ H
def UH (t:TG) (u:RE):RE:=λvs σ H Q=>∃v r,vs=v :: r/\t v σ H λσ' H'=>u r σ' H' Q
theorem jd:Ym X [] Yc:=by
 intro pins s σ H vs us Q I r h;obtain e|h:=h;subst e;cases r;exact assignInOrder_nil #[σ,H,I,h]
theorem cW {e:Expr} {es:List Expr} {t:TG} {u:RE} (h1:PG X e t) (h2:Ym X es u)
  (hs:(Zp (e :: es) X.env).map (·.2)=assign e X.env :: (Zp es X.env).map (·.2):=by rfl):Ym X (e :: es) (UH t u):=by
 intro pins s σ H vs us Q I r h;obtain v|vr|e1|h:=h;subst e1;cases r with
 | cons r rr =>
  rw[hs];refine assignInOrder_cons (iQ (h1 pins s σ H _ _ _ I r h) λ_ s1 #[σ1,H1,I1,q1]=>?_);exact h2 pins s1 σ1 H1 _ _ Q I1 rr q1
def Wc (K:FG9) (n:Nat) (t:RE):TG:=λv σ H Q=>∃a xs,v=.ref a/\jN K H a xs/\xs.9=n/\t xs σ H Q
theorem xn {es:List Expr} {k:Nat} {t:RE} {n:Nat} (hc:X.calm=true) (h:Ym X es t)
  (hn:(Zp es X.env).9=n:=by rfl) (hst:(Zp es X.env).findIdx? (·.1)=none:=by rfl):PG X (.Tuple es k pos) (Wc X.K n t):=by
 intro pins s σ H v u Q I r hw;obtain a|xs|e1|hq|hl|hw:=hw;subst e1;cases r;obtain its|rv|ht|hz:=I.tuple hq;refine assign_Tuple_tuple (I.ok.hd hc) ht (by simp [hn,<- hl,rv.9]) hst λh' hx=>?_
 have I1:Inv X pins σ H { s with heap:=h' }:=I.kept (t':=s.toks) λb o e=>hx b o (cE (o0 e)) e
 exact h pins _ σ H xs _ Q I1 (by simpa using rv) hw
def Yb (to ti:TE) (t:Mf):TG:=λv σ H Q=>to σ H λo H1=>ti σ H1 λi H2=>t o i v H2 λH3=>Q σ H3
def iK {o i : Expr} {to ti : TE} {t : Mf} (ho : PE X o to) (hi : PE X i ti) (hs : Wy X t)
    (ha : ∀ v, assign (.Subscript o i pos) X.env v = (do
      let ov <- holding [v] (eval o X.env)
      let iv <- holding [v, ov] (eval i X.env)
      standAt pos
      holding [v, ov, iv] (setItem ov iv v)
      release [v, ov, iv] []) := by intro _; rfl) : PG X (.Subscript o i pos) (Yb to ti t) := by
  intro pins s σ H v u Q I r h;rw [ha];refine db (Ps (iQ (ho pins s σ H _ I h) λov s1 #[x, H1, I1, r1, q1] => ?_));refine db (Ps (iQ (hi pins s1 σ H1 _ I1 q1) λiv s2 #[y, H2, I2, r2, q2] => ?_));refine db (wpAny_standAt (db (Ps (iQ (hs pins s2 σ H2 x y v ov iv u _ I2 r1 r2 r q2) λ_ s3 #[H3, I3, q3] => ?_))));exact wpAny_release #[σ, H3, I3, q3]
def Pe (te:TE) (g:TG):TS:=λD σ H=>te σ H λx H1=>g x σ H1 D.nx
theorem gO {tg e:Expr} {te:TE} {g:TG} (he:PE X e te) (hg:PG X tg g) (hs:swapsWithSole [tg] e pos.line X.env=pure false:=by rfl) (hw:swappedStores [tg] e X.env=pure none:=by rfl)
  (h1:(Zp [tg] X.env).map (·.2)=[assign tg X.env]:=by rfl):PS X (.Assign [tg] e pos) (Pe te g):=by
 intro pins s σ H D I h;refine wpAny_Assign_stores (iQ (he pins s σ H _ I h) λv s1 #[x,H1,I1,r1,q1]=>?_) hs hw;rw[h1];exact iQ (hg pins s1 σ H1 x v _ I1 r1 q1) λ_ s2 q=>q
theorem VI {i:Nat} {x:Str} {e:Expr} {te:TE} {pos':Pos} (hN:X.N.Nodup) (hi:X.N[i]?=some x) (hx:Loc X.env.scope x) (he:PE X e te) (hs:swapsWith e (some (.Name x pos')) pos.line X.env=pure false:=by rfl) (hf:X.fn x=true\/X.env.scope.names.lookup x=some .local:=by first | exact .inl rfl | exact .inr rfl | assumption) :
  PS X (.Assign [.Name x pos'] e pos) (Pe te (El i)):=by
 intro pins s σ H D I h;refine wpAny_Assign_Name (iQ (he pins s σ H _ I h) λv s1 #[y,H1,I1,r1,q1]=>?_) hs;exact xH I1 hN hi hx r1 (λs2 I2=>#[_,H1,I2,q1]) hf
def W5 (i j:Nat) (ta:TA):TS:=λD σ H=>ta σ H λvs H1=>∃v w,vs=[v,w]/\D.nx ((σ.set i (some v)).set j (some w)) H1
theorem PZ {i j:Nat} {x y:Str} {a b:Expr} {ta:TA} {px py pt:Pos} {kt k2 pt2} (hc:X.calm=true) (hN:X.N.Nodup) (hi:X.N[i]?=some x) (hj:X.N[j]?=some y) (hij:i≠j)
  (hx:X.env.scope.names.lookup x=some .local) (hy:X.env.scope.names.lookup y=some .local) (ha:PA X [a,b] ta)
  (hw:swappedStores [.Tuple [.Name x px,.Name y py] kt pt] (.Tuple [a,b] k2 pt2) X.env=pure (some [x,y]))
  (hs:swapsWithSole [.Tuple [.Name x px,.Name y py] kt pt] (.Tuple [a,b] k2 pt2) pos.line X.env=pure false:=by rfl) :
  PS X (.Assign [.Tuple [.Name x px,.Name y py] kt pt] (.Tuple [a,b] k2 pt2) pos) (W5 i j ta):=by
 intro pins s σ H D I h;rw[exec_Assign_arm];refine db (wpAny_standAt ?_);rw[hs];refine db (pi ?_);rw[if_neg ()];refine db (Tuple_ (iQ (ha _ pins s σ H _ I h) λus s1 #[vs,H1,I1,r1,q1]=>?_));obtain v|w|e1|q1:=q1;subst e1
 obtain ⟨u1,u2,rfl,rv,rw'⟩:∃u1 u2,us=[u1,u2]/\RelV v u1/\RelV w u2:=by
  cases r1 with
  | cons p q =>
   cases q with
   | cons p' q' =>
    cases q';exact #[_,_,rfl,p,p']
 refine ST ?_ (by show 2<=ww;decide);have I2:Inv X pins σ H1 { s1 with heap:=s1.heap.push { cls:=.type "tuple",data:=.seq [u1,u2].5 } }:=I1.kept (t':=s1.toks) λb o e=>io _ e
 rw[hw];refine db (pi ?_);show wE (model X.prog X.w) X.A (do rule "assign.swapped-stores";let items <- unpackItems (.ref s1.6) 2 none;assignInOrder [λv=>bindName X.env y v,λv=>bindName X.env x v] items.reverse;pure Flow.next) _ _ _
 refine db (wpAny_rule (db (unpackItems_tuple (items:=[u1,u2].toArray) (I.ok.hd hc) (IsTup.new s1.heap _) λh' hx'=>?_)));have I3:=I2.kept (h':=h') (t':=s1.toks) λb o e=>hx' b o (cE (o0 e)) e
 show wE _ _ (assignInOrder [λv=>bindName X.env y v,λv=>bindName X.env x v] [u2,u1] >>= λ_=>pure Flow.next) _ _ _
 refine db (assignInOrder_cons (wpAny_bindName (xH I3 hN hj (.inl hy) rw' (λs2 I4=>?_) (.inr hy))));refine assignInOrder_cons (wpAny_bindName (xH I4 hN hi (.inl hx) rv (λs3 I5=>assignInOrder_nil (pi ?_)) (.inr hx)));rw[List.set_comm _ _ (SL hij)] at I5;exact #[_,H1,I5,q1]
def Uj (to ti te:TE) (tget:V->V->Hp->VK->Prop) (tip:Yk) (tset:Mf):TS:=λD σ H=>to σ H λo H1=>ti σ H1 λi H2=>tget o i H2 λx H3=>te σ H3 λy H4=>tip x y H4 λz H5=>tset o i z H5 λH6=>D.nx σ H6
def Yn (X:Cx) (t:V->V->Hp->VK->Prop):Prop :=
 ∀(pins:List (Addr×Obj)) (s:nw) (σ:St) (H:Hp) (o i:V) (ov iv:Value) (Q:VK),Inv X pins σ H s->RelV o ov->RelV i iv->t o i H Q →
  wE (model X.prog X.w) X.A (getItem ov iv) (EP X pins σ Q) X.xe s
theorem S5 {o i e:Expr} {to ti te:TE} {tget:V->V->Hp->VK->Prop} {tip:Yk} {tset:Mf} {op:Operator} {tpos:Pos} (ho:PE X o to) (hi:PE X i ti) (hg:Yn X tget) (he:PE X e te) (hp:PIp X op tip) (hs:Wy X tset)
  (ha:∀ov iv new,augStore i ov iv new=(do holding [new,ov,iv] (setItem ov iv new);release [new,ov,iv] [];pure .next):=by intros;rfl):PS X (.AugAssign (.Subscript o i tpos) op e pos) (Uj to ti te tget tip tset):=by
 intro pins s σ H D I h;refine wpAny_AugAssign_SubscriptAny (iQ (ho pins s σ H _ I h) λov s1 #[x1,H1,I1,r1,q1]=>?_) ha;refine iQ (hi pins s1 σ H1 _ I1 q1) λiv s2 #[x2,H2,I2,r2,q2]=>?_
 refine iQ (hg pins s2 σ H2 x1 x2 ov iv _ I2 r1 r2 q2) λold s3 #[x3,H3,I3,r3,q3]=>?_
 refine iQ (he pins s3 σ H3 _ I3 q3) λv s4 #[x4,H4,I4,r4,q4]=>?_
 refine iQ (hp pins s4 σ H4 x3 x4 old v _ I4 r3 r4 q4) λnew s5 #[x5,H5,I5,r5,q5]=>?_
 exact iQ (hs pins s5 σ H5 x1 x2 x5 ov iv new _ I5 r1 r2 r5 q5) λ_ s6 #[H6,I6,q6]=>#[σ,H6,I6,q6]
def ipI (f:Int->Int->Int):Yk:=λx y H Q=>∃i j,x=.int i/\y=.int j/\Q (.int (f i j)) H
theorem V6:PIp X .Add (ipI λi j=>i+j):=by
 intro pins s σ H x y v u Q I r1 r2 h;obtain i|j|e1|e2|q:=h;subst e1;subst e2;obtain t|rfl:=r1;obtain t'|rfl:=r2;exact iadd_int #[.int _,H,I.tok _,#[_,rfl],q]
end
section
variable {X:Cx} {pos:Pos}
def Pc (c:TT) (tb:TS):TS:=λD σ H=>∃W:Nat->St->Hp->Prop,(∃m,W m σ H)/\∀m σ H,W m σ H →
 c σ H λb H1=>if b=true then ∃N:St->Hp->Prop,(∀σ' H',N σ' H'->∃m',m' < m/\W m' σ' H')/\tb { D with nx:=N,ct:=N,bk:=D.nx } σ H1 else D.nx σ H1
theorem Bv (hp:PassesOwn (model X.prog X.w) X.A X.env X.xe) (hc:PT X c tc) (hb:KG X body tb):PS X (.While c body [] pos) (Pc tc tb):=by
 intro pins s σ H D I h;obtain W|⟨m0,w0⟩|turn:=h;refine wpAny_While (codeAny_whileLoop (λn s'=>∃σ' H',Inv X pins σ' H' s'/\W n σ' H') ?_ m0 #[σ,H,I,w0]);rintro n s1 ⟨σ1,H1,I1,w1⟩;refine SC hp (iQ (hc pins s1 σ1 H1 _ I1 (turn n σ1 H1 w1)) λb s2 #[H2,I2,q2]=>?_);cases b with
 | true =>
  obtain N|hN|q2:=q2;rw[if_pos rfl];refine SC hp (iQ (hb pins s2 σ1 H2 _ I2 q2) λf s3 q3=>?_);cases f with
  | next =>
   obtain σ3|H3|I3|n3:=q3;obtain m'|hm|w3:=hN σ3 H3 n3;exact #[m',hm,σ3,H3,I3,w3]
  | cont =>
   obtain σ3|H3|I3|n3:=q3;obtain m'|hm|w3:=hN σ3 H3 n3;exact #[m',hm,σ3,H3,I3,w3]
  | brk=>exact q3
  | ret v=>exact q3
 | false =>
  rw[if_neg bh];exact wpAny_execs_nil #[σ1,H2,I2,q2]
end
structure It where
 go:Nat->Hp->Prop
 yld:Nat->Hp->V->Hp->Prop
 stop:Nat->Hp->Prop
def mP (X:Cx) (pins:List (Addr×Obj)) (H:Hp) (b:Addr):Prop :=
 H b=none/\b≠X.env.locals/\b∉X.fs/\(b∈X.ex\/X.s₀.6<=b)/\(∀x c,X.env.cells.lookup x=some c->c≠b)/\∀p∈X.pn++pins,p.1≠b
theorem Inv.fpOk {σ:St} {b:Addr} (I:Inv X pins σ H s) (hb:s.6<=b) (hn:H' b=none):mP X pins H' b:=by
 refine #[hn,Ng (bL I.lt hb),I.nofs hb,.inr (ag I.sz hb),λx c e z=>?_,λp hp z=>?_]
 ·obtain v|q:=I.cell x c e;exact absurd (bL q.lt (by rw[z];exact hb)) (fj _)
 ·exact absurd (bL (o0 (I.pin p hp).1) (by rw[z];exact hb)) (fj _)
structure Turn (P:Pi) (w:Uf) (K:FG9) (tg:Expr) (J:It) (fp:List Addr) (it:Addr) (tn:Nat->Heap->Prop):Prop where
 mem:it∈fp
 obj:∀i h,tn i h->∀b∈fp,∃o,h.get? b=some o/\∀v,o.data≠.cell v
 keep:∀i h h',tn i h->(∀b∈fp,∀o,h.get? b=some o->h'.get? b=some o)->tn i h'
 item:∀(X:Cx),X.prog=P->X.w=w->X.K=K->X.calm=true->∀(i:Nat) (pins:List (Addr×Obj)) (s:nw) (σ:St) (H:Hp) (E:Value->nw->Prop),Inv X pins σ H s->(∀b∈fp,mP X pins H b)->tn i s.8->J.go i H →
  wE (model P w) X.A (pyNext (.ref it)) (λr s1=>∃u,r=some u /\
   wE (model P w) X.A (letOwnedTupleGo tg (.ref it) u) (λ_ s2=>∃x H',Inv X pins σ H' s2/\RelV x u/\J.yld i H x H'/\tn (i+1) s2.8/\∀b∈fp,H' b=none) E s1) E s
 done:∀(X:Cx),X.prog=P->X.w=w->X.K=K->X.calm=true->∀(i:Nat) (pins:List (Addr×Obj)) (s:nw) (σ:St) (H:Hp) (E:Value->nw->Prop),Inv X pins σ H s->(∀b∈fp,mP X pins H b)->tn i s.8->J.stop i H →
  wE (model P w) X.A (pyNext (.ref it)) (λr s1=>r=none/\Inv X pins σ H s1) E s
 self:∀(A:Ix) (i:Nat) (s:nw) (Q:Value->nw->Prop) (E:Value->nw->Prop),tn i s.8->Q (.ref it) s->wE (model P w) A (pyIter (.ref it)) Q E s
abbrev TI:=St->Hp->(It->Hp->Prop)->Prop
def PIE (X:Cx) (pins:List (Addr×Obj)) (σ:St) (tg:Expr) (R:It->Hp->Prop) (itv:Value) (s2:nw):Prop :=
 ∃(it:Addr) (fp:List Addr) (tn:Nat->Heap->Prop) (J:It) (H':Hp),itv=.ref it/\Inv X pins σ H' s2/\Turn X.prog X.w X.K tg J fp it tn/\tn 0 s2.8/\(∀b∈fp,mP X pins H' b)/\R J H'
def PI (X:Cx) (tg iter:Expr) (wi:TI):Prop :=
 ∀(pins:List (Addr×Obj)) (s:nw) (σ:St) (H:Hp) (R:It->Hp->Prop),Inv X pins σ H s->wi σ H R →
  wE (model X.prog X.w) X.A (eval iter X.env) (λv s1=>wE (model X.prog X.w) X.A (pyIter v) (PIE X pins σ tg R) X.xe s1) X.xe s
theorem Qy (ho:s.heap.get? it=some o) (hc:o.cls=.type n) (hd:o.data=.fields vs)
  (hn:["enumerate","zip","dict_itemiterator","dict_reverseitemiterator","odict_iterator","itertools.zip_longest","itertools.pairwise"].contains n=false) (hQ:Q .unit s):wE M A (letOwnedTupleGo tg (.ref it) u) Q E s:=by
 unfold letOwnedTupleGo
 cases tg <;> first
  | exact pi hQ
  | (cases u <;> first | exact pi hQ | (refine db (wpAny_load ho ?_);rw[hc,hd];show wE M A (if (["enumerate","zip","dict_itemiterator","dict_reverseitemiterator","odict_iterator","itertools.zip_longest","itertools.pairwise"].contains n && vs[0]? == some (rawInt _))=true then _ else _) Q E s;rw[if_neg (by intro h;rw[hn,Bool.false_and] at h;cases h)];exact pi hQ))
def T5 (K:FG9) (a:Addr):It :=
 #[λi H=>∃xs x,bI K H a xs/\xs[i]?=some x,λi H x H'=>H'=H/\∀xs,bI K H a xs->xs[i]?=some x,λi H=>∃xs,bI K H a xs/\xs.9<=i]
def T4 (K:FG9) (a:Addr):It :=
 #[λi H=>∃xs x,jN K H a xs/\xs[i]?=some x,λi H x H'=>H'=H/\∀xs,jN K H a xs->xs[i]?=some x,λi H=>∃xs,jN K H a xs/\xs.9<=i]
def KH (lo:Int) (n:Nat):It:=#[λi _=>i < n,λi H x H'=>H'=H/\x=.int (lo+i),λi _=>n<=i]
theorem DB {P:Pi} {w:Uf} {K:FG9} {tg:Expr} (a it:Addr):Turn P w K tg (T5 K a) [it] it (λi h=>h.IsListIter it a i) where
 mem:=by simp
 obj:=λi h st b hb=>by
  have e:b=it:=by simpa using hb
  subst e;obtain o|e|c|d:=st;exact #[o,e,λv z=>by rw[d] at z;cases z]
 keep:=λi h h' st k=>st.at λo e=>k it (by simp) o e
 item:=by
  intro X hP hw hK hc i pins s σ H E I hf st hg;subst hP hw hK;obtain xs|x|hq|hx:=hg;obtain its|rv|p|hz:=I.list hq;obtain u|hu|ru:=rv.get hx;obtain f0|f1|f2|f3|f4|f5:=hf it (by simp);refine wpAny_pyNext_list_item st p.isList (x:=u) (by simpa using hu) λh' st' sb=>?_
  have I1:Inv X pins σ H { s with heap:=h' }:=I.turned (t':=s.toks) (λb o hb e=>(sb.2 b hb).trans e) f0 f1 f3 f4 f5;obtain o|e|c|d:=id st';exact #[u,rfl,Qy (s:={ s with heap:=h' }) e c d () ⟨x,H,I1,ru,⟨rfl,λys hy=>by rw[I.list_inj hy hq];exact hx⟩,st',λb hb=>(hf b hb).1⟩]
 done:=by
  intro X hP hw hK hc i pins s σ H E I hf st hg;subst hP hw hK;obtain xs|hq|hx:=hg;obtain its|rv|p|hz:=I.list hq;obtain f0|f1|f2|f3|f4|f5:=hf it (by simp);have hl:=rv.9;exact wpAny_pyNext_list_end (I.ok.hd hc) st p.isList (by simp;lia) λh' eb=>#[rfl,I.turned (t':=s.toks) (λb o hb e=>eb b o hb e) f0 f1 f3 f4 f5]
 self:=λ_ _ _ _ _ st h=>wpAny_pyIter_listiter st h
theorem AS {P:Pi} {w:Uf} {K:FG9} {tg:Expr} (a it:Addr):Turn P w K tg (T4 K a) [it] it (λi h=>h.IsTupleIter it a i) where
 mem:=by simp
 obj:=λi h st b hb=>by
  have e:b=it:=by simpa using hb
  subst e;obtain o|e|c|d:=st;exact #[o,e,λv z=>by rw[d] at z;cases z]
 keep:=λi h h' st k=>st.at λo e=>k it (by simp) o e
 item:=by
  intro X hP hw hK hc i pins s σ H E I hf st hg;subst hP hw hK;obtain xs|x|hq|hx:=hg;obtain its|rv|p|hz:=I.tuple hq;obtain u|hu|ru:=rv.get hx;obtain f0|f1|f2|f3|f4|f5:=hf it (by simp);refine wpAny_pyNext_tuple_item st (show s.heap.IsTuple a its.toArray from p) (x:=u) (by simpa using hu) λh' st' sb=>?_
  have I1:Inv X pins σ H { s with heap:=h' }:=I.turned (t':=s.toks) (λb o hb e=>(sb.2 b hb).trans e) f0 f1 f3 f4 f5;obtain o|e|c|d:=id st';exact #[u,rfl,Qy (s:={ s with heap:=h' }) e c d () ⟨x,H,I1,ru,⟨rfl,λys hy=>by rw[I.tuple_inj hy hq];exact hx⟩,st',λb hb=>(hf b hb).1⟩]
 done:=by
  intro X hP hw hK hc i pins s σ H E I hf st hg;subst hP hw hK;obtain xs|hq|hx:=hg;obtain its|rv|p|hz:=I.tuple hq;obtain f0|f1|f2|f3|f4|f5:=hf it (by simp);have hl:=rv.9;exact wpAny_pyNext_tuple_end (I.ok.hd hc) st (show s.heap.IsTuple a its.toArray from p) (by simp;lia) λh' eb=>#[rfl,I.turned (t':=s.toks) (λb o hb e=>eb b o hb e) f0 f1 f3 f4 f5]
 self:=λ_ _ _ _ _ st h=>wpAny_pyIter_tupleiter st h
theorem KP {P:Pi} {w:Uf} {K:FG9} {tg:Expr} (it:Addr) (lo:Int) (n:Nat):Turn P w K tg (KH lo n) [it] it (λi h=>IsRangeIter h it (lo+(i:Nat)*1) ((n:Int) - (i:Nat)) 1) where
 mem:=by simp
 obj:=λi h st b hb=>by
  have e:b=it:=by simpa using hb
  subst e
  exact #[_,st,λv z=>by
   have z':Data.fields _=Data.cell v:=z;cases z']
 keep:=λi h h' st k=>k it (by simp) _ st
 item:=by
  intro X hP hw hK hc i pins s σ H E I hf st hg;subst hP hw hK;obtain f0|f1|f2|f3|f4|f5:=hf it (by simp);have W:=Walks.range (prog:=X.prog) (w:=X.w) (I.ok.hd hc) it lo 1 n;refine W.item i s _ _ hg st λv h' tk hv st' kk=>?_
  obtain t|rfl:=hv;have I1:Inv X pins σ H { s with heap:=h',toks:=tk }:=I.turned (λb o hb e=>kk b o (by simpa using hb) e) f0 f1 f3 f4 f5;refine #[_,rfl,Qy (s:={ s with heap:=h',toks:=tk }) (n:="range_iterator") st' rfl rfl () ⟨.int (lo+i),H,I1,⟨t,?_⟩,⟨rfl,rfl⟩,st',λb hb=>(hf b hb).1⟩];rw[Int.mul_one]
 done:=by
  intro X hP hw hK hc i pins s σ H E I hf st hg;subst hP hw hK;obtain f0|f1|f2|f3|f4|f5:=hf it (by simp);exact wpAny_pyNext_range_end (I.ok.hd hc) st (by have:n<=i:=hg;lia) λh' eb=>#[rfl,I.turned (t':=s.toks) (λb o hb e=>eb b o hb e) f0 f1 f3 f4 f5]
 self:=λ_ _ _ _ _ st h=>wpAny_pyIter_rangeiter st h
section
variable {X:Cx} {tg:Expr}
def Qw (K:FG9) (tl:TE):TI:=λσ H R=>tl σ H λx H1=>∃a,x=.ref a/\(∃xs,bI K H1 a xs)/\R (T5 K a) H1
def X8 (K:FG9) (tl:TE):TI:=λσ H R=>tl σ H λx H1=>∃a,x=.ref a/\(∃xs,jN K H1 a xs)/\R (T4 K a) H1
theorem cM (hl:PE X l tl):PI X tg l (Qw X.K tl):=by
 intro pins s σ H R I h;refine iQ (hl pins s σ H _ I h) λv s1 #[x,H1,I1,r1,q1]=>?_
 obtain a|e|⟨xs,hq⟩|q:=q1;subst e;cases r1;obtain its|rv|p|hz:=I1.list hq;refine wpAny_pyIter_list p.isList ?_;refine #[s1.6,[s1.6],_,_,H1,rfl,I1.kept (t':=s1.toks) λb o e=>io _ e,DB a _,#[_,At _ rfl,rfl,rfl],λb hb=>?_,q];have e:b=s1.6:=by simpa using hb
 subst e;exact I1.fpOk (ah _) (I1.hok.fresh (ah _))
theorem P7 (hl:PE X l tl):PI X tg l (X8 X.K tl):=by
 intro pins s σ H R I h;refine iQ (hl pins s σ H _ I h) λv s1 #[x,H1,I1,r1,q1]=>?_
 obtain a|e|⟨xs,hq⟩|q:=q1;subst e;cases r1;obtain its|rv|p|hz:=I1.tuple hq;refine wpAny_pyIter_tuple (show s1.heap.IsTuple a its.toArray from p) ?_;refine #[s1.6,[s1.6],_,_,H1,rfl,I1.kept (t':=s1.toks) λb o e=>io _ e,AS a _,#[_,At _ rfl,rfl,rfl],λb hb=>?_,q];have e:b=s1.6:=by simpa using hb
 subst e;exact I1.fpOk (ah _) (I1.hok.fresh (ah _))
theorem Jc {σ:St} {lo hi:Int} (I:Inv X pins σ H s) (h1:-(2^62)<=lo) (h2:lo < 2^62) (h3:-(2^62)<=hi) (h4:hi < 2^62)
  (q:R (KH lo (hi - lo).toNat) H):wE (model X.prog X.w) X.A (pyIter (.ref s.6)) (PIE X pins σ tg R) E { s with heap:=s.heap.push { cls:=.type "range",data:=.fields [.int lo t,.int hi u,.int 1 v].toArray },toks:=tk }:=by
 refine wpAny_pyIter_range (IsRange.new ..) (small_one h1 h2 h3 h4) ?_;have I1:Inv X pins σ H { s with heap:=s.heap.push { cls:=.type "range",data:=.fields [.int lo t,.int hi u,.int 1 v].toArray },toks:=tk }:=I.kept λb o e=>io _ e
 refine #[(s.heap.push { cls:=.type "range",data:=.fields [.int lo t,.int hi u,.int 1 v].toArray }).objs.size,[(s.heap.push { cls:=.type "range",data:=.fields [.int lo t,.int hi u,.int 1 v].toArray }).objs.size],_,_,H,rfl,
  I1.kept (t':=tk) λb o e=>io _ e,KP _ lo (hi - lo).toNat,?_,λb hb=>?_,q]
 ·have e1:lo+((0:Nat):Int)*1=lo:=by simp
  have e2:(((hi - lo).toNat:Nat):Int) - ((0:Nat):Int)=On.Range.rangeSize lo hi 1:=by rw[rangeSize_one];split <;> lia
  show IsRangeIter _ _ (lo+((0:Nat):Int)*1) ((((hi - lo).toNat:Nat):Int) - ((0:Nat):Int)) 1
  rw[e1,e2];exact At _ rfl
 ·have e:b=(s.heap.push { cls:=.type "range",data:=.fields [.int lo t,.int hi u,.int 1 v].toArray }).objs.size:=by simpa using hb
  subst e;exact I1.fpOk (ah _) (I1.hok.fresh (ah _))
def UD (ta:TA):TI:=λσ H R=>ta σ H λvs H1=>∃j:Int,vs=[.int j]/\-(2^62)<=j/\j < 2^62/\R (KH 0 j.toNat) H1
def UC (ta:TA):TI:=λσ H R=>ta σ H λvs H1=>∃i j:Int,vs=[.int i,.int j]/\(-(2^62)<=i/\i < 2^62/\-(2^62)<=j/\j < 2^62)/\R (KH i (j - i).toNat) H1
theorem bU {a:Expr} {ta:TA} {p pos:Pos} (hg:Gl X "range") (hm:X.mg "range"=none) (ha:PA X [a] ta) (hs:r8 [a] X.env=[(false,eval a X.env)]:=by rfl):PI X tg (.Call (.Name "range" p) [a] [] pos) (UD ta):=by
 intro pins s σ H R I h;refine Call_ (mL I hg hm boot_range (AC (iQ (ha pos pins s σ H _ I h) λus s1 #[vs,H1,I1,r1,q1]=>?_) hs rfl));obtain j|e|q1|q2|q:=q1;subst e;cases r1 with
 | cons r rr =>
  cases rr;obtain t|rfl:=r;exact call_range_1 (Jc I1 () () q1 q2 (by simpa using q))
theorem NM {a b:Expr} {ta:TA} {p pos:Pos} (hg:Gl X "range") (hm:X.mg "range"=none) (ha:PA X [a,b] ta) (hs:r8 [a,b] X.env=[(false,eval a X.env),(false,eval b X.env)]:=by rfl) (hs2:r8 [b] X.env=[(false,eval b X.env)]:=by rfl) :
  PI X tg (.Call (.Name "range" p) [a,b] [] pos) (UC ta):=by
 intro pins s σ H R I h;refine Call_ (mL I hg hm boot_range (AC (iQ (ha pos pins s σ H _ I h) λus s1 #[vs,H1,I1,r1,q1]=>?_) (by rw[hs,hs2]) (by rw[hs2];rfl)));obtain i|j|e|⟨q1,q2,q3,q4⟩|q:=q1;subst e;cases r1 with
 | cons r rr =>
  cases rr with
  | cons r' rr =>
   cases rr;obtain t|rfl:=r;obtain t'|rfl:=r';exact call_range_2 (Jc I1 q1 q2 q3 q4 q)
def Xe (wi:TI) (g:TG) (tb:TS):TS:=λD σ H=>wi σ H λJ H1=>∃W:Nat->Nat->St->Hp->Prop,(∃m,W 0 m σ H1)/\∀i m σ H,W i m σ H →
 (J.stop i H/\D.nx σ H)\/(J.go i H/\∃N:St->Hp->Prop,(∀σ' H',N σ' H'->∃m',m' < m/\W (i+1) m' σ' H')/\∀x H',J.yld i H x H'->g x σ H' λσ2 H2=>tb { D with nx:=N,ct:=N,bk:=D.nx } σ2 H2)
def By (fp:List Addr) (h:Heap):List (Addr×Obj):=fp.filterMap λb=>(h.get? b).map λo=>(b,o)
theorem tH (hb:b∈fp) (e:h.get? b=some o):(b,o)∈By fp h:=List.mem_filterMap.mpr #[b,hb,by rw[e];rfl]
theorem NT (hp:p∈By fp h):p.1∈fp/\h.get? p.1=some p.2:=by
 obtain b|hb|e:=List.mem_filterMap.mp hp;cases q:h.get? b with
 | none=>rw[q] at e;cases e
 | some o =>
  rw[q] at e;have e':(b,o)=p:=bY e;subst e';exact #[hb,q]
theorem Inv.pinned {σ:St} (I:Inv X pins σ H s) (hf:∀b∈fp,mP X pins H b) (ho:∀b∈fp,∃o,s.heap.get? b=some o/\∀v,o.data≠.cell v):Inv X (pins++By fp s.8) σ H s :=
 I.pins_of λp hp=>(av.mp hp).elim (λz=>I.pin p (bJ _ z)) λz=>by
  obtain hb|e:=NT z;obtain f0|f1|f2|_:=hf p.1 hb;obtain o|e'|d:=ho p.1 hb;rw[e] at e';cases e';exact #[e,f0,f1,f2,d]
theorem Inv.unpinned {σ:St} (I:Inv X (pins++pl) σ H s):Inv X pins σ H s:=I.pins_of λp hp=>I.pin p (bJ _ (dS _ hp))
theorem eC {iter:Expr} {body:List Stmt} {wi:TI} {g:TG} {tb:TS} {pos:Pos} (hp:PassesOwn (model X.prog X.w) X.A X.env X.xe) (hc:X.calm=true) (hi:PI X tg iter wi) (hg:PG X tg g) (hb:KG X body tb)
  (hs:∀x,foldedSetIterable iter X.env x=pure x:=by intro _;rfl):PS X (.For tg iter body [] pos) (Xe wi g tb):=by
 intro pins s σ H D I h;refine wpAny_For (iQ (hi pins s σ H _ I h) λv s1 h1=>iQ h1 λitv s2 h2=>?_) hs;obtain it|fp|tn|J|H2|e|I2|T|st2|f2|W|⟨m0,w0⟩|turn:=h2;subst e;have stat:∀{H':Hp},(∀b∈fp,H' b=none)->∀b∈fp,mP X pins H' b:=λhn b hb=>#[hn b hb,(f2 b hb).2]
 refine codeAny_forLoop_any (λn s'=>∃i σ' H',Inv X pins σ' H' s'/\tn i s'.8/\(∀b∈fp,H' b=none)/\W i n σ' H') ?_ m0 #[0,σ,H2,I2,st2,λb hb=>(f2 b hb).1,w0];rintro n s3 ⟨i,σ3,H3,I3,st3,fr3,w3⟩;rcases turn i n σ3 H3 w3 with ⟨stop,qn⟩ | ⟨go,N,hN,step⟩
 ·refine SC hp (iQ (T.done X rfl rfl rfl hc i pins s3 σ3 H3 X.xe I3 (stat fr3) st3 stop) λr s4 #[hr,I4]=>?_);subst hr;exact wpAny_execs_nil #[σ3,H3,I4,qn]
 ·refine SC hp (iQ (T.item X rfl rfl rfl hc i pins s3 σ3 H3 X.xe I3 (stat fr3) st3 go) λr s4 #[u,hr,h4]=>?_);subst hr;refine SC hp (iQ h4 λ_ s5 #[x,H5,I5,r5,y5,st5,fr5]=>?_);have I5':=I5.pinned (stat fr5) (T.obj _ _ st5);refine SC hp (iQ (hg _ s5 σ3 H5 x u _ I5' r5 (step x H5 y5)) λ_ s6 #[σ6,H6,I6,q6]=>?_);refine SC hp (iQ (hb _ s6 σ6 H6 _ I6 q6) λf s7 q7=>?_)
  have again:∀{σ7:St} {H7:Hp},Inv X (pins++By fp s5.8) σ7 H7 s7->N σ7 H7->∃m,m < n/\∃i σ' H',Inv X pins σ' H' s7/\tn i s7.8/\(∀b∈fp,H' b=none)/\W i m σ' H':=λ{σ7 H7} I7 n7=>by
   obtain m'|hm|w7:=hN σ7 H7 n7;refine #[m',hm,i+1,σ7,H7,I7.unpinned,T.keep _ _ _ st5 λb hb o e=>(I7.pin (b,o) (bJ _ (bJ _ (tH hb e)))).1,λb hb=>?_,w7];obtain o|e|d:=T.obj _ _ st5 b hb;exact (I7.pin (b,o) (bJ _ (bJ _ (tH hb e)))).2.1
  cases f with
  | next=>obtain σ7|H7|I7|n7:=q7;exact again I7 n7
  | cont=>obtain σ7|H7|I7|n7:=q7;exact again I7 n7
  | brk=>obtain σ7|H7|I7|q7:=q7;exact #[σ7,H7,I7.unpinned,q7]
  | ret v=>obtain x7|σ7|H7|I7|r7|q7:=q7;exact #[x7,σ7,H7,I7.unpinned,r7,q7]
end
theorem jy {K:FG9} {g:TG} {tb:TS} {D:Ends} (Pv:Nat->St->Hp->Prop) (h0:Pv 0 σ H) (hl:∀i σ H,i<=xs.9->Pv i σ H->bI K H a xs)
  (hs:∀i x σ H,xs[i]?=some x->Pv i σ H->g x σ H λσ2 H2=>tb { D with nx:=Pv (i+1),ct:=Pv (i+1),bk:=D.nx } σ2 H2) (hd:∀σ H,Pv xs.9 σ H->D.nx σ H) :
  ∃W:Nat->Nat->St->Hp->Prop,(∃m,W 0 m σ H)/\∀i m σ H,W i m σ H →
   ((T5 K a).stop i H/\D.nx σ H)\/((T5 K a).go i H/\∃N:St->Hp->Prop,(∀σ' H',N σ' H'->∃m',m' < m/\W (i+1) m' σ' H')/\∀x H',(T5 K a).yld i H x H'->g x σ H' λσ2 H2=>tb { D with nx:=N,ct:=N,bk:=D.nx } σ2 H2):=by
 refine #[λi m σ H=>m=xs.9 - i/\i<=xs.9/\Pv i σ H,#[xs.9,by simp,a7 _,h0],?_];rintro i m σ H ⟨rfl,hi,p⟩;have q:=hl i σ H hi p;by_cases hlt:i < xs.9
 ·refine .inr #[#[xs,xs[i],q,by simp [hlt]],Pv (i+1),λσ' H' p'=>#[xs.9 - (i+1),(),rfl,hlt,p'],λx H' y=>?_];obtain e|y:=y;subst e;exact hs i x σ _ (y xs q) p
 ·have e:i=xs.9:=()
  subst e;exact .inl #[#[xs,q,ah _],hd σ H p]
theorem F9 {K:FG9} {g:TG} {tb:TS} {D:Ends} (Pv:Nat->St->Hp->Prop) (h0:Pv 0 σ H) (hl:∀i σ H,i<=xs.9->Pv i σ H->jN K H a xs)
  (hs:∀i x σ H,xs[i]?=some x->Pv i σ H->g x σ H λσ2 H2=>tb { D with nx:=Pv (i+1),ct:=Pv (i+1),bk:=D.nx } σ2 H2) (hd:∀σ H,Pv xs.9 σ H->D.nx σ H) :
  ∃W:Nat->Nat->St->Hp->Prop,(∃m,W 0 m σ H)/\∀i m σ H,W i m σ H →
   ((T4 K a).stop i H/\D.nx σ H)\/((T4 K a).go i H/\∃N:St->Hp->Prop,(∀σ' H',N σ' H'->∃m',m' < m/\W (i+1) m' σ' H')/\∀x H',(T4 K a).yld i H x H'->g x σ H' λσ2 H2=>tb { D with nx:=N,ct:=N,bk:=D.nx } σ2 H2):=by
 refine #[λi m σ H=>m=xs.9 - i/\i<=xs.9/\Pv i σ H,#[xs.9,by simp,a7 _,h0],?_];rintro i m σ H ⟨rfl,hi,p⟩;have q:=hl i σ H hi p;by_cases hlt:i < xs.9
 ·refine .inr #[#[xs,xs[i],q,by simp [hlt]],Pv (i+1),λσ' H' p'=>#[xs.9 - (i+1),(),rfl,hlt,p'],λx H' y=>?_];obtain e|y:=y;subst e;exact hs i x σ _ (y xs q) p
 ·have e:i=xs.9:=()
  subst e;exact .inl #[#[xs,q,ah _],hd σ H p]
theorem En {lo:Int} {g:TG} {tb:TS} {D:Ends} (Pv:Nat->St->Hp->Prop) (h0:Pv 0 σ H)
  (hs:∀i σ H,i < n->Pv i σ H->g (.int (lo+i)) σ H λσ2 H2=>tb { D with nx:=Pv (i+1),ct:=Pv (i+1),bk:=D.nx } σ2 H2) (hd:∀σ H,Pv n σ H->D.nx σ H) :
  ∃W:Nat->Nat->St->Hp->Prop,(∃m,W 0 m σ H)/\∀i m σ H,W i m σ H →
   ((KH lo n).stop i H/\D.nx σ H)\/((KH lo n).go i H/\∃N:St->Hp->Prop,(∀σ' H',N σ' H'->∃m',m' < m/\W (i+1) m' σ' H')/\∀x H',(KH lo n).yld i H x H'->g x σ H' λσ2 H2=>tb { D with nx:=N,ct:=N,bk:=D.nx } σ2 H2):=by
 refine #[λi m σ H=>m=n - i/\i<=n/\Pv i σ H,#[n,by simp,a7 _,h0],?_];rintro i m σ H ⟨rfl,hi,p⟩;by_cases hlt:i < n
 ·refine .inr #[hlt,Pv (i+1),λσ' H' p'=>#[n - (i+1),(),rfl,hlt,p'],λx H' y=>?_];obtain e|y:=y;subst e y;exact hs i σ _ hlt p
 ·have e:i=n:=()
  subst e;exact .inl #[ah _,hd σ H p]
abbrev R2:=V->V->Hp->VK->Prop
def yD (X:Cx) (f:Value->Value->Sem Value) (r:R2):Prop :=
 ∀(pins:List (Addr×Obj)) (s:nw) (σ:St) (H:Hp) (x y:V) (v u:Value) (Q:VK),Inv X pins σ H s->RelV x v->RelV y u->r x y H Q →
  wE (model X.prog X.w) X.A (f v u) (EP X pins σ Q) X.xe s
def Y6 (X:Cx) (f:Value->Sem Value) (r:V->Hp->VK->Prop):Prop :=
 ∀(pins:List (Addr×Obj)) (s:nw) (σ:St) (H:Hp) (x:V) (v:Value) (Q:VK),Inv X pins σ H s->RelV x v->r x H Q →
  wE (model X.prog X.w) X.A (f v) (EP X pins σ Q) X.xe s
def pM (X:Cx) (f:Value) (r:List V->Hp->VK->Prop):Prop :=
 ∀(pins:List (Addr×Obj)) (s:nw) (σ:St) (H:Hp) (xs:List V) (us:List Value) (Q:VK),Inv X pins σ H s->c7 xs us->r xs H Q →
  wE (model X.prog X.w) X.A (call f us) (EP X pins σ Q) X.xe s
def W6 (r:R2) (ta tb:TE):TE:=λσ H Q=>ta σ H λx H1=>tb σ H1 λy H2=>r x y H2 Q
def YB (r:V->Hp->VK->Prop) (ta:TE):TE:=λσ H Q=>ta σ H λx H1=>r x H1 Q
def rI (C:Int->Int->Prop) (g:Int->Int->V):R2:=λx y H Q=>∃i j,x=.int i/\y=.int j/\C i j/\Q (g i j) H
def S0 (g:Int->Int->V):R2:=λx y H Q=>∃i j,x=.int i/\y=.int j/\Q (g i j) H
def rU (g:Int->V):V->Hp->VK->Prop:=λx H Q=>∃i,x=.int i/\Q (g i) H
section
variable {X:Cx} {a b c:Expr} {ta tb tc:TE} {pos:Pos}
theorem Wo (ha:PE X a ta) (hb:PE X b tb) {σ:St} {R:V->V->Hp->Prop} (I:Inv X pins σ H s)
  (h:ta σ H λx H1=>tb σ H1 λy H2=>R x y H2) {f:Value->Value->Sem Value}
  (hf:∀v u s2 x y H2,Inv X pins σ H2 s2->RelV x v->RelV y u->R x y H2->wE (model X.prog X.w) X.A (f v u) Q X.xe s2) :
  wE (model X.prog X.w) X.A (eval a X.env) (λv s₁=>wE (model X.prog X.w) X.A (eval b X.env) (λu s₂=>wE (model X.prog X.w) X.A (f v u) Q X.xe s₂) X.xe s₁) X.xe s:=by
 refine iQ (ha pins s σ H _ I h) λv s1 #[x,H1,I1,r1,q1]=>?_
 refine iQ (hb pins s1 σ H1 _ I1 q1) λu s2 #[y,H2,I2,r2,q2]=>?_
 exact hf v u s2 x y H2 I2 r1 r2 q2
theorem bD (ho:yD X (binaryOp op) r) (ha:PE X a ta) (hb:PE X b tb):PE X (.BinOp a op b pos) (W6 r ta tb):=by
 intro pins s σ H Q I h;exact wpAny_BinOp (Wo ha hb I h λv u s2 x y H2 I2 rx ry q=>ho pins s2 σ H2 x y v u Q I2 rx ry q)
theorem xX (ho:Y6 X (unaryOp op) r) (ha:PE X a ta):PE X (.UnaryOp op a pos) (YB r ta):=by
 intro pins s σ H Q I h;exact UnaryOp_ (iQ (ha pins s σ H _ I h) λv s1 #[x,H1,I1,r1,q1]=>ho pins s1 σ H1 x v Q I1 r1 q1)
theorem YZ {g:Int->Int->Int}
  (rule:∀(i j:Int) (t u:Tok) (s:nw) (Q:Value->nw->Prop) (E:Value->nw->Prop),C i j->Q (.int (g i j) s.toks) { s with toks:=s.toks+1 }->wE (model X.prog X.w) X.A (f (.int i t) (.int j u)) Q E s) :
  yD X f (rI C λi j=>.int (g i j)):=by
 intro pins s σ H x y v u Q I rx ry h;obtain i|j|rfl|rfl|hc|q:=h;obtain t|rfl:=rx;obtain t'|rfl:=ry;exact rule i j t t' s _ _ hc #[.int (g i j),H,I.tok _,#[_,rfl],q]
theorem XT {g:Int->Int->Int}
  (rule:∀(i j:Int) (t u:Tok) (s:nw) (Q:Value->nw->Prop) (E:Value->nw->Prop),Q (.int (g i j) s.toks) { s with toks:=s.toks+1 }->wE (model X.prog X.w) X.A (f (.int i t) (.int j u)) Q E s) :
  yD X f (S0 λi j=>.int (g i j)):=by
 intro pins s σ H x y v u Q I rx ry h;obtain i|j|rfl|rfl|q:=h;obtain t|rfl:=rx;obtain t'|rfl:=ry;exact rule i j t t' s _ _ #[.int (g i j),H,I.tok _,#[_,rfl],q]
theorem Tb {g:Int->Int->Bool}
  (rule:∀(i j:Int) (t u:Tok) (s:nw) (Q:Value->nw->Prop) (E:Value->nw->Prop),Q (.bool (g i j)) s->wE (model X.prog X.w) X.A (f (.int i t) (.int j u)) Q E s) :
  yD X f (S0 λi j=>.bl (g i j)):=by
 intro pins s σ H x y v u Q I rx ry h;obtain i|j|rfl|rfl|q:=h;obtain t|rfl:=rx;obtain t'|rfl:=ry;exact rule i j t t' s _ _ #[.bl (g i j),H,I,rfl,q]
def WI (i j:Int):Prop:=(-(2^64) < i/\i < 2^64)\/(-(2^64) < j/\j < 2^64)
theorem WI.ok (h:WI i j):IntMulOk i j:=by
 rcases h with ⟨h1,h2⟩ | ⟨h1,h2⟩
 ·exact .of_left (intBits_le_64 h1 h2)
 ·exact .of_right (intBits_le_64 h1 h2)
theorem fz:yD X (binaryOp .Add) (S0 λi j=>.int (i+j)):=XT λ_ _ _ _ _ _ _ q=>add_int q
theorem jr:yD X (binaryOp .Sub) (S0 λi j=>.int (i - j)):=XT λ_ _ _ _ _ _ _ q=>sub_int q
theorem qR:yD X (binaryOp .Mod) (rI (λ_ j=>0 < j) λi j=>.int (i % j)):=YZ λi j _ _ _ _ _ hc q=>by
 have h1:(0:Int) < j:=hc;exact mod_int' () (by rw[Int.fmod_eq_emod_of_nonneg i ()];exact q)
theorem Ta:yD X (binaryOp .Mod) (rI (λ_ j=>j≠0) λi j=>.int (i.fmod j)):=YZ λ_ _ _ _ _ _ _ hc q=>mod_int' hc q
theorem unI {g:Int->Int}
  (rule:∀(i:Int) (t:Tok) (s:nw) (Q:Value->nw->Prop) (E:Value->nw->Prop),Q (.int (g i) s.toks) { s with toks:=s.toks+1 }->wE (model X.prog X.w) X.A (f (.int i t)) Q E s) :
  Y6 X f (rU λi=>.int (g i)):=by
 intro pins s σ H x v Q I rx h;obtain i|rfl|q:=h;obtain t|rfl:=rx;exact rule i t s _ _ #[.int (g i),H,I.tok _,#[_,rfl],q]
theorem rM:Y6 X (unaryOp .USub) (rU λi=>.int (-i)):=unI λ_ _ _ _ _ q=>neg_int q
end
def Xq:V->V->Bool
 | .non,.non=>true | .non,.int _=>true | .int _,.non=>true | .non,.bl _=>true | .bl _,.non=>true | .non,.str _=>true | .str _,.non=>true
 | .int _,.int _=>true | .bl _,.bl _=>true | .str _,.str _=>true | .byt _,.byt _=>true
 | .int _,.str _=>true | .str _,.int _=>true | .bl _,.str _=>true | .str _,.bl _=>true
 | _,_=>false
def YU:R2:=λx y H Q=>Xq x y=true/\Q (.bl (decide (x=y))) H
def YS:R2:=λx y H Q=>Xq x y=true/\Q (.bl (!decide (x=y))) H
theorem M6:decide (V.int i=V.int j)=(i == j):=by
 rw[kH];simp
theorem QY:decide (V.bl i=V.bl j)=(i == j):=by
 rw[kH];simp
theorem MZ:decide (V.str i=V.str j)=(i == j):=by
 rw[kH];simp
theorem M7:decide (V.byt i=V.byt j)=(i.toList == j.toList):=by
 rw[kH];cases i;cases j;simp
section
variable {X:Cx} {a b c:Expr} {ta tb tc:TE} {pos:Pos}
theorem dP {σ:St} (I:Inv X pins σ H s) (q:Q (.bl k) H) (e:k=k'):EP X pins σ Q (.bool k') s:=by
 subst e;exact #[.bl k,H,I,rfl,q]
theorem fq:yD X (NE .Eq) YU:=by
 intro pins s σ H x y v u Q I rx ry h;obtain hs|q:=h;cases x with
 | non =>
  cases rx;cases y with
  | non=>cases ry;exact PySem.EqNone.eq_none_none (dP I q (by simp))
  | bl j=>cases ry;exact PySem.EqNone.eq_none_bool (dP I q (by simp))
  | int j=>obtain t'|rfl:=ry;exact PySem.EqNone.eq_none_int (dP I q (by simp))
  | str j=>obtain t'|rfl:=ry;exact PySem.EqNone.eq_none_str (dP I q (by simp))
  | _=>exact absurd (show false=true from hs) bh
 | bl i =>
  cases rx;cases y with
  | non=>cases ry;exact PySem.EqNone.eq_bool_none (dP I q (by simp))
  | bl j=>cases ry;exact eq_bool (dP I q QY)
  | str j=>obtain t'|rfl:=ry;exact PySem.EqMixed.eq_bool_str (dP I q (by simp))
  | _=>exact absurd (show false=true from hs) bh
 | int i =>
  obtain t|rfl:=rx;cases y with
  | non=>cases ry;exact PySem.EqNone.eq_int_none (dP I q (by simp))
  | int j=>obtain t'|rfl:=ry;exact eq_int (dP I q M6)
  | str j=>obtain t'|rfl:=ry;exact PySem.EqMixed.eq_int_str (dP I q (by simp))
  | _=>exact absurd (show false=true from hs) bh
 | str i =>
  obtain t|rfl:=rx;cases y with
  | non=>cases ry;exact PySem.EqNone.eq_str_none (dP I q (by simp))
  | bl j=>cases ry;exact PySem.EqMixed.eq_str_bool (dP I q (by simp))
  | int j=>obtain t'|rfl:=ry;exact PySem.EqMixed.eq_str_int (dP I q (by simp))
  | str j=>obtain t'|rfl:=ry;exact eq_str (dP I q MZ)
  | _=>exact absurd (show false=true from hs) bh
 | byt i =>
  obtain t|rfl:=rx;cases y with
  | byt j=>obtain t'|rfl:=ry;exact PySem.W.eq_bytes (dP I q M7)
  | _=>exact absurd (show false=true from hs) bh
 | _=>cases y <;> exact absurd (show false=true from hs) bh
theorem ue:yD X (NE .NotEq) YS:=by
 intro pins s σ H x y v u Q I rx ry h;obtain hs|q:=h;cases x with
 | non =>
  cases rx;cases y with
  | non=>cases ry;exact PySem.EqNone.ne_none_none (dP I q (by simp))
  | bl j=>cases ry;exact PySem.EqNone.ne_none_bool (dP I q (by simp))
  | int j=>obtain t'|rfl:=ry;exact PySem.EqNone.ne_none_int (dP I q (by simp))
  | str j=>obtain t'|rfl:=ry;exact PySem.EqNone.ne_none_str (dP I q (by simp))
  | _=>exact absurd (show false=true from hs) bh
 | bl i =>
  cases rx;cases y with
  | non=>cases ry;exact PySem.EqNone.ne_bool_none (dP I q (by simp))
  | bl j=>cases ry;exact ne_bool (dP I q (congrArg not QY))
  | str j=>obtain t'|rfl:=ry;exact PySem.EqMixed.ne_bool_str (dP I q (by simp))
  | _=>exact absurd (show false=true from hs) bh
 | int i =>
  obtain t|rfl:=rx;cases y with
  | non=>cases ry;exact PySem.EqNone.ne_int_none (dP I q (by simp))
  | int j=>obtain t'|rfl:=ry;exact ne_int (dP I q (congrArg not M6))
  | str j=>obtain t'|rfl:=ry;exact PySem.EqMixed.ne_int_str (dP I q (by simp))
  | _=>exact absurd (show false=true from hs) bh
 | str i =>
  obtain t|rfl:=rx;cases y with
  | non=>cases ry;exact PySem.EqNone.ne_str_none (dP I q (by simp))
  | bl j=>cases ry;exact PySem.EqMixed.ne_str_bool (dP I q (by simp))
  | int j=>obtain t'|rfl:=ry;exact PySem.EqMixed.ne_str_int (dP I q (by simp))
  | str j=>obtain t'|rfl:=ry;exact ne_str (dP I q (congrArg not MZ))
  | _=>exact absurd (show false=true from hs) bh
 | byt i =>
  obtain t|rfl:=rx;cases y with
  | byt j=>obtain t'|rfl:=ry;exact PySem.W.ne_bytes (dP I q (congrArg not M7))
  | _=>exact absurd (show false=true from hs) bh
 | _=>cases y <;> exact absurd (show false=true from hs) bh
theorem vm:yD X (NE .Lt) (S0 λi j=>.bl (decide (i < j))):=Tb λ_ _ _ _ _ _ _ q=>lt_int q
theorem XS:yD X (NE .LtE) (S0 λi j=>.bl (decide (i<=j))):=Tb λ_ _ _ _ _ _ _ q=>le_int q
theorem wI:yD X (NE .Gt) (S0 λi j=>.bl (decide (j < i))):=Tb λ_ _ _ _ _ _ _ q=>gt_int q
theorem D6:yD X (NE .GtE) (S0 λi j=>.bl (decide (j<=i))):=Tb λ_ _ _ _ _ _ _ q=>ge_int q
theorem VP:yD X (NE .Is) (λx y H Q=>y=.non/\Q (.bl (decide (x=.non))) H):=by
 intro pins s σ H x y v u Q I rx ry h;obtain rfl|q:=h;cases ry;refine is_none_gen (dP I q ?_)
 cases x <;> first
  | (cases rx;rfl)
  | (obtain ⟨t,rfl⟩:=rx;rfl)
theorem Fv:yD X (NE .IsNot) (λx y H Q=>y=.non/\Q (.bl (!decide (x=.non))) H):=by
 intro pins s σ H x y v u Q I rx ry h;obtain rfl|q:=h;cases ry;refine isnot_none_gen (dP I q ?_)
 cases x <;> first
  | (cases rx;rfl)
  | (obtain ⟨t,rfl⟩:=rx;rfl)
theorem br (b:Expr) {op:CmpOp} (h:op≠.In:=by decide) (h2:op≠.NotIn:=by decide):behindInMarks op b=false:=by
 have e1:(op == CmpOp.In)=false:=by cases op <;> first | rfl | exact absurd rfl h
 have e2:(op == CmpOp.NotIn)=false:=by cases op <;> first | rfl | exact absurd rfl h2
 cases b <;> simp [behindInMarks,e1,e2]
theorem iL (ho:yD X (NE op) r) (ha:PE X a ta) (hb:PE X b tb) (hm:behindInMarks op b=false):PE X (.Compare a [op] [b] pos) (W6 r ta tb):=by
 intro pins s σ H Q I h;exact wpAny_Compare1 (Wo ha hb I h λv u s2 x y H2 I2 rx ry q=>ho pins s2 σ H2 x y v u Q I2 rx ry q) hm
def Ua (t:TE):TT:=λσ H Q=>t σ H λx H'=>∃k,x=.bl k/\Q k H'
theorem bf (ho:yD X (NE op) r) (ha:PE X a ta) (hb:PE X b tb) (hm:behindInMarks op b=false):PT X (.Compare a [op] [b] pos) (Ua (W6 r ta tb)):=by
 intro pins s σ H Q I h
 refine wpAny_isTrue_Compare1 (iQ (ha pins s σ H _ I h) λv s1 #[x,H1,I1,r1,q1]=>iQ (hb pins s1 σ H1 _ I1 q1) λu s2 #[y,H2,I2,r2,q2] =>
  iQ (ho pins s2 σ H2 x y v u _ I2 r1 r2 q2) λc s3 #[z,H3,I3,r3,k,e,q3]=>?_) hm
 subst e;cases r3;exact Zh #[H3,I3,q3]
theorem BV:(ww:Nat) < 2^63:=by rw[sizeLine_eq];decide
theorem vals1 (r:c7 [x] us):∃u,us=[u]/\RelV x u:=by
 cases r with
 | cons r1 r2=>cases r2;exact #[_,rfl,r1]
theorem vals2 (r:c7 [x,y] us):∃u w',us=[u,w']/\RelV x u/\RelV y w':=by
 cases r with
 | cons r1 r2 =>
  cases r2 with
  | cons r3 r4=>cases r4;exact #[_,_,rfl,r1,r3]
theorem yu:pM X (.builtin "abs") (λxs H Q=>∃i,xs=[.int i]/\Q (.int (if i < 0 then -i else i)) H):=by
 intro pins s σ H xs us Q I r h;obtain i|rfl|q:=h;obtain u|rfl|t|rfl:=vals1 r;exact call_abs_int λu tk=>#[.int (if i < 0 then -i else i),H,I.tok _,#[_,rfl],q]
theorem wd (hc:X.calm=true):pM X (.builtin "min") (λxs H Q=>∃i j,xs=[.int i,.int j]/\Q (.int (if j < i then j else i)) H):=by
 intro pins s σ H xs us Q I r h;obtain i|j|rfl|q:=h;obtain u|w'|rfl|⟨t,rfl⟩|⟨t',rfl⟩:=vals2 r;refine min_two_ints (I.ok.hd hc) λh' tk k=>#[_,H,I.kept k,?_,q]
 by_cases hj:j < i
 ·rw[if_pos hj,if_pos hj];exact #[_,rfl]
 ·rw[if_neg hj,if_neg hj];exact #[_,rfl]
end
structure Mj (h:Heap) (x dx C:Addr) (mA:Str->Option Value):Prop where
 obj:h.get? x=some (Os C dx)
 ns:h.Ns1 dx mA
 ne:dx≠x
theorem Oa {h:Heap} (n:h.Ns1 dx mA):∃od,h.get? dx=some od/\∀name,PySem.W.lookIn name od=some (mA name):=by
 obtain o|es|ep|ho|hd|hk|_|hm:=n;refine #[o,ho,λname=>?_];have e:=hm name;unfold nsFind findBy at e;rw[<- Array.find?_toList] at e;unfold PySem.W.lookIn;rw[hd]
 dsimp only
 split
 ·rename_i y q
  rw[q] at e;exact congrArg some e
 ·rename_i q
  rw[q] at e
  have a:es.toList.any (·.refKey)=false:=by
   rw[List.any_eq_false];intro y hy;obtain z|t|hkey:=hk y (Array.mem_toList_iff.mp hy);simp [DictEntry.refKey,hkey]
  have a':¬es.toList.any (·.refKey)=true:=by rw[a];exact bh
  rw[if_neg a'];exact congrArg some e
theorem Mj.look (I:Mj h x dx C mA):∃od,PySem.W.InstAt h x (Os C dx) C (some od)/\∀name,PySem.W.lookIn name od=some (mA name) :=
 let ⟨od,ho,hl⟩:=Oa I.ns
 #[od,#[I.obj,rfl,rfl,ho],hl]
section
variable {K:FG9}
theorem get_map (X:K.In s.8) (I:Mj s.heap x dx C mA) (hg:PySem.W.plainGet K C name=true) (hh:PySem.W.hasDictIn K C=true)
  (ha:IN K (.ref C) name=some none) (hv:mA name=some v) (hv':PySem.W.handedIn v=true) (h:Q v { s with toks:=s.toks+1 }) :
  wE (model prog w) A (getAttr (.ref x) name expr) Q E s:=by
 obtain od|J|hl:=I.look;exact PySem.W.get_value X J (Ih hg).1 (PySem.W.findObj_own hh ha rfl (by rw[hl,hv])) hv' h
theorem Qz (X:K.In s.8) (I:Mj s.heap x dx C mA) (hg:PySem.W.plainGet K C name=true)
  (hf:IN K (.ref C) name=some (some (.ref f))) (ht:PySem.W.isFn K (.ref f)=true) (hv:mA name=none) (h:Q (.ref f,[.ref x]) s) :
  wE (model prog w) A (getMethod (.ref x) name pl) Q E s:=by
 obtain od|J|hl:=I.look;exact PySem.W.method_fn X J (Ih hg).1 (Ih hg).2 hf (beq_iff_eq.mp ht) (by show (PySem.W.lookIn name od).map (·.isSome)=some false;rw[hl,hv];rfl) h
theorem Sh (X:K.In s.8) (I:Mj s.heap x dx C mA)
  (hs:IN K (.ref C) "__setattr__"=some (some (.builtin "object.__setattr__"))) (hp:PySem.W.plainOver K C=true) (ht:PySem.W.takerIn K C name=some none) (hh:PySem.W.hasDictIn K C=true)
  (hw:PySem.Within mA ns) (hsz:ns.9<=ww)
  (h:∀h',Mj h' x dx C (λy=>if y=name then some v else mA y)->Heap.SameBut dx s.heap h'->Q .unit { s with heap:=h',toks:=s.toks+2 }) :
  wE (model prog w) A (setAttr (.ref x) name v) Q E s:=by
 obtain od|J|hl:=I.look;refine PySem.W.set_plain X J hs (PySem.W.osa_open (s:={ s with toks:=s.toks+1 }) (r:=none) X J hp ht λb=>?_);obtain cd|hc|hd':=PySem.W.any_some hh;have hx:s.heap.get? x=some #[.ref C,some dx,.plain,[].toArray]:=I.obj;refine db (pi (db (db (wpAny_loadPart hx (db (PySem.W.Looks.here (s:={ s with toks:=s.toks+1 }) (PySem.W.looks_clsIn X hc) ?_))))));rw[hd'];refine pi (a:=some dx) (db (pi (db ?_)));refine wpAny_nsSet1 (s:={ s with toks:=s.toks+1 }) I.ns λh' hn2 hs2=>?_
 obtain oD|esD|epD|hoD|hdD|hcD:=hn2.count (PySem.Within.cons name v hw);refine db (wpAny_lookBehind hoD (by rw[hdD];exact pastItsLine_dict (ag hcD (by rw[a9];lia))) ?_);exact pi (h _ #[(hs2.2 _ (SL I.ne)).trans I.obj,hn2,I.ne] hs2)
theorem Ql (X:K.In s.8) (hm:PySem.W.makesIn K C=true)
  (hi:IN K (.ref C) "__init__"=some (some (.ref f))) (hf:PySem.W.typeIn K (.ref f)=some (.type "function"))
  (h:Zu (model prog w) (A.under (.builtin "type.__call__" #[.ref C :: vs,kw])) (.call (.ref f) #[.ref (s.6+1) :: vs,kw]) (PySem.W.InitBack (s.6+1) R)
   { s with heap:=(s.heap.push FM).push (Os C s.6) }) :
  Zu (model prog w) A (.call (.ref C) #[vs,kw]) R s:=by
 obtain hh|g|d|t|os:=s;exact PySem.W.make_core (PySem.W.makes_of X hm) (PySem.W.looks_findIn X hi) (λself=>PySem.W.bind_fn X self hf) (.inl rfl) h
end
def cO (f:Str) (v:V):List (Str×V)->List (Str×V)
 | []=>[(f,v)]
 | (g,x) :: r=>if g=f then (g,v) :: r else (g,x) :: cO f v r
theorem bQ (f g:Str) (v:V):∀fs:List (Str×V),(cO f v fs).lookup g=if g=f then some v else fs.lookup g
 | []=>by
  show Zr g [(f,v)]=_
  by_cases h:g=f
  ·have hb:(g == f)=true:=beq_iff_eq.mpr h;simp only[Zr,hb,if_pos h]
  ·have hb:(g == f)=false:=beq_eq_false_iff_ne.mpr h;simp only[Zr,hb,if_neg h]
 | (k,x) :: r=>by
  have ih:=bQ f g v r;rw[show cO f v ((k,x) :: r)=(if k=f then (k,v) :: r else (k,x) :: cO f v r) from rfl];by_cases hk:k=f
  ·rw[if_pos hk];by_cases h:g=k
   ·have hb:(g == k)=true:=beq_iff_eq.mpr h;simp only[Zr,hb,if_pos (h.trans hk)]
   ·have hb:(g == k)=false:=beq_eq_false_iff_ne.mpr h;simp only[Zr,hb,if_neg (λe:g=f=>h (e.trans hk.symm))]
  ·rw[if_neg hk];by_cases h:g=k
   ·have hb:(g == k)=true:=beq_iff_eq.mpr h;simp only[Zr,hb,if_neg (λe:g=f=>hk (h.symm.trans e))]
   ·have hb:(g == k)=false:=beq_eq_false_iff_ne.mpr h;simp only[Zr,hb];exact ih
theorem zy (f:Str) (v:V):∀fs:List (Str×V),f∈(cO f v fs).map (·.1)/\∀g,g∈fs.map (·.1)->g∈(cO f v fs).map (·.1)
 | []=>#[by simp [cO],λg h=>by simp at h]
 | (k,x) :: r=>by
  obtain i1|i2:=zy f v r;rw[show cO f v ((k,x) :: r)=(if k=f then (k,v) :: r else (k,x) :: cO f v r) from rfl];by_cases hk:k=f
  ·rw[if_pos hk];subst hk;exact #[by simp,λg h=>by simpa using h]
  ·rw[if_neg hk];refine #[?_,λg h=>?_]
   ·rw[gL];exact cz _ i1
   ·rw[gL] at h ⊢;rcases aJ.mp h with e | e
    ·exact aJ.mpr (.inl e)
    ·exact cz _ (i2 g e)
theorem zS (f:Str) (v:V):∀fs:List (Str×V),(cO f v fs).9<=fs.9+1
 | []=>by simp [cO]
 | (k,x) :: r=>by
  have ih:=zS f v r;rw[show cO f v ((k,x) :: r)=(if k=f then (k,v) :: r else (k,x) :: cO f v r) from rfl];by_cases hk:k=f
  ·rw[if_pos hk,a9,a9];lia
  ·rw[if_neg hk,a9,a9];lia
theorem Dx.some_of (r:Dx (some v) o):∃u,o=some u/\RelV v u:=by
 cases o with
 | none=>exact (show False from r).elim
 | some u=>exact #[u,rfl,r]
theorem Dx.none_of (r:Dx none o):o=none:=by
 cases o with
 | none=>rfl
 | some u=>exact (show False from r).elim
theorem Og (r:RelV v u):PySem.W.handedIn u=true:=by
 cases v with
 | non=>cases (show u=KM from r);rfl
 | bl b=>cases (show u=Value.bool b from r);rfl
 | int i=>obtain t|e:=(show ∃t,u=Value.int i t from r);cases e;rfl
 | str x=>obtain t|e:=(show ∃t,u=Value.str x t from r);cases e;rfl
 | byt b=>obtain t|e:=(show ∃t,u=Value.bytes b t from r);cases e;rfl
 | flt b=>obtain t|e:=(show ∃t,u=Value.float b t from r);cases e;rfl
 | ref a=>cases (show u=sK a from r);rfl
 | ty n=>cases (show u=KT n from r);rfl
theorem yn (hok:AL P w H h) (e:H a=some (.ins C dx fs)):∃mA,Mj h a dx C mA/\(∀f,Dx (fs.lookup f) (mA f))/\PySem.Within mA (fs.map (·.1))/\fs.9<=1000/\H dx=some (.own a):=by
 obtain d|z|ne|ob|mA|n|r|q:=(show iB P w H h a (.ins C dx fs) from hok a _ e);exact #[mA,#[ob,n,ne],r,q,z,d]
structure OY (K:FG9) (C:Addr):Prop where
 pg:PySem.W.plainGet K C Str.empty=true
 hd:PySem.W.hasDictIn K C=true
 po:PySem.W.plainOver K C=true
 sa:IN K (.ref C) "__setattr__"=some (some (.builtin "object.__setattr__"))
theorem OY.get {K:FG9} (c:OY K C) (f:Str):PySem.W.plainGet K C f=true:=c.pg
def lO (K:FG9) (C:Addr) (f:Str):Prop:=IN K (.ref C) f=some none
theorem lO.taker {K:FG9} (n:lO K C f):PySem.W.takerIn K C f=some none:=by
 unfold PySem.W.takerIn;rw[show IN K (.ref C) f=some none from n];rfl
structure WA (K:FG9) (C:Addr) (m:Str) (f:Addr):Prop where
 at_:IN K (.ref C) m=some (some (.ref f))
 fn:PySem.W.isFn K (.ref f)=true
 kp:Zj K (.ref f)=true
section
variable {σ:St}
theorem LC (I:Inv X pins σ H s) (e:H a=some (.ins C dx fs)) (c:OY X.K C) (n:lO X.K C f) (l:fs.lookup f=some v)
  (h:∀u s',Inv X pins σ H s'->RelV v u->Q u s'):wE (model X.prog X.w) A (getAttr (.ref a) f b) Q E s:=by
 obtain mA|O|r|_|_|_:=yn I.hok e;obtain u|hu|ru:=Dx.some_of (v:=v) (o:=mA f) (by rw[<- l];exact r f);exact get_map I.kIn O (c.get f) c.hd n hu (Og ru) (h u _ (I.tok _) ru)
theorem Lz (I:Inv X pins σ H s) (e:H a=some (.ins C dx fs)) (c:OY X.K C) (k:WA X.K C m g) (l:fs.lookup m=none)
  (h:Q (.ref g,[.ref a]) s):wE (model X.prog X.w) A (getMethod (.ref a) m pl) Q E s:=by
 obtain mA|O|r|_|_|_:=yn I.hok e;have hn:mA m=none:=Dx.none_of (by rw[<- l];exact r m);exact Qz I.kIn O (c.get m) k.at_ k.fn hn h
theorem KY (I:Inv X pins σ H s) (e:H a=some (.ins C dx fs)) (c:OY X.K C) (n:lO X.K C f) (hl:fs.9 < 1000) (ry:RelV y u)
  (h:∀s',Inv X pins σ (upd H a (.ins C dx (cO f y fs))) s'->Q .unit s'):wE (model X.prog X.w) A (setAttr (.ref a) f u) Q E s:=by
 obtain mA|O|r|wi|_|ho:=yn I.hok e;have hz:(fs.map (·.1)).9<=ww:=by rw[af,sizeLine_eq];lia
 refine Sh I.kIn O c.sa c.po n.taker c.hd wi hz λh' O' sb=>h _ ?_
 have hd:∃o,h'.get? dx=some o:=let ⟨o,_,_,e',_⟩:=O'.ns;#[o,e']
 refine I.write (x:=a) (e:=dx) (by rw[e];exact P3) (.inr ho) (λb q hb z=>(sb.2 b hb).trans z) hd ?_;refine #[by rw[bG O.ne];exact ho,?_,O.ne,O'.obj,_,O'.ns,λg=>?_,λg hg=>?_]
 ·have:=zS f y fs;lia
 ·show Dx ((cO f y fs).lookup g) (if g=f then some u else mA g)
  rw[bQ];by_cases q:g=f
  ·rw[if_pos q,if_pos q];exact ry
  ·rw[if_neg q,if_neg q];exact r g
 ·by_cases q:g=f
  ·rw[q];exact (zy f y fs).1
  ·refine (zy f y fs).2 g (wi g λz=>hg ?_);show (if g=f then some u else mA g)=none
   rw[if_neg q];exact z
theorem Inv.made (I:Inv X pins σ H s):Inv X pins σ (upd (upd H s.heap.objs.size (.own (s.6+1))) (s.6+1) (.ins C s.6 []))
  { s with heap:=(s.heap.push FM).push (Os C s.6) }:=by
 have e1:(s.heap.push FM).get? s.6=some FM:=At s.heap rfl
 have e2:((s.heap.push FM).push (Os C s.6)).get? (s.6+1)=some (Os C s.6):=by
  have:=At (s.heap.push FM) (o:=Os C s.6) rfl;rwa [UF] at this
 have e3:(s.heap.push FM).Ns s.heap.objs.size (λ_=>none):=#[FM,[].toArray,_,e1,rfl,(λe he=>absurd he (by simp)),λ_=>rfl];have I1:=I.laid (a:=s.6) (o:=.own (s.6+1)) (h':=s.heap.push FM) (t':=s.toks) (λb u q=>io _ q) (ah _) #[_,e1];refine I1.laid (a:=s.6+1) (o:=.ins C s.6 []) (t':=s.toks) (λb u q=>io _ q) (Nat.le_of_eq (UF _ _)) ?_;have ne:s.6≠s.6+1:=cE (fR _);refine #[by rw[bG ne,aN],a7 _,ne,e2,λ_=>none,(Heap.Ns1.of_empty e3).at λo q=>io _ q,λ_=>P3,λy hy=>absurd rfl hy]
theorem TM (hb:attributeBase e f env (eval e env)=eval e env)
  (h:wE (model prog w) A (eval e env) (λo s₁=>wE (model prog w) A (getAttr o f true) Q E s₁) E s):wE (model prog w) A (eval (.Attribute e f pos) env) Q E s :=
 Attribute_any_ h (by rw[arm_eval_Attribute,hb])
end
def U0 (K:FG9) (ta:TE) (f:Str):TE:=λσ H Q=>ta σ H λx H1=>∃a C dx fs v,x=.ref a/\H1 a=some (.ins C dx fs)/\OY K C/\lO K C f/\fs.lookup f=some v/\Q v H1
def Xr (K:FG9) (ta tv:TE) (f:Str):TS:=λD σ H=>tv σ H λy H1=>ta σ H1 λx H2=>∃a C dx fs,x=.ref a/\H2 a=some (.ins C dx fs)/\OY K C/\lO K C f/\fs.9 < 1000 /\
 D.nx σ (upd H2 a (.ins C dx (cO f y fs)))
theorem hJ (he:PE X e ta) (hb:attributeBase e f X.env (eval e X.env)=eval e X.env):PE X (.Attribute e f pos) (U0 X.K ta f):=by
 intro pins s σ H Q I h;refine TM hb (iQ (he pins s σ H _ I h) λu s1 #[x,H1,I1,rx,a,C,dx,fs,v,ex,ea,c,n,l,q]=>?_);subst ex;obtain rfl:u=sK a:=rx;exact LC I1 ea c n l λu' s2 I2 ru=>#[v,H1,I2,ru,q]
theorem za (ha:PE X o ta) (hv:PE X value tv) (hs:swapsWith value (some (.Attribute o f pos')) pos.line X.env=pure false):PS X (.Assign [.Attribute o f pos'] value pos) (Xr X.K ta tv f):=by
 intro pins s σ H D I h;refine plainObj_wpAny_Assign_Attribute (iQ (hv pins s σ H _ I h) λu s1 #[y,H1,I1,ry,q]=>iQ (ha pins s1 σ H1 _ I1 q) λov s2 #[x,H2,I2,rx,a,C,dx,fs,ex,ea,c,n,l,q2]=>?_) hs;subst ex;obtain rfl:ov=sK a:=rx;exact KY I2 ea c n l ry λs3 I3=>#[σ,_,I3,q2]
section
variable {X:Cx} {pins:List (Addr×Obj)} {σ:St} {H:Hp} {s:nw} {A:Ix} {E:Value->nw->Prop} {Q:Value->nw->Prop} {c:Value} {b:Bool}
inductive xC (K:FG9) (H:Hp):V->Value->Prop where
 | non:xC K H .non (.type "NoneType")
 | bl (x:Bool):xC K H (.bl x) (.type "bool")
 | int (i:Int):xC K H (.int i) (.type "int")
 | str (x:Str):xC K H (.str x) (.type "str")
 | flt (x:UInt64):xC K H (.flt x) (.type "float")
 | lst {a:Addr} {xs:List V} (e:H a=some (.lst xs)):xC K H (.ref a) (.type "list")
 | frz {a:Addr} {o:Obj} {xs:List V} (e:H a=some (.frz o (.lst xs))):xC K H (.ref a) (.type "list")
 | tup {a:Addr} {xs:List V} (e:H a=some (.tup xs)):xC K H (.ref a) (.type "tuple")
 | dK {a:Addr} {kvs:List (Key×V)} (e:H a=some (.dK kvs)):xC K H (.ref a) (.type "dict")
 | dT {a:Addr} {kvs:List (List Key×V)} (e:H a=some (.dT kvs)):xC K H (.ref a) (.type "dict")
 | ins {a C dx:Addr} {fs:List (Str×V)} (e:H a=some (.ins C dx fs)) (cl:OY K C) (ha:IN K (.ref C) "__class__"=some (some (.builtin "object.__class__")))
   (hn:PySem.W.specialIn K (.builtin "object.__class__") "__get__"=some (some (.builtin "getset_descriptor.__get__"))) (htk:PySem.W.takesIn K (.builtin "object.__class__")=some true)
   (hm:PySem.W.mroIn K C (.type "object")=some true):xC K H (.ref a) (.ref C)
theorem Ek (I:Inv X pins σ H s) (rx:RelV x u) (ty:xC X.K H x t) (e:PySem.W.kitOne X.K t c=some b) (h:∀tk,Q (.bool b) { s with toks:=tk }) :
  wE (model X.prog X.w) A (call (.builtin "isinstance") [u,c]) Q E s:=by
 cases ty with
 | non=>cases (show u=KM from rx);exact dZ PySem.W.kitx_none I.kIn P3 e (λz=>nomatch z) h
 | bl y=>cases (show u=Value.bool y from rx);exact dZ PySem.W.kitx_bool I.kIn P3 e (λz=>nomatch z) h
 | int i=>obtain t|q:=(show ∃t,u=Value.int i t from rx);cases q;exact dZ PySem.W.kitx_int I.kIn P3 e (λz=>nomatch z) h
 | str y=>obtain t|q:=(show ∃t,u=Value.str y t from rx);cases q;exact dZ PySem.W.kitx_str I.kIn P3 e (λz=>nomatch z) h
 | flt y=>obtain t|q:=(show ∃t,u=Value.float y t from rx);cases q;exact dZ PySem.W.kitx_float I.kIn P3 e (λz=>nomatch z) h
 | @lst a xs ea =>
  cases (show u=sK a from rx);obtain _|_|n|_|h1:=(show iB X.prog X.w H s.heap a (.lst xs) from I.hok a _ ea);exact dZ yz I.kIn #[_,h1,rfl] e (λz=>nomatch z) h
 | @frz a ob xs ea =>
  cases (show u=sK a from rx);obtain _|_|_|n|_|h1:=(show iB X.prog X.w H s.heap a (.frz ob (.lst xs)) from I.hok a _ ea);exact dZ yz I.kIn #[_,h1,rfl] e (λz=>nomatch z) h
 | @tup a xs ea =>
  cases (show u=sK a from rx);obtain _|_|_|p:=(show iB X.prog X.w H s.heap a (.tup xs) from I.hok a _ ea);obtain o|h1|h2|_:=p;exact dZ wW I.kIn #[o,h1,h2] e (λz=>nomatch z) h
 | @dK a kvs ea =>
  cases (show u=sK a from rx);obtain _|_|vs|_|p:=(show iB X.prog X.w H s.heap a (.dK kvs) from I.hok a _ ea);obtain o|es|ep|h1|h2|_:=p;exact dZ yA I.kIn #[o,h1,h2.1] e (λz=>nomatch z) h
 | @dT a kvs ea =>
  cases (show u=sK a from rx);obtain _|_|xs|_|o|es|ep|h1|h2|_:=(show iB X.prog X.w H s.heap a (.dT kvs) from I.hok a _ ea);exact dZ yA I.kIn #[o,h1,h2.1] e (λz=>nomatch z) h
 | @ins a C dx fs ea cl ha hn htk hm =>
  cases (show u=sK a from rx);obtain mA|O|_:=yn I.hok ea;obtain od|J|_:=O.look;exact dZ (PySem.W.kitx_own (cl.get _) cl.hd ha hn htk hm) I.kIn J e (λz=>nomatch z) h
end
structure mO (k:Nat) (A:Ix):Prop where
 hd:A.handled=none
 dp:A.depth+3*k+105 < recursionLimit
 un:A.units+16*k+200 < Op
theorem mO.mono (r:mO k A) (h:j<=k):mO j A:=#[r.hd,by have:=r.dp;lia,by have:=r.un;lia]
theorem mO.deeper (r:mO (k+1) A) (env:Env):mO k (A.deeper env) :=
 #[r.hd,by have:=r.dp;show A.depth+1+3*k+105 < _;lia,by have:=r.un;show A.units+3+16*k+200 < _;lia]
theorem Lq {A:Ix}:(A.under (.builtin "type.__call__" #[.ref C :: us,kw])).depth=A.depth+1:=by
 first | rfl | simp [Ix.under,Code.weight,Code.isCreation,Code.isGuard,Code.isCaller,Code.frames,Code.isFrame,guardIds]
theorem Lp {A:Ix}:(A.under (.builtin "type.__call__" #[.ref C :: us,kw])).units=A.units+1:=by
 first | rfl | simp [Ix.under,Code.cUnits,Code.frames,Code.isFrame]
theorem mO.make (r:mO (k+1) A) (C:Addr) (us:List Value) (kw:List (Str×Value)):mO k (A.under (.builtin "type.__call__" #[.ref C :: us,kw])) :=
 #[r.hd,by have:=r.dp;rw[Lq];lia,by have:=r.un;rw[Lp];lia]
theorem mO.depth (r:mO k A):A.depth < recursionLimit:=by have:=r.dp;lia
theorem mO.units (r:mO k A):A.units+64 < Op:=by have:=r.un;lia
def Cv:TA:=λ_ H Q=>Q [] H
def jY (ta:TE) (tr:TA):TA:=λσ H Q=>ta σ H λx H1=>tr σ H1 λxs H2=>Q (x :: xs) H2
section
variable {X:Cx} {e:Expr} {es:List Expr} {te:TE} {t:TA} {pos:Pos}
theorem ir:PA X [] Cv:=λ_ _ _ _ H Q I h=>Calls.spliced_nil #[[],H,I,.nil,h]
theorem fo (ha:PE X e te) (hr:PA X es t) (hs:r8 (e :: es) X.env=(false,eval e X.env) :: r8 es X.env:=by rfl):PA X (e :: es) (jY te t):=by
 intro pos pins s σ H Q I h;rw[hs];show wE _ _ (spliced ((false,eval e X.env) :: backTo pos (r8 es X.env))) _ _ s
 refine Calls.spliced_cons (iQ (ha pins s σ H _ I h) λu s1 #[x,H1,I1,r1,q1]=>?_);exact iQ (hr pos pins s1 σ H1 _ I1 q1) λus s2 #[xs,H2,I2,r2,q2]=>#[x :: xs,H2,I2,.cons r1 r2,q2]
def WY (t:TA):TE:=λσ H Q=>t σ H λxs H1=>xs.9<=ww/\∀p,H1 p=none->Q (.ref p) (upd H1 p (.tup xs))
def W8 (t:TA):TE:=λσ H Q=>t σ H λxs H1=>xs.9<=ww/\∀p,H1 p=none->Q (.ref p) (upd H1 p (.lst xs))
theorem cJ (h:PA X es t):PE X (.Tuple es x1 pos) (WY t):=by
 intro pins s σ H Q I hq;refine wpAny_Tuple_spliced (iQ (h pos pins s σ H _ I hq) λus s1 #[xs,H1,I1,r,z,q]=>#[by rw[<- r.9];exact z,?_]);have hf:H1 s1.6=none:=I1.hok.fresh (ah _);refine #[.ref s1.6,upd H1 s1.heap.objs.size (.tup xs),I1.laid (t':=s1.toks) (λb u e=>io _ e) (ah _) ?_,rfl,q _ hf];exact #[z,us,r,#[_,At _ rfl,rfl,_,rfl]]
theorem dC (h:PA X es t):PE X (.List es pos) (W8 t):=by
 intro pins s σ H Q I hq;refine wpAny_List_spliced (iQ (h pos pins s σ H _ I hq) λus s1 #[xs,H1,I1,r,z,q]=>#[by rw[<- r.9];exact z,?_]);have hf:H1 s1.6=none:=I1.hok.fresh (ah _);refine #[.ref s1.6,upd H1 s1.heap.objs.size (.lst xs),I1.laid (t':=s1.toks) (λb u e=>io _ e) (ah _) ?_,rfl,q _ hf];exact #[z,us,0,r,At _ rfl]
end
abbrev Sp:=List V->Hp->VK->XK->Prop
abbrev Rv:=List Env->Hp->nw->XK->Value->nw->Prop
structure Mm (P:Pi) (w:Uf) (K:FG9) (mg:Str->Option Value) (base:Heap) (A:Ix) (outer:List Env) (s:nw) (H:Hp):Prop where
 frames:A.frames=some outer
 mod:Mod K mg base
 bs:∀b o,base.get? b=some o->s.heap.get? b=some o/\H b=none
 bsz:base.objs.7<=s.heap.objs.size
 funs:s.heap.FunFrames base outer
 frf:∀b∈OU outer,H b=none
 hok:AL P w H s.heap
 bare:AllBare s.gens
def CE (outer:List Env) (P:Pi) (w:Uf) (H:Hp) (s:nw) (Q:VK) (u:Value) (s':nw):Prop :=
 ∃v H',s'.os=s.os/\AllBare s'.gens/\Un (OU outer) [] H H' s.heap s'.8/\AL P w H' s'.8/\RelV v u/\Q v H'
def CR (CX:Rv) (outer:List Env) (P:Pi) (w:Uf) (H:Hp) (s:nw) (Q:VK) (E:XK) (r:Result) (s':nw):Prop :=
 match r with
 | .ok (.ret u)=>CE outer P w H s Q u s'
 | .ok _=>False
 | .error e=>CX outer H s E e s'
structure qW (P:Pi) (w:Uf) (K:FG9) (mg:Str->Option Value) (base:Heap) (CX:Rv) (k:Nat) (f:Addr) (fd:dL) (ps:List Str) (sp:Sp):Prop where
 len:∀vs H Q E,sp vs H Q E->vs.9=ps.9
 run:∀(A:Ix) (outer:List Env) (s:nw) (H:Hp) (args:Args) (us:List Value) (vs:List V) (Q:VK) (E:XK),mO k A->Mm P w K mg base A outer s H->BindsTo s fd args (ps.zip us)->c7 vs us->sp vs H Q E →
  Zu (model P w) A (.call (.ref f) args) (CR CX outer P w H s Q E) s
theorem Mm.make {K:FG9} (e:Mm P w K mg base A outer s H) (C:Addr) (us:List Value) (kw:List (Str×Value)) :
  Mm P w K mg base (A.under (.builtin "type.__call__" #[.ref C :: us,kw])) outer s H:=#[by first | exact e.frames | (simpa [Ix.under,Code.envs,Code.isFrame,pushEnvs] using e.frames),e.mod,e.bs,e.bsz,e.funs,e.frf,e.hok,e.bare]
section
variable {σ:St}
theorem Inv.env0 (I:Inv X pins σ H s):Mm X.prog X.w X.K X.mg X.base X.A X.stack s H :=
 #[I.ok.frames,I.ok.mod,I.bs,ag I.ok.bsz I.sz,I.stack,I.stkFree,I.hok,I.bare]
theorem Inv.after (I:Inv X pins σ H s) (h:CE X.stack X.prog X.w H s Q u s'):EP X pins σ Q u s':=by
 obtain v|H'|os|bare|un|hok|r|q:=h;obtain hh|g|d|t|os':=s';obtain rfl:os'=s.os:=os;exact #[v,H',I.call (h':=hh) (g':=g) (d':=d) (t':=t) (ch:=[]) un hok bare (λb z=>absurd z (by simp)),r,q]
end
def Pd (sp:Sp) (dvs:List V) (E:XK) (t:TA):TE:=λσ H Q=>t σ H λvs H1=>sp (vs++dvs) H1 Q E
def Ug (C:Addr) (m:Str) (sp:Sp) (dvs:List V) (E:XK) (ta:TE) (t:TA):TE:=λσ H Q=>ta σ H λx H1=>∃a dx fs,x=.ref a/\H1 a=some (.ins C dx fs)/\fs.lookup m=none /\
 t σ H1 λvs H2=>sp (x :: (vs++dvs)) H2 Q E
def Uh (C:Addr) (sp:Sp) (dvs:List V) (E:XK) (t:TA):TE:=λσ H Q=>t σ H λvs H1=>∀x dx,H1 x=none->H1 dx=none->dx≠x →
 sp (.ref x :: (vs++dvs)) (upd (upd H1 dx (.own x)) x (.ins C dx [])) (λv H2=>v=.non/\Q (.ref x) H2) E
def Binds (K:FG9) (fd:dL) (ps:List Str) (ds:List Value):Prop :=
 ∀(s:nw) (us:List Value),K.In s.8->(us++ds).9=ps.9->BindsTo s fd #[us,[]] (ps.zip (us++ds))
theorem Binds.all {K:FG9} (h:∀us:List Value,us.9=ps.9->bindArgs fd #[us,[]]=pure (ps.zip us)):Binds K fd ps []:=λs us _ hl=>by
 rw[oV] at hl ⊢;exact .of_eq (h us hl)
def zL (CX:Rv) (X:Cx) (E:XK):Prop:=∀(pins:List (Addr×Obj)) (σ:St) (H:Hp) (s:nw) (e:Value) (s':nw),Inv X pins σ H s->CX X.stack H s E e s'->X.xe e s'
section
variable {X:Cx} {CX:Rv} {k:Nat} {f C:Addr} {fd:dL} {ps:List Str} {sp:Sp} {dvs:List V} {ds:List Value} {E:XK} {x m:Str} {p pos apos:Pos} {e o:Expr} {es:List Expr} {ta:TE} {t:TA}
theorem PB {σ:St} (F:qW X.prog X.w X.K X.mg X.base CX k f fd ps sp) (hr:mO k X.A) (hb:Binds X.K fd ps ds) (hd:c7 dvs ds) (hx:zL CX X E)
  (I:Inv X pins σ H s) (r:c7 vs us) (h:sp (vs++dvs) H Q E):wE (model X.prog X.w) X.A (call (.ref f) us) (EP X pins σ Q) X.xe s:=by
 have r2:c7 (vs++dvs) (us++ds):=r.append hd;have hl:(us++ds).9=ps.9:=by rw[<- r2.9];exact F.len _ _ _ _ h
 refine wpAny_call (codeAny_mono (F.run X.A X.stack s H #[us,[]] (us++ds) (vs++dvs) Q E hr I.env0 (hb s us I.kIn hl) r2 h) λr s' hq=>?_);cases r with
 | error e=>exact hx pins σ H s e s' I hq
 | ok fl =>
  cases fl with
  | ret u=>exact I.after hq
  | next=>exact No hq
  | brk=>exact No hq
  | cont=>exact No hq
theorem Az (F:qW X.prog X.w X.K X.mg X.base CX k f fd ps sp) (hr:mO k X.A) (hg:Gl X x) (hm:X.mg x=some (.ref f)) (hk:Zj X.K (.ref f)=true) (hb:Binds X.K fd ps ds) (hd:c7 dvs ds) (hx:zL CX X E)
  (ha:PA X (e :: es) t) (hdb:(x == ("__debug__":Str))=false:=by decide) (he:r8 (e :: es) X.env=(false,eval e X.env) :: r8 es X.env:=by rfl) (hpl:(backTo pos (r8 es X.env)).any (·.1)=false:=by rfl) :
  PE X (.Call (.Name x p) (e :: es) [] pos) (Pd sp dvs E t):=by
 intro pins s σ H Q I h;refine GM (FZ I hg hm ?_ hdb);refine KI (h₀:=X.base) I.ok.mod.kin hk (iQ (ha pos pins s σ H _ I h) λus s1 #[vs,H1,I1,r,q]=>#[I1.kIn,?_]) he hpl;exact PB F hr hb hd hx I1 r q
def S8 {pl : Sem Bool} (he : PE X o ta) (c : OY X.K C) (hm : WA X.K C m f) (F : qW X.prog X.w X.K X.mg X.base CX k f fd ps sp) (hr : mO k X.A) (hb : Binds X.K fd ps ds) (hd : c7 dvs ds) (hx : zL CX X E) (ha : PA X (e :: es) t)
    (hst : r8 (e :: es) X.env = (false, eval e X.env) :: r8 es X.env := by rfl) (hpl : (backTo pos (r8 es X.env)).any (·.1) = false := by rfl)
    (ht : eval (.Call (.Attribute o m apos) (e :: es) [] pos) X.env = (do
      let ov <- eval o X.env
      standAt apos.atName
      let (f, first) <- holding [ov] (getMethod ov m pl)
      callWith pos f first (backTo pos (r8 (e :: es) X.env)) (backToKw pos (keywordEach [] X.env))) := by rfl) :
    PE X (.Call (.Attribute o m apos) (e :: es) [] pos) (Ug C m sp dvs E ta t) := by
  intro pins s σ H Q I h;refine PySem.W.methodCall_KW (pl := pl) (iQ (he pins s σ H _ I h) λu s1 #[x, H1, I1, rx, a, dx, fs, ex, ea, l, q] => ?_) ht;subst ex;obtain rfl : u = sK a := rx;refine Lz I1 ea c hm l ?_;refine KI (first := [.ref a]) (h₀ := X.base) I.ok.mod.kin hm.kp (iQ (ha pos pins s1 σ H1 _ I1 q) λus s2 #[vs, H2, I2, r, q2] => #[I2.kIn, ?_]) hst hpl;exact PB (us := .ref a :: us) (vs := .ref a :: vs) F hr hb hd hx I2 (.cons rfl r) q2
structure Mk (K:FG9) (C f:Addr):Prop where
 makes:PySem.W.makesIn K C=true
 init:IN K (.ref C) "__init__"=some (some (.ref f))
 fn:PySem.W.isFn K (.ref f)=true
 kp:Zj K (.ref C)=true
theorem Pz {σ:St} (M:Mk X.K C f) (F:qW X.prog X.w X.K X.mg X.base CX k f fd ps sp) (hr:mO (k+1) X.A) (hb:Binds X.K fd ps ds) (hd:c7 dvs ds)
  (hx:zL CX X E) (I:Inv X pins σ H s) (r:c7 vs us)
  (h:∀x dx,H x=none->H dx=none->dx≠x->sp (.ref x :: (vs++dvs)) (upd (upd H dx (.own x)) x (.ins C dx [])) (λv H2=>v=.non/\Q (.ref x) H2) E) :
  wE (model X.prog X.w) X.A (call (.ref C) us) (EP X pins σ Q) X.xe s:=by
 have hq:=h (s.6+1) s.heap.objs.size (I.hok.fresh (md _)) (I.hok.fresh (ah _)) (cE (fR _));have I2:=Inv.made (C:=C) I;have r2:c7 (V.ref (s.6+1) :: (vs++dvs)) (sK (s.6+1) :: (us++ds)):=.cons rfl (r.append hd)
 have hl:(sK (s.6+1) :: us++ds).9=ps.9:=by
  have e:=r2.9;rw[F.len _ _ _ _ hq] at e;exact e.symm
 refine wpAny_call (Ql (f:=f) I.kIn M.makes M.init (beq_iff_eq.mp M.fn) (codeAny_mono (F.run _ X.stack _ _ #[sK (s.6+1) :: us,[]] (sK (s.6+1) :: (us++ds)) _ _ E (hr.make C us [])
  (I2.env0.make C us []) (hb _ (sK (s.6+1) :: us) I2.kIn hl) r2 hq) λr s' hq'=>?_))
 cases r with
 | error e=>exact hx pins σ _ _ e s' I2 hq'
 | ok fl =>
  cases fl with
  | ret u =>
   obtain v|H'|I3|rv|ev|q3:=I2.after hq';subst ev;exact #[rv,#[V.ref (s.6+1),H',I3,rfl,q3]]
  | next=>exact No hq'
  | brk=>exact No hq'
  | cont=>exact No hq'
theorem MF (M:Mk X.K C f) (F:qW X.prog X.w X.K X.mg X.base CX k f fd ps sp) (hr:mO (k+1) X.A) (hg:Gl X x) (hm:X.mg x=some (.ref C)) (hb:Binds X.K fd ps ds) (hd:c7 dvs ds) (hx:zL CX X E)
  (ha:PA X (e :: es) t) (hdb:(x == ("__debug__":Str))=false:=by decide) (he:r8 (e :: es) X.env=(false,eval e X.env) :: r8 es X.env:=by rfl) (hpl:(backTo pos (r8 es X.env)).any (·.1)=false:=by rfl) :
  PE X (.Call (.Name x p) (e :: es) [] pos) (Uh C sp dvs E t):=by
 intro pins s σ H Q I h;refine GM (FZ I hg hm ?_ hdb);refine KI (h₀:=X.base) I.ok.mod.kin M.kp (iQ (ha pos pins s σ H _ I h) λus s1 #[vs,H1,I1,r,q]=>#[I1.kIn,?_]) he hpl;exact Pz M F hr hb hd hx I1 r q
end
structure wg (N P:List Str) (sc:Scope):Prop where
 kind:sc.kind=.function
 co:sc.isCoroutine=false
 gen:sc.isGenerator=false
 nd:N.Nodup
 pre:N.take P.9=P
 par:∀x∈P,sc.names.lookup x=some .local\/sc.names.lookup x=some .cell
 nofree:∀y∈sc.names,y.2≠.free
theorem Ez {kindOf:Str->Option IO} {x:Str}:∀{binds:List (Str×Value)} {m:Str->Option Value},(∀v,(x,v)∉binds)->bindL kindOf binds m x=m x
 | [],_,_=>rfl
 | (n,v) :: r,m,h=>by
  unfold bindL;rw[Ez λw hw=>h w (cz _ hw)]
  split
  ·have:x≠n:=by rintro rfl;exact h v dR
   simp [this]
  ·rfl
theorem EB {kindOf:Str->Option IO} {x:Str}:∀{binds:List (Str×Value)} {m:Str->Option Value},(∀v,(x,v)∉binds)->bindC kindOf binds m x=m x
 | [],_,_=>rfl
 | (n,v) :: r,m,h=>by
  unfold bindC;rw[EB λw hw=>h w (cz _ hw)]
  split
  ·rfl
  ·have:x≠n:=by rintro rfl;exact h v dR
   simp [this]
theorem EA {kindOf:Str->Option IO} {x:Str} {v:Value}:∀{P:List Str} {vs:List Value} {i:Nat} {m:Str->Option Value},P.Nodup->P[i]?=some x->vs[i]?=some v->kindOf x=some .local →
  bindL kindOf (P.zip vs) m x=some v
 | [],_,_,_,_,h,_,_=>by simp at h
 | _ :: _,[],_,_,_,_,h,_=>by simp at h
 | p :: P,w :: vs,0,m,nd,h1,h2,hk=>by
  simp at h1 h2;subst h1;subst h2;show bindL kindOf ((p,w) :: P.zip vs) m p=_
  unfold bindL;rw[Ez λv hv=>(fF.mp nd).1 (RK hv).1,if_pos hk];simp
 | p :: P,w :: vs,i+1,m,nd,h1,h2,hk=>by
  show bindL kindOf ((p,w) :: P.zip vs) m x=_
  unfold bindL;exact EA (i:=i) (fF.mp nd).2 (by simpa using h1) (by simpa using h2) hk
theorem EC {kindOf:Str->Option IO} {x:Str} {v:Value}:∀{P:List Str} {vs:List Value} {i:Nat} {m:Str->Option Value},P.Nodup->P[i]?=some x->vs[i]?=some v->kindOf x≠some .local →
  bindC kindOf (P.zip vs) m x=some v
 | [],_,_,_,_,h,_,_=>by simp at h
 | _ :: _,[],_,_,_,_,h,_=>by simp at h
 | p :: P,w :: vs,0,m,nd,h1,h2,hk=>by
  simp at h1 h2;subst h1;subst h2;show bindC kindOf ((p,w) :: P.zip vs) m p=_
  unfold bindC;rw[EB λv hv=>(fF.mp nd).1 (RK hv).1,if_neg hk];simp
 | p :: P,w :: vs,i+1,m,nd,h1,h2,hk=>by
  show bindC kindOf ((p,w) :: P.zip vs) m x=_
  unfold bindC;exact EC (i:=i) (fF.mp nd).2 (by simpa using h1) (by simpa using h2) hk
def start (N:List Str) (vs:List V):St:=vs.map some++ce (N.9 - vs.9) none
def WN:List Str->List V->St
 | [],_=>[]
 | _ :: N,[]=>none :: WN N []
 | _ :: N,v :: vs=>some v :: WN N vs
theorem KR:∀{N:List Str} {vs:List V},vs.9<=N.9->start N vs=WN N vs
 | [],[],_=>rfl
 | [],_ :: _,h=>absurd h (Nat.not_succ_le_zero _)
 | _ :: N,[],_=>congrArg (none :: ·) (KR (N:=N) (vs:=[]) (a7 _))
 | _ :: N,v :: vs,h=>by
  show some v :: (vs.map some++ce (N.9+1 - (vs.9+1)) none)=some v :: WN N vs
  rw[Nat.add_sub_add_right,<- KR (Nat.le_of_succ_le_succ h)];rfl
def JY (CX:Rv) (P:Pi) (w:Uf) (K:FG9) (mg:Str->Option Value) (base:Heap) (N:List Str) (qual:Str) (scope:Scope) (f:Addr) (cd:Value) (A:Ix) (outer:List Env) (s:nw) (H:Hp) (E:XK):Cx where
 prog:=P
 w:=w
 K:=K
 mg:=mg
 base:=base
 A:=A.deeper (envOfC qual scope s.heap.objs.size f cd)
 N:=N
 s₀:=s
 H₀:=H
 env:=envOfC qual scope s.heap.objs.size f cd
 outer:=outer
 stack:=envOfC qual scope s.heap.objs.size f cd :: outer
 ex:=[]
 calm:=true
 fn:=λ_=>true
 pn:=[]
 xe:=λe s'=>wE (model P w) (A.deeper (envOfC qual scope s.heap.objs.size f cd)) (leaving (envOfC qual scope s.heap.objs.size f cd) e) (λ_ s''=>CX outer H s E e s'') (λe' s''=>CX outer H s E e' s'') s'
theorem J7 {sc:Scope} (h:sc.names.lookup x=some .cell):∃c,(GT n sc.names []).lookup x=some c:=by
 have q:=AM sc.names n [] (.inl h);exact WS.mp q
theorem Od {K:FG9} 
  (S:wg N ps scope) (hd:A.handled=none) (e0:Mm P w K mg base A outer s H) (hl:vs.9=ps.9) (r:c7 vs us)
  (x:InCallC s s.heap.objs.size (bindL (envOfC qual scope s.heap.objs.size f cd).kindOf (ps.zip us) λ_=>none) (GT (s.6+1) scope.names []) (bindC (envOfC qual scope s.heap.objs.size f cd).kindOf (ps.zip us) λ_=>none) s1) :
  Inv (JY CX P w K mg base N qual scope f cd A outer s H E) [] (start N vs) H s1:=by
 have hpl:ps.9<=N.9:=by have:=congrArg FS S.pre;rw[bP] at this;lia
 obtain h1|tk|rfl|hk:=x.done;have noA:∀b:Addr,b∉(JY CX P w K mg base N qual scope f cd A outer s H E).ex:=λb z=>absurd (show b∈([]:List Addr) from z) (by simp)
 refine #[#[e0.mod,S.kind,rfl,rfl,ah _,λy z c h1 h2=>?_,λy hy=>?_,λy c _ h=>?_,λ_=>hd,Ix.frames_deeper e0.frames,.inr #[rfl,rfl],λb z=>absurd z (noA b),e0.bs,e0.bsz,λb _ _=>noA b,λb z=>absurd z (noA b),e0.funs,e0.frf],
  rfl,e0.bare,Un.kept hk,#[_,x.toInCall.ns,λi y v h1 h2 h3=>?_],λy c h=>#[_,x.cell y c h],e0.hok.fresh (ah _),λy c h=>?_,λp hp=>absurd (show p∈([]:List (Addr×Obj)) from hp) (by simp),e0.hok.kept hk,?_]
 ·exact name_of_addr x.apart (nW h1) (nW h2)
 ·have hy:scope.names.lookup y=some .cell\/scope.names.lookup y=some .free:=hy;rcases hy with hy | hy
  ·exact J7 hy
  ·exact absurd rfl (S.nofree _ (nW hy))
 ·exact cA (x.above y c (nW h))
 ·have hi:i < vs.9:=by
   unfold start at h2;by_cases hi:i < vs.9
   ·exact hi
   ·rw[bc (by simpa using hi)] at h2;rw[cU] at h2
    split at h2 <;> cases h2
  have ha:vs[i]?=some v:=by
   unfold start at h2;rw[bF (by simpa using hi),aA] at h2;cases e:vs[i]? with
   | none=>rw[e] at h2;cases h2
   | some a=>rw[e] at h2;cases h2;rfl
  obtain u|hu|rv:=r.get ha
  have hp:ps[i]?=some y:=by
   rw[<- S.pre,ow ()];exact h1
  have ndP:ps.Nodup:=by rw[<- S.pre];exact S.nd.sublist (List.take_sublist _ _)
  refine #[u,rv,?_];rcases S.par y (ar hp) with k | k
  ·exact .inl #[k,EA ndP hp hu k]
  ·obtain c|e:=J7 (n:=s.6+1) k;refine .inr #[.inl k,c,e,?_];have q:=x.cell y c e;rw[EC ndP hp hu (by show scope.names.lookup y≠_;rw[k];decide)] at q;exact q
 ·exact e0.hok.fresh (cA (x.above y c (nW h)))
 ·unfold start;show _=N.9
  rw[ai,af,aI]
  lia
theorem Ye {K:FG9} {dV kV doc pm cdv ct oc:Value} 
 (lk:K.lookup f=some #[oc,od,.func (SZ name qual params body scope dV kV doc pm an cdv ct),osl]) (hcd:PySem.W.codeIn K cdv qual=true) (S:wg N ps scope)
  (len:∀vs H Q E,sp vs H Q E->vs.9=ps.9)
  (hbody:∀(A:Ix) (outer:List Env) (s:nw) (H:Hp) (vs:List V) (Q:VK) (E:XK),mO k (A.deeper (envOfC qual scope s.heap.objs.size f cdv))->sp vs H Q E →
   ∃t,KG (JY CX P w K mg base N qual scope f cdv A outer s H E) body t/\t { nx:=λ_ H'=>Q .non H',rt:=Q } (start N vs) H) :
  qW P w K mg base CX (k+1) f (SZ name qual params body scope dV kV doc pm an cdv ct) ps sp:=by
 refine #[len,λA outer s H args us vs Q E hr e0 hb r hsp=>?_];have hl:=len _ _ _ _ hsp;have KX:K.In s.8:=e0.mod.kin.keeps λb o e=>(e0.bs b o e).1
 have lim:s.heap.NoLimit:=e0.mod.nolimit.keeps λb o e=>(e0.bs b o e).1
 have hkind:∀y∈ps.zip us,scope.names.lookup y.1=some .local\/(scope.names.lookup y.1=some .cell/\((GT (s.6+1) scope.names []).lookup y.1).isSome=true):=λ#[n,v] hy=>by
  rcases S.par n (RK hy).1 with q | q
  ·exact .inl q
  ·exact .inr #[q,AM _ _ _ (.inl q)]
 refine codeAny_call_function hr.depth (KX _ _ lk) rfl S.co S.gen rfl (PySem.W.codeRec_of KX hcd) (hb _ _ _ _ ?_);refine wpAny_newFunctionEnv_cells S.kind hkind λenv he s1 x=>?_
 subst he;refine #[lim.keeps x.toInCall.keep,codeAny_func ?_];obtain t|ht|hq:=hbody A outer s H vs Q E (hr.deeper _) hsp;have I:Inv (JY CX P w K mg base N qual scope f cdv A outer s H E) [] (start N vs) H s1:=Od S hr.hd e0 hl r x;refine Zc (ht [] s1 (start N vs) H _ I hq) (λfl s' hs=>?_) λe s' hs=>hs
 have fin:∀{σ':St} {H':Hp} {v:V} {u:Value},Inv (JY CX P w K mg base N qual scope f cdv A outer s H E) [] σ' H' s'->RelV v u->Q v H'->CE outer P w H s Q u s' :=
  λ{σ' H' v u} J rv q=>#[v,H',J.os,J.bare,J.base,J.hok,rv,q]
 cases fl with
 | ret u =>
  obtain v|σ'|H'|J|rv|q:=hs;exact fin J rv q
 | next =>
  obtain σ'|H'|J|q:=hs;exact fin (v:=V.non) (u:=KM) J rfl q
 | brk =>
  obtain _|_|_|q:=hs;exact No q
 | cont =>
  obtain _|_|_|q:=hs;exact No q
section
variable {X:Cx} {x:Str} {p pos:Pos} {e:Expr} {es:List Expr} {t:TA} {id T:String} {r:List V->Hp->VK->Prop}
def YM (r:List V->Hp->VK->Prop) (t:TA):TE:=λσ H Q=>t σ H λvs H1=>r vs H1 Q
theorem bg (hc:pM X (.builtin id) r) (hg:Gl X x) (hm:X.mg x=none) (hv:XV x=some (.builtin id)) (ha:PA X (e :: es) t) (hn:x≠"__name__":=by decide) (hdb:(x == ("__debug__":Str))=false:=by decide)
  (he:r8 (e :: es) X.env=(false,eval e X.env) :: r8 es X.env:=by rfl) (hpl:(backTo pos (r8 es X.env)).any (·.1)=false:=by rfl):PE X (.Call (.Name x p) (e :: es) [] pos) (YM r t):=by
 intro pins s σ H Q I h;refine GM (mL I hg hm hv ?_ hn hdb);exact UV (iQ (ha pos pins s σ H _ I h) λus s1 #[vs,H1,I1,r1,q1]=>hc pins s1 σ H1 vs us Q I1 r1 q1) he hpl
theorem eJ (hc:pM X (.type T) r) (hg:Gl X x) (hm:X.mg x=none) (hv:XV x=some (.type T)) (ha:PA X (e :: es) t) (hn:x≠"__name__":=by decide) (hdb:(x == ("__debug__":Str))=false:=by decide)
  (he:r8 (e :: es) X.env=(false,eval e X.env) :: r8 es X.env:=by rfl) (hpl:(backTo pos (r8 es X.env)).any (·.1)=false:=by rfl):PE X (.Call (.Name x p) (e :: es) [] pos) (YM r t):=by
 intro pins s σ H Q I h;refine GM (mL I hg hm hv ?_ hn hdb);exact AC (iQ (ha pos pins s σ H _ I h) λus s1 #[vs,H1,I1,r1,q1]=>hc pins s1 σ H1 vs us Q I1 r1 q1) he hpl
end
end L2
namespace HT
open PySem PyProof.Rows
section
open PySem.SeqAt
open PySem.AutoSeq1 (wpAny_loadPart')
open PySem.MeetsSeq PySem.MeetsSeq2 PySem.MeetsSeq3
end
section
variable {prog:Pi} {w:Uf} {A:Ix} {E:Value->nw->Prop} {s:nw}
def IZ (n d:Nat):Option Int->Nat
 | none=>d
 | some v=>if v < 0 then (v+(n:Int)).toNat else min v.toNat n
theorem Bp (n d:Nat):IZ n d none=d:=rfl
theorem xP (n d k:Nat):IZ n d (some (k:Int))=min k n:=by
 show (if (k:Int) < 0 then ((k:Int)+(n:Int)).toNat else min (k:Int).toNat n)=min k n
 rw[if_neg (),Int.toNat_natCast]
end
end HT
namespace L2
open PySem PySem.Spec PyProof.Rows
abbrev TO:=St->Hp->(Option Int->Hp->Prop)->Prop
def PO (X:Cx) (e:Option Expr) (t:TO):Prop :=
 ∀(pins:List (Addr×Obj)) (s:nw) (σ:St) (H:Hp) (Q:Option Int->Hp->Prop),Inv X pins σ H s->t σ H Q →
  wE (model X.prog X.w) X.A (evalPart e X.env) (λu s'=>∃o H',Inv X pins σ H' s'/\IsPart u o/\Q o H') X.xe s
def Mn:TO:=λ_ H Q=>Q none H
def Uc (t:TE):TO:=λσ H Q=>t σ H λx H1=>∃i,x=.int i/\Q (some i) H1
theorem intsAre_of:∀{us:List Value},c7 (ns.map V.int) us->IntsAre us ns:=by
 induction ns with
 | nil=>intro us r;rw[Nh] at r;cases r;exact .nil
 | cons n ns ih =>
  intro us r;rw[gL] at r;cases r with
  | cons r1 r2 =>
   obtain t|e:=r1;subst e;exact .cons n t (ih r2)
section
variable {X:Cx} {e:Expr} {te:TE} {lo hi:Option Expr} {tl th:TO} {pos p2:Pos}
theorem xV:PO X none Mn:=by
 intro pins s σ H Q I h;rw[evalPart_none];exact pi #[none,H,I,.none,h]
theorem sW (h:PE X e te):PO X (some e) (Uc te):=by
 intro pins s σ H Q I hw;rw[evalPart_some];refine iQ (h pins s σ H _ I hw) λu s1 #[x,H1,I1,r1,q1]=>?_
 obtain i|rfl|q:=q1;obtain t|rfl:=r1;exact #[some i,H1,I1,.int i t,q]
def YE (X:Cx) (r:V->Option Int->Option Int->Hp->VK->Prop):Prop :=
 ∀(pins:List (Addr×Obj)) (s:nw) (σ:St) (H:Hp) (x:V) (v vl vu:Value) (lo hi:Option Int) (sl:Addr) (Q:VK),Inv X pins σ H s->RelV x v->s.heap.IsSliceOf sl vl vu .none->IsPart vl lo->IsPart vu hi->r x lo hi H Q →
  ∃T id,typeLookup (.type T) "__getitem__"=pure (some (.builtin id))/\s.TypeIs v T/\wE (model X.prog X.w) X.A (getItem v (.ref sl)) (EP X pins σ Q) X.xe s
def tSl (r:V->Option Int->Option Int->Hp->VK->Prop) (te:TE) (tl th:TO):TE:=λσ H Q=>te σ H λx H1=>tl σ H1 λl H2=>th σ H2 λu H3=>r x l u H3 Q
theorem rh (hr:YE X r) (he:PE X e te) (hl:PO X lo tl) (hu:PO X hi th):PE X (.Subscript e (.Slice lo hi none p2) pos) (tSl r te tl th):=by
 intro pins s σ H Q I h;refine Subscript_ (iQ (he pins s σ H _ I h) λv s1 #[x,H1,I1,r1,q1]=>?_);refine wpAny_Slice (iQ (hl pins s1 σ H1 _ I1 q1) λvl s2 #[l,H2,I2,pl,q2]=>iQ (hu pins s2 σ H2 _ I2 q2) λvu s3 #[u,H3,I3,pu,q3]=>?_);rw[evalPart_none];refine pi ?_;have I4:Inv X pins σ H3 { s3 with heap:=s3.heap.push { cls:=.type "slice",data:=.fields [vl,vu,.none].toArray } }:=I3.kept (t':=s3.toks) λb ob q=>io _ q
 obtain T|id|hT|ht|hg:=hr pins { s3 with heap:=s3.heap.push { cls:=.type "slice",data:=.fields [vl,vu,.none].toArray } } σ H3 x v vl vu l u s3.heap.objs.size Q I4 r1 (Heap.IsSliceOf.new ..) pl pu q3;show wE (model X.prog X.w) X.A (subscriptTail e (.Slice lo hi none p2) v (.ref s3.6)) (EP X pins σ Q) X.xe { s3 with heap:=s3.heap.push { cls:=.type "slice",data:=.fields [vl,vu,.none].toArray } }
 exact tail_any (ops:=[.ref s3.6,v]) ht hT hg (by with_unfolding_all rfl)
def uu (xs:List V) (lo hi:Option Int):List V:=(xs.drop (HT.IZ xs.9 0 lo)).take (HT.IZ xs.9 xs.9 hi - HT.IZ xs.9 0 lo)
theorem zV (xs:List V) (lo hi:Option Int):(uu xs lo hi).9<=xs.9:=by
 unfold uu;rw[bP,rJ]
 lia
end
def OT (n:Nat) (i:Int):Option Nat:=if 0<=i then (if i < n then some i.toNat else none) else if -(n:Int)<=i then some (i+n).toNat else none
def LZ {α:Type} (xs:List α) (i:Int):Option α:=(OT xs.9 i).bind λj=>xs[j]?
theorem MT (h:OT n i=some j):seqIndex? i n=some j/\j < n/\-(n:Int)<=i/\i < n:=by
 unfold OT at h;by_cases h0:0<=i
 ·rw[if_pos h0] at h;by_cases h1:i < n
  ·rw[if_pos h1] at h;have e:i.toNat=j:=bY h;exact #[by rw[seqIndex_of h0 h1,e],(),(),h1]
  ·rw[if_neg h1] at h;cases h
 ·rw[if_neg h0] at h;by_cases h1:-(n:Int)<=i
  ·rw[if_pos h1] at h;have e:(i+n).toNat=j:=bY h;exact #[by rw[seqIndex_neg () h1,e],(),h1,()]
  ·rw[if_neg h1] at h;cases h
theorem Ho {xs:List α} {v:α} (h:LZ xs i=some v):∃j,seqIndex? i xs.9=some j/\xs[j]?=some v/\j < xs.9/\-(xs.9:Int)<=i/\i < xs.9:=by
 unfold LZ at h;cases e:OT xs.9 i with
 | none=>rw[e] at h;cases h
 | some j =>
  rw[e] at h;obtain h1|h2|h3|h4:=MT e;exact #[j,h1,h,h2,h3,h4]
theorem eG {xs:List α} {j:Nat} {v:α} (h:xs[j]?=some v):LZ xs (j:Int)=some v:=by
 have hj:j < xs.9:=(aF.mp h).1
 have e:OT xs.9 (j:Int)=some j:=by
  unfold OT;rw[if_pos (),if_pos ()];simp
 unfold LZ;rw[e];exact h
theorem vL (xs:List α) (v:α):LZ (xs++[v]) (-1)=some v:=by
 have hl:(xs++[v]).9=xs.9+1:=by simp
 have e:OT (xs++[v]).9 (-1)=some xs.9:=by
  unfold OT;rw[hl,if_neg (),if_pos ()];congr 1
  lia
 unfold LZ;rw[e];show (xs++[v])[xs.9]?=some v
 simp
def TY (b:Expr):Prop:=∀o i,subscripted b false o i=operate [o,i] (getItem o i)
def Yr (X:Cx) (r:R2):Prop :=
 ∀(value slice:Expr) (pins:List (Addr×Obj)) (s:nw) (σ:St) (H:Hp) (x y:V) (v u:Value) (Q:VK),Inv X pins σ H s->RelV x v->RelV y u->r x y H Q →
  subscripted slice false v u=operate [v,u] (getItem v u)->wE (model X.prog X.w) X.A (subscriptTail value slice v u) (EP X pins σ Q) X.xe s
def MtR (X:Cx) (id:String) (r:V->List V->Hp->VK->Prop):Prop :=
 ∀(pins:List (Addr×Obj)) (s:nw) (σ:St) (H:Hp) (x:V) (xs:List V) (v:Value) (us:List Value) (Q:VK),Inv X pins σ H s->RelV x v->c7 xs us->r x xs H Q →
  wE (model X.prog X.w) X.A (call (.builtin id) (v :: us)) (EP X pins σ Q) X.xe s
section
variable {X:Cx} {a b:Expr} {ta tb:TE} {pos:Pos}
theorem aY {r:R2} (hr:Yr X r) (ha:PE X a ta) (hb:PE X b tb) (hs:TY b:=by intro _ _;rfl):PE X (.Subscript a b pos) (W6 r ta tb):=by
 intro pins s σ H Q I h;exact Subscript_ (Wo ha hb I h λv u s2 x y H2 I2 rx ry q=>hr a b pins s2 σ H2 x y v u Q I2 rx ry q (hs _ _))
def VH (K:FG9):R2:=λx y H Q=>∃p xs i v,x=.ref p/\y=.int i/\bI K H p xs/\LZ xs i=some v/\Q v H
def VG (K:FG9):R2:=λx y H Q=>∃p xs i v,x=.ref p/\y=.int i/\jN K H p xs/\LZ xs i=some v/\Q v H
theorem bV:Yr X (VH X.K):=by
 intro value slice pins s σ H x y v u Q I rx ry h hs;obtain p|xs|i|z|rfl|rfl|hq|he|q:=h;cases rx;obtain t|rfl:=ry;obtain its|r|pl|hz:=I.list hq;obtain j|h1|h2|h3|h4|h5:=Ho he;obtain w|ew|rw':=r.get h2;have hl:=r.9;have hn:=BV;have fin:EP X pins σ Q w s:=#[z,H,I,rw',q];by_cases h0:0<=i
 ·have hj:i.toNat=j:=by
   rw[seqIndex_of h0 h5] at h1;exact bY h1
  exact item_listR pl.isList h0 () (by rw[hj];simpa using ew) fin hs
 ·have hj:(i+(its.5.7:Int)).toNat=j:=by
   rw[seqIndex_neg () h4] at h1;rw[aG,<- hl];exact bY h1
  exact subscriptTail_builtinR (x:=w) pl.isList.typeIs slot_list_getitem.lookup
   (wpAny_getItem_list_neg (Q:=λr s'=>r=w/\EP X pins σ Q r s') pl.isList () (by rw[aG] <;> lia) () (by rw[hj];simpa using ew) #[rfl,fin]) hs
theorem bH:Yr X (VG X.K):=by
 intro value slice pins s σ H x y v u Q I rx ry h hs;obtain p|xs|i|z|rfl|rfl|hq|he|q:=h;cases rx;obtain t|rfl:=ry;obtain its|r|pl|hz:=I.tuple hq;obtain j|h1|h2|h3|h4|h5:=Ho he;obtain w|ew|rw':=r.get h2;have hl:=r.9;have hn:=BV;have fin:EP X pins σ Q w s:=#[z,H,I,rw',q]
 exact subscriptTail_builtinR (x:=w) pl.typeIs Sc.lookup
  (getItem_tuple (j:=j) (Q:=λr s'=>r=w/\EP X pins σ Q r s') pl () () (by rw[aG,<- hl];exact h1) (by simpa using ew) #[rfl,fin]) hs
theorem Lo (its:List Value) (n j:Nat) (u:Value):Do (·.setIfInBounds j u) { cls:=.type "list",data:=.seq its.toArray n }={ cls:=.type "list",data:=.seq (its.set j u).toArray n }:=by
 simp [Do]
theorem Inv.lst {pins:List (Addr×Obj)} {σ:St} {H:Hp} {s:nw} {p:Addr} {xs:List V} (I:Inv X pins σ H s) (h:H p=some (.lst xs)) :
  ∃(its:List Value) (n:Nat),c7 xs its/\s.heap.get? p=some { cls:=.type "list",data:=.seq its.toArray n }/\xs.9<=ww:=by
 obtain z|its|n|r|e:=I.hok p _ h;exact #[its,n,r,e,z]
theorem Inv.lstUpd {σ:St} {its its':List Value} (I:Inv X pins σ H s) (h:H p=some (.lst xs))
  (ho:s.heap.get? p=some { cls:=.type "list",data:=.seq its.toArray n }) (hf:f { cls:=.type "list",data:=.seq its.toArray n }={ cls:=.type "list",data:=.seq its'.toArray n' }) (r:c7 ys its') (hz:ys.9<=ww) (t:Nat) :
  Inv X pins σ (upd H p (.lst ys)) { s with heap:=s.heap.update p f,toks:=t }:=by
 have e:(s.heap.update p f).get? p=some { cls:=.type "list",data:=.seq its'.toArray n' }:=by
  rw[Heap.get?_update_self f ho (by rw[hf] <;> rfl),hf]
 refine I.write (x:=p) (e:=p) (by rw[h];trivial) (.inl rfl) (λb u hb q=>(Cl _ _ (SL hb)).trans q) #[_,e] ?_;exact #[hz,its',n',r,e]
def Ut:V->V->V->Hp->(Hp->Prop)->Prop:=λo i v H Q=>∃p xs k j,o=.ref p/\i=.int k/\H p=some (.lst xs)/\OT xs.9 k=some j/\Q (upd H p (.lst (xs.set j v)))
theorem set_list:Wy X Ut:=by
 intro pins s σ H o i v ov iv u Q I ro ri rv h;obtain p|xs|k|j|rfl|rfl|hp|hj|q:=h;cases ro;obtain t|rfl:=ri;obtain its|n|r|ho|hz:=I.lst hp;obtain h1|h2|h3|h4:=MT hj;have hl:=r.9;have hn:=BV
 have I':Inv X pins σ (upd H p (.lst (xs.set j v))) { s with heap:=s.heap.update p (Do (·.setIfInBounds j u)) } :=
  I.lstUpd hp ho (Lo its n j u) (r.set rv j) (by rw[d5];exact hz) s.toks
 by_cases h0:0<=k
 ·have hk:k.toNat=j:=by
   rw[seqIndex_of h0 h4] at h1;exact bY h1
  exact PySem.W.ki_setAt ho h0 () (by rw[aG,<- hl];exact h4) (by rw[hk];exact #[_,I',q])
 ·have hk:(k+(its.5.7:Int)).toNat=j:=by
   rw[seqIndex_neg () h3] at h1;rw[aG,<- hl];exact bY h1
  exact PySem.W.ki_setBack ho () (by rw[aG,<- hl];exact h3) () (by rw[hk];exact #[_,I',q])
theorem E3 (lo hi:Option Int) (n:Nat):(Zs lo hi none n).1=((HT.IZ n 0 lo:Nat):Int)/\(Zs lo hi none n).2.1=((HT.IZ n n hi:Nat):Int)/\(Zs lo hi none n).2.2=1:=by
 refine #[?_,?_,rfl]
 ·cases lo with
  | none=>simp [Zs,HT.IZ]
  | some i =>
   simp only[Zs,HT.IZ,Option.getD_none,show (1:Int) > 0 by decide,if_true];by_cases h:i < 0
   ·simp only[h,if_true] <;> lia
   ·simp only[h,if_false] <;> lia
 ·cases hi with
  | none=>simp [Zs,HT.IZ]
  | some i =>
   simp only[Zs,HT.IZ,Option.getD_none,show (1:Int) > 0 by decide,if_true];by_cases h:i < 0
   ·simp only[h,if_true] <;> lia
   ·simp only[h,if_false] <;> lia
theorem Cw (its:List Value) (lo hi:Option Int):slicePick its.toArray lo hi none=((its.drop (HT.IZ its.9 0 lo)).take (HT.IZ its.9 its.9 hi - HT.IZ its.9 0 lo)).5:=by
 obtain h1|h2|h3:=E3 lo hi its.5.7;unfold slicePick;rw[h1,h2,h3];simp only[sliceRange_one,pick_run,aG] <;> rfl
def VE (K:FG9):V->Option Int->Option Int->Hp->VK->Prop:=λx lo hi H Q=>∃a xs,x=.ref a/\bI K H a xs/\∀p,H p=none->Q (.ref p) (upd H p (.lst (uu xs lo hi)))
theorem E4:YE X (VE X.K):=by
 intro pins s σ H x v vl vu lo hi sl Q I rx hs pl pu h;obtain a|xs|rfl|hx|q:=h;cases rx;obtain its|r|ht|hz:=I.list hx;have hlen:=r.9;refine #["list",_,slot_list_getitem.lookup,ht.isList.typeIs,?_];refine wpAny_getItem_list_slice ht.isList hs pl pu .none (by simp) ?_ (by rw[aG] <;> lia);rw[Cw,<- hlen];refine #[.ref s.6,_,I.laid (t':=s.toks) (o:=.lst (uu xs lo hi)) (λb ob q=>io _ q) (ah _) ?_,rfl,q _ (I.hok.fresh (ah _))];exact #[ag (zV xs lo hi) hz,_,0,(r.drop (HT.IZ xs.9 0 lo)).take (HT.IZ xs.9 xs.9 hi - HT.IZ xs.9 0 lo),At _ rfl]
def rB:V->Bool
 | .non=>true
 | .bl _=>true
 | .int _=>true
 | .str _=>true
 | _=>false
def UJ:V->V->Bool
 | .non,.non=>true
 | .bl a,.bl b=>a == b
 | .bl a,.int b=>(if a then 1 else 0) == b
 | .int a,.bl b=>a == (if b then 1 else 0)
 | .int a,.int b=>a == b
 | .str a,.str b=>a == b
 | _,_=>false
theorem Wh (ry:RelV y u) (rx:RelV x v) (fy:rB y=true) (fx:rB x=true):Ch A s u v (UJ y x):=by
 cases y with
 | non =>
  cases ry;cases x with
  | non=>cases rx;exact Zn _
  | bl b=>cases rx;exact Ch.none_bool b
  | int b=>obtain t|rfl:=rx;exact Ch.none_int b t
  | str b=>obtain t|rfl:=rx;exact Ch.none_str b t
  | _=>exact absurd (show false=true from fx) bh
 | bl a =>
  cases ry;cases x with
  | non=>cases rx;exact Ch.bool_none a
  | bl b=>cases rx;exact Ch.bool_bool a b
  | int b=>obtain t|rfl:=rx;exact Ch.bool_int a b t
  | str b=>obtain t|rfl:=rx;exact Ch.bool_str a b t
  | _=>exact absurd (show false=true from fx) bh
 | int a =>
  obtain t'|rfl:=ry;cases x with
  | non=>cases rx;exact Ch.int_none a t'
  | bl b=>cases rx;exact Ch.int_bool a t' b
  | int b=>obtain t|rfl:=rx;exact Ch.int_int a t' b t
  | str b=>obtain t|rfl:=rx;exact Ch.int_str a t' b t
  | _=>exact absurd (show false=true from fx) bh
 | str a =>
  obtain t'|rfl:=ry;cases x with
  | non=>cases rx;exact Ch.str_none a t'
  | bl b=>cases rx;exact Ch.str_bool a t' b
  | int b=>obtain t|rfl:=rx;exact Ch.str_int a t' b t
  | str b=>obtain t|rfl:=rx;exact Ch.str_str a t' b t
  | _=>exact absurd (show false=true from fx) bh
 | _=>exact absurd (show false=true from fy) bh
def LJ (x:V) (u:Value):Bool:=match u with
 | .none=>UJ .non x
 | .bool b=>UJ (.bl b) x
 | .int i _=>UJ (.int i) x
 | .str z _=>UJ (.str z) x
 | _=>false
theorem QR (r:RelV y u) (f:rB y=true):LJ x u=UJ y x:=by
 cases y with
 | non=>cases r;rfl
 | bl b=>cases r;rfl
 | int i=>obtain t|rfl:=r;rfl
 | str z=>obtain t|rfl:=r;rfl
 | _=>exact absurd (show false=true from f) bh
theorem yw {x:V}:∀{xs:List V} {us:List Value},c7 xs us->xs.all rB=true->us.any (LJ x)=xs.any λy=>UJ y x
 | _,_,.nil,_=>rfl
 | y :: xs,u :: us,.cons r t,f=>by
  rw[KE,eT] at f;rw[List.any_cons,List.any_cons,QR r f.1,yw t f.2]
theorem vB {A:Ix} {s:nw} {x:V} {v:Value} (rx:RelV x v) (fx:rB x=true):∀{xs:List V} {us:List Value},c7 xs us->xs.all rB=true->∀u∈us,Ch A s u v (LJ x u)
 | _,_,.nil,_=>λu hu=>by cases hu
 | y :: xs,u :: us,.cons r t,f=>λu' hu=>by
  rw[KE,eT] at f;rcases aJ.mp hu with rfl | hu
  ·rw[QR r f.1];exact Wh r rx f.1 fx
  ·exact vB rx fx t f.2 u' hu
def YC (x:V) (xs:List V):Bool:=xs.any λy=>UJ y x
def YT (K:FG9) (neg:Bool):R2:=λx y H Q=>∃p xs,y=.ref p/\(bI K H p xs\/jN K H p xs)/\rB x=true/\xs.all rB=true/\Q (.bl (if neg then !YC x xs else YC x xs)) H
theorem NQ:yD X (NE .In) (YT X.K false):=by
 intro pins s σ H x y v u Q I rx ry h;obtain p|xs|rfl|hq|fx|fs|q:=h;cases ry;rcases hq with hq | hq
 ·obtain its|r|pl|hz:=I.list hq;refine SeqAt.in_listAt (LJ x) pl.isList (λw hw=>vB rx fx r fs w (by simpa using hw)) #[.bl _,H,I,rfl,?_];rw[show its.toArray.any (LJ x)=its.any (LJ x) by simp,yw r fs];exact q
 ·obtain its|r|pl|hz:=I.tuple hq;refine SeqAt.in_tupleAt (LJ x) pl (λw hw=>vB rx fx r fs w (by simpa using hw)) #[.bl _,H,I,rfl,?_];rw[show its.toArray.any (LJ x)=its.any (LJ x) by simp,yw r fs];exact q
theorem Fw:yD X (NE .NotIn) (YT X.K true):=by
 intro pins s σ H x y v u Q I rx ry h;obtain p|xs|rfl|hq|fx|fs|q:=h;cases ry;rcases hq with hq | hq
 ·obtain its|r|pl|hz:=I.list hq;refine SeqAt.notIn_listAt (LJ x) pl.isList (λw hw=>vB rx fx r fs w (by simpa using hw)) #[.bl _,H,I,rfl,?_];rw[show its.toArray.any (LJ x)=its.any (LJ x) by simp,yw r fs];exact q
 ·obtain its|r|pl|hz:=I.tuple hq;refine SeqAt.notIn_tupleAt (LJ x) pl (λw hw=>vB rx fx r fs w (by simpa using hw)) #[.bl _,H,I,rfl,?_];rw[show its.toArray.any (LJ x)=its.any (LJ x) by simp,yw r fs];exact q
theorem aU:pM X (.builtin "len") (λxs H Q=>∃p ys,xs=[.ref p]/\(bI X.K H p ys\/jN X.K H p ys)/\Q (.int ys.9) H):=by
 intro pins s σ H xs us Q I r h;obtain p|ys|rfl|hq|q:=h;obtain u|rfl|rx:=vals1 r;cases rx;have hn:=BV;rcases hq with hq | hq
 ·obtain its|r'|pl|hz:=I.list hq;have hlen:=r'.9;exact Calls.call_len_list pl.isList (by simp only[aG] <;> lia) #[.int ys.9,H,I.tok _,#[s.toks+1,by rw[aG,hlen]],q]
 ·obtain its|r'|pl|hz:=I.tuple hq;have hlen:=r'.9;exact len_tuple pl (by simp only[aG] <;> lia) #[.int ys.9,H,I.tok _,#[s.toks+1,by rw[aG,hlen]],q]
theorem tQ:pM X (.type "list") (λxs H Q=>∃p ys,xs=[.ref p]/\(bI X.K H p ys\/jN X.K H p ys)/\∀l,H l=none->Q (.ref l) (upd H l (.lst ys))):=by
 intro pins s σ H xs us Q I r h;obtain p|ys|rfl|hq|q:=h;obtain u|rfl|rx:=vals1 r;cases rx
 have fin:∀(its:List Value),c7 ys its->ys.9<=ww->∀(h':Heap) (c':Nat),(∀b o',s.heap.get? b=some o'->h'.get? b=some o') →
   h'.get? s.6=some { cls:=.type "list",dict:=none,data:=.seq its.toArray c',slots:=[].toArray }->EP X pins σ Q (.ref s.6) { s with heap:=h' }:=λits r' hz h' c' kp e =>
  #[.ref s.6,_,I.laid (t':=s.toks) kp (ah _) (show iB X.prog X.w _ h' _ (.lst ys) from #[hz,its,c',r',e]),rfl,q _ (I.hok.fresh (ah _))]
 rcases hq with hq | hq
 ·obtain its|r'|pl|hz:=I.list hq;have hlen:=r'.9;obtain o|ho|hc|n|hd:=pl.isList;exact call_list_seq p (.inl rfl) ho hc hd (λh' c' kp e=>fin its r' hz h' c' kp e) (by simp only[aG] <;> lia)
 ·obtain its|r'|pl|hz:=I.tuple hq;have hlen:=r'.9;obtain o|ho|hc|n|hd:=pl;exact call_list_seq p (.inr rfl) ho hc hd (λh' c' kp e=>fin its r' hz h' c' kp e) (by simp only[aG] <;> lia)
theorem Dd:pM X (.type "tuple") (λxs H Q=>∃p ys,xs=[.ref p]/\((bI X.K H p ys/\∀l,H l=none->Q (.ref l) (upd H l (.tup ys)))\/(jN X.K H p ys/\Q (.ref p) H))):=by
 intro pins s σ H xs us Q I r h;obtain p|ys|rfl|h:=h;obtain u|rfl|rx:=vals1 r;cases rx;rcases h with ⟨hq,q⟩ | ⟨hq,q⟩
 ·obtain its|r'|pl|hz:=I.list hq;have hlen:=r'.9;refine call_tuple_list pl.isList (λh' kp=>?_) (by simp only[aG] <;> lia);have I1:Inv X pins σ H { s with heap:=h' }:=I.kept (t':=s.toks) kp
  have I2:Inv X pins σ (upd H h'.objs.size (.tup ys)) { s with heap:=h'.push { cls:=.type "tuple",data:=.seq its.5 } } :=
   I1.laid (t':=s.toks) (λb o e=>io _ e) (ah _) (show iB X.prog X.w _ _ _ (.tup ys) from #[hz,its,r',IsTup.new _ _])
  exact #[.ref h'.objs.7,_,I2,rfl,q _ (I1.hok.fresh (ah _))]
 ·obtain its|r'|pl|hz:=I.tuple hq;exact call_tuple_same pl #[.ref p,H,I,rfl,q]
def YL (K:FG9) (T:String) (x:V) (H:Hp):Prop:=match x with
 | .str _=>T="str"
 | .int _=>T="int"
 | .ref p=>(T="list"/\∃xs,bI K H p xs)\/(T="tuple"/\∃o,K.lookup p=some o/\o.cls=.type "tuple"/\o.dict=none) \/
   (T="dict"/\((∃kvs,H p=some (.dK kvs))\/∃kvs,H p=some (.dT kvs)))\/(T="set"/\∃S n,H p=some (.set S n))
 | _=>False
theorem UW {σ:St} (I:Inv X pins σ H s) (r:RelV x v) (ty:YL X.K T x H) :
  s.TypeIs v T/\∀a,v=.ref a->∃ob,s.heap.get? a=some ob/\ob.dict=none:=by
 cases x with
 | str z =>
  obtain t|rfl:=r;cases (show T="str" from ty);exact #[typeIs_str s z t,λ_ e=>nomatch e]
 | int i =>
  obtain t|rfl:=r;cases (show T="int" from ty);exact #[typeIs_int s i t,λ_ e=>nomatch e]
 | ref p =>
  cases r;rcases ty with ⟨rfl,xs,hq⟩ | ⟨rfl,o,hk,hc,hd⟩ | ⟨rfl,hk⟩ | ⟨rfl,S,n,hk⟩
  ·obtain its|_|pl|_:=I.list hq;refine #[pl.isList.typeIs,λa e=>?_];cases e;obtain o|n|e|c|hd|_:=pl;exact #[o,e,hd]
  ·refine #[#[o,I.kIn p o hk,hc],λa e=>?_];cases e;exact #[o,I.kIn _ o hk,hd]
  ·have z:∃o,s.heap.get? p=some o/\o.ExactDict:=by
    rcases hk with ⟨kvs,hk⟩ | ⟨kvs,hk⟩
    ·obtain _|_|_|_|o|_|_|e|ex|_:=I.hok p _ hk;exact #[o,e,ex]
    ·obtain _|_|_|_|o|_|_|e|ex|_:=I.hok p _ hk;exact #[o,e,ex]
   obtain o|e|ex:=z;refine #[#[o,e,ex.1],λa e2=>?_];cases e2;exact #[o,e,ex.2.1]
  ·obtain o|_|_|_|e|ex|_:=I.hok p _ hk;refine #[#[o,e,ex.1],λa e2=>?_];cases e2;exact #[o,e,ex.2.1]
 | _=>exact No ty
def tBM (K:FG9) (T:String) (r:V->List V->Hp->VK->Prop) (to:TE) (t:TA):TE:=λσ H Q=>to σ H λx H1=>YL K T x H1/\t σ H1 λxs H2=>r x xs H2 Q
variable {o e:Expr} {es:List Expr} {to:TE} {t:TA} {name:Str} {apos cpos:Pos} {T id:String} {r:V->List V->Hp->VK->Prop}
theorem wH (pa:PlainAttrs T) (slot:Slot T name id) (hty:typeOf (.builtin id)=pure (.type "method_descriptor")) (hm:MtR X id r) (ho:PE X o to) (ha:PA X (e :: es) t)
  (hbase:attributeBase o name X.env (eval o X.env)=eval o X.env:=by rfl)
  (hfew:((backTo cpos (r8 (e :: es) X.env)).all (λx=>!x.1) && (backToKw cpos (keywordEach [] X.env)).all (λx=>x.1.isSome)
   && decide ((e :: es).9+([]:List Keyword).9+(if ([]:List Keyword).isEmpty then 0 else 1) < 30))=true:=by rfl)
  (hline:(apos.endLine == cpos.line)=true:=by rfl) (hs:r8 (e :: es) X.env=(false,eval e X.env) :: r8 es X.env:=by rfl) (hplain:(backTo cpos (r8 es X.env)).any (·.1)=false:=by rfl) :
  PE X (.Call (.Attribute o name apos) (e :: es) [] cpos) (tBM X.K T r to t):=by
 intro pins s σ H Q I h;refine wpAny_Call_method_late hbase hfew hline rfl (iQ (ho pins s σ H _ I h) λv s1 #[x,H1,I1,r1,ty,q1]=>?_);obtain h1|h2:=UW I1 r1 ty;refine #[T,id,pa,slot,hty,h1,h2,?_];have hA:=ha cpos pins s1 σ H1 _ I1 q1;rw[hs] at hA ⊢;refine Calls.callWith_builtin (by show (false || (backTo cpos (r8 es X.env)).any (·.1))=false;rw[hplain] <;> rfl) (Calls.evalArgs_plain ?_);exact iQ hA λus s2 ⟨vs,H2,I2,r2,q2⟩=>hm pins s2 σ H2 x vs v us Q I2 r1 r2 q2
end
def Za (X:Cx) (id:String) (r:V->List V->Hp->VK->Prop):Prop :=
 ∀(pins:List (Addr×Obj)) (s:nw) (σ:St) (H:Hp) (x:V) (xs:List V) (v:Value) (us:List Value) (Q:VK),Inv X pins σ H s->RelV x v->c7 xs us->r x xs H Q →
  wE (model X.prog X.w) X.A (call (.builtin id) (v :: us)) (EP X pins σ Q) X.xe s
theorem c7.one:∀{x:V} {us:List Value},c7 [x] us->∃u,us=[u]/\RelV x u
 | _,_,.cons r .nil=>#[_,rfl,r]
theorem c7.eraseIdx:∀{xs:List V} {us:List Value} (i:Nat),c7 xs us->c7 (xs.eraseIdx i) (us.eraseIdx i)
 | _,_,_,.nil=>.nil
 | _,_,0,.cons _ t=>t
 | _,_,i+1,.cons r t=>.cons r (c7.eraseIdx i t)
theorem c7.rep {xs:List V} {us:List Value} (h:c7 xs us):∀k:Nat,c7 (ce k xs).flatten (ce k us).flatten
 | 0=>.nil
 | k+1=>by
  rw[jL,jL,gW,gW];exact c7.append h (c7.rep h k)
theorem Ef {α:Type}:∀(l:List α) (i:Nat),(l.eraseIdx i).9<=l.9
 | [],_=>ah _
 | _ :: _,0=>md _
 | _ :: r,i+1=>d9 (Ef r i)
theorem foldl_rep (its:List Value):∀(k:Nat) (acc:List Value),
  List.foldl (λx1 x2=>x1++x2) acc.toArray (ce k its.5)=(acc++(ce k its).flatten).5
 | 0,acc=>by simp
 | k+1,acc=>by
  have e:acc.5++its.5=(acc++its).5:=by simp
  have e2:(acc++its)++(ce k its).flatten=acc++(ce (k+1) its).flatten:=by
   rw[jL,gW,cF]
  rw[<- e2,<- foldl_rep its k (acc++its),<- e,jL,List.foldl_cons]
section
variable {σ:St}
theorem Inv.lset {its its':List Value} (I:Inv X pins σ H s) (hH:H l=some (.lst xs))
  (e:s.heap.get? l=some { cls:=.type "list",data:=.seq its.toArray n }) (hf:f its.5=its'.5) (hv:c7 ys its') (hz:ys.9<=ww) :
  Inv X pins σ (upd H l (.lst ys)) { s with heap:=s.heap.update l (Do f),toks:=t' }:=by
 have q:=nJ e f;rw[hf] at q;refine I.write (x:=l) (e:=l) (by rw[hH];exact trivial) (.inl rfl) (λb' u hb hu=>(Cl s.heap (Do f) (SL hb)).trans hu) #[_,q] ?_;exact #[hz,its',_,hv,q]
theorem Inv.lnew (I:Inv X pins σ H s) (hv:c7 ys its) (hz:ys.9<=ww) :
  Inv X pins σ (upd H s.heap.objs.size (.lst ys)) { s with heap:=s.heap.push { cls:=.type "list",data:=.seq its.5 },toks:=t' } :=
 I.laid (λ_ _ q=>io _ q) (ah _) #[hz,its,0,hv,At _ rfl]
theorem Inv.fresh (I:Inv X pins σ H s):H s.6=none:=I.hok.fresh (ah _)
theorem Inv.lstM (I:Inv X pins σ H s) (hH:H l=some (.lst xs)):xs.9<=ww/\∃(its:List Value) (n:Nat),c7 xs its/\xs.9=its.9/\s.heap.get? l=some { cls:=.type "list",data:=.seq its.toArray n }:=by
 obtain z|its|n|r|e:=I.hok l _ hH;exact #[z,its,n,r,r.9,e]
theorem Jm (h:n<=ww):TD n=false:=by
 unfold TD;exact decide_eq_false ()
end
section
variable {X:Cx}
def MB:V->List V->Hp->VK->Prop:=λx vs H Q=>∃l xs y,x=.ref l/\vs=[y]/\H l=some (.lst xs)/\xs.9 < ww/\Q .non (upd H l (.lst (xs++[y])))
theorem kD:Za X "list.append" MB:=by
 intro pins s σ H x vs v us Q I rx rv h;obtain l|xs|y|rfl|rfl|hH|hz|q:=h;cases rx;obtain u|rfl|ru:=rv.one;obtain z|its|n|r|hl|e:=I.lstM hH;refine call_meets F.slot_list_append #[_,e,rfl] F.entry_list_append (F.args_list_append_2 _ _) (PySem.list_append l its.toArray n u (by rw[aG];lia)) #[e,?_];refine #[.non,_,I.lset (its':=its++[u]) hH e (by simp) (r.append (.cons ru .nil)) ?_,rfl,q];rw[ai,aT]
 lia
def S3:V->List V->Hp->VK->Prop:=λx vs H Q=>∃l b xs zs,x=.ref l/\vs=[.ref b]/\H l=some (.lst xs)/\H b=some (.lst zs)/\xs.9+zs.9<=ww/\Q .non (upd H l (.lst (xs++zs)))
theorem NW:Za X "list.extend" S3:=by
 intro pins s σ H x vs v us Q I rx rv h;obtain l|b|xs|zs|rfl|rfl|hH|hB|hz|q:=h;cases rx;obtain u|rfl|ru:=rv.one;cases ru;obtain z|its|n|r|hl|e:=I.lstM hH;obtain z2|its2|n2|r2|hl2|e2:=I.lstM hB;have hsz:its.5.7+its2.5.7<=ww:=by rw[aG,aG];lia
 have hlong:¬(!its.toArray.isEmpty && TD (its.5.7+its2.5.7))=true:=by
  rw[Jm hsz,Bool.and_false];exact bh
 refine call_meets F.slot_list_extend #[_,e,rfl] F.entry_list_extend (F.args_list_extend_2 _ _)
  (AutoSeq1.list_extend_list_list_0 l its.toArray n b its2.toArray n2 hlong (by rw[aG];lia) ()) #[e,e2,?_]
 refine #[.non,_,I.lset (its':=its++its2) hH e (by simp) (r.append r2) ?_,rfl,q];rw[ai]
 lia
def VF:V->List V->Hp->VK->Prop:=λx vs H Q=>∃l xs i k y,x=.ref l/\vs=[.int i]/\H l=some (.lst xs)/\-(2^63)<=i/\i < 2^63/\seqIndex? i xs.9=some k/\xs[k]?=some y/\Q y (upd H l (.lst (xs.eraseIdx k)))
theorem Qi:Za X "list.pop" VF:=by
 intro pins s σ H x vs v us Q I rx rv h;obtain l|xs|i|k|y|rfl|rfl|hH|h1|h2|hk|hy|q:=h;cases rx;obtain u|rfl|ru:=rv.one;obtain t|rfl:=ru;obtain z|its|n|r|hl|e:=I.lstM hH;obtain w|hw|rw':=r.get hy
 refine call_meets F.slot_list_pop #[_,e,rfl] F.entry_list_pop (F.args_list_pop_2 _ _)
  (MeetsSeq.list_pop_at l its.toArray n i t k w (fitsIndex_both h1 h2) (by rw[aG,<- hl];exact hk) (by rw[<- Array.getElem?_toList];exact hw) (by rw[aG];lia)) #[e,?_]
 refine #[y,_,I.lset (its':=its.eraseIdx k) hH e ?_ (r.eraseIdx k) ?_,rw',q]
 ·show its.toArray.eraseIdxIfInBounds k=(its.eraseIdx k).toArray
  rw[List.eraseIdxIfInBounds_toArray]
 ·have:=Ef xs k
  lia
def XR:R2:=λx y H Q=>∃l b xs zs,x=.ref l/\y=.ref b/\H l=some (.lst xs)/\H b=some (.lst zs)/\xs.9+zs.9<=ww/\∀p,H p=none->Q (.ref p) (upd H p (.lst (xs++zs)))
theorem jU:yD X (binaryOp .Add) XR:=by
 intro pins s σ H x y v u Q I rx ry h;obtain l|b|xs|zs|rfl|rfl|hH|hB|hz|q:=h;cases rx;cases ry;obtain z|its|n|r|hl|e:=I.lstM hH;obtain z2|its2|n2|r2|hl2|e2:=I.lstM hB;refine PySem.P.add_list e e2 ?_ (by rw[aG,aG];lia);have ea:its.5++its2.5=(its++its2).5:=by simp
 rw[ea];exact #[.ref _,_,I.lnew (t':=s.toks) (r.append r2) (by rw[ai];lia),rfl,q _ I.fresh]
def XJ:R2:=λx y H Q=>∃l k xs,x=.ref l/\y=.int k/\H l=some (.lst xs)/\-(2^63)<=k/\k < 2^63/\xs.9*k.toNat<=ww /\
 ∀p,H p=none->Q (.ref p) (upd H p (.lst (ce k.toNat xs).flatten))
theorem len_rep {α:Type} (xs:List α) (k:Nat):(ce k xs).flatten.length=k*xs.9:=by
 induction k with
 | zero=>simp
 | succ k ih=>rw[jL,gW,ai,ih,d7,qq]
theorem VO:yD X (binaryOp .Mult) XJ:=by
 intro pins s σ H x y v u Q I rx ry h;obtain l|k|xs|rfl|rfl|hH|h1|h2|hz|q:=h;cases rx;obtain t|rfl:=ry;obtain z|its|n|r|hl|e:=I.lstM hH;have hlen:its.5.7*k.toNat<=ww:=by rw[aG,<- hl];exact hz
 have hcap:¬its.5.7*k.toNat > (2^63 - 1) / 8:=by
  have:(ww:Nat)<=(2^63 - 1) / 8:=()
  lia
 have hfit:¬(!On.List.listFitsIndex k)=true:=by
  rw[fitsIndex_both h1 h2];exact bh
 have hlong:¬TD (its.5.7*k.toNat)=true:=by
  rw[Jm hlen];exact bh
 have hnew:List.foldl (λx1 x2=>x1++x2) [].toArray (ce (if its.toArray.isEmpty=true then 0 else k.toNat) its.5)=(ce k.toNat its).flatten.toArray:=by
  have f0:∀m:Nat,List.foldl (λx1 x2=>x1++x2) [].toArray (ce m its.5)=(ce m its).flatten.toArray:=λm=>by
   have:=foldl_rep its m [];rw[dA] at this;exact this
  rw[f0];cases its with
  | nil=>simp
  | cons a r'=>rw[if_neg (by simp)]
 refine wpAny_binaryOp_repeat_ref (T:="list") (U:="int") () #[_,e,rfl] (λs'=>typeIs_int s' k t) noFill_list_mul F.fills_int_mul F.slot_int_rmul repeat_list F.slot_int_index.lookup
  (call_meets F.slot_int_rmul (typeIs_int s k t) F.entry_int_rmul (F.args_int_rmul_2 _ _) (int___rmul___int_list k t l its.toArray n)
   #[e,rfl,#[_,e,rfl],call_meets F.slot_list_mul #[_,e,rfl] F.entry_list_mul (F.args_list_mul_2 _ _) (AutoListH.list___mul___list_int_3 l its.toArray n k t hfit hcap hlong) #[e,?_]])
 rw[hnew];exact #[.ref _,_,I.lnew (t':=s.toks) (r.rep k.toNat) (by rw[len_rep,b7];exact hz),rfl,q _ I.fresh]
end
end L2
namespace Att
open PySem PySem.W PySem.Calls PyProof.Rows
theorem Ag:∀(ns:List Int) (vs:List Value),WellAll P h vs (ns.map WData.int)->IntsAre vs ns:=by
 intro ns
 induction ns with
 | nil =>
  intro vs w;rw[Nh] at w;cases w;exact .nil
 | cons n ns ih =>
  intro vs w;rw[gL] at w;cases w with
  | cons a b =>
   cases a;exact .cons _ _ (ih _ b)
theorem NA {l:OpenLaw} (hn:l.most=some n) 
  (hpre:l.row.toRowW.claim.pre args=true) (hwl:WellAll P h vals args) :
  ∃a vs ns,vals=[sK a]/\args=[WData.list (ns.map WData.int)]/\h.get? a=some { cls:=.type "list",data:=.seq vs.5 }/\IntsAre vs ns/\ns.9<=n:=by
 have hsh:WShape.hasAll [] args [.list .int]=true:=(pre_splitW hpre).1;have hc:l.pre.holds [] { args:=args }=true:=(pre_splitW hpre).2;obtain d|r|rfl|h1|h2:=hasAllW_cons hsh;obtain rfl:=hasAllW_nil h2;obtain xs|rfl|h3:=hasW_list h1;obtain ns|rfl:=items_int h3
 have hlen:ns.9<=n:=by
  unfold OpenLaw.pre at hc
  have h4:(WTm.not (.lt (.lit (.int (n:Int))) (.len (.arg 0)))).holds [] { args:=[.list (ns.map .int)] }=true:=by
   have h4:=(holds_andW hc).1;rw[hn] at h4;exact h4
  have h5:=condW_of h4 (w_not (w_lt w_lit (w_len_list (w_arg rfl))));rw[af] at h5;refine Nat.le_of_not_lt λq=>?_
  have q':(n:Int) < ((ns.9:Nat):Int):=()
  first
   | (rw[decide_eq_true q'] at h5;exact absurd h5 ())
   | (simp at h5;lia)
 cases hwl with
 | cons w1 w2 =>
  cases w2;cases w1 with
  | list ho hall=>exact #[_,_,ns,rfl,rfl,ho,Ag ns _ hall,hlen]
theorem NL (l:OpenLaw) (args:List WData):l.row.toRowW.claim.post args (.bool true) args=true :=
 postW_of (r:=l.row.toRowW) (X:=(true == true))
  (show WShape.has [] (.bool true) .bool=true by first | rfl | decide | simp [WShape.has,WShape.arms,WShape.armsAll])
  (show (WTm.eq .res (.lit (.bool true))).value [] { args:=args,res:=some (.bool true),after:=args }=some (.bool (true == true)) from w_eq_bool (w_res rfl) w_lit) rfl
theorem Ka {l:OpenLaw} 
  (hn:l.most=some n) (hdf:d.params.defaults=[])
  (call:∀(w:Uf) (s₀ s₁:nw) (mg mb:Str->Option Value) (fa:Addr) (o:Obj) (pm cd doc:Value) (a:Addr) (vs:List Value) (ns:List Int),
   Ground q loose [] XP w s₀ mg mb s₁.8->YP w s₁.8 →
   s₁.heap.get? fa=some o->o.data=.func (docDef d.name d.params d.body d.scope pm cd doc)->s₁.heap.CodeRec cd d.name->mg d.name=some (.ref fa) →
   s₁.heap.get? a=some { cls:=.type "list",data:=.seq vs.5 }->IntsAre vs ns->ns.9<=n->s₁.gens=[].toArray →
   Zu (model l.prog w) callerA (.call (.ref fa) #[[.ref a],[]]) (λr s'=>r=.ok (.ret (.bool true))/\OldK s₁.heap s'.8/\s'.os=s₁.os/\AllBare s'.gens) s₁) :
  WalkO q loose XP YP l.row.toRowW d [] (λf vs=>PySem.call f vs):=by
 intro w s₀ s₁ mg mb G Y fa o pm cd doc dV kV ho hd hcd hD hmg hg args vals as hpre hlay hrd hwl hlo;obtain rfl:dV=.none:=Dflts.none hD hdf;obtain rfl:kV=.none:=Dflts.noKw hD;obtain a|vs|ns|rfl|rfl|hobj|hints|hlen:=NA hn hpre hwl;refine enter_call (codeAny_mono (call w s₀ s₁ mg mb fa o pm cd doc a vs ns G Y ho (fd_plain hd) hcd hmg hobj hints hlen hg) λr s' hq=>?_);obtain rfl|h2|h3|h4:=hq;exact #[.inl #[.bool true,.bool true,[],rfl,λ_=>rfl,.bool true,NL l _,λ_=>#[List.Pairwise.nil,λ_ hm=>(nomatch hm)]],h2,h3,h4]
end Att
namespace L2
open PySem PySem.Spec PyProof.Rows
theorem DA:∀{vs:List Value} {ns:List Int},IntsAre vs ns->c7 (ns.map V.int) vs
 | _,_,.nil=>.nil
 | _,_,.cons n t h=>.cons #[t,rfl] (DA h)
def Wz (H:Hp):Prop:=∀b,H b=none\/∃o xs,H b=some (.frz o (.lst xs))
theorem Qp {K:FG9} 
  (KX:K.In s₁.8) (hns:s₁.heap.Ns xz mg) (hb:s₁.heap.Ns builtinsNs mb) (hbb:∀x:Str,x≠"__name__"->mb x=XV x) (hlim:s₁.heap.NoLimit) (hsr:s₁.heap.NoSeer) (hg:s₁.gens=[].toArray)
  (ha:s₁.heap.get? a=some { cls:=.type "list",data:=.seq vs.5 }) (hi:IntsAre vs ns) (hl:ns.9<=ww) (hr:mO k callerA)
  (F:∀base:Heap,K.In base->base.Ns xz mg->qW P w K mg base CX k fa fd [x] sp) (hbind:∀(s:nw) (u:Value),BindsTo s fd #[[u],[]] [(x,u)])
  (hsp:∀H:Hp,Wz H->bI K H a (ns.map V.int)->sp [.ref a] H (λv _=>v=.bl true) λ_ _ _=>False)
  (hCX:∀H e s',CX [] H s₁ (λ_ _ _=>False) e s'->False) :
  Zu (model P w) callerA (.call (.ref fa) #[[.ref a],[]]) (λr s'=>r=.ok (.ret (.bool true))/\OldK s₁.heap s'.8/\s'.os=s₁.os/\AllBare s'.gens) s₁:=by
 have rv:=DA hi;have lenV:=hi.length
 have core:∀H:Hp,Wz H->bI K H a (ns.map V.int)->AL P w H s₁.8->(∀b,H b≠none->b=a)->(H a≠none->K.lookup a=none) →
   Zu (model P w) callerA (.call (.ref fa) #[[.ref a],[]]) (λr s'=>r=.ok (.ret (.bool true))/\OldK s₁.heap s'.8/\s'.os=s₁.os/\AllBare s'.gens) s₁:=by
  intro H hO hS hok hA hK;have base_of:∀{b:Addr} {o:Obj},s₁.heap.get? b=some o->H b=none->(F5 s₁.heap H).get? b=some o:=λe n=>Qx e n
  have noA:∀{b:Addr} {o:Obj} {es:Array DictEntry} {ep:Nat},s₁.heap.get? b=some o->o.data=.dict es ep->H b=none:=λ{b o es ep} e d=>by
   cases q:H b with
   | none=>rfl
   | some u =>
    have e':b=a:=hA b (by rw[q];simp);subst e';rw[ha] at e;cases e;have d':Data.seq vs.toArray _=Data.dict es ep:=d;cases d'
  have nsK:∀{b:Addr} {m:Str->Option Value},s₁.heap.Ns b m->(F5 s₁.heap H).Ns b m:=λ{b m} #[o,es,ep,e,d,r]=>#[o,es,ep,base_of e (noA e d),d,r]
  have hKb:K.In (F5 s₁.heap H):=λb o e=>base_of (KX b o e) (by
   cases q:H b with
   | none=>rfl
   | some u =>
    have e':b=a:=hA b (by rw[q];simp);subst e';rw[hK (by rw[q];simp)] at e;cases e)
  have hM:Mod K mg (F5 s₁.heap H):=#[hKb,nsK hns,#[mb,nsK hb,hbb],let ⟨mc,h1,h2⟩:=hlim;#[mc,nsK h1,h2],#[let ⟨mc,h1,h2⟩:=hsr.statics;#[mc,nsK h1,h2],let ⟨mm,h1,h2⟩:=hsr.mods;#[mm,nsK h1,h2],#[mb,nsK hb,hbb],let ⟨mg',bm,ob,h1,h2,h3,h4,h5⟩:=hsr.main;#[mg',bm,ob,nsK h1,h2,base_of h3 (by
   cases q:H bm with
   | none=>rfl
   | some u =>
    have e':bm=a:=hA bm (by rw[q];simp);subst e';rw[ha] at h3;cases h3;injection h4 with q4
    exact absurd q4 ()),h4,h5]]]
  have e0:Mm P w K mg (F5 s₁.heap H) callerA [] s₁ H:=#[rfl,hM,λb o e=>Te e,Nat.le_of_eq (Of _ _),trivial,λb hb=>absurd (show b∈([]:List Addr) from hb) (by simp),hok,.of_eq hg];refine codeAny_mono ((F _ hKb (nsK hns)).run callerA [] s₁ H #[[.ref a],[]] [.ref a] [.ref a] _ _ hr e0 (hbind s₁ (.ref a)) (.cons rfl .nil) (hsp H hO hS)) λr s' h=>?_
  cases r with
  | error e=>exact (hCX H e s' h).elim
  | ok fl =>
   cases fl with
   | next=>exact No h
   | brk=>exact No h
   | cont=>exact No h
   | ret u =>
    obtain v|H'|os|bare|un|hok'|r'|q:=h;have q':v=.bl true:=q;subst q';obtain rfl:u=Value.bool true:=r';refine #[rfl,OldK.of_keep λb o e=>?_,os,bare];cases q:H b with
    | none=>exact un.keep b o e q (by intro z;exact absurd (show b∈([]:List Addr) from z) (by simp)) (by simp)
    | some u =>
     rcases hO b with z | ⟨ob,xs,z⟩
     ·rw[q] at z;cases z
     ·have z2:=un.frzs b ob _ z;obtain e1|_:=hok b _ z;obtain e2|_:=hok' b _ z2;rw[e] at e1;cases e1;exact e2
 cases hk:K.lookup a with
 | some o =>
  have e:=KX a o hk;rw[ha] at e;cases e;refine core (λ_=>none) (λ_=>.inl rfl) (.inr #[_,vs.5,_,hk,rfl,rfl,rfl,by rw[aG,lenV];exact hl,by simpa using rv]) (λb u z=>by have z':(none:Option HO)=some u:=z;cases z') (λb z=>absurd rfl z) λz=>absurd rfl z
 | none =>
  refine core (λb=>if b=a then some (.frz { cls:=.type "list",data:=.seq vs.5 } (.lst (ns.map V.int))) else none) (λb=>?_) (.inl (.inr #[{ cls:=.type "list",data:=.seq vs.5 },if_pos rfl])) (λb u z=>?_) (λb z=>?_) λ_=>hk
  ·by_cases hb:b=a
   ·exact .inr #[_,_,if_pos hb]
   ·exact .inl (if_neg hb)
  ·by_cases hb:b=a
   ·have z':=(if_pos hb).symm.trans z;cases z';subst hb;exact #[ha,by rw[af];exact hl,vs,_,rv,ha]
   ·have z':=(if_neg hb).symm.trans z;cases z'
  ·by_cases hb:b=a
   ·exact hb
   ·exact absurd (if_neg hb) z
theorem RS {l:PySem.W.OpenLaw} {K:Params->FG9} {CX:Uf->Rv} {sp:Uf->Sp} 
  (hn:l.most=some n) (hn2:n<=ww) (hdf:d.params.defaults=[]) (hr:mO k callerA) (hi:importsNone q=true)
  (hY:∀(w:Uf) (h:Heap),YP w h->(K w.params).In h)
  (F:∀(w:Uf) (mg:Str->Option Value) (fa:Addr) (h:Heap),(K w.params).In h->h.Ns xz mg->mg d.name=some (.ref fa) →
   ∃fd:dL,(∀(s:nw) (u:Value),BindsTo s fd #[[u],[]] [(x,u)]) /\
    ∀base:Heap,(K w.params).In base->base.Ns xz mg->qW l.prog w (K w.params) mg base (CX w) k fa fd [x] (sp w))
  (hsp:∀(w:Uf) (H:Hp) (a:Addr) (ns:List Int),ns.9<=n->Wz H->bI (K w.params) H a (ns.map V.int)->sp w [.ref a] H (λv _=>v=.bl true) λ_ _ _=>False)
  (hCX:∀(w:Uf) (H:Hp) (s:nw) (e:Value) (s':nw),CX w [] H s (λ_ _ _=>False) e s'->False) :
  PySem.W.WalkO q loose XP YP l.row.toRowW d [] (λf vs=>PySem.call f vs):=by
 refine Att.Ka hn hdf λw s₀ s₁ mg mb fa o pm cd doc a vs ns G Y ho hd hcd hmg hobj hints hlen hg=>?_
 have KX:=hY w _ Y;obtain fd|hb|hF:=F w mg fa _ KX G.T.g hmg;exact Qp KX G.T.g G.T.b G.T.builtins G.T.nolimit (G.T.seer hi) hg hobj hints (ag hlen hn2) hr hF hb (λH hO hS=>hsp w H a ns hlen hO hS) λH e s'=>hCX w H s₁ e s'
end L2

namespace L2
open PySem PySem.Spec PyProof.Rows
def inClass (s:Stmt) (j:Nat):Stmt:=match s with
 | .ClassDef _ _ _ body _ _ _ _ _ _ _=>body.getD j (.Pass #[0,0,0,0])
 | _=>.Pass #[0,0,0,0]
def oU (s:Stmt):Arguments:=match s with
 | .FunctionDef _ a _ _ _ _ _ _ _ _=>a
 | _=>{ posonlyargs:=[],args:=[],vararg:=none,kwonlyargs:=[],kw_defaults:=[],kwarg:=none,defaults:=[] }
def ke (s:Stmt):List Stmt:=match s with
 | .FunctionDef _ _ b _ _ _ _ _ _ _=>b
 | _=>[]
def fD (s:Stmt):Scope:=match s with
 | .FunctionDef _ _ _ _ _ _ sc _ _ _=>sc
 | _=>{ kind:=.function,names:=[],isGenerator:=false,isCoroutine:=false }
abbrev KD:Rv:=λ_ _ _ _ _ _=>False
abbrev E0:XK:=λ_ _ _=>False
theorem BA:zL KD X E0:=λ_ _ _ _ _ _ _ h=>h.elim
structure OX (K:FG9) (x qual:Str) (st:Stmt) (f:Addr) (fd:dL):Prop where
 ex:∃(oc:Value) (od:Option Addr) (kV doc pm:Value) (an:Option Addr) (cdv ct:Value) (osl:Array (Option Value)),
  fd=SZ x qual (oU st) (ke st) (fD st) .none kV doc pm an cdv ct/\K.lookup f=some #[oc,od,.func fd,osl]/\PySem.W.codeIn K cdv qual=true
 kp:Zj K (.ref f)=true
section
variable {P:Pi} {w:Uf} {K:FG9} {mg:Str->Option Value} {base:Heap}
theorem OX.ok {st:Stmt} (F:OX K x qual st f fd) (S:wg N ps (fD st)) (len:∀vs H Q E,sp vs H Q E->vs.9=ps.9)
  (hbody:∀(cdv:Value) (A:Ix) (outer:List Env) (s:nw) (H:Hp) (vs:List V) (Q:VK) (E:XK),mO k (A.deeper (envOfC qual (fD st) s.heap.objs.size f cdv))->sp vs H Q E →
   ∃t,KG (JY KD P w K mg base N qual (fD st) f cdv A outer s H E).nox (ke st) t/\t { nx:=λ_ H'=>Q .non H',rt:=Q } (start N vs) H):qW P w K mg base KD (k+1) f fd ps sp:=by
 obtain oc|od|kV|doc|pm|an|cdv|ct|osl|rfl|lk|hcd:=F.ex;refine Ye lk hcd S len λA outer s H vs Q E hr hsp=>?_
 obtain t|h|q:=hbody cdv A outer s H vs Q E hr hsp;exact #[t,h.nox,q]
theorem U4 {N ps:List Str} {vs:List V} (h:N.take ps.9=ps) (l:vs.9=ps.9):vs.9<=N.9:=by
 have:=congrArg FS h;rw[bP] at this
 lia
theorem OX.k {x qual:Str} {st:Stmt} {f:Addr} {fd:dL} {N ps:List Str} {k:Nat} {sp:Sp} (F:OX K x qual st f fd) (S:wg N ps (fD st))
  (hbody:∀(cdv:Value) (A:Ix) (outer:List Env) (s:nw) (H:Hp) (vs:List V) (Q:VK) (E:XK) (hr:mO k (A.deeper (envOfC qual (fD st) s.heap.objs.size f cdv))) (h:sp vs H Q E),
   ∃t,KG (JY KD P w K mg base N qual (fD st) f cdv A outer s H E).nox (ke st) t/\t { nx:=λ_ H'=>Q .non H',rt:=Q } (WN N vs) H) (len:∀vs H Q E,sp vs H Q E->vs.9=ps.9:=by walk_at "n"):qW P w K mg base KD (k+1) f fd ps sp :=
 F.ok S len λcdv A outer s H vs Q E hr h=>by
  rw[KR (U4 S.pre (len _ _ _ _ h))];exact hbody cdv A outer s H vs Q E hr h
theorem OX.binds {st:Stmt} (F:OX K x qual st f fd)
  (h:∀(kV doc pm:Value) (an:Option Addr) (cdv ct:Value) (us:List Value),us.9=ps.9->bindArgs (SZ x qual (oU st) (ke st) (fD st) .none kV doc pm an cdv ct) #[us,[]]=pure (ps.zip us)):Binds K fd ps []:=by
 obtain oc|od|kV|doc|pm|an|cdv|ct|osl|rfl|lk|hcd:=F.ex;exact .all (h kV doc pm an cdv ct)
theorem LF {st:Stmt} {kV doc pm cdv ct:Value} (l:K.lookup f=some #[oc,od,.func (SZ x qual (oU st) (ke st) (fD st) .none kV doc pm an cdv ct),osl])
  (c:PySem.W.codeIn K cdv qual=true) (k:Zj K (.ref f)=true):OX K x qual st f (SZ x qual (oU st) (ke st) (fD st) .none kV doc pm an cdv ct):=#[#[oc,od,kV,doc,pm,an,cdv,ct,osl,rfl,l,c],k]
end
structure Df (K:FG9) (mg:Str->Option Value) (x:Str) (st:Stmt) (ps:List Str) (f:Addr) (fd:dL):Prop where
 m:mg x=some (.ref f)
 b:Binds K fd ps []
 F:OX K x x st f fd
structure Dh (K:FG9) (x:Str) (st:Stmt) (f:Addr) (fd:dL):Prop where
 a:PySem.W.nsIn K xz x=some (some (.ref f))
 F:OX K x x st f fd
theorem Yf {K:FG9} {st:Stmt} {kV doc pm cdv ct:Value} (a:PySem.W.nsIn K xz x=some (some (.ref f))) (l:K.lookup f=some #[oc,od,.func (SZ x x (oU st) (ke st) (fD st) .none kV doc pm an cdv ct),osl]) (c:PySem.W.codeIn K cdv x=true) (k:Zj K (.ref f)=true):Dh K x st f (SZ x x (oU st) (ke st) (fD st) .none kV doc pm an cdv ct):=#[a,LF l c k]
theorem Dh.D {K:FG9} {x:Str} {st:Stmt} {f:Addr} {fd:dL} {ps:List Str} {mg:Str->Option Value} {h:Heap} (d:Dh K x st f fd) (X:K.In h) (G:h.Ns xz mg) (hb:∀(kV doc pm:Value) (an:Option Addr) (cdv ct:Value) (us:List Value),us.9=ps.9->bindArgs (SZ x x (oU st) (ke st) (fD st) .none kV doc pm an cdv ct) #[us,[]]=pure (ps.zip us):=by walk_at "b"):Df K mg x st ps f fd:=#[PySem.W.mg_of X G d.a,d.F.binds hb,d.F]
abbrev Df.o {K:FG9} {mg:Str->Option Value} {x:Str} {st:Stmt} {ps:List Str} {f:Addr} {fd:dL} (_:Df K mg x st ps f fd) (P:Pi) (w:Uf) (base:Heap) (k:Nat) (sp:Sp):Prop:=qW P w K mg base KD k f fd ps sp
theorem cN {X:Cx} {k k':Nat} {f:Addr} {fd:dL} {ps:List Str} {sp:Sp} {x:Str} {st:Stmt} {p pos:Pos} {e:Expr} {es:List Expr} {t:TA} (F:qW X.prog X.w X.K X.mg X.base KD k f fd ps sp) (hr:mO k' X.A) (D:Df X.K X.mg x st ps f fd) (ha:PA X (e :: es) t) (hle:k<=k':=by decide) (hg:Gl X x:=by exact rfl) (hdb:(x == ("__debug__":Str))=false:=by decide) (he:r8 (e :: es) X.env=(false,eval e X.env) :: r8 es X.env:=by rfl) (hpl:(backTo pos (r8 es X.env)).any (·.1)=false:=by rfl):PE X (.Call (.Name x p) (e :: es) [] pos) (Pd sp [] E0 t):=Az F (hr.mono hle) hg D.m D.F.kp D.b .nil BA ha hdb he hpl
theorem cX (h:n<=1000):n < ww:=bx h ()
theorem lV {n:Nat} (h:n<=1000:=by lia):n<=ww:=cA (cX h)
section
variable {X:Cx}
theorem pv (i:Nat) {x:Str} {pos:Pos} (hN:X.N[i]?=some x:=by rfl) (hv:Y5 X.env.scope x:=by first | exact Or.inl rfl | exact Or.inr (Or.inl rfl) | exact Or.inr (Or.inr rfl)) (hd:(x == ("__debug__":Str))=false:=by decide)
  (hcd:(x == ("__classdict__":Str))=false:=by decide):PE X (.Name x pos) (UZ i):=VM hN hv hd hcd
end
theorem Tq {A B:Prop} (h:B):if false=true then A else B:=by
 rw[if_neg bh];exact h
theorem X4 {A B:Prop} (h:A):if true=true then A else B:=by
 rw[if_pos rfl];exact h
theorem iT {c A B:Prop} [Decidable c] (h1:c->A) (h2:¬c->B):if c then A else B:=by
 by_cases h:c
 ·rw[if_pos h];exact h1 h
 ·rw[if_neg h];exact h2 h
def aH (H H':Hp):Prop:=∀b o,H b=some o->H' b=some o
theorem aH.refl (H:Hp):aH H H:=λ_ _ h=>h
theorem aH.trans (a:aH H H1) (b:aH H1 H2):aH H H2:=λc o h=>b c o (a c o h)
theorem aH.free (e:aH H H') (h:H' l=PP):H l=PP:=by
 cases q:H l with
 | none=>rfl
 | some o =>
  rw[e l o q] at h;cases h
theorem aH.seq {K:FG9} (e:aH H H') (h:bI K H a xs):bI K H' a xs:=by
 rcases h with (h | ⟨o,h⟩) | h
 ·exact .inl (.inl (e _ _ h))
 ·exact .inl (.inr #[o,e _ _ h])
 ·exact .inr h
end L2
namespace Nm
theorem QF (a b:Int):IR b (a.fmod b)=IR a b:=by
 rw[Int.fmod_def,nM a b];apply Nat.dvd_antisymm
 ·apply RD
  ·exact fX ..
  ·have h1:=fX (a:=b) (b:=a - b*a.fdiv b);have h2:=gX (a:=b) (b:=a - b*a.fdiv b);have h3:=Int.dvd_add h2 (pO (c:=a.fdiv b) h1);rwa [Int.sub_add_cancel] at h3
 ·apply RD
  ·exact fX ..
  ·exact Int.dvd_sub (gX ..) (pO (fX ..))
theorem QG (a b:Int):IR b (a % b)=IR a b:=by
 rw[Int.emod_def,nM a b];apply Nat.dvd_antisymm
 ·apply RD
  ·exact fX ..
  ·have h1:=fX (a:=b) (b:=a - b*(a / b));have h2:=gX (a:=b) (b:=a - b*(a / b));have h3:=Int.dvd_add h2 (pO (c:=a / b) h1);rwa [Int.sub_add_cancel] at h3
 ·apply RD
  ·exact fX ..
  ·exact Int.dvd_sub (gX ..) (pO (fX ..))
theorem Tt (a b:Int) (h:b≠0):(a.fmod b).natAbs < b.natAbs:=by
 rcases Int.lt_or_gt_of_ne h with h | h
 ·have e:a.fmod b=-((-a).fmod (-b)):=by
   have:=Int.neg_fmod_neg (-a) (-b);simp only[Int.neg_neg] at this;exact this
  have h1:=Int.fmod_nonneg_of_pos (-a) (b:=-b) ();have h2:=Int.fmod_lt_of_pos (-a) (b:=-b) ()
  lia
 ·have h1:=Int.fmod_nonneg_of_pos a h;have h2:=Int.fmod_lt_of_pos a h
  lia
def g (t b:Int):Int:=(IR t b:Int)
def lo (t b:Int):Int:=t / g t b
def hi (t b:Int):Int:=b / g t b
theorem Cb (h:b≠0):0 < g t b:=by
 unfold g;have:0 < IR t b:=RM _ h
 lia
theorem BU (t b:Int):lo t b*g t b=t:=Int.ediv_mul_cancel (fX ..)
theorem zz (t b:Int):hi t b*g t b=b:=Int.ediv_mul_cancel (gX ..)
theorem F6 (h:0 < b):0 < hi t b:=by
 have h1:=Cb (t:=t) (b:=b) ();have h2:=zz t b;by_cases h3:0 < hi t b
 ·exact h3
 ·have:hi t b*g t b<=0:=Int.mul_nonpos_of_nonpos_of_nonneg () ()
  lia
theorem BR (h:b≠0):IR (lo t b) (hi t b)=1:=by
 have h1:=Cb (t:=t) h;have e:=Int.gcd_mul_right (lo t b) (g t b) (hi t b);rw[BU,zz] at e;have e2:(g t b).natAbs=IR t b:=by unfold g;simp
 rw[e2] at e;have h2:0 < IR t b:=RM _ h;exact Nat.eq_of_mul_eq_mul_right h2 (by rw[<- e,uo])
theorem BS (t b:Int):lo t b*b=t*hi t b:=by
 have h1:=BU t b;have h2:=zz t b
 calc lo t b*b=lo t b*(hi t b*g t b):=by rw[h2]
  _=(lo t b*g t b)*hi t b:=by rw[il (hi t b),<- eN]
  _=t*hi t b:=by rw[h1]
theorem tK (h:IR a b=1) (hd:a∣b*c):a∣c:=by
 have h1:a.natAbs∣b.natAbs*c.natAbs:=by rw[<- dc];exact fO.mpr hd
 have h2:Nat.Coprime a.natAbs b.natAbs:=h;exact fO.mp (h2.dvd_of_dvd_mul_left h1)
theorem uniq (hb:0 < b) (hd:0 < d) (h1:IR a b=1) (h2:IR c d=1) (e:a*d=c*b):a=c/\b=d:=by
 have e1:b∣d:=by
  have:b∣a*d:=#[c,by rw[e,il]];exact tK (by rw[nM];exact h1) this
 have e2:d∣b:=by
  have:d∣c*b:=#[a,by rw[<- e,il]];exact tK (by rw[nM];exact h2) this
 have e3:b=d:=Int.dvd_antisymm () () e1 e2;subst e3;exact #[wX () e,rfl]
theorem VU (hb:0 < b) (hd:0 < d) (h2:IR c d=1) (e:t*d=c*b):lo t b=c/\hi t b=d:=by
 refine uniq (F6 hb) hd (BR ()) h2 ?_;have h:=BS t b;have hb':b≠0:=()
 apply wX hb'
 calc lo t b*d*b=lo t b*b*d:=by rw[eN,il d b,<- eN]
  _=t*hi t b*d:=by rw[h]
  _=t*d*hi t b:=by rw[eN,il (hi t b),<- eN]
  _=c*b*hi t b:=by rw[e]
  _=c*hi t b*b:=by rw[eN,il b,<- eN]
theorem VV (hb:0 < b) (h:IR a b=1):lo a b=a/\hi a b=b:=VU hb hb h rfl
theorem qT {a b:Int} (h:b≠0):a.natAbs<=(a*b).natAbs:=by
 rw[dc];exact bZ _ (Int.natAbs_pos.mpr h)
theorem lo_le (h:b≠0):(lo t b).natAbs<=t.natAbs:=by
 have:=qT (a:=lo t b) (b:=g t b) (by have:=Cb (t:=t) h;lia);rwa [BU] at this
theorem UG (h:b≠0):(hi t b).natAbs<=b.natAbs:=by
 have:=qT (a:=hi t b) (b:=g t b) (by have:=Cb (t:=t) h;lia);rwa [zz] at this
def Sz (k:Nat) (x:Int):Prop:=x.natAbs < 2^k
theorem Sz.mono (h:Sz j x) (l:j<=k):Sz k x:=bL h (aj () l)
theorem Sz.mul (h1:Sz j x) (h2:Sz k y):Sz (j+k) (x*y):=by
 unfold Sz at *
 rw[dc,aV];exact Nat.mul_lt_mul'' h1 h2
theorem Sz.neg (h:Sz k x):Sz k (-x):=by unfold Sz at *;rw[jR];exact h
theorem Sz.le (h:Sz k y) (l:x.natAbs<=y.natAbs):Sz k x:=bx l h
theorem Sz.hi {k:Nat} {t b:Int} (h:Sz k b) (hb:b≠0):Sz k (hi t b):=h.le (UG hb)
end Nm
namespace L2
open PySem PySem.Spec PyProof.Rows
structure Bk (env:Env) (scope:Scope) (own capN:List Str):Prop where
 kind:scope.kind=.function
 locs:∀y∈scope.names,y.2=.local->scope.names.lookup y.1=some .local
 ownk:∀x∈own,scope.names.lookup x=some .local\/scope.names.lookup x=some .cell
 cells:∀y∈scope.names,y.2=.cell->y.1∈own/\y.1∉capN
 frees:∀y∈scope.names,y.2=.free->y.1∈capN/\y.1∉own
 capf:∀x∈capN,scope.names.lookup x=some .free
 caps:∀x∈capN,env.kindOf x=some .cell\/env.kindOf x=some .free
def YD (scope:Scope) (own capN:List Str):Bool :=
 decide (scope.kind=.function) && scope.names.all (λy=>decide (y.2=.local->scope.names.lookup y.1=some .local) && decide (y.2=.cell->y.1∈own/\y.1∉capN) && decide (y.2=.free->y.1∈capN/\y.1∉own)) &&
 own.all (λx=>decide (scope.names.lookup x=some .local\/scope.names.lookup x=some .cell)) && capN.all λx=>decide (scope.names.lookup x=some .free)
def Ex (env:Env):List Str->Bool
 | []=>true
 | x :: r=>(match env.kindOf x with | some .cell=>true | some .free=>true | _=>false) && Ex env r
theorem J8 {env:Env}:∀{capN:List Str},Ex env capN=true->∀x∈capN,env.kindOf x=some .cell\/env.kindOf x=some .free
 | [],_,_,h=>nomatch h
 | y :: r,h,x,hx=>by
  unfold Ex at h;rw[eT] at h;rcases aJ.mp hx with e | hx
  ·subst e;have h1:=h.1
   split at h1
   ·rename_i e;exact .inl e
   ·rename_i e;exact .inr e
   ·cases h1
  ·exact J8 h.2 x hx
theorem Bk.of (h1:YD scope own capN=true) (h2:Ex env capN=true):Bk env scope own capN:=by
 unfold YD at h1;rw[eT,eT,eT,rK,rK,rK] at h1;obtain ⟨⟨a1,a2⟩,a3⟩|a4:=h1
 have a2':∀y∈scope.names,(y.2=.local->scope.names.lookup y.1=some .local)/\(y.2=.cell->y.1∈own/\y.1∉capN)/\(y.2=.free->y.1∈capN/\y.1∉own):=λy hy=>by
  have q:=a2 y hy;rw[eT,eT] at q;exact #[of_decide_eq_true q.1.1,of_decide_eq_true q.1.2,of_decide_eq_true q.2]
 exact #[of_decide_eq_true a1,λy hy=>(a2' y hy).1,λx hx=>of_decide_eq_true (a3 x hx),λy hy=>(a2' y hy).2.1,λy hy=>(a2' y hy).2.2,λx hx=>of_decide_eq_true (a4 x hx),J8 h2]
def fb (env:Env):List (Str×IO)->List (Str×Addr)->List (Str×Addr)
 | [],acc=>acc
 | (n,k) :: r,acc=>if k == .free then fb env r ((n,(env.cells.lookup n).getD 0) :: acc) else fb env r acc
theorem jI (env:Env):∀(names:List (Str×IO)) (acc:List (Str×Addr)),fb env names acc=fb env names []++acc
 | [],_=>rfl
 | (n,k) :: r,acc=>by
  unfold fb
  split
  ·rw[jI env r (_ :: acc),jI env r [_],cF];rfl
  ·exact jI env r acc
theorem tO (env:Env):∀(names:List (Str×IO)) {x:Str} {c:Addr},(x,c)∈fb env names []->(x,Go)∈names/\c=(env.cells.lookup x).getD 0
 | [],_,_,h=>nomatch h
 | (n,k) :: r,x,c,h=>by
  unfold fb at h
  split at h
  ·rename_i hk
   have ek:k=.free:=by simpa using hk
   subst ek;rw[jI] at h;rcases av.mp h with h | h
   ·have q:=tO env r h;exact #[cz _ q.1,q.2]
   ·have e:(x,c)=(n,(env.cells.lookup n).getD 0):=by simpa using h
    cases e;exact #[dR,rfl]
  ·have q:=tO env r h;exact #[cz _ q.1,q.2]
theorem kr {α:Type}:∀{l:List (Str×α)} {x:Str} {c:α},(x,c)∈l->∃d,l.lookup x=some d
 | (k,v) :: r,x,c,h=>by
  rw[nK];cases hb:x == k with
  | true=>exact #[v,rfl]
  | false =>
   rcases aJ.mp h with e | h
   ·cases e;simp at hb
   ·exact kr h
theorem tP (env:Env):∀(names:List (Str×IO)) {x:Str},(x,Go)∈names->∃c,(x,c)∈fb env names []
 | (n,k) :: r,x,h=>by
  unfold fb;rcases aJ.mp h with e | h
  ·cases e;rw[if_pos (),jI];exact #[_,bJ _ dR]
  ·obtain c|q:=tP env r h
   split
   ·rw[jI];exact #[c,dS _ q]
   ·exact #[c,q]
theorem Cg (h:∀y∈scope.names,y.2=.free->∃c,env.cells.lookup y.1=some c):closureFor scope env=pure (fb env scope.names []):=by
 have gen:∀(names:List (Str×IO)) (acc:List (Str×Addr)) (f:Str×IO->List (Str×Addr)->Sem (ForInStep (List (Str×Addr)))),
   (∀name kind cells,f (name,kind) cells=if kind == .free then (do let a <- cellOf env name;pure (.yield ((name,a) :: cells))) else pure (.yield cells)) →
   (∀y∈names,y.2=.free->∃c,env.cells.lookup y.1=some c)->forIn names acc f=pure (fb env names acc):=by
  intro names
  induction names with
  | nil=>intro acc f hf _;rw[EM];rfl
  | cons y r ih =>
   intro acc f hf hh;obtain n|k:=y;rw[RL,hf];unfold fb;by_cases hk:(k == Go)=true
   ·obtain c|hc:=hh (n,k) dR (by simpa using hk);have hc':env.cells.lookup n=some c:=hc;have e:cellOf env n=pure c:=by unfold cellOf;rw[hc']
    rw[if_pos hk,if_pos hk,e,hc'];simp only[pure_bind,Option.getD_some];exact ih _ f hf λy hy=>hh y (cz _ hy)
   ·rw[if_neg hk,if_neg hk];simp only[pure_bind];exact ih _ f hf λy hy=>hh y (cz _ hy)
 simp only[closureFor];rw[gen scope.names [] _ (λname kind cells=>by cases hkc:kind == Go <;> simp [hkc]) h];rfl
theorem ic:∀(names:List (Str×IO)) (n:Nat) (acc:List (Str×Addr)),GT n names acc=GT n names []++acc
 | [],_,_=>rfl
 | (x,k) :: r,n,acc=>by
  unfold GT
  split
  ·rw[ic r (n+1) (_ :: acc),ic r (n+1) [_],cF];rfl
  ·exact ic r n acc
theorem nG:∀(names:List (Str×IO)) (n:Nat) {x:Str} {c:Addr},(x,c)∈GT n names []->(x,IO.cell)∈names
 | [],_,_,_,h=>nomatch h
 | (y,k) :: r,n,x,c,h=>by
  unfold GT at h
  split at h
  ·rename_i hk
   have ek:k=.cell:=by simpa using hk
   subst ek;rw[ic] at h;rcases av.mp h with h | h
   ·exact cz _ (nG r _ h)
   ·have e:(x,c)=(y,n):=by simpa using h
    cases e;exact dR
  ·exact cz _ (nG r _ h)
def zG (env:Env) (scope:Scope) (C:Addr):Env :=
 { scope:=relabel scope env,locals:=C,globals:=env.globals,cells:=GT (C+1) scope.names (fb env scope.names []),qual:=env.qual,func:=none,code:=env.code,frame:=env.frame,builtins:=env.builtins }
theorem Jo 
  (h:Q (newEnv scope s.heap.objs.size g (GT (s.6+1) scope.names cl) qual none .none (some env) builtinsNs) { s with heap:=pushCells (s.heap.push { cls:=.type "dict",data:=.dict [].toArray }) scope.names }) :
  wE M A (newFunctionEnv scope g cl [] qual none .none (some env)) Q E s:=by
 simp only[newFunctionEnv,Option.isSome_some,if_true];refine db (wpAny_alloc ?_);refine db (wpAny_layCells _ (λname kind cells=>by cases hkc:kind == IO.cell <;> simp [hkc]) _ _ _ _ ?_);rw[show ({ s with heap:=s.heap.push { cls:=.type "dict",data:=.dict [].toArray } }:nw).6=s.6+1 from UF ..];rw[EM];exact db (pi (pi h))
theorem xT:∀{k:IO},(relabel scope env).names.lookup x=some k->∃k0,scope.names.lookup x=some k0/\(k=k0\/(k0=.free/\k=.cell)):=by
 unfold relabel;show ∀{k:IO},(scope.names.map λ(n,k)=>if (k == Go && env.scope.kind == .function && env.kindOf n == some .cell) then (n,IO.cell) else (n,k)).lookup x=some k->_
 induction scope.names with
 | nil=>intro k h;cases h
 | cons y r ih =>
  intro k h;obtain n|k1:=y;rw[gL,nK] at h;rw[nK];by_cases hc:(k1 == Go && env.scope.kind == .function && env.kindOf n == some .cell)=true
  ·simp only[hc,if_true] at h;cases hb:x == n with
   | true =>
    simp only[hb] at h
    have e1:k1=.free:=by
     rw[eT,eT] at hc;simpa using hc.1.1
    cases h;exact #[k1,rfl,.inr #[e1,rfl]]
   | false=>simp only[hb] at h;exact ih h
  ·have hc':(k1 == Go && env.scope.kind == .function && env.kindOf n == some .cell)=false:=by simpa using hc
   simp only[hc',kh,if_false] at h;cases hb:x == n with
   | true=>simp only[hb] at h;cases h;exact #[_,rfl,.inl rfl]
   | false=>simp only[hb] at h;exact ih h
theorem Jb:scope.names.lookup x=some .free->(relabel scope env).names.lookup x=some .cell\/(relabel scope env).names.lookup x=some .free:=by
 unfold relabel;show _->(scope.names.map λ(n,k)=>if (k == Go && env.scope.kind == .function && env.kindOf n == some .cell) then (n,IO.cell) else (n,k)).lookup x=some .cell\/(scope.names.map λ(n,k)=>if (k == Go && env.scope.kind == .function && env.kindOf n == some .cell) then (n,IO.cell) else (n,k)).lookup x=some .free
 induction scope.names with
 | nil=>intro h;cases h
 | cons y r ih =>
  intro h;obtain n|k1:=y;rw[nK] at h;rw[gL];by_cases hc:(k1 == Go && env.scope.kind == .function && env.kindOf n == some .cell)=true
  ·simp only[hc,if_true,nK];cases hb:x == n with
   | true=>exact .inl rfl
   | false=>rw[hb] at h;exact ih h
  ·have hc':(k1 == Go && env.scope.kind == .function && env.kindOf n == some .cell)=false:=by simpa using hc
   simp only[hc',kh,if_false,nK];cases hb:x == n with
   | true=>rw[hb] at h;cases h;exact .inr rfl
   | false=>rw[hb] at h;exact ih h
structure Bz where
 s:nw
 H:Hp
 fp:List Addr
 C:Addr
def Al (X:Cx) (own capN:List Str) (scope:Scope) (Z:Bz):Cx where
 prog:=X.prog
 w:=X.w
 K:=X.K
 mg:=X.mg
 base:=X.base
 A:=X.A
 N:=own++capN
 s₀:=Z.s
 H₀:=Z.H
 env:=zG X.env scope Z.C
 outer:=X.stack
 stack:=X.stack
 ex:=Z.fp
 fn:=λx=>own.contains x
 calm:=true
 pn:=[]
 xe:=λ_ _=>False
section
variable {X:Cx} {pins:List (Addr×Obj)} {σ:St} {own capN:List Str} {scope:Scope} {Z:Bz}
theorem kE (B:Bk X.env scope own capN) (I:Inv X pins σ Z.H Z.s) (h:(zG X.env scope Z.C).cells.lookup x=some c) :
  (x∈own/\(x,c)∈GT (Z.C+1) scope.names [])\/(x∈capN/\x∉own/\X.env.cells.lookup x=some c):=by
 have h':(GT (Z.C+1) scope.names (fb X.env scope.names [])).lookup x=some c:=h;rw[ic] at h';rcases av.mp (mem_of_lookup h') with m | m
 ·exact .inl #[(B.cells _ (nG _ _ m) rfl).1,m]
 ·obtain m1|e:=tO _ _ m;obtain q1|q2:=B.frees _ m1 rfl;obtain d|hd:=I.ok.has x (B.caps x q1);rw[hd] at e;exact .inr #[q1,q2,by rw[hd,e];rfl]
theorem TL (B:Bk X.env scope own capN) (I:Inv X pins σ Z.H Z.s) (hx:x∈capN) (h:X.env.cells.lookup x=some c):(zG X.env scope Z.C).cells.lookup x=some c:=by
 have hm:(x,Go)∈scope.names:=mem_of_lookup (B.capf x hx);obtain c1|m1:=tP X.env scope.names hm
 have hs:∃d,(zG X.env scope Z.C).cells.lookup x=some d:=by
  show ∃d,(GT (Z.C+1) scope.names (fb X.env scope.names [])).lookup x=some d
  rw[ic];exact kr (bJ _ m1)
 obtain d|hd:=hs;rcases kE B I hd with ⟨q,m⟩ | ⟨_,_,q⟩
 ·exact absurd hx (B.cells _ (nG _ _ m) rfl).2
 ·rw[h] at q;cases q;exact hd
theorem NP (h:Heap) (C:Addr) (hC:h.objs.7=C+1) (names:List (Str×IO)):CellsOk (pushCells h names) (C+1) (GT (C+1) names []):=by
 have q:=cellsFrom_ok names h (C+1) [] #[λ_ _ hm=>(nomatch hm),List.Pairwise.nil] (by rw[hC];exact ah _);rwa [hC] at q
theorem GY (I:Inv X pins σ Z.H Z.s) (h:X.env.cells.lookup x=some c):@LT.lt Nat instLTNat c Z.s.6:=by
 obtain v|q:=I.cell x c h;exact q.lt
theorem Wn (I:Inv X pins σ Z.H Z.s) (hc:X.calm=true) (B:Bk X.env scope own capN) (hC:Z.s.6<=Z.C) (hcl:CellsOk h1 (Z.C+1) (GT (Z.C+1) scope.names []))
  (hf:∀b∈Z.fp,mP X pins Z.H b/\@LT.lt Nat instLTNat b Z.s.6):(Al X own capN scope Z).Ok:=by
 refine #[I.ok.mod,B.kind,I.ok.glob,I.ok.blt,hC,λx y c h1 h2=>?_,λx hx=>?_,λx c hx h=>?_,λ_=>I.ok.hd hc,I.ok.frames,.inl rfl,λb hb=>#[?_,λx c h=>?_],I.bs,ag I.ok.bsz I.sz,λb o e hb=>?_,λb hb hz=>?_,I.stack,I.stkFree]
 ·rcases kE B I h1 with ⟨q1,m1⟩ | ⟨q1,n1,m1⟩ <;> rcases kE B I h2 with ⟨q2,m2⟩ | ⟨q2,n2,m2⟩
  ·exact name_of_addr hcl.apart m1 m2
  ·have l1:=(hcl.empty _ _ m1).2;have l2:=GY I m2
   lia
  ·have l1:=(hcl.empty _ _ m2).2;have l2:=GY I m1
   lia
  ·exact I.ok.inj x y c m1 m2
 ·have hx':(relabel scope X.env).names.lookup x=some .cell\/(relabel scope X.env).names.lookup x=some .free:=hx
  have hk:scope.names.lookup x=some .cell\/scope.names.lookup x=some .free:=by
   rcases hx' with h | h
   ·obtain ⟨k0,e,q | ⟨q,_⟩⟩:=xT h
    ·exact .inl (by rw[e,<- q])
    ·exact .inr (by rw[e,q])
   ·obtain ⟨k0,e,q | ⟨_,q⟩⟩:=xT h
    ·exact .inr (by rw[e,<- q])
    ·cases q
  show ∃c,(GT (Z.C+1) scope.names (fb X.env scope.names [])).lookup x=some c
  rcases hk with h | h
  ·exact WS.mp (AM scope.names (Z.C+1) _ (.inl h))
  ·obtain c|m:=tP X.env scope.names (mem_of_lookup h);rw[ic];exact kr (bJ _ m)
 ·have ho:x∈own:=by have hx':own.contains x=true:=hx;simpa using hx'
  rcases kE B I h with ⟨_,m⟩ | ⟨_,n,_⟩
  ·have:=(hcl.empty _ _ m).2;have hC':Z.s.6<=Z.C:=hC;show Z.s.6<=c
   lia
  ·exact absurd ho n
 ·intro e;have e':@Eq Nat b Z.C:=e;have:=(hf b hb).2
  lia
 ·have l:=(hf b hb).2;rcases kE B I h with ⟨_,m⟩ | ⟨_,_,m⟩
  ·intro e;have e':@Eq Nat c b:=e;have:=(hcl.empty _ _ m).2
   lia
  ·exact (hf b hb).1.2.2.2.2.1 x c m
 ·obtain _|_|_|f3|_:=(hf b hb).1;rcases f3 with f3 | f3
  ·exact I.ok.noex b o e f3
  ·exact absurd (bL (o0 e) (ag I.ok.bsz f3)) (fj _)
 ·obtain _|f1|f2|_:=(hf b hb).1;rcases aJ.mp (I.stkSub b hz) with e | e
  ·exact f1 e
  ·exact f2 e
def OR (k:Nat) (cap:List Nat) (σ:St):St:=ce k none++cap.map λj=>(σ[j]?).join
def zY (X:Cx) (capN:List Str) (cap:List Nat):Prop:=cap.map (λj=>X.N[j]?)=capN.map some
theorem zY.get (h:zY X capN cap) {i:Nat} (e:capN[i]?=some x):∃j,cap[i]?=some j/\X.N[j]?=some x:=by
 have q:=congrArg (λl=>l[i]?) h;simp only[aA,e,Option.map_some] at q;cases hc:cap[i]? with
 | none=>rw[hc] at q;cases q
 | some j=>rw[hc] at q;exact #[j,rfl,by simpa using q]
theorem J9 (I:Inv X pins σ Z.H Z.s) (B:Bk X.env scope own capN) (hcap:zY X capN cap)
  (kc:∀x c,X.env.cells.lookup x=some c->∀v,Z.s.heap.IsCell c v->h'.IsCell c v) {i:Nat} (e1:(own++capN)[i]?=some x) (e2:(OR own.9 cap σ)[i]?=some (some v)) :
  ∃u,RelV v u/\Look (zG X.env scope Z.C) h' m x u:=by
 have hi:own.9<=i:=by
  by_cases hi:own.9<=i
  ·exact hi
  ·exfalso
   unfold OR at e2;rw[bF (by simpa using hi),cU] at e2
   split at e2 <;> cases e2
 rw[bc hi] at e1;unfold OR at e2;rw[bc (by simpa using hi),aI,aA] at e2;obtain j|hj|hN:=hcap.get e1;rw[hj] at e2;have e3:(σ[j]?).join=some v:=by simpa using e2
 have e4:σ[j]?=some (some v):=by
  cases q:σ[j]? with
  | none=>rw[q] at e3;cases e3
  | some o=>rw[q] at e3;simp at e3;rw[e3]
 have hx:x∈capN:=ar e1;have hk:=B.caps x hx;obtain m0|_|hl:=I.loc;obtain u|r|l:=hl j x v hN e4 (.inr hk);refine #[u,r,.inr #[Jb (B.capf x hx),?_]];rcases l with ⟨hk2,_⟩ | ⟨_,c,hc,z⟩
 ·rcases hk with hk | hk
  ·rw[hk] at hk2;cases hk2
  ·rw[hk] at hk2;cases hk2
 ·exact #[c,TL B I hx hc,kc x c hc _ z]
theorem Yd (I:Inv X pins σ Z.H Z.s) (h:b∈OU X.stack):@LT.lt Nat instLTNat b Z.s.6:=by
 obtain _|o|ho|_:=I.stack.mem h;exact o0 ho
theorem TJ {D:Addr} (I:Inv X pins σ Z.H Z.s) (hc:X.calm=true) (B:Bk X.env scope own capN) (hcap:zY X capN cap) (hC:Z.s.6<=Z.C)
  (hcl:CellsOk h1 (Z.C+1) (GT (Z.C+1) scope.names [])) (hf:∀b∈Z.fp,mP X pins Z.H b/\@LT.lt Nat instLTNat b Z.s.6)
  (hk:∀b o,Z.s.heap.get? b=some o->h1.get? b=some o) (hn:h1.Ns Z.C λ_=>none) (hD:Z.s.6<=D) (hDC:D≠Z.C) (hoD:h1.get? D=some oD) (hdD:∀v,oD.data≠.cell v) :
  Inv (Al X own capN scope Z) [(D,oD)] (OR own.9 cap σ) Z.H { Z.s with heap:=h1,toks:=t1 }:=by
 refine #[Wn I hc B hC hcl hf,rfl,I.bare,Un.kept hk,#[_,hn,λi x v e1 e2 _=>J9 I B hcap (λx c _ v z=>z.keeps hk) e1 e2],λx c h=>?_,I.hok.fresh hC,λx c h=>?_,λp hp=>?_,I.hok.kept hk,?_]
 ·rcases kE B I h with ⟨_,m⟩ | ⟨_,_,m⟩
  ·exact #[none,(hcl.empty _ _ m).1]
  ·obtain v|q:=I.cell x c m;exact #[v,q.keeps hk]
 ·rcases kE B I h with ⟨_,m⟩ | ⟨_,_,m⟩
  ·exact I.hok.fresh (by have:=(hcl.empty _ _ m).2;lia)
  ·exact I.freeC x c m
 ·have e:p=(D,oD):=by simpa [Al] using hp
  subst e;exact #[hoD,I.hok.fresh hD,hDC,λz=>fj _ (bL (Yd I z) hD),hdD]
 ·show (OR own.9 cap σ).9=(own++capN).9
  have:=congrArg FS hcap;simp only[af] at this;unfold OR;simp [this]
theorem Q9 {σ':St} (I:Inv X pins σ Z.H Z.s) (B:Bk X.env scope own capN) (hcap:zY X capN cap) (hf:∀b∈Z.fp,mP X pins Z.H b/\@LT.lt Nat instLTNat b Z.s.6)
  (J:Inv (Al X own capN scope Z) pins' σ' H' s'):Inv (Al X own capN scope Z) pins' (OR own.9 cap σ) H' s':=by
 refine #[J.ok,J.os,J.bare,J.base,?_,J.cell,J.free,J.freeC,J.pin,J.hok,?_]
 ·obtain m|hn|_:=J.loc;refine #[m,hn,λi x v e1 e2 _=>J9 I B hcap (λx c hx v z=>?_) e1 e2];obtain o|ho|hd:=z;obtain sl|e:=J.base.any ho (I.freeC x c hx) λz=>(hf c z).1.2.2.2.2.1 x c hx rfl
  exact #[_,e,hd]
 ·show (OR own.9 cap σ).9=(own++capN).9
  have:=congrArg FS hcap;simp only[af] at this;unfold OR;simp [this]
theorem TK {σ':St} {D:Addr} (I:Inv X pins σ Z.H Z.s) (hf:∀b∈Z.fp,mP X pins Z.H b/\@LT.lt Nat instLTNat b Z.s.6) (hD:Z.s.6<=D)
  (J:Inv (Al X own capN scope Z) [(D,{ cls:=.type "list",data:=.seq its.toArray n })] σ' H' s') (r:c7 ys its) (hz:ys.9<=ww) :
  Inv X pins σ (upd H' D (.lst ys)) s':=by
 have pD:=J.pin (D,{ cls:=.type "list",data:=.seq its.toArray n }) (by simp);have ne:∀{b:Addr} {o:Obj},Z.s.heap.get? b=some o->b≠D:=λe z=>by subst z;exact fj _ (bL (o0 e) hD)
 have nt:∀{b:Addr} {u:HO},H' b=some u->b≠D:=λe z=>by rw[z,pD.2.1] at e;cases e
 refine I.call' (ch:=Z.fp) J.os #[J.base.keep,J.base.slot,λb o e h hx=>?_,J.base.there,λb xs e=>?_,λb o u e=>?_,λb ps e=>?_] (λb u e=>?_) J.bare λb hb=>?_
 ·rw[bG (ne e)];exact J.base.free b o e h hx
 ·have q:=J.base.tups b xs e;rw[bG (nt q)];exact q
 ·have q:=J.base.frzs b o u e;rw[bG (nt q)];exact q
 ·obtain more|q:=J.base.tbls b ps e;exact #[more,by rw[bG (nt q)];exact q]
 ·by_cases hb:b=D
  ·subst hb;rw[aN] at e;cases e;exact #[hz,its,n,r,pD.1]
  ·rw[bG hb] at e;exact (J.hok b u e).stay (λc v _ q=>q) (λc q=>by rw[bG (nt q)];exact q) λc xs q=>by rw[bG (nt q)];exact q
 ·obtain _|f1|_|f3|f4|f5:=(hf b hb).1;exact #[f3,f1,f4,f5]
end
theorem UY {t:Sem α} {Q Q':α->nw->Prop} (h:wE M A t Q (λ_ _=>False) s) (hQ:∀a s,Q a s->Q' a s):wE M A t Q' E s :=
 Zc h hQ λ_ _ z=>No z
theorem GV (I:Nat->nw->Prop)
  (turn:∀(E:Value->nw->Prop) n s,I n s->wE (model prog w) A (pyNext it) (λr s₁=>match r with
   | none=>R (.ok .next) s₁
   | some v=>wE (model prog w) A (letOwnedTupleGo target it v) (λ_ s₂=>wE (model prog w) A (assign target env v) (λ_ s₃ =>
     wE (model prog w) A (forIn ifs true λc r=>if r=true then do let ok <- isTrue c env (eval c env);pure (ForInStep.yield ok) else pure (ForInStep.yield r)) (λok s₄ =>
      if ok=true then wE (model prog w) A (eval elt env) (λx s₅=>wE (model prog w) A (call (.builtin "list.append") [acc,x]) (λ_ s₆=>∃m,m < n/\I m s₆) E s₅) E s₄
      else ∃m,m < n/\I m s₄) E s₃) E s₂) E s₁) E s)
  (n:Nat) (h:I n s):Zu (model prog w) A (.compLoop (.ListComp elt [#[target,iter,ifs,0]] scope pos) 0 it acc env) R s:=by
 refine codeAny_loop rfl I (λn s hI=>?_) n h;show wE _ A ((compTurn (.ListComp elt [#[target,iter,ifs,0]] scope pos) 0 it acc env).onRaise (λx=>do noteFrame x env;theTreesLotGoes x)) _ _ s
 refine wpAny_noted ?_;rw[compTurn_list];refine db (wpAny_standAt (db (Zc (turn _ n s hI) (λr s₁ h₁=>?_) λ_ _ h'=>h')));cases r with
 | none=>exact pi h₁
 | some v =>
  refine db (Zc h₁ (λ_ s₂ h₂=>db (Zc h₂ (λ_ s₃ h₃=>db (Zc h₃ (λok s₄ h₄=>?_) λ_ _ h'=>h')) λ_ _ h'=>h')) λ_ _ h'=>h');cases ok with
  | false=>exact pi #[rfl,h₄]
  | true =>
   exact db (db (Zc h₄ (λx s₅ h₅=>db (Zc h₅ (λ_ s₆ h₆=>pi (pi #[rfl,h₆])) λ_ _ h'=>h')) λ_ _ h'=>h'))
def PF (X:Cx) (ifs:List Expr) (t:TT):Prop :=
 ∀(pins:List (Addr×Obj)) (s:nw) (σ:St) (H:Hp) (Q:Bool->Hp->Prop),Inv X pins σ H s->t σ H Q →
  wE (model X.prog X.w) X.A (forIn ifs true λc r=>if r=true then do let ok <- isTrue c X.env (eval c X.env);pure (ForInStep.yield ok) else pure (ForInStep.yield r)) (TP X pins σ Q) X.xe s
def WX:TT:=λ_ H Q=>Q true H
theorem b6:PF X [] WX:=λ_ _ _ H _ I h=>wpAny_tests_nil #[H,I,h]
theorem Fq (h:PT X c t):PF X [c] t:=λpins s σ H Q I hw=>wpAny_tests_one (h pins s σ H Q I hw)
def tW (σ₀:St) (g:TG) (tf:TT) (te:TE) (x:V) (H:Hp) (NY:V->Hp->Prop) (NN:Hp->Prop):Prop :=
 g x σ₀ H λσ2 H2=>tf σ2 H2 λb H3=>if b=true then te σ2 H3 NY else NN H3
def uh (J:It) (σ₀:St) (g:TG) (tf:TT) (te:TE) (Q:VK) (H1:Hp):Prop :=
 ∃W:Nat->Nat->List V->Hp->Prop,(∃m,W 0 m [] H1)/\∀i m ys H,W i m ys H →
  (J.stop i H/\ys.9<=ww/\∀p,H p=none->Q (.ref p) (upd H p (.lst ys))) \/
  (J.go i H/\ys.9 < ww/\∃(NY:V->Hp->Prop) (NN:Hp->Prop),(∀y H',NY y H'->∃m',m' < m/\W (i+1) m' (ys++[y]) H')/\(∀H',NN H'->∃m',m' < m/\W (i+1) m' ys H') /\
   ∀x H',J.yld i H x H'->tW σ₀ g tf te x H' NY NN)
def Iq (wi:TI) (k:Nat) (cap:List Nat) (g:TG) (tf:TT) (te:TE):TE:=λσ H Q=>wi σ H λJ H1=>uh J (OR k cap σ) g tf te Q H1
abbrev lobj (its:List Value) (n:Nat):Obj:={ cls:=.type "list",data:=.seq its.toArray n }
section
variable {X:Cx} {own capN:List Str} {cap:List Nat} {scope:Scope} {elt tg iter:Expr} {ifs:List Expr} {pos:Pos} {wi:TI} {g:TG} {tf:TT} {te:TE}
theorem Eu (hc:X.calm=true) (B:Bk X.env scope own capN) (hcap:zY X capN cap)
  (hi:PI X tg iter wi) (hg:∀Z,PG (Al X own capN scope Z) tg g) (hf:∀Z,PF (Al X own capN scope Z) ifs tf) (he:∀Z,PE (Al X own capN scope Z) elt te)
  (hs:∀x,foldedSetIterable iter X.env x=pure x) {σ:St} (I:Inv X pins σ H s) (h:Iq wi own.9 cap g tf te σ H Q)
  (fin:∀(D C:Addr) (s':nw) (H':Hp),Inv X pins σ H' s'->mP X pins H' C->(∃m,s'.heap.Ns C m)->Q (.ref D) H'->compPost (model X.prog X.w) X.A X.xe use Qe (.ref D) C (.ok .next) s') :
  wE (model X.prog X.w) X.A (comprehension (.ListComp elt [#[tg,iter,ifs,0]] scope pos) scope X.env fpos (newList []) false (eval iter X.env) use) Qe X.xe s:=by
 refine wpAny_comprehension_free (use:=use) rfl hs (Cg λy hy hk=>I.ok.has y.1 (B.caps _ (B.frees y hy hk).1)) B.kind B.locs ?_;refine iQ (hi pins s σ H _ I h) λv s1 h1=>iQ h1 λitv s2 h2=>?_
 obtain it|fp|tn|J|H2|e|I2|T|st2|f2|W|⟨m0,w0⟩|turn:=h2;subst e;have hfp:∀b∈fp,mP X pins H2 b/\@LT.lt Nat instLTNat b s2.6:=λb hb=>#[f2 b hb,let ⟨_,e,_⟩:=T.obj _ _ st2 b hb;o0 e]
 refine ST (Jo ?_) (a7 _);have es:(s2.heap.push { cls:=.type "list",data:=.seq ([]:List Value).5 }).objs.size=s2.6+1:=UF ..
 show Zu _ _ (.compStart _ 0 (.ref it) (.ref s2.6) { newEnv scope (s2.heap.push { cls:=.type "list",data:=.seq ([]:List Value).5 }).objs.size X.env.globals (GT ((s2.heap.push { cls:=.type "list",data:=.seq ([]:List Value).5 }).objs.size+1) scope.names (fb X.env scope.names [])) X.env.qual none .none (some X.env) builtinsNs with scope:=relabel scope X.env })
  (compPost (model X.prog X.w) X.A X.xe use Qe (.ref s2.6) (s2.heap.push { cls:=.type "list",data:=.seq ([]:List Value).5 }).objs.size)
  { s2 with heap:=pushCells ((s2.heap.push { cls:=.type "list",data:=.seq ([]:List Value).5 }).push { cls:=.type "dict",data:=.dict [].toArray }) scope.names }
 have hk1:∀b o,(s2.heap.push { cls:=.type "list",data:=.seq ([]:List Value).5 }).get? b=some o->(pushCells ((s2.heap.push { cls:=.type "list",data:=.seq ([]:List Value).5 }).push { cls:=.type "dict",data:=.dict [].toArray }) scope.names).get? b=some o :=
  λb o e=>pushCells_keeps _ _ _ _ (io _ e)
 have hk:∀b o,s2.heap.get? b=some o->(pushCells ((s2.heap.push { cls:=.type "list",data:=.seq ([]:List Value).5 }).push { cls:=.type "dict",data:=.dict [].toArray }) scope.names).get? b=some o:=λb o e=>hk1 b o (io _ e)
 have hoD:=hk1 s2.heap.objs.size _ (At s2.heap (o:={ cls:=.type "list",data:=.seq ([]:List Value).5 }) rfl);have hn:=(Heap.Ns.new (s2.heap.push { cls:=.type "list",data:=.seq ([]:List Value).5 }) (.type "dict")).keeps (pushCells_keeps scope.names _);have hcl:=NP ((s2.heap.push { cls:=.type "list",data:=.seq ([]:List Value).5 }).push { cls:=.type "dict",data:=.dict [].toArray }) (s2.6+1) (by rw[UF,es]) scope.names;rw[es] at hn ⊢;generalize pushCells ((s2.heap.push { cls:=.type "list",data:=.seq ([]:List Value).5 }).push { cls:=.type "dict",data:=.dict [].toArray }) scope.names=h3 at hk hoD hn hcl ⊢;have Z:Bz:=#[s2,H2,fp,s2.6+1]
 have I3:Inv (Al X own capN scope #[s2,H2,fp,s2.6+1]) [(s2.6,lobj [] 0)] (OR own.9 cap σ) H2 { s2 with heap:=h3 } :=
  TJ (Z:=#[s2,H2,fp,s2.6+1]) (t1:=s2.toks) I2 hc B hcap (md _) hcl hfp hk hn (ah _) (cE (fR _)) hoD (λv z=>nomatch z)
 have st3:tn 0 h3:=T.keep _ _ _ st2 λb _ o e=>hk b o e
 have loop:Zu (model X.prog X.w) X.A (.compLoop (.ListComp elt [#[tg,iter,ifs,0]] scope pos) 0 (.ref it) (.ref s2.6) (zG X.env scope (s2.6+1))) (compPost (model X.prog X.w) X.A X.xe use Qe (.ref s2.6) (s2.6+1)) { s2 with heap:=h3 }:=by
  refine GV (λm s'=>∃i ys σ' H' its n,Inv (Al X own capN scope #[s2,H2,fp,s2.6+1]) [(s2.6,lobj its n)] σ' H' s'/\tn i s'.8/\(∀b∈fp,H' b=none)/\c7 ys its/\W i m ys H') ?_ m0
   #[0,[],_,H2,[],0,I3,st3,λb hb=>(f2 b hb).1,.nil,w0]
  rintro E n s4 ⟨i,ys,σ4,H4,its,k,I4,st4,fr4,rv,w4⟩
  have fpo:∀{pp:List (Addr×Obj)} {H':Hp},(∀p∈pp,p.1=s2.6)->(∀b∈fp,H' b=none)->∀b∈fp,mP (Al X own capN scope #[s2,H2,fp,s2.6+1]) pp H' b:=λ{pp H'} hpp hn b hb=>by
   obtain e1|e2:=I4.ok.exf b hb;refine #[hn b hb,e1,I4.ok.exfs b hb,.inl hb,e2,λp hp=>?_];have hp':p∈pp:=by simpa [Al] using hp
   have l:=(hfp b hb).2;rw[hpp p hp'];exact λz=>fj _ (by rw[<- z] at l;exact l)
  have pinD:∀{its:List Value} {n:Nat},∀p∈[(s2.6,lobj its n)],p.1=s2.6:=λp hp=>by simp at hp;rw[hp]
  rcases turn i n ys H4 w4 with ⟨stop,hz,q⟩ | ⟨go,hlt,NY,NN,hNY,hNN,step⟩
  ·refine iQ (T.done (Al X own capN scope #[s2,H2,fp,s2.6+1]) rfl rfl rfl rfl i _ s4 σ4 H4 E I4 (fpo pinD fr4) st4 stop) λr s5 #[hr,I5]=>?_
   subst hr;have pD:=I5.pin (s2.6,lobj its k) (by simp);have I6:=TK (Z:=#[s2,H2,fp,s2.6+1]) I2 hfp (ah _) I5 rv hz
   have hC:upd H4 s2.heap.objs.size (.lst ys) (s2.6+1)=none:=by
    rw[bG (Ng (fR _))];exact I5.free
   obtain m|hm|_:=I5.loc;exact fin _ _ s5 _ I6 (I2.fpOk (md _) hC) #[m,hm] (q _ pD.2.1)
  ·refine iQ (T.item (Al X own capN scope #[s2,H2,fp,s2.6+1]) rfl rfl rfl rfl i _ s4 σ4 H4 E I4 (fpo pinD fr4) st4 go) λr s5 #[u,hr,h5]=>?_
   subst hr;refine iQ h5 λ_ s6 #[x,H6,I6,r6,y6,st6,fr6]=>?_
   have I6':=(Q9 (Z:=#[s2,H2,fp,s2.6+1]) I2 B hcap hfp I6).pinned (fpo pinD fr6) (T.obj _ _ st6)
   have back:∀{σ7:St} {H7:Hp} {s7:nw},Inv (Al X own capN scope #[s2,H2,fp,s2.6+1]) ([(s2.6,lobj its k)]++By fp s6.8) σ7 H7 s7 →
     Inv (Al X own capN scope #[s2,H2,fp,s2.6+1]) [(s2.6,lobj its k)] σ7 H7 s7/\tn (i+1) s7.8/\∀b∈fp,H7 b=none:=λ{σ7 H7 s7} I7=>by
    refine #[I7.unpinned,T.keep _ _ _ st6 λb hb o e=>(I7.pin (b,o) (bJ _ (bJ _ (tH hb e)))).1,λb hb=>?_];obtain o|e|d:=T.obj _ _ st6 b hb;exact (I7.pin (b,o) (bJ _ (bJ _ (tH hb e)))).2.1
   refine UY (hg _ _ s6 _ H6 x u _ I6' r6 (step x H6 y6)) λ_ s7 #[σ7,H7,I7,q7]=>?_
   refine UY (hf _ _ s7 σ7 H7 _ I7 q7) λok s8 #[H8,I8,q8]=>?_
   cases ok with
   | false =>
    rw[if_neg bh] at q8 ⊢;obtain m'|hm|w8:=hNN H8 q8;obtain J1|J2|J3:=back I8;exact #[m',hm,i+1,ys,σ7,H8,its,k,J1,J2,J3,rv,w8]
   | true =>
    rw[if_pos rfl] at q8 ⊢;refine UY (he _ _ s8 σ7 H8 _ I8 q8) λz s9 #[y,H9,I9,r9,q9]=>?_
    obtain J1|J2|J3:=back I9;obtain m'|hm|w9:=hNY y H9 q9;have pD:=J1.pin (s2.6,lobj its k) (by simp);have hl:=rv.9;refine call_meets F.slot_list_append #[_,pD.1,rfl] F.entry_list_append (F.args_list_append_2 _ _) (PySem.list_append s2.heap.objs.size its.toArray k z (by rw[aG];lia)) #[pD.1,?_];have e9:=nJ pD.1 (λa=>a.push z);have e9':(its.toArray.push z)=(its++[z]).5:=by simp
    rw[e9'] at e9;obtain ⟨n',e9⟩:∃n',(s9.heap.update s2.heap.objs.size (Do λa=>a.push z)).get? s2.6=some (lobj (its++[z]) n'):=#[_,e9]
    have J4:Inv (Al X own capN scope #[s2,H2,fp,s2.6+1]) [] σ7 H9 { s9 with heap:=s9.heap.update s2.heap.objs.size (Do λa=>a.push z),toks:=s9.toks } :=
     (J1.pins_of (pins':=[]) λp hp=>nomatch hp).turned (λb o hb e=>(Cl s9.heap _ (SL hb)).trans e) pD.2.1 pD.2.2.1 (.inr (ah _)) (λx c hx z=>by
      rcases kE (Z:=⟨s2,H2,fp,s2.6+1⟩) B I2 hx with ⟨_,m⟩ | ⟨_,_,m⟩
      ·have:=(hcl.empty _ _ m).2;have z':@Eq Nat c s2.6:=z
       lia
      ·have:=GY (Z:=#[s2,H2,fp,s2.6+1]) I2 m;rw[z] at this;exact fj _ this) λp hp=>by simp [Al] at hp
    have nfp:∀b∈fp,b≠s2.6:=λb hb z=>by have:=(hfp b hb).2;rw[z] at this;exact fj _ this
    refine #[m',hm,i+1,ys++[y],σ7,H9,its++[z],n',J4.pins_of λp hp=>?_,T.keep _ _ _ J2 λb hb o e=>(Cl s9.heap _ (SL (nfp b hb))).trans e,J3,rv.append (.cons r9 .nil),w9];have ep:p=(s2.6,lobj (its++[z]) n'):=by simpa using hp
    rw[ep];exact #[e9,pD.2.1,pD.2.2.1,pD.2.2.2.1,λv z=>nomatch z]
 exact codeAny_compStart_list loop (T.self _ _ _ _ _ st3 loop)
theorem bW (own capN:List Str) (cap:List Nat) (hi:PI X tg iter wi) (hg:∀Z,PG (Al X own capN scope Z) tg g) (hf:∀Z,PF (Al X own capN scope Z) ifs tf) (he:∀Z,PE (Al X own capN scope Z) elt te)
  (h1:YD scope own capN=true:=by decide +kernel) (h2:Ex X.env capN=true:=by rfl) (hcap:zY X capN cap:=by rfl) (hc:X.calm=true:=by rfl) (hs:∀x,foldedSetIterable iter X.env x=pure x:=by intro _;rfl) :
  PE X (.ListComp elt [#[tg,iter,ifs,0]] scope pos) (Iq wi own.9 cap g tf te):=by
 intro pins s σ H Q I h;rw[eval_ListComp];refine Eu (use:=none) hc (Bk.of h1 h2) hcap hi hg hf he hs I h λD C s' H' I' fC hm q=>?_
 obtain m|hm:=hm;refine #[m,hm,λh' hs'=>?_];obtain f0|f1|f2|f3|f4|f5:=fC;exact #[.ref D,H',I'.turned (t':=s'.toks) (λb o hb e=>(hs'.2 b hb).trans e) f0 f1 f3 f4 f5,rfl,q]
theorem jD (i:Nat) (own capN:List Str) (cap:List Nat) {x:Str} {pos' spos:Pos} (hN:X.N.Nodup) (hi':X.N[i]?=some x) (hx:X.env.scope.names.lookup x=some .local) (hi:PI X tg iter wi) (hg:∀Z,PG (Al X own capN scope Z) tg g) (hf:∀Z,PF (Al X own capN scope Z) ifs tf) (he:∀Z,PE (Al X own capN scope Z) elt te)
  (h1:YD scope own capN=true:=by decide +kernel) (h2:Ex X.env capN=true:=by rfl) (hcap:zY X capN cap:=by rfl) (hc:X.calm=true:=by rfl) (hs:∀x,foldedSetIterable iter X.env x=pure x:=by intro _;rfl)
  (hsw:swapsWith (.ListComp elt [#[tg,iter,ifs,0]] scope pos) (some (.Name x pos')) spos.line X.env=pure true:=by rfl) :
  PS X (.Assign [.Name x pos'] (.ListComp elt [#[tg,iter,ifs,0]] scope pos) spos) (Pe (Iq wi own.9 cap g tf te) (El i)):=by
 intro pins s σ H D I h;rw[exec_Assign_Name_used _ _ _ _ hsw];refine db (wpAny_standAt (db ?_));rw[arm_evalThenUse_ListComp];refine db (Eu (Q:=λv H1=>D.nx (σ.set i (some v)) H1) (use:=some _) hc (Bk.of h1 h2) hcap hi hg hf he hs I h λL C s' H' I' fC hm q=>?_);obtain m|hm:=hm;obtain f0|f1|f2|f3|f4|f5:=fC;refine wpAny_assign_Name (DC I' hN hi' (.inl hx) (v:=.ref L) rfl (λs'' I'' #[a,sb,ha]=>?_) (.inr hx))
 have hCa:C≠a:=by
  rcases ha with e | e
  ·rw[e];exact f1
  ·exact (f4 x a e).symm
 refine #[m,hm.at' λo e=>(sb.2 C hCa).trans e,λh' hs'=>?_];have I3:=I''.turned (h':=h') (t':=s''.toks) (λb o hb e=>(hs'.2 b hb).trans e) f0 f1 f3 f4 f5;exact pi (pi #[_,H',I3,q])
end
section
variable {K:FG9}
theorem gR (Pv:Nat->List V->Hp->Prop) (hz:xs.9<=ww) (h0:Pv 0 [] H) (hl:∀i ys H,i<=xs.9->Pv i ys H->bI K H a xs)
  (hs:∀i x ys H,xs[i]?=some x->ys.9<=i->Pv i ys H->tW σ₀ g tf te x H (λy H'=>Pv (i+1) (ys++[y]) H') (λH'=>Pv (i+1) ys H'))
  (hd:∀ys H,ys.9<=xs.9->Pv xs.9 ys H->∀p,H p=none->Q (.ref p) (upd H p (.lst ys))):uh (T5 K a) σ₀ g tf te Q H:=by
 refine #[λi m ys H=>m=xs.9 - i/\i<=xs.9/\ys.9<=i/\Pv i ys H,#[xs.9,by simp,a7 _,a7 _,h0],?_];rintro i m ys H ⟨rfl,hi,hy,p⟩;have q:=hl i ys H hi p;by_cases hlt:i < xs.9
 ·refine .inr #[#[xs,xs[i],q,by simp [hlt]],(),λy H'=>Pv (i+1) (ys++[y]) H',λH'=>Pv (i+1) ys H',λy H' p'=>#[xs.9 - (i+1),(),rfl,hlt,by rw[ai,aT];lia,p'],λH' p'=>#[xs.9 - (i+1),(),rfl,hlt,(),p'],λx H' y=>?_];obtain e|y:=y;subst e;exact hs i x ys _ (y xs q) hy p
 ·have e:i=xs.9:=()
  subst e;exact .inl #[#[xs,q,ah _],(),hd ys H hy p]
theorem Q6 (Pv:Nat->List V->Hp->Prop) (hz:xs.9<=ww) (h0:Pv 0 [] H) (hl:∀i ys H,i<=xs.9->Pv i ys H->jN K H a xs)
  (hs:∀i x ys H,xs[i]?=some x->ys.9<=i->Pv i ys H->tW σ₀ g tf te x H (λy H'=>Pv (i+1) (ys++[y]) H') (λH'=>Pv (i+1) ys H'))
  (hd:∀ys H,ys.9<=xs.9->Pv xs.9 ys H->∀p,H p=none->Q (.ref p) (upd H p (.lst ys))):uh (T4 K a) σ₀ g tf te Q H:=by
 refine #[λi m ys H=>m=xs.9 - i/\i<=xs.9/\ys.9<=i/\Pv i ys H,#[xs.9,by simp,a7 _,a7 _,h0],?_];rintro i m ys H ⟨rfl,hi,hy,p⟩;have q:=hl i ys H hi p;by_cases hlt:i < xs.9
 ·refine .inr #[#[xs,xs[i],q,by simp [hlt]],(),λy H'=>Pv (i+1) (ys++[y]) H',λH'=>Pv (i+1) ys H',λy H' p'=>#[xs.9 - (i+1),(),rfl,hlt,by rw[ai,aT];lia,p'],λH' p'=>#[xs.9 - (i+1),(),rfl,hlt,(),p'],λx H' y=>?_];obtain e|y:=y;subst e;exact hs i x ys _ (y xs q) hy p
 ·have e:i=xs.9:=()
  subst e;exact .inl #[#[xs,q,ah _],(),hd ys H hy p]
theorem mM {lo:Int} (Pv:Nat->List V->Hp->Prop) (hz:n<=ww) (h0:Pv 0 [] H)
  (hs:∀i ys H,i < n->ys.9<=i->Pv i ys H->tW σ₀ g tf te (.int (lo+i)) H (λy H'=>Pv (i+1) (ys++[y]) H') (λH'=>Pv (i+1) ys H'))
  (hd:∀ys H,ys.9<=n->Pv n ys H->∀p,H p=none->Q (.ref p) (upd H p (.lst ys))):uh (KH lo n) σ₀ g tf te Q H:=by
 refine #[λi m ys H=>m=n - i/\i<=n/\ys.9<=i/\Pv i ys H,#[n,by simp,a7 _,a7 _,h0],?_];rintro i m ys H ⟨rfl,hi,hy,p⟩;by_cases hlt:i < n
 ·refine .inr #[hlt,(),λy H'=>Pv (i+1) (ys++[y]) H',λH'=>Pv (i+1) ys H',λy H' p'=>#[n - (i+1),(),rfl,hlt,by rw[ai,aT];lia,p'],λH' p'=>#[n - (i+1),(),rfl,hlt,(),p'],λx H' y=>?_];obtain e|y:=y;subst e y;exact hs i ys _ hlt hy p
 ·have e:i=n:=()
  subst e;exact .inl #[ah _,(),hd ys H hy p]
end
open Nm
def iH (i j:Int):Prop:=WI i j\/∃m n,Sz m i/\Sz n j/\m+n<=100000000
def rE (i j:Int):Prop:=j≠0/\Sz 8999000 j
theorem Cj (h:Sz k i):On.Int.intBits i<=k:=by
 unfold On.Int.intBits;by_cases e:i=0
 ·subst e;simp
 ·have e':(i == 0)=false:=by simpa using e
  rw[e'];have hn:i.natAbs≠0:=()
  have:=(Nat.log2_lt hn).mpr h;simp only[kh,if_false]
  lia
theorem iH.ok (h:iH i j):IntMulOk i j:=by
 rcases h with h | ⟨m,n,h1,h2,h3⟩
 ·exact h.ok
 ·exact .of_le (Cj h1) (Cj h2) (ag h3 ())
section
variable {X:Cx} {a b:Expr} {ta tb:TE} {pos:Pos}
theorem dn:yD X (binaryOp .Mult) (rI iH λi j=>.int (i*j)):=YZ λ_ _ _ _ _ _ _ hc q=>mul_int q hc.ok
theorem j4 (hs:X.stack=env :: l) (S:wg N ps sc) (he:env.scope=sc) (hb:env.builtins=builtinsNs) (hg:env.globals=xz) (ht:X.prog.given.tree=none) (hd:X.A.depth+On.pylongFrames < recursionLimit):yD X (binaryOp .FloorDiv) (rI rE λi j=>.int (i.fdiv j)):=by
 intro pins s σ H x y v u Q I rx ry h;obtain i|j|rfl|rfl|hc|q:=h;obtain t|rfl:=rx;obtain t'|rfl:=ry;refine floordiv_int hc.1 #[.int _,H,I.tok _,#[_,rfl],q] (.inr (PySem.PylongRoom.of I.nolimit hd (PySem.SeerAt.of (I.ok.mod.seer.keeps I.bk) ht (env:=env) (l:=l) (by rw[I.ok.frames,hs]) (by rw[he];exact S.gen) (by rw[he];exact S.co) hb hg)))
theorem wQ (hr:mO k A):A.depth+On.pylongFrames < recursionLimit:=by have:=hr.dp;show A.depth+100 < _;lia
def WZ (t u:TS):TS:=λD σ H=>∃N:St->Hp->Prop,t { D with nx:=N } σ H/\∀σ' H',N σ' H'->u D σ' H'
theorem jC {st:Stmt} (h1:PS X st t) (h2:KG X rest u):KG X (st :: rest) (WZ t u):=by
 intro pins s σ H D I h;obtain N|h|k:=h;refine wpAny_execs_cons (iQ (h1 pins s σ H { D with nx:=N } I h) λf s1 q=>?_);cases f with
 | next =>
  obtain σ'|H'|I'|q:=q;exact h2 pins s1 σ' H' D I' (k _ _ q)
 | ret v=>exact q
 | brk=>exact q
 | cont=>exact q
def Uu (K:FG9):V->V->Hp->VK->Prop:=λo i H Q=>∃p xs k v,o=.ref p/\i=.int k/\bI K H p xs/\LZ xs k=some v/\Q v H
theorem QC:Yn X (Uu X.K):=by
 intro pins s σ H o i ov iv Q I ro ri h;obtain p|xs|k|z|rfl|rfl|hq|he|q:=h;cases ro;obtain t|rfl:=ri;obtain its|r|pl|hz:=I.list hq;obtain j|h1|h2|h3|h4|h5:=Ho he;obtain w|ew|rw':=r.get h2;have hl:=r.9;have hn:=BV;have fin:EP X pins σ Q w s:=#[z,H,I,rw',q];by_cases h0:0<=k
 ·have hj:k.toNat=j:=by
   rw[seqIndex_of h0 h5] at h1;exact bY h1
  exact wpAny_getItem_list pl.isList h0 () (by rw[hj];simpa using ew) fin
 ·have hj:(k+(its.5.7:Int)).toNat=j:=by
   rw[seqIndex_neg () h4] at h1;rw[aG,<- hl];exact bY h1
  exact wpAny_getItem_list_neg pl.isList () (by rw[aG] <;> lia) () (by rw[hj];simpa using ew) fin
def Lc (K:FG9) (T:String):V->Hp->VK->Prop:=λx H Q=>∃t b,xC K H x t/\PySem.W.kitOne K t (.type T)=some b/\Q (.bl b) H
theorem qP {c:Str} {T:String} {p p2:Pos} (hg:Gl X "isinstance") (hm:X.mg "isinstance"=none) (hb:XV c=some (.type T)) (hmc:X.mg c=none) (ha:PE X a ta) (hgc:Gl X c:=by rfl) (hn:c≠"__name__":=by decide)
  (hd:(c == ("__debug__":Str))=false:=by decide) (he:r8 [a,.Name c p2] X.env=[(false,eval a X.env),(false,eval (.Name c p2) X.env)]:=by rfl)
  (hpl:(backTo pos (r8 [.Name c p2] X.env)).any (·.1)=false:=by rfl) (he2:r8 [.Name c p2] X.env=[(false,eval (.Name c p2) X.env)]:=by rfl):PE X (.Call (.Name "isinstance" p) [a,.Name c p2] [] pos) (YB (Lc X.K T) ta):=by
 intro pins s σ H Q I h;refine GM (mL I hg hm Ze ?_);have hA:PA X [a,.Name c p2] (jY ta (jY (tC (.ty T)) Cv)):=fo ha (fo (AA hgc hmc hb rfl hn hd) ir he2) (by rw[he,he2])
 have hq:jY ta (jY (tC (.ty T)) Cv) σ H (λvs H1=>∃x,vs=[x,.ty T]/\Lc X.K T x H1 Q):=by
  show ta σ H λx H1=>∃x',[x,V.ty T]=[x',V.ty T]/\Lc X.K T x' H1 Q
  have e:(λx H1=>∃x',[x,V.ty T]=[x',V.ty T]/\Lc X.K T x' H1 Q)=λx H1=>Lc X.K T x H1 Q:=by
   funext x H1;apply propext;constructor
   ·rintro ⟨x',e,q⟩;cases e;exact q
   ·intro q;exact #[x,rfl,q]
  rw[e];exact h
 refine UV (iQ (hA pos pins s σ H _ I hq) λus s1 #[vs,H1,I1,r1,x,e,q1]=>?_) (by rw[he,he2]) hpl;subst e;obtain u|w'|rfl|ru|rt:=vals2 r1;cases rt;obtain t|bb|ty|ek|q:=q1;exact Ek I1 ru ty ek λtk=>#[.bl bb,H1,I1.tok tk,rfl,q]
end
structure Kind (α:Type) [DecidableEq α] where
 R:FG9->Hp->V->α->Prop
 d:Nat
 inj:∀{X:Cx} {pins:List (Addr×Obj)} {σ:St} {H:Hp} {s:nw} {x:V} {a b:α},Inv X pins σ H s->R X.K H x a->R X.K H x b->a=b
 rc:∀{X:Cx} {pins:List (Addr×Obj)} {σ:St} {H:Hp} {s:nw} {x y:V} {v u:Value} {a b:α} {A:Ix},Inv X pins σ H s->RelV x v->RelV y u->R X.K H x a->R X.K H y b->A.units+d < Op->Zx A s v u (decide (a=b))
 ne:∀{X:Cx} {pins:List (Addr×Obj)} {σ:St} {H:Hp} {s:nw} {x y:V} {v u:Value} {a b:α} {A:Ix},Inv X pins σ H s->RelV x v->RelV y u->R X.K H x a->R X.K H y b->A.units+d < Op->Tk A s v u (!decide (a=b))
 eq:∀{X:Cx} {pins:List (Addr×Obj)} {σ:St} {H:Hp} {s:nw} {x y:V} {v u:Value} {a b:α} {A:Ix},Inv X pins σ H s->RelV x v->RelV y u->R X.K H x a->R X.K H y b->A.units+d < Op->Ch A s v u (decide (a=b))
def Jy:Kind Int where
 R:=λ_ _ x i=>x=.int i
 d:=0
 inj:=λ_ h1 h2=>by rw[h1] at h2;cases h2;rfl
 rc:=λ{X pins σ H s x y v u a b A} I rx ry h1 h2 _=>by
  subst h1 h2;obtain t|rfl:=rx;obtain t'|rfl:=ry;have q:=Zx.int_int (A:=A) (s:=s) a t b t';rwa [iP] at q
 ne:=λ{X pins σ H s x y v u a b A} I rx ry h1 h2 _=>by
  subst h1 h2;obtain t|rfl:=rx;obtain t'|rfl:=ry;have q:=Tk.int_int (A:=A) (s:=s) a t b t';rwa [iP] at q
 eq:=λ{X pins σ H s x y v u a b A} I rx ry h1 h2 _=>by
  subst h1 h2;obtain t|rfl:=rx;obtain t'|rfl:=ry;have q:=Ch.int_int (A:=A) (s:=s) a t b t';rwa [iP] at q
theorem mF {α β:Type} {F:α->β->Prop}:∀{l1:List α} {l2:List β} {i:Nat} (_:jp F l1 l2) (h1:i < l1.9) (h2:i < l2.9),F l1[i] l2[i]
 | _,_,_,.nil,h1,_=>absurd h1 (dw _)
 | _,_,0,.cons r _,_,_=>r
 | _,_,i+1,.cons _ t,h1,h2=>mF (i:=i) t (Nat.lt_of_succ_lt_succ h1) (Nat.lt_of_succ_lt_succ h2)
theorem ph {α β:Type} {F:α->β->Prop} (hF:∀a b x,F a x->F b x->a=b):∀{l1 l2:List α} {l:List β},jp F l1 l->jp F l2 l->l1=l2
 | _,_,_,.nil,.nil=>rfl
 | _,_,_,.cons r t,.cons r' t'=>by rw[hF _ _ _ r r',ph hF t t']
theorem yr {α:Type} [DecidableEq α] (as bs:List α) (h:as.9=bs.9):(on as.9).all (λj=>decide (as[j]?=bs[j]?))=decide (as=bs):=by
 rw[kH,rK,decide_eq_true_iff];constructor
 ·intro q;apply dM;intro i;by_cases hi:i < as.9
  ·exact of_decide_eq_true (q i (jP.mpr hi))
  ·rw[aE (),aE ()]
 ·rintro rfl i _;simp
section
variable {α:Type} [DecidableEq α] (k:Kind α)
theorem Kind.items {X:Cx} {pins:List (Addr×Obj)} {σ:St} {H:Hp} {s:nw} {A:Ix} (I:Inv X pins σ H s) (hA:A.units+k.d < Op) {xs ys:List V} {us ws:List Value} {as bs:List α}
  (rx:c7 xs us) (ry:c7 ys ws) (ha:jp (λa x=>k.R X.K H x a) as xs) (hb:jp (λa x=>k.R X.K H x a) bs ys) :
  ∀j (h1:j < us.5.7) (h2:j < ws.5.7),Ch A s us.5[j] ws.5[j] (decide (as[j]?=bs[j]?)):=λj h1 h2=>by
 have l1:j < us.9:=by simpa using h1
 have l2:j < ws.9:=by simpa using h2
 have e1:=rx.9;have e2:=ry.9;have e3:=ha.9;have e4:=hb.9;obtain u|hu|ru:=rx.get (i:=j) (x:=xs[j]'()) (by simp);obtain w|hw|rw':=ry.get (i:=j) (x:=ys[j]'()) (by simp);have q:=k.eq (A:=A) I ru rw' (mF ha () ()) (mF hb () ()) hA
 have eu:us.5[j]=u:=by
  have:=hu;rw[ae l1] at this;simpa using this
 have ew:ws.5[j]=w:=by
  have:=hw;rw[ae l2] at this;simpa using this
 rw[eu,ew,ae (show j < as.9 by lia),ae (show j < bs.9 by lia)];have e5:decide (some as[j]=some bs[j])=decide (as[j]=bs[j]):=by simp
 rw[e5];exact q
theorem EU {α:Type} [DecidableEq α] (as bs:List α) {n m:Nat} (h1:as.9=n) (h2:bs.9=m):((on (min n m)).all (λj=>decide (as[j]?=bs[j]?)) && n == m)=decide (as=bs):=by
 subst h1 h2;by_cases e:as.9=bs.9
 ·rw[show min as.9 bs.9=as.9 by lia,yr as bs e];simp [e]
 ·have h1:(as.9 == bs.9)=false:=by simpa using e
  rw[h1,Bool.and_false];exact (decide_eq_false λz=>e (by rw[z])).symm
def Y2:Kind (List α) where
 R:=λK H x as=>∃p xs,x=.ref p/\jN K H p xs/\jp (λa x=>k.R K H x a) as xs
 d:=k.d+1
 inj:=λ{X pins σ H s x a b} I h1 h2=>by
  obtain p|xs|rfl|hp|pa:=h1;obtain q|ys|e|hq|pb:=h2;cases e;have e:=I.tuple_inj hp hq;subst e;exact ph (F:=λa x=>k.R X.K H x a) (λa b x=>k.inj I) pa pb
 rc:=λ{X pins σ H s x y v u a b A} I rx ry h1 h2 hA=>by
  obtain p|xs|rfl|hp|pa:=h1;obtain q|ys|rfl|hq|pb:=h2;cases rx;cases ry;obtain us|r1|t1|_:=I.tuple hp;obtain ws|r2|t2|_:=I.tuple hq;have z:=Tl (A:=A) (e:=λj=>decide (a[j]?=b[j]?)) (show s.heap.IsTuple p us.toArray from t1) (show s.heap.IsTuple q ws.toArray from t2) () (k.items (A:=A.in1) I (by show A.units+1+k.d < Op;lia) r1 r2 pa pb);rwa [EU a b (by rw[pa.9,r1.9];simp) (by rw[pb.9,r2.9];simp)] at z
 ne:=λ{X pins σ H s x y v u a b A} I rx ry h1 h2 hA=>by
  obtain p|xs|rfl|hp|pa:=h1;obtain q|ys|rfl|hq|pb:=h2;cases rx;cases ry;obtain us|r1|t1|_:=I.tuple hp;obtain ws|r2|t2|_:=I.tuple hq;have z:=Tk.tuples (A:=A) (e:=λj=>decide (a[j]?=b[j]?)) (show s.heap.IsTuple p us.toArray from t1) (show s.heap.IsTuple q ws.toArray from t2) () (k.items (A:=A.in1) I (by show A.units+1+k.d < Op;lia) r1 r2 pa pb);rwa [EU a b (by rw[pa.9,r1.9];simp) (by rw[pb.9,r2.9];simp)] at z
 eq:=λ{X pins σ H s x y v u a b A} I rx ry h1 h2 hA=>by
  obtain p|xs|rfl|hp|pa:=h1;obtain q|ys|rfl|hq|pb:=h2;cases rx;cases ry;by_cases e:p=q
  ·subst e;have e:=I.tuple_inj hp hq;subst e;rw[ph (F:=λa x=>k.R X.K H x a) (λa b x=>k.inj I) pa pb,decide_eq_true rfl];exact Zn _
  ·obtain us|r1|t1|_:=I.tuple hp;obtain ws|r2|t2|_:=I.tuple hq;have z:=Tl (A:=A) (e:=λj=>decide (a[j]?=b[j]?)) (show s.heap.IsTuple p us.toArray from t1) (show s.heap.IsTuple q ws.toArray from t2) () (k.items (A:=A.in1) I (by show A.units+1+k.d < Op;lia) r1 r2 pa pb);rw[EU a b (by rw[pa.9,r1.9];simp) (by rw[pb.9,r2.9];simp)] at z;exact .of_refs e z
theorem Lr {X:Cx} {pins:List (Addr×Obj)} {σ:St} {H:Hp} {s:nw} {p q:Addr} {xs ys:List V} {a b:List α} {A:Ix} (I:Inv X pins σ H s) (hp:bI X.K H p xs) (hq:bI X.K H q ys)
  (pa:jp (λa x=>k.R X.K H x a) a xs) (pb:jp (λa x=>k.R X.K H x a) b ys) (hA:A.units+(k.d+1) < Op) :
  Zx A s (.ref p) (.ref q) (decide (a=b))/\Tk A s (.ref p) (.ref q) (!decide (a=b)):=by
 obtain us|r1|t1|_:=I.list hp;obtain ws|r2|t2|_:=I.list hq;have l1:=r1.9;have l2:=r2.9;have l3:=pa.9;have l4:=pb.9;by_cases e:us.9=ws.9
 ·have it:=k.items (A:=A.in1) I (by show A.units+1+k.d < Op;lia) r1 r2 pa pb;have z:=Zx.lists (A:=A) (e:=λj=>decide (a[j]?=b[j]?)) t1.isList t2.isList (by simpa using e) () it;have z2:=Tk.lists (A:=A) (e:=λj=>decide (a[j]?=b[j]?)) t1.isList t2.isList (by simpa using e) () it;have e1:us.5.7=a.9:=by rw[aG];lia
  rw[e1,yr a b ()] at z z2;exact #[z,z2]
 ·have hne:¬a=b:=λz=>e (by have:=congrArg FS z;lia)
  rw[decide_eq_false hne];exact #[Zx.lists_lengths t1.isList t2.isList (by simpa using e) (),Tk.lists_lengths t1.isList t2.isList (by simpa using e) ()]
def To:Kind (List α) where
 R:=λK H x as=>∃p xs,x=.ref p/\bI K H p xs/\jp (λa x=>k.R K H x a) as xs
 d:=k.d+1
 inj:=λ{X pins σ H s x a b} I h1 h2=>by
  obtain p|xs|rfl|hp|pa:=h1;obtain q|ys|e|hq|pb:=h2;cases e;have e:=I.list_inj hp hq;subst e;exact ph (F:=λa x=>k.R X.K H x a) (λa b x=>k.inj I) pa pb
 rc:=λ{X pins σ H s x y v u a b A} I rx ry h1 h2 hA=>by
  obtain p|xs|rfl|hp|pa:=h1;obtain q|ys|rfl|hq|pb:=h2;cases rx;cases ry;exact (Lr k I hp hq pa pb hA).1
 ne:=λ{X pins σ H s x y v u a b A} I rx ry h1 h2 hA=>by
  obtain p|xs|rfl|hp|pa:=h1;obtain q|ys|rfl|hq|pb:=h2;cases rx;cases ry;exact (Lr k I hp hq pa pb hA).2
 eq:=λ{X pins σ H s x y v u a b A} I rx ry h1 h2 hA=>by
  obtain p|xs|rfl|hp|pa:=h1;obtain q|ys|rfl|hq|pb:=h2;cases rx;cases ry;by_cases e:p=q
  ·subst e;have e:=I.list_inj hp hq;subst e;rw[ph (F:=λa x=>k.R X.K H x a) (λa b x=>k.inj I) pa pb,decide_eq_true rfl];exact Zn _
  ·exact .of_refs e (Lr k I hp hq pa pb hA).1
def Kind.via {β:Type} [DecidableEq β] (f:β->α) (fi:∀a b,f a=f b->a=b) (R':FG9->Hp->V->β->Prop) (im:∀{K H x b},R' K H x b->k.R K H x (f b)):Kind β where
 R:=R'
 d:=k.d
 inj:=λI h1 h2=>fi _ _ (k.inj I (im h1) (im h2))
 rc:=λ{X pins σ H s x y v u a b A} I rx ry h1 h2 hA=>by
  have z:=k.rc (A:=A) I rx ry (im h1) (im h2) hA;rwa [decide_eq_decide.mpr (show f a=f b↔a=b from #[fi a b,λe=>by rw[e]])] at z
 ne:=λ{X pins σ H s x y v u a b A} I rx ry h1 h2 hA=>by
  have z:=k.ne (A:=A) I rx ry (im h1) (im h2) hA;rwa [decide_eq_decide.mpr (show f a=f b↔a=b from #[fi a b,λe=>by rw[e]])] at z
 eq:=λ{X pins σ H s x y v u a b A} I rx ry h1 h2 hA=>by
  have z:=k.eq (A:=A) I rx ry (im h1) (im h2) hA;rwa [decide_eq_decide.mpr (show f a=f b↔a=b from #[fi a b,λe=>by rw[e]])] at z
end
def yy (K:FG9) (H:Hp) (x:V) (n:Int×Int):Prop:=∃p,x=.ref p/\jN K H p [.int n.1,.int n.2]
def X3:Kind (Int×Int):=(Y2 Jy).via (λn=>[n.1,n.2]) (λa b e=>by cases a;cases b;simp at e;rw[e.1,e.2]) yy λ#[p,e,h]=>#[p,_,e,h,.cons rfl (.cons rfl .nil)]
def XQ (K:FG9):R2:=λx y H Q=>∃(α:Type) (_:DecidableEq α) (k:Kind α) (a b:α),k.d<=50/\k.R K H x a/\k.R K H y b/\Q (.bl (decide (a=b))) H
def XN (K:FG9):R2:=λx y H Q=>∃(α:Type) (_:DecidableEq α) (k:Kind α) (a b:α),k.d<=50/\k.R K H x a/\k.R K H y b/\Q (.bl (!decide (a=b))) H
theorem zj (hu:X.A.units+50 < Op):yD X (NE .Eq) (XQ X.K):=by
 intro pins s σ H x y v u Q I rx ry h;obtain α|_|k|a|b|hd|ha|hb|q:=h;exact k.rc (A:=X.A) I rx ry ha hb () _ _ _ _ #[.bl (decide (a=b)),H,I,rfl,q]
theorem xp (hu:X.A.units+50 < Op):yD X (NE .NotEq) (XN X.K):=by
 intro pins s σ H x y v u Q I rx ry h;obtain α|_|k|a|b|hd|ha|hb|q:=h;exact k.ne (A:=X.A) I rx ry ha hb () _ _ _ _ #[.bl (!decide (a=b)),H,I,rfl,q]
theorem xx (hr:mO k A):A.units+50 < Op:=by have:=hr.units;lia
def Inner (H:Hp) (p q:Addr):Prop:=∃a b c:Int,H p=some (.lst [.int a,.int b,.int c,.ref q])
def dk (p:Addr) (H H':Hp):Prop:=(∀b o,H b=some o->b≠p->H' b=some o)/\∀q,Inner H p q->Inner H' p q
theorem dk.refl (H:Hp):dk p H H:=#[λ_ _ h _=>h,λ_ h=>h]
theorem dk.trans (a:dk p H H1) (b:dk p H1 H2):dk p H H2:=#[λc o h n=>b.1 c o (a.1 c o h n) n,λq h=>b.2 q (a.2 q h)]
theorem Inner.inj (h:Inner H p q) (h':Inner H p q'):q=q':=by
 obtain a|b|c|e:=h;obtain a'|b'|c'|e':=h';rw[e] at e';have:=HO.lst.inj (bY e');simp at this;exact this.2.2.2
theorem dk.set (h:H p=some (.lst [.int a,.int b,.int c,.ref q])):dk p H (upd H p (.lst [.int a',.int b',.int c',.ref q])) :=
 #[λb u h n=>by rw[bG n];exact h,λq' h'=>by
  rw[(Inner.inj #[a,b,c,h] h').symm];exact #[a',b',c',aN]]
theorem aH.upto (h:aH H H'):dk p H H':=#[λb o e _=>h b o e,λq #[a,b,c,e]=>#[a,b,c,h _ _ e]]
theorem aH.new (h:H p=PP):aH H (upd H p o):=λb u e=>by rw[bG (hZ e h)];exact e
theorem aH.sqt {K:FG9} (e:aH H H') (h:jN K H a xs):jN K H' a xs:=by
 rcases h with (h | ⟨o,h⟩) | h
 ·exact .inl (.inl (e _ _ h))
 ·exact .inl (.inr #[o,e _ _ h])
 ·exact .inr h
theorem aH.num {K:FG9} (e:aH H H') (h:yy K H x n):yy K H' x n:=by obtain p|q|r:=h;exact #[p,q,e.sqt r]
section
variable {σ:St} {H:Hp} {D:Ends}
theorem rg {t:TS} (e:σ0=σ) (h:t D σ H):t D σ0 H:=by rw[e];exact h
theorem SD (h:D.nx σ H):Ue D σ H:=h
theorem VC {g:TG} (h:te σ H λx H1=>g x σ H1 D.nx):Pe te g D σ H:=h
theorem PX (h:Q (σ.set i (some v)) H):El i v σ H Q:=h
theorem Vj (h:te σ H D.rt):W4 te D σ H:=h
theorem Vu (h:c σ H λb H1=>if b=true then t D σ H1 else u D σ H1):Xc c t u D σ H:=h
theorem SQ (h:te σ H λ_ H1=>D.nx σ H1):Ui te D σ H:=h
theorem Vm (h:ta σ H λvs H1=>∃v w,vs=[v,w]/\D.nx ((σ.set i (some v)).set j (some w)) H1):W5 i j ta D σ H:=h
theorem SW 
  (h:to σ H λo H1=>ti σ H1 λi H2=>tget o i H2 λx H3=>te σ H3 λy H4=>tip x y H4 λz H5=>tset o i z H5 λH6=>D.nx σ H6):Uj to ti te tget tip tset D σ H:=h
theorem Vt (h:Q (.int (f i j)) H):ipI f (.int i) (.int j) H Q:=#[i,j,rfl,rfl,h]
theorem Vw {g:TG} (h:wi σ H λJ H1=>∃W:Nat->Nat->St->Hp->Prop,(∃m,W 0 m σ H1)/\∀i m σ H,W i m σ H →
  (J.stop i H/\D.nx σ H)\/(J.go i H/\∃N:St->Hp->Prop,(∀σ' H',N σ' H'->∃m',m' < m/\W (i+1) m' σ' H')/\∀x H',J.yld i H x H'->g x σ H' λσ2 H2=>tb { D with nx:=N,ct:=N,bk:=D.nx } σ2 H2)):Xe wi g tb D σ H:=h
variable {Q:VK} {QA:List V->Hp->Prop} {QB:Bool->Hp->Prop}
theorem Vh (e:σ[i]?=some (some v)) (h:Q v H):UZ i σ H Q:=#[v,e,h]
theorem YQ (h:Q v H):tC v σ H Q:=h
theorem XE (h:ta σ H λx H1=>tb σ H1 λy H2=>r x y H2 Q):W6 r ta tb σ H Q:=h
theorem XA (h:ta σ H λx H1=>r x H1 Q):YB r ta σ H Q:=h
theorem XI {g:Int->Int->V} (h:Q (g i j) H):S0 g (.int i) (.int j) H Q:=#[i,j,rfl,rfl,h]
theorem gZ {g:Int->Int->V} (hc:C i j) (h:Q (g i j) H):rI C g (.int i) (.int j) H Q:=#[i,j,rfl,rfl,hc,h]
theorem YR {g:Int->V} (h:Q (g i) H):rU g (.int i) H Q:=#[i,rfl,h]
theorem VB (h:Q (.bl (decide (i=j))) H):YU (.int i) (.int j) H Q:=#[rfl,by
 have e:decide (V.int i=V.int j)=decide (i=j):=by simp
 rw[e];exact h]
theorem Vq (h:Q (.bl (!decide (i=j))) H):YS (.int i) (.int j) H Q:=#[rfl,by
 have e:decide (V.int i=V.int j)=decide (i=j):=by simp
 rw[e];exact h]
theorem VA (h:Q (.bl (decide (i=j))) H):YU (.str i) (.str j) H Q:=#[rfl,by
 have e:decide (V.str i=V.str j)=decide (i=j):=by simp
 rw[e];exact h]
theorem Vp (h:Q (.bl (!decide (i=j))) H):YS (.str i) (.str j) H Q:=#[rfl,by
 have e:decide (V.str i=V.str j)=decide (i=j):=by simp
 rw[e];exact h]
theorem Ss (h:t σ H λx H'=>∃k,x=.bl k/\QB k H'):Ua t σ H QB:=h
theorem XB (h:t σ H λx H'=>∃k,x=.bl k/\QB k H'):tB t σ H QB:=h
theorem VD (h:t σ H λc H1=>if c=true then u σ H1 QB else QB false H1):Xg t u σ H QB:=h
theorem XD (h:t σ H λc H1=>if c=true then QB true H1 else u σ H1 QB):tOr t u σ H QB:=h
theorem Vn (h:t σ H λc H1=>QB (!c) H1):W7 t σ H QB:=h
theorem SX (h:t σ H λx H1=>∃c,x=.bl c/\if c=true then u σ H1 Q else Q (.bl false) H1):Uk t u σ H Q:=h
theorem Sy (h:t σ H λx H1=>∃c,x=.bl c/\Q (.bl (!c)) H1):Ud t σ H Q:=h
theorem Vv (h:c σ H λb H1=>if b=true then ta σ H1 Q else tb σ H1 Q):tIf c ta tb σ H Q:=h
theorem Vg (h:QB true H):WX σ H QB:=h
theorem Vo (h:QA [] H):Cv σ H QA:=h
theorem SS (h:ta σ H λx H1=>tr σ H1 λxs H2=>QA (x :: xs) H2):jY ta tr σ H QA:=h
theorem SV (h:t σ H λvs H1=>sp vs H1 Q E):Pd sp [] E t σ H Q:=by
 have e:(λvs H1=>sp (vs++[]) H1 Q E)=λvs H1=>sp vs H1 Q E:=by funext vs H1;rw[oV]
 show t σ H λvs H1=>sp (vs++[]) H1 Q E
 rw[e];exact h
theorem XG (h:t σ H λvs H1=>r vs H1 Q):YM r t σ H Q:=h
theorem Vs {K:FG9} (hx:jN K H p xs) (e:LZ xs i=some v) (h:Q v H):VG K (.ref p) (.int i) H Q:=#[p,xs,i,v,rfl,rfl,hx,e,h]
theorem ck {K:FG9} (hx:bI K H p xs) (e:LZ xs i=some v) (h:Q v H):VH K (.ref p) (.int i) H Q:=#[p,xs,i,v,rfl,rfl,hx,e,h]
theorem SN {K:FG9} (hx:bI K H p xs) (e:LZ xs i=some v) (h:Q v H):Uu K (.ref p) (.int i) H Q:=#[p,xs,i,v,rfl,rfl,hx,e,h]
theorem fI (hx:H p=some (.lst xs)) (e:OT xs.9 i=some j) (ey:xs.set j v=ys) (h:QH (upd H p (.lst ys))):Ut (.ref p) (.int i) v H QH:=#[p,xs,i,j,rfl,rfl,hx,e,by rw[ey];exact h]
theorem SK (h:to σ H λo H1=>ti σ H1 λi H2=>t o i v H2 λH3=>QS σ H3):Yb to ti t v σ H QS:=h
theorem PY (h:t v σ H λσ' H'=>u r σ' H' QS):UH t u (v :: r) σ H QS:=#[v,r,rfl,h]
theorem SM (h:QS σ H):Yc [] σ H QS:=#[rfl,h]
theorem SJ {K:FG9} (hx:jN K H a xs) (hl:xs.9=n) (h:t xs σ H QS):Wc K n t (.ref a) σ H QS:=#[a,xs,rfl,hx,hl,h]
theorem XC (h:te σ H λx H1=>tl σ H1 λl H2=>th σ H2 λu H3=>r x l u H3 Q):tSl r te tl th σ H Q:=h
theorem NG (h:QO none H):Mn σ H QO:=h
theorem Sx (h:t σ H λx H1=>∃i,x=.int i/\QO (some i) H1):Uc t σ H QO:=h
variable {R:It->Hp->Prop} {K:FG9}
theorem PU (h:tl σ H λx H1=>∃a,x=.ref a/\(∃xs,bI K H1 a xs)/\R (T5 K a) H1):Qw K tl σ H R:=h
theorem SI (h:tl σ H λx H1=>∃a,x=.ref a/\(∃xs,jN K H1 a xs)/\R (T4 K a) H1):X8 K tl σ H R:=h
theorem PR (h:ta σ H λvs H1=>∃j:Int,vs=[.int j]/\-(2^62)<=j/\j < 2^62/\R (KH 0 j.toNat) H1):UD ta σ H R:=h
theorem PN (h:ta σ H λvs H1=>∃i j:Int,vs=[.int i,.int j]/\(-(2^62)<=i/\i < 2^62/\-(2^62)<=j/\j < 2^62)/\R (KH i (j - i).toNat) H1):UC ta σ H R:=h
theorem SU {g:TG} (e:OR k cap σ=σ₀) (h:wi σ H λJ H1=>uh J σ₀ g tf te Q H1):Iq wi k cap g tf te σ H Q:=by
 unfold Iq;rw[e];exact h
theorem Sr {g:TG} {NY:V->Hp->Prop} (h:g x σ H λσ2 H2=>tf σ2 H2 λb H3=>if b=true then te σ2 H3 NY else NN H3):tW σ g tf te x H NY NN:=h
theorem XH (h:to σ H λx H1=>YL K T x H1/\t σ H1 λxs H2=>r x xs H2 Q):tBM K T r to t σ H Q:=h
def Yp (Q:VK) (xs:List V) (H:Hp):Prop:=xs.9<=ww/\∀p,H p=none->Q (.ref p) (upd H p (.tup xs))
def Yq (Q:VK) (xs:List V) (H:Hp):Prop:=xs.9<=ww/\∀p,H p=none->Q (.ref p) (upd H p (.lst xs))
theorem Vi (h:t σ H (Yp Q)):WY t σ H Q:=h
theorem Vr (h:t σ H (Yq Q)):W8 t σ H Q:=h
theorem kK (h:Nat.ble n 1000=true):n<=ww:=cA (cX (Nat.le_of_ble_eq_true h))
theorem bS {xs:List V} (h:∀p H',aH H H'->H' p=some (.tup xs)->Q (.ref p) H') (hl:Nat.ble xs.9 1000=true:=by rfl):Yp Q xs H :=
 #[kK hl,λp hp=>h p _ (aH.new hp) aN]
theorem c6 {xs:List V} (h:∀p H',aH H H'->H p=none->H' p=some (.lst xs)->Q (.ref p) H') (hl:Nat.ble xs.9 1000=true:=by rfl):Yq Q xs H :=
 #[kK hl,λp hp=>h p _ (aH.new hp) hp aN]
theorem X6 {A B:Prop} (h:B):if (!true)=true then A else B:=Tq h
theorem X7 {A B:Prop} (h:A):if (!false)=true then A else B:=X4 h
def WB (tb:TS) (D:Ends) (Pv:St->Hp->Prop) (μ:St->Hp->Nat) (n:Nat) (σ:St) (H:Hp):Prop:=∃N:St->Hp->Prop,(∀σ' H',N σ' H'->∃m',m' < n/\(m'=μ σ' H'/\Pv σ' H'))/\tb { D with nx:=N,ct:=N,bk:=D.nx } σ H
theorem Uq (h:tb { D with nx:=λσ' H'=>Pv σ' H'/\μ σ' H' < n,ct:=λσ' H'=>Pv σ' H'/\μ σ' H' < n,bk:=D.nx } σ H):WB tb D Pv μ n σ H :=
 #[_,λσ' H' #[p,l]=>#[_,l,rfl,p],h]
theorem ER (Pv:St->Hp->Prop) (μ:St->Hp->Nat) (h0:Pv σ H) (hs:∀σ H,Pv σ H->c σ H λb H1=>if b=true then WB tb D Pv μ (μ σ H) σ H1 else D.nx σ H1):Pc c tb D σ H:=by
 refine #[λm σ H=>m=μ σ H/\Pv σ H,#[_,rfl,h0],?_];rintro m σ H ⟨rfl,p⟩;exact hs σ H p
end
def jm (H:Hp) (p:Addr):Prop:=∃(q:Addr) (a b c:Int) (cs:List Int),H p=some (.lst [.int a,.int b,.int c,.ref q])/\H q=some (.lst (cs.map V.int))/\0<=a/\0<=c/\c<=(cs.9:Int)/\∀x∈cs,(0:Int)<=x
theorem Oz {H:Hp} {cs:List Int} (hp:H p=some (.lst [.int a,.int b,.int c,.ref q])) (hq:H q=some (.lst (cs.map V.int))):q≠p:=λe=>by
 rw[e,hp] at hq;have h:=HO.lst.inj (bY hq);cases cs with
 | nil=>cases h
 | cons x1 cs=>cases cs with
  | nil=>cases h
  | cons x2 cs=>cases cs with
   | nil=>cases h
   | cons x3 cs=>cases cs with
    | nil=>cases h
    | cons x4 cs=>simp at h
theorem jm.same (h:jm H p) (e:aH H H'):jm H' p:=by obtain q|a|b|c|cs|h1|h2|r:=h;exact #[q,a,b,c,cs,e _ _ h1,e _ _ h2,r]
theorem dk.tup {H H':Hp} {p r:Addr} {xs:List V} (u:dk p H H') (B:jm H p) (h:H r=some (.tup xs)):H' r=some (.tup xs):=by
 obtain q|a|b|c|cs|h1|_:=B;exact u.1 r _ h λe=>by rw[e,h1] at h;cases h
theorem dk.other (u:dk p H H') (n:r≠p) (h:H r=some o):H' r=some o:=u.1 r _ h n
theorem jm.inner (h:jm H p):∃q,Inner H p q/\∃xs,H q=some (.lst xs):=by obtain q|a|b|c|cs|h1|h2|_:=h;exact #[q,#[a,b,c,h1],_,h2]
theorem jm.upd (h:jm H p) (hi:Inner H p q) (n1:r≠p) (n2:r≠q):jm (L2.upd H r o) p:=by
 obtain q'|a|b|c|cs|h1|h2|z:=h;have e:q'=q:=Inner.inj #[a,b,c,h1] hi;subst e;exact #[q',a,b,c,cs,by rw[bG n1.symm];exact h1,by rw[bG n2.symm];exact h2,z]
theorem Inner.upd (hi:Inner H p q) (n1:r≠p):Inner (L2.upd H r o) p q:=by obtain a|b|c|h:=hi;exact #[a,b,c,by rw[bG n1.symm];exact h]
def RZ:Sp:=λvs H Q _=>∃p n,vs=[.ref p,.int n]/\jm H p/\0 < n/\n < 2^64/\∀v H',0<=v->v < n->jm H' p->dk p H H'->Q (.int v) H'
inductive Pp (K:FG9) (vs:List V) (H:Hp) (Q:VK) (E9:XK):Prop
 | mk (a:Addr) (ns:List Int):vs=[.ref a]->bI K H a (ns.map V.int)->ns.9<=63->(∀p H',H p=none->jm H' p->aH H H'->Q (.ref p) H')->Pp K vs H Q E9
inductive A5 (K:FG9) (vs:List V) (H:Hp) (Q:VK) (E9:XK):Prop
 | mk (a:Addr) (ns:List Int):vs=[.ref a]->bI K H a (ns.map V.int)->ns.9<=63->(∀H',Q (.bl true) H')->A5 K vs H Q E9
def U6:Sp:=λvs H Q _=>∃t b,vs=[.int t,.int b]/\0 < b/\Sz 8999000 b/\∀r H',aH H H'->H' r=some (.tup [.int (lo t b),.int (hi t b)])->Q (.ref r) H'
def Xn:Sp:=λvs H Q _=>∃a b,vs=[.int a,.int b]/\Q (.int (g a b)) H
def Nu:Sp:=λvs H Q _=>∃t b,vs=[.int t,.int b]/\b≠0/\Sz 8999000 b/\∀r H',aH H H'->H' r=some (.tup [.int (lo (if b < 0 then -t else t) (if b < 0 then -b else b)),.int (hi (if b < 0 then -t else t) (if b < 0 then -b else b))])->Q (.ref r) H'
def UI (a b c d:Int):Int:=a*d+c*b
def QQ (a b c d:Int):Int:=a*d - c*b
def QP (a _b c _d:Int):Int:=a*c
def Mx (K:FG9) (f:Int->Int->Int->Int->Int):Sp:=λvs H Q _=>∃p q a b c d,vs=[.ref p,.ref q]/\jN K H p [.int a,.int b]/\jN K H q [.int c,.int d]/\0 < b/\0 < d/\Sz 4000000 a/\Sz 4000000 b/\Sz 4000000 c/\Sz 4000000 d /\
 ∀r H',aH H H'->H' r=some (.tup [.int (lo (f a b c d) (b*d)),.int (hi (f a b c d) (b*d))])->Q (.ref r) H'
def Sa (K:FG9):Sp:=λvs H Q _=>∃p q a b c d,vs=[.ref p,.ref q]/\jN K H p [.int a,.int b]/\jN K H q [.int c,.int d]/\0 < b/\0 < d/\c≠0/\Sz 4000000 a/\Sz 4000000 b/\Sz 4000000 c/\Sz 4000000 d /\
 ∀r H',aH H H'->H' r=some (.tup [.int (lo (if c < 0 then 0 - a*d else a*d) (if c < 0 then 0 - b*c else b*c)),.int (hi (if c < 0 then 0 - a*d else a*d) (if c < 0 then 0 - b*c else b*c))])->Q (.ref r) H'
theorem bR {α β:Type} {F:α->β->Prop}:∀{l1 l1':List α} {l2 l2':List β},jp F l1 l2->jp F l1' l2'->jp F (l1++l1') (l2++l2')
 | _,_,_,_,.nil,h=>h
 | _,_,_,_,.cons r t,h=>.cons r (bR t h)
theorem dO {h:Heap} (ha:h.get? a=some o) (hb:h.get? b=some u) (hc:o.cls≠u.cls):a≠b:=λe=>by
 subst e;rw[ha] at hb;cases hb;exact hc rfl
theorem oY (h:a≠b):KT a≠KT b:=λe=>h (by injection e)
theorem Dz {z TI TO i1 i2 l1 l2:Addr} (hz:IsZip h z TI TO f0) (hTI:Zq h TI (.ref i1) (.ref i2)) (hTO:Zq h TO a b)
  (h1:h.IsListIter i1 l1 k1) (h2:h.IsListIter i2 l2 k2) (hl1:h.IsList l1 xs) (hl2:h.IsList l2 ys) (hT:TI≠TO) (hi:i1≠i2):ZipApart z TI TO i1 i2 l1 l2:=by
 obtain o1|g1|c1|_:=h1;obtain o2|g2|c2|_:=h2;obtain p1|q1|d1|_:=hl1;obtain p2|q2|d2|_:=hl2;refine #[dO hTI hz ?_,dO hTO hz ?_,dO g1 hz ?_,dO g2 hz ?_,hT,dO hTI g1 ?_,dO hTI g2 ?_,dO hTO g1 ?_,dO hTO g2 ?_,hi,dO q1 hz ?_,dO q1 hTO ?_,dO q1 g1 ?_,dO q1 g2 ?_,dO q2 hz ?_,dO q2 hTO ?_,dO q2 g1 ?_,dO q2 g2 ?_]
 all_goals first
  | (rw[d1];first | (rw[c1];exact oY ()) | (rw[c2];exact oY ()) | exact oY ())
  | (rw[d2];first | (rw[c1];exact oY ()) | (rw[c2];exact oY ()) | exact oY ())
  | (rw[c1];exact oY ())
  | (rw[c2];exact oY ())
  | exact oY ()
def WD (K : FG9) (l1 l2 : Addr) : It :=
  #[λi H => ∃ xs ys x y, bI K H l1 xs /\ bI K H l2 ys /\ xs[i]? = some x /\ ys[i]? = some y,
   λi H v H' => ∃ p x y, v = .ref p /\ H p = none /\ H' = upd H p (.tup [x, y]) /\ (∀ xs, bI K H l1 xs → xs[i]? = some x) /\ ∀ ys, bI K H l2 ys → ys[i]? = some y,
   λi H => ∃ xs ys, bI K H l1 xs /\ bI K H l2 ys /\ (xs.9 ≤ i \/ ys.9 ≤ i)]
def tnZ (z TI TO i1 i2 l1 l2:Addr) (i:Nat) (h:Heap):Prop:=IsZip h z TI TO .none/\Zq h TI (.ref i1) (.ref i2)/\(∃a b,Zq h TO a b)/\h.IsListIter i1 l1 i/\h.IsListIter i2 l2 i
theorem O8 {P:Pi} {w:Uf} {K:FG9} {elts:List Expr} {kk:Nat} {tpos:Pos} (z TI TO i1 i2 l1 l2:Addr) (hT:TI≠TO) (hi:i1≠i2):Turn P w K (.Tuple elts kk tpos) (WD K l1 l2) [z,TI,TO,i1,i2] z (tnZ z TI TO i1 i2 l1 l2) where
 mem:=by simp
 obj:=λi h st b hb=>by
  obtain hz|hTI|⟨a,c,hTO⟩|⟨o1,g1,c1,d1⟩|⟨o2,g2,c2,d2⟩:=st;simp only[aJ,aX,or_false] at hb;rcases hb with rfl | rfl | rfl | rfl | rfl
  ·exact #[_,hz,λv q=>nomatch q]
  ·exact #[_,hTI,λv q=>nomatch q]
  ·exact #[_,hTO,λv q=>nomatch q]
  ·exact #[o1,g1,λv q=>by rw[d1] at q;cases q]
  ·exact #[o2,g2,λv q=>by rw[d2] at q;cases q]
 keep:=λi h h' st k=>by
  obtain hz|hTI|⟨a,c,hTO⟩|h1|h2:=st;exact #[k z (by simp) _ hz,k TI (by simp) _ hTI,#[a,c,k TO (by simp) _ hTO],h1.at λo e=>k i1 (by simp) o e,h2.at λo e=>k i2 (by simp) o e]
 item:=by
  intro X hP hw hK hc i pins s σ H E I hf st hg;subst hP hw hK;obtain hz|hTI|⟨a,c,hTO⟩|h1|h2:=st;obtain xs|ys|x|y|qx|qy|ex|ey:=hg;obtain us|rx|px|_:=I.list qx;obtain ws|ry|py|_:=I.list qy;obtain u|eu|ru:=rx.get ex;obtain v|ev|rv:=ry.get ey;have D:=Dz hz hTI hTO h1 h2 px.isList py.isList hT hi;refine wpAny_pyNext_zip_item D hz hTI hTO h1 h2 px.isList py.isList (x:=u) (y:=v) (by simpa using eu) (by simpa using ev) λh' a1 a2 a3 a4 a5 a6 hk=>?_
  refine #[_,rfl,wpAny_letOwnedTupleGo_zip a1 λh'' hz'' hs=>?_];have hT0:H s.6=none:=I.hok.fresh (ah _);have zne:s.6≠z:=Ng (o0 hz)
  have up:∀b o,b∉[z,TO,i1,i2]->s.heap.get? b=some o->h''.get? b=some o:=λb o hb e=>by
   simp only[aJ,aX,or_false,not_or] at hb;exact (hs.2 b hb.1).trans (hk b o hb.1 hb.2.1 hb.2.2.1 hb.2.2.2 e)
  have fx:∀b∈[z,TO,i1,i2],mP X pins H b:=λb hb=>hf b (by
   simp only[aJ,aX,or_false] at hb ⊢;rcases hb with rfl | rfl | rfl | rfl <;> simp)
  have nx:∀b o,H b=some o->b∉[z,TO,i1,i2]:=λb o e hb=>by
   have:=(fx b hb).1;rw[this] at e;cases e
  have nT:∀{b:Addr} {o:HO},H b=some o->b≠s.6:=λe q=>by rw[q,hT0] at e;cases e
  have tup:h''.get? s.6=some { cls:=.type "tuple",data:=.seq [u,v].toArray }:=(hs.2 _ zne).trans a5
  have I2:Inv X pins σ (upd H s.heap.objs.size (.tup [x,y])) { s with heap:=h'' }:=by
   refine I.step (g':=s.gens) (d':=s.drawn) (t':=s.toks) (ch:=[z,TO,i1,i2]) (λb hb=>?_) (λb o _ _ hb e _=>up b o hb e) (λb o _ _ hb e _=>#[o.slots,up b o hb e]) (λb o hb e n=>?_)
    (λb o hb e=>#[o,up b o hb e]) (λb q e=>by rw[bG (nT e)];exact e) (λb o q e=>by rw[bG (nT e)];exact e) (λb q e=>#[[].toArray,by rw[bG (nT e),e];simp]) (λm hm=>?_) (λb o e=>?_) I.bare
   ·obtain _|f1|_|f3|f4|f5:=fx b hb;exact #[f3,f1,f4,f5]
   ·rw[bG (cE (o0 e))];exact n
   ·obtain o|es|ep|ho|r:=hm;exact #[o,es,ep,up _ o (λz=>(fx _ z).2.1 rfl) ho,r]
   ·by_cases hb:b=s.6
    ·subst hb;rw[aN] at e;cases e;exact #[kK rfl,[u,v],.cons ru (.cons rv .nil),#[_,tup,rfl,_,rfl]]
    ·rw[bG hb] at e;refine (I.hok b o e).stay (λc v' hc q=>up c v' ?_ q) (λc q=>by rw[bG (nT q)];exact q) λc xs q=>by rw[bG (nT q)];exact q
     rcases hc with rfl | hc
     ·exact nx _ _ e
     ·exact nx _ _ hc
  refine #[.ref s.6,_,I2,rfl,#[_,x,y,rfl,hT0,rfl,λxs' q=>by rw[I.list_inj q qx];exact ex,λys' q=>by rw[I.list_inj q qy];exact ey],?_,λb hb=>?_]
  ·refine #[hz'',(hs.2 _ D.TIz).trans (hk _ _ D.TIz D.TITO D.TIi1 D.TIi2 hTI),#[_,_,(hs.2 _ D.TOz).trans a2],a3.at λo e=>(hs.2 _ D.i1z).trans e,a4.at λo e=>(hs.2 _ D.i2z).trans e]
  ·obtain ⟨o,e,_⟩:∃o,s.heap.get? b=some o/\True:=by
    obtain o1|g1|_:=h1;obtain o2|g2|_:=h2;simp only[aJ,aX,or_false] at hb;rcases hb with rfl | rfl | rfl | rfl | rfl
    ·exact #[_,hz,trivial]
    ·exact #[_,hTI,trivial]
    ·exact #[_,hTO,trivial]
    ·exact #[_,g1,trivial]
    ·exact #[_,g2,trivial]
   rw[bG (cE (o0 e))];exact (hf b hb).1
 done:=by
  intro X hP hw hK hc i pins s σ H E I hf st hg;subst hP hw hK;obtain hz|hTI|⟨a,c,hTO⟩|h1|h2:=st;obtain xs|ys|qx|qy|hend:=hg;obtain us|rx|px|_:=I.list qx;obtain ws|ry|py|_:=I.list qy;have lx:=rx.9;have ly:=ry.9;have D:=Dz hz hTI hTO h1 h2 px.isList py.isList hT hi
  refine wpAny_pyNext_zip_end (I.ok.hd hc) D hz hTI hTO h1 h2 px.isList py.isList (by
   rcases hend with q | q
   ·exact .inl (by simp;lia)
   ·exact .inr (by simp;lia)) λh' hk=>#[rfl,?_]
  have up:∀b o,b∉[z,TO,i1,i2]->s.heap.get? b=some o->h'.get? b=some o:=λb o hb e=>by
   simp only[aJ,aX,or_false,not_or] at hb;exact hk b o hb.1 hb.2.1 hb.2.2.1 hb.2.2.2 e
  have fx:∀b∈[z,TO,i1,i2],mP X pins H b:=λb hb=>hf b (by
   simp only[aJ,aX,or_false] at hb ⊢;rcases hb with rfl | rfl | rfl | rfl <;> simp)
  have nx:∀b o,H b=some o->b∉[z,TO,i1,i2]:=λb o e hb=>by
   have:=(fx b hb).1;rw[this] at e;cases e
  refine I.step (g':=s.gens) (d':=s.drawn) (t':=s.toks) (ch:=[z,TO,i1,i2]) (λb hb=>?_) (λb o _ _ hb e _=>up b o hb e) (λb o _ _ hb e _=>#[o.slots,up b o hb e]) (λb o hb e n=>n)
   (λb o hb e=>#[o,up b o hb e]) (λb q e=>e) (λb o q e=>e) (λb q e=>#[[].toArray,by rw[e];simp]) (λm hm=>?_) (λb o e=>?_) I.bare
  ·obtain _|f1|_|f3|f4|f5:=fx b hb;exact #[f3,f1,f4,f5]
  ·obtain o|es|ep|ho|r:=hm;exact #[o,es,ep,up _ o (λz=>(fx _ z).2.1 rfl) ho,r]
  ·refine (I.hok b o e).stay (λc v' hc q=>up c v' ?_ q) (λc q=>q) λc xs q=>q
   rcases hc with rfl | hc
   ·exact nx _ _ e
   ·exact nx _ _ hc
 self:=λ_ _ _ _ _ st h=>wpAny_pyIter_zip st.1 h
section
variable {X:Cx}
def V7 (K:FG9) (ta:TA):TI:=λσ H R=>ta σ H λvs H1=>∃l1 l2,vs=[.ref l1,.ref l2]/\(∃xs,bI K H1 l1 xs)/\(∃ys,bI K H1 l2 ys)/\R (WD K l1 l2) H1
theorem sX {a b:Expr} {ta:TA} {p pos tpos:Pos} {elts:List Expr} {kk:Nat} (hg:Gl X "zip") (hm:X.mg "zip"=none) (ha:PA X [a,b] ta) (hs:r8 [a,b] X.env=[(false,eval a X.env),(false,eval b X.env)]:=by rfl) (hs2:r8 [b] X.env=[(false,eval b X.env)]:=by rfl) :
  PI X (.Tuple elts kk tpos) (.Call (.Name "zip" p) [a,b] [] pos) (V7 X.K ta):=by
 intro pins s σ H R I h;refine Call_ (mL I hg hm boot_zip (AC (iQ (ha pos pins s σ H _ I h) λus s1 #[vs,H1,I1,r1,q1]=>?_) (by rw[hs,hs2]) (by rw[hs2];rfl)));obtain l1|l2|e|⟨xs,qx⟩|⟨ys,qy⟩|q:=q1;subst e;obtain u|v|rfl|ru|rv:=vals2 r1;cases ru;cases rv;obtain us|rx|px|_:=I1.list qx;obtain ws|ry|py|_:=I1.list qy;refine call_zip_2 px.isList py.isList λh' a1 a2 a3 a4 a5 a6 hk=>wpAny_pyIter_zip a1 ?_
 have I2:Inv X pins σ H1 { s1 with heap:=h' }:=I1.kept (t':=s1.toks) hk;refine #[_,[s1.6+4,s1.6+2,s1.6+3,s1.6,s1.6+1],_,_,H1,rfl,I2,O8 (s1.6+4) (s1.6+2) (s1.6+3) s1.heap.objs.size (s1.6+1) l1 l2 (cE (fR _)) (cE (fR _)),#[a1,a2,#[_,_,a3],a4,a5],λb hb=>?_,q]
 have hb':s1.6<=b:=by
  simp only[aJ,aX,or_false] at hb;rcases hb with rfl | rfl | rfl | rfl | rfl <;> first | exact Aa _ _ | exact ah _
 exact I1.fpOk hb' (I1.hok.fresh hb')
theorem Ci (hc:X.calm=true):pM X (.builtin "all") (λxs H Q=>∃(p:Addr) (bs:List Bool),xs=[.ref p]/\bI X.K H p (bs.map V.bl)/\Q (.bl (bs.all id)) H):=by
 intro pins s σ H xs us Q I r h;obtain p|bs|rfl|hp|q:=h;obtain u|rfl|ru:=vals1 r;cases ru;obtain vs|rv|pl|hz:=I.list hp
 have hb:PyProof.Rows.LSm.BoolsAre vs bs:=by
  clear q hp pl hz
  induction bs generalizing vs with
  | nil=>cases rv;exact .nil
  | cons b bs ih =>
   rw[gL] at rv;cases rv with
   | cons r1 r2=>cases r1;exact .cons b (ih _ r2)
 have hlt:p < s.6:=by obtain _|e|_:=pl.isList;exact o0 e
 refine call_all_walk (wpAny_pyIter_list pl.isList ?_)
 refine #[s.6,[s.6,p],[s.6],vs.5.7,_,_,λi=>(bs[i]?).getD true,rfl,Walks.list (A:=X.A.in1) (I.ok.hd hc) _ p (cE hlt) vs.5,
  #[#[_,At _ rfl,rfl,rfl],pl.isList.push _],λi v s' Q' E' hP hQ=>?_,λh' tk hk=>?_]
 ·obtain b|e|rfl:=hb.get i v (by simpa using hP);simp only[e,Option.getD_some] at hQ;exact Zh hQ
 ·have e:((on vs.5.7).all λi=>(bs[i]?).getD true)=bs.all id:=by
   rw[aG,hb.9];exact PyProof.Rows.LSm.range_all bs
  rw[e];exact #[.bl _,H,I.kept (t':=tk) (PyProof.Rows.LSm.kept_iter hk),rfl,q]
theorem Q8 (hc:X.calm=true):pM X (.builtin "sum") (λxs H Q=>∃(p:Addr) (ns:List Int),xs=[.ref p]/\bI X.K H p (ns.map V.int)/\Q (.int ns.sum) H):=by
 intro pins s σ H xs us Q I r h;obtain p|ns|rfl|hp|q:=h;obtain u|rfl|ru:=vals1 r;cases ru;obtain vs|rv|pl|_:=I.list hp;have hi:IntsAre vs ns:=intsAre_of rv;obtain xs|hx:=hi.allInts.items;have hl':s.heap.IsList p (intItems xs):=hx ▸ pl.isList;refine sum_intListG (I.ok.hd hc) hl' λh' tk t' hk=>?_
 have e1:ns=xs.toList.map (·.1):=by
  rw[<- nums_intItems,<- hx];exact (show numsOf vs.toArray.toList=ns from hi.numsOf).symm
 have e2:preSum (numAt xs) xs.7=ns.sum:=by
  rw[preSum_eq,aM (by simp),e1]
 rw[e2];exact #[.int _,H,I.kept (t':=tk) hk,#[_,rfl],q]
end
section
variable {K:FG9} {g:TG}
theorem vI (Pv:Nat->List V->Hp->Prop) (hz:xs.9<=ww) (hw:ws.9=xs.9) (h0:Pv 0 [] H) (hl:∀i ys H,i<=xs.9->Pv i ys H->bI K H l1 xs/\bI K H l2 ws)
  (hs:∀i x y ys H p,xs[i]?=some x->ws[i]?=some y->ys.9<=i->Pv i ys H->H p=none->tW σ₀ g tf te (.ref p) (upd H p (.tup [x,y])) (λy H'=>Pv (i+1) (ys++[y]) H') (λH'=>Pv (i+1) ys H'))
  (hd:∀ys H,ys.9<=xs.9->Pv xs.9 ys H->∀p,H p=none->Q (.ref p) (upd H p (.lst ys))):uh (WD K l1 l2) σ₀ g tf te Q H:=by
 refine #[λi m ys H=>m=xs.9 - i/\i<=xs.9/\ys.9<=i/\Pv i ys H,#[xs.9,by simp,a7 _,a7 _,h0],?_];rintro i m ys H ⟨rfl,hi,hy,p⟩;obtain q1|q2:=hl i ys H hi p;by_cases hlt:i < xs.9
 ·refine .inr #[#[xs,ws,xs[i],ws[i]'(),q1,q2,by simp [hlt],by simp],(),λy H'=>Pv (i+1) (ys++[y]) H',λH'=>Pv (i+1) ys H',λy H' p'=>#[xs.9 - (i+1),(),rfl,hlt,by rw[ai,aT];lia,p'],λH' p'=>#[xs.9 - (i+1),(),rfl,hlt,(),p'],λx H' y=>?_];obtain r|x'|y'|rfl|hr|rfl|e1|e2:=y;exact hs i x' y' ys _ r (e1 xs q1) (e2 ws q2) hy p hr
 ·have e:i=xs.9:=()
  subst e;exact .inl #[#[xs,ws,q1,q2,.inl (ah _)],(),hd ys H hy p]
theorem MX {tb:TS} {D:Ends} (Pv:Nat->St->Hp->Prop) (hw:ws.9=xs.9) (h0:Pv 0 σ H) (hl:∀i σ H,i<=xs.9->Pv i σ H->bI K H l1 xs/\bI K H l2 ws)
  (hs:∀i x y σ H p,xs[i]?=some x->ws[i]?=some y->Pv i σ H->H p=none->g (.ref p) σ (upd H p (.tup [x,y])) λσ2 H2=>tb { D with nx:=Pv (i+1),ct:=Pv (i+1),bk:=D.nx } σ2 H2) (hd:∀σ H,Pv xs.9 σ H->D.nx σ H) :
  ∃W:Nat->Nat->St->Hp->Prop,(∃m,W 0 m σ H)/\∀i m σ H,W i m σ H →
   ((WD K l1 l2).stop i H/\D.nx σ H)\/((WD K l1 l2).go i H/\∃N:St->Hp->Prop,(∀σ' H',N σ' H'->∃m',m' < m/\W (i+1) m' σ' H')/\∀x H',(WD K l1 l2).yld i H x H'->g x σ H' λσ2 H2=>tb { D with nx:=N,ct:=N,bk:=D.nx } σ2 H2):=by
 refine #[λi m σ H=>m=xs.9 - i/\i<=xs.9/\Pv i σ H,#[xs.9,by simp,a7 _,h0],?_];rintro i m σ H ⟨rfl,hi,p⟩;obtain q1|q2:=hl i σ H hi p;by_cases hlt:i < xs.9
 ·refine .inr #[#[xs,ws,xs[i],ws[i]'(),q1,q2,by simp [hlt],by simp],Pv (i+1),λσ' H' p'=>#[xs.9 - (i+1),(),rfl,hlt,p'],λx H' y=>?_];obtain r|x'|y'|rfl|hr|rfl|e1|e2:=y;exact hs i x' y' σ _ r (e1 xs q1) (e2 ws q2) p hr
 ·have e:i=xs.9:=()
  subst e;exact .inl #[#[xs,ws,q1,q2,.inl (ah _)],hd σ H p]
end
section
variable {X:Cx}
theorem pS (K:FG9) (n:Nat) {es:List Expr} {k:Nat} {pos:Pos} {t:RE} (h:Ym X es t) (hK:X.K=K:=by rfl) (hc:X.calm=true:=by rfl)
  (hn:(Zp es X.env).9=n:=by rfl) (hst:(Zp es X.env).findIdx? (·.1)=none:=by rfl):PG X (.Tuple es k pos) (Wc K n t):=by subst hK;exact xn hc h hn hst
theorem p9 (K:FG9) (hK:X.K=K):Yr X (VG K):=by subst hK;exact bH
theorem gF (K:FG9) (hK:X.K=K):Yr X (VH K):=by subst hK;exact bV
theorem Fx (K:FG9) (hK:X.K=K) (hu:X.A.units+50 < Op):yD X (NE .NotEq) (XN K):=by subst hK;exact xp hu
theorem xW (K:FG9) {tg l:Expr} {tl:TE} (hl:PE X l tl) (hK:X.K=K:=by rfl):PI X tg l (Qw K tl):=by subst hK;exact cM hl
theorem Bc (K:FG9) (hK:X.K=K):YE X (VE K):=by subst hK;exact E4
end
theorem fB {X:Cx} {e e':Expr} {es:List Expr} {te:TE} {t:TA} (h:e=e') (ha:PE X e' te) (hr:PA X es t) (hs:∀l,r8 (e' :: l) X.env=(false,eval e' X.env) :: r8 l X.env:=by intro _;rfl):PA X (e :: es) (jY te t):=by subst h;exact fo ha hr (hs _)
theorem jB (hl:H l=some (.lst xs)) (hz:xs.9 < ww) (h:Q .non (upd H l (.lst (xs++[y])))):MB (.ref l) [y] H Q:=#[l,xs,y,rfl,rfl,hl,hz,h]
theorem SH {K:FG9} (h:ta σ H λvs H1=>∃l1 l2,vs=[.ref l1,.ref l2]/\(∃xs,bI K H1 l1 xs)/\(∃ys,bI K H1 l2 ys)/\R (WD K l1 l2) H1):V7 K ta σ H R:=h
theorem jS (h1:H l=some (.lst xs)) (h2:H b=some (.lst zs)) (hz:xs.9+zs.9<=ww) (h:∀p H',aH H H'->H p=none->H' p=some (.lst (xs++zs))->Q (.ref p) H'):XR (.ref l) (.ref b) H Q :=
 #[l,b,xs,zs,rfl,rfl,h1,h2,hz,λp hp=>h p _ (aH.new hp) hp aN]
theorem La {K:FG9} {lo hi:Option Int} (h1:bI K H a xs) (h:∀p H',aH H H'->H p=none->H' p=some (.lst (uu xs lo hi))->Q (.ref p) H'):VE K (.ref a) lo hi H Q :=
 #[a,xs,rfl,h1,λp hp=>h p _ (aH.new hp) hp aN]
theorem nU {xs:List α} {i:Int} (h0:0<=i) (h1:i < xs.9):∃v,LZ xs i=some v/\v∈xs/\xs[i.toNat]?=some v:=by
 have hj:i.toNat < xs.9:=()
 refine #[xs[i.toNat],?_,aQ hj,by simp [hj]];have:=eG (xs:=xs) (j:=i.toNat) (v:=xs[i.toNat]) (by simp [hj]);rwa [Int.toNat_of_nonneg h0] at this
inductive Kn (H:Hp):V->Prop where
 | non:Kn H .non
 | bl (b:Bool):Kn H (.bl b)
 | int (i:Int):Kn H (.int i)
 | str (x:Str):Kn H (.str x)
 | lst {a:Addr} {xs:List V} (e:H a=some (.lst xs)):Kn H (.ref a)
 | tup {a:Addr} {xs:List V} (e:H a=some (.tup xs)):Kn H (.ref a)
 | dic {a:Addr} {kvs:List (Key×V)} (e:H a=some (.dK kvs)):Kn H (.ref a)
def tyB (T:String) (x:V) (H:Hp):Bool:=match x with
 | .int _=>T == "int"
 | .bl _=>T == "int" || T == "bool"
 | .ref a=>(match H a with
  | some (.lst _)=>T == "list"
  | some (.tup _)=>T == "tuple"
  | _=>false)
 | _=>false
def OkT (T:String):Prop:=T="int"\/T="bool"\/T="list"\/T="tuple"
theorem PM {K:FG9} (h:Kn H x) (hT:OkT T) (q:Q (.bl (tyB T x H)) H):Lc K T x H Q:=by
 cases h with
 | non=>rcases hT with rfl | rfl | rfl | rfl <;> exact #[_,_,.non,rfl,q]
 | bl b=>rcases hT with rfl | rfl | rfl | rfl <;> exact #[_,_,.bl b,rfl,q]
 | int i=>rcases hT with rfl | rfl | rfl | rfl <;> exact #[_,_,.int i,rfl,q]
 | str x=>rcases hT with rfl | rfl | rfl | rfl <;> exact #[_,_,.str x,rfl,q]
 | lst e =>
  simp only[tyB,e] at q;rcases hT with rfl | rfl | rfl | rfl <;> exact #[_,_,.lst e,rfl,q]
 | tup e =>
  simp only[tyB,e] at q;rcases hT with rfl | rfl | rfl | rfl <;> exact #[_,_,.tup e,rfl,q]
 | dic e =>
  simp only[tyB,e] at q;rcases hT with rfl | rfl | rfl | rfl <;> exact #[_,_,.dK e,rfl,q]
theorem dF {α β:Type} {F:α->β->Prop}:∀{l1:List α} {l2:List β} {y:β},jp F l1 l2->y∈l2->∃x∈l1,F x y
 | _,_,_,.nil,h=>nomatch h
 | _,_,_,.cons r t,h=>by
  rcases aJ.mp h with rfl | h
  ·exact #[_,dR,r]
  ·obtain x|hx|q:=dF t h;exact #[x,cz _ hx,q]
theorem cv {F:α->β->Prop} {l1:List α} {l2:List β} {i:Nat} {y:β} (h:jp F l1 l2) (e:l2[i]?=some y):∃x,l1[i]?=some x/\F x y:=by
 have hl:=h.9;have hi:i < l2.9:=(aF.mp e).1;refine #[l1[i]'(),by simp,?_];have:=mF h (i:=i) () hi;have e2:l2[i]=y:=(aF.mp e).2;rwa [e2] at this
def zW (n:Int×Int):Prop:=0 < n.2/\IR n.1 n.2=1/\Sz 8000000 n.1/\Sz 8000000 n.2
theorem take_snoc {α:Type} {l:List α} {v:α} (h:l[i]?=some v):l.take (i+1)=l.take i++[v]:=by rw[List.take_add_one,h];rfl
theorem aH.after (s:aH H H') (h:H r=PP):aH H (upd H' r o):=λb u e=>by rw[bG (hZ e h)];exact s b u e
theorem dk.after (s:dk b H H') (h:H r=PP):dk b H (upd H' r o):=#[λc u e n=>by rw[bG (hZ e h)];exact s.1 c u e n,λq hi=>(s.2 q hi).upd λz=>by obtain _|_|_|e:=hi;rw[<- z,h] at e;cases e]
theorem dk.same (s:dk b H H') (e:aH H' H''):dk b H H'':=s.trans e.upto
theorem Nb {α:Type} {Pr:α->Prop} {l:List α} {a:α} (h:∀n∈l,Pr n) (ha:Pr a):∀n∈l++[a],Pr n:=λn hn=>by
 rcases av.mp hn with hn | hn
 ·exact h n hn
 ·have e:n=a:=by simpa using hn
  rw[e];exact ha
abbrev Cm (h:Heap) (z TI TO:Addr) (f0 f1:Value):Prop:=h.get? z=some { cls:=.type "zip",dict:=none,data:=.fields [f0,f1,.bool false,.ref TI,.ref TO].toArray,slots:=[].toArray }
theorem L0 (e:s.heap.get? a=some o) (h:Q (some o) s):wE (model prog w) A (loadIfAlive a) Q E s:=by
 intro Γ p hp;show Sem.wp _ _ (.loadIfAlive a .pure) _ _ _ _
 simp only[Sem.wp_loadIfAlive,e];exact pi h Γ p hp
theorem BD {z TI TO T:Addr} (zr:Cm s.heap z TI TO (rawInt T) (.bool b1)) (al:s.heap.get? T=some o)
  (h:∀h',Cm h' z TI TO (rawInt T) (.bool true)->Heap.SameBut z s.heap h'->Q false { s with heap:=h' }):wE (model prog w) A (GE (.ref z)) Q E s:=by
 unfold GE;refine db (XL zr rfl (x:=rawInt T) rfl ?_);refine db (L0 (a:=T) al ?_);refine db (XL zr rfl (x:=.bool b1) rfl ?_);cases b1 with
 | true=>exact pi (h _ zr (.refl ..))
 | false=>exact db (wpAny_setField_rec zr (by simp) λh' zr' sb=>pi (h h' zr' sb))
theorem N7 {z TI TO T i1 i2 l1 l2:Addr} {Q:Value->nw->Prop} (D:ZipApart z TI TO i1 i2 l1 l2) (zr:Cm s.heap z TI TO (rawInt T) (.bool b1)) (al:s.heap.get? T=some o)
  (pt:Zq s.heap TI (.ref i1) (.ref i2)) (j1:s.heap.IsListIter i1 l1 k1) (j2:s.heap.IsListIter i2 l2 k2) (m1:s.heap.IsList l1 us) (m2:s.heap.IsList l2 ws) (eu:us[k1]?=some u) (ev:ws[k2]?=some v)
  (hQ:∀h',Cm h' z TI TO (rawInt T) (.bool true)->h'.IsListIter i1 l1 (k1+1)->h'.IsListIter i2 l2 (k2+1)->Zq h' s.heap.objs.size u v->(∀c o,c≠z->c≠i1->c≠i2->s.heap.get? c=some o->h'.get? c=some o)->Q (.ref s.6) { s with heap:=h' }) :
  wE (model prog w) A (On.«zip.__next__» #[[.ref z],[]]) (λfin s'=>∃v,fin=.done (.ret v)/\Q v s') E s:=by
 change wE _ _ (field (sK z) 2 >>= _) _ _ s
 refine db (XL zr rfl (x:=.bool false) rfl ?_)
 change wE _ _ (field (sK z) 3 >>= _) _ _ s
 refine db (XL zr rfl (x:=.ref TI) rfl (db (wpAny_seqItems pt rfl ?_)))
 change wE _ _ (GE (sK z) >>= _) _ _ s
 refine db (BD zr al λg1 zr1 sb1=>?_);simp only[kh,if_false];refine db ?_;rw[<- Array.forIn_toList];simp only[RL,EM];have j1':=j1.extBut sb1.extBut D.i1z;have m1':=m1.extBut sb1.extBut D.l1z;refine db (db (Ps ?_))
 change wE _ _ (Zl (sK i1) >>= _) _ _ _
 refine db (wpAny_nextOf_list_item j1' m1' eu λg2 j1a sb2=>pi ?_);refine pi ?_;have j2':=(j2.extBut sb1.extBut D.i2z).extBut sb2.extBut D.i12.symm;have m2':=(m2.extBut sb1.extBut D.l2z).extBut sb2.extBut D.l2i1;refine db (db (Ps ?_))
 change wE _ _ (Zl (sK i2) >>= _) _ _ _
 refine db (wpAny_nextOf_list_item j2' m2' ev λg3 j2a sb3=>pi ?_);refine pi (pi ?_);refine db (wpAny_newTuple (hsz:=kK rfl) ?_);have sz:g3.objs.7=s.6:=by rw[sb3.1,sb2.1,sb1.1]
 have up:∀c o,c≠z->c≠i1->c≠i2->s.heap.get? c=some o->g3.get? c=some o:=λc o c1 c2 c3 e=>sb3.extBut _ _ c3 (sb2.extBut _ _ c2 (sb1.extBut _ _ c1 e))
 have zr3:Cm g3 z TI TO (rawInt T) (.bool true):=sb3.extBut _ _ D.i2z.symm (sb2.extBut _ _ D.i1z.symm zr1);refine pi #[_,rfl,?_]
 change Q (.ref g3.objs.7) { s with heap:=g3.push { cls:=.type "tuple",data:=.seq [u,v].toArray } }
 have last:=hQ (g3.push { cls:=.type "tuple",data:=.seq [u,v].toArray }) (io _ zr3) ((j1a.extBut sb3.extBut D.i12).at λo e=>io _ e) (j2a.at λo e=>io _ e)
  (by rw[<- sz];exact At _ rfl) λc o c1 c2 c3 e=>io _ (up c o c1 c2 c3 e)
 rw[sz];exact last
theorem Qk {z TI TO T i1 i2 l1 l2:Addr} (hh:A.handled=none) (D:ZipApart z TI TO i1 i2 l1 l2) (zr:Cm s.heap z TI TO (rawInt T) (.bool b1)) (al:s.heap.get? T=some o)
  (pt:Zq s.heap TI (.ref i1) (.ref i2)) (j1:s.heap.IsListIter i1 l1 k1) (m1:s.heap.IsList l1 us) (eu:us[k1]?=none)
  (hE:∀h' e,(∀c o,c≠z->c≠i1->c≠i2->s.heap.get? c=some o->h'.get? c=some o)->(∃o,h'.get? e=some o/\o.cls=.type "StopIteration")->E (.ref e) { s with heap:=h' }) :
  wE (model prog w) A (On.«zip.__next__» #[[.ref z],[]]) Q E s:=by
 change wE _ _ (field (sK z) 2 >>= _) _ _ s
 refine db (XL zr rfl (x:=.bool false) rfl ?_)
 change wE _ _ (field (sK z) 3 >>= _) _ _ s
 refine db (XL zr rfl (x:=.ref TI) rfl (db (wpAny_seqItems pt rfl ?_)))
 change wE _ _ (GE (sK z) >>= _) _ _ s
 refine db (BD zr al λg1 zr1 sb1=>?_);simp only[kh,if_false];refine db ?_;rw[<- Array.forIn_toList];simp only[RL,EM];refine db (db (Ps ?_))
 change wE _ _ (Zl (sK i1) >>= _) _ _ _
 exact db (wpAny_nextOf_list_end hh (j1.extBut sb1.extBut D.i1z) (m1.extBut sb1.extBut D.l1z) eu λg2 e xb he=>hE g2 e (λc o c1 c2 _ q=>xb _ _ c2 (sb1.extBut _ _ c1 q)) he)
theorem NV {z TI TO T i1 i2 l1 l2:Addr} (D:ZipApart z TI TO i1 i2 l1 l2) (zr:Cm s.heap z TI TO (rawInt T) (.bool b1)) (al:s.heap.get? T=some o)
  (pt:Zq s.heap TI (.ref i1) (.ref i2)) (j1:s.heap.IsListIter i1 l1 k1) (j2:s.heap.IsListIter i2 l2 k2) (m1:s.heap.IsList l1 us) (m2:s.heap.IsList l2 ws) (eu:us[k1]?=some u) (ev:ws[k2]?=some v)
  (hQ:∀h',Cm h' z TI TO (rawInt T) (.bool true)->h'.IsListIter i1 l1 (k1+1)->h'.IsListIter i2 l2 (k2+1)->Zq h' s.heap.objs.size u v->(∀c o,c≠z->c≠i1->c≠i2->s.heap.get? c=some o->h'.get? c=some o)->Q (some (.ref s.6)) { s with heap:=h' }) :
  wE (model prog w) A (pyNext (.ref z)) Q E s:=by
 have ty:s.TypeIs (.ref z) "zip":=#[_,zr,rfl];unfold pyNext;refine db (wpAny_attempt (WF (name:=wP "__next__") ty rF (wpAny_call_entry rF ty PySem.F.entry_zip_next ?_ (Yu _))));exact N7 D zr al pt j1 j2 m1 m2 eu ev λh' a1 a2 a3 a4 a5=>pi (hQ h' a1 a2 a3 a4 a5)
theorem NU {z TI TO T i1 i2 l1 l2:Addr} (hh:A.handled=none) (D:ZipApart z TI TO i1 i2 l1 l2) (zr:Cm s.heap z TI TO (rawInt T) (.bool b1)) (al:s.heap.get? T=some o)
  (pt:Zq s.heap TI (.ref i1) (.ref i2)) (j1:s.heap.IsListIter i1 l1 k1) (m1:s.heap.IsList l1 us) (eu:us[k1]?=none)
  (hQ:∀h',(∀c o,c≠z->c≠i1->c≠i2->s.heap.get? c=some o->h'.get? c=some o)->Q none { s with heap:=h' }):wE (model prog w) A (pyNext (.ref z)) Q E s:=by
 have ty:s.TypeIs (.ref z) "zip":=#[_,zr,rfl];unfold pyNext;refine db (wpAny_attempt (WF (name:=wP "__next__") ty rF (wpAny_call_entry rF ty PySem.F.entry_zip_next ?_ (Yu _))));refine Qk hh D zr al pt j1 m1 eu λh' e kk #[oe,he,hc]=>?_
 exact db (wpAny_isInstance (T:="StopIteration") (b:=true) #[oe,he,hc] isSubtype_stop (pi (hQ _ kk)))
section
variable {σ:St}
theorem Inv.moved {ch:List Addr} (I:Inv X pins σ H s) (fx:∀b∈ch,mP X pins H b) (up:∀b o,b∉ch->s.heap.get? b=some o->h'.get? b=some o) (hg:AllBare g') :
  Inv X pins σ H { s with heap:=h',gens:=g',drawn:=d',toks:=t' }:=by
 have nx:∀b o,H b=some o->b∉ch:=λb o e hb=>by have:=(fx b hb).1;rw[this] at e;cases e
 refine I.step (ch:=ch) (λb hb=>?_) (λb o _ _ hb e _=>up b o hb e) (λb o _ _ hb e _=>#[o.slots,up b o hb e]) (λb o hb e n=>n) (λb o hb e=>#[o,up b o hb e]) (λb q e=>e) (λb o q e=>e) (λb q e=>#[[].toArray,by rw[e];simp]) (λm hm=>?_) (λb o e=>?_) hg
 ·obtain _|f1|_|f3|f4|f5:=fx b hb;exact #[f3,f1,f4,f5]
 ·obtain o|es|ep|ho|r:=hm;exact #[o,es,ep,up _ o (λz=>(fx _ z).2.1 rfl) ho,r]
 ·refine (I.hok b o e).stay (λc v' hc q=>up c v' ?_ q) (λc q=>q) λc xs q=>q
  rcases hc with rfl | hc
  ·exact nx _ _ e
  ·exact nx _ _ hc
theorem Inv.track (I:Inv X pins σ H s) (fp:mP X pins H p) (new:iB X.prog X.w (upd H p o) s.heap p o):Inv X pins σ (upd H p o) s:=by
 have nt:∀{b:Addr} {u:HO},H b=some u->b≠p:=λe z=>by rw[z,fp.1] at e;cases e
 refine I.step (h':=s.8) (g':=s.gens) (d':=s.drawn) (t':=s.toks) (ch:=[p]) (λb hb=>?_) (λb o _ _ _ e _=>e) (λb o _ _ _ e _=>#[o.slots,e]) (λb o hb e n=>?_) (λb o _ e=>#[o,e]) (λb q e=>by rw[bG (nt e)];exact e) (λb o q e=>by rw[bG (nt e)];exact e)
  (λb q e=>#[[].toArray,by rw[bG (nt e),e];simp]) (λm hm=>hm) (λb u e=>?_) I.bare
 ·have e:b=p:=by simpa using hb
  subst e;obtain _|f1|_|f3|f4|f5:=fp;exact #[f3,f1,f4,f5]
 ·rw[bG λz=>hb (by simp [z])];exact n
 ·by_cases hb:b=p
  ·subst hb;rw[aN] at e;cases e;exact new
  ·rw[bG hb] at e;exact (I.hok b u e).stay (λc v _ q=>q) (λc q=>by rw[bG (nt q)];exact q) λc xs q=>by rw[bG (nt q)];exact q
end
def UN (H:Hp) (p:V×V) (x:V):Prop:=∃T,x=.ref T/\H T=some (.tup [p.1,p.2])
theorem UN.same (h:UN H p x) (e:aH H H'):UN H' p x:=by obtain T|q|g:=h;exact #[T,q,e _ _ g]
def Zst (h:Heap) (z TI TO:Addr) (base:Nat):Prop:=(∃a b,Zq h TO a b)/\(IsZip h z TI TO .none\/∃(T:Addr) (b1:Bool) (o:Obj),Cm h z TI TO (rawInt T) (.bool b1)/\h.get? T=some o/\@LE.le Nat instLENat base T)
theorem EO {z TI TO i1 i2 l1 l2:Addr} (hz:Cm h z TI TO f0 f1) (hTI:Zq h TI (.ref i1) (.ref i2)) (hTO:Zq h TO a b) (h1:h.IsListIter i1 l1 k1) (h2:h.IsListIter i2 l2 k2) (hl1:h.IsList l1 xs) (hl2:h.IsList l2 ys) (hT:TI≠TO) (hi:i1≠i2):ZipApart z TI TO i1 i2 l1 l2:=by
 obtain o1|g1|c1|_:=h1;obtain o2|g2|c2|_:=h2;obtain p1|q1|d1|_:=hl1;obtain p2|q2|d2|_:=hl2;have zt:KT "zip"≠.type "tuple":=oY ();have it:KT "list_iterator"≠.type "tuple":=oY ();have iz:KT "list_iterator"≠.type "zip":=oY ();have lz:KT "list"≠.type "zip":=oY ();have lt:KT "list"≠.type "tuple":=oY ();have li:KT "list"≠.type "list_iterator":=oY ()
 exact #[dO hTI hz zt.symm,dO hTO hz zt.symm,dO g1 hz (by rw[c1];exact iz),dO g2 hz (by rw[c2];exact iz),hT,dO hTI g1 (by rw[c1];exact it.symm),dO hTI g2 (by rw[c2];exact it.symm),dO hTO g1 (by rw[c1];exact it.symm),dO hTO g2 (by rw[c2];exact it.symm),hi,
  dO q1 hz (by rw[d1];exact lz),dO q1 hTO (by rw[d1];exact lt),dO q1 g1 (by rw[d1,c1];exact li),dO q1 g2 (by rw[d1,c2];exact li),dO q2 hz (by rw[d2];exact lz),dO q2 hTO (by rw[d2];exact lt),dO q2 g1 (by rw[d2,c1];exact li),dO q2 g2 (by rw[d2,c2];exact li)]
section
variable {X:Cx} {pins:List (Addr×Obj)} {σ:St}
theorem mP.heap (f:mP X pins H b) (e:H' b=none):mP X pins H' b:=#[e,f.2]
structure HY where
 z:Addr
 TI:Addr
 TO:Addr
 i1:Addr
 i2:Addr
 S:Addr
 base:Nat
def HY.all (a:HY):List Addr:=[a.z,a.TI,a.TO,a.i1,a.i2,a.S]
structure HY.Ok (a:HY):Prop where
 tt:a.TI≠a.TO
 ii:a.i1≠a.i2
 Sz:a.S≠a.z
 STI:a.S≠a.TI
 STO:a.S≠a.TO
 Si1:a.S≠a.i1
 Si2:a.S≠a.i2
 lt:∀b∈a.all,@LT.lt Nat instLTNat b a.base
structure TZ (X:Cx) (pins:List (Addr×Obj)) (σ:St) (H1:Hp) (a:HY) (l1 l2:Addr) (i:Nat) (H:Hp) (s:nw):Prop where
 inv:Inv X pins σ H s
 same:aH H1 H
 fps:∀b∈a.all,mP X pins H b
 sz:a.base<=s.heap.objs.size
 zst:Zst s.heap a.z a.TI a.TO a.base
 pt:Zq s.heap a.TI (.ref a.i1) (.ref a.i2)
 j1:s.heap.IsListIter a.i1 l1 i
 j2:s.heap.IsListIter a.i2 l2 i
variable {a:HY} {l1 l2:Addr} {H1 H:Hp} {s:nw} {i:Nat} {xs ys:List V}
theorem TZ.push (L:TZ X pins σ H1 a l1 l2 i H s) (O:a.Ok) (k:∀b o,b≠a.S->s.heap.get? b=some o->h'.get? b=some o) (hz:h'.objs.7=s.6):TZ X pins σ H1 a l1 l2 i H { s with heap:=h' }:=by
 refine #[L.inv.moved (g':=s.gens) (d':=s.drawn) (t':=s.toks) (ch:=[a.S]) (λb hb=>?_) (λb o hb e=>k b o (λz=>hb (by simp [z])) e) L.inv.bare,L.same,L.fps,by show a.base<=h'.objs.7;rw[hz];exact L.sz,?_,k _ _ O.STI.symm L.pt,L.j1.at λo e=>k _ o O.Si1.symm e,L.j2.at λo e=>k _ o O.Si2.symm e]
 ·have e:b=a.S:=by simpa using hb
  rw[e];exact L.fps _ (by simp [HY.all])
 ·obtain ⟨c,d,z0⟩|z4:=L.zst;refine #[#[c,d,k _ _ O.STO.symm z0],?_];rcases z4 with z1 | ⟨T,b1,o,z1,z2,z3⟩
  ·exact .inl (k _ _ O.Sz.symm z1)
  ·refine .inr #[T,b1,o,k _ _ O.Sz.symm z1,k _ _ (λe=>?_) z2,z3];have:=O.lt a.S (by simp [HY.all]);rw[<- e] at this;exact absurd this (Nat.not_lt.mpr z3)
theorem O2 (O:a.Ok) (q1:bI X.K H1 l1 xs) (q2:bI X.K H1 l2 ys) (ex:xs[i]?=some x) (ey:ys[i]?=some y) (L:TZ X pins σ H1 a l1 l2 i H s)
  (hQ:∀s',TZ X pins σ H1 a l1 l2 (i+1) (upd H s.heap.objs.size (.tup [x,y])) s'->(∀c o,c∉[a.z,a.TO,a.i1,a.i2]->s.heap.get? c=some o->s'.heap.get? c=some o)->H s.6=none->Q (some (.ref s.6)) s'):wE (model X.prog X.w) A' (pyNext (.ref a.z)) Q E s:=by
 obtain I|sm|fps|sz|zst|pt|j1|j2:=id L;obtain us|ru|pu|_:=I.list (sm.seq q1);obtain ws|rw'|pw|_:=I.list (sm.seq q2);obtain u|eu|r1:=ru.get ex;obtain v|ev|r2:=rw'.get ey;have fx:∀b∈[a.z,a.TO,a.i1,a.i2],mP X pins H b:=λb hb=>fps b (by simp only[HY.all,aJ,aX,or_false] at hb ⊢;rcases hb with e | e | e | e <;> simp [e])
 have hT0:H s.6=none:=I.hok.fresh (ah _);have fT:mP X pins H s.6:=I.fpOk (ah _) hT0;have lt:∀b∈a.all,b≠s.6:=λb hb e=>by have:=O.lt b hb;rw[e] at this;exact absurd this (Nat.not_lt.mpr sz)
 have fin:∀h',(∀c o,c∉[a.z,a.TO,a.i1,a.i2]->s.heap.get? c=some o->h'.get? c=some o)->Zq h' s.heap.objs.size u v->Zq h' a.TI (.ref a.i1) (.ref a.i2)->h'.IsListIter a.i1 l1 (i+1)->h'.IsListIter a.i2 l2 (i+1)->Zst h' a.z a.TI a.TO a.base →
   Q (some (.ref s.6)) { s with heap:=h' }:=λh' up pr pt' j1' j2' zst'=>by
  have I2:Inv X pins σ H { s with heap:=h' }:=I.moved (g':=s.gens) (d':=s.drawn) (t':=s.toks) fx up I.bare;have I3:Inv X pins σ (upd H s.heap.objs.size (.tup [x,y])) { s with heap:=h' }:=I2.track fT ⟨kK rfl,[u,v],.cons r1 (.cons r2 .nil),⟨_,pr,rfl,_,rfl⟩⟩;refine hQ _ #[I3,sm.trans (aH.new hT0),λb hb=>(fps b hb).heap (by rw[bG (lt b hb)];exact (fps b hb).1),?_,zst',pt',j1',j2'] up hT0;exact ag sz (cA (o0 pr))
 obtain ⟨c,d,z0⟩|z4:=zst;rcases z4 with z1 | ⟨T,b1,o,z1,z2,z3⟩
 ·have D:=EO z1 pt z0 j1 j2 pu.isList pw.isList O.tt O.ii;refine wpAny_pyNext_zip_item D z1 pt z0 j1 j2 pu.isList pw.isList (x:=u) (y:=v) (by simpa using eu) (by simpa using ev) λh' a1 a2 a3 a4 a5 a6 hk=>?_
  have up:∀c o,c∉[a.z,a.TO,a.i1,a.i2]->s.heap.get? c=some o->h'.get? c=some o:=λc o hc e=>by
   simp only[aJ,aX,or_false,not_or] at hc;exact hk c o hc.1 hc.2.1 hc.2.2.1 hc.2.2.2 e
  exact fin h' up a5 (hk _ _ D.TIz D.TITO D.TIi1 D.TIi2 pt) a3 a4 #[#[_,_,a2],.inr #[s.6,false,_,a1,a5,sz]]
 ·have D:=EO z1 pt z0 j1 j2 pu.isList pw.isList O.tt O.ii;refine NV D z1 z2 pt j1 j2 pu.isList pw.isList (u:=u) (v:=v) (by simpa using eu) (by simpa using ev) λh' a1 a3 a4 a5 hk=>?_
  have up:∀c o,c∉[a.z,a.TO,a.i1,a.i2]->s.heap.get? c=some o->h'.get? c=some o:=λc o hc e=>by
   simp only[aJ,aX,or_false,not_or] at hc;exact hk c o hc.1 hc.2.2.1 hc.2.2.2 e
  have Tn:∀b∈a.all,T≠b:=λb hb e=>by have:=O.lt b hb;rw[<- e] at this;exact absurd this (Nat.not_lt.mpr z3)
  exact fin h' up a5 (hk _ _ D.TIz D.TIi1 D.TIi2 pt) a3 a4 #[#[_,_,hk _ _ D.TOz D.TOi1 D.TOi2 z0],.inr #[T,true,o,a1,hk _ _ (Tn _ (by simp [HY.all])) (Tn _ (by simp [HY.all])) (Tn _ (by simp [HY.all])) z2,z3]]
theorem OZ (hh:A'.handled=none) (O:a.Ok) (q1:bI X.K H1 l1 xs) (q2:bI X.K H1 l2 ys) (hi:xs.9<=i) (L:TZ X pins σ H1 a l1 l2 i H s)
  (hQ:∀s',Inv X pins σ H s'->(∀c o,c∉[a.z,a.TO,a.i1,a.i2]->s.heap.get? c=some o->s'.heap.get? c=some o)->Q none s'):wE (model X.prog X.w) A' (pyNext (.ref a.z)) Q E s:=by
 obtain I|sm|fps|sz|zst|pt|j1|j2:=id L;obtain us|ru|pu|_:=I.list (sm.seq q1);obtain ws|rw'|pw|_:=I.list (sm.seq q2);have lx:=ru.9;have none1:us.5[i]?=none:=by simp;lia
 have fx:∀b∈[a.z,a.TO,a.i1,a.i2],mP X pins H b:=λb hb=>fps b (by simp only[HY.all,aJ,aX,or_false] at hb ⊢;rcases hb with e | e | e | e <;> simp [e])
 have fin:∀h',(∀c o,c∉[a.z,a.TO,a.i1,a.i2]->s.heap.get? c=some o->h'.get? c=some o)->Q none { s with heap:=h' }:=λh' up=>hQ _ (I.moved (g':=s.gens) (d':=s.drawn) (t':=s.toks) fx up I.bare) up
 obtain ⟨c,d,z0⟩|z4:=zst;rcases z4 with z1 | ⟨T,b1,o,z1,z2,z3⟩
 ·have D:=EO z1 pt z0 j1 j2 pu.isList pw.isList O.tt O.ii;refine wpAny_pyNext_zip_end hh D z1 pt z0 j1 j2 pu.isList pw.isList (.inl none1) λh' hk=>fin h' λc o hc e=>?_
  simp only[aJ,aX,or_false,not_or] at hc;exact hk c o hc.1 hc.2.1 hc.2.2.1 hc.2.2.2 e
 ·have D:=EO z1 pt z0 j1 j2 pu.isList pw.isList O.tt O.ii;refine NU hh D z1 z2 pt j1 pu.isList none1 λh' hk=>fin h' λc o hc e=>?_
  simp only[aJ,aX,or_false,not_or] at hc;exact hk c o hc.1 hc.2.2.1 hc.2.2.2 e
theorem O4 (hh:A'.handled=none) (O:a.Ok) (hz:xs.9<=ww) (hl:ys.9=xs.9) (q1:bI X.K H1 l1 xs) (q2:bI X.K H1 l2 ys)
  (fin:∀s' H' ts acc c,Inv X pins σ H' s'->aH H1 H'->mP X pins H' a.S->s'.heap.get? a.S=some (lobj acc c)->c7 ts acc->jp (UN H') (xs.zip ys) ts->R (.ok (.ret .none)) s') :
  ∀(k i:Nat) (s:nw) (H:Hp) (ts:List V) (acc:List Value) (c:Nat),xs.9 - i=k->i<=xs.9->TZ X pins σ H1 a l1 l2 i H s->s.heap.get? a.S=some (lobj acc c)->c7 ts acc->jp (UN H) ((xs.zip ys).take i) ts →
   Zu (model X.prog X.w) A' (.builtin "list.extend.loop" #[[.ref a.S,.ref a.z,.none],[]]) R s:=by
 have Sn:a.S∉[a.z,a.TO,a.i1,a.i2]:=λh=>by
  simp only[aJ,aX,or_false] at h;rcases h with e | e | e | e
  ·exact O.Sz e
  ·exact O.STO e
  ·exact O.Si1 e
  ·exact O.Si2 e
 intro k
 induction k with
 | zero =>
  intro i s H ts acc c hk hi L gS rv prs;have e:i=xs.9:=()
  refine codeAny_builtin WJ ?_;rw[Ix.under_plainId nV _]
  change wE _ A'.in1 (pyNext (sK a.z) >>= _) _ _ s
  refine db (OZ hh O q1 q2 () L λs' I' up=>pi (fin s' H ts acc c I' L.same (L.fps _ (by simp [HY.all])) (up _ _ Sn gS) rv ?_));rwa [aM (by rw[Cs];lia)] at prs
 | succ k ih =>
  intro i s H ts acc c hk hi L gS rv prs;have hlt:i < xs.9:=()
  have lt:=prs.9;have la:=rv.9;refine codeAny_builtin WJ ?_;rw[Ix.under_plainId nV _]
  change wE _ A'.in1 (pyNext (sK a.z) >>= _) _ _ s
  refine db (O2 O q1 q2 (x:=xs[i]) (y:=ys[i]'()) (by simp [hlt]) (by simp) L λs' L' up hT=>?_);have gS':=up _ _ Sn gS
  change wE _ A'.in1 (updateSeq a.S (·.push (sK s.6)) >>= _) _ _ s'
  have small:acc.9<=ww:=by
   rw[bP,Cs] at lt
   lia
  refine db (Zo gS' rfl (pi #[plainId_quiet nV _,?_]) (by rw[aG];exact small) (by
   show (acc.toArray.push (sK s.6)).7<=ww+1
   rw[Array.size_push,aG]
   lia))
  have gS2:=nJ gS' (λb=>b.push (sK s.6));have e2:(acc.toArray.push (sK s.6))=(acc++[sK s.6]).5:=by simp
  rw[e2] at gS2;refine ih (i+1) _ (upd H s.heap.objs.size (.tup [xs[i],ys[i]'()])) (ts++[.ref s.6]) (acc++[.ref s.6]) _ () hlt (L'.push O (λb o hb e=>(Cl _ _ (SL hb)).trans e) (Heap.size_update ..)) gS2 (rv.append (show c7 [V.ref s.6] [sK s.6] from .cons rfl .nil)) ?_;have zp:(xs.zip ys)[i]?=some (xs[i],ys[i]'()):=by simp [WL,hlt]
  rw[take_snoc zp];exact (ca (λ_ _ z=>z.same (aH.new hT)) prs).snoc #[_,rfl,aN]
theorem KN:typeLookup (.type "zip") "__len__"=pure PP:=by rw[typeLookup_type,Zf];kernel_rfl
theorem Ij:typeLookup (.type "zip") "__length_hint__"=pure PP:=by rw[typeLookup_type,Zf];kernel_rfl
theorem O3 (hh:A'.handled=none) (O:a.Ok) (hz:xs.9<=ww) (hl:ys.9=xs.9) (q1:bI X.K H1 l1 xs) (q2:bI X.K H1 l2 ys) (L:TZ X pins σ H1 a l1 l2 0 H s) (gS:s.heap.get? a.S=some (lobj [] 0)) (z0:IsZip s.heap a.z a.TI a.TO .none)
  (fin:∀s' H' ts acc c,Inv X pins σ H' s'->aH H1 H'->mP X pins H' a.S->s'.heap.get? a.S=some (lobj acc c)->c7 ts acc->jp (UN H') (xs.zip ys) ts->R (.ok (.ret .none)) s') :
  wE (model X.prog X.w) A'.in1 (On.«list.__init__» #[[.ref a.S,.ref a.z],[]]) (λfl s'=>match fl with | .done f=>R (.ok f) s' | .again c'=>c'.quiet=true/\Zu (model X.prog X.w) A' c' R s') (λe s'=>R (.error e) s') s:=by
 change wE _ A'.in1 (do let old <- Zd (sK a.S);On.List.listUpdate (sK a.S) (λ_=>[].toArray);letGo old.toList.reverse;Ev (sK a.S) (sK a.z) KM) _ _ s
 refine db ?_;unfold Zd;refine db (wpAny_seqItems gS rfl (pi ?_))
 change wE _ A'.in1 (updateSeq a.S (λ_=>[].toArray) >>= λ_=>letGo ([].toArray:Array Value).toList.reverse >>= λ_=>Ev (sK a.S) (sK a.z) KM) _ _ s
 refine db (Zo gS rfl ?_);have g1:=nJ gS (λ_=>([].toArray:Array Value));obtain ⟨n1,g1⟩:∃n1,(s.heap.update a.S (Do λ_=>([].toArray:Array Value))).get? a.S=some (lobj [] n1):=#[_,g1];have L1:=L.push (h':=s.heap.update a.S (Do λ_=>([].toArray:Array Value))) O (λb o hb e=>(Cl _ _ (SL hb)).trans e) (Heap.size_update ..);have z1:IsZip (s.heap.update a.S (Do λ_=>([].toArray:Array Value))) a.z a.TI a.TO .none:=(Cl _ _ O.Sz).trans z0;refine db (wpAny_letGo ?_);unfold Ev;have ty:nw.TypeIs { s with heap:=s.heap.update a.S (Do λ_=>([].toArray:Array Value)) } (.ref a.z) "zip":=#[_,z1,rfl];refine db (wpAny_typeOf ty ?_);have h1:On.List.listSameRef (.ref a.S) (.ref a.z)=false:=by simp [On.List.listSameRef,O.Sz]
 have h2:(KT "zip" == KT "list")=false:=()
 have h3:(KT "zip" == KT "tuple")=false:=()
 simp only[h1,h2,h3,Bool.or_false,kh,if_false];refine db (wpAny_pyIter_zip z1 (db (Ps ?_)));unfold Zi;refine db (wpAny_specialOf ty KN ?_)
 change wE _ A'.in1 (specialOf (sK a.z) (wP "__length_hint__") >>= _) _ _ _
 refine db (wpAny_specialOf ty Ij (pi ?_))
 change wE _ A'.in1 (rule "list.extend.makes-room" >>= λ_=>On.List.listTouch (sK a.S) >>= λ_=>again (.builtin "list.extend.loop" #[[sK a.S,sK a.z,KM],[]])) _ _ _
 refine db (wpAny_rule (db ?_))
 change wE _ A'.in1 (updateSeq a.S (·.push KM) >>= λ_=>updateSeq a.S (·.pop)) _ _ _
 refine db (Zo g1 rfl ?_);have g2:=nJ g1 (λb=>b.push KM);obtain ⟨n2,g2⟩:∃n2,((s.heap.update a.S (Do λ_=>([].toArray:Array Value))).update a.S (Do λb=>b.push KM)).get? a.S=some (lobj [KM] n2):=#[_,g2];have L2:=L1.push (h':=(s.heap.update a.S (Do λ_=>([].toArray:Array Value))).update a.S (Do λb=>b.push KM)) O (λb o hb e=>(Cl _ _ (SL hb)).trans e) (Heap.size_update ..);refine Zo g2 rfl ?_ (kK rfl);have g3:=nJ g2 (λb=>b.pop);have L3:=L2.push (h':=((s.heap.update a.S (Do λ_=>([].toArray:Array Value))).update a.S (Do λb=>b.push KM)).update a.S (Do λb=>b.pop)) O (λb o hb e=>(Cl _ _ (SL hb)).trans e) (Heap.size_update ..);exact pi #[plainId_quiet nV _,O4 hh O hz hl q1 q2 fin _ 0 _ H [] [] _ rfl (a7 _) L3 g3 .nil .nil]
end
section
variable {X:Cx}
theorem UT (n:Nat):HY.Ok #[n+4,n+2,n+3,n,n+1,n+5,n+5+1]:=by
 have ne:∀p q:Nat,p≠q->@Ne Addr p q:=λ_ _ h=>h
 refine #[ne (n+2) (n+3) (),ne n (n+1) (),ne (n+5) (n+4) (),ne (n+5) (n+2) (),ne (n+5) (n+3) (),ne (n+5) n (),ne (n+5) (n+1) (),λb hb=>?_];have hb':b∈[n+4,n+2,n+3,n,n+1,n+5]:=hb;show @LT.lt Nat instLTNat b (n+5+1)
 simp only[aJ,aX,or_false] at hb';rcases hb' with e | e | e | e | e | e <;> (rw[e];exact bL (fR _) ())
def Io (K:FG9) (ta:TA):TE:=λσ H Q=>ta σ H λvs H1=>∃(l1 l2:Addr) (xs ys:List V),vs=[.ref l1,.ref l2]/\bI K H1 l1 xs/\bI K H1 l2 ys/\ys.9=xs.9 /\
 ∀L ts H',aH H1 H'->H1 L=none->H' L=some (.lst ts)->jp (UN H') (xs.zip ys) ts->Q (.ref L) H'
theorem Ld {e1 e2:Expr} {ta:TA} {p p2 pos pos2:Pos} (hg:Gl X "list") (hm:X.mg "list"=none) (hg2:Gl X "zip") (hm2:X.mg "zip"=none) (ha:PA X [e1,e2] ta) (hc:X.calm=true:=by rfl)
  (hs:r8 [e1,e2] X.env=[(false,eval e1 X.env),(false,eval e2 X.env)]:=by rfl) (hs2:r8 [e2] X.env=[(false,eval e2 X.env)]:=by rfl)
  (hs3:r8 [Zk (.Name "zip" p2) [e1,e2] [] pos2] X.env=[(false,eval (.Call (.Name "zip" p2) [e1,e2] [] pos2) X.env)]:=by rfl) :
  PE X (.Call (.Name "list" p) [.Call (.Name "zip" p2) [e1,e2] [] pos2] [] pos) (Io X.K ta):=by
 intro pins s σ H Q I h;refine GM (mL I hg hm boot_list ?_);refine AC ?_ (by rw[hs3];rfl) rfl;rw[hs3];show wE _ _ (spliced ((false,eval (.Call (.Name "zip" p2) [e1,e2] [] pos2) X.env) :: [])) _ _ s
 refine Calls.spliced_cons ?_;refine Call_ (mL I hg2 hm2 boot_zip (AC (iQ (ha pos2 pins s σ H _ I h) λus s1 #[vs,H1,I1,r1,q1]=>?_) (by rw[hs,hs2]) (by rw[hs2];rfl)));obtain l1|l2|xs|ys|e|qx|qy|hl|q:=q1;subst e;obtain u|v|rfl|ru|rv:=vals2 r1;cases ru;cases rv;obtain us|rx|px|hz:=I1.list qx;obtain ws|ry|py|_:=I1.list qy;refine call_zip_2 px.isList py.isList λh' a1 a2 a3 a4 a5 a6 hk=>?_
 refine Calls.spliced_nil ?_;have I2:Inv X pins σ H1 { s1 with heap:=h' }:=I1.kept (t':=s1.toks) hk;have up:∀b o,h'.get? b=some o->(h'.push { cls:=.type "list",data:=.seq [].toArray }).get? b=some o:=λb o e=>io _ e
 have O:HY.Ok #[s1.6+4,s1.6+2,s1.6+3,s1.6,s1.6+1,h'.objs.7,h'.objs.7+1]:=by
  rw[a6];exact UT s1.heap.objs.size
 have old:∀b∈(HY.mk (s1.6+4) (s1.6+2) (s1.6+3) s1.heap.objs.size (s1.6+1) h'.objs.size (h'.objs.7+1)).all,s1.6<=b:=λb hb=>by
  rw[a6] at hb;simp only[HY.all,aJ,aX,or_false] at hb;rcases hb with rfl | rfl | rfl | rfl | rfl | rfl <;> first | exact Aa _ _ | exact ah _
 have gS:(h'.push { cls:=.type "list",data:=.seq [].toArray }).get? h'.objs.7=some (lobj [] 0):=At _ rfl;refine callType_codes (Q₁:=λob t=>ob=.ref h'.objs.7/\t={ s1 with heap:=h'.push { cls:=.type "list",data:=.seq [].toArray } }) PySem.F.called_list (PySem.F.typeCall_list_1 _) PySem.F.entry_list_init (code_list_new _ ⟨rfl,rfl⟩) λob t ht=>?_
 obtain rfl|rfl:=ht;refine #[#[_,gS,rfl],PySem.F.args_list_init_2 _ _,?_]
 have L:TZ X pins σ H1 #[s1.6+4,s1.6+2,s1.6+3,s1.6,s1.6+1,h'.objs.7,h'.objs.7+1] l1 l2 0 H1 { s1 with heap:=h'.push { cls:=.type "list",data:=.seq [].toArray } } :=
  #[I2.kept (t':=s1.toks) up,aH.refl _,λb hb=>I1.fpOk (old b hb) (I1.hok.fresh (old b hb)),by rw[UF];exact ah _,#[#[_,_,up _ _ a3],.inl (up _ _ a1)],up _ _ a2,a4.at λo e=>up _ o e,a5.at λo e=>up _ o e]
 refine O3 (A':=X.A.in1) (I.ok.hd hc) O hz hl qx qy L gS (up _ _ a1) λs' H' ts acc c I' sm fS gS' vs' prs=>#[rfl,?_]
 have nS:H1 h'.objs.7=none:=I1.hok.fresh (old _ (by simp [HY.all]));have lt:=prs.9;rw[Cs] at lt;exact #[.ref h'.objs.7,_,I'.track (o:=.lst ts) fS #[(),acc,c,vs',gS'],rfl,q _ ts _ (sm.trans (aH.new fS.1)) nS aN (ca (λ_ _ z=>z.same (aH.new fS.1)) prs)]
end
end L2
namespace Nm
def zv:List Int->Int->Int
 | [],m=>m
 | b :: r,m=>zv r (m*(b / g m b))
theorem yj (hm:0 < m) (hb:0 < b):0 < m*(b / g m b):=j9 hm (F6 (t:=m) hb)
theorem F0:b∣m*(b / g m b):=by
 have h1:=BU m b;refine #[lo m b,?_];have h2:b / g m b*g m b=b:=zz m b
 calc m*(b / g m b)=lo m b*g m b*(b / g m b):=by rw[h1]
  _=lo m b*(b / g m b*g m b):=by rw[eN,il (g m b)]
  _=b*lo m b:=by rw[h2,il]
theorem BX:∀{bs:List Int} {m:Int},0 < m->(∀b∈bs,0 < b)->0 < zv bs m
 | [],_,hm,_=>hm
 | b :: r,m,hm,h=>BX (bs:=r) (yj hm (h b dR)) λc hc=>h c (cz _ hc)
theorem Js:∀{bs:List Int} {m:Int},m∣zv bs m
 | [],_=>Ni _
 | b :: r,m=>Int.dvd_trans (Int.dvd_mul_right m _) (Js (bs:=r))
theorem Jr:∀{bs:List Int} {m b:Int},b∈bs->b∣zv bs m
 | c :: r,m,b,h=>by
  rcases aJ.mp h with rfl | h
  ·exact Int.dvd_trans F0 (Js (bs:=r))
  ·exact Jr (bs:=r) h
end Nm
namespace L2
open PySem PySem.Spec PyProof.Rows Nm
def HZ (K:FG9) (H:Hp) (p:Addr) (ns:List (Int×Int)):Prop:=∃xs,H p=some (.lst xs)/\jp (λn x=>yy K H x n) ns xs
theorem HZ.same {K:FG9} (h:HZ K H p ns) (e:aH H H'):HZ K H' p ns:=by obtain xs|g|q:=h;exact #[xs,e _ _ g,ca (λ_ _ z=>e.num z) q]
def Jd (K:FG9) (T:String):V->Hp->VK->Prop:=λx H Q=>Lc K T x H Q\/∃a xs b,x=.ref a/\jN K H a xs/\PySem.W.kitOne K (.type "tuple") (.type T)=some b/\Q (.bl b) H
theorem Eg:∀{bs:List Int} {m b:Int},zv (bs++[b]) m=zv bs m*(b / g (zv bs m) b)
 | [],_,_=>rfl
 | c :: r,m,b=>Eg (bs:=r)
def ie (ns:List (Int×Int)) (B:Int):List Int:=ns.map λn=>n.1*(B / n.2)
def jk (ns:List (Int×Int)):Int:=zv (ns.map (·.2)) 1
def QX (ns ms:List (Int×Int)):Int:=(xL (λx y=>x*y) (ie ns (jk ns)) (ie ms (jk ms))).sum
theorem rD (h:n∈ns):n.2∣jk ns:=Jr (aB.mpr #[n,h,rfl])
theorem Lb {K:FG9} (h:ta σ H λvs H1=>∃(l1 l2:Addr) (xs ys:List V),vs=[.ref l1,.ref l2]/\bI K H1 l1 xs/\bI K H1 l2 ys/\ys.9=xs.9 /\
 ∀L ts H',aH H1 H'->H1 L=none->H' L=some (.lst ts)->jp (UN H') (xs.zip ys) ts->Q (.ref L) H'):Io K ta σ H Q:=h
theorem Y3 (hb:0 < b) (h:Sz k b):Sz k (g m b):=h.le (by
 have h1:(g m b).natAbs=IR m b:=by unfold g;simp
 rw[h1];exact iC () (by have:=gX (a:=m) (b:=b);exact fO.mpr this |> λz=>by simpa using z))
theorem RO {ts us:List Int} {i:Nat} (h:((ts.map V.int).zip (us.map V.int))[i]?=some pq):∃t u,ts[i]?=some t/\us[i]?=some u/\pq=(.int t,.int u):=by
 rw[WL,aA,aA] at h;obtain h1|h2:=h;cases e1:ts[i]? with
 | none=>rw[e1] at h1;cases h1
 | some t =>
  cases e2:us[i]? with
  | none=>rw[e2] at h2;cases h2
  | some u =>
   rw[e1] at h1;rw[e2] at h2;refine #[t,u,rfl,rfl,?_];cases pq;simp at h1 h2;rw[h1,h2]
def Ny (K:FG9):Sp:=λvs H Q _=>∃x n,vs=[x]/\yy K H x n/\zW n/\∀H',aH H H'->Q (.bl true) H'
inductive yO (K:FG9) (vs:List V) (H:Hp) (Q:VK) (E9:XK):Prop
 | mk (p:Addr) (ns:List (Int×Int)):vs=[.ref p,.int ns.9]->HZ K H p ns->ns.9<=1000->(∀n∈ns,zW n)->(∀H',aH H H'->Q (.bl true) H')->yO K vs H Q E9
theorem sY {X:Cx} {a:Expr} {ta:TE} {pos:Pos} {c:Str} {T:String} {p p2:Pos} (hg:Gl X "isinstance") (hm:X.mg "isinstance"=none) (hb:XV c=some (.type T)) (hmc:X.mg c=none) (ha:PE X a ta) (hgc:Gl X c:=by rfl) (hn:c≠"__name__":=by decide)
  (hd:(c == ("__debug__":Str))=false:=by decide) (he:r8 [a,.Name c p2] X.env=[(false,eval a X.env),(false,eval (.Name c p2) X.env)]:=by rfl)
  (hpl:(backTo pos (r8 [.Name c p2] X.env)).any (·.1)=false:=by rfl) (he2:r8 [.Name c p2] X.env=[(false,eval (.Name c p2) X.env)]:=by rfl):PE X (.Call (.Name "isinstance" p) [a,.Name c p2] [] pos) (YB (Jd X.K T) ta):=by
 intro pins s σ H Q I h;refine GM (mL I hg hm Ze ?_);have hA:PA X [a,.Name c p2] (jY ta (jY (tC (.ty T)) Cv)):=fo ha (fo (AA hgc hmc hb rfl hn hd) ir he2) (by rw[he,he2])
 have hq:jY ta (jY (tC (.ty T)) Cv) σ H (λvs H1=>∃x,vs=[x,.ty T]/\Jd X.K T x H1 Q):=by
  show ta σ H λx H1=>∃x',[x,V.ty T]=[x',V.ty T]/\Jd X.K T x' H1 Q
  have e:(λx H1=>∃x',[x,V.ty T]=[x',V.ty T]/\Jd X.K T x' H1 Q)=λx H1=>Jd X.K T x H1 Q:=by
   funext x H1;apply propext;constructor
   ·rintro ⟨x',e,q⟩;cases e;exact q
   ·intro q;exact #[x,rfl,q]
  rw[e];exact h
 refine UV (iQ (hA pos pins s σ H _ I hq) λus s1 #[vs,H1,I1,r1,x,e,q1]=>?_) (by rw[he,he2]) hpl;subst e;obtain u|w'|rfl|ru|rt:=vals2 r1;cases rt;rcases q1 with ⟨t,bb,ty,ek,q⟩ | ⟨ad,xs,bb,rfl,hs,ek,q⟩
 ·exact Ek I1 ru ty ek λtk=>#[.bl bb,H1,I1.tok tk,rfl,q]
 ·cases ru;obtain its|_|⟨o,g1,g2,_⟩|_:=I1.tuple hs;exact dZ wW I1.kIn #[o,g1,g2] ek (λz=>nomatch z) λtk=>#[.bl bb,H1,I1.tok tk,rfl,q]
theorem Vl (h:H l=some (.lst [x])) (hk:k<=1000) (q:∀p H',aH H H'->H p=none->H' p=some (.lst (ce k x))->Q (.ref p) H'):XJ (.ref l) (.int k) H Q :=
 #[l,k,[x],rfl,rfl,h,(),(),cA (cX (by simp;lia)),λp hp=>q p _ (aH.new hp) hp (by rw[aN];simp)]
theorem Wm {k:Nat} (h:k<=xs.9):uu xs none (some (k:Int))=xs.take k:=by
 unfold uu;rw[HT.Bp,HT.xP,kF h];simp
theorem Q4 {k:Nat}:uu xs (some (k:Int)) none=xs.drop k:=by
 unfold uu;rw[HT.Bp,HT.xP];by_cases h:k<=xs.9
 ·rw[kF h,aM (by simp)]
 ·rw[Nat.min_eq_right (),List.drop_of_length_le (),List.drop_of_length_le ()];simp
theorem BC {α β:Type} {F:α->β->Prop} {x:α} {y:β} (h:F x y):∀m:Nat,jp F (ce m x) (ce m y)
 | 0=>.nil
 | m+1=>.cons h (BC h m)
theorem gH (h:a < n):OT n (a:Int)=some a:=by
 unfold OT;rw[if_pos (),if_pos (),Int.toNat_natCast]
theorem J0 {k:Nat}:uu xs none (some (k:Int))=xs.take k:=by
 by_cases h:k<=xs.9
 ·exact Wm h
 ·unfold uu;rw[HT.Bp,HT.xP,Nat.min_eq_right (),aM (by simp),aM ()];rfl
theorem pT {α β:Type} {F:α->β->Prop}:∀{l1:List α} {l2:List β} (_:jp F l1 l2) (k:Nat),jp F (l1.take k) (l2.take k)
 | _,_,.nil,k=>by simp;exact .nil
 | _,_,.cons h r,0=>.nil
 | _,_,.cons h r,k+1=>.cons h (pT r k)
def SY (K:FG9):List V->Hp->VK->Prop:=λxs H Q=>∃p ys,xs=[.ref p]/\(bI K H p ys\/jN K H p ys)/\∀l,H l=none->Q (.ref l) (upd H l (.lst ys))
theorem iW (K:FG9) (hK:X.K=K):pM X (.type "list") (SY K):=by subst hK;exact tQ
theorem aH.none (s:aH H H') (h:H' l=PP):H l=PP:=by
 cases e:H l with
 | none=>rfl
 | some o=>have:=s _ _ e;rw[h] at this;cases this
def UO (K:FG9) (H:Hp) (p:Addr) (rows:List (List (Int×Int))):Prop:=∃xs,H p=some (.lst xs)/\jp (λns x=>∃q,x=V.ref q/\HZ K H q ns) rows xs
theorem Pg (h:b.natAbs<=1000000):Sz 20 b:=bx h ()
theorem dk.none (u:dk b H H') (B:jm H' b) (h:H' l=PP):H l=PP:=by
 cases e:H l with
 | none=>rfl
 | some o =>
  by_cases z:l=b
  ·obtain _|_|_|_|_|e2|_:=B;rw[<- z,h] at e2;cases e2
  ·have:=u.1 l o e z;rw[h] at this;cases this
inductive A6 (K:FG9) (vs:List V) (H:Hp) (Q:VK) (E9:XK):Prop
 | mk (p:Addr) (rows:List (List (Int×Int))) (m:Nat):vs=[.ref p,.int rows.9,.int m]->UO K H p rows->rows.9<=1000->m<=1000->((∀ns∈rows,ns.9=m/\∀n∈ns,zW n))->(∀H',aH H H'->Q (.bl true) H')->A6 K vs H Q E9
end L2
namespace Nm
def nm (q:Rat):Int×Int:=(q.num,(q.den:Int))
theorem js (q:Rat):0 < (nm q).2:=by have:=q.den_pos;show 0 < (q.den:Int);lia
theorem FV (q:Rat):IR (nm q).1 (nm q).2=1:=q.reduced
theorem VT (h:nm p=nm q):p=q:=by
 have h1:p.num=q.num:=congrArg Prod.fst h;have h2:(p.den:Int)=q.den:=congrArg Prod.snd h;exact Rat.ext h1 ()
theorem oC (q:Rat):(q.num:Rat)=q*(q.den:Rat):=by
 have h:=Rat.num_divInt_den q;rw[Rat.divInt_eq_div] at h
 have hd:((q.den:Int):Rat)≠0:=by
  intro z;have z:=zZ.mp z;have:=q.den_pos
  lia
 have e:((q.den:Int):Rat)=(q.den:Rat):=aL _
 calc (q.num:Rat)=(q.num:Rat) / ((q.den:Int):Rat)*((q.den:Int):Rat):=(Rat.div_mul_cancel hd).symm
  _=q*(q.den:Rat):=by rw[h,e]
theorem XU (hb:0 < b) (hg:IR a b=1) (e:q*(b:Rat)=(a:Rat)):(a,b)=nm q:=by
 have h1:a*(q.den:Int)=q.num*b:=by
  apply dW.mp;rw[aW,aW,<- e,oC,aL];grind
 obtain e1|e2:=uniq hb (js q) hg (FV q) h1;exact Zv e1 e2
theorem oT {t b:Int} (hb:0 < b) (e:q*(b:Rat)=(t:Rat)):(lo t b,hi t b)=nm q:=by
 refine XU (F6 hb) (BR ()) ?_;have h:=BS t b;have hb':(b:Rat)≠0:=λz=>by have:=zZ.mp z;lia
 have h2:((lo t b:Int):Rat)*(b:Rat)=(t:Rat)*((hi t b:Int):Rat):=by rw[<- aW,h,aW]
 rw[<- e] at h2;have h3:(q*((hi t b:Int):Rat) - ((lo t b:Int):Rat))*(b:Rat)=0:=by grind
 rcases Cp.mp h3 with h4 | h4
 ·grind
 ·exact absurd h4 hb'
def Fr (M V:Nat) (q:Rat):Prop:=∃z:Int,q*(M:Rat)=(z:Rat)/\z.natAbs<=V*M
theorem Fr.mono (h:Fr M V q) (l:V<=V'):Fr M V' q:=by obtain z|e|b:=h;exact #[z,e,ag b (ax _ l)]
theorem Fr.scale (h:Fr M V q) (k:Nat):Fr (M*k) V q:=by
 obtain z|e|b:=h;refine #[z*k,?_,?_]
 ·rw[fE,aW,<- e,aL,Rat.mul_assoc]
 ·rw[dc,bM,<- cV];exact ax _ b
theorem Fr.scaleL (h:Fr M V q) (k:Nat):Fr (k*M) V q:=by rw[b7];exact h.scale k
theorem Fr.dvd (h:Fr M V q) (d:M∣N):Fr N V q:=by obtain k|rfl:=d;exact h.scale k
theorem Fr.add (h:Fr M V p) (h':Fr M W q):Fr M (V+W) (p+q):=by
 obtain z|e|b:=h;obtain z'|e'|b':=h';refine #[z+z',by rw[Cr,<- e,<- e',Rat.add_mul],?_];rw[EK];have:=Int.natAbs_add_le z z'
 lia
theorem Fr.neg (h:Fr M V q):Fr M V (-q):=by
 obtain z|e|b:=h;exact #[-z,by rw[cL,<- e,Rat.neg_mul],by rw[jR];exact b]
theorem Fr.mul (h:Fr M V p) (h':Fr N W q):Fr (M*N) (V*W) (p*q):=by
 obtain z|e|b:=h;obtain z'|e'|b':=h';refine #[z*z',?_,?_]
 ·rw[fE,aW,<- e,<- e'];grind
 ·rw[dc]
  calc z.natAbs*z'.natAbs<=(V*M)*(W*N):=aK b b'
   _=V*W*(M*N):=by rw[cV,Nat.mul_left_comm M,<- cV]
theorem Fr.zero:Fr M V 0:=#[0,by simp,by simp]
theorem Fr.int {i:Int} (h:i.natAbs<=V):Fr M V (i:Rat):=#[i*M,by rw[aW,aL],by rw[dc,bM];exact ax _ h]
theorem Fr.one (h:1<=V):Fr M V 1:=Fr.int (i:=1) h
theorem Fr.den (h:Fr M V q):(q.den:Int)∣(M:Int):=by
 obtain z|e|b:=h
 have h1:q.num*(M:Int)=z*(q.den:Int):=by
  apply dW.mp;rw[aW,aW,<- e,oC,aL,aL];grind
 have h2:(q.den:Int)∣q.num*(M:Int):=#[z,by rw[h1,il]];exact tK (by rw[nM];exact FV q) h2
theorem Fr.den_le (h:Fr M V q) (hM:0 < M):q.den<=M:=iC hM (pN.mp h.den)
theorem Fr.num_le (h:Fr M V q) (hM:0 < M):q.num.natAbs<=V*M:=by
 have hd:=h.den;obtain z|e|b:=h;obtain k|hk:=pN.mp hd;have hk0:k≠0:=λz=>by rw[z,AN] at hk;lia
 have h1:z=q.num*(k:Int):=by
  apply dW.mp;rw[aW,<- e,oC,aL,hk,fE];grind
 rw[h1] at b;exact ag (qT ()) b
theorem Fr.own (q:Rat) (h:q.num.natAbs<=V):Fr q.den V q:=#[q.num,(oC q).symm,ag h (bZ _ q.den_pos)]
theorem Fr.sz (h:Fr M V q) (hM:0 < M) (h1:M<=2^k) (h2:V<=2^j):Sz (j+k+1) (nm q).1/\Sz (k+1) (nm q).2:=by
 constructor
 ·show q.num.natAbs < 2^(j+k+1)
  have h3:=h.num_le hM;have h4:V*M<=2^j*2^k:=aK h2 h1;rw[gK,aV];have:=Nat.two_pow_pos (j+k);rw[aV] at this
  lia
 ·show (q.den:Int).natAbs < 2^(k+1)
  have h3:=h.den_le hM;rw[bM,gK];have:=Nat.two_pow_pos k
  lia
theorem Fr.sum {M V:Nat}:∀{l:List Rat},(∀x∈l,Fr M V x)->Fr M (l.9*V) l.sum
 | [],_=>by simp;exact Fr.zero
 | x :: r,h=>by
  rw[List.sum_cons,a9,d7,qq];exact (h x (.head _)).add (Fr.sum λy hy=>h y (.tail _ hy))
def cb (xs ys:List Rat):Rat:=(xL (λx y=>x*y) xs ys).sum
theorem Fr.dot (h:∀x∈xs,Fr M V x) (h':∀y∈ys,Fr N W y):Fr (M*N) (xs.9*(V*W)) (cb xs ys):=by
 have q:=Fr.sum (M:=M*N) (V:=V*W) (l:=xL (λx y=>x*y) xs ys) λz hz=>by
  obtain i|hi|e:=bu hz;rw[ji] at e;rw[<- e];exact (h _ (aQ _)).mul (h' _ (aQ _))
 exact q.mono (ax _ (by rw[cu];lia))
theorem zB (xs ys:List Rat):cb xs ys=cb ys xs:=by
 unfold cb;rw[List.zipWith_comm];congr 2;funext a b;exact cD ..
theorem AG:∀{bs:List Int} {m M:Int},0 < m->m∣M->(∀b∈bs,0 < b/\b∣M)->zv bs m∣M
 | [],_,_,_,h,_=>h
 | b :: r,m,M,hm,h,hb=>by
  have b1:=hb b dR;refine AG (bs:=r) (yj hm b1.1) ?_ λc hc=>hb c (cz _ hc)
  have gp:0 < g m b:=Cb ();have e1:=BU m b;have e2:=zz m b;obtain u|hu:=h;obtain v|hv:=b1.2
  have h3:lo m b*u=hi m b*v:=by
   apply wX (show g m b≠0 by lia)
   calc lo m b*u*g m b=lo m b*g m b*u:=by rw[eN,il u,<- eN]
    _=m*u:=by rw[e1]
    _=M:=hu.symm
    _=b*v:=hv
    _=hi m b*g m b*v:=by rw[e2]
    _=hi m b*v*g m b:=by rw[eN,il (g m b),<- eN]
  have h4:hi m b∣lo m b*u:=#[v,h3];have h5:hi m b∣u:=tK (by rw[nM];exact BR ()) h4;obtain w|hw:=h5;refine #[w,?_];show M=m*hi m b*w
  rw[hu,hw,eN]
theorem Ge (hb:0 < b) (d:a∣b) (h:Sz k b):Sz k a:=h.le (iC () (fO.mpr d))
end Nm
namespace Nm
def Dr (W:Nat) (x:Rat):Prop:=x.num.natAbs<=W/\x.den<=W
def xU:List Nat->Nat
 | []=>1
 | a :: r=>a*xU r
theorem zb:∀{l:List Nat},(∀a∈l,0 < a)->0 < xU l
 | [],_=>Nat.one_pos
 | a :: r,h=>bC (h a (.head _)) (zb λb hb=>h b (.tail _ hb))
theorem zg:∀{l:List Nat} {a:Nat},a∈l->a∣xU l
 | b :: r,a,h=>by
  rcases aJ.mp h with rfl | h
  ·exact yB ..
  ·exact ou (zg h) (eh ..)
theorem Bw {k:Nat}:∀{l:List Nat},(∀a∈l,a<=2^k)->xU l<=2^(k*l.9)
 | [],_=>by simp [xU]
 | a :: r,h=>by
  rw[a9,Nat.mul_succ,aV,b7 (2^(k*r.9))];exact aK (h a (.head _)) (Bw λb hb=>h b (.tail _ hb))
def GF (M V:Nat) (rows:LR9):Prop:=∀xs∈rows,∀x∈xs,Fr M V x
def WG (c n i:Nat) (rows:LR9):Prop:=∃M,0 < M/\M<=2^(i*(c*n+2))/\GF M (2^(20+2*i)) rows
theorem V8:WG c n 0 []:=#[1,(),by simp,λ_ h=>nomatch h]
theorem V9 (c n i:Nat):(i+1)*(c*n+2)=i*(c*n+2)+(c*n+2):=d7 ..
theorem Tr (h:WG c n i rows) (hl:xs.9=n) (hd:∀x∈xs,Dr (2^c) x) (hc:c<=20):WG c n (i+1) (rows++[xs]):=by
 obtain M|h0|h1|h2:=h
 have dp:0 < xU (xs.map (·.den)):=zb λa ha=>by
  obtain x|_|rfl:=aB.mp ha;exact x.den_pos
 have dl:xU (xs.map (·.den))<=2^(c*n):=by
  have:=Bw (k:=c) (l:=xs.map (·.den)) λa ha=>by
   obtain x|hx|rfl:=aB.mp ha;exact (hd x hx).2
  rwa [af,hl] at this
 refine #[M*xU (xs.map (·.den)),bC h0 dp,?_,λys hy x hx=>?_]
 ·rw[V9,aV];exact aK h1 (ag dl (aj () ()))
 ·rcases av.mp hy with hy | hy
  ·exact ((h2 ys hy x hx).scale _).mono (aj () ())
  ·have e:ys=xs:=by simpa using hy
   subst e;have f:Fr x.den (2^c) x:=Fr.own x (hd x hx).1;have g:=(f.dvd (zg (aB.mpr #[x,hx,rfl]))).scaleL M;exact g.mono (aj () ())
def b8 (rows:LR9) (w:Nat):LR9:=(on w).map λj=>rows.map λxs=>xs.getD j 0
def dU (one other:LR9) (w:Nat):LR9:=one.map λxs=>(b8 other w).map λys=>cb ys xs
theorem di:(b8 rows w).9=w:=by simp [b8]
theorem ks:∀ys∈b8 rows w,ys.9=rows.9:=λys hy=>by
 obtain j|_|rfl:=aB.mp hy;exact af ..
theorem getD_map {α:Type} {l:List α} {f:α->Rat} (h:i < l.9):(l.map f).getD i 0=f l[i]:=by
 rw[aa,aA,ae h];rfl
theorem Nl (h:∀xs∈rows,xs.9=w):b8 (b8 rows w) rows.9=rows:=by
 apply dI
 ·exact di
 ·intro i h1 h2;have e:(b8 (b8 rows w) rows.9)[i]=(b8 rows w).map λxs=>xs.getD i 0:=by simp [b8]
  rw[e];have hw:=h rows[i] (aQ h2);apply dI
  ·rw[af,di,hw]
  ·intro j h3 h4;rw[iD];have e2:(b8 rows w)[j]'(by rw[di];lia)=rows.map λxs=>xs.getD j 0:=by simp [b8]
   rw[e2,getD_map h2,aa,ae h4];rfl
end Nm
namespace L2
open PySem PySem.Spec PyProof.Rows Nm
theorem dk.sqt {K:FG9} (u:dk b H H') (B:jm H b) (h:jN K H a xs):jN K H' a xs:=by
 rcases h with (h | ⟨o,h⟩) | h
 ·exact .inl (.inl (u.tup B h))
 ·exact .inl (.inr #[o,u.other (λz=>by obtain _|_|_|_|_|e|_:=B;rw[z,e] at h;cases h) h])
 ·exact .inr h
theorem Pj {K:FG9} (h:jN K H a xs) (hl:H l=some (.lst ys)):jN K (upd H l o) a xs:=by
 rcases h with (h | ⟨o,h⟩) | h
 ·exact .inl (.inl (by rw[bG λz=>by rw[z,hl] at h;cases h];exact h))
 ·exact .inl (.inr #[o,by rw[bG λz=>by rw[z,hl] at h;cases h];exact h])
 ·exact .inr h
def bX (K:FG9) (H:Hp) (q:Rat) (x:V):Prop:=yy K H x (nm q)
section
variable {K:FG9} {H H':Hp} {q:Rat} {x:V} {b l p:Addr} {qs:List Rat}
theorem bX.same (h:bX K H q x) (e:aH H H'):bX K H' q x:=e.num h
theorem bX.upto (h:bX K H q x) (u:dk b H H') (B:jm H b):bX K H' q x:=by obtain p|e|s:=h;exact #[p,e,u.sqt B s]
theorem bX.updL (h:bX K H q x) (hl:H l=some (.lst ys)):bX K (upd H l o) q x:=by obtain p|e|s:=h;exact #[p,e,Pj s hl]
theorem bX.mk (h:H r=some (.tup [.int a,.int c])) (e:(a,c)=nm q):bX K H q (.ref r):=#[r,rfl,by rw[<- e];exact jN.of h]
def cC (K:FG9) (H:Hp) (p:Addr) (qs:List Rat):Prop:=∃xs,H p=some (.lst xs)/\jp (bX K H) qs xs
theorem cC.same (h:cC K H p qs) (e:aH H H'):cC K H' p qs:=by obtain xs|g|r:=h;exact #[xs,e _ _ g,ca (λ_ _ z=>z.same e) r]
theorem cC.upto (h:cC K H p qs) (u:dk b H H') (B:jm H b) (n:p≠b):cC K H' p qs:=by obtain xs|g|r:=h;exact #[xs,u.other n g,ca (λ_ _ z=>z.upto u B) r]
theorem cC.updL (h:cC K H p qs) (hl:H l=some (.lst ys)) (n:p≠l):cC K (upd H l o) p qs:=by obtain xs|g|r:=h;exact #[xs,by rw[bG n];exact g,ca (λ_ _ z=>z.updL hl) r]
theorem vh {α β γ:Type} {F:α->β->Prop} {f:γ->α}:∀{l:List γ} {l2:List β},jp (λc x=>F (f c) x) l l2->jp F (l.map f) l2
 | _,_,.nil=>.nil
 | _,_,.cons r t=>.cons r (vh t)
theorem cC.rowK (h:cC K H p qs):HZ K H p (qs.map nm):=by obtain xs|g|r:=h;exact #[xs,g,vh (F:=λn x=>yy K H x n) r]
def c5 (K:FG9) (H0 H:Hp) (qs:List Rat) (x:V):Prop:=∃q,x=V.ref q/\H0 q=none/\cC K H q qs
def be (K:FG9) (H0 H:Hp) (p:Addr) (rows:LR9):Prop:=∃xs,H p=some (.lst xs)/\jp (c5 K H0 H) rows xs/\V.ref p∉xs
theorem iS {rows:LR9} (h:∃H2,H2 p=none/\jp (c5 K H0 H2) rows ys):V.ref p∉ys:=λhm=>by
 obtain H2|e|pr:=h;obtain qs|_|q|z|_|xs|g|_:=dF pr hm;cases z;rw[e] at g;cases g
variable {H0:Hp} {rows:LR9}
theorem c5.same (h:c5 K H0 H qs x) (e:aH H H'):c5 K H0 H' qs x:=by obtain q|a|b|c:=h;exact #[q,a,b,c.same e]
theorem c5.upto (h:c5 K H0 H qs x) (u:dk b H H') (B:jm H b) (nb:H0 b≠none):c5 K H0 H' qs x:=by obtain q|a|c|d:=h;exact #[q,a,c,d.upto u B λz=>nb (by rw[<- z];exact c)]
theorem c5.weak (h:c5 K H0 H qs x) (e:aH H1 H0):c5 K H1 H qs x:=by obtain q|a|b|c:=h;exact #[q,a,e.none b,c]
theorem be.same (h:be K H0 H p rows) (e:aH H H'):be K H0 H' p rows:=by obtain xs|g|r|n:=h;exact #[xs,e _ _ g,ca (λ_ _ z=>z.same e) r,n]
theorem be.upto (h:be K H0 H p rows) (u:dk b H H') (B:jm H b) (n:p≠b) (nb:H0 b≠none):be K H0 H' p rows:=by obtain xs|g|r|nn:=h;exact #[xs,u.other n g,ca (λ_ _ z=>z.upto u B nb) r,nn]
theorem be.weak (h:be K H0 H p rows) (e:aH H1 H0):be K H1 H p rows:=by obtain xs|g|r|n:=h;exact #[xs,g,ca (λ_ _ z=>z.weak e) r,n]
theorem be.gridK (h:be K H0 H p rows):UO K H p (rows.map (List.map nm)):=by obtain xs|g|r|_:=h;exact #[xs,g,vh (F:=λns x=>∃q,x=V.ref q/\HZ K H q ns) (ca (λ_ _ #[q,a,_,c]=>#[q,a,c.rowK]) r)]
end
def Jx:Kind Rat:=X3.via nm (λ_ _ e=>VT e) (λK H x q=>bX K H q x) id
def Ei:Kind (List Rat):=To Jx
def pH:Kind (LR9):=To Ei
theorem cC.kind {K:FG9} (h:cC K H p qs):Ei.R K H (.ref p) qs:=by obtain xs|g|q:=h;exact #[p,xs,rfl,bI.of g,q]
theorem be.kind {K:FG9} (h:be K H0 H p rows):pH.R K H (.ref p) rows:=by obtain xs|g|q|_:=h;exact #[p,xs,rfl,bI.of g,ca (λ_ _ #[q,a,_,c]=>by rw[a];exact c.kind) q]
def jX (x:Rat):Prop:=Sz 4000000 (nm x).1/\Sz 4000000 (nm x).2
def Fits (l:List Rat):Prop:=∃M V:Nat,0 < M/\M<=2^900/\V<=2^900/\∀x∈l,Fr M V x
theorem Fits.szn (h:Fits l) (hx:x∈l):jX x:=by
 obtain M|V|h0|h1|h2|h3:=h;obtain a|b:=(h3 x hx).sz h0 h1 h2;exact #[a.mono (),b.mono ()]
theorem Fits.ok (h:Fits l) (hx:x∈l):zW (nm x):=#[js x,FV x,(h.szn hx).1.mono (),(h.szn hx).2.mono ()]
theorem LG {M V:Nat} (h0:0 < M) (h1:M<=2^1800) (h2:V<=2^1810) (h:Fr M V x):jX x:=by
 obtain a|b:=h.sz h0 h1 h2;exact #[a.mono (),b.mono ()]
theorem KQ (h:jX x):zW (nm x):=#[js x,FV x,h.1.mono (),h.2.mono ()]
inductive rP (K:FG9) (f:Rat->Rat->Rat) (vs:List V) (H:Hp) (Q:VK) (E9:XK):Prop
 | mk (u v:V) (x y:Rat):vs=[u,v]->bX K H x u->bX K H y v->jX x->jX y->(∀r H',aH H H'->bX K H' (f x y) (.ref r)->Q (.ref r) H')->rP K f vs H Q E9
section
variable {K:FG9}
theorem Lf (hf:∀x y:Rat,(f x y)*(((nm x).2*(nm y).2:Int):Rat)=((F (nm x).1 (nm x).2 (nm y).1 (nm y).2:Int):Rat)) (h:rP K f vs H Q E):Mx K F vs H Q E:=by
 obtain u|v|x|y|rfl|⟨p,rfl,hp⟩|⟨q,rfl,hq⟩|⟨s1,s2⟩|⟨s3,s4⟩|k:=h;refine #[p,q,_,_,_,_,rfl,hp,hq,js x,js y,s1,s2,s3,s4,λr H' s g=>k r H' s (bX.mk g ?_)];exact oT (j9 (js x) (js y)) (hf x y)
theorem tx (x:Rat):(((nm x).1:Int):Rat)=x*(((nm x).2:Int):Rat):=by
 show (x.num:Rat)=x*(((x.den:Nat):Int):Rat)
 rw[oC,aL]
theorem Nc (h:rP K (λx y=>x+y) vs H Q E):Mx K UI vs H Q E:=Lf (λx y=>by
 unfold UI;rw[Cr,aW,aW,aW,tx,tx];grind) h
theorem Aw (h:rP K (λx y=>x - y) vs H Q E):Mx K QQ vs H Q E:=Lf (λx y=>by
 unfold QQ;rw[Cq,aW,aW,aW,tx,tx];grind) h
theorem MK (h:rP K (λx y=>x*y) vs H Q E):Mx K QP vs H Q E:=Lf (λx y=>by
 unfold QP;rw[aW,aW,tx,tx];grind) h
end
def Mh (M:Int) (ns:List (Int×Int)):Prop:=0 < M/\Sz 4400000 M/\∀n∈ns,0 < n.2/\n.2∣M/\Sz 4400000 n.1
theorem Mh.bot (h:Mh M ns):0 < jk ns/\Sz 4400000 (jk ns):=by
 have hb:∀b∈ns.map (·.2),0 < b/\b∣M:=λb hb=>by
  obtain n|hn|rfl:=aB.mp hb;exact #[(h.2.2 n hn).1,(h.2.2 n hn).2.1]
 exact #[BX () λb q=>(hb b q).1,Ge h.1 (AG () (Int.one_dvd _) hb) h.2.1]
inductive Pl (K:FG9) (vs:List V) (H:Hp) (Q:VK) (E9:XK):Prop
 | mk (p:Addr) (bs:List Int) (M:Int):vs=[.ref p]->bI K H p (bs.map V.int)->0 < M->Sz 4400000 M->((∀b∈bs,0 < b/\b∣M))->Q (.int (zv bs 1)) H->Pl K vs H Q E9
inductive Pn (K:FG9) (vs:List V) (H:Hp) (Q:VK) (E9:XK):Prop
 | mk (p:Addr) (ns:List (Int×Int)) (M:Int):vs=[.ref p]->HZ K H p ns->ns.9<=1000->Mh M ns->(∀H',aH H H'->Q (.int (jk ns)) H')->Pn K vs H Q E9
inductive Iv (K:FG9) (vs:List V) (H:Hp) (Q:VK) (E9:XK):Prop
 | mk (p:Addr) (ns:List (Int×Int)) (M:Int) (B:Int):vs=[.ref p,.int B]->HZ K H p ns->ns.9<=1000->Mh M ns->0 < B->Sz 4400000 B->(∀r H',H r=none->aH H H'->H' r=some (.lst ((ie ns B).map V.int))->Q (.ref r) H')->Iv K vs H Q E9
theorem Im (h:Mh M ns) (hB:0 < B) (sB:Sz 4400000 B) (ht:t∈ie ns B):Sz 8800000 t:=by
 obtain n|hn|rfl:=aB.mp ht;have hp:=h.2.2 n hn
 have sq:Sz 4400000 (B / n.2):=sB.le (by
  rw[WM ()];exact Nat.div_le_self ..)
 exact (hp.2.2.mul sq).mono ()
theorem uy (h:(nm x).2∣B):(((nm x).1*(B / (nm x).2):Int):Rat)=x*(B:Rat):=by
 obtain k|rfl:=h;have hp:=js x;rw[Int.mul_ediv_cancel_left _ (),aW,aW,tx];grind
theorem JC {B C:Int}:∀{xs ys:List Rat},(∀x∈xs,(nm x).2∣B)->(∀y∈ys,(nm y).2∣C)->(((xL (λx y=>x*y) (ie (xs.map nm) B) (ie (ys.map nm) C)).sum:Int):Rat)=cb xs ys*((B:Rat)*(C:Rat))
 | [],ys,_,_=>by simp [ie,cb]
 | x :: xs,[],_,_=>by simp [ie,cb]
 | x :: xs,y :: ys,h1,h2=>by
  have ih:=JC (B:=B) (C:=C) (xs:=xs) (ys:=ys) (λz hz=>h1 z (.tail _ hz)) (λz hz=>h2 z (.tail _ hz));have e1:=uy (h1 x (.head _));have e2:=uy (h2 y (.head _));have e3:(xL (λx y=>x*y) (ie ((x :: xs).map nm) B) (ie ((y :: ys).map nm) C)).sum=((nm x).1*(B / (nm x).2))*((nm y).1*(C / (nm y).2))+(xL (λx y=>x*y) (ie (xs.map nm) B) (ie (ys.map nm) C)).sum:=rfl;have e4:cb (x :: xs) (y :: ys)=x*y+cb xs ys:=rfl;rw[e3,e4,Cr,aW,ih,e1,e2];grind
theorem Tw (h1:0 < jk (xs.map nm)) (h2:0 < jk (ys.map nm)):(lo (QX (xs.map nm) (ys.map nm)) (jk (xs.map nm)*jk (ys.map nm)),hi (QX (xs.map nm) (ys.map nm)) (jk (xs.map nm)*jk (ys.map nm)))=nm (cb xs ys):=by
 refine oT (j9 h1 h2) ?_;unfold QX;rw[JC (λx hx=>rD (aB.mpr #[x,hx,rfl])) (λx hx=>rD (aB.mpr #[x,hx,rfl])),aW]
inductive Iu (K:FG9) (vs:List V) (H:Hp) (Q:VK) (E9:XK):Prop
 | mk (p:Addr) (w:Nat) (H0:Hp) (rows:LR9):vs=[.ref p,.int w]->be K H0 H p rows->rows.9<=1000->w<=1000->(∀xs∈rows,xs.9=w)->(∀r H',H r=none->aH H H'->be K H H' r (b8 rows w)->Q (.ref r) H')->Iu K vs H Q E9
def UU (m:Nat) (a:Int):List Rat:=(on m).map λ(i:Nat)=>if ((i:Nat):Int)=a then 1 else 0
inductive Ir (K:FG9) (vs:List V) (H:Hp) (Q:VK) (E9:XK):Prop
 | mk (m:Nat) (a:Int):vs=[.int m,.int a]->m<=1000->(∀r H',H r=none->aH H H'->cC K H' r (UU m a)->Q (.ref r) H')->Ir K vs H Q E9
inductive A3 (K:FG9) (vs:List V) (H:Hp) (Q:VK) (E9:XK):Prop
 | mk (b:Addr) (w:Nat):vs=[.ref b,.int w]->jm H b->1<=w->w<=1000000->(∀r x H',Dr (max w 6) x->bX K H' x (.ref r)->jm H' b->dk b H H'->Q (.ref r) H')->A3 K vs H Q E9
inductive IL (K:FG9) (vs:List V) (H:Hp) (Q:VK) (E9:XK):Prop
 | mk (b:Addr) (m w:Nat):vs=[.ref b,.int m,.int w]->jm H b->m<=1000->1<=w->w<=1000000->(∀r xs H',H r=none->cC K H' r xs->xs.9=m->(∀x∈xs,Dr (max w 6) x)->jm H' b->dk b H H'->Q (.ref r) H')->IL K vs H Q E9
inductive Iz (K:FG9) (vs:List V) (H:Hp) (Q:VK) (E9:XK):Prop
 | mk (p q:Addr) (xs ys:List Rat):vs=[.ref p,.ref q]->cC K H p xs->cC K H q ys->ys.9=xs.9->xs.9<=1000->(∀x∈xs,jX x)->(∀y∈ys,jX y)->(∀r H',H r=none->aH H H'->cC K H' r (xL (λx y=>x+y) xs ys)->Q (.ref r) H')->Iz K vs H Q E9
inductive Po (K:FG9) (vs:List V) (H:Hp) (Q:VK) (E9:XK):Prop
 | mk (u:V) (q:Addr) (c:Rat) (ys:List Rat):vs=[u,.ref q]->bX K H c u->jX c->cC K H q ys->ys.9<=1000->(∀y∈ys,jX y)->(∀r H',H r=none->aH H H'->cC K H' r (ys.map λy=>c*y)->Q (.ref r) H')->Po K vs H Q E9
inductive A9 (K:FG9) (vs:List V) (H:Hp) (Q:VK) (E9:XK):Prop
 | mk (p:Addr) (H0:Hp) (rows:LR9):vs=[.ref p]->be K H0 H p rows->rows.9<=1000->(∀xs∈rows,xs.9<=1000)->(∀r H',H r=none->aH H H'->be K H H' r rows->Q (.ref r) H')->A9 K vs H Q E9
section
variable {K:FG9} {g:TG}
theorem df {F:Hp->α->V->Prop} (G:Hp->β->V->Prop) (f:α->β) (hx:H a=some (.lst xs)) (pf:jp (F H) as xs) (hl:as.9<=1000)
  (hF:∀{H H' c x},F H c x->aH H H'->F H' c x) (hG:∀{H H' c x},G H c x->aH H H'->G H' c x)
  (hs:∀(i:Nat) c x H' NY NN,as[i]?=some c->aH H H'->F H' c x->(∀y H2,aH H' H2->G H2 (f c) y->NY y H2)->tW σ₀ g tf te x H' NY NN)
  (hd:∀ys H' p,H p=none->aH H H'->H' p=some (.lst ys)->jp (G H') (as.map f) ys->(∃H2,H2 p=none/\jp (G H2) (as.map f) ys)->Q (.ref p) H'):uh (T5 K a) σ₀ g tf te Q H:=by
 have lx:=pf.9;refine gR (K:=K) (xs:=xs) (λi ys H'=>aH H H'/\jp (G H') ((as.take i).map f) ys) lV #[aH.refl _,.nil] (λi ys H' _ #[s,_]=>bI.of (s _ _ hx)) ?_ ?_
 ·rintro i x ys H' hx' hlen ⟨s,pr⟩;obtain c|ec|hc:=cv pf hx';refine hs i c x H' _ _ ec s (hF hc s) λy H2 s2 gy=>#[s.trans s2,?_]
  rw[take_snoc ec,cG];exact bR (ca (λ_ _ z=>hG z s2) pr) (.cons gy .nil)
 ·rintro ys H' hy ⟨s,pr⟩ p hp;rw[aM ()] at pr;exact hd ys _ p (s.none hp) (s.trans (aH.new hp)) aN (ca (λ_ _ z=>hG z (aH.new hp)) pr) #[H',hp,pr]
theorem d6 (G:Hp->β->V->Prop) (f:Nat->β) (hl:n<=1000) (hG:∀{H H' c x},G H c x->aH H H'->G H' c x)
  (hs:∀(i:Nat) H' NY NN,i < n->aH H H'->(∀y H2,aH H' H2->G H2 (f i) y->NY y H2)->tW σ₀ g tf te (.int i) H' NY NN)
  (hd:∀ys H' p,H p=none->aH H H'->H' p=some (.lst ys)->jp (G H') ((on n).map f) ys->(∃H2,H2 p=none/\jp (G H2) ((on n).map f) ys)->Q (.ref p) H'):uh (KH 0 n) σ₀ g tf te Q H:=by
 refine mM (λi ys H'=>aH H H'/\jp (G H') ((on i).map f) ys) lV #[aH.refl _,.nil] ?_ ?_
 ·rintro i ys H' hi hlen ⟨s,pr⟩;rw[wA];refine hs i H' _ _ hi s λy H2 s2 gy=>#[s.trans s2,?_]
  rw[uv,cG];exact bR (ca (λ_ _ z=>hG z s2) pr) (.cons gy .nil)
 ·rintro ys H' hy ⟨s,pr⟩ p hp;exact hd ys _ p (s.none hp) (s.trans (aH.new hp)) aN (ca (λ_ _ z=>hG z (aH.new hp)) pr) #[H',hp,pr]
theorem zF (G:Hp->β->V->Prop) (C:β->Prop) (hB:jm H b) (hl:n<=1000) (hG:∀{H' H'' c x},G H' c x->dk b H' H''->jm H' b->G H'' c x)
  (hs:∀(i:Nat) H' NY NN,i < n->dk b H H'->jm H' b->(∀y c H2,dk b H' H2->jm H2 b->C c->G H2 c y->NY y H2)->tW σ₀ g tf te (.int i) H' NY NN)
  (hd:∀ys cs H' p,H p=none->dk b H H'->jm H' b->H' p=some (.lst ys)->cs.9=n->(∀c∈cs,C c)->jp (G H') cs ys->(∃H2,H2 p=none/\jp (G H2) cs ys)->Q (.ref p) H'):uh (KH 0 n) σ₀ g tf te Q H:=by
 refine mM (λi ys H'=>dk b H H'/\jm H' b/\∃cs,cs.9=i/\(∀c∈cs,C c)/\jp (G H') cs ys) lV #[(aH.refl _).upto,hB,[],rfl,(λ_ z=>nomatch z),.nil] ?_ ?_
 ·rintro i ys H' hi hlen ⟨u,B,cs,lc,hc,pr⟩;rw[wA];refine hs i H' _ _ hi u B λy c H2 u2 B2 cc gy=>#[u.trans u2,B2,cs++[c],by simp [lc],Nb hc cc,bR (ca (λ_ _ z=>hG z u2 B) pr) (.cons gy .nil)]
 ·rintro ys H' hy ⟨u,B,cs,lc,hc,pr⟩ p hp;have s:aH H' (upd H' p (.lst ys)):=aH.new hp;exact hd ys cs _ p (u.none B hp) (u.same s) (B.same s) aN lc hc (ca (λ_ _ z=>hG z s.upto B) pr) #[H',hp,pr]
end
theorem eF {g:TG} {tb:TS} {D:Ends} (Pv:Nat->St->Hp->Prop) (h0:Pv 0 σ H)
  (hs:∀(i:Nat) σ H,i < n->Pv i σ H->g (.int i) σ H λσ2 H2=>tb { D with nx:=Pv (i+1),ct:=Pv (i+1),bk:=D.nx } σ2 H2) (hd:∀σ H,Pv n σ H->D.nx σ H) :
  ∃W:Nat->Nat->St->Hp->Prop,(∃m,W 0 m σ H)/\∀i m σ H,W i m σ H →
   ((KH 0 n).stop i H/\D.nx σ H)\/((KH 0 n).go i H/\∃N:St->Hp->Prop,(∀σ' H',N σ' H'->∃m',m' < m/\W (i+1) m' σ' H')/\∀x H',(KH 0 n).yld i H x H'->g x σ H' λσ2 H2=>tb { D with nx:=N,ct:=N,bk:=D.nx } σ2 H2) :=
 En (lo:=0) Pv h0 (λi σ H hi p=>by rw[wA];exact hs i σ H hi p) hd
theorem mN:pM X (.type "int") (λxs H Q=>∃b:Bool,xs=[.bl b]/\Q (.int (if b=true then 1 else 0)) H):=by
 intro pins s σ H xs us Q I r h;obtain b|rfl|q:=h;obtain u|rfl|ru:=vals1 r;cases ru;exact call_int_bool #[.int _,H,I.tok _,#[_,rfl],q]
theorem De (K:FG9) (hK:X.K=K):pM X (.builtin "len") (λxs H Q=>∃p ys,xs=[.ref p]/\(bI K H p ys\/jN K H p ys)/\Q (.int ys.9) H):=by subst hK;exact aU
theorem P0 {st:Stmt}:PS X st (λ_ _ _=>False):=λ_ _ _ _ _ _ h=>h.elim
theorem Qo {t b:Int} (hb:0 < b) (h1:t.natAbs<=W) (h2:b.natAbs<=W):∃q:Rat,(lo t b,hi t b)=nm q/\Dr W q/\q*(b:Rat)=(t:Rat):=by
 have hb':(b:Rat)≠0:=λz=>by have:=zZ.mp z;lia
 have e:(t:Rat) / (b:Rat)*(b:Rat)=t:=Rat.div_mul_cancel hb';have h:=oT hb e;refine #[_,h,#[?_,?_],e]
 ·have:=congrArg Prod.fst h;have z:=lo_le (t:=t) (b:=b) ();show ((nm ((t:Rat) / (b:Rat))).1).natAbs<=W
  rw[<- this];exact ag z h1
 ·have:=congrArg Prod.snd h;have z:=UG (t:=t) (b:=b) ();have hd:(((t:Rat) / (b:Rat)).den:Int)=hi t b:=this.symm;have hp:=F6 (t:=t) hb
  lia
theorem F4 {K:FG9} (h:jp (bX K H) qs xs) (hj:j < qs.9):∃v,LZ xs (j:Int)=some v/\bX K H (qs.getD j 0) v:=by
 have hl:=h.9;refine #[xs[j]'(),eG (by simp),?_];have:=mF h (i:=j) hj ();rwa [aa,ae hj]
theorem Ep {xs ys:List Rat} (h1:i < xs.9) (h2:i < ys.9):cb (xs.take (i+1)) (ys.take (i+1))=cb (xs.take i) (ys.take i)+xs.getD i 0*ys.getD i 0:=by
 have e1:xs[i]?=some (xs.getD i 0):=by rw[aa,ae h1];rfl
 have e2:ys[i]?=some (ys.getD i 0):=by rw[aa,ae h2];rfl
 unfold cb;rw[take_snoc e1,take_snoc e2,List.zipWith_append (by simp;lia),List.sum_append];simp [nH]
theorem getD_mem {xs:List Rat} (h:i < xs.9):xs.getD i 0∈xs:=by
 rw[aa,ae h];exact aQ h
theorem Dy {xs ys:List Rat} (h:ys.9=xs.9):xL (λx y=>x+y) xs ys=(on xs.9).map λi=>xs.getD i 0+ys.getD i 0:=by
 apply dM;intro i;rw[b9,aA];by_cases hi:i < xs.9
 ·rw[cZ hi,ae hi,ae (show i < ys.9 by lia)];simp [aa,ae hi,ae (show i < ys.9 by lia)]
 ·rw[aE (show (on xs.9).9<=i by simp;lia),aE (show xs.9<=i by lia)];rfl
theorem c5.updL {K:FG9} (h:c5 K H0 H qs x) (hl:H l=some (.lst ys)) (nl:H0 l≠none):c5 K H0 (upd H l o) qs x:=by obtain q|a|b|c:=h;exact #[q,a,b,c.updL hl λz=>nl (by rw[<- z];exact b)]
theorem jm.at (B:jm H b):H b≠none:=by obtain _|_|_|_|_|e|_:=B;rw[e];simp
theorem Inner.at (B:jm H b) (i:Inner H b q):H q≠none:=by
 obtain q'|i'|xs|e:=B.inner;rw[<- Inner.inj i' i,e];simp
theorem eE {F:α->β->Prop} {l1:List α} {l2:List β} (h:jp F l1 l2) (hi:i < l1.9):∃x y,l1[i]?=some x/\l2[i]?=some y/\x∈l1/\F x y:=by
 have hl:=h.9;exact #[l1[i],l2[i]'(),by simp,by simp,aQ _,mF h hi ()]
section
variable {α β:Type} [DecidableEq α] [DecidableEq β] (k1:Kind α) (k2:Kind β)
theorem yF {X:Cx} {pins:List (Addr×Obj)} {σ:St} {H:Hp} {s:nw} {A:Ix} (I:Inv X pins σ H s) (h1:A.units+k1.d < Op) (h2:A.units+k2.d < Op) {x y z w:V} {us ws:List Value} {a b:α×β}
  (rx:c7 [x,y] us) (ry:c7 [z,w] ws) (a1:k1.R X.K H x a.1) (a2:k2.R X.K H y a.2) (b1:k1.R X.K H z b.1) (b2:k2.R X.K H w b.2) :
  ∀j (h1:j < us.5.7) (h2:j < ws.5.7),Ch A s us.5[j] ws.5[j] (if j=0 then decide (a.1=b.1) else decide (a.2=b.2)):=λj l1 l2=>by
 obtain u1|u2|rfl|r1|r2:=vals2 rx;obtain w1|w2|rfl|q1|q2:=vals2 ry;have hj:j < 2:=by simpa using l1
 rcases cg j 1 with h | h
 ·have e:j=0:=()
  subst e;exact k1.eq (A:=A) I r1 q1 a1 b1 h1
 ·have e:j=1:=()
  subst e;exact k2.eq (A:=A) I r2 q2 a2 b2 h2
theorem ET {a b:α×β}:(on 2).all (λj=>if j=0 then decide (a.1=b.1) else decide (a.2=b.2))=decide (a=b):=by
 have e:on 2=[0,1]:=rfl;rw[e];simp only[KE,List.all_nil,Bool.and_true,if_true,Nat.one_ne_zero,if_false];rw[<- RN];exact decide_eq_decide.mpr #[λ#[h1,h2]=>Zv h1 h2,λh=>by rw[h];exact #[rfl,rfl]]
def XZ:Kind (α×β) where
 R:=λK H x a=>∃p u v,x=.ref p/\jN K H p [u,v]/\k1.R K H u a.1/\k2.R K H v a.2
 d:=max k1.d k2.d+1
 inj:=λ{X pins σ H s x a b} I h1 h2=>by
  obtain p|u|v|rfl|hp|a1|a2:=h1;obtain q|u'|v'|e|hq|b1|b2:=h2;cases e;have e:=I.tuple_inj hp hq;cases e;exact Zv (k1.inj I a1 b1) (k2.inj I a2 b2)
 rc:=λ{X pins σ H s x y v u a b A} I rx ry h1 h2 hA=>by
  obtain p|x1|x2|rfl|hp|a1|a2:=h1;obtain q|y1|y2|rfl|hq|b1|b2:=h2;cases rx;cases ry;obtain us|r1|t1|_:=I.tuple hp;obtain ws|r2|t2|_:=I.tuple hq;have l1:=r1.9;have l2:=r2.9;have z:=Tl (A:=A) (e:=λj=>if j=0 then decide (a.1=b.1) else decide (a.2=b.2)) (show s.heap.IsTuple p us.toArray from t1) (show s.heap.IsTuple q ws.toArray from t2) () (yF k1 k2 (A:=A.in1) I (by show A.units+1+k1.d < Op;lia) (by show A.units+1+k2.d < Op;lia) r1 r2 a1 a2 b1 b2);have e1:us.5.7=2:=by rw[aG,<- l1];rfl
  have e2:ws.5.7=2:=by rw[aG,<- l2];rfl
  rw[e1,e2,jg,ET] at z;simpa using z
 ne:=λ{X pins σ H s x y v u a b A} I rx ry h1 h2 hA=>by
  obtain p|x1|x2|rfl|hp|a1|a2:=h1;obtain q|y1|y2|rfl|hq|b1|b2:=h2;cases rx;cases ry;obtain us|r1|t1|_:=I.tuple hp;obtain ws|r2|t2|_:=I.tuple hq;have l1:=r1.9;have l2:=r2.9;have z:=Tk.tuples (A:=A) (e:=λj=>if j=0 then decide (a.1=b.1) else decide (a.2=b.2)) (show s.heap.IsTuple p us.toArray from t1) (show s.heap.IsTuple q ws.toArray from t2) () (yF k1 k2 (A:=A.in1) I (by show A.units+1+k1.d < Op;lia) (by show A.units+1+k2.d < Op;lia) r1 r2 a1 a2 b1 b2);have e1:us.5.7=2:=by rw[aG,<- l1];rfl
  have e2:ws.5.7=2:=by rw[aG,<- l2];rfl
  rw[e1,e2,jg,ET] at z;simpa using z
 eq:=λ{X pins σ H s x y v u a b A} I rx ry h1 h2 hA=>by
  obtain p|x1|x2|rfl|hp|a1|a2:=h1;obtain q|y1|y2|rfl|hq|b1|b2:=h2;cases rx;cases ry;by_cases e:p=q
  ·subst e;have e:=I.tuple_inj hp hq;cases e;have e2:a=b:=Zv (k1.inj I a1 b1) (k2.inj I a2 b2);rw[decide_eq_true e2];exact Zn _
  ·obtain us|r1|t1|_:=I.tuple hp;obtain ws|r2|t2|_:=I.tuple hq;have l1:=r1.9;have l2:=r2.9;have z:=Tl (A:=A) (e:=λj=>if j=0 then decide (a.1=b.1) else decide (a.2=b.2)) (show s.heap.IsTuple p us.toArray from t1) (show s.heap.IsTuple q ws.toArray from t2) () (yF k1 k2 (A:=A.in1) I (by show A.units+1+k1.d < Op;lia) (by show A.units+1+k2.d < Op;lia) r1 r2 a1 a2 b1 b2);have e1:us.5.7=2:=by rw[aG,<- l1];rfl
   have e2:ws.5.7=2:=by rw[aG,<- l2];rfl
   rw[e1,e2,jg,ET] at z;exact .of_refs e (by simpa using z)
end
theorem GX (h1:-(2^64) < i) (h2:i < 2^64):iH i j:=.inl (.inl #[h1,h2])
theorem M8 (h1:-(2^64) < j) (h2:j < 2^64):iH i j:=.inl (.inr #[h1,h2])
def WE (K : FG9) (l : Addr) : It :=
  #[λi H => ∃ xs x, bI K H l xs /\ xs[i]? = some x,
   λi H v H' => ∃ p x, v = .ref p /\ H p = none /\ H' = upd H p (.tup [.int i, x]) /\ ∀ xs, bI K H l xs → xs[i]? = some x,
   λi H => ∃ xs, bI K H l xs /\ xs.9 ≤ i]
def tnE (e it l:Addr) (i:Nat) (h:Heap):Prop:=(∃old,IsEnum h e it i old)/\h.IsListIter it l i
theorem Nn {P:Pi} {w:Uf} {K:FG9} {elts:List Expr} {kk:Nat} {tpos:Pos} (e it l:Addr) (hei:e≠it):Turn P w K (.Tuple elts kk tpos) (WE K l) [e,it] e (tnE e it l) where
 mem:=by simp
 obj:=λi h st b hb=>by
  obtain ⟨old,he⟩|⟨o1,g1,c1,d1⟩:=st;simp only[aJ,aX,or_false] at hb;rcases hb with rfl | rfl
  ·exact #[_,he,λv q=>nomatch q]
  ·exact #[o1,g1,λv q=>by rw[d1] at q;cases q]
 keep:=λi h h' st k=>by
  obtain ⟨old,he⟩|h1:=st;exact #[#[old,k e (by simp) _ he],h1.at λo q=>k it (by simp) o q]
 item:=by
  intro X hP hw hK hc i pins s σ H E I hf st hg;subst hP hw hK;obtain ⟨old,he⟩|h1:=st;obtain xs|x|qx|ex:=hg;obtain us|rx|px|_:=I.list qx;obtain u|eu|ru:=rx.get ex;refine wpAny_pyNext_enum_item he h1 px.isList (x:=u) (by simpa using eu) hei λh' a1 a2 a3 a4 hk=>?_
  refine #[_,rfl,wpAny_letOwnedTupleGo_enum a1 λh'' he'' hs=>?_];have hT0:H s.6=none:=I.hok.fresh (ah _);have ene:s.6≠e:=Ng (o0 he)
  have up:∀b o,b∉[e,it]->s.heap.get? b=some o->h''.get? b=some o:=λb o hb q=>by
   simp only[aJ,aX,or_false,not_or] at hb;exact (hs.2 b hb.1).trans (hk b o hb.1 hb.2 q)
  have tup:h''.get? s.6=some { cls:=.type "tuple",data:=.seq [.int i s.toks,u].toArray }:=(hs.2 _ ene).trans a3;have I1:Inv X pins σ H { s with heap:=h'',toks:=s.toks+1 }:=I.moved (g':=s.gens) (d':=s.drawn) (t':=s.toks+1) (ch:=[e,it]) hf up I.bare;have fT:mP X pins H s.6:=I.fpOk (ah _) hT0;have I2:=I1.track (o:=.tup [.int i,x]) fT #[kK rfl,[.int i s.toks,u],.cons #[_,rfl] (.cons ru .nil),#[_,tup,rfl,_,rfl]];refine #[.ref s.6,_,I2,rfl,#[_,x,rfl,hT0,rfl,λxs' q=>by rw[I.list_inj q qx];exact ex],?_,λb hb=>?_]
  ·exact #[#[_,by simpa using he''],a2.at λo q=>(hs.2 _ hei.symm).trans q]
  ·rw[bG]
   ·exact (hf b hb).1
   ·obtain o1|g1|_:=h1;simp only[aJ,aX,or_false] at hb;rcases hb with rfl | rfl
    ·exact ene.symm
    ·exact cE (o0 g1)
 done:=by
  intro X hP hw hK hc i pins s σ H E I hf st hg;subst hP hw hK;obtain ⟨old,he⟩|h1:=st;obtain xs|qx|hend:=hg;obtain us|rx|px|_:=I.list qx;have lx:=rx.9;refine wpAny_pyNext_enum_end (I.ok.hd hc) he h1 px.isList (by simp;lia) λh' hk=>#[rfl,?_]
  exact I.moved (g':=s.gens) (d':=s.drawn) (t':=s.toks) (ch:=[e,it]) hf (λb o hb q=>hk b o (λz=>hb (by simp [z])) q) I.bare
 self:=λ_ _ _ _ _ st h=>let ⟨⟨_,he⟩,_⟩:=st;wpAny_pyIter_enum he h
section
variable {X:Cx}
def UE (K:FG9) (ta:TA):TI:=λσ H R=>ta σ H λvs H1=>∃l,vs=[.ref l]/\(∃xs,bI K H1 l xs)/\R (WE K l) H1
theorem Fp {a:Expr} {ta:TA} {p pos tpos:Pos} {elts:List Expr} {kk:Nat} (hg:Gl X "enumerate") (hm:X.mg "enumerate"=none) (ha:PA X [a] ta) (hs:r8 [a] X.env=[(false,eval a X.env)]:=by rfl) :
  PI X (.Tuple elts kk tpos) (.Call (.Name "enumerate" p) [a] [] pos) (UE X.K ta):=by
 intro pins s σ H R I h;refine Call_ (mL I hg hm boot_enumerate (AC (iQ (ha pos pins s σ H _ I h) λus s1 #[vs,H1,I1,r1,q1]=>?_) (by rw[hs];rfl) rfl));obtain l|e|⟨xs,qx⟩|q:=q1;subst e;obtain u|rfl|ru:=vals1 r1;cases ru;obtain us|rx|px|_:=I1.list qx;refine call_enumerate_list px.isList λh' a1 a2 a3 hk=>wpAny_pyIter_enum a1 ?_
 have I2:Inv X pins σ H1 { s1 with heap:=h' }:=I1.kept (t':=s1.toks) hk;refine #[_,[s1.6+1,s1.6],_,_,H1,rfl,I2,Nn (s1.6+1) s1.heap.objs.size l (Nat.succ_ne_self _),#[#[_,a1],a2],λb hb=>?_,q]
 have hb':s1.6<=b:=by
  simp only[aJ,aX,or_false] at hb;rcases hb with rfl | rfl <;> first | exact md _ | exact ah _
 exact I1.fpOk hb' (I1.hok.fresh hb')
end
theorem PV {K:FG9} (h:ta σ H λvs H1=>∃l,vs=[.ref l]/\(∃xs,bI K H1 l xs)/\R (WE K l) H1):UE K ta σ H R:=h
theorem QK {K:FG9} {g:TG} {tb:TS} {D:Ends} (Pv:Nat->St->Hp->Prop) (h0:Pv 0 σ H) (hl:∀i σ H,i<=xs.9->Pv i σ H->bI K H l xs)
  (hs:∀i x σ H p,xs[i]?=some x->Pv i σ H->H p=none->g (.ref p) σ (upd H p (.tup [.int i,x])) λσ2 H2=>tb { D with nx:=Pv (i+1),ct:=Pv (i+1),bk:=D.nx } σ2 H2) (hd:∀σ H,Pv xs.9 σ H->D.nx σ H) :
  ∃W:Nat->Nat->St->Hp->Prop,(∃m,W 0 m σ H)/\∀i m σ H,W i m σ H →
   ((WE K l).stop i H/\D.nx σ H)\/((WE K l).go i H/\∃N:St->Hp->Prop,(∀σ' H',N σ' H'->∃m',m' < m/\W (i+1) m' σ' H')/\∀x H',(WE K l).yld i H x H'->g x σ H' λσ2 H2=>tb { D with nx:=N,ct:=N,bk:=D.nx } σ2 H2):=by
 refine #[λi m σ H=>m=xs.9 - i/\i<=xs.9/\Pv i σ H,#[xs.9,by simp,a7 _,h0],?_];rintro i m σ H ⟨rfl,hi,p⟩;have q1:=hl i σ H hi p;by_cases hlt:i < xs.9
 ·refine .inr #[#[xs,xs[i],q1,by simp [hlt]],Pv (i+1),λσ' H' p'=>#[xs.9 - (i+1),(),rfl,hlt,p'],λx H' y=>?_];obtain r|x'|rfl|hr|rfl|e1:=y;exact hs i x' σ _ r (e1 xs q1) p hr
 ·have e:i=xs.9:=()
  subst e;exact .inl #[#[xs,q1,ah _],hd σ H p]
section
variable {X:Cx}
theorem MG (K:FG9) {e:Expr} {f:Str} {pos:Pos} {ta:TE} (he:PE X e ta) (hb:attributeBase e f X.env (eval e X.env)=eval e X.env) (hK:X.K=K:=by rfl):PE X (.Attribute e f pos) (U0 K ta f):=by subst hK;exact hJ he hb
end
theorem Vz {K:FG9} (h:ta σ H λx H1=>∃a C dx fs v,x=.ref a/\H1 a=some (.ins C dx fs)/\OY K C/\lO K C f/\fs.lookup f=some v/\Q v H1):U0 K ta f σ H Q:=h
theorem Sv {K:FG9} (h:tv σ H λy H1=>ta σ H1 λx H2=>∃a C dx fs,x=.ref a/\H2 a=some (.ins C dx fs)/\OY K C/\lO K C f/\fs.9 < 1000 /\
 D.nx σ (upd H2 a (.ins C dx (cO f y fs)))):Xr K ta tv f D σ H:=h
theorem SE (h:ta σ H λx H1=>∃a dx fs,x=.ref a/\H1 a=some (.ins C dx fs)/\fs.lookup m=none /\
 t σ H1 λvs H2=>sp (x :: vs) H2 Q E):Ug C m sp [] E ta t σ H Q:=by
 have e:(λ(x:V) H1=>∃a dx fs,x=.ref a/\H1 a=some (.ins C dx fs)/\fs.lookup m=none/\t σ H1 λvs H2=>sp (x :: (vs++[])) H2 Q E)=λx H1=>∃a dx fs,x=.ref a/\H1 a=some (.ins C dx fs)/\fs.lookup m=none/\t σ H1 λvs H2=>sp (x :: vs) H2 Q E:=by
  funext x H1;simp only[oV]
 show ta σ H (λ(x:V) H1=>∃a dx fs,x=.ref a/\H1 a=some (.ins C dx fs)/\fs.lookup m=none/\t σ H1 λvs H2=>sp (x :: (vs++[])) H2 Q E)
 rw[e];exact h
theorem SG (h:t σ H λvs H1=>∀x dx,H1 x=none->H1 dx=none->dx≠x →
 sp (.ref x :: vs) (upd (upd H1 dx (.own x)) x (.ins C dx [])) (λv H2=>v=.non/\Q (.ref x) H2) E):Uh C sp [] E t σ H Q:=by
 have e:(λvs (H1:Hp)=>∀x dx,H1 x=none->H1 dx=none->dx≠x->sp (.ref x :: (vs++[])) (upd (upd H1 dx (.own x)) x (.ins C dx [])) (λv H2=>v=.non/\Q (.ref x) H2) E)=λvs H1=>∀x dx,H1 x=none->H1 dx=none->dx≠x->sp (.ref x :: vs) (upd (upd H1 dx (.own x)) x (.ins C dx [])) (λv H2=>v=.non/\Q (.ref x) H2) E:=by
  funext vs H1;simp only[oV]
 show t σ H (λvs (H1:Hp)=>∀x dx,H1 x=none->H1 dx=none->dx≠x->sp (.ref x :: (vs++[])) (upd (upd H1 dx (.own x)) x (.ins C dx [])) (λv H2=>v=.non/\Q (.ref x) H2) E)
 rw[e];exact h
def Ic (x:Addr) (H H':Hp):Prop:=∀b o,H b=some o->b≠x->H' b=some o
theorem Ic.upd:Ic x H (L2.upd H x o):=λb u h n=>by rw[bG n];exact h
def wV (H:Hp) (x:Addr):Prop:=∃C dx fs,H x=some (.ins C dx fs)
section
variable {K:FG9}
theorem bX.exc (h:bX K H q v) (e:Ic x H H') (hx:wV H x):bX K H' q v:=by
 obtain C|dx|fs|hx:=hx;obtain r|er|s:=h;refine #[r,er,?_];rcases s with (h | ⟨o,h⟩) | h
 ·exact .inl (.inl (e _ _ h λz=>by rw[z,hx] at h;cases h))
 ·exact .inl (.inr #[o,e _ _ h λz=>by rw[z,hx] at h;cases h])
 ·exact .inr h
theorem cC.exc (h:cC K H p qs) (e:Ic x H H') (hx:wV H x):cC K H' p qs:=by
 obtain xs|g|r:=h;have hx':=hx;obtain C|dx|fs|hx:=hx;exact #[xs,e _ _ g (λz=>by rw[z,hx] at g;cases g),ca (λ_ _ z=>z.exc e hx') r]
theorem c5.exc (h:c5 K H0 H qs v) (e:Ic x H H') (hx:wV H x):c5 K H0 H' qs v:=by obtain q|a|b|c:=h;exact #[q,a,b,c.exc e hx]
theorem be.exc (h:be K H0 H p rows) (e:Ic x H H') (hx:wV H x):be K H0 H' p rows:=by
 obtain xs|g|r|n:=h;have hx':=hx;obtain C|dx|fs|hx:=hx;exact #[xs,e _ _ g (λz=>by rw[z,hx] at g;cases g),ca (λ_ _ z=>z.exc e hx') r,n]
end
def tY (a b c:Addr) (n i o:Nat):List (Str×V):=cO "outs" (.int o) (cO "look" (.ref c) (cO "ins" (.int i) (cO "put" (.ref b) (cO "states" (.int n) (cO "move" (.ref a) [])))))
theorem Mo:(tY a b c n i o).lookup ("ins":Str)=some (.int i):=by
 unfold tY;rw[bQ,if_neg (by decide +kernel),bQ,if_neg (by decide +kernel),bQ,if_pos rfl]
theorem EW:(tY a b c n i o).lookup ("put":Str)=some (.ref b):=by
 unfold tY;rw[bQ,if_neg (by decide +kernel),bQ,if_neg (by decide +kernel),bQ,if_neg (by decide +kernel),bQ,if_pos rfl]
theorem iI:(tY a b c n i o).lookup ("states":Str)=some (.int n):=by
 unfold tY;rw[bQ,if_neg (by decide +kernel),bQ,if_neg (by decide +kernel),bQ,if_neg (by decide +kernel),bQ,if_neg (by decide +kernel),bQ,if_pos rfl]
theorem AV:(tY a b c n i o).lookup ("move":Str)=some (.ref a):=by
 unfold tY;rw[bQ,if_neg (by decide +kernel),bQ,if_neg (by decide +kernel),bQ,if_neg (by decide +kernel),bQ,if_neg (by decide +kernel),bQ,if_neg (by decide +kernel),bQ,if_pos rfl]
theorem U1 {m:Str} (h1:¬m="outs") (h2:¬m="look") (h3:¬m="ins") (h4:¬m="put") (h5:¬m="states") (h6:¬m="move"):(tY a b c n i o).lookup m=none:=by
 unfold tY;rw[bQ,if_neg h1,bQ,if_neg h2,bQ,if_neg h3,bQ,if_neg h4,bQ,if_neg h5,bQ,if_neg h6];rfl
theorem Nq:(tY a b c n i o).lookup ("moved":Str)=none:=U1 (by decide +kernel) (by decide +kernel) (by decide +kernel) (by decide +kernel) (by decide +kernel) (by decide +kernel)
theorem fA {k:Str} {v:V}:∀{l:List (Str×V)},(cO k v l).9<=l.9+1
 | []=>ah _
 | (x,y) :: r=>by
  unfold cO
  split
  ·simp
  ·have:=fA (k:=k) (v:=v) (l:=r);simp only[a9]
   lia
structure dJ (mv pt lk:LR9):Prop where
 n8:mv.9<=8
 i4:pt.9<=4
 o4:lk.9<=4
 mw:∀xs∈mv,xs.9=mv.9
 pw:∀xs∈pt,xs.9=mv.9
 lw:∀xs∈lk,xs.9=mv.9
def EH (mv pt lk:LR9):Prop:=∃M V:Nat,0 < M/\M<=2^800/\V<=2^400/\GF M V mv/\GF M V pt/\GF M V lk
def kI (K:FG9) (H0 H:Hp) (C p:Addr) (mv pt lk:LR9):Prop:=∃dx a b c,H p=some (.ins C dx (tY a b c mv.9 pt.9 lk.9))/\H0 a=none/\H0 b=none/\H0 c=none/\be K H0 H a mv/\be K H0 H b pt/\be K H0 H c lk
section
variable {K:FG9}
theorem kI.same (h:kI K H0 H C p mv pt lk) (e:aH H H'):kI K H0 H' C p mv pt lk:=by obtain dx|a|b|c|g|n1|n2|n3|g1|g2|g3:=h;exact #[dx,a,b,c,e _ _ g,n1,n2,n3,g1.same e,g2.same e,g3.same e]
theorem kI.upto (h:kI K H0 H C p mv pt lk) (u:dk b H H') (B:jm H b) (nb:H0 b≠none):kI K H0 H' C p mv pt lk:=by
 obtain dx|a|b'|c|g|n1|n2|n3|g1|g2|g3:=h;refine #[dx,a,b',c,u.other (λz=>by obtain _|_|_|_|_|e|_:=B;rw[z,e] at g;cases g) g,n1,n2,n3,g1.upto u B (λz=>nb (by rw[<- z];exact n1)) nb,g2.upto u B (λz=>nb (by rw[<- z];exact n2)) nb,g3.upto u B (λz=>nb (by rw[<- z];exact n3)) nb]
theorem kI.weak (h:kI K H0 H C p mv pt lk) (e:aH H1 H0):kI K H1 H C p mv pt lk:=by obtain dx|a|b|c|g|n1|n2|n3|g1|g2|g3:=h;exact #[dx,a,b,c,g,e.none n1,e.none n2,e.none n3,g1.weak e,g2.weak e,g3.weak e]
theorem EH.fits (h:EH mv pt lk) (hl:∀x∈l,(∃xs∈mv,x∈xs)\/(∃xs∈pt,x∈xs)\/(∃xs∈lk,x∈xs)\/x=0):Fits l:=by
 obtain M|V|h0|h1|h2|h3|h4|h5:=h;refine #[M,V,h0,ag h1 (aj () ()),ag h2 (aj () ()),λx hx=>?_];rcases hl x hx with ⟨xs,a,b⟩ | ⟨xs,a,b⟩ | ⟨xs,a,b⟩ | rfl
 ·exact h3 xs a x b
 ·exact h4 xs a x b
 ·exact h5 xs a x b
 ·exact Fr.zero
end
def Nr:Sp:=λvs H Q _=>∃i:Int,vs=[.int i]/\Q (.bl true) H
def Nw (K:FG9):Sp:=λvs H Q _=>∃x n,vs=[x]/\yy K H x n/\zW n/\∀H',aH H H'->Q (.bl true) H'
inductive Ms (vs:List V) (H:Hp) (Q:VK) (E9:XK):Prop
 | mk (p:Addr) (xs:List V) (a m:Int):vs=[.ref p,.int a,.int m]->H p=some (.lst xs)->(xs.9:Int)<=m->Q .non H->Ms  vs H Q E9
inductive Mw (K:FG9) (vs:List V) (H:Hp) (Q:VK) (E9:XK):Prop
 | mk (p:Addr) (H0:Hp) (rows:LR9) (w:Nat):vs=[.ref p,.int w]->be K H0 H p rows->rows.9<=1000->w<=1000->((∀xs∈rows,xs.9=w/\∀x∈xs,zW (nm x)))->(∀r H',H r=none->aH H H'->be K H H' r rows->Q (.ref r) H')->Mw K vs H Q E9
def WQ (rows:LR9):Prop:=∀xs∈rows,∀x∈xs,zW (nm x)
inductive Mt (K:FG9) (C:Addr) (vs:List V) (H:Hp) (Q:VK) (E9:XK):Prop
 | mk (x dx p q r:Addr) (Hb H0 H1 H2:Hp) (mv pt lk:LR9):vs=[.ref x,.ref p,.ref q,.ref r]->Hb x=none->Hb dx=none->dx≠x->H=upd (upd Hb dx (.own x)) x (.ins C dx [])->be K H0 Hb p mv->be K H1 Hb q pt->be K H2 Hb r lk->dJ mv pt lk->WQ mv->WQ pt->WQ lk->(∀H',aH Hb H'->kI K Hb H' C x mv pt lk->Q .non H')->Mt K C vs H Q E9
def iZ (mv pt:LR9) (st pu:List Rat):List Rat:=xL (λline col=>cb (line++col) (st++pu)) mv (b8 pt mv.9)
theorem EH.ok (h:EH mv pt lk):WQ mv/\WQ pt/\WQ lk :=
 #[λxs hx x hx'=>(h.fits (l:=xs) λy hy=>.inl #[xs,hx,hy]).ok hx',λxs hx x hx'=>(h.fits (l:=xs) λy hy=>.inr (.inl #[xs,hx,hy])).ok hx',λxs hx x hx'=>(h.fits (l:=xs) λy hy=>.inr (.inr (.inl #[xs,hx,hy]))).ok hx']
def iU (K:FG9) (A:Addr->Prop) (H:Hp) (n:Nat) (C:Rat->Prop) (x:V):Prop:=∃q qs,x=V.ref q/\A q/\cC K H q qs/\qs.9=n/\∀y∈qs,C y
section
variable {K:FG9} {A A':Addr->Prop} {H H' H0:Hp} {n:Nat} {C C':Rat->Prop} {x v:V} {q b l p:Addr} {xs zs:List V} {y:Rat} {o:HO}
theorem iU.same (h:iU K A H n C x) (e:aH H H'):iU K A H' n C x:=by obtain q|qs|a|c|r|z:=h;exact #[q,qs,a,c,r.same e,z]
theorem iU.upto (h:iU K A H n C x) (u:dk b H H') (B:jm H b) (nb:¬A b):iU K A H' n C x:=by obtain q|qs|a|c|r|z:=h;exact #[q,qs,a,c,r.upto u B (λe=>nb (by rw[<- e];exact c)),z]
theorem iU.other (h:iU K A H n C x) (hl:H l=some (.lst zs)) (nl:¬A l):iU K A (upd H l o) n C x:=by obtain q|qs|a|c|r|z:=h;exact #[q,qs,a,c,r.updL hl (λe=>nl (by rw[<- e];exact c)),z]
theorem iU.weak (h:iU K A H n C x) (w:∀q,A q->A' q) (wc:∀y,C y->C' y):iU K A' H n C' x:=by obtain q|qs|a|c|r|l|z:=h;exact #[q,qs,a,w q c,r,l,λy hy=>wc y (z y hy)]
theorem xo {α β:Type} {F:α->β->Prop} {a:α} {b:β} (h:F a b):∀{l1:List α} {l2:List β} (j:Nat),jp F l1 l2->jp F (l1.set j a) (l2.set j b)
 | _,_,_,.nil=>.nil
 | _,_,0,.cons _ t=>.cons h t
 | _,_,j+1,.cons r t=>.cons r (xo h j t)
theorem iU.put (h:iU K A H n C x) (hq:H q=some (.lst zs)) (hv:bX K H y v) (hc:C y) (j:Nat):iU K A (upd H q (.lst (zs.set j v))) n C x:=by
 obtain q1|qs|rfl|a|⟨zs1,g1,pr⟩|l1|c1:=h;by_cases e:q1=q
 ·subst e;rw[hq] at g1;cases g1;refine #[q1,qs.set j y,rfl,a,#[_,aN,xo (hv.updL hq) j (ca (λ_ _ z=>z.updL hq) pr)],by rw[d5];exact l1,λz hz=>?_];rcases cI hz with hz | rfl
  ·exact c1 z hz
  ·exact hc
 ·exact #[q1,qs,rfl,a,#[zs1,by rw[bG e];exact g1,ca (λ_ _ z=>z.updL hq) pr],l1,c1]
theorem iU.at (h:iU K A H n C x):∃q zs qs,x=V.ref q/\A q/\H q=some (.lst zs)/\zs.9=n/\jp (bX K H) qs zs/\qs.9=n/\∀y∈qs,C y:=by obtain q|qs|a|c|⟨zs,g,pr⟩|l|z:=h;exact #[q,zs,qs,a,c,g,by rw[<- pr.9];exact l,pr,l,z]
end
theorem vG {i:Int} (h:i.natAbs<=W) (hW:1<=W):Dr W (i:Rat):=#[h,hW]
def Ys (K:FG9) (A:Addr->Prop) (H:Hp) (n:Nat) (C:Rat->Prop) (p:Addr) (m:Nat):Prop:=∃us,H p=some (.lst us)/\us.9=m/\¬A p/\∀x∈us,iU K A H n C x
structure Ml (A:Addr->Prop) (m p l b q0:Addr):Prop where
 am:¬A m
 ap:¬A p
 al:¬A l
 ab:¬A b
 aq:¬A q0
 mb:m≠b
 pb:p≠b
 lb:l≠b
 mp:m≠p
 ml:m≠l
 mq:m≠q0
theorem MV {M:Nat} {z:Int} (h:z.natAbs<=2):Fr 1 2 (z:Rat):=Fr.int h
theorem F7 {z:Int} (hz:z.natAbs<=2) (ha:Fr M W a) (hc:Fr M W c):Fr M (3*W) (a+(z:Rat)*c):=by
 have h:=(MV (M:=M) hz).mul hc;rw[uo] at h;exact (ha.add h).mono ()
theorem EV {z:Int} (h:z.natAbs<=1000):jX (z:Rat):=LG (M:=1) (V:=1000) () (cm) (ag (show 1000<=2^10 by decide) (aj () ())) (Fr.int h)
theorem AU {z:Int} (hz:z.natAbs<=2) (hc:Fr M W c) (h0:0 < M) (h1:M<=2^800) (hW:W<=2^140):jX ((z:Rat)*c):=by
 have h:=(MV (M:=M) hz).mul hc;rw[uo] at h;refine LG h0 (ag h1 (aj () ())) (ag (aD 2 hW) ?_) h;rw[show 2*2^140=2^141 by rw[gK,b7]];exact aj () ()
def jO (A:Addr->Prop) (b m:Addr) (H H':Hp):Prop:=∀c u,H c=some u->c≠b->¬A c->c≠m->H' c=some u
theorem jO.same (h:jO A b m H H1) (s:aH H1 H2):jO A b m H H2:=λc u e n1 n2 n3=>s _ _ (h c u e n1 n2 n3)
theorem jO.upto (h:jO A b m H H1) (s:dk b H1 H2):jO A b m H H2:=λc u e n1 n2 n3=>s.1 _ _ (h c u e n1 n2 n3) n1
theorem jO.upd (h:jO A b m H H1) (hq:A q\/q=m):jO A b m H (L2.upd H1 q o):=λc u e n1 n2 n3=>by
 rw[bG]
 ·exact h c u e n1 n2 n3
 ·rintro rfl;rcases hq with hq | hq
  ·exact n2 hq
  ·exact n3 hq
theorem jO.new (h:jO A b m H H1) (hA:∀q,H q=none->A q) (B:jm H1 b) (hm:H1 m≠none) (hr:H1 r=none):A r:=by
 by_cases z:A r
 ·exact z
 ·cases e:H r with
  | none=>exact hA r e
  | some u =>
   have:=h r u e (λy=>B.at (by rw[<- y];exact hr)) z (λy=>hm (by rw[<- y];exact hr));rw[hr] at this;cases this
structure Nf (K:FG9) (A:Addr->Prop) (n:Nat) (C:Rat->Prop) (r p b q0:Addr) (us:List V) (H0 H:Hp):Prop where
 gr:H r=some (.lst us)
 ru:∀x∈us,iU K A H n C x
 rp:iU K A H n C (.ref p)
 bag:jm H b
 inn:Inner H b q0
 up:dk b H0 H
section
variable {K:FG9}
theorem Nf.same (h:Nf K A n C r p b q0 us H0 H) (e:aH H H'):Nf K A n C r p b q0 us H0 H':=#[e _ _ h.gr,λx hx=>(h.ru x hx).same e,h.rp.same e,h.bag.same e,(e.upto (p:=b)).2 _ h.inn,h.up.same e]
theorem Nf.upto (h:Nf K A n C r p b q0 us H0 H) (u:dk b H H') (B:jm H' b) (nb:¬A b) (rb:r≠b):Nf K A n C r p b q0 us H0 H':=#[u.other rb h.gr,λx hx=>(h.ru x hx).upto u h.bag nb,h.rp.upto u h.bag nb,B,u.2 _ h.inn,h.up.trans u]
theorem Nf.put (h:Nf K A n C r p b q0 us H0 H) (ap:A p) (nr:¬A r) (nb:¬A b) (nq:¬A q0) (hp:H0 p=none) (hv:bX K H y v) (hc:C y) (j:Nat):∃zs,H p=some (.lst zs)/\zs.9=n/\Nf K A n C r p b q0 us H0 (upd H p (.lst (zs.set j v))):=by
 obtain q|zs|qs|e|a|g|l|_:=h.rp.at;cases e;have ne:∀{z},¬A z->z≠p:=λh e=>h (by rw[e];exact ap)
 exact #[zs,g,l,by rw[bG (ne nr)];exact h.gr,λx hx=>(h.ru x hx).put g hv hc j,h.rp.put g hv hc j,h.bag.upd h.inn (ne nb).symm (ne nq).symm,h.inn.upd (ne nb).symm,h.up.after hp]
end
theorem Bq {K:FG9} (h:∀x∈us,iU K A H n C x):∃rows:LR9,jp (λqs x=>∃q,x=V.ref q/\A q/\cC K H q qs) rows us/\rows.9=us.9/\∀qs∈rows,qs.9=n/\∀y∈qs,C y:=by
 induction us with
 | nil=>exact #[[],.nil,rfl,λ_ z=>nomatch z]
 | cons u us ih =>
  obtain rows|pr|l|hr:=ih λx hx=>h x (.tail _ hx)
  obtain q|qs|e|a|r|l1|c:=h u (.head _);refine #[qs :: rows,.cons #[q,e,a,r] pr,by simp [l],λzs hz=>?_];rcases aJ.mp hz with rfl | hz
  ·exact #[l1,c]
  ·exact hr zs hz
theorem K9 {K:FG9} {rows:LR9} (pr:jp (λqs x=>∃q,x=V.ref q/\A q/\cC K H q qs) rows us) (h:∀qs∈rows,qs.9=n/\∀y∈qs,C y):∀x∈us,iU K A H n C x:=λx hx=>by
 obtain qs|hq|q|e|a|r:=dF pr hx;exact #[q,qs,e,a,r,(h qs hq).1,(h qs hq).2]
theorem v7 {n:Nat}:∀{rows:LR9},(∀xs∈rows,xs.9=n)->rows.flatten.9=rows.9*n
 | [],_=>by simp
 | xs :: rows,h=>by
  rw[gW,ai,h xs (.head _),v7 λys hy=>h ys (.tail _ hy),a9,d7,qq]
theorem So {rows:LR9} (h:∀qs∈rows,qs.9=n/\∀y∈qs,Dr (2^c) y):∃M:Nat,0 < M/\M<=2^(c*(rows.9*n))/\∀qs∈rows,∀y∈qs,Fr M (2^c) y:=by
 have fl:rows.flatten.9=rows.9*n:=v7 λys hy=>(h ys hy).1
 have hm:∀a∈rows.flatten.map (·.den),0 < a/\a<=2^c:=λa ha=>by
  obtain y|hy|rfl:=aB.mp ha;obtain qs|hq|hy:=jQ.mp hy;exact #[y.den_pos,((h qs hq).2 y hy).2]
 refine #[xU (rows.flatten.map (·.den)),zb λa ha=>(hm a ha).1,?_,λqs hq y hy=>?_]
 ·have:=Bw (k:=c) (l:=rows.flatten.map (·.den)) λa ha=>(hm a ha).2
  rwa [af,fl] at this
 ·exact (Fr.own y ((h qs hq).2 y hy).1).dvd (zg (aB.mpr #[y,jQ.mpr #[qs,hq,hy],rfl]))
theorem xy {K:FG9} (h:Ys K A H n C p m) (w:∀q,A q->H0 q=none):∃rows,be K H0 H p rows/\rows.9=m/\∀qs∈rows,qs.9=n/\∀y∈qs,C y:=by
 obtain us|g|l|a|r:=h;obtain rows|pr|lr|hr:=Bq r;refine #[rows,#[us,g,ca (λ_ _ #[q,e,aq,rq]=>#[q,e,w q aq,rq]) pr,λhm=>?_],by rw[lr,l],hr];obtain q|_|e|aq|_:=r _ hm;cases e;exact a aq
theorem jO.trans (h:jO A b m H H1) (h':jO A b m H1 H2):jO A b m H H2:=λc u e n1 n2 n3=>h' c u (h c u e n1 n2 n3) n1 n2 n3
theorem PD {K:FG9} {rows:LR9} (pr:jp (c5 K H0 H) rows us) (h:∀qs∈rows,qs.9=n/\∀y∈qs,C y) (w:∀q,V.ref q∈us->H0 q=none->H q≠none->A q):∀x∈us,iU K A H n C x:=λx hx=>by
 obtain qs|hq|q|e|a|r:=dF pr hx;subst e;exact #[q,qs,rfl,w q hx a (by obtain _|g|_:=r;rw[g];simp),r,(h qs hq).1,(h qs hq).2]
def Nt:Sp:=λvs H Q _=>∃b,vs=[.ref b]/\jm H b/\∀r (n i o w:Nat) H',H' r=some (.tup [.int n,.int i,.int o,.int w])->n<=5->i<=4->o<=4->(w=4\/w=9\/(w=1000000/\n<=2))->(n=5->i<=2/\o<=2)->jm H' b->dk b H H'->Q (.ref r) H'
def fK (K:FG9) (H0 H:Hp) (r:Addr) (mv pt lk:LR9):Prop:=∃m p l,H r=some (.tup [.ref m,.ref p,.ref l])/\H0 m=none/\H0 p=none/\H0 l=none/\be K H0 H m mv/\be K H0 H p pt/\be K H0 H l lk
section
variable {K:FG9}
theorem fK.same (h:fK K H0 H r mv pt lk) (e:aH H H'):fK K H0 H' r mv pt lk:=by obtain m|p|l|g|n1|n2|n3|g1|g2|g3:=h;exact #[m,p,l,e _ _ g,n1,n2,n3,g1.same e,g2.same e,g3.same e]
theorem fK.upto (h:fK K H0 H r mv pt lk) (u:dk b H H') (B:jm H b) (nb:H0 b≠none):fK K H0 H' r mv pt lk:=by
 obtain m|p|l|g|n1|n2|n3|g1|g2|g3:=h;exact #[m,p,l,u.tup B g,n1,n2,n3,g1.upto u B (λz=>nb (by rw[<- z];exact n1)) nb,g2.upto u B (λz=>nb (by rw[<- z];exact n2)) nb,g3.upto u B (λz=>nb (by rw[<- z];exact n3)) nb]
theorem fK.weak (h:fK K H0 H r mv pt lk) (e:∀q,H0 q=none->H1 q=none):fK K H1 H r mv pt lk:=by
 obtain m|p|l|g|n1|n2|n3|⟨x1,y1,z1,w1⟩|⟨x2,y2,z2,w2⟩|⟨x3,y3,z3,w3⟩:=h;exact #[m,p,l,g,e _ n1,e _ n2,e _ n3,#[x1,y1,ca (λ_ _ #[q,a,b,c]=>#[q,a,e _ b,c]) z1,w1],#[x2,y2,ca (λ_ _ #[q,a,b,c]=>#[q,a,e _ b,c]) z2,w2],#[x3,y3,ca (λ_ _ #[q,a,b,c]=>#[q,a,e _ b,c]) z3,w3]]
end
inductive AY (K:FG9) (C:Addr) (vs:List V) (H:Hp) (Q:VK) (E9:XK):Prop
 | mk (r:Addr) (H0:Hp) (mv pt lk:LR9):vs=[.ref r]->fK K H0 H r mv pt lk->dJ mv pt lk->EH mv pt lk->(∀x H',H x=none->aH H H'->kI K H H' C x mv pt lk->Q (.ref x) H')->AY K C vs H Q E9
def nextK (mv pt:LR9) (st pu:List Rat) (k:Nat):List Rat:=xL (λline col=>cb (line++col.take k) (st++pu.take k)) mv (b8 pt mv.9)
theorem kB {st pu:List Rat}:(nextK mv pt st pu k).9=mv.9:=by unfold nextK;rw[cu,di];lia
theorem vW {st pu:List Rat} (h1:pt.9<=k) (h2:pu.9<=k):nextK mv pt st pu k=iZ mv pt st pu:=by
 unfold nextK iZ;apply dM;intro i;rw[b9,b9];cases e1:mv[i]? with
 | none=>rfl
 | some line =>
  cases e2:(b8 pt mv.9)[i]? with
  | none=>rfl
  | some col =>
   have:=ks col (ar e2);show some _=some _
   rw[aM (),aM h2]
theorem Av (h:i < w):(b8 rows w)[i]?=some (rows.map λxs=>xs.getD i 0):=by
 unfold b8;rw[aA,cZ h];rfl
theorem Ll {st pu:List Rat}:nextK mv pt st pu 0=mv.map λxs=>cb xs st:=by
 unfold nextK;apply dM;intro i;rw[b9,aA];by_cases hi:i < mv.9
 ·rw[Av hi,ae hi];simp
 ·rw[aE ()];rfl
theorem BP {st pu:List Rat} (hi:i < mv.9):(nextK mv pt st pu k).getD i 0=cb (mv[i]++(pt.map λxs=>xs.getD i 0).take k) (st++pu.take k):=by
 rw[aa];unfold nextK;rw[b9,ae hi,Av hi];rfl
theorem lH (h:as.9=xs.9):cb (as++bs) (xs++ys)=cb as xs+cb bs ys:=by
 unfold cb;rw[List.zipWith_append h,List.sum_append]
theorem Lm {st pu:List Rat} (hm:∀xs∈mv,xs.9=st.9) (h1:k < pt.9) (h2:k < pu.9) (hw:(pt[k]).9=mv.9) :
  xL (λx y=>x+y) (nextK mv pt st pu k) ((pt[k]).map λy=>pu[k]*y)=nextK mv pt st pu (k+1):=by
 have l1:((pt[k]).map λy=>pu[k]*y).9=mv.9:=by rw[af,hw]
 rw[Dy (by rw[l1,kB])];apply dM;intro i;rw[aA,kB];by_cases hi:i < mv.9
 ·have e0:(nextK mv pt st pu (k+1))[i]?=some ((nextK mv pt st pu (k+1)).getD i 0):=by
   rw[aa,ae (by rw[kB];exact hi)];rfl
  rw[cZ hi,e0,BP hi];have ll:=hm mv[i] (aQ hi);have ec:(pt.map λxs=>xs.getD i 0)[k]?=some ((pt[k]).getD i 0):=by rw[aA,ae h1];rfl
  have ep:pu[k]?=some pu[k]:=ae h2
  have e3:((pt[k]).map λy=>pu[k]*y).getD i 0=pu[k]*(pt[k]).getD i 0:=by
   rw[getD_map (by rw[hw];exact hi),aa,ae (by rw[hw];exact hi)];rfl
  show some ((nextK mv pt st pu k).getD i 0+((pt[k]).map λy=>pu[k]*y).getD i 0)=some _
  rw[BP hi,e3,take_snoc ec,take_snoc ep,lH ll,lH ll,lH (by rw[bP,bP,af];lia)];have:cb [(pt[k]).getD i 0] [pu[k]]=(pt[k]).getD i 0*pu[k]:=by simp [cb,nH]
  rw[this];congr 1;grind
 ·rw[aE (by simpa using hi),aE (by rw[kB];lia)];rfl
theorem kI.weakN {K:FG9} (h:kI K H0 H C p mv pt lk) (e:∀q,H0 q=none->H1 q=none):kI K H1 H C p mv pt lk:=by
 obtain dx|a|b|c|g|n1|n2|n3|⟨x1,y1,z1,w1⟩|⟨x2,y2,z2,w2⟩|⟨x3,y3,z3,w3⟩:=h;exact #[dx,a,b,c,g,e _ n1,e _ n2,e _ n3,#[x1,y1,ca (λ_ _ #[q,a,b,c]=>#[q,a,e _ b,c]) z1,w1],#[x2,y2,ca (λ_ _ #[q,a,b,c]=>#[q,a,e _ b,c]) z2,w2],#[x3,y3,ca (λ_ _ #[q,a,b,c]=>#[q,a,e _ b,c]) z3,w3]]
theorem N4 {st pu:List Rat}:(iZ mv pt st pu).9=mv.9:=by unfold iZ;rw[cu,di];lia
def oj (k j:Nat) (l:List Rat):Prop:=∃M V:Nat,0 < M/\M<=2^k/\V<=2^j/\∀x∈l,Fr M V x
theorem Ts {M V:Nat} (h0:0 < M) (h1:M<=2^2000) (h2:V<=2^1950) (h:Fr M V x):jX x:=by
 obtain a|b:=h.sz h0 h1 h2;exact #[a.mono (),b.mono ()]
section
variable {k j k' j':Nat} {l xs ys:List Rat} {x y:Rat}
theorem oj.szn (h:oj k j l) (hx:x∈l) (hk:k+j<=3950000:=by decide):jX x:=by
 obtain M|V|h0|h1|h2|h3:=h;obtain a|b:=(h3 x hx).sz h0 h1 h2;exact #[a.mono (),b.mono ()]
theorem oj.rowM (h:oj k j l) (hk:k+j<=4200000:=by decide):∃M,Mh M (l.map nm):=by
 obtain M|V|h0|h1|h2|h3:=h;refine #[M,(),?_,λn hn=>?_]
 ·show ((M:Nat):Int).natAbs < 2^4400000
  rw[bM];exact bx h1 (eQ () ())
 ·obtain x|hx|rfl:=aB.mp hn;obtain a|_:=(h3 x hx).sz h0 h1 h2;exact #[js x,(h3 x hx).den,a.mono ()]
theorem oj.one (h:oj k j l) (hx:x∈l):oj k j [x]:=by
 obtain M|V|h0|h1|h2|h3:=h;exact #[M,V,h0,h1,h2,λy hy=>by rw[bA.mp hy];exact h3 x hx]
theorem QV (h:oj k j xs) (h':oj k' j' ys) (hl:xs.9<=1000) (i:Nat) (hk:(k+k')+(j+j')<=3930000:=by decide):jX (cb (xs.take i) (ys.take i)):=by
 obtain M|V|h0|h1|h2|h3:=h;obtain N|W|k0|k1|k2|k3:=h'
 have e:1000*(V*W)<=2^(10+(j+j')):=by
  rw[aV 2 10];exact aK () (ag (aK h2 k2) (by rw[<- aV];exact ah _))
 obtain a|b:=((Fr.dot (λx hx=>h3 x (cw hx)) (λy hy=>k3 y (cw hy))).mono (ax _ (show (xs.take i).9<=1000 by rw[bP];lia))).sz (bC h0 k0) (ag (aK h1 k1) (by rw[<- aV];exact ah _)) e;exact #[a.mono (),b.mono ()]
theorem Qg (hx:oj k j [x]) (hy:oj k' j' [y]) (hk:(k+k')+(j+j')<=3930000:=by decide):jX (x*y):=by
 obtain M|V|h0|h1|h2|h3:=hx;obtain N|W|k0|k1|k2|k3:=hy;obtain a|b:=((h3 x (.head _)).mul (k3 y (.head _))).sz (bC h0 k0) (ag (aK h1 k1) (by rw[<- aV];exact ah _)) (ag (aK h2 k2) (by rw[<- aV];exact ah _));exact #[a.mono (),b.mono ()]
def jW (xs ys:List Rat):Prop:=∃k j k' j':Nat,oj k j xs/\oj k' j' ys/\(k+k')+(j+j')<=3930000
theorem jW.sys (h:oj 400 120 xs) (h':oj 1800000 1800000 ys):jW xs ys:=#[_,_,_,_,h,h',()]
end
def Ky (mv pt lk:LR9):Prop:=∃M V:Nat,0 < M/\M<=2^400/\V<=2^120/\GF M V mv/\GF M V pt/\GF M V lk
theorem Ky.fits (h:Ky mv pt lk) (hl:∀x∈l,(∃xs∈mv,x∈xs)\/(∃xs∈pt,x∈xs)\/(∃xs∈lk,x∈xs)\/x=0):oj 400 120 l:=by
 obtain M|V|h0|h1|h2|g1|g2|g3:=h;refine #[M,V,h0,h1,h2,λx hx=>?_];rcases hl x hx with ⟨xs,a,b⟩ | ⟨xs,a,b⟩ | ⟨xs,a,b⟩ | rfl
 ·exact g1 xs a x b
 ·exact g2 xs a x b
 ·exact g3 xs a x b
 ·exact Fr.zero
theorem Ky.sf (h:Ky mv pt lk):EH mv pt lk:=by obtain M|V|a|b|c|d:=h;exact #[M,V,a,ag b (aj () ()),ag c (aj () ()),d]
inductive EZ (K:FG9) (vs:List V) (H:Hp) (Q:VK) (E9:XK):Prop
 | mk (p q:Addr) (xs ys:List Rat):vs=[.ref p,.ref q]->cC K H p xs->cC K H q ys->ys.9=xs.9->xs.9<=1000->jW xs ys->(∀r H',aH H H'->bX K H' (cb xs ys) (.ref r)->Q (.ref r) H')->EZ K vs H Q E9
inductive EY (K:FG9) (vs:List V) (H:Hp) (Q:VK) (E9:XK):Prop
 | mk (p q:Addr) (H0:Hp) (rows:LR9) (ys:List Rat):vs=[.ref p,.ref q]->be K H0 H p rows->cC K H q ys->rows.9<=1000->ys.9<=1000->((∀xs∈rows,xs.9=ys.9/\jW xs ys))->(∀r H',H r=none->aH H H'->cC K H' r (rows.map λxs=>cb xs ys)->Q (.ref r) H')->EY K vs H Q E9
inductive DS (K:FG9) (C:Addr) (vs:List V) (H:Hp) (Q:VK) (E9:XK):Prop
 | mk (x p q:Addr) (H0:Hp) (mv pt lk:LR9) (st pu:List Rat):vs=[.ref x,.ref p,.ref q]->kI K H0 H C x mv pt lk->dJ mv pt lk->Ky mv pt lk->cC K H p st->cC K H q pu->st.9=mv.9->pu.9=pt.9->oj 1800000 1800000 (st++pu)->(∀r H',H r=none->aH H H'->cC K H' r (iZ mv pt st pu)->Q (.ref r) H')->DS K C vs H Q E9
def qX (mv pt:LR9) (st:List Rat) (pus:LR9) (k:Nat):List Rat:=(pus.take k).foldl (iZ mv pt) st
def qe (mv pt:LR9) (st:List Rat) (pus:LR9):LR9:=(on (pus.9+1)).map (qX mv pt st pus)
section
variable {mv pt lk pus:LR9} {st:List Rat} {k:Nat}
theorem uB (h:pus[k]?=some pu):qX mv pt st pus (k+1)=iZ mv pt (qX mv pt st pus k) pu:=by
 unfold qX;rw[take_snoc h,List.foldl_append];rfl
theorem rO (h:st.9=mv.9):∀{k:Nat},k<=pus.9->(qX mv pt st pus k).9=mv.9
 | 0,_=>h
 | k+1,hk=>by rw[uB (ae (show k < pus.9 by lia)),N4]
theorem xB:(qe mv pt st pus).9=pus.9+1:=by unfold qe;rw[af,bB]
theorem v9 (h:k<=pus.9):(qe mv pt st pus)[k]?=some (qX mv pt st pus k):=by
 unfold qe;rw[aA,cZ ()];rfl
def Ie (mv pt:LR9) (st:List Rat) (pus:LR9):Prop:=∀k,k<=pus.9->∃N W:Nat,0 < N/\N<=2^1800000/\W<=2^1800000/\(∀x∈qX mv pt st pus k,Fr N W x)/\∀xs∈pus,∀x∈xs,Fr N W x
theorem Ie.both (h:Ie mv pt st pus) (hk:k<=pus.9) (hp:pu∈pus):oj 1800000 1800000 (qX mv pt st pus k++pu):=by
 obtain N|W|a|b|c|d|e:=h k hk;exact #[N,W,a,b,c,λx hx=>(av.mp hx).elim (d x) (e pu hp x)]
theorem Ie.state (h:Ie mv pt st pus) (hk:k<=pus.9):oj 1800000 1800000 (qX mv pt st pus k):=by
 obtain N|W|a|b|c|d|e:=h k hk;exact #[N,W,a,b,c,d]
theorem Au (h:GF M W rows):GF M W (b8 rows w):=λys hy y hy'=>by
 obtain j|_|rfl:=aB.mp hy;obtain xs|hx|rfl:=aB.mp hy';rw[aa];cases e:xs[j]? with
 | none=>exact Fr.zero
 | some z=>exact h xs hx z (ar e)
end
def zK (K:FG9) (H:Hp) (l:Addr) (H':Hp) (xs:List Rat) (x:V):Prop:=∃q,x=.ref q/\H q=none/\q≠l/\cC K H' q xs
section
variable {K:FG9} {H H' H2:Hp} {l:Addr} {xs:List Rat} {x:V}
theorem zK.same (h:zK K H l H' xs x) (e:aH H' H2):zK K H l H2 xs x:=by obtain q|a|b|c|d:=h;exact #[q,a,b,c,d.same e]
theorem zK.upd {ys:List V} {o:HO} (h:zK K H l H' xs x) (hl:H' l=some (.lst ys)):zK K H l (upd H' l o) xs x:=by obtain q|a|b|c|d:=h;exact #[q,a,b,c,d.updL hl c]
theorem zK.rowF (h:zK K H l H' xs x):c5 K H H' xs x:=by obtain q|a|b|_|d:=h;exact #[q,a,b,d]
theorem NC (e:aH H H') (n:H l=none):aH H (upd H' l o):=λb u h=>by
 rw[bG (λz=>by rw[z,n] at h;cases h)];exact e b u h
theorem Br:∀{rows:LR9} {ys:List V},jp (zK K H l H') rows ys->V.ref l∉ys
 | _,_,.nil=>by simp
 | _,_,.cons ⟨q,a,_,c,_⟩ r=>by
  intro hm;rcases aJ.mp hm with e | hm
  ·rw[a] at e;cases e;exact c rfl
  ·exact Br r hm
end
inductive A8 (K:FG9) (C:Addr) (vs:List V) (H:Hp) (Q:VK) (E9:XK):Prop
 | mk (x s p:Addr) (H0 H1:Hp) (mv pt lk pus:LR9) (st:List Rat):vs=[.ref x,.ref s,.ref p]->kI K H0 H C x mv pt lk->dJ mv pt lk->Ky mv pt lk->cC K H s st->st.9=mv.9->be K H1 H p pus->pus.9<=100->(∀xs∈pus,xs.9=pt.9)->Ie mv pt st pus->(∀r H',H r=none->aH H H'->be K H H' r (qe mv pt st pus)->Q (.ref r) H')->A8 K C vs H Q E9
theorem Eo {l:List Rat} (h:∀x∈l,Dr (2^c) x) (hc:c<=20):∃B:Nat,0 < B/\B<=2^(c*l.9+2)/\∀x∈l,Fr B (2^22) x:=by
 obtain M|h0|h1|h2:=Tr (c:=c) (n:=l.9) (i:=0) (rows:=[]) V8 rfl h hc;refine #[M,h0,?_,h2 l (by simp)];rw[Nat.zero_add,uo] at h1;exact h1
theorem JA {i:Nat}:∀{pus:LR9},(∀xs∈pus,xs.9=i)->pus.flatten.9=pus.9*i
 | [],_=>by simp
 | x :: r,h=>by
  rw[gW,ai,h x (.head _),JA (λxs hx=>h xs (.tail _ hx)),a9,d7]
  lia
theorem Xp {i:Int} (h:i=0\/i=1):Fr 1 1 (i:Rat):=Fr.int (by rcases h with rfl | rfl <;> decide)
theorem qQ {α β:Type} {F:α->β->Prop}:∀{l1:List α} {l2:List β} (_:jp F l1 l2) (k:Nat),jp F (l1.drop k) (l2.drop k)
 | _,_,h,0=>h
 | _,_,.nil,_+1=>.nil
 | _,_,.cons _ r,k+1=>qQ r k
theorem TF {t n:Nat} (h:t+n<=xs.9):uu xs (some (t:Int)) (some ((t:Int)+(n:Int)))=(xs.drop t).take n:=by
 unfold uu;rw[show ((t:Int)+(n:Int))=((t+n:Nat):Int) by lia,HT.xP,HT.xP,kF (show t<=xs.9 by lia),kF h,Yw]
end L2
namespace L2
abbrev i5:=Nat->Rat
def Af (F:List i5->Rat) (r:Nat):List i5->List i5->Rat->Rat
 | _,[],_=>0
 | pre,v :: post,s=>s*v r*F (pre++post)+Af F r (pre++[v]) post (-s)
def jV:List Nat->List i5->Rat
 | [],[]=>1
 | [],_ :: _=>0
 | r :: rs,vs=>Af (λws=>jV rs ws) r [] vs 1
theorem Gg:jV [] (a++x :: b)=0:=by
 cases a <;> rfl
theorem FY {F:List i5->Rat} {r:Nat} {f g h:i5} {x y:Rat} (hF:∀a b,F (a++h :: b)=x*F (a++f :: b)+y*F (a++g :: b)):∀(b p q:List i5) (s:Rat),Af F r (p++h :: q) b s=x*Af F r (p++f :: q) b s+y*Af F r (p++g :: q) b s
 | [],p,q,s=>by simp only[Af,cS,nH]
 | v :: b,p,q,s=>by
  have i1:=hF p (q++b);have i2:=FY (r:=r) hF b p (q++[v]) (-s);simp only[Af,cF,fW] at i1 i2 ⊢;rw[i1,i2];grind
theorem MM {F:List i5->Rat} {r:Nat} {f g h:i5} {x y:Rat} (hF:∀a b,F (a++h :: b)=x*F (a++f :: b)+y*F (a++g :: b)) (hr:h r=x*f r+y*g r):∀(a pre b:List i5) (s:Rat),Af F r pre (a++h :: b) s=x*Af F r pre (a++f :: b) s+y*Af F r pre (a++g :: b) s
 | [],pre,b,s=>by
  have i2:=FY (r:=r) hF b pre [] (-s);simp only[Af,dA] at i2 ⊢;rw[i2,hr];grind
 | v :: a,pre,b,s=>by
  have i1:=hF (pre++a) b;have i2:=MM hF hr a (pre++[v]) b (-s);simp only[Af,cF,fW] at i1 i2 ⊢;rw[i1,i2];grind
theorem vF {f g h:i5} {x y:Rat}:∀{rs:List Nat},(∀r∈rs,h r=x*f r+y*g r)->∀a b,jV rs (a++h :: b)=x*jV rs (a++f :: b)+y*jV rs (a++g :: b)
 | [],_,a,b=>by rw[Gg,Gg,Gg];grind
 | r :: rs,hr,a,b=>MM (λa b=>vF (λr' h'=>hr r' (.tail _ h')) a b) (hr r (.head _)) a [] b 1
theorem QU (hr:∀r∈rs,h r=f r) (a b:List i5):jV rs (a++h :: b)=jV rs (a++f :: b):=by
 rw[vF (f:=f) (g:=f) (x:=1) (y:=0) (λr h'=>by rw[hr r h'];grind) a b];grind
theorem MY (hr:∀r∈rs,h r=0) (a b:List i5):jV rs (a++h :: b)=0:=by
 rw[vF (f:=h) (g:=h) (x:=0) (y:=0) (λr h'=>by rw[hr r h'];grind) a b];grind
theorem MO {F:List i5->Rat} {r:Nat} {x:i5} (hF:∀a b,F (a++x :: x :: b)=0):∀(b p q:List i5) (s:Rat),Af F r (p++x :: x :: q) b s=0
 | [],p,q,s=>rfl
 | v :: b,p,q,s=>by
  have i1:=hF p (q++b);have i2:=MO (r:=r) hF b p (q++[v]) (-s);simp only[Af,cF,fW] at i1 i2 ⊢;rw[i1,i2];grind
theorem MP {F:List i5->Rat} {r:Nat} {x:i5} (hF:∀a b,F (a++x :: x :: b)=0):∀(a pre b:List i5) (s:Rat),Af F r pre (a++x :: x :: b) s=0
 | [],pre,b,s=>by
  have i2:=MO (r:=r) hF b pre [] (- -s);simp only[Af,dA,cF,fW] at i2 ⊢;rw[i2];grind
 | v :: a,pre,b,s=>by
  have i1:=hF (pre++a) b;have i2:=MP (r:=r) hF a (pre++[v]) b (-s);simp only[Af,cF,fW] at i1 i2 ⊢;rw[i1,i2];grind
theorem Cd {x:i5}:∀{rs:List Nat} (a b:List i5),jV rs (a++x :: x :: b)=0
 | [],a,b=>Gg
 | r :: rs,a,b=>MP (λa b=>Cd a b) a [] b 1
theorem Tu (a b:List i5):jV rs (a++x :: y :: b)=- jV rs (a++y :: x :: b):=by
 have hr:∀r∈rs,(λr=>1*x r+1*y r) r=1*x r+1*y r:=λ_ _=>rfl
 have h0:=Cd (x:=λr=>1*x r+1*y r) (rs:=rs) a b;have h1:=vF hr a ((λr=>1*x r+1*y r) :: b);have h2:=vF hr (a++[x]) b;have h3:=vF hr (a++[y]) b;have h4:=Cd (x:=x) (rs:=rs) a b;have h5:=Cd (x:=y) (rs:=rs) a b;simp only[cF,fW,dA] at h0 h1 h2 h3 h4 h5;rw[h1,h2,h3,h4,h5] at h0;grind
theorem Gi {x:i5} {rs:List Nat}:∀(b a c:List i5),jV rs (a++x :: (b++x :: c))=0
 | [],a,c=>Cd a c
 | y :: b,a,c=>by
  have:=Gi (x:=x) (rs:=rs) b (a++[y]) c;simp only[cF,fW,dA] at this;rw[fW,Tu,this];rfl
def bw:Nat->(Nat->Rat)->Rat
 | 0,_=>0
 | k+1,f=>bw k f+f k
theorem aO {f g:Nat->Rat}:∀{k:Nat},(∀j,j < k->f j=g j)->bw k f=bw k g
 | 0,_=>rfl
 | k+1,h=>by
  show bw k f+f k=bw k g+g k
  rw[aO λj hj=>h j (),h k ()]
theorem oZ {f g:Nat->Rat}:∀{k:Nat},bw k (λj=>f j+g j)=bw k f+bw k g
 | 0=>by show (0:Rat)=0+0;grind
 | k+1=>by
  show bw k (λj=>f j+g j)+_=(bw k f+f k)+(bw k g+g k)
  rw[oZ];grind
theorem cB {f:Nat->Rat} {c:Rat}:∀{k:Nat},bw k (λj=>c*f j)=c*bw k f
 | 0=>by show (0:Rat)=c*0;grind
 | k+1=>by
  show bw k (λj=>c*f j)+_=c*(bw k f+f k)
  rw[cB];grind
theorem cK {f:Nat->Rat}:∀{k:Nat},(∀j,j < k->f j=0)->bw k f=0
 | 0,_=>rfl
 | k+1,h=>by
  show bw k f+f k=0
  rw[cK λj hj=>h j (),h k ()];grind
theorem eB {f:Nat->Rat} {i:Nat}:∀{k:Nat},i < k->(∀j,j < k->j≠i->f j=0)->bw k f=f i
 | k+1,hi,h=>by
  show bw k f+f k=f i
  by_cases e:i=k
  ·subst e;rw[cK λj hj=>h j () ()];grind
  ·rw[eB () λj hj=>h j (),h k () (λz=>e z.symm)];grind
theorem eI {f:Nat->Nat->Rat} {m:Nat}:∀{k:Nat},bw k (λi=>bw m (f i))=bw m (λj=>bw k λi=>f i j)
 | 0=>(cK λ_ _=>rfl).symm
 | k+1=>by
  show bw k (λi=>bw m (f i))+bw m (f k)=bw m (λj=>bw k (λi=>f i j)+f k j)
  rw[eI,oZ]
theorem Gf {rs:List Nat} {W:i5} {v:Nat->i5} {c:Nat->Rat} (a b:List i5):∀{k:Nat} {W:i5},(∀r∈rs,W r=bw k λj=>c j*v j r)->jV rs (a++W :: b)=bw k λj=>c j*jV rs (a++v j :: b)
 | 0,W,h=>MY h a b
 | k+1,W,h=>by
  rw[vF (f:=λr=>bw k λj=>c j*v j r) (g:=v k) (x:=1) (y:=c k) (λr hr=>by rw[h r hr];show bw k _+_=_;grind) a b,Gf a b (k:=k) (W:=λr=>bw k λj=>c j*v j r) λr _=>rfl];show _=bw k _+_
  grind
end L2
namespace L2
open Nm
def lQ (f:Nat->Nat):Nat->List Nat
 | 0=>[]
 | k+1=>f k :: lQ f k
def jz (v:Nat->i5):Nat->List i5
 | 0=>[]
 | k+1=>v k :: jz v k
def JZ (v:Nat->i5) (i:Nat):Nat->List i5
 | 0=>[]
 | k+1=>if k<=i then [] else v k :: JZ v i k
theorem qO {f:Nat->Nat}:∀{k:Nat},(lQ f k).9=k
 | 0=>rfl
 | k+1=>by show (lQ f k).9+1=_;rw[qO]
theorem cw_len {v:Nat->i5}:∀{k:Nat},(jz v k).9=k
 | 0=>rfl
 | k+1=>by show (jz v k).9+1=_;rw[cw_len]
theorem mE {f:Nat->Nat} {r:Nat}:∀{k:Nat},r∈lQ f k->∃t,t < k/\r=f t
 | k+1,h=>by
  rcases aJ.mp h with h | h
  ·exact #[k,(),h]
  ·obtain t|a|b:=mE h;exact #[t,(),b]
theorem Bt {f g:Nat->Nat}:∀{k:Nat},(∀j,j < k->f j=g j)->lQ f k=lQ g k
 | 0,_=>rfl
 | k+1,h=>by
  show f k :: lQ f k=g k :: lQ g k
  rw[h k (),Bt λj hj=>h j ()]
theorem cw_congr {f g:Nat->i5}:∀{k:Nat},(∀j,j < k->f j=g j)->jz f k=jz g k
 | 0,_=>rfl
 | k+1,h=>by
  show f k :: jz f k=g k :: jz g k
  rw[h k (),cw_congr λj hj=>h j ()]
theorem cw_mem {v:Nat->i5} {j:Nat}:∀{k:Nat},j < k->v j∈jz v k
 | k+1,h=>by
  by_cases e:j=k
  ·subst e;exact .head _
  ·exact .tail _ (cw_mem ())
theorem cw_in {v:Nat->i5} {x:i5}:∀{k:Nat},x∈jz v k->∃t,t < k/\x=v t
 | k+1,h=>by
  rcases aJ.mp h with h | h
  ·exact #[k,(),h]
  ·obtain t|a|b:=cw_in h;exact #[t,(),b]
theorem Q3 {v:Nat->i5} {i j:Nat} (h1:i < j):∀{k:Nat},j < k->v j∈JZ v i k
 | k+1,h=>by
  show v j∈if k<=i then [] else v k :: JZ v i k
  rw[if_neg ()];by_cases e:j=k
  ·subst e;exact .head _
  ·exact .tail _ (Q3 h1 ())
theorem Cf {v:Nat->i5} {i:Nat} {x:i5}:∀{k:Nat},x∈JZ v i k->∃t,t < k/\x=v t
 | k+1,h=>by
  have h:x∈if k<=i then [] else v k :: JZ v i k:=h
  split at h
  ·cases h
  ·rcases aJ.mp h with h | h
   ·exact #[k,(),h]
   ·obtain t|a|b:=Cf h;exact #[t,(),b]
theorem cw_split {v:Nat->i5} {i:Nat}:∀{k:Nat},i < k->jz v k=JZ v i k++v i :: jz v i
 | k+1,h=>by
  show v k :: jz v k=(if k<=i then [] else v k :: JZ v i k)++_
  by_cases e:i=k
  ·subst e;rw[if_pos (ah _)];rfl
  ·rw[if_neg (),cw_split (k:=k) (i:=i) ()];rfl
theorem v8 {c:Nat->Rat} (hi:i < k) (hW:∀r∈rs,W r=bw k λj=>c j*v j r):jV rs (JZ v i k++W :: jz v i)=c i*jV rs (jz v k):=by
 rw[Gf (v:=v) (c:=c) (W:=W) _ _ hW,eB hi λj hj ne=>?_,cw_split hi];rcases cg j i with h | h
 ·obtain s|t|e:=KJ (cw_mem (v:=v) h);rw[e,Gi];grind
 ·obtain s|t|e:=KJ (Q3 (v:=v) (show i < j by lia) hj);have:=Gi (x:=v j) (rs:=rs) t s (jz v i);rw[e,cF,fW,this];grind
theorem Wj {c:Nat->Rat} (hW:∀r∈rs,W r=bw k λj=>c j*v j r):jV rs (W :: jz v k)=0:=by
 have:=Gf (v:=v) (c:=c) (W:=W) [] (jz v k) hW;rw[dA] at this;rw[this];refine cK λj hj=>?_
 obtain s|t|e:=KJ (cw_mem (v:=v) hj);have:=Gi (x:=v j) (rs:=rs) s [] t;rw[dA] at this;rw[e,dA,this];grind
theorem Oh {c:Nat->Rat} (hi:i∉rs) (h1:W i=bw k (λj=>c j*v j i)+s) (hW:∀r∈rs,W r=bw k λj=>c j*v j r):jV (i :: rs) (W :: jz v k)=s*jV rs (jz v k):=by
 have e:=vF (rs:=i :: rs) (h:=W) (f:=λr=>bw k λj=>c j*v j r) (g:=λr=>if r=i then 1 else 0) (x:=1) (y:=s) (λr hr=>by
  rcases aJ.mp hr with rfl | hr
  ·rw[h1,if_pos rfl];grind
  ·rw[hW r hr,if_neg (λz=>hi (by rw[<- z];exact hr))];grind) [] (jz v k)
 rw[dA,dA,dA,Wj (c:=c) λr _=>rfl] at e
 have e2:jV (i :: rs) ((λr=>if r=i then (1:Rat) else 0) :: jz v k)=jV rs (jz v k):=by
  show 1*(if i=i then (1:Rat) else 0)*jV rs ([]++jz v k)+Af (λws=>jV rs ws) i ([]++[λr=>if r=i then (1:Rat) else 0]) (jz v k) (-1)=_
  have hF:∀a b,(λws=>jV rs ws) (a++(λr=>if r=i then (1:Rat) else 0) :: b)=0*(λws=>jV rs ws) (a++(λr=>if r=i then (1:Rat) else 0) :: b)+0*(λws=>jV rs ws) (a++(λr=>if r=i then (1:Rat) else 0) :: b):=λa b=>by
   have:=MY (h:=λr=>if r=i then (1:Rat) else 0) (rs:=rs) (λr hr=>if_neg λz=>hi (by rw[<- z];exact hr)) a b
   dsimp only
   rw[this];grind
  have:=FY (r:=i) hF (jz v k) [] [] (-1);rw[this,if_pos rfl,dA];grind
 rw[e2] at e;rw[e];grind
theorem Qn {F:List i5->Rat} {r B W:Nat}:∀{post pre:List i5} {s:Rat},(∀ws,(∀w∈ws,w∈pre++post)->ws.9+1=(pre++post).9->Fr 1 B (F ws))->(∀w∈post,Fr 1 W (w r))->Fr 1 1 s->Fr 1 (post.9*(W*B)) (Af F r pre post s)
 | [],pre,s,_,_,_=>by show Fr 1 _ 0;exact Fr.zero
 | v :: post,pre,s,hF,hw,hs=>by
  have t1:Fr 1 (W*B) (s*v r*F (pre++post)):=by
   have:=(hs.mul (hw v (.head _))).mul (hF (pre++post) (λw h=>by
    rcases av.mp h with h | h
    ·exact dS _ h
    ·exact bJ _ (.tail _ h)) (by simp only[ai,a9];lia))
   simpa using this
  have t2:=Qn (F:=F) (r:=r) (B:=B) (W:=W) (post:=post) (pre:=pre++[v]) (s:=-s) (λws h h'=>hF ws (λw hw=>by simpa using h w hw) (by simpa using h')) (λw h=>hw w (.tail _ h)) (by simpa using hs.neg);exact (t1.add t2).mono (by rw[a9,d7];lia)
theorem zU {W N:Nat}:∀{rs:List Nat} {vs:List i5},vs.9<=N->(∀v∈vs,∀r∈rs,Fr 1 W (v r))->Fr 1 ((N*W)^rs.9) (jV rs vs)
 | [],[],_,_=>by show Fr 1 1 1;exact (Fr.int (i:=1) ())
 | [],_ :: _,_,_=>by show Fr 1 _ 0;exact Fr.zero
 | r :: rs,vs,hl,h=>by
  have:=Qn (F:=λws=>jV rs ws) (r:=r) (B:=(N*W)^rs.9) (W:=W) (post:=vs) (pre:=[]) (s:=1) (λws h1 h2=>zU (by rw[dA] at h2;lia) λv hv r' hr'=>h v (by simpa using h1 v hv) r' (.tail _ hr')) (λw hw=>h w hw r (.head _)) (Fr.int (i:=1) ());refine this.mono ?_;rw[a9,gK,b7 ((N*W)^rs.9),cV N];exact ax _ hl
structure yE (a:Nat->Nat->Rat) (m k:Nat) (pm p:Nat->Nat) (l:Nat->Nat->Rat) (d:Rat):Prop where
 inj:∀i j,i < m->j < m->pm i=pm j->i=j
 rng:∀i,i < m->pm i < m
 km:k<=m
 d0:d≠0
 det:d=jV (lQ pm k) (jz (λj r=>a r (p j)) k)
 eqs:∀i,i < m->∀c,d*a (pm i) c=bw k (λj=>a (pm i) (p j)*l j c)+if i < k then 0 else l i c
 unit:∀i,i < m->∀j,j < k->l i (p j)=if i=j then d else 0
section
variable {a l:Nat->Nat->Rat} {m k:Nat} {pm p:Nat->Nat} {d:Rat}
theorem yE.start (h:∀i,i < m->pm i=i):yE a m 0 pm p a 1 where
 inj i j hi hj e:=by rw[h i hi,h j hj] at e;exact e
 rng i hi:=by rw[h i hi];exact hi
 km:=a7 _
 d0:=()
 det:=rfl
 eqs i hi c:=by
  rw[h i hi,if_neg ()];show 1*a i c=0+a i c
  grind
 unit i _ j hj:=absurd hj ()
theorem yE.coef (B:yE a m k pm p l d) (hi:i < m):a (pm i) c=bw k (λj=>(l j c / d)*a (pm i) (p j))+if i < k then 0 else l i c / d:=by
 have h:=B.eqs i hi c;have d0:=B.d0
 have e:bw k (λj=>(l j c / d)*a (pm i) (p j))=(1 / d)*bw k (λj=>a (pm i) (p j)*l j c):=by
  rw[<- cB];exact aO λj _=>by grind
 rw[e]
 split at h
 ·rw[if_pos (by assumption)];grind
 ·rw[if_neg (by assumption)];grind
theorem yE.old (B:yE a m k pm p l d) (hi:i < k):l i c=jV (lQ pm k) (JZ (λj r=>a r (p j)) i k++(λr=>a r c) :: jz (λj r=>a r (p j)) i):=by
 have km:=B.km;have d0:=B.d0;rw[v8 (v:=λj r=>a r (p j)) (c:=λj=>l j c / d) hi λr hr=>?_,<- B.det]
 ·grind
 ·obtain t|ht|rfl:=mE hr;have:=B.coef (i:=t) (c:=c) ();rw[if_pos ht] at this;rw[this];grind
theorem yE.new (B:yE a m k pm p l d) (h1:k<=i) (hi:i < m):l i c=jV (pm i :: lQ pm k) ((λr=>a r c) :: jz (λj r=>a r (p j)) k):=by
 have km:=B.km;have d0:=B.d0
 have hn:pm i∉lQ pm k:=λhm=>by
  obtain t|ht|e:=mE hm;have:=B.inj i t hi () e
  lia
 have e1:a (pm i) c=bw k (λj=>(l j c / d)*a (pm i) (p j))+l i c / d:=by
  have:=B.coef (i:=i) (c:=c) hi;rwa [if_neg ()] at this
 have e2:∀r∈lQ pm k,a r c=bw k (λj=>(l j c / d)*a r (p j)):=λr hr=>by
  obtain t|ht|rfl:=mE hr;have:=B.coef (i:=t) (c:=c) ();rw[if_pos ht] at this;rw[this];grind
 rw[Oh (v:=λj r=>a r (p j)) (c:=λj=>l j c / d) (W:=λr=>a r c) (s:=l i c / d) hn e1 e2,<- B.det];grind
theorem yE.fr (B:yE a m k pm p l d) (hN:k < N) (hW:1<=W) (ha:∀i,i < m->∀c,Fr 1 W (a i c)) (hi:i < m):Fr 1 ((N*W)^(k+1)) (l i c):=by
 have km:=B.km;have mono:∀t,t<=k+1->(N*W)^t<=(N*W)^(k+1):=λt ht=>aj (bC () hW) ht
 have ha':∀r∈lQ pm k,∀c,Fr 1 W (a r c):=λr hr c=>by
  obtain t|ht|rfl:=mE hr;exact ha _ (B.rng t ()) c
 by_cases h:i < k
 ·rw[B.old h];refine (zU (W:=W) (N:=N) ?_ ?_).mono (mono _ (by rw[qO];lia))
  ·have:=congrArg FS (cw_split (v:=λj r=>a r (p j)) h);rw[ai,a9,cw_len] at this;rw[ai,a9]
   lia
  ·intro v hv r hr;rcases av.mp hv with hv | hv
   ·obtain t|_|rfl:=Cf hv;exact ha' r hr _
   ·rcases aJ.mp hv with rfl | hv
    ·exact ha' r hr _
    ·obtain t|_|rfl:=cw_in hv;exact ha' r hr _
 ·rw[B.new () hi];refine (zU (W:=W) (N:=N) ?_ ?_).mono (mono _ (by rw[a9,qO];lia))
  ·rw[a9,cw_len]
   lia
  ·intro v hv r hr
   have hr':∀c,Fr 1 W (a r c):=λc=>by
    rcases aJ.mp hr with rfl | hr
    ·exact ha _ (B.rng i hi) c
    ·exact ha' r hr c
   rcases aJ.mp hv with rfl | hv
   ·exact hr' _
   ·obtain t|_|rfl:=cw_in hv;exact hr' _
theorem yE.dfr (B:yE a m k pm p l d) (hN:k<=N) (ha:∀i,i < m->∀c,Fr 1 W (a i c)):Fr 1 ((N*W)^k) d:=by
 have km:=B.km;rw[B.det]
 have:=zU (W:=W) (N:=N) (rs:=lQ pm k) (vs:=jz (λj r=>a r (p j)) k) (by rw[cw_len];exact hN) λv hv r hr=>by
  obtain t|ht|rfl:=mE hr;obtain t'|_|rfl:=cw_in hv;exact ha _ (B.rng t ()) _
 rwa [qO] at this
def lY (k t i:Nat):Nat:=if i=k then t else if i=t then k else i
theorem wB (hk:k < m) (ht:t < m) (hi:i < m):lY k t i < m:=by
 unfold lY
 split
 ·exact ht
 ·split
  ·exact hk
  ·exact hi
theorem U3 (h:lY k t i=lY k t j):i=j:=by
 unfold lY at h
 split at h <;> split at h <;> (try split at h) <;> (try split at h) <;> lia
theorem wZ (h:k<=t) (hi:i < k):lY k t i=i:=by
 unfold lY;rw[if_neg (),if_neg ()]
theorem xG (h:k<=t) (hi:k<=i):k<=lY k t i:=by
 unfold lY
 split
 ·exact h
 ·split <;> lia
theorem yE.swap (B:yE a m k pm p l d) {t:Nat} (h:k<=t) (ht:t < m):yE a m k (λi=>pm (lY k t i)) p (λi=>l (lY k t i)) d where
 inj i j hi hj e:=U3 (B.inj _ _ (wB () ht hi) (wB () ht hj) e)
 rng i hi:=B.rng _ (wB () ht hi)
 km:=B.km
 d0:=B.d0
 det:=by rw[B.det,Bt (f:=pm) (g:=λi=>pm (lY k t i)) λj hj=>by rw[wZ h hj]]
 eqs i hi c:=by
  have e:=B.eqs (lY k t i) (wB () ht hi) c;have e1:bw k (λj=>a (pm (lY k t i)) (p j)*l (lY k t j) c)=bw k (λj=>a (pm (lY k t i)) (p j)*l j c):=aO λj hj=>by rw[wZ h hj]
  rw[e1];by_cases hk:i < k
  ·rw[wZ h hk] at e ⊢;exact e
  ·rw[if_neg hk];rw[if_neg (by have:=xG h (show k<=i by lia);lia)] at e;exact e
 unit i hi j hj:=by
  rw[B.unit _ (wB () ht hi) j hj];by_cases hk:i < k
  ·rw[wZ h hk]
  ·have:=xG h (show k<=i by lia);rw[if_neg (),if_neg ()]
theorem yE.step (B:yE a m k pm p l d) {c0:Nat} (hk:k < m) (h0:l k c0≠0):yE a m (k+1) pm (λj=>if j=k then c0 else p j) (λi c=>if i=k then l k c else (l k c0*l i c - l i c0*l k c) / d) (l k c0) where
 inj:=B.inj
 rng:=B.rng
 km:=hk
 d0:=h0
 det:=by
  rw[B.new (ah _) hk];show _=jV (pm k :: lQ pm k) ((λr=>a r (if k=k then c0 else p k)) :: jz _ k)
  rw[if_pos rfl];congr 2;exact cw_congr λj hj=>by rw[if_neg (show j≠k by lia)]
 eqs i hi c:=by
  have d0:=B.d0;have e1:=B.eqs i hi c;have e2:=B.eqs i hi c0;show l k c0*a (pm i) c=(bw k _+_)+_
  have s1:bw k (λj=>a (pm i) (if j=k then c0 else p j)*(if j=k then l k c else (l k c0*l j c - l j c0*l k c) / d))=(l k c0 / d)*bw k (λj=>a (pm i) (p j)*l j c)+(- l k c / d)*bw k (λj=>a (pm i) (p j)*l j c0):=by
   rw[<- cB,<- cB,<- oZ];refine aO λj hj=>?_
   rw[if_neg (show j≠k by lia),if_neg (show j≠k by lia)];grind
  rw[s1];simp only[if_true];generalize bw k (λj=>a (pm i) (p j)*l j c)=S1 at e1 ⊢;generalize bw k (λj=>a (pm i) (p j)*l j c0)=S2 at e2 ⊢;rcases cT i k with h | h | h
  ·rw[if_pos h] at e1 e2;rw[if_pos ()];grind
  ·subst h;rw[if_neg ()] at e1 e2;rw[if_pos ()];grind
  ·rw[if_neg ()] at e1 e2;rw[if_neg (),if_neg ()];grind
 unit i hi j hj:=by
  have d0:=B.d0;by_cases e:j=k
  ·subst e;simp only[if_true];by_cases ei:i=j
   ·rw[if_pos ei,if_pos ei]
   ·rw[if_neg ei,if_neg ei];grind
  ·have hj':j < k:=()
   rw[if_neg e];by_cases ei:i=k
   ·rw[if_pos ei,B.unit k hk j hj',if_neg (),if_neg ()]
   ·rw[if_neg ei,B.unit i hi j hj',B.unit k hk j hj',if_neg (show k≠j by lia)]
    split
    ·grind
    ·grind
end
def eo (m:Nat) (a:Nat->Nat->Rat) (x:Nat->Rat):Prop:=∃w:Nat->Rat,∀c,x c=bw m λt=>w t*a t c
theorem eo.row (hi:i < m):eo m a (a i):=#[λt=>if t=i then 1 else 0,λc=>by
 rw[eB hi λj _ ne=>by dsimp only;rw[if_neg ne];grind]
 dsimp only
 rw[if_pos rfl];grind]
theorem eo.lin (α β:Rat) (hx:eo m a x) (hy:eo m a y):eo m a λc=>α*x c+β*y c:=by
 obtain w|hw:=hx;obtain v|hv:=hy;refine #[λt=>α*w t+β*v t,λc=>?_]
 dsimp only
 rw[hw c,hv c,<- cB,<- cB,<- oZ];exact aO λj _=>by grind
theorem eo.congr (h:∀c,x c=y c) (hx:eo m a x):eo m a y:=by obtain w|hw:=hx;exact #[w,λc=>by rw[<- h c];exact hw c]
theorem eo.trans (h:∀t,t < m'->eo m a (b t)) (hx:eo m' b x):eo m a x:=by
 obtain v|hv:=hx
 have h2:∀t,∃w:Nat->Rat,t < m'->∀c,b t c=bw m λs=>w s*a s c:=λt=>by
  by_cases ht:t < m'
  ·obtain w|hw:=h t ht;exact #[w,λ_=>hw]
  ·exact #[λ_=>0,λz=>absurd z ht]
 have hc:=Classical.axiomOfChoice h2;obtain w|hw:=hc;refine #[λs=>bw m' λt=>v t*w t s,λc=>?_];rw[hv c];have e1:bw m' (λt=>v t*b t c)=bw m' (λt=>bw m λs=>v t*(w t s*a s c)):=aO λt ht=>by rw[hw t ht c,<- cB]
 rw[e1,eI];refine aO λs _=>?_
 have:bw m' (λt=>v t*w t s)*a s c=a s c*bw m' (λt=>v t*w t s):=cD ..;rw[this,<- cB];exact aO λt _=>by grind
theorem eo.zero (h:∀c,x c=0):eo m a x:=#[λ_=>0,λc=>by rw[h c,cK λ_ _=>by grind]]
structure EI (m n:Nat) (a:Nat->Nat->Rat) (k:Nat) (p:Nat->Nat) (R:Nat->Nat->Rat):Prop where
 inc:∀i j,i < j->j < k->p i < p j
 low:∀j,j < k->p j < n
 unit:∀i,i < k->∀j,j < k->R i (p j)=if i=j then 1 else 0
 lead:∀i,i < k->∀c,c < p i->R i c=0
 span:∀i,i < m->eo k R (a i)
 back:∀i,i < k->eo m a (R i)
section
variable {m m' k k' n:Nat} {a a' R R':Nat->Nat->Rat} {p p':Nat->Nat} {x:Nat->Rat}
theorem EI.coef (h:EI m n a k p R) (hx:eo k R x) (c:Nat):x c=bw k λj=>x (p j)*R j c:=by
 obtain w|hw:=hx;rw[hw c];refine aO λj hj=>?_
 rw[hw (p j),eB hj λt ht ne=>by rw[h.unit t ht j hj,if_neg ne];grind,h.unit j hj j hj,if_pos rfl];grind
theorem EI.lead_in (h:EI m n a k p R) (hx:eo k R x) (h1:x c≠0) (h0:∀c',c' < c->x c'=0):∃j,j < k/\p j=c:=by
 refine Fa λhn=>h1 ?_
 rw[h.coef hx c];refine cK λj hj=>?_
 rcases cT (p j) c with z | z | z
 ·rw[h0 _ z];grind
 ·exact absurd #[j,hj,z] hn
 ·rw[h.lead j hj c z];grind
theorem inc_le (h1:∀i j,i < j->j < k->p i < p j) (h2:∀i j,i < j->j < k'->p' i < p' j) (hs:∀j,j < k'->∃i,i < k/\p i=p' j):∀{j:Nat},j < k'->∀{i:Nat},i < k->p i=p' j->j<=i
 | 0,_,_,_,_=>a7 _
 | j+1,hj,i,hi,e=>by
  obtain i0|hi0|e0:=hs j ();have:=inc_le h1 h2 hs (j:=j) () hi0 e0;have lt:=h2 j (j+1) () hj;rcases cT i0 i with z | z | z
  ·lia
  ·subst z;lia
  ·have:=h1 i i0 z hi0;lia
theorem Qu (h1:∀i j,i < j->j < k->p i < p j) (h:i<=j) (hj:j < k):p i<=p j:=by
 rcases cg i j with z | z
 ·exact cA (h1 i j z hj)
 ·have:i=j:=()
  rw[this];exact ah _
theorem MU (h1:∀i j,i < j->j < k->p i < p j) (h2:∀i j,i < j->j < k'->p' i < p' j) (hs:∀j,j < k'->∃i,i < k/\p i=p' j):k'<=k/\∀j,j < k'->p j<=p' j:=by
 refine #[?_,λj hj=>?_]
 ·rcases fV k' with z | z
  ·lia
  ·obtain i|hi|e:=hs (k' - 1) ();have:=inc_le h1 h2 hs (j:=k' - 1) () hi e
   lia
 ·obtain i|hi|e:=hs j hj;rw[<- e];exact Qu h1 (inc_le h1 h2 hs hj hi e) hi
theorem EI.uniq (h:EI m n a k p R) (h':EI m' n a' k' p' R') (s1:∀i,i < m->eo m' a' (a i)) (s2:∀i,i < m'->eo m a (a' i)):k=k'/\(∀j,j < k->p j=p' j)/\∀i,i < k->∀c,R i c=R' i c:=by
 have x1:∀i,i < k->eo k' R' (R i):=λi hi=>eo.trans (λt ht=>h'.span t ht) (eo.trans s1 (h.back i hi))
 have x2:∀i,i < k'->eo k R (R' i):=λi hi=>eo.trans (λt ht=>h.span t ht) (eo.trans s2 (h'.back i hi))
 have y1:∀j,j < k->∃i,i < k'/\p' i=p j:=λj hj=>h'.lead_in (x1 j hj) (by rw[h.unit j hj j hj,if_pos rfl];decide) (h.lead j hj)
 have y2:∀j,j < k'->∃i,i < k/\p i=p' j:=λj hj=>h.lead_in (x2 j hj) (by rw[h'.unit j hj j hj,if_pos rfl];decide) (h'.lead j hj)
 obtain z1|w1:=MU h'.inc h.inc y1;obtain z2|w2:=MU h.inc h'.inc y2;have ek:k=k':=RJ z1 z2;subst ek;have ep:∀j,j < k->p j=p' j:=λj hj=>RJ (w2 j hj) (w1 j hj)
 refine #[rfl,ep,λi hi c=>?_];rw[h.coef (x2 i hi) c,eB hi λj hj ne=>by rw[ep j hj,h'.unit i hi j hj,if_neg (λz=>ne z.symm)];grind,ep i hi,h'.unit i hi i hi,if_pos rfl];grind
end
structure mQ (a:Nat->Nat->Rat) (m k P:Nat) (p:Nat->Nat) (l:Nat->Nat->Rat) (d:Rat):Prop where
 km:k<=m
 d0:d≠0
 unit:∀i,i < m->∀j,j < k->l i (p j)=if i=j then d else 0
 inc:∀i j,i < j->j < k->p i < p j
 low:∀j,j < k->p j < P
 zero:∀i,k<=i->i < m->∀c,c < P->l i c=0
 lead:∀j,j < k->∀c,c < p j->l j c=0
 there:∀i,i < m->eo m l (a i)
 back:∀i,i < m->eo m a (l i)
section
variable {m k n P:Nat} {a l l':Nat->Nat->Rat} {p:Nat->Nat} {d d':Rat}
theorem mQ.start:mQ a m 0 0 p a 1 where
 km:=a7 _
 d0:=()
 unit _ _ j hj:=absurd hj ()
 inc _ j _ hj:=absurd hj ()
 low j hj:=absurd hj ()
 zero _ _ _ c hc:=absurd hc ()
 lead j hj:=absurd hj ()
 there i hi:=eo.row hi
 back i hi:=eo.row hi
theorem mQ.skip (E:mQ a m k P p l d) (h:∀i,k<=i->i < m->l i P=0):mQ a m k (P+1) p l d :=
 #[E.km,E.d0,E.unit,E.inc,λj hj=>Nat.lt_succ_of_lt (E.low j hj),λi h1 h2 c hc=>by
  by_cases e:c=P
  ·rw[e];exact h i h1 h2
  ·exact E.zero i h1 h2 c (),E.lead,E.there,E.back]
theorem Xm:lY k t (lY k t i)=i:=by
 unfold lY
 split
 ·split <;> (try split) <;> lia
 ·split
  ·rw[if_pos rfl];lia
  ·rfl
theorem mQ.swap (E:mQ a m k P p l d) {t:Nat} (h:k<=t) (ht:t < m):mQ a m k P p (λi=>l (lY k t i)) d where
 km:=E.km
 d0:=E.d0
 unit i hi j hj:=by
  rw[E.unit _ (wB () ht hi) j hj];by_cases hk:i < k
  ·rw[wZ h hk]
  ·have:=xG h (show k<=i by lia);rw[if_neg (),if_neg ()]
 inc:=E.inc
 low:=E.low
 zero i h1 h2 c hc:=E.zero _ (xG h h1) (wB () ht h2) c hc
 lead j hj c hc:=by rw[wZ h hj];exact E.lead j hj c hc
 there i hi:=eo.trans (λs hs=>eo.congr (λc=>by rw[Xm]) (eo.row (a:=λi=>l (lY k t i)) (i:=lY k t s) (wB () ht hs))) (E.there i hi)
 back i hi:=E.back _ (wB () ht hi)
theorem mQ.step (E:mQ a m k P p l d) (hk:k < m) (h0:d'≠0) (unit':∀i,i < m->∀j,j < k+1->l' i (if j=k then P else p j)=if i=j then d' else 0)
  (hl:∀i,i < m->∃β γ:Rat,β≠0/\(i=k->γ=0)/\∀c,l' i c=β*l i c+γ*l k c):mQ a m (k+1) (P+1) (λj=>if j=k then P else p j) l' d' where
 km:=hk
 d0:=h0
 unit:=unit'
 inc i j hij hj:=by
  by_cases e:j=k
  ·rw[if_pos e,if_neg ()];exact E.low i ()
  ·rw[if_neg e,if_neg ()];exact E.inc i j hij ()
 low j hj:=by
  by_cases e:j=k
  ·rw[if_pos e];lia
  ·rw[if_neg e];exact Nat.lt_succ_of_lt (E.low j ())
 zero i h1 h2 c hc:=by
  by_cases e:c=P
  ·have:=unit' i h2 k ();rw[if_pos rfl,if_neg ()] at this;rw[e];exact this
  ·obtain β|γ|_|_|q:=hl i h2;rw[q c,E.zero i () h2 c (),E.zero k (ah _) hk c ()];grind
 lead j hj c hc:=by
  have km:=E.km;obtain β|γ|_|_|q:=hl j ();by_cases e:j=k
  ·rw[if_pos e] at hc;rw[q c,e,E.zero k (ah _) hk c hc];grind
  ·rw[if_neg e] at hc;have:=E.low j ();rw[q c,E.lead j () c hc,E.zero k (ah _) hk c ()];grind
 there i hi:=by
  refine eo.trans (λs hs=>?_) (E.there i hi);obtain β|γ|b0|_|q:=hl s hs;obtain βk|γk|bk0|gk|qk:=hl k hk;have g0:=gk rfl;refine eo.congr (λc=>?_) (eo.lin (1 / β) (-(γ / β) / βk) (eo.row (a:=l') hs) (eo.row (a:=l') hk));rw[q c,qk c,g0];grind
 back i hi:=by
  obtain β|γ|_|_|q:=hl i hi;exact eo.congr (λc=>(q c).symm) (eo.lin β γ (E.back i hi) (E.back k hk))
theorem mQ.done (E:mQ a m k n p l d) (ha:∀i,i < m->∀c,n<=c->a i c=0):EI m n a k p (λi c=>l i c / d) where
 inc:=E.inc
 low:=E.low
 unit i hi j hj:=by
  have d0:=E.d0;have km:=E.km;rw[E.unit i () j hj]
  split
  ·grind
  ·grind
 lead i hi c hc:=by
  rw[E.lead i hi c hc];grind
 span i hi:=by
  have d0:=E.d0;refine eo.trans (λs hs=>?_) (E.there i hi);by_cases z:s < k
  ·refine eo.congr (λc=>?_) (eo.lin d 0 (eo.row (a:=λi c=>l i c / d) z) (eo.row (a:=λi c=>l i c / d) z));grind
  ·refine eo.zero λc=>?_
   by_cases hc:c < n
   ·exact E.zero s () hs c hc
   ·obtain w|hw:=E.back s hs;rw[hw c,cK λt ht=>by rw[ha t ht c ()];grind]
 back i hi:=by
  have km:=E.km;have d0:=E.d0;refine eo.congr (λc=>?_) (eo.lin (1 / d) 0 (E.back i ()) (E.back i ()));grind
end
def fh (ls:List (List Int)) (i c:Nat):Rat:=(((ls.getD i []).getD c 0:Int):Rat)
def bE (rows:LR9) (i c:Nat):Rat:=(rows.getD i []).getD c 0
def rN (ls:List (List Int)) (k t:Nat):List (List Int):=(ls.set k (ls.getD t [])).set t (ls.getD k [])
def J6 (ls:List (List Int)) (k c:Nat) (b:Int):List (List Int):=(ls.map λzs=>xL (λx y=>((ls.getD k []).getD c 0*x - zs.getD c 0*y).fdiv b) zs (ls.getD k [])).set k (ls.getD k [])
section
variable {b d:Int}
theorem vD {α:Type} {l:List α} {x e:α} (hi:i < l.9):(l.set i x).getD j e=if j=i then x else l.getD j e:=by
 rw[aa,aa,List.getElem?_set];by_cases h:j=i
 ·subst h;rw[if_pos rfl,if_pos hi,if_pos rfl];rfl
 ·rw[if_neg (λz=>h z.symm),if_neg h]
theorem yI:(rN ls k t).9=ls.9:=by unfold rN;rw[d5,d5]
theorem Q7:(J6 ls k c b).9=ls.9:=by unfold J6;rw[d5,af]
theorem getD_in {α:Type} {l:List α} {e:α} (h:i < l.9):l.getD i e∈l:=by
 rw[aa,ae h];exact aQ h
theorem Mp (w:∀zs∈ls,zs.9=n) (hk:k < ls.9) (ht:t < ls.9):∀zs∈rN ls k t,zs.9=n:=λzs hz=>by
 unfold rN at hz;rcases cI hz with h | h
 ·rcases cI h with h | h
  ·exact w zs h
  ·rw[h];exact w _ (getD_in ht)
 ·rw[h];exact w _ (getD_in hk)
theorem Na (w:∀zs∈ls,zs.9=n) (hk:k < ls.9):∀zs∈J6 ls k c b,zs.9=n:=λzs hz=>by
 unfold J6 at hz;rcases cI hz with h | h
 ·obtain y|hy|rfl:=aB.mp h;rw[cu,w y hy,w _ (getD_in hk)]
  lia
 ·rw[h];exact w _ (getD_in hk)
theorem yo (hk:k < ls.9) (ht:t < ls.9) (i c:Nat):fh (rN ls k t) i c=fh ls (lY k t i) c:=by
 unfold fh rN lY;rw[vD (by rw[d5];exact ht),vD hk];by_cases h1:i=t
 ·rw[if_pos h1];by_cases h2:i=k
  ·rw[if_pos h2,<- h1,<- h2]
  ·rw[if_neg h2,if_pos h1]
 ·rw[if_neg h1];by_cases h2:i=k
  ·rw[if_pos h2,if_pos h2]
  ·rw[if_neg h2,if_neg h2,if_neg h1]
theorem xA (w:∀zs∈ls,zs.9=n) (hc:n<=c):fh ls i c=0:=by
 unfold fh;by_cases h:i < ls.9
 ·have:=w _ (getD_in (e:=[]) h);rw[aa (l:=ls.getD i []),aE ()];rfl
 ·rw[aa (l:=ls),aE ()];rfl
theorem oo {x:Int} (h:(x:Rat)=0):x=0:=by
 have:(x:Rat)=((0:Int):Rat):=h;exact dW.mp this
theorem LI {x b:Int} (hb:b≠0) (hq:∃z:Int,q=(z:Rat)) (e:(x:Rat)=(b:Rat)*q):((x.fdiv b:Int):Rat)=q:=by
 obtain z|rfl:=hq;rw[<- aW] at e;have:=dW.mp e;rw[this,Int.mul_fdiv_cancel_left _ hb]
theorem tJ (h:Fr 1 W q):∃z:Int,q=(z:Rat):=by
 obtain z|e|_:=h;exact #[z,by rw[<- e];simp]
theorem tI {z:Int} (h:Fr 1 W (z:Rat)):z.natAbs<=W:=by
 obtain y|e|b:=h;have:(z:Rat)=(y:Rat):=by rw[<- e];simp
 rw[dW.mp this];simpa using b
theorem QL (w:∀zs∈ls,zs.9=n) (hk:k < ls.9) (hb:b≠0) (hi:i < ls.9) (hz:∀c,∃z:Int,(fh ls k P*fh ls i c - fh ls i P*fh ls k c) / (b:Rat)=(z:Rat)) (c:Nat) :
  fh (J6 ls k P b) i c=if i=k then fh ls k c else (fh ls k P*fh ls i c - fh ls i P*fh ls k c) / (b:Rat):=by
 by_cases e:i=k
 ·rw[if_pos e];unfold fh J6;rw[vD (by rw[af];exact hk),if_pos e]
 ·rw[if_neg e];by_cases hc:c < n
  ·have hb':(b:Rat)≠0:=λz=>hb (oo z)
   have lk:=w _ (getD_in (e:=[]) hk);have li:=w _ (getD_in (e:=[]) hi)
   have e1:fh (J6 ls k P b) i c=(((((ls.getD k []).getD P 0*(ls.getD i []).getD c 0 - (ls.getD i []).getD P 0*(ls.getD k []).getD c 0).fdiv b:Int)):Rat):=by
    unfold J6;rw[fh,vD (by rw[af];exact hk),if_neg e];rw[aa (l:=List.map _ ls),aA,ae hi];show ((((xL _ ls[i] (ls.getD k [])).getD c 0:Int)):Rat)=_
    have ei:ls.getD i []=ls[i]:=by rw[aa,ae hi];rfl
    rw[<- ei];rw[aa (l:=xL _ _ _),b9,aa (l:=ls.getD i []) (i:=c),aa (l:=ls.getD k []) (i:=c),ae (show c < (ls.getD i []).9 by lia),ae (show c < (ls.getD k []).9 by lia)];rfl
   rw[e1];refine LI hb (hz c) ?_;rw[Cq,aW,aW];show _=(b:Rat)*((fh ls k P*fh ls i c - fh ls i P*fh ls k c) / (b:Rat))
   show fh ls k P*fh ls i c - fh ls i P*fh ls k c=_
   grind
  ·rw[xA (Na w hk) (show n<=c by lia),xA w (i:=i) (show n<=c by lia),xA w (i:=k) (show n<=c by lia)];grind
end
section
variable {m k n P:Nat} {a l l2:Nat->Nat->Rat} {pm p p2:Nat->Nat} {d:Rat}
theorem yE.congr (B:yE a m k pm p l d) (hp:∀j,j < k->p2 j=p j) (hl:∀i,i < m->∀c,l2 i c=l i c):yE a m k pm p2 l2 d where
 inj:=B.inj
 rng:=B.rng
 km:=B.km
 d0:=B.d0
 det:=by rw[B.det,cw_congr (f:=λj r=>a r (p j)) (g:=λj r=>a r (p2 j)) λj hj=>by rw[hp j hj]]
 eqs i hi c:=by
  have km:=B.km;rw[B.eqs i hi c,hl i hi c];congr 1;exact aO λj hj=>by rw[hp j hj,hl j () c]
 unit i hi j hj:=by rw[hp j hj,hl i hi];exact B.unit i hi j hj
theorem eo.rows (h:∀i,i < m->∀c,l2 i c=l i c) (hx:eo m l x):eo m l2 x:=by obtain w|hw:=hx;exact #[w,λc=>by rw[hw c];exact aO λt ht=>by rw[h t ht c]]
theorem mQ.congr (E:mQ a m k P p l d) (hp:∀j,j < k->p2 j=p j) (hl:∀i,i < m->∀c,l2 i c=l i c):mQ a m k P p2 l2 d where
 km:=E.km
 d0:=E.d0
 unit i hi j hj:=by rw[hp j hj,hl i hi];exact E.unit i hi j hj
 inc i j hij hj:=by rw[hp i (),hp j hj];exact E.inc i j hij hj
 low j hj:=by rw[hp j hj];exact E.low j hj
 zero i h1 h2 c hc:=by rw[hl i h2];exact E.zero i h1 h2 c hc
 lead j hj c hc:=by
  have km:=E.km;rw[hp j hj] at hc;rw[hl j ()];exact E.lead j hj c hc
 there i hi:=(E.there i hi).rows hl
 back i hi:=(E.back i hi).congr λc=>(hl i hi c).symm
theorem mQ.kP (E:mQ a m k P p l d):k<=P:=by
 have:∀j,j < k->j<=p j:=by
  intro j
  induction j with
  | zero=>intro _;exact a7 _
  | succ j ih =>
   intro hj;have:=ih ();have:=E.inc j (j+1) () hj
   lia
 rcases fV k with z | z
 ·lia
 ·have h1:=this (k - 1) ();have h2:=E.low (k - 1) ()
  lia
end
structure EE (ls0:List (List Int)) (n P:Nat) (ls:List (List Int)) (ps:List Nat) (d:Int):Prop where
 len:ls.9=ls0.9
 wide:∀zs∈ls,zs.9=n
 bar:∃pm,yE (fh ls0) ls0.9 ps.9 pm (λj=>ps.getD j 0) (fh ls) d
 el:mQ (fh ls0) ls0.9 ps.9 P (λj=>ps.getD j 0) (fh ls) d
theorem EE.start (w:∀zs∈ls0,zs.9=n):EE ls0 n 0 ls0 [] 1:=#[rfl,w,#[λi=>i,yE.start λ_ _=>rfl],mQ.start]
theorem EE.d0 (h:EE ls0 n P ls ps d):d≠0:=λz=>h.el.d0 (by rw[z];rfl)
theorem EE.skip (h:EE ls0 n P ls ps d) (hz:∀i,ps.9<=i->i < ls.9->fh ls i P=0):EE ls0 n (P+1) ls ps d:=#[h.len,h.wide,h.bar,h.el.skip λi h1 h2=>hz i h1 (by rw[h.len];exact h2)]
theorem getD_snoc (hj:j < l.9+1):(l++[x]).getD j 0=if j=l.9 then x else l.getD j 0:=by
 rw[aa,aa];by_cases e:j=l.9
 ·rw[if_pos e,e,bc (ah _),ij];rfl
 ·rw[if_neg e,bF ()]
theorem EE.int (h:EE ls0 n P ls ps d) (hW:1<=W) (h0:∀i,i < ls0.9->∀c,Fr 1 W (fh ls0 i c)) (ht:ps.9<=t) (ht2:t < ls.9) (hne:fh ls t P≠0) :
  ∀i,i < ls.9->i≠ps.9->∀c,∃z:Int,(fh (rN ls ps.9 t) ps.9 P*fh (rN ls ps.9 t) i c - fh (rN ls ps.9 t) i P*fh (rN ls ps.9 t) ps.9 c) / (d:Rat)=(z:Rat):=λi hi ne c=>by
 obtain pm|B:=h.bar;have hl:=h.len;have hk:ps.9 < ls.9:=()
 have B1:=(B.swap ht ()).congr (p2:=λj=>ps.getD j 0) (l2:=fh (rN ls ps.9 t)) (λ_ _=>rfl) (λi _ c=>yo hk ht2 i c)
 have h1:fh (rN ls ps.9 t) ps.9 P≠0:=by
  rw[yo hk ht2];unfold lY;rw[if_pos rfl];exact hne
 have B2:=B1.step (c0:=P) () h1;have:=B2.fr (W:=W) (N:=ps.9+2) () hW h0 (i:=i) (c:=c) ();rw[if_neg ne] at this;exact tJ this
theorem EE.step (h:EE ls0 n P ls ps d) (hW:1<=W) (h0:∀i,i < ls0.9->∀c,Fr 1 W (fh ls0 i c)) (ht:ps.9<=t) (ht2:t < ls.9) (hne:fh ls t P≠0) :
  EE ls0 n (P+1) (J6 (rN ls ps.9 t) ps.9 P d) (ps++[P]) (((J6 (rN ls ps.9 t) ps.9 P d).getD ps.9 []).getD P 0):=by
 obtain pm|B:=h.bar;have hl:=h.len;have hk:ps.9 < ls.9:=()
 have hz:=h.int hW h0 ht ht2 hne;have w1:=Mp h.wide hk ht2;have k1:ps.9 < (rN ls ps.9 t).9:=by rw[yI];exact hk
 have B1:=(B.swap ht ()).congr (p2:=λj=>ps.getD j 0) (l2:=fh (rN ls ps.9 t)) (λ_ _=>rfl) (λi _ c=>yo hk ht2 i c);have E1:=(h.el.swap ht ()).congr (p2:=λj=>ps.getD j 0) (l2:=fh (rN ls ps.9 t)) (λ_ _=>rfl) (λi _ c=>yo hk ht2 i c)
 have h1:fh (rN ls ps.9 t) ps.9 P≠0:=by
  rw[yo hk ht2];unfold lY;rw[if_pos rfl];exact hne
 have B2:=B1.step (c0:=P) () h1
 have fc:∀i,i < ls0.9->∀c,fh (J6 (rN ls ps.9 t) ps.9 P d) i c=if i=ps.9 then fh (rN ls ps.9 t) ps.9 c else (fh (rN ls ps.9 t) ps.9 P*fh (rN ls ps.9 t) i c - fh (rN ls ps.9 t) i P*fh (rN ls ps.9 t) ps.9 c) / (d:Rat):=λi hi c=>by
  by_cases e:i=ps.9
  ·rw[if_pos e];unfold fh J6;rw[vD (by rw[af];exact k1),if_pos e]
  ·have:=QL w1 k1 h.d0 (i:=i) (by rw[yI];lia) (hz i () e) c;rw[this]
 have ed:(((((J6 (rN ls ps.9 t) ps.9 P d).getD ps.9 []).getD P 0:Int)):Rat)=fh (rN ls ps.9 t) ps.9 P:=by
  have:=fc ps.9 () P;rw[if_pos rfl] at this;exact this
 have lp:(ps++[P]).9=ps.9+1:=by rw[ai];rfl
 have hp:∀j,j < ps.9+1->(ps++[P]).getD j 0=if j=ps.9 then P else ps.getD j 0:=λj hj=>getD_snoc hj
 refine #[by rw[Q7,yI];exact hl,Na w1 k1,#[λi=>pm (lY ps.9 t i),?_],?_]
 ·rw[ed,lp];exact B2.congr hp fc
 ·rw[ed,lp];refine mQ.congr (E1.step (d':=fh (rN ls ps.9 t) ps.9 P) (l':=λi c=>if i=ps.9 then fh (rN ls ps.9 t) ps.9 c else (fh (rN ls ps.9 t) ps.9 P*fh (rN ls ps.9 t) i c - fh (rN ls ps.9 t) i P*fh (rN ls ps.9 t) ps.9 c) / (d:Rat)) () h1 B2.unit λi hi=>?_) hp fc;have d0:=h.el.d0;by_cases e:i=ps.9
  ·refine #[1,0,(),λ_=>rfl,λc=>?_];rw[if_pos e,e];grind
  ·refine #[fh (rN ls ps.9 t) ps.9 P / (d:Rat),-(fh (rN ls ps.9 t) i P) / (d:Rat),?_,λz=>absurd z e,λc=>?_]
   ·intro z;apply h1;grind
   ·rw[if_neg e];grind
theorem EE.sz (h:EE ls0 n P ls ps d) (hW:1<=W) (h0:∀i,i < ls0.9->∀c,Fr 1 W (fh ls0 i c)) (hP:P<=n) (hr:min ls0.9 n<=r) (r15:r<=15):(d.natAbs<=(16*W)^r)/\∀zs∈ls,∀z∈zs,z.natAbs<=(16*W)^r:=by
 obtain pm|B:=h.bar;have kP:=h.el.kP;have km:=B.km;have hl:=h.len;have mono:∀{s t:Nat},s<=t->(16*W)^s<=(16*W)^t:=λhs=>aj (bC () hW) hs
 refine #[ag (tI (B.dfr (W:=W) (N:=16) () h0)) (mono ()),λzs hz z hz'=>?_];obtain i|hi|rfl:=bu hz;obtain c|hc|rfl:=bu hz';have hw:=h.wide _ (aQ hi)
 have ez:fh ls i c=(((ls[i])[c]:Int):Rat):=by
  unfold fh;rw[aa (l:=ls),ae hi];show ((ls[i].getD c 0:Int):Rat)=_
  rw[aa,ae hc];rfl
 by_cases hk:i < ps.9
 ·have:Fr 1 ((16*W)^ps.9) (fh ls i c):=by
   have hd:=B.d0;rw[B.old hk]
   have:=zU (W:=W) (N:=16) (rs:=lQ pm ps.9) (vs:=JZ (λj r=>fh ls0 r (ps.getD j 0)) i ps.9++(λr=>fh ls0 r c) :: jz (λj r=>fh ls0 r (ps.getD j 0)) i) (by
    have:=congrArg FS (cw_split (v:=λj r=>fh ls0 r (ps.getD j 0)) hk);rw[ai,a9,cw_len] at this;rw[ai,a9]
    lia) (by
    intro v hv r hr
    have hr':∀c,Fr 1 W (fh ls0 r c):=λc=>by
     obtain t|ht|rfl:=mE hr;exact h0 _ (B.rng t ()) c
    rcases av.mp hv with hv | hv
    ·obtain t|_|rfl:=Cf hv;exact hr' _
    ·rcases aJ.mp hv with rfl | hv
     ·exact hr' _
     ·obtain t|_|rfl:=cw_in hv;exact hr' _)
   rwa [qO] at this
  rw[ez] at this;exact ag (tI this) (mono ())
 ·by_cases hn:ps.9 < n
  ·have:=B.fr (W:=W) (N:=16) () hW h0 (i:=i) (c:=c) ();rw[ez] at this;exact ag (tI this) (mono ())
  ·have:=h.el.zero i () () c ();rw[ez] at this;rw[oo this];exact a7 _
def Tp (M W:Nat) (q:Rat):Prop:=∃z:Int,q*(M:Rat)=(z:Rat)/\z.natAbs<=W
theorem Tp.of {M V W:Nat} (h:Fr M V q) (hW:V*M<=W):Tp M W q:=by obtain z|a|b:=h;exact #[z,a,ag b hW]
theorem Tp.mono (h:Tp M W q) (hW:W<=W'):Tp M W' q:=by obtain z|a|b:=h;exact #[z,a,ag b hW]
theorem Tp.fr (h:Tp M W q) (h0:0 < M):Fr M W q:=by obtain z|a|b:=h;exact #[z,a,ag b (bZ _ h0)]
def EG (rows:LR9) (n w:Nat):Prop:=∃M W:Nat,0 < M/\M<=2^4300000/\1<=W/\W<=2^w/\(∀xs∈rows,∀x∈xs,Tp M W x)/\w<=4300000/\min rows.9 n<=15/\min rows.9 n*(w+4)<=8900000
def iX (xs:List Rat):List Int:=ie (xs.map nm) (jk (xs.map nm))
theorem qY:(iX xs).9=xs.9:=by unfold iX ie;rw[af,af]
theorem rC {xs:List Rat}:0 < jk (xs.map nm):=BX () λb hb=>by
 obtain n|hn|rfl:=aB.mp hb;obtain x|_|rfl:=aB.mp hn;exact js x
theorem RV:(((iX xs).getD c 0:Int):Rat)=xs.getD c 0*((jk (xs.map nm):Int):Rat):=by
 unfold iX ie;rw[aa,aa,aA,aA];cases e:xs[c]? with
 | none=>show ((0:Int):Rat)=0*_;rw[ig];rfl
 | some x=>exact uy (rD (aB.mpr #[x,ar e,rfl]))
section
variable {xs:List Rat}
theorem AQ (hi:i < rows.9):fh (rows.map iX) i c=((jk ((rows.getD i []).map nm):Int):Rat)*bE rows i c:=by
 unfold fh bE
 have e:(rows.map iX).getD i []=iX (rows.getD i []):=by
  rw[aa,aa,aA,ae hi];rfl
 rw[e,RV,cD]
theorem pJ (hw:∀xs∈rows,xs.9=n) (hc:n<=c):bE rows i c=0:=by
 unfold bE;by_cases h:i < rows.9
 ·have:=hw _ (getD_in (e:=[]) h);rw[aa (l:=rows.getD i []),aE ()];rfl
 ·rw[aa (l:=rows),aE ()];rfl
theorem Aq (i:Nat) (hi:i < rows.9):eo rows.9 (fh (rows.map iX)) (bE rows i):=by
 have h0:((jk ((rows.getD i []).map nm):Int):Rat)≠0:=λz=>by
  have:=rC (xs:=rows.getD i []);have:=oo z
  lia
 refine eo.congr (λc=>?_) (eo.lin (1 / ((jk ((rows.getD i []).map nm):Int):Rat)) 0 (eo.row (a:=fh (rows.map iX)) hi) (eo.row (a:=fh (rows.map iX)) hi));rw[AQ hi];grind
theorem Ap (i:Nat) (hi:i < rows.9):eo rows.9 (bE rows) (fh (rows.map iX) i):=by
 refine eo.congr (λc=>?_) (eo.lin ((jk ((rows.getD i []).map nm):Int):Rat) 0 (eo.row (a:=bE rows) hi) (eo.row (a:=bE rows) hi));rw[AQ hi];grind
theorem wY (h:Tp M W x):(nm x).2∣(M:Int):=by
 obtain z|e|b:=h
 exact Fr.den (V:=z.natAbs) (M:=M) #[z,e,by
  rcases fV M with h | h
  ·subst h;have:(z:Rat)=0:=by rw[<- e];simp
   rw[oo this];simp
  ·exact bZ _ h]
theorem yG (h:Tp M W x) (h0:0 < M) (hB:0 < B) (d1:(nm x).2∣B) (d2:B∣(M:Int)):∃t:Int,x*(B:Rat)=(t:Rat)/\t.natAbs<=W:=by
 obtain z|e|b:=h;obtain s|es:=d2;refine #[(nm x).1*(B / (nm x).2),(uy d1).symm,?_]
 have s0:0 < s:=by
  rcases Int.lt_trichotomy s 0 with h | h | h
  ·have:=xE hB h
   lia
  ·rw[h] at es;lia
  ·exact h
 have e2:(((nm x).1*(B / (nm x).2)*s:Int):Rat)=(z:Rat):=by
  rw[aW,uy d1,<- e,<- aL,es,aW];grind
 have e3:=dW.mp e2;have:((nm x).1*(B / (nm x).2)).natAbs*s.natAbs=z.natAbs:=by rw[<- dc,e3]
 have h1:1<=s.natAbs:=()
 have:=bZ ((nm x).1*(B / (nm x).2)).natAbs h1
 lia
theorem AK (h0:0 < M) (h:∀x∈xs,Tp M W x):jk (xs.map nm)∣(M:Int):=AG () (Int.one_dvd _) λb hb=>by
 obtain n|hn|rfl:=aB.mp hb;obtain x|hx|rfl:=aB.mp hn;exact #[js x,wY (h x hx)]
theorem EG.rowM (F:EG rows n w) (hx:xs∈rows):∃M,Mh M (xs.map nm):=by
 obtain M|W|h0|h1|hW|h2|h3|h4|_:=F;refine #[M,(),?_,λy hy=>?_]
 ·show ((M:Nat):Int).natAbs < 2^4400000
  rw[bM];exact bx h1 (eQ () ())
 ·obtain x|hx'|rfl:=aB.mp hy;have t:=h3 xs hx x hx';refine #[js x,wY t,?_];obtain s|e|b:=yG t h0 (js x) (Ni _) (wY t);have e2:(((nm x).1:Int):Rat)=(s:Rat):=by rw[<- e];exact oC x
  rw[dW.mp e2];exact bx (ag b h2) (eQ () ())
theorem EG.ent (F:EG rows n w):∃W:Nat,1<=W/\W<=2^w/\∀i,i < (rows.map iX).9->∀c,Fr 1 W (fh (rows.map iX) i c):=by
 obtain M|W|h0|h1|hW|h2|h3|h4|_:=F;refine #[W,hW,h2,λi hi c=>?_];rw[af] at hi;have hx:=getD_in (e:=[]) hi;rw[AQ hi];unfold bE;generalize rows.getD i []=xs at hx ⊢;by_cases hc:c < xs.9
 ·have t:=h3 xs hx _ (getD_in (e:=0) hc);obtain s|e|b:=yG t h0 (rC (xs:=xs)) (rD (aB.mpr #[_,getD_in (e:=0) hc,rfl])) (AK h0 (h3 xs hx));rw[cD,e];exact Fr.int b
 ·rw[aa,aE ()];show Fr 1 W (_*0)
  rw[cS];exact Fr.zero
end
def bo (rows:LR9) (n:Nat) (R:LR9) (ps:List Nat):Prop:=R.9=ps.9/\(∀xs∈R,xs.9=n)/\EI rows.9 n (bE rows) ps.9 (λj=>ps.getD j 0) (bE R)
structure Y7 (rows:LR9) (n w:Nat) (R:LR9) (ps:List Nat) (d:Int) (ls:List (List Int)):Prop where
 rr:bo rows n R ps
 d0:d≠0
 len:ls.9=ps.9
 wide:∀zs∈ls,zs.9=n
 val:∀i c,fh ls i c=(d:Rat)*bE R i c
 dsz:d.natAbs<=2^(min rows.9 n*(w+4))
 zsz:∀zs∈ls,∀z∈zs,z.natAbs<=2^(min rows.9 n*(w+4))
 tp:∀xs∈R,∀x∈xs,Tp d.natAbs (2^(min rows.9 n*(w+4))) x
 km:ps.9<=rows.9
theorem EI.congrR {a R R2:Nat->Nat->Rat} (h:EI m n a k p R) (hr:∀i,i < k->∀c,R2 i c=R i c):EI m n a k p R2 :=
 #[h.inc,h.low,λi hi j hj=>by rw[hr i hi];exact h.unit i hi j hj,λi hi c hc=>by rw[hr i hi];exact h.lead i hi c hc,λi hi=>(h.span i hi).rows hr,λi hi=>(h.back i hi).congr λc=>(hr i hi c).symm]
theorem EI.other (h:EI m n a k p R) (s1:∀i,i < m->eo m' a' (a i)) (s2:∀i,i < m'->eo m a (a' i)):EI m' n a' k p R :=
 #[h.inc,h.low,h.unit,h.lead,λi hi=>eo.trans h.span (s2 i hi),λi hi=>eo.trans s1 (h.back i hi)]
theorem zi (h:W<=2^w):(16*W)^r<=2^(r*(w+4)):=by
 calc (16*W)^r<=(2^(w+4))^r:=jK (by rw[aV];lia) _
  _=2^(r*(w+4)):=by rw[<- uj,b7]
theorem EE.done (h:EE (rows.map iX) n n ls ps d) (hw:∀xs∈rows,xs.9=n) (F:EG rows n w) :
  ∃R,Y7 rows n w R ps d (ls.take ps.9):=by
 obtain W|hW|W2|ent:=F.ent;obtain _|_|_|_|_|_|_|_|r15|_:=F;have hl:=h.len;have d0:=h.d0;have d0':(d:Rat)≠0:=λz=>d0 (oo z)
 have km:=h.el.km;have hm:(rows.map iX).9=rows.9:=af ..;obtain s1|s2:=h.sz (r:=min rows.9 n) hW ent (ah _) (by rw[hm];exact ah _) r15;have s2':∀zs∈ls,∀z∈zs,z.natAbs<=2^(min rows.9 n*(w+4)):=λzs hz z hz'=>ag (s2 zs hz z hz') (zi W2)
 have er:∀i c,bE ((ls.take ps.9).map λzs=>zs.map λ(z:Int)=>(z:Rat) / (d:Rat)) i c=fh (ls.take ps.9) i c / (d:Rat):=λi c=>by
  unfold bE fh;rw[aa (l:=List.map _ _),aA,aa (l:=List.take _ _)];cases e:(ls.take ps.9)[i]? with
  | none=>show (0:Rat)=((0:Int):Rat) / _;grind
  | some zs =>
   show (zs.map λ(z:Int)=>(z:Rat) / (d:Rat)).getD c 0=((zs.getD c 0:Int):Rat) / (d:Rat)
   rw[aa,aa,aA];cases e2:zs[c]? with
   | none=>show (0:Rat)=((0:Int):Rat) / _;grind
   | some z=>rfl
 have et:∀i,i < ps.9->∀c,fh (ls.take ps.9) i c=fh ls i c:=λi hi c=>by
  unfold fh;rw[aa (l:=List.take _ _),ow hi,<- aa]
 have RR:=(h.el.done λi hi c hc=>xA (n:=n) (λzs hz=>by
  obtain xs|hx|rfl:=aB.mp hz;rw[qY];exact hw xs hx) hc).congrR (R2:=bE ((ls.take ps.9).map λzs=>zs.map λ(z:Int)=>(z:Rat) / (d:Rat))) λi hi c=>by rw[er,et i hi]
 rw[hm] at RR;refine #[(ls.take ps.9).map λzs=>zs.map λ(z:Int)=>(z:Rat) / (d:Rat),#[by rw[af,bP];lia,λxs hx=>?_,RR.other Ap Aq],d0,by rw[bP];lia,λzs hz=>h.wide zs (cw hz),λi c=>?_,ag s1 (zi W2),λzs hz=>s2' zs (cw hz),λxs hx x hx'=>?_,()]
 ·obtain zs|hz|rfl:=aB.mp hx;rw[af];exact h.wide zs (cw hz)
 ·rw[er];grind
 ·obtain zs|hz|rfl:=aB.mp hx;obtain z|hz'|rfl:=aB.mp hx';have b:=s2' zs (cw hz) z hz';rcases tV d with e | e
  ·refine #[z,?_,b];have:((d.natAbs:Nat):Rat)=(d:Rat):=by rw[<- aL,<- e]
   rw[this];grind
  ·refine #[-z,?_,by rw[jR];exact b];have:((d.natAbs:Nat):Rat)=-(d:Rat):=by rw[<- aL,<- cL];congr 1;lia
   rw[this,cL];grind
theorem QJ (hl:R.9=R'.9) (w1:∀xs∈R,xs.9=n) (w2:∀xs∈R',xs.9=n) (h:∀i,i < R.9->∀c,bE R i c=bE R' i c):R=R':=by
 apply dI hl;intro i h1 h2;apply dI (by rw[w1 _ (aQ h1),w2 _ (aQ h2)]);intro c h3 h4;have:=h i h1 c;unfold bE at this;rw[aa (l:=R),aa (l:=R'),ae h1,ae h2] at this;have this:(R[i]).getD c 0=(R'[i]).getD c 0:=this;rw[aa,aa,ae h3,ae h4] at this;exact this
theorem bo.uniq (h:bo rows n R ps) (h':bo rows' n R' ps') (s1:∀i,i < rows.9->eo rows'.9 (bE rows') (bE rows i)) (s2:∀i,i < rows'.9->eo rows.9 (bE rows) (bE rows' i)):R=R'/\ps=ps':=by
 obtain l1|w1|r1:=h;obtain l2|w2|r2:=h';obtain ek|ep|eR:=r1.uniq r2 s1 s2;refine #[QJ () w1 w2 λi hi c=>eR i () c,?_];apply dI ek;intro j h1 h2;have:=ep j h1;rw[aa,aa,ae h1,ae h2] at this;exact this
theorem bo.same (h:bo rows n R ps) (h':bo rows n R' ps'):R=R'/\ps=ps':=h.uniq h' (λ_ hi=>eo.row hi) (λ_ hi=>eo.row hi)
open PySem PySem.Spec PyProof.Rows
def Nd (l:Addr) (H:Hp) (zs:List Int) (v:V):Prop:=∃q,v=V.ref q/\q≠l/\H q=some (.lst (zs.map V.int))
def vQ (l:Addr) (H:Hp) (p:Addr) (ls:List (List Int)):Prop:=p≠l/\∃xs,H p=some (.lst xs)/\jp (Nd l H) ls xs
theorem Nd.same (h:Nd l H zs v) (e:aH H H'):Nd l H' zs v:=by obtain q|a|n|b:=h;exact #[q,a,n,e _ _ b]
theorem Nd.upd {l:Addr} {H:Hp} {zs:List Int} {v:V} {o:HO} (h:Nd l H zs v):Nd l (upd H l o) zs v:=by obtain q|a|n|b:=h;exact #[q,a,n,by rw[bG n];exact b]
theorem vQ.upd {l:Addr} {H:Hp} {p:Addr} {ls:List (List Int)} {o:HO} (h:vQ l H p ls):vQ l (upd H l o) p ls:=by obtain n|xs|a|b:=h;exact #[n,xs,by rw[bG n];exact a,ca (λ_ _ z=>z.upd) b]
theorem ne_old {H:Hp} (h:H l≠none) (n:H r=none):r≠l:=λz=>h (by rw[<- z];exact n)
theorem ko {α β:Type} {F:α->β->Prop}:∀{l1:List α} {l2:List β} (_:jp F l1 l2) (i:Nat) {x:α} {y:β},F x y->jp F (l1.set i x) (l2.set i y)
 | _,_,.nil,_,_,_,_=>.nil
 | _,_,.cons _ r,0,_,_,h=>.cons h r
 | _,_,.cons a r,i+1,_,_,h=>.cons a (ko r i h)
theorem O6 (h:ls[i]?=some zs):fh ls i c=((zs.getD c 0:Int):Rat):=by
 unfold fh;rw[aa (l:=ls),h];rfl
theorem YK:((z:Int):Rat)≠0↔z≠0:=#[λh e=>h (by rw[e];rfl),λh e=>h (oo e)]
theorem AO {zs:List Int} (h:c < zs.9):LZ (zs.map V.int) (c:Int)=some (V.int (zs.getD c 0)):=eG (by rw[aA,aa,ae h];rfl)
inductive DW (vs:List V) (H:Hp) (Q:VK) (E9:XK):Prop
 | mk (l p:Addr) (ls:List (List Int)) (b c:Nat):vs=[.ref p,.int b,.int c]->vQ l H p ls->ls.9<=1000->b<=1000->(∀zs∈ls,c < zs.9)->(∀t:Nat,b<=t->t < ls.9->fh ls t c≠0->Q (.int t) H)->((∀t,b<=t->t < ls.9->fh ls t c=0)->Q .non H)->DW  vs H Q E9
inductive zO (vs:List V) (H:Hp) (Q:VK) (E9:XK):Prop
 | mk (l p:Addr) (ls:List (List Int)) (t k:Nat):vs=[.ref p,.int t,.int k]->H l≠none->vQ l H p ls->ls.9<=1000->t < ls.9->k < ls.9->(∀r H',H r=none->aH H H'->vQ l H' r (rN ls k t)->Q (.ref r) H')->zO  vs H Q E9
inductive DX (vs:List V) (H:Hp) (Q:VK) (E9:XK):Prop
 | mk (l p:Addr) (ls:List (List Int)) (k c n:Nat) (b:Int):vs=[.ref p,.int k,.int c,.int b]->H l≠none->vQ l H p ls->ls.9<=1000->k < ls.9->(∀zs∈ls,zs.9=n)->n<=1000->c < n->b≠0->Sz 8999000 b->(∀zs∈ls,∀z∈zs,Sz 8999000 z)->(∀r H',H r=none->aH H H'->vQ l H' r (J6 ls k c b)->Q (.ref r) H')->DX  vs H Q E9
theorem P6 (K:FG9) {X:Cx} {a b:Expr} {ta:TA} {p pos tpos:Pos} {elts:List Expr} {kk:Nat} (hg:Gl X "zip") (hm:X.mg "zip"=none) (ha:PA X [a,b] ta) (hK:X.K=K:=by rfl) (hs:r8 [a,b] X.env=[(false,eval a X.env),(false,eval b X.env)]:=by rfl) (hs2:r8 [b] X.env=[(false,eval b X.env)]:=by rfl) :
  PI X (.Tuple elts kk tpos) (.Call (.Name "zip" p) [a,b] [] pos) (V7 K ta):=by subst hK;exact sX hg hm ha hs hs2
def dB (ps:List Nat):List V:=ps.map λ(j:Nat)=>V.int (j:Int)
inductive DH (K:FG9) (vs:List V) (H:Hp) (Q:VK) (E9:XK):Prop
 | mk (p:Addr) (n w:Nat) (H0:Hp) (rows:LR9):vs=[.ref p,.int n]->be K H0 H p rows->rows.9<=100->n<=100->(∀xs∈rows,xs.9=n)->EG rows n w->(∀t lp qp R ps d ls H',H' t=some (.tup [.ref lp,.ref qp])->H' qp=some (.lst (dB ps))->vQ qp H' lp ls->aH H H'->Y7 rows n w R ps d ls->Q (.ref t) H')->DH K vs H Q E9
inductive zN (K:FG9) (vs:List V) (H:Hp) (Q:VK) (E9:XK):Prop
 | mk (p:Addr) (n w:Nat) (H0:Hp) (rows:LR9):vs=[.ref p,.int n]->be K H0 H p rows->rows.9<=100->n<=100->(∀xs∈rows,xs.9=n)->EG rows n w->(∀r R ps M H',H r=none->aH H H'->be K H H' r R->bo rows n R ps->ps.9<=rows.9->0 < M->M<=2^(min rows.9 n*(w+4))->(∀xs∈R,∀x∈xs,Tp M (2^(min rows.9 n*(w+4))) x)->Q (.ref r) H')->zN K vs H Q E9
def vJ (rows:LR9) (i:Nat):Rat:=((jk ((rows.getD i []).map nm):Int):Rat)
theorem AJ:vJ rows i≠0:=λz=>by
 have:=rC (xs:=rows.getD i []);have:=oo z
 lia
structure Cn (rows:LR9) (n P:Nat) (rs:LR9) (ps:List Nat):Prop where
 len:rs.9=rows.9
 wide:∀xs∈rs,xs.9=n
 ex:∃pm l d,yE (fh (rows.map iX)) rows.9 ps.9 pm (λj=>ps.getD j 0) l d/\mQ (fh (rows.map iX)) rows.9 ps.9 P (λj=>ps.getD j 0) l d/\∀i,i < rows.9->∀c,bE rs i c=l i c / (d*if i < ps.9 then 1 else vJ rows (pm i))
section
variable {rows rs rs':LR9} {n P w a:Nat} {ps:List Nat}
theorem Qm {k i j:Nat} (h:d≠0):d*(if i < k then 1 else vJ rows j)≠0:=by
 have:=AJ (rows:=rows) (i:=j)
 split <;> grind
theorem Cn.start (hw:∀xs∈rows,xs.9=n):Cn rows n 0 rows []:=#[rfl,hw,λi=>i,fh (rows.map iX),1,yE.start λ_ _=>rfl,mQ.start,λi hi c=>by
 rw[AQ hi,if_neg (by show ¬i < 0;lia)];have:=AJ (rows:=rows) (i:=i);show bE rows i c=vJ rows i*bE rows i c / (1*vJ rows i)
 grind]
theorem Cn.skip (h:Cn rows n P rs ps) (hz:∀i,ps.9<=i->i < rs.9->bE rs i P=0):Cn rows n (P+1) rs ps:=by
 obtain len|wide|pm|l|d|B|E|v:=h;refine #[len,wide,pm,l,d,B,E.skip λi h1 h2=>?_,v];have:=v i h2 P;rw[hz i h1 ()] at this;have ne:=Qm (rows:=rows) (i:=i) (j:=pm i) (k:=ps.9) B.d0;generalize d*(if i < ps.9 then 1 else vJ rows (pm i))=D at this ne;grind
theorem Cn.km (h:Cn rows n P rs ps):ps.9<=rows.9/\ps.9<=P:=by obtain _|_|_|_|_|_|E|_:=h;exact #[E.km,E.kP]
theorem Cn.step (h:Cn rows n P rs ps) (ht:ps.9<=t) (ht2:t < rs.9) (hne:bE rs t P≠0) (l':rs'.9=rows.9) (w':∀xs∈rs',xs.9=n)
  (hv:∀i,i < rows.9->∀c,bE rs' i c=if i=ps.9 then 1 / bE rs t P*bE rs t c else bE rs (lY ps.9 t i) c - bE rs (lY ps.9 t i) P*(1 / bE rs t P*bE rs t c)):Cn rows n (P+1) rs' (ps++[P]):=by
 obtain len|wide|pm|l|d|B|E|v:=h;have hk:ps.9 < rows.9:=()
 have B1:=B.swap ht ();have E1:=E.swap ht ();have d0:=B.d0
 have v1:∀i,i < rows.9->∀c,bE rs (lY ps.9 t i) c=l (lY ps.9 t i) c / (d*if i < ps.9 then 1 else vJ rows (pm (lY ps.9 t i))):=λi hi c=>by
  rw[v _ (wB hk () hi) c];by_cases z:i < ps.9
  ·rw[wZ ht z,if_pos z]
  ·rw[if_neg z,if_neg (by have:=xG ht (show ps.9<=i by lia);lia)]
 have sk:lY ps.9 t ps.9=t:=by unfold lY;rw[if_pos rfl]
 have vt:∀c,bE rs t c=l (lY ps.9 t ps.9) c / (d*vJ rows (pm (lY ps.9 t ps.9))):=λc=>by
  have:=v1 ps.9 hk c;rw[if_neg (),sk] at this;rw[sk];exact this
 have bt:=AJ (rows:=rows) (i:=pm (lY ps.9 t ps.9));have h1:l (lY ps.9 t ps.9) P≠0:=λz=>hne (by rw[vt P,z];grind)
 have B2:=B1.step (c0:=P) hk h1;have lp:(ps++[P]).9=ps.9+1:=by rw[ai];rfl
 have hp:∀j,j < ps.9+1->(ps++[P]).getD j 0=if j=ps.9 then P else ps.getD j 0:=λj hj=>getD_snoc hj
 refine #[l',w',λi=>pm (lY ps.9 t i),_,_,by rw[lp];exact B2.congr (l2:=λi c=>if i=ps.9 then l (lY ps.9 t ps.9) c else (l (lY ps.9 t ps.9) P*l (lY ps.9 t i) c - l (lY ps.9 t i) P*l (lY ps.9 t ps.9) c) / d) hp (λ_ _ _=>rfl),?_,λi hi c=>?_]
 ·rw[lp];refine mQ.congr (E1.step (d':=l (lY ps.9 t ps.9) P) (l':=λi c=>if i=ps.9 then l (lY ps.9 t ps.9) c else (l (lY ps.9 t ps.9) P*l (lY ps.9 t i) c - l (lY ps.9 t i) P*l (lY ps.9 t ps.9) c) / d) hk h1 B2.unit λi hi=>?_) hp (λ_ _ _=>rfl);by_cases e:i=ps.9
  ·refine #[1,0,(),λ_=>rfl,λc=>?_];rw[if_pos e,e];grind
  ·refine #[l (lY ps.9 t ps.9) P / d,-(l (lY ps.9 t i) P) / d,?_,λz=>absurd z e,λc=>?_]
   ·intro z;apply h1;grind
   ·rw[if_neg e];grind
 ·rw[hv i hi c,lp,vt c,vt P];by_cases e:i=ps.9
  ·rw[if_pos e,if_pos e,if_pos ()];grind
  ·rw[if_neg e,if_neg e,v1 i hi c,v1 i hi P];have ne:=Qm (rows:=rows) (i:=i) (j:=pm (lY ps.9 t i)) (k:=ps.9) d0;by_cases z:i < ps.9
   ·rw[if_pos z,if_pos ()];grind
   ·have bi:=AJ (rows:=rows) (i:=pm (lY ps.9 t i));rw[if_neg z,if_neg ()];grind
theorem Cn.done (h:Cn rows n n rs ps) (hw:∀xs∈rows,xs.9=n):bo rows n (rs.take ps.9) ps:=by
 obtain len|wide|pm|l|d|B|E|v:=h;have km:=E.km;refine #[by rw[bP];lia,λxs hx=>wide xs (cw hx),EI.other ((E.done λi hi c hc=>?_).congrR λi hi c=>?_) Ap Aq]
 ·exact xA (n:=n) (λzs hz=>by
   obtain xs|hx|rfl:=aB.mp hz;rw[qY];exact hw xs hx) hc
 ·have e:bE (rs.take ps.9) i c=bE rs i c:=by
   unfold bE;rw[aa (l:=List.take _ _),ow hi,<- aa]
  rw[e,v i () c,if_pos hi,ui]
def T1 (rows:LR9) (n w a:Nat):Prop:=∃M W:Nat,0 < M/\M<=2^a/\1<=W/\W<=2^w/\(∀xs∈rows,∀x∈xs,Tp M W x)/\min rows.9 n<=15/\2*(min rows.9 n*(w+4)+a)<=3990000
theorem T1.ent (F:T1 rows n w a):∃W:Nat,1<=W/\W<=2^w/\∀i,i < rows.9->∀c,Fr 1 W (fh (rows.map iX) i c):=by
 obtain M|W|h0|h1|hW|h2|h3|_:=F;refine #[W,hW,h2,λi hi c=>?_];have hx:=getD_in (e:=[]) hi;rw[AQ hi];unfold bE;generalize rows.getD i []=xs at hx ⊢;by_cases hc:c < xs.9
 ·have t:=h3 xs hx _ (getD_in (e:=0) hc);obtain s|e|b:=yG t h0 (rC (xs:=xs)) (rD (aB.mpr #[_,getD_in (e:=0) hc,rfl])) (AK h0 (h3 xs hx));rw[cD,e];exact Fr.int b
 ·rw[aa,aE ()];show Fr 1 W (_*0)
  rw[cS];exact Fr.zero
theorem T1.bot (F:T1 rows n w a) (hi:i < rows.9):∃b:Nat,0 < b/\b<=2^a/\vJ rows i=(b:Rat):=by
 obtain M|W|h0|h1|hW|h2|h3|_:=F;have hx:=getD_in (e:=[]) hi;have p:=rC (xs:=rows.getD i []);have dv:=AK h0 (h3 _ hx);refine #[(jk ((rows.getD i []).map nm)).natAbs,(),ag (iC h0 ?_) h1,?_]
 ·have:=fO.mpr dv;rwa [bM] at this
 ·unfold vJ;rw[<- aL];congr 1
  lia
theorem UX {z y:Int} (hl:l=(z:Rat)) (hD:D=(y:Rat)) (h0:D≠0) (hz:z.natAbs<=W):Tp y.natAbs W (l / D):=by
 rcases tV y with e | e
 ·refine #[z,?_,hz];have:((y.natAbs:Nat):Rat)=D:=by rw[<- aL,<- e,hD]
  rw[this,hl];grind
 ·refine #[-z,?_,by rw[jR];exact hz];have:((y.natAbs:Nat):Rat)=-D:=by rw[<- aL,hD,<- cL];congr 1;lia
  rw[this,hl,cL];grind
theorem Cn.sz (h:Cn rows n P rs ps) (F:T1 rows n w a) (hP:P<=n) (hi:i < rows.9):∃D:Nat,0 < D/\D<=2^(min rows.9 n*(w+4)+a)/\∀c,Tp D (2^(min rows.9 n*(w+4))) (bE rs i c):=by
 obtain len|wide|pm|l|d|B|E|v:=h;obtain W|hW|W2|ent:=F.ent;obtain _|_|_|_|_|_|_|r15|_:=id F;have kP:=E.kP;have km:=B.km;have mono:∀{s t:Nat},s<=t->(16*W)^s<=(16*W)^t:=λhs=>aj (bC () hW) hs
 obtain y|ey:=tJ (B.dfr (W:=W) (N:=16) () ent);have hy:=B.dfr (W:=W) (N:=16) () ent;rw[ey] at hy;have yb:y.natAbs<=2^(min rows.9 n*(w+4)):=ag (tI hy) (ag (mono (show ps.9<=min rows.9 n by lia)) (zi W2));have y0:y≠0:=λz=>B.d0 (by rw[ey,z];rfl)
 have lb:∀c,∃z:Int,l i c=(z:Rat)/\z.natAbs<=2^(min rows.9 n*(w+4)):=λc=>by
  by_cases hk:i < ps.9
  ·have f:Fr 1 ((16*W)^ps.9) (l i c):=by
    rw[B.old hk]
    have:=zU (W:=W) (N:=16) (rs:=lQ pm ps.9) (vs:=JZ (λj r=>fh (rows.map iX) r (ps.getD j 0)) i ps.9++(λr=>fh (rows.map iX) r c) :: jz (λj r=>fh (rows.map iX) r (ps.getD j 0)) i) (by
     have:=congrArg FS (cw_split (v:=λj r=>fh (rows.map iX) r (ps.getD j 0)) hk);rw[ai,a9,cw_len] at this;rw[ai,a9]
     lia) (by
     intro v hv r hr
     have hr':∀c,Fr 1 W (fh (rows.map iX) r c):=λc=>by
      obtain t|ht|rfl:=mE hr;exact ent _ (B.rng t ()) c
     rcases av.mp hv with hv | hv
     ·obtain t|_|rfl:=Cf hv;exact hr' _
     ·rcases aJ.mp hv with rfl | hv
      ·exact hr' _
      ·obtain t|_|rfl:=cw_in hv;exact hr' _)
    rwa [qO] at this
   obtain z|ez:=tJ f;rw[ez] at f;exact #[z,ez,ag (tI f) (ag (mono ()) (zi W2))]
  ·by_cases hn:ps.9 < n
   ·have f:=B.fr (W:=W) (N:=16) () hW ent (i:=i) (c:=c) hi;obtain z|ez:=tJ f;rw[ez] at f;exact #[z,ez,ag (tI f) (ag (mono ()) (zi W2))]
   ·refine #[0,?_,a7 _];by_cases hc:c < n
    ·rw[E.zero i () hi c ()];rfl
    ·have:=v i hi c;rw[pJ wide ()] at this;have ne:=Qm (rows:=rows) (i:=i) (j:=pm i) (k:=ps.9) B.d0;generalize d*(if i < ps.9 then 1 else vJ rows (pm i))=D at this ne;show l i c=0
     grind
 obtain ⟨b,b0,b1,eb⟩:∃b:Nat,0 < b/\b<=2^a/\(if i < ps.9 then 1 else vJ rows (pm i))=(b:Rat):=by
  by_cases hk:i < ps.9
  ·exact #[1,(),cm,by rw[if_pos hk];rfl]
  ·obtain b|x1|x2|x3:=F.bot (B.rng i hi);exact #[b,x1,x2,by rw[if_neg hk,x3]]
 have eD:d*(b:Rat)=((y*b:Int):Rat):=by rw[aW,ey,aL]
 refine #[(y*b).natAbs,?_,?_,λc=>?_]
 ·rw[dc,bM];exact bC () b0
 ·rw[dc,bM,aV];exact aK yb b1
 ·obtain z|ez|bz:=lb c;rw[v i hi c,eb];refine UX ez eD (λq=>?_) bz;rw[eD] at q;have:=oo q;rcases Int.mul_eq_zero.mp this with q | q
  ·exact y0 q
  ·lia
end
theorem mh (h:Tp M W x) (h0:0 < M) (h1:M<=2^3995000) (h2:W<=2^3995000):jX x:=by
 refine #[?_,?_]
 ·obtain s|e|b:=yG h h0 (js x) (Ni _) (wY h);have e2:(((nm x).1:Int):Rat)=(s:Rat):=by rw[<- e];exact oC x
  rw[dW.mp e2];exact bx (ag b h2) (eQ () ())
 ·have:=iC h0 (pN.mp (wY h));show ((x.den:Nat):Int).natAbs < _
  rw[bM];exact bx (ag this h1) (eQ () ())
theorem Tp.mul (h:Tp M W x) (h':Tp M' W' y):Tp (M*M') (W*W') (x*y):=by
 obtain z|e|b:=h;obtain z'|e'|b':=h';refine #[z*z',?_,by rw[dc];exact aK b b'];rw[aW,<- e,<- e',fE];grind
theorem RX (h:jX x) (h0:x≠0):jX (1 / x):=by
 have n0:x.num≠0:=λz=>h0 (Rat.num_eq_zero.mp z)
 have e:=oC x;have e1:(1 / x)*(x.num:Rat)=(x.den:Rat):=by rw[e];grind
 have t:Tp x.num.natAbs x.den (1 / x):=by
  rcases tV x.num with q | q
  ·refine #[x.den,?_,by simp];have:((x.num.natAbs:Nat):Rat)=(x.num:Rat):=by rw[<- aL,<- q]
   rw[this,e1,aL]
  ·refine #[-(x.den:Int),?_,by simp];have:((x.num.natAbs:Nat):Rat)=-(x.num:Rat):=by rw[<- aL,<- cL];congr 1;lia
   rw[this,cL,aL,<- e1];grind
 obtain h1|h2:=h;have h1:x.num.natAbs < 2^4000000:=h1;have h2:((x.den:Nat):Int).natAbs < 2^4000000:=h2;rw[bM] at h2;refine #[?_,?_]
 ·obtain s|e|b:=yG t () (js (1 / x)) (Ni _) (wY t);have e2:(((nm (1 / x)).1:Int):Rat)=(s:Rat):=by rw[<- e];exact oC (1 / x)
  rw[dW.mp e2];exact bx b h2
 ·have:=iC (show 0 < x.num.natAbs by lia) (pN.mp (wY t));show (((1 / x).den:Nat):Int).natAbs < _
  rw[bM];exact bx this h1
inductive A2 (K:FG9) (vs:List V) (H:Hp) (Q:VK) (E9:XK):Prop
 | mk (u v:V) (x y:Rat):vs=[u,v]->bX K H x u->bX K H y v->jX x->jX y->y≠0->(∀r H',aH H H'->bX K H' (x / y) (.ref r)->Q (.ref r) H')->A2 K vs H Q E9
theorem Je {K:FG9} (h:A2 K vs H Q E):Sa K vs H Q E:=by
 obtain u|v|x|y|rfl|⟨p,rfl,hp⟩|⟨q,rfl,hq⟩|⟨s1,s2⟩|⟨s3,s4⟩|y0|k:=h;have n0:(nm y).1≠0:=λz=>y0 (Rat.num_eq_zero.mp z)
 have px:=js x;have py:=js y;have e1:=tx x;have e2:=tx y;have dx:(((nm x).2:Int):Rat)≠0:=λz=>by have:=oo z;lia
 have dy:(((nm y).2:Int):Rat)≠0:=λz=>by have:=oo z;lia
 refine #[p,q,_,_,_,_,rfl,hp,hq,px,py,n0,s1,s2,s3,s4,λr H' s g=>k r H' s (bX.mk g ?_)];by_cases hc:(nm y).1 < 0
 ·rw[if_pos hc,if_pos hc];refine oT (by have:=xE px hc;lia) ?_;rw[Cq,Cq,aW,aW,e1,e2];show x / y*(((0:Int):Rat) - _)=((0:Int):Rat) - _
  grind
 ·rw[if_neg hc,if_neg hc];refine oT (j9 px ()) ?_;rw[aW,aW,e1,e2];grind
inductive yN (K:FG9) (vs:List V) (H:Hp) (Q:VK) (E9:XK):Prop
 | mk (p q:Addr) (xs ys:List Rat):vs=[.ref p,.ref q]->cC K H p xs->cC K H q ys->ys.9=xs.9->xs.9<=1000->(∀x∈xs,jX x)->(∀y∈ys,jX y)->(∀r H',H r=none->aH H H'->cC K H' r (xL (λx y=>x - y) xs ys)->Q (.ref r) H')->yN K vs H Q E9
theorem Wa {xs ys:List Rat} (h:xs.9=ys.9):(xL (λx y=>x - y) xs ys).getD c 0=xs.getD c 0 - ys.getD c 0:=by
 rw[aa,aa,aa,b9];by_cases hc:c < xs.9
 ·rw[ae hc,ae (show c < ys.9 by lia)];rfl
 ·rw[aE (),aE ()];show (0:Rat)=0 - 0
  grind
theorem QD {xs:List Rat}:(xs.map λy=>q*y).getD c 0=q*xs.getD c 0:=by
 rw[aa,aa,aA];cases xs[c]? with
 | none=>show (0:Rat)=q*0;grind
 | some x=>rfl
inductive IF (K:FG9) (vs:List V) (H:Hp) (Q:VK) (E9:XK):Prop
 | mk (p:Addr) (n:Nat) (H0:Hp) (R:LR9) (ps:List Nat):vs=[.ref p]->be K H0 H p R->R.9<=100->n<=100->(∃rows,bo rows n R ps)->(∀r H',H r=none->aH H H'->H' r=some (.lst (dB ps))->Q (.ref r) H')->IF K vs H Q E9
theorem KL {xs ys:List Rat} (h:ys.9=xs.9):xL (λx y=>x - y) xs ys=(on xs.9).map λi=>xs.getD i 0 - ys.getD i 0:=by
 apply dM;intro i;rw[b9,aA];by_cases hi:i < xs.9
 ·rw[cZ hi,ae hi,ae (show i < ys.9 by lia)];simp [aa,ae hi,ae (show i < ys.9 by lia)]
 ·rw[aE (show (on xs.9).9<=i by simp;lia),aE (show xs.9<=i by lia)];rfl
theorem zA {K:FG9} {rows:LR9} (pr:jp (c5 K H0 H) rows vs) (s:aH H H') (n:H q=none) (g:H' q=some (.lst vs)):be K H0 H' q rows :=
 #[vs,g,ca (λ_ _ z=>z.same s) pr,λz=>by
  obtain _|_|q'|e|_|_|g'|_:=dF pr z;cases e;rw[n] at g';cases g']
theorem RW:jX 1:=mh (M:=1) (W:=1) #[1,by simp,()] () cm cm
theorem bo.le (h:bo rows n R ps):ps.9<=n:=by
 obtain _|_|rr:=h;rcases cg n ps.9 with z | z
 ·have inc:∀j,j < ps.9->j<=ps.getD j 0:=by
   intro j
   induction j with
   | zero=>intro _;exact a7 _
   | succ j ih =>
    intro hj;have:=ih ();have:=rr.inc j (j+1) () hj
    lia
  have h1:=inc (ps.9 - 1) ();have h2:=rr.low (ps.9 - 1) ()
  lia
 ·exact z
theorem Tp.zero:Tp M W 0:=#[0,by simp,by simp]
theorem Tp.add (h:Tp M W x) (h':Tp M W' y):Tp M (W+W') (x+y):=by
 obtain z|e|b:=h;obtain z'|e'|b':=h';refine #[z+z',?_,ag (Int.natAbs_add_le _ _) (Nat.add_le_add b b')];rw[Cr,<- e,<- e'];grind
theorem Tp.sum {M W:Nat} {f:Nat->Rat}:∀{k:Nat},(∀j,j < k->Tp M W (f j))->Tp M (k*W) (bw k f)
 | 0,_=>Tp.zero
 | k+1,h=>by
  have:=(Tp.sum (k:=k) λj hj=>h j ()).add (h k ());exact this.mono (by rw[d7];exact ah _)
theorem kJ {xs:List Rat} (h:∀x∈xs,Tp M W x) (c:Nat):Tp M W (xs.getD c 0):=by
 by_cases hc:c < xs.9
 ·exact h _ (getD_in hc)
 ·rw[aa,aE ()];exact Tp.zero
theorem O9 (h:∀xs∈R,∀x∈xs,Tp M W x) (i c:Nat):Tp M W (bE R i c):=by
 unfold bE;by_cases hi:i < R.9
 ·exact kJ (h _ (getD_in hi)) c
 ·rw[aa (l:=R),aE ()];exact Tp.zero
theorem U2 (hM:0 < M) (h1:M<=2^4300000) (hw:w<=4300000) (tp:∀xs∈rows,∀x∈xs,Tp M (2^w) x) (hr:min rows.9 n<=m) (h15:m<=15) (h89:m*(w+4)<=8900000):EG rows n w :=
 #[M,2^w,hM,h1,cm,ah _,tp,hw,(),ag (ax _ hr) h89]
theorem BB {α β:Type} {F:α->β->Prop}:∀{l1:List α} {l2:List β},jp F l1 l2->jp F l1.reverse l2.reverse
 | _,_,.nil=>.nil
 | _,_,.cons a r=>by rw[yC,yC];exact bR (BB r) (.cons a .nil)
theorem Et {K:FG9} {g:TG} (Pv:Nat->List V->Hp->Prop) (hz:xs.9<=ww) (h0:Pv 0 [] H) (hl:∀i ys H,i<=xs.9->Pv i ys H->bI K H l xs)
  (hs:∀i x ys H p,xs[i]?=some x->ys.9<=i->Pv i ys H->H p=none->tW σ₀ g tf te (.ref p) (upd H p (.tup [.int i,x])) (λy H'=>Pv (i+1) (ys++[y]) H') (λH'=>Pv (i+1) ys H'))
  (hd:∀ys H,ys.9<=xs.9->Pv xs.9 ys H->∀p,H p=none->Q (.ref p) (upd H p (.lst ys))):uh (WE K l) σ₀ g tf te Q H:=by
 refine #[λi m ys H=>m=xs.9 - i/\i<=xs.9/\ys.9<=i/\Pv i ys H,#[xs.9,by simp,a7 _,a7 _,h0],?_];rintro i m ys H ⟨rfl,hi,hy,p⟩;have q1:=hl i ys H hi p;by_cases hlt:i < xs.9
 ·refine .inr #[#[xs,xs[i],q1,by simp [hlt]],(),λy H'=>Pv (i+1) (ys++[y]) H',λH'=>Pv (i+1) ys H',λy H' p'=>#[xs.9 - (i+1),(),rfl,hlt,by rw[ai,aT];lia,p'],λH' p'=>#[xs.9 - (i+1),(),rfl,hlt,(),p'],λx H' y=>?_];obtain r|x'|rfl|hr|rfl|e1:=y;exact hs i x' ys _ r (e1 xs q1) hy p hr
 ·have e:i=xs.9:=()
  subst e;exact .inl #[#[xs,q1,ah _],(),hd ys H hy p]
theorem Ey (hc:X.calm=true):pM X (.builtin "min") (λxs H Q=>∃(p:Addr) (ns:List Int),xs=[.ref p]/\bI X.K H p (ns.map V.int)/\0 < ns.9/\∀M,M∈ns->(∀a,a∈ns->M<=a)->Q (.int M) H):=by
 intro pins s σ H xs us Q I r h;obtain p|ns|rfl|hp|hne|q:=h;obtain u|rfl|ru:=vals1 r;cases ru;obtain its|r2|pl|_:=I.list hp;have hi:=intsAre_of r2;have hl:=pl.isList;obtain xs|e:=hi.allInts.items
 have hns:ns=xs.toList.map (·.1):=by
  rw[<- hi.numsOf,<- nums_intItems,<- e]
 have hsz:0 < xs.7:=by
  have h3:=hne;rw[hns,af,Da] at h3;exact h3
 rw[e] at hl;refine min_intList (I.ok.hd hc) hl hsz λv h' tk hv hk=>?_
 obtain t|rfl:=intItems_at hv;obtain h1|h2:=argBest_lt (numAt xs) (xs.7 - 1);refine #[.int _,H,I.kept hk,#[_,rfl],q _ ?_ λa ha=>?_]
 ·rw[hns,numAt_eq];exact getD_in (by rw[af,Da];lia)
 ·rw[hns] at ha;obtain j|hj|rfl:=mem_getD ha;rw[af,Da] at hj;rw[<- numAt_eq];exact h2 j ()
theorem CG (K:FG9) (hK:X.K=K):yD X (NE .NotIn) (YT K true):=by subst hK;exact Fw
theorem Jz {j:Nat}:YC (.int (j:Int)) (dB ps)=decide (j∈ps):=by
 unfold YC dB;rw[List.any_map,kH,List.any_eq_true,decide_eq_true_iff];constructor
 ·rintro ⟨x,hx,e⟩;have e:((x:Int) == (j:Int))=true:=e;have:(x:Int)=j:=by simpa using e
  have:x=j:=()
  rw[<- this];exact hx
 ·intro h;exact #[j,h,by show ((j:Int) == (j:Int))=true;simp]
theorem Ee:(dB ps).all rB=true:=by
 unfold dB;rw[List.all_map];exact rK.mpr λ_ _=>rfl
theorem ye:(dB ps).9=ps.9:=af ..
def vC (ps:List Nat):List Int:=ps.map λ(j:Nat)=>(j:Int)
theorem zo:dB ps=(vC ps).map V.int:=by unfold dB vC;rw[ik];rfl
theorem paired_ints {K:FG9} {H:Hp}:∀{zs:List Int},jp (λa x=>Jy.R K H x a) zs (zs.map V.int)
 | []=>.nil
 | z :: zs=>.cons rfl paired_ints
theorem Ec {K:FG9} (h:H p=some (.lst (dB ps))):(To Jy).R K H (.ref p) (vC ps):=#[p,dB ps,rfl,bI.of h,by rw[zo];exact paired_ints]
theorem FW {i:Nat} (h:(dB ps)[i]?=some v):∃j,ps[i]?=some j/\v=V.int (j:Int):=by
 unfold dB at h;rw[aA] at h;cases e:ps[i]? with
 | none=>rw[e] at h;cases h
 | some x=>rw[e] at h;exact #[x,rfl,(bY h).symm]
def Ae (xs:List Rat) (i:Nat):List Nat:=(on i).filter λc=>decide (xs.getD c 0≠0)
theorem vU:Ae xs (i+1)=if xs.getD i 0≠0 then Ae xs i++[i] else Ae xs i:=by
 unfold Ae;rw[uv,List.filter_append];by_cases h:xs.getD i 0≠0
 ·rw[if_pos h,Yy (by simpa using h)];rfl
 ·rw[if_neg h,Yz (by simpa using h)];simp
def lG (ps:List Nat) (i:Nat):List Nat:=(on i).filter λc=>decide (c∉ps)
theorem Cc:lG ps (i+1)=if i∉ps then lG ps i++[i] else lG ps i:=by
 unfold lG;rw[uv,List.filter_append];by_cases h:i∉ps
 ·rw[if_pos h,Yy (by simpa using h)];rfl
 ·rw[if_neg h,Yz (by simpa using h)];simp
theorem LH:(lG ps i).9<=i:=by
 unfold lG;exact ag (List.length_filter_le ..) (by rw[bB];exact ah _)
inductive IE (K:FG9) (vs:List V) (H:Hp) (Q:VK) (E9:XK):Prop
 | mk (p:Addr) (xs:List Rat) (j:Nat):vs=[.ref p]->cC K H p xs->xs.9<=1000->j < xs.9->xs.getD j 0≠0->(∀c,c < j->xs.getD c 0=0)->(∀H',aH H H'->Q (.int (j:Int)) H')->IE K vs H Q E9
inductive II (K:FG9) (vs:List V) (H:Hp) (Q:VK) (E9:XK):Prop
 | mk (p:Addr) (n:Nat) (H0:Hp) (R:LR9) (ps:List Nat):vs=[.ref p,.int n]->be K H0 H p R->R.9<=100->n<=100->(∃rows,bo rows n R ps)->(∀r H',H r=none->aH H H'->H' r=some (.lst (dB (lG ps n)))->Q (.ref r) H')->II K vs H Q E9
def MJ (R:LR9) (ps:List Nat) (n at_ j:Nat):List Rat:=(on n).map λc=>if c=at_ then 1 else bw j λi=>if ps.getD i 0=c then -(bE R i at_) else 0
def MI (R:LR9) (ps:List Nat) (n at_:Nat):List Rat:=MJ R ps n at_ ps.9
def aR (R:LR9) (ps:List Nat) (n:Nat):LR9:=(lG ps n).map (MI R ps n)
theorem qS:(MJ R ps n a j).9=n:=by unfold MJ;rw[af,bB]
theorem Uy (h:c < n):(MJ R ps n a j).getD c 0=if c=a then 1 else bw j λi=>if ps.getD i 0=c then -(bE R i a) else 0:=by
 unfold MJ;rw[aa,aA,cZ h];rfl
theorem Tg:MJ R ps n a 0=UU n a:=by
 unfold MJ UU;refine dq λc _=>?_
 by_cases e:c=a
 ·subst e;simp
 ·rw[if_neg e];show (0:Rat)=_
  have:¬(c:Int)=(a:Int):=()
  simp [this]
theorem Th (RR:bo rows n R ps) (hj:j < ps.9) (ha:a∉ps):(MJ R ps n a j).set (ps.getD j 0) (-(bE R j a))=MJ R ps n a (j+1):=by
 obtain _|_|rr:=RR;have low:=rr.low j hj;have pm:ps.getD j 0∈ps:=getD_in hj;apply dI (by rw[d5,qS,qS]);intro c h1 h2;rw[qS] at h2;have e1:(MJ R ps n a j)[c]'(by rw[qS];exact h2)=if c=a then 1 else bw j λi=>if ps.getD i 0=c then -(bE R i a) else 0:=by simp only[MJ,iD,oX]
 have e2:(MJ R ps n a (j+1))[c]'(by rw[qS];exact h2)=if c=a then 1 else bw (j+1) λi=>if ps.getD i 0=c then -(bE R i a) else 0:=by simp only[MJ,iD,oX]
 rw[List.getElem_set,e2];have es:bw (j+1) (λi=>if ps.getD i 0=c then -(bE R i a) else 0)=bw j (λi=>if ps.getD i 0=c then -(bE R i a) else 0)+if ps.getD j 0=c then -(bE R j a) else 0:=rfl
 by_cases q:ps.getD j 0=c
 ·rw[if_pos q,if_neg (λz=>ha (by rw[<- z,<- q];exact pm)),es,if_pos q,cK λi hi=>?_,Rat.zero_add];rw[if_neg];intro z;have:=rr.inc i j hi hj
  lia
 ·rw[if_neg q,e1];by_cases z:c=a
  ·rw[if_pos z,if_pos z]
  ·rw[if_neg z,if_neg z,es,if_neg q,nH]
theorem FU (hc:c < n) (hp:c∉ps):(MI R ps n a).getD c 0=if c=a then 1 else 0:=by
 unfold MI;rw[Uy hc];by_cases e:c=a
 ·rw[if_pos e,if_pos e]
 ·rw[if_neg e,if_neg e,cK λi hi=>?_];rw[if_neg (λz=>hp (by rw[<- z];exact getD_in hi))]
theorem dD:∀{xs ys:List Rat},xs.9=ys.9->cb xs ys=bw xs.9 λc=>xs.getD c 0*ys.getD c 0:=by
 intro xs ys h
 have key:∀k,k<=xs.9->cb (xs.take k) (ys.take k)=bw k λc=>xs.getD c 0*ys.getD c 0:=by
  intro k
  induction k with
  | zero=>intro _;rfl
  | succ k ih =>
   intro hk;rw[Ep () (),ih ()];rfl
 have:=key xs.9 (ah _);rwa [aM (ah _),aM ()] at this
theorem Lk (RR:bo rows n R ps) (ha:a < n) (hp:a∉ps) {i:Nat} (hr:rows[i]?=some row) (hw:row.9=n):cb row (MI R ps n a)=0:=by
 obtain _|_|rr:=RR;have hi:=(aF.mp hr).1;have ef:∀c,bE rows i c=row.getD c 0:=λc=>by unfold bE;rw[aa (l:=rows),hr];rfl
 have co:=rr.coef (rr.span i hi) a;rw[ef] at co;rw[dD (by unfold MI;rw[qS,hw]),hw]
 have e1:bw n (λc=>row.getD c 0*(MI R ps n a).getD c 0)=bw n (λc=>(if c=a then row.getD a 0 else 0)+bw ps.9 λj=>if ps.getD j 0=c then row.getD (ps.getD j 0) 0*-(bE R j a) else 0):=by
  refine aO λc hc=>?_
  unfold MI;rw[Uy hc];by_cases e:c=a
  ·rw[if_pos e,if_pos e,e,cK λj hj=>?_]
   ·grind
   ·rw[if_neg (λz=>hp (by rw[<- z];exact getD_in hj))]
  ·rw[if_neg e,if_neg e,<- cB,Rat.zero_add];refine aO λj _=>?_
   split
   ·rename_i q;rw[q]
   ·grind
 rw[e1,oZ,eB (i:=a) ha (λj _ ne=>if_neg ne),if_pos rfl,<- eI]
 have e2:bw ps.9 (λj=>bw n λc=>if ps.getD j 0=c then row.getD (ps.getD j 0) 0*-(bE R j a) else 0)=bw ps.9 λj=>-1*(bE rows i (ps.getD j 0)*bE R j a):=by
  refine aO λj hj=>?_
  rw[eB (i:=ps.getD j 0) (rr.low j hj) λc _ ne=>if_neg λz=>ne z.symm,if_pos rfl,ef];grind
 rw[e2,cB,co];grind
theorem Ux (h0:0 < M) (hW:M<=W) (tp:∀xs∈R,∀x∈xs,Tp M W x) (RR:bo rows n R ps):∀x∈MI R ps n a,Tp M W x:=λx hx=>by
 obtain _|_|rr:=RR;obtain c|hc|rfl:=aB.mp hx
 split
 ·exact #[M,by rw[Ry,aL],by simpa using hW]
 ·by_cases hp:∃j,j < ps.9/\ps.getD j 0=c
  ·obtain j|hj|e:=hp;rw[eB hj λi hi ne=>if_neg λz=>?_,if_pos e]
   ·obtain z|ez|b:=O9 tp j a;exact #[-z,by rw[cL,<- ez];grind,by rw[jR];exact b]
   ·rcases cT i j with q | q | q
    ·have:=rr.inc i j q hj;lia
    ·exact ne q
    ·have:=rr.inc j i q hi;lia
  ·rw[cK λj hj=>if_neg λz=>hp #[j,hj,z]];exact Tp.zero
theorem v5:c∈lG ps n↔c < n/\c∉ps:=by
 unfold lG;rw[ja,jP,decide_eq_true_iff]
inductive DQ (K:FG9) (vs:List V) (H:Hp) (Q:VK) (E9:XK):Prop
 | mk (p:Addr) (n a:Nat) (H0:Hp) (R:LR9) (ps:List Nat):vs=[.ref p,.int n,.int a]->be K H0 H p R->R.9<=100->n<=100->(∃rows,bo rows n R ps)->a < n->a∉ps->(∀xs∈R,∀x∈xs,jX x)->(∀r H',H r=none->aH H H'->cC K H' r (MI R ps n a)->Q (.ref r) H')->DQ K vs H Q E9
theorem Pf:jX 0:=mh (M:=1) (W:=1) Tp.zero () cm cm
theorem rj (h:xs∈aR R ps n):∃a,a < n/\a∉ps/\xs=MI R ps n a:=by
 obtain a|ha|rfl:=aB.mp h;obtain h1|h2:=v5.mp ha;exact #[a,h1,h2,rfl]
def Oc:Kind Str where
 R:=λ_ _ x i=>x=.str i
 d:=0
 inj:=λ_ h1 h2=>by rw[h1] at h2;cases h2;rfl
 rc:=λ{X pins σ H s x y v u a b A} I rx ry h1 h2 _=>by
  subst h1 h2;obtain t|rfl:=rx;obtain t'|rfl:=ry;have q:=Zx.str_str (A:=A) (s:=s) a t b t';rwa [iP] at q
 ne:=λ{X pins σ H s x y v u a b A} I rx ry h1 h2 _=>by
  subst h1 h2;obtain t|rfl:=rx;obtain t'|rfl:=ry;have q:=Tk.str_str (A:=A) (s:=s) a t b t';rwa [iP] at q
 eq:=λ{X pins σ H s x y v u a b A} I rx ry h1 h2 _=>by
  subst h1 h2;obtain t|rfl:=rx;obtain t'|rfl:=ry;have q:=Ch.str_str (A:=A) (s:=s) a t b t';rwa [iP] at q
theorem Gj {q:Rat} (h:q.den<=9):q.den∣2520:=by
 have:=q.den_pos;generalize q.den=d at h this;have:d=1\/d=2\/d=3\/d=4\/d=5\/d=6\/d=7\/d=8\/d=9:=()
 rcases this with rfl | rfl | rfl | rfl | rfl | rfl | rfl | rfl | rfl <;> decide
theorem LL (h:Dr 9 q) (hM:2520∣M):Fr M 9 q:=(Fr.own q h.1).dvd (ou (Gj h.2) hM)
def dm (rows:LR9) (due:List Rat):LR9:=xL (λrow d=>row++[d]) rows due
def xJ (R:LR9) (ps:List Nat) (n j:Nat):List Rat:=(on n).map λc=>bw j λi=>if ps.getD i 0=c then bE R i n else 0
def ip (R:LR9) (ps:List Nat) (n:Nat):List Rat:=xJ R ps n ps.9
theorem qU (h:due.9=rows.9):(dm rows due).9=rows.9:=by unfold dm;rw[cu];lia
theorem ym (h:∀xs∈rows,xs.9=n):∀xs∈dm rows due,xs.9=n+1:=λxs hx=>by
 unfold dm at hx;obtain i|hi|rfl:=bu hx;rw[ji,ai,h _ (aQ _)];rfl
theorem UB {i:Nat} (h1:rows[i]?=some row) (h2:due[i]?=some d):(dm rows due)[i]?=some (row++[d]):=by
 unfold dm;rw[b9,h1,h2]
theorem zT (hd:due.9=rows.9) (hw:∀xs∈rows,xs.9=n) (hi:i < rows.9):(∀c,c < n->bE (dm rows due) i c=bE rows i c)/\bE (dm rows due) i n=due.getD i 0:=by
 have e1:=ae hi;have e2:=ae (show i < due.9 by lia);have ej:=UB e1 e2;have wi:=hw _ (aQ hi);refine #[λc hc=>?_,?_]
 ·unfold bE;rw[aa (l:=dm rows due),ej,aa (l:=rows),e1];show (rows[i]++[due[i]]).getD c 0=(rows[i]).getD c 0
  rw[aa,aa,bF ()]
 ·unfold bE;rw[aa (l:=dm rows due),ej,aa (l:=due),e2];show (rows[i]++[due[i]]).getD n 0=due[i]
  rw[aa,bc (),wi,ij];rfl
theorem mi:(xJ R ps n j).9=n:=by unfold xJ;rw[af,bB]
theorem Pq (h:c < n):(xJ R ps n j).getD c 0=bw j λi=>if ps.getD i 0=c then bE R i n else 0:=by
 unfold xJ;rw[aa,aA,cZ h];rfl
theorem Sd:xJ R ps n 0=ce n 0:=by
 unfold xJ;show (on n).map (λ_=>(0:Rat))=_
 rw[kG,bB]
theorem Se (RR:bo J (n+1) R ps) (hj:j < ps.9):(xJ R ps n j).set (ps.getD j 0) (bE R j n)=xJ R ps n (j+1):=by
 obtain _|_|rr:=RR;apply dI (by rw[d5,mi,mi]);intro c h1 h2;rw[mi] at h2;have e1:(xJ R ps n j)[c]'(by rw[mi];exact h2)=bw j λi=>if ps.getD i 0=c then bE R i n else 0:=by simp only[xJ,iD,oX]
 have e2:(xJ R ps n (j+1))[c]'(by rw[mi];exact h2)=bw j (λi=>if ps.getD i 0=c then bE R i n else 0)+if ps.getD j 0=c then bE R j n else 0:=by simp only[xJ,iD,oX];rfl
 rw[List.getElem_set,e2];by_cases q:ps.getD j 0=c
 ·rw[if_pos q,if_pos q,cK λi hi=>?_,Rat.zero_add];rw[if_neg];intro z;have:=rr.inc i j hi hj
  lia
 ·rw[if_neg q,if_neg q,e1,nH]
theorem Sf (hp:c∉ps):(ip R ps n).getD c 0=0:=by
 by_cases hc:c < n
 ·unfold ip;rw[Pq hc,cK λi hi=>?_];rw[if_neg (λz=>hp (by rw[<- z];exact getD_in hi))]
 ·rw[aa,aE (by unfold ip;rw[mi];lia)];rfl
theorem KW (hd:due.9=rows.9) (hw:∀xs∈rows,xs.9=n) (RR:bo (dm rows due) (n+1) R ps) (hn:n∉ps) (hr:rows[i]?=some row):cb row (ip R ps n)=due.getD i 0:=by
 obtain _|_|rr:=RR;have hi:=(aF.mp hr).1;have wr:=hw row (ar hr);have ef:∀c,bE rows i c=row.getD c 0:=λc=>by unfold bE;rw[aa (l:=rows),hr];rfl
 obtain f1|f2:=zT hd hw hi
 have low:∀j,j < ps.9->ps.getD j 0 < n:=λj hj=>by
  have:=rr.low j hj;have:ps.getD j 0≠n:=λz=>hn (by rw[<- z];exact getD_in hj)
  lia
 have co:=rr.coef (rr.span i (by rw[qU hd];exact hi)) n;rw[f2] at co;rw[co,dD (by unfold ip;rw[mi,wr]),wr]
 have e1:bw n (λc=>row.getD c 0*(ip R ps n).getD c 0)=bw n (λc=>bw ps.9 λj=>if ps.getD j 0=c then row.getD (ps.getD j 0) 0*bE R j n else 0):=by
  refine aO λc hc=>?_
  unfold ip;rw[Pq hc,<- cB];refine aO λj _=>?_
  split
  ·rename_i q;rw[q]
  ·grind
 rw[e1,<- eI];refine aO λj hj=>?_
 rw[eB (i:=ps.getD j 0) (low j hj) λc _ ne=>if_neg λz=>ne z.symm,if_pos rfl,f1 _ (low j hj),ef]
theorem IS (hd:due.9=rows.9) (hw:∀xs∈rows,xs.9=n) (RR:bo (dm rows due) (n+1) R ps) (hn:n∈ps):∃w:Nat->Rat,(∀c,c < n->bw rows.9 (λi=>w i*bE rows i c)=0)/\bw rows.9 (λi=>w i*due.getD i 0)=1:=by
 obtain _|_|rr:=RR;obtain j|hj|ej:=bu hn;have ejD:ps.getD j 0=n:=by rw[aa,ae hj];exact ej
 obtain w|hw':=rr.back j hj;rw[qU hd] at hw';refine #[w,λc hc=>?_,?_]
 ·have z:=rr.lead j hj c (by rw[ejD];exact hc);rw[hw' c] at z;rw[<- z];exact aO λi hi=>by rw[(zT hd hw hi).1 c hc]
 ·have u:=rr.unit j hj j hj;rw[if_pos rfl,ejD,hw' n] at u;rw[<- u];exact aO λi hi=>by rw[(zT hd hw hi).2]
theorem U8 (hd:due.9=rows.9) (hw:∀xs∈rows,xs.9=n) (RR:bo (dm rows due) (n+1) R ps) {x:Nat->Rat} (hx:∀i,i < rows.9->bw n (λc=>bE rows i c*x c)=due.getD i 0):n∉ps:=λhn=>by
 obtain w|h1|h2:=IS hd hw RR hn
 have e1:bw rows.9 (λi=>w i*due.getD i 0)=bw rows.9 (λi=>bw n λc=>x c*(w i*bE rows i c)):=aO λi hi=>by
  rw[<- hx i hi,<- cB];exact aO λc _=>by grind
 have e2:bw n (λc=>bw rows.9 λi=>x c*(w i*bE rows i c))=0:=cK λc hc=>by
  rw[cB,h1 c hc];grind
 rw[e1,eI,e2] at h2;exact absurd h2 ()
theorem Xo (h0:0 < M) (tp:∀xs∈R,∀x∈xs,Tp M W x) (RR:bo J (n+1) R ps):∀x∈ip R ps n,Tp M W x:=λx hx=>by
 obtain _|_|rr:=RR;obtain c|hc|rfl:=aB.mp hx;by_cases hp:∃j,j < ps.9/\ps.getD j 0=c
 ·obtain j|hj|e:=hp;rw[eB hj λi hi ne=>if_neg λz=>?_,if_pos e]
  ·exact O9 tp j n
  ·rcases cT i j with q | q | q
   ·have:=rr.inc i j q hj;lia
   ·exact ne q
   ·have:=rr.inc j i q hi;lia
 ·rw[cK λj hj=>if_neg λz=>hp #[j,hj,z]];exact Tp.zero
inductive AZ (K:FG9) (vs:List V) (H:Hp) (Q:VK) (E9:XK):Prop
 | mk (p q:Addr) (n w:Nat) (H0:Hp) (rows:LR9) (due:List Rat):vs=[.ref p,.int n,.ref q]->be K H0 H p rows->cC K H q due->due.9=rows.9->rows.9<=99->n<=99->(∀xs∈rows,xs.9=n)->EG (dm rows due) (n+1) w->((∀x R ps M H',bo (dm rows due) (n+1) R ps->n∉ps->H x=none->aH H H'->cC K H' x (ip R ps n)->0 < M->M<=2^(min rows.9 (n+1)*(w+4))->(∀y∈ip R ps n,Tp M (2^(min rows.9 (n+1)*(w+4))) y)->Q (.ref x) H')/\(∀R ps H',bo (dm rows due) (n+1) R ps->n∈ps->aH H H'->Q .non H'))->AZ K vs H Q E9
def Ph (rows:LR9) (n:Nat) (due:List Rat):LR9:=dm (b8 rows n++[due]) (ce n 0++[1])
inductive DJ (K:FG9) (vs:List V) (H:Hp) (Q:VK) (E9:XK):Prop
 | mk (p q:Addr) (n w w':Nat) (H0:Hp) (rows:LR9) (due:List Rat):vs=[.ref p,.int n,.ref q]->be K H0 H p rows->cC K H q due->due.9=rows.9->rows.9<=90->n<=90->(∀xs∈rows,xs.9=n)->EG (dm rows due) (n+1) w->EG (Ph rows n due) (rows.9+1) w'->((∀t x R ps M H',bo (dm rows due) (n+1) R ps->n∉ps->H' t=some (.tup [.str (wP "yes"),.ref x])->H x=none->aH H H'->cC K H' x (ip R ps n)->0 < M->M<=2^(min rows.9 (n+1)*(w+4))->(∀y∈ip R ps n,Tp M (2^(min rows.9 (n+1)*(w+4))) y)->Q (.ref t) H')/\(∀t x R ps R' ps' M H',bo (dm rows due) (n+1) R ps->n∈ps->bo (Ph rows n due) (rows.9+1) R' ps'->rows.9∉ps'->H' t=some (.tup [.str (wP "no"),.ref x])->H x=none->aH H H'->cC K H' x (ip R' ps' rows.9)->0 < M->M<=2^(min (n+1) (rows.9+1)*(w'+4))->(∀y∈ip R' ps' rows.9,Tp M (2^(min (n+1) (rows.9+1)*(w'+4))) y)->Q (.ref t) H'))->DJ K vs H Q E9
theorem NJ (hd:due.9=rows.9) (hw:∀xs∈rows,xs.9=n) (RR:bo (dm rows due) (n+1) R ps) (hn:n∈ps) (RR':bo (Ph rows n due) (rows.9+1) R' ps'):rows.9∉ps':=by
 obtain w|h1|h2:=IS hd hw RR hn;have l1:(b8 rows n++[due]).9=n+1:=by rw[ai,di];rfl
 have w1:∀xs∈b8 rows n++[due],xs.9=rows.9:=λxs hx=>by
  rcases av.mp hx with hx | hx
  ·exact ks xs hx
  ·rw[bA.mp hx];exact hd
 refine U8 (x:=w) (by rw[l1,ai,aI];rfl) w1 RR' λi hi=>?_
 rw[l1] at hi;by_cases e:i < n
 ·have e1:∀c,bE (b8 rows n++[due]) i c=bE rows c i:=λc=>by
   unfold bE;rw[aa (l:=b8 rows n++[due]),bF (by rw[di];exact e)];unfold b8;rw[aA,cZ e];show (rows.map λxs=>xs.getD i 0).getD c 0=_
   rw[aa,aA,aa (l:=rows)];cases rows[c]? with
   | none=>rfl
   | some y=>rfl
  have e2:(ce n (0:Rat)++[1]).getD i 0=0:=by
   rw[aa,bF (by rw[aI];exact e),cU,if_pos e];rfl
  rw[e2,<- h1 i e];exact aO λc _=>by rw[e1];grind
 ·have ei:i=n:=()
  subst ei
  have e1:∀c,bE (b8 rows i++[due]) i c=due.getD c 0:=λc=>by
   unfold bE;rw[aa (l:=b8 rows i++[due]),bc (by rw[di];exact ah _),di,ij];rfl
  have e2:(ce i (0:Rat)++[1]).getD i 0=1:=by
   rw[aa,bc (by rw[aI];exact ah _),aI,ij];rfl
  rw[e2,<- h2];exact aO λc _=>by rw[e1];grind
theorem Jp:((on n).map λ_=>(0:Rat))=ce n 0:=by rw[kG,bB]
def U5 (K:FG9):Sp:=λvs H Q _=>∃m:Nat,vs=[.int m]/\m<=100/\∀r H',H r=none->aH H H'->cC K H' r (ce m 0)->Q (.ref r) H'
inductive zM (K:FG9) (vs:List V) (H:Hp) (Q:VK) (E9:XK):Prop
 | mk (p q:Addr) (n w w':Nat) (H0:Hp) (rows:LR9) (row:List Rat):vs=[.ref p,.int n,.ref q]->be K H0 H p rows->cC K H q row->row.9=n->rows.9<=90->n<=90->(∀xs∈rows,xs.9=n)->EG (dm (b8 rows n) row) (rows.9+1) w->EG (dm (rows++[row]) (ce rows.9 0++[1])) (n+1) w'->((∀t x R ps M H',bo (dm (b8 rows n) row) (rows.9+1) R ps->rows.9∉ps->H' t=some (.tup [.str (wP "in"),.ref x])->H x=none->aH H H'->cC K H' x (ip R ps rows.9)->0 < M->M<=2^(min n (rows.9+1)*(w+4))->(∀y∈ip R ps rows.9,Tp M (2^(min n (rows.9+1)*(w+4))) y)->Q (.ref t) H')/\(∀t x R ps R' ps' M H',bo (dm (b8 rows n) row) (rows.9+1) R ps->rows.9∈ps->bo (dm (rows++[row]) (ce rows.9 0++[1])) (n+1) R' ps'->n∉ps'->H' t=some (.tup [.str (wP "out"),.ref x])->H x=none->aH H H'->cC K H' x (ip R' ps' n)->0 < M->M<=2^(min (rows.9+1) (n+1)*(w'+4))->(∀y∈ip R' ps' n,Tp M (2^(min (rows.9+1) (n+1)*(w'+4))) y)->Q (.ref t) H'))->zM K vs H Q E9
def Nk (rows:LR9) (ws:List Rat) (n j:Nat):List Rat:=(on n).map λc=>bw j λi=>ws.getD i 0*bE rows i c
def Ct (rows:LR9) (ws:List Rat) (n:Nat):List Rat:=Nk rows ws n ws.9
section
variable {rows:LR9} {n j:Nat}
theorem rL:(Nk rows ws n j).9=n:=by unfold Nk;rw[af,bB]
theorem T7 (h:j < j+1) (hc:c < (Nk rows ws n j).9):(Nk rows ws n j)[c]=bw j λi=>ws.getD i 0*bE rows i c:=by
 simp only[Nk,iD,oX]
theorem RP:Nk rows ws n 0=ce n 0:=Jp
theorem RQ (hx:rows[j]?=some xs) (hp:ws[j]?=some w) (hw:xs.9=n):xL (λx y=>x+y) (Nk rows ws n j) (xs.map λy=>w*y)=Nk rows ws n (j+1):=by
 apply dI (by rw[cu,rL,rL,af];lia);intro c h1 h2;rw[rL] at h2;rw[ji,iD,T7 (),T7 ()];show _=bw j _+_
 congr 1;have e1:ws.getD j 0=w:=by rw[aa,hp];rfl
 have e2:bE rows j c=xs[c]'():=by
  unfold bE;rw[aa (l:=rows),hx];show xs.getD c 0=_
  rw[aa,ae ()];rfl
 dsimp only
 rw[e1,e2]
theorem As (hc:c < n):(Ct rows ws n).getD c 0=bw ws.9 λi=>ws.getD i 0*bE rows i c:=by
 unfold Ct Nk;rw[aa,aA,cZ hc];rfl
theorem QW (h:xs.9=ws.9):cb xs ws=cb ws xs:=by
 rw[dD h,dD h.symm,h];exact aO λc _=>cD ..
theorem xF (hc:c < n):(b8 rows n)[c]?=some (rows.map λxs=>xs.getD c 0):=by
 unfold b8;rw[aA,cZ hc];rfl
theorem Ln:(rows.map λxs=>xs.getD c 0).getD i 0=bE rows i c:=by
 unfold bE;rw[aa,aA,aa (l:=rows)];cases rows[i]? with
 | none=>rfl
 | some y=>rfl
theorem Nj (hl:row.9=n) (RR:bo (dm (b8 rows n) row) (rows.9+1) R ps) (hn:rows.9∉ps):Ct rows (ip R ps rows.9) n=row:=by
 have ls:(ip R ps rows.9).9=rows.9:=mi;apply dI (by unfold Ct;rw[rL,hl]);intro c h1 h2;have hc:c < n:=()
 have d:=KW (rows:=b8 rows n) (by rw[di,hl]) (λxs hx=>ks xs hx) RR hn (xF hc);have e:=As (rows:=rows) (ws:=ip R ps rows.9) hc;have e1:(Ct rows (ip R ps rows.9) n).getD c 0=(Ct rows (ip R ps rows.9) n)[c]:=by rw[aa,ae h1];rfl
 have e2:row.getD c 0=row[c]:=by rw[aa,ae h2];rfl
 rw[<- e1,<- e2,e,<- d,dD (by rw[af,ls]),af,ls];exact aO λi _=>by rw[Ln];grind
theorem NI (hw:∀xs∈rows,xs.9=n) (hl:row.9=n) (RR:bo (dm (rows++[row]) (ce rows.9 0++[1])) (n+1) R ps) (hn:n∉ps):cb (ip R ps n) row=1/\∀xs∈rows,cb xs (ip R ps n)=0:=by
 have l1:(ce rows.9 (0:Rat)++[1]).9=(rows++[row]).9:=by rw[ai,ai,aI];rfl
 have w1:∀xs∈rows++[row],xs.9=n:=λxs hx=>by
  rcases av.mp hx with hx | hx
  ·exact hw xs hx
  ·rw[bA.mp hx];exact hl
 have ls:(ip R ps n).9=n:=mi;refine #[?_,λxs hx=>?_]
 ·have:=KW l1 w1 RR hn (i:=rows.9) (row:=row) (by rw[bc (ah _),ij];rfl);rw[QW (by rw[ls,hl]),this,aa,bc (by rw[aI];exact ah _),aI,ij];rfl
 ·obtain i|hi|rfl:=bu hx;have:=KW l1 w1 RR hn (i:=i) (row:=rows[i]) (by rw[bF hi,ae hi]);rw[this,aa,bF (by rw[aI];exact hi),cU,if_pos hi];rfl
end
inductive DG (K:FG9) (vs:List V) (H:Hp) (Q:VK) (E9:XK):Prop
 | mk (p q:Addr) (n M D W B:Nat) (H0:Hp) (rows:LR9) (ws:List Rat):vs=[.ref p,.ref q,.int n]->be K H0 H p rows->cC K H q ws->ws.9=rows.9->rows.9<=100->n<=100->(∀xs∈rows,xs.9=n)->0 < M->0 < D->(∀xs∈rows,∀x∈xs,Tp M W x)->(∀x∈ws,Tp D B x)->1<=W->1<=B->M*D<=2^3990000->128*(W*B)<=2^3990000->(∀r H',H r=none->aH H H'->cC K H' r (Ct rows ws n)->Q (.ref r) H')->DG K vs H Q E9
theorem Fr.up {M V M' V':Nat} (h:Fr M V x) (hd:M∣M') (hv:V<=V'):Fr M' V' x:=(h.dvd hd).mono hv
theorem Tv {M V D B:Nat} (h:ys.9=xs.9) (hx:∀x∈xs,Fr M V x) (hy:∀y∈ys,Fr D B y):Fr (M*D) (xs.9*(V*B)) (cb xs ys):=by
 rw[dD h.symm]
 have key:∀j,j<=xs.9->Fr (M*D) (j*(V*B)) (bw j λc=>xs.getD c 0*ys.getD c 0):=by
  intro j
  induction j with
  | zero=>intro _;exact Fr.zero
  | succ j ih =>
   intro hj;exact ((ih ()).add ((hx _ (getD_in ())).mul (hy _ (getD_in ())))).mono (Nat.le_of_eq (d7 j (V*B)).symm)
 exact key _ (ah _)
theorem Qt (h:vC ps=vC qs):ps=qs:=List.map_inj_right (λ_ _ e=>Int.ofNat.inj e) |>.mp h
def qV (K:FG9) (P:Addr->Prop) (H:Hp) (xs:List Rat) (v:V):Prop:=∃q,v=.ref q/\P q/\cC K H q xs
section
variable {K:FG9}
theorem qV.same (h:qV K P H xs v) (s:aH H H'):qV K P H' xs v:=by obtain q|a|c|d:=h;exact #[q,a,c,d.same s]
theorem qV.updL (h:qV K P H xs v) (hl:H l=some (.lst ys)) (nb:∀q,P q->q≠l):qV K P (upd H l o) xs v:=by obtain q|a|c|d:=h;exact #[q,a,c,d.updL hl (nb q c)]
theorem be.ofE {rows:LR9} (g:H l=some (.lst us)) (h:jp (qV K P H) rows us) (h0:∀q,P q->H0 q=none) (hn:∀q,P q->q≠l):be K H0 H l rows :=
 #[us,g,ca (λ_ _ #[q,a,c,d]=>#[q,a,h0 q c,d]) h,λz=>by
  obtain _|_|q|e|c|_:=dF h z;cases e;exact hn _ c rfl]
end
theorem pU {α β:Type} {F G:α->β->Prop}:∀{l1:List α} {l2:List β},(∀a b,b∈l2->F a b->G a b)->jp F l1 l2->jp G l1 l2
 | _,_,_,.nil=>.nil
 | _,_,h,.cons a r=>.cons (h _ _ (by simp) a) (pU (λx y hy=>h x y (by simp [hy])) r)
section
variable {rows rows' R R':LR9}
theorem yJ (hw:∀xs∈rows,xs.9=n) (hW:1<=W) (ent:∀i,i < (rows.map iX).9->∀c,Fr 1 W (fh (rows.map iX) i c)):∀P,P<=n->∃ls ps d,EE (rows.map iX) n P ls ps d:=by
 intro P
 induction P with
 | zero=>intro _;exact #[_,_,_,EE.start λzs hz=>by obtain x|hx|rfl:=aB.mp hz;rw[qY];exact hw x hx]
 | succ P ih =>
  intro hP;obtain ls|ps|d|I:=ih ();by_cases e:∃t,ps.9<=t/\t < ls.9/\fh ls t P≠0
  ·obtain t|h1|h2|h3:=e;exact #[_,_,_,I.step hW ent h1 h2 h3]
  ·exact #[_,_,_,I.skip λi h1 h2=>by
    by_cases z:fh ls i P=0
    ·exact z
    ·exact absurd #[i,h1,h2,z] e]
theorem D4 (hw:∀xs∈rows,xs.9=n) (F:EG rows n w):∃R ps d ls,Y7 rows n w R ps d ls:=by
 obtain W|hW|W2|ent:=F.ent;obtain ls|ps|d|I:=yJ hw hW ent n (ah _);obtain R|S:=I.done hw F;exact #[R,ps,d,_,S]
theorem Xw (hw:∀xs∈rows,xs.9=n) (F:EG rows n w) (RR:bo rows n R ps):ps.9<=rows.9/\∃M,0 < M/\M<=2^(min rows.9 n*(w+4))/\∀xs∈R,∀x∈xs,Tp M (2^(min rows.9 n*(w+4))) x:=by
 obtain R2|ps2|d|ls|S:=D4 hw F;obtain rfl|rfl:=S.rr.same RR;exact #[S.km,d.natAbs,Int.natAbs_pos.mpr S.d0,S.dsz,S.tp]
theorem Oe {p q:Nat->Nat} (hp:∀i j,i < j->j < k->p i < p j) (hq:∀i j,i < j->j < k->q i < q j) (hs:∀i,i < k->∃j,j < k/\q j=p i):∀i,i < k->p i=q i:=by
 have hqm:∀i j,i<=j->j < k->q i<=q j:=λi j h hj=>by
  rcases cg i j with z | z
  ·exact cA (hq i j z hj)
  ·have:i=j:=()
   rw[this];exact ah _
 have hqi:∀i j,i < k->j < k->q i < q j->i < j:=λi j hi hj h=>by
  rcases cg i j with z | z
  ·exact z
  ·have:=hqm j i z hi
   lia
 have key:∀i,i < k->∀j,j < k->q j=p i->i<=j:=by
  intro i
  induction i with
  | zero=>intro _ j _ _;exact a7 _
  | succ i ih =>
   intro hi j hj e;obtain j'|hj'|e':=hs i ();have h1:=ih () j' hj' e';have h2:=hp i (i+1) () hi;have:=hqi j' j hj' hj ()
   lia
 have key2:∀t i,i+t+1=k->∀j,j < k->q j=p i->j<=i:=by
  intro t
  induction t with
  | zero=>intro i e j hj _;lia
  | succ t ih =>
   intro i e j hj ej;obtain j'|hj'|e':=hs (i+1) ();have h1:=ih (i+1) () j' hj' e';have h2:=hp i (i+1) () ();have:=hqi j j' hj hj' ()
   lia
 intro i hi;obtain j|hj|e:=hs i hi;have h1:=key i hi j hj e;have h2:=key2 (k - 1 - i) i () j hj e;have:j=i:=()
 rw[<- e,this]
theorem NF (h:bo rows n R ps) (h':bo rows' n R' ps') (hl:ps.9=ps'.9) (hs:∀i,i < ps.9->eo ps'.9 (bE R') (bE R i)):R=R'/\ps=ps':=by
 obtain l1|w1|r1:=h;obtain l2|w2|r2:=h'
 have ep:∀i,i < ps.9->ps.getD i 0=ps'.getD i 0:=Oe r1.inc (by rw[hl];exact r2.inc) λi hi=>by
  have u:=r1.unit i hi i hi;rw[if_pos rfl] at u;obtain j|hj|e:=r2.lead_in (hs i hi) (c:=ps.getD i 0) (by rw[u];decide) (λc hc=>r1.lead i hi c hc);exact #[j,(),e]
 have eps:ps=ps':=by
  apply dI hl;intro i a b;have:=ep i a;rw[aa,aa,ae a,ae b] at this;exact this
 refine #[QJ (n:=n) () w1 w2 λi hi c=>?_,eps];rw[l1] at hi;rw[r2.coef (hs i hi) c,<- hl,eB hi λj hj hj'=>?_]
 ·rw[<- ep i hi];have u:=r1.unit i hi i hi;rw[if_pos rfl] at u;rw[u];grind
 ·rw[<- ep j hj];have u:=r1.unit i hi j hj;rw[if_neg (SL hj')] at u;rw[u];grind
end
def rH (mv:LR9) (x:List Rat):List Rat:=mv.map λxs=>cb xs x
def kry (mv pt:LR9):Nat->LR9
 | 0=>[]
 | t+1=>pt++(kry mv pt t).map (rH mv)
section
variable {mv pt R R' S X Y:LR9} {n t m i c:Nat} {ps ps':List Nat} {a:Nat->Nat->Rat}
theorem xr:(rH mv x).9=mv.9:=af ..
theorem MH (lm:mv.9=n) (wm:∀xs∈mv,xs.9=n) (wR:∀xs∈R,xs.9=n) (hi:i < R.9) (c:Nat):bE (R.map (rH mv)) i c=bw n λj=>bE mv c j*bE R i j:=by
 have wi:=wR _ (aQ hi);have e1:(R.map (rH mv)).getD i []=rH mv R[i]:=by rw[aa,aA,ae hi];rfl
 have e2:R.getD i []=R[i]:=by rw[aa,ae hi];rfl
 by_cases hc:c < n
 ·have wc:=wm _ (aQ (show c < mv.9 by lia));have e3:mv.getD c []=mv[c]'():=by rw[aa,ae ()];rfl
  have e4:(rH mv R[i]).getD c 0=cb (mv[c]'()) R[i]:=by
   unfold rH;rw[aa,aA,ae ()];rfl
  unfold bE;rw[e1,e2,e3,e4,dD (),wc]
 ·have e3:mv.getD c []=[]:=by rw[aa,aE ()];rfl
  unfold bE
  rw[e1,e3,aa,aE (by rw[xr];lia),cK λj _=>by
   show ([]:List Rat).getD j 0*_=0
   rw[aa];show (0:Rat)*_=0
   grind]
  rfl
theorem AW (lm:mv.9=n) (wm:∀xs∈mv,xs.9=n) (wR:∀xs∈R,xs.9=n) (wS:∀xs∈S,xs.9=n) (hi:i < R.9) (h:eo S.9 (bE S) (bE R i)):eo (S.map (rH mv)).9 (bE (S.map (rH mv))) (bE (R.map (rH mv)) i):=by
 obtain w|hw:=h;refine #[w,λc=>?_];rw[MH lm wm wR hi,af]
 have e1:bw n (λj=>bE mv c j*bE R i j)=bw n (λj=>bw S.9 λs=>w s*(bE mv c j*bE S s j)):=aO λj _=>by
  rw[hw j,<- cB];exact aO λs _=>by grind
 rw[e1,eI];exact aO λs hs=>by rw[cB,MH lm wm wS hs]
theorem yv (h:i < X.9):bE (X++Y) i=bE X i:=by
 funext c;unfold bE;rw[aa (l:=X++Y),bF h,<- aa]
theorem vM:bE (X++Y) (X.9+i)=bE Y i:=by
 funext c;unfold bE;rw[aa (l:=X++Y),bc (),show X.9+i - X.9=i by lia,<- aa]
theorem xI (h1:∀i,i < X.9->eo m a (bE X i)) (h2:∀i,i < Y.9->eo m a (bE Y i)):∀i,i < (X++Y).9->eo m a (bE (X++Y) i):=λi hi=>by
 rw[ai] at hi;by_cases h:i < X.9
 ·rw[yv h];exact h1 i h
 ·obtain ⟨j,rfl⟩:∃j,i=X.9+j:=#[i - X.9,()];rw[vM];exact h2 j ()
theorem uC (h:i < X.9):eo (X++Y).9 (bE (X++Y)) (bE X i):=by
 have:=eo.row (a:=bE (X++Y)) (m:=(X++Y).9) (i:=i) (by rw[ai];lia);rwa [yv h] at this
theorem qZ (h:eo Y.9 (bE Y) x):eo (X++Y).9 (bE (X++Y)) x:=eo.trans (λs hs=>by
 have:=eo.row (a:=bE (X++Y)) (m:=(X++Y).9) (i:=X.9+s) (by rw[ai];lia);rwa [vM] at this) h
theorem eO (lm:mv.9=n) (wp:∀xs∈pt,xs.9=n):∀t,∀xs∈kry mv pt t,xs.9=n:=by
 intro t
 induction t with
 | zero=>intro xs hx;cases hx
 | succ t ih =>
  intro xs hx;rcases av.mp hx with hx | hx
  ·exact wp xs hx
  ·obtain y|_|rfl:=aB.mp hx;rw[xr,lm]
theorem yk (lm:mv.9=n) (wm:∀xs∈mv,xs.9=n) (wp:∀xs∈pt,xs.9=n) (RR:bo (kry mv pt t) n R ps) (RR':bo (pt++R.map (rH mv)) n R' ps'):bo (kry mv pt (t+1)) n R' ps':=by
 have wk:=eO (mv:=mv) lm wp t;refine #[RR'.1,RR'.2.1,RR'.2.2.other ?_ ?_]
 ·refine xI (λi hi=>uC hi) λi hi=>qZ ?_
  rw[af] at hi;exact AW lm wm RR.2.1 wk hi (RR.2.2.back i (by rw[<- RR.1];exact hi))
 ·refine xI (λi hi=>uC hi) λi hi=>qZ ?_
  rw[af] at hi;have:=RR.2.2.span i hi;rw[<- RR.1] at this;exact AW lm wm wk RR.2.1 hi this
theorem Qs (lm:mv.9=n) (wm:∀xs∈mv,xs.9=n) (wp:∀xs∈pt,xs.9=n):∀t i,i < (kry mv pt t).9->eo (kry mv pt (t+1)).9 (bE (kry mv pt (t+1))) (bE (kry mv pt t) i):=by
 intro t
 induction t with
 | zero=>intro i hi;cases hi
 | succ t ih =>
  refine xI (λi hi=>uC hi) λi hi=>qZ ?_
  rw[af] at hi;exact AW lm wm (eO lm wp t) (eO lm wp (t+1)) hi (ih i hi)
theorem BY (lm:mv.9=n) (wm:∀xs∈mv,xs.9=n) (wp:∀xs∈pt,xs.9=n) (RR:bo (kry mv pt t) n R ps) (RR':bo (kry mv pt (t+1)) n R' ps'):∀i,i < ps.9->eo ps'.9 (bE R') (bE R i):=λi hi =>
 eo.trans (λs hs=>RR'.2.2.span s hs) (eo.trans (Qs lm wm wp t) (RR.2.2.back i hi))
theorem Eh (lm:mv.9=n) (wm:∀xs∈mv,xs.9=n) (wp:∀xs∈pt,xs.9=n) (RR:bo (kry mv pt t) n R ps) (RR':bo (pt++R.map (rH mv)) n R' ps') (hl:ps'.9=ps.9):∀s,bo (kry mv pt (t+s)) n R ps:=by
 have K1:=yk lm wm wp RR RR';obtain e1|e2:=NF RR K1 hl.symm (BY lm wm wp RR K1);subst e1 e2;intro s
 induction s with
 | zero=>exact RR
 | succ s ih=>exact yk lm wm wp ih RR'
theorem Ju (lm:mv.9=n) (wm:∀xs∈mv,xs.9=n) (wp:∀xs∈pt,xs.9=n) (RR:bo (kry mv pt t) n R ps) (RR':bo (kry mv pt (t+1)) n R' ps'):ps.9<=ps'.9:=by
 have h:=BY lm wm wp RR RR'
 have hs:∀i,i < ps.9->∃j,j < ps'.9/\ps'.getD j 0=ps.getD i 0:=λi hi=>by
  have u:=RR.2.2.unit i hi i hi;rw[if_pos rfl] at u;exact RR'.2.2.lead_in (h i hi) (c:=ps.getD i 0) (by rw[u];decide) (λc hc=>RR.2.2.lead i hi c hc)
 rcases cg ps'.9 ps.9 with z | z
 ·exfalso
  have key:∀i,i < ps.9->∀j,j < ps'.9->ps'.getD j 0=ps.getD i 0->i<=j:=by
   intro i
   induction i with
   | zero=>intro _ j _ _;exact a7 _
   | succ i ih =>
    intro hi j hj e;obtain j'|hj'|e':=hs i ();have h1:=ih () j' hj' e';have h2:=RR.2.2.inc i (i+1) () hi;rcases cg j' j with y | y
    ·lia
    ·rcases cg j j' with x | x
     ·have:=RR'.2.2.inc j j' x hj'
      lia
     ·have:j=j':=()
      rw[this] at e
      lia
  obtain j|hj|e:=hs (ps.9 - 1) ();have:=key (ps.9 - 1) () j hj e
  lia
 ·exact z
theorem Lv {M V c:Nat} (lm:mv.9=n) (wm:∀xs∈mv,xs.9=n) (wp:∀xs∈pt,xs.9=n) (hc:(n+1)*V<=2^c) (fm:GF M V mv) (fp:GF M V pt):∀t,∀xs∈kry mv pt t,∀x∈xs,Fr (M^t) (2^(c*t)) x:=by
 intro t
 induction t with
 | zero=>intro xs hx;cases hx
 | succ t ih =>
  intro xs hx x hx';have hV:V<=2^c:=ag (bK _ ()) hc;rcases av.mp hx with hx | hx
  ·refine Fr.up (fp xs hx x hx') (by rw[gK];exact eh _ _) (ag hV (aj () (bZ _ ())))
  ·obtain y|hy|rfl:=aB.mp hx;unfold rH at hx';obtain r|hr|rfl:=aB.mp hx';have wr:=wm r hr;have wy:=eO (mv:=mv) lm wp t y hy;have f:=Tv () (fm r hr) (ih y hy);rw[gK,b7 (M^t)];refine f.mono ?_;rw[gN,RC,aV,b7 (2^(c*t)),<- cV,wr];exact ax _ (ag (ax _ ()) hc)
def jl (mv pt:LR9) (a c:Nat):Prop:=∃M V:Nat,0 < M/\M<=2^a/\(mv.9+1)*V<=2^c/\GF M V mv/\GF M V pt/\a<=400/\c<=40/\mv.9*(mv.9*(a+c)+4)<=1740/\mv.9*(mv.9*(mv.9*(a+c)+4)+a+c+4)<=8900000
theorem jl.swf {a c:Nat} (F:jl mv pt a c) (D:mv.9<=8) (wm:∀xs∈mv,xs.9=mv.9) (wp:∀xs∈pt,xs.9=mv.9) (ht:t<=mv.9):EG (kry mv pt t) mv.9 (mv.9*(a+c)):=by
 obtain M|V|M0|Ma|hV|fm|fp|a3|c3|e14|e89:=F;have f:=Lv rfl wm wp hV fm fp t;have h1:mv.9*(a+c)<=8*440:=aK D ();have hM:M^t<=2^(a*mv.9):=ag (jK Ma _) (by rw[<- uj];exact aj () (aD _ ht));have h2:a*mv.9<=mv.9*(a+c):=by rw[b7];exact aD _ ()
 have h3:mv.9=0\/mv.9*(a+c)<=1740:=by
  rcases fV mv.9 with z | z
  ·exact .inl z
  ·right
   have:=bK (mv.9*(a+c)+4) z
   lia
 have h4:mv.9*(a+c)<=1740:=by
  rcases h3 with z | z
  ·rw[z];lia
  ·exact z
 refine #[M^t,2^(mv.9*(a+c)),eH M0,ag hM (aj () ()),cm,ah _,λxs hx x hx'=>Tp.of (f xs hx x hx') ?_,(),(),?_]
 ·refine ag (aK (aj () (aD c ht)) hM) ?_;rw[<- aV];refine aj () ?_;rw[b7 c,b7 a,<- gN,qq c];exact ah _
 ·exact ag (ax _ (z9 _ _)) ()
theorem jl.tp {a c:Nat} (F:jl mv pt a c) (D:mv.9<=8) (wm:∀xs∈mv,xs.9=mv.9) (wp:∀xs∈pt,xs.9=mv.9) (ht:t<=mv.9) (RR:bo (kry mv pt t) mv.9 R ps):∃M,0 < M/\M<=2^(mv.9*(mv.9*(a+c)+4))/\∀xs∈R,∀x∈xs,Tp M (2^(mv.9*(mv.9*(a+c)+4))) x:=by
 obtain _|M|h0|h1|h2:=Xw (eO rfl wp t) (F.swf D wm wp ht) RR;have le:2^(min (kry mv pt t).9 mv.9*(mv.9*(a+c)+4))<=2^(mv.9*(mv.9*(a+c)+4)):=aj () (ax _ (z9 _ _));exact #[M,h0,ag h1 le,λxs hx x hx'=>(h2 xs hx x hx').mono le]
theorem jl.step {a c:Nat} (F:jl mv pt a c) (D:mv.9<=8) (wm:∀xs∈mv,xs.9=mv.9) (wp:∀xs∈pt,xs.9=mv.9) (ht:t<=mv.9) (RR:bo (kry mv pt t) mv.9 R ps):EG (pt++R.map (rH mv)) mv.9 (mv.9*(mv.9*(a+c)+4)+a+c):=by
 obtain N|N0|N1|tN:=F.tp D wm wp ht RR;obtain M|V|M0|Ma|hV|fm|fp|a3|c3|e14|e89:=F;generalize mv.9*(mv.9*(a+c)+4)=e at *
 have V1:V<=2^c:=ag (bK _ ()) hV;have eW:(2:Nat)^(e+a+c)=2^c*(2^a*2^e):=by rw[<- aV,<- aV];congr 1;lia
 refine #[N*M,2^(e+a+c),bC N0 M0,?_,cm,ah _,λxs hx x hx'=>?_,(),(),?_]
 ·exact ag (aK N1 Ma) (by rw[<- aV];exact aj () ())
 ·rcases av.mp hx with hx | hx
  ·refine Tp.of ((fp xs hx x hx').scaleL N) ?_;rw[eW,b7 N];exact aK V1 (aK Ma N1)
  ·obtain y|hy|rfl:=aB.mp hx;unfold rH at hx';obtain r|hr|rfl:=aB.mp hx';have wr:=wm r hr;have wy:=RR.2.1 y hy;rw[dD (),wr];have t1:∀j,Tp M (V*M) (r.getD j 0):=λj=>kJ (λx hx=>Tp.of (fm r hr x hx) (ah _)) j
   have t2:∀j,Tp N (2^e) (y.getD j 0):=λj=>kJ (tN y hy) j
   have:=Tp.sum (k:=mv.9) (M:=N*M) (W:=V*M*2^e) (f:=λj=>r.getD j 0*y.getD j 0) λj _=>by
    have:=(t1 j).mul (t2 j);rwa [b7 M N] at this
   refine this.mono ?_;rw[eW,cV V,<- cV mv.9];exact aK (ag (ax _ ()) hV) (ax _ Ma)
 ·exact ag (ax _ (z9 _ _)) (by rw[show e+a+c+4=e+a+c+4 from rfl];exact e89)
theorem jl.fit {a c:Nat} (F:jl mv pt a c) (D:mv.9<=8) (wm:∀xs∈mv,xs.9=mv.9) (wp:∀xs∈pt,xs.9=mv.9) (ht:t<=mv.9) (RR:bo (kry mv pt t) mv.9 R ps):∀xs∈mv,∀r∈R,jW xs r:=λxs hx r hr=>by
 obtain N|N0|N1|tN:=F.tp D wm wp ht RR;obtain M|V|M0|Ma|hV|fm|fp|a3|c3|e14|e89:=F;have V1:V<=2^c:=ag (bK _ ()) hV;have p14:=aj (show 0 < 2 by decide) e14;exact #[400,40,1740,1740,#[M,V,M0,ag Ma (aj () a3),ag V1 (aj () c3),fm xs hx],#[N,2^1740,N0,ag N1 p14,ah _,λx hx=>((tN r hr x hx).mono p14).fr N0],()]
end
inductive DR (K:FG9) (C:Addr) (vs:List V) (H:Hp) (Q:VK) (E9:XK):Prop
 | mk (x p:Addr) (H0 H1:Hp) (mv pt lk R:LR9):vs=[.ref x,.ref p]->kI K H0 H C x mv pt lk->dJ mv pt lk->be K H1 H p R->R.9<=100->(∀r∈R,r.9=mv.9)->(∀xs∈mv,∀r∈R,jW xs r)->(∀r H',H r=none->aH H H'->be K H H' r (R.map (rH mv))->Q (.ref r) H')->DR K C vs H Q E9
structure vP (mv pt:LR9) (Rs:List (LR9)):Prop where
 ne:Rs≠[]
 rr:∀t R,Rs[t]?=some R->∃ps,bo (kry mv pt t) mv.9 R ps
 up:∀t R R',Rs[t]?=some R->Rs[t+1]?=some R'->R.9 < R'.9
def GrL (K:FG9) (H0 H:Hp) (l:Addr) (Rs:List (LR9)):Prop:=∃us,H l=some (.lst us)/\jp (λR v=>∃q,v=V.ref q/\H0 q=none/\q≠l/\be K H0 H q R) Rs us
inductive DV (K:FG9) (C:Addr) (vs:List V) (H:Hp) (Q:VK) (E9:XK):Prop
 | mk (x:Addr) (a c st:Nat) (H0:Hp) (mv pt lk:LR9):vs=[.ref x,.int st]->st<=1000->kI K H0 H C x mv pt lk->dJ mv pt lk->jl mv pt a c->(∀r Rs H',H r=none->aH H H'->GrL K H H' r Rs->vP mv pt Rs->Rs.9<=st+1->(∀R,Rs.getLast?=some R->∀s,(Rs.9 - 1=st/\s=st\/Rs.9 - 1 < st/\Rs.9 - 1<=s)->∃ps,bo (kry mv pt s) mv.9 R ps)->Q (.ref r) H')->DV K C vs H Q E9
inductive DK (K:FG9) (C:Addr) (vs:List V) (H:Hp) (Q:VK) (E9:XK):Prop
 | mk (x:Addr) (a c st:Nat) (H0:Hp) (mv pt lk:LR9):vs=[.ref x,.int st]->st<=1000->kI K H0 H C x mv pt lk->dJ mv pt lk->jl mv pt a c->(∀r R ps H',H r=none->aH H H'->be K H H' r R->bo (kry mv pt st) mv.9 R ps->Q (.ref r) H')->DK K C vs H Q E9
section
variable {K:FG9}
theorem be.weakN (h:be K H0 H p rows) (hn:∀q,H0 q=none->H1 q=none):be K H1 H p rows:=by obtain xs|g|r|n:=h;exact #[xs,g,ca (λ_ _ #[q,a,b,c]=>#[q,a,hn q b,c]) r,n]
theorem be.updL (h:be K H0 H p rows) (hl:H l=some (.lst ys)) (nl:H0 l≠none) (pl:p≠l):be K H0 (upd H l o) p rows:=by obtain xs|g|r|n:=h;exact #[xs,by rw[bG pl];exact g,ca (λ_ _ z=>c5.updL z hl nl) r,n]
theorem K8:bo [] n [] []:=#[rfl,(λ_ h=>by cases h),(λ_ _ _ h=>absurd h (dw _)),(λ_ h=>absurd h (dw _)),(λ_ h=>absurd h (dw _)),(λ_ h=>absurd h (dw _)),(λ_ h=>absurd h (dw _)),(λ_ h=>absurd h (dw _))]
theorem vP.len (h:vP mv pt Rs):∀(t:Nat) (R:LR9),Rs[t]?=some R->t<=R.9:=by
 intro t
 induction t with
 | zero=>intro R _;exact a7 _
 | succ t ih =>
  intro R e;have ht:=(aF.mp e).1;have e0:=ae (show t < Rs.9 by lia);have:=ih _ e0;have:=h.up t _ R e0 e
  lia
theorem vP.snoc (h:vP mv pt (Rs++[R])) (h1:bo (kry mv pt (Rs.9+1)) mv.9 R' ps') (h2:R.9 < R'.9):vP mv pt ((Rs++[R])++[R']):=by
 have l1:(Rs++[R]).9=Rs.9+1:=by rw[ai];rfl
 refine #[by simp,λt S e=>?_,λt S S' e e'=>?_]
 ·rcases cg t (Rs.9+1) with z | z
  ·rw[bF ()] at e;exact h.rr t S e
  ·have ht:=(aF.mp e).1;rw[ai,aT] at ht;have:t=Rs.9+1:=()
   subst this;rw[bc (),l1,ij] at e;cases e;exact #[ps',h1]
 ·have ht:=(aF.mp e').1;rw[ai,aT] at ht;rw[bF ()] at e;rcases cg (t+1) (Rs.9+1) with z | z
  ·rw[bF ()] at e';exact h.up t S S' e e'
  ·have:t=Rs.9:=()
   subst this;rw[bc (),l1,ij] at e';cases e';rw[bc (ah _),ij] at e;cases e;exact h2
end
def uc (k t i:Nat):Nat:=if i < k then i else if i=k then t else if i<=t then i - 1 else i
def Ja (k t i:Nat):Nat:=if i < k then i else if i=t then k else if i < t then i+1 else i
section
variable {k t m i j:Nat}
theorem xQ (h : k ≤ t) (ht : t < m) (hi : i < m) : uc k t i < m := by     unfold uc; split; · exact hi
                                                                          · split; · exact ht
                                                                            · split <;> lia
theorem Xx (h : k ≤ t) (ht : t < m) (hi : i < m) : Ja k t i < m := by     unfold Ja; split; · exact hi
                                                                          · split; · lia
                                                                            · split <;> lia
theorem Xv (h:k<=t):uc k t (Ja k t i)=i:=by
 by_cases h1:i < k
 ·rw[show Ja k t i=i by unfold Ja;rw[if_pos h1]];unfold uc;rw[if_pos h1]
 ·by_cases h2:i=t
  ·rw[show Ja k t i=k by unfold Ja;rw[if_neg h1,if_pos h2]];unfold uc;rw[if_neg (),if_pos rfl,h2]
  ·by_cases h3:i < t
   ·rw[show Ja k t i=i+1 by unfold Ja;rw[if_neg h1,if_neg h2,if_pos h3]];unfold uc;rw[if_neg (),if_neg (),if_pos ()];lia
   ·rw[show Ja k t i=i by unfold Ja;rw[if_neg h1,if_neg h2,if_neg h3]];unfold uc;rw[if_neg h1,if_neg (),if_neg ()]
theorem Up (h:k<=t):Ja k t (uc k t i)=i:=by
 by_cases h1:i < k
 ·rw[show uc k t i=i by unfold uc;rw[if_pos h1]];unfold Ja;rw[if_pos h1]
 ·by_cases h2:i=k
  ·rw[show uc k t i=t by unfold uc;rw[if_neg h1,if_pos h2]];unfold Ja;rw[if_neg (),if_pos rfl,h2]
  ·by_cases h3:i<=t
   ·rw[show uc k t i=i - 1 by unfold uc;rw[if_neg h1,if_neg h2,if_pos h3]];unfold Ja;rw[if_neg (),if_neg (),if_pos ()];lia
   ·rw[show uc k t i=i by unfold uc;rw[if_neg h1,if_neg h2,if_neg h3]];unfold Ja;rw[if_neg h1,if_neg (),if_neg ()]
theorem ve (hi:i < k):uc k t i=i:=by unfold uc;rw[if_pos hi]
theorem xR (h:k<=t) (hi:k<=i):k<=uc k t i:=by
 unfold uc;rw[if_neg ()]
 split
 ·exact h
 ·split <;> lia
variable {a l:Nat->Nat->Rat} {pm p:Nat->Nat} {d:Rat} {P:Nat}
theorem yE.rot (B:yE a m k pm p l d) (h:k<=t) (ht:t < m):yE a m k (λi=>pm (uc k t i)) p (λi=>l (uc k t i)) d where
 inj i j hi hj e:=by
  have:=B.inj _ _ (xQ h ht hi) (xQ h ht hj) e;rw[<- Up (i:=i) h,this,Up h]
 rng i hi:=B.rng _ (xQ h ht hi)
 km:=B.km
 d0:=B.d0
 det:=by rw[B.det,Bt (f:=pm) (g:=λi=>pm (uc k t i)) λj hj=>by rw[ve hj]]
 eqs i hi c:=by
  have e:=B.eqs (uc k t i) (xQ h ht hi) c;have e1:bw k (λj=>a (pm (uc k t i)) (p j)*l (uc k t j) c)=bw k (λj=>a (pm (uc k t i)) (p j)*l j c):=aO λj hj=>by rw[ve hj]
  rw[e1];by_cases hk:i < k
  ·rw[ve hk] at e ⊢;exact e
  ·rw[if_neg hk];rw[if_neg (by have:=xR h (show k<=i by lia);lia)] at e;exact e
 unit i hi j hj:=by
  rw[B.unit _ (xQ h ht hi) j hj];by_cases hk:i < k
  ·rw[ve hk]
  ·have:=xR h (show k<=i by lia);rw[if_neg (),if_neg ()]
theorem mQ.rot (E:mQ a m k P p l d) (h:k<=t) (ht:t < m):mQ a m k P p (λi=>l (uc k t i)) d where
 km:=E.km
 d0:=E.d0
 unit i hi j hj:=by
  rw[E.unit _ (xQ h ht hi) j hj];by_cases hk:i < k
  ·rw[ve hk]
  ·have:=xR h (show k<=i by lia);rw[if_neg (),if_neg ()]
 inc:=E.inc
 low:=E.low
 zero i h1 h2 c hc:=E.zero _ (xR h h1) (xQ h ht h2) c hc
 lead j hj c hc:=by rw[ve hj];exact E.lead j hj c hc
 there i hi:=eo.trans (λs hs=>eo.congr (λc=>by rw[Xv h]) (eo.row (a:=λi=>l (uc k t i)) (i:=Ja k t s) (Xx h ht hs))) (E.there i hi)
 back i hi:=E.back _ (xQ h ht hi)
end
section
variable {rows fs ls:LR9} {n P w a:Nat} {ps:List Nat}
theorem RY:lY k k i=i:=by unfold lY;split <;> (try split) <;> lia
theorem Cn.rot (h:Cn rows n P (fs++ls) ps) (hf:fs.9=ps.9) (ht:t < ls.9):Cn rows n P (fs++ls.getD t [] :: ls.eraseIdx t) ps:=by
 obtain len|wide|pm|l|d|B|E|v:=h;rw[ai] at len;have h1:ps.9<=ps.9+t:=()
 have h2:ps.9+t < rows.9:=()
 have ef:∀i,i < rows.9->∀c,bE (fs++ls.getD t [] :: ls.eraseIdx t) i c=bE (fs++ls) (uc ps.9 (ps.9+t) i) c:=λi hi c=>by
  by_cases z:i < ps.9
  ·rw[ve z,yv (),yv ()]
  ·obtain ⟨j,rfl⟩:∃j,i=fs.9+j:=#[i - fs.9,()];rw[vM];cases j with
   | zero =>
    rw[show uc ps.9 (ps.9+t) (fs.9+0)=fs.9+t by unfold uc;rw[if_neg (),if_pos ()];lia,vM];rfl
   | succ j =>
    by_cases y:j < t
    ·rw[show uc ps.9 (ps.9+t) (fs.9+(j+1))=fs.9+j by unfold uc;rw[if_neg (),if_neg (),if_pos ()];lia,vM];show bE (ls.eraseIdx t) j c=_
     unfold bE;rw[aa (l:=ls.eraseIdx t),List.getElem?_eraseIdx_of_lt y,<- aa]
    ·rw[show uc ps.9 (ps.9+t) (fs.9+(j+1))=fs.9+(j+1) by unfold uc;rw[if_neg (),if_neg (),if_neg ()],vM];show bE (ls.eraseIdx t) j c=_
     unfold bE;rw[aa (l:=ls.eraseIdx t),List.getElem?_eraseIdx_of_ge (),<- aa]
 refine #[?_,λxs hx=>?_,λi=>pm (uc ps.9 (ps.9+t) i),λi=>l (uc ps.9 (ps.9+t) i),d,B.rot h1 h2,E.rot h1 h2,λi hi c=>?_]
 ·rw[ai,a9,US ht];lia
 ·rcases av.mp hx with hx | hx
  ·exact wide xs (av.mpr (.inl hx))
  ·rcases aJ.mp hx with rfl | hx
   ·exact wide _ (av.mpr (.inr (getD_in ht)))
   ·exact wide xs (av.mpr (.inr (WT hx)))
 ·rw[ef i hi c,v _ (xQ h1 h2 hi) c];by_cases z:i < ps.9
  ·dsimp only
   rw[ve z]
  ·rw[if_neg z,if_neg (by have:=xR h1 (show ps.9<=i by lia);lia)]
def rA (P:Nat) (h:List Rat):List Rat:=h.map λy=>1 / h.getD P 0*y
def BQ (P:Nat) (u r:List Rat):List Rat:=xL (λx y=>x - y) r (u.map λy=>r.getD P 0*y)
theorem Cn.lean (h:Cn rows n P (fs++ls) ps) (hf:fs.9=ps.9) (ht:t < ls.9) (hP:P < n) (hne:(ls.getD t []).getD P 0≠0):Cn rows n (P+1) ((fs.map (BQ P (rA P (ls.getD t [])) )++[rA P (ls.getD t [])])++(ls.eraseIdx t).map (BQ P (rA P (ls.getD t [])))) (ps++[P]):=by
 have R:=h.rot hf ht;have len:=R.len;have wide:=R.wide;generalize ls.getD t []=hd at *
 generalize ls.eraseIdx t=l2 at *
 rw[ai,a9] at len;have whd:hd.9=n:=wide _ (av.mpr (.inr (.head _)));have wu:(rA P hd).9=n:=by unfold rA;rw[af];exact whd
 have ek:bE (fs++hd :: l2) ps.9=λc=>hd.getD c 0:=by
  have:=vM (X:=fs) (Y:=hd :: l2) (i:=0);rw[show fs.9+0=ps.9 by lia] at this;rw[this];rfl
 have wl:∀r,r.9=n->(BQ P (rA P hd) r).9=n:=λr hr=>by unfold BQ;rw[cu,af,wu,hr];lia
 have vl:∀r,r.9=n->∀c,(BQ P (rA P hd) r).getD c 0=r.getD c 0 - r.getD P 0*(1 / hd.getD P 0*hd.getD c 0):=λr hr c=>by
  unfold BQ;rw[Wa (by rw[af,wu,hr]),QD];unfold rA;rw[QD]
 refine R.step (t:=ps.9) (ah _) (by rw[ai,a9];lia) (by rw[ek];exact hne) ?_ ?_ λi hi c=>?_
 ·rw[ai,ai,af,af,aT];lia
 ·intro xs hx;rcases av.mp hx with hx | hx
  ·rcases av.mp hx with hx | hx
   ·obtain r|hr|rfl:=aB.mp hx;exact wl r (wide r (av.mpr (.inl hr)))
   ·rw[bA.mp hx];exact wu
  ·obtain r|hr|rfl:=aB.mp hx;exact wl r (wide r (av.mpr (.inr (.tail _ hr))))
 ·rw[RY,ek]
  dsimp only
  have lf:(fs.map (BQ P (rA P hd))).9=ps.9:=by rw[af];exact hf
  have key:∀{X:LR9} {s:Nat} (hs:s < X.9) (_:∀r∈X,r.9=n),bE (X.map (BQ P (rA P hd))) s c=bE X s c - bE X s P*(1 / hd.getD P 0*hd.getD c 0):=λ{X s} hs hX=>by
   unfold bE;have e1:(X.map (BQ P (rA P hd))).getD s []=BQ P (rA P hd) X[s]:=by rw[aa,aA,ae hs];rfl
   have e2:X.getD s []=X[s]:=by rw[aa,ae hs];rfl
   rw[e1,e2];exact vl _ (hX _ (aQ hs)) c
  rcases cT i ps.9 with z | z | z
  ·rw[if_neg (),cF,yv (),yv (),key () λr hr=>wide r (av.mpr (.inl hr))]
  ·rw[if_pos z,cF,show i=(fs.map (BQ P (rA P hd))).9+0 by lia,vM];show (rA P hd).getD c 0=_
   unfold rA;rw[QD]
  ·rw[if_neg ()];obtain ⟨j,rfl⟩:∃j,i=ps.9+1+j:=#[i - ps.9 - 1,()]
   have e1:bE (fs++hd :: l2) (ps.9+1+j)=bE l2 j:=by
    have:=vM (X:=fs) (Y:=hd :: l2) (i:=j+1);rw[show fs.9+(j+1)=ps.9+1+j by lia] at this;rw[this];rfl
   have e2:bE ((fs.map (BQ P (rA P hd))++[rA P hd])++l2.map (BQ P (rA P hd))) (ps.9+1+j)=bE (l2.map (BQ P (rA P hd))) j:=by
    have:=vM (X:=fs.map (BQ P (rA P hd))++[rA P hd]) (Y:=l2.map (BQ P (rA P hd))) (i:=j);rw[ai,lf,aT] at this;exact this
   rw[e1,e2,key () λr hr=>wide r (av.mpr (.inr (.tail _ hr)))]
end
theorem xY {α β:Type} {F:α->β->Prop}:∀{l1:List α} {l2:List β} (_:jp F l1 l2) (i:Nat),jp F (l1.eraseIdx i) (l2.eraseIdx i)
 | _,_,.nil,_=>.nil
 | _,_,.cons _ r,0=>r
 | _,_,.cons h r,i+1=>.cons h (xY r i)
theorem VS:c∈Ae xs i↔c < i/\xs.getD c 0≠0:=by
 unfold Ae;rw[ja,jP];simp
theorem be.toE {K:FG9} (h:be K H0 H l rows):∃us,H l=some (.lst us)/\jp (qV K (λq=>H0 q=none/\q≠l) H) rows us:=by
 obtain us|g|pr|nn:=h;exact #[us,g,pU (λxs v hv #[q,e,a,b]=>#[q,e,#[a,λz=>nn (by rw[<- z,<- e];exact hv)],b]) pr]
theorem Ea {α:Type} {v:α}:∀{l:List α},l.Nodup->v∉l->∀j,(l.set j v).Nodup
 | [],_,_,_=>UR
 | a :: l,h,hn,0=>by
  rw[fF] at h;rw[List.set_cons_zero,fF];exact #[λz=>hn (.tail _ z),h.2]
 | a :: l,h,hn,j+1=>by
  rw[fF] at h;rw[List.set_cons_succ,fF];refine #[λz=>?_,Ea h.2 (λz=>hn (.tail _ z)) j];rcases cI z with z | z
  ·exact h.1 z
  ·exact hn (by rw[z];exact .head _)
structure lW (K:FG9) (A:Addr->Prop) (H:Hp) (n:Nat) (C:V->Rat->Prop) (m p l b q0:Addr) (us ws vs:List V):Prop where
 bag:jm H b
 inn:Inner H b q0
 gm:H m=some (.lst us)
 gp:H p=some (.lst ws)
 gl:H l=some (.lst vs)
 lm:us.9=n
 row:∀x∈us++vs++ws,iU K A H n (C x) x
 nd:(us++vs++ws).Nodup
section
variable {K:FG9}
theorem lW.same (h:lW K A H n C m p l b q0 us ws vs) (e:aH H H'):lW K A H' n C m p l b q0 us ws vs :=
 #[h.bag.same e,(e.upto (p:=b)).2 _ h.inn,e _ _ h.gm,e _ _ h.gp,e _ _ h.gl,h.lm,λx hx=>(h.row x hx).same e,h.nd]
theorem lW.upto (h:lW K A H n C m p l b q0 us ws vs) (M:Ml A m p l b q0) (u:dk b H H') (B':jm H' b):lW K A H' n C m p l b q0 us ws vs :=
 #[B',u.2 _ h.inn,u.other M.mb h.gm,u.other M.pb h.gp,u.other M.lb h.gl,h.lm,λx hx=>(h.row x hx).upto u h.bag M.ab,h.nd]
theorem lW.weak (h:lW K A H n C m p l b q0 us ws vs) (w:∀x∈us++vs++ws,∀y,C x y->C' x y):lW K A H n C' m p l b q0 us ws vs :=
 #[h.bag,h.inn,h.gm,h.gp,h.gl,h.lm,λx hx=>(h.row x hx).weak (λ_ z=>z) (w x hx),h.nd]
theorem lW.put (h:lW K A H n C m p l b q0 us ws vs) (M:Ml A m p l b q0) (aq:A q) (hq:H q=some (.lst zs)) (hv:bX K H y v) (hc:C (.ref q) y) (j:Nat):lW K A (upd H q (.lst (zs.set j v))) n C m p l b q0 us ws vs:=by
 have ne:∀{z},¬A z->z≠q:=λh e=>h (by rw[e];exact aq)
 refine #[h.bag.upd h.inn (ne M.ab).symm (ne M.aq).symm,h.inn.upd (ne M.ab).symm,by rw[bG (ne M.am)];exact h.gm,by rw[bG (ne M.ap)];exact h.gp,by rw[bG (ne M.al)];exact h.gl,h.lm,λx hx=>?_,h.nd];by_cases e:x=.ref q
 ·subst e;exact (h.row _ hx).put hq hv hc j
 ·obtain q1|qs|rfl|a1|r1|l1|c1:=h.row x hx;exact #[q1,qs,rfl,a1,r1.updL hq (λz=>e (by rw[z])),l1,c1]
theorem lW.set (h:lW K A H n C m p l b q0 us ws vs) (M:Ml A m p l b q0) (hx:iU K A H n (C v) v) (hn:v∉us++vs++ws) (j:Nat):lW K A (upd H m (.lst (us.set j v))) n C m p l b q0 (us.set j v) ws vs:=by
 have mem:∀x∈us.set j v++vs++ws,x=v\/x∈us++vs++ws:=λx hx=>by
  rcases av.mp hx with hx | hx
  ·rcases av.mp hx with hx | hx
   ·rcases cI hx with hx | hx
    ·exact .inr (by simp [hx])
    ·exact .inl hx
   ·exact .inr (by simp [hx])
  ·exact .inr (by simp [hx])
 refine #[h.bag.upd h.inn M.mb M.mq,h.inn.upd M.mb,aN,by rw[bG M.mp.symm];exact h.gp,by rw[bG M.ml.symm];exact h.gl,by rw[d5];exact h.lm,λx hx'=>?_,?_]
 ·rcases mem x hx' with rfl | hx'
  ·exact hx.other h.gm M.am
  ·exact (h.row x hx').other h.gm M.am
 ·have nd:=h.nd;rw[cF] at nd hn ⊢;obtain n1|n2|n3:=gV.mp nd;refine gV.mpr #[?_,n2,λa ha c hc=>?_]
  ·rcases cg j us.9 with z | z
   ·exact Ea n1 (λz'=>hn (av.mpr (.inl z'))) j
   ·rw[List.set_eq_of_length_le z];exact n1
  ·rcases cI ha with ha | rfl
   ·exact n3 a ha c hc
   ·exact λz=>hn (av.mpr (.inr (by rw[z];exact hc)))
end
theorem MW (h0:0 < M) (h1:M<=2^800) (hW:W<=2^140) (h:Fr M W x):jX x :=
 LG h0 (ag h1 (aj () ())) (ag hW (aj () ())) h
theorem S6 {t V c:Nat} (ht:t<=3) (hV:V<=2^20) (hc:c<=9):c*(9^t*V)<=2^140:=by
 have h1:9^t<=9^3:=aj () ht;have h2:c*(9^t*V)<=9*(9^3*2^20):=aK hc (aK h1 hV);exact ag h2 (ag (show 9*(9^3*2^20)<=2^40 by decide) (aj () ()))
theorem BO {α:Type} {l:List α} {v:α} (h:l.Nodup) (hn:v∉l):(l++[v]).Nodup:=gV.mpr #[h,by simp,λa ha c hc=>by rw[bA.mp hc];exact λz=>hn (by rw[<- z];exact ha)]
section
variable {g:TG}
theorem Ew (G:Hp->β->V->Prop) (C:β->Prop) (hB:jm H b) (hl:n<=1000) (hG:∀{H' H'' c x},G H' c x->dk b H' H''->jm H' b->G H'' c x)
  (hA:∀{H' c x},G H' c x->∃q,x=V.ref q/\H' q≠none)
  (hs:∀(i:Nat) H' NY NN,i < n->dk b H H'->jm H' b->(∀y c H2,dk b H' H2->jm H2 b->C c->G H2 c y->(∃q,y=V.ref q/\H' q=none)->NY y H2)->tW σ₀ g tf te (.int i) H' NY NN)
  (hd:∀ys cs H' p,H p=none->dk b H H'->jm H' b->H' p=some (.lst ys)->cs.9=n->ys.Nodup->(∀c∈cs,C c)->jp (G H') cs ys->(∃H2,H2 p=none/\jp (G H2) cs ys)->Q (.ref p) H'):uh (KH 0 n) σ₀ g tf te Q H:=by
 refine mM (λi ys H'=>dk b H H'/\jm H' b/\∃cs,cs.9=i/\ys.Nodup/\(∀c∈cs,C c)/\jp (G H') cs ys) lV #[(aH.refl _).upto,hB,[],rfl,UR,(λ_ z=>nomatch z),.nil] ?_ ?_
 ·rintro i ys H' hi hlen ⟨u,B,cs,lc,nd,hc,pr⟩;rw[wA];refine hs i H' _ _ hi u B λy c H2 u2 B2 cc gy #[q,ey,nq]=>#[u.trans u2,B2,cs++[c],by simp [lc],BO nd (λz=>by obtain c'|_|gc:=dF pr z;obtain q'|e'|h':=hA gc;rw[ey] at e';cases e';exact h' nq),Nb hc cc,bR (ca (λ_ _ z=>hG z u2 B) pr) (.cons gy .nil)]
 ·rintro ys H' hy ⟨u,B,cs,lc,nd,hc,pr⟩ p hp;have s:aH H' (upd H' p (.lst ys)):=aH.new hp;exact hd ys cs _ p (u.none B hp) (u.same s) (B.same s) aN lc nd hc (ca (λ_ _ z=>hG z s.upto B) pr) #[H',hp,pr]
end
structure Mi (K:FG9) (A:Addr->Prop) (n:Nat) (C:Rat->Prop) (m p l b q0:Addr) (us ws vs:List V) (H0 H:Hp):Prop where
 mix:lW K A H n (λ_=>C) m p l b q0 us ws vs
 gp:H p=some (.lst ws)
 gl:H l=some (.lst vs)
 kp:jO A b m H0 H
section
variable {K:FG9}
theorem Mi.same (h:Mi K A n C m p l b q0 us ws vs H0 H) (e:aH H H'):Mi K A n C m p l b q0 us ws vs H0 H':=#[h.mix.same e,e _ _ h.gp,e _ _ h.gl,h.kp.same e]
theorem Mi.upto (h:Mi K A n C m p l b q0 us ws vs H0 H) (M:Ml A m p l b q0) (u:dk b H H') (B:jm H' b):Mi K A n C m p l b q0 us ws vs H0 H':=#[h.mix.upto M u B,u.other M.pb h.gp,u.other M.lb h.gl,h.kp.upto u]
theorem Mi.row (h:Mi K A n C m p l b q0 us ws vs H0 H) (hx:x∈ws\/x∈vs):iU K A H n C x:=h.mix.row x (by rcases hx with hx | hx <;> simp [hx])
theorem Mi.put (h:Mi K A n C m p l b q0 us ws vs H0 H) (M:Ml A m p l b q0) (hx:V.ref q∈ws\/V.ref q∈vs) (hv:bX K H y v) (hc:C y) (j:Nat):∃zs,H q=some (.lst zs)/\zs.9=n/\Mi K A n C m p l b q0 us ws vs H0 (upd H q (.lst (zs.set j v))):=by
 obtain q'|zs|qs|e|a|g|lz|_:=(h.row hx).at;cases e;have ne:∀{z},¬A z->z≠q:=λh e=>h (by rw[e];exact a)
 exact #[zs,g,lz,h.mix.put M a g hv hc j,by rw[bG (ne M.ap)];exact h.gp,by rw[bG (ne M.al)];exact h.gl,h.kp.upd (.inl a)]
end
inductive IC (K:FG9) (vs:List V) (H:Hp) (Q:VK) (E9:XK):Prop
 | mk (b:Addr) (n w:Nat) (way first:Int):vs=[.ref b,.int n,.int way,.int first,.int w]->jm H b->n<=8->1<=w->w<=1000000->(∀r us H',H r=none->H' r=some (.lst us)->us.9=n->us.Nodup->(∀x∈us,iU K (λq=>H q=none/\q≠r) H' n (Dr (max w 6)) x)->jm H' b->dk b H H'->Q (.ref r) H')->IC K vs H Q E9
def PtF (n i o w c:Nat) (mv pt lk:LR9):Prop:=∃M V1:Nat,0 < M/\GF M V1 mv/\GF M V1 pt/\GF M V1 lk/\((w<=9/\M=2520/\V1=9^3*9)\/(9 < w/\M<=2^(c*((n+i+o)*n))/\V1=9^3*2^c))
inductive ID (K:FG9) (vs:List V) (H:Hp) (Q:VK) (E9:XK):Prop
 | mk (b:Addr) (n:Nat):vs=[.ref b,.int n]->jm H b->1<=n->n<=8->(∀r mv pt lk H',fK K H H' r mv pt lk->mv.9=n->pt.9=1->lk.9=1->dJ mv pt lk->GF 1 1 mv->GF 1 1 pt->GF 1 1 lk->jm H' b->dk b H H'->Q (.ref r) H')->ID K vs H Q E9
theorem p7 (M0:0 < M) (hM:M<=2^a) (hn:mv.9<=n0) (hV:(n0+1)*V1<=2^c) (fm:GF M V1 mv) (fp:GF M V1 pt) (h4:a<=400/\c<=40/\n0*(n0*(a+c)+4)<=1740/\n0*(n0*(n0*(a+c)+4)+a+c+4)<=8900000):jl mv pt a c:=by
 obtain h1|h2|h3|h5:=h4;have e1:mv.9*(a+c)<=n0*(a+c):=ax _ hn;have e2:mv.9*(mv.9*(a+c)+4)<=n0*(n0*(a+c)+4):=aK hn ();have e3:mv.9*(mv.9*(mv.9*(a+c)+4)+a+c+4)<=n0*(n0*(n0*(a+c)+4)+a+c+4):=aK hn ();exact #[M,V1,M0,hM,ag (ax _ ()) hV,fm,fp,h1,h2,(),()]
theorem Jv (lm:mv.9=n) (wm:∀xs∈mv,xs.9=n) (wp:∀xs∈pt,xs.9=n) (RR:bo (kry mv pt t) n R ps) (RR':bo (kry mv pt (t+1)) n R' ps'):bo (pt++R.map (rH mv)) n R' ps':=by
 have wk:=eO (mv:=mv) lm wp t;refine #[RR'.1,RR'.2.1,RR'.2.2.other ?_ ?_]
 ·refine xI (λi hi=>uC hi) λi hi=>qZ ?_
  rw[af] at hi;have:=RR.2.2.span i hi;rw[<- RR.1] at this;exact AW lm wm wk RR.2.1 hi this
 ·refine xI (λi hi=>uC hi) λi hi=>qZ ?_
  rw[af] at hi;exact AW lm wm RR.2.1 wk hi (RR.2.2.back i (by rw[<- RR.1];exact hi))
theorem Gh {rs:List Nat} {v v':Nat->i5}:∀{k:Nat} (pre:List i5),(∀j,j < k->∀r∈rs,v j r=v' j r)->jV rs (pre++jz v k)=jV rs (pre++jz v' k)
 | 0,_,_=>rfl
 | k+1,pre,h=>by
  show jV rs (pre++v k :: jz v k)=jV rs (pre++v' k :: jz v' k)
  rw[QU (h k ())];have:=Gh (k:=k) (pre++[v' k]) λj hj=>h j ()
  simpa using this
theorem Uz {F G:List i5->Rat} {r:Nat} {σ:Nat->Nat} (hF:∀ws:List i5,F (ws.map λv i=>v (σ i))=G ws):∀(post pre:List i5) (s:Rat),Af F r (pre.map λv i=>v (σ i)) (post.map λv i=>v (σ i)) s=Af G (σ r) pre post s
 | [],_,_=>rfl
 | v :: post,pre,s=>by
  have i1:=hF (pre++post);have i2:=Uz (r:=r) hF post (pre++[v]) (-s);simp only[cG,gL,Nh,Af] at i1 i2 ⊢;rw[i1,i2]
theorem UK {σ:Nat->Nat}:∀(rs:List Nat) (vs:List i5),jV rs (vs.map λv i=>v (σ i))=jV (rs.map σ) vs
 | [],[]=>rfl
 | [],_ :: _=>rfl
 | r :: rs,vs=>Uz (λws=>UK rs ws) vs [] 1
theorem PJ {σ:Nat->Nat}:∀{k:Nat},(lQ (λi=>i) k).map σ=lQ σ k
 | 0=>rfl
 | k+1=>by show σ k :: _=_;rw[PJ];rfl
theorem cw_map {τ:i5->i5} {v:Nat->i5}:∀{k:Nat},(jz v k).map τ=jz (λj=>τ (v j)) k
 | 0=>rfl
 | k+1=>by show τ (v k) :: _=_;rw[cw_map];rfl
theorem Wi:jV (lQ σ k) (jz v k)=jV (lQ (λi=>i) k) (jz (λj i=>v j (σ i)) k):=by
 rw[<- PJ,<- UK,cw_map]
theorem QT {N:Nat} {W:Nat->Nat}:∀{rs:List Nat} {vs:List i5},vs.9<=N->(∀v∈vs,∀r∈rs,Fr 1 (W r) (v r))->Fr 1 ((rs.map λr=>N*W r).foldr (λx y=>x*y) 1) (jV rs vs)
 | [],[],_,_=>by show Fr 1 1 1;exact (Fr.int (i:=1) ())
 | [],_ :: _,_,_=>by show Fr 1 _ 0;exact Fr.zero
 | r :: rs,vs,hl,h=>by
  have:=Qn (F:=λws=>jV rs ws) (r:=r) (B:=(rs.map λr=>N*W r).foldr (λx y=>x*y) 1) (W:=W r) (post:=vs) (pre:=[]) (s:=1) (λws h1 h2=>QT (by rw[dA] at h2;lia) λv hv r' hr'=>h v (by simpa using h1 v hv) r' (.tail _ hr')) (λw hw=>h w hw r (.head _)) (Fr.int (i:=1) ());refine this.mono ?_;show _<=N*W r*_
  rw[cV N];exact ax _ hl
structure Vb (r n:Nat) (Pm Y Z:Nat->Nat->Rat) (d:Rat) (W:Nat):Prop where
 d0:d≠0
 det:d=jV (lQ (λi=>i) r) (jz (λj i=>Pm i j) r)
 eq:∀i,i < r->∀c,c < n->Z i c=bw r λs=>Pm i s*Y s c
 pf:∀i,i < r->∀s,s < r->Fr 1 W (Pm i s)
 zf:∀i,i < r->∀c,c < n->Fr 1 W (Z i c)
section
variable {rows fs ls:LR9} {n r M W Wv Wb k P:Nat} {Pm Y Z B E a:Nat->Nat->Rat} {d:Rat} {ps:List Nat} {rs:LR9}
def YG (rows:LR9) (n S:Nat):Prop:=2*S<=3990000/\∃J:Nat->LR9->List Nat->Prop,J 0 rows []/\(∀P rs ps,J P rs ps->(∀i,ps.9<=i->i < rs.9->bE rs i P=0)->J (P+1) rs ps) /\
 (∀P fs ls ps t,J P (fs++ls) ps->fs.9=ps.9->t < ls.9->P < n->(ls.getD t []).getD P 0≠0->J (P+1) ((fs.map (BQ P (rA P (ls.getD t [])) )++[rA P (ls.getD t [])])++(ls.eraseIdx t).map (BQ P (rA P (ls.getD t [])))) (ps++[P])) /\
 (∀P rs ps,J P rs ps->Cn rows n P rs ps)/\∀P rs ps,J P rs ps->P<=n->∀i,i < rows.9->∃D:Nat,0 < D/\D<=2^S/\∀c,Tp D (2^S) (bE rs i c)
theorem T1.lws {w a:Nat} (F:T1 rows n w a) (hw:∀xs∈rows,xs.9=n):YG rows n (min rows.9 n*(w+4)+a):=by
 obtain _|_|_|_|_|_|_|_|e:=id F;refine #[e,Cn rows n,Cn.start hw,λ_ _ _ h z=>h.skip z,λ_ _ _ _ _ h hf ht hP hne=>h.lean hf ht hP hne,λ_ _ _ h=>h,λP rs ps h hP i hi=>?_];obtain D|D0|D1|D2:=h.sz F hP hi;exact #[D,D0,D1,λc=>(D2 c).mono (aj () ())]
end
section
variable {rows R R1 R2 mv pt:LR9} {n r M V1 W W' Wv Wb k P:Nat} {Pm Y Z B E a:Nat->Nat->Rat} {d:Rat} {ps ps1 ps2:List Nat} {rs:LR9}
theorem Pa (h0:0 < M) (h3:∀xs∈rows,∀x∈xs,Tp M W x):∀i,i < rows.9->∀c,Fr 1 W (fh (rows.map iX) i c):=λi hi c=>by
 have hx:=getD_in (e:=[]) hi;rw[AQ hi];unfold bE;generalize rows.getD i []=xs at hx ⊢;by_cases hc:c < xs.9
 ·have t:=h3 xs hx _ (getD_in (e:=0) hc);obtain s|e|b:=yG t h0 (rC (xs:=xs)) (rD (aB.mpr #[_,getD_in (e:=0) hc,rfl])) (AK h0 (h3 xs hx));rw[cD,e];exact Fr.int b
 ·rw[aa,aE ()];show Fr 1 W (_*0)
  rw[cS];exact Fr.zero
theorem Vb.of (hw:∀xs∈rows,xs.9=n) (hW:1<=W) (h0:0 < M) (h3:∀xs∈rows,∀x∈xs,Tp M W x) (RR:bo rows n R ps):∃Pm Z d,Vb ps.9 n Pm (bE R) Z d W:=by
 have ent:=Pa h0 h3;obtain ls|ps2|d|I:=yJ hw hW (by rw[af];exact ent) n (ah _);obtain _|_|⟨pm,B⟩|E:=I;rw[af] at B E
 have RF:EI rows.9 n (bE rows) ps2.9 (λj=>ps2.getD j 0) (λi c=>fh ls i c / d):=EI.other (E.done λi hi c hc=>xA (n:=n) (λzs hz=>by
  obtain xs|hx|rfl:=aB.mp hz;rw[qY];exact hw xs hx) hc) Ap Aq
 obtain e1|e2|e3:=RF.uniq RR.2.2 (λ_ hi=>eo.row hi) (λ_ hi=>eo.row hi);refine #[λi s=>fh (rows.map iX) (pm i) (ps2.getD s 0),λi c=>fh (rows.map iX) (pm i) c,d,?_];rw[<- e1];have km:=B.km;refine #[B.d0,?_,λi hi c hc=>?_,λi hi s hs=>ent _ (B.rng i ()) _,λi hi c hc=>ent _ (B.rng i ()) _]
 ·rw[B.det];exact Wi
 ·have:=B.coef (i:=i) (c:=c) ();rw[if_pos hi,nH] at this;rw[this];exact aO λs hs=>by rw[<- e3 s hs c];exact cD _ _
theorem QI {V:Nat} {f:Nat->Rat}:∀{k:Nat},(∀j,j < k->Fr 1 V (f j))->Fr 1 (k*V) (bw k f)
 | 0,_=>Fr.zero
 | k+1,h=>by
  rw[d7];exact (QI λj hj=>h j ()).add (h k ())
theorem yK {f:Nat->Rat} {a:Nat}:∀{b:Nat},bw (a+b) f=bw a f+bw b λt=>f (a+t)
 | 0=>by show bw a f=bw a f+0;grind
 | b+1=>by
  show bw (a+b) f+f (a+b)=_+(bw b _+f (a+b))
  rw[yK];grind
end
theorem xS (RR:bo rows n R ps):bo R n R ps:=#[RR.1,RR.2.1,RR.2.2.other (λi hi=>by rw[RR.1];exact RR.2.2.span i hi) (λi hi=>RR.2.2.back i (by rw[<- RR.1];exact hi))]
theorem Sm (RR:bo rows n R ps) (e:ps.9=n) (hi:i < n) (c:Nat):bE R i c=if c=i then 1 else 0:=by
 have lo:∀j,j < n->j<=ps.getD j 0:=by
  intro j
  induction j with
  | zero=>intro _;exact a7 _
  | succ j ih =>
   intro hj;have:=ih ();have:=RR.2.2.inc j (j+1) () ()
   lia
 have hi2:∀s j,j+s+1=n->ps.getD j 0<=j:=by
  intro s
  induction s with
  | zero =>
   intro j hj;have:=RR.2.2.low j ()
   lia
  | succ s ih =>
   intro j hj;have:=ih (j+1) ();have:=RR.2.2.inc j (j+1) () ()
   lia
 have ep:∀j,j < n->ps.getD j 0=j:=λj hj=>RJ (hi2 (n - 1 - j) j ()) (lo j hj)
 by_cases hc:c < n
 ·have:=RR.2.2.unit i () c ();rw[ep c hc] at this;rw[this];by_cases z:i=c
  ·rw[if_pos z,if_pos z.symm]
  ·rw[if_neg z,if_neg (SL z)]
 ·rw[pJ RR.2.1 (),if_neg ()]
theorem AI (h:∀i,i < rows.9->∀c,Tp M W (bE rows i c)):∀xs∈rows,∀x∈xs,Tp M W x:=λxs hx x hx'=>by
 obtain i|hi|rfl:=bu hx;obtain c|hc|rfl:=bu hx';have:=h i hi c;unfold bE at this;rw[aa (l:=rows),ae hi] at this;have e:(some rows[i]).getD []=rows[i]:=rfl;rw[e,aa,ae hc] at this;exact this
theorem jl.vb (F:jl mv pt a c) (wm:∀xs∈mv,xs.9=mv.9) (wp:∀xs∈pt,xs.9=mv.9) (ht:t<=ps.9) (RR:bo (kry mv pt t) mv.9 R ps):∃Pm Z d w,Vb ps.9 mv.9 Pm (bE R) Z d (2^w)/\(ps.9 < mv.9/\w=(mv.9 - 1)*(a+c)\/ps.9=mv.9/\w=0):=by
 have le:=RR.le;rcases cg ps.9 mv.9 with z | z
 ·obtain M|V|M0|Ma|hV|fm|fp|_:=F;have f:=Lv rfl wm wp hV fm fp t
  obtain Pm|Z|d|vb:=Vb.of (eO rfl wp t) (cm (n:=(mv.9 - 1)*(a+c))) (eH M0 (n:=t)) (λxs hx x hx'=>Tp.of (f xs hx x hx') (by
   refine ag (aD _ (jK Ma t)) ?_;rw[<- uj,<- aV];refine aj () ?_;rw[<- EK,b7,qq c];exact ax _ ())) RR
  exact #[Pm,Z,d,_,vb,.inl #[z,rfl]]
 ·have e:ps.9=mv.9:=()
  obtain Pm|Z|d|vb:=Vb.of (W:=2^0) (M:=1) RR.2.1 () () (AI λi hi c=>by
   rw[RR.1,e] at hi;rw[Sm RR e hi c]
   split
   ·exact #[1,by rw[Ry];rfl,()]
   ·exact #[0,by rw[ig];rfl,()]) (xS RR)
  exact #[Pm,Z,d,0,vb,.inr #[e,rfl]]
inductive A4 (K:FG9) (vs:List V) (H:Hp) (Q:VK) (E9:XK):Prop
 | mk (p:Addr) (n S:Nat) (H0:Hp) (rows:LR9):vs=[.ref p,.int n]->be K H0 H p rows->rows.9<=100->n<=100->(∀xs∈rows,xs.9=n)->YG rows n S->(∀r R ps H',H r=none->aH H H'->be K H H' r R->bo rows n R ps->ps.9<=rows.9->Q (.ref r) H')->A4 K vs H Q E9
def Gd (mv pt:LR9) (i:Nat) (R:LR9) (ps:List Nat):Prop:=bo (kry mv pt i) mv.9 R ps/\∃t,t<=ps.9/\t<=i/\bo (kry mv pt t) mv.9 R ps/\(t=i\/∀s,bo (kry mv pt (t+s)) mv.9 R ps)
theorem Gd.start:Gd mv pt 0 [] []:=#[K8,0,ah _,ah _,K8,.inl rfl]
theorem PC (wm:∀xs∈mv,xs.9=mv.9) (wp:∀xs∈pt,xs.9=mv.9) (h:bo (kry mv pt i) mv.9 R ps) (h':bo (kry mv pt (i+1)) mv.9 R' ps') (e:ps'.9=ps.9):∀s,bo (kry mv pt (i+s)) mv.9 R ps:=Eh rfl wm wp h (Jv rfl wm wp h h') e
theorem Gd.step (wm:∀xs∈mv,xs.9=mv.9) (wp:∀xs∈pt,xs.9=mv.9) (h:Gd mv pt i R ps) (h':bo (kry mv pt (i+1)) mv.9 R' ps'):Gd mv pt (i+1) R' ps'/\(mv.9<=i->R'=R):=by
 obtain h0|t|t1|t2|ht|hs:=h
 have st:(∀s,bo (kry mv pt (t+s)) mv.9 R ps)->Gd mv pt (i+1) R' ps'/\(mv.9<=i->R'=R):=λhs=>by
  have:=hs (i+1 - t);rw[show t+(i+1 - t)=i+1 by lia] at this;obtain rfl|rfl:=this.same h';exact #[#[h',t,t1,(),ht,.inr hs],λ_=>rfl]
 rcases hs with rfl | hs
 ·have gr:=Ju rfl wm wp h0 h';by_cases e:ps'.9=ps.9
  ·exact st (PC wm wp h0 h' e)
  ·refine #[#[h',t+1,(),ah _,h',.inl rfl],λhn=>?_];have:=h'.le
   lia
 ·exact st hs
theorem Gd.late (h:Gd mv pt i R ps) (hi:mv.9 < i) (hj:mv.9<=j):bo (kry mv pt j) mv.9 R ps:=by
 obtain h0|t|t1|t2|ht|hs:=h;have le:=h0.le;rcases hs with rfl | hs
 ·lia
 ·have:=hs (j - t);rwa [show t+(j - t)=j by lia] at this
theorem Py:typeLookup (.type "list_reverseiterator") "__len__"=pure none:=by
 rw[typeLookup_type,Zf]
 kernel_rfl
theorem Sk:typeLookup (.type "list_reverseiterator") "__length_hint__"=pure (some (.builtin "list_reverseiterator.__length_hint__")):=by
 rw[typeLookup_type,Zf]
 kernel_rfl
theorem Si (hit:s.heap.IsRevIter it l i) (q:Q false s):wE (model prog w) A (Zi (.ref it)) Q E s:=by
 unfold Zi;refine db (wpAny_specialOf hit.typeIs Py ?_);show wE _ A (specialOf (sK it) (wP "__length_hint__") >>= _) Q E s
 refine db (wpAny_specialOf hit.typeIs Sk ?_);generalize hid:("list_reverseiterator.__length_hint__":String)=id0
 dsimp only
 rw[show splitId id0=some ("list_reverseiterator","__length_hint__") from by subst hid;decide +kernel];subst hid;refine db (wpAny_isInstance (T:="list_reverseiterator") (b:=true) hit.typeIs (by rw[isSubtype_type];kernel_rfl) ?_);refine wpAny_ite_split (λz=>absurd z ()) (λ_=>?_);refine wpAny_ite_split (λ_=>?_) (λz=>absurd (by decide +kernel) z);exact wpAny_ite_split (λz=>absurd z (by decide +kernel)) (λ_=>pi q)
theorem Sl (hh:A.handled=none) (hit:s.heap.IsRevIter I l ((items.7:Int) - 1)) (hl:s.heap.IsList l items) (nI:l≠I) (nS:S≠I) (nL:S≠l) (hn:items.7<=ww) (hS:s.heap.get? S=some { cls:=.type "list",data:=.seq [].toArray c0 })
  (hR:∀h' tk acc c,(∀b o,b≠S->b≠I->s.heap.get? b=some o->h'.get? b=some o)->h'.get? S=some { cls:=.type "list",data:=.seq acc c }->ItemsOf (λi v=>items[items.7 - 1 - i]?=some v) acc items.7->R (.ok (.ret res)) { s with heap:=h',toks:=tk }) :
  wE (model prog w) A.in1 (Ev (.ref S) (.ref I) res) (λfin s2=>match fin with | .done f=>R (.ok f) s2 | .again c=>c.quiet=true/\Zu (model prog w) A c R s2) (λe s2=>R (.error e) s2) s:=by
 have W:=(Walks.listRev (prog:=prog) (w:=w) (A:=A.in1) hh I l nI items).toS;unfold Ev;refine db (wpAny_typeOf hit.typeIs ?_);rw[if_neg (by simp [On.List.listSameRef,nS])];refine db (wpAny_pyIter_revIter hit ?_);refine db (Ps (Si hit ?_));refine wpAny_ite_split (λz=>absurd z (by decide +kernel)) (λ_=>?_);have h0:s.heap.IsRevIter I l ((items.7:Int) - 1 - ((0:Nat):Int)):=by simpa using hit
 refine pi #[plainId_quiet F.plain_extend_loop _,codeAny_extend_loopS W hn S (by simp [nS,nL]) res items.size 0 s [].toArray c0 rfl (a7 _) #[a7 _,h0,hl] hS (ItemsOf.nil _) λs2 acc c hm h2 hi=>?_];rw[Moved.eq_with hm];exact hR s2.heap s2.toks acc c (λb o n1 n2 e=>hm.heap b o (by simp [n1,n2]) e) h2 hi
theorem Sj (hh:A.handled=none) (hit:s.heap.IsRevIter I l ((items.7:Int) - 1)) (hl:s.heap.IsList l items) (nI:l≠I) (hn:items.7<=ww)
  (hQ:∀h' tk acc c,(∀b o,b≠I->s.heap.get? b=some o->h'.get? b=some o)->h'.get? s.6=some { cls:=.type "list",data:=.seq acc c }->ItemsOf (λi v=>items[items.7 - 1 - i]?=some v) acc items.7->Q (.ref s.6) { s with heap:=h',toks:=tk }) :
  wE (model prog w) A (call (.type "list") [.ref I]) Q E s:=by
 refine callType_codes (Q₁:=λx s2=>x=.ref s.6/\s2={ s with heap:=s.heap.push { cls:=.type "list",data:=.seq [].toArray } }) F.called_list (F.typeCall_list_1 _) F.entry_list_init (code_list_new _ ⟨rfl,rfl⟩) λx s2 hx=>?_
 obtain rfl|rfl:=hx;have up:∀b o,s.heap.get? b=some o->(s.heap.push { cls:=.type "list",data:=.seq [].toArray }).get? b=some o:=λb o e=>io _ e
 have hS:(s.heap.push { cls:=.type "list",data:=.seq [].toArray }).get? s.6=some { cls:=.type "list",data:=.seq [].toArray }:=At _ rfl
 have lI:I≠s.6:=by
  obtain o|ho|_:=hit;exact cE (o0 ho)
 have lL:l≠s.6:=by
  obtain o|ho|_:=hl;exact cE (o0 ho)
 refine #[#[_,hS,rfl],F.args_list_init_2 _ _,?_];show wE _ A.in1.in1 (do let old <- Zd (.ref s.6);On.List.listUpdate (.ref s.6) (λ_=>[].toArray);letGo old.toList.reverse;Ev (.ref s.6) (.ref I) .none) _ _ _
 refine db ?_;unfold Zd;refine db (wpAny_seqItems hS rfl (pi ?_));refine db (m:=On.List.listUpdate (.ref s.6) (λ_=>[].toArray)) (Zo hS rfl ?_);have h3:=Heap.get?_update_self (Do (λ_=>([].toArray:Array Value))) hS rfl;have o3:∀b o,b≠s.6->(s.heap.push { cls:=.type "list",data:=.seq [].toArray }).get? b=some o->((s.heap.push { cls:=.type "list",data:=.seq [].toArray }).update s.heap.objs.size (Do (λ_=>([].toArray:Array Value)))).get? b=some o:=λb o nb e=>(Cl _ _ (SL nb)).trans e
 refine db (wpAny_letGo ?_);refine Sl (A:=A.in1) hh (hit.at λo e=>o3 _ _ lI (up _ _ e)) (hl.at λo e=>o3 _ _ lL (up _ _ e)) nI lI.symm lL.symm hn h3 λh' tk acc c hk h2 hi=>?_
 exact #[rfl,hQ h' tk acc c (λb o nb e=>hk b o (cE (o0 e)) nb (o3 _ _ (cE (o0 e)) (up _ _ e))) h2 hi]
section
variable {X:Cx}
def Ip (K:FG9) (ta:TA):TE:=λσ H Q=>ta σ H λvs H1=>∃l xs,vs=[.ref l]/\bI K H1 l xs/\xs.9<=1000/\∀L H',aH H1 H'->H1 L=none->H' L=some (.lst xs.reverse)->Q (.ref L) H'
theorem Ik:∀{xs:List V} {us:List Value},c7 xs us->c7 xs.reverse us.reverse
 | _,_,.nil=>.nil
 | _,_,.cons h r=>by
  rw[yC,yC];exact c7.append (Ik r) (.cons h .nil)
theorem Le (K:FG9) {e1:Expr} {ta:TA} {p p2 pos pos2:Pos} (hg:Gl X "list") (hm:X.mg "list"=none) (hg2:Gl X "reversed") (hm2:X.mg "reversed"=none) (ha:PA X [e1] ta) (hK:X.K=K:=by rfl) (hc:X.calm=true:=by rfl)
  (hs:r8 [e1] X.env=[(false,eval e1 X.env)]:=by rfl)
  (hs3:r8 [Zk (.Name "reversed" p2) [e1] [] pos2] X.env=[(false,eval (.Call (.Name "reversed" p2) [e1] [] pos2) X.env)]:=by rfl) :
  PE X (.Call (.Name "list" p) [.Call (.Name "reversed" p2) [e1] [] pos2] [] pos) (Ip K ta):=by
 subst hK;intro pins s σ H Q I h;refine GM (mL I hg hm boot_list ?_);refine AC ?_ (by rw[hs3];rfl) rfl;rw[hs3];show wE _ _ (spliced ((false,eval (.Call (.Name "reversed" p2) [e1] [] pos2) X.env) :: [])) _ _ s
 refine Calls.spliced_cons ?_;refine Call_ (mL I hg2 hm2 boot_reversed (AC (iQ (ha pos2 pins s σ H _ I h) λus s1 #[vs,H1,I1,r1,q1]=>?_) hs rfl));obtain l|xs|e|hl|hn|q:=q1;subst e;obtain u|rfl|ru:=vals1 r1;cases ru;obtain its|rv|pl|hz:=I1.list hl;have hlen:=rv.9;have pI:=pl.isList;refine call_reversed_list pI ?_;refine Calls.spliced_nil ?_;have kp:∀b o,s1.heap.get? b=some o->(s1.heap.push (revObj l ((its.5.7:Int) - 1))).get? b=some o:=λb o e=>io _ e
 have nI:l≠s1.6:=by
  obtain o|ho|_:=pI;exact cE (o0 ho)
 refine Sj (I.ok.hd hc) (I:=s1.6) (l:=l) (items:=its.5) #[_,At _ rfl,rfl,rfl] (pI.at λo e=>kp _ _ e) nI (by rw[aG];lia) λh' tk acc c hk hS hacc=>?_
 have sz:s1.6<=(s1.heap.push (revObj l ((its.5.7:Int) - 1))).objs.size:=by rw[UF];exact md _
 have nS:=I1.hok.fresh sz
 have ea:acc.toList=its.reverse:=by
  apply dM;intro j;rcases cg j its.9 with z | z
  ·have hj:j < acc.toList.9:=by rw[Da,hacc.1,aG];exact z
   have:=hacc.2 j acc.toList[j] (by rw[<- Array.getElem?_toList];exact ae hj);rw[ae hj,List.getElem?_reverse z];simpa using this.symm
  ·rw[aE (by rw[Da,hacc.1,aG];exact z),aE (by rw[nX];exact z)]
 have vs':c7 xs.reverse acc.toList:=by rw[ea];exact Ik rv
 have sl:xs.reverse.9<=ww:=by rw[nX];exact hz
 refine #[.ref _,_,I1.laid (o:=.lst xs.reverse) (λb o e=>hk b o (cE (o0 e)) (kp b o e)) sz ?_,rfl,q _ _ (aH.new nS) nS aN];exact #[sl,acc.toList,c,vs',by simpa using hS]
end
theorem Jq {F G:List i5->Rat} {r:Nat} {g:Nat->Rat} {c:Rat} (hF:∀ws:List i5,F (ws.map λv i=>g i*v i)=c*G ws):∀(post pre:List i5) (s:Rat),Af F r (pre.map λv i=>g i*v i) (post.map λv i=>g i*v i) s=g r*c*Af G r pre post s
 | [],_,_=>by show (0:Rat)=_*0;grind
 | v :: post,pre,s=>by
  have i1:=hF (pre++post);have i2:=Jq (r:=r) hF post (pre++[v]) (-s);simp only[cG,gL,Nh,Af] at i1 i2 ⊢;rw[i1,i2];grind
theorem yp {g:Nat->Rat}:∀(rs:List Nat) (vs:List i5),jV rs (vs.map λv i=>g i*v i)=(rs.map g).foldr (λx y=>x*y) 1*jV rs vs
 | [],[]=>by show (1:Rat)=1*1;grind
 | [],_ :: _=>by show (0:Rat)=1*0;grind
 | r :: rs,vs=>by
  have:=Jq (r:=r) (F:=λws=>jV rs ws) (G:=λws=>jV rs ws) (c:=(rs.map g).foldr (λx y=>x*y) 1) (λws=>yp rs ws) vs [] 1;exact this
theorem Fo {g:Nat->Rat}:∀{rs:List Nat},(∀r∈rs,g r≠0)->(rs.map g).foldr (λx y=>x*y) 1≠0
 | [],_=>by show (1:Rat)≠0;decide
 | r :: rs,h=>by
  show g r*_≠0
  have h1:=h r (.head _);have h2:=Fo λr' hr'=>h r' (.tail _ hr')
  intro z;rcases Cp.mp z with z | z
  ·exact h1 z
  ·exact h2 z
section
variable {rows R X K0:LR9} {due L:List Rat} {n m M W D E W0 W1:Nat} {ps:List Nat}
theorem Er (hw:∀xs∈rows,xs.9=n) (hW:1<=W) (h0:0 < M) (h3:∀xs∈rows,∀x∈xs,Tp M W x) (RR:bo rows n R ps):∃pm:Nat->Nat,(∀i j,i < ps.9->j < ps.9->pm i=pm j->i=j)/\(∀t,t < ps.9->pm t < rows.9)/\ps.9<=rows.9/\jV (lQ pm ps.9) (jz (λj i=>bE rows i (ps.getD j 0)) ps.9)≠0:=by
 have ent:=Pa h0 h3;obtain ls|ps2|d|I:=yJ hw hW (by rw[af];exact ent) n (ah _);obtain _|_|⟨pm,B⟩|E:=I;rw[af] at B E
 have RF:EI rows.9 n (bE rows) ps2.9 (λj=>ps2.getD j 0) (λi c=>fh ls i c / d):=EI.other (E.done λi hi c hc=>xA (n:=n) (λzs hz=>by
  obtain xs|hx|rfl:=aB.mp hz;rw[qY];exact hw xs hx) hc) Ap Aq
 obtain e1|e2|e3:=RF.uniq RR.2.2 (λ_ hi=>eo.row hi) (λ_ hi=>eo.row hi);have km:=B.km;have dt:=B.det;have d0:=B.d0
 have e4:jV (lQ pm ps2.9) ([]++jz (λj r=>fh (rows.map iX) r (ps2.getD j 0)) ps2.9)=jV (lQ pm ps2.9) ([]++jz (λj i=>vJ rows i*bE rows i (ps.getD j 0)) ps2.9):=Gh [] λj hj r hr=>by
  obtain t|ht|rfl:=mE hr;rw[AQ (B.rng t ()),e2 j hj];rfl
 have e5:jz (λj i=>vJ rows i*bE rows i (ps.getD j 0)) ps2.9=(jz (λj i=>bE rows i (ps.getD j 0)) ps2.9).map λv i=>vJ rows i*v i:=(cw_map (τ:=λv i=>vJ rows i*v i)).symm
 refine #[pm,λi j hi hj e=>B.inj i j () () e,λt ht=>B.rng t (),(),?_];rw[<- e1];intro z;apply d0;rw[dt];have e4:jV (lQ pm ps2.9) (jz (λj r=>fh (rows.map iX) r (ps2.getD j 0)) ps2.9)=jV (lQ pm ps2.9) (jz (λj i=>vJ rows i*bE rows i (ps.getD j 0)) ps2.9):=e4;rw[e4,e5,yp,z,cS]
theorem Um (hd:due.9=X.9) (hw:∀xs∈X,xs.9=n) (RR:bo (dm X due) (n+1) R ps) (hn:n∉ps) (hi:i < X.9):due.getD i 0=bw ps.9 λj=>bE R j n*bE X i (ps.getD j 0):=by
 obtain j1|j2:=zT hd hw hi;have sp:=RR.2.2.span i (by rw[qU hd];exact hi);have:=RR.2.2.coef sp n;rw[<- j2,this];refine aO λj hj=>?_
 have lo:=RR.2.2.low j hj;have ne:ps.getD j 0≠n:=λz=>hn (by rw[<- z];exact getD_in hj)
 rw[j1 _ ()];exact cD _ _
theorem My (RR:bo X (n+1) R ps) (hy:y∈ip R ps n):y=0\/∃j,j < ps.9/\y=bE R j n:=by
 obtain c|hc|rfl:=bu hy;have lc:(ip R ps n).9=n:=mi;have e:(ip R ps n)[c]=(ip R ps n).getD c 0:=by rw[aa,ae hc];rfl
 rw[e];by_cases hp:c∈ps
 ·obtain j|hj|ej:=bu hp
  right
  refine #[j,hj,?_];have ej':ps.getD j 0=c:=by rw[aa,ae hj];exact ej
  have:=Pq (R:=R) (ps:=ps) (n:=n) (j:=ps.9) (c:=c) ();unfold ip;rw[this,eB hj λi hi ne=>if_neg λz=>?_,if_pos ej'];rcases cg i j with y | y
  ·have:=RR.2.2.inc i j y hj
   lia
  ·have:=RR.2.2.inc j i () hi
   lia
 ·exact .inl (Sf hp)
theorem LK (hl:vs.9<=N) (h:∀v∈vs,∀r∈rs,Fr 1 Wx (v r)):∃z:Int,jV rs vs=(z:Rat)/\z.natAbs<=(N*Wx)^rs.9:=by
 have f:=zU hl h;obtain z|ez:=tJ f;rw[ez] at f;exact #[z,ez,tI f]
theorem Sb (he:ps.9<=n->ps.9<=e) (hK:∀xs∈K0,xs.9=n) (hL:L.9=n) (n15:n<=15) (D0:0 < D) (E0:0 < E) (w0:1<=W0) (w1:1<=W1) (tk:∀xs∈K0,∀x∈xs,Tp D W0 x) (tl:∀x∈L,Tp E W1 x) (RR:bo (dm (b8 K0 n) L) (K0.9+1) R ps) (hn:K0.9∉ps) :
  ∃q:Nat,0 < q/\q<=(16*W0)^e/\∀y∈ip R ps K0.9,Tp (E*q) (D*(n*(W1*(16*W0)^e))) y:=by
 have lt:(b8 K0 n).9=n:=di;have wt:∀xs∈b8 K0 n,xs.9=K0.9:=ks;have hd:L.9=(b8 K0 n).9:=by rw[lt];exact hL
 have tfn:∀i,i < n->∀j,bE (b8 K0 n) i j=bE K0 j i:=λi hi j=>by
  unfold bE;rw[aa (l:=b8 K0 n),xF hi];show (K0.map λxs=>xs.getD i 0).getD j 0=_
  rw[aa,aA,aa (l:=K0)];cases K0[j]? with
  | none=>show (0:Rat)=([]:List Rat).getD i 0;rw[aa];rfl
  | some xs=>rfl
 have tkf:∀j i,Tp D W0 (bE K0 j i):=λj i=>by
  unfold bE;rw[aa (l:=K0)];by_cases hj:j < K0.9
  ·rw[ae hj];exact kJ (tk _ (aQ hj)) i
  ·rw[aE ()];show Tp D W0 (([]:List Rat).getD i 0)
   exact kJ (by intro x z;cases z) i
 have tlf:∀i,Tp E W1 (L.getD i 0):=λi=>kJ tl i
 have tj:∀xs∈dm (b8 K0 n) L,∀x∈xs,Tp (D*E) (W0*E+W1*D) x:=AI λi hi c=>by
  rw[qU hd,lt] at hi;obtain j1|j2:=zT hd wt (by rw[lt];exact hi);by_cases hc:c < K0.9
  ·rw[j1 c hc,tfn i hi];obtain z|ee|b:=tkf c i;exact #[z*E,by rw[fE,aW,<- ee,aL];grind,by rw[dc,bM];exact ag (ax _ b) (Aa _ _)]
  ·by_cases hc2:c=K0.9
   ·rw[hc2,j2];obtain z|ee|b:=tlf i;exact #[z*D,by rw[fE,aW,<- ee,aL];grind,by rw[dc,bM];exact ag (ax _ b) (Nat.le_add_left _ _)]
   ·rw[pJ (ym wt) ()];exact #[0,by rw[ig];rfl,a7 _]
 obtain pm|pinj|plt|kn|dne:=Er (ym wt) (W:=W0*E+W1*D) (ag (bC w0 E0) (Aa _ _)) (bC D0 E0) tj RR;rw[qU hd,lt] at plt kn
 have pl:∀j,j < ps.9->ps.getD j 0 < K0.9:=λj hj=>by
  have lo:=RR.2.2.low j hj;have ne:ps.getD j 0≠K0.9:=λz=>hn (by rw[<- z];exact getD_in hj)
  lia
 have Dne:(D:Rat)≠0:=λz=>by
  have:((D:Int):Rat)=0:=by rw[aL];exact z
  have:=oo this
  lia
 have Ene:(E:Rat)≠0:=λz=>by
  have:((E:Int):Rat)=0:=by rw[aL];exact z
  have:=oo this
  lia
 have rlt:∀r∈lQ pm ps.9,r < n:=λr hr=>by
  obtain t|ht|rfl:=mE hr;exact plt t ht
 obtain ⟨v,ev⟩:∃v:Nat->i5,v=λj i=>(D:Rat)*bE K0 (ps.getD j 0) i:=#[_,rfl]
 have vint:∀j r,Fr 1 W0 (v j r):=λj r=>by
  obtain z|ee|b:=tkf (ps.getD j 0) r;rw[ev];show Fr 1 W0 ((D:Rat)*_)
  rw[cD,ee];exact Fr.int b
 have den:jV (lQ pm ps.9) (jz v ps.9)≠0:=by
  have e1:jV (lQ pm ps.9) ([]++jz v ps.9)=jV (lQ pm ps.9) ([]++jz (λj i=>(D:Rat)*bE (dm (b8 K0 n) L) i (ps.getD j 0)) ps.9):=Gh [] λj hj r hr=>by
   have hr:=rlt r hr;obtain j1|_:=zT hd wt (i:=r) (by rw[lt];exact hr);rw[j1 _ (pl j hj),tfn r hr,ev]
  have e2:jz (λj i=>(D:Rat)*bE (dm (b8 K0 n) L) i (ps.getD j 0)) ps.9=(jz (λj i=>bE (dm (b8 K0 n) L) i (ps.getD j 0)) ps.9).map λv i=>(λ_=>(D:Rat)) i*v i:=(cw_map (τ:=λv i=>(D:Rat)*v i)).symm
  have e1:jV (lQ pm ps.9) (jz v ps.9)=jV (lQ pm ps.9) (jz (λj i=>(D:Rat)*bE (dm (b8 K0 n) L) i (ps.getD j 0)) ps.9):=e1;rw[e1,e2,yp];intro z;rcases Cp.mp z with z | z
  ·exact Fo (g:=λ_=>(D:Rat)) (λ_ _=>Dne) z
  ·exact dne z
 obtain q|eq|bq:=LK (N:=16) (Wx:=W0) (rs:=lQ pm ps.9) (vs:=jz v ps.9) (by rw[cw_len];lia) λw hw r _=>by
  obtain t|_|rfl:=cw_in hw;exact vint t r
 rw[qO] at bq;have up:(16*W0)^ps.9<=(16*W0)^e:=aj () (he kn);have q0:q≠0:=λz=>den (by rw[eq,z];rfl)
 refine #[q.natAbs,(),ag bq up,λy hy=>?_];rcases My RR hy with rfl | ⟨i,hi,rfl⟩
 ·exact #[0,by rw[ig];rfl,a7 _]
 ·have hW:∀r∈lQ pm ps.9,(E:Rat)*L.getD r 0=bw ps.9 λj=>((E:Rat)*bE R j K0.9 / D)*v j r:=λr hr=>by
   have hr:=rlt r hr;rw[Um hd wt RR hn (i:=r) (by rw[lt];exact hr),<- cB];refine aO λj hj=>?_
   rw[tfn r hr,ev]
   dsimp only
   grind
  have cr:=v8 (v:=v) (c:=λj=>(E:Rat)*bE R j K0.9 / D) (W:=λr=>(E:Rat)*L.getD r 0) hi hW
  have ex:jV (lQ pm ps.9) (JZ v i ps.9++(λr=>(E:Rat)*L.getD r 0) :: jz v i)=bw ps.9 λt=>((E:Rat)*L.getD (pm t) 0)*jV (lQ pm ps.9) (JZ v i ps.9++(λr=>if r=pm t then 1 else 0) :: jz v i):=Gf (W:=λ_=>0) (v:=λt r=>if r=pm t then 1 else 0) (c:=λt=>(E:Rat)*L.getD (pm t) 0) _ _ (λr hr=>by
   obtain t|ht|rfl:=mE hr;rw[eB ht λj hj ne=>by rw[if_neg λz=>ne (pinj j t hj ht z.symm),cS],if_pos rfl,ui])
  have hlen:∀x:i5,(JZ v i ps.9++x :: jz v i).9<=16:=λx=>by
   have:=congrArg FS (cw_split (v:=v) hi);rw[ai,a9,cw_len] at this;rw[ai,a9]
   lia
  have nf:Fr 1 (n*(W1*(16*W0)^e)) (jV (lQ pm ps.9) (JZ v i ps.9++(λr=>(E:Rat)*L.getD r 0) :: jz v i)):=by
   rw[ex];refine (QI (V:=W1*(16*W0)^e) λt ht=>?_).mono (ax _ kn);obtain z|ee|b:=tlf (pm t)
   have f1:Fr 1 W1 ((E:Rat)*L.getD (pm t) 0):=by
    rw[cD,ee];exact Fr.int b
   have f2:=zU (W:=W0) (N:=16) (rs:=lQ pm ps.9) (hlen λr=>if r=pm t then 1 else 0) λw hw r _=>by
    rcases av.mp hw with hw | hw
    ·obtain s|_|rfl:=Cf hw;exact vint s r
    ·rcases aJ.mp hw with rfl | hw
     ·dsimp only
      split
      ·exact Fr.one w0
      ·exact Fr.zero
     ·obtain s|_|rfl:=cw_in hw;exact vint s r
   rw[qO] at f2;have:=f1.mul f2;rw[uo] at this;exact this.mono (aD _ up)
  obtain z|ez:=tJ nf;rw[ez] at nf cr;have bz:=tI nf;rw[eq] at cr
  have key:bE R i K0.9*((E:Rat)*(q:Rat))=(D:Rat)*(z:Rat):=by
   rw[cr];grind
  have kq:(((E*q.natAbs:Nat):Rat))=(E:Rat)*((q.natAbs:Nat):Rat):=fE ..;rcases tV q with h | h
  ·have hq:((q.natAbs:Nat):Rat)=(q:Rat):=by rw[<- aL,<- h]
   refine #[D*z,?_,by rw[dc,bM];exact aD _ bz];rw[kq,hq,key,aW,aL]
  ·have hq:((q.natAbs:Nat):Rat)=-(q:Rat):=by rw[<- aL,<- cL];congr 1;lia
   refine #[-(D*z),?_,by rw[jR,dc,bM];exact aD _ bz];rw[kq,hq,cL,aW,aL,<- key];grind
theorem U7 (hK:∀xs∈K0,xs.9=n) (hL:L.9=n) (n15:n<=15) (D0:0 < D) (E0:0 < E) (w0:1<=W0) (w1:1<=W1) (tk:∀xs∈K0,∀x∈xs,Tp D W0 x) (tl:∀x∈L,Tp E W1 x) (RR:bo (dm (b8 K0 n) L) (K0.9+1) R ps) (hn:K0.9∉ps) :
  ∃q:Nat,0 < q/\q<=(16*W0)^n/\∀y∈ip R ps K0.9,Tp (E*q) (D*(n*(W1*(16*W0)^n))) y :=
 Sb (λh=>h) hK hL n15 D0 E0 w0 w1 tk tl RR hn
theorem PH {pm w:Nat->Nat} {X Y s:Nat} (hX:1<=X) (hY:1<=Y) (h1:∀r,r≠s->w r<=X) (h2:w s<=Y):∀k,(∀i j,i < k->j < k->pm i=pm j->i=j)->((∃t,t < k/\pm t=s)->((lQ pm k).map w).foldr (λx y=>x*y) 1<=X^k*Y)/\((∀t,t < k->pm t≠s)->((lQ pm k).map w).foldr (λx y=>x*y) 1<=X^k)
 | 0,_=>#[λ#[t,h,_]=>absurd h (dw _),λ_=>ah _]
 | k+1,inj=>by
  obtain i1|i2:=PH (pm:=pm) (w:=w) hX hY h1 h2 k λi j hi hj=>inj i j () ()
  have mul:((lQ pm (k+1)).map w).foldr (λx y=>x*y) 1=w (pm k)*((lQ pm k).map w).foldr (λx y=>x*y) 1:=rfl;refine #[λ#[t,ht,et]=>?_,λh=>?_]
  ·rw[mul];by_cases e:pm k=s
   ·have:=i2 λt' ht' z=>by
     have:=inj t' k () () (z.trans e.symm)
     lia
    rw[e]
    calc w s*_<=Y*X^k:=aK h2 this
     _=X^k*Y:=b7 _ _
     _<=X^(k+1)*Y:=ax _ (aj hX (md _))
   ·have:=i1 #[t,by rcases cg t k with z | z;exact z;exact absurd (by rw[show k=t by lia];exact et) e,et]
    calc w (pm k)*_<=X*(X^k*Y):=aK (h1 _ e) this
     _=X^(k+1)*Y:=by rw[gK,<- cV,b7 X]
  ·rw[mul,gK,b7 (X^k)];exact aK (h1 _ (h k ())) (i2 λt ht=>h t ())
theorem Sq {X Y s:Nat} (hX:1<=X) (hY:1<=Y) (h1:∀r,r≠s->w r<=X) (h2:w s<=Y) (hk:k<=n) (inj:∀i j,i < k->j < k->pm i=pm j->i=j):((lQ pm k).map w).foldr (λx y=>x*y) 1<=X^n*Y:=by
 obtain a|b:=PH (pm:=pm) (w:=w) hX hY h1 h2 k inj;have up:X^k<=X^n:=aj hX hk;by_cases e:∃t,t < k/\pm t=s
 ·exact ag (a e) (ax _ up)
 ·exact ag (b λt ht z=>e #[t,ht,z]) (ag up (bZ _ hY))
theorem NH (he:ps.9<=n->ps.9<=K0.9+1->ps.9<=e) (hK:∀xs∈K0,xs.9=n) (hL:L.9=n) (n15:n<=15) (D0:0 < D) (E0:0 < E) (w0:1<=W0) (tk:∀xs∈K0,∀x∈xs,Tp D W0 x) (tl:∀x∈L,Tp E W1 x) (RR:bo (dm (K0++[L]) (ce K0.9 0++[1])) (n+1) R ps) (hn:n∉ps) :
  ∃q:Nat,0 < q/\q<=(16*W0)^e*(16*(W1+E))/\∀y∈ip R ps n,Tp q ((16*W0)^e*(16*(W1+E))) y:=by
 have hw:∀xs∈K0++[L],xs.9=n:=λxs hx=>by
  rcases av.mp hx with hx | hx
  ·exact hK xs hx
  ·rw[bA.mp hx];exact hL
 have hd:(ce K0.9 (0:Rat)++[1]).9=(K0++[L]).9:=by simp
 have lX:(K0++[L]).9=K0.9+1:=by simp
 have due:∀i,i < K0.9+1->(ce K0.9 (0:Rat)++[1]).getD i 0=if i=K0.9 then 1 else 0:=λi hi=>by
  rw[aa];by_cases ee:i=K0.9
  ·rw[bc (by simp;lia),if_pos ee];simp [ee]
  ·rw[bF (by simp;lia),if_neg ee,cU,if_pos ()];rfl
 have tX:∀i c,Tp (if i=K0.9 then E else D) (if i=K0.9 then W1 else W0) (bE (K0++[L]) i c):=λi c=>by
  by_cases ee:i=K0.9
  ·rw[if_pos ee,if_pos ee,ee];have:=vM (X:=K0) (Y:=[L]) (i:=0);rw[Nat.add_zero] at this;rw[this];exact kJ tl c
  ·rw[if_neg ee,if_neg ee];by_cases h:i < K0.9
   ·rw[yv h];unfold bE;rw[aa (l:=K0),ae h];exact kJ (tk _ (aQ h)) c
   ·unfold bE;rw[aa (l:=K0++[L]),aE (by rw[lX];lia)];exact kJ (by intro x z;cases z) c
 have tj:∀xs∈dm (K0++[L]) (ce K0.9 0++[1]),∀x∈xs,Tp (D*E) (W0*E+W1*D+D*E) x:=AI λi hi c=>by
  rw[qU hd] at hi;obtain j1|j2:=zT hd hw hi;by_cases hc:c < n
  ·rw[j1 c hc];obtain z|ee|b:=tX i c;by_cases h:i=K0.9
   ·rw[if_pos h] at ee b;exact #[z*D,by rw[fE,aW,<- ee,aL];grind,by rw[dc,bM];have:=ax D b;lia]
   ·rw[if_neg h] at ee b;exact #[z*E,by rw[fE,aW,<- ee,aL];grind,by rw[dc,bM];have:=ax E b;lia]
  ·by_cases hc2:c=n
   ·rw[hc2,j2,due i ()]
    split
    ·exact #[(D*E:Nat),by rw[Ry,aL],by rw[bM];lia]
    ·exact #[0,by rw[ig];rfl,a7 _]
   ·rw[pJ (ym hw) ()];exact #[0,by rw[ig];rfl,a7 _]
 obtain pm|pinj|plt|kn1|dne:=Er (ym hw) (W:=W0*E+W1*D+D*E) (by have:=bC D0 E0;lia) (bC D0 E0) tj RR;rw[qU hd,lX] at plt kn1
 have pl:∀j,j < ps.9->ps.getD j 0 < n:=λj hj=>by
  have lo:=RR.2.2.low j hj;have ne:ps.getD j 0≠n:=λz=>hn (by rw[<- z];exact getD_in hj)
  lia
 have kn:ps.9<=n:=by
  have inc:∀j,j < ps.9->j<=ps.getD j 0:=by
   intro j
   induction j with
   | zero=>intro _;exact a7 _
   | succ j ih =>
    intro hj;have:=ih ();have:=RR.2.2.inc j (j+1) () hj
    lia
  rcases fV ps.9 with z | z
  ·lia
  ·have:=inc (ps.9 - 1) ();have:=pl (ps.9 - 1) ()
   lia
 obtain ⟨g,eg⟩:∃g:Nat->Rat,g=λi=>((if i=K0.9 then E else D:Nat):Rat):=#[_,rfl]
 have gne:∀i,g i≠0:=λi z=>by
  rw[eg] at z;have z:(((if i=K0.9 then E else D:Nat):Int):Rat)=0:=by rw[aL];exact z
  have:=oo z
  split at this <;> lia
 have rlt:∀r∈lQ pm ps.9,r < K0.9+1:=λr hr=>by
  obtain t|ht|rfl:=mE hr;exact plt t ht
 obtain ⟨v,ev⟩:∃v:Nat->i5,v=λj i=>g i*bE (K0++[L]) i (ps.getD j 0):=#[_,rfl]
 obtain ⟨wt,ew⟩:∃wt:Nat->Nat,wt=λi=>if i=K0.9 then W1+E else W0:=#[_,rfl]
 have vint:∀j r,Fr 1 (wt r) (v j r):=λj r=>by
  obtain z|ee|b:=tX r (ps.getD j 0);rw[ev,eg,ew];show Fr 1 _ (_*_)
  rw[cD,ee];refine (Fr.int b).mono ?_
  dsimp only
  split <;> lia
 have bnd:∀{vs:List i5},vs.9<=16->(∀w∈vs,∀r∈lQ pm ps.9,Fr 1 (wt r) (w r))->∃z:Int,jV (lQ pm ps.9) vs=(z:Rat)/\z.natAbs<=(16*W0)^e*(16*(W1+E)):=λ{vs} hl h=>by
  have f:=QT hl h;obtain z|ez:=tJ f;rw[ez] at f;refine #[z,ez,ag (tI f) (Sq (s:=K0.9) () () (λr hr=>?_) ?_ (he kn kn1) pinj)]
  ·rw[ew];dsimp only;rw[if_neg hr];exact ah _
  ·rw[ew];dsimp only;rw[if_pos rfl];exact ah _
 have den:jV (lQ pm ps.9) (jz v ps.9)≠0:=by
  have e1:jV (lQ pm ps.9) ([]++jz v ps.9)=jV (lQ pm ps.9) ([]++jz (λj i=>g i*bE (dm (K0++[L]) (ce K0.9 0++[1])) i (ps.getD j 0)) ps.9):=Gh [] λj hj r hr=>by
   have hr:=rlt r hr;obtain j1|_:=zT hd hw (i:=r) (by rw[lX];exact hr);rw[j1 _ (pl j hj),ev]
  have e2:jz (λj i=>g i*bE (dm (K0++[L]) (ce K0.9 0++[1])) i (ps.getD j 0)) ps.9=(jz (λj i=>bE (dm (K0++[L]) (ce K0.9 0++[1])) i (ps.getD j 0)) ps.9).map λv i=>g i*v i:=(cw_map (τ:=λv i=>g i*v i)).symm
  have e1:jV (lQ pm ps.9) (jz v ps.9)=jV (lQ pm ps.9) (jz (λj i=>g i*bE (dm (K0++[L]) (ce K0.9 0++[1])) i (ps.getD j 0)) ps.9):=e1;rw[e1,e2,yp];intro z;rcases Cp.mp z with z | z
  ·exact Fo (λr _=>gne r) z
  ·exact dne z
 obtain q|eq|bq:=bnd (vs:=jz v ps.9) (by rw[cw_len];lia) λw hw r _=>by
  obtain t|_|rfl:=cw_in hw;exact vint t r
 have q0:q≠0:=λz=>den (by rw[eq,z];rfl)
 refine #[q.natAbs,(),bq,λy hy=>?_];rcases My RR hy with rfl | ⟨i,hi,rfl⟩
 ·exact #[0,by rw[ig];rfl,a7 _]
 ·have hW:∀r∈lQ pm ps.9,g r*(if r=K0.9 then 1 else 0)=bw ps.9 λj=>bE R j n*v j r:=λr hr=>by
   have hr:=rlt r hr;rw[<- due r hr,Um hd hw RR hn (i:=r) (by rw[lX];exact hr),<- cB];refine aO λj hj=>?_
   rw[ev]
   dsimp only
   grind
  have cr:=v8 (v:=v) (c:=λj=>bE R j n) (W:=λr=>g r*(if r=K0.9 then 1 else 0)) hi hW
  obtain z|ez|bz:=bnd (vs:=JZ v i ps.9++(λr=>g r*(if r=K0.9 then 1 else 0)) :: jz v i) (by
   have:=congrArg FS (cw_split (v:=v) hi);rw[ai,a9,cw_len] at this;rw[ai,a9]
   lia) λw hw r _=>by
    rcases av.mp hw with hw | hw
    ·obtain s|_|rfl:=Cf hw;exact vint s r
    ·rcases aJ.mp hw with rfl | hw
     ·dsimp only
      by_cases ee:r=K0.9
      ·rw[if_pos ee,ui,eg,ew]
       dsimp only
       rw[if_pos ee,if_pos ee,<- aL];exact Fr.int (by rw[bM];lia)
      ·rw[if_neg ee,cS];exact Fr.zero
     ·obtain s|_|rfl:=cw_in hw;exact vint s r
  rw[ez,eq] at cr;have key:bE R i n*(q:Rat)=(z:Rat):=cr.symm;rcases tV q with h | h
  ·have hq:((q.natAbs:Nat):Rat)=(q:Rat):=by rw[<- aL,<- h]
   exact #[z,by rw[hq,key],bz]
  ·have hq:((q.natAbs:Nat):Rat)=-(q:Rat):=by rw[<- aL,<- cL];congr 1;lia
   exact #[-z,by rw[hq,cL,<- key];grind,by rw[jR];exact bz]
theorem P2 (hK:∀xs∈K0,xs.9=n) (hL:L.9=n) (n15:n<=15) (D0:0 < D) (E0:0 < E) (w0:1<=W0) (tk:∀xs∈K0,∀x∈xs,Tp D W0 x) (tl:∀x∈L,Tp E W1 x) (RR:bo (dm (K0++[L]) (ce K0.9 0++[1])) (n+1) R ps) (hn:n∉ps) :
  ∃q:Nat,0 < q/\q<=(16*W0)^n*(16*(W1+E))/\∀y∈ip R ps n,Tp q ((16*W0)^n*(16*(W1+E))) y :=
 NH (λh _=>h) hK hL n15 D0 E0 w0 tk tl RR hn
end
def jT (mv:LR9):Nat->List Rat->List Rat
 | 0,x=>x
 | t+1,x=>rH mv (jT mv t x)
section
variable {mv pt lk pus:LR9} {st pu go:List Rat} {n t T c:Nat}
theorem oA (h:st.9=mv.9):∀t,(jT mv t st).9=mv.9
 | 0=>h
 | _+1=>xr
theorem Ca {x y:List Rat} (h:x.9=y.9) (e:∀c,c < x.9->x.getD c 0=y.getD c 0):x=y:=by
 apply dI h;intro c h1 h2;have:=e c h1;rwa [aa,aa,ae h1,ae h2] at this
theorem Uw (wm:∀xs∈mv,xs.9=mv.9) (h:st.9=mv.9) (hc:c < mv.9):(rH mv st).getD c 0=bw mv.9 λj=>bE mv c j*st.getD j 0:=by
 have e:(rH mv st).getD c 0=cb mv[c] st:=by
  unfold rH;rw[aa,aA,ae hc];rfl
 have wc:=wm _ (aQ hc);rw[e,dD (),wc];refine aO λj _=>?_
 unfold bE;rw[aa (l:=mv),ae hc];rfl
theorem Qj (D:dJ mv pt lk) (h:st.9=mv.9) (hp:pu.9=pt.9) (hc:c < mv.9):(iZ mv pt st pu).getD c 0=bw mv.9 (λj=>bE mv c j*st.getD j 0)+bw pt.9 λi=>pu.getD i 0*bE pt i c:=by
 have wc:=D.mw _ (aQ hc)
 have e:(iZ mv pt st pu).getD c 0=cb (mv[c]++pt.map λxs=>xs.getD c 0) (st++pu):=by
  unfold iZ;rw[aa,b9,ae hc,xF hc];rfl
 rw[e,lH (),dD (),dD (by rw[af];lia),wc,af];congr 1
 ·refine aO λj _=>?_
  unfold bE;rw[aa (l:=mv),ae hc];rfl
 ·refine aO λi hi=>?_
  rw[cD];congr 1;unfold bE;rw[aa,aA,aa (l:=pt),ae hi];rfl
theorem vZ:∀t,(kry mv pt t).9=t*pt.9
 | 0=>by rw[Nat.zero_mul];rfl
 | t+1=>by
  show (pt++(kry mv pt t).map (rH mv)).9=_
  rw[ai,af,vZ t,d7,qq]
theorem Ax (D:dJ mv pt lk) (ls:st.9=mv.9):∀k,k<=pus.9->(∀xs∈pus,xs.9=pt.9)->∀c,c < mv.9->(qX mv pt st pus k).getD c 0=(jT mv k st).getD c 0+bw (kry mv pt k).9 λi=>((pus.take k).reverse.flatten).getD i 0*bE (kry mv pt k) i c:=by
 intro k
 induction k with
 | zero =>
  intro _ _ c _;show st.getD c 0=st.getD c 0+0
  grind
 | succ k ih =>
  intro hk hp c hc;have hk':k < pus.9:=hk;have e:=ae hk';have hl:=hp _ (aQ hk');have ls':=rO (pt:=pt) (pus:=pus) ls (k:=k) ()
  have lf:((pus.take k).reverse.flatten).9=(kry mv pt k).9:=by
   rw[vZ,JA (i:=pt.9) λxs hx=>hp xs (cw (Ab.mp hx)),nX,bP,kF ()]
  rw[uB e,Qj D ls' hl hc]
  have er:(pus.take (k+1)).reverse.flatten=pus[k]++(pus.take k).reverse.flatten:=by
   rw[take_snoc e,List.reverse_append];simp
  have ek:kry mv pt (k+1)=pt++(kry mv pt k).map (rH mv):=rfl;rw[er,ek,ai,af,yK]
  have p1:(bw pt.9 λi=>(pus[k]++(pus.take k).reverse.flatten).getD i 0*bE (pt++(kry mv pt k).map (rH mv)) i c)=bw pt.9 λi=>pus[k].getD i 0*bE pt i c:=aO λi hi=>by
   rw[yv hi,aa,bF (),aa]
  have p2:(bw (kry mv pt k).9 λi=>(pus[k]++(pus.take k).reverse.flatten).getD (pt.9+i) 0*bE (pt++(kry mv pt k).map (rH mv)) (pt.9+i) c)=bw mv.9 λj=>bE mv c j*bw (kry mv pt k).9 λi=>((pus.take k).reverse.flatten).getD i 0*bE (kry mv pt k) i j:=by
   have q1:∀i,i < (kry mv pt k).9->(pus[k]++(pus.take k).reverse.flatten).getD (pt.9+i) 0*bE (pt++(kry mv pt k).map (rH mv)) (pt.9+i) c=bw mv.9 λj=>bE mv c j*(((pus.take k).reverse.flatten).getD i 0*bE (kry mv pt k) i j):=λi hi=>by
    rw[vM,MH rfl D.mw (eO rfl D.pw k) hi,aa,bc (),hl,Yw,<- aa,<- cB];exact aO λj _=>by grind
   rw[aO q1,eI];exact aO λj _=>cB
  rw[p1,p2];have p3:(jT mv (k+1) st).getD c 0=bw mv.9 λj=>bE mv c j*(jT mv k st).getD j 0:=Uw D.mw (oA ls k) hc
  rw[p3]
  have p4:(bw mv.9 λj=>bE mv c j*(qX mv pt st pus k).getD j 0)=(bw mv.9 λj=>bE mv c j*(jT mv k st).getD j 0)+bw mv.9 λj=>bE mv c j*bw (kry mv pt k).9 λi=>((pus.take k).reverse.flatten).getD i 0*bE (kry mv pt k) i j:=by
   rw[<- oZ];refine aO λj hj=>?_
   rw[ih () hp j hj];grind
  rw[p4];grind
end
section
variable {mv pt lk pus R:LR9} {st pu go w pr L:List Rat} {n t T c u k:Nat} {ps:List Nat}
theorem KS (D:dJ mv pt lk) (ls:st.9=mv.9):qX mv pt st (ce T (ce pt.9 0)) T=jT mv T st:=by
 have l1:=rO (pt:=pt) (pus:=ce T (ce pt.9 0)) ls (k:=T) (by rw[aI];exact ah _);refine Ca (by rw[l1,oA ls]) λc hc=>?_
 rw[l1] at hc;rw[Ax D ls T (by rw[aI];exact ah _) (λxs hx=>by rw[(dE.mp hx).2,aI]) c hc,cK λi _=>?_,nH]
 have z:(((ce T (ce pt.9 (0:Rat))).take T).reverse.flatten).getD i 0=0:=by
  rw[aa];cases e:(((ce T (ce pt.9 (0:Rat))).take T).reverse.flatten)[i]? with
  | none=>rfl
  | some y =>
   have:=ar e;obtain l|hl|hy:=jQ.mp this;have hl:=cw (Ab.mp hl);rw[(dE.mp hl).2] at hy;exact (dE.mp hy).2
 rw[z,ig]
def gM (mv:LR9) (T:Nat) (st go:List Rat):List Rat:=xL (λx y=>x - y) go (jT mv T st)
theorem Jt (ls:st.9=mv.9) (lg:go.9=mv.9):(gM mv T st go).9=mv.9:=by
 unfold gM;rw[cu,oA ls,lg,jg]
theorem KO {x y:List Rat} (h:x.9=y.9) (hc:c < x.9):(xL (λx y=>x - y) x y).getD c 0=x.getD c 0 - y.getD c 0:=by
 rw[aa,b9,aa (l:=x),aa (l:=y),ae hc,ae ()];rfl
theorem MR:∀u,∃Z,kry mv pt (u+1)=kry mv pt u++Z
 | 0=>#[pt++[],rfl]
 | u+1=>by
  obtain Z|e:=MR u;refine #[Z.map (rH mv),?_];show pt++(kry mv pt (u+1)).map (rH mv)=(pt++(kry mv pt u).map (rH mv))++_
  rw[e,cG,cF]
theorem BZ {u:Nat}:∀s,∃Z,kry mv pt (u+s)=kry mv pt u++Z
 | 0=>#[[],by rw[oV];rfl]
 | s+1=>by
  obtain Z|e:=BZ (u:=u) s;obtain Y|e':=MR (mv:=mv) (pt:=pt) (u+s);exact #[Z++Y,by rw[<- Nat.add_assoc,e',e,cF]]
def Ak (w:List Rat) (u k:Nat):LR9:=(on u).map λt=>(w.drop (t*k)).take k
theorem J5:∀{u:Nat} {w:List Rat},w.9=u*k->(Ak w u k).flatten=w
 | 0,w,h=>by
  rw[Nat.zero_mul] at h;rw[List.length_eq_zero_iff.mp h];rfl
 | u+1,w,h=>by
  have e:Ak w (u+1) k=Ak (w.take (u*k)) u k++[w.drop (u*k)]:=by
   unfold Ak;rw[uv,cG];congr 1
   ·refine dq λt ht=>?_
    have ht:=jP.mp ht;have:t*k+k<=u*k:=by rw[<- d7];exact ax _ ht
    rw[List.drop_take,List.take_take,kF ()]
   ·show [(w.drop (u*k)).take k]=_
    rw[aM (by rw[rJ,h,d7];lia)]
  rw[e,jM,J5 (by rw[bP,h,d7];lia)];simp
theorem Yh (h:w.9=u*k):∀xs∈Ak w u k,xs.9=k:=λxs hx=>by
 obtain t|ht|rfl:=aB.mp hx;have ht:=jP.mp ht;have:t*k+k<=u*k:=by rw[<- d7];exact ax _ ht
 rw[bP,rJ]
 lia
theorem Q5 (hx:xs∈Ak w u k) (hx':x∈xs):x∈w:=by
 obtain t|_|rfl:=aB.mp hx;exact EL (cw hx')
def Bu (w:List Rat) (T u k:Nat):LR9:=ce (T - u) (ce k 0)++(Ak w u k).reverse
theorem ME (hu:u<=T):(Bu w T u k).9=T:=by
 unfold Bu Ak;rw[ai,aI,nX,af,bB]
 lia
theorem Uv (h:w.9=u*k):∀xs∈Bu w T u k,xs.9=k:=λxs hx=>by
 rcases av.mp hx with hx | hx
 ·rw[(dE.mp hx).2,aI]
 ·exact Yh h xs (Ab.mp hx)
theorem S4 {P:Rat->Prop} (h0:P 0) (h:∀x∈w,P x):∀xs∈Bu w T u k,∀x∈xs,P x:=λxs hx x hx'=>by
 rcases av.mp hx with hx | hx
 ·rw[(dE.mp hx).2] at hx';rw[(dE.mp hx').2];exact h0
 ·exact h x (Q5 (Ab.mp hx) hx')
theorem PL:(ce T (ce k (0:Rat))).flatten=ce (T*k) 0:=by
 rw[List.flatten_replicate_replicate]
theorem LY (D:dJ mv pt lk) (ls:st.9=mv.9) (lg:go.9=mv.9) (hu:u<=T) (hw:w.9=(kry mv pt u).9) (e:Ct (kry mv pt u) w mv.9=gM mv T st go):qX mv pt st (Bu w T u pt.9) T=go:=by
 have hw':w.9=u*pt.9:=by rw[hw,vZ]
 have lp:=ME (w:=w) (k:=pt.9) hu;have l1:=rO (pt:=pt) (pus:=Bu w T u pt.9) ls (k:=T) ();refine Ca (by rw[l1,lg]) λc hc=>?_
 rw[l1] at hc;rw[Ax D ls T () (Uv hw') c hc,aM ()]
 have er:(Bu w T u pt.9).reverse.flatten=w++ce ((T - u)*pt.9) 0:=by
  unfold Bu;rw[List.reverse_append,List.reverse_reverse,jM,J5 hw',List.reverse_replicate,PL]
 obtain Z|eZ:=BZ (mv:=mv) (pt:=pt) (u:=u) (T - u);rw[show u+(T - u)=T by lia] at eZ;rw[er,eZ,ai,yK]
 have p1:(bw (kry mv pt u).9 λi=>(w++ce ((T - u)*pt.9) 0).getD i 0*bE (kry mv pt u++Z) i c)=(gM mv T st go).getD c 0:=by
  rw[<- e,As hc,hw];exact aO λi hi=>by rw[yv hi,aa,bF (),aa]
 have p2:(bw Z.9 λi=>(w++ce ((T - u)*pt.9) 0).getD ((kry mv pt u).9+i) 0*bE (kry mv pt u++Z) ((kry mv pt u).9+i) c)=0:=cK λi _=>by
  have z:(w++ce ((T - u)*pt.9) (0:Rat)).getD ((kry mv pt u).9+i) 0=0:=by
   rw[aa,bc (),cU]
   split <;> rfl
  rw[z,ig]
 rw[p1,p2,nH];unfold gM;rw[KO (by rw[lg,oA ls]) ()];grind
theorem NK (wp:∀xs∈pt,xs.9=mv.9) (RRu:bo (kry mv pt u) mv.9 R ps) (RRT:bo (kry mv pt T) mv.9 R ps') (lp:pr.9=mv.9) (h:∀xs∈kry mv pt u,cb xs pr=0):∀xs∈kry mv pt T,cb xs pr=0:=λxs hx=>by
 have wu:=eO (mv:=mv) rfl wp u;have wT:=eO (mv:=mv) rfl wp T;obtain i|hi|rfl:=bu hx;have s1:eo (kry mv pt u).9 (bE (kry mv pt u)) (bE (kry mv pt T) i):=eo.trans (λt ht=>RRu.2.2.back t (by rw[<- RRu.1,RRT.1];exact ht)) (RRT.2.2.span i hi);obtain v|hv:=s1
 have fn:∀{X:LR9} {i:Nat} (h:i < X.9) (c:Nat),X[i].getD c 0=bE X i c:=λ{X i} h c=>by
  unfold bE;rw[aa (l:=X),ae h];rfl
 have w1:=wT _ (aQ hi);rw[dD (),w1]
 have e1:(bw mv.9 λc=>(kry mv pt T)[i].getD c 0*pr.getD c 0)=bw (kry mv pt u).9 λt=>v t*bw mv.9 λc=>bE (kry mv pt u) t c*pr.getD c 0:=by
  have q:∀c,c < mv.9->(kry mv pt T)[i].getD c 0*pr.getD c 0=bw (kry mv pt u).9 λt=>v t*(bE (kry mv pt u) t c*pr.getD c 0):=λc _=>by
   rw[fn hi c,hv c,cD,<- cB];exact aO λt _=>by grind
  rw[aO q,eI];exact aO λt _=>cB
 rw[e1];refine cK λt ht=>?_
 have w2:=wu _ (aQ ht);have:=h _ (aQ ht);rw[dD (),w2] at this
 have q:(bw mv.9 λc=>bE (kry mv pt u) t c*pr.getD c 0)=0:=by
  refine Zw ?_ this;exact aO λc _=>by rw[fn ht c]
 rw[q,cS]
end
def CY (l:Addr):Hp:=λq=>if q=l then some (.lst []) else none
theorem off_ne:CY l l≠none:=by unfold CY;rw[if_pos rfl];exact λz=>nomatch z
theorem Qa (h:q≠l):CY l q=none:=by unfold CY;rw[if_neg h]
def OW (K:FG9) (l:Addr) (H:Hp) (R:LR9) (v:V):Prop:=∃q,v=V.ref q/\q≠l/\be K (CY l) H q R
section
variable {K:FG9} {H0 H H':Hp} {l p q:Addr} {R:LR9} {v:V} {mv pt:LR9} {u T:Nat}
theorem be.off (h:be K H0 H p R) (hl:H l=none):p≠l/\be K (CY l) H p R:=by
 obtain xs|g|r|n:=h;refine #[λz=>(by rw[z,hl] at g;cases g),xs,g,ca (λ_ _ #[q,a,b,c]=>#[q,a,Qa λz=>?_,c]) r,n];obtain _|gg|_:=c;rw[z,hl] at gg;cases gg
theorem OW.same (h:OW K l H R v) (s:aH H H'):OW K l H' R v:=by obtain q|a|b|c:=h;exact #[q,a,b,c.same s]
theorem OW.upd {ys zs:List V} (h:OW K l H R v) (g:H l=some (.lst ys)):OW K l (upd H l (.lst zs)) R v:=by obtain q|a|b|c:=h;exact #[q,a,b,c.updL g off_ne b]
def OC (mv pt:LR9) (u:Nat):List (LR9):=(on u).map λs=>pt.map (jT mv s)
theorem Hq:OC mv pt (u+1)=OC mv pt u++[pt.map (jT mv u)]:=by unfold OC;rw[uv,cG];rfl
theorem we:∀u,(OC mv pt u).flatten=kry mv pt u
 | 0=>rfl
 | u+1=>by
  have e:OC mv pt (u+1)=pt :: (OC mv pt u).map (List.map (rH mv)):=by
   unfold OC;rw[List.range_succ_eq_map,gL,ik];congr 1
   ·exact jh pt
   ·rw[ik];refine dq λs _=>?_
    show pt.map (jT mv (s+1))=(pt.map (jT mv s)).map (rH mv)
    rw[ik];rfl
  rw[e,gW,<- List.map_flatten,we u];rfl
theorem Ws (h:xs∈pt.map (jT mv s)):xs∈kry mv pt (s+1):=by
 rw[<- we,Hq,jM];exact bJ _ (by simpa using h)
theorem jl.fitP (F:jl mv pt a c) (wm:∀xs∈mv,xs.9=mv.9) (wp:∀xs∈pt,xs.9=mv.9) (hs:s+1<=mv.9):∀xs∈mv,∀r∈pt.map (jT mv s),jW xs r:=λxs hx r hr=>by
 obtain M|V|M0|Ma|hV|fm|fp|a3|c3|e14|_:=F;have f:=Lv rfl wm wp hV fm fp (s+1) r (Ws hr);have V1:V<=2^c:=ag (bK _ ()) hV;have e1:(s+1)*(a+c)<=mv.9*(a+c):=ax _ hs;have e2:mv.9*(a+c)+4<=mv.9*(mv.9*(a+c)+4):=bK _ ();have e3:(s+1)*(a+c)=a*(s+1)+c*(s+1):=by rw[gN,b7,b7 c]
 refine #[a,c,a*(s+1),c*(s+1),#[M,V,M0,Ma,V1,fm xs hx],#[M^(s+1),2^(c*(s+1)),eH M0,?_,ah _,f],()];exact ag (jK Ma _) (by rw[<- uj];exact ah _)
end
inductive IQ (K:FG9) (C:Addr) (vs:List V) (H:Hp) (Q:VK) (E9:XK):Prop
 | mk (x:Addr) (u a c:Nat) (H0:Hp) (mv pt lk:LR9):vs=[.ref x,.int u]->u<=mv.9->kI K H0 H C x mv pt lk->dJ mv pt lk->jl mv pt a c->(∀r us H',H r=none->aH H H'->H' r=some (.lst us)->jp (OW K r H') (OC mv pt u) us->Q (.ref r) H')->IQ K C vs H Q E9
inductive IJ (K:FG9) (vs:List V) (H:Hp) (Q:VK) (E9:XK):Prop
 | mk (p:Addr) (xs:List V) (Rs:List (LR9)):vs=[.ref p]->H p=some (.lst xs)->jp (OW K p H) Rs xs->Rs.flatten.9<=1000->(∀r H0 H',H r=none->aH H H'->be K H0 H' r Rs.flatten->Q (.ref r) H')->IJ K vs H Q E9
inductive Mv (K:FG9) (vs:List V) (H:Hp) (Q:VK) (E9:XK):Prop
 | mk (p:Addr) (u k:Nat) (w:List Rat):vs=[.ref p,.int u,.int k]->cC K H p w->w.9=u*k->u*k<=1000->u<=1000->k<=1000->(∀r H',H r=none->aH H H'->be K H H' r (Ak w u k)->Q (.ref r) H')->Mv K vs H Q E9
inductive IA (K:FG9) (C:Addr) (vs:List V) (H:Hp) (Q:VK) (E9:XK):Prop
 | mk (x:Addr) (T:Nat) (H0:Hp) (mv pt lk:LR9):vs=[.ref x,.int T]->T<=100->kI K H0 H C x mv pt lk->dJ mv pt lk->(∀r H',H r=none->aH H H'->be K H H' r (ce T (ce pt.9 0))->Q (.ref r) H')->IA K C vs H Q E9
inductive IG (K:FG9) (C:Addr) (vs:List V) (H:Hp) (Q:VK) (E9:XK):Prop
 | mk (x s g:Addr) (T:Nat) (H0:Hp) (mv pt lk:LR9) (st go:List Rat):vs=[.ref x,.ref s,.ref g,.int T]->T<=99->kI K H0 H C x mv pt lk->dJ mv pt lk->Ky mv pt lk->cC K H s st->st.9=mv.9->cC K H g go->go.9=mv.9->Ie mv pt st (ce T (ce pt.9 0))->(∀x∈go,jX x)->(∀r H',H r=none->aH H H'->cC K H' r (gM mv T st go)->Q (.ref r) H')->IG K C vs H Q E9
structure YI (mv pt:LR9) (L:List Rat) (D W0 E W1:Nat):Prop where
 d0:0 < D
 e0:0 < E
 w0:1<=W0
 w1:1<=W1
 tk:∀u,u<=mv.9->∀xs∈kry mv pt u,∀x∈xs,Tp D W0 x
 tl:∀x∈L,Tp E W1 x
 de:D*E<=2^4300000
 sw:∃w,W0*E+W1*D+D*E<=2^w/\w<=4300000/\(mv.9+1)*(w+4)<=8900000
theorem YI.join (F:YI mv pt L D W0 E W1) (hd:due.9=rows.9) (h1:∀xs∈rows,∀x∈xs,Tp (D*E) (W0*E+W1*D+D*E) x) (h2:∀x∈due,Tp (D*E) (W0*E+W1*D+D*E) x) (n8:mv.9<=8) (hm:min rows.9 n'<=mv.9+1):∃w,EG (dm rows due) n' w:=by
 obtain w|b1|b2|b3:=F.sw;have:=bC F.d0 F.e0;refine #[w,D*E,W0*E+W1*D+D*E,bC F.d0 F.e0,F.de,(),b1,λxs hx x hx'=>?_,b2,by rw[qU hd];lia,by rw[qU hd];exact ag (ax _ hm) b3];unfold dm at hx;obtain i|hi|rfl:=bu hx;rw[ji] at hx';rcases av.mp hx' with z | z
 ·exact h1 _ (aQ _) x z
 ·rw[bA.mp z];exact h2 _ (aQ _)
theorem Tp.up (h:Tp M W q) (k:Nat) (hx:W*k<=x):Tp (M*k) x q:=by
 obtain z|e|b:=h;exact #[z*k,by rw[fE,aW,<- e,aL];grind,by rw[dc,bM];exact ag (ax _ b) hx]
theorem Vb.tp (V:Vb r n Pm Y Z d W) (r15:r<=15) (w1:1<=W):∃q:Nat,0 < q/\q<=(16*W)^r/\∀s,s < r->∀c,c < n->Tp q ((16*W)^r) (Y s c):=by
 have rlt:∀i∈lQ (λi=>i) r,i < r:=λi hi=>by
  obtain t|ht|e:=mE hi;have e:i=t:=e
  lia
 obtain q|eq|bq:=LK (N:=16) (Wx:=W) (rs:=lQ (λi=>i) r) (vs:=jz (λj i=>Pm i j) r) (by rw[cw_len];lia) λw hw i hi=>by
  obtain s|hs|rfl:=cw_in hw;exact V.pf i (rlt i hi) s hs
 rw[qO] at bq;rw[<- V.det] at eq;have q0:q≠0:=λz=>V.d0 (by rw[eq,z];rfl)
 refine #[q.natAbs,(),bq,λs hs c hc=>?_]
 have cr:=v8 (rs:=lQ (λi=>i) r) (v:=λj i=>Pm i j) (c:=λj=>Y j c) (W:=λi=>Z i c) hs (λi hi=>by
  rw[V.eq i (rlt i hi) c hc];exact aO λj _=>cD _ _)
 obtain z|ez|bz:=LK (N:=16) (Wx:=W) (rs:=lQ (λi=>i) r) (vs:=JZ (λj i=>Pm i j) s r++(λi=>Z i c) :: jz (λj i=>Pm i j) s) (by
  have:=congrArg FS (cw_split (v:=λj i=>Pm i j) hs);rw[ai,a9,cw_len] at this;rw[ai,a9]
  lia) λw hw i hi=>by
   rcases av.mp hw with hw | hw
   ·obtain s'|hs'|rfl:=Cf hw;exact V.pf i (rlt i hi) s' hs'
   ·rcases aJ.mp hw with rfl | hw
    ·exact V.zf i (rlt i hi) c hc
    ·obtain s'|hs'|rfl:=cw_in hw;exact V.pf i (rlt i hi) s' ()
 rw[qO] at bz;rw[ez,<- V.det,eq] at cr;have key:Y s c*(q:Rat)=(z:Rat):=cr.symm;rcases tV q with h | h
 ·have hq:((q.natAbs:Nat):Rat)=(q:Rat):=by rw[<- aL,<- h]
  exact #[z,by rw[hq,key],bz]
 ·have hq:((q.natAbs:Nat):Rat)=-(q:Rat):=by rw[<- aL,<- cL];congr 1;lia
  exact #[-z,by rw[hq,cL,<- key];grind,by rw[jR];exact bz]
theorem QE (F:jl mv pt a c) (D8:mv.9<=8) (wm:∀xs∈mv,xs.9=mv.9) (wp:∀xs∈pt,xs.9=mv.9):∀T,∃R ps,Gd mv pt T R ps:=by
 intro T
 induction T with
 | zero=>exact #[_,_,Gd.start]
 | succ T ih =>
  obtain R|ps|G:=ih;obtain RR|t|t1|t2|RRt|hs:=id G;have le:=RR.le
  obtain R'|ps'|d|ls|S:=D4 (n:=mv.9) (rows:=pt++R.map (rH mv)) (λxs hx=>by
   rcases av.mp hx with hx | hx
   ·exact wp xs hx
   ·obtain y|_|rfl:=aB.mp hx;exact xr) (F.step D8 wm wp (t:=t) () RRt)
  have RR':=yk rfl wm wp RR S.rr;exact #[R',ps',(G.step wm wp RR').1]
theorem Ya (F:jl mv pt a c) (D8:mv.9<=8) (wm:∀xs∈mv,xs.9=mv.9) (wp:∀xs∈pt,xs.9=mv.9) (RR:bo (kry mv pt T) mv.9 R ps):Gd mv pt T R ps:=by
 obtain R'|ps'|G:=QE F D8 wm wp T;obtain rfl|rfl:=RR.same G.1;exact G
theorem jl.rtp (F:jl mv pt a c) (D8:mv.9<=8) (wm:∀xs∈mv,xs.9=mv.9) (wp:∀xs∈pt,xs.9=mv.9) (RR:bo (kry mv pt T) mv.9 R ps):∃q,0 < q/\q<=2^(ps.9*((mv.9 - 1)*(a+c)+4))/\∀xs∈R,∀x∈xs,Tp q (2^(ps.9*((mv.9 - 1)*(a+c)+4))) x:=by
 obtain _|t|t1|_|RRt|_:=Ya F D8 wm wp RR;obtain Pm|Z|d|w|vb|hw:=F.vb wm wp t1 RRt;have le:=RR.le;obtain q|q0|q1|q2:=vb.tp () cm
 have up:(16*2^w)^ps.9<=2^(ps.9*((mv.9 - 1)*(a+c)+4)):=by
  have e:(16*2^w)^ps.9=2^(ps.9*(w+4)):=by rw[show (16:Nat)=2^4 from rfl,<- aV,<- uj,b7 ps.9,qq w]
  rw[e];refine aj () (aD _ ?_);rcases hw with ⟨_,rfl⟩ | ⟨_,rfl⟩ <;> lia
 refine #[q,q0,ag q1 up,AI λi hi e=>?_];by_cases he:e < mv.9
 ·exact (q2 i (by rw[<- RR.1];exact hi) e he).mono up
 ·rw[pJ RR.2.1 ()];exact Tp.zero
theorem Wf (h1:∀i j,i < j->j < ps.9->ps.getD i 0 < ps.getD j 0) (h2:∀j,j < ps.9->ps.getD j 0 < n):(lG ps n).9+ps.9=n:=by
 have key:∀i,∃k,k<=ps.9/\(lG ps i).9+k=i/\(∀j,j < k->ps.getD j 0 < i)/\∀j,k<=j->j < ps.9->i<=ps.getD j 0:=by
  intro i
  induction i with
  | zero=>exact #[0,a7 _,rfl,λj hj=>absurd hj (dw _),λj _ _=>a7 _]
  | succ i ih =>
   obtain k|k1|k2|k3|k4:=ih;rw[Cc];by_cases hk:k < ps.9/\ps.getD k 0=i
   ·have hm:i∈ps:=by rw[<- hk.2];exact getD_in hk.1
    rw[if_neg (λz=>z hm)];refine #[k+1,hk.1,(),λj hj=>?_,λj hj hl=>?_]
    ·rcases cg j k with z | z
     ·have:=k3 j z;lia
     ·rw[show j=k by lia,hk.2];lia
    ·have:=h1 k j () hl
     lia
   ·have hm:i∉ps:=λz=>by
     obtain j|hj|ej:=bu z;have ej':ps.getD j 0=i:=by rw[aa,ae hj];exact ej
     rcases cg j k with y | y
     ·have:=k3 j y;lia
     ·rcases cg k j with x | x
      ·have:=h1 k j x hj;have:=k4 k (ah _) ()
       lia
      ·exact hk #[(),by rw[show k=j by lia];exact ej']
    rw[if_pos hm];refine #[k,k1,by rw[ai,aT];lia,λj hj=>by have:=k3 j hj;lia,λj hj hl=>?_];have:=k4 j hj hl;rcases cg i (ps.getD j 0) with y | y
    ·exact y
    ·exact absurd (by rw[show i=ps.getD j 0 by lia];exact getD_in hl) hm
 obtain k|k1|k2|k3|k4:=key n;rcases cg k ps.9 with z | z
 ·have:=k4 k (ah _) z;have:=h2 k z
  lia
 ·lia
theorem oE:∀xs∈aR R ps n,xs.9=n:=λxs hx=>by
 obtain _|_|_|rfl:=rj hx;exact qS
theorem vV (RR:bo rows n R ps):(aR R ps n).9+ps.9=n:=by
 unfold aR;rw[af];exact Wf RR.2.2.inc RR.2.2.low
theorem zh {mv:LR9} (wm:∀xs∈mv,xs.9=mv.9):∀t,jT mv t (ce mv.9 0)=ce mv.9 0
 | 0=>rfl
 | t+1=>by
  show rH mv (jT mv t _)=_
  rw[zh wm t];refine Ca (by rw[xr,aI]) λc hc=>?_
  rw[xr] at hc;rw[Uw wm (by rw[aI]) hc,cK λj _=>?_]
  ·rw[aa,cU,if_pos hc];rfl
  ·rw[aa,cU]
   split <;> exact cS _
theorem Qq (wm:∀xs∈mv,xs.9=mv.9) (lg:go.9=mv.9):gM mv T (ce mv.9 0) go=go:=by
 unfold gM;rw[zh wm];refine Ca (by rw[cu,aI,lg,jg]) λc hc=>?_
 rw[cu,aI,lg,jg] at hc;rw[KO (by rw[aI,lg]) ()];have:(ce mv.9 (0:Rat)).getD c 0=0:=by rw[aa,cU];split <;> rfl
 rw[this];grind
theorem cf0 (D:dJ mv pt lk):Ie mv pt (ce mv.9 0) (ce T (ce pt.9 0)):=λk hk=>by
 rw[aI] at hk
 have e:qX mv pt (ce mv.9 0) (ce T (ce pt.9 0)) k=ce mv.9 0:=by
  have:=KS (T:=k) D (st:=ce mv.9 0) (by rw[aI]);rw[zh D.mw] at this;refine Zw ?_ this;unfold qX;rw[List.take_replicate,List.take_replicate,kF hk,jg]
 refine #[1,1,(),cm,cm,λx hx=>?_,λxs hx x hx'=>?_]
 ·rw[e] at hx;rw[(dE.mp hx).2];exact Fr.zero
 ·rw[(dE.mp hx).2] at hx';rw[(dE.mp hx').2];exact Fr.zero
structure Yo (mv pt:LR9) (st pu:List Rat):Prop where
 f2:∀xs∈mv,jW xs st
 part:∀kk,∀x∈nextK mv pt st pu kk,jX x
 su:∀u∈pu,jX u
 sp:∀row∈pt,∀y∈row,jX y
 mul:∀u∈pu,∀row∈pt,∀y∈row,jX (u*y)
inductive IB (K:FG9) (vs:List V) (H:Hp) (Q:VK) (E9:XK):Prop
 | mk (r s u:Addr) (H0:Hp) (mv pt lk:LR9) (st pu:List Rat):vs=[.ref r,.ref s,.ref u]->fK K H0 H r mv pt lk->dJ mv pt lk->cC K H s st->cC K H u pu->st.9=mv.9->pu.9=pt.9->Yo mv pt st pu->(∀t H',H t=none->aH H H'->cC K H' t (iZ mv pt st pu)->Q (.ref t) H')->IB K vs H Q E9
structure Bd (mv pt:LR9) (M1 M2 V a1 a2 c:Nat):Prop where
 m1:0 < M1
 m2:0 < M2
 b1:M1<=2^a1
 b2:M2<=2^a2
 gm:GF M1 V mv
 gp:GF M2 V pt
 vc:(mv.9+4)*V<=2^c
section
variable {st pu go:List Rat} {M1 M2 V a1 a2 c N Np p t T ν:Nat}
theorem Bd.v1 (B:Bd mv pt M1 M2 V a1 a2 c):V<=2^c:=ag (bK _ ()) B.vc
theorem vE (h0:0 < M) (h1:M<=2^a) (h2:W<=2^b) (hab:a+b<=3990000) (h:Fr M W x):jX x:=by
 refine mh (Tp.of h (ah _)) h0 (ag h1 (aj () ())) ?_;refine ag (aK h2 h1) ?_;rw[<- aV];exact aj () ()
theorem Bd.next (B:Bd mv pt M1 M2 V a1 a2 c) (D:dJ mv pt lk) (ls:st.9=mv.9) (lu:pu.9=pt.9) (N0:0 < N) (dv:M2*Np∣M1*N) (hs:∀x∈st,Fr N (2^p) x) (hu:∀x∈pu,Fr Np (2^p) x) (hN:N<=2^ν) (sz:a1+ν+c+p<=3900000) (sp2:a2+c<=3900000):Yo mv pt st pu/\∀x∈iZ mv pt st pu,Fr (M1*N) (2^(c+p)) x:=by
 have V1:=B.v1;have i4:=D.i4;have MN0:0 < M1*N:=bC B.m1 N0;have MN:M1*N<=2^(a1+ν):=by rw[aV];exact aK B.b1 hN
 have Np0:0 < Np:=by
  rcases fV Np with z | z
  ·rw[z,AN] at dv;have:=Yv dv
   lia
  ·exact z
 have NpMN:Np<=M1*N:=ag (bK _ B.m2) (iC MN0 dv)
 have one:∀u∈pu,∀row∈pt,∀y∈row,Fr (M1*N) (V*2^p) (u*y):=λu hu' row hr y hy=>by
  have:=(B.gp row hr y hy).mul (hu u hu');rw[cD];exact this.dvd dv
 have part:∀kk,kk<=pt.9->∀x∈nextK mv pt st pu kk,Fr (M1*N) (2^(c+p)) x:=λkk hkk x hx=>by
  obtain j|hj|e:=bu hx;rw[kB] at hj;have e2:=BP (mv:=mv) (pt:=pt) (st:=st) (pu:=pu) (k:=kk) hj;rw[aa,ae (by rw[kB];exact hj)] at e2;have e3:x=cb (mv[j]++(pt.map λxs=>xs.getD j 0).take kk) (st++pu.take kk):=by rw[<- e,<- e2];rfl
  have wj:=D.mw _ (aQ hj);rw[e3,lH ()];have f1:=Fr.dot (B.gm _ (aQ hj)) hs;rw[wj] at f1
  have f2:Fr (M1*N) (4*(V*2^p)) (cb ((pt.map λxs=>xs.getD j 0).take kk) (pu.take kk)):=by
   have hc:∀y∈(pt.map λxs=>xs.getD j 0).take kk,Fr M2 V y:=λy hy=>by
    obtain xs|hxs|rfl:=aB.mp (cw hy);rw[aa];cases e:xs[j]? with
    | none=>exact Fr.zero
    | some z=>exact B.gp xs hxs z (ar e)
   have:=Fr.dot (ys:=pu.take kk) hc (λy hy=>hu y (cw hy));refine (this.dvd dv).mono (ax _ ?_);rw[bP,af]
   lia
  refine (f1.add f2).mono ?_;rw[<- EK,aV,<- cV];exact ax _ B.vc
 have szb:∀{x:Rat},Fr (M1*N) (2^(c+p)) x->jX x:=λh=>vE MN0 MN (ah _) () h
 have all:∀kk,∀x∈nextK mv pt st pu kk,Fr (M1*N) (2^(c+p)) x:=λkk x hx=>by
  rcases cg pt.9 kk with z | z
  ·have e:nextK mv pt st pu kk=nextK mv pt st pu pt.9:=(vW () ()).trans (vW (ah _) ()).symm;rw[e] at hx;exact part _ (ah _) x hx
  ·exact part kk z x hx
 refine #[#[λxs hx=>#[a1,c,ν,p,#[M1,V,B.m1,B.b1,V1,B.gm xs hx],#[N,2^p,N0,hN,ah _,hs],()],λkk x hx=>szb (all kk x hx),λu hu'=>?_,λrow hr y hy=>?_,λu hu' row hr y hy=>szb ((one u hu' row hr y hy).mono (by rw[aV];exact ax _ V1))],λx hx=>?_]
 ·exact vE Np0 (ag NpMN MN) (ah _) () (hu u hu')
 ·exact vE B.m2 B.b2 V1 () (B.gp row hr y hy)
 ·rw[<- vW (k:=pt.9) (ah _) ()] at hx;exact all _ x hx
end
section
variable {mv pt lk pus:LR9} {st pu go:List Rat} {M1 M2 V a1 a2 c N Np p t T ν k:Nat}
def OQ (mv pt pus:LR9) (st:List Rat):Prop:=∃M1 M2 V a1 a2 c N Np p ν,Bd mv pt M1 M2 V a1 a2 c/\0 < N/\N<=2^ν/\M2*Np∣N/\(∀x∈st,Fr N (2^p) x)/\(∀xs∈pus,∀x∈xs,Fr Np (2^p) x)/\a1*(pus.9+1)+ν+c*(pus.9+1)+p<=3900000/\a2+c<=3900000
theorem nO (h:M<=2^a) (hN:N<=2^ν):M^t*N<=2^(a*t+ν):=by
 rw[aV,uj];exact aK (jK h t) hN
theorem Bd.states (B:Bd mv pt M1 M2 V a1 a2 c) (D:dJ mv pt lk) (ls:st.9=mv.9) (wp:∀xs∈pus,xs.9=pt.9) (N0:0 < N) (hN:N<=2^ν) (dv:M2*Np∣N) (hs:∀x∈st,Fr N (2^p) x) (hu:∀xs∈pus,∀x∈xs,Fr Np (2^p) x) (sz:a1*(pus.9+1)+ν+c*(pus.9+1)+p<=3900000) (sp2:a2+c<=3900000):∀k,k<=pus.9->(∀x∈qX mv pt st pus k,Fr (M1^k*N) (2^(c*k+p)) x)/\∀pu,pus[k]?=some pu->Yo mv pt (qX mv pt st pus k) pu:=by
 have key:∀k,k<=pus.9->(∀x∈qX mv pt st pus k,Fr (M1^k*N) (2^(c*k+p)) x)->∀pu,pus[k]?=some pu->Yo mv pt (qX mv pt st pus k) pu/\∀x∈iZ mv pt (qX mv pt st pus k) pu,Fr (M1*(M1^k*N)) (2^(c+(c*k+p))) x:=λk hk f pu hpu=>by
  have mp:=ar hpu;have kl:=(aF.mp hpu).1;have e1:a1*(k+1)<=a1*(pus.9+1):=aD _ ();have e2:c*(k+1)<=c*(pus.9+1):=aD _ ();rw[gN,RC] at e1 e2;refine B.next D (rO ls hk) (wp pu mp) (bC (eH B.m1) N0) ?_ f (λx hx=>(hu pu mp x hx).mono (aj () (Nat.le_add_left _ _))) (nO B.b1 hN) () sp2;exact ou dv (ou (eh _ _) (eh _ _))
 have fr:∀k,k<=pus.9->∀x∈qX mv pt st pus k,Fr (M1^k*N) (2^(c*k+p)) x:=by
  intro k
  induction k with
  | zero =>
   intro _ x hx;rw[Nat.pow_zero,uo,AN,Nat.zero_add];exact hs x hx
  | succ k ih =>
   intro hk x hx;have e:=ae (show k < pus.9 by lia);rw[uB e] at hx;have:=(key k () (ih ()) _ e).2 x hx;rw[<- cV,b7 M1,<- gK,show c+(c*k+p)=c*(k+1)+p by rw[gN];lia] at this;exact this
 exact λk hk=>#[fr k hk,λpu hpu=>(key k hk (fr k hk) pu hpu).1]
theorem OQ.nx (h:OQ mv pt pus st) (D:dJ mv pt lk) (ls:st.9=mv.9) (wp:∀xs∈pus,xs.9=pt.9) (hk:k<=pus.9) (hpu:pus[k]?=some pu):Yo mv pt (qX mv pt st pus k) pu:=by
 obtain M1|M2|V|a1|a2|c|N|Np|p|ν|B|N0|hN|dv|hs|hu|sz|sp2:=h;exact (B.states D ls wp N0 hN dv hs hu sz sp2 k hk).2 pu hpu
theorem OQ.szn (h:OQ mv pt pus st) (D:dJ mv pt lk) (ls:st.9=mv.9) (wp:∀xs∈pus,xs.9=pt.9) (hk:k<=pus.9):∀x∈qX mv pt st pus k,jX x:=λx hx=>by
 obtain M1|M2|V|a1|a2|c|N|Np|p|ν|B|N0|hN|dv|hs|hu|sz|sp2:=h;have e1:a1*k<=a1*(pus.9+1):=aD _ ();have e2:c*k<=c*(pus.9+1):=aD _ ();exact vE (bC (eH B.m1) N0) (nO B.b1 hN) (ah _) () ((B.states D ls wp N0 hN dv hs hu sz sp2 k hk).1 x hx)
def YJ (mv:LR9) (st:List Rat) (T:Nat):Prop:=∃M1 V a1 c N p ν,0 < M1/\M1<=2^a1/\GF M1 V mv/\(mv.9+4)*V<=2^c/\0 < N/\N<=2^ν/\(∀x∈st,Fr N (2^p) x)/\a1*(T+1)+ν+c*(T+1)+p<=3900000
theorem VJ (gm:GF M1 V mv) (wm:∀xs∈mv,xs.9=mv.9) (vc:(mv.9+4)*V<=2^c) (ls:st.9=mv.9) (hs:∀x∈st,Fr N (2^p) x):∀t,∀x∈jT mv t st,Fr (M1^t*N) (2^(c*t+p)) x:=by
 intro t
 induction t with
 | zero =>
  intro x hx;rw[Nat.pow_zero,uo,AN,Nat.zero_add];exact hs x hx
 | succ t ih =>
  intro x hx;obtain row|hr|rfl:=aB.mp (show x∈mv.map λxs=>cb xs (jT mv t st) from hx);have f:=Fr.dot (gm row hr) ih;rw[<- cV,b7 M1,<- gK] at f;refine f.mono ?_;rw[wm row hr,<- cV,show c*(t+1)+p=c+(c*t+p) by rw[gN];lia,aV 2 c];exact ax _ (ag (ax V (show mv.9<=mv.9+4 by lia)) vc)
theorem YJ.fit (h:YJ mv st T) (wm:∀xs∈mv,xs.9=mv.9) (ls:st.9=mv.9) (ht:t<=T):(∀xs∈mv,jW xs (jT mv t st))/\∀x∈jT mv t st,jX x:=by
 obtain M1|V|a1|c|N|p|ν|m0|m1|gm|vc|N0|hN|hs|sz:=h;have f:=VJ gm wm vc ls hs t;have V1:V<=2^c:=ag (bK _ ()) vc;have e1:a1*t<=a1*T:=aD _ ht;have e2:c*t<=c*T:=aD _ ht;rw[gN,gN,RC,RC] at sz;exact #[λxs hx=>#[a1,c,a1*t+ν,c*t+p,#[M1,V,m0,m1,V1,gm xs hx],#[M1^t*N,2^(c*t+p),bC (eH m0) N0,nO m1 hN,ah _,f],()],λx hx=>vE (bC (eH m0) N0) (nO m1 hN) (ah _) () (f x hx)]
def UQ (mv pt:LR9) (T:Nat):Prop:=∃M1 M2 V a1 a2 c,Bd mv pt M1 M2 V a1 a2 c/\a1*(T+1)+a2+c*(T+2)<=3900000
theorem UQ.row (h:UQ mv pt T) (wm:∀xs∈mv,xs.9=mv.9) (wp:∀xs∈pt,xs.9=mv.9):∀xs∈pt,YJ mv xs T:=λxs hx=>by
 obtain M1|M2|V|a1|a2|c|B|sz:=h;refine #[M1,V,a1,c,M2,c,a2,B.m1,B.b1,B.gm,B.vc,B.m2,B.b2,λx hx'=>(B.gp xs hx x hx').mono B.v1,?_];rw[gN c T 2] at sz;rw[gN c T 1]
 lia
end
inductive Mu (K:FG9) (vs:List V) (H:Hp) (Q:VK) (E9:XK):Prop
 | mk (r s p:Addr) (H0 H1:Hp) (mv pt lk pus:LR9) (st:List Rat):vs=[.ref r,.ref s,.ref p]->fK K H0 H r mv pt lk->dJ mv pt lk->cC K H s st->st.9=mv.9->be K H1 H p pus->pus.9<=100->(∀xs∈pus,xs.9=pt.9)->OQ mv pt pus st->(∀t H',H t=none->aH H H'->cC K H' t (qX mv pt st pus pus.9)->Q (.ref t) H')->Mu K vs H Q E9
inductive DY (K:FG9) (vs:List V) (H:Hp) (Q:VK) (E9:XK):Prop
 | mk (r:Addr) (T:Nat) (H0:Hp) (mv pt lk:LR9):vs=[.ref r,.int T]->T<=20->fK K H0 H r mv pt lk->dJ mv pt lk->UQ mv pt T->(∀q H',H q=none->aH H H'->be K H H' q (kry mv pt T)->Q (.ref q) H')->DY K vs H Q E9
theorem Ox (hc:X.calm=true):pM X (.builtin "max") (λxs H Q=>∃(p:Addr) (ns:List Int),xs=[.ref p]/\bI X.K H p (ns.map V.int)/\0 < ns.9/\∀M,M∈ns->(∀a,a∈ns->a<=M)->Q (.int M) H):=by
 intro pins s σ H xs us Q I r h;obtain p|ns|rfl|hp|hne|q:=h;obtain u|rfl|ru:=vals1 r;cases ru;obtain its|r2|pl|_:=I.list hp;have hi:=intsAre_of r2;have hl:=pl.isList;obtain xs|e:=hi.allInts.items
 have hns:ns=xs.toList.map (·.1):=by
  rw[<- hi.numsOf,<- nums_intItems,<- e]
 have hsz:0 < xs.7:=by
  have h3:=hne;rw[hns,af,Da] at h3;exact h3
 rw[e] at hl;refine max_intList (I.ok.hd hc) hl hsz λv h' tk hv hk=>?_
 obtain t|rfl:=intItems_at hv;obtain h1|h2:=argBest_gt (numAt xs) (xs.7 - 1);refine #[.int _,H,I.kept hk,#[_,rfl],q _ ?_ λa ha=>?_]
 ·rw[hns,numAt_eq];exact getD_in (by rw[af,Da];lia)
 ·rw[hns] at ha;obtain j|hj|rfl:=mem_getD ha;rw[af,Da] at hj;rw[<- numAt_eq];exact h2 j ()
theorem D5 {α β:Type} {f:α->β}:∀{l1:List α} {l2:List β},jp (λa b=>b=f a) l1 l2->l2=l1.map f
 | _,_,.nil=>rfl
 | _,_,.cons h r=>by rw[h,D5 r];rfl
def RH (mv pt:LR9) (T:Nat):Prop:=T<=12/\(T<=3\/((∀xs∈mv++pt,∀x∈xs,x.den<=9/\x.num.natAbs < 1000)/\(5 < mv.9->T<=mv.9)/\(3<=mv.9->mv.9<=5->T<=mv.9+1)))
def WO (x:Rat):Int:=(x.den:Int)+(x.num.natAbs:Int) / 1000*9
theorem TH (h:WO x<=9):x.den<=9/\x.num.natAbs < 1000:=by
 unfold WO at h;have:=x.den_pos
 lia
inductive DI (K:FG9) (vs:List V) (H:Hp) (Q:VK) (E9:XK):Prop
 | mk (b r:Addr) (H0:Hp) (mv pt lk:LR9):vs=[.ref b,.ref r]->jm H b->H0 b≠none->fK K H0 H r mv pt lk->dJ mv pt lk->(∀xs∈mv++pt,∀x∈xs,jX x)->(∀(T:Nat) H',RH mv pt T->jm H' b->dk b H H'->Q (.int T) H')->DI K vs H Q E9
inductive Iy (K:FG9) (vs:List V) (H:Hp) (Q:VK) (E9:XK):Prop
 | mk (b r:Addr) (T w:Nat) (H0:Hp) (mv pt lk:LR9):vs=[.ref b,.ref r,.int T,.int w]->T<=100->1<=w->w<=1000->jm H b->H0 b≠none->fK K H0 H r mv pt lk->dJ mv pt lk->(∀p pus H',H p=none->be K H H' p pus->pus.9=T->(∀xs∈pus,xs.9=pt.9/\∀x∈xs,Dr (max w 6) x)->jm H' b->dk b H H'->Q (.ref p) H')->Iy K vs H Q E9
section
variable {st pr go:List Rat}
theorem OQ.sznP (h:OQ mv pt pus st):∀xs∈pus,∀x∈xs,jX x:=λxs hx x hx'=>by
 obtain M1|M2|V|a1|a2|c|N|Np|p|ν|B|N0|hN|dv|hs|hu|sz|sp2:=h
 have Np0:0 < Np:=by
  rcases fV Np with z | z
  ·rw[z,AN] at dv;have:=Yv dv
   lia
  ·exact z
 have le:Np<=N:=ag (bK _ B.m2) (iC N0 dv);exact vE Np0 (ag le hN) (ah _) () (hu xs hx x hx')
end
inductive DU (K:FG9) (vs:List V) (H:Hp) (Q:VK) (E9:XK):Prop
 | mk (r s g p:Addr) (T:Nat) (H0 H1:Hp) (mv pt lk pus:LR9) (st go:List Rat):vs=[.ref r,.ref s,.ref g,.int T,.ref p]->T<=100->fK K H0 H r mv pt lk->dJ mv pt lk->cC K H s st->st.9=mv.9->cC K H g go->be K H1 H p pus->pus.9=T->(∀xs∈pus,xs.9=pt.9)->OQ mv pt pus st->qX mv pt st pus T=go->(∀H',aH H H'->Q (.bl true) H')->DU K vs H Q E9
structure PrF (mv pt:LR9) (T:Nat) (st go pr:List Rat):Prop where
 ad:UQ mv pt T
 al:YJ mv st T
 sg:∀x∈go,jX x
 sr:∀x∈pr,jX x
 f1:∀xs∈kry mv pt T,jW pr xs
 f2:jW pr (gM mv T st go)
structure CtF (mv pt:LR9) (T:Nat) (st go:List Rat) (D W0 E W1:Nat):Prop where
 cf:Ie mv pt st (ce T (ce pt.9 0))
 sg:∀x∈go,jX x
 co:YI mv pt (gM mv T st go) D W0 E W1
 en:∀(pus:LR9) (q:Nat),0 < q->q<=(16*W0)^mv.9->pus.9=T->(∀xs∈pus,∀x∈xs,Tp (E*q) (D*(mv.9*(W1*(16*W0)^mv.9))) x)->OQ mv pt pus st
def RU (v:Nat):Rat:=#[1,v+1,Nat.succ_ne_zero v,by simp]
theorem T8 (h:v < 3):Fr 6 1 (RU v):=by
 have e:(RU v).num.natAbs<=1:=ah _;have f:=Fr.own (RU v) e
 have d:(RU v).den∣6:=by
  show v+1∣6
  rcases (show v=0\/v=1\/v=2 by lia) with rfl | rfl | rfl <;> decide
 exact f.dvd d
def YH (pt:LR9) (T w:Nat) (pus:LR9):Prop:=pus.9=T/\∀xs∈pus,xs.9=pt.9/\∀x∈xs,Dr (max w 6) x
def GoP (mv pt:LR9) (T w:Nat) (st go:List Rat):Prop:=(∀x∈go,Dr (max w 6) x)\/∃pus,YH pt T w pus/\(go=qX mv pt st pus T\/∃a v,v < 3/\go=(qX mv pt st pus T).set a ((qX mv pt st pus T).getD a 0+RU v))
inductive IH (K:FG9) (vs:List V) (H:Hp) (Q:VK) (E9:XK):Prop
 | mk (b r s:Addr) (T w:Nat) (H0:Hp) (mv pt lk:LR9) (st:List Rat):vs=[.ref b,.ref r,.ref s,.int T,.int w]->T<=100->1<=w->w<=1000->jm H b->H0 b≠none->fK K H0 H r mv pt lk->dJ mv pt lk->cC K H s st->s≠b->st.9=mv.9->(∀pus,YH pt T w pus->OQ mv pt pus st)->(∀g go H',H g=none->cC K H' g go->go.9=mv.9->GoP mv pt T w st go->jm H' b->dk b H H'->Q (.ref g) H')->IH K vs H Q E9
theorem Qh (ws vs:List V) (M1 M2 M3:Nat):∃μ:V->Nat,(∀x∈ws,μ x=M2)/\(∀x∈vs,x∉ws->μ x=M3)/\(∀x,x∉ws->x∉vs->μ x=M1)/\∀x,μ x=M1\/μ x=M2\/μ x=M3:=by
 classical
 refine #[λx=>if x∈ws then M2 else if x∈vs then M3 else M1,λx h=>if_pos h,λx h h'=>?_,λx h h'=>?_,λx=>?_]
 ·show (if x∈ws then M2 else if x∈vs then M3 else M1)=M3
  rw[if_neg h',if_pos h]
 ·show (if x∈ws then M2 else if x∈vs then M3 else M1)=M1
  rw[if_neg h,if_neg h']
 ·show (if x∈ws then M2 else if x∈vs then M3 else M1)=M1\/(if x∈ws then M2 else if x∈vs then M3 else M1)=M2\/(if x∈ws then M2 else if x∈vs then M3 else M1)=M3
  by_cases h:x∈ws
  ·rw[if_pos h];exact .inr (.inl rfl)
  ·rw[if_neg h];by_cases h':x∈vs
   ·rw[if_pos h'];exact .inr (.inr rfl)
   ·rw[if_neg h'];exact .inl rfl
theorem lW.apart {K:FG9} (h:lW K A H n C m p l b q0 us ws vs):(∀x∈us,x∉ws/\x∉vs)/\∀x∈vs,x∉ws:=by
 obtain n1|n2|n3:=gV.mp h.nd;obtain n4|n5|n6:=gV.mp n1;exact #[λx hx=>#[λz=>n3 x (av.mpr (.inl hx)) x z rfl,λz=>n6 x hx x z rfl],λx hx z=>n3 x (av.mpr (.inr hx)) x z rfl]
theorem lW.fr3 {K:FG9} (h:lW K A H n (λ_=>Dr (2^c)) m p l b q0 us ws vs):∃M1 M2 M3,0 < M1/\0 < M2/\0 < M3/\M1<=2^(c*(n*n))/\M2<=2^(c*(ws.9*n))/\M3<=2^(c*(vs.9*n))/\(∀x∈us,iU K A H n (Fr M1 (2^c)) x)/\(∀x∈ws,iU K A H n (Fr M2 (2^c)) x)/\∀x∈vs,iU K A H n (Fr M3 (2^c)) x:=by
 have one:∀l:List V,(∀x∈l,x∈us++vs++ws)->∃M,0 < M/\M<=2^(c*(l.9*n))/\∀x∈l,iU K A H n (Fr M (2^c)) x:=λl hl=>by
  obtain ra|pa|la|ha:=Bq λx hx=>h.row x (hl x hx)
  obtain M|m0|m1|m2:=So (c:=c) (n:=n) (rows:=ra) ha;exact #[M,m0,by rw[la] at m1;exact m1,K9 pa λqs hq=>#[(ha qs hq).1,m2 qs hq]]
 obtain M1|a1|a2|a3:=one us λx hx=>by simp [hx]
 obtain M2|b1|b2|b3:=one ws λx hx=>by simp [hx]
 obtain M3|c1|c2|c3:=one vs λx hx=>by simp [hx]
 rw[h.lm] at a2;exact #[M1,M2,M3,a1,b1,c1,a2,b2,c2,a3,b3,c3]
inductive DT (K:FG9) (xs:List V) (H:Hp) (Q:VK) (E9:XK):Prop
 | mk (b m p l q0:Addr) (n V1:Nat) (μ:V->Nat) (A:Addr->Prop) (us ws vs:List V):xs=[.ref b,.ref m,.ref p,.ref l]->Ml A m p l b q0->lW K A H n (λx=>Fr (μ x) V1) m p l b q0 us ws vs->n<=8->ws.9<=4->vs.9<=4->(∀x,0 < μ x)->(∀x,μ x<=2^800)->(∃M,∀x,x∉ws->x∉vs->μ x=M)->V1<=2^20->(∀q,H q=none->A q)->(∀r us' H',H' r=some (.tup [.ref m,.ref p,.ref l])->lW K A H' n (λx=>Fr (μ x) (9^3*V1)) m p l b q0 us' ws vs->jO A b m H H'->Q (.ref r) H')->DT K xs H Q E9
def Y8 (n i o w c:Nat) (mv pt lk:LR9):Prop:=∃M1 M2 M3 V1:Nat,0 < M1/\0 < M2/\0 < M3/\GF M1 V1 mv/\GF M2 V1 pt/\GF M3 V1 lk/\((w<=9/\M1=2520/\M2=2520/\M3=2520/\V1=9^3*9)\/(9 < w/\M1<=2^(c*(n*n))/\M2<=2^(c*(i*n))/\M3<=2^(c*(o*n))/\V1=9^3*2^c))
inductive DL (K:FG9) (vs:List V) (H:Hp) (Q:VK) (E9:XK):Prop
 | mk (b:Addr) (n i o w c:Nat):vs=[.ref b,.int n,.int i,.int o,.int w]->jm H b->n<=8->i<=4->o<=4->1<=w->w<=1000000->max w 6<=2^c->c<=20->c*((n+i+o)*n)<=800->(∀r mv pt lk H',fK K H H' r mv pt lk->mv.9=n->pt.9=i->lk.9=o->dJ mv pt lk->Y8 n i o w c mv pt lk->jm H' b->dk b H H'->Q (.ref r) H')->DL K vs H Q E9
def Rg (mv pt:LR9) (w:Nat):Prop:=(w<=9/\Bd mv pt 1 1 (9^3) 0 0 14)\/(w<=9/\mv.9<=5/\Bd mv pt 2520 2520 (9^3*9) 12 12 16)\/(w=1000/\mv.9<=2/\∃M1 M2,Bd mv pt M1 M2 (9^3*2^20) 80 160 33)
def R9 (K:FG9):Sp:=λvs H Q _=>∃b:Addr,vs=[.ref b]/\jm H b /\
 ∀t r (w a c:Nat) mv pt lk H',H' t=some (.tup [.ref r,.int w])->fK K H H' r mv pt lk->dJ mv pt lk->Ky mv pt lk->jl mv pt a c->Rg mv pt w->1<=w->w<=1000->jm H' b->dk b H H'->Q (.ref t) H'
theorem Ly {M V:Nat} (h:GF M V l) (k:Nat):GF (k*M) V l:=λxs hx x hx'=>(h xs hx x hx').scaleL k
theorem Y8.n {n i o w c:Nat} (h:Y8 n i o w c mv pt lk):PtF n i o w c mv pt lk:=by
 obtain M1|M2|M3|V1|a1|a2|a3|f1|f2|f3|hc:=h;rcases hc with ⟨w9,rfl,rfl,rfl,e⟩ | ⟨w9,e1,e2,e3,e⟩
 ·exact #[2520,V1,(),f1,f2,f3,.inl #[w9,rfl,e]]
 ·refine #[M1*M2*M3,V1,bC (bC a1 a2) a3,?_,?_,?_,.inr #[w9,?_,e]]
  ·have:=Ly f1 (M2*M3);rwa [show M2*M3*M1=M1*M2*M3 by rw[b7 (M2*M3),cV]] at this
  ·have:=Ly f2 (M1*M3);rwa [show M1*M3*M2=M1*M2*M3 by rw[cV,b7 M3,cV]] at this
  ·exact Ly f3 (M1*M2)
  ·refine ag (aK (aK e1 e2) e3) ?_;rw[<- aV,<- aV,show c*((n+i+o)*n)=c*(n*n)+c*(i*n)+c*(o*n) by rw[EK,EK,gN,gN]];exact ah _
def zd (n a1 a2:Nat):Nat:=a1*(n - 1)+a2
def zw (n a1 a2 c:Nat):Nat:=zd n a1 a2+c*n
def zq (n a1 a2 c:Nat):Nat:=n*(4+zw n a1 a2 c)
def ze (a1 a2 T b:Nat):Nat:=a1*T+a2+b
def zu (a1 a2 c T b g:Nat):Nat:=ze a1 a2 T b+(c*T+g+1)
abbrev ZS (n a1 a2 c T b g:Nat):Prop:=ze a1 a2 T b<=1800000/\c*T+g<=1800000/\zw n a1 a2 c+ze a1 a2 T b+zu a1 a2 c T b g+zd n a1 a2+2<=4300000/\(n+1)*(zw n a1 a2 c+ze a1 a2 T b+zu a1 a2 c T b g+zd n a1 a2+6)<=8900000/\a1*(T+1)+(a2+ze a1 a2 T b+zq n a1 a2 c)+c*(T+1)+(zd n a1 a2+3+zu a1 a2 c T b g+zq n a1 a2 c)<=3900000/\a2+c<=3900000/\a1*(T+1)+a2+c*(T+2)<=3900000
abbrev ZP (n a1 a2 c T b g:Nat):Prop:=2*(zq n a1 a2 c+5+zu a1 a2 c T b g)+zu a1 a2 c T b g<=3930000/\2*(zq n a1 a2 c+5+zu a1 a2 c T b g)+(a1*T+a2+c*(T+1))<=3930000
theorem O5 {n n' a1 a2 c T T' b b' g:Nat} (hn:n<=n') (hT:T<=T') (hb:b<=b'):zd n a1 a2<=zd n' a1 a2/\zw n a1 a2 c<=zw n' a1 a2 c/\zq n a1 a2 c<=zq n' a1 a2 c/\ze a1 a2 T b<=ze a1 a2 T' b'/\zu a1 a2 c T b g<=zu a1 a2 c T' b' g/\a1*T<=a1*T'/\c*T<=c*T'/\a1*(T+1)<=a1*(T'+1)/\c*(T+1)<=c*(T'+1)/\c*(T+2)<=c*(T'+2):=by
 have e1:a1*(n - 1)<=a1*(n' - 1):=aD _ ();have e2:c*n<=c*n':=aD _ hn;have e3:a1*T<=a1*T':=aD _ hT;have e4:c*T<=c*T':=aD _ hT;have w:zw n a1 a2 c<=zw n' a1 a2 c:=by unfold zw zd;lia
 have q:zq n a1 a2 c<=zq n' a1 a2 c:=aK hn ();refine #[by unfold zd;lia,w,q,by unfold ze;lia,by unfold zu ze;lia,e3,e4,aD _ (),aD _ (),aD _ ()]
theorem mR {n n' a1 a2 c T T' b b' g:Nat} (hn:n<=n') (hT:T<=T') (hb:b<=b') (h:ZS n' a1 a2 c T' b' g):ZS n a1 a2 c T b g:=by
 obtain h1|h2|h3|h4|h5|h6|h7:=h;obtain m1|m2|m3|m4|m5|m6|m7|m8|m9|m10:=O5 (a1:=a1) (a2:=a2) (c:=c) (g:=g) hn hT hb;refine #[(),(),(),ag (aK () ()) h4,(),h6,()]
theorem Ar {n n' a1 a2 c T T' b b' g:Nat} (hn:n<=n') (hT:T<=T') (hb:b<=b') (h:ZP n' a1 a2 c T' b' g):ZP n a1 a2 c T b g:=by
 obtain h1|h2:=h;obtain m1|m2|m3|m4|m5|m6|m7|m8|m9|m10:=O5 (a1:=a1) (a2:=a2) (c:=c) (g:=g) hn hT hb;exact #[(),()]
section
variable {mv pt lk pus:LR9} {st pu go pr:List Rat} {M1 M2 V a1 a2 c B b g p t T w:Nat}
theorem Bd.kry (X:Bd mv pt M1 M2 V a1 a2 c) (D:dJ mv pt lk):∀t,∀xs∈kry mv pt t,∀x∈xs,Fr (M1^(t - 1)*M2) (2^(c*t)) x:=by
 intro t
 induction t with
 | zero=>intro xs hx;exact nomatch hx
 | succ t ih =>
  intro xs hx x hx';rcases av.mp (show xs∈pt++(L2.kry mv pt t).map (rH mv) from hx) with hx | hx
  ·refine Fr.up (X.gp xs hx x hx') (eh _ _) (ag X.v1 (aj () ?_));exact bZ _ ()
  ·obtain ys|hy|rfl:=aB.mp hx;obtain row|hr|rfl:=aB.mp (show x∈mv.map λzs=>cb zs ys from hx');rcases t with _ | t
   ·exact nomatch hy
   have f:=Fr.dot (X.gm row hr) (ih ys hy);rw[show M1*(M1^(t+1 - 1)*M2)=M1^(t+1+1 - 1)*M2 by rw[<- cV,show t+1 - 1=t by lia,show t+1+1 - 1=t+1 by lia,gK,b7 M1]] at f;refine f.mono ?_;rw[D.mw row hr,<- cV,show c*(t+1+1)=c+c*(t+1) by rw[gN c (t+1)];lia,aV 2 c];exact ax _ (ag (ax V (show mv.9<=mv.9+4 by lia)) X.vc)
theorem Bd.end (X:Bd mv pt M1 M2 V a1 a2 c) (D:dJ mv pt lk) (ls:st.9=mv.9) (lp:pus.9=T) (wp:∀xs∈pus,xs.9=pt.9) (b0:0 < B) (b1:B<=2^b) (hs:∀x∈st,Fr B (2^g) x) (hu:∀xs∈pus,∀x∈xs,Fr B (2^g) x) (Z:ZS mv.9 a1 a2 c T b g):OQ mv pt pus st/\∀k,k<=T->∀x∈qX mv pt st pus k,Fr (M1^k*(M2*B)) (2^(c*k+g)) x:=by
 obtain h1|h2|h3|h4|h5|h6|h7:=Z;have n0:0 < M2*B:=bC X.m2 b0;have hN:M2*B<=2^(a2+b):=by rw[aV];exact aK X.b2 b1
 have hs':∀x∈st,Fr (M2*B) (2^g) x:=λx hx=>(hs x hx).scaleL _
 have sz:a1*(pus.9+1)+(a2+b)+c*(pus.9+1)+g<=3900000:=by
  rw[lp];unfold zu ze at h5
  lia
 exact #[#[M1,M2,V,a1,a2,c,M2*B,B,g,a2+b,X,n0,hN,wo _,hs',hu,sz,h6],λk hk=>(X.states D ls wp n0 hN (wo _) hs' hu sz h6 k ()).1]
theorem WU (h:ZS n a1 a2 c T b (g+1)):ZS n a1 a2 c T b g:=by
 obtain h1|h2|h3|h4|h5|h6|h7:=h;have e:zu a1 a2 c T b g<=zu a1 a2 c T b (g+1):=by unfold zu;lia
 exact #[h1,(),(),ag (aD _ ()) h4,(),h6,h7]
structure Us (mv pt:LR9) (w T M1 M2 V a1 a2 c b1 b2:Nat):Prop where
 bd:Bd mv pt M1 M2 V a1 a2 c
 z1:ZS mv.9 a1 a2 c T b1 23
 zp:ZP mv.9 a1 a2 c T b1 23
 z2:ZS mv.9 a1 a2 c T b2 23
 dr:∀l:List Rat,(∀x∈l,Dr (max w 6) x)->∃B,0 < B/\6∣B/\(∀x∈l,Fr B (2^22) x)/\(l.9<=2*mv.9+T*pt.9->B<=2^b1)/\(l.9<=2*mv.9+2*(T*pt.9)->B<=2^b2)
end
section
variable {mv pt lk pus pus':LR9} {st st' pu go pr:List Rat} {M1 M2 V a1 a2 c B b1 b2 g p t T w:Nat}
theorem JB:∀(xs:List Rat) (k:Nat),cb xs (ce k 0)=0
 | [],_=>by simp [cb]
 | x :: xs,0=>by simp [cb]
 | x :: xs,k+1=>by
  have:=JB xs k;simp only[cb,jL,List.zipWith_cons_cons,List.sum_cons] at this ⊢;rw[this];grind
theorem xm:∀t,jT mv t (ce mv.9 0)=ce mv.9 0
 | 0=>rfl
 | t+1=>by
  show (mv.map λxs=>cb xs (jT mv t (ce mv.9 0)))=_
  rw[xm t]
  have:∀xs:List Rat,cb xs (ce mv.9 (0:Rat))=0:=λxs=>by
   exact JB xs _
  rw[dq λxs _=>this xs,kG]
end
open PySem.MeetsSeq
theorem D9 (RR:bo rows n R ps) (far:∀c,n<=c->x c=0) (hx:∀j,j < ps.9->(bw n λc=>bE R j c*x c)=0):eo (aR R ps n).9 (bE (aR R ps n)) x:=by
 have Rf:=RR.2.2;have lN:(aR R ps n).9=(lG ps n).9:=by unfold aR;rw[af]
 have fN:∀t,t < (aR R ps n).9->(lG ps n).getD t 0 < n/\(lG ps n).getD t 0∉ps:=λt ht=>v5.mp (getD_in ())
 have vN:∀t,t < (aR R ps n).9->∀c,bE (aR R ps n) t c=(MI R ps n ((lG ps n).getD t 0)).getD c 0:=λt ht c=>by
  have h:t < (lG ps n).9:=()
  unfold bE aR;rw[aa (l:=List.map _ _),aA,ae h,aa (l:=lG ps n),ae h];rfl
 have nd:(lG ps n).Nodup:=by
  unfold lG;exact TW.sublist List.filter_sublist List.nodup_range
 refine #[λt=>x ((lG ps n).getD t 0),λc=>?_]
 suffices y0:∀c,x c - (bw (aR R ps n).9 λt=>x ((lG ps n).getD t 0)*bE (aR R ps n) t c)=0 by
  have:=y0 c;grind
 have free:∀c,c < n->c∉ps->x c - (bw (aR R ps n).9 λt=>x ((lG ps n).getD t 0)*bE (aR R ps n) t c)=0:=λc hc hp=>by
  obtain t0|h0|e0:=bu (v5.mpr #[hc,hp]);have g0:(lG ps n).getD t0 0=c:=by rw[aa,ae h0];exact e0
  rw[eB (i:=t0) () λt ht ne=>?_,vN t0 (),FU hc hp,g0,if_pos rfl]
  ·grind
  ·rw[vN t ht,FU hc hp,if_neg λz=>ne ?_]
   ·grind
   ·have ht':t < (lG ps n).9:=()
    have z:(lG ps n)[t]=(lG ps n)[t0]:=by
     rw[aa,ae ht'] at z;rw[e0];exact z.symm
    have pw:=WK.mp nd;rcases cT t t0 with y | y | y
    ·exact absurd z (pw t t0 ht' h0 y)
    ·exact y
    ·exact absurd z.symm (pw t0 t h0 ht' y)
 have dN:∀j,j < ps.9->∀t,t < (aR R ps n).9->(bw n λc=>bE R j c*bE (aR R ps n) t c)=0:=λj hj t ht=>by
  have hj':j < R.9:=by rw[RR.1];exact hj
  have wr:=RR.2.1 _ (aQ hj');have dz:=Lk (xS RR) (fN t ht).1 (fN t ht).2 (ae hj') wr;rw[dD (by rw[wr];exact qS.symm),wr] at dz;refine Zw (aO λc _=>?_) dz;rw[vN t ht];unfold bE;rw[aa (l:=R),ae hj'];rfl
 have dY:∀j,j < ps.9->(bw n λc=>bE R j c*(x c - (bw (aR R ps n).9 λt=>x ((lG ps n).getD t 0)*bE (aR R ps n) t c)))=0:=λj hj=>by
  have e:∀c,c < n->bE R j c*(x c - (bw (aR R ps n).9 λt=>x ((lG ps n).getD t 0)*bE (aR R ps n) t c))=bE R j c*x c+(-1)*(bw (aR R ps n).9 λt=>x ((lG ps n).getD t 0)*(bE R j c*bE (aR R ps n) t c)):=λc _=>by
   have:(bw (aR R ps n).9 λt=>x ((lG ps n).getD t 0)*(bE R j c*bE (aR R ps n) t c))=bE R j c*bw (aR R ps n).9 λt=>x ((lG ps n).getD t 0)*bE (aR R ps n) t c:=by
    rw[<- cB];exact aO λt _=>by grind
   rw[this];grind
  rw[aO e,oZ,hx j hj,cB,eI,cK (k:=(aR R ps n).9) λt ht=>?_]
  ·grind
  ·rw[cB,dN j hj t ht];grind
 intro c;by_cases hc:c < n
 ·by_cases hp:c∈ps
  ·obtain j|hj|ej:=bu hp;have g:ps.getD j 0=c:=by rw[aa,ae hj];exact ej
   have:=dY j hj;rw[eB (i:=c) hc λc' hc' ne=>?_] at this
   ·have u:=Rf.unit j hj j hj;rw[g,if_pos rfl] at u;rw[u] at this;grind
   ·by_cases hp':c'∈ps
    ·obtain i|hi|ei:=bu hp';have gi:ps.getD i 0=c':=by rw[aa,ae hi];exact ei
     have u:=Rf.unit j hj i hi;rw[gi,if_neg (λz=>ne (by rw[<- gi,<- g,z]))] at u;rw[u];grind
    ·rw[free c' hc' hp'];grind
  ·exact free c hc hp
 ·rw[far c (),cK λt _=>by rw[pJ oE ()];grind];grind
inductive DO (K:FG9) (vs:List V) (H:Hp) (Q:VK) (E9:XK):Prop
 | mk (p:Addr) (n w:Nat) (H0:Hp) (rows R:LR9) (ps:List Nat):vs=[.ref p,.int n]->be K H0 H p R->R.9<=100->n<=100->bo rows n R ps->EG R n w->(∀xs∈R,∀x∈xs,jX x)->(∀r H',H r=none->aH H H'->be K H H' r (aR R ps n)->Q (.ref r) H')->DO K vs H Q E9
theorem jW.symm (h:jW xs ys):jW ys xs:=by obtain k|j|k'|j'|a|b|c:=h;exact #[k',j',k,j,b,a,()]
def WR (mv pt:LR9) (T u:Nat):Prop:=(∃R ps ps',bo (kry mv pt u) mv.9 R ps/\bo (kry mv pt T) mv.9 R ps')/\∀i,i < u->∀R ps ps',bo (kry mv pt i) mv.9 R ps->¬bo (kry mv pt T) mv.9 R ps'
def WH (mv pt:LR9) (T:Nat) (L:List Rat) (pus:LR9):Prop:=∃u R ps,WR mv pt T u/\bo (dm (b8 (kry mv pt u) mv.9) L) ((kry mv pt u).9+1) R ps/\(kry mv pt u).9∉ps/\pus=Bu (ip R ps (kry mv pt u).9) T u pt.9
def Zb (mv pt:LR9) (T:Nat) (L pr:List Rat):Prop:=∃u R ps R' ps',WR mv pt T u/\bo (dm (b8 (kry mv pt u) mv.9) L) ((kry mv pt u).9+1) R ps/\(kry mv pt u).9∈ps/\bo (dm (kry mv pt u++[L]) (ce (kry mv pt u).9 0++[1])) (mv.9+1) R' ps'/\pr=ip R' ps' mv.9
section
variable {mv pt:LR9} {T u u':Nat} {L pr pr':List Rat} {pus pus':LR9} {Rs:List (LR9)}
theorem WR.uniq (h:WR mv pt T u) (h':WR mv pt T u'):u=u':=by
 obtain ⟨R,ps,ps2,a,b⟩|c:=h;obtain ⟨R',ps',ps2',a',b'⟩|c':=h';rcases cT u u' with h | h | h
 ·exact absurd b (c' u h _ _ _ a)
 ·exact h
 ·exact absurd b' (c u' h _ _ _ a')
theorem WH.uniq (h:WH mv pt T L pus) (h':WH mv pt T L pus'):pus=pus':=by
 obtain u|R|ps|a|b|_|rfl:=h;obtain u'|R'|ps'|a'|b'|_|rfl:=h';cases a.uniq a';obtain rfl|rfl:=b.same b';rfl
theorem vP.lt (h:vP mv pt Rs):∀(k i:Nat) (R R':LR9),Rs[i]?=some R->Rs[i+1+k]?=some R'->R.9 < R'.9
 | 0,i,R,R',a,b=>h.up i R R' a b
 | k+1,i,R,R',a,b=>by
  have hk:i+1+k < Rs.9:=by have:=(aF.mp b).1;lia
  have e:Rs[i+1+k]?=some Rs[i+1+k]:=ae hk;exact Nat.lt_trans (h.lt k i R _ a e) (h.up (i+1+k) _ R' e b)
theorem vP.cmu (h:vP mv pt Rs) (eR:Rs[u]?=some R) (RRT:bo (kry mv pt T) mv.9 R psT):WR mv pt T u:=by
 obtain ps|RRu:=h.rr u R eR;refine #[#[R,ps,psT,RRu,RRT],λi hi R1 ps1 ps2 a b=>?_];have hu:=(aF.mp eR).1;have ei:Rs[i]?=some (Rs[i]'()):=ae ();obtain psi|RRi:=h.rr i _ ei;have lt:=h.lt (u - i - 1) i _ R ei (by rw[show i+1+(u - i - 1)=u by lia];exact eR);have e1:=(RRi.same a).1;have e2:=(RRT.same b).1;rw[e1,e2] at lt;exact fj _ lt
end
inductive IM (K:FG9) (C:Addr) (vs:List V) (H:Hp) (Q:VK) (E9:XK):Prop
 | mk (x s g:Addr) (T a c D W0 E W1:Nat) (H0:Hp) (mv pt lk:LR9) (st go:List Rat):vs=[.ref x,.ref s,.ref g,.int T]->T<=99->kI K H0 H C x mv pt lk->dJ mv pt lk->Ky mv pt lk->jl mv pt a c->cC K H s st->st.9=mv.9->cC K H g go->go.9=mv.9->Ie mv pt st (ce T (ce pt.9 0))->(∀x∈go,jX x)->YI mv pt (gM mv T st go) D W0 E W1->((∀t p pus q H',H' t=some (.tup [.str (wP "puts"),.ref p])->H p=none->aH H H'->be K H H' p pus->pus.9=T->(∀xs∈pus,xs.9=pt.9)->qX mv pt st pus T=go->WH mv pt T (gM mv T st go) pus->0 < q->q<=(16*W0)^mv.9->(∀xs∈pus,∀x∈xs,Tp (E*q) (D*(mv.9*(W1*(16*W0)^mv.9))) x)->Q (.ref t) H')/\(∀t p pr q H',H' t=some (.tup [.str (wP "never"),.ref p])->H p=none->aH H H'->cC K H' p pr->pr.9=mv.9->(∀xs∈kry mv pt T,cb xs pr=0)->cb pr (gM mv T st go)=1->Zb mv pt T (gM mv T st go) pr->0 < q->q<=(16*W0)^mv.9*(16*(W1+E))->(∀y∈pr,Tp q ((16*W0)^mv.9*(16*(W1+E))) y)->Q (.ref t) H'))->IM K C vs H Q E9
def Pk (K:FG9):Sp:=λvs H Q E=>∃p q n,vs=[p,q,n]/\DG K [q,p,n] H Q E
section
variable {X:Cx} {tg l:Expr} {tl:TE}
def Qv (K:FG9) (tl:TE):TI:=λσ H R=>tl σ H λx H1=>∃a,x=.ref a/\((∃xs,bI K H1 a xs)/\R (T5 K a) H1\/(∃xs,jN K H1 a xs)/\R (T4 K a) H1)
theorem VL (hl:PE X l tl):PI X tg l (Qv X.K tl):=by
 intro pins s σ H R I h;refine iQ (hl pins s σ H _ I h) λv s1 #[x,H1,I1,r1,q1]=>?_
 obtain a|e|q1:=q1;subst e;cases r1;rcases q1 with ⟨⟨xs,hq⟩,q⟩ | ⟨⟨xs,hq⟩,q⟩
 ·obtain its|rv|p|hz:=I1.list hq;refine wpAny_pyIter_list p.isList ?_;refine #[s1.6,[s1.6],_,_,H1,rfl,I1.kept (t':=s1.toks) λb o e=>io _ e,DB a _,#[_,At _ rfl,rfl,rfl],λb hb=>?_,q];have e:b=s1.6:=by simpa using hb
  subst e;exact I1.fpOk (ah _) (I1.hok.fresh (ah _))
 ·obtain its|rv|p|hz:=I1.tuple hq;refine wpAny_pyIter_tuple (show s1.heap.IsTuple a its.toArray from p) ?_;refine #[s1.6,[s1.6],_,_,H1,rfl,I1.kept (t':=s1.toks) λb o e=>io _ e,AS a _,#[_,At _ rfl,rfl,rfl],λb hb=>?_,q];have e:b=s1.6:=by simpa using hb
  subst e;exact I1.fpOk (ah _) (I1.hok.fresh (ah _))
end
section
variable {X:Cx} {pins:List (Addr×Obj)} {σ:St} {H:Hp} {s:nw} {A:Ix} {E:Value->nw->Prop} {Q:Value->nw->Prop} {b:Bool} {tp:Addr} {dd:Option Addr} {its:List Value} {n:Nat} {sl:Array (Option Value)}
theorem Lx (I:Inv X pins σ H s) (rx:RelV x u) (ty:xC X.K H x t) (htp:s.heap.get? tp=some #[.type "tuple",dd,.seq its.toArray n,sl]) (e:PySem.W.kitAny X.K t its=some b) (h:∀tk,Q (.bool b) { s with toks:=tk }) :
  wE (model X.prog X.w) A (call (.builtin "isinstance") [u,.ref tp]) Q E s:=by
 cases ty with
 | non=>cases (show u=KM from rx);exact dX PySem.W.kitx_none I.kIn P3 htp e (λz=>nomatch z) h
 | bl y=>cases (show u=Value.bool y from rx);exact dX PySem.W.kitx_bool I.kIn P3 htp e (λz=>nomatch z) h
 | int i=>obtain t|q:=(show ∃t,u=Value.int i t from rx);cases q;exact dX PySem.W.kitx_int I.kIn P3 htp e (λz=>nomatch z) h
 | str y=>obtain t|q:=(show ∃t,u=Value.str y t from rx);cases q;exact dX PySem.W.kitx_str I.kIn P3 htp e (λz=>nomatch z) h
 | flt y=>obtain t|q:=(show ∃t,u=Value.float y t from rx);cases q;exact dX PySem.W.kitx_float I.kIn P3 htp e (λz=>nomatch z) h
 | @lst a xs ea =>
  cases (show u=sK a from rx);obtain _|_|n|_|h1:=(show iB X.prog X.w H s.heap a (.lst xs) from I.hok a _ ea);exact dX yz I.kIn #[_,h1,rfl] htp e (λz=>nomatch z) h
 | @frz a ob xs ea =>
  cases (show u=sK a from rx);obtain _|_|_|n|_|h1:=(show iB X.prog X.w H s.heap a (.frz ob (.lst xs)) from I.hok a _ ea);exact dX yz I.kIn #[_,h1,rfl] htp e (λz=>nomatch z) h
 | @tup a xs ea =>
  cases (show u=sK a from rx);obtain _|_|_|p:=(show iB X.prog X.w H s.heap a (.tup xs) from I.hok a _ ea);obtain o|h1|h2|_:=p;exact dX wW I.kIn #[o,h1,h2] htp e (λz=>nomatch z) h
 | @dK a kvs ea =>
  cases (show u=sK a from rx);obtain _|_|vs|_|p:=(show iB X.prog X.w H s.heap a (.dK kvs) from I.hok a _ ea);obtain o|es|ep|h1|h2|_:=p;exact dX yA I.kIn #[o,h1,h2.1] htp e (λz=>nomatch z) h
 | @dT a kvs ea =>
  cases (show u=sK a from rx);obtain _|_|xs|_|o|es|ep|h1|h2|_:=(show iB X.prog X.w H s.heap a (.dT kvs) from I.hok a _ ea);exact dX yA I.kIn #[o,h1,h2.1] htp e (λz=>nomatch z) h
 | @ins a C dx fs ea cl ha hn htk hm =>
  cases (show u=sK a from rx);obtain mA|O|_:=yn I.hok ea;obtain od|J|_:=O.look;exact dX (PySem.W.kitx_own (cl.get _) cl.hd ha hn htk hm) I.kIn J htp e (λz=>nomatch z) h
def XO (K:FG9):List V->Hp->VK->Prop:=λvs H Q=>∃x tp,vs=[x,.ref tp]/\H tp=some (.tup [.ty "list",.ty "tuple"])/\((∃t b,xC K H x t/\PySem.W.kitAny K t [.type "list",.type "tuple"]=some b/\Q (.bl b) H)\/∃a xs,x=.ref a/\jN K H a xs/\Q (.bl true) H)
theorem Oy:pM X (.builtin "isinstance") (XO X.K):=by
 intro pins s σ H vs us Q I r h;obtain x|tp|rfl|et|q1:=h;obtain u|v|rfl|ru|rv:=vals2 r;cases rv;obtain _|its|rits|o|ho|hoc|n|hod:=(show iB X.prog X.w H s.heap tp (.tup [.ty "list",.ty "tuple"]) from I.hok tp _ et);obtain oc|od|dt|sl:=o
 dsimp only at hoc hod
 subst hoc hod
 obtain rfl:its=[.type "list",.type "tuple"]:=by
  cases rits with
  | cons a r=>cases r with
   | cons a2 r2=>cases r2;cases a;cases a2;rfl
 rcases q1 with ⟨t,b,ty,ek,q⟩ | ⟨ad,xs,rfl,hs,q⟩
 ·exact Lx I ru ty ho ek λtk=>#[.bl b,H,I.tok tk,rfl,q]
 ·cases ru;obtain _|_|⟨o,g1,g2,_⟩|_:=I.tuple hs;exact dX wW I.kIn #[o,g1,g2] ho (b:=true) rfl (λz=>nomatch z) λtk=>#[.bl true,H,I.tok tk,rfl,q]
end
inductive Ed where
 | fl (v:V)
 | row (qs:List Rat)
 | grid (rs:LR9)
def Ed.ok:Ed->Prop
 | .fl v=>rB v=true
 | .row qs=>qs.9<=100
 | .grid rs=>rs.9<=100/\∀qs∈rs,qs.9<=100
def EJ (K:FG9) (H0 H:Hp):Ed->V->Prop
 | .fl v,x=>x=v
 | .row qs,x=>∃p,x=.ref p/\H0 p=none/\cC K H p qs
 | .grid rs,x=>∃p,x=.ref p/\H0 p=none/\be K H0 H p rs
theorem EJ.same {K:FG9} (h:EJ K H0 H d x) (s:aH H H'):EJ K H0 H' d x:=by
 cases d with
 | fl v=>exact h
 | row qs=>obtain p|a|b|c:=h;exact #[p,a,b,c.same s]
 | grid rs=>obtain p|a|b|c:=h;exact #[p,a,b,c.same s]
def EX (K:FG9) (n:Nat):Sp:=match n with
 | 0=>λ_ _ _ _=>False
 | i+1=>λvs H Q _=>∃x,vs=[x] /\
  ((rB x=true/\∀H',aH H H'->Q x H')
  \/ (1<=i/\∃q,bX K H q x/\∀r H',aH H H'->bX K H' q (.ref r)->Q (.ref r) H')
  \/ (2<=i/\∃p qs,x=.ref p/\cC K H p qs/\qs.9<=100/\∀r H',H r=none->aH H H'->cC K H' r qs->Q (.ref r) H')
  \/ (3<=i/\∃p H0 rs,x=.ref p/\be K H0 H p rs/\rs.9<=100/\(∀qs∈rs,qs.9<=100)/\∀r H',H r=none->aH H H'->be K H H' r rs->Q (.ref r) H')
  \/ (4<=i/\∃t xs H0 ds,x=.ref t/\jN K H t xs/\jp (EJ K H0 H) ds xs/\ds.9<=10/\(∀d∈ds,Ed.ok d)/\∀r ys H',aH H H'->H' r=some (.tup ys)->jp (EJ K H H') ds ys->Q (.ref r) H'))
section
variable {K:FG9} {g:TG}
theorem Es {F:Hp->α->V->Prop} (G:Hp->β->V->Prop) (f:α->β) (hx:jN K H a xs) (pf:jp (F H) as xs) (hl:as.9<=1000)
  (hF:∀{H H' c x},F H c x->aH H H'->F H' c x) (hG:∀{H H' c x},G H c x->aH H H'->G H' c x)
  (hs:∀(i:Nat) c x H' NY NN,as[i]?=some c->aH H H'->F H' c x->(∀y H2,aH H' H2->G H2 (f c) y->NY y H2)->tW σ₀ g tf te x H' NY NN)
  (hd:∀ys H' p,H p=none->aH H H'->H' p=some (.lst ys)->jp (G H') (as.map f) ys->(∃H2,H2 p=none/\jp (G H2) (as.map f) ys)->Q (.ref p) H'):uh (T4 K a) σ₀ g tf te Q H:=by
 have lx:=pf.9;refine Q6 (K:=K) (xs:=xs) (λi ys H'=>aH H H'/\jp (G H') ((as.take i).map f) ys) lV #[aH.refl _,.nil] (λi ys H' _ #[s,_]=>s.sqt hx) ?_ ?_
 ·rintro i x ys H' hx' hlen ⟨s,pr⟩;obtain c|ec|hc:=cv pf hx';refine hs i c x H' _ _ ec s (hF hc s) λy H2 s2 gy=>#[s.trans s2,?_]
  rw[take_snoc ec,cG];exact bR (ca (λ_ _ z=>hG z s2) pr) (.cons gy .nil)
 ·rintro ys H' hy ⟨s,pr⟩ p hp;rw[aM ()] at pr;exact hd ys _ p (s.none hp) (s.trans (aH.new hp)) aN (ca (λ_ _ z=>hG z (aH.new hp)) pr) #[H',hp,pr]
end
def Kp (S:Addr->Prop) (H H':Hp):Prop:=∀a o,H a=some o->(¬S a\/∀zs,o≠.lst zs)->H' a=some o
section
variable {K:FG9} {S S':Addr->Prop} {H H' H'':Hp} {p:Addr} {q:Rat} {qs:List Rat} {x:V}
theorem Kp.of (s:aH H H'):Kp S H H':=λa o h _=>s a o h
theorem Kp.mono (h:Kp S H H') (hs:∀a,S a->S' a):Kp S' H H':=λa o e c=>h a o e (c.elim (λn=>.inl λz=>n (hs a z)) .inr)
theorem Kp.trans (h:Kp S H H') (h':Kp S H' H''):Kp S H H'':=λa o e c=>h' a o (h a o e c) c
theorem Kp.upd {ys:List V} {o:HO} (hl:H p=some (.lst ys)) (hS:S p):Kp S H (upd H p o):=λa o' e c=>by
 by_cases z:a=p
 ·subst z;rw[hl] at e;cases e;exact c.elim (λn=>absurd hS n) λn=>absurd rfl (n ys)
 ·rw[bG z];exact e
theorem Kp.sqt (h:Kp S H H') (s:jN K H a xs):jN K H' a xs:=by
 rcases s with (e | ⟨o,e⟩) | e
 ·exact .inl (.inl (h _ _ e (.inr λ_ z=>nomatch z)))
 ·exact .inl (.inr #[o,h _ _ e (.inr λ_ z=>nomatch z)])
 ·exact .inr e
theorem Kp.numR (h:Kp S H H') (m:yy K H x n):yy K H' x n:=by obtain p|e|s:=m;exact #[p,e,h.sqt s]
theorem Kp.num (h:Kp S H H') (n:bX K H q x):bX K H' q x:=by obtain p|e|s:=n;exact #[p,e,h.sqt s]
theorem Kp.row (h:Kp S H H') (n:¬S p) (r:cC K H p qs):cC K H' p qs:=by
 obtain xs|g|pr:=r;exact #[xs,h _ _ g (.inl n),ca (λ_ _ z=>h.num z) pr]
end
def KA (K:FG9) (W:Addr->Prop) (H:Hp):Ed->V->Prop
 | .fl v,x=>x=v
 | .row qs,x=>∃p,x=.ref p/\W p/\cC K H p qs
 | .grid rs,x=>∃p us,x=.ref p/\W p/\H p=some (.lst us)/\V.ref p∉us/\jp (λqs v=>∃q,v=V.ref q/\W q/\cC K H q qs) rs us
theorem KA.kp {K:FG9} (h:KA K W H d x) (k:Kp S H H') (n:∀a,W a->¬S a):KA K W H' d x:=by
 cases d with
 | fl v=>exact h
 | row qs=>obtain p|a|b|c:=h;exact #[p,a,b,k.row (n p b) c]
 | grid rs =>
  obtain p|us|a|b|c|d|e:=h;exact #[p,us,a,b,k _ _ c (.inl (n p b)),d,ca (λ_ _ #[q,a,b,c]=>#[q,a,b,k.row (n q b) c]) e]
theorem EJ.elW {K:FG9} (h:EJ K H0 Hf d x) (s:aH Hf H):KA K (λa=>H0 a=none/\Hf a≠none) H d x:=by
 cases d with
 | fl v=>exact h
 | row qs =>
  obtain p|a|b|c:=h;exact #[p,a,#[b,by obtain _|g|_:=c;rw[g];exact λz=>nomatch z],c.same s]
 | grid rs =>
  obtain p|a|b|us|c|d|e:=h;exact #[p,us,a,#[b,by rw[c];exact λz=>nomatch z],s _ _ c,e,ca (λ_ _ #[q,a,b,c]=>#[q,a,#[b,by obtain _|g|_:=c;rw[g];exact λz=>nomatch z],c.same s]) d]
def yL (K:FG9) (n:Nat):Sp:=match n with
 | 0=>λ_ _ _ _=>False
 | i+1=>λvs H Q _=>∃x,vs=[x] /\
  ((rB x=true/\∀H',aH H H'->Q .non H')
  \/ (1<=i/\∃n,yy K H x n/\∀H',aH H H'->Q .non H')
  \/ (2<=i/\∃p zs,x=.ref p/\H p=some (.lst zs)/\zs.9<=500/\(∀z∈zs,∃n,yy K H z n)/\∀t H',Kp (λa=>a=p) H H'->H' t=some (.tup [.int 7,.int 1])->H' p=some (.lst (zs++[.ref t]))->Q .non H')
  \/ (3<=i/\∃p us,x=.ref p/\H p=some (.lst us)/\us.9<=100/\V.ref p∉us/\(∀y∈us,∃q zs,y=.ref q/\H q=some (.lst zs)/\zs.9<=100/\∀z∈zs,∃n,yy K H z n)/\∀H',Kp (λa=>a=p\/V.ref a∈us) H H'->Q .non H')
  \/ (4<=i/\∃(t:Addr) (xs:List V) (ews:List (Ed×(Addr->Prop))),x=.ref t/\jN K H t xs/\jp (λ(e:Ed×(Addr->Prop)) v=>KA K e.2 H e.1 v) ews xs/\ews.9<=10/\(∀e∈ews,Ed.ok e.1)/\(∀(i j:Nat) (e e':Ed×(Addr->Prop)),i < j->ews[i]?=some e->ews[j]?=some e'->∀a,e'.2 a->¬e.2 a)/\∀H',Kp (λa=>∃e∈ews,e.2 a) H H'->Q .non H'))
section
variable {α β γ:Type} [DecidableEq α] [DecidableEq β] [DecidableEq γ] (k1:Kind α) (k2:Kind β) (k3:Kind γ)
theorem vals3 (r:c7 [x,y,z] us):∃u v w,us=[u,v,w]/\RelV x u/\RelV y v/\RelV z w:=by
 cases r with
 | cons a r=>cases r with
  | cons b r=>cases r with
   | cons c r=>cases r;exact #[_,_,_,rfl,a,b,c]
def e3 (a b:α×β×γ) (j:Nat):Bool:=if j=0 then decide (a.1=b.1) else if j=1 then decide (a.2.1=b.2.1) else decide (a.2.2=b.2.2)
theorem uA {X:Cx} {pins:List (Addr×Obj)} {σ:St} {H:Hp} {s:nw} {A:Ix} (I:Inv X pins σ H s) (h1:A.units+k1.d < Op) (h2:A.units+k2.d < Op) (h3:A.units+k3.d < Op) {x y z x' y' z':V} {us ws:List Value} {a b:α×β×γ}
  (rx:c7 [x,y,z] us) (ry:c7 [x',y',z'] ws) (a1:k1.R X.K H x a.1) (a2:k2.R X.K H y a.2.1) (a3:k3.R X.K H z a.2.2) (b1:k1.R X.K H x' b.1) (b2:k2.R X.K H y' b.2.1) (b3:k3.R X.K H z' b.2.2) :
  ∀j (h1:j < us.5.7) (h2:j < ws.5.7),Ch A s us.5[j] ws.5[j] (e3 a b j):=λj l1 l2=>by
 obtain u1|u2|u3|rfl|r1|r2|r3:=vals3 rx;obtain w1|w2|w3|rfl|q1|q2|q3:=vals3 ry;have hj:j < 3:=by simpa using l1
 rcases (show j=0\/j=1\/j=2 by lia) with rfl | rfl | rfl
 ·exact k1.eq (A:=A) I r1 q1 a1 b1 h1
 ·exact k2.eq (A:=A) I r2 q2 a2 b2 h2
 ·exact k3.eq (A:=A) I r3 q3 a3 b3 h3
theorem yH {a b:α×β×γ}:(on 3).all (e3 a b)=decide (a=b):=by
 have e:on 3=[0,1,2]:=rfl;rw[e];simp only[KE,List.all_nil,Bool.and_true];show (decide (a.1=b.1) && (decide (a.2.1=b.2.1) && decide (a.2.2=b.2.2)))=_
 rw[<- RN,<- RN];exact decide_eq_decide.mpr #[λ#[h1,h2,h3]=>Zv h1 (Zv h2 h3),λh=>by rw[h];exact #[rfl,rfl,rfl]]
def Jw:Kind (α×β×γ) where
 R:=λK H x a=>∃p u v w,x=.ref p/\jN K H p [u,v,w]/\k1.R K H u a.1/\k2.R K H v a.2.1/\k3.R K H w a.2.2
 d:=max k1.d (max k2.d k3.d)+1
 inj:=λ{X pins σ H s x a b} I h1 h2=>by
  obtain p|u|v|w|rfl|hp|a1|a2|a3:=h1;obtain q|u'|v'|w'|e|hq|b1|b2|b3:=h2;cases e;have e:=I.tuple_inj hp hq;cases e;exact Zv (k1.inj I a1 b1) (Zv (k2.inj I a2 b2) (k3.inj I a3 b3))
 rc:=λ{X pins σ H s x y v u a b A} I rx ry h1 h2 hA=>by
  obtain p|x1|x2|x3|rfl|hp|a1|a2|a3:=h1;obtain q|y1|y2|y3|rfl|hq|b1|b2|b3:=h2;cases rx;cases ry;obtain us|r1|t1|_:=I.tuple hp;obtain ws|r2|t2|_:=I.tuple hq;have l1:=r1.9;have l2:=r2.9;have z:=Tl (A:=A) (e:=e3 a b) (show s.heap.IsTuple p us.toArray from t1) (show s.heap.IsTuple q ws.toArray from t2) () (uA k1 k2 k3 (A:=A.in1) I (by show A.units+1+k1.d < Op;lia) (by show A.units+1+k2.d < Op;lia) (by show A.units+1+k3.d < Op;lia) r1 r2 a1 a2 a3 b1 b2 b3);have e1:us.5.7=3:=by rw[aG,<- l1];rfl
  have e2:ws.5.7=3:=by rw[aG,<- l2];rfl
  rw[e1,e2,jg,yH] at z;simpa using z
 ne:=λ{X pins σ H s x y v u a b A} I rx ry h1 h2 hA=>by
  obtain p|x1|x2|x3|rfl|hp|a1|a2|a3:=h1;obtain q|y1|y2|y3|rfl|hq|b1|b2|b3:=h2;cases rx;cases ry;obtain us|r1|t1|_:=I.tuple hp;obtain ws|r2|t2|_:=I.tuple hq;have l1:=r1.9;have l2:=r2.9;have z:=Tk.tuples (A:=A) (e:=e3 a b) (show s.heap.IsTuple p us.toArray from t1) (show s.heap.IsTuple q ws.toArray from t2) () (uA k1 k2 k3 (A:=A.in1) I (by show A.units+1+k1.d < Op;lia) (by show A.units+1+k2.d < Op;lia) (by show A.units+1+k3.d < Op;lia) r1 r2 a1 a2 a3 b1 b2 b3);have e1:us.5.7=3:=by rw[aG,<- l1];rfl
  have e2:ws.5.7=3:=by rw[aG,<- l2];rfl
  rw[e1,e2,jg,yH] at z;simpa using z
 eq:=λ{X pins σ H s x y v u a b A} I rx ry h1 h2 hA=>by
  obtain p|x1|x2|x3|rfl|hp|a1|a2|a3:=h1;obtain q|y1|y2|y3|rfl|hq|b1|b2|b3:=h2;cases rx;cases ry;by_cases e:p=q
  ·subst e;have e:=I.tuple_inj hp hq;cases e;have e2:a=b:=Zv (k1.inj I a1 b1) (Zv (k2.inj I a2 b2) (k3.inj I a3 b3));rw[decide_eq_true e2];exact Zn _
  ·obtain us|r1|t1|_:=I.tuple hp;obtain ws|r2|t2|_:=I.tuple hq;have l1:=r1.9;have l2:=r2.9;have z:=Tl (A:=A) (e:=e3 a b) (show s.heap.IsTuple p us.toArray from t1) (show s.heap.IsTuple q ws.toArray from t2) () (uA k1 k2 k3 (A:=A.in1) I (by show A.units+1+k1.d < Op;lia) (by show A.units+1+k2.d < Op;lia) (by show A.units+1+k3.d < Op;lia) r1 r2 a1 a2 a3 b1 b2 b3);have e1:us.5.7=3:=by rw[aG,<- l1];rfl
   have e2:ws.5.7=3:=by rw[aG,<- l2];rfl
   rw[e1,e2,jg,yH] at z;exact .of_refs e (by simpa using z)
end
def RI (mv pt:LR9) (st go:List Rat) (u:Nat) (A:LR9->Prop) (B:List Rat->Prop):Prop:=∃D W0 E W1,CtF mv pt u st go D W0 E W1 /\
 (∀(pus:LR9) (q:Nat),pus.9=u->(∀xs∈pus,xs.9=pt.9)->qX mv pt st pus u=go->WH mv pt u (gM mv u st go) pus->0 < q->q<=(16*W0)^mv.9->(∀xs∈pus,∀x∈xs,Tp (E*q) (D*(mv.9*(W1*(16*W0)^mv.9))) x)->A pus) /\
 (∀(pr:List Rat) (q:Nat),pr.9=mv.9->(∀xs∈kry mv pt u,cb xs pr=0)->cb pr (gM mv u st go)=1->Zb mv pt u (gM mv u st go) pr->0 < q->q<=(16*W0)^mv.9*(16*(W1+E))->(∀y∈pr,Tp q ((16*W0)^mv.9*(16*(W1+E))) y)->B pr)
def OV (mv pt:LR9) (st go:List Rat) (u:Nat) (pus:LR9):Prop:=pus.9=u/\(∀xs∈pus,xs.9=pt.9)/\qX mv pt st pus u=go/\WH mv pt u (gM mv u st go) pus/\OQ mv pt pus st
def Mg (mv pt:LR9) (st go:List Rat) (u:Nat) (pr:List Rat):Prop:=pr.9=mv.9/\(∀xs∈kry mv pt u,cb xs pr=0)/\cb pr (gM mv u st go)=1/\Zb mv pt u (gM mv u st go) pr/\PrF mv pt u st go pr
section
variable {mv pt lk:LR9} {st go:List Rat} {M1 M2 V a1 a2 c B b g T u w b1 b2:Nat}
def GoB (mv pt:LR9) (M1 M2 c b1 T:Nat) (st go:List Rat):Prop:=∃B,0 < B/\B<=2^b1/\(∀x∈st,Fr B (2^22) x)/\∀x∈go,Fr (M1^T*(M2*B)) (2^(c*T+23)) x
theorem Us.gob (U:Us mv pt w T M1 M2 V a1 a2 c b1 b2) (D:dJ mv pt lk) (ls:st.9=mv.9) (lg:go.9=mv.9) (hs:∀x∈st,Dr (max w 6) x) (hT:T'<=T) (hg:GoP mv pt T' w st go):GoB mv pt M1 M2 c b1 T st go:=by
 have up:2^(c*T+22)+1<=2^(c*T+23):=by
  rw[show c*T+23=1+(c*T+22) by lia,aV 2 1];have:0 < 2^(c*T+22):=eH ()
  lia
 rcases hg with hg | ⟨pus,hp,hg⟩
 ·obtain B|h0|h6|h|h1|_:=U.dr (st++go) λx hx=>(av.mp hx).elim (hs x) (hg x)
  exact #[B,h0,h1 (by rw[ai,ls,lg];lia),λx hx=>h x (dS _ hx),λx hx=>Fr.up (h x (bJ _ hx)) (ou (eh _ _) (eh _ _)) (aj () ())]
 ·obtain B|h0|h6|h|h1|_:=U.dr (st++pus.flatten) λx hx=>by
   rcases av.mp hx with hx | hx
   ·exact hs x hx
   ·obtain xs|m1|m2:=jQ.mp hx;exact (hp.2 xs m1).2 x m2
  have hm:T'*pt.9<=T*pt.9:=ax _ hT
  have h1:=h1 (by
   rw[ai,v7 λxs hx=>(hp.2 xs hx).1,hp.1,ls]
   lia)
  have f1:∀x∈st,Fr B (2^22) x:=λx hx=>h x (dS _ hx)
  have f2:∀xs∈pus,∀x∈xs,Fr B (2^22) x:=λxs hx x hx'=>h x (bJ _ (jQ.mpr #[xs,hx,hx']))
  have fe0:=(U.bd.end D ls hp.1 (λxs hx=>(hp.2 xs hx).1) h0 h1 f1 f2 (mR (ah _) hT (ah _) (WU U.z1))).2 T' (ah _);have fe:∀x∈qX mv pt st pus T',Fr (M1^T*(M2*B)) (2^(c*T+22)) x:=λx hx=>Fr.up (fe0 x hx) (Nat.mul_dvd_mul_right (Nat.pow_dvd_pow _ hT) _) (aj () (Nat.add_le_add_right (aD _ hT) _))
  refine #[B,h0,h1,f1,λx hx=>?_];rcases hg with rfl | ⟨a,v,v3,rfl⟩
  ·exact (fe x hx).mono ()
  ·rcases cI hx with hx | rfl
   ·exact (fe x hx).mono ()
   ·have u1:Fr (M1^T*(M2*B)) 1 (RU v):=(T8 v3).dvd (ou h6 (ou (eh _ _) (eh _ _)))
    have u2:Fr (M1^T*(M2*B)) (2^(c*T+22)) ((qX mv pt st pus T').getD a 0):=by
     rw[aa];cases h:(qX mv pt st pus T')[a]? with
     | none=>exact Fr.zero
     | some y=>exact fe y (ar h)
    exact (u2.add u1).mono up
theorem Us.enf (U:Us mv pt w T M1 M2 V a1 a2 c b1 b2) (D:dJ mv pt lk) (ls:st.9=mv.9) (hs:∀x∈st,Dr (max w 6) x) (hT:T'<=T) (hp:YH pt T' w pus):OQ mv pt pus st:=by
 obtain B|h0|h6|h|h1|_:=U.dr (st++pus.flatten) λx hx=>by
  rcases av.mp hx with hx | hx
  ·exact hs x hx
  ·obtain xs|m1|m2:=jQ.mp hx;exact (hp.2 xs m1).2 x m2
 have hm:T'*pt.9<=T*pt.9:=ax _ hT
 have h1:=h1 (by
  rw[ai,v7 λxs hx=>(hp.2 xs hx).1,hp.1,ls]
  lia)
 exact (U.bd.end D ls hp.1 (λxs hx=>(hp.2 xs hx).1) h0 h1 (λx hx=>h x (dS _ hx)) (λxs hx x hx'=>h x (bJ _ (jQ.mpr #[xs,hx,hx']))) (mR (ah _) hT (ah _) (WU U.z1))).1
end
theorem EJ.kp {K:FG9} (h:EJ K H0 H d x) (k:Kp S H H') (n:∀a,H0 a=none->¬S a):EJ K H0 H' d x:=by
 cases d with
 | fl v=>exact h
 | row qs=>obtain p|a|b|c:=h;exact #[p,a,b,k.row (n p b) c]
 | grid rs =>
  obtain p|a|b|us|c|d|e:=h;exact #[p,a,b,us,k _ _ c (.inl (n p b)),ca (λ_ _ #[q,a,b,c]=>#[q,a,b,k.row (n q b) c]) d,e]
def SoR (mv pt:LR9) (st go:List Rat) (T:Nat) (kv:V) (pus prs:LR9):Prop:=(∀j pr,prs[j]?=some pr->Mg mv pt st go j pr)/\((∃k:Nat,kv=.int k/\k<=T/\prs.9=k/\OV mv pt st go k pus)\/(kv=.non/\pus=[]/\prs.9=T+1))
inductive Iw (K:FG9) (C:Addr) (vs:List V) (H:Hp) (Q:VK) (E9:XK):Prop
 | mk (x s g:Addr) (T a c:Nat) (H0:Hp) (mv pt lk:LR9) (st go:List Rat):vs=[.ref x,.ref s,.ref g,.int T]->T<=98->kI K H0 H C x mv pt lk->dJ mv pt lk->Ky mv pt lk->jl mv pt a c->cC K H s st->st.9=mv.9->cC K H g go->go.9=mv.9->(∀u,u<=T->RI mv pt st go u (OV mv pt st go u) (Mg mv pt st go u))->(∀kv t p r pus prs Hm H',H' t=some (.tup [kv,.ref p,.ref r])->aH H Hm->aH Hm H'->H r=none->be K H Hm r prs->Hm p=none->be K Hm H' p pus->SoR mv pt st go T kv pus prs->Q (.ref t) H')->Iw K C vs H Q E9
theorem Qd (RR:bo rows n R ps) (hw:∀xs∈rows,xs.9=n):∀z∈aR R ps n,∀xs∈rows,cb xs z=0:=λz hz xs hx=>by
 obtain a|h1|h2|rfl:=rj hz;obtain i|hi|rfl:=bu hx;exact Lk RR h1 h2 (ae hi) (hw _ (aQ hi))
theorem mul_pow (h:a<=2^c) (h':b<=2^d):a*b<=2^(c+d):=by
 rw[aV];exact aK h h'
section
variable {mv pt lk F R:LR9} {n m:Nat} {ps:List Nat} {x:Nat->Rat} {st pu:List Rat}
theorem Mr {a:Nat->Nat->Rat} {f:Nat->Nat->Rat} {w:Nat->Rat}:∀k,(∀i,i < k->eo m a (f i))->eo m a λc=>bw k λi=>w i*f i c
 | 0,_=>eo.zero λ_=>rfl
 | k+1,h=>by
  have:=eo.lin 1 (w k) (Mr (w:=w) k λi hi=>h i ()) (h k ());exact this.congr λc=>by show _=bw k _+_;grind
theorem MS (KF:jl mv pt a c) (D8:mv.9<=8) (wm:∀xs∈mv,xs.9=mv.9) (wp:∀xs∈pt,xs.9=mv.9) (RR:bo (kry mv pt mv.9) mv.9 R ps):(∀k,k < pt.9->eo ps.9 (bE R) (bE pt k))/\∀x:Nat->Rat,eo ps.9 (bE R) x->eo ps.9 (bE R) λc=>bw mv.9 λj=>bE mv c j*x j:=by
 obtain R0|ps0|G:=QE KF D8 wm wp (mv.9+1);have R1:=G.late (fR _) (ah _);have R2:=G.late (fR _) (md mv.9);obtain rfl|rfl:=RR.same R1;have B:=Jv rfl wm wp R1 R2;have sp:=B.2.2.span;refine #[λk hk=>?_,λx hx=>?_]
 ·have:=sp k (by rw[ai];lia);rwa [yv hk] at this
 ·obtain w|hw:=hx
  have key:=Mr (w:=w) (f:=λs=>bE (R.map (rH mv)) s) ps.9 λs hs=>by
   have:=sp (pt.9+s) (by rw[ai,af,RR.1];lia);rwa [vM] at this
  refine key.congr λc=>?_
  have e:(bw mv.9 λj=>bE mv c j*x j)=bw mv.9 λj=>bw ps.9 λs=>w s*(bE mv c j*bE R s j):=aO λj _=>by
   rw[hw j,<- cB];exact aO λs _=>by grind
  rw[e,eI];refine aO λs hs=>?_
  rw[cB,MH rfl wm RR.2.1 (by rw[RR.1];exact hs)]
theorem Qb (KF:jl mv pt a c) (D8:mv.9<=8) (wm:∀xs∈mv,xs.9=mv.9) (wp:∀xs∈pt,xs.9=mv.9) (RR:bo (kry mv pt mv.9) mv.9 R ps) (hz:z∈aR R ps mv.9) (hk:k < pt.9):(bw mv.9 λc=>bE pt k c*z.getD c 0)=0:=by
 obtain w|hw:=(MS KF D8 wm wp RR).1 k hk
 have e:(bw mv.9 λc=>bE pt k c*z.getD c 0)=bw mv.9 λc=>bw ps.9 λs=>w s*(bE R s c*z.getD c 0):=aO λc _=>by
  rw[hw c,cD,<- cB];exact aO λs _=>by grind
 rw[e,eI];refine cK λs hs=>?_
 rw[cB];obtain b|h1|h2|rfl:=rj hz;have hs':s < R.9:=by rw[RR.1];exact hs
 have ws:=RR.2.1 _ (aQ hs');have d:=Lk (xS RR) h1 h2 (ae hs') ws;rw[dD (by rw[ws];exact qS.symm),ws] at d
 have:(bw mv.9 λc=>bE R s c*(MI R ps mv.9 b).getD c 0)=0:=by
  refine Zw (aO λc _=>?_) d;unfold bE;rw[aa (l:=R),ae hs'];rfl
 rw[this,cS]
end
theorem zP:∀{ps:List Nat},jp (λj x=>x=V.int ((j:Nat):Int)) ps (dB ps)
 | []=>.nil
 | _ :: _=>.cons rfl zP
inductive A7 (K:FG9) (vs:List V) (H:Hp) (Q:VK) (E9:XK):Prop
 | mk (p q:Addr) (w:Nat) (H0 H1:Hp) (one other:LR9):vs=[.ref p,.ref q,.int w]->be K H0 H p one->be K H1 H q other->one.9<=1000->other.9<=1000->w<=1000->((∀xs∈one,xs.9=other.9/\∀ys∈b8 other w,jW ys xs))->(∀xs∈other,xs.9=w)->(∀r H',H r=none->aH H H'->be K H H' r (dU one other w)->Q (.ref r) H')->A7 K vs H Q E9
inductive AX (K:FG9) (C:Addr) (vs:List V) (H:Hp) (Q:VK) (E9:XK):Prop
 | mk (x p:Addr) (H0 H1:Hp) (mv pt lk N:LR9):vs=[.ref x,.ref p]->kI K H0 H C x mv pt lk->dJ mv pt lk->be K H1 H p N->N.9<=100->((∀xs∈N,xs.9=mv.9/\∀ys∈b8 mv mv.9,jW ys xs))->(∀r H',H r=none->aH H H'->be K H H' r (dU N mv mv.9)->Q (.ref r) H')->AX K C vs H Q E9
def ki (mv R:LR9) (ps:List Nat):LR9:=(dU (aR R ps mv.9) mv mv.9).map λrow=>(lG ps mv.9).map λpl=>row.getD pl 0
theorem Qf (hi:i < (aR R ps n).9) (hb:b < n) (hp:b∉ps):bE (aR R ps n) i b=if b=(lG ps n).getD i 0 then 1 else 0:=by
 have lN:(aR R ps n).9=(lG ps n).9:=af ..;have h:i < (lG ps n).9:=()
 have e:bE (aR R ps n) i b=(MI R ps n ((lG ps n).getD i 0)).getD b 0:=by
  unfold bE aR;rw[aa (l:=List.map _ _),aA,ae h,aa (l:=lG ps n),ae h];rfl
 rw[e,FU hb hp]
theorem We (hi:i < (lG ps n).9) (hj:j < (lG ps n).9) (h:(lG ps n).getD i 0=(lG ps n).getD j 0):i=j:=by
 have nd:(lG ps n).Nodup:=by
  unfold lG;exact TW.sublist List.filter_sublist List.nodup_range
 have pw:=WK.mp nd;have e:∀k (hk:k < (lG ps n).9),(lG ps n).getD k 0=(lG ps n)[k]:=λk hk=>by rw[aa,ae hk];rfl
 rw[e i hi,e j hj] at h;rcases cT i j with y | y | y
 ·exact absurd h (pw i j hi hj y)
 ·exact y
 ·exact absurd h.symm (pw j i hj hi y)
theorem Pb (wN:∀xs∈N,xs.9=mv.9) (hi:i < N.9) (hb:b < mv.9):bE (dU N mv mv.9) i b=bw mv.9 λc=>bE mv c b*bE N i c:=by
 unfold bE dU;rw[aa (l:=List.map _ N),aA,ae hi];show ((b8 mv mv.9).map λys=>cb ys N[i]).getD b 0=_
 rw[aa,aA,xF hb];show cb (mv.map λxs=>xs.getD b 0) N[i]=_
 rw[dD (by rw[af,wN _ (aQ hi)]),af];refine aO λc _=>?_
 rw[Ln];unfold bE;rw[aa (l:=N),ae hi];rfl
theorem S9 (KF:jl mv pt a c) (D8:mv.9<=8) (wm:∀xs∈mv,xs.9=mv.9) (wp:∀xs∈pt,xs.9=mv.9) (RR:bo (kry mv pt mv.9) mv.9 R ps) (hi:i < (aR R ps mv.9).9) (hb:b < mv.9):bE (dU (aR R ps mv.9) mv mv.9) i b=bw (aR R ps mv.9).9 λt=>bE (dU (aR R ps mv.9) mv mv.9) i ((lG ps mv.9).getD t 0)*bE (aR R ps mv.9) t b:=by
 have wN:∀xs∈aR R ps mv.9,xs.9=mv.9:=oE;have lN:(aR R ps mv.9).9=(lG ps mv.9).9:=af ..;have inv:=(MS KF D8 wm wp RR).2
 have far:∀c,mv.9<=c->bE (dU (aR R ps mv.9) mv mv.9) i c=0:=λc hc=>pJ (λxs hx=>by
  obtain z|_|rfl:=aB.mp hx;rw[af,di]) hc
 have dz:∀x:Nat->Rat,eo ps.9 (bE R) x->(bw mv.9 λc=>x c*bE (aR R ps mv.9) i c)=0:=λx #[w,hw]=>by
  have e:(bw mv.9 λc=>x c*bE (aR R ps mv.9) i c)=bw mv.9 λc=>bw ps.9 λs=>w s*(bE R s c*bE (aR R ps mv.9) i c):=aO λc _=>by
   rw[hw c,cD,<- cB];exact aO λs _=>by grind
  rw[e,eI];refine cK λs hs=>?_
  rw[cB];have hs':s < R.9:=by rw[RR.1];exact hs
  have ws:=RR.2.1 _ (aQ hs');have hz:=aQ hi;have d:=Qd (xS RR) RR.2.1 _ hz _ (aQ hs');rw[dD (by rw[ws,wN _ hz]),ws] at d
  have:(bw mv.9 λc=>bE R s c*bE (aR R ps mv.9) i c)=0:=by
   refine Zw (aO λc _=>?_) d;unfold bE;rw[aa (l:=R),ae hs',aa (l:=aR R ps mv.9),ae hi];rfl
  rw[this,cS]
 have sp:=D9 RR far λj hj=>by
  have e:(bw mv.9 λb=>bE R j b*bE (dU (aR R ps mv.9) mv mv.9) i b)=bw mv.9 λc=>(bw mv.9 λb=>bE mv c b*bE R j b)*bE (aR R ps mv.9) i c:=by
   have e1:(bw mv.9 λb=>bE R j b*bE (dU (aR R ps mv.9) mv mv.9) i b)=bw mv.9 λb=>bw mv.9 λc=>bE (aR R ps mv.9) i c*(bE mv c b*bE R j b):=aO λb hb=>by
    rw[Pb wN hi hb,<- cB];exact aO λc _=>by grind
   rw[e1,eI];exact aO λc _=>by rw[cB];exact cD _ _
  rw[e];exact dz _ (inv _ (eo.row hj))
 obtain w|hw:=sp
 have hw':∀s,s < (aR R ps mv.9).9->w s=bE (dU (aR R ps mv.9) mv mv.9) i ((lG ps mv.9).getD s 0):=λs hs=>by
  have fs:=v5.mp (getD_in (e:=0) (show s < (lG ps mv.9).9 by lia));rw[hw,eB hs λt ht ne=>?_,Qf hs fs.1 fs.2,if_pos rfl,ui];rw[Qf ht fs.1 fs.2,if_neg (λz=>ne (We () () z).symm),cS]
 rw[hw b];exact aO λt ht=>by rw[hw' t ht]
theorem vS:(ki mv R ps).9=(aR R ps mv.9).9:=by unfold ki dU;rw[af,af]
theorem Il:∀xs∈ki mv R ps,xs.9=(aR R ps mv.9).9:=λxs hx=>by
 obtain z|_|rfl:=aB.mp hx;rw[af];exact (af ..).symm
structure TV (mv pt:LR9) (w T M1 M2 V a1 a2 c a0 c0 b:Nat):Prop where
 bd:Bd mv pt M1 M2 V a1 a2 c
 kf:jl mv pt a0 c0
 nm:∀r,r<=mv.9->2*((mv.9 - r)*(r*((mv.9 - 1)*(a0+c0)+4)+4)+r*((mv.9 - 1)*(a0+c0)+4))<=3990000
 kl:2*(mv.9*(c*mv.9+(a1*(mv.9 - 1)+a2)+4)+(a1*(mv.9 - 1)+a2))<=3990000
 dr:∀l:List Rat,(∀x∈l,Dr (max w 6) x)->l.9<=mv.9+T*pt.9->∃B,0 < B/\B<=2^b/\∀x∈l,Fr B (2^22) x
 sz:4*(mv.9*((mv.9 - 1)*(a0+c0)+4))+(a1+c)+(a1*(T+2)+a2+b+c*(T+2)+22)+20<=3900000
theorem YY:∀n,n < 9->∀r,r < 9->decide (r<=n->2*((n - r)*(r*((n - 1)*(0+13)+4)+4)+r*((n - 1)*(0+13)+4))<=3990000)=true:=by decide +kernel
theorem YX:∀n,n < 6->∀r,r < 6->decide (r<=n->2*((n - r)*(r*((n - 1)*(12+16)+4)+4)+r*((n - 1)*(12+16)+4))<=3990000)=true:=by decide +kernel
theorem YW:∀n,n < 3->∀r,r < 3->decide (r<=n->2*((n - r)*(r*((n - 1)*(240+32)+4)+4)+r*((n - 1)*(240+32)+4))<=3990000)=true:=by decide +kernel
theorem YV:∀n,n < 3->∀r,r < 3->decide (r<=n->2*((n - r)*(r*((n - 1)*(12+12)+4)+4)+r*((n - 1)*(12+12)+4))<=3990000)=true:=by decide +kernel
theorem Xy (R:Rg mv pt w) (D:dJ mv pt lk) (S:RH mv pt T):∃M1 M2 V a1 a2 c a0 c0 b,TV mv pt w (T+1) M1 M2 V a1 a2 c a0 c0 b:=by
 have i4:=D.i4;have n8:=D.n8;have small:w<=9->∀l:List Rat,(∀x∈l,Dr (max w 6) x)->l.9<=mv.9+(T+1)*pt.9->∃B,0 < B/\B<=2^12/\∀x∈l,Fr B (2^22) x:=λw9 l h _=>#[2520,(),(),λx hx=>(LL #[ag (h x hx).1 (),ag (h x hx).2 ()] (wo _)).mono ()]
 have wide:w=1000->∀t,(T+1)*pt.9<=t->mv.9<=2->∀l:List Rat,(∀x∈l,Dr (max w 6) x)->l.9<=mv.9+(T+1)*pt.9->∃B,0 < B/\B<=2^(22+10*t)/\∀x∈l,Fr B (2^22) x:=λw9 t ht n2 l h hl=>by
  obtain B|h0|h1|h2:=Eo (c:=10) (l:=l) (λx hx=>#[ag (h x hx).1 (by rw[w9];decide),ag (h x hx).2 (by rw[w9];decide)]) ();exact #[B,h0,ag h1 (aj () ()),h2]
 have mul:∀{x y p q:Nat},x<=p->y<=q->x*y<=p*q:=λh h'=>aK h h'
 have T12:=S.1;rcases R with ⟨w9,X⟩ | ⟨w9,n5,X⟩ | ⟨w9,n2,M1,M2,X⟩
 ·have k1:(8+1)*9^3<=2^13:=()
  have e8:mv.9*((mv.9 - 1)*(0+13)+4)<=8*95:=mul n8 ();have e9:mv.9*(14*mv.9+(0*(mv.9 - 1)+0)+4)<=8*116:=mul n8 ();exact #[_,_,_,_,_,_,0,13,12,X,p7 (n0:=8) X.m1 () n8 k1 X.gm X.gp (),λr hr=>of_decide_eq_true (YY _ () r ()) hr,(),small w9,()]
 ·have k1:(5+1)*(9^3*9)<=2^16:=()
  have e8:mv.9*((mv.9 - 1)*(12+16)+4)<=5*116:=mul n5 ();have e9:mv.9*(16*mv.9+(12*(mv.9 - 1)+12)+4)<=5*144:=mul n5 ();exact #[_,_,_,_,_,_,12,16,12,X,p7 (n0:=5) X.m1 () n5 k1 X.gm X.gp (),λr hr=>of_decide_eq_true (YX _ () r ()) hr,(),small w9,()]
 ·by_cases T3:T<=3
  ·have m:(T+1)*pt.9<=4*4:=mul () i4;have k1:(2+1)*(9^3*2^20)<=2^32:=()
   have e8:mv.9*((mv.9 - 1)*(240+32)+4)<=2*276:=mul n2 ();have e9:mv.9*(33*mv.9+(80*(mv.9 - 1)+160)+4)<=2*310:=mul n2 ();have gm:GF (M1*M2) (9^3*2^20) mv:=λxs hx x hx'=>(X.gm xs hx x hx').dvd (yB _ _)
   have gp:GF (M1*M2) (9^3*2^20) pt:=λxs hx x hx'=>(X.gp xs hx x hx').dvd (eh _ _)
   exact #[M1,M2,_,80,160,33,240,32,182,X,p7 (n0:=2) (bC X.m1 X.m2) (mul_pow X.b1 X.b2) n2 k1 gm gp (),λr hr=>of_decide_eq_true (YW _ () r ()) hr,(),wide w9 16 m n2,()]
  ·obtain ⟨_,z | ⟨hd,_⟩⟩:=S
   ·exact absurd z T3
   have m:(T+1)*pt.9<=13*4:=mul () i4
   have gf:∀l:LR9,(∀xs∈l,xs∈mv++pt)->GF 2520 1000 l:=λl hl xs hx x hx'=>by
    have:=hd xs (hl xs hx) x hx';exact (Fr.own x (cA this.2)).dvd (Gj this.1)
   have X2:Bd mv pt 2520 2520 1000 12 12 13:=#[(),(),(),(),gf mv λxs hx=>av.mpr (.inl hx),gf pt λxs hx=>av.mpr (.inr hx),ag (ax _ (show mv.9+4<=6 by lia)) ()];have k1:(2+1)*1000<=2^12:=()
   have e8:mv.9*((mv.9 - 1)*(12+12)+4)<=2*28:=mul n2 ();have e9:mv.9*(13*mv.9+(12*(mv.9 - 1)+12)+4)<=2*54:=mul n2 ();exact #[2520,2520,1000,12,12,13,12,12,542,X2,p7 (n0:=2) () () n2 k1 X2.gm X2.gp (),λr hr=>of_decide_eq_true (YV _ () r ()) hr,(),wide w9 52 m n2,()]
section
variable {w T M1 M2 V a1 a2 c a0 c0 b:Nat}
theorem TV.nt (Y:TV mv pt w T M1 M2 V a1 a2 c a0 c0 b) (D:dJ mv pt lk) (RR:bo (kry mv pt mv.9) mv.9 R ps):∃q,0 < q/\q<=2^(ps.9*((mv.9 - 1)*(a0+c0)+4))/\∀xs∈aR R ps mv.9,∀x∈xs,Tp q (2^(ps.9*((mv.9 - 1)*(a0+c0)+4))) x:=by
 obtain q|q0|q1|q2:=Y.kf.rtp D.n8 D.mw D.pw RR;refine #[q,q0,q1,λxs hx=>?_];obtain z|_|_|rfl:=rj hx;exact Ux q0 q1 q2 RR
theorem TV.un (Y:TV mv pt w T M1 M2 V a1 a2 c a0 c0 b) (D:dJ mv pt lk) (RR:bo (kry mv pt mv.9) mv.9 R ps):∃q,0 < q/\q<=2^(mv.9*((mv.9 - 1)*(a0+c0)+4))/\(∀xs∈aR R ps mv.9,∀x∈xs,Fr q (2^(mv.9*((mv.9 - 1)*(a0+c0)+4))) x)/\∀xs∈ki mv R ps,∀x∈xs,Fr (M1*q) (2^(c+mv.9*((mv.9 - 1)*(a0+c0)+4))) x:=by
 obtain q|q0|q1|q2:=Y.nt D RR;have le:=RR.le;have up:2^(ps.9*((mv.9 - 1)*(a0+c0)+4))<=2^(mv.9*((mv.9 - 1)*(a0+c0)+4)):=aj () (ax _ le);have fr:∀xs∈aR R ps mv.9,∀x∈xs,Fr q (2^(mv.9*((mv.9 - 1)*(a0+c0)+4))) x:=λxs hx x hx'=>((q2 xs hx x hx').fr q0).mono up
 refine #[q,q0,ag q1 up,fr,λxs hx x hx'=>?_];obtain row|hr|rfl:=aB.mp hx;obtain pl|_|rfl:=aB.mp hx';obtain z|hz|rfl:=aB.mp hr;rw[aa,aA];cases e:(b8 mv mv.9)[pl]? with
 | none=>exact Fr.zero
 | some ys =>
  have my:=ar e;have f:=Fr.dot (Au Y.bd.gm ys my) (fr z hz);refine f.mono ?_;rw[ks ys my,aV,<- cV];exact ax _ (ag (ax V (show mv.9<=mv.9+4 by lia)) Y.bd.vc)
end
theorem Tf (KF:jl mv pt a c) (D:dJ mv pt lk) (RR:bo (kry mv pt mv.9) mv.9 R ps) (hz:z∈aR R ps mv.9):(pt.map λxs=>cb z xs)=pt.map λ_=>(0:Rat):=by
 refine dq λxs hx=>?_
 obtain k|hk|rfl:=bu hx;have wz:=oE z hz;rw[dD (by rw[wz,D.pw _ hx]),wz];refine Zw (aO λc _=>?_) (Qb KF D.n8 D.mw D.pw RR hz hk);unfold bE;rw[aa (l:=pt),ae hk,cD];rfl
inductive DF (K:FG9) (C:Addr) (vs:List V) (H:Hp) (Q:VK) (E9:XK):Prop
 | mk (x:Addr) (a c:Nat) (H0:Hp) (mv pt lk:LR9):vs=[.ref x]->kI K H0 H C x mv pt lk->dJ mv pt lk->jl mv pt a c->(∀t r q R ps Hm H',H' t=some (.tup [.ref r,.ref q])->aH H Hm->aH Hm H'->H r=none->be K H Hm r (aR R ps mv.9)->Hm q=none->be K Hm H' q (ki mv R ps)->bo (kry mv pt mv.9) mv.9 R ps->Q (.ref t) H')->DF K C vs H Q E9
inductive DE (K:FG9) (vs:List V) (H:Hp) (Q:VK) (E9:XK):Prop
 | mk (p q:Addr) (n:Nat) (H0 H1:Hp) (N U:LR9):vs=[.ref p,.ref q,.int n]->be K H0 H p N->be K H1 H q U->N.9<=100->n<=100->U.9=N.9->(∀xs∈N,xs.9=n/\∀x∈xs,jX x)->(∀xs∈U,xs.9=N.9/\∀x∈xs,jX x)->(∀H',aH H H'->Q (.bl true) H')->DE K vs H Q E9
theorem Qc (RR:bo (kry mv pt k) n R ps) (wk:∀xs∈kry mv pt k,xs.9=n) (lp:pr.9=n) (lg:go.9=n) (h:∀xs∈kry mv pt k,cb xs pr=0) (hg:cb pr go≠0):∃z∈aR R ps n,cb z go≠0:=by
 refine Fa λno=>hg ?_
 have zero:∀z∈aR R ps n,cb z go=0:=λz hz=>Fa λe=>no #[z,hz,e]
 have far:∀c,n<=c->(λc=>pr.getD c 0) c=0:=λc hc=>by
  show pr.getD c 0=0
  rw[aa,aE ()];rfl
 have kz:∀t,t < (kry mv pt k).9->(bw n λb=>bE (kry mv pt k) t b*pr.getD b 0)=0:=λt ht=>by
  have mt:=aQ ht;have d:=h _ mt;rw[dD (by rw[wk _ mt,lp]),wk _ mt] at d;refine Zw (aO λb _=>?_) d;unfold bE;rw[aa (l:=kry mv pt k),ae ht];rfl
 have sp:=D9 RR far λj hj=>by
  obtain w|hw:=RR.2.2.back j hj;show (bw n λb=>bE R j b*pr.getD b 0)=0
  have e:(bw n λb=>bE R j b*pr.getD b 0)=bw n λb=>bw (kry mv pt k).9 λt=>w t*(bE (kry mv pt k) t b*pr.getD b 0):=aO λb _=>by
   rw[hw b,cD,<- cB];exact aO λt _=>by grind
  rw[e,eI];exact cK λt ht=>by rw[cB,kz t ht,cS]
 obtain w|hw:=sp;rw[dD (by rw[lp,lg]),lp]
 have e:(bw n λb=>pr.getD b 0*go.getD b 0)=bw n λb=>bw (aR R ps n).9 λt=>w t*(bE (aR R ps n) t b*go.getD b 0):=aO λb _=>by
  have:=hw b;simp only at this;rw[this,cD,<- cB];exact aO λt _=>by grind
 rw[e,eI];refine cK λt ht=>?_
 rw[cB];have mt:=aQ ht;have d:=zero _ mt;rw[dD (by rw[oE _ mt,lg]),oE _ mt] at d
 have:(bw n λb=>bE (aR R ps n) t b*go.getD b 0)=0:=by
  refine Zw (aO λb _=>?_) d;unfold bE;rw[aa (l:=aR R ps n),ae ht];rfl
 rw[this,cS]
def bO {α:Type} (xs:List α) (i:Nat):List α:=(xs[i]?.toList++xs.take i)++xs.drop (i+1)
theorem fv {xs:List α} (h:i < xs.9):(bO xs i).9=xs.9:=by
 unfold bO;rw[ai,ai,bP,rJ,ae h];simp
 lia
theorem jJ {xs:List α} {x:α} (h:x∈bO xs i):x∈xs:=by
 unfold bO at h;rcases av.mp h with h | h
 ·rcases av.mp h with h | h
  ·exact ar (Option.mem_toList.mp h)
  ·exact cw h
 ·exact EL h
structure Z48 (N T a1 a2 c e g:Nat):Prop where
 de:(a1*(N - 1)+a2)+e<=4300000
 sw:(N+1)*((c*N+(a1*(N - 1)+a2)+e+g+2)+4)<=8900000
 sv:c*N+(a1*(N - 1)+a2)+e+g+2<=4300000
 en:a1*(T+1)+(a2+(e+N*(4+(c*N+(a1*(N - 1)+a2)))))+c*(T+1)+((a1*(N - 1)+a2)+3+(g+e+N*(4+(c*N+(a1*(N - 1)+a2)))))<=3900000
 ac:a2+c<=3900000
 ad:a1*(T+1)+a2+c*(T+2)<=3900000
 f1:2*(N*(4+(c*N+(a1*(N - 1)+a2)))+(5+(g+e)))+((a1*T+a2)+c*T)<=3930000
 f2:2*(N*(4+(c*N+(a1*(N - 1)+a2)))+(5+(g+e)))+(e+g)<=3930000
section
variable {mv pt lk:LR9} {go:List Rat} {M1 M2 Vx a1 a2 c N T e g E u w:Nat}
theorem Bd.rest (B:Bd mv pt M1 M2 Vx a1 a2 c) (D:dJ mv pt lk) (hn:mv.9<=N) (lg:go.9=mv.9) (E0:0 < E) (E1:E<=2^e) (fg:∀x∈go,Fr E (2^g) x) (Z:Z48 N T a1 a2 c e g) (hu:u<=T):RI mv pt (ce mv.9 0) go u (OV mv pt (ce mv.9 0) go u) (Mg mv pt (ce mv.9 0) go u):=by
 obtain z1|z2|z3|z4|z5|z6|z7|z8:=Z;have n8:mv.9<=2^3:=D.n8;have up:∀{p r:Nat},p<=r->2^p<=2^r:=λz=>aj () z
 have D0:0 < M1^(N - 1)*M2:=bC (eH B.m1) B.m2;have D1:M1^(N - 1)*M2<=2^(a1*(N - 1)+a2):=nO B.b1 B.b2
 have kf:∀t m,t<=m->∀xs∈L2.kry mv pt t,∀x∈xs,Fr (M1^(m - 1)*M2) (2^(c*m)) x:=λt m ht xs hx x hx' =>
  Fr.up (B.kry D t xs hx x hx') (Nat.mul_dvd_mul_right (Nat.pow_dvd_pow _ ()) _) (up (aD _ ht))
 have W0:2^(c*N)*(M1^(N - 1)*M2)<=2^(c*N+(a1*(N - 1)+a2)):=by rw[aV];exact aD _ D1
 have W1:2^g*E<=2^(g+e):=by rw[aV];exact aD _ E1
 have W1p:1<=2^g*E:=bC (eH ()) E0;have tg:∀x∈go,Tp E (2^g*E) x:=λx hx=>Tp.of (fg x hx) (ah _)
 have sg:∀x∈go,jX x:=λx hx=>vE E0 E1 (ah _) () (fg x hx)
 have t1:a1*(u+1)<=a1*(T+1):=aD _ ();have t2:c*(u+1)<=c*(T+1):=aD _ ();have t3:c*(u+2)<=c*(T+2):=aD _ ()
 have qx:(16*(2^(c*N)*(M1^(N - 1)*M2)))^mv.9<=2^(N*(4+(c*N+(a1*(N - 1)+a2)))):=by
  have e1:16*(2^(c*N)*(M1^(N - 1)*M2))<=2^(4+(c*N+(a1*(N - 1)+a2))):=by rw[aV 2 4];exact aD _ W0
  refine ag (jK e1 _) ?_;rw[<- uj,b7 N];exact up (aD _ hn)
 have ct:CtF mv pt u (ce mv.9 0) go (M1^(N - 1)*M2) (2^(c*N)*(M1^(N - 1)*M2)) E (2^g*E):=by
  refine #[cf0 D,sg,?_,λpus q q0 q1 lp hp=>?_]
  ·rw[Qq D.mw lg];generalize a1*(N - 1)+a2=dd at *
   refine #[D0,E0,bC (eH ()) D0,W1p,λt ht ys hy x hx'=>Tp.of (kf t N () ys hy x hx') (ah _),tg,?_,#[c*N+dd+e+g+2,?_,z3,ag (ax _ ()) z2]]
   ·refine ag (aK D1 E1) ?_;rw[<- aV];exact up z1
   ·have S:∀{x y k j:Nat},x<=2^k->y<=2^j->k+j<=c*N+dd+e+g->x*y<=2^(c*N+dd+e+g):=λhx hy hk=>by
     refine ag (aK hx hy) ?_;rw[<- aV];exact up hk
    have s1:=S W0 E1 ();have s2:=S W1 D1 ();have s3:=S D1 E1 ();rw[aV 2 (c*N+dd+e+g) 2];generalize 2^(c*N+dd+e+g)=P at s1 s2 s3 ⊢
    lia
  ·have Np0:0 < E*q:=bC E0 q0;have hq':=ag q1 qx
   have hP:M1^(N - 1)*M2*(mv.9*(2^g*E*(16*(2^(c*N)*(M1^(N - 1)*M2)))^mv.9))<=2^((a1*(N - 1)+a2)+3+(g+e+N*(4+(c*N+(a1*(N - 1)+a2))))):=by
    refine ag (aK D1 (aK n8 (aK W1 qx))) ?_;rw[<- aV,<- aV,<- aV,<- Nat.add_assoc];exact ah _
   refine #[M1,M2,Vx,a1,a2,c,M2*(E*q),E*q,_,a2+(e+N*(4+(c*N+(a1*(N - 1)+a2)))),B,bC B.m2 Np0,?_,wo _,λx hx'=>by rw[ox hx'];exact Fr.zero,λxs' hx' x hx''=>((hp xs' hx' x hx'').fr Np0).mono hP,by rw[lp];lia,z5];rw[aV,aV];exact aK B.b2 (aK E1 hq')
 refine #[_,_,_,_,ct,λpus q l w s cp q0 q1 tp=>#[l,w,s,cp,ct.en pus q q0 q1 l tp],λpr q l k d cn q0 q1 tp=>#[l,k,d,cn,?_]]
 have y1:(16*(2^(c*N)*(M1^(N - 1)*M2)))^mv.9*(16*(2^g*E+E))<=2^(N*(4+(c*N+(a1*(N - 1)+a2)))+(5+(g+e))):=by
  rw[aV];refine aK qx ?_;have:E<=2^g*E:=bK _ (eH ());rw[aV 2 5];generalize 2^g*E=v at this W1 ⊢
  lia
 have fp:oj (N*(4+(c*N+(a1*(N - 1)+a2)))+(5+(g+e))) (N*(4+(c*N+(a1*(N - 1)+a2)))+(5+(g+e))) pr:=#[q,_,q0,ag q1 y1,y1,λx hx=>(tp x hx).fr q0];have t4:a1*(u - 1)<=a1*T:=aD _ ();have t5:c*u<=c*T:=aD _ hu;refine #[#[M1,M2,Vx,a1,a2,c,B,()],#[M1,Vx,a1,c,1,0,0,B.m1,B.b1,B.gm,B.vc,(),(),λx hx=>by rw[ox hx];exact Fr.zero,()],sg,λx hx=>mh (tp x hx) q0 (ag q1 (ag y1 (up ()))) (ag y1 (up ())),λxs hx=>#[_,_,a1*(u - 1)+a2,c*u,fp,#[M1^(u - 1)*M2,_,bC (eH B.m1) B.m2,nO B.b1 B.b2,ah _,kf u u (ah _) xs hx],()],?_];rw[Qq D.mw lg];exact #[_,_,e,g,fp,#[E,_,E0,E1,ah _,fg],()]
def Y9 (n T a1 a2 c b1:Nat) (W:Prop):Prop:=(a1=0/\a2=0/\c=14/\b1=12)\/(a1=12/\a2=12/\c=16/\b1=12/\n<=5)\/(a1=80/\a2=160/\c=33/\b1=165/\n<=2/\T<=3/\W)\/(a1=12/\a2=12/\c=13/\b1=525/\n<=2)
theorem Vf (R:Rg mv pt w) (D:dJ mv pt lk) (S:RH mv pt T):∃M1 M2 V a1 a2 c b1 b2,Us mv pt w T M1 M2 V a1 a2 c b1 b2/\Y9 mv.9 T a1 a2 c b1 (∀T,RH mv pt T->T<=3):=by
 have i4:=D.i4;have n8:=D.n8;have T12:=S.1;have small:w<=9->∀l:List Rat,(∀x∈l,Dr (max w 6) x)->∃B,0 < B/\6∣B/\(∀x∈l,Fr B (2^22) x)/\(l.9<=2*mv.9+T*pt.9->B<=2^12)/\(l.9<=2*mv.9+2*(T*pt.9)->B<=2^12):=λw9 l h=>#[2520,(),(),λx hx=>(LL #[ag (h x hx).1 (),ag (h x hx).2 ()] (wo _)).mono (),λ_=>(),λ_=>()]
 have wide:w=1000->∀t,T*pt.9<=t->mv.9<=2->∀l:List Rat,(∀x∈l,Dr (max w 6) x)->∃B,0 < B/\6∣B/\(∀x∈l,Fr B (2^22) x)/\(l.9<=2*mv.9+T*pt.9->B<=2^(45+10*t))/\(l.9<=2*mv.9+2*(T*pt.9)->B<=2^(45+20*t)):=λw9 t ht n2 l h=>by
  obtain B|h0|h1|h2:=Eo (c:=10) (l:=l) (λx hx=>#[ag (h x hx).1 (by rw[w9];decide),ag (h x hx).2 (by rw[w9];decide)]) ()
  have up:∀k,3+(10*l.9+2)<=k->6*B<=2^k:=λk hk=>by
   refine ag ?_ (aj () hk);rw[aV 2 3];exact aK () h1
  exact #[6*B,(),yB _ _,λx hx=>(h2 x hx).scaleL 6,λhl=>up _ (),λhl=>up _ ()]
 rcases R with ⟨w9,X⟩ | ⟨w9,n5,X⟩ | ⟨w9,n2,M1,M2,X⟩
 ·exact #[_,_,_,_,_,_,12,12,#[X,mR (n':=8) (T':=12) (b':=12) n8 T12 (ah _) (),Ar (n':=8) (T':=12) (b':=12) n8 T12 (ah _) (),mR (n':=8) (T':=12) (b':=12) n8 T12 (ah _) (),small w9],.inl #[rfl,rfl,rfl,rfl]]
 ·exact #[_,_,_,_,_,_,12,12,#[X,mR (n':=5) (T':=12) (b':=12) n5 T12 (ah _) (),Ar (n':=5) (T':=12) (b':=12) n5 T12 (ah _) (),mR (n':=5) (T':=12) (b':=12) n5 T12 (ah _) (),small w9],.inr (.inl #[rfl,rfl,rfl,rfl,n5])]
 ·by_cases hd:∀xs∈mv++pt,∀x∈xs,x.den<=9/\x.num.natAbs < 1000
  ·have m:T*pt.9<=12*4:=aK T12 i4
   have gf:∀l:LR9,(∀xs∈l,xs∈mv++pt)->GF 2520 1000 l:=λl hl xs hx x hx'=>by
    have:=hd xs (hl xs hx) x hx';exact (Fr.own x (cA this.2)).dvd (Gj this.1)
   have X2:Bd mv pt 2520 2520 1000 12 12 13:=#[(),(),(),(),gf mv λxs hx=>av.mpr (.inl hx),gf pt λxs hx=>av.mpr (.inr hx),ag (ax _ (show mv.9+4<=6 by lia)) ()];exact #[_,_,_,_,_,_,525,1005,#[X2,mR (n':=2) (T':=12) (b':=525) n2 T12 (ah _) (),Ar (n':=2) (T':=12) (b':=525) n2 T12 (ah _) (),mR (n':=2) (T':=12) (b':=1005) n2 T12 (ah _) (),wide w9 48 m n2],.inr (.inr (.inr #[rfl,rfl,rfl,rfl,n2]))]
  ·have all3:∀T,RH mv pt T->T<=3:=λT S=>S.2.elim id λz=>absurd z.1 hd
   have T3:=all3 T S;have m:T*pt.9<=3*4:=aK T3 i4;exact #[_,_,_,_,_,_,165,285,#[X,mR (n':=2) (T':=3) (b':=165) n2 T3 (ah _) (),Ar (n':=2) (T':=3) (b':=165) n2 T3 (ah _) (),mR (n':=2) (T':=3) (b':=285) n2 T3 (ah _) (),wide w9 12 m n2],.inr (.inr (.inl #[rfl,rfl,rfl,rfl,n2,T3,all3]))]
theorem PK (R:Rg mv pt w) (D:dJ mv pt lk) (S:RH mv pt T):∃M1 M2 V a1 a2 c b1 b2,Us mv pt w T M1 M2 V a1 a2 c b1 b2/\∀go,go.9=mv.9->GoB mv pt M1 M2 c b1 T (ce mv.9 0) go->(∃E e g,0 < E/\E<=2^e/\(∀x∈go,Fr E (2^g) x)/\e+g<=1900)/\∀u T',u<=12->RH mv pt T'->u<=mv.9+1+T'->RI mv pt (ce mv.9 0) go u (OV mv pt (ce mv.9 0) go u) (Mg mv pt (ce mv.9 0) go u):=by
 obtain M1|M2|V|a1|a2|c|b1|b2|U|P:=Vf R D S;refine #[M1,M2,V,a1,a2,c,b1,b2,U,λgo lg #[B,h0,h1,_,fg]=>?_];have n8:=D.n8;have T12:=S.1;have E0:0 < M1^T*(M2*B):=bC (eH U.bd.m1) (bC U.bd.m2 h0);have E1:M1^T*(M2*B)<=2^(a1*T+(a2+b1)):=nO U.bd.b1 (by rw[aV];exact aK U.bd.b2 h1);have B0:=U.bd
 have go1:∀{N T2 e g:Nat},mv.9<=N->a1*T+(a2+b1)<=e->c*T+23<=g->Z48 N T2 a1 a2 c e g->e+g<=1900->(∀u T',u<=12->RH mv pt T'->u<=mv.9+1+T'->u<=T2)->(∃E e g,0 < E/\E<=2^e/\(∀x∈go,Fr E (2^g) x)/\e+g<=1900)/\∀u T',u<=12->RH mv pt T'->u<=mv.9+1+T'->RI mv pt (ce mv.9 0) go u (OV mv pt (ce mv.9 0) go u) (Mg mv pt (ce mv.9 0) go u):=λhn he hg Z se hu=>by
  have E2:=ag E1 (aj () he);have f2:∀x∈go,Fr (M1^T*(M2*B)) (2^_) x:=λx hx=>(fg x hx).mono (aj () hg)
  exact #[#[_,_,_,E0,E2,f2,se],λu T' u1 u2 u3=>B0.rest D hn lg E0 E2 f2 Z (hu u T' u1 u2 u3)]
 rcases P with ⟨rfl,rfl,rfl,rfl⟩ | ⟨rfl,rfl,rfl,rfl,n5⟩ | ⟨rfl,rfl,rfl,rfl,n2,T3,all3⟩ | ⟨rfl,rfl,rfl,rfl,n2⟩
 ·exact go1 (N:=8) (T2:=12) (e:=12) (g:=191) n8 () () #[(),(),(),(),(),(),(),()] () λ_ _ h _ _=>h
 ·exact go1 (N:=5) (T2:=12) (e:=168) (g:=215) n5 () () #[(),(),(),(),(),(),(),()] () λ_ _ h _ _=>h
 ·exact go1 (N:=2) (T2:=6) (e:=565) (g:=122) n2 () () #[(),(),(),(),(),(),(),()] () λu T' _ h h'=>by have:=all3 T' h;lia
 ·exact go1 (N:=2) (T2:=12) (e:=681) (g:=179) n2 () () #[(),(),(),(),(),(),(),()] () λ_ _ h _ _=>h
end
theorem kW {F:α->V->Prop} {as:List α} (h:jp F as xs) (hi:i < xs.9):jp F (bO as i) (bO xs i):=by
 have l:=h.9;obtain a|ea|fa:=cv h (ae hi);unfold bO;rw[ea,ae hi];exact bR (bR (.cons fa .nil) (pT h i)) (qQ h (i+1))
inductive IP (K:FG9) (vs:List V) (H:Hp) (Q:VK) (E9:XK):Prop
 | mk (p:Addr) (i:Nat) (xs:List V):vs=[.ref p,.int i]->H p=some (.lst xs)->i < xs.9->xs.9<=500->(∀l H',H l=none->aH H H'->H' l=some (.lst (bO xs i))->Q (.ref l) H')->IP K vs H Q E9
theorem L4 {xs:List α} (h:i < xs.9):(bO xs i)[0]?=some xs[i]:=by
 unfold bO;rw[ae h];rfl
def TX (mv pt:LR9) (go:List Rat) (k:Nat) (pus:LR9):Prop:=k<=mv.9/\OV mv pt (ce mv.9 0) go k pus/\∀j,j < k->∃pr,Mg mv pt (ce mv.9 0) go j pr
def Ww (mv pt:LR9) (go:List Rat) (R:LR9) (ps:List Nat) (i:Nat):Prop:=bo (kry mv pt mv.9) mv.9 R ps/\i < (aR R ps mv.9).9/\((aR R ps mv.9).map λz=>cb z go).getD i 0≠0/\∃pr,Mg mv pt (ce mv.9 0) go mv.9 pr
theorem QM {ds:List Rat} (h:∃d∈ds,d≠0):∃j,j < ds.9/\ds.getD j 0≠0/\∀c,c < j->ds.getD c 0=0:=by
 induction ds with
 | nil=>obtain _|h|_:=h;exact nomatch h
 | cons x xs ih =>
  by_cases e:x=0
  ·obtain d|hd|ne:=h;rcases aJ.mp hd with rfl | hd
   ·exact absurd e ne
   ·obtain j|j1|j2|j3:=ih #[d,hd,ne];refine #[j+1,by rw[a9];lia,by rw[List.getD_cons_succ];exact j2,λc hc=>?_];cases c with
    | zero=>exact e
    | succ c=>rw[List.getD_cons_succ];exact j3 c ()
  ·exact #[0,by rw[a9];lia,e,λc hc=>absurd hc (dw _)]
def DZ (mv pt:LR9) (go:List Rat) (rows wts:LR9):Bool :=
 if rows=[]\/wts.map FS≠rows.map (λ_=>rows.9) then false
 else if ¬(∀z∈rows,∀b∈pt,cb b z=0) then false
 else if dU rows mv mv.9≠dU wts rows mv.9 then false
 else decide (cb (rows.getD 0 []) go≠0)
def OP (rows wts:LR9):Prop:=∃M D W B:Nat,0 < M/\0 < D/\(∀xs∈rows,∀x∈xs,Tp M W x)/\(∀ws∈wts,∀x∈ws,Tp D B x)/\1<=W/\1<=B/\M*D<=2^3990000/\128*(W*B)<=2^3990000
inductive DN (K:FG9) (vs:List V) (H:Hp) (Q:VK) (E9:XK):Prop
 | mk (r a:Addr) (H0:Hp) (mv pt lk:LR9) (z:List Rat):vs=[.ref r,.ref a]->fK K H0 H r mv pt lk->dJ mv pt lk->cC K H a z->z.9=mv.9->(∀ys∈b8 mv mv.9,jW ys z)->(∀q H',H q=none->aH H H'->cC K H' q ((b8 mv mv.9).map λys=>cb ys z)->Q (.ref q) H')->DN K vs H Q E9
inductive A0 (K:FG9) (vs:List V) (H:Hp) (Q:VK) (E9:XK):Prop
 | mk (r g p q:Addr) (H0 H1 H2:Hp) (mv pt lk rows wts:LR9) (go:List Rat):vs=[.ref r,.ref g,.ref p,.ref q]->fK K H0 H r mv pt lk->dJ mv pt lk->cC K H g go->go.9=mv.9->be K H1 H p rows->be K H2 H q wts->rows.9<=100->wts.9<=100->(∀xs∈rows,xs.9=mv.9)->(∀z∈rows,∀b∈pt,jW b z)->(∀z∈rows,∀ys∈b8 mv mv.9,jW ys z)->OP rows wts->(∀z∈rows,jW z go)->(∀H',aH H H'->Q (.bl (DZ mv pt go rows wts)) H')->A0 K vs H Q E9
theorem AR (h:ws.9=rows.9):Ct rows ws n=(b8 rows n).map λys=>cb ys ws:=by
 refine dM λc=>?_
 by_cases hc:c < n
 ·rw[aA,Av hc];have l1:(Ct rows ws n).9=n:=by unfold Ct;exact rL
  have e:=As (rows:=rows) (ws:=ws) (n:=n) hc;rw[aa,ae ()] at e;rw[ae ()];show some _=some (cb (rows.map λxs=>xs.getD c 0) ws)
  congr 1;refine Zw e ?_;rw[dD (by rw[af,h]),af,h];refine aO λi hi=>?_
  rw[cD];congr 1;unfold bE;rw[aa (l:=rows.map _),aA,aa (l:=rows),ae hi];rfl
 ·rw[aE (by unfold Ct;rw[rL];lia),aE (by rw[af,di];lia)]
theorem mo:DZ mv pt go rows wts=true↔rows≠[]/\wts.9=rows.9/\(∀(j:Nat) z ws,rows[j]?=some z->wts[j]?=some ws->ws.9=rows.9/\(∀b∈pt,cb b z=0)/\((b8 mv mv.9).map λys=>cb ys z)=Ct rows ws mv.9)/\cb (rows.getD 0 []) go≠0:=by
 unfold DZ;by_cases c1:rows=[]\/wts.map FS≠rows.map (λ_=>rows.9)
 ·rw[if_pos c1];refine #[λz=>(nomatch z),λ#[h0,h1,h2,_]=>?_];refine (c1.elim h0 λz=>z ?_).elim;refine dM λj=>?_
  rw[aA,aA];by_cases hj:j < rows.9
  ·rw[ae hj,ae (show j < wts.9 by lia)];exact congrArg some (h2 j _ _ (ae hj) (ae ())).1
  ·rw[aE (l:=rows) (),aE (l:=wts) ()];rfl
 rw[if_neg c1];have c0:rows≠[]:=λz=>c1 (.inl z)
 have e1:wts.map FS=rows.map (λ_=>rows.9):=Fa λz=>c1 (.inr z)
 have l1:wts.9=rows.9:=by have:=congrArg FS e1;simpa using this
 have l2:∀(j:Nat) ws,wts[j]?=some ws->ws.9=rows.9:=λj ws h=>by
  have:=congrArg (λl=>l[j]?) e1;simp only[aA,h,Option.map_some] at this;cases e:rows[j]? with
  | none=>rw[e] at this;cases this
  | some z=>rw[e] at this;exact bY this
 by_cases c2:∀z∈rows,∀b∈pt,cb b z=0
 case neg =>
  rw[if_pos c2];refine #[λz=>(nomatch z),λ#[_,_,h2,_]=>(c2 λz hz b hb=>?_).elim];obtain j|hj|e:=List.mem_iff_getElem.mp hz;exact (h2 j z _ (by rw[ae hj,e]) (ae ())).2.1 b hb
 rw[if_neg (λz=>z c2)]
 have tm:∀(j:Nat) z ws,rows[j]?=some z->wts[j]?=some ws->(dU rows mv mv.9)[j]?=some ((b8 mv mv.9).map λys=>cb ys z)/\(dU wts rows mv.9)[j]?=some (Ct rows ws mv.9):=λj z ws h h'=>by
  unfold dU;rw[aA,aA,h,h',AR (l2 j ws h')];exact #[rfl,rfl]
 by_cases c3:dU rows mv mv.9=dU wts rows mv.9
 case neg =>
  rw[if_pos c3];refine #[λz=>(nomatch z),λ#[_,_,h2,_]=>(c3 (dM λj=>?_)).elim];by_cases hj:j < rows.9
  ·have h1:=ae hj;have h3:=ae (show j < wts.9 by lia);obtain a|b:=tm j _ _ h1 h3;rw[a,b,(h2 j _ _ h1 h3).2.2]
  ·rw[aE (by unfold dU;rw[af];lia),aE (by unfold dU;rw[af];lia)]
 rw[if_neg (λz=>z c3),decide_eq_true_iff];refine #[λh=>#[c0,l1,λj z ws h1 h2=>#[l2 j ws h2,c2 z (ar h1),?_],h],λh=>h.2.2.2];obtain a|b:=tm j z ws h1 h2;rw[c3,b] at a;exact (bY a).symm
structure xD (n a b c d:Nat) (rows wts:LR9):Prop where
 rl:rows.9<=10
 wl:wts.9<=10
 rn:∀z∈rows,z.9=n
 wn:∀ws∈wts,ws.9<=10
 fr:∃M,0 < M/\M<=2^a/\∀z∈rows,∀x∈z,Fr M (2^b) x
 fw:∃M,0 < M/\M<=2^c/\∀z∈wts,∀x∈z,Fr M (2^d) x
theorem xD.mono (P:xD n a b c d rows wts) (ha:a<=a') (hb:b<=b') (hc:c<=c') (hd:d<=d'):xD n a' b' c' d' rows wts:=by
 have up:∀{p r:Nat},p<=r->2^p<=2^r:=λz=>aj () z
 obtain h1|h2|h3|h4|⟨M,M0,M1,f⟩|⟨N,N0,N1,g⟩:=P;exact #[h1,h2,h3,h4,#[M,M0,ag M1 (up ha),λz hz x hx=>(f z hz x hx).mono (up hb)],#[N,N0,ag N1 (up hc),λz hz x hx=>(g z hz x hx).mono (up hd)]]
theorem xD.s (P:xD n a b c d rows wts) (h:a+b+c+d+7<=3990000):OP rows wts:=by
 obtain _|_|_|_|⟨M,M0,M1,f⟩|⟨N,N0,N1,g⟩:=P;have up:∀{p r:Nat},p<=r->2^p<=2^r:=λz=>aj () z
 have p2:∀k,0 < 2^k:=λk=>eH ()
 refine #[M,N,2^b*M,2^d*N,M0,N0,λz hz x hx=>Tp.of (f z hz x hx) (ah _),λz hz x hx=>Tp.of (g z hz x hx) (ah _),bC (p2 b) M0,bC (p2 d) N0,?_,?_]
 ·refine ag (aK M1 N1) ?_;rw[<- aV];exact up ()
 ·have h1:2^b*M<=2^(b+a):=by rw[aV];exact aD _ M1
  have h2:2^d*N<=2^(d+c):=by rw[aV];exact aD _ N1
  refine ag (aD 128 (aK h1 h2)) ?_;rw[<- aV,show 128=2^7 from rfl,<- aV];exact up ()
theorem xD.fit (P:xD n a b c d rows wts):∀z∈rows,oj a b z:=λz hz=>by
 obtain M|M0|M1|f:=P.fr;exact #[M,_,M0,M1,ah _,f z hz]
theorem xD.f3 (P:xD n a b c d rows wts) (h:a+b+c+d<=3930000):∀ws∈wts,∀ys∈b8 rows n,jW ys ws:=λws hw ys hy=>by
 obtain _|_|_|_|⟨M,M0,M1,f⟩|⟨N,N0,N1,g⟩:=P;exact #[a,b,c,d,#[M,_,M0,M1,ah _,Au f ys hy],#[N,_,N0,N1,ah _,g ws hw],()]
theorem xD.ahead (P:xD n a b c d N U) (lU:U.9=N.9) (wU:∀xs∈U,xs.9=N.9) (hi:i < N.9):xD n a b c d (bO N i) ((bO U i).map λxs=>bO xs i)/\(bO N i).9=N.9/\((bO U i).map λxs=>bO xs i).9=N.9/\∀ws∈(bO U i).map λxs=>bO xs i,ws.9=N.9:=by
 obtain h1|h2|h3|h4|⟨M,M0,M1,f⟩|⟨O,O0,O1,g⟩:=P;have l1:=fv hi;have l2:=fv (xs:=U) (i:=i) ()
 have w:∀ws∈(bO U i).map λxs=>bO xs i,ws.9=N.9:=λws hw=>by
  obtain xs|hx|rfl:=aB.mp hw;have:=wU xs (jJ hx);rw[fv (),this]
 refine #[#[(),by rw[af];lia,λz hz=>h3 z (jJ hz),λws hw=>by rw[w ws hw];exact h1,#[M,M0,M1,λz hz=>f z (jJ hz)],#[O,O0,O1,λz hz x hx=>?_]],l1,by rw[af,l2,lU],w];obtain xs|hm|rfl:=aB.mp hz;exact g xs (jJ hm) x (jJ hx)
theorem OB (hl:ys.9=xs.9) (hi:i < xs.9):cb (bO xs i) (bO ys i)=cb xs ys:=by
 have e:∀{l:List Rat},i < l.9->l=l.take i++(l[i]?.toList++l.drop (i+1)):=λ{l} h=>by
  rw[ae h];show l=l.take i++(l[i] :: l.drop (i+1))
  rw[List.getElem_cons_drop,List.take_append_drop]
 have lt:(xs.take i).9=(ys.take i).9:=by rw[bP,bP,hl]
 have l1:(xs[i]?.toList).9=(ys[i]?.toList).9:=by rw[ae hi,ae (show i < ys.9 by lia)];rfl
 have r:cb xs ys=cb (xs.take i++(xs[i]?.toList++xs.drop (i+1))) (ys.take i++(ys[i]?.toList++ys.drop (i+1))):=by rw[<- e hi,<- e (show i < ys.9 by lia)]
 unfold bO;rw[r,lH lt,lH l1,lH (by rw[ai,ai,l1,lt]),lH l1];grind
theorem OA {f:α->β} {xs:List α}:(bO xs i).map f=bO (xs.map f) i:=by
 unfold bO;rw[cG,cG,List.map_take,List.map_drop,aA];cases xs[i]? <;> rfl
theorem Rh {rows:LR9} (hl:ws.9=rows.9) (hi:i < rows.9):Ct (bO rows i) (bO ws i) n=Ct rows ws n:=by
 rw[AR hl,AR (by rw[fv hi,fv (),hl])];unfold b8;rw[ik,ik];refine dq λc _=>?_
 show cb ((bO rows i).map _) (bO ws i)=cb (rows.map _) ws
 rw[OA,OB (by rw[af,hl]) (by rw[af];exact hi)]
theorem Kb {xs:List α} (hi:i < xs.9):(bO xs i)[j]?=xs[if j=0 then i else if j<=i then j - 1 else j]?:=by
 unfold bO;rw[ae hi];show (xs[i] :: (xs.take i++xs.drop (i+1)))[j]?=_
 cases j with
 | zero=>rw[if_pos rfl,ae hi];rfl
 | succ j =>
  rw[if_neg (),Yx,List.getElem?_append,bP];by_cases h:j < i
  ·rw[if_pos (),if_pos (),List.getElem?_take,if_pos h];rfl
  ·rw[if_neg (),if_neg (),List.getElem?_drop];congr 1
   lia
section
variable {a c i:Nat}
theorem RT (KF:jl mv pt a c) (D:dJ mv pt lk) (RR:bo (kry mv pt mv.9) mv.9 R ps) (hz:(aR R ps mv.9)[i]?=some z) (hw:(ki mv R ps)[i]?=some ws):((b8 mv mv.9).map λys=>cb ys z)=Ct (aR R ps mv.9) ws mv.9:=by
 have h1:i < (aR R ps mv.9).9:=(aF.mp hz).1;have lN:(aR R ps mv.9).9=(lG ps mv.9).9:=af ..;have lt:i < (dU (aR R ps mv.9) mv mv.9).9:=by unfold dU;rw[af];exact h1
 have et:(dU (aR R ps mv.9) mv mv.9)[i]?=some ((b8 mv mv.9).map λys=>cb ys z):=by unfold dU;rw[aA,hz];rfl
 have ft:∀b,bE (dU (aR R ps mv.9) mv mv.9) i b=((b8 mv mv.9).map λys=>cb ys z).getD b 0:=λb=>by
  unfold bE;rw[aa (l:=dU _ _ _),et];rfl
 have eu:ws=(lG ps mv.9).map λpl=>bE (dU (aR R ps mv.9) mv mv.9) i pl:=by
  unfold ki at hw;rw[aA,et] at hw;rw[<- bY hw];exact dq λpl _=>(ft pl).symm
 have l1:(Ct (aR R ps mv.9) ws mv.9).9=mv.9:=by unfold Ct;exact rL
 have l2:((b8 mv mv.9).map λys=>cb ys z).9=mv.9:=by rw[af,di]
 refine Ca (by rw[l1,l2]) λb hb=>?_
 rw[l2] at hb;rw[<- ft b,S9 KF D.n8 D.mw D.pw RR h1 hb,As hb,show ws.9=(aR R ps mv.9).9 by rw[eu,af,lN]];refine aO λt ht=>?_
 congr 1;rw[eu,aa,aa,aA,ae ()];rfl
theorem Nz (KF:jl mv pt a c) (D:dJ mv pt lk) (RR:bo (kry mv pt mv.9) mv.9 R ps) (hi:i < (aR R ps mv.9).9) (ni:((aR R ps mv.9).map λz=>cb z go).getD i 0≠0):DZ mv pt go (bO (aR R ps mv.9) i) ((bO (ki mv R ps) i).map λxs=>bO xs i)=true:=by
 have lU:(ki mv R ps).9=(aR R ps mv.9).9:=vS;have wU:∀xs∈ki mv R ps,xs.9=(aR R ps mv.9).9:=Il;refine mo.mpr #[λe=>?_,by rw[af,fv (),fv hi,lU],λj z ws hz hw=>?_,?_]
 ·have:=fv hi;rw[e] at this;rw[<- this] at hi;exact absurd hi (dw _)
 ·rw[Kb hi] at hz;rw[aA,Kb ()] at hw;obtain w|ew|rfl:=Option.map_eq_some_iff.mp hw;have lw:=wU w (ar ew);refine #[by rw[fv (),fv hi,lw],λb hb=>?_,?_]
  ·have:=Tf KF D RR (ar hz);rw[zB];exact List.map_inj_left.mp this b hb
  ·rw[Rh lw hi];exact RT KF D RR hz ew
 ·rw[aa,aA,ae hi] at ni;rw[aa,L4 hi];exact ni
end
section
variable {w T M1 M2 V a1 a2 c a0 c0 b:Nat}
theorem TV.pap (Y:TV mv pt w T M1 M2 V a1 a2 c a0 c0 b) (D:dJ mv pt lk) (RR:bo (L2.kry mv pt mv.9) mv.9 R ps):xD mv.9 (mv.9*((mv.9 - 1)*(a0+c0)+4)) (mv.9*((mv.9 - 1)*(a0+c0)+4)) (a1+mv.9*((mv.9 - 1)*(a0+c0)+4)) (c+mv.9*((mv.9 - 1)*(a0+c0)+4)) (aR R ps mv.9) (ki mv R ps):=by
 obtain q|q0|q1|fN|fU:=Y.un D RR;have n8:=D.n8;have nc:=vV RR;have lU:(ki mv R ps).9=(aR R ps mv.9).9:=vS;exact #[(),(),oE,λws h=>by rw[Il ws h];lia,#[q,q0,q1,fN],#[M1*q,bC Y.bd.m1 q0,by rw[aV];exact aK Y.bd.b1 q1,fU]]
theorem TV.pf (Y:TV mv pt w T M1 M2 V a1 a2 c a0 c0 b) (D:dJ mv pt lk) (hE:mv.9*((mv.9 - 1)*(a0+c0)+4)=E) (P:xD mv.9 (E+14) (E+14) (a1+E+24) (c+E+18) rows wts):(∀z∈rows,∀b∈pt,jW b z)/\(∀z∈rows,∀ys∈b8 mv mv.9,jW ys z)/\OP rows wts/\(∀ws∈wts,∀ys∈b8 rows mv.9,jW ys ws)/\∀(go:List Rat) e g,oj e g go->e+g<=1900->∀z∈rows,jW z go:=by
 have sz:=Y.sz;rw[hE] at sz;have t1:c<=c*(T+2):=bZ _ ();have Vc:V<=2^c:=ag (bK _ ()) Y.bd.vc;exact #[λz hz b hb=>#[a2,c,_,_,#[M2,V,Y.bd.m2,Y.bd.b2,Vc,Y.bd.gp b hb],P.fit z hz,()],λz hz ys hy=>#[a1,c,_,_,#[M1,V,Y.bd.m1,Y.bd.b1,Vc,Au Y.bd.gm ys hy],P.fit z hz,()],P.s (),P.f3 (),λgo e g f h z hz=>#[_,_,e,g,P.fit z hz,f,()]]
end
theorem Ve (hz:∀i c,bE Z i c=0) (hl:R.9=ps.9) (hw:∀xs∈R,xs.9=n) (inc:∀i j,i < j->j < ps.9->ps.getD i 0 < ps.getD j 0) (low:∀j,j < ps.9->ps.getD j 0 < n)
  (unit:∀i,i < ps.9->∀j,j < ps.9->bE R i (ps.getD j 0)=if i=j then 1 else 0) (lead:∀i,i < ps.9->∀c,c < ps.getD i 0->bE R i c=0):bo (R++Z) n R ps:=by
 refine #[hl,hw,#[inc,low,unit,lead,λi hi=>?_,λi hi=>?_]]
 ·by_cases y:i < R.9
  ·rw[yv y,<- hl];exact eo.row y
  ·obtain ⟨j,rfl⟩:∃j,i=R.9+j:=#[i - R.9,()];rw[vM];exact eo.zero (hz j)
 ·rw[show bE R i=bE (R++Z) i from (yv ()).symm];exact eo.row (by rw[ai];lia)
def Cu (a:Nat):List Rat:=(on 8).map λj=>if j=a then 1 else 0
def og:LR9:=(on 8).map λi=>Cu (i+1)
theorem WW (i c:Nat):bE [] i c=0:=rfl
theorem O7 {a:Nat}:((on 8).map λ(j:Nat)=>(((if decide ((j:Int)=(a:Int))=true then 1 else 0:Int)):Rat))=Cu a:=by
 unfold Cu;refine dq λj _=>?_
 by_cases e:j=a
 ·rw[if_pos (decide_eq_true ()),if_pos e];rfl
 ·rw[if_neg (by intro z;exact e (by have:=of_decide_eq_true z;lia)),if_neg e];rfl
theorem Vd:((on 8).map λ(i:Nat)=>(on 8).map λ(j:Nat)=>(((if decide ((j:Int)=(i:Int)+1)=true then 1 else 0:Int)):Rat))=og:=by
 unfold og;exact dq λi _=>O7 (a:=i+1)
theorem Fn:og.length=8:=()
theorem Xu:GF 1 1 og/\GF 1 1 []/\GF 1 1 [Cu 0]:=by
 have b:∀{x:Rat},x=0\/x=1->Fr 1 1 x:=λh=>by
  rcases h with rfl | rfl
  ·exact Fr.zero
  ·exact Fr.one (ah _)
 have q:(∀xs∈og,∀x∈xs,x=0\/x=1)/\∀xs∈[Cu 0],∀x∈xs,x=0\/x=1:=by decide +kernel
 exact #[λxs hx x hx'=>b (q.1 xs hx x hx'),(λ_ h=>nomatch h),λxs hx x hx'=>b (q.2 xs hx x hx')]
section
variable {x y st go pr:List Rat}
theorem Jh:bE (rows++[x]) rows.9=λc=>x.getD c 0:=by
 have:=vM (X:=rows) (Y:=[x]) (i:=0);rw[Nat.add_zero] at this;rw[this];rfl
theorem Ti (D:dJ mv pt lk) (ls:st.9=mv.9) (lg:go.9=mv.9) (lp:pus.9=T) (wp:∀xs∈pus,xs.9=pt.9) (h1:qX mv pt st pus T=go):eo (kry mv pt T).9 (bE (kry mv pt T)) λc=>(gM mv T st go).getD c 0:=by
 have ll:=Jt (T:=T) ls lg;have f:=Ax (pus:=pus) (st:=st) D ls T () wp;rw[h1] at f;have wT:=eO (mv:=mv) rfl D.pw T;refine #[λi=>((pus.take T).reverse.flatten).getD i 0,λc=>?_];by_cases hc:c < mv.9
 ·show (gM mv T st go).getD c 0=_
  unfold gM;rw[KO (by rw[lg,oA ls]) (),f c hc];grind
 ·show (gM mv T st go).getD c 0=_
  rw[aa,aE (),cK λt _=>by rw[pJ wT (),cS]];rfl
end
theorem Wr (a n:Nat) (ha:a<=n):Zm none (some (a:Int)) 1 (n:Int)=(0,(a:Int)):=by
 have h2:¬(a:Int) < 0:=()
 have h3:¬(n:Int) < (a:Int):=()
 simp [Zm,h2]
 lia
theorem Yi {a n:Nat} (S:s.heap.IsSliceOf sl .none (.int a u) .none) (ha:a<=n) (q:Q (0,1,a) s):wE (model prog w) A (On.Slice.sliceApplied (.ref sl) (pure (n:Int))) Q E s:=by
 obtain _|ho|_|hd:=id S;unfold On.Slice.sliceApplied On.Slice.sliceFields;refine db (db (XL ho hd (x:=.none) rfl (db (XL ho hd (x:=.int a u) rfl (db (XL ho hd (x:=.none) rfl (pi (db (slicePart_none ?_)))))))));show wE _ _ (if ((1:Int) == 0)=true then _ else _) _ _ s
 rw[if_neg ()];refine db (slicePart_none (db (slicePart_int (db (pi ?_)))));show wE _ _ (match Zm none (some (a:Int)) 1 (n:Int) with | (l9,h9)=>pure (l9,(1:Int),On.Slice.slicePlaces l9 h9 1)) _ _ s
 rw[Wr a n ha];show wE _ _ (pure ((0:Int),(1:Int),On.Slice.slicePlaces ((0:Nat):Int) (a:Int) 1)) _ _ s;rw[places_from 0 a (a7 _)];exact pi q
theorem X9 {a:Nat} (T:IsTup s.heap t its) (S:s.heap.IsSliceOf sl .none (.int a u) .none) (ha:a < its.7)
  (q:Q (.ref s.6) { s with heap:=s.heap.push { cls:=.type "tuple",data:=.seq (its.toList.take a).5 } }) (z:its.7<=ww):wE (model prog w) A (getItem (.ref t) (.ref sl)) Q E s:=by
 have ok:sizeOk (.seq (its.toList.take a).5):=by
  show (its.toList.take a).toArray.size<=ww
  rw[aG,bP,Da]
  lia
 obtain so|ho|hc|_:=id S;have tS:s.TypeIs (.ref sl) "slice":=#[so,ho,hc];unfold getItem
 try with_reducible refine Ps ?_
 first | refine db (pi (db (wpAny_sequenceKey T.typeIs () (db (WF (name:=wP "__getitem__") T.typeIs Sc (wpAny_call_entry Sc T.typeIs entry_tuple_getitem ?_ (args_tuple_getitem _ _))))))) | refine db (wpAny_sequenceKey T.typeIs () (db (WF (name:=wP "__getitem__") T.typeIs Sc (wpAny_call_entry Sc T.typeIs entry_tuple_getitem ?_ (args_tuple_getitem _ _)))))
 show wE _ _ (On.Tuple.tupleItemsOf (.ref t) >>= _) _ _ s
 refine db (tupleItemsOf_ T (db (wpAny_typeOf tS ?_)));rw[if_pos ()];refine db (Yi S (cA ha) ?_)
 have no:¬(((0:Int) == 0 && (1:Int) == 1 && a == its.7)=true):=by
  have:(a == its.7)=false:=by rw[beq_eq_false_iff_ne];lia
  rw[this];decide
 have pk:((on a).filterMap λ(k:Nat)=>its[((0:Int)+(k:Int)*1).toNat]?).5=(its.toList.take a).5:=by
  have e:(λ(k:Nat)=>its[((0:Int)+(k:Int)*1).toNat]?)=(its[·]?) ∘ (0+·):=by
   funext k;show its[((0:Int)+(k:Int)*1).toNat]?=its[0+k]?
   rw[show ((0:Int)+(k:Int)*1).toNat=0+k by lia]
  rw[e,<- List.filterMap_map];exact congrArg List.toArray (pick_run its 0 a)
 show wE _ _ (if ((0:Int) == 0 && (1:Int) == 1 && a == its.7)=true then _ else _) _ _ s
 rw[if_neg no,pk]
 first
  | exact db (m:=T0 _) (ST (pi ⟨_,rfl,pi q⟩) ok)
  | exact db (m:=T0 _) (ST (db (pi (pi ⟨_,rfl,pi q⟩))) ok)
  | exact db (db (m:=T0 _) (ST (pi (pi ⟨_,rfl,pi q⟩)) ok))
  | exact db (db (m:=T0 _) (ST (pi ⟨_,rfl,pi q⟩) ok))
def Ur (K:FG9):V->Option Int->Option Int->Hp->VK->Prop:=λx lo hi H Q=>∃(a:Addr) (xs:List V) (k:Nat),x=.ref a/\lo=none/\hi=some (k:Int)/\k < xs.9/\jN K H a xs/\∀p,H p=none->Q (.ref p) (upd H p (.tup (xs.take k)))
theorem Sg:YE X (Ur X.K):=by
 intro pins s σ H x v vl vu lo hi sl Q I rx hs pl pu h;obtain a|xs|k|rfl|rfl|rfl|k2|hx|q:=h;cases rx;cases pl;cases pu;obtain its|r|ht|hz:=I.tuple hx;have hlen:=r.9;refine #["tuple",_,Sc.lookup,ht.typeIs,X9 ht hs (by rw[aG];lia) #[.ref s.6,_,I.laid (t':=s.toks) (o:=.tup (xs.take k)) (λb ob q=>io _ q) (ah _) #[by rw[bP];lia,_,r.take k,#[_,At _ rfl,rfl,_,rfl]],rfl,q _ (I.hok.fresh (ah _))] (by rw[aG];lia)]
theorem Su {K:FG9} (h1:jN K H a xs) (k2:k < xs.9) (e:xs.take k=zs) (h:∀p H',aH H H'->H' p=some (.tup zs)->Q (.ref p) H'):Ur K (.ref a) none (some (k:Int)) H Q :=
 #[a,xs,k,rfl,rfl,rfl,k2,h1,λp hp=>h p _ (aH.new hp) (by rw[aN,e])]
theorem UQ.le (h:UQ mv pt T) (hu:u<=T):UQ mv pt u:=by
 obtain M1|M2|V|a1|a2|c|X|z:=h;have e1:a1*(u+1)<=a1*(T+1):=aD _ ();have e2:c*(u+2)<=c*(T+2):=aD _ ();exact #[M1,M2,V,a1,a2,c,X,()]
def ON (mv pt:LR9) (go:List Rat) (j:Nat):Prop:=eo (kry mv pt j).9 (bE (kry mv pt j)) λc=>go.getD c 0
def T6 (mv pt:LR9) (go:List Rat):Option Nat->Prop
 | some k=>k<=mv.9/\ON mv pt go k/\∀j,j < k->¬ON mv pt go j
 | none=>∀j,j<=mv.9->¬ON mv pt go j
def Wd:Option Nat->V
 | some k=>.int (k:Nat)
 | none=>.non
section
variable {mv pt lk pus R RA RB rows:LR9} {ps pa pb:List Nat} {go pr x:List Rat} {n u k T w M1 M2 V:Nat}
theorem QN (RR:bo rows n RB pb) (RR':bo (rows++[x]) n RA pa) (sx:eo rows.9 (bE rows) λc=>x.getD c 0):RA=RB:=by
 have lX:(rows++[x]).9=rows.9+1:=by simp
 refine (RR.uniq RR' (λi hi=>?_) λi hi=>?_).1.symm
 ·have:=eo.row (a:=bE (rows++[x])) (m:=(rows++[x]).9) (i:=i) (by rw[lX];lia);rwa [yv hi] at this
 ·by_cases h:i < rows.9
  ·rw[yv h];exact eo.row h
  ·rw[show i=rows.9 by lia,Jh];exact sx
theorem Wg (RR:bo rows n R pb) (RR':bo (rows++[x]) n R pa):eo rows.9 (bE rows) λc=>x.getD c 0:=by
 obtain l1|_|r1:=RR;obtain l2|_|r2:=RR';have e:=r2.span rows.9 (by simp);rw[Jh] at e;exact eo.trans (b:=bE R) (m':=pa.9) (λj hj=>r1.back j ()) e
theorem zx (lg:go.9=mv.9):gM mv u (ce mv.9 0) go=go:=by
 unfold gM;rw[xm];refine dI (by rw[cu,aI];lia) λi h1 h2=>?_
 rw[ji,List.getElem_replicate];grind
theorem Ul (D:dJ mv pt lk) (lg:go.9=mv.9) (lp:pr.9=mv.9) (h:∀xs∈kry mv pt u,cb xs pr=0) (hd:cb pr go=1):¬ON mv pt go u:=λ#[ws,hw]=>by
 have wk:=eO (mv:=mv) (pt:=pt) rfl D.pw u
 have e:cb pr go=0:=by
  rw[dD (),lp]
  have e1:(bw mv.9 λc=>pr.getD c 0*go.getD c 0)=bw mv.9 λc=>bw (kry mv pt u).9 λt=>ws t*(bE (kry mv pt u) t c*pr.getD c 0):=aO λc _=>by
   have hc:go.getD c 0=_:=hw c;rw[hc,<- cB];exact aO λt _=>by grind
  rw[e1,eI];refine cK λt ht=>?_
  rw[cB];have mt:=aQ ht;have d:=h _ mt;rw[dD (by rw[wk _ mt,lp]),wk _ mt] at d
  have:(bw mv.9 λc=>bE (kry mv pt u) t c*pr.getD c 0)=0:=by
   refine Zw (aO λc _=>?_) d;unfold bE;rw[aa (l:=kry mv pt u),ae ht];rfl
  rw[this,cS]
 rw[e] at hd;exact absurd hd ()
theorem Em (D:dJ mv pt lk) (lg:go.9=mv.9) (h:TX mv pt go k pus):T6 mv pt go (some k):=by
 obtain kn|SA|SB:=h;have l0:(ce mv.9 (0:Rat)).9=mv.9:=aI ..;refine #[kn,?_,λj hj=>?_]
 ·have:=Ti D l0 lg SA.1 SA.2.1 SA.2.2.1;rwa [zx lg] at this
 ·obtain pr|SB:=SB j hj;have d:=SB.2.2.1;rw[zx lg] at d;exact Ul D lg SB.1 SB.2.1 d
theorem LD (D:dJ mv pt lk) (lg:go.9=mv.9) (h:Ww mv pt go R ps i):T6 mv pt go none:=λj hj=>by
 obtain _|_|_|pr|SB:=h;have d:=SB.2.2.1;rw[zx lg] at d;refine Ul D lg SB.1 (λxs hx=>SB.2.1 xs ?_) d;obtain Z|eZ:=BZ (mv:=mv) (pt:=pt) (u:=j) (mv.9 - j);rw[show j+(mv.9 - j)=mv.9 by lia] at eZ;rw[eZ];exact dS _ hx
structure WC (mv pt:LR9) (go:List Rat):Prop where
 ad:UQ mv pt mv.9
 lw:∀u,u<=mv.9->∃S,YG (kry mv pt u) mv.9 S
 lo:∀u,u<=mv.9->∃S,YG (kry mv pt u++[go]) mv.9 S
theorem YO (R:Rg mv pt w):∃M1 M2 V,Bd mv pt M1 M2 V 80 160 33:=by
 have up:∀{M1 M2 V a1 a2 c:Nat},a1<=80->a2<=160->c<=33->Bd mv pt M1 M2 V a1 a2 c->∃M1 M2 V,Bd mv pt M1 M2 V 80 160 33:=λh1 h2 h3 X=>#[_,_,_,X.m1,X.m2,ag X.b1 (aj () h1),ag X.b2 (aj () h2),X.gm,X.gp,ag X.vc (aj () h3)]
 rcases R with ⟨_,X⟩ | ⟨_,_,X⟩ | ⟨_,_,_,_,X⟩ <;> exact up () () () X
theorem Ej {E e g:Nat} (RG:Rg mv pt w) (D:dJ mv pt lk) (lg:go.9=mv.9) (E0:0 < E) (Eb:E<=2^e) (fg:∀x∈go,Fr E (2^g) x) (eg:e+g<=1900):WC mv pt go:=by
 obtain M1|M2|V|X:=YO RG;have n8:=D.n8;have up:∀{p r:Nat},p<=r->2^p<=2^r:=λz=>aj () z
 have kz:∀u,u<=mv.9->0 < M1^(u - 1)*M2/\M1^(u - 1)*M2<=2^720/\∀xs∈kry mv pt u,∀x∈xs,Fr (M1^(u - 1)*M2) (2^264) x:=λu hu=>by
  have e1:80*(u - 1)<=80*7:=aD _ ();exact #[bC (eH X.m1) X.m2,ag (nO X.b1 X.b2) (up ()),λxs hx x hx'=>(X.kry D u xs hx x hx').mono (up ())]
 have n1:80*(mv.9+1)<=80*9:=aD _ ();have n2:33*(mv.9+2)<=33*10:=aD _ ();refine #[#[M1,M2,V,80,160,33,X,()],λu hu=>?_,λu hu=>?_]
 ·obtain D0|D1|f:=kz u hu;refine #[_,T1.lws (w:=264+720) (a:=720) #[_,_,D0,D1,cm,ah _,λxs hx x hx'=>Tp.of (f xs hx x hx') (by rw[aV];exact aD _ D1),(),?_] (eO rfl D.pw u)];have:min (L2.kry mv pt u).9 mv.9*(264+720+4)<=8*(264+720+4):=ax _ ()
  lia
 ·obtain D0|D1|f:=kz u hu;have ED:E*(M1^(u - 1)*M2)<=2^(1900+720):=by rw[aV];exact aK (ag Eb (up ())) D1
  refine #[_,T1.lws (w:=1900+(1900+720)) (a:=1900+720) #[E*(M1^(u - 1)*M2),_,bC E0 D0,ED,cm,ah _,λxs hx x hx'=>?_,(),?_] λxs hx=>(av.mp hx).elim (λh=>eO rfl D.pw u xs h) λh=>by rw[bA.mp h];exact lg]
  ·rw[aV 2 1900 (1900+720)];rcases av.mp hx with hx | hx
   ·exact Tp.of (Fr.up (f xs hx x hx') (eh _ _) (up ())) (aD _ ED)
   ·rw[bA.mp hx] at hx';exact Tp.of (Fr.up (fg x hx') (yB _ _) (up ())) (aD _ ED)
  ·have:min (L2.kry mv pt u++[go]).9 mv.9*(1900+(1900+720)+4)<=8*(1900+(1900+720)+4):=ax _ ()
   lia
end
inductive IK (K:FG9) (vs:List V) (H:Hp) (Q:VK) (E9:XK):Prop
 | mk (r g:Addr) (H0:Hp) (mv pt lk:LR9) (go:List Rat) (o:Option Nat):vs=[.ref r,.ref g]->fK K H0 H r mv pt lk->dJ mv pt lk->cC K H g go->go.9=mv.9->WC mv pt go->T6 mv pt go o->(∀H',aH H H'->Q (Wd o) H')->IK K vs H Q E9
def Yt (mv:LR9) (go:List Rat) (R:LR9) (ps:List Nat) (i:Nat):Prop:=∀j,j < i->((aR R ps mv.9).map λz=>cb z go).getD j 0=0
inductive yM (K:FG9) (C:Addr) (vs:List V) (H:Hp) (Q:VK) (E9:XK):Prop
 | mk (x g:Addr) (a c:Nat) (H0:Hp) (mv pt lk:LR9) (go:List Rat):vs=[.ref x,.ref g]->kI K H0 H C x mv pt lk->dJ mv pt lk->Ky mv pt lk->jl mv pt a c->cC K H g go->go.9=mv.9->(∀u,u<=mv.9->RI mv pt (ce mv.9 0) go u (OV mv pt (ce mv.9 0) go u) (Mg mv pt (ce mv.9 0) go u))->(∀R ps,bo (kry mv pt mv.9) mv.9 R ps->∀z∈aR R ps mv.9,jW z go)->((∀t p k pus H',H' t=some (.tup [.str (wP "in"),.int (k:Nat),.ref p])->aH H H'->H p=none->be K H H' p pus->TX mv pt go k pus->Q (.ref t) H')/\(∀t p q i R ps Wp Wq H',H' t=some (.tup [.str (wP "never"),.ref p,.ref q])->aH H H'->H p=none->H q=none->be K H H' p (bO (aR R ps mv.9) i)->be K H H' q ((bO (ki mv R ps) i).map λxs=>bO xs i)->KA K Wp H' (.grid (bO (aR R ps mv.9) i)) (.ref p)->KA K Wq H' (.grid ((bO (ki mv R ps) i).map λxs=>bO xs i)) (.ref q)->(∀a,Wp a->H a=none/\H' a≠none)->(∀a,Wq a->H a=none/\H' a≠none)->(∀a,Wq a->¬Wp a)->Ww mv pt go R ps i->Yt mv go R ps i->Q (.ref t) H'))->yM K C vs H Q E9
inductive tU (K:FG9) (H H':Hp) (mv pt:LR9) (go:List Rat):Option Nat->List Ed->V->Prop
 | inn {t p:Addr} {k:Nat} {pus:LR9}:H' t=some (.tup [.str (wP "in"),.int k,.ref p])->H p=none->be K H H' p pus->TX mv pt go k pus->tU K H H' mv pt go (some k) [.fl (.str (wP "in")),.fl (.int k),.grid pus] (.ref t)
 | nev {t p q:Addr} {i:Nat} {R:LR9} {ps:List Nat} {Wp Wq:Addr->Prop}:H' t=some (.tup [.str (wP "never"),.ref p,.ref q])->H p=none->H q=none->be K H H' p (bO (aR R ps mv.9) i)->be K H H' q ((bO (ki mv R ps) i).map λxs=>bO xs i)->KA K Wp H' (.grid (bO (aR R ps mv.9) i)) (.ref p)->KA K Wq H' (.grid ((bO (ki mv R ps) i).map λxs=>bO xs i)) (.ref q)->(∀a,Wp a->H a=none/\H' a≠none)->(∀a,Wq a->H a=none/\H' a≠none)->(∀a,Wq a->¬Wp a)->Ww mv pt go R ps i->Yt mv go R ps i->tU K H H' mv pt go none [.fl (.str (wP "never")),.grid (bO (aR R ps mv.9) i),.grid ((bO (ki mv R ps) i).map λxs=>bO xs i)] (.ref t)
inductive OO (K:FG9) (H:Hp) (v v':V):Prop
 | a (x:Str×Int×LR9):(Jw Oc Jy pH).R K H v x->(Jw Oc Jy pH).R K H v' x->OO K H v v'
 | b (x:Str×LR9×LR9):(Jw Oc pH pH).R K H v x->(Jw Oc pH pH).R K H v' x->OO K H v v'
section
variable {K:FG9}
theorem OO.eq (h:OO K H v v') (q:Q (.bl true) H):XQ K v v' H Q:=by
 cases h with
 | a x h h'=>exact #[_,_,_,_,_,(),h,h',by rw[decide_eq_true rfl];exact q]
 | b x h h'=>exact #[_,_,_,_,_,(),h,h',by rw[decide_eq_true rfl];exact q]
theorem tU.rk (h:tU K H H1 mv pt go o ds v) (g:H1 r=some (.tup ys)) (p:jp (EJ K H2 H1) ds ys):OO K H1 v (.ref r):=by
 cases h with
 | inn gt np G S =>
  cases p with
  | cons h1 p=>cases p with
   | cons h2 p=>cases p with
    | cons h3 p =>
     cases p;obtain rfl:=h1;obtain rfl:=h2;obtain _|rfl|_|G':=h3;exact .a (_,_,_) #[_,_,_,_,rfl,jN.of gt,rfl,rfl,G.kind] #[_,_,_,_,rfl,jN.of g,rfl,rfl,G'.kind]
 | nev gt np nq G1 G2 =>
  cases p with
  | cons h1 p=>cases p with
   | cons h2 p=>cases p with
    | cons h3 p =>
     cases p;obtain rfl:=h1;obtain _|rfl|_|G1':=h2;obtain _|rfl|_|G2':=h3;exact .b (_,_,_) #[_,_,_,_,rfl,jN.of gt,rfl,G1.kind,G2.kind] #[_,_,_,_,rfl,jN.of g,rfl,G1'.kind,G2'.kind]
theorem tU.fw (h:tU K H H1 mv pt go o ds v) (D:dJ mv pt lk) (lg:go.9=mv.9):T6 mv pt go o:=by
 cases h with
 | inn _ _ _ S=>exact Em D lg S
 | nev _ _ _ _ _ _ _ _ _ _ S=>exact LD D lg S
theorem tU.uniq (h:tU K H H1 mv pt go o ds v) (h':tU K H2 H3 mv pt go o' ds' v') (D:dJ mv pt lk) (lg:go.9=mv.9):o=o'/\ds=ds':=by
 cases h with
 | @inn _ _ k pus _ _ _ S =>
  cases h' with
  | @inn _ _ k' pus' _ _ _ S' =>
   have a:=Em D lg S;have b:=Em D lg S'
   have e:k=k':=by
    rcases cT k k' with z | z | z
    ·exact absurd a.2.1 (b.2.2 _ z)
    ·exact z
    ·exact absurd b.2.1 (a.2.2 _ z)
   subst e;rw[S.2.1.2.2.2.1.uniq S'.2.1.2.2.2.1];exact #[rfl,rfl]
  | nev _ _ _ _ _ _ _ _ _ _ S'=>exact absurd (Em D lg S).2.1 (LD D lg S' _ S.1)
 | @nev _ _ _ i R ps _ _ _ _ _ _ _ _ _ _ _ _ S F =>
  cases h' with
  | inn _ _ _ S'=>exact absurd (Em D lg S').2.1 (LD D lg S _ S'.1)
  | @nev _ _ _ i' R' ps' _ _ _ _ _ _ _ _ _ _ _ _ S' F' =>
   obtain rfl|rfl:=bo.uniq S.1 S'.1 (λ_ hi=>eo.row hi) (λ_ hi=>eo.row hi)
   have e:i=i':=by
    rcases cT i i' with z | z | z
    ·exact absurd (F' _ z) S.2.2.1
    ·exact z
    ·exact absurd (F _ z) S'.2.2.1
   subst e;exact #[rfl,rfl]
theorem tU.same (h:tU K H H1 mv pt go o ds v) (s:aH H1 H2):tU K H H2 mv pt go o ds v:=by
 have nn:∀{a},H1 a≠none->H2 a≠none:=λ{a} z e=>z (s.none e)
 cases h with
 | inn gt np G S=>exact .inn (s _ _ gt) np (G.same s) S
 | nev gt np nq G G' E1 E2 w1 w2 dj S F=>exact .nev (s _ _ gt) np nq (G.same s) (G'.same s) (KA.kp (S:=λ_=>False) E1 (.of s) λ_ _ z=>z) (KA.kp (S:=λ_=>False) E2 (.of s) λ_ _ z=>z) (λa z=>#[(w1 a z).1,nn (w1 a z).2]) (λa z=>#[(w2 a z).1,nn (w2 a z).2]) dj S F
theorem tU.tup (h:tU K H H1 mv pt go o ds v):∃t ys,v=.ref t/\H1 t=some (.tup ys)/\ys.9=3:=by
 cases h with
 | inn gt=>exact #[_,_,rfl,gt,rfl]
 | nev gt=>exact #[_,_,rfl,gt,rfl]
theorem tU.ok (h:tU K H H1 mv pt go o ds v) (D:dJ mv pt lk):ds.9<=10/\∀d∈ds,Ed.ok d:=by
 have n8:=D.n8;have i4:=D.i4;cases h with
 | @inn _ _ k pus _ _ _ S =>
  refine #[show 3<=10 by decide,λd hd=>?_];simp only[aJ,aX,or_false] at hd;rcases hd with rfl | rfl | rfl
  ·rfl
  ·rfl
  ·have:=S.1;exact #[by rw[S.2.1.1];lia,λxs hx=>by rw[S.2.1.2.1 xs hx];lia]
 | @nev _ _ _ i R ps _ _ _ _ _ _ _ _ _ _ _ _ S F =>
  have hi:=S.2.1;have nc:=vV S.1;have l1:=fv hi;have l2:=fv (xs:=ki mv R ps) (i:=i) (by rw[vS];exact hi);refine #[show 3<=10 by decide,λd hd=>?_];simp only[aJ,aX,or_false] at hd;rcases hd with rfl | rfl | rfl
  ·rfl
  ·exact #[(),λxs hx=>by rw[oE xs (jJ hx)];lia]
  ·refine #[by rw[af,l2,vS];lia,λxs hx=>?_];obtain ys|hy|rfl:=aB.mp hx;have:=Il ys (jJ hy);rw[fv ()]
   lia
theorem Ob (h:tU K H H1 mv pt go o ds v) (D:dJ mv pt lk) (k:∀r ys H',aH H1 H'->H' r=some (.tup ys)->jp (EJ K H1 H') ds ys->Q (.ref r) H'):EX K 5 [v] H1 Q E9:=by
 obtain l10|ok:=h.ok D;cases h with
 | @inn _ _ k9 pus gt np G S=>exact #[_,rfl,.inr (.inr (.inr (.inr #[(),_,_,H,([.fl (.str (wP "in")),.fl (.int k9),.grid pus]:List Ed),rfl,jN.of gt,.cons rfl (.cons rfl (.cons #[_,rfl,np,G] .nil)),l10,ok,λr ys H' s' g' pr'=>k r ys H' s' g' pr'])))]
 | @nev _ _ _ i R ps _ _ gt np nq G G'=>exact #[_,rfl,.inr (.inr (.inr (.inr #[(),_,_,H,([.fl (.str (wP "never")),.grid (bO (aR R ps mv.9) i),.grid ((bO (ki mv R ps) i).map λxs=>bO xs i)]:List Ed),rfl,jN.of gt,.cons rfl (.cons #[_,rfl,np,G] (.cons #[_,rfl,nq,G'] .nil)),l10,ok,λr ys H' s' g' pr'=>k r ys H' s' g' pr'])))]
theorem KU (h:tU K H H1 mv pt go o ds v) (D:dJ mv pt lk) (s:aH H1 H2) (k:∀H',Kp (λa=>H a=none/\H1 a≠none) H2 H'->Q .non H'):yL K 5 [v] H2 Q E9:=by
 obtain l10|ok:=h.ok D;cases h with
 | @inn t p kk pus gt np G S =>
  have E1:=EJ.elW (d:=.grid pus) #[p,rfl,np,G] s;refine #[_,rfl,.inr (.inr (.inr (.inr #[(),t,_,[(.fl (.str (wP "in")),λ_=>False),(.fl (.int kk),λ_=>False),(.grid pus,λa=>H a=none/\H1 a≠none)],rfl,jN.of (s _ _ gt),.cons rfl (.cons rfl (.cons E1 .nil)),l10,λd hd=>?_,λi j f f' hij hf hf' a h1 h2=>?_,λH' k'=>k _ (k'.mono λa z=>?_)])))]
  ·refine ok d.1 ?_;simp only[aJ,aX,or_false] at hd;rcases hd with rfl | rfl | rfl <;> simp
  ·match i,j,hij,hf,hf' with
   | 0,_,_,hf,_=>cases hf;exact h2
   | 1,_,_,hf,_=>cases hf;exact h2
   | 2,j+3,_,_,hf'=>cases hf'
   | i+3,_,_,hf,_=>cases hf
  ·obtain f|mf|wf:=z;simp only[aJ,aX,or_false] at mf;rcases mf with rfl | rfl | rfl
   ·exact wf.elim
   ·exact wf.elim
   ·exact wf
 | @nev t p q i R ps Wp Wq gt np nq G G' E1 E2 w1 w2 dj S F =>
  have k0:Kp (λ_=>False) H1 H2:=.of s;refine #[_,rfl,.inr (.inr (.inr (.inr #[(),t,_,[(.fl (.str (wP "never")),λ_=>False),(.grid (bO (aR R ps mv.9) i),Wp),(.grid ((bO (ki mv R ps) i).map λxs=>bO xs i),Wq)],rfl,jN.of (s _ _ gt),.cons rfl (.cons (KA.kp E1 k0 λ_ _ z=>z) (.cons (KA.kp E2 k0 λ_ _ z=>z) .nil)),l10,λd hd=>?_,λi j f f' hij hf hf' a h1 h2=>?_,λH' k'=>k _ (k'.mono λa z=>?_)])))]
  ·refine ok d.1 ?_;simp only[aJ,aX,or_false] at hd;rcases hd with rfl | rfl | rfl <;> simp
  ·match i,j,hij,hf,hf' with
   | 0,_,_,hf,_=>cases hf;exact h2
   | 1,2,_,hf,hf'=>cases hf;cases hf';exact dj a h1 h2
   | 1,j+3,_,_,hf'=>cases hf'
   | 2,j+3,_,_,hf'=>cases hf'
   | i+3,_,_,hf,_=>cases hf
  ·obtain f|mf|wf:=z;simp only[aJ,aX,or_false] at mf;rcases mf with rfl | rfl | rfl
   ·exact wf.elim
   ·exact w1 a wf
   ·exact w2 a wf
theorem Ay {x g:Addr} (S:kI K H0 H C x mv pt lk) (D:dJ mv pt lk) (F:Ky mv pt lk) (KF:jl mv pt a c) (Rg:cC K H g go) (lg:go.9=mv.9) (SO:∀u,u<=mv.9->RI mv pt (ce mv.9 0) go u (OV mv pt (ce mv.9 0) go u) (Mg mv pt (ce mv.9 0) go u)) (FN:∀R ps,bo (kry mv pt mv.9) mv.9 R ps->∀z∈aR R ps mv.9,jW z go) (k:∀o ds v H',aH H H'->tU K H H' mv pt go o ds v->Q v H'):yM K C [.ref x,.ref g] H Q E9 :=
 #[x,g,a,c,H0,mv,pt,lk,go,rfl,S,D,F,KF,Rg,lg,SO,FN,#[λt p kk pus H' gt s' np G S'=>k _ _ _ H' s' (.inn gt np G S'),λt p q i R ps Wp Wq H' gt s' np nq G G' E1 E2 w1 w2 dj S' F'=>k _ _ _ H' s' (.nev gt np nq G G' E1 E2 w1 w2 dj S' F')]]
end
structure Yl (mv pt:LR9) (go:List Rat) (rows wts:LR9):Prop where
 r10:rows.9<=10
 wl:wts.9=rows.9
 rn:∀z∈rows,z.9=mv.9
 wn:∀z∈wts,z.9=rows.9
 f1:∀z∈rows,∀b∈pt,jW b z
 f2:∀z∈rows,∀ys∈b8 mv mv.9,jW ys z
 ps:OP rows wts
 f4:∀z∈rows,jW z go
 sr:∀z∈rows,∀x∈z,jX x
 sw:∀z∈wts,∀x∈z,jX x
theorem OP.sz (P:OP rows wts):(∀z∈rows,∀x∈z,jX x)/\∀z∈wts,∀x∈z,jX x:=by
 obtain M|D|W|B|M0|D0|tM|tD|W1|B1|b1|b2:=P;have m1:M<=M*D:=bZ _ D0;have m2:D<=M*D:=bK _ M0;have w1:W<=W*B:=bZ _ ();have w2:B<=W*B:=bK _ ();have up:2^3990000<=2^3995000:=aj () ();have wb:W*B<=2^3990000:=ag (bK _ ()) b2;exact #[λz hz x hx=>mh (tM z hz x hx) M0 (ag (ag m1 b1) up) (ag (ag w1 wb) up),λz hz x hx=>mh (tD z hz x hx) D0 (ag (ag m2 b1) up) (ag (ag w2 wb) up)]
inductive A1 (K:FG9) (C:Addr) (vs:List V) (H:Hp) (Q:VK) (E9:XK):Prop
 | mk (x r g:Addr) (a c:Nat) (H0 H1:Hp) (mv pt lk:LR9) (go:List Rat):vs=[.ref x,.ref r,.ref g]->kI K H0 H C x mv pt lk->fK K H1 H r mv pt lk->dJ mv pt lk->Ky mv pt lk->jl mv pt a c->cC K H g go->go.9=mv.9->(∀u,u<=mv.9->RI mv pt (ce mv.9 0) go u (OV mv pt (ce mv.9 0) go u) (Mg mv pt (ce mv.9 0) go u))->(∀R ps,bo (kry mv pt mv.9) mv.9 R ps->∀z∈aR R ps mv.9,jW z go)->(∀R ps i,bo (kry mv pt mv.9) mv.9 R ps->i < (aR R ps mv.9).9->Yl mv pt go (bO (aR R ps mv.9) i) ((bO (ki mv R ps) i).map λxs=>bO xs i))->WC mv pt go->(∀H',aH H H'->Q (.bl true) H')->A1 K C vs H Q E9
def Nv:Sp:=λvs H Q _=>∃b:Addr,vs=[.ref b]/\jm H b/\∀H',jm H' b->dk b H H'->Q (.bl true) H'
def D3 (c:Rat) (t:Nat):List Rat:=(on 8).map λj=>if j+t=7 then c else 0
def OS (T:Nat):LR9:=(on (8 - (8 - T))).map λi=>Cu (8 - T+i)
theorem Px:∀v,v < 9->∀T,T < 13->kry og [D3 ((v+1:Nat):Rat) 0] T=(on T).map (D3 ((v+1:Nat):Rat)):=by decide +kernel
def ND (T:Nat):List Nat:=(on (8 - (8 - T))).map λi=>8 - T+i
theorem YN:∀T,T < 13->(OS T).9=(ND T).9/\(∀xs∈OS T,xs.9=8)/\(∀j,j < (ND T).9->∀i,i < j->(ND T).getD i 0 < (ND T).getD j 0)/\(∀j,j < (ND T).9->(ND T).getD j 0 < 8)/\(∀i,i < (ND T).9->∀j,j < (ND T).9->bE (OS T) i ((ND T).getD j 0)=if i=j then 1 else 0)/\∀i,i < (ND T).9->∀c,c < (ND T).getD i 0->bE (OS T) i c=0:=by decide +kernel
theorem Uo:∀T,T < 13->∀i,i < (OS T).9->∀c,c < 8->bE (OS T) i c=if c=8 - T+i then 1 else 0:=by decide +kernel
theorem Mz (hc:c < 8) (ht:t < T):bE ((on T).map (D3 q)) t c=if c+t=7 then q else 0:=by
 unfold bE;rw[aa (l:=List.map _ _),aA,cZ ht];show (D3 q t).getD c 0=_
 unfold D3;rw[aa,aA,cZ hc];rfl
theorem Xs:∀xs∈(on T).map (D3 q),xs.9=8:=λxs hx=>by
 obtain t|_|rfl:=aB.mp hx;unfold D3;rw[af,bB]
theorem Xt (hv:v < 9) (hT:T < 13):bo (kry og [D3 ((v+1:Nat):Rat) 0] T) 8 (OS T) (ND T):=by
 rw[Px v hv T hT];obtain l|w|inc|low|unit|lead:=YN T hT;have A:bo (OS T++[]) 8 (OS T) (ND T):=Ve WW l w (λi j h1 h2=>inc j h2 i h1) low unit lead;rw[oV] at A;have lu:(OS T).9=8 - (8 - T):=by unfold OS;rw[af,bB]
 have q0:((v+1:Nat):Rat)≠0:=λz=>by
  have z:(((v+1:Nat):Int):Rat)=0:=by rw[aL];exact z
  have:=oo z
  lia
 generalize ((v+1:Nat):Rat)=q at q0;have lr:((on T).map (D3 q)).9=T:=by rw[af,bB]
 have far:∀i c,8<=c->bE ((on T).map (D3 q)) i c=0:=λi c hc=>pJ Xs hc
 have faru:∀i c,8<=c->bE (OS T) i c=0:=λi c hc=>pJ w hc
 refine #[l,w,A.2.2.other (λi hi=>?_) λt ht=>?_]
 ·rw[lr];refine #[λs=>if s=7 - (8 - T+i) then 1 / q else 0,λc=>?_]
  rw[eB (i:=7 - (8 - T+i)) () λj _ ne=>by
   show (if j=7 - (8 - T+i) then _ else (0:Rat))*_=0
   rw[if_neg ne,ig]]
  show _=(if 7 - (8 - T+i)=7 - (8 - T+i) then 1 / q else (0:Rat))*_
  rw[if_pos rfl];by_cases hc:c < 8
  ·rw[Uo T hT i hi c hc,Mz hc ()];by_cases e:c=8 - T+i
   ·rw[if_pos e,if_pos ()];grind
   ·rw[if_neg e,if_neg (),cS]
  ·rw[faru _ _ (),far _ _ (),cS]
 ·rw[lr] at ht;by_cases t8:t < 8
  ·refine #[λs=>if s=7 - t - (8 - T) then q else 0,λc=>?_]
   rw[eB (i:=7 - t - (8 - T)) () λj _ ne=>by
    show (if j=7 - t - (8 - T) then _ else (0:Rat))*_=0
    rw[if_neg ne,ig]]
   show _=(if 7 - t - (8 - T)=7 - t - (8 - T) then q else (0:Rat))*_
   rw[if_pos rfl];by_cases hc:c < 8
   ·rw[Uo T hT _ () c hc,Mz hc ht];by_cases e:c+t=7
    ·rw[if_pos e,if_pos (),ui]
    ·rw[if_neg e,if_neg (),cS]
   ·rw[faru _ _ (),far _ _ (),cS]
  ·refine eo.zero λc=>?_
   by_cases hc:c < 8
   ·rw[Mz hc ht,if_neg ()]
   ·exact far _ _ ()
theorem Lu:dJ og [D3 q 0] []:=#[(),by simp,(),(),λxs hx=>by rw[bA.mp hx];unfold D3;rw[af,bB];rfl,()]
theorem MQ (hv:v < 9):GF 1 9 og/\GF 1 9 [D3 ((v+1:Nat):Rat) 0]/\GF 1 9 []:=by
 refine #[λxs hx x hx'=>(Xu.1 xs hx x hx').mono (),λxs hx x hx'=>?_,(λ_ h=>nomatch h)];rw[bA.mp hx] at hx';obtain j|_|rfl:=aB.mp hx';show Fr 1 9 (if j+0=7 then ((v+1:Nat):Rat) else 0)
 split
 ·have:Fr 1 9 (((v+1:Nat):Int):Rat):=Fr.int (by rw[bM];lia);rwa [aL] at this
 ·exact Fr.zero
theorem XX (hv:v < 9):Ky og [D3 ((v+1:Nat):Rat) 0] []:=#[1,9,(),cm,ag (show 9<=2^4 by decide) (aj () ()),MQ hv]
theorem XY (hv:v < 9):jl og [D3 ((v+1:Nat):Rat) 0] 0 14:=p7 (M:=1) (V1:=9) (n0:=8) () () () () (MQ hv).1 (MQ hv).2.1 ()
theorem Va:ce 7 (0:Rat)++[((v+1:Nat):Rat)]=D3 ((v+1:Nat):Rat) 0:=by
 unfold D3;rfl
def oh:LR9:=[D3 ((1+1:Nat):Rat) 0]
theorem AH (hT:T<=8):kry og oh T=(on T).map (D3 ((1+1:Nat):Rat)):=Px 1 () T ()
theorem F3 (hT:T<=8) (ht:t < T) (hc:c < 8):bE (kry og oh T) t c=if c+t=7 then 2 else 0:=by
 rw[AH hT,Mz hc ht]
 split <;> rfl
theorem T9 (hc:c < 8):(Cu a).getD c 0=if c=a then 1 else 0:=by
 unfold Cu;rw[aa,aA,cZ hc];rfl
theorem ES:(Cu a).9=8:=by unfold Cu;rw[af,bB]
theorem VW (ha:a < 8):ON og oh (Cu a) (8 - a):=by
 have lk:(kry og oh (8 - a)).9=8 - a:=by rw[AH (),af,bB]
 have row:eo (kry og oh (8 - a)).9 (bE (kry og oh (8 - a))) (bE (kry og oh (8 - a)) (7 - a)):=eo.row ();refine eo.congr (λc=>?_) (eo.lin (1 / 2) 0 row row);by_cases hc:c < 8
 ·show 1 / 2*bE (kry og oh (8 - a)) (7 - a) c+0*bE (kry og oh (8 - a)) (7 - a) c=(Cu a).getD c 0
  rw[F3 () () hc,T9 hc];by_cases e:c=a
  ·rw[if_pos (),if_pos e];decide +kernel
  ·rw[if_neg (),if_neg e];decide +kernel
 ·have w8:∀xs∈kry og oh (8 - a),xs.9=8:=by rw[AH ()];exact Xs
  show 1 / 2*bE (kry og oh (8 - a)) (7 - a) c+0*bE (kry og oh (8 - a)) (7 - a) c=(Cu a).getD c 0
  rw[pJ w8 (),aa,aE (by rw[ES];lia)];decide +kernel
theorem Tj (ha:a < 8) (S:TX og oh (Cu a) k pus):k=8 - a/\pus=[1 / 2] :: ce (7 - a) [0]:=by
 have l0:(ce og.length (0:Rat)).9=og.length:=aI ..;have D:dJ og oh []:=Lu;have lg:(Cu a).9=og.length:=by rw[ES,Fn]
 obtain _|SP|NO:=Em D lg S;have SPa:=VW ha;have k8:k<=8:=S.1;obtain lp|wp|h1|_:=S.2.1;have f:=Ax D l0 k () wp;rw[h1,xm] at f;have lk:(kry og oh k).9=k:=by rw[AH k8,af,bB]
 have f2:∀c,c < 8->(if c=a then (1:Rat) else 0)=if 7 - c < k then (List.take k pus).reverse.flatten.getD (7 - c) 0*2 else 0:=λc hc=>by
  have e:=f c hc;rw[T9 hc,lk] at e
  have z:(ce og.length (0:Rat)).getD c 0=0:=by
   rw[aa,cU]
   split <;> rfl
  rw[z] at e;rw[e]
  split
  ·rename_i h
   rw[eB (i:=7 - c) h λj hj ne=>by rw[F3 k8 hj hc,if_neg (),cS],F3 k8 h hc,if_pos ()];grind
  ·rename_i h
   rw[cK λj hj=>by rw[F3 k8 hj hc,if_neg (),cS]];decide +kernel
 have ek:k=8 - a:=by
  rcases cT k (8 - a) with z | z | z
  ·have:=f2 a ha;rw[if_pos rfl,if_neg ()] at this;exact absurd this (by decide +kernel)
  ·exact z
  ·exact absurd SPa (NO _ z)
 refine #[ek,?_]
 obtain ⟨ys,ey⟩:∃ys:List Rat,pus=ys.map λy=>[y]:=by
  refine #[pus.map λr=>r.getD 0 0,?_];rw[ik];refine (List.map_id' pus).symm.trans (dq λr hr=>?_);have:=wp r hr
  match r,this with
  | [y],_=>rfl
 subst ey;rw[af] at lp;have ly:ys.9=k:=lp;rw[aM (by rw[af];lia),<- List.map_reverse] at f2
 have fl:∀zs:List Rat,(zs.map λy=>[y]).flatten=zs:=λzs=>by
  induction zs with
  | nil=>rfl
  | cons z zs ih=>rw[gL,gW,ih];rfl
 rw[fl] at f2
 have gy:∀j,j < k->ys[j]?=some (if j=0 then (1 / 2:Rat) else 0):=λj hj=>by
  have e:=f2 (7 - (k - 1 - j)) ();rw[show 7 - (7 - (k - 1 - j))=k - 1 - j by lia,if_pos (show k - 1 - j < k by lia),aa,List.getElem?_reverse (),show ys.9 - 1 - (k - 1 - j)=j by lia,ae (show j < ys.9 by lia)] at e;rw[ae (show j < ys.9 by lia)];have e:(if 7 - (k - 1 - j)=a then (1:Rat) else 0)=ys[j]'()*2:=e;by_cases z:j=0
  ·rw[if_pos ()] at e;rw[if_pos z];exact congrArg some (by grind)
  ·rw[if_neg ()] at e;rw[if_neg z];exact congrArg some (by grind)
 refine dM λj=>?_
 by_cases hj:j < k
 ·rw[aA,gy j hj];cases j with
  | zero=>rfl
  | succ j=>rw[Yx,cU,if_pos (show j < 7 - a by lia)];rfl
 ·rw[aE (by rw[af];lia),aE (by rw[a9,aI];lia)]
theorem Qr (RR:bo (kry og oh 8) 8 R ps):(aR R ps 8).9=0:=by
 have e:=(RR.same (Xt (v:=1) () (T:=8) ())).2;have l8:ps.9=8:=by rw[e];decide
 have:=vV RR
 lia
theorem VY:Rg og oh 4:=by
 obtain fm|fp|_:=MQ (v:=1) ();exact .inl #[(),(),(),(),(),(λxs hx x hx'=>(fm xs hx x hx').mono ()),(λxs hx x hx'=>(fp xs hx x hx').mono ()),()]
theorem VX:∀u,u<=og.length->RI og oh (ce og.length 0) (Cu a) u (OV og oh (ce og.length 0) (Cu a) u) (Mg og oh (ce og.length 0) (Cu a) u):=λu hu=>by
 have D:dJ og oh []:=Lu;have hT:RH og oh 0:=#[(),.inl ()];obtain M1|M2|Vx|a1|a2|cc|b1|b2|U|HG:=PK VY D hT;have l0:(ce og.length (0:Rat)).9=og.length:=aI ..;have d0:∀x∈ce og.length (0:Rat),Dr (max 4 6) x:=λx hx=>by rw[ox hx];exact #[(),()]
 have dg:∀x∈Cu a,Dr (max 4 6) x:=λx hx=>by
  unfold Cu at hx;obtain j|_|rfl:=aB.mp hx
  split <;> exact #[(),()]
 have lg:(Cu a).9=og.length:=by rw[ES,Fn]
 have h8:u<=8:=hu;exact (HG _ lg (U.gob D l0 lg d0 (ah _) (.inl dg))).2 u 0 () hT (by rw[Fn];lia)
def Nx (N:St->Hp->Prop) (u:TS) (D:Ends):Prop:=∀σ H,u D σ H->N σ H
theorem Sw (h:∀N:St->Hp->Prop,Nx N u D->t { D with nx:=N } σ H):W3 t u D σ H:=h (u D) λ_ _ q=>q
theorem XF (hN:Nx N u D) (h:u D σ H):N σ H:=hN _ _ h
theorem gP {K:FG9}:(JY CX P w K mg base N qual scope f cd A outer s H E).nox.K=K:=rfl
end L2
open L2
local macro_rules | `(tactic| walk_at "hl") => `(tactic| first | (show _ ≤ ww; with_unfolding_all decide) | (with_unfolding_all exact (by decide)))
local macro_rules | `(tactic| walk_at "sq") => `(tactic| first | with_reducible assumption | with_reducible exact jN.of (by assumption) | with_reducible exact bI.of (by assumption) | with_reducible exact jN.of aN | with_reducible exact bI.of aN | assumption)
local macro_rules | `(tactic| walk_at "sc") => `(tactic| first | (with_reducible show (0 : Int) < _; decide) | with_reducible exact M8 (by decide) (by decide) | with_reducible exact GX (by decide) (by decide) | with_reducible exact cpow_of (by decide) (by decide) (by decide))
def walkOf(x:String):Lean.MacroM (Lean.TSyntax ``Lean.Parser.Tactic.tacticSeq):=
 let i:=Lean.mkIdent (.mkSimple (x.drop 1).toString)
 match x.front with
 |'0'=>`(tacticSeq|with_reducible refine $i ?_)
 |'1'=>`(tacticSeq|(with_reducible refine' $i ?h ?_);case h=>with_unfolding_all rfl)
 |'3'=>`(tacticSeq|(with_reducible refine' $i ?h ?_);case h=>walk_at "sc")
 |'4'=>`(tacticSeq|(with_reducible refine' $i ?h ?k ?l ?_);(case h=>with_reducible first|assumption|exact aN);(case k=>with_unfolding_all rfl);case l=>with_unfolding_all rfl)
 |'5'=>`(tacticSeq|(with_reducible refine' $i ?h ?_);case h=>with_reducible assumption)
 |'6'=>`(tacticSeq|with_reducible refine $i ?_;intro N hN)
 |_=>`(tacticSeq|(with_reducible refine' $i ?h ?k ?_);(case h=>walk_at "sq");case k=>with_unfolding_all rfl)
local macro_rules | `(tactic| walk_at "rd") => do
 let a←("1Vh 0SS 0XE 0Vo 0YQ 0PX 0SV 6Sw 0VC 2Vs 1SU 2ck 0Sr 0Vj 0Vu 0XG 5XF 0Ss 0XI 3gZ 0SD 0Vi 4fI 0X4 0PU 0Vg 0PY 0XA 0Vw 0SK 0PR 0XB 0Vr 0VB 2SJ 0Tq 0VD 0Vz 0X6 0XD 0XH 0SQ 0Vn 0SM 0Vq 0Sv 0XC 0YR 0SH 0X7 0Sx 0VA 0SX 0Uq 0Vv 0NG 0SI 0PV 0SG 0Vm 0SE 0SW 2SN 0Vp 0rd_eqB 0rd_neB 0Lb 0rd_retN 0rd_orV 0Sy 1rd_aug 0Vt 0PN 0rd_bm0 0rd_brk 0rd_cont".splitOn " ").toArray.mapM walkOf
 `(tactic|first $[|$a]*|with_reducible refine ⟨_, rfl, ?_⟩|with_reducible refine ⟨_, _, rfl, ?_⟩)
namespace L2
open PySem PySem.Spec PyProof.Rows Nm
section
variable {X:Cx} {e e1 e2 e3:Expr} {te t1 t2 t3:TE}
theorem eK (i:Nat) {x:Str} {pos:Pos} (hN:X.N.Nodup:=by walk_at "u") (hi:X.N[i]?=some x:=by rfl) (hx:Loc X.env.scope x:=by first | exact Or.inl rfl | exact Or.inr rfl) (hf:X.fn x=true\/X.env.scope.names.lookup x=some .local:=by first | exact .inl rfl | exact .inr rfl | assumption):PG X (.Name x pos) (El i):=S7 hN hi hx hf
theorem eP (i:Nat) {x:Str} {pos pos':Pos} (hN:X.N.Nodup) (he:PE X e te) (hi:X.N[i]?=some x:=by rfl) (hx:Loc X.env.scope x:=by first | exact Or.inl rfl | exact Or.inr rfl) (hs:swapsWith e (some (.Name x pos')) pos.line X.env=pure false:=by rfl) (hf:X.fn x=true\/X.env.scope.names.lookup x=some .local:=by first | exact .inl rfl | exact .inr rfl | assumption):PS X (.Assign [.Name x pos'] e pos) (Pe te (El i)):=VI hN hi hx he hs hf
theorem c9 (a:PE X e te) (h0:r8 [e] X.env=(false,eval e X.env) :: r8 [] X.env:=by rfl):PA X [e] (jY te Cv):=(fo a ir h0)
theorem cQ (a:PE X e te) (b:PE X e1 t1) (h0:r8 [e,e1] X.env=(false,eval e X.env) :: r8 [e1] X.env:=by rfl) (h1:r8 [e1] X.env=(false,eval e1 X.env) :: r8 [] X.env:=by rfl):PA X [e,e1] (jY te (jY t1 Cv)):=(fo a (fo b ir h1) h0)
theorem sZ (a:PE X e te) (b:PE X e1 t1) (c:PE X e2 t2) (h0:r8 [e,e1,e2] X.env=(false,eval e X.env) :: r8 [e1,e2] X.env:=by rfl) (h1:r8 [e1,e2] X.env=(false,eval e1 X.env) :: r8 [e2] X.env:=by rfl) (h2:r8 [e2] X.env=(false,eval e2 X.env) :: r8 [] X.env:=by rfl):PA X [e,e1,e2] (jY te (jY t1 (jY t2 Cv))):=(fo a (fo b (fo c ir h2) h1) h0)
theorem Jg (a:PE X e te) (b:PE X e1 t1) (c:PE X e2 t2) (d:PE X e3 t3) (h0:r8 [e,e1,e2,e3] X.env=(false,eval e X.env) :: r8 [e1,e2,e3] X.env:=by rfl) (h1:r8 [e1,e2,e3] X.env=(false,eval e1 X.env) :: r8 [e2,e3] X.env:=by rfl) (h2:r8 [e2,e3] X.env=(false,eval e2 X.env) :: r8 [e3] X.env:=by rfl) (h3:r8 [e3] X.env=(false,eval e3 X.env) :: r8 [] X.env:=by rfl):PA X [e,e1,e2,e3] (jY te (jY t1 (jY t2 (jY t3 Cv)))):=(fo a (fo b (fo c (fo d ir h3) h2) h1) h0)
abbrev bT:=@pv X 0
abbrev cR:=@pv X 1
abbrev dQ:=@pv X 2
abbrev gY:=@pv X 3
abbrev lS:=@pv X 4
abbrev vf:=@pv X 5
abbrev rG:=@pv X 6
abbrev Ig:=@pv X 7
abbrev MC:=@pv X 8
abbrev sC (N:List Str) (k:Nat) (st:Stmt):Prop:=wg N (N.take k) (fD st)
end
end L2
local macro_rules | `(tactic| walk_at "w") => `(tactic| repeat walk_at "rd")
local macro_rules | `(tactic| walk_at "d") => `(tactic| exact ⟨rfl,rfl,rfl,by decide +kernel,rfl,by decide +kernel,by decide +kernel⟩)
namespace Lw
open PySem PySem.Spec PyProof.Rows L2 Nm
abbrev bv (P:Pi):Prop:=P.given.tree=none
local macro_rules | `(tactic| exists $e) => `(tactic| (walk_at "w";refine $e))
local macro_rules | `(tactic| walk_at "n") => `(tactic| (intro vs H Q E h;repeat first|(subst_vars;rfl)|(cases h;subst_vars;rfl)|rcases h with ⟨_,h⟩))
local macro_rules | `(tactic| walk_at "i") => `(tactic| set_option tactic.hygienic false in intros)
local macro_rules | `(tactic| walk_at "s") => `(tactic| refine rg (by dsimp only [WN] <;> rfl) ?_)
local macro_rules | `(tactic| walk_at "d") => `(tactic| exact ⟨rfl, rfl, rfl, by decide +kernel, rfl, by decide +kernel, by decide +kernel⟩)
local macro_rules | `(tactic| walk_at "u") => `(tactic| (change TW (α := Str) (_::_);decide +kernel))
set_option maxHeartbeats 4000000
def top (i:Nat):Stmt:=PySem.Challenge.pw_helmsum_k46_shut_off.main.body.getD i (.Pass #[0,0,0,0])
abbrev xl:Stmt:=top 69
abbrev uM:Stmt:=top 70
abbrev uG:Stmt:=top 65
abbrev xf:Stmt:=top 9
abbrev mB:Stmt:=top 10
abbrev uK:Stmt:=top 12
abbrev Bn:Stmt:=top 16
abbrev qH:Stmt:=top 66
abbrev fk:Stmt:=inClass (top 67) 0
abbrev uI:Stmt:=top 19
abbrev kS:Stmt:=top 11
abbrev nZ:Stmt:=top 18
abbrev sH:Stmt:=top 33
abbrev y7:Stmt:=top 35
abbrev sL:Stmt:=top 34
abbrev Fi:Stmt:=top 36
abbrev Bm:Stmt:=top 13
abbrev yV:Stmt:=top 37
abbrev yU:Stmt:=top 20
abbrev yZ:Stmt:=top 24
abbrev rY:Stmt:=top 47
abbrev qD:Stmt:=top 49
abbrev K6:Stmt:=top 27
abbrev uL:Stmt:=top 48
abbrev rX:Stmt:=top 21
abbrev Bl:Stmt:=top 39
abbrev qF:Stmt:=top 25
abbrev Fj:Stmt:=top 40
abbrev qC:Stmt:=top 43
abbrev Fm:Stmt:=top 14
abbrev uJ:Stmt:=top 17
abbrev iq:Stmt:=inClass (top 67) 1
abbrev Bo:Stmt:=top 45
abbrev qE:Stmt:=top 51
abbrev yY:Stmt:=top 52
abbrev Pw:Stmt:=top 28
abbrev K7:Stmt:=top 53
abbrev yT:Stmt:=top 55
abbrev rW:Stmt:=top 50
abbrev xa:Stmt:=top 22
abbrev nY:Stmt:=top 30
abbrev yX:Stmt:=top 31
abbrev yW:Stmt:=top 41
abbrev qG:Stmt:=top 32
abbrev Fl:Stmt:=top 42
abbrev rZ:Stmt:=top 26
abbrev rV:Stmt:=top 57
abbrev uH:Stmt:=top 58
abbrev oa:Stmt:=top 59
abbrev xc:Stmt:=top 60
abbrev uW:Stmt:=top 106
abbrev oz:Stmt:=top 86
abbrev uX:Stmt:=top 88
abbrev xi:Stmt:=top 71
abbrev qK:Stmt:=top 76
abbrev xh:Stmt:=top 77
abbrev uU:Stmt:=top 82
abbrev xg:Stmt:=top 72
abbrev uQ:Stmt:=top 79
abbrev uP:Stmt:=top 74
abbrev y9:Stmt:=top 81
abbrev sS:Stmt:=top 83
abbrev sR:Stmt:=top 84
abbrev qI:Stmt:=top 89
abbrev qN:Stmt:=top 85
abbrev uV:Stmt:=top 90
abbrev xk:Stmt:=top 78
abbrev y8:Stmt:=top 87
abbrev uS:Stmt:=top 93
abbrev xj:Stmt:=top 94
abbrev uO:Stmt:=top 92
abbrev vd:Stmt:=top 101
abbrev sN:Stmt:=top 91
abbrev va:Stmt:=top 107
abbrev sO:Stmt:=top 108
abbrev sV:Stmt:=top 99
abbrev uN:Stmt:=top 75
abbrev uY:Stmt:=top 73
abbrev sT:Stmt:=top 80
abbrev uZ:Stmt:=top 98
abbrev qM:Stmt:=top 109
abbrev mD:Stmt:=top 95
abbrev qL:Stmt:=top 96
abbrev o9:Stmt:=top 97
abbrev mC:Stmt:=top 105
abbrev qJ:Stmt:=top 103
abbrev uR:Stmt:=top 102
abbrev sP:Stmt:=top 104
abbrev sU:Stmt:=top 100
abbrev sQ:Stmt:=top 110
abbrev Pu:Stmt:=top 111
set_option genInjectivity false in
set_option genSizeOf false in
structure Ads where
 Me:Addr
 LX:dL
 Ki:Addr
 JK:dL
 Kc:Addr
 JD:dL
 L7:Addr
 LP:dL
 zH:Addr
 zC:dL
 Kg:Addr
 JH:dL
 Rm:Addr
 Q1:dL
 Dn:Addr
 C4:dL
 lM:Addr
 lJ:dL
 Ke:Addr
 JF:dL
 yx:Addr
 yt:dL
 An:Addr
 Ai:dL
 HK:Addr
 Gz:dL
 OK:Addr
 Ou:dL
 HL:Addr
 GA:dL
 TN:Addr
 Tx:dL
 Rj:Addr
 Q0:dL
 OF:Addr
 Ol:dL
 OE:Addr
 Oj:dL
 OJ:Addr
 Ot:dL
 Hw:Addr
 Gx:dL
 Dj:Addr
 C0:dL
 Wt:Addr
 Wk:dL
 Kh:Addr
 JJ:dL
 Hv:Addr
 Gv:dL
 Ri:Addr
 QZ:dL
 Dl:Addr
 C2:dL
 TQ:Addr
 Tz:dL
 Di:Addr
 CZ:dL
 TU:Addr
 TC:dL
 Kf:Addr
 JG:dL
 pL:Addr
 pK:dL
 Rn:Addr
 Q2:dL
 Dk:Addr
 C1:dL
 OI:Addr
 Oq:dL
 Yj:Addr
 Yg:dL
 Wu:Addr
 Wl:dL
 OD:Addr
 Oi:dL
 Hu:Addr
 Gu:dL
 L5:Addr
 LM:dL
 Am:Addr
 Ah:dL
 OH:Addr
 Oo:dL
 OG:Addr
 Om:dL
 Dm:Addr
 C3:dL
 TR:Addr
 TB:dL
 HH:Addr
 Gy:dL
 Ht:Addr
 Gn:dL
 Kd:Addr
 JE:dL
 Ao:Addr
 Aj:dL
 L6:Addr
 LN:dL
 Kt:Addr
 JT:dL
 HN:Addr
 GC:dL
 Ku:Addr
 JU:dL
 Mb:Addr
 LS:dL
 Ds:Addr
 C7:dL
 L9:Addr
 LR:dL
 Kr:Addr
 JR:dL
 L8:Addr
 LQ:dL
 Km:Addr
 JO:dL
 Kl:Addr
 JN:dL
 OM:Addr
 Ow:dL
 HU:Addr
 GI:dL
 HS:Addr
 GH:dL
 Dp:Addr
 C5:dL
 Dw:Addr
 Dc:dL
 Ks:Addr
 JS:dL
 Md:Addr
 LV:dL
 OL:Addr
 Ov:dL
 Kq:Addr
 JQ:dL
 Mc:Addr
 LU:dL
 Kk:Addr
 JM:dL
 Kx:Addr
 JX:dL
 HM:Addr
 GB:dL
 vO:Addr
 vH:dL
 tT:Addr
 tL:dL
 HX:Addr
 GS:dL
 Kj:Addr
 JL:dL
 Kv:Addr
 JV:dL
 HV:Addr
 GK:dL
 Kw:Addr
 JW:dL
 Dv:Addr
 C9:dL
 zJ:Addr
 zE:dL
 Dt:Addr
 C8:dL
 Ck:Addr
 Ce:dL
 zI:Addr
 zD:dL
 Dq:Addr
 C6:dL
 Ko:Addr
 JP:dL
 HQ:Addr
 GD:dL
 HW:Addr
 GQ:dL
 HR:Addr
 GG:dL
 UM:Addr
 UL:dL
 a_NOUGHT:Addr
 a_ONE:Addr
 t_MOST_STATES:Tok
 t_MOST_PUTS:Tok
 t_MOST_LOOKS:Tok
 a_System:Addr
structure Txt (K:W.Frag) (mg:Str->Option Value) (Z:Ads):Prop where
 pZ:Df K mg "_law_bag" xl ["_law_script"] Z.Me Z.LX
 aZ:Df K mg "_law_take" uM ["_law_bag_here","_law_many"] Z.Ki Z.JK
 jE:Df K mg "want_list" uG ["thing","at","most"] Z.Kc Z.JD
 nQ:Df K mg "is_whole" xf ["thing"] Z.L7 Z.LP
 fu:Df K mg "common_divisor" mB ["one","other"] Z.zH Z.zC
 oH:Df K mg "is_number" uK ["thing"] Z.Kg Z.JH
 vX:Df K mg "is_row" Bn ["thing","many"] Z.Rm Z.Q1
 iu:Df K mg "copied_rows" qH ["things","wide"] Z.Dn Z.C4
 lK:Binds K Z.lJ ["self","move","put","look"] []
 qi:OX K "__init__" "System.__init__" fk Z.lM Z.lJ
 jF:Df K mg "tops_over" uI ["row","bottom"] Z.Ke Z.JF
 iM:Df K mg "common_multiple" kS ["wholes"] Z.yx Z.yt
 fP:Df K mg "common_bottom" nZ ["row"] Z.An Z.Ai
 mY:Df K mg "first_with" sH ["lines","begin","place"] Z.HK Z.Gz
 tG:Df K mg "cleared" y7 ["lines","at","place","before"] Z.OK Z.Ou
 mZ:Df K mg "brought_up" sL ["lines","at","to"] Z.HL Z.GA
 vv:Df K mg "swept" Fi ["rows","wide"] Z.TN Z.Tx
 mK:Df K mg "lowest" Bm ["top","bottom"] Z.Rj Z.Q0
 pC:Df K mg "reduced" yV ["rows","wide"] Z.OF Z.Ol
 mJ:Df K mg "row_dot" yU ["one","other"] Z.OE Z.Oj
 pF:Df K mg "grid_on" yZ ["grid","row"] Z.OJ Z.Ot
 j5:Df K mg "moved_rows" rY ["system","rows"] Z.Hw Z.Gx
 ju:Df K mg "reach_grown" qD ["system","steps"] Z.Dj Z.C0
 AB:Df K mg "flat" K6 ["lists"] Z.Wt Z.Wk
 oI:Df K mg "additions" uL ["system","steps"] Z.Kh Z.JJ
 ia:Df K mg "nought_row" rX ["many"] Z.Hv Z.Gv
 rz:Df K mg "solved" Bl ["rows","wide","due"] Z.Ri Z.QZ
 fZ:Df K mg "grid_turned" qF ["grid","wide"] Z.Dl Z.C2
 yh:Df K mg "solve" Fj ["rows","wide","due"] Z.TQ Z.Tz
 kZ:Df K mg "weights_for" qC ["rows","wide","row"] Z.Di Z.CZ
 vA:Df K mg "minus" Fm ["one","other"] Z.TU Z.TC
 oG:Df K mg "row_minus" uJ ["one","other"] Z.Kf Z.JG
 uf:WA K Z.a_System "moved" Z.pL
 vK:Binds K Z.pK ["self","state","puts"] []
 vR:OX K "moved" "System.moved" iq Z.pL Z.pK
 vY:Df K mg "course" Bo ["system","start","puts"] Z.Rn Z.Q2
 jv:Df K mg "nothing_for" qE ["system","steps"] Z.Dk Z.C1
 tF:Df K mg "lacking" yY ["system","start","goal","steps"] Z.OI Z.Oq
 FX:Df K mg "cut" Pw ["row","many","wide"] Z.Yj Z.Yg
 AE:Df K mg "come" K7 ["system","start","goal","steps"] Z.Wu Z.Wl
 tz:Df K mg "soonest" yT ["system","start","goal","most"] Z.OD Z.Oi
 mW:Df K mg "reach_rows" rW ["system","steps"] Z.Hu Z.Gu
 pY:Df K mg "unit_row" xa ["many","at"] Z.L5 Z.LM
 jG:Df K mg "leading_place" nY ["row"] Z.Am Z.Ah
 pE:Df K mg "leading" yX ["rows"] Z.OH Z.Oo
 tE:Df K mg "null_at" yW ["rows","wide","at"] Z.OG Z.Om
 jw:Df K mg "free_places" qG ["rows","wide"] Z.Dm Z.C3
 yi:Df K mg "nulls" Fl ["rows","wide"] Z.TR Z.TB
 mX:Df K mg "grid_times" rZ ["one","other","wide"] Z.HH Z.Gy
 mV:Df K mg "taken_over" rV ["system","rows"] Z.Ht Z.Gn
 oF:Df K mg "unsteered" uH ["system"] Z.Kd Z.JE
 fQ:Df K mg "brought_ahead" oa ["things","at"] Z.Ao Z.Aj
 jt:Df K mg "shut_off" xc ["system","goal"] Z.L6 Z.LN
 oQ:Df K mg "_law_long" uW ["_law_bag_here"] Z.Kt Z.JT
 nh:Df K mg "_law_sizes" oz ["_law_bag_here"] Z.HN Z.GC
 oR:Df K mg "_law_line" uX ["_law_bag_here","_law_n"] Z.Ku Z.JU
 eY:Df K mg "_law_low" xi ["_law_top","_law_bottom"] Z.Mb Z.LS
 lB:Df K mg "_law_number" qK ["_law_bag_here","_law_wide"] Z.Ds Z.C7
 iG:Df K mg "_law_row" xh ["_law_bag_here","_law_many","_law_wide"] Z.L9 Z.LR
 oO:Df K mg "_law_move" uU ["_law_bag_here","_law_n","_law_way","_law_first","_law_wide"] Z.Kr Z.JR
 iF:Df K mg "_law_sum" xg ["_law_one","_law_other"] Z.L8 Z.LQ
 jH:Df K mg "_law_plus" uQ ["_law_one","_law_other"] Z.Km Z.JO
 iN:Df K mg "_law_prod" uP ["_law_one","_law_other"] Z.Kl Z.JN
 iO:Df K mg "_law_by" y9 ["_law_by_here","_law_row_here"] Z.OM Z.Ow
 nB:Df K mg "_law_mixed" sS ["_law_bag_here","_law_move_here","_law_put","_law_look"] Z.HU Z.GI
 nA:Df K mg "_law_parts" sR ["_law_bag_here","_law_n","_law_ins","_law_outs","_law_wide"] Z.HS Z.GH
 lh:Df K mg "_law_system" qI ["_law_bag_here"] Z.Dp Z.C5
 iw:Df K mg "_law_copied" qN ["_law_grid"] Z.Dw Z.Dc
 oP:Df K mg "_law_made" uV ["_law_parts_here"] Z.Ks Z.JS
 jx:Df K mg "_law_dot" xk ["_law_one","_law_other"] Z.Md Z.LV
 pG:Df K mg "_law_on" y8 ["_law_grid","_law_row_here"] Z.OL Z.Ov
 oN:Df K mg "_law_next" uS ["_law_parts_here","_law_state","_law_puts_here"] Z.Kq Z.JQ
 nR:Df K mg "_law_end" xj ["_law_parts_here","_law_start","_law_rows"] Z.Mc Z.LU
 oK:Df K mg "_law_puts" uO ["_law_bag_here","_law_parts_here","_law_steps_here","_law_wide"] Z.Kk Z.JM
 lE:Df K mg "_law_goal" vd ["_law_bag_here","_law_parts_here","_law_start","_law_steps_here","_law_wide"] Z.Kx Z.JX
 j6:Df K mg "_law_steps" sN ["_law_bag_here","_law_parts_here"] Z.HM Z.GB
 eX:Df K mg "_law_kept" va ["_law_thing"] Z.vO Z.vH
 ib:Df K mg "_law_spoil" sO ["_law_thing"] Z.tT Z.tL
 nF:Df K mg "_law_added" sV ["_law_parts_here","_law_steps_here"] Z.HX Z.GS
 oJ:Df K mg "_law_quot" uN ["_law_one","_law_other"] Z.Kj Z.JL
 oS:Df K mg "_law_less" uY ["_law_one","_law_other"] Z.Kv Z.JV
 j8:Df K mg "_law_minus" sT ["_law_one","_law_other"] Z.HV Z.GK
 lC:Df K mg "_law_lean" uZ ["_law_rows","_law_wide"] Z.Kw Z.JW
 lF:Df K mg "_law_fewest" qM ["_law_parts_here","_law_goal_here"] Z.Dv Z.C9
 jf:Df K mg "_law_is_number" mD ["_law_thing"] Z.zJ Z.zE
 lD:Df K mg "_law_is_row" qL ["_law_thing","_law_many"] Z.Dt Z.C8
 gQ:Df K mg "_law_is_grid" o9 ["_law_thing","_law_many","_law_wide"] Z.Ck Z.Ce
 je:Df K mg "_law_rows_well" mC ["_law_rows","_law_weights","_law_n"] Z.zI Z.zD
 lA:Df K mg "_law_summed" qJ ["_law_weights","_law_rows","_law_n"] Z.Dq Z.C6
 oM:Df K mg "_law_over" uR ["_law_parts_here","_law_row_here"] Z.Ko Z.JP
 nk:Df K mg "_law_shuts" sP ["_law_parts_here","_law_goal_here","_law_rows","_law_weights"] Z.HQ Z.GD
 nC:Df K mg "_law_leads" sU ["_law_parts_here","_law_start","_law_goal_here","_law_steps_here","_law_puts_here"] Z.HW Z.GQ
 j7:Df K mg "_law_right" sQ ["_law_system_here","_law_parts_here","_law_goal_here"] Z.HR Z.GG
 UP:OX K "law" "law" Pu Z.UM Z.UL
 abs:mg "abs"=none
 len:mg "len"=none
 isinstance:mg "isinstance"=none
 list:mg "list"=none
 int:mg "int"=none
 bool:mg "bool"=none
 tuple:mg "tuple"=none
 all:mg "all"=none
 enumerate:mg "enumerate"=none
 range:mg "range"=none
 zip:mg "zip"=none
 sum:mg "sum"=none
 reversed:mg "reversed"=none
 min:mg "min"=none
 max:mg "max"=none
 mg_NOUGHT:mg "NOUGHT"=some (.ref Z.a_NOUGHT)
 sq_NOUGHT:∀H,jN K H Z.a_NOUGHT [.int 0,.int 1]
 mg_ONE:mg "ONE"=some (.ref Z.a_ONE)
 sq_ONE:∀H,jN K H Z.a_ONE [.int 1,.int 1]
 mg_MOST_STATES:mg "MOST_STATES"=some (.int 8 Z.t_MOST_STATES)
 mg_MOST_PUTS:mg "MOST_PUTS"=some (.int 4 Z.t_MOST_PUTS)
 mg_MOST_LOOKS:mg "MOST_LOOKS"=some (.int 4 Z.t_MOST_LOOKS)
 mg_System:mg "System"=some (.ref Z.a_System)
 cl_System:OY K Z.a_System
 na_move:lO K Z.a_System "move"
 na_states:lO K Z.a_System "states"
 na_put:lO K Z.a_System "put"
 na_ins:lO K Z.a_System "ins"
 na_look:lO K Z.a_System "look"
 na_outs:lO K Z.a_System "outs"
 mk_System:Mk K Z.a_System Z.lM
section
variable {P:Pi} {w:Uf} {K:W.Frag} {mg:Str->Option Value} {base:Heap} {Z:Ads}
theorem IY:sC ["_law_script"] 1 xl:=by walk_at "d"
theorem Jl (T:Txt K mg Z) (bn:bv P):T.pZ.o P w base 1 (Pp K):=by
 refine T.pZ.F.k IY ?_;walk_at "i";obtain a|ns|rfl|hS|hlen|k:=h;refine #[_,(ay (aS (dC (Jg ak ak ak (bW ["_law_cell"] [] [] (cM (rh E4 bT xV (sW ak))) (λ_=>(eK 0)) (λ_=>b6) (λ_=>(bg yu (by rfl) T.abs Zg (c9 bT)))))))),?_];walk_at "s"
 try rw[gP]
 exists #[a,_,rfl,hS,λl hl=>?_];have hcl:(uu (ns.map V.int) none (some 63)).9<=63:=ag (zV _ _ _) (by simpa using hlen);refine #[l,rfl,#[_,bI.of aN],?_];refine gR (K:=K) (a:=l) (xs:=uu (ns.map V.int) none (some 63)) (λi ys H'=>H'=upd H l (.lst (uu (ns.map V.int) none (some 63)))/\∃cs:List Int,ys=cs.map V.int/\∀x∈cs,0<=x) (ag hcl ()) #[rfl,[],rfl,λ_ z=>nomatch z] (λi ys H' _ #[e,_]=>by subst e;exact bI.of aN) ?_ ?_
 ·rintro i x ys H' hx hi ⟨rfl,cs,rfl,hcs⟩
  obtain ⟨z,rfl⟩:∃z,x=V.int z:=by
   have hm:x∈ns.map V.int:=EL (cw (ar hx));obtain z|_|e:=aB.mp hm;exact #[z,e.symm]
  exists #[rfl,cs++[if z < 0 then -z else z],by simp,λx hx=>?_];rcases av.mp hx with hx | hx
  ·exact hcs x hx
  ·have e:x=if z < 0 then -z else z:=by simpa using hx
   subst e
   split <;> lia
 ·rintro ys H' hy ⟨rfl,cs,rfl,hcs⟩ p hp;exists #[by show 4<=ww;decide,λb hb=>?_];have n1:b≠p:=λz=>by rw[z,aN] at hb;cases hb
  have hb1:(upd H l (.lst (uu (ns.map V.int) none (some 63)))) b=none:=by rw[bG n1] at hb;exact hb
  have s1:aH H (upd H l (.lst (uu (ns.map V.int) none (some 63)))):=aH.new hl;refine k b _ (s1.free hb1) #[p,0,1234567891,0,cs,aN,by rw[bG n1.symm];exact aN,(),(),(),hcs] ((s1.trans (aH.new hp)).trans (aH.new hb))
theorem fG:sC ["_law_bag_here","_law_many","_law_more","_law_cell","_law_value","_law_first","_law_second"] 2 uM:=by walk_at "d"
theorem bp (T:Txt K mg Z) (bn:bv P):T.aZ.o P w base 1 RZ:=by
 refine T.aZ.F.k fG ?_;walk_at "i";obtain p|n|rfl|⟨q,a,b,c,cs,hp,hq,ha,hc,hcl,hcs⟩|hn|hn2|k:=h;have nqp:q≠p:=Oz hp hq
 refine #[_,(jC (cY (bf fq (aY bV bT ak) ak (br _)) (au (eP 2 fG.nd ak)
  (jC (cY (bf vm (aY bV bT ak) (bg aU (by rfl) T.len aP (c9 (aY bV bT ak))) (br _)) (au (eP 3 fG.nd (aY bV (aY bV bT ak) (aY bV bT ak)))
  (au (S5 bT ak QC ak V6 set_list)
  (au (cY (bf D6 gY ak (br _)) (ay (gO gY (iK bT ak set_list))) bN)
  (ay (eP 2 fG.nd (bD fz (bD qR gY ak) ak)))))) bN)
  (ay (gO (bD qR (bD fz (bD dn (aY bV bT ak) ak) dQ) ak) (iK bT ak set_list))))) bN)
  (au (cY (bf wI (aY bV bT ak) ak (br _)) (au (eP 4 fG.nd (bD qR (aY bV bT ak) cR))
  (au (gO (bD (j4 rfl fG rfl rfl rfl bn (wQ hr)) (aY bV bT ak) cR) (iK bT ak set_list))
  (ay (aS lS)))) bN)
  (au (eP 5 fG.nd (bD qR (bD dn (aY bV bT ak) ak) ak))
  (au (eP 6 fG.nd (bD qR (bD dn vf ak) ak))
  (au (cY (bf wI cR ak (br _)) (ay (aS (bD qR (bD fz (bD dn rG ak) vf) cR))) bN)
  (ay (aS (bD qR (bD (j4 rfl fG rfl rfl rfl bn (wQ hr)) rG ak) cR)))))))),?_]
 walk_at "s"
 try rw[gP]
 refine #[λσ' H'=>∃(x y:Option V) (a' b' c':Int),σ'=[some (.ref p),some (.int n),x,y,none,none,none]/\H' p=some (.lst [.int a',.int b',.int c',.ref q])/\0<=a'/\0<=c'/\c'<=cs.9/\dk p H H',?_,?_]
 ·exists iT (λh0=>?_) (λh0=>?_)
  ·exists #[λσ' H'=>∃(m:Int) (y:Option V) (a' c':Int),σ'=[some (.ref p),some (.int n),some (.int m),y,none,none,none]/\H' p=some (.lst [.int a',.int b,.int c',.ref q])/\0<=a'/\0<=c'/\c'<=cs.9/\dk p H H',?_,?_]
   ·exists #[_,_,rfl,.inl (bI.of hq),?_];exists iT (λh1=>?_) (λh1=>?_)
    ·have h1':c < cs.9:=by simpa using of_decide_eq_true h1
     obtain ⟨z,hz⟩:∃z,cs[c.toNat]?=some z:=#[_,ae ()];have hz0:0<=z:=hcs z (ar hz);exists ck (bI.of hq) (v:=.int z) ?_ ?_
     ·have:=eG (xs:=cs.map V.int) (j:=c.toNat) (v:=.int z) (by rw[aA,hz];rfl);rwa [Int.toNat_of_nonneg hc] at this
     exists iT (λh2=>?_) (λh2=>?_)
     ·exists #[_,_,z,c+1,rfl,aN,hz0,(),(),(dk.set hp).trans (dk.set aN)]
     ·exists #[_,_,a,c+1,rfl,aN,ha,(),(),dk.set hp]
    ·exists #[_,_,a,c,rfl,hp,ha,hc,hcl,dk.refl _]
   ·rintro σ' H' ⟨m,y,a',c',rfl,hp',ha',hc',hcl',u'⟩;exists #[_,_,a',_,c',rfl,aN,ha',hc',hcl',u'.trans (dk.set hp')]
  ·exists #[_,_,a,b,c,rfl,hp,ha,hc,hcl,dk.refl _]
 ·rintro σ' H' ⟨x,y,a',b',c',rfl,hp',ha',hc',hcl',u'⟩;have hq':H' q=some (.lst (cs.map V.int)):=u'.1 q _ hq nqp
  have sn:Sz 8999000 n:=by
   show n.natAbs < 2^8999000
   exact bL (show n.natAbs < 2^64 by lia) (aj () ())
  exists iT (λh0=>?_) (λh0=>?_)
  ·exists gZ (show (0:Int) < n from hn) ?_;exists gZ (show rE _ _ from #[(),sn]) ?_;exists k _ _ (oW _ ()) (kg _ hn) #[q,_,b',c',cs,aN,by rw[bG nqp];exact hq',?_,hc',hcl',hcs] (u'.trans (dk.set hp'));rw[cP _ ()];exact Int.ediv_nonneg ha' ()
  ·exists iT (λh1=>?_) (λh1=>?_)
   ·exists gZ (show (0:Int) < n from hn) ?_;exact k _ _ (oW _ ()) (kg _ hn) #[q,a',b',c',cs,hp',hq',ha',hc',hcl',hcs] u'
   ·exists gZ (show rE _ _ from #[(),by show (3:Nat) < 2^8999000;exact bL (show 3 < 2^2 by decide) (aj () ())]) ?_;exists gZ (show (0:Int) < n from hn) ?_;exact k _ _ (oW _ ()) (kg _ hn) #[q,a',b',c',cs,hp',hq',ha',hc',hcl',hcs] u'
theorem E5:sC ["thing","at","most"] 3 uG:=by walk_at "d"
theorem td (T:Txt K mg Z) (bn:bv P):T.jE.o P w base 1 Ms:=by
 refine T.jE.F.k E5 ?_;walk_at "i";obtain p|xs|a|m|rfl|gx|hm|k:=h
 refine #[_,(au (cY (iY (fJ (qP rfl T.isinstance wv T.list bT))) (ay P0) bN)
  (ay (cY (bf wI (bg aU (by rfl) T.len aP (c9 bT)) dQ (br _)) (ay P0) bN))),?_]
 walk_at "s"
 try rw[gP]
 exists #[_,_,.lst gx,rfl,?_];exists #[_,_,rfl,.inl (bI.of gx),?_];walk_at "w";rw[decide_eq_false (show ¬m < (xs.9:Int) by lia)];exists k
theorem IV:sC ["thing"] 1 xf:=by walk_at "d"
theorem zQ (T:Txt K mg Z) (bn:bv P):T.nQ.o P w base 1 Nr:=by
 refine T.nQ.F.k IV ?_;walk_at "i";obtain i|rfl|k:=h;refine #[_,(ay (aS (Fu (qP rfl T.isinstance Db T.int bT) (Fs (VN (qP rfl T.isinstance PyProof.Rows.boot_bool T.bool bT)))))),?_];walk_at "s"
 try rw[gP]
 exists #[_,_,.int i,rfl,?_];exists #[_,_,.int i,rfl,?_];exists k
theorem jb:sC ["one","other","rest"] 2 mB:=by walk_at "d"
theorem kY (T:Txt K mg Z) (bn:bv P):T.fu.o P w base 1 Xn:=by
 refine T.fu.F.k jb ?_;walk_at "i";obtain a|b|rfl|k:=h
 refine #[_,(au (Bv r0 (bf ue cR ak (br _))
   (au (eP 2 jb.nd (bD Ta bT cR))
  (au (eP 0 jb.nd cR)
  (ay (eP 1 jb.nd dQ)))))
  (ay (aS (bg yu (by rfl) T.abs Zg (c9 bT))))),?_]
 walk_at "s"
 try rw[gP]
 exists ER (λσ' H'=>∃(u v:Int) (r:Option V),σ'=[some (.int u),some (.int v),r]/\H'=H/\IR u v=IR a b) (λσ' _=>match σ' with | [_,some (.int v),_]=>v.natAbs | _=>0) #[a,b,none,rfl,rfl,rfl] ?_;rintro σ' H' ⟨u,v,r,rfl,rfl,hg⟩;exists iT (λh=>?_) (λh=>?_)
 ·have hv:v≠0:=λz=>by subst z;simp at h
  exists gZ (show v≠0 from hv) ?_;exists #[#[v,u.fmod v,_,rfl,rfl,(QF u v).trans hg],Tt u v hv]
 ·have hv:v=0:=by
   by_cases z:v=0
   ·exact z
   ·exfalso;apply h;simp [z]
  subst hv;walk_at "w"
  have e:(if u < 0 then -u else u)=g a b:=by
   unfold g;rw[<- hg,Int.gcd_zero_right]
   split <;> lia
  rw[e];exact k
theorem E7:sC ["thing"] 1 uK:=by walk_at "d"
theorem FD (T:Txt K mg Z) (bn:bv P):T.oH.o P w base 2 (Nw K):=by
 refine T.oH.F.k E7 ?_;walk_at "i";obtain x|n|rfl|⟨p,rfl,hp⟩|hn|k:=h
 refine #[_,(au (cY (PW.pt (lZ (iY (fJ (sY rfl T.isinstance Id T.tuple bT))) (jq (bf ue (bg aU (by rfl) T.len aP (c9 bT)) ak (br _))))) (ay (aS ma)) bN)
  (au (cY (PW.pt (lZ (iY (fJ (cN (zQ T bn) hr T.nQ (c9 (aY bH bT ak))))) (jq (iY (fJ (cN (zQ T bn) hr T.nQ (c9 (aY bH bT ak)))))))) (ay (aS ma)) bN)
  (ay (aS (Fu (iL D6 (aY bH bT ak) ak (br _)) (Fs (iL fq (cN (kY T bn) hr T.fu (cQ (aY bH bT ak) (aY bH bT ak))) ak (br _)))))))),?_]
 walk_at "s"
 try rw[gP]
 obtain hb|hg|s1|s2:=hn;exists .inr #[p,_,_,rfl,hp,rfl,?_];exists #[_,_,rfl,.inr hp,?_];walk_at "w"
 try refine Tq ?_
 exists #[n.1,rfl,?_];exists #[n.2,rfl,?_];walk_at "w";rw[decide_eq_true (show (1:Int)<=n.2 by lia)];exists #[n.1,n.2,rfl,?_];walk_at "w";have e:g n.1 n.2=1:=by unfold g;rw[hg];rfl
 rw[e,decide_eq_true rfl];exact k _ (aH.refl _)
theorem NB:sC ["thing","many"] 2 Bn:=by walk_at "d"
theorem NR (T:Txt K mg Z) (bn:bv P):T.vX.o P w base 3 (yO K):=by
 refine T.vX.F.k NB ?_;walk_at "i";obtain p|ns|rfl|hp|hl|hn|k:=h
 refine #[_,(au (cY (PW.pt (lZ (iY (fJ (qP rfl T.isinstance wv T.list bT))) (jq (bf ue (bg aU (by rfl) T.len aP (c9 bT)) cR (br _))))) (ay (aS ma)) bN)
  (ay (aS (bg (Ci rfl) (by rfl) T.all PyProof.Rows.boot_all (c9 (bW ["value"] [] [] (cM bT) (λ_=>(eK 0)) (λ_=>b6) (λ_=>(cN (FD T bn) hr T.oH (c9 bT))))))))),?_]
 walk_at "s"
 try rw[gP]
 obtain xs|gx|qx:=id hp;have lx:=qx.9;exists #[_,_,.lst gx,rfl,?_];exists #[_,_,rfl,.inl (bI.of gx),?_];walk_at "w";rw[show ((xs.9:Nat):Int)=(ns.9:Nat) by rw[lx],decide_eq_true rfl];exists #[#[_,bI.of gx],?_];refine gR (K:=K) (xs:=xs) (λi ys H'=>aH H H'/\ys=ce i (.bl true)) lV #[aH.refl _,rfl] (λi ys H' _ #[s,_]=>bI.of (s _ _ gx)) ?_ ?_
 ·rintro i x ys H' hx hlen ⟨s,rfl⟩;obtain n|en|z:=cv qx hx;exists #[x,n,rfl,s.num z,hn n (ar en),λH2 s2=>#[s.trans s2,by rw[uq]]]
 ·rintro ys H' hy ⟨s,rfl⟩ l hl';exists #[l,ce xs.9 true,rfl,bI.of (by rw[aN];simp),?_];have e4:(ce xs.9 true).all id=true:=by simp
  rw[e4];exact k _ (s.trans (aH.new hl'))
theorem o7:sC ["things","wide","place","thing"] 2 qH:=by walk_at "d"
theorem pz (T:Txt K mg Z) (bn:bv P):T.iu.o P w base 4 (Mw K):=by
 refine T.iu.F.k o7 ?_;walk_at "i";obtain p|H0|rows|w|rfl|hp|hl|hw|hn|k:=h
 refine #[_,(au (eC r0 rfl (Fp rfl T.enumerate (c9 bT)) (xn rfl (cW (eK 2 o7.nd) (cW (eK 3 o7.nd) jd)))
   (ay (cY (iY (fJ (cN (NR T bn) hr T.vX (cQ gY cR)))) (ay P0) bN)))
  (ay (aS (bW ["row"] [] [] (cM bT) (λ_=>(eK 0)) (λ_=>b6) (λ_=>(eJ (iW K (by rfl)) (by rfl) T.list wv (c9 bT))))))),?_]
 walk_at "s"
 try rw[gP]
 obtain xs|gx|qx|_:=id hp;exists #[#[_,bI.of gx],?_];refine QK (K:=K) (l:=p) (xs:=xs) (λi σ' H'=>aH H H'/\∃x y,σ'=[some (.ref p),some (.int w),x,y]) #[aH.refl _,none,none,rfl] (λi σ' H' _ #[s,_]=>bI.of (s _ _ gx)) ?_ ?_
 ·rintro i x σ' H' t hx ⟨s,x1,y1,rfl⟩ ht;obtain qs|eq|q|rfl|_|Rq:=cv qx hx;have hm:=ar eq;have st:aH H' (upd H' t (.tup [.int i,.ref q])):=aH.new ht;have gt:(upd H' t (.tup [.int i,.ref q])) t=some (.tup [.int i,.ref q]):=aN;have s2:=s.trans st;generalize upd H' t (.tup [.int i,.ref q])=H2 at st gt s2 ⊢;have lq:(qs.map nm).9=w:=by rw[af];exact (hn qs hm).1
  exists #[q,_,by rw[lq],(Rq.same s2).rowK,by rw[lq];exact hw,λn hn'=>?_,λH3 s3=>?_]
  ·obtain y|hy|rfl:=aB.mp hn';exact (hn qs hm).2 y hy
  exists #[s2.trans s3,_,_,rfl]
 ·rintro σ' H' ⟨s,x1,y1,rfl⟩;exists #[#[_,bI.of (s _ _ gx)],?_];refine df (K:=K) (F:=c5 K H0) (c5 K H) id (s _ _ gx) (ca (λ_ _ z=>z.same s) qx) hl (λa b=>a.same b) (λa b=>a.same b) ?_ ?_
  ·rintro i ns x H2 NY NN en s2 ⟨u,rfl,_,zs,gz,qz⟩ k1;exists #[u,zs,rfl,.inl (bI.of gz),λl1 hl1=>?_];exact k1 _ _ (aH.new hl1) #[l1,rfl,s.none (s2.none hl1),zs,aN,ca (λ_ _ z=>z.same (aH.new hl1)) qz]
  ·rintro ys' H2 r hr s2 g pr nx;rw[jh] at pr nx;exact k r H2 (s.none hr) (s.trans s2) #[ys',g,pr,iS nx]
theorem w5:sC ["self","move","put","look"] 4 fk:=by walk_at "d"
theorem pB (T:Txt K mg Z) (bn:bv P):qW P w K mg base KD 5 Z.lM Z.lJ ["self","move","put","look"] (Mt K Z.a_System):=by
 refine T.qi.k w5 ?_;walk_at "i";obtain x|dx|p|q|r|Hb|H0|H1|H2|mv|pt|lk|rfl|nx|ndx|nex|rfl|gp|gq|gr|D|om|op|ol|k:=h
 refine #[_,(au (jc (cN (td T bn) hr T.jE (sZ cR ak (mT (v:=.int 8) rfl T.mg_MOST_STATES #[_,rfl]))))
  (au (za bT (cN (pz T bn) hr T.iu (cQ cR (bg aU (by rfl) T.len aP (c9 cR)))) rfl)
  (au (za bT (bg aU (by rfl) T.len aP (c9 (hJ bT rfl))) rfl)
  (au (jc (cN (td T bn) hr T.jE (sZ dQ ak (mT (v:=.int 4) rfl T.mg_MOST_PUTS #[_,rfl]))))
  (au (za bT (cN (pz T bn) hr T.iu (cQ dQ (hJ bT rfl))) rfl)
  (au (za bT (bg aU (by rfl) T.len aP (c9 (hJ bT rfl))) rfl)
  (au (jc (cN (td T bn) hr T.jE (sZ gY ak (mT (v:=.int 4) rfl T.mg_MOST_LOOKS #[_,rfl]))))
  (au (za bT (cN (pz T bn) hr T.iu (cQ gY (hJ bT rfl))) rfl)
  (ay (za bT (bg aU (by rfl) T.len aP (c9 (hJ bT rfl))) rfl)))))))))),?_]
 walk_at "s"
 try rw[gP]
 have s0:aH Hb (upd (upd Hb dx (.own x)) x (.ins Z.a_System dx [])):=λb o e=>by
  rw[bG (hZ e nx),bG (hZ e ndx)];exact e
 have hx:(upd (upd Hb dx (.own x)) x (.ins Z.a_System dx [])) x=some (.ins Z.a_System dx []):=aN;have back:∀{b},(upd (upd Hb dx (.own x)) x (.ins Z.a_System dx [])) b=none->Hb b=none:=λh=>s0.none h
 generalize upd (upd Hb dx (.own x)) x (.ins Z.a_System dx [])=Ha at s0 hx back ⊢;obtain xs|gx|qx|_:=id gp;obtain ys|gy|qy|_:=id gq;obtain zs|gz|qz|_:=id gr;have lx:=qx.9;have ly:=qy.9;have lz:=qz.9;have d1:=D.n8;have d2:=D.i4;have d3:=D.o4;exists #[p,xs,0,8,rfl,s0 _ _ gx,(),?_];exists #[_,_,rfl,.inl (bI.of (s0 _ _ gx)),?_];exists #[p,H0,mv,mv.9,by rw[lx],gp.same s0,(),(),λws hw=>#[D.mw ws hw,om ws hw],λa H3 na s3 Ga=>?_];have hx3:=s3 _ _ hx;exists #[x,Z.a_System,dx,_,rfl,hx3,T.cl_System,T.na_move,(by show 0 < 1000;decide),?_];have e3:Ic x H3 (upd H3 x (.ins Z.a_System dx (cO "move" (.ref a) []))):=Ic.upd;have i3:wV H3 x:=#[_,_,_,hx3];have hx4:(upd H3 x (.ins Z.a_System dx (cO "move" (.ref a) []))) x=some (.ins Z.a_System dx (cO "move" (.ref a) [])):=aN;have Ga4:=Ga.exc e3 i3;have k4:aH Hb (upd H3 x (.ins Z.a_System dx (cO "move" (.ref a) []))):=(s0.trans s3).after nx;generalize upd H3 x (.ins Z.a_System dx (cO "move" (.ref a) []))=H4 at e3 hx4 Ga4 k4 ⊢;exists #[x,Z.a_System,dx,_,_,rfl,hx4,T.cl_System,T.na_move,(by rw[bQ,if_pos rfl]),?_];obtain as|ga|qa|_:=id Ga4;have la:=qa.9;exists #[_,_,rfl,.inl (bI.of ga),?_];exists #[x,Z.a_System,dx,_,rfl,hx4,T.cl_System,T.na_states,bx fA (by show 1 < 1000;decide),?_];rw[show ((as.9:Nat):Int)=((mv.9:Nat):Int) by rw[la]];have e4:Ic x H4 (upd H4 x (.ins Z.a_System dx (cO "states" (.int mv.9) (cO "move" (.ref a) [])))):=Ic.upd;have i4:wV H4 x:=#[_,_,_,hx4];have hx5:(upd H4 x (.ins Z.a_System dx (cO "states" (.int mv.9) (cO "move" (.ref a) [])))) x=some (.ins Z.a_System dx (cO "states" (.int mv.9) (cO "move" (.ref a) []))):=aN;have Ga5:=Ga4.exc e4 i4;have k5:aH Hb (upd H4 x (.ins Z.a_System dx (cO "states" (.int mv.9) (cO "move" (.ref a) [])))):=k4.after nx;generalize upd H4 x (.ins Z.a_System dx (cO "states" (.int mv.9) (cO "move" (.ref a) [])))=H5 at e4 hx5 Ga5 k5 ⊢;clear e3 e4 i3 i4 hx4 Ga4 ga qa;exists #[q,ys,1,4,rfl,k5 _ _ gy,(),?_];exists #[x,Z.a_System,dx,_,_,rfl,hx5,T.cl_System,T.na_states,(by rw[bQ,if_pos rfl]),?_];exists #[q,H1,pt,mv.9,rfl,gq.same k5,(),(),λws hw=>#[D.pw ws hw,op ws hw],λb H6 nb s6 Gb=>?_];have hx6:=s6 _ _ hx5;have i6:wV H6 x:=#[_,_,_,hx6];exists #[x,Z.a_System,dx,_,rfl,hx6,T.cl_System,T.na_put,bx fA (bx (d9 fA) (by show 2 < 1000;decide)),?_];have e6:Ic x H6 (upd H6 x (.ins Z.a_System dx (cO "put" (.ref b) (cO "states" (.int mv.9) (cO "move" (.ref a) []))))):=Ic.upd;have hx7:(upd H6 x (.ins Z.a_System dx (cO "put" (.ref b) (cO "states" (.int mv.9) (cO "move" (.ref a) []))))) x=some (.ins Z.a_System dx (cO "put" (.ref b) (cO "states" (.int mv.9) (cO "move" (.ref a) [])))):=aN;have Ga7:=(Ga5.same s6).exc e6 i6;have Gb7:=(Gb.weak k5).exc e6 i6;have k7:aH Hb (upd H6 x (.ins Z.a_System dx (cO "put" (.ref b) (cO "states" (.int mv.9) (cO "move" (.ref a) []))))):=(k5.trans s6).after nx;generalize upd H6 x (.ins Z.a_System dx (cO "put" (.ref b) (cO "states" (.int mv.9) (cO "move" (.ref a) []))))=H7 at e6 hx7 Ga7 Gb7 k7 ⊢;obtain bs|gb|qb|_:=id Gb7;have lb:=qb.9;exists #[x,Z.a_System,dx,_,_,rfl,hx7,T.cl_System,T.na_put,(by rw[bQ,if_pos rfl]),?_];exists #[_,_,rfl,.inl (bI.of gb),?_];exists #[x,Z.a_System,dx,_,rfl,hx7,T.cl_System,T.na_ins,bx fA (bx (d9 (ag fA (d9 fA))) (by show 3 < 1000;decide)),?_];rw[show ((bs.9:Nat):Int)=((pt.9:Nat):Int) by rw[lb]];have i7:wV H7 x:=#[_,_,_,hx7];have e7:Ic x H7 (upd H7 x (.ins Z.a_System dx (cO "ins" (.int pt.9) (cO "put" (.ref b) (cO "states" (.int mv.9) (cO "move" (.ref a) [])))))):=Ic.upd;have hx8:(upd H7 x (.ins Z.a_System dx (cO "ins" (.int pt.9) (cO "put" (.ref b) (cO "states" (.int mv.9) (cO "move" (.ref a) [])))))) x=some (.ins Z.a_System dx (cO "ins" (.int pt.9) (cO "put" (.ref b) (cO "states" (.int mv.9) (cO "move" (.ref a) []))))):=aN;have Ga8:=Ga7.exc e7 i7;have Gb8:=Gb7.exc e7 i7;have k8:aH Hb (upd H7 x (.ins Z.a_System dx (cO "ins" (.int pt.9) (cO "put" (.ref b) (cO "states" (.int mv.9) (cO "move" (.ref a) [])))))):=k7.after nx;generalize upd H7 x (.ins Z.a_System dx (cO "ins" (.int pt.9) (cO "put" (.ref b) (cO "states" (.int mv.9) (cO "move" (.ref a) [])))))=H8 at e7 hx8 Ga8 Gb8 k8 ⊢;clear e6 e7 i6 i7 hx7 Ga7 Gb7 gb qb;exists #[r,zs,2,4,rfl,k8 _ _ gz,(),?_];exists #[x,Z.a_System,dx,_,_,rfl,hx8,T.cl_System,T.na_states,(by rw[bQ,if_neg (by decide +kernel),bQ,if_neg (by decide +kernel),bQ,if_pos rfl]),?_];exists #[r,H2,lk,mv.9,rfl,gr.same k8,(),(),λws hw=>#[D.lw ws hw,ol ws hw],λc H9 nc s9 Gc=>?_];have hx9:=s9 _ _ hx8;have i9:wV H9 x:=#[_,_,_,hx9];exists #[x,Z.a_System,dx,_,rfl,hx9,T.cl_System,T.na_look,bx fA (bx (d9 (ag fA (d9 (ag fA (d9 fA))))) (by show 4 < 1000;decide)),?_];have e9:Ic x H9 (upd H9 x (.ins Z.a_System dx (cO "look" (.ref c) (cO "ins" (.int pt.9) (cO "put" (.ref b) (cO "states" (.int mv.9) (cO "move" (.ref a) []))))))):=Ic.upd;have hxA:(upd H9 x (.ins Z.a_System dx (cO "look" (.ref c) (cO "ins" (.int pt.9) (cO "put" (.ref b) (cO "states" (.int mv.9) (cO "move" (.ref a) []))))))) x=some (.ins Z.a_System dx (cO "look" (.ref c) (cO "ins" (.int pt.9) (cO "put" (.ref b) (cO "states" (.int mv.9) (cO "move" (.ref a) [])))))):=aN;have GaA:=(Ga8.same s9).exc e9 i9;have GbA:=(Gb8.same s9).exc e9 i9;have GcA:=(Gc.weak k8).exc e9 i9;have kA:aH Hb (upd H9 x (.ins Z.a_System dx (cO "look" (.ref c) (cO "ins" (.int pt.9) (cO "put" (.ref b) (cO "states" (.int mv.9) (cO "move" (.ref a) []))))))):=(k8.trans s9).after nx;generalize upd H9 x (.ins Z.a_System dx (cO "look" (.ref c) (cO "ins" (.int pt.9) (cO "put" (.ref b) (cO "states" (.int mv.9) (cO "move" (.ref a) []))))))=HA at e9 hxA GaA GbA GcA kA ⊢;obtain cs|gc|qc|_:=id GcA;have lc:=qc.9;exists #[x,Z.a_System,dx,_,_,rfl,hxA,T.cl_System,T.na_look,(by rw[bQ,if_pos rfl]),?_];exists #[_,_,rfl,.inl (bI.of gc),?_];exists #[x,Z.a_System,dx,_,rfl,hxA,T.cl_System,T.na_outs,bx fA (bx (d9 (ag fA (d9 (ag fA (d9 (ag fA (d9 fA))))))) (by show 5 < 1000;decide)),?_];rw[show ((cs.9:Nat):Int)=((lk.9:Nat):Int) by rw[lc]];have iA:wV HA x:=#[_,_,_,hxA];exact k _ (kA.after nx) #[dx,a,b,c,aN,back na,k5.none nb,k8.none nc,(GaA.exc Ic.upd iA).weak s0,GbA.exc Ic.upd iA,GcA.exc Ic.upd iA]
theorem xK:sC ["row","bottom"] 2 uI:=by walk_at "d"
theorem tu (T:Txt K mg Z) (bn:bv P):T.jF.o P w base 1 (Iv K):=by
 refine T.jF.F.k xK ?_;walk_at "i";obtain p|ns|M|B|rfl|hp|hl|hz|hB|sB|q:=h;refine #[_,(ay (aS (bW ["value"] ["bottom"] [1] (cM bT) (λ_=>(eK 0)) (λ_=>b6) (λ_=>(bD dn (aY (p9 K (by rfl)) bT ak) (bD (j4 rfl xK rfl rfl rfl bn (wQ hr)) cR (aY (p9 K (by rfl)) bT ak))))))),?_];walk_at "s"
 try rw[gP]
 obtain xs|gx|qx:=id hp;have lx:=qx.9;exists #[#[_,bI.of gx],?_];refine gR (K:=K) (xs:=xs) (λi ys H'=>H'=H/\ys=(ie (ns.take i) B).map V.int) lV #[rfl,rfl] (λi ys H' _ #[e,_]=>by subst e;exact bI.of gx) ?_ ?_
 ·rintro i x ys H' hx hlen ⟨rfl,rfl⟩;obtain n|en|r|rfl|hr1:=cv qx hx;have nz:=hz.2.2 n (ar en);have sn:Sz 4400000 n.2:=Ge hz.1 nz.2.1 hz.2.1;exists gZ (show rE _ _ from #[(),sn.mono ()]) ?_;rw[cP _ ()]
  have sq:Sz 4400000 (B / n.2):=sB.le (by
   rw[WM ()];exact Nat.div_le_self ..)
  exists gZ (show iH _ _ from .inr #[_,_,nz.2.2,sq,()]) ?_;exact #[rfl,by rw[take_snoc en];simp [ie]]
 ·rintro ys H' hy ⟨rfl,rfl⟩ l hl';exact q l _ hl' (aH.new hl') (by rw[aN,aM ()])
theorem fY:sC ["wholes","multiple","whole"] 1 kS:=by walk_at "d"
theorem xv (T:Txt K mg Z) (bn:bv P):T.iM.o P w base 2 (Pl K):=by
 refine T.iM.F.k fY ?_;walk_at "i";obtain p|bs|M|rfl|hp|hM|sM|hb|q:=h
 refine #[_,(au (eP 1 fY.nd ak)
  (au (eC r0 rfl (cM bT) (eK 2 fY.nd)
   (ay (eP 1 fY.nd (bD dn cR (bD (j4 rfl fY rfl rfl rfl bn (wQ hr)) dQ (cN (kY T bn) hr T.fu (cQ cR dQ)))))))
  (ay (aS cR)))),?_]
 walk_at "s"
 try rw[gP]
 exists #[#[_,hp],?_];refine jy (K:=K) (a:=p) (xs:=bs.map V.int) (λi σ' H'=>H'=H/\∃x,σ'=[some (.ref p),some (.int (zv (bs.take i) 1)),x]) #[rfl,none,rfl] (λi σ' H' _ #[e,_]=>by subst e;exact hp) ?_ ?_
 ·rintro i x σ' H' hx ⟨rfl,y,rfl⟩;rw[aA] at hx
  obtain ⟨b,eb,rfl⟩:∃b,bs[i]?=some b/\x=.int b:=by
   cases e:bs[i]? with
   | none=>rw[e] at hx;cases hx
   | some b=>rw[e] at hx;cases hx;exact #[b,rfl,rfl]
  have b1:=hb b (ar eb);have sb:Sz 4400000 b:=Ge hM b1.2 sM;have ht:∀c∈bs.take i,0 < c/\c∣M:=λc hc=>hb c (cw hc)
  have msz:Sz 4400000 (zv (bs.take i) 1):=Ge hM (AG () (Int.one_dvd _) ht) sM;generalize hm:zv (bs.take i) 1=m at msz ⊢;have gp:0 < g m b:=Cb ();exists #[m,b,rfl,?_];exists gZ (show rE _ _ from #[(),(Y3 b1.1 sb).mono ()]) ?_;rw[cP _ ()];exists gZ (show iH _ _ from .inr #[_,_,msz,sb.hi (t:=m) (),()]) ?_;exists #[rfl,_,by rw[take_snoc eb,Eg,hm];rfl]
 ·rintro σ' H' ⟨rfl,y,rfl⟩;walk_at "w";rw[aM (by simp)];exact q
theorem yR:sC ["row"] 1 nZ:=by walk_at "d"
theorem mG (T:Txt K mg Z) (bn:bv P):T.fP.o P w base 3 (Pn K):=by
 refine T.fP.F.k yR ?_;walk_at "i";obtain p|ns|M|rfl|hp|hl|hz|q:=h;refine #[_,(ay (aS (cN (xv T bn) hr T.iM (c9 (bW ["value"] [] [] (cM bT) (λ_=>(eK 0)) (λ_=>b6) (λ_=>(aY (p9 K (by rfl)) bT ak))))))),?_];walk_at "s"
 try rw[gP]
 obtain xs|gx|qx:=id hp;have lx:=qx.9;exists #[#[_,bI.of gx],?_];refine gR (K:=K) (xs:=xs) (λi ys H'=>H'=H/\ys=((ns.take i).map (·.2)).map V.int) lV #[rfl,rfl] (λi ys H' _ #[e,_]=>by subst e;exact bI.of gx) ?_ ?_
 ·rintro i x ys H' hx hlen ⟨rfl,rfl⟩;obtain n|en|r|rfl|hr1:=cv qx hx;exists #[rfl,by rw[take_snoc en];simp]
 ·rintro ys H' hy ⟨rfl,rfl⟩ l hl';exists #[l,ns.map (·.2),M,rfl,bI.of (by rw[aN,aM ()]),hz.1,hz.2.1,λb hb=>?_,?_]
  ·obtain n|hn|rfl:=aB.mp hb;exact #[(hz.2.2 n hn).1,(hz.2.2 n hn).2.1]
  ·exact q _ (aH.new hl')
theorem wD:sC ["lines","begin","place","at"] 3 sH:=by walk_at "d"
theorem CK (T:Txt K mg Z) (bn:bv P):T.mY.o P w base 1 DW:=by
 refine T.mY.F.k wD ?_;walk_at "i";obtain l|p|ls|b|c|rfl|G|l1000|b1000|hc|k1|k2:=h
 refine #[_,(au (eC r0 rfl (NM rfl T.range (cQ cR (bg aU (by rfl) T.len aP (c9 bT)))) (eK 3 wD.nd)
   (ay (cY (bf ue (aY bV (aY bV bT gY) dQ) ak (br _)) (ay (aS gY)) bN)))
  (ay (aS vg))),?_]
 walk_at "s"
 try rw[gP]
 obtain _|xs|gx|qx:=id G;have lx:=qx.9;exists #[_,_,rfl,.inl (bI.of gx),?_];rw[<- lx];exists #[#[(),(),(),()],?_];refine En (lo:=(b:Int)) (n:=((ls.9:Int) - (b:Int)).toNat) (λi σ' H'=>H'=H/\(∃y,σ'=[some (.ref p),some (.int b),some (.int c),y])/\∀s,b<=s->s < b+i->fh ls s c=0) #[rfl,#[_,rfl],λs h1 h2=>absurd h2 ()] ?_ ?_
 ·rintro i σ' H' hi ⟨rfl,⟨y,rfl⟩,hz⟩;rw[show ((b:Int)+(i:Int))=((b+i:Nat):Int) by lia];obtain zs|v|ez|ev|mz|q|rfl|_|gq:=eE qx (i:=b+i) ();exists ck (bI.of gx) (eG ev) ?_;exists ck (bI.of gq) (AO (hc zs mz)) ?_;walk_at "w";have ef:=O6 (c:=c) ez;by_cases e:zs.getD c 0=0
  ·rw[decide_eq_true e];exists #[rfl,#[_,rfl],λs h1 h2=>?_];by_cases e2:s=b+i
   ·rw[e2,ef,e];rfl
   ·exact hz s h1 ()
  ·rw[decide_eq_false e];exists k1 (b+i) () () (by rw[ef];exact YK.mpr e)
 ·rintro σ' H' ⟨rfl,⟨y,rfl⟩,hz⟩;exists k2 λt h1 h2=>hz t h1 ()
theorem o8:sC ["lines","at","place","before","used","by","swept"] 4 y7:=by walk_at "d"
theorem Lj (T:Txt K mg Z) (bn:bv P):T.tG.o P w base 1 DX:=by
 refine T.tG.F.k o8 ?_;walk_at "i";obtain l|p|ls|kk|c|n|b|rfl|hl|G|l1000|hk|hw|n1000|hc|b0|sb|hs|k:=h
 refine #[_,(au (eP 4 o8.nd (aY bV bT cR))
  (au (eP 5 o8.nd (aY bV lS dQ))
  (au (jD 6 ["line"] ["used","by","place","before"] [4,5,2,3] o8.nd rfl rfl (cM bT) (λ_=>(eK 0)) (λ_=>b6) (λ_=>(bW ["mine","yours"] ["by","line","place","before"] [2,0,3,4] (P6 K rfl T.zip (cQ bT cR)) (λ_=>(pS K 2 (cW (eK 0) (cW (eK 1) jd)))) (λ_=>b6) (λ_=>(bD (j4 rfl o8 rfl rfl rfl bn (wQ hr)) (bD jr (bD dn dQ bT) (bD dn (aY (gF K (by rfl)) gY lS) cR)) vf)))))
  (au (gO lS (iK rG cR set_list))
  (ay (aS rG)))))),?_]
 walk_at "s"
 try rw[gP]
 obtain pl|xs|gx|qx:=id G;have lx:=qx.9;obtain zk|vk|ek|evk|mk|qk|rfl|qkl|gk:=eE qx hk;have wk:=hw zk mk;have ek':ls.getD kk []=zk:=by rw[aa,ek];rfl
 exists ck (bI.of gx) (eG evk) ?_;exists ck (bI.of gk) (AO ()) ?_;exists #[#[_,bI.of gx],?_];refine gR (K:=K) (xs:=xs) (λi ys H'=>aH H H'/\jp (Nd l H') ((ls.take i).map λzs=>xL (λx y=>(zk.getD c 0*x - zs.getD c 0*y).fdiv b) zs zk) ys) lV #[aH.refl _,.nil] (λi ys H' _ #[s,_]=>bI.of (s _ _ gx)) ?_ ?_
 ·rintro i v ys0 H' hx hlen ⟨s',pr⟩;obtain zs|ec|q|rfl|ql|gq:=cv qx hx;have mz:=ar ec;have wz:=hw zs mz;have gq':=s' _ _ gq;have gk':=s' _ _ gk;exists #[#[_,bI.of gq'],#[_,bI.of gk'],?_];refine vI (K:=K) (xs:=zs.map V.int) (ws:=zk.map V.int) (λj ys H2=>aH H' H2/\ys=((xL (λx y=>(zk.getD c 0*x - zs.getD c 0*y).fdiv b) zs zk).take j).map V.int) (cA (cX (by rw[af];lia))) (by rw[af,af];lia) #[aH.refl _,rfl] (λj ys H2 _ #[s2,_]=>#[bI.of (s2 _ _ gq'),bI.of (s2 _ _ gk')]) ?_ ?_
  ·rintro j v1 v2 ys H2 r h1 h2 hy ⟨s2,rfl⟩ hr
   obtain ⟨x,ex,rfl⟩:∃x,zs[j]?=some x/\V.int x=v1:=by
    rw[aA] at h1;cases e:zs[j]? with
    | none=>rw[e] at h1;cases h1
    | some x=>rw[e] at h1;exact #[x,rfl,bY h1]
   obtain ⟨y,ey,rfl⟩:∃y,zk[j]?=some y/\V.int y=v2:=by
    rw[aA] at h2;cases e:zk[j]? with
    | none=>rw[e] at h2;cases h2
    | some x=>rw[e] at h2;exact #[x,rfl,bY h2]
   have sr:aH H2 (upd H2 r (.tup [.int x,.int y])):=aH.new hr;have gr:(upd H2 r (.tup [.int x,.int y])) r=some (.tup [.int x,.int y]):=aN;generalize upd H2 r (.tup [.int x,.int y])=H3 at sr gr ⊢;have gq3:=sr _ _ (s2 _ _ gq');have sx:=hs zs mz x (ar ex);have sy:=hs zk mk y (ar ey);have s1:=hs zk mk _ (getD_in (e:=0) (show c < zk.9 by lia));have s3:=hs zs mz _ (getD_in (e:=0) (show c < zs.9 by lia));exists gZ (show iH _ _ from .inr #[_,_,s1,sx,()]) ?_;exists ck (bI.of gq3) (AO ()) ?_;exists gZ (show iH _ _ from .inr #[_,_,s3,sy,()]) ?_;exists gZ (show rE _ _ from #[b0,sb]) ?_;have ez:(xL (λx y=>(zk.getD c 0*x - zs.getD c 0*y).fdiv b) zs zk)[j]?=some ((zk.getD c 0*x - zs.getD c 0*y).fdiv b):=by rw[b9,ex,ey]
   exact #[s2.trans sr,by rw[take_snoc ez];simp]
  ·rintro ys H2 hy ⟨s2,rfl⟩ r hr;have sn:aH H2 (upd H2 r (.lst (((xL (λx y=>(zk.getD c 0*x - zs.getD c 0*y).fdiv b) zs zk).take (zs.map V.int).9).map V.int))):=aH.new hr;refine #[(s'.trans s2).trans sn,?_];rw[take_snoc ec,cG];refine bR (ca (λ_ _ z=>(Nd.same z s2).same sn) pr) (.cons #[r,rfl,ne_old (λz=>hl (s'.none (s2.none z))) hr,?_] .nil);rw[aN,aM (by rw[cu,af];lia)]
 ·rintro ys H1 hy ⟨s1,pr⟩ r hr;have sn:aH H1 (upd H1 r (.lst ys)):=aH.new hr;have gn:(upd H1 r (.lst ys)) r=some (.lst ys):=aN;have ly:=pr.9;rw[af,bP] at ly;generalize upd H1 r (.lst ys)=H2 at sn gn ⊢;exists fI gn (gH ()) rfl ?_;have s2:aH H1 (upd H2 r (.lst (ys.set kk (.ref qk)))):=sn.after hr;exists k r _ (s1.none hr) (s1.trans s2) #[ne_old (λz=>hl (s1.none z)) hr,_,aN,?_];unfold J6;rw[ek'];rw[aM ()] at pr;exact ko (ca (λ_ _ z=>Nd.same z s2) pr) kk #[qk,rfl,qkl,(s1.trans s2) _ _ gk]
theorem wF:sC ["lines","at","to","swapped"] 3 sL:=by walk_at "d"
theorem CL (T:Txt K mg Z) (bn:bv P):T.mZ.o P w base 1 zO:=by
 refine T.mZ.F.k wF ?_;walk_at "i";obtain l|p|ls|t|kk|rfl|hl|G|l1000|ht|hk|k:=h
 refine #[_,(au (eP 3 wF.nd (eJ tQ (by rfl) T.list wv (c9 bT)))
  (au (gO (aY bV bT cR) (iK gY dQ set_list))
  (au (gO (aY bV bT dQ) (iK gY cR set_list))
  (ay (aS gY))))),?_]
 walk_at "s"
 try rw[gP]
 obtain pl|xs|gx|qx:=id G;have lx:=qx.9;obtain zt|vt|et|evt|_|Ft:=eE qx ht;obtain zk|vk|ek|evk|_|Fk:=eE qx hk;exists #[p,xs,rfl,.inl (bI.of gx),λc hc=>?_];have sc:aH H (upd H c (.lst xs)):=aH.new hc;have gc:(upd H c (.lst xs)) c=some (.lst xs):=aN;generalize upd H c (.lst xs)=Hc at sc gc ⊢;exists ck (bI.of (sc _ _ gx)) (eG evt) ?_;exists fI gc (gH ()) rfl ?_;have s1:aH H (upd Hc c (.lst (xs.set kk vt))):=sc.after hc;have g1:(upd Hc c (.lst (xs.set kk vt))) c=some (.lst (xs.set kk vt)):=aN;generalize upd Hc c (.lst (xs.set kk vt))=H1 at s1 g1 ⊢;exists ck (bI.of (s1 _ _ gx)) (eG evk) ?_;exists fI g1 (gH (by rw[d5];lia)) rfl ?_;have s2:aH H (upd H1 c (.lst ((xs.set kk vt).set t vk))):=s1.after hc;exists k c _ hc s2 #[ne_old hl hc,_,aN,?_];have et':ls.getD t []=zt:=by rw[aa,et];rfl
 have ek':ls.getD kk []=zk:=by rw[aa,ek];rfl
 unfold rN;rw[et',ek'];exact ko (ko (ca (λ_ _ z=>Nd.same z s2) qx) kk (Nd.same Ft s2)) t (Nd.same Fk s2)
theorem kL:sC ["rows","wide","lines","leads","before","place","many","at"] 2 Fi:=by walk_at "d"
theorem Jj (T:Txt K mg Z) (bn:bv P):T.vv.o P w base 4 (DH K):=by
 refine T.vv.F.k kL ?_;walk_at "i";obtain p|n|w|H0|rows|rfl|G|r100|n100|hw|F|k:=h
 refine #[_,(au (jD 2 ["row"] [] [] kL.nd rfl rfl (cM bT) (λ_=>(eK 0)) (λ_=>b6) (λ_=>(cN (tu T bn) hr T.jF (cQ bT (cN (mG T bn) hr T.fP (c9 bT))))))
  (au (eP 3 kL.nd (dC ir))
  (au (eP 4 kL.nd ak)
  (au (eC r0 rfl (bU rfl T.range (c9 cR)) (eK 5 kL.nd)
   (au (eP 6 kL.nd (bg aU (by rfl) T.len aP (c9 gY)))
  (au (eP 7 kL.nd (cN (CK T bn) hr T.mY (sZ dQ rG vf)))
  (ay (cY (bf Fv Ig vg (br _)) (au (eP 2 kL.nd (cN (Lj T bn) hr T.tG (Jg (cN (CL T bn) hr T.mZ (sZ dQ Ig rG)) rG vf lS)))
  (au (eP 4 kL.nd (aY bV (aY bV dQ rG) vf))
  (ay (jc (wH dh dH dG kD gY (c9 vf)))))) bN)))))
  (ay (aS (cJ (cQ (rh E4 dQ xV (sW (bg aU (by rfl) T.len aP (c9 gY)))) gY)))))))),?_]
 walk_at "s"
 try rw[gP]
 obtain xs|gx|qx|_:=id G;obtain W|hW|W2|ent:=F.ent;obtain _|_|_|_|_|_|_|_|r15|r89:=id F;exists #[#[_,bI.of gx],?_];refine df (K:=K) (as:=rows) (F:=c5 K H0) (λ(H:Hp) (zs:List Int) (v:V)=>∃q,v=V.ref q/\H q=some (.lst (zs.map V.int))) iX gx qx () (λa b=>a.same b) (λ#[q,a,b] s=>#[q,a,s _ _ b]) ?_ ?_
 ·rintro i qs v H' NY NN ec s' ⟨u,rfl,_,R⟩ k1;have mx:=ar ec;obtain M|hM:=F.rowM mx;obtain b1|sb:=hM.bot;have lq:(qs.map nm).9<=1000:=by rw[af,hw qs mx];lia
  exists #[u,_,M,rfl,R.rowK,lq,hM,λH2 s2=>?_];exists #[u,_,M,_,rfl,(R.same s2).rowK,lq,hM,b1,sb,λr H3 n3 s3 g3=>k1 _ _ (s2.trans s3) #[r,rfl,g3]]
 rintro ys H1 lp0 hlp s1 g1 pr1 nx1;exists c6 λqp H2 s2 nq gq=>?_
 have G2:vQ qp H2 lp0 (rows.map iX):=#[(λz=>by rw[z,nq] at g1;cases g1),ys,s2 _ _ g1,ca (λ_ _ #[q,a,b]=>#[q,a,(λz=>by rw[z,nq] at b;cases b),s2 _ _ b]) pr1];have hq0:H qp=none:=s1.none nq;have s02:=s1.trans s2;have hm:(rows.map iX).9=rows.9:=af ..;clear g1 pr1 nx1;exists #[(),(),?_];refine eF (n:=n) (λP σ' H'=>aH H H'/\∃lp ls ps d y1 y2 y3,σ'=[some (.ref p),some (.int n),some (.ref lp),some (.ref qp),some (.int d),y1,y2,y3]/\H' qp=some (.lst (dB ps))/\vQ qp H' lp ls/\EE (rows.map iX) n P ls ps d) #[s02,lp0,rows.map iX,[],1,_,_,_,rfl,gq,G2,EE.start λzs hz=>by obtain x|hx|rfl:=aB.mp hz;rw[qY];exact hw x hx] ?_ ?_
 ·rintro P σ' H' hP ⟨s',lp,ls,ps,d,y1,y2,y3,rfl,gq',G',I⟩;have hl:=I.len;have kP:=I.el.kP;have km:=I.el.km;have lps:(dB ps).9=ps.9:=af ..;have hqp:H' qp≠none:=by rw[gq'];exact λz=>nomatch z
  obtain z1|z2:=I.sz (r:=min rows.9 n) hW ent () (by rw[hm];exact ah _) r15;have big:(16*W)^min rows.9 n < 2^8999000:=bx (zi W2) (eQ () ());exists #[_,_,rfl,.inl (bI.of gq'),?_];rw[lps];exists #[qp,lp,ls,ps.9,P,rfl,G',(),(),λzs hz=>by rw[I.wide zs hz];exact hP,λt h1 h2 h3=>?_,λhz=>?_]
  ·exists #[rfl,_,rfl,?_];rw[show decide (V.int (t:Int)=V.non)=false from decide_eq_false (λz=>nomatch z)];exists #[qp,lp,ls,t,ps.9,rfl,hqp,G',(),h2,(),λl1 Ha na sa Ga=>?_];exists #[qp,l1,_,ps.9,P,n,d,rfl,λz=>hqp (sa.none z),Ga,by rw[yI];lia,by rw[yI];lia,Mp I.wide () h2,(),hP,I.d0,bx z1 big,λzs hz z hz'=>?_,λl2 Hb nb sb Gb=>?_]
   ·unfold rN at hz;have key:∀ys,ys∈ls->∀z∈ys,Sz 8999000 z:=λys hy z hz=>bx (z2 ys hy z hz) big
    rcases cI hz with h | h
    ·rcases cI h with h | h
     ·exact key zs h z hz'
     ·rw[h] at hz';exact key _ (getD_in h2) z hz'
    ·rw[h] at hz';exact key _ (getD_in ()) z hz'
   have sab:=sa.trans sb;have I2:=I.step hW ent h1 h2 h3;have hk2:ps.9 < (J6 (rN ls ps.9 t) ps.9 P d).9:=by rw[Q7,yI];lia
   obtain n2|xs2|gx2|qx2:=id Gb;obtain zk|vk|ek|evk|mk|qk|rfl|_|gk:=eE qx2 hk2;have wk:=I2.wide zk mk;exists ck (bI.of gx2) (eG evk) ?_;exists ck (bI.of gk) (AO ()) ?_;have gqb:=sab _ _ gq';exists #[.inl #[rfl,_,bI.of gqb],?_];exists jB gqb (cX ()) ?_;refine #[(s'.trans sab).after hq0,l2,_,ps++[P],_,_,_,_,rfl,?_,Gb.upd,?_]
   ·rw[aN];unfold dB;rw[cG];rfl
   ·have e:(J6 (rN ls ps.9 t) ps.9 P d).getD ps.9 []=zk:=by rw[aa,ek];rfl
    rw[e] at I2;exact I2
  ·exists #[rfl,_,rfl,?_];rw[show decide (V.non=V.non)=true from decide_eq_true rfl];exists #[s',lp,ls,ps,d,_,_,_,rfl,gq',G',I.skip hz]
 rintro σ' H' ⟨s',lp,ls,ps,d,y1,y2,y3,rfl,gq',G',I⟩;obtain R|hR:=I.done hw F;have lps:(dB ps).9=ps.9:=af ..;obtain nl|xs'|gx'|qx':=id G';exists #[_,_,rfl,.inl (bI.of gq'),?_];rw[lps];exists La (bI.of gx') λsl H3 s3 n3 g3=>?_
 rw[J0] at g3;exists bS λt H4 s4 g4=>?_
 have s34:=s3.trans s4;exact k t sl qp R ps d _ H4 g4 (s34 _ _ gq') #[(λz=>by rw[z,gq'] at n3;cases n3),_,s4 _ _ g3,ca (λ_ _ z=>Nd.same z s34) (pT qx' ps.9)] (s'.trans s34) hR
theorem rf:sC ["top","bottom","divisor"] 2 Bm:=by walk_at "d"
theorem vT (T:Txt K mg Z) (bn:bv P):T.mK.o P w base 2 Nu:=by
 refine T.mK.F.k rf ?_;walk_at "i";obtain t|b|rfl|hb|hs|k:=h
 refine #[_,(au (eP 2 rf.nd (cN (kY T bn) hr T.fu (cQ bT cR)))
  (au (cY (bf vm cR ak (br _)) (ay (eP 2 rf.nd (xX rM dQ))) bN)
  (ay (aS (cJ (cQ (bD (j4 rfl rf rfl rfl rfl bn (wQ hr)) bT dQ) (bD (j4 rfl rf rfl rfl rfl bn (wQ hr)) cR dQ))))))),?_]
 walk_at "s"
 try rw[gP]
 exists #[t,b,rfl,?_];have hg:=Cb (t:=t) hb
 have hgs:Sz 8999000 (g t b):=hs.le (by
  have h1:(g t b).natAbs=IR t b:=by unfold g;simp
  rw[h1];exact iC () (by have:=gX (a:=t) (b:=b);exact fO.mpr this |> λz=>by simpa using z))
 have hgn:g (-t) (-b)=g t b:=by unfold g;rw[Int.gcd_neg,Int.neg_gcd]
 exists iT (λh=>?_) (λh=>?_)
 ·have hb0:b < 0:=of_decide_eq_true h;exists gZ (show rE _ _ from #[(),hgs.neg]) ?_;exists gZ (show rE _ _ from #[(),hgs.neg]) ?_;exists bS λr H' s' h'=>?_
  have e1:t.fdiv (-g t b)=lo (-t) (-b):=by
   unfold Nm.lo;rw[hgn,<- cP _ (),<- Int.neg_fdiv_neg (-t),Int.neg_neg]
  have e2:b.fdiv (-g t b)=hi (-t) (-b):=by
   unfold Nm.hi;rw[hgn,<- cP _ (),<- Int.neg_fdiv_neg (-b),Int.neg_neg]
  exact k r H' s' (by rw[if_pos hb0,if_pos hb0,<- e1,<- e2];exact h')
 ·have hb0:¬b < 0:=λz=>h (decide_eq_true z)
  exists gZ (show rE _ _ from #[(),hgs]) ?_;exists gZ (show rE _ _ from #[(),hgs]) ?_;exists bS λr H' s' h'=>?_
  rw[cP _ (),cP _ ()] at h';exact k r H' s' (by rw[if_neg hb0,if_neg hb0];exact h')
theorem Bf:sC ["rows","wide","found"] 2 yV:=by walk_at "d"
theorem BF (T:Txt K mg Z) (bn:bv P):T.pC.o P w base 5 (zN K):=by
 refine T.pC.F.k Bf ?_;walk_at "i";obtain p|n|w|H0|rows|rfl|G|r100|n100|hw|F|k:=h
 refine #[_,(au (eP 2 Bf.nd (cN (Jj T bn) hr T.vv (cQ bT cR)))
  (ay (aS (bW ["line","lead"] [] [] (sX rfl T.zip (cQ (aY bH dQ ak) (aY bH dQ ak))) (λ_=>(pS K 2 (cW (eK 0) (cW (eK 1) jd)))) (λ_=>b6) (λ_=>(bW ["top"] ["line","lead"] [0,1] (xW K bT) (λ_=>(eK 0)) (λ_=>b6) (λ_=>(cN (vT T bn) hr T.mK (cQ bT (aY (gF K (by rfl)) cR dQ)))))))))),?_]
 walk_at "s"
 try rw[gP]
 obtain _|_|_|_|_|_|_|_|r15|r89:=id F;exists #[p,n,w,H0,rows,rfl,G,r100,n100,hw,F,λt lp qp R ps d ls H1 gt gq G1 s1 S=>?_];obtain lR|wR|RR:=id S.rr;have hl:=S.len;obtain _|xs|gx|qx:=id G1;have lx:=qx.9;have lps:(dB ps).9=ps.9:=af ..;have d0:(d:Rat)≠0:=λz=>S.d0 (oo z)
 have dsz:Sz 8999000 d:=bx S.dsz (eQ () ())
 have km:ps.9<=n:=by
  rcases cg n ps.9 with z | z
  ·have inc:∀j,j < ps.9->j<=ps.getD j 0:=by
    intro j
    induction j with
    | zero=>intro _;exact a7 _
    | succ j ih =>
     intro hj;have:=ih ();have:=RR.inc j (j+1) () hj
     lia
   have h1:=inc (ps.9 - 1) ();have h2:=RR.low (ps.9 - 1) ()
   lia
  ·exact z
 exists #[#[_,bI.of gx],#[_,bI.of gq],?_];refine vI (K:=K) (xs:=xs) (ws:=dB ps) (λi ys H'=>aH H1 H'/\jp (c5 K H1 H') (R.take i) ys) lV () #[aH.refl _,.nil] (λi ys H' _ #[s,_]=>#[bI.of (s _ _ gx),bI.of (s _ _ gq)]) ?_ ?_
 ·rintro i v1 v2 ys H' r h1 h2 hy ⟨s,pr⟩ hr;obtain zs|ez|q|rfl|_|gq1:=cv qx h1;have hi:i < ls.9:=(aF.mp ez).1;have mz:=ar ez;have wz:=S.wide zs mz
  obtain ⟨j,ej,rfl⟩:∃j:Nat,ps[i]?=some j/\V.int (j:Int)=v2:=by
   unfold dB at h2;rw[aA] at h2;cases e:ps[i]? with
   | none=>rw[e] at h2;cases h2
   | some x=>rw[e] at h2;exact #[x,rfl,bY h2]
  have ej':ps.getD i 0=j:=by rw[aa,ej];rfl
  have jn:j < n:=by have:=RR.low i ();rw[ej'] at this;exact this
  have sr:aH H' (upd H' r (.tup [.ref q,.int j])):=aH.new hr;have gr:(upd H' r (.tup [.ref q,.int j])) r=some (.tup [.ref q,.int j]):=aN;generalize upd H' r (.tup [.ref q,.int j])=H2 at sr gr ⊢;have s2:=s.trans sr;have iR:i < R.9:=()
  have eR:=ae iR;have wRi:=wR _ (aQ iR)
  have ed:zs.getD j 0=d:=by
   have h:=S.val i j;rw[O6 ez] at h;have u:=RR.unit i () i ();rw[if_pos rfl,ej'] at u;rw[u,ui] at h;exact dW.mp h
  have val:∀c,((zs.getD c 0:Int):Rat)=(d:Rat)*(R[i]).getD c 0:=λc=>by
   have h:=S.val i c;rw[O6 ez] at h;rw[h];unfold bE;rw[aa (l:=R),eR];rfl
  exists #[#[_,bI.of (s2 _ _ gq1)],?_];refine gR (K:=K) (xs:=zs.map V.int) (λc ys' H3=>aH H2 H3/\jp (bX K H3) ((R[i]).take c) ys') (cA (cX (by rw[af];lia))) #[aH.refl _,.nil] (λc ys' H3 _ #[s3,_]=>bI.of ((s2.trans s3) _ _ gq1)) ?_ ?_
  ·rintro c x ys' H3 hx hlen ⟨s3,pr3⟩
   obtain ⟨z,ec,rfl⟩:∃z,zs[c]?=some z/\V.int z=x:=by
    rw[aA] at hx;cases e:zs[c]? with
    | none=>rw[e] at hx;cases hx
    | some x=>rw[e] at hx;exact #[x,rfl,bY hx]
   have hc:c < zs.9:=(aF.mp ec).1;have vc:=val c;have e1:zs.getD c 0=z:=by rw[aa,ec];rfl
   rw[e1] at vc;exists ck (bI.of ((s2.trans s3) _ _ gq1)) (AO ()) ?_;rw[ed];exists #[z,d,rfl,S.d0,dsz,λr4 H4 s4 g4=>?_];have ec':(R[i])[c]?=some ((R[i]).getD c 0):=by rw[aa,ae (show c < (R[i]).9 by lia)];rfl
   refine #[s3.trans s4,?_];rw[take_snoc ec'];refine bR (ca (λ_ _ z=>bX.same z s4) pr3) (.cons (bX.mk g4 ?_) .nil);rcases Int.lt_or_lt_of_ne S.d0 with hd | hd
   ·rw[if_pos hd,if_pos hd];refine oT () ?_;rw[cL,cL,vc];grind
   ·rw[if_neg (),if_neg ()];refine oT hd ?_;rw[vc];grind
  ·rintro ys' H3 hy' ⟨s3,pr3⟩ l4 hl4;have sn:aH H3 (upd H3 l4 (.lst ys')):=aH.new hl4;refine #[(s2.trans s3).trans sn,?_];rw[take_snoc eR];rw[aM (by rw[af];lia)] at pr3;exact bR (ca (λ_ _ z=>c5.same z ((sr.trans s3).trans sn)) pr) (.cons #[l4,rfl,(s2.trans s3).none hl4,ys',aN,ca (λ_ _ z=>bX.same z sn) pr3] .nil)
 ·rintro ys H' hy ⟨s,pr⟩ r hr;have sn:aH H' (upd H' r (.lst ys)):=aH.new hr;rw[aM ()] at pr;refine k r R ps d.natAbs _ (s1.none (s.none hr)) ((s1.trans s).trans sn) #[ys,aN,ca (λ_ _ z=>(c5.weak z s1).same sn) pr,iS (H0:=H1) (rows:=R) #[H',hr,pr]] S.rr S.km ?_ S.dsz S.tp;have:=S.d0
  lia
theorem rR:sC ["one","other","one_bottom","other_bottom","pairs"] 2 yU:=by walk_at "d"
theorem xu (T:Txt K mg Z) (bn:bv P):T.mJ.o P w base 4 (EZ K):=by
 refine T.mJ.F.k rR ?_;walk_at "i";obtain p|q|xs|ys|rfl|hp|hq|hl|hz|⟨k1,j1,k2,j2,h1,h2,hkj⟩|kk:=h
 refine #[_,(au (eP 2 rR.nd (cN (mG T bn) hr T.fP (c9 bT)))
  (au (eP 3 rR.nd (cN (mG T bn) hr T.fP (c9 cR)))
  (au (eP 4 rR.nd (Ld rfl T.list rfl T.zip (cQ (cN (tu T bn) hr T.jF (cQ bT dQ)) (cN (tu T bn) hr T.jF (cQ cR gY)))))
  (ay (aS (cN (vT T bn) hr T.mK (cQ (bg (Q8 rfl) (by rfl) T.sum PyProof.Rows.boot_sum (c9 (bW ["mine","yours"] [] [] (cM lS) (λ_=>(pS K 2 (cW (eK 0) (cW (eK 1) jd)))) (λ_=>b6) (λ_=>(bD dn bT cR))))) (bD dn dQ gY)))))))),?_]
 walk_at "s"
 try rw[gP]
 obtain M|h1:=h1.rowM ();obtain N|h2:=h2.rowM ();replace hp:=hp.rowK;replace hq:=hq.rowK;replace hl:(ys.map nm).9=(xs.map nm).9:=by simpa using hl
 replace hz:(xs.map nm).9<=1000:=by simpa using hz
 obtain b1|s1:=h1.bot;obtain b2|s2:=h2.bot;have k2:∀r H',aH H H'->H' r=some (.tup [.int (lo (QX (xs.map nm) (ys.map nm)) (jk (xs.map nm)*jk (ys.map nm))),.int (hi (QX (xs.map nm) (ys.map nm)) (jk (xs.map nm)*jk (ys.map nm)))])->Q (.ref r) H':=λr H' s g=>kk r H' s (bX.mk g (Tw b1 b2))
 clear kk;generalize xs.map nm=ns at hp hq hl hz h1 h2 b1 b2 s1 s2 k2;generalize ys.map nm=ms at hp hq hl hz h1 h2 b1 b2 s1 s2 k2;have hb:0 < jk ns*jk ms:=j9 b1 b2;exists #[p,ns,M,rfl,hp,hz,h1,λH1 t1=>?_];exists #[q,ms,N,rfl,hq.same t1,(),h2,λH2 t2=>?_];have u2:=t1.trans t2;exists #[p,ns,M,_,rfl,hp.same u2,hz,h1,b1,s1,λr1 H3 n3 t3 g3=>?_];exists #[q,ms,N,_,rfl,(hq.same u2).same t3,(),h2,b2,s2,λr2 H4 n4 t4 g4=>?_];exists #[r1,r2,_,_,rfl,bI.of (t4 _ _ g3),bI.of g4,by simp [ie,hl],λL ts H5 t5 n5 g5 pr=>?_];have lt:=pr.9;have ll:(ie ns (jk ns)).9=ns.9:=by simp [ie]
 have lm:(ie ms (jk ms)).9=ns.9:=by simp [ie,hl]
 rw[Cs,af,af,ll,lm] at lt;exists #[#[_,bI.of g5],?_];refine gR (K:=K) (xs:=ts) (λi ys H'=>H'=H5/\ys=((xL (λx y=>x*y) (ie ns (jk ns)) (ie ms (jk ms))).take i).map V.int) lV #[rfl,rfl] (λi ys H' _ #[e,_]=>by subst e;exact bI.of g5) ?_ ?_
 ·rintro i x ys H' hx hlen ⟨rfl,rfl⟩;obtain pq|epq|T|rfl|gT:=cv pr hx;obtain t|u|et|eu|rfl:=RO epq;exists gZ (show iH _ _ from .inr #[_,_,Im h1 b1 s1 (ar et),Im h2 b2 s2 (ar eu),()]) ?_;have ez:(xL (λx y=>x*y) (ie ns (jk ns)) (ie ms (jk ms)))[i]?=some (t*u):=by rw[b9,et,eu]
  exact #[rfl,by rw[take_snoc ez];simp]
 ·rintro ys H' hy ⟨rfl,rfl⟩ l hl';exists #[l,xL (λx y=>x*y) (ie ns (jk ns)) (ie ms (jk ms)),rfl,bI.of (by rw[aN,aM (by rw[cu];lia)]),?_];exists gZ (show iH _ _ from .inr #[_,_,s1,s2,()]) ?_;exists #[_,_,rfl,(),(s1.mul s2).mono (),λr H6 t6 g6=>?_];rw[if_neg (),if_neg ()] at g6;exact k2 r H6 ((((u2.trans t3).trans t4).trans t5).trans ((aH.new hl').trans t6)) g6
theorem K3:sC ["grid","row"] 2 yZ:=by walk_at "d"
theorem BH (T:Txt K mg Z) (bn:bv P):T.pF.o P w base 5 (EY K):=by
 refine T.pF.F.k K3 ?_;walk_at "i";obtain p|q|H0|rows|ys|rfl|hp|hq|hz|hl|hr1|kk:=h;refine #[_,(ay (aS (bW ["line"] ["row"] [1] (cM bT) (λ_=>(eK 0)) (λ_=>b6) (λ_=>(cN (xu T bn) hr T.mJ (cQ bT cR)))))),?_];walk_at "s"
 try rw[gP]
 obtain xs|gx|qx|_:=id hp;exists #[#[_,bI.of gx],?_];refine df (K:=K) (F:=c5 K H0) (bX K) (λxs=>cb xs ys) gx qx hz (λa b=>a.same b) (λa b=>a.same b) ?_ ?_
 ·rintro i ns x H' NY NN en s ⟨u,rfl,_,hu⟩ k;obtain e1|e2:=hr1 ns (ar en);exists #[u,q,ns,ys,rfl,hu,hq.same s,e1.symm,(),e2,λr H2 s2 h2'=>k _ _ s2 h2']
 ·rintro ys' H' r hr s g pr nx;exact kk r H' hr s #[ys',g,pr]
theorem CB:sC ["system","rows"] 2 rY:=by walk_at "d"
theorem wK (T:Txt K mg Z) (bn:bv P):T.j5.o P w base 6 (DR K Z.a_System):=by
 refine T.j5.F.k CB ?_;walk_at "i";obtain x|p|H0|H1|mv|pt|lk|R|rfl|S|D|G|l100|wR|hf|k:=h;refine #[_,(ay (aS (bW ["row"] ["system"] [0] (cM cR) (λ_=>(eK 0)) (λ_=>b6) (λ_=>(cN (BH T bn) hr T.pF (cQ (MG K cR rfl) bT)))))),?_];walk_at "s"
 try rw[gP]
 obtain dx|a'|b'|c'|gx|_|_|_|Ga|Gb|Gc:=id S;have d8:=D.n8;obtain xs|gxs|qx|_:=id G;exists #[#[_,bI.of gxs],?_];refine df (K:=K) (F:=c5 K H1) (c5 K H) (rH mv) gxs qx () (λa b=>a.same b) (λa b=>a.same b) ?_ ?_
 ·rintro i ns v H' NY NN en s ⟨u,rfl,_,hu⟩ k1;have mn:=ar en;exists #[x,Z.a_System,dx,_,_,rfl,s _ _ gx,T.cl_System,T.na_move,AV,?_];exists #[a',u,H0,mv,ns,rfl,Ga.same s,hu,(),by rw[wR ns mn];lia,λxs hx=>#[by rw[D.mw xs hx,wR ns mn],hf xs hx ns mn],λr H2 nr s2 R2=>k1 _ _ s2 #[r,rfl,s.none nr,R2]]
 ·rintro ys H' r hr s g pr nx;exact k r H' hr s #[ys,g,pr,iS nx]
theorem o5:sC ["system","steps","lists","rows"] 2 qD:=by walk_at "d"
theorem vo (T:Txt K mg Z) (bn:bv P):T.ju.o P w base 7 (DV K Z.a_System):=by
 refine T.ju.F.k o5 ?_;walk_at "i";obtain x|a|c|st|H0|mv|pt|lk|rfl|s1000|S|D|F|k:=h
 refine #[_,(au (eP 2 o5.nd (dC (c9 (dC ir))))
  (au (Bv r0 (bf XS (bg aU (by rfl) T.len aP (c9 dQ)) cR (br _))
   (au (eP 3 o5.nd (cN (BF T bn) hr T.pC (cQ (bD jU (hJ bT rfl) (cN (wK T bn) hr T.j5 (cQ bT (aY bV dQ (xX rM ak))))) (hJ bT rfl))))
  (au (cY (bf fq (bg aU (by rfl) T.len aP (c9 gY)) (bg aU (by rfl) T.len aP (c9 (aY bV dQ (xX rM ak)))) (br _)) (ay (aS dQ)) bN)
  (ay (jc (wH dh dH dG kD dQ (c9 gY)))))))
  (ay (aS dQ)))),?_]
 walk_at "s"
 try rw[gP]
 obtain dx|a'|b'|c'|gx|_|_|_|Ga|Gb|Gc:=id S;have d8:=D.n8;have i4:=D.i4;have lP:=eO (mv:=mv) (pt:=pt) rfl D.pw;exists c6 λq0 H1 s1 nq0 g1=>?_
 exists c6 λl H2 s2 nl g2=>?_
 have s02:=s1.trans s2;have nl0:H l=none:=s1.none nl;obtain ⟨Hz,eHz⟩:∃Hz,Hz=upd H l (.lst []):=#[_,rfl];have zl:Hz l≠none:=by rw[eHz,aN];exact λz=>nomatch z
 have zn:∀q,Hz q=none->H q=none/\q≠l:=λq h=>by
  have ne:q≠l:=λz=>zl (by rw[<- z];exact h)
  rw[eHz,bG ne] at h;exact #[h,ne]
 have nz:∀q,H q=none->q≠l->Hz q=none:=λq h ne=>by rw[eHz,bG ne];exact h
 clear eHz;have q0l:q0≠l:=λz=>by rw[z,nl] at g1;cases g1
 have G0:be K Hz H2 q0 []:=#[[],s2 _ _ g1,.nil,λz=>nomatch z];exists ER (λσ' H'=>aH H H'/\∃Rs R us y,σ'=[some (.ref x),some (.int st),some (.ref l),y]/\H' l=some (.lst us)/\jp (λR v=>∃q,v=V.ref q/\Hz q=none/\be K Hz H' q R) (Rs++[R]) us/\vP mv pt (Rs++[R])/\Rs.9<=st) (λ_ H'=>match H' l with | some (.lst us)=>st+1 - us.9 | _=>0) #[s02,[],[],_,_,rfl,g2,.cons #[q0,rfl,nz q0 nq0 q0l,G0] .nil,#[by simp,λt R e=>?_,λt R R' e e'=>?_],a7 _] ?_
 ·have ht:=(aF.mp e).1;have:t=0:=by simpa using ht
  subst this;cases e;exact #[[],K8]
 ·have ht:=(aF.mp e').1;simp at ht
 rintro σ' Ha ⟨sa,Rs,R,us,y,rfl,gu,pa,Gw,hst⟩;have lu:=pa.9;rw[ai,aT] at lu;have eR:(Rs++[R])[Rs.9]?=some R:=by rw[bc (ah _),ij];rfl
 obtain ps|RR:=Gw.rr _ _ eR;have tn:Rs.9<=mv.9:=by have:=Gw.len _ _ eR;have:=RR.le;have:=RR.1;lia
 have fin:∀(Hx:Hp) (sx:aH Ha Hx) (hh:∀s,(Rs.9=st/\s=st\/Rs.9 < st/\Rs.9<=s)->∃ps,bo (kry mv pt s) mv.9 R ps),Q (.ref l) Hx:=λHx sx hh=>by
  refine k l (Rs++[R]) Hx nl0 (sa.trans sx) #[us,sx _ _ gu,ca (λ_ _ #[q,e1,e2,e3]=>#[q,e1,(zn q e2).1,(zn q e2).2,be.weakN (be.same e3 sx) λq h=>(zn q h).1]) pa] Gw (by rw[ai,aT];lia) λR2 e2 s hs=>?_
  rw[List.getLast?_concat] at e2;cases e2;rw[ai,aT,Nat.add_sub_cancel] at hs;exact hh s hs
 exists #[_,_,rfl,.inl (bI.of gu),?_];exists iT (λh0=>?_) (λh0=>?_)
 ·have h0:=of_decide_eq_true h0;refine Uq ?_
  obtain ⟨zs,gS⟩:∃zs q,us=zs++[V.ref q]/\Hz q=none/\be K Hz Ha q R:=by
   obtain ⟨v,ev,q,rfl,e2,e3⟩:∃v,us[Rs.9]?=some v/\∃q,v=V.ref q/\Hz q=none/\be K Hz Ha q R:=by
    have ev:=ae (show Rs.9 < us.9 by lia);obtain R2|e2|w:=cv pa ev;rw[eR] at e2;cases e2;exact #[_,ev,w]
   refine #[us.take Rs.9,q,?_,e2,e3];rw[<- take_snoc ev,aM ()]
  obtain q|rfl|zq|Gq:=gS;have gxa:=sa _ _ gx;exists #[x,Z.a_System,dx,_,_,rfl,gxa,T.cl_System,T.na_put,EW,?_];exists ck (bI.of gu) (vL _ _) ?_;have wR:=RR.2.1;have lR:=RR.1;have pn:=RR.le;exists #[x,q,H0,Hz,mv,pt,lk,R,rfl,S.same sa,D,Gq,(),wR,F.fit d8 D.mw D.pw tn RR,λmr Hb nmr sb Gm=>?_];obtain pv|gpv|qpv|_:=Gb.same (sa.trans sb);obtain mvs|gmv|qmv|_:=id Gm;have lpv:=qpv.9;have lmv:=qmv.9;rw[af] at lmv;exists jS gpv gmv lV λcr Hc sc nc gc=>?_
  have sab:=sa.trans (sb.trans sc);have Gc':be K (λ_=>none) Hc cr (pt++R.map (rH mv)):=zA (H:=Hb) (bR (ca (λ_ _ #[q,e1,e2,e3]=>#[q,e1,rfl,e3]) qpv) (ca (λ_ _ #[q,e1,e2,e3]=>#[q,e1,rfl,e3]) qmv)) sc nc gc;exists #[x,Z.a_System,dx,_,_,rfl,sab _ _ gx,T.cl_System,T.na_states,iI,?_];exists #[cr,mv.9,_,_,_,rfl,Gc',by rw[ai,af];lia,(),λxs hx=>?_,F.step d8 D.mw D.pw tn RR,λrr R' ps' M' Hd nrr sd G' RR' pm' _ _ _=>?_]
  ·rcases av.mp hx with hx | hx
   ·exact D.pw xs hx
   ·obtain y|_|rfl:=aB.mp hx;exact xr
  have sbd:=sb.trans (sc.trans sd);have sad:=sa.trans sbd;have K1:=yk rfl D.mw D.pw RR RR';have gud:=sbd _ _ gu;obtain rv|grv|qrv|_:=id G';have lrv:=qrv.9;have lR':=RR'.1;have pn':=RR'.le;exists #[_,_,rfl,.inl (bI.of grv),?_];exists ck (bI.of gud) (vL _ _) ?_;obtain ov|gov|qov|_:=Gq.same sbd;have lov:=qov.9;exists #[_,_,rfl,.inl (bI.of gov),?_];exists iT (λh1=>?_) (λh1=>?_)
  ·have h1:=of_decide_eq_true h1;exists fin Hd sbd λs hs=>#[ps,?_]
   obtain ⟨s',rfl⟩:∃s',s=Rs.9+s':=#[s - Rs.9,()];exact Eh rfl D.mw D.pw RR RR' () s'
  ·have h1:¬((rv.9:Int)=ov.9):=λz=>h1 (decide_eq_true z)
   have gr:=Ju rfl D.mw D.pw RR K1;have rl:rr≠l:=λz=>by rw[z,(sb.trans sc) _ _ gu] at nrr;cases nrr
   have zc:∀q,Hc q=none->Hz q=none:=λq h=>nz q (sab.none h) (λz=>by rw[z,(sb.trans sc) _ _ gu] at h;cases h)
   exists #[.inl #[rfl,_,bI.of gud],?_];exists jB gud (cX ()) ?_;refine #[#[sad.after nl0,Rs++[R],R',_,_,rfl,aN,bR (ca (λ_ _ #[q,e1,e2,e3]=>#[q,e1,e2,be.updL (be.same e3 sbd) gud zl (zn q e2).2]) pa) (.cons #[rr,rfl,zc rr nrr,be.updL (G'.weakN zc) gud zl rl] .nil),Gw.snoc K1 (),by rw[ai,aT];lia],?_];simp only[gu,aN,ai,aT] at lu h0 ⊢
   lia
 ·have h0:¬((us.9:Int)<=st):=λz=>h0 (decide_eq_true z)
  walk_at "w"
  exact fin Ha (aH.refl _) λs hs=>#[ps,by
   have:s=Rs.9:=()
   rw[this];exact RR]
theorem E8:sC ["lists","joined","each"] 1 K6:=by walk_at "d"
theorem Tc (T:Txt K mg Z) (bn:bv P):T.AB.o P w base 1 (IJ K):=by
 refine T.AB.F.k E8 ?_;walk_at "i";obtain p|xs|Rs|rfl|gx|qx|hl|k:=h
 refine #[_,(au (eP 1 E8.nd (dC ir))
  (au (eC r0 rfl (cM bT) (eK 2 E8.nd)
   (ay (jc (wH dh PySem.F.slot_list_extend PySem.F.type_list_extend NW cR (c9 dQ)))))
  (ay (aS cR)))),?_]
 walk_at "s"
 try rw[gP]
 have lx:=qx.9;exists c6 λj H1 s1 n1 g1=>?_
 exists #[#[_,bI.of (s1 _ _ gx)],?_];refine jy (K:=K) (a:=p) (xs:=xs) (λi σ' H'=>aH H H'/\∃(us:List V) (x:Option V),σ'=[some (.ref p),some (.ref j),x]/\H' j=some (.lst us)/\jp (c5 K (CY j) H') (Rs.take i).flatten us) #[s1,[],none,rfl,g1,.nil] (λi σ' H' _ #[s,_]=>bI.of (s _ _ gx)) ?_ ?_
 ·rintro i x σ' H' hx ⟨s,us,y,rfl,gj,pr⟩;obtain qs|eq|q|rfl|_|Gq:=cv qx hx;obtain qj|zs|gz|qz|_:=Gq.off n1;have lz:=qz.9;have lu:=pr.9;have tl:(Rs.take (i+1)).flatten=(Rs.take i).flatten++qs:=by rw[take_snoc eq,jM];simp
  have bl:(Rs.take i).flatten.length+qs.9<=1000:=by
   have e:Rs.flatten=(Rs.take (i+1)).flatten++(Rs.drop (i+1)).flatten:=by rw[<- jM,List.take_append_drop]
   rw[e,tl,ai,ai] at hl
   lia
  exists #[.inl #[rfl,_,bI.of gj],?_];exists #[j,q,us,zs,rfl,rfl,gj,s _ _ gz,cA (cX ()),?_];refine #[s.after n1,_,_,rfl,aN,?_];rw[tl];exact bR (ca (λ_ _ z=>c5.updL z gj off_ne) pr) (ca (λ_ _ z=>c5.updL (c5.same z s) gj off_ne) qz)
 ·rintro σ' H' ⟨s,us,y,rfl,gj,pr⟩;rw[aM ()] at pr;exists k j (CY j) H' n1 s #[us,gj,pr,λz=>?_];obtain _|_|q|e|h|_:=dF pr z;cases e;exact off_ne h
theorem kM:sC ["system","steps","lists","rows","step"] 2 uL:=by walk_at "d"
theorem FE (T:Txt K mg Z) (bn:bv P):T.oI.o P w base 7 (IQ K Z.a_System):=by
 refine T.oI.F.k kM ?_;walk_at "i";obtain x|u|a|c|H0|mv|pt|lk|rfl|hu|S|D|F|k:=h
 refine #[_,(au (eP 2 kM.nd (dC ir))
  (au (eP 3 kM.nd (hJ bT rfl))
  (au (eC r0 rfl (bU rfl T.range (c9 cR)) (eK 4 kM.nd)
   (au (jc (wH dh dH dG kD dQ (c9 gY)))
  (ay (eP 3 kM.nd (cN (wK T bn) hr T.j5 (cQ bT gY))))))
  (ay (aS dQ))))),?_]
 walk_at "s"
 try rw[gP]
 obtain dx|a'|b'|c'|gx|_|_|_|Ga|Gb|Gc:=id S;have d8:=D.n8;have i4:=D.i4;exists c6 λl H1 s1 n1 g1=>?_
 exists #[x,Z.a_System,dx,_,_,rfl,s1 _ _ gx,T.cl_System,T.na_put,EW,?_];walk_at "w";obtain bl|G0:=Gb.off n1;have G1:=G0.same s1;refine #[(),(),?_];refine eF (n:=u) (λi σ' H'=>aH H H'/\∃q us y,σ'=[some (.ref x),some (.int u),some (.ref l),some (.ref q),y]/\q≠l/\H' l=some (.lst us)/\jp (OW K l H') (OC mv pt i) us/\be K (CY l) H' q (pt.map (jT mv i))) #[s1,b',[],_,rfl,bl,g1,.nil,by rw[show pt.map (jT mv 0)=pt from jh pt];exact G1] ?_ ?_
 ·rintro i σ' H' hi ⟨s',q,us,y,rfl,ql,gu,pu,Gq⟩;have lu:=pu.9;have la:(OC mv pt i).9=i:=by unfold OC;rw[af,bB]
  exists #[.inl #[rfl,_,bI.of gu],?_];exists jB gu (cX ()) ?_;have s2:aH H (upd H' l (.lst (us++[V.ref q]))):=s'.after n1;have g2:(upd H' l (.lst (us++[V.ref q]))) l=some (.lst (us++[V.ref q])):=aN
  have p2:jp (OW K l (upd H' l (.lst (us++[V.ref q])))) (OC mv pt (i+1)) (us++[V.ref q]):=by
   rw[Hq];exact bR (ca (λ_ _ z=>OW.upd z gu) pu) (.cons #[q,rfl,ql,Gq.updL gu off_ne ql] .nil)
  have Gq2:=Gq.updL (o:=.lst (us++[V.ref q])) gu off_ne ql;generalize upd H' l (.lst (us++[V.ref q]))=H2 at s2 g2 p2 Gq2 ⊢;exists #[x,q,H0,CY l,mv,pt,lk,_,rfl,S.same s2,D,Gq2,by rw[af];lia,λr hr=>?_,F.fitP D.mw D.pw (),λr H3 nr s3 G3=>?_]
  ·obtain y|hy|rfl:=aB.mp hr;exact oA (D.pw y hy) i
  ·have e:(pt.map (jT mv i)).map (rH mv)=pt.map (jT mv (i+1)):=by rw[ik];rfl
   rw[e] at G3;exact #[s2.trans s3,r,_,_,rfl,λz=>(by rw[z,g2] at nr;cases nr),s3 _ _ g2,ca (λ_ _ z=>OW.same z s3) p2,G3.weakN λq h=>Qa λz=>by rw[z,g2] at h;cases h]
 ·rintro σ' H' ⟨s',q,us,y,rfl,ql,gu,pu,Gq⟩;exists k l us H' n1 s' gu pu
theorem CA:sC ["many"] 1 rX:=by walk_at "d"
theorem mU (T:Txt K mg Z) (bn:bv P):T.ia.o P w base 1 (U5 K):=by
 refine T.ia.F.k CA ?_;walk_at "i";obtain m|rfl|hm|k:=h;refine #[_,(ay (aS (bW ["place"] [] [] (bU rfl T.range (c9 bT)) (λ_=>(eK 0)) (λ_=>b6) (λ_=>(mT (v:=.ref Z.a_NOUGHT) rfl T.mg_NOUGHT rfl))))),?_];walk_at "s"
 try rw[gP]
 exists #[(),(),?_];refine d6 (n:=m) (bX K) (λ_=>0) () (λa b=>a.same b) ?_ ?_
 ·rintro i Ha NY NN hi sa k1;exists k1 _ _ (aH.refl _) #[_,rfl,T.sq_NOUGHT _]
 ·rintro ys H1 t ht s1 g1 pr _;exact k t H1 ht s1 #[ys,g1,by rw[<- Jp];exact pr]
theorem rd:sC ["rows","wide","due","found","answer","line","lead"] 3 Bl:=by walk_at "d"
theorem D7 (T:Txt K mg Z) (bn:bv P):T.rz.o P w base 5 (AZ K):=by
 refine T.rz.F.k rd ?_;walk_at "i";obtain p|q|n|w|H0|rows|due|rfl|G|Rd|hd|m99|n99|hw|F|k1|k2:=h
 refine #[_,(au (eP 3 rd.nd (cN (Jj T bn) hr T.vv (cQ (bW ["row","wanted"] [] [] (sX rfl T.zip (cQ bT dQ)) (λ_=>(pS K 2 (cW (eK 0) (cW (eK 1) jd)))) (λ_=>b6) (λ_=>(bD jU bT (dC (c9 cR))))) (bD fz cR ak))))
  (au (cY (bf NQ cR (aY bH gY ak) (by with_unfolding_all rfl)) (ay (aS vg)) bN)
  (au (eP 4 rd.nd (cN (mU T bn) hr T.ia (c9 cR)))
  (au (eC r0 rfl (sX rfl T.zip (cQ (aY bH gY ak) (aY bH gY ak))) (xn rfl (cW (eK 5 rd.nd) (cW (eK 6 rd.nd) jd)))
   (ay (gO (cN (vT T bn) hr T.mK (cQ (aY bV vf cR) (aY bV vf rG))) (iK lS rG set_list))))
  (ay (aS lS)))))),?_]
 walk_at "s"
 try rw[gP]
 obtain xs|gx|qx|_:=id G;obtain ds|gd|qd:=id Rd;have lx:=qx.9;have ld:=qd.9;have lj:=qU hd;exists #[#[_,bI.of gx],#[_,bI.of gd],?_];refine vI (K:=K) (xs:=xs) (ws:=ds) (λi ys H'=>aH H H'/\jp (c5 K H H') ((dm rows due).take i) ys) lV () #[aH.refl _,.nil] (λi ys H' _ #[s,_]=>#[bI.of (s _ _ gx),bI.of (s _ _ gd)]) ?_ ?_
 ·rintro i v1 v2 ys H' r h1 h2 hy ⟨s,pr⟩ hr;obtain row|er|u|rfl|_|Ru:=cv qx h1;obtain d|ed|nd:=cv qd h2;have wr:=hw row (ar er);have sr:aH H' (upd H' r (.tup [.ref u,v2])):=aH.new hr;have gr:(upd H' r (.tup [.ref u,v2])) r=some (.tup [.ref u,v2]):=aN;generalize upd H' r (.tup [.ref u,v2])=H2 at sr gr ⊢;have s2:=s.trans sr;exists c6 λl1 H3 s3 n3 g3=>?_
  have s23:=s2.trans s3;obtain zs|gz|qz:=Ru.same s23;have lz:=qz.9;exists jS gz g3 (cA (cX (by rw[aT];lia))) λl2 H4 s4 n4 g4=>?_
  refine #[s23.trans s4,?_];rw[take_snoc (UB er ed)];exact bR (ca (λ_ _ z=>c5.same z ((sr.trans s3).trans s4)) pr) (.cons #[l2,rfl,s23.none n4,_,g4,ca (λ_ _ z=>bX.same z s4) (bR qz (.cons (nd.same s23) .nil))] .nil)
 rintro ys H1 hy ⟨s1,pr⟩ l hl;have sn:aH H1 (upd H1 l (.lst ys)):=aH.new hl;have gn:(upd H1 l (.lst ys)) l=some (.lst ys):=aN;rw[aM ()] at pr;generalize upd H1 l (.lst ys)=H2 at sn gn ⊢;have GJ:be K H H2 l (dm rows due):=zA pr sn hl gn;have s02:=s1.trans sn;walk_at "w";rw[show ((n:Int)+1)=((n+1:Nat):Int) by lia];refine #[l,n+1,w,H,_,rfl,GJ,(),(),ym hw,F,λt lp qp R ps d ls H3 gt gq GZ s3 S=>?_];have s03:=s02.trans s3;have pn:=S.rr.le;exists #[qp,dB ps,rfl,.inl (bI.of gq),rfl,Ee,?_];rw[Jz];by_cases hn:n∈ps
 ·rw[decide_eq_true hn,show (if false=true then !true else true)=true from rfl];exists k2 R ps H3 S.rr hn s03
 ·rw[decide_eq_false hn,show (if false=true then !false else false)=false from rfl];obtain lR|wR|rr:=id S.rr;obtain _|zs|gz|qz:=id GZ;have lz:=qz.9;have hl':=S.len
  have low:∀j,j < ps.9->ps.getD j 0 < n:=λj hj=>by
   have:=rr.low j hj;have:ps.getD j 0≠n:=λz=>hn (by rw[<- z];exact getD_in hj)
   lia
  obtain _|_|_|_|_|_|_|_|_|e89:=id F;rw[lj] at e89;have dsz:Sz 8999000 d:=bx S.dsz (eQ () (by rw[lj];lia));have lps:=ye (ps:=ps);exists #[n,rfl,(),λan H4 na s4 R4=>?_];rw[<- Sd (R:=R) (ps:=ps)] at R4;obtain vs0|g0|q0:=id R4;have gt4:=s4 _ _ gt;exists #[#[_,bI.of (s4 _ _ gz)],#[_,bI.of (s4 _ _ gq)],?_];refine MX (K:=K) (xs:=zs) (ws:=dB ps) (λj σ' H'=>aH H3 H'/\∃y1 y2 vs,σ'=[some (.ref p),some (.int n),some (.ref q),some (.ref t),some (.ref an),y1,y2]/\H' an=some (.lst vs)/\jp (bX K H') (xJ R ps n j) vs) () #[s4,_,_,vs0,rfl,g0,q0] (λj σ' H' _ #[e,_]=>#[bI.of (e _ _ gz),bI.of (e _ _ gq)]) ?_ ?_
  ·rintro j v1 v2 σ' H' r h1 h2 ⟨s',y1,y2,vs,rfl,ga,qa⟩ hr;obtain line|el|u|rfl|_|gu:=cv qz h1;have wl:=S.wide line (ar el);obtain pj|ej|rfl:=FW h2;have hj:j < ps.9:=(aF.mp ej).1;have ejD:ps.getD j 0=pj:=by rw[aa,ej];rfl
   have pjn:=low j hj;rw[ejD] at pjn;have v0:=S.val j n;rw[O6 el] at v0
   have ed:line.getD pj 0=d:=by
    have h:=S.val j pj;rw[O6 el] at h;have u:=rr.unit j hj j hj;rw[if_pos rfl,ejD] at u;rw[u,ui] at h;exact dW.mp h
   have sr:aH H' (upd H' r (.tup [.ref u,.int pj])):=aH.new hr;have gr:(upd H' r (.tup [.ref u,.int pj])) r=some (.tup [.ref u,.int pj]):=aN;generalize upd H' r (.tup [.ref u,.int pj])=H5 at sr gr ⊢;have gu5:=(s'.trans sr) _ _ gu;exists ck (bI.of gu5) (AO ()) ?_;exists ck (bI.of gu5) (AO ()) ?_;rw[ed];exists #[_,d,rfl,S.d0,dsz,λr6 H6 s6 g6=>?_];have d0:(d:Rat)≠0:=λz=>S.d0 (oo z)
   have n6:bX K H6 (bE R j n) (.ref r6):=by
    refine bX.mk g6 ?_;rcases Int.lt_or_lt_of_ne S.d0 with hd' | hd'
    ·rw[if_pos hd',if_pos hd'];refine oT () ?_;rw[cL,cL,v0];grind
    ·rw[if_neg (),if_neg ()];refine oT hd' ?_;rw[v0];grind
   have ga6:=(sr.trans s6) _ _ ga;have la:=qa.9;rw[mi] at la;exists fI ga6 (gH ()) rfl ?_;refine #[((s'.trans sr).trans s6).after na,_,_,_,rfl,aN,?_];rw[<- Se S.rr hj,ejD];exact ko (ca (λ_ _ z=>(bX.same z (sr.trans s6)).updL ga6) qa) pj (n6.updL ga6)
  ·rintro σ' H' ⟨s',y1,y2,vs,rfl,ga,qa⟩;rw[show zs.9=ps.9 by lia] at qa;exists k1 an R ps d.natAbs H' S.rr hn (s03.none na) (s03.trans s') #[vs,ga,qa] (by have:=S.d0;lia) (by rw[<- lj];exact S.dsz) ?_;rw[<- lj];exact Xo (by have:=S.d0;lia) S.tp S.rr
theorem Bh:sC ["grid","wide"] 2 qF:=by walk_at "d"
theorem kX (T:Txt K mg Z) (bn:bv P):T.fZ.o P w base 1 (Iu K):=by
 refine T.fZ.F.k Bh ?_;walk_at "i";obtain p|w|H0|rows|rfl|hp|hz|hw|hl|kk:=h;refine #[_,(ay (aS (bW ["place"] ["grid"] [0] (bU rfl T.range (c9 cR)) (λ_=>(eK 0)) (λ_=>b6) (λ_=>(bW ["line"] ["place"] [0] (xW K cR) (λ_=>(eK 0)) (λ_=>b6) (λ_=>(aY (gF K (by rfl)) bT cR))))))),?_];walk_at "s"
 try rw[gP]
 exists #[(),(),?_];refine d6 (n:=w) (c5 K H) (λj=>rows.map λxs=>xs.getD j 0) hw (λa b=>a.same b) ?_ ?_
 ·rintro j H1 NY NN hj s1 k1;obtain xs|gx|qx|_:=hp.same s1;exists #[#[_,bI.of gx],?_];refine df (K:=K) (F:=c5 K H0) (bX K) (λxs=>xs.getD j 0) gx qx hz (λa b=>a.same b) (λa b=>a.same b) ?_ ?_
  ·rintro i ns x H2 NY2 NN2 en s2 ⟨u,rfl,_,zs,gz,qz⟩ k2;obtain v|ev|hv:=F4 qz (j:=j) (by rw[hl ns (ar en)];exact hj);exists ck (bI.of gz) ev ?_;exact k2 _ _ (aH.refl _) hv
  ·rintro ys' H2 r hr s2 g pr nx;exact k1 _ _ s2 #[r,rfl,s1.none hr,ys',g,pr]
 ·rintro ys' H1 r hr s1 g pr nx;exact kk r H1 hr s1 #[ys',g,pr,iS nx]
theorem Be:sC ["rows","wide","due","answer","columns"] 3 Fj:=by walk_at "d"
theorem P8 (T:Txt K mg Z) (bn:bv P):T.yh.o P w base 6 (DJ K):=by
 refine T.yh.F.k Be ?_;walk_at "i";obtain p|q|n|w|w1|H0|rows|due|rfl|G|Rd|hd|m90|n90|hw|F|F1|k1|k2:=h
 refine #[_,(au (eP 3 Be.nd (cN (D7 T bn) hr T.rz (sZ bT cR dQ)))
  (au (cY (bf Fv gY vg (br _)) (ay (aS (cJ (cQ kU gY)))) bN)
  (au (eP 4 Be.nd (cN (kX T bn) hr T.fZ (cQ bT cR)))
  (ay (aS (cJ (cQ kU (cN (D7 T bn) hr T.rz (sZ (bD jU lS (dC (c9 dQ))) (bg aU (by rfl) T.len aP (c9 bT)) (bD jU (cN (mU T bn) hr T.ia (c9 cR)) (dC (c9 (mT (v:=.ref Z.a_ONE) rfl T.mg_ONE rfl))))))))))))),?_]
 walk_at "s"
 try rw[gP]
 exists #[p,q,n,w,H0,rows,due,rfl,G,Rd,hd,(),(),hw,F,λx R ps M H1 RR hn nx s1 Rx M0 M1 tM=>?_,λR ps H1 RR hn s1=>?_]
 ·exists #[rfl,_,rfl,?_];rw[show decide (V.ref x=V.non)=false from decide_eq_false (λz=>nomatch z)];exists bS λt H2 s2 g2=>?_
  exact k1 t x R ps M H2 RR hn g2 nx (s1.trans s2) (Rx.same s2) M0 M1 tM
 ·exists #[rfl,_,rfl,?_];rw[show decide (V.non=V.non)=true from decide_eq_true rfl];exists #[p,n,H0,rows,rfl,G.same s1,(),(),hw,λco H2 nc s2 G2=>?_];have s02:=s1.trans s2;exists c6 λl3 H3 s3 n3 g3=>?_
  obtain cs|gc|qc|_:=G2.same s3;have lc:=qc.9;rw[di] at lc;exists jS gc g3 (cA (cX (by rw[aT];lia))) λl4 H4 s4 n4 g4=>?_
  have s03:=s02.trans s3;have s04:=s03.trans s4;have G4:be K (λ_=>none) H4 l4 (b8 rows n++[due]):=zA (H:=H3) (bR (ca (λ_ _ #[q',a,_,c]=>#[q',a,rfl,c]) qc) (.cons #[q,rfl,rfl,Rd.same s03] .nil)) s4 n4 g4;obtain xs|gx|qx|_:=G.same s04;have lx:=qx.9;exists #[_,_,rfl,.inl (bI.of gx),?_];rw[<- lx];exists #[n,rfl,(),λl5 H5 n5 s5 R5=>?_];exists c6 λl6 H6 s6 n6 g6=>?_
  obtain zs|gz|qz:=R5.same s6;have lz:=qz.9;rw[aI] at lz;exists jS gz g6 (cA (cX (by rw[aT];lia))) λl7 H7 s7 n7 g7=>?_
  have s47:=(s5.trans s6).trans s7;have s07:=s04.trans s47;have R7:cC K H7 l7 (ce n 0++[1]):=#[_,g7,ca (λ_ _ z=>bX.same z s7) (bR qz (.cons #[_,rfl,T.sq_ONE _] .nil))];have l1:(b8 rows n++[due]).9=n+1:=by rw[ai,di];rfl
  have w1':∀xs∈b8 rows n++[due],xs.9=rows.9:=λxs hx=>by
   rcases av.mp hx with hx | hx
   ·exact ks xs hx
   ·rw[bA.mp hx];exact hd
  exists #[l4,l7,rows.9,w1,_,_,_,rfl,G4.same s47,R7,by rw[l1,ai,aI];rfl,(),(),w1',F1,λx R1 p1 M H8 RR1 hn1 nx s8 Rx M0 M1 tM=>?_,λR1 p1 H8 RR1 hn1 s8=>?_]
  ·exists bS λt H9 s9 g9=>?_
   rw[l1] at M1 tM;exact k2 t x R ps R1 p1 M H9 RR hn RR1 hn1 g9 (s07.none nx) ((s07.trans s8).trans s9) (Rx.same s9) M0 M1 tM
  ·exact absurd hn1 (NJ hd hw RR hn RR1)
theorem uD:sC ["rows","wide","row","answer"] 3 qC:=by walk_at "d"
theorem BE (T:Txt K mg Z) (bn:bv P):T.kZ.o P w base 7 (zM K):=by
 refine T.kZ.F.k uD ?_;walk_at "i";obtain p|q|n|w|w1|H0|rows|row|rfl|G|Rr|hl|m90|n90|hw|F|F1|k1|k2:=h
 refine #[_,(au (eP 3 uD.nd (cN (P8 T bn) hr T.yh (sZ (cN (kX T bn) hr T.fZ (cQ bT cR)) (bg aU (by rfl) T.len aP (c9 bT)) dQ)))
  (ay (aS (cJ (cQ (Jf (bf fq (aY bH gY ak) kU (br _)) kU kU) (aY bH gY ak)))))),?_]
 walk_at "s"
 try rw[gP]
 exists #[p,n,H0,rows,rfl,G,(),(),hw,λco H1 nc s1 G1=>?_];obtain xs|gx|qx|_:=G.same s1;have lx:=qx.9;exists #[_,_,rfl,.inl (bI.of gx),?_];rw[<- lx];have lT:(b8 rows n).9=n:=di;have eS:Ph (b8 rows n) rows.9 row=dm (rows++[row]) (ce rows.9 0++[1]):=by unfold Ph;rw[Nl hw]
 exists #[co,q,rows.9,w,w1,_,b8 rows n,row,rfl,G1,Rr.same s1,(),(),(),λxs hx=>ks xs hx,F,by rw[eS,lT];exact F1,λt x R ps M H2 RR hn g2 nx s2 Rx M0 M1 tM=>?_,λt x R ps R1 p1 M H2 RR hn RR1 hn1 g2 nx s2 Rx M0 M1 tM=>?_]
 ·rw[lT] at M1 tM;walk_at "w";rw[decide_eq_true rfl];exists bS λt2 H3 s3 g3=>?_
  exact k1 t2 x R ps M H3 RR hn g3 (s1.none nx) ((s1.trans s2).trans s3) (Rx.same s3) M0 M1 tM
 ·rw[lT] at M1 tM RR1 hn1 Rx;rw[eS] at RR1;walk_at "w";rw[decide_eq_false (show ¬(wP "no"=wP "yes") by decide)];exists bS λt2 H3 s3 g3=>?_
  exact k2 t2 x R ps R1 p1 M H3 RR hn RR1 hn1 g3 (s1.none nx) ((s1.trans s2).trans s3) (Rx.same s3) M0 M1 tM
theorem Pt:sC ["one","other"] 2 Fm:=by walk_at "d"
theorem Jk (T:Txt K mg Z) (bn:bv P):T.vA.o P w base 3 (rP K (λx y=>x - y)):=by
 refine T.vA.F.ok Pt (λvs H Q E h=>?_) (λcdv A outer s H vs Q E hr h=>?_)
 ·obtain p|q|a|b|c|d|rfl|hp|hq|hb|hd|sa|sb|sc|sd|k:=Aw h;rfl
 ·obtain p|q|a|b|c|d|rfl|hp|hq|hb|hd|sa|sb|sc|sd|k:=Aw h;refine #[_,(ay (aS (cN (vT T bn) hr T.mK (cQ (bD jr (bD dn (aY bH bT ak) (aY bH cR ak)) (bD dn (aY bH cR ak) (aY bH bT ak))) (bD dn (aY bH bT ak) (aY bH cR ak)))))),?_];refine rg (σ:=[some (.ref p),some (.ref q)]) rfl ?_
  try rw[gP]
  have hbd:0 < b*d:=j9 hb hd;have sbd:Sz 8999000 (b*d):=(sb.mul sd).mono ();exists gZ (show iH _ _ from .inr #[_,_,sa,sd,()]) ?_;exists gZ (show iH _ _ from .inr #[_,_,sc,sb,()]) ?_;exists gZ (show iH _ _ from .inr #[_,_,sb,sd,()]) ?_;walk_at "w";exists #[_,_,rfl,(),sbd,λr H' s' h'=>?_];rw[if_neg (),if_neg ()] at h';exact k r H' s' h'
theorem E6:sC ["one","other"] 2 uJ:=by walk_at "d"
theorem Fz (T:Txt K mg Z) (bn:bv P):T.oG.o P w base 4 (yN K):=by
 refine T.oG.F.k E6 ?_;walk_at "i";obtain p|q|xq|yq|rfl|hp|hq|hl|hz|hn|hm|k:=h;refine #[_,(ay (aS (bW ["mine","yours"] [] [] (sX rfl T.zip (cQ bT cR)) (λ_=>(pS K 2 (cW (eK 0) (cW (eK 1) jd)))) (λ_=>b6) (λ_=>(cN (Jk T bn) hr T.vA (cQ bT cR)))))),?_];walk_at "s"
 try rw[gP]
 obtain xs|gx|qx:=id hp;obtain ys|gy|qy:=id hq;have lx:=qx.9;have ly:=qy.9;exists #[#[_,bI.of gx],#[_,bI.of gy],?_];refine vI (K:=K) (xs:=xs) (ws:=ys) (λi zs H'=>aH H H'/\jp (bX K H') ((xL (λx y=>x - y) xq yq).take i) zs) lV () #[aH.refl _,.nil] (λi zs H' _ #[s,_]=>#[bI.of (s _ _ gx),bI.of (s _ _ gy)]) ?_ ?_
 ·rintro i x y zs H' r hx hy hlen ⟨s,hP⟩ hr;obtain n|en|hn1:=cv qx hx;obtain m|em|hm1:=cv qy hy;have s1:=aH.new (o:=.tup [x,y]) hr;have s01:=s.trans s1;have gr:(upd H' r (.tup [x,y])) r=some (.tup [x,y]):=aN;generalize upd H' r (.tup [x,y])=Hr at s1 s01 gr ⊢;exists #[_,_,n,m,rfl,hn1.same s01,hm1.same s01,hn n (ar en),hm m (ar em),λr3 H3 s3 h3=>?_];refine #[s01.trans s3,?_];have ez:(xL (λx y=>x - y) xq yq)[i]?=some (n - m):=by rw[b9,en,em]
  rw[take_snoc ez];exact bR (ca (λ_ _ z=>z.same (s1.trans s3)) hP) (.cons h3 .nil)
 ·rintro zs H' hy ⟨s,hP⟩ l hl';rw[aM (by rw[cu];lia)] at hP;exact k l _ (s.none hl') (s.trans (aH.new hl')) #[zs,aN,ca (λ_ _ z=>z.same (aH.new hl')) hP]
theorem tZ:sC ["self","state","puts","columns"] 3 iq:=by walk_at "d"
theorem Ad (T:Txt K mg Z) (bn:bv P):qW P w K mg base KD 5 Z.pL Z.pK ["self","state","puts"] (DS K Z.a_System):=by
 refine T.vR.k tZ ?_;walk_at "i";obtain x|p|q|H0|mv|pt|lk|st|pu|rfl|S|D|F|hp|hq|l1|l2|fs|k:=h
 refine #[_,(au (eP 3 tZ.nd (cN (kX T bn) hr T.fZ (cQ (hJ bT rfl) (hJ bT rfl))))
  (ay (aS (bW ["line","column"] ["state","puts"] [1,2] (sX rfl T.zip (cQ (hJ bT rfl) gY)) (λ_=>(pS K 2 (cW (eK 0) (cW (eK 1) jd)))) (λ_=>b6) (λ_=>(cN (xu T bn) hr T.mJ (cQ (bD jU bT cR) (bD jU dQ gY)))))))),?_]
 walk_at "s"
 try rw[gP]
 obtain dx|a|b|c|gx|n1|n2|n3|Ga|Gb|Gc:=id S;have d1:=D.n8;have d2:=D.i4;exists #[x,Z.a_System,dx,_,_,rfl,gx,T.cl_System,T.na_put,EW,?_];exists #[x,Z.a_System,dx,_,_,rfl,gx,T.cl_System,T.na_states,iI,?_];exists #[b,mv.9,H0,pt,rfl,Gb,(),(),D.pw,λt H1 nt s1 Gt=>?_];obtain as|ga|qa|_:=Ga.same s1;obtain ts|gt|qt|_:=id Gt;have la:=qa.9;have lt:=qt.9;rw[di] at lt;have gx1:=s1 _ _ gx;exists #[x,Z.a_System,dx,_,_,rfl,gx1,T.cl_System,T.na_move,AV,?_];exists #[#[_,bI.of ga],#[_,bI.of gt],?_];refine vI (K:=K) (xs:=as) (ws:=ts) (λi ys H'=>aH H1 H'/\jp (bX K H') ((iZ mv pt st pu).take i) ys) lV () #[aH.refl _,.nil] (λi ys H' _ #[s,_]=>#[bI.of (s _ _ ga),bI.of (s _ _ gt)]) ?_ ?_
 ·rintro i v1 v2 ys H' r h1 h2 hy ⟨s,pr⟩ hr;obtain line|el|u1|rfl|_|R1:=cv qa h1;obtain col|ec|u2|rfl|_|R2:=cv qt h2;have ml:=ar el;have mc:=ar ec;have sr:aH H' (upd H' r (.tup [.ref u1,.ref u2])):=aH.new hr;have gr:(upd H' r (.tup [.ref u1,.ref u2])) r=some (.tup [.ref u1,.ref u2]):=aN;have s2:=s.trans sr;generalize upd H' r (.tup [.ref u1,.ref u2])=H2 at sr gr s2 ⊢;have lc:col.9=pt.9:=ks col mc;have ll:line.9=mv.9:=D.mw line ml;obtain z1|g1|q1:=R1.same s2;obtain z2|g2|q2:=R2.same s2;have y1:=q1.9;have y2:=q2.9;exists jS g1 g2 lV λc1 H3 s3 n3' g3=>?_
  have s13:=s2.trans s3;obtain z3|g4|q3:=(hp.same s1).same s13;obtain z4|g5|q4:=(hq.same s1).same s13;have y3:=q3.9;have y4:=q4.9;exists jS g4 g5 lV λc2 H4 s4 n4 g6=>?_
  have s34:=s3.trans s4;exists #[c1,c2,line++col,st++pu,rfl,#[_,s4 _ _ g3,ca (λ_ _ z=>z.same s34) (bR q1 q2)],#[_,g6,ca (λ_ _ z=>z.same s4) (bR q3 q4)],by rw[ai,ai];lia,by rw[ai];lia,.sys ?_ fs,λr2 H5 s5 h5=>?_]
  ·refine F.fits λy hy=>?_
   rcases av.mp hy with hy | hy
   ·exact .inl #[line,ml,hy]
   ·obtain j|_|rfl:=aB.mp mc;obtain xs|hx|rfl:=aB.mp hy;by_cases hj:j < xs.9
    ·refine .inr (.inl #[xs,hx,?_]);rw[aa,ae hj];exact aQ hj
    ·exact .inr (.inr (.inr (by rw[aa,aE ()];rfl)))
  ·have em:(iZ mv pt st pu)[i]?=some (cb (line++col) (st++pu)):=by
    unfold iZ;rw[b9,el,ec]
   refine #[((s2.trans s34).trans s5),?_];rw[take_snoc em];exact bR (ca (λ_ _ z=>(z.same (sr.trans s34)).same s5) pr) (.cons h5 .nil)
 ·rintro ys H' hy ⟨s,pr⟩ l hl;have lm:(iZ mv pt st pu).9=mv.9:=by unfold iZ;rw[cu,di];lia
  rw[aM ()] at pr;exact k l _ (s1.none (s.none hl)) ((s1.trans s).trans (aH.new hl)) #[ys,aN,ca (λ_ _ z=>z.same (aH.new hl)) pr]
theorem yQ:sC ["system","start","puts","states","row"] 3 Bo:=by walk_at "d"
theorem NS (T:Txt K mg Z) (bn:bv P):T.vY.o P w base 6 (A8 K Z.a_System):=by
 refine T.vY.F.k yQ ?_;walk_at "i";obtain x|s|p|H0|H1|mv|pt|lk|pus|st|rfl|S|D|F|Rs|ls|Gp|lp|wp|cf|k:=h
 refine #[_,(au (eP 3 yQ.nd (dC (c9 (eJ tQ (by rfl) T.list wv (c9 cR)))))
  (au (eC r0 rfl (cM dQ) (eK 4 yQ.nd)
   (ay (jc (wH dh dH dG kD gY (c9 (S8 bT T.cl_System T.uf (Ad T bn) (hr.mono ()) T.vK .nil BA (cQ (aY bV gY (xX rM ak)) lS)))))))
  (ay (aS gY)))),?_]
 walk_at "s"
 try rw[gP]
 have d1:=D.n8;obtain ss|gs|qs:=id Rs;obtain ps|gp|qp|_:=id Gp;have lps:=qp.9;exists #[s,ss,rfl,.inl (bI.of gs),λc hc=>?_];have sc:aH H (upd H c (.lst ss)):=aH.new hc;have Rc:cC K (upd H c (.lst ss)) c st:=#[ss,aN,ca (λ_ _ z=>z.same sc) qs];generalize upd H c (.lst ss)=Hc at sc Rc ⊢;exists c6 λl Hl sl nl gl=>?_
 have hl0:=sc.none nl;have s0:=sc.trans sl;have cl:c≠l:=λz=>by obtain _|g|_:=Rc;rw[z,nl] at g;cases g
 have pr0:jp (zK K H l Hl) ((qe mv pt st pus).take 1) [V.ref c]:=by
  have:(qe mv pt st pus).take 1=[st]:=by
   have e:=take_snoc (v9 (mv:=mv) (pt:=pt) (st:=st) (pus:=pus) (k:=0) (a7 _));rw[e];rfl
  rw[this];exact .cons #[c,rfl,hc,cl,Rc.same sl] .nil
 exists #[#[_,bI.of (s0 _ _ gp)],?_];refine jy (K:=K) (a:=p) (xs:=ps) (λi σ' H'=>aH H H'/\(∃y ys,σ'=[some (.ref x),some (.ref s),some (.ref p),some (.ref l),y]/\H' l=some (.lst ys)/\jp (zK K H l H') ((qe mv pt st pus).take (i+1)) ys)) #[s0,_,_,rfl,gl,pr0] (λi σ' H' _ #[e,_]=>bI.of (e _ _ gp)) ?_ ?_
 ·rintro i v σ' H' hv ⟨e,y,ys,rfl,g,pr⟩;obtain pu|epu|u|rfl|_|Ru:=cv qp hv;have hi:i < pus.9:=(aF.mp epu).1;have mp:=ar epu;have ly:=pr.9;rw[bP,xB] at ly;have ec:=v9 (mv:=mv) (pt:=pt) (st:=st) (pus:=pus) (k:=i) ();have el:ys[i]?=some (ys[i]'()):=ae ()
  obtain ⟨vl,evl,q,hq1,hq2,hq3,Rq⟩:∃vl,ys[i]?=some vl/\∃q,vl=V.ref q/\H q=none/\q≠l/\cC K H' q (qX mv pt st pus i):=by
   obtain xs|ex|w:=cv pr el;rw[ow (),ec] at ex;cases ex;exact #[_,el,w]
  subst hq1
  have ey:∃zs,ys=zs++[V.ref q]:=by
   refine #[ys.take i,?_];rw[<- take_snoc evl,aM ()]
  obtain zs|rfl:=ey;exists #[.inl #[rfl,_,bI.of g],?_];walk_at "w";obtain dx|_|_|_|gx|_:=S.same e;refine #[x,dx,_,rfl,gx,Nq,?_];exists ck (bI.of g) (vL _ _) ?_;exists #[x,q,u,H0,mv,pt,lk,_,pu,rfl,S.same e,D,F,Rq,Ru.same e,rO ls (),wp pu mp,cf.both () mp,λr1 H2 n2 s2 R2=>?_];have gn:=s2 _ _ g;exists jB gn (cX ()) ?_;refine #[NC (e.trans s2) hl0,_,_,rfl,aN,?_];rw[take_snoc (v9 ()),uB epu];have rl:r1≠l:=λz=>by rw[z,g] at n2;cases n2
  exact bR (ca (λ_ _ z=>(zK.same z s2).upd gn) pr) (.cons #[r1,rfl,e.none n2,rl,R2.updL gn rl] .nil)
 ·rintro σ' H' ⟨e,y,ys,rfl,g,pr⟩;walk_at "w";rw[aM (by rw[xB];lia)] at pr;exact k l H' hl0 e #[ys,g,ca (λ_ _ z=>zK.rowF z) pr,Br pr]
theorem Bg:sC ["system","steps"] 2 qE:=by walk_at "d"
theorem vp (T:Txt K mg Z) (bn:bv P):T.jv.o P w base 2 (IA K Z.a_System):=by
 refine T.jv.F.k Bg ?_;walk_at "i";obtain x|tt|H0|mv|pt|lk|rfl|hT|S|D|k:=h;refine #[_,(ay (aS (bW ["step"] ["system"] [0] (bU rfl T.range (c9 cR)) (λ_=>(eK 0)) (λ_=>b6) (λ_=>(cN (mU T bn) hr T.ia (c9 (MG K cR rfl))))))),?_];walk_at "s"
 try rw[gP]
 obtain dx|a'|b'|c'|gx|_|_|_|Ga|Gb|Gc:=id S;have i4:=D.i4;exists #[(),(),?_];refine d6 (n:=tt) (c5 K H) (λ(_:Nat)=>ce pt.9 (0:Rat)) () (λa b=>a.same b) ?_ ?_
 ·rintro i Hb NY NN hi sa k1;exists #[x,Z.a_System,dx,_,_,rfl,sa _ _ gx,T.cl_System,T.na_ins,Mo,?_];exists #[pt.9,rfl,(),λr H2 nr s2 R2=>k1 _ _ s2 #[r,rfl,sa.none nr,R2]]
 rintro ys Hz t ht sz g pr nx;have e:(on tt).map (λ(_:Nat)=>ce pt.9 (0:Rat))=ce tt (ce pt.9 0):=by rw[kG,bB]
 rw[e] at pr nx;exact k t Hz ht sz #[ys,g,pr,iS nx]
theorem K2:sC ["system","start","goal","steps"] 4 yY:=by walk_at "d"
theorem Li (T:Txt K mg Z) (bn:bv P):T.tF.o P w base 7 (IG K Z.a_System):=by
 refine T.tF.F.k K2 ?_;walk_at "i";obtain x|s|g|tt|H0|mv|pt|lk|st|go|rfl|hT|S|D|F|Rs|ls|Rg|lg|cf|sg|k:=h;refine #[_,(ay (aS (cN (Fz T bn) hr T.oG (cQ dQ (aY bV (cN (NS T bn) hr T.vY (sZ bT cR (cN (vp T bn) hr T.jv (cQ bT gY)))) (xX rM ak)))))),?_];walk_at "s"
 try rw[gP]
 have d8:=D.n8;have i4:=D.i4;exists #[x,tt,H0,mv,pt,lk,rfl,(),S,D,λp1 H1 n1 s1 G1=>?_];exists #[x,s,p1,H0,H,mv,pt,lk,_,st,rfl,S.same s1,D,F,Rs.same s1,ls,G1,by rw[aI];lia,λxs hx=>by rw[(dE.mp hx).2,aI],cf,λp2 H2 n2 s2 G2=>?_];obtain us|gu|qu|_:=id G2;have lu:=qu.9;rw[xB,aI] at lu;have ec:=v9 (mv:=mv) (pt:=pt) (st:=st) (pus:=ce tt (ce pt.9 0)) (k:=tt) (by rw[aI];exact ah _);have el:us[tt]?=some (us[tt]'()):=ae ()
 obtain ⟨q,eq,Rq⟩:∃q,us[tt]?=some (V.ref q)/\cC K H2 q (jT mv tt st):=by
  obtain xs|ex|q|e|_|w:=cv qu el;rw[ec] at ex;cases ex;rw[KS D ls] at w;exact #[q,by rw[el,e],w]
 have ey:∃zs,us=zs++[V.ref q]:=by
  refine #[us.take tt,?_];rw[<- take_snoc eq,aM ()]
 obtain zs|rfl:=ey
 have szp:∀y∈jT mv tt st,jX y:=λy hy=>by
  have:=(cf.state (k:=tt) (by rw[aI];exact ah _)).szn (x:=y);rw[KS D ls] at this;exact this hy
 exists ck (bI.of gu) (vL _ _) ?_;exists #[g,q,go,_,rfl,(Rg.same s1).same s2,Rq,by rw[lg,oA ls],(),sg,szp,λr H3 n3 s3 R3=>k r H3 ((s1.trans s2).none n3) ((s1.trans s2).trans s3) R3]
theorem U9:sC ["row","many","wide"] 3 Pw:=by walk_at "d"
theorem VR (T:Txt K mg Z) (bn:bv P):T.FX.o P w base 1 (Mv K):=by
 refine T.FX.F.k U9 ?_;walk_at "i";obtain p|u|kk|w|rfl|Rw|lw|uk|u1|k1|k:=h;refine #[_,(ay (aS (bW ["turn"] ["row","wide"] [0,2] (bU rfl T.range (c9 cR)) (λ_=>(eK 0)) (λ_=>b6) (λ_=>(rh (Bc K (by rfl)) cR (sW (bD dn bT dQ)) (sW (bD dn (bD fz bT ak) dQ))))))),?_];walk_at "s"
 try rw[gP]
 obtain xs|gx|qx:=id Rw;have lx:=qx.9;exists #[(),(),?_];refine d6 (n:=u) (c5 K H) (λt=>(w.drop (t*kk)).take kk) () (λa b=>a.same b) ?_ ?_
 ·rintro i Hb NY NN hi sa k2;have b1:i*kk+kk<=u*kk:=by rw[<- d7];exact ax _ hi
  exists gZ (GX () ()) ?_;exists gZ (M8 () ()) ?_;walk_at "w";rw[show ((i:Int)*(kk:Int))=((i*kk:Nat):Int) by lia,show (((i:Int)+1)*(kk:Int))=((i*kk:Nat):Int)+(kk:Int) by rw[Int.add_mul,Int.one_mul];lia];refine #[p,xs,rfl,bI.of (sa _ _ gx),λr hr=>?_];rw[TF ()];have sn:=aH.new (o:=.lst ((xs.drop (i*kk)).take kk)) hr;exact k2 _ _ sn #[r,rfl,sa.none hr,_,aN,ca (λ_ _ z=>(z.same sa).same sn) (pT (qQ qx _) _)]
 rintro ys Hz t ht sz g pr nx;exact k t Hz ht sz #[ys,g,pr,iS nx]
theorem xM:sC ["system","start","goal","steps","used","rows","answer","latest_first"] 4 K7:=by walk_at "d"
theorem Td (T:Txt K mg Z) (bn:bv P):T.AE.o P w base 8 (IM K Z.a_System):=by
 refine T.AE.F.k xM ?_;walk_at "i";obtain x|s|g|tt|a|c|D0|W0|E0|W1|H0|mv|pt|lk|st|go|rfl|hT|S|D|SF|F|Rs|ls|Rg|lg|cf|sg|CF|k1|k2:=h
 refine #[_,(au (eP 4 xM.nd (bD jr (bg aU (by rfl) T.len aP (c9 (cN (vo T bn) hr T.ju (cQ bT gY)))) ak))
  (au (eP 5 xM.nd (cN (Tc T bn) hr T.AB (c9 (cN (FE T bn) hr T.oI (cQ bT lS)))))
  (au (eP 6 xM.nd (cN (BE T bn) hr T.kZ (sZ vf (hJ bT rfl) (cN (Li T bn) hr T.tF (Jg bT cR dQ gY)))))
  (au (cY (bf fq (aY bH rG ak) kU (br _)) (ay (aS (cJ (cQ kU (aY bH rG ak))))) bN)
  (au (eP 7 xM.nd (cN (VR T bn) hr T.FX (sZ (aY bH rG ak) lS (hJ bT rfl))))
  (ay (aS (cJ (cQ kU (bD jU (cN (vp T bn) hr T.jv (cQ bT (bD jr gY lS))) (Le K rfl T.list rfl T.reversed (c9 Ig)))))))))))),?_]
 walk_at "s"
 try rw[gP]
 have d8:=D.n8;have i4:=D.i4;obtain dx|a'|b'|c'|gx|_:=id S;exists #[x,a,c,tt,H0,mv,pt,lk,rfl,(),S,D,F,λr1 Rs1 H1 n1 s1 GL Gw ln hlast=>?_];obtain us|gus|pus1:=id GL;have lus:=pus1.9;have rne:=Gw.ne;have lpos:0 < Rs1.9:=List.length_pos_iff.mpr rne;exists #[_,_,rfl,.inl (bI.of gus),?_];rw[<- lus];obtain ⟨u,eu⟩:∃u,Rs1.9=u+1:=#[Rs1.9 - 1,()];rw[eu];have eL:Rs1[u]?=some (Rs1[u]'()):=ae ();obtain ⟨R,eR⟩:∃R,Rs1[u]?=some R:=#[_,eL];obtain ps|RRu:=Gw.rr u R eR;have ul:=Gw.len u R eR;have un:u<=mv.9:=by have:=RRu.le;have:=RRu.1;lia
 have uT:u<=tt:=()
 obtain ⟨psT,RRT⟩:∃ps,bo (kry mv pt tt) mv.9 R ps:=by
  refine hlast R ?_ tt ();rw[List.getLast?_eq_getElem?,eu];exact eR
 have CU:=Gw.cmu eR RRT;walk_at "w";rw[show ((((u+1:Nat):Int)) - 1)=(u:Int) by lia];refine #[x,u,a,c,H0,mv,pt,lk,rfl,un,S.same s1,D,F,λr2 us2 H2 n2 s2 g2 p2=>?_];have s02:=s1.trans s2;have kl:=vZ (mv:=mv) (pt:=pt) u;have kl2:u*pt.9<=8*4:=aK () i4;exists #[r2,us2,OC mv pt u,rfl,g2,p2,by rw[we];lia,λr3 H9 H3 n3 s3 G3=>?_];rw[we] at G3;have s03:=s02.trans s3;exists #[x,Z.a_System,dx,_,_,rfl,s03 _ _ gx,T.cl_System,T.na_states,iI,?_];exists #[x,s,g,tt,H0,mv,pt,lk,st,go,rfl,hT,S.same s03,D,SF,Rs.same s03,ls,Rg.same s03,lg,cf,sg,λr4 H4 n4 s4 R4=>?_];have s04:=s03.trans s4;have lL:=Jt (T:=tt) ls lg;have wk:=eO (mv:=mv) (pt:=pt) rfl D.pw u;have tk:=CF.tk u un;have up0:∀y,Tp D0 W0 y->Tp (D0*E0) (W0*E0+W1*D0+D0*E0) y:=λy h=>h.up E0 ()
 have up1:∀y,Tp E0 W1 y->Tp (D0*E0) (W0*E0+W1*D0+D0*E0) y:=λy h=>by
  rw[b7 D0 E0];exact h.up D0 ()
 have up2:∀y,y=0\/y=1->Tp (D0*E0) (W0*E0+W1*D0+D0*E0) y:=λy h=>by
  rcases h with rfl | rfl
  ·exact Tp.zero
  ·exact #[((D0*E0:Nat):Int),by rw[Ry,aL],by rw[bM];lia]
 obtain wa|sw1:=CF.join (rows:=b8 (kry mv pt u) mv.9) (due:=gM mv tt st go) (n':=(kry mv pt u).9+1) (by rw[di];exact lL) (λys hy y hy'=>by
  obtain j|_|rfl:=aB.mp hy;obtain zs|hz|rfl:=aB.mp hy';exact up0 _ (kJ (tk zs hz) j)) (λy hy=>up1 y (CF.tl y hy)) d8 (by rw[di];lia)
 obtain wb|sw2:=CF.join (rows:=kry mv pt u++[gM mv tt st go]) (due:=ce (kry mv pt u).9 0++[1]) (n':=mv.9+1) (by simp) (λys hy y hy'=>by
  rcases av.mp hy with hy | hy
  ·exact up0 _ (tk ys hy y hy')
  ·rw[bA.mp hy] at hy';exact up1 _ (CF.tl y hy')) (λy hy=>by
  rcases av.mp hy with hy | hy
  ·exact up2 _ (.inl (dE.mp hy).2)
  ·exact up2 _ (.inr (bA.mp hy))) d8 (z9 _ _)
 exists #[r3,r4,mv.9,wa,wb,H9,kry mv pt u,gM mv tt st go,rfl,G3.same s4,R4,lL,(),(),wk,sw1,sw2,#[λt5 x5 R5 ps5 M5 H5 RR5 hn5 g5 n5 s5 R5' M50 M51 tp5=>?_,λt5 x5 R5 ps5 R6 ps6 M5 H5 RR5 hn5 RR6 hn6 g5 n5 s5 R5' M50 M51 tp5=>?_]]
 ·have s05:=s04.trans s5;have x50:=s04.none n5;have ew:=Nj lL RR5 hn5;have CP:WH mv pt tt (gM mv tt st go) (Bu (ip R5 ps5 (kry mv pt u).9) tt u pt.9):=#[u,R5,ps5,CU,RR5,hn5,rfl];have lw:(ip R5 ps5 (kry mv pt u).9).9=(kry mv pt u).9:=mi;obtain q|q0|q1|q2:=U7 wk lL () CF.d0 CF.e0 CF.w0 CF.w1 tk CF.tl RR5 hn5;generalize ip R5 ps5 (kry mv pt u).9=ws at ew lw q2 R5' tp5 CP;have lead:=LY D ls lg uT lw ew;have lw2:ws.9=u*pt.9:=by rw[lw,kl]
  walk_at "w";rw[decide_eq_false (show ¬(wP "in"=wP "out") by decide)];exists #[x,Z.a_System,dx,_,_,rfl,s05 _ _ gx,T.cl_System,T.na_ins,Mo,?_];exists #[x5,u,pt.9,ws,rfl,R5',lw2,(),(),(),λr6 H6 n6 s6 G6=>?_];have s06:=s05.trans s6;walk_at "w";rw[show ((tt:Int) - (u:Int))=((tt - u:Nat):Int) by lia];refine #[x,tt - u,H0,mv,pt,lk,rfl,(),S.same s06,D,λr7 H7 n7 s7 G7=>?_];obtain vs|gv|qv|_:=id (G6.same s7);have lv:=qv.9;have lc:(Ak ws u pt.9).9=u:=by unfold Ak;rw[af,bB]
  unfold Ip;exists #[r6,vs,rfl,bI.of gv,(),λr8 H8 s8 n8 g8=>?_];have s67:=s7.trans s8;obtain zs|gz|qz|_:=id (G7.same s8);have lz:=qz.9;rw[aI] at lz;exists jS gz g8 (cA (cX (by rw[nX];lia))) λr9 H9 s9 n9 g9=>?_
  have s09:=(s06.trans s67).trans s9;have qz0:jp (c5 K H H8) (ce (tt - u) (ce pt.9 0)) zs:=ca (λ_ _ #[q,a,b,c]=>#[q,a,s06.none b,c]) qz;have qv0:jp (c5 K H H8) (Ak ws u pt.9).reverse vs.reverse:=BB (ca (λ_ _ #[q,a,b,c]=>#[q,a,s05.none b,cC.same c s8]) qv);have G9:be K H H9 r9 (Bu ws tt u pt.9):=#[_,g9,ca (λ_ _ z=>c5.same z s9) (bR qz0 qv0),iS #[H8,n9,bR qz0 qv0]];exists bS λt10 H10 s10 g10=>?_
  exact k1 t10 r9 _ q H10 g10 ((s06.trans s67).none n9) (s09.trans s10) (G9.same s10) (ME uT) (Uv lw2) lead CP q0 q1 (S4 Tp.zero q2)
 ·have s05:=s04.trans s5;have x50:=s04.none n5;have lw:(ip R6 ps6 mv.9).9=mv.9:=mi;obtain pr1|pr2:=NI wk lL RR6 hn6;obtain q|q0|q1|q2:=P2 wk lL () CF.d0 CF.e0 CF.w0 tk CF.tl RR6 hn6;walk_at "w";rw[decide_eq_true rfl];exists bS λt10 H10 s10 g10=>?_
  exact k2 t10 x5 _ q H10 g10 x50 (s05.trans s10) (R5'.same s10) lw (NK D.pw RRu RRT lw pr2) pr1 #[u,R5,ps5,R6,ps6,CU,RR5,hn5,RR6,rfl] q0 q1 q2
theorem rQ:sC ["system","start","goal","most","prices","steps","answer"] 4 yT:=by walk_at "d"
theorem Lg (T:Txt K mg Z) (bn:bv P):T.tz.o P w base 9 (Iw K Z.a_System):=by
 refine T.tz.F.k rQ ?_;walk_at "i";obtain x|s|g|tt|a|c|H0|mv|pt|lk|st|go|rfl|hT|S|D|SF|KF|Rs|ls|Rg|lg|SO|k:=h
 refine #[_,(au (eP 4 rQ.nd (dC ir))
  (au (eC r0 rfl (bU rfl T.range (c9 (bD fz gY ak))) (eK 5 rQ.nd)
   (au (eP 6 rQ.nd (cN (Td T bn) hr T.AE (Jg bT cR dQ vf)))
  (au (cY (bf fq (aY bH rG ak) kU (br _)) (ay (aS (cJ (sZ vf (aY bH rG ak) lS)))) bN)
  (ay (jc (wH dh dH dG kD lS (c9 (aY bH rG ak))))))))
  (ay (aS (cJ (sZ vg (dC ir) lS)))))),?_]
 walk_at "s"
 try rw[gP]
 exists c6 λpl H1 s1 n1 g1=>?_
 exists #[(),(),?_];rw[show ((tt:Int)+1).toNat=tt+1 by lia];refine eF (n:=tt+1) (λj σ' H'=>aH H H'/\∃us prs y1 y2,σ'=[some (.ref x),some (.ref s),some (.ref g),some (.int tt),some (.ref pl),y1,y2]/\H' pl=some (.lst us)/\jp (c5 K H H') prs us/\V.ref pl∉us/\prs.9=j/\∀i pr,prs[i]?=some pr->Mg mv pt st go i pr) #[s1,[],[],_,_,rfl,g1,.nil,(λz=>nomatch z),rfl,(λi pr z=>by simp at z)] ?_ ?_
 ·rintro j σ' H2 hj ⟨s2,us,prs,y1,y2,rfl,gp,pp,np,lp,hp⟩;have lu:=pp.9;obtain D0|W0|E0|W1|CT|hA|hB:=SO j ();exists #[x,s,g,j,a,c,D0,W0,E0,W1,H0,mv,pt,lk,st,go,rfl,(),S.same s2,D,SF,KF,Rs.same s2,ls,Rg.same s2,lg,CT.cf,CT.sg,CT.co,#[λt3 p3 pus q H3 g3 n3 s3 G3 l3 w3 st3 cp q0 q1 q2=>?_,λt3 p3 pr q H3 g3 n3 s3 R3 l3 w3 d3 cn q0 q1 q2=>?_]]
  ·walk_at "w";rw[decide_eq_true rfl];exists bS λt4 H4 s4 g4=>?_
   exact k (.int j) t4 p3 pl pus prs H2 H4 g4 s2 (s3.trans s4) n1 #[us,gp,pp,np] n3 (G3.same s4) #[hp,.inl #[j,rfl,(),lp,hA pus q l3 w3 st3 cp q0 q1 q2]]
  ·have gp3:=s3 _ _ gp;have pn:p3≠pl:=λz=>by rw[z,gp] at n3;cases n3
   walk_at "w";rw[decide_eq_false (show ¬(wP "never"=wP "puts") by decide)];exists #[.inl #[rfl,_,bI.of gp3],?_];exists jB gp3 (cX ()) ?_;refine #[(s2.trans s3).after n1,us++[.ref p3],prs++[pr],_,_,rfl,aN,bR (pU (λa x hx #[q',a1,a2,a3,a4,a5]=>#[q',a1,a2,a3,by rw[bG λz=>np (by rw[<- z,<- a1];exact hx)];exact s3 _ _ a4,ca (λ_ _ z=>(bX.same z s3).updL gp3) a5]) pp) (.cons #[p3,rfl,s2.none n3,?_] .nil),λz=>?_,by rw[ai,aT,lp],λi pr' hi=>?_]
   ·obtain a1|a2|a3:=R3;exact #[a1,by rw[bG pn];exact a2,ca (λ_ _ z=>z.updL gp3) a3]
   ·rcases av.mp z with z | z
    ·exact np z
    ·rw[bA] at z;cases z;exact pn rfl
   ·rcases cg i prs.9 with z | z
    ·rw[bF z] at hi;exact hp i pr' hi
    ·rw[bc z] at hi
     have:i - prs.9=0:=by
      rcases fV (i - prs.9) with e | e
      ·exact e
      ·rw[aE (by rw[aT];lia)] at hi;cases hi
     rw[this] at hi;cases hi;obtain rfl:i=j:=()
     exact hB pr q l3 w3 d3 cn q0 q1 q2
 ·rintro σ' H2 ⟨s2,us,prs,y1,y2,rfl,gp,pp,np,lp,hp⟩;exists c6 λel H3 s3 n3 g3=>?_
  exists bS λt4 H4 s4 g4=>?_
  exact k .non t4 el pl [] prs H2 H4 g4 s2 (s3.trans s4) n1 #[us,gp,pp,np] n3 #[_,s4 _ _ g3,.nil,λz=>nomatch z] #[hp,.inr #[rfl,rfl,lp]]
theorem Cz:sC ["system","steps"] 2 rW:=by walk_at "d"
theorem CI (T:Txt K mg Z) (bn:bv P):T.mW.o P w base 8 (DK K Z.a_System):=by
 refine T.mW.F.k Cz ?_;walk_at "i";obtain x|a|c|st|H0|mv|pt|lk|rfl|s1000|S|D|F|k:=h;refine #[_,(ay (aS (aY bV (cN (vo T bn) hr T.ju (cQ bT cR)) (xX rM ak)))),?_];walk_at "s"
 try rw[gP]
 exists #[x,a,c,st,H0,mv,pt,lk,rfl,s1000,S,D,F,λr Rs H1 nr s1 #[us,gu,pa] Gw hl hh=>?_];have lu:=pa.9;obtain ⟨Rs',R,rfl⟩:∃Rs' R,Rs=Rs'++[R]:=#[Rs.dropLast,Rs.getLast Gw.ne,(List.dropLast_concat_getLast Gw.ne).symm];rw[ai,aT] at lu hl;have eR:(Rs'++[R])[Rs'.9]?=some R:=by rw[bc (ah _),ij];rfl
 obtain ⟨zs,q,rfl,zq,ql,Gq⟩:∃zs q,us=zs++[V.ref q]/\H q=none/\q≠r/\be K H H1 q R:=by
  have ev:=ae (show Rs'.9 < us.9 by lia);obtain R2|e2|q|e3|e4|e5|e6:=cv pa ev;rw[eR] at e2;cases e2;rw[e3] at ev;refine #[us.take Rs'.9,q,?_,e4,e5,e6];rw[<- take_snoc ev,aM ()]
 obtain ps|RR:=hh R (by rw[List.getLast?_concat]) st (by rw[ai,aT,Nat.add_sub_cancel];lia);exists ck (bI.of gu) (vL _ _) ?_;exact k q R ps H1 zq s1 Gq RR
theorem IT:sC ["many","at"] 2 xa:=by walk_at "d"
theorem Ji (T:Txt K mg Z) (bn:bv P):T.pY.o P w base 1 (Ir K):=by
 refine T.pY.F.k IT ?_;walk_at "i";obtain m|a'|rfl|hm|k:=h;refine #[_,(ay (aS (bW ["place"] ["at"] [1] (bU rfl T.range (c9 bT)) (λ_=>(eK 0)) (λ_=>b6) (λ_=>(Jf (bf fq bT cR (br _)) (mT (v:=.ref Z.a_ONE) rfl T.mg_ONE rfl) (mT (v:=.ref Z.a_NOUGHT) rfl T.mg_NOUGHT rfl)))))),?_];walk_at "s"
 try rw[gP]
 exists #[(),(),?_];refine d6 (n:=m) (bX K) (λi=>if ((i:Nat):Int)=a' then 1 else 0) hm (λa b=>a.same b) ?_ ?_
 ·rintro i H' NY NN hi s k1;exists iT (λh0=>?_) (λh0=>?_)
  ·exists k1 _ _ (aH.refl _) (by rw[if_pos (of_decide_eq_true h0)];exact #[_,rfl,T.sq_ONE _])
  ·exists k1 _ _ (aH.refl _) (by rw[if_neg (λz=>h0 (decide_eq_true z))];exact #[_,rfl,T.sq_NOUGHT _])
 ·rintro ys H' l hl s g pr nx;exact k l _ hl s #[ys,g,pr]
theorem yP:sC ["row"] 1 nY:=by walk_at "d"
theorem zm (T:Txt K mg Z) (bn:bv P):T.jG.o P w base 1 (IE K):=by
 refine T.jG.F.k yP ?_;walk_at "i";obtain p|xs|j|rfl|R|x1000|hj|hne|hz|k:=h;refine #[_,(ay (aS (bg (Ey rfl) (by rfl) T.min KK (c9 (bW ["place","value"] [] [] (Fp rfl T.enumerate (c9 bT)) (λ_=>(pS K 2 (cW (eK 0) (cW (eK 1) jd)))) (λ_=>Fq (bf (Fx K (by rfl) (xx hr)) cR (mT (v:=.ref Z.a_NOUGHT) rfl T.mg_NOUGHT rfl) (br _))) (λ_=>bT)))))),?_];walk_at "s"
 try rw[gP]
 obtain zs|gz|qz:=id R;have lz:=qz.9;exists #[#[_,bI.of gz],?_];refine Et (K:=K) (xs:=zs) (λi ys H'=>aH H H'/\ys=dB (Ae xs i)) lV #[aH.refl _,rfl] (λi ys H' _ #[s,_]=>bI.of (s _ _ gz)) ?_ ?_
 ·rintro i v ys H' r hx hlen ⟨s',rfl⟩ hr;obtain y|ey|ny:=cv qz hx;have ey':xs.getD i 0=y:=by rw[aa,ey];rfl
  have sr:aH H' (upd H' r (.tup [.int i,v])):=aH.new hr;have gr:(upd H' r (.tup [.int i,v])) r=some (.tup [.int i,v]):=aN;generalize upd H' r (.tup [.int i,v])=H2 at sr gr ⊢;exists #[_,_,Jx,y,0,(),(ny.same s').same sr,#[_,rfl,T.sq_NOUGHT _],?_];by_cases e:y=0
  ·rw[decide_eq_true e];exists #[s'.trans sr,?_];rw[vU,ey',if_neg (by simpa using e)]
  ·rw[decide_eq_false e];exists #[s'.trans sr,?_];rw[vU,ey',if_pos e];unfold dB;rw[cG];rfl
 ·rintro ys H1 hy ⟨s1,rfl⟩ l hl;have sn:aH H1 (upd H1 l (.lst (dB (Ae xs zs.9)))):=aH.new hl;have gn:(upd H1 l (.lst (dB (Ae xs zs.9)))) l=some (.lst (dB (Ae xs zs.9))):=aN;generalize upd H1 l (.lst (dB (Ae xs zs.9)))=H2 at sn gn ⊢
  have mj:j∈Ae xs zs.9:=by
   unfold Ae;exact ja.mpr #[jP.mpr (),by simpa using hne]
  exists #[l,vC (Ae xs zs.9),rfl,bI.of (by rw[<- zo];exact gn),?_,λM hM hle=>?_]
  ·unfold vC;rw[af];exact List.length_pos_of_mem mj
  ·obtain c|hc|rfl:=aB.mp hM;have h1:=hle j (aB.mpr #[j,mj,rfl]);have h2:=(ja.mp hc).2
   have e:c=j:=by
    rcases cT c j with z | z | z
    ·exact absurd (hz c z) (of_decide_eq_true h2)
    ·exact z
    ·lia
   rw[e];exact k _ (s1.trans sn)
theorem KZ:sC ["rows"] 1 yX:=by walk_at "d"
theorem BG (T:Txt K mg Z) (bn:bv P):T.pE.o P w base 2 (IF K):=by
 refine T.pE.F.k KZ ?_;walk_at "i";obtain p|n|H0|R|ps|rfl|G|r100|n100|⟨rows,RR⟩|k:=h;refine #[_,(ay (aS (bW ["row"] [] [] (cM bT) (λ_=>(eK 0)) (λ_=>b6) (λ_=>(cN (zm T bn) hr T.jG (c9 bT)))))),?_];walk_at "s"
 try rw[gP]
 obtain lR|wR|rr:=id RR;obtain xs|gx|qx|_:=id G;have lx:=qx.9;exists #[#[_,bI.of gx],?_];refine gR (K:=K) (xs:=xs) (λi ys H'=>aH H H'/\ys=dB (ps.take i)) lV #[aH.refl _,rfl] (λi ys H' _ #[s,_]=>bI.of (s _ _ gx)) ?_ ?_
 ·rintro i v ys H' hx hlen ⟨s',rfl⟩;obtain row|er|q|rfl|_|Rr:=cv qx hx;have wr:=wR row (ar er);have hi:i < ps.9:=by have:=(aF.mp er).1;lia
  have ef:∀c,bE R i c=row.getD c 0:=λc=>by unfold bE;rw[aa (l:=R),er];rfl
  have ep:ps[i]?=some (ps.getD i 0):=by rw[aa,ae hi];rfl
  have lowp:=rr.low i hi;have u:=rr.unit i hi i hi;rw[if_pos rfl,ef] at u;exists #[q,row,ps.getD i 0,rfl,Rr.same s',(),(),by rw[u];decide,λc hc=>by rw[<- ef];exact rr.lead i hi c hc,λH2 s2=>?_];refine #[s'.trans s2,?_];unfold dB;rw[take_snoc ep,cG];rfl
 ·rintro ys H1 hy ⟨s1,rfl⟩ r hr;refine k r _ (s1.none hr) (s1.trans (aH.new hr)) ?_;rw[aN,aM ()]
theorem rS:sC ["rows","wide","at","answer","lead","row"] 3 yW:=by walk_at "d"
theorem Lh (T:Txt K mg Z) (bn:bv P):T.tE.o P w base 4 (DQ K):=by
 refine T.tE.F.k rS ?_;walk_at "i";obtain p|n|a|H0|R|ps|rfl|G|r100|n100|⟨rows,RR⟩|ha|hp|hz|k:=h
 refine #[_,(au (eP 3 rS.nd (cN (Ji T bn) hr T.pY (cQ cR dQ)))
  (au (eC r0 rfl (sX rfl T.zip (cQ (cN (BG T bn) hr T.pE (c9 bT)) bT)) (xn rfl (cW (eK 4 rS.nd) (cW (eK 5 rS.nd) jd)))
   (ay (gO (cN (Jk T bn) hr T.vA (cQ (mT (v:=.ref Z.a_NOUGHT) rfl T.mg_NOUGHT rfl) (aY bV vf dQ))) (iK gY lS set_list))))
  (ay (aS gY)))),?_]
 walk_at "s"
 try rw[gP]
 obtain lR|wR|rr:=id RR;exists #[n,a,rfl,(),λan H1 na s1 R1=>?_];rw[<- Tg (R:=R) (ps:=ps)] at R1;obtain vs0|g0|q0:=id R1;exists #[p,n,H0,R,ps,rfl,G.same s1,r100,n100,#[rows,RR],λle H2 nl s2 g2=>?_];have anl:le≠an:=λz=>by rw[z,g0] at nl;cases nl
 obtain rs|grs|qrs|_:=id G;have lrs:=qrs.9;have lps:=ye (ps:=ps);exists #[#[_,bI.of g2],#[_,bI.of ((s1.trans s2) _ _ grs)],?_];refine MX (K:=K) (xs:=dB ps) (ws:=rs) (λj σ' H'=>aH H H'/\H' le=some (.lst (dB ps))/\∃y1 y2 vs,σ'=[some (.ref p),some (.int n),some (.int a),some (.ref an),y1,y2]/\H' an=some (.lst vs)/\jp (bX K H') (MJ R ps n a j) vs) () #[s1.trans s2,g2,_,_,vs0,rfl,s2 _ _ g0,ca (λ_ _ z=>bX.same z s2) q0] (λj σ' H' _ #[e,e2,_]=>#[bI.of e2,bI.of (e _ _ grs)]) ?_ ?_
 ·rintro j v1 v2 σ' H' r h1 h2 ⟨s',gl,y1,y2,vs,rfl,ga,qa⟩ hr;obtain row|er|q|rfl|_|Rr:=cv qrs h2;have mr:=ar er;have wr:=wR row mr;obtain pj|ej|rfl:=FW h1;have hj:j < ps.9:=(aF.mp ej).1;have ejD:ps.getD j 0=pj:=by rw[aa,ej];rfl
  have pjn:pj < n:=by have:=rr.low j hj;rw[ejD] at this;exact this
  have fr:bE R j a=row.getD a 0:=by unfold bE;rw[aa (l:=R),er];rfl
  have sr:aH H' (upd H' r (.tup [.int pj,.ref q])):=aH.new hr;have gr:(upd H' r (.tup [.int pj,.ref q])) r=some (.tup [.int pj,.ref q]):=aN;generalize upd H' r (.tup [.int pj,.ref q])=H3 at sr gr ⊢;have s03:=s'.trans sr;obtain us|gu|qu:=Rr.same s03;obtain vx|ex|nx:=F4 qu (j:=a) ();exists ck (bI.of gu) ex ?_;exists #[_,_,0,row.getD a 0,rfl,#[_,rfl,T.sq_NOUGHT _],nx,Pf,hz row mr _ (getD_in ()),λr4 H4 s4 n4=>?_];have ga4:=(sr.trans s4) _ _ ga;have gl4:=(sr.trans s4) _ _ gl;have la:=qa.9;rw[qS] at la;exists fI ga4 (gH ()) rfl ?_;refine #[(s03.trans s4).after na,by rw[bG anl];exact gl4,_,_,_,rfl,aN,?_];rw[<- Th RR hj hp,ejD,fr,show -(row.getD a 0)=0 - row.getD a 0 by grind];exact ko (ca (λ_ _ z=>(bX.same z (sr.trans s4)).updL ga4) qa) pj (n4.updL ga4)
 ·rintro σ' H' ⟨s',gl,y1,y2,vs,rfl,ga,qa⟩;rw[lps] at qa;exists k an H' na s' #[vs,ga,qa]
theorem uE:sC ["rows","wide","leads"] 2 qG:=by walk_at "d"
theorem vq (T:Txt K mg Z) (bn:bv P):T.jw.o P w base 3 (II K):=by
 refine T.jw.F.k uE ?_;walk_at "i";obtain p|n|H0|R|ps|rfl|G|r100|n100|RR|k:=h
 refine #[_,(au (eP 2 uE.nd (cN (BG T bn) hr T.pE (c9 bT)))
  (ay (aS (bW ["place"] ["leads"] [2] (bU rfl T.range (c9 cR)) (λ_=>(eK 0)) (λ_=>Fq (bf (CG K (by rfl)) bT cR (by with_unfolding_all rfl))) (λ_=>bT))))),?_]
 walk_at "s"
 try rw[gP]
 exists #[p,n,H0,R,ps,rfl,G,r100,n100,RR,λl H1 nl s1 g1=>?_];exists #[(),(),?_];refine mM (n:=n) (λi ys H'=>aH H1 H'/\ys=dB (lG ps i)) lV #[aH.refl _,rfl] ?_ ?_
 ·rintro i ys H' hi hlen ⟨s',rfl⟩;rw[wA];exists #[l,dB ps,rfl,.inl (bI.of (s' _ _ g1)),rfl,Ee,?_];rw[Jz];by_cases e:i∈ps
  ·rw[decide_eq_true e];exists #[s',?_];rw[Cc,if_neg (by simpa using e)]
  ·rw[decide_eq_false e,show (if true=true then !false else false)=true from rfl];exists #[s',?_];rw[Cc,if_pos e];unfold dB;rw[cG];rfl
 ·rintro ys H2 hy ⟨s2,rfl⟩ r hr;exact k r _ (s1.none (s2.none hr)) ((s1.trans s2).trans (aH.new hr)) aN
theorem IU:sC ["rows","wide","basis"] 2 Fl:=by walk_at "d"
theorem P9 (T:Txt K mg Z) (bn:bv P):T.yi.o P w base 6 (DO K):=by
 refine T.yi.F.k IU ?_;walk_at "i";obtain p|n|w|H0|rows|R|ps|rfl|G|r100|n100|RR|F|szR|k:=h
 refine #[_,(au (eP 2 IU.nd (cN (BF T bn) hr T.pC (cQ bT cR)))
  (ay (aS (bW ["at"] ["basis","wide"] [2,1] (cM (cN (vq T bn) hr T.jw (cQ dQ cR))) (λ_=>(eK 0)) (λ_=>b6) (λ_=>(cN (Lh T bn) hr T.tE (sZ cR dQ bT))))))),?_]
 walk_at "s"
 try rw[gP]
 exists #[p,n,w,H0,R,rfl,G,r100,n100,RR.2.1,F,λba R2 ps2 M H1 nb s1 G1 RR2 pm M0 M1 tM=>?_];obtain rfl|rfl:=RR2.same (xS RR);have pn:=RR.le;have lR:=RR.1;have fl:=LH (ps:=ps2) (i:=n);exists #[ba,n,H,R2,ps2,rfl,G1,(),(),#[rows,RR],λfr H2 nf s2 g2=>?_];exists #[#[_,bI.of g2],?_];refine gR (K:=K) (xs:=dB (lG ps2 n)) (λi ys H'=>aH H2 H'/\jp (c5 K H H') ((lG ps2 n).take i |>.map (MI R2 ps2 n)) ys) (cA (cX (by rw[ye];lia))) ⟨aH.refl _,.nil⟩ (λi ys H' _ ⟨s,_⟩=>bI.of (s _ _ g2)) ?_ ?_
 ·rintro i v ys H' hx hlen ⟨s',pr⟩;obtain a|ea|rfl:=FW hx;obtain an|ap:=v5.mp (ar ea);have s02:=(s1.trans s2).trans s';exists #[ba,n,a,H,R2,ps2,rfl,(G1.same s2).same s',(),(),#[rows,RR],an,ap,szR,λr H3 nr s3 R3=>?_];refine #[s'.trans s3,?_];rw[take_snoc ea,cG];exact bR (ca (λ_ _ z=>c5.same z s3) pr) (.cons #[r,rfl,s02.none nr,R3] .nil)
 ·rintro ys H3 hy ⟨s3,pr⟩ r hr;rw[aM (by rw[ye];exact ah _)] at pr;have sn:aH H3 (upd H3 r (.lst ys)):=aH.new hr;have s03:=(s1.trans s2).trans s3;exact k r _ (s03.none hr) (s03.trans sn) #[ys,aN,ca (λ_ _ z=>c5.same z sn) pr,iS (H0:=H) (rows:=aR R2 ps2 n) #[H3,hr,pr]]
theorem wC:sC ["one","other","wide","columns"] 3 rZ:=by walk_at "d"
theorem CJ (T:Txt K mg Z) (bn:bv P):T.mX.o P w base 6 (A7 K):=by
 refine T.mX.F.k wC ?_;walk_at "i";obtain p|q|w|H0|H1|one|other|rfl|hp|hq|z1|z2|hw|h1|h2|kk:=h
 refine #[_,(au (eP 3 wC.nd (cN (kX T bn) hr T.fZ (cQ cR dQ)))
  (ay (aS (bW ["line"] ["columns"] [3] (cM bT) (λ_=>(eK 0)) (λ_=>b6) (λ_=>(cN (BH T bn) hr T.pF (cQ cR bT))))))),?_]
 walk_at "s"
 try rw[gP]
 exists #[q,w,H1,other,rfl,hq,z2,hw,h2,λc H2 nc s2 hc=>?_];obtain xs|gx|qx|_:=hp.same s2;exists #[#[_,bI.of gx],?_];refine df (K:=K) (F:=c5 K H0) (c5 K H) (λxs=>(b8 other w).map λys=>cb ys xs) gx qx z1 (λa b=>a.same b) (λa b=>a.same b) ?_ ?_
 ·rintro i ns x H3 NY NN en s3 ⟨u,rfl,_,hu⟩ k;obtain e1|e2:=h1 ns (ar en);exists #[c,u,H,b8 other w,ns,rfl,hc.same s3,hu,by simp [b8];lia,(),λys hy=>#[?_,e2 ys hy],λr H4 nr s4 hr=>k _ _ s4 #[r,rfl,s2.none (s3.none nr),hr]];obtain j|_|rfl:=aB.mp hy;rw[af];exact e1.symm
 ·rintro ys' H3 r hr s3 g pr nx;exact kk r H3 (s2.none hr) (s2.trans s3) #[ys',g,pr,iS nx]
theorem Cy:sC ["system","rows"] 2 rV:=by walk_at "d"
theorem CH (T:Txt K mg Z) (bn:bv P):T.mV.o P w base 7 (AX K Z.a_System):=by
 refine T.mV.F.k Cy ?_;walk_at "i";obtain x|p|H0|H1|mv|pt|lk|N|rfl|S|D|GN|n100|hN|k:=h;refine #[_,(ay (aS (cN (CJ T bn) hr T.mX (sZ cR (hJ bT rfl) (hJ bT rfl))))),?_];walk_at "s"
 try rw[gP]
 obtain dx|am|ap|al|gx|_|_|_|Gm|_|_:=id S;have d1:=D.n8;exists #[x,Z.a_System,dx,_,_,rfl,gx,T.cl_System,T.na_move,AV,?_];exists #[x,Z.a_System,dx,_,_,rfl,gx,T.cl_System,T.na_states,iI,?_];exists #[p,am,mv.9,H1,H0,N,mv,rfl,GN,Gm,(),(),(),hN,D.mw,k]
theorem oy:sC ["system","reach","rows","places"] 1 uH:=by walk_at "d"
theorem Fy (T:Txt K mg Z) (bn:bv P):T.oF.o P w base 9 (DF K Z.a_System):=by
 refine T.oF.F.k oy ?_;walk_at "i";obtain x|a|c|H0|mv|pt|lk|rfl|S|D|KF|k:=h
 refine #[_,(au (eP 1 oy.nd (cN (CI T bn) hr T.mW (cQ bT (hJ bT rfl))))
  (au (eP 2 oy.nd (cN (P9 T bn) hr T.yi (cQ cR (hJ bT rfl))))
  (au (eP 3 oy.nd (cN (vq T bn) hr T.jw (cQ cR (hJ bT rfl))))
  (ay (aS (cJ (cQ dQ (bW ["row"] ["places"] [3] (cM (cN (CH T bn) hr T.mV (cQ bT dQ))) (λ_=>(eK 0)) (λ_=>b6) (λ_=>(bW ["place"] ["row"] [0] (xW K cR) (λ_=>(eK 0)) (λ_=>b6) (λ_=>(aY (gF K (by rfl)) cR bT)))))))))))),?_]
 walk_at "s"
 try rw[gP]
 obtain dx|am|ap|al|gx|_|_|_|Gm|_|_:=id S;have d1:=D.n8;exists #[x,Z.a_System,dx,_,_,rfl,gx,T.cl_System,T.na_states,iI,?_];exists #[x,a,c,mv.9,H0,mv,pt,lk,rfl,(),S,D,KF,λrr R ps H1 nr s1 G1 RR=>?_];obtain Mq|q0|q1|tR:=KF.tp d1 D.mw D.pw (ah _) RR;obtain Mk|Vk|k0|ka|kc|gm|gp|a4|c4|k17|k89:=id KF;have e17:(2:Nat)^(mv.9*(mv.9*(a+c)+4))<=2^1740:=aj () k17;have pn:=RR.le;have lR:=RR.1
 have SR:EG R mv.9 (mv.9*(mv.9*(a+c)+4)):=U2 q0 (ag q1 (aj () ())) () tR (m:=mv.9) () () (by
  refine ag (aD _ ?_) k89
  lia)
 have szR:∀xs∈R,∀x∈xs,jX x:=λxs hx x hx'=>mh (tR xs hx x hx') q0 (ag q1 (ag e17 (aj () ()))) (ag e17 (aj () ()))
 have gx1:=s1 _ _ gx;exists #[x,Z.a_System,dx,_,_,rfl,gx1,T.cl_System,T.na_states,iI,?_];exists #[rr,mv.9,_,H,_,R,ps,rfl,G1,(),(),RR,SR,szR,λnn H2 nn0 s2 G2=>?_];have s12:=s1.trans s2;have gx2:=s12 _ _ gx
 have lN:(aR R ps mv.9).9<=mv.9:=by
  have e:(aR R ps mv.9).9=(lG ps mv.9).9:=af ..;rw[e];exact LH
 have fl:=LH (ps:=ps) (i:=mv.9);exists #[x,Z.a_System,dx,_,_,rfl,gx2,T.cl_System,T.na_states,iI,?_];exists #[rr,mv.9,H,R,ps,rfl,G1.same s2,(),(),#[_,RR],λfr H3 nf s3 g3=>?_];have s13:=s12.trans s3;exists #[x,nn,H0,H1,mv,pt,lk,aR R ps mv.9,rfl,S.same s13,D,G2.same s3,(),λxs hx=>#[oE xs hx,λys hy=>?_],λtk H4 nt s4 G4=>?_]
 ·obtain b|h1|h2|rfl:=rj hx;refine #[400,40,1740,1740,#[Mk,Vk,k0,ag ka (aj () a4),?_,λy hy'=>Au gm ys hy y hy'],#[Mq,2^1740,q0,ag q1 e17,ah _,λy hy'=>((Ux q0 q1 tR RR y hy').mono e17).fr q0],()];exact ag (ag (bK _ ()) kc) (aj () c4)
 have s14:=s13.trans s4;obtain ts|gt|qt|_:=id G4;have lt:=qt.9;have lT:(dU (aR R ps mv.9) mv mv.9).9=(aR R ps mv.9).9:=af ..
 have wT:∀xs∈dU (aR R ps mv.9) mv mv.9,xs.9=mv.9:=λxs hx=>by
  obtain z|_|rfl:=aB.mp hx;rw[af,di]
 have g4f:=s4 _ _ g3;exists #[#[_,bI.of gt],?_];refine df (K:=K) (as:=dU (aR R ps mv.9) mv mv.9) (F:=c5 K H3) (c5 K H2) (λrow=>(lG ps mv.9).map λpl=>row.getD pl 0) gt qt () (λa b=>a.same b) (λa b=>a.same b) ?_ ?_
 ·rintro i row v H5 NY NN er s5 ⟨u,rfl,_,Ru⟩ k1;have lr:=wT row (ar er);have g5f:=s5 _ _ g4f;exists #[#[_,bI.of g5f],?_];refine df (K:=K) (as:=lG ps mv.9) (F:=λ_ j x=>x=V.int ((j:Nat):Int)) (bX K) (λpl=>row.getD pl 0) g5f zP () (λh _=>h) (λh s=>h.same s) ?_ ?_
  ·rintro j pl w H6 NY6 NN6 ej s6 rfl k6;have hp:=(v5.mp (ar ej)).1;obtain zs|gz|qz:=Ru.same s6;obtain vx|ex|nx:=F4 qz (j:=pl) ();exists ck (bI.of gz) ex ?_;exact k6 _ _ (aH.refl _) nx
  rintro ys6 H6 l6 hl6 s6 g6 pr6 _;exact k1 _ _ s6 #[l6,rfl,(s3.trans s4).none (s5.none hl6),#[ys6,g6,pr6]]
 rintro ys5 H5 q5 n5 s5 g5 pr5 nx5;have GU:be K H2 H5 q5 (ki mv R ps):=#[ys5,g5,pr5,iS nx5];exists bS λt6 H6 s6 g6=>?_
 exact k t6 nn q5 R ps H2 H6 g6 s12 (((s3.trans s4).trans s5).trans s6) (s1.none nn0) (G2.weak s1) ((s3.trans s4).none n5) (GU.same s6) RR
theorem yS:sC ["things","at"] 2 oa:=by walk_at "d"
theorem mH (T:Txt K mg Z) (bn:bv P):T.fQ.o P w base 1 (IP K):=by
 refine T.fQ.F.k yS ?_;walk_at "i";obtain p|i|xs|rfl|gp|hi|l500|k:=h;refine #[_,(ay (aS (bD jU (bD jU (dC (c9 (aY (gF K (by rfl)) bT cR))) (rh (Bc K (by rfl)) bT xV (sW cR))) (rh (Bc K (by rfl)) bT (sW (bD fz cR ak)) xV)))),?_];walk_at "s"
 try rw[gP]
 exists ck (bI.of gp) (eG (ae hi)) ?_;exists c6 λl1 H1 s1 n1 g1=>?_
 exists La (bI.of (s1 _ _ gp)) λl2 H2 s2 n2 g2=>?_
 rw[J0] at g2;exists jS (s2 _ _ g1) g2 (cA (cX (by rw[aT,bP];lia))) λl3 H3 s3 n3 g3=>?_
 have s03:=(s1.trans s2).trans s3;exists La (bI.of (s03 _ _ gp)) λl4 H4 s4 n4 g4=>?_
 rw[show ((i:Int)+1)=((i+1:Nat):Int) by lia,Q4] at g4;exists jS (s4 _ _ g3) g4 (cA (cX (by rw[ai,aT,bP,rJ];lia))) λl5 H5 s5 n5 g5=>?_
 refine k l5 H5 ((s03.trans s4).none n5) ((s03.trans s4).trans s5) ?_;unfold bO;rw[ae hi];exact g5
theorem nN:sC ["system","goal","found","own","first","weights"] 2 xc:=by walk_at "d"
theorem pV (T:Txt K mg Z) (bn:bv P):T.jt.o P w base 10 (yM K Z.a_System):=by
 refine T.jt.F.k nN ?_;walk_at "i";obtain x|g|a|c|H0|mv|pt|lk|go|rfl|S|D|SF|F|Rg|lg|SO|FN|k1|k2:=h
 refine #[_,(au (eP 2 nN.nd (cN (Lg T bn) hr T.tz (Jg bT (cN (mU T bn) hr T.ia (c9 (hJ bT rfl))) cR (hJ bT rfl))))
  (au (cY (bf Fv (aY bH dQ ak) vg (br _)) (ay (aS (cJ (sZ kU (aY bH dQ ak) (aY bH dQ ak))))) bN)
  (au (eP 3 nN.nd (cN (Fy T bn) hr T.oF (c9 bT)))
  (au (eP 4 nN.nd (bg (Ey rfl) (by rfl) T.min KK (c9 (bW ["at","row"] ["goal"] [1] (Fp rfl T.enumerate (c9 (aY bH gY ak))) (λ_=>(pS K 2 (cW (eK 0) (cW (eK 1) jd)))) (λ_=>Fq (bf (Fx K (by rfl) (xx hr)) (cN (xu T bn) hr T.mJ (cQ cR dQ)) (mT (v:=.ref Z.a_NOUGHT) rfl T.mg_NOUGHT rfl) (br _))) (λ_=>bT)))))
  (au (jD 5 ["row"] ["first"] [4] nN.nd rfl rfl (cM (cN (mH T bn) hr T.fQ (cQ (aY bH gY ak) lS))) (λ_=>(eK 0)) (λ_=>b6) (λ_=>(cN (mH T bn) hr T.fQ (cQ bT cR))))
  (ay (aS (cJ (sZ kU (cN (mH T bn) hr T.fQ (cQ (aY bH gY ak) lS)) vf))))))))),?_]
 walk_at "s"
 try rw[gP]
 have d8:=D.n8;obtain dx|am|ap|al|gx|_:=id S;exists #[x,Z.a_System,dx,_,_,rfl,gx,T.cl_System,T.na_states,iI,?_];exists #[mv.9,rfl,(),λre H1 nre s1 R1=>?_];have gx1:=s1 _ _ gx;exists #[x,Z.a_System,dx,_,_,rfl,gx1,T.cl_System,T.na_states,iI,?_];exists #[x,re,g,mv.9,a,c,H0,mv,pt,lk,ce mv.9 0,go,rfl,(),S.same s1,D,SF,F,R1,aI ..,Rg.same s1,lg,SO,λkv ft fp fr pus prs Hm H2 gft sm sm2 nfr Gr nfp Gp SR=>?_];have s2:=sm.trans sm2;have s02:=s1.trans s2;obtain ⟨SRp,⟨kk,rfl,k1',lk1,SA⟩ | ⟨rfl,rfl,lk1⟩⟩:=SR
 ·exists #[rfl,?_];rw[decide_eq_false (show ¬(V.int (kk:Int)=V.non) from λz=>nomatch z)];exists bS λt3 H3 s3 g3=>?_
  refine k1 t3 fp kk pus H3 g3 (s02.trans s3) ((s1.trans sm).none nfp) ((Gp.same s3).weak (s1.trans sm)) #[k1',SA,λj hj=>?_];exact #[_,SRp j _ (ae ())]
 have SB:Mg mv pt (ce mv.9 0) go mv.9 _:=SRp mv.9 _ (ae ());exists #[rfl,?_];rw[decide_eq_true rfl];exists #[x,a,c,H0,mv,pt,lk,rfl,S.same s02,D,F,λot op oq R ps Hn H3 got sn sn3 nop GN noq GU RR=>?_];have s3:=sn.trans sn3;have s03:=s02.trans s3;have wN:∀xs∈aR R ps mv.9,xs.9=mv.9:=oE;have nc:=vV RR;have lUN:(ki mv R ps).9=(aR R ps mv.9).9:=vS;have wU:∀xs∈ki mv R ps,xs.9=(aR R ps mv.9).9:=Il
 obtain z0|hz0|ez0:=Qc RR (eO rfl D.pw _) SB.1 lg SB.2.1 (by
  have:=SB.2.2.1;rw[Qq D.mw lg] at this;rw[this];decide)
 obtain j|j1|j2|j3:=QM (ds:=(aR R ps mv.9).map λz=>cb z go) #[_,aB.mpr #[z0,hz0,rfl],ez0];rw[af] at j1;have GN3:=GN.same sn3;obtain us|gu|qu|nu:=id GN3;have lu:=qu.9;exists #[#[_,bI.of gu],?_];refine Et (K:=K) (xs:=us) (λi ys H'=>aH H3 H'/\ys=dB (Ae ((aR R ps mv.9).map λz=>cb z go) i)) lV #[aH.refl _,rfl] (λi ys H' _ #[s,_]=>bI.of (s _ _ gu)) ?_ ?_
 ·rintro i v ys H' r hx hlen ⟨s',rfl⟩ hr;obtain z|ez|q|rfl|_|Rq:=cv qu hx;have mz:=ar ez;have ey':((aR R ps mv.9).map λz=>cb z go).getD i 0=cb z go:=by rw[aa,aA,ez];rfl
  have sr:aH H' (upd H' r (.tup [.int i,.ref q])):=aH.new hr;have gr:(upd H' r (.tup [.int i,.ref q])) r=some (.tup [.int i,.ref q]):=aN;generalize upd H' r (.tup [.int i,.ref q])=H4 at sr gr ⊢;have s34:=s'.trans sr;exists #[q,g,z,go,rfl,cC.same Rq s34,Rg.same (s03.trans s34),by rw[lg,wN z mz],by rw[wN z mz];lia,FN R ps RR z mz,λd H5 s5 N5=>?_];exists #[_,_,Jx,cb z go,0,(),N5,#[_,rfl,T.sq_NOUGHT _],?_];by_cases e:cb z go=0
  ·rw[decide_eq_true e];exists #[s34.trans s5,?_];rw[vU,ey',if_neg (by simpa using e)]
  ·rw[decide_eq_false e];exists #[s34.trans s5,?_];rw[vU,ey',if_pos e];unfold dB;rw[cG];rfl
 rintro ys H4 hy ⟨s4,rfl⟩ l hl;have sn4:aH H4 (upd H4 l (.lst (dB (Ae ((aR R ps mv.9).map λz=>cb z go) us.9)))):=aH.new hl;have gn:(upd H4 l (.lst (dB (Ae ((aR R ps mv.9).map λz=>cb z go) us.9)))) l=some (.lst (dB (Ae ((aR R ps mv.9).map λz=>cb z go) us.9))):=aN;generalize upd H4 l (.lst (dB (Ae ((aR R ps mv.9).map λz=>cb z go) us.9)))=H5 at sn4 gn ⊢;have s35:=s4.trans sn4
 have mj:j∈Ae ((aR R ps mv.9).map λz=>cb z go) us.9:=by
  unfold Ae;exact ja.mpr #[jP.mpr (),by simpa using j2]
 exists #[l,vC (Ae ((aR R ps mv.9).map λz=>cb z go) us.9),rfl,bI.of (by rw[<- zo];exact gn),?_,λM hM hle=>?_]
 ·unfold vC;rw[af];exact List.length_pos_of_mem mj
 obtain cx|hc|rfl:=aB.mp hM;have h1:=hle j (aB.mpr #[j,mj,rfl]);have h2:=(ja.mp hc).2
 have e:cx=j:=by
  rcases cT cx j with z | z | z
  ·exact absurd (j3 cx z) (by simpa using h2)
  ·exact z
  ·lia
 subst e;have got5:=s35 _ _ got;obtain ws|gw|qw|_:=GU.same s35;have lw:=qw.9;exists #[oq,cx,ws,rfl,gw,(),(),λaw H6 naw s6 g6=>?_];have qa:=kW qw (i:=cx) ();refine #[aw,rfl,#[_,bI.of g6],?_];have qa6:jp (c5 K Hn H6) (bO (ki mv R ps) cx) (bO ws cx):=ca (λ_ _ z=>c5.same z s6) qa;have la:(bO (ki mv R ps) cx).9=(ki mv R ps).9:=fv ();refine df (K:=K) (as:=bO (ki mv R ps) cx) (F:=c5 K Hn) (c5 K H6) (λxs=>bO xs cx) g6 qa6 () (λh s=>h.same s) (λh s=>h.same s) ?_ ?_
 ·rintro i row v H7 NY NN er s7 ⟨u,rfl,_,zs,gz,qz⟩ k3;have lr:=wU row (jJ (ar er));have lz:=qz.9;exists #[u,cx,zs,rfl,gz,(),(),λl8 H8 n8 s8 g8=>?_];exact k3 _ _ s8 #[l8,rfl,s7.none n8,_,g8,kW (ca (λ_ _ z=>bX.same z s8) qz) ()]
 rintro ys7 H7 wl nwl s7 g7 pr7 nx7;have s37:=(s35.trans s6).trans s7;have got7:=s37 _ _ got;have GW:be K H6 H7 wl ((bO (ki mv R ps) cx).map λxs=>bO xs cx):=#[ys7,g7,pr7,iS nx7];exists #[op,cx,us,rfl,s37 _ _ gu,(),(),λao H8 nao s8 g8=>?_];have s38:=s37.trans s8;have qo:jp (c5 K H H8) (bO (aR R ps mv.9) cx) (bO us cx):=ca (λ_ _ #[q,a1,b1,c1]=>#[q,a1,s02.none b1,cC.same c1 s38]) (kW qu (i:=cx) ());exists bS λt9 H9 s9 g9=>?_
 have GO:be K H H8 ao (bO (aR R ps mv.9) cx):=#[_,g8,qo,λz=>?_]
 ·have s06:=s03.trans (s35.trans s6);have s79:=s8.trans s9;have nn:∀{a},H7 a≠none->H9 a≠none:=λ{a} z e=>z (s79.none e)
  have n79:∀{a},H6 a≠none->H9 a≠none:=λ{a} z e=>z ((s7.trans s79).none e)
  have E2:KA K (λa=>H6 a=none/\H7 a≠none) H9 (.grid ((bO (ki mv R ps) cx).map λxs=>bO xs cx)) (.ref wl):=EJ.elW (d:=.grid _) #[wl,rfl,nwl,GW] s79;have ao7:H7 ao=none:=nao
  have E1:KA K (λa=>(H a=none/\H6 a≠none)\/a=ao) H9 (.grid (bO (aR R ps mv.9) cx)) (.ref ao):=by
   obtain ua|ga|qa9|na9:=GO.same s9;refine #[ao,ua,rfl,.inr rfl,ga,na9,?_]
   have e9:ua=bO us cx:=by
    have:=s9 _ _ g8;rw[ga] at this;cases this;rfl
   subst e9
   exact ca (λ_ _ #[q,a1,b1,c1]=>#[q,a1,.inl #[s02.none b1,λz=>by
    obtain _|gq|_:=c1;rw[(s35.trans s6) _ _ gq] at z;cases z],cC.same c1 (s38.trans s9)]) (kW qu (i:=cx) ())
  exact k2 t9 ao wl cx R ps _ _ H9 g9 ((s03.trans s38).trans s9) ((s03.trans s37).none nao) (s06.none nwl) (GO.same s9) ((GW.weak s06).same s79) E1 E2 (λa z=>z.elim (λz=>#[z.1,n79 z.2]) λz=>by subst z;exact #[(s03.trans s37).none ao7,λe=>by obtain _|ga|_:=GO.same s9;rw[ga] at e;cases e]) (λa z=>#[s06.none z.1,nn z.2]) (λa z h=>h.elim (λh=>h.2 z.1) λh=>by subst h;exact z.2 ao7) #[RR,j1,j2,_,SB] (λj hj=>Fa λz=>absurd (j3 j hj) (by simpa using z))
 ·obtain y|my|q|e|_|zs|gq|_:=dF (kW qu (i:=cx) ()) z;cases e;rw[s37 _ _ gq] at nao;exact nomatch nao
theorem kQ:sC ["_law_bag_here","_law_move_here","_law_system_here","_law_at","_law_found"] 1 uW:=by walk_at "d"
theorem FO (T:Txt K mg Z) (bn:bv P):T.oQ.o P w base 11 Nv:=by
 refine T.oQ.F.k kQ ?_;walk_at "i";obtain b|rfl|B|k:=h
 refine #[_,(au (jD 1 ["_law_i"] [] [] kQ.nd rfl rfl (bU rfl T.range (c9 ak)) (λ_=>(eK 0)) (λ_=>b6) (λ_=>(bW ["_law_j"] ["_law_i"] [0] (bU rfl T.range (c9 ak)) (λ_=>(eK 0)) (λ_=>b6) (λ_=>(cJ (cQ (eJ mN (by rfl) T.int Db (c9 (iL fq bT (bD fz cR ak) (br _)))) ak))))))
  (au (eP 2 kQ.nd (MF T.mk_System (pB T bn) (hr.mono ()) rfl T.mg_System T.lK .nil BA (sZ cR (dC (c9 (bD jU (bD VO (dC (c9 (cJ (cQ ak ak)))) ak) (dC (c9 (cJ (cQ ak ak))))))) (dC ir))))
  (au (eP 3 kQ.nd (cN (bp T bn) hr T.aZ (cQ bT ak)))
  (au (eP 4 kQ.nd (cN (pV T bn) hr T.jt (cQ dQ (bW ["_law_j"] ["_law_at"] [3] (bU rfl T.range (c9 ak)) (λ_=>(eK 0)) (λ_=>b6) (λ_=>(cJ (cQ (eJ mN (by rfl) T.int Db (c9 (iL fq bT cR (br _)))) ak)))))))
  (ay (aS (iL (zj (xx hr)) lS (cJ (sZ kU (bD jr ak gY) (bD jU (dC (c9 (dC (c9 (cJ (cQ ak ak)))))) (bW ["_law_turn"] [] [] (bU rfl T.range (c9 (bD jr ak gY))) (λ_=>(eK 0)) (λ_=>b6) (λ_=>(dC (c9 (cJ (cQ ak ak))))))))) (br _)))))))),?_]
 walk_at "s"
 try rw[gP]
 exists #[(),(),?_];refine d6 (n:=8) (c5 K H) (λ(i:Nat)=>(on 8).map λ(j:Nat)=>(((if decide ((j:Int)=(i:Int)+1)=true then 1 else 0:Int)):Rat)) () (λa b=>a.same b) ?_ ?_
 ·rintro i Hb NY NN hi sa k1;exists #[(),(),?_];refine d6 (n:=8) (bX K) (λ(j:Nat)=>(((if decide ((j:Int)=(i:Int)+1)=true then 1 else 0:Int)):Rat)) () (λa b=>a.same b) ?_ ?_
  ·rintro j Hz NY2 NN2 hj sz k2;exists bS λt Hy sy gy=>?_
   exact k2 _ _ sy (bX.mk gy rfl)
  ·rintro ys Hz t ht sz g pr nx;exact k1 _ _ sz #[t,rfl,sa.none ht,ys,g,pr]
 rintro ys H1 mm hm s1 g1 pr1 nx1;rw[Vd] at pr1 nx1;have Gm:be K H H1 mm og:=#[ys,g1,pr1,iS nx1];clear g1 pr1 nx1;have B1:=B.same s1;exists bS λt2 H2 s2 n2=>?_
 have g2:=n2;exists c6 λl3 H3 s3 n3 g3=>?_
 exists Vl g3 () λl4 H4 s4 n4 g4=>?_
 exists bS λt6 H6 s6 g6=>?_
 exists c6 λl7 H7 s7 n7 g7=>?_
 have s57:=s6.trans s7;exists jS (s57 _ _ g4) g7 (cA (cX (by simp))) λla H8 s8 n8 g8=>?_
 have s58:=s57.trans s8;have s18:=((s2.trans s3).trans s4).trans s58;have B8:=B1.same s18;have nz:bX K H8 0 (.ref t2):=bX.mk (q:=0) (((s3.trans s4).trans s58) _ _ g2) rfl;have nv:bX K H8 (((1+1:Nat):Rat)) (.ref t6):=bX.mk (q:=((1+1:Nat):Rat)) ((s7.trans s8) _ _ g6) rfl
 have Rl:cC K H8 la (D3 ((1+1:Nat):Rat) 0):=by
  rw[<- Va];exact #[_,g8,bR (BC nz 7) (.cons nv .nil)]
 exists c6 λpl H9 s9 n9 g9=>?_
 have Gp:be K H7 H9 pl oh:=#[_,g9,.cons #[la,rfl,n8,Rl.same s9] .nil,λz=>by
  rw[bA] at z;cases z;rw[g8] at n9;cases n9]
 exists c6 λll H10 s10 n10 g10=>?_
 have Gl:be K H9 H10 ll []:=#[_,g10,.nil,λz=>nomatch z];have s810:=s9.trans s10;have SF:Ky og oh []:=XX (v:=1) ();have D:dJ og oh []:=Lu;walk_at "w";intro z dz nz' ndz nez;refine #[z,dz,mm,pl,ll,H10,H,H7,H9,og,_,[],rfl,nz',ndz,nez,rfl,Gm.same (s18.trans s810),Gp.same s10,Gl,D,SF.sf.ok.1,SF.sf.ok.2.1,SF.sf.ok.2.2,λH11 s11 S11=>#[rfl,?_]];have s811:=s810.trans s11;have B11:=B8.same s811;exists #[b,8,rfl,B11,(),(),λtt H12 t0 t1 B12 u12=>?_];obtain at9|rfl:=cH t0;have ha:at9 < 8:=()
 have S12:=S11.upto u12 B11 (B8.same s810).at;have u012:dk b H H12:=((s1.trans s18).trans s811).upto.trans u12;exists #[(),(),?_];refine d6 (n:=8) (bX K) (λ(j:Nat)=>(((if decide ((j:Int)=(at9:Int))=true then 1 else 0:Int)):Rat)) () (λa b=>a.same b) ?_ ?_
 ·rintro j Hz NY2 NN2 hj sz k2;exists bS λt Hy sy gy=>?_
  exact k2 _ _ sy (bX.mk gy rfl)
 rintro ys9 H13 gq ngq s13 g13 pr13 _;rw[O7] at pr13;have Rg:cC K H13 gq (Cu at9):=#[ys9,g13,pr13];exists Ay (S12.same s13) D SF (XY (v:=1) ()) Rg (by rw[ES,Fn]) VX (λR ps RR z hz=>?_) λo ds v HB sB FB=>?_
 ·have e:aR R ps og.length=[]:=List.eq_nil_of_length_eq_zero (Qr RR);rw[e] at hz;cases hz
 have s12B:=s13.trans sB;cases FB with
 | @nev _ _ _ i R ps _ _ _ _ _ _ _ _ _ _ _ _ S' _ =>
  have:=S'.2.1;have e:(aR R ps og.length).9=0:=Qr S'.1
  lia
 | @inn tq pq kk pus gt np G S' =>
  obtain ek|ep:=Tj ha S';subst ek ep;exists bS λe1 HC sC gC=>?_
  exists c6 λe2 HD sD nD gD=>?_
  exists c6 λe3 HE sE nE gE=>?_
  have sBE:=(sC.trans sD).trans sE;exists #[(),(),?_];rw[show ((7:Int) - (at9:Int)).toNat=7 - at9 by lia];refine mM (n:=7 - at9) (λi ys H'=>aH HE H'/\jp (c5 K HE H') (ce i [0]) ys) lV #[aH.refl _,.nil] ?_ ?_
  ·rintro i ys HF hi hlen ⟨sF,pr⟩;exists bS λf1 HG sG gG=>?_
   exists c6 λf2 HI sI nI gI=>?_
   refine #[(sF.trans sG).trans sI,?_];rw[uq];exact bR (ca (λ_ _ z=>c5.same z (sG.trans sI)) pr) (.cons #[f2,rfl,(sF.trans sG).none nI,_,gI,.cons (bX.mk (q:=0) (sI _ _ gG) rfl) .nil] .nil)
  rintro ys HF hy ⟨sF,pr⟩ du hdu;have sn:aH HF (upd HF du (.lst ys)):=aH.new hdu;have gdu:(upd HF du (.lst ys)) du=some (.lst ys):=aN;have prd:jp (c5 K HE (upd HF du (.lst ys))) (ce (7 - at9) [0]) ys:=ca (λ_ _ z=>c5.same z sn) pr;have lpr:=pr.9;rw[aI] at lpr;generalize upd HF du (.lst ys)=HG at sn gdu prd ⊢;have sEG:=sF.trans sn;exists jS (sEG _ _ gE) gdu (cA (cX (by rw[aT];lia))) λe9 HI sI nI gI=>?_
  have R1:cC K HI e2 [1 / 2]:=#[_,(sE.trans (sEG.trans sI)) _ _ gD,.cons (bX.mk (q:=1 / 2) ((((sD.trans sE).trans sEG).trans sI) _ _ gC) (by decide +kernel)) .nil];exists bS λe10 HJ sJ gJ=>?_
  have sBJ:=((sBE.trans sEG).trans sI).trans sJ;have kd:pH.R K HJ (.ref e9) ([1 / 2] :: ce (7 - at9) [0]):=#[e9,_,rfl,bI.of (sJ _ _ gI),.cons (R1.same sJ).kind (ca (λ_ _ #[q,a1,_,c1]=>by rw[a1];exact (cC.same c1 (sI.trans sJ)).kind) prd)];exists #[_,_,Jw Oc Jy pH,(wP "in",((8 - at9:Nat):Int),[1 / 2] :: ce (7 - at9) [0]),(wP "in",((8 - at9:Nat):Int),[1 / 2] :: ce (7 - at9) [0]),(),#[tq,_,_,_,rfl,jN.of (sBJ _ _ gt),rfl,rfl,(G.same sBJ).kind],#[e10,_,_,_,rfl,jN.of gJ,rfl,(by show V.int (8 - (at9:Int))=V.int ((8 - at9:Nat):Int);rw[show ((8 - at9:Nat):Int)=8 - (at9:Int) by lia]),kd],?_];rw[decide_eq_true rfl];exact k _ (B12.same (s12B.trans sBJ)) (u012.same (s12B.trans sBJ))
theorem Dg:∃x1 x2 x3 x4 x5 x6 x7 x8 x9 x10 x11 x12 x13 x14 x15 x16:Expr,x1=(ut (AT 0) 0 #[359,16,359,17])/\x2=(ut (AT 1) 0 #[359,19,359,20])/\x3=(ut (AT 1) 0 #[359,22,359,23])/\x4=(ut (AT 1) 0 #[359,25,359,26])/\x5=(ut (AT 2) 0 #[359,28,359,29])/\x6=(ut (AT 2) 0 #[359,31,359,32])/\x7=(ut (AT 3) 0 #[359,34,359,35])/\x8=(ut (AT 4) 0 #[359,37,359,38])/\x9=(ut (AT 0) 0 #[360,17,360,18])/\x10=(ut (AT 1) 0 #[360,20,360,21])/\x11=(ut (AT 1) 0 #[360,23,360,24])/\x12=(ut (AT 1) 0 #[360,26,360,27])/\x13=(ut (AT 2) 0 #[360,29,360,30])/\x14=(ut (AT 2) 0 #[360,32,360,33])/\x15=(ut (AT 3) 0 #[360,35,360,36])/\x16=(ut (AT 4) 0 #[360,38,360,39])/\ke oz=[ (Zt (targets:=[(BT "_law_n" #[356,4,356,10])]) (value:=(Zk (func:=(BT "_law_take" #[356,13,356,22])) (args:=[ (BT "_law_bag_here" #[356,23,356,36]),(ut (AT 5) 0 #[356,38,356,39])]) (keywords:=[]) (pos:=#[356,13,356,40]))) (pos:=#[356,4,356,40])),(Stmt.If (test:=(Expr.Compare (left:=(Zk (func:=(BT "_law_take" #[357,7,357,16])) (args:=[ (BT "_law_bag_here" #[357,17,357,30]),(ut (AT 8) 0 #[357,32,357,33])]) (keywords:=[]) (pos:=#[357,7,357,34]))) (ops:=[PySem.CmpOp.Eq]) (comparators:=[(ut (AT 7) 0 #[357,38,357,39])]) (pos:=#[357,7,357,39]))) (body:=[ (Zt (targets:=[(BT "_law_n" #[358,8,358,14])]) (value:=(ut (AT 5) 0 #[358,17,358,18])) (pos:=#[358,8,358,18]))]) (orelse:=[]) (pos:=#[357,4,358,18])),(Zt (targets:=[(BT "_law_ins" #[359,4,359,12])]) (value:=(Expr.Subscript (value:=(Expr.List (elts:=[x1,x2,x3,x4,x5,x6,x7,x8]) (pos:=#[359,15,359,39]))) (slice:=(Zk (func:=(BT "_law_take" #[359,40,359,49])) (args:=[ (BT "_law_bag_here" #[359,50,359,63]),(ut (AT 8) 0 #[359,65,359,66])]) (keywords:=[]) (pos:=#[359,40,359,67]))) (pos:=#[359,15,359,68]))) (pos:=#[359,4,359,68])),(Zt (targets:=[(BT "_law_outs" #[360,4,360,13])]) (value:=(Expr.Subscript (value:=(Expr.List (elts:=[x9,x10,x11,x12,x13,x14,x15,x16]) (pos:=#[360,16,360,40]))) (slice:=(Zk (func:=(BT "_law_take" #[360,41,360,50])) (args:=[ (BT "_law_bag_here" #[360,51,360,64]),(ut (AT 8) 0 #[360,66,360,67])]) (keywords:=[]) (pos:=#[360,41,360,68]))) (pos:=#[360,16,360,69]))) (pos:=#[360,4,360,69])),(Stmt.If (test:=(Expr.Compare (left:=(BT "_law_n" #[361,7,361,13])) (ops:=[PySem.CmpOp.Eq]) (comparators:=[(ut (AT 5) 0 #[361,17,361,18])]) (pos:=#[361,7,361,18]))) (body:=[ (Zt (targets:=[ (Expr.Tuple (elts:=[(BT "_law_ins" #[362,8,362,16]),(BT "_law_outs" #[362,18,362,27])]) (k:=0) (pos:=#[362,8,362,27]))]) (value:=(Expr.Tuple (elts:=[ (Zk (func:=(BT "min" #[362,31,362,34])) (args:=[ (BT "_law_ins" #[362,35,362,43]),(ut (AT 2) 0 #[362,45,362,46])]) (keywords:=[]) (pos:=#[362,31,362,47])),(Zk (func:=(BT "min" #[362,49,362,52])) (args:=[ (BT "_law_outs" #[362,53,362,62]),(ut (AT 2) 0 #[362,64,362,65])]) (keywords:=[]) (pos:=#[362,49,362,66]))]) (k:=0) (pos:=#[362,30,362,67]))) (pos:=#[362,8,362,67]))]) (orelse:=[]) (pos:=#[361,4,362,67])),(Zt (targets:=[(BT "_law_wide" #[363,4,363,13])]) (value:=(Expr.Subscript (value:=(Expr.List (elts:=[ (ut (AT 4) 0 #[363,17,363,18]),(ut (AT 4) 0 #[363,20,363,21]),(ut (AT 9) 0 #[363,23,363,24]),(ut (AT 1000000) 0 #[363,26,363,33])]) (pos:=#[363,16,363,34]))) (slice:=(Zk (func:=(BT "_law_take" #[363,35,363,44])) (args:=[ (BT "_law_bag_here" #[363,45,363,58]),(ut (AT 4) 0 #[363,60,363,61])]) (keywords:=[]) (pos:=#[363,35,363,62]))) (pos:=#[363,16,363,63]))) (pos:=#[363,4,363,63])),(Stmt.If (test:=(Expr.Compare (left:=(BT "_law_wide" #[364,7,364,16])) (ops:=[PySem.CmpOp.Gt]) (comparators:=[(ut (AT 9) 0 #[364,19,364,20])]) (pos:=#[364,7,364,20]))) (body:=[ (Zt (targets:=[(BT "_law_n" #[365,8,365,14])]) (value:=(Zk (func:=(BT "min" #[365,17,365,20])) (args:=[ (BT "_law_n" #[365,21,365,27]),(ut (AT 2) 0 #[365,29,365,30])]) (keywords:=[]) (pos:=#[365,17,365,31]))) (pos:=#[365,8,365,31]))]) (orelse:=[]) (pos:=#[364,4,365,31])),(Stmt.Return (value:=(some (Expr.Tuple (elts:=[ (BT "_law_n" #[366,12,366,18]),(BT "_law_ins" #[366,20,366,28]),(BT "_law_outs" #[366,30,366,39]),(BT "_law_wide" #[366,41,366,50])]) (k:=0) (pos:=#[366,11,366,51])))) (pos:=#[366,4,366,51]))]:=#[_,_,_,_,_,_,_,_,_,_,_,_,_,_,_,_,rfl,rfl,rfl,rfl,rfl,rfl,rfl,rfl,rfl,rfl,rfl,rfl,rfl,rfl,rfl,rfl,by with_unfolding_all rfl]
theorem fM:sC ["_law_bag_here","_law_n","_law_ins","_law_outs","_law_wide"] 1 oz:=by walk_at "d"
theorem CN (T:Txt K mg Z) (bn:bv P):T.nh.o P w base 2 Nt:=by
 refine T.nh.F.k fM ?_;walk_at "i";obtain b|rfl|hB|k:=h;obtain x1|x2|x3|x4|x5|x6|x7|x8|x9|x10|x11|x12|x13|x14|x15|x16|hx1|hx2|hx3|hx4|hx5|hx6|hx7|hx8|hx9|hx10|hx11|hx12|hx13|hx14|hx15|hx16|hbd:=Dg;rw[hbd]
 refine #[_,(au (eP 1 fM.nd (cN (bp T bn) hr T.aZ (cQ bT ak)))
  (jC (cY (bf fq (cN (bp T bn) hr T.aZ (cQ bT ak)) ak (br _)) (ay (eP 1 fM.nd ak)) bN)
  (au (eP 2 fM.nd (aY bV (dC (fB hx1 ak (fB hx2 ak (fB hx3 ak (fB hx4 ak (fB hx5 ak (fB hx6 ak (fB hx7 ak (fB hx8 ak ir))))))))) (cN (bp T bn) hr T.aZ (cQ bT ak))))
  (au (eP 3 fM.nd (aY bV (dC (fB hx9 ak (fB hx10 ak (fB hx11 ak (fB hx12 ak (fB hx13 ak (fB hx14 ak (fB hx15 ak (fB hx16 ak ir))))))))) (cN (bp T bn) hr T.aZ (cQ bT ak))))
  (jC (cY (bf fq cR ak (br _)) (ay (PZ (i:=2) (j:=3) rfl fM.nd rfl rfl () rfl rfl (cQ (bg (wd rfl) (by rfl) T.min KK (cQ dQ ak)) (bg (wd rfl) (by rfl) T.min KK (cQ gY ak))) rfl)) bN)
  (au (eP 4 fM.nd (aY bV (dC (Jg ak ak ak ak)) (cN (bp T bn) hr T.aZ (cQ bT ak))))
  (jC (cY (bf wI lS ak (br _)) (ay (eP 1 fM.nd (bg (wd rfl) (by rfl) T.min KK (cQ cR ak)))) bN)
  (ay (aS (cJ (Jg cR dQ gY lS))))))))))),?_]
 walk_at "s"
 try rw[gP]
 exists #[b,5,rfl,hB,(),(),λn H1 n0 n1 B1 u1=>?_];obtain n|rfl:=cH n0;exists #[λσ' H'=>(∃n:Nat,σ'=[some (.ref b),some (.int n),none,none,none]/\n<=5)/\jm H' b/\dk b H H',?_,?_]
 ·exists #[b,8,rfl,B1,(),(),λv H2 v0 v1 B2 u2=>?_];exists iT (λ_=>?_) (λ_=>?_)
  ·exists #[#[5,rfl,()],B2,u1.trans u2]
  ·exists #[#[n,rfl,()],B2,u1.trans u2]
 clear n0 n1 u1 B1;rintro σ' H1 ⟨⟨n,rfl,n5⟩,B1,u1⟩;exists c6 λl0 H2 s2 n2 g2=>?_
 exists #[b,8,rfl,B1.same s2,(),(),λv H3 v0 v1 B3 u3=>?_];have g3:=u3.other (λz=>B1.at (by rw[<- z];exact n2)) g2;obtain x|ex|mx|_:=nU (xs:=[V.int 0,V.int 1,V.int 1,V.int 1,V.int 2,V.int 2,V.int 3,V.int 4]) v0 (by simpa using v1)
 obtain ⟨i,rfl,hi⟩:∃z:Nat,x=.int z/\z<=4:=by
  simp only[aJ,aX,or_false] at mx;rcases mx with rfl | rfl | rfl | rfl | rfl | rfl | rfl | rfl
  ·exact #[0,rfl,()]
  ·exact #[1,rfl,()]
  ·exact #[1,rfl,()]
  ·exact #[1,rfl,()]
  ·exact #[2,rfl,()]
  ·exact #[2,rfl,()]
  ·exact #[3,rfl,()]
  ·exact #[4,rfl,()]
 exists ck (bI.of g3) ex ?_;clear ex mx g3 g2;exists c6 λl1 H4 s4 n4 g4=>?_
 exists #[b,8,rfl,B3.same s4,(),(),λt H5 t0 t1 B5 u5=>?_];have g5:=u5.other (λz=>B3.at (by rw[<- z];exact n4)) g4;obtain x|ex|mx|_:=nU (xs:=[V.int 0,V.int 1,V.int 1,V.int 1,V.int 2,V.int 2,V.int 3,V.int 4]) t0 (by simpa using t1)
 obtain ⟨o,rfl,ho⟩:∃z:Nat,x=.int z/\z<=4:=by
  simp only[aJ,aX,or_false] at mx;rcases mx with rfl | rfl | rfl | rfl | rfl | rfl | rfl | rfl
  ·exact #[0,rfl,()]
  ·exact #[1,rfl,()]
  ·exact #[1,rfl,()]
  ·exact #[1,rfl,()]
  ·exact #[2,rfl,()]
  ·exact #[2,rfl,()]
  ·exact #[3,rfl,()]
  ·exact #[4,rfl,()]
 exists ck (bI.of g5) ex ?_;clear ex mx g5 g4;have u15:=(((u1.same s2).trans u3).same s4).trans u5;exists #[λσ' H'=>(∃i o:Nat,σ'=[some (.ref b),some (.int n),some (.int i),some (.int o),none]/\i<=4/\o<=4/\(n=5->i<=2/\o<=2))/\jm H' b/\dk b H H',?_,?_]
 ·exists iT (λh0=>?_) (λh0=>?_)
  ·exists #[#[min i 2,min o 2,?_,(),(),λ_=>#[(),()]],B5,u15];have e1:(if (2:Int) < (i:Int) then (2:Int) else (i:Int))=((min i 2:Nat):Int):=by split <;> lia
   have e2:(if (2:Int) < (o:Int) then (2:Int) else (o:Int))=((min o 2:Nat):Int):=by split <;> lia
   rw[<- e1,<- e2];rfl
  ·exists #[#[i,o,rfl,hi,ho,λz=>absurd (decide_eq_true (show (n:Int)=5 by lia)) h0],B5,u15]
 clear hi ho u15 B5 u5 u3 u1;rintro σ' H5 ⟨⟨i,o,rfl,hi,ho,h5⟩,B5,u5⟩;exists c6 λl2 H6 s6 n6 g6=>?_
 exists #[b,4,rfl,B5.same s6,(),(),λv H7 v0 v1 B7 u7=>?_];have g7:=u7.other (λz=>B5.at (by rw[<- z];exact n6)) g6;obtain x|ex|mx|_:=nU (xs:=[V.int 4,V.int 4,V.int 9,V.int 1000000]) v0 (by simpa using v1)
 obtain ⟨w,rfl,hw⟩:∃w:Nat,x=.int w/\(w=4\/w=9\/w=1000000):=by
  simp only[aJ,aX,or_false] at mx;rcases mx with rfl | rfl | rfl | rfl
  ·exact #[4,rfl,.inl rfl]
  ·exact #[4,rfl,.inl rfl]
  ·exact #[9,rfl,.inr (.inl rfl)]
  ·exact #[1000000,rfl,.inr (.inr rfl)]
 exists ck (bI.of g7) ex ?_;have u07:=(u5.same s6).trans u7;exists #[λσ' H'=>(∃n:Nat,σ'=[some (.ref b),some (.int n),some (.int i),some (.int o),some (.int w)]/\n<=5/\(w=4\/w=9\/(w=1000000/\n<=2))/\(n=5->i<=2/\o<=2))/\jm H' b/\dk b H H',?_,?_]
 ·exists iT (λh0=>?_) (λh0=>?_)
  ·exists #[#[min n 2,?_,(),(),λz=>()],B7,u07];have e1:(if (2:Int) < (n:Int) then (2:Int) else (n:Int))=((min n 2:Nat):Int):=by split <;> lia
   rw[<- e1];rfl
  ·exists #[#[n,rfl,n5,?_,h5],B7,u07];rcases hw with z | z | z
   ·exact .inl z
   ·exact .inr (.inl z)
   ·exact absurd (decide_eq_true (show (9:Int) < (w:Int) by lia)) h0
 ·clear h5 n5;rintro σ' H8 ⟨⟨n',rfl,n5,hwn,h5⟩,B8,u8⟩;exists bS λr H9 s9 g9=>?_
  exact k r n' i o w H9 g9 n5 hi ho hwn h5 (B8.same s9) (u8.same s9)
theorem jA:sC ["_law_bag_here","_law_n","_law_move_here","_law_at","_law_put","_law_first","_law_look"] 2 uX:=by walk_at "d"
theorem FP (T:Txt K mg Z) (bn:bv P):T.oR.o P w base 2 (ID K):=by
 refine T.oR.F.k jA ?_;walk_at "i";obtain b|n|rfl|hB|n1|n8|k:=h
 refine #[_,(au (jD 2 ["_law_i"] ["_law_n"] [1] jA.nd rfl rfl (bU rfl T.range (c9 cR)) (λ_=>(eK 0)) (λ_=>b6) (λ_=>(bW ["_law_j"] ["_law_i"] [0] (bU rfl T.range (c9 cR)) (λ_=>(eK 0)) (λ_=>b6) (λ_=>(cJ (cQ (eJ mN (by rfl) T.int Db (c9 (iL fq bT (bD fz cR ak) (br _)))) ak))))))
  (au (gO (bW ["_law_j"] ["_law_bag_here"] [0] (bU rfl T.range (c9 cR)) (λ_=>(eK 0)) (λ_=>b6) (λ_=>(cJ (cQ (bD jr (cN (bp T bn) hr T.aZ (cQ cR ak)) ak) ak)))) (iK dQ (bD jr cR ak) set_list))
  (au (eP 3 jA.nd (aY bV (dC (cQ (bD jr cR ak) (cN (bp T bn) hr T.aZ (cQ bT cR)))) (cN (bp T bn) hr T.aZ (cQ bT ak))))
  (au (eP 4 jA.nd (dC (c9 (bW ["_law_j"] ["_law_at"] [3] (bU rfl T.range (c9 cR)) (λ_=>(eK 0)) (λ_=>b6) (λ_=>(cJ (cQ (eJ mN (by rfl) T.int Db (c9 (iL fq bT cR (br _)))) ak)))))))
  (au (eP 5 jA.nd (aY bV (dC (sZ ak ak (cN (bp T bn) hr T.aZ (cQ bT cR)))) (cN (bp T bn) hr T.aZ (cQ bT ak))))
  (au (eP 6 jA.nd (dC (c9 (bW ["_law_j"] ["_law_first"] [5] (bU rfl T.range (c9 cR)) (λ_=>(eK 0)) (λ_=>b6) (λ_=>(cJ (cQ (eJ mN (by rfl) T.int Db (c9 (iL fq bT cR (br _)))) ak)))))))
  (ay (aS (cJ (sZ dQ lS rG)))))))))),?_]
 walk_at "s"
 try rw[gP]
 have bit:∀{z:Int},∀y∈(on n).map (λ(j:Nat)=>(((if decide ((j:Int)=z)=true then 1 else 0:Int)):Rat)),Fr 1 1 y:=λy hy=>by
  obtain j|_|rfl:=aB.mp hy;exact Xp (by split <;> simp)
 exists #[(),(),?_];refine d6 (n:=n) (c5 K H) (λ(i:Nat)=>(on n).map λ(j:Nat)=>(((if decide ((j:Int)=(i:Int)+1)=true then 1 else 0:Int)):Rat)) () (λa b=>a.same b) ?_ ?_
 ·rintro i Hb NY NN hi sa k1;exists #[(),(),?_];refine d6 (n:=n) (bX K) (λ(j:Nat)=>(((if decide ((j:Int)=(i:Int)+1)=true then 1 else 0:Int)):Rat)) () (λa b=>a.same b) ?_ ?_
  ·rintro j Hz NY2 NN2 hj sz k2;exists bS λt Hy sy gy=>?_
   exact k2 _ _ sy (bX.mk gy rfl)
  ·rintro ys Hz t ht sz g pr nx;exact k1 _ _ sz #[t,rfl,sa.none ht,ys,g,pr]
 rintro ys H1 mm hm s1 g1 pr1 nx1;have G1:be K H H1 mm ((on n).map λ(i:Nat)=>(on n).map λ(j:Nat)=>(((if decide ((j:Int)=(i:Int)+1)=true then 1 else 0:Int)):Rat)):=#[ys,g1,pr1,iS nx1];clear g1 pr1 nx1;have B1:=hB.same s1;have mb:mm≠b:=λz=>hB.at (by rw[<- z];exact hm)
 obtain q0|I0|xq|gq0:=hB.inner;have mq:mm≠q0:=λz=>by rw[<- z,hm] at gq0;cases gq0
 exists #[(),(),?_];refine zF (n:=n) (b:=b) (bX K) (Fr 1 1) B1 () (λa u B=>a.upto u B) ?_ ?_
 ·rintro j Ha NY NN hj ua Ba k1;exists #[b,3,rfl,Ba,(),(),λv Hb v0 v1 Bb ub=>?_];exists bS λt Hc sc gc=>?_
  exact k1 _ ((v - 1:Int):Rat) _ (ub.same sc) (Bb.same sc) (Fr.int ()) (bX.mk gc rfl)
 rintro ys2 cs H2 q2 hq2 u2 B2 g2 lc hc pr2 _;have u02:=(s1.upto (p:=b)).trans u2;have nq2:H q2=none:=s1.none hq2;obtain us|gu|pu:=(G1.upto u2 B1 mb hB.at).toE;have lu:=pu.9;rw[af,bB] at lu
 have q2m:q2≠mm:=λz=>by
  obtain _|gg|_:=id G1;rw[z,gg] at hq2;cases hq2
 walk_at "w";rw[show ((n:Int) - 1)=((n - 1:Nat):Int) by lia];refine fI gu (gH ()) rfl ?_;have G3:be K H (upd H2 mm (.lst (us.set (n - 1) (.ref q2)))) mm (((on n).map λ(i:Nat)=>(on n).map λ(j:Nat)=>(((if decide ((j:Int)=(i:Int)+1)=true then 1 else 0:Int)):Rat)).set (n - 1) cs):=be.ofE aN (ko (ca (λ_ _ z=>qV.updL z gu (λq h=>h.2)) pu) (n - 1) #[q2,rfl,#[nq2,q2m],cC.updL #[ys2,g2,pr2] gu q2m]) (λq h=>h.1) (λq h=>h.2);have B3:jm (upd H2 mm (.lst (us.set (n - 1) (.ref q2)))) b:=B2.upd (u02.2 _ I0) mb mq;have u03:dk b H (upd H2 mm (.lst (us.set (n - 1) (.ref q2)))):=u02.after hm;obtain ⟨mv,emv⟩:∃mv,mv=((on n).map λ(i:Nat)=>(on n).map λ(j:Nat)=>(((if decide ((j:Int)=(i:Int)+1)=true then 1 else 0:Int)):Rat)).set (n - 1) cs:=#[_,rfl];have lmv:mv.9=n:=by rw[emv,d5,af,bB]
 have hmv:∀xs∈mv,xs.9=n/\∀y∈xs,Fr 1 1 y:=λxs hx=>by
  rw[emv] at hx;rcases cI hx with hx | rfl
  ·obtain i|_|rfl:=aB.mp hx;exact #[by rw[af,bB],bit]
  ·exact #[lc,hc]
 rw[<- emv] at G3;generalize upd H2 mm (.lst (us.set (n - 1) (.ref q2)))=H3 at G3 B3 u03 ⊢;clear emv pu gu G1 u2 pr2 g2 B2;exists #[b,n,rfl,B3,(),(),λa1 H4 a10 a11 B4 u4=>?_];exists c6 λl1 H5 s5 nl1 g5=>?_
 exists #[b,2,rfl,B4.same s5,(),(),λv H6 v0 v1 B6 u6=>?_];have g6:=u6.other (λz=>B4.at (by rw[<- z];exact nl1)) g5;obtain x|ex|mx|_:=nU (xs:=[V.int ((n:Int) - 1),V.int a1]) v0 (by simpa using v1)
 obtain ⟨at',rfl⟩:∃a:Int,x=.int a:=by
  simp only[aJ,aX,or_false] at mx;rcases mx with rfl | rfl
  ·exact #[_,rfl]
  ·exact #[_,rfl]
 exists ck (bI.of g6) ex ?_;have u36:=(u4.same s5).trans u6;have G6:=G3.upto u36 B3 mb hB.at;have u06:=u03.trans u36;clear ex mx g6 g5 G3 u4 u6;exists #[(),(),?_];refine d6 (n:=n) (bX K) (λ(j:Nat)=>(((if decide ((j:Int)=at')=true then 1 else 0:Int)):Rat)) () (λa b=>a.same b) ?_ ?_
 ·rintro j Hz NY2 NN2 hj sz k2;exists bS λt Hy sy gy=>?_
  exact k2 _ _ sy (bX.mk gy rfl)
 rintro ys7 H7 q7 hq7 s7 g7 pr7 _;have R7:cC K H7 q7 _:=#[ys7,g7,pr7];exists c6 λp8 H8 s8 n8' g8=>?_
 have s68:=s7.trans s8;have q78:q7≠p8:=λz=>by rw[z,n8'] at g7;cases g7
 have np8:H p8=none:=u06.none B6 (s7.none n8');have nq7:H q7=none:=u06.none B6 hq7
 have GP:be K H H8 p8 [(on n).map λ(j:Nat)=>(((if decide ((j:Int)=at')=true then 1 else 0:Int)):Rat)]:=#[_,g8,.cons #[q7,rfl,nq7,R7.same s8] .nil,λz=>by
  rw[bA] at z;cases z;exact q78 rfl]
 have B8:=B6.same s68;have u08:=u06.same s68;have G8:=G6.same s68;have pb:p8≠b:=λz=>hB.at (by rw[<- z];exact np8)
 exists #[b,n,rfl,B8,(),(),λa2 H9 a20 a21 B9 u9=>?_];exists c6 λl2 Ha sa nl2 ga=>?_
 exists #[b,3,rfl,B9.same sa,(),(),λv' Hb v0' v1' Bb ub=>?_];have gb:=ub.other (λz=>B9.at (by rw[<- z];exact nl2)) ga;obtain x|ex|mx|_:=nU (xs:=[V.int 0,V.int 0,V.int a2]) v0' (by simpa using v1')
 obtain ⟨fi,rfl⟩:∃a:Int,x=.int a:=by
  simp only[aJ,aX,or_false] at mx;rcases mx with rfl | rfl | rfl
  ·exact #[_,rfl]
  ·exact #[_,rfl]
  ·exact #[_,rfl]
 exists ck (bI.of gb) ex ?_;have u8b:=(u9.same sa).trans ub;have Gb:=G8.upto u8b B8 mb hB.at;have GPb:=GP.upto u8b B8 pb hB.at;have u0b:=u08.trans u8b;clear ex mx gb ga G8 GP u9 ub;exists #[(),(),?_];refine d6 (n:=n) (bX K) (λ(j:Nat)=>(((if decide ((j:Int)=fi)=true then 1 else 0:Int)):Rat)) () (λa b=>a.same b) ?_ ?_
 ·rintro j Hz NY2 NN2 hj sz k2;exists bS λt Hy sy gy=>?_
  exact k2 _ _ sy (bX.mk gy rfl)
 rintro ysc Hc qc hqc sc gc prc _;have Rc:cC K Hc qc _:=#[ysc,gc,prc];exists c6 λpd Hd sd nd gd=>?_
 have sbd:=sc.trans sd;have qcd:qc≠pd:=λz=>by rw[z,nd] at gc;cases gc
 have npd:H pd=none:=u0b.none Bb (sc.none nd);have nqc:H qc=none:=u0b.none Bb hqc
 have GL:be K H Hd pd [(on n).map λ(j:Nat)=>(((if decide ((j:Int)=fi)=true then 1 else 0:Int)):Rat)]:=#[_,gd,.cons #[qc,rfl,nqc,Rc.same sd] .nil,λz=>by
  rw[bA] at z;cases z;exact qcd rfl]
 exists bS λr He se ge=>?_
 have sbe:=sbd.trans se;refine k r mv _ _ He #[mm,p8,pd,ge,hm,np8,npd,Gb.same sbe,GPb.same sbe,GL.same se] lmv rfl rfl #[(),by simp,by simp,λxs hx=>by rw[(hmv xs hx).1,lmv],λxs hx=>?_,λxs hx=>?_] (λxs hx=>(hmv xs hx).2) (λxs hx=>?_) (λxs hx=>?_) (Bb.same sbe) (u0b.same sbe)
 ·rw[bA.mp hx,af,bB,lmv]
 ·rw[bA.mp hx,af,bB,lmv]
 ·rw[bA.mp hx];exact bit
 ·rw[bA.mp hx];exact bit
theorem kx:sC ["_law_top","_law_bottom","_law_one","_law_other"] 2 xi:=by walk_at "d"
theorem iE (T:Txt K mg Z) (bn:bv P):T.eY.o P w base 1 U6:=by
 refine T.eY.F.k kx ?_;walk_at "i";obtain t|b|rfl|hb|hs|k:=h
 refine #[_,(au (eP 2 kx.nd (bg yu (by rfl) T.abs Zg (c9 bT)))
  (au (eP 3 kx.nd cR)
  (au (Bv r0 (bf ue dQ ak (br _))
   (ay (PZ (i:=2) (j:=3) rfl kx.nd rfl rfl () rfl rfl (cQ (bD qR gY dQ) dQ) rfl)))
  (ay (aS (cJ (cQ (bD (j4 rfl kx rfl rfl rfl bn (wQ hr)) bT gY) (bD (j4 rfl kx rfl rfl rfl bn (wQ hr)) cR gY)))))))),?_]
 walk_at "s"
 try rw[gP]
 walk_at "w"
 refine ER (λσ' H'=>∃(u v:Int),σ'=[some (.int t),some (.int b),some (.int u),some (.int v)]/\H'=H/\0<=u/\0 < v/\IR u v=IR t b) (λσ' _=>match σ' with | [_,_,some (.int u),_]=>u.natAbs | _=>0) #[_,b,rfl,rfl,by split <;> lia,hb,by
  split
  ·rw[Int.neg_gcd]
  ·rfl] ?_
 rintro σ' H' ⟨u,v,rfl,rfl,hu,hv,hg⟩;exists iT (λh=>?_) (λh=>?_)
 ·have hu0:u≠0:=λz=>by subst z;simp at h
  exists gZ (show (0:Int) < u by lia) ?_;walk_at "w";have h1:=oW v hu0;have h2:=kg v (show 0 < u by lia);exact #[#[v % u,u,rfl,rfl,h1,(),by rw[nM,QG,nM];exact hg],by show (v % u).natAbs < u.natAbs;lia]
 ·have hu0:u=0:=by
   by_cases z:u=0
   ·exact z
   ·exfalso;apply h;simp [z]
  subst hu0
  have e:v=g t b:=by
   unfold g;rw[<- hg,Int.gcd_zero_left]
   lia
  have hgs:Sz 8999000 v:=hs.le (by
   rw[e];have h1:(g t b).natAbs=IR t b:=by unfold g;simp
   rw[h1];exact iC () (by have:=gX (a:=t) (b:=b);exact fO.mpr this |> λz=>by simpa using z))
  exists gZ (show rE _ _ from #[(),hgs]) ?_;exists gZ (show rE _ _ from #[(),hgs]) ?_;exists bS λr H' s' h'=>?_
  rw[cP _ (),cP _ (),e] at h';exact k r H' s' h'
theorem uF:sC ["_law_bag_here","_law_wide","_law_way"] 2 qK:=by walk_at "d"
theorem BL (T:Txt K mg Z) (bn:bv P):T.lB.o P w base 2 (A3 K):=by
 refine T.lB.F.k uF ?_;walk_at "i";obtain b|w|rfl|hB|w0|w1|k:=h
 refine #[_,(au (eP 2 uF.nd (cN (bp T bn) hr T.aZ (cQ bT ak)))
  (au (cY (bf vm dQ ak (br _)) (ay (aS (cJ (cQ ak ak)))) bN)
  (au (cY (bf vm dQ ak (br _)) (ay (aS (cJ (cQ (bD jr (cN (bp T bn) hr T.aZ (cQ bT ak)) ak) ak)))) bN)
  (au (cY (bf fq dQ ak (br _)) (ay (aS (cN (iE T bn) hr T.eY (cQ (bD jr (cN (bp T bn) hr T.aZ (cQ bT ak)) ak) (bD fz ak (cN (bp T bn) hr T.aZ (cQ bT ak))))))) bN)
  (ay (aS (cN (iE T bn) hr T.eY (cQ (bD jr (cN (bp T bn) hr T.aZ (cQ bT (bD fz (bD dn ak cR) ak))) cR) (bD fz ak (cN (bp T bn) hr T.aZ (cQ bT cR))))))))))),?_]
 walk_at "s"
 try rw[gP]
 exists #[b,8,rfl,hB,(),(),λv H1 v0 v1 B1 u1=>?_];exists iT (λh0=>?_) (λh0=>?_)
 ·exists bS λr H2 s2 g2=>?_
  exact k r 0 _ #[a7 _,by show 1<=_;lia] (bX.mk g2 rfl) (B1.same s2) (u1.same s2)
 exists iT (λh1=>?_) (λh1=>?_)
 ·exists #[b,7,rfl,B1,(),(),λa H2 a0 a1 B2 u2=>?_];exists bS λr H3 s3 g3=>?_
  exact k r ((a - 3:Int):Rat) _ #[by show (a - 3).natAbs<=_;lia,by show 1<=_;lia] (bX.mk g3 rfl) (B2.same s3) ((u1.trans u2).same s3)
 exists iT (λh2=>?_) (λh2=>?_)
 ·exists #[b,13,rfl,B1,(),(),λa H2 a0 a1 B2 u2=>?_];exists #[b,6,rfl,B2,(),(),λc H3 c0 c1 B3 u3=>?_];exists #[_,_,rfl,(),(Pg ()).mono (),λr H4 s4 g4=>?_];obtain q|e|d|_:=Qo (t:=a - 6) (b:=1+c) (W:=max w 6) () () ();exact k r q _ d (bX.mk g4 e) (B3.same s4) (((u1.trans u2).trans u3).same s4)
 exists #[b,_,rfl,B1,(),(),λa H2 a0 a1 B2 u2=>?_];exists #[b,_,rfl,B2,(),(),λc H3 c0 c1 B3 u3=>?_];exists #[_,_,rfl,(),(Pg ()).mono (),λr H4 s4 g4=>?_];obtain q|e|d|_:=Qo (t:=a - w) (b:=1+c) (W:=max w 6) () () ();exact k r q _ d (bX.mk g4 e) (B3.same s4) (((u1.trans u2).trans u3).same s4)
theorem IX:sC ["_law_bag_here","_law_many","_law_wide"] 3 xh:=by walk_at "d"
theorem pW (T:Txt K mg Z) (bn:bv P):T.iG.o P w base 3 (IL K):=by
 refine T.iG.F.k IX ?_;walk_at "i";obtain b|m|w|rfl|hB|hm|w0|w1|k:=h;refine #[_,(ay (aS (bW ["_law_k"] ["_law_bag_here","_law_wide"] [0,2] (bU rfl T.range (c9 cR)) (λ_=>(eK 0)) (λ_=>b6) (λ_=>(cN (BL T bn) hr T.lB (cQ cR dQ)))))),?_];walk_at "s"
 try rw[gP]
 exists #[(),(),?_];refine zF (n:=m) (bX K) (Dr (max w 6)) hB hm (λa u B=>a.upto u B) ?_ ?_
 ·rintro i H' NY NN hi u B k1;exists #[b,w,rfl,B,w0,w1,λr x H2 hx h2 B2 u2=>k1 _ x _ u2 B2 hx h2]
 ·rintro ys cs H' p hp u B g lc hc pr nx;exact k p cs H' hp #[ys,g,pr] lc hc B u
theorem kO:sC ["_law_bag_here","_law_n","_law_way","_law_first","_law_wide","_law_move_here","_law_i","_law_row_here","_law_j"] 5 uU:=by walk_at "d"
theorem FK (T:Txt K mg Z) (bn:bv P):T.oO.o P w base 4 (IC K):=by
 refine T.oO.F.k kO ?_;walk_at "i";obtain b|n|w|way|first|rfl|hB|n8|w0|w1|k:=h
 refine #[_,(au (eP 5 kO.nd (dC ir))
  (au (eC r0 rfl (bU rfl T.range (c9 cR)) (eK 6 kO.nd)
   (au (eP 7 kO.nd (cN (pW T bn) hr T.iG (sZ bT cR lS)))
  (au (eC r0 rfl (bU rfl T.range (c9 cR)) (eK 8 kO.nd)
   (jC (cY (PW.pt (kj (bf fq dQ ak (br _)) (kT (bf wI (cN (bp T bn) hr T.aZ (cQ bT ak)) ak (br _))))) (ay (gO (cJ (cQ ak ak)) (iK Ig MC set_list))) bN)
  (jC (cY (PW.pt (kj (bf fq dQ ak (br _)) (kT (bf vm (bD fz rG ak) cR (br _))))) (ay (gO (cJ (cQ (eJ mN (by rfl) T.int Db (c9 (iL fq MC (bD fz rG ak) (br _)))) ak)) (iK Ig MC set_list))) bN)
  (jC (cY (PW.pt (lZ (PW.pt (kj (bf fq dQ ak (br _)) (kj (bf D6 rG gY (br _)) (kT (bf vm MC gY (br _)))))) (jq (PW.pt (kj (bf fq dQ ak (br _)) (kj (bf vm rG gY (br _)) (kT (bf D6 MC gY (br _))))))))) (ay (gO (cJ (cQ ak ak)) (iK Ig MC set_list))) bN)
  (ay (cY (bf fq dQ ak (br _)) (ay (gO (cJ (cQ (bD dn (aY bV (dC (Jg ak ak (xX rM ak) ak)) (bD qR gY ak)) (eJ mN (by rfl) T.int Db (c9 (iL fq rG MC (br _))))) ak)) (iK Ig MC set_list))) bN))))))
  (ay (jc (wH dh dH dG kD vf (c9 Ig)))))))
  (ay (aS vf)))),?_]
 walk_at "s"
 try rw[gP]
 have W1:1<=max w 6:=()
 exists c6 λr H1 s1 n1 g1=>?_
 have rb:r≠b:=λz=>hB.at (by rw[<- z];exact n1)
 obtain q0|I0|xs0|gq0:=hB.inner;have I1:Inner H1 b q0:=(s1.upto (p:=b)).2 _ I0;obtain ⟨A,eA⟩:∃A:Addr->Prop,A=λq=>H q=none/\q≠r:=#[_,rfl]
 have nb:¬A b:=by rw[eA];exact λz=>hB.at z.1
 have nr:¬A r:=by rw[eA];exact λz=>z.2 rfl
 have nq:¬A q0:=by rw[eA];exact λz=>by have z1:=z.1;rw[gq0] at z1;cases z1
 have rq:r≠q0:=λz=>by rw[<- z,n1] at gq0;cases gq0
 exists #[(),(),?_];refine eF (n:=n) (λi σ' H'=>∃(x1 x2 x3:Option V) (us:List V),σ'=[some (.ref b),some (.int n),some (.int way),some (.int first),some (.int w),some (.ref r),x1,x2,x3]/\H' r=some (.lst us)/\us.9=i/\us.Nodup/\(∀x∈us,iU K A H' n (Dr (max w 6)) x)/\jm H' b/\Inner H' b q0/\dk b H H') #[none,none,none,[],rfl,g1,rfl,UR,(λ_ z=>nomatch z),hB.same s1,I1,s1.upto] ?_ ?_
 ·rintro i σ' H' hi ⟨x1,x2,x3,us,rfl,gu,lu,nd,ru,B',I',u'⟩;exists #[b,n,w,rfl,B',(),w0,w1,λp xs Ha np Ra la da Ba ua=>?_];have hp0:H p=none:=u'.none B' np
  have pn:V.ref p∉us:=λz=>by
   obtain q'|_|_|e'|_|g'|_:=(ru _ z).at;cases e';rw[np] at g';cases g'
  have ap':H p=none/\p≠r:=#[hp0,λz=>by rw[z,gu] at np;cases np];have ap:A p:=by rw[eA];exact ap'
  have X0:Nf K A n (Dr (max w 6)) r p b q0 us H Ha:=#[ua.other rb gu,λx hx=>(ru x hx).upto ua B' nb,#[p,xs,rfl,ap,Ra,la,da],Ba,ua.2 _ I',u'.trans ua];clear ru Ra gu;exists #[(),(),?_];refine eF (n:=n) (λj σ' H'=>(∃x3,σ'=[some (.ref b),some (.int n),some (.int way),some (.int first),some (.int w),some (.ref r),some (.int i),some (.ref p),x3])/\Nf K A n (Dr (max w 6)) r p b q0 us H H') #[#[_,rfl],X0] ?_ ?_
  ·rintro j σ' Hj hj ⟨⟨x3,rfl⟩,X⟩;exists #[λσ' H'=>σ'=[some (.ref b),some (.int n),some (.int way),some (.int first),some (.int w),some (.ref r),some (.int i),some (.ref p),some (.int j)]/\Nf K A n (Dr (max w 6)) r p b q0 us H H',?_,?_]
   ·exists iT (λ_=>?_) (λ_=>?_)
    ·exists #[b,3,rfl,X.bag,(),(),λd Hd d0 d1 Bd ud=>?_];replace X:=X.upto ud Bd nb rb
     repeat' (first | walk_at "rd" | refine iT (λ_=>?_) (λ_=>?_))
     all_goals first
      | exact ⟨rfl,X⟩
      | (refine bS λt Hb sb gb=>?_;walk_at "w";obtain zs|gz|lz|Xz:=(X.same sb).put ap nr nb nq hp0 (bX.mk (q:=0) gb rfl) (vG (i:=0) (a7 _) W1) j;refine fI gz (gH ()) rfl ?_;exact #[rfl,Xz])
    ·exists #[rfl,X]
   clear X;rintro σ' Hj ⟨rfl,X⟩;refine #[λσ' H'=>σ'=[some (.ref b),some (.int n),some (.int way),some (.int first),some (.int w),some (.ref r),some (.int i),some (.ref p),some (.int j)]/\Nf K A n (Dr (max w 6)) r p b q0 us H H',?_,?_]
   ·repeat' (first | walk_at "rd" | refine iT (λ_=>?_) (λ_=>?_))
    all_goals first
     | exact ⟨rfl,X⟩
     | (refine bS λt Hb sb gb=>?_;walk_at "w";obtain zs|gz|lz|Xz:=(X.same sb).put ap nr nb nq hp0 (bX.mk (q:=((if decide ((j:Int)=(i:Int)+1)=true then (1:Int) else 0:Int):Rat)) gb rfl) (vG (by split <;> lia) W1) j;refine fI gz (gH ()) rfl ?_;exact #[rfl,Xz])
   clear X;rintro σ' Hj ⟨rfl,X⟩;refine #[λσ' H'=>σ'=[some (.ref b),some (.int n),some (.int way),some (.int first),some (.int w),some (.ref r),some (.int i),some (.ref p),some (.int j)]/\Nf K A n (Dr (max w 6)) r p b q0 us H H',?_,?_]
   ·repeat' (first | walk_at "rd" | refine iT (λ_=>?_) (λ_=>?_))
    all_goals first
     | exact ⟨rfl,X⟩
     | (refine bS λt Hb sb gb=>?_;walk_at "w";obtain zs|gz|lz|Xz:=(X.same sb).put ap nr nb nq hp0 (bX.mk (q:=0) gb rfl) (vG (i:=0) (a7 _) W1) j;refine fI gz (gH ()) rfl ?_;exact #[rfl,Xz])
   clear X;rintro σ' Hj ⟨rfl,X⟩;exists iT (λ_=>?_) (λ_=>?_)
   ·exists c6 λl0 Hc sc nc gc=>?_
    walk_at "w";obtain x|ex|mx|_:=nU (xs:=[V.int 2,V.int 1,V.int (-1),V.int 0]) (i:=first % 4) (oW _ ()) (by have:=kg first (show (0:Int) < 4 by decide);simpa using this)
    obtain ⟨z,rfl,hz⟩:∃z:Int,x=.int z/\z.natAbs<=2:=by
     simp only[aJ,aX,or_false] at mx;rcases mx with rfl | rfl | rfl | rfl
     ·exact #[2,rfl,()]
     ·exact #[1,rfl,()]
     ·exact #[-1,rfl,()]
     ·exact #[0,rfl,()]
    refine ck (bI.of gc) ex ?_;exists gZ (GX () ()) ?_;exists bS λt Hb sb gb=>?_
    walk_at "w";obtain zs|gz|lz|Xz:=((X.same sc).same sb).put ap nr nb nq hp0 (bX.mk (q:=((z*(if decide ((i:Int)=(j:Int))=true then (1:Int) else 0):Int):Rat)) gb rfl) (vG (by split <;> lia) W1) j;refine fI gz (gH ()) rfl ?_;exact #[#[_,rfl],Xz]
   ·exists #[#[_,rfl],X]
  ·rintro σ' Hj ⟨⟨x3,rfl⟩,X⟩;exists #[.inl #[rfl,_,bI.of X.gr],?_];exists jB X.gr (cX ()) ?_;refine #[_,_,_,us++[.ref p],rfl,aN,by simp [lu],BO nd pn,λx hx=>?_,X.bag.upd X.inn rb rq,X.inn.upd rb,X.up.after n1];rcases av.mp hx with hx | hx
   ·exact (X.ru x hx).other X.gr nr
   ·have e:x=V.ref p:=by simpa using hx
    rw[e];exact X.rp.other X.gr nr
 ·rintro σ' H' ⟨x1,x2,x3,us,rfl,gu,lu,nd,ru,B',I',u'⟩;exists k r us H' n1 gu lu nd (by rw[eA] at ru;exact ru) B' u'
theorem IW:sC ["_law_one","_law_other"] 2 xg:=by walk_at "d"
theorem nP (T:Txt K mg Z) (bn:bv P):T.iF.o P w base 2 (rP K (λx y=>x+y)):=by
 refine T.iF.F.ok IW (λvs H Q E h=>?_) (λcdv A outer s H vs Q E hr h=>?_)
 ·obtain p|q|a|b|c|d|rfl|hp|hq|hb|hd|sa|sb|sc|sd|k:=Nc h;rfl
 ·obtain p|q|a|b|c|d|rfl|hp|hq|hb|hd|sa|sb|sc|sd|k:=Nc h;refine #[_,(ay (aS (cN (iE T bn) hr T.eY (cQ (bD fz (bD dn (aY bH bT ak) (aY bH cR ak)) (bD dn (aY bH cR ak) (aY bH bT ak))) (bD dn (aY bH bT ak) (aY bH cR ak)))))),?_];refine rg (σ:=[some (.ref p),some (.ref q)]) rfl ?_
  try rw[gP]
  have hbd:0 < b*d:=j9 hb hd;have sbd:Sz 8999000 (b*d):=(sb.mul sd).mono ();exists gZ (show iH _ _ from .inr #[_,_,sa,sd,()]) ?_;exists gZ (show iH _ _ from .inr #[_,_,sc,sb,()]) ?_;exists gZ (show iH _ _ from .inr #[_,_,sb,sd,()]) ?_;walk_at "w";exists #[_,_,rfl,hbd,sbd,k]
theorem Fe:sC ["_law_one","_law_other"] 2 uQ:=by walk_at "d"
theorem tw (T:Txt K mg Z) (bn:bv P):T.jH.o P w base 3 (Iz K):=by
 refine T.jH.F.k Fe ?_;walk_at "i";obtain p|q|xs|ys|rfl|hp|hq|hl|hz|h1|h2|kk:=h;refine #[_,(ay (aS (bW ["_law_k"] ["_law_one","_law_other"] [0,1] (bU rfl T.range (c9 (bg aU (by rfl) T.len aP (c9 bT)))) (λ_=>(eK 0)) (λ_=>b6) (λ_=>(cN (nP T bn) hr T.iF (cQ (aY (gF K (by rfl)) cR bT) (aY (gF K (by rfl)) dQ bT))))))),?_];walk_at "s"
 try rw[gP]
 obtain us|gu|qu:=id hp;obtain ws|gw|qw:=id hq;have lu:=qu.9;exists #[_,_,rfl,.inl (bI.of gu),?_];exists #[(),(),?_];refine d6 (n:=us.9) (bX K) (λi=>xs.getD i 0+ys.getD i 0) () (λa b=>a.same b) ?_ ?_
 ·rintro i H' NY NN hi s k1;have ix:i < xs.9:=()
  have iy:i < ys.9:=()
  obtain vx|ex|nx:=F4 (ca (λ_ _ z=>z.same s) qu) ix;obtain vy|ey|ny:=F4 (ca (λ_ _ z=>z.same s) qw) iy;exists ck (bI.of (s _ _ gu)) ex ?_;exists ck (bI.of (s _ _ gw)) ey ?_;exists #[_,_,_,_,rfl,nx,ny,h1 _ (getD_mem ix),h2 _ (getD_mem iy),λr3 H3 s3 n3=>k1 _ _ s3 n3]
 ·rintro ys' H' l hl' s g pr nx;exact kk l H' hl' s #[ys',g,by rw[Dy ()];rw[<- lu] at pr;exact pr]
theorem Fd:sC ["_law_one","_law_other"] 2 uP:=by walk_at "d"
theorem oB (T:Txt K mg Z) (bn:bv P):T.iN.o P w base 2 (rP K (λx y=>x*y)):=by
 refine T.iN.F.ok Fd (λvs H Q E h=>?_) (λcdv A outer s H vs Q E hr h=>?_)
 ·obtain p|q|a|b|c|d|rfl|hp|hq|hb|hd|sa|sb|sc|sd|k:=MK h;rfl
 ·obtain p|q|a|b|c|d|rfl|hp|hq|hb|hd|sa|sb|sc|sd|k:=MK h;refine #[_,(ay (aS (cN (iE T bn) hr T.eY (cQ (bD dn (aY bH bT ak) (aY bH cR ak)) (bD dn (aY bH bT ak) (aY bH cR ak)))))),?_];refine rg (σ:=[some (.ref p),some (.ref q)]) rfl ?_
  try rw[gP]
  have hbd:0 < b*d:=j9 hb hd;have sbd:Sz 8999000 (b*d):=(sb.mul sd).mono ();exists gZ (show iH _ _ from .inr #[_,_,sa,sc,()]) ?_;exists gZ (show iH _ _ from .inr #[_,_,sb,sd,()]) ?_;walk_at "w";exists #[_,_,rfl,hbd,sbd,k]
theorem K5:sC ["_law_by_here","_law_row_here"] 2 y9:=by walk_at "d"
theorem mI (T:Txt K mg Z) (bn:bv P):T.iO.o P w base 3 (Po K):=by
 refine T.iO.F.k K5 ?_;walk_at "i";obtain u|q|c|ys|rfl|hc|sc|hq|hz|h2|kk:=h;refine #[_,(ay (aS (bW ["_law_one"] ["_law_by_here"] [0] (cM cR) (λ_=>(eK 0)) (λ_=>b6) (λ_=>(cN (oB T bn) hr T.iN (cQ cR bT)))))),?_];walk_at "s"
 try rw[gP]
 obtain us|gu|qu:=id hq;exists #[#[_,bI.of gu],?_];refine df (K:=K) (F:=bX K) (bX K) (λy=>c*y) gu qu hz (λa b=>a.same b) (λa b=>a.same b) ?_ ?_
 ·rintro i y x H' NY NN en s hx k;exists #[_,_,_,_,rfl,hc.same s,hx,sc,h2 y (ar en),λr H2 s2 h2'=>k _ _ s2 h2']
 ·rintro ys' H' r hr s g pr nx;exact kk r H' hr s #[ys',g,pr]
theorem eV:sC ["_law_bag_here","_law_move_here","_law_put","_law_look","_law_n","_law_turn","_law_i","_law_j","_law_by_here","_law_less_here","_law_row_here"] 4 sS:=by walk_at "d"
theorem CS (T:Txt K mg Z) (bn:bv P):T.nB.o P w base 4 (DT K):=by
 refine T.nB.F.k eV ?_;walk_at "i";obtain b|m|p|l|q0|n|WV|μ|A|us|ws|vs|rfl|MA|X|n8|i4|o4|M0|M1|⟨M,eM⟩|V1|hA|k:=h
 refine #[_,(au (eP 4 eV.nd (bg aU (by rfl) T.len aP (c9 cR)))
  (au (cY (PW.pt (lZ (bf vm lS ak (br _)) (jq (bf fq (cN (bp T bn) hr T.aZ (cQ bT ak)) ak (br _))))) (ay (aS (cJ (sZ cR dQ gY)))) bN)
  (au (eC r0 rfl (bU rfl T.range (c9 (bD fz ak (cN (bp T bn) hr T.aZ (cQ bT ak))))) (eK 5 eV.nd)
   (au (eP 6 eV.nd (cN (bp T bn) hr T.aZ (cQ bT lS)))
  (au (eP 7 eV.nd (bD qR (bD fz (bD fz rG ak) (cN (bp T bn) hr T.aZ (cQ bT (bD jr lS ak)))) lS))
  (au (eP 8 eV.nd (cJ (cQ (aY bV (dC (Jg ak (xX rM ak) ak (xX rM ak))) (cN (bp T bn) hr T.aZ (cQ bT ak))) ak)))
  (au (eP 9 eV.nd (cJ (cQ (bD jr ak (aY bH MC ak)) ak)))
  (au (gO (cN (tw T bn) hr T.jH (cQ (aY bV cR rG) (cN (mI T bn) hr T.iO (cQ MC (aY bV cR Ig))))) (iK cR rG set_list))
  (au (eC r0 rfl (cM (bD jU cR gY)) (eK 10 eV.nd)
   (ay (gO (cN (nP T bn) hr T.iF (cQ (aY bV (pv 10) Ig) (cN (oB T bn) hr T.iN (cQ (pv 9) (aY bV (pv 10) rG))))) (iK (pv 10) Ig set_list))))
  (ay (eC r0 rfl (cM dQ) (eK 10 eV.nd)
   (ay (gO (cN (nP T bn) hr T.iF (cQ (aY bV (pv 10) rG) (cN (oB T bn) hr T.iN (cQ MC (aY bV (pv 10) Ig))))) (iK (pv 10) rG set_list))))))))))))
  (ay (aS (cJ (sZ cR dQ gY))))))),?_]
 walk_at "s"
 try rw[gP]
 have done:∀r us' H' t,t<=3->H' r=some (.tup [.ref m,.ref p,.ref l])->lW K A H' n (λx=>Fr (μ x) (9^t*WV)) m p l b q0 us' ws vs->jO A b m H H'->Q (.ref r) H':=λr us' H' t ht g x kp=>k r us' H' g (x.weak λ_ _ y h=>h.mono (ax _ (aj () ht))) kp
 have X0:lW K A H n (λx=>Fr (μ x) (9^0*WV)) m p l b q0 us ws vs:=X.weak λ_ _ y h=>h.mono (by simp)
 clear X k;have gu:=X0.gm;have lu:=X0.lm;exists #[_,_,rfl,.inl (bI.of gu),?_];rw[lu];clear gu lu;have kp0:jO A b m H H:=λ_ _ h _ _ _=>h
 exists iT (λh0=>?_) (λh0=>?_)
 ·exists bS λr H' s' g'=>?_
  exact done r us H' 0 () g' (X0.same s') (kp0.same s')
 have n2:2<=n:=by
  rcases cg n 2 with z | z
  ·exact absurd (decide_eq_true (show (n:Int) < 2 by lia)) h0
  ·exact z
 exists #[b,2,rfl,X0.bag,(),(),λv H1 v0 v1 B1 u1=>?_];have X1:=X0.upto MA u1 B1;have kp1:=kp0.upto u1;exists iT (λh1=>?_) (λh1=>?_)
 ·exists bS λr H' s' g'=>?_
  exact done r us H' 0 () g' (X1.same s') (kp1.same s')
 exists #[b,3,rfl,B1,(),(),λc H2 c0 c1 B2 u2=>?_];have X2:=X1.upto MA u2 B2;have kp2:=kp1.upto u2;clear X0 X1 kp0 kp1 u1 u2 B1;exists #[(),(),?_];refine eF (n:=(1+c).toNat) (λt σ' H'=>∃(x1 x2 x3 x4 x5 x6:Option V) (us:List V),σ'=[some (.ref b),some (.ref m),some (.ref p),some (.ref l),some (.int n),x1,x2,x3,x4,x5,x6]/\lW K A H' n (λx=>Fr (μ x) (9^t*WV)) m p l b q0 us ws vs/\jO A b m H H') #[none,none,none,none,none,none,us,rfl,X2,kp2] ?_ ?_
 ·rintro t σ' H' ht ⟨x1,x2,x3,x4,x5,x6,us,rfl,X,kp⟩;have t3:t<=2:=()
  exists #[b,n,rfl,X.bag,(),(),λii Ha i0 i1 Ba ua=>?_];obtain ii|rfl:=cH i0;have Xa:=X.upto MA ua Ba;have kpa:=kp.upto ua;exists #[b,_,rfl,Ba,(),(),λd Hb d0 d1 Bb ub=>?_];have Xb:=Xa.upto MA ub Bb;have kpb:=kpa.upto ub;exists gZ (show (0:Int) < n by lia) ?_;have j0:=oW ((ii:Int)+1+d) (show (n:Int)≠0 by lia);have j1:=kg ((ii:Int)+1+d) (show (0:Int) < n by lia);generalize ((ii:Int)+1+d) % (n:Int)=jj at j0 j1 ⊢;obtain jj|rfl:=cH j0;exists c6 λl0 Hc sc nc gc=>?_
  exists #[b,4,rfl,Bb.same sc,(),(),λv' Hd v0' v1' Bd ud=>?_];have gd:=ud.other (λz=>Bb.at (by rw[<- z];exact nc)) gc;obtain x|ex|mx|_:=nU (xs:=[V.int 1,V.int (-1),V.int 2,V.int (-2)]) v0' (by simpa using v1')
  obtain ⟨z,rfl,hz⟩:∃z:Int,x=.int z/\z.natAbs<=2:=by
   simp only[aJ,aX,or_false] at mx;rcases mx with rfl | rfl | rfl | rfl
   ·exact #[1,rfl,()]
   ·exact #[-1,rfl,()]
   ·exact #[2,rfl,()]
   ·exact #[-2,rfl,()]
  have Xd:=(Xb.same sc).upto MA ud Bd;have kpd:=(kpb.same sc).upto ud;exists ck (bI.of gd) ex ?_;exists bS λbt He se ge=>?_
  exists bS λlt Hf sf gf=>?_
  have Xf:=(Xd.same se).same sf;have kpf:=(kpd.same se).same sf;have nb:bX K Hf ((z:Int):Rat) (.ref bt):=bX.mk (sf _ _ ge) rfl;have nl:bX K Hf ((0 - z:Int):Rat) (.ref lt):=bX.mk gf rfl;clear X Xa Xb Xd kp kpa kpb kpd ua ub ud sc gc gd ex mx ge gf se sf Ba Bb Bd nc;have gu:=Xf.gm;have lu:=Xf.lm
  have ru:∀x∈us,iU K A Hf n (Fr M (9^t*WV)) x:=λx hx=>by
   have:=Xf.row x (by simp [hx]);rwa [eM x (Xf.apart.1 x hx).1 (Xf.apart.1 x hx).2] at this
  have hM:0 < M/\M<=2^800:=by
   have hx:us[ii]'()∈us:=aQ _;have:=eM _ (Xf.apart.1 _ hx).1 (Xf.apart.1 _ hx).2;rw[<- this];exact #[M0 _,M1 _]
  have e1:us[ii]?=some (us[ii]'()):=by simp
  have e2:us[jj]?=some (us[jj]'()):=by simp
  obtain q1|z1|qs1|w1|a1|g1|k1|p1|l1|c1:=(ru _ (ar e1)).at;obtain q2|z2|qs2|w2|a2|g2|k2|p2|l2|c2:=(ru _ (ar e2)).at;rw[w1] at e1;rw[w2] at e2;generalize eW:9^t*WV=W at *
  have W9:9*W<=2^140:=by rw[<- eW];exact S6 () V1 ()
  have sz9M:∀{x:Rat} {U:Nat},U<=9*W->Fr M U x->jX x:=λhU h=>MW hM.1 hM.2 (ag hU W9) h
  have sz9:∀{x:Rat} {U:Nat} {v:V},U<=9*W->Fr (μ v) U x->jX x:=λhU h=>MW (M0 _) (M1 _) (ag hU W9) h
  exists ck (bI.of gu) (eG e1) ?_;exists ck (bI.of gu) (eG e2) ?_;exists #[_,q2,_,qs2,rfl,nb,EV (),#[z2,g2,p2],(),λy hy=>sz9M () (c2 y hy),λr1 Hg n1 sg R1=>?_];exists #[q1,r1,qs1,_,rfl,#[z1,sg _ _ g1,ca (λ_ _ y=>y.same sg) p1],R1,by rw[af,l1,l2],(),λy hy=>sz9M () (c1 y hy),λy hy=>?_,λr2 Hh n2' sh R2=>?_]
  ·obtain y'|hy'|rfl:=aB.mp hy;exact AU hz (c2 y' hy') hM.1 hM.2 ()
  have sfh:=sg.trans sh
  have new:V.ref r2∉us++vs++ws:=λz=>by
   obtain q'|_|_|e'|_|g'|_:=((Xf.same sg).row _ z).at;cases e';rw[n2'] at g';cases g'
  have Xh:=(Xf.same sfh).weak (C':=λx y=>(x∈ws->Fr (μ x) W y)/\Fr (μ x) (3*W) y) λx _ y h=>#[λ_=>h,h.mono ()]
  have kph:=kpf.same sfh;have guh:=sfh _ _ gu;have ar2:A r2:=(kpf.same sg).new hA (Xf.same sg).bag (by rw[sg _ _ gu];simp) n2'
  have rp2:iU K A Hh n (λy=>(V.ref r2∈ws->Fr (μ (.ref r2)) W y)/\Fr (μ (.ref r2)) (3*W) y) (.ref r2):=by
   rw[eM (.ref r2) (λz=>new (av.mpr (.inr z))) (λz=>new (av.mpr (.inl (av.mpr (.inr z)))))];refine #[r2,_,rfl,ar2,R2,by rw[cu,af];lia,λy hy=>#[λz=>absurd (av.mpr (.inr z)) new,?_]];obtain j'|hj'|e:=bu hy;rw[ji,iD] at e;rw[<- e];exact F7 hz (c1 _ (aQ _)) (c2 _ (aQ _))
  exists fI guh (gH ()) rfl ?_;have Xi:=Xh.set MA rp2 new ii;have kpi:=kph.upd (o:=.lst (us.set ii (.ref r2))) (q:=m) (.inr rfl);have nli:bX K (upd Hh m (.lst (us.set ii (.ref r2)))) ((0 - z:Int):Rat) (.ref lt):=(nl.same sfh).updL guh;have nbi:bX K (upd Hh m (.lst (us.set ii (.ref r2)))) ((z:Int):Rat) (.ref bt):=(nb.same sfh).updL guh;generalize upd Hh m (.lst (us.set ii (.ref r2)))=Hi at Xi kpi nli nbi ⊢;generalize us.set ii (.ref r2)=um at Xi;clear nb nl Xf kpf gu ru e1 e2 g1 p1 g2 p2 R1 R2 Xh kph guh rp2 sg sh sfh new;have gm:=Xi.gm;have lm:=Xi.lm;have gl:=Xi.gl;have nd:=Xi.nd;obtain nd1|nd2|nd3:=gV.mp nd;exists jS gm gl lV λcl Hj sj nj gj=>?_
  have kpj:=kpi.same sj
  have rows:∀x∈um++vs,∀q,x=V.ref q->q≠cl:=λx hx q e y=>by
   obtain q'|zs|_|e'|_|g'|_:=(Xi.row x (av.mpr (.inl hx))).at;rw[e] at e';cases e';rw[y,nj] at g';cases g'
  have Xj:=(Xi.same sj).weak (C':=λx y=>(x∈ws->Fr (μ x) W y)/\(x∈(um++vs).drop 0->Fr (μ x) (3*W) y)/\Fr (μ x) (9*W) y) λx _ y h=>#[h.1,λ_=>h.2,h.2.mono ()]
  have lj:bX K Hj ((0 - z:Int):Rat) (.ref lt):=nli.same sj;have bj:bX K Hj ((z:Int):Rat) (.ref bt):=nbi.same sj;clear Xi kpi nli nbi;refine #[_,rfl,#[_,bI.of gj],?_];refine jy (K:=K) (a:=cl) (xs:=um++vs) (λs σ' H'=>∃x6:Option V,σ'=[some (.ref b),some (.ref m),some (.ref p),some (.ref l),some (.int n),some (.int t),some (.int ii),some (.int jj),some (.ref bt),some (.ref lt),x6]/\lW K A H' n (λx y=>(x∈ws->Fr (μ x) W y)/\(x∈(um++vs).drop s->Fr (μ x) (3*W) y)/\Fr (μ x) (9*W) y) m p l b q0 um ws vs/\jO A b m H H'/\H' cl=some (.lst (um++vs))/\bX K H' ((0 - z:Int):Rat) (.ref lt)/\bX K H' ((z:Int):Rat) (.ref bt)) #[_,rfl,Xj,kpj,gj,lj,bj] (λs σ' H' _ #[_,_,_,_,e,_]=>bI.of e) ?_ ?_
  ·rintro s x σ' Hk hx ⟨y6,rfl,Xk,kpk,gk,lk,bk⟩;have hs:s < (um++vs).9:=(aF.mp hx).1;have mx:=ar hx
   have xd:x∈(um++vs).drop s:=by
    rw[fL hs,(aF.mp hx).2];exact .head _
   have xd2:x∉(um++vs).drop (s+1):=λz=>by
    have:=nd1.sublist (List.drop_sublist s _);rw[fL hs,fF,(aF.mp hx).2] at this;exact this.1 z
   have xw:x∉ws:=λz=>nd3 x mx x z rfl
   have rx:=Xk.row x (av.mpr (.inl mx));obtain q|zs|qs|rfl|aq|gq|lq|pq|lq2|cq:=rx.at;have qcl:=rows _ mx q rfl;obtain vj|ej|nj':=F4 pq (j:=jj) ();obtain vi|ei|ni':=F4 pq (j:=ii) ();have cj:=(cq _ (getD_mem (xs:=qs) (i:=jj) ())).2.1 xd;have ci:=(cq _ (getD_mem (xs:=qs) (i:=ii) ())).2.1 xd;exists ck (bI.of gq) ej ?_;exists ck (bI.of gq) ei ?_;exists #[_,_,_,_,rfl,lk,ni',EV (),sz9 () ci,λr3 Hl sl n3=>?_];exists #[_,_,_,_,rfl,nj'.same sl,n3,sz9 () cj,AU () ci (M0 _) (M1 _) (),λr4 Hm sm n4=>?_];have slm:=sl.trans sm;exists fI (slm _ _ gq) (gH ()) rfl ?_;refine #[_,rfl,?_,(kpk.same slm).upd (.inl aq),by rw[bG qcl.symm];exact slm _ _ gk,(lk.same slm).updL (slm _ _ gq),(bk.same slm).updL (slm _ _ gq)];refine ((Xk.same slm).weak λx' _ y h=>#[h.1,λz=>h.2.1 ?_,h.2.2]).put MA aq (slm _ _ gq) n4 #[λz=>absurd z xw,λz=>absurd z xd2,?_] jj
   ·rw[fL hs];exact .tail _ z
   ·exact (F7 () cj ci).mono ()
  ·rintro σ' Hk ⟨y6,rfl,Xk,kpk,gk,lk,bk⟩;have gp:=Xk.gp;have Xk2:=Xk.weak (C':=λx y=>(x∈ws.drop 0->Fr (μ x) W y)/\Fr (μ x) (9*W) y) λx _ y h=>#[λz=>h.1 (by simpa using z),h.2.2]
   clear Xk;exists #[#[_,bI.of gp],?_];refine jy (K:=K) (a:=p) (xs:=ws) (λs σ' H'=>∃x6:Option V,σ'=[some (.ref b),some (.ref m),some (.ref p),some (.ref l),some (.int n),some (.int t),some (.int ii),some (.int jj),some (.ref bt),some (.ref lt),x6]/\lW K A H' n (λx y=>(x∈ws.drop s->Fr (μ x) W y)/\Fr (μ x) (9*W) y) m p l b q0 um ws vs/\jO A b m H H'/\bX K H' ((z:Int):Rat) (.ref bt)) #[_,rfl,Xk2,kpk,bk] (λs σ' H' _ #[_,_,X,_]=>bI.of X.gp) ?_ ?_
   ·rintro s x σ' Hl hx ⟨w6,rfl,Xl,kpl,bl⟩;have hs:s < ws.9:=(aF.mp hx).1;have mx:=ar hx
    have xd:x∈ws.drop s:=by
     rw[fL hs,(aF.mp hx).2];exact .head _
    have xd2:x∉ws.drop (s+1):=λz=>by
     have:=nd2.sublist (List.drop_sublist s _);rw[fL hs,fF,(aF.mp hx).2] at this;exact this.1 z
    have rx:=Xl.row x (av.mpr (.inr mx));obtain q|zs|qs|rfl|aq|gq|lq|pq|lq2|cq:=rx.at;obtain vj|ej|nj':=F4 pq (j:=jj) ();obtain vi|ei|ni':=F4 pq (j:=ii) ();have cj:=(cq _ (getD_mem (xs:=qs) (i:=jj) ())).1 xd;have ci:=(cq _ (getD_mem (xs:=qs) (i:=ii) ())).1 xd;exists ck (bI.of gq) ei ?_;exists ck (bI.of gq) ej ?_;exists #[_,_,_,_,rfl,bl,nj',EV (),sz9 () cj,λr3 Hm sm n3=>?_];exists #[_,_,_,_,rfl,ni'.same sm,n3,sz9 () ci,AU () cj (M0 _) (M1 _) (),λr4 Hn sn n4=>?_];have smn:=sm.trans sn;exists fI (smn _ _ gq) (gH ()) rfl ?_;refine #[_,rfl,?_,(kpl.same smn).upd (.inl aq),(bl.same smn).updL (smn _ _ gq)];refine ((Xl.same smn).weak λx' _ y h=>#[λz=>h.1 ?_,h.2]).put MA aq (smn _ _ gq) n4 #[λz=>absurd z xd2,?_] ii
    ·rw[fL hs];exact .tail _ z
    ·exact (F7 () ci cj).mono ()
   ·rintro σ' Hl ⟨w6,rfl,Xl,kpl,bl⟩;refine #[_,_,_,_,_,_,um,rfl,Xl.weak λ_ _ y h=>h.2.mono ?_,kpl];rw[<- eW,gK,b7 (9^t) 9,cV];exact ah _
 ·rintro σ' H' ⟨x1,x2,x3,x4,x5,x6,us',rfl,X,kp⟩;exists bS λr H2' s' g'=>?_
  exact done r us' H2' _ () g' (X.same s') (kp.same s')
theorem eU:sC ["_law_bag_here","_law_n","_law_ins","_law_outs","_law_wide","_law_way","_law_first","_law_move_here","_law_put","_law_look","_law_k","_law_row_here"] 5 sR:=by walk_at "d"
theorem CQ (T : Txt K mg Z) (bn : P.given.tree = none) : T.nA.o P w base 5 (DL K) := by
  have qh := bp (P := P) (w := w) (base := base) T bn;have Kz := FK (P := P) (w := w) (base := base) T bn;have Co := pW (P := P) (w := w) (base := base) T bn;have Ib := CS (P := P) (w := w) (base := base) T bn;refine T.nA.F.k eU ?_;walk_at "i";obtain b|n|i|o|w|c|rfl|hB|n8|i4|o4|w0|w1|hc|hc20|hcM|k:= h
  refine #[_, (au (eP 5 eU.nd (cN qh hr T.aZ (cQ bT ak)))
    (au (eP 6 eU.nd (cN qh hr T.aZ (cQ bT (bD fz cR ak))))
    (au (eP 7 eU.nd (cN Kz hr T.oO (fo bT (Jg cR vf rG lS))))
    (au (jD 8 ["_law_k"] ["_law_bag_here", "_law_n", "_law_wide"] [0, 1, 4] eU.nd rfl rfl (bU rfl T.range (c9 dQ)) (λ_ => (eK 0)) (λ_ => b6) (λ_ => (cN Co hr T.iG (sZ cR dQ gY))))
    (au (jD 9 ["_law_k"] ["_law_bag_here", "_law_n", "_law_wide"] [0, 1, 4] eU.nd rfl rfl (bU rfl T.range (c9 gY)) (λ_ => (eK 0)) (λ_ => b6) (λ_ => (cN Co hr T.iG (sZ cR dQ gY))))
    (au (eC r0 rfl (bU rfl T.range (c9 cR)) (eK 10 eU.nd)
      (au (eC r0 rfl (cM MC) (eK 11 eU.nd)
      (ay (cY (PW.pt (lZ (PW.pt (kj (bf fq vf ak (br _)) (kT (bf D6 (pv 10) rG (br _))))) (jq (PW.pt (kj (bf fq vf ak (br _)) (kj (bf vm (bD fz (pv 10) ak) cR (br _)) (kT (bf fq (cN qh hr T.aZ (cQ bT ak)) ak (br _))))))))) (ay (gO (cJ (cQ ak ak)) (iK (pv 11) (pv 10) set_list))) bN)))
    (ay (eC r0 rfl (cM (pv 9)) (eK 11 eU.nd)
      (ay (cY (PW.pt (lZ (PW.pt (kj (bf fq vf ak (br _)) (kT (bf D6 (pv 10) rG (br _))))) (jq (PW.pt (kj (bf fq vf ak (br _)) (kj (bf wI (pv 10) ak (br _)) (kT (bf fq (cN qh hr T.aZ (cQ bT ak)) ak (br _))))))))) (ay (gO (cJ (cQ ak ak)) (iK (pv 11) (pv 10) set_list))) bN))))))
    (ay (aS (cN Ib hr T.nB (Jg bT Ig MC (pv 9))))))))))), ?_]
  walk_at "s"
  try rw [gP]
  have W1 : 1 ≤ max w 6 := by lia
  obtain q0|I0|xs0|gq0:= hB.inner;exists #[b, 6, rfl, hB, by decide, by decide, λway H1 a0 a1 B1 u1 => ?_];exists #[b, _, rfl, B1, by lia, by lia, λfirst H2 f0 f1 B2 u2 => ?_];have u02 := u1.trans u2;exists #[b, n, w, way, first, rfl, B2, n8, w0, w1, λm us H3 nm0 gm lm ndm rm B3 u3 => ?_];have u03 := u02.trans u3;exists #[(), by lia, ?_];refine Ew (n := i) (b := b) (c5 K H3) (λxs => xs.9 = n /\ ∀ x ∈ xs, Dr (max w 6) x) B3 () (λa u B => a.upto u B B3.at) (λ#[q, e, _, _, g, _] => #[q, e, by rw [g]; exact λz => nomatch z]) ?_ ?_
  · rintro s H' NY NN hi u B k1;exists #[b, n, w, rfl, B, by lia, w0, w1, λr xs H2 nr R lx dx B2 u2 => k1 _ xs _ u2 B2 #[lx, dx] #[r, rfl, u.none B nr, R] #[r, rfl, nr]]
  rintro ws puts H4 p np u4 B4 gp lp ndp hp pr4 nx4;have u04 := u03.trans u4;exists #[(), by lia, ?_];refine Ew (n := o) (b := b) (c5 K H4) (λxs => xs.9 = n /\ ∀ x ∈ xs, Dr (max w 6) x) B4 () (λa u B => a.upto u B B4.at) (λ#[q, e, _, _, g, _] => #[q, e, by rw [g]; exact λz => nomatch z]) ?_ ?_
  · rintro s H' NY NN hi u B k1;exists #[b, n, w, rfl, B, by lia, w0, w1, λr xs H2 nr R lx dx B2 u2 => k1 _ xs _ u2 B2 #[lx, dx] #[r, rfl, u.none B nr, R] #[r, rfl, nr]]
  rintro vs looks H5 l nl u5 B5 gl ll ndl hl pr5 nx5;have u05 := u04.trans u5;have hm0 : H m = none := u02.none B2 nm0;have hp0 : H p = none := u03.none B3 np;have hl0 : H l = none := u04.none B4 nl;have mb : m ≠ b := λz => B2.at (by rw [<- z]; exact nm0)
  have pb : p ≠ b := λz => B3.at (by rw [<- z]; exact np)
  have lb : l ≠ b := λz => B4.at (by rw [<- z]; exact nl)
  have gm4 := u4.other mb gm;have gm5 := u5.other mb gm4;have gp5 := u5.other pb gp;have mp : m ≠ p := λz => by rw [z, np] at gm; cases gm
  have ml : m ≠ l := λz => by rw [z, nl] at gm4; cases gm4
  have pl : p ≠ l := λz => by rw [z, nl] at gp; cases gp
  have mq : m ≠ q0 := λz => Inner.at B2 (u02.2 _ I0) (by rw [<- z]; exact nm0)
  obtain ⟨A, eA⟩ : ∃ A : Addr → Prop, A = λq => H q = none /\ q ≠ m /\ q ≠ p /\ q ≠ l := #[_, rfl]
  have mkA : ∀ {q}, H q = none → q ≠ m → q ≠ p → q ≠ l → A q := λh1 h2 h3 h4 => by rw [eA]; exact #[h1, h2, h3, h4]
  have unA : ∀ {q}, A q → H q = none /\ q ≠ m /\ q ≠ p /\ q ≠ l := λh => by rw [eA] at h; exact h
  have MA : Ml A m p l b q0 := #[λz => (unA z).2.1 rfl, λz => (unA z).2.2.1 rfl, λz => (unA z).2.2.2 rfl, λz => hB.at (unA z).1, (λz => by have z1 := (unA z).1; rw [gq0] at z1; cases z1), mb, pb, lb, mp, ml, mq];clear eA;have lws : ws.9 = i := by rw [<- pr4.9]; exact lp
  have lvs : vs.9 = o := by rw [<- pr5.9]; exact ll
  have alM : ∀ q, V.ref q ∈ us → H3 q ≠ none /\ q ≠ b /\ H4 q ≠ none := λq hq => by
    obtain q'|qs|e|⟨a1, a2⟩|r|z:= rm _ hq;cases e;have qb : q ≠ b := λy => B2.at (by rw [<- y]; exact a1)
    obtain xq|gq|_:= id r;obtain xq4|gq4|_:= r.upto u4 B3 qb;exact #[(by rw [gq]; exact λz => nomatch z), qb, (by rw [gq4]; exact λz => nomatch z)]
  have alP : ∀ q, V.ref q ∈ ws → H3 q = none /\ H4 q ≠ none := λq hq => by
    obtain _|_|q'|e|a|_|g|_:= dF pr4 hq;cases e;exact #[a, by rw [g]; exact λz => nomatch z]
  have alL : ∀ q, V.ref q ∈ vs → H4 q = none := λq hq => by
    obtain _|_|q'|e|a|_:= dF pr5 hq;cases e;exact a
  have isR : ∀ x, x ∈ us \/ x ∈ ws \/ x ∈ vs → ∃ q, x = V.ref q := λx hx => by
    rcases hx with hx | hx | hx
    · obtain q|_|e|_:= rm x hx; exact #[q, e]
    · obtain _|_|q|e|_:= dF pr4 hx; exact #[q, e]
    · obtain _|_|q|e|_:= dF pr5 hx; exact #[q, e]
  have nd : (us ++ vs ++ ws).Nodup := by
    refine gV.mpr #[gV.mpr #[ndm, ndl, λx hx y hy e => ?_], ndp, λx hx y hy e => ?_]
    · subst e;obtain q|rfl:= isR x (.inl hx);exact (alM q hx).2.2 (alL q hy)
    · subst e;obtain q|rfl:= isR x (.inr (.inl hy));rcases av.mp hx with hx | hx
      · exact (alM q hx).1 (alP q hy).1
      · exact (alP q hy).2 (alL q hx)
  have X5 : Mi K A n (Dr (max w 6)) m p l b q0 us ws vs H H5 := by
    refine #[#[B5, u05.2 _ I0, gm5, gp5, gl, lm, λx hx => ?_, nd], gp5, gl, λc u e n1 _ _ => u05.1 c u e n1];rcases av.mp hx with hx | hx
    · rcases av.mp hx with hx | hx
      · obtain q|qs|e|⟨a1, a2⟩|r|z:= rm x hx;obtain xq|gq|_:= id r;have qb : q ≠ b := λy => B2.at (by rw [<- y]; exact a1)
        have r4 := r.upto u4 B3 qb;obtain xq4|gq4|_:= id r4;exact #[q, qs, e, mkA (u02.none B2 a1) a2 (λy => by rw [y, np] at gq; cases gq) (λy => by rw [y, nl] at gq4; cases gq4), r4.upto u5 B4 qb, z]
      · refine PD (A := A) pr5 hl (λq hq a b' => ?_) x hx;exact mkA (u04.none B4 a) (λy => by rw [y, gm4] at a; cases a) (λy => by rw [y, gp] at a; cases a) (λy => iS nx5 (by rw [<- y]; exact hq))
    · refine iU.upto (PD (A := A) pr4 hp (λq hq a b' => ?_) x hx) u5 B4 MA.ab;exact mkA (u03.none B3 a) (λy => by rw [y, gm] at a; cases a) (λy => iS nx4 (by rw [<- y]; exact hq)) (λy => b' (by rw [y]; exact nl))
  clear alM alP alL isR rm pr4 pr5 nx4 nx5 gm gm4 gm5 gp gp5 gl hp hl;exists #[(), by lia, ?_];refine eF (n := n) (λkk σ' H' => (∃ x1 x2, σ' = [some (.ref b), some (.int n), some (.int i), some (.int o), some (.int w), some (.int way), some (.int first), some (.ref m), some (.ref p), some (.ref l), x1, x2]) /\ Mi K A n (Dr (max w 6)) m p l b q0 us ws vs H H') #[#[_, _, rfl], X5] ?_ ?_
  · rintro kk σ' Hj hk ⟨⟨x1, x2, rfl⟩, X⟩;exists #[#[_, bI.of X.gp], ?_];refine jy (K := K) (a := p) (xs := ws) (λs σ' H' => (∃ x2, σ' = [some (.ref b), some (.int n), some (.int i), some (.int o), some (.int w), some (.int way), some (.int first), some (.ref m), some (.ref p), some (.ref l), some (.int kk), x2]) /\ Mi K A n (Dr (max w 6)) m p l b q0 us ws vs H H') #[#[_, rfl], X] (λs σ' H' _ #[_, e] => bI.of e.gp) ?_ ?_
    · rintro s x σ' Hk hx ⟨⟨y2, rfl⟩, X⟩;have mx := ar hx;obtain q|_|rfl|_:= X.row (.inl mx)
      repeat' (first | walk_at "rd" | refine iT (λ_ => ?_) (λ_ => ?_))
      all_goals first
        | exact ⟨⟨_, rfl⟩, X⟩
        | (refine bS λt Hb sb gb => ?_; walk_at "w"; obtain zs|gz|lz|Xz:= (X.same sb).put MA (.inl mx) (bX.mk (q := 0) gb rfl) (vG (i := 0) (a7 _) W1) kk; refine fI gz (gH ()) rfl ?_; exact #[#[_, rfl], Xz])
        | (refine ⟨b, 2, rfl, X.mix.bag, by decide, by decide, λd Hd d0 d1 Bd ud => ?_⟩
           replace X := X.upto MA ud Bd
           repeat' (first | walk_at "rd" | refine iT (λ_ => ?_) (λ_ => ?_))
           all_goals first
             | exact ⟨⟨_, rfl⟩, X⟩
             | (refine bS λt Hb sb gb => ?_
                walk_at "w";obtain zs|gz|lz|Xz:= (X.same sb).put MA (.inl mx) (bX.mk (q := 0) gb rfl) (vG (i := 0) (a7 _) W1) kk;refine fI gz (gH ()) rfl ?_;exact #[#[_, rfl], Xz]))
    · rintro σ' Hk ⟨⟨y2, rfl⟩, X⟩;exists #[#[_, bI.of X.gl], ?_];refine jy (K := K) (a := l) (xs := vs) (λs σ' H' => (∃ x2, σ' = [some (.ref b), some (.int n), some (.int i), some (.int o), some (.int w), some (.int way), some (.int first), some (.ref m), some (.ref p), some (.ref l), some (.int kk), x2]) /\ Mi K A n (Dr (max w 6)) m p l b q0 us ws vs H H') #[#[_, rfl], X] (λs σ' H' _ #[_, e] => bI.of e.gl) ?_ ?_
      · rintro s x σ' Hk hx ⟨⟨y2, rfl⟩, X⟩;have mx := ar hx;obtain q|_|rfl|_:= X.row (.inr mx)
        repeat' (first | walk_at "rd" | refine iT (λ_ => ?_) (λ_ => ?_))
        all_goals first
          | exact ⟨⟨_, rfl⟩, X⟩
          | (refine bS λt Hb sb gb => ?_; walk_at "w"; obtain zs|gz|lz|Xz:= (X.same sb).put MA (.inr mx) (bX.mk (q := 0) gb rfl) (vG (i := 0) (a7 _) W1) kk; refine fI gz (gH ()) rfl ?_; exact #[#[_, rfl], Xz])
          | (refine ⟨b, 2, rfl, X.mix.bag, by decide, by decide, λd Hd d0 d1 Bd ud => ?_⟩
             replace X := X.upto MA ud Bd
             repeat' (first | walk_at "rd" | refine iT (λ_ => ?_) (λ_ => ?_))
             all_goals first
               | exact ⟨⟨_, rfl⟩, X⟩
               | (refine bS λt Hb sb gb => ?_
                  walk_at "w";obtain zs|gz|lz|Xz:= (X.same sb).put MA (.inr mx) (bX.mk (q := 0) gb rfl) (vG (i := 0) (a7 _) W1) kk;refine fI gz (gH ()) rfl ?_;exact #[#[_, rfl], Xz]))
      · rintro σ' Hk ⟨⟨y2, rfl⟩, X⟩;exact #[#[_, _, rfl], X]
  · rintro σ' Hj ⟨⟨x1, x2, rfl⟩, X⟩
    obtain ⟨M1, M2, M3, V0, a1, a2, a3, V2, hcs, R1, R2, R3⟩ : ∃ M1 M2 M3 V0 : Nat, (0 < M1 /\ M1 ≤ 2 ^ 800) /\ (0 < M2 /\ M2 ≤ 2 ^ 800) /\ (0 < M3 /\ M3 ≤ 2 ^ 800) /\ V0 ≤ 2 ^ 20 /\ ((w ≤ 9 /\ M1 = 2520 /\ M2 = 2520 /\ M3 = 2520 /\ V0 = 9) \/ (9 < w /\ M1 ≤ 2 ^ (c * (n * n)) /\ M2 ≤ 2 ^ (c * (i * n)) /\ M3 ≤ 2 ^ (c * (o * n)) /\ V0 = 2 ^ c)) /\ (∀ x ∈ us, iU K A Hj n (Fr M1 V0) x) /\ (∀ x ∈ ws, iU K A Hj n (Fr M2 V0) x) /\ ∀ x ∈ vs, iU K A Hj n (Fr M3 V0) x := by
      by_cases w9 : w ≤ 9
      · have XM := X.mix.weak (C' := λ_ => Fr 2520 9) λ_ _ y h => LL #[ag h.1 (), ag h.2 ()] (wo _)
        have z : 0 < 2520 /\ 2520 ≤ 2 ^ 800 := #[(), ag (show 2520 ≤ 2 ^ 12 by decide) (aj () ())];exact #[2520, 2520, 2520, 9, z, z, z, by decide, .inl #[w9, rfl, rfl, rfl, rfl], λx hx => XM.row x (by simp [hx]), λx hx => XM.row x (by simp [hx]), λx hx => XM.row x (by simp [hx])]
      · obtain M1|M2|M3|a1|a2|a3|b1|b2|b3|R1|R2|R3:= (X.mix.weak (C' := λ_ => Dr (2 ^ c)) λ_ _ y h => #[ag h.1 hc, ag h.2 hc]).fr3;rw [lws] at b2;rw [lvs] at b3;have up : ∀ {M k : Nat}, M ≤ 2 ^ (c * k) → k ≤ (n + i + o) * n → M ≤ 2 ^ 800 := λh hk => ag h (aj () (ag (aD _ hk) hcM))
        exact #[M1, M2, M3, 2 ^ c, #[a1, up b1 (ax _ ())], #[a2, up b2 (ax _ ())], #[a3, up b3 (ax _ ())], aj () hc20, .inr #[(), b1, b2, b3, rfl], R1, R2, R3]
    obtain μ|e2|e3|e1|e4:= Qh ws vs M1 M2 M3;obtain ap1|ap2:= X.mix.apart
    have XM : lW K A Hj n (λx => Fr (μ x) V0) m p l b q0 us ws vs := by
      refine #[X.mix.bag, X.mix.inn, X.mix.gm, X.mix.gp, X.mix.gl, X.mix.lm, λx hx => ?_, X.mix.nd];rcases av.mp hx with hx | hx
      · rcases av.mp hx with hx | hx
        · rw [e1 x (ap1 x hx).1 (ap1 x hx).2]; exact R1 x hx
        · rw [e3 x hx (ap2 x hx)]; exact R3 x hx
      · rw [e2 x hx]; exact R2 x hx
    have p1 : ∀ x, 0 < μ x := λx => by
      rcases e4 x with e | e | e
      · rw [e]; exact a1.1
      · rw [e]; exact a2.1
      · rw [e]; exact a3.1
    have p2 : ∀ x, μ x ≤ 2 ^ 800 := λx => by
      rcases e4 x with e | e | e
      · rw [e]; exact a1.2
      · rw [e]; exact a2.2
      · rw [e]; exact a3.2
    have gmj := X.mix.gm;exists #[b, m, p, l, q0, n, V0, μ, A, us, ws, vs, rfl, MA, XM, n8, by lia, by lia, p1, p2, #[M1, e1], V2, λq hq => ?_, λr us' H' g Y kp => ?_]
    · refine mkA ?_ (λz => by rw [z, gmj] at hq; cases hq) (λz => by rw [z, X.gp] at hq; cases hq) (λz => by rw [z, X.gl] at hq; cases hq);cases e : H q with
      | none => rfl
      | some u =>
        have := X.kp q u e (λz => X.mix.bag.at (by rw [<- z]; exact hq)) (λz => by have := (unA z).1; rw [e] at this; cases this) (λz => by rw [z, hm0] at e; cases e);rw [hq] at this; cases this
    · obtain yp1|yp2:= Y.apart;obtain mv|Gm|lmv|hmv:= xy (H0 := H) (n := n) (C := Fr M1 (9 ^ 3 * V0)) (m := n) #[us', Y.gm, Y.lm, MA.am, λx hx => by have := Y.row x (by simp [hx]); rwa [e1 x (yp1 x hx).1 (yp1 x hx).2] at this] λq h => (unA h).1
      obtain pt|Gp|lpt|hpt:= xy (H0 := H) (n := n) (C := Fr M2 (9 ^ 3 * V0)) (m := i) #[ws, Y.gp, lws, MA.ap, λx hx => by have := Y.row x (by simp [hx]); rwa [e2 x hx] at this] λq h => (unA h).1
      obtain lk|Gl|llk|hlk:= xy (H0 := H) (n := n) (C := Fr M3 (9 ^ 3 * V0)) (m := o) #[vs, Y.gl, lvs, MA.al, λx hx => by have := Y.row x (by simp [hx]); rwa [e3 x hx (yp2 x hx)] at this] λq h => (unA h).1
      refine k r mv pt lk H' #[m, p, l, g, hm0, hp0, hl0, Gm, Gp, Gl] lmv lpt llk #[(), by lia, by lia, λxs hx => by rw [(hmv xs hx).1, lmv], λxs hx => by rw [(hpt xs hx).1, lmv], λxs hx => by rw [(hlk xs hx).1, lmv]] #[M1, M2, M3, 9 ^ 3 * V0, a1.1, a2.1, a3.1, λxs hx => (hmv xs hx).2, λxs hx => (hpt xs hx).2, λxs hx => (hlk xs hx).2, ?_] Y.bag #[λc' u e n1 => (X.kp.trans kp) c' u e n1 (λz => by have := (unA z).1; rw [e] at this; cases this) (λz => by rw [z, hm0] at e; cases e), λq h => by rw [<- Inner.inj I0 h]; exact Y.inn];rcases hcs with ⟨b1, b2, b3, b4, b5⟩ | ⟨b1, b2, b3, b4, b5⟩
      · exact .inl #[b1, b2, b3, b4, by rw [b5]]
      · exact .inr #[b1, b2, b3, b4, by rw [b5]]
theorem jo:sC ["_law_bag_here","_law_n","_law_ins","_law_outs","_law_wide"] 1 qI:=by walk_at "d"
theorem BI (T:Txt K mg Z) (bn:bv P):T.lh.o P w base 6 (R9 K):=by
 refine T.lh.F.k jo ?_;walk_at "i";obtain b|rfl|hB|k:=h
 refine #[_,(au (gO (cN (CN T bn) hr T.nh (c9 bT)) (xn rfl (cW (eK 1 jo.nd) (cW (eK 2 jo.nd) (cW (eK 3 jo.nd) (cW (eK 4 jo.nd) jd))))))
  (au (cY (bf fq (cN (bp T bn) hr T.aZ (cQ bT ak)) ak (br _)) (ay (aS (cJ (cQ (cN (FP T bn) hr T.oR (cQ bT (bD fz ak (cN (bp T bn) hr T.aZ (cQ bT ak))))) ak)))) bN)
  (ay (aS (cJ (cQ (cN (CQ T bn) hr T.nA (fo bT (Jg cR dQ gY lS))) (bg (wd rfl) (by rfl) T.min KK (cQ lS ak)))))))),?_]
 walk_at "s"
 try rw[gP]
 have sf:∀{mv pt lk:LR9} {M V1:Nat},0 < M->M<=2^400->V1<=2^30->GF M V1 mv->GF M V1 pt->GF M V1 lk->Ky mv pt lk:=λh0 h1 h2 a b c=>#[_,_,h0,h1,ag h2 (aj () ()),a,b,c]
 exists #[b,rfl,hB,λr n i o w H1 g1 n5 i4 o4 hw h5 B1 u1=>?_];exists #[b,16,rfl,B1,(),(),λv H2 v0 v1 B2 u2=>?_];have u02:=u1.trans u2;exists iT (λh0=>?_) (λh0=>?_)
 ·exists #[b,3,rfl,B2,(),(),λv3 H4 v30 v31 B4 u4=>?_];obtain v3|rfl:=cH v30;have u04:=u02.trans u4;walk_at "w";rw[show ((6:Int)+(v3:Int))=((6+v3:Nat):Int) by lia];refine #[b,6+v3,rfl,B4,(),(),λr4 mv pt lk H5 P5 lm _ _ D fm fp fl B5 u5=>?_];exists bS λt H6 s6 g6=>?_
  exact k t r4 4 0 4 mv pt lk H6 g6 ((P5.weak λq h=>u04.none B4 h).same s6) D (sf () cm () fm fp fl) (p7 (n0:=8) () () D.n8 () fm fp ()) (.inl #[(),(),(),(),(),(λxs hx x hx'=>(fm xs hx x hx').mono ()),(λxs hx x hx'=>(fp xs hx x hx').mono ()),ag (ax _ (show mv.9+4<=12 by have:=D.n8;lia)) ()]) () () (B5.same s6) ((u04.trans u5).same s6)
 ·obtain ⟨c,hc,hc20,hcM⟩:∃c:Nat,max w 6<=2^c/\c<=20/\c*((n+i+o)*n)<=800/\(9 < w->c=20/\(n+i+o)*n<=20/\n<=2):=by
   have m1:(n+i+o)*n<=13*5:=aK () n5;rcases hw with rfl | rfl | ⟨rfl,n2⟩
   ·exact #[4,(),(),(),λz=>()]
   ·exact #[4,(),(),(),λz=>()]
   ·have m2:(n+i+o)*n<=10*2:=aK () n2;exact #[20,(),(),(),λ_=>#[rfl,(),n2]]
  obtain hcM|hbig:=hcM;exists #[b,n,i,o,w,c,rfl,B2,(),i4,o4,(),(),hc,hc20,hcM,λr4 mv pt lk H4 P4 lm lp ll D PF B4 u4=>?_];have hmin:(if (1000:Int) < (w:Int) then (1000:Int) else (w:Int))=((min w 1000:Nat):Int):=by split <;> lia
  have PG:=PF;obtain M|V1|M0|fm|fp|fl|hcs:=PF.n
  obtain ⟨a',c',KF,SF⟩:∃a' c',jl mv pt a' c'/\Ky mv pt lk:=by
   rcases hcs with ⟨w9,rfl,rfl⟩ | ⟨w9,M1,rfl⟩
   ·exact #[12,16,p7 (n0:=5) () () () () fm fp (),sf () (ag (show 2520<=2^12 by decide) (aj () ())) () fm fp fl]
   ·obtain rfl|e1|e2:=hbig w9;have M4:M<=2^400:=ag M1 (aj () ());exact #[400,32,p7 (n0:=2) M0 M4 () () fm fp (),sf M0 M4 () fm fp fl]
  have RG:Rg mv pt (min w 1000):=by
   obtain M1|M2|M3|V1|a1|a2|a3|f1|f2|f3|hc':=PG;rcases hc' with ⟨w9,rfl,rfl,_,rfl⟩ | ⟨w9,b1,b2,_,rfl⟩
   ·exact .inr (.inl #[(),(),(),(),(),(),f1,f2,ag (ax _ (show mv.9+4<=9 by lia)) ()])
   ·obtain rfl|e1|e2:=hbig w9;have q1:n*n<=2*2:=aK e2 e2;have q2:i*n<=4*2:=aK i4 e2;have w6:w=1000000:=()
    exact .inr (.inr #[(),(),M1,M2,a1,a2,ag b1 (aj () ()),ag b2 (aj () ()),f1,f2,ag (ax _ (show mv.9+4<=6 by lia)) ()])
  exists bS λt H5 s5 g5=>?_
  rw[hmin] at g5;exact k t r4 (min w 1000) a' c' mv pt lk H5 g5 ((P4.weak λq h=>u02.none B2 h).same s5) D SF KF RG () () (B4.same s5) ((u02.trans u4).same s5)
theorem Bj:sC ["_law_grid"] 1 qN:=by walk_at "d"
theorem pA (T:Txt K mg Z) (bn:bv P):T.iw.o P w base 1 (A9 K):=by
 refine T.iw.F.k Bj ?_;walk_at "i";obtain p|H0|rows|rfl|hp|hl|hm|k:=h;refine #[_,(ay (aS (bW ["_law_row_here"] [] [] (cM bT) (λ_=>(eK 0)) (λ_=>b6) (λ_=>(eJ (iW K (by rfl)) (by rfl) T.list wv (c9 bT)))))),?_];walk_at "s"
 try rw[gP]
 obtain xs|gx|qx|_:=id hp;exists #[#[_,bI.of gx],?_];refine df (K:=K) (F:=c5 K H0) (c5 K H) id gx qx hl (λa b=>a.same b) (λa b=>a.same b) ?_ ?_
 ·rintro i ns x H' NY NN en s ⟨u,rfl,_,zs,gz,qz⟩ k1;exists #[u,zs,rfl,.inl (bI.of gz),λl1 hl1=>?_];exact k1 _ _ (aH.new hl1) #[l1,rfl,s.none hl1,zs,aN,ca (λ_ _ z=>z.same (aH.new hl1)) qz]
 ·rintro ys' H' r hr s g pr nx;rw[jh] at pr nx;exact k r H' hr s #[ys',g,pr,iS nx]
theorem Fg:sC ["_law_parts_here"] 1 uV:=by walk_at "d"
theorem FL (T:Txt K mg Z) (bn:bv P):T.oP.o P w base 7 (AY K Z.a_System):=by
 refine T.oP.F.k Fg ?_;walk_at "i";obtain r|H0|mv|pt|lk|rfl|PQ|D|F|k:=h;refine #[_,(ay (aS (MF T.mk_System (pB T bn) (hr.mono ()) rfl T.mg_System T.lK .nil BA (sZ (cN (pA T bn) hr T.iw (c9 (aY bH bT ak))) (cN (pA T bn) hr T.iw (c9 (aY bH bT ak))) (cN (pA T bn) hr T.iw (c9 (aY bH bT ak))))))),?_];walk_at "s"
 try rw[gP]
 obtain m|p|l|g|n1|n2|n3|Gm|Gp|Gl:=id PQ;have d1:=D.n8;have d2:=D.i4;have d3:=D.o4;exists #[m,H0,mv,rfl,Gm,(),λxs hx=>by rw[D.mw xs hx];lia,λa H1 na s1 Ga=>?_];have g1:=s1 _ _ g;exists #[p,H0,pt,rfl,Gp.same s1,(),λxs hx=>by rw[D.pw xs hx];lia,λb H2 nb s2 Gb=>?_];have s12:=s1.trans s2;have g2:=s12 _ _ g;exists #[l,H0,lk,rfl,Gl.same s12,(),λxs hx=>by rw[D.lw xs hx];lia,λc H3 nc s3 Gc=>?_];have s13:=s12.trans s3;walk_at "w";intro x dx nx ndx nex;exact #[x,dx,a,b,c,H3,H,H1,H2,mv,pt,lk,rfl,nx,ndx,nex,rfl,(Ga.same s2).same s3,Gb.same s3,Gc,D,F.ok.1,F.ok.2.1,F.ok.2.2,λH' s' S'=>#[rfl,k x H' (s13.none nx) (s13.trans s') (S'.weak s13)]]
theorem pR:sC ["_law_one","_law_other","_law_total","_law_k"] 2 xk:=by walk_at "d"
theorem pX (T:Txt K mg Z) (bn:bv P):T.jx.o P w base 3 (EZ K):=by
 refine T.jx.F.k pR ?_;walk_at "i";obtain p|q|xs|ys|rfl|hp|hq|hl|hz|⟨k1,j1,k2,j2,h1,h2,hkj⟩|kk:=h
 refine #[_,(au (eP 2 pR.nd (cJ (cQ ak ak)))
  (au (eC r0 rfl (bU rfl T.range (c9 (bg aU (by rfl) T.len aP (c9 bT)))) (eK 3 pR.nd)
   (ay (eP 2 pR.nd (cN (nP T bn) hr T.iF (cQ dQ (cN (oB T bn) hr T.iN (cQ (aY bV bT gY) (aY bV cR gY))))))))
  (ay (aS dQ)))),?_]
 walk_at "s"
 try rw[gP]
 obtain us|gu|qu:=id hp;obtain ws|gw|qw:=id hq;have lu:=qu.9;have lw:=qw.9;exists bS λr0 H0 s0 g0=>?_
 exists #[_,_,rfl,.inl (bI.of (s0 _ _ gu)),?_];exists #[(),(),?_];refine eF (n:=us.9) (λi σ' H'=>aH H H'/\∃(r:V) (v:Option V),σ'=[some (.ref p),some (.ref q),some r,v]/\bX K H' (cb (xs.take i) (ys.take i)) r) #[s0,_,none,rfl,bX.mk g0 rfl] ?_ ?_
 ·rintro i σ' H' hi ⟨s,r,v,rfl,hr⟩;have ix:i < xs.9:=()
  have iy:i < ys.9:=()
  obtain vx|ex|nx:=F4 (ca (λ_ _ z=>z.same s) qu) ix;obtain vy|ey|ny:=F4 (ca (λ_ _ z=>z.same s) qw) iy;exists ck (bI.of (s _ _ gu)) ex ?_;exists ck (bI.of (s _ _ gw)) ey ?_;exists #[_,_,_,_,rfl,nx,ny,h1.szn (getD_mem ix) (),h2.szn (getD_mem iy) (),λr3 H3 s3 n3=>?_];exists #[_,_,_,_,rfl,hr.same s3,n3,QV h1 h2 hz i hkj,Qg (h1.one (getD_mem ix)) (h2.one (getD_mem iy)) hkj,λr4 H4 s4 n4=>?_];exists #[(s.trans s3).trans s4,_,_,rfl,by rw[Ep ix iy];exact n4]
 ·rintro σ' H' ⟨s,r,v,rfl,hr⟩;rw[aM (),aM ()] at hr;obtain t|rfl|ht:=hr;exists kk _ H' s #[t,rfl,ht]
theorem K4:sC ["_law_grid","_law_row_here"] 2 y8:=by walk_at "d"
theorem BK (T:Txt K mg Z) (bn:bv P):T.pG.o P w base 4 (EY K):=by
 refine T.pG.F.k K4 ?_;walk_at "i";obtain p|q|H0|rows|ys|rfl|hp|hq|hz|hl|hr1|kk:=h;refine #[_,(ay (aS (bW ["_law_one"] ["_law_row_here"] [1] (cM bT) (λ_=>(eK 0)) (λ_=>b6) (λ_=>(cN (pX T bn) hr T.jx (cQ bT cR)))))),?_];walk_at "s"
 try rw[gP]
 obtain xs|gx|qx|_:=id hp;exists #[#[_,bI.of gx],?_];refine df (K:=K) (F:=c5 K H0) (bX K) (λxs=>cb xs ys) gx qx hz (λa b=>a.same b) (λa b=>a.same b) ?_ ?_
 ·rintro i ns x H' NY NN en s ⟨u,rfl,_,hu⟩ k;obtain e1|e2:=hr1 ns (ar en);exists #[u,q,ns,ys,rfl,hu,hq.same s,e1.symm,(),e2,λr H2 s2 h2'=>k _ _ s2 h2']
 ·rintro ys' H' r hr s g pr nx;exact kk r H' hr s #[ys',g,pr]
theorem iJ:sC ["_law_parts_here","_law_state","_law_puts_here","_law_move_here","_law_put","_law_look","_law_found","_law_k"] 3 uS:=by walk_at "d"
theorem FJ (T:Txt K mg Z) (bn:bv P):T.oN.o P w base 5 (IB K):=by
 refine T.oN.F.k iJ ?_;walk_at "i";obtain r|s0|u0|H0|mv|pt|lk|st|pu|rfl|PQ|D|hs|hu|l1|l2|NX|k:=h
 refine #[_,(au (gO bT (xn rfl (cW (eK 3 iJ.nd) (cW (eK 4 iJ.nd) (cW (eK 5 iJ.nd) jd)))))
  (au (eP 6 iJ.nd (cN (BK T bn) hr T.pG (cQ gY cR)))
  (au (eC r0 rfl (bU rfl T.range (c9 (bg aU (by rfl) T.len aP (c9 lS)))) (eK 7 iJ.nd)
   (ay (eP 6 iJ.nd (cN (tw T bn) hr T.jH (cQ rG (cN (mI T bn) hr T.iO (cQ (aY bV dQ Ig) (aY bV lS Ig))))))))
  (ay (aS rG))))),?_]
 walk_at "s"
 try rw[gP]
 obtain m|p|l|g|n1|n2|n3|Gm|Gp|Gl:=id PQ;have d1:=D.n8;have d2:=D.i4;exists #[m,s0,H0,mv,st,rfl,Gm,hs,(),(),λxs hx=>#[by rw[D.mw xs hx,l1],NX.f2 xs hx],λf H1 nf s1 R1=>?_];obtain ps|gp|qp|_:=Gp.same s1;have lp:=qp.9;exists #[_,_,rfl,.inl (bI.of gp),?_];exists #[(),(),?_];refine eF (n:=ps.9) (λkk σ' H'=>∃(f:Addr) (x:Option V),σ'=[some (.ref r),some (.ref s0),some (.ref u0),some (.ref m),some (.ref p),some (.ref l),some (.ref f),x]/\H f=none/\aH H1 H'/\cC K H' f (nextK mv pt st pu kk)) #[f,none,rfl,nf,aH.refl _,by rw[Ll];exact R1] ?_ ?_
 ·rintro kk σ' H' hk ⟨f',x,rfl,nf',s',R'⟩;have kp:kk < pt.9:=()
  have ku:kk < pu.9:=()
  obtain zs|gz|qz:=(hu.same s1).same s';have lz:=qz.9;obtain vu|eu|nu:=F4 qz ku;obtain row|vr|er|ev|mr|q|rfl|_|Rq:=eE qp kp
  have er':pt[kk]=row:=by
   rw[ae kp] at er;exact bY er
  have eu':pu.getD kk 0=pu[kk]:=by rw[aa,ae ku];rfl
  have mu:pu.getD kk 0∈pu:=getD_mem ku;exists ck (bI.of gz) eu ?_;exists ck (bI.of (s' _ _ gp)) (eG ev) ?_;exists #[vu,q,_,row,rfl,nu,NX.su _ mu,Rq.same s',by rw[D.pw row mr];lia,NX.sp row mr,λr1 H2 n1' s2 R2=>?_];exists #[f',r1,_,_,rfl,R'.same s2,R2,by rw[af,kB,D.pw row mr],by rw[kB];lia,NX.part kk,λy hy=>?_,λr2 H3 n2' s3 R3=>?_]
  ·obtain y'|hy'|rfl:=aB.mp hy;exact NX.mul _ mu row mr y' hy'
  ·exists #[s1.none (s'.none (s2.none n2')),(s'.trans s2).trans s3,?_];have e:=Lm (st:=st) (pu:=pu) (λxs hx=>by rw[D.mw xs hx,l1]) kp ku (by rw[er'];exact D.pw row mr);rw[er',<- eu'] at e;rw[<- e];exact R3
 ·rintro σ' H' ⟨f',x,rfl,nf',s',R'⟩;rw[vW () ()] at R';exists k f' H' nf' (s1.trans s') R'
theorem pQ:sC ["_law_parts_here","_law_start","_law_rows","_law_state","_law_puts_here"] 3 xj:=by walk_at "d"
theorem zR (T:Txt K mg Z) (bn:bv P):T.nR.o P w base 6 (Mu K):=by
 refine T.nR.F.k pQ ?_;walk_at "i";obtain r|s|p|H0|H1|mv|pt|lk|pus|st|rfl|PQ|D|Rs|ls|Gp|lp|wp|EF|k:=h
 refine #[_,(au (eP 3 pQ.nd (eJ (iW K (by rfl)) (by rfl) T.list wv (c9 cR)))
  (au (eC r0 rfl (cM dQ) (eK 4 pQ.nd)
   (ay (eP 3 pQ.nd (cN (FJ T bn) hr T.oN (sZ bT gY lS)))))
  (ay (aS gY)))),?_]
 walk_at "s"
 try rw[gP]
 have d1:=D.n8;obtain ss|gs|qs:=id Rs;obtain ps|gp|qp|_:=id Gp;have lps:=qp.9;exists #[s,ss,rfl,.inl (bI.of gs),λc hc=>?_];have sc:aH H (upd H c (.lst ss)):=aH.new hc;have Rc:cC K (upd H c (.lst ss)) c st:=#[ss,aN,ca (λ_ _ z=>z.same sc) qs];generalize upd H c (.lst ss)=Hc at sc Rc ⊢;exists #[#[_,bI.of (sc _ _ gp)],?_];refine jy (K:=K) (a:=p) (xs:=ps) (λi σ' H'=>aH H H'/\∃q y,σ'=[some (.ref r),some (.ref s),some (.ref p),some (.ref q),y]/\H q=none/\cC K H' q (qX mv pt st pus i)) #[sc,c,_,rfl,hc,Rc] (λi σ' H' _ #[e,_]=>bI.of (e _ _ gp)) ?_ ?_
 ·rintro i v σ' H' hv ⟨e,q,y,rfl,nq,Rq⟩;obtain pu|epu|u|rfl|_|Ru:=cv qp hv;have hi:i < pus.9:=(aF.mp epu).1;have mp:=ar epu;exists #[r,q,u,H0,mv,pt,lk,_,pu,rfl,PQ.same e,D,Rq,cC.same Ru e,rO ls (),wp pu mp,EF.nx D ls wp () epu,λq2 H2 n2 s2 R2=>?_];rw[<- uB epu] at R2;exact #[e.trans s2,q2,_,rfl,e.none n2,R2]
 ·rintro σ' H' ⟨e,q,y,rfl,nq,Rq⟩;rw[<- lps] at Rq;exists k q H' nq e Rq
theorem Fc:sC ["_law_bag_here","_law_parts_here","_law_steps_here","_law_wide"] 4 uO:=by walk_at "d"
theorem FH (T:Txt K mg Z) (bn:bv P):T.oK.o P w base 4 (Iy K):=by
 refine T.oK.F.k Fc ?_;walk_at "i";obtain b|r|tt|w|H0|mv|pt|lk|rfl|hT|w1|w2|hB|nb|PQ|D|k:=h;refine #[_,(ay (aS (bW ["_law_turn"] ["_law_bag_here","_law_parts_here","_law_wide"] [0,1,3] (bU rfl T.range (c9 dQ)) (λ_=>(eK 0)) (λ_=>b6) (λ_=>(cN (pW T bn) hr T.iG (sZ cR (bg (De K (by rfl)) (by rfl) T.len aP (c9 (aY (p9 K (by rfl)) dQ ak))) gY)))))),?_];walk_at "s"
 try rw[gP]
 have i4:=D.i4;exists #[(),(),?_]
 refine zF (n:=tt) (b:=b) (c5 K H) (λxs=>xs.9=pt.9/\∀x∈xs,Dr (max w 6) x) hB () (λ{H' H'' c x} a u B=>by
  obtain q|e|nq|R:=a;exact #[q,e,nq,R.upto u B (λz=>hB.at (by rw[<- z];exact nq))]) ?_ ?_
 ·rintro i Ha NY NN hi ua Ba k1;obtain m|p|l|g|n1|n2|n3|Gm|Gp|Gl:=PQ.upto ua hB nb;obtain up|gp|qp|_:=id Gp;have lup:=qp.9;exists #[_,_,rfl,.inl (bI.of gp),?_];rw[<- lup];exists #[b,pt.9,w,rfl,Ba,(),w1,(),λq xs Hb nq R lx dx Bb ub=>?_];exact k1 _ xs _ ub Bb #[lx,dx] #[q,rfl,ua.none Ba nq,R]
 ·rintro ys cs Hz t ht uz Bz gz lc hc prz nx;exact k t cs Hz ht #[ys,gz,prz,iS nx] lc hc Bz uz
theorem rT:sC ["_law_bag_here","_law_parts_here","_law_start","_law_steps_here","_law_wide","_law_goal_here","_law_at"] 5 vd:=by walk_at "d"
theorem yd (T:Txt K mg Z) (bn:bv P):T.lE.o P w base 7 (IH K):=by
 refine T.lE.F.k rT ?_;walk_at "i";obtain b|r|s|tt|w|H0|mv|pt|lk|st|rfl|hT|w1|w2|hB|nb|PQ|D|Rs|sb|ls|EN|k:=h
 refine #[_,(au (cY (bf fq (cN (bp T bn) hr T.aZ (cQ bT ak)) ak (br _)) (ay (aS (cN (pW T bn) hr T.iG (sZ bT (bg aU (by rfl) T.len aP (c9 dQ)) lS)))) bN)
  (au (eP 5 rT.nd (cN (zR T bn) hr T.nR (sZ cR dQ (cN (FH T bn) hr T.oK (Jg bT cR gY lS)))))
  (au (cY (PW.pt (kj (bf wI (bg aU (by rfl) T.len aP (c9 vf)) ak (br _)) (kT (bf fq (cN (bp T bn) hr T.aZ (cQ bT ak)) ak (br _))))) (au (eP 6 rT.nd (cN (bp T bn) hr T.aZ (cQ bT (bg aU (by rfl) T.len aP (c9 vf)))))
  (ay (gO (cN (nP T bn) hr T.iF (cQ (aY bV vf rG) (cJ (cQ ak (bD fz ak (cN (bp T bn) hr T.aZ (cQ bT ak))))))) (iK vf rG set_list)))) bN)
  (ay (aS vf))))),?_]
 walk_at "s"
 try rw[gP]
 have d8:=D.n8;exists #[b,2,rfl,hB,(),(),λv H1 v0 v1 B1 u1=>?_];have Rs1:=Rs.upto u1 hB sb;obtain zs|gz|qz:=id Rs1;have lz:=qz.9;exists iT (λh=>?_) (λh=>?_)
 ·exists #[_,_,rfl,.inl (bI.of gz),?_];rw[<- lz];exists #[b,st.9,w,rfl,B1,(),w1,(),λq xs H2 nq R2 l2 d2 B2 u2=>?_];exact k q xs H2 (u1.none B1 nq) R2 () (.inl d2) B2 (u1.trans u2)
 ·have PQ1:=PQ.upto u1 hB nb;exists #[b,r,tt,w,H0,mv,pt,lk,rfl,hT,w1,w2,B1,nb,PQ1,D,λp pus H2 np Gp lp dp B2 u2=>?_];have DP:YH pt tt w pus:=#[lp,dp];have EF:=EN pus DP;have wp:∀xs∈pus,xs.9=pt.9:=λxs hx=>(dp xs hx).1
  have u02:=u1.trans u2;exists #[r,s,p,H0,H1,mv,pt,lk,pus,st,rfl,PQ1.upto u2 B1 nb,D,Rs1.upto u2 B1 sb,ls,Gp,(),wp,EF,λg H3 ng s3 Rg=>?_];rw[lp] at Rg;have B3:=B2.same s3;have u03:dk b H H3:=u02.same s3;have ng0:H g=none:=u02.none B2 ng;have gb:g≠b:=λz=>B2.at (by rw[<- z];exact ng)
  have lst:(qX mv pt st pus tt).9=mv.9:=rO ls ();have fin0:∀H':Hp,dk b H3 H'->jm H' b->Q (.ref g) H':=λH' u B=>k g _ H' ng0 (Rg.upto u B3 gb) lst (.inr #[pus,DP,.inl rfl]) B (u03.trans u)
  obtain ys|gy|qy:=id Rg;have ly:=qy.9;rw[lst] at ly;exists #[_,_,rfl,.inl (bI.of gy),?_];rw[<- ly];exists iT (λh1=>?_) (λh1=>?_)
  ·have np0:0 < mv.9:=by have:=of_decide_eq_true h1;lia
   exists #[b,4,rfl,B3,(),(),λv4 H4 v40 v41 B4 u4=>?_];exists iT (λh2=>?_) (λh2=>?_)
   ·obtain ys4|gy4|qy4:=Rg.upto u4 B3 gb;have ly4:=qy4.9;rw[lst] at ly4;exists #[_,_,rfl,.inl (bI.of gy4),?_];rw[<- ly4];exists #[b,mv.9,rfl,B4,(),(),λat' H5 a0 a1 B5 u5=>?_];obtain at'|rfl:=cH a0;have u35:=u4.trans u5;obtain ys5|gy5|qy5:=Rg.upto u35 B3 gb;have ly5:=qy5.9;rw[lst] at ly5;obtain vx|ex|nx:=F4 qy5 (j:=at') (by rw[lst];lia);exists ck (bI.of gy5) ex ?_;exists #[b,3,rfl,B5,(),(),λv6 H6 v60 v61 B6 u6=>?_];obtain v6|rfl:=cH v60;exists bS λt7 H7 s7 g7=>?_
    rw[show ((1:Int)+(v6:Int))=((v6+1:Nat):Int) by lia] at g7;have u37:dk b H3 H7:=(u35.trans u6).same s7;obtain ys7|gy7|qy7:=Rg.upto u37 B3 gb;have ly7:=qy7.9;rw[lst] at ly7
    have e57:ys7=ys5:=by
     have:=(u6.same s7).other gb gy5;rw[gy7] at this;cases this;rfl
    have szst:=EF.szn D ls wp (k:=tt) ();have mx:(qX mv pt st pus tt).getD at' 0∈qX mv pt st pus tt:=getD_in (by rw[lst];lia);have szu:jX (RU v6):=vE () (show 6<=2^3 by decide) (show 1<=2^0 by decide) () (T8 ());exists #[_,_,(qX mv pt st pus tt).getD at' 0,RU v6,rfl,(nx.upto (u6.same s7) B5),bX.mk (q:=RU v6) g7 rfl,szst _ mx,szu,λr8 H8 s8 N8=>?_];have gy8:=s8 _ _ gy7;have B8:=(B6.same s7).same s8;have u38:=u37.same s8;obtain q0|I0|xq0|gq0:=hB.inner;have gq:g≠q0:=λz=>by rw[<- z,ng0] at gq0;cases gq0
    have u08:dk b H H8:=u03.trans u38;have I8:=u08.2 _ I0;exists fI gy8 (gH ()) rfl ?_;exists k g _ _ ng0 #[_,aN,xo (N8.updL gy8) at' (ca (λ_ _ z=>(z.same s8).updL gy8) qy7)] (by rw[d5];exact lst) (.inr #[pus,DP,.inr #[at',v6,(),rfl]]) (B8.upd I8 gb gq) (u08.after ng0)
   ·exists fin0 H4 u4 B4
  ·exists fin0 H3 (aH.refl _).upto B3
theorem jZ:sC ["_law_bag_here","_law_parts_here","_law_bottoms","_law_row_here"] 2 sN:=by walk_at "d"
theorem wL (T:Txt K mg Z) (bn:bv P):T.j6.o P w base 2 (DI K):=by
 refine T.j6.F.k jZ ?_;walk_at "i";obtain b|r|H0|mv|pt|lk|rfl|hB|nb|PQ|D|sz|k:=h
 refine #[_,(au (eP 2 jZ.nd (dC (c9 ak)))
  (au (eC r0 rfl (cM (bD jU (aY bH cR ak) (aY bH cR ak))) (eK 3 jZ.nd)
   (ay (eP 2 jZ.nd (bD jU dQ (bW ["_law_one"] [] [] (cM gY) (λ_=>(eK 0)) (λ_=>b6) (λ_=>(bD fz (aY (p9 K (by rfl)) bT ak) (bD dn (bD (j4 rfl jZ rfl rfl rfl bn (wQ hr)) (bg yu (by rfl) T.abs Zg (c9 (aY (p9 K (by rfl)) bT ak))) ak) ak))))))))
  (au (cY (bf wI (bg (Ox rfl) (by rfl) T.max PyProof.Rows.boot_max (c9 dQ)) ak (br _)) (ay (aS (cN (bp T bn) hr T.aZ (cQ bT ak)))) bN)
  (au (cY (bf wI (bg aU (by rfl) T.len aP (c9 (aY bH cR ak))) ak (br _)) (ay (aS (aY bV (dC (cQ (cN (bp T bn) hr T.aZ (cQ bT ak)) (bg aU (by rfl) T.len aP (c9 (aY bH cR ak))))) (cN (bp T bn) hr T.aZ (cQ bT ak))))) bN)
  (au (cY (PW.pt (kj (bf vm (bg aU (by rfl) T.len aP (c9 (aY bH cR ak))) ak (br _)) (kT (bf fq (cN (bp T bn) hr T.aZ (cQ bT ak)) ak (br _))))) (ay (aS (cN (bp T bn) hr T.aZ (cQ bT ak)))) bN)
  (ay (aS (cN (bp T bn) hr T.aZ (cQ bT (bD fz ak (bg aU (by rfl) T.len aP (c9 (aY bH cR ak))))))))))))),?_]
 walk_at "s"
 try rw[gP]
 have d8:=D.n8;have i4:=D.i4;obtain m|p|l|g|n1|n2|n3|Gm|Gp|Gl:=id PQ;obtain um|gm|qm|_:=id Gm;obtain up|gp|qp|_:=id Gp;have lum:=qm.9;have lup:=qp.9;exists c6 λbl0 H1 s1 nbl g1=>?_
 have g':=s1 _ _ g;exists jS (s1 _ _ gm) (s1 _ _ gp) lV λcc H2 s2 nc gc=>?_
 have s02:=s1.trans s2;have qc:jp (c5 K H0 H2) (mv++pt) (um++up):=ca (λ_ _ z=>c5.same z s02) (bR qm qp)
 have wc:∀xs∈mv++pt,xs.9=mv.9:=λxs hx=>by
  rcases av.mp hx with hx | hx
  ·exact D.mw xs hx
  ·exact D.pw xs hx
 have lc:(mv++pt).9=(um++up).9:=qc.9;rw[ai,ai] at lc;exists #[#[_,bI.of gc],?_];refine jy (K:=K) (a:=cc) (xs:=um++up) (λi σ' H'=>aH H2 H'/\∃bl ns y,σ'=[some (.ref b),some (.ref r),some (.ref bl),y]/\H' bl=some (.lst (ns.map V.int))/\1<=ns.9/\ns.9<=1+i*8/\∀j xs,j < i->(mv++pt)[j]?=some xs->∀x∈xs,WO x∈ns) #[aH.refl _,bl0,[1],_,rfl,s2 _ _ g1,(),(),λj xs h=>absurd h (dw _)] (λi σ' H' _ #[e,_]=>bI.of (e _ _ gc)) ?_ ?_
 ·rintro i v σ' H' hv ⟨e,bl,ns,y,rfl,gb,b1,b2,hn⟩;obtain xs|exs|u|rfl|_|zs|gz|qz:=cv qc hv;have mx:=ar exs;have wx:=wc xs mx;have hi:i < (um++up).9:=(aF.mp hv).1;rw[ai] at hi;exists #[#[_,bI.of (e _ _ gz)],?_];refine df (K:=K) (F:=bX K) (λ_ c x=>x=V.int (WO c)) id (e _ _ gz) (ca (λ_ _ z=>z.same e) qz) () (λa b=>a.same b) (λa _=>a) ?_ ?_
  ·rintro j c x Ha NY NN ec sa ⟨pp,rfl,hp⟩ k1;have mc:=ar ec;have szc:=sz xs mx c mc;walk_at "w"
   have e1:(if (nm c).1 < 0 then -(nm c).1 else (nm c).1)=(c.num.natAbs:Int):=by
    show (if c.num < 0 then -c.num else c.num)=_
    split <;> lia
   have e2:(c.num.natAbs:Int).fdiv 1000=(c.num.natAbs:Int) / 1000:=cP _ ();rw[e1];refine gZ (show rE _ _ from #[(),bL (show (1000:Int).natAbs < 2^20 by decide) (aj () ())]) ?_;rw[e2];exists k1 _ _ (aH.refl _) rfl
  rintro ys Hb cl hcl sb gcl prl _
  have ey:ys=(xs.map WO).map V.int:=by
   rw[jh] at prl;rw[ik];exact D5 prl
  have ly:=prl.9;rw[af] at ly;have gbb:=sb _ _ gb;rw[ey] at gcl;exists jS gbb gcl (cA (cX (by rw[af,af,af];lia))) λc2 Hc sc nc2 gc2=>?_
  rw[<- cG] at gc2;refine #[(e.trans sb).trans sc,c2,ns++xs.map WO,_,rfl,gc2,by rw[ai];lia,by rw[ai,af];lia,λj ys' hj ej x hx=>?_];rcases cg j i with z | z
  ·exact dS _ (hn j ys' z ej x hx)
  ·have:j=i:=()
   subst this;rw[exs] at ej;cases ej;exact bJ _ (aB.mpr #[x,hx,rfl])
 ·rintro σ' H' ⟨e,bl,ns,y,rfl,gb,b1,b2,hn⟩;have e0:=s02.trans e;have B':=hB.same e0;have PQ':=PQ.same e0;obtain m'|p'|l'|g2|_|_|_|Gm'|_|_:=id PQ'
  have em:m'=m:=by
   have:=e0 _ _ g;rw[this] at g2;cases g2;rfl
  subst em;obtain um'|gm'|qm'|_:=id Gm';have lum':=qm'.9;have u0:dk b H H':=e0.upto;exists #[bl,ns,rfl,bI.of gb,(),λM hM hmax=>?_];exists iT (λh=>?_) (λh=>?_)
  ·exists #[b,4,rfl,B',(),(),λv H3 v0 v1 B3 u3=>?_];obtain v|rfl:=cH v0;exact k v H3 #[(),.inl ()] B3 (u0.trans u3)
  ·have M9:M<=9:=by rw[decide_eq_true_eq] at h;lia
   have sm:∀xs∈mv++pt,∀x∈xs,x.den<=9/\x.num.natAbs < 1000:=λxs hx x hx'=>by
    obtain j|hj|rfl:=bu hx;have:=hn j _ (by rw[ai,<- lum,<- lup];rw[ai] at hj;exact hj) (ae hj) x hx';exact TH (Int.le_trans (hmax _ this) M9)
   exists #[_,_,rfl,.inl (bI.of gm'),?_];rw[<- lum'];exists iT (λh1=>?_) (λh1=>?_)
   ·have n5:5 < mv.9:=by have:=of_decide_eq_true h1;lia
    exists #[b,4,rfl,B',(),(),λv H3 v0 v1 B3 u3=>?_];obtain v|rfl:=cH v0;obtain m3|p3|l3|g3|_|_|_|Gm3|_|_:=PQ'.upto u3 B' nb;obtain um3|gm3|qm3|_:=id Gm3;have lum3:=qm3.9;exists #[_,_,rfl,.inl (bI.of gm3),?_];rw[<- lum3];exists c6 λl4 H4 s4 n4 g4=>?_
    exists #[b,2,rfl,B3.same s4,(),(),λv2 H5 v20 v21 B5 u5=>?_];have g5:=u5.other (λz=>B3.at (by rw[<- z];exact n4)) g4;obtain x|ex|mx|_:=nU (xs:=[V.int (v:Int),V.int (mv.9:Int)]) v20 (by simpa using v21);exists ck (bI.of g5) ex ?_;have u05:=(u0.trans (u3.same s4)).trans u5;simp only[aJ,aX,or_false] at mx;rcases mx with rfl | rfl
    ·exact k v H5 #[(),.inl ()] B5 u05
    ·exact k mv.9 H5 #[(),.inr #[sm,λ_=>ah _,λ_ _=>md _]] B5 u05
   ·have n5:mv.9<=5:=by rw[decide_eq_true_eq] at h1;lia
    exists #[_,_,rfl,.inl (bI.of gm'),?_];rw[<- lum'];have last:∀(Hx:Hp),jm Hx b->dk b H Hx->∀(v:Nat),v < 2+mv.9->Q (.int v) Hx:=λHx Bx ux v hv=>k v Hx #[(),.inr #[sm,λz=>(),λ_ _=>()]] Bx ux
    exists iT (λh2=>?_) (λh2=>?_)
    ·have n3':mv.9 < 3:=by have:=of_decide_eq_true h2;lia
     exists #[b,8,rfl,B',(),(),λv H3 v0 v1 B3 u3=>?_];exists iT (λh3=>?_) (λh3=>?_)
     ·exists #[b,13,rfl,B3,(),(),λv4 H4 v40 v41 B4 u4=>?_];obtain v4|rfl:=cH v40;exact k v4 H4 #[(),.inr #[sm,λz=>(),λz _=>()]] B4 ((u0.trans u3).trans u4)
     ·obtain m3|p3|l3|g3|_|_|_|Gm3|_|_:=PQ'.upto u3 B' nb;obtain um3|gm3|qm3|_:=id Gm3;have lum3:=qm3.9;exists #[_,_,rfl,.inl (bI.of gm3),?_];rw[<- lum3];walk_at "w";rw[show ((2:Int)+(mv.9:Int))=((2+mv.9:Nat):Int) by lia];refine #[b,2+mv.9,rfl,B3,(),(),λv4 H4 v40 v41 B4 u4=>?_];obtain v4|rfl:=cH v40;exact last H4 B4 ((u0.trans u3).trans u4) v4 ()
    ·exists #[_,_,rfl,.inl (bI.of gm'),?_];rw[<- lum'];walk_at "w";rw[show ((2:Int)+(mv.9:Int))=((2+mv.9:Nat):Int) by lia];refine #[b,2+mv.9,rfl,B',(),(),λv4 H4 v40 v41 B4 u4=>?_];obtain v4|rfl:=cH v40;exact last H4 B4 (u0.trans u4) v4 ()
theorem xO:sC ["_law_thing"] 1 va:=by walk_at "d"
theorem wJ (T:Txt K mg Z) (bn:bv P):∀i:Nat,qW P w K mg base KD (0+i+1) Z.vO Z.vH ["_law_thing"] (EX K i)
| 0=>T.eX.F.ok xO (λvs H Q E h=>(show False from h).elim) (λcdv A outer s H vs Q E hr h=>(show False from h).elim)
| i+1=>by
 have zX:=wJ T bn i;refine T.eX.F.k xO ?_;walk_at "i";obtain x|rfl|h:=h
 refine #[_,(au (cY (fJ (sY rfl T.isinstance wv T.list bT)) (ay (aS (bW ["_law_one"] [] [] (cM bT) (λ_=>(eK 0)) (λ_=>b6) (λ_=>(Az zX (hr.mono ()) rfl T.eX.m T.eX.F.kp T.eX.b .nil BA (c9 bT)))))) bN)
  (au (cY (fJ (sY rfl T.isinstance Id T.tuple bT)) (ay (aS (eJ Dd (by rfl) T.tuple Id (c9 (bW ["_law_one"] [] [] (P7 bT) (λ_=>(eK 0)) (λ_=>b6) (λ_=>(Az zX (hr.mono ()) rfl T.eX.m T.eX.F.kp T.eX.b .nil BA (c9 bT)))))))) bN)
  (ay (aS bT)))),?_]
 walk_at "s"
 try rw[gP]
 rcases h with ⟨fx,k⟩ | ⟨hi,q,nq,k⟩ | ⟨hi,p,qs,rfl,Rp,l100,k⟩ | ⟨hi,p,H0,rs,rfl,Gp,l100,w100,k⟩ | ⟨hi,t,xs,H0,ds,rfl,st,pd,l10,hok,k⟩
 ·walk_at "w";cases x with
  | non =>
   refine .inl #[_,false,.non,rfl,?_];exists .inl #[_,false,.non,rfl,?_];exists k _ (aH.refl _)
  | bl v =>
   refine .inl #[_,false,.bl v,rfl,?_];exists .inl #[_,false,.bl v,rfl,?_];exists k _ (aH.refl _)
  | int v =>
   refine .inl #[_,false,.int v,rfl,?_];exists .inl #[_,false,.int v,rfl,?_];exists k _ (aH.refl _)
  | str v =>
   refine .inl #[_,false,.str v,rfl,?_];exists .inl #[_,false,.str v,rfl,?_];exists k _ (aH.refl _)
  | _=>exact absurd (show false=true from fx) bh
 ·obtain ⟨j,rfl⟩:∃j,i=j+1:=#[i - 1,()];obtain p|rfl|sq:=id nq;exists .inr #[p,_,false,rfl,sq,rfl,?_];exists .inr #[p,_,true,rfl,sq,rfl,?_];exists #[#[_,sq],?_];refine Es (K:=K) (as:=[(nm q).1,(nm q).2]) (F:=λ_ c x=>x=V.int c) (λ_ c x=>x=V.int c) id sq (.cons rfl (.cons rfl .nil)) (by simp) (λh _=>h) (λh _=>h) ?_ ?_
  ·rintro i2 c x H' NY NN ec s' rfl k1;exists #[_,rfl,.inl #[rfl,λH2 s2=>k1 _ _ s2 rfl]]
  rintro ys H2 l hl s2 g2 pr _
  obtain rfl:ys=[V.int (nm q).1,V.int (nm q).2]:=by
   cases pr with
   | cons h1 t=>cases t with
    | cons h2 t'=>cases t';rw[h1,h2];rfl
  exists #[l,_,rfl,.inl #[bI.of g2,λr hr=>?_]];exact k r _ (s2.trans (aH.new hr)) #[r,rfl,jN.of aN]
 ·obtain ⟨j,rfl⟩:∃j,i=j+1:=#[i - 1,()];obtain xs|g|qx:=id Rp;have lx:=qx.9;exists .inl #[_,true,.lst g,rfl,?_];exists #[#[_,bI.of g],?_];refine df (K:=K) (as:=qs) (F:=bX K) (bX K) id g qx () (λh s=>h.same s) (λh s=>h.same s) ?_ ?_
  ·rintro i2 c x H' NY NN ec s' nc k1;exists #[_,rfl,.inr (.inl #[(),c,nc,λr H2 s2 n2=>k1 _ _ s2 n2])]
  rintro ys H2 l hl s2 g2 pr _;rw[jh] at pr;exact k l H2 hl s2 #[ys,g2,pr]
 ·obtain ⟨j,rfl⟩:∃j,i=j+1:=#[i - 1,()];obtain xs|g|qx|_:=id Gp;have lx:=qx.9;exists .inl #[_,true,.lst g,rfl,?_];exists #[#[_,bI.of g],?_];refine df (K:=K) (as:=rs) (F:=c5 K H0) (c5 K H) id g qx () (λh s=>h.same s) (λh s=>h.same s) ?_ ?_
  ·rintro i2 c x H' NY NN ec s' ⟨q,rfl,nq,Rq⟩ k1;exists #[_,rfl,.inr (.inr (.inl #[(),q,c,rfl,Rq,w100 c (ar ec),λr H2 nr s2 R2=>k1 _ _ s2 #[r,rfl,s'.none nr,R2]]))]
  rintro ys H2 l hl s2 g2 pr nx;rw[jh] at pr nx;exact k l H2 hl s2 #[ys,g2,pr,iS nx]
 ·obtain ⟨j,rfl⟩:∃j,i=j+1:=#[i - 1,()];exists .inr #[t,_,false,rfl,st,rfl,?_];exists .inr #[t,_,true,rfl,st,rfl,?_];exists #[#[_,st],?_];refine Es (K:=K) (as:=ds) (F:=EJ K H0) (EJ K H) id st pd () (λh s=>h.same s) (λh s=>h.same s) ?_ ?_
  ·rintro i2 c x H' NY NN ec s' ec' k1;have ok:=hok c (ar ec);walk_at "w";cases c with
   | fl v =>
    obtain rfl:x=v:=ec';exact #[_,rfl,.inl #[ok,λH2 s2=>k1 _ _ s2 rfl]]
   | row qs =>
    obtain p|rfl|np|Rp:=ec';exact #[_,rfl,.inr (.inr (.inl #[(),p,qs,rfl,Rp,ok,λr H2 nr s2 R2=>k1 _ _ s2 #[r,rfl,s'.none nr,R2]]))]
   | grid rs =>
    obtain p|rfl|np|Gp:=ec';exact #[_,rfl,.inr (.inr (.inr (.inl #[(),p,H0,rs,rfl,Gp,ok.1,ok.2,λr H2 nr s2 G2=>k1 _ _ s2 #[r,rfl,s'.none nr,G2.weak s']])))]
  rintro ys H2 l hl s2 g2 pr _;rw[jh] at pr;have ly:=pr.9;exists #[l,_,rfl,.inl #[bI.of g2,λr hr=>?_]];exact k r ys _ (s2.trans (aH.new hr)) aN (ca (λ_ _ z=>EJ.same z (aH.new hr)) pr)
theorem FR (T:Txt K mg Z) (bn:bv P):qW P w K mg base KD 6 Z.vO Z.vH ["_law_thing"] (EX K 5):=wJ T bn 5
theorem qB:sC ["_law_thing","_law_one"] 1 sO:=by walk_at "d"
theorem vn (T:Txt K mg Z) (bn:bv P):∀i:Nat,qW P w K mg base KD (0+i+1) Z.tT Z.tL ["_law_thing"] (yL K i)
| 0=>T.ib.F.ok qB (λvs H Q E h=>(show False from h).elim) (λcdv A outer s H vs Q E hr h=>(show False from h).elim)
| i+1=>by
 have Ia:=vn T bn i;refine T.ib.F.k qB ?_;walk_at "i";obtain x|rfl|h:=h
 refine #[_,(au (cY (fJ (bg Oy (by rfl) T.isinstance Ze (cQ bT (cJ (cQ (AA (v:=.ty "list") rfl T.list wv rfl) (AA (v:=.ty "tuple") rfl T.tuple Id rfl)))))) (ay (eC r0 rfl (VL bT) (eK 1 qB.nd)
   (ay (jc (Az Ia (hr.mono ()) rfl T.ib.m T.ib.F.kp T.ib.b .nil BA (c9 cR)))))) bN)
  (ay (cY (fJ (sY rfl T.isinstance wv T.list bT)) (ay (jc (wH dh dH dG kD bT (c9 (cJ (cQ ak ak)))))) bN))),?_]
 walk_at "s"
 try rw[gP]
 exists bS λtp H1 s1 g1=>?_
 rcases h with ⟨fx,k⟩ | ⟨hi,n,nq,k⟩ | ⟨hi,p,zs,rfl,gp,l500,hz,k⟩ | ⟨hi,p,us,rfl,gp,l100,pu,hu,k⟩ | ⟨hi,t,xs,ews,rfl,st,pd,l10,hok,dj,k⟩
 ·walk_at "w";cases x with
  | non =>
   refine #[_,tp,rfl,g1,.inl #[_,false,.non,rfl,?_]];exists .inl #[_,false,.non,rfl,?_];exists k _ s1
  | bl v =>
   refine #[_,tp,rfl,g1,.inl #[_,false,.bl v,rfl,?_]];exists .inl #[_,false,.bl v,rfl,?_];exists k _ s1
  | int v =>
   refine #[_,tp,rfl,g1,.inl #[_,false,.int v,rfl,?_]];exists .inl #[_,false,.int v,rfl,?_];exists k _ s1
  | str v =>
   refine #[_,tp,rfl,g1,.inl #[_,false,.str v,rfl,?_]];exists .inl #[_,false,.str v,rfl,?_];exists k _ s1
  | _=>exact absurd (show false=true from fx) bh
 ·obtain ⟨j,rfl⟩:∃j,i=j+1:=#[i - 1,()];obtain p|rfl|sq:=id nq;have sq1:=s1.sqt sq;exists #[_,tp,rfl,g1,.inr #[p,_,rfl,sq1,?_]];walk_at "w";unfold Qv;exists .inr #[#[_,sq1],?_];refine F9 (K:=K) (a:=p) (xs:=[V.int n.1,V.int n.2]) (λi σ' H'=>aH H1 H'/\∃y,σ'=[some (.ref p),y]) #[aH.refl _,_,rfl] (λi σ' H' _ #[s,_]=>s.sqt sq1) ?_ ?_
  ·rintro i2 x σ' H2 hx ⟨s2,y,rfl⟩;have hm:=ar hx
   have fx:rB x=true:=by
    simp only[aJ,aX,or_false] at hm;rcases hm with rfl | rfl <;> rfl
   exists #[_,rfl,.inl #[fx,λH3 s3=>#[s2.trans s3,_,rfl]]]
  rintro σ' H2 ⟨s2,y,rfl⟩;exists .inr #[p,_,false,rfl,s2.sqt sq1,rfl,?_];exists k _ (s1.trans s2)
 ·obtain ⟨j,rfl⟩:∃j,i=j+1:=#[i - 1,()];have gp1:=s1 _ _ gp;exists #[_,tp,rfl,g1,.inl #[_,true,.lst gp1,rfl,?_]];walk_at "w";unfold Qv;exists .inl #[#[_,bI.of gp1],?_];refine jy (K:=K) (a:=p) (xs:=zs) (λi σ' H'=>aH H1 H'/\∃y,σ'=[some (.ref p),y]) #[aH.refl _,_,rfl] (λi σ' H' _ #[s,_]=>bI.of (s _ _ gp1)) ?_ ?_
  ·rintro i2 x σ' H2 hx ⟨s2,y,rfl⟩;obtain n|nx:=hz x (ar hx);exists #[_,rfl,.inr (.inl #[(),n,(s1.trans s2).num nx,λH3 s3=>#[s2.trans s3,_,rfl]])]
  rintro σ' H2 ⟨s2,y,rfl⟩;have gp2:=s2 _ _ gp1;exists .inl #[_,true,.lst gp2,rfl,?_];exists #[.inl #[rfl,_,bI.of gp2],?_];exists bS λt7 H3 s3 g3=>?_
  walk_at "w";have gp3:=s3 _ _ gp2;refine jB gp3 (cX ()) ?_;exists k t7 _ ((Kp.of ((s1.trans s2).trans s3)).trans (Kp.upd gp3 rfl)) (by rw[bG λz=>by rw[z,gp3] at g3;cases g3];exact g3) aN
 ·obtain ⟨j,rfl⟩:∃j,i=j+1:=#[i - 1,()];have gp1:=s1 _ _ gp;exists #[_,tp,rfl,g1,.inl #[_,true,.lst gp1,rfl,?_]];walk_at "w";unfold Qv;exists .inl #[#[_,bI.of gp1],?_];refine jy (K:=K) (a:=p) (xs:=us) (λi σ' H'=>Kp (λa=>V.ref a∈us) H H'/\H' p=some (.lst us)/\(∀y∈us,∃q zs,y=.ref q/\H' q=some (.lst zs)/\zs.9<=100+i/\∀z∈zs,∃n,yy K H' z n)/\∃y,σ'=[some (.ref p),y]) #[.of s1,gp1,λy hy=>?_,_,rfl] (λi σ' H' _ #[_,g,_]=>bI.of g) ?_ ?_
  ·obtain q|zs|a1|a2|a3|a4:=hu y hy;exact #[q,zs,a1,s1 _ _ a2,a3,λz hz=>by obtain n|hn:=a4 z hz;exact #[n,s1.num hn]]
  ·rintro i2 x σ' H2 hx ⟨k2,g2,hu2,y,rfl⟩;have mx:=ar hx;have hi2:i2 < us.9:=(aF.mp hx).1;obtain q|zs|rfl|gq|lz|hz:=hu2 x mx;have qp:p≠q:=λz=>pu (by rw[z];exact mx)
   exists #[_,rfl,.inr (.inr (.inl #[(),q,zs,rfl,gq,(),hz,λt7 H3 k3 g7 gq3=>?_]))];refine #[k2.trans (k3.mono λa e=>by rw[e];exact mx),k3 _ _ g2 (.inl qp),λy' hy'=>?_,_,rfl];obtain q'|zs'|rfl|gq'|lz'|hz':=hu2 y' hy';by_cases e:q'=q
   ·subst e;refine #[q',_,rfl,gq3,by rw[ai,aT];rw[gq] at gq';cases gq';lia,λz mz=>?_];rcases av.mp mz with mz | mz
    ·obtain n|hn:=hz z mz;exact #[n,k3.numR hn]
    ·rw[bA.mp mz];exact #[(7,1),t7,rfl,jN.of g7]
   ·exact #[q',zs',rfl,k3 _ _ gq' (.inl e),(),λz mz=>by obtain n|hn:=hz' z mz;exact #[n,k3.numR hn]]
  rintro σ' H2 ⟨k2,gp2,_,y,rfl⟩;exists .inl #[_,true,.lst gp2,rfl,?_];exists #[.inl #[rfl,_,bI.of gp2],?_];exists bS λt7 H3 s3 g3=>?_
  walk_at "w";have gp3:=s3 _ _ gp2;refine jB gp3 (cX ()) ?_;exists k _ (((k2.mono λa e=>.inr e).trans (Kp.of s3)).trans (Kp.upd gp3 (.inl rfl)))
 ·obtain ⟨j,rfl⟩:∃j,i=j+1:=#[i - 1,()];have st1:=s1.sqt st;have lx:=pd.9;exists #[_,tp,rfl,g1,.inr #[t,_,rfl,st1,?_]];walk_at "w";unfold Qv;exists .inr #[#[_,st1],?_];refine F9 (K:=K) (a:=t) (xs:=xs) (λi σ' H'=>Kp (λa=>∃e∈ews,e.2 a) H H'/\(∀m e v,i<=m->ews[m]?=some e->xs[m]?=some v->KA K e.2 H' e.1 v)/\∃y,σ'=[some (.ref t),y]) #[.of s1,λm e v _ he hv=>?_,_,rfl] (λi σ' H' _ #[k2,_]=>k2.sqt st) ?_ ?_
  ·obtain e'|he'|el:=cv pd hv;rw[he] at he';cases he';exact el.kp (S:=λ_=>False) (.of s1) (λ_ _ z=>z)
  ·rintro i2 x σ' H2 hx ⟨k2,hel,y,rfl⟩;obtain e|he|_:=cv pd hx;have el:=hel i2 e x (ah _) he hx;have me:=ar he;have ok:=hok e me;have nxt:∀H3,Kp e.2 H2 H3->∀m e' v,i2+1<=m->ews[m]?=some e'->xs[m]?=some v->KA K e'.2 H3 e'.1 v:=λH3 k3 m e' v hm he' hv=>(hel m e' v () he' hv).kp k3 λa h1 h2=>dj i2 m e e' () he he' a h1 h2
   have upk:∀H3,Kp e.2 H2 H3->Kp (λa=>∃e∈ews,e.2 a) H H3:=λH3 k3=>k2.trans (k3.mono λa h=>#[e,me,h])
   walk_at "w";obtain d|W:=e;cases d with
   | fl v =>
    obtain rfl:x=v:=el;exact #[_,rfl,.inl #[ok,λH3 s3=>#[upk H3 (.of s3),nxt H3 (.of s3),_,rfl]]]
   | row qs =>
    obtain p|rfl|wp|zs|gz|qz:=el;have lz:=qz.9;have ok:qs.9<=100:=ok;refine #[_,rfl,.inr (.inr (.inl #[(),p,zs,rfl,gz,(),λz mz=>?_,λt7 H3 k3 _ _=>?_]))]
    ·obtain c|_|nc:=dF qz mz;exact #[_,nc]
    ·have k3':Kp W H2 H3:=k3.mono λa e=>by rw[e];exact wp
     exact #[upk H3 k3',nxt H3 k3',_,rfl]
   | grid rs =>
    obtain p|us|rfl|wp|gu|nu|qu:=el;have lu:=qu.9;have ok1:rs.9<=100:=ok.1;refine #[_,rfl,.inr (.inr (.inr (.inl #[(),p,us,rfl,gu,(),nu,λy my=>?_,λH3 k3=>?_])))]
    ·obtain qs|mq|q|rfl|_|zs|gz|qz:=dF qu my;have lz:=qz.9;have:=ok.2 qs mq;exact #[q,zs,rfl,gz,(),λz mz=>by obtain c|_|nc:=dF qz mz;exact #[_,nc]]
    ·have k3':Kp W H2 H3:=k3.mono λa e=>by
      rcases e with e | e
      ·rw[e];exact wp
      ·obtain qs|_|q|eq|wq|_:=dF qu e;cases eq;exact wq
     exact #[upk H3 k3',nxt H3 k3',_,rfl]
  rintro σ' H2 ⟨k2,_,y,rfl⟩;exists .inr #[t,_,false,rfl,k2.sqt st,rfl,?_];exists k _ k2
theorem CM (T:Txt K mg Z) (bn:bv P):qW P w K mg base KD 6 Z.tT Z.tL ["_law_thing"] (yL K 5):=vn T bn 5
theorem iV:sC ["_law_parts_here","_law_steps_here","_law_rows","_law_some","_law_turn"] 2 sV:=by walk_at "d"
theorem CW (T:Txt K mg Z) (bn:bv P):T.nF.o P w base 5 (DY K):=by
 refine T.nF.F.k iV ?_;walk_at "i";obtain r|tt|H0|mv|pt|lk|rfl|hT|PQ|D|AF|k:=h
 refine #[_,(au (jD 2 ["_law_row_here"] [] [] iV.nd rfl rfl (cM (aY bH bT ak)) (λ_=>(eK 0)) (λ_=>b6) (λ_=>(eJ (iW K (by rfl)) (by rfl) T.list wv (c9 bT))))
  (au (eP 3 iV.nd (dC ir))
  (au (eC r0 rfl (bU rfl T.range (c9 cR)) (eK 4 iV.nd)
   (au (eP 3 iV.nd (bD jU gY dQ))
  (ay (jD 2 ["_law_row_here"] ["_law_parts_here"] [0] iV.nd rfl rfl (cM dQ) (λ_=>(eK 0)) (λ_=>b6) (λ_=>(cN (BK T bn) hr T.pG (cQ (aY (p9 K (by rfl)) cR ak) bT)))))))
  (ay (aS gY))))),?_]
 walk_at "s"
 try rw[gP]
 have d1:=D.n8;have i4:=D.i4;obtain m|p|l|g|n1|n2|n3|Gm|Gp|Gl:=id PQ;obtain up|gp|qp|_:=id Gp;have lup:=qp.9;exists #[#[_,bI.of gp],?_];refine df (K:=K) (F:=c5 K H0) (c5 K H) id gp qp () (λa b=>a.same b) (λa b=>a.same b) ?_ ?_
 ·rintro i ns x H' NY NN en s ⟨u,rfl,_,zs,gz,qz⟩ k1;exists #[u,zs,rfl,.inl (bI.of gz),λl1 hl1=>?_];exact k1 _ _ (aH.new hl1) #[l1,rfl,s.none hl1,zs,aN,ca (λ_ _ z=>z.same (aH.new hl1)) qz]
 rintro ys1 H1 rq1 hr1 s1 g1 pr1 nx1;rw[jh] at pr1 nx1;have G1:be K H H1 rq1 pt:=#[ys1,g1,pr1,iS nx1];exists c6 λsm0 H2 s2 nf gf=>?_
 have s02:=s1.trans s2;exists #[(),(),?_];refine eF (n:=tt) (λt σ' H'=>aH H H'/\∃rq sm y,σ'=[some (.ref r),some (.int tt),some (.ref rq),some (.ref sm),y]/\H sm=none/\be K H H' sm (kry mv pt t)/\be K H H' rq (pt.map (jT mv t))) #[s02,rq1,sm0,_,rfl,s1.none nf,#[[],gf,.nil,λz=>nomatch z],by rw[show pt.map (jT mv 0)=pt from jh pt];exact G1.same s2] ?_ ?_
 ·rintro t σ' H' ht ⟨s',rq,sm,y,rfl,nsm,Gs,Gq⟩;obtain us|gu|pu|_:=id Gs;obtain zs|gz|qz|_:=id Gq;have lz:=qz.9;rw[af] at lz;have lu:=pu.9;rw[vZ] at lu;have lb:t*pt.9<=20*4:=aK () i4;exists jS gu gz lV λcc H3 s3 nc gc=>?_
  have ek:kry mv pt (t+1)=kry mv pt t++pt.map (jT mv t):=by
   rw[<- we,Hq,jM,we];simp
  have Gc:be K H H3 cc (kry mv pt (t+1)):=by
   rw[ek];exact #[_,gc,ca (λ_ _ z=>c5.same z s3) (bR pu qz),iS #[H',nc,bR pu qz]]
  have s03:=s'.trans s3;have g3:=s03 _ _ g;exists #[#[_,bI.of (s3 _ _ gz)],?_];refine df (K:=K) (F:=c5 K H) (c5 K H) (rH mv) (s3 _ _ gz) (ca (λ_ _ z=>c5.same z s3) qz) (by rw[af];lia) (λa b=>a.same b) (λa b=>a.same b) ?_ ?_
  ·rintro i ns v Ha NY NN en sa ⟨u,rfl,_,Ru⟩ k1;have mn:=ar en;obtain y0|hy0|rfl:=aB.mp mn;have wy:=D.pw y0 hy0;have ga:=sa _ _ g3;exists #[m,u,H0,mv,_,rfl,(Gm.same s03).same sa,Ru,(),by rw[oA wy];lia,λxs hx=>#[by rw[D.mw xs hx,oA wy],((AF.row D.mw D.pw y0 hy0).fit D.mw wy (show t<=tt by lia)).1 xs hx],λz Hj nz sj Rz=>k1 _ _ sj #[z,rfl,s03.none (sa.none nz),Rz]]
  ·rintro ys Hb rr hrr sb gb prb nxb;have e:(pt.map (jT mv t)).map (rH mv)=pt.map (jT mv (t+1)):=by rw[ik];rfl
   rw[e] at prb nxb;exact #[s03.trans sb,rr,cc,_,rfl,s'.none nc,Gc.same sb,ys,gb,prb,iS nxb]
 ·rintro σ' H' ⟨s',rq,sm,y,rfl,nsm,Gs,Gq⟩;exists k sm H' nsm s' Gs
theorem Fb:sC ["_law_one","_law_other"] 2 uN:=by walk_at "d"
theorem FF (T:Txt K mg Z) (bn:bv P):T.oJ.o P w base 2 (A2 K):=by
 refine T.oJ.F.ok Fb (λvs H Q E h=>?_) (λcdv A outer s H vs Q E hr h=>?_)
 ·obtain p|q|a|b|c|d|rfl|hp|hq|hb|hd|hc|sa|sb|sc|sd|k:=Je h;rfl
 ·obtain p|q|a|b|c|d|rfl|hp|hq|hb|hd|hc|sa|sb|sc|sd|k:=Je h
  refine #[_,(au (cY (bf vm (aY bH cR ak) ak (br _)) (ay (aS (cN (iE T bn) hr T.eY (cQ (bD jr ak (bD dn (aY bH bT ak) (aY bH cR ak))) (bD jr ak (bD dn (aY bH bT ak) (aY bH cR ak))))))) bN)
   (ay (aS (cN (iE T bn) hr T.eY (cQ (bD dn (aY bH bT ak) (aY bH cR ak)) (bD dn (aY bH bT ak) (aY bH cR ak))))))),?_]
  refine rg (σ:=[some (.ref p),some (.ref q)]) rfl ?_
  try rw[gP]
  have sbc:Sz 8999000 (b*c):=(sb.mul sc).mono ();exists iT (λh=>?_) (λh=>?_)
  ·have h0:c < 0:=of_decide_eq_true h;have hbc:b*c < 0:=xE hb h0;exists gZ (show iH _ _ from .inr #[_,_,sa,sd,()]) ?_;exists gZ (show iH _ _ from .inr #[_,_,sb,sc,()]) ?_;exists #[_,_,rfl,(),by rw[Int.zero_sub];exact sbc.neg,λr H' s' h'=>?_];exact k r H' s' (by rw[if_pos h0,if_pos h0];exact h')
  ·have h0:¬c < 0:=λz=>h (decide_eq_true z)
   have hbc:0 < b*c:=j9 hb ();exists gZ (show iH _ _ from .inr #[_,_,sa,sd,()]) ?_;exists gZ (show iH _ _ from .inr #[_,_,sb,sc,()]) ?_;exists #[_,_,rfl,hbc,sbc,λr H' s' h'=>?_];exact k r H' s' (by rw[if_neg h0,if_neg h0];exact h')
theorem Fh:sC ["_law_one","_law_other"] 2 uY:=by walk_at "d"
theorem FQ (T:Txt K mg Z) (bn:bv P):T.oS.o P w base 2 (rP K (λx y=>x - y)):=by
 refine T.oS.F.ok Fh (λvs H Q E h=>?_) (λcdv A outer s H vs Q E hr h=>?_)
 ·obtain p|q|a|b|c|d|rfl|hp|hq|hb|hd|sa|sb|sc|sd|k:=Aw h;rfl
 ·obtain p|q|a|b|c|d|rfl|hp|hq|hb|hd|sa|sb|sc|sd|k:=Aw h;refine #[_,(ay (aS (cN (iE T bn) hr T.eY (cQ (bD jr (bD dn (aY bH bT ak) (aY bH cR ak)) (bD dn (aY bH cR ak) (aY bH bT ak))) (bD dn (aY bH bT ak) (aY bH cR ak)))))),?_];refine rg (σ:=[some (.ref p),some (.ref q)]) rfl ?_
  try rw[gP]
  have hbd:0 < b*d:=j9 hb hd;have sbd:Sz 8999000 (b*d):=(sb.mul sd).mono ();exists gZ (show iH _ _ from .inr #[_,_,sa,sd,()]) ?_;exists gZ (show iH _ _ from .inr #[_,_,sc,sb,()]) ?_;exists gZ (show iH _ _ from .inr #[_,_,sb,sd,()]) ?_;walk_at "w";exists #[_,_,rfl,hbd,sbd,k]
theorem CC:sC ["_law_one","_law_other"] 2 sT:=by walk_at "d"
theorem wO (T:Txt K mg Z) (bn:bv P):T.j8.o P w base 3 (yN K):=by
 refine T.j8.F.k CC ?_;walk_at "i";obtain p|q|xs|ys|rfl|hp|hq|hl|hz|h1|h2|kk:=h;refine #[_,(ay (aS (bW ["_law_k"] ["_law_one","_law_other"] [0,1] (bU rfl T.range (c9 (bg aU (by rfl) T.len aP (c9 bT)))) (λ_=>(eK 0)) (λ_=>b6) (λ_=>(cN (FQ T bn) hr T.oS (cQ (aY (gF K (by rfl)) cR bT) (aY (gF K (by rfl)) dQ bT))))))),?_];walk_at "s"
 try rw[gP]
 obtain us|gu|qu:=id hp;obtain ws|gw|qw:=id hq;have lu:=qu.9;exists #[_,_,rfl,.inl (bI.of gu),?_];exists #[(),(),?_];refine d6 (n:=us.9) (bX K) (λi=>xs.getD i 0 - ys.getD i 0) () (λa b=>a.same b) ?_ ?_
 ·rintro i H' NY NN hi s k1;have ix:i < xs.9:=()
  have iy:i < ys.9:=()
  obtain vx|ex|nx:=F4 (ca (λ_ _ z=>z.same s) qu) ix;obtain vy|ey|ny:=F4 (ca (λ_ _ z=>z.same s) qw) iy;exists ck (bI.of (s _ _ gu)) ex ?_;exists ck (bI.of (s _ _ gw)) ey ?_;exists #[_,_,_,_,rfl,nx,ny,h1 _ (getD_mem ix),h2 _ (getD_mem iy),λr3 H3 s3 n3=>k1 _ _ s3 n3]
 ·rintro ys' H' l hl' s g pr nx;exact kk l H' hl' s #[ys',g,by rw[KL ()];rw[<- lu] at pr;exact pr]
theorem fH:sC ["_law_rows","_law_wide","_law_left","_law_found","_law_place","_law_heads","_law_head"] 2 uZ:=by walk_at "d"
theorem ya (T:Txt K mg Z) (bn:bv P):T.lC.o P w base 4 (A4 K):=by
 refine T.lC.F.k fH ?_;walk_at "i";obtain p|n|S|H0|rows|rfl|G|r100|n100|hw|⟨e39,J,j0,jskip,jlean,jlw,jsz⟩|k:=h
 refine #[_,(au (eP 2 fH.nd (bW ["_law_row_here"] [] [] (cM bT) (λ_=>(eK 0)) (λ_=>b6) (λ_=>(eJ (iW K (by rfl)) (by rfl) T.list wv (c9 bT)))))
  (au (eP 3 fH.nd (dC ir))
  (au (eC r0 rfl (bU rfl T.range (c9 cR)) (eK 4 fH.nd)
   (au (jD 5 ["_law_k"] ["_law_left","_law_place"] [2,4] fH.nd rfl rfl (bU rfl T.range (c9 (bg aU (by rfl) T.len aP (c9 dQ)))) (λ_=>(eK 0)) (λ_=>Fq (bf (Fx K (by rfl) (xx hr)) (aY (gF K (by rfl)) (aY (gF K (by rfl)) cR bT) dQ) (cJ (cQ ak ak)) (br _))) (λ_=>bT))
  (ay (cY (bf (xp (xx hr)) vf (dC ir) (br _)) (au (eP 6 fH.nd (wH dh PySem.F.slot_list_pop PySem.F.type_list_pop Qi dQ (c9 (aY bV vf ak))))
  (au (eP 6 fH.nd (cN (mI T bn) hr T.iO (cQ (cN (FF T bn) hr T.oJ (cQ (cJ (cQ ak ak)) (aY bV rG lS))) rG)))
  (au (eP 2 fH.nd (bW ["_law_row_here"] ["_law_place","_law_head"] [4,6] (cM dQ) (λ_=>(eK 0)) (λ_=>b6) (λ_=>(cN (wO T bn) hr T.j8 (cQ bT (cN (mI T bn) hr T.iO (cQ (aY (gF K (by rfl)) bT cR) dQ)))))))
  (au (jD 3 ["_law_row_here"] ["_law_place","_law_head"] [4,6] fH.nd rfl rfl (cM gY) (λ_=>(eK 0)) (λ_=>b6) (λ_=>(cN (wO T bn) hr T.j8 (cQ bT (cN (mI T bn) hr T.iO (cQ (aY (gF K (by rfl)) bT cR) dQ))))))
  (ay (jc (wH dh dH dG kD gY (c9 rG)))))))) bN))))
  (ay (aS gY))))),?_]
 walk_at "s"
 try rw[gP]
 obtain xs|gx|qx|_:=id G;have szT:∀{D:Nat} {x:Rat},0 < D->D<=2^S->Tp D (2^S) x->jX x:=λh0 h1 t=>mh t h0 (ag h1 (aj () ())) (aj () ())
 have szP:∀{D D':Nat} {x y:Rat},0 < D->0 < D'->D<=2^S->D'<=2^S->Tp D (2^S) x->Tp D' (2^S) y->jX (x*y):=λh0 h0' h1 h1' t t'=>mh (t.mul t') (bC h0 h0') (ag (aK h1 h1') (by rw[<- aV];exact aj () ())) (by rw[<- aV];exact aj () ())
 exists #[#[_,bI.of gx],?_];refine df (K:=K) (F:=c5 K H0) (c5 K H) id gx qx () (λa b=>a.same b) (λa b=>a.same b) ?_ ?_
 ·rintro i ns x H' NY NN en s ⟨u,rfl,_,zs,gz,qz⟩ k1;exists #[u,zs,rfl,.inl (bI.of gz),λl1 hl1=>?_];exact k1 _ _ (aH.new hl1) #[l1,rfl,s.none hl1,zs,aN,ca (λ_ _ z=>z.same (aH.new hl1)) qz]
 rintro ys1 H1 L hL s1 g1 pr1 nx1;rw[jh] at pr1 nx1;have GL1:be K H H1 L rows:=#[ys1,g1,pr1,iS nx1];exists c6 λfd H2 s2 nf gf=>?_
 have fdL:fd≠L:=λz=>by rw[z,g1] at nf;cases nf
 clear g1 pr1 nx1;exists #[(),(),?_];refine eF (n:=n) (λP σ' H'=>aH H H'/\∃lp fp ls fs ps vs y1 y2 y3,σ'=[some (.ref p),some (.int n),some (.ref lp),some (.ref fp),y1,y2,y3]/\H lp=none/\H fp=none/\fp≠lp/\be K H H' lp ls/\H' fp=some (.lst vs)/\jp (qV K (λq=>(H q=none/\q≠fp)/\q≠lp) H') fs vs/\fs.9=ps.9/\J P (fs++ls) ps) #[s1.trans s2,L,fd,rows,[],[],[],_,_,_,rfl,hL,s1.none nf,fdL,GL1.same s2,gf,.nil,rfl,j0] ?_ ?_
 ·rintro P σ' H' hP ⟨s',lp,fp,ls,fs,ps,vs,y1,y2,y3,rfl,nlp,nfp,fl,GL,gv,pv,hf,JI⟩;have I:=jlw _ _ _ JI;have len:=I.len;rw[ai] at len;have wide:=I.wide;obtain us|gu|qu|nu:=id GL;have lu:=qu.9;have lv:=pv.length
  have szI:∀{i:Nat},i < rows.9->∀c,jX (bE (fs++ls) i c):=λhi c=>by
   obtain D|D0|D1|D2:=jsz _ _ _ JI () _ hi;exact szT D0 D1 (D2 c)
  have ez:∀i,(ls.map λr=>r.getD P 0).getD i 0=bE ls i P:=λi=>Ln
  exists #[_,_,rfl,.inl (bI.of gu),?_];rw[<- lu];exists #[(),(),?_];refine mM (n:=ls.9) (λi ys H''=>aH H' H''/\ys=dB (Ae (ls.map λr=>r.getD P 0) i)) lV #[aH.refl _,rfl] ?_ ?_
  ·rintro i ys Hb hi hlen ⟨sb,rfl⟩;rw[wA];obtain xt|vt|et|evt|mt|qt|rfl|nqt|Rt:=eE (ca (λ_ _ z=>c5.same z sb) qu) hi;have wt:=wide xt (av.mpr (.inr mt));obtain zs|gz|qz:=id Rt;obtain vx|ex|nx:=F4 qz (j:=P) ();have fx:(ls.map λr=>r.getD P 0).getD i 0=xt.getD P 0:=by rw[ez];unfold bE;rw[aa (l:=ls),et];rfl
   exists ck (bI.of (sb _ _ gu)) (eG evt) ?_;exists ck (bI.of gz) ex ?_;exists bS λt0 Hc sc gc=>?_
   exists #[_,_,Jx,xt.getD P 0,0,(),nx.same sc,bX.mk (q:=0) gc rfl,?_];by_cases e:xt.getD P 0=0
   ·rw[decide_eq_true e];exists #[sb.trans sc,?_];rw[vU,fx,if_neg (by simpa using e)]
   ·rw[decide_eq_false e];exists #[sb.trans sc,?_];rw[vU,fx,if_pos e];unfold dB;rw[cG];rfl
  rintro ys Hb hy ⟨sb,rfl⟩ hd hhd;have nzm:∀c,c∈Ae (ls.map λr=>r.getD P 0) ls.9↔c < ls.9/\bE ls c P≠0:=λc=>by rw[VS,ez]
  generalize Ae (ls.map λr=>r.getD P 0) ls.9=hs at hy hhd nzm;have sn:aH Hb (upd Hb hd (.lst (dB hs))):=aH.new hhd;have gh:(upd Hb hd (.lst (dB hs))) hd=some (.lst (dB hs)):=aN;generalize upd Hb hd (.lst (dB hs))=Hc at sn gh ⊢;have sbc:=sb.trans sn;exists c6 λem Hd sd nd gd=>?_
  exists #[_,_,To Jy,vC hs,vC [],(),Ec (sd _ _ gh),Ec gd,?_];have sbd:=sbc.trans sd;by_cases e0:hs=[]
  ·subst e0;rw[decide_eq_true rfl];exists #[s'.trans sbd,lp,fp,ls,fs,ps,vs,_,_,_,rfl,nlp,nfp,fl,GL.same sbd,sbd _ _ gv,ca (λ_ _ z=>qV.same z sbd) pv,hf,jskip _ _ _ JI λi h1 h2=>?_];rw[ai] at h2;obtain ⟨j,rfl⟩:∃j,i=fs.9+j:=#[i - fs.9,()];rw[vM];by_cases z:bE ls j P=0
   ·exact z
   ·exact absurd ((nzm j).mpr #[(),z]) (by simp)
  ·rw[decide_eq_false (λz=>e0 (Qt z))]
   obtain ⟨t,hs',rfl⟩:∃t hs',hs=t :: hs':=by cases hs with
    | nil=>exact absurd rfl e0
    | cons t r=>exact #[t,r,rfl]
   obtain tl|hne:=(nzm t).mp (.head _);have gud:=sbd _ _ gu;obtain xt|vt|et|evt|mt|qt|rfl|nqt|Rt:=eE (ca (λ_ _ z=>c5.same z sbd) qu) tl;have ext:ls.getD t []=xt:=by rw[aa,et];rfl
   have hne':xt.getD P 0≠0:=by unfold bE at hne;rw[ext] at hne;exact hne
   have wt:=wide xt (av.mpr (.inr mt));have qtl:qt≠lp:=λz=>nu (by rw[<- z];exact ar evt)
   exists #[.inl #[rfl,_,bI.of gud],?_];exists ck (bI.of (sd _ _ gh)) (eG (j:=0) rfl) ?_;exists #[lp,us,t,t,_,rfl,rfl,gud,(),(),PySem.StrLaws.seqIndex_nonneg () (),evt,?_];have s0e:aH H (upd Hd lp (.lst (us.eraseIdx t))):=(s'.trans sbd).after nlp;obtain us'|gu'|pu':=(GL.same sbd).toE;have eus:us'=us:=by rw[gud] at gu';cases gu';rfl
   subst eus;have ple:jp (qV K (λq=>H q=none/\q≠lp) (upd Hd lp (.lst (us'.eraseIdx t)))) (ls.eraseIdx t) (us'.eraseIdx t):=xY (ca (λ_ _ z=>qV.updL z gud (λq h=>h.2)) pu') t;have gle:(upd Hd lp (.lst (us'.eraseIdx t))) lp=some (.lst (us'.eraseIdx t)):=aN;have gve:(upd Hd lp (.lst (us'.eraseIdx t))) fp=some (.lst vs):=by rw[bG fl];exact sbd _ _ gv
   have pve:jp (qV K (λq=>(H q=none/\q≠fp)/\q≠lp) (upd Hd lp (.lst (us'.eraseIdx t)))) fs vs:=ca (λ_ _ z=>qV.updL (qV.same z sbd) gud (λq h=>h.2)) pv;have Re:cC K (upd Hd lp (.lst (us'.eraseIdx t))) qt xt:=Rt.updL gud qtl;generalize upd Hd lp (.lst (us'.eraseIdx t))=He at s0e ple gle gve pve Re ⊢;clear pu' gu' gud Rt;have I2:=jlean _ _ _ _ _ JI hf tl hP (by rw[ext];exact hne');rw[ext] at I2
   have rowD:∀r∈fs++ls,∃D:Nat,0 < D/\D<=2^S/\∀c,Tp D (2^S) (r.getD c 0):=λr hr=>by
    obtain i|hi|rfl:=bu hr;obtain D|D0|D1|D2:=jsz _ _ _ JI () i (by rw[ai] at hi;lia);refine #[D,D0,D1,λc=>?_];have:=D2 c;unfold bE at this;rw[aa (l:=fs++ls),ae hi] at this;exact this
   have szr:∀r∈fs++ls,∀y∈r,jX y:=λr hr y hy=>by
    obtain D|D0|D1|D2:=rowD r hr;obtain c|hc|rfl:=bu hy;have:=D2 c;rw[aa,ae hc] at this;exact szT D0 D1 this
   have mxt:xt∈fs++ls:=av.mpr (.inr mt);have lu2:(rA P xt).9=n:=by unfold rA;rw[af];exact wt
   obtain ⟨Du,Du0,Du1,Du2⟩:∃D:Nat,0 < D/\D<=2^S/\∀y∈rA P xt,Tp D (2^S) y:=by
    obtain D|D0|D1|D2:=jsz _ _ _ I2 () ps.9 ();refine #[D,D0,D1,λy hy=>?_];obtain c|hc|rfl:=bu hy;have:=D2 c;rw[cF,show ps.9=(fs.map (BQ P (rA P xt))).9+0 by rw[af];lia,vM] at this
    have e:bE ([rA P xt]++(ls.eraseIdx t).map (BQ P (rA P xt))) 0 c=(rA P xt)[c]:=by
     show (rA P xt).getD c 0=_
     rw[aa,ae hc];rfl
    rw[e] at this;exact this
   have szu:∀y∈rA P xt,jX y:=λy hy=>szT Du0 Du1 (Du2 y hy)
   have szp:∀r∈fs++ls,∀y∈rA P xt,jX (r.getD P 0*y):=λr hr y hy=>by
    obtain D|D0|D1|D2:=rowD r hr;exact szP D0 Du0 D1 Du1 (D2 P) (Du2 y hy)
   obtain zs|gz|qz:=id Re;obtain vx|ex|nx:=F4 qz (j:=P) ();have szx:jX (xt.getD P 0):=szr xt mxt _ (getD_in ());exists bS λtq Hf sf gf=>?_
   exists ck (bI.of (sf _ _ gz)) ex ?_;exists #[_,_,1,xt.getD P 0,rfl,bX.mk (q:=1) gf rfl,nx.same sf,RW,szx,hne',λqr Hg sg nq=>?_];have sfg:=sf.trans sg;exists #[_,qt,1 / xt.getD P 0,xt,rfl,nq,RX szx hne',Re.same sfg,(),szr xt mxt,λur Hh nur sh Rur=>?_];have Rur:cC K Hh ur (rA P xt):=Rur;have seh:=sfg.trans sh;have s0h:=s0e.trans seh;have nur0:H ur=none:=(s0e.trans sfg).none nur;exists #[#[_,bI.of (seh _ _ gle)],?_];refine df (K:=K) (F:=qV K (λq=>H q=none/\q≠lp)) (c5 K H) (BQ P (rA P xt)) (seh _ _ gle) (ca (λ_ _ z=>qV.same z seh) ple) (by rw[US tl];lia) (λa b=>a.same b) (λa b=>a.same b) ?_ ?_
   ·rintro i ns x Hi NY NN en si ⟨q,rfl,nq0,Rq⟩ k1;have mn:ns∈fs++ls:=av.mpr (.inr (WT (ar en)));have wn:=wide ns mn;obtain zs2|gz2|qz2:=id Rq;obtain vx2|ex2|nx2:=F4 qz2 (j:=P) ();exists ck (bI.of gz2) ex2 ?_;exists #[_,ur,ns.getD P 0,rA P xt,rfl,nx2,szr ns mn _ (getD_in ()),Rur.same si,(),szu,λb1 Hj nb1 sj Rb=>?_];exists #[q,b1,ns,_,rfl,Rq.same sj,Rb,by rw[af];lia,(),szr ns mn,λy hy=>?_,λr2 Hk nr2 sk Rk=>?_]
    ·obtain y'|hy'|rfl:=aB.mp hy;exact szp ns mn y' hy'
    ·exact k1 _ _ (sj.trans sk) #[r2,rfl,s0h.none (si.none (sj.none nr2)),Rk]
   rintro yl Hk lp2 hlp2 sk gk prk nxk;have s0k:=s0h.trans sk;have Gk:be K H Hk lp2 ((ls.eraseIdx t).map (BQ P (rA P xt))):=#[yl,gk,prk,iS nxk];have Ruk:=Rur.same sk;exists #[#[_,bI.of (sk _ _ (seh _ _ gve))],?_];refine df (K:=K) (F:=qV K (λq=>(H q=none/\q≠fp)/\q≠lp)) (c5 K Hk) (BQ P (rA P xt)) (sk _ _ (seh _ _ gve)) (ca (λ_ _ z=>qV.same (qV.same z seh) sk) pve) () (λa b=>a.same b) (λa b=>a.same b) ?_ ?_
   ·rintro i ns x Hi NY NN en si ⟨q,rfl,nq0,Rq⟩ k1;have mn:ns∈fs++ls:=av.mpr (.inl (ar en));have wn:=wide ns mn;obtain zs2|gz2|qz2:=id Rq;obtain vx2|ex2|nx2:=F4 qz2 (j:=P) ();exists ck (bI.of gz2) ex2 ?_;exists #[_,ur,ns.getD P 0,rA P xt,rfl,nx2,szr ns mn _ (getD_in ()),Ruk.same si,(),szu,λb1 Hj nb1 sj Rb=>?_];exists #[q,b1,ns,_,rfl,Rq.same sj,Rb,by rw[af];lia,(),szr ns mn,λy hy=>?_,λr2 Hl nr2 sl Rl=>?_]
    ·obtain y'|hy'|rfl:=aB.mp hy;exact szp ns mn y' hy'
    ·exact k1 _ _ (sj.trans sl) #[r2,rfl,si.none (sj.none nr2),Rl]
   rintro yf Hl fp2 hfp2 sl gl prl nxl;have lyf:=prl.9;rw[af] at lyf;have nfp2:H fp2=none:=s0k.none hfp2;have nlp2:H lp2=none:=s0h.none hlp2;have fl2:fp2≠lp2:=λz=>by rw[z,gk] at hfp2;cases hfp2
   have urk:Hk ur≠none:=by obtain _|gg|_:=Ruk;rw[gg];exact λz=>nomatch z
   have urf:ur≠fp2:=λz=>urk (by rw[z];exact hfp2)
   have url:ur≠lp2:=λz=>by obtain _|gg|_:=Rur;rw[z,hlp2] at gg;cases gg
   exists #[.inl #[rfl,_,bI.of gl],?_];exists jB gl (cX ()) ?_;refine #[(s0k.trans sl).after nfp2,lp2,fp2,_,_,ps++[P],_,_,_,_,rfl,nlp2,nfp2,fl2,?_,aN,?_,by rw[ai,ai,af];show fs.9+1=ps.9+1;lia,I2]
   ·obtain ul|gul|pul:=Gk.toE;refine be.ofE (P:=λq=>(H q=none/\q≠lp2)/\q≠fp2) (by rw[bG (SL fl2)];exact sl _ _ gul) (ca (λ_ _ #[q,e1,e2,e3]=>?_) pul) (λq h=>h.1.1) (λq h=>h.1.2);have qf:q≠fp2:=λz=>by obtain _|gg|_:=e3;rw[z,hfp2] at gg;cases gg
    exact #[q,e1,#[e2,qf],(cC.same e3 sl).updL gl qf]
   ·have nn:=iS nxl;refine bR (pU (λxs v hv #[q,e1,e2,e3]=>?_) prl) (.cons #[ur,rfl,#[#[nur0,urf],url],(Ruk.same sl).updL gl urf] .nil);have qf:q≠fp2:=λz=>nn (by rw[<- z,<- e1];exact hv)
    exact #[q,e1,#[#[s0k.none e2,qf],λz=>by rw[z,gk] at e2;cases e2],cC.updL e3 gl qf]
 ·rintro σ' H' ⟨s',lp,fp,ls,fs,ps,vs,y1,y2,y3,rfl,nlp,nfp,fl,GL,gv,pv,hf,JI⟩;have I:=jlw _ _ _ JI;have D:=I.done hw;rw[List.take_left' hf] at D;obtain km|_:=I.km;exists k fp fs ps H' nfp s' (be.ofE gv pv (λq h=>h.1.1) (λq h=>h.1.2)) D km
theorem kR:sC ["_law_parts_here","_law_goal_here","_law_n","_law_steps_here","_law_rows"] 2 qM:=by walk_at "d"
theorem BN (T:Txt K mg Z) (bn:bv P):T.lF.o P w base 6 (IK K):=by
 refine T.lF.F.k kR ?_;walk_at "i";obtain r|g|H0|mv|pt|lk|go|o|rfl|PQ|D|Rg|lg|L|W|k:=h
 refine #[_,(au (eP 2 kR.nd (bg aU (by rfl) T.len aP (c9 cR)))
  (au (eC r0 rfl (bU rfl T.range (c9 (bD fz dQ ak))) (eK 3 kR.nd)
   (au (eP 4 kR.nd (cN (CW T bn) hr T.nF (cQ bT gY)))
  (ay (cY (bf (zj (xx hr)) (cN (ya T bn) hr T.lC (cQ (bD jU lS (dC (c9 cR))) dQ)) (cN (ya T bn) hr T.lC (cQ lS dQ)) (br _)) (ay (aS gY)) bN))))
  (ay (aS vg)))),?_]
 walk_at "s"
 try rw[gP]
 obtain AD|LW|LO:=L;have n8:=D.n8;have i4:=D.i4;obtain yg|gy|qy:=id Rg;have lyg:yg.9=mv.9:=by rw[<- qy.9,lg]
 exists #[_,_,rfl,.inl (bI.of gy),?_];rw[lyg];exists #[(),(),?_];rw[show ((mv.9:Int)+1)=((mv.9+1:Nat):Int) by lia];refine eF (n:=mv.9+1) (λi σ' H'=>aH H H'/\(∀j,j < i->¬ON mv pt go j)/\∃u1 u2,σ'=[some (.ref r),some (.ref g),some (.int mv.9),u1,u2]) #[aH.refl _,(λj h=>absurd h (dw j)),_,_,rfl] ?_ ?_
 ·rintro i σ' Ha hi ⟨sa,no,u1,u2,rfl⟩;have kl:=vZ (mv:=mv) (pt:=pt) i;have kb:i*pt.9<=8*4:=aK () i4;have wk:=eO (mv:=mv) (pt:=pt) rfl D.pw i;obtain SA|LA:=LO i ();obtain SB|LB:=LW i ();exists #[r,i,H0,mv,pt,lk,rfl,(),PQ.same sa,D,AD.le (),λka H1 nka s1 G1=>?_];have s01:=sa.trans s1;exists c6 λl1 H2 s2 n2 g2=>?_
  obtain us|gu|pu|_:=G1.same s2;have lu:=pu.9;exists jS gu g2 (cA (cX (by rw[aT];lia))) λcc H3 s3 n3 g3=>?_
  have s03:=(s01.trans s2).trans s3;have qA:jp (c5 K (λa=>if a=g then none else Ha a) H2) (kry mv pt i++[go]) (us++[V.ref g]):=bR (ca (λ_ _ #[q,a1,b1,c1]=>#[q,a1,by show (if q=g then none else Ha q)=none;split <;> first | rfl | exact b1,c1]) pu) (.cons ⟨g,rfl,if_pos rfl,Rg.same (s01.trans s2)⟩ .nil);have G3:be K (λa=>if a=g then none else Ha a) H3 cc (kry mv pt i++[go]):=#[_,g3,ca (λ_ _ z=>c5.same z s3) qA,iS #[H2,n3,qA]];exists #[cc,mv.9,SA,_,_,rfl,G3,by rw[ai,aT];lia,(),λxs hx=>?_,LA,λra RA pa H4 nra s4 G4 RRA _=>?_]
  ·rcases av.mp hx with hx | hx
   ·exact wk xs hx
   ·rw[bA.mp hx];exact lg
  exists #[ka,mv.9,SB,Ha,_,rfl,G1.same ((s2.trans s3).trans s4),(),(),wk,LB,λrb RB pb H5 nrb s5 G5 RRB _=>?_];have s05:=(s03.trans s4).trans s5;exists #[_,_,pH,RA,RB,(),(G4.same s5).kind,G5.kind,?_];by_cases e:RA=RB
  ·rw[decide_eq_true e];subst e;have si:=Wg RRB RRA;walk_at "w"
   match o,W,k with
   | none,W,_=>exact absurd si (W i ())
   | some j,W,k =>
    have e:j=i:=by
     rcases cT j i with z | z | z
     ·exact absurd W.2.1 (no _ z)
     ·exact z
     ·exact absurd si (W.2.2 _ z)
    subst e;exact k _ s05
  ·rw[decide_eq_false e];exists #[s05,λj hj=>?_,_,_,rfl];by_cases z:j=i
   ·subst z;exact λs=>e (QN RRB RRA s)
   ·exact no j ()
 rintro σ' Ha ⟨sa,no,u1,u2,rfl⟩;walk_at "w"
 match o,W,k with
 | none,_,k=>exact k _ sa
 | some j,W,_=>exact absurd W.2.1 (no j (by have:=W.1;lia))
theorem pP:sC ["_law_thing","_law_part"] 1 mD:=by walk_at "d"
theorem yc (T:Txt K mg Z) (bn:bv P):T.jf.o P w base 2 (Ny K):=by
 refine T.jf.F.k pP ?_;walk_at "i";obtain x|n|rfl|⟨p,rfl,hp⟩|hn|k:=h
 refine #[_,(au (cY (PW.pt (lZ (iY (fJ (sY rfl T.isinstance Id T.tuple bT))) (jq (bf ue (bg aU (by rfl) T.len aP (c9 bT)) ak (br _))))) (ay (aS ma)) bN)
  (au (eC r0 rfl (P7 bT) (eK 1 pP.nd)
   (ay (cY (PW.pt (lZ (iY (fJ (sY rfl T.isinstance Db T.int cR))) (jq (fJ (sY rfl T.isinstance PyProof.Rows.boot_bool T.bool cR))))) (ay (aS ma)) bN)))
  (ay (aS (Fu (iL wI (aY bH bT ak) ak (br _)) (Fs (iL (zj (xx hr)) (cN (iE T bn) hr T.eY (cQ (aY bH bT ak) (aY bH bT ak))) bT (br _)))))))),?_]
 walk_at "s"
 try rw[gP]
 obtain hb|hg|_|hs:=hn;exists .inr #[p,_,_,rfl,hp,rfl,?_];exists #[_,_,rfl,.inr hp,?_];walk_at "w"
 try refine Tq ?_
 exists #[#[_,hp],?_];refine F9 (K:=K) (a:=p) (xs:=[.int n.1,.int n.2]) (λi σ' H'=>H'=H/\∃x,σ'=[some (.ref p),x]) #[rfl,none,rfl] (λi σ' H' _ #[e,_]=>by subst e;exact hp) ?_ ?_
 ·rintro i x σ' H' hx ⟨rfl,y,rfl⟩
  obtain ⟨z,rfl⟩:∃z,x=V.int z:=by
   have hm:x∈[V.int n.1,V.int n.2]:=ar hx;simp only[aJ,aX,or_false] at hm;rcases hm with e | e
   ·exact #[_,e]
   ·exact #[_,e]
  exists .inl #[_,_,.int z,rfl,?_];exists .inl #[_,_,.int z,rfl,?_];exists #[rfl,_,rfl]
 ·rintro σ' H' ⟨rfl,x,rfl⟩;walk_at "w";rw[decide_eq_true hb];exists #[n.1,n.2,rfl,hb,hs.mono (),λr H' s1 h'=>?_];obtain e1|e2:=VV hb hg;exists #[_,_,X3,(lo n.1 n.2,hi n.1 n.2),n,(),#[r,rfl,jN.of h'],#[p,rfl,s1.sqt hp],?_];rw[e1,e2,decide_eq_true rfl];exact k _ s1
theorem Bi:sC ["_law_thing","_law_many"] 2 qL:=by walk_at "d"
theorem BM (T:Txt K mg Z) (bn:bv P):T.lD.o P w base 3 (yO K):=by
 refine T.lD.F.k Bi ?_;walk_at "i";obtain p|ns|rfl|hp|hl|hn|k:=h
 refine #[_,(au (cY (PW.pt (lZ (iY (fJ (qP rfl T.isinstance wv T.list bT))) (jq (bf ue (bg aU (by rfl) T.len aP (c9 bT)) cR (br _))))) (ay (aS ma)) bN)
  (ay (aS (bg (Ci rfl) (by rfl) T.all PyProof.Rows.boot_all (c9 (bW ["_law_one"] [] [] (cM bT) (λ_=>(eK 0)) (λ_=>b6) (λ_=>(cN (yc T bn) hr T.jf (c9 bT))))))))),?_]
 walk_at "s"
 try rw[gP]
 obtain xs|gx|qx:=id hp;have lx:=qx.9;exists #[_,_,.lst gx,rfl,?_];exists #[_,_,rfl,.inl (bI.of gx),?_];walk_at "w";rw[show ((xs.9:Nat):Int)=(ns.9:Nat) by rw[lx],decide_eq_true rfl];exists #[#[_,bI.of gx],?_];refine gR (K:=K) (xs:=xs) (λi ys H'=>aH H H'/\ys=ce i (.bl true)) lV #[aH.refl _,rfl] (λi ys H' _ #[s,_]=>bI.of (s _ _ gx)) ?_ ?_
 ·rintro i x ys H' hx hlen ⟨s,rfl⟩;obtain n|en|z:=cv qx hx;exists #[x,n,rfl,s.num z,hn n (ar en),λH2 s2=>#[s.trans s2,by rw[uq]]]
 ·rintro ys H' hy ⟨s,rfl⟩ l hl';exists #[l,ce xs.9 true,rfl,bI.of (by rw[aN];simp),?_];have e4:(ce xs.9 true).all id=true:=by simp
  rw[e4];exact k _ (s.trans (aH.new hl'))
theorem Ac:sC ["_law_thing","_law_many","_law_wide"] 3 o9:=by walk_at "d"
theorem oi (T:Txt K mg Z) (bn:bv P):T.gQ.o P w base 4 (A6 K):=by
 refine T.gQ.F.k Ac ?_;walk_at "i";obtain p|rows|m|rfl|hp|hl|hm|hn|k:=h
 refine #[_,(au (cY (PW.pt (lZ (iY (fJ (qP rfl T.isinstance wv T.list bT))) (jq (bf ue (bg aU (by rfl) T.len aP (c9 bT)) cR (br _))))) (ay (aS ma)) bN)
  (ay (aS (bg (Ci rfl) (by rfl) T.all PyProof.Rows.boot_all (c9 (bW ["_law_row_here"] ["_law_wide"] [2] (cM bT) (λ_=>(eK 0)) (λ_=>b6) (λ_=>(cN (BM T bn) hr T.lD (cQ bT cR))))))))),?_]
 walk_at "s"
 try rw[gP]
 obtain xs|gx|qx:=id hp;have lx:=qx.9;exists #[_,_,.lst gx,rfl,?_];exists #[_,_,rfl,.inl (bI.of gx),?_];walk_at "w";rw[show ((xs.9:Nat):Int)=(rows.9:Nat) by rw[lx],decide_eq_true rfl];exists #[#[_,bI.of gx],?_];refine gR (K:=K) (xs:=xs) (λi ys H'=>aH H H'/\ys=ce i (.bl true)) lV #[aH.refl _,rfl] (λi ys H' _ #[s,_]=>bI.of (s _ _ gx)) ?_ ?_
 ·rintro i x ys H' hx hlen ⟨s,rfl⟩;obtain ns|en|q|rfl|z:=cv qx hx;obtain e1|e2:=hn ns (ar en);exists #[q,ns,by rw[e1],z.same s,(),e2,λH2 s2=>#[s.trans s2,by rw[uq]]]
 ·rintro ys H' hy ⟨s,rfl⟩ l hl';exists #[l,ce xs.9 true,rfl,bI.of (by rw[aN];simp),?_];have e4:(ce xs.9 true).all id=true:=by simp
  rw[e4];exact k _ (s.trans (aH.new hl'))
theorem xN:sC ["_law_rows","_law_weights","_law_n"] 3 mC:=by walk_at "d"
theorem xZ (T:Txt K mg Z) (bn:bv P):T.je.o P w base 5 (DE K):=by
 refine T.je.F.k xN ?_;walk_at "i";obtain p|q|n|H0|H1|N|U|rfl|GN|GU|lN|n100|lU|hN|hU|k:=h
 refine #[_,(au (cY (PW.pt (lZ (iY (fJ (qP rfl T.isinstance wv T.list bT))) (jq (iY (fJ (qP rfl T.isinstance wv T.list cR)))))) (ay (aS ma)) bN)
  (ay (aS (Fu (cN (oi T bn) hr T.gQ (sZ bT (bg aU (by rfl) T.len aP (c9 bT)) dQ)) (Fs (cN (oi T bn) hr T.gQ (sZ cR (bg aU (by rfl) T.len aP (c9 bT)) (bg aU (by rfl) T.len aP (c9 bT))))))))),?_]
 walk_at "s"
 try rw[gP]
 obtain us|gu|qu|_:=id GN;obtain ws|gw|qw|_:=id GU;have lu:=qu.9;have lw:=qw.9;exists #[_,_,.lst gu,rfl,?_];exists #[_,_,.lst gw,rfl,?_];exists #[_,_,rfl,.inl (bI.of gu),?_];rw[<- lu];exists #[p,_,n,by rw[af],GN.gridK,by rw[af];lia,(),λns hn=>?_,λH2 s2=>?_]
 ·obtain xs|hx|rfl:=aB.mp hn;refine #[by rw[af];exact (hN xs hx).1,λz hz=>?_];obtain y|hy|rfl:=aB.mp hz;exact KQ ((hN xs hx).2 y hy)
 exists #[_,_,rfl,.inl (bI.of (s2 _ _ gu)),?_];rw[<- lu];exists #[_,_,rfl,.inl (bI.of (s2 _ _ gu)),?_];rw[<- lu];exists #[q,_,N.9,by rw[af,lU],(GU.same s2).gridK,by rw[af];lia,(),λns hn=>?_,λH3 s3=>?_]
 ·obtain xs|hx|rfl:=aB.mp hn;refine #[by rw[af];exact (hU xs hx).1,λz hz=>?_];obtain y|hy|rfl:=aB.mp hz;exact KQ ((hU xs hx).2 y hy)
 exact k _ (s2.trans s3)
theorem kN:sC ["_law_weights","_law_rows","_law_n","_law_found","_law_k"] 3 qJ:=by walk_at "d"
theorem BJ (T:Txt K mg Z) (bn:bv P):T.lA.o P w base 4 (Pk K):=by
 refine T.lA.F.k kN ?_;walk_at "i";obtain _|_|_|rfl|p|q|n|M|D|W|B|H0|rows|ws|e|G|Rw|hl|r100|n100|hw|M0|D0|tM|tD|W1|B1|b1|b2|k:=h;cases e
 refine #[_,(au (jD 3 ["_law_k"] [] [] kN.nd rfl rfl (bU rfl T.range (c9 dQ)) (λ_=>(eK 0)) (λ_=>b6) (λ_=>(cJ (cQ ak ak))))
  (au (eC r0 rfl (bU rfl T.range (c9 (bg aU (by rfl) T.len aP (c9 cR)))) (eK 4 kN.nd)
   (ay (eP 3 kN.nd (cN (tw T bn) hr T.jH (cQ gY (cN (mI T bn) hr T.iO (cQ (aY bV bT lS) (aY bV cR lS))))))))
  (ay (aS gY)))),?_]
 walk_at "s"
 try rw[gP]
 have WB:W<=W*B:=bZ _ B1;have BW:B<=W*B:=bK _ W1;have MD:M<=M*D:=bZ _ D0;have DM:D<=M*D:=bK _ M0;have p39:(2:Nat)^3990000<=2^3995000:=aj () ();have szr:∀xs∈rows,∀x∈xs,jX x:=λxs hx x hx'=>mh (tM xs hx x hx') M0 () ()
 have szw:∀x∈ws,jX x:=λx hx=>mh (tD x hx) D0 () ()
 have szp:∀w∈ws,∀xs∈rows,∀x∈xs,jX (w*x):=λw hw xs hx x hx'=>by
  rw[cD];exact mh ((tM xs hx x hx').mul (tD w hw)) (bC M0 D0) () ()
 have szt:∀j,j<=ws.9->∀x∈Nk rows ws n j,jX x:=λj hj x hx=>by
  obtain c|_|rfl:=aB.mp hx
  have t:=Tp.sum (k:=j) (M:=M*D) (W:=W*B) (f:=λi=>ws.getD i 0*bE rows i c) λi _=>by
   rw[cD];exact (O9 tM i c).mul (kJ tD i)
  exact mh t (bC M0 D0) () (Nat.le_trans (ax _ (by omega)) (Nat.le_trans b2 p39))
 exists #[(),(),?_];refine d6 (n:=n) (bX K) (λ_=>(0:Rat)) () (λa b=>a.same b) ?_ ?_
 ·rintro i H' NY NN hi s' k1;exists bS λt Hy sy gy=>?_
  exact k1 _ _ sy (bX.mk (q:=0) gy rfl)
 rintro ys He tot nt s0e ge pe _
 have Rt:cC K He tot (Nk rows ws n 0):=by
  rw[RP];exact #[_,ge,by have:=pe;rwa [kG,bB] at this]
 obtain rs|grs|qrs|_:=id G;obtain us|gus|qus:=id Rw;have lrs:=qrs.9;have lus:=qus.9;exists #[_,_,rfl,.inl (bI.of (s0e _ _ grs)),?_];rw[<- lrs];exists #[(),(),?_];refine eF (n:=rows.9) (λj σ' H'=>aH H H'/\∃tot y3,σ'=[some (.ref q),some (.ref p),some (.int n),some (.ref tot),y3]/\H tot=none/\cC K H' tot (Nk rows ws n j)) #[s0e,tot,_,rfl,nt,Rt] ?_ ?_
 ·rintro j σ' Hf hj' ⟨sf,tot',y3',rfl,nt',Rt'⟩;obtain xs2|v2|e2|ev2|m2|q2|rfl|_|R2:=eE qrs hj';have w2:=hw xs2 m2;obtain wj|v1|ej|ev1|mj|nj:=eE qus (i:=j) ();exists ck (bI.of (sf _ _ gus)) (eG ev1) ?_;exists ck (bI.of (sf _ _ grs)) (eG ev2) ?_;exists #[_,q2,wj,xs2,rfl,nj.same sf,szw wj mj,R2.same sf,(),szr xs2 m2,λr3 Hh n3 sh R3=>?_];exists #[tot',r3,_,_,rfl,Rt'.same sh,R3,by rw[af,rL,w2],by rw[rL];lia,szt j (),λy hy=>?_,λr4 Hi n4 si R4=>?_]
  ·obtain y'|hy'|rfl:=aB.mp hy;exact szp wj mj xs2 m2 y' hy'
  exists #[(sf.trans sh).trans si,r4,_,rfl,(sf.trans sh).none n4,?_];rw[<- RQ e2 ej w2];exact R4
 ·rintro σ' Hf ⟨sf,tot',y3',rfl,nt',Rt'⟩;rw[show rows.9=ws.9 by lia] at Rt';exists k tot' Hf nt' sf Rt'
theorem Ff:sC ["_law_parts_here","_law_row_here"] 2 uR:=by walk_at "d"
theorem FI (T:Txt K mg Z) (bn:bv P):T.oM.o P w base 4 (DN K):=by
 refine T.oM.F.k Ff ?_;walk_at "i";obtain r|a|H0|mv|pt|lk|z|rfl|PQ|D|Rz|lz|ff|k:=h;refine #[_,(ay (aS (bW ["_law_j"] ["_law_row_here","_law_parts_here"] [1,0] (bU rfl T.range (c9 (bg aU (by rfl) T.len aP (c9 cR)))) (λ_=>(eK 0)) (λ_=>b6) (λ_=>(cN (pX T bn) hr T.jx (cQ cR (bW ["_law_some"] ["_law_j"] [0] (xW K (aY (p9 K (by rfl)) dQ ak)) (λ_=>(eK 0)) (λ_=>b6) (λ_=>(aY (gF K (by rfl)) bT cR))))))))),?_];walk_at "s"
 try rw[gP]
 have d8:=D.n8;obtain m|p|l|gt|mn|pn|ln|Gm|Gp|Gl:=id PQ;obtain um|gm|qm|_:=id Gm;obtain uz|gz|qz:=id Rz;have lum:=qm.9;have luz:=qz.9;exists #[_,_,rfl,.inl (bI.of gz),?_];rw[<- luz,lz];exists #[(),(),?_];refine d6 (n:=mv.9) (bX K) (λj=>cb (mv.map λxs=>xs.getD j 0) z) () (λa b=>a.same b) ?_ ?_
 ·rintro j H' NY NN hj s' k1;have gt':=s' _ _ gt;exists #[#[_,bI.of (s' _ _ gm)],?_];refine df (K:=K) (as:=mv) (F:=c5 K H0) (bX K) (λxs=>xs.getD j 0) (s' _ _ gm) (ca (λ_ _ y=>c5.same y s') qm) () (λh s=>h.same s) (λh s=>h.same s) ?_ ?_
  ·rintro i xs x H2 NY2 NN2 ex s2 ⟨u,rfl,_,zs,gzs,qzs⟩ k2;have lx:=D.mw xs (ar ex);have lzs:=qzs.9;obtain w|v|e1|e2|_|nv:=eE qzs (i:=j) ();exists ck (bI.of gzs) (eG e2) ?_;refine k2 _ _ (aH.refl _) ?_;rw[aa,e1];exact nv
  rintro ys H2 c nc s2 gc pc _;walk_at "w";have mc:(mv.map λxs=>xs.getD j 0)∈b8 mv mv.9:=ar (Av hj);refine #[a,c,z,_,rfl,Rz.same (s'.trans s2),#[ys,gc,pc],by rw[af,lz],(),(ff _ mc).symm,λq H3 s3 N3=>?_];refine k1 _ _ (s2.trans s3) ?_;rw[zB];exact N3
 rintro ys H2 q nq s2 gq pq _;refine k q H2 nq s2 #[ys,gq,?_];have e:((b8 mv mv.9).map λys=>cb ys z)=(on mv.9).map λj=>cb (mv.map λxs=>xs.getD j 0) z:=by unfold b8;rw[ik];rfl
 rw[e];exact pq
theorem wG:sC ["_law_parts_here","_law_goal_here","_law_rows","_law_weights","_law_k"] 4 sP:=by walk_at "d"
theorem CO (T:Txt K mg Z) (bn:bv P):T.nk.o P w base 5 (A0 K):=by
 refine T.nk.F.k wG ?_;walk_at "i";obtain r|g|p|q|H0|H1|H2|mv|pt|lk|rows|wts|go|rfl|PQ|D|Rg|lg|GR|GW|r100|w100|hr1|f1|f2|⟨M,DD,W,B,M0,D0,tM,tD,W1,B1,b1,b2⟩|f4|k:=h
 refine #[_,(au (cY (PW.pt (lZ (bf (zj (xx hr)) dQ (dC ir) (br _)) (jq (bf ue (bg aU (by rfl) T.len aP (c9 gY)) (bg aU (by rfl) T.len aP (c9 dQ)) (br _))))) (ay (aS ma)) bN)
  (au (eC r0 rfl (bU rfl T.range (c9 (bg aU (by rfl) T.len aP (c9 dQ)))) (eK 4 wG.nd)
   (au (cY (bf ue (bg aU (by rfl) T.len aP (c9 (aY bV gY lS))) (bg aU (by rfl) T.len aP (c9 dQ)) (br _)) (ay (aS ma)) bN)
  (au (cY (bf (xp (xx hr)) (bW ["_law_put"] ["_law_rows","_law_k"] [2,4] (cM (aY bH bT ak)) (λ_=>(eK 0)) (λ_=>b6) (λ_=>(cN (pX T bn) hr T.jx (cQ (aY (gF K (by rfl)) cR dQ) bT)))) (bW ["_law_put"] [] [] (cM (aY bH bT ak)) (λ_=>(eK 0)) (λ_=>b6) (λ_=>(cJ (cQ ak ak)))) (br _)) (ay (aS ma)) bN)
  (ay (cY (bf (xp (xx hr)) (cN (BJ T bn) hr T.lA (sZ (aY bV gY lS) dQ (bg aU (by rfl) T.len aP (c9 cR)))) (cN (FI T bn) hr T.oM (cQ bT (aY bV dQ lS))) (br _)) (ay (aS ma)) bN)))))
  (ay (aS (iL (xp (xx hr)) (cN (pX T bn) hr T.jx (cQ (aY bV dQ ak) cR)) (cJ (cQ ak ak)) (br _)))))),?_]
 walk_at "s"
 try rw[gP]
 have d8:=D.n8;have i4:=D.i4
 have no:∀H',aH H H'->¬DZ mv pt go rows wts=true->Q (.bl false) H':=λH' s n=>by
  have:=k H' s;rwa [Bool.eq_false_iff.mpr n] at this
 obtain rs|gr|qr|_:=id GR;obtain us|gw|qw|_:=id GW;obtain ug|gg|qg:=id Rg;obtain am|ap|al|gt|mn|pn|ln|Gm|Gp|Gl:=id PQ;obtain up|gp|qp|_:=id Gp;have lr:=qr.9;have lw:=qw.9;have lug:=qg.9;have lup:=qp.9;exists c6 λe3 H3 s3 n3 g3=>?_
 exists #[_,_,pH,rows,[],(),(GR.same s3).kind,be.kind (H0:=λ_=>none) #[[],g3,.nil,λz=>nomatch z],?_];by_cases e0:rows=[]
 ·rw[decide_eq_true e0];exists no H3 s3 λz=>(mo.mp z).1 e0
 rw[decide_eq_false e0];have n0:0 < rows.9:=List.length_pos_iff.mpr e0;exists #[_,_,rfl,.inl (bI.of (s3 _ _ gw)),?_];exists #[_,_,rfl,.inl (bI.of (s3 _ _ gr)),?_];rw[<- lr,<- lw];walk_at "w";by_cases e1:wts.9=rows.9
 case neg =>
  rw[decide_eq_false (show ¬((wts.9:Nat):Int)=((rows.9:Nat):Int) by lia)];exists no H3 s3 λz=>e1 (mo.mp z).2.1
 rw[decide_eq_true (show ((wts.9:Nat):Int)=((rows.9:Nat):Int) by lia)];exists #[_,_,rfl,.inl (bI.of (s3 _ _ gr)),?_];rw[<- lr];exists #[(),(),?_];refine eF (n:=rows.9) (λj σ' H'=>aH H H'/\(∀i z ws,i < j->rows[i]?=some z->wts[i]?=some ws->ws.9=rows.9/\(∀b∈pt,cb b z=0)/\((b8 mv mv.9).map λys=>cb ys z)=Ct rows ws mv.9)/\∃y,σ'=[some (.ref r),some (.ref g),some (.ref p),some (.ref q),y]) #[s3,λi z ws h=>absurd h (dw _),_,rfl] ?_ ?_
 ·rintro j σ' H4 hj ⟨s4,ok,y,rfl⟩;obtain z|vz|ez|evz|mz|az|rfl|_|Rz:=eE qr hj;obtain ws|vw|ew|evw|mw|aw|rfl|_|Rw:=eE qw (i:=j) ();obtain uw|guw|quw:=id Rw;have luw:=quw.9;have lz:=hr1 z mz;exists ck (bI.of (s4 _ _ gw)) (eG evw) ?_;exists #[_,_,rfl,.inl (bI.of (s4 _ _ guw)),?_];exists #[_,_,rfl,.inl (bI.of (s4 _ _ gr)),?_];rw[<- lr,<- luw];walk_at "w";by_cases c1:ws.9=rows.9
  case neg =>
   rw[decide_eq_false (show ¬((ws.9:Nat):Int)=((rows.9:Nat):Int) by lia)];exists no H4 s4 λh=>c1 ((mo.mp h).2.2.1 j z ws ez ew).1
  rw[decide_eq_true (show ((ws.9:Nat):Int)=((rows.9:Nat):Int) by lia)];have gt4:=s4 _ _ gt;exists #[#[_,bI.of (s4 _ _ gp)],?_];refine df (K:=K) (as:=pt) (F:=c5 K H0) (bX K) (λb=>cb b z) (s4 _ _ gp) (ca (λ_ _ y=>c5.same y s4) qp) () (λh s=>h.same s) (λh s=>h.same s) ?_ ?_
  ·rintro i b x H5 NY NN eb s5 ⟨u,rfl,_,Rb⟩ k1;have mb:=ar eb;have s45:=s4.trans s5;exists ck (bI.of (s45 _ _ gr)) (eG evz) ?_;exists #[az,u,z,b,rfl,Rz.same s45,Rb,by rw[D.pw b mb,lz],(),(f1 z mz b mb).symm,λd H6 s6 N6=>?_];refine k1 _ _ s6 ?_;rw[zB];exact N6
  rintro ys5 H5 l5 n5 s5 g5 p5 _;have gt5:=s5 _ _ gt4;have s45:=s4.trans s5;exists #[#[_,bI.of (s45 _ _ gp)],?_];refine df (K:=K) (as:=pt) (F:=c5 K H0) (bX K) (λ_=>(0:Rat)) (s45 _ _ gp) (ca (λ_ _ y=>c5.same y s45) qp) () (λh s=>h.same s) (λh s=>h.same s) ?_ ?_
  ·rintro i b x H6 NY NN eb s6 _ k1;exists bS λt0 H7 s7 g7=>?_
   exact k1 _ _ s7 (bX.mk (q:=0) g7 rfl)
  rintro ys6 H6 l6 n6 s6 g6 p6 _;have s46:=s45.trans s6;exists #[_,_,Ei,pt.map λb=>cb b z,pt.map λ_=>(0:Rat),(),cC.kind #[ys5,s6 _ _ g5,ca (λ_ _ y=>bX.same y s6) p5],cC.kind #[ys6,g6,p6],?_];by_cases c2:(pt.map λb=>cb b z)=pt.map λ_=>(0:Rat)
  case neg =>
   rw[decide_eq_false c2];exists no H6 s46 λh=>c2 (dq λb hb=>((mo.mp h).2.2.1 j z ws ez ew).2.1 b hb)
  rw[decide_eq_true c2];have c2':∀b∈pt,cb b z=0:=λb hb=>List.map_inj_left.mp c2 b hb
  exists ck (bI.of (s46 _ _ gw)) (eG evw) ?_;exists #[_,_,rfl,.inl (bI.of (s46 _ _ gg)),?_];rw[<- lug,lg];exists #[_,_,_,rfl,p,aw,mv.9,M,DD,W,B,H1,rows,ws,rfl,GR.same s46,Rw.same s46,c1,r100,(),hr1,M0,D0,tM,tD ws mw,W1,B1,b1,b2,λr7 H7 n7 s7 R7=>?_];have s47:=s46.trans s7;exists ck (bI.of (s47 _ _ gr)) (eG evz) ?_;exists #[r,az,H0,mv,pt,lk,z,rfl,PQ.same s47,D,Rz.same s47,lz,f2 z mz,λr8 H8 n8 s8 R8=>?_];exists #[_,_,Ei,Ct rows ws mv.9,(b8 mv mv.9).map λys=>cb ys z,(),(R7.same s8).kind,R8.kind,?_];by_cases c3:Ct rows ws mv.9=(b8 mv mv.9).map λys=>cb ys z
  case neg =>
   rw[decide_eq_false c3];exists no H8 (s47.trans s8) λh=>c3 ((mo.mp h).2.2.1 j z ws ez ew).2.2.symm
  rw[decide_eq_true c3];exists #[s47.trans s8,λi z' ws' hi h1 h2=>?_,_,rfl];rcases cg i j with hh | hh
  ·exact ok i z' ws' hh h1 h2
  ·have e:i=j:=()
   subst e;rw[ez] at h1;rw[ew] at h2;cases h1;cases h2;exact #[c1,c2',c3.symm]
 rintro σ' H4 ⟨s4,ok,y,rfl⟩;obtain z0|v0|ez|ev|mz|a0|rfl|_|R0:=eE qr n0;exists ck (bI.of (s4 _ _ gr)) (eG ev) ?_;exists #[a0,g,z0,go,rfl,R0.same s4,Rg.same s4,by rw[lg,hr1 z0 mz],by rw[hr1 z0 mz];lia,f4 z0 mz,λd H9 s9 N9=>?_];exists bS λt0 HA sA gA=>?_
 exists #[_,_,Jx,cb z0 go,0,(),N9.same sA,bX.mk (q:=0) gA rfl,?_];have eg:rows.getD 0 []=z0:=by rw[aa,ez];rfl
 have e:DZ mv pt go rows wts=!decide (cb z0 go=0):=by
  rw[kH,mo,eg];simp only[Bool.not_eq_true',decide_eq_false_iff_not];exact #[λh=>h.2.2.2,λh=>#[e0,e1,λi z ws h1 h2=>ok i z ws (aF.mp h1).1 h1 h2,h]]
 rw[<- e];exact k _ ((s4.trans s9).trans sA)
theorem CD:sC ["_law_parts_here","_law_start","_law_goal_here","_law_steps_here","_law_puts_here"] 5 sU:=by walk_at "d"
theorem CV (T:Txt K mg Z) (bn:bv P):T.nC.o P w base 7 (DU K):=by
 refine T.nC.F.k CD ?_;walk_at "i";obtain r|s|g0|p0|tt|H0|H1|mv|pt|lk|pus|st|go|rfl|hT|PQ|D|Rs|ls|Rg|Gp|lp|wp|EF|est|k:=h
 refine #[_,(au (cY (iY (fJ (cN (oi T bn) hr T.gQ (sZ lS gY (bg aU (by rfl) T.len aP (c9 (aY bH bT ak))))))) (ay (aS ma)) bN)
  (ay (aS (iL (zj (xx hr)) (cN (zR T bn) hr T.nR (sZ bT cR lS)) dQ (br _))))),?_]
 walk_at "s"
 try rw[gP]
 have i4:=D.i4;obtain m|p|l|g|n1|n2|n3|Gm|Gpt|Gl:=id PQ;obtain up|gp|qp|_:=id Gpt;have lup:=qp.9;have lm1:(pus.map (List.map nm)).9=tt:=by rw[af];exact lp
 exists #[_,_,rfl,.inl (bI.of gp),?_];rw[<- lup];exists #[p0,_,pt.9,by rw[lm1],Gp.gridK,by rw[lm1];lia,(),λns' hx=>?_,λH2 s2=>?_]
 ·obtain xs|mx|rfl:=aB.mp hx;refine #[by rw[af];exact wp xs mx,λv hv=>?_];obtain v|mv'|rfl:=aB.mp hv;exact KQ (EF.sznP xs mx v mv')
 exists #[r,s,p0,H0,H1,mv,pt,lk,pus,st,rfl,PQ.same s2,D,Rs.same s2,ls,Gp.same s2,(),wp,EF,λt3 H3 n3' s3 R3=>?_];rw[lp,est] at R3;exists #[_,_,Ei,go,go,(),R3.kind,((Rg.same s2).same s3).kind,?_];rw[decide_eq_true rfl];exact k _ (s2.trans s3)
theorem mS:sC ["_law_system_here","_law_parts_here","_law_goal_here","_law_handed","_law_found","_law_steps_here"] 3 sQ:=by walk_at "d"
theorem wM (T:Txt K mg Z) (bn:bv P):T.j7.o P w base 11 (A1 K Z.a_System):=by
 refine T.j7.F.k mS ?_;walk_at "i";obtain x|r|g|a|c|H0|H1|mv|pt|lk|go|rfl|S|PQ|D|SF|KF|Rg|lg|SO|FN|NZ|L|k:=h
 refine #[_,(au (eP 3 mS.nd (eJ (iW K (by rfl)) (by rfl) T.list wv (c9 dQ)))
  (au (eP 4 mS.nd (cN (pV T bn) hr T.jt (cQ bT gY)))
  (au (cY (PW.pt (lZ (iY (fJ (qP rfl T.isinstance Id T.tuple lS))) (lZ (bf ue (bg aU (by rfl) T.len aP (c9 lS)) ak (br _)) (jq (bf (xp (xx hr)) gY dQ (br _)))))) (ay (aS ma)) bN)
  (au (eP 5 mS.nd (cN (BN T bn) hr T.lF (cQ cR dQ)))
  (au (cY (bf VP vf vg (br _)) (au (cY (PW.pt (lZ (bf ue (aY bH lS ak) kU (br _)) (jq (iY (fJ (cN (xZ T bn) hr T.je (sZ (aY bH lS ak) (aY bH lS ak) (bg aU (by rfl) T.len aP (c9 dQ))))))))) (ay (aS ma)) bN)
  (ay (aS (cN (CO T bn) hr T.nk (Jg cR dQ (aY bH lS ak) (aY bH lS ak)))))) bN)
  (au (cY (PW.pt (lZ (bf (xp (xx hr)) (rh Sg lS xV (sW ak)) (cJ (cQ kU vf)) (br _)) (jq (fJ (qP rfl T.isinstance PyProof.Rows.boot_bool T.bool (aY bH lS ak)))))) (ay (aS ma)) bN)
  (ay (aS (cN (CV T bn) hr T.nC (fo cR (Jg (bW ["_law_one"] [] [] (cM dQ) (λ_=>(eK 0)) (λ_=>b6) (λ_=>(cJ (cQ ak ak)))) dQ vf (aY bH lS ak)))))))))))),?_]
 walk_at "s"
 try rw[gP]
 obtain yg|gy|qy:=id Rg;have lyg:yg.9=mv.9:=by rw[<- qy.9,lg]
 have n8:=D.n8;walk_at "w";obtain yc1|gc1|qc1:=id Rg;refine #[g,yc1,rfl,.inl (bI.of gc1),λc1 hc1=>?_];have sc1:aH H (upd H c1 (.lst yc1)):=aH.new hc1;have Rc1:cC K (upd H c1 (.lst yc1)) c1 go:=#[yc1,aN,ca (λ_ _ z=>z.same sc1) qc1];generalize upd H c1 (.lst yc1)=Hc1 at sc1 Rc1 ⊢;clear gc1 qc1;exists Ay (S.same sc1) D SF KF Rc1 lg SO FN λo ds v HB sB FB=>?_
 have s0B:=sc1.trans sB;obtain t5|ys5|rfl|gt5|l5:=FB.tup;exists PM (.tup gt5) (.inr (.inr (.inr rfl))) ?_;rw[show tyB "tuple" (.ref t5) HB=true by unfold tyB;dsimp only;rw[gt5];rfl];exists #[_,_,rfl,.inr (jN.of gt5),?_];walk_at "w";rw[decide_eq_true (show ((ys5.9:Nat):Int)=3 by lia)];exists #[_,_,Ei,go,go,(),(Rc1.same sB).kind,(Rg.same s0B).kind,?_];rw[decide_eq_true rfl];exists #[r,g,H1,mv,pt,lk,go,o,rfl,PQ.same s0B,D,Rg.same s0B,lg,L,FB.fw D lg,λHC sC=>?_];have s0C:=s0B.trans sC;have FC:=FB.same sC;clear FB gt5 l5;cases FC with
 | @inn t p kk pus gt np G S' =>
  exists #[rfl,_,rfl,?_];rw[decide_eq_false (show ¬(Wd (some kk)=V.non) from λz=>nomatch z)];exists Su (jN.of gt) (show 2 < 3 by decide) rfl λp6 H6 s6 g6=>?_
  have s06:=s0C.trans s6;exists bS λt7 H7 s7 g7=>?_
  have s07:=s06.trans s7;have gt7:=(s6.trans s7) _ _ gt;exists #[_,_,XZ Oc Jy,(wP "in",(kk:Int)),(wP "in",(kk:Int)),(),#[p6,_,_,rfl,jN.of (s7 _ _ g6),rfl,rfl],#[t7,_,_,rfl,jN.of g7,rfl,rfl],?_];rw[decide_eq_true rfl];exists PM (.int _) (.inr (.inl rfl)) ?_;rw[show tyB "bool" (V.int (kk:Int)) H7=false from rfl];exists #[#[_,bI.of (s07 _ _ gy)],?_];refine df (K:=K) (as:=go) (F:=λH' (q:Rat) v=>bX K H' q v) (bX K) (λ_=>(0:Rat)) (s07 _ _ gy) (ca (λ_ _ z=>z.same s07) qy) () (λh s=>h.same s) (λh s=>h.same s) ?_ ?_
  ·rintro i xs v H' NY NN _ s' _ k1;exists bS λt Hy sy gy=>?_
   exact k1 _ _ sy (bX.mk (q:=0) gy rfl)
  rintro ys H8 re hre s8 g8 pr8 _;have R0:cC K H8 re (ce mv.9 0):=#[ys,g8,by have:=pr8;rwa [kG,lg] at this];have s08:=s07.trans s8;have gt8:=s8 _ _ gt7;have kn:=S'.1;obtain l1|l2|l3|_|l5:=S'.2.1;exists #[r,re,g,p,kk,H1,_,mv,pt,lk,pus,_,go,rfl,(),PQ.same s08,D,R0,aI ..,Rg.same s08,G.same ((s6.trans s7).trans s8),l1,l2,l5,l3,λH9 s9=>k H9 (s08.trans s9)]
 | @nev t p q i R ps _ _ gt np nq G G' _ _ _ _ _ S' F' =>
  have PW:=NZ R ps i S'.1 S'.2.1;have r10:=PW.r10;have w10:=PW.wl;exists #[rfl,_,rfl,?_];rw[decide_eq_true (show Wd none=V.non from rfl)];walk_at "w";rw[decide_eq_true rfl];exists #[_,_,rfl,.inl (bI.of (s0C _ _ gy)),?_];rw[lyg];exists #[p,q,mv.9,_,_,_,_,rfl,G,G',(),(),PW.wl,λxs hx=>#[PW.rn xs hx,PW.sr xs hx],λxs hx=>#[PW.wn xs hx,PW.sw xs hx],λH6 s6=>?_];have s06:=s0C.trans s6;have gt6:=s6 _ _ gt;exists #[r,g,p,q,H1,_,_,mv,pt,lk,_,_,go,rfl,PQ.same s06,D,Rg.same s06,lg,G.same s6,G'.same s6,(),(),PW.rn,PW.f1,PW.f2,PW.ps,PW.f4,λH7 s7=>?_];rw[Nz KF D S'.1 S'.2.1 S'.2.2.1];exact k H7 (s06.trans s7)
theorem o6:sC ["_law_script","_law_bag_here","_law_parts_here","_law_wide","_law_n","_law_system_here","_law_rest","_law_goal_here","_law_other","_law_found","_law_kept_here"] 1 Pu:=by walk_at "d"
theorem VQ (T:Txt K mg Z) (bn:bv P):qW P w K mg base KD 12 Z.UM Z.UL ["_law_script"] (A5 K):=by
 refine T.UP.k o6 ?_;walk_at "i";obtain a|ns|rfl|hS|hlen|k:=h
 refine #[_,(au (eP 1 o6.nd (cN (Jl T bn) hr T.pZ (c9 bT)))
  (jC (cY (PW.pt (kj (bf fq (cN (bp T bn) hr T.aZ (cQ cR ak)) ak (br _)) (kT (iY (fJ (cN (FO T bn) hr T.oQ (c9 cR))))))) (ay (aS ma)) bN)
  (au (gO (cN (BI T bn) hr T.lh (c9 cR)) (xn rfl (cW (eK 2 o6.nd) (cW (eK 3 o6.nd) jd))))
  (au (eP 4 o6.nd (bg aU (by rfl) T.len aP (c9 (aY bH dQ ak))))
  (au (eP 5 o6.nd (cN (FL T bn) hr T.oP (c9 dQ)))
  (au (jD 6 ["_law_k"] [] [] o6.nd rfl rfl (bU rfl T.range (c9 lS)) (λ_=>(eK 0)) (λ_=>b6) (λ_=>(cJ (cQ ak ak))))
  (au (eP 7 o6.nd (cN (yd T bn) hr T.lE (fo cR (Jg dQ rG (cN (wL T bn) hr T.j6 (cQ cR dQ)) gY))))
  (au (eP 8 o6.nd (cN (yd T bn) hr T.lE (fo cR (Jg dQ rG (cN (wL T bn) hr T.j6 (cQ cR dQ)) gY))))
  (au (eP 9 o6.nd (cN (pV T bn) hr T.jt (cQ vf Ig)))
  (au (eP 10 o6.nd (cN (FR T bn) hr T.eX (c9 (pv 9))))
  (au (jc (cN (CM T bn) hr T.ib (c9 (pv 9))))
  (au (cY (PW.pt (lZ (iY (fJ (cN (wM T bn) hr T.j7 (sZ vf dQ Ig)))) (jq (iY (fJ (cN (wM T bn) hr T.j7 (sZ vf dQ MC))))))) (ay (aS ma)) bN)
  (ay (aS (iL (zj (xx hr)) (cN (pV T bn) hr T.jt (cQ vf Ig)) (pv 10) (br _)))))))))))))))),?_]
 walk_at "s"
 try rw[gP]
 exists #[a,ns,rfl,hS,hlen,λb H0 hb0 B0 s0=>?_];exists #[λσ' H'=>σ'=[some (.ref a),some (.ref b),none,none,none,none,none,none,none,none,none]/\jm H' b/\dk b H0 H',?_,?_]
 ·exists #[b,16,rfl,B0,(),(),λv1 H1 v10 v11 B1 u1=>?_];exists iT (λh0=>?_) (λh0=>?_)
  ·exists #[b,rfl,B1,λH2 B2 u2=>?_];exists #[rfl,B2,u1.trans u2]
  ·exists #[rfl,B1,u1]
 rintro σ' Hs ⟨rfl,Bs,us⟩;exists #[b,rfl,Bs,λt r w a' c mv pt lk H1 g1 P1 D F KF RG w1 w2 B1 u1=>?_];have d8:=D.n8;have d4:=D.i4;obtain m|p|l|gt|mn|pn|ln|Gm|Gp|Gl:=id P1;obtain um|gm|qm|_:=id Gm;have lum:=qm.9;exists #[_,_,rfl,.inl (bI.of gm),?_];rw[<- lum];clear gm qm lum Gm Gp Gl gt;exists #[r,Hs,mv,pt,lk,rfl,P1,D,F.sf,λx H2 nx s2 S2=>?_];replace S2:kI K Hs H2 Z.a_System x mv pt lk:=S2.weakN λq h=>u1.none B1 h
 replace P1:=P1.same s2;have B2:=B1.same s2
 have szE:∀xs∈mv++pt,∀x∈xs,jX x:=λxs hx y hy=>by
  obtain M|V|h0|h1|h2|f1|f2|_:=F;refine Ts h0 (ag h1 (aj () ())) (ag h2 (aj () ())) ?_;rcases av.mp hx with hx | hx
  ·exact f1 xs hx y hy
  ·exact f2 xs hx y hy
 exists #[(),(),?_];refine d6 (n:=mv.9) (bX K) (λ_=>(0:Rat)) () (λa b=>a.same b) ?_ ?_
 ·rintro i H' NY NN hi s' k1;exists bS λt Hy sy gy=>?_
  exact k1 _ _ sy (bX.mk (q:=0) gy rfl)
 rintro ys H4 re hre s4 g4 pr4 _;have R0:cC K H4 re (ce mv.9 0):=#[ys,g4,by have:=pr4;rwa [kG,bB] at this];have reb:re≠b:=λz=>B2.at (by rw[<- z];exact hre)
 have B4:=B2.same s4;replace P1:=P1.same s4;replace S2:=S2.same s4;clear g4 pr4;have l0:(ce mv.9 (0:Rat)).9=mv.9:=aI ..;have d0:∀x∈ce mv.9 (0:Rat),Dr (max w 6) x:=λx hx=>by rw[ox hx];exact #[by show 0<=_;lia,by show 1<=_;lia]
 exists #[b,r,Hs,mv,pt,lk,rfl,B4,Bs.at,P1,D,szE,λtt H5 hT B5 u5=>?_];replace P1:=P1.upto u5 B4 Bs.at;replace S2:=S2.upto u5 B4 Bs.at;replace R0:=R0.upto u5 B4 reb;have T12:=hT.1;obtain M1|M2|Vx|a1|a2|cc|b1|b2|U|HG:=PK RG D hT;exists #[b,r,re,tt,w,Hs,mv,pt,lk,_,rfl,(),w1,w2,B5,Bs.at,P1,D,R0,reb,l0,λpus dp=>U.enf D l0 d0 (ah _) dp,λg go H6 ng Rg lg GP B6 u6=>?_];have gb:g≠b:=λz=>B5.at (by rw[<- z];exact ng)
 replace P1:=P1.upto u6 B5 Bs.at;replace S2:=S2.upto u6 B5 Bs.at;replace R0:=R0.upto u6 B5 reb;obtain ⟨E0,e0,g0,ep,el,fg,eg⟩|SO:=HG go lg (U.gob D l0 lg d0 (ah _) GP);exists #[b,r,Hs,mv,pt,lk,rfl,B6,Bs.at,P1,D,szE,λt7 H7 hT7 B7 u7=>?_];replace P1:=P1.upto u7 B6 Bs.at;replace S2:=S2.upto u7 B6 Bs.at;replace R0:=R0.upto u7 B6 reb;replace Rg:=Rg.upto u7 B6 gb;have T12b:=hT7.1;obtain M1b|M2b|Vb|a1b|a2b|ccb|b1b|b2b|Ub|HGb:=PK RG D hT7;exists #[b,r,re,t7,w,Hs,mv,pt,lk,_,rfl,(),w1,w2,B7,Bs.at,P1,D,R0,reb,l0,λpus dp=>Ub.enf D l0 d0 (ah _) dp,λot to H8 no Ro lo GO B8 u8=>?_];replace P1:=P1.upto u8 B7 Bs.at;replace S2:=S2.upto u8 B7 Bs.at;replace Rg:=Rg.upto u8 B7 gb;obtain ⟨E2,e2,g2,ep2,el2,fg2,eg2⟩|SO2:=HGb to lo (Ub.gob D l0 lo d0 (ah _) GO);obtain N1|N2|Vy|q1|q2|cy|q0|c0|b0|Y0:=Xy RG D (T:=0) #[(),.inl ()];have HP:=λR ps (RR:bo (kry mv pt mv.9) mv.9 R ps)=>Y0.pap D RR
 have HF:=λrows wts E hE (P:xD mv.9 (E+14) (E+14) (q1+E+24) (cy+E+18) rows wts)=>Y0.pf D hE P
 have sz:=Y0.sz;generalize hE:mv.9*((mv.9 - 1)*(q0+c0)+4)=E at HP HF sz;have t1:cy<=cy*(0+1+2):=bZ _ ();have FG:oj e0 g0 go:=#[E0,_,ep,el,ah _,fg];have FG2:oj e2 g2 to:=#[E2,_,ep2,el2,ah _,fg2]
 have N46:∀(e g:Nat) (to:List Rat),oj e g to->e+g<=1900->(∀R ps,bo (kry mv pt mv.9) mv.9 R ps->∀z∈aR R ps mv.9,jW z to)/\∀R ps i,bo (kry mv pt mv.9) mv.9 R ps->i < (aR R ps mv.9).9->Yl mv pt to (bO (aR R ps mv.9) i) ((bO (ki mv R ps) i).map λxs=>bO xs i):=λe g to FT he=>by
  have FN:∀R ps,bo (kry mv pt mv.9) mv.9 R ps->∀z∈aR R ps mv.9,jW z to:=λR ps RR z hz=>#[_,_,e,g,(HP R ps RR).fit z hz,FT,()]
  refine #[FN,λR ps i RR hi=>?_];obtain P|l1|l2|l3:=(HP R ps RR).ahead (i:=i) vS Il hi;obtain f1|f2|fs|_:=HF _ _ E rfl (P.mono () () () ());obtain z1|z2:=fs.sz;exact #[P.rl,by rw[l1,l2],P.rn,λz hz=>by rw[l1];exact l3 z hz,f1,f2,fs,λz hz=>FN R ps RR z (jJ hz),z1,z2]
 obtain FN1|NZ1:=N46 e0 g0 go FG eg;obtain FN2|NZ2:=N46 e2 g2 to FG2 eg2;have L1:=Ej RG D lg ep el fg eg;have L2:=Ej RG D lo ep2 el2 fg2 eg2;have SO1:∀u,u<=mv.9->RI mv pt (ce mv.9 0) go u (OV mv pt (ce mv.9 0) go u) (Mg mv pt (ce mv.9 0) go u):=λu hu=>SO u tt () hT ()
 have SO3:∀u,u<=mv.9->RI mv pt (ce mv.9 0) to u (OV mv pt (ce mv.9 0) to u) (Mg mv pt (ce mv.9 0) to u):=λu hu=>SO2 u t7 () hT7 ()
 clear HP HF sz hE t1 FG FG2 N46 SO SO2 HG HGb U Ub Y0 szE d0 R0;exists Ay S2 D F KF Rg lg SO1 FN1 λo ds v1 H9 s9 FA=>?_
 exists Ob FA D λkt ky HB sB gB KB=>?_
 exists KU FA D sB λHC kC=>?_
 have s8C:aH H8 HC:=λa o h=>kC a o ((s9.trans sB) a o h) (.inl λz=>by rw[z.1] at h;cases h)
 have KC:jp (EJ K H9 HC) ds ky:=ca (λ_ _ z=>EJ.kp z kC λa z y=>y.2 z) KB;have gC:=kC _ _ gB (.inr λ_ z=>nomatch z);clear KB kC gB sB s9;replace P1:=P1.same s8C;replace S2:=S2.same s8C;replace Rg:=Rg.same s8C;replace Ro:=Ro.same s8C;exists #[x,r,g,a',c,Hs,Hs,mv,pt,lk,go,rfl,S2,P1,D,F,KF,Rg,lg,SO1,FN1,NZ1,L1,λHD sD=>?_];replace P1:=P1.same sD;replace S2:=S2.same sD;replace Rg:=Rg.same sD;replace Ro:=Ro.same sD;exists #[x,r,ot,a',c,Hs,Hs,mv,pt,lk,to,rfl,S2,P1,D,F,KF,Ro,lo,SO3,FN2,NZ2,L2,λHE sE=>?_];replace S2:=S2.same sE;replace Rg:=Rg.same sE;have sCE:=sD.trans sE;exists Ay S2 D F KF Rg lg SO1 FN1 λo2 ds2 v2 HF sF F2=>?_
 obtain rfl|rfl:=F2.uniq FA D lg;exists OO.eq (F2.rk ((sCE.trans sF) _ _ gC) (ca (λ_ _ z=>EJ.same z (sCE.trans sF)) KC)) ?_;exact k _
end
theorem XW {P:List Value->Prop} (h:P []):∀us:List Value,us.9=0->P us
 | [],_=>h
theorem Ls {P:List Value->Prop} {n:Nat} (h:∀x us,us.9=n->P (x :: us)):∀us:List Value,us.9=n+1->P us
 | x :: us,e=>h x us (Nat.succ.inj e)
theorem ln1 {P:List Value->Prop} (h:∀x0,P [x0]):∀us:List Value,us.9=1->P us:=Ls λx0=>XW (h x0)
theorem ln2 {P:List Value->Prop} (h:∀x0 x1,P [x0,x1]):∀us:List Value,us.9=2->P us:=Ls λx0=>Ls λx1=>XW (h x0 x1)
theorem ln3 {P:List Value->Prop} (h:∀x0 x1 x2,P [x0,x1,x2]):∀us:List Value,us.9=3->P us:=Ls λx0=>Ls λx1=>Ls λx2=>XW (h x0 x1 x2)
theorem ln4 {P:List Value->Prop} (h:∀x0 x1 x2 x3,P [x0,x1,x2,x3]):∀us:List Value,us.9=4->P us:=Ls λx0=>Ls λx1=>Ls λx2=>Ls λx3=>XW (h x0 x1 x2 x3)
theorem ln5 {P:List Value->Prop} (h:∀x0 x1 x2 x3 x4,P [x0,x1,x2,x3,x4]):∀us:List Value,us.9=5->P us:=Ls λx0=>Ls λx1=>Ls λx2=>Ls λx3=>Ls λx4=>XW (h x0 x1 x2 x3 x4)
local macro_rules | `(tactic| walk_at "b") => `(tactic| (intro _ _ _ _ _ _; first | (refine ln1 ?_; intros; rfl) | (refine ln2 ?_; intros; rfl) | (refine ln3 ?_; intros; rfl) | (refine ln4 ?_; intros; rfl) | (refine ln5 ?_; intros; rfl)))
theorem all_mk {l:W.OpenLaw} {K:W.Frag} {e0 e1 e2 e3 e4 e5 e6 e7 e9 e10 e11 e12 e13 e14 e15 e16 e17 e18 e19 e20 e21 e22 e23 e24 e25 e26 e27 e28 e29 e30 e32 e33 e34 e35 e36 e37 e38 e39 e40 e41 e42 e43 e44 e45 e46 e47 e48 e49 e50 e51 e52 e53 e54 e55 e56 e57 e58 e59 e60 e61 e62 e63 e64 e65 e66 e67 e68 e69 e70 e71 e72 e73 e74 e75 e76 e77 e78 e79 e80 e81 e82 e83 e84 e85 e86 e87 e88 e89 e90:dL}
 
  (X:K.In h) (G:h.Ns xz mg) (hfa:mg "law"=some (.ref fa)) (htree:l.prog.given.tree=none)
 (aC:WP K xz "System"=some (some (.ref C)))
  (h0:Dh K "_law_bag" xl f0 e0)
  (h1:Dh K "_law_take" uM f1 e1)
  (h2:Dh K "want_list" uG f2 e2)
  (h3:Dh K "is_whole" xf f3 e3)
  (h4:Dh K "common_divisor" mB f4 e4)
  (h5:Dh K "is_number" uK f5 e5)
  (h6:Dh K "is_row" Bn f6 e6)
  (h7:Dh K "copied_rows" qH f7 e7)
  (a8:W.findIn K (.ref C) "__init__"=some (some (.ref f8))) (i8:W.isFn K (.ref f8)=true) (l8:K.lookup f8=some #[oc8,od8,.func (W.fnOf "__init__" "System.__init__" (oU fk) (ke fk) (fD fk) .none kV8 dc8 pm8 an8 cd8 ct8),sl8]) (c8:W.codeIn K cd8 "System.__init__"=true) (k8:W.keepIn K (.ref f8)=true)
  (h9:Dh K "tops_over" uI f9 e9)
  (h10:Dh K "common_multiple" kS f10 e10)
  (h11:Dh K "common_bottom" nZ f11 e11)
  (h12:Dh K "first_with" sH f12 e12)
  (h13:Dh K "cleared" y7 f13 e13)
  (h14:Dh K "brought_up" sL f14 e14)
  (h15:Dh K "swept" Fi f15 e15)
  (h16:Dh K "lowest" Bm f16 e16)
  (h17:Dh K "reduced" yV f17 e17)
  (h18:Dh K "row_dot" yU f18 e18)
  (h19:Dh K "grid_on" yZ f19 e19)
  (h20:Dh K "moved_rows" rY f20 e20)
  (h21:Dh K "reach_grown" qD f21 e21)
  (h22:Dh K "flat" K6 f22 e22)
  (h23:Dh K "additions" uL f23 e23)
  (h24:Dh K "nought_row" rX f24 e24)
  (h25:Dh K "solved" Bl f25 e25)
  (h26:Dh K "grid_turned" qF f26 e26)
  (h27:Dh K "solve" Fj f27 e27)
  (h28:Dh K "weights_for" qC f28 e28)
  (h29:Dh K "minus" Fm f29 e29)
  (h30:Dh K "row_minus" uJ f30 e30)
  (a31:W.findIn K (.ref C) "moved"=some (some (.ref f31))) (i31:W.isFn K (.ref f31)=true) (l31:K.lookup f31=some #[oc31,od31,.func (W.fnOf "moved" "System.moved" (oU iq) (ke iq) (fD iq) .none kV31 dc31 pm31 an31 cd31 ct31),sl31]) (c31:W.codeIn K cd31 "System.moved"=true) (k31:W.keepIn K (.ref f31)=true)
  (h32:Dh K "course" Bo f32 e32)
  (h33:Dh K "nothing_for" qE f33 e33)
  (h34:Dh K "lacking" yY f34 e34)
  (h35:Dh K "cut" Pw f35 e35)
  (h36:Dh K "come" K7 f36 e36)
  (h37:Dh K "soonest" yT f37 e37)
  (h38:Dh K "reach_rows" rW f38 e38)
  (h39:Dh K "unit_row" xa f39 e39)
  (h40:Dh K "leading_place" nY f40 e40)
  (h41:Dh K "leading" yX f41 e41)
  (h42:Dh K "null_at" yW f42 e42)
  (h43:Dh K "free_places" qG f43 e43)
  (h44:Dh K "nulls" Fl f44 e44)
  (h45:Dh K "grid_times" rZ f45 e45)
  (h46:Dh K "taken_over" rV f46 e46)
  (h47:Dh K "unsteered" uH f47 e47)
  (h48:Dh K "brought_ahead" oa f48 e48)
  (h49:Dh K "shut_off" xc f49 e49)
  (h50:Dh K "_law_long" uW f50 e50)
  (h51:Dh K "_law_sizes" oz f51 e51)
  (h52:Dh K "_law_line" uX f52 e52)
  (h53:Dh K "_law_low" xi f53 e53)
  (h54:Dh K "_law_number" qK f54 e54)
  (h55:Dh K "_law_row" xh f55 e55)
  (h56:Dh K "_law_move" uU f56 e56)
  (h57:Dh K "_law_sum" xg f57 e57)
  (h58:Dh K "_law_plus" uQ f58 e58)
  (h59:Dh K "_law_prod" uP f59 e59)
  (h60:Dh K "_law_by" y9 f60 e60)
  (h61:Dh K "_law_mixed" sS f61 e61)
  (h62:Dh K "_law_parts" sR f62 e62)
  (h63:Dh K "_law_system" qI f63 e63)
  (h64:Dh K "_law_copied" qN f64 e64)
  (h65:Dh K "_law_made" uV f65 e65)
  (h66:Dh K "_law_dot" xk f66 e66)
  (h67:Dh K "_law_on" y8 f67 e67)
  (h68:Dh K "_law_next" uS f68 e68)
  (h69:Dh K "_law_end" xj f69 e69)
  (h70:Dh K "_law_puts" uO f70 e70)
  (h71:Dh K "_law_goal" vd f71 e71)
  (h72:Dh K "_law_steps" sN f72 e72)
  (h73:Dh K "_law_kept" va f73 e73)
  (h74:Dh K "_law_spoil" sO f74 e74)
  (h75:Dh K "_law_added" sV f75 e75)
  (h76:Dh K "_law_quot" uN f76 e76)
  (h77:Dh K "_law_less" uY f77 e77)
  (h78:Dh K "_law_minus" sT f78 e78)
  (h79:Dh K "_law_lean" uZ f79 e79)
  (h80:Dh K "_law_fewest" qM f80 e80)
  (h81:Dh K "_law_is_number" mD f81 e81)
  (h82:Dh K "_law_is_row" qL f82 e82)
  (h83:Dh K "_law_is_grid" o9 f83 e83)
  (h84:Dh K "_law_rows_well" mC f84 e84)
  (h85:Dh K "_law_summed" qJ f85 e85)
  (h86:Dh K "_law_over" uR f86 e86)
  (h87:Dh K "_law_shuts" sP f87 e87)
  (h88:Dh K "_law_leads" sU f88 e88)
  (h89:Dh K "_law_right" sQ f89 e89)
  (h90:Dh K "law" Pu f90 e90)
 (ca0:WP K xz "NOUGHT"=some (some (.ref m0))) (cl0:K.lookup m0=some #[.type "tuple",mo0,.seq [.int 0 mt0_0,.int 1 mt0_1].toArray mn0,ms0])
 (ca1:WP K xz "ONE"=some (some (.ref m1))) (cl1:K.lookup m1=some #[.type "tuple",mo1,.seq [.int 1 mt1_0,.int 1 mt1_1].toArray mn1,ms1])
 (ci0:WP K xz "MOST_STATES"=some (some (.int 8 it0)))
 (ci1:WP K xz "MOST_PUTS"=some (some (.int 4 it1)))
 (ci2:WP K xz "MOST_LOOKS"=some (some (.int 4 it2)))
  (pg:W.plainGet K C Str.empty=true) (hd:W.hasDictIn K C=true) (po:W.plainOver K C=true) (sa:W.findIn K (.ref C) "__setattr__"=some (some (.builtin "object.__setattr__"))) (mk:W.makesIn K C=true) (kc:W.keepIn K (.ref C)=true)
  (n_move:W.findIn K (.ref C) "move"=some none)
  (n_states:W.findIn K (.ref C) "states"=some none)
  (n_put:W.findIn K (.ref C) "put"=some none)
  (n_ins:W.findIn K (.ref C) "ins"=some none)
  (n_look:W.findIn K (.ref C) "look"=some none)
  (n_outs:W.findIn K (.ref C) "outs"=some none)
  (z_abs:WP K xz "abs"=some none)
  (z_len:WP K xz "len"=some none)
  (z_isinstance:WP K xz "isinstance"=some none)
  (z_list:WP K xz "list"=some none)
  (z_int:WP K xz "int"=some none)
  (z_bool:WP K xz "bool"=some none)
  (z_tuple:WP K xz "tuple"=some none)
  (z_all:WP K xz "all"=some none)
  (z_enumerate:WP K xz "enumerate"=some none)
  (z_range:WP K xz "range"=some none)
  (z_zip:WP K xz "zip"=some none)
  (z_sum:WP K xz "sum"=some none)
  (z_reversed:WP K xz "reversed"=some none)
  (z_min:WP K xz "min"=some none)
  (z_max:WP K xz "max"=some none)
  : ∃fd:dL,(∀(s:nw) (v:Value),BindsTo s fd #[[v],[]] [("_law_script",v)])/\∀base:Heap,K.In base->base.Ns xz mg->qW l.prog w K mg base KD 12 fa fd ["_law_script"] (A5 K):=by
 have e:=hfa.symm.trans (W.mg_of X G h90.a);cases e;obtain _|_|_|_|_|_|_|_|_|rfl|_|_:=h90.F.ex;have F8:=LF (st:=fk) l8 c8 k8;have F31:=LF (st:=iq) l31 c31 k31
 have T:Txt K mg #[f0,_,f1,_,f2,_,f3,_,f4,_,f5,_,f6,_,f7,_,f8,_,f9,_,f10,_,f11,_,f12,_,f13,_,f14,_,f15,_,f16,_,f17,_,f18,_,f19,_,f20,_,f21,_,f22,_,f23,_,f24,_,f25,_,f26,_,f27,_,f28,_,f29,_,f30,_,f31,_,f32,_,f33,_,f34,_,f35,_,f36,_,f37,_,f38,_,f39,_,f40,_,f41,_,f42,_,f43,_,f44,_,f45,_,f46,_,f47,_,f48,_,f49,_,f50,_,f51,_,f52,_,f53,_,f54,_,f55,_,f56,_,f57,_,f58,_,f59,_,f60,_,f61,_,f62,_,f63,_,f64,_,f65,_,f66,_,f67,_,f68,_,f69,_,f70,_,f71,_,f72,_,f73,_,f74,_,f75,_,f76,_,f77,_,f78,_,f79,_,f80,_,f81,_,f82,_,f83,_,f84,_,f85,_,f86,_,f87,_,f88,_,f89,_,fa,_,m0,m1,it0,it1,it2,C]:={
  pZ:=h0.D X G
  aZ:=h1.D X G
  jE:=h2.D X G
  nQ:=h3.D X G
  fu:=h4.D X G
  oH:=h5.D X G
  vX:=h6.D X G
  iu:=h7.D X G
  lK:=F8.binds (ps:=["self","move","put","look"]) λ_ _ _ _ _ _=>by refine ln4 ?_;intros;rfl
  qi:=F8
  jF:=h9.D X G
  iM:=h10.D X G
  fP:=h11.D X G
  mY:=h12.D X G
  tG:=h13.D X G
  mZ:=h14.D X G
  vv:=h15.D X G
  mK:=h16.D X G
  pC:=h17.D X G
  mJ:=h18.D X G
  pF:=h19.D X G
  j5:=h20.D X G
  ju:=h21.D X G
  AB:=h22.D X G
  oI:=h23.D X G
  ia:=h24.D X G
  rz:=h25.D X G
  fZ:=h26.D X G
  yh:=h27.D X G
  kZ:=h28.D X G
  vA:=h29.D X G
  oG:=h30.D X G
  uf:=#[a31,i31,k31]
  vK:=F31.binds (ps:=["self","state","puts"]) λ_ _ _ _ _ _=>by refine ln3 ?_;intros;rfl
  vR:=F31
  vY:=h32.D X G
  jv:=h33.D X G
  tF:=h34.D X G
  FX:=h35.D X G
  AE:=h36.D X G
  tz:=h37.D X G
  mW:=h38.D X G
  pY:=h39.D X G
  jG:=h40.D X G
  pE:=h41.D X G
  tE:=h42.D X G
  jw:=h43.D X G
  yi:=h44.D X G
  mX:=h45.D X G
  mV:=h46.D X G
  oF:=h47.D X G
  fQ:=h48.D X G
  jt:=h49.D X G
  oQ:=h50.D X G
  nh:=h51.D X G
  oR:=h52.D X G
  eY:=h53.D X G
  lB:=h54.D X G
  iG:=h55.D X G
  oO:=h56.D X G
  iF:=h57.D X G
  jH:=h58.D X G
  iN:=h59.D X G
  iO:=h60.D X G
  nB:=h61.D X G
  nA:=h62.D X G
  lh:=h63.D X G
  iw:=h64.D X G
  oP:=h65.D X G
  jx:=h66.D X G
  pG:=h67.D X G
  oN:=h68.D X G
  nR:=h69.D X G
  oK:=h70.D X G
  lE:=h71.D X G
  j6:=h72.D X G
  eX:=h73.D X G
  ib:=h74.D X G
  nF:=h75.D X G
  oJ:=h76.D X G
  oS:=h77.D X G
  j8:=h78.D X G
  lC:=h79.D X G
  lF:=h80.D X G
  jf:=h81.D X G
  lD:=h82.D X G
  gQ:=h83.D X G
  je:=h84.D X G
  lA:=h85.D X G
  oM:=h86.D X G
  nk:=h87.D X G
  nC:=h88.D X G
  j7:=h89.D X G
  UP:=h90.F
  abs:=EQ X G z_abs
  len:=EQ X G z_len
  isinstance:=EQ X G z_isinstance
  list:=EQ X G z_list
  int:=EQ X G z_int
  bool:=EQ X G z_bool
  tuple:=EQ X G z_tuple
  all:=EQ X G z_all
  enumerate:=EQ X G z_enumerate
  range:=EQ X G z_range
  zip:=EQ X G z_zip
  sum:=EQ X G z_sum
  reversed:=EQ X G z_reversed
  min:=EQ X G z_min
  max:=EQ X G z_max
  mg_NOUGHT:=W.mg_of X G ca0
  sq_NOUGHT:=λH=>.inr #[_,_,_,cl0,rfl,rfl,kK rfl,.cons #[_,rfl] (.cons #[_,rfl] (.nil))]
  mg_ONE:=W.mg_of X G ca1
  sq_ONE:=λH=>.inr #[_,_,_,cl1,rfl,rfl,kK rfl,.cons #[_,rfl] (.cons #[_,rfl] (.nil))]
  mg_MOST_STATES:=W.mg_of X G ci0
  mg_MOST_PUTS:=W.mg_of X G ci1
  mg_MOST_LOOKS:=W.mg_of X G ci2
  mg_System:=W.mg_of X G aC
  cl_System:=#[pg,hd,po,sa]
  na_move:=n_move
  na_states:=n_states
  na_put:=n_put
  na_ins:=n_ins
  na_look:=n_look
  na_outs:=n_outs
  mk_System:=#[mk,a8,i8,kc] }
 exact #[_,λs v=>.of_eq rfl,λbase _ _=>VQ T htree]
theorem walk {l:W.OpenLaw} {K:Params->W.Frag} (hn:l.most=some 63) (hdf:d.params.defaults=[])
  (hi:PyProof.Rows.importsNone q=true)
  (hY:∀(w:Uf) (h:Heap),YP w h->(K w.params).In h)
  (F:∀(w:Uf) (mg:Str->Option Value) (fa:Addr) (h:Heap),(K w.params).In h->h.Ns xz mg->mg d.name=some (.ref fa) →
   ∃fd:dL,(∀(s:nw) (u:Value),BindsTo s fd #[[u],[]] [("_law_script",u)])/\∀base:Heap,(K w.params).In base->base.Ns xz mg->qW l.prog w (K w.params) mg base KD 12 fa fd ["_law_script"] (A5 (K w.params))) :
  W.WalkO q loose XP YP l.row.toRowW d [] (λf vs=>PySem.call f vs) :=
 L2.RS (n:=63) (k:=12) (x:="_law_script") (CX:=λ_=>KD) (sp:=λw=>A5 (K w.params)) hn () hdf #[rfl,(),()] hi hY F (λ_ _ a ns hl _ hS=>#[a,ns,rfl,hS,hl,λ_=>rfl]) λ_ _ _ _ _ z=>z
end Lw
namespace PySem.W.Fast
local macro_rules | `(universe $x*) => do
 let c ← x.mapM fun y => `(def $(Lean.mkIdent (.mkSimple s!"tw{(y.getId.toString.drop 1).foldl (fun a c => a*62+(if c.isDigit then c.toNat-48 else if c.isLower then c.toNat-87 else c.toNat-29)) 0}")):ident:=1)
 return Lean.mkNullNode c
universe a8FnbGWTkS66 ad7KsdCjsBHj afYH42LSG88s ae1HaJtfVz3g al3pubVkSpBZ akj4XzZisIp2 ahNbGyyxZkZR adhCWChphMwX a4kZEUKe59vv ajJfIW94wHmp abocOEdFWsGa adIbkuW8ju8v abttZkU9ePZk afKsbgs6bcdg afcTlMjWmJqa ajRmSZpe4ZZd a5x86ipNC91Z ajngqYrfEIze alhmM1pp209m abZtpoHjmia6 aanZVi8ItdTt a8xpNmL4IaWE acWbu6d9uJzX a2B9zjszWfyP a468zaH50P9x ajPAGWJAo304 agsgMHc9fuos aitW3RPOC5lD a6WC2BC3cFNk a4kCIa4y9Iqa a5uxiAovCtIr a2MvGUUjcvRe a1w7uX3a9B3b a7PPzBm180c1 ahPi89930l5A afNE1nkKbUFn abBDWvhmwCb1 a1kMw7I5yXfK aedC61D6ALur a8i2ZGcHViBV a5e2VF10kw0K a9UGlqSKTCtV aiAIvtLWFwpP aagFdyzjXiP0 a1TXcTLw1oGu ahZe3GHlwYD3 ajASudlUCt9a acILNJeQk8sN airXKspa0FKZ a7BOu0lj1qis a1MqOB8xvVcr aliniD0rLMHN a4btFIzX5127 ajlv6DkBp2un abNrKsro9QUV a8ua8EkrMrjm ajymwuoek87v a7ywBSPRULFS aimdKWDuOCUV a8kleM6usg8z aigCKfC4kVlJ ajkNfjZfkrVc agQrzv0cvjAM aggxCBTdy2Vu alEprlNzUtf4 a4brgpcDRVgH a2TDBdBPUQTr akFCc042ZNsK ajnJCIsPqYoM aceuadWSUe2W a4nH4VRYNV1O afq6vzQMMjEo a5I7bnN9zw3y asTa07lsc1g ahrdo4TrBZs8 a5bOhp9JqxeG ahXaqmksxc4S a3DkrEEAlUYo agnWZ7mNnZk9 a4MQ4R0SCCGU agF7h9oqsJnL a776ZXX6eR8u aj3osrWtU6jM a6rU6wkECbQv ajyz6HFP5eL afwx8yw2fPub a6jH1cvQEcU9 aenmALgGks3A a7fc53jl4UY8 aawfHDZnMs3Z absd7z8y3u7S ai5qYmsPn4HT a9waaE6inu4e a7krAzoMZZMg a77a1jmGqxa8 aa4ZhWgPSYDh a4DxyfJ4JzHd a6HNYI6G7jln aezU4Q6gzRem a6OltwknUf8L alsfT8heT1u0 a6fRoccnlAx6 afDzk3iBfTSO a1yxlzhVSD5V a5vbk1tbbmlh a2M82G8TJEid a8hropQvx2jM a3yzUm2OfjrV afZCBYtFYxNw a43nyx367L1r a6B0szMuv5ST a4Z07aGAphf3 afNGlnF0X63s a6epXJ3MAysd al70lChY7lsO aiHgkZZ2xvsO agzyqzoZwz5m alMd6U9kBWXo agK0XllBOrtc acwJLau8xJcT alfAhK5gFWnM aT0U4xA59yb aiuBcwEq7m61 a2m118HXchIw aePu6eHvtUoh a8ky9ibMGDNu aeY9x5metN4z achh49viGntu afbm0TE0K1BO a3FsgqqmoIOO a7THlzgmdNX5 ag2JRWUVMU6Y aimP0syrUqw6 a36xz78KIMRz a9YNU5DQD6bY a93oLnBpbeIR agFxapLgh6Ib acUtZjFW0jpo a7RZbIVhL3kJ a604JSNHu6LU a53EoF87ZM8u a8b4B6JDqe7Z afLG7skeJ7Xe aj38DUU6AWnL a33vXPf8NoZp a7w4fTLsYpIi anWgnyEQ60W ah8xWd6KDGUX ae5HuPoz5ZnF a54vVR45Jy4e a5mpU6SoBKTG a2UyD5YQNNXF a4wyAViaTscC a8NOdnQH779 ajGIsSiiLYOy ae7Fcd5nrqMY agXyaSquyn04 a4yE7e7WToAD a2iYHDnkYqZd a2a5QRakaf4O a4VHOWZTcSKd acIO030EtYzC ainApnf3gqAd a1bF0GocgE7m adGgUMJ4pzDq adBEQQc7A7AQ a1pi0G9eGcLv a2X79k70sGb7 ak5Qr9wPmaso a89ERkF3VlWC afyl0lqIB8EI ag0OrezAxPet a5nHs11yum5i abaNYBosKTMB a4eOH6SO2PiS a3g7CcXNvUjr acm0pyAUSoMX alRj1ZRD57PX agGUB5zAw10M al8xu4RqGyFV aiQqCs7Md3bD aeHOetf8YyhW adVObHqjwXK0 a8JctuAvPgrS alKkTZLSoI3N agXWqLTlcNU0 a6jRHTIvjxmW ajMFHbTctu0I a3BropghNKVc alFYdZpiDhsr ahs1nOwc3fEn a2iPvsFFR6if a3C8khymxaVO ajA67QQdMyV3 a4I32OhXI1bc acOHJ0UHmxmm a2MBtF0AQQVo aj51Fm5k6DOY a19RIJyaRWin a8iJp8H1xA4M alepWLdXe7NA agAmLDNhh3Tt adaoZAtaqHtG a5O57cUqvCf a6wCoi1XOE9P ali6BejPexMK aj6um1cQEHAd aaGm3S8lWRYh a5ymG6I9WbNd ahQH2cGL02oe a4exZVAqDfQL a8ZFOKH66ygv aeleHN5APsfX aXLfcO9lWDu a8rqx82nTaVL adz6NeIxRfFB adFFVtZhGfk9 a8RWCCgCEyfS aj2Ji7lxCdsP aern9NR1AwGO a27p0cPbcJRp ag6DOlrvQbXx a5XmpD9WJSoD alaq2imZbiuL a4xwt76zZgbv a2qL2EzQ8kHa a1BI6WjlxJ70 ajXftGxuCKtJ a4D4t6V7YHiq aa0oJAuxLzgm akfZVGWDVULP abX3cH7TjE4w abserY3W2jNH afbinmxK24Mr abSXSIDGoHkr a3CctuTcjmTW aitrGspD1t6N a7RChRyF5R6B akTpo7bKbypd ak2WJ15Nbzh6 agfv5gYCsnhA a4RHwkO3sGkl adx2XRFrnkbQ age7XU8FxlnO a79mWdLKNMem aeIJcyDbGdzo afwKJRWRdIk abtA2O16X3uk abV2EKWwUzq6 aiopuY036CyK ai2XQJ1sSKXp a8dWNUZSgAz a18lQzl8Mxg4 ahfiYcvNudSf a1CSuH1AaiD7 ahFNElEOHd4z afG7ycKoKqrQ a7MBdKDAdrek aUc66Vag9fY aePraHUMxDaC agZBoMyuFsOo abxc18IGNL0o a19afnuSRQ8M adZCg54TVPOP aaBr1SmW6lpG afov7wyUwwwa a6weAafNeWsP a6fCsMzGVEMf accvVUJhiN22 aeue3uRTLQxw aqbjvm4sQ3e apdyxEvGj62 a7VFUZoEeXLm acRS2jXX8hOh a26QGspp4nRi a8OctLS3Gsx6 a7xwZK10obrW a22NZnjawCBt adqtPqM3o6TX a5b4irmgijQ2 ac5keFP55QRd adoRqOfIL2hj afptIcJ18Znq afYG7NwG5CVg ajn1GtKK5RbM afkqbdeU3Nvu aeNNAb0EhB59 aaLnQUOeZggS a8UmZ1GltPQo a2HuysQ9n5j7 a3MQfAQfWk9w aay5dYsRfvq1 a3eut7vbHhQX a9aWvG3NVGgB aixP9ojL7JX a4VlMjzBcRBG adFxDqrt45j1 aawZrQJboToL akRJpFOzvRKD ac2HdGvafO5m a8MshUqeC0XA a3rF2kXRkF6p akPkfgR75Mle ahIa9XC6gjA8 aiuNsO5FUfeO a5DGoCq6Cdxm a7OlpA6sXtZe a17kSZnSMajD alVmKXbT7cDs afwDF5KWpl6Q a65iVO64SRVX aaZ126utNyFS agN1MFAfareq a4NdljOLdTxt a5FuuCVXJYOG a9zYmouqgXEc a4GWA3fb7yqB af6rxEw6FRdJ al6xdR1Ev86k akexOoWQ03BB a98HmOOHFvlL acJhxNwFPcQz a4Gp7sSJdKBG a75movfbUzOg a6dppPdf9zKL a21r1PwrPjES acAy64h8WgGq a8gvIWvaje5O a5Eerf26hNIX agrQZBlY5I5K ag2eg44VQADe alg9edmUQRpu a3zpP9aT6LIH a5DxuLpXQHJC a6R2u8pvH7tr a8XgVDfb7joy auO2iVn2pWv aeCBhuxeuDwd ac7LeJ9ABwh2 a5zqNXfFdVre ab5prTnIFMUq ajziIerVtPe0 abj52pECDGcl aiIhT29wYuAT a4bsU2karhHp a8X220bgZRxu akFkpSA63T8c a7fd9bcNX5w8 aly9sox6XTai acuBMnqq84YV afDOh92D3lgb ajdeuaqnLd8I a3CvZndSwv4M a9Oa1dFVxfBW altlrxcrAxop akYdO9sEnq4p ajgXp0sIc52Q akyGjWsTHG7s a13gwIJV6rC7 adcjXQp9yon5 akJM6t36vgec a2mEIK7597nv alFyUdIyjaVv a6YBrOyk5lZO ajh3WcyxzGJk ahnUwbWxwTvX a12O1kgxxjZc a4UlW1s16dN4 a3To9NVMPQtp acBVu7cLzT4B a22Hy4OZfz1U aaP9PH4h0r9A a3pE2AKJGXag a7poYGS9AWW1 alo5Wi1bMu0q aey6Djmgi8JO ajYUtulQJTkm abF0i4eL7MEd a9UnbvAilAty a9AlWbd9ct3e alQ68I5HM2zf al29e8iBUo0J aeTTShRqWqAf a9wP9pj5WBPI aPKlT5GTlrS a3cDRBcFOdPN ahkuxwoELWWP ahO0od6VEq8q ajBv5MlOAvep a12vynquHxYG a7VtC5AutYft a3HN0HperA9C aipqZ3Q6L7eZ a4y9xITYmn6h a3p0P09zK1vE ac5SF1B96R9I aStvHL4AuPO a7NUOy6oju6A adO2r6kC2S0v agpxRIrZMeTW aaYCM8c0YZfr aiVCrShDm98l alRthihLG5kz ajO5UPKGL1lZ ajC5MM7YaTMy a2py5zuxPFgw ajUdgzCWkGdm ahDZ0e0NbMpZ a1sGgLDYxDvr a6Yen8agrfpM aayZtL6lpqZb aeKs8yS8T9KJ a102OoyO4kmc af0NmcsNkgCK afewH8wWn0s7 agRuH7b8VIzY ai9EqwQKcHNI a3IjlLL7bHBB a9XTzOdePeWB a25iaCvTuPSf ajICgudq3Gm3 af7nuIOH03F5 afOb5iIgAYzy a2DCsfFHPcfQ a1TsPShuphxM a7v61LFJGZy7 a9XsmZozEjFs a28pQI1yRhUS ail49tClsGZ2 afw9glsjIIzi alnoeUHCRTj0 ae2xqrruIaby aaSgWA3BiXzz aTzKmG2ZBK2 a64izKFUZyxU a610XTGXnU3h a20B0W55HvDp abhPhFHdUB3Y a4ck2amsKumm abeW3c124Myu a3c4m0Jk4fV9 a8L5GnhCTt7K a92JbAsBIGus ahDGCoR5L3YV agB306p3QR8u agZJgTzSk24a aaDAl9ZgMkSi ag8qhgARyKpI a3o43OQbvoxu a48yvPzYste8 a8a41jxE2TSi ak9XiU3nMIIa a46lb5UBf1Ad a2mDjVFRCP0D adKrlQgpZhVz akhkD85sgGvR a2fyOu4v1oK4 ahFj0X5vxTmI a9pM5MFmLMjg a2fFmGUd0oQR
theorem te7274478475095920098:True:=trivial
end PySem.W.Fast
open PySem PySem.W PyProof.Rows
set_option maxRecDepth 100000 in
set_option maxHeartbeats 0 in
theorem PySem.Challenge.cw_helmsum_k46_shut_off_holds : PySem.Challenge.rw_helmsum_k46_shut_off.Holds := by
 w_on;o_law;k_head;(case hw=>w_witness2)
 k_fill
 refine Lw.walk (l:=PySem.Challenge.rw_helmsum_k46_shut_off) rfl rfl ?hi (λw h Y=>PySem.W.kIn_of Y) ?F
 case hi=>decide +kernel
 case F =>
  intro w mg fa h KX G hmg;refine' Lw.all_mk KX G hmg rfl ?aC ?_ ?_ ?_ ?_ ?_ ?_ ?_ ?_ ?a8 ?i8 ?l8 ?c8 ?k8 ?_ ?_ ?_ ?_ ?_ ?_ ?_ ?_ ?_ ?_ ?_ ?_ ?_ ?_ ?_ ?_ ?_ ?_ ?_ ?_ ?_ ?_ ?a31 ?i31 ?l31 ?c31 ?k31 ?_ ?_ ?_ ?_ ?_ ?_ ?_ ?_ ?_ ?_ ?_ ?_ ?_ ?_ ?_ ?_ ?_ ?_ ?_ ?_ ?_ ?_ ?_ ?_ ?_ ?_ ?_ ?_ ?_ ?_ ?_ ?_ ?_ ?_ ?_ ?_ ?_ ?_ ?_ ?_ ?_ ?_ ?_ ?_ ?_ ?_ ?_ ?_ ?_ ?_ ?_ ?_ ?_ ?_ ?_ ?_ ?_ ?_ ?_ ?ca0 ?cl0 ?ca1 ?cl1 ?ci0 ?ci1 ?ci2 ?pg ?hd ?po ?sa ?mk ?kc ?n_move ?n_states ?n_put ?n_ins ?n_look ?n_outs ?z_abs ?z_len ?z_isinstance ?z_list ?z_int ?z_bool ?z_tuple ?z_all ?z_enumerate ?z_range ?z_zip ?z_sum ?z_reversed ?z_min ?z_max
  all_goals try refine' Yf ?_ ?_ ?_ ?_
  all_goals try k_is