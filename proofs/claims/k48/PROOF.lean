import PyProof.Rows.All
import Wide.All
import OpenK.AllK
import Wide.FinOn
import Lean
import PyProof.EqAt
import PyProof.EqKinds
import PyProof.TupleCall
import PyProof.NeKinds
import PySem.Challenge.RW_helmsum_k48_whole_never_come_to
set_option Elab.async false
set_option linter.all false
set_option maxRecDepth 100000
abbrev ND9:=@List.Nodup PySem.Str
abbrev aa:=@List.getD_eq_getElem?_getD
abbrev af:=@List.getElem?_eq_getElem
abbrev ai:=@Nat.le_trans
abbrev aj:=@List.length_map
abbrev ak:=@Nat.le_refl
abbrev au:=@List.length_append
abbrev ax:=@Nat.pow_le_pow_right
abbrev ay:=@List.mem_of_getElem?
abbrev az:=@Nat.mul_le_mul_right
abbrev aA:=@List.mem_append
abbrev aD:=@List.length_replicate
abbrev aE:=@List.mem_map
abbrev aF:=@List.getElem?_eq_some_iff
abbrev aG:=@List.getElem?_map
abbrev aI:=@List.take_of_length_le
abbrev aJ:=@List.getElem_mem
abbrev aK:=@Nat.mul_le_mul
abbrev aM:=@Nat.mul_le_mul_left
abbrev aN:=@List.mem_cons
abbrev aT:=@Rat.intCast_natCast
abbrev aU:=@Nat.le_of_lt
abbrev aV:=@List.getElem?_eq_none
abbrev aY:=@List.size_toArray
abbrev aZ:=@List.getElem?_append_right
abbrev a8:=@Nat.pow_add
abbrev be:=@Rat.intCast_mul
abbrev bf:=@List.length_singleton
abbrev bg:=@PySem.boot_len
abbrev br:=@List.not_mem_nil
abbrev bu:=@Nat.zero_le
abbrev bA:=@Bool.false_ne_true
abbrev bB:=@List.length_cons
abbrev bD:=@List.getElem?_append_left
abbrev bG:=@List.mem_append_right
abbrev bK:=@Nat.lt_of_lt_of_le
abbrev bL:=@Nat.lt_of_le_of_lt
abbrev bO:=@List.getElem_of_mem
abbrev bQ:=@Nat.mul_pos
abbrev bS:=@List.mem_singleton
abbrev bY:=@Int.eq_ofNat_of_zero_le
abbrev bZ:=@Nat.mul_comm
abbrev b6:=@List.mem_cons_of_mem
abbrev b9:=@Nat.lt_or_ge
abbrev cb:=@Option.some.inj
abbrev cg:=@List.map_append
abbrev ck:=@List.getElem?_zipWith
abbrev cu:=@Nat.ne_of_lt
abbrev cv:=@List.length_range
abbrev cw:=@Int.natAbs_natCast
abbrev cy:=@List.mem_of_mem_take
abbrev cD:=@List.mem_or_eq_of_mem_set
abbrev cG:=@List.length_take
abbrev cI:=@Nat.le_mul_of_pos_left
abbrev cL:=@Int.fdiv_eq_ediv_of_nonneg
abbrev cP:=@List.append_assoc
abbrev cR:=@Nat.mul_assoc
abbrev cT:=@List.length_zipWith
abbrev cV:=@Nat.one_le_two_pow
abbrev cW:=@List.mem_replicate
abbrev cX:=@Rat.mul_comm
abbrev c9:=@Rat.intCast_neg
abbrev dc:=@List.nil_append
abbrev df:=@List.getElem?_replicate
abbrev dg:=@Int.natAbs_mul
abbrev dk:=@List.mem_append_left
abbrev dm:=@List.mem_cons_self
abbrev dq:=@Nat.dvd_mul_left
abbrev du:=@List.getElem?_range
abbrev dy:=@Nat.lt_trichotomy
abbrev dD:=@PySem.F.plainAttrs_list
abbrev dE:=@Nat.le_mul_of_pos_right
abbrev dH:=@PySem.W.kia_one
abbrev dI:=@List.length_set
abbrev dJ:=@Rat.mul_zero
abbrev dM:=@Nat.succ_mul
abbrev dO:=@List.ext_getElem
abbrev dS:=@Nat.pow_pos
abbrev dU:=@List.nodup_append
abbrev dX:=@PySem.F.type_list_append
abbrev dZ:=@PySem.F.slot_list_append
abbrev d5:=@Int.mul_assoc
abbrev d6:=@Rat.intCast_inj
abbrev d7:=@Nat.not_lt_zero
abbrev eh:=@Nat.succ_le_succ
abbrev eo:=@Nat.pow_lt_pow_right
abbrev eB:=@Nat.mul_add
abbrev eC:=@Bool.and_eq_true
abbrev eK:=@Nat.lt_irrefl
abbrev eY:=@Rat.natCast_mul
abbrev fb:=@List.nodup_cons
abbrev fk:=@List.drop_eq_getElem_cons
abbrev fv:=@Nat.lt_succ_self
abbrev fw:=@Nat.eq_zero_or_pos
abbrev fz:=@List.mem_flatten
abbrev fA:=@List.cons_append
abbrev fB:=@Int.gcd_dvd_left
abbrev fF:=@Nat.sub_self
abbrev fG:=@Nat.pow_succ
abbrev fM:=@List.flatten_cons
abbrev fO:=@Int.gcd_dvd_right
abbrev gh:=@Int.mul_comm
abbrev gI:=@List.map_cons
abbrev gJ:=@List.getElem_map
abbrev gR:=@Int.natAbs_dvd_natAbs
abbrev hJ:=@List.map_const'
abbrev ib:=@List.ext_getElem?
abbrev iD:=@Nat.pow_le_pow_left
abbrev iE:=@List.replicate_succ
abbrev iF:=@List.map_congr_left
abbrev iG:=@List.flatten_append
abbrev iU:=@Rat.zero_mul
abbrev iV:=@Rat.add_zero
abbrev iW:=@Nat.dvd_refl
abbrev iX:=@Int.emod_lt_of_pos
abbrev iY:=@Bool.false_eq_true
abbrev jk:=@Nat.min_eq_left
abbrev jl:=@List.mem_filter
abbrev jm:=@Nat.le_of_dvd
abbrev jX:=@List.mem_range
abbrev jY:=@Int.natAbs_neg
abbrev kI:=@PySem.IsL.update
abbrev kJ:=@Nat.add_comm
abbrev kK:=@List.lookup_cons
abbrev kL:=@Int.gcd_comm
abbrev kS:=@PySem.F.plain_extend_loop
abbrev kU:=@PySem.mem_of_lookup
abbrev kW:=@List.length_reverse
abbrev lC:=@Nat.dvd_trans
abbrev lQ:=@List.append_nil
abbrev lS:=@Int.emod_nonneg
abbrev lU:=@Bool.eq_iff_iff
abbrev mM:=@Nat.one_mul
abbrev mN:=@Nat.le_succ
abbrev mO:=@Int.mul_pos
abbrev mP:=@Int.dvd_mul_of_dvd_left
abbrev nD:=@List.nodup_nil
abbrev nF:=@List.map_map
abbrev oT:=@PySem.F.slot_zip_next
abbrev oV:=@List.length_drop
abbrev oW:=@List.all_eq_true
abbrev qW:=@Nat.pow_mul
abbrev qX:=@List.map_id
abbrev qY:=@List.getElem_zipWith
abbrev rg:=@List.range_succ
abbrev uF:=@List.getElem_range
abbrev uG:=@Int.eq_of_mul_eq_mul_right
abbrev xj:=@Nat.mul_one
abbrev xk:=@Nat.dvd_mul_right
abbrev xl:=@Nat.add_mul
abbrev xm:=@List.reverse_cons
abbrev xo:=@List.getElem?_take_of_lt
abbrev xp:=@List.eq_of_mem_replicate
abbrev zm:=@Rat.intCast_eq_zero_iff
abbrev zo:=@Nat.min_le_right
abbrev zv:=@Nat.le_add_right
abbrev zx:=@List.mem_reverse
abbrev zy:=@Int.natCast_dvd_natCast
abbrev zT:=@PySem.W.cellsFrom_some
abbrev zU:=@Nat.mul_zero
abbrev zV:=@Int.zero_add
abbrev BO:=@Rat.mul_eq_zero
abbrev BP:=@Rat.intCast_add
abbrev BQ:=@List.length_zip
abbrev BR:=@Bool.beq_eq_decide_eq
abbrev Eb:=@Rat.mul_one
abbrev Ec:=@List.replicate_succ'
abbrev Ed:=@List.mem_of_mem_drop
abbrev Ee:=@List.forIn_nil
abbrev FF:=@PySem.W.plainGet_of
abbrev FG:=@List.filterMap_cons
abbrev Ih:=@Int.natAbs_eq
abbrev Il:=@PySem.W.callWith_K
abbrev Im:=@List.append_of_mem
abbrev Kx:=@Nat.ne_of_gt
abbrev Ky:=@Nat.min_self
abbrev Kz:=@List.map_nil
abbrev Ny:=@Rat.one_mul
abbrev Nz:=@Int.dvd_gcd
abbrev NG:=@Nat.le_antisymm
abbrev NH:=@List.of_mem_zip
abbrev NI:=@List.forIn_cons
abbrev NJ:=@Int.gcd_pos_of_ne_zero_right
abbrev RM:=@PySem.F.entry_extend_loop
abbrev RN:=@List.pairwise_iff_getElem
abbrev RO:=@List.getElem?_zip_eq_some
abbrev RP:=@Int.natAbs_ediv_of_nonneg
abbrev RX:=@Option.isSome_iff_exists
abbrev Tz:=@PySem.F.args_zip_next_1
abbrev TB:=@Nat.eq_zero_of_zero_dvd
abbrev TC:=@Nat.add_sub_cancel_left
abbrev TF:=@List.filter_cons_of_pos
abbrev TH:=@List.filter_cons_of_neg
abbrev LR9:=List (List Rat)
abbrev FG9:=PySem.W.Frag
set_option hygiene false
local macro_rules
| `(tactic|sleep 1)=>`(tactic|(rcases aA.mp hx with hx | hx))
| `(tactic|sleep 2)=>`(tactic|(intro X hP hw hK hc i pins s σ H E I hf st hg;subst hP hw hK))
| `(tactic|sleep 3)=>`(tactic|(exists ⟨by lia,by lia,?_⟩))
| `(tactic|sleep 4)=>`(tactic|(intro pins s σ H Q I h))
| `(tactic|sleep 5)=>`(tactic|(refine aS (σ:=[some (.ref p),some (.ref q)]) rfl ?_))
| `(tactic|sleep 6)=>`(tactic|(intro pins s σ H x y v u Q I rx ry h))
| `(tactic|sleep 7)=>`(tactic|(exists ⟨⟨_,bR.of gx⟩,?_⟩))
| `(tactic|sleep 8)=>`(tactic|(intro pins s σ H D I h))
| `(tactic|sleep 9)=>`(tactic|(intro pins s σ H xs us Q I r h))
| `(tactic|sleep 10)=>`(tactic|(obtain ⟨t,rfl⟩:=rx))
| `(tactic|sleep 11)=>`(tactic|(have lx:=qx.length))
| `(tactic|sleep 12)=>`(tactic|(rw[decide_eq_true rfl]))
set_option hygiene true
namespace L2
open PySem PySem.Spec PyProof.Rows
abbrev Key:=Sum Int Str
def Pz:Key->Value->Bool
 | .inl k,v=>Value.isInt k v
 | .inr x,v=>Value.isStrOf x v
def Uc (w:World):Key->Int
 | .inl k=>hashInt k
 | .inr x=>hashStr w x
theorem fL:∀{k:Key} {v:Value},Pz k v=true->(∃i t,k=Sum.inl i/\v=Value.int i t)\/(∃x t,k=Sum.inr x/\v=Value.str x t)
 | .inl i,v,h=>by
  obtain ⟨t,e⟩:=Value.isInt_shape (k:=i) (v:=v) h;exact .inl ⟨i,t,rfl,e⟩
 | .inr x,v,h=>by
  obtain ⟨t,e⟩:=Value.isStrOf_shape (x:=x) (v:=v) h;exact .inr ⟨x,t,rfl,e⟩
theorem Q8 (a b:Int):decide ((Sum.inl a:Key)=Sum.inl b)=(a == b):=by
 by_cases e:a=b
 ·subst e;simp
 ·have h:¬(Sum.inl a:Key)=Sum.inl b:=λq=>e (Sum.inl.inj q)
  rw[decide_eq_false h];exact (beq_eq_false_iff_ne.mpr e).symm
theorem Q5 (a b:Str):decide ((Sum.inr a:Key)=Sum.inr b)=decide (a=b):=by
 by_cases e:a=b
 ·subst e;simp
 ·have h:¬(Sum.inr a:Key)=Sum.inr b:=λq=>e (Sum.inr.inj q)
  rw[decide_eq_false h,decide_eq_false e]
theorem Q7 (a:Int) (b:Str):decide ((Sum.inl a:Key)=Sum.inr b)=false:=decide_eq_false (λq=>nomatch q)
theorem Q6 (a:Str) (b:Int):decide ((Sum.inr a:Key)=Sum.inl b)=false:=decide_eq_false (λq=>nomatch q)
def JX (prog:Program) (w:World):PySem.KeyKind prog w Key where
 is:=Pz
 hash:=Uc w
 inj:=λv a b ha hb=>by
  rcases fL ha with ⟨i,t,rfl,rfl⟩ | ⟨x,t,rfl,rfl⟩
  ·rcases fL hb with ⟨j,u,rfl,e⟩ | ⟨y,u,rfl,e⟩
   ·injection e with e1 _;rw[e1]
   ·exact nomatch e
  ·rcases fL hb with ⟨j,u,rfl,e⟩ | ⟨y,u,rfl,e⟩
   ·exact nomatch e
   ·injection e with e1 _;rw[e1]
 byValue:=λk v h=>by
  rcases fL h with ⟨i,t,rfl,rfl⟩ | ⟨x,t,rfl,rfl⟩ <;> rfl
 pyHash:=λhv h=>by
  rcases fL hv with ⟨i,t,rfl,rfl⟩ | ⟨x,t,rfl,rfl⟩
  ·exact wpAny_pyHash_int h
  ·exact wpAny_pyHash_str h
 eqBool:=λhu hv h=>by
  rcases fL hu with ⟨i,t,rfl,rfl⟩ | ⟨x,t,rfl,rfl⟩
  ·rcases fL hv with ⟨j,u,rfl,rfl⟩ | ⟨y,u,rfl,rfl⟩
   ·rw[Q8] at h;exact wpAny_eqBool_int h
   ·rw[Q7] at h;exact SeqAt.EqAt.int_str i t y u _ _ _ _ h
  ·rcases fL hv with ⟨j,u,rfl,rfl⟩ | ⟨y,u,rfl,rfl⟩
   ·rw[Q6] at h;exact SeqAt.EqAt.str_int x t j u _ _ _ _ h
   ·rw[Q5] at h;exact wpAny_eqBool_str h
 «strs»:=λk x t v h=>by
  rcases fL h with ⟨i,u,rfl,e⟩ | ⟨y,u,rfl,e⟩
  ·exact nomatch e
  ·injection e with e1 _
   subst e1;cases v <;> rfl
inductive V where
  | non | bl (b : Bool) | int (i : Int) | str (x : Str) | byt (b : Array UInt8) | flt (b : UInt64) | ref (a : Addr) | ty (n : String)
  deriving DecidableEq

def RelV:V->Value->Prop
 | .non,u=>u=Value.none
 | .bl b,u=>u=Value.bool b
 | .int i,u=>∃t,u=Value.int i t
 | .str x,u=>∃t,u=Value.str x t
 | .byt b,u=>∃t,u=Value.bytes b t
 | .flt b,u=>∃t,u=Value.float b t
 | .ref a,u=>u=Value.ref a
 | .ty n,u=>u=Value.type n
abbrev cZ:List V->List Value->Prop:=Paired RelV
theorem cZ.length {xs:List V} {us:List Value} (r:cZ xs us):xs.length=us.length:=Paired.length r
theorem cZ.get:∀{xs:List V} {us:List Value} {i:Nat} {x:V},cZ xs us->xs[i]?=some x->∃u,us[i]?=some u/\RelV x u
 | _,_,_,_,.nil,e=>by simp at e
 | _,_,0,_,.cons r _,e=>by simp at e;subst e;exact ⟨_,rfl,r⟩
 | _,_,i+1,x,.cons _ t,e=>by
  obtain ⟨u,h1,h2⟩:=cZ.get (i:=i) (x:=x) t (by simpa using e);exact ⟨u,by simpa using h1,h2⟩
theorem cZ.set {x:V} {u:Value} (r:RelV x u):∀{xs:List V} {us:List Value} (i:Nat),cZ xs us->cZ (xs.set i x) (us.set i u)
 | _,_,_,.nil=>.nil
 | _,_,0,.cons _ t=>.cons r t
 | _,_,i+1,.cons q t=>.cons q (cZ.set r i t)
theorem cZ.append:∀{xs ys:List V} {us ws:List Value},cZ xs us->cZ ys ws->cZ (xs++ys) (us++ws)
 | _,_,_,_,.nil,s=>s
 | _,_,_,_,.cons r t,s=>.cons r (cZ.append t s)
theorem cZ.take:∀{xs:List V} {us:List Value} (n:Nat),cZ xs us->cZ (xs.take n) (us.take n)
 | _,_,0,_=>.nil
 | _,_,_+1,.nil=>.nil
 | _,_,n+1,.cons r t=>.cons r (cZ.take n t)
theorem cZ.drop:∀{xs:List V} {us:List Value} (n:Nat),cZ xs us->cZ (xs.drop n) (us.drop n)
 | _,_,0,r=>r
 | _,_,_+1,.nil=>.nil
 | _,_,n+1,.cons _ t=>cZ.drop n t
def Ct:Option V->Option Value->Prop
 | some v,some u=>RelV v u
 | none,none=>True
 | _,_=>False
def KV {κ:Type}:List (κ×V)->List (κ×Value)->Prop:=Paired λ(p:κ×V) (q:κ×Value)=>p.1=q.1/\RelV p.2 q.2
def kV:Key->V
 | .inl i=>.int i
 | .inr x=>.str x
inductive HO where
 | lst (xs:List V)
 | tup (xs:List V)
 | dK (kvs:List (Key×V)) | dT (kvs:List (List Key×V))
 | set (S:Int->Bool) (n:Nat)
 | ins (C dx:Addr) (fs:List (Str×V))
 | own (x:Addr)
 | xd (fs:List (Str×V))
 | met (f x:Addr)
 | rng (lo hi:Int)
 | frz (o:Obj) (u:HO)
 | tbl (ps:Array Value)
 | ext (φ:Heap->Prop)
abbrev Hp:=Addr->Option HO
def upd (H:Hp) (a:Addr) (o:HO):Hp:=λb=>if b=a then some o else H b
theorem aO {H:Hp} {a:Addr} {o:HO}:upd H a o a=some o:=by unfold upd;rw[if_pos rfl]
theorem bM {H:Hp} {a b:Addr} {o:HO} (h:b≠a):upd H a o b=H b:=by unfold upd;rw[if_neg h]
theorem fQ {H:Hp} {a b:Addr} {o:HO} (h:H a=some o) (h':H b=none):a≠b:=by
 intro e;subst e;rw[h] at h';cases h'
section
variable (P:Program) (w:World)
def jh (H:Hp) (h:Heap) (a:Addr):HO->Prop
 | .lst xs=>xs.length<=sizeLine/\∃(its:List Value) (n:Nat),cZ xs its/\h.get? a=some { cls:=.type "list",data:=.seq its.toArray n }
 | .tup xs=>xs.length<=sizeLine/\∃its:List Value,cZ xs its/\IsTup h a its.toArray
 | .dK kvs=>kvs.length<=sizeLine/\(a == sysModules)=false/\∃vs,KV kvs vs/\h.DictOf (JX P w) a vs
 | .dT kvs=>kvs.length<=sizeLine/\(a == sysModules)=false/\∃xs:List (List Key×Addr×Value),
   Paired (λ(p:List Key×V) (q:List Key×Addr×Value)=>p.1=q.1/\H q.2.1=some (.tup (p.1.map kV))/\RelV p.2 q.2.2) kvs xs /\
   ∃o es ep,h.get? a=some o/\o.ExactDict/\o.data=.dict es ep/\es.toList=xs.map (entryOfKey (tupleKind (JX P w)))/\(xs.map (·.1)).Nodup
 | .set S n=>h.SetOf (intKind P w) a S n
 | .ins C dx fs=>H dx=some (.own a)/\fs.length<=1000/\dx≠a/\h.get? a=some (PySem.W.instObj C dx) /\
   ∃mA,h.Ns1 dx mA/\(∀f,Ct (fs.lookup f) (mA f))/\PySem.Within mA (fs.map (·.1))
 | .own _=>∃o,h.get? a=some o
 | .xd fs=>∃mA,h.Ns1 a mA/\∀f,Ct (fs.lookup f) (mA f)
 | .rng lo hi=>∃t u v,h.get? a=some { cls:=.type "range",data:=.fields #[.int lo t,.int hi u,.int 1 v] }
 | .frz o u=>h.get? a=some o/\jh H h a u
 | .tbl ps=>h.get? a=some { cls:=.none,data:=.fields ps }
 | .met f x=>h.get? a=some (PySem.W.methodObj (.ref f) (.ref x))
 | .ext φ=>φ h/\(∃o,h.get? a=some o)/\∀h1 h2:Heap,φ h1->(∀o,h1.get? a=some o->h2.get? a=some o)->φ h2
def zS (H:Hp) (h:Heap):Prop:=∀a o,H a=some o->jh P w H h a o
end
section
variable {P:Program} {w:World} {H H':Hp} {h h':Heap} {a:Addr} {o:HO}
theorem jh.lt (x:jh P w H h a o):a < h.objs.size:=by
 cases o with
 | lst xs=>obtain ⟨_,_,_,_,e⟩:=x;exact Heap.lt_size e
 | tup xs=>obtain ⟨_,_,_,p⟩:=x;exact p.lt
 | dK kvs=>obtain ⟨_,_,_,_,o,_,_,e,_⟩:=x;exact Heap.lt_size e
 | dT kvs=>obtain ⟨_,_,_,_,o,_,_,e,_⟩:=x;exact Heap.lt_size e
 | set S n=>obtain ⟨o,_,_,_,e,_⟩:=x;exact Heap.lt_size e
 | ins C dx fs=>obtain ⟨_,_,_,e,_⟩:=x;exact Heap.lt_size e
 | own y=>obtain ⟨_,e⟩:=x;exact Heap.lt_size e
 | xd fs=>obtain ⟨_,⟨_,_,_,e,_⟩,_⟩:=x;exact Heap.lt_size e
 | rng lo hi=>obtain ⟨_,_,_,e⟩:=x;exact Heap.lt_size e
 | frz ob u=>obtain ⟨e,_⟩:=x;exact Heap.lt_size e
 | tbl ps=>exact Heap.lt_size (show h.get? a=some _ from x)
 | met f y=>exact Heap.lt_size (show h.get? a=some _ from x)
 | ext φ=>obtain ⟨_,⟨_,e⟩,_⟩:=x;exact Heap.lt_size e
theorem Paired.mapP {α β:Type} {F G:α->β->Prop}:∀{l₁:List α} {l₂:List β},Paired F l₁ l₂->(∀a b,F a b->G a b)->Paired G l₁ l₂
 | _,_,.nil,_=>.nil
 | _,_,.cons r t,f=>.cons (f _ _ r) (Paired.mapP t f)
theorem Paired.imp' {α β:Type} {F G:α->β->Prop} (f:∀a b,F a b->G a b) {l₁:List α} {l₂:List β} (r:Paired F l₁ l₂):Paired G l₁ l₂:=Paired.mapP r f
theorem jh.stay (x:jh P w H h a o) (k:∀b u,(b=a\/H b=some (.own a))->h.get? b=some u->h'.get? b=some u)
  (ho:∀b,H b=some (.own a)->H' b=some (.own a)) (ht:∀b xs,H b=some (.tup xs)->H' b=some (.tup xs)):jh P w H' h' a o:=by
 induction o with
 | lst xs=>obtain ⟨z,its,n,r,e⟩:=x;exact ⟨z,its,n,r,k _ _ (.inl rfl) e⟩
 | tup xs=>obtain ⟨z,its,r,ob,e,c⟩:=x;exact ⟨z,its,r,ob,k _ _ (.inl rfl) e,c⟩
 | dK kvs=>obtain ⟨z,y,vs,r,ob,es,ep,e,c⟩:=x;exact ⟨z,y,vs,r,ob,es,ep,k _ _ (.inl rfl) e,c⟩
 | dT kvs =>
  obtain ⟨z,y,xs,r,ob,es,ep,e,c⟩:=x;exact ⟨z,y,xs,Paired.mapP r λp q z=>⟨z.1,ht _ _ z.2.1,z.2.2⟩,ob,es,ep,k _ _ (.inl rfl) e,c⟩
 | set S n=>obtain ⟨ob,es,ep,t,e,c⟩:=x;exact ⟨ob,es,ep,t,k _ _ (.inl rfl) e,c⟩
 | ins C dx fs =>
  obtain ⟨d,z,ne,e,mA,⟨od,es,ep,e2,c⟩,r⟩:=x;exact ⟨ho _ d,z,ne,k _ _ (.inl rfl) e,mA,⟨od,es,ep,k _ _ (.inr d) e2,c⟩,r⟩
 | own y=>obtain ⟨ob,e⟩:=x;exact ⟨ob,k _ _ (.inl rfl) e⟩
 | xd fs=>obtain ⟨mA,⟨od,es,ep,e,c⟩,r⟩:=x;exact ⟨mA,⟨od,es,ep,k _ _ (.inl rfl) e,c⟩,r⟩
 | rng lo hi=>obtain ⟨t,u,v,e⟩:=x;exact ⟨t,u,v,k _ _ (.inl rfl) e⟩
 | frz ob u ih=>obtain ⟨e,q⟩:=x;exact ⟨k _ _ (.inl rfl) e,ih q⟩
 | tbl ps =>
  have e:h.get? a=some { cls:=.none,data:=.fields ps }:=x;show h'.get? a=some { cls:=.none,data:=.fields ps }
  exact k a _ (.inl rfl) e
 | met f y =>
  have e:h.get? a=some (PySem.W.methodObj (.ref f) (.ref y)):=x;show h'.get? a=some (PySem.W.methodObj (.ref f) (.ref y))
  exact k a _ (.inl rfl) e
 | ext φ=>obtain ⟨p,⟨o,e⟩,st⟩:=x;exact ⟨st _ _ p λo q=>k _ _ (.inl rfl) q,⟨o,k _ _ (.inl rfl) e⟩,st⟩
theorem zS.lt (x:zS P w H h) (e:H a=some o):a < h.objs.size:=(x a o e).lt
theorem zS.fresh (x:zS P w H h) (e:h.objs.size<=a):H a=none:=by
 cases q:H a with
 | none=>rfl
 | some u=>exact absurd (bK (x.lt q) e) (eK _)
theorem zS.kept (x:zS P w H h) (k:∀b u,h.get? b=some u->h'.get? b=some u):zS P w H h':=λa o e =>
 (x a o e).stay (λb u _ q=>k b u q) (λ_ q=>q) λ_ _ q=>q
theorem zS.laid (x:zS P w H h) (k:∀b u,h.get? b=some u->h'.get? b=some u) (hp:h.objs.size<=a) (new:jh P w (upd H a o) h' a o):zS P w (upd H a o) h':=λb u e=>by
 have hn:=x.fresh hp;by_cases hb:b=a
 ·subst hb;rw[aO] at e;cases e;exact new
 ·rw[bM hb] at e;exact (x b u e).stay (λc v _ q=>k c v q) (λc q=>by rw[bM (fQ q hn)];exact q) λc xs q=>by rw[bM (fQ q hn)];exact q
end
def Rd (H:Hp) (a:Addr) (u:HO):Prop:=H a=some u\/∃o,H a=some (.frz o u)
theorem Rd.ok {P:Program} {w:World} {H:Hp} {h:Heap} {a:Addr} {u:HO} (r:Rd H a u) (x:zS P w H h):jh P w H h a u:=by
 rcases r with r | ⟨o,r⟩
 ·exact x a u r
 ·obtain ⟨_,q⟩:=x a _ r;exact q
def TU:Option HO->Prop
 | some (.lst _)=>True
 | some (.dK _)=>True
 | some (.dT _)=>True
 | some (.set _ _)=>True
 | some (.ins _ _ _)=>True
 | some (.ext _)=>True
 | _=>False
section
variable {P:Program} {w:World} {H:Hp} {h h':Heap} {x e:Addr} {o':HO}
theorem zS.write (ok:zS P w H h) (mu:TU (H x)) (he:e=x\/H e=some (.own x)) (k:∀b u,b≠e->h.get? b=some u->h'.get? b=some u) (heo:∃u,h'.get? e=some u)
  (new:jh P w (upd H x o') h' x o'):zS P w (upd H x o') h':=λb u q=>by
 have nown:∀c y,H c=some (.own y)->c≠x:=λc y r z=>by subst z;rw[r] at mu;exact mu
 have ntup:∀c xs,H c=some (.tup xs)->c≠x:=λc xs r z=>by subst z;rw[r] at mu;exact mu
 by_cases hb:b=x
 ·subst hb;rw[aO] at q;cases q;exact new
 ·rw[bM hb] at q;by_cases hbe:b=e
  ·have q':H b=some (.own x):=by
    rcases he with z | z
    ·exact absurd (hbe.trans z) hb
    ·rw[hbe];exact z
   rw[q] at q';cases q';obtain ⟨v,hv⟩:=heo;exact ⟨v,by rw[hbe];exact hv⟩
  ·refine (ok b u q).stay (λc v hc r=>k c v ?_ r) (λc r=>by rw[bM (nown c b r)];exact r) λc xs r=>by rw[bM (ntup c xs r)];exact r
   rcases hc with rfl | hc
   ·exact hbe
   ·rintro rfl;rcases he with z | z
    ·exact nown c b hc z
    ·rw[hc] at z;cases z;exact hb rfl
end
structure Un (fs ex:List Addr) (H H':Hp) (h h':Heap):Prop where
 keep:∀b o,h.get? b=some o->H b=none->b∉fs->b∉ex->h'.get? b=some o
 slot:∀b o,h.get? b=some o->H b=none->b∈fs->b∉ex->∃sl,h'.get? b=some { o with slots:=sl }
 free:∀b o,h.get? b=some o->H b=none->b∉ex->H' b=none
 there:∀b o,h.get? b=some o->b∉ex->∃o',h'.get? b=some o'
 tups:∀b xs,H b=some (.tup xs)->H' b=some (.tup xs)
 frzs:∀b o u,H b=some (.frz o u)->H' b=some (.frz o u)
 tbls:∀b ps,H b=some (.tbl ps)->∃more,H' b=some (.tbl (ps++more))
section
variable {fs fs' ex ex':List Addr} {H H1 H2:Hp} {h h1 h2 h':Heap} {a x e:Addr} {o:HO}
theorem Un.any (u:Un fs ex H H1 h h1) {b:Addr} {ob:Obj} (q:h.get? b=some ob) (n:H b=none) (hx:b∉ex):∃sl,h1.get? b=some { ob with slots:=sl }:=by
 by_cases hb:b∈fs
 ·exact u.slot b ob q n hb hx
 ·exact ⟨ob.slots,u.keep b ob q n hb hx⟩
theorem Un.kept (k:∀b u,h.get? b=some u->h'.get? b=some u):Un fs ex H H h h' :=
 ⟨λb ob q _ _ _=>k b ob q,λb ob q _ _ _=>⟨ob.slots,k b ob q⟩,λ_ _ _ n _=>n,λb ob q _=>⟨ob,k b ob q⟩,λ_ _ q=>q,λ_ _ _ q=>q,λ_ ps q=>⟨#[],by rw[q];simp⟩⟩
theorem Un.refl:Un fs ex H H h h:=Un.kept λ_ _ q=>q
theorem Un.laid (k:∀b u,h.get? b=some u->h'.get? b=some u) (hp:h.objs.size<=a) (hn:H a=none):Un fs ex H (upd H a o) h h' where
 keep:=λb u q _ _ _=>k b u q
 slot:=λb u q _ _ _=>⟨u.slots,k b u q⟩
 free:=λb u q n _=>by rw[bM (cu (bK (Heap.lt_size q) hp))];exact n
 there:=λb u q _=>⟨u,k b u q⟩
 tups:=λb xs q=>by rw[bM (fQ q hn)];exact q
 frzs:=λb u xs q=>by rw[bM (fQ q hn)];exact q
 tbls:=λb ps q=>⟨#[],by rw[bM (fQ q hn),q];simp⟩
theorem Un.write (mu:TU (H x)) (he:e=x\/H e=some (.own x)) (k:∀b u,b≠e->h.get? b=some u->h'.get? b=some u) (heo:∃u,h'.get? e=some u):Un fs ex H (upd H x o) h h':=by
 have hx:∀b,H b=none->b≠x:=λb n z=>by subst z;rw[n] at mu;exact mu
 have hb:∀b,H b=none->b≠e:=λb n z=>by
  subst z;rcases he with r | r
  ·exact hx b n r
  ·rw[n] at r;cases r
 have hm:∀b u,H b=some u->¬TU (some u)->b≠x:=λb u q nm z=>by subst z;rw[q] at mu;exact nm mu
 refine ⟨λb u q n _ _=>k b u (hb b n) q,λb u q n _ _=>⟨u.slots,k b u (hb b n) q⟩,λb u q n _=>by rw[bM (hx b n)];exact n,λb u q _=>?_,
  λb xs q=>by rw[bM (hm b _ q λz=>z)];exact q,λb u xs q=>by rw[bM (hm b _ q λz=>z)];exact q,λb ps q=>⟨#[],by rw[bM (hm b _ q λz=>z),q];simp⟩⟩
 by_cases hbe:b=e
 ·subst hbe;exact heo
 ·exact ⟨u,k b u hbe q⟩
end
def TK (h:Heap) (H:Hp):List Addr:=(List.range h.objs.size).filter λa=>(H a).isSome
def Ff (h:Heap) (H:Hp):Heap:=PySem.W.hideAll h (TK h H)
theorem Lk (h:Heap) (H:Hp):(Ff h H).objs.size=h.objs.size:=PySem.W.hideAll_size _ _
theorem MO {h:Heap} {H:Hp} {b:Addr} {o:Obj} (e:h.get? b=some o) (n:H b=none):(Ff h H).get? b=some o :=
 PySem.W.hideAll_get _ e λhm=>by
  have q:(H b).isSome=true:=(jl.mp hm).2;rw[n] at q;simp at q
theorem OP {h:Heap} {H:Hp} {b:Addr} {o:Obj} (e:(Ff h H).get? b=some o):h.get? b=some o/\H b=none:=by
 have e':h.get? b=some o:=PySem.W.of_hideAll (TK h H) e;refine ⟨e',?_⟩;cases q:H b with
 | none=>rfl
 | some x =>
  have hm:b∈TK h H:=jl.mpr ⟨jX.mpr (Heap.lt_size e'),by simp [q]⟩;have z:(Ff h H).get? b=none:=PySem.W.hideAll_none (TK h H) hm;rw[z] at e;cases e
structure Mod (K:FG9) (mg:Str->Option Value) (base:Heap):Prop where
 kin:K.In base
 glob:base.Ns mainGlobals mg
 blt:∃mb,base.Ns builtinsNs mb/\∀x:Str,x≠"__name__"->mb x=bootBuiltins x
 nolimit:base.NoLimit
structure Cx where
 prog:Program
 w:World
 K:FG9
 mg:Str->Option Value
 base:Heap
 A:Around
 N:List Str
 s₀:Shared
 H₀:Hp
 env:Env
 outer:List Env
 stack:List Env
 ex:List Addr
 fn:Str->Bool
 calm:Bool
 pn:List (Addr×Obj)
 xe:Value->Shared->Prop
def Lx (l:List Env):List Addr:=l.filterMap (·.frame)
abbrev Cx.fs (X:Cx):List Addr:=Lx X.outer
def Ui (sc:Scope) (x:Str):Prop:=sc.names.lookup x=some .local\/sc.names.lookup x=some .cell\/sc.names.lookup x=some .free
def Loc (sc:Scope) (x:Str):Prop:=sc.names.lookup x=some .local\/sc.names.lookup x=some .cell
def Look (env:Env) (h:Heap) (m:Str->Option Value) (x:Str) (u:Value):Prop :=
 (env.kindOf x=some .local/\m x=some u)\/((env.kindOf x=some .cell\/env.kindOf x=some .free)/\∃c,env.cells.lookup x=some c/\h.IsCell c (some u))
structure Cx.Ok (X:Cx):Prop where
 mod:Mod X.K X.mg X.base
 kind:X.env.scope.kind=.function
 glob:X.env.globals=mainGlobals
 blt:X.env.builtins=builtinsNs
 above:X.s₀.heap.objs.size<=X.env.locals
 inj:∀x y c,X.env.cells.lookup x=some c->X.env.cells.lookup y=some c->x=y
 has:∀x,(X.env.kindOf x=some .cell\/X.env.kindOf x=some .free)->∃c,X.env.cells.lookup x=some c
 cab:∀x c,X.fn x=true->X.env.cells.lookup x=some c->X.s₀.heap.objs.size<=c
 hd:X.calm=true->X.A.handled=none
 frames:X.A.frames=some X.stack
 stk:X.stack=X.outer\/(X.stack=X.env :: X.outer/\X.env.frame=some X.env.locals)
 exf:∀b∈X.ex,b≠X.env.locals/\∀x c,X.env.cells.lookup x=some c->c≠b
 bs:∀b o,X.base.get? b=some o->X.s₀.heap.get? b=some o/\X.H₀ b=none
 bsz:X.base.objs.size<=X.s₀.heap.objs.size
 noex:∀b o,X.base.get? b=some o->b∉X.ex
 exfs:∀b∈X.ex,b∉X.fs
 funs:X.s₀.heap.FunFrames X.base X.outer
 frf:∀b∈X.fs,X.H₀ b=none
structure Inv (X:Cx) (pins:List (Addr×Obj)) (σ:List (Option V)) (H:Hp) (s:Shared):Prop where
 ok:X.Ok
 os:s.os=X.s₀.os
 bare:AllBare s.gens
 base:Un X.fs X.ex X.H₀ H X.s₀.heap s.heap
 loc:∃m,s.heap.Ns X.env.locals m/\∀(i:Nat) (x:Str) (v:V),X.N[i]?=some x->σ[i]?=some (some v)->Ui X.env.scope x->∃u,RelV v u/\Look X.env s.heap m x u
 cell:∀x c,X.env.cells.lookup x=some c->∃v,s.heap.IsCell c v
 free:H X.env.locals=none
 freeC:∀x c,X.env.cells.lookup x=some c->H c=none
 pin:∀p∈X.pn++pins,s.heap.get? p.1=some p.2/\H p.1=none/\p.1≠X.env.locals/\p.1∉X.fs/\∀v,p.2.data≠.cell v
 hok:zS X.prog X.w H s.heap
 len:σ.length=X.N.length
section
variable {X:Cx} {pins:List (Addr×Obj)} {σ:List (Option V)} {H H':Hp} {s:Shared} {h':Heap}
theorem Cx.Ok.nofr (ok:X.Ok) {b:Addr} {o:Obj} (e:X.base.get? b=some o):b∉X.fs:=λhb=>by
 have:=(ok.funs.mem hb).1;rw[e] at this;cases this
theorem Inv.bs (I:Inv X pins σ H s):∀b o,X.base.get? b=some o->s.heap.get? b=some o/\H b=none:=λb o e =>
 ⟨I.base.keep b o (I.ok.bs b o e).1 (I.ok.bs b o e).2 (I.ok.nofr e) (I.ok.noex b o e),I.base.free b o (I.ok.bs b o e).1 (I.ok.bs b o e).2 (I.ok.noex b o e)⟩
theorem Inv.bk (I:Inv X pins σ H s):∀b o,X.base.get? b=some o->s.heap.get? b=some o:=λb o e=>(I.bs b o e).1
theorem Inv.mod (I:Inv X pins σ H s):Mod X.K X.mg X.base:=I.ok.mod
theorem Inv.kIn (I:Inv X pins σ H s):X.K.In s.heap:=I.ok.mod.kin.keeps I.bk
theorem Inv.lt (I:Inv X pins σ H s):X.env.locals < s.heap.objs.size:=let ⟨_,hn,_⟩:=I.loc;hn.lt
theorem Inv.sz (I:Inv X pins σ H s):X.s₀.heap.objs.size<=s.heap.objs.size:=ai I.ok.above (aU I.lt)
theorem Inv.nofs (I:Inv X pins σ H s) {a:Addr} (h:s.heap.objs.size<=a):a∉X.fs:=λhb=>by
 obtain ⟨_,o,ho,_⟩:=I.ok.funs.mem hb;exact absurd (bK (Heap.lt_size ho) (ai I.sz h)) (eK _)
theorem Inv.cne (I:Inv X pins σ H s):∀x c,X.env.cells.lookup x=some c->c≠X.env.locals:=λx c e z=>by
 obtain ⟨v,o,ho,hd⟩:=I.cell x c e;obtain ⟨m,⟨o',es,ep,ho',hd',_⟩,_⟩:=I.loc;rw[z,ho'] at ho;cases ho;rw[hd'] at hd;cases hd
theorem Inv.funs (I:Inv X pins σ H s):s.heap.FunFrames X.base X.outer:=by
 have all:∀(l:List Env),(∀b∈Lx l,b∈X.fs)->X.s₀.heap.FunFrames X.base l->s.heap.FunFrames X.base l:=by
  intro l
  induction l with
  | nil=>intro _ _;trivial
  | cons env r ih =>
   intro hs hl;obtain ⟨hk,⟨L,o,hf,hn,ho,hd⟩,hr⟩:=hl;have hL:L∈X.fs:=hs L (by unfold Lx;rw[FG,hf];exact dm);obtain ⟨sl,e⟩:=I.base.slot L o ho (I.ok.frf L hL) hL λz=>I.ok.exfs L z hL
   exact ⟨hk,⟨L,_,hf,hn,e,hd⟩,ih (λb hb=>hs b (by unfold Lx;rw[FG,hf];exact b6 _ hb)) hr⟩
 exact all X.outer (λ_ hb=>hb) I.ok.funs
theorem Inv.stack (I:Inv X pins σ H s):s.heap.FunFrames X.base X.stack:=by
 rcases I.ok.stk with e | ⟨e,hf⟩
 ·rw[e];exact I.funs
 ·rw[e];obtain ⟨m,hn,_⟩:=I.loc;refine .cons (by rw[I.ok.kind];decide) hf hn ?_ I.funs;exact Heap.get?_none_of_le (ai I.ok.bsz I.ok.above)
theorem Inv.stkSub (I:Inv X pins σ H s):∀b∈Lx X.stack,b∈X.env.locals :: X.fs:=λb hb=>by
 rcases I.ok.stk with e | ⟨e,hf⟩
 ·rw[e] at hb;exact b6 _ hb
 ·rw[e] at hb;unfold Lx at hb;rw[FG,hf] at hb;exact hb
theorem Inv.stkFree (I:Inv X pins σ H s):∀b∈Lx X.stack,H b=none:=λb hb=>by
 rcases aN.mp (I.stkSub b hb) with e | hb
 ·rw[e];exact I.free
 ·obtain ⟨_,o,ho,_⟩:=I.ok.funs.mem hb;exact I.base.free b o ho (I.ok.frf b hb) λz=>I.ok.exfs b z hb
theorem Inv.step {g':Array GenState} {t':Nat} {d':Drawn} {ch:List Addr} (I:Inv X pins σ H s)
  (hch:∀b∈ch,(b∈X.ex\/X.s₀.heap.objs.size<=b)/\b≠X.env.locals/\(∀x c,X.env.cells.lookup x=some c->c≠b)/\∀p∈X.pn++pins,p.1≠b)
  (keep:∀b o,b≠X.env.locals->b∉X.fs->b∉ch->s.heap.get? b=some o->H b=none->h'.get? b=some o)
  (slot:∀b o,b≠X.env.locals->b∈X.fs->b∉ch->s.heap.get? b=some o->H b=none->∃sl,h'.get? b=some { o with slots:=sl }) (free:∀b o,b∉ch->s.heap.get? b=some o->H b=none->H' b=none)
  (there:∀b o,b∉ch->s.heap.get? b=some o->∃o',h'.get? b=some o')
  (tups:∀b xs,H b=some (.tup xs)->H' b=some (.tup xs)) (frzs:∀b o u,H b=some (.frz o u)->H' b=some (.frz o u)) (tbls:∀b ps,H b=some (.tbl ps)->∃more,H' b=some (.tbl (ps++more)))
  (ns:∀m,s.heap.Ns X.env.locals m->h'.Ns X.env.locals m) (hok:zS X.prog X.w H' h') (hg:AllBare g') :
  Inv X pins σ H' { s with heap:=h',gens:=g',drawn:=d',toks:=t' }:=by
 have neL:∀b o,X.s₀.heap.get? b=some o->b≠X.env.locals:=λb o e=>cu (bK (Heap.lt_size e) I.ok.above)
 have neC:∀b o,X.s₀.heap.get? b=some o->b∉X.ex->b∉ch:=λb o e hx hb=>by
  rcases (hch b hb).1 with z | z
  ·exact hx z
  ·exact absurd (bK (Heap.lt_size e) z) (eK _)
 have cellK:∀x c,X.env.cells.lookup x=some c->∀v,s.heap.IsCell c v->h'.IsCell c v:=λx c e v ⟨o,ho,hd⟩=>by
  have nch:c∉ch:=λz=>(hch c z).2.2.1 x c e rfl
  by_cases hc:c∈X.fs
  ·obtain ⟨sl,q⟩:=slot c o (I.cne x c e) hc nch ho (I.freeC x c e);exact ⟨_,q,hd⟩
  ·exact ⟨o,keep c o (I.cne x c e) hc nch ho (I.freeC x c e),hd⟩
 refine ⟨I.ok,I.os,hg,⟨λb o e n hb hx=>?_,λb o e n hb hx=>?_,λb o e n hx=>?_,λb o e hx=>?_,λb xs e=>tups b xs (I.base.tups b xs e),λb o xs e=>frzs b o xs (I.base.frzs b o xs e),λb ps e=>?_⟩,?_,λx c e=>?_,?_,λx c e=>?_,λp hp=>?_,hok,I.len⟩
 ·exact keep b o (neL b o e) hb (neC b o e hx) (I.base.keep b o e n hb hx) (I.base.free b o e n hx)
 ·obtain ⟨sl,e1⟩:=I.base.slot b o e n hb hx;obtain ⟨sl',e2⟩:=slot b _ (neL b o e) hb (neC b o e hx) e1 (I.base.free b o e n hx);exact ⟨sl',e2⟩
 ·obtain ⟨o',e1⟩:=I.base.there b o e hx;exact free b o' (neC b o e hx) e1 (I.base.free b o e n hx)
 ·obtain ⟨o',e1⟩:=I.base.there b o e hx;exact there b o' (neC b o e hx) e1
 ·obtain ⟨m1,e1⟩:=I.base.tbls b ps e;obtain ⟨m2,e2⟩:=tbls b _ e1;exact ⟨m1++m2,by rw[e2,Array.append_assoc]⟩
 ·obtain ⟨m,hn,hl⟩:=I.loc;refine ⟨m,ns m hn,λi x v e1 e2 e3=>?_⟩;obtain ⟨u,r,l⟩:=hl i x v e1 e2 e3;refine ⟨u,r,?_⟩;rcases l with l | ⟨k,c,e,z⟩
  ·exact .inl l
  ·exact .inr ⟨k,c,e,cellK x c e _ z⟩
 ·obtain ⟨v,z⟩:=I.cell x c e;exact ⟨v,cellK x c e v z⟩
 ·obtain ⟨m,⟨o,_,_,ho,_⟩,_⟩:=I.loc;exact free _ o (λz=>(hch _ z).2.1 rfl) ho I.free
 ·obtain ⟨v,o,ho,hd⟩:=I.cell x c e;exact free c o (λz=>(hch c z).2.2.1 x c e rfl) ho (I.freeC x c e)
 ·obtain ⟨e,n,ne,nf,d⟩:=I.pin p hp;have nch:p.1∉ch:=λz=>(hch p.1 z).2.2.2 p hp rfl
  exact ⟨keep p.1 p.2 ne nf nch e n,free p.1 p.2 nch e n,ne,nf,d⟩
theorem Inv.un {t':Nat} (I:Inv X pins σ H s) (u:Un X.fs [] H H' s.heap h') (hok:zS X.prog X.w H' h'):Inv X pins σ H' { s with heap:=h',toks:=t' }:=by
 obtain ⟨m,⟨o,es,ep,ho,r⟩,_⟩:=id I.loc;obtain ⟨sl,hL⟩:=u.any ho I.free (by simp)
 exact I.step (g':=s.gens) (d':=s.drawn) (ch:=[]) (λ_ z=>nomatch z) (λb o _ hb _ e n=>u.keep b o e n hb (by simp)) (λb o _ hb _ e n=>u.slot b o e n hb (by simp)) (λb o _ e n=>u.free b o e n (by simp)) (λb o _ e=>u.there b o e (by simp)) u.tups u.frzs u.tbls (λm' hm=>by
  obtain ⟨o',es',ep',ho',r'⟩:=hm;rw[ho] at ho';cases ho';exact ⟨_,es',ep',hL,r'⟩) hok I.bare
theorem Inv.call {g':Array GenState} {t':Nat} {d':Drawn} {ch:List Addr} (I:Inv X pins σ H s) (u:Un (Lx X.stack) ch H H' s.heap h') (hok:zS X.prog X.w H' h') (hg:AllBare g')
  (hch:∀b∈ch,(b∈X.ex\/X.s₀.heap.objs.size<=b)/\b≠X.env.locals/\(∀x c,X.env.cells.lookup x=some c->c≠b)/\∀p∈X.pn++pins,p.1≠b) :
  Inv X pins σ H' { s with heap:=h',gens:=g',drawn:=d',toks:=t' }:=by
 obtain ⟨m,⟨o,es,ep,ho,r⟩,_⟩:=id I.loc;obtain ⟨sl,hL⟩:=u.any ho I.free λz=>(hch _ z).2.1 rfl
 exact I.step (ch:=ch) hch (λb o hL hb hc e n=>u.keep b o e n (λz=>(aN.mp (I.stkSub b z)).elim hL hb) hc) (λb o _ _ hc e n=>u.any e n hc) (λb o hc e n=>u.free b o e n hc) (λb o hc e=>u.there b o e hc) u.tups u.frzs u.tbls (λm' hm=>by
  obtain ⟨o',es',ep',ho',r'⟩:=hm;rw[ho] at ho';cases ho';exact ⟨_,es',ep',hL,r'⟩) hok hg
theorem Inv.turned {t':Nat} {it:Addr} (I:Inv X pins σ H s) (k:∀b o,b≠it->s.heap.get? b=some o->h'.get? b=some o) (hn:H it=none) (hL:it≠X.env.locals)
  (h1:it∈X.ex\/X.s₀.heap.objs.size<=it) (h2:∀x c,X.env.cells.lookup x=some c->c≠it) (h3:∀p∈X.pn++pins,p.1≠it):Inv X pins σ H { s with heap:=h',toks:=t' }:=by
 have nit:∀b u,H b=some u->b≠it:=λb u e z=>by rw[z,hn] at e;cases e
 refine I.step (g':=s.gens) (d':=s.drawn) (ch:=[it]) (λb hb=>?_) (λb o _ _ hc e _=>k b o (λz=>hc (by simp [z])) e) (λb o _ _ hc e _=>⟨o.slots,k b o (λz=>hc (by simp [z])) e⟩) (λ_ _ _ _ n=>n)
  (λb o hc e=>⟨o,k b o (λz=>hc (by simp [z])) e⟩) (λ_ _ e=>e) (λ_ _ _ e=>e) (λb ps e=>⟨#[],by rw[e];simp⟩) (λm hm=>?_) (λb u e=>?_) I.bare
 ·have e:b=it:=by simpa using hb
  subst e;exact ⟨h1,hL,h2,h3⟩
 ·obtain ⟨o,es,ep,ho,r⟩:=hm;exact ⟨o,es,ep,k _ o (Ne.symm hL) ho,r⟩
 ·refine (I.hok b u e).stay (λc v hc q=>k c v ?_ q) (λ_ q=>q) λ_ _ q=>q
  rcases hc with z | z
  ·rw[z];exact nit b u e
  ·exact nit c _ z
theorem Inv.tok (I:Inv X pins σ H s) (t:Nat):Inv X pins σ H { s with toks:=t }:=I.un (h':=s.heap) (t':=t) Un.refl I.hok
theorem Inv.kept {t':Nat} (I:Inv X pins σ H s) (k:∀b u,s.heap.get? b=some u->h'.get? b=some u):Inv X pins σ H { s with heap:=h',toks:=t' }:=I.un (Un.kept k) (I.hok.kept k)
theorem Inv.laid {a:Addr} {o:HO} {t':Nat} (I:Inv X pins σ H s) (k:∀b u,s.heap.get? b=some u->h'.get? b=some u) (hp:s.heap.objs.size<=a) (new:jh X.prog X.w (upd H a o) h' a o) :
  Inv X pins σ (upd H a o) { s with heap:=h',toks:=t' }:=I.un (Un.laid k hp (I.hok.fresh hp)) (I.hok.laid k hp new)
theorem Inv.write {x e:Addr} {o:HO} {t':Nat} (I:Inv X pins σ H s) (mu:TU (H x)) (he:e=x\/H e=some (.own x)) (k:∀b u,b≠e->s.heap.get? b=some u->h'.get? b=some u) (heo:∃u,h'.get? e=some u)
  (new:jh X.prog X.w (upd H x o) h' x o):Inv X pins σ (upd H x o) { s with heap:=h',toks:=t' }:=I.un (Un.write mu he k heo) (I.hok.write mu he k heo new)
theorem Inv.pins_of {pins':List (Addr×Obj)} (I:Inv X pins σ H s) (h:∀p∈pins',s.heap.get? p.1=some p.2/\H p.1=none/\p.1≠X.env.locals/\p.1∉X.fs/\∀v,p.2.data≠.cell v):Inv X pins' σ H s :=
 ⟨I.ok,I.os,I.bare,I.base,I.loc,I.cell,I.free,I.freeC,λp hp=>(aA.mp hp).elim (λz=>I.pin p (dk _ z)) (h p),I.hok,I.len⟩
theorem GY {N:List Str} (hN:N.Nodup) {i j:Nat} {x:Str} (a:N[i]?=some x) (b:N[j]?=some x):i=j:=by
 obtain ⟨h1,e1⟩:=aF.mp a;obtain ⟨h2,e2⟩:=aF.mp b;exact (List.getElem_inj hN).mp (e1.trans e2.symm)
theorem Cy {M:Model} {A:Around} {E:Value->Shared->Prop} {i:Nat} {x:Str} {v:V} {u:Value} {Q:Unit->Shared->Prop} (I:Inv X pins σ H s) (hN:X.N.Nodup) (hi:X.N[i]?=some x) (hx:Loc X.env.scope x) (r:RelV v u)
  (h:∀s',Inv X pins (σ.set i (some v)) H s'->(∃a,Heap.SameBut a s.heap s'.heap/\(a=X.env.locals\/X.env.cells.lookup x=some a))->Q () s') (hf:X.fn x=true\/X.env.scope.names.lookup x=some .local:=by first | exact .inl rfl | exact .inr rfl | assumption):wpAny M A (storeName X.env x u) Q E s:=by
 obtain ⟨m,hn,hl⟩:=id I.loc;have hcls:(X.env.scope.kind == .class || (X.env.scope.kind == .module && X.env.locals != X.env.globals))=false:=by rw[I.ok.kind];rfl
 have hiσ:i < σ.length:=by rw[I.len];exact (aF.mp hi).1
 have cne:=I.cne
 have tracked:∀{a:Addr} {h':Heap},(∃o,s.heap.get? a=some o/\H a=none)->Heap.SameBut a s.heap h'->zS X.prog X.w H h':=λ{a h'} ha hs b ob e=>by
  obtain ⟨_,_,hfree⟩:=ha;refine (I.hok b ob e).stay (λc w' hc q=>(hs.2 c ?_).trans q) (λ_ q=>q) λ_ _ q=>q
  rintro rfl;rcases hc with rfl | hc
  ·rw[hfree] at e;cases e
  ·rw[hfree] at hc;cases hc
 rcases hx with hk | hk
 ·refine wpAny_storeName_local hk hn (λh' hn' hs=>?_) hcls;obtain ⟨oL,_,_,hoL,_⟩:=id hn;refine h _ ⟨I.ok,I.os,I.bare,⟨λb o e n hb hx=>?_,λb o e n hb hx=>?_,I.base.free,λb o e hx=>?_,I.base.tups,I.base.frzs,I.base.tbls⟩,⟨_,hn',λj y v' e1 e2 e3=>?_⟩,λy c e=>?_,I.free,I.freeC,λp hp=>?_,tracked ⟨oL,hoL,I.free⟩ hs,by simpa using I.len⟩ ⟨_,hs,.inl rfl⟩
  ·exact (hs.2 b (cu (bK (Heap.lt_size e) I.ok.above))).trans (I.base.keep b o e n hb hx)
  ·obtain ⟨sl,e1⟩:=I.base.slot b o e n hb hx;exact ⟨sl,(hs.2 b (cu (bK (Heap.lt_size e) I.ok.above))).trans e1⟩
  ·obtain ⟨o',e1⟩:=I.base.there b o e hx;exact ⟨o',(hs.2 b (cu (bK (Heap.lt_size e) I.ok.above))).trans e1⟩
  ·by_cases hj:j=i
   ·subst hj;rw[hi] at e1;cases e1;rw[List.getElem?_set_self hiσ] at e2;cases e2;exact ⟨u,r,.inl ⟨hk,by simp⟩⟩
   ·rw[List.getElem?_set_ne (Ne.symm hj)] at e2;obtain ⟨u',r',q⟩:=hl j y v' e1 e2 e3;refine ⟨u',r',?_⟩;rcases q with ⟨k,e⟩ | ⟨k,c,e,z⟩
    ·refine .inl ⟨k,?_⟩;have:y≠x:=λe=>hj (GY hN e1 (e ▸ hi))
     simp [this,e]
    ·exact .inr ⟨k,c,e,z.sameBut hs (cne y c e)⟩
  ·obtain ⟨w',z⟩:=I.cell y c e;exact ⟨w',z.sameBut hs (cne y c e)⟩
  ·obtain ⟨e,n,ne,nf,d⟩:=I.pin p hp;exact ⟨(hs.2 p.1 ne).trans e,n,ne,nf,d⟩
 ·have hfn:X.fn x=true:=by
   rcases hf with z | z
   ·exact z
   ·rw[z] at hk;cases hk
  obtain ⟨c,hc⟩:=I.ok.has x (.inl hk);obtain ⟨w',z⟩:=I.cell x c hc;refine wpAny_storeName_cell I.ok.kind hk hc z (λh' hc' hs=>?_);obtain ⟨oc,hoc,hocd⟩:=id z;refine h { s with heap:=h' } ⟨I.ok,I.os,I.bare,⟨λb o e n hb hx=>?_,λb o e n hb hx=>?_,I.base.free,λb o e hx=>?_,I.base.tups,I.base.frzs,I.base.tbls⟩,⟨m,hn.sameBut hs (Ne.symm (cne x c hc)),λj y v' e1 e2 e3=>?_⟩,λy c' e=>?_,I.free,I.freeC,λp hp=>?_,tracked ⟨oc,hoc,I.freeC x c hc⟩ hs,by simpa using I.len⟩ ⟨c,hs,.inr hc⟩
  ·exact (hs.2 b (cu (bK (Heap.lt_size e) (I.ok.cab x c hfn hc)))).trans (I.base.keep b o e n hb hx)
  ·obtain ⟨sl,e1⟩:=I.base.slot b o e n hb hx;exact ⟨sl,(hs.2 b (cu (bK (Heap.lt_size e) (I.ok.cab x c hfn hc)))).trans e1⟩
  ·obtain ⟨o',e1⟩:=I.base.there b o e hx;exact ⟨o',(hs.2 b (cu (bK (Heap.lt_size e) (I.ok.cab x c hfn hc)))).trans e1⟩
  ·by_cases hj:j=i
   ·subst hj;rw[hi] at e1;cases e1;rw[List.getElem?_set_self hiσ] at e2;cases e2;exact ⟨u,r,.inr ⟨.inl hk,c,hc,hc'⟩⟩
   ·rw[List.getElem?_set_ne (Ne.symm hj)] at e2;obtain ⟨u',r',q⟩:=hl j y v' e1 e2 e3;refine ⟨u',r',?_⟩;rcases q with q | ⟨k,c',e,z'⟩
    ·exact .inl q
    ·refine .inr ⟨k,c',e,z'.sameBut hs ?_⟩;rintro rfl;exact hj (GY hN e1 (I.ok.inj _ _ _ e hc ▸ hi))
  ·by_cases hcc:c'=c
   ·subst hcc;exact ⟨_,hc'⟩
   ·obtain ⟨w2,z2⟩:=I.cell y c' e;exact ⟨w2,z2.sameBut hs hcc⟩
  ·obtain ⟨e,n,ne,nf,d⟩:=I.pin p hp;refine ⟨(hs.2 p.1 ?_).trans e,n,ne,nf,d⟩;intro q;rw[q,hoc] at e;have q':oc=p.2:=cb e;exact d w' (by rw[<- q'];exact hocd)
theorem vp {M:Model} {A:Around} {E:Value->Shared->Prop} {i:Nat} {x:Str} {v:V} {u:Value} {Q:Unit->Shared->Prop} (I:Inv X pins σ H s) (hN:X.N.Nodup) (hi:X.N[i]?=some x) (hx:Loc X.env.scope x) (r:RelV v u)
  (h:∀s',Inv X pins (σ.set i (some v)) H s'->Q () s') (hf:X.fn x=true\/X.env.scope.names.lookup x=some .local:=by first | exact .inl rfl | exact .inr rfl | assumption):wpAny M A (storeName X.env x u) Q E s :=
 Cy I hN hi hx r (λs' I' _=>h s' I') hf
theorem Inv.call' {s':Shared} {ch:List Addr} (I:Inv X pins σ H s) (ho:s'.os=s.os) (u:Un (Lx X.stack) ch H H' s.heap s'.heap) (hok:zS X.prog X.w H' s'.heap) (hg:AllBare s'.gens)
  (hch:∀b∈ch,(b∈X.ex\/X.s₀.heap.objs.size<=b)/\b≠X.env.locals/\(∀x c,X.env.cells.lookup x=some c->c≠b)/\∀p∈X.pn++pins,p.1≠b):Inv X pins σ H' s':=by
 obtain ⟨h',g',d',t',o'⟩:=s';have e:o'=s.os:=ho;subst e;exact I.call (g':=g') (t':=t') (d':=d') u hok hg hch
end
abbrev XK:=Value->Option Addr->Hp->Prop
abbrev St:=List (Option V)
abbrev VK:=V->Hp->Prop
abbrev TE:=St->Hp->VK->Prop
abbrev TT:=St->Hp->(Bool->Hp->Prop)->Prop
abbrev TA:=St->Hp->(List V->Hp->Prop)->Prop
structure Ends where
 nx:St->Hp->Prop
 rt:VK
 bk:St->Hp->Prop:=λ_ _=>False
 ct:St->Hp->Prop:=λ_ _=>False
abbrev TS:=Ends->St->Hp->Prop
def EP (X:Cx) (pins:List (Addr×Obj)) (σ:St) (Q:VK) (u:Value) (s':Shared):Prop:=∃v H',Inv X pins σ H' s'/\RelV v u/\Q v H'
def TP (X:Cx) (pins:List (Addr×Obj)) (σ:St) (Q:Bool->Hp->Prop) (b:Bool) (s':Shared):Prop:=∃H',Inv X pins σ H' s'/\Q b H'
def AP (X:Cx) (pins:List (Addr×Obj)) (σ:St) (Q:List V->Hp->Prop) (us:List Value) (s':Shared):Prop:=∃vs H',Inv X pins σ H' s'/\cZ vs us/\Q vs H'
def SP (X:Cx) (pins:List (Addr×Obj)) (D:Ends) (f:Flow) (s':Shared):Prop :=
 match f with
 | .next=>∃σ' H',Inv X pins σ' H' s'/\D.nx σ' H'
 | .brk=>∃σ' H',Inv X pins σ' H' s'/\D.bk σ' H'
 | .cont=>∃σ' H',Inv X pins σ' H' s'/\D.ct σ' H'
 | .ret u=>∃v σ' H',Inv X pins σ' H' s'/\RelV v u/\D.rt v H'
def PE (X:Cx) (e:Expr) (t:TE):Prop :=
 ∀(pins:List (Addr×Obj)) (s:Shared) (σ:St) (H:Hp) (Q:VK),Inv X pins σ H s->t σ H Q->wpAny (model X.prog X.w) X.A (eval e X.env) (EP X pins σ Q) X.xe s
def PT (X:Cx) (e:Expr) (t:TT):Prop :=
 ∀(pins:List (Addr×Obj)) (s:Shared) (σ:St) (H:Hp) (Q:Bool->Hp->Prop),Inv X pins σ H s->t σ H Q->wpAny (model X.prog X.w) X.A (isTrue e X.env (eval e X.env)) (TP X pins σ Q) X.xe s
def PW (X:Cx) (e:Expr) (t:TT):Prop :=
 ∀(whole:Sem Value) (pins:List (Addr×Obj)) (s:Shared) (σ:St) (H:Hp) (Q:Bool->Hp->Prop),Inv X pins σ H s->t σ H Q->wpAny (model X.prog X.w) X.A (isTrue e X.env whole) (TP X pins σ Q) X.xe s
theorem PW.pt {X:Cx} {e:Expr} {t:TT} (h:PW X e t):PT X e t:=h _
def PA (X:Cx) (es:List Expr) (t:TA):Prop :=
 ∀(pos:Pos) (pins:List (Addr×Obj)) (s:Shared) (σ:St) (H:Hp) (Q:List V->Hp->Prop),Inv X pins σ H s->t σ H Q->wpAny (model X.prog X.w) X.A (spliced (backTo pos (starEach es X.env))) (AP X pins σ Q) X.xe s
def PS (X:Cx) (st:Stmt) (t:TS):Prop :=
 ∀(pins:List (Addr×Obj)) (s:Shared) (σ:St) (H:Hp) (D:Ends),Inv X pins σ H s->t D σ H->wpAny (model X.prog X.w) X.A (exec st X.env) (SP X pins D) X.xe s
def Jw (X:Cx) (st:List Stmt) (t:TS):Prop :=
 ∀(pins:List (Addr×Obj)) (s:Shared) (σ:St) (H:Hp) (D:Ends),Inv X pins σ H s->t D σ H->wpAny (model X.prog X.w) X.A (execs st X.env) (SP X pins D) X.xe s
theorem gU {α:Type} {t:Sem α} {Q Q':α->Shared->Prop} {M:Model} {A:Around} {E:Value->Shared->Prop} {s:Shared} (h:wpAny M A t Q E s) (hQ:∀a s,Q a s->Q' a s):wpAny M A t Q' E s:=wpAny_mono h hQ λ_ _ x=>x
section
variable {X:Cx}
def Qh (i:Nat):TE:=λσ H Q=>∃v,σ[i]?=some (some v)/\Q v H
def tC (v:V):TE:=λ_ H Q=>Q v H
theorem QX {i:Nat} {x:Str} {pos:Pos} (hN:X.N[i]?=some x) (hv:Ui X.env.scope x) (hd:(x == ("__debug__":Str))=false:=by decide) (hcd:(x == ("__classdict__":Str))=false:=by decide):PE X (.Name x pos) (Qh i):=by
 sleep 4;obtain ⟨v,e,h⟩:=h;obtain ⟨m,hn,hl⟩:=I.loc;obtain ⟨u,r,l⟩:=hl i x v hN e hv;have fin:EP X pins σ Q u s:=⟨v,H,I,r,h⟩;rcases l with ⟨hk,hm⟩ | ⟨hk,c,hc,hcell⟩
 ·exact wpAny_Name (wpAny_loadName_local I.ok.kind hk hn hm fin) hd
 ·rcases hk with hk | hk
  ·exact wpAny_Name (wpAny_loadName_cell I.ok.kind hk hc hcell fin) hd
  ·exact wpAny_Name (wpAny_loadName_free I.ok.kind hk hc hcell fin hcd) hd
theorem ar {i j pos}:PE X (.Constant (.int i) j pos) (tC (.int i)):=λ_ _ _ H _ I h=>wpAny_Constant_int ⟨.int i,H,I.tok _,⟨_,rfl⟩,h⟩
theorem mh {b j pos}:PE X (.Constant (.bool b) j pos) (tC (.bl b)):=λ_ _ _ H _ I h=>Constant_bool ⟨.bl b,H,I,rfl,h⟩
theorem uS {j pos}:PE X (.Constant .none j pos) (tC .non):=λ_ _ _ H _ I h=>Constant_none ⟨.non,H,I,rfl,h⟩
theorem iZ {x j pos}:PE X (.Constant (.str x) j pos) (tC (.str x)):=λ_ _ _ H _ I h=>Calls.Constant_str ⟨.str x,H,I.tok _,⟨_,rfl⟩,h⟩
def Gl (X:Cx) (x:Str):Prop:=X.env.kindOf x=some .globalImplicit
theorem Fc {E:Value->Shared->Prop} {pins:List (Addr×Obj)} {s:Shared} {σ:St} {H:Hp} {x:Str} {u:Value} {pos:Pos} {Q:Value->Shared->Prop} (I:Inv X pins σ H s) (hg:Gl X x) (hm:X.mg x=some u) (h:Q u s)
  (hd:(x == ("__debug__":Str))=false:=by decide):wpAny (model X.prog X.w) X.A (eval (.Name x pos) X.env) Q E s :=
 Calls.Name_function_global I.ok.kind hg (Calls.loadGlobal_global (by rw[I.ok.glob];exact I.mod.glob.keeps I.bk) hm h) hd
theorem kh {E:Value->Shared->Prop} {pins:List (Addr×Obj)} {s:Shared} {σ:St} {H:Hp} {x:Str} {u:Value} {pos:Pos} {Q:Value->Shared->Prop} (I:Inv X pins σ H s) (hg:Gl X x) (hm:X.mg x=none) (hv:bootBuiltins x=some u) (h:Q u s)
  (hn:x≠"__name__":=by decide) (hd:(x == ("__debug__":Str))=false:=by decide):wpAny (model X.prog X.w) X.A (eval (.Name x pos) X.env) Q E s:=by
 obtain ⟨mb,h1,h2⟩:=I.mod.blt;exact Calls.Name_function_global I.ok.kind hg (Calls.loadGlobal_builtin (by rw[I.ok.glob];exact I.mod.glob.keeps I.bk) hm (by rw[I.ok.blt];exact h1.keeps I.bk) ((h2 x hn).trans hv) h) hd
theorem kC {x:Str} {v:V} {u:Value} {pos:Pos} (hg:Gl X x) (hm:X.mg x=some u) (r:RelV v u) (hd:(x == ("__debug__":Str))=false:=by decide):PE X (.Name x pos) (tC v) :=
 λ_ _ _ H _ I h=>Fc I hg hm ⟨v,H,I,r,h⟩ hd
theorem JR {x:Str} {v:V} {u:Value} {pos:Pos} (hg:Gl X x) (hm:X.mg x=none) (hv:bootBuiltins x=some u) (r:RelV v u) (hn:x≠"__name__":=by decide) (hd:(x == ("__debug__":Str))=false:=by decide):PE X (.Name x pos) (tC v) :=
 λ_ _ _ H _ I h=>kh I hg hm hv ⟨v,H,I,r,h⟩ hn hd
variable {a b:Expr} {ta tb:TE} {pos:Pos}
def tB (t:TE):TT:=λσ H Q=>t σ H λx H1=>∃c,x=.bl c/\Q c H1
theorem jx {e : Expr} {t : TE} (h : PE X e t) (he : ∀ whole, isTrue e X.env whole = (do let v <- whole; standAt e.pos; holding [v] (truthy v)) := by intro _; rfl) : PT X e (tB t) := by
  intro pins s σ H Q I hw;refine isTrue_plain (gU (h pins s σ H _ I hw) λv s1 ⟨x, H1, I1, r1, q1⟩ => ?_) (he _);obtain ⟨d, rfl, q⟩ := q1;cases r1;exact wpAny_truthy_bool ⟨H1, I1, q⟩

variable {tA tB':TT} {rest:List Expr}
def Sl (t u:TT):TT:=λσ H Q=>t σ H λc H1=>if c=true then u σ H1 Q else Q false H1
def tOr (t u:TT):TT:=λσ H Q=>t σ H λc H1=>if c=true then Q true H1 else u σ H1 Q
def Sh (t:TT):TT:=λσ H Q=>t σ H λc H1=>Q (!c) H1
theorem ky (ha:PT X a tA):PW X (.BoolOp .And [a] pos) tA:=by
 intro wh pins s σ H Q I h;refine isTrue_and (gU (ha pins s σ H Q I h) λc s1 e=>?_);cases c with
 | true=>exact isTrue_and_nil e
 | false=>exact e
theorem jv (ha:PT X a tA):PW X (.BoolOp .Or [a] pos) tA:=by
 intro wh pins s σ H Q I h;refine isTrue_or (gU (ha pins s σ H Q I h) λc s1 e=>?_);cases c with
 | false=>exact isTrue_or_nil e
 | true=>exact e
theorem jw (ha:PT X a tA) (hb:PW X (.BoolOp .And (b :: rest) pos) tB'):PW X (.BoolOp .And (a :: b :: rest) pos) (Sl tA tB'):=by
 intro wh pins s σ H Q I h;refine isTrue_and (gU (ha pins s σ H _ I h) λc s1 ⟨H1,I1,q1⟩=>?_);cases c with
 | true=>exact hb wh pins s1 σ H1 Q I1 q1
 | false=>exact ⟨H1,I1,q1⟩
theorem me (ha:PT X a tA) (hb:PW X (.BoolOp .Or (b :: rest) pos) tB'):PW X (.BoolOp .Or (a :: b :: rest) pos) (tOr tA tB'):=by
 intro wh pins s σ H Q I h;refine isTrue_or (gU (ha pins s σ H _ I h) λc s1 ⟨H1,I1,q1⟩=>?_);cases c with
 | true=>exact ⟨H1,I1,q1⟩
 | false=>exact hb wh pins s1 σ H1 Q I1 q1
theorem j9 (ha:PT X a tA):PT X (.UnaryOp .Not a pos) (Sh tA):=by
 sleep 4;exact isTrue_not (ha pins s σ H (λc H1=>Q (!c) H1) I h)
def Pl (ta tb:TE):TE:=λσ H Q=>ta σ H λx H1=>∃c,x=.bl c/\if c=true then tb σ H1 Q else Q (.bl false) H1
def Pe (ta:TE):TE:=λσ H Q=>ta σ H λx H1=>∃c,x=.bl c/\Q (.bl (!c)) H1
theorem EM {op} {t:TE} (h:PE X a t):PE X (.BoolOp op [a] pos) t:=λpins s σ H Q I hw=>BoolOp_one (h pins s σ H Q I hw)
theorem EO (ha:PE X a ta) (hb:PE X (.BoolOp .And (b :: rest) pos) tb):PE X (.BoolOp .And (a :: b :: rest) pos) (Pl ta tb):=by
 sleep 4;refine BoolOp_and (gU (ha pins s σ H _ I h) λv s1 ⟨x,H1,I1,r1,q1⟩=>?_);obtain ⟨c,rfl,q1⟩:=q1;cases r1;refine wpAny_truthy_bool ?_;cases c with
 | true=>exact hb pins s1 σ H1 Q I1 q1
 | false=>exact ⟨.bl false,H1,I1,rfl,q1⟩
theorem QY (ha:PE X a ta):PE X (.UnaryOp .Not a pos) (Pe ta):=by
 sleep 4;refine UnaryOp_ (gU (ha pins s σ H _ I h) λv s1 ⟨x,H1,I1,r1,q1⟩=>?_);obtain ⟨c,rfl,q1⟩:=q1;cases r1;exact not_of (wpAny_truthy_bool ⟨.bl (!c),H1,I1,rfl,q1⟩)
def tIf (t:TT) (ta tb:TE):TE:=λσ H Q=>t σ H λc H1=>if c=true then ta σ H1 Q else tb σ H1 Q
theorem GH {c:Expr} (hc:PT X c tA) (ha:PE X a ta) (hb:PE X b tb):PE X (.IfExp c a b pos) (tIf tA ta tb):=by
 sleep 4;refine wpAny_IfExp (gU (hc pins s σ H _ I h) λd s1 ⟨H1,I1,q1⟩=>?_);cases d with
 | true=>exact ha pins s1 σ H1 Q I1 q1
 | false=>exact hb pins s1 σ H1 Q I1 q1
end
def bR (K:FG9) (H:Hp) (a:Addr) (xs:List V):Prop :=
 Rd H a (.lst xs) \/
  ∃(o:Obj) (its:Array Value) (n:Nat),K.lookup a=some o/\o.cls=.type "list"/\o.dict=none/\o.data=.seq its n/\its.size<=sizeLine/\cZ xs its.toList
def qJ (K:FG9) (H:Hp) (a:Addr) (xs:List V):Prop :=
 Rd H a (.tup xs) \/
  ∃(o:Obj) (its:Array Value) (n:Nat),K.lookup a=some o/\o.cls=.type "tuple"/\o.data=.seq its n/\its.size<=sizeLine/\cZ xs its.toList
def Uh:Value->Option V
 | .none=>some .non
 | .bool b=>some (.bl b)
 | .int i _=>some (.int i)
 | .str x _=>some (.str x)
 | .bytes b _=>some (.byt b)
 | .float b _=>some (.flt b)
 | .ref a=>some (.ref a)
 | .type n=>some (.ty n)
 | _=>none
theorem RelV.abs {x:V} {u:Value} (r:RelV x u):Uh u=some x:=by
 cases x with
 | non=>cases r;rfl
 | bl _=>cases r;rfl
 | int _=>obtain ⟨t,rfl⟩:=r;rfl
 | str _=>obtain ⟨t,rfl⟩:=r;rfl
 | byt _=>obtain ⟨t,rfl⟩:=r;rfl
 | flt _=>obtain ⟨t,rfl⟩:=r;rfl
 | ref _=>cases r;rfl
 | ty _=>cases r;rfl
theorem RelV.inj {x y:V} {u:Value} (r:RelV x u) (q:RelV y u):x=y:=cb (r.abs.symm.trans q.abs)
theorem cZ.inj:∀{xs ys:List V} {us:List Value},cZ xs us->cZ ys us->xs=ys
 | _,_,_,.nil,.nil=>rfl
 | _,_,_,.cons r t,.cons r' t'=>by rw[r.inj r',cZ.inj t t']
section
variable {X:Cx} {pins:List (Addr×Obj)} {σ:St} {H:Hp} {s:Shared} {a:Addr} {xs ys:List V}
theorem bR.of {K:FG9} (h:H a=some (.lst xs)):bR K H a xs:=.inl (.inl h)
theorem qJ.of {K:FG9} (h:H a=some (.tup xs)):qJ K H a xs:=.inl (.inl h)
theorem Inv.list (I:Inv X pins σ H s) (h:bR X.K H a xs):∃its:List Value,cZ xs its/\PlainL s.heap a its.toArray/\xs.length<=sizeLine:=by
 rcases h with h | ⟨o,its,n,hk,hc,hd,hs,hz,r⟩
 ·obtain ⟨z,its,n,r,e⟩:=h.ok I.hok;exact ⟨its,r,⟨_,n,e,rfl,rfl,rfl⟩,z⟩
 ·refine ⟨its.toList,r,⟨o,n,I.kIn a o hk,hc,hd,by simpa using hs⟩,?_⟩;have e:=r.length;simp only[Array.length_toList] at e
  lia
theorem Inv.tuple (I:Inv X pins σ H s) (h:qJ X.K H a xs):∃its:List Value,cZ xs its/\IsTup s.heap a its.toArray/\xs.length<=sizeLine:=by
 rcases h with h | ⟨o,its,n,hk,hc,hs,hz,r⟩
 ·obtain ⟨z,its,r,p⟩:=h.ok I.hok;exact ⟨its,r,p,z⟩
 ·refine ⟨its.toList,r,⟨o,I.kIn a o hk,hc,n,by simpa using hs⟩,?_⟩;have e:=r.length;simp only[Array.length_toList] at e
  lia
theorem Inv.list_inj (I:Inv X pins σ H s) (h:bR X.K H a xs) (h':bR X.K H a ys):xs=ys:=by
 obtain ⟨its,r,⟨o,n,e,_,_,d⟩,_⟩:=I.list h;obtain ⟨its',r',⟨o',n',e',_,_,d'⟩,_⟩:=I.list h';rw[e] at e';cases e';rw[d] at d';injection d' with d1 _
 have:its=its':=by simpa using congrArg Array.toList d1
 subst this;exact r.inj r'
theorem Inv.tuple_inj (I:Inv X pins σ H s) (h:qJ X.K H a xs) (h':qJ X.K H a ys):xs=ys:=by
 obtain ⟨its,r,⟨o,e,_,n,d⟩,_⟩:=I.tuple h;obtain ⟨its',r',⟨o',e',_,n',d'⟩,_⟩:=I.tuple h';rw[e] at e';cases e';rw[d] at d';injection d' with d1 _
 have:its=its':=by simpa using congrArg Array.toList d1
 subst this;exact r.inj r'
end
abbrev Cx.wish (X:Cx) (E:Value->Shared->Prop):Cx:={ X with xe:=E }
abbrev Cx.nox (X:Cx):Cx:=X.wish λ_ _=>False
theorem Cx.Ok.wish {X:Cx} (ok:X.Ok) (E:Value->Shared->Prop):(X.wish E).Ok :=
 ⟨ok.mod,ok.kind,ok.glob,ok.blt,ok.above,ok.inj,ok.has,ok.cab,ok.hd,ok.frames,ok.stk,ok.exf,ok.bs,ok.bsz,ok.noex,ok.exfs,ok.funs,ok.frf⟩
theorem Cx.Ok.unwish {X:Cx} {E:Value->Shared->Prop} (ok:(X.wish E).Ok):X.Ok :=
 ⟨ok.mod,ok.kind,ok.glob,ok.blt,ok.above,ok.inj,ok.has,ok.cab,ok.hd,ok.frames,ok.stk,ok.exf,ok.bs,ok.bsz,ok.noex,ok.exfs,ok.funs,ok.frf⟩
section
variable {X:Cx} {pins:List (Addr×Obj)} {σ:St} {H:Hp} {s:Shared} {E:Value->Shared->Prop}
theorem Inv.wish (I:Inv X pins σ H s) (E:Value->Shared->Prop):Inv (X.wish E) pins σ H s:=⟨I.ok.wish E,I.os,I.bare,I.base,I.loc,I.cell,I.free,I.freeC,I.pin,I.hok,I.len⟩
theorem Inv.unwish (I:Inv (X.wish E) pins σ H s):Inv X pins σ H s:=⟨I.ok.unwish,I.os,I.bare,I.base,I.loc,I.cell,I.free,I.freeC,I.pin,I.hok,I.len⟩
theorem SP.unwish {D:Ends} {f:Flow} {s':Shared} (h:SP (X.wish E) pins D f s'):SP X pins D f s':=by
 cases f with
 | next=>obtain ⟨σ',H',I,q⟩:=h;exact ⟨σ',H',I.unwish,q⟩
 | brk=>obtain ⟨σ',H',I,q⟩:=h;exact ⟨σ',H',I.unwish,q⟩
 | cont=>obtain ⟨σ',H',I,q⟩:=h;exact ⟨σ',H',I.unwish,q⟩
 | ret u=>obtain ⟨v,σ',H',I,r,q⟩:=h;exact ⟨v,σ',H',I.unwish,r,q⟩
theorem Jw.nox {st:List Stmt} {t:TS} (h:Jw X.nox st t):Jw X st t:=λpins s σ H D I hw =>
 wpAny_mono (h pins s σ H D (I.wish _) hw) (λ_ _ q=>q.unwish) λ_ _ z=>False.elim z
end
section
variable {X:Cx} {st:Stmt} {rest:List Stmt} {t u:TS} {e:Expr} {te:TE} {pos:Pos}
def Pf:TS:=λD σ H=>D.nx σ H
def Sd (t u:TS):TS:=λD σ H=>t { D with nx:=u D } σ H
theorem bW:Jw X [] Pf:=λ_ _ σ H _ I h=>wpAny_execs_nil ⟨σ,H,I,h⟩
theorem av (h1:PS X st t) (h2:Jw X rest u):Jw X (st :: rest) (Sd t u):=by
 sleep 8;refine wpAny_execs_cons (gU (h1 pins s σ H { D with nx:=u D } I h) λf s1 q=>?_);cases f with
 | next =>
  obtain ⟨σ',H',I',q⟩:=q;exact h2 pins s1 σ' H' D I' q
 | ret v=>exact q
 | brk=>exact q
 | cont=>exact q
theorem aB (h1:PS X st t):Jw X [st] t:=by
 sleep 8;refine wpAny_execs_cons (gU (h1 pins s σ H D I h) λf s1 q=>?_);cases f with
 | next=>exact wpAny_execs_nil q
 | ret v=>exact q
 | brk=>exact q
 | cont=>exact q
theorem Inv.quiet {pins:List (Addr×Obj)} {σ:St} {H:Hp} {s:Shared} (I:Inv X pins σ H s):interactive X.env=false:=by simp [interactive,I.ok.kind]
def Pj (te:TE):TS:=λD σ H=>te σ H λ_ H1=>D.nx σ H1
theorem jy (he:PE X e te) (hs:swapsWith e none pos.line X.env=pure false:=by rfl):PS X (.Expr e pos) (Pj te):=by
 sleep 8;exact wpAny_Expr_any (gU (he pins s σ H _ I h) λv s1 ⟨x,H1,I1,r1,q1⟩=>⟨σ,H1,I1,q1⟩) I.quiet hs
def Se (te:TE):TS:=λD σ H=>te σ H D.rt
theorem aW (he:PE X e te):PS X (.Return (some e) pos) (Se te):=by
 sleep 8;exact wpAny_Return_some (gU (he pins s σ H _ I h) λv s1 ⟨x,H1,I1,r1,q1⟩=>⟨x,σ,H1,I1,r1,q1⟩)
def Sj (c:TT) (t u:TS):TS:=λD σ H=>c σ H λb H1=>if b=true then t D σ H1 else u D σ H1
theorem cY {c:Expr} {a b:List Stmt} {tc:TT} (hc:PT X c tc) (ha:Jw X a t) (hb:Jw X b u):PS X (.If c a b pos) (Sj tc t u):=by
 sleep 8;refine wpAny_If (gU (hc pins s σ H _ I h) λd s1 ⟨H1,I1,q1⟩=>?_);cases d with
 | true=>exact ha pins s1 σ H1 D I1 q1
 | false=>exact hb pins s1 σ H1 D I1 q1
end
abbrev TG:=V->St->Hp->(St->Hp->Prop)->Prop
abbrev NA:=List V->St->Hp->(St->Hp->Prop)->Prop
def PG (X:Cx) (target:Expr) (t:TG):Prop :=
 ∀(pins:List (Addr×Obj)) (s:Shared) (σ:St) (H:Hp) (v:V) (u:Value) (Q:St->Hp->Prop),Inv X pins σ H s->RelV v u->t v σ H Q →
  wpAny (model X.prog X.w) X.A (assign target X.env u) (λ_ s'=>∃σ' H',Inv X pins σ' H' s'/\Q σ' H') X.xe s
def Tq (X:Cx) (ts:List Expr) (t:NA):Prop :=
 ∀(pins:List (Addr×Obj)) (s:Shared) (σ:St) (H:Hp) (vs:List V) (us:List Value) (Q:St->Hp->Prop),Inv X pins σ H s->cZ vs us->t vs σ H Q →
  wpAny (model X.prog X.w) X.A (assignInOrder ((assignEach ts X.env).map (·.2)) us) (λ_ s'=>∃σ' H',Inv X pins σ' H' s'/\Q σ' H') X.xe s
abbrev Jt:=V->V->V->Hp->(Hp->Prop)->Prop
def RC (X:Cx) (t:Jt):Prop :=
 ∀(pins:List (Addr×Obj)) (s:Shared) (σ:St) (H:Hp) (o i v:V) (ov iv u:Value) (Q:Hp->Prop),Inv X pins σ H s->RelV o ov->RelV i iv->RelV v u->t o i v H Q →
  wpAny (model X.prog X.w) X.A (setItem ov iv u) (λ_ s'=>∃H',Inv X pins σ H' s'/\Q H') X.xe s
abbrev To:=V->V->Hp->VK->Prop
def PIp (X:Cx) (op:Operator) (t:To):Prop :=
 ∀(pins:List (Addr×Obj)) (s:Shared) (σ:St) (H:Hp) (x y:V) (v u:Value) (Q:VK),Inv X pins σ H s->RelV x v->RelV y u->t x y H Q →
  wpAny (model X.prog X.w) X.A (inplaceOp op v u) (EP X pins σ Q) X.xe s
section
variable {X:Cx} {pos:Pos}
def Ka (i:Nat):TG:=λv σ H Q=>Q (σ.set i (some v)) H
theorem aQ {i:Nat} {x:Str} (hN:X.N.Nodup) (hi:X.N[i]?=some x:=by exact rfl) (hx:Loc X.env.scope x:=by exact Or.inl rfl) (hf:X.fn x=true\/X.env.scope.names.lookup x=some .local:=by first | exact .inl rfl | exact .inr rfl | assumption):PG X (.Name x pos) (Ka i):=by
 intro pins s σ H v u Q I r h;exact wpAny_assign_Name (vp I hN hi hx r (λs' I'=>⟨_,H,I',h⟩) hf)
def Tf:NA:=λvs σ H Q=>vs=[]/\Q σ H
def PK (t:TG) (u:NA):NA:=λvs σ H Q=>∃v r,vs=v :: r/\t v σ H λσ' H'=>u r σ' H' Q
theorem fY:Tq X [] Tf:=by
 intro pins s σ H vs us Q I r h;obtain ⟨e,h⟩:=h;subst e;cases r;exact assignInOrder_nil ⟨σ,H,I,h⟩
theorem cC {e:Expr} {es:List Expr} {t:TG} {u:NA} (h1:PG X e t) (h2:Tq X es u)
  (hs:(assignEach (e :: es) X.env).map (·.2)=assign e X.env :: (assignEach es X.env).map (·.2):=by rfl):Tq X (e :: es) (PK t u):=by
 intro pins s σ H vs us Q I r h;obtain ⟨v,vr,e1,h⟩:=h;subst e1;cases r with
 | cons r rr =>
  rw[hs];refine assignInOrder_cons (gU (h1 pins s σ H _ _ _ I r h) λ_ s1 ⟨σ1,H1,I1,q1⟩=>?_);exact h2 pins s1 σ1 H1 _ _ Q I1 rr q1
def Rj (K:FG9) (n:Nat) (t:NA):TG:=λv σ H Q=>∃a xs,v=.ref a/\qJ K H a xs/\xs.length=n/\t xs σ H Q
theorem pS {es:List Expr} {k:Nat} {t:NA} {n:Nat} (hc:X.calm=true) (h:Tq X es t)
  (hn:(assignEach es X.env).length=n:=by rfl) (hst:(assignEach es X.env).findIdx? (·.1)=none:=by rfl):PG X (.Tuple es k pos) (Rj X.K n t):=by
 intro pins s σ H v u Q I r hw;obtain ⟨a,xs,e1,hq,hl,hw⟩:=hw;subst e1;cases r;obtain ⟨its,rv,ht,hz⟩:=I.tuple hq;refine assign_Tuple_tuple (I.ok.hd hc) ht (by simp [hn,<- hl,rv.length]) hst λh' hx=>?_
 have I1:Inv X pins σ H { s with heap:=h' }:=I.kept (t':=s.toks) λb o e=>hx b o (cu (Heap.lt_size e)) e
 exact h pins _ σ H xs _ Q I1 (by simpa using rv) hw
def Te (to ti:TE) (t:Jt):TG:=λv σ H Q=>to σ H λo H1=>ti σ H1 λi H2=>t o i v H2 λH3=>Q σ H3
theorem gQ {o i : Expr} {to ti : TE} {t : Jt} (ho : PE X o to) (hi : PE X i ti) (hs : RC X t)
    (ha : ∀ v, assign (.Subscript o i pos) X.env v = (do
      let ov <- holding [v] (eval o X.env)
      let iv <- holding [v, ov] (eval i X.env)
      standAt pos
      holding [v, ov, iv] (setItem ov iv v)
      release [v, ov, iv] []) := by intro _; rfl) : PG X (.Subscript o i pos) (Te to ti t) := by
  intro pins s σ H v u Q I r h;rw [ha];refine wpAny_bind (wpAny_holding (gU (ho pins s σ H _ I h) λov s1 ⟨x, H1, I1, r1, q1⟩ => ?_));refine wpAny_bind (wpAny_holding (gU (hi pins s1 σ H1 _ I1 q1) λiv s2 ⟨y, H2, I2, r2, q2⟩ => ?_));refine wpAny_bind (wpAny_standAt (wpAny_bind (wpAny_holding (gU (hs pins s2 σ H2 x y v ov iv u _ I2 r1 r2 r q2) λ_ s3 ⟨H3, I3, q3⟩ => ?_))));exact wpAny_release ⟨σ, H3, I3, q3⟩
def NP (te:TE) (g:TG):TS:=λD σ H=>te σ H λx H1=>g x σ H1 D.nx
theorem fh {tg e:Expr} {te:TE} {g:TG} (he:PE X e te) (hg:PG X tg g) (hs:swapsWithSole [tg] e pos.line X.env=pure false:=by rfl) (hw:swappedStores [tg] e X.env=pure none:=by rfl)
  (h1:(assignEach [tg] X.env).map (·.2)=[assign tg X.env]:=by rfl):PS X (.Assign [tg] e pos) (NP te g):=by
 sleep 8;refine wpAny_Assign_stores (gU (he pins s σ H _ I h) λv s1 ⟨x,H1,I1,r1,q1⟩=>?_) hs hw;rw[h1];exact gU (hg pins s1 σ H1 x v _ I1 r1 q1) λ_ s2 q=>q
theorem a9 {i:Nat} {x:Str} {e:Expr} {te:TE} {pos':Pos} (hN:X.N.Nodup) (hi:X.N[i]?=some x) (hx:Loc X.env.scope x) (he:PE X e te) (hs:swapsWith e (some (.Name x pos')) pos.line X.env=pure false:=by rfl) (hf:X.fn x=true\/X.env.scope.names.lookup x=some .local:=by first | exact .inl rfl | exact .inr rfl | assumption) :
  PS X (.Assign [.Name x pos'] e pos) (NP te (Ka i)):=by
 sleep 8;refine wpAny_Assign_Name (gU (he pins s σ H _ I h) λv s1 ⟨y,H1,I1,r1,q1⟩=>?_) hs;exact vp I1 hN hi hx r1 (λs2 I2=>⟨_,H1,I2,q1⟩) hf
def Sf (i j:Nat) (ta:TA):TS:=λD σ H=>ta σ H λvs H1=>∃v w,vs=[v,w]/\D.nx ((σ.set i (some v)).set j (some w)) H1
theorem Mj {i j : Nat} {x y : Str} {a b : Expr} {ta : TA} {px py pt : Pos} {kt k2 pt2} (hc : X.calm = true) (hN : X.N.Nodup) (hi : X.N[i]? = some x) (hj : X.N[j]? = some y) (hij : i ≠ j)
    (hx : X.env.scope.names.lookup x = some .local) (hy : X.env.scope.names.lookup y = some .local) (ha : PA X [a, b] ta)
    (hw : swappedStores [.Tuple [.Name x px, .Name y py] kt pt] (.Tuple [a, b] k2 pt2) X.env = pure (some [x, y]))
    (hs : swapsWithSole [.Tuple [.Name x px, .Name y py] kt pt] (.Tuple [a, b] k2 pt2) pos.line X.env = pure false := by rfl) :
    PS X (.Assign [.Tuple [.Name x px, .Name y py] kt pt] (.Tuple [a, b] k2 pt2) pos) (Sf i j ta) := by
  sleep 8;rw [exec_Assign_arm];refine wpAny_bind (wpAny_standAt ?_);rw [hs];refine wpAny_bind (wpAny_pure ?_);rw [if_neg (by decide)];refine wpAny_bind (Tuple_ (gU (ha _ pins s σ H _ I h) λus s1 ⟨vs, H1, I1, r1, q1⟩ => ?_));obtain ⟨v, w, e1, q1⟩ := q1;subst e1
  obtain ⟨u1, u2, rfl, rv, rw'⟩ : ∃ u1 u2, us = [u1, u2] /\ RelV v u1 /\ RelV w u2 := by
    cases r1 with
    | cons p q =>
      cases q with
      | cons p' q' =>
        cases q';exact ⟨_, _, rfl, p, p'⟩
  refine wpAny_newObj_type ?_ (by show 2 ≤ sizeLine; decide);have I2 : Inv X pins σ H1 { s1 with heap := s1.heap.push { cls := .type "tuple", data := .seq [u1, u2].toArray } } := I1.kept (t' := s1.toks) λb o e => Heap.get?_push_of_some _ e
  rw [hw];refine wpAny_bind (wpAny_pure ?_);show wpAny (model X.prog X.w) X.A (do rule "assign.swapped-stores"; let items <- unpackItems (.ref s1.heap.objs.size) 2 none; assignInOrder [λv => bindName X.env y v, λv => bindName X.env x v] items.reverse; pure Flow.next) _ _ _
  refine wpAny_bind (wpAny_rule (wpAny_bind (unpackItems_tuple (items := #[u1, u2]) (I.ok.hd hc) (IsTup.new s1.heap _) λh' hx' => ?_)));have I3 := I2.kept (h' := h') (t' := s1.toks) λb o e => hx' b o (cu (Heap.lt_size e)) e
  show wpAny _ _ (assignInOrder [λv => bindName X.env y v, λv => bindName X.env x v] [u2, u1] >>= λ_ => pure Flow.next) _ _ _
  refine wpAny_bind (assignInOrder_cons (wpAny_bindName (vp I3 hN hj (.inl hy) rw' (λs2 I4 => ?_) (.inr hy))));refine assignInOrder_cons (wpAny_bindName (vp I4 hN hi (.inl hx) rv (λs3 I5 => assignInOrder_nil (wpAny_pure ?_)) (.inr hx)));rw [List.set_comm _ _ (Ne.symm hij)] at I5;exact ⟨_, H1, I5, q1⟩
def Pk (to ti te:TE) (tget:V->V->Hp->VK->Prop) (tip:To) (tset:Jt):TS:=λD σ H=>to σ H λo H1=>ti σ H1 λi H2=>tget o i H2 λx H3=>te σ H3 λy H4=>tip x y H4 λz H5=>tset o i z H5 λH6=>D.nx σ H6
def Tr (X:Cx) (t:V->V->Hp->VK->Prop):Prop :=
 ∀(pins:List (Addr×Obj)) (s:Shared) (σ:St) (H:Hp) (o i:V) (ov iv:Value) (Q:VK),Inv X pins σ H s->RelV o ov->RelV i iv->t o i H Q →
  wpAny (model X.prog X.w) X.A (getItem ov iv) (EP X pins σ Q) X.xe s
theorem OG {o i e : Expr} {to ti te : TE} {tget : V → V → Hp → VK → Prop} {tip : To} {tset : Jt} {op : Operator} {tpos : Pos} (ho : PE X o to) (hi : PE X i ti) (hg : Tr X tget) (he : PE X e te) (hp : PIp X op tip) (hs : RC X tset)
    (ha : ∀ ov iv new, augStore i ov iv new = (do holding [new, ov, iv] (setItem ov iv new); release [new, ov, iv] []; pure .next) := by intros; rfl) : PS X (.AugAssign (.Subscript o i tpos) op e pos) (Pk to ti te tget tip tset) := by
  sleep 8;refine wpAny_AugAssign_SubscriptAny (gU (ho pins s σ H _ I h) λov s1 ⟨x1, H1, I1, r1, q1⟩ => ?_) ha;refine gU (hi pins s1 σ H1 _ I1 q1) λiv s2 ⟨x2, H2, I2, r2, q2⟩ => ?_
  refine gU (hg pins s2 σ H2 x1 x2 ov iv _ I2 r1 r2 q2) λold s3 ⟨x3, H3, I3, r3, q3⟩ => ?_
  refine gU (he pins s3 σ H3 _ I3 q3) λv s4 ⟨x4, H4, I4, r4, q4⟩ => ?_
  refine gU (hp pins s4 σ H4 x3 x4 old v _ I4 r3 r4 q4) λnew s5 ⟨x5, H5, I5, r5, q5⟩ => ?_
  exact gU (hs pins s5 σ H5 x1 x2 x5 ov iv new _ I5 r1 r2 r5 q5) λ_ s6 ⟨H6, I6, q6⟩ => ⟨σ, H6, I6, q6⟩
def ipI (f:Int->Int->Int):To:=λx y H Q=>∃i j,x=.int i/\y=.int j/\Q (.int (f i j)) H
theorem Q9:PIp X .Add (ipI λi j=>i+j):=by
 intro pins s σ H x y v u Q I r1 r2 h;obtain ⟨i,j,e1,e2,q⟩:=h;subst e1;subst e2;obtain ⟨t,rfl⟩:=r1;obtain ⟨t',rfl⟩:=r2;exact iadd_int ⟨.int _,H,I.tok _,⟨_,rfl⟩,q⟩
end
section
variable {X:Cx} {pos:Pos}
def LJ (c:TT) (tb:TS):TS:=λD σ H=>∃W:Nat->St->Hp->Prop,(∃m,W m σ H)/\∀m σ H,W m σ H →
 c σ H λb H1=>if b=true then ∃N:St->Hp->Prop,(∀σ' H',N σ' H'->∃m',m' < m/\W m' σ' H')/\tb { D with nx:=N,ct:=N,bk:=D.nx } σ H1 else D.nx σ H1
theorem AB {c:Expr} {body:List Stmt} {tc:TT} {tb:TS} (hp:PassesOwn (model X.prog X.w) X.A X.env X.xe) (hc:PT X c tc) (hb:Jw X body tb):PS X (.While c body [] pos) (LJ tc tb):=by
 sleep 8;obtain ⟨W,⟨m0,w0⟩,turn⟩:=h;refine wpAny_While (codeAny_whileLoop (λn s'=>∃σ' H',Inv X pins σ' H' s'/\W n σ' H') ?_ m0 ⟨σ,H,I,w0⟩);rintro n s1 ⟨σ1,H1,I1,w1⟩;refine wpAny_passesOwn hp (gU (hc pins s1 σ1 H1 _ I1 (turn n σ1 H1 w1)) λb s2 ⟨H2,I2,q2⟩=>?_);cases b with
 | true =>
  obtain ⟨N,hN,q2⟩:=q2;rw[if_pos rfl];refine wpAny_passesOwn hp (gU (hb pins s2 σ1 H2 _ I2 q2) λf s3 q3=>?_);cases f with
  | next =>
   obtain ⟨σ3,H3,I3,n3⟩:=q3;obtain ⟨m',hm,w3⟩:=hN σ3 H3 n3;exact ⟨m',hm,σ3,H3,I3,w3⟩
  | cont =>
   obtain ⟨σ3,H3,I3,n3⟩:=q3;obtain ⟨m',hm,w3⟩:=hN σ3 H3 n3;exact ⟨m',hm,σ3,H3,I3,w3⟩
  | brk=>exact q3
  | ret v=>exact q3
 | false =>
  rw[if_neg bA];exact wpAny_execs_nil ⟨σ1,H2,I2,q2⟩
end
structure It where
 go:Nat->Hp->Prop
 yld:Nat->Hp->V->Hp->Prop
 stop:Nat->Hp->Prop
def kj (X:Cx) (pins:List (Addr×Obj)) (H:Hp) (b:Addr):Prop :=
 H b=none/\b≠X.env.locals/\b∉X.fs/\(b∈X.ex\/X.s₀.heap.objs.size<=b)/\(∀x c,X.env.cells.lookup x=some c->c≠b)/\∀p∈X.pn++pins,p.1≠b
theorem Inv.fpOk {X:Cx} {pins:List (Addr×Obj)} {σ:St} {H H':Hp} {s:Shared} {b:Addr} (I:Inv X pins σ H s) (hb:s.heap.objs.size<=b) (hn:H' b=none):kj X pins H' b:=by
 refine ⟨hn,Kx (bK I.lt hb),I.nofs hb,.inr (ai I.sz hb),λx c e z=>?_,λp hp z=>?_⟩
 ·obtain ⟨v,q⟩:=I.cell x c e;exact absurd (bK q.lt (by rw[z];exact hb)) (eK _)
 ·exact absurd (bK (Heap.lt_size (I.pin p hp).1) (by rw[z];exact hb)) (eK _)
structure Turn (P:Program) (w:World) (K:FG9) (tg:Expr) (J:It) (fp:List Addr) (it:Addr) (tn:Nat->Heap->Prop):Prop where
 mem:it∈fp
 obj:∀i h,tn i h->∀b∈fp,∃o,h.get? b=some o/\∀v,o.data≠.cell v
 keep:∀i h h',tn i h->(∀b∈fp,∀o,h.get? b=some o->h'.get? b=some o)->tn i h'
 item:∀(X:Cx),X.prog=P->X.w=w->X.K=K->X.calm=true->∀(i:Nat) (pins:List (Addr×Obj)) (s:Shared) (σ:St) (H:Hp) (E:Value->Shared->Prop),Inv X pins σ H s->(∀b∈fp,kj X pins H b)->tn i s.heap->J.go i H →
  wpAny (model P w) X.A (pyNext (.ref it)) (λr s1=>∃u,r=some u /\
   wpAny (model P w) X.A (letOwnedTupleGo tg (.ref it) u) (λ_ s2=>∃x H',Inv X pins σ H' s2/\RelV x u/\J.yld i H x H'/\tn (i+1) s2.heap/\∀b∈fp,H' b=none) E s1) E s
 done:∀(X:Cx),X.prog=P->X.w=w->X.K=K->X.calm=true->∀(i:Nat) (pins:List (Addr×Obj)) (s:Shared) (σ:St) (H:Hp) (E:Value->Shared->Prop),Inv X pins σ H s->(∀b∈fp,kj X pins H b)->tn i s.heap->J.stop i H →
  wpAny (model P w) X.A (pyNext (.ref it)) (λr s1=>r=none/\Inv X pins σ H s1) E s
 self:∀(A:Around) (i:Nat) (s:Shared) (Q:Value->Shared->Prop) (E:Value->Shared->Prop),tn i s.heap->Q (.ref it) s->wpAny (model P w) A (pyIter (.ref it)) Q E s
abbrev TI:=St->Hp->(It->Hp->Prop)->Prop
def PIE (X:Cx) (pins:List (Addr×Obj)) (σ:St) (tg:Expr) (R:It->Hp->Prop) (itv:Value) (s2:Shared):Prop :=
 ∃(it:Addr) (fp:List Addr) (tn:Nat->Heap->Prop) (J:It) (H':Hp),itv=.ref it/\Inv X pins σ H' s2/\Turn X.prog X.w X.K tg J fp it tn/\tn 0 s2.heap/\(∀b∈fp,kj X pins H' b)/\R J H'
def PI (X:Cx) (tg iter:Expr) (wi:TI):Prop :=
 ∀(pins:List (Addr×Obj)) (s:Shared) (σ:St) (H:Hp) (R:It->Hp->Prop),Inv X pins σ H s->wi σ H R →
  wpAny (model X.prog X.w) X.A (eval iter X.env) (λv s1=>wpAny (model X.prog X.w) X.A (pyIter v) (PIE X pins σ tg R) X.xe s1) X.xe s
theorem MP {M : Model} {A : Around} {E : Value → Shared → Prop} {s : Shared} {tg : Expr} {it : Addr} {u : Value} {o : Obj} {n : String} {vs : Array Value} {Q : Unit → Shared → Prop} (ho : s.heap.get? it = some o) (hc : o.cls = .type n) (hd : o.data = .fields vs)
    (hn : ["enumerate", "zip", "dict_itemiterator", "dict_reverseitemiterator", "odict_iterator", "itertools.zip_longest", "itertools.pairwise"].contains n = false) (hQ : Q () s) : wpAny M A (letOwnedTupleGo tg (.ref it) u) Q E s := by
  unfold letOwnedTupleGo
  cases tg <;> first
    | exact wpAny_pure hQ
    | (cases u <;> first
        | exact wpAny_pure hQ
        | (refine wpAny_bind (wpAny_load ho ?_)
           rw [hc, hd];show wpAny M A (if (["enumerate", "zip", "dict_itemiterator", "dict_reverseitemiterator", "odict_iterator", "itertools.zip_longest", "itertools.pairwise"].contains n && vs[0]? == some (rawInt _)) = true then _ else _) Q E s
           rw [if_neg (by intro h; rw [hn, Bool.false_and] at h; cases h)];exact wpAny_pure hQ))

def O9 (K:FG9) (a:Addr):It :=
 ⟨λi H=>∃xs x,bR K H a xs/\xs[i]?=some x,λi H x H'=>H'=H/\∀xs,bR K H a xs->xs[i]?=some x,λi H=>∃xs,bR K H a xs/\xs.length<=i⟩
def RT (K:FG9) (a:Addr):It :=
 ⟨λi H=>∃xs x,qJ K H a xs/\xs[i]?=some x,λi H x H'=>H'=H/\∀xs,qJ K H a xs->xs[i]?=some x,λi H=>∃xs,qJ K H a xs/\xs.length<=i⟩
def Ik (lo:Int) (n:Nat):It:=⟨λi _=>i < n,λi H x H'=>H'=H/\x=.int (lo+i),λi _=>n<=i⟩
theorem KD {P:Program} {w:World} {K:FG9} {tg:Expr} (a it:Addr):Turn P w K tg (O9 K a) [it] it (λi h=>h.IsListIter it a i) where
 mem:=by simp
 obj:=λi h st b hb=>by
  have e:b=it:=by simpa using hb
  subst e;obtain ⟨o,e,c,d⟩:=st;exact ⟨o,e,λv z=>by rw[d] at z;cases z⟩
 keep:=λi h h' st k=>st.at λo e=>k it (by simp) o e
 item:=by
  sleep 2;obtain ⟨xs,x,hq,hx⟩:=hg;obtain ⟨its,rv,p,hz⟩:=I.list hq;obtain ⟨u,hu,ru⟩:=rv.get hx;obtain ⟨f0,f1,f2,f3,f4,f5⟩:=hf it (by simp);refine wpAny_pyNext_list_item st p.isList (x:=u) (by simpa using hu) λh' st' sb=>?_
  have I1:Inv X pins σ H { s with heap:=h' }:=I.turned (t':=s.toks) (λb o hb e=>(sb.2 b hb).trans e) f0 f1 f3 f4 f5;obtain ⟨o,e,c,d⟩:=id st';exact ⟨u,rfl,MP (s:={ s with heap:=h' }) e c d (by decide) ⟨x,H,I1,ru,⟨rfl,λys hy=>by rw[I.list_inj hy hq];exact hx⟩,st',λb hb=>(hf b hb).1⟩⟩
 done:=by
  sleep 2;obtain ⟨xs,hq,hx⟩:=hg;obtain ⟨its,rv,p,hz⟩:=I.list hq;obtain ⟨f0,f1,f2,f3,f4,f5⟩:=hf it (by simp);have hl:=rv.length;exact wpAny_pyNext_list_end (I.ok.hd hc) st p.isList (by simp;lia) λh' eb=>⟨rfl,I.turned (t':=s.toks) (λb o hb e=>eb b o hb e) f0 f1 f3 f4 f5⟩
 self:=λ_ _ _ _ _ st h=>wpAny_pyIter_listiter st h
theorem Ir {P:Program} {w:World} {K:FG9} {tg:Expr} (a it:Addr):Turn P w K tg (RT K a) [it] it (λi h=>h.IsTupleIter it a i) where
 mem:=by simp
 obj:=λi h st b hb=>by
  have e:b=it:=by simpa using hb
  subst e;obtain ⟨o,e,c,d⟩:=st;exact ⟨o,e,λv z=>by rw[d] at z;cases z⟩
 keep:=λi h h' st k=>st.at λo e=>k it (by simp) o e
 item:=by
  sleep 2;obtain ⟨xs,x,hq,hx⟩:=hg;obtain ⟨its,rv,p,hz⟩:=I.tuple hq;obtain ⟨u,hu,ru⟩:=rv.get hx;obtain ⟨f0,f1,f2,f3,f4,f5⟩:=hf it (by simp);refine wpAny_pyNext_tuple_item st (show s.heap.IsTuple a its.toArray from p) (x:=u) (by simpa using hu) λh' st' sb=>?_
  have I1:Inv X pins σ H { s with heap:=h' }:=I.turned (t':=s.toks) (λb o hb e=>(sb.2 b hb).trans e) f0 f1 f3 f4 f5;obtain ⟨o,e,c,d⟩:=id st';exact ⟨u,rfl,MP (s:={ s with heap:=h' }) e c d (by decide) ⟨x,H,I1,ru,⟨rfl,λys hy=>by rw[I.tuple_inj hy hq];exact hx⟩,st',λb hb=>(hf b hb).1⟩⟩
 done:=by
  sleep 2;obtain ⟨xs,hq,hx⟩:=hg;obtain ⟨its,rv,p,hz⟩:=I.tuple hq;obtain ⟨f0,f1,f2,f3,f4,f5⟩:=hf it (by simp);have hl:=rv.length;exact wpAny_pyNext_tuple_end (I.ok.hd hc) st (show s.heap.IsTuple a its.toArray from p) (by simp;lia) λh' eb=>⟨rfl,I.turned (t':=s.toks) (λb o hb e=>eb b o hb e) f0 f1 f3 f4 f5⟩
 self:=λ_ _ _ _ _ st h=>wpAny_pyIter_tupleiter st h
theorem Iu {P:Program} {w:World} {K:FG9} {tg:Expr} (it:Addr) (lo:Int) (n:Nat):Turn P w K tg (Ik lo n) [it] it (λi h=>IsRangeIter h it (lo+(i:Nat)*1) ((n:Int) - (i:Nat)) 1) where
 mem:=by simp
 obj:=λi h st b hb=>by
  have e:b=it:=by simpa using hb
  subst e
  exact ⟨_,st,λv z=>by
   have z':Data.fields _=Data.cell v:=z;cases z'⟩
 keep:=λi h h' st k=>k it (by simp) _ st
 item:=by
  sleep 2;obtain ⟨f0,f1,f2,f3,f4,f5⟩:=hf it (by simp);have W:=Walks.range (prog:=X.prog) (w:=X.w) (I.ok.hd hc) it lo 1 n;refine W.item i s _ _ hg st λv h' tk hv st' kk=>?_
  obtain ⟨t,rfl⟩:=hv;have I1:Inv X pins σ H { s with heap:=h',toks:=tk }:=I.turned (λb o hb e=>kk b o (by simpa using hb) e) f0 f1 f3 f4 f5;refine ⟨_,rfl,MP (s:={ s with heap:=h',toks:=tk }) (n:="range_iterator") st' rfl rfl (by decide) ⟨.int (lo+i),H,I1,⟨t,?_⟩,⟨rfl,rfl⟩,st',λb hb=>(hf b hb).1⟩⟩;rw[Int.mul_one]
 done:=by
  sleep 2;obtain ⟨f0,f1,f2,f3,f4,f5⟩:=hf it (by simp);exact wpAny_pyNext_range_end (I.ok.hd hc) st (by have:n<=i:=hg;lia) λh' eb=>⟨rfl,I.turned (t':=s.toks) (λb o hb e=>eb b o hb e) f0 f1 f3 f4 f5⟩
 self:=λ_ _ _ _ _ st h=>wpAny_pyIter_rangeiter st h
section
variable {X:Cx} {tg:Expr}
def MM (K:FG9) (tl:TE):TI:=λσ H R=>tl σ H λx H1=>∃a,x=.ref a/\(∃xs,bR K H1 a xs)/\R (O9 K a) H1
def Tc (K:FG9) (tl:TE):TI:=λσ H R=>tl σ H λx H1=>∃a,x=.ref a/\(∃xs,qJ K H1 a xs)/\R (RT K a) H1
theorem cM {l:Expr} {tl:TE} (hl:PE X l tl):PI X tg l (MM X.K tl):=by
 intro pins s σ H R I h;refine gU (hl pins s σ H _ I h) λv s1 ⟨x,H1,I1,r1,q1⟩=>?_
 obtain ⟨a,e,⟨xs,hq⟩,q⟩:=q1;subst e;cases r1;obtain ⟨its,rv,p,hz⟩:=I1.list hq;refine wpAny_pyIter_list p.isList ?_;refine ⟨s1.heap.objs.size,[s1.heap.objs.size],_,_,H1,rfl,I1.kept (t':=s1.toks) λb o e=>Heap.get?_push_of_some _ e,KD a _,⟨_,Heap.get?_push_size _ rfl,rfl,rfl⟩,λb hb=>?_,q⟩;have e:b=s1.heap.objs.size:=by simpa using hb
 subst e;exact I1.fpOk (ak _) (I1.hok.fresh (ak _))
theorem QW {l:Expr} {tl:TE} (hl:PE X l tl):PI X tg l (Tc X.K tl):=by
 intro pins s σ H R I h;refine gU (hl pins s σ H _ I h) λv s1 ⟨x,H1,I1,r1,q1⟩=>?_
 obtain ⟨a,e,⟨xs,hq⟩,q⟩:=q1;subst e;cases r1;obtain ⟨its,rv,p,hz⟩:=I1.tuple hq;refine wpAny_pyIter_tuple (show s1.heap.IsTuple a its.toArray from p) ?_;refine ⟨s1.heap.objs.size,[s1.heap.objs.size],_,_,H1,rfl,I1.kept (t':=s1.toks) λb o e=>Heap.get?_push_of_some _ e,Ir a _,⟨_,Heap.get?_push_size _ rfl,rfl,rfl⟩,λb hb=>?_,q⟩;have e:b=s1.heap.objs.size:=by simpa using hb
 subst e;exact I1.fpOk (ak _) (I1.hok.fresh (ak _))
theorem GD {pins:List (Addr×Obj)} {σ:St} {H:Hp} {s:Shared} {R:It->Hp->Prop} {E:Value->Shared->Prop} {lo hi:Int} {t u v:Tok} {tk:Nat} (I:Inv X pins σ H s) (h1:-(2^62)<=lo) (h2:lo < 2^62) (h3:-(2^62)<=hi) (h4:hi < 2^62)
  (q:R (Ik lo (hi - lo).toNat) H):wpAny (model X.prog X.w) X.A (pyIter (.ref s.heap.objs.size)) (PIE X pins σ tg R) E { s with heap:=s.heap.push { cls:=.type "range",data:=.fields #[.int lo t,.int hi u,.int 1 v] },toks:=tk }:=by
 refine wpAny_pyIter_range (IsRange.new ..) (small_one h1 h2 h3 h4) ?_;have I1:Inv X pins σ H { s with heap:=s.heap.push { cls:=.type "range",data:=.fields #[.int lo t,.int hi u,.int 1 v] },toks:=tk }:=I.kept λb o e=>Heap.get?_push_of_some _ e
 refine ⟨(s.heap.push { cls:=.type "range",data:=.fields #[.int lo t,.int hi u,.int 1 v] }).objs.size,[(s.heap.push { cls:=.type "range",data:=.fields #[.int lo t,.int hi u,.int 1 v] }).objs.size],_,_,H,rfl,
  I1.kept (t':=tk) λb o e=>Heap.get?_push_of_some _ e,Iu _ lo (hi - lo).toNat,?_,λb hb=>?_,q⟩
 ·have e1:lo+((0:Nat):Int)*1=lo:=by simp
  have e2:(((hi - lo).toNat:Nat):Int) - ((0:Nat):Int)=Builtin.Range.rangeSize lo hi 1:=by rw[rangeSize_one];split <;> lia
  show IsRangeIter _ _ (lo+((0:Nat):Int)*1) ((((hi - lo).toNat:Nat):Int) - ((0:Nat):Int)) 1
  rw[e1,e2];exact Heap.get?_push_size _ rfl
 ·have e:b=(s.heap.push { cls:=.type "range",data:=.fields #[.int lo t,.int hi u,.int 1 v] }).objs.size:=by simpa using hb
  subst e;exact I1.fpOk (ak _) (I1.hok.fresh (ak _))
def PD (ta:TA):TI:=λσ H R=>ta σ H λvs H1=>∃j:Int,vs=[.int j]/\-(2^62)<=j/\j < 2^62/\R (Ik 0 j.toNat) H1
def PC (ta:TA):TI:=λσ H R=>ta σ H λvs H1=>∃i j:Int,vs=[.int i,.int j]/\(-(2^62)<=i/\i < 2^62/\-(2^62)<=j/\j < 2^62)/\R (Ik i (j - i).toNat) H1
theorem cB {a:Expr} {ta:TA} {p pos:Pos} (hg:Gl X "range") (hm:X.mg "range"=none) (ha:PA X [a] ta) (hs:starEach [a] X.env=[(false,eval a X.env)]:=by rfl):PI X tg (.Call (.Name "range" p) [a] [] pos) (PD ta):=by
 intro pins s σ H R I h;refine Call_ (kh I hg hm boot_range (PyProof.Rows.callWith_type1 (gU (ha pos pins s σ H _ I h) λus s1 ⟨vs,H1,I1,r1,q1⟩=>?_) hs rfl));obtain ⟨j,e,q1,q2,q⟩:=q1;subst e;cases r1 with
 | cons r rr =>
  cases rr;obtain ⟨t,rfl⟩:=r;exact call_range_1 (GD I1 (by lia) (by lia) q1 q2 (by simpa using q))
theorem K6 {a b:Expr} {ta:TA} {p pos:Pos} (hg:Gl X "range") (hm:X.mg "range"=none) (ha:PA X [a,b] ta) (hs:starEach [a,b] X.env=[(false,eval a X.env),(false,eval b X.env)]:=by rfl) (hs2:starEach [b] X.env=[(false,eval b X.env)]:=by rfl) :
  PI X tg (.Call (.Name "range" p) [a,b] [] pos) (PC ta):=by
 intro pins s σ H R I h;refine Call_ (kh I hg hm boot_range (PyProof.Rows.callWith_type1 (gU (ha pos pins s σ H _ I h) λus s1 ⟨vs,H1,I1,r1,q1⟩=>?_) (by rw[hs,hs2]) (by rw[hs2];rfl)));obtain ⟨i,j,e,⟨q1,q2,q3,q4⟩,q⟩:=q1;subst e;cases r1 with
 | cons r rr =>
  cases rr with
  | cons r' rr =>
   cases rr;obtain ⟨t,rfl⟩:=r;obtain ⟨t',rfl⟩:=r';exact call_range_2 (GD I1 q1 q2 q3 q4 q)
def Sk (wi:TI) (g:TG) (tb:TS):TS:=λD σ H=>wi σ H λJ H1=>∃W:Nat->Nat->St->Hp->Prop,(∃m,W 0 m σ H1)/\∀i m σ H,W i m σ H →
 (J.stop i H/\D.nx σ H)\/(J.go i H/\∃N:St->Hp->Prop,(∀σ' H',N σ' H'->∃m',m' < m/\W (i+1) m' σ' H')/\∀x H',J.yld i H x H'->g x σ H' λσ2 H2=>tb { D with nx:=N,ct:=N,bk:=D.nx } σ2 H2)
def AE (fp:List Addr) (h:Heap):List (Addr×Obj):=fp.filterMap λb=>(h.get? b).map λo=>(b,o)
theorem qr {fp:List Addr} {h:Heap} {b:Addr} {o:Obj} (hb:b∈fp) (e:h.get? b=some o):(b,o)∈AE fp h:=List.mem_filterMap.mpr ⟨b,hb,by rw[e];rfl⟩
theorem Lb {fp:List Addr} {h:Heap} {p:Addr×Obj} (hp:p∈AE fp h):p.1∈fp/\h.get? p.1=some p.2:=by
 obtain ⟨b,hb,e⟩:=List.mem_filterMap.mp hp;cases q:h.get? b with
 | none=>rw[q] at e;cases e
 | some o =>
  rw[q] at e;have e':(b,o)=p:=cb e;subst e';exact ⟨hb,q⟩
theorem Inv.pinned {pins:List (Addr×Obj)} {σ:St} {H:Hp} {s:Shared} {fp:List Addr} (I:Inv X pins σ H s) (hf:∀b∈fp,kj X pins H b) (ho:∀b∈fp,∃o,s.heap.get? b=some o/\∀v,o.data≠.cell v):Inv X (pins++AE fp s.heap) σ H s :=
 I.pins_of λp hp=>(aA.mp hp).elim (λz=>I.pin p (bG _ z)) λz=>by
  obtain ⟨hb,e⟩:=Lb z;obtain ⟨f0,f1,f2,_⟩:=hf p.1 hb;obtain ⟨o,e',d⟩:=ho p.1 hb;rw[e] at e';cases e';exact ⟨e,f0,f1,f2,d⟩
theorem Inv.unpinned {pins pl:List (Addr×Obj)} {σ:St} {H:Hp} {s:Shared} (I:Inv X (pins++pl) σ H s):Inv X pins σ H s:=I.pins_of λp hp=>I.pin p (bG _ (dk _ hp))
theorem dQ {iter : Expr} {body : List Stmt} {wi : TI} {g : TG} {tb : TS} {pos : Pos} (hp : PassesOwn (model X.prog X.w) X.A X.env X.xe) (hc : X.calm = true) (hi : PI X tg iter wi) (hg : PG X tg g) (hb : Jw X body tb)
    (hs : ∀ x, foldedSetIterable iter X.env x = pure x := by intro _; rfl) : PS X (.For tg iter body [] pos) (Sk wi g tb) := by
  sleep 8;refine wpAny_For (gU (hi pins s σ H _ I h) λv s1 h1 => gU h1 λitv s2 h2 => ?_) hs;obtain ⟨it, fp, tn, J, H2, e, I2, T, st2, f2, W, ⟨m0, w0⟩, turn⟩ := h2;subst e;have stat : ∀ {H' : Hp}, (∀ b ∈ fp, H' b = none) → ∀ b ∈ fp, kj X pins H' b := λhn b hb => ⟨hn b hb, (f2 b hb).2⟩
  refine codeAny_forLoop_any (λn s' => ∃ i σ' H', Inv X pins σ' H' s' /\ tn i s'.heap /\ (∀ b ∈ fp, H' b = none) /\ W i n σ' H') ?_ m0 ⟨0, σ, H2, I2, st2, λb hb => (f2 b hb).1, w0⟩;rintro n s3 ⟨i, σ3, H3, I3, st3, fr3, w3⟩;rcases turn i n σ3 H3 w3 with ⟨stop, qn⟩ | ⟨go, N, hN, step⟩
  · refine wpAny_passesOwn hp (gU (T.done X rfl rfl rfl hc i pins s3 σ3 H3 X.xe I3 (stat fr3) st3 stop) λr s4 ⟨hr, I4⟩ => ?_);subst hr;exact wpAny_execs_nil ⟨σ3, H3, I4, qn⟩
  · refine wpAny_passesOwn hp (gU (T.item X rfl rfl rfl hc i pins s3 σ3 H3 X.xe I3 (stat fr3) st3 go) λr s4 ⟨u, hr, h4⟩ => ?_);subst hr;refine wpAny_passesOwn hp (gU h4 λ_ s5 ⟨x, H5, I5, r5, y5, st5, fr5⟩ => ?_);have I5' := I5.pinned (stat fr5) (T.obj _ _ st5);refine wpAny_passesOwn hp (gU (hg _ s5 σ3 H5 x u _ I5' r5 (step x H5 y5)) λ_ s6 ⟨σ6, H6, I6, q6⟩ => ?_);refine wpAny_passesOwn hp (gU (hb _ s6 σ6 H6 _ I6 q6) λf s7 q7 => ?_)
    have again : ∀ {σ7 : St} {H7 : Hp}, Inv X (pins ++ AE fp s5.heap) σ7 H7 s7 → N σ7 H7 → ∃ m, m < n /\ ∃ i σ' H', Inv X pins σ' H' s7 /\ tn i s7.heap /\ (∀ b ∈ fp, H' b = none) /\ W i m σ' H' := λ{σ7 H7} I7 n7 => by
      obtain ⟨m', hm, w7⟩ := hN σ7 H7 n7;refine ⟨m', hm, i + 1, σ7, H7, I7.unpinned, T.keep _ _ _ st5 λb hb o e => (I7.pin (b, o) (bG _ (bG _ (qr hb e)))).1, λb hb => ?_, w7⟩;obtain ⟨o, e, d⟩ := T.obj _ _ st5 b hb;exact (I7.pin (b, o) (bG _ (bG _ (qr hb e)))).2.1
    cases f with
    | next => obtain ⟨σ7, H7, I7, n7⟩ := q7; exact again I7 n7
    | cont => obtain ⟨σ7, H7, I7, n7⟩ := q7; exact again I7 n7
    | brk => obtain ⟨σ7, H7, I7, q7⟩ := q7; exact ⟨σ7, H7, I7.unpinned, q7⟩
    | ret v => obtain ⟨x7, σ7, H7, I7, r7, q7⟩ := q7; exact ⟨x7, σ7, H7, I7.unpinned, r7, q7⟩
end
theorem gV {K:FG9} {a:Addr} {xs:List V} {g:TG} {tb:TS} {D:Ends} {σ:St} {H:Hp} (Pv:Nat->St->Hp->Prop) (h0:Pv 0 σ H) (hl:∀i σ H,i<=xs.length->Pv i σ H->bR K H a xs)
  (hs:∀i x σ H,xs[i]?=some x->Pv i σ H->g x σ H λσ2 H2=>tb { D with nx:=Pv (i+1),ct:=Pv (i+1),bk:=D.nx } σ2 H2) (hd:∀σ H,Pv xs.length σ H->D.nx σ H) :
  ∃W:Nat->Nat->St->Hp->Prop,(∃m,W 0 m σ H)/\∀i m σ H,W i m σ H →
   ((O9 K a).stop i H/\D.nx σ H)\/((O9 K a).go i H/\∃N:St->Hp->Prop,(∀σ' H',N σ' H'->∃m',m' < m/\W (i+1) m' σ' H')/\∀x H',(O9 K a).yld i H x H'->g x σ H' λσ2 H2=>tb { D with nx:=N,ct:=N,bk:=D.nx } σ2 H2):=by
 refine ⟨λi m σ H=>m=xs.length - i/\i<=xs.length/\Pv i σ H,⟨xs.length,by simp,bu _,h0⟩,?_⟩;rintro i m σ H ⟨rfl,hi,p⟩;have q:=hl i σ H hi p;by_cases hlt:i < xs.length
 ·refine .inr ⟨⟨xs,xs[i],q,by simp [hlt]⟩,Pv (i+1),λσ' H' p'=>⟨xs.length - (i+1),by lia,rfl,hlt,p'⟩,λx H' y=>?_⟩;obtain ⟨e,y⟩:=y;subst e;exact hs i x σ _ (y xs q) p
 ·have e:i=xs.length:=by lia
  subst e;exact .inl ⟨⟨xs,q,ak _⟩,hd σ H p⟩
theorem OV {K:FG9} {a:Addr} {xs:List V} {g:TG} {tb:TS} {D:Ends} {σ:St} {H:Hp} (Pv:Nat->St->Hp->Prop) (h0:Pv 0 σ H) (hl:∀i σ H,i<=xs.length->Pv i σ H->qJ K H a xs)
  (hs:∀i x σ H,xs[i]?=some x->Pv i σ H->g x σ H λσ2 H2=>tb { D with nx:=Pv (i+1),ct:=Pv (i+1),bk:=D.nx } σ2 H2) (hd:∀σ H,Pv xs.length σ H->D.nx σ H) :
  ∃W:Nat->Nat->St->Hp->Prop,(∃m,W 0 m σ H)/\∀i m σ H,W i m σ H →
   ((RT K a).stop i H/\D.nx σ H)\/((RT K a).go i H/\∃N:St->Hp->Prop,(∀σ' H',N σ' H'->∃m',m' < m/\W (i+1) m' σ' H')/\∀x H',(RT K a).yld i H x H'->g x σ H' λσ2 H2=>tb { D with nx:=N,ct:=N,bk:=D.nx } σ2 H2):=by
 refine ⟨λi m σ H=>m=xs.length - i/\i<=xs.length/\Pv i σ H,⟨xs.length,by simp,bu _,h0⟩,?_⟩;rintro i m σ H ⟨rfl,hi,p⟩;have q:=hl i σ H hi p;by_cases hlt:i < xs.length
 ·refine .inr ⟨⟨xs,xs[i],q,by simp [hlt]⟩,Pv (i+1),λσ' H' p'=>⟨xs.length - (i+1),by lia,rfl,hlt,p'⟩,λx H' y=>?_⟩;obtain ⟨e,y⟩:=y;subst e;exact hs i x σ _ (y xs q) p
 ·have e:i=xs.length:=by lia
  subst e;exact .inl ⟨⟨xs,q,ak _⟩,hd σ H p⟩
theorem Du {lo:Int} {n:Nat} {g:TG} {tb:TS} {D:Ends} {σ:St} {H:Hp} (Pv:Nat->St->Hp->Prop) (h0:Pv 0 σ H)
  (hs:∀i σ H,i < n->Pv i σ H->g (.int (lo+i)) σ H λσ2 H2=>tb { D with nx:=Pv (i+1),ct:=Pv (i+1),bk:=D.nx } σ2 H2) (hd:∀σ H,Pv n σ H->D.nx σ H) :
  ∃W:Nat->Nat->St->Hp->Prop,(∃m,W 0 m σ H)/\∀i m σ H,W i m σ H →
   ((Ik lo n).stop i H/\D.nx σ H)\/((Ik lo n).go i H/\∃N:St->Hp->Prop,(∀σ' H',N σ' H'->∃m',m' < m/\W (i+1) m' σ' H')/\∀x H',(Ik lo n).yld i H x H'->g x σ H' λσ2 H2=>tb { D with nx:=N,ct:=N,bk:=D.nx } σ2 H2):=by
 refine ⟨λi m σ H=>m=n - i/\i<=n/\Pv i σ H,⟨n,by simp,bu _,h0⟩,?_⟩;rintro i m σ H ⟨rfl,hi,p⟩;by_cases hlt:i < n
 ·refine .inr ⟨hlt,Pv (i+1),λσ' H' p'=>⟨n - (i+1),by lia,rfl,hlt,p'⟩,λx H' y=>?_⟩;obtain ⟨e,y⟩:=y;subst e y;exact hs i σ _ hlt p
 ·have e:i=n:=by lia
  subst e;exact .inl ⟨ak _,hd σ H p⟩
abbrev R2:=V->V->Hp->VK->Prop
def xn (X:Cx) (f:Value->Value->Sem Value) (r:R2):Prop :=
 ∀(pins:List (Addr×Obj)) (s:Shared) (σ:St) (H:Hp) (x y:V) (v u:Value) (Q:VK),Inv X pins σ H s->RelV x v->RelV y u->r x y H Q →
  wpAny (model X.prog X.w) X.A (f v u) (EP X pins σ Q) X.xe s
def Uj (X:Cx) (f:Value->Sem Value) (r:V->Hp->VK->Prop):Prop :=
 ∀(pins:List (Addr×Obj)) (s:Shared) (σ:St) (H:Hp) (x:V) (v:Value) (Q:VK),Inv X pins σ H s->RelV x v->r x H Q →
  wpAny (model X.prog X.w) X.A (f v) (EP X pins σ Q) X.xe s
def oR (X:Cx) (f:Value) (r:List V->Hp->VK->Prop):Prop :=
 ∀(pins:List (Addr×Obj)) (s:Shared) (σ:St) (H:Hp) (xs:List V) (us:List Value) (Q:VK),Inv X pins σ H s->cZ xs us->r xs H Q →
  wpAny (model X.prog X.w) X.A (call f us) (EP X pins σ Q) X.xe s
def Sg (r:R2) (ta tb:TE):TE:=λσ H Q=>ta σ H λx H1=>tb σ H1 λy H2=>r x y H2 Q
def TL (r:V->Hp->VK->Prop) (ta:TE):TE:=λσ H Q=>ta σ H λx H1=>r x H1 Q
def rI (C:Int->Int->Prop) (g:Int->Int->V):R2:=λx y H Q=>∃i j,x=.int i/\y=.int j/\C i j/\Q (g i j) H
def OD (g:Int->Int->V):R2:=λx y H Q=>∃i j,x=.int i/\y=.int j/\Q (g i j) H
def rU (g:Int->V):V->Hp->VK->Prop:=λx H Q=>∃i,x=.int i/\Q (g i) H
section
variable {X:Cx} {a b c:Expr} {ta tb tc:TE} {pos:Pos}
theorem Ry (ha:PE X a ta) (hb:PE X b tb) {pins:List (Addr×Obj)} {s:Shared} {σ:St} {H:Hp} {R:V->V->Hp->Prop} (I:Inv X pins σ H s)
  (h:ta σ H λx H1=>tb σ H1 λy H2=>R x y H2) {Q:Value->Shared->Prop} {f:Value->Value->Sem Value}
  (hf:∀v u s2 x y H2,Inv X pins σ H2 s2->RelV x v->RelV y u->R x y H2->wpAny (model X.prog X.w) X.A (f v u) Q X.xe s2) :
  wpAny (model X.prog X.w) X.A (eval a X.env) (λv s₁=>wpAny (model X.prog X.w) X.A (eval b X.env) (λu s₂=>wpAny (model X.prog X.w) X.A (f v u) Q X.xe s₂) X.xe s₁) X.xe s:=by
 refine gU (ha pins s σ H _ I h) λv s1 ⟨x,H1,I1,r1,q1⟩=>?_
 refine gU (hb pins s1 σ H1 _ I1 q1) λu s2 ⟨y,H2,I2,r2,q2⟩=>?_
 exact hf v u s2 x y H2 I2 r1 r2 q2
theorem bH {op:Operator} {r:R2} (ho:xn X (binaryOp op) r) (ha:PE X a ta) (hb:PE X b tb):PE X (.BinOp a op b pos) (Sg r ta tb):=by
 sleep 4;exact wpAny_BinOp (Ry ha hb I h λv u s2 x y H2 I2 rx ry q=>ho pins s2 σ H2 x y v u Q I2 rx ry q)
theorem vD {op:UnaryOp} {r:V->Hp->VK->Prop} (ho:Uj X (unaryOp op) r) (ha:PE X a ta):PE X (.UnaryOp op a pos) (TL r ta):=by
 sleep 4;exact UnaryOp_ (gU (ha pins s σ H _ I h) λv s1 ⟨x,H1,I1,r1,q1⟩=>ho pins s1 σ H1 x v Q I1 r1 q1)
theorem TM {f:Value->Value->Sem Value} {C:Int->Int->Prop} {g:Int->Int->Int}
  (rule:∀(i j:Int) (t u:Tok) (s:Shared) (Q:Value->Shared->Prop) (E:Value->Shared->Prop),C i j->Q (.int (g i j) s.toks) { s with toks:=s.toks+1 }->wpAny (model X.prog X.w) X.A (f (.int i t) (.int j u)) Q E s) :
  xn X f (rI C λi j=>.int (g i j)):=by
 sleep 6;obtain ⟨i,j,rfl,rfl,hc,q⟩:=h;sleep 10;obtain ⟨t',rfl⟩:=ry;exact rule i j t t' s _ _ hc ⟨.int (g i j),H,I.tok _,⟨_,rfl⟩,q⟩
theorem S0 {f:Value->Value->Sem Value} {g:Int->Int->Int}
  (rule:∀(i j:Int) (t u:Tok) (s:Shared) (Q:Value->Shared->Prop) (E:Value->Shared->Prop),Q (.int (g i j) s.toks) { s with toks:=s.toks+1 }->wpAny (model X.prog X.w) X.A (f (.int i t) (.int j u)) Q E s) :
  xn X f (OD λi j=>.int (g i j)):=by
 sleep 6;obtain ⟨i,j,rfl,rfl,q⟩:=h;sleep 10;obtain ⟨t',rfl⟩:=ry;exact rule i j t t' s _ _ ⟨.int (g i j),H,I.tok _,⟨_,rfl⟩,q⟩
theorem ON {f:Value->Value->Sem Value} {g:Int->Int->Bool}
  (rule:∀(i j:Int) (t u:Tok) (s:Shared) (Q:Value->Shared->Prop) (E:Value->Shared->Prop),Q (.bool (g i j)) s->wpAny (model X.prog X.w) X.A (f (.int i t) (.int j u)) Q E s) :
  xn X f (OD λi j=>.bl (g i j)):=by
 sleep 6;obtain ⟨i,j,rfl,rfl,q⟩:=h;sleep 10;obtain ⟨t',rfl⟩:=ry;exact rule i j t t' s _ _ ⟨.bl (g i j),H,I,rfl,q⟩
def RL (i j:Int):Prop:=(-(2^64) < i/\i < 2^64)\/(-(2^64) < j/\j < 2^64)
theorem RL.ok {i j:Int} (h:RL i j):IntMulOk i j:=by
 rcases h with ⟨h1,h2⟩ | ⟨h1,h2⟩
 ·exact .of_left (intBits_le_64 h1 h2)
 ·exact .of_right (intBits_le_64 h1 h2)
theorem dR:xn X (binaryOp .Add) (OD λi j=>.int (i+j)):=S0 λ_ _ _ _ _ _ _ q=>add_int q
theorem jA:xn X (binaryOp .Sub) (OD λi j=>.int (i - j)):=S0 λ_ _ _ _ _ _ _ q=>sub_int q
theorem nW:xn X (binaryOp .Mod) (rI (λ_ j=>0 < j) λi j=>.int (i % j)):=TM λi j _ _ _ _ _ hc q=>by
 have h1:(0:Int) < j:=hc;exact mod_int' (by lia) (by rw[Int.fmod_eq_emod_of_nonneg i (by lia)];exact q)
theorem OM:xn X (binaryOp .Mod) (rI (λ_ j=>j≠0) λi j=>.int (i.fmod j)):=TM λ_ _ _ _ _ _ _ hc q=>mod_int' hc q
theorem unI {f:Value->Sem Value} {g:Int->Int}
  (rule:∀(i:Int) (t:Tok) (s:Shared) (Q:Value->Shared->Prop) (E:Value->Shared->Prop),Q (.int (g i) s.toks) { s with toks:=s.toks+1 }->wpAny (model X.prog X.w) X.A (f (.int i t)) Q E s) :
  Uj X f (rU λi=>.int (g i)):=by
 intro pins s σ H x v Q I rx h;obtain ⟨i,rfl,q⟩:=h;sleep 10;exact rule i t s _ _ ⟨.int (g i),H,I.tok _,⟨_,rfl⟩,q⟩
theorem oY:Uj X (unaryOp .USub) (rU λi=>.int (-i)):=unI λ_ _ _ _ _ q=>neg_int q
end
def Ss:V->V->Bool
 | .non,.non=>true | .non,.int _=>true | .int _,.non=>true | .non,.bl _=>true | .bl _,.non=>true | .non,.str _=>true | .str _,.non=>true
 | .int _,.int _=>true | .bl _,.bl _=>true | .str _,.str _=>true | .byt _,.byt _=>true
 | .int _,.str _=>true | .str _,.int _=>true | .bl _,.str _=>true | .str _,.bl _=>true
 | _,_=>false
def Ub:R2:=λx y H Q=>Ss x y=true/\Q (.bl (decide (x=y))) H
def T8:R2:=λx y H Q=>Ss x y=true/\Q (.bl (!decide (x=y))) H
theorem Kg {i j:Int}:decide (V.int i=V.int j)=(i == j):=by
 rw[lU];simp
theorem Nf {i j:Bool}:decide (V.bl i=V.bl j)=(i == j):=by
 rw[lU];simp
theorem Kf {i j:Str}:decide (V.str i=V.str j)=(i == j):=by
 rw[lU];simp
theorem Kh {i j:Array UInt8}:decide (V.byt i=V.byt j)=(i.toList == j.toList):=by
 rw[lU];cases i;cases j;simp
section
variable {X:Cx} {a b c:Expr} {ta tb tc:TE} {pos:Pos}
theorem dC {pins:List (Addr×Obj)} {σ:St} {H:Hp} {s:Shared} {Q:VK} {k k':Bool} (I:Inv X pins σ H s) (q:Q (.bl k) H) (e:k=k'):EP X pins σ Q (.bool k') s:=by
 subst e;exact ⟨.bl k,H,I,rfl,q⟩
theorem eO:xn X (compareOp .Eq) Ub:=by
 sleep 6;obtain ⟨hs,q⟩:=h;cases x with
 | non =>
  cases rx;cases y with
  | non=>cases ry;exact PySem.EqNone.eq_none_none (dC I q (by simp))
  | bl j=>cases ry;exact PySem.EqNone.eq_none_bool (dC I q (by simp))
  | int j=>obtain ⟨t',rfl⟩:=ry;exact PySem.EqNone.eq_none_int (dC I q (by simp))
  | str j=>obtain ⟨t',rfl⟩:=ry;exact PySem.EqNone.eq_none_str (dC I q (by simp))
  | _=>exact absurd (show false=true from hs) bA
 | bl i =>
  cases rx;cases y with
  | non=>cases ry;exact PySem.EqNone.eq_bool_none (dC I q (by simp))
  | bl j=>cases ry;exact eq_bool (dC I q Nf)
  | str j=>obtain ⟨t',rfl⟩:=ry;exact PySem.EqMixed.eq_bool_str (dC I q (by simp))
  | _=>exact absurd (show false=true from hs) bA
 | int i =>
  sleep 10;cases y with
  | non=>cases ry;exact PySem.EqNone.eq_int_none (dC I q (by simp))
  | int j=>obtain ⟨t',rfl⟩:=ry;exact eq_int (dC I q Kg)
  | str j=>obtain ⟨t',rfl⟩:=ry;exact PySem.EqMixed.eq_int_str (dC I q (by simp))
  | _=>exact absurd (show false=true from hs) bA
 | str i =>
  sleep 10;cases y with
  | non=>cases ry;exact PySem.EqNone.eq_str_none (dC I q (by simp))
  | bl j=>cases ry;exact PySem.EqMixed.eq_str_bool (dC I q (by simp))
  | int j=>obtain ⟨t',rfl⟩:=ry;exact PySem.EqMixed.eq_str_int (dC I q (by simp))
  | str j=>obtain ⟨t',rfl⟩:=ry;exact eq_str (dC I q Kf)
  | _=>exact absurd (show false=true from hs) bA
 | byt i =>
  sleep 10;cases y with
  | byt j=>obtain ⟨t',rfl⟩:=ry;exact PySem.W.eq_bytes (dC I q Kh)
  | _=>exact absurd (show false=true from hs) bA
 | _=>cases y <;> exact absurd (show false=true from hs) bA
theorem sk:xn X (compareOp .NotEq) T8:=by
 sleep 6;obtain ⟨hs,q⟩:=h;cases x with
 | non =>
  cases rx;cases y with
  | non=>cases ry;exact PySem.EqNone.ne_none_none (dC I q (by simp))
  | bl j=>cases ry;exact PySem.EqNone.ne_none_bool (dC I q (by simp))
  | int j=>obtain ⟨t',rfl⟩:=ry;exact PySem.EqNone.ne_none_int (dC I q (by simp))
  | str j=>obtain ⟨t',rfl⟩:=ry;exact PySem.EqNone.ne_none_str (dC I q (by simp))
  | _=>exact absurd (show false=true from hs) bA
 | bl i =>
  cases rx;cases y with
  | non=>cases ry;exact PySem.EqNone.ne_bool_none (dC I q (by simp))
  | bl j=>cases ry;exact ne_bool (dC I q (congrArg not Nf))
  | str j=>obtain ⟨t',rfl⟩:=ry;exact PySem.EqMixed.ne_bool_str (dC I q (by simp))
  | _=>exact absurd (show false=true from hs) bA
 | int i =>
  sleep 10;cases y with
  | non=>cases ry;exact PySem.EqNone.ne_int_none (dC I q (by simp))
  | int j=>obtain ⟨t',rfl⟩:=ry;exact ne_int (dC I q (congrArg not Kg))
  | str j=>obtain ⟨t',rfl⟩:=ry;exact PySem.EqMixed.ne_int_str (dC I q (by simp))
  | _=>exact absurd (show false=true from hs) bA
 | str i =>
  sleep 10;cases y with
  | non=>cases ry;exact PySem.EqNone.ne_str_none (dC I q (by simp))
  | bl j=>cases ry;exact PySem.EqMixed.ne_str_bool (dC I q (by simp))
  | int j=>obtain ⟨t',rfl⟩:=ry;exact PySem.EqMixed.ne_str_int (dC I q (by simp))
  | str j=>obtain ⟨t',rfl⟩:=ry;exact ne_str (dC I q (congrArg not Kf))
  | _=>exact absurd (show false=true from hs) bA
 | byt i =>
  sleep 10;cases y with
  | byt j=>obtain ⟨t',rfl⟩:=ry;exact PySem.W.ne_bytes (dC I q (congrArg not Kh))
  | _=>exact absurd (show false=true from hs) bA
 | _=>cases y <;> exact absurd (show false=true from hs) bA
theorem tP:xn X (compareOp .Lt) (OD λi j=>.bl (decide (i < j))):=ON λ_ _ _ _ _ _ _ q=>lt_int q
theorem SY:xn X (compareOp .LtE) (OD λi j=>.bl (decide (i<=j))):=ON λ_ _ _ _ _ _ _ q=>le_int q
theorem qN:xn X (compareOp .Gt) (OD λi j=>.bl (decide (j < i))):=ON λ_ _ _ _ _ _ _ q=>gt_int q
theorem Dd:xn X (compareOp .GtE) (OD λi j=>.bl (decide (j<=i))):=ON λ_ _ _ _ _ _ _ q=>ge_int q
theorem QZ:xn X (compareOp .Is) (λx y H Q=>y=.non/\Q (.bl (decide (x=.non))) H):=by
 sleep 6;obtain ⟨rfl,q⟩:=h;cases ry;refine is_none_gen (dC I q ?_)
 cases x <;> first
  | (cases rx;rfl)
  | (obtain ⟨t,rfl⟩:=rx;rfl)
theorem ER:xn X (compareOp .IsNot) (λx y H Q=>y=.non/\Q (.bl (!decide (x=.non))) H):=by
 sleep 6;obtain ⟨rfl,q⟩:=h;cases ry;refine isnot_none_gen (dC I q ?_)
 cases x <;> first
  | (cases rx;rfl)
  | (obtain ⟨t,rfl⟩:=rx;rfl)
theorem bC (b:Expr) {op:CmpOp} (h:op≠.In:=by decide) (h2:op≠.NotIn:=by decide):behindInMarks op b=false:=by
 have e1:(op == CmpOp.In)=false:=by cases op <;> first | rfl | exact absurd rfl h
 have e2:(op == CmpOp.NotIn)=false:=by cases op <;> first | rfl | exact absurd rfl h2
 cases b <;> simp [behindInMarks,e1,e2]
theorem ia {op:CmpOp} {r:R2} (ho:xn X (compareOp op) r) (ha:PE X a ta) (hb:PE X b tb) (hm:behindInMarks op b=false):PE X (.Compare a [op] [b] pos) (Sg r ta tb):=by
 sleep 4;exact wpAny_Compare1 (Ry ha hb I h λv u s2 x y H2 I2 rx ry q=>ho pins s2 σ H2 x y v u Q I2 rx ry q) hm
def Pc (t:TE):TT:=λσ H Q=>t σ H λx H'=>∃k,x=.bl k/\Q k H'
theorem bw {op:CmpOp} {r:R2} (ho:xn X (compareOp op) r) (ha:PE X a ta) (hb:PE X b tb) (hm:behindInMarks op b=false):PT X (.Compare a [op] [b] pos) (Pc (Sg r ta tb)):=by
 sleep 4
 refine wpAny_isTrue_Compare1 (gU (ha pins s σ H _ I h) λv s1 ⟨x,H1,I1,r1,q1⟩=>gU (hb pins s1 σ H1 _ I1 q1) λu s2 ⟨y,H2,I2,r2,q2⟩ =>
  gU (ho pins s2 σ H2 x y v u _ I2 r1 r2 q2) λc s3 ⟨z,H3,I3,r3,k,e,q3⟩=>?_) hm
 subst e;cases r3;exact wpAny_truthy_bool ⟨H3,I3,q3⟩
theorem AZ:(sizeLine:Nat) < 2^63:=by rw[sizeLine_eq];decide
theorem vals1 {x:V} {us:List Value} (r:cZ [x] us):∃u,us=[u]/\RelV x u:=by
 cases r with
 | cons r1 r2=>cases r2;exact ⟨_,rfl,r1⟩
theorem vals2 {x y:V} {us:List Value} (r:cZ [x,y] us):∃u w',us=[u,w']/\RelV x u/\RelV y w':=by
 cases r with
 | cons r1 r2 =>
  cases r2 with
  | cons r3 r4=>cases r4;exact ⟨_,_,rfl,r1,r3⟩
theorem wJ:oR X (.builtin "abs") (λxs H Q=>∃i,xs=[.int i]/\Q (.int (if i < 0 then -i else i)) H):=by
 sleep 9;obtain ⟨i,rfl,q⟩:=h;obtain ⟨u,rfl,t,rfl⟩:=vals1 r;exact call_abs_int λu tk=>⟨.int (if i < 0 then -i else i),H,I.tok _,⟨_,rfl⟩,q⟩
theorem oK (hc:X.calm=true):oR X (.builtin "min") (λxs H Q=>∃i j,xs=[.int i,.int j]/\Q (.int (if j < i then j else i)) H):=by
 sleep 9;obtain ⟨i,j,rfl,q⟩:=h;obtain ⟨u,w',rfl,⟨t,rfl⟩,⟨t',rfl⟩⟩:=vals2 r;refine min_two_ints (I.ok.hd hc) λh' tk k=>⟨_,H,I.kept k,?_,q⟩
 by_cases hj:j < i
 ·rw[if_pos hj,if_pos hj];exact ⟨_,rfl⟩
 ·rw[if_neg hj,if_neg hj];exact ⟨_,rfl⟩
end
structure Jx (h:Heap) (x dx C:Addr) (mA:Str->Option Value):Prop where
 obj:h.get? x=some (PySem.W.instObj C dx)
 ns:h.Ns1 dx mA
 ne:dx≠x
theorem Lh {h:Heap} {dx:Addr} {mA:Str->Option Value} (n:h.Ns1 dx mA):∃od,h.get? dx=some od/\∀name,PySem.W.lookIn name od=some (mA name):=by
 obtain ⟨o,es,ep,ho,hd,hk,_,hm⟩:=n;refine ⟨o,ho,λname=>?_⟩;have e:=hm name;unfold nsFind findBy at e;rw[<- Array.find?_toList] at e;unfold PySem.W.lookIn;rw[hd]
 dsimp only
 split
 ·rename_i y q
  rw[q] at e;exact congrArg some e
 ·rename_i q
  rw[q] at e
  have a:es.toList.any (·.refKey)=false:=by
   rw[List.any_eq_false];intro y hy;obtain ⟨z,t,hkey⟩:=hk y (Array.mem_toList_iff.mp hy);simp [DictEntry.refKey,hkey]
  have a':¬es.toList.any (·.refKey)=true:=by rw[a];exact bA
  rw[if_neg a'];exact congrArg some e
theorem Jx.look {h:Heap} {x dx C:Addr} {mA:Str->Option Value} (I:Jx h x dx C mA):∃od,PySem.W.InstAt h x (PySem.W.instObj C dx) C (some od)/\∀name,PySem.W.lookIn name od=some (mA name) :=
 let ⟨od,ho,hl⟩:=Lh I.ns
 ⟨od,⟨I.obj,rfl,rfl,ho⟩,hl⟩
section
variable {prog:Program} {w:World} {A:Around} {E:Value->Shared->Prop} {s:Shared} {K:FG9} {x dx C f:Addr} {mA:Str->Option Value} {name:Str} {v:Value}
theorem get_map {expr:Bool} {Q:Value->Shared->Prop} (X:K.In s.heap) (I:Jx s.heap x dx C mA) (hg:PySem.W.plainGet K C name=true) (hh:PySem.W.hasDictIn K C=true)
  (ha:PySem.W.findIn K (.ref C) name=some none) (hv:mA name=some v) (hv':PySem.W.handedIn v=true) (h:Q v { s with toks:=s.toks+1 }) :
  wpAny (model prog w) A (getAttr (.ref x) name expr) Q E s:=by
 obtain ⟨od,J,hl⟩:=I.look;exact PySem.W.get_value X J (FF hg).1 (PySem.W.findObj_own hh ha rfl (by rw[hl,hv])) hv' h
theorem MQ {pl:Sem Bool} {Q:Value×List Value->Shared->Prop} (X:K.In s.heap) (I:Jx s.heap x dx C mA) (hg:PySem.W.plainGet K C name=true)
  (hf:PySem.W.findIn K (.ref C) name=some (some (.ref f))) (ht:PySem.W.isFn K (.ref f)=true) (hv:mA name=none) (h:Q (.ref f,[.ref x]) s) :
  wpAny (model prog w) A (getMethod (.ref x) name pl) Q E s:=by
 obtain ⟨od,J,hl⟩:=I.look;exact PySem.W.method_fn X J (FF hg).1 (FF hg).2 hf (beq_iff_eq.mp ht) (by show (PySem.W.lookIn name od).map (·.isSome)=some false;rw[hl,hv];rfl) h
theorem NZ {ns:List Str} {Q:Unit->Shared->Prop} (X:K.In s.heap) (I:Jx s.heap x dx C mA)
  (hs:PySem.W.findIn K (.ref C) "__setattr__"=some (some (.builtin "object.__setattr__"))) (hp:PySem.W.plainOver K C=true) (ht:PySem.W.takerIn K C name=some none) (hh:PySem.W.hasDictIn K C=true)
  (hw:PySem.Within mA ns) (hsz:ns.length<=sizeLine)
  (h:∀h',Jx h' x dx C (λy=>if y=name then some v else mA y)->Heap.SameBut dx s.heap h'->Q () { s with heap:=h',toks:=s.toks+2 }) :
  wpAny (model prog w) A (setAttr (.ref x) name v) Q E s:=by
 obtain ⟨od,J,hl⟩:=I.look;refine PySem.W.set_plain X J hs (PySem.W.osa_open (s:={ s with toks:=s.toks+1 }) (r:=none) X J hp ht λb=>?_);obtain ⟨cd,hc,hd'⟩:=PySem.W.any_some hh;have hx:s.heap.get? x=some ⟨.ref C,some dx,.plain,#[]⟩:=I.obj;refine wpAny_bind (wpAny_pure (wpAny_bind (wpAny_bind (wpAny_loadPart hx (wpAny_bind (PySem.W.Looks.here (s:={ s with toks:=s.toks+1 }) (PySem.W.looks_clsIn X hc) ?_))))));rw[hd'];refine wpAny_pure (a:=some dx) (wpAny_bind (wpAny_pure (wpAny_bind ?_)));refine wpAny_nsSet1 (s:={ s with toks:=s.toks+1 }) I.ns λh' hn2 hs2=>?_
 obtain ⟨oD,esD,epD,hoD,hdD,hcD⟩:=hn2.count (PySem.Within.cons name v hw);refine wpAny_bind (wpAny_lookBehind hoD (by rw[hdD];exact pastItsLine_dict (ai hcD (by rw[bB];lia))) ?_);exact wpAny_pure (h _ ⟨(hs2.2 _ (Ne.symm I.ne)).trans I.obj,hn2,I.ne⟩ hs2)
theorem ME {R:Result->Shared->Prop} {vs:List Value} {kw:List (Str×Value)} (X:K.In s.heap) (hm:PySem.W.makesIn K C=true)
  (hi:PySem.W.findIn K (.ref C) "__init__"=some (some (.ref f))) (hf:PySem.W.typeIn K (.ref f)=some (.type "function"))
  (h:codeAny (model prog w) (A.under (.builtin "type.__call__" ⟨.ref C :: vs,kw⟩)) (.call (.ref f) ⟨.ref (s.heap.objs.size+1) :: vs,kw⟩) (PySem.W.InitBack (s.heap.objs.size+1) R)
   { s with heap:=(s.heap.push PySem.W.emptyDict).push (PySem.W.instObj C s.heap.objs.size) }) :
  codeAny (model prog w) A (.call (.ref C) ⟨vs,kw⟩) R s:=by
 obtain ⟨hh,g,d,t,os⟩:=s;exact PySem.W.make_core (PySem.W.makes_of X hm) (PySem.W.looks_findIn X hi) (λself=>PySem.W.bind_fn X self hf) (.inl rfl) h
end
def cK (f:Str) (v:V):List (Str×V)->List (Str×V)
 | []=>[(f,v)]
 | (g,x) :: r=>if g=f then (g,v) :: r else (g,x) :: cK f v r
theorem bP (f g:Str) (v:V):∀fs:List (Str×V),(cK f v fs).lookup g=if g=f then some v else fs.lookup g
 | []=>by
  show List.lookup g [(f,v)]=_
  by_cases h:g=f
  ·have hb:(g == f)=true:=beq_iff_eq.mpr h;simp only[List.lookup,hb,if_pos h]
  ·have hb:(g == f)=false:=beq_eq_false_iff_ne.mpr h;simp only[List.lookup,hb,if_neg h]
 | (k,x) :: r=>by
  have ih:=bP f g v r;rw[show cK f v ((k,x) :: r)=(if k=f then (k,v) :: r else (k,x) :: cK f v r) from rfl];by_cases hk:k=f
  ·rw[if_pos hk];by_cases h:g=k
   ·have hb:(g == k)=true:=beq_iff_eq.mpr h;simp only[List.lookup,hb,if_pos (h.trans hk)]
   ·have hb:(g == k)=false:=beq_eq_false_iff_ne.mpr h;simp only[List.lookup,hb,if_neg (λe:g=f=>h (e.trans hk.symm))]
  ·rw[if_neg hk];by_cases h:g=k
   ·have hb:(g == k)=true:=beq_iff_eq.mpr h;simp only[List.lookup,hb,if_neg (λe:g=f=>hk (h.symm.trans e))]
   ·have hb:(g == k)=false:=beq_eq_false_iff_ne.mpr h;simp only[List.lookup,hb];exact ih
theorem yb (f:Str) (v:V):∀fs:List (Str×V),f∈(cK f v fs).map (·.1)/\∀g,g∈fs.map (·.1)->g∈(cK f v fs).map (·.1)
 | []=>⟨by simp [cK],λg h=>by simp at h⟩
 | (k,x) :: r=>by
  obtain ⟨i1,i2⟩:=yb f v r;rw[show cK f v ((k,x) :: r)=(if k=f then (k,v) :: r else (k,x) :: cK f v r) from rfl];by_cases hk:k=f
  ·rw[if_pos hk];subst hk;exact ⟨by simp,λg h=>by simpa using h⟩
  ·rw[if_neg hk];refine ⟨?_,λg h=>?_⟩
   ·rw[gI];exact b6 _ i1
   ·rw[gI] at h ⊢;rcases aN.mp h with e | e
    ·exact aN.mpr (.inl e)
    ·exact b6 _ (i2 g e)
theorem yw (f:Str) (v:V):∀fs:List (Str×V),(cK f v fs).length<=fs.length+1
 | []=>by simp [cK]
 | (k,x) :: r=>by
  have ih:=yw f v r;rw[show cK f v ((k,x) :: r)=(if k=f then (k,v) :: r else (k,x) :: cK f v r) from rfl];by_cases hk:k=f
  ·rw[if_pos hk,bB,bB];lia
  ·rw[if_neg hk,bB,bB];lia
theorem Ct.some_of {v:V} {o:Option Value} (r:Ct (some v) o):∃u,o=some u/\RelV v u:=by
 cases o with
 | none=>exact (show False from r).elim
 | some u=>exact ⟨u,rfl,r⟩
theorem Ct.none_of {o:Option Value} (r:Ct none o):o=none:=by
 cases o with
 | none=>rfl
 | some u=>exact (show False from r).elim
theorem Ll {v:V} {u:Value} (r:RelV v u):PySem.W.handedIn u=true:=by
 cases v with
 | non=>cases (show u=Value.none from r);rfl
 | bl b=>cases (show u=Value.bool b from r);rfl
 | int i=>obtain ⟨t,e⟩:=(show ∃t,u=Value.int i t from r);cases e;rfl
 | str x=>obtain ⟨t,e⟩:=(show ∃t,u=Value.str x t from r);cases e;rfl
 | byt b=>obtain ⟨t,e⟩:=(show ∃t,u=Value.bytes b t from r);cases e;rfl
 | flt b=>obtain ⟨t,e⟩:=(show ∃t,u=Value.float b t from r);cases e;rfl
 | ref a=>cases (show u=Value.ref a from r);rfl
 | ty n=>cases (show u=Value.type n from r);rfl
section
variable {P:Program} {w:World} {H H':Hp} {h h':Heap} {a C dx:Addr} {fs fs':List (Str×V)}
theorem zO (hok:zS P w H h) (e:H a=some (.ins C dx fs)):∃mA,Jx h a dx C mA/\(∀f,Ct (fs.lookup f) (mA f))/\PySem.Within mA (fs.map (·.1))/\fs.length<=1000/\H dx=some (.own a):=by
 obtain ⟨d,z,ne,ob,mA,n,r,q⟩:=(show jh P w H h a (.ins C dx fs) from hok a _ e);exact ⟨mA,⟨ob,n,ne⟩,r,q,z,d⟩
end
structure Lz (K:FG9) (C:Addr):Prop where
 pg:PySem.W.plainGet K C Str.empty=true
 hd:PySem.W.hasDictIn K C=true
 po:PySem.W.plainOver K C=true
 sa:PySem.W.findIn K (.ref C) "__setattr__"=some (some (.builtin "object.__setattr__"))
theorem Lz.get {K:FG9} {C:Addr} (c:Lz K C) (f:Str):PySem.W.plainGet K C f=true:=c.pg
def jS (K:FG9) (C:Addr) (f:Str):Prop:=PySem.W.findIn K (.ref C) f=some none
theorem jS.taker {K:FG9} {C:Addr} {f:Str} (n:jS K C f):PySem.W.takerIn K C f=some none:=by
 unfold PySem.W.takerIn;rw[show PySem.W.findIn K (.ref C) f=some none from n];rfl
structure RH (K:FG9) (C:Addr) (m:Str) (f:Addr):Prop where
 at_:PySem.W.findIn K (.ref C) m=some (some (.ref f))
 fn:PySem.W.isFn K (.ref f)=true
 kp:PySem.W.keepIn K (.ref f)=true
section
variable {X:Cx} {pins:List (Addr×Obj)} {σ:St} {H:Hp} {s:Shared} {a C dx:Addr} {fs:List (Str×V)} {f:Str} {v:V} {A:Around} {E:Value->Shared->Prop}
theorem Jj {b:Bool} {Q:Value->Shared->Prop} (I:Inv X pins σ H s) (e:H a=some (.ins C dx fs)) (c:Lz X.K C) (n:jS X.K C f) (l:fs.lookup f=some v)
  (h:∀u s',Inv X pins σ H s'->RelV v u->Q u s'):wpAny (model X.prog X.w) A (getAttr (.ref a) f b) Q E s:=by
 obtain ⟨mA,O,r,_,_,_⟩:=zO I.hok e;obtain ⟨u,hu,ru⟩:=Ct.some_of (v:=v) (o:=mA f) (by rw[<- l];exact r f);exact get_map I.kIn O (c.get f) c.hd n hu (Ll ru) (h u _ (I.tok _) ru)
theorem Ji {m:Str} {g:Addr} {pl:Sem Bool} {Q:Value×List Value->Shared->Prop} (I:Inv X pins σ H s) (e:H a=some (.ins C dx fs)) (c:Lz X.K C) (k:RH X.K C m g) (l:fs.lookup m=none)
  (h:Q (.ref g,[.ref a]) s):wpAny (model X.prog X.w) A (getMethod (.ref a) m pl) Q E s:=by
 obtain ⟨mA,O,r,_,_,_⟩:=zO I.hok e;have hn:mA m=none:=Ct.none_of (by rw[<- l];exact r m);exact MQ I.kIn O (c.get m) k.at_ k.fn hn h
theorem Iy {y:V} {u:Value} {Q:Unit->Shared->Prop} (I:Inv X pins σ H s) (e:H a=some (.ins C dx fs)) (c:Lz X.K C) (n:jS X.K C f) (hl:fs.length < 1000) (ry:RelV y u)
  (h:∀s',Inv X pins σ (upd H a (.ins C dx (cK f y fs))) s'->Q () s'):wpAny (model X.prog X.w) A (setAttr (.ref a) f u) Q E s:=by
 obtain ⟨mA,O,r,wi,_,ho⟩:=zO I.hok e;have hz:(fs.map (·.1)).length<=sizeLine:=by rw[aj,sizeLine_eq];lia
 refine NZ I.kIn O c.sa c.po n.taker c.hd wi hz λh' O' sb=>h _ ?_
 have hd:∃o,h'.get? dx=some o:=let ⟨o,_,_,e',_⟩:=O'.ns;⟨o,e'⟩
 refine I.write (x:=a) (e:=dx) (by rw[e];exact True.intro) (.inr ho) (λb q hb z=>(sb.2 b hb).trans z) hd ?_;refine ⟨by rw[bM O.ne];exact ho,?_,O.ne,O'.obj,_,O'.ns,λg=>?_,λg hg=>?_⟩
 ·have:=yw f y fs;lia
 ·show Ct ((cK f y fs).lookup g) (if g=f then some u else mA g)
  rw[bP];by_cases q:g=f
  ·rw[if_pos q,if_pos q];exact ry
  ·rw[if_neg q,if_neg q];exact r g
 ·by_cases q:g=f
  ·rw[q];exact (yb f y fs).1
  ·refine (yb f y fs).2 g (wi g λz=>hg ?_);show (if g=f then some u else mA g)=none
   rw[if_neg q];exact z
theorem Inv.made (I:Inv X pins σ H s):Inv X pins σ (upd (upd H s.heap.objs.size (.own (s.heap.objs.size+1))) (s.heap.objs.size+1) (.ins C s.heap.objs.size []))
  { s with heap:=(s.heap.push PySem.W.emptyDict).push (PySem.W.instObj C s.heap.objs.size) }:=by
 have e1:(s.heap.push PySem.W.emptyDict).get? s.heap.objs.size=some PySem.W.emptyDict:=Heap.get?_push_size s.heap rfl
 have e2:((s.heap.push PySem.W.emptyDict).push (PySem.W.instObj C s.heap.objs.size)).get? (s.heap.objs.size+1)=some (PySem.W.instObj C s.heap.objs.size):=by
  have:=Heap.get?_push_size (s.heap.push PySem.W.emptyDict) (o:=PySem.W.instObj C s.heap.objs.size) rfl;rwa [Heap.size_push] at this
 have e3:(s.heap.push PySem.W.emptyDict).Ns s.heap.objs.size (λ_=>none):=⟨PySem.W.emptyDict,#[],_,e1,rfl,(λe he=>absurd he (by simp)),λ_=>rfl⟩;have I1:=I.laid (a:=s.heap.objs.size) (o:=.own (s.heap.objs.size+1)) (h':=s.heap.push PySem.W.emptyDict) (t':=s.toks) (λb u q=>Heap.get?_push_of_some _ q) (ak _) ⟨_,e1⟩;refine I1.laid (a:=s.heap.objs.size+1) (o:=.ins C s.heap.objs.size []) (t':=s.toks) (λb u q=>Heap.get?_push_of_some _ q) (Nat.le_of_eq (Heap.size_push _ _)) ?_;have ne:s.heap.objs.size≠s.heap.objs.size+1:=cu (fv _);refine ⟨by rw[bM ne,aO],bu _,ne,e2,λ_=>none,(Heap.Ns1.of_empty e3).at λo q=>Heap.get?_push_of_some _ q,λ_=>True.intro,λy hy=>absurd rfl hy⟩
theorem O5 {prog:Program} {w:World} {env:Env} {e:Expr} {f:Str} {pos:Pos} {s:Shared} {Q:Value->Shared->Prop} (hb:attributeBase e f env (eval e env)=eval e env)
  (h:wpAny (model prog w) A (eval e env) (λo s₁=>wpAny (model prog w) A (getAttr o f true) Q E s₁) E s):wpAny (model prog w) A (eval (.Attribute e f pos) env) Q E s :=
 Attribute_any_ h (by rw[arm_eval_Attribute,hb])
end
def Qi (K:FG9) (ta:TE) (f:Str):TE:=λσ H Q=>ta σ H λx H1=>∃a C dx fs v,x=.ref a/\H1 a=some (.ins C dx fs)/\Lz K C/\jS K C f/\fs.lookup f=some v/\Q v H1
def Su (K:FG9) (ta tv:TE) (f:Str):TS:=λD σ H=>tv σ H λy H1=>ta σ H1 λx H2=>∃a C dx fs,x=.ref a/\H2 a=some (.ins C dx fs)/\Lz K C/\jS K C f/\fs.length < 1000 /\
 D.nx σ (upd H2 a (.ins C dx (cK f y fs)))
section
variable {X:Cx} {o e value:Expr} {f:Str} {pos pos' tpos:Pos} {ta tv:TE}
theorem fP (he:PE X e ta) (hb:attributeBase e f X.env (eval e X.env)=eval e X.env):PE X (.Attribute e f pos) (Qi X.K ta f):=by
 sleep 4;refine O5 hb (gU (he pins s σ H _ I h) λu s1 ⟨x,H1,I1,rx,a,C,dx,fs,v,ex,ea,c,n,l,q⟩=>?_);subst ex;obtain rfl:u=Value.ref a:=rx;exact Jj I1 ea c n l λu' s2 I2 ru=>⟨v,H1,I2,ru,q⟩
theorem xR (ha:PE X o ta) (hv:PE X value tv) (hs:swapsWith value (some (.Attribute o f pos')) pos.line X.env=pure false):PS X (.Assign [.Attribute o f pos'] value pos) (Su X.K ta tv f):=by
 sleep 8;refine plainObj_wpAny_Assign_Attribute (gU (hv pins s σ H _ I h) λu s1 ⟨y,H1,I1,ry,q⟩=>gU (ha pins s1 σ H1 _ I1 q) λov s2 ⟨x,H2,I2,rx,a,C,dx,fs,ex,ea,c,n,l,q2⟩=>?_) hs;subst ex;obtain rfl:ov=Value.ref a:=rx;exact Iy I2 ea c n l ry λs3 I3=>⟨σ,_,I3,q2⟩
end
section
variable {X:Cx} {pins:List (Addr×Obj)} {σ:St} {H:Hp} {s:Shared} {A:Around} {E:Value->Shared->Prop} {Q:Value->Shared->Prop} {c:Value} {b:Bool}
inductive yk (K:FG9) (H:Hp):V->Value->Prop where
 | non:yk K H .non (.type "NoneType")
 | bl (x:Bool):yk K H (.bl x) (.type "bool")
 | int (i:Int):yk K H (.int i) (.type "int")
 | str (x:Str):yk K H (.str x) (.type "str")
 | flt (x:UInt64):yk K H (.flt x) (.type "float")
 | lst {a:Addr} {xs:List V} (e:H a=some (.lst xs)):yk K H (.ref a) (.type "list")
 | frz {a:Addr} {o:Obj} {xs:List V} (e:H a=some (.frz o (.lst xs))):yk K H (.ref a) (.type "list")
 | tup {a:Addr} {xs:List V} (e:H a=some (.tup xs)):yk K H (.ref a) (.type "tuple")
 | dK {a:Addr} {kvs:List (Key×V)} (e:H a=some (.dK kvs)):yk K H (.ref a) (.type "dict")
 | dT {a:Addr} {kvs:List (List Key×V)} (e:H a=some (.dT kvs)):yk K H (.ref a) (.type "dict")
 | ins {a C dx:Addr} {fs:List (Str×V)} (e:H a=some (.ins C dx fs)) (cl:Lz K C) (ha:PySem.W.findIn K (.ref C) "__class__"=some (some (.builtin "object.__class__")))
   (hn:PySem.W.specialIn K (.builtin "object.__class__") "__get__"=some (some (.builtin "getset_descriptor.__get__"))) (htk:PySem.W.takesIn K (.builtin "object.__class__")=some true)
   (hm:PySem.W.mroIn K C (.type "object")=some true):yk K H (.ref a) (.ref C)
theorem Ds {x:V} {u t:Value} (I:Inv X pins σ H s) (rx:RelV x u) (ty:yk X.K H x t) (e:PySem.W.kitOne X.K t c=some b) (h:∀tk,Q (.bool b) { s with toks:=tk }) :
  wpAny (model X.prog X.w) A (call (.builtin "isinstance") [u,c]) Q E s:=by
 cases ty with
 | non=>cases (show u=Value.none from rx);exact dH PySem.W.kitx_none I.kIn True.intro e (λz=>nomatch z) h
 | bl y=>cases (show u=Value.bool y from rx);exact dH PySem.W.kitx_bool I.kIn True.intro e (λz=>nomatch z) h
 | int i=>obtain ⟨t,q⟩:=(show ∃t,u=Value.int i t from rx);cases q;exact dH PySem.W.kitx_int I.kIn True.intro e (λz=>nomatch z) h
 | str y=>obtain ⟨t,q⟩:=(show ∃t,u=Value.str y t from rx);cases q;exact dH PySem.W.kitx_str I.kIn True.intro e (λz=>nomatch z) h
 | flt y=>obtain ⟨t,q⟩:=(show ∃t,u=Value.float y t from rx);cases q;exact dH PySem.W.kitx_float I.kIn True.intro e (λz=>nomatch z) h
 | @lst a xs ea =>
  cases (show u=Value.ref a from rx);obtain ⟨_,_,n,_,h1⟩:=(show jh X.prog X.w H s.heap a (.lst xs) from I.hok a _ ea);exact dH PySem.W.kitx_list I.kIn ⟨_,h1,rfl⟩ e (λz=>nomatch z) h
 | @frz a ob xs ea =>
  cases (show u=Value.ref a from rx);obtain ⟨_,_,_,n,_,h1⟩:=(show jh X.prog X.w H s.heap a (.frz ob (.lst xs)) from I.hok a _ ea);exact dH PySem.W.kitx_list I.kIn ⟨_,h1,rfl⟩ e (λz=>nomatch z) h
 | @tup a xs ea =>
  cases (show u=Value.ref a from rx);obtain ⟨_,_,_,p⟩:=(show jh X.prog X.w H s.heap a (.tup xs) from I.hok a _ ea);obtain ⟨o,h1,h2,_⟩:=p;exact dH PySem.W.kitx_tuple I.kIn ⟨o,h1,h2⟩ e (λz=>nomatch z) h
 | @dK a kvs ea =>
  cases (show u=Value.ref a from rx);obtain ⟨_,_,vs,_,p⟩:=(show jh X.prog X.w H s.heap a (.dK kvs) from I.hok a _ ea);obtain ⟨o,es,ep,h1,h2,_⟩:=p;exact dH PySem.W.kitx_dict I.kIn ⟨o,h1,h2.1⟩ e (λz=>nomatch z) h
 | @dT a kvs ea =>
  cases (show u=Value.ref a from rx);obtain ⟨_,_,xs,_,o,es,ep,h1,h2,_⟩:=(show jh X.prog X.w H s.heap a (.dT kvs) from I.hok a _ ea);exact dH PySem.W.kitx_dict I.kIn ⟨o,h1,h2.1⟩ e (λz=>nomatch z) h
 | @ins a C dx fs ea cl ha hn htk hm =>
  cases (show u=Value.ref a from rx);obtain ⟨mA,O,_⟩:=zO I.hok ea;obtain ⟨od,J,_⟩:=O.look;exact dH (PySem.W.kitx_own (cl.get _) cl.hd ha hn htk hm) I.kIn J e (λz=>nomatch z) h
end
structure lB (k:Nat) (A:Around):Prop where
 hd:A.handled=none
 dp:A.depth+3*k+5 < recursionLimit
 un:A.units+16*k+200 < cLine
theorem lB.mono {j k:Nat} {A:Around} (r:lB k A) (h:j<=k):lB j A:=⟨r.hd,by have:=r.dp;lia,by have:=r.un;lia⟩
theorem lB.deeper {k:Nat} {A:Around} (r:lB (k+1) A) (env:Env):lB k (A.deeper env) :=
 ⟨r.hd,by have:=r.dp;show A.depth+1+3*k+5 < _;lia,by have:=r.un;show A.units+3+16*k+200 < _;lia⟩
theorem Jd {A:Around} {C:Addr} {us:List Value} {kw:List (Str×Value)}:(A.under (.builtin "type.__call__" ⟨.ref C :: us,kw⟩)).depth=A.depth+1:=by
 first | rfl | simp [Around.under,Code.weight,Code.isCreation,Code.isGuard,Code.isCaller,Code.frames,Code.isFrame,guardIds]
theorem Jc {A:Around} {C:Addr} {us:List Value} {kw:List (Str×Value)}:(A.under (.builtin "type.__call__" ⟨.ref C :: us,kw⟩)).units=A.units+1:=by
 first | rfl | simp [Around.under,Code.cUnits,Code.frames,Code.isFrame]
theorem lB.make {k:Nat} {A:Around} (r:lB (k+1) A) (C:Addr) (us:List Value) (kw:List (Str×Value)):lB k (A.under (.builtin "type.__call__" ⟨.ref C :: us,kw⟩)) :=
 ⟨r.hd,by have:=r.dp;rw[Jd];lia,by have:=r.un;rw[Jc];lia⟩
theorem lB.depth {k:Nat} {A:Around} (r:lB k A):A.depth < recursionLimit:=by have:=r.dp;lia
theorem lB.units {k:Nat} {A:Around} (r:lB k A):A.units+64 < cLine:=by have:=r.un;lia
def KG:TA:=λ_ H Q=>Q [] H
def rn (ta:TE) (tr:TA):TA:=λσ H Q=>ta σ H λx H1=>tr σ H1 λxs H2=>Q (x :: xs) H2
section
variable {X:Cx} {e:Expr} {es:List Expr} {te:TE} {t:TA} {pos:Pos}
theorem ag:PA X [] KG:=λ_ _ _ _ H Q I h=>Calls.spliced_nil ⟨[],H,I,.nil,h⟩
theorem ae (ha:PE X e te) (hr:PA X es t) (hs:starEach (e :: es) X.env=(false,eval e X.env) :: starEach es X.env:=by rfl):PA X (e :: es) (rn te t):=by
 intro pos pins s σ H Q I h;rw[hs];show wpAny _ _ (spliced ((false,eval e X.env) :: backTo pos (starEach es X.env))) _ _ s
 refine Calls.spliced_cons (gU (ha pins s σ H _ I h) λu s1 ⟨x,H1,I1,r1,q1⟩=>?_);exact gU (hr pos pins s1 σ H1 _ I1 q1) λus s2 ⟨xs,H2,I2,r2,q2⟩=>⟨x :: xs,H2,I2,.cons r1 r2,q2⟩
def Sa (t:TA):TE:=λσ H Q=>t σ H λxs H1=>xs.length<=sizeLine/\∀p,H1 p=none->Q (.ref p) (upd H1 p (.tup xs))
def Si (t:TA):TE:=λσ H Q=>t σ H λxs H1=>xs.length<=sizeLine/\∀p,H1 p=none->Q (.ref p) (upd H1 p (.lst xs))
theorem cU {x1} (h:PA X es t):PE X (.Tuple es x1 pos) (Sa t):=by
 intro pins s σ H Q I hq;refine wpAny_Tuple_spliced (gU (h pos pins s σ H _ I hq) λus s1 ⟨xs,H1,I1,r,z,q⟩=>⟨by rw[<- r.length];exact z,?_⟩);have hf:H1 s1.heap.objs.size=none:=I1.hok.fresh (ak _);refine ⟨.ref s1.heap.objs.size,upd H1 s1.heap.objs.size (.tup xs),I1.laid (t':=s1.toks) (λb u e=>Heap.get?_push_of_some _ e) (ak _) ?_,rfl,q _ hf⟩;exact ⟨z,us,r,⟨_,Heap.get?_push_size _ rfl,rfl,_,rfl⟩⟩
theorem dG (h:PA X es t):PE X (.List es pos) (Si t):=by
 intro pins s σ H Q I hq;refine wpAny_List_spliced (gU (h pos pins s σ H _ I hq) λus s1 ⟨xs,H1,I1,r,z,q⟩=>⟨by rw[<- r.length];exact z,?_⟩);have hf:H1 s1.heap.objs.size=none:=I1.hok.fresh (ak _);refine ⟨.ref s1.heap.objs.size,upd H1 s1.heap.objs.size (.lst xs),I1.laid (t':=s1.toks) (λb u e=>Heap.get?_push_of_some _ e) (ak _) ?_,rfl,q _ hf⟩;exact ⟨z,us,0,r,Heap.get?_push_size _ rfl⟩
end
abbrev Sp:=List V->Hp->VK->XK->Prop
abbrev NF:=List Env->Hp->Shared->XK->Value->Shared->Prop
structure Jy (P:Program) (w:World) (K:FG9) (mg:Str->Option Value) (base:Heap) (A:Around) (outer:List Env) (s:Shared) (H:Hp):Prop where
 frames:A.frames=some outer
 mod:Mod K mg base
 bs:∀b o,base.get? b=some o->s.heap.get? b=some o/\H b=none
 bsz:base.objs.size<=s.heap.objs.size
 funs:s.heap.FunFrames base outer
 frf:∀b∈Lx outer,H b=none
 hok:zS P w H s.heap
 bare:AllBare s.gens
def CE (outer:List Env) (P:Program) (w:World) (H:Hp) (s:Shared) (Q:VK) (u:Value) (s':Shared):Prop :=
 ∃v H',s'.os=s.os/\AllBare s'.gens/\Un (Lx outer) [] H H' s.heap s'.heap/\zS P w H' s'.heap/\RelV v u/\Q v H'
def CR (CX:NF) (outer:List Env) (P:Program) (w:World) (H:Hp) (s:Shared) (Q:VK) (E:XK) (r:Result) (s':Shared):Prop :=
 match r with
 | .ok (.ret u)=>CE outer P w H s Q u s'
 | .ok _=>False
 | .error e=>CX outer H s E e s'
structure cQ (P:Program) (w:World) (K:FG9) (mg:Str->Option Value) (base:Heap) (CX:NF) (k:Nat) (f:Addr) (fd:FuncData) (ps:List Str) (sp:Sp):Prop where
 len:∀vs H Q E,sp vs H Q E->vs.length=ps.length
 run:∀(A:Around) (outer:List Env) (s:Shared) (H:Hp) (args:Args) (us:List Value) (vs:List V) (Q:VK) (E:XK),lB k A->Jy P w K mg base A outer s H->BindsTo s fd args (ps.zip us)->cZ vs us->sp vs H Q E →
  codeAny (model P w) A (.call (.ref f) args) (CR CX outer P w H s Q E) s
theorem Jy.make {P:Program} {w:World} {K:FG9} {mg:Str->Option Value} {base:Heap} {A:Around} {outer:List Env} {s:Shared} {H:Hp} (e:Jy P w K mg base A outer s H) (C:Addr) (us:List Value) (kw:List (Str×Value)) :
  Jy P w K mg base (A.under (.builtin "type.__call__" ⟨.ref C :: us,kw⟩)) outer s H:=⟨by first | exact e.frames | (simpa [Around.under,Code.envs,Code.isFrame,pushEnvs] using e.frames),e.mod,e.bs,e.bsz,e.funs,e.frf,e.hok,e.bare⟩
section
variable {X:Cx} {pins:List (Addr×Obj)} {σ:St} {H:Hp} {s s':Shared}
theorem Inv.env0 (I:Inv X pins σ H s):Jy X.prog X.w X.K X.mg X.base X.A X.stack s H :=
 ⟨I.ok.frames,I.ok.mod,I.bs,ai I.ok.bsz I.sz,I.stack,I.stkFree,I.hok,I.bare⟩
theorem Inv.after {Q:VK} {u:Value} (I:Inv X pins σ H s) (h:CE X.stack X.prog X.w H s Q u s'):EP X pins σ Q u s':=by
 obtain ⟨v,H',os,bare,un,hok,r,q⟩:=h;obtain ⟨hh,g,d,t,os'⟩:=s';obtain rfl:os'=s.os:=os;exact ⟨v,H',I.call (h':=hh) (g':=g) (d':=d) (t':=t) (ch:=[]) un hok bare (λb z=>absurd z (by simp)),r,q⟩
end
def LK (sp:Sp) (dvs:List V) (E:XK) (t:TA):TE:=λσ H Q=>t σ H λvs H1=>sp (vs++dvs) H1 Q E
def Pg (C:Addr) (m:Str) (sp:Sp) (dvs:List V) (E:XK) (ta:TE) (t:TA):TE:=λσ H Q=>ta σ H λx H1=>∃a dx fs,x=.ref a/\H1 a=some (.ins C dx fs)/\fs.lookup m=none /\
 t σ H1 λvs H2=>sp (x :: (vs++dvs)) H2 Q E
def Ph (C:Addr) (sp:Sp) (dvs:List V) (E:XK) (t:TA):TE:=λσ H Q=>t σ H λvs H1=>∀x dx,H1 x=none->H1 dx=none->dx≠x →
 sp (.ref x :: (vs++dvs)) (upd (upd H1 dx (.own x)) x (.ins C dx [])) (λv H2=>v=.non/\Q (.ref x) H2) E
def Binds (K:FG9) (fd:FuncData) (ps:List Str) (ds:List Value):Prop :=
 ∀(s:Shared) (us:List Value),K.In s.heap->(us++ds).length=ps.length->BindsTo s fd ⟨us,[]⟩ (ps.zip (us++ds))
theorem Binds.all {K:FG9} {fd:FuncData} {ps:List Str} (h:∀us:List Value,us.length=ps.length->bindArgs fd ⟨us,[]⟩=pure (ps.zip us)):Binds K fd ps []:=λs us _ hl=>by
 rw[lQ] at hl ⊢;exact .of_eq (h us hl)
def ym (CX:NF) (X:Cx) (E:XK):Prop:=∀(pins:List (Addr×Obj)) (σ:St) (H:Hp) (s:Shared) (e:Value) (s':Shared),Inv X pins σ H s->CX X.stack H s E e s'->X.xe e s'
section
variable {X:Cx} {CX:NF} {k:Nat} {f C:Addr} {fd:FuncData} {ps:List Str} {sp:Sp} {dvs:List V} {ds:List Value} {E:XK} {x m:Str} {p pos apos:Pos} {e o:Expr} {es:List Expr} {ta:TE} {t:TA}
theorem L5 {pins:List (Addr×Obj)} {σ:St} {H:Hp} {s:Shared} {Q:VK} {us:List Value} {vs:List V} (F:cQ X.prog X.w X.K X.mg X.base CX k f fd ps sp) (hr:lB k X.A) (hb:Binds X.K fd ps ds) (hd:cZ dvs ds) (hx:ym CX X E)
  (I:Inv X pins σ H s) (r:cZ vs us) (h:sp (vs++dvs) H Q E):wpAny (model X.prog X.w) X.A (call (.ref f) us) (EP X pins σ Q) X.xe s:=by
 have r2:cZ (vs++dvs) (us++ds):=r.append hd;have hl:(us++ds).length=ps.length:=by rw[<- r2.length];exact F.len _ _ _ _ h
 refine wpAny_call (codeAny_mono (F.run X.A X.stack s H ⟨us,[]⟩ (us++ds) (vs++dvs) Q E hr I.env0 (hb s us I.kIn hl) r2 h) λr s' hq=>?_);cases r with
 | error e=>exact hx pins σ H s e s' I hq
 | ok fl =>
  cases fl with
  | ret u=>exact I.after hq
  | next=>exact False.elim hq
  | brk=>exact False.elim hq
  | cont=>exact False.elim hq
theorem OK (F:cQ X.prog X.w X.K X.mg X.base CX k f fd ps sp) (hr:lB k X.A) (hg:Gl X x) (hm:X.mg x=some (.ref f)) (hk:PySem.W.keepIn X.K (.ref f)=true) (hb:Binds X.K fd ps ds) (hd:cZ dvs ds) (hx:ym CX X E)
  (ha:PA X (e :: es) t) (hdb:(x == ("__debug__":Str))=false:=by decide) (he:starEach (e :: es) X.env=(false,eval e X.env) :: starEach es X.env:=by rfl) (hpl:(backTo pos (starEach es X.env)).any (·.1)=false:=by rfl) :
  PE X (.Call (.Name x p) (e :: es) [] pos) (LK sp dvs E t):=by
 sleep 4;refine wpAny_Call_Name_kw (Fc I hg hm ?_ hdb);refine Il (h₀:=X.base) I.ok.mod.kin hk (gU (ha pos pins s σ H _ I h) λus s1 ⟨vs,H1,I1,r,q⟩=>⟨I1.kIn,?_⟩) he hpl;exact L5 F hr hb hd hx I1 r q
theorem OI {pl : Sem Bool} (he : PE X o ta) (c : Lz X.K C) (hm : RH X.K C m f) (F : cQ X.prog X.w X.K X.mg X.base CX k f fd ps sp) (hr : lB k X.A) (hb : Binds X.K fd ps ds) (hd : cZ dvs ds) (hx : ym CX X E) (ha : PA X (e :: es) t)
    (hst : starEach (e :: es) X.env = (false, eval e X.env) :: starEach es X.env := by rfl) (hpl : (backTo pos (starEach es X.env)).any (·.1) = false := by rfl)
    (ht : eval (.Call (.Attribute o m apos) (e :: es) [] pos) X.env = (do
      let ov <- eval o X.env
      standAt apos.atName
      let (f, first) <- holding [ov] (getMethod ov m pl)
      callWith pos f first (backTo pos (starEach (e :: es) X.env)) (backToKw pos (keywordEach [] X.env))) := by rfl) :
    PE X (.Call (.Attribute o m apos) (e :: es) [] pos) (Pg C m sp dvs E ta t) := by
  sleep 4;refine PySem.W.methodCall_KW (pl := pl) (gU (he pins s σ H _ I h) λu s1 ⟨x, H1, I1, rx, a, dx, fs, ex, ea, l, q⟩ => ?_) ht;subst ex;obtain rfl : u = Value.ref a := rx;refine Ji I1 ea c hm l ?_;refine Il (first := [.ref a]) (h₀ := X.base) I.ok.mod.kin hm.kp (gU (ha pos pins s1 σ H1 _ I1 q) λus s2 ⟨vs, H2, I2, r, q2⟩ => ⟨I2.kIn, ?_⟩) hst hpl;exact L5 (us := .ref a :: us) (vs := .ref a :: vs) F hr hb hd hx I2 (.cons rfl r) q2
structure Mk (K:FG9) (C f:Addr):Prop where
 makes:PySem.W.makesIn K C=true
 init:PySem.W.findIn K (.ref C) "__init__"=some (some (.ref f))
 fn:PySem.W.isFn K (.ref f)=true
 kp:PySem.W.keepIn K (.ref C)=true
theorem L4 {pins:List (Addr×Obj)} {σ:St} {H:Hp} {s:Shared} {Q:VK} {us:List Value} {vs:List V} (M:Mk X.K C f) (F:cQ X.prog X.w X.K X.mg X.base CX k f fd ps sp) (hr:lB (k+1) X.A) (hb:Binds X.K fd ps ds) (hd:cZ dvs ds)
  (hx:ym CX X E) (I:Inv X pins σ H s) (r:cZ vs us)
  (h:∀x dx,H x=none->H dx=none->dx≠x->sp (.ref x :: (vs++dvs)) (upd (upd H dx (.own x)) x (.ins C dx [])) (λv H2=>v=.non/\Q (.ref x) H2) E) :
  wpAny (model X.prog X.w) X.A (call (.ref C) us) (EP X pins σ Q) X.xe s:=by
 have hq:=h (s.heap.objs.size+1) s.heap.objs.size (I.hok.fresh (mN _)) (I.hok.fresh (ak _)) (cu (fv _));have I2:=Inv.made (C:=C) I;have r2:cZ (V.ref (s.heap.objs.size+1) :: (vs++dvs)) (Value.ref (s.heap.objs.size+1) :: (us++ds)):=.cons rfl (r.append hd)
 have hl:(Value.ref (s.heap.objs.size+1) :: us++ds).length=ps.length:=by
  have e:=r2.length;rw[F.len _ _ _ _ hq] at e;exact e.symm
 refine wpAny_call (ME (f:=f) I.kIn M.makes M.init (beq_iff_eq.mp M.fn) (codeAny_mono (F.run _ X.stack _ _ ⟨Value.ref (s.heap.objs.size+1) :: us,[]⟩ (Value.ref (s.heap.objs.size+1) :: (us++ds)) _ _ E (hr.make C us [])
  (I2.env0.make C us []) (hb _ (Value.ref (s.heap.objs.size+1) :: us) I2.kIn hl) r2 hq) λr s' hq'=>?_))
 cases r with
 | error e=>exact hx pins σ _ _ e s' I2 hq'
 | ok fl =>
  cases fl with
  | ret u =>
   obtain ⟨v,H',I3,rv,ev,q3⟩:=I2.after hq';subst ev;exact ⟨rv,⟨V.ref (s.heap.objs.size+1),H',I3,rfl,q3⟩⟩
  | next=>exact False.elim hq'
  | brk=>exact False.elim hq'
  | cont=>exact False.elim hq'
theorem OJ (M:Mk X.K C f) (F:cQ X.prog X.w X.K X.mg X.base CX k f fd ps sp) (hr:lB (k+1) X.A) (hg:Gl X x) (hm:X.mg x=some (.ref C)) (hb:Binds X.K fd ps ds) (hd:cZ dvs ds) (hx:ym CX X E)
  (ha:PA X (e :: es) t) (hdb:(x == ("__debug__":Str))=false:=by decide) (he:starEach (e :: es) X.env=(false,eval e X.env) :: starEach es X.env:=by rfl) (hpl:(backTo pos (starEach es X.env)).any (·.1)=false:=by rfl) :
  PE X (.Call (.Name x p) (e :: es) [] pos) (Ph C sp dvs E t):=by
 sleep 4;refine wpAny_Call_Name_kw (Fc I hg hm ?_ hdb);refine Il (h₀:=X.base) I.ok.mod.kin M.kp (gU (ha pos pins s σ H _ I h) λus s1 ⟨vs,H1,I1,r,q⟩=>⟨I1.kIn,?_⟩) he hpl;exact L4 M F hr hb hd hx I1 r q
end
structure a7 (N P:List Str) (sc:Scope):Prop where
 kind:sc.kind=.function
 co:sc.isCoroutine=false
 gen:sc.isGenerator=false
 nd:N.Nodup
 pre:N.take P.length=P
 par:∀x∈P,sc.names.lookup x=some .local\/sc.names.lookup x=some .cell
 nofree:∀y∈sc.names,y.2≠.free
theorem DO {kindOf:Str->Option NameKind} {x:Str}:∀{binds:List (Str×Value)} {m:Str->Option Value},(∀v,(x,v)∉binds)->bindL kindOf binds m x=m x
 | [],_,_=>rfl
 | (n,v) :: r,m,h=>by
  unfold bindL;rw[DO λw hw=>h w (b6 _ hw)]
  split
  ·have:x≠n:=by rintro rfl;exact h v dm
   simp [this]
  ·rfl
theorem DR {kindOf:Str->Option NameKind} {x:Str}:∀{binds:List (Str×Value)} {m:Str->Option Value},(∀v,(x,v)∉binds)->bindC kindOf binds m x=m x
 | [],_,_=>rfl
 | (n,v) :: r,m,h=>by
  unfold bindC;rw[DR λw hw=>h w (b6 _ hw)]
  split
  ·rfl
  ·have:x≠n:=by rintro rfl;exact h v dm
   simp [this]
theorem DQ {kindOf:Str->Option NameKind} {x:Str} {v:Value}:∀{P:List Str} {vs:List Value} {i:Nat} {m:Str->Option Value},P.Nodup->P[i]?=some x->vs[i]?=some v->kindOf x=some .local →
  bindL kindOf (P.zip vs) m x=some v
 | [],_,_,_,_,h,_,_=>by simp at h
 | _ :: _,[],_,_,_,_,h,_=>by simp at h
 | p :: P,w :: vs,0,m,nd,h1,h2,hk=>by
  simp at h1 h2;subst h1;subst h2;show bindL kindOf ((p,w) :: P.zip vs) m p=_
  unfold bindL;rw[DO λv hv=>(fb.mp nd).1 (NH hv).1,if_pos hk];simp
 | p :: P,w :: vs,i+1,m,nd,h1,h2,hk=>by
  show bindL kindOf ((p,w) :: P.zip vs) m x=_
  unfold bindL;exact DQ (i:=i) (fb.mp nd).2 (by simpa using h1) (by simpa using h2) hk
theorem DS {kindOf:Str->Option NameKind} {x:Str} {v:Value}:∀{P:List Str} {vs:List Value} {i:Nat} {m:Str->Option Value},P.Nodup->P[i]?=some x->vs[i]?=some v->kindOf x≠some .local →
  bindC kindOf (P.zip vs) m x=some v
 | [],_,_,_,_,h,_,_=>by simp at h
 | _ :: _,[],_,_,_,_,h,_=>by simp at h
 | p :: P,w :: vs,0,m,nd,h1,h2,hk=>by
  simp at h1 h2;subst h1;subst h2;show bindC kindOf ((p,w) :: P.zip vs) m p=_
  unfold bindC;rw[DR λv hv=>(fb.mp nd).1 (NH hv).1,if_neg hk];simp
 | p :: P,w :: vs,i+1,m,nd,h1,h2,hk=>by
  show bindC kindOf ((p,w) :: P.zip vs) m x=_
  unfold bindC;exact DS (i:=i) (fb.mp nd).2 (by simpa using h1) (by simpa using h2) hk
def start (N:List Str) (vs:List V):St:=vs.map some++List.replicate (N.length - vs.length) none
def Ln (CX:NF) (P:Program) (w:World) (K:FG9) (mg:Str->Option Value) (base:Heap) (N:List Str) (qual:Str) (scope:Scope) (f:Addr) (cd:Value) (A:Around) (outer:List Env) (s:Shared) (H:Hp) (E:XK):Cx where
 prog:=P
 w:=w
 K:=K
 mg:=mg
 base:=base
 A:=A.deeper (envOfC qual scope s.heap.objs.size f cd)
 N:=N
 s₀:=s
 H₀:=H
 env:=envOfC qual scope s.heap.objs.size f cd
 outer:=outer
 stack:=envOfC qual scope s.heap.objs.size f cd :: outer
 ex:=[]
 calm:=true
 fn:=λ_=>true
 pn:=[]
 xe:=λe s'=>wpAny (model P w) (A.deeper (envOfC qual scope s.heap.objs.size f cd)) (leaving (envOfC qual scope s.heap.objs.size f cd) e) (λ_ s''=>CX outer H s E e s'') (λe' s''=>CX outer H s E e' s'') s'
theorem HU {sc:Scope} {n:Nat} {x:Str} (h:sc.names.lookup x=some .cell):∃c,(cellsFrom n sc.names []).lookup x=some c:=by
 have q:=zT sc.names n [] (.inl h);exact RX.mp q
theorem Li {CX:NF} {P:Program} {w:World} {K:FG9} {mg:Str->Option Value} {base:Heap} {N ps:List Str} {qual:Str} {scope:Scope} {f:Addr} {cd:Value} {A:Around} {outer:List Env} {s s1:Shared} {H:Hp} {E:XK} {us:List Value} {vs:List V}
  (S:a7 N ps scope) (hd:A.handled=none) (e0:Jy P w K mg base A outer s H) (hl:vs.length=ps.length) (r:cZ vs us)
  (x:InCallC s s.heap.objs.size (bindL (envOfC qual scope s.heap.objs.size f cd).kindOf (ps.zip us) λ_=>none) (cellsFrom (s.heap.objs.size+1) scope.names []) (bindC (envOfC qual scope s.heap.objs.size f cd).kindOf (ps.zip us) λ_=>none) s1) :
  Inv (Ln CX P w K mg base N qual scope f cd A outer s H E) [] (start N vs) H s1:=by
 have hpl:ps.length<=N.length:=by have:=congrArg List.length S.pre;rw[cG] at this;lia
 obtain ⟨h1,tk,rfl,hk⟩:=x.done;have noA:∀b:Addr,b∉(Ln CX P w K mg base N qual scope f cd A outer s H E).ex:=λb z=>absurd (show b∈([]:List Addr) from z) (by simp)
 refine ⟨⟨e0.mod,S.kind,rfl,rfl,ak _,λy z c h1 h2=>?_,λy hy=>?_,λy c _ h=>?_,λ_=>hd,Around.frames_deeper e0.frames,.inr ⟨rfl,rfl⟩,λb z=>absurd z (noA b),e0.bs,e0.bsz,λb _ _=>noA b,λb z=>absurd z (noA b),e0.funs,e0.frf⟩,
  rfl,e0.bare,Un.kept hk,⟨_,x.toInCall.ns,λi y v h1 h2 h3=>?_⟩,λy c h=>⟨_,x.cell y c h⟩,e0.hok.fresh (ak _),λy c h=>?_,λp hp=>absurd (show p∈([]:List (Addr×Obj)) from hp) (by simp),e0.hok.kept hk,?_⟩
 ·exact name_of_addr x.apart (kU h1) (kU h2)
 ·have hy:scope.names.lookup y=some .cell\/scope.names.lookup y=some .free:=hy;rcases hy with hy | hy
  ·exact HU hy
  ·exact absurd rfl (S.nofree _ (kU hy))
 ·exact aU (x.above y c (kU h))
 ·have hi:i < vs.length:=by
   unfold start at h2;by_cases hi:i < vs.length
   ·exact hi
   ·rw[aZ (by simpa using hi)] at h2;rw[df] at h2
    split at h2 <;> cases h2
  have ha:vs[i]?=some v:=by
   unfold start at h2;rw[bD (by simpa using hi),aG] at h2;cases e:vs[i]? with
   | none=>rw[e] at h2;cases h2
   | some a=>rw[e] at h2;cases h2;rfl
  obtain ⟨u,hu,rv⟩:=r.get ha
  have hp:ps[i]?=some y:=by
   rw[<- S.pre,xo (by lia)];exact h1
  have ndP:ps.Nodup:=by rw[<- S.pre];exact S.nd.sublist (List.take_sublist _ _)
  refine ⟨u,rv,?_⟩;rcases S.par y (ay hp) with k | k
  ·exact .inl ⟨k,DQ ndP hp hu k⟩
  ·obtain ⟨c,e⟩:=HU (n:=s.heap.objs.size+1) k;refine .inr ⟨.inl k,c,e,?_⟩;have q:=x.cell y c e;rw[DS ndP hp hu (by show scope.names.lookup y≠_;rw[k];decide)] at q;exact q
 ·exact e0.hok.fresh (aU (x.above y c (kU h)))
 ·unfold start;show _=N.length
  rw[au,aj,aD]
  lia
theorem Th {CX:NF} {P:Program} {w:World} {K:FG9} {mg:Str->Option Value} {base:Heap} {k:Nat} {f:Addr} {name qual:Str} {params:Arguments} {body:List Stmt} {scope:Scope} {dV kV doc pm cdv ct oc:Value} {an od:Option Addr}
  {osl:Array (Option Value)} {N ps:List Str} {sp:Sp} (lk:K.lookup f=some ⟨oc,od,.func (PySem.W.fnOf name qual params body scope dV kV doc pm an cdv ct),osl⟩) (hcd:PySem.W.codeIn K cdv qual=true) (S:a7 N ps scope)
  (len:∀vs H Q E,sp vs H Q E->vs.length=ps.length)
  (hbody:∀(A:Around) (outer:List Env) (s:Shared) (H:Hp) (vs:List V) (Q:VK) (E:XK),lB k (A.deeper (envOfC qual scope s.heap.objs.size f cdv))->sp vs H Q E →
   ∃t,Jw (Ln CX P w K mg base N qual scope f cdv A outer s H E) body t/\t { nx:=λ_ H'=>Q .non H',rt:=Q } (start N vs) H) :
  cQ P w K mg base CX (k+1) f (PySem.W.fnOf name qual params body scope dV kV doc pm an cdv ct) ps sp:=by
 refine ⟨len,λA outer s H args us vs Q E hr e0 hb r hsp=>?_⟩;have hl:=len _ _ _ _ hsp;have KX:K.In s.heap:=e0.mod.kin.keeps λb o e=>(e0.bs b o e).1
 have lim:s.heap.NoLimit:=e0.mod.nolimit.keeps λb o e=>(e0.bs b o e).1
 have hkind:∀y∈ps.zip us,scope.names.lookup y.1=some .local\/(scope.names.lookup y.1=some .cell/\((cellsFrom (s.heap.objs.size+1) scope.names []).lookup y.1).isSome=true):=λ⟨n,v⟩ hy=>by
  rcases S.par n (NH hy).1 with q | q
  ·exact .inl q
  ·exact .inr ⟨q,zT _ _ _ (.inl q)⟩
 refine codeAny_call_function hr.depth (KX _ _ lk) rfl S.co S.gen rfl (PySem.W.codeRec_of KX hcd) (hb _ _ _ _ ?_);refine wpAny_newFunctionEnv_cells S.kind hkind λenv he s1 x=>?_
 subst he;refine ⟨lim.keeps x.toInCall.keep,codeAny_func ?_⟩;obtain ⟨t,ht,hq⟩:=hbody A outer s H vs Q E (hr.deeper _) hsp;have I:Inv (Ln CX P w K mg base N qual scope f cdv A outer s H E) [] (start N vs) H s1:=Li S hr.hd e0 hl r x;refine wpAny_mono (ht [] s1 (start N vs) H _ I hq) (λfl s' hs=>?_) λe s' hs=>hs
 have fin:∀{σ':St} {H':Hp} {v:V} {u:Value},Inv (Ln CX P w K mg base N qual scope f cdv A outer s H E) [] σ' H' s'->RelV v u->Q v H'->CE outer P w H s Q u s' :=
  λ{σ' H' v u} J rv q=>⟨v,H',J.os,J.bare,J.base,J.hok,rv,q⟩
 cases fl with
 | ret u =>
  obtain ⟨v,σ',H',J,rv,q⟩:=hs;exact fin J rv q
 | next =>
  obtain ⟨σ',H',J,q⟩:=hs;exact fin (v:=V.non) (u:=Value.none) J rfl q
 | brk =>
  obtain ⟨_,_,_,q⟩:=hs;exact False.elim q
 | cont =>
  obtain ⟨_,_,_,q⟩:=hs;exact False.elim q
section
variable {X:Cx} {x:Str} {p pos:Pos} {e:Expr} {es:List Expr} {t:TA} {id T:String} {r:List V->Hp->VK->Prop}
def T5 (r:List V->Hp->VK->Prop) (t:TA):TE:=λσ H Q=>t σ H λvs H1=>r vs H1 Q
theorem bJ (hc:oR X (.builtin id) r) (hg:Gl X x) (hm:X.mg x=none) (hv:bootBuiltins x=some (.builtin id)) (ha:PA X (e :: es) t) (hn:x≠"__name__":=by decide) (hdb:(x == ("__debug__":Str))=false:=by decide)
  (he:starEach (e :: es) X.env=(false,eval e X.env) :: starEach es X.env:=by rfl) (hpl:(backTo pos (starEach es X.env)).any (·.1)=false:=by rfl):PE X (.Call (.Name x p) (e :: es) [] pos) (T5 r t):=by
 sleep 4;refine wpAny_Call_Name_kw (kh I hg hm hv ?_ hn hdb);exact PyProof.Rows.callWith_builtin1 (gU (ha pos pins s σ H _ I h) λus s1 ⟨vs,H1,I1,r1,q1⟩=>hc pins s1 σ H1 vs us Q I1 r1 q1) he hpl
theorem d9 (hc:oR X (.type T) r) (hg:Gl X x) (hm:X.mg x=none) (hv:bootBuiltins x=some (.type T)) (ha:PA X (e :: es) t) (hn:x≠"__name__":=by decide) (hdb:(x == ("__debug__":Str))=false:=by decide)
  (he:starEach (e :: es) X.env=(false,eval e X.env) :: starEach es X.env:=by rfl) (hpl:(backTo pos (starEach es X.env)).any (·.1)=false:=by rfl):PE X (.Call (.Name x p) (e :: es) [] pos) (T5 r t):=by
 sleep 4;refine wpAny_Call_Name_kw (kh I hg hm hv ?_ hn hdb);exact PyProof.Rows.callWith_type1 (gU (ha pos pins s σ H _ I h) λus s1 ⟨vs,H1,I1,r1,q1⟩=>hc pins s1 σ H1 vs us Q I1 r1 q1) he hpl
end
end L2
namespace HT
open PySem PyProof.Rows
section
open PySem.SeqAt
open PySem.AutoSeq1 (wpAny_loadPart')
open PySem.MeetsSeq PySem.MeetsSeq2 PySem.MeetsSeq3
end
section
variable {prog:Program} {w:World} {A:Around} {E:Value->Shared->Prop} {s:Shared}
def Gy (n d:Nat):Option Int->Nat
 | none=>d
 | some v=>if v < 0 then (v+(n:Int)).toNat else min v.toNat n
theorem Ax (n d:Nat):Gy n d none=d:=rfl
theorem vz (n d k:Nat):Gy n d (some (k:Int))=min k n:=by
 show (if (k:Int) < 0 then ((k:Int)+(n:Int)).toNat else min (k:Int).toNat n)=min k n
 rw[if_neg (by lia),Int.toNat_natCast]
end
end HT
namespace L2
open PySem PySem.Spec PyProof.Rows
abbrev TO:=St->Hp->(Option Int->Hp->Prop)->Prop
def PO (X:Cx) (e:Option Expr) (t:TO):Prop :=
 ∀(pins:List (Addr×Obj)) (s:Shared) (σ:St) (H:Hp) (Q:Option Int->Hp->Prop),Inv X pins σ H s->t σ H Q →
  wpAny (model X.prog X.w) X.A (evalPart e X.env) (λu s'=>∃o H',Inv X pins σ H' s'/\IsPart u o/\Q o H') X.xe s
def JD:TO:=λ_ H Q=>Q none H
def Pd (t:TE):TO:=λσ H Q=>t σ H λx H1=>∃i,x=.int i/\Q (some i) H1
theorem intsAre_of {ns:List Int}:∀{us:List Value},cZ (ns.map V.int) us->IntsAre us ns:=by
 induction ns with
 | nil=>intro us r;rw[Kz] at r;cases r;exact .nil
 | cons n ns ih =>
  intro us r;rw[gI] at r;cases r with
  | cons r1 r2 =>
   obtain ⟨t,e⟩:=r1;subst e;exact .cons n t (ih r2)
section
variable {X:Cx} {e:Expr} {te:TE} {lo hi:Option Expr} {tl th:TO} {pos p2:Pos}
theorem zK:PO X none JD:=by
 sleep 4;rw[evalPart_none];exact wpAny_pure ⟨none,H,I,.none,h⟩
theorem tw (h:PE X e te):PO X (some e) (Pd te):=by
 intro pins s σ H Q I hw;rw[evalPart_some];refine gU (h pins s σ H _ I hw) λu s1 ⟨x,H1,I1,r1,q1⟩=>?_
 obtain ⟨i,rfl,q⟩:=q1;obtain ⟨t,rfl⟩:=r1;exact ⟨some i,H1,I1,.int i t,q⟩
def Um (X:Cx) (r:V->Option Int->Option Int->Hp->VK->Prop):Prop :=
 ∀(pins:List (Addr×Obj)) (s:Shared) (σ:St) (H:Hp) (x:V) (v vl vu:Value) (lo hi:Option Int) (sl:Addr) (Q:VK),Inv X pins σ H s->RelV x v->s.heap.IsSliceOf sl vl vu .none->IsPart vl lo->IsPart vu hi->r x lo hi H Q →
  ∃T id,typeLookup (.type T) "__getitem__"=pure (some (.builtin id))/\s.TypeIs v T/\wpAny (model X.prog X.w) X.A (getItem v (.ref sl)) (EP X pins σ Q) X.xe s
def tSl (r:V->Option Int->Option Int->Hp->VK->Prop) (te:TE) (tl th:TO):TE:=λσ H Q=>te σ H λx H1=>tl σ H1 λl H2=>th σ H2 λu H3=>r x l u H3 Q
theorem rX {r:V->Option Int->Option Int->Hp->VK->Prop} (hr:Um X r) (he:PE X e te) (hl:PO X lo tl) (hu:PO X hi th):PE X (.Subscript e (.Slice lo hi none p2) pos) (tSl r te tl th):=by
 sleep 4;refine Subscript_ (gU (he pins s σ H _ I h) λv s1 ⟨x,H1,I1,r1,q1⟩=>?_);refine wpAny_Slice (gU (hl pins s1 σ H1 _ I1 q1) λvl s2 ⟨l,H2,I2,pl,q2⟩=>gU (hu pins s2 σ H2 _ I2 q2) λvu s3 ⟨u,H3,I3,pu,q3⟩=>?_);rw[evalPart_none];refine wpAny_pure ?_;have I4:Inv X pins σ H3 { s3 with heap:=s3.heap.push { cls:=.type "slice",data:=.fields #[vl,vu,.none] } }:=I3.kept (t':=s3.toks) λb ob q=>Heap.get?_push_of_some _ q
 obtain ⟨T,id,hT,ht,hg⟩:=hr pins { s3 with heap:=s3.heap.push { cls:=.type "slice",data:=.fields #[vl,vu,.none] } } σ H3 x v vl vu l u s3.heap.objs.size Q I4 r1 (Heap.IsSliceOf.new ..) pl pu q3;show wpAny (model X.prog X.w) X.A (subscriptTail e (.Slice lo hi none p2) v (.ref s3.heap.objs.size)) (EP X pins σ Q) X.xe { s3 with heap:=s3.heap.push { cls:=.type "slice",data:=.fields #[vl,vu,.none] } }
 exact tail_any (ops:=[.ref s3.heap.objs.size,v]) ht hT hg (by with_unfolding_all rfl)
def qZ (xs:List V) (lo hi:Option Int):List V:=(xs.drop (HT.Gy xs.length 0 lo)).take (HT.Gy xs.length xs.length hi - HT.Gy xs.length 0 lo)
theorem yO (xs:List V) (lo hi:Option Int):(qZ xs lo hi).length<=xs.length:=by
 unfold qZ;rw[cG,oV]
 lia
end
def Lv (n:Nat) (i:Int):Option Nat:=if 0<=i then (if i < n then some i.toNat else none) else if -(n:Int)<=i then some (i+n).toNat else none
def Ij {α:Type} (xs:List α) (i:Int):Option α:=(Lv xs.length i).bind λj=>xs[j]?
theorem J7 {n:Nat} {i:Int} {j:Nat} (h:Lv n i=some j):seqIndex? i n=some j/\j < n/\-(n:Int)<=i/\i < n:=by
 unfold Lv at h;by_cases h0:0<=i
 ·rw[if_pos h0] at h;by_cases h1:i < n
  ·rw[if_pos h1] at h;have e:i.toNat=j:=cb h;exact ⟨by rw[seqIndex_of h0 h1,e],by lia,by lia,h1⟩
  ·rw[if_neg h1] at h;cases h
 ·rw[if_neg h0] at h;by_cases h1:-(n:Int)<=i
  ·rw[if_pos h1] at h;have e:(i+n).toNat=j:=cb h;exact ⟨by rw[seqIndex_neg (by lia) h1,e],by lia,h1,by lia⟩
  ·rw[if_neg h1] at h;cases h
theorem Fv {α:Type} {xs:List α} {i:Int} {v:α} (h:Ij xs i=some v):∃j,seqIndex? i xs.length=some j/\xs[j]?=some v/\j < xs.length/\-(xs.length:Int)<=i/\i < xs.length:=by
 unfold Ij at h;cases e:Lv xs.length i with
 | none=>rw[e] at h;cases h
 | some j =>
  rw[e] at h;obtain ⟨h1,h2,h3,h4⟩:=J7 e;exact ⟨j,h1,h,h2,h3,h4⟩
theorem fZ {α:Type} {xs:List α} {j:Nat} {v:α} (h:xs[j]?=some v):Ij xs (j:Int)=some v:=by
 have hj:j < xs.length:=(aF.mp h).1
 have e:Lv xs.length (j:Int)=some j:=by
  unfold Lv;rw[if_pos (by lia),if_pos (by lia)];simp
 unfold Ij;rw[e];exact h
theorem sY {α:Type} (xs:List α) (v:α):Ij (xs++[v]) (-1)=some v:=by
 have hl:(xs++[v]).length=xs.length+1:=by simp
 have e:Lv (xs++[v]).length (-1)=some xs.length:=by
  unfold Lv;rw[hl,if_neg (by decide),if_pos (by lia)];congr 1
  lia
 unfold Ij;rw[e];show (xs++[v])[xs.length]?=some v
 simp
def O7 (b:Expr):Prop:=∀o i,subscripted b false o i=operate [o,i] (getItem o i)
def Tv (X:Cx) (r:R2):Prop :=
 ∀(value slice:Expr) (pins:List (Addr×Obj)) (s:Shared) (σ:St) (H:Hp) (x y:V) (v u:Value) (Q:VK),Inv X pins σ H s->RelV x v->RelV y u->r x y H Q →
  subscripted slice false v u=operate [v,u] (getItem v u)->wpAny (model X.prog X.w) X.A (subscriptTail value slice v u) (EP X pins σ Q) X.xe s
def MtR (X:Cx) (id:String) (r:V->List V->Hp->VK->Prop):Prop :=
 ∀(pins:List (Addr×Obj)) (s:Shared) (σ:St) (H:Hp) (x:V) (xs:List V) (v:Value) (us:List Value) (Q:VK),Inv X pins σ H s->RelV x v->cZ xs us->r x xs H Q →
  wpAny (model X.prog X.w) X.A (call (.builtin id) (v :: us)) (EP X pins σ Q) X.xe s
section
variable {X:Cx} {a b:Expr} {ta tb:TE} {pos:Pos}
theorem bc {r:R2} (hr:Tv X r) (ha:PE X a ta) (hb:PE X b tb) (hs:O7 b:=by intro _ _;rfl):PE X (.Subscript a b pos) (Sg r ta tb):=by
 sleep 4;exact Subscript_ (Ry ha hb I h λv u s2 x y H2 I2 rx ry q=>hr a b pins s2 σ H2 x y v u Q I2 rx ry q (hs _ _))
def QU (K:FG9):R2:=λx y H Q=>∃p xs i v,x=.ref p/\y=.int i/\bR K H p xs/\Ij xs i=some v/\Q v H
def QT (K:FG9):R2:=λx y H Q=>∃p xs i v,x=.ref p/\y=.int i/\qJ K H p xs/\Ij xs i=some v/\Q v H
theorem bX:Tv X (QU X.K):=by
 intro value slice pins s σ H x y v u Q I rx ry h hs;obtain ⟨p,xs,i,z,rfl,rfl,hq,he,q⟩:=h;cases rx;obtain ⟨t,rfl⟩:=ry;obtain ⟨its,r,pl,hz⟩:=I.list hq;obtain ⟨j,h1,h2,h3,h4,h5⟩:=Fv he;obtain ⟨w,ew,rw'⟩:=r.get h2;have hl:=r.length;have hn:=AZ;have fin:EP X pins σ Q w s:=⟨z,H,I,rw',q⟩;by_cases h0:0<=i
 ·have hj:i.toNat=j:=by
   rw[seqIndex_of h0 h5] at h1;exact cb h1
  exact item_listR pl.isList h0 (by lia) (by rw[hj];simpa using ew) fin hs
 ·have hj:(i+(its.toArray.size:Int)).toNat=j:=by
   rw[seqIndex_neg (by lia) h4] at h1;rw[aY,<- hl];exact cb h1
  exact subscriptTail_builtinR (x:=w) pl.isList.typeIs slot_list_getitem.lookup
   (wpAny_getItem_list_neg (Q:=λr s'=>r=w/\EP X pins σ Q r s') pl.isList (by lia) (by rw[aY] <;> lia) (by lia) (by rw[hj];simpa using ew) ⟨rfl,fin⟩) hs
theorem bN:Tv X (QT X.K):=by
 intro value slice pins s σ H x y v u Q I rx ry h hs;obtain ⟨p,xs,i,z,rfl,rfl,hq,he,q⟩:=h;cases rx;obtain ⟨t,rfl⟩:=ry;obtain ⟨its,r,pl,hz⟩:=I.tuple hq;obtain ⟨j,h1,h2,h3,h4,h5⟩:=Fv he;obtain ⟨w,ew,rw'⟩:=r.get h2;have hl:=r.length;have hn:=AZ;have fin:EP X pins σ Q w s:=⟨z,H,I,rw',q⟩
 exact subscriptTail_builtinR (x:=w) pl.typeIs slot_tuple_getitem.lookup
  (getItem_tuple (j:=j) (Q:=λr s'=>r=w/\EP X pins σ Q r s') pl (by lia) (by lia) (by rw[aY,<- hl];exact h1) (by simpa using ew) ⟨rfl,fin⟩) hs
theorem Jb (its:List Value) (n j:Nat) (u:Value):Obj.mapSeq (·.setIfInBounds j u) { cls:=.type "list",data:=.seq its.toArray n }={ cls:=.type "list",data:=.seq (its.set j u).toArray n }:=by
 simp [Obj.mapSeq]
theorem Inv.lst {pins:List (Addr×Obj)} {σ:St} {H:Hp} {s:Shared} {p:Addr} {xs:List V} (I:Inv X pins σ H s) (h:H p=some (.lst xs)) :
  ∃(its:List Value) (n:Nat),cZ xs its/\s.heap.get? p=some { cls:=.type "list",data:=.seq its.toArray n }/\xs.length<=sizeLine:=by
 obtain ⟨z,its,n,r,e⟩:=I.hok p _ h;exact ⟨its,n,r,e,z⟩
theorem Inv.lstUpd {pins:List (Addr×Obj)} {σ:St} {H:Hp} {s:Shared} {p:Addr} {xs ys:List V} {its its':List Value} {n n':Nat} {f:Obj->Obj} (I:Inv X pins σ H s) (h:H p=some (.lst xs))
  (ho:s.heap.get? p=some { cls:=.type "list",data:=.seq its.toArray n }) (hf:f { cls:=.type "list",data:=.seq its.toArray n }={ cls:=.type "list",data:=.seq its'.toArray n' }) (r:cZ ys its') (hz:ys.length<=sizeLine) (t:Nat) :
  Inv X pins σ (upd H p (.lst ys)) { s with heap:=s.heap.update p f,toks:=t }:=by
 have e:(s.heap.update p f).get? p=some { cls:=.type "list",data:=.seq its'.toArray n' }:=by
  rw[Heap.get?_update_self f ho (by rw[hf] <;> rfl),hf]
 refine I.write (x:=p) (e:=p) (by rw[h];trivial) (.inl rfl) (λb u hb q=>(Heap.get?_update_other _ _ (Ne.symm hb)).trans q) ⟨_,e⟩ ?_;exact ⟨hz,its',n',r,e⟩
def Pp:V->V->V->Hp->(Hp->Prop)->Prop:=λo i v H Q=>∃p xs k j,o=.ref p/\i=.int k/\H p=some (.lst xs)/\Lv xs.length k=some j/\Q (upd H p (.lst (xs.set j v)))
theorem set_list:RC X Pp:=by
 intro pins s σ H o i v ov iv u Q I ro ri rv h;obtain ⟨p,xs,k,j,rfl,rfl,hp,hj,q⟩:=h;cases ro;obtain ⟨t,rfl⟩:=ri;obtain ⟨its,n,r,ho,hz⟩:=I.lst hp;obtain ⟨h1,h2,h3,h4⟩:=J7 hj;have hl:=r.length;have hn:=AZ
 have I':Inv X pins σ (upd H p (.lst (xs.set j v))) { s with heap:=s.heap.update p (Obj.mapSeq (·.setIfInBounds j u)) } :=
  I.lstUpd hp ho (Jb its n j u) (r.set rv j) (by rw[dI];exact hz) s.toks
 by_cases h0:0<=k
 ·have hk:k.toNat=j:=by
   rw[seqIndex_of h0 h4] at h1;exact cb h1
  exact PySem.W.ki_setAt ho h0 (by lia) (by rw[aY,<- hl];exact h4) (by rw[hk];exact ⟨_,I',q⟩)
 ·have hk:(k+(its.toArray.size:Int)).toNat=j:=by
   rw[seqIndex_neg (by lia) h3] at h1;rw[aY,<- hl];exact cb h1
  exact PySem.W.ki_setBack ho (by lia) (by rw[aY,<- hl];exact h3) (by lia) (by rw[hk];exact ⟨_,I',q⟩)
theorem Es (lo hi:Option Int) (n:Nat):(sliceBounds lo hi none n).1=((HT.Gy n 0 lo:Nat):Int)/\(sliceBounds lo hi none n).2.1=((HT.Gy n n hi:Nat):Int)/\(sliceBounds lo hi none n).2.2=1:=by
 refine ⟨?_,?_,rfl⟩
 ·cases lo with
  | none=>simp [sliceBounds,HT.Gy]
  | some i =>
   simp only[sliceBounds,HT.Gy,Option.getD_none,show (1:Int) > 0 by decide,if_true];by_cases h:i < 0
   ·simp only[h,if_true] <;> lia
   ·simp only[h,if_false] <;> lia
 ·cases hi with
  | none=>simp [sliceBounds,HT.Gy]
  | some i =>
   simp only[sliceBounds,HT.Gy,Option.getD_none,show (1:Int) > 0 by decide,if_true];by_cases h:i < 0
   ·simp only[h,if_true] <;> lia
   ·simp only[h,if_false] <;> lia
theorem BS (its:List Value) (lo hi:Option Int):slicePick its.toArray lo hi none=((its.drop (HT.Gy its.length 0 lo)).take (HT.Gy its.length its.length hi - HT.Gy its.length 0 lo)).toArray:=by
 obtain ⟨h1,h2,h3⟩:=Es lo hi its.toArray.size;unfold slicePick;rw[h1,h2,h3];simp only[sliceRange_one,pick_run,aY] <;> rfl
def QR (K:FG9):V->Option Int->Option Int->Hp->VK->Prop:=λx lo hi H Q=>∃a xs,x=.ref a/\bR K H a xs/\∀p,H p=none->Q (.ref p) (upd H p (.lst (qZ xs lo hi)))
theorem Et:Um X (QR X.K):=by
 intro pins s σ H x v vl vu lo hi sl Q I rx hs pl pu h;obtain ⟨a,xs,rfl,hx,q⟩:=h;cases rx;obtain ⟨its,r,ht,hz⟩:=I.list hx;have hlen:=r.length;refine ⟨"list",_,slot_list_getitem.lookup,ht.isList.typeIs,?_⟩;refine wpAny_getItem_list_slice ht.isList hs pl pu .none (by simp) ?_ (by rw[aY] <;> lia);rw[BS,<- hlen];refine ⟨.ref s.heap.objs.size,_,I.laid (t':=s.toks) (o:=.lst (qZ xs lo hi)) (λb ob q=>Heap.get?_push_of_some _ q) (ak _) ?_,rfl,q _ (I.hok.fresh (ak _))⟩;exact ⟨ai (yO xs lo hi) hz,_,0,(r.drop (HT.Gy xs.length 0 lo)).take (HT.Gy xs.length xs.length hi - HT.Gy xs.length 0 lo),Heap.get?_push_size _ rfl⟩
def vU:V->Bool
 | .non=>true
 | .bl _=>true
 | .int _=>true
 | .str _=>true
 | _=>false
def PM:V->V->Bool
 | .non,.non=>true
 | .bl a,.bl b=>a == b
 | .bl a,.int b=>(if a then 1 else 0) == b
 | .int a,.bl b=>a == (if b then 1 else 0)
 | .int a,.int b=>a == b
 | .str a,.str b=>a == b
 | _,_=>false
theorem Rm {A:Around} {s:Shared} {y x:V} {u v:Value} (ry:RelV y u) (rx:RelV x v) (fy:vU y=true) (fx:vU x=true):SeqAt.EqAt A s u v (PM y x):=by
 cases y with
 | non =>
  cases ry;cases x with
  | non=>cases rx;exact SeqAt.EqAt.same _
  | bl b=>cases rx;exact SeqAt.EqAt.none_bool b
  | int b=>obtain ⟨t,rfl⟩:=rx;exact SeqAt.EqAt.none_int b t
  | str b=>obtain ⟨t,rfl⟩:=rx;exact SeqAt.EqAt.none_str b t
  | _=>exact absurd (show false=true from fx) bA
 | bl a =>
  cases ry;cases x with
  | non=>cases rx;exact SeqAt.EqAt.bool_none a
  | bl b=>cases rx;exact SeqAt.EqAt.bool_bool a b
  | int b=>obtain ⟨t,rfl⟩:=rx;exact SeqAt.EqAt.bool_int a b t
  | str b=>obtain ⟨t,rfl⟩:=rx;exact SeqAt.EqAt.bool_str a b t
  | _=>exact absurd (show false=true from fx) bA
 | int a =>
  obtain ⟨t',rfl⟩:=ry;cases x with
  | non=>cases rx;exact SeqAt.EqAt.int_none a t'
  | bl b=>cases rx;exact SeqAt.EqAt.int_bool a t' b
  | int b=>obtain ⟨t,rfl⟩:=rx;exact SeqAt.EqAt.int_int a t' b t
  | str b=>obtain ⟨t,rfl⟩:=rx;exact SeqAt.EqAt.int_str a t' b t
  | _=>exact absurd (show false=true from fx) bA
 | str a =>
  obtain ⟨t',rfl⟩:=ry;cases x with
  | non=>cases rx;exact SeqAt.EqAt.str_none a t'
  | bl b=>cases rx;exact SeqAt.EqAt.str_bool a t' b
  | int b=>obtain ⟨t,rfl⟩:=rx;exact SeqAt.EqAt.str_int a t' b t
  | str b=>obtain ⟨t,rfl⟩:=rx;exact SeqAt.EqAt.str_str a t' b t
  | _=>exact absurd (show false=true from fx) bA
 | _=>exact absurd (show false=true from fy) bA
def Jo (x:V) (u:Value):Bool:=match u with
 | .none=>PM .non x
 | .bool b=>PM (.bl b) x
 | .int i _=>PM (.int i) x
 | .str z _=>PM (.str z) x
 | _=>false
theorem M8 {x y:V} {u:Value} (r:RelV y u) (f:vU y=true):Jo x u=PM y x:=by
 cases y with
 | non=>cases r;rfl
 | bl b=>cases r;rfl
 | int i=>obtain ⟨t,rfl⟩:=r;rfl
 | str z=>obtain ⟨t,rfl⟩:=r;rfl
 | _=>exact absurd (show false=true from f) bA
theorem wK {x:V}:∀{xs:List V} {us:List Value},cZ xs us->xs.all vU=true->us.any (Jo x)=xs.any λy=>PM y x
 | _,_,.nil,_=>rfl
 | y :: xs,u :: us,.cons r t,f=>by
  rw[List.all_cons,eC] at f;rw[List.any_cons,List.any_cons,M8 r f.1,wK t f.2]
theorem sN {A:Around} {s:Shared} {x:V} {v:Value} (rx:RelV x v) (fx:vU x=true):∀{xs:List V} {us:List Value},cZ xs us->xs.all vU=true->∀u∈us,SeqAt.EqAt A s u v (Jo x u)
 | _,_,.nil,_=>λu hu=>by cases hu
 | y :: xs,u :: us,.cons r t,f=>λu' hu=>by
  rw[List.all_cons,eC] at f;rcases aN.mp hu with rfl | hu
  ·rw[M8 r f.1];exact Rm r rx f.1 fx
  ·exact sN rx fx t f.2 u' hu
def TN (x:V) (xs:List V):Bool:=xs.any λy=>PM y x
def T9 (K:FG9) (neg:Bool):R2:=λx y H Q=>∃p xs,y=.ref p/\(bR K H p xs\/qJ K H p xs)/\vU x=true/\xs.all vU=true/\Q (.bl (if neg then !TN x xs else TN x xs)) H
theorem K8:xn X (compareOp .In) (T9 X.K false):=by
 sleep 6;obtain ⟨p,xs,rfl,hq,fx,fs,q⟩:=h;cases ry;rcases hq with hq | hq
 ·obtain ⟨its,r,pl,hz⟩:=I.list hq;refine SeqAt.in_listAt (Jo x) pl.isList (λw hw=>sN rx fx r fs w (by simpa using hw)) ⟨.bl _,H,I,rfl,?_⟩;rw[show its.toArray.any (Jo x)=its.any (Jo x) by simp,wK r fs];exact q
 ·obtain ⟨its,r,pl,hz⟩:=I.tuple hq;refine SeqAt.in_tupleAt (Jo x) pl (λw hw=>sN rx fx r fs w (by simpa using hw)) ⟨.bl _,H,I,rfl,?_⟩;rw[show its.toArray.any (Jo x)=its.any (Jo x) by simp,wK r fs];exact q
theorem ES:xn X (compareOp .NotIn) (T9 X.K true):=by
 sleep 6;obtain ⟨p,xs,rfl,hq,fx,fs,q⟩:=h;cases ry;rcases hq with hq | hq
 ·obtain ⟨its,r,pl,hz⟩:=I.list hq;refine SeqAt.notIn_listAt (Jo x) pl.isList (λw hw=>sN rx fx r fs w (by simpa using hw)) ⟨.bl _,H,I,rfl,?_⟩;rw[show its.toArray.any (Jo x)=its.any (Jo x) by simp,wK r fs];exact q
 ·obtain ⟨its,r,pl,hz⟩:=I.tuple hq;refine SeqAt.notIn_tupleAt (Jo x) pl (λw hw=>sN rx fx r fs w (by simpa using hw)) ⟨.bl _,H,I,rfl,?_⟩;rw[show its.toArray.any (Jo x)=its.any (Jo x) by simp,wK r fs];exact q
theorem bx:oR X (.builtin "len") (λxs H Q=>∃p ys,xs=[.ref p]/\(bR X.K H p ys\/qJ X.K H p ys)/\Q (.int ys.length) H):=by
 sleep 9;obtain ⟨p,ys,rfl,hq,q⟩:=h;obtain ⟨u,rfl,rx⟩:=vals1 r;cases rx;have hn:=AZ;rcases hq with hq | hq
 ·obtain ⟨its,r',pl,hz⟩:=I.list hq;have hlen:=r'.length;exact Calls.call_len_list pl.isList (by simp only[aY] <;> lia) ⟨.int ys.length,H,I.tok _,⟨s.toks+1,by rw[aY,hlen]⟩,q⟩
 ·obtain ⟨its,r',pl,hz⟩:=I.tuple hq;have hlen:=r'.length;exact len_tuple pl (by simp only[aY] <;> lia) ⟨.int ys.length,H,I.tok _,⟨s.toks+1,by rw[aY,hlen]⟩,q⟩
theorem qI:oR X (.type "list") (λxs H Q=>∃p ys,xs=[.ref p]/\(bR X.K H p ys\/qJ X.K H p ys)/\∀l,H l=none->Q (.ref l) (upd H l (.lst ys))):=by
 sleep 9;obtain ⟨p,ys,rfl,hq,q⟩:=h;obtain ⟨u,rfl,rx⟩:=vals1 r;cases rx
 have fin:∀(its:List Value),cZ ys its->ys.length<=sizeLine->∀(h':Heap) (c':Nat),(∀b o',s.heap.get? b=some o'->h'.get? b=some o') →
   h'.get? s.heap.objs.size=some { cls:=.type "list",dict:=none,data:=.seq its.toArray c',slots:=#[] }->EP X pins σ Q (.ref s.heap.objs.size) { s with heap:=h' }:=λits r' hz h' c' kp e =>
  ⟨.ref s.heap.objs.size,_,I.laid (t':=s.toks) kp (ak _) (show jh X.prog X.w _ h' _ (.lst ys) from ⟨hz,its,c',r',e⟩),rfl,q _ (I.hok.fresh (ak _))⟩
 rcases hq with hq | hq
 ·obtain ⟨its,r',pl,hz⟩:=I.list hq;have hlen:=r'.length;obtain ⟨o,ho,hc,n,hd⟩:=pl.isList;exact call_list_seq p (.inl rfl) ho hc hd (λh' c' kp e=>fin its r' hz h' c' kp e) (by simp only[aY] <;> lia)
 ·obtain ⟨its,r',pl,hz⟩:=I.tuple hq;have hlen:=r'.length;obtain ⟨o,ho,hc,n,hd⟩:=pl;exact call_list_seq p (.inr rfl) ho hc hd (λh' c' kp e=>fin its r' hz h' c' kp e) (by simp only[aY] <;> lia)
def T4 (K:FG9) (T:String) (x:V) (H:Hp):Prop:=match x with
 | .str _=>T="str"
 | .int _=>T="int"
 | .ref p=>(T="list"/\∃xs,bR K H p xs)\/(T="tuple"/\∃o,K.lookup p=some o/\o.cls=.type "tuple"/\o.dict=none) \/
   (T="dict"/\((∃kvs,H p=some (.dK kvs))\/∃kvs,H p=some (.dT kvs)))\/(T="set"/\∃S n,H p=some (.set S n))
 | _=>False
theorem Qf {pins:List (Addr×Obj)} {σ:St} {H:Hp} {s:Shared} {T:String} {x:V} {v:Value} (I:Inv X pins σ H s) (r:RelV x v) (ty:T4 X.K T x H) :
  s.TypeIs v T/\∀a,v=.ref a->∃ob,s.heap.get? a=some ob/\ob.dict=none:=by
 cases x with
 | str z =>
  obtain ⟨t,rfl⟩:=r;cases (show T="str" from ty);exact ⟨typeIs_str s z t,λ_ e=>nomatch e⟩
 | int i =>
  obtain ⟨t,rfl⟩:=r;cases (show T="int" from ty);exact ⟨typeIs_int s i t,λ_ e=>nomatch e⟩
 | ref p =>
  cases r;rcases ty with ⟨rfl,xs,hq⟩ | ⟨rfl,o,hk,hc,hd⟩ | ⟨rfl,hk⟩ | ⟨rfl,S,n,hk⟩
  ·obtain ⟨its,_,pl,_⟩:=I.list hq;refine ⟨pl.isList.typeIs,λa e=>?_⟩;cases e;obtain ⟨o,n,e,c,hd,_⟩:=pl;exact ⟨o,e,hd⟩
  ·refine ⟨⟨o,I.kIn p o hk,hc⟩,λa e=>?_⟩;cases e;exact ⟨o,I.kIn _ o hk,hd⟩
  ·have z:∃o,s.heap.get? p=some o/\o.ExactDict:=by
    rcases hk with ⟨kvs,hk⟩ | ⟨kvs,hk⟩
    ·obtain ⟨_,_,_,_,o,_,_,e,ex,_⟩:=I.hok p _ hk;exact ⟨o,e,ex⟩
    ·obtain ⟨_,_,_,_,o,_,_,e,ex,_⟩:=I.hok p _ hk;exact ⟨o,e,ex⟩
   obtain ⟨o,e,ex⟩:=z;refine ⟨⟨o,e,ex.1⟩,λa e2=>?_⟩;cases e2;exact ⟨o,e,ex.2.1⟩
  ·obtain ⟨o,_,_,_,e,ex,_⟩:=I.hok p _ hk;refine ⟨⟨o,e,ex.1⟩,λa e2=>?_⟩;cases e2;exact ⟨o,e,ex.2.1⟩
 | _=>exact False.elim ty
def tBM (K:FG9) (T:String) (r:V->List V->Hp->VK->Prop) (to:TE) (t:TA):TE:=λσ H Q=>to σ H λx H1=>T4 K T x H1/\t σ H1 λxs H2=>r x xs H2 Q
variable {o e:Expr} {es:List Expr} {to:TE} {t:TA} {name:Str} {apos cpos:Pos} {T id:String} {r:V->List V->Hp->VK->Prop}
theorem yr (pa:PlainAttrs T) (slot:Slot T name id) (hty:typeOf (.builtin id)=pure (.type "method_descriptor")) (hm:MtR X id r) (ho:PE X o to) (ha:PA X (e :: es) t)
  (hbase:attributeBase o name X.env (eval o X.env)=eval o X.env:=by rfl)
  (hfew:((backTo cpos (starEach (e :: es) X.env)).all (λx=>!x.1) && (backToKw cpos (keywordEach [] X.env)).all (λx=>x.1.isSome)
   && decide ((e :: es).length+([]:List Keyword).length+(if ([]:List Keyword).isEmpty then 0 else 1) < 30))=true:=by rfl)
  (hline:(apos.endLine == cpos.line)=true:=by rfl) (hs:starEach (e :: es) X.env=(false,eval e X.env) :: starEach es X.env:=by rfl) (hplain:(backTo cpos (starEach es X.env)).any (·.1)=false:=by rfl) :
  PE X (.Call (.Attribute o name apos) (e :: es) [] cpos) (tBM X.K T r to t):=by
 sleep 4;refine wpAny_Call_method_late hbase hfew hline rfl (gU (ho pins s σ H _ I h) λv s1 ⟨x,H1,I1,r1,ty,q1⟩=>?_);obtain ⟨h1,h2⟩:=Qf I1 r1 ty;refine ⟨T,id,pa,slot,hty,h1,h2,?_⟩;have hA:=ha cpos pins s1 σ H1 _ I1 q1;rw[hs] at hA ⊢;refine Calls.callWith_builtin (by show (false || (backTo cpos (starEach es X.env)).any (·.1))=false;rw[hplain] <;> rfl) (Calls.evalArgs_plain ?_);exact gU hA λus s2 ⟨vs,H2,I2,r2,q2⟩=>hm pins s2 σ H2 x vs v us Q I2 r1 r2 q2
end
def MtM (X:Cx) (id:String) (r:V->List V->Hp->VK->Prop):Prop :=
 ∀(pins:List (Addr×Obj)) (s:Shared) (σ:St) (H:Hp) (x:V) (xs:List V) (v:Value) (us:List Value) (Q:VK),Inv X pins σ H s->RelV x v->cZ xs us->r x xs H Q →
  wpAny (model X.prog X.w) X.A (call (.builtin id) (v :: us)) (EP X pins σ Q) X.xe s
theorem cZ.one:∀{x:V} {us:List Value},cZ [x] us->∃u,us=[u]/\RelV x u
 | _,_,.cons r .nil=>⟨_,rfl,r⟩
theorem cZ.rep {xs:List V} {us:List Value} (h:cZ xs us):∀k:Nat,cZ (List.replicate k xs).flatten (List.replicate k us).flatten
 | 0=>.nil
 | k+1=>by
  rw[iE,iE,fM,fM];exact cZ.append h (cZ.rep h k)
theorem foldl_rep (its:List Value):∀(k:Nat) (acc:List Value),
  List.foldl (λx1 x2=>x1++x2) acc.toArray (List.replicate k its.toArray)=(acc++(List.replicate k its).flatten).toArray
 | 0,acc=>by simp
 | k+1,acc=>by
  have e:acc.toArray++its.toArray=(acc++its).toArray:=by simp
  have e2:(acc++its)++(List.replicate k its).flatten=acc++(List.replicate (k+1) its).flatten:=by
   rw[iE,fM,cP]
  rw[<- e2,<- foldl_rep its k (acc++its),<- e,iE,List.foldl_cons]
section
variable {X:Cx} {pins:List (Addr×Obj)} {σ:St} {H:Hp} {s:Shared} {l b:Addr} {xs ys zs:List V}
theorem Inv.lset {its its':List Value} {n:Nat} {f:Array Value->Array Value} {t':Nat} (I:Inv X pins σ H s) (hH:H l=some (.lst xs))
  (e:s.heap.get? l=some { cls:=.type "list",data:=.seq its.toArray n }) (hf:f its.toArray=its'.toArray) (hv:cZ ys its') (hz:ys.length<=sizeLine) :
  Inv X pins σ (upd H l (.lst ys)) { s with heap:=s.heap.update l (Obj.mapSeq f),toks:=t' }:=by
 have q:=kI e f;rw[hf] at q;refine I.write (x:=l) (e:=l) (by rw[hH];exact trivial) (.inl rfl) (λb' u hb hu=>(Heap.get?_update_other s.heap (Obj.mapSeq f) (Ne.symm hb)).trans hu) ⟨_,q⟩ ?_;exact ⟨hz,its',_,hv,q⟩
theorem Inv.lnew {its:List Value} {t':Nat} (I:Inv X pins σ H s) (hv:cZ ys its) (hz:ys.length<=sizeLine) :
  Inv X pins σ (upd H s.heap.objs.size (.lst ys)) { s with heap:=s.heap.push { cls:=.type "list",data:=.seq its.toArray },toks:=t' } :=
 I.laid (λ_ _ q=>Heap.get?_push_of_some _ q) (ak _) ⟨hz,its,0,hv,Heap.get?_push_size _ rfl⟩
theorem Inv.fresh (I:Inv X pins σ H s):H s.heap.objs.size=none:=I.hok.fresh (ak _)
theorem Inv.lstM (I:Inv X pins σ H s) (hH:H l=some (.lst xs)):xs.length<=sizeLine/\∃(its:List Value) (n:Nat),cZ xs its/\xs.length=its.length/\s.heap.get? l=some { cls:=.type "list",data:=.seq its.toArray n }:=by
 obtain ⟨z,its,n,r,e⟩:=I.hok l _ hH;exact ⟨z,its,n,r,r.length,e⟩
theorem GX {n:Nat} (h:n<=sizeLine):Builtin.List.listTooLong n=false:=by
 unfold Builtin.List.listTooLong;exact decide_eq_false (by lia)
end
section
variable {X:Cx}
def JO:V->List V->Hp->VK->Prop:=λx vs H Q=>∃l xs y,x=.ref l/\vs=[y]/\H l=some (.lst xs)/\xs.length < sizeLine/\Q .non (upd H l (.lst (xs++[y])))
theorem ke:MtM X "list.append" JO:=by
 intro pins s σ H x vs v us Q I rx rv h;obtain ⟨l,xs,y,rfl,rfl,hH,hz,q⟩:=h;cases rx;obtain ⟨u,rfl,ru⟩:=rv.one;obtain ⟨z,its,n,r,hl,e⟩:=I.lstM hH;refine call_meets F.slot_list_append ⟨_,e,rfl⟩ F.entry_list_append (F.args_list_append_2 _ _) (PySem.list_append l its.toArray n u (by rw[aY];lia)) ⟨e,?_⟩;refine ⟨.non,_,I.lset (its':=its++[u]) hH e (by simp) (r.append (.cons ru .nil)) ?_,rfl,q⟩;rw[au,bf]
 lia
def OE:V->List V->Hp->VK->Prop:=λx vs H Q=>∃l b xs zs,x=.ref l/\vs=[.ref b]/\H l=some (.lst xs)/\H b=some (.lst zs)/\xs.length+zs.length<=sizeLine/\Q .non (upd H l (.lst (xs++zs)))
theorem Lf:MtM X "list.extend" OE:=by
 intro pins s σ H x vs v us Q I rx rv h;obtain ⟨l,b,xs,zs,rfl,rfl,hH,hB,hz,q⟩:=h;cases rx;obtain ⟨u,rfl,ru⟩:=rv.one;cases ru;obtain ⟨z,its,n,r,hl,e⟩:=I.lstM hH;obtain ⟨z2,its2,n2,r2,hl2,e2⟩:=I.lstM hB;have hsz:its.toArray.size+its2.toArray.size<=sizeLine:=by rw[aY,aY];lia
 have hlong:¬(!its.toArray.isEmpty && Builtin.List.listTooLong (its.toArray.size+its2.toArray.size))=true:=by
  rw[GX hsz,Bool.and_false];exact bA
 refine call_meets F.slot_list_extend ⟨_,e,rfl⟩ F.entry_list_extend (F.args_list_extend_2 _ _)
  (AutoSeq1.list_extend_list_list_0 l its.toArray n b its2.toArray n2 hlong (by rw[aY];lia) (by lia)) ⟨e,e2,?_⟩
 refine ⟨.non,_,I.lset (its':=its++its2) hH e (by simp) (r.append r2) ?_,rfl,q⟩;rw[au]
 lia
def SS:R2:=λx y H Q=>∃l b xs zs,x=.ref l/\y=.ref b/\H l=some (.lst xs)/\H b=some (.lst zs)/\xs.length+zs.length<=sizeLine/\∀p,H p=none->Q (.ref p) (upd H p (.lst (xs++zs)))
theorem iK:xn X (binaryOp .Add) SS:=by
 sleep 6;obtain ⟨l,b,xs,zs,rfl,rfl,hH,hB,hz,q⟩:=h;cases rx;cases ry;obtain ⟨z,its,n,r,hl,e⟩:=I.lstM hH;obtain ⟨z2,its2,n2,r2,hl2,e2⟩:=I.lstM hB;refine PySem.P.add_list e e2 ?_ (by rw[aY,aY];lia);have ea:its.toArray++its2.toArray=(its++its2).toArray:=by simp
 rw[ea];exact ⟨.ref _,_,I.lnew (t':=s.toks) (r.append r2) (by rw[au];lia),rfl,q _ I.fresh⟩
def SN:R2:=λx y H Q=>∃l k xs,x=.ref l/\y=.int k/\H l=some (.lst xs)/\-(2^63)<=k/\k < 2^63/\xs.length*k.toNat<=sizeLine /\
 ∀p,H p=none->Q (.ref p) (upd H p (.lst (List.replicate k.toNat xs).flatten))
theorem len_rep {α:Type} (xs:List α) (k:Nat):(List.replicate k xs).flatten.length=k*xs.length:=by
 induction k with
 | zero=>simp
 | succ k ih=>rw[iE,fM,au,ih,dM,kJ]
theorem Mp:xn X (binaryOp .Mult) SN:=by
 sleep 6;obtain ⟨l,k,xs,rfl,rfl,hH,h1,h2,hz,q⟩:=h;cases rx;obtain ⟨t,rfl⟩:=ry;obtain ⟨z,its,n,r,hl,e⟩:=I.lstM hH;have hlen:its.toArray.size*k.toNat<=sizeLine:=by rw[aY,<- hl];exact hz
 have hcap:¬its.toArray.size*k.toNat > (2^63 - 1) / 8:=by
  have:(sizeLine:Nat)<=(2^63 - 1) / 8:=by decide
  lia
 have hfit:¬(!Builtin.List.listFitsIndex k)=true:=by
  rw[fitsIndex_both h1 h2];exact bA
 have hlong:¬Builtin.List.listTooLong (its.toArray.size*k.toNat)=true:=by
  rw[GX hlen];exact bA
 have hnew:List.foldl (λx1 x2=>x1++x2) #[] (List.replicate (if its.toArray.isEmpty=true then 0 else k.toNat) its.toArray)=(List.replicate k.toNat its).flatten.toArray:=by
  have f0:∀m:Nat,List.foldl (λx1 x2=>x1++x2) #[] (List.replicate m its.toArray)=(List.replicate m its).flatten.toArray:=λm=>by
   have:=foldl_rep its m [];rw[dc] at this;exact this
  rw[f0];cases its with
  | nil=>simp
  | cons a r'=>rw[if_neg (by simp)]
 refine wpAny_binaryOp_repeat_ref (T:="list") (U:="int") (by decide) ⟨_,e,rfl⟩ (λs'=>typeIs_int s' k t) noFill_list_mul F.fills_int_mul F.slot_int_rmul repeat_list F.slot_int_index.lookup
  (call_meets F.slot_int_rmul (typeIs_int s k t) F.entry_int_rmul (F.args_int_rmul_2 _ _) (int___rmul___int_list k t l its.toArray n)
   ⟨e,rfl,⟨_,e,rfl⟩,call_meets F.slot_list_mul ⟨_,e,rfl⟩ F.entry_list_mul (F.args_list_mul_2 _ _) (AutoListH.list___mul___list_int_3 l its.toArray n k t hfit hcap hlong) ⟨e,?_⟩⟩)
 rw[hnew];exact ⟨.ref _,_,I.lnew (t':=s.toks) (r.rep k.toNat) (by rw[len_rep,bZ];exact hz),rfl,q _ I.fresh⟩
end
end L2
namespace Att
open PySem PySem.W PySem.Calls PyProof.Rows
theorem zD {P:Params} {h:Heap}:∀(ns:List Int) (vs:List Value),WellAll P h vs (ns.map WData.int)->IntsAre vs ns:=by
 intro ns
 induction ns with
 | nil =>
  intro vs w;rw[Kz] at w;cases w;exact .nil
 | cons n ns ih =>
  intro vs w;rw[gI] at w;cases w with
  | cons a b =>
   cases a;exact .cons _ _ (ih _ b)
theorem KP {l:OpenLaw} {n:Nat} (hn:l.most=some n) {P:Params} {h:Heap} {args:List WData} {vals:List Value}
  (hpre:l.row.toRowW.claim.pre args=true) (hwl:WellAll P h vals args) :
  ∃a vs ns,vals=[Value.ref a]/\args=[WData.list (ns.map WData.int)]/\h.get? a=some { cls:=.type "list",data:=.seq vs.toArray }/\IntsAre vs ns/\ns.length<=n:=by
 have hsh:WShape.hasAll [] args [.list .int]=true:=(pre_splitW hpre).1;have hc:l.pre.holds [] { args:=args }=true:=(pre_splitW hpre).2;obtain ⟨d,r,rfl,h1,h2⟩:=hasAllW_cons hsh;obtain rfl:=hasAllW_nil h2;obtain ⟨xs,rfl,h3⟩:=hasW_list h1;obtain ⟨ns,rfl⟩:=items_int h3
 have hlen:ns.length<=n:=by
  unfold OpenLaw.pre at hc
  have h4:(WTm.not (.lt (.lit (.int (n:Int))) (.len (.arg 0)))).holds [] { args:=[.list (ns.map .int)] }=true:=by
   have h4:=(holds_andW hc).1;rw[hn] at h4;exact h4
  have h5:=condW_of h4 (w_not (w_lt w_lit (w_len_list (w_arg rfl))));rw[aj] at h5;refine Nat.le_of_not_lt λq=>?_
  have q':(n:Int) < ((ns.length:Nat):Int):=by lia
  first
   | (rw[decide_eq_true q'] at h5;exact absurd h5 (by decide))
   | (simp at h5;lia)
 cases hwl with
 | cons w1 w2 =>
  cases w2;cases w1 with
  | list ho hall=>exact ⟨_,_,ns,rfl,rfl,ho,zD ns _ hall,hlen⟩
theorem K5 (l:OpenLaw) (args:List WData):l.row.toRowW.claim.post args (.bool true) args=true :=
 postW_of (r:=l.row.toRowW) (X:=(true == true))
  (show WShape.has [] (.bool true) .bool=true by first | rfl | decide | simp [WShape.has,WShape.arms,WShape.armsAll])
  (show (WTm.eq .res (.lit (.bool true))).value [] { args:=args,res:=some (.bool true),after:=args }=some (.bool (true == true)) from w_eq_bool (w_res rfl) w_lit) rfl
theorem HX {l:OpenLaw} {n:Nat} {q:Program} {loose:List Str} {XP:(Str->Option Value)->Heap->Prop} {YP:World->Heap->Prop} {d:DefRec}
  (hn:l.most=some n) (hdf:d.params.defaults=[])
  (call:∀(w:World) (s₀ s₁:Shared) (mg mb:Str->Option Value) (fa:Addr) (o:Obj) (pm cd doc:Value) (a:Addr) (vs:List Value) (ns:List Int),
   Ground q loose [] XP w s₀ mg mb s₁.heap->YP w s₁.heap →
   s₁.heap.get? fa=some o->o.data=.func (docDef d.name d.params d.body d.scope pm cd doc)->s₁.heap.CodeRec cd d.name->mg d.name=some (.ref fa) →
   s₁.heap.get? a=some { cls:=.type "list",data:=.seq vs.toArray }->IntsAre vs ns->ns.length<=n->s₁.gens=#[] →
   codeAny (model l.prog w) callerA (.call (.ref fa) ⟨[.ref a],[]⟩) (λr s'=>r=.ok (.ret (.bool true))/\OldK s₁.heap s'.heap/\s'.os=s₁.os/\AllBare s'.gens) s₁) :
  WalkO q loose XP YP l.row.toRowW d [] (λf vs=>PySem.call f vs):=by
 intro w s₀ s₁ mg mb G Y fa o pm cd doc dV kV ho hd hcd hD hmg hg args vals as hpre hlay hrd hwl hlo;obtain rfl:dV=.none:=Dflts.none hD hdf;obtain rfl:kV=.none:=Dflts.noKw hD;obtain ⟨a,vs,ns,rfl,rfl,hobj,hints,hlen⟩:=KP hn hpre hwl;refine enter_call (codeAny_mono (call w s₀ s₁ mg mb fa o pm cd doc a vs ns G Y ho (fd_plain hd) hcd hmg hobj hints hlen hg) λr s' hq=>?_);obtain ⟨rfl,h2,h3,h4⟩:=hq;exact ⟨.inl ⟨.bool true,.bool true,[],rfl,λ_=>rfl,.bool true,K5 l _,λ_=>⟨List.Pairwise.nil,λ_ hm=>(nomatch hm)⟩⟩,h2,h3,h4⟩
section
variable {prog:Program} {w:World} {A:Around} {E:Value->Shared->Prop} {s:Shared} {K:Frag}
end
end Att
namespace L2
open PySem PySem.Spec PyProof.Rows
theorem Cw:∀{vs:List Value} {ns:List Int},IntsAre vs ns->cZ (ns.map V.int) vs
 | _,_,.nil=>.nil
 | _,_,.cons n t h=>.cons ⟨t,rfl⟩ (Cw h)
def RD (H:Hp):Prop:=∀b,H b=none\/∃o xs,H b=some (.frz o (.lst xs))
theorem MH {P : Program} {w : World} {K : FG9} {mg mb : Str → Option Value} {CX : NF} {k : Nat} {fa a : Addr} {fd : FuncData} {x : Str} {sp : Sp} {s₁ : Shared} {vs : List Value} {ns : List Int}
    (KX : K.In s₁.heap) (hns : s₁.heap.Ns mainGlobals mg) (hb : s₁.heap.Ns builtinsNs mb) (hbb : ∀ x : Str, x ≠ "__name__" → mb x = bootBuiltins x) (hlim : s₁.heap.NoLimit) (hg : s₁.gens = #[])
    (ha : s₁.heap.get? a = some { cls := .type "list", data := .seq vs.toArray }) (hi : IntsAre vs ns) (hl : ns.length ≤ sizeLine) (hr : lB k callerA)
    (F : ∀ base : Heap, K.In base → base.Ns mainGlobals mg → cQ P w K mg base CX k fa fd [x] sp) (hbind : ∀ (s : Shared) (u : Value), BindsTo s fd ⟨[u], []⟩ [(x, u)])
    (hsp : ∀ H : Hp, RD H → bR K H a (ns.map V.int) → sp [.ref a] H (λv _ => v = .bl true) λ_ _ _ => False)
    (hCX : ∀ H e s', CX [] H s₁ (λ_ _ _ => False) e s' → False) :
    codeAny (model P w) callerA (.call (.ref fa) ⟨[.ref a], []⟩) (λr s' => r = .ok (.ret (.bool true)) /\ OldK s₁.heap s'.heap /\ s'.os = s₁.os /\ AllBare s'.gens) s₁ := by
  have rv := Cw hi;have lenV := hi.length
  have core : ∀ H : Hp, RD H → bR K H a (ns.map V.int) → zS P w H s₁.heap → (∀ b, H b ≠ none → b = a) → (H a ≠ none → K.lookup a = none) →
      codeAny (model P w) callerA (.call (.ref fa) ⟨[.ref a], []⟩) (λr s' => r = .ok (.ret (.bool true)) /\ OldK s₁.heap s'.heap /\ s'.os = s₁.os /\ AllBare s'.gens) s₁ := by
    intro H hO hS hok hA hK;have base_of : ∀ {b : Addr} {o : Obj}, s₁.heap.get? b = some o → H b = none → (Ff s₁.heap H).get? b = some o := λe n => MO e n
    have noA : ∀ {b : Addr} {o : Obj} {es : Array DictEntry} {ep : Nat}, s₁.heap.get? b = some o → o.data = .dict es ep → H b = none := λ{b o es ep} e d => by
      cases q : H b with
      | none => rfl
      | some u =>
        have e' : b = a := hA b (by rw [q]; simp);subst e';rw [ha] at e; cases e;have d' : Data.seq vs.toArray _ = Data.dict es ep := d;cases d'
    have nsK : ∀ {b : Addr} {m : Str → Option Value}, s₁.heap.Ns b m → (Ff s₁.heap H).Ns b m := λ{b m} ⟨o, es, ep, e, d, r⟩ => ⟨o, es, ep, base_of e (noA e d), d, r⟩
    have hKb : K.In (Ff s₁.heap H) := λb o e => base_of (KX b o e) (by
      cases q : H b with
      | none => rfl
      | some u =>
        have e' : b = a := hA b (by rw [q]; simp);subst e';rw [hK (by rw [q]; simp)] at e; cases e)
    have hM : Mod K mg (Ff s₁.heap H) := ⟨hKb, nsK hns, ⟨mb, nsK hb, hbb⟩, let ⟨mc, h1, h2⟩ := hlim; ⟨mc, nsK h1, h2⟩⟩;have e0 : Jy P w K mg (Ff s₁.heap H) callerA [] s₁ H := ⟨rfl, hM, λb o e => OP e, Nat.le_of_eq (Lk _ _), trivial, λb hb => absurd (show b ∈ ([] : List Addr) from hb) (by simp), hok, .of_eq hg⟩;refine codeAny_mono ((F _ hKb (nsK hns)).run callerA [] s₁ H ⟨[.ref a], []⟩ [.ref a] [.ref a] _ _ hr e0 (hbind s₁ (.ref a)) (.cons rfl .nil) (hsp H hO hS)) λr s' h => ?_
    cases r with
    | error e => exact (hCX H e s' h).elim
    | ok fl =>
      cases fl with
      | next => exact False.elim h
      | brk => exact False.elim h
      | cont => exact False.elim h
      | ret u =>
        obtain ⟨v, H', os, bare, un, hok', r', q⟩ := h;have q' : v = .bl true := q;subst q';obtain rfl : u = Value.bool true := r';refine ⟨rfl, OldK.of_keep λb o e => ?_, os, bare⟩;cases q : H b with
        | none => exact un.keep b o e q (by intro z; exact absurd (show b ∈ ([] : List Addr) from z) (by simp)) (by simp)
        | some u =>
          rcases hO b with z | ⟨ob, xs, z⟩
          · rw [q] at z; cases z
          · have z2 := un.frzs b ob _ z;obtain ⟨e1, _⟩ := hok b _ z;obtain ⟨e2, _⟩ := hok' b _ z2;rw [e] at e1; cases e1;exact e2
  cases hk : K.lookup a with
  | some o =>
    have e := KX a o hk;rw [ha] at e;cases e;refine core (λ_ => none) (λ_ => .inl rfl) (.inr ⟨_, vs.toArray, _, hk, rfl, rfl, rfl, by rw [aY, lenV]; exact hl, by simpa using rv⟩) (λb u z => by have z' : (none : Option HO) = some u := z; cases z') (λb z => absurd rfl z) λz => absurd rfl z
  | none =>
    refine core (λb => if b = a then some (.frz { cls := .type "list", data := .seq vs.toArray } (.lst (ns.map V.int))) else none) (λb => ?_) (.inl (.inr ⟨{ cls := .type "list", data := .seq vs.toArray }, if_pos rfl⟩)) (λb u z => ?_) (λb z => ?_) λ_ => hk
    · by_cases hb : b = a
      · exact .inr ⟨_, _, if_pos hb⟩
      · exact .inl (if_neg hb)
    · by_cases hb : b = a
      · have z' := (if_pos hb).symm.trans z;cases z';subst hb;exact ⟨ha, by rw [aj]; exact hl, vs, _, rv, ha⟩
      · have z' := (if_neg hb).symm.trans z;cases z'
    · by_cases hb : b = a
      · exact hb
      · exact absurd (if_neg hb) z
theorem NL {l:PySem.W.OpenLaw} {n k:Nat} {q:Program} {loose:List Str} {XP:(Str->Option Value)->Heap->Prop} {YP:World->Heap->Prop} {d:DefRec} {K:Params->FG9} {CX:World->NF} {sp:World->Sp} {x:Str}
  (hn:l.most=some n) (hn2:n<=sizeLine) (hdf:d.params.defaults=[]) (hr:lB k callerA)
  (hY:∀(w:World) (h:Heap),YP w h->(K w.params).In h)
  (F:∀(w:World) (mg:Str->Option Value) (fa:Addr) (h:Heap),(K w.params).In h->h.Ns mainGlobals mg->mg d.name=some (.ref fa) →
   ∃fd:FuncData,(∀(s:Shared) (u:Value),BindsTo s fd ⟨[u],[]⟩ [(x,u)]) /\
    ∀base:Heap,(K w.params).In base->base.Ns mainGlobals mg->cQ l.prog w (K w.params) mg base (CX w) k fa fd [x] (sp w))
  (hsp:∀(w:World) (H:Hp) (a:Addr) (ns:List Int),ns.length<=n->RD H->bR (K w.params) H a (ns.map V.int)->sp w [.ref a] H (λv _=>v=.bl true) λ_ _ _=>False)
  (hCX:∀(w:World) (H:Hp) (s:Shared) (e:Value) (s':Shared),CX w [] H s (λ_ _ _=>False) e s'->False) :
  PySem.W.WalkO q loose XP YP l.row.toRowW d [] (λf vs=>PySem.call f vs):=by
 refine Att.HX hn hdf λw s₀ s₁ mg mb fa o pm cd doc a vs ns G Y ho hd hcd hmg hobj hints hlen hg=>?_
 have KX:=hY w _ Y;obtain ⟨fd,hb,hF⟩:=F w mg fa _ KX G.T.g hmg;exact MH KX G.T.g G.T.b G.T.builtins G.T.nolimit hg hobj hints (ai hlen hn2) hr hF hb (λH hO hS=>hsp w H a ns hlen hO hS) λH e s'=>hCX w H s₁ e s'
end L2


namespace L2
open PySem PySem.Spec PyProof.Rows
def inClass (s:Stmt) (j:Nat):Stmt:=match s with
 | .ClassDef _ _ _ body _ _ _ _ _ _ _=>body.getD j (.Pass ⟨0,0,0,0⟩)
 | _=>.Pass ⟨0,0,0,0⟩
def lO (s:Stmt):Arguments:=match s with
 | .FunctionDef _ a _ _ _ _ _ _ _ _=>a
 | _=>{ posonlyargs:=[],args:=[],vararg:=none,kwonlyargs:=[],kw_defaults:=[],kwarg:=none,defaults:=[] }
def jO (s:Stmt):List Stmt:=match s with
 | .FunctionDef _ _ b _ _ _ _ _ _ _=>b
 | _=>[]
def aP (s:Stmt):Scope:=match s with
 | .FunctionDef _ _ _ _ _ _ sc _ _ _=>sc
 | _=>{ kind:=.function,names:=[],isGenerator:=false,isCoroutine:=false }
abbrev fI:NF:=λ_ _ _ _ _ _=>False
abbrev E0:XK:=λ_ _ _=>False
theorem Mo {X:Cx}:ym fI X E0:=λ_ _ _ _ _ _ _ h=>h.elim
structure ND (K:FG9) (x qual:Str) (st:Stmt) (f:Addr) (fd:FuncData):Prop where
 ex:∃(oc:Value) (od:Option Addr) (kV doc pm:Value) (an:Option Addr) (cdv ct:Value) (osl:Array (Option Value)),
  fd=PySem.W.fnOf x qual (lO st) (jO st) (aP st) .none kV doc pm an cdv ct/\K.lookup f=some ⟨oc,od,.func fd,osl⟩/\PySem.W.codeIn K cdv qual=true
 kp:PySem.W.keepIn K (.ref f)=true
section
variable {P:Program} {w:World} {K:FG9} {mg:Str->Option Value} {base:Heap}
theorem ND.ok {x qual:Str} {st:Stmt} {f:Addr} {fd:FuncData} {N ps:List Str} {k:Nat} {sp:Sp} (F:ND K x qual st f fd) (S:a7 N ps (aP st)) (len:∀vs H Q E,sp vs H Q E->vs.length=ps.length)
  (hbody:∀(cdv:Value) (A:Around) (outer:List Env) (s:Shared) (H:Hp) (vs:List V) (Q:VK) (E:XK),lB k (A.deeper (envOfC qual (aP st) s.heap.objs.size f cdv))->sp vs H Q E →
   ∃t,Jw (Ln fI P w K mg base N qual (aP st) f cdv A outer s H E).nox (jO st) t/\t { nx:=λ_ H'=>Q .non H',rt:=Q } (start N vs) H):cQ P w K mg base fI (k+1) f fd ps sp:=by
 obtain ⟨oc,od,kV,doc,pm,an,cdv,ct,osl,rfl,lk,hcd⟩:=F.ex;refine Th lk hcd S len λA outer s H vs Q E hr hsp=>?_
 obtain ⟨t,h,q⟩:=hbody cdv A outer s H vs Q E hr hsp;exact ⟨t,h.nox,q⟩
theorem ND.binds {x qual:Str} {st:Stmt} {f:Addr} {fd:FuncData} {ps:List Str} (F:ND K x qual st f fd)
  (h:∀(kV doc pm:Value) (an:Option Addr) (cdv ct:Value) (us:List Value),us.length=ps.length->bindArgs (PySem.W.fnOf x qual (lO st) (jO st) (aP st) .none kV doc pm an cdv ct) ⟨us,[]⟩=pure (ps.zip us)):Binds K fd ps []:=by
 obtain ⟨oc,od,kV,doc,pm,an,cdv,ct,osl,rfl,lk,hcd⟩:=F.ex;exact .all (h kV doc pm an cdv ct)
theorem Jk {x qual:Str} {st:Stmt} {f:Addr} {oc:Value} {od an:Option Addr} {osl:Array (Option Value)} {kV doc pm cdv ct:Value} (l:K.lookup f=some ⟨oc,od,.func (PySem.W.fnOf x qual (lO st) (jO st) (aP st) .none kV doc pm an cdv ct),osl⟩)
  (c:PySem.W.codeIn K cdv qual=true) (k:PySem.W.keepIn K (.ref f)=true):ND K x qual st f (PySem.W.fnOf x qual (lO st) (jO st) (aP st) .none kV doc pm an cdv ct):=⟨⟨oc,od,kV,doc,pm,an,cdv,ct,osl,rfl,l,c⟩,k⟩
end
structure Df (K:FG9) (mg:Str->Option Value) (x:Str) (st:Stmt) (ps:List Str) (f:Addr) (fd:FuncData):Prop where
 m:mg x=some (.ref f)
 b:Binds K fd ps []
 F:ND K x x st f fd
structure Dh (K:FG9) (x:Str) (st:Stmt) (f:Addr) (fd:FuncData):Prop where
 a:PySem.W.nsIn K mainGlobals x=some (some (.ref f))
 F:ND K x x st f fd
theorem Ti {K:FG9} {x:Str} {st:Stmt} {f:Addr} {oc:Value} {od an:Option Addr} {osl:Array (Option Value)} {kV doc pm cdv ct:Value} (a:PySem.W.nsIn K mainGlobals x=some (some (.ref f))) (l:K.lookup f=some ⟨oc,od,.func (PySem.W.fnOf x x (lO st) (jO st) (aP st) .none kV doc pm an cdv ct),osl⟩) (c:PySem.W.codeIn K cdv x=true) (k:PySem.W.keepIn K (.ref f)=true):Dh K x st f (PySem.W.fnOf x x (lO st) (jO st) (aP st) .none kV doc pm an cdv ct):=⟨a,Jk l c k⟩
theorem Dh.D {K:FG9} {x:Str} {st:Stmt} {f:Addr} {fd:FuncData} {ps:List Str} {mg:Str->Option Value} {h:Heap} (d:Dh K x st f fd) (X:K.In h) (G:h.Ns mainGlobals mg) (hb:∀(kV doc pm:Value) (an:Option Addr) (cdv ct:Value) (us:List Value),us.length=ps.length->bindArgs (PySem.W.fnOf x x (lO st) (jO st) (aP st) .none kV doc pm an cdv ct) ⟨us,[]⟩=pure (ps.zip us):=by walk_at "b"):Df K mg x st ps f fd:=⟨PySem.W.mg_of X G d.a,d.F.binds hb,d.F⟩
theorem cO {X:Cx} {k k':Nat} {f:Addr} {fd:FuncData} {ps:List Str} {sp:Sp} {x:Str} {st:Stmt} {p pos:Pos} {e:Expr} {es:List Expr} {t:TA} (F:cQ X.prog X.w X.K X.mg X.base fI k f fd ps sp) (hr:lB k' X.A) (D:Df X.K X.mg x st ps f fd) (ha:PA X (e :: es) t) (hle:k<=k':=by decide) (hg:Gl X x:=by exact rfl) (hdb:(x == ("__debug__":Str))=false:=by decide) (he:starEach (e :: es) X.env=(false,eval e X.env) :: starEach es X.env:=by rfl) (hpl:(backTo pos (starEach es X.env)).any (·.1)=false:=by rfl):PE X (.Call (.Name x p) (e :: es) [] pos) (LK sp [] E0 t):=OK F (hr.mono hle) hg D.m D.F.kp D.b .nil Mo ha hdb he hpl
theorem bF {n:Nat} (h:n<=1000):n < sizeLine:=bL h (by decide)
section
variable {X:Cx}
theorem pv (i:Nat) {x:Str} {pos:Pos} (hN:X.N[i]?=some x:=by rfl) (hv:Ui X.env.scope x:=by first | exact Or.inl rfl | exact Or.inr (Or.inl rfl) | exact Or.inr (Or.inr rfl)) (hd:(x == ("__debug__":Str))=false:=by decide)
  (hcd:(x == ("__classdict__":Str))=false:=by decide):PE X (.Name x pos) (Qh i):=QX hN hv hd hcd
end
theorem OS {A B:Prop} (h:B):if false=true then A else B:=by
 rw[if_neg bA];exact h
theorem S8 {A B:Prop} (h:A):if true=true then A else B:=by
 rw[if_pos rfl];exact h
theorem gY {c A B:Prop} [Decidable c] (h1:c->A) (h2:¬c->B):if c then A else B:=by
 by_cases h:c
 ·rw[if_pos h];exact h1 h
 ·rw[if_neg h];exact h2 h
def aL (H H':Hp):Prop:=∀b o,H b=some o->H' b=some o
theorem aL.refl (H:Hp):aL H H:=λ_ _ h=>h
theorem aL.trans {H H1 H2:Hp} (a:aL H H1) (b:aL H1 H2):aL H H2:=λc o h=>b c o (a c o h)
theorem aL.free {H H':Hp} (e:aL H H') {l:Addr} (h:H' l=Option.none):H l=Option.none:=by
 cases q:H l with
 | none=>rfl
 | some o =>
  rw[e l o q] at h;cases h
theorem aL.seq {K:FG9} {H H':Hp} {a:Addr} {xs:List V} (e:aL H H') (h:bR K H a xs):bR K H' a xs:=by
 rcases h with (h | ⟨o,h⟩) | h
 ·exact .inl (.inl (e _ _ h))
 ·exact .inl (.inr ⟨o,e _ _ h⟩)
 ·exact .inr h
end L2
namespace Nm
theorem MT (a b:Int):Int.gcd b (a.fmod b)=Int.gcd a b:=by
 rw[Int.fmod_def,kL a b];apply Nat.dvd_antisymm
 ·apply Nz
  ·exact fB ..
  ·have h1:=fB (a:=b) (b:=a - b*a.fdiv b);have h2:=fO (a:=b) (b:=a - b*a.fdiv b);have h3:=Int.dvd_add h2 (mP (c:=a.fdiv b) h1);rwa [Int.sub_add_cancel] at h3
 ·apply Nz
  ·exact fB ..
  ·exact Int.dvd_sub (fO ..) (mP (fB ..))
theorem MU (a b:Int):Int.gcd b (a % b)=Int.gcd a b:=by
 rw[Int.emod_def,kL a b];apply Nat.dvd_antisymm
 ·apply Nz
  ·exact fB ..
  ·have h1:=fB (a:=b) (b:=a - b*(a / b));have h2:=fO (a:=b) (b:=a - b*(a / b));have h3:=Int.dvd_add h2 (mP (c:=a / b) h1);rwa [Int.sub_add_cancel] at h3
 ·apply Nz
  ·exact fB ..
  ·exact Int.dvd_sub (fO ..) (mP (fB ..))
theorem OW (a b:Int) (h:b≠0):(a.fmod b).natAbs < b.natAbs:=by
 rcases Int.lt_or_gt_of_ne h with h | h
 ·have e:a.fmod b=-((-a).fmod (-b)):=by
   have:=Int.neg_fmod_neg (-a) (-b);simp only[Int.neg_neg] at this;exact this
  have h1:=Int.fmod_nonneg_of_pos (-a) (b:=-b) (by lia);have h2:=Int.fmod_lt_of_pos (-a) (b:=-b) (by lia)
  lia
 ·have h1:=Int.fmod_nonneg_of_pos a h;have h2:=Int.fmod_lt_of_pos a h
  lia
def g (t b:Int):Int:=(Int.gcd t b:Int)
def lo (t b:Int):Int:=t / g t b
def hi (t b:Int):Int:=b / g t b
theorem Bg {t b:Int} (h:b≠0):0 < g t b:=by
 unfold g;have:0 < Int.gcd t b:=NJ _ h
 lia
theorem AY (t b:Int):lo t b*g t b=t:=Int.ediv_mul_cancel (fB ..)
theorem yc (t b:Int):hi t b*g t b=b:=Int.ediv_mul_cancel (fO ..)
theorem Fg {t b:Int} (h:0 < b):0 < hi t b:=by
 have h1:=Bg (t:=t) (b:=b) (by lia);have h2:=yc t b;by_cases h3:0 < hi t b
 ·exact h3
 ·have:hi t b*g t b<=0:=Int.mul_nonpos_of_nonpos_of_nonneg (by lia) (by lia)
  lia
theorem AW {t b:Int} (h:b≠0):Int.gcd (lo t b) (hi t b)=1:=by
 have h1:=Bg (t:=t) h;have e:=Int.gcd_mul_right (lo t b) (g t b) (hi t b);rw[AY,yc] at e;have e2:(g t b).natAbs=Int.gcd t b:=by unfold g;simp
 rw[e2] at e;have h2:0 < Int.gcd t b:=NJ _ h;exact Nat.eq_of_mul_eq_mul_right h2 (by rw[<- e,mM])
theorem AX (t b : Int) : lo t b * b = t * hi t b := by
  have h1 := AY t b;have h2 := yc t b
  calc lo t b * b = lo t b * (hi t b * g t b) := by rw [h2]
    _ = (lo t b * g t b) * hi t b := by rw [gh (hi t b), <- d5]
    _ = t * hi t b := by rw [h1]
theorem qD {a b c:Int} (h:Int.gcd a b=1) (hd:a∣b*c):a∣c:=by
 have h1:a.natAbs∣b.natAbs*c.natAbs:=by rw[<- dg];exact gR.mpr hd
 have h2:Nat.Coprime a.natAbs b.natAbs:=h;exact gR.mp (h2.dvd_of_dvd_mul_left h1)
theorem uniq {a b c d:Int} (hb:0 < b) (hd:0 < d) (h1:Int.gcd a b=1) (h2:Int.gcd c d=1) (e:a*d=c*b):a=c/\b=d:=by
 have e1:b∣d:=by
  have:b∣a*d:=⟨c,by rw[e,gh]⟩;exact qD (by rw[kL];exact h1) this
 have e2:d∣b:=by
  have:d∣c*b:=⟨a,by rw[<- e,gh]⟩;exact qD (by rw[kL];exact h2) this
 have e3:b=d:=Int.dvd_antisymm (by lia) (by lia) e1 e2;subst e3;exact ⟨uG (by lia) e,rfl⟩
theorem Q3 {t b c d : Int} (hb : 0 < b) (hd : 0 < d) (h2 : Int.gcd c d = 1) (e : t * d = c * b) : lo t b = c /\ hi t b = d := by
  refine uniq (Fg hb) hd (AW (by lia)) h2 ?_;have h := AX t b;have hb' : b ≠ 0 := by lia
  apply uG hb'
  calc lo t b * d * b = lo t b * b * d := by rw [d5, gh d b, <- d5]
    _ = t * hi t b * d := by rw [h]
    _ = t * d * hi t b := by rw [d5, gh (hi t b), <- d5]
    _ = c * b * hi t b := by rw [e]
    _ = c * hi t b * b := by rw [d5, gh b, <- d5]
theorem Q4 {a b:Int} (hb:0 < b) (h:Int.gcd a b=1):lo a b=a/\hi a b=b:=Q3 hb hb h rfl
theorem nY {a b:Int} (h:b≠0):a.natAbs<=(a*b).natAbs:=by
 rw[dg];exact dE _ (Int.natAbs_pos.mpr h)
theorem lo_le {t b:Int} (h:b≠0):(lo t b).natAbs<=t.natAbs:=by
 have:=nY (a:=lo t b) (b:=g t b) (by have:=Bg (t:=t) h;lia);rwa [AY] at this
theorem PJ {t b:Int} (h:b≠0):(hi t b).natAbs<=b.natAbs:=by
 have:=nY (a:=hi t b) (b:=g t b) (by have:=Bg (t:=t) h;lia);rwa [yc] at this
def Sz (k:Nat) (x:Int):Prop:=x.natAbs < 2^k
theorem Sz.mono {j k:Nat} {x:Int} (h:Sz j x) (l:j<=k):Sz k x:=bK h (ax (by decide) l)
theorem Sz.mul {j k:Nat} {x y:Int} (h1:Sz j x) (h2:Sz k y):Sz (j+k) (x*y):=by
 unfold Sz at *
 rw[dg,a8];exact Nat.mul_lt_mul'' h1 h2
theorem Sz.neg {k:Nat} {x:Int} (h:Sz k x):Sz k (-x):=by unfold Sz at *;rw[jY];exact h
theorem Sz.le {k:Nat} {x y:Int} (h:Sz k y) (l:x.natAbs<=y.natAbs):Sz k x:=bL l h
theorem Sz.hi {k:Nat} {t b:Int} (h:Sz k b) (hb:b≠0):Sz k (hi t b):=h.le (PJ hb)
end Nm
namespace L2
open PySem PySem.Spec PyProof.Rows
structure Bk (env:Env) (scope:Scope) (own capN:List Str):Prop where
 kind:scope.kind=.function
 locs:∀y∈scope.names,y.2=.local->scope.names.lookup y.1=some .local
 ownk:∀x∈own,scope.names.lookup x=some .local\/scope.names.lookup x=some .cell
 cells:∀y∈scope.names,y.2=.cell->y.1∈own/\y.1∉capN
 frees:∀y∈scope.names,y.2=.free->y.1∈capN/\y.1∉own
 capf:∀x∈capN,scope.names.lookup x=some .free
 caps:∀x∈capN,env.kindOf x=some .cell\/env.kindOf x=some .free
def TQ (scope:Scope) (own capN:List Str):Bool :=
 decide (scope.kind=.function) && scope.names.all (λy=>decide (y.2=.local->scope.names.lookup y.1=some .local) && decide (y.2=.cell->y.1∈own/\y.1∉capN) && decide (y.2=.free->y.1∈capN/\y.1∉own)) &&
 own.all (λx=>decide (scope.names.lookup x=some .local\/scope.names.lookup x=some .cell)) && capN.all λx=>decide (scope.names.lookup x=some .free)
def DM (env:Env):List Str->Bool
 | []=>true
 | x :: r=>(match env.kindOf x with | some .cell=>true | some .free=>true | _=>false) && DM env r
theorem HV {env:Env}:∀{capN:List Str},DM env capN=true->∀x∈capN,env.kindOf x=some .cell\/env.kindOf x=some .free
 | [],_,_,h=>nomatch h
 | y :: r,h,x,hx=>by
  unfold DM at h;rw[eC] at h;rcases aN.mp hx with e | hx
  ·subst e;have h1:=h.1
   split at h1
   ·rename_i e;exact .inl e
   ·rename_i e;exact .inr e
   ·cases h1
  ·exact HV h.2 x hx
theorem Bk.of {env:Env} {scope:Scope} {own capN:List Str} (h1:TQ scope own capN=true) (h2:DM env capN=true):Bk env scope own capN:=by
 unfold TQ at h1;rw[eC,eC,eC,oW,oW,oW] at h1;obtain ⟨⟨⟨a1,a2⟩,a3⟩,a4⟩:=h1
 have a2':∀y∈scope.names,(y.2=.local->scope.names.lookup y.1=some .local)/\(y.2=.cell->y.1∈own/\y.1∉capN)/\(y.2=.free->y.1∈capN/\y.1∉own):=λy hy=>by
  have q:=a2 y hy;rw[eC,eC] at q;exact ⟨of_decide_eq_true q.1.1,of_decide_eq_true q.1.2,of_decide_eq_true q.2⟩
 exact ⟨of_decide_eq_true a1,λy hy=>(a2' y hy).1,λx hx=>of_decide_eq_true (a3 x hx),λy hy=>(a2' y hy).2.1,λy hy=>(a2' y hy).2.2,λx hx=>of_decide_eq_true (a4 x hx),HV h2⟩
def eJ (env:Env):List (Str×NameKind)->List (Str×Addr)->List (Str×Addr)
 | [],acc=>acc
 | (n,k) :: r,acc=>if k == .free then eJ env r ((n,(env.cells.lookup n).getD 0) :: acc) else eJ env r acc
theorem iC (env:Env):∀(names:List (Str×NameKind)) (acc:List (Str×Addr)),eJ env names acc=eJ env names []++acc
 | [],_=>rfl
 | (n,k) :: r,acc=>by
  unfold eJ
  split
  ·rw[iC env r (_ :: acc),iC env r [_],cP];rfl
  ·exact iC env r acc
theorem qG (env:Env):∀(names:List (Str×NameKind)) {x:Str} {c:Addr},(x,c)∈eJ env names []->(x,NameKind.free)∈names/\c=(env.cells.lookup x).getD 0
 | [],_,_,h=>nomatch h
 | (n,k) :: r,x,c,h=>by
  unfold eJ at h
  split at h
  ·rename_i hk
   have ek:k=.free:=by simpa using hk
   subst ek;rw[iC] at h;rcases aA.mp h with h | h
   ·have q:=qG env r h;exact ⟨b6 _ q.1,q.2⟩
   ·have e:(x,c)=(n,(env.cells.lookup n).getD 0):=by simpa using h
    cases e;exact ⟨dm,rfl⟩
  ·have q:=qG env r h;exact ⟨b6 _ q.1,q.2⟩
theorem jb {α:Type}:∀{l:List (Str×α)} {x:Str} {c:α},(x,c)∈l->∃d,l.lookup x=some d
 | (k,v) :: r,x,c,h=>by
  rw[kK];cases hb:x == k with
  | true=>exact ⟨v,rfl⟩
  | false =>
   rcases aN.mp h with e | h
   ·cases e;simp at hb
   ·exact jb h
theorem qH (env:Env):∀(names:List (Str×NameKind)) {x:Str},(x,NameKind.free)∈names->∃c,(x,c)∈eJ env names []
 | (n,k) :: r,x,h=>by
  unfold eJ;rcases aN.mp h with e | h
  ·cases e;rw[if_pos (by decide),iC];exact ⟨_,bG _ dm⟩
  ·obtain ⟨c,q⟩:=qH env r h
   split
   ·rw[iC];exact ⟨c,dk _ q⟩
   ·exact ⟨c,q⟩
theorem Bu {scope : Scope} {env : Env} (h : ∀ y ∈ scope.names, y.2 = .free → ∃ c, env.cells.lookup y.1 = some c) : closureFor scope env = pure (eJ env scope.names []) := by
  have gen : ∀ (names : List (Str × NameKind)) (acc : List (Str × Addr)) (f : Str × NameKind → List (Str × Addr) → Sem (ForInStep (List (Str × Addr)))),
      (∀ name kind cells, f (name, kind) cells = if kind == .free then (do let a <- cellOf env name; pure (.yield ((name, a) :: cells))) else pure (.yield cells)) →
      (∀ y ∈ names, y.2 = .free → ∃ c, env.cells.lookup y.1 = some c) → forIn names acc f = pure (eJ env names acc) := by
    intro names
    induction names with
    | nil => intro acc f hf _; rw [Ee]; rfl
    | cons y r ih =>
      intro acc f hf hh;obtain ⟨n, k⟩ := y;rw [NI, hf];unfold eJ;by_cases hk : (k == NameKind.free) = true
      · obtain ⟨c, hc⟩ := hh (n, k) dm (by simpa using hk);have hc' : env.cells.lookup n = some c := hc;have e : cellOf env n = pure c := by unfold cellOf; rw [hc']
        rw [if_pos hk, if_pos hk, e, hc'];simp only [pure_bind, Option.getD_some];exact ih _ f hf λy hy => hh y (b6 _ hy)
      · rw [if_neg hk, if_neg hk];simp only [pure_bind];exact ih _ f hf λy hy => hh y (b6 _ hy)
  simp only [closureFor];rw [gen scope.names [] _ (λname kind cells => by cases hkc : kind == NameKind.free <;> simp [hkc]) h];rfl

theorem fR:∀(names:List (Str×NameKind)) (n:Nat) (acc:List (Str×Addr)),cellsFrom n names acc=cellsFrom n names []++acc
 | [],_,_=>rfl
 | (x,k) :: r,n,acc=>by
  unfold cellsFrom
  split
  ·rw[fR r (n+1) (_ :: acc),fR r (n+1) [_],cP];rfl
  ·exact fR r n acc
theorem kH:∀(names:List (Str×NameKind)) (n:Nat) {x:Str} {c:Addr},(x,c)∈cellsFrom n names []->(x,NameKind.cell)∈names
 | [],_,_,_,h=>nomatch h
 | (y,k) :: r,n,x,c,h=>by
  unfold cellsFrom at h
  split at h
  ·rename_i hk
   have ek:k=.cell:=by simpa using hk
   subst ek;rw[fR] at h;rcases aA.mp h with h | h
   ·exact b6 _ (kH r _ h)
   ·have e:(x,c)=(y,n):=by simpa using h
    cases e;exact dm
  ·exact b6 _ (kH r _ h)
def yj (env:Env) (scope:Scope) (C:Addr):Env :=
 { scope:=relabel scope env,locals:=C,globals:=env.globals,cells:=cellsFrom (C+1) scope.names (eJ env scope.names []),qual:=env.qual,func:=none,code:=env.code,frame:=env.frame,builtins:=env.builtins }
theorem G5 {M:Model} {A:Around} {E:Value->Shared->Prop} {s:Shared} {scope:Scope} {g:Addr} {cl:List (Str×Addr)} {qual:Str} {env:Env} {Q:Env->Shared->Prop}
  (h:Q (newEnv scope s.heap.objs.size g (cellsFrom (s.heap.objs.size+1) scope.names cl) qual none .none (some env) builtinsNs) { s with heap:=pushCells (s.heap.push { cls:=.type "dict",data:=.dict #[] }) scope.names }) :
  wpAny M A (newFunctionEnv scope g cl [] qual none .none (some env)) Q E s:=by
 simp only[newFunctionEnv,Option.isSome_some,if_true];refine wpAny_bind (wpAny_alloc ?_);refine wpAny_bind (wpAny_layCells _ (λname kind cells=>by cases hkc:kind == NameKind.cell <;> simp [hkc]) _ _ _ _ ?_);rw[show ({ s with heap:=s.heap.push { cls:=.type "dict",data:=.dict #[] } }:Shared).heap.objs.size=s.heap.objs.size+1 from Heap.size_push ..];rw[Ee];exact wpAny_bind (wpAny_pure (wpAny_pure h))
theorem vB {scope:Scope} {env:Env} {x:Str}:∀{k:NameKind},(relabel scope env).names.lookup x=some k->∃k0,scope.names.lookup x=some k0/\(k=k0\/(k0=.free/\k=.cell)):=by
 unfold relabel;show ∀{k:NameKind},(scope.names.map λ(n,k)=>if (k == NameKind.free && env.scope.kind == .function && env.kindOf n == some .cell) then (n,NameKind.cell) else (n,k)).lookup x=some k->_
 induction scope.names with
 | nil=>intro k h;cases h
 | cons y r ih =>
  intro k h;obtain ⟨n,k1⟩:=y;rw[gI,kK] at h;rw[kK];by_cases hc:(k1 == NameKind.free && env.scope.kind == .function && env.kindOf n == some .cell)=true
  ·simp only[hc,if_true] at h;cases hb:x == n with
   | true =>
    simp only[hb] at h
    have e1:k1=.free:=by
     rw[eC,eC] at hc;simpa using hc.1.1
    cases h;exact ⟨k1,rfl,.inr ⟨e1,rfl⟩⟩
   | false=>simp only[hb] at h;exact ih h
  ·have hc':(k1 == NameKind.free && env.scope.kind == .function && env.kindOf n == some .cell)=false:=by simpa using hc
   simp only[hc',iY,if_false] at h;cases hb:x == n with
   | true=>simp only[hb] at h;cases h;exact ⟨_,rfl,.inl rfl⟩
   | false=>simp only[hb] at h;exact ih h
theorem GC {scope:Scope} {env:Env} {x:Str}:scope.names.lookup x=some .free->(relabel scope env).names.lookup x=some .cell\/(relabel scope env).names.lookup x=some .free:=by
 unfold relabel;show _->(scope.names.map λ(n,k)=>if (k == NameKind.free && env.scope.kind == .function && env.kindOf n == some .cell) then (n,NameKind.cell) else (n,k)).lookup x=some .cell\/(scope.names.map λ(n,k)=>if (k == NameKind.free && env.scope.kind == .function && env.kindOf n == some .cell) then (n,NameKind.cell) else (n,k)).lookup x=some .free
 induction scope.names with
 | nil=>intro h;cases h
 | cons y r ih =>
  intro h;obtain ⟨n,k1⟩:=y;rw[kK] at h;rw[gI];by_cases hc:(k1 == NameKind.free && env.scope.kind == .function && env.kindOf n == some .cell)=true
  ·simp only[hc,if_true,kK];cases hb:x == n with
   | true=>exact .inl rfl
   | false=>rw[hb] at h;exact ih h
  ·have hc':(k1 == NameKind.free && env.scope.kind == .function && env.kindOf n == some .cell)=false:=by simpa using hc
   simp only[hc',iY,if_false,kK];cases hb:x == n with
   | true=>rw[hb] at h;cases h;exact .inr rfl
   | false=>rw[hb] at h;exact ih h
structure Bz where
 s:Shared
 H:Hp
 fp:List Addr
 C:Addr
def zF (X:Cx) (own capN:List Str) (scope:Scope) (Z:Bz):Cx where
 prog:=X.prog
 w:=X.w
 K:=X.K
 mg:=X.mg
 base:=X.base
 A:=X.A
 N:=own++capN
 s₀:=Z.s
 H₀:=Z.H
 env:=yj X.env scope Z.C
 outer:=X.stack
 stack:=X.stack
 ex:=Z.fp
 fn:=λx=>own.contains x
 calm:=true
 pn:=[]
 xe:=λ_ _=>False
section
variable {X:Cx} {pins:List (Addr×Obj)} {σ:St} {own capN:List Str} {scope:Scope} {Z:Bz}
theorem jg (B:Bk X.env scope own capN) (I:Inv X pins σ Z.H Z.s) {x:Str} {c:Addr} (h:(yj X.env scope Z.C).cells.lookup x=some c) :
  (x∈own/\(x,c)∈cellsFrom (Z.C+1) scope.names [])\/(x∈capN/\x∉own/\X.env.cells.lookup x=some c):=by
 have h':(cellsFrom (Z.C+1) scope.names (eJ X.env scope.names [])).lookup x=some c:=h;rw[fR] at h';rcases aA.mp (mem_of_lookup h') with m | m
 ·exact .inl ⟨(B.cells _ (kH _ _ m) rfl).1,m⟩
 ·obtain ⟨m1,e⟩:=qG _ _ m;obtain ⟨q1,q2⟩:=B.frees _ m1 rfl;obtain ⟨d,hd⟩:=I.ok.has x (B.caps x q1);rw[hd] at e;exact .inr ⟨q1,q2,by rw[hd,e];rfl⟩
theorem O4 (B:Bk X.env scope own capN) (I:Inv X pins σ Z.H Z.s) {x:Str} {c:Addr} (hx:x∈capN) (h:X.env.cells.lookup x=some c):(yj X.env scope Z.C).cells.lookup x=some c:=by
 have hm:(x,NameKind.free)∈scope.names:=mem_of_lookup (B.capf x hx);obtain ⟨c1,m1⟩:=qH X.env scope.names hm
 have hs:∃d,(yj X.env scope Z.C).cells.lookup x=some d:=by
  show ∃d,(cellsFrom (Z.C+1) scope.names (eJ X.env scope.names [])).lookup x=some d
  rw[fR];exact jb (bG _ m1)
 obtain ⟨d,hd⟩:=hs;rcases jg B I hd with ⟨q,m⟩ | ⟨_,_,q⟩
 ·exact absurd hx (B.cells _ (kH _ _ m) rfl).2
 ·rw[h] at q;cases q;exact hd
theorem K7 (h:Heap) (C:Addr) (hC:h.objs.size=C+1) (names:List (Str×NameKind)):CellsOk (pushCells h names) (C+1) (cellsFrom (C+1) names []):=by
 have q:=cellsFrom_ok names h (C+1) [] ⟨λ_ _ hm=>(nomatch hm),List.Pairwise.nil⟩ (by rw[hC];exact ak _);rwa [hC] at q
theorem Fu (I:Inv X pins σ Z.H Z.s) {x:Str} {c:Addr} (h:X.env.cells.lookup x=some c):@LT.lt Nat instLTNat c Z.s.heap.objs.size:=by
 obtain ⟨v,q⟩:=I.cell x c h;exact q.lt
theorem Rv {h1:Heap} (I:Inv X pins σ Z.H Z.s) (hc:X.calm=true) (B:Bk X.env scope own capN) (hC:Z.s.heap.objs.size<=Z.C) (hcl:CellsOk h1 (Z.C+1) (cellsFrom (Z.C+1) scope.names []))
  (hf:∀b∈Z.fp,kj X pins Z.H b/\@LT.lt Nat instLTNat b Z.s.heap.objs.size):(zF X own capN scope Z).Ok:=by
 refine ⟨I.ok.mod,B.kind,I.ok.glob,I.ok.blt,hC,λx y c h1 h2=>?_,λx hx=>?_,λx c hx h=>?_,λ_=>I.ok.hd hc,I.ok.frames,.inl rfl,λb hb=>⟨?_,λx c h=>?_⟩,I.bs,ai I.ok.bsz I.sz,λb o e hb=>?_,λb hb hz=>?_,I.stack,I.stkFree⟩
 ·rcases jg B I h1 with ⟨q1,m1⟩ | ⟨q1,n1,m1⟩ <;> rcases jg B I h2 with ⟨q2,m2⟩ | ⟨q2,n2,m2⟩
  ·exact name_of_addr hcl.apart m1 m2
  ·have l1:=(hcl.empty _ _ m1).2;have l2:=Fu I m2
   lia
  ·have l1:=(hcl.empty _ _ m2).2;have l2:=Fu I m1
   lia
  ·exact I.ok.inj x y c m1 m2
 ·have hx':(relabel scope X.env).names.lookup x=some .cell\/(relabel scope X.env).names.lookup x=some .free:=hx
  have hk:scope.names.lookup x=some .cell\/scope.names.lookup x=some .free:=by
   rcases hx' with h | h
   ·obtain ⟨k0,e,q | ⟨q,_⟩⟩:=vB h
    ·exact .inl (by rw[e,<- q])
    ·exact .inr (by rw[e,q])
   ·obtain ⟨k0,e,q | ⟨_,q⟩⟩:=vB h
    ·exact .inr (by rw[e,<- q])
    ·cases q
  show ∃c,(cellsFrom (Z.C+1) scope.names (eJ X.env scope.names [])).lookup x=some c
  rcases hk with h | h
  ·exact RX.mp (zT scope.names (Z.C+1) _ (.inl h))
  ·obtain ⟨c,m⟩:=qH X.env scope.names (mem_of_lookup h);rw[fR];exact jb (bG _ m)
 ·have ho:x∈own:=by have hx':own.contains x=true:=hx;simpa using hx'
  rcases jg B I h with ⟨_,m⟩ | ⟨_,n,_⟩
  ·have:=(hcl.empty _ _ m).2;have hC':Z.s.heap.objs.size<=Z.C:=hC;show Z.s.heap.objs.size<=c
   lia
  ·exact absurd ho n
 ·intro e;have e':@Eq Nat b Z.C:=e;have:=(hf b hb).2
  lia
 ·have l:=(hf b hb).2;rcases jg B I h with ⟨_,m⟩ | ⟨_,_,m⟩
  ·intro e;have e':@Eq Nat c b:=e;have:=(hcl.empty _ _ m).2
   lia
  ·exact (hf b hb).1.2.2.2.2.1 x c m
 ·obtain ⟨_,_,_,f3,_⟩:=(hf b hb).1;rcases f3 with f3 | f3
  ·exact I.ok.noex b o e f3
  ·exact absurd (bK (Heap.lt_size e) (ai I.ok.bsz f3)) (eK _)
 ·obtain ⟨_,f1,f2,_⟩:=(hf b hb).1;rcases aN.mp (I.stkSub b hz) with e | e
  ·exact f1 e
  ·exact f2 e
def Lu (k:Nat) (cap:List Nat) (σ:St):St:=List.replicate k none++cap.map λj=>(σ[j]?).join
def zj (X:Cx) (capN:List Str) (cap:List Nat):Prop:=cap.map (λj=>X.N[j]?)=capN.map some
theorem zj.get {cap:List Nat} (h:zj X capN cap) {i:Nat} {x:Str} (e:capN[i]?=some x):∃j,cap[i]?=some j/\X.N[j]?=some x:=by
 have q:=congrArg (λl=>l[i]?) h;simp only[aG,e,Option.map_some] at q;cases hc:cap[i]? with
 | none=>rw[hc] at q;cases q
 | some j=>rw[hc] at q;exact ⟨j,rfl,by simpa using q⟩
theorem HW {cap:List Nat} {h':Heap} {m:Str->Option Value} (I:Inv X pins σ Z.H Z.s) (B:Bk X.env scope own capN) (hcap:zj X capN cap)
  (kc:∀x c,X.env.cells.lookup x=some c->∀v,Z.s.heap.IsCell c v->h'.IsCell c v) {i:Nat} {x:Str} {v:V} (e1:(own++capN)[i]?=some x) (e2:(Lu own.length cap σ)[i]?=some (some v)) :
  ∃u,RelV v u/\Look (yj X.env scope Z.C) h' m x u:=by
 have hi:own.length<=i:=by
  by_cases hi:own.length<=i
  ·exact hi
  ·exfalso
   unfold Lu at e2;rw[bD (by simpa using hi),df] at e2
   split at e2 <;> cases e2
 rw[aZ hi] at e1;unfold Lu at e2;rw[aZ (by simpa using hi),aD,aG] at e2;obtain ⟨j,hj,hN⟩:=hcap.get e1;rw[hj] at e2;have e3:(σ[j]?).join=some v:=by simpa using e2
 have e4:σ[j]?=some (some v):=by
  cases q:σ[j]? with
  | none=>rw[q] at e3;cases e3
  | some o=>rw[q] at e3;simp at e3;rw[e3]
 have hx:x∈capN:=ay e1;have hk:=B.caps x hx;obtain ⟨m0,_,hl⟩:=I.loc;obtain ⟨u,r,l⟩:=hl j x v hN e4 (.inr hk);refine ⟨u,r,.inr ⟨GC (B.capf x hx),?_⟩⟩;rcases l with ⟨hk2,_⟩ | ⟨_,c,hc,z⟩
 ·rcases hk with hk | hk
  ·rw[hk] at hk2;cases hk2
  ·rw[hk] at hk2;cases hk2
 ·exact ⟨c,O4 B I hx hc,kc x c hc _ z⟩
theorem Tg (I:Inv X pins σ Z.H Z.s) {b:Addr} (h:b∈Lx X.stack):@LT.lt Nat instLTNat b Z.s.heap.objs.size:=by
 obtain ⟨_,o,ho,_⟩:=I.stack.mem h;exact Heap.lt_size ho
theorem O2 {cap:List Nat} {h1:Heap} {D:Addr} {oD:Obj} {t1:Nat} (I:Inv X pins σ Z.H Z.s) (hc:X.calm=true) (B:Bk X.env scope own capN) (hcap:zj X capN cap) (hC:Z.s.heap.objs.size<=Z.C)
  (hcl:CellsOk h1 (Z.C+1) (cellsFrom (Z.C+1) scope.names [])) (hf:∀b∈Z.fp,kj X pins Z.H b/\@LT.lt Nat instLTNat b Z.s.heap.objs.size)
  (hk:∀b o,Z.s.heap.get? b=some o->h1.get? b=some o) (hn:h1.Ns Z.C λ_=>none) (hD:Z.s.heap.objs.size<=D) (hDC:D≠Z.C) (hoD:h1.get? D=some oD) (hdD:∀v,oD.data≠.cell v) :
  Inv (zF X own capN scope Z) [(D,oD)] (Lu own.length cap σ) Z.H { Z.s with heap:=h1,toks:=t1 }:=by
 refine ⟨Rv I hc B hC hcl hf,rfl,I.bare,Un.kept hk,⟨_,hn,λi x v e1 e2 _=>HW I B hcap (λx c _ v z=>z.keeps hk) e1 e2⟩,λx c h=>?_,I.hok.fresh hC,λx c h=>?_,λp hp=>?_,I.hok.kept hk,?_⟩
 ·rcases jg B I h with ⟨_,m⟩ | ⟨_,_,m⟩
  ·exact ⟨none,(hcl.empty _ _ m).1⟩
  ·obtain ⟨v,q⟩:=I.cell x c m;exact ⟨v,q.keeps hk⟩
 ·rcases jg B I h with ⟨_,m⟩ | ⟨_,_,m⟩
  ·exact I.hok.fresh (by have:=(hcl.empty _ _ m).2;lia)
  ·exact I.freeC x c m
 ·have e:p=(D,oD):=by simpa [zF] using hp
  subst e;exact ⟨hoD,I.hok.fresh hD,hDC,λz=>eK _ (bK (Tg I z) hD),hdD⟩
 ·show (Lu own.length cap σ).length=(own++capN).length
  have:=congrArg List.length hcap;simp only[aj] at this;unfold Lu;simp [this]
theorem Nr {cap:List Nat} {pins':List (Addr×Obj)} {σ':St} {H':Hp} {s':Shared} (I:Inv X pins σ Z.H Z.s) (B:Bk X.env scope own capN) (hcap:zj X capN cap) (hf:∀b∈Z.fp,kj X pins Z.H b/\@LT.lt Nat instLTNat b Z.s.heap.objs.size)
  (J:Inv (zF X own capN scope Z) pins' σ' H' s'):Inv (zF X own capN scope Z) pins' (Lu own.length cap σ) H' s':=by
 refine ⟨J.ok,J.os,J.bare,J.base,?_,J.cell,J.free,J.freeC,J.pin,J.hok,?_⟩
 ·obtain ⟨m,hn,_⟩:=J.loc;refine ⟨m,hn,λi x v e1 e2 _=>HW I B hcap (λx c hx v z=>?_) e1 e2⟩;obtain ⟨o,ho,hd⟩:=z;obtain ⟨sl,e⟩:=J.base.any ho (I.freeC x c hx) λz=>(hf c z).1.2.2.2.2.1 x c hx rfl
  exact ⟨_,e,hd⟩
 ·show (Lu own.length cap σ).length=(own++capN).length
  have:=congrArg List.length hcap;simp only[aj] at this;unfold Lu;simp [this]
theorem O3 {σ':St} {H':Hp} {s':Shared} {D:Addr} {its:List Value} {n:Nat} {ys:List V} (I:Inv X pins σ Z.H Z.s) (hf:∀b∈Z.fp,kj X pins Z.H b/\@LT.lt Nat instLTNat b Z.s.heap.objs.size) (hD:Z.s.heap.objs.size<=D)
  (J:Inv (zF X own capN scope Z) [(D,{ cls:=.type "list",data:=.seq its.toArray n })] σ' H' s') (r:cZ ys its) (hz:ys.length<=sizeLine) :
  Inv X pins σ (upd H' D (.lst ys)) s':=by
 have pD:=J.pin (D,{ cls:=.type "list",data:=.seq its.toArray n }) (by simp);have ne:∀{b:Addr} {o:Obj},Z.s.heap.get? b=some o->b≠D:=λe z=>by subst z;exact eK _ (bK (Heap.lt_size e) hD)
 have nt:∀{b:Addr} {u:HO},H' b=some u->b≠D:=λe z=>by rw[z,pD.2.1] at e;cases e
 refine I.call' (ch:=Z.fp) J.os ⟨J.base.keep,J.base.slot,λb o e h hx=>?_,J.base.there,λb xs e=>?_,λb o u e=>?_,λb ps e=>?_⟩ (λb u e=>?_) J.bare λb hb=>?_
 ·rw[bM (ne e)];exact J.base.free b o e h hx
 ·have q:=J.base.tups b xs e;rw[bM (nt q)];exact q
 ·have q:=J.base.frzs b o u e;rw[bM (nt q)];exact q
 ·obtain ⟨more,q⟩:=J.base.tbls b ps e;exact ⟨more,by rw[bM (nt q)];exact q⟩
 ·by_cases hb:b=D
  ·subst hb;rw[aO] at e;cases e;exact ⟨hz,its,n,r,pD.1⟩
  ·rw[bM hb] at e;exact (J.hok b u e).stay (λc v _ q=>q) (λc q=>by rw[bM (nt q)];exact q) λc xs q=>by rw[bM (nt q)];exact q
 ·obtain ⟨_,f1,_,f3,f4,f5⟩:=(hf b hb).1;exact ⟨f3,f1,f4,f5⟩
end
theorem Qg {α:Type} {t:Sem α} {Q Q':α->Shared->Prop} {M:Model} {A:Around} {E:Value->Shared->Prop} {s:Shared} (h:wpAny M A t Q (λ_ _=>False) s) (hQ:∀a s,Q a s->Q' a s):wpAny M A t Q' E s :=
 wpAny_mono h hQ λ_ _ z=>False.elim z
theorem Fq {prog : Program} {w : World} {A : Around} {R : Result → Shared → Prop} {s : Shared} {elt target iter : Expr} {ifs : List Expr} {scope : Scope} {pos : Pos} {it acc : Value} {env : Env} (I : Nat → Shared → Prop)
    (turn : ∀ (E : Value → Shared → Prop) n s, I n s → wpAny (model prog w) A (pyNext it) (λr s₁ => match r with
      | none => R (.ok .next) s₁
      | some v => wpAny (model prog w) A (letOwnedTupleGo target it v) (λ_ s₂ => wpAny (model prog w) A (assign target env v) (λ_ s₃ =>
          wpAny (model prog w) A (forIn ifs true λc r => if r = true then do let ok <- isTrue c env (eval c env); pure (ForInStep.yield ok) else pure (ForInStep.yield r)) (λok s₄ =>
            if ok = true then wpAny (model prog w) A (eval elt env) (λx s₅ => wpAny (model prog w) A (call (.builtin "list.append") [acc, x]) (λ_ s₆ => ∃ m, m < n /\ I m s₆) E s₅) E s₄
            else ∃ m, m < n /\ I m s₄) E s₃) E s₂) E s₁) E s)
    (n : Nat) (h : I n s) : codeAny (model prog w) A (.compLoop (.ListComp elt [⟨target, iter, ifs, 0⟩] scope pos) 0 it acc env) R s := by
  refine codeAny_loop rfl I (λn s hI => ?_) n h;show wpAny _ A ((compTurn (.ListComp elt [⟨target, iter, ifs, 0⟩] scope pos) 0 it acc env).onRaise (λx => do noteFrame x env; theTreesLotGoes x)) _ _ s
  refine wpAny_noted ?_;rw [compTurn_list];refine wpAny_bind (wpAny_standAt (wpAny_bind (wpAny_mono (turn _ n s hI) (λr s₁ h₁ => ?_) λ_ _ h' => h')));cases r with
  | none => exact wpAny_pure h₁
  | some v =>
    refine wpAny_bind (wpAny_mono h₁ (λ_ s₂ h₂ => wpAny_bind (wpAny_mono h₂ (λ_ s₃ h₃ => wpAny_bind (wpAny_mono h₃ (λok s₄ h₄ => ?_) λ_ _ h' => h')) λ_ _ h' => h')) λ_ _ h' => h');cases ok with
    | false => exact wpAny_pure ⟨rfl, h₄⟩
    | true =>
      exact wpAny_bind (wpAny_bind (wpAny_mono h₄ (λx s₅ h₅ => wpAny_bind (wpAny_mono h₅ (λ_ s₆ h₆ => wpAny_pure (wpAny_pure ⟨rfl, h₆⟩)) λ_ _ h' => h')) λ_ _ h' => h'))

def PF (X : Cx) (ifs : List Expr) (t : TT) : Prop :=
  ∀ (pins : List (Addr × Obj)) (s : Shared) (σ : St) (H : Hp) (Q : Bool → Hp → Prop), Inv X pins σ H s → t σ H Q →
    wpAny (model X.prog X.w) X.A (forIn ifs true λc r => if r = true then do let ok <- isTrue c X.env (eval c X.env); pure (ForInStep.yield ok) else pure (ForInStep.yield r)) (TP X pins σ Q) X.xe s
def R8:TT:=λ_ H Q=>Q true H
theorem cH {X:Cx}:PF X [] R8:=λ_ _ _ H _ I h=>wpAny_tests_nil ⟨H,I,h⟩
theorem IM {X:Cx} {c:Expr} {t:TT} (h:PT X c t):PF X [c] t:=λpins s σ H Q I hw=>wpAny_tests_one (h pins s σ H Q I hw)
def rk (σ₀:St) (g:TG) (tf:TT) (te:TE) (x:V) (H:Hp) (NY:V->Hp->Prop) (NN:Hp->Prop):Prop :=
 g x σ₀ H λσ2 H2=>tf σ2 H2 λb H3=>if b=true then te σ2 H3 NY else NN H3
def tu (J:It) (σ₀:St) (g:TG) (tf:TT) (te:TE) (Q:VK) (H1:Hp):Prop :=
 ∃W:Nat->Nat->List V->Hp->Prop,(∃m,W 0 m [] H1)/\∀i m ys H,W i m ys H →
  (J.stop i H/\ys.length<=sizeLine/\∀p,H p=none->Q (.ref p) (upd H p (.lst ys))) \/
  (J.go i H/\ys.length < sizeLine/\∃(NY:V->Hp->Prop) (NN:Hp->Prop),(∀y H',NY y H'->∃m',m' < m/\W (i+1) m' (ys++[y]) H')/\(∀H',NN H'->∃m',m' < m/\W (i+1) m' ys H') /\
   ∀x H',J.yld i H x H'->rk σ₀ g tf te x H' NY NN)
def FQ (wi:TI) (k:Nat) (cap:List Nat) (g:TG) (tf:TT) (te:TE):TE:=λσ H Q=>wi σ H λJ H1=>tu J (Lu k cap σ) g tf te Q H1
abbrev lobj (its:List Value) (n:Nat):Obj:={ cls:=.type "list",data:=.seq its.toArray n }
section
variable {X:Cx} {own capN:List Str} {cap:List Nat} {scope:Scope} {elt tg iter:Expr} {ifs:List Expr} {pos:Pos} {wi:TI} {g:TG} {tf:TT} {te:TE}
theorem DK {use:Option (Value->Sem Unit)} {Qe:Value->Shared->Prop} {fpos:Pos} (hc:X.calm=true) (B:Bk X.env scope own capN) (hcap:zj X capN cap)
  (hi:PI X tg iter wi) (hg:∀Z,PG (zF X own capN scope Z) tg g) (hf:∀Z,PF (zF X own capN scope Z) ifs tf) (he:∀Z,PE (zF X own capN scope Z) elt te)
  (hs:∀x,foldedSetIterable iter X.env x=pure x) {pins:List (Addr×Obj)} {s:Shared} {σ:St} {H:Hp} {Q:VK} (I:Inv X pins σ H s) (h:FQ wi own.length cap g tf te σ H Q)
  (fin:∀(D C:Addr) (s':Shared) (H':Hp),Inv X pins σ H' s'->kj X pins H' C->(∃m,s'.heap.Ns C m)->Q (.ref D) H'->compPost (model X.prog X.w) X.A X.xe use Qe (.ref D) C (.ok .next) s') :
  wpAny (model X.prog X.w) X.A (comprehension (.ListComp elt [⟨tg,iter,ifs,0⟩] scope pos) scope X.env fpos (newList []) false (eval iter X.env) use) Qe X.xe s:=by
 refine wpAny_comprehension_free (use:=use) rfl hs (Bu λy hy hk=>I.ok.has y.1 (B.caps _ (B.frees y hy hk).1)) B.kind B.locs ?_;refine gU (hi pins s σ H _ I h) λv s1 h1=>gU h1 λitv s2 h2=>?_
 obtain ⟨it,fp,tn,J,H2,e,I2,T,st2,f2,W,⟨m0,w0⟩,turn⟩:=h2;subst e;have hfp:∀b∈fp,kj X pins H2 b/\@LT.lt Nat instLTNat b s2.heap.objs.size:=λb hb=>⟨f2 b hb,let ⟨_,e,_⟩:=T.obj _ _ st2 b hb;Heap.lt_size e⟩
 refine wpAny_newObj_type (G5 ?_) (bu _);have es:(s2.heap.push { cls:=.type "list",data:=.seq ([]:List Value).toArray }).objs.size=s2.heap.objs.size+1:=Heap.size_push ..
 show codeAny _ _ (.compStart _ 0 (.ref it) (.ref s2.heap.objs.size) { newEnv scope (s2.heap.push { cls:=.type "list",data:=.seq ([]:List Value).toArray }).objs.size X.env.globals (cellsFrom ((s2.heap.push { cls:=.type "list",data:=.seq ([]:List Value).toArray }).objs.size+1) scope.names (eJ X.env scope.names [])) X.env.qual none .none (some X.env) builtinsNs with scope:=relabel scope X.env })
  (compPost (model X.prog X.w) X.A X.xe use Qe (.ref s2.heap.objs.size) (s2.heap.push { cls:=.type "list",data:=.seq ([]:List Value).toArray }).objs.size)
  { s2 with heap:=pushCells ((s2.heap.push { cls:=.type "list",data:=.seq ([]:List Value).toArray }).push { cls:=.type "dict",data:=.dict #[] }) scope.names }
 have hk1:∀b o,(s2.heap.push { cls:=.type "list",data:=.seq ([]:List Value).toArray }).get? b=some o->(pushCells ((s2.heap.push { cls:=.type "list",data:=.seq ([]:List Value).toArray }).push { cls:=.type "dict",data:=.dict #[] }) scope.names).get? b=some o :=
  λb o e=>pushCells_keeps _ _ _ _ (Heap.get?_push_of_some _ e)
 have hk:∀b o,s2.heap.get? b=some o->(pushCells ((s2.heap.push { cls:=.type "list",data:=.seq ([]:List Value).toArray }).push { cls:=.type "dict",data:=.dict #[] }) scope.names).get? b=some o:=λb o e=>hk1 b o (Heap.get?_push_of_some _ e)
 have hoD:=hk1 s2.heap.objs.size _ (Heap.get?_push_size s2.heap (o:={ cls:=.type "list",data:=.seq ([]:List Value).toArray }) rfl);have hn:=(Heap.Ns.new (s2.heap.push { cls:=.type "list",data:=.seq ([]:List Value).toArray }) (.type "dict")).keeps (pushCells_keeps scope.names _);have hcl:=K7 ((s2.heap.push { cls:=.type "list",data:=.seq ([]:List Value).toArray }).push { cls:=.type "dict",data:=.dict #[] }) (s2.heap.objs.size+1) (by rw[Heap.size_push,es]) scope.names;rw[es] at hn ⊢;generalize pushCells ((s2.heap.push { cls:=.type "list",data:=.seq ([]:List Value).toArray }).push { cls:=.type "dict",data:=.dict #[] }) scope.names=h3 at hk hoD hn hcl ⊢;have Z:Bz:=⟨s2,H2,fp,s2.heap.objs.size+1⟩
 have I3:Inv (zF X own capN scope ⟨s2,H2,fp,s2.heap.objs.size+1⟩) [(s2.heap.objs.size,lobj [] 0)] (Lu own.length cap σ) H2 { s2 with heap:=h3 } :=
  O2 (Z:=⟨s2,H2,fp,s2.heap.objs.size+1⟩) (t1:=s2.toks) I2 hc B hcap (mN _) hcl hfp hk hn (ak _) (cu (fv _)) hoD (λv z=>nomatch z)
 have st3:tn 0 h3:=T.keep _ _ _ st2 λb _ o e=>hk b o e
 have loop:codeAny (model X.prog X.w) X.A (.compLoop (.ListComp elt [⟨tg,iter,ifs,0⟩] scope pos) 0 (.ref it) (.ref s2.heap.objs.size) (yj X.env scope (s2.heap.objs.size+1))) (compPost (model X.prog X.w) X.A X.xe use Qe (.ref s2.heap.objs.size) (s2.heap.objs.size+1)) { s2 with heap:=h3 }:=by
  refine Fq (λm s'=>∃i ys σ' H' its n,Inv (zF X own capN scope ⟨s2,H2,fp,s2.heap.objs.size+1⟩) [(s2.heap.objs.size,lobj its n)] σ' H' s'/\tn i s'.heap/\(∀b∈fp,H' b=none)/\cZ ys its/\W i m ys H') ?_ m0
   ⟨0,[],_,H2,[],0,I3,st3,λb hb=>(f2 b hb).1,.nil,w0⟩
  rintro E n s4 ⟨i,ys,σ4,H4,its,k,I4,st4,fr4,rv,w4⟩
  have fpo:∀{pp:List (Addr×Obj)} {H':Hp},(∀p∈pp,p.1=s2.heap.objs.size)->(∀b∈fp,H' b=none)->∀b∈fp,kj (zF X own capN scope ⟨s2,H2,fp,s2.heap.objs.size+1⟩) pp H' b:=λ{pp H'} hpp hn b hb=>by
   obtain ⟨e1,e2⟩:=I4.ok.exf b hb;refine ⟨hn b hb,e1,I4.ok.exfs b hb,.inl hb,e2,λp hp=>?_⟩;have hp':p∈pp:=by simpa [zF] using hp
   have l:=(hfp b hb).2;rw[hpp p hp'];exact λz=>eK _ (by rw[<- z] at l;exact l)
  have pinD:∀{its:List Value} {n:Nat},∀p∈[(s2.heap.objs.size,lobj its n)],p.1=s2.heap.objs.size:=λp hp=>by simp at hp;rw[hp]
  rcases turn i n ys H4 w4 with ⟨stop,hz,q⟩ | ⟨go,hlt,NY,NN,hNY,hNN,step⟩
  ·refine gU (T.done (zF X own capN scope ⟨s2,H2,fp,s2.heap.objs.size+1⟩) rfl rfl rfl rfl i _ s4 σ4 H4 E I4 (fpo pinD fr4) st4 stop) λr s5 ⟨hr,I5⟩=>?_
   subst hr;have pD:=I5.pin (s2.heap.objs.size,lobj its k) (by simp);have I6:=O3 (Z:=⟨s2,H2,fp,s2.heap.objs.size+1⟩) I2 hfp (ak _) I5 rv hz
   have hC:upd H4 s2.heap.objs.size (.lst ys) (s2.heap.objs.size+1)=none:=by
    rw[bM (Kx (fv _))];exact I5.free
   obtain ⟨m,hm,_⟩:=I5.loc;exact fin _ _ s5 _ I6 (I2.fpOk (mN _) hC) ⟨m,hm⟩ (q _ pD.2.1)
  ·refine gU (T.item (zF X own capN scope ⟨s2,H2,fp,s2.heap.objs.size+1⟩) rfl rfl rfl rfl i _ s4 σ4 H4 E I4 (fpo pinD fr4) st4 go) λr s5 ⟨u,hr,h5⟩=>?_
   subst hr;refine gU h5 λ_ s6 ⟨x,H6,I6,r6,y6,st6,fr6⟩=>?_
   have I6':=(Nr (Z:=⟨s2,H2,fp,s2.heap.objs.size+1⟩) I2 B hcap hfp I6).pinned (fpo pinD fr6) (T.obj _ _ st6)
   have back:∀{σ7:St} {H7:Hp} {s7:Shared},Inv (zF X own capN scope ⟨s2,H2,fp,s2.heap.objs.size+1⟩) ([(s2.heap.objs.size,lobj its k)]++AE fp s6.heap) σ7 H7 s7 →
     Inv (zF X own capN scope ⟨s2,H2,fp,s2.heap.objs.size+1⟩) [(s2.heap.objs.size,lobj its k)] σ7 H7 s7/\tn (i+1) s7.heap/\∀b∈fp,H7 b=none:=λ{σ7 H7 s7} I7=>by
    refine ⟨I7.unpinned,T.keep _ _ _ st6 λb hb o e=>(I7.pin (b,o) (bG _ (bG _ (qr hb e)))).1,λb hb=>?_⟩;obtain ⟨o,e,d⟩:=T.obj _ _ st6 b hb;exact (I7.pin (b,o) (bG _ (bG _ (qr hb e)))).2.1
   refine Qg (hg _ _ s6 _ H6 x u _ I6' r6 (step x H6 y6)) λ_ s7 ⟨σ7,H7,I7,q7⟩=>?_
   refine Qg (hf _ _ s7 σ7 H7 _ I7 q7) λok s8 ⟨H8,I8,q8⟩=>?_
   cases ok with
   | false =>
    rw[if_neg bA] at q8 ⊢;obtain ⟨m',hm,w8⟩:=hNN H8 q8;obtain ⟨J1,J2,J3⟩:=back I8;exact ⟨m',hm,i+1,ys,σ7,H8,its,k,J1,J2,J3,rv,w8⟩
   | true =>
    rw[if_pos rfl] at q8 ⊢;refine Qg (he _ _ s8 σ7 H8 _ I8 q8) λz s9 ⟨y,H9,I9,r9,q9⟩=>?_
    obtain ⟨J1,J2,J3⟩:=back I9;obtain ⟨m',hm,w9⟩:=hNY y H9 q9;have pD:=J1.pin (s2.heap.objs.size,lobj its k) (by simp);have hl:=rv.length;refine call_meets F.slot_list_append ⟨_,pD.1,rfl⟩ F.entry_list_append (F.args_list_append_2 _ _) (PySem.list_append s2.heap.objs.size its.toArray k z (by rw[aY];lia)) ⟨pD.1,?_⟩;have e9:=kI pD.1 (λa=>a.push z);have e9':(its.toArray.push z)=(its++[z]).toArray:=by simp
    rw[e9'] at e9;obtain ⟨n',e9⟩:∃n',(s9.heap.update s2.heap.objs.size (Obj.mapSeq λa=>a.push z)).get? s2.heap.objs.size=some (lobj (its++[z]) n'):=⟨_,e9⟩
    have J4:Inv (zF X own capN scope ⟨s2,H2,fp,s2.heap.objs.size+1⟩) [] σ7 H9 { s9 with heap:=s9.heap.update s2.heap.objs.size (Obj.mapSeq λa=>a.push z),toks:=s9.toks } :=
     (J1.pins_of (pins':=[]) λp hp=>nomatch hp).turned (λb o hb e=>(Heap.get?_update_other s9.heap _ (Ne.symm hb)).trans e) pD.2.1 pD.2.2.1 (.inr (ak _)) (λx c hx z=>by
      rcases jg (Z:=⟨s2,H2,fp,s2.heap.objs.size+1⟩) B I2 hx with ⟨_,m⟩ | ⟨_,_,m⟩
      ·have:=(hcl.empty _ _ m).2;have z':@Eq Nat c s2.heap.objs.size:=z
       lia
      ·have:=Fu (Z:=⟨s2,H2,fp,s2.heap.objs.size+1⟩) I2 m;rw[z] at this;exact eK _ this) λp hp=>by simp [zF] at hp
    have nfp:∀b∈fp,b≠s2.heap.objs.size:=λb hb z=>by have:=(hfp b hb).2;rw[z] at this;exact eK _ this
    refine ⟨m',hm,i+1,ys++[y],σ7,H9,its++[z],n',J4.pins_of λp hp=>?_,T.keep _ _ _ J2 λb hb o e=>(Heap.get?_update_other s9.heap _ (Ne.symm (nfp b hb))).trans e,J3,rv.append (.cons r9 .nil),w9⟩;have ep:p=(s2.heap.objs.size,lobj (its++[z]) n'):=by simpa using hp
    rw[ep];exact ⟨e9,pD.2.1,pD.2.2.1,pD.2.2.2.1,λv z=>nomatch z⟩
 exact codeAny_compStart_list loop (T.self _ _ _ _ _ st3 loop)
theorem cm (own capN:List Str) (cap:List Nat) (hi:PI X tg iter wi) (hg:∀Z,PG (zF X own capN scope Z) tg g) (hf:∀Z,PF (zF X own capN scope Z) ifs tf) (he:∀Z,PE (zF X own capN scope Z) elt te)
  (h1:TQ scope own capN=true:=by decide +kernel) (h2:DM X.env capN=true:=by rfl) (hcap:zj X capN cap:=by rfl) (hc:X.calm=true:=by rfl) (hs:∀x,foldedSetIterable iter X.env x=pure x:=by intro _;rfl) :
  PE X (.ListComp elt [⟨tg,iter,ifs,0⟩] scope pos) (FQ wi own.length cap g tf te):=by
 sleep 4;rw[eval_ListComp];refine DK (use:=none) hc (Bk.of h1 h2) hcap hi hg hf he hs I h λD C s' H' I' fC hm q=>?_
 obtain ⟨m,hm⟩:=hm;refine ⟨m,hm,λh' hs'=>?_⟩;obtain ⟨f0,f1,f2,f3,f4,f5⟩:=fC;exact ⟨.ref D,H',I'.turned (t':=s'.toks) (λb o hb e=>(hs'.2 b hb).trans e) f0 f1 f3 f4 f5,rfl,q⟩
theorem kB (i:Nat) (own capN:List Str) (cap:List Nat) {x:Str} {pos' spos:Pos} (hN:X.N.Nodup) (hi':X.N[i]?=some x) (hx:X.env.scope.names.lookup x=some .local) (hi:PI X tg iter wi) (hg:∀Z,PG (zF X own capN scope Z) tg g) (hf:∀Z,PF (zF X own capN scope Z) ifs tf) (he:∀Z,PE (zF X own capN scope Z) elt te)
  (h1:TQ scope own capN=true:=by decide +kernel) (h2:DM X.env capN=true:=by rfl) (hcap:zj X capN cap:=by rfl) (hc:X.calm=true:=by rfl) (hs:∀x,foldedSetIterable iter X.env x=pure x:=by intro _;rfl)
  (hsw:swapsWith (.ListComp elt [⟨tg,iter,ifs,0⟩] scope pos) (some (.Name x pos')) spos.line X.env=pure true:=by rfl) :
  PS X (.Assign [.Name x pos'] (.ListComp elt [⟨tg,iter,ifs,0⟩] scope pos) spos) (NP (FQ wi own.length cap g tf te) (Ka i)):=by
 sleep 8;rw[exec_Assign_Name_used _ _ _ _ hsw];refine wpAny_bind (wpAny_standAt (wpAny_bind ?_));rw[arm_evalThenUse_ListComp];refine wpAny_bind (DK (Q:=λv H1=>D.nx (σ.set i (some v)) H1) (use:=some _) hc (Bk.of h1 h2) hcap hi hg hf he hs I h λL C s' H' I' fC hm q=>?_);obtain ⟨m,hm⟩:=hm;obtain ⟨f0,f1,f2,f3,f4,f5⟩:=fC;refine wpAny_assign_Name (Cy I' hN hi' (.inl hx) (v:=.ref L) rfl (λs'' I'' ⟨a,sb,ha⟩=>?_) (.inr hx))
 have hCa:C≠a:=by
  rcases ha with e | e
  ·rw[e];exact f1
  ·exact (f4 x a e).symm
 refine ⟨m,hm.at' λo e=>(sb.2 C hCa).trans e,λh' hs'=>?_⟩;have I3:=I''.turned (h':=h') (t':=s''.toks) (λb o hb e=>(hs'.2 b hb).trans e) f0 f1 f3 f4 f5;exact wpAny_pure (wpAny_pure ⟨_,H',I3,q⟩)
end
section
variable {K:FG9} {a:Addr} {xs:List V} {g:TG} {tf:TT} {te:TE} {Q:VK} {σ₀:St} {H:Hp}
theorem fu (Pv:Nat->List V->Hp->Prop) (hz:xs.length<=sizeLine) (h0:Pv 0 [] H) (hl:∀i ys H,i<=xs.length->Pv i ys H->bR K H a xs)
  (hs:∀i x ys H,xs[i]?=some x->ys.length<=i->Pv i ys H->rk σ₀ g tf te x H (λy H'=>Pv (i+1) (ys++[y]) H') (λH'=>Pv (i+1) ys H'))
  (hd:∀ys H,ys.length<=xs.length->Pv xs.length ys H->∀p,H p=none->Q (.ref p) (upd H p (.lst ys))):tu (O9 K a) σ₀ g tf te Q H:=by
 refine ⟨λi m ys H=>m=xs.length - i/\i<=xs.length/\ys.length<=i/\Pv i ys H,⟨xs.length,by simp,bu _,bu _,h0⟩,?_⟩;rintro i m ys H ⟨rfl,hi,hy,p⟩;have q:=hl i ys H hi p;by_cases hlt:i < xs.length
 ·refine .inr ⟨⟨xs,xs[i],q,by simp [hlt]⟩,by lia,λy H'=>Pv (i+1) (ys++[y]) H',λH'=>Pv (i+1) ys H',λy H' p'=>⟨xs.length - (i+1),by lia,rfl,hlt,by rw[au,bf];lia,p'⟩,λH' p'=>⟨xs.length - (i+1),by lia,rfl,hlt,by lia,p'⟩,λx H' y=>?_⟩;obtain ⟨e,y⟩:=y;subst e;exact hs i x ys _ (y xs q) hy p
 ·have e:i=xs.length:=by lia
  subst e;exact .inl ⟨⟨xs,q,ak _⟩,by lia,hd ys H hy p⟩
theorem qE {lo:Int} {n:Nat} (Pv:Nat->List V->Hp->Prop) (hz:n<=sizeLine) (h0:Pv 0 [] H)
  (hs:∀i ys H,i < n->ys.length<=i->Pv i ys H->rk σ₀ g tf te (.int (lo+i)) H (λy H'=>Pv (i+1) (ys++[y]) H') (λH'=>Pv (i+1) ys H'))
  (hd:∀ys H,ys.length<=n->Pv n ys H->∀p,H p=none->Q (.ref p) (upd H p (.lst ys))):tu (Ik lo n) σ₀ g tf te Q H:=by
 refine ⟨λi m ys H=>m=n - i/\i<=n/\ys.length<=i/\Pv i ys H,⟨n,by simp,bu _,bu _,h0⟩,?_⟩;rintro i m ys H ⟨rfl,hi,hy,p⟩;by_cases hlt:i < n
 ·refine .inr ⟨hlt,by lia,λy H'=>Pv (i+1) (ys++[y]) H',λH'=>Pv (i+1) ys H',λy H' p'=>⟨n - (i+1),by lia,rfl,hlt,by rw[au,bf];lia,p'⟩,λH' p'=>⟨n - (i+1),by lia,rfl,hlt,by lia,p'⟩,λx H' y=>?_⟩;obtain ⟨e,y⟩:=y;subst e y;exact hs i ys _ hlt hy p
 ·have e:i=n:=by lia
  subst e;exact .inl ⟨ak _,by lia,hd ys H hy p⟩
end
open Nm
def iI (i j:Int):Prop:=RL i j\/∃m n,Sz m i/\Sz n j/\m+n<=1000000
def oS (i j:Int):Prop:=j≠0/\Sz 8999 j
theorem By {k:Nat} {i:Int} (h:Sz k i):Builtin.Int.intBits i<=k:=by
 unfold Builtin.Int.intBits;by_cases e:i=0
 ·subst e;simp
 ·have e':(i == 0)=false:=by simpa using e
  rw[e'];have hn:i.natAbs≠0:=by lia
  have:=(Nat.log2_lt hn).mpr h;simp only[iY,if_false]
  lia
theorem iI.ok {i j:Int} (h:iI i j):IntMulOk i j:=by
 rcases h with h | ⟨m,n,h1,h2,h3⟩
 ·exact h.ok
 ·have e:(2:Nat)^20=1048576:=by decide
  exact .of_bits (by have:=By h1;lia) (by have:=By h2;lia)
section
variable {X:Cx} {a b:Expr} {ta tb:TE} {pos:Pos}
theorem dw:xn X (binaryOp .Mult) (rI iI λi j=>.int (i*j)):=TM λ_ _ _ _ _ _ _ hc q=>mul_int q hc.ok
theorem iO:xn X (binaryOp .FloorDiv) (rI oS λi j=>.int (i.fdiv j)):=TM λi j _ _ _ _ _ hc q=>by
 refine floordiv_int hc.1 q (.inl (PyProof.noPylong_of_log2 ?_));have hn:j.natAbs≠0:=by have:=hc.1;lia
 have:=(Nat.log2_lt hn).mpr hc.2
 lia
def Sb (t u:TS):TS:=λD σ H=>∃N:St->Hp->Prop,t { D with nx:=N } σ H/\∀σ' H',N σ' H'->u D σ' H'
theorem jd {st:Stmt} {rest:List Stmt} {t u:TS} (h1:PS X st t) (h2:Jw X rest u):Jw X (st :: rest) (Sb t u):=by
 sleep 8;obtain ⟨N,h,k⟩:=h;refine wpAny_execs_cons (gU (h1 pins s σ H { D with nx:=N } I h) λf s1 q=>?_);cases f with
 | next =>
  obtain ⟨σ',H',I',q⟩:=q;exact h2 pins s1 σ' H' D I' (k _ _ q)
 | ret v=>exact q
 | brk=>exact q
 | cont=>exact q
def Pq (K:FG9):V->V->Hp->VK->Prop:=λo i H Q=>∃p xs k v,o=.ref p/\i=.int k/\bR K H p xs/\Ij xs k=some v/\Q v H
theorem MR:Tr X (Pq X.K):=by
 intro pins s σ H o i ov iv Q I ro ri h;obtain ⟨p,xs,k,z,rfl,rfl,hq,he,q⟩:=h;cases ro;obtain ⟨t,rfl⟩:=ri;obtain ⟨its,r,pl,hz⟩:=I.list hq;obtain ⟨j,h1,h2,h3,h4,h5⟩:=Fv he;obtain ⟨w,ew,rw'⟩:=r.get h2;have hl:=r.length;have hn:=AZ;have fin:EP X pins σ Q w s:=⟨z,H,I,rw',q⟩;by_cases h0:0<=k
 ·have hj:k.toNat=j:=by
   rw[seqIndex_of h0 h5] at h1;exact cb h1
  exact wpAny_getItem_list pl.isList h0 (by lia) (by rw[hj];simpa using ew) fin
 ·have hj:(k+(its.toArray.size:Int)).toNat=j:=by
   rw[seqIndex_neg (by lia) h4] at h1;rw[aY,<- hl];exact cb h1
  exact wpAny_getItem_list_neg pl.isList (by lia) (by rw[aY] <;> lia) (by lia) (by rw[hj];simpa using ew) fin
def KY (K:FG9) (T:String):V->Hp->VK->Prop:=λx H Q=>∃t b,yk K H x t/\PySem.W.kitOne K t (.type T)=some b/\Q (.bl b) H
theorem xV {c:Str} {T:String} {p p2:Pos} (hg:Gl X "isinstance") (hm:X.mg "isinstance"=none) (hb:bootBuiltins c=some (.type T)) (hmc:X.mg c=none) (ha:PE X a ta) (hgc:Gl X c:=by rfl) (hn:c≠"__name__":=by decide)
  (hd:(c == ("__debug__":Str))=false:=by decide) (he:starEach [a,.Name c p2] X.env=[(false,eval a X.env),(false,eval (.Name c p2) X.env)]:=by rfl)
  (hpl:(backTo pos (starEach [.Name c p2] X.env)).any (·.1)=false:=by rfl) (he2:starEach [.Name c p2] X.env=[(false,eval (.Name c p2) X.env)]:=by rfl):PE X (.Call (.Name "isinstance" p) [a,.Name c p2] [] pos) (TL (KY X.K T) ta):=by
 sleep 4;refine wpAny_Call_Name_kw (kh I hg hm PyProof.Rows.boot_isinstance ?_);have hA:PA X [a,.Name c p2] (rn ta (rn (tC (.ty T)) KG)):=ae ha (ae (JR hgc hmc hb rfl hn hd) ag he2) (by rw[he,he2])
 have hq:rn ta (rn (tC (.ty T)) KG) σ H (λvs H1=>∃x,vs=[x,.ty T]/\KY X.K T x H1 Q):=by
  show ta σ H λx H1=>∃x',[x,V.ty T]=[x',V.ty T]/\KY X.K T x' H1 Q
  have e:(λx H1=>∃x',[x,V.ty T]=[x',V.ty T]/\KY X.K T x' H1 Q)=λx H1=>KY X.K T x H1 Q:=by
   funext x H1;apply propext;constructor
   ·rintro ⟨x',e,q⟩;cases e;exact q
   ·intro q;exact ⟨x,rfl,q⟩
  rw[e];exact h
 refine PyProof.Rows.callWith_builtin1 (gU (hA pos pins s σ H _ I hq) λus s1 ⟨vs,H1,I1,r1,x,e,q1⟩=>?_) (by rw[he,he2]) hpl;subst e;obtain ⟨u,w',rfl,ru,rt⟩:=vals2 r1;cases rt;obtain ⟨t,bb,ty,ek,q⟩:=q1;exact Ds I1 ru ty ek λtk=>⟨.bl bb,H1,I1.tok tk,rfl,q⟩
end
structure Kind (α:Type) [DecidableEq α] where
 R:FG9->Hp->V->α->Prop
 d:Nat
 inj:∀{X:Cx} {pins:List (Addr×Obj)} {σ:St} {H:Hp} {s:Shared} {x:V} {a b:α},Inv X pins σ H s->R X.K H x a->R X.K H x b->a=b
 rc:∀{X:Cx} {pins:List (Addr×Obj)} {σ:St} {H:Hp} {s:Shared} {x y:V} {v u:Value} {a b:α} {A:Around},Inv X pins σ H s->RelV x v->RelV y u->R X.K H x a->R X.K H y b->A.units+d < cLine->SeqAt.RcAt A s v u (decide (a=b))
 ne:∀{X:Cx} {pins:List (Addr×Obj)} {σ:St} {H:Hp} {s:Shared} {x y:V} {v u:Value} {a b:α} {A:Around},Inv X pins σ H s->RelV x v->RelV y u->R X.K H x a->R X.K H y b->A.units+d < cLine->SeqAt.RcNeAt A s v u (!decide (a=b))
 eq:∀{X:Cx} {pins:List (Addr×Obj)} {σ:St} {H:Hp} {s:Shared} {x y:V} {v u:Value} {a b:α} {A:Around},Inv X pins σ H s->RelV x v->RelV y u->R X.K H x a->R X.K H y b->A.units+d < cLine->SeqAt.EqAt A s v u (decide (a=b))
def Ue:Kind Int where
 R:=λ_ _ x i=>x=.int i
 d:=0
 inj:=λ_ h1 h2=>by rw[h1] at h2;cases h2;rfl
 rc:=λ{X pins σ H s x y v u a b A} I rx ry h1 h2 _=>by
  subst h1 h2;sleep 10;obtain ⟨t',rfl⟩:=ry;have q:=SeqAt.RcAt.int_int (A:=A) (s:=s) a t b t';rwa [BR] at q
 ne:=λ{X pins σ H s x y v u a b A} I rx ry h1 h2 _=>by
  subst h1 h2;sleep 10;obtain ⟨t',rfl⟩:=ry;have q:=SeqAt.RcNeAt.int_int (A:=A) (s:=s) a t b t';rwa [BR] at q
 eq:=λ{X pins σ H s x y v u a b A} I rx ry h1 h2 _=>by
  subst h1 h2;sleep 10;obtain ⟨t',rfl⟩:=ry;have q:=SeqAt.EqAt.int_int (A:=A) (s:=s) a t b t';rwa [BR] at q
theorem kb {α β:Type} {F:α->β->Prop}:∀{l1:List α} {l2:List β} {i:Nat} (_:Paired F l1 l2) (h1:i < l1.length) (h2:i < l2.length),F l1[i] l2[i]
 | _,_,_,.nil,h1,_=>absurd h1 (d7 _)
 | _,_,0,.cons r _,_,_=>r
 | _,_,i+1,.cons _ t,h1,h2=>kb (i:=i) t (Nat.lt_of_succ_lt_succ h1) (Nat.lt_of_succ_lt_succ h2)
theorem mi {α β:Type} {F:α->β->Prop} (hF:∀a b x,F a x->F b x->a=b):∀{l1 l2:List α} {l:List β},Paired F l1 l->Paired F l2 l->l1=l2
 | _,_,_,.nil,.nil=>rfl
 | _,_,_,.cons r t,.cons r' t'=>by rw[hF _ _ _ r r',mi hF t t']
theorem vX {α:Type} [DecidableEq α] (as bs:List α) (h:as.length=bs.length):(List.range as.length).all (λj=>decide (as[j]?=bs[j]?))=decide (as=bs):=by
 rw[lU,oW,decide_eq_true_iff];constructor
 ·intro q;apply ib;intro i;by_cases hi:i < as.length
  ·exact of_decide_eq_true (q i (jX.mpr hi))
  ·rw[aV (by lia),aV (by lia)]
 ·rintro rfl i _;simp
section
variable {α:Type} [DecidableEq α] (k:Kind α)
theorem Kind.items {X:Cx} {pins:List (Addr×Obj)} {σ:St} {H:Hp} {s:Shared} {A:Around} (I:Inv X pins σ H s) (hA:A.units+k.d < cLine) {xs ys:List V} {us ws:List Value} {as bs:List α}
  (rx:cZ xs us) (ry:cZ ys ws) (ha:Paired (λa x=>k.R X.K H x a) as xs) (hb:Paired (λa x=>k.R X.K H x a) bs ys) :
  ∀j (h1:j < us.toArray.size) (h2:j < ws.toArray.size),SeqAt.EqAt A s us.toArray[j] ws.toArray[j] (decide (as[j]?=bs[j]?)):=λj h1 h2=>by
 have l1:j < us.length:=by simpa using h1
 have l2:j < ws.length:=by simpa using h2
 have e1:=rx.length;have e2:=ry.length;have e3:=ha.length;have e4:=hb.length;obtain ⟨u,hu,ru⟩:=rx.get (i:=j) (x:=xs[j]'(by lia)) (by simp);obtain ⟨w,hw,rw'⟩:=ry.get (i:=j) (x:=ys[j]'(by lia)) (by simp);have q:=k.eq (A:=A) I ru rw' (kb ha (by lia) (by lia)) (kb hb (by lia) (by lia)) hA
 have eu:us.toArray[j]=u:=by
  have:=hu;rw[af l1] at this;simpa using this
 have ew:ws.toArray[j]=w:=by
  have:=hw;rw[af l2] at this;simpa using this
 rw[eu,ew,af (show j < as.length by lia),af (show j < bs.length by lia)];have e5:decide (some as[j]=some bs[j])=decide (as[j]=bs[j]):=by simp
 rw[e5];exact q
theorem Ej {α:Type} [DecidableEq α] (as bs:List α) {n m:Nat} (h1:as.length=n) (h2:bs.length=m):((List.range (min n m)).all (λj=>decide (as[j]?=bs[j]?)) && n == m)=decide (as=bs):=by
 subst h1 h2;by_cases e:as.length=bs.length
 ·rw[show min as.length bs.length=as.length by lia,vX as bs e];simp [e]
 ·have h1:(as.length == bs.length)=false:=by simpa using e
  rw[h1,Bool.and_false];exact (decide_eq_false λz=>e (by rw[z])).symm
def Ud:Kind (List α) where
 R:=λK H x as=>∃p xs,x=.ref p/\qJ K H p xs/\Paired (λa x=>k.R K H x a) as xs
 d:=k.d+1
 inj:=λ{X pins σ H s x a b} I h1 h2=>by
  obtain ⟨p,xs,rfl,hp,pa⟩:=h1;obtain ⟨q,ys,e,hq,pb⟩:=h2;cases e;have e:=I.tuple_inj hp hq;subst e;exact mi (F:=λa x=>k.R X.K H x a) (λa b x=>k.inj I) pa pb
 rc:=λ{X pins σ H s x y v u a b A} I rx ry h1 h2 hA=>by
  obtain ⟨p,xs,rfl,hp,pa⟩:=h1;obtain ⟨q,ys,rfl,hq,pb⟩:=h2;cases rx;cases ry;obtain ⟨us,r1,t1,_⟩:=I.tuple hp;obtain ⟨ws,r2,t2,_⟩:=I.tuple hq;have z:=SeqAt.RcAt.tuples (A:=A) (e:=λj=>decide (a[j]?=b[j]?)) (show s.heap.IsTuple p us.toArray from t1) (show s.heap.IsTuple q ws.toArray from t2) (by lia) (k.items (A:=A.in1) I (by show A.units+1+k.d < cLine;lia) r1 r2 pa pb);rwa [Ej a b (by rw[pa.length,r1.length];simp) (by rw[pb.length,r2.length];simp)] at z
 ne:=λ{X pins σ H s x y v u a b A} I rx ry h1 h2 hA=>by
  obtain ⟨p,xs,rfl,hp,pa⟩:=h1;obtain ⟨q,ys,rfl,hq,pb⟩:=h2;cases rx;cases ry;obtain ⟨us,r1,t1,_⟩:=I.tuple hp;obtain ⟨ws,r2,t2,_⟩:=I.tuple hq;have z:=SeqAt.RcNeAt.tuples (A:=A) (e:=λj=>decide (a[j]?=b[j]?)) (show s.heap.IsTuple p us.toArray from t1) (show s.heap.IsTuple q ws.toArray from t2) (by lia) (k.items (A:=A.in1) I (by show A.units+1+k.d < cLine;lia) r1 r2 pa pb);rwa [Ej a b (by rw[pa.length,r1.length];simp) (by rw[pb.length,r2.length];simp)] at z
 eq:=λ{X pins σ H s x y v u a b A} I rx ry h1 h2 hA=>by
  obtain ⟨p,xs,rfl,hp,pa⟩:=h1;obtain ⟨q,ys,rfl,hq,pb⟩:=h2;cases rx;cases ry;by_cases e:p=q
  ·subst e;have e:=I.tuple_inj hp hq;subst e;rw[mi (F:=λa x=>k.R X.K H x a) (λa b x=>k.inj I) pa pb,decide_eq_true rfl];exact SeqAt.EqAt.same _
  ·obtain ⟨us,r1,t1,_⟩:=I.tuple hp;obtain ⟨ws,r2,t2,_⟩:=I.tuple hq;have z:=SeqAt.RcAt.tuples (A:=A) (e:=λj=>decide (a[j]?=b[j]?)) (show s.heap.IsTuple p us.toArray from t1) (show s.heap.IsTuple q ws.toArray from t2) (by lia) (k.items (A:=A.in1) I (by show A.units+1+k.d < cLine;lia) r1 r2 pa pb);rw[Ej a b (by rw[pa.length,r1.length];simp) (by rw[pb.length,r2.length];simp)] at z;exact .of_refs e z
theorem Je {X:Cx} {pins:List (Addr×Obj)} {σ:St} {H:Hp} {s:Shared} {p q:Addr} {xs ys:List V} {a b:List α} {A:Around} (I:Inv X pins σ H s) (hp:bR X.K H p xs) (hq:bR X.K H q ys)
  (pa:Paired (λa x=>k.R X.K H x a) a xs) (pb:Paired (λa x=>k.R X.K H x a) b ys) (hA:A.units+(k.d+1) < cLine) :
  SeqAt.RcAt A s (.ref p) (.ref q) (decide (a=b))/\SeqAt.RcNeAt A s (.ref p) (.ref q) (!decide (a=b)):=by
 obtain ⟨us,r1,t1,_⟩:=I.list hp;obtain ⟨ws,r2,t2,_⟩:=I.list hq;have l1:=r1.length;have l2:=r2.length;have l3:=pa.length;have l4:=pb.length;by_cases e:us.length=ws.length
 ·have it:=k.items (A:=A.in1) I (by show A.units+1+k.d < cLine;lia) r1 r2 pa pb;have z:=SeqAt.RcAt.lists (A:=A) (e:=λj=>decide (a[j]?=b[j]?)) t1.isList t2.isList (by simpa using e) (by lia) it;have z2:=SeqAt.RcNeAt.lists (A:=A) (e:=λj=>decide (a[j]?=b[j]?)) t1.isList t2.isList (by simpa using e) (by lia) it;have e1:us.toArray.size=a.length:=by rw[aY];lia
  rw[e1,vX a b (by lia)] at z z2;exact ⟨z,z2⟩
 ·have hne:¬a=b:=λz=>e (by have:=congrArg List.length z;lia)
  rw[decide_eq_false hne];exact ⟨SeqAt.RcAt.lists_lengths t1.isList t2.isList (by simpa using e) (by lia),SeqAt.RcNeAt.lists_lengths t1.isList t2.isList (by simpa using e) (by lia)⟩
def S5:Kind (List α) where
 R:=λK H x as=>∃p xs,x=.ref p/\bR K H p xs/\Paired (λa x=>k.R K H x a) as xs
 d:=k.d+1
 inj:=λ{X pins σ H s x a b} I h1 h2=>by
  obtain ⟨p,xs,rfl,hp,pa⟩:=h1;obtain ⟨q,ys,e,hq,pb⟩:=h2;cases e;have e:=I.list_inj hp hq;subst e;exact mi (F:=λa x=>k.R X.K H x a) (λa b x=>k.inj I) pa pb
 rc:=λ{X pins σ H s x y v u a b A} I rx ry h1 h2 hA=>by
  obtain ⟨p,xs,rfl,hp,pa⟩:=h1;obtain ⟨q,ys,rfl,hq,pb⟩:=h2;cases rx;cases ry;exact (Je k I hp hq pa pb hA).1
 ne:=λ{X pins σ H s x y v u a b A} I rx ry h1 h2 hA=>by
  obtain ⟨p,xs,rfl,hp,pa⟩:=h1;obtain ⟨q,ys,rfl,hq,pb⟩:=h2;cases rx;cases ry;exact (Je k I hp hq pa pb hA).2
 eq:=λ{X pins σ H s x y v u a b A} I rx ry h1 h2 hA=>by
  obtain ⟨p,xs,rfl,hp,pa⟩:=h1;obtain ⟨q,ys,rfl,hq,pb⟩:=h2;cases rx;cases ry;by_cases e:p=q
  ·subst e;have e:=I.list_inj hp hq;subst e;rw[mi (F:=λa x=>k.R X.K H x a) (λa b x=>k.inj I) pa pb,decide_eq_true rfl];exact SeqAt.EqAt.same _
  ·exact .of_refs e (Je k I hp hq pa pb hA).1
def Kind.via {β:Type} [DecidableEq β] (f:β->α) (fi:∀a b,f a=f b->a=b) (R':FG9->Hp->V->β->Prop) (im:∀{K H x b},R' K H x b->k.R K H x (f b)):Kind β where
 R:=R'
 d:=k.d
 inj:=λI h1 h2=>fi _ _ (k.inj I (im h1) (im h2))
 rc:=λ{X pins σ H s x y v u a b A} I rx ry h1 h2 hA=>by
  have z:=k.rc (A:=A) I rx ry (im h1) (im h2) hA;rwa [decide_eq_decide.mpr (show f a=f b↔a=b from ⟨fi a b,λe=>by rw[e]⟩)] at z
 ne:=λ{X pins σ H s x y v u a b A} I rx ry h1 h2 hA=>by
  have z:=k.ne (A:=A) I rx ry (im h1) (im h2) hA;rwa [decide_eq_decide.mpr (show f a=f b↔a=b from ⟨fi a b,λe=>by rw[e]⟩)] at z
 eq:=λ{X pins σ H s x y v u a b A} I rx ry h1 h2 hA=>by
  have z:=k.eq (A:=A) I rx ry (im h1) (im h2) hA;rwa [decide_eq_decide.mpr (show f a=f b↔a=b from ⟨fi a b,λe=>by rw[e]⟩)] at z
end
def Ic (K:FG9) (H:Hp) (x:V) (n:Int×Int):Prop:=∃p,x=.ref p/\qJ K H p [.int n.1,.int n.2]
def S4:Kind (Int×Int):=(Ud Ue).via (λn=>[n.1,n.2]) (λa b e=>by cases a;cases b;simp at e;rw[e.1,e.2]) Ic λ⟨p,e,h⟩=>⟨p,_,e,h,.cons rfl (.cons rfl .nil)⟩
def Ua (K:FG9):R2:=λx y H Q=>∃(α:Type) (_:DecidableEq α) (k:Kind α) (a b:α),k.d<=50/\k.R K H x a/\k.R K H y b/\Q (.bl (decide (a=b))) H
def SQ (K:FG9):R2:=λx y H Q=>∃(α:Type) (_:DecidableEq α) (k:Kind α) (a b:α),k.d<=50/\k.R K H x a/\k.R K H y b/\Q (.bl (!decide (a=b))) H
theorem xW {X:Cx} (hu:X.A.units+50 < cLine):xn X (compareOp .Eq) (Ua X.K):=by
 sleep 6;obtain ⟨α,_,k,a,b,hd,ha,hb,q⟩:=h;exact k.rc (A:=X.A) I rx ry ha hb (by lia) _ _ _ _ ⟨.bl (decide (a=b)),H,I,rfl,q⟩
theorem IS {X:Cx} (hu:X.A.units+50 < cLine):xn X (compareOp .NotEq) (SQ X.K):=by
 sleep 6;obtain ⟨α,_,k,a,b,hd,ha,hb,q⟩:=h;exact k.ne (A:=X.A) I rx ry ha hb (by lia) _ _ _ _ ⟨.bl (!decide (a=b)),H,I,rfl,q⟩
theorem Cq {A:Around} {k:Nat} (hr:lB k A):A.units+50 < cLine:=by have:=hr.units;lia
def Inner (H:Hp) (p q:Addr):Prop:=∃a b c:Int,H p=some (.lst [.int a,.int b,.int c,.ref q])
def c7 (p:Addr) (H H':Hp):Prop:=(∀b o,H b=some o->b≠p->H' b=some o)/\∀q,Inner H p q->Inner H' p q
theorem c7.refl {p:Addr} (H:Hp):c7 p H H:=⟨λ_ _ h _=>h,λ_ h=>h⟩
theorem c7.trans {p:Addr} {H H1 H2:Hp} (a:c7 p H H1) (b:c7 p H1 H2):c7 p H H2:=⟨λc o h n=>b.1 c o (a.1 c o h n) n,λq h=>b.2 q (a.2 q h)⟩
theorem Inner.inj {H:Hp} {p q q':Addr} (h:Inner H p q) (h':Inner H p q'):q=q':=by
 obtain ⟨a,b,c,e⟩:=h;obtain ⟨a',b',c',e'⟩:=h';rw[e] at e';have:=HO.lst.inj (cb e');simp at this;exact this.2.2.2
theorem c7.set {p q:Addr} {H:Hp} {a b c a' b' c':Int} (h:H p=some (.lst [.int a,.int b,.int c,.ref q])):c7 p H (upd H p (.lst [.int a',.int b',.int c',.ref q])) :=
 ⟨λb u h n=>by rw[bM n];exact h,λq' h'=>by
  rw[(Inner.inj ⟨a,b,c,h⟩ h').symm];exact ⟨a',b',c',aO⟩⟩
theorem aL.upto {p:Addr} {H H':Hp} (h:aL H H'):c7 p H H':=⟨λb o e _=>h b o e,λq ⟨a,b,c,e⟩=>⟨a,b,c,h _ _ e⟩⟩
theorem aL.new {H:Hp} {p:Addr} {o:HO} (h:H p=Option.none):aL H (upd H p o):=λb u e=>by rw[bM (fQ e h)];exact e
theorem aL.sqt {K:FG9} {H H':Hp} {a:Addr} {xs:List V} (e:aL H H') (h:qJ K H a xs):qJ K H' a xs:=by
 rcases h with (h | ⟨o,h⟩) | h
 ·exact .inl (.inl (e _ _ h))
 ·exact .inl (.inr ⟨o,e _ _ h⟩)
 ·exact .inr h
theorem aL.num {K:FG9} {H H':Hp} {x:V} {n:Int×Int} (e:aL H H') (h:Ic K H x n):Ic K H' x n:=by obtain ⟨p,q,r⟩:=h;exact ⟨p,q,e.sqt r⟩
section
variable {σ:St} {H:Hp} {D:Ends}
theorem aS {t:TS} {σ0 σ:St} {D:Ends} {H:Hp} (e:σ0=σ) (h:t D σ H):t D σ0 H:=by rw[e];exact h
theorem Qw {t u:TS} (h:t { D with nx:=u D } σ H):Sd t u D σ H:=h
theorem Oi (h:D.nx σ H):Pf D σ H:=h
theorem QP {te:TE} {g:TG} (h:te σ H λx H1=>g x σ H1 D.nx):NP te g D σ H:=h
theorem Mh {i:Nat} {v:V} {Q:St->Hp->Prop} (h:Q (σ.set i (some v)) H):Ka i v σ H Q:=h
theorem Qx {te:TE} (h:te σ H D.rt):Se te D σ H:=h
theorem QI {c:TT} {t u:TS} (h:c σ H λb H1=>if b=true then t D σ H1 else u D σ H1):Sj c t u D σ H:=h
theorem Ow {te:TE} (h:te σ H λ_ H1=>D.nx σ H1):Pj te D σ H:=h
theorem Qy {i j:Nat} {ta:TA} (h:ta σ H λvs H1=>∃v w,vs=[v,w]/\D.nx ((σ.set i (some v)).set j (some w)) H1):Sf i j ta D σ H:=h
theorem OA {to ti te:TE} {tget:V->V->Hp->VK->Prop} {tip:To} {tset:Jt}
  (h:to σ H λo H1=>ti σ H1 λi H2=>tget o i H2 λx H3=>te σ H3 λy H4=>tip x y H4 λz H5=>tset o i z H5 λH6=>D.nx σ H6):Pk to ti te tget tip tset D σ H:=h
theorem QG {f:Int->Int->Int} {i j:Int} {Q:VK} (h:Q (.int (f i j)) H):ipI f (.int i) (.int j) H Q:=⟨i,j,rfl,rfl,h⟩
theorem QK {wi:TI} {g:TG} {tb:TS} (h:wi σ H λJ H1=>∃W:Nat->Nat->St->Hp->Prop,(∃m,W 0 m σ H1)/\∀i m σ H,W i m σ H →
  (J.stop i H/\D.nx σ H)\/(J.go i H/\∃N:St->Hp->Prop,(∀σ' H',N σ' H'->∃m',m' < m/\W (i+1) m' σ' H')/\∀x H',J.yld i H x H'->g x σ H' λσ2 H2=>tb { D with nx:=N,ct:=N,bk:=D.nx } σ2 H2)):Sk wi g tb D σ H:=h
variable {Q:VK} {QA:List V->Hp->Prop} {QB:Bool->Hp->Prop}
theorem Qu {i:Nat} {v:V} (e:σ[i]?=some (some v)) (h:Q v H):Qh i σ H Q:=⟨v,e,h⟩
theorem T6 {v:V} (h:Q v H):tC v σ H Q:=h
theorem SI {r:R2} {ta tb:TE} (h:ta σ H λx H1=>tb σ H1 λy H2=>r x y H2 Q):Sg r ta tb σ H Q:=h
theorem Sy {r:V->Hp->VK->Prop} {ta:TE} (h:ta σ H λx H1=>r x H1 Q):TL r ta σ H Q:=h
theorem SM {g:Int->Int->V} {i j:Int} (h:Q (g i j) H):OD g (.int i) (.int j) H Q:=⟨i,j,rfl,rfl,h⟩
theorem gP {C:Int->Int->Prop} {g:Int->Int->V} {i j:Int} (hc:C i j) (h:Q (g i j) H):rI C g (.int i) (.int j) H Q:=⟨i,j,rfl,rfl,hc,h⟩
theorem T7 {g:Int->V} {i:Int} (h:Q (g i) H):rU g (.int i) H Q:=⟨i,rfl,h⟩
theorem QN {i j:Int} (h:Q (.bl (decide (i=j))) H):Ub (.int i) (.int j) H Q:=⟨rfl,by
 have e:decide (V.int i=V.int j)=decide (i=j):=by simp
 rw[e];exact h⟩
theorem QE {i j:Int} (h:Q (.bl (!decide (i=j))) H):T8 (.int i) (.int j) H Q:=⟨rfl,by
 have e:decide (V.int i=V.int j)=decide (i=j):=by simp
 rw[e];exact h⟩
theorem QM {i j:Str} (h:Q (.bl (decide (i=j))) H):Ub (.str i) (.str j) H Q:=⟨rfl,by
 have e:decide (V.str i=V.str j)=decide (i=j):=by simp
 rw[e];exact h⟩
theorem QD {i j:Str} (h:Q (.bl (!decide (i=j))) H):T8 (.str i) (.str j) H Q:=⟨rfl,by
 have e:decide (V.str i=V.str j)=decide (i=j):=by simp
 rw[e];exact h⟩
theorem Oe {t:TE} (h:t σ H λx H'=>∃k,x=.bl k/\QB k H'):Pc t σ H QB:=h
theorem SD {t:TE} (h:t σ H λx H'=>∃k,x=.bl k/\QB k H'):tB t σ H QB:=h
theorem QQ {t u:TT} (h:t σ H λc H1=>if c=true then u σ H1 QB else QB false H1):Sl t u σ H QB:=h
theorem SG {t u:TT} (h:t σ H λc H1=>if c=true then QB true H1 else u σ H1 QB):tOr t u σ H QB:=h
theorem Qz {t:TT} (h:t σ H λc H1=>QB (!c) H1):Sh t σ H QB:=h
theorem OB {t u:TE} (h:t σ H λx H1=>∃c,x=.bl c/\if c=true then u σ H1 Q else Q (.bl false) H1):Pl t u σ H Q:=h
theorem Oh {t:TE} (h:t σ H λx H1=>∃c,x=.bl c/\Q (.bl (!c)) H1):Pe t σ H Q:=h
theorem QJ {c:TT} {ta tb:TE} (h:c σ H λb H1=>if b=true then ta σ H1 Q else tb σ H1 Q):tIf c ta tb σ H Q:=h
theorem Qt (h:QB true H):R8 σ H QB:=h
theorem QC (h:QA [] H):KG σ H QA:=h
theorem Ox {ta:TE} {tr:TA} (h:ta σ H λx H1=>tr σ H1 λxs H2=>QA (x :: xs) H2):rn ta tr σ H QA:=h
theorem Oz {sp:Sp} {E:XK} {t:TA} (h:t σ H λvs H1=>sp vs H1 Q E):LK sp [] E t σ H Q:=by
 have e:(λvs H1=>sp (vs++[]) H1 Q E)=λvs H1=>sp vs H1 Q E:=by funext vs H1;rw[lQ]
 show t σ H λvs H1=>sp (vs++[]) H1 Q E
 rw[e];exact h
theorem SJ {r:List V->Hp->VK->Prop} {t:TA} (h:t σ H λvs H1=>r vs H1 Q):T5 r t σ H Q:=h
theorem IK {K:FG9} {p:Addr} {xs:List V} {i:Int} {v:V} (hx:qJ K H p xs) (e:Ij xs i=some v) (h:Q v H):QT K (.ref p) (.int i) H Q:=⟨p,xs,i,v,rfl,rfl,hx,e,h⟩
theorem cN {K:FG9} {p:Addr} {xs:List V} {i:Int} (hx:bR K H p xs) {v:V} (e:Ij xs i=some v) (h:Q v H):QU K (.ref p) (.int i) H Q:=⟨p,xs,i,v,rfl,rfl,hx,e,h⟩
theorem Ov {K:FG9} {p:Addr} {xs:List V} {i:Int} (hx:bR K H p xs) {v:V} (e:Ij xs i=some v) (h:Q v H):Pq K (.ref p) (.int i) H Q:=⟨p,xs,i,v,rfl,rfl,hx,e,h⟩
theorem ff {QH:Hp->Prop} {p:Addr} {xs:List V} {i:Int} {v:V} {j:Nat} {ys:List V} (hx:H p=some (.lst xs)) (e:Lv xs.length i=some j) (ey:xs.set j v=ys) (h:QH (upd H p (.lst ys))):Pp (.ref p) (.int i) v H QH:=⟨p,xs,i,j,rfl,rfl,hx,e,by rw[ey];exact h⟩
theorem Ot {to ti:TE} {t:Jt} {v:V} {QS:St->Hp->Prop} (h:to σ H λo H1=>ti σ H1 λi H2=>t o i v H2 λH3=>QS σ H3):Te to ti t v σ H QS:=h
theorem Mi {t:TG} {u:NA} {v:V} {r:List V} {QS:St->Hp->Prop} (h:t v σ H λσ' H'=>u r σ' H' QS):PK t u (v :: r) σ H QS:=⟨v,r,rfl,h⟩
theorem Ou {QS:St->Hp->Prop} (h:QS σ H):Tf [] σ H QS:=⟨rfl,h⟩
theorem Oq {K:FG9} {n:Nat} {t:NA} {a:Addr} {xs:List V} {QS:St->Hp->Prop} (hx:qJ K H a xs) (hl:xs.length=n) (h:t xs σ H QS):Rj K n t (.ref a) σ H QS:=⟨a,xs,rfl,hx,hl,h⟩
theorem SE {r:V->Option Int->Option Int->Hp->VK->Prop} {te:TE} {tl th:TO} (h:te σ H λx H1=>tl σ H1 λl H2=>th σ H2 λu H3=>r x l u H3 Q):tSl r te tl th σ H Q:=h
theorem KW {QO:Option Int->Hp->Prop} (h:QO none H):JD σ H QO:=h
theorem Og {t:TE} {QO:Option Int->Hp->Prop} (h:t σ H λx H1=>∃i,x=.int i/\QO (some i) H1):Pd t σ H QO:=h
variable {R:It->Hp->Prop} {K:FG9}
theorem Mf {tl:TE} (h:tl σ H λx H1=>∃a,x=.ref a/\(∃xs,bR K H1 a xs)/\R (O9 K a) H1):MM K tl σ H R:=h
theorem Oo {tl:TE} (h:tl σ H λx H1=>∃a,x=.ref a/\(∃xs,qJ K H1 a xs)/\R (RT K a) H1):Tc K tl σ H R:=h
theorem Me {ta:TA} (h:ta σ H λvs H1=>∃j:Int,vs=[.int j]/\-(2^62)<=j/\j < 2^62/\R (Ik 0 j.toNat) H1):PD ta σ H R:=h
theorem Md {ta:TA} (h:ta σ H λvs H1=>∃i j:Int,vs=[.int i,.int j]/\(-(2^62)<=i/\i < 2^62/\-(2^62)<=j/\j < 2^62)/\R (Ik i (j - i).toNat) H1):PC ta σ H R:=h
theorem Oy {wi:TI} {k:Nat} {cap:List Nat} {g:TG} {tf:TT} {te:TE} {σ₀:St} (e:Lu k cap σ=σ₀) (h:wi σ H λJ H1=>tu J σ₀ g tf te Q H1):FQ wi k cap g tf te σ H Q:=by
 unfold FQ;rw[e];exact h
theorem Od {g:TG} {tf:TT} {te:TE} {x:V} {NY:V->Hp->Prop} {NN:Hp->Prop} (h:g x σ H λσ2 H2=>tf σ2 H2 λb H3=>if b=true then te σ2 H3 NY else NN H3):rk σ g tf te x H NY NN:=h
theorem SK {T:String} {r:V->List V->Hp->VK->Prop} {to:TE} {t:TA} (h:to σ H λx H1=>T4 K T x H1/\t σ H1 λxs H2=>r x xs H2 Q):tBM K T r to t σ H Q:=h
def Tt (Q:VK) (xs:List V) (H:Hp):Prop:=xs.length<=sizeLine/\∀p,H p=none->Q (.ref p) (upd H p (.tup xs))
def Tu (Q:VK) (xs:List V) (H:Hp):Prop:=xs.length<=sizeLine/\∀p,H p=none->Q (.ref p) (upd H p (.lst xs))
theorem Qv {t:TA} (h:t σ H (Tt Q)):Sa t σ H Q:=h
theorem QF {t:TA} (h:t σ H (Tu Q)):Si t σ H Q:=h
theorem jq {n:Nat} (h:Nat.ble n 1000=true):n<=sizeLine:=aU (bF (Nat.le_of_ble_eq_true h))
theorem b7 {xs:List V} (h:∀p H',aL H H'->H' p=some (.tup xs)->Q (.ref p) H') (hl:Nat.ble xs.length 1000=true:=by rfl):Tt Q xs H :=
 ⟨jq hl,λp hp=>h p _ (aL.new hp) aO⟩
theorem c8 {xs:List V} (h:∀p H',aL H H'->H p=none->H' p=some (.lst xs)->Q (.ref p) H') (hl:Nat.ble xs.length 1000=true:=by rfl):Tu Q xs H :=
 ⟨jq hl,λp hp=>h p _ (aL.new hp) hp aO⟩
theorem Ta {A B:Prop} (h:B):if (!true)=true then A else B:=OS h
theorem Tb {A B:Prop} (h:A):if (!false)=true then A else B:=S8 h
def WB (tb:TS) (D:Ends) (Pv:St->Hp->Prop) (μ:St->Hp->Nat) (n:Nat) (σ:St) (H:Hp):Prop:=∃N:St->Hp->Prop,(∀σ' H',N σ' H'->∃m',m' < n/\(m'=μ σ' H'/\Pv σ' H'))/\tb { D with nx:=N,ct:=N,bk:=D.nx } σ H
theorem Po {tb:TS} {Pv:St->Hp->Prop} {μ:St->Hp->Nat} {n:Nat} (h:tb { D with nx:=λσ' H'=>Pv σ' H'/\μ σ' H' < n,ct:=λσ' H'=>Pv σ' H'/\μ σ' H' < n,bk:=D.nx } σ H):WB tb D Pv μ n σ H :=
 ⟨_,λσ' H' ⟨p,l⟩=>⟨_,l,rfl,p⟩,h⟩
theorem Ei {c:TT} {tb:TS} (Pv:St->Hp->Prop) (μ:St->Hp->Nat) (h0:Pv σ H) (hs:∀σ H,Pv σ H->c σ H λb H1=>if b=true then WB tb D Pv μ (μ σ H) σ H1 else D.nx σ H1):LJ c tb D σ H:=by
 refine ⟨λm σ H=>m=μ σ H/\Pv σ H,⟨_,rfl,h0⟩,?_⟩;rintro m σ H ⟨rfl,p⟩;exact hs σ H p
end
def ic (H:Hp) (p:Addr):Prop:=∃(q:Addr) (a b c:Int) (cs:List Int),H p=some (.lst [.int a,.int b,.int c,.ref q])/\H q=some (.lst (cs.map V.int))/\0<=a/\0<=c/\c<=(cs.length:Int)/\∀x∈cs,(0:Int)<=x
theorem Lp {H:Hp} {p q:Addr} {a b c:Int} {cs:List Int} (hp:H p=some (.lst [.int a,.int b,.int c,.ref q])) (hq:H q=some (.lst (cs.map V.int))):q≠p:=λe=>by
 rw[e,hp] at hq;have h:=HO.lst.inj (cb hq);cases cs with
 | nil=>cases h
 | cons x1 cs=>cases cs with
  | nil=>cases h
  | cons x2 cs=>cases cs with
   | nil=>cases h
   | cons x3 cs=>cases cs with
    | nil=>cases h
    | cons x4 cs=>simp at h
theorem ic.same {H H':Hp} {p:Addr} (h:ic H p) (e:aL H H'):ic H' p:=by obtain ⟨q,a,b,c,cs,h1,h2,r⟩:=h;exact ⟨q,a,b,c,cs,e _ _ h1,e _ _ h2,r⟩
theorem c7.tup {H H':Hp} {p r:Addr} {xs:List V} (u:c7 p H H') (B:ic H p) (h:H r=some (.tup xs)):H' r=some (.tup xs):=by
 obtain ⟨q,a,b,c,cs,h1,_⟩:=B;exact u.1 r _ h λe=>by rw[e,h1] at h;cases h
theorem c7.other {H H':Hp} {p r:Addr} {o:HO} (u:c7 p H H') (n:r≠p) (h:H r=some o):H' r=some o:=u.1 r _ h n
theorem ic.inner {H:Hp} {p:Addr} (h:ic H p):∃q,Inner H p q/\∃xs,H q=some (.lst xs):=by obtain ⟨q,a,b,c,cs,h1,h2,_⟩:=h;exact ⟨q,⟨a,b,c,h1⟩,_,h2⟩
theorem ic.upd {H:Hp} {p q r:Addr} {o:HO} (h:ic H p) (hi:Inner H p q) (n1:r≠p) (n2:r≠q):ic (L2.upd H r o) p:=by
 obtain ⟨q',a,b,c,cs,h1,h2,z⟩:=h;have e:q'=q:=Inner.inj ⟨a,b,c,h1⟩ hi;subst e;exact ⟨q',a,b,c,cs,by rw[bM n1.symm];exact h1,by rw[bM n2.symm];exact h2,z⟩
theorem Inner.upd {H:Hp} {p q r:Addr} {o:HO} (hi:Inner H p q) (n1:r≠p):Inner (L2.upd H r o) p q:=by obtain ⟨a,b,c,h⟩:=hi;exact ⟨a,b,c,by rw[bM n1.symm];exact h⟩
def NR:Sp:=λvs H Q _=>∃p n,vs=[.ref p,.int n]/\ic H p/\0 < n/\n < 2^64/\∀v H',0<=v->v < n->ic H' p->c7 p H H'->Q (.int v) H'
inductive LV (K:FG9) (vs:List V) (H:Hp) (Q:VK) (E9:XK):Prop
 | mk (a:Addr) (ns:List Int):vs=[.ref a]->bR K H a (ns.map V.int)->ns.length<=63->(∀p H',H p=none->ic H' p->aL H H'->Q (.ref p) H')->LV K vs H Q E9
inductive Ag (K:FG9) (vs:List V) (H:Hp) (Q:VK) (E9:XK):Prop
 | mk (a:Addr) (ns:List Int):vs=[.ref a]->bR K H a (ns.map V.int)->ns.length<=63->(∀H',Q (.bl true) H')->Ag K vs H Q E9
def Qn:Sp:=λvs H Q _=>∃t b,vs=[.int t,.int b]/\0 < b/\Sz 8999 b/\∀r H',aL H H'->H' r=some (.tup [.int (lo t b),.int (hi t b)])->Q (.ref r) H'
def So:Sp:=λvs H Q _=>∃a b,vs=[.int a,.int b]/\Q (.int (g a b)) H
def KL:Sp:=λvs H Q _=>∃t b,vs=[.int t,.int b]/\b≠0/\Sz 8999 b/\∀r H',aL H H'->H' r=some (.tup [.int (lo (if b < 0 then -t else t) (if b < 0 then -b else b)),.int (hi (if b < 0 then -t else t) (if b < 0 then -b else b))])->Q (.ref r) H'
def PL (a b c d:Int):Int:=a*d+c*b
def M7 (a b c d:Int):Int:=a*d - c*b
def M6 (a _b c _d:Int):Int:=a*c
def JM (K:FG9) (f:Int->Int->Int->Int->Int):Sp:=λvs H Q _=>∃p q a b c d,vs=[.ref p,.ref q]/\qJ K H p [.int a,.int b]/\qJ K H q [.int c,.int d]/\0 < b/\0 < d/\Sz 4000 a/\Sz 4000 b/\Sz 4000 c/\Sz 4000 d /\
 ∀r H',aL H H'->H' r=some (.tup [.int (lo (f a b c d) (b*d)),.int (hi (f a b c d) (b*d))])->Q (.ref r) H'
theorem bT {α β:Type} {F:α->β->Prop}:∀{l1 l1':List α} {l2 l2':List β},Paired F l1 l2->Paired F l1' l2'->Paired F (l1++l1') (l2++l2')
 | _,_,_,_,.nil,h=>h
 | _,_,_,_,.cons r t,h=>.cons r (bT t h)
theorem dB {h:Heap} {a b:Addr} {o u:Obj} (ha:h.get? a=some o) (hb:h.get? b=some u) (hc:o.cls≠u.cls):a≠b:=λe=>by
 subst e;rw[ha] at hb;cases hb;exact hc rfl
theorem lY {a b:String} (h:a≠b):Value.type a≠Value.type b:=λe=>h (by injection e)
theorem Cv {h:Heap} {z TI TO i1 i2 l1 l2:Addr} {f0 a b:Value} {k1 k2:Nat} {xs ys:Array Value} (hz:IsZip h z TI TO f0) (hTI:IsPair h TI (.ref i1) (.ref i2)) (hTO:IsPair h TO a b)
  (h1:h.IsListIter i1 l1 k1) (h2:h.IsListIter i2 l2 k2) (hl1:h.IsList l1 xs) (hl2:h.IsList l2 ys) (hT:TI≠TO) (hi:i1≠i2):ZipApart z TI TO i1 i2 l1 l2:=by
 obtain ⟨o1,g1,c1,_⟩:=h1;obtain ⟨o2,g2,c2,_⟩:=h2;obtain ⟨p1,q1,d1,_⟩:=hl1;obtain ⟨p2,q2,d2,_⟩:=hl2;refine ⟨dB hTI hz ?_,dB hTO hz ?_,dB g1 hz ?_,dB g2 hz ?_,hT,dB hTI g1 ?_,dB hTI g2 ?_,dB hTO g1 ?_,dB hTO g2 ?_,hi,dB q1 hz ?_,dB q1 hTO ?_,dB q1 g1 ?_,dB q1 g2 ?_,dB q2 hz ?_,dB q2 hTO ?_,dB q2 g1 ?_,dB q2 g2 ?_⟩
 all_goals first
  | (rw[d1];first | (rw[c1];exact lY (by decide)) | (rw[c2];exact lY (by decide)) | exact lY (by decide))
  | (rw[d2];first | (rw[c1];exact lY (by decide)) | (rw[c2];exact lY (by decide)) | exact lY (by decide))
  | (rw[c1];exact lY (by decide))
  | (rw[c2];exact lY (by decide))
  | exact lY (by decide)
def RI (K : FG9) (l1 l2 : Addr) : It :=
  ⟨λi H => ∃ xs ys x y, bR K H l1 xs /\ bR K H l2 ys /\ xs[i]? = some x /\ ys[i]? = some y,
   λi H v H' => ∃ p x y, v = .ref p /\ H p = none /\ H' = upd H p (.tup [x, y]) /\ (∀ xs, bR K H l1 xs → xs[i]? = some x) /\ ∀ ys, bR K H l2 ys → ys[i]? = some y,
   λi H => ∃ xs ys, bR K H l1 xs /\ bR K H l2 ys /\ (xs.length ≤ i \/ ys.length ≤ i)⟩
def tnZ (z TI TO i1 i2 l1 l2:Addr) (i:Nat) (h:Heap):Prop:=IsZip h z TI TO .none/\IsPair h TI (.ref i1) (.ref i2)/\(∃a b,IsPair h TO a b)/\h.IsListIter i1 l1 i/\h.IsListIter i2 l2 i
theorem LH {P:Program} {w:World} {K:FG9} {elts:List Expr} {kk:Nat} {tpos:Pos} (z TI TO i1 i2 l1 l2:Addr) (hT:TI≠TO) (hi:i1≠i2):Turn P w K (.Tuple elts kk tpos) (RI K l1 l2) [z,TI,TO,i1,i2] z (tnZ z TI TO i1 i2 l1 l2) where
 mem:=by simp
 obj:=λi h st b hb=>by
  obtain ⟨hz,hTI,⟨a,c,hTO⟩,⟨o1,g1,c1,d1⟩,⟨o2,g2,c2,d2⟩⟩:=st;simp only[aN,br,or_false] at hb;rcases hb with rfl | rfl | rfl | rfl | rfl
  ·exact ⟨_,hz,λv q=>nomatch q⟩
  ·exact ⟨_,hTI,λv q=>nomatch q⟩
  ·exact ⟨_,hTO,λv q=>nomatch q⟩
  ·exact ⟨o1,g1,λv q=>by rw[d1] at q;cases q⟩
  ·exact ⟨o2,g2,λv q=>by rw[d2] at q;cases q⟩
 keep:=λi h h' st k=>by
  obtain ⟨hz,hTI,⟨a,c,hTO⟩,h1,h2⟩:=st;exact ⟨k z (by simp) _ hz,k TI (by simp) _ hTI,⟨a,c,k TO (by simp) _ hTO⟩,h1.at λo e=>k i1 (by simp) o e,h2.at λo e=>k i2 (by simp) o e⟩
 item:=by
  sleep 2;obtain ⟨hz,hTI,⟨a,c,hTO⟩,h1,h2⟩:=st;obtain ⟨xs,ys,x,y,qx,qy,ex,ey⟩:=hg;obtain ⟨us,rx,px,_⟩:=I.list qx;obtain ⟨ws,ry,py,_⟩:=I.list qy;obtain ⟨u,eu,ru⟩:=rx.get ex;obtain ⟨v,ev,rv⟩:=ry.get ey;have D:=Cv hz hTI hTO h1 h2 px.isList py.isList hT hi;refine wpAny_pyNext_zip_item D hz hTI hTO h1 h2 px.isList py.isList (x:=u) (y:=v) (by simpa using eu) (by simpa using ev) λh' a1 a2 a3 a4 a5 a6 hk=>?_
  refine ⟨_,rfl,wpAny_letOwnedTupleGo_zip a1 λh'' hz'' hs=>?_⟩;have hT0:H s.heap.objs.size=none:=I.hok.fresh (ak _);have zne:s.heap.objs.size≠z:=Kx (Heap.lt_size hz)
  have up:∀b o,b∉[z,TO,i1,i2]->s.heap.get? b=some o->h''.get? b=some o:=λb o hb e=>by
   simp only[aN,br,or_false,not_or] at hb;exact (hs.2 b hb.1).trans (hk b o hb.1 hb.2.1 hb.2.2.1 hb.2.2.2 e)
  have fx:∀b∈[z,TO,i1,i2],kj X pins H b:=λb hb=>hf b (by
   simp only[aN,br,or_false] at hb ⊢;rcases hb with rfl | rfl | rfl | rfl <;> simp)
  have nx:∀b o,H b=some o->b∉[z,TO,i1,i2]:=λb o e hb=>by
   have:=(fx b hb).1;rw[this] at e;cases e
  have nT:∀{b:Addr} {o:HO},H b=some o->b≠s.heap.objs.size:=λe q=>by rw[q,hT0] at e;cases e
  have tup:h''.get? s.heap.objs.size=some { cls:=.type "tuple",data:=.seq #[u,v] }:=(hs.2 _ zne).trans a5
  have I2:Inv X pins σ (upd H s.heap.objs.size (.tup [x,y])) { s with heap:=h'' }:=by
   refine I.step (g':=s.gens) (d':=s.drawn) (t':=s.toks) (ch:=[z,TO,i1,i2]) (λb hb=>?_) (λb o _ _ hb e _=>up b o hb e) (λb o _ _ hb e _=>⟨o.slots,up b o hb e⟩) (λb o hb e n=>?_)
    (λb o hb e=>⟨o,up b o hb e⟩) (λb q e=>by rw[bM (nT e)];exact e) (λb o q e=>by rw[bM (nT e)];exact e) (λb q e=>⟨#[],by rw[bM (nT e),e];simp⟩) (λm hm=>?_) (λb o e=>?_) I.bare
   ·obtain ⟨_,f1,_,f3,f4,f5⟩:=fx b hb;exact ⟨f3,f1,f4,f5⟩
   ·rw[bM (cu (Heap.lt_size e))];exact n
   ·obtain ⟨o,es,ep,ho,r⟩:=hm;exact ⟨o,es,ep,up _ o (λz=>(fx _ z).2.1 rfl) ho,r⟩
   ·by_cases hb:b=s.heap.objs.size
    ·subst hb;rw[aO] at e;cases e;exact ⟨jq rfl,[u,v],.cons ru (.cons rv .nil),⟨_,tup,rfl,_,rfl⟩⟩
    ·rw[bM hb] at e;refine (I.hok b o e).stay (λc v' hc q=>up c v' ?_ q) (λc q=>by rw[bM (nT q)];exact q) λc xs q=>by rw[bM (nT q)];exact q
     rcases hc with rfl | hc
     ·exact nx _ _ e
     ·exact nx _ _ hc
  refine ⟨.ref s.heap.objs.size,_,I2,rfl,⟨_,x,y,rfl,hT0,rfl,λxs' q=>by rw[I.list_inj q qx];exact ex,λys' q=>by rw[I.list_inj q qy];exact ey⟩,?_,λb hb=>?_⟩
  ·refine ⟨hz'',(hs.2 _ D.TIz).trans (hk _ _ D.TIz D.TITO D.TIi1 D.TIi2 hTI),⟨_,_,(hs.2 _ D.TOz).trans a2⟩,a3.at λo e=>(hs.2 _ D.i1z).trans e,a4.at λo e=>(hs.2 _ D.i2z).trans e⟩
  ·obtain ⟨o,e,_⟩:∃o,s.heap.get? b=some o/\True:=by
    obtain ⟨o1,g1,_⟩:=h1;obtain ⟨o2,g2,_⟩:=h2;simp only[aN,br,or_false] at hb;rcases hb with rfl | rfl | rfl | rfl | rfl
    ·exact ⟨_,hz,trivial⟩
    ·exact ⟨_,hTI,trivial⟩
    ·exact ⟨_,hTO,trivial⟩
    ·exact ⟨_,g1,trivial⟩
    ·exact ⟨_,g2,trivial⟩
   rw[bM (cu (Heap.lt_size e))];exact (hf b hb).1
 done:=by
  sleep 2;obtain ⟨hz,hTI,⟨a,c,hTO⟩,h1,h2⟩:=st;obtain ⟨xs,ys,qx,qy,hend⟩:=hg;obtain ⟨us,rx,px,_⟩:=I.list qx;obtain ⟨ws,ry,py,_⟩:=I.list qy;have lx:=rx.length;have ly:=ry.length;have D:=Cv hz hTI hTO h1 h2 px.isList py.isList hT hi
  refine wpAny_pyNext_zip_end (I.ok.hd hc) D hz hTI hTO h1 h2 px.isList py.isList (by
   rcases hend with q | q
   ·exact .inl (by simp;lia)
   ·exact .inr (by simp;lia)) λh' hk=>⟨rfl,?_⟩
  have up:∀b o,b∉[z,TO,i1,i2]->s.heap.get? b=some o->h'.get? b=some o:=λb o hb e=>by
   simp only[aN,br,or_false,not_or] at hb;exact hk b o hb.1 hb.2.1 hb.2.2.1 hb.2.2.2 e
  have fx:∀b∈[z,TO,i1,i2],kj X pins H b:=λb hb=>hf b (by
   simp only[aN,br,or_false] at hb ⊢;rcases hb with rfl | rfl | rfl | rfl <;> simp)
  have nx:∀b o,H b=some o->b∉[z,TO,i1,i2]:=λb o e hb=>by
   have:=(fx b hb).1;rw[this] at e;cases e
  refine I.step (g':=s.gens) (d':=s.drawn) (t':=s.toks) (ch:=[z,TO,i1,i2]) (λb hb=>?_) (λb o _ _ hb e _=>up b o hb e) (λb o _ _ hb e _=>⟨o.slots,up b o hb e⟩) (λb o hb e n=>n)
   (λb o hb e=>⟨o,up b o hb e⟩) (λb q e=>e) (λb o q e=>e) (λb q e=>⟨#[],by rw[e];simp⟩) (λm hm=>?_) (λb o e=>?_) I.bare
  ·obtain ⟨_,f1,_,f3,f4,f5⟩:=fx b hb;exact ⟨f3,f1,f4,f5⟩
  ·obtain ⟨o,es,ep,ho,r⟩:=hm;exact ⟨o,es,ep,up _ o (λz=>(fx _ z).2.1 rfl) ho,r⟩
  ·refine (I.hok b o e).stay (λc v' hc q=>up c v' ?_ q) (λc q=>q) λc xs q=>q
   rcases hc with rfl | hc
   ·exact nx _ _ e
   ·exact nx _ _ hc
 self:=λ_ _ _ _ _ st h=>wpAny_pyIter_zip st.1 h
section
variable {X:Cx}
def Rb (K:FG9) (ta:TA):TI:=λσ H R=>ta σ H λvs H1=>∃l1 l2,vs=[.ref l1,.ref l2]/\(∃xs,bR K H1 l1 xs)/\(∃ys,bR K H1 l2 ys)/\R (RI K l1 l2) H1
theorem pR {a b:Expr} {ta:TA} {p pos tpos:Pos} {elts:List Expr} {kk:Nat} (hg:Gl X "zip") (hm:X.mg "zip"=none) (ha:PA X [a,b] ta) (hs:starEach [a,b] X.env=[(false,eval a X.env),(false,eval b X.env)]:=by rfl) (hs2:starEach [b] X.env=[(false,eval b X.env)]:=by rfl) :
  PI X (.Tuple elts kk tpos) (.Call (.Name "zip" p) [a,b] [] pos) (Rb X.K ta):=by
 intro pins s σ H R I h;refine Call_ (kh I hg hm boot_zip (PyProof.Rows.callWith_type1 (gU (ha pos pins s σ H _ I h) λus s1 ⟨vs,H1,I1,r1,q1⟩=>?_) (by rw[hs,hs2]) (by rw[hs2];rfl)));obtain ⟨l1,l2,e,⟨xs,qx⟩,⟨ys,qy⟩,q⟩:=q1;subst e;obtain ⟨u,v,rfl,ru,rv⟩:=vals2 r1;cases ru;cases rv;obtain ⟨us,rx,px,_⟩:=I1.list qx;obtain ⟨ws,ry,py,_⟩:=I1.list qy;refine call_zip_2 px.isList py.isList λh' a1 a2 a3 a4 a5 a6 hk=>wpAny_pyIter_zip a1 ?_
 have I2:Inv X pins σ H1 { s1 with heap:=h' }:=I1.kept (t':=s1.toks) hk;refine ⟨_,[s1.heap.objs.size+4,s1.heap.objs.size+2,s1.heap.objs.size+3,s1.heap.objs.size,s1.heap.objs.size+1],_,_,H1,rfl,I2,LH (s1.heap.objs.size+4) (s1.heap.objs.size+2) (s1.heap.objs.size+3) s1.heap.objs.size (s1.heap.objs.size+1) l1 l2 (cu (fv _)) (cu (fv _)),⟨a1,a2,⟨_,_,a3⟩,a4,a5⟩,λb hb=>?_,q⟩
 have hb':s1.heap.objs.size<=b:=by
  simp only[aN,br,or_false] at hb;rcases hb with rfl | rfl | rfl | rfl | rfl <;> first | exact zv _ _ | exact ak _
 exact I1.fpOk hb' (I1.hok.fresh hb')
theorem Bv (hc:X.calm=true):oR X (.builtin "all") (λxs H Q=>∃(p:Addr) (bs:List Bool),xs=[.ref p]/\bR X.K H p (bs.map V.bl)/\Q (.bl (bs.all id)) H):=by
 sleep 9;obtain ⟨p,bs,rfl,hp,q⟩:=h;obtain ⟨u,rfl,ru⟩:=vals1 r;cases ru;obtain ⟨vs,rv,pl,hz⟩:=I.list hp
 have hb:PyProof.Rows.LSm.BoolsAre vs bs:=by
  clear q hp pl hz
  induction bs generalizing vs with
  | nil=>cases rv;exact .nil
  | cons b bs ih =>
   rw[gI] at rv;cases rv with
   | cons r1 r2=>cases r1;exact .cons b (ih _ r2)
 have hlt:p < s.heap.objs.size:=by obtain ⟨_,e,_⟩:=pl.isList;exact Heap.lt_size e
 refine call_all_walk (wpAny_pyIter_list pl.isList ?_)
 refine ⟨s.heap.objs.size,[s.heap.objs.size,p],[s.heap.objs.size],vs.toArray.size,_,_,λi=>(bs[i]?).getD true,rfl,Walks.list (A:=X.A.in1) (I.ok.hd hc) _ p (cu hlt) vs.toArray,
  ⟨⟨_,Heap.get?_push_size _ rfl,rfl,rfl⟩,pl.isList.push _⟩,λi v s' Q' E' hP hQ=>?_,λh' tk hk=>?_⟩
 ·obtain ⟨b,e,rfl⟩:=hb.get i v (by simpa using hP);simp only[e,Option.getD_some] at hQ;exact wpAny_truthy_bool hQ
 ·have e:((List.range vs.toArray.size).all λi=>(bs[i]?).getD true)=bs.all id:=by
   rw[aY,hb.length];exact PyProof.Rows.LSm.range_all bs
  rw[e];exact ⟨.bl _,H,I.kept (t':=tk) (PyProof.Rows.LSm.kept_iter hk),rfl,q⟩
theorem Nn (hc:X.calm=true):oR X (.builtin "sum") (λxs H Q=>∃(p:Addr) (ns:List Int),xs=[.ref p]/\bR X.K H p (ns.map V.int)/\Q (.int ns.sum) H):=by
 sleep 9;obtain ⟨p,ns,rfl,hp,q⟩:=h;obtain ⟨u,rfl,ru⟩:=vals1 r;cases ru;obtain ⟨vs,rv,pl,_⟩:=I.list hp;have hi:IntsAre vs ns:=intsAre_of rv;obtain ⟨xs,hx⟩:=hi.allInts.items;have hl':s.heap.IsList p (intItems xs):=hx ▸ pl.isList;refine sum_intListG (I.ok.hd hc) hl' λh' tk t' hk=>?_
 have e1:ns=xs.toList.map (·.1):=by
  rw[<- nums_intItems,<- hx];exact (show numsOf vs.toArray.toList=ns from hi.numsOf).symm
 have e2:preSum (numAt xs) xs.size=ns.sum:=by
  rw[preSum_eq,aI (by simp),e1]
 rw[e2];exact ⟨.int _,H,I.kept (t':=tk) hk,⟨_,rfl⟩,q⟩
end
section
variable {K:FG9} {l1 l2:Addr} {xs ws:List V} {g:TG} {tf:TT} {te:TE} {Q:VK} {σ₀:St} {H:Hp}
theorem sU (Pv:Nat->List V->Hp->Prop) (hz:xs.length<=sizeLine) (hw:ws.length=xs.length) (h0:Pv 0 [] H) (hl:∀i ys H,i<=xs.length->Pv i ys H->bR K H l1 xs/\bR K H l2 ws)
  (hs:∀i x y ys H p,xs[i]?=some x->ws[i]?=some y->ys.length<=i->Pv i ys H->H p=none->rk σ₀ g tf te (.ref p) (upd H p (.tup [x,y])) (λy H'=>Pv (i+1) (ys++[y]) H') (λH'=>Pv (i+1) ys H'))
  (hd:∀ys H,ys.length<=xs.length->Pv xs.length ys H->∀p,H p=none->Q (.ref p) (upd H p (.lst ys))):tu (RI K l1 l2) σ₀ g tf te Q H:=by
 refine ⟨λi m ys H=>m=xs.length - i/\i<=xs.length/\ys.length<=i/\Pv i ys H,⟨xs.length,by simp,bu _,bu _,h0⟩,?_⟩;rintro i m ys H ⟨rfl,hi,hy,p⟩;obtain ⟨q1,q2⟩:=hl i ys H hi p;by_cases hlt:i < xs.length
 ·refine .inr ⟨⟨xs,ws,xs[i],ws[i]'(by lia),q1,q2,by simp [hlt],by simp⟩,by lia,λy H'=>Pv (i+1) (ys++[y]) H',λH'=>Pv (i+1) ys H',λy H' p'=>⟨xs.length - (i+1),by lia,rfl,hlt,by rw[au,bf];lia,p'⟩,λH' p'=>⟨xs.length - (i+1),by lia,rfl,hlt,by lia,p'⟩,λx H' y=>?_⟩;obtain ⟨r,x',y',rfl,hr,rfl,e1,e2⟩:=y;exact hs i x' y' ys _ r (e1 xs q1) (e2 ws q2) hy p hr
 ·have e:i=xs.length:=by lia
  subst e;exact .inl ⟨⟨xs,ws,q1,q2,.inl (ak _)⟩,by lia,hd ys H hy p⟩
theorem Kd {tb:TS} {D:Ends} {σ:St} (Pv:Nat->St->Hp->Prop) (hw:ws.length=xs.length) (h0:Pv 0 σ H) (hl:∀i σ H,i<=xs.length->Pv i σ H->bR K H l1 xs/\bR K H l2 ws)
  (hs:∀i x y σ H p,xs[i]?=some x->ws[i]?=some y->Pv i σ H->H p=none->g (.ref p) σ (upd H p (.tup [x,y])) λσ2 H2=>tb { D with nx:=Pv (i+1),ct:=Pv (i+1),bk:=D.nx } σ2 H2) (hd:∀σ H,Pv xs.length σ H->D.nx σ H) :
  ∃W:Nat->Nat->St->Hp->Prop,(∃m,W 0 m σ H)/\∀i m σ H,W i m σ H →
   ((RI K l1 l2).stop i H/\D.nx σ H)\/((RI K l1 l2).go i H/\∃N:St->Hp->Prop,(∀σ' H',N σ' H'->∃m',m' < m/\W (i+1) m' σ' H')/\∀x H',(RI K l1 l2).yld i H x H'->g x σ H' λσ2 H2=>tb { D with nx:=N,ct:=N,bk:=D.nx } σ2 H2):=by
 refine ⟨λi m σ H=>m=xs.length - i/\i<=xs.length/\Pv i σ H,⟨xs.length,by simp,bu _,h0⟩,?_⟩;rintro i m σ H ⟨rfl,hi,p⟩;obtain ⟨q1,q2⟩:=hl i σ H hi p;by_cases hlt:i < xs.length
 ·refine .inr ⟨⟨xs,ws,xs[i],ws[i]'(by lia),q1,q2,by simp [hlt],by simp⟩,Pv (i+1),λσ' H' p'=>⟨xs.length - (i+1),by lia,rfl,hlt,p'⟩,λx H' y=>?_⟩;obtain ⟨r,x',y',rfl,hr,rfl,e1,e2⟩:=y;exact hs i x' y' σ _ r (e1 xs q1) (e2 ws q2) p hr
 ·have e:i=xs.length:=by lia
  subst e;exact .inl ⟨⟨xs,ws,q1,q2,.inl (ak _)⟩,hd σ H p⟩
end
section
variable {X:Cx}
theorem mU (K:FG9) (n:Nat) {es:List Expr} {k:Nat} {pos:Pos} {t:NA} (h:Tq X es t) (hK:X.K=K:=by rfl) (hc:X.calm=true:=by rfl)
  (hn:(assignEach es X.env).length=n:=by rfl) (hst:(assignEach es X.env).findIdx? (·.1)=none:=by rfl):PG X (.Tuple es k pos) (Rj K n t):=by subst hK;exact pS hc h hn hst
theorem qC (K:FG9) (hK:X.K=K):Tv X (QT K):=by subst hK;exact bN
theorem iP (K:FG9) (hK:X.K=K):Tv X (QU K):=by subst hK;exact bX
theorem JS (K:FG9) (hK:X.K=K) (hu:X.A.units+50 < cLine):xn X (compareOp .NotEq) (SQ K):=by subst hK;exact IS hu
theorem AG (K:FG9) {tg l:Expr} {tl:TE} (hl:PE X l tl) (hK:X.K=K:=by rfl):PI X tg l (MM K tl):=by subst hK;exact cM hl
theorem Al (K:FG9) (hK:X.K=K):Um X (QR K):=by subst hK;exact Et
end
theorem eX {X:Cx} {e e':Expr} {es:List Expr} {te:TE} {t:TA} (h:e=e') (ha:PE X e' te) (hr:PA X es t) (hs:∀l,starEach (e' :: l) X.env=(false,eval e' X.env) :: starEach l X.env:=by intro _;rfl):PA X (e :: es) (rn te t):=by subst h;exact ae ha hr (hs _)
section
variable {σ:St} {H:Hp} {D:Ends} {Q:VK}
theorem j8 {l:Addr} {xs:List V} {y:V} (hl:H l=some (.lst xs)) (hz:xs.length < sizeLine) (h:Q .non (upd H l (.lst (xs++[y])))):JO (.ref l) [y] H Q:=⟨l,xs,y,rfl,rfl,hl,hz,h⟩
theorem Om {K:FG9} {ta:TA} {R:It->Hp->Prop} (h:ta σ H λvs H1=>∃l1 l2,vs=[.ref l1,.ref l2]/\(∃xs,bR K H1 l1 xs)/\(∃ys,bR K H1 l2 ys)/\R (RI K l1 l2) H1):Rb K ta σ H R:=h
theorem iJ {l b:Addr} {xs zs:List V} (h1:H l=some (.lst xs)) (h2:H b=some (.lst zs)) (hz:xs.length+zs.length<=sizeLine) (h:∀p H',aL H H'->H p=none->H' p=some (.lst (xs++zs))->Q (.ref p) H'):SS (.ref l) (.ref b) H Q :=
 ⟨l,b,xs,zs,rfl,rfl,h1,h2,hz,λp hp=>h p _ (aL.new hp) hp aO⟩
theorem II {K:FG9} {a:Addr} {xs:List V} {lo hi:Option Int} (h1:bR K H a xs) (h:∀p H',aL H H'->H p=none->H' p=some (.lst (qZ xs lo hi))->Q (.ref p) H'):QR K (.ref a) lo hi H Q :=
 ⟨a,xs,rfl,h1,λp hp=>h p _ (aL.new hp) hp aO⟩
theorem kR {α:Type} {xs:List α} {i:Int} (h0:0<=i) (h1:i < xs.length):∃v,Ij xs i=some v/\v∈xs/\xs[i.toNat]?=some v:=by
 have hj:i.toNat < xs.length:=by lia
 refine ⟨xs[i.toNat],?_,aJ hj,by simp [hj]⟩;have:=fZ (xs:=xs) (j:=i.toNat) (v:=xs[i.toNat]) (by simp [hj]);rwa [Int.toNat_of_nonneg h0] at this
end
theorem dh {α β:Type} {F:α->β->Prop}:∀{l1:List α} {l2:List β} {y:β},Paired F l1 l2->y∈l2->∃x∈l1,F x y
 | _,_,_,.nil,h=>nomatch h
 | _,_,_,.cons r t,h=>by
  rcases aN.mp h with rfl | h
  ·exact ⟨_,dm,r⟩
  ·obtain ⟨x,hx,q⟩:=dh t h;exact ⟨x,b6 _ hx,q⟩
theorem b8 {α β:Type} {F:α->β->Prop} {l1:List α} {l2:List β} {i:Nat} {y:β} (h:Paired F l1 l2) (e:l2[i]?=some y):∃x,l1[i]?=some x/\F x y:=by
 have hl:=h.length;have hi:i < l2.length:=(aF.mp e).1;refine ⟨l1[i]'(by lia),by simp,?_⟩;have:=kb h (i:=i) (by lia) hi;have e2:l2[i]=y:=(aF.mp e).2;rwa [e2] at this
def zg (n:Int×Int):Prop:=0 < n.2/\Int.gcd n.1 n.2=1/\Sz 8000 n.1/\Sz 8000 n.2
theorem take_snoc {α:Type} {l:List α} {i:Nat} {v:α} (h:l[i]?=some v):l.take (i+1)=l.take i++[v]:=by rw[List.take_add_one,h];rfl
theorem aL.after {H H':Hp} {r:Addr} {o:HO} (s:aL H H') (h:H r=Option.none):aL H (upd H' r o):=λb u e=>by rw[bM (fQ e h)];exact s b u e
theorem c7.after {H H':Hp} {b r:Addr} {o:HO} (s:c7 b H H') (h:H r=Option.none):c7 b H (upd H' r o):=⟨λc u e n=>by rw[bM (fQ e h)];exact s.1 c u e n,λq hi=>(s.2 q hi).upd λz=>by obtain ⟨_,_,_,e⟩:=hi;rw[<- z,h] at e;cases e⟩
theorem c7.same {H H' H'':Hp} {b:Addr} (s:c7 b H H') (e:aL H' H''):c7 b H H'':=s.trans e.upto
theorem Fw {α:Type} {Pr:α->Prop} {l:List α} {a:α} (h:∀n∈l,Pr n) (ha:Pr a):∀n∈l++[a],Pr n:=λn hn=>by
 rcases aA.mp hn with hn | hn
 ·exact h n hn
 ·have e:n=a:=by simpa using hn
  rw[e];exact ha
abbrev BM (h:Heap) (z TI TO:Addr) (f0 f1:Value):Prop:=h.get? z=some { cls:=.type "zip",dict:=none,data:=.fields #[f0,f1,.bool false,.ref TI,.ref TO],slots:=#[] }
section
variable {prog:Program} {w:World} {A:Around} {E:Value->Shared->Prop} {s:Shared}
theorem Jr {a:Addr} {o:Obj} {Q:Option Obj->Shared->Prop} (e:s.heap.get? a=some o) (h:Q (some o) s):wpAny (model prog w) A (loadIfAlive a) Q E s:=by
 intro Γ p hp;show Sem.wp _ _ (.loadIfAlive a .pure) _ _ _ _
 simp only[Sem.wp_loadIfAlive,e];exact wpAny_pure h Γ p hp
theorem AI {z TI TO T:Addr} {b1:Bool} {o:Obj} {Q:Bool->Shared->Prop} (zr:BM s.heap z TI TO (rawInt T) (.bool b1)) (al:s.heap.get? T=some o)
  (h:∀h',BM h' z TI TO (rawInt T) (.bool true)->Heap.SameBut z s.heap h'->Q false { s with heap:=h' }):wpAny (model prog w) A (Builtin.SmallTypes.ownedTupleIsFree (.ref z)) Q E s:=by
 unfold Builtin.SmallTypes.ownedTupleIsFree;refine wpAny_bind (wpAny_field zr rfl (x:=rawInt T) rfl ?_);refine wpAny_bind (Jr (a:=T) al ?_);refine wpAny_bind (wpAny_field zr rfl (x:=.bool b1) rfl ?_);cases b1 with
 | true=>exact wpAny_pure (h _ zr (.refl ..))
 | false=>exact wpAny_bind (wpAny_setField_rec zr (by simp) λh' zr' sb=>wpAny_pure (h h' zr' sb))
theorem Lg {z TI TO T i1 i2 l1 l2:Addr} {k1 k2:Nat} {us ws:Array Value} {u v:Value} {b1:Bool} {o:Obj} {Q:Value->Shared->Prop} (D:ZipApart z TI TO i1 i2 l1 l2) (zr:BM s.heap z TI TO (rawInt T) (.bool b1)) (al:s.heap.get? T=some o)
  (pt:IsPair s.heap TI (.ref i1) (.ref i2)) (j1:s.heap.IsListIter i1 l1 k1) (j2:s.heap.IsListIter i2 l2 k2) (m1:s.heap.IsList l1 us) (m2:s.heap.IsList l2 ws) (eu:us[k1]?=some u) (ev:ws[k2]?=some v)
  (hQ:∀h',BM h' z TI TO (rawInt T) (.bool true)->h'.IsListIter i1 l1 (k1+1)->h'.IsListIter i2 l2 (k2+1)->IsPair h' s.heap.objs.size u v->(∀c o,c≠z->c≠i1->c≠i2->s.heap.get? c=some o->h'.get? c=some o)->Q (.ref s.heap.objs.size) { s with heap:=h' }) :
  wpAny (model prog w) A (Builtin.«zip.__next__» ⟨[.ref z],[]⟩) (λfin s'=>∃v,fin=.done (.ret v)/\Q v s') E s:=by
 change wpAny _ _ (field (Value.ref z) 2 >>= _) _ _ s
 refine wpAny_bind (wpAny_field zr rfl (x:=.bool false) rfl ?_)
 change wpAny _ _ (field (Value.ref z) 3 >>= _) _ _ s
 refine wpAny_bind (wpAny_field zr rfl (x:=.ref TI) rfl (wpAny_bind (wpAny_seqItems pt rfl ?_)))
 change wpAny _ _ (Builtin.SmallTypes.ownedTupleIsFree (Value.ref z) >>= _) _ _ s
 refine wpAny_bind (AI zr al λg1 zr1 sb1=>?_);simp only[iY,if_false];refine wpAny_bind ?_;rw[<- Array.forIn_toList];simp only[NI,Ee];have j1':=j1.extBut sb1.extBut D.i1z;have m1':=m1.extBut sb1.extBut D.l1z;refine wpAny_bind (wpAny_bind (wpAny_holding ?_))
 change wpAny _ _ (Builtin.SmallTypes.nextOf (Value.ref i1) >>= _) _ _ _
 refine wpAny_bind (wpAny_nextOf_list_item j1' m1' eu λg2 j1a sb2=>wpAny_pure ?_);refine wpAny_pure ?_;have j2':=(j2.extBut sb1.extBut D.i2z).extBut sb2.extBut D.i12.symm;have m2':=(m2.extBut sb1.extBut D.l2z).extBut sb2.extBut D.l2i1;refine wpAny_bind (wpAny_bind (wpAny_holding ?_))
 change wpAny _ _ (Builtin.SmallTypes.nextOf (Value.ref i2) >>= _) _ _ _
 refine wpAny_bind (wpAny_nextOf_list_item j2' m2' ev λg3 j2a sb3=>wpAny_pure ?_);refine wpAny_pure (wpAny_pure ?_);refine wpAny_bind (wpAny_newTuple (hsz:=jq rfl) ?_);have sz:g3.objs.size=s.heap.objs.size:=by rw[sb3.1,sb2.1,sb1.1]
 have up:∀c o,c≠z->c≠i1->c≠i2->s.heap.get? c=some o->g3.get? c=some o:=λc o c1 c2 c3 e=>sb3.extBut _ _ c3 (sb2.extBut _ _ c2 (sb1.extBut _ _ c1 e))
 have zr3:BM g3 z TI TO (rawInt T) (.bool true):=sb3.extBut _ _ D.i2z.symm (sb2.extBut _ _ D.i1z.symm zr1);refine wpAny_pure ⟨_,rfl,?_⟩
 change Q (.ref g3.objs.size) { s with heap:=g3.push { cls:=.type "tuple",data:=.seq #[u,v] } }
 have last:=hQ (g3.push { cls:=.type "tuple",data:=.seq #[u,v] }) (Heap.get?_push_of_some _ zr3) ((j1a.extBut sb3.extBut D.i12).at λo e=>Heap.get?_push_of_some _ e) (j2a.at λo e=>Heap.get?_push_of_some _ e)
  (by rw[<- sz];exact Heap.get?_push_size _ rfl) λc o c1 c2 c3 e=>Heap.get?_push_of_some _ (up c o c1 c2 c3 e)
 rw[sz];exact last
theorem MB {z TI TO T i1 i2 l1 l2:Addr} {k1:Nat} {us:Array Value} {b1:Bool} {o:Obj} {Q:PySem.Fin->Shared->Prop} (hh:A.handled=none) (D:ZipApart z TI TO i1 i2 l1 l2) (zr:BM s.heap z TI TO (rawInt T) (.bool b1)) (al:s.heap.get? T=some o)
  (pt:IsPair s.heap TI (.ref i1) (.ref i2)) (j1:s.heap.IsListIter i1 l1 k1) (m1:s.heap.IsList l1 us) (eu:us[k1]?=none)
  (hE:∀h' e,(∀c o,c≠z->c≠i1->c≠i2->s.heap.get? c=some o->h'.get? c=some o)->(∃o,h'.get? e=some o/\o.cls=.type "StopIteration")->E (.ref e) { s with heap:=h' }) :
  wpAny (model prog w) A (Builtin.«zip.__next__» ⟨[.ref z],[]⟩) Q E s:=by
 change wpAny _ _ (field (Value.ref z) 2 >>= _) _ _ s
 refine wpAny_bind (wpAny_field zr rfl (x:=.bool false) rfl ?_)
 change wpAny _ _ (field (Value.ref z) 3 >>= _) _ _ s
 refine wpAny_bind (wpAny_field zr rfl (x:=.ref TI) rfl (wpAny_bind (wpAny_seqItems pt rfl ?_)))
 change wpAny _ _ (Builtin.SmallTypes.ownedTupleIsFree (Value.ref z) >>= _) _ _ s
 refine wpAny_bind (AI zr al λg1 zr1 sb1=>?_);simp only[iY,if_false];refine wpAny_bind ?_;rw[<- Array.forIn_toList];simp only[NI,Ee];refine wpAny_bind (wpAny_bind (wpAny_holding ?_))
 change wpAny _ _ (Builtin.SmallTypes.nextOf (Value.ref i1) >>= _) _ _ _
 exact wpAny_bind (wpAny_nextOf_list_end hh (j1.extBut sb1.extBut D.i1z) (m1.extBut sb1.extBut D.l1z) eu λg2 e xb he=>hE g2 e (λc o c1 c2 _ q=>xb _ _ c2 (sb1.extBut _ _ c1 q)) he)
theorem Le {z TI TO T i1 i2 l1 l2:Addr} {k1 k2:Nat} {us ws:Array Value} {u v:Value} {b1:Bool} {o:Obj} {Q:Option Value->Shared->Prop} (D:ZipApart z TI TO i1 i2 l1 l2) (zr:BM s.heap z TI TO (rawInt T) (.bool b1)) (al:s.heap.get? T=some o)
  (pt:IsPair s.heap TI (.ref i1) (.ref i2)) (j1:s.heap.IsListIter i1 l1 k1) (j2:s.heap.IsListIter i2 l2 k2) (m1:s.heap.IsList l1 us) (m2:s.heap.IsList l2 ws) (eu:us[k1]?=some u) (ev:ws[k2]?=some v)
  (hQ:∀h',BM h' z TI TO (rawInt T) (.bool true)->h'.IsListIter i1 l1 (k1+1)->h'.IsListIter i2 l2 (k2+1)->IsPair h' s.heap.objs.size u v->(∀c o,c≠z->c≠i1->c≠i2->s.heap.get? c=some o->h'.get? c=some o)->Q (some (.ref s.heap.objs.size)) { s with heap:=h' }) :
  wpAny (model prog w) A (pyNext (.ref z)) Q E s:=by
 have ty:s.TypeIs (.ref z) "zip":=⟨_,zr,rfl⟩;unfold pyNext;refine wpAny_bind (wpAny_attempt (wpAny_callSpecial?_slot (name:=Str.ofString "__next__") ty oT (wpAny_call_entry oT ty PySem.F.entry_zip_next ?_ (Tz _))));exact Lg D zr al pt j1 j2 m1 m2 eu ev λh' a1 a2 a3 a4 a5=>wpAny_pure (hQ h' a1 a2 a3 a4 a5)
theorem Ld {z TI TO T i1 i2 l1 l2:Addr} {k1:Nat} {us:Array Value} {b1:Bool} {o:Obj} {Q:Option Value->Shared->Prop} (hh:A.handled=none) (D:ZipApart z TI TO i1 i2 l1 l2) (zr:BM s.heap z TI TO (rawInt T) (.bool b1)) (al:s.heap.get? T=some o)
  (pt:IsPair s.heap TI (.ref i1) (.ref i2)) (j1:s.heap.IsListIter i1 l1 k1) (m1:s.heap.IsList l1 us) (eu:us[k1]?=none)
  (hQ:∀h',(∀c o,c≠z->c≠i1->c≠i2->s.heap.get? c=some o->h'.get? c=some o)->Q none { s with heap:=h' }):wpAny (model prog w) A (pyNext (.ref z)) Q E s:=by
 have ty:s.TypeIs (.ref z) "zip":=⟨_,zr,rfl⟩;unfold pyNext;refine wpAny_bind (wpAny_attempt (wpAny_callSpecial?_slot (name:=Str.ofString "__next__") ty oT (wpAny_call_entry oT ty PySem.F.entry_zip_next ?_ (Tz _))));refine MB hh D zr al pt j1 m1 eu λh' e kk ⟨oe,he,hc⟩=>?_
 exact wpAny_bind (wpAny_isInstance (T:="StopIteration") (b:=true) ⟨oe,he,hc⟩ isSubtype_stop (wpAny_pure (hQ _ kk)))
end
section
variable {X:Cx} {pins:List (Addr×Obj)} {σ:St} {H:Hp} {s:Shared}
theorem Inv.moved {h':Heap} {ch:List Addr} {g':Array GenState} {d':Drawn} {t':Nat} (I:Inv X pins σ H s) (fx:∀b∈ch,kj X pins H b) (up:∀b o,b∉ch->s.heap.get? b=some o->h'.get? b=some o) (hg:AllBare g') :
  Inv X pins σ H { s with heap:=h',gens:=g',drawn:=d',toks:=t' }:=by
 have nx:∀b o,H b=some o->b∉ch:=λb o e hb=>by have:=(fx b hb).1;rw[this] at e;cases e
 refine I.step (ch:=ch) (λb hb=>?_) (λb o _ _ hb e _=>up b o hb e) (λb o _ _ hb e _=>⟨o.slots,up b o hb e⟩) (λb o hb e n=>n) (λb o hb e=>⟨o,up b o hb e⟩) (λb q e=>e) (λb o q e=>e) (λb q e=>⟨#[],by rw[e];simp⟩) (λm hm=>?_) (λb o e=>?_) hg
 ·obtain ⟨_,f1,_,f3,f4,f5⟩:=fx b hb;exact ⟨f3,f1,f4,f5⟩
 ·obtain ⟨o,es,ep,ho,r⟩:=hm;exact ⟨o,es,ep,up _ o (λz=>(fx _ z).2.1 rfl) ho,r⟩
 ·refine (I.hok b o e).stay (λc v' hc q=>up c v' ?_ q) (λc q=>q) λc xs q=>q
  rcases hc with rfl | hc
  ·exact nx _ _ e
  ·exact nx _ _ hc
theorem Inv.track {p:Addr} {o:HO} (I:Inv X pins σ H s) (fp:kj X pins H p) (new:jh X.prog X.w (upd H p o) s.heap p o):Inv X pins σ (upd H p o) s:=by
 have nt:∀{b:Addr} {u:HO},H b=some u->b≠p:=λe z=>by rw[z,fp.1] at e;cases e
 refine I.step (h':=s.heap) (g':=s.gens) (d':=s.drawn) (t':=s.toks) (ch:=[p]) (λb hb=>?_) (λb o _ _ _ e _=>e) (λb o _ _ _ e _=>⟨o.slots,e⟩) (λb o hb e n=>?_) (λb o _ e=>⟨o,e⟩) (λb q e=>by rw[bM (nt e)];exact e) (λb o q e=>by rw[bM (nt e)];exact e)
  (λb q e=>⟨#[],by rw[bM (nt e),e];simp⟩) (λm hm=>hm) (λb u e=>?_) I.bare
 ·have e:b=p:=by simpa using hb
  subst e;obtain ⟨_,f1,_,f3,f4,f5⟩:=fp;exact ⟨f3,f1,f4,f5⟩
 ·rw[bM λz=>hb (by simp [z])];exact n
 ·by_cases hb:b=p
  ·subst hb;rw[aO] at e;cases e;exact new
  ·rw[bM hb] at e;exact (I.hok b u e).stay (λc v _ q=>q) (λc q=>by rw[bM (nt q)];exact q) λc xs q=>by rw[bM (nt q)];exact q
end
def PZ (H:Hp) (p:V×V) (x:V):Prop:=∃T,x=.ref T/\H T=some (.tup [p.1,p.2])
theorem PZ.same {H H':Hp} {p:V×V} {x:V} (h:PZ H p x) (e:aL H H'):PZ H' p x:=by obtain ⟨T,q,g⟩:=h;exact ⟨T,q,e _ _ g⟩
def Zst (h:Heap) (z TI TO:Addr) (base:Nat):Prop:=(∃a b,IsPair h TO a b)/\(IsZip h z TI TO .none\/∃(T:Addr) (b1:Bool) (o:Obj),BM h z TI TO (rawInt T) (.bool b1)/\h.get? T=some o/\@LE.le Nat instLENat base T)
theorem Eh {h:Heap} {z TI TO i1 i2 l1 l2:Addr} {f0 f1 a b:Value} {k1 k2:Nat} {xs ys:Array Value} (hz:BM h z TI TO f0 f1) (hTI:IsPair h TI (.ref i1) (.ref i2)) (hTO:IsPair h TO a b) (h1:h.IsListIter i1 l1 k1) (h2:h.IsListIter i2 l2 k2) (hl1:h.IsList l1 xs) (hl2:h.IsList l2 ys) (hT:TI≠TO) (hi:i1≠i2):ZipApart z TI TO i1 i2 l1 l2:=by
 obtain ⟨o1,g1,c1,_⟩:=h1;obtain ⟨o2,g2,c2,_⟩:=h2;obtain ⟨p1,q1,d1,_⟩:=hl1;obtain ⟨p2,q2,d2,_⟩:=hl2;have zt:Value.type "zip"≠.type "tuple":=lY (by decide);have it:Value.type "list_iterator"≠.type "tuple":=lY (by decide);have iz:Value.type "list_iterator"≠.type "zip":=lY (by decide);have lz:Value.type "list"≠.type "zip":=lY (by decide);have lt:Value.type "list"≠.type "tuple":=lY (by decide);have li:Value.type "list"≠.type "list_iterator":=lY (by decide)
 exact ⟨dB hTI hz zt.symm,dB hTO hz zt.symm,dB g1 hz (by rw[c1];exact iz),dB g2 hz (by rw[c2];exact iz),hT,dB hTI g1 (by rw[c1];exact it.symm),dB hTI g2 (by rw[c2];exact it.symm),dB hTO g1 (by rw[c1];exact it.symm),dB hTO g2 (by rw[c2];exact it.symm),hi,
  dB q1 hz (by rw[d1];exact lz),dB q1 hTO (by rw[d1];exact lt),dB q1 g1 (by rw[d1,c1];exact li),dB q1 g2 (by rw[d1,c2];exact li),dB q2 hz (by rw[d2];exact lz),dB q2 hTO (by rw[d2];exact lt),dB q2 g1 (by rw[d2,c1];exact li),dB q2 g2 (by rw[d2,c2];exact li)⟩
section
variable {X:Cx} {pins:List (Addr×Obj)} {σ:St}
theorem kj.heap {H H':Hp} {b:Addr} (f:kj X pins H b) (e:H' b=none):kj X pins H' b:=⟨e,f.2⟩
structure Fy where
 z:Addr
 TI:Addr
 TO:Addr
 i1:Addr
 i2:Addr
 S:Addr
 base:Nat
def Fy.all (a:Fy):List Addr:=[a.z,a.TI,a.TO,a.i1,a.i2,a.S]
structure Fy.Ok (a:Fy):Prop where
 tt:a.TI≠a.TO
 ii:a.i1≠a.i2
 Sz:a.S≠a.z
 STI:a.S≠a.TI
 STO:a.S≠a.TO
 Si1:a.S≠a.i1
 Si2:a.S≠a.i2
 lt:∀b∈a.all,@LT.lt Nat instLTNat b a.base
structure O8 (X:Cx) (pins:List (Addr×Obj)) (σ:St) (H1:Hp) (a:Fy) (l1 l2:Addr) (i:Nat) (H:Hp) (s:Shared):Prop where
 inv:Inv X pins σ H s
 same:aL H1 H
 fps:∀b∈a.all,kj X pins H b
 sz:a.base<=s.heap.objs.size
 zst:Zst s.heap a.z a.TI a.TO a.base
 pt:IsPair s.heap a.TI (.ref a.i1) (.ref a.i2)
 j1:s.heap.IsListIter a.i1 l1 i
 j2:s.heap.IsListIter a.i2 l2 i
variable {a:Fy} {l1 l2:Addr} {H1 H:Hp} {s:Shared} {i:Nat} {xs ys:List V}
theorem O8.push {h':Heap} (L:O8 X pins σ H1 a l1 l2 i H s) (O:a.Ok) (k:∀b o,b≠a.S->s.heap.get? b=some o->h'.get? b=some o) (hz:h'.objs.size=s.heap.objs.size):O8 X pins σ H1 a l1 l2 i H { s with heap:=h' }:=by
 refine ⟨L.inv.moved (g':=s.gens) (d':=s.drawn) (t':=s.toks) (ch:=[a.S]) (λb hb=>?_) (λb o hb e=>k b o (λz=>hb (by simp [z])) e) L.inv.bare,L.same,L.fps,by show a.base<=h'.objs.size;rw[hz];exact L.sz,?_,k _ _ O.STI.symm L.pt,L.j1.at λo e=>k _ o O.Si1.symm e,L.j2.at λo e=>k _ o O.Si2.symm e⟩
 ·have e:b=a.S:=by simpa using hb
  rw[e];exact L.fps _ (by simp [Fy.all])
 ·obtain ⟨⟨c,d,z0⟩,z4⟩:=L.zst;refine ⟨⟨c,d,k _ _ O.STO.symm z0⟩,?_⟩;rcases z4 with z1 | ⟨T,b1,o,z1,z2,z3⟩
  ·exact .inl (k _ _ O.Sz.symm z1)
  ·refine .inr ⟨T,b1,o,k _ _ O.Sz.symm z1,k _ _ (λe=>?_) z2,z3⟩;have:=O.lt a.S (by simp [Fy.all]);rw[<- e] at this;exact absurd this (Nat.not_lt.mpr z3)
theorem LB {A':Around} {E:Value->Shared->Prop} {Q:Option Value->Shared->Prop} (O:a.Ok) (q1:bR X.K H1 l1 xs) (q2:bR X.K H1 l2 ys) {x y:V} (ex:xs[i]?=some x) (ey:ys[i]?=some y) (L:O8 X pins σ H1 a l1 l2 i H s)
  (hQ:∀s',O8 X pins σ H1 a l1 l2 (i+1) (upd H s.heap.objs.size (.tup [x,y])) s'->(∀c o,c∉[a.z,a.TO,a.i1,a.i2]->s.heap.get? c=some o->s'.heap.get? c=some o)->H s.heap.objs.size=none->Q (some (.ref s.heap.objs.size)) s'):wpAny (model X.prog X.w) A' (pyNext (.ref a.z)) Q E s:=by
 obtain ⟨I,sm,fps,sz,zst,pt,j1,j2⟩:=id L;obtain ⟨us,ru,pu,_⟩:=I.list (sm.seq q1);obtain ⟨ws,rw',pw,_⟩:=I.list (sm.seq q2);obtain ⟨u,eu,r1⟩:=ru.get ex;obtain ⟨v,ev,r2⟩:=rw'.get ey;have fx:∀b∈[a.z,a.TO,a.i1,a.i2],kj X pins H b:=λb hb=>fps b (by simp only[Fy.all,aN,br,or_false] at hb ⊢;rcases hb with e | e | e | e <;> simp [e])
 have hT0:H s.heap.objs.size=none:=I.hok.fresh (ak _);have fT:kj X pins H s.heap.objs.size:=I.fpOk (ak _) hT0;have lt:∀b∈a.all,b≠s.heap.objs.size:=λb hb e=>by have:=O.lt b hb;rw[e] at this;exact absurd this (Nat.not_lt.mpr sz)
 have fin:∀h',(∀c o,c∉[a.z,a.TO,a.i1,a.i2]->s.heap.get? c=some o->h'.get? c=some o)->IsPair h' s.heap.objs.size u v->IsPair h' a.TI (.ref a.i1) (.ref a.i2)->h'.IsListIter a.i1 l1 (i+1)->h'.IsListIter a.i2 l2 (i+1)->Zst h' a.z a.TI a.TO a.base →
   Q (some (.ref s.heap.objs.size)) { s with heap:=h' }:=λh' up pr pt' j1' j2' zst'=>by
  have I2:Inv X pins σ H { s with heap:=h' }:=I.moved (g':=s.gens) (d':=s.drawn) (t':=s.toks) fx up I.bare;have I3:Inv X pins σ (upd H s.heap.objs.size (.tup [x,y])) { s with heap:=h' }:=I2.track fT ⟨jq rfl,[u,v],.cons r1 (.cons r2 .nil),⟨_,pr,rfl,_,rfl⟩⟩;refine hQ _ ⟨I3,sm.trans (aL.new hT0),λb hb=>(fps b hb).heap (by rw[bM (lt b hb)];exact (fps b hb).1),?_,zst',pt',j1',j2'⟩ up hT0;exact ai sz (aU (Heap.lt_size pr))
 obtain ⟨⟨c,d,z0⟩,z4⟩:=zst;rcases z4 with z1 | ⟨T,b1,o,z1,z2,z3⟩
 ·have D:=Eh z1 pt z0 j1 j2 pu.isList pw.isList O.tt O.ii;refine wpAny_pyNext_zip_item D z1 pt z0 j1 j2 pu.isList pw.isList (x:=u) (y:=v) (by simpa using eu) (by simpa using ev) λh' a1 a2 a3 a4 a5 a6 hk=>?_
  have up:∀c o,c∉[a.z,a.TO,a.i1,a.i2]->s.heap.get? c=some o->h'.get? c=some o:=λc o hc e=>by
   simp only[aN,br,or_false,not_or] at hc;exact hk c o hc.1 hc.2.1 hc.2.2.1 hc.2.2.2 e
  exact fin h' up a5 (hk _ _ D.TIz D.TITO D.TIi1 D.TIi2 pt) a3 a4 ⟨⟨_,_,a2⟩,.inr ⟨s.heap.objs.size,false,_,a1,a5,sz⟩⟩
 ·have D:=Eh z1 pt z0 j1 j2 pu.isList pw.isList O.tt O.ii;refine Le D z1 z2 pt j1 j2 pu.isList pw.isList (u:=u) (v:=v) (by simpa using eu) (by simpa using ev) λh' a1 a3 a4 a5 hk=>?_
  have up:∀c o,c∉[a.z,a.TO,a.i1,a.i2]->s.heap.get? c=some o->h'.get? c=some o:=λc o hc e=>by
   simp only[aN,br,or_false,not_or] at hc;exact hk c o hc.1 hc.2.2.1 hc.2.2.2 e
  have Tn:∀b∈a.all,T≠b:=λb hb e=>by have:=O.lt b hb;rw[<- e] at this;exact absurd this (Nat.not_lt.mpr z3)
  exact fin h' up a5 (hk _ _ D.TIz D.TIi1 D.TIi2 pt) a3 a4 ⟨⟨_,_,hk _ _ D.TOz D.TOi1 D.TOi2 z0⟩,.inr ⟨T,true,o,a1,hk _ _ (Tn _ (by simp [Fy.all])) (Tn _ (by simp [Fy.all])) (Tn _ (by simp [Fy.all])) z2,z3⟩⟩
theorem LA {A':Around} {E:Value->Shared->Prop} {Q:Option Value->Shared->Prop} (hh:A'.handled=none) (O:a.Ok) (q1:bR X.K H1 l1 xs) (q2:bR X.K H1 l2 ys) (hi:xs.length<=i) (L:O8 X pins σ H1 a l1 l2 i H s)
  (hQ:∀s',Inv X pins σ H s'->(∀c o,c∉[a.z,a.TO,a.i1,a.i2]->s.heap.get? c=some o->s'.heap.get? c=some o)->Q none s'):wpAny (model X.prog X.w) A' (pyNext (.ref a.z)) Q E s:=by
 obtain ⟨I,sm,fps,sz,zst,pt,j1,j2⟩:=id L;obtain ⟨us,ru,pu,_⟩:=I.list (sm.seq q1);obtain ⟨ws,rw',pw,_⟩:=I.list (sm.seq q2);have lx:=ru.length;have none1:us.toArray[i]?=none:=by simp;lia
 have fx:∀b∈[a.z,a.TO,a.i1,a.i2],kj X pins H b:=λb hb=>fps b (by simp only[Fy.all,aN,br,or_false] at hb ⊢;rcases hb with e | e | e | e <;> simp [e])
 have fin:∀h',(∀c o,c∉[a.z,a.TO,a.i1,a.i2]->s.heap.get? c=some o->h'.get? c=some o)->Q none { s with heap:=h' }:=λh' up=>hQ _ (I.moved (g':=s.gens) (d':=s.drawn) (t':=s.toks) fx up I.bare) up
 obtain ⟨⟨c,d,z0⟩,z4⟩:=zst;rcases z4 with z1 | ⟨T,b1,o,z1,z2,z3⟩
 ·have D:=Eh z1 pt z0 j1 j2 pu.isList pw.isList O.tt O.ii;refine wpAny_pyNext_zip_end hh D z1 pt z0 j1 j2 pu.isList pw.isList (.inl none1) λh' hk=>fin h' λc o hc e=>?_
  simp only[aN,br,or_false,not_or] at hc;exact hk c o hc.1 hc.2.1 hc.2.2.1 hc.2.2.2 e
 ·have D:=Eh z1 pt z0 j1 j2 pu.isList pw.isList O.tt O.ii;refine Ld hh D z1 z2 pt j1 pu.isList none1 λh' hk=>fin h' λc o hc e=>?_
  simp only[aN,br,or_false,not_or] at hc;exact hk c o hc.1 hc.2.2.1 hc.2.2.2 e
theorem LD {A':Around} {R:Result->Shared->Prop} (hh:A'.handled=none) (O:a.Ok) (hz:xs.length<=sizeLine) (hl:ys.length=xs.length) (q1:bR X.K H1 l1 xs) (q2:bR X.K H1 l2 ys)
  (fin:∀s' H' ts acc c,Inv X pins σ H' s'->aL H1 H'->kj X pins H' a.S->s'.heap.get? a.S=some (lobj acc c)->cZ ts acc->Paired (PZ H') (xs.zip ys) ts->R (.ok (.ret .none)) s') :
  ∀(k i:Nat) (s:Shared) (H:Hp) (ts:List V) (acc:List Value) (c:Nat),xs.length - i=k->i<=xs.length->O8 X pins σ H1 a l1 l2 i H s->s.heap.get? a.S=some (lobj acc c)->cZ ts acc->Paired (PZ H) ((xs.zip ys).take i) ts →
   codeAny (model X.prog X.w) A' (.builtin "list.extend.loop" ⟨[.ref a.S,.ref a.z,.none],[]⟩) R s:=by
 have Sn:a.S∉[a.z,a.TO,a.i1,a.i2]:=λh=>by
  simp only[aN,br,or_false] at h;rcases h with e | e | e | e
  ·exact O.Sz e
  ·exact O.STO e
  ·exact O.Si1 e
  ·exact O.Si2 e
 intro k
 induction k with
 | zero =>
  intro i s H ts acc c hk hi L gS rv prs;have e:i=xs.length:=by lia
  refine codeAny_builtin RM ?_;rw[Around.under_plainId kS _]
  change wpAny _ A'.in1 (pyNext (Value.ref a.z) >>= _) _ _ s
  refine wpAny_bind (LA hh O q1 q2 (by lia) L λs' I' up=>wpAny_pure (fin s' H ts acc c I' L.same (L.fps _ (by simp [Fy.all])) (up _ _ Sn gS) rv ?_));rwa [aI (by rw[BQ];lia)] at prs
 | succ k ih =>
  intro i s H ts acc c hk hi L gS rv prs;have hlt:i < xs.length:=by lia
  have lt:=prs.length;have la:=rv.length;refine codeAny_builtin RM ?_;rw[Around.under_plainId kS _]
  change wpAny _ A'.in1 (pyNext (Value.ref a.z) >>= _) _ _ s
  refine wpAny_bind (LB O q1 q2 (x:=xs[i]) (y:=ys[i]'(by lia)) (by simp [hlt]) (by simp) L λs' L' up hT=>?_);have gS':=up _ _ Sn gS
  change wpAny _ A'.in1 (updateSeq a.S (·.push (Value.ref s.heap.objs.size)) >>= _) _ _ s'
  have small:acc.length<=sizeLine:=by
   rw[cG,BQ] at lt
   lia
  refine wpAny_bind (wpAny_updateSeq gS' rfl (wpAny_pure ⟨plainId_quiet kS _,?_⟩) (by rw[aY];exact small) (by
   show (acc.toArray.push (Value.ref s.heap.objs.size)).size<=sizeLine+1
   rw[Array.size_push,aY]
   lia))
  have gS2:=kI gS' (λb=>b.push (Value.ref s.heap.objs.size));have e2:(acc.toArray.push (Value.ref s.heap.objs.size))=(acc++[Value.ref s.heap.objs.size]).toArray:=by simp
  rw[e2] at gS2;refine ih (i+1) _ (upd H s.heap.objs.size (.tup [xs[i],ys[i]'(by lia)])) (ts++[.ref s.heap.objs.size]) (acc++[.ref s.heap.objs.size]) _ (by lia) hlt (L'.push O (λb o hb e=>(Heap.get?_update_other _ _ (Ne.symm hb)).trans e) (Heap.size_update ..)) gS2 (rv.append (show cZ [V.ref s.heap.objs.size] [Value.ref s.heap.objs.size] from .cons rfl .nil)) ?_;have zp:(xs.zip ys)[i]?=some (xs[i],ys[i]'(by lia)):=by simp [RO,hlt]
  rw[take_snoc zp];exact (Paired.imp' (λ_ _ z=>z.same (aL.new hT)) prs).snoc ⟨_,rfl,aO⟩
theorem Ip:typeLookup (.type "zip") "__len__"=pure Option.none:=by rw[typeLookup_type,builtinLookup_eq_fast];kernel_rfl
theorem FI:typeLookup (.type "zip") "__length_hint__"=pure Option.none:=by rw[typeLookup_type,builtinLookup_eq_fast];kernel_rfl
theorem LC {A' : Around} {R : Result → Shared → Prop} (hh : A'.handled = none) (O : a.Ok) (hz : xs.length ≤ sizeLine) (hl : ys.length = xs.length) (q1 : bR X.K H1 l1 xs) (q2 : bR X.K H1 l2 ys) (L : O8 X pins σ H1 a l1 l2 0 H s) (gS : s.heap.get? a.S = some (lobj [] 0)) (z0 : IsZip s.heap a.z a.TI a.TO .none)
    (fin : ∀ s' H' ts acc c, Inv X pins σ H' s' → aL H1 H' → kj X pins H' a.S → s'.heap.get? a.S = some (lobj acc c) → cZ ts acc → Paired (PZ H') (xs.zip ys) ts → R (.ok (.ret .none)) s') :
    wpAny (model X.prog X.w) A'.in1 (Builtin.«list.__init__» ⟨[.ref a.S, .ref a.z], []⟩) (λfl s' => match fl with | .done f => R (.ok f) s' | .again c' => c'.quiet = true /\ codeAny (model X.prog X.w) A' c' R s') (λe s' => R (.error e) s') s := by
  change wpAny _ A'.in1 (do let old <- Builtin.List.listItems (Value.ref a.S); Builtin.List.listUpdate (Value.ref a.S) (λ_ => #[]); letGo old.toList.reverse; Builtin.List.listExtendWith (Value.ref a.S) (Value.ref a.z) Value.none) _ _ s
  refine wpAny_bind ?_;unfold Builtin.List.listItems;refine wpAny_bind (wpAny_seqItems gS rfl (wpAny_pure ?_))
  change wpAny _ A'.in1 (updateSeq a.S (λ_ => #[]) >>= λ_ => letGo (#[] : Array Value).toList.reverse >>= λ_ => Builtin.List.listExtendWith (Value.ref a.S) (Value.ref a.z) Value.none) _ _ s
  refine wpAny_bind (wpAny_updateSeq gS rfl ?_);have g1 := kI gS (λ_ => (#[] : Array Value));obtain ⟨n1, g1⟩ : ∃ n1, (s.heap.update a.S (Obj.mapSeq λ_ => (#[] : Array Value))).get? a.S = some (lobj [] n1) := ⟨_, g1⟩;have L1 := L.push (h' := s.heap.update a.S (Obj.mapSeq λ_ => (#[] : Array Value))) O (λb o hb e => (Heap.get?_update_other _ _ (Ne.symm hb)).trans e) (Heap.size_update ..);have z1 : IsZip (s.heap.update a.S (Obj.mapSeq λ_ => (#[] : Array Value))) a.z a.TI a.TO .none := (Heap.get?_update_other _ _ O.Sz).trans z0;refine wpAny_bind (wpAny_letGo ?_);unfold Builtin.List.listExtendWith;have ty : Shared.TypeIs { s with heap := s.heap.update a.S (Obj.mapSeq λ_ => (#[] : Array Value)) } (.ref a.z) "zip" := ⟨_, z1, rfl⟩;refine wpAny_bind (wpAny_typeOf ty ?_);have h1 : Builtin.List.listSameRef (.ref a.S) (.ref a.z) = false := by simp [Builtin.List.listSameRef, O.Sz]
  have h2 : (Value.type "zip" == Value.type "list") = false := by decide
  have h3 : (Value.type "zip" == Value.type "tuple") = false := by decide
  simp only [h1, h2, h3, Bool.or_false, iY, if_false];refine wpAny_bind (wpAny_pyIter_zip z1 (wpAny_bind (wpAny_holding ?_)));unfold Builtin.List.listLengthHint;refine wpAny_bind (wpAny_specialOf ty Ip ?_)
  change wpAny _ A'.in1 (specialOf (Value.ref a.z) (Str.ofString "__length_hint__") >>= _) _ _ _
  refine wpAny_bind (wpAny_specialOf ty FI (wpAny_pure ?_))
  change wpAny _ A'.in1 (rule "list.extend.makes-room" >>= λ_ => Builtin.List.listTouch (Value.ref a.S) >>= λ_ => again (.builtin "list.extend.loop" ⟨[Value.ref a.S, Value.ref a.z, Value.none], []⟩)) _ _ _
  refine wpAny_bind (wpAny_rule (wpAny_bind ?_))
  change wpAny _ A'.in1 (updateSeq a.S (·.push Value.none) >>= λ_ => updateSeq a.S (·.pop)) _ _ _
  refine wpAny_bind (wpAny_updateSeq g1 rfl ?_);have g2 := kI g1 (λb => b.push Value.none);obtain ⟨n2, g2⟩ : ∃ n2, ((s.heap.update a.S (Obj.mapSeq λ_ => (#[] : Array Value))).update a.S (Obj.mapSeq λb => b.push Value.none)).get? a.S = some (lobj [Value.none] n2) := ⟨_, g2⟩;have L2 := L1.push (h' := (s.heap.update a.S (Obj.mapSeq λ_ => (#[] : Array Value))).update a.S (Obj.mapSeq λb => b.push Value.none)) O (λb o hb e => (Heap.get?_update_other _ _ (Ne.symm hb)).trans e) (Heap.size_update ..);refine wpAny_updateSeq g2 rfl ?_ (jq rfl);have g3 := kI g2 (λb => b.pop);have L3 := L2.push (h' := ((s.heap.update a.S (Obj.mapSeq λ_ => (#[] : Array Value))).update a.S (Obj.mapSeq λb => b.push Value.none)).update a.S (Obj.mapSeq λb => b.pop)) O (λb o hb e => (Heap.get?_update_other _ _ (Ne.symm hb)).trans e) (Heap.size_update ..);exact wpAny_pure ⟨plainId_quiet kS _, LD hh O hz hl q1 q2 fin _ 0 _ H [] [] _ rfl (bu _) L3 g3 .nil .nil⟩
end
section
variable {X:Cx}
theorem Qa (n:Nat):Fy.Ok ⟨n+4,n+2,n+3,n,n+1,n+5,n+5+1⟩:=by
 have ne:∀p q:Nat,p≠q->@Ne Addr p q:=λ_ _ h=>h
 refine ⟨ne (n+2) (n+3) (by lia),ne n (n+1) (by lia),ne (n+5) (n+4) (by lia),ne (n+5) (n+2) (by lia),ne (n+5) (n+3) (by lia),ne (n+5) n (by lia),ne (n+5) (n+1) (by lia),λb hb=>?_⟩;have hb':b∈[n+4,n+2,n+3,n,n+1,n+5]:=hb;show @LT.lt Nat instLTNat b (n+5+1)
 simp only[aN,br,or_false] at hb';rcases hb' with e | e | e | e | e | e <;> (rw[e];exact bK (fv _) (by lia))
def FO (K:FG9) (ta:TA):TE:=λσ H Q=>ta σ H λvs H1=>∃(l1 l2:Addr) (xs ys:List V),vs=[.ref l1,.ref l2]/\bR K H1 l1 xs/\bR K H1 l2 ys/\ys.length=xs.length /\
 ∀L ts H',aL H1 H'->H1 L=none->H' L=some (.lst ts)->Paired (PZ H') (xs.zip ys) ts->Q (.ref L) H'
theorem IP {e1 e2:Expr} {ta:TA} {p p2 pos pos2:Pos} (hg:Gl X "list") (hm:X.mg "list"=none) (hg2:Gl X "zip") (hm2:X.mg "zip"=none) (ha:PA X [e1,e2] ta) (hc:X.calm=true:=by rfl)
  (hs:starEach [e1,e2] X.env=[(false,eval e1 X.env),(false,eval e2 X.env)]:=by rfl) (hs2:starEach [e2] X.env=[(false,eval e2 X.env)]:=by rfl)
  (hs3:starEach [Expr.Call (.Name "zip" p2) [e1,e2] [] pos2] X.env=[(false,eval (.Call (.Name "zip" p2) [e1,e2] [] pos2) X.env)]:=by rfl) :
  PE X (.Call (.Name "list" p) [.Call (.Name "zip" p2) [e1,e2] [] pos2] [] pos) (FO X.K ta):=by
 sleep 4;refine wpAny_Call_Name_kw (kh I hg hm boot_list ?_);refine PyProof.Rows.callWith_type1 ?_ (by rw[hs3];rfl) rfl;rw[hs3];show wpAny _ _ (spliced ((false,eval (.Call (.Name "zip" p2) [e1,e2] [] pos2) X.env) :: [])) _ _ s
 refine Calls.spliced_cons ?_;refine Call_ (kh I hg2 hm2 boot_zip (PyProof.Rows.callWith_type1 (gU (ha pos2 pins s σ H _ I h) λus s1 ⟨vs,H1,I1,r1,q1⟩=>?_) (by rw[hs,hs2]) (by rw[hs2];rfl)));obtain ⟨l1,l2,xs,ys,e,qx,qy,hl,q⟩:=q1;subst e;obtain ⟨u,v,rfl,ru,rv⟩:=vals2 r1;cases ru;cases rv;obtain ⟨us,rx,px,hz⟩:=I1.list qx;obtain ⟨ws,ry,py,_⟩:=I1.list qy;refine call_zip_2 px.isList py.isList λh' a1 a2 a3 a4 a5 a6 hk=>?_
 refine Calls.spliced_nil ?_;have I2:Inv X pins σ H1 { s1 with heap:=h' }:=I1.kept (t':=s1.toks) hk;have up:∀b o,h'.get? b=some o->(h'.push { cls:=.type "list",data:=.seq #[] }).get? b=some o:=λb o e=>Heap.get?_push_of_some _ e
 have O:Fy.Ok ⟨s1.heap.objs.size+4,s1.heap.objs.size+2,s1.heap.objs.size+3,s1.heap.objs.size,s1.heap.objs.size+1,h'.objs.size,h'.objs.size+1⟩:=by
  rw[a6];exact Qa s1.heap.objs.size
 have old:∀b∈(Fy.mk (s1.heap.objs.size+4) (s1.heap.objs.size+2) (s1.heap.objs.size+3) s1.heap.objs.size (s1.heap.objs.size+1) h'.objs.size (h'.objs.size+1)).all,s1.heap.objs.size<=b:=λb hb=>by
  rw[a6] at hb;simp only[Fy.all,aN,br,or_false] at hb;rcases hb with rfl | rfl | rfl | rfl | rfl | rfl <;> first | exact zv _ _ | exact ak _
 have gS:(h'.push { cls:=.type "list",data:=.seq #[] }).get? h'.objs.size=some (lobj [] 0):=Heap.get?_push_size _ rfl;refine callType_codes (Q₁:=λob t=>ob=.ref h'.objs.size/\t={ s1 with heap:=h'.push { cls:=.type "list",data:=.seq #[] } }) PySem.F.called_list (PySem.F.typeCall_list_1 _) PySem.F.entry_list_init (code_list_new _ ⟨rfl,rfl⟩) λob t ht=>?_
 obtain ⟨rfl,rfl⟩:=ht;refine ⟨⟨_,gS,rfl⟩,PySem.F.args_list_init_2 _ _,?_⟩
 have L:O8 X pins σ H1 ⟨s1.heap.objs.size+4,s1.heap.objs.size+2,s1.heap.objs.size+3,s1.heap.objs.size,s1.heap.objs.size+1,h'.objs.size,h'.objs.size+1⟩ l1 l2 0 H1 { s1 with heap:=h'.push { cls:=.type "list",data:=.seq #[] } } :=
  ⟨I2.kept (t':=s1.toks) up,aL.refl _,λb hb=>I1.fpOk (old b hb) (I1.hok.fresh (old b hb)),by rw[Heap.size_push];exact ak _,⟨⟨_,_,up _ _ a3⟩,.inl (up _ _ a1)⟩,up _ _ a2,a4.at λo e=>up _ o e,a5.at λo e=>up _ o e⟩
 refine LC (A':=X.A.in1) (I.ok.hd hc) O hz hl qx qy L gS (up _ _ a1) λs' H' ts acc c I' sm fS gS' vs' prs=>⟨rfl,?_⟩
 have nS:H1 h'.objs.size=none:=I1.hok.fresh (old _ (by simp [Fy.all]));have lt:=prs.length;rw[BQ] at lt;exact ⟨.ref h'.objs.size,_,I'.track (o:=.lst ts) fS ⟨by lia,acc,c,vs',gS'⟩,rfl,q _ ts _ (sm.trans (aL.new fS.1)) nS aO (Paired.imp' (λ_ _ z=>z.same (aL.new fS.1)) prs)⟩
end
end L2
namespace Nm
def ya:List Int->Int->Int
 | [],m=>m
 | b :: r,m=>ya r (m*(b / g m b))
theorem vP {m b:Int} (hm:0 < m) (hb:0 < b):0 < m*(b / g m b):=mO hm (Fg (t:=m) hb)
theorem Fd {m b : Int} : b ∣ m * (b / g m b) := by
  have h1 := AY m b;refine ⟨lo m b, ?_⟩;have h2 : b / g m b * g m b = b := yc m b
  calc m * (b / g m b) = lo m b * g m b * (b / g m b) := by rw [h1]
    _ = lo m b * (b / g m b * g m b) := by rw [d5, gh (g m b)]
    _ = b * lo m b := by rw [h2, gh]
theorem A0:∀{bs:List Int} {m:Int},0 < m->(∀b∈bs,0 < b)->0 < ya bs m
 | [],_,hm,_=>hm
 | b :: r,m,hm,h=>A0 (bs:=r) (vP hm (h b dm)) λc hc=>h c (b6 _ hc)
theorem Ht:∀{bs:List Int} {m:Int},m∣ya bs m
 | [],_=>Int.dvd_refl _
 | b :: r,m=>Int.dvd_trans (Int.dvd_mul_right m _) (Ht (bs:=r))
theorem Hs:∀{bs:List Int} {m b:Int},b∈bs->b∣ya bs m
 | c :: r,m,b,h=>by
  rcases aN.mp h with rfl | h
  ·exact Int.dvd_trans Fd (Ht (bs:=r))
  ·exact Hs (bs:=r) h
end Nm
namespace L2
open PySem PySem.Spec PyProof.Rows Nm
def FA (K:FG9) (H:Hp) (p:Addr) (ns:List (Int×Int)):Prop:=∃xs,H p=some (.lst xs)/\Paired (λn x=>Ic K H x n) ns xs
theorem FA.same {K:FG9} {H H':Hp} {p:Addr} {ns:List (Int×Int)} (h:FA K H p ns) (e:aL H H'):FA K H' p ns:=by obtain ⟨xs,g,q⟩:=h;exact ⟨xs,e _ _ g,Paired.imp' (λ_ _ z=>e.num z) q⟩
def GG (K:FG9) (T:String):V->Hp->VK->Prop:=λx H Q=>KY K T x H Q\/∃a xs b,x=.ref a/\qJ K H a xs/\PySem.W.kitOne K (.type "tuple") (.type T)=some b/\Q (.bl b) H
theorem Dp:∀{bs:List Int} {m b:Int},ya (bs++[b]) m=ya bs m*(b / g (ya bs m) b)
 | [],_,_=>rfl
 | c :: r,m,b=>Dp (bs:=r)
def fW (ns:List (Int×Int)) (B:Int):List Int:=ns.map λn=>n.1*(B / n.2)
def ir (ns:List (Int×Int)):Int:=ya (ns.map (·.2)) 1
def Nd (ns ms:List (Int×Int)):Int:=(List.zipWith (·*·) (fW ns (ir ns)) (fW ms (ir ms))).sum
theorem sW {ns:List (Int×Int)} {n:Int×Int} (h:n∈ns):n.2∣ir ns:=Hs (aE.mpr ⟨n,h,rfl⟩)
theorem IJ {σ:St} {H:Hp} {Q:VK} {K:FG9} {ta:TA} (h:ta σ H λvs H1=>∃(l1 l2:Addr) (xs ys:List V),vs=[.ref l1,.ref l2]/\bR K H1 l1 xs/\bR K H1 l2 ys/\ys.length=xs.length /\
 ∀L ts H',aL H1 H'->H1 L=none->H' L=some (.lst ts)->Paired (PZ H') (xs.zip ys) ts->Q (.ref L) H'):FO K ta σ H Q:=h
theorem Ug {m b:Int} (hb:0 < b) {k:Nat} (h:Sz k b):Sz k (g m b):=h.le (by
 have h1:(g m b).natAbs=Int.gcd m b:=by unfold g;simp
 rw[h1];exact jm (by lia) (by have:=fO (a:=m) (b:=b);exact gR.mpr this |> λz=>by simpa using z))
theorem NK {ts us:List Int} {i:Nat} {pq:V×V} (h:((ts.map V.int).zip (us.map V.int))[i]?=some pq):∃t u,ts[i]?=some t/\us[i]?=some u/\pq=(.int t,.int u):=by
 rw[RO,aG,aG] at h;obtain ⟨h1,h2⟩:=h;cases e1:ts[i]? with
 | none=>rw[e1] at h1;cases h1
 | some t =>
  cases e2:us[i]? with
  | none=>rw[e2] at h2;cases h2
  | some u =>
   rw[e1] at h1;rw[e2] at h2;refine ⟨t,u,rfl,rfl,?_⟩;cases pq;simp at h1 h2;rw[h1,h2]
def KO (K:FG9):Sp:=λvs H Q _=>∃x n,vs=[x]/\Ic K H x n/\zg n/\∀H',aL H H'->Q (.bl true) H'
inductive xA (K:FG9) (vs:List V) (H:Hp) (Q:VK) (E9:XK):Prop
 | mk (p:Addr) (ns:List (Int×Int)):vs=[.ref p,.int ns.length]->FA K H p ns->ns.length<=1000->(∀n∈ns,zg n)->(∀H',aL H H'->Q (.bl true) H')->xA K vs H Q E9
theorem zL {X:Cx} {a:Expr} {ta:TE} {pos:Pos} {c:Str} {T:String} {p p2:Pos} (hg:Gl X "isinstance") (hm:X.mg "isinstance"=none) (hb:bootBuiltins c=some (.type T)) (hmc:X.mg c=none) (ha:PE X a ta) (hgc:Gl X c:=by rfl) (hn:c≠"__name__":=by decide)
  (hd:(c == ("__debug__":Str))=false:=by decide) (he:starEach [a,.Name c p2] X.env=[(false,eval a X.env),(false,eval (.Name c p2) X.env)]:=by rfl)
  (hpl:(backTo pos (starEach [.Name c p2] X.env)).any (·.1)=false:=by rfl) (he2:starEach [.Name c p2] X.env=[(false,eval (.Name c p2) X.env)]:=by rfl):PE X (.Call (.Name "isinstance" p) [a,.Name c p2] [] pos) (TL (GG X.K T) ta):=by
 sleep 4;refine wpAny_Call_Name_kw (kh I hg hm PyProof.Rows.boot_isinstance ?_);have hA:PA X [a,.Name c p2] (rn ta (rn (tC (.ty T)) KG)):=ae ha (ae (JR hgc hmc hb rfl hn hd) ag he2) (by rw[he,he2])
 have hq:rn ta (rn (tC (.ty T)) KG) σ H (λvs H1=>∃x,vs=[x,.ty T]/\GG X.K T x H1 Q):=by
  show ta σ H λx H1=>∃x',[x,V.ty T]=[x',V.ty T]/\GG X.K T x' H1 Q
  have e:(λx H1=>∃x',[x,V.ty T]=[x',V.ty T]/\GG X.K T x' H1 Q)=λx H1=>GG X.K T x H1 Q:=by
   funext x H1;apply propext;constructor
   ·rintro ⟨x',e,q⟩;cases e;exact q
   ·intro q;exact ⟨x,rfl,q⟩
  rw[e];exact h
 refine PyProof.Rows.callWith_builtin1 (gU (hA pos pins s σ H _ I hq) λus s1 ⟨vs,H1,I1,r1,x,e,q1⟩=>?_) (by rw[he,he2]) hpl;subst e;obtain ⟨u,w',rfl,ru,rt⟩:=vals2 r1;cases rt;rcases q1 with ⟨t,bb,ty,ek,q⟩ | ⟨ad,xs,bb,rfl,hs,ek,q⟩
 ·exact Ds I1 ru ty ek λtk=>⟨.bl bb,H1,I1.tok tk,rfl,q⟩
 ·cases ru;obtain ⟨its,_,⟨o,g1,g2,_⟩,_⟩:=I1.tuple hs;exact dH PySem.W.kitx_tuple I1.kIn ⟨o,g1,g2⟩ ek (λz=>nomatch z) λtk=>⟨.bl bb,H1,I1.tok tk,rfl,q⟩
theorem Mc {H:Hp} {Q:VK} {l:Addr} {k:Nat} {x:V} (h:H l=some (.lst [x])) (hk:k<=1000) (q:∀p H',aL H H'->H p=none->H' p=some (.lst (List.replicate k x))->Q (.ref p) H'):SN (.ref l) (.int k) H Q :=
 ⟨l,k,[x],rfl,rfl,h,by lia,by lia,aU (bF (by simp;lia)),λp hp=>q p _ (aL.new hp) hp (by rw[aO];simp)⟩
theorem Rt {xs:List V} {k:Nat} (h:k<=xs.length):qZ xs none (some (k:Int))=xs.take k:=by
 unfold qZ;rw[HT.Ax,HT.vz,jk h];simp
theorem Nj {xs:List V} {k:Nat}:qZ xs (some (k:Int)) none=xs.drop k:=by
 unfold qZ;rw[HT.Ax,HT.vz];by_cases h:k<=xs.length
 ·rw[jk h,aI (by simp)]
 ·rw[Nat.min_eq_right (by lia),List.drop_of_length_le (by lia),List.drop_of_length_le (by lia)];simp
theorem uV {α β:Type} {F:α->β->Prop} {x:α} {y:β} (h:F x y):∀m:Nat,Paired F (List.replicate m x) (List.replicate m y)
 | 0=>.nil
 | m+1=>.cons h (uV h m)
theorem fE {n a:Nat} (h:a < n):Lv n (a:Int)=some a:=by
 unfold Lv;rw[if_pos (by lia),if_pos (by lia),Int.toNat_natCast]
theorem HQ {xs:List V} {k:Nat}:qZ xs none (some (k:Int))=xs.take k:=by
 by_cases h:k<=xs.length
 ·exact Rt h
 ·unfold qZ;rw[HT.Ax,HT.vz,Nat.min_eq_right (by lia),aI (by simp),aI (by lia)];rfl
theorem mV {α β:Type} {F:α->β->Prop}:∀{l1:List α} {l2:List β} (_:Paired F l1 l2) (k:Nat),Paired F (l1.take k) (l2.take k)
 | _,_,.nil,k=>by simp;exact .nil
 | _,_,.cons h r,0=>.nil
 | _,_,.cons h r,k+1=>.cons h (mV r k)
def OC (K:FG9):List V->Hp->VK->Prop:=λxs H Q=>∃p ys,xs=[.ref p]/\(bR K H p ys\/qJ K H p ys)/\∀l,H l=none->Q (.ref l) (upd H l (.lst ys))
theorem fV {X:Cx} (K:FG9) (hK:X.K=K):oR X (.type "list") (OC K):=by subst hK;exact qI
theorem aL.none {H H':Hp} {l:Addr} (s:aL H H') (h:H' l=Option.none):H l=Option.none:=by
 cases e:H l with
 | none=>rfl
 | some o=>have:=s _ _ e;rw[h] at this;cases this
def P0 (K:FG9) (H:Hp) (p:Addr) (rows:List (List (Int×Int))):Prop:=∃xs,H p=some (.lst xs)/\Paired (λns x=>∃q,x=V.ref q/\FA K H q ns) rows xs
theorem LN {b:Int} (h:b.natAbs<=1000000):Sz 20 b:=bL h (by decide)
theorem c7.none {H H':Hp} {b l:Addr} (u:c7 b H H') (B:ic H' b) (h:H' l=Option.none):H l=Option.none:=by
 cases e:H l with
 | none=>rfl
 | some o =>
  by_cases z:l=b
  ·obtain ⟨_,_,_,_,_,e2,_⟩:=B;rw[<- z,h] at e2;cases e2
  ·have:=u.1 l o e z;rw[h] at this;cases this
inductive Ah (K:FG9) (vs:List V) (H:Hp) (Q:VK) (E9:XK):Prop
 | mk (p:Addr) (rows:List (List (Int×Int))) (m:Nat):vs=[.ref p,.int rows.length,.int m]->P0 K H p rows->rows.length<=1000->m<=1000->((∀ns∈rows,ns.length=m/\∀n∈ns,zg n))->(∀H',aL H H'->Q (.bl true) H')->Ah K vs H Q E9
end L2
namespace Nm
def nm (q:Rat):Int×Int:=(q.num,(q.den:Int))
theorem jE (q:Rat):0 < (nm q).2:=by have:=q.den_pos;show 0 < (q.den:Int);lia
theorem E6 (q:Rat):Int.gcd (nm q).1 (nm q).2=1:=q.reduced
theorem Q2 {p q:Rat} (h:nm p=nm q):p=q:=by
 have h1:p.num=q.num:=congrArg Prod.fst h;have h2:(p.den:Int)=q.den:=congrArg Prod.snd h;exact Rat.ext h1 (by lia)
theorem pV (q : Rat) : (q.num : Rat) = q * (q.den : Rat) := by
  have h := Rat.num_divInt_den q;rw [Rat.divInt_eq_div] at h
  have hd : ((q.den : Int) : Rat) ≠ 0 := by
    intro z;have z := zm.mp z;have := q.den_pos
    lia
  have e : ((q.den : Int) : Rat) = (q.den : Rat) := aT _
  calc (q.num : Rat) = (q.num : Rat) / ((q.den : Int) : Rat) * ((q.den : Int) : Rat) := (Rat.div_mul_cancel hd).symm
    _ = q * (q.den : Rat) := by rw [h, e]
theorem S3 {a b:Int} {q:Rat} (hb:0 < b) (hg:Int.gcd a b=1) (e:q*(b:Rat)=(a:Rat)):(a,b)=nm q:=by
 have h1:a*(q.den:Int)=q.num*b:=by
  apply d6.mp;rw[be,be,<- e,pV,aT];grind
 obtain ⟨e1,e2⟩:=uniq hb (jE q) hg (E6 q) h1;exact Prod.ext e1 e2
theorem qB {t b:Int} {q:Rat} (hb:0 < b) (e:q*(b:Rat)=(t:Rat)):(lo t b,hi t b)=nm q:=by
 refine S3 (Fg hb) (AW (by lia)) ?_;have h:=AX t b;have hb':(b:Rat)≠0:=λz=>by have:=zm.mp z;lia
 have h2:((lo t b:Int):Rat)*(b:Rat)=(t:Rat)*((hi t b:Int):Rat):=by rw[<- be,h,be]
 rw[<- e] at h2;have h3:(q*((hi t b:Int):Rat) - ((lo t b:Int):Rat))*(b:Rat)=0:=by grind
 rcases BO.mp h3 with h4 | h4
 ·grind
 ·exact absurd h4 hb'
def Fr (M V:Nat) (q:Rat):Prop:=∃z:Int,q*(M:Rat)=(z:Rat)/\z.natAbs<=V*M
theorem Fr.mono {M V V':Nat} {q:Rat} (h:Fr M V q) (l:V<=V'):Fr M V' q:=by obtain ⟨z,e,b⟩:=h;exact ⟨z,e,ai b (az _ l)⟩
theorem Fr.scale {M V:Nat} {q:Rat} (h:Fr M V q) (k:Nat):Fr (M*k) V q:=by
 obtain ⟨z,e,b⟩:=h;refine ⟨z*k,?_,?_⟩
 ·rw[eY,be,<- e,aT,Rat.mul_assoc]
 ·rw[dg,cw,<- cR];exact az _ b
theorem Fr.scaleL {M V:Nat} {q:Rat} (h:Fr M V q) (k:Nat):Fr (k*M) V q:=by rw[bZ];exact h.scale k
theorem Fr.dvd {M N V:Nat} {q:Rat} (h:Fr M V q) (d:M∣N):Fr N V q:=by obtain ⟨k,rfl⟩:=d;exact h.scale k
theorem Fr.add {M V W:Nat} {p q:Rat} (h:Fr M V p) (h':Fr M W q):Fr M (V+W) (p+q):=by
 obtain ⟨z,e,b⟩:=h;obtain ⟨z',e',b'⟩:=h';refine ⟨z+z',by rw[BP,<- e,<- e',Rat.add_mul],?_⟩;rw[xl];have:=Int.natAbs_add_le z z'
 lia
theorem Fr.neg {M V:Nat} {q:Rat} (h:Fr M V q):Fr M V (-q):=by
 obtain ⟨z,e,b⟩:=h;exact ⟨-z,by rw[c9,<- e,Rat.neg_mul],by rw[jY];exact b⟩
theorem Fr.mul {M N V W : Nat} {p q : Rat} (h : Fr M V p) (h' : Fr N W q) : Fr (M * N) (V * W) (p * q) := by
  obtain ⟨z, e, b⟩ := h;obtain ⟨z', e', b'⟩ := h';refine ⟨z * z', ?_, ?_⟩
  · rw [eY, be, <- e, <- e']; grind
  · rw [dg]
    calc z.natAbs * z'.natAbs ≤ (V * M) * (W * N) := aK b b'
      _ = V * W * (M * N) := by rw [cR, Nat.mul_left_comm M, <- cR]
theorem Fr.zero {M V:Nat}:Fr M V 0:=⟨0,by simp,by simp⟩
theorem Fr.int {M V:Nat} {i:Int} (h:i.natAbs<=V):Fr M V (i:Rat):=⟨i*M,by rw[be,aT],by rw[dg,cw];exact az _ h⟩
theorem Fr.one {M V:Nat} (h:1<=V):Fr M V 1:=Fr.int (i:=1) h
theorem Fr.den {M V:Nat} {q:Rat} (h:Fr M V q):(q.den:Int)∣(M:Int):=by
 obtain ⟨z,e,b⟩:=h
 have h1:q.num*(M:Int)=z*(q.den:Int):=by
  apply d6.mp;rw[be,be,<- e,pV,aT,aT];grind
 have h2:(q.den:Int)∣q.num*(M:Int):=⟨z,by rw[h1,gh]⟩;exact qD (by rw[kL];exact E6 q) h2
theorem Fr.den_le {M V:Nat} {q:Rat} (h:Fr M V q) (hM:0 < M):q.den<=M:=jm hM (zy.mp h.den)
theorem Fr.num_le {M V:Nat} {q:Rat} (h:Fr M V q) (hM:0 < M):q.num.natAbs<=V*M:=by
 have hd:=h.den;obtain ⟨z,e,b⟩:=h;obtain ⟨k,hk⟩:=zy.mp hd;have hk0:k≠0:=λz=>by rw[z,zU] at hk;lia
 have h1:z=q.num*(k:Int):=by
  apply d6.mp;rw[be,<- e,pV,aT,hk,eY];grind
 rw[h1] at b;exact ai (nY (by lia)) b
theorem Fr.own (q:Rat) {V:Nat} (h:q.num.natAbs<=V):Fr q.den V q:=⟨q.num,(pV q).symm,ai h (dE _ q.den_pos)⟩
theorem Fr.sz {M V k j:Nat} {q:Rat} (h:Fr M V q) (hM:0 < M) (h1:M<=2^k) (h2:V<=2^j):Sz (j+k+1) (nm q).1/\Sz (k+1) (nm q).2:=by
 constructor
 ·show q.num.natAbs < 2^(j+k+1)
  have h3:=h.num_le hM;have h4:V*M<=2^j*2^k:=aK h2 h1;rw[fG,a8];have:=Nat.two_pow_pos (j+k);rw[a8] at this
  lia
 ·show (q.den:Int).natAbs < 2^(k+1)
  have h3:=h.den_le hM;rw[cw,fG];have:=Nat.two_pow_pos k
  lia
theorem Fr.sum {M V:Nat}:∀{l:List Rat},(∀x∈l,Fr M V x)->Fr M (l.length*V) l.sum
 | [],_=>by simp;exact Fr.zero
 | x :: r,h=>by
  rw[List.sum_cons,bB,dM,kJ];exact (h x (.head _)).add (Fr.sum λy hy=>h y (.tail _ hy))
def cE (xs ys:List Rat):Rat:=(List.zipWith (·*·) xs ys).sum
theorem Fr.dot {M N V W : Nat} {xs ys : List Rat} (h : ∀ x ∈ xs, Fr M V x) (h' : ∀ y ∈ ys, Fr N W y) : Fr (M * N) (xs.length * (V * W)) (cE xs ys) := by
  have q := Fr.sum (M := M * N) (V := V * W) (l := List.zipWith (· * ·) xs ys) λz hz => by
    obtain ⟨i, hi, e⟩ := bO hz;rw [qY] at e;rw [<- e];exact (h _ (aJ _)).mul (h' _ (aJ _))
  exact q.mono (az _ (by rw [cT]; lia))
theorem zN : ∀ {bs : List Int} {m M : Int}, 0 < m → m ∣ M → (∀ b ∈ bs, 0 < b /\ b ∣ M) → ya bs m ∣ M
  | [], _, _, _, h, _ => h
  | b :: r, m, M, hm, h, hb => by
    have b1 := hb b dm;refine zN (bs := r) (vP hm b1.1) ?_ λc hc => hb c (b6 _ hc)
    have gp : 0 < g m b := Bg (by lia);have e1 := AY m b;have e2 := yc m b;obtain ⟨u, hu⟩ := h;obtain ⟨v, hv⟩ := b1.2
    have h3 : lo m b * u = hi m b * v := by
      apply uG (show g m b ≠ 0 by lia)
      calc lo m b * u * g m b = lo m b * g m b * u := by rw [d5, gh u, <- d5]
        _ = m * u := by rw [e1]
        _ = M := hu.symm
        _ = b * v := hv
        _ = hi m b * g m b * v := by rw [e2]
        _ = hi m b * v * g m b := by rw [d5, gh (g m b), <- d5]
    have h4 : hi m b ∣ lo m b * u := ⟨v, h3⟩;have h5 : hi m b ∣ u := qD (by rw [kL]; exact AW (by lia)) h4;obtain ⟨w, hw⟩ := h5;refine ⟨w, ?_⟩;show M = m * hi m b * w
    rw [hu, hw, d5]
theorem Fj {a b:Int} {k:Nat} (hb:0 < b) (d:a∣b) (h:Sz k b):Sz k a:=h.le (jm (by lia) (gR.mpr d))
end Nm
namespace Nm
def Dr (W:Nat) (x:Rat):Prop:=x.num.natAbs<=W/\x.den<=W
def vC:List Nat->Nat
 | []=>1
 | a :: r=>a*vC r
theorem xS:∀{l:List Nat},(∀a∈l,0 < a)->0 < vC l
 | [],_=>Nat.one_pos
 | a :: r,h=>bQ (h a (.head _)) (xS λb hb=>h b (.tail _ hb))
theorem xT:∀{l:List Nat} {a:Nat},a∈l->a∣vC l
 | b :: r,a,h=>by
  rcases aN.mp h with rfl | h
  ·exact xk ..
  ·exact lC (xT h) (dq ..)
theorem AD {k:Nat}:∀{l:List Nat},(∀a∈l,a<=2^k)->vC l<=2^(k*l.length)
 | [],_=>by simp [vC]
 | a :: r,h=>by
  rw[bB,Nat.mul_succ,a8,bZ (2^(k*r.length))];exact aK (h a (.head _)) (AD λb hb=>h b (.tail _ hb))
def GF (M V:Nat) (rows:LR9):Prop:=∀xs∈rows,∀x∈xs,Fr M V x
def RK (c n i:Nat) (rows:LR9):Prop:=∃M,0 < M/\M<=2^(i*(c*n+2))/\GF M (2^(20+2*i)) rows
theorem Rh {c n:Nat}:RK c n 0 []:=⟨1,by decide,by simp,λ_ h=>nomatch h⟩
theorem Ri (c n i:Nat):(i+1)*(c*n+2)=i*(c*n+2)+(c*n+2):=dM ..
theorem OT {c n i:Nat} {rows:LR9} {xs:List Rat} (h:RK c n i rows) (hl:xs.length=n) (hd:∀x∈xs,Dr (2^c) x) (hc:c<=20):RK c n (i+1) (rows++[xs]):=by
 obtain ⟨M,h0,h1,h2⟩:=h
 have dp:0 < vC (xs.map (·.den)):=xS λa ha=>by
  obtain ⟨x,_,rfl⟩:=aE.mp ha;exact x.den_pos
 have dl:vC (xs.map (·.den))<=2^(c*n):=by
  have:=AD (k:=c) (l:=xs.map (·.den)) λa ha=>by
   obtain ⟨x,hx,rfl⟩:=aE.mp ha;exact (hd x hx).2
  rwa [aj,hl] at this
 refine ⟨M*vC (xs.map (·.den)),bQ h0 dp,?_,λys hy x hx=>?_⟩
 ·rw[Ri,a8];exact aK h1 (ai dl (ax (by decide) (by lia)))
 ·rcases aA.mp hy with hy | hy
  ·exact ((h2 ys hy x hx).scale _).mono (ax (by decide) (by lia))
  ·have e:ys=xs:=by simpa using hy
   subst e;have f:Fr x.den (2^c) x:=Fr.own x (hd x hx).1;have g:=(f.dvd (xT (aE.mpr ⟨x,hx,rfl⟩))).scaleL M;exact g.mono (ax (by decide) (by lia))
def cS (rows:LR9) (w:Nat):LR9:=(List.range w).map λj=>rows.map λxs=>xs.getD j 0
def eH (one other:LR9) (w:Nat):LR9:=one.map λxs=>(cS other w).map λys=>cE ys xs
theorem dj {rows:LR9} {w:Nat}:(cS rows w).length=w:=by simp [cS]
theorem jc {rows:LR9} {w:Nat}:∀ys∈cS rows w,ys.length=rows.length:=λys hy=>by
 obtain ⟨j,_,rfl⟩:=aE.mp hy;exact aj ..
theorem getD_map {α:Type} {l:List α} {f:α->Rat} {i:Nat} (h:i < l.length):(l.map f).getD i 0=f l[i]:=by
 rw[aa,aG,af h];rfl
theorem KC {rows:LR9} {w:Nat} (h:∀xs∈rows,xs.length=w):cS (cS rows w) rows.length=rows:=by
 apply dO
 ·exact dj
 ·intro i h1 h2;have e:(cS (cS rows w) rows.length)[i]=(cS rows w).map λxs=>xs.getD i 0:=by simp [cS]
  rw[e];have hw:=h rows[i] (aJ h2);apply dO
  ·rw[aj,dj,hw]
  ·intro j h3 h4;rw[gJ];have e2:(cS rows w)[j]'(by rw[dj];lia)=rows.map λxs=>xs.getD j 0:=by simp [cS]
   rw[e2,getD_map h2,aa,af h4];rfl
end Nm
namespace L2
open PySem PySem.Spec PyProof.Rows Nm
theorem c7.sqt {K:FG9} {H H':Hp} {b a:Addr} {xs:List V} (u:c7 b H H') (B:ic H b) (h:qJ K H a xs):qJ K H' a xs:=by
 rcases h with (h | ⟨o,h⟩) | h
 ·exact .inl (.inl (u.tup B h))
 ·exact .inl (.inr ⟨o,u.other (λz=>by obtain ⟨_,_,_,_,_,e,_⟩:=B;rw[z,e] at h;cases h) h⟩)
 ·exact .inr h
theorem LQ {K:FG9} {H:Hp} {a l:Addr} {xs ys:List V} {o:HO} (h:qJ K H a xs) (hl:H l=some (.lst ys)):qJ K (upd H l o) a xs:=by
 rcases h with (h | ⟨o,h⟩) | h
 ·exact .inl (.inl (by rw[bM λz=>by rw[z,hl] at h;cases h];exact h))
 ·exact .inl (.inr ⟨o,by rw[bM λz=>by rw[z,hl] at h;cases h];exact h⟩)
 ·exact .inr h
def cz (K:FG9) (H:Hp) (q:Rat) (x:V):Prop:=Ic K H x (nm q)
section
variable {K:FG9} {H H':Hp} {q:Rat} {x:V} {b l p:Addr} {qs:List Rat}
theorem cz.same (h:cz K H q x) (e:aL H H'):cz K H' q x:=e.num h
theorem cz.upto (h:cz K H q x) (u:c7 b H H') (B:ic H b):cz K H' q x:=by obtain ⟨p,e,s⟩:=h;exact ⟨p,e,u.sqt B s⟩
theorem cz.updL {ys:List V} {o:HO} (h:cz K H q x) (hl:H l=some (.lst ys)):cz K (upd H l o) q x:=by obtain ⟨p,e,s⟩:=h;exact ⟨p,e,LQ s hl⟩
theorem cz.mk {r:Addr} {a c:Int} (h:H r=some (.tup [.int a,.int c])) (e:(a,c)=nm q):cz K H q (.ref r):=⟨r,rfl,by rw[<- e];exact qJ.of h⟩
def cF (K:FG9) (H:Hp) (p:Addr) (qs:List Rat):Prop:=∃xs,H p=some (.lst xs)/\Paired (cz K H) qs xs
theorem cF.same (h:cF K H p qs) (e:aL H H'):cF K H' p qs:=by obtain ⟨xs,g,r⟩:=h;exact ⟨xs,e _ _ g,Paired.imp' (λ_ _ z=>z.same e) r⟩
theorem cF.upto (h:cF K H p qs) (u:c7 b H H') (B:ic H b) (n:p≠b):cF K H' p qs:=by obtain ⟨xs,g,r⟩:=h;exact ⟨xs,u.other n g,Paired.imp' (λ_ _ z=>z.upto u B) r⟩
theorem cF.updL {ys:List V} {o:HO} (h:cF K H p qs) (hl:H l=some (.lst ys)) (n:p≠l):cF K (upd H l o) p qs:=by obtain ⟨xs,g,r⟩:=h;exact ⟨xs,by rw[bM n];exact g,Paired.imp' (λ_ _ z=>z.updL hl) r⟩
theorem rY {α β γ:Type} {F:α->β->Prop} {f:γ->α}:∀{l:List γ} {l2:List β},Paired (λc x=>F (f c) x) l l2->Paired F (l.map f) l2
 | _,_,.nil=>.nil
 | _,_,.cons r t=>.cons r (rY t)
theorem cF.rowK (h:cF K H p qs):FA K H p (qs.map nm):=by obtain ⟨xs,g,r⟩:=h;exact ⟨xs,g,rY (F:=λn x=>Ic K H x n) r⟩
def di (K:FG9) (H0 H:Hp) (qs:List Rat) (x:V):Prop:=∃q,x=V.ref q/\H0 q=none/\cF K H q qs
def bE (K:FG9) (H0 H:Hp) (p:Addr) (rows:LR9):Prop:=∃xs,H p=some (.lst xs)/\Paired (di K H0 H) rows xs/\V.ref p∉xs
theorem jD {H0:Hp} {K:FG9} {p:Addr} {rows:LR9} {ys:List V} (h:∃H2,H2 p=none/\Paired (di K H0 H2) rows ys):V.ref p∉ys:=λhm=>by
 obtain ⟨H2,e,pr⟩:=h;obtain ⟨qs,_,q,z,_,xs,g,_⟩:=dh pr hm;cases z;rw[e] at g;cases g
variable {H0:Hp} {rows:LR9}
theorem di.same (h:di K H0 H qs x) (e:aL H H'):di K H0 H' qs x:=by obtain ⟨q,a,b,c⟩:=h;exact ⟨q,a,b,c.same e⟩
theorem di.upto (h:di K H0 H qs x) (u:c7 b H H') (B:ic H b) (nb:H0 b≠none):di K H0 H' qs x:=by obtain ⟨q,a,c,d⟩:=h;exact ⟨q,a,c,d.upto u B λz=>nb (by rw[<- z];exact c)⟩
theorem di.weak (h:di K H0 H qs x) {H1:Hp} (e:aL H1 H0):di K H1 H qs x:=by obtain ⟨q,a,b,c⟩:=h;exact ⟨q,a,e.none b,c⟩
theorem bE.same (h:bE K H0 H p rows) (e:aL H H'):bE K H0 H' p rows:=by obtain ⟨xs,g,r,n⟩:=h;exact ⟨xs,e _ _ g,Paired.imp' (λ_ _ z=>z.same e) r,n⟩
theorem bE.upto (h:bE K H0 H p rows) (u:c7 b H H') (B:ic H b) (n:p≠b) (nb:H0 b≠none):bE K H0 H' p rows:=by obtain ⟨xs,g,r,nn⟩:=h;exact ⟨xs,u.other n g,Paired.imp' (λ_ _ z=>z.upto u B nb) r,nn⟩
theorem bE.weak (h:bE K H0 H p rows) {H1:Hp} (e:aL H1 H0):bE K H1 H p rows:=by obtain ⟨xs,g,r,n⟩:=h;exact ⟨xs,g,Paired.imp' (λ_ _ z=>z.weak e) r,n⟩
theorem bE.gridK (h:bE K H0 H p rows):P0 K H p (rows.map (List.map nm)):=by obtain ⟨xs,g,r,_⟩:=h;exact ⟨xs,g,rY (F:=λns x=>∃q,x=V.ref q/\FA K H q ns) (Paired.imp' (λ_ _ ⟨q,a,_,c⟩=>⟨q,a,c.rowK⟩) r)⟩
end
def Bf:Kind Rat:=S4.via nm (λ_ _ e=>Q2 e) (λK H x q=>cz K H q x) id
def J6:Kind (List Rat):=S5 Bf
def MK:Kind (LR9):=S5 J6
theorem cF.kind {K:FG9} {H:Hp} {p:Addr} {qs:List Rat} (h:cF K H p qs):J6.R K H (.ref p) qs:=by obtain ⟨xs,g,q⟩:=h;exact ⟨p,xs,rfl,bR.of g,q⟩
theorem bE.kind {K:FG9} {H0 H:Hp} {p:Addr} {rows:LR9} (h:bE K H0 H p rows):MK.R K H (.ref p) rows:=by obtain ⟨xs,g,q,_⟩:=h;exact ⟨p,xs,rfl,bR.of g,Paired.imp' (λ_ _ ⟨q,a,_,c⟩=>by rw[a];exact c.kind) q⟩
def nB (x:Rat):Prop:=Sz 4000 (nm x).1/\Sz 4000 (nm x).2
def Fits (l:List Rat):Prop:=∃M V:Nat,0 < M/\M<=2^900/\V<=2^900/\∀x∈l,Fr M V x
theorem Fits.szn {l:List Rat} (h:Fits l) {x:Rat} (hx:x∈l):nB x:=by
 obtain ⟨M,V,h0,h1,h2,h3⟩:=h;obtain ⟨a,b⟩:=(h3 x hx).sz h0 h1 h2;exact ⟨a.mono (by decide),b.mono (by decide)⟩
theorem Fits.ok {l:List Rat} (h:Fits l) {x:Rat} (hx:x∈l):zg (nm x):=⟨jE x,E6 x,(h.szn hx).1.mono (by decide),(h.szn hx).2.mono (by decide)⟩
theorem Jl {M V:Nat} {x:Rat} (h0:0 < M) (h1:M<=2^1800) (h2:V<=2^1810) (h:Fr M V x):nB x:=by
 obtain ⟨a,b⟩:=h.sz h0 h1 h2;exact ⟨a.mono (by decide),b.mono (by decide)⟩
theorem LM {x:Rat} (h:nB x):zg (nm x):=⟨jE x,E6 x,h.1.mono (by decide),h.2.mono (by decide)⟩
inductive o5 (K:FG9) (f:Rat->Rat->Rat) (vs:List V) (H:Hp) (Q:VK) (E9:XK):Prop
 | mk (u v:V) (x y:Rat):vs=[u,v]->cz K H x u->cz K H y v->nB x->nB y->(∀r H',aL H H'->cz K H' (f x y) (.ref r)->Q (.ref r) H')->o5 K f vs H Q E9
section
variable {K:FG9} {vs:List V} {H:Hp} {Q:VK} {E:XK}
theorem IT {f:Rat->Rat->Rat} {F:Int->Int->Int->Int->Int} (hf:∀x y:Rat,(f x y)*(((nm x).2*(nm y).2:Int):Rat)=((F (nm x).1 (nm x).2 (nm y).1 (nm y).2:Int):Rat)) (h:o5 K f vs H Q E):JM K F vs H Q E:=by
 obtain ⟨u,v,x,y,rfl,⟨p,rfl,hp⟩,⟨q,rfl,hq⟩,⟨s1,s2⟩,⟨s3,s4⟩,k⟩:=h;refine ⟨p,q,_,_,_,_,rfl,hp,hq,jE x,jE y,s1,s2,s3,s4,λr H' s g=>k r H' s (cz.mk g ?_)⟩;exact qB (mO (jE x) (jE y)) (hf x y)
theorem ve (x:Rat):(((nm x).1:Int):Rat)=x*(((nm x).2:Int):Rat):=by
 show (x.num:Rat)=x*(((x.den:Nat):Int):Rat)
 rw[pV,aT]
theorem Kp (h:o5 K (λx y=>x+y) vs H Q E):JM K PL vs H Q E:=IT (λx y=>by
 unfold PL;rw[BP,be,be,be,ve,ve];grind) h
theorem zJ (h:o5 K (λx y=>x - y) vs H Q E):JM K M7 vs H Q E:=IT (λx y=>by
 unfold M7;rw[Rat.intCast_sub,be,be,be,ve,ve];grind) h
theorem JW (h:o5 K (λx y=>x*y) vs H Q E):JM K M6 vs H Q E:=IT (λx y=>by
 unfold M6;rw[be,be,ve,ve];grind) h
end
def Ju (M:Int) (ns:List (Int×Int)):Prop:=0 < M/\Sz 4400 M/\∀n∈ns,0 < n.2/\n.2∣M/\Sz 4400 n.1
theorem Ju.bot {M:Int} {ns:List (Int×Int)} (h:Ju M ns):0 < ir ns/\Sz 4400 (ir ns):=by
 have hb:∀b∈ns.map (·.2),0 < b/\b∣M:=λb hb=>by
  obtain ⟨n,hn,rfl⟩:=aE.mp hb;exact ⟨(h.2.2 n hn).1,(h.2.2 n hn).2.1⟩
 exact ⟨A0 (by decide) λb q=>(hb b q).1,Fj h.1 (zN (by decide) (Int.one_dvd _) hb) h.2.1⟩
inductive LR (K:FG9) (vs:List V) (H:Hp) (Q:VK) (E9:XK):Prop
 | mk (p:Addr) (bs:List Int) (M:Int):vs=[.ref p]->bR K H p (bs.map V.int)->0 < M->Sz 4400 M->((∀b∈bs,0 < b/\b∣M))->Q (.int (ya bs 1)) H->LR K vs H Q E9
inductive LS (K:FG9) (vs:List V) (H:Hp) (Q:VK) (E9:XK):Prop
 | mk (p:Addr) (ns:List (Int×Int)) (M:Int):vs=[.ref p]->FA K H p ns->ns.length<=1000->Ju M ns->(∀H',aL H H'->Q (.int (ir ns)) H')->LS K vs H Q E9
inductive FU (K:FG9) (vs:List V) (H:Hp) (Q:VK) (E9:XK):Prop
 | mk (p:Addr) (ns:List (Int×Int)) (M:Int) (B:Int):vs=[.ref p,.int B]->FA K H p ns->ns.length<=1000->Ju M ns->0 < B->Sz 4400 B->(∀r H',H r=none->aL H H'->H' r=some (.lst ((fW ns B).map V.int))->Q (.ref r) H')->FU K vs H Q E9
theorem FK {M:Int} {ns:List (Int×Int)} {B t:Int} (h:Ju M ns) (hB:0 < B) (sB:Sz 4400 B) (ht:t∈fW ns B):Sz 8800 t:=by
 obtain ⟨n,hn,rfl⟩:=aE.mp ht;have hp:=h.2.2 n hn
 have sq:Sz 4400 (B / n.2):=sB.le (by
  rw[RP (by lia)];exact Nat.div_le_self ..)
 exact (hp.2.2.mul sq).mono (by lia)
theorem rh {x:Rat} {B:Int} (h:(nm x).2∣B):(((nm x).1*(B / (nm x).2):Int):Rat)=x*(B:Rat):=by
 obtain ⟨k,rfl⟩:=h;have hp:=jE x;rw[Int.mul_ediv_cancel_left _ (by lia),be,be,ve];grind
theorem HK {B C : Int} : ∀ {xs ys : List Rat}, (∀ x ∈ xs, (nm x).2 ∣ B) → (∀ y ∈ ys, (nm y).2 ∣ C) → (((List.zipWith (· * ·) (fW (xs.map nm) B) (fW (ys.map nm) C)).sum : Int) : Rat) = cE xs ys * ((B : Rat) * (C : Rat))
  | [], ys, _, _ => by simp [fW, cE]
  | x :: xs, [], _, _ => by simp [fW, cE]
  | x :: xs, y :: ys, h1, h2 => by
    have ih := HK (B := B) (C := C) (xs := xs) (ys := ys) (λz hz => h1 z (.tail _ hz)) (λz hz => h2 z (.tail _ hz));have e1 := rh (h1 x (.head _));have e2 := rh (h2 y (.head _));have e3 : (List.zipWith (· * ·) (fW ((x :: xs).map nm) B) (fW ((y :: ys).map nm) C)).sum = ((nm x).1 * (B / (nm x).2)) * ((nm y).1 * (C / (nm y).2)) + (List.zipWith (· * ·) (fW (xs.map nm) B) (fW (ys.map nm) C)).sum := rfl;have e4 : cE (x :: xs) (y :: ys) = x * y + cE xs ys := rfl;rw [e3, e4, BP, be, ih, e1, e2];grind
theorem OZ {xs ys:List Rat} (h1:0 < ir (xs.map nm)) (h2:0 < ir (ys.map nm)):(lo (Nd (xs.map nm) (ys.map nm)) (ir (xs.map nm)*ir (ys.map nm)),hi (Nd (xs.map nm) (ys.map nm)) (ir (xs.map nm)*ir (ys.map nm)))=nm (cE xs ys):=by
 refine qB (mO h1 h2) ?_;unfold Nd;rw[HK (λx hx=>sW (aE.mpr ⟨x,hx,rfl⟩)) (λx hx=>sW (aE.mpr ⟨x,hx,rfl⟩)),be]
inductive FT (K:FG9) (vs:List V) (H:Hp) (Q:VK) (E9:XK):Prop
 | mk (p:Addr) (w:Nat) (H0:Hp) (rows:LR9):vs=[.ref p,.int w]->bE K H0 H p rows->rows.length<=1000->w<=1000->(∀xs∈rows,xs.length=w)->(∀r H',H r=none->aL H H'->bE K H H' r (cS rows w)->Q (.ref r) H')->FT K vs H Q E9
def Qd (m:Nat) (a:Int):List Rat:=(List.range m).map λ(i:Nat)=>if ((i:Nat):Int)=a then 1 else 0
inductive FR (K:FG9) (vs:List V) (H:Hp) (Q:VK) (E9:XK):Prop
 | mk (m:Nat) (a:Int):vs=[.int m,.int a]->m<=1000->(∀r H',H r=none->aL H H'->cF K H' r (Qd m a)->Q (.ref r) H')->FR K vs H Q E9
inductive Ae (K:FG9) (vs:List V) (H:Hp) (Q:VK) (E9:XK):Prop
 | mk (b:Addr) (w:Nat):vs=[.ref b,.int w]->ic H b->1<=w->w<=1000000->(∀r x H',Dr (max w 6) x->cz K H' x (.ref r)->ic H' b->c7 b H H'->Q (.ref r) H')->Ae K vs H Q E9
inductive Ge (K:FG9) (vs:List V) (H:Hp) (Q:VK) (E9:XK):Prop
 | mk (b:Addr) (m w:Nat):vs=[.ref b,.int m,.int w]->ic H b->m<=1000->1<=w->w<=1000000->(∀r xs H',H r=none->cF K H' r xs->xs.length=m->(∀x∈xs,Dr (max w 6) x)->ic H' b->c7 b H H'->Q (.ref r) H')->Ge K vs H Q E9
inductive FX (K:FG9) (vs:List V) (H:Hp) (Q:VK) (E9:XK):Prop
 | mk (p q:Addr) (xs ys:List Rat):vs=[.ref p,.ref q]->cF K H p xs->cF K H q ys->ys.length=xs.length->xs.length<=1000->(∀x∈xs,nB x)->(∀y∈ys,nB y)->(∀r H',H r=none->aL H H'->cF K H' r (List.zipWith (λx y=>x+y) xs ys)->Q (.ref r) H')->FX K vs H Q E9
inductive LU (K:FG9) (vs:List V) (H:Hp) (Q:VK) (E9:XK):Prop
 | mk (u:V) (q:Addr) (c:Rat) (ys:List Rat):vs=[u,.ref q]->cz K H c u->nB c->cF K H q ys->ys.length<=1000->(∀y∈ys,nB y)->(∀r H',H r=none->aL H H'->cF K H' r (ys.map λy=>c*y)->Q (.ref r) H')->LU K vs H Q E9
inductive Ak (K:FG9) (vs:List V) (H:Hp) (Q:VK) (E9:XK):Prop
 | mk (p:Addr) (H0:Hp) (rows:LR9):vs=[.ref p]->bE K H0 H p rows->rows.length<=1000->(∀xs∈rows,xs.length<=1000)->(∀r H',H r=none->aL H H'->bE K H H' r rows->Q (.ref r) H')->Ak K vs H Q E9
section
variable {K:FG9} {a:Addr} {xs:List V} {g:TG} {tf:TT} {te:TE} {Q:VK} {σ₀:St} {H:Hp} {α β:Type}
theorem dW {as:List α} {F:Hp->α->V->Prop} (G:Hp->β->V->Prop) (f:α->β) (hx:H a=some (.lst xs)) (pf:Paired (F H) as xs) (hl:as.length<=1000)
  (hF:∀{H H' c x},F H c x->aL H H'->F H' c x) (hG:∀{H H' c x},G H c x->aL H H'->G H' c x)
  (hs:∀(i:Nat) c x H' NY NN,as[i]?=some c->aL H H'->F H' c x->(∀y H2,aL H' H2->G H2 (f c) y->NY y H2)->rk σ₀ g tf te x H' NY NN)
  (hd:∀ys H' p,H p=none->aL H H'->H' p=some (.lst ys)->Paired (G H') (as.map f) ys->(∃H2,H2 p=none/\Paired (G H2) (as.map f) ys)->Q (.ref p) H'):tu (O9 K a) σ₀ g tf te Q H:=by
 have lx:=pf.length;refine fu (K:=K) (xs:=xs) (λi ys H'=>aL H H'/\Paired (G H') ((as.take i).map f) ys) (aU (bF (by lia))) ⟨aL.refl _,.nil⟩ (λi ys H' _ ⟨s,_⟩=>bR.of (s _ _ hx)) ?_ ?_
 ·rintro i x ys H' hx' hlen ⟨s,pr⟩;obtain ⟨c,ec,hc⟩:=b8 pf hx';refine hs i c x H' _ _ ec s (hF hc s) λy H2 s2 gy=>⟨s.trans s2,?_⟩
  rw[take_snoc ec,cg];exact bT (Paired.imp' (λ_ _ z=>hG z s2) pr) (.cons gy .nil)
 ·rintro ys H' hy ⟨s,pr⟩ p hp;rw[aI (by lia)] at pr;exact hd ys _ p (s.none hp) (s.trans (aL.new hp)) aO (Paired.imp' (λ_ _ z=>hG z (aL.new hp)) pr) ⟨H',hp,pr⟩
theorem fJ {n:Nat} (G:Hp->β->V->Prop) (f:Nat->β) (hl:n<=1000) (hG:∀{H H' c x},G H c x->aL H H'->G H' c x)
  (hs:∀(i:Nat) H' NY NN,i < n->aL H H'->(∀y H2,aL H' H2->G H2 (f i) y->NY y H2)->rk σ₀ g tf te (.int i) H' NY NN)
  (hd:∀ys H' p,H p=none->aL H H'->H' p=some (.lst ys)->Paired (G H') ((List.range n).map f) ys->(∃H2,H2 p=none/\Paired (G H2) ((List.range n).map f) ys)->Q (.ref p) H'):tu (Ik 0 n) σ₀ g tf te Q H:=by
 refine qE (λi ys H'=>aL H H'/\Paired (G H') ((List.range i).map f) ys) (aU (bF (by lia))) ⟨aL.refl _,.nil⟩ ?_ ?_
 ·rintro i ys H' hi hlen ⟨s,pr⟩;rw[zV];refine hs i H' _ _ hi s λy H2 s2 gy=>⟨s.trans s2,?_⟩
  rw[rg,cg];exact bT (Paired.imp' (λ_ _ z=>hG z s2) pr) (.cons gy .nil)
 ·rintro ys H' hy ⟨s,pr⟩ p hp;exact hd ys _ p (s.none hp) (s.trans (aL.new hp)) aO (Paired.imp' (λ_ _ z=>hG z (aL.new hp)) pr) ⟨H',hp,pr⟩
theorem yi {n:Nat} {b:Addr} (G:Hp->β->V->Prop) (C:β->Prop) (hB:ic H b) (hl:n<=1000) (hG:∀{H' H'' c x},G H' c x->c7 b H' H''->ic H' b->G H'' c x)
  (hs:∀(i:Nat) H' NY NN,i < n->c7 b H H'->ic H' b->(∀y c H2,c7 b H' H2->ic H2 b->C c->G H2 c y->NY y H2)->rk σ₀ g tf te (.int i) H' NY NN)
  (hd:∀ys cs H' p,H p=none->c7 b H H'->ic H' b->H' p=some (.lst ys)->cs.length=n->(∀c∈cs,C c)->Paired (G H') cs ys->(∃H2,H2 p=none/\Paired (G H2) cs ys)->Q (.ref p) H'):tu (Ik 0 n) σ₀ g tf te Q H:=by
 refine qE (λi ys H'=>c7 b H H'/\ic H' b/\∃cs,cs.length=i/\(∀c∈cs,C c)/\Paired (G H') cs ys) (aU (bF (by lia))) ⟨(aL.refl _).upto,hB,[],rfl,(λ_ z=>nomatch z),.nil⟩ ?_ ?_
 ·rintro i ys H' hi hlen ⟨u,B,cs,lc,hc,pr⟩;rw[zV];refine hs i H' _ _ hi u B λy c H2 u2 B2 cc gy=>⟨u.trans u2,B2,cs++[c],by simp [lc],Fw hc cc,bT (Paired.imp' (λ_ _ z=>hG z u2 B) pr) (.cons gy .nil)⟩
 ·rintro ys H' hy ⟨u,B,cs,lc,hc,pr⟩ p hp;have s:aL H' (upd H' p (.lst ys)):=aL.new hp;exact hd ys cs _ p (u.none B hp) (u.same s) (B.same s) aO lc hc (Paired.imp' (λ_ _ z=>hG z s.upto B) pr) ⟨H',hp,pr⟩
end
section
variable {X:Cx}
theorem eP {n:Nat} {g:TG} {tb:TS} {D:Ends} {σ:St} {H:Hp} (Pv:Nat->St->Hp->Prop) (h0:Pv 0 σ H)
  (hs:∀(i:Nat) σ H,i < n->Pv i σ H->g (.int i) σ H λσ2 H2=>tb { D with nx:=Pv (i+1),ct:=Pv (i+1),bk:=D.nx } σ2 H2) (hd:∀σ H,Pv n σ H->D.nx σ H) :
  ∃W:Nat->Nat->St->Hp->Prop,(∃m,W 0 m σ H)/\∀i m σ H,W i m σ H →
   ((Ik 0 n).stop i H/\D.nx σ H)\/((Ik 0 n).go i H/\∃N:St->Hp->Prop,(∀σ' H',N σ' H'->∃m',m' < m/\W (i+1) m' σ' H')/\∀x H',(Ik 0 n).yld i H x H'->g x σ H' λσ2 H2=>tb { D with nx:=N,ct:=N,bk:=D.nx } σ2 H2) :=
 Du (lo:=0) Pv h0 (λi σ H hi p=>by rw[zV];exact hs i σ H hi p) hd
theorem lW:oR X (.type "int") (λxs H Q=>∃b:Bool,xs=[.bl b]/\Q (.int (if b=true then 1 else 0)) H):=by
 sleep 9;obtain ⟨b,rfl,q⟩:=h;obtain ⟨u,rfl,ru⟩:=vals1 r;cases ru;exact call_int_bool ⟨.int _,H,I.tok _,⟨_,rfl⟩,q⟩
theorem Cr (K:FG9) (hK:X.K=K):oR X (.builtin "len") (λxs H Q=>∃p ys,xs=[.ref p]/\(bR K H p ys\/qJ K H p ys)/\Q (.int ys.length) H):=by subst hK;exact bx
theorem Ml {st:Stmt}:PS X st (λ_ _ _=>False):=λ_ _ _ _ _ _ h=>h.elim
end
theorem MG {t b:Int} {W:Nat} (hb:0 < b) (h1:t.natAbs<=W) (h2:b.natAbs<=W):∃q:Rat,(lo t b,hi t b)=nm q/\Dr W q/\q*(b:Rat)=(t:Rat):=by
 have hb':(b:Rat)≠0:=λz=>by have:=zm.mp z;lia
 have e:(t:Rat) / (b:Rat)*(b:Rat)=t:=Rat.div_mul_cancel hb';have h:=qB hb e;refine ⟨_,h,⟨?_,?_⟩,e⟩
 ·have:=congrArg Prod.fst h;have z:=lo_le (t:=t) (b:=b) (by lia);show ((nm ((t:Rat) / (b:Rat))).1).natAbs<=W
  rw[<- this];exact ai z h1
 ·have:=congrArg Prod.snd h;have z:=PJ (t:=t) (b:=b) (by lia);have hd:(((t:Rat) / (b:Rat)).den:Int)=hi t b:=this.symm;have hp:=Fg (t:=t) hb
  lia
theorem Jg {K:FG9} {H:Hp} {qs:List Rat} {xs:List V} (h:Paired (cz K H) qs xs) {j:Nat} (hj:j < qs.length):∃v,Ij xs (j:Int)=some v/\cz K H (qs.getD j 0) v:=by
 have hl:=h.length;refine ⟨xs[j]'(by lia),fZ (by simp),?_⟩;have:=kb h (i:=j) hj (by lia);rwa [aa,af hj]
theorem Dv {xs ys:List Rat} {i:Nat} (h1:i < xs.length) (h2:i < ys.length):cE (xs.take (i+1)) (ys.take (i+1))=cE (xs.take i) (ys.take i)+xs.getD i 0*ys.getD i 0:=by
 have e1:xs[i]?=some (xs.getD i 0):=by rw[aa,af h1];rfl
 have e2:ys[i]?=some (ys.getD i 0):=by rw[aa,af h2];rfl
 unfold cE;rw[take_snoc e1,take_snoc e2,List.zipWith_append (by simp;lia),List.sum_append];simp [iV]
theorem getD_mem {xs:List Rat} {i:Nat} (h:i < xs.length):xs.getD i 0∈xs:=by
 rw[aa,af h];exact aJ h
theorem Cu {xs ys:List Rat} (h:ys.length=xs.length):List.zipWith (λx y=>x+y) xs ys=(List.range xs.length).map λi=>xs.getD i 0+ys.getD i 0:=by
 apply ib;intro i;rw[ck,aG];by_cases hi:i < xs.length
 ·rw[du hi,af hi,af (show i < ys.length by lia)];simp [aa,af hi,af (show i < ys.length by lia)]
 ·rw[aV (show (List.range xs.length).length<=i by simp;lia),aV (show xs.length<=i by lia)];rfl
theorem di.updL {K:FG9} {H0 H:Hp} {qs:List Rat} {x:V} {l:Addr} {ys:List V} {o:HO} (h:di K H0 H qs x) (hl:H l=some (.lst ys)) (nl:H0 l≠none):di K H0 (upd H l o) qs x:=by obtain ⟨q,a,b,c⟩:=h;exact ⟨q,a,b,c.updL hl λz=>nl (by rw[<- z];exact b)⟩
theorem ic.at {H:Hp} {b:Addr} (B:ic H b):H b≠none:=by obtain ⟨_,_,_,_,_,e,_⟩:=B;rw[e];simp
theorem Inner.at {H:Hp} {b q:Addr} (B:ic H b) (i:Inner H b q):H q≠none:=by
 obtain ⟨q',i',xs,e⟩:=B.inner;rw[<- Inner.inj i' i,e];simp
theorem i8 {α β:Type} {F:α->β->Prop} {l1:List α} {l2:List β} {i:Nat} (h:Paired F l1 l2) (hi:i < l1.length):∃x y,l1[i]?=some x/\l2[i]?=some y/\x∈l1/\F x y:=by
 have hl:=h.length;exact ⟨l1[i],l2[i]'(by lia),by simp,by simp,aJ _,kb h hi (by lia)⟩
theorem Fs {i j:Int} (h1:-(2^64) < i) (h2:i < 2^64):iI i j:=.inl (.inl ⟨h1,h2⟩)
theorem Km {i j:Int} (h1:-(2^64) < j) (h2:j < 2^64):iI i j:=.inl (.inr ⟨h1,h2⟩)
def RJ (K : FG9) (l : Addr) : It :=
  ⟨λi H => ∃ xs x, bR K H l xs /\ xs[i]? = some x,
   λi H v H' => ∃ p x, v = .ref p /\ H p = none /\ H' = upd H p (.tup [.int i, x]) /\ ∀ xs, bR K H l xs → xs[i]? = some x,
   λi H => ∃ xs, bR K H l xs /\ xs.length ≤ i⟩
def tnE (e it l:Addr) (i:Nat) (h:Heap):Prop:=(∃old,IsEnum h e it i old)/\h.IsListIter it l i
theorem KE {P:Program} {w:World} {K:FG9} {elts:List Expr} {kk:Nat} {tpos:Pos} (e it l:Addr) (hei:e≠it):Turn P w K (.Tuple elts kk tpos) (RJ K l) [e,it] e (tnE e it l) where
 mem:=by simp
 obj:=λi h st b hb=>by
  obtain ⟨⟨old,he⟩,⟨o1,g1,c1,d1⟩⟩:=st;simp only[aN,br,or_false] at hb;rcases hb with rfl | rfl
  ·exact ⟨_,he,λv q=>nomatch q⟩
  ·exact ⟨o1,g1,λv q=>by rw[d1] at q;cases q⟩
 keep:=λi h h' st k=>by
  obtain ⟨⟨old,he⟩,h1⟩:=st;exact ⟨⟨old,k e (by simp) _ he⟩,h1.at λo q=>k it (by simp) o q⟩
 item:=by
  sleep 2;obtain ⟨⟨old,he⟩,h1⟩:=st;obtain ⟨xs,x,qx,ex⟩:=hg;obtain ⟨us,rx,px,_⟩:=I.list qx;obtain ⟨u,eu,ru⟩:=rx.get ex;refine wpAny_pyNext_enum_item he h1 px.isList (x:=u) (by simpa using eu) hei λh' a1 a2 a3 a4 hk=>?_
  refine ⟨_,rfl,wpAny_letOwnedTupleGo_enum a1 λh'' he'' hs=>?_⟩;have hT0:H s.heap.objs.size=none:=I.hok.fresh (ak _);have ene:s.heap.objs.size≠e:=Kx (Heap.lt_size he)
  have up:∀b o,b∉[e,it]->s.heap.get? b=some o->h''.get? b=some o:=λb o hb q=>by
   simp only[aN,br,or_false,not_or] at hb;exact (hs.2 b hb.1).trans (hk b o hb.1 hb.2 q)
  have tup:h''.get? s.heap.objs.size=some { cls:=.type "tuple",data:=.seq #[.int i s.toks,u] }:=(hs.2 _ ene).trans a3;have I1:Inv X pins σ H { s with heap:=h'',toks:=s.toks+1 }:=I.moved (g':=s.gens) (d':=s.drawn) (t':=s.toks+1) (ch:=[e,it]) hf up I.bare;have fT:kj X pins H s.heap.objs.size:=I.fpOk (ak _) hT0;have I2:=I1.track (o:=.tup [.int i,x]) fT ⟨jq rfl,[.int i s.toks,u],.cons ⟨_,rfl⟩ (.cons ru .nil),⟨_,tup,rfl,_,rfl⟩⟩;refine ⟨.ref s.heap.objs.size,_,I2,rfl,⟨_,x,rfl,hT0,rfl,λxs' q=>by rw[I.list_inj q qx];exact ex⟩,?_,λb hb=>?_⟩
  ·exact ⟨⟨_,by simpa using he''⟩,a2.at λo q=>(hs.2 _ hei.symm).trans q⟩
  ·rw[bM]
   ·exact (hf b hb).1
   ·obtain ⟨o1,g1,_⟩:=h1;simp only[aN,br,or_false] at hb;rcases hb with rfl | rfl
    ·exact ene.symm
    ·exact cu (Heap.lt_size g1)
 done:=by
  sleep 2;obtain ⟨⟨old,he⟩,h1⟩:=st;obtain ⟨xs,qx,hend⟩:=hg;obtain ⟨us,rx,px,_⟩:=I.list qx;have lx:=rx.length;refine wpAny_pyNext_enum_end (I.ok.hd hc) he h1 px.isList (by simp;lia) λh' hk=>⟨rfl,?_⟩
  exact I.moved (g':=s.gens) (d':=s.drawn) (t':=s.toks) (ch:=[e,it]) hf (λb o hb q=>hk b o (λz=>hb (by simp [z])) q) I.bare
 self:=λ_ _ _ _ _ st h=>let ⟨⟨_,he⟩,_⟩:=st;wpAny_pyIter_enum he h
section
variable {X:Cx}
def PH (K:FG9) (ta:TA):TI:=λσ H R=>ta σ H λvs H1=>∃l,vs=[.ref l]/\(∃xs,bR K H1 l xs)/\R (RJ K l) H1
theorem EL {a:Expr} {ta:TA} {p pos tpos:Pos} {elts:List Expr} {kk:Nat} (hg:Gl X "enumerate") (hm:X.mg "enumerate"=none) (ha:PA X [a] ta) (hs:starEach [a] X.env=[(false,eval a X.env)]:=by rfl) :
  PI X (.Tuple elts kk tpos) (.Call (.Name "enumerate" p) [a] [] pos) (PH X.K ta):=by
 intro pins s σ H R I h;refine Call_ (kh I hg hm boot_enumerate (PyProof.Rows.callWith_type1 (gU (ha pos pins s σ H _ I h) λus s1 ⟨vs,H1,I1,r1,q1⟩=>?_) (by rw[hs];rfl) rfl));obtain ⟨l,e,⟨xs,qx⟩,q⟩:=q1;subst e;obtain ⟨u,rfl,ru⟩:=vals1 r1;cases ru;obtain ⟨us,rx,px,_⟩:=I1.list qx;refine call_enumerate_list px.isList λh' a1 a2 a3 hk=>wpAny_pyIter_enum a1 ?_
 have I2:Inv X pins σ H1 { s1 with heap:=h' }:=I1.kept (t':=s1.toks) hk;refine ⟨_,[s1.heap.objs.size+1,s1.heap.objs.size],_,_,H1,rfl,I2,KE (s1.heap.objs.size+1) s1.heap.objs.size l (Nat.succ_ne_self _),⟨⟨_,a1⟩,a2⟩,λb hb=>?_,q⟩
 have hb':s1.heap.objs.size<=b:=by
  simp only[aN,br,or_false] at hb;rcases hb with rfl | rfl <;> first | exact mN _ | exact ak _
 exact I1.fpOk hb' (I1.hok.fresh hb')
end
theorem Mg {K:FG9} {ta:TA} {R:It->Hp->Prop} {σ:St} {H:Hp} (h:ta σ H λvs H1=>∃l,vs=[.ref l]/\(∃xs,bR K H1 l xs)/\R (RJ K l) H1):PH K ta σ H R:=h
theorem MX {K:FG9} {l:Addr} {xs:List V} {g:TG} {tb:TS} {D:Ends} {σ:St} {H:Hp} (Pv:Nat->St->Hp->Prop) (h0:Pv 0 σ H) (hl:∀i σ H,i<=xs.length->Pv i σ H->bR K H l xs)
  (hs:∀i x σ H p,xs[i]?=some x->Pv i σ H->H p=none->g (.ref p) σ (upd H p (.tup [.int i,x])) λσ2 H2=>tb { D with nx:=Pv (i+1),ct:=Pv (i+1),bk:=D.nx } σ2 H2) (hd:∀σ H,Pv xs.length σ H->D.nx σ H) :
  ∃W:Nat->Nat->St->Hp->Prop,(∃m,W 0 m σ H)/\∀i m σ H,W i m σ H →
   ((RJ K l).stop i H/\D.nx σ H)\/((RJ K l).go i H/\∃N:St->Hp->Prop,(∀σ' H',N σ' H'->∃m',m' < m/\W (i+1) m' σ' H')/\∀x H',(RJ K l).yld i H x H'->g x σ H' λσ2 H2=>tb { D with nx:=N,ct:=N,bk:=D.nx } σ2 H2):=by
 refine ⟨λi m σ H=>m=xs.length - i/\i<=xs.length/\Pv i σ H,⟨xs.length,by simp,bu _,h0⟩,?_⟩;rintro i m σ H ⟨rfl,hi,p⟩;have q1:=hl i σ H hi p;by_cases hlt:i < xs.length
 ·refine .inr ⟨⟨xs,xs[i],q1,by simp [hlt]⟩,Pv (i+1),λσ' H' p'=>⟨xs.length - (i+1),by lia,rfl,hlt,p'⟩,λx H' y=>?_⟩;obtain ⟨r,x',rfl,hr,rfl,e1⟩:=y;exact hs i x' σ _ r (e1 xs q1) p hr
 ·have e:i=xs.length:=by lia
  subst e;exact .inl ⟨⟨xs,q1,ak _⟩,hd σ H p⟩
section
variable {X:Cx}
theorem JQ (K:FG9) {e:Expr} {f:Str} {pos:Pos} {ta:TE} (he:PE X e ta) (hb:attributeBase e f X.env (eval e X.env)=eval e X.env) (hK:X.K=K:=by rfl):PE X (.Attribute e f pos) (Qi K ta f):=by subst hK;exact fP he hb
end
theorem QL {K:FG9} {ta:TE} {f:Str} {σ:St} {H:Hp} {Q:VK} (h:ta σ H λx H1=>∃a C dx fs v,x=.ref a/\H1 a=some (.ins C dx fs)/\Lz K C/\jS K C f/\fs.lookup f=some v/\Q v H1):Qi K ta f σ H Q:=h
theorem Of {K:FG9} {ta tv:TE} {f:Str} {D:Ends} {σ:St} {H:Hp} (h:tv σ H λy H1=>ta σ H1 λx H2=>∃a C dx fs,x=.ref a/\H2 a=some (.ins C dx fs)/\Lz K C/\jS K C f/\fs.length < 1000 /\
 D.nx σ (upd H2 a (.ins C dx (cK f y fs)))):Su K ta tv f D σ H:=h
theorem Oj {C:Addr} {m:Str} {sp:Sp} {E:XK} {ta:TE} {t:TA} {σ:St} {H:Hp} {Q:VK} (h:ta σ H λx H1=>∃a dx fs,x=.ref a/\H1 a=some (.ins C dx fs)/\fs.lookup m=none /\
 t σ H1 λvs H2=>sp (x :: vs) H2 Q E):Pg C m sp [] E ta t σ H Q:=by
 have e:(λ(x:V) H1=>∃a dx fs,x=.ref a/\H1 a=some (.ins C dx fs)/\fs.lookup m=none/\t σ H1 λvs H2=>sp (x :: (vs++[])) H2 Q E)=λx H1=>∃a dx fs,x=.ref a/\H1 a=some (.ins C dx fs)/\fs.lookup m=none/\t σ H1 λvs H2=>sp (x :: vs) H2 Q E:=by
  funext x H1;simp only[lQ]
 show ta σ H (λ(x:V) H1=>∃a dx fs,x=.ref a/\H1 a=some (.ins C dx fs)/\fs.lookup m=none/\t σ H1 λvs H2=>sp (x :: (vs++[])) H2 Q E)
 rw[e];exact h
theorem Ol {C:Addr} {sp:Sp} {E:XK} {t:TA} {σ:St} {H:Hp} {Q:VK} (h:t σ H λvs H1=>∀x dx,H1 x=none->H1 dx=none->dx≠x →
 sp (.ref x :: vs) (upd (upd H1 dx (.own x)) x (.ins C dx [])) (λv H2=>v=.non/\Q (.ref x) H2) E):Ph C sp [] E t σ H Q:=by
 have e:(λvs (H1:Hp)=>∀x dx,H1 x=none->H1 dx=none->dx≠x->sp (.ref x :: (vs++[])) (upd (upd H1 dx (.own x)) x (.ins C dx [])) (λv H2=>v=.non/\Q (.ref x) H2) E)=λvs H1=>∀x dx,H1 x=none->H1 dx=none->dx≠x->sp (.ref x :: vs) (upd (upd H1 dx (.own x)) x (.ins C dx [])) (λv H2=>v=.non/\Q (.ref x) H2) E:=by
  funext vs H1;simp only[lQ]
 show t σ H (λvs (H1:Hp)=>∀x dx,H1 x=none->H1 dx=none->dx≠x->sp (.ref x :: (vs++[])) (upd (upd H1 dx (.own x)) x (.ins C dx [])) (λv H2=>v=.non/\Q (.ref x) H2) E)
 rw[e];exact h
def FD (x:Addr) (H H':Hp):Prop:=∀b o,H b=some o->b≠x->H' b=some o
theorem FD.upd {x:Addr} {H:Hp} {o:HO}:FD x H (L2.upd H x o):=λb u h n=>by rw[bM n];exact h
def uE (H:Hp) (x:Addr):Prop:=∃C dx fs,H x=some (.ins C dx fs)
section
variable {K:FG9} {H H' H0:Hp} {q:Rat} {v:V} {x p:Addr} {qs:List Rat} {rows:LR9}
theorem cz.exc (h:cz K H q v) (e:FD x H H') (hx:uE H x):cz K H' q v:=by
 obtain ⟨C,dx,fs,hx⟩:=hx;obtain ⟨r,er,s⟩:=h;refine ⟨r,er,?_⟩;rcases s with (h | ⟨o,h⟩) | h
 ·exact .inl (.inl (e _ _ h λz=>by rw[z,hx] at h;cases h))
 ·exact .inl (.inr ⟨o,e _ _ h λz=>by rw[z,hx] at h;cases h⟩)
 ·exact .inr h
theorem cF.exc (h:cF K H p qs) (e:FD x H H') (hx:uE H x):cF K H' p qs:=by
 obtain ⟨xs,g,r⟩:=h;have hx':=hx;obtain ⟨C,dx,fs,hx⟩:=hx;exact ⟨xs,e _ _ g (λz=>by rw[z,hx] at g;cases g),Paired.imp' (λ_ _ z=>z.exc e hx') r⟩
theorem di.exc (h:di K H0 H qs v) (e:FD x H H') (hx:uE H x):di K H0 H' qs v:=by obtain ⟨q,a,b,c⟩:=h;exact ⟨q,a,b,c.exc e hx⟩
theorem bE.exc (h:bE K H0 H p rows) (e:FD x H H') (hx:uE H x):bE K H0 H' p rows:=by
 obtain ⟨xs,g,r,n⟩:=h;have hx':=hx;obtain ⟨C,dx,fs,hx⟩:=hx;exact ⟨xs,e _ _ g (λz=>by rw[z,hx] at g;cases g),Paired.imp' (λ_ _ z=>z.exc e hx') r,n⟩
end
def qL (a b c:Addr) (n i o:Nat):List (Str×V):=cK "outs" (.int o) (cK "look" (.ref c) (cK "ins" (.int i) (cK "put" (.ref b) (cK "states" (.int n) (cK "move" (.ref a) [])))))
section
variable {a b c:Addr} {n i o:Nat}
theorem JE:(qL a b c n i o).lookup ("ins":Str)=some (.int i):=by
 unfold qL;rw[bP,if_neg (by decide +kernel),bP,if_neg (by decide +kernel),bP,if_pos rfl]
theorem En:(qL a b c n i o).lookup ("put":Str)=some (.ref b):=by
 unfold qL;rw[bP,if_neg (by decide +kernel),bP,if_neg (by decide +kernel),bP,if_neg (by decide +kernel),bP,if_pos rfl]
theorem gL:(qL a b c n i o).lookup ("states":Str)=some (.int n):=by
 unfold qL;rw[bP,if_neg (by decide +kernel),bP,if_neg (by decide +kernel),bP,if_neg (by decide +kernel),bP,if_neg (by decide +kernel),bP,if_pos rfl]
theorem zZ:(qL a b c n i o).lookup ("move":Str)=some (.ref a):=by
 unfold qL;rw[bP,if_neg (by decide +kernel),bP,if_neg (by decide +kernel),bP,if_neg (by decide +kernel),bP,if_neg (by decide +kernel),bP,if_neg (by decide +kernel),bP,if_pos rfl]
theorem Qj {m:Str} (h1:¬m="outs") (h2:¬m="look") (h3:¬m="ins") (h4:¬m="put") (h5:¬m="states") (h6:¬m="move"):(qL a b c n i o).lookup m=none:=by
 unfold qL;rw[bP,if_neg h1,bP,if_neg h2,bP,if_neg h3,bP,if_neg h4,bP,if_neg h5,bP,if_neg h6];rfl
theorem KH:(qL a b c n i o).lookup ("moved":Str)=none:=Qj (by decide +kernel) (by decide +kernel) (by decide +kernel) (by decide +kernel) (by decide +kernel) (by decide +kernel)
end
theorem eV {k:Str} {v:V}:∀{l:List (Str×V)},(cK k v l).length<=l.length+1
 | []=>ak _
 | (x,y) :: r=>by
  unfold cK
  split
  ·simp
  ·have:=eV (k:=k) (v:=v) (l:=r);simp only[bB]
   lia
structure eG (mv pt lk:LR9):Prop where
 n8:mv.length<=8
 i4:pt.length<=4
 o4:lk.length<=4
 mw:∀xs∈mv,xs.length=mv.length
 pw:∀xs∈pt,xs.length=mv.length
 lw:∀xs∈lk,xs.length=mv.length
def Ea (mv pt lk:LR9):Prop:=∃M V:Nat,0 < M/\M<=2^800/\V<=2^400/\GF M V mv/\GF M V pt/\GF M V lk
def jR (K:FG9) (H0 H:Hp) (C p:Addr) (mv pt lk:LR9):Prop:=∃dx a b c,H p=some (.ins C dx (qL a b c mv.length pt.length lk.length))/\H0 a=none/\H0 b=none/\H0 c=none/\bE K H0 H a mv/\bE K H0 H b pt/\bE K H0 H c lk
section
variable {K:FG9} {H H' H0 H1:Hp} {C p b:Addr} {mv pt lk:LR9}
theorem jR.same (h:jR K H0 H C p mv pt lk) (e:aL H H'):jR K H0 H' C p mv pt lk:=by obtain ⟨dx,a,b,c,g,n1,n2,n3,g1,g2,g3⟩:=h;exact ⟨dx,a,b,c,e _ _ g,n1,n2,n3,g1.same e,g2.same e,g3.same e⟩
theorem jR.upto (h:jR K H0 H C p mv pt lk) (u:c7 b H H') (B:ic H b) (nb:H0 b≠none):jR K H0 H' C p mv pt lk:=by
 obtain ⟨dx,a,b',c,g,n1,n2,n3,g1,g2,g3⟩:=h;refine ⟨dx,a,b',c,u.other (λz=>by obtain ⟨_,_,_,_,_,e,_⟩:=B;rw[z,e] at g;cases g) g,n1,n2,n3,g1.upto u B (λz=>nb (by rw[<- z];exact n1)) nb,g2.upto u B (λz=>nb (by rw[<- z];exact n2)) nb,g3.upto u B (λz=>nb (by rw[<- z];exact n3)) nb⟩
theorem jR.weak (h:jR K H0 H C p mv pt lk) (e:aL H1 H0):jR K H1 H C p mv pt lk:=by obtain ⟨dx,a,b,c,g,n1,n2,n3,g1,g2,g3⟩:=h;exact ⟨dx,a,b,c,g,e.none n1,e.none n2,e.none n3,g1.weak e,g2.weak e,g3.weak e⟩
theorem Ea.fits (h:Ea mv pt lk) {l:List Rat} (hl:∀x∈l,(∃xs∈mv,x∈xs)\/(∃xs∈pt,x∈xs)\/(∃xs∈lk,x∈xs)\/x=0):Fits l:=by
 obtain ⟨M,V,h0,h1,h2,h3,h4,h5⟩:=h;refine ⟨M,V,h0,ai h1 (ax (by decide) (by decide)),ai h2 (ax (by decide) (by decide)),λx hx=>?_⟩;rcases hl x hx with ⟨xs,a,b⟩ | ⟨xs,a,b⟩ | ⟨xs,a,b⟩ | rfl
 ·exact h3 xs a x b
 ·exact h4 xs a x b
 ·exact h5 xs a x b
 ·exact Fr.zero
end
def KI:Sp:=λvs H Q _=>∃i:Int,vs=[.int i]/\Q (.bl true) H
def KN (K:FG9):Sp:=λvs H Q _=>∃x n,vs=[x]/\Ic K H x n/\zg n/\∀H',aL H H'->Q (.bl true) H'
inductive JH (vs:List V) (H:Hp) (Q:VK) (E9:XK):Prop
 | mk (p:Addr) (xs:List V) (a m:Int):vs=[.ref p,.int a,.int m]->H p=some (.lst xs)->(xs.length:Int)<=m->Q .non H->JH  vs H Q E9
inductive JL (K:FG9) (vs:List V) (H:Hp) (Q:VK) (E9:XK):Prop
 | mk (p:Addr) (H0:Hp) (rows:LR9) (w:Nat):vs=[.ref p,.int w]->bE K H0 H p rows->rows.length<=1000->w<=1000->((∀xs∈rows,xs.length=w/\∀x∈xs,zg (nm x)))->(∀r H',H r=none->aL H H'->bE K H H' r rows->Q (.ref r) H')->JL K vs H Q E9
def RU (rows:LR9):Prop:=∀xs∈rows,∀x∈xs,zg (nm x)
inductive JI (K:FG9) (C:Addr) (vs:List V) (H:Hp) (Q:VK) (E9:XK):Prop
 | mk (x dx p q r:Addr) (Hb H0 H1 H2:Hp) (mv pt lk:LR9):vs=[.ref x,.ref p,.ref q,.ref r]->Hb x=none->Hb dx=none->dx≠x->H=upd (upd Hb dx (.own x)) x (.ins C dx [])->bE K H0 Hb p mv->bE K H1 Hb q pt->bE K H2 Hb r lk->eG mv pt lk->RU mv->RU pt->RU lk->(∀H',aL Hb H'->jR K Hb H' C x mv pt lk->Q .non H')->JI K C vs H Q E9
def fH (mv pt:LR9) (st pu:List Rat):List Rat:=List.zipWith (λline col=>cE (line++col) (st++pu)) mv (cS pt mv.length)
theorem Ea.ok {mv pt lk:LR9} (h:Ea mv pt lk):RU mv/\RU pt/\RU lk :=
 ⟨λxs hx x hx'=>(h.fits (l:=xs) λy hy=>.inl ⟨xs,hx,hy⟩).ok hx',λxs hx x hx'=>(h.fits (l:=xs) λy hy=>.inr (.inl ⟨xs,hx,hy⟩)).ok hx',λxs hx x hx'=>(h.fits (l:=xs) λy hy=>.inr (.inr (.inl ⟨xs,hx,hy⟩))).ok hx'⟩
def fX (K:FG9) (A:Addr->Prop) (H:Hp) (n:Nat) (C:Rat->Prop) (x:V):Prop:=∃q qs,x=V.ref q/\A q/\cF K H q qs/\qs.length=n/\∀y∈qs,C y
section
variable {K:FG9} {A A':Addr->Prop} {H H' H0:Hp} {n:Nat} {C C':Rat->Prop} {x v:V} {q b l p:Addr} {xs zs:List V} {y:Rat} {o:HO}
theorem fX.same (h:fX K A H n C x) (e:aL H H'):fX K A H' n C x:=by obtain ⟨q,qs,a,c,r,z⟩:=h;exact ⟨q,qs,a,c,r.same e,z⟩
theorem fX.upto (h:fX K A H n C x) (u:c7 b H H') (B:ic H b) (nb:¬A b):fX K A H' n C x:=by obtain ⟨q,qs,a,c,r,z⟩:=h;exact ⟨q,qs,a,c,r.upto u B (λe=>nb (by rw[<- e];exact c)),z⟩
theorem fX.other (h:fX K A H n C x) (hl:H l=some (.lst zs)) (nl:¬A l):fX K A (upd H l o) n C x:=by obtain ⟨q,qs,a,c,r,z⟩:=h;exact ⟨q,qs,a,c,r.updL hl (λe=>nl (by rw[<- e];exact c)),z⟩
theorem fX.weak (h:fX K A H n C x) (w:∀q,A q->A' q) (wc:∀y,C y->C' y):fX K A' H n C' x:=by obtain ⟨q,qs,a,c,r,l,z⟩:=h;exact ⟨q,qs,a,w q c,r,l,λy hy=>wc y (z y hy)⟩
theorem uU {α β:Type} {F:α->β->Prop} {a:α} {b:β} (h:F a b):∀{l1:List α} {l2:List β} (j:Nat),Paired F l1 l2->Paired F (l1.set j a) (l2.set j b)
 | _,_,_,.nil=>.nil
 | _,_,0,.cons _ t=>.cons h t
 | _,_,j+1,.cons r t=>.cons r (uU h j t)
theorem fX.put (h:fX K A H n C x) (hq:H q=some (.lst zs)) (hv:cz K H y v) (hc:C y) (j:Nat):fX K A (upd H q (.lst (zs.set j v))) n C x:=by
 obtain ⟨q1,qs,rfl,a,⟨zs1,g1,pr⟩,l1,c1⟩:=h;by_cases e:q1=q
 ·subst e;rw[hq] at g1;cases g1;refine ⟨q1,qs.set j y,rfl,a,⟨_,aO,uU (hv.updL hq) j (Paired.imp' (λ_ _ z=>z.updL hq) pr)⟩,by rw[dI];exact l1,λz hz=>?_⟩;rcases cD hz with hz | rfl
  ·exact c1 z hz
  ·exact hc
 ·exact ⟨q1,qs,rfl,a,⟨zs1,by rw[bM e];exact g1,Paired.imp' (λ_ _ z=>z.updL hq) pr⟩,l1,c1⟩
theorem fX.at (h:fX K A H n C x):∃q zs qs,x=V.ref q/\A q/\H q=some (.lst zs)/\zs.length=n/\Paired (cz K H) qs zs/\qs.length=n/\∀y∈qs,C y:=by obtain ⟨q,qs,a,c,⟨zs,g,pr⟩,l,z⟩:=h;exact ⟨q,zs,qs,a,c,g,by rw[<- pr.length];exact l,pr,l,z⟩
end
theorem sR {W:Nat} {i:Int} (h:i.natAbs<=W) (hW:1<=W):Dr W (i:Rat):=⟨h,hW⟩
def Tw (K:FG9) (A:Addr->Prop) (H:Hp) (n:Nat) (C:Rat->Prop) (p:Addr) (m:Nat):Prop:=∃us,H p=some (.lst us)/\us.length=m/\¬A p/\∀x∈us,fX K A H n C x
structure Ie (A:Addr->Prop) (m p l b q0:Addr):Prop where
 am:¬A m
 ap:¬A p
 al:¬A l
 ab:¬A b
 aq:¬A q0
 mb:m≠b
 pb:p≠b
 lb:l≠b
 mp:m≠p
 ml:m≠l
 mq:m≠q0
theorem Kb {M:Nat} {z:Int} (h:z.natAbs<=2):Fr 1 2 (z:Rat):=Fr.int h
theorem Fi {M W:Nat} {a c:Rat} {z:Int} (hz:z.natAbs<=2) (ha:Fr M W a) (hc:Fr M W c):Fr M (3*W) (a+(z:Rat)*c):=by
 have h:=(Kb (M:=M) hz).mul hc;rw[mM] at h;exact (ha.add h).mono (by lia)
theorem Em {z:Int} (h:z.natAbs<=1000):nB (z:Rat):=Jl (M:=1) (V:=1000) (by decide) (cV) (ai (show 1000<=2^10 by decide) (ax (by decide) (by decide))) (Fr.int h)
theorem zY {M W:Nat} {c:Rat} {z:Int} (hz:z.natAbs<=2) (hc:Fr M W c) (h0:0 < M) (h1:M<=2^800) (hW:W<=2^140):nB ((z:Rat)*c):=by
 have h:=(Kb (M:=M) hz).mul hc;rw[mM] at h;refine Jl h0 (ai h1 (ax (by decide) (by decide))) (ai (aM 2 hW) ?_) h;rw[show 2*2^140=2^141 by rw[fG,bZ]];exact ax (by decide) (by decide)
def iH (A:Addr->Prop) (b m:Addr) (H H':Hp):Prop:=∀c u,H c=some u->c≠b->¬A c->c≠m->H' c=some u
theorem iH.same {A:Addr->Prop} {b m:Addr} {H H1 H2:Hp} (h:iH A b m H H1) (s:aL H1 H2):iH A b m H H2:=λc u e n1 n2 n3=>s _ _ (h c u e n1 n2 n3)
theorem iH.upto {A:Addr->Prop} {b m:Addr} {H H1 H2:Hp} (h:iH A b m H H1) (s:c7 b H1 H2):iH A b m H H2:=λc u e n1 n2 n3=>s.1 _ _ (h c u e n1 n2 n3) n1
theorem iH.upd {A:Addr->Prop} {b m q:Addr} {H H1:Hp} {o:HO} (h:iH A b m H H1) (hq:A q\/q=m):iH A b m H (L2.upd H1 q o):=λc u e n1 n2 n3=>by
 rw[bM]
 ·exact h c u e n1 n2 n3
 ·rintro rfl;rcases hq with hq | hq
  ·exact n2 hq
  ·exact n3 hq
theorem iH.new {A:Addr->Prop} {b m r:Addr} {H H1:Hp} (h:iH A b m H H1) (hA:∀q,H q=none->A q) (B:ic H1 b) (hm:H1 m≠none) (hr:H1 r=none):A r:=by
 by_cases z:A r
 ·exact z
 ·cases e:H r with
  | none=>exact hA r e
  | some u =>
   have:=h r u e (λy=>B.at (by rw[<- y];exact hr)) z (λy=>hm (by rw[<- y];exact hr));rw[hr] at this;cases this
structure Kw (K:FG9) (A:Addr->Prop) (n:Nat) (C:Rat->Prop) (r p b q0:Addr) (us:List V) (H0 H:Hp):Prop where
 gr:H r=some (.lst us)
 ru:∀x∈us,fX K A H n C x
 rp:fX K A H n C (.ref p)
 bag:ic H b
 inn:Inner H b q0
 up:c7 b H0 H
section
variable {K:FG9} {A:Addr->Prop} {n:Nat} {C:Rat->Prop} {r p b q0:Addr} {us:List V} {H0 H H':Hp} {y:Rat} {v:V}
theorem Kw.same (h:Kw K A n C r p b q0 us H0 H) (e:aL H H'):Kw K A n C r p b q0 us H0 H':=⟨e _ _ h.gr,λx hx=>(h.ru x hx).same e,h.rp.same e,h.bag.same e,(e.upto (p:=b)).2 _ h.inn,h.up.same e⟩
theorem Kw.upto (h:Kw K A n C r p b q0 us H0 H) (u:c7 b H H') (B:ic H' b) (nb:¬A b) (rb:r≠b):Kw K A n C r p b q0 us H0 H':=⟨u.other rb h.gr,λx hx=>(h.ru x hx).upto u h.bag nb,h.rp.upto u h.bag nb,B,u.2 _ h.inn,h.up.trans u⟩
theorem Kw.put (h:Kw K A n C r p b q0 us H0 H) (ap:A p) (nr:¬A r) (nb:¬A b) (nq:¬A q0) (hp:H0 p=none) (hv:cz K H y v) (hc:C y) (j:Nat):∃zs,H p=some (.lst zs)/\zs.length=n/\Kw K A n C r p b q0 us H0 (upd H p (.lst (zs.set j v))):=by
 obtain ⟨q,zs,qs,e,a,g,l,_⟩:=h.rp.at;cases e;have ne:∀{z},¬A z->z≠p:=λh e=>h (by rw[e];exact ap)
 exact ⟨zs,g,l,by rw[bM (ne nr)];exact h.gr,λx hx=>(h.ru x hx).put g hv hc j,h.rp.put g hv hc j,h.bag.upd h.inn (ne nb).symm (ne nq).symm,h.inn.upd (ne nb).symm,h.up.after hp⟩
end
theorem Ay {K:FG9} {A:Addr->Prop} {H:Hp} {n:Nat} {C:Rat->Prop} {us:List V} (h:∀x∈us,fX K A H n C x):∃rows:LR9,Paired (λqs x=>∃q,x=V.ref q/\A q/\cF K H q qs) rows us/\rows.length=us.length/\∀qs∈rows,qs.length=n/\∀y∈qs,C y:=by
 induction us with
 | nil=>exact ⟨[],.nil,rfl,λ_ z=>nomatch z⟩
 | cons u us ih =>
  obtain ⟨rows,pr,l,hr⟩:=ih λx hx=>h x (.tail _ hx)
  obtain ⟨q,qs,e,a,r,l1,c⟩:=h u (.head _);refine ⟨qs :: rows,.cons ⟨q,e,a,r⟩ pr,by simp [l],λzs hz=>?_⟩;rcases aN.mp hz with rfl | hz
  ·exact ⟨l1,c⟩
  ·exact hr zs hz
theorem IH {K:FG9} {A:Addr->Prop} {H:Hp} {n:Nat} {C:Rat->Prop} {us:List V} {rows:LR9} (pr:Paired (λqs x=>∃q,x=V.ref q/\A q/\cF K H q qs) rows us) (h:∀qs∈rows,qs.length=n/\∀y∈qs,C y):∀x∈us,fX K A H n C x:=λx hx=>by
 obtain ⟨qs,hq,q,e,a,r⟩:=dh pr hx;exact ⟨q,qs,e,a,r,(h qs hq).1,(h qs hq).2⟩
theorem tG {n:Nat}:∀{rows:LR9},(∀xs∈rows,xs.length=n)->rows.flatten.length=rows.length*n
 | [],_=>by simp
 | xs :: rows,h=>by
  rw[fM,au,h xs (.head _),tG λys hy=>h ys (.tail _ hy),bB,dM,kJ]
theorem Ob {c n:Nat} {rows:LR9} (h:∀qs∈rows,qs.length=n/\∀y∈qs,Dr (2^c) y):∃M:Nat,0 < M/\M<=2^(c*(rows.length*n))/\∀qs∈rows,∀y∈qs,Fr M (2^c) y:=by
 have fl:rows.flatten.length=rows.length*n:=tG λys hy=>(h ys hy).1
 have hm:∀a∈rows.flatten.map (·.den),0 < a/\a<=2^c:=λa ha=>by
  obtain ⟨y,hy,rfl⟩:=aE.mp ha;obtain ⟨qs,hq,hy⟩:=fz.mp hy;exact ⟨y.den_pos,((h qs hq).2 y hy).2⟩
 refine ⟨vC (rows.flatten.map (·.den)),xS λa ha=>(hm a ha).1,?_,λqs hq y hy=>?_⟩
 ·have:=AD (k:=c) (l:=rows.flatten.map (·.den)) λa ha=>(hm a ha).2
  rwa [aj,fl] at this
 ·exact (Fr.own y ((h qs hq).2 y hy).1).dvd (xT (aE.mpr ⟨y,fz.mpr ⟨qs,hq,hy⟩,rfl⟩))
theorem ki {K:FG9} {A:Addr->Prop} {H H0:Hp} {n m:Nat} {C:Rat->Prop} {p:Addr} (h:Tw K A H n C p m) (w:∀q,A q->H0 q=none):∃rows,bE K H0 H p rows/\rows.length=m/\∀qs∈rows,qs.length=n/\∀y∈qs,C y:=by
 obtain ⟨us,g,l,a,r⟩:=h;obtain ⟨rows,pr,lr,hr⟩:=Ay r;refine ⟨rows,⟨us,g,Paired.imp' (λ_ _ ⟨q,e,aq,rq⟩=>⟨q,e,w q aq,rq⟩) pr,λhm=>?_⟩,by rw[lr,l],hr⟩;obtain ⟨q,_,e,aq,_⟩:=r _ hm;cases e;exact a aq
theorem iH.trans {A:Addr->Prop} {b m:Addr} {H H1 H2:Hp} (h:iH A b m H H1) (h':iH A b m H1 H2):iH A b m H H2:=λc u e n1 n2 n3=>h' c u (h c u e n1 n2 n3) n1 n2 n3
theorem L7 {K:FG9} {A:Addr->Prop} {H0 H:Hp} {n:Nat} {C:Rat->Prop} {us:List V} {rows:LR9} (pr:Paired (di K H0 H) rows us) (h:∀qs∈rows,qs.length=n/\∀y∈qs,C y) (w:∀q,V.ref q∈us->H0 q=none->H q≠none->A q):∀x∈us,fX K A H n C x:=λx hx=>by
 obtain ⟨qs,hq,q,e,a,r⟩:=dh pr hx;subst e;exact ⟨q,qs,rfl,w q hx a (by obtain ⟨_,g,_⟩:=r;rw[g];simp),r,(h qs hq).1,(h qs hq).2⟩
def KJ:Sp:=λvs H Q _=>∃b,vs=[.ref b]/\ic H b/\∀r (n i o w:Nat) H',H' r=some (.tup [.int n,.int i,.int o,.int w])->n<=5->i<=4->o<=4->(w=4\/w=9\/(w=1000000/\n<=2))->(n=5->i<=2/\o<=2)->ic H' b->c7 b H H'->Q (.ref r) H'
def eQ (K:FG9) (H0 H:Hp) (r:Addr) (mv pt lk:LR9):Prop:=∃m p l,H r=some (.tup [.ref m,.ref p,.ref l])/\H0 m=none/\H0 p=none/\H0 l=none/\bE K H0 H m mv/\bE K H0 H p pt/\bE K H0 H l lk
section
variable {K:FG9} {H H' H0 H1:Hp} {r b:Addr} {mv pt lk:LR9}
theorem eQ.same (h:eQ K H0 H r mv pt lk) (e:aL H H'):eQ K H0 H' r mv pt lk:=by obtain ⟨m,p,l,g,n1,n2,n3,g1,g2,g3⟩:=h;exact ⟨m,p,l,e _ _ g,n1,n2,n3,g1.same e,g2.same e,g3.same e⟩
theorem eQ.upto (h:eQ K H0 H r mv pt lk) (u:c7 b H H') (B:ic H b) (nb:H0 b≠none):eQ K H0 H' r mv pt lk:=by
 obtain ⟨m,p,l,g,n1,n2,n3,g1,g2,g3⟩:=h;exact ⟨m,p,l,u.tup B g,n1,n2,n3,g1.upto u B (λz=>nb (by rw[<- z];exact n1)) nb,g2.upto u B (λz=>nb (by rw[<- z];exact n2)) nb,g3.upto u B (λz=>nb (by rw[<- z];exact n3)) nb⟩
theorem eQ.weak (h:eQ K H0 H r mv pt lk) (e:∀q,H0 q=none->H1 q=none):eQ K H1 H r mv pt lk:=by
 obtain ⟨m,p,l,g,n1,n2,n3,⟨x1,y1,z1,w1⟩,⟨x2,y2,z2,w2⟩,⟨x3,y3,z3,w3⟩⟩:=h;exact ⟨m,p,l,g,e _ n1,e _ n2,e _ n3,⟨x1,y1,Paired.imp' (λ_ _ ⟨q,a,b,c⟩=>⟨q,a,e _ b,c⟩) z1,w1⟩,⟨x2,y2,Paired.imp' (λ_ _ ⟨q,a,b,c⟩=>⟨q,a,e _ b,c⟩) z2,w2⟩,⟨x3,y3,Paired.imp' (λ_ _ ⟨q,a,b,c⟩=>⟨q,a,e _ b,c⟩) z3,w3⟩⟩
end
inductive Ab (K:FG9) (C:Addr) (vs:List V) (H:Hp) (Q:VK) (E9:XK):Prop
 | mk (r:Addr) (H0:Hp) (mv pt lk:LR9):vs=[.ref r]->eQ K H0 H r mv pt lk->eG mv pt lk->Ea mv pt lk->(∀x H',H x=none->aL H H'->jR K H H' C x mv pt lk->Q (.ref x) H')->Ab K C vs H Q E9
def nextK (mv pt:LR9) (st pu:List Rat) (k:Nat):List Rat:=List.zipWith (λline col=>cE (line++col.take k) (st++pu.take k)) mv (cS pt mv.length)
theorem jf {mv pt:LR9} {st pu:List Rat} {k:Nat}:(nextK mv pt st pu k).length=mv.length:=by unfold nextK;rw[cT,dj];lia
theorem tz {mv pt:LR9} {st pu:List Rat} {k:Nat} (h1:pt.length<=k) (h2:pu.length<=k):nextK mv pt st pu k=fH mv pt st pu:=by
 unfold nextK fH;apply ib;intro i;rw[ck,ck];cases e1:mv[i]? with
 | none=>rfl
 | some line =>
  cases e2:(cS pt mv.length)[i]? with
  | none=>rfl
  | some col =>
   have:=jc col (ay e2);show some _=some _
   rw[aI (by lia),aI h2]
theorem JC {rows:LR9} {w i:Nat} (h:i < w):(cS rows w)[i]?=some (rows.map λxs=>xs.getD i 0):=by
 unfold cS;rw[aG,du h];rfl
theorem IY {mv pt:LR9} {st pu:List Rat}:nextK mv pt st pu 0=mv.map λxs=>cE xs st:=by
 unfold nextK;apply ib;intro i;rw[ck,aG];by_cases hi:i < mv.length
 ·rw[JC hi,af hi];simp
 ·rw[aV (by lia)];rfl
theorem AS {mv pt:LR9} {st pu:List Rat} {k i:Nat} (hi:i < mv.length):(nextK mv pt st pu k).getD i 0=cE (mv[i]++(pt.map λxs=>xs.getD i 0).take k) (st++pu.take k):=by
 rw[aa];unfold nextK;rw[ck,af hi,JC hi];rfl
theorem sS {as bs xs ys:List Rat} (h:as.length=xs.length):cE (as++bs) (xs++ys)=cE as xs+cE bs ys:=by
 unfold cE;rw[List.zipWith_append h,List.sum_append]
theorem IZ {mv pt:LR9} {st pu:List Rat} {k:Nat} (hm:∀xs∈mv,xs.length=st.length) (h1:k < pt.length) (h2:k < pu.length) (hw:(pt[k]).length=mv.length) :
  List.zipWith (λx y=>x+y) (nextK mv pt st pu k) ((pt[k]).map λy=>pu[k]*y)=nextK mv pt st pu (k+1):=by
 have l1:((pt[k]).map λy=>pu[k]*y).length=mv.length:=by rw[aj,hw]
 rw[Cu (by rw[l1,jf])];apply ib;intro i;rw[aG,jf];by_cases hi:i < mv.length
 ·have e0:(nextK mv pt st pu (k+1))[i]?=some ((nextK mv pt st pu (k+1)).getD i 0):=by
   rw[aa,af (by rw[jf];exact hi)];rfl
  rw[du hi,e0,AS hi];have ll:=hm mv[i] (aJ hi);have ec:(pt.map λxs=>xs.getD i 0)[k]?=some ((pt[k]).getD i 0):=by rw[aG,af h1];rfl
  have ep:pu[k]?=some pu[k]:=af h2
  have e3:((pt[k]).map λy=>pu[k]*y).getD i 0=pu[k]*(pt[k]).getD i 0:=by
   rw[getD_map (by rw[hw];exact hi),aa,af (by rw[hw];exact hi)];rfl
  show some ((nextK mv pt st pu k).getD i 0+((pt[k]).map λy=>pu[k]*y).getD i 0)=some _
  rw[AS hi,e3,take_snoc ec,take_snoc ep,sS ll,sS ll,sS (by rw[cG,cG,aj];lia)];have:cE [(pt[k]).getD i 0] [pu[k]]=(pt[k]).getD i 0*pu[k]:=by simp [cE,iV]
  rw[this];congr 1;grind
 ·rw[aV (by simpa using hi),aV (by rw[jf];lia)];rfl
theorem jR.weakN {K:FG9} {H H0 H1:Hp} {C p:Addr} {mv pt lk:LR9} (h:jR K H0 H C p mv pt lk) (e:∀q,H0 q=none->H1 q=none):jR K H1 H C p mv pt lk:=by
 obtain ⟨dx,a,b,c,g,n1,n2,n3,⟨x1,y1,z1,w1⟩,⟨x2,y2,z2,w2⟩,⟨x3,y3,z3,w3⟩⟩:=h;exact ⟨dx,a,b,c,g,e _ n1,e _ n2,e _ n3,⟨x1,y1,Paired.imp' (λ_ _ ⟨q,a,b,c⟩=>⟨q,a,e _ b,c⟩) z1,w1⟩,⟨x2,y2,Paired.imp' (λ_ _ ⟨q,a,b,c⟩=>⟨q,a,e _ b,c⟩) z2,w2⟩,⟨x3,y3,Paired.imp' (λ_ _ ⟨q,a,b,c⟩=>⟨q,a,e _ b,c⟩) z3,w3⟩⟩
theorem Dn {mv pt:LR9} {st pu:List Rat}:(fH mv pt st pu).length=mv.length:=by unfold fH;rw[cT,dj];lia
def oQ (k j:Nat) (l:List Rat):Prop:=∃M V:Nat,0 < M/\M<=2^k/\V<=2^j/\∀x∈l,Fr M V x
theorem OU {M V:Nat} {x:Rat} (h0:0 < M) (h1:M<=2^2000) (h2:V<=2^1950) (h:Fr M V x):nB x:=by
 obtain ⟨a,b⟩:=h.sz h0 h1 h2;exact ⟨a.mono (by decide),b.mono (by decide)⟩
section
variable {k j k' j':Nat} {l xs ys:List Rat} {x y:Rat}
theorem oQ.szn (h:oQ k j l) (hx:x∈l) (hk:k+j<=3950:=by decide):nB x:=by
 obtain ⟨M,V,h0,h1,h2,h3⟩:=h;obtain ⟨a,b⟩:=(h3 x hx).sz h0 h1 h2;exact ⟨a.mono (by lia),b.mono (by lia)⟩
theorem oQ.rowM (h:oQ k j l) (hk:k+j<=4200:=by decide):∃M,Ju M (l.map nm):=by
 obtain ⟨M,V,h0,h1,h2,h3⟩:=h;refine ⟨M,by lia,?_,λn hn=>?_⟩
 ·show ((M:Nat):Int).natAbs < 2^4400
  rw[cw];exact bL h1 (eo (by decide) (by lia))
 ·obtain ⟨x,hx,rfl⟩:=aE.mp hn;obtain ⟨a,_⟩:=(h3 x hx).sz h0 h1 h2;exact ⟨jE x,(h3 x hx).den,a.mono (by lia)⟩
theorem oQ.one (h:oQ k j l) (hx:x∈l):oQ k j [x]:=by
 obtain ⟨M,V,h0,h1,h2,h3⟩:=h;exact ⟨M,V,h0,h1,h2,λy hy=>by rw[bS.mp hy];exact h3 x hx⟩
theorem Nc (h:oQ k j xs) (h':oQ k' j' ys) (hl:xs.length<=1000) (i:Nat) (hk:(k+k')+(j+j')<=3930:=by decide):nB (cE (xs.take i) (ys.take i)):=by
 obtain ⟨M,V,h0,h1,h2,h3⟩:=h;obtain ⟨N,W,k0,k1,k2,k3⟩:=h'
 have e:1000*(V*W)<=2^(10+(j+j')):=by
  rw[a8 2 10];exact aK (by decide) (ai (aK h2 k2) (by rw[<- a8];exact ak _))
 obtain ⟨a,b⟩:=((Fr.dot (λx hx=>h3 x (cy hx)) (λy hy=>k3 y (cy hy))).mono (az _ (show (xs.take i).length<=1000 by rw[cG];lia))).sz (bQ h0 k0) (ai (aK h1 k1) (by rw[<- a8];exact ak _)) e;exact ⟨a.mono (by lia),b.mono (by lia)⟩
theorem My (hx:oQ k j [x]) (hy:oQ k' j' [y]) (hk:(k+k')+(j+j')<=3930:=by decide):nB (x*y):=by
 obtain ⟨M,V,h0,h1,h2,h3⟩:=hx;obtain ⟨N,W,k0,k1,k2,k3⟩:=hy;obtain ⟨a,b⟩:=((h3 x (.head _)).mul (k3 y (.head _))).sz (bQ h0 k0) (ai (aK h1 k1) (by rw[<- a8];exact ak _)) (ai (aK h2 k2) (by rw[<- a8];exact ak _));exact ⟨a.mono (by lia),b.mono (by lia)⟩
def rf (xs ys:List Rat):Prop:=∃k j k' j':Nat,oQ k j xs/\oQ k' j' ys/\(k+k')+(j+j')<=3930
theorem rf.sys (h:oQ 400 120 xs) (h':oQ 1500 1800 ys):rf xs ys:=⟨_,_,_,_,h,h',by decide⟩
end
def Ku (mv pt lk:LR9):Prop:=∃M V:Nat,0 < M/\M<=2^400/\V<=2^120/\GF M V mv/\GF M V pt/\GF M V lk
section
variable {mv pt lk:LR9}
theorem Ku.fits (h:Ku mv pt lk) {l:List Rat} (hl:∀x∈l,(∃xs∈mv,x∈xs)\/(∃xs∈pt,x∈xs)\/(∃xs∈lk,x∈xs)\/x=0):oQ 400 120 l:=by
 obtain ⟨M,V,h0,h1,h2,g1,g2,g3⟩:=h;refine ⟨M,V,h0,h1,h2,λx hx=>?_⟩;rcases hl x hx with ⟨xs,a,b⟩ | ⟨xs,a,b⟩ | ⟨xs,a,b⟩ | rfl
 ·exact g1 xs a x b
 ·exact g2 xs a x b
 ·exact g3 xs a x b
 ·exact Fr.zero
theorem Ku.sf (h:Ku mv pt lk):Ea mv pt lk:=by obtain ⟨M,V,a,b,c,d⟩:=h;exact ⟨M,V,a,ai b (ax (by decide) (by decide)),ai c (ax (by decide) (by decide)),d⟩
end
inductive Er (K:FG9) (vs:List V) (H:Hp) (Q:VK) (E9:XK):Prop
 | mk (p q:Addr) (xs ys:List Rat):vs=[.ref p,.ref q]->cF K H p xs->cF K H q ys->ys.length=xs.length->xs.length<=1000->rf xs ys->(∀r H',aL H H'->cz K H' (cE xs ys) (.ref r)->Q (.ref r) H')->Er K vs H Q E9
inductive Ep (K:FG9) (vs:List V) (H:Hp) (Q:VK) (E9:XK):Prop
 | mk (p q:Addr) (H0:Hp) (rows:LR9) (ys:List Rat):vs=[.ref p,.ref q]->bE K H0 H p rows->cF K H q ys->rows.length<=1000->ys.length<=1000->((∀xs∈rows,xs.length=ys.length/\rf xs ys))->(∀r H',H r=none->aL H H'->cF K H' r (rows.map λxs=>cE xs ys)->Q (.ref r) H')->Ep K vs H Q E9
inductive CL (K:FG9) (C:Addr) (vs:List V) (H:Hp) (Q:VK) (E9:XK):Prop
 | mk (x p q:Addr) (H0:Hp) (mv pt lk:LR9) (st pu:List Rat):vs=[.ref x,.ref p,.ref q]->jR K H0 H C x mv pt lk->eG mv pt lk->Ku mv pt lk->cF K H p st->cF K H q pu->st.length=mv.length->pu.length=pt.length->oQ 1500 1800 (st++pu)->(∀r H',H r=none->aL H H'->cF K H' r (fH mv pt st pu)->Q (.ref r) H')->CL K C vs H Q E9
def jU (mv pt:LR9) (st:List Rat) (pus:LR9) (k:Nat):List Rat:=(pus.take k).foldl (fH mv pt) st
def nh (mv pt:LR9) (st:List Rat) (pus:LR9):LR9:=(List.range (pus.length+1)).map (jU mv pt st pus)
section
variable {mv pt lk pus:LR9} {st:List Rat} {k:Nat}
theorem LP:jU mv pt st pus 0=st:=rfl
theorem lZ {pu:List Rat} (h:pus[k]?=some pu):jU mv pt st pus (k+1)=fH mv pt (jU mv pt st pus k) pu:=by
 unfold jU;rw[take_snoc h,List.foldl_append];rfl
theorem jo (h:st.length=mv.length):∀{k:Nat},k<=pus.length->(jU mv pt st pus k).length=mv.length
 | 0,_=>h
 | k+1,hk=>by rw[lZ (af (show k < pus.length by lia)),Dn]
theorem vm:(nh mv pt st pus).length=pus.length+1:=by unfold nh;rw[aj,cv]
theorem tI (h:k<=pus.length):(nh mv pt st pus)[k]?=some (jU mv pt st pus k):=by
 unfold nh;rw[aG,du (by lia)];rfl
def FE (mv pt:LR9) (st:List Rat) (pus:LR9):Prop:=∀k,k<=pus.length->∃N W:Nat,0 < N/\N<=2^1500/\W<=2^1800/\(∀x∈jU mv pt st pus k,Fr N W x)/\∀xs∈pus,∀x∈xs,Fr N W x
theorem FE.both (h:FE mv pt st pus) (hk:k<=pus.length) {pu:List Rat} (hp:pu∈pus):oQ 1500 1800 (jU mv pt st pus k++pu):=by
 obtain ⟨N,W,a,b,c,d,e⟩:=h k hk;exact ⟨N,W,a,b,c,λx hx=>(aA.mp hx).elim (d x) (e pu hp x)⟩
theorem FE.state (h:FE mv pt st pus) (hk:k<=pus.length):oQ 1500 1800 (jU mv pt st pus k):=by
 obtain ⟨N,W,a,b,c,d,e⟩:=h k hk;exact ⟨N,W,a,b,c,d⟩
theorem JB {M W:Nat} {rows:LR9} {w:Nat} (h:GF M W rows):GF M W (cS rows w):=λys hy y hy'=>by
 obtain ⟨j,_,rfl⟩:=aE.mp hy;obtain ⟨xs,hx,rfl⟩:=aE.mp hy';rw[aa];cases e:xs[j]? with
 | none=>exact Fr.zero
 | some z=>exact h xs hx z (ay e)
end
def yl (K:FG9) (H:Hp) (l:Addr) (H':Hp) (xs:List Rat) (x:V):Prop:=∃q,x=.ref q/\H q=none/\q≠l/\cF K H' q xs
section
variable {K:FG9} {H H' H2:Hp} {l:Addr} {xs:List Rat} {x:V}
theorem yl.same (h:yl K H l H' xs x) (e:aL H' H2):yl K H l H2 xs x:=by obtain ⟨q,a,b,c,d⟩:=h;exact ⟨q,a,b,c,d.same e⟩
theorem yl.upd {ys:List V} {o:HO} (h:yl K H l H' xs x) (hl:H' l=some (.lst ys)):yl K H l (upd H' l o) xs x:=by obtain ⟨q,a,b,c,d⟩:=h;exact ⟨q,a,b,c,d.updL hl c⟩
theorem yl.rowF (h:yl K H l H' xs x):di K H H' xs x:=by obtain ⟨q,a,b,_,d⟩:=h;exact ⟨q,a,b,d⟩
theorem KR {o:HO} (e:aL H H') (n:H l=none):aL H (upd H' l o):=λb u h=>by
 rw[bM (λz=>by rw[z,n] at h;cases h)];exact e b u h
theorem Az:∀{rows:LR9} {ys:List V},Paired (yl K H l H') rows ys->V.ref l∉ys
 | _,_,.nil=>by simp
 | _,_,.cons ⟨q,a,_,c,_⟩ r=>by
  intro hm;rcases aN.mp hm with e | hm
  ·rw[a] at e;cases e;exact c rfl
  ·exact Az r hm
end
inductive Aj (K:FG9) (C:Addr) (vs:List V) (H:Hp) (Q:VK) (E9:XK):Prop
 | mk (x s p:Addr) (H0 H1:Hp) (mv pt lk pus:LR9) (st:List Rat):vs=[.ref x,.ref s,.ref p]->jR K H0 H C x mv pt lk->eG mv pt lk->Ku mv pt lk->cF K H s st->st.length=mv.length->bE K H1 H p pus->pus.length<=100->(∀xs∈pus,xs.length=pt.length)->FE mv pt st pus->(∀r H',H r=none->aL H H'->bE K H H' r (nh mv pt st pus)->Q (.ref r) H')->Aj K C vs H Q E9
theorem yh {c:Nat} {l:List Rat} (h:∀x∈l,Dr (2^c) x) (hc:c<=20):∃B:Nat,0 < B/\B<=2^(c*l.length+2)/\∀x∈l,Fr B (2^22) x:=by
 obtain ⟨M,h0,h1,h2⟩:=OT (c:=c) (n:=l.length) (i:=0) (rows:=[]) Rh rfl h hc;refine ⟨M,h0,?_,h2 l (by simp)⟩;rw[Nat.zero_add,mM] at h1;exact h1
theorem HI {i:Nat}:∀{pus:LR9},(∀xs∈pus,xs.length=i)->pus.flatten.length=pus.length*i
 | [],_=>by simp
 | x :: r,h=>by
  rw[fM,au,h x (.head _),HI (λxs hx=>h xs (.tail _ hx)),bB,dM]
  lia
theorem Sr {i:Int} (h:i=0\/i=1):Fr 1 1 (i:Rat):=Fr.int (by rcases h with rfl | rfl <;> decide)
theorem nV {α β:Type} {F:α->β->Prop}:∀{l1:List α} {l2:List β} (_:Paired F l1 l2) (k:Nat),Paired F (l1.drop k) (l2.drop k)
 | _,_,h,0=>h
 | _,_,.nil,_+1=>.nil
 | _,_,.cons _ r,k+1=>nV r k
theorem O0 {xs:List V} {t n:Nat} (h:t+n<=xs.length):qZ xs (some (t:Int)) (some ((t:Int)+(n:Int)))=(xs.drop t).take n:=by
 unfold qZ;rw[show ((t:Int)+(n:Int))=((t+n:Nat):Int) by lia,HT.vz,HT.vz,jk (show t<=xs.length by lia),jk h,TC]
end L2
namespace L2
abbrev gZ:=Nat->Rat
def zC (F:List gZ->Rat) (r:Nat):List gZ->List gZ->Rat->Rat
 | _,[],_=>0
 | pre,v :: post,s=>s*v r*F (pre++post)+zC F r (pre++[v]) post (-s)
def iL:List Nat->List gZ->Rat
 | [],[]=>1
 | [],_ :: _=>0
 | r :: rs,vs=>zC (λws=>iL rs ws) r [] vs 1
theorem Fm {a b:List gZ} {x:gZ}:iL [] (a++x :: b)=0:=by
 cases a <;> rfl
theorem Fb {F:List gZ->Rat} {r:Nat} {f g h:gZ} {x y:Rat} (hF:∀a b,F (a++h :: b)=x*F (a++f :: b)+y*F (a++g :: b)):∀(b p q:List gZ) (s:Rat),zC F r (p++h :: q) b s=x*zC F r (p++f :: q) b s+y*zC F r (p++g :: q) b s
 | [],p,q,s=>by simp only[zC,dJ,iV]
 | v :: b,p,q,s=>by
  have i1:=hF p (q++b);have i2:=Fb (r:=r) hF b p (q++[v]) (-s);simp only[zC,cP,fA] at i1 i2 ⊢;rw[i1,i2];grind
theorem JY {F:List gZ->Rat} {r:Nat} {f g h:gZ} {x y:Rat} (hF:∀a b,F (a++h :: b)=x*F (a++f :: b)+y*F (a++g :: b)) (hr:h r=x*f r+y*g r):∀(a pre b:List gZ) (s:Rat),zC F r pre (a++h :: b) s=x*zC F r pre (a++f :: b) s+y*zC F r pre (a++g :: b) s
 | [],pre,b,s=>by
  have i2:=Fb (r:=r) hF b pre [] (-s);simp only[zC,dc] at i2 ⊢;rw[i2,hr];grind
 | v :: a,pre,b,s=>by
  have i1:=hF (pre++a) b;have i2:=JY hF hr a (pre++[v]) b (-s);simp only[zC,cP,fA] at i1 i2 ⊢;rw[i1,i2];grind
theorem sQ {f g h:gZ} {x y:Rat}:∀{rs:List Nat},(∀r∈rs,h r=x*f r+y*g r)->∀a b,iL rs (a++h :: b)=x*iL rs (a++f :: b)+y*iL rs (a++g :: b)
 | [],_,a,b=>by rw[Fm,Fm,Fm];grind
 | r :: rs,hr,a,b=>JY (λa b=>sQ (λr' h'=>hr r' (.tail _ h')) a b) (hr r (.head _)) a [] b 1
theorem Nb {f h:gZ} {rs:List Nat} (hr:∀r∈rs,h r=f r) (a b:List gZ):iL rs (a++h :: b)=iL rs (a++f :: b):=by
 rw[sQ (f:=f) (g:=f) (x:=1) (y:=0) (λr h'=>by rw[hr r h'];grind) a b];grind
theorem Ke {h:gZ} {rs:List Nat} (hr:∀r∈rs,h r=0) (a b:List gZ):iL rs (a++h :: b)=0:=by
 rw[sQ (f:=h) (g:=h) (x:=0) (y:=0) (λr h'=>by rw[hr r h'];grind) a b];grind
theorem JZ {F:List gZ->Rat} {r:Nat} {x:gZ} (hF:∀a b,F (a++x :: x :: b)=0):∀(b p q:List gZ) (s:Rat),zC F r (p++x :: x :: q) b s=0
 | [],p,q,s=>rfl
 | v :: b,p,q,s=>by
  have i1:=hF p (q++b);have i2:=JZ (r:=r) hF b p (q++[v]) (-s);simp only[zC,cP,fA] at i1 i2 ⊢;rw[i1,i2];grind
theorem J0 {F:List gZ->Rat} {r:Nat} {x:gZ} (hF:∀a b,F (a++x :: x :: b)=0):∀(a pre b:List gZ) (s:Rat),zC F r pre (a++x :: x :: b) s=0
 | [],pre,b,s=>by
  have i2:=JZ (r:=r) hF b pre [] (- -s);simp only[zC,dc,cP,fA] at i2 ⊢;rw[i2];grind
 | v :: a,pre,b,s=>by
  have i1:=hF (pre++a) b;have i2:=J0 (r:=r) hF a (pre++[v]) b (-s);simp only[zC,cP,fA] at i1 i2 ⊢;rw[i1,i2];grind
theorem Bj {x:gZ}:∀{rs:List Nat} (a b:List gZ),iL rs (a++x :: x :: b)=0
 | [],a,b=>Fm
 | r :: rs,a,b=>J0 (λa b=>Bj a b) a [] b 1
theorem OX {x y:gZ} {rs:List Nat} (a b:List gZ):iL rs (a++x :: y :: b)=- iL rs (a++y :: x :: b):=by
 have hr:∀r∈rs,(λr=>1*x r+1*y r) r=1*x r+1*y r:=λ_ _=>rfl
 have h0:=Bj (x:=λr=>1*x r+1*y r) (rs:=rs) a b;have h1:=sQ hr a ((λr=>1*x r+1*y r) :: b);have h2:=sQ hr (a++[x]) b;have h3:=sQ hr (a++[y]) b;have h4:=Bj (x:=x) (rs:=rs) a b;have h5:=Bj (x:=y) (rs:=rs) a b;simp only[cP,fA,dc] at h0 h1 h2 h3 h4 h5;rw[h1,h2,h3,h4,h5] at h0;grind
theorem Fo {x:gZ} {rs:List Nat}:∀(b a c:List gZ),iL rs (a++x :: (b++x :: c))=0
 | [],a,c=>Bj a c
 | y :: b,a,c=>by
  have:=Fo (x:=x) (rs:=rs) b (a++[y]) c;simp only[cP,fA,dc] at this;rw[fA,OX,this];rfl
def bo:Nat->(Nat->Rat)->Rat
 | 0,_=>0
 | k+1,f=>bo k f+f k
theorem aH {f g:Nat->Rat}:∀{k:Nat},(∀j,j < k->f j=g j)->bo k f=bo k g
 | 0,_=>rfl
 | k+1,h=>by
  show bo k f+f k=bo k g+g k
  rw[aH λj hj=>h j (by lia),h k (by lia)]
theorem kM {f g:Nat->Rat}:∀{k:Nat},bo k (λj=>f j+g j)=bo k f+bo k g
 | 0=>by show (0:Rat)=0+0;grind
 | k+1=>by
  show bo k (λj=>f j+g j)+_=(bo k f+f k)+(bo k g+g k)
  rw[kM];grind
theorem bV {f:Nat->Rat} {c:Rat}:∀{k:Nat},bo k (λj=>c*f j)=c*bo k f
 | 0=>by show (0:Rat)=c*0;grind
 | k+1=>by
  show bo k (λj=>c*f j)+_=c*(bo k f+f k)
  rw[bV];grind
theorem cJ {f:Nat->Rat}:∀{k:Nat},(∀j,j < k->f j=0)->bo k f=0
 | 0,_=>rfl
 | k+1,h=>by
  show bo k f+f k=0
  rw[cJ λj hj=>h j (by lia),h k (by lia)];grind
theorem eU {f:Nat->Rat} {i:Nat}:∀{k:Nat},i < k->(∀j,j < k->j≠i->f j=0)->bo k f=f i
 | k+1,hi,h=>by
  show bo k f+f k=f i
  by_cases e:i=k
  ·subst e;rw[cJ λj hj=>h j (by lia) (by lia)];grind
  ·rw[eU (by lia) λj hj=>h j (by lia),h k (by lia) (λz=>e z.symm)];grind
theorem dn {f:Nat->Nat->Rat} {m:Nat}:∀{k:Nat},bo k (λi=>bo m (f i))=bo m (λj=>bo k λi=>f i j)
 | 0=>(cJ λ_ _=>rfl).symm
 | k+1=>by
  show bo k (λi=>bo m (f i))+bo m (f k)=bo m (λj=>bo k (λi=>f i j)+f k j)
  rw[dn,kM]
theorem Fl {rs:List Nat} {W:gZ} {v:Nat->gZ} {c:Nat->Rat} (a b:List gZ):∀{k:Nat} {W:gZ},(∀r∈rs,W r=bo k λj=>c j*v j r)->iL rs (a++W :: b)=bo k λj=>c j*iL rs (a++v j :: b)
 | 0,W,h=>Ke h a b
 | k+1,W,h=>by
  rw[sQ (f:=λr=>bo k λj=>c j*v j r) (g:=v k) (x:=1) (y:=c k) (λr hr=>by rw[h r hr];show bo k _+_=_;grind) a b,Fl a b (k:=k) (W:=λr=>bo k λj=>c j*v j r) λr _=>rfl];show _=bo k _+_
  grind
end L2
namespace L2
open Nm
def jW (f:Nat->Nat):Nat->List Nat
 | 0=>[]
 | k+1=>f k :: jW f k
def iu (v:Nat->gZ):Nat->List gZ
 | 0=>[]
 | k+1=>v k :: iu v k
def Ii (v:Nat->gZ) (i:Nat):Nat->List gZ
 | 0=>[]
 | k+1=>if k<=i then [] else v k :: Ii v i k
theorem pQ {f:Nat->Nat}:∀{k:Nat},(jW f k).length=k
 | 0=>rfl
 | k+1=>by show (jW f k).length+1=_;rw[pQ]
theorem cw_len {v:Nat->gZ}:∀{k:Nat},(iu v k).length=k
 | 0=>rfl
 | k+1=>by show (iu v k).length+1=_;rw[cw_len]
theorem k9 {f:Nat->Nat} {r:Nat}:∀{k:Nat},r∈jW f k->∃t,t < k/\r=f t
 | k+1,h=>by
  rcases aN.mp h with h | h
  ·exact ⟨k,by lia,h⟩
  ·obtain ⟨t,a,b⟩:=k9 h;exact ⟨t,by lia,b⟩
theorem Gz {f g:Nat->Nat}:∀{k:Nat},(∀j,j < k->f j=g j)->jW f k=jW g k
 | 0,_=>rfl
 | k+1,h=>by
  show f k :: jW f k=g k :: jW g k
  rw[h k (by lia),Gz λj hj=>h j (by lia)]
theorem cw_congr {f g:Nat->gZ}:∀{k:Nat},(∀j,j < k->f j=g j)->iu f k=iu g k
 | 0,_=>rfl
 | k+1,h=>by
  show f k :: iu f k=g k :: iu g k
  rw[h k (by lia),cw_congr λj hj=>h j (by lia)]
theorem cw_mem {v:Nat->gZ} {j:Nat}:∀{k:Nat},j < k->v j∈iu v k
 | k+1,h=>by
  by_cases e:j=k
  ·subst e;exact .head _
  ·exact .tail _ (cw_mem (by lia))
theorem cw_in {v:Nat->gZ} {x:gZ}:∀{k:Nat},x∈iu v k->∃t,t < k/\x=v t
 | k+1,h=>by
  rcases aN.mp h with h | h
  ·exact ⟨k,by lia,h⟩
  ·obtain ⟨t,a,b⟩:=cw_in h;exact ⟨t,by lia,b⟩
theorem Ni {v:Nat->gZ} {i j:Nat} (h1:i < j):∀{k:Nat},j < k->v j∈Ii v i k
 | k+1,h=>by
  show v j∈if k<=i then [] else v k :: Ii v i k
  rw[if_neg (by lia)];by_cases e:j=k
  ·subst e;exact .head _
  ·exact .tail _ (Ni h1 (by lia))
theorem DG {v:Nat->gZ} {i:Nat} {x:gZ}:∀{k:Nat},x∈Ii v i k->∃t,t < k/\x=v t
 | k+1,h=>by
  have h:x∈if k<=i then [] else v k :: Ii v i k:=h
  split at h
  ·cases h
  ·rcases aN.mp h with h | h
   ·exact ⟨k,by lia,h⟩
   ·obtain ⟨t,a,b⟩:=DG h;exact ⟨t,by lia,b⟩
theorem cw_split {v:Nat->gZ} {i:Nat}:∀{k:Nat},i < k->iu v k=Ii v i k++v i :: iu v i
 | k+1,h=>by
  show v k :: iu v k=(if k<=i then [] else v k :: Ii v i k)++_
  by_cases e:i=k
  ·subst e;rw[if_pos (ak _)];rfl
  ·rw[if_neg (by lia),cw_split (k:=k) (i:=i) (by lia)];rfl
theorem tH {rs:List Nat} {v:Nat->gZ} {c:Nat->Rat} {W:gZ} {k i:Nat} (hi:i < k) (hW:∀r∈rs,W r=bo k λj=>c j*v j r):iL rs (Ii v i k++W :: iu v i)=c i*iL rs (iu v k):=by
 rw[Fl (v:=v) (c:=c) (W:=W) _ _ hW,eU hi λj hj ne=>?_,cw_split hi];rcases b9 j i with h | h
 ·obtain ⟨s,t,e⟩:=Im (cw_mem (v:=v) h);rw[e,Fo];grind
 ·obtain ⟨s,t,e⟩:=Im (Ni (v:=v) (show i < j by lia) hj);have:=Fo (x:=v j) (rs:=rs) t s (iu v i);rw[e,cP,fA,this];grind
theorem Ro {rs:List Nat} {v:Nat->gZ} {c:Nat->Rat} {W:gZ} {k:Nat} (hW:∀r∈rs,W r=bo k λj=>c j*v j r):iL rs (W :: iu v k)=0:=by
 have:=Fl (v:=v) (c:=c) (W:=W) [] (iu v k) hW;rw[dc] at this;rw[this];refine cJ λj hj=>?_
 obtain ⟨s,t,e⟩:=Im (cw_mem (v:=v) hj);have:=Fo (x:=v j) (rs:=rs) s [] t;rw[dc] at this;rw[e,dc,this];grind
theorem Lm {rs:List Nat} {v:Nat->gZ} {c:Nat->Rat} {W:gZ} {k i:Nat} {s:Rat} (hi:i∉rs) (h1:W i=bo k (λj=>c j*v j i)+s) (hW:∀r∈rs,W r=bo k λj=>c j*v j r):iL (i :: rs) (W :: iu v k)=s*iL rs (iu v k):=by
 have e:=sQ (rs:=i :: rs) (h:=W) (f:=λr=>bo k λj=>c j*v j r) (g:=λr=>if r=i then 1 else 0) (x:=1) (y:=s) (λr hr=>by
  rcases aN.mp hr with rfl | hr
  ·rw[h1,if_pos rfl];grind
  ·rw[hW r hr,if_neg (λz=>hi (by rw[<- z];exact hr))];grind) [] (iu v k)
 rw[dc,dc,dc,Ro (c:=c) λr _=>rfl] at e
 have e2:iL (i :: rs) ((λr=>if r=i then (1:Rat) else 0) :: iu v k)=iL rs (iu v k):=by
  show 1*(if i=i then (1:Rat) else 0)*iL rs ([]++iu v k)+zC (λws=>iL rs ws) i ([]++[λr=>if r=i then (1:Rat) else 0]) (iu v k) (-1)=_
  have hF:∀a b,(λws=>iL rs ws) (a++(λr=>if r=i then (1:Rat) else 0) :: b)=0*(λws=>iL rs ws) (a++(λr=>if r=i then (1:Rat) else 0) :: b)+0*(λws=>iL rs ws) (a++(λr=>if r=i then (1:Rat) else 0) :: b):=λa b=>by
   have:=Ke (h:=λr=>if r=i then (1:Rat) else 0) (rs:=rs) (λr hr=>if_neg λz=>hi (by rw[<- z];exact hr)) a b
   dsimp only
   rw[this];grind
  have:=Fb (r:=i) hF (iu v k) [] [] (-1);rw[this,if_pos rfl,dc];grind
 rw[e2] at e;rw[e];grind
theorem MF {F:List gZ->Rat} {r B W:Nat}:∀{post pre:List gZ} {s:Rat},(∀ws,(∀w∈ws,w∈pre++post)->ws.length+1=(pre++post).length->Fr 1 B (F ws))->(∀w∈post,Fr 1 W (w r))->Fr 1 1 s->Fr 1 (post.length*(W*B)) (zC F r pre post s)
 | [],pre,s,_,_,_=>by show Fr 1 _ 0;exact Fr.zero
 | v :: post,pre,s,hF,hw,hs=>by
  have t1:Fr 1 (W*B) (s*v r*F (pre++post)):=by
   have:=(hs.mul (hw v (.head _))).mul (hF (pre++post) (λw h=>by
    rcases aA.mp h with h | h
    ·exact dk _ h
    ·exact bG _ (.tail _ h)) (by simp only[au,bB];lia))
   simpa using this
  have t2:=MF (F:=F) (r:=r) (B:=B) (W:=W) (post:=post) (pre:=pre++[v]) (s:=-s) (λws h h'=>hF ws (λw hw=>by simpa using h w hw) (by simpa using h')) (λw h=>hw w (.tail _ h)) (by simpa using hs.neg);exact (t1.add t2).mono (by rw[bB,dM];lia)
theorem Bi {W N:Nat}:∀{rs:List Nat} {vs:List gZ},vs.length<=N->(∀v∈vs,∀r∈rs,Fr 1 W (v r))->Fr 1 ((N*W)^rs.length) (iL rs vs)
 | [],[],_,_=>by show Fr 1 1 1;exact (Fr.int (i:=1) (by decide))
 | [],_ :: _,_,_=>by show Fr 1 _ 0;exact Fr.zero
 | r :: rs,vs,hl,h=>by
  have:=MF (F:=λws=>iL rs ws) (r:=r) (B:=(N*W)^rs.length) (W:=W) (post:=vs) (pre:=[]) (s:=1) (λws h1 h2=>Bi (by rw[dc] at h2;lia) λv hv r' hr'=>h v (by simpa using h1 v hv) r' (.tail _ hr')) (λw hw=>h w hw r (.head _)) (Fr.int (i:=1) (by decide));refine this.mono ?_;rw[bB,fG,bZ ((N*W)^rs.length),cR N];exact az _ hl
structure BN (a:Nat->Nat->Rat) (m k:Nat) (pm p:Nat->Nat) (l:Nat->Nat->Rat) (d:Rat):Prop where
 inj:∀i j,i < m->j < m->pm i=pm j->i=j
 rng:∀i,i < m->pm i < m
 km:k<=m
 d0:d≠0
 det:d=iL (jW pm k) (iu (λj r=>a r (p j)) k)
 eqs:∀i,i < m->∀c,d*a (pm i) c=bo k (λj=>a (pm i) (p j)*l j c)+if i < k then 0 else l i c
 unit:∀i,i < m->∀j,j < k->l i (p j)=if i=j then d else 0
section
variable {a l:Nat->Nat->Rat} {m k:Nat} {pm p:Nat->Nat} {d:Rat}
theorem BN.start (h:∀i,i < m->pm i=i):BN a m 0 pm p a 1 where
 inj i j hi hj e:=by rw[h i hi,h j hj] at e;exact e
 rng i hi:=by rw[h i hi];exact hi
 km:=bu _
 d0:=by decide
 det:=rfl
 eqs i hi c:=by
  rw[h i hi,if_neg (by lia)];show 1*a i c=0+a i c
  grind
 unit i _ j hj:=absurd hj (by lia)
theorem BN.coef (B:BN a m k pm p l d) {i c:Nat} (hi:i < m):a (pm i) c=bo k (λj=>(l j c / d)*a (pm i) (p j))+if i < k then 0 else l i c / d:=by
 have h:=B.eqs i hi c;have d0:=B.d0
 have e:bo k (λj=>(l j c / d)*a (pm i) (p j))=(1 / d)*bo k (λj=>a (pm i) (p j)*l j c):=by
  rw[<- bV];exact aH λj _=>by grind
 rw[e]
 split at h
 ·rw[if_pos (by assumption)];grind
 ·rw[if_neg (by assumption)];grind
theorem BN.old (B:BN a m k pm p l d) {i c:Nat} (hi:i < k):l i c=iL (jW pm k) (Ii (λj r=>a r (p j)) i k++(λr=>a r c) :: iu (λj r=>a r (p j)) i):=by
 have km:=B.km;have d0:=B.d0;rw[tH (v:=λj r=>a r (p j)) (c:=λj=>l j c / d) hi λr hr=>?_,<- B.det]
 ·grind
 ·obtain ⟨t,ht,rfl⟩:=k9 hr;have:=B.coef (i:=t) (c:=c) (by lia);rw[if_pos ht] at this;rw[this];grind
theorem BN.new (B:BN a m k pm p l d) {i c:Nat} (h1:k<=i) (hi:i < m):l i c=iL (pm i :: jW pm k) ((λr=>a r c) :: iu (λj r=>a r (p j)) k):=by
 have km:=B.km;have d0:=B.d0
 have hn:pm i∉jW pm k:=λhm=>by
  obtain ⟨t,ht,e⟩:=k9 hm;have:=B.inj i t hi (by lia) e
  lia
 have e1:a (pm i) c=bo k (λj=>(l j c / d)*a (pm i) (p j))+l i c / d:=by
  have:=B.coef (i:=i) (c:=c) hi;rwa [if_neg (by lia)] at this
 have e2:∀r∈jW pm k,a r c=bo k (λj=>(l j c / d)*a r (p j)):=λr hr=>by
  obtain ⟨t,ht,rfl⟩:=k9 hr;have:=B.coef (i:=t) (c:=c) (by lia);rw[if_pos ht] at this;rw[this];grind
 rw[Lm (v:=λj r=>a r (p j)) (c:=λj=>l j c / d) (W:=λr=>a r c) (s:=l i c / d) hn e1 e2,<- B.det];grind
theorem BN.fr {W N:Nat} (B:BN a m k pm p l d) (hN:k < N) (hW:1<=W) (ha:∀i,i < m->∀c,Fr 1 W (a i c)) {i c:Nat} (hi:i < m):Fr 1 ((N*W)^(k+1)) (l i c):=by
 have km:=B.km;have mono:∀t,t<=k+1->(N*W)^t<=(N*W)^(k+1):=λt ht=>ax (bQ (by lia) hW) ht
 have ha':∀r∈jW pm k,∀c,Fr 1 W (a r c):=λr hr c=>by
  obtain ⟨t,ht,rfl⟩:=k9 hr;exact ha _ (B.rng t (by lia)) c
 by_cases h:i < k
 ·rw[B.old h];refine (Bi (W:=W) (N:=N) ?_ ?_).mono (mono _ (by rw[pQ];lia))
  ·have:=congrArg List.length (cw_split (v:=λj r=>a r (p j)) h);rw[au,bB,cw_len] at this;rw[au,bB]
   lia
  ·intro v hv r hr;rcases aA.mp hv with hv | hv
   ·obtain ⟨t,_,rfl⟩:=DG hv;exact ha' r hr _
   ·rcases aN.mp hv with rfl | hv
    ·exact ha' r hr _
    ·obtain ⟨t,_,rfl⟩:=cw_in hv;exact ha' r hr _
 ·rw[B.new (by lia) hi];refine (Bi (W:=W) (N:=N) ?_ ?_).mono (mono _ (by rw[bB,pQ];lia))
  ·rw[bB,cw_len]
   lia
  ·intro v hv r hr
   have hr':∀c,Fr 1 W (a r c):=λc=>by
    rcases aN.mp hr with rfl | hr
    ·exact ha _ (B.rng i hi) c
    ·exact ha' r hr c
   rcases aN.mp hv with rfl | hv
   ·exact hr' _
   ·obtain ⟨t,_,rfl⟩:=cw_in hv;exact hr' _
theorem BN.dfr {W N:Nat} (B:BN a m k pm p l d) (hN:k<=N) (ha:∀i,i < m->∀c,Fr 1 W (a i c)):Fr 1 ((N*W)^k) d:=by
 have km:=B.km;rw[B.det]
 have:=Bi (W:=W) (N:=N) (rs:=jW pm k) (vs:=iu (λj r=>a r (p j)) k) (by rw[cw_len];exact hN) λv hv r hr=>by
  obtain ⟨t,ht,rfl⟩:=k9 hr;obtain ⟨t',_,rfl⟩:=cw_in hv;exact ha _ (B.rng t (by lia)) _
 rwa [pQ] at this
def xv (k t i:Nat):Nat:=if i=k then t else if i=t then k else i
theorem vo {k t m i:Nat} (hk:k < m) (ht:t < m) (hi:i < m):xv k t i < m:=by
 unfold xv
 split
 ·exact ht
 ·split
  ·exact hk
  ·exact hi
theorem Ql {k t i j:Nat} (h:xv k t i=xv k t j):i=j:=by
 unfold xv at h
 split at h <;> split at h <;> (try split at h) <;> (try split at h) <;> lia
theorem xr {k t i:Nat} (h:k<=t) (hi:i < k):xv k t i=i:=by
 unfold xv;rw[if_neg (by lia),if_neg (by lia)]
theorem zI {k t i:Nat} (h:k<=t) (hi:k<=i):k<=xv k t i:=by
 unfold xv
 split
 ·exact h
 ·split <;> lia
theorem BN.swap (B:BN a m k pm p l d) {t:Nat} (h:k<=t) (ht:t < m):BN a m k (λi=>pm (xv k t i)) p (λi=>l (xv k t i)) d where
 inj i j hi hj e:=Ql (B.inj _ _ (vo (by lia) ht hi) (vo (by lia) ht hj) e)
 rng i hi:=B.rng _ (vo (by lia) ht hi)
 km:=B.km
 d0:=B.d0
 det:=by rw[B.det,Gz (f:=pm) (g:=λi=>pm (xv k t i)) λj hj=>by rw[xr h hj]]
 eqs i hi c:=by
  have e:=B.eqs (xv k t i) (vo (by lia) ht hi) c;have e1:bo k (λj=>a (pm (xv k t i)) (p j)*l (xv k t j) c)=bo k (λj=>a (pm (xv k t i)) (p j)*l j c):=aH λj hj=>by rw[xr h hj]
  rw[e1];by_cases hk:i < k
  ·rw[xr h hk] at e ⊢;exact e
  ·rw[if_neg hk];rw[if_neg (by have:=zI h (show k<=i by lia);lia)] at e;exact e
 unit i hi j hj:=by
  rw[B.unit _ (vo (by lia) ht hi) j hj];by_cases hk:i < k
  ·rw[xr h hk]
  ·have:=zI h (show k<=i by lia);rw[if_neg (by lia),if_neg (by lia)]
theorem BN.step (B:BN a m k pm p l d) {c0:Nat} (hk:k < m) (h0:l k c0≠0):BN a m (k+1) pm (λj=>if j=k then c0 else p j) (λi c=>if i=k then l k c else (l k c0*l i c - l i c0*l k c) / d) (l k c0) where
 inj:=B.inj
 rng:=B.rng
 km:=hk
 d0:=h0
 det:=by
  rw[B.new (ak _) hk];show _=iL (pm k :: jW pm k) ((λr=>a r (if k=k then c0 else p k)) :: iu _ k)
  rw[if_pos rfl];congr 2;exact cw_congr λj hj=>by rw[if_neg (show j≠k by lia)]
 eqs i hi c:=by
  have d0:=B.d0;have e1:=B.eqs i hi c;have e2:=B.eqs i hi c0;show l k c0*a (pm i) c=(bo k _+_)+_
  have s1:bo k (λj=>a (pm i) (if j=k then c0 else p j)*(if j=k then l k c else (l k c0*l j c - l j c0*l k c) / d))=(l k c0 / d)*bo k (λj=>a (pm i) (p j)*l j c)+(- l k c / d)*bo k (λj=>a (pm i) (p j)*l j c0):=by
   rw[<- bV,<- bV,<- kM];refine aH λj hj=>?_
   rw[if_neg (show j≠k by lia),if_neg (show j≠k by lia)];grind
  rw[s1];simp only[if_true];generalize bo k (λj=>a (pm i) (p j)*l j c)=S1 at e1 ⊢;generalize bo k (λj=>a (pm i) (p j)*l j c0)=S2 at e2 ⊢;rcases dy i k with h | h | h
  ·rw[if_pos h] at e1 e2;rw[if_pos (by lia)];grind
  ·subst h;rw[if_neg (by lia)] at e1 e2;rw[if_pos (by lia)];grind
  ·rw[if_neg (by lia)] at e1 e2;rw[if_neg (by lia),if_neg (by lia)];grind
 unit i hi j hj:=by
  have d0:=B.d0;by_cases e:j=k
  ·subst e;simp only[if_true];by_cases ei:i=j
   ·rw[if_pos ei,if_pos ei]
   ·rw[if_neg ei,if_neg ei];grind
  ·have hj':j < k:=by lia
   rw[if_neg e];by_cases ei:i=k
   ·rw[if_pos ei,B.unit k hk j hj',if_neg (by lia),if_neg (by lia)]
   ·rw[if_neg ei,B.unit i hi j hj',B.unit k hk j hj',if_neg (show k≠j by lia)]
    split
    ·grind
    ·grind
end
def eT (m:Nat) (a:Nat->Nat->Rat) (x:Nat->Rat):Prop:=∃w:Nat->Rat,∀c,x c=bo m λt=>w t*a t c
section
variable {m m' k n:Nat} {a b:Nat->Nat->Rat} {x y:Nat->Rat}
theorem eT.row {i:Nat} (hi:i < m):eT m a (a i):=⟨λt=>if t=i then 1 else 0,λc=>by
 rw[eU hi λj _ ne=>by dsimp only;rw[if_neg ne];grind]
 dsimp only
 rw[if_pos rfl];grind⟩
theorem eT.lin (α β:Rat) (hx:eT m a x) (hy:eT m a y):eT m a λc=>α*x c+β*y c:=by
 obtain ⟨w,hw⟩:=hx;obtain ⟨v,hv⟩:=hy;refine ⟨λt=>α*w t+β*v t,λc=>?_⟩
 dsimp only
 rw[hw c,hv c,<- bV,<- bV,<- kM];exact aH λj _=>by grind
theorem eT.congr (h:∀c,x c=y c) (hx:eT m a x):eT m a y:=by obtain ⟨w,hw⟩:=hx;exact ⟨w,λc=>by rw[<- h c];exact hw c⟩
theorem eT.trans (h:∀t,t < m'->eT m a (b t)) (hx:eT m' b x):eT m a x:=by
 obtain ⟨v,hv⟩:=hx
 have h2:∀t,∃w:Nat->Rat,t < m'->∀c,b t c=bo m λs=>w s*a s c:=λt=>by
  by_cases ht:t < m'
  ·obtain ⟨w,hw⟩:=h t ht;exact ⟨w,λ_=>hw⟩
  ·exact ⟨λ_=>0,λz=>absurd z ht⟩
 have hc:=Classical.axiomOfChoice h2;obtain ⟨w,hw⟩:=hc;refine ⟨λs=>bo m' λt=>v t*w t s,λc=>?_⟩;rw[hv c];have e1:bo m' (λt=>v t*b t c)=bo m' (λt=>bo m λs=>v t*(w t s*a s c)):=aH λt ht=>by rw[hw t ht c,<- bV]
 rw[e1,dn];refine aH λs _=>?_
 have:bo m' (λt=>v t*w t s)*a s c=a s c*bo m' (λt=>v t*w t s):=cX ..;rw[this,<- bV];exact aH λt _=>by grind
theorem eT.zero (h:∀c,x c=0):eT m a x:=⟨λ_=>0,λc=>by rw[h c,cJ λ_ _=>by grind]⟩
end
structure Fz (m n:Nat) (a:Nat->Nat->Rat) (k:Nat) (p:Nat->Nat) (R:Nat->Nat->Rat):Prop where
 inc:∀i j,i < j->j < k->p i < p j
 low:∀j,j < k->p j < n
 unit:∀i,i < k->∀j,j < k->R i (p j)=if i=j then 1 else 0
 lead:∀i,i < k->∀c,c < p i->R i c=0
 span:∀i,i < m->eT k R (a i)
 back:∀i,i < k->eT m a (R i)
section
variable {m m' k k' n:Nat} {a a' R R':Nat->Nat->Rat} {p p':Nat->Nat} {x:Nat->Rat}
theorem Fz.coef (h:Fz m n a k p R) (hx:eT k R x) (c:Nat):x c=bo k λj=>x (p j)*R j c:=by
 obtain ⟨w,hw⟩:=hx;rw[hw c];refine aH λj hj=>?_
 rw[hw (p j),eU hj λt ht ne=>by rw[h.unit t ht j hj,if_neg ne];grind,h.unit j hj j hj,if_pos rfl];grind
theorem Fz.lead_in (h:Fz m n a k p R) (hx:eT k R x) {c:Nat} (h1:x c≠0) (h0:∀c',c' < c->x c'=0):∃j,j < k/\p j=c:=by
 refine Classical.byContradiction λhn=>h1 ?_
 rw[h.coef hx c];refine cJ λj hj=>?_
 rcases dy (p j) c with z | z | z
 ·rw[h0 _ z];grind
 ·exact absurd ⟨j,hj,z⟩ hn
 ·rw[h.lead j hj c z];grind
theorem inc_le (h1:∀i j,i < j->j < k->p i < p j) (h2:∀i j,i < j->j < k'->p' i < p' j) (hs:∀j,j < k'->∃i,i < k/\p i=p' j):∀{j:Nat},j < k'->∀{i:Nat},i < k->p i=p' j->j<=i
 | 0,_,_,_,_=>bu _
 | j+1,hj,i,hi,e=>by
  obtain ⟨i0,hi0,e0⟩:=hs j (by lia);have:=inc_le h1 h2 hs (j:=j) (by lia) hi0 e0;have lt:=h2 j (j+1) (by lia) hj;rcases dy i0 i with z | z | z
  ·lia
  ·subst z;lia
  ·have:=h1 i i0 z hi0;lia
theorem ML (h1:∀i j,i < j->j < k->p i < p j) {i j:Nat} (h:i<=j) (hj:j < k):p i<=p j:=by
 rcases b9 i j with z | z
 ·exact aU (h1 i j z hj)
 ·have:i=j:=by lia
  rw[this];exact ak _
theorem J8 (h1:∀i j,i < j->j < k->p i < p j) (h2:∀i j,i < j->j < k'->p' i < p' j) (hs:∀j,j < k'->∃i,i < k/\p i=p' j):k'<=k/\∀j,j < k'->p j<=p' j:=by
 refine ⟨?_,λj hj=>?_⟩
 ·rcases fw k' with z | z
  ·lia
  ·obtain ⟨i,hi,e⟩:=hs (k' - 1) (by lia);have:=inc_le h1 h2 hs (j:=k' - 1) (by lia) hi e
   lia
 ·obtain ⟨i,hi,e⟩:=hs j hj;rw[<- e];exact ML h1 (inc_le h1 h2 hs hj hi e) hi
theorem Fz.uniq (h:Fz m n a k p R) (h':Fz m' n a' k' p' R') (s1:∀i,i < m->eT m' a' (a i)) (s2:∀i,i < m'->eT m a (a' i)):k=k'/\(∀j,j < k->p j=p' j)/\∀i,i < k->∀c,R i c=R' i c:=by
 have x1:∀i,i < k->eT k' R' (R i):=λi hi=>eT.trans (λt ht=>h'.span t ht) (eT.trans s1 (h.back i hi))
 have x2:∀i,i < k'->eT k R (R' i):=λi hi=>eT.trans (λt ht=>h.span t ht) (eT.trans s2 (h'.back i hi))
 have y1:∀j,j < k->∃i,i < k'/\p' i=p j:=λj hj=>h'.lead_in (x1 j hj) (by rw[h.unit j hj j hj,if_pos rfl];decide) (h.lead j hj)
 have y2:∀j,j < k'->∃i,i < k/\p i=p' j:=λj hj=>h.lead_in (x2 j hj) (by rw[h'.unit j hj j hj,if_pos rfl];decide) (h'.lead j hj)
 obtain ⟨z1,w1⟩:=J8 h'.inc h.inc y1;obtain ⟨z2,w2⟩:=J8 h.inc h'.inc y2;have ek:k=k':=NG z1 z2;subst ek;have ep:∀j,j < k->p j=p' j:=λj hj=>NG (w2 j hj) (w1 j hj)
 refine ⟨rfl,ep,λi hi c=>?_⟩;rw[h.coef (x2 i hi) c,eU hi λj hj ne=>by rw[ep j hj,h'.unit i hi j hj,if_neg (λz=>ne z.symm)];grind,ep i hi,h'.unit i hi i hi,if_pos rfl];grind
end
structure oB (a:Nat->Nat->Rat) (m k P:Nat) (p:Nat->Nat) (l:Nat->Nat->Rat) (d:Rat):Prop where
 km:k<=m
 d0:d≠0
 unit:∀i,i < m->∀j,j < k->l i (p j)=if i=j then d else 0
 inc:∀i j,i < j->j < k->p i < p j
 low:∀j,j < k->p j < P
 zero:∀i,k<=i->i < m->∀c,c < P->l i c=0
 lead:∀j,j < k->∀c,c < p j->l j c=0
 there:∀i,i < m->eT m l (a i)
 back:∀i,i < m->eT m a (l i)
section
variable {m k n P:Nat} {a l l':Nat->Nat->Rat} {p:Nat->Nat} {d d':Rat}
theorem oB.start:oB a m 0 0 p a 1 where
 km:=bu _
 d0:=by decide
 unit _ _ j hj:=absurd hj (by lia)
 inc _ j _ hj:=absurd hj (by lia)
 low j hj:=absurd hj (by lia)
 zero _ _ _ c hc:=absurd hc (by lia)
 lead j hj:=absurd hj (by lia)
 there i hi:=eT.row hi
 back i hi:=eT.row hi
theorem oB.skip (E:oB a m k P p l d) (h:∀i,k<=i->i < m->l i P=0):oB a m k (P+1) p l d :=
 ⟨E.km,E.d0,E.unit,E.inc,λj hj=>Nat.lt_succ_of_lt (E.low j hj),λi h1 h2 c hc=>by
  by_cases e:c=P
  ·rw[e];exact h i h1 h2
  ·exact E.zero i h1 h2 c (by lia),E.lead,E.there,E.back⟩
theorem Sm {k t i:Nat}:xv k t (xv k t i)=i:=by
 unfold xv
 split
 ·split <;> (try split) <;> lia
 ·split
  ·rw[if_pos rfl];lia
  ·rfl
theorem oB.swap (E:oB a m k P p l d) {t:Nat} (h:k<=t) (ht:t < m):oB a m k P p (λi=>l (xv k t i)) d where
 km:=E.km
 d0:=E.d0
 unit i hi j hj:=by
  rw[E.unit _ (vo (by lia) ht hi) j hj];by_cases hk:i < k
  ·rw[xr h hk]
  ·have:=zI h (show k<=i by lia);rw[if_neg (by lia),if_neg (by lia)]
 inc:=E.inc
 low:=E.low
 zero i h1 h2 c hc:=E.zero _ (zI h h1) (vo (by lia) ht h2) c hc
 lead j hj c hc:=by rw[xr h hj];exact E.lead j hj c hc
 there i hi:=eT.trans (λs hs=>eT.congr (λc=>by rw[Sm]) (eT.row (a:=λi=>l (xv k t i)) (i:=xv k t s) (vo (by lia) ht hs))) (E.there i hi)
 back i hi:=E.back _ (vo (by lia) ht hi)
theorem oB.step (E : oB a m k P p l d) (hk : k < m) (h0 : d' ≠ 0) (unit' : ∀ i, i < m → ∀ j, j < k + 1 → l' i (if j = k then P else p j) = if i = j then d' else 0)
    (hl : ∀ i, i < m → ∃ β γ : Rat, β ≠ 0 /\ (i = k → γ = 0) /\ ∀ c, l' i c = β * l i c + γ * l k c) : oB a m (k + 1) (P + 1) (λj => if j = k then P else p j) l' d' where
  km := hk
  d0 := h0
  unit := unit'
  inc i j hij hj := by
    by_cases e : j = k
    · rw [if_pos e, if_neg (by lia)];exact E.low i (by lia)
    · rw [if_neg e, if_neg (by lia)];exact E.inc i j hij (by lia)
  low j hj := by
    by_cases e : j = k
    · rw [if_pos e]; lia
    · rw [if_neg e];exact Nat.lt_succ_of_lt (E.low j (by lia))
  zero i h1 h2 c hc := by
    by_cases e : c = P
    · have := unit' i h2 k (by lia);rw [if_pos rfl, if_neg (by lia)] at this;rw [e]; exact this
    · obtain ⟨β, γ, _, _, q⟩ := hl i h2;rw [q c, E.zero i (by lia) h2 c (by lia), E.zero k (ak _) hk c (by lia)];grind
  lead j hj c hc := by
    have km := E.km;obtain ⟨β, γ, _, _, q⟩ := hl j (by lia);by_cases e : j = k
    · rw [if_pos e] at hc;rw [q c, e, E.zero k (ak _) hk c hc];grind
    · rw [if_neg e] at hc;have := E.low j (by lia);rw [q c, E.lead j (by lia) c hc, E.zero k (ak _) hk c (by lia)];grind
  there i hi := by
    refine eT.trans (λs hs => ?_) (E.there i hi);obtain ⟨β, γ, b0, _, q⟩ := hl s hs;obtain ⟨βk, γk, bk0, gk, qk⟩ := hl k hk;have g0 := gk rfl;refine eT.congr (λc => ?_) (eT.lin (1 / β) (-(γ / β) / βk) (eT.row (a := l') hs) (eT.row (a := l') hk));rw [q c, qk c, g0];grind
  back i hi := by
    obtain ⟨β, γ, _, _, q⟩ := hl i hi;exact eT.congr (λc => (q c).symm) (eT.lin β γ (E.back i hi) (E.back k hk))
theorem oB.done (E:oB a m k n p l d) (ha:∀i,i < m->∀c,n<=c->a i c=0):Fz m n a k p (λi c=>l i c / d) where
 inc:=E.inc
 low:=E.low
 unit i hi j hj:=by
  have d0:=E.d0;have km:=E.km;rw[E.unit i (by lia) j hj]
  split
  ·grind
  ·grind
 lead i hi c hc:=by
  rw[E.lead i hi c hc];grind
 span i hi:=by
  have d0:=E.d0;refine eT.trans (λs hs=>?_) (E.there i hi);by_cases z:s < k
  ·refine eT.congr (λc=>?_) (eT.lin d 0 (eT.row (a:=λi c=>l i c / d) z) (eT.row (a:=λi c=>l i c / d) z));grind
  ·refine eT.zero λc=>?_
   by_cases hc:c < n
   ·exact E.zero s (by lia) hs c hc
   ·obtain ⟨w,hw⟩:=E.back s hs;rw[hw c,cJ λt ht=>by rw[ha t ht c (by lia)];grind]
 back i hi:=by
  have km:=E.km;have d0:=E.d0;refine eT.congr (λc=>?_) (eT.lin (1 / d) 0 (E.back i (by lia)) (E.back i (by lia)));grind
end
def fq (ls:List (List Int)) (i c:Nat):Rat:=(((ls.getD i []).getD c 0:Int):Rat)
def bU (rows:LR9) (i c:Nat):Rat:=(rows.getD i []).getD c 0
def oZ (ls:List (List Int)) (k t:Nat):List (List Int):=(ls.set k (ls.getD t [])).set t (ls.getD k [])
def HS (ls:List (List Int)) (k c:Nat) (b:Int):List (List Int):=(ls.map λzs=>List.zipWith (λx y=>((ls.getD k []).getD c 0*x - zs.getD c 0*y).fdiv b) zs (ls.getD k [])).set k (ls.getD k [])
section
variable {ls ls0:List (List Int)} {k t n P c:Nat} {b d:Int} {ps:List Nat}
theorem sO {α:Type} {l:List α} {i j:Nat} {x e:α} (hi:i < l.length):(l.set i x).getD j e=if j=i then x else l.getD j e:=by
 rw[aa,aa,List.getElem?_set];by_cases h:j=i
 ·subst h;rw[if_pos rfl,if_pos hi,if_pos rfl];rfl
 ·rw[if_neg (λz=>h z.symm),if_neg h]
theorem xt:(oZ ls k t).length=ls.length:=by unfold oZ;rw[dI,dI]
theorem Nl:(HS ls k c b).length=ls.length:=by unfold HS;rw[dI,aj]
theorem getD_in {α:Type} {l:List α} {i:Nat} {e:α} (h:i < l.length):l.getD i e∈l:=by
 rw[aa,af h];exact aJ h
theorem JF (w:∀zs∈ls,zs.length=n) (hk:k < ls.length) (ht:t < ls.length):∀zs∈oZ ls k t,zs.length=n:=λzs hz=>by
 unfold oZ at hz;rcases cD hz with h | h
 ·rcases cD h with h | h
  ·exact w zs h
  ·rw[h];exact w _ (getD_in ht)
 ·rw[h];exact w _ (getD_in hk)
theorem Kn (w:∀zs∈ls,zs.length=n) (hk:k < ls.length):∀zs∈HS ls k c b,zs.length=n:=λzs hz=>by
 unfold HS at hz;rcases cD hz with h | h
 ·obtain ⟨y,hy,rfl⟩:=aE.mp h;rw[cT,w y hy,w _ (getD_in hk)]
  lia
 ·rw[h];exact w _ (getD_in hk)
theorem vT (hk:k < ls.length) (ht:t < ls.length) (i c:Nat):fq (oZ ls k t) i c=fq ls (xv k t i) c:=by
 unfold fq oZ xv;rw[sO (by rw[dI];exact ht),sO hk];by_cases h1:i=t
 ·rw[if_pos h1];by_cases h2:i=k
  ·rw[if_pos h2,<- h1,<- h2]
  ·rw[if_neg h2,if_pos h1]
 ·rw[if_neg h1];by_cases h2:i=k
  ·rw[if_pos h2,if_pos h2]
  ·rw[if_neg h2,if_neg h2,if_neg h1]
theorem yg (w:∀zs∈ls,zs.length=n) {i c:Nat} (hc:n<=c):fq ls i c=0:=by
 unfold fq;by_cases h:i < ls.length
 ·have:=w _ (getD_in (e:=[]) h);rw[aa (l:=ls.getD i []),aV (by lia)];rfl
 ·rw[aa (l:=ls),aV (by lia)];rfl
theorem sV {x:Int} (h:(x:Rat)=0):x=0:=by
 have:(x:Rat)=((0:Int):Rat):=h;exact d6.mp this
theorem Jn {x b:Int} {q:Rat} (hb:b≠0) (hq:∃z:Int,q=(z:Rat)) (e:(x:Rat)=(b:Rat)*q):((x.fdiv b:Int):Rat)=q:=by
 obtain ⟨z,rfl⟩:=hq;rw[<- be] at e;have:=d6.mp e;rw[this,Int.mul_fdiv_cancel_left _ hb]
theorem zP {W:Nat} {q:Rat} (h:Fr 1 W q):∃z:Int,q=(z:Rat):=by
 obtain ⟨z,e,_⟩:=h;exact ⟨z,by rw[<- e];simp⟩
theorem ye {W:Nat} {z:Int} (h:Fr 1 W (z:Rat)):z.natAbs<=W:=by
 obtain ⟨y,e,b⟩:=h;have:(z:Rat)=(y:Rat):=by rw[<- e];simp
 rw[d6.mp this];simpa using b
theorem MY (w:∀zs∈ls,zs.length=n) (hk:k < ls.length) (hb:b≠0) {i:Nat} (hi:i < ls.length) (hz:∀c,∃z:Int,(fq ls k P*fq ls i c - fq ls i P*fq ls k c) / (b:Rat)=(z:Rat)) (c:Nat) :
  fq (HS ls k P b) i c=if i=k then fq ls k c else (fq ls k P*fq ls i c - fq ls i P*fq ls k c) / (b:Rat):=by
 by_cases e:i=k
 ·rw[if_pos e];unfold fq HS;rw[sO (by rw[aj];exact hk),if_pos e]
 ·rw[if_neg e];by_cases hc:c < n
  ·have hb':(b:Rat)≠0:=λz=>hb (sV z)
   have lk:=w _ (getD_in (e:=[]) hk);have li:=w _ (getD_in (e:=[]) hi)
   have e1:fq (HS ls k P b) i c=(((((ls.getD k []).getD P 0*(ls.getD i []).getD c 0 - (ls.getD i []).getD P 0*(ls.getD k []).getD c 0).fdiv b:Int)):Rat):=by
    unfold HS;rw[fq,sO (by rw[aj];exact hk),if_neg e];rw[aa (l:=List.map _ ls),aG,af hi];show ((((List.zipWith _ ls[i] (ls.getD k [])).getD c 0:Int)):Rat)=_
    have ei:ls.getD i []=ls[i]:=by rw[aa,af hi];rfl
    rw[<- ei];rw[aa (l:=List.zipWith _ _ _),ck,aa (l:=ls.getD i []) (i:=c),aa (l:=ls.getD k []) (i:=c),af (show c < (ls.getD i []).length by lia),af (show c < (ls.getD k []).length by lia)];rfl
   rw[e1];refine Jn hb (hz c) ?_;rw[Rat.intCast_sub,be,be];show _=(b:Rat)*((fq ls k P*fq ls i c - fq ls i P*fq ls k c) / (b:Rat))
   show fq ls k P*fq ls i c - fq ls i P*fq ls k c=_
   grind
  ·rw[yg (Kn w hk) (show n<=c by lia),yg w (i:=i) (show n<=c by lia),yg w (i:=k) (show n<=c by lia)];grind
end
section
variable {m k n P:Nat} {a l l2:Nat->Nat->Rat} {pm p p2:Nat->Nat} {d:Rat}
theorem BN.congr (B:BN a m k pm p l d) (hp:∀j,j < k->p2 j=p j) (hl:∀i,i < m->∀c,l2 i c=l i c):BN a m k pm p2 l2 d where
 inj:=B.inj
 rng:=B.rng
 km:=B.km
 d0:=B.d0
 det:=by rw[B.det,cw_congr (f:=λj r=>a r (p j)) (g:=λj r=>a r (p2 j)) λj hj=>by rw[hp j hj]]
 eqs i hi c:=by
  have km:=B.km;rw[B.eqs i hi c,hl i hi c];congr 1;exact aH λj hj=>by rw[hp j hj,hl j (by lia) c]
 unit i hi j hj:=by rw[hp j hj,hl i hi];exact B.unit i hi j hj
theorem eT.rows {x:Nat->Rat} (h:∀i,i < m->∀c,l2 i c=l i c) (hx:eT m l x):eT m l2 x:=by obtain ⟨w,hw⟩:=hx;exact ⟨w,λc=>by rw[hw c];exact aH λt ht=>by rw[h t ht c]⟩
theorem oB.congr (E:oB a m k P p l d) (hp:∀j,j < k->p2 j=p j) (hl:∀i,i < m->∀c,l2 i c=l i c):oB a m k P p2 l2 d where
 km:=E.km
 d0:=E.d0
 unit i hi j hj:=by rw[hp j hj,hl i hi];exact E.unit i hi j hj
 inc i j hij hj:=by rw[hp i (by lia),hp j hj];exact E.inc i j hij hj
 low j hj:=by rw[hp j hj];exact E.low j hj
 zero i h1 h2 c hc:=by rw[hl i h2];exact E.zero i h1 h2 c hc
 lead j hj c hc:=by
  have km:=E.km;rw[hp j hj] at hc;rw[hl j (by lia)];exact E.lead j hj c hc
 there i hi:=(E.there i hi).rows hl
 back i hi:=(E.back i hi).congr λc=>(hl i hi c).symm
theorem oB.kP (E:oB a m k P p l d):k<=P:=by
 have:∀j,j < k->j<=p j:=by
  intro j
  induction j with
  | zero=>intro _;exact bu _
  | succ j ih =>
   intro hj;have:=ih (by lia);have:=E.inc j (j+1) (by lia) hj
   lia
 rcases fw k with z | z
 ·lia
 ·have h1:=this (k - 1) (by lia);have h2:=E.low (k - 1) (by lia)
  lia
end
structure D7 (ls0:List (List Int)) (n P:Nat) (ls:List (List Int)) (ps:List Nat) (d:Int):Prop where
 len:ls.length=ls0.length
 wide:∀zs∈ls,zs.length=n
 bar:∃pm,BN (fq ls0) ls0.length ps.length pm (λj=>ps.getD j 0) (fq ls) d
 el:oB (fq ls0) ls0.length ps.length P (λj=>ps.getD j 0) (fq ls) d
section
variable {ls0 ls:List (List Int)} {n P:Nat} {ps:List Nat} {d:Int}
theorem D7.start (w:∀zs∈ls0,zs.length=n):D7 ls0 n 0 ls0 [] 1:=⟨rfl,w,⟨λi=>i,BN.start λ_ _=>rfl⟩,oB.start⟩
theorem D7.d0 (h:D7 ls0 n P ls ps d):d≠0:=λz=>h.el.d0 (by rw[z];rfl)
theorem D7.skip (h:D7 ls0 n P ls ps d) (hz:∀i,ps.length<=i->i < ls.length->fq ls i P=0):D7 ls0 n (P+1) ls ps d:=⟨h.len,h.wide,h.bar,h.el.skip λi h1 h2=>hz i h1 (by rw[h.len];exact h2)⟩
theorem getD_snoc {l:List Nat} {x j:Nat} (hj:j < l.length+1):(l++[x]).getD j 0=if j=l.length then x else l.getD j 0:=by
 rw[aa,aa];by_cases e:j=l.length
 ·rw[if_pos e,e,aZ (ak _),fF];rfl
 ·rw[if_neg e,bD (by lia)]
theorem D7.int {W:Nat} (h:D7 ls0 n P ls ps d) (hW:1<=W) (h0:∀i,i < ls0.length->∀c,Fr 1 W (fq ls0 i c)) {t:Nat} (ht:ps.length<=t) (ht2:t < ls.length) (hne:fq ls t P≠0) :
  ∀i,i < ls.length->i≠ps.length->∀c,∃z:Int,(fq (oZ ls ps.length t) ps.length P*fq (oZ ls ps.length t) i c - fq (oZ ls ps.length t) i P*fq (oZ ls ps.length t) ps.length c) / (d:Rat)=(z:Rat):=λi hi ne c=>by
 obtain ⟨pm,B⟩:=h.bar;have hl:=h.len;have hk:ps.length < ls.length:=by lia
 have B1:=(B.swap ht (by lia)).congr (p2:=λj=>ps.getD j 0) (l2:=fq (oZ ls ps.length t)) (λ_ _=>rfl) (λi _ c=>vT hk ht2 i c)
 have h1:fq (oZ ls ps.length t) ps.length P≠0:=by
  rw[vT hk ht2];unfold xv;rw[if_pos rfl];exact hne
 have B2:=B1.step (c0:=P) (by lia) h1;have:=B2.fr (W:=W) (N:=ps.length+2) (by lia) hW h0 (i:=i) (c:=c) (by lia);rw[if_neg ne] at this;exact zP this
theorem D7.step {W:Nat} (h:D7 ls0 n P ls ps d) (hW:1<=W) (h0:∀i,i < ls0.length->∀c,Fr 1 W (fq ls0 i c)) {t:Nat} (ht:ps.length<=t) (ht2:t < ls.length) (hne:fq ls t P≠0) :
  D7 ls0 n (P+1) (HS (oZ ls ps.length t) ps.length P d) (ps++[P]) (((HS (oZ ls ps.length t) ps.length P d).getD ps.length []).getD P 0):=by
 obtain ⟨pm,B⟩:=h.bar;have hl:=h.len;have hk:ps.length < ls.length:=by lia
 have hz:=h.int hW h0 ht ht2 hne;have w1:=JF h.wide hk ht2;have k1:ps.length < (oZ ls ps.length t).length:=by rw[xt];exact hk
 have B1:=(B.swap ht (by lia)).congr (p2:=λj=>ps.getD j 0) (l2:=fq (oZ ls ps.length t)) (λ_ _=>rfl) (λi _ c=>vT hk ht2 i c);have E1:=(h.el.swap ht (by lia)).congr (p2:=λj=>ps.getD j 0) (l2:=fq (oZ ls ps.length t)) (λ_ _=>rfl) (λi _ c=>vT hk ht2 i c)
 have h1:fq (oZ ls ps.length t) ps.length P≠0:=by
  rw[vT hk ht2];unfold xv;rw[if_pos rfl];exact hne
 have B2:=B1.step (c0:=P) (by lia) h1
 have fc:∀i,i < ls0.length->∀c,fq (HS (oZ ls ps.length t) ps.length P d) i c=if i=ps.length then fq (oZ ls ps.length t) ps.length c else (fq (oZ ls ps.length t) ps.length P*fq (oZ ls ps.length t) i c - fq (oZ ls ps.length t) i P*fq (oZ ls ps.length t) ps.length c) / (d:Rat):=λi hi c=>by
  by_cases e:i=ps.length
  ·rw[if_pos e];unfold fq HS;rw[sO (by rw[aj];exact k1),if_pos e]
  ·have:=MY w1 k1 h.d0 (i:=i) (by rw[xt];lia) (hz i (by lia) e) c;rw[this]
 have ed:(((((HS (oZ ls ps.length t) ps.length P d).getD ps.length []).getD P 0:Int)):Rat)=fq (oZ ls ps.length t) ps.length P:=by
  have:=fc ps.length (by lia) P;rw[if_pos rfl] at this;exact this
 have lp:(ps++[P]).length=ps.length+1:=by rw[au];rfl
 have hp:∀j,j < ps.length+1->(ps++[P]).getD j 0=if j=ps.length then P else ps.getD j 0:=λj hj=>getD_snoc hj
 refine ⟨by rw[Nl,xt];exact hl,Kn w1 k1,⟨λi=>pm (xv ps.length t i),?_⟩,?_⟩
 ·rw[ed,lp];exact B2.congr hp fc
 ·rw[ed,lp];refine oB.congr (E1.step (d':=fq (oZ ls ps.length t) ps.length P) (l':=λi c=>if i=ps.length then fq (oZ ls ps.length t) ps.length c else (fq (oZ ls ps.length t) ps.length P*fq (oZ ls ps.length t) i c - fq (oZ ls ps.length t) i P*fq (oZ ls ps.length t) ps.length c) / (d:Rat)) (by lia) h1 B2.unit λi hi=>?_) hp fc;have d0:=h.el.d0;by_cases e:i=ps.length
  ·refine ⟨1,0,by decide,λ_=>rfl,λc=>?_⟩;rw[if_pos e,e];grind
  ·refine ⟨fq (oZ ls ps.length t) ps.length P / (d:Rat),-(fq (oZ ls ps.length t) i P) / (d:Rat),?_,λz=>absurd z e,λc=>?_⟩
   ·intro z;apply h1;grind
   ·rw[if_neg e];grind
theorem D7.sz {W r:Nat} (h:D7 ls0 n P ls ps d) (hW:1<=W) (h0:∀i,i < ls0.length->∀c,Fr 1 W (fq ls0 i c)) (hP:P<=n) (hr:min ls0.length n<=r) (r15:r<=15):(d.natAbs<=(16*W)^r)/\∀zs∈ls,∀z∈zs,z.natAbs<=(16*W)^r:=by
 obtain ⟨pm,B⟩:=h.bar;have kP:=h.el.kP;have km:=B.km;have hl:=h.len;have mono:∀{s t:Nat},s<=t->(16*W)^s<=(16*W)^t:=λhs=>ax (bQ (by decide) hW) hs
 refine ⟨ai (ye (B.dfr (W:=W) (N:=16) (by lia) h0)) (mono (by lia)),λzs hz z hz'=>?_⟩;obtain ⟨i,hi,rfl⟩:=bO hz;obtain ⟨c,hc,rfl⟩:=bO hz';have hw:=h.wide _ (aJ hi)
 have ez:fq ls i c=(((ls[i])[c]:Int):Rat):=by
  unfold fq;rw[aa (l:=ls),af hi];show ((ls[i].getD c 0:Int):Rat)=_
  rw[aa,af hc];rfl
 by_cases hk:i < ps.length
 ·have:Fr 1 ((16*W)^ps.length) (fq ls i c):=by
   have hd:=B.d0;rw[B.old hk]
   have:=Bi (W:=W) (N:=16) (rs:=jW pm ps.length) (vs:=Ii (λj r=>fq ls0 r (ps.getD j 0)) i ps.length++(λr=>fq ls0 r c) :: iu (λj r=>fq ls0 r (ps.getD j 0)) i) (by
    have:=congrArg List.length (cw_split (v:=λj r=>fq ls0 r (ps.getD j 0)) hk);rw[au,bB,cw_len] at this;rw[au,bB]
    lia) (by
    intro v hv r hr
    have hr':∀c,Fr 1 W (fq ls0 r c):=λc=>by
     obtain ⟨t,ht,rfl⟩:=k9 hr;exact h0 _ (B.rng t (by lia)) c
    rcases aA.mp hv with hv | hv
    ·obtain ⟨t,_,rfl⟩:=DG hv;exact hr' _
    ·rcases aN.mp hv with rfl | hv
     ·exact hr' _
     ·obtain ⟨t,_,rfl⟩:=cw_in hv;exact hr' _)
   rwa [pQ] at this
  rw[ez] at this;exact ai (ye this) (mono (by lia))
 ·by_cases hn:ps.length < n
  ·have:=B.fr (W:=W) (N:=16) (by lia) hW h0 (i:=i) (c:=c) (by lia);rw[ez] at this;exact ai (ye this) (mono (by lia))
  ·have:=h.el.zero i (by lia) (by lia) c (by lia);rw[ez] at this;rw[sV this];exact bu _
end
def Tp (M W:Nat) (q:Rat):Prop:=∃z:Int,q*(M:Rat)=(z:Rat)/\z.natAbs<=W
theorem Tp.of {M V W:Nat} {q:Rat} (h:Fr M V q) (hW:V*M<=W):Tp M W q:=by obtain ⟨z,a,b⟩:=h;exact ⟨z,a,ai b hW⟩
theorem Tp.mono {M W W':Nat} {q:Rat} (h:Tp M W q) (hW:W<=W'):Tp M W' q:=by obtain ⟨z,a,b⟩:=h;exact ⟨z,a,ai b hW⟩
theorem Tp.fr {M W:Nat} {q:Rat} (h:Tp M W q) (h0:0 < M):Fr M W q:=by obtain ⟨z,a,b⟩:=h;exact ⟨z,a,ai b (dE _ h0)⟩
def D9 (rows:LR9) (n w:Nat):Prop:=∃M W:Nat,0 < M/\M<=2^4300/\1<=W/\W<=2^w/\(∀xs∈rows,∀x∈xs,Tp M W x)/\w<=4300/\min rows.length n<=15/\min rows.length n*(w+4)<=8900
def jV (xs:List Rat):List Int:=fW (xs.map nm) (ir (xs.map nm))
theorem rj {xs:List Rat}:(jV xs).length=xs.length:=by unfold jV fW;rw[aj,aj]
theorem Bw {xs:List Rat}:0 < ir (xs.map nm):=A0 (by decide) λb hb=>by
 obtain ⟨n,hn,rfl⟩:=aE.mp hb;obtain ⟨x,_,rfl⟩:=aE.mp hn;exact jE x
theorem NO {xs:List Rat} {c:Nat}:(((jV xs).getD c 0:Int):Rat)=xs.getD c 0*((ir (xs.map nm):Int):Rat):=by
 unfold jV fW;rw[aa,aa,aG,aG];cases e:xs[c]? with
 | none=>show ((0:Int):Rat)=0*_;rw[iU];rfl
 | some x=>exact rh (sW (aE.mpr ⟨x,ay e,rfl⟩))
section
variable {rows:LR9} {n w i c:Nat} {xs:List Rat}
theorem FH (hi:i < rows.length):fq (rows.map jV) i c=((ir ((rows.getD i []).map nm):Int):Rat)*bU rows i c:=by
 unfold fq bU
 have e:(rows.map jV).getD i []=jV (rows.getD i []):=by
  rw[aa,aa,aG,af hi];rfl
 rw[e,NO,cX]
theorem yf (hw:∀xs∈rows,xs.length=n) (hc:n<=c):bU rows i c=0:=by
 unfold bU;by_cases h:i < rows.length
 ·have:=hw _ (getD_in (e:=[]) h);rw[aa (l:=rows.getD i []),aV (by lia)];rfl
 ·rw[aa (l:=rows),aV (by lia)];rfl
theorem Eg (i:Nat) (hi:i < rows.length):eT rows.length (fq (rows.map jV)) (bU rows i):=by
 have h0:((ir ((rows.getD i []).map nm):Int):Rat)≠0:=λz=>by
  have:=Bw (xs:=rows.getD i []);have:=sV z
  lia
 refine eT.congr (λc=>?_) (eT.lin (1 / ((ir ((rows.getD i []).map nm):Int):Rat)) 0 (eT.row (a:=fq (rows.map jV)) hi) (eT.row (a:=fq (rows.map jV)) hi));rw[FH hi];grind
theorem Ef (i:Nat) (hi:i < rows.length):eT rows.length (bU rows) (fq (rows.map jV) i):=by
 refine eT.congr (λc=>?_) (eT.lin ((ir ((rows.getD i []).map nm):Int):Rat) 0 (eT.row (a:=bU rows) hi) (eT.row (a:=bU rows) hi));rw[FH hi];grind
theorem zX {M W:Nat} {x:Rat} (h:Tp M W x):(nm x).2∣(M:Int):=by
 obtain ⟨z,e,b⟩:=h
 exact Fr.den (V:=z.natAbs) (M:=M) ⟨z,e,by
  rcases fw M with h | h
  ·subst h;have:(z:Rat)=0:=by rw[<- e];simp
   rw[sV this];simp
  ·exact dE _ h⟩
theorem Ek {M W:Nat} {x:Rat} (h:Tp M W x) (h0:0 < M) {B:Int} (hB:0 < B) (d1:(nm x).2∣B) (d2:B∣(M:Int)):∃t:Int,x*(B:Rat)=(t:Rat)/\t.natAbs<=W:=by
 obtain ⟨z,e,b⟩:=h;obtain ⟨s,es⟩:=d2;refine ⟨(nm x).1*(B / (nm x).2),(rh d1).symm,?_⟩
 have s0:0 < s:=by
  rcases Int.lt_trichotomy s 0 with h | h | h
  ·have:=Int.mul_neg_of_pos_of_neg hB h
   lia
  ·rw[h] at es;lia
  ·exact h
 have e2:(((nm x).1*(B / (nm x).2)*s:Int):Rat)=(z:Rat):=by
  rw[be,rh d1,<- e,<- aT,es,be];grind
 have e3:=d6.mp e2;have:((nm x).1*(B / (nm x).2)).natAbs*s.natAbs=z.natAbs:=by rw[<- dg,e3]
 have h1:1<=s.natAbs:=by lia
 have:=dE ((nm x).1*(B / (nm x).2)).natAbs h1
 lia
theorem Ko {M W:Nat} (h0:0 < M) (h:∀x∈xs,Tp M W x):ir (xs.map nm)∣(M:Int):=zN (by decide) (Int.one_dvd _) λb hb=>by
 obtain ⟨n,hn,rfl⟩:=aE.mp hb;obtain ⟨x,hx,rfl⟩:=aE.mp hn;exact ⟨jE x,zX (h x hx)⟩
theorem D9.rowM (F:D9 rows n w) (hx:xs∈rows):∃M,Ju M (xs.map nm):=by
 obtain ⟨M,W,h0,h1,hW,h2,h3,h4,_⟩:=F;refine ⟨M,by lia,?_,λy hy=>?_⟩
 ·show ((M:Nat):Int).natAbs < 2^4400
  rw[cw];exact bL h1 (eo (by decide) (by decide))
 ·obtain ⟨x,hx',rfl⟩:=aE.mp hy;have t:=h3 xs hx x hx';refine ⟨jE x,zX t,?_⟩;obtain ⟨s,e,b⟩:=Ek t h0 (jE x) (Int.dvd_refl _) (zX t);have e2:(((nm x).1:Int):Rat)=(s:Rat):=by rw[<- e];exact pV x
  rw[d6.mp e2];exact bL (ai b h2) (eo (by decide) (by lia))
theorem D9.ent (F:D9 rows n w):∃W:Nat,1<=W/\W<=2^w/\∀i,i < (rows.map jV).length->∀c,Fr 1 W (fq (rows.map jV) i c):=by
 obtain ⟨M,W,h0,h1,hW,h2,h3,h4,_⟩:=F;refine ⟨W,hW,h2,λi hi c=>?_⟩;rw[aj] at hi;have hx:=getD_in (e:=[]) hi;rw[FH hi];unfold bU;generalize rows.getD i []=xs at hx ⊢;by_cases hc:c < xs.length
 ·have t:=h3 xs hx _ (getD_in (e:=0) hc);obtain ⟨s,e,b⟩:=Ek t h0 (Bw (xs:=xs)) (sW (aE.mpr ⟨_,getD_in (e:=0) hc,rfl⟩)) (Ko h0 (h3 xs hx));rw[cX,e];exact Fr.int b
 ·rw[aa,aV (by lia)];show Fr 1 W (_*0)
  rw[dJ];exact Fr.zero
end
def bI (rows:LR9) (n:Nat) (R:LR9) (ps:List Nat):Prop:=R.length=ps.length/\(∀xs∈R,xs.length=n)/\Fz rows.length n (bU rows) ps.length (λj=>ps.getD j 0) (bU R)
structure Uk (rows:LR9) (n w:Nat) (R:LR9) (ps:List Nat) (d:Int) (ls:List (List Int)):Prop where
 rr:bI rows n R ps
 d0:d≠0
 len:ls.length=ps.length
 wide:∀zs∈ls,zs.length=n
 val:∀i c,fq ls i c=(d:Rat)*bU R i c
 dsz:d.natAbs<=2^(min rows.length n*(w+4))
 zsz:∀zs∈ls,∀z∈zs,z.natAbs<=2^(min rows.length n*(w+4))
 tp:∀xs∈R,∀x∈xs,Tp d.natAbs (2^(min rows.length n*(w+4))) x
 km:ps.length<=rows.length
theorem Fz.congrR {m n k:Nat} {a R R2:Nat->Nat->Rat} {p:Nat->Nat} (h:Fz m n a k p R) (hr:∀i,i < k->∀c,R2 i c=R i c):Fz m n a k p R2 :=
 ⟨h.inc,h.low,λi hi j hj=>by rw[hr i hi];exact h.unit i hi j hj,λi hi c hc=>by rw[hr i hi];exact h.lead i hi c hc,λi hi=>(h.span i hi).rows hr,λi hi=>(h.back i hi).congr λc=>(hr i hi c).symm⟩
theorem Fz.other {m m' n k:Nat} {a a' R:Nat->Nat->Rat} {p:Nat->Nat} (h:Fz m n a k p R) (s1:∀i,i < m->eT m' a' (a i)) (s2:∀i,i < m'->eT m a (a' i)):Fz m' n a' k p R :=
 ⟨h.inc,h.low,h.unit,h.lead,λi hi=>eT.trans h.span (s2 i hi),λi hi=>eT.trans s1 (h.back i hi)⟩
theorem IL {W w r : Nat} (h : W ≤ 2 ^ w) : (16 * W) ^ r ≤ 2 ^ (r * (w + 4)) := by
  calc (16 * W) ^ r ≤ (2 ^ (w + 4)) ^ r := iD (by rw [a8]; lia) _
    _ = 2 ^ (r * (w + 4)) := by rw [<- qW, bZ]
theorem D7.done {rows:LR9} {n w:Nat} {ls:List (List Int)} {ps:List Nat} {d:Int} (h:D7 (rows.map jV) n n ls ps d) (hw:∀xs∈rows,xs.length=n) (F:D9 rows n w) :
  ∃R,Uk rows n w R ps d (ls.take ps.length):=by
 obtain ⟨W,hW,W2,ent⟩:=F.ent;obtain ⟨_,_,_,_,_,_,_,_,r15,_⟩:=F;have hl:=h.len;have d0:=h.d0;have d0':(d:Rat)≠0:=λz=>d0 (sV z)
 have km:=h.el.km;have hm:(rows.map jV).length=rows.length:=aj ..;obtain ⟨s1,s2⟩:=h.sz (r:=min rows.length n) hW ent (ak _) (by rw[hm];exact ak _) r15;have s2':∀zs∈ls,∀z∈zs,z.natAbs<=2^(min rows.length n*(w+4)):=λzs hz z hz'=>ai (s2 zs hz z hz') (IL W2)
 have er:∀i c,bU ((ls.take ps.length).map λzs=>zs.map λ(z:Int)=>(z:Rat) / (d:Rat)) i c=fq (ls.take ps.length) i c / (d:Rat):=λi c=>by
  unfold bU fq;rw[aa (l:=List.map _ _),aG,aa (l:=List.take _ _)];cases e:(ls.take ps.length)[i]? with
  | none=>show (0:Rat)=((0:Int):Rat) / _;grind
  | some zs =>
   show (zs.map λ(z:Int)=>(z:Rat) / (d:Rat)).getD c 0=((zs.getD c 0:Int):Rat) / (d:Rat)
   rw[aa,aa,aG];cases e2:zs[c]? with
   | none=>show (0:Rat)=((0:Int):Rat) / _;grind
   | some z=>rfl
 have et:∀i,i < ps.length->∀c,fq (ls.take ps.length) i c=fq ls i c:=λi hi c=>by
  unfold fq;rw[aa (l:=List.take _ _),xo hi,<- aa]
 have RR:=(h.el.done λi hi c hc=>yg (n:=n) (λzs hz=>by
  obtain ⟨xs,hx,rfl⟩:=aE.mp hz;rw[rj];exact hw xs hx) hc).congrR (R2:=bU ((ls.take ps.length).map λzs=>zs.map λ(z:Int)=>(z:Rat) / (d:Rat))) λi hi c=>by rw[er,et i hi]
 rw[hm] at RR;refine ⟨(ls.take ps.length).map λzs=>zs.map λ(z:Int)=>(z:Rat) / (d:Rat),⟨by rw[aj,cG];lia,λxs hx=>?_,RR.other Ef Eg⟩,d0,by rw[cG];lia,λzs hz=>h.wide zs (cy hz),λi c=>?_,ai s1 (IL W2),λzs hz=>s2' zs (cy hz),λxs hx x hx'=>?_,by lia⟩
 ·obtain ⟨zs,hz,rfl⟩:=aE.mp hx;rw[aj];exact h.wide zs (cy hz)
 ·rw[er];grind
 ·obtain ⟨zs,hz,rfl⟩:=aE.mp hx;obtain ⟨z,hz',rfl⟩:=aE.mp hx';have b:=s2' zs (cy hz) z hz';rcases Ih d with e | e
  ·refine ⟨z,?_,b⟩;have:((d.natAbs:Nat):Rat)=(d:Rat):=by rw[<- aT,<- e]
   rw[this];grind
  ·refine ⟨-z,?_,by rw[jY];exact b⟩;have:((d.natAbs:Nat):Rat)=-(d:Rat):=by rw[<- aT,<- c9];congr 1;lia
   rw[this,c9];grind
theorem MW {R R':LR9} {n:Nat} (hl:R.length=R'.length) (w1:∀xs∈R,xs.length=n) (w2:∀xs∈R',xs.length=n) (h:∀i,i < R.length->∀c,bU R i c=bU R' i c):R=R':=by
 apply dO hl;intro i h1 h2;apply dO (by rw[w1 _ (aJ h1),w2 _ (aJ h2)]);intro c h3 h4;have:=h i h1 c;unfold bU at this;rw[aa (l:=R),aa (l:=R'),af h1,af h2] at this;have this:(R[i]).getD c 0=(R'[i]).getD c 0:=this;rw[aa,aa,af h3,af h4] at this;exact this
theorem bI.uniq {rows rows' R R':LR9} {n:Nat} {ps ps':List Nat} (h:bI rows n R ps) (h':bI rows' n R' ps') (s1:∀i,i < rows.length->eT rows'.length (bU rows') (bU rows i)) (s2:∀i,i < rows'.length->eT rows.length (bU rows) (bU rows' i)):R=R'/\ps=ps':=by
 obtain ⟨l1,w1,r1⟩:=h;obtain ⟨l2,w2,r2⟩:=h';obtain ⟨ek,ep,eR⟩:=r1.uniq r2 s1 s2;refine ⟨MW (by lia) w1 w2 λi hi c=>eR i (by lia) c,?_⟩;apply dO ek;intro j h1 h2;have:=ep j h1;rw[aa,aa,af h1,af h2] at this;exact this
theorem bI.same {rows R R':LR9} {n:Nat} {ps ps':List Nat} (h:bI rows n R ps) (h':bI rows n R' ps'):R=R'/\ps=ps':=h.uniq h' (λ_ hi=>eT.row hi) (λ_ hi=>eT.row hi)
open PySem PySem.Spec PyProof.Rows
def Kv (l:Addr) (H:Hp) (zs:List Int) (v:V):Prop:=∃q,v=V.ref q/\q≠l/\H q=some (.lst (zs.map V.int))
def tm (l:Addr) (H:Hp) (p:Addr) (ls:List (List Int)):Prop:=p≠l/\∃xs,H p=some (.lst xs)/\Paired (Kv l H) ls xs
theorem Kv.same {l:Addr} {H H':Hp} {zs:List Int} {v:V} (h:Kv l H zs v) (e:aL H H'):Kv l H' zs v:=by obtain ⟨q,a,n,b⟩:=h;exact ⟨q,a,n,e _ _ b⟩
theorem Kv.upd {l:Addr} {H:Hp} {zs:List Int} {v:V} {o:HO} (h:Kv l H zs v):Kv l (upd H l o) zs v:=by obtain ⟨q,a,n,b⟩:=h;exact ⟨q,a,n,by rw[bM n];exact b⟩
theorem tm.upd {l:Addr} {H:Hp} {p:Addr} {ls:List (List Int)} {o:HO} (h:tm l H p ls):tm l (upd H l o) p ls:=by obtain ⟨n,xs,a,b⟩:=h;exact ⟨n,xs,by rw[bM n];exact a,Paired.imp' (λ_ _ z=>z.upd) b⟩
theorem ne_old {H:Hp} {l r:Addr} (h:H l≠none) (n:H r=none):r≠l:=λz=>h (by rw[<- z];exact n)
theorem i5 {α β:Type} {F:α->β->Prop}:∀{l1:List α} {l2:List β} (_:Paired F l1 l2) (i:Nat) {x:α} {y:β},F x y->Paired F (l1.set i x) (l2.set i y)
 | _,_,.nil,_,_,_,_=>.nil
 | _,_,.cons _ r,0,_,_,h=>.cons h r
 | _,_,.cons a r,i+1,_,_,h=>.cons a (i5 r i h)
theorem LG {ls:List (List Int)} {i c:Nat} {zs:List Int} (h:ls[i]?=some zs):fq ls i c=((zs.getD c 0:Int):Rat):=by
 unfold fq;rw[aa (l:=ls),h];rfl
theorem T1 {z:Int}:((z:Int):Rat)≠0↔z≠0:=⟨λh e=>h (by rw[e];rfl),λh e=>h (sV e)⟩
theorem zW {zs:List Int} {c:Nat} (h:c < zs.length):Ij (zs.map V.int) (c:Int)=some (V.int (zs.getD c 0)):=fZ (by rw[aG,aa,af h];rfl)
inductive CQ (vs:List V) (H:Hp) (Q:VK) (E9:XK):Prop
 | mk (l p:Addr) (ls:List (List Int)) (b c:Nat):vs=[.ref p,.int b,.int c]->tm l H p ls->ls.length<=1000->b<=1000->(∀zs∈ls,c < zs.length)->(∀t:Nat,b<=t->t < ls.length->fq ls t c≠0->Q (.int t) H)->((∀t,b<=t->t < ls.length->fq ls t c=0)->Q .non H)->CQ  vs H Q E9
inductive yp (vs:List V) (H:Hp) (Q:VK) (E9:XK):Prop
 | mk (l p:Addr) (ls:List (List Int)) (t k:Nat):vs=[.ref p,.int t,.int k]->H l≠none->tm l H p ls->ls.length<=1000->t < ls.length->k < ls.length->(∀r H',H r=none->aL H H'->tm l H' r (oZ ls k t)->Q (.ref r) H')->yp  vs H Q E9
inductive CS (vs:List V) (H:Hp) (Q:VK) (E9:XK):Prop
 | mk (l p:Addr) (ls:List (List Int)) (k c n:Nat) (b:Int):vs=[.ref p,.int k,.int c,.int b]->H l≠none->tm l H p ls->ls.length<=1000->k < ls.length->(∀zs∈ls,zs.length=n)->n<=1000->c < n->b≠0->Sz 8999 b->(∀zs∈ls,∀z∈zs,Sz 8999 z)->(∀r H',H r=none->aL H H'->tm l H' r (HS ls k c b)->Q (.ref r) H')->CS  vs H Q E9
theorem Mn (K:FG9) {X:Cx} {a b:Expr} {ta:TA} {p pos tpos:Pos} {elts:List Expr} {kk:Nat} (hg:Gl X "zip") (hm:X.mg "zip"=none) (ha:PA X [a,b] ta) (hK:X.K=K:=by rfl) (hs:starEach [a,b] X.env=[(false,eval a X.env),(false,eval b X.env)]:=by rfl) (hs2:starEach [b] X.env=[(false,eval b X.env)]:=by rfl) :
  PI X (.Tuple elts kk tpos) (.Call (.Name "zip" p) [a,b] [] pos) (Rb K ta):=by subst hK;exact pR hg hm ha hs hs2
def dF (ps:List Nat):List V:=ps.map λ(j:Nat)=>V.int (j:Int)
inductive CA (K:FG9) (vs:List V) (H:Hp) (Q:VK) (E9:XK):Prop
 | mk (p:Addr) (n w:Nat) (H0:Hp) (rows:LR9):vs=[.ref p,.int n]->bE K H0 H p rows->rows.length<=100->n<=100->(∀xs∈rows,xs.length=n)->D9 rows n w->(∀t lp qp R ps d ls H',H' t=some (.tup [.ref lp,.ref qp])->H' qp=some (.lst (dF ps))->tm qp H' lp ls->aL H H'->Uk rows n w R ps d ls->Q (.ref t) H')->CA K vs H Q E9
inductive yo (K:FG9) (vs:List V) (H:Hp) (Q:VK) (E9:XK):Prop
 | mk (p:Addr) (n w:Nat) (H0:Hp) (rows:LR9):vs=[.ref p,.int n]->bE K H0 H p rows->rows.length<=100->n<=100->(∀xs∈rows,xs.length=n)->D9 rows n w->(∀r R ps M H',H r=none->aL H H'->bE K H H' r R->bI rows n R ps->ps.length<=rows.length->0 < M->M<=2^(min rows.length n*(w+4))->(∀xs∈R,∀x∈xs,Tp M (2^(min rows.length n*(w+4))) x)->Q (.ref r) H')->yo K vs H Q E9
def Nq (rows:LR9) (i:Nat):Rat:=((ir ((rows.getD i []).map nm):Int):Rat)
section
variable {rows rs rs':LR9} {n P w a:Nat} {ps:List Nat}
end
theorem El {M W:Nat} {x:Rat} (h:Tp M W x) (h0:0 < M) (h1:M<=2^3995) (h2:W<=2^3995):nB x:=by
 refine ⟨?_,?_⟩
 ·obtain ⟨s,e,b⟩:=Ek h h0 (jE x) (Int.dvd_refl _) (zX h);have e2:(((nm x).1:Int):Rat)=(s:Rat):=by rw[<- e];exact pV x
  rw[d6.mp e2];exact bL (ai b h2) (eo (by decide) (by decide))
 ·have:=jm h0 (zy.mp (zX h));show ((x.den:Nat):Int).natAbs < _
  rw[cw];exact bL (ai this h1) (eo (by decide) (by decide))
theorem Tp.mul {M W M' W':Nat} {x y:Rat} (h:Tp M W x) (h':Tp M' W' y):Tp (M*M') (W*W') (x*y):=by
 obtain ⟨z,e,b⟩:=h;obtain ⟨z',e',b'⟩:=h';refine ⟨z*z',?_,by rw[dg];exact aK b b'⟩;rw[be,<- e,<- e',eY];grind
inductive xy (K:FG9) (vs:List V) (H:Hp) (Q:VK) (E9:XK):Prop
 | mk (p q:Addr) (xs ys:List Rat):vs=[.ref p,.ref q]->cF K H p xs->cF K H q ys->ys.length=xs.length->xs.length<=1000->(∀x∈xs,nB x)->(∀y∈ys,nB y)->(∀r H',H r=none->aL H H'->cF K H' r (List.zipWith (λx y=>x - y) xs ys)->Q (.ref r) H')->xy K vs H Q E9
inductive F5 (K:FG9) (vs:List V) (H:Hp) (Q:VK) (E9:XK):Prop
 | mk (p:Addr) (n:Nat) (H0:Hp) (R:LR9) (ps:List Nat):vs=[.ref p]->bE K H0 H p R->R.length<=100->n<=100->(∃rows,bI rows n R ps)->(∀r H',H r=none->aL H H'->H' r=some (.lst (dF ps))->Q (.ref r) H')->F5 K vs H Q E9
theorem Io {xs ys:List Rat} (h:ys.length=xs.length):List.zipWith (λx y=>x - y) xs ys=(List.range xs.length).map λi=>xs.getD i 0 - ys.getD i 0:=by
 apply ib;intro i;rw[ck,aG];by_cases hi:i < xs.length
 ·rw[du hi,af hi,af (show i < ys.length by lia)];simp [aa,af hi,af (show i < ys.length by lia)]
 ·rw[aV (show (List.range xs.length).length<=i by simp;lia),aV (show xs.length<=i by lia)];rfl
theorem yd {K:FG9} {H0 H H':Hp} {q:Addr} {rows:LR9} {vs:List V} (pr:Paired (di K H0 H) rows vs) (s:aL H H') (n:H q=none) (g:H' q=some (.lst vs)):bE K H0 H' q rows :=
 ⟨vs,g,Paired.imp' (λ_ _ z=>z.same s) pr,λz=>by
  obtain ⟨_,_,q',e,_,_,g',_⟩:=dh pr z;cases e;rw[n] at g';cases g'⟩
theorem bI.le {rows R:LR9} {n:Nat} {ps:List Nat} (h:bI rows n R ps):ps.length<=n:=by
 obtain ⟨_,_,rr⟩:=h;rcases b9 n ps.length with z | z
 ·have inc:∀j,j < ps.length->j<=ps.getD j 0:=by
   intro j
   induction j with
   | zero=>intro _;exact bu _
   | succ j ih =>
    intro hj;have:=ih (by lia);have:=rr.inc j (j+1) (by lia) hj
    lia
  have h1:=inc (ps.length - 1) (by lia);have h2:=rr.low (ps.length - 1) (by lia)
  lia
 ·exact z
theorem Tp.zero {M W:Nat}:Tp M W 0:=⟨0,by simp,by simp⟩
theorem Tp.add {M W W':Nat} {x y:Rat} (h:Tp M W x) (h':Tp M W' y):Tp M (W+W') (x+y):=by
 obtain ⟨z,e,b⟩:=h;obtain ⟨z',e',b'⟩:=h';refine ⟨z+z',?_,ai (Int.natAbs_add_le _ _) (Nat.add_le_add b b')⟩;rw[BP,<- e,<- e'];grind
theorem Tp.sum {M W:Nat} {f:Nat->Rat}:∀{k:Nat},(∀j,j < k->Tp M W (f j))->Tp M (k*W) (bo k f)
 | 0,_=>Tp.zero
 | k+1,h=>by
  have:=(Tp.sum (k:=k) λj hj=>h j (by lia)).add (h k (by lia));exact this.mono (by rw[dM];exact ak _)
theorem kr {M W:Nat} {xs:List Rat} (h:∀x∈xs,Tp M W x) (c:Nat):Tp M W (xs.getD c 0):=by
 by_cases hc:c < xs.length
 ·exact h _ (getD_in hc)
 ·rw[aa,aV (by lia)];exact Tp.zero
theorem Pb {M W:Nat} {R:LR9} (h:∀xs∈R,∀x∈xs,Tp M W x) (i c:Nat):Tp M W (bU R i c):=by
 unfold bU;by_cases hi:i < R.length
 ·exact kr (h _ (getD_in hi)) c
 ·rw[aa (l:=R),aV (by lia)];exact Tp.zero
theorem Qk {rows:LR9} {n m w M:Nat} (hM:0 < M) (h1:M<=2^4300) (hw:w<=4300) (tp:∀xs∈rows,∀x∈xs,Tp M (2^w) x) (hr:min rows.length n<=m) (h15:m<=15) (h89:m*(w+4)<=8900):D9 rows n w :=
 ⟨M,2^w,hM,h1,cV,ak _,tp,hw,by lia,ai (az _ hr) h89⟩
theorem AH {α β:Type} {F:α->β->Prop}:∀{l1:List α} {l2:List β},Paired F l1 l2->Paired F l1.reverse l2.reverse
 | _,_,.nil=>.nil
 | _,_,.cons a r=>by rw[xm,xm];exact bT (AH r) (.cons a .nil)
theorem DJ {K:FG9} {l:Addr} {xs:List V} {g:TG} {tf:TT} {te:TE} {Q:VK} {σ₀:St} {H:Hp} (Pv:Nat->List V->Hp->Prop) (hz:xs.length<=sizeLine) (h0:Pv 0 [] H) (hl:∀i ys H,i<=xs.length->Pv i ys H->bR K H l xs)
  (hs:∀i x ys H p,xs[i]?=some x->ys.length<=i->Pv i ys H->H p=none->rk σ₀ g tf te (.ref p) (upd H p (.tup [.int i,x])) (λy H'=>Pv (i+1) (ys++[y]) H') (λH'=>Pv (i+1) ys H'))
  (hd:∀ys H,ys.length<=xs.length->Pv xs.length ys H->∀p,H p=none->Q (.ref p) (upd H p (.lst ys))):tu (RJ K l) σ₀ g tf te Q H:=by
 refine ⟨λi m ys H=>m=xs.length - i/\i<=xs.length/\ys.length<=i/\Pv i ys H,⟨xs.length,by simp,bu _,bu _,h0⟩,?_⟩;rintro i m ys H ⟨rfl,hi,hy,p⟩;have q1:=hl i ys H hi p;by_cases hlt:i < xs.length
 ·refine .inr ⟨⟨xs,xs[i],q1,by simp [hlt]⟩,by lia,λy H'=>Pv (i+1) (ys++[y]) H',λH'=>Pv (i+1) ys H',λy H' p'=>⟨xs.length - (i+1),by lia,rfl,hlt,by rw[au,bf];lia,p'⟩,λH' p'=>⟨xs.length - (i+1),by lia,rfl,hlt,by lia,p'⟩,λx H' y=>?_⟩;obtain ⟨r,x',rfl,hr,rfl,e1⟩:=y;exact hs i x' ys _ r (e1 xs q1) hy p hr
 ·have e:i=xs.length:=by lia
  subst e;exact .inl ⟨⟨xs,q1,ak _⟩,by lia,hd ys H hy p⟩
section
variable {X:Cx}
theorem DN (hc:X.calm=true):oR X (.builtin "min") (λxs H Q=>∃(p:Addr) (ns:List Int),xs=[.ref p]/\bR X.K H p (ns.map V.int)/\0 < ns.length/\∀M,M∈ns->(∀a,a∈ns->M<=a)->Q (.int M) H):=by
 sleep 9;obtain ⟨p,ns,rfl,hp,hne,q⟩:=h;obtain ⟨u,rfl,ru⟩:=vals1 r;cases ru;obtain ⟨its,r2,pl,_⟩:=I.list hp;have hi:=intsAre_of r2;have hl:=pl.isList;obtain ⟨xs,e⟩:=hi.allInts.items
 have hns:ns=xs.toList.map (·.1):=by
  rw[<- hi.numsOf,<- nums_intItems,<- e]
 have hsz:0 < xs.size:=by
  have h3:=hne;rw[hns,aj,Array.length_toList] at h3;exact h3
 rw[e] at hl;refine min_intList (I.ok.hd hc) hl hsz λv h' tk hv hk=>?_
 obtain ⟨t,rfl⟩:=intItems_at hv;obtain ⟨h1,h2⟩:=argBest_lt (numAt xs) (xs.size - 1);refine ⟨.int _,H,I.kept hk,⟨_,rfl⟩,q _ ?_ λa ha=>?_⟩
 ·rw[hns,numAt_eq];exact getD_in (by rw[aj,Array.length_toList];lia)
 ·rw[hns] at ha;obtain ⟨j,hj,rfl⟩:=mem_getD ha;rw[aj,Array.length_toList] at hj;rw[<- numAt_eq];exact h2 j (by lia)
theorem Ca (K:FG9) (hK:X.K=K):xn X (compareOp .NotIn) (T9 K true):=by subst hK;exact ES
end
theorem HH {j:Nat} {ps:List Nat}:TN (.int (j:Int)) (dF ps)=decide (j∈ps):=by
 unfold TN dF;rw[List.any_map,lU,List.any_eq_true,decide_eq_true_iff];constructor
 ·rintro ⟨x,hx,e⟩;have e:((x:Int) == (j:Int))=true:=e;have:(x:Int)=j:=by simpa using e
  have:x=j:=by lia
  rw[<- this];exact hx
 ·intro h;exact ⟨j,h,by show ((j:Int) == (j:Int))=true;simp⟩
theorem Dm {ps:List Nat}:(dF ps).all vU=true:=by
 unfold dF;rw[List.all_map];exact oW.mpr λ_ _=>rfl
theorem vK {ps:List Nat}:(dF ps).length=ps.length:=aj ..
def Dt (ps:List Nat):List Int:=ps.map λ(j:Nat)=>(j:Int)
theorem Dl {ps:List Nat}:dF ps=(Dt ps).map V.int:=by unfold dF Dt;rw[nF];rfl
theorem E7 {ps:List Nat} {i:Nat} {v:V} (h:(dF ps)[i]?=some v):∃j,ps[i]?=some j/\v=V.int (j:Int):=by
 unfold dF at h;rw[aG] at h;cases e:ps[i]? with
 | none=>rw[e] at h;cases h
 | some x=>rw[e] at h;exact ⟨x,rfl,(cb h).symm⟩
def Dg (xs:List Rat) (i:Nat):List Nat:=(List.range i).filter λc=>decide (xs.getD c 0≠0)
theorem zM {xs:List Rat} {i:Nat}:Dg xs (i+1)=if xs.getD i 0≠0 then Dg xs i++[i] else Dg xs i:=by
 unfold Dg;rw[rg,List.filter_append];by_cases h:xs.getD i 0≠0
 ·rw[if_pos h,TF (by simpa using h)];rfl
 ·rw[if_neg h,TH (by simpa using h)];simp
def iQ (ps:List Nat) (i:Nat):List Nat:=(List.range i).filter λc=>decide (c∉ps)
theorem Bh {ps:List Nat} {i:Nat}:iQ ps (i+1)=if i∉ps then iQ ps i++[i] else iQ ps i:=by
 unfold iQ;rw[rg,List.filter_append];by_cases h:i∉ps
 ·rw[if_pos h,TF (by simpa using h)];rfl
 ·rw[if_neg h,TH (by simpa using h)];simp
theorem Jm {ps:List Nat} {i:Nat}:(iQ ps i).length<=i:=by
 unfold iQ;exact ai (List.length_filter_le ..) (by rw[cv];exact ak _)
inductive F4 (K:FG9) (vs:List V) (H:Hp) (Q:VK) (E9:XK):Prop
 | mk (p:Addr) (xs:List Rat) (j:Nat):vs=[.ref p]->cF K H p xs->xs.length<=1000->j < xs.length->xs.getD j 0≠0->(∀c,c < j->xs.getD c 0=0)->(∀H',aL H H'->Q (.int (j:Int)) H')->F4 K vs H Q E9
inductive F8 (K:FG9) (vs:List V) (H:Hp) (Q:VK) (E9:XK):Prop
 | mk (p:Addr) (n:Nat) (H0:Hp) (R:LR9) (ps:List Nat):vs=[.ref p,.int n]->bE K H0 H p R->R.length<=100->n<=100->(∃rows,bI rows n R ps)->(∀r H',H r=none->aL H H'->H' r=some (.lst (dF (iQ ps n)))->Q (.ref r) H')->F8 K vs H Q E9
def JV (R:LR9) (ps:List Nat) (n at_ j:Nat):List Rat:=(List.range n).map λc=>if c=at_ then 1 else bo j λi=>if ps.getD i 0=c then -(bU R i at_) else 0
def JU (R:LR9) (ps:List Nat) (n at_:Nat):List Rat:=JV R ps n at_ ps.length
def aR (R:LR9) (ps:List Nat) (n:Nat):LR9:=(iQ ps n).map (JU R ps n)
section
variable {R rows:LR9} {ps:List Nat} {n a j:Nat}
theorem nX:(JV R ps n a j).length=n:=by unfold JV;rw[aj,cv]
theorem Px {c:Nat} (h:c < n):(JV R ps n a j).getD c 0=if c=a then 1 else bo j λi=>if ps.getD i 0=c then -(bU R i a) else 0:=by
 unfold JV;rw[aa,aG,du h];rfl
theorem OQ:JV R ps n a 0=Qd n a:=by
 unfold JV Qd;refine iF λc _=>?_
 by_cases e:c=a
 ·subst e;simp
 ·rw[if_neg e];show (0:Rat)=_
  have:¬(c:Int)=(a:Int):=by lia
  simp [this]
theorem OR (RR:bI rows n R ps) (hj:j < ps.length) (ha:a∉ps):(JV R ps n a j).set (ps.getD j 0) (-(bU R j a))=JV R ps n a (j+1):=by
 obtain ⟨_,_,rr⟩:=RR;have low:=rr.low j hj;have pm:ps.getD j 0∈ps:=getD_in hj;apply dO (by rw[dI,nX,nX]);intro c h1 h2;rw[nX] at h2;have e1:(JV R ps n a j)[c]'(by rw[nX];exact h2)=if c=a then 1 else bo j λi=>if ps.getD i 0=c then -(bU R i a) else 0:=by simp only[JV,gJ,uF]
 have e2:(JV R ps n a (j+1))[c]'(by rw[nX];exact h2)=if c=a then 1 else bo (j+1) λi=>if ps.getD i 0=c then -(bU R i a) else 0:=by simp only[JV,gJ,uF]
 rw[List.getElem_set,e2];have es:bo (j+1) (λi=>if ps.getD i 0=c then -(bU R i a) else 0)=bo j (λi=>if ps.getD i 0=c then -(bU R i a) else 0)+if ps.getD j 0=c then -(bU R j a) else 0:=rfl
 by_cases q:ps.getD j 0=c
 ·rw[if_pos q,if_neg (λz=>ha (by rw[<- z,<- q];exact pm)),es,if_pos q,cJ λi hi=>?_,Rat.zero_add];rw[if_neg];intro z;have:=rr.inc i j hi hj
  lia
 ·rw[if_neg q,e1];by_cases z:c=a
  ·rw[if_pos z,if_pos z]
  ·rw[if_neg z,if_neg z,es,if_neg q,iV]
theorem E5 {c:Nat} (hc:c < n) (hp:c∉ps):(JU R ps n a).getD c 0=if c=a then 1 else 0:=by
 unfold JU;rw[Px hc];by_cases e:c=a
 ·rw[if_pos e,if_pos e]
 ·rw[if_neg e,if_neg e,cJ λi hi=>?_];rw[if_neg (λz=>hp (by rw[<- z];exact getD_in hi))]
theorem c6:∀{xs ys:List Rat},xs.length=ys.length->cE xs ys=bo xs.length λc=>xs.getD c 0*ys.getD c 0:=by
 intro xs ys h
 have key:∀k,k<=xs.length->cE (xs.take k) (ys.take k)=bo k λc=>xs.getD c 0*ys.getD c 0:=by
  intro k
  induction k with
  | zero=>intro _;rfl
  | succ k ih =>
   intro hk;rw[Dv (by lia) (by lia),ih (by lia)];rfl
 have:=key xs.length (ak _);rwa [aI (ak _),aI (by lia)] at this
theorem IX (RR:bI rows n R ps) (ha:a < n) (hp:a∉ps) {i:Nat} {row:List Rat} (hr:rows[i]?=some row) (hw:row.length=n):cE row (JU R ps n a)=0:=by
 obtain ⟨_,_,rr⟩:=RR;have hi:=(aF.mp hr).1;have ef:∀c,bU rows i c=row.getD c 0:=λc=>by unfold bU;rw[aa (l:=rows),hr];rfl
 have co:=rr.coef (rr.span i hi) a;rw[ef] at co;rw[c6 (by unfold JU;rw[nX,hw]),hw]
 have e1:bo n (λc=>row.getD c 0*(JU R ps n a).getD c 0)=bo n (λc=>(if c=a then row.getD a 0 else 0)+bo ps.length λj=>if ps.getD j 0=c then row.getD (ps.getD j 0) 0*-(bU R j a) else 0):=by
  refine aH λc hc=>?_
  unfold JU;rw[Px hc];by_cases e:c=a
  ·rw[if_pos e,if_pos e,e,cJ λj hj=>?_]
   ·grind
   ·rw[if_neg (λz=>hp (by rw[<- z];exact getD_in hj))]
  ·rw[if_neg e,if_neg e,<- bV,Rat.zero_add];refine aH λj _=>?_
   split
   ·rename_i q;rw[q]
   ·grind
 rw[e1,kM,eU (i:=a) ha (λj _ ne=>if_neg ne),if_pos rfl,<- dn]
 have e2:bo ps.length (λj=>bo n λc=>if ps.getD j 0=c then row.getD (ps.getD j 0) 0*-(bU R j a) else 0)=bo ps.length λj=>-1*(bU rows i (ps.getD j 0)*bU R j a):=by
  refine aH λj hj=>?_
  rw[eU (i:=ps.getD j 0) (rr.low j hj) λc _ ne=>if_neg λz=>ne z.symm,if_pos rfl,ef];grind
 rw[e2,bV,co];grind
theorem Pw {M W:Nat} (h0:0 < M) (hW:M<=W) (tp:∀xs∈R,∀x∈xs,Tp M W x) (RR:bI rows n R ps):∀x∈JU R ps n a,Tp M W x:=λx hx=>by
 obtain ⟨_,_,rr⟩:=RR;obtain ⟨c,hc,rfl⟩:=aE.mp hx
 split
 ·exact ⟨M,by rw[Ny,aT],by simpa using hW⟩
 ·by_cases hp:∃j,j < ps.length/\ps.getD j 0=c
  ·obtain ⟨j,hj,e⟩:=hp;rw[eU hj λi hi ne=>if_neg λz=>?_,if_pos e]
   ·obtain ⟨z,ez,b⟩:=Pb tp j a;exact ⟨-z,by rw[c9,<- ez];grind,by rw[jY];exact b⟩
   ·rcases dy i j with q | q | q
    ·have:=rr.inc i j q hj;lia
    ·exact ne q
    ·have:=rr.inc j i q hi;lia
  ·rw[cJ λj hj=>if_neg λz=>hp ⟨j,hj,z⟩];exact Tp.zero
theorem tE {c:Nat}:c∈iQ ps n↔c < n/\c∉ps:=by
 unfold iQ;rw[jl,jX,decide_eq_true_iff]
end
inductive CJ (K:FG9) (vs:List V) (H:Hp) (Q:VK) (E9:XK):Prop
 | mk (p:Addr) (n a:Nat) (H0:Hp) (R:LR9) (ps:List Nat):vs=[.ref p,.int n,.int a]->bE K H0 H p R->R.length<=100->n<=100->(∃rows,bI rows n R ps)->a < n->a∉ps->(∀xs∈R,∀x∈xs,nB x)->(∀r H',H r=none->aL H H'->cF K H' r (JU R ps n a)->Q (.ref r) H')->CJ K vs H Q E9
theorem LL:nB 0:=El (M:=1) (W:=1) Tp.zero (by decide) cV cV
theorem oG {R:LR9} {ps:List Nat} {n:Nat} {xs:List Rat} (h:xs∈aR R ps n):∃a,a < n/\a∉ps/\xs=JU R ps n a:=by
 obtain ⟨a,ha,rfl⟩:=aE.mp h;obtain ⟨h1,h2⟩:=tE.mp ha;exact ⟨a,h1,h2,rfl⟩
theorem zR {q:Rat} (h:q.den<=9):q.den∣2520:=by
 have:=q.den_pos;generalize q.den=d at h this;have:d=1\/d=2\/d=3\/d=4\/d=5\/d=6\/d=7\/d=8\/d=9:=by lia
 rcases this with rfl | rfl | rfl | rfl | rfl | rfl | rfl | rfl | rfl <;> decide
theorem Fp {q:Rat} {M:Nat} (h:Dr 9 q) (hM:2520∣M):Fr M 9 q:=(Fr.own q h.1).dvd (lC (zR h.2) hM)
def c5 (rows:LR9) (due:List Rat):LR9:=List.zipWith (λrow d=>row++[d]) rows due
def vv (R:LR9) (ps:List Nat) (n j:Nat):List Rat:=(List.range n).map λc=>bo j λi=>if ps.getD i 0=c then bU R i n else 0
def gB (R:LR9) (ps:List Nat) (n:Nat):List Rat:=vv R ps n ps.length
section
variable {rows R:LR9} {due xs:List Rat} {ps:List Nat} {n j:Nat}
theorem oA (h:due.length=rows.length):(c5 rows due).length=rows.length:=by unfold c5;rw[cT];lia
theorem vS (h:∀xs∈rows,xs.length=n):∀xs∈c5 rows due,xs.length=n+1:=λxs hx=>by
 unfold c5 at hx;obtain ⟨i,hi,rfl⟩:=bO hx;rw[qY,au,h _ (aJ _)];rfl
theorem PB {i:Nat} {row:List Rat} {d:Rat} (h1:rows[i]?=some row) (h2:due[i]?=some d):(c5 rows due)[i]?=some (row++[d]):=by
 unfold c5;rw[ck,h1,h2]
theorem yx (hd:due.length=rows.length) (hw:∀xs∈rows,xs.length=n) {i:Nat} (hi:i < rows.length):(∀c,c < n->bU (c5 rows due) i c=bU rows i c)/\bU (c5 rows due) i n=due.getD i 0:=by
 have e1:=af hi;have e2:=af (show i < due.length by lia);have ej:=PB e1 e2;have wi:=hw _ (aJ hi);refine ⟨λc hc=>?_,?_⟩
 ·unfold bU;rw[aa (l:=c5 rows due),ej,aa (l:=rows),e1];show (rows[i]++[due[i]]).getD c 0=(rows[i]).getD c 0
  rw[aa,aa,bD (by lia)]
 ·unfold bU;rw[aa (l:=c5 rows due),ej,aa (l:=due),e2];show (rows[i]++[due[i]]).getD n 0=due[i]
  rw[aa,aZ (by lia),wi,fF];rfl
theorem jZ:(vv R ps n j).length=n:=by unfold vv;rw[aj,cv]
theorem LW {c:Nat} (h:c < n):(vv R ps n j).getD c 0=bo j λi=>if ps.getD i 0=c then bU R i n else 0:=by
 unfold vv;rw[aa,aG,du h];rfl
theorem NU:vv R ps n 0=List.replicate n 0:=by
 unfold vv;show (List.range n).map (λ_=>(0:Rat))=_
 rw[hJ,cv]
theorem NV {J:LR9} (RR:bI J (n+1) R ps) (hj:j < ps.length):(vv R ps n j).set (ps.getD j 0) (bU R j n)=vv R ps n (j+1):=by
 obtain ⟨_,_,rr⟩:=RR;apply dO (by rw[dI,jZ,jZ]);intro c h1 h2;rw[jZ] at h2;have e1:(vv R ps n j)[c]'(by rw[jZ];exact h2)=bo j λi=>if ps.getD i 0=c then bU R i n else 0:=by simp only[vv,gJ,uF]
 have e2:(vv R ps n (j+1))[c]'(by rw[jZ];exact h2)=bo j (λi=>if ps.getD i 0=c then bU R i n else 0)+if ps.getD j 0=c then bU R j n else 0:=by simp only[vv,gJ,uF];rfl
 rw[List.getElem_set,e2];by_cases q:ps.getD j 0=c
 ·rw[if_pos q,if_pos q,cJ λi hi=>?_,Rat.zero_add];rw[if_neg];intro z;have:=rr.inc i j hi hj
  lia
 ·rw[if_neg q,if_neg q,e1,iV]
theorem NW {c:Nat} (hp:c∉ps):(gB R ps n).getD c 0=0:=by
 by_cases hc:c < n
 ·unfold gB;rw[LW hc,cJ λi hi=>?_];rw[if_neg (λz=>hp (by rw[<- z];exact getD_in hi))]
 ·rw[aa,aV (by unfold gB;rw[jZ];lia)];rfl
theorem Iw (hd:due.length=rows.length) (hw:∀xs∈rows,xs.length=n) (RR:bI (c5 rows due) (n+1) R ps) (hn:n∉ps) {i:Nat} {row:List Rat} (hr:rows[i]?=some row):cE row (gB R ps n)=due.getD i 0:=by
 obtain ⟨_,_,rr⟩:=RR;have hi:=(aF.mp hr).1;have wr:=hw row (ay hr);have ef:∀c,bU rows i c=row.getD c 0:=λc=>by unfold bU;rw[aa (l:=rows),hr];rfl
 obtain ⟨f1,f2⟩:=yx hd hw hi
 have low:∀j,j < ps.length->ps.getD j 0 < n:=λj hj=>by
  have:=rr.low j hj;have:ps.getD j 0≠n:=λz=>hn (by rw[<- z];exact getD_in hj)
  lia
 have co:=rr.coef (rr.span i (by rw[oA hd];exact hi)) n;rw[f2] at co;rw[co,c6 (by unfold gB;rw[jZ,wr]),wr]
 have e1:bo n (λc=>row.getD c 0*(gB R ps n).getD c 0)=bo n (λc=>bo ps.length λj=>if ps.getD j 0=c then row.getD (ps.getD j 0) 0*bU R j n else 0):=by
  refine aH λc hc=>?_
  unfold gB;rw[LW hc,<- bV];refine aH λj _=>?_
  split
  ·rename_i q;rw[q]
  ·grind
 rw[e1,<- dn];refine aH λj hj=>?_
 rw[eU (i:=ps.getD j 0) (low j hj) λc _ ne=>if_neg λz=>ne z.symm,if_pos rfl,f1 _ (low j hj),ef]
theorem Gi (hd:due.length=rows.length) (hw:∀xs∈rows,xs.length=n) (RR:bI (c5 rows due) (n+1) R ps) (hn:n∈ps):∃w:Nat->Rat,(∀c,c < n->bo rows.length (λi=>w i*bU rows i c)=0)/\bo rows.length (λi=>w i*due.getD i 0)=1:=by
 obtain ⟨_,_,rr⟩:=RR;obtain ⟨j,hj,ej⟩:=bO hn;have ejD:ps.getD j 0=n:=by rw[aa,af hj];exact ej
 obtain ⟨w,hw'⟩:=rr.back j hj;rw[oA hd] at hw';refine ⟨w,λc hc=>?_,?_⟩
 ·have z:=rr.lead j hj c (by rw[ejD];exact hc);rw[hw' c] at z;rw[<- z];exact aH λi hi=>by rw[(yx hd hw hi).1 c hc]
 ·have u:=rr.unit j hj j hj;rw[if_pos rfl,ejD,hw' n] at u;rw[<- u];exact aH λi hi=>by rw[(yx hd hw hi).2]
theorem Qp (hd:due.length=rows.length) (hw:∀xs∈rows,xs.length=n) (RR:bI (c5 rows due) (n+1) R ps) {x:Nat->Rat} (hx:∀i,i < rows.length->bo n (λc=>bU rows i c*x c)=due.getD i 0):n∉ps:=λhn=>by
 obtain ⟨w,h1,h2⟩:=Gi hd hw RR hn
 have e1:bo rows.length (λi=>w i*due.getD i 0)=bo rows.length (λi=>bo n λc=>x c*(w i*bU rows i c)):=aH λi hi=>by
  rw[<- hx i hi,<- bV];exact aH λc _=>by grind
 have e2:bo n (λc=>bo rows.length λi=>x c*(w i*bU rows i c))=0:=cJ λc hc=>by
  rw[bV,h1 c hc];grind
 rw[e1,dn,e2] at h2;exact absurd h2 (by decide)
theorem Sq {M W:Nat} (h0:0 < M) (tp:∀xs∈R,∀x∈xs,Tp M W x) {J:LR9} (RR:bI J (n+1) R ps):∀x∈gB R ps n,Tp M W x:=λx hx=>by
 obtain ⟨_,_,rr⟩:=RR;obtain ⟨c,hc,rfl⟩:=aE.mp hx;by_cases hp:∃j,j < ps.length/\ps.getD j 0=c
 ·obtain ⟨j,hj,e⟩:=hp;rw[eU hj λi hi ne=>if_neg λz=>?_,if_pos e]
  ·exact Pb tp j n
  ·rcases dy i j with q | q | q
   ·have:=rr.inc i j q hj;lia
   ·exact ne q
   ·have:=rr.inc j i q hi;lia
 ·rw[cJ λj hj=>if_neg λz=>hp ⟨j,hj,z⟩];exact Tp.zero
end
inductive Ac (K:FG9) (vs:List V) (H:Hp) (Q:VK) (E9:XK):Prop
 | mk (p q:Addr) (n w:Nat) (H0:Hp) (rows:LR9) (due:List Rat):vs=[.ref p,.int n,.ref q]->bE K H0 H p rows->cF K H q due->due.length=rows.length->rows.length<=99->n<=99->(∀xs∈rows,xs.length=n)->D9 (c5 rows due) (n+1) w->((∀x R ps M H',bI (c5 rows due) (n+1) R ps->n∉ps->H x=none->aL H H'->cF K H' x (gB R ps n)->0 < M->M<=2^(min rows.length (n+1)*(w+4))->(∀y∈gB R ps n,Tp M (2^(min rows.length (n+1)*(w+4))) y)->Q (.ref x) H')/\(∀R ps H',bI (c5 rows due) (n+1) R ps->n∈ps->aL H H'->Q .non H'))->Ac K vs H Q E9
def LO (rows:LR9) (n:Nat) (due:List Rat):LR9:=c5 (cS rows n++[due]) (List.replicate n 0++[1])
inductive CC (K:FG9) (vs:List V) (H:Hp) (Q:VK) (E9:XK):Prop
 | mk (p q:Addr) (n w w':Nat) (H0:Hp) (rows:LR9) (due:List Rat):vs=[.ref p,.int n,.ref q]->bE K H0 H p rows->cF K H q due->due.length=rows.length->rows.length<=90->n<=90->(∀xs∈rows,xs.length=n)->D9 (c5 rows due) (n+1) w->D9 (LO rows n due) (rows.length+1) w'->((∀t x R ps M H',bI (c5 rows due) (n+1) R ps->n∉ps->H' t=some (.tup [.str (Str.ofString "yes"),.ref x])->H x=none->aL H H'->cF K H' x (gB R ps n)->0 < M->M<=2^(min rows.length (n+1)*(w+4))->(∀y∈gB R ps n,Tp M (2^(min rows.length (n+1)*(w+4))) y)->Q (.ref t) H')/\(∀t x R ps R' ps' M H',bI (c5 rows due) (n+1) R ps->n∈ps->bI (LO rows n due) (rows.length+1) R' ps'->rows.length∉ps'->H' t=some (.tup [.str (Str.ofString "no"),.ref x])->H x=none->aL H H'->cF K H' x (gB R' ps' rows.length)->0 < M->M<=2^(min (n+1) (rows.length+1)*(w'+4))->(∀y∈gB R' ps' rows.length,Tp M (2^(min (n+1) (rows.length+1)*(w'+4))) y)->Q (.ref t) H'))->CC K vs H Q E9
theorem K3 {rows R R':LR9} {due:List Rat} {ps ps':List Nat} {n:Nat} (hd:due.length=rows.length) (hw:∀xs∈rows,xs.length=n) (RR:bI (c5 rows due) (n+1) R ps) (hn:n∈ps) (RR':bI (LO rows n due) (rows.length+1) R' ps'):rows.length∉ps':=by
 obtain ⟨w,h1,h2⟩:=Gi hd hw RR hn;have l1:(cS rows n++[due]).length=n+1:=by rw[au,dj];rfl
 have w1:∀xs∈cS rows n++[due],xs.length=rows.length:=λxs hx=>by
  sleep 1
  ·exact jc xs hx
  ·rw[bS.mp hx];exact hd
 refine Qp (x:=w) (by rw[l1,au,aD];rfl) w1 RR' λi hi=>?_
 rw[l1] at hi;by_cases e:i < n
 ·have e1:∀c,bU (cS rows n++[due]) i c=bU rows c i:=λc=>by
   unfold bU;rw[aa (l:=cS rows n++[due]),bD (by rw[dj];exact e)];unfold cS;rw[aG,du e];show (rows.map λxs=>xs.getD i 0).getD c 0=_
   rw[aa,aG,aa (l:=rows)];cases rows[c]? with
   | none=>rfl
   | some y=>rfl
  have e2:(List.replicate n (0:Rat)++[1]).getD i 0=0:=by
   rw[aa,bD (by rw[aD];exact e),df,if_pos e];rfl
  rw[e2,<- h1 i e];exact aH λc _=>by rw[e1];grind
 ·have ei:i=n:=by lia
  subst ei
  have e1:∀c,bU (cS rows i++[due]) i c=due.getD c 0:=λc=>by
   unfold bU;rw[aa (l:=cS rows i++[due]),aZ (by rw[dj];exact ak _),dj,fF];rfl
  have e2:(List.replicate i (0:Rat)++[1]).getD i 0=1:=by
   rw[aa,aZ (by rw[aD];exact ak _),aD,fF];rfl
  rw[e2,<- h2];exact aH λc _=>by rw[e1];grind
theorem MC {n:Nat}:((List.range n).map λ_=>(0:Rat))=List.replicate n 0:=by rw[hJ,cv]
def Qm (K:FG9):Sp:=λvs H Q _=>∃m:Nat,vs=[.int m]/\m<=100/\∀r H',H r=none->aL H H'->cF K H' r (List.replicate m 0)->Q (.ref r) H'
inductive yn (K:FG9) (vs:List V) (H:Hp) (Q:VK) (E9:XK):Prop
 | mk (p q:Addr) (n w w':Nat) (H0:Hp) (rows:LR9) (row:List Rat):vs=[.ref p,.int n,.ref q]->bE K H0 H p rows->cF K H q row->row.length=n->rows.length<=90->n<=90->(∀xs∈rows,xs.length=n)->D9 (c5 (cS rows n) row) (rows.length+1) w->D9 (c5 (rows++[row]) (List.replicate rows.length 0++[1])) (n+1) w'->((∀t x R ps M H',bI (c5 (cS rows n) row) (rows.length+1) R ps->rows.length∉ps->H' t=some (.tup [.str (Str.ofString "in"),.ref x])->H x=none->aL H H'->cF K H' x (gB R ps rows.length)->0 < M->M<=2^(min n (rows.length+1)*(w+4))->(∀y∈gB R ps rows.length,Tp M (2^(min n (rows.length+1)*(w+4))) y)->Q (.ref t) H')/\(∀t x R ps R' ps' M H',bI (c5 (cS rows n) row) (rows.length+1) R ps->rows.length∈ps->bI (c5 (rows++[row]) (List.replicate rows.length 0++[1])) (n+1) R' ps'->n∉ps'->H' t=some (.tup [.str (Str.ofString "out"),.ref x])->H x=none->aL H H'->cF K H' x (gB R' ps' n)->0 < M->M<=2^(min (rows.length+1) (n+1)*(w'+4))->(∀y∈gB R' ps' n,Tp M (2^(min (rows.length+1) (n+1)*(w'+4))) y)->Q (.ref t) H'))->yn K vs H Q E9
def TJ (rows:LR9) (ws:List Rat) (n j:Nat):List Rat:=(List.range n).map λc=>bo j λi=>ws.getD i 0*bU rows i c
def Qc (rows:LR9) (ws:List Rat) (n:Nat):List Rat:=TJ rows ws n ws.length
section
variable {rows:LR9} {ws xs row:List Rat} {n j:Nat}
theorem Qb:(TJ rows ws n j).length=n:=by unfold TJ;rw[aj,cv]
theorem JA {c:Nat} (hc:c < n):(Qc rows ws n).getD c 0=bo ws.length λi=>ws.getD i 0*bU rows i c:=by
 unfold Qc TJ;rw[aa,aG,du hc];rfl
theorem HJ (h:xs.length=ws.length):cE xs ws=cE ws xs:=by
 rw[c6 h,c6 h.symm,h];exact aH λc _=>cX ..
theorem vn {c:Nat} (hc:c < n):(cS rows n)[c]?=some (rows.map λxs=>xs.getD c 0):=by
 unfold cS;rw[aG,du hc];rfl
theorem MD {c i:Nat}:(rows.map λxs=>xs.getD c 0).getD i 0=bU rows i c:=by
 unfold bU;rw[aa,aG,aa (l:=rows)];cases rows[i]? with
 | none=>rfl
 | some y=>rfl
theorem KA {R:LR9} {ps:List Nat} (hl:row.length=n) (RR:bI (c5 (cS rows n) row) (rows.length+1) R ps) (hn:rows.length∉ps):Qc rows (gB R ps rows.length) n=row:=by
 have ls:(gB R ps rows.length).length=rows.length:=jZ;apply dO (by unfold Qc;rw[Qb,hl]);intro c h1 h2;have hc:c < n:=by lia
 have d:=Iw (rows:=cS rows n) (by rw[dj,hl]) (λxs hx=>jc xs hx) RR hn (vn hc);have e:=JA (rows:=rows) (ws:=gB R ps rows.length) hc;have e1:(Qc rows (gB R ps rows.length) n).getD c 0=(Qc rows (gB R ps rows.length) n)[c]:=by rw[aa,af h1];rfl
 have e2:row.getD c 0=row[c]:=by rw[aa,af h2];rfl
 rw[<- e1,<- e2,e,<- d,c6 (by rw[aj,ls]),aj,ls];exact aH λi _=>by rw[MD];grind
theorem K2 {R:LR9} {ps:List Nat} (hw:∀xs∈rows,xs.length=n) (hl:row.length=n) (RR:bI (c5 (rows++[row]) (List.replicate rows.length 0++[1])) (n+1) R ps) (hn:n∉ps):cE (gB R ps n) row=1/\∀xs∈rows,cE xs (gB R ps n)=0:=by
 have l1:(List.replicate rows.length (0:Rat)++[1]).length=(rows++[row]).length:=by rw[au,au,aD];rfl
 have w1:∀xs∈rows++[row],xs.length=n:=λxs hx=>by
  sleep 1
  ·exact hw xs hx
  ·rw[bS.mp hx];exact hl
 have ls:(gB R ps n).length=n:=jZ;refine ⟨?_,λxs hx=>?_⟩
 ·have:=Iw l1 w1 RR hn (i:=rows.length) (row:=row) (by rw[aZ (ak _),fF];rfl);rw[HJ (by rw[ls,hl]),this,aa,aZ (by rw[aD];exact ak _),aD,fF];rfl
 ·obtain ⟨i,hi,rfl⟩:=bO hx;have:=Iw l1 w1 RR hn (i:=i) (row:=rows[i]) (by rw[bD hi,af hi]);rw[this,aa,bD (by rw[aD];exact hi),df,if_pos hi];rfl
end
theorem Fr.up {M V M' V':Nat} {x:Rat} (h:Fr M V x) (hd:M∣M') (hv:V<=V'):Fr M' V' x:=(h.dvd hd).mono hv
section
variable {rows R:LR9} {due:List Rat} {ps:List Nat} {n:Nat}
theorem OY {xs ys:List Rat} {M V D B:Nat} (h:ys.length=xs.length) (hx:∀x∈xs,Fr M V x) (hy:∀y∈ys,Fr D B y):Fr (M*D) (xs.length*(V*B)) (cE xs ys):=by
 rw[c6 h.symm]
 have key:∀j,j<=xs.length->Fr (M*D) (j*(V*B)) (bo j λc=>xs.getD c 0*ys.getD c 0):=by
  intro j
  induction j with
  | zero=>intro _;exact Fr.zero
  | succ j ih =>
   intro hj;exact ((ih (by lia)).add ((hx _ (getD_in (by lia))).mul (hy _ (getD_in (by lia))))).mono (Nat.le_of_eq (dM j (V*B)).symm)
 exact key _ (ak _)
end
def Ls (K:FG9) (P:Addr->Prop) (H:Hp) (xs:List Rat) (v:V):Prop:=∃q,v=.ref q/\P q/\cF K H q xs
section
variable {K:FG9} {P:Addr->Prop} {H H':Hp} {xs:List Rat} {v:V} {b l:Addr}
theorem Ls.updL {ys:List V} {o:HO} (h:Ls K P H xs v) (hl:H l=some (.lst ys)) (nb:∀q,P q->q≠l):Ls K P (upd H l o) xs v:=by obtain ⟨q,a,c,d⟩:=h;exact ⟨q,a,c,d.updL hl (nb q c)⟩
theorem bE.ofE {H0:Hp} {rows:LR9} {us:List V} (g:H l=some (.lst us)) (h:Paired (Ls K P H) rows us) (h0:∀q,P q->H0 q=none) (hn:∀q,P q->q≠l):bE K H0 H l rows :=
 ⟨us,g,Paired.imp' (λ_ _ ⟨q,a,c,d⟩=>⟨q,a,h0 q c,d⟩) h,λz=>by
  obtain ⟨_,_,q,e,c,_⟩:=dh h z;cases e;exact hn _ c rfl⟩
end
theorem rZ {α β:Type} {F G:α->β->Prop}:∀{l1:List α} {l2:List β},(∀a b,b∈l2->F a b->G a b)->Paired F l1 l2->Paired G l1 l2
 | _,_,_,.nil=>.nil
 | _,_,h,.cons a r=>.cons (h _ _ (by simp) a) (rZ (λx y hy=>h x y (by simp [hy])) r)
section
variable {rows rows' R R':LR9} {n w W:Nat} {ps ps':List Nat}
theorem xu (hw:∀xs∈rows,xs.length=n) (hW:1<=W) (ent:∀i,i < (rows.map jV).length->∀c,Fr 1 W (fq (rows.map jV) i c)):∀P,P<=n->∃ls ps d,D7 (rows.map jV) n P ls ps d:=by
 intro P
 induction P with
 | zero=>intro _;exact ⟨_,_,_,D7.start λzs hz=>by obtain ⟨x,hx,rfl⟩:=aE.mp hz;rw[rj];exact hw x hx⟩
 | succ P ih =>
  intro hP;obtain ⟨ls,ps,d,I⟩:=ih (by lia);by_cases e:∃t,ps.length<=t/\t < ls.length/\fq ls t P≠0
  ·obtain ⟨t,h1,h2,h3⟩:=e;exact ⟨_,_,_,I.step hW ent h1 h2 h3⟩
  ·exact ⟨_,_,_,I.skip λi h1 h2=>by
    by_cases z:fq ls i P=0
    ·exact z
    ·exact absurd ⟨i,h1,h2,z⟩ e⟩
theorem CY (hw:∀xs∈rows,xs.length=n) (F:D9 rows n w):∃R ps d ls,Uk rows n w R ps d ls:=by
 obtain ⟨W,hW,W2,ent⟩:=F.ent;obtain ⟨ls,ps,d,I⟩:=xu hw hW ent n (ak _);obtain ⟨R,S⟩:=I.done hw F;exact ⟨R,ps,d,_,S⟩
theorem Sv (hw:∀xs∈rows,xs.length=n) (F:D9 rows n w) (RR:bI rows n R ps):ps.length<=rows.length/\∃M,0 < M/\M<=2^(min rows.length n*(w+4))/\∀xs∈R,∀x∈xs,Tp M (2^(min rows.length n*(w+4))) x:=by
 obtain ⟨R2,ps2,d,ls,S⟩:=CY hw F;obtain ⟨rfl,rfl⟩:=S.rr.same RR;exact ⟨S.km,d.natAbs,Int.natAbs_pos.mpr S.d0,S.dsz,S.tp⟩
theorem Lj {k:Nat} {p q:Nat->Nat} (hp:∀i j,i < j->j < k->p i < p j) (hq:∀i j,i < j->j < k->q i < q j) (hs:∀i,i < k->∃j,j < k/\q j=p i):∀i,i < k->p i=q i:=by
 have hqm:∀i j,i<=j->j < k->q i<=q j:=λi j h hj=>by
  rcases b9 i j with z | z
  ·exact aU (hq i j z hj)
  ·have:i=j:=by lia
   rw[this];exact ak _
 have hqi:∀i j,i < k->j < k->q i < q j->i < j:=λi j hi hj h=>by
  rcases b9 i j with z | z
  ·exact z
  ·have:=hqm j i z hi
   lia
 have key:∀i,i < k->∀j,j < k->q j=p i->i<=j:=by
  intro i
  induction i with
  | zero=>intro _ j _ _;exact bu _
  | succ i ih =>
   intro hi j hj e;obtain ⟨j',hj',e'⟩:=hs i (by lia);have h1:=ih (by lia) j' hj' e';have h2:=hp i (i+1) (by lia) hi;have:=hqi j' j hj' hj (by lia)
   lia
 have key2:∀t i,i+t+1=k->∀j,j < k->q j=p i->j<=i:=by
  intro t
  induction t with
  | zero=>intro i e j hj _;lia
  | succ t ih =>
   intro i e j hj ej;obtain ⟨j',hj',e'⟩:=hs (i+1) (by lia);have h1:=ih (i+1) (by lia) j' hj' e';have h2:=hp i (i+1) (by lia) (by lia);have:=hqi j j' hj hj' (by lia)
   lia
 intro i hi;obtain ⟨j,hj,e⟩:=hs i hi;have h1:=key i hi j hj e;have h2:=key2 (k - 1 - i) i (by lia) j hj e;have:j=i:=by lia
 rw[<- e,this]
theorem KS (h:bI rows n R ps) (h':bI rows' n R' ps') (hl:ps.length=ps'.length) (hs:∀i,i < ps.length->eT ps'.length (bU R') (bU R i)):R=R'/\ps=ps':=by
 obtain ⟨l1,w1,r1⟩:=h;obtain ⟨l2,w2,r2⟩:=h'
 have ep:∀i,i < ps.length->ps.getD i 0=ps'.getD i 0:=Lj r1.inc (by rw[hl];exact r2.inc) λi hi=>by
  have u:=r1.unit i hi i hi;rw[if_pos rfl] at u;obtain ⟨j,hj,e⟩:=r2.lead_in (hs i hi) (c:=ps.getD i 0) (by rw[u];decide) (λc hc=>r1.lead i hi c hc);exact ⟨j,by lia,e⟩
 have eps:ps=ps':=by
  apply dO hl;intro i a b;have:=ep i a;rw[aa,aa,af a,af b] at this;exact this
 refine ⟨MW (n:=n) (by lia) w1 w2 λi hi c=>?_,eps⟩;rw[l1] at hi;rw[r2.coef (hs i hi) c,<- hl,eU hi λj hj hj'=>?_]
 ·rw[<- ep i hi];have u:=r1.unit i hi i hi;rw[if_pos rfl] at u;rw[u];grind
 ·rw[<- ep j hj];have u:=r1.unit i hi j hj;rw[if_neg (Ne.symm hj')] at u;rw[u];grind
end
def oU (mv:LR9) (x:List Rat):List Rat:=mv.map λxs=>cE xs x
def kry (mv pt:LR9):Nat->LR9
 | 0=>[]
 | t+1=>pt++(kry mv pt t).map (oU mv)
section
variable {mv pt R R' S X Y:LR9} {n t m i c:Nat} {ps ps':List Nat} {a:Nat->Nat->Rat}
theorem uW {x:List Rat}:(oU mv x).length=mv.length:=aj ..
theorem JT (lm:mv.length=n) (wm:∀xs∈mv,xs.length=n) (wR:∀xs∈R,xs.length=n) (hi:i < R.length) (c:Nat):bU (R.map (oU mv)) i c=bo n λj=>bU mv c j*bU R i j:=by
 have wi:=wR _ (aJ hi);have e1:(R.map (oU mv)).getD i []=oU mv R[i]:=by rw[aa,aG,af hi];rfl
 have e2:R.getD i []=R[i]:=by rw[aa,af hi];rfl
 by_cases hc:c < n
 ·have wc:=wm _ (aJ (show c < mv.length by lia));have e3:mv.getD c []=mv[c]'(by lia):=by rw[aa,af (by lia)];rfl
  have e4:(oU mv R[i]).getD c 0=cE (mv[c]'(by lia)) R[i]:=by
   unfold oU;rw[aa,aG,af (by lia)];rfl
  unfold bU;rw[e1,e2,e3,e4,c6 (by lia),wc]
 ·have e3:mv.getD c []=[]:=by rw[aa,aV (by lia)];rfl
  unfold bU
  rw[e1,e3,aa,aV (by rw[uW];lia),cJ λj _=>by
   show ([]:List Rat).getD j 0*_=0
   rw[aa];show (0:Rat)*_=0
   grind]
  rfl
theorem z9 (lm:mv.length=n) (wm:∀xs∈mv,xs.length=n) (wR:∀xs∈R,xs.length=n) (wS:∀xs∈S,xs.length=n) (hi:i < R.length) (h:eT S.length (bU S) (bU R i)):eT (S.map (oU mv)).length (bU (S.map (oU mv))) (bU (R.map (oU mv)) i):=by
 obtain ⟨w,hw⟩:=h;refine ⟨w,λc=>?_⟩;rw[JT lm wm wR hi,aj]
 have e1:bo n (λj=>bU mv c j*bU R i j)=bo n (λj=>bo S.length λs=>w s*(bU mv c j*bU S s j)):=aH λj _=>by
  rw[hw j,<- bV];exact aH λs _=>by grind
 rw[e1,dn];exact aH λs hs=>by rw[bV,JT lm wm wS hs]
theorem Lq (h:i < X.length):bU (X++Y) i=bU X i:=by
 funext c;unfold bU;rw[aa (l:=X++Y),bD h,<- aa]
theorem Nt:bU (X++Y) (X.length+i)=bU Y i:=by
 funext c;unfold bU;rw[aa (l:=X++Y),aZ (by lia),show X.length+i - X.length=i by lia,<- aa]
theorem vq (h1:∀i,i < X.length->eT m a (bU X i)) (h2:∀i,i < Y.length->eT m a (bU Y i)):∀i,i < (X++Y).length->eT m a (bU (X++Y) i):=λi hi=>by
 rw[au] at hi;by_cases h:i < X.length
 ·rw[Lq h];exact h1 i h
 ·obtain ⟨j,rfl⟩:∃j,i=X.length+j:=⟨i - X.length,by lia⟩;rw[Nt];exact h2 j (by lia)
theorem rz (h:i < X.length):eT (X++Y).length (bU (X++Y)) (bU X i):=by
 have:=eT.row (a:=bU (X++Y)) (m:=(X++Y).length) (i:=i) (by rw[au];lia);rwa [Lq h] at this
theorem oC {x:Nat->Rat} (h:eT Y.length (bU Y) x):eT (X++Y).length (bU (X++Y)) x:=eT.trans (λs hs=>by
 have:=eT.row (a:=bU (X++Y)) (m:=(X++Y).length) (i:=X.length+s) (by rw[au];lia);rwa [Nt] at this) h
theorem fD (lm:mv.length=n) (wp:∀xs∈pt,xs.length=n):∀t,∀xs∈kry mv pt t,xs.length=n:=by
 intro t
 induction t with
 | zero=>intro xs hx;cases hx
 | succ t ih =>
  intro xs hx;sleep 1
  ·exact wp xs hx
  ·obtain ⟨y,_,rfl⟩:=aE.mp hx;rw[uW,lm]
theorem vQ (lm:mv.length=n) (wm:∀xs∈mv,xs.length=n) (wp:∀xs∈pt,xs.length=n) (RR:bI (kry mv pt t) n R ps) (RR':bI (pt++R.map (oU mv)) n R' ps'):bI (kry mv pt (t+1)) n R' ps':=by
 have wk:=fD (mv:=mv) lm wp t;refine ⟨RR'.1,RR'.2.1,RR'.2.2.other ?_ ?_⟩
 ·refine vq (λi hi=>rz hi) λi hi=>oC ?_
  rw[aj] at hi;exact z9 lm wm RR.2.1 wk hi (RR.2.2.back i (by rw[<- RR.1];exact hi))
 ·refine vq (λi hi=>rz hi) λi hi=>oC ?_
  rw[aj] at hi;have:=RR.2.2.span i hi;rw[<- RR.1] at this;exact z9 lm wm wk RR.2.1 hi this
theorem MJ (lm:mv.length=n) (wm:∀xs∈mv,xs.length=n) (wp:∀xs∈pt,xs.length=n):∀t i,i < (kry mv pt t).length->eT (kry mv pt (t+1)).length (bU (kry mv pt (t+1))) (bU (kry mv pt t) i):=by
 intro t
 induction t with
 | zero=>intro i hi;cases hi
 | succ t ih =>
  refine vq (λi hi=>rz hi) λi hi=>oC ?_
  rw[aj] at hi;exact z9 lm wm (fD lm wp t) (fD lm wp (t+1)) hi (ih i hi)
theorem Be (lm:mv.length=n) (wm:∀xs∈mv,xs.length=n) (wp:∀xs∈pt,xs.length=n) (RR:bI (kry mv pt t) n R ps) (RR':bI (kry mv pt (t+1)) n R' ps'):∀i,i < ps.length->eT ps'.length (bU R') (bU R i):=λi hi =>
 eT.trans (λs hs=>RR'.2.2.span s hs) (eT.trans (MJ lm wm wp t) (RR.2.2.back i hi))
theorem Dq (lm:mv.length=n) (wm:∀xs∈mv,xs.length=n) (wp:∀xs∈pt,xs.length=n) (RR:bI (kry mv pt t) n R ps) (RR':bI (pt++R.map (oU mv)) n R' ps') (hl:ps'.length=ps.length):∀s,bI (kry mv pt (t+s)) n R ps:=by
 have K1:=vQ lm wm wp RR RR';obtain ⟨e1,e2⟩:=KS RR K1 hl.symm (Be lm wm wp RR K1);subst e1 e2;intro s
 induction s with
 | zero=>exact RR
 | succ s ih=>exact vQ lm wm wp ih RR'
theorem Hv (lm:mv.length=n) (wm:∀xs∈mv,xs.length=n) (wp:∀xs∈pt,xs.length=n) (RR:bI (kry mv pt t) n R ps) (RR':bI (kry mv pt (t+1)) n R' ps'):ps.length<=ps'.length:=by
 have h:=Be lm wm wp RR RR'
 have hs:∀i,i < ps.length->∃j,j < ps'.length/\ps'.getD j 0=ps.getD i 0:=λi hi=>by
  have u:=RR.2.2.unit i hi i hi;rw[if_pos rfl] at u;exact RR'.2.2.lead_in (h i hi) (c:=ps.getD i 0) (by rw[u];decide) (λc hc=>RR.2.2.lead i hi c hc)
 rcases b9 ps'.length ps.length with z | z
 ·exfalso
  have key:∀i,i < ps.length->∀j,j < ps'.length->ps'.getD j 0=ps.getD i 0->i<=j:=by
   intro i
   induction i with
   | zero=>intro _ j _ _;exact bu _
   | succ i ih =>
    intro hi j hj e;obtain ⟨j',hj',e'⟩:=hs i (by lia);have h1:=ih (by lia) j' hj' e';have h2:=RR.2.2.inc i (i+1) (by lia) hi;rcases b9 j' j with y | y
    ·lia
    ·rcases b9 j j' with x | x
     ·have:=RR'.2.2.inc j j' x hj'
      lia
     ·have:j=j':=by lia
      rw[this] at e
      lia
  obtain ⟨j,hj,e⟩:=hs (ps.length - 1) (by lia);have:=key (ps.length - 1) (by lia) j hj e
  lia
 ·exact z
theorem Jf {M V c:Nat} (lm:mv.length=n) (wm:∀xs∈mv,xs.length=n) (wp:∀xs∈pt,xs.length=n) (hc:(n+1)*V<=2^c) (fm:GF M V mv) (fp:GF M V pt):∀t,∀xs∈kry mv pt t,∀x∈xs,Fr (M^t) (2^(c*t)) x:=by
 intro t
 induction t with
 | zero=>intro xs hx;cases hx
 | succ t ih =>
  intro xs hx x hx';have hV:V<=2^c:=ai (cI _ (by lia)) hc;sleep 1
  ·refine Fr.up (fp xs hx x hx') (by rw[fG];exact dq _ _) (ai hV (ax (by decide) (dE _ (by lia))))
  ·obtain ⟨y,hy,rfl⟩:=aE.mp hx;unfold oU at hx';obtain ⟨r,hr,rfl⟩:=aE.mp hx';have wr:=wm r hr;have wy:=fD (mv:=mv) lm wp t y hy;have f:=OY (by lia) (fm r hr) (ih y hy);rw[fG,bZ (M^t)];refine f.mono ?_;rw[eB,xj,a8,bZ (2^(c*t)),<- cR,wr];exact az _ (ai (az _ (by lia)) hc)
def iM (mv pt:LR9) (a c:Nat):Prop:=∃M V:Nat,0 < M/\M<=2^a/\(mv.length+1)*V<=2^c/\GF M V mv/\GF M V pt/\a<=400/\c<=40/\mv.length*(mv.length*(a+c)+4)<=1740/\mv.length*(mv.length*(mv.length*(a+c)+4)+a+c+4)<=8900
theorem iM.swf {a c:Nat} (F:iM mv pt a c) (D:mv.length<=8) (wm:∀xs∈mv,xs.length=mv.length) (wp:∀xs∈pt,xs.length=mv.length) (ht:t<=mv.length):D9 (kry mv pt t) mv.length (mv.length*(a+c)):=by
 obtain ⟨M,V,M0,Ma,hV,fm,fp,a3,c3,e14,e89⟩:=F;have f:=Jf rfl wm wp hV fm fp t;have h1:mv.length*(a+c)<=8*440:=aK D (by lia);have hM:M^t<=2^(a*mv.length):=ai (iD Ma _) (by rw[<- qW];exact ax (by decide) (aM _ ht));have h2:a*mv.length<=mv.length*(a+c):=by rw[bZ];exact aM _ (by lia)
 have h3:mv.length=0\/mv.length*(a+c)<=1740:=by
  rcases fw mv.length with z | z
  ·exact .inl z
  ·right
   have:=cI (mv.length*(a+c)+4) z
   lia
 have h4:mv.length*(a+c)<=1740:=by
  rcases h3 with z | z
  ·rw[z];lia
  ·exact z
 refine ⟨M^t,2^(mv.length*(a+c)),dS M0,ai hM (ax (by decide) (by lia)),cV,ak _,λxs hx x hx'=>Tp.of (f xs hx x hx') ?_,by lia,by lia,?_⟩
 ·refine ai (aK (ax (by decide) (aM c ht)) hM) ?_;rw[<- a8];refine ax (by decide) ?_;rw[bZ c,bZ a,<- eB,kJ c];exact ak _
 ·exact ai (az _ (zo _ _)) (by lia)
theorem iM.tp {a c:Nat} (F:iM mv pt a c) (D:mv.length<=8) (wm:∀xs∈mv,xs.length=mv.length) (wp:∀xs∈pt,xs.length=mv.length) (ht:t<=mv.length) (RR:bI (kry mv pt t) mv.length R ps):∃M,0 < M/\M<=2^(mv.length*(mv.length*(a+c)+4))/\∀xs∈R,∀x∈xs,Tp M (2^(mv.length*(mv.length*(a+c)+4))) x:=by
 obtain ⟨_,M,h0,h1,h2⟩:=Sv (fD rfl wp t) (F.swf D wm wp ht) RR;have le:2^(min (kry mv pt t).length mv.length*(mv.length*(a+c)+4))<=2^(mv.length*(mv.length*(a+c)+4)):=ax (by decide) (az _ (zo _ _));exact ⟨M,h0,ai h1 le,λxs hx x hx'=>(h2 xs hx x hx').mono le⟩
theorem iM.step {a c:Nat} (F:iM mv pt a c) (D:mv.length<=8) (wm:∀xs∈mv,xs.length=mv.length) (wp:∀xs∈pt,xs.length=mv.length) (ht:t<=mv.length) (RR:bI (kry mv pt t) mv.length R ps):D9 (pt++R.map (oU mv)) mv.length (mv.length*(mv.length*(a+c)+4)+a+c):=by
 obtain ⟨N,N0,N1,tN⟩:=F.tp D wm wp ht RR;obtain ⟨M,V,M0,Ma,hV,fm,fp,a3,c3,e14,e89⟩:=F;generalize mv.length*(mv.length*(a+c)+4)=e at *
 have V1:V<=2^c:=ai (cI _ (by lia)) hV;have eW:(2:Nat)^(e+a+c)=2^c*(2^a*2^e):=by rw[<- a8,<- a8];congr 1;lia
 refine ⟨N*M,2^(e+a+c),bQ N0 M0,?_,cV,ak _,λxs hx x hx'=>?_,by lia,by lia,?_⟩
 ·exact ai (aK N1 Ma) (by rw[<- a8];exact ax (by decide) (by lia))
 ·sleep 1
  ·refine Tp.of ((fp xs hx x hx').scaleL N) ?_;rw[eW,bZ N];exact aK V1 (aK Ma N1)
  ·obtain ⟨y,hy,rfl⟩:=aE.mp hx;unfold oU at hx';obtain ⟨r,hr,rfl⟩:=aE.mp hx';have wr:=wm r hr;have wy:=RR.2.1 y hy;rw[c6 (by lia),wr];have t1:∀j,Tp M (V*M) (r.getD j 0):=λj=>kr (λx hx=>Tp.of (fm r hr x hx) (ak _)) j
   have t2:∀j,Tp N (2^e) (y.getD j 0):=λj=>kr (tN y hy) j
   have:=Tp.sum (k:=mv.length) (M:=N*M) (W:=V*M*2^e) (f:=λj=>r.getD j 0*y.getD j 0) λj _=>by
    have:=(t1 j).mul (t2 j);rwa [bZ M N] at this
   refine this.mono ?_;rw[eW,cR V,<- cR mv.length];exact aK (ai (az _ (by lia)) hV) (az _ Ma)
 ·exact ai (az _ (zo _ _)) (by rw[show e+a+c+4=e+a+c+4 from rfl];exact e89)
theorem iM.fit {a c:Nat} (F:iM mv pt a c) (D:mv.length<=8) (wm:∀xs∈mv,xs.length=mv.length) (wp:∀xs∈pt,xs.length=mv.length) (ht:t<=mv.length) (RR:bI (kry mv pt t) mv.length R ps):∀xs∈mv,∀r∈R,rf xs r:=λxs hx r hr=>by
 obtain ⟨N,N0,N1,tN⟩:=F.tp D wm wp ht RR;obtain ⟨M,V,M0,Ma,hV,fm,fp,a3,c3,e14,e89⟩:=F;have V1:V<=2^c:=ai (cI _ (by lia)) hV;have p14:=ax (show 0 < 2 by decide) e14;exact ⟨400,40,1740,1740,⟨M,V,M0,ai Ma (ax (by decide) a3),ai V1 (ax (by decide) c3),fm xs hx⟩,⟨N,2^1740,N0,ai N1 p14,ak _,λx hx=>((tN r hr x hx).mono p14).fr N0⟩,by decide⟩
end
inductive CK (K:FG9) (C:Addr) (vs:List V) (H:Hp) (Q:VK) (E9:XK):Prop
 | mk (x p:Addr) (H0 H1:Hp) (mv pt lk R:LR9):vs=[.ref x,.ref p]->jR K H0 H C x mv pt lk->eG mv pt lk->bE K H1 H p R->R.length<=100->(∀r∈R,r.length=mv.length)->(∀xs∈mv,∀r∈R,rf xs r)->(∀r H',H r=none->aL H H'->bE K H H' r (R.map (oU mv))->Q (.ref r) H')->CK K C vs H Q E9
structure td (mv pt:LR9) (Rs:List (LR9)):Prop where
 ne:Rs≠[]
 rr:∀t R,Rs[t]?=some R->∃ps,bI (kry mv pt t) mv.length R ps
 up:∀t R R',Rs[t]?=some R->Rs[t+1]?=some R'->R.length < R'.length
def GrL (K:FG9) (H0 H:Hp) (l:Addr) (Rs:List (LR9)):Prop:=∃us,H l=some (.lst us)/\Paired (λR v=>∃q,v=V.ref q/\H0 q=none/\q≠l/\bE K H0 H q R) Rs us
inductive CO (K:FG9) (C:Addr) (vs:List V) (H:Hp) (Q:VK) (E9:XK):Prop
 | mk (x:Addr) (a c st:Nat) (H0:Hp) (mv pt lk:LR9):vs=[.ref x,.int st]->st<=1000->jR K H0 H C x mv pt lk->eG mv pt lk->iM mv pt a c->(∀r Rs H',H r=none->aL H H'->GrL K H H' r Rs->td mv pt Rs->Rs.length<=st+1->(∀R,Rs.getLast?=some R->∀s,(Rs.length - 1=st/\s=st\/Rs.length - 1 < st/\Rs.length - 1<=s)->∃ps,bI (kry mv pt s) mv.length R ps)->Q (.ref r) H')->CO K C vs H Q E9
inductive CG (K:FG9) (C:Addr) (vs:List V) (H:Hp) (Q:VK) (E9:XK):Prop
 | mk (x:Addr) (a c st:Nat) (H0:Hp) (mv pt lk:LR9):vs=[.ref x,.int st]->st<=1000->jR K H0 H C x mv pt lk->eG mv pt lk->iM mv pt a c->(∀r R ps H',H r=none->aL H H'->bE K H H' r R->bI (kry mv pt st) mv.length R ps->Q (.ref r) H')->CG K C vs H Q E9
section
variable {K:FG9} {H0 H1 H H':Hp} {p l:Addr} {rows mv pt R R':LR9} {Rs:List (LR9)} {t:Nat}
theorem bE.weakN (h:bE K H0 H p rows) (hn:∀q,H0 q=none->H1 q=none):bE K H1 H p rows:=by obtain ⟨xs,g,r,n⟩:=h;exact ⟨xs,g,Paired.imp' (λ_ _ ⟨q,a,b,c⟩=>⟨q,a,hn q b,c⟩) r,n⟩
theorem bE.updL {ys:List V} {o:HO} (h:bE K H0 H p rows) (hl:H l=some (.lst ys)) (nl:H0 l≠none) (pl:p≠l):bE K H0 (upd H l o) p rows:=by obtain ⟨xs,g,r,n⟩:=h;exact ⟨xs,by rw[bM pl];exact g,Paired.imp' (λ_ _ z=>di.updL z hl nl) r,n⟩
theorem IG {n:Nat}:bI [] n [] []:=⟨rfl,(λ_ h=>by cases h),(λ_ _ _ h=>absurd h (d7 _)),(λ_ h=>absurd h (d7 _)),(λ_ h=>absurd h (d7 _)),(λ_ h=>absurd h (d7 _)),(λ_ h=>absurd h (d7 _)),(λ_ h=>absurd h (d7 _))⟩
theorem td.len (h:td mv pt Rs):∀(t:Nat) (R:LR9),Rs[t]?=some R->t<=R.length:=by
 intro t
 induction t with
 | zero=>intro R _;exact bu _
 | succ t ih =>
  intro R e;have ht:=(aF.mp e).1;have e0:=af (show t < Rs.length by lia);have:=ih _ e0;have:=h.up t _ R e0 e
  lia
theorem td.snoc {ps':List Nat} (h:td mv pt (Rs++[R])) (h1:bI (kry mv pt (Rs.length+1)) mv.length R' ps') (h2:R.length < R'.length):td mv pt ((Rs++[R])++[R']):=by
 have l1:(Rs++[R]).length=Rs.length+1:=by rw[au];rfl
 refine ⟨by simp,λt S e=>?_,λt S S' e e'=>?_⟩
 ·rcases b9 t (Rs.length+1) with z | z
  ·rw[bD (by lia)] at e;exact h.rr t S e
  ·have ht:=(aF.mp e).1;rw[au,bf] at ht;have:t=Rs.length+1:=by lia
   subst this;rw[aZ (by lia),l1,fF] at e;cases e;exact ⟨ps',h1⟩
 ·have ht:=(aF.mp e').1;rw[au,bf] at ht;rw[bD (by lia)] at e;rcases b9 (t+1) (Rs.length+1) with z | z
  ·rw[bD (by lia)] at e';exact h.up t S S' e e'
  ·have:t=Rs.length:=by lia
   subst this;rw[aZ (by lia),l1,fF] at e';cases e';rw[aZ (ak _),fF] at e;cases e;exact h2
end
theorem bE.toE {K:FG9} {H0 H:Hp} {l:Addr} {rows:LR9} (h:bE K H0 H l rows):∃us,H l=some (.lst us)/\Paired (Ls K (λq=>H0 q=none/\q≠l) H) rows us:=by
 obtain ⟨us,g,pr,nn⟩:=h;exact ⟨us,g,rZ (λxs v hv ⟨q,e,a,b⟩=>⟨q,e,⟨a,λz=>nn (by rw[<- z,<- e];exact hv)⟩,b⟩) pr⟩
theorem Dk {α:Type} {v:α}:∀{l:List α},l.Nodup->v∉l->∀j,(l.set j v).Nodup
 | [],_,_,_=>nD
 | a :: l,h,hn,0=>by
  rw[fb] at h;rw[List.set_cons_zero,fb];exact ⟨λz=>hn (.tail _ z),h.2⟩
 | a :: l,h,hn,j+1=>by
  rw[fb] at h;rw[List.set_cons_succ,fb];refine ⟨λz=>?_,Dk h.2 (λz=>hn (.tail _ z)) j⟩;rcases cD z with z | z
  ·exact h.1 z
  ·exact hn (by rw[z];exact .head _)
structure jT (K:FG9) (A:Addr->Prop) (H:Hp) (n:Nat) (C:V->Rat->Prop) (m p l b q0:Addr) (us ws vs:List V):Prop where
 bag:ic H b
 inn:Inner H b q0
 gm:H m=some (.lst us)
 gp:H p=some (.lst ws)
 gl:H l=some (.lst vs)
 lm:us.length=n
 row:∀x∈us++vs++ws,fX K A H n (C x) x
 nd:(us++vs++ws).Nodup
section
variable {K:FG9} {A:Addr->Prop} {H H':Hp} {n:Nat} {C C':V->Rat->Prop} {m p l b q0 q:Addr} {us ws vs zs:List V} {y:Rat} {v:V}
theorem jT.same (h:jT K A H n C m p l b q0 us ws vs) (e:aL H H'):jT K A H' n C m p l b q0 us ws vs :=
 ⟨h.bag.same e,(e.upto (p:=b)).2 _ h.inn,e _ _ h.gm,e _ _ h.gp,e _ _ h.gl,h.lm,λx hx=>(h.row x hx).same e,h.nd⟩
theorem jT.upto (h:jT K A H n C m p l b q0 us ws vs) (M:Ie A m p l b q0) (u:c7 b H H') (B':ic H' b):jT K A H' n C m p l b q0 us ws vs :=
 ⟨B',u.2 _ h.inn,u.other M.mb h.gm,u.other M.pb h.gp,u.other M.lb h.gl,h.lm,λx hx=>(h.row x hx).upto u h.bag M.ab,h.nd⟩
theorem jT.weak (h:jT K A H n C m p l b q0 us ws vs) (w:∀x∈us++vs++ws,∀y,C x y->C' x y):jT K A H n C' m p l b q0 us ws vs :=
 ⟨h.bag,h.inn,h.gm,h.gp,h.gl,h.lm,λx hx=>(h.row x hx).weak (λ_ z=>z) (w x hx),h.nd⟩
theorem jT.put (h:jT K A H n C m p l b q0 us ws vs) (M:Ie A m p l b q0) (aq:A q) (hq:H q=some (.lst zs)) (hv:cz K H y v) (hc:C (.ref q) y) (j:Nat):jT K A (upd H q (.lst (zs.set j v))) n C m p l b q0 us ws vs:=by
 have ne:∀{z},¬A z->z≠q:=λh e=>h (by rw[e];exact aq)
 refine ⟨h.bag.upd h.inn (ne M.ab).symm (ne M.aq).symm,h.inn.upd (ne M.ab).symm,by rw[bM (ne M.am)];exact h.gm,by rw[bM (ne M.ap)];exact h.gp,by rw[bM (ne M.al)];exact h.gl,h.lm,λx hx=>?_,h.nd⟩;by_cases e:x=.ref q
 ·subst e;exact (h.row _ hx).put hq hv hc j
 ·obtain ⟨q1,qs,rfl,a1,r1,l1,c1⟩:=h.row x hx;exact ⟨q1,qs,rfl,a1,r1.updL hq (λz=>e (by rw[z])),l1,c1⟩
theorem jT.set (h:jT K A H n C m p l b q0 us ws vs) (M:Ie A m p l b q0) (hx:fX K A H n (C v) v) (hn:v∉us++vs++ws) (j:Nat):jT K A (upd H m (.lst (us.set j v))) n C m p l b q0 (us.set j v) ws vs:=by
 have mem:∀x∈us.set j v++vs++ws,x=v\/x∈us++vs++ws:=λx hx=>by
  sleep 1
  ·sleep 1
   ·rcases cD hx with hx | hx
    ·exact .inr (by simp [hx])
    ·exact .inl hx
   ·exact .inr (by simp [hx])
  ·exact .inr (by simp [hx])
 refine ⟨h.bag.upd h.inn M.mb M.mq,h.inn.upd M.mb,aO,by rw[bM M.mp.symm];exact h.gp,by rw[bM M.ml.symm];exact h.gl,by rw[dI];exact h.lm,λx hx'=>?_,?_⟩
 ·rcases mem x hx' with rfl | hx'
  ·exact hx.other h.gm M.am
  ·exact (h.row x hx').other h.gm M.am
 ·have nd:=h.nd;rw[cP] at nd hn ⊢;obtain ⟨n1,n2,n3⟩:=dU.mp nd;refine dU.mpr ⟨?_,n2,λa ha c hc=>?_⟩
  ·rcases b9 j us.length with z | z
   ·exact Dk n1 (λz'=>hn (aA.mpr (.inl z'))) j
   ·rw[List.set_eq_of_length_le z];exact n1
  ·rcases cD ha with ha | rfl
   ·exact n3 a ha c hc
   ·exact λz=>hn (aA.mpr (.inr (by rw[z];exact hc)))
end
theorem Kc {M W:Nat} {x:Rat} (h0:0 < M) (h1:M<=2^800) (hW:W<=2^140) (h:Fr M W x):nB x :=
 Jl h0 (ai h1 (ax (by decide) (by decide))) (ai hW (ax (by decide) (by decide))) h
theorem OH {t V c:Nat} (ht:t<=3) (hV:V<=2^20) (hc:c<=9):c*(9^t*V)<=2^140:=by
 have h1:9^t<=9^3:=ax (by decide) ht;have h2:c*(9^t*V)<=9*(9^3*2^20):=aK hc (aK h1 hV);exact ai h2 (ai (show 9*(9^3*2^20)<=2^40 by decide) (ax (by decide) (by decide)))
theorem pW {α:Type} {l:List α} {v:α} (h:l.Nodup) (hn:v∉l):(l++[v]).Nodup:=dU.mpr ⟨h,by simp,λa ha c hc=>by rw[bS.mp hc];exact λz=>hn (by rw[<- z];exact ha)⟩
section
variable {K:FG9} {a:Addr} {xs:List V} {g:TG} {tf:TT} {te:TE} {Q:VK} {σ₀:St} {H:Hp} {α β:Type}
theorem DL {n:Nat} {b:Addr} (G:Hp->β->V->Prop) (C:β->Prop) (hB:ic H b) (hl:n<=1000) (hG:∀{H' H'' c x},G H' c x->c7 b H' H''->ic H' b->G H'' c x)
  (hA:∀{H' c x},G H' c x->∃q,x=V.ref q/\H' q≠none)
  (hs:∀(i:Nat) H' NY NN,i < n->c7 b H H'->ic H' b->(∀y c H2,c7 b H' H2->ic H2 b->C c->G H2 c y->(∃q,y=V.ref q/\H' q=none)->NY y H2)->rk σ₀ g tf te (.int i) H' NY NN)
  (hd:∀ys cs H' p,H p=none->c7 b H H'->ic H' b->H' p=some (.lst ys)->cs.length=n->ys.Nodup->(∀c∈cs,C c)->Paired (G H') cs ys->(∃H2,H2 p=none/\Paired (G H2) cs ys)->Q (.ref p) H'):tu (Ik 0 n) σ₀ g tf te Q H:=by
 refine qE (λi ys H'=>c7 b H H'/\ic H' b/\∃cs,cs.length=i/\ys.Nodup/\(∀c∈cs,C c)/\Paired (G H') cs ys) (aU (bF (by lia))) ⟨(aL.refl _).upto,hB,[],rfl,nD,(λ_ z=>nomatch z),.nil⟩ ?_ ?_
 ·rintro i ys H' hi hlen ⟨u,B,cs,lc,nd,hc,pr⟩;rw[zV];refine hs i H' _ _ hi u B λy c H2 u2 B2 cc gy ⟨q,ey,nq⟩=>⟨u.trans u2,B2,cs++[c],by simp [lc],pW nd (λz=>by obtain ⟨c',_,gc⟩:=dh pr z;obtain ⟨q',e',h'⟩:=hA gc;rw[ey] at e';cases e';exact h' nq),Fw hc cc,bT (Paired.imp' (λ_ _ z=>hG z u2 B) pr) (.cons gy .nil)⟩
 ·rintro ys H' hy ⟨u,B,cs,lc,nd,hc,pr⟩ p hp;have s:aL H' (upd H' p (.lst ys)):=aL.new hp;exact hd ys cs _ p (u.none B hp) (u.same s) (B.same s) aO lc nd hc (Paired.imp' (λ_ _ z=>hG z s.upto B) pr) ⟨H',hp,pr⟩
end
structure Jv (K:FG9) (A:Addr->Prop) (n:Nat) (C:Rat->Prop) (m p l b q0:Addr) (us ws vs:List V) (H0 H:Hp):Prop where
 mix:jT K A H n (λ_=>C) m p l b q0 us ws vs
 gp:H p=some (.lst ws)
 gl:H l=some (.lst vs)
 kp:iH A b m H0 H
section
variable {K:FG9} {A:Addr->Prop} {n:Nat} {C:Rat->Prop} {m p l b q0 q:Addr} {us ws vs:List V} {H0 H H':Hp} {y:Rat} {v:V}
theorem Jv.same (h:Jv K A n C m p l b q0 us ws vs H0 H) (e:aL H H'):Jv K A n C m p l b q0 us ws vs H0 H':=⟨h.mix.same e,e _ _ h.gp,e _ _ h.gl,h.kp.same e⟩
theorem Jv.upto (h:Jv K A n C m p l b q0 us ws vs H0 H) (M:Ie A m p l b q0) (u:c7 b H H') (B:ic H' b):Jv K A n C m p l b q0 us ws vs H0 H':=⟨h.mix.upto M u B,u.other M.pb h.gp,u.other M.lb h.gl,h.kp.upto u⟩
theorem Jv.row (h:Jv K A n C m p l b q0 us ws vs H0 H) {x:V} (hx:x∈ws\/x∈vs):fX K A H n C x:=h.mix.row x (by rcases hx with hx | hx <;> simp [hx])
theorem Jv.put (h:Jv K A n C m p l b q0 us ws vs H0 H) (M:Ie A m p l b q0) (hx:V.ref q∈ws\/V.ref q∈vs) (hv:cz K H y v) (hc:C y) (j:Nat):∃zs,H q=some (.lst zs)/\zs.length=n/\Jv K A n C m p l b q0 us ws vs H0 (upd H q (.lst (zs.set j v))):=by
 obtain ⟨q',zs,qs,e,a,g,lz,_⟩:=(h.row hx).at;cases e;have ne:∀{z},¬A z->z≠q:=λh e=>h (by rw[e];exact a)
 exact ⟨zs,g,lz,h.mix.put M a g hv hc j,by rw[bM (ne M.ap)];exact h.gp,by rw[bM (ne M.al)];exact h.gl,h.kp.upd (.inl a)⟩
end
inductive F2 (K:FG9) (vs:List V) (H:Hp) (Q:VK) (E9:XK):Prop
 | mk (b:Addr) (n w:Nat) (way first:Int):vs=[.ref b,.int n,.int way,.int first,.int w]->ic H b->n<=8->1<=w->w<=1000000->(∀r us H',H r=none->H' r=some (.lst us)->us.length=n->us.Nodup->(∀x∈us,fX K (λq=>H q=none/\q≠r) H' n (Dr (max w 6)) x)->ic H' b->c7 b H H'->Q (.ref r) H')->F2 K vs H Q E9
def PtF (n i o w c:Nat) (mv pt lk:LR9):Prop:=∃M V1:Nat,0 < M/\GF M V1 mv/\GF M V1 pt/\GF M V1 lk/\((w<=9/\M=2520/\V1=9^3*9)\/(9 < w/\M<=2^(c*((n+i+o)*n))/\V1=9^3*2^c))
inductive F3 (K:FG9) (vs:List V) (H:Hp) (Q:VK) (E9:XK):Prop
 | mk (b:Addr) (n:Nat):vs=[.ref b,.int n]->ic H b->1<=n->n<=8->(∀r mv pt lk H',eQ K H H' r mv pt lk->mv.length=n->pt.length=1->lk.length=1->eG mv pt lk->GF 1 1 mv->GF 1 1 pt->GF 1 1 lk->ic H' b->c7 b H H'->Q (.ref r) H')->F3 K vs H Q E9
theorem iT {mv pt:LR9} {M V1 a c n0:Nat} (M0:0 < M) (hM:M<=2^a) (hn:mv.length<=n0) (hV:(n0+1)*V1<=2^c) (fm:GF M V1 mv) (fp:GF M V1 pt) (h4:a<=400/\c<=40/\n0*(n0*(a+c)+4)<=1740/\n0*(n0*(n0*(a+c)+4)+a+c+4)<=8900):iM mv pt a c:=by
 obtain ⟨h1,h2,h3,h5⟩:=h4;have e1:mv.length*(a+c)<=n0*(a+c):=az _ hn;have e2:mv.length*(mv.length*(a+c)+4)<=n0*(n0*(a+c)+4):=aK hn (by lia);have e3:mv.length*(mv.length*(mv.length*(a+c)+4)+a+c+4)<=n0*(n0*(n0*(a+c)+4)+a+c+4):=aK hn (by lia);exact ⟨M,V1,M0,hM,ai (az _ (by lia)) hV,fm,fp,h1,h2,by lia,by lia⟩
def NQ (K:FG9):Sp:=λvs H Q _=>∃b:Addr,vs=[.ref b]/\ic H b /\
 ∀r mv pt lk H',eQ K H H' r mv pt lk->6<=mv.length->eG mv pt lk->GF 1 (9^3) mv->GF 1 (9^3) pt->GF 1 (9^3) lk->ic H' b->c7 b H H'->Q (.ref r) H'
theorem Hw {mv pt R R':LR9} {n t:Nat} {ps ps':List Nat} (lm:mv.length=n) (wm:∀xs∈mv,xs.length=n) (wp:∀xs∈pt,xs.length=n) (RR:bI (kry mv pt t) n R ps) (RR':bI (kry mv pt (t+1)) n R' ps'):bI (pt++R.map (oU mv)) n R' ps':=by
 have wk:=fD (mv:=mv) lm wp t;refine ⟨RR'.1,RR'.2.1,RR'.2.2.other ?_ ?_⟩
 ·refine vq (λi hi=>rz hi) λi hi=>oC ?_
  rw[aj] at hi;have:=RR.2.2.span i hi;rw[<- RR.1] at this;exact z9 lm wm wk RR.2.1 hi this
 ·refine vq (λi hi=>rz hi) λi hi=>oC ?_
  rw[aj] at hi;exact z9 lm wm RR.2.1 wk hi (RR.2.2.back i (by rw[<- RR.1];exact hi))
theorem Fn {rs:List Nat} {v v':Nat->gZ}:∀{k:Nat} (pre:List gZ),(∀j,j < k->∀r∈rs,v j r=v' j r)->iL rs (pre++iu v k)=iL rs (pre++iu v' k)
 | 0,_,_=>rfl
 | k+1,pre,h=>by
  show iL rs (pre++v k :: iu v k)=iL rs (pre++v' k :: iu v' k)
  rw[Nb (h k (by lia))];have:=Fn (k:=k) (pre++[v' k]) λj hj=>h j (by lia)
  simpa using this
theorem Py {F G:List gZ->Rat} {r:Nat} {σ:Nat->Nat} (hF:∀ws:List gZ,F (ws.map λv i=>v (σ i))=G ws):∀(post pre:List gZ) (s:Rat),zC F r (pre.map λv i=>v (σ i)) (post.map λv i=>v (σ i)) s=zC G (σ r) pre post s
 | [],_,_=>rfl
 | v :: post,pre,s=>by
  have i1:=hF (pre++post);have i2:=Py (r:=r) hF post (pre++[v]) (-s);simp only[cg,gI,Kz,zC] at i1 i2 ⊢;rw[i1,i2]
theorem PN {σ:Nat->Nat}:∀(rs:List Nat) (vs:List gZ),iL rs (vs.map λv i=>v (σ i))=iL (rs.map σ) vs
 | [],[]=>rfl
 | [],_ :: _=>rfl
 | r :: rs,vs=>Py (λws=>PN rs ws) vs [] 1
theorem L9 {σ:Nat->Nat}:∀{k:Nat},(jW (λi=>i) k).map σ=jW σ k
 | 0=>rfl
 | k+1=>by show σ k :: _=_;rw[L9];rfl
theorem cw_map {τ:gZ->gZ} {v:Nat->gZ}:∀{k:Nat},(iu v k).map τ=iu (λj=>τ (v j)) k
 | 0=>rfl
 | k+1=>by show τ (v k) :: _=_;rw[cw_map];rfl
theorem Rn {σ:Nat->Nat} {v:Nat->gZ} {k:Nat}:iL (jW σ k) (iu v k)=iL (jW (λi=>i) k) (iu (λj i=>v j (σ i)) k):=by
 rw[<- L9,<- PN,cw_map]
theorem Na {N : Nat} {W : Nat → Nat} : ∀ {rs : List Nat} {vs : List gZ}, vs.length ≤ N → (∀ v ∈ vs, ∀ r ∈ rs, Fr 1 (W r) (v r)) → Fr 1 ((rs.map λr => N * W r).foldr (· * ·) 1) (iL rs vs)
  | [], [], _, _ => by show Fr 1 1 1; exact (Fr.int (i := 1) (by decide))
  | [], _ :: _, _, _ => by show Fr 1 _ 0; exact Fr.zero
  | r :: rs, vs, hl, h => by
    have := MF (F := λws => iL rs ws) (r := r) (B := (rs.map λr => N * W r).foldr (· * ·) 1) (W := W r) (post := vs) (pre := []) (s := 1) (λws h1 h2 => Na (by rw [dc] at h2; lia) λv hv r' hr' => h v (by simpa using h1 v hv) r' (.tail _ hr')) (λw hw => h w hw r (.head _)) (Fr.int (i := 1) (by decide));refine this.mono ?_;show _ ≤ N * W r * _
    rw [cR N];exact az _ hl
structure Vb (r n:Nat) (Pm Y Z:Nat->Nat->Rat) (d:Rat) (W:Nat):Prop where
 d0:d≠0
 det:d=iL (jW (λi=>i) r) (iu (λj i=>Pm i j) r)
 eq:∀i,i < r->∀c,c < n->Z i c=bo r λs=>Pm i s*Y s c
 pf:∀i,i < r->∀s,s < r->Fr 1 W (Pm i s)
 zf:∀i,i < r->∀c,c < n->Fr 1 W (Z i c)
section
variable {rows fs ls:LR9} {n r M W Wv Wb k P:Nat} {Pm Y Z B E a:Nat->Nat->Rat} {d:Rat} {ps:List Nat} {rs:LR9}
end
section
variable {rows R R1 R2 mv pt:LR9} {n r M V1 W W' Wv Wb k P:Nat} {Pm Y Z B E a:Nat->Nat->Rat} {d:Rat} {ps ps1 ps2:List Nat} {rs:LR9}
theorem LI (h0:0 < M) (h3:∀xs∈rows,∀x∈xs,Tp M W x):∀i,i < rows.length->∀c,Fr 1 W (fq (rows.map jV) i c):=λi hi c=>by
 have hx:=getD_in (e:=[]) hi;rw[FH hi];unfold bU;generalize rows.getD i []=xs at hx ⊢;by_cases hc:c < xs.length
 ·have t:=h3 xs hx _ (getD_in (e:=0) hc);obtain ⟨s,e,b⟩:=Ek t h0 (Bw (xs:=xs)) (sW (aE.mpr ⟨_,getD_in (e:=0) hc,rfl⟩)) (Ko h0 (h3 xs hx));rw[cX,e];exact Fr.int b
 ·rw[aa,aV (by lia)];show Fr 1 W (_*0)
  rw[dJ];exact Fr.zero
theorem Vb.of (hw:∀xs∈rows,xs.length=n) (hW:1<=W) (h0:0 < M) (h3:∀xs∈rows,∀x∈xs,Tp M W x) (RR:bI rows n R ps):∃Pm Z d,Vb ps.length n Pm (bU R) Z d W:=by
 have ent:=LI h0 h3;obtain ⟨ls,ps2,d,I⟩:=xu hw hW (by rw[aj];exact ent) n (ak _);obtain ⟨_,_,⟨pm,B⟩,E⟩:=I;rw[aj] at B E
 have RF:Fz rows.length n (bU rows) ps2.length (λj=>ps2.getD j 0) (λi c=>fq ls i c / d):=Fz.other (E.done λi hi c hc=>yg (n:=n) (λzs hz=>by
  obtain ⟨xs,hx,rfl⟩:=aE.mp hz;rw[rj];exact hw xs hx) hc) Ef Eg
 obtain ⟨e1,e2,e3⟩:=RF.uniq RR.2.2 (λ_ hi=>eT.row hi) (λ_ hi=>eT.row hi);refine ⟨λi s=>fq (rows.map jV) (pm i) (ps2.getD s 0),λi c=>fq (rows.map jV) (pm i) c,d,?_⟩;rw[<- e1];have km:=B.km;refine ⟨B.d0,?_,λi hi c hc=>?_,λi hi s hs=>ent _ (B.rng i (by lia)) _,λi hi c hc=>ent _ (B.rng i (by lia)) _⟩
 ·rw[B.det];exact Rn
 ·have:=B.coef (i:=i) (c:=c) (by lia);rw[if_pos hi,iV] at this;rw[this];exact aH λs hs=>by rw[<- e3 s hs c];exact cX _ _
theorem MV {V:Nat} {f:Nat->Rat}:∀{k:Nat},(∀j,j < k->Fr 1 V (f j))->Fr 1 (k*V) (bo k f)
 | 0,_=>Fr.zero
 | k+1,h=>by
  rw[dM];exact (MV λj hj=>h j (by lia)).add (h k (by lia))
theorem xx {f:Nat->Rat} {a:Nat}:∀{b:Nat},bo (a+b) f=bo a f+bo b λt=>f (a+t)
 | 0=>by show bo a f=bo a f+0;grind
 | b+1=>by
  show bo (a+b) f+f (a+b)=_+(bo b _+f (a+b))
  rw[xx];grind
end
section
variable {rows R R1 R2 mv pt:LR9} {n t t2 a c:Nat} {ps ps1 ps2:List Nat}
theorem vA (RR:bI rows n R ps):bI R n R ps:=⟨RR.1,RR.2.1,RR.2.2.other (λi hi=>by rw[RR.1];exact RR.2.2.span i hi) (λi hi=>RR.2.2.back i (by rw[<- RR.1];exact hi))⟩
theorem Oa (RR:bI rows n R ps) (e:ps.length=n) {i:Nat} (hi:i < n) (c:Nat):bU R i c=if c=i then 1 else 0:=by
 have lo:∀j,j < n->j<=ps.getD j 0:=by
  intro j
  induction j with
  | zero=>intro _;exact bu _
  | succ j ih =>
   intro hj;have:=ih (by lia);have:=RR.2.2.inc j (j+1) (by lia) (by lia)
   lia
 have hi2:∀s j,j+s+1=n->ps.getD j 0<=j:=by
  intro s
  induction s with
  | zero =>
   intro j hj;have:=RR.2.2.low j (by lia)
   lia
  | succ s ih =>
   intro j hj;have:=ih (j+1) (by lia);have:=RR.2.2.inc j (j+1) (by lia) (by lia)
   lia
 have ep:∀j,j < n->ps.getD j 0=j:=λj hj=>NG (hi2 (n - 1 - j) j (by lia)) (lo j hj)
 by_cases hc:c < n
 ·have:=RR.2.2.unit i (by lia) c (by lia);rw[ep c hc] at this;rw[this];by_cases z:i=c
  ·rw[if_pos z,if_pos z.symm]
  ·rw[if_neg z,if_neg (Ne.symm z)]
 ·rw[yf RR.2.1 (by lia),if_neg (by lia)]
theorem zQ {M W:Nat} (h:∀i,i < rows.length->∀c,Tp M W (bU rows i c)):∀xs∈rows,∀x∈xs,Tp M W x:=λxs hx x hx'=>by
 obtain ⟨i,hi,rfl⟩:=bO hx;obtain ⟨c,hc,rfl⟩:=bO hx';have:=h i hi c;unfold bU at this;rw[aa (l:=rows),af hi] at this;have e:(some rows[i]).getD []=rows[i]:=rfl;rw[e,aa,af hc] at this;exact this
theorem iM.vb (F:iM mv pt a c) (wm:∀xs∈mv,xs.length=mv.length) (wp:∀xs∈pt,xs.length=mv.length) (ht:t<=ps.length) (RR:bI (kry mv pt t) mv.length R ps):∃Pm Z d w,Vb ps.length mv.length Pm (bU R) Z d (2^w)/\(ps.length < mv.length/\w=(mv.length - 1)*(a+c)\/ps.length=mv.length/\w=0):=by
 have le:=RR.le;rcases b9 ps.length mv.length with z | z
 ·obtain ⟨M,V,M0,Ma,hV,fm,fp,_⟩:=F;have f:=Jf rfl wm wp hV fm fp t
  obtain ⟨Pm,Z,d,vb⟩:=Vb.of (fD rfl wp t) (cV (n:=(mv.length - 1)*(a+c))) (dS M0 (n:=t)) (λxs hx x hx'=>Tp.of (f xs hx x hx') (by
   refine ai (aM _ (iD Ma t)) ?_;rw[<- qW,<- a8];refine ax (by decide) ?_;rw[<- xl,bZ,kJ c];exact az _ (by lia))) RR
  exact ⟨Pm,Z,d,_,vb,.inl ⟨z,rfl⟩⟩
 ·have e:ps.length=mv.length:=by lia
  obtain ⟨Pm,Z,d,vb⟩:=Vb.of (W:=2^0) (M:=1) RR.2.1 (by decide) (by decide) (zQ λi hi c=>by
   rw[RR.1,e] at hi;rw[Oa RR e hi c]
   split
   ·exact ⟨1,by rw[Ny];rfl,by decide⟩
   ·exact ⟨0,by rw[iU];rfl,by decide⟩) (vA RR)
  exact ⟨Pm,Z,d,0,vb,.inr ⟨e,rfl⟩⟩
end
section
variable {K:FG9} {a:Addr} {xs:List V} {g:TG} {tf:TT} {te:TE} {Q:VK} {σ₀:St} {H:Hp} {α β:Type}
theorem DI {as:List α} {F:Hp->α->V->Prop} (G:Hp->β->V->Prop) (f:α->β) (hx:H a=some (.lst xs)) (pf:Paired (F H) as xs) (hl:as.length<=1000)
  (hF:∀{H H' c x},F H c x->aL H H'->F H' c x) (hG:∀{H H' c x},G H c x->aL H H'->G H' c x) (hA:∀{H' c x},G H' c x->∃q,x=V.ref q/\H' q≠none)
  (hs:∀(i:Nat) c x H' NY NN,as[i]?=some c->aL H H'->F H' c x->(∀y H2,aL H' H2->G H2 (f c) y->(∃q,y=V.ref q/\H' q=none)->NY y H2)->rk σ₀ g tf te x H' NY NN)
  (hd:∀ys H' p,H p=none->aL H H'->H' p=some (.lst ys)->ys.Nodup->(∀y∈ys,∃q,y=V.ref q/\H q=none/\q≠p)->Paired (G H') (as.map f) ys->Q (.ref p) H'):tu (O9 K a) σ₀ g tf te Q H:=by
 have lx:=pf.length;refine fu (K:=K) (xs:=xs) (λi ys H'=>aL H H'/\ys.Nodup/\(∀y∈ys,∃q,y=V.ref q/\H q=none)/\Paired (G H') ((as.take i).map f) ys) (aU (bF (by lia))) ⟨aL.refl _,nD,(λ_ z=>nomatch z),.nil⟩ (λi ys H' _ ⟨s,_⟩=>bR.of (s _ _ hx)) ?_ ?_
 ·rintro i x ys H' hx' hlen ⟨s,nd,hn,pr⟩;obtain ⟨c,ec,hc⟩:=b8 pf hx';refine hs i c x H' _ _ ec s (hF hc s) λy H2 s2 gy ⟨q,ey,nq⟩=>⟨s.trans s2,pW nd (λz=>?_),Fw hn ⟨q,ey,s.none nq⟩,?_⟩
  ·obtain ⟨c',_,gc⟩:=dh pr z;obtain ⟨q',e',h'⟩:=hA gc;rw[ey] at e';cases e';exact h' nq
  ·rw[take_snoc ec,cg];exact bT (Paired.imp' (λ_ _ z=>hG z s2) pr) (.cons gy .nil)
 ·rintro ys H' hy ⟨s,nd,hn,pr⟩ p hp;rw[aI (by lia)] at pr;refine hd ys _ p (s.none hp) (s.trans (aL.new hp)) aO nd (λy hy=>?_) (Paired.imp' (λ_ _ z=>hG z (aL.new hp)) pr);obtain ⟨q,e,nq⟩:=hn y hy;refine ⟨q,e,nq,λz=>?_⟩;obtain ⟨c',_,gc⟩:=dh pr hy;obtain ⟨q',e',h'⟩:=hA gc;rw[e] at e';cases e';exact h' (by rw[z];exact hp)
end
structure TR (K:FG9) (H0 H:Hp) (n:Nat) (fd:Addr) (L:List (Addr×List V)):Prop where
 gf:H fd=some (.lst (L.map λe=>V.ref e.1))
 nf:H0 fd=none
 ls:∀e∈L,H0 e.1=none/\e.1≠fd/\H e.1=some (.lst e.2)
 nd:(L.map λe=>e.1).Nodup
 rows:∀e∈L,∀x∈e.2,fX K (λq=>(H0 q=none/\q≠fd)/\q∉L.map λe=>e.1) H n (Fr 1 1) x
 rd:(L.flatMap λe=>e.2).Nodup
section
variable {K:FG9} {H0 H H1:Hp} {n:Nat} {fd q:Addr} {L:List (Addr×List V)} {us:List V}
theorem TR.snoc (h:TR K H0 H n fd L) (s0:aL H0 H) (s:aL H H1) (hq:H q=none) (gq:H1 q=some (.lst us)) (nd:us.Nodup) (hr:∀x∈us,fX K (λz=>H z=none/\z≠q) H1 n (Fr 1 1) x):TR K H0 (upd H1 fd (.lst ((L.map λe=>V.ref e.1)++[.ref q]))) n fd (L++[(q,us)]):=by
 have qf:q≠fd:=λz=>by rw[z,h.gf] at hq;cases hq
 have old:∀{z},z∈(L.map λe=>e.1)->H z≠none:=λhz=>by
  obtain ⟨e,he,rfl⟩:=aE.mp hz;rw[(h.ls e he).2.2];exact λz=>nomatch z
 have g1:=s _ _ h.gf;refine ⟨by rw[aO,cg];rfl,h.nf,λe he=>?_,?_,λe he x hx=>?_,?_⟩
 ·rcases aA.mp he with he | he
  ·obtain ⟨a,b,c⟩:=h.ls e he;exact ⟨a,b,by rw[bM b];exact s _ _ c⟩
  ·rw[bS.mp he];exact ⟨s0.none hq,qf,by rw[bM qf];exact gq⟩
 ·rw[cg];exact pW h.nd λz=>old z hq
 ·have key:fX K (λz=>(H0 z=none/\z≠fd)/\z∉(L++[(q,us)]).map λe=>e.1) H1 n (Fr 1 1) x:=by
   rcases aA.mp he with he | he
   ·obtain ⟨z,qs,e1,⟨e2,e3⟩,e4,e5⟩:=h.rows e he x hx;refine ⟨z,qs,e1,⟨e2,λhz=>?_⟩,e4.same s,e5⟩;rw[cg] at hz;rcases aA.mp hz with hz | hz
    ·exact e3 hz
    ·have hz:z=q:=bS.mp hz;obtain ⟨_,gg,_⟩:=e4;rw[hz,hq] at gg;cases gg
   ·rw[bS.mp he] at hx;refine (hr x hx).weak (λz hz=>⟨⟨s0.none hz.1,λy=>by rw[y] at hz;rw[h.gf] at hz;exact absurd hz.1 (λw=>nomatch w)⟩,λy=>?_⟩) (λ_ w=>w);rw[cg] at y;rcases aA.mp y with y | y
    ·exact old y hz.1
    ·exact hz.2 (bS.mp y)
  exact key.other g1 (λz=>z.1.2 rfl)
 ·rw[List.flatMap_append];refine dU.mpr ⟨h.rd,by simpa using nd,λx hx y hy z=>?_⟩;obtain ⟨e,he,hx⟩:=List.mem_flatMap.mp hx;obtain ⟨w,qs,e1,_,⟨_,gg,_⟩,_⟩:=h.rows e he x hx;obtain ⟨w',_,e1',⟨hw,_⟩,_⟩:=hr y (by simpa using hy);rw[<- z,e1] at e1';cases e1';rw[hw] at gg;cases gg
end
def Gd (mv pt:LR9) (i:Nat) (R:LR9) (ps:List Nat):Prop:=bI (kry mv pt i) mv.length R ps/\∃t,t<=ps.length/\t<=i/\bI (kry mv pt t) mv.length R ps/\(t=i\/∀s,bI (kry mv pt (t+s)) mv.length R ps)
section
variable {mv pt R R':LR9} {i:Nat} {ps ps':List Nat}
theorem Gd.start:Gd mv pt 0 [] []:=⟨IG,0,ak _,ak _,IG,.inl rfl⟩
theorem L6 (wm:∀xs∈mv,xs.length=mv.length) (wp:∀xs∈pt,xs.length=mv.length) (h:bI (kry mv pt i) mv.length R ps) (h':bI (kry mv pt (i+1)) mv.length R' ps') (e:ps'.length=ps.length):∀s,bI (kry mv pt (i+s)) mv.length R ps:=Dq rfl wm wp h (Hw rfl wm wp h h') e
theorem Gd.step (wm:∀xs∈mv,xs.length=mv.length) (wp:∀xs∈pt,xs.length=mv.length) (h:Gd mv pt i R ps) (h':bI (kry mv pt (i+1)) mv.length R' ps'):Gd mv pt (i+1) R' ps'/\(mv.length<=i->R'=R):=by
 obtain ⟨h0,t,t1,t2,ht,hs⟩:=h
 have st:(∀s,bI (kry mv pt (t+s)) mv.length R ps)->Gd mv pt (i+1) R' ps'/\(mv.length<=i->R'=R):=λhs=>by
  have:=hs (i+1 - t);rw[show t+(i+1 - t)=i+1 by lia] at this;obtain ⟨rfl,rfl⟩:=this.same h';exact ⟨⟨h',t,t1,by lia,ht,.inr hs⟩,λ_=>rfl⟩
 rcases hs with rfl | hs
 ·have gr:=Hv rfl wm wp h0 h';by_cases e:ps'.length=ps.length
  ·exact st (L6 wm wp h0 h' e)
  ·refine ⟨⟨h',t+1,by lia,ak _,h',.inl rfl⟩,λhn=>?_⟩;have:=h'.le
   lia
 ·exact st hs
theorem Gd.late (h:Gd mv pt i R ps) (hi:mv.length < i) {j:Nat} (hj:mv.length<=j):bI (kry mv pt j) mv.length R ps:=by
 obtain ⟨h0,t,t1,t2,ht,hs⟩:=h;have le:=h0.le;rcases hs with rfl | hs
 ·lia
 ·have:=hs (j - t);rwa [show t+(j - t)=j by lia] at this
end
theorem L0:typeLookup (.type "list_reverseiterator") "__len__"=pure none:=by
 rw[typeLookup_type,builtinLookup_eq_fast]
 kernel_rfl
theorem N7:typeLookup (.type "list_reverseiterator") "__length_hint__"=pure (some (.builtin "list_reverseiterator.__length_hint__")):=by
 rw[typeLookup_type,builtinLookup_eq_fast]
 kernel_rfl
section
variable {prog:Program} {w:World} {A:Around} {E:Value->Shared->Prop} {s:Shared}
theorem N2 {it l:Addr} {i:Int} {Q:Bool->Shared->Prop} (hit:s.heap.IsRevIter it l i) (q:Q false s):wpAny (model prog w) A (Builtin.List.listLengthHint (.ref it)) Q E s:=by
 unfold Builtin.List.listLengthHint;refine wpAny_bind (wpAny_specialOf hit.typeIs L0 ?_);show wpAny _ A (specialOf (Value.ref it) (Str.ofString "__length_hint__") >>= _) Q E s
 refine wpAny_bind (wpAny_specialOf hit.typeIs N7 ?_);generalize hid:("list_reverseiterator.__length_hint__":String)=id0
 dsimp only
 rw[show splitId id0=some ("list_reverseiterator","__length_hint__") from by subst hid;decide +kernel];subst hid;refine wpAny_bind (wpAny_isInstance (T:="list_reverseiterator") (b:=true) hit.typeIs (by rw[isSubtype_type];kernel_rfl) ?_);refine wpAny_ite_split (λz=>absurd z (by decide)) (λ_=>?_);refine wpAny_ite_split (λ_=>?_) (λz=>absurd (by decide +kernel) z);exact wpAny_ite_split (λz=>absurd z (by decide +kernel)) (λ_=>wpAny_pure q)
theorem N9 {R:Result->Shared->Prop} {I l S:Addr} {items:Array Value} {res:Value} {c0:Nat} (hh:A.handled=none) (hit:s.heap.IsRevIter I l ((items.size:Int) - 1)) (hl:s.heap.IsList l items) (nI:l≠I) (nS:S≠I) (nL:S≠l) (hn:items.size<=sizeLine) (hS:s.heap.get? S=some { cls:=.type "list",data:=.seq #[] c0 })
  (hR:∀h' tk acc c,(∀b o,b≠S->b≠I->s.heap.get? b=some o->h'.get? b=some o)->h'.get? S=some { cls:=.type "list",data:=.seq acc c }->ItemsOf (λi v=>items[items.size - 1 - i]?=some v) acc items.size->R (.ok (.ret res)) { s with heap:=h',toks:=tk }) :
  wpAny (model prog w) A.in1 (Builtin.List.listExtendWith (.ref S) (.ref I) res) (λfin s2=>match fin with | .done f=>R (.ok f) s2 | .again c=>c.quiet=true/\codeAny (model prog w) A c R s2) (λe s2=>R (.error e) s2) s:=by
 have W:=(Walks.listRev (prog:=prog) (w:=w) (A:=A.in1) hh I l nI items).toS;unfold Builtin.List.listExtendWith;refine wpAny_bind (wpAny_typeOf hit.typeIs ?_);rw[if_neg (by simp [Builtin.List.listSameRef,nS])];refine wpAny_bind (wpAny_pyIter_revIter hit ?_);refine wpAny_bind (wpAny_holding (N2 hit ?_));refine wpAny_ite_split (λz=>absurd z (by decide +kernel)) (λ_=>?_);have h0:s.heap.IsRevIter I l ((items.size:Int) - 1 - ((0:Nat):Int)):=by simpa using hit
 refine wpAny_pure ⟨plainId_quiet F.plain_extend_loop _,codeAny_extend_loopS W hn S (by simp [nS,nL]) res items.size 0 s #[] c0 rfl (bu _) ⟨bu _,h0,hl⟩ hS (ItemsOf.nil _) λs2 acc c hm h2 hi=>?_⟩;rw[Moved.eq_with hm];exact hR s2.heap s2.toks acc c (λb o n1 n2 e=>hm.heap b o (by simp [n1,n2]) e) h2 hi
theorem N3 {Q : Value → Shared → Prop} {I l : Addr} {items : Array Value} (hh : A.handled = none) (hit : s.heap.IsRevIter I l ((items.size : Int) - 1)) (hl : s.heap.IsList l items) (nI : l ≠ I) (hn : items.size ≤ sizeLine)
    (hQ : ∀ h' tk acc c, (∀ b o, b ≠ I → s.heap.get? b = some o → h'.get? b = some o) → h'.get? s.heap.objs.size = some { cls := .type "list", data := .seq acc c } → ItemsOf (λi v => items[items.size - 1 - i]? = some v) acc items.size → Q (.ref s.heap.objs.size) { s with heap := h', toks := tk }) :
    wpAny (model prog w) A (call (.type "list") [.ref I]) Q E s := by
  refine callType_codes (Q₁ := λx s2 => x = .ref s.heap.objs.size /\ s2 = { s with heap := s.heap.push { cls := .type "list", data := .seq #[] } }) F.called_list (F.typeCall_list_1 _) F.entry_list_init (code_list_new _ ⟨rfl, rfl⟩) λx s2 hx => ?_
  obtain ⟨rfl, rfl⟩ := hx;have up : ∀ b o, s.heap.get? b = some o → (s.heap.push { cls := .type "list", data := .seq #[] }).get? b = some o := λb o e => Heap.get?_push_of_some _ e
  have hS : (s.heap.push { cls := .type "list", data := .seq #[] }).get? s.heap.objs.size = some { cls := .type "list", data := .seq #[] } := Heap.get?_push_size _ rfl
  have lI : I ≠ s.heap.objs.size := by
    obtain ⟨o, ho, _⟩ := hit;exact cu (Heap.lt_size ho)
  have lL : l ≠ s.heap.objs.size := by
    obtain ⟨o, ho, _⟩ := hl;exact cu (Heap.lt_size ho)
  refine ⟨⟨_, hS, rfl⟩, F.args_list_init_2 _ _, ?_⟩;show wpAny _ A.in1.in1 (do let old <- Builtin.List.listItems (.ref s.heap.objs.size); Builtin.List.listUpdate (.ref s.heap.objs.size) (λ_ => #[]); letGo old.toList.reverse; Builtin.List.listExtendWith (.ref s.heap.objs.size) (.ref I) .none) _ _ _
  refine wpAny_bind ?_;unfold Builtin.List.listItems;refine wpAny_bind (wpAny_seqItems hS rfl (wpAny_pure ?_));refine wpAny_bind (m := Builtin.List.listUpdate (.ref s.heap.objs.size) (λ_ => #[])) (wpAny_updateSeq hS rfl ?_);have h3 := Heap.get?_update_self (Obj.mapSeq (λ_ => (#[] : Array Value))) hS rfl;have o3 : ∀ b o, b ≠ s.heap.objs.size → (s.heap.push { cls := .type "list", data := .seq #[] }).get? b = some o → ((s.heap.push { cls := .type "list", data := .seq #[] }).update s.heap.objs.size (Obj.mapSeq (λ_ => (#[] : Array Value)))).get? b = some o := λb o nb e => (Heap.get?_update_other _ _ (Ne.symm nb)).trans e
  refine wpAny_bind (wpAny_letGo ?_);refine N9 (A := A.in1) hh (hit.at λo e => o3 _ _ lI (up _ _ e)) (hl.at λo e => o3 _ _ lL (up _ _ e)) nI lI.symm lL.symm hn h3 λh' tk acc c hk h2 hi => ?_
  exact ⟨rfl, hQ h' tk acc c (λb o nb e => hk b o (cu (Heap.lt_size e)) nb (o3 _ _ (cu (Heap.lt_size e)) (up _ _ e))) h2 hi⟩
end
section
variable {X:Cx}
def FP (K:FG9) (ta:TA):TE:=λσ H Q=>ta σ H λvs H1=>∃l xs,vs=[.ref l]/\bR K H1 l xs/\xs.length<=1000/\∀L H',aL H1 H'->H1 L=none->H' L=some (.lst xs.reverse)->Q (.ref L) H'
theorem FJ:∀{xs:List V} {us:List Value},cZ xs us->cZ xs.reverse us.reverse
 | _,_,.nil=>.nil
 | _,_,.cons h r=>by
  rw[xm,xm];exact cZ.append (FJ r) (.cons h .nil)
theorem IQ (K:FG9) {e1:Expr} {ta:TA} {p p2 pos pos2:Pos} (hg:Gl X "list") (hm:X.mg "list"=none) (hg2:Gl X "reversed") (hm2:X.mg "reversed"=none) (ha:PA X [e1] ta) (hK:X.K=K:=by rfl) (hc:X.calm=true:=by rfl)
  (hs:starEach [e1] X.env=[(false,eval e1 X.env)]:=by rfl)
  (hs3:starEach [Expr.Call (.Name "reversed" p2) [e1] [] pos2] X.env=[(false,eval (.Call (.Name "reversed" p2) [e1] [] pos2) X.env)]:=by rfl) :
  PE X (.Call (.Name "list" p) [.Call (.Name "reversed" p2) [e1] [] pos2] [] pos) (FP K ta):=by
 subst hK;sleep 4;refine wpAny_Call_Name_kw (kh I hg hm boot_list ?_);refine PyProof.Rows.callWith_type1 ?_ (by rw[hs3];rfl) rfl;rw[hs3];show wpAny _ _ (spliced ((false,eval (.Call (.Name "reversed" p2) [e1] [] pos2) X.env) :: [])) _ _ s
 refine Calls.spliced_cons ?_;refine Call_ (kh I hg2 hm2 boot_reversed (PyProof.Rows.callWith_type1 (gU (ha pos2 pins s σ H _ I h) λus s1 ⟨vs,H1,I1,r1,q1⟩=>?_) hs rfl));obtain ⟨l,xs,e,hl,hn,q⟩:=q1;subst e;obtain ⟨u,rfl,ru⟩:=vals1 r1;cases ru;obtain ⟨its,rv,pl,hz⟩:=I1.list hl;have hlen:=rv.length;have pI:=pl.isList;refine call_reversed_list pI ?_;refine Calls.spliced_nil ?_;have kp:∀b o,s1.heap.get? b=some o->(s1.heap.push (revObj l ((its.toArray.size:Int) - 1))).get? b=some o:=λb o e=>Heap.get?_push_of_some _ e
 have nI:l≠s1.heap.objs.size:=by
  obtain ⟨o,ho,_⟩:=pI;exact cu (Heap.lt_size ho)
 refine N3 (I.ok.hd hc) (I:=s1.heap.objs.size) (l:=l) (items:=its.toArray) ⟨_,Heap.get?_push_size _ rfl,rfl,rfl⟩ (pI.at λo e=>kp _ _ e) nI (by rw[aY];lia) λh' tk acc c hk hS hacc=>?_
 have sz:s1.heap.objs.size<=(s1.heap.push (revObj l ((its.toArray.size:Int) - 1))).objs.size:=by rw[Heap.size_push];exact mN _
 have nS:=I1.hok.fresh sz
 have ea:acc.toList=its.reverse:=by
  apply ib;intro j;rcases b9 j its.length with z | z
  ·have hj:j < acc.toList.length:=by rw[Array.length_toList,hacc.1,aY];exact z
   have:=hacc.2 j acc.toList[j] (by rw[<- Array.getElem?_toList];exact af hj);rw[af hj,List.getElem?_reverse z];simpa using this.symm
  ·rw[aV (by rw[Array.length_toList,hacc.1,aY];exact z),aV (by rw[kW];exact z)]
 have vs':cZ xs.reverse acc.toList:=by rw[ea];exact FJ rv
 have sl:xs.reverse.length<=sizeLine:=by rw[kW];exact hz
 refine ⟨.ref _,_,I1.laid (o:=.lst xs.reverse) (λb o e=>hk b o (cu (Heap.lt_size e)) (kp b o e)) sz ?_,rfl,q _ _ (aL.new nS) nS aO⟩;exact ⟨sl,acc.toList,c,vs',by simpa using hS⟩
end
theorem Hq {F G:List gZ->Rat} {r:Nat} {g:Nat->Rat} {c:Rat} (hF:∀ws:List gZ,F (ws.map λv i=>g i*v i)=c*G ws):∀(post pre:List gZ) (s:Rat),zC F r (pre.map λv i=>g i*v i) (post.map λv i=>g i*v i) s=g r*c*zC G r pre post s
 | [],_,_=>by show (0:Rat)=_*0;grind
 | v :: post,pre,s=>by
  have i1:=hF (pre++post);have i2:=Hq (r:=r) hF post (pre++[v]) (-s);simp only[cg,gI,Kz,zC] at i1 i2 ⊢;rw[i1,i2];grind
theorem vV {g : Nat → Rat} : ∀ (rs : List Nat) (vs : List gZ), iL rs (vs.map λv i => g i * v i) = (rs.map g).foldr (· * ·) 1 * iL rs vs
  | [], [] => by show (1 : Rat) = 1 * 1; grind
  | [], _ :: _ => by show (0 : Rat) = 1 * 0; grind
  | r :: rs, vs => by
    have := Hq (r := r) (F := λws => iL rs ws) (G := λws => iL rs ws) (c := (rs.map g).foldr (· * ·) 1) (λws => vV rs ws) vs [] 1;exact this
theorem EK {g:Nat->Rat}:∀{rs:List Nat},(∀r∈rs,g r≠0)->(rs.map g).foldr (·*·) 1≠0
 | [],_=>by show (1:Rat)≠0;decide
 | r :: rs,h=>by
  show g r*_≠0
  have h1:=h r (.head _);have h2:=EK λr' hr'=>h r' (.tail _ hr')
  intro z;rcases BO.mp z with z | z
  ·exact h1 z
  ·exact h2 z
section
variable {rows R X K0:LR9} {due L:List Rat} {n m M W D E W0 W1:Nat} {ps:List Nat}
theorem DH (hw:∀xs∈rows,xs.length=n) (hW:1<=W) (h0:0 < M) (h3:∀xs∈rows,∀x∈xs,Tp M W x) (RR:bI rows n R ps):∃pm:Nat->Nat,(∀i j,i < ps.length->j < ps.length->pm i=pm j->i=j)/\(∀t,t < ps.length->pm t < rows.length)/\ps.length<=rows.length/\iL (jW pm ps.length) (iu (λj i=>bU rows i (ps.getD j 0)) ps.length)≠0:=by
 have ent:=LI h0 h3;obtain ⟨ls,ps2,d,I⟩:=xu hw hW (by rw[aj];exact ent) n (ak _);obtain ⟨_,_,⟨pm,B⟩,E⟩:=I;rw[aj] at B E
 have RF:Fz rows.length n (bU rows) ps2.length (λj=>ps2.getD j 0) (λi c=>fq ls i c / d):=Fz.other (E.done λi hi c hc=>yg (n:=n) (λzs hz=>by
  obtain ⟨xs,hx,rfl⟩:=aE.mp hz;rw[rj];exact hw xs hx) hc) Ef Eg
 obtain ⟨e1,e2,e3⟩:=RF.uniq RR.2.2 (λ_ hi=>eT.row hi) (λ_ hi=>eT.row hi);have km:=B.km;have dt:=B.det;have d0:=B.d0
 have e4:iL (jW pm ps2.length) ([]++iu (λj r=>fq (rows.map jV) r (ps2.getD j 0)) ps2.length)=iL (jW pm ps2.length) ([]++iu (λj i=>Nq rows i*bU rows i (ps.getD j 0)) ps2.length):=Fn [] λj hj r hr=>by
  obtain ⟨t,ht,rfl⟩:=k9 hr;rw[FH (B.rng t (by lia)),e2 j hj];rfl
 have e5:iu (λj i=>Nq rows i*bU rows i (ps.getD j 0)) ps2.length=(iu (λj i=>bU rows i (ps.getD j 0)) ps2.length).map λv i=>Nq rows i*v i:=(cw_map (τ:=λv i=>Nq rows i*v i)).symm
 refine ⟨pm,λi j hi hj e=>B.inj i j (by lia) (by lia) e,λt ht=>B.rng t (by lia),by lia,?_⟩;rw[<- e1];intro z;apply d0;rw[dt];have e4:iL (jW pm ps2.length) (iu (λj r=>fq (rows.map jV) r (ps2.getD j 0)) ps2.length)=iL (jW pm ps2.length) (iu (λj i=>Nq rows i*bU rows i (ps.getD j 0)) ps2.length):=e4;rw[e4,e5,vV,z,dJ]
theorem Pn (hd:due.length=X.length) (hw:∀xs∈X,xs.length=n) (RR:bI (c5 X due) (n+1) R ps) (hn:n∉ps) {i:Nat} (hi:i < X.length):due.getD i 0=bo ps.length λj=>bU R j n*bU X i (ps.getD j 0):=by
 obtain ⟨j1,j2⟩:=yx hd hw hi;have sp:=RR.2.2.span i (by rw[oA hd];exact hi);have:=RR.2.2.coef sp n;rw[<- j2,this];refine aH λj hj=>?_
 have lo:=RR.2.2.low j hj;have ne:ps.getD j 0≠n:=λz=>hn (by rw[<- z];exact getD_in hj)
 rw[j1 _ (by lia)];exact cX _ _
theorem JN (RR:bI X (n+1) R ps) {y:Rat} (hy:y∈gB R ps n):y=0\/∃j,j < ps.length/\y=bU R j n:=by
 obtain ⟨c,hc,rfl⟩:=bO hy;have lc:(gB R ps n).length=n:=jZ;have e:(gB R ps n)[c]=(gB R ps n).getD c 0:=by rw[aa,af hc];rfl
 rw[e];by_cases hp:c∈ps
 ·obtain ⟨j,hj,ej⟩:=bO hp
  right
  refine ⟨j,hj,?_⟩;have ej':ps.getD j 0=c:=by rw[aa,af hj];exact ej
  have:=LW (R:=R) (ps:=ps) (n:=n) (j:=ps.length) (c:=c) (by lia);unfold gB;rw[this,eU hj λi hi ne=>if_neg λz=>?_,if_pos ej'];rcases b9 i j with y | y
  ·have:=RR.2.2.inc i j y hj
   lia
  ·have:=RR.2.2.inc j i (by lia) hi
   lia
 ·exact .inl (NW hp)
theorem Jp {N Wx:Nat} {rs:List Nat} {vs:List gZ} (hl:vs.length<=N) (h:∀v∈vs,∀r∈rs,Fr 1 Wx (v r)):∃z:Int,iL rs vs=(z:Rat)/\z.natAbs<=(N*Wx)^rs.length:=by
 have f:=Bi hl h;obtain ⟨z,ez⟩:=zP f;rw[ez] at f;exact ⟨z,ez,ye f⟩
theorem NT {e:Nat} (he:ps.length<=n->ps.length<=e) (hK:∀xs∈K0,xs.length=n) (hL:L.length=n) (n15:n<=15) (D0:0 < D) (E0:0 < E) (w0:1<=W0) (w1:1<=W1) (tk:∀xs∈K0,∀x∈xs,Tp D W0 x) (tl:∀x∈L,Tp E W1 x) (RR:bI (c5 (cS K0 n) L) (K0.length+1) R ps) (hn:K0.length∉ps) :
  ∃q:Nat,0 < q/\q<=(16*W0)^e/\∀y∈gB R ps K0.length,Tp (E*q) (D*(n*(W1*(16*W0)^e))) y:=by
 have lt:(cS K0 n).length=n:=dj;have wt:∀xs∈cS K0 n,xs.length=K0.length:=jc;have hd:L.length=(cS K0 n).length:=by rw[lt];exact hL
 have tfn:∀i,i < n->∀j,bU (cS K0 n) i j=bU K0 j i:=λi hi j=>by
  unfold bU;rw[aa (l:=cS K0 n),vn hi];show (K0.map λxs=>xs.getD i 0).getD j 0=_
  rw[aa,aG,aa (l:=K0)];cases K0[j]? with
  | none=>show (0:Rat)=([]:List Rat).getD i 0;rw[aa];rfl
  | some xs=>rfl
 have tkf:∀j i,Tp D W0 (bU K0 j i):=λj i=>by
  unfold bU;rw[aa (l:=K0)];by_cases hj:j < K0.length
  ·rw[af hj];exact kr (tk _ (aJ hj)) i
  ·rw[aV (by lia)];show Tp D W0 (([]:List Rat).getD i 0)
   exact kr (by intro x z;cases z) i
 have tlf:∀i,Tp E W1 (L.getD i 0):=λi=>kr tl i
 have tj:∀xs∈c5 (cS K0 n) L,∀x∈xs,Tp (D*E) (W0*E+W1*D) x:=zQ λi hi c=>by
  rw[oA hd,lt] at hi;obtain ⟨j1,j2⟩:=yx hd wt (by rw[lt];exact hi);by_cases hc:c < K0.length
  ·rw[j1 c hc,tfn i hi];obtain ⟨z,ee,b⟩:=tkf c i;exact ⟨z*E,by rw[eY,be,<- ee,aT];grind,by rw[dg,cw];exact ai (az _ b) (zv _ _)⟩
  ·by_cases hc2:c=K0.length
   ·rw[hc2,j2];obtain ⟨z,ee,b⟩:=tlf i;exact ⟨z*D,by rw[eY,be,<- ee,aT];grind,by rw[dg,cw];exact ai (az _ b) (Nat.le_add_left _ _)⟩
   ·rw[yf (vS wt) (by lia)];exact ⟨0,by rw[iU];rfl,bu _⟩
 obtain ⟨pm,pinj,plt,kn,dne⟩:=DH (vS wt) (W:=W0*E+W1*D) (ai (bQ w0 E0) (zv _ _)) (bQ D0 E0) tj RR;rw[oA hd,lt] at plt kn
 have pl:∀j,j < ps.length->ps.getD j 0 < K0.length:=λj hj=>by
  have lo:=RR.2.2.low j hj;have ne:ps.getD j 0≠K0.length:=λz=>hn (by rw[<- z];exact getD_in hj)
  lia
 have Dne:(D:Rat)≠0:=λz=>by
  have:((D:Int):Rat)=0:=by rw[aT];exact z
  have:=sV this
  lia
 have Ene:(E:Rat)≠0:=λz=>by
  have:((E:Int):Rat)=0:=by rw[aT];exact z
  have:=sV this
  lia
 have rlt:∀r∈jW pm ps.length,r < n:=λr hr=>by
  obtain ⟨t,ht,rfl⟩:=k9 hr;exact plt t ht
 obtain ⟨v,ev⟩:∃v:Nat->gZ,v=λj i=>(D:Rat)*bU K0 (ps.getD j 0) i:=⟨_,rfl⟩
 have vint:∀j r,Fr 1 W0 (v j r):=λj r=>by
  obtain ⟨z,ee,b⟩:=tkf (ps.getD j 0) r;rw[ev];show Fr 1 W0 ((D:Rat)*_)
  rw[cX,ee];exact Fr.int b
 have den:iL (jW pm ps.length) (iu v ps.length)≠0:=by
  have e1:iL (jW pm ps.length) ([]++iu v ps.length)=iL (jW pm ps.length) ([]++iu (λj i=>(D:Rat)*bU (c5 (cS K0 n) L) i (ps.getD j 0)) ps.length):=Fn [] λj hj r hr=>by
   have hr:=rlt r hr;obtain ⟨j1,_⟩:=yx hd wt (i:=r) (by rw[lt];exact hr);rw[j1 _ (pl j hj),tfn r hr,ev]
  have e2:iu (λj i=>(D:Rat)*bU (c5 (cS K0 n) L) i (ps.getD j 0)) ps.length=(iu (λj i=>bU (c5 (cS K0 n) L) i (ps.getD j 0)) ps.length).map λv i=>(λ_=>(D:Rat)) i*v i:=(cw_map (τ:=λv i=>(D:Rat)*v i)).symm
  have e1:iL (jW pm ps.length) (iu v ps.length)=iL (jW pm ps.length) (iu (λj i=>(D:Rat)*bU (c5 (cS K0 n) L) i (ps.getD j 0)) ps.length):=e1;rw[e1,e2,vV];intro z;rcases BO.mp z with z | z
  ·exact EK (g:=λ_=>(D:Rat)) (λ_ _=>Dne) z
  ·exact dne z
 obtain ⟨q,eq,bq⟩:=Jp (N:=16) (Wx:=W0) (rs:=jW pm ps.length) (vs:=iu v ps.length) (by rw[cw_len];lia) λw hw r _=>by
  obtain ⟨t,_,rfl⟩:=cw_in hw;exact vint t r
 rw[pQ] at bq;have up:(16*W0)^ps.length<=(16*W0)^e:=ax (by lia) (he kn);have q0:q≠0:=λz=>den (by rw[eq,z];rfl)
 refine ⟨q.natAbs,by lia,ai bq up,λy hy=>?_⟩;rcases JN RR hy with rfl | ⟨i,hi,rfl⟩
 ·exact ⟨0,by rw[iU];rfl,bu _⟩
 ·have hW:∀r∈jW pm ps.length,(E:Rat)*L.getD r 0=bo ps.length λj=>((E:Rat)*bU R j K0.length / D)*v j r:=λr hr=>by
   have hr:=rlt r hr;rw[Pn hd wt RR hn (i:=r) (by rw[lt];exact hr),<- bV];refine aH λj hj=>?_
   rw[tfn r hr,ev]
   dsimp only
   grind
  have cr:=tH (v:=v) (c:=λj=>(E:Rat)*bU R j K0.length / D) (W:=λr=>(E:Rat)*L.getD r 0) hi hW
  have ex:iL (jW pm ps.length) (Ii v i ps.length++(λr=>(E:Rat)*L.getD r 0) :: iu v i)=bo ps.length λt=>((E:Rat)*L.getD (pm t) 0)*iL (jW pm ps.length) (Ii v i ps.length++(λr=>if r=pm t then 1 else 0) :: iu v i):=Fl (W:=λ_=>0) (v:=λt r=>if r=pm t then 1 else 0) (c:=λt=>(E:Rat)*L.getD (pm t) 0) _ _ (λr hr=>by
   obtain ⟨t,ht,rfl⟩:=k9 hr;rw[eU ht λj hj ne=>by rw[if_neg λz=>ne (pinj j t hj ht z.symm),dJ],if_pos rfl,Eb])
  have hlen:∀x:gZ,(Ii v i ps.length++x :: iu v i).length<=16:=λx=>by
   have:=congrArg List.length (cw_split (v:=v) hi);rw[au,bB,cw_len] at this;rw[au,bB]
   lia
  have nf:Fr 1 (n*(W1*(16*W0)^e)) (iL (jW pm ps.length) (Ii v i ps.length++(λr=>(E:Rat)*L.getD r 0) :: iu v i)):=by
   rw[ex];refine (MV (V:=W1*(16*W0)^e) λt ht=>?_).mono (az _ kn);obtain ⟨z,ee,b⟩:=tlf (pm t)
   have f1:Fr 1 W1 ((E:Rat)*L.getD (pm t) 0):=by
    rw[cX,ee];exact Fr.int b
   have f2:=Bi (W:=W0) (N:=16) (rs:=jW pm ps.length) (hlen λr=>if r=pm t then 1 else 0) λw hw r _=>by
    rcases aA.mp hw with hw | hw
    ·obtain ⟨s,_,rfl⟩:=DG hw;exact vint s r
    ·rcases aN.mp hw with rfl | hw
     ·dsimp only
      split
      ·exact Fr.one w0
      ·exact Fr.zero
     ·obtain ⟨s,_,rfl⟩:=cw_in hw;exact vint s r
   rw[pQ] at f2;have:=f1.mul f2;rw[mM] at this;exact this.mono (aM _ up)
  obtain ⟨z,ez⟩:=zP nf;rw[ez] at nf cr;have bz:=ye nf;rw[eq] at cr
  have key:bU R i K0.length*((E:Rat)*(q:Rat))=(D:Rat)*(z:Rat):=by
   rw[cr];grind
  have kq:(((E*q.natAbs:Nat):Rat))=(E:Rat)*((q.natAbs:Nat):Rat):=eY ..;rcases Ih q with h | h
  ·have hq:((q.natAbs:Nat):Rat)=(q:Rat):=by rw[<- aT,<- h]
   refine ⟨D*z,?_,by rw[dg,cw];exact aM _ bz⟩;rw[kq,hq,key,be,aT]
  ·have hq:((q.natAbs:Nat):Rat)=-(q:Rat):=by rw[<- aT,<- c9];congr 1;lia
   refine ⟨-(D*z),?_,by rw[jY,dg,cw];exact aM _ bz⟩;rw[kq,hq,c9,be,aT,<- key];grind
theorem Qo (hK:∀xs∈K0,xs.length=n) (hL:L.length=n) (n15:n<=15) (D0:0 < D) (E0:0 < E) (w0:1<=W0) (w1:1<=W1) (tk:∀xs∈K0,∀x∈xs,Tp D W0 x) (tl:∀x∈L,Tp E W1 x) (RR:bI (c5 (cS K0 n) L) (K0.length+1) R ps) (hn:K0.length∉ps) :
  ∃q:Nat,0 < q/\q<=(16*W0)^n/\∀y∈gB R ps K0.length,Tp (E*q) (D*(n*(W1*(16*W0)^n))) y :=
 NT (λh=>h) hK hL n15 D0 E0 w0 w1 tk tl RR hn
theorem L8 {pm w : Nat → Nat} {X Y s : Nat} (hX : 1 ≤ X) (hY : 1 ≤ Y) (h1 : ∀ r, r ≠ s → w r ≤ X) (h2 : w s ≤ Y) : ∀ k, (∀ i j, i < k → j < k → pm i = pm j → i = j) → ((∃ t, t < k /\ pm t = s) → ((jW pm k).map w).foldr (· * ·) 1 ≤ X ^ k * Y) /\ ((∀ t, t < k → pm t ≠ s) → ((jW pm k).map w).foldr (· * ·) 1 ≤ X ^ k)
  | 0, _ => ⟨λ⟨t, h, _⟩ => absurd h (d7 _), λ_ => ak _⟩
  | k + 1, inj => by
    obtain ⟨i1, i2⟩ := L8 (pm := pm) (w := w) hX hY h1 h2 k λi j hi hj => inj i j (by lia) (by lia)
    have mul : ((jW pm (k + 1)).map w).foldr (· * ·) 1 = w (pm k) * ((jW pm k).map w).foldr (· * ·) 1 := rfl;refine ⟨λ⟨t, ht, et⟩ => ?_, λh => ?_⟩
    · rw [mul];by_cases e : pm k = s
      · have := i2 λt' ht' z => by
          have := inj t' k (by lia) (by lia) (z.trans e.symm)
          lia
        rw [e]
        calc w s * _ ≤ Y * X ^ k := aK h2 this
          _ = X ^ k * Y := bZ _ _
          _ ≤ X ^ (k + 1) * Y := az _ (ax hX (mN _))
      · have := i1 ⟨t, by rcases b9 t k with z | z; exact z; exact absurd (by rw [show k = t by lia]; exact et) e, et⟩
        calc w (pm k) * _ ≤ X * (X ^ k * Y) := aK (h1 _ e) this
          _ = X ^ (k + 1) * Y := by rw [fG, <- cR, bZ X]
    · rw [mul, fG, bZ (X ^ k)];exact aK (h1 _ (h k (by lia))) (i2 λt ht => h t (by lia))
theorem Oc {pm w:Nat->Nat} {X Y s:Nat} (hX:1<=X) (hY:1<=Y) (h1:∀r,r≠s->w r<=X) (h2:w s<=Y) {k n:Nat} (hk:k<=n) (inj:∀i j,i < k->j < k->pm i=pm j->i=j):((jW pm k).map w).foldr (·*·) 1<=X^n*Y:=by
 obtain ⟨a,b⟩:=L8 (pm:=pm) (w:=w) hX hY h1 h2 k inj;have up:X^k<=X^n:=ax hX hk;by_cases e:∃t,t < k/\pm t=s
 ·exact ai (a e) (az _ up)
 ·exact ai (b λt ht z=>e ⟨t,ht,z⟩) (ai up (dE _ hY))
theorem KZ {e:Nat} (he:ps.length<=n->ps.length<=K0.length+1->ps.length<=e) (hK:∀xs∈K0,xs.length=n) (hL:L.length=n) (n15:n<=15) (D0:0 < D) (E0:0 < E) (w0:1<=W0) (tk:∀xs∈K0,∀x∈xs,Tp D W0 x) (tl:∀x∈L,Tp E W1 x) (RR:bI (c5 (K0++[L]) (List.replicate K0.length 0++[1])) (n+1) R ps) (hn:n∉ps) :
  ∃q:Nat,0 < q/\q<=(16*W0)^e*(16*(W1+E))/\∀y∈gB R ps n,Tp q ((16*W0)^e*(16*(W1+E))) y:=by
 have hw:∀xs∈K0++[L],xs.length=n:=λxs hx=>by
  sleep 1
  ·exact hK xs hx
  ·rw[bS.mp hx];exact hL
 have hd:(List.replicate K0.length (0:Rat)++[1]).length=(K0++[L]).length:=by simp
 have lX:(K0++[L]).length=K0.length+1:=by simp
 have due:∀i,i < K0.length+1->(List.replicate K0.length (0:Rat)++[1]).getD i 0=if i=K0.length then 1 else 0:=λi hi=>by
  rw[aa];by_cases ee:i=K0.length
  ·rw[aZ (by simp;lia),if_pos ee];simp [ee]
  ·rw[bD (by simp;lia),if_neg ee,df,if_pos (by lia)];rfl
 have tX:∀i c,Tp (if i=K0.length then E else D) (if i=K0.length then W1 else W0) (bU (K0++[L]) i c):=λi c=>by
  by_cases ee:i=K0.length
  ·rw[if_pos ee,if_pos ee,ee];have:=Nt (X:=K0) (Y:=[L]) (i:=0);rw[Nat.add_zero] at this;rw[this];exact kr tl c
  ·rw[if_neg ee,if_neg ee];by_cases h:i < K0.length
   ·rw[Lq h];unfold bU;rw[aa (l:=K0),af h];exact kr (tk _ (aJ h)) c
   ·unfold bU;rw[aa (l:=K0++[L]),aV (by rw[lX];lia)];exact kr (by intro x z;cases z) c
 have tj:∀xs∈c5 (K0++[L]) (List.replicate K0.length 0++[1]),∀x∈xs,Tp (D*E) (W0*E+W1*D+D*E) x:=zQ λi hi c=>by
  rw[oA hd] at hi;obtain ⟨j1,j2⟩:=yx hd hw hi;by_cases hc:c < n
  ·rw[j1 c hc];obtain ⟨z,ee,b⟩:=tX i c;by_cases h:i=K0.length
   ·rw[if_pos h] at ee b;exact ⟨z*D,by rw[eY,be,<- ee,aT];grind,by rw[dg,cw];have:=az D b;lia⟩
   ·rw[if_neg h] at ee b;exact ⟨z*E,by rw[eY,be,<- ee,aT];grind,by rw[dg,cw];have:=az E b;lia⟩
  ·by_cases hc2:c=n
   ·rw[hc2,j2,due i (by lia)]
    split
    ·exact ⟨(D*E:Nat),by rw[Ny,aT],by rw[cw];lia⟩
    ·exact ⟨0,by rw[iU];rfl,bu _⟩
   ·rw[yf (vS hw) (by lia)];exact ⟨0,by rw[iU];rfl,bu _⟩
 obtain ⟨pm,pinj,plt,kn1,dne⟩:=DH (vS hw) (W:=W0*E+W1*D+D*E) (by have:=bQ D0 E0;lia) (bQ D0 E0) tj RR;rw[oA hd,lX] at plt kn1
 have pl:∀j,j < ps.length->ps.getD j 0 < n:=λj hj=>by
  have lo:=RR.2.2.low j hj;have ne:ps.getD j 0≠n:=λz=>hn (by rw[<- z];exact getD_in hj)
  lia
 have kn:ps.length<=n:=by
  have inc:∀j,j < ps.length->j<=ps.getD j 0:=by
   intro j
   induction j with
   | zero=>intro _;exact bu _
   | succ j ih =>
    intro hj;have:=ih (by lia);have:=RR.2.2.inc j (j+1) (by lia) hj
    lia
  rcases fw ps.length with z | z
  ·lia
  ·have:=inc (ps.length - 1) (by lia);have:=pl (ps.length - 1) (by lia)
   lia
 obtain ⟨g,eg⟩:∃g:Nat->Rat,g=λi=>((if i=K0.length then E else D:Nat):Rat):=⟨_,rfl⟩
 have gne:∀i,g i≠0:=λi z=>by
  rw[eg] at z;have z:(((if i=K0.length then E else D:Nat):Int):Rat)=0:=by rw[aT];exact z
  have:=sV z
  split at this <;> lia
 have rlt:∀r∈jW pm ps.length,r < K0.length+1:=λr hr=>by
  obtain ⟨t,ht,rfl⟩:=k9 hr;exact plt t ht
 obtain ⟨v,ev⟩:∃v:Nat->gZ,v=λj i=>g i*bU (K0++[L]) i (ps.getD j 0):=⟨_,rfl⟩
 obtain ⟨wt,ew⟩:∃wt:Nat->Nat,wt=λi=>if i=K0.length then W1+E else W0:=⟨_,rfl⟩
 have vint:∀j r,Fr 1 (wt r) (v j r):=λj r=>by
  obtain ⟨z,ee,b⟩:=tX r (ps.getD j 0);rw[ev,eg,ew];show Fr 1 _ (_*_)
  rw[cX,ee];refine (Fr.int b).mono ?_
  dsimp only
  split <;> lia
 have bnd:∀{vs:List gZ},vs.length<=16->(∀w∈vs,∀r∈jW pm ps.length,Fr 1 (wt r) (w r))->∃z:Int,iL (jW pm ps.length) vs=(z:Rat)/\z.natAbs<=(16*W0)^e*(16*(W1+E)):=λ{vs} hl h=>by
  have f:=Na hl h;obtain ⟨z,ez⟩:=zP f;rw[ez] at f;refine ⟨z,ez,ai (ye f) (Oc (s:=K0.length) (by lia) (by lia) (λr hr=>?_) ?_ (he kn kn1) pinj)⟩
  ·rw[ew];dsimp only;rw[if_neg hr];exact ak _
  ·rw[ew];dsimp only;rw[if_pos rfl];exact ak _
 have den:iL (jW pm ps.length) (iu v ps.length)≠0:=by
  have e1:iL (jW pm ps.length) ([]++iu v ps.length)=iL (jW pm ps.length) ([]++iu (λj i=>g i*bU (c5 (K0++[L]) (List.replicate K0.length 0++[1])) i (ps.getD j 0)) ps.length):=Fn [] λj hj r hr=>by
   have hr:=rlt r hr;obtain ⟨j1,_⟩:=yx hd hw (i:=r) (by rw[lX];exact hr);rw[j1 _ (pl j hj),ev]
  have e2:iu (λj i=>g i*bU (c5 (K0++[L]) (List.replicate K0.length 0++[1])) i (ps.getD j 0)) ps.length=(iu (λj i=>bU (c5 (K0++[L]) (List.replicate K0.length 0++[1])) i (ps.getD j 0)) ps.length).map λv i=>g i*v i:=(cw_map (τ:=λv i=>g i*v i)).symm
  have e1:iL (jW pm ps.length) (iu v ps.length)=iL (jW pm ps.length) (iu (λj i=>g i*bU (c5 (K0++[L]) (List.replicate K0.length 0++[1])) i (ps.getD j 0)) ps.length):=e1;rw[e1,e2,vV];intro z;rcases BO.mp z with z | z
  ·exact EK (λr _=>gne r) z
  ·exact dne z
 obtain ⟨q,eq,bq⟩:=bnd (vs:=iu v ps.length) (by rw[cw_len];lia) λw hw r _=>by
  obtain ⟨t,_,rfl⟩:=cw_in hw;exact vint t r
 have q0:q≠0:=λz=>den (by rw[eq,z];rfl)
 refine ⟨q.natAbs,by lia,bq,λy hy=>?_⟩;rcases JN RR hy with rfl | ⟨i,hi,rfl⟩
 ·exact ⟨0,by rw[iU];rfl,bu _⟩
 ·have hW:∀r∈jW pm ps.length,g r*(if r=K0.length then 1 else 0)=bo ps.length λj=>bU R j n*v j r:=λr hr=>by
   have hr:=rlt r hr;rw[<- due r hr,Pn hd hw RR hn (i:=r) (by rw[lX];exact hr),<- bV];refine aH λj hj=>?_
   rw[ev]
   dsimp only
   grind
  have cr:=tH (v:=v) (c:=λj=>bU R j n) (W:=λr=>g r*(if r=K0.length then 1 else 0)) hi hW
  obtain ⟨z,ez,bz⟩:=bnd (vs:=Ii v i ps.length++(λr=>g r*(if r=K0.length then 1 else 0)) :: iu v i) (by
   have:=congrArg List.length (cw_split (v:=v) hi);rw[au,bB,cw_len] at this;rw[au,bB]
   lia) λw hw r _=>by
    rcases aA.mp hw with hw | hw
    ·obtain ⟨s,_,rfl⟩:=DG hw;exact vint s r
    ·rcases aN.mp hw with rfl | hw
     ·dsimp only
      by_cases ee:r=K0.length
      ·rw[if_pos ee,Eb,eg,ew]
       dsimp only
       rw[if_pos ee,if_pos ee,<- aT];exact Fr.int (by rw[cw];lia)
      ·rw[if_neg ee,dJ];exact Fr.zero
     ·obtain ⟨s,_,rfl⟩:=cw_in hw;exact vint s r
  rw[ez,eq] at cr;have key:bU R i n*(q:Rat)=(z:Rat):=cr.symm;rcases Ih q with h | h
  ·have hq:((q.natAbs:Nat):Rat)=(q:Rat):=by rw[<- aT,<- h]
   exact ⟨z,by rw[hq,key],bz⟩
  ·have hq:((q.natAbs:Nat):Rat)=-(q:Rat):=by rw[<- aT,<- c9];congr 1;lia
   exact ⟨-z,by rw[hq,c9,<- key];grind,by rw[jY];exact bz⟩
theorem Mm (hK:∀xs∈K0,xs.length=n) (hL:L.length=n) (n15:n<=15) (D0:0 < D) (E0:0 < E) (w0:1<=W0) (tk:∀xs∈K0,∀x∈xs,Tp D W0 x) (tl:∀x∈L,Tp E W1 x) (RR:bI (c5 (K0++[L]) (List.replicate K0.length 0++[1])) (n+1) R ps) (hn:n∉ps) :
  ∃q:Nat,0 < q/\q<=(16*W0)^n*(16*(W1+E))/\∀y∈gB R ps n,Tp q ((16*W0)^n*(16*(W1+E))) y :=
 KZ (λh _=>h) hK hL n15 D0 E0 w0 tk tl RR hn
end
def ig (mv:LR9):Nat->List Rat->List Rat
 | 0,x=>x
 | t+1,x=>oU mv (ig mv t x)
section
variable {mv pt lk pus:LR9} {st pu go:List Rat} {n t T c:Nat}
theorem iS (h:st.length=mv.length):∀t,(ig mv t st).length=mv.length
 | 0=>h
 | _+1=>uW
theorem Fh {x y:List Rat} (h:x.length=y.length) (e:∀c,c < x.length->x.getD c 0=y.getD c 0):x=y:=by
 apply dO h;intro c h1 h2;have:=e c h1;rwa [aa,aa,af h1,af h2] at this
theorem Pu (wm:∀xs∈mv,xs.length=mv.length) (h:st.length=mv.length) (hc:c < mv.length):(oU mv st).getD c 0=bo mv.length λj=>bU mv c j*st.getD j 0:=by
 have e:(oU mv st).getD c 0=cE mv[c] st:=by
  unfold oU;rw[aa,aG,af hc];rfl
 have wc:=wm _ (aJ hc);rw[e,c6 (by lia),wc];refine aH λj _=>?_
 unfold bU;rw[aa (l:=mv),af hc];rfl
theorem Ho (D:eG mv pt lk) (h:st.length=mv.length) (hp:pu.length=pt.length) (hc:c < mv.length):(fH mv pt st pu).getD c 0=bo mv.length (λj=>bU mv c j*st.getD j 0)+bo pt.length λi=>pu.getD i 0*bU pt i c:=by
 have wc:=D.mw _ (aJ hc)
 have e:(fH mv pt st pu).getD c 0=cE (mv[c]++pt.map λxs=>xs.getD c 0) (st++pu):=by
  unfold fH;rw[aa,ck,af hc,vn hc];rfl
 rw[e,sS (by lia),c6 (by lia),c6 (by rw[aj];lia),wc,aj];congr 1
 ·refine aH λj _=>?_
  unfold bU;rw[aa (l:=mv),af hc];rfl
 ·refine aH λi hi=>?_
  rw[cX];congr 1;unfold bU;rw[aa,aG,aa (l:=pt),af hi];rfl
theorem vR:∀t,(kry mv pt t).length=t*pt.length
 | 0=>by rw[Nat.zero_mul];rfl
 | t+1=>by
  show (pt++(kry mv pt t).map (oU mv)).length=_
  rw[au,aj,vR t,dM,kJ]
theorem Eo (D:eG mv pt lk) (ls:st.length=mv.length):∀k,k<=pus.length->(∀xs∈pus,xs.length=pt.length)->∀c,c < mv.length->(jU mv pt st pus k).getD c 0=(ig mv k st).getD c 0+bo (kry mv pt k).length λi=>((pus.take k).reverse.flatten).getD i 0*bU (kry mv pt k) i c:=by
 intro k
 induction k with
 | zero =>
  intro _ _ c _;show st.getD c 0=st.getD c 0+0
  grind
 | succ k ih =>
  intro hk hp c hc;have hk':k < pus.length:=hk;have e:=af hk';have hl:=hp _ (aJ hk');have ls':=jo (pt:=pt) (pus:=pus) ls (k:=k) (by lia)
  have lf:((pus.take k).reverse.flatten).length=(kry mv pt k).length:=by
   rw[vR,HI (i:=pt.length) λxs hx=>hp xs (cy (zx.mp hx)),kW,cG,jk (by lia)]
  rw[lZ e,Ho D ls' hl hc]
  have er:(pus.take (k+1)).reverse.flatten=pus[k]++(pus.take k).reverse.flatten:=by
   rw[take_snoc e,List.reverse_append];simp
  have ek:kry mv pt (k+1)=pt++(kry mv pt k).map (oU mv):=rfl;rw[er,ek,au,aj,xx]
  have p1:(bo pt.length λi=>(pus[k]++(pus.take k).reverse.flatten).getD i 0*bU (pt++(kry mv pt k).map (oU mv)) i c)=bo pt.length λi=>pus[k].getD i 0*bU pt i c:=aH λi hi=>by
   rw[Lq hi,aa,bD (by lia),aa]
  have p2:(bo (kry mv pt k).length λi=>(pus[k]++(pus.take k).reverse.flatten).getD (pt.length+i) 0*bU (pt++(kry mv pt k).map (oU mv)) (pt.length+i) c)=bo mv.length λj=>bU mv c j*bo (kry mv pt k).length λi=>((pus.take k).reverse.flatten).getD i 0*bU (kry mv pt k) i j:=by
   have q1:∀i,i < (kry mv pt k).length->(pus[k]++(pus.take k).reverse.flatten).getD (pt.length+i) 0*bU (pt++(kry mv pt k).map (oU mv)) (pt.length+i) c=bo mv.length λj=>bU mv c j*(((pus.take k).reverse.flatten).getD i 0*bU (kry mv pt k) i j):=λi hi=>by
    rw[Nt,JT rfl D.mw (fD rfl D.pw k) hi,aa,aZ (by lia),hl,TC,<- aa,<- bV];exact aH λj _=>by grind
   rw[aH q1,dn];exact aH λj _=>bV
  rw[p1,p2];have p3:(ig mv (k+1) st).getD c 0=bo mv.length λj=>bU mv c j*(ig mv k st).getD j 0:=Pu D.mw (iS ls k) hc
  rw[p3]
  have p4:(bo mv.length λj=>bU mv c j*(jU mv pt st pus k).getD j 0)=(bo mv.length λj=>bU mv c j*(ig mv k st).getD j 0)+bo mv.length λj=>bU mv c j*bo (kry mv pt k).length λi=>((pus.take k).reverse.flatten).getD i 0*bU (kry mv pt k) i j:=by
   rw[<- kM];refine aH λj hj=>?_
   rw[ih (by lia) hp j hj];grind
  rw[p4];grind
end
section
variable {mv pt lk pus R:LR9} {st pu go w pr L:List Rat} {n t T c u k:Nat} {ps:List Nat}
theorem Iv (D:eG mv pt lk) (ls:st.length=mv.length):jU mv pt st (List.replicate T (List.replicate pt.length 0)) T=ig mv T st:=by
 have l1:=jo (pt:=pt) (pus:=List.replicate T (List.replicate pt.length 0)) ls (k:=T) (by rw[aD];exact ak _);refine Fh (by rw[l1,iS ls]) λc hc=>?_
 rw[l1] at hc;rw[Eo D ls T (by rw[aD];exact ak _) (λxs hx=>by rw[(cW.mp hx).2,aD]) c hc,cJ λi _=>?_,iV]
 have z:(((List.replicate T (List.replicate pt.length (0:Rat))).take T).reverse.flatten).getD i 0=0:=by
  rw[aa];cases e:(((List.replicate T (List.replicate pt.length (0:Rat))).take T).reverse.flatten)[i]? with
  | none=>rfl
  | some y =>
   have:=ay e;obtain ⟨l,hl,hy⟩:=fz.mp this;have hl:=cy (zx.mp hl);rw[(cW.mp hl).2] at hy;exact (cW.mp hy).2
 rw[z,iU]
def eI (mv:LR9) (T:Nat) (st go:List Rat):List Rat:=List.zipWith (λx y=>x - y) go (ig mv T st)
theorem Bc (ls:st.length=mv.length) (lg:go.length=mv.length):(eI mv T st go).length=mv.length:=by
 unfold eI;rw[cT,iS ls,lg,Ky]
theorem Iq {x y:List Rat} (h:x.length=y.length) (hc:c < x.length):(List.zipWith (λx y=>x - y) x y).getD c 0=x.getD c 0 - y.getD c 0:=by
 rw[aa,ck,aa (l:=x),aa (l:=y),af hc,af (by lia)];rfl
theorem Fe:∀u,∃Z,kry mv pt (u+1)=kry mv pt u++Z
 | 0=>⟨pt++[],rfl⟩
 | u+1=>by
  obtain ⟨Z,e⟩:=Fe u;refine ⟨Z.map (oU mv),?_⟩;show pt++(kry mv pt (u+1)).map (oU mv)=(pt++(kry mv pt u).map (oU mv))++_
  rw[e,cg,cP]
theorem Hu {u:Nat}:∀s,∃Z,kry mv pt (u+s)=kry mv pt u++Z
 | 0=>⟨[],by rw[lQ];rfl⟩
 | s+1=>by
  obtain ⟨Z,e⟩:=Hu (u:=u) s;obtain ⟨Y,e'⟩:=Fe (mv:=mv) (pt:=pt) (u+s);exact ⟨Z++Y,by rw[<- Nat.add_assoc,e',e,cP]⟩
def zE (w:List Rat) (u k:Nat):LR9:=(List.range u).map λt=>(w.drop (t*k)).take k
theorem HR:∀{u:Nat} {w:List Rat},w.length=u*k->(zE w u k).flatten=w
 | 0,w,h=>by
  rw[Nat.zero_mul] at h;rw[List.length_eq_zero_iff.mp h];rfl
 | u+1,w,h=>by
  have e:zE w (u+1) k=zE (w.take (u*k)) u k++[w.drop (u*k)]:=by
   unfold zE;rw[rg,cg];congr 1
   ·refine iF λt ht=>?_
    have ht:=jX.mp ht;have:t*k+k<=u*k:=by rw[<- dM];exact az _ ht
    rw[List.drop_take,List.take_take,jk (by lia)]
   ·show [(w.drop (u*k)).take k]=_
    rw[aI (by rw[oV,h,dM];lia)]
  rw[e,iG,HR (by rw[cG,h,dM];lia)];simp
theorem Tj (h:w.length=u*k):∀xs∈zE w u k,xs.length=k:=λxs hx=>by
 obtain ⟨t,ht,rfl⟩:=aE.mp hx;have ht:=jX.mp ht;have:t*k+k<=u*k:=by rw[<- dM];exact az _ ht
 rw[cG,oV]
 lia
theorem Nk {x:Rat} {xs:List Rat} (hx:xs∈zE w u k) (hx':x∈xs):x∈w:=by
 obtain ⟨t,_,rfl⟩:=aE.mp hx;exact Ed (cy hx')
def AA (w:List Rat) (T u k:Nat):LR9:=List.replicate (T - u) (List.replicate k 0)++(zE w u k).reverse
theorem JP (hu:u<=T):(AA w T u k).length=T:=by
 unfold AA zE;rw[au,aD,kW,aj,cv]
 lia
theorem Pt (h:w.length=u*k):∀xs∈AA w T u k,xs.length=k:=λxs hx=>by
 sleep 1
 ·rw[(cW.mp hx).2,aD]
 ·exact Tj h xs (zx.mp hx)
theorem OF {P:Rat->Prop} (h0:P 0) (h:∀x∈w,P x):∀xs∈AA w T u k,∀x∈xs,P x:=λxs hx x hx'=>by
 sleep 1
 ·rw[(cW.mp hx).2] at hx';rw[(cW.mp hx').2];exact h0
 ·exact h x (Nk (zx.mp hx) hx')
theorem Mb {T k:Nat}:(List.replicate T (List.replicate k (0:Rat))).flatten=List.replicate (T*k) 0:=by
 rw[List.flatten_replicate_replicate]
theorem Jq (D:eG mv pt lk) (ls:st.length=mv.length) (lg:go.length=mv.length) (hu:u<=T) (hw:w.length=(kry mv pt u).length) (e:Qc (kry mv pt u) w mv.length=eI mv T st go):jU mv pt st (AA w T u pt.length) T=go:=by
 have hw':w.length=u*pt.length:=by rw[hw,vR]
 have lp:=JP (w:=w) (k:=pt.length) hu;have l1:=jo (pt:=pt) (pus:=AA w T u pt.length) ls (k:=T) (by lia);refine Fh (by rw[l1,lg]) λc hc=>?_
 rw[l1] at hc;rw[Eo D ls T (by lia) (Pt hw') c hc,aI (by lia)]
 have er:(AA w T u pt.length).reverse.flatten=w++List.replicate ((T - u)*pt.length) 0:=by
  unfold AA;rw[List.reverse_append,List.reverse_reverse,iG,HR hw',List.reverse_replicate,Mb]
 obtain ⟨Z,eZ⟩:=Hu (mv:=mv) (pt:=pt) (u:=u) (T - u);rw[show u+(T - u)=T by lia] at eZ;rw[er,eZ,au,xx]
 have p1:(bo (kry mv pt u).length λi=>(w++List.replicate ((T - u)*pt.length) 0).getD i 0*bU (kry mv pt u++Z) i c)=(eI mv T st go).getD c 0:=by
  rw[<- e,JA hc,hw];exact aH λi hi=>by rw[Lq hi,aa,bD (by lia),aa]
 have p2:(bo Z.length λi=>(w++List.replicate ((T - u)*pt.length) 0).getD ((kry mv pt u).length+i) 0*bU (kry mv pt u++Z) ((kry mv pt u).length+i) c)=0:=cJ λi _=>by
  have z:(w++List.replicate ((T - u)*pt.length) (0:Rat)).getD ((kry mv pt u).length+i) 0=0:=by
   rw[aa,aZ (by lia),df]
   split <;> rfl
  rw[z,iU]
 rw[p1,p2,iV];unfold eI;rw[Iq (by rw[lg,iS ls]) (by lia)];grind
theorem K4 {ps':List Nat} (wp:∀xs∈pt,xs.length=mv.length) (RRu:bI (kry mv pt u) mv.length R ps) (RRT:bI (kry mv pt T) mv.length R ps') (lp:pr.length=mv.length) (h:∀xs∈kry mv pt u,cE xs pr=0):∀xs∈kry mv pt T,cE xs pr=0:=λxs hx=>by
 have wu:=fD (mv:=mv) rfl wp u;have wT:=fD (mv:=mv) rfl wp T;obtain ⟨i,hi,rfl⟩:=bO hx;have s1:eT (kry mv pt u).length (bU (kry mv pt u)) (bU (kry mv pt T) i):=eT.trans (λt ht=>RRu.2.2.back t (by rw[<- RRu.1,RRT.1];exact ht)) (RRT.2.2.span i hi);obtain ⟨v,hv⟩:=s1
 have fn:∀{X:LR9} {i:Nat} (h:i < X.length) (c:Nat),X[i].getD c 0=bU X i c:=λ{X i} h c=>by
  unfold bU;rw[aa (l:=X),af h];rfl
 have w1:=wT _ (aJ hi);rw[c6 (by lia),w1]
 have e1:(bo mv.length λc=>(kry mv pt T)[i].getD c 0*pr.getD c 0)=bo (kry mv pt u).length λt=>v t*bo mv.length λc=>bU (kry mv pt u) t c*pr.getD c 0:=by
  have q:∀c,c < mv.length->(kry mv pt T)[i].getD c 0*pr.getD c 0=bo (kry mv pt u).length λt=>v t*(bU (kry mv pt u) t c*pr.getD c 0):=λc _=>by
   rw[fn hi c,hv c,cX,<- bV];exact aH λt _=>by grind
  rw[aH q,dn];exact aH λt _=>bV
 rw[e1];refine cJ λt ht=>?_
 have w2:=wu _ (aJ ht);have:=h _ (aJ ht);rw[c6 (by lia),w2] at this
 have q:(bo mv.length λc=>bU (kry mv pt u) t c*pr.getD c 0)=0:=by
  refine Eq.trans ?_ this;exact aH λc _=>by rw[fn ht c]
 rw[q,dJ]
end
def Cp (l:Addr):Hp:=λq=>if q=l then some (.lst []) else none
theorem off_ne {l:Addr}:Cp l l≠none:=by unfold Cp;rw[if_pos rfl];exact λz=>nomatch z
theorem Mt {l q:Addr} (h:q≠l):Cp l q=none:=by unfold Cp;rw[if_neg h]
def Ly (K:FG9) (l:Addr) (H:Hp) (R:LR9) (v:V):Prop:=∃q,v=V.ref q/\q≠l/\bE K (Cp l) H q R
section
variable {K:FG9} {H0 H H':Hp} {l p q:Addr} {R:LR9} {v:V} {mv pt:LR9} {u T:Nat}
theorem bE.off (h:bE K H0 H p R) (hl:H l=none):p≠l/\bE K (Cp l) H p R:=by
 obtain ⟨xs,g,r,n⟩:=h;refine ⟨λz=>(by rw[z,hl] at g;cases g),xs,g,Paired.imp' (λ_ _ ⟨q,a,b,c⟩=>⟨q,a,Mt λz=>?_,c⟩) r,n⟩;obtain ⟨_,gg,_⟩:=c;rw[z,hl] at gg;cases gg
theorem Ly.same (h:Ly K l H R v) (s:aL H H'):Ly K l H' R v:=by obtain ⟨q,a,b,c⟩:=h;exact ⟨q,a,b,c.same s⟩
theorem Ly.upd {ys zs:List V} (h:Ly K l H R v) (g:H l=some (.lst ys)):Ly K l (upd H l (.lst zs)) R v:=by obtain ⟨q,a,b,c⟩:=h;exact ⟨q,a,b,c.updL g off_ne b⟩
def Lr (mv pt:LR9) (u:Nat):List (LR9):=(List.range u).map λs=>pt.map (ig mv s)
theorem Fx:Lr mv pt (u+1)=Lr mv pt u++[pt.map (ig mv u)]:=by unfold Lr;rw[rg,cg];rfl
theorem tJ:∀u,(Lr mv pt u).flatten=kry mv pt u
 | 0=>rfl
 | u+1=>by
  have e:Lr mv pt (u+1)=pt :: (Lr mv pt u).map (List.map (oU mv)):=by
   unfold Lr;rw[List.range_succ_eq_map,gI,nF];congr 1
   ·exact qX pt
   ·rw[nF];refine iF λs _=>?_
    show pt.map (ig mv (s+1))=(pt.map (ig mv s)).map (oU mv)
    rw[nF];rfl
  rw[e,fM,<- List.map_flatten,tJ u];rfl
theorem RB {s:Nat} {xs:List Rat} (h:xs∈pt.map (ig mv s)):xs∈kry mv pt (s+1):=by
 rw[<- tJ,Fx,iG];exact bG _ (by simpa using h)
theorem iM.fitP {a c s:Nat} (F:iM mv pt a c) (wm:∀xs∈mv,xs.length=mv.length) (wp:∀xs∈pt,xs.length=mv.length) (hs:s+1<=mv.length):∀xs∈mv,∀r∈pt.map (ig mv s),rf xs r:=λxs hx r hr=>by
 obtain ⟨M,V,M0,Ma,hV,fm,fp,a3,c3,e14,_⟩:=F;have f:=Jf rfl wm wp hV fm fp (s+1) r (RB hr);have V1:V<=2^c:=ai (cI _ (by lia)) hV;have e1:(s+1)*(a+c)<=mv.length*(a+c):=az _ hs;have e2:mv.length*(a+c)+4<=mv.length*(mv.length*(a+c)+4):=cI _ (by lia);have e3:(s+1)*(a+c)=a*(s+1)+c*(s+1):=by rw[eB,bZ,bZ c]
 refine ⟨a,c,a*(s+1),c*(s+1),⟨M,V,M0,Ma,V1,fm xs hx⟩,⟨M^(s+1),2^(c*(s+1)),dS M0,?_,ak _,f⟩,by lia⟩;exact ai (iD Ma _) (by rw[<- qW];exact ak _)
end
inductive Gh (K:FG9) (C:Addr) (vs:List V) (H:Hp) (Q:VK) (E9:XK):Prop
 | mk (x:Addr) (u a c:Nat) (H0:Hp) (mv pt lk:LR9):vs=[.ref x,.int u]->u<=mv.length->jR K H0 H C x mv pt lk->eG mv pt lk->iM mv pt a c->(∀r us H',H r=none->aL H H'->H' r=some (.lst us)->Paired (Ly K r H') (Lr mv pt u) us->Q (.ref r) H')->Gh K C vs H Q E9
inductive F9 (K:FG9) (vs:List V) (H:Hp) (Q:VK) (E9:XK):Prop
 | mk (p:Addr) (xs:List V) (Rs:List (LR9)):vs=[.ref p]->H p=some (.lst xs)->Paired (Ly K p H) Rs xs->Rs.flatten.length<=1000->(∀r H0 H',H r=none->aL H H'->bE K H0 H' r Rs.flatten->Q (.ref r) H')->F9 K vs H Q E9
inductive JK (K:FG9) (vs:List V) (H:Hp) (Q:VK) (E9:XK):Prop
 | mk (p:Addr) (u k:Nat) (w:List Rat):vs=[.ref p,.int u,.int k]->cF K H p w->w.length=u*k->u*k<=1000->u<=1000->k<=1000->(∀r H',H r=none->aL H H'->bE K H H' r (zE w u k)->Q (.ref r) H')->JK K vs H Q E9
inductive FY (K:FG9) (C:Addr) (vs:List V) (H:Hp) (Q:VK) (E9:XK):Prop
 | mk (x:Addr) (T:Nat) (H0:Hp) (mv pt lk:LR9):vs=[.ref x,.int T]->T<=100->jR K H0 H C x mv pt lk->eG mv pt lk->(∀r H',H r=none->aL H H'->bE K H H' r (List.replicate T (List.replicate pt.length 0))->Q (.ref r) H')->FY K C vs H Q E9
inductive F6 (K:FG9) (C:Addr) (vs:List V) (H:Hp) (Q:VK) (E9:XK):Prop
 | mk (x s g:Addr) (T:Nat) (H0:Hp) (mv pt lk:LR9) (st go:List Rat):vs=[.ref x,.ref s,.ref g,.int T]->T<=99->jR K H0 H C x mv pt lk->eG mv pt lk->Ku mv pt lk->cF K H s st->st.length=mv.length->cF K H g go->go.length=mv.length->FE mv pt st (List.replicate T (List.replicate pt.length 0))->(∀x∈go,nB x)->(∀r H',H r=none->aL H H'->cF K H' r (eI mv T st go)->Q (.ref r) H')->F6 K C vs H Q E9
structure TX (mv pt:LR9) (L:List Rat) (D W0 E W1:Nat):Prop where
 d0:0 < D
 e0:0 < E
 w0:1<=W0
 w1:1<=W1
 tk:∀u,u<=mv.length->∀xs∈kry mv pt u,∀x∈xs,Tp D W0 x
 tl:∀x∈L,Tp E W1 x
 de:D*E<=2^4300
 sw:∃w,W0*E+W1*D+D*E<=2^w/\w<=4300/\(mv.length+1)*(w+4)<=8900
theorem TX.join {mv pt:LR9} {L:List Rat} {D W0 E W1:Nat} (F:TX mv pt L D W0 E W1) {rows:LR9} {due:List Rat} {n':Nat} (hd:due.length=rows.length) (h1:∀xs∈rows,∀x∈xs,Tp (D*E) (W0*E+W1*D+D*E) x) (h2:∀x∈due,Tp (D*E) (W0*E+W1*D+D*E) x) (n8:mv.length<=8) (hm:min rows.length n'<=mv.length+1):∃w,D9 (c5 rows due) n' w:=by
 obtain ⟨w,b1,b2,b3⟩:=F.sw;have:=bQ F.d0 F.e0;refine ⟨w,D*E,W0*E+W1*D+D*E,bQ F.d0 F.e0,F.de,by lia,b1,λxs hx x hx'=>?_,b2,by rw[oA hd];lia,by rw[oA hd];exact ai (az _ hm) b3⟩;unfold c5 at hx;obtain ⟨i,hi,rfl⟩:=bO hx;rw[qY] at hx';rcases aA.mp hx' with z | z
 ·exact h1 _ (aJ _) x z
 ·rw[bS.mp z];exact h2 _ (aJ _)
theorem Tp.up {M W x:Nat} {q:Rat} (h:Tp M W q) (k:Nat) (hx:W*k<=x):Tp (M*k) x q:=by
 obtain ⟨z,e,b⟩:=h;exact ⟨z*k,by rw[eY,be,<- e,aT];grind,by rw[dg,cw];exact ai (az _ b) hx⟩
section
variable {mv pt lk rows R N Hd:LR9} {st pr go:List Rat} {n r t T a c W B:Nat} {ps psd:List Nat} {Pm Y Z:Nat->Nat->Rat} {d:Rat}
theorem Vb.tp (V:Vb r n Pm Y Z d W) (r15:r<=15) (w1:1<=W):∃q:Nat,0 < q/\q<=(16*W)^r/\∀s,s < r->∀c,c < n->Tp q ((16*W)^r) (Y s c):=by
 have rlt:∀i∈jW (λi=>i) r,i < r:=λi hi=>by
  obtain ⟨t,ht,e⟩:=k9 hi;have e:i=t:=e
  lia
 obtain ⟨q,eq,bq⟩:=Jp (N:=16) (Wx:=W) (rs:=jW (λi=>i) r) (vs:=iu (λj i=>Pm i j) r) (by rw[cw_len];lia) λw hw i hi=>by
  obtain ⟨s,hs,rfl⟩:=cw_in hw;exact V.pf i (rlt i hi) s hs
 rw[pQ] at bq;rw[<- V.det] at eq;have q0:q≠0:=λz=>V.d0 (by rw[eq,z];rfl)
 refine ⟨q.natAbs,by lia,bq,λs hs c hc=>?_⟩
 have cr:=tH (rs:=jW (λi=>i) r) (v:=λj i=>Pm i j) (c:=λj=>Y j c) (W:=λi=>Z i c) hs (λi hi=>by
  rw[V.eq i (rlt i hi) c hc];exact aH λj _=>cX _ _)
 obtain ⟨z,ez,bz⟩:=Jp (N:=16) (Wx:=W) (rs:=jW (λi=>i) r) (vs:=Ii (λj i=>Pm i j) s r++(λi=>Z i c) :: iu (λj i=>Pm i j) s) (by
  have:=congrArg List.length (cw_split (v:=λj i=>Pm i j) hs);rw[au,bB,cw_len] at this;rw[au,bB]
  lia) λw hw i hi=>by
   rcases aA.mp hw with hw | hw
   ·obtain ⟨s',hs',rfl⟩:=DG hw;exact V.pf i (rlt i hi) s' hs'
   ·rcases aN.mp hw with rfl | hw
    ·exact V.zf i (rlt i hi) c hc
    ·obtain ⟨s',hs',rfl⟩:=cw_in hw;exact V.pf i (rlt i hi) s' (by lia)
 rw[pQ] at bz;rw[ez,<- V.det,eq] at cr;have key:Y s c*(q:Rat)=(z:Rat):=cr.symm;rcases Ih q with h | h
 ·have hq:((q.natAbs:Nat):Rat)=(q:Rat):=by rw[<- aT,<- h]
  exact ⟨z,by rw[hq,key],bz⟩
 ·have hq:((q.natAbs:Nat):Rat)=-(q:Rat):=by rw[<- aT,<- c9];congr 1;lia
  exact ⟨-z,by rw[hq,c9,<- key];grind,by rw[jY];exact bz⟩
theorem MS (F:iM mv pt a c) (D8:mv.length<=8) (wm:∀xs∈mv,xs.length=mv.length) (wp:∀xs∈pt,xs.length=mv.length):∀T,∃R ps,Gd mv pt T R ps:=by
 intro T
 induction T with
 | zero=>exact ⟨_,_,Gd.start⟩
 | succ T ih =>
  obtain ⟨R,ps,G⟩:=ih;obtain ⟨RR,t,t1,t2,RRt,hs⟩:=id G;have le:=RR.le
  obtain ⟨R',ps',d,ls,S⟩:=CY (n:=mv.length) (rows:=pt++R.map (oU mv)) (λxs hx=>by
   sleep 1
   ·exact wp xs hx
   ·obtain ⟨y,_,rfl⟩:=aE.mp hx;exact uW) (F.step D8 wm wp (t:=t) (by lia) RRt)
  have RR':=vQ rfl wm wp RR S.rr;exact ⟨R',ps',(G.step wm wp RR').1⟩
theorem Td (F:iM mv pt a c) (D8:mv.length<=8) (wm:∀xs∈mv,xs.length=mv.length) (wp:∀xs∈pt,xs.length=mv.length) (RR:bI (kry mv pt T) mv.length R ps):Gd mv pt T R ps:=by
 obtain ⟨R',ps',G⟩:=MS F D8 wm wp T;obtain ⟨rfl,rfl⟩:=RR.same G.1;exact G
theorem iM.rtp (F:iM mv pt a c) (D8:mv.length<=8) (wm:∀xs∈mv,xs.length=mv.length) (wp:∀xs∈pt,xs.length=mv.length) (RR:bI (kry mv pt T) mv.length R ps):∃q,0 < q/\q<=2^(ps.length*((mv.length - 1)*(a+c)+4))/\∀xs∈R,∀x∈xs,Tp q (2^(ps.length*((mv.length - 1)*(a+c)+4))) x:=by
 obtain ⟨_,t,t1,_,RRt,_⟩:=Td F D8 wm wp RR;obtain ⟨Pm,Z,d,w,vb,hw⟩:=F.vb wm wp t1 RRt;have le:=RR.le;obtain ⟨q,q0,q1,q2⟩:=vb.tp (by lia) cV
 have up:(16*2^w)^ps.length<=2^(ps.length*((mv.length - 1)*(a+c)+4)):=by
  have e:(16*2^w)^ps.length=2^(ps.length*(w+4)):=by rw[show (16:Nat)=2^4 from rfl,<- a8,<- qW,bZ ps.length,kJ w]
  rw[e];refine ax (by decide) (aM _ ?_);rcases hw with ⟨_,rfl⟩ | ⟨_,rfl⟩ <;> lia
 refine ⟨q,q0,ai q1 up,zQ λi hi e=>?_⟩;by_cases he:e < mv.length
 ·exact (q2 i (by rw[<- RR.1];exact hi) e he).mono up
 ·rw[yf RR.2.1 (by lia)];exact Tp.zero
theorem Rl (h1:∀i j,i < j->j < ps.length->ps.getD i 0 < ps.getD j 0) (h2:∀j,j < ps.length->ps.getD j 0 < n):(iQ ps n).length+ps.length=n:=by
 have key:∀i,∃k,k<=ps.length/\(iQ ps i).length+k=i/\(∀j,j < k->ps.getD j 0 < i)/\∀j,k<=j->j < ps.length->i<=ps.getD j 0:=by
  intro i
  induction i with
  | zero=>exact ⟨0,bu _,rfl,λj hj=>absurd hj (d7 _),λj _ _=>bu _⟩
  | succ i ih =>
   obtain ⟨k,k1,k2,k3,k4⟩:=ih;rw[Bh];by_cases hk:k < ps.length/\ps.getD k 0=i
   ·have hm:i∈ps:=by rw[<- hk.2];exact getD_in hk.1
    rw[if_neg (λz=>z hm)];refine ⟨k+1,hk.1,by lia,λj hj=>?_,λj hj hl=>?_⟩
    ·rcases b9 j k with z | z
     ·have:=k3 j z;lia
     ·rw[show j=k by lia,hk.2];lia
    ·have:=h1 k j (by lia) hl
     lia
   ·have hm:i∉ps:=λz=>by
     obtain ⟨j,hj,ej⟩:=bO z;have ej':ps.getD j 0=i:=by rw[aa,af hj];exact ej
     rcases b9 j k with y | y
     ·have:=k3 j y;lia
     ·rcases b9 k j with x | x
      ·have:=h1 k j x hj;have:=k4 k (ak _) (by lia)
       lia
      ·exact hk ⟨by lia,by rw[show k=j by lia];exact ej'⟩
    rw[if_pos hm];refine ⟨k,k1,by rw[au,bf];lia,λj hj=>by have:=k3 j hj;lia,λj hj hl=>?_⟩;have:=k4 j hj hl;rcases b9 i (ps.getD j 0) with y | y
    ·exact y
    ·exact absurd (by rw[show i=ps.getD j 0 by lia];exact getD_in hl) hm
 obtain ⟨k,k1,k2,k3,k4⟩:=key n;rcases b9 k ps.length with z | z
 ·have:=k4 k (ak _) z;have:=h2 k z
  lia
 ·lia
theorem lH:∀xs∈aR R ps n,xs.length=n:=λxs hx=>by
 obtain ⟨_,_,_,rfl⟩:=oG hx;exact nX
theorem Di (RR:bI rows n R ps):(aR R ps n).length+ps.length=n:=by
 unfold aR;rw[aj];exact Rl RR.2.2.inc RR.2.2.low
end
theorem xU {mv:LR9} (wm:∀xs∈mv,xs.length=mv.length):∀t,ig mv t (List.replicate mv.length 0)=List.replicate mv.length 0
 | 0=>rfl
 | t+1=>by
  show oU mv (ig mv t _)=_
  rw[xU wm t];refine Fh (by rw[uW,aD]) λc hc=>?_
  rw[uW] at hc;rw[Pu wm (by rw[aD]) hc,cJ λj _=>?_]
  ·rw[aa,df,if_pos hc];rfl
  ·rw[aa,df]
   split <;> exact dJ _
section
variable {mv pt lk pus:LR9} {pr go:List Rat} {T:Nat}
theorem MI (wm:∀xs∈mv,xs.length=mv.length) (lg:go.length=mv.length):eI mv T (List.replicate mv.length 0) go=go:=by
 unfold eI;rw[xU wm];refine Fh (by rw[cT,aD,lg,Ky]) λc hc=>?_
 rw[cT,aD,lg,Ky] at hc;rw[Iq (by rw[aD,lg]) (by lia)];have:(List.replicate mv.length (0:Rat)).getD c 0=0:=by rw[aa,df];split <;> rfl
 rw[this];grind
theorem cf0 (D:eG mv pt lk):FE mv pt (List.replicate mv.length 0) (List.replicate T (List.replicate pt.length 0)):=λk hk=>by
 rw[aD] at hk
 have e:jU mv pt (List.replicate mv.length 0) (List.replicate T (List.replicate pt.length 0)) k=List.replicate mv.length 0:=by
  have:=Iv (T:=k) D (st:=List.replicate mv.length 0) (by rw[aD]);rw[xU D.mw] at this;refine Eq.trans ?_ this;unfold jU;rw[List.take_replicate,List.take_replicate,jk hk,Ky]
 refine ⟨1,1,by decide,cV,cV,λx hx=>?_,λxs hx x hx'=>?_⟩
 ·rw[e] at hx;rw[(cW.mp hx).2];exact Fr.zero
 ·rw[(cW.mp hx).2] at hx';rw[(cW.mp hx').2];exact Fr.zero
end
structure Ts (mv pt:LR9) (st pu:List Rat):Prop where
 f2:∀xs∈mv,rf xs st
 part:∀kk,∀x∈nextK mv pt st pu kk,nB x
 su:∀u∈pu,nB u
 sp:∀row∈pt,∀y∈row,nB y
 mul:∀u∈pu,∀row∈pt,∀y∈row,nB (u*y)
inductive F0 (K:FG9) (vs:List V) (H:Hp) (Q:VK) (E9:XK):Prop
 | mk (r s u:Addr) (H0:Hp) (mv pt lk:LR9) (st pu:List Rat):vs=[.ref r,.ref s,.ref u]->eQ K H0 H r mv pt lk->eG mv pt lk->cF K H s st->cF K H u pu->st.length=mv.length->pu.length=pt.length->Ts mv pt st pu->(∀t H',H t=none->aL H H'->cF K H' t (fH mv pt st pu)->Q (.ref t) H')->F0 K vs H Q E9
structure Bd (mv pt:LR9) (M1 M2 V a1 a2 c:Nat):Prop where
 m1:0 < M1
 m2:0 < M2
 b1:M1<=2^a1
 b2:M2<=2^a2
 gm:GF M1 V mv
 gp:GF M2 V pt
 vc:(mv.length+4)*V<=2^c
section
variable {mv pt lk pus:LR9} {st pu go:List Rat} {M1 M2 V a1 a2 c N Np p t T ν:Nat}
theorem Bd.v1 (B:Bd mv pt M1 M2 V a1 a2 c):V<=2^c:=ai (cI _ (by lia)) B.vc
theorem sP {M W:Nat} {x:Rat} (h0:0 < M) {a b:Nat} (h1:M<=2^a) (h2:W<=2^b) (hab:a+b<=3990) (h:Fr M W x):nB x:=by
 refine El (Tp.of h (ak _)) h0 (ai h1 (ax (by decide) (by lia))) ?_;refine ai (aK h2 h1) ?_;rw[<- a8];exact ax (by decide) (by lia)
theorem Bd.next (B:Bd mv pt M1 M2 V a1 a2 c) (D:eG mv pt lk) (ls:st.length=mv.length) (lu:pu.length=pt.length) (N0:0 < N) (dv:M2*Np∣M1*N) (hs:∀x∈st,Fr N (2^p) x) (hu:∀x∈pu,Fr Np (2^p) x) (hN:N<=2^ν) (sz:a1+ν+c+p<=3900) (sp2:a2+c<=3900):Ts mv pt st pu/\∀x∈fH mv pt st pu,Fr (M1*N) (2^(c+p)) x:=by
 have V1:=B.v1;have i4:=D.i4;have MN0:0 < M1*N:=bQ B.m1 N0;have MN:M1*N<=2^(a1+ν):=by rw[a8];exact aK B.b1 hN
 have Np0:0 < Np:=by
  rcases fw Np with z | z
  ·rw[z,zU] at dv;have:=TB dv
   lia
  ·exact z
 have NpMN:Np<=M1*N:=ai (cI _ B.m2) (jm MN0 dv)
 have one:∀u∈pu,∀row∈pt,∀y∈row,Fr (M1*N) (V*2^p) (u*y):=λu hu' row hr y hy=>by
  have:=(B.gp row hr y hy).mul (hu u hu');rw[cX];exact this.dvd dv
 have part:∀kk,kk<=pt.length->∀x∈nextK mv pt st pu kk,Fr (M1*N) (2^(c+p)) x:=λkk hkk x hx=>by
  obtain ⟨j,hj,e⟩:=bO hx;rw[jf] at hj;have e2:=AS (mv:=mv) (pt:=pt) (st:=st) (pu:=pu) (k:=kk) hj;rw[aa,af (by rw[jf];exact hj)] at e2;have e3:x=cE (mv[j]++(pt.map λxs=>xs.getD j 0).take kk) (st++pu.take kk):=by rw[<- e,<- e2];rfl
  have wj:=D.mw _ (aJ hj);rw[e3,sS (by lia)];have f1:=Fr.dot (B.gm _ (aJ hj)) hs;rw[wj] at f1
  have f2:Fr (M1*N) (4*(V*2^p)) (cE ((pt.map λxs=>xs.getD j 0).take kk) (pu.take kk)):=by
   have hc:∀y∈(pt.map λxs=>xs.getD j 0).take kk,Fr M2 V y:=λy hy=>by
    obtain ⟨xs,hxs,rfl⟩:=aE.mp (cy hy);rw[aa];cases e:xs[j]? with
    | none=>exact Fr.zero
    | some z=>exact B.gp xs hxs z (ay e)
   have:=Fr.dot (ys:=pu.take kk) hc (λy hy=>hu y (cy hy));refine (this.dvd dv).mono (az _ ?_);rw[cG,aj]
   lia
  refine (f1.add f2).mono ?_;rw[<- xl,a8,<- cR];exact az _ B.vc
 have szb:∀{x:Rat},Fr (M1*N) (2^(c+p)) x->nB x:=λh=>sP MN0 MN (ak _) (by lia) h
 have all:∀kk,∀x∈nextK mv pt st pu kk,Fr (M1*N) (2^(c+p)) x:=λkk x hx=>by
  rcases b9 pt.length kk with z | z
  ·have e:nextK mv pt st pu kk=nextK mv pt st pu pt.length:=(tz (by lia) (by lia)).trans (tz (ak _) (by lia)).symm;rw[e] at hx;exact part _ (ak _) x hx
  ·exact part kk z x hx
 refine ⟨⟨λxs hx=>⟨a1,c,ν,p,⟨M1,V,B.m1,B.b1,V1,B.gm xs hx⟩,⟨N,2^p,N0,hN,ak _,hs⟩,by lia⟩,λkk x hx=>szb (all kk x hx),λu hu'=>?_,λrow hr y hy=>?_,λu hu' row hr y hy=>szb ((one u hu' row hr y hy).mono (by rw[a8];exact az _ V1))⟩,λx hx=>?_⟩
 ·exact sP Np0 (ai NpMN MN) (ak _) (by lia) (hu u hu')
 ·exact sP B.m2 B.b2 V1 (by lia) (B.gp row hr y hy)
 ·rw[<- tz (k:=pt.length) (ak _) (by lia)] at hx;exact all _ x hx
end
section
variable {mv pt lk pus:LR9} {st pu go:List Rat} {M1 M2 V a1 a2 c N Np p t T ν k:Nat}
def Jz (mv pt pus:LR9) (st:List Rat):Prop:=∃M1 M2 V a1 a2 c N Np p ν,Bd mv pt M1 M2 V a1 a2 c/\0 < N/\N<=2^ν/\M2*Np∣N/\(∀x∈st,Fr N (2^p) x)/\(∀xs∈pus,∀x∈xs,Fr Np (2^p) x)/\a1*(pus.length+1)+ν+c*(pus.length+1)+p<=3900/\a2+c<=3900
theorem jz {M a t N ν:Nat} (h:M<=2^a) (hN:N<=2^ν):M^t*N<=2^(a*t+ν):=by
 rw[a8,qW];exact aK (iD h t) hN
theorem Bd.states (B:Bd mv pt M1 M2 V a1 a2 c) (D:eG mv pt lk) (ls:st.length=mv.length) (wp:∀xs∈pus,xs.length=pt.length) (N0:0 < N) (hN:N<=2^ν) (dv:M2*Np∣N) (hs:∀x∈st,Fr N (2^p) x) (hu:∀xs∈pus,∀x∈xs,Fr Np (2^p) x) (sz:a1*(pus.length+1)+ν+c*(pus.length+1)+p<=3900) (sp2:a2+c<=3900):∀k,k<=pus.length->(∀x∈jU mv pt st pus k,Fr (M1^k*N) (2^(c*k+p)) x)/\∀pu,pus[k]?=some pu->Ts mv pt (jU mv pt st pus k) pu:=by
 have key:∀k,k<=pus.length->(∀x∈jU mv pt st pus k,Fr (M1^k*N) (2^(c*k+p)) x)->∀pu,pus[k]?=some pu->Ts mv pt (jU mv pt st pus k) pu/\∀x∈fH mv pt (jU mv pt st pus k) pu,Fr (M1*(M1^k*N)) (2^(c+(c*k+p))) x:=λk hk f pu hpu=>by
  have mp:=ay hpu;have kl:=(aF.mp hpu).1;have e1:a1*(k+1)<=a1*(pus.length+1):=aM _ (by lia);have e2:c*(k+1)<=c*(pus.length+1):=aM _ (by lia);rw[eB,xj] at e1 e2;refine B.next D (jo ls hk) (wp pu mp) (bQ (dS B.m1) N0) ?_ f (λx hx=>(hu pu mp x hx).mono (ax (by decide) (Nat.le_add_left _ _))) (jz B.b1 hN) (by lia) sp2;exact lC dv (lC (dq _ _) (dq _ _))
 have fr:∀k,k<=pus.length->∀x∈jU mv pt st pus k,Fr (M1^k*N) (2^(c*k+p)) x:=by
  intro k
  induction k with
  | zero =>
   intro _ x hx;rw[Nat.pow_zero,mM,zU,Nat.zero_add];exact hs x hx
  | succ k ih =>
   intro hk x hx;have e:=af (show k < pus.length by lia);rw[lZ e] at hx;have:=(key k (by lia) (ih (by lia)) _ e).2 x hx;rw[<- cR,bZ M1,<- fG,show c+(c*k+p)=c*(k+1)+p by rw[eB];lia] at this;exact this
 exact λk hk=>⟨fr k hk,λpu hpu=>(key k hk (fr k hk) pu hpu).1⟩
theorem Jz.nx (h:Jz mv pt pus st) (D:eG mv pt lk) (ls:st.length=mv.length) (wp:∀xs∈pus,xs.length=pt.length) (hk:k<=pus.length) (hpu:pus[k]?=some pu):Ts mv pt (jU mv pt st pus k) pu:=by
 obtain ⟨M1,M2,V,a1,a2,c,N,Np,p,ν,B,N0,hN,dv,hs,hu,sz,sp2⟩:=h;exact (B.states D ls wp N0 hN dv hs hu sz sp2 k hk).2 pu hpu
theorem Jz.szn (h:Jz mv pt pus st) (D:eG mv pt lk) (ls:st.length=mv.length) (wp:∀xs∈pus,xs.length=pt.length) (hk:k<=pus.length):∀x∈jU mv pt st pus k,nB x:=λx hx=>by
 obtain ⟨M1,M2,V,a1,a2,c,N,Np,p,ν,B,N0,hN,dv,hs,hu,sz,sp2⟩:=h;have e1:a1*k<=a1*(pus.length+1):=aM _ (by lia);have e2:c*k<=c*(pus.length+1):=aM _ (by lia);exact sP (bQ (dS B.m1) N0) (jz B.b1 hN) (ak _) (by lia) ((B.states D ls wp N0 hN dv hs hu sz sp2 k hk).1 x hx)
def Tx (mv:LR9) (st:List Rat) (T:Nat):Prop:=∃M1 V a1 c N p ν,0 < M1/\M1<=2^a1/\GF M1 V mv/\(mv.length+4)*V<=2^c/\0 < N/\N<=2^ν/\(∀x∈st,Fr N (2^p) x)/\a1*(T+1)+ν+c*(T+1)+p<=3900
theorem QV (gm:GF M1 V mv) (wm:∀xs∈mv,xs.length=mv.length) (vc:(mv.length+4)*V<=2^c) (ls:st.length=mv.length) (hs:∀x∈st,Fr N (2^p) x):∀t,∀x∈ig mv t st,Fr (M1^t*N) (2^(c*t+p)) x:=by
 intro t
 induction t with
 | zero =>
  intro x hx;rw[Nat.pow_zero,mM,zU,Nat.zero_add];exact hs x hx
 | succ t ih =>
  intro x hx;obtain ⟨row,hr,rfl⟩:=aE.mp (show x∈mv.map λxs=>cE xs (ig mv t st) from hx);have f:=Fr.dot (gm row hr) ih;rw[<- cR,bZ M1,<- fG] at f;refine f.mono ?_;rw[wm row hr,<- cR,show c*(t+1)+p=c+(c*t+p) by rw[eB];lia,a8 2 c];exact az _ (ai (az V (show mv.length<=mv.length+4 by lia)) vc)
theorem Tx.fit (h:Tx mv st T) (wm:∀xs∈mv,xs.length=mv.length) (ls:st.length=mv.length) (ht:t<=T):(∀xs∈mv,rf xs (ig mv t st))/\∀x∈ig mv t st,nB x:=by
 obtain ⟨M1,V,a1,c,N,p,ν,m0,m1,gm,vc,N0,hN,hs,sz⟩:=h;have f:=QV gm wm vc ls hs t;have V1:V<=2^c:=ai (cI _ (by lia)) vc;have e1:a1*t<=a1*T:=aM _ ht;have e2:c*t<=c*T:=aM _ ht;rw[eB,eB,xj,xj] at sz;exact ⟨λxs hx=>⟨a1,c,a1*t+ν,c*t+p,⟨M1,V,m0,m1,V1,gm xs hx⟩,⟨M1^t*N,2^(c*t+p),bQ (dS m0) N0,jz m1 hN,ak _,f⟩,by lia⟩,λx hx=>sP (bQ (dS m0) N0) (jz m1 hN) (ak _) (by lia) (f x hx)⟩
def TZ (mv pt:LR9) (T:Nat):Prop:=∃M1 M2 V a1 a2 c,Bd mv pt M1 M2 V a1 a2 c/\a1*(T+1)+a2+c*(T+2)<=3900
theorem TZ.row (h:TZ mv pt T) (wm:∀xs∈mv,xs.length=mv.length) (wp:∀xs∈pt,xs.length=mv.length):∀xs∈pt,Tx mv xs T:=λxs hx=>by
 obtain ⟨M1,M2,V,a1,a2,c,B,sz⟩:=h;refine ⟨M1,V,a1,c,M2,c,a2,B.m1,B.b1,B.gm,B.vc,B.m2,B.b2,λx hx'=>(B.gp xs hx x hx').mono B.v1,?_⟩;rw[eB c T 2] at sz;rw[eB c T 1]
 lia
end
inductive JJ (K:FG9) (vs:List V) (H:Hp) (Q:VK) (E9:XK):Prop
 | mk (r s p:Addr) (H0 H1:Hp) (mv pt lk pus:LR9) (st:List Rat):vs=[.ref r,.ref s,.ref p]->eQ K H0 H r mv pt lk->eG mv pt lk->cF K H s st->st.length=mv.length->bE K H1 H p pus->pus.length<=100->(∀xs∈pus,xs.length=pt.length)->Jz mv pt pus st->(∀t H',H t=none->aL H H'->cF K H' t (jU mv pt st pus pus.length)->Q (.ref t) H')->JJ K vs H Q E9
inductive CV (K:FG9) (vs:List V) (H:Hp) (Q:VK) (E9:XK):Prop
 | mk (r s:Addr) (T:Nat) (H0:Hp) (mv pt lk:LR9) (st:List Rat):vs=[.ref r,.ref s,.int T]->T<=100->eQ K H0 H r mv pt lk->eG mv pt lk->cF K H s st->st.length=mv.length->Tx mv st T->(∀t H',H t=none->aL H H'->cF K H' t (ig mv T st)->Q (.ref t) H')->CV K vs H Q E9
inductive CW (K:FG9) (vs:List V) (H:Hp) (Q:VK) (E9:XK):Prop
 | mk (r:Addr) (T:Nat) (H0:Hp) (mv pt lk:LR9):vs=[.ref r,.int T]->T<=20->eQ K H0 H r mv pt lk->eG mv pt lk->TZ mv pt T->(∀q H',H q=none->aL H H'->bE K H H' q (kry mv pt T)->Q (.ref q) H')->CW K vs H Q E9
section
variable {X:Cx}
theorem Lo (hc:X.calm=true):oR X (.builtin "max") (λxs H Q=>∃(p:Addr) (ns:List Int),xs=[.ref p]/\bR X.K H p (ns.map V.int)/\0 < ns.length/\∀M,M∈ns->(∀a,a∈ns->a<=M)->Q (.int M) H):=by
 sleep 9;obtain ⟨p,ns,rfl,hp,hne,q⟩:=h;obtain ⟨u,rfl,ru⟩:=vals1 r;cases ru;obtain ⟨its,r2,pl,_⟩:=I.list hp;have hi:=intsAre_of r2;have hl:=pl.isList;obtain ⟨xs,e⟩:=hi.allInts.items
 have hns:ns=xs.toList.map (·.1):=by
  rw[<- hi.numsOf,<- nums_intItems,<- e]
 have hsz:0 < xs.size:=by
  have h3:=hne;rw[hns,aj,Array.length_toList] at h3;exact h3
 rw[e] at hl;refine max_intList (I.ok.hd hc) hl hsz λv h' tk hv hk=>?_
 obtain ⟨t,rfl⟩:=intItems_at hv;obtain ⟨h1,h2⟩:=argBest_gt (numAt xs) (xs.size - 1);refine ⟨.int _,H,I.kept hk,⟨_,rfl⟩,q _ ?_ λa ha=>?_⟩
 ·rw[hns,numAt_eq];exact getD_in (by rw[aj,Array.length_toList];lia)
 ·rw[hns] at ha;obtain ⟨j,hj,rfl⟩:=mem_getD ha;rw[aj,Array.length_toList] at hj;rw[<- numAt_eq];exact h2 j (by lia)
end
theorem Dc {α β:Type} {f:α->β}:∀{l1:List α} {l2:List β},Paired (λa b=>b=f a) l1 l2->l2=l1.map f
 | _,_,.nil=>rfl
 | _,_,.cons h r=>by rw[h,Dc r];rfl
def NC (mv pt:LR9) (T:Nat):Prop:=T<=12/\(T<=3\/((∀xs∈mv++pt,∀x∈xs,x.den<=9/\x.num.natAbs < 1000)/\(5 < mv.length->T<=mv.length)/\(3<=mv.length->mv.length<=5->T<=mv.length+1)))
def RQ (x:Rat):Int:=(x.den:Int)+(x.num.natAbs:Int) / 1000*9
theorem O1 {x:Rat} (h:RQ x<=9):x.den<=9/\x.num.natAbs < 1000:=by
 unfold RQ at h;have:=x.den_pos
 lia
inductive CB (K:FG9) (vs:List V) (H:Hp) (Q:VK) (E9:XK):Prop
 | mk (b r:Addr) (H0:Hp) (mv pt lk:LR9):vs=[.ref b,.ref r]->ic H b->H0 b≠none->eQ K H0 H r mv pt lk->eG mv pt lk->(∀xs∈mv++pt,∀x∈xs,nB x)->(∀(T:Nat) H',NC mv pt T->ic H' b->c7 b H H'->Q (.int T) H')->CB K vs H Q E9
inductive FW (K:FG9) (vs:List V) (H:Hp) (Q:VK) (E9:XK):Prop
 | mk (b r:Addr) (T w:Nat) (H0:Hp) (mv pt lk:LR9):vs=[.ref b,.ref r,.int T,.int w]->T<=100->1<=w->w<=1000->ic H b->H0 b≠none->eQ K H0 H r mv pt lk->eG mv pt lk->(∀p pus H',H p=none->bE K H H' p pus->pus.length=T->(∀xs∈pus,xs.length=pt.length/\∀x∈xs,Dr (max w 6) x)->ic H' b->c7 b H H'->Q (.ref p) H')->FW K vs H Q E9
section
variable {mv pt lk pus:LR9} {st pr go:List Rat} {T k:Nat}
theorem Lc (D:eG mv pt lk) (ls:st.length=mv.length) (lg:go.length=mv.length) (lp:pus.length=T) (wp:∀xs∈pus,xs.length=pt.length) (h1:jU mv pt st pus T=go) (lpr:pr.length=mv.length) (h2:∀xs∈kry mv pt T,cE xs pr=0):cE pr (eI mv T st go)=0:=by
 have ll:=Bc (T:=T) ls lg;rw[c6 (by lia),lpr];have f:=Eo (pus:=pus) (st:=st) D ls T (by lia) wp;rw[h1] at f;have wT:=fD (mv:=mv) rfl D.pw T
 have e1:(bo mv.length λc=>pr.getD c 0*(eI mv T st go).getD c 0)=bo (kry mv pt T).length λi=>((pus.take T).reverse.flatten).getD i 0*bo mv.length λc=>bU (kry mv pt T) i c*pr.getD c 0:=by
  have q:∀c,c < mv.length->pr.getD c 0*(eI mv T st go).getD c 0=bo (kry mv pt T).length λi=>((pus.take T).reverse.flatten).getD i 0*(bU (kry mv pt T) i c*pr.getD c 0):=λc hc=>by
   have e:(eI mv T st go).getD c 0=bo (kry mv pt T).length λi=>((pus.take T).reverse.flatten).getD i 0*bU (kry mv pt T) i c:=by
    unfold eI;rw[Iq (by rw[lg,iS ls]) (by lia),f c hc];grind
   rw[e,<- bV];exact aH λi _=>by grind
  rw[aH q,dn];exact aH λi _=>bV
 rw[e1];refine cJ λi hi=>?_
 have w1:=wT _ (aJ hi);have:=h2 _ (aJ hi);rw[c6 (by lia),w1] at this
 have q:(bo mv.length λc=>bU (kry mv pt T) i c*pr.getD c 0)=0:=by
  refine Eq.trans (aH λc _=>?_) this;unfold bU;rw[aa (l:=kry mv pt T),af hi];rfl
 rw[q,dJ]
theorem Jz.sznP (h:Jz mv pt pus st):∀xs∈pus,∀x∈xs,nB x:=λxs hx x hx'=>by
 obtain ⟨M1,M2,V,a1,a2,c,N,Np,p,ν,B,N0,hN,dv,hs,hu,sz,sp2⟩:=h
 have Np0:0 < Np:=by
  rcases fw Np with z | z
  ·rw[z,zU] at dv;have:=TB dv
   lia
  ·exact z
 have le:Np<=N:=ai (cI _ B.m2) (jm N0 dv);exact sP Np0 (ai le hN) (ak _) (by lia) (hu xs hx x hx')
end
inductive CN (K:FG9) (vs:List V) (H:Hp) (Q:VK) (E9:XK):Prop
 | mk (r s g p:Addr) (T:Nat) (H0 H1:Hp) (mv pt lk pus:LR9) (st go:List Rat):vs=[.ref r,.ref s,.ref g,.int T,.ref p]->T<=100->eQ K H0 H r mv pt lk->eG mv pt lk->cF K H s st->st.length=mv.length->cF K H g go->bE K H1 H p pus->pus.length=T->(∀xs∈pus,xs.length=pt.length)->Jz mv pt pus st->jU mv pt st pus T=go->(∀H',aL H H'->Q (.bl true) H')->CN K vs H Q E9
structure PrF (mv pt:LR9) (T:Nat) (st go pr:List Rat):Prop where
 ad:TZ mv pt T
 al:Tx mv st T
 sg:∀x∈go,nB x
 sr:∀x∈pr,nB x
 f1:∀xs∈kry mv pt T,rf pr xs
 f2:rf pr (eI mv T st go)
inductive Ad (K:FG9) (vs:List V) (H:Hp) (Q:VK) (E9:XK):Prop
 | mk (r s g p:Addr) (T:Nat) (H0:Hp) (mv pt lk:LR9) (st go pr:List Rat):vs=[.ref r,.ref s,.ref g,.int T,.ref p]->T<=20->eQ K H0 H r mv pt lk->eG mv pt lk->cF K H s st->st.length=mv.length->cF K H g go->go.length=mv.length->cF K H p pr->pr.length=mv.length->PrF mv pt T st go pr->(∀xs∈kry mv pt T,cE xs pr=0)->cE pr (eI mv T st go)=1->(∀H',aL H H'->Q (.bl true) H')->Ad K vs H Q E9
structure CtF (mv pt:LR9) (T:Nat) (st go:List Rat) (D W0 E W1:Nat):Prop where
 cf:FE mv pt st (List.replicate T (List.replicate pt.length 0))
 sg:∀x∈go,nB x
 co:TX mv pt (eI mv T st go) D W0 E W1
 en:∀(pus:LR9) (q:Nat),0 < q->q<=(16*W0)^mv.length->pus.length=T->(∀xs∈pus,∀x∈xs,Tp (E*q) (D*(mv.length*(W1*(16*W0)^mv.length))) x)->Jz mv pt pus st
def NM (v:Nat):Rat:=⟨1,v+1,Nat.succ_ne_zero v,by simp⟩
theorem Pa {v:Nat} (h:v < 3):Fr 6 1 (NM v):=by
 have e:(NM v).num.natAbs<=1:=ak _;have f:=Fr.own (NM v) e
 have d:(NM v).den∣6:=by
  show v+1∣6
  rcases (show v=0\/v=1\/v=2 by lia) with rfl | rfl | rfl <;> decide
 exact f.dvd d
def TV (pt:LR9) (T w:Nat) (pus:LR9):Prop:=pus.length=T/\∀xs∈pus,xs.length=pt.length/\∀x∈xs,Dr (max w 6) x
def GoP (mv pt:LR9) (T w:Nat) (st go:List Rat):Prop:=(∀x∈go,Dr (max w 6) x)\/∃pus,TV pt T w pus/\(go=jU mv pt st pus T\/∃a v,v < 3/\go=(jU mv pt st pus T).set a ((jU mv pt st pus T).getD a 0+NM v))
inductive F7 (K:FG9) (vs:List V) (H:Hp) (Q:VK) (E9:XK):Prop
 | mk (b r s:Addr) (T w:Nat) (H0:Hp) (mv pt lk:LR9) (st:List Rat):vs=[.ref b,.ref r,.ref s,.int T,.int w]->T<=100->1<=w->w<=1000->ic H b->H0 b≠none->eQ K H0 H r mv pt lk->eG mv pt lk->cF K H s st->s≠b->st.length=mv.length->(∀pus,TV pt T w pus->Jz mv pt pus st)->(∀g go H',H g=none->cF K H' g go->go.length=mv.length->GoP mv pt T w st go->ic H' b->c7 b H H'->Q (.ref g) H')->F7 K vs H Q E9
theorem Mz (ws vs:List V) (M1 M2 M3:Nat):∃μ:V->Nat,(∀x∈ws,μ x=M2)/\(∀x∈vs,x∉ws->μ x=M3)/\(∀x,x∉ws->x∉vs->μ x=M1)/\∀x,μ x=M1\/μ x=M2\/μ x=M3:=by
 classical
 refine ⟨λx=>if x∈ws then M2 else if x∈vs then M3 else M1,λx h=>if_pos h,λx h h'=>?_,λx h h'=>?_,λx=>?_⟩
 ·show (if x∈ws then M2 else if x∈vs then M3 else M1)=M3
  rw[if_neg h',if_pos h]
 ·show (if x∈ws then M2 else if x∈vs then M3 else M1)=M1
  rw[if_neg h,if_neg h']
 ·show (if x∈ws then M2 else if x∈vs then M3 else M1)=M1\/(if x∈ws then M2 else if x∈vs then M3 else M1)=M2\/(if x∈ws then M2 else if x∈vs then M3 else M1)=M3
  by_cases h:x∈ws
  ·rw[if_pos h];exact .inr (.inl rfl)
  ·rw[if_neg h];by_cases h':x∈vs
   ·rw[if_pos h'];exact .inr (.inr rfl)
   ·rw[if_neg h'];exact .inl rfl
theorem jT.apart {K:FG9} {A:Addr->Prop} {H:Hp} {n:Nat} {C:V->Rat->Prop} {m p l b q0:Addr} {us ws vs:List V} (h:jT K A H n C m p l b q0 us ws vs):(∀x∈us,x∉ws/\x∉vs)/\∀x∈vs,x∉ws:=by
 obtain ⟨n1,n2,n3⟩:=dU.mp h.nd;obtain ⟨n4,n5,n6⟩:=dU.mp n1;exact ⟨λx hx=>⟨λz=>n3 x (aA.mpr (.inl hx)) x z rfl,λz=>n6 x hx x z rfl⟩,λx hx z=>n3 x (aA.mpr (.inr hx)) x z rfl⟩
theorem jT.fr3 {K:FG9} {A:Addr->Prop} {H:Hp} {n c:Nat} {m p l b q0:Addr} {us ws vs:List V} (h:jT K A H n (λ_=>Dr (2^c)) m p l b q0 us ws vs):∃M1 M2 M3,0 < M1/\0 < M2/\0 < M3/\M1<=2^(c*(n*n))/\M2<=2^(c*(ws.length*n))/\M3<=2^(c*(vs.length*n))/\(∀x∈us,fX K A H n (Fr M1 (2^c)) x)/\(∀x∈ws,fX K A H n (Fr M2 (2^c)) x)/\∀x∈vs,fX K A H n (Fr M3 (2^c)) x:=by
 have one:∀l:List V,(∀x∈l,x∈us++vs++ws)->∃M,0 < M/\M<=2^(c*(l.length*n))/\∀x∈l,fX K A H n (Fr M (2^c)) x:=λl hl=>by
  obtain ⟨ra,pa,la,ha⟩:=Ay λx hx=>h.row x (hl x hx)
  obtain ⟨M,m0,m1,m2⟩:=Ob (c:=c) (n:=n) (rows:=ra) ha;exact ⟨M,m0,by rw[la] at m1;exact m1,IH pa λqs hq=>⟨(ha qs hq).1,m2 qs hq⟩⟩
 obtain ⟨M1,a1,a2,a3⟩:=one us λx hx=>by simp [hx]
 obtain ⟨M2,b1,b2,b3⟩:=one ws λx hx=>by simp [hx]
 obtain ⟨M3,c1,c2,c3⟩:=one vs λx hx=>by simp [hx]
 rw[h.lm] at a2;exact ⟨M1,M2,M3,a1,b1,c1,a2,b2,c2,a3,b3,c3⟩
inductive CM (K:FG9) (xs:List V) (H:Hp) (Q:VK) (E9:XK):Prop
 | mk (b m p l q0:Addr) (n V1:Nat) (μ:V->Nat) (A:Addr->Prop) (us ws vs:List V):xs=[.ref b,.ref m,.ref p,.ref l]->Ie A m p l b q0->jT K A H n (λx=>Fr (μ x) V1) m p l b q0 us ws vs->n<=8->ws.length<=4->vs.length<=4->(∀x,0 < μ x)->(∀x,μ x<=2^800)->(∃M,∀x,x∉ws->x∉vs->μ x=M)->V1<=2^20->(∀q,H q=none->A q)->(∀r us' H',H' r=some (.tup [.ref m,.ref p,.ref l])->jT K A H' n (λx=>Fr (μ x) (9^3*V1)) m p l b q0 us' ws vs->iH A b m H H'->Q (.ref r) H')->CM K xs H Q E9
def Up (n i o w c:Nat) (mv pt lk:LR9):Prop:=∃M1 M2 M3 V1:Nat,0 < M1/\0 < M2/\0 < M3/\GF M1 V1 mv/\GF M2 V1 pt/\GF M3 V1 lk/\((w<=9/\M1=2520/\M2=2520/\M3=2520/\V1=9^3*9)\/(9 < w/\M1<=2^(c*(n*n))/\M2<=2^(c*(i*n))/\M3<=2^(c*(o*n))/\V1=9^3*2^c))
inductive CH (K:FG9) (vs:List V) (H:Hp) (Q:VK) (E9:XK):Prop
 | mk (b:Addr) (n i o w c:Nat):vs=[.ref b,.int n,.int i,.int o,.int w]->ic H b->n<=8->i<=4->o<=4->1<=w->w<=1000000->max w 6<=2^c->c<=20->c*((n+i+o)*n)<=800->(∀r mv pt lk H',eQ K H H' r mv pt lk->mv.length=n->pt.length=i->lk.length=o->eG mv pt lk->Up n i o w c mv pt lk->ic H' b->c7 b H H'->Q (.ref r) H')->CH K vs H Q E9
def Rg (mv pt:LR9) (w:Nat):Prop:=(w<=9/\Bd mv pt 1 1 (9^3) 0 0 14)\/(w<=9/\mv.length<=5/\Bd mv pt 2520 2520 (9^3*9) 12 12 16)\/(w=1000/\mv.length<=2/\∃M1 M2,Bd mv pt M1 M2 (9^3*2^20) 80 160 33)
def NS (K:FG9):Sp:=λvs H Q _=>∃b:Addr,vs=[.ref b]/\ic H b /\
 ∀t r (w a c:Nat) mv pt lk H',H' t=some (.tup [.ref r,.int w])->eQ K H H' r mv pt lk->eG mv pt lk->Ku mv pt lk->iM mv pt a c->Rg mv pt w->1<=w->w<=1000->ic H' b->c7 b H H'->Q (.ref t) H'
theorem Jh {M V:Nat} {l:LR9} (h:GF M V l) (k:Nat):GF (k*M) V l:=λxs hx x hx'=>(h xs hx x hx').scaleL k
theorem Up.n {n i o w c:Nat} {mv pt lk:LR9} (h:Up n i o w c mv pt lk):PtF n i o w c mv pt lk:=by
 obtain ⟨M1,M2,M3,V1,a1,a2,a3,f1,f2,f3,hc⟩:=h;rcases hc with ⟨w9,rfl,rfl,rfl,e⟩ | ⟨w9,e1,e2,e3,e⟩
 ·exact ⟨2520,V1,by decide,f1,f2,f3,.inl ⟨w9,rfl,e⟩⟩
 ·refine ⟨M1*M2*M3,V1,bQ (bQ a1 a2) a3,?_,?_,?_,.inr ⟨w9,?_,e⟩⟩
  ·have:=Jh f1 (M2*M3);rwa [show M2*M3*M1=M1*M2*M3 by rw[bZ (M2*M3),cR]] at this
  ·have:=Jh f2 (M1*M3);rwa [show M1*M3*M2=M1*M2*M3 by rw[cR,bZ M3,cR]] at this
  ·exact Jh f3 (M1*M2)
  ·refine ai (aK (aK e1 e2) e3) ?_;rw[<- a8,<- a8,show c*((n+i+o)*n)=c*(n*n)+c*(i*n)+c*(o*n) by rw[xl,xl,eB,eB]];exact ak _
def zd (n a1 a2:Nat):Nat:=a1*(n - 1)+a2
def zw (n a1 a2 c:Nat):Nat:=zd n a1 a2+c*n
def zq (n a1 a2 c:Nat):Nat:=n*(4+zw n a1 a2 c)
def ze (a1 a2 T b:Nat):Nat:=a1*T+a2+b
def zu (a1 a2 c T b g:Nat):Nat:=ze a1 a2 T b+(c*T+g+1)
abbrev ZS (n a1 a2 c T b g:Nat):Prop:=ze a1 a2 T b<=1500/\c*T+g<=1800/\zw n a1 a2 c+ze a1 a2 T b+zu a1 a2 c T b g+zd n a1 a2+2<=4300/\(n+1)*(zw n a1 a2 c+ze a1 a2 T b+zu a1 a2 c T b g+zd n a1 a2+6)<=8900/\a1*(T+1)+(a2+ze a1 a2 T b+zq n a1 a2 c)+c*(T+1)+(zd n a1 a2+3+zu a1 a2 c T b g+zq n a1 a2 c)<=3900/\a2+c<=3900/\a1*(T+1)+a2+c*(T+2)<=3900
abbrev ZP (n a1 a2 c T b g:Nat):Prop:=2*(zq n a1 a2 c+5+zu a1 a2 c T b g)+zu a1 a2 c T b g<=3930/\2*(zq n a1 a2 c+5+zu a1 a2 c T b g)+(a1*T+a2+c*(T+1))<=3930
theorem LF {n n' a1 a2 c T T' b b' g:Nat} (hn:n<=n') (hT:T<=T') (hb:b<=b'):zd n a1 a2<=zd n' a1 a2/\zw n a1 a2 c<=zw n' a1 a2 c/\zq n a1 a2 c<=zq n' a1 a2 c/\ze a1 a2 T b<=ze a1 a2 T' b'/\zu a1 a2 c T b g<=zu a1 a2 c T' b' g/\a1*T<=a1*T'/\c*T<=c*T'/\a1*(T+1)<=a1*(T'+1)/\c*(T+1)<=c*(T'+1)/\c*(T+2)<=c*(T'+2):=by
 have e1:a1*(n - 1)<=a1*(n' - 1):=aM _ (by lia);have e2:c*n<=c*n':=aM _ hn;have e3:a1*T<=a1*T':=aM _ hT;have e4:c*T<=c*T':=aM _ hT;have w:zw n a1 a2 c<=zw n' a1 a2 c:=by unfold zw zd;lia
 have q:zq n a1 a2 c<=zq n' a1 a2 c:=aK hn (by lia);refine ⟨by unfold zd;lia,w,q,by unfold ze;lia,by unfold zu ze;lia,e3,e4,aM _ (by lia),aM _ (by lia),aM _ (by lia)⟩
theorem ko {n n' a1 a2 c T T' b b' g:Nat} (hn:n<=n') (hT:T<=T') (hb:b<=b') (h:ZS n' a1 a2 c T' b' g):ZS n a1 a2 c T b g:=by
 obtain ⟨h1,h2,h3,h4,h5,h6,h7⟩:=h;obtain ⟨m1,m2,m3,m4,m5,m6,m7,m8,m9,m10⟩:=LF (a1:=a1) (a2:=a2) (c:=c) (g:=g) hn hT hb;refine ⟨by lia,by lia,by lia,ai (aK (by lia) (by lia)) h4,by lia,h6,by lia⟩
theorem zG {n n' a1 a2 c T T' b b' g:Nat} (hn:n<=n') (hT:T<=T') (hb:b<=b') (h:ZP n' a1 a2 c T' b' g):ZP n a1 a2 c T b g:=by
 obtain ⟨h1,h2⟩:=h;obtain ⟨m1,m2,m3,m4,m5,m6,m7,m8,m9,m10⟩:=LF (a1:=a1) (a2:=a2) (c:=c) (g:=g) hn hT hb;exact ⟨by lia,by lia⟩
section
variable {mv pt lk pus:LR9} {st pu go pr:List Rat} {M1 M2 V a1 a2 c B b g p t T w:Nat}
theorem Bd.kry (X:Bd mv pt M1 M2 V a1 a2 c) (D:eG mv pt lk):∀t,∀xs∈kry mv pt t,∀x∈xs,Fr (M1^(t - 1)*M2) (2^(c*t)) x:=by
 intro t
 induction t with
 | zero=>intro xs hx;exact nomatch hx
 | succ t ih =>
  intro xs hx x hx';rcases aA.mp (show xs∈pt++(L2.kry mv pt t).map (oU mv) from hx) with hx | hx
  ·refine Fr.up (X.gp xs hx x hx') (dq _ _) (ai X.v1 (ax (by decide) ?_));exact dE _ (by lia)
  ·obtain ⟨ys,hy,rfl⟩:=aE.mp hx;obtain ⟨row,hr,rfl⟩:=aE.mp (show x∈mv.map λzs=>cE zs ys from hx');rcases t with _ | t
   ·exact nomatch hy
   have f:=Fr.dot (X.gm row hr) (ih ys hy);rw[show M1*(M1^(t+1 - 1)*M2)=M1^(t+1+1 - 1)*M2 by rw[<- cR,show t+1 - 1=t by lia,show t+1+1 - 1=t+1 by lia,fG,bZ M1]] at f;refine f.mono ?_;rw[D.mw row hr,<- cR,show c*(t+1+1)=c+c*(t+1) by rw[eB c (t+1)];lia,a8 2 c];exact az _ (ai (az V (show mv.length<=mv.length+4 by lia)) X.vc)
theorem Bd.end (X:Bd mv pt M1 M2 V a1 a2 c) (D:eG mv pt lk) (ls:st.length=mv.length) (lp:pus.length=T) (wp:∀xs∈pus,xs.length=pt.length) (b0:0 < B) (b1:B<=2^b) (hs:∀x∈st,Fr B (2^g) x) (hu:∀xs∈pus,∀x∈xs,Fr B (2^g) x) (Z:ZS mv.length a1 a2 c T b g):Jz mv pt pus st/\∀k,k<=T->∀x∈jU mv pt st pus k,Fr (M1^k*(M2*B)) (2^(c*k+g)) x:=by
 obtain ⟨h1,h2,h3,h4,h5,h6,h7⟩:=Z;have n0:0 < M2*B:=bQ X.m2 b0;have hN:M2*B<=2^(a2+b):=by rw[a8];exact aK X.b2 b1
 have hs':∀x∈st,Fr (M2*B) (2^g) x:=λx hx=>(hs x hx).scaleL _
 have sz:a1*(pus.length+1)+(a2+b)+c*(pus.length+1)+g<=3900:=by
  rw[lp];unfold zu ze at h5
  lia
 exact ⟨⟨M1,M2,V,a1,a2,c,M2*B,B,g,a2+b,X,n0,hN,iW _,hs',hu,sz,h6⟩,λk hk=>(X.states D ls wp n0 hN (iW _) hs' hu sz h6 k (by lia)).1⟩
theorem RY {n a1 a2 c T b g:Nat} (h:ZS n a1 a2 c T b (g+1)):ZS n a1 a2 c T b g:=by
 obtain ⟨h1,h2,h3,h4,h5,h6,h7⟩:=h;have e:zu a1 a2 c T b g<=zu a1 a2 c T b (g+1):=by unfold zu;lia
 exact ⟨h1,by lia,by lia,ai (aM _ (by lia)) h4,by lia,h6,h7⟩
structure Us (mv pt:LR9) (w T M1 M2 V a1 a2 c b1 b2:Nat):Prop where
 bd:Bd mv pt M1 M2 V a1 a2 c
 z1:ZS mv.length a1 a2 c T b1 23
 zp:ZP mv.length a1 a2 c T b1 23
 z2:ZS mv.length a1 a2 c T b2 23
 dr:∀l:List Rat,(∀x∈l,Dr (max w 6) x)->∃B,0 < B/\6∣B/\(∀x∈l,Fr B (2^22) x)/\(l.length<=2*mv.length+T*pt.length->B<=2^b1)/\(l.length<=2*mv.length+2*(T*pt.length)->B<=2^b2)
end
section
variable {mv pt lk pus pus':LR9} {st st' pu go pr:List Rat} {M1 M2 V a1 a2 c B b1 b2 g p t T w:Nat}
theorem vW:∀(xs:List Rat) (k:Nat),cE xs (List.replicate k 0)=0
 | [],_=>by simp [cE]
 | x :: xs,0=>by simp [cE]
 | x :: xs,k+1=>by
  have:=vW xs k;simp only[cE,iE,List.zipWith_cons_cons,List.sum_cons] at this ⊢;rw[this];grind
theorem uR:∀t,ig mv t (List.replicate mv.length 0)=List.replicate mv.length 0
 | 0=>rfl
 | t+1=>by
  show (mv.map λxs=>cE xs (ig mv t (List.replicate mv.length 0)))=_
  rw[uR t]
  have:∀xs:List Rat,cE xs (List.replicate mv.length (0:Rat))=0:=λxs=>by
   exact vW xs _
  rw[iF λxs _=>this xs,hJ]
end
open PySem.MeetsSeq
section
variable {rows rows' R R' Hd Hd':LR9} {n:Nat} {ps ps' psd psd':List Nat}
theorem Dj (RR:bI rows n R ps) {x:Nat->Rat} (far:∀c,n<=c->x c=0) (hx:∀j,j < ps.length->(bo n λc=>bU R j c*x c)=0):eT (aR R ps n).length (bU (aR R ps n)) x:=by
 have Rf:=RR.2.2;have lN:(aR R ps n).length=(iQ ps n).length:=by unfold aR;rw[aj]
 have fN:∀t,t < (aR R ps n).length->(iQ ps n).getD t 0 < n/\(iQ ps n).getD t 0∉ps:=λt ht=>tE.mp (getD_in (by lia))
 have vN:∀t,t < (aR R ps n).length->∀c,bU (aR R ps n) t c=(JU R ps n ((iQ ps n).getD t 0)).getD c 0:=λt ht c=>by
  have h:t < (iQ ps n).length:=by lia
  unfold bU aR;rw[aa (l:=List.map _ _),aG,af h,aa (l:=iQ ps n),af h];rfl
 have nd:(iQ ps n).Nodup:=by
  unfold iQ;exact List.Nodup.sublist List.filter_sublist List.nodup_range
 refine ⟨λt=>x ((iQ ps n).getD t 0),λc=>?_⟩
 suffices y0:∀c,x c - (bo (aR R ps n).length λt=>x ((iQ ps n).getD t 0)*bU (aR R ps n) t c)=0 by
  have:=y0 c;grind
 have free:∀c,c < n->c∉ps->x c - (bo (aR R ps n).length λt=>x ((iQ ps n).getD t 0)*bU (aR R ps n) t c)=0:=λc hc hp=>by
  obtain ⟨t0,h0,e0⟩:=bO (tE.mpr ⟨hc,hp⟩);have g0:(iQ ps n).getD t0 0=c:=by rw[aa,af h0];exact e0
  rw[eU (i:=t0) (by lia) λt ht ne=>?_,vN t0 (by lia),E5 hc hp,g0,if_pos rfl]
  ·grind
  ·rw[vN t ht,E5 hc hp,if_neg λz=>ne ?_]
   ·grind
   ·have ht':t < (iQ ps n).length:=by lia
    have z:(iQ ps n)[t]=(iQ ps n)[t0]:=by
     rw[aa,af ht'] at z;rw[e0];exact z.symm
    have pw:=RN.mp nd;rcases dy t t0 with y | y | y
    ·exact absurd z (pw t t0 ht' h0 y)
    ·exact y
    ·exact absurd z.symm (pw t0 t h0 ht' y)
 have dN:∀j,j < ps.length->∀t,t < (aR R ps n).length->(bo n λc=>bU R j c*bU (aR R ps n) t c)=0:=λj hj t ht=>by
  have hj':j < R.length:=by rw[RR.1];exact hj
  have wr:=RR.2.1 _ (aJ hj');have dz:=IX (vA RR) (fN t ht).1 (fN t ht).2 (af hj') wr;rw[c6 (by rw[wr];exact nX.symm),wr] at dz;refine Eq.trans (aH λc _=>?_) dz;rw[vN t ht];unfold bU;rw[aa (l:=R),af hj'];rfl
 have dY:∀j,j < ps.length->(bo n λc=>bU R j c*(x c - (bo (aR R ps n).length λt=>x ((iQ ps n).getD t 0)*bU (aR R ps n) t c)))=0:=λj hj=>by
  have e:∀c,c < n->bU R j c*(x c - (bo (aR R ps n).length λt=>x ((iQ ps n).getD t 0)*bU (aR R ps n) t c))=bU R j c*x c+(-1)*(bo (aR R ps n).length λt=>x ((iQ ps n).getD t 0)*(bU R j c*bU (aR R ps n) t c)):=λc _=>by
   have:(bo (aR R ps n).length λt=>x ((iQ ps n).getD t 0)*(bU R j c*bU (aR R ps n) t c))=bU R j c*bo (aR R ps n).length λt=>x ((iQ ps n).getD t 0)*bU (aR R ps n) t c:=by
    rw[<- bV];exact aH λt _=>by grind
   rw[this];grind
  rw[aH e,kM,hx j hj,bV,dn,cJ (k:=(aR R ps n).length) λt ht=>?_]
  ·grind
  ·rw[bV,dN j hj t ht];grind
 intro c;by_cases hc:c < n
 ·by_cases hp:c∈ps
  ·obtain ⟨j,hj,ej⟩:=bO hp;have g:ps.getD j 0=c:=by rw[aa,af hj];exact ej
   have:=dY j hj;rw[eU (i:=c) hc λc' hc' ne=>?_] at this
   ·have u:=Rf.unit j hj j hj;rw[g,if_pos rfl] at u;rw[u] at this;grind
   ·by_cases hp':c'∈ps
    ·obtain ⟨i,hi,ei⟩:=bO hp';have gi:ps.getD i 0=c':=by rw[aa,af hi];exact ei
     have u:=Rf.unit j hj i hi;rw[gi,if_neg (λz=>ne (by rw[<- gi,<- g,z]))] at u;rw[u];grind
    ·rw[free c' hc' hp'];grind
  ·exact free c hc hp
 ·rw[far c (by lia),cJ λt _=>by rw[yf lH (by lia)];grind];grind
end
inductive CI (K:FG9) (vs:List V) (H:Hp) (Q:VK) (E9:XK):Prop
 | mk (p:Addr) (n w:Nat) (H0:Hp) (rows R:LR9) (ps:List Nat):vs=[.ref p,.int n]->bE K H0 H p R->R.length<=100->n<=100->bI rows n R ps->D9 R n w->(∀xs∈R,∀x∈xs,nB x)->(∀r H',H r=none->aL H H'->bE K H H' r (aR R ps n)->Q (.ref r) H')->CI K vs H Q E9
def RV (mv pt:LR9) (T u:Nat):Prop:=(∃R ps ps',bI (kry mv pt u) mv.length R ps/\bI (kry mv pt T) mv.length R ps')/\∀i,i < u->∀R ps ps',bI (kry mv pt i) mv.length R ps->¬bI (kry mv pt T) mv.length R ps'
def RW (mv pt:LR9) (T:Nat) (L:List Rat) (pus:LR9):Prop:=∃u R ps,RV mv pt T u/\bI (c5 (cS (kry mv pt u) mv.length) L) ((kry mv pt u).length+1) R ps/\(kry mv pt u).length∉ps/\pus=AA (gB R ps (kry mv pt u).length) T u pt.length
def TY (mv pt:LR9) (T:Nat) (L pr:List Rat):Prop:=∃u R ps R' ps',RV mv pt T u/\bI (c5 (cS (kry mv pt u) mv.length) L) ((kry mv pt u).length+1) R ps/\(kry mv pt u).length∈ps/\bI (c5 (kry mv pt u++[L]) (List.replicate (kry mv pt u).length 0++[1])) (mv.length+1) R' ps'/\pr=gB R' ps' mv.length
section
variable {mv pt:LR9} {T u u':Nat} {L pr pr':List Rat} {pus pus':LR9} {Rs:List (LR9)}
theorem RV.uniq (h:RV mv pt T u) (h':RV mv pt T u'):u=u':=by
 obtain ⟨⟨R,ps,ps2,a,b⟩,c⟩:=h;obtain ⟨⟨R',ps',ps2',a',b'⟩,c'⟩:=h';rcases dy u u' with h | h | h
 ·exact absurd b (c' u h _ _ _ a)
 ·exact h
 ·exact absurd b' (c u' h _ _ _ a')
theorem RW.not (h:RW mv pt T L pus) (h':TY mv pt T L pr):False:=by
 obtain ⟨u,R,ps,a,b,n,rfl⟩:=h;obtain ⟨u',R',ps',R2',ps2',a',b',m,c',rfl⟩:=h';cases a.uniq a';obtain ⟨rfl,rfl⟩:=b.same b';exact n m
theorem td.lt (h:td mv pt Rs):∀(k i:Nat) (R R':LR9),Rs[i]?=some R->Rs[i+1+k]?=some R'->R.length < R'.length
 | 0,i,R,R',a,b=>h.up i R R' a b
 | k+1,i,R,R',a,b=>by
  have hk:i+1+k < Rs.length:=by have:=(aF.mp b).1;lia
  have e:Rs[i+1+k]?=some Rs[i+1+k]:=af hk;exact Nat.lt_trans (h.lt k i R _ a e) (h.up (i+1+k) _ R' e b)
theorem td.cmu (h:td mv pt Rs) {R:LR9} {psT:List Nat} (eR:Rs[u]?=some R) (RRT:bI (kry mv pt T) mv.length R psT):RV mv pt T u:=by
 obtain ⟨ps,RRu⟩:=h.rr u R eR;refine ⟨⟨R,ps,psT,RRu,RRT⟩,λi hi R1 ps1 ps2 a b=>?_⟩;have hu:=(aF.mp eR).1;have ei:Rs[i]?=some (Rs[i]'(by lia)):=af (by lia);obtain ⟨psi,RRi⟩:=h.rr i _ ei;have lt:=h.lt (u - i - 1) i _ R ei (by rw[show i+1+(u - i - 1)=u by lia];exact eR);have e1:=(RRi.same a).1;have e2:=(RRT.same b).1;rw[e1,e2] at lt;exact eK _ lt
end
inductive Gf (K:FG9) (C:Addr) (vs:List V) (H:Hp) (Q:VK) (E9:XK):Prop
 | mk (x s g:Addr) (T a c D W0 E W1:Nat) (H0:Hp) (mv pt lk:LR9) (st go:List Rat):vs=[.ref x,.ref s,.ref g,.int T]->T<=99->jR K H0 H C x mv pt lk->eG mv pt lk->Ku mv pt lk->iM mv pt a c->cF K H s st->st.length=mv.length->cF K H g go->go.length=mv.length->FE mv pt st (List.replicate T (List.replicate pt.length 0))->(∀x∈go,nB x)->TX mv pt (eI mv T st go) D W0 E W1->((∀t p pus q H',H' t=some (.tup [.str (Str.ofString "puts"),.ref p])->H p=none->aL H H'->bE K H H' p pus->pus.length=T->(∀xs∈pus,xs.length=pt.length)->jU mv pt st pus T=go->RW mv pt T (eI mv T st go) pus->0 < q->q<=(16*W0)^mv.length->(∀xs∈pus,∀x∈xs,Tp (E*q) (D*(mv.length*(W1*(16*W0)^mv.length))) x)->Q (.ref t) H')/\(∀t p pr q H',H' t=some (.tup [.str (Str.ofString "never"),.ref p])->H p=none->aL H H'->cF K H' p pr->pr.length=mv.length->(∀xs∈kry mv pt T,cE xs pr=0)->cE pr (eI mv T st go)=1->TY mv pt T (eI mv T st go) pr->0 < q->q<=(16*W0)^mv.length*(16*(W1+E))->(∀y∈pr,Tp q ((16*W0)^mv.length*(16*(W1+E))) y)->Q (.ref t) H'))->Gf K C vs H Q E9
def RS (mv pt:LR9) (st go:List Rat) (u:Nat) (A:LR9->Prop) (B:List Rat->Prop):Prop:=∃D W0 E W1,CtF mv pt u st go D W0 E W1 /\
 (∀(pus:LR9) (q:Nat),pus.length=u->(∀xs∈pus,xs.length=pt.length)->jU mv pt st pus u=go->RW mv pt u (eI mv u st go) pus->0 < q->q<=(16*W0)^mv.length->(∀xs∈pus,∀x∈xs,Tp (E*q) (D*(mv.length*(W1*(16*W0)^mv.length))) x)->A pus) /\
 (∀(pr:List Rat) (q:Nat),pr.length=mv.length->(∀xs∈kry mv pt u,cE xs pr=0)->cE pr (eI mv u st go)=1->TY mv pt u (eI mv u st go) pr->0 < q->q<=(16*W0)^mv.length*(16*(W1+E))->(∀y∈pr,Tp q ((16*W0)^mv.length*(16*(W1+E))) y)->B pr)
def O6 (mv pt:LR9) (st go:List Rat) (u:Nat) (pus:LR9):Prop:=pus.length=u/\(∀xs∈pus,xs.length=pt.length)/\jU mv pt st pus u=go/\RW mv pt u (eI mv u st go) pus/\Jz mv pt pus st
def Nw (mv pt:LR9) (st go:List Rat) (u:Nat) (pr:List Rat):Prop:=pr.length=mv.length/\(∀xs∈kry mv pt u,cE xs pr=0)/\cE pr (eI mv u st go)=1/\TY mv pt u (eI mv u st go) pr/\PrF mv pt u st go pr
section
variable {mv pt lk:LR9} {st go:List Rat} {M1 M2 V a1 a2 c B b g T u w b1 b2:Nat}
def GoB (mv pt:LR9) (M1 M2 c b1 T:Nat) (st go:List Rat):Prop:=∃B,0 < B/\B<=2^b1/\(∀x∈st,Fr B (2^22) x)/\∀x∈go,Fr (M1^T*(M2*B)) (2^(c*T+23)) x
theorem Us.gob (U:Us mv pt w T M1 M2 V a1 a2 c b1 b2) (D:eG mv pt lk) (ls:st.length=mv.length) (lg:go.length=mv.length) (hs:∀x∈st,Dr (max w 6) x) {T':Nat} (hT:T'<=T) (hg:GoP mv pt T' w st go):GoB mv pt M1 M2 c b1 T st go:=by
 have up:2^(c*T+22)+1<=2^(c*T+23):=by
  rw[show c*T+23=1+(c*T+22) by lia,a8 2 1];have:0 < 2^(c*T+22):=dS (by decide)
  lia
 rcases hg with hg | ⟨pus,hp,hg⟩
 ·obtain ⟨B,h0,h6,h,h1,_⟩:=U.dr (st++go) λx hx=>(aA.mp hx).elim (hs x) (hg x)
  exact ⟨B,h0,h1 (by rw[au,ls,lg];lia),λx hx=>h x (dk _ hx),λx hx=>Fr.up (h x (bG _ hx)) (lC (dq _ _) (dq _ _)) (ax (by decide) (by lia))⟩
 ·obtain ⟨B,h0,h6,h,h1,_⟩:=U.dr (st++pus.flatten) λx hx=>by
   sleep 1
   ·exact hs x hx
   ·obtain ⟨xs,m1,m2⟩:=fz.mp hx;exact (hp.2 xs m1).2 x m2
  have hm:T'*pt.length<=T*pt.length:=az _ hT
  have h1:=h1 (by
   rw[au,tG λxs hx=>(hp.2 xs hx).1,hp.1,ls]
   lia)
  have f1:∀x∈st,Fr B (2^22) x:=λx hx=>h x (dk _ hx)
  have f2:∀xs∈pus,∀x∈xs,Fr B (2^22) x:=λxs hx x hx'=>h x (bG _ (fz.mpr ⟨xs,hx,hx'⟩))
  have fe0:=(U.bd.end D ls hp.1 (λxs hx=>(hp.2 xs hx).1) h0 h1 f1 f2 (ko (ak _) hT (ak _) (RY U.z1))).2 T' (ak _);have fe:∀x∈jU mv pt st pus T',Fr (M1^T*(M2*B)) (2^(c*T+22)) x:=λx hx=>Fr.up (fe0 x hx) (Nat.mul_dvd_mul_right (Nat.pow_dvd_pow _ hT) _) (ax (by decide) (Nat.add_le_add_right (aM _ hT) _))
  refine ⟨B,h0,h1,f1,λx hx=>?_⟩;rcases hg with rfl | ⟨a,v,v3,rfl⟩
  ·exact (fe x hx).mono (by lia)
  ·rcases cD hx with hx | rfl
   ·exact (fe x hx).mono (by lia)
   ·have u1:Fr (M1^T*(M2*B)) 1 (NM v):=(Pa v3).dvd (lC h6 (lC (dq _ _) (dq _ _)))
    have u2:Fr (M1^T*(M2*B)) (2^(c*T+22)) ((jU mv pt st pus T').getD a 0):=by
     rw[aa];cases h:(jU mv pt st pus T')[a]? with
     | none=>exact Fr.zero
     | some y=>exact fe y (ay h)
    exact (u2.add u1).mono up
theorem Us.enf (U:Us mv pt w T M1 M2 V a1 a2 c b1 b2) (D:eG mv pt lk) (ls:st.length=mv.length) (hs:∀x∈st,Dr (max w 6) x) {T':Nat} (hT:T'<=T) {pus:LR9} (hp:TV pt T' w pus):Jz mv pt pus st:=by
 obtain ⟨B,h0,h6,h,h1,_⟩:=U.dr (st++pus.flatten) λx hx=>by
  sleep 1
  ·exact hs x hx
  ·obtain ⟨xs,m1,m2⟩:=fz.mp hx;exact (hp.2 xs m1).2 x m2
 have hm:T'*pt.length<=T*pt.length:=az _ hT
 have h1:=h1 (by
  rw[au,tG λxs hx=>(hp.2 xs hx).1,hp.1,ls]
  lia)
 exact (U.bd.end D ls hp.1 (λxs hx=>(hp.2 xs hx).1) h0 h1 (λx hx=>h x (dk _ hx)) (λxs hx x hx'=>h x (bG _ (fz.mpr ⟨xs,hx,hx'⟩))) (ko (ak _) hT (ak _) (RY U.z1))).1
end
def SoR (mv pt:LR9) (st go:List Rat) (T:Nat) (kv:V) (pus prs:LR9):Prop:=(∀j pr,prs[j]?=some pr->Nw mv pt st go j pr)/\((∃k:Nat,kv=.int k/\k<=T/\prs.length=k/\O6 mv pt st go k pus)\/(kv=.non/\pus=[]/\prs.length=T+1))
inductive FV (K:FG9) (C:Addr) (vs:List V) (H:Hp) (Q:VK) (E9:XK):Prop
 | mk (x s g:Addr) (T a c:Nat) (H0:Hp) (mv pt lk:LR9) (st go:List Rat):vs=[.ref x,.ref s,.ref g,.int T]->T<=98->jR K H0 H C x mv pt lk->eG mv pt lk->Ku mv pt lk->iM mv pt a c->cF K H s st->st.length=mv.length->cF K H g go->go.length=mv.length->(∀u,u<=T->RS mv pt st go u (O6 mv pt st go u) (Nw mv pt st go u))->(∀kv t p r pus prs Hm H',H' t=some (.tup [kv,.ref p,.ref r])->aL H Hm->aL Hm H'->H r=none->bE K H Hm r prs->Hm p=none->bE K Hm H' p pus->SoR mv pt st go T kv pus prs->Q (.ref t) H')->FV K C vs H Q E9
section
variable {rows R ends:LR9} {row:List Rat} {n:Nat} {ps:List Nat}
theorem Mw (RR:bI rows n R ps) (hw:∀xs∈rows,xs.length=n):∀z∈aR R ps n,∀xs∈rows,cE xs z=0:=λz hz xs hx=>by
 obtain ⟨a,h1,h2,rfl⟩:=oG hz;obtain ⟨i,hi,rfl⟩:=bO hx;exact IX RR h1 h2 (af hi) (hw _ (aJ hi))
end
section
variable {rows ends:LR9} {row due:List Rat} {n:Nat}
theorem mul_pow {a b c d:Nat} (h:a<=2^c) (h':b<=2^d):a*b<=2^(c+d):=by
 rw[a8];exact aK h h'
end
section
variable {mv pt lk F R:LR9} {n m:Nat} {ps:List Nat} {x:Nat->Rat} {st pu:List Rat}
theorem JG {a:Nat->Nat->Rat} {f:Nat->Nat->Rat} {w:Nat->Rat}:∀k,(∀i,i < k->eT m a (f i))->eT m a λc=>bo k λi=>w i*f i c
 | 0,_=>eT.zero λ_=>rfl
 | k+1,h=>by
  have:=eT.lin 1 (w k) (JG (w:=w) k λi hi=>h i (by lia)) (h k (by lia));exact this.congr λc=>by show _=bo k _+_;grind
theorem J5 {a c:Nat} (KF:iM mv pt a c) (D8:mv.length<=8) (wm:∀xs∈mv,xs.length=mv.length) (wp:∀xs∈pt,xs.length=mv.length) (RR:bI (kry mv pt mv.length) mv.length R ps):(∀k,k < pt.length->eT ps.length (bU R) (bU pt k))/\∀x:Nat->Rat,eT ps.length (bU R) x->eT ps.length (bU R) λc=>bo mv.length λj=>bU mv c j*x j:=by
 obtain ⟨R0,ps0,G⟩:=MS KF D8 wm wp (mv.length+1);have R1:=G.late (fv _) (ak _);have R2:=G.late (fv _) (mN mv.length);obtain ⟨rfl,rfl⟩:=RR.same R1;have B:=Hw rfl wm wp R1 R2;have sp:=B.2.2.span;refine ⟨λk hk=>?_,λx hx=>?_⟩
 ·have:=sp k (by rw[au];lia);rwa [Lq hk] at this
 ·obtain ⟨w,hw⟩:=hx
  have key:=JG (w:=w) (f:=λs=>bU (R.map (oU mv)) s) ps.length λs hs=>by
   have:=sp (pt.length+s) (by rw[au,aj,RR.1];lia);rwa [Nt] at this
  refine key.congr λc=>?_
  have e:(bo mv.length λj=>bU mv c j*x j)=bo mv.length λj=>bo ps.length λs=>w s*(bU mv c j*bU R s j):=aH λj _=>by
   rw[hw j,<- bV];exact aH λs _=>by grind
  rw[e,dn];refine aH λs hs=>?_
  rw[bV,JT rfl wm RR.2.1 (by rw[RR.1];exact hs)]
theorem Mu {a c:Nat} (KF:iM mv pt a c) (D8:mv.length<=8) (wm:∀xs∈mv,xs.length=mv.length) (wp:∀xs∈pt,xs.length=mv.length) (RR:bI (kry mv pt mv.length) mv.length R ps) {z:List Rat} (hz:z∈aR R ps mv.length) {k:Nat} (hk:k < pt.length):(bo mv.length λc=>bU pt k c*z.getD c 0)=0:=by
 obtain ⟨w,hw⟩:=(J5 KF D8 wm wp RR).1 k hk
 have e:(bo mv.length λc=>bU pt k c*z.getD c 0)=bo mv.length λc=>bo ps.length λs=>w s*(bU R s c*z.getD c 0):=aH λc _=>by
  rw[hw c,cX,<- bV];exact aH λs _=>by grind
 rw[e,dn];refine cJ λs hs=>?_
 rw[bV];obtain ⟨b,h1,h2,rfl⟩:=oG hz;have hs':s < R.length:=by rw[RR.1];exact hs
 have ws:=RR.2.1 _ (aJ hs');have d:=IX (vA RR) h1 h2 (af hs') ws;rw[c6 (by rw[ws];exact nX.symm),ws] at d
 have:(bo mv.length λc=>bU R s c*(JU R ps mv.length b).getD c 0)=0:=by
  refine Eq.trans (aH λc _=>?_) d;unfold bU;rw[aa (l:=R),af hs'];rfl
 rw[this,dJ]
end
theorem yt:∀{ps:List Nat},Paired (λj x=>x=V.int ((j:Nat):Int)) ps (dF ps)
 | []=>.nil
 | _ :: _=>.cons rfl yt
inductive Ai (K:FG9) (vs:List V) (H:Hp) (Q:VK) (E9:XK):Prop
 | mk (p q:Addr) (w:Nat) (H0 H1:Hp) (one other:LR9):vs=[.ref p,.ref q,.int w]->bE K H0 H p one->bE K H1 H q other->one.length<=1000->other.length<=1000->w<=1000->((∀xs∈one,xs.length=other.length/\∀ys∈cS other w,rf ys xs))->(∀xs∈other,xs.length=w)->(∀r H',H r=none->aL H H'->bE K H H' r (eH one other w)->Q (.ref r) H')->Ai K vs H Q E9
inductive Aa (K:FG9) (C:Addr) (vs:List V) (H:Hp) (Q:VK) (E9:XK):Prop
 | mk (x p:Addr) (H0 H1:Hp) (mv pt lk N:LR9):vs=[.ref x,.ref p]->jR K H0 H C x mv pt lk->eG mv pt lk->bE K H1 H p N->N.length<=100->((∀xs∈N,xs.length=mv.length/\∀ys∈cS mv mv.length,rf ys xs))->(∀r H',H r=none->aL H H'->bE K H H' r (eH N mv mv.length)->Q (.ref r) H')->Aa K C vs H Q E9
def oX (mv R:LR9) (ps:List Nat):LR9:=(eH (aR R ps mv.length) mv mv.length).map λrow=>(iQ ps mv.length).map λpl=>row.getD pl 0
section
variable {mv pt lk R:LR9} {ps:List Nat} {n a c:Nat} {st pu:List Rat}
theorem Mx {i:Nat} (hi:i < (aR R ps n).length) {b:Nat} (hb:b < n) (hp:b∉ps):bU (aR R ps n) i b=if b=(iQ ps n).getD i 0 then 1 else 0:=by
 have lN:(aR R ps n).length=(iQ ps n).length:=aj ..;have h:i < (iQ ps n).length:=by lia
 have e:bU (aR R ps n) i b=(JU R ps n ((iQ ps n).getD i 0)).getD b 0:=by
  unfold bU aR;rw[aa (l:=List.map _ _),aG,af h,aa (l:=iQ ps n),af h];rfl
 rw[e,E5 hb hp]
theorem Rk {i j:Nat} (hi:i < (iQ ps n).length) (hj:j < (iQ ps n).length) (h:(iQ ps n).getD i 0=(iQ ps n).getD j 0):i=j:=by
 have nd:(iQ ps n).Nodup:=by
  unfold iQ;exact List.Nodup.sublist List.filter_sublist List.nodup_range
 have pw:=RN.mp nd;have e:∀k (hk:k < (iQ ps n).length),(iQ ps n).getD k 0=(iQ ps n)[k]:=λk hk=>by rw[aa,af hk];rfl
 rw[e i hi,e j hj] at h;rcases dy i j with y | y | y
 ·exact absurd h (pw i j hi hj y)
 ·exact y
 ·exact absurd h.symm (pw j i hj hi y)
theorem FL {N:LR9} (wN:∀xs∈N,xs.length=mv.length) {i b:Nat} (hi:i < N.length) (hb:b < mv.length):bU (eH N mv mv.length) i b=bo mv.length λc=>bU mv c b*bU N i c:=by
 unfold bU eH;rw[aa (l:=List.map _ N),aG,af hi];show ((cS mv mv.length).map λys=>cE ys N[i]).getD b 0=_
 rw[aa,aG,vn hb];show cE (mv.map λxs=>xs.getD b 0) N[i]=_
 rw[c6 (by rw[aj,wN _ (aJ hi)]),aj];refine aH λc _=>?_
 rw[MD];unfold bU;rw[aa (l:=N),af hi];rfl
theorem OL (KF:iM mv pt a c) (D8:mv.length<=8) (wm:∀xs∈mv,xs.length=mv.length) (wp:∀xs∈pt,xs.length=mv.length) (RR:bI (kry mv pt mv.length) mv.length R ps) {i b:Nat} (hi:i < (aR R ps mv.length).length) (hb:b < mv.length):bU (eH (aR R ps mv.length) mv mv.length) i b=bo (aR R ps mv.length).length λt=>bU (eH (aR R ps mv.length) mv mv.length) i ((iQ ps mv.length).getD t 0)*bU (aR R ps mv.length) t b:=by
 have wN:∀xs∈aR R ps mv.length,xs.length=mv.length:=lH;have lN:(aR R ps mv.length).length=(iQ ps mv.length).length:=aj ..;have inv:=(J5 KF D8 wm wp RR).2
 have far:∀c,mv.length<=c->bU (eH (aR R ps mv.length) mv mv.length) i c=0:=λc hc=>yf (λxs hx=>by
  obtain ⟨z,_,rfl⟩:=aE.mp hx;rw[aj,dj]) hc
 have dz:∀x:Nat->Rat,eT ps.length (bU R) x->(bo mv.length λc=>x c*bU (aR R ps mv.length) i c)=0:=λx ⟨w,hw⟩=>by
  have e:(bo mv.length λc=>x c*bU (aR R ps mv.length) i c)=bo mv.length λc=>bo ps.length λs=>w s*(bU R s c*bU (aR R ps mv.length) i c):=aH λc _=>by
   rw[hw c,cX,<- bV];exact aH λs _=>by grind
  rw[e,dn];refine cJ λs hs=>?_
  rw[bV];have hs':s < R.length:=by rw[RR.1];exact hs
  have ws:=RR.2.1 _ (aJ hs');have hz:=aJ hi;have d:=Mw (vA RR) RR.2.1 _ hz _ (aJ hs');rw[c6 (by rw[ws,wN _ hz]),ws] at d
  have:(bo mv.length λc=>bU R s c*bU (aR R ps mv.length) i c)=0:=by
   refine Eq.trans (aH λc _=>?_) d;unfold bU;rw[aa (l:=R),af hs',aa (l:=aR R ps mv.length),af hi];rfl
  rw[this,dJ]
 have sp:=Dj RR far λj hj=>by
  have e:(bo mv.length λb=>bU R j b*bU (eH (aR R ps mv.length) mv mv.length) i b)=bo mv.length λc=>(bo mv.length λb=>bU mv c b*bU R j b)*bU (aR R ps mv.length) i c:=by
   have e1:(bo mv.length λb=>bU R j b*bU (eH (aR R ps mv.length) mv mv.length) i b)=bo mv.length λb=>bo mv.length λc=>bU (aR R ps mv.length) i c*(bU mv c b*bU R j b):=aH λb hb=>by
    rw[FL wN hi hb,<- bV];exact aH λc _=>by grind
   rw[e1,dn];exact aH λc _=>by rw[bV];exact cX _ _
  rw[e];exact dz _ (inv _ (eT.row hj))
 obtain ⟨w,hw⟩:=sp
 have hw':∀s,s < (aR R ps mv.length).length->w s=bU (eH (aR R ps mv.length) mv mv.length) i ((iQ ps mv.length).getD s 0):=λs hs=>by
  have fs:=tE.mp (getD_in (e:=0) (show s < (iQ ps mv.length).length by lia));rw[hw,eU hs λt ht ne=>?_,Mx hs fs.1 fs.2,if_pos rfl,Eb];rw[Mx ht fs.1 fs.2,if_neg (λz=>ne (Rk (by lia) (by lia) z).symm),dJ]
 rw[hw b];exact aH λt ht=>by rw[hw' t ht]
theorem zH:(oX mv R ps).length=(aR R ps mv.length).length:=by unfold oX eH;rw[aj,aj]
theorem RZ:∀xs∈oX mv R ps,xs.length=(aR R ps mv.length).length:=λxs hx=>by
 obtain ⟨z,_,rfl⟩:=aE.mp hx;rw[aj];exact (aj ..).symm
theorem J9 (KF:iM mv pt a c) (D:eG mv pt lk) (RR:bI (kry mv pt mv.length) mv.length R ps) (ls:st.length=mv.length) (lu:pu.length=pt.length):((aR R ps mv.length).map λz=>cE z (fH mv pt st pu))=(oX mv R ps).map λw=>cE w ((aR R ps mv.length).map λz=>cE z st):=by
 have wN:∀xs∈aR R ps mv.length,xs.length=mv.length:=lH;apply dO (by rw[aj,aj,zH]);intro i h1 h2;rw[aj] at h1;have lN:(aR R ps mv.length).length=(iQ ps mv.length).length:=aj ..;have zi:=wN _ (aJ h1);have fi:∀c,(aR R ps mv.length)[i].getD c 0=bU (aR R ps mv.length) i c:=λc=>by unfold bU;rw[aa (l:=aR R ps mv.length),af h1];rfl
 have eu:(oX mv R ps)[i]'(by rw[zH];exact h1)=(iQ ps mv.length).map λpl=>bU (eH (aR R ps mv.length) mv mv.length) i pl:=by
  have lt:i < (eH (aR R ps mv.length) mv mv.length).length:=by unfold eH;rw[aj];exact h1
  have:(oX mv R ps)[i]?=some ((iQ ps mv.length).map λpl=>bU (eH (aR R ps mv.length) mv mv.length) i pl):=by
   unfold oX;rw[aG,af lt];show some _=some _
   congr 1;refine iF λpl _=>?_
   unfold bU;rw[aa (l:=eH _ _ _),af lt];rfl
  rw[af (by rw[zH];exact h1)] at this;exact cb this
 rw[gJ,gJ,eu,c6 (by rw[zi,Dn]),zi,c6 (by rw[aj,aj,lN]),show (List.map (λpl=>bU (eH (aR R ps mv.length) mv mv.length) i pl) (iQ ps mv.length)).length=(iQ ps mv.length).length from aj ..]
 have a1:(bo mv.length λc=>(aR R ps mv.length)[i].getD c 0*(fH mv pt st pu).getD c 0)=bo mv.length (λj=>st.getD j 0*bU (eH (aR R ps mv.length) mv mv.length) i j)+bo pt.length λk=>pu.getD k 0*bo mv.length λc=>bU pt k c*(aR R ps mv.length)[i].getD c 0:=by
  have b1:(bo mv.length λc=>(aR R ps mv.length)[i].getD c 0*(fH mv pt st pu).getD c 0)=bo mv.length λc=>(bo mv.length λj=>st.getD j 0*(bU mv c j*bU (aR R ps mv.length) i c))+bo pt.length λk=>pu.getD k 0*(bU pt k c*(aR R ps mv.length)[i].getD c 0):=aH λc hc=>by
   rw[Ho D ls lu hc]
   have c1:(bo mv.length λj=>st.getD j 0*(bU mv c j*bU (aR R ps mv.length) i c))=(aR R ps mv.length)[i].getD c 0*bo mv.length λj=>bU mv c j*st.getD j 0:=by
    rw[<- bV];exact aH λj _=>by rw[fi];grind
   have c2:(bo pt.length λk=>pu.getD k 0*(bU pt k c*(aR R ps mv.length)[i].getD c 0))=(aR R ps mv.length)[i].getD c 0*bo pt.length λk=>pu.getD k 0*bU pt k c:=by
    rw[<- bV];exact aH λk _=>by grind
   rw[c1,c2];grind
  rw[b1,kM,dn,dn (m:=pt.length)];congr 1
  ·exact aH λj hj=>by rw[bV,FL wN h1 hj]
  ·exact aH λk _=>by rw[bV]
 rw[a1,cJ (k:=pt.length) λk hk=>by rw[Mu KF D.n8 D.mw D.pw RR (aJ h1) hk,dJ],iV]
 have a2:(bo mv.length λj=>st.getD j 0*bU (eH (aR R ps mv.length) mv mv.length) i j)=bo mv.length λj=>bo (aR R ps mv.length).length λt=>bU (eH (aR R ps mv.length) mv mv.length) i ((iQ ps mv.length).getD t 0)*(bU (aR R ps mv.length) t j*st.getD j 0):=aH λj hj=>by
  rw[OL KF D.n8 D.mw D.pw RR h1 hj,<- bV];exact aH λt _=>by grind
 rw[a2,dn,lN];refine aH λt ht=>?_
 rw[bV];have ht':t < (aR R ps mv.length).length:=by lia
 have e1:((iQ ps mv.length).map λpl=>bU (eH (aR R ps mv.length) mv mv.length) i pl).getD t 0=bU (eH (aR R ps mv.length) mv mv.length) i ((iQ ps mv.length).getD t 0):=by
  rw[aa,aG,af ht,aa,af ht];rfl
 have e2:((aR R ps mv.length).map λz=>cE z st).getD t 0=bo mv.length λj=>bU (aR R ps mv.length) t j*st.getD j 0:=by
  rw[aa,aG,af ht'];show cE (aR R ps mv.length)[t] st=_
  have wt:=wN _ (aJ ht');rw[c6 (by rw[wt,ls]),wt];refine aH λj _=>?_
  unfold bU;rw[aa (l:=aR R ps mv.length),af ht'];rfl
 rw[e1,e2]
end
structure PY (mv pt:LR9) (w T M1 M2 V a1 a2 c a0 c0 b:Nat):Prop where
 bd:Bd mv pt M1 M2 V a1 a2 c
 kf:iM mv pt a0 c0
 nm:∀r,r<=mv.length->2*((mv.length - r)*(r*((mv.length - 1)*(a0+c0)+4)+4)+r*((mv.length - 1)*(a0+c0)+4))<=3990
 kl:2*(mv.length*(c*mv.length+(a1*(mv.length - 1)+a2)+4)+(a1*(mv.length - 1)+a2))<=3990
 dr:∀l:List Rat,(∀x∈l,Dr (max w 6) x)->l.length<=mv.length+T*pt.length->∃B,0 < B/\B<=2^b/\∀x∈l,Fr B (2^22) x
 sz:4*(mv.length*((mv.length - 1)*(a0+c0)+4))+(a1+c)+(a1*(T+2)+a2+b+c*(T+2)+22)+20<=3900
section
variable {mv pt lk R:LR9} {ps:List Nat} {w T M1 M2 V a1 a2 c a0 c0 b:Nat}
theorem SX:∀n,n < 9->∀r,r < 9->decide (r<=n->2*((n - r)*(r*((n - 1)*(0+13)+4)+4)+r*((n - 1)*(0+13)+4))<=3990)=true:=by decide +kernel
theorem SW:∀n,n < 6->∀r,r < 6->decide (r<=n->2*((n - r)*(r*((n - 1)*(12+16)+4)+4)+r*((n - 1)*(12+16)+4))<=3990)=true:=by decide +kernel
theorem SV:∀n,n < 3->∀r,r < 3->decide (r<=n->2*((n - r)*(r*((n - 1)*(240+32)+4)+4)+r*((n - 1)*(240+32)+4))<=3990)=true:=by decide +kernel
theorem SU:∀n,n < 3->∀r,r < 3->decide (r<=n->2*((n - r)*(r*((n - 1)*(12+12)+4)+4)+r*((n - 1)*(12+12)+4))<=3990)=true:=by decide +kernel
theorem Sw (R:Rg mv pt w) (D:eG mv pt lk) (S:NC mv pt T):∃M1 M2 V a1 a2 c a0 c0 b,PY mv pt w (T+1) M1 M2 V a1 a2 c a0 c0 b:=by
 have i4:=D.i4;have n8:=D.n8;have small:w<=9->∀l:List Rat,(∀x∈l,Dr (max w 6) x)->l.length<=mv.length+(T+1)*pt.length->∃B,0 < B/\B<=2^12/\∀x∈l,Fr B (2^22) x:=λw9 l h _=>⟨2520,by decide,by decide,λx hx=>(Fp ⟨ai (h x hx).1 (by lia),ai (h x hx).2 (by lia)⟩ (iW _)).mono (by decide)⟩
 have wide:w=1000->∀t,(T+1)*pt.length<=t->mv.length<=2->∀l:List Rat,(∀x∈l,Dr (max w 6) x)->l.length<=mv.length+(T+1)*pt.length->∃B,0 < B/\B<=2^(22+10*t)/\∀x∈l,Fr B (2^22) x:=λw9 t ht n2 l h hl=>by
  obtain ⟨B,h0,h1,h2⟩:=yh (c:=10) (l:=l) (λx hx=>⟨ai (h x hx).1 (by rw[w9];decide),ai (h x hx).2 (by rw[w9];decide)⟩) (by decide);exact ⟨B,h0,ai h1 (ax (by decide) (by lia)),h2⟩
 have mul:∀{x y p q:Nat},x<=p->y<=q->x*y<=p*q:=λh h'=>aK h h'
 have T12:=S.1;rcases R with ⟨w9,X⟩ | ⟨w9,n5,X⟩ | ⟨w9,n2,M1,M2,X⟩
 ·have k1:(8+1)*9^3<=2^13:=by decide
  have e8:mv.length*((mv.length - 1)*(0+13)+4)<=8*95:=mul n8 (by lia);have e9:mv.length*(14*mv.length+(0*(mv.length - 1)+0)+4)<=8*116:=mul n8 (by lia);exact ⟨_,_,_,_,_,_,0,13,12,X,iT (n0:=8) X.m1 (by decide) n8 k1 X.gm X.gp (by decide),λr hr=>of_decide_eq_true (SX _ (by lia) r (by lia)) hr,by lia,small w9,by lia⟩
 ·have k1:(5+1)*(9^3*9)<=2^16:=by decide
  have e8:mv.length*((mv.length - 1)*(12+16)+4)<=5*116:=mul n5 (by lia);have e9:mv.length*(16*mv.length+(12*(mv.length - 1)+12)+4)<=5*144:=mul n5 (by lia);exact ⟨_,_,_,_,_,_,12,16,12,X,iT (n0:=5) X.m1 (by decide) n5 k1 X.gm X.gp (by decide),λr hr=>of_decide_eq_true (SW _ (by lia) r (by lia)) hr,by lia,small w9,by lia⟩
 ·by_cases T3:T<=3
  ·have m:(T+1)*pt.length<=4*4:=mul (by lia) i4;have k1:(2+1)*(9^3*2^20)<=2^32:=by decide
   have e8:mv.length*((mv.length - 1)*(240+32)+4)<=2*276:=mul n2 (by lia);have e9:mv.length*(33*mv.length+(80*(mv.length - 1)+160)+4)<=2*310:=mul n2 (by lia);have gm:GF (M1*M2) (9^3*2^20) mv:=λxs hx x hx'=>(X.gm xs hx x hx').dvd (xk _ _)
   have gp:GF (M1*M2) (9^3*2^20) pt:=λxs hx x hx'=>(X.gp xs hx x hx').dvd (dq _ _)
   exact ⟨M1,M2,_,80,160,33,240,32,182,X,iT (n0:=2) (bQ X.m1 X.m2) (mul_pow X.b1 X.b2) n2 k1 gm gp (by decide),λr hr=>of_decide_eq_true (SV _ (by lia) r (by lia)) hr,by lia,wide w9 16 m n2,by lia⟩
  ·obtain ⟨_,z | ⟨hd,_⟩⟩:=S
   ·exact absurd z T3
   have m:(T+1)*pt.length<=13*4:=mul (by lia) i4
   have gf:∀l:LR9,(∀xs∈l,xs∈mv++pt)->GF 2520 1000 l:=λl hl xs hx x hx'=>by
    have:=hd xs (hl xs hx) x hx';exact (Fr.own x (aU this.2)).dvd (zR this.1)
   have X2:Bd mv pt 2520 2520 1000 12 12 13:=⟨by decide,by decide,by decide,by decide,gf mv λxs hx=>aA.mpr (.inl hx),gf pt λxs hx=>aA.mpr (.inr hx),ai (az _ (show mv.length+4<=6 by lia)) (by decide)⟩;have k1:(2+1)*1000<=2^12:=by decide
   have e8:mv.length*((mv.length - 1)*(12+12)+4)<=2*28:=mul n2 (by lia);have e9:mv.length*(13*mv.length+(12*(mv.length - 1)+12)+4)<=2*54:=mul n2 (by lia);exact ⟨2520,2520,1000,12,12,13,12,12,542,X2,iT (n0:=2) (by decide) (by decide) n2 k1 X2.gm X2.gp (by decide),λr hr=>of_decide_eq_true (SU _ (by lia) r (by lia)) hr,by lia,wide w9 52 m n2,by lia⟩
end
structure Ur (mv pt N U pus:LR9) (st:List Rat):Prop where
 en:Jz mv pt pus st
 f1:∀k,k<=pus.length->∀z∈N,rf z (jU mv pt st pus k)
 f2:∀k,k<=pus.length->∀u∈U,rf u (N.map λz=>cE z (jU mv pt st pus k))
 go:∀k pu,pus[k]?=some pu->(N.map λz=>cE z (fH mv pt (jU mv pt st pus k) pu))=U.map λu=>cE u (N.map λz=>cE z (jU mv pt st pus k))
section
variable {mv pt lk R:LR9} {ps:List Nat} {w T M1 M2 V a1 a2 c a0 c0 b:Nat} {st:List Rat}
theorem PY.nt (Y:PY mv pt w T M1 M2 V a1 a2 c a0 c0 b) (D:eG mv pt lk) (RR:bI (kry mv pt mv.length) mv.length R ps):∃q,0 < q/\q<=2^(ps.length*((mv.length - 1)*(a0+c0)+4))/\∀xs∈aR R ps mv.length,∀x∈xs,Tp q (2^(ps.length*((mv.length - 1)*(a0+c0)+4))) x:=by
 obtain ⟨q,q0,q1,q2⟩:=Y.kf.rtp D.n8 D.mw D.pw RR;refine ⟨q,q0,q1,λxs hx=>?_⟩;obtain ⟨z,_,_,rfl⟩:=oG hx;exact Pw q0 q1 q2 RR
theorem PY.un (Y:PY mv pt w T M1 M2 V a1 a2 c a0 c0 b) (D:eG mv pt lk) (RR:bI (kry mv pt mv.length) mv.length R ps):∃q,0 < q/\q<=2^(mv.length*((mv.length - 1)*(a0+c0)+4))/\(∀xs∈aR R ps mv.length,∀x∈xs,Fr q (2^(mv.length*((mv.length - 1)*(a0+c0)+4))) x)/\∀xs∈oX mv R ps,∀x∈xs,Fr (M1*q) (2^(c+mv.length*((mv.length - 1)*(a0+c0)+4))) x:=by
 obtain ⟨q,q0,q1,q2⟩:=Y.nt D RR;have le:=RR.le;have up:2^(ps.length*((mv.length - 1)*(a0+c0)+4))<=2^(mv.length*((mv.length - 1)*(a0+c0)+4)):=ax (by decide) (az _ le);have fr:∀xs∈aR R ps mv.length,∀x∈xs,Fr q (2^(mv.length*((mv.length - 1)*(a0+c0)+4))) x:=λxs hx x hx'=>((q2 xs hx x hx').fr q0).mono up
 refine ⟨q,q0,ai q1 up,fr,λxs hx x hx'=>?_⟩;obtain ⟨row,hr,rfl⟩:=aE.mp hx;obtain ⟨pl,_,rfl⟩:=aE.mp hx';obtain ⟨z,hz,rfl⟩:=aE.mp hr;rw[aa,aG];cases e:(cS mv mv.length)[pl]? with
 | none=>exact Fr.zero
 | some ys =>
  have my:=ay e;have f:=Fr.dot (JB Y.bd.gm ys my) (fr z hz);refine f.mono ?_;rw[jc ys my,a8,<- cR];exact az _ (ai (az V (show mv.length<=mv.length+4 by lia)) Y.bd.vc)
theorem PY.go (Y:PY mv pt w T M1 M2 V a1 a2 c a0 c0 b) (D:eG mv pt lk) (RR:bI (kry mv pt mv.length) mv.length R ps) (ls:st.length=mv.length) (ds:∀x∈st,Dr (max w 6) x) {pus:LR9} (lp:pus.length=T) (hp:∀xs∈pus,xs.length=pt.length/\∀x∈xs,Dr (max w 6) x):Ur mv pt (aR R ps mv.length) (oX mv R ps) pus st:=by
 obtain ⟨q,q0,q1,fN,fU⟩:=Y.un D RR;have B:=Y.bd;have n8:mv.length<=2^3:=D.n8;have wp:∀xs∈pus,xs.length=pt.length:=λxs hx=>(hp xs hx).1
 have lfl:∀l:LR9,(∀xs∈l,xs.length=pt.length)->l.flatten.length=l.length*pt.length:=by
  intro l
  induction l with
  | nil=>intro _;simp
  | cons x l ih =>
   intro h;rw[fM,au,ih λxs hx=>h xs (b6 _ hx),h x (dm ..),bB,xl,mM,kJ]
 obtain ⟨C,C0,C1,C2⟩:=Y.dr (st++pus.flatten) (λx hx=>by
  rcases aA.mp hx with h | h
  ·exact ds x h
  ·obtain ⟨xs,h1,h2⟩:=fz.mp h;exact (hp xs h1).2 x h2) (by rw[au,lfl pus wp,lp,ls];exact ak _)
 have sz:=Y.sz;generalize hE:mv.length*((mv.length - 1)*(a0+c0)+4)=E at *
 have N0:0 < M2*C:=bQ B.m2 C0;have hN:M2*C<=2^(a2+b):=by rw[a8];exact aK B.b2 C1
 have hs:∀x∈st,Fr (M2*C) (2^22) x:=λx hx=>(C2 x (dk _ hx)).dvd (dq _ _)
 have hu:∀xs∈pus,∀x∈xs,Fr C (2^22) x:=λxs hx x hx'=>C2 x (bG _ (fz.mpr ⟨xs,hx,hx'⟩))
 have z1:a1*(T+2)=a1*(T+1)+a1:=by rw[show T+2=(T+1)+1 from rfl,eB,xj]
 have z2:c*(T+2)=c*(T+1)+c:=by rw[show T+2=(T+1)+1 from rfl,eB,xj]
 have s1:a1*(pus.length+1)+(a2+b)+c*(pus.length+1)+22<=3900:=by rw[lp];lia
 have s2:a2+c<=3900:=by lia
 have stt:=B.states D ls wp N0 hN (iW _) hs hu s1 s2;have k1:∀k,k<=pus.length->a1*k<=a1*(T+1):=λk hk=>aM _ (by lia)
 have k2:∀k,k<=pus.length->c*k<=c*(T+1):=λk hk=>aM _ (by lia)
 refine ⟨⟨M1,M2,V,a1,a2,c,_,C,22,a2+b,B,N0,hN,iW _,hs,hu,s1,s2⟩,λk hk z hz=>?_,λk hk u hu'=>?_,λk pu hpu=>?_⟩
 ·have:=k1 k hk;have:=k2 k hk;exact ⟨E,E,a1*k+(a2+b),c*k+22,⟨q,_,q0,q1,ak _,fN z hz⟩,⟨_,_,bQ (dS B.m1) N0,jz B.b1 hN,ak _,(stt k hk).1⟩,by lia⟩
 ·have:=k1 k hk;have:=k2 k hk;refine ⟨a1+E,c+E,E+(a1*k+(a2+b)),3+(E+(c*k+22)),⟨_,_,bQ B.m1 q0,?_,ak _,fU u hu'⟩,⟨q*(M1^k*(M2*C)),2^(3+(E+(c*k+22))),bQ q0 (bQ (dS B.m1) N0),?_,ak _,λx hx=>?_⟩,by lia⟩
  ·rw[a8];exact aK B.b1 q1
  ·rw[a8];exact aK q1 (jz B.b1 hN)
  ·obtain ⟨z,hz,rfl⟩:=aE.mp hx;refine (Fr.dot (fN z hz) (stt k hk).1).mono ?_;rw[lH z hz,a8 2 3,a8 2 E];exact az _ n8
 ·have hk:k < pus.length:=(aF.mp hpu).1;exact J9 Y.kf D RR (jo ls (by lia)) (wp pu (ay hpu))
end
inductive Cz (K:FG9) (C:Addr) (vs:List V) (H:Hp) (Q:VK) (E9:XK):Prop
 | mk (x:Addr) (a c:Nat) (H0:Hp) (mv pt lk:LR9):vs=[.ref x]->jR K H0 H C x mv pt lk->eG mv pt lk->iM mv pt a c->(∀t r q R ps Hm H',H' t=some (.tup [.ref r,.ref q])->aL H Hm->aL Hm H'->H r=none->bE K H Hm r (aR R ps mv.length)->Hm q=none->bE K Hm H' q (oX mv R ps)->bI (kry mv pt mv.length) mv.length R ps->Q (.ref t) H')->Cz K C vs H Q E9
section
variable {mv pt lk R pus:LR9} {ps:List Nat} {n a c k k':Nat} {pr go:List Rat}
theorem Mv (RR:bI (kry mv pt k) n R ps) (wk:∀xs∈kry mv pt k,xs.length=n) (lp:pr.length=n) (lg:go.length=n) (h:∀xs∈kry mv pt k,cE xs pr=0) (hg:cE pr go≠0):∃z∈aR R ps n,cE z go≠0:=by
 refine Classical.byContradiction λno=>hg ?_
 have zero:∀z∈aR R ps n,cE z go=0:=λz hz=>Classical.byContradiction λe=>no ⟨z,hz,e⟩
 have far:∀c,n<=c->(λc=>pr.getD c 0) c=0:=λc hc=>by
  show pr.getD c 0=0
  rw[aa,aV (by lia)];rfl
 have kz:∀t,t < (kry mv pt k).length->(bo n λb=>bU (kry mv pt k) t b*pr.getD b 0)=0:=λt ht=>by
  have mt:=aJ ht;have d:=h _ mt;rw[c6 (by rw[wk _ mt,lp]),wk _ mt] at d;refine Eq.trans (aH λb _=>?_) d;unfold bU;rw[aa (l:=kry mv pt k),af ht];rfl
 have sp:=Dj RR far λj hj=>by
  obtain ⟨w,hw⟩:=RR.2.2.back j hj;show (bo n λb=>bU R j b*pr.getD b 0)=0
  have e:(bo n λb=>bU R j b*pr.getD b 0)=bo n λb=>bo (kry mv pt k).length λt=>w t*(bU (kry mv pt k) t b*pr.getD b 0):=aH λb _=>by
   rw[hw b,cX,<- bV];exact aH λt _=>by grind
  rw[e,dn];exact cJ λt ht=>by rw[bV,kz t ht,dJ]
 obtain ⟨w,hw⟩:=sp;rw[c6 (by rw[lp,lg]),lp]
 have e:(bo n λb=>pr.getD b 0*go.getD b 0)=bo n λb=>bo (aR R ps n).length λt=>w t*(bU (aR R ps n) t b*go.getD b 0):=aH λb _=>by
  have:=hw b;simp only at this;rw[this,cX,<- bV];exact aH λt _=>by grind
 rw[e,dn];refine cJ λt ht=>?_
 rw[bV];have mt:=aJ ht;have d:=zero _ mt;rw[c6 (by rw[lH _ mt,lg]),lH _ mt] at d
 have:(bo n λb=>bU (aR R ps n) t b*go.getD b 0)=0:=by
  refine Eq.trans (aH λb _=>?_) d;unfold bU;rw[aa (l:=aR R ps n),af ht];rfl
 rw[this,dJ]
theorem CZ (KF:iM mv pt a c) (D:eG mv pt lk) (RR:bI (kry mv pt mv.length) mv.length R ps) (wp:∀xs∈pus,xs.length=pt.length):∀k,k<=pus.length->∀z∈aR R ps mv.length,cE z (jU mv pt (List.replicate mv.length 0) pus k)=0
 | 0,_,z,hz=>by rw[LP];exact vW z _
 | k+1,hk,z,hz=>by
  have ih:=CZ KF D RR wp k (by lia);have hk':k < pus.length:=by lia
  have e:=J9 KF D RR (st:=jU mv pt (List.replicate mv.length 0) pus k) (pu:=pus[k]) (jo (aD ..) (by lia)) (wp _ (aJ hk'));rw[<- lZ (af hk')] at e;have m:cE z (jU mv pt (List.replicate mv.length 0) pus (k+1))∈(aR R ps mv.length).map λz=>cE z (jU mv pt (List.replicate mv.length 0) pus (k+1)):=aE.mpr ⟨z,hz,rfl⟩
  rw[e] at m;obtain ⟨w,_,ew⟩:=aE.mp m;rw[<- ew]
  have:((aR R ps mv.length).map λz=>cE z (jU mv pt (List.replicate mv.length 0) pus k))=List.replicate (aR R ps mv.length).length 0:=by
   exact (iF ih).trans hJ
  rw[this];exact vW w _
theorem KU (D:eG mv pt lk) (lg:go.length=mv.length) (lp:pus.length=k) (wp:∀xs∈pus,xs.length=pt.length) (h1:jU mv pt (List.replicate mv.length 0) pus k=go) (hk:k<=k') (lpr:pr.length=mv.length) (h2:∀xs∈kry mv pt k',cE xs pr=0):cE pr (eI mv k' (List.replicate mv.length 0) go)=0:=by
 have e:∀t,eI mv t (List.replicate mv.length 0) go=eI mv 0 (List.replicate mv.length 0) go:=λt=>by
  unfold eI;rw[uR,uR]
 rw[e k',<- e k];refine Lc D (aD ..) lg lp wp h1 lpr λxs hx=>h2 xs ?_
 have:∀d,xs∈kry mv pt (k+d):=by
  intro d
  induction d with
  | zero=>exact hx
  | succ d ih =>
   obtain ⟨Z,eZ⟩:=Fe (mv:=mv) (pt:=pt) (k+d);rw[show k+(d+1)=(k+d)+1 by lia,eZ];exact dk _ ih
 have:=this (k' - k);rwa [show k+(k' - k)=k' by lia] at this
end
def fj {α:Type} (xs:List α) (i:Nat):List α:=(xs[i]?.toList++xs.take i)++xs.drop (i+1)
theorem DT {α:Type} {xs:List α} {i:Nat} (h:i < xs.length):(fj xs i).length=xs.length:=by
 unfold fj;rw[au,au,cG,oV,af h];simp
 lia
theorem oM {α:Type} {xs:List α} {i:Nat} {x:α} (h:x∈fj xs i):x∈xs:=by
 unfold fj at h;rcases aA.mp h with h | h
 ·rcases aA.mp h with h | h
  ·exact ay (Option.mem_toList.mp h)
  ·exact cy h
 ·exact Ed h
structure Z48 (N T a1 a2 c e g:Nat):Prop where
 de:(a1*(N - 1)+a2)+e<=4300
 sw:(N+1)*((c*N+(a1*(N - 1)+a2)+e+g+2)+4)<=8900
 sv:c*N+(a1*(N - 1)+a2)+e+g+2<=4300
 en:a1*(T+1)+(a2+(e+N*(4+(c*N+(a1*(N - 1)+a2)))))+c*(T+1)+((a1*(N - 1)+a2)+3+(g+e+N*(4+(c*N+(a1*(N - 1)+a2)))))<=3900
 ac:a2+c<=3900
 ad:a1*(T+1)+a2+c*(T+2)<=3900
 f1:2*(N*(4+(c*N+(a1*(N - 1)+a2)))+(5+(g+e)))+((a1*T+a2)+c*T)<=3930
 f2:2*(N*(4+(c*N+(a1*(N - 1)+a2)))+(5+(g+e)))+(e+g)<=3930
section
variable {mv pt lk:LR9} {go:List Rat} {M1 M2 Vx a1 a2 c N T e g E u w:Nat}
theorem Bd.rest (B:Bd mv pt M1 M2 Vx a1 a2 c) (D:eG mv pt lk) (hn:mv.length<=N) (lg:go.length=mv.length) (E0:0 < E) (E1:E<=2^e) (fg:∀x∈go,Fr E (2^g) x) (Z:Z48 N T a1 a2 c e g) (hu:u<=T):RS mv pt (List.replicate mv.length 0) go u (O6 mv pt (List.replicate mv.length 0) go u) (Nw mv pt (List.replicate mv.length 0) go u):=by
 obtain ⟨z1,z2,z3,z4,z5,z6,z7,z8⟩:=Z;have n8:mv.length<=2^3:=D.n8;have up:∀{p r:Nat},p<=r->2^p<=2^r:=λz=>ax (by decide) z
 have D0:0 < M1^(N - 1)*M2:=bQ (dS B.m1) B.m2;have D1:M1^(N - 1)*M2<=2^(a1*(N - 1)+a2):=jz B.b1 B.b2
 have kf:∀t m,t<=m->∀xs∈L2.kry mv pt t,∀x∈xs,Fr (M1^(m - 1)*M2) (2^(c*m)) x:=λt m ht xs hx x hx' =>
  Fr.up (B.kry D t xs hx x hx') (Nat.mul_dvd_mul_right (Nat.pow_dvd_pow _ (by lia)) _) (up (aM _ ht))
 have W0:2^(c*N)*(M1^(N - 1)*M2)<=2^(c*N+(a1*(N - 1)+a2)):=by rw[a8];exact aM _ D1
 have W1:2^g*E<=2^(g+e):=by rw[a8];exact aM _ E1
 have W1p:1<=2^g*E:=bQ (dS (by decide)) E0;have tg:∀x∈go,Tp E (2^g*E) x:=λx hx=>Tp.of (fg x hx) (ak _)
 have sg:∀x∈go,nB x:=λx hx=>sP E0 E1 (ak _) (by lia) (fg x hx)
 have t1:a1*(u+1)<=a1*(T+1):=aM _ (by lia);have t2:c*(u+1)<=c*(T+1):=aM _ (by lia);have t3:c*(u+2)<=c*(T+2):=aM _ (by lia)
 have qx:(16*(2^(c*N)*(M1^(N - 1)*M2)))^mv.length<=2^(N*(4+(c*N+(a1*(N - 1)+a2)))):=by
  have e1:16*(2^(c*N)*(M1^(N - 1)*M2))<=2^(4+(c*N+(a1*(N - 1)+a2))):=by rw[a8 2 4];exact aM _ W0
  refine ai (iD e1 _) ?_;rw[<- qW,bZ N];exact up (aM _ hn)
 have ct:CtF mv pt u (List.replicate mv.length 0) go (M1^(N - 1)*M2) (2^(c*N)*(M1^(N - 1)*M2)) E (2^g*E):=by
  refine ⟨cf0 D,sg,?_,λpus q q0 q1 lp hp=>?_⟩
  ·rw[MI D.mw lg];generalize a1*(N - 1)+a2=dd at *
   refine ⟨D0,E0,bQ (dS (by decide)) D0,W1p,λt ht ys hy x hx'=>Tp.of (kf t N (by lia) ys hy x hx') (ak _),tg,?_,⟨c*N+dd+e+g+2,?_,z3,ai (az _ (by lia)) z2⟩⟩
   ·refine ai (aK D1 E1) ?_;rw[<- a8];exact up z1
   ·have S:∀{x y k j:Nat},x<=2^k->y<=2^j->k+j<=c*N+dd+e+g->x*y<=2^(c*N+dd+e+g):=λhx hy hk=>by
     refine ai (aK hx hy) ?_;rw[<- a8];exact up hk
    have s1:=S W0 E1 (by lia);have s2:=S W1 D1 (by lia);have s3:=S D1 E1 (by lia);rw[a8 2 (c*N+dd+e+g) 2];generalize 2^(c*N+dd+e+g)=P at s1 s2 s3 ⊢
    lia
  ·have Np0:0 < E*q:=bQ E0 q0;have hq':=ai q1 qx
   have hP:M1^(N - 1)*M2*(mv.length*(2^g*E*(16*(2^(c*N)*(M1^(N - 1)*M2)))^mv.length))<=2^((a1*(N - 1)+a2)+3+(g+e+N*(4+(c*N+(a1*(N - 1)+a2))))):=by
    refine ai (aK D1 (aK n8 (aK W1 qx))) ?_;rw[<- a8,<- a8,<- a8,<- Nat.add_assoc];exact ak _
   refine ⟨M1,M2,Vx,a1,a2,c,M2*(E*q),E*q,_,a2+(e+N*(4+(c*N+(a1*(N - 1)+a2)))),B,bQ B.m2 Np0,?_,iW _,λx hx'=>by rw[xp hx'];exact Fr.zero,λxs' hx' x hx''=>((hp xs' hx' x hx'').fr Np0).mono hP,by rw[lp];lia,z5⟩;rw[a8,a8];exact aK B.b2 (aK E1 hq')
 refine ⟨_,_,_,_,ct,λpus q l w s cp q0 q1 tp=>⟨l,w,s,cp,ct.en pus q q0 q1 l tp⟩,λpr q l k d cn q0 q1 tp=>⟨l,k,d,cn,?_⟩⟩
 have y1:(16*(2^(c*N)*(M1^(N - 1)*M2)))^mv.length*(16*(2^g*E+E))<=2^(N*(4+(c*N+(a1*(N - 1)+a2)))+(5+(g+e))):=by
  rw[a8];refine aK qx ?_;have:E<=2^g*E:=cI _ (dS (by decide));rw[a8 2 5];generalize 2^g*E=v at this W1 ⊢
  lia
 have fp:oQ (N*(4+(c*N+(a1*(N - 1)+a2)))+(5+(g+e))) (N*(4+(c*N+(a1*(N - 1)+a2)))+(5+(g+e))) pr:=⟨q,_,q0,ai q1 y1,y1,λx hx=>(tp x hx).fr q0⟩;have t4:a1*(u - 1)<=a1*T:=aM _ (by lia);have t5:c*u<=c*T:=aM _ hu;refine ⟨⟨M1,M2,Vx,a1,a2,c,B,by lia⟩,⟨M1,Vx,a1,c,1,0,0,B.m1,B.b1,B.gm,B.vc,by decide,by decide,λx hx=>by rw[xp hx];exact Fr.zero,by lia⟩,sg,λx hx=>El (tp x hx) q0 (ai q1 (ai y1 (up (by lia)))) (ai y1 (up (by lia))),λxs hx=>⟨_,_,a1*(u - 1)+a2,c*u,fp,⟨M1^(u - 1)*M2,_,bQ (dS B.m1) B.m2,jz B.b1 B.b2,ak _,kf u u (ak _) xs hx⟩,by lia⟩,?_⟩;rw[MI D.mw lg];exact ⟨_,_,e,g,fp,⟨E,_,E0,E1,ak _,fg⟩,by lia⟩
def Uq (n T a1 a2 c b1:Nat) (W:Prop):Prop:=(a1=0/\a2=0/\c=14/\b1=12)\/(a1=12/\a2=12/\c=16/\b1=12/\n<=5)\/(a1=80/\a2=160/\c=33/\b1=165/\n<=2/\T<=3/\W)\/(a1=12/\a2=12/\c=13/\b1=525/\n<=2)
theorem Qr (R:Rg mv pt w) (D:eG mv pt lk) (S:NC mv pt T):∃M1 M2 V a1 a2 c b1 b2,Us mv pt w T M1 M2 V a1 a2 c b1 b2/\Uq mv.length T a1 a2 c b1 (∀T,NC mv pt T->T<=3):=by
 have i4:=D.i4;have n8:=D.n8;have T12:=S.1;have small:w<=9->∀l:List Rat,(∀x∈l,Dr (max w 6) x)->∃B,0 < B/\6∣B/\(∀x∈l,Fr B (2^22) x)/\(l.length<=2*mv.length+T*pt.length->B<=2^12)/\(l.length<=2*mv.length+2*(T*pt.length)->B<=2^12):=λw9 l h=>⟨2520,by decide,by decide,λx hx=>(Fp ⟨ai (h x hx).1 (by lia),ai (h x hx).2 (by lia)⟩ (iW _)).mono (by decide),λ_=>by decide,λ_=>by decide⟩
 have wide:w=1000->∀t,T*pt.length<=t->mv.length<=2->∀l:List Rat,(∀x∈l,Dr (max w 6) x)->∃B,0 < B/\6∣B/\(∀x∈l,Fr B (2^22) x)/\(l.length<=2*mv.length+T*pt.length->B<=2^(45+10*t))/\(l.length<=2*mv.length+2*(T*pt.length)->B<=2^(45+20*t)):=λw9 t ht n2 l h=>by
  obtain ⟨B,h0,h1,h2⟩:=yh (c:=10) (l:=l) (λx hx=>⟨ai (h x hx).1 (by rw[w9];decide),ai (h x hx).2 (by rw[w9];decide)⟩) (by decide)
  have up:∀k,3+(10*l.length+2)<=k->6*B<=2^k:=λk hk=>by
   refine ai ?_ (ax (by decide) hk);rw[a8 2 3];exact aK (by decide) h1
  exact ⟨6*B,by lia,xk _ _,λx hx=>(h2 x hx).scaleL 6,λhl=>up _ (by lia),λhl=>up _ (by lia)⟩
 rcases R with ⟨w9,X⟩ | ⟨w9,n5,X⟩ | ⟨w9,n2,M1,M2,X⟩
 ·exact ⟨_,_,_,_,_,_,12,12,⟨X,ko (n':=8) (T':=12) (b':=12) n8 T12 (ak _) (by decide),zG (n':=8) (T':=12) (b':=12) n8 T12 (ak _) (by decide),ko (n':=8) (T':=12) (b':=12) n8 T12 (ak _) (by decide),small w9⟩,.inl ⟨rfl,rfl,rfl,rfl⟩⟩
 ·exact ⟨_,_,_,_,_,_,12,12,⟨X,ko (n':=5) (T':=12) (b':=12) n5 T12 (ak _) (by decide),zG (n':=5) (T':=12) (b':=12) n5 T12 (ak _) (by decide),ko (n':=5) (T':=12) (b':=12) n5 T12 (ak _) (by decide),small w9⟩,.inr (.inl ⟨rfl,rfl,rfl,rfl,n5⟩)⟩
 ·by_cases hd:∀xs∈mv++pt,∀x∈xs,x.den<=9/\x.num.natAbs < 1000
  ·have m:T*pt.length<=12*4:=aK T12 i4
   have gf:∀l:LR9,(∀xs∈l,xs∈mv++pt)->GF 2520 1000 l:=λl hl xs hx x hx'=>by
    have:=hd xs (hl xs hx) x hx';exact (Fr.own x (aU this.2)).dvd (zR this.1)
   have X2:Bd mv pt 2520 2520 1000 12 12 13:=⟨by decide,by decide,by decide,by decide,gf mv λxs hx=>aA.mpr (.inl hx),gf pt λxs hx=>aA.mpr (.inr hx),ai (az _ (show mv.length+4<=6 by lia)) (by decide)⟩;exact ⟨_,_,_,_,_,_,525,1005,⟨X2,ko (n':=2) (T':=12) (b':=525) n2 T12 (ak _) (by decide),zG (n':=2) (T':=12) (b':=525) n2 T12 (ak _) (by decide),ko (n':=2) (T':=12) (b':=1005) n2 T12 (ak _) (by decide),wide w9 48 m n2⟩,.inr (.inr (.inr ⟨rfl,rfl,rfl,rfl,n2⟩))⟩
  ·have all3:∀T,NC mv pt T->T<=3:=λT S=>S.2.elim id λz=>absurd z.1 hd
   have T3:=all3 T S;have m:T*pt.length<=3*4:=aK T3 i4;exact ⟨_,_,_,_,_,_,165,285,⟨X,ko (n':=2) (T':=3) (b':=165) n2 T3 (ak _) (by decide),zG (n':=2) (T':=3) (b':=165) n2 T3 (ak _) (by decide),ko (n':=2) (T':=3) (b':=285) n2 T3 (ak _) (by decide),wide w9 12 m n2⟩,.inr (.inr (.inl ⟨rfl,rfl,rfl,rfl,n2,T3,all3⟩))⟩
theorem Sx (R:Rg mv pt w) (D:eG mv pt lk) (S:NC mv pt T):∃M1 M2 V a1 a2 c b1 b2,Us mv pt w T M1 M2 V a1 a2 c b1 b2/\∀go,go.length=mv.length->GoB mv pt M1 M2 c b1 T (List.replicate mv.length 0) go->(∃E e g,0 < E/\E<=2^e/\(∀x∈go,Fr E (2^g) x)/\e+g<=1900)/\∀u T',u<=12->NC mv pt T'->u<=mv.length+1+T'->RS mv pt (List.replicate mv.length 0) go u (O6 mv pt (List.replicate mv.length 0) go u) (Nw mv pt (List.replicate mv.length 0) go u):=by
 obtain ⟨M1,M2,V,a1,a2,c,b1,b2,U,P⟩:=Qr R D S;refine ⟨M1,M2,V,a1,a2,c,b1,b2,U,λgo lg ⟨B,h0,h1,_,fg⟩=>?_⟩;have n8:=D.n8;have T12:=S.1;have E0:0 < M1^T*(M2*B):=bQ (dS U.bd.m1) (bQ U.bd.m2 h0);have E1:M1^T*(M2*B)<=2^(a1*T+(a2+b1)):=jz U.bd.b1 (by rw[a8];exact aK U.bd.b2 h1);have B0:=U.bd
 have go1:∀{N T2 e g:Nat},mv.length<=N->a1*T+(a2+b1)<=e->c*T+23<=g->Z48 N T2 a1 a2 c e g->e+g<=1900->(∀u T',u<=12->NC mv pt T'->u<=mv.length+1+T'->u<=T2)->(∃E e g,0 < E/\E<=2^e/\(∀x∈go,Fr E (2^g) x)/\e+g<=1900)/\∀u T',u<=12->NC mv pt T'->u<=mv.length+1+T'->RS mv pt (List.replicate mv.length 0) go u (O6 mv pt (List.replicate mv.length 0) go u) (Nw mv pt (List.replicate mv.length 0) go u):=λhn he hg Z se hu=>by
  have E2:=ai E1 (ax (by decide) he);have f2:∀x∈go,Fr (M1^T*(M2*B)) (2^_) x:=λx hx=>(fg x hx).mono (ax (by decide) hg)
  exact ⟨⟨_,_,_,E0,E2,f2,se⟩,λu T' u1 u2 u3=>B0.rest D hn lg E0 E2 f2 Z (hu u T' u1 u2 u3)⟩
 rcases P with ⟨rfl,rfl,rfl,rfl⟩ | ⟨rfl,rfl,rfl,rfl,n5⟩ | ⟨rfl,rfl,rfl,rfl,n2,T3,all3⟩ | ⟨rfl,rfl,rfl,rfl,n2⟩
 ·exact go1 (N:=8) (T2:=12) (e:=12) (g:=191) n8 (by lia) (by lia) ⟨by decide,by decide,by decide,by decide,by decide,by decide,by decide,by decide⟩ (by decide) λ_ _ h _ _=>h
 ·exact go1 (N:=5) (T2:=12) (e:=168) (g:=215) n5 (by lia) (by lia) ⟨by decide,by decide,by decide,by decide,by decide,by decide,by decide,by decide⟩ (by decide) λ_ _ h _ _=>h
 ·exact go1 (N:=2) (T2:=6) (e:=565) (g:=122) n2 (by lia) (by lia) ⟨by decide,by decide,by decide,by decide,by decide,by decide,by decide,by decide⟩ (by decide) λu T' _ h h'=>by have:=all3 T' h;lia
 ·exact go1 (N:=2) (T2:=12) (e:=681) (g:=179) n2 (by lia) (by lia) ⟨by decide,by decide,by decide,by decide,by decide,by decide,by decide,by decide⟩ (by decide) λ_ _ h _ _=>h
end
theorem lF {α:Type} {F:α->V->Prop} {as:List α} {xs:List V} (h:Paired F as xs) {i:Nat} (hi:i < xs.length):Paired F (fj as i) (fj xs i):=by
 have l:=h.length;obtain ⟨a,ea,fa⟩:=b8 h (af hi);unfold fj;rw[ea,af hi];exact bT (bT (.cons fa .nil) (mV h i)) (nV h (i+1))
inductive Gg (K:FG9) (vs:List V) (H:Hp) (Q:VK) (E9:XK):Prop
 | mk (p:Addr) (i:Nat) (xs:List V):vs=[.ref p,.int i]->H p=some (.lst xs)->i < xs.length->xs.length<=500->(∀l H',H l=none->aL H H'->H' l=some (.lst (fj xs i))->Q (.ref l) H')->Gg K vs H Q E9
section
variable {mv pt lk:LR9} {w T:Nat}
theorem Qs {T':Nat} (R:Rg mv pt w) (D:eG mv pt lk) (S:NC mv pt T') (T12:T<=12) (Tn:T<=mv.length+1+T'):∃M1 M2 V a1 a2 c a0 c0 b,PY mv pt w T M1 M2 V a1 a2 c a0 c0 b:=by
 have i4:=D.i4;have n8:=D.n8;have small:w<=9->∀l:List Rat,(∀x∈l,Dr (max w 6) x)->l.length<=mv.length+T*pt.length->∃B,0 < B/\B<=2^12/\∀x∈l,Fr B (2^22) x:=λw9 l h _=>⟨2520,by decide,by decide,λx hx=>(Fp ⟨ai (h x hx).1 (by lia),ai (h x hx).2 (by lia)⟩ (iW _)).mono (by decide)⟩
 have wide:w=1000->∀t,T*pt.length<=t->mv.length<=2->∀l:List Rat,(∀x∈l,Dr (max w 6) x)->l.length<=mv.length+T*pt.length->∃B,0 < B/\B<=2^(22+10*t)/\∀x∈l,Fr B (2^22) x:=λw9 t ht n2 l h hl=>by
  obtain ⟨B,h0,h1,h2⟩:=yh (c:=10) (l:=l) (λx hx=>⟨ai (h x hx).1 (by rw[w9];decide),ai (h x hx).2 (by rw[w9];decide)⟩) (by decide);exact ⟨B,h0,ai h1 (ax (by decide) (by lia)),h2⟩
 have mul:∀{x y p q:Nat},x<=p->y<=q->x*y<=p*q:=λh h'=>aK h h'
 rcases R with ⟨w9,X⟩ | ⟨w9,n5,X⟩ | ⟨w9,n2,M1,M2,X⟩
 ·have k1:(8+1)*9^3<=2^13:=by decide
  have e8:mv.length*((mv.length - 1)*(0+13)+4)<=8*95:=mul n8 (by lia);have e9:mv.length*(14*mv.length+(0*(mv.length - 1)+0)+4)<=8*116:=mul n8 (by lia);exact ⟨_,_,_,_,_,_,0,13,12,X,iT (n0:=8) X.m1 (by decide) n8 k1 X.gm X.gp (by decide),λr hr=>of_decide_eq_true (SX _ (by lia) r (by lia)) hr,by lia,small w9,by lia⟩
 ·have k1:(5+1)*(9^3*9)<=2^16:=by decide
  have e8:mv.length*((mv.length - 1)*(12+16)+4)<=5*116:=mul n5 (by lia);have e9:mv.length*(16*mv.length+(12*(mv.length - 1)+12)+4)<=5*144:=mul n5 (by lia);exact ⟨_,_,_,_,_,_,12,16,12,X,iT (n0:=5) X.m1 (by decide) n5 k1 X.gm X.gp (by decide),λr hr=>of_decide_eq_true (SW _ (by lia) r (by lia)) hr,by lia,small w9,by lia⟩
 ·by_cases T3:T'<=3
  ·have m:T*pt.length<=6*4:=mul (by lia) i4;have k1:(2+1)*(9^3*2^20)<=2^32:=by decide
   have e8:mv.length*((mv.length - 1)*(240+32)+4)<=2*276:=mul n2 (by lia);have e9:mv.length*(33*mv.length+(80*(mv.length - 1)+160)+4)<=2*310:=mul n2 (by lia);have gm:GF (M1*M2) (9^3*2^20) mv:=λxs hx x hx'=>(X.gm xs hx x hx').dvd (xk _ _)
   have gp:GF (M1*M2) (9^3*2^20) pt:=λxs hx x hx'=>(X.gp xs hx x hx').dvd (dq _ _)
   exact ⟨M1,M2,_,80,160,33,240,32,262,X,iT (n0:=2) (bQ X.m1 X.m2) (mul_pow X.b1 X.b2) n2 k1 gm gp (by decide),λr hr=>of_decide_eq_true (SV _ (by lia) r (by lia)) hr,by lia,wide w9 24 m n2,by lia⟩
  ·obtain ⟨_,z | ⟨hd,_⟩⟩:=S
   ·exact absurd z T3
   have m:T*pt.length<=12*4:=mul (by lia) i4
   have gf:∀l:LR9,(∀xs∈l,xs∈mv++pt)->GF 2520 1000 l:=λl hl xs hx x hx'=>by
    have:=hd xs (hl xs hx) x hx';exact (Fr.own x (aU this.2)).dvd (zR this.1)
   have X2:Bd mv pt 2520 2520 1000 12 12 13:=⟨by decide,by decide,by decide,by decide,gf mv λxs hx=>aA.mpr (.inl hx),gf pt λxs hx=>aA.mpr (.inr hx),ai (az _ (show mv.length+4<=6 by lia)) (by decide)⟩;have k1:(2+1)*1000<=2^12:=by decide
   have e8:mv.length*((mv.length - 1)*(12+12)+4)<=2*28:=mul n2 (by lia);have e9:mv.length*(13*mv.length+(12*(mv.length - 1)+12)+4)<=2*54:=mul n2 (by lia);exact ⟨2520,2520,1000,12,12,13,12,12,502,X2,iT (n0:=2) (by decide) (by decide) n2 k1 X2.gm X2.gp (by decide),λr hr=>of_decide_eq_true (SU _ (by lia) r (by lia)) hr,by lia,wide w9 48 m n2,by lia⟩
end
theorem Js {α:Type} {xs:List α} {i:Nat} (h:i < xs.length):(fj xs i)[0]?=some xs[i]:=by
 unfold fj;rw[af h];rfl
def Ul (mv pt:LR9) (go:List Rat) (k:Nat) (pus:LR9):Prop:=k<=mv.length/\O6 mv pt (List.replicate mv.length 0) go k pus/\∀j,j < k->∃pr,Nw mv pt (List.replicate mv.length 0) go j pr
def Uo (mv pt:LR9) (go:List Rat) (R:LR9) (ps:List Nat) (i:Nat):Prop:=bI (kry mv pt mv.length) mv.length R ps/\i < (aR R ps mv.length).length/\((aR R ps mv.length).map λz=>cE z go).getD i 0≠0/\∃pr,Nw mv pt (List.replicate mv.length 0) go mv.length pr
theorem MZ {ds:List Rat} (h:∃d∈ds,d≠0):∃j,j < ds.length/\ds.getD j 0≠0/\∀c,c < j->ds.getD c 0=0:=by
 induction ds with
 | nil=>obtain ⟨_,h,_⟩:=h;exact nomatch h
 | cons x xs ih =>
  by_cases e:x=0
  ·obtain ⟨d,hd,ne⟩:=h;rcases aN.mp hd with rfl | hd
   ·exact absurd e ne
   ·obtain ⟨j,j1,j2,j3⟩:=ih ⟨d,hd,ne⟩;refine ⟨j+1,by rw[bB];lia,by rw[List.getD_cons_succ];exact j2,λc hc=>?_⟩;cases c with
    | zero=>exact e
    | succ c=>rw[List.getD_cons_succ];exact j3 c (by lia)
  ·exact ⟨0,by rw[bB];lia,e,λc hc=>absurd hc (d7 _)⟩
inductive CD (K:FG9) (C:Addr) (vs:List V) (H:Hp) (Q:VK) (E9:XK):Prop
 | mk (x g:Addr) (a c:Nat) (H0:Hp) (mv pt lk:LR9) (go:List Rat):vs=[.ref x,.ref g]->jR K H0 H C x mv pt lk->eG mv pt lk->Ku mv pt lk->iM mv pt a c->cF K H g go->go.length=mv.length->(∀u,u<=mv.length->RS mv pt (List.replicate mv.length 0) go u (O6 mv pt (List.replicate mv.length 0) go u) (Nw mv pt (List.replicate mv.length 0) go u))->(∀R ps,bI (kry mv pt mv.length) mv.length R ps->∀z∈aR R ps mv.length,rf z go)->((∀t p k pus H',H' t=some (.tup [.str (Str.ofString "in"),.int (k:Nat),.ref p])->aL H H'->H p=none->bE K H H' p pus->Ul mv pt go k pus->Q (.ref t) H')/\(∀t p q i R ps H',H' t=some (.tup [.str (Str.ofString "never"),.ref p,.ref q])->aL H H'->H p=none->bE K H H' p (fj (aR R ps mv.length) i)->bE K H H' q ((fj (oX mv R ps) i).map λxs=>fj xs i)->Uo mv pt go R ps i->Q (.ref t) H'))->CD K C vs H Q E9
inductive Af (K:FG9) (C:Addr) (vs:List V) (H:Hp) (Q:VK) (E9:XK):Prop
 | mk (b x r g p:Addr) (w T a c:Nat) (H0 H1:Hp) (mv pt lk rows:LR9) (go z0:List Rat):vs=[.ref b,.ref x,.ref r,.ref g,.int w,.ref p,.int T]->ic H b->H0 b≠none->H1 b≠none->g≠b->p≠b->jR K H0 H C x mv pt lk->eQ K H0 H r mv pt lk->eG mv pt lk->Ku mv pt lk->iM mv pt a c->cF K H g go->go.length=mv.length->bE K H1 H p rows->rows.length<=100->rows[0]?=some z0->cE z0 go≠0->(∀z∈rows,z.length=mv.length/\rf z go)->1<=w->w<=1000->T<=12->(∀pus:LR9,pus.length=T->(∀xs∈pus,xs.length=pt.length/\∀x∈xs,Dr (max w 6) x)->Jz mv pt pus (List.replicate mv.length 0)/\∀k,k<=T->∀z∈rows,rf z (jU mv pt (List.replicate mv.length 0) pus k)/\cE z (jU mv pt (List.replicate mv.length 0) pus k)=0)->(∀u,u<=T->RS mv pt (List.replicate mv.length 0) go u (O6 mv pt (List.replicate mv.length 0) go u) (Nw mv pt (List.replicate mv.length 0) go u))->(∀u pus,u<=T->O6 mv pt (List.replicate mv.length 0) go u pus->False)->(∀H',Q (.bl true) H')->Af K C vs H Q E9
end L2
open L2
local macro_rules | `(tactic| walk_at "hl") => `(tactic| first | (show _ ≤ sizeLine; with_unfolding_all decide) | (with_unfolding_all exact (by decide)))
local macro_rules | `(tactic| walk_at "sq") => `(tactic| first | with_reducible assumption | with_reducible exact qJ.of (by assumption) | with_reducible exact bR.of (by assumption) | with_reducible exact qJ.of aO | with_reducible exact bR.of aO | assumption)
local macro_rules | `(tactic| walk_at "sc") => `(tactic| first | (with_reducible show (0 : Int) < _; decide) | with_reducible exact Km (by decide) (by decide) | with_reducible exact Fs (by decide) (by decide) | with_reducible exact cpow_of (by decide) (by decide) (by decide))
local macro_rules | `(tactic| walk_at "rd") => `(tactic| first
  | with_reducible refine Qw ?_
  | with_reducible refine Oi ?_
  | with_reducible refine QP ?_
  | with_reducible refine Mh ?_
  | ((with_reducible refine' Qu ?hx1 ?_); (case hx1 => with_unfolding_all rfl))
  | with_reducible refine T6 ?_
  | with_reducible refine SI ?_
  | with_reducible refine SM ?_
  | with_reducible refine Sy ?_
  | with_reducible refine T7 ?_
  | with_reducible refine QN ?_
  | with_reducible refine QE ?_
  | with_reducible refine QM ?_
  | with_reducible refine QD ?_
  | with_reducible refine rd_eqB ?_
  | with_reducible refine rd_neB ?_
  | with_reducible refine Om ?_
  | with_reducible refine IJ ?_
  | with_reducible refine QL ?_
  | with_reducible refine Of ?_
  | with_reducible refine Oj ?_
  | with_reducible refine Ol ?_
  | with_reducible refine Mg ?_
  | with_reducible refine Oe ?_
  | with_reducible refine SD ?_
  | with_reducible refine Qx ?_
  | with_reducible refine rd_retN ?_
  | with_reducible refine QI ?_
  | with_reducible refine QQ ?_
  | with_reducible refine SG ?_
  | with_reducible refine Qz ?_
  | with_reducible refine OB ?_
  | with_reducible refine rd_orV ?_
  | with_reducible refine Oh ?_
  | with_reducible refine QJ ?_
  | with_reducible refine Qt ?_
  | with_reducible refine OS ?_
  | with_reducible refine S8 ?_
  | with_reducible refine Ta ?_
  | with_reducible refine Tb ?_
  | with_reducible refine Po ?_
  | with_reducible refine QC ?_
  | with_reducible refine Ox ?_
  | with_reducible refine Qv ?_
  | with_reducible refine QF ?_
  | with_reducible refine Oz ?_
  | with_reducible refine SJ ?_
  | with_reducible refine Ow ?_
  | with_reducible refine Qy ?_
  | with_reducible refine OA ?_
  | ((with_reducible refine' rd_aug ?hx1 ?_); (case hx1 => with_unfolding_all rfl))
  | with_reducible refine QG ?_
  | with_reducible refine Ot ?_
  | with_reducible refine Mi ?_
  | with_reducible refine Ou ?_
  | with_reducible refine SE ?_
  | with_reducible refine KW ?_
  | with_reducible refine Og ?_
  | with_reducible refine QK ?_
  | with_reducible refine Mf ?_
  | with_reducible refine Oo ?_
  | with_reducible refine Me ?_
  | with_reducible refine Md ?_
  | ((with_reducible refine' Oy ?hx1 ?_); (case hx1 => with_unfolding_all rfl))
  | with_reducible refine Od ?_
  | with_reducible refine SK ?_
  | with_reducible refine rd_bm0 ?_
  | with_reducible refine rd_brk ?_
  | ((with_reducible refine' Oq ?hx1 ?hx2 ?_); (case hx1 => walk_at "sq"); (case hx2 => with_unfolding_all rfl))
  | with_reducible refine rd_cont ?_
  | ((with_reducible refine' gP ?hx1 ?_); (case hx1 => walk_at "sc"))
  | ((with_reducible refine' IK ?hx1 ?hx2 ?_); (case hx1 => walk_at "sq"); (case hx2 => with_unfolding_all rfl))
  | ((with_reducible refine' cN ?hx1 ?hx2 ?_); (case hx1 => walk_at "sq"); (case hx2 => with_unfolding_all rfl))
  | ((with_reducible refine' Ov ?hx1 ?hx2 ?_); (case hx1 => walk_at "sq"); (case hx2 => with_unfolding_all rfl))
  | ((with_reducible refine' ff ?hx1 ?hx2 ?hx3 ?_); (case hx1 => with_reducible first | assumption | exact aO); (case hx2 => with_unfolding_all rfl); (case hx3 => with_unfolding_all rfl))
  | with_reducible refine ⟨_, rfl, ?_⟩
  | with_reducible refine ⟨_, _, rfl, ?_⟩)
local macro_rules | `(tactic| walk_at "w") => `(tactic| repeat walk_at "rd")
local macro_rules | `(tactic| walk_at "d") => `(tactic| exact ⟨rfl,rfl,rfl,by decide +kernel,rfl,by decide +kernel,by decide +kernel⟩)
namespace Lw
open PySem PySem.Spec PyProof.Rows L2 Nm
local macro_rules | `(tactic| exists $e) => `(tactic| (walk_at "w";refine $e))
set_option maxHeartbeats 4000000
def top (i:Nat):Stmt:=PySem.Challenge.pw_helmsum_k48_whole_never_come_to.main.body.getD i (.Pass ⟨0,0,0,0⟩)
abbrev uQ:Stmt:=top 69
abbrev rL:Stmt:=top 70
abbrev lE:Stmt:=top 85
abbrev rT:Stmt:=top 87
abbrev uN:Stmt:=top 71
abbrev uL:Stmt:=top 72
abbrev rO:Stmt:=top 78
abbrev rN:Stmt:=top 74
abbrev xQ:Stmt:=top 80
abbrev pL:Stmt:=top 82
abbrev j6:Stmt:=top 88
abbrev nQ:Stmt:=top 75
abbrev uM:Stmt:=top 76
abbrev rR:Stmt:=top 81
abbrev pJ:Stmt:=top 83
abbrev nO:Stmt:=top 89
abbrev rE:Stmt:=top 65
abbrev uK:Stmt:=top 9
abbrev j5:Stmt:=top 10
abbrev rJ:Stmt:=top 12
abbrev Av:Stmt:=top 16
abbrev nN:Stmt:=top 66
abbrev eN:Stmt:=inClass (top 67) 0
abbrev nU:Stmt:=top 84
abbrev rS:Stmt:=top 90
abbrev uP:Stmt:=top 77
abbrev xP:Stmt:=top 86
abbrev rQ:Stmt:=top 94
abbrev uO:Stmt:=top 93
abbrev rM:Stmt:=top 92
abbrev rW:Stmt:=top 102
abbrev pH:Stmt:=top 91
abbrev rG:Stmt:=top 19
abbrev ju:Stmt:=top 11
abbrev kY:Stmt:=top 18
abbrev pE:Stmt:=top 33
abbrev xO:Stmt:=top 35
abbrev pG:Stmt:=top 34
abbrev EG:Stmt:=top 36
abbrev Au:Stmt:=top 13
abbrev xI:Stmt:=top 37
abbrev xH:Stmt:=top 20
abbrev xN:Stmt:=top 24
abbrev pB:Stmt:=top 47
abbrev nH:Stmt:=top 49
abbrev IE:Stmt:=top 27
abbrev rK:Stmt:=top 48
abbrev pz:Stmt:=top 21
abbrev As:Stmt:=top 39
abbrev nK:Stmt:=top 25
abbrev EH:Stmt:=top 40
abbrev nG:Stmt:=top 43
abbrev EJ:Stmt:=top 14
abbrev rH:Stmt:=top 17
abbrev gD:Stmt:=inClass (top 67) 1
abbrev Aw:Stmt:=top 45
abbrev nJ:Stmt:=top 51
abbrev xM:Stmt:=top 52
abbrev LZ:Stmt:=top 28
abbrev IF:Stmt:=top 53
abbrev xG:Stmt:=top 55
abbrev pk:Stmt:=top 50
abbrev uI:Stmt:=top 22
abbrev kX:Stmt:=top 30
abbrev xK:Stmt:=top 31
abbrev xJ:Stmt:=top 41
abbrev nM:Stmt:=top 32
abbrev EI:Stmt:=top 42
abbrev pC:Stmt:=top 26
abbrev ph:Stmt:=top 57
abbrev rF:Stmt:=top 58
abbrev kZ:Stmt:=top 59
abbrev uJ:Stmt:=top 60
abbrev j7:Stmt:=top 95
abbrev nR:Stmt:=top 96
abbrev pP:Stmt:=top 98
abbrev rV:Stmt:=top 73
abbrev pM:Stmt:=top 79
abbrev pO:Stmt:=top 99
abbrev nP:Stmt:=top 100
abbrev pK:Stmt:=top 103
abbrev md:Stmt:=top 97
abbrev pN:Stmt:=top 101
abbrev LY:Stmt:=top 104
set_option genInjectivity false in
set_option genSizeOf false in
structure Ads where
 BL:Addr
 Bt:FuncData
 yV:Addr
 yE:FuncData
 wZ:Addr
 wq:FuncData
 y9:Addr
 yL:FuncData
 BI:Addr
 Bq:FuncData
 BG:Addr
 Bo:FuncData
 yY:Addr
 yH:FuncData
 yX:Addr
 yG:FuncData
 D6:Addr
 DF:FuncData
 xc:Addr
 wD:FuncData
 oO:Addr
 oI:FuncData
 uA:Addr
 ug:FuncData
 BH:Addr
 Bp:FuncData
 y7:Addr
 yJ:FuncData
 w5:Addr
 wB:FuncData
 uw:Addr
 ue:FuncData
 yP:Addr
 yy:FuncData
 BF:Addr
 Bn:FuncData
 oN:Addr
 oH:FuncData
 yT:Addr
 yC:FuncData
 Ia:Addr
 HN:FuncData
 uv:Addr
 uc:FuncData
 jQ:Addr
 jP:FuncData
 uC:Addr
 ui:FuncData
 y8:Addr
 yK:FuncData
 BK:Addr
 Bs:FuncData
 D5:Addr
 DE:FuncData
 yZ:Addr
 yI:FuncData
 BJ:Addr
 Br:FuncData
 yW:Addr
 yF:FuncData
 zb:Addr
 yN:FuncData
 wY:Addr
 wg:FuncData
 yR:Addr
 yA:FuncData
 nv:Addr
 mZ:FuncData
 qT:Addr
 qQ:FuncData
 wW:Addr
 wd:FuncData
 D4:Addr
 DD:FuncData
 wX:Addr
 we:FuncData
 Kq:Addr
 Ki:FuncData
 HZ:Addr
 HM:FuncData
 DW:Addr
 Dy:FuncData
 DV:Addr
 Dx:FuncData
 D3:Addr
 DC:FuncData
 wQ:Addr
 v7:FuncData
 uo:Addr
 tV:FuncData
 Nu:Addr
 Ng:FuncData
 yU:Addr
 yD:FuncData
 wO:Addr
 v5:FuncData
 HY:Addr
 HL:FuncData
 ur:Addr
 tY:FuncData
 Kr:Addr
 Kj:FuncData
 uj:Addr
 tU:FuncData
 Kt:Addr
 Kl:FuncData
 yS:Addr
 yB:FuncData
 mL:Addr
 mK:FuncData
 Ib:Addr
 HP:FuncData
 uq:Addr
 tW:FuncData
 DZ:Addr
 DB:FuncData
 PX:Addr
 PU:FuncData
 Nv:Addr
 Nh:FuncData
 DU:Addr
 Dw:FuncData
 wM:Addr
 vZ:FuncData
 BB:Addr
 Bl:FuncData
 qS:Addr
 qP:FuncData
 DY:Addr
 DA:FuncData
 DX:Addr
 Dz:FuncData
 uu:Addr
 tZ:FuncData
 Ks:Addr
 Kk:FuncData
 wV:Addr
 v8:FuncData
 wL:Addr
 vY:FuncData
 yQ:Addr
 yz:FuncData
 qU:Addr
 qR:FuncData
 BE:Addr
 Bm:FuncData
 oP:Addr
 oJ:FuncData
 uB:Addr
 uh:FuncData
 xi:Addr
 wI:FuncData
 za:Addr
 yM:FuncData
 xf:Addr
 wF:FuncData
 xh:Addr
 wH:FuncData
 uy:Addr
 uf:FuncData
 xa:Addr
 wC:FuncData
 sZ:Addr
 sT:FuncData
 xg:Addr
 wG:FuncData
 PV:Addr
 PR:FuncData
 a_NOUGHT:Addr
 a_ONE:Addr
 t_MOST_STATES:Tok
 t_MOST_PUTS:Tok
 t_MOST_LOOKS:Tok
 a_System:Addr
structure Txt (K:W.Frag) (mg:Str->Option Value) (Z:Ads):Prop where
 sL:Df K mg "_law_bag" uQ ["_law_script"] Z.BL Z.Bt
 aX:Df K mg "_law_take" rL ["_law_bag_here","_law_many"] Z.yV Z.yE
 oj:Df K mg "_law_sizes" lE ["_law_bag_here"] Z.wZ Z.wq
 jL:Df K mg "_law_line" rT ["_law_bag_here","_law_n"] Z.y9 Z.yL
 gK:Df K mg "_law_low" uN ["_law_top","_law_bottom"] Z.BI Z.Bq
 ik:Df K mg "_law_sum" uL ["_law_one","_law_other"] Z.BG Z.Bo
 lK:Df K mg "_law_plus" rO ["_law_one","_law_other"] Z.yY Z.yH
 iB:Df K mg "_law_prod" rN ["_law_one","_law_other"] Z.yX Z.yG
 qq:Df K mg "_law_by" xQ ["_law_by_here","_law_row_here"] Z.D6 Z.DF
 kG:Df K mg "_law_mixed" pL ["_law_bag_here","_law_move_here","_law_put","_law_look"] Z.xc Z.wD
 jK:Df K mg "_law_two_lines" j6 ["_law_bag_here"] Z.oO Z.oI
 mJ:Df K mg "_law_number" nQ ["_law_bag_here","_law_wide"] Z.uA Z.ug
 il:Df K mg "_law_row" uM ["_law_bag_here","_law_many","_law_wide"] Z.BH Z.Bp
 qe:Df K mg "_law_move" rR ["_law_bag_here","_law_n","_law_way","_law_first","_law_wide"] Z.y7 Z.yJ
 oo:Df K mg "_law_parts" pJ ["_law_bag_here","_law_n","_law_ins","_law_outs","_law_wide"] Z.w5 Z.wB
 mG:Df K mg "_law_system" nO ["_law_bag_here"] Z.uw Z.ue
 jF:Df K mg "want_list" rE ["thing","at","most"] Z.yP Z.yy
 mX:Df K mg "is_whole" uK ["thing"] Z.BF Z.Bn
 fK:Df K mg "common_divisor" j5 ["one","other"] Z.oN Z.oH
 p6:Df K mg "is_number" rJ ["thing"] Z.yT Z.yC
 xY:Df K mg "is_row" Av ["thing","many"] Z.Ia Z.HN
 ij:Df K mg "copied_rows" nN ["things","wide"] Z.uv Z.uc
 nk:Binds K Z.jP ["self","move","put","look"] []
 nC:ND K "__init__" "System.__init__" eN Z.jQ Z.jP
 iq:Df K mg "_law_copied" nU ["_law_grid"] Z.uC Z.ui
 qg:Df K mg "_law_made" rS ["_law_parts_here"] Z.y8 Z.yK
 ip:Df K mg "_law_dot" uP ["_law_one","_law_other"] Z.BK Z.Bs
 mI:Df K mg "_law_on" xP ["_law_grid","_law_row_here"] Z.D5 Z.DE
 lM:Df K mg "_law_next" rQ ["_law_parts_here","_law_state","_law_puts_here"] Z.yZ Z.yI
 mY:Df K mg "_law_end" uO ["_law_parts_here","_law_start","_law_rows"] Z.BJ Z.Br
 lJ:Df K mg "_law_puts" rM ["_law_bag_here","_law_parts_here","_law_steps_here","_law_wide"] Z.yW Z.yF
 qi:Df K mg "_law_goal" rW ["_law_bag_here","_law_parts_here","_law_start","_law_steps_here","_law_wide"] Z.zb Z.yN
 kF:Df K mg "_law_steps" pH ["_law_bag_here","_law_parts_here"] Z.wY Z.wg
 jG:Df K mg "tops_over" rG ["row","bottom"] Z.yR Z.yA
 ja:Df K mg "common_multiple" ju ["wholes"] Z.nv Z.mZ
 gG:Df K mg "common_bottom" kY ["row"] Z.qT Z.qQ
 oh:Df K mg "first_with" pE ["lines","begin","place"] Z.wW Z.wd
 vh:Df K mg "cleared" xO ["lines","at","place","before"] Z.D4 Z.DD
 oi:Df K mg "brought_up" pG ["lines","at","to"] Z.wX Z.we
 vL:Df K mg "swept" EG ["rows","wide"] Z.Kq Z.Ki
 lV:Df K mg "lowest" Au ["top","bottom"] Z.HZ Z.HM
 pZ:Df K mg "reduced" xI ["rows","wide"] Z.DW Z.Dy
 mF:Df K mg "row_dot" xH ["one","other"] Z.DV Z.Dx
 p7:Df K mg "grid_on" xN ["grid","row"] Z.D3 Z.DC
 kE:Df K mg "moved_rows" pB ["system","rows"] Z.wQ Z.v7
 jH:Df K mg "reach_grown" nH ["system","steps"] Z.uo Z.tV
 E8:Df K mg "flat" IE ["lists"] Z.Nu Z.Ng
 p9:Df K mg "additions" rK ["system","steps"] Z.yU Z.yD
 gX:Df K mg "nought_row" pz ["many"] Z.wO Z.v5
 tD:Df K mg "solved" As ["rows","wide","due"] Z.HY Z.HL
 gF:Df K mg "grid_turned" nK ["grid","wide"] Z.ur Z.tY
 AU:Df K mg "solve" EH ["rows","wide","due"] Z.Kr Z.Kj
 mD:Df K mg "weights_for" nG ["rows","wide","row"] Z.uj Z.tU
 vM:Df K mg "minus" EJ ["one","other"] Z.Kt Z.Kl
 pY:Df K mg "row_minus" rH ["one","other"] Z.yS Z.yB
 qO:RH K Z.a_System "moved" Z.mL
 sX:Binds K Z.mK ["self","state","puts"] []
 tq:ND K "moved" "System.moved" gD Z.mL Z.mK
 xZ:Df K mg "course" Aw ["system","start","puts"] Z.Ib Z.HP
 jI:Df K mg "nothing_for" nJ ["system","steps"] Z.uq Z.tW
 vg:Df K mg "lacking" xM ["system","start","goal","steps"] Z.DZ Z.DB
 Ja:Df K mg "cut" LZ ["row","many","wide"] Z.PX Z.PU
 vO:Df K mg "come" IF ["system","start","goal","steps"] Z.Nv Z.Nh
 mE:Df K mg "soonest" xG ["system","start","goal","most"] Z.DU Z.Dw
 oa:Df K mg "reach_rows" pk ["system","steps"] Z.wM Z.vZ
 sI:Df K mg "unit_row" uI ["many","at"] Z.BB Z.Bl
 kg:Df K mg "leading_place" kX ["row"] Z.qS Z.qP
 p5:Df K mg "leading" xK ["rows"] Z.DY Z.DA
 vf:Df K mg "null_at" xJ ["rows","wide","at"] Z.DX Z.Dz
 jJ:Df K mg "free_places" nM ["rows","wide"] Z.uu Z.tZ
 AV:Df K mg "nulls" EI ["rows","wide"] Z.Ks Z.Kk
 og:Df K mg "grid_times" pC ["one","other","wide"] Z.wV Z.v8
 nZ:Df K mg "taken_over" ph ["system","rows"] Z.wL Z.vY
 pX:Df K mg "unsteered" rF ["system"] Z.yQ Z.yz
 gH:Df K mg "brought_ahead" kZ ["things","at"] Z.qU Z.qR
 sJ:Df K mg "shut_off" uJ ["system","goal"] Z.BE Z.Bm
 jN:Df K mg "_law_is_number" j7 ["_law_thing"] Z.oP Z.oJ
 jM:Df K mg "_law_is_row" nR ["_law_thing","_law_many"] Z.uB Z.uh
 oz:Df K mg "_law_added" pP ["_law_parts_here","_law_steps_here"] Z.xi Z.wI
 qh:Df K mg "_law_less" rV ["_law_one","_law_other"] Z.za Z.yM
 ow:Df K mg "_law_minus" pM ["_law_one","_law_other"] Z.xf Z.wF
 oy:Df K mg "_law_alone" pO ["_law_parts_here","_law_start","_law_steps_here"] Z.xh Z.wH
 mH:Df K mg "_law_priced" nP ["_law_parts_here","_law_start","_law_goal_here","_law_steps_here","_law_price"] Z.uy Z.uf
 ou:Df K mg "_law_never" pK ["_law_bag_here","_law_system_here","_law_parts_here","_law_goal_here","_law_wide","_law_rows","_law_most"] Z.xa Z.wC
 lh:Df K mg "_law_is_grid" md ["_law_thing","_law_many","_law_wide"] Z.sZ Z.sT
 ox:Df K mg "_law_leads" pN ["_law_parts_here","_law_start","_law_goal_here","_law_steps_here","_law_puts_here"] Z.xg Z.wG
 P8:ND K "law" "law" LY Z.PV Z.PR
 abs:mg "abs"=none
 len:mg "len"=none
 min:mg "min"=none
 int:mg "int"=none
 range:mg "range"=none
 isinstance:mg "isinstance"=none
 list:mg "list"=none
 bool:mg "bool"=none
 tuple:mg "tuple"=none
 all:mg "all"=none
 enumerate:mg "enumerate"=none
 max:mg "max"=none
 zip:mg "zip"=none
 sum:mg "sum"=none
 reversed:mg "reversed"=none
 mg_NOUGHT:mg "NOUGHT"=some (.ref Z.a_NOUGHT)
 sq_NOUGHT:∀H,qJ K H Z.a_NOUGHT [.int 0,.int 1]
 mg_ONE:mg "ONE"=some (.ref Z.a_ONE)
 sq_ONE:∀H,qJ K H Z.a_ONE [.int 1,.int 1]
 mg_MOST_STATES:mg "MOST_STATES"=some (.int 8 Z.t_MOST_STATES)
 mg_MOST_PUTS:mg "MOST_PUTS"=some (.int 4 Z.t_MOST_PUTS)
 mg_MOST_LOOKS:mg "MOST_LOOKS"=some (.int 4 Z.t_MOST_LOOKS)
 mg_System:mg "System"=some (.ref Z.a_System)
 cl_System:Lz K Z.a_System
 na_move:jS K Z.a_System "move"
 na_states:jS K Z.a_System "states"
 na_put:jS K Z.a_System "put"
 na_ins:jS K Z.a_System "ins"
 na_look:jS K Z.a_System "look"
 na_outs:jS K Z.a_System "outs"
 mk_System:Mk K Z.a_System Z.jQ
section
variable {P:Program} {w:World} {K:W.Frag} {mg:Str->Option Value} {base:Heap} {Z:Ads}
theorem Gx:a7 ["_law_script"] ["_law_script"] (aP uQ):=by walk_at "d"
theorem GV (T:Txt K mg Z):cQ P w K mg base fI 1 Z.BL Z.Bt ["_law_script"] (LV K):=by
 refine T.sL.F.ok Gx (λvs H Q E h=>?_) (λcdv A outer s H vs Q E hr h=>?_)
 ·obtain ⟨a,ns,rfl,_⟩:=h;rfl
 ·obtain ⟨a,ns,rfl,hS,hlen,k⟩:=h;refine ⟨_,(aB (aW (dG (ae ar (ae ar (ae ar (ae (cm ["_law_cell"] [] [] (cM (rX Et (pv 0) zK (tw ar))) (λ_=>(aQ (i:=0) (show ND9 ["_law_cell"] by decide +kernel))) (λ_=>cH) (λ_=>(bJ wJ (by rfl) T.abs PyProof.Rows.boot_abs (ae (pv 0) ag)))) ag))))))),?_⟩;refine aS (σ:=[some (.ref a)]) rfl ?_;exists ⟨a,_,rfl,hS,λl hl=>?_⟩;have hcl:(qZ (ns.map V.int) none (some 63)).length<=63:=ai (yO _ _ _) (by simpa using hlen);refine ⟨l,rfl,⟨_,bR.of aO⟩,?_⟩;refine fu (K:=K) (a:=l) (xs:=qZ (ns.map V.int) none (some 63)) (λi ys H'=>H'=upd H l (.lst (qZ (ns.map V.int) none (some 63)))/\∃cs:List Int,ys=cs.map V.int/\∀x∈cs,0<=x) (ai hcl (by decide)) ⟨rfl,[],rfl,λ_ z=>nomatch z⟩ (λi ys H' _ ⟨e,_⟩=>by subst e;exact bR.of aO) ?_ ?_
  ·rintro i x ys H' hx hi ⟨rfl,cs,rfl,hcs⟩
   obtain ⟨z,rfl⟩:∃z,x=V.int z:=by
    have hm:x∈ns.map V.int:=Ed (cy (ay hx));obtain ⟨z,_,e⟩:=aE.mp hm;exact ⟨z,e.symm⟩
   exists ⟨rfl,cs++[if z < 0 then -z else z],by simp,λx hx=>?_⟩;sleep 1
   ·exact hcs x hx
   ·have e:x=if z < 0 then -z else z:=by simpa using hx
    subst e
    split <;> lia
  ·rintro ys H' hy ⟨rfl,cs,rfl,hcs⟩ p hp;exists ⟨by show 4<=sizeLine;decide,λb hb=>?_⟩;have n1:b≠p:=λz=>by rw[z,aO] at hb;cases hb
   have hb1:(upd H l (.lst (qZ (ns.map V.int) none (some 63)))) b=none:=by rw[bM n1] at hb;exact hb
   have s1:aL H (upd H l (.lst (qZ (ns.map V.int) none (some 63)))):=aL.new hl;refine k b _ (s1.free hb1) ⟨p,0,1234567891,0,cs,aO,by rw[bM n1.symm];exact aO,by decide,by decide,by lia,hcs⟩ ((s1.trans (aL.new hp)).trans (aL.new hb))
theorem gN:a7 ["_law_bag_here","_law_many","_law_more","_law_cell","_law_value","_law_first","_law_second"] ["_law_bag_here","_law_many"] (aP rL):=by walk_at "d"
theorem bp (T:Txt K mg Z):cQ P w K mg base fI 1 Z.yV Z.yE ["_law_bag_here","_law_many"] NR:=by
 refine T.aX.F.ok gN (λvs H Q E h=>?_) (λcdv A outer s H vs Q E hr h=>?_)
 ·obtain ⟨p,n,rfl,_⟩:=h;rfl
 ·obtain ⟨p,n,rfl,⟨q,a,b,c,cs,hp,hq,ha,hc,hcl,hcs⟩,hn,hn2,k⟩:=h;have nqp:q≠p:=Lp hp hq
  refine ⟨_,(jd (cY (bw eO (bc bX (pv 0) ar) ar (bC _)) (av (a9 (i:=2) gN.nd rfl (Or.inl rfl) ar)
   (jd (cY (bw tP (bc bX (pv 0) ar) (bJ bx (by rfl) T.len bg (ae (bc bX (pv 0) ar) ag)) (bC _)) (av (a9 (i:=3) gN.nd rfl (Or.inl rfl) (bc bX (bc bX (pv 0) ar) (bc bX (pv 0) ar)))
   (av (OG (pv 0) ar MR ar Q9 set_list)
   (av (cY (bw Dd (pv 3) ar (bC _)) (aB (fh (pv 3) (gQ (pv 0) ar set_list))) bW)
   (aB (a9 (i:=2) gN.nd rfl (Or.inl rfl) (bH dR (bH nW (pv 3) ar) ar)))))) bW)
   (aB (fh (bH nW (bH dR (bH dw (bc bX (pv 0) ar) ar) (pv 2)) ar) (gQ (pv 0) ar set_list))))) bW)
   (av (cY (bw qN (bc bX (pv 0) ar) ar (bC _)) (av (a9 (i:=4) gN.nd rfl (Or.inl rfl) (bH nW (bc bX (pv 0) ar) (pv 1)))
   (av (fh (bH iO (bc bX (pv 0) ar) (pv 1)) (gQ (pv 0) ar set_list))
   (aB (aW (pv 4))))) bW)
   (av (a9 (i:=5) gN.nd rfl (Or.inl rfl) (bH nW (bH dw (bc bX (pv 0) ar) ar) ar))
   (av (a9 (i:=6) gN.nd rfl (Or.inl rfl) (bH nW (bH dw (pv 5) ar) ar))
   (av (cY (bw qN (pv 1) ar (bC _)) (aB (aW (bH nW (bH dR (bH dw (pv 6) ar) (pv 5)) (pv 1)))) bW)
   (aB (aW (bH nW (bH iO (pv 6) ar) (pv 1))))))))),?_⟩
  refine aS (σ:=[some (.ref p),some (.int n),none,none,none,none,none]) rfl ?_;refine ⟨λσ' H'=>∃(x y:Option V) (a' b' c':Int),σ'=[some (.ref p),some (.int n),x,y,none,none,none]/\H' p=some (.lst [.int a',.int b',.int c',.ref q])/\0<=a'/\0<=c'/\c'<=cs.length/\c7 p H H',?_,?_⟩
  ·exists gY (λh0=>?_) (λh0=>?_)
   ·exists ⟨λσ' H'=>∃(m:Int) (y:Option V) (a' c':Int),σ'=[some (.ref p),some (.int n),some (.int m),y,none,none,none]/\H' p=some (.lst [.int a',.int b,.int c',.ref q])/\0<=a'/\0<=c'/\c'<=cs.length/\c7 p H H',?_,?_⟩
    ·exists ⟨_,_,rfl,.inl (bR.of hq),?_⟩;exists gY (λh1=>?_) (λh1=>?_)
     ·have h1':c < cs.length:=by simpa using of_decide_eq_true h1
      obtain ⟨z,hz⟩:∃z,cs[c.toNat]?=some z:=⟨_,af (by lia)⟩;have hz0:0<=z:=hcs z (ay hz);exists cN (bR.of hq) (v:=.int z) ?_ ?_
      ·have:=fZ (xs:=cs.map V.int) (j:=c.toNat) (v:=.int z) (by rw[aG,hz];rfl);rwa [Int.toNat_of_nonneg hc] at this
      exists gY (λh2=>?_) (λh2=>?_)
      ·exists ⟨_,_,z,c+1,rfl,aO,hz0,by lia,by lia,(c7.set hp).trans (c7.set aO)⟩
      ·exists ⟨_,_,a,c+1,rfl,aO,ha,by lia,by lia,c7.set hp⟩
     ·exists ⟨_,_,a,c,rfl,hp,ha,hc,hcl,c7.refl _⟩
    ·rintro σ' H' ⟨m,y,a',c',rfl,hp',ha',hc',hcl',u'⟩;exists ⟨_,_,a',_,c',rfl,aO,ha',hc',hcl',u'.trans (c7.set hp')⟩
   ·exists ⟨_,_,a,b,c,rfl,hp,ha,hc,hcl,c7.refl _⟩
  ·rintro σ' H' ⟨x,y,a',b',c',rfl,hp',ha',hc',hcl',u'⟩;have hq':H' q=some (.lst (cs.map V.int)):=u'.1 q _ hq nqp
   have sn:Sz 8999 n:=by
    show n.natAbs < 2^8999
    exact bK (show n.natAbs < 2^64 by lia) (ax (by decide) (by decide))
   exists gY (λh0=>?_) (λh0=>?_)
   ·exists gP (show (0:Int) < n from hn) ?_;exists gP (show oS _ _ from ⟨by lia,sn⟩) ?_;exists k _ _ (lS _ (by lia)) (iX _ hn) ⟨q,_,b',c',cs,aO,by rw[bM nqp];exact hq',?_,hc',hcl',hcs⟩ (u'.trans (c7.set hp'));rw[cL _ (by lia)];exact Int.ediv_nonneg ha' (by lia)
   ·exists gY (λh1=>?_) (λh1=>?_)
    ·exists gP (show (0:Int) < n from hn) ?_;exact k _ _ (lS _ (by lia)) (iX _ hn) ⟨q,a',b',c',cs,hp',hq',ha',hc',hcl',hcs⟩ u'
    ·exists gP (show oS _ _ from ⟨by decide,by show (3:Nat) < 2^8999;exact bK (show 3 < 2^2 by decide) (ax (by decide) (by decide))⟩) ?_;exists gP (show (0:Int) < n from hn) ?_;exact k _ _ (lS _ (by lia)) (iX _ hn) ⟨q,a',b',c',cs,hp',hq',ha',hc',hcl',hcs⟩ u'
theorem Cs:∃x1 x2 x3 x4 x5 x6 x7 x8 x9 x10 x11 x12 x13 x14 x15 x16:Expr,x1=(Expr.Constant (Const.int 0) 0 ⟨355,16,355,17⟩)/\x2=(Expr.Constant (Const.int 1) 0 ⟨355,19,355,20⟩)/\x3=(Expr.Constant (Const.int 1) 0 ⟨355,22,355,23⟩)/\x4=(Expr.Constant (Const.int 1) 0 ⟨355,25,355,26⟩)/\x5=(Expr.Constant (Const.int 2) 0 ⟨355,28,355,29⟩)/\x6=(Expr.Constant (Const.int 2) 0 ⟨355,31,355,32⟩)/\x7=(Expr.Constant (Const.int 3) 0 ⟨355,34,355,35⟩)/\x8=(Expr.Constant (Const.int 4) 0 ⟨355,37,355,38⟩)/\x9=(Expr.Constant (Const.int 0) 0 ⟨356,17,356,18⟩)/\x10=(Expr.Constant (Const.int 1) 0 ⟨356,20,356,21⟩)/\x11=(Expr.Constant (Const.int 1) 0 ⟨356,23,356,24⟩)/\x12=(Expr.Constant (Const.int 1) 0 ⟨356,26,356,27⟩)/\x13=(Expr.Constant (Const.int 2) 0 ⟨356,29,356,30⟩)/\x14=(Expr.Constant (Const.int 2) 0 ⟨356,32,356,33⟩)/\x15=(Expr.Constant (Const.int 3) 0 ⟨356,35,356,36⟩)/\x16=(Expr.Constant (Const.int 4) 0 ⟨356,38,356,39⟩)/\jO lE=[ (Stmt.Assign (targets:=[(Expr.Name "_law_n" ⟨352,4,352,10⟩)]) (value:=(Expr.Call (func:=(Expr.Name "_law_take" ⟨352,13,352,22⟩)) (args:=[ (Expr.Name "_law_bag_here" ⟨352,23,352,36⟩),(Expr.Constant (Const.int 5) 0 ⟨352,38,352,39⟩)]) (keywords:=[]) (pos:=⟨352,13,352,40⟩))) (pos:=⟨352,4,352,40⟩)),(Stmt.If (test:=(Expr.Compare (left:=(Expr.Call (func:=(Expr.Name "_law_take" ⟨353,7,353,16⟩)) (args:=[ (Expr.Name "_law_bag_here" ⟨353,17,353,30⟩),(Expr.Constant (Const.int 8) 0 ⟨353,32,353,33⟩)]) (keywords:=[]) (pos:=⟨353,7,353,34⟩))) (ops:=[PySem.CmpOp.Eq]) (comparators:=[(Expr.Constant (Const.int 7) 0 ⟨353,38,353,39⟩)]) (pos:=⟨353,7,353,39⟩))) (body:=[ (Stmt.Assign (targets:=[(Expr.Name "_law_n" ⟨354,8,354,14⟩)]) (value:=(Expr.Constant (Const.int 5) 0 ⟨354,17,354,18⟩)) (pos:=⟨354,8,354,18⟩))]) (orelse:=[]) (pos:=⟨353,4,354,18⟩)),(Stmt.Assign (targets:=[(Expr.Name "_law_ins" ⟨355,4,355,12⟩)]) (value:=(Expr.Subscript (value:=(Expr.List (elts:=[x1,x2,x3,x4,x5,x6,x7,x8]) (pos:=⟨355,15,355,39⟩))) (slice:=(Expr.Call (func:=(Expr.Name "_law_take" ⟨355,40,355,49⟩)) (args:=[ (Expr.Name "_law_bag_here" ⟨355,50,355,63⟩),(Expr.Constant (Const.int 8) 0 ⟨355,65,355,66⟩)]) (keywords:=[]) (pos:=⟨355,40,355,67⟩))) (pos:=⟨355,15,355,68⟩))) (pos:=⟨355,4,355,68⟩)),(Stmt.Assign (targets:=[(Expr.Name "_law_outs" ⟨356,4,356,13⟩)]) (value:=(Expr.Subscript (value:=(Expr.List (elts:=[x9,x10,x11,x12,x13,x14,x15,x16]) (pos:=⟨356,16,356,40⟩))) (slice:=(Expr.Call (func:=(Expr.Name "_law_take" ⟨356,41,356,50⟩)) (args:=[ (Expr.Name "_law_bag_here" ⟨356,51,356,64⟩),(Expr.Constant (Const.int 8) 0 ⟨356,66,356,67⟩)]) (keywords:=[]) (pos:=⟨356,41,356,68⟩))) (pos:=⟨356,16,356,69⟩))) (pos:=⟨356,4,356,69⟩)),(Stmt.If (test:=(Expr.Compare (left:=(Expr.Name "_law_n" ⟨357,7,357,13⟩)) (ops:=[PySem.CmpOp.Eq]) (comparators:=[(Expr.Constant (Const.int 5) 0 ⟨357,17,357,18⟩)]) (pos:=⟨357,7,357,18⟩))) (body:=[ (Stmt.Assign (targets:=[ (Expr.Tuple (elts:=[(Expr.Name "_law_ins" ⟨358,8,358,16⟩),(Expr.Name "_law_outs" ⟨358,18,358,27⟩)]) (k:=0) (pos:=⟨358,8,358,27⟩))]) (value:=(Expr.Tuple (elts:=[ (Expr.Call (func:=(Expr.Name "min" ⟨358,31,358,34⟩)) (args:=[ (Expr.Name "_law_ins" ⟨358,35,358,43⟩),(Expr.Constant (Const.int 2) 0 ⟨358,45,358,46⟩)]) (keywords:=[]) (pos:=⟨358,31,358,47⟩)),(Expr.Call (func:=(Expr.Name "min" ⟨358,49,358,52⟩)) (args:=[ (Expr.Name "_law_outs" ⟨358,53,358,62⟩),(Expr.Constant (Const.int 2) 0 ⟨358,64,358,65⟩)]) (keywords:=[]) (pos:=⟨358,49,358,66⟩))]) (k:=0) (pos:=⟨358,30,358,67⟩))) (pos:=⟨358,8,358,67⟩))]) (orelse:=[]) (pos:=⟨357,4,358,67⟩)),(Stmt.Assign (targets:=[(Expr.Name "_law_wide" ⟨359,4,359,13⟩)]) (value:=(Expr.Subscript (value:=(Expr.List (elts:=[ (Expr.Constant (Const.int 4) 0 ⟨359,17,359,18⟩),(Expr.Constant (Const.int 4) 0 ⟨359,20,359,21⟩),(Expr.Constant (Const.int 9) 0 ⟨359,23,359,24⟩),(Expr.Constant (Const.int 1000000) 0 ⟨359,26,359,33⟩)]) (pos:=⟨359,16,359,34⟩))) (slice:=(Expr.Call (func:=(Expr.Name "_law_take" ⟨359,35,359,44⟩)) (args:=[ (Expr.Name "_law_bag_here" ⟨359,45,359,58⟩),(Expr.Constant (Const.int 4) 0 ⟨359,60,359,61⟩)]) (keywords:=[]) (pos:=⟨359,35,359,62⟩))) (pos:=⟨359,16,359,63⟩))) (pos:=⟨359,4,359,63⟩)),(Stmt.If (test:=(Expr.Compare (left:=(Expr.Name "_law_wide" ⟨360,7,360,16⟩)) (ops:=[PySem.CmpOp.Gt]) (comparators:=[(Expr.Constant (Const.int 9) 0 ⟨360,19,360,20⟩)]) (pos:=⟨360,7,360,20⟩))) (body:=[ (Stmt.Assign (targets:=[(Expr.Name "_law_n" ⟨361,8,361,14⟩)]) (value:=(Expr.Call (func:=(Expr.Name "min" ⟨361,17,361,20⟩)) (args:=[ (Expr.Name "_law_n" ⟨361,21,361,27⟩),(Expr.Constant (Const.int 2) 0 ⟨361,29,361,30⟩)]) (keywords:=[]) (pos:=⟨361,17,361,31⟩))) (pos:=⟨361,8,361,31⟩))]) (orelse:=[]) (pos:=⟨360,4,361,31⟩)),(Stmt.Return (value:=(some (Expr.Tuple (elts:=[ (Expr.Name "_law_n" ⟨362,12,362,18⟩),(Expr.Name "_law_ins" ⟨362,20,362,28⟩),(Expr.Name "_law_outs" ⟨362,30,362,39⟩),(Expr.Name "_law_wide" ⟨362,41,362,50⟩)]) (k:=0) (pos:=⟨362,11,362,51⟩)))) (pos:=⟨362,4,362,51⟩))]:=⟨_,_,_,_,_,_,_,_,_,_,_,_,_,_,_,_,rfl,rfl,rfl,rfl,rfl,rfl,rfl,rfl,rfl,rfl,rfl,rfl,rfl,rfl,rfl,rfl,by with_unfolding_all rfl⟩
theorem fo:a7 ["_law_bag_here","_law_n","_law_ins","_law_outs","_law_wide"] ["_law_bag_here"] (aP lE):=by walk_at "d"
theorem Cg (T:Txt K mg Z):cQ P w K mg base fI 2 Z.wZ Z.wq ["_law_bag_here"] KJ:=by
 refine T.oj.F.ok fo (λvs H Q E h=>?_) (λcdv A outer s H vs Q E hr h=>?_)
 ·obtain ⟨b,rfl,_⟩:=h;rfl
 ·obtain ⟨b,rfl,hB,k⟩:=h;obtain ⟨x1,x2,x3,x4,x5,x6,x7,x8,x9,x10,x11,x12,x13,x14,x15,x16,hx1,hx2,hx3,hx4,hx5,hx6,hx7,hx8,hx9,hx10,hx11,hx12,hx13,hx14,hx15,hx16,hbd⟩:=Cs;rw[hbd]
  refine ⟨_,(av (a9 (i:=1) fo.nd rfl (Or.inl rfl) (cO (bp T) hr T.aX (ae (pv 0) (ae ar ag))))
   (jd (cY (bw eO (cO (bp T) hr T.aX (ae (pv 0) (ae ar ag))) ar (bC _)) (aB (a9 (i:=1) fo.nd rfl (Or.inl rfl) ar)) bW)
   (av (a9 (i:=2) fo.nd rfl (Or.inl rfl) (bc bX (dG (eX hx1 ar (eX hx2 ar (eX hx3 ar (eX hx4 ar (eX hx5 ar (eX hx6 ar (eX hx7 ar (eX hx8 ar ag))))))))) (cO (bp T) hr T.aX (ae (pv 0) (ae ar ag)))))
   (av (a9 (i:=3) fo.nd rfl (Or.inl rfl) (bc bX (dG (eX hx9 ar (eX hx10 ar (eX hx11 ar (eX hx12 ar (eX hx13 ar (eX hx14 ar (eX hx15 ar (eX hx16 ar ag))))))))) (cO (bp T) hr T.aX (ae (pv 0) (ae ar ag)))))
   (jd (cY (bw eO (pv 1) ar (bC _)) (aB (Mj (i:=2) (j:=3) rfl fo.nd rfl rfl (by decide) rfl rfl (ae (bJ (oK rfl) (by rfl) T.min PyProof.Rows.boot_min (ae (pv 2) (ae ar ag))) (ae (bJ (oK rfl) (by rfl) T.min PyProof.Rows.boot_min (ae (pv 3) (ae ar ag))) ag)) rfl)) bW)
   (av (a9 (i:=4) fo.nd rfl (Or.inl rfl) (bc bX (dG (ae ar (ae ar (ae ar (ae ar ag))))) (cO (bp T) hr T.aX (ae (pv 0) (ae ar ag)))))
   (jd (cY (bw qN (pv 4) ar (bC _)) (aB (a9 (i:=1) fo.nd rfl (Or.inl rfl) (bJ (oK rfl) (by rfl) T.min PyProof.Rows.boot_min (ae (pv 1) (ae ar ag))))) bW)
   (aB (aW (cU (ae (pv 1) (ae (pv 2) (ae (pv 3) (ae (pv 4) ag)))))))))))))),?_⟩
  refine aS (σ:=[some (.ref b),none,none,none,none]) rfl ?_;exists ⟨b,5,rfl,hB,by decide,by decide,λn H1 n0 n1 B1 u1=>?_⟩;obtain ⟨n,rfl⟩:=bY n0;exists ⟨λσ' H'=>(∃n:Nat,σ'=[some (.ref b),some (.int n),none,none,none]/\n<=5)/\ic H' b/\c7 b H H',?_,?_⟩
  ·exists ⟨b,8,rfl,B1,by decide,by decide,λv H2 v0 v1 B2 u2=>?_⟩;exists gY (λ_=>?_) (λ_=>?_)
   ·exists ⟨⟨5,rfl,by decide⟩,B2,u1.trans u2⟩
   ·exists ⟨⟨n,rfl,by lia⟩,B2,u1.trans u2⟩
  clear n0 n1 u1 B1;rintro σ' H1 ⟨⟨n,rfl,n5⟩,B1,u1⟩;exists c8 λl0 H2 s2 n2 g2=>?_
  exists ⟨b,8,rfl,B1.same s2,by decide,by decide,λv H3 v0 v1 B3 u3=>?_⟩;have g3:=u3.other (λz=>B1.at (by rw[<- z];exact n2)) g2;obtain ⟨x,ex,mx,_⟩:=kR (xs:=[V.int 0,V.int 1,V.int 1,V.int 1,V.int 2,V.int 2,V.int 3,V.int 4]) v0 (by simpa using v1)
  obtain ⟨i,rfl,hi⟩:∃z:Nat,x=.int z/\z<=4:=by
   simp only[aN,br,or_false] at mx;rcases mx with rfl | rfl | rfl | rfl | rfl | rfl | rfl | rfl
   ·exact ⟨0,rfl,by decide⟩
   ·exact ⟨1,rfl,by decide⟩
   ·exact ⟨1,rfl,by decide⟩
   ·exact ⟨1,rfl,by decide⟩
   ·exact ⟨2,rfl,by decide⟩
   ·exact ⟨2,rfl,by decide⟩
   ·exact ⟨3,rfl,by decide⟩
   ·exact ⟨4,rfl,by decide⟩
  exists cN (bR.of g3) ex ?_;clear ex mx g3 g2;exists c8 λl1 H4 s4 n4 g4=>?_
  exists ⟨b,8,rfl,B3.same s4,by decide,by decide,λt H5 t0 t1 B5 u5=>?_⟩;have g5:=u5.other (λz=>B3.at (by rw[<- z];exact n4)) g4;obtain ⟨x,ex,mx,_⟩:=kR (xs:=[V.int 0,V.int 1,V.int 1,V.int 1,V.int 2,V.int 2,V.int 3,V.int 4]) t0 (by simpa using t1)
  obtain ⟨o,rfl,ho⟩:∃z:Nat,x=.int z/\z<=4:=by
   simp only[aN,br,or_false] at mx;rcases mx with rfl | rfl | rfl | rfl | rfl | rfl | rfl | rfl
   ·exact ⟨0,rfl,by decide⟩
   ·exact ⟨1,rfl,by decide⟩
   ·exact ⟨1,rfl,by decide⟩
   ·exact ⟨1,rfl,by decide⟩
   ·exact ⟨2,rfl,by decide⟩
   ·exact ⟨2,rfl,by decide⟩
   ·exact ⟨3,rfl,by decide⟩
   ·exact ⟨4,rfl,by decide⟩
  exists cN (bR.of g5) ex ?_;clear ex mx g5 g4;have u15:=(((u1.same s2).trans u3).same s4).trans u5;exists ⟨λσ' H'=>(∃i o:Nat,σ'=[some (.ref b),some (.int n),some (.int i),some (.int o),none]/\i<=4/\o<=4/\(n=5->i<=2/\o<=2))/\ic H' b/\c7 b H H',?_,?_⟩
  ·exists gY (λh0=>?_) (λh0=>?_)
   ·exists ⟨⟨min i 2,min o 2,?_,by lia,by lia,λ_=>⟨by lia,by lia⟩⟩,B5,u15⟩;have e1:(if (2:Int) < (i:Int) then (2:Int) else (i:Int))=((min i 2:Nat):Int):=by split <;> lia
    have e2:(if (2:Int) < (o:Int) then (2:Int) else (o:Int))=((min o 2:Nat):Int):=by split <;> lia
    rw[<- e1,<- e2];rfl
   ·exists ⟨⟨i,o,rfl,hi,ho,λz=>absurd (decide_eq_true (show (n:Int)=5 by lia)) h0⟩,B5,u15⟩
  clear hi ho u15 B5 u5 u3 u1;rintro σ' H5 ⟨⟨i,o,rfl,hi,ho,h5⟩,B5,u5⟩;exists c8 λl2 H6 s6 n6 g6=>?_
  exists ⟨b,4,rfl,B5.same s6,by decide,by decide,λv H7 v0 v1 B7 u7=>?_⟩;have g7:=u7.other (λz=>B5.at (by rw[<- z];exact n6)) g6;obtain ⟨x,ex,mx,_⟩:=kR (xs:=[V.int 4,V.int 4,V.int 9,V.int 1000000]) v0 (by simpa using v1)
  obtain ⟨w,rfl,hw⟩:∃w:Nat,x=.int w/\(w=4\/w=9\/w=1000000):=by
   simp only[aN,br,or_false] at mx;rcases mx with rfl | rfl | rfl | rfl
   ·exact ⟨4,rfl,.inl rfl⟩
   ·exact ⟨4,rfl,.inl rfl⟩
   ·exact ⟨9,rfl,.inr (.inl rfl)⟩
   ·exact ⟨1000000,rfl,.inr (.inr rfl)⟩
  exists cN (bR.of g7) ex ?_;have u07:=(u5.same s6).trans u7;exists ⟨λσ' H'=>(∃n:Nat,σ'=[some (.ref b),some (.int n),some (.int i),some (.int o),some (.int w)]/\n<=5/\(w=4\/w=9\/(w=1000000/\n<=2))/\(n=5->i<=2/\o<=2))/\ic H' b/\c7 b H H',?_,?_⟩
  ·exists gY (λh0=>?_) (λh0=>?_)
   ·exists ⟨⟨min n 2,?_,by lia,by lia,λz=>by lia⟩,B7,u07⟩;have e1:(if (2:Int) < (n:Int) then (2:Int) else (n:Int))=((min n 2:Nat):Int):=by split <;> lia
    rw[<- e1];rfl
   ·exists ⟨⟨n,rfl,n5,?_,h5⟩,B7,u07⟩;rcases hw with z | z | z
    ·exact .inl z
    ·exact .inr (.inl z)
    ·exact absurd (decide_eq_true (show (9:Int) < (w:Int) by lia)) h0
  ·clear h5 n5;rintro σ' H8 ⟨⟨n',rfl,n5,hwn,h5⟩,B8,u8⟩;exists b7 λr H9 s9 g9=>?_
   exact k r n' i o w H9 g9 n5 hi ho hwn h5 (B8.same s9) (u8.same s9)
theorem iw:a7 ["_law_bag_here","_law_n","_law_move_here","_law_at","_law_put","_law_first","_law_look"] ["_law_bag_here","_law_n"] (aP rT):=by walk_at "d"
theorem pU (T:Txt K mg Z):cQ P w K mg base fI 2 Z.y9 Z.yL ["_law_bag_here","_law_n"] (F3 K):=by
 refine T.jL.F.ok iw (λvs H Q E h=>?_) (λcdv A outer s H vs Q E hr h=>?_)
 ·obtain ⟨b,n,rfl,_⟩:=h;rfl
 ·obtain ⟨b,n,rfl,hB,n1,n8,k⟩:=h
  refine ⟨_,(av (kB 2 ["_law_i"] ["_law_n"] [1] iw.nd rfl rfl (cB rfl T.range (ae (pv 1) ag)) (λ_=>(aQ (i:=0) (show ND9 ["_law_i","_law_n"] by decide +kernel) rfl (Or.inr rfl) (Or.inl rfl))) (λ_=>cH) (λ_=>(cm ["_law_j"] ["_law_i"] [0] (cB rfl T.range (ae (pv 1) ag)) (λ_=>(aQ (i:=0) (show ND9 ["_law_j","_law_i"] by decide +kernel))) (λ_=>cH) (λ_=>(cU (ae (d9 lW (by rfl) T.int PyProof.Rows.boot_int (ae (ia eO (pv 0) (bH dR (pv 1) ar) (bC _)) ag)) (ae ar ag)))))))
   (av (fh (cm ["_law_j"] ["_law_bag_here"] [0] (cB rfl T.range (ae (pv 1) ag)) (λ_=>(aQ (i:=0) (show ND9 ["_law_j","_law_bag_here"] by decide +kernel))) (λ_=>cH) (λ_=>(cU (ae (bH jA (cO (bp T) hr T.aX (ae (pv 1) (ae ar ag))) ar) (ae ar ag))))) (gQ (pv 2) (bH jA (pv 1) ar) set_list))
   (av (a9 (i:=3) iw.nd rfl (Or.inr rfl) (bc bX (dG (ae (bH jA (pv 1) ar) (ae (cO (bp T) hr T.aX (ae (pv 0) (ae (pv 1) ag))) ag))) (cO (bp T) hr T.aX (ae (pv 0) (ae ar ag)))))
   (av (a9 (i:=4) iw.nd rfl (Or.inl rfl) (dG (ae (cm ["_law_j"] ["_law_at"] [3] (cB rfl T.range (ae (pv 1) ag)) (λ_=>(aQ (i:=0) (show ND9 ["_law_j","_law_at"] by decide +kernel))) (λ_=>cH) (λ_=>(cU (ae (d9 lW (by rfl) T.int PyProof.Rows.boot_int (ae (ia eO (pv 0) (pv 1) (bC _)) ag)) (ae ar ag))))) ag)))
   (av (a9 (i:=5) iw.nd rfl (Or.inr rfl) (bc bX (dG (ae ar (ae ar (ae (cO (bp T) hr T.aX (ae (pv 0) (ae (pv 1) ag))) ag)))) (cO (bp T) hr T.aX (ae (pv 0) (ae ar ag)))))
   (av (a9 (i:=6) iw.nd rfl (Or.inl rfl) (dG (ae (cm ["_law_j"] ["_law_first"] [5] (cB rfl T.range (ae (pv 1) ag)) (λ_=>(aQ (i:=0) (show ND9 ["_law_j","_law_first"] by decide +kernel))) (λ_=>cH) (λ_=>(cU (ae (d9 lW (by rfl) T.int PyProof.Rows.boot_int (ae (ia eO (pv 0) (pv 1) (bC _)) ag)) (ae ar ag))))) ag)))
   (aB (aW (cU (ae (pv 2) (ae (pv 4) (ae (pv 6) ag)))))))))))),?_⟩
  refine aS (σ:=[some (.ref b),some (.int n),none,none,none,none,none]) rfl ?_
  have bit:∀{z:Int},∀y∈(List.range n).map (λ(j:Nat)=>(((if decide ((j:Int)=z)=true then 1 else 0:Int)):Rat)),Fr 1 1 y:=λy hy=>by
   obtain ⟨j,_,rfl⟩:=aE.mp hy;exact Sr (by split <;> simp)
  sleep 3;refine fJ (n:=n) (di K H) (λ(i:Nat)=>(List.range n).map λ(j:Nat)=>(((if decide ((j:Int)=(i:Int)+1)=true then 1 else 0:Int)):Rat)) (by lia) (λa b=>a.same b) ?_ ?_
  ·rintro i Hb NY NN hi sa k1;sleep 3;refine fJ (n:=n) (cz K) (λ(j:Nat)=>(((if decide ((j:Int)=(i:Int)+1)=true then 1 else 0:Int)):Rat)) (by lia) (λa b=>a.same b) ?_ ?_
   ·rintro j Hz NY2 NN2 hj sz k2;exists b7 λt Hy sy gy=>?_
    exact k2 _ _ sy (cz.mk gy rfl)
   ·rintro ys Hz t ht sz g pr nx;exact k1 _ _ sz ⟨t,rfl,sa.none ht,ys,g,pr⟩
  rintro ys H1 mm hm s1 g1 pr1 nx1;have G1:bE K H H1 mm ((List.range n).map λ(i:Nat)=>(List.range n).map λ(j:Nat)=>(((if decide ((j:Int)=(i:Int)+1)=true then 1 else 0:Int)):Rat)):=⟨ys,g1,pr1,jD nx1⟩;clear g1 pr1 nx1;have B1:=hB.same s1;have mb:mm≠b:=λz=>hB.at (by rw[<- z];exact hm)
  obtain ⟨q0,I0,xq,gq0⟩:=hB.inner;have mq:mm≠q0:=λz=>by rw[<- z,hm] at gq0;cases gq0
  sleep 3;refine yi (n:=n) (b:=b) (cz K) (Fr 1 1) B1 (by lia) (λa u B=>a.upto u B) ?_ ?_
  ·rintro j Ha NY NN hj ua Ba k1;exists ⟨b,3,rfl,Ba,by decide,by decide,λv Hb v0 v1 Bb ub=>?_⟩;exists b7 λt Hc sc gc=>?_
   exact k1 _ ((v - 1:Int):Rat) _ (ub.same sc) (Bb.same sc) (Fr.int (by lia)) (cz.mk gc rfl)
  rintro ys2 cs H2 q2 hq2 u2 B2 g2 lc hc pr2 _;have u02:=(s1.upto (p:=b)).trans u2;have nq2:H q2=none:=s1.none hq2;obtain ⟨us,gu,pu⟩:=(G1.upto u2 B1 mb hB.at).toE;have lu:=pu.length;rw[aj,cv] at lu
  have q2m:q2≠mm:=λz=>by
   obtain ⟨_,gg,_⟩:=id G1;rw[z,gg] at hq2;cases hq2
  walk_at "w";rw[show ((n:Int) - 1)=((n - 1:Nat):Int) by lia];refine ff gu (fE (by lia)) rfl ?_;have G3:bE K H (upd H2 mm (.lst (us.set (n - 1) (.ref q2)))) mm (((List.range n).map λ(i:Nat)=>(List.range n).map λ(j:Nat)=>(((if decide ((j:Int)=(i:Int)+1)=true then 1 else 0:Int)):Rat)).set (n - 1) cs):=bE.ofE aO (i5 (Paired.imp' (λ_ _ z=>Ls.updL z gu (λq h=>h.2)) pu) (n - 1) ⟨q2,rfl,⟨nq2,q2m⟩,cF.updL ⟨ys2,g2,pr2⟩ gu q2m⟩) (λq h=>h.1) (λq h=>h.2);have B3:ic (upd H2 mm (.lst (us.set (n - 1) (.ref q2)))) b:=B2.upd (u02.2 _ I0) mb mq;have u03:c7 b H (upd H2 mm (.lst (us.set (n - 1) (.ref q2)))):=u02.after hm;obtain ⟨mv,emv⟩:∃mv,mv=((List.range n).map λ(i:Nat)=>(List.range n).map λ(j:Nat)=>(((if decide ((j:Int)=(i:Int)+1)=true then 1 else 0:Int)):Rat)).set (n - 1) cs:=⟨_,rfl⟩;have lmv:mv.length=n:=by rw[emv,dI,aj,cv]
  have hmv:∀xs∈mv,xs.length=n/\∀y∈xs,Fr 1 1 y:=λxs hx=>by
   rw[emv] at hx;rcases cD hx with hx | rfl
   ·obtain ⟨i,_,rfl⟩:=aE.mp hx;exact ⟨by rw[aj,cv],bit⟩
   ·exact ⟨lc,hc⟩
  rw[<- emv] at G3;generalize upd H2 mm (.lst (us.set (n - 1) (.ref q2)))=H3 at G3 B3 u03 ⊢;clear emv pu gu G1 u2 pr2 g2 B2;exists ⟨b,n,rfl,B3,by lia,by lia,λa1 H4 a10 a11 B4 u4=>?_⟩;exists c8 λl1 H5 s5 nl1 g5=>?_
  exists ⟨b,2,rfl,B4.same s5,by decide,by decide,λv H6 v0 v1 B6 u6=>?_⟩;have g6:=u6.other (λz=>B4.at (by rw[<- z];exact nl1)) g5;obtain ⟨x,ex,mx,_⟩:=kR (xs:=[V.int ((n:Int) - 1),V.int a1]) v0 (by simpa using v1)
  obtain ⟨at',rfl⟩:∃a:Int,x=.int a:=by
   simp only[aN,br,or_false] at mx;rcases mx with rfl | rfl
   ·exact ⟨_,rfl⟩
   ·exact ⟨_,rfl⟩
  exists cN (bR.of g6) ex ?_;have u36:=(u4.same s5).trans u6;have G6:=G3.upto u36 B3 mb hB.at;have u06:=u03.trans u36;clear ex mx g6 g5 G3 u4 u6;sleep 3;refine fJ (n:=n) (cz K) (λ(j:Nat)=>(((if decide ((j:Int)=at')=true then 1 else 0:Int)):Rat)) (by lia) (λa b=>a.same b) ?_ ?_
  ·rintro j Hz NY2 NN2 hj sz k2;exists b7 λt Hy sy gy=>?_
   exact k2 _ _ sy (cz.mk gy rfl)
  rintro ys7 H7 q7 hq7 s7 g7 pr7 _;have R7:cF K H7 q7 _:=⟨ys7,g7,pr7⟩;exists c8 λp8 H8 s8 n8' g8=>?_
  have s68:=s7.trans s8;have q78:q7≠p8:=λz=>by rw[z,n8'] at g7;cases g7
  have np8:H p8=none:=u06.none B6 (s7.none n8');have nq7:H q7=none:=u06.none B6 hq7
  have GP:bE K H H8 p8 [(List.range n).map λ(j:Nat)=>(((if decide ((j:Int)=at')=true then 1 else 0:Int)):Rat)]:=⟨_,g8,.cons ⟨q7,rfl,nq7,R7.same s8⟩ .nil,λz=>by
   rw[bS] at z;cases z;exact q78 rfl⟩
  have B8:=B6.same s68;have u08:=u06.same s68;have G8:=G6.same s68;have pb:p8≠b:=λz=>hB.at (by rw[<- z];exact np8)
  exists ⟨b,n,rfl,B8,by lia,by lia,λa2 H9 a20 a21 B9 u9=>?_⟩;exists c8 λl2 Ha sa nl2 ga=>?_
  exists ⟨b,3,rfl,B9.same sa,by decide,by decide,λv' Hb v0' v1' Bb ub=>?_⟩;have gb:=ub.other (λz=>B9.at (by rw[<- z];exact nl2)) ga;obtain ⟨x,ex,mx,_⟩:=kR (xs:=[V.int 0,V.int 0,V.int a2]) v0' (by simpa using v1')
  obtain ⟨fi,rfl⟩:∃a:Int,x=.int a:=by
   simp only[aN,br,or_false] at mx;rcases mx with rfl | rfl | rfl
   ·exact ⟨_,rfl⟩
   ·exact ⟨_,rfl⟩
   ·exact ⟨_,rfl⟩
  exists cN (bR.of gb) ex ?_;have u8b:=(u9.same sa).trans ub;have Gb:=G8.upto u8b B8 mb hB.at;have GPb:=GP.upto u8b B8 pb hB.at;have u0b:=u08.trans u8b;clear ex mx gb ga G8 GP u9 ub;sleep 3;refine fJ (n:=n) (cz K) (λ(j:Nat)=>(((if decide ((j:Int)=fi)=true then 1 else 0:Int)):Rat)) (by lia) (λa b=>a.same b) ?_ ?_
  ·rintro j Hz NY2 NN2 hj sz k2;exists b7 λt Hy sy gy=>?_
   exact k2 _ _ sy (cz.mk gy rfl)
  rintro ysc Hc qc hqc sc gc prc _;have Rc:cF K Hc qc _:=⟨ysc,gc,prc⟩;exists c8 λpd Hd sd nd gd=>?_
  have sbd:=sc.trans sd;have qcd:qc≠pd:=λz=>by rw[z,nd] at gc;cases gc
  have npd:H pd=none:=u0b.none Bb (sc.none nd);have nqc:H qc=none:=u0b.none Bb hqc
  have GL:bE K H Hd pd [(List.range n).map λ(j:Nat)=>(((if decide ((j:Int)=fi)=true then 1 else 0:Int)):Rat)]:=⟨_,gd,.cons ⟨qc,rfl,nqc,Rc.same sd⟩ .nil,λz=>by
   rw[bS] at z;cases z;exact qcd rfl⟩
  exists b7 λr He se ge=>?_
  have sbe:=sbd.trans se;refine k r mv _ _ He ⟨mm,p8,pd,ge,hm,np8,npd,Gb.same sbe,GPb.same sbe,GL.same se⟩ lmv rfl rfl ⟨by lia,by simp,by simp,λxs hx=>by rw[(hmv xs hx).1,lmv],λxs hx=>?_,λxs hx=>?_⟩ (λxs hx=>(hmv xs hx).2) (λxs hx=>?_) (λxs hx=>?_) (Bb.same sbe) (u0b.same sbe)
  ·rw[bS.mp hx,aj,cv,lmv]
  ·rw[bS.mp hx,aj,cv,lmv]
  ·rw[bS.mp hx];exact bit
  ·rw[bS.mp hx];exact bit
theorem mQ:a7 ["_law_top","_law_bottom","_law_one","_law_other"] ["_law_top","_law_bottom"] (aP uN):=by walk_at "d"
theorem je (T:Txt K mg Z):cQ P w K mg base fI 1 Z.BI Z.Bq ["_law_top","_law_bottom"] Qn:=by
 refine T.gK.F.ok mQ (λvs H Q E h=>?_) (λcdv A outer s H vs Q E hr h=>?_)
 ·obtain ⟨t,b,rfl,_⟩:=h;rfl
 ·obtain ⟨t,b,rfl,hb,hs,k⟩:=h
  refine ⟨_,(av (a9 (i:=2) mQ.nd rfl (Or.inl rfl) (bJ wJ (by rfl) T.abs PyProof.Rows.boot_abs (ae (pv 0) ag)))
   (av (a9 (i:=3) mQ.nd rfl (Or.inl rfl) (pv 1))
   (av (AB PassesOwn.never (bw sk (pv 2) ar (bC _))
    (aB (Mj (i:=2) (j:=3) rfl mQ.nd rfl rfl (by decide) rfl rfl (ae (bH nW (pv 3) (pv 2)) (ae (pv 2) ag)) rfl)))
   (aB (aW (cU (ae (bH iO (pv 0) (pv 3)) (ae (bH iO (pv 1) (pv 3)) ag)))))))),?_⟩
  refine aS (σ:=[some (.int t),some (.int b),none,none]) rfl ?_;walk_at "w"
  refine Ei (λσ' H'=>∃(u v:Int),σ'=[some (.int t),some (.int b),some (.int u),some (.int v)]/\H'=H/\0<=u/\0 < v/\Int.gcd u v=Int.gcd t b) (λσ' _=>match σ' with | [_,_,some (.int u),_]=>u.natAbs | _=>0) ⟨_,b,rfl,rfl,by split <;> lia,hb,by
   split
   ·rw[Int.neg_gcd]
   ·rfl⟩ ?_
  rintro σ' H' ⟨u,v,rfl,rfl,hu,hv,hg⟩;exists gY (λh=>?_) (λh=>?_)
  ·have hu0:u≠0:=λz=>by subst z;simp at h
   exists gP (show (0:Int) < u by lia) ?_;walk_at "w";have h1:=lS v hu0;have h2:=iX v (show 0 < u by lia);exact ⟨⟨v % u,u,rfl,rfl,h1,by lia,by rw[kL,MU,kL];exact hg⟩,by show (v % u).natAbs < u.natAbs;lia⟩
  ·have hu0:u=0:=by
    by_cases z:u=0
    ·exact z
    ·exfalso;apply h;simp [z]
   subst hu0
   have e:v=g t b:=by
    unfold g;rw[<- hg,Int.gcd_zero_left]
    lia
   have hgs:Sz 8999 v:=hs.le (by
    rw[e];have h1:(g t b).natAbs=Int.gcd t b:=by unfold g;simp
    rw[h1];exact jm (by lia) (by have:=fO (a:=t) (b:=b);exact gR.mpr this |> λz=>by simpa using z))
   exists gP (show oS _ _ from ⟨by lia,hgs⟩) ?_;exists gP (show oS _ _ from ⟨by lia,hgs⟩) ?_;exists b7 λr H' s' h'=>?_
   rw[cL _ (by lia),cL _ (by lia),e] at h';exact k r H' s' h'
theorem Gu:a7 ["_law_one","_law_other"] ["_law_one","_law_other"] (aP uL):=by walk_at "d"
theorem kO (T:Txt K mg Z):cQ P w K mg base fI 2 Z.BG Z.Bo ["_law_one","_law_other"] (o5 K (λx y=>x+y)):=by
 refine T.ik.F.ok Gu (λvs H Q E h=>?_) (λcdv A outer s H vs Q E hr h=>?_)
 ·obtain ⟨p,q,a,b,c,d,rfl,hp,hq,hb,hd,sa,sb,sc,sd,k⟩:=Kp h;rfl
 ·obtain ⟨p,q,a,b,c,d,rfl,hp,hq,hb,hd,sa,sb,sc,sd,k⟩:=Kp h;refine ⟨_,(aB (aW (cO (je T) hr T.gK (ae (bH dR (bH dw (bc bN (pv 0) ar) (bc bN (pv 1) ar)) (bH dw (bc bN (pv 1) ar) (bc bN (pv 0) ar))) (ae (bH dw (bc bN (pv 0) ar) (bc bN (pv 1) ar)) ag))))),?_⟩;sleep 5;have hbd:0 < b*d:=mO hb hd;have sbd:Sz 8999 (b*d):=(sb.mul sd).mono (by decide);exists gP (show iI _ _ from .inr ⟨_,_,sa,sd,by decide⟩) ?_;exists gP (show iI _ _ from .inr ⟨_,_,sc,sb,by decide⟩) ?_;exists gP (show iI _ _ from .inr ⟨_,_,sb,sd,by decide⟩) ?_;walk_at "w";exists ⟨_,_,rfl,hbd,sbd,k⟩
theorem EC:a7 ["_law_one","_law_other"] ["_law_one","_law_other"] (aP rO):=by walk_at "d"
theorem vH (T:Txt K mg Z):cQ P w K mg base fI 3 Z.yY Z.yH ["_law_one","_law_other"] (FX K):=by
 refine T.lK.F.ok EC (λvs H Q E h=>?_) (λcdv A outer s H vs Q E hr h=>?_)
 ·obtain ⟨p,q,xs,ys,rfl,_⟩:=h;rfl
 ·obtain ⟨p,q,xs,ys,rfl,hp,hq,hl,hz,h1,h2,kk⟩:=h;refine ⟨_,(aB (aW (cm ["_law_k"] ["_law_one","_law_other"] [0,1] (cB rfl T.range (ae (bJ bx (by rfl) T.len bg (ae (pv 0) ag)) ag)) (λ_=>(aQ (i:=0) (show ND9 ["_law_k","_law_one","_law_other"] by decide +kernel))) (λ_=>cH) (λ_=>(cO (kO T) hr T.ik (ae (bc (iP K (by rfl)) (pv 1) (pv 0)) (ae (bc (iP K (by rfl)) (pv 2) (pv 0)) ag))))))),?_⟩;sleep 5;obtain ⟨us,gu,qu⟩:=id hp;obtain ⟨ws,gw,qw⟩:=id hq;have lu:=qu.length;exists ⟨_,_,rfl,.inl (bR.of gu),?_⟩;sleep 3;refine fJ (n:=us.length) (cz K) (λi=>xs.getD i 0+ys.getD i 0) (by lia) (λa b=>a.same b) ?_ ?_
  ·rintro i H' NY NN hi s k1;have ix:i < xs.length:=by lia
   have iy:i < ys.length:=by lia
   obtain ⟨vx,ex,nx⟩:=Jg (Paired.imp' (λ_ _ z=>z.same s) qu) ix;obtain ⟨vy,ey,ny⟩:=Jg (Paired.imp' (λ_ _ z=>z.same s) qw) iy;exists cN (bR.of (s _ _ gu)) ex ?_;exists cN (bR.of (s _ _ gw)) ey ?_;exists ⟨_,_,_,_,rfl,nx,ny,h1 _ (getD_mem ix),h2 _ (getD_mem iy),λr3 H3 s3 n3=>k1 _ _ s3 n3⟩
  ·rintro ys' H' l hl' s g pr nx;exact kk l H' hl' s ⟨ys',g,by rw[Cu (by lia)];rw[<- lu] at pr;exact pr⟩
theorem EB:a7 ["_law_one","_law_other"] ["_law_one","_law_other"] (aP rN):=by walk_at "d"
theorem lG (T:Txt K mg Z):cQ P w K mg base fI 2 Z.yX Z.yG ["_law_one","_law_other"] (o5 K (λx y=>x*y)):=by
 refine T.iB.F.ok EB (λvs H Q E h=>?_) (λcdv A outer s H vs Q E hr h=>?_)
 ·obtain ⟨p,q,a,b,c,d,rfl,hp,hq,hb,hd,sa,sb,sc,sd,k⟩:=JW h;rfl
 ·obtain ⟨p,q,a,b,c,d,rfl,hp,hq,hb,hd,sa,sb,sc,sd,k⟩:=JW h;refine ⟨_,(aB (aW (cO (je T) hr T.gK (ae (bH dw (bc bN (pv 0) ar) (bc bN (pv 1) ar)) (ae (bH dw (bc bN (pv 0) ar) (bc bN (pv 1) ar)) ag))))),?_⟩;sleep 5;have hbd:0 < b*d:=mO hb hd;have sbd:Sz 8999 (b*d):=(sb.mul sd).mono (by decide);exists gP (show iI _ _ from .inr ⟨_,_,sa,sc,by decide⟩) ?_;exists gP (show iI _ _ from .inr ⟨_,_,sb,sd,by decide⟩) ?_;walk_at "w";exists ⟨_,_,rfl,hbd,sbd,k⟩
theorem ID:a7 ["_law_by_here","_law_row_here"] ["_law_by_here","_law_row_here"] (aP xQ):=by walk_at "d"
theorem AR (T:Txt K mg Z):cQ P w K mg base fI 3 Z.D6 Z.DF ["_law_by_here","_law_row_here"] (LU K):=by
 refine T.qq.F.ok ID (λvs H Q E h=>?_) (λcdv A outer s H vs Q E hr h=>?_)
 ·obtain ⟨u,q,c,ys,rfl,_⟩:=h;rfl
 ·obtain ⟨u,q,c,ys,rfl,hc,sc,hq,hz,h2,kk⟩:=h;refine ⟨_,(aB (aW (cm ["_law_one"] ["_law_by_here"] [0] (cM (pv 1)) (λ_=>(aQ (i:=0) (show ND9 ["_law_one","_law_by_here"] by decide +kernel))) (λ_=>cH) (λ_=>(cO (lG T) hr T.iB (ae (pv 1) (ae (pv 0) ag))))))),?_⟩;refine aS (σ:=[some u,some (.ref q)]) rfl ?_;obtain ⟨us,gu,qu⟩:=id hq;exists ⟨⟨_,bR.of gu⟩,?_⟩;refine dW (K:=K) (F:=cz K) (cz K) (λy=>c*y) gu qu hz (λa b=>a.same b) (λa b=>a.same b) ?_ ?_
  ·rintro i y x H' NY NN en s hx k;exists ⟨_,_,_,_,rfl,hc.same s,hx,sc,h2 y (ay en),λr H2 s2 h2'=>k _ _ s2 h2'⟩
  ·rintro ys' H' r hr s g pr nx;exact kk r H' hr s ⟨ys',g,pr⟩
theorem eF:a7 ["_law_bag_here","_law_move_here","_law_put","_law_look","_law_n","_law_turn","_law_i","_law_j","_law_by_here","_law_less_here","_law_row_here"] ["_law_bag_here","_law_move_here","_law_put","_law_look"] (aP pL):=by walk_at "d"
theorem tT (T:Txt K mg Z):cQ P w K mg base fI 4 Z.xc Z.wD ["_law_bag_here","_law_move_here","_law_put","_law_look"] (CM K):=by
 refine T.kG.F.ok eF (λvs H Q E h=>?_) (λcdv A outer s H vs Q E hr h=>?_)
 ·obtain ⟨b,m,p,l,q0,n,WV,μ,A,us,ws,vs,rfl,_⟩:=h;rfl
 ·obtain ⟨b,m,p,l,q0,n,WV,μ,A,us,ws,vs,rfl,MA,X,n8,i4,o4,M0,M1,⟨M,eM⟩,V1,hA,k⟩:=h
  refine ⟨_,(av (a9 (i:=4) eF.nd rfl (Or.inl rfl) (bJ bx (by rfl) T.len bg (ae (pv 1) ag)))
   (av (cY (PW.pt (me (bw tP (pv 4) ar (bC _)) (jv (bw eO (cO (bp T) hr T.aX (ae (pv 0) (ae ar ag))) ar (bC _))))) (aB (aW (cU (ae (pv 1) (ae (pv 2) (ae (pv 3) ag)))))) bW)
   (av (dQ PassesOwn.never rfl (cB rfl T.range (ae (bH dR ar (cO (bp T) hr T.aX (ae (pv 0) (ae ar ag)))) ag)) (aQ (i:=5) eF.nd)
    (av (a9 (i:=6) eF.nd rfl (Or.inl rfl) (cO (bp T) hr T.aX (ae (pv 0) (ae (pv 4) ag))))
   (av (a9 (i:=7) eF.nd rfl (Or.inl rfl) (bH nW (bH dR (bH dR (pv 6) ar) (cO (bp T) hr T.aX (ae (pv 0) (ae (bH jA (pv 4) ar) ag)))) (pv 4)))
   (av (a9 (i:=8) eF.nd rfl (Or.inl rfl) (cU (ae (bc bX (dG (ae ar (ae (vD oY ar) (ae ar (ae (vD oY ar) ag))))) (cO (bp T) hr T.aX (ae (pv 0) (ae ar ag)))) (ae ar ag))))
   (av (a9 (i:=9) eF.nd rfl (Or.inl rfl) (cU (ae (bH jA ar (bc bN (pv 8) ar)) (ae ar ag))))
   (av (fh (cO (vH T) hr T.lK (ae (bc bX (pv 1) (pv 6)) (ae (cO (AR T) hr T.qq (ae (pv 8) (ae (bc bX (pv 1) (pv 7)) ag))) ag))) (gQ (pv 1) (pv 6) set_list))
   (av (dQ PassesOwn.never rfl (cM (bH iK (pv 1) (pv 3))) (aQ (i:=10) eF.nd)
    (aB (fh (cO (kO T) hr T.ik (ae (bc bX (pv 10) (pv 7)) (ae (cO (lG T) hr T.iB (ae (pv 9) (ae (bc bX (pv 10) (pv 6)) ag))) ag))) (gQ (pv 10) (pv 7) set_list))))
   (aB (dQ PassesOwn.never rfl (cM (pv 2)) (aQ (i:=10) eF.nd)
    (aB (fh (cO (kO T) hr T.ik (ae (bc bX (pv 10) (pv 6)) (ae (cO (lG T) hr T.iB (ae (pv 8) (ae (bc bX (pv 10) (pv 7)) ag))) ag))) (gQ (pv 10) (pv 6) set_list))))))))))))
   (aB (aW (cU (ae (pv 1) (ae (pv 2) (ae (pv 3) ag))))))))),?_⟩
  refine aS (σ:=[some (.ref b),some (.ref m),some (.ref p),some (.ref l),none,none,none,none,none,none,none]) rfl ?_;have done:∀r us' H' t,t<=3->H' r=some (.tup [.ref m,.ref p,.ref l])->jT K A H' n (λx=>Fr (μ x) (9^t*WV)) m p l b q0 us' ws vs->iH A b m H H'->Q (.ref r) H':=λr us' H' t ht g x kp=>k r us' H' g (x.weak λ_ _ y h=>h.mono (az _ (ax (by decide) ht))) kp
  have X0:jT K A H n (λx=>Fr (μ x) (9^0*WV)) m p l b q0 us ws vs:=X.weak λ_ _ y h=>h.mono (by simp)
  clear X k;have gu:=X0.gm;have lu:=X0.lm;exists ⟨_,_,rfl,.inl (bR.of gu),?_⟩;rw[lu];clear gu lu;have kp0:iH A b m H H:=λ_ _ h _ _ _=>h
  exists gY (λh0=>?_) (λh0=>?_)
  ·exists b7 λr H' s' g'=>?_
   exact done r us H' 0 (by decide) g' (X0.same s') (kp0.same s')
  have n2:2<=n:=by
   rcases b9 n 2 with z | z
   ·exact absurd (decide_eq_true (show (n:Int) < 2 by lia)) h0
   ·exact z
  exists ⟨b,2,rfl,X0.bag,by decide,by decide,λv H1 v0 v1 B1 u1=>?_⟩;have X1:=X0.upto MA u1 B1;have kp1:=kp0.upto u1;exists gY (λh1=>?_) (λh1=>?_)
  ·exists b7 λr H' s' g'=>?_
   exact done r us H' 0 (by decide) g' (X1.same s') (kp1.same s')
  exists ⟨b,3,rfl,B1,by decide,by decide,λc H2 c0 c1 B2 u2=>?_⟩;have X2:=X1.upto MA u2 B2;have kp2:=kp1.upto u2;clear X0 X1 kp0 kp1 u1 u2 B1;sleep 3;refine eP (n:=(1+c).toNat) (λt σ' H'=>∃(x1 x2 x3 x4 x5 x6:Option V) (us:List V),σ'=[some (.ref b),some (.ref m),some (.ref p),some (.ref l),some (.int n),x1,x2,x3,x4,x5,x6]/\jT K A H' n (λx=>Fr (μ x) (9^t*WV)) m p l b q0 us ws vs/\iH A b m H H') ⟨none,none,none,none,none,none,us,rfl,X2,kp2⟩ ?_ ?_
  ·rintro t σ' H' ht ⟨x1,x2,x3,x4,x5,x6,us,rfl,X,kp⟩;have t3:t<=2:=by lia
   exists ⟨b,n,rfl,X.bag,by lia,by lia,λii Ha i0 i1 Ba ua=>?_⟩;obtain ⟨ii,rfl⟩:=bY i0;have Xa:=X.upto MA ua Ba;have kpa:=kp.upto ua;exists ⟨b,_,rfl,Ba,by lia,by lia,λd Hb d0 d1 Bb ub=>?_⟩;have Xb:=Xa.upto MA ub Bb;have kpb:=kpa.upto ub;exists gP (show (0:Int) < n by lia) ?_;have j0:=lS ((ii:Int)+1+d) (show (n:Int)≠0 by lia);have j1:=iX ((ii:Int)+1+d) (show (0:Int) < n by lia);generalize ((ii:Int)+1+d) % (n:Int)=jj at j0 j1 ⊢;obtain ⟨jj,rfl⟩:=bY j0;exists c8 λl0 Hc sc nc gc=>?_
   exists ⟨b,4,rfl,Bb.same sc,by decide,by decide,λv' Hd v0' v1' Bd ud=>?_⟩;have gd:=ud.other (λz=>Bb.at (by rw[<- z];exact nc)) gc;obtain ⟨x,ex,mx,_⟩:=kR (xs:=[V.int 1,V.int (-1),V.int 2,V.int (-2)]) v0' (by simpa using v1')
   obtain ⟨z,rfl,hz⟩:∃z:Int,x=.int z/\z.natAbs<=2:=by
    simp only[aN,br,or_false] at mx;rcases mx with rfl | rfl | rfl | rfl
    ·exact ⟨1,rfl,by decide⟩
    ·exact ⟨-1,rfl,by decide⟩
    ·exact ⟨2,rfl,by decide⟩
    ·exact ⟨-2,rfl,by decide⟩
   have Xd:=(Xb.same sc).upto MA ud Bd;have kpd:=(kpb.same sc).upto ud;exists cN (bR.of gd) ex ?_;exists b7 λbt He se ge=>?_
   exists b7 λlt Hf sf gf=>?_
   have Xf:=(Xd.same se).same sf;have kpf:=(kpd.same se).same sf;have nb:cz K Hf ((z:Int):Rat) (.ref bt):=cz.mk (sf _ _ ge) rfl;have nl:cz K Hf ((0 - z:Int):Rat) (.ref lt):=cz.mk gf rfl;clear X Xa Xb Xd kp kpa kpb kpd ua ub ud sc gc gd ex mx ge gf se sf Ba Bb Bd nc;have gu:=Xf.gm;have lu:=Xf.lm
   have ru:∀x∈us,fX K A Hf n (Fr M (9^t*WV)) x:=λx hx=>by
    have:=Xf.row x (by simp [hx]);rwa [eM x (Xf.apart.1 x hx).1 (Xf.apart.1 x hx).2] at this
   have hM:0 < M/\M<=2^800:=by
    have hx:us[ii]'(by lia)∈us:=aJ _;have:=eM _ (Xf.apart.1 _ hx).1 (Xf.apart.1 _ hx).2;rw[<- this];exact ⟨M0 _,M1 _⟩
   have e1:us[ii]?=some (us[ii]'(by lia)):=by simp
   have e2:us[jj]?=some (us[jj]'(by lia)):=by simp
   obtain ⟨q1,z1,qs1,w1,a1,g1,k1,p1,l1,c1⟩:=(ru _ (ay e1)).at;obtain ⟨q2,z2,qs2,w2,a2,g2,k2,p2,l2,c2⟩:=(ru _ (ay e2)).at;rw[w1] at e1;rw[w2] at e2;generalize eW:9^t*WV=W at *
   have W9:9*W<=2^140:=by rw[<- eW];exact OH (by lia) V1 (by decide)
   have sz9M:∀{x:Rat} {U:Nat},U<=9*W->Fr M U x->nB x:=λhU h=>Kc hM.1 hM.2 (ai hU W9) h
   have sz9:∀{x:Rat} {U:Nat} {v:V},U<=9*W->Fr (μ v) U x->nB x:=λhU h=>Kc (M0 _) (M1 _) (ai hU W9) h
   exists cN (bR.of gu) (fZ e1) ?_;exists cN (bR.of gu) (fZ e2) ?_;exists ⟨_,q2,_,qs2,rfl,nb,Em (by lia),⟨z2,g2,p2⟩,by lia,λy hy=>sz9M (by lia) (c2 y hy),λr1 Hg n1 sg R1=>?_⟩;exists ⟨q1,r1,qs1,_,rfl,⟨z1,sg _ _ g1,Paired.imp' (λ_ _ y=>y.same sg) p1⟩,R1,by rw[aj,l1,l2],by lia,λy hy=>sz9M (by lia) (c1 y hy),λy hy=>?_,λr2 Hh n2' sh R2=>?_⟩
   ·obtain ⟨y',hy',rfl⟩:=aE.mp hy;exact zY hz (c2 y' hy') hM.1 hM.2 (by lia)
   have sfh:=sg.trans sh
   have new:V.ref r2∉us++vs++ws:=λz=>by
    obtain ⟨q',_,_,e',_,g',_⟩:=((Xf.same sg).row _ z).at;cases e';rw[n2'] at g';cases g'
   have Xh:=(Xf.same sfh).weak (C':=λx y=>(x∈ws->Fr (μ x) W y)/\Fr (μ x) (3*W) y) λx _ y h=>⟨λ_=>h,h.mono (by lia)⟩
   have kph:=kpf.same sfh;have guh:=sfh _ _ gu;have ar2:A r2:=(kpf.same sg).new hA (Xf.same sg).bag (by rw[sg _ _ gu];simp) n2'
   have rp2:fX K A Hh n (λy=>(V.ref r2∈ws->Fr (μ (.ref r2)) W y)/\Fr (μ (.ref r2)) (3*W) y) (.ref r2):=by
    rw[eM (.ref r2) (λz=>new (aA.mpr (.inr z))) (λz=>new (aA.mpr (.inl (aA.mpr (.inr z)))))];refine ⟨r2,_,rfl,ar2,R2,by rw[cT,aj];lia,λy hy=>⟨λz=>absurd (aA.mpr (.inr z)) new,?_⟩⟩;obtain ⟨j',hj',e⟩:=bO hy;rw[qY,gJ] at e;rw[<- e];exact Fi hz (c1 _ (aJ _)) (c2 _ (aJ _))
   exists ff guh (fE (by lia)) rfl ?_;have Xi:=Xh.set MA rp2 new ii;have kpi:=kph.upd (o:=.lst (us.set ii (.ref r2))) (q:=m) (.inr rfl);have nli:cz K (upd Hh m (.lst (us.set ii (.ref r2)))) ((0 - z:Int):Rat) (.ref lt):=(nl.same sfh).updL guh;have nbi:cz K (upd Hh m (.lst (us.set ii (.ref r2)))) ((z:Int):Rat) (.ref bt):=(nb.same sfh).updL guh;generalize upd Hh m (.lst (us.set ii (.ref r2)))=Hi at Xi kpi nli nbi ⊢;generalize us.set ii (.ref r2)=um at Xi;clear nb nl Xf kpf gu ru e1 e2 g1 p1 g2 p2 R1 R2 Xh kph guh rp2 sg sh sfh new;have gm:=Xi.gm;have lm:=Xi.lm;have gl:=Xi.gl;have nd:=Xi.nd;obtain ⟨nd1,nd2,nd3⟩:=dU.mp nd;exists iJ gm gl (aU (bF (by lia))) λcl Hj sj nj gj=>?_
   have kpj:=kpi.same sj
   have rows:∀x∈um++vs,∀q,x=V.ref q->q≠cl:=λx hx q e y=>by
    obtain ⟨q',zs,_,e',_,g',_⟩:=(Xi.row x (aA.mpr (.inl hx))).at;rw[e] at e';cases e';rw[y,nj] at g';cases g'
   have Xj:=(Xi.same sj).weak (C':=λx y=>(x∈ws->Fr (μ x) W y)/\(x∈(um++vs).drop 0->Fr (μ x) (3*W) y)/\Fr (μ x) (9*W) y) λx _ y h=>⟨h.1,λ_=>h.2,h.2.mono (by lia)⟩
   have lj:cz K Hj ((0 - z:Int):Rat) (.ref lt):=nli.same sj;have bj:cz K Hj ((z:Int):Rat) (.ref bt):=nbi.same sj;clear Xi kpi nli nbi;refine ⟨_,rfl,⟨_,bR.of gj⟩,?_⟩;refine gV (K:=K) (a:=cl) (xs:=um++vs) (λs σ' H'=>∃x6:Option V,σ'=[some (.ref b),some (.ref m),some (.ref p),some (.ref l),some (.int n),some (.int t),some (.int ii),some (.int jj),some (.ref bt),some (.ref lt),x6]/\jT K A H' n (λx y=>(x∈ws->Fr (μ x) W y)/\(x∈(um++vs).drop s->Fr (μ x) (3*W) y)/\Fr (μ x) (9*W) y) m p l b q0 um ws vs/\iH A b m H H'/\H' cl=some (.lst (um++vs))/\cz K H' ((0 - z:Int):Rat) (.ref lt)/\cz K H' ((z:Int):Rat) (.ref bt)) ⟨_,rfl,Xj,kpj,gj,lj,bj⟩ (λs σ' H' _ ⟨_,_,_,_,e,_⟩=>bR.of e) ?_ ?_
   ·rintro s x σ' Hk hx ⟨y6,rfl,Xk,kpk,gk,lk,bk⟩;have hs:s < (um++vs).length:=(aF.mp hx).1;have mx:=ay hx
    have xd:x∈(um++vs).drop s:=by
     rw[fk hs,(aF.mp hx).2];exact .head _
    have xd2:x∉(um++vs).drop (s+1):=λz=>by
     have:=nd1.sublist (List.drop_sublist s _);rw[fk hs,fb,(aF.mp hx).2] at this;exact this.1 z
    have xw:x∉ws:=λz=>nd3 x mx x z rfl
    have rx:=Xk.row x (aA.mpr (.inl mx));obtain ⟨q,zs,qs,rfl,aq,gq,lq,pq,lq2,cq⟩:=rx.at;have qcl:=rows _ mx q rfl;obtain ⟨vj,ej,nj'⟩:=Jg pq (j:=jj) (by lia);obtain ⟨vi,ei,ni'⟩:=Jg pq (j:=ii) (by lia);have cj:=(cq _ (getD_mem (xs:=qs) (i:=jj) (by lia))).2.1 xd;have ci:=(cq _ (getD_mem (xs:=qs) (i:=ii) (by lia))).2.1 xd;exists cN (bR.of gq) ej ?_;exists cN (bR.of gq) ei ?_;exists ⟨_,_,_,_,rfl,lk,ni',Em (by lia),sz9 (by lia) ci,λr3 Hl sl n3=>?_⟩;exists ⟨_,_,_,_,rfl,nj'.same sl,n3,sz9 (by lia) cj,zY (by lia) ci (M0 _) (M1 _) (by lia),λr4 Hm sm n4=>?_⟩;have slm:=sl.trans sm;exists ff (slm _ _ gq) (fE (by lia)) rfl ?_;refine ⟨_,rfl,?_,(kpk.same slm).upd (.inl aq),by rw[bM qcl.symm];exact slm _ _ gk,(lk.same slm).updL (slm _ _ gq),(bk.same slm).updL (slm _ _ gq)⟩;refine ((Xk.same slm).weak λx' _ y h=>⟨h.1,λz=>h.2.1 ?_,h.2.2⟩).put MA aq (slm _ _ gq) n4 ⟨λz=>absurd z xw,λz=>absurd z xd2,?_⟩ jj
    ·rw[fk hs];exact .tail _ z
    ·exact (Fi (by lia) cj ci).mono (by lia)
   ·rintro σ' Hk ⟨y6,rfl,Xk,kpk,gk,lk,bk⟩;have gp:=Xk.gp;have Xk2:=Xk.weak (C':=λx y=>(x∈ws.drop 0->Fr (μ x) W y)/\Fr (μ x) (9*W) y) λx _ y h=>⟨λz=>h.1 (by simpa using z),h.2.2⟩
    clear Xk;exists ⟨⟨_,bR.of gp⟩,?_⟩;refine gV (K:=K) (a:=p) (xs:=ws) (λs σ' H'=>∃x6:Option V,σ'=[some (.ref b),some (.ref m),some (.ref p),some (.ref l),some (.int n),some (.int t),some (.int ii),some (.int jj),some (.ref bt),some (.ref lt),x6]/\jT K A H' n (λx y=>(x∈ws.drop s->Fr (μ x) W y)/\Fr (μ x) (9*W) y) m p l b q0 um ws vs/\iH A b m H H'/\cz K H' ((z:Int):Rat) (.ref bt)) ⟨_,rfl,Xk2,kpk,bk⟩ (λs σ' H' _ ⟨_,_,X,_⟩=>bR.of X.gp) ?_ ?_
    ·rintro s x σ' Hl hx ⟨w6,rfl,Xl,kpl,bl⟩;have hs:s < ws.length:=(aF.mp hx).1;have mx:=ay hx
     have xd:x∈ws.drop s:=by
      rw[fk hs,(aF.mp hx).2];exact .head _
     have xd2:x∉ws.drop (s+1):=λz=>by
      have:=nd2.sublist (List.drop_sublist s _);rw[fk hs,fb,(aF.mp hx).2] at this;exact this.1 z
     have rx:=Xl.row x (aA.mpr (.inr mx));obtain ⟨q,zs,qs,rfl,aq,gq,lq,pq,lq2,cq⟩:=rx.at;obtain ⟨vj,ej,nj'⟩:=Jg pq (j:=jj) (by lia);obtain ⟨vi,ei,ni'⟩:=Jg pq (j:=ii) (by lia);have cj:=(cq _ (getD_mem (xs:=qs) (i:=jj) (by lia))).1 xd;have ci:=(cq _ (getD_mem (xs:=qs) (i:=ii) (by lia))).1 xd;exists cN (bR.of gq) ei ?_;exists cN (bR.of gq) ej ?_;exists ⟨_,_,_,_,rfl,bl,nj',Em (by lia),sz9 (by lia) cj,λr3 Hm sm n3=>?_⟩;exists ⟨_,_,_,_,rfl,ni'.same sm,n3,sz9 (by lia) ci,zY (by lia) cj (M0 _) (M1 _) (by lia),λr4 Hn sn n4=>?_⟩;have smn:=sm.trans sn;exists ff (smn _ _ gq) (fE (by lia)) rfl ?_;refine ⟨_,rfl,?_,(kpl.same smn).upd (.inl aq),(bl.same smn).updL (smn _ _ gq)⟩;refine ((Xl.same smn).weak λx' _ y h=>⟨λz=>h.1 ?_,h.2⟩).put MA aq (smn _ _ gq) n4 ⟨λz=>absurd z xd2,?_⟩ ii
     ·rw[fk hs];exact .tail _ z
     ·exact (Fi (by lia) ci cj).mono (by lia)
    ·rintro σ' Hl ⟨w6,rfl,Xl,kpl,bl⟩;refine ⟨_,_,_,_,_,_,um,rfl,Xl.weak λ_ _ y h=>h.2.mono ?_,kpl⟩;rw[<- eW,fG,bZ (9^t) 9,cR];exact ak _
  ·rintro σ' H' ⟨x1,x2,x3,x4,x5,x6,us',rfl,X,kp⟩;exists b7 λr H2' s' g'=>?_
   exact done r us' H2' _ (by lia) g' (X.same s') (kp.same s')
theorem dP:a7 ["_law_bag_here","_law_one","_law_other","_law_ahead","_law_behind","_law_found","_law_k"] ["_law_bag_here"] (aP j6):=by walk_at "d"
theorem vF (T:Txt K mg Z):cQ P w K mg base fI 5 Z.oO Z.oI ["_law_bag_here"] (NQ K):=by
 refine T.jK.F.ok dP (λvs H Q E h=>?_) (λcdv A outer s H vs Q E hr h=>?_)
 ·obtain ⟨b,rfl,_⟩:=h;rfl
 ·obtain ⟨b,rfl,hB,k⟩:=h
  refine ⟨_,(av (a9 (i:=1) dP.nd rfl (Or.inl rfl) (cO (pU T) hr T.jL (ae (pv 0) (ae ar ag))))
   (av (a9 (i:=2) dP.nd rfl (Or.inl rfl) (cO (pU T) hr T.jL (ae (pv 0) (ae (bH dR ar (cO (bp T) hr T.aX (ae (pv 0) (ae ar ag)))) ag))))
   (av (a9 (i:=3) dP.nd rfl (Or.inr rfl) (bH Mp (dG (ae (cU (ae ar (ae ar ag))) ag)) ar))
   (av (a9 (i:=4) dP.nd rfl (Or.inr rfl) (bH Mp (dG (ae (cU (ae ar (ae ar ag))) ag)) (bJ bx (by rfl) T.len bg (ae (bc bN (pv 2) ar) ag))))
   (av (a9 (i:=5) dP.nd rfl (Or.inl rfl) (dG ag))
   (av (dQ PassesOwn.never rfl (cB rfl T.range (ae ar ag)) (aQ (i:=6) dP.nd)
    (aB (jy (yr dD dZ dX ke (pv 5) (ae (bH iK (cm ["_law_row_here"] ["_law_behind"] [4] (cM (bc bN (pv 1) (pv 6))) (λ_=>(aQ (i:=0) (show ND9 ["_law_row_here","_law_behind"] by decide +kernel))) (λ_=>cH) (λ_=>(bH iK (pv 0) (pv 1)))) (cm ["_law_row_here"] ["_law_ahead"] [3] (cM (bc bN (pv 2) (pv 6))) (λ_=>(aQ (i:=0) (show ND9 ["_law_row_here","_law_ahead"] by decide +kernel))) (λ_=>cH) (λ_=>(bH iK (pv 1) (pv 0))))) ag)))))
   (aB (aW (cO (tT T) hr T.kG (ae (pv 0) (ae (bc bX (pv 5) ar) (ae (bc bX (pv 5) ar) (ae (bc bX (pv 5) ar) ag))))))))))))),?_⟩
  refine aS (σ:=[some (.ref b),none,none,none,none,none,none]) rfl ?_;obtain ⟨q0,I0,xq,gq0⟩:=hB.inner;exists ⟨b,3,rfl,hB,by decide,by decide,λr1 mv1 pt1 lk1 H1 P1 lm1 lp1 ll1 D1 fm1 fp1 fl1 B1 u1=>?_⟩;exists ⟨b,3,rfl,B1,by decide,by decide,λv H2 v0 v1 B2 u2=>?_⟩;obtain ⟨v,rfl⟩:=bY v0;have u02:=u1.trans u2;walk_at "w";rw[show ((3:Int)+(v:Int))=((3+v:Nat):Int) by lia];refine ⟨b,3+v,rfl,B2,by lia,by lia,λr2 mv2 pt2 lk2 H3 P2 lm2 lp2 ll2 D2 fm2 fp2 fl2 B3 u3=>?_⟩;have u03:=u02.trans u3;have P1c:=(P1.upto (u2.trans u3) B1 hB.at);have P2c:eQ K H H3 r2 mv2 pt2 lk2:=P2.weak λq h=>u02.none B2 h
  exists b7 λt0 H4 s4 g4=>?_
  exists c8 λa1 H5 s5 n5 g5=>?_
  exists Mc (k:=3) g5 (by decide) λah H6 s6 n6 g6=>?_
  have s36:=(s4.trans s5).trans s6;obtain ⟨m1,p1,l1,gt1,m1n,p1n,l1n,Gm1,Gp1,Gl1⟩:=P1c.same s36;obtain ⟨m2,p2,l2,gt2,m2n,p2n,l2n,Gm2,Gp2,Gl2⟩:=P2c.same s36;have N0:cz K H6 0 (V.ref t0):=cz.mk (q:=0) ((s5.trans s6) _ _ g4) rfl;exists b7 λt1 H7 s7 g7=>?_
  exists c8 λa2 H8 s8 n8' g8=>?_
  have s68:=s7.trans s8;have gt2':=s68 _ _ gt2;obtain ⟨um2,gm2,qm2,_⟩:=id (Gm2.same s68);have lum2:=qm2.length;exists ⟨_,_,rfl,.inl (bR.of gm2),?_⟩;rw[<- lum2,lm2];exists Mc (k:=3+v) g8 (by lia) λbh H9 s9 n9 g9=>?_
  have s69:=s68.trans s9;have s39:=s36.trans s69;have N1:cz K H9 0 (V.ref t1):=cz.mk (q:=0) ((s8.trans s9) _ _ g7) rfl;have u09:=u03.same s39;have B9:=B3.same s39;have g6':=s69 _ _ g6;have N0':=N0.same s69;exists c8 λfd H10 s10 n10 g10=>?_
  have X1:∀i:Nat,i < 3->∃q1 R1 q2 R2,[V.ref m1,V.ref p1,V.ref l1][i]?=some (V.ref q1)/\bE K H H9 q1 R1/\(∀xs∈R1,xs.length=3/\∀y∈xs,Fr 1 1 y)/\[V.ref m2,V.ref p2,V.ref l2][i]?=some (V.ref q2)/\bE K H H9 q2 R2/\(∀xs∈R2,xs.length=3+v/\∀y∈xs,Fr 1 1 y)/\R1.length<=100/\R2.length<=100/\[6+v,2,2][i]?=some (R1.length+R2.length):=λi hi=>by
   rcases (show i=0\/i=1\/i=2 by lia) with rfl | rfl | rfl
   ·exact ⟨m1,mv1,m2,mv2,rfl,Gm1.same s69,λxs hx=>⟨by rw[D1.mw xs hx,lm1],fm1 xs hx⟩,rfl,Gm2.same s69,λxs hx=>⟨by rw[D2.mw xs hx,lm2],fm2 xs hx⟩,by lia,by lia,by rw[lm1,lm2,show 3+(3+v)=6+v by lia];rfl⟩
   ·exact ⟨p1,pt1,p2,pt2,rfl,Gp1.same s69,λxs hx=>⟨by rw[D1.pw xs hx,lm1],fp1 xs hx⟩,rfl,Gp2.same s69,λxs hx=>⟨by rw[D2.pw xs hx,lm2],fp2 xs hx⟩,by lia,by lia,by rw[lp1,lp2];rfl⟩
   ·exact ⟨l1,lk1,l2,lk2,rfl,Gl1.same s69,λxs hx=>⟨by rw[D1.lw xs hx,lm1],fl1 xs hx⟩,rfl,Gl2.same s69,λxs hx=>⟨by rw[D2.lw xs hx,lm2],fl2 xs hx⟩,by lia,by lia,by rw[ll1,ll2];rfl⟩
  exists ⟨by decide,by decide,?_⟩;refine eP (n:=3) (λi σ' H'=>aL H9 H'/\∃x6 L,σ'=[some (.ref b),some (.ref r1),some (.ref r2),some (.ref ah),some (.ref bh),some (.ref fd),x6]/\TR K H9 H' (6+v) fd L/\L.length=i/\∀(j:Nat) (e:Addr×List V),L[j]?=some e->[6+v,2,2][j]?=some e.2.length) ⟨s10,none,[],rfl,⟨g10,n10,(λ_ z=>nomatch z),nD,(λ_ z=>nomatch z),nD⟩,rfl,λj e h=>by simp at h⟩ ?_ ?_
  ·rintro i σ' H' hi ⟨s',x6,L,rfl,T,lL,hL⟩;obtain ⟨q1,R1,q2,R2,e1,G1,w1,e2,G2,w2,b1,b2,hlen⟩:=X1 i hi;have gt1':=s' _ _ (s69 _ _ gt1);have gt2'':=s' _ _ (s69 _ _ gt2);obtain ⟨ux1,gx1,qx1,_⟩:=id (G1.same s');have gb:=s' _ _ g9;have ga:=s' _ _ g6';exists ⟨.inl ⟨rfl,_,bR.of T.gf⟩,?_⟩;exists IK (qJ.of gt1') (fZ e1) ?_;exists ⟨⟨_,bR.of gx1⟩,?_⟩;refine DI (K:=K) (F:=di K H) (λH'' c x=>∃q,x=V.ref q/\cF K H'' q c) (λr=>r++List.replicate (3+v) 0) gx1 qx1 (by lia) (λa b=>a.same b) (λa b=>by obtain ⟨q,e,r⟩:=a;exact ⟨q,e,r.same b⟩) (λa=>by obtain ⟨q,e,_,gg,_⟩:=a;exact ⟨q,e,by rw[gg];exact λz=>nomatch z⟩) ?_ ?_
   ·rintro j ns x Hi NY NN en si ⟨q,rfl,_,zs,gz,qz⟩ k1;have ws:=(w1 ns (ay en)).1;have lz:=qz.length;exists iJ gz (si _ _ gb) (aU (bF (by rw[aD];lia))) λc Hj sj nj gj=>?_
    exact k1 _ _ sj ⟨c,rfl,_,gj,bT (Paired.imp' (λ_ _ z=>z.same sj) qz) (uV (((N1.same s').same si).same sj) _)⟩ ⟨c,rfl,nj⟩
   rintro ys1 Ha c1 hc1 sa ga1 nd1 ne1 pr1;obtain ⟨ux2,gx2,qx2,_⟩:=id ((G2.same s').same sa);have gt2a:=sa _ _ gt2'';exists IK (qJ.of gt2a) (fZ e2) ?_;exists ⟨⟨_,bR.of gx2⟩,?_⟩;refine DI (K:=K) (F:=di K H) (λH'' c x=>∃q,x=V.ref q/\cF K H'' q c) (λr=>List.replicate 3 0++r) gx2 qx2 (by lia) (λa b=>a.same b) (λa b=>by obtain ⟨q,e,r⟩:=a;exact ⟨q,e,r.same b⟩) (λa=>by obtain ⟨q,e,_,gg,_⟩:=a;exact ⟨q,e,by rw[gg];exact λz=>nomatch z⟩) ?_ ?_
   ·rintro j ns x Hi NY NN en si ⟨q,rfl,_,zs,gz,qz⟩ k1;have ws:=(w2 ns (ay en)).1;have lz:=qz.length;exists iJ ((sa.trans si) _ _ ga) gz (aU (bF (by rw[aD];lia))) λc Hj sj nj gj=>?_
    exact k1 _ _ sj ⟨c,rfl,_,gj,bT (uV ((((N0'.same s').same sa).same si).same sj) _) (Paired.imp' (λ_ _ z=>z.same sj) qz)⟩ ⟨c,rfl,nj⟩
   rintro ys2 Hb c2 hc2 sb gb2 nd2 ne2 pr2;have sab:=sa.trans sb;have ly1:=pr1.length;have ly2:=pr2.length;rw[aj] at ly1 ly2;exists iJ (sb _ _ ga1) gb2 (aU (bF (by lia))) λqn Hc sc nc gc=>?_
   have sac:=sab.trans sc;have gfc:=sac _ _ T.gf;exists j8 gfc (bF (by rw[aj];lia)) ?_
   have rP:∀{c:List Rat} {x:V},(∃q,x=V.ref q/\cF K Hb q c)->(∃q,x=V.ref q/\H' q=none)->c.length=6+v->(∀y∈c,Fr 1 1 y)->fX K (λz=>H' z=none/\z≠qn) Hc (6+v) (Fr 1 1) x:=λ⟨q,e,r⟩ ⟨q',e',nq⟩ hl hf=>by
    rw[e] at e';cases e';exact ⟨q,_,e,⟨nq,λz=>by obtain ⟨_,gg,_⟩:=r;rw[z,nc] at gg;cases gg⟩,r.same sc,hl,hf⟩
   refine ⟨(s'.trans sac).after n10,some (.int i),L++[(qn,ys1++ys2)],rfl,T.snoc s' sac (sab.none nc) gc ?_ (λx hx=>?_),by rw[au,bf,lL],λj e he=>?_⟩
   ·refine dU.mpr ⟨nd1,nd2,λx hx y hy z=>?_⟩;obtain ⟨_,_,q,e,_,gg,_⟩:=dh pr1 hx;obtain ⟨q',e',nq,_⟩:=ne2 y hy;rw[<- z,e] at e';cases e';rw[nq] at gg;cases gg
   ·sleep 1
    ·obtain ⟨c,mc,q,e,r⟩:=dh pr1 hx;obtain ⟨ns,mn,rfl⟩:=aE.mp mc;obtain ⟨q',e',nq,_⟩:=ne1 x hx;refine rP ⟨q,e,r.same sb⟩ ⟨q',e',nq⟩ (by rw[au,aD,(w1 ns mn).1];lia) λy hy=>?_
     rcases aA.mp hy with hy | hy
     ·exact (w1 ns mn).2 y hy
     ·rw[(cW.mp hy).2];exact Fr.zero
    ·obtain ⟨c,mc,q,e,r⟩:=dh pr2 hx;obtain ⟨ns,mn,rfl⟩:=aE.mp mc;obtain ⟨q',e',nq,_⟩:=ne2 x hx;refine rP ⟨q,e,r⟩ ⟨q',e',sa.none nq⟩ (by rw[au,aD,(w2 ns mn).1];lia) λy hy=>?_
     rcases aA.mp hy with hy | hy
     ·rw[(cW.mp hy).2];exact Fr.zero
     ·exact (w2 ns mn).2 y hy
   ·rcases b9 j L.length with z | z
    ·rw[bD z] at he;exact hL j e he
    ·have hj:=(aF.mp he).1;rw[au,bf] at hj;have ej:j=L.length:=by lia
     subst ej;rw[aZ (ak _),fF] at he;cases he;rw[lL,hlen,au,ly1,ly2]
  ·rintro σ' H' ⟨s',x6,L,rfl,T,lL,hL⟩
   obtain ⟨⟨m,us⟩,⟨p,ws⟩,⟨l,vs⟩,rfl⟩:∃a b c,L=[a,b,c]:=by
    rcases L with _ | ⟨a,_ | ⟨b,_ | ⟨c,_ | ⟨d,L⟩⟩⟩⟩
    ·cases lL
    ·cases lL
    ·cases lL
    ·exact ⟨a,b,c,rfl⟩
    ·simp at lL
   have lu:us.length=6+v:=by have:=hL 0 _ rfl;simpa using this.symm
   have lw:ws.length=2:=by have:=hL 1 _ rfl;simpa using this.symm
   have lv:vs.length=2:=by have:=hL 2 _ rfl;simpa using this.symm
   have gf:=T.gf;obtain ⟨mn,mf,gm⟩:=T.ls (m,us) (by simp);obtain ⟨pn,pf,gp⟩:=T.ls (p,ws) (by simp);obtain ⟨ln,lf,gl⟩:=T.ls (l,vs) (by simp);have nd:=T.nd;have rw':=T.rows;have rd:=T.rd;clear T hL;have gf:H' fd=some (.lst [.ref m,.ref p,.ref l]):=gf;have nd:[m,p,l].Nodup:=nd;have rd:(us++(ws++(vs++[]))).Nodup:=rd;have u0':=u09.same s';have B':=B9.same s';have hm0:H m=none:=u09.none B9 mn;have hp0:H p=none:=u09.none B9 pn;have hl0:H l=none:=u09.none B9 ln;obtain ⟨A,eA⟩:∃A:Addr->Prop,A=λq=>H q=none/\q≠m/\q≠p/\q≠l:=⟨_,rfl⟩
   have mkA:∀{q},H q=none->q≠m->q≠p->q≠l->A q:=λh1 h2 h3 h4=>by rw[eA];exact ⟨h1,h2,h3,h4⟩
   have unA:∀{q},A q->H q=none/\q≠m/\q≠p/\q≠l:=λh=>by rw[eA] at h;exact h
   have nb:∀{q},H q=none->q≠b:=λh z=>hB.at (by rw[<- z];exact h)
   have MA:Ie A m p l b q0:=⟨λz=>(unA z).2.1 rfl,λz=>(unA z).2.2.1 rfl,λz=>(unA z).2.2.2 rfl,λz=>hB.at (unA z).1,(λz=>by have z1:=(unA z).1;rw[gq0] at z1;cases z1),nb hm0,nb hp0,nb hl0,by intro z;subst z;simp at nd,by intro z;subst z;simp at nd,λz=>by rw[<- z,hm0] at gq0;cases gq0⟩;have X:jT K A H' (6+v) (λ_=>Fr 1 1) m p l b q0 us ws vs:=⟨B',u0'.2 _ I0,gm,gp,gl,lu,λx hx=>?_,?_⟩
   ·exists ⟨b,m,p,l,q0,6+v,1,λ_=>1,A,us,ws,vs,rfl,MA,X,by lia,by lia,by lia,λ_=>Nat.zero_lt_one,λ_=>cV,⟨1,λ_ _ _=>rfl⟩,by decide,λq hq=>?_,λr us' H'' g Y kp=>?_⟩
    ·exact mkA (u0'.none B' hq) (λz=>by rw[z,gm] at hq;cases hq) (λz=>by rw[z,gp] at hq;cases hq) (λz=>by rw[z,gl] at hq;cases hq)
    ·obtain ⟨mv,Gm,lmv,hmv⟩:=ki (H0:=H) (n:=6+v) (C:=Fr 1 (9^3*1)) (m:=6+v) ⟨us',Y.gm,Y.lm,MA.am,λx hx=>Y.row x (by simp [hx])⟩ λq h=>(unA h).1
     obtain ⟨pt,Gp,lpt,hpt⟩:=ki (H0:=H) (n:=6+v) (C:=Fr 1 (9^3*1)) (m:=2) ⟨ws,Y.gp,lw,MA.ap,λx hx=>Y.row x (by simp [hx])⟩ λq h=>(unA h).1
     obtain ⟨lk,Gl,llk,hlk⟩:=ki (H0:=H) (n:=6+v) (C:=Fr 1 (9^3*1)) (m:=2) ⟨vs,Y.gl,lv,MA.al,λx hx=>Y.row x (by simp [hx])⟩ λq h=>(unA h).1
     refine k r mv pt lk H'' ⟨m,p,l,g,hm0,hp0,hl0,Gm,Gp,Gl⟩ (by lia) ⟨by lia,by lia,by lia,λxs hx=>by rw[(hmv xs hx).1,lmv],λxs hx=>by rw[(hpt xs hx).1,lmv],λxs hx=>by rw[(hlk xs hx).1,lmv]⟩ (λxs hx=>(hmv xs hx).2) (λxs hx=>(hpt xs hx).2) (λxs hx=>(hlk xs hx).2) Y.bag ⟨λc' u e n1=>kp c' u (u0'.1 _ _ e n1) n1 (λz=>by have:=(unA z).1;rw[e] at this;cases this) (λz=>by rw[z,hm0] at e;cases e),λq h=>by rw[<- Inner.inj I0 h];exact Y.inn⟩
   ·have hx:∃e∈[(m,us),(p,ws),(l,vs)],x∈e.2:=by
     sleep 1
     ·sleep 1
      ·exact ⟨(m,us),by simp,hx⟩
      ·exact ⟨(l,vs),by simp,hx⟩
     ·exact ⟨(p,ws),by simp,hx⟩
    obtain ⟨e,he,hx⟩:=hx;refine (rw' e he x hx).weak (λq hq=>?_) (λ_ w=>w);obtain ⟨⟨h1,_⟩,h2⟩:=hq;have h2:q∉[m,p,l]:=h2;simp only[aN,br,or_false,not_or] at h2;exact mkA (u09.none B9 h1) h2.1 h2.2.1 h2.2.2
   ·rw[lQ] at rd
    have e:(us++vs++ws).Perm (us++(ws++vs)):=by
     rw[cP];exact List.Perm.append_left _ List.perm_append_comm
    exact e.nodup_iff.mpr rd
theorem rD:a7 ["_law_bag_here","_law_wide","_law_way"] ["_law_bag_here","_law_wide"] (aP nQ):=by walk_at "d"
theorem AQ (T:Txt K mg Z):cQ P w K mg base fI 2 Z.uA Z.ug ["_law_bag_here","_law_wide"] (Ae K):=by
 refine T.mJ.F.ok rD (λvs H Q E h=>?_) (λcdv A outer s H vs Q E hr h=>?_)
 ·obtain ⟨b,w,rfl,_⟩:=h;rfl
 ·obtain ⟨b,w,rfl,hB,w0,w1,k⟩:=h
  refine ⟨_,(av (a9 (i:=2) rD.nd rfl (Or.inl rfl) (cO (bp T) hr T.aX (ae (pv 0) (ae ar ag))))
   (av (cY (bw tP (pv 2) ar (bC _)) (aB (aW (cU (ae ar (ae ar ag))))) bW)
   (av (cY (bw tP (pv 2) ar (bC _)) (aB (aW (cU (ae (bH jA (cO (bp T) hr T.aX (ae (pv 0) (ae ar ag))) ar) (ae ar ag))))) bW)
   (av (cY (bw eO (pv 2) ar (bC _)) (aB (aW (cO (je T) hr T.gK (ae (bH jA (cO (bp T) hr T.aX (ae (pv 0) (ae ar ag))) ar) (ae (bH dR ar (cO (bp T) hr T.aX (ae (pv 0) (ae ar ag)))) ag))))) bW)
   (aB (aW (cO (je T) hr T.gK (ae (bH jA (cO (bp T) hr T.aX (ae (pv 0) (ae (bH dR (bH dw ar (pv 1)) ar) ag))) (pv 1)) (ae (bH dR ar (cO (bp T) hr T.aX (ae (pv 0) (ae (pv 1) ag)))) ag))))))))),?_⟩
  refine aS (σ:=[some (.ref b),some (.int w),none]) rfl ?_;exists ⟨b,8,rfl,hB,by decide,by decide,λv H1 v0 v1 B1 u1=>?_⟩;exists gY (λh0=>?_) (λh0=>?_)
  ·exists b7 λr H2 s2 g2=>?_
   exact k r 0 _ ⟨bu _,by show 1<=_;lia⟩ (cz.mk g2 rfl) (B1.same s2) (u1.same s2)
  exists gY (λh1=>?_) (λh1=>?_)
  ·exists ⟨b,7,rfl,B1,by decide,by decide,λa H2 a0 a1 B2 u2=>?_⟩;exists b7 λr H3 s3 g3=>?_
   exact k r ((a - 3:Int):Rat) _ ⟨by show (a - 3).natAbs<=_;lia,by show 1<=_;lia⟩ (cz.mk g3 rfl) (B2.same s3) ((u1.trans u2).same s3)
  exists gY (λh2=>?_) (λh2=>?_)
  ·exists ⟨b,13,rfl,B1,by decide,by decide,λa H2 a0 a1 B2 u2=>?_⟩;exists ⟨b,6,rfl,B2,by decide,by decide,λc H3 c0 c1 B3 u3=>?_⟩;exists ⟨_,_,rfl,by lia,(LN (by lia)).mono (by decide),λr H4 s4 g4=>?_⟩;obtain ⟨q,e,d,_⟩:=MG (t:=a - 6) (b:=1+c) (W:=max w 6) (by lia) (by lia) (by lia);exact k r q _ d (cz.mk g4 e) (B3.same s4) (((u1.trans u2).trans u3).same s4)
  exists ⟨b,_,rfl,B1,by lia,by lia,λa H2 a0 a1 B2 u2=>?_⟩;exists ⟨b,_,rfl,B2,by lia,by lia,λc H3 c0 c1 B3 u3=>?_⟩;exists ⟨_,_,rfl,by lia,(LN (by lia)).mono (by decide),λr H4 s4 g4=>?_⟩;obtain ⟨q,e,d,_⟩:=MG (t:=a - w) (b:=1+c) (W:=max w 6) (by lia) (by lia) (by lia);exact k r q _ d (cz.mk g4 e) (B3.same s4) (((u1.trans u2).trans u3).same s4)
theorem Gv:a7 ["_law_bag_here","_law_many","_law_wide"] ["_law_bag_here","_law_many","_law_wide"] (aP uM):=by walk_at "d"
theorem mW (T:Txt K mg Z):cQ P w K mg base fI 3 Z.BH Z.Bp ["_law_bag_here","_law_many","_law_wide"] (Ge K):=by
 refine T.il.F.ok Gv (λvs H Q E h=>?_) (λcdv A outer s H vs Q E hr h=>?_)
 ·obtain ⟨b,m,w,rfl,_⟩:=h;rfl
 ·obtain ⟨b,m,w,rfl,hB,hm,w0,w1,k⟩:=h;refine ⟨_,(aB (aW (cm ["_law_k"] ["_law_bag_here","_law_wide"] [0,2] (cB rfl T.range (ae (pv 1) ag)) (λ_=>(aQ (i:=0) (show ND9 ["_law_k","_law_bag_here","_law_wide"] by decide +kernel))) (λ_=>cH) (λ_=>(cO (AQ T) hr T.mJ (ae (pv 1) (ae (pv 2) ag))))))),?_⟩;refine aS (σ:=[some (.ref b),some (.int m),some (.int w)]) rfl ?_;sleep 3;refine yi (n:=m) (cz K) (Dr (max w 6)) hB hm (λa u B=>a.upto u B) ?_ ?_
  ·rintro i H' NY NN hi u B k1;exists ⟨b,w,rfl,B,w0,w1,λr x H2 hx h2 B2 u2=>k1 _ x _ u2 B2 hx h2⟩
  ·rintro ys cs H' p hp u B g lc hc pr nx;exact k p cs H' hp ⟨ys,g,pr⟩ lc hc B u
theorem jt:a7 ["_law_bag_here","_law_n","_law_way","_law_first","_law_wide","_law_move_here","_law_i","_law_row_here","_law_j"] ["_law_bag_here","_law_n","_law_way","_law_first","_law_wide"] (aP rR):=by walk_at "d"
theorem EY (T : Txt K mg Z) : cQ P w K mg base fI 4 Z.y7 Z.yJ ["_law_bag_here", "_law_n", "_law_way", "_law_first", "_law_wide"] (F2 K) := by
  have qK := mW (P := P) (w := w) (base := base) T;have ji := bp (P := P) (w := w) (base := base) T;refine T.qe.F.ok jt (λvs H Q E h => ?_) (λcdv A outer s H vs Q E hr h => ?_)
  · obtain ⟨b, n, w, way, first, rfl, _⟩ := h;rfl
  · obtain ⟨b, n, w, way, first, rfl, hB, n8, w0, w1, k⟩ := h
    refine ⟨_, (av (a9 (i := 5) jt.nd rfl (Or.inl rfl) (dG ag))
      (av (dQ PassesOwn.never rfl (cB rfl T.range (ae (pv 1) ag)) (aQ (i := 6) jt.nd)
        (av (a9 (i := 7) jt.nd rfl (Or.inl rfl) (cO qK hr T.il (ae (pv 0) (ae (pv 1) (ae (pv 4) ag)))))
      (av (dQ PassesOwn.never rfl (cB rfl T.range (ae (pv 1) ag)) (aQ (i := 8) jt.nd)
        (jd (cY (PW.pt (jw (bw eO (pv 2) ar (bC _)) (ky (bw qN (cO ji hr T.aX (ae (pv 0) (ae ar ag))) ar (bC _))))) (aB (fh (cU (ae ar (ae ar ag))) (gQ (pv 7) (pv 8) set_list))) bW)
      (jd (cY (PW.pt (jw (bw eO (pv 2) ar (bC _)) (ky (bw tP (bH dR (pv 6) ar) (pv 1) (bC _))))) (aB (fh (cU (ae (d9 lW (by rfl) T.int PyProof.Rows.boot_int (ae (ia eO (pv 8) (bH dR (pv 6) ar) (bC _)) ag)) (ae ar ag))) (gQ (pv 7) (pv 8) set_list))) bW)
      (jd (cY (PW.pt (me (PW.pt (jw (bw eO (pv 2) ar (bC _)) (jw (bw Dd (pv 6) (pv 3) (bC _)) (ky (bw tP (pv 8) (pv 3) (bC _)))))) (jv (PW.pt (jw (bw eO (pv 2) ar (bC _)) (jw (bw tP (pv 6) (pv 3) (bC _)) (ky (bw Dd (pv 8) (pv 3) (bC _))))))))) (aB (fh (cU (ae ar (ae ar ag))) (gQ (pv 7) (pv 8) set_list))) bW)
      (aB (cY (bw eO (pv 2) ar (bC _)) (aB (fh (cU (ae (bH dw (bc bX (dG (ae ar (ae ar (ae (vD oY ar) (ae ar ag))))) (bH nW (pv 3) ar)) (d9 lW (by rfl) T.int PyProof.Rows.boot_int (ae (ia eO (pv 6) (pv 8) (bC _)) ag))) (ae ar ag))) (gQ (pv 7) (pv 8) set_list))) bW))))))
      (aB (jy (yr dD dZ dX ke (pv 5) (ae (pv 7) ag)))))))
      (aB (aW (pv 5))))), ?_⟩
    refine aS (σ := [some (.ref b), some (.int n), some (.int way), some (.int first), some (.int w), none, none, none, none]) rfl ?_;have W1 : 1 ≤ max w 6 := by lia
    exists c8 λr H1 s1 n1 g1 => ?_
    have rb : r ≠ b := λz => hB.at (by rw [<- z]; exact n1)
    obtain ⟨q0, I0, xs0, gq0⟩ := hB.inner;have I1 : Inner H1 b q0 := (s1.upto (p := b)).2 _ I0;obtain ⟨A, eA⟩ : ∃ A : Addr → Prop, A = λq => H q = none /\ q ≠ r := ⟨_, rfl⟩
    have nb : ¬ A b := by rw [eA]; exact λz => hB.at z.1
    have nr : ¬ A r := by rw [eA]; exact λz => z.2 rfl
    have nq : ¬ A q0 := by rw [eA]; exact λz => by have z1 := z.1; rw [gq0] at z1; cases z1
    have rq : r ≠ q0 := λz => by rw [<- z, n1] at gq0; cases gq0
    exists ⟨by lia, by lia, ?_⟩;refine eP (n := n) (λi σ' H' => ∃ (x1 x2 x3 : Option V) (us : List V), σ' = [some (.ref b), some (.int n), some (.int way), some (.int first), some (.int w), some (.ref r), x1, x2, x3] /\ H' r = some (.lst us) /\ us.length = i /\ us.Nodup /\ (∀ x ∈ us, fX K A H' n (Dr (max w 6)) x) /\ ic H' b /\ Inner H' b q0 /\ c7 b H H') ⟨none, none, none, [], rfl, g1, rfl, nD, (λ_ z => nomatch z), hB.same s1, I1, s1.upto⟩ ?_ ?_
    · rintro i σ' H' hi ⟨x1, x2, x3, us, rfl, gu, lu, nd, ru, B', I', u'⟩;exists ⟨b, n, w, rfl, B', by lia, w0, w1, λp xs Ha np Ra la da Ba ua => ?_⟩;have hp0 : H p = none := u'.none B' np
      have pn : V.ref p ∉ us := λz => by
        obtain ⟨q', _, _, e', _, g', _⟩ := (ru _ z).at;cases e';rw [np] at g';cases g'
      have ap' : H p = none /\ p ≠ r := ⟨hp0, λz => by rw [z, gu] at np; cases np⟩;have ap : A p := by rw [eA]; exact ap'
      have X0 : Kw K A n (Dr (max w 6)) r p b q0 us H Ha := ⟨ua.other rb gu, λx hx => (ru x hx).upto ua B' nb, ⟨p, xs, rfl, ap, Ra, la, da⟩, Ba, ua.2 _ I', u'.trans ua⟩;clear ru Ra gu;exists ⟨by lia, by lia, ?_⟩;refine eP (n := n) (λj σ' H' => (∃ x3, σ' = [some (.ref b), some (.int n), some (.int way), some (.int first), some (.int w), some (.ref r), some (.int i), some (.ref p), x3]) /\ Kw K A n (Dr (max w 6)) r p b q0 us H H') ⟨⟨_, rfl⟩, X0⟩ ?_ ?_
      · rintro j σ' Hj hj ⟨⟨x3, rfl⟩, X⟩;exists ⟨λσ' H' => σ' = [some (.ref b), some (.int n), some (.int way), some (.int first), some (.int w), some (.ref r), some (.int i), some (.ref p), some (.int j)] /\ Kw K A n (Dr (max w 6)) r p b q0 us H H', ?_, ?_⟩
        · exists gY (λ_ => ?_) (λ_ => ?_)
          · exists ⟨b, 3, rfl, X.bag, by decide, by decide, λd Hd d0 d1 Bd ud => ?_⟩;replace X := X.upto ud Bd nb rb
            repeat' (first | walk_at "rd" | refine gY (λ_ => ?_) (λ_ => ?_))
            all_goals first
              | exact ⟨rfl, X⟩
              | (refine b7 λt Hb sb gb => ?_
                 walk_at "w";obtain ⟨zs, gz, lz, Xz⟩ := (X.same sb).put ap nr nb nq hp0 (cz.mk (q := 0) gb rfl) (sR (i := 0) (bu _) W1) j;refine ff gz (fE (by lia)) rfl ?_;exact ⟨rfl, Xz⟩)
          · exists ⟨rfl, X⟩
        clear X;rintro σ' Hj ⟨rfl, X⟩;refine ⟨λσ' H' => σ' = [some (.ref b), some (.int n), some (.int way), some (.int first), some (.int w), some (.ref r), some (.int i), some (.ref p), some (.int j)] /\ Kw K A n (Dr (max w 6)) r p b q0 us H H', ?_, ?_⟩
        · repeat' (first | walk_at "rd" | refine gY (λ_ => ?_) (λ_ => ?_))
          all_goals first
            | exact ⟨rfl, X⟩
            | (refine b7 λt Hb sb gb => ?_
               walk_at "w";obtain ⟨zs, gz, lz, Xz⟩ := (X.same sb).put ap nr nb nq hp0 (cz.mk (q := ((if decide ((j : Int) = (i : Int) + 1) = true then (1 : Int) else 0 : Int) : Rat)) gb rfl) (sR (by split <;> lia) W1) j;refine ff gz (fE (by lia)) rfl ?_;exact ⟨rfl, Xz⟩)
        clear X;rintro σ' Hj ⟨rfl, X⟩;refine ⟨λσ' H' => σ' = [some (.ref b), some (.int n), some (.int way), some (.int first), some (.int w), some (.ref r), some (.int i), some (.ref p), some (.int j)] /\ Kw K A n (Dr (max w 6)) r p b q0 us H H', ?_, ?_⟩
        · repeat' (first | walk_at "rd" | refine gY (λ_ => ?_) (λ_ => ?_))
          all_goals first
            | exact ⟨rfl, X⟩
            | (refine b7 λt Hb sb gb => ?_
               walk_at "w";obtain ⟨zs, gz, lz, Xz⟩ := (X.same sb).put ap nr nb nq hp0 (cz.mk (q := 0) gb rfl) (sR (i := 0) (bu _) W1) j;refine ff gz (fE (by lia)) rfl ?_;exact ⟨rfl, Xz⟩)
        clear X;rintro σ' Hj ⟨rfl, X⟩;exists gY (λ_ => ?_) (λ_ => ?_)
        · exists c8 λl0 Hc sc nc gc => ?_
          walk_at "w";obtain ⟨x, ex, mx, _⟩ := kR (xs := [V.int 2, V.int 1, V.int (-1), V.int 0]) (i := first % 4) (lS _ (by decide)) (by have := iX first (show (0 : Int) < 4 by decide); simpa using this)
          obtain ⟨z, rfl, hz⟩ : ∃ z : Int, x = .int z /\ z.natAbs ≤ 2 := by
            simp only [aN, br, or_false] at mx;rcases mx with rfl | rfl | rfl | rfl
            · exact ⟨2, rfl, by decide⟩
            · exact ⟨1, rfl, by decide⟩
            · exact ⟨-1, rfl, by decide⟩
            · exact ⟨0, rfl, by decide⟩
          refine cN (bR.of gc) ex ?_;exists gP (Fs (by lia) (by lia)) ?_;exists b7 λt Hb sb gb => ?_
          walk_at "w";obtain ⟨zs, gz, lz, Xz⟩ := ((X.same sc).same sb).put ap nr nb nq hp0 (cz.mk (q := ((z * (if decide ((i : Int) = (j : Int)) = true then (1 : Int) else 0) : Int) : Rat)) gb rfl) (sR (by split <;> lia) W1) j;refine ff gz (fE (by lia)) rfl ?_;exact ⟨⟨_, rfl⟩, Xz⟩
        · exists ⟨⟨_, rfl⟩, X⟩
      · rintro σ' Hj ⟨⟨x3, rfl⟩, X⟩;exists ⟨.inl ⟨rfl, _, bR.of X.gr⟩, ?_⟩;exists j8 X.gr (bF (by lia)) ?_;refine ⟨_, _, _, us ++ [.ref p], rfl, aO, by simp [lu], pW nd pn, λx hx => ?_, X.bag.upd X.inn rb rq, X.inn.upd rb, X.up.after n1⟩;sleep 1
        · exact (X.ru x hx).other X.gr nr
        · have e : x = V.ref p := by simpa using hx
          rw [e]; exact X.rp.other X.gr nr
    · rintro σ' H' ⟨x1, x2, x3, us, rfl, gu, lu, nd, ru, B', I', u'⟩;exists k r us H' n1 gu lu nd (by rw [eA] at ru; exact ru) B' u'
theorem eD:a7 ["_law_bag_here","_law_n","_law_ins","_law_outs","_law_wide","_law_way","_law_first","_law_move_here","_law_put","_law_look","_law_k","_law_row_here"] ["_law_bag_here","_law_n","_law_ins","_law_outs","_law_wide"] (aP pJ):=by walk_at "d"
theorem Ci (T : Txt K mg Z) : cQ P w K mg base fI 5 Z.w5 Z.wB ["_law_bag_here", "_law_n", "_law_ins", "_law_outs", "_law_wide"] (CH K) := by
  have ji := bp (P := P) (w := w) (base := base) T;have Ig := EY (P := P) (w := w) (base := base) T;have qK := mW (P := P) (w := w) (base := base) T;have FC := tT (P := P) (w := w) (base := base) T;refine T.oo.F.ok eD (λvs H Q E h => ?_) (λcdv A outer s H vs Q E hr h => ?_)
  · obtain ⟨b, n, i, o, w, c, rfl, _⟩ := h;rfl
  · obtain ⟨b, n, i, o, w, c, rfl, hB, n8, i4, o4, w0, w1, hc, hc20, hcM, k⟩ := h
    refine ⟨_, (av (a9 (i := 5) eD.nd rfl (Or.inl rfl) (cO ji hr T.aX (ae (pv 0) (ae ar ag))))
      (av (a9 (i := 6) eD.nd rfl (Or.inl rfl) (cO ji hr T.aX (ae (pv 0) (ae (bH dR (pv 1) ar) ag))))
      (av (a9 (i := 7) eD.nd rfl (Or.inl rfl) (cO Ig hr T.qe (ae (pv 0) (ae (pv 1) (ae (pv 5) (ae (pv 6) (ae (pv 4) ag)))))))
      (av (kB 8 ["_law_k"] ["_law_bag_here", "_law_n", "_law_wide"] [0, 1, 4] eD.nd rfl rfl (cB rfl T.range (ae (pv 2) ag)) (λ_ => (aQ (i := 0) (show List.Nodup (α := PySem.Str) ["_law_k", "_law_bag_here", "_law_n", "_law_wide"] by decide +kernel))) (λ_ => cH) (λ_ => (cO qK hr T.il (ae (pv 1) (ae (pv 2) (ae (pv 3) ag))))))
      (av (kB 9 ["_law_k"] ["_law_bag_here", "_law_n", "_law_wide"] [0, 1, 4] eD.nd rfl rfl (cB rfl T.range (ae (pv 3) ag)) (λ_ => (aQ (i := 0) (show List.Nodup (α := PySem.Str) ["_law_k", "_law_bag_here", "_law_n", "_law_wide"] by decide +kernel))) (λ_ => cH) (λ_ => (cO qK hr T.il (ae (pv 1) (ae (pv 2) (ae (pv 3) ag))))))
      (av (dQ PassesOwn.never rfl (cB rfl T.range (ae (pv 1) ag)) (aQ (i := 10) eD.nd)
        (av (dQ PassesOwn.never rfl (cM (pv 8)) (aQ (i := 11) eD.nd)
        (aB (cY (PW.pt (me (PW.pt (jw (bw eO (pv 5) ar (bC _)) (ky (bw Dd (pv 10) (pv 6) (bC _))))) (jv (PW.pt (jw (bw eO (pv 5) ar (bC _)) (jw (bw tP (bH dR (pv 10) ar) (pv 1) (bC _)) (ky (bw eO (cO ji hr T.aX (ae (pv 0) (ae ar ag))) ar (bC _))))))))) (aB (fh (cU (ae ar (ae ar ag))) (gQ (pv 11) (pv 10) set_list))) bW)))
      (aB (dQ PassesOwn.never rfl (cM (pv 9)) (aQ (i := 11) eD.nd)
        (aB (cY (PW.pt (me (PW.pt (jw (bw eO (pv 5) ar (bC _)) (ky (bw Dd (pv 10) (pv 6) (bC _))))) (jv (PW.pt (jw (bw eO (pv 5) ar (bC _)) (jw (bw qN (pv 10) ar (bC _)) (ky (bw eO (cO ji hr T.aX (ae (pv 0) (ae ar ag))) ar (bC _))))))))) (aB (fh (cU (ae ar (ae ar ag))) (gQ (pv 11) (pv 10) set_list))) bW))))))
      (aB (aW (cO FC hr T.kG (ae (pv 0) (ae (pv 7) (ae (pv 8) (ae (pv 9) ag))))))))))))), ?_⟩
    refine aS (σ := [some (.ref b), some (.int n), some (.int i), some (.int o), some (.int w), none, none, none, none, none, none, none]) rfl ?_;have W1 : 1 ≤ max w 6 := by lia
    obtain ⟨q0, I0, xs0, gq0⟩ := hB.inner;exists ⟨b, 6, rfl, hB, by decide, by decide, λway H1 a0 a1 B1 u1 => ?_⟩;exists ⟨b, _, rfl, B1, by lia, by lia, λfirst H2 f0 f1 B2 u2 => ?_⟩;have u02 := u1.trans u2;exists ⟨b, n, w, way, first, rfl, B2, n8, w0, w1, λm us H3 nm0 gm lm ndm rm B3 u3 => ?_⟩;have u03 := u02.trans u3;exists ⟨by lia, by lia, ?_⟩;refine DL (n := i) (b := b) (di K H3) (λxs => xs.length = n /\ ∀ x ∈ xs, Dr (max w 6) x) B3 (by lia) (λa u B => a.upto u B B3.at) (λ⟨q, e, _, _, g, _⟩ => ⟨q, e, by rw [g]; exact λz => nomatch z⟩) ?_ ?_
    · rintro s H' NY NN hi u B k1;exists ⟨b, n, w, rfl, B, by lia, w0, w1, λr xs H2 nr R lx dx B2 u2 => k1 _ xs _ u2 B2 ⟨lx, dx⟩ ⟨r, rfl, u.none B nr, R⟩ ⟨r, rfl, nr⟩⟩
    rintro ws puts H4 p np u4 B4 gp lp ndp hp pr4 nx4;have u04 := u03.trans u4;exists ⟨by lia, by lia, ?_⟩;refine DL (n := o) (b := b) (di K H4) (λxs => xs.length = n /\ ∀ x ∈ xs, Dr (max w 6) x) B4 (by lia) (λa u B => a.upto u B B4.at) (λ⟨q, e, _, _, g, _⟩ => ⟨q, e, by rw [g]; exact λz => nomatch z⟩) ?_ ?_
    · rintro s H' NY NN hi u B k1;exists ⟨b, n, w, rfl, B, by lia, w0, w1, λr xs H2 nr R lx dx B2 u2 => k1 _ xs _ u2 B2 ⟨lx, dx⟩ ⟨r, rfl, u.none B nr, R⟩ ⟨r, rfl, nr⟩⟩
    rintro vs looks H5 l nl u5 B5 gl ll ndl hl pr5 nx5;have u05 := u04.trans u5;have hm0 : H m = none := u02.none B2 nm0;have hp0 : H p = none := u03.none B3 np;have hl0 : H l = none := u04.none B4 nl;have mb : m ≠ b := λz => B2.at (by rw [<- z]; exact nm0)
    have pb : p ≠ b := λz => B3.at (by rw [<- z]; exact np)
    have lb : l ≠ b := λz => B4.at (by rw [<- z]; exact nl)
    have gm4 := u4.other mb gm;have gm5 := u5.other mb gm4;have gp5 := u5.other pb gp;have mp : m ≠ p := λz => by rw [z, np] at gm; cases gm
    have ml : m ≠ l := λz => by rw [z, nl] at gm4; cases gm4
    have pl : p ≠ l := λz => by rw [z, nl] at gp; cases gp
    have mq : m ≠ q0 := λz => Inner.at B2 (u02.2 _ I0) (by rw [<- z]; exact nm0)
    obtain ⟨A, eA⟩ : ∃ A : Addr → Prop, A = λq => H q = none /\ q ≠ m /\ q ≠ p /\ q ≠ l := ⟨_, rfl⟩
    have mkA : ∀ {q}, H q = none → q ≠ m → q ≠ p → q ≠ l → A q := λh1 h2 h3 h4 => by rw [eA]; exact ⟨h1, h2, h3, h4⟩
    have unA : ∀ {q}, A q → H q = none /\ q ≠ m /\ q ≠ p /\ q ≠ l := λh => by rw [eA] at h; exact h
    have MA : Ie A m p l b q0 := ⟨λz => (unA z).2.1 rfl, λz => (unA z).2.2.1 rfl, λz => (unA z).2.2.2 rfl, λz => hB.at (unA z).1, (λz => by have z1 := (unA z).1; rw [gq0] at z1; cases z1), mb, pb, lb, mp, ml, mq⟩;clear eA;have lws : ws.length = i := by rw [<- pr4.length]; exact lp
    have lvs : vs.length = o := by rw [<- pr5.length]; exact ll
    have alM : ∀ q, V.ref q ∈ us → H3 q ≠ none /\ q ≠ b /\ H4 q ≠ none := λq hq => by
      obtain ⟨q', qs, e, ⟨a1, a2⟩, r, z⟩ := rm _ hq;cases e;have qb : q ≠ b := λy => B2.at (by rw [<- y]; exact a1)
      obtain ⟨xq, gq, _⟩ := id r;obtain ⟨xq4, gq4, _⟩ := r.upto u4 B3 qb;exact ⟨(by rw [gq]; exact λz => nomatch z), qb, (by rw [gq4]; exact λz => nomatch z)⟩
    have alP : ∀ q, V.ref q ∈ ws → H3 q = none /\ H4 q ≠ none := λq hq => by
      obtain ⟨_, _, q', e, a, _, g, _⟩ := dh pr4 hq;cases e;exact ⟨a, by rw [g]; exact λz => nomatch z⟩
    have alL : ∀ q, V.ref q ∈ vs → H4 q = none := λq hq => by
      obtain ⟨_, _, q', e, a, _⟩ := dh pr5 hq;cases e;exact a
    have isR : ∀ x, x ∈ us \/ x ∈ ws \/ x ∈ vs → ∃ q, x = V.ref q := λx hx => by
      rcases hx with hx | hx | hx
      · obtain ⟨q, _, e, _⟩ := rm x hx; exact ⟨q, e⟩
      · obtain ⟨_, _, q, e, _⟩ := dh pr4 hx; exact ⟨q, e⟩
      · obtain ⟨_, _, q, e, _⟩ := dh pr5 hx; exact ⟨q, e⟩
    have nd : (us ++ vs ++ ws).Nodup := by
      refine dU.mpr ⟨dU.mpr ⟨ndm, ndl, λx hx y hy e => ?_⟩, ndp, λx hx y hy e => ?_⟩
      · subst e;obtain ⟨q, rfl⟩ := isR x (.inl hx);exact (alM q hx).2.2 (alL q hy)
      · subst e;obtain ⟨q, rfl⟩ := isR x (.inr (.inl hy));sleep 1
        · exact (alM q hx).1 (alP q hy).1
        · exact (alP q hy).2 (alL q hx)
    have X5 : Jv K A n (Dr (max w 6)) m p l b q0 us ws vs H H5 := by
      refine ⟨⟨B5, u05.2 _ I0, gm5, gp5, gl, lm, λx hx => ?_, nd⟩, gp5, gl, λc u e n1 _ _ => u05.1 c u e n1⟩;sleep 1
      · sleep 1
        · obtain ⟨q, qs, e, ⟨a1, a2⟩, r, z⟩ := rm x hx;obtain ⟨xq, gq, _⟩ := id r;have qb : q ≠ b := λy => B2.at (by rw [<- y]; exact a1)
          have r4 := r.upto u4 B3 qb;obtain ⟨xq4, gq4, _⟩ := id r4;exact ⟨q, qs, e, mkA (u02.none B2 a1) a2 (λy => by rw [y, np] at gq; cases gq) (λy => by rw [y, nl] at gq4; cases gq4), r4.upto u5 B4 qb, z⟩
        · refine L7 (A := A) pr5 hl (λq hq a b' => ?_) x hx;exact mkA (u04.none B4 a) (λy => by rw [y, gm4] at a; cases a) (λy => by rw [y, gp] at a; cases a) (λy => jD nx5 (by rw [<- y]; exact hq))
      · refine fX.upto (L7 (A := A) pr4 hp (λq hq a b' => ?_) x hx) u5 B4 MA.ab;exact mkA (u03.none B3 a) (λy => by rw [y, gm] at a; cases a) (λy => jD nx4 (by rw [<- y]; exact hq)) (λy => b' (by rw [y]; exact nl))
    clear alM alP alL isR rm pr4 pr5 nx4 nx5 gm gm4 gm5 gp gp5 gl hp hl;exists ⟨by lia, by lia, ?_⟩;refine eP (n := n) (λkk σ' H' => (∃ x1 x2, σ' = [some (.ref b), some (.int n), some (.int i), some (.int o), some (.int w), some (.int way), some (.int first), some (.ref m), some (.ref p), some (.ref l), x1, x2]) /\ Jv K A n (Dr (max w 6)) m p l b q0 us ws vs H H') ⟨⟨_, _, rfl⟩, X5⟩ ?_ ?_
    · rintro kk σ' Hj hk ⟨⟨x1, x2, rfl⟩, X⟩;exists ⟨⟨_, bR.of X.gp⟩, ?_⟩;refine gV (K := K) (a := p) (xs := ws) (λs σ' H' => (∃ x2, σ' = [some (.ref b), some (.int n), some (.int i), some (.int o), some (.int w), some (.int way), some (.int first), some (.ref m), some (.ref p), some (.ref l), some (.int kk), x2]) /\ Jv K A n (Dr (max w 6)) m p l b q0 us ws vs H H') ⟨⟨_, rfl⟩, X⟩ (λs σ' H' _ ⟨_, e⟩ => bR.of e.gp) ?_ ?_
      · rintro s x σ' Hk hx ⟨⟨y2, rfl⟩, X⟩;have mx := ay hx;obtain ⟨q, _, rfl, _⟩ := X.row (.inl mx)
        repeat' (first | walk_at "rd" | refine gY (λ_ => ?_) (λ_ => ?_))
        all_goals first
          | exact ⟨⟨_, rfl⟩, X⟩
          | (refine b7 λt Hb sb gb => ?_
             walk_at "w";obtain ⟨zs, gz, lz, Xz⟩ := (X.same sb).put MA (.inl mx) (cz.mk (q := 0) gb rfl) (sR (i := 0) (bu _) W1) kk;refine ff gz (fE (by lia)) rfl ?_;exact ⟨⟨_, rfl⟩, Xz⟩)
          | (refine ⟨b, 2, rfl, X.mix.bag, by decide, by decide, λd Hd d0 d1 Bd ud => ?_⟩
             replace X := X.upto MA ud Bd
             repeat' (first | walk_at "rd" | refine gY (λ_ => ?_) (λ_ => ?_))
             all_goals first
               | exact ⟨⟨_, rfl⟩, X⟩
               | (refine b7 λt Hb sb gb => ?_
                  walk_at "w";obtain ⟨zs, gz, lz, Xz⟩ := (X.same sb).put MA (.inl mx) (cz.mk (q := 0) gb rfl) (sR (i := 0) (bu _) W1) kk;refine ff gz (fE (by lia)) rfl ?_;exact ⟨⟨_, rfl⟩, Xz⟩))
      · rintro σ' Hk ⟨⟨y2, rfl⟩, X⟩;exists ⟨⟨_, bR.of X.gl⟩, ?_⟩;refine gV (K := K) (a := l) (xs := vs) (λs σ' H' => (∃ x2, σ' = [some (.ref b), some (.int n), some (.int i), some (.int o), some (.int w), some (.int way), some (.int first), some (.ref m), some (.ref p), some (.ref l), some (.int kk), x2]) /\ Jv K A n (Dr (max w 6)) m p l b q0 us ws vs H H') ⟨⟨_, rfl⟩, X⟩ (λs σ' H' _ ⟨_, e⟩ => bR.of e.gl) ?_ ?_
        · rintro s x σ' Hk hx ⟨⟨y2, rfl⟩, X⟩;have mx := ay hx;obtain ⟨q, _, rfl, _⟩ := X.row (.inr mx)
          repeat' (first | walk_at "rd" | refine gY (λ_ => ?_) (λ_ => ?_))
          all_goals first
            | exact ⟨⟨_, rfl⟩, X⟩
            | (refine b7 λt Hb sb gb => ?_
               walk_at "w";obtain ⟨zs, gz, lz, Xz⟩ := (X.same sb).put MA (.inr mx) (cz.mk (q := 0) gb rfl) (sR (i := 0) (bu _) W1) kk;refine ff gz (fE (by lia)) rfl ?_;exact ⟨⟨_, rfl⟩, Xz⟩)
            | (refine ⟨b, 2, rfl, X.mix.bag, by decide, by decide, λd Hd d0 d1 Bd ud => ?_⟩
               replace X := X.upto MA ud Bd
               repeat' (first | walk_at "rd" | refine gY (λ_ => ?_) (λ_ => ?_))
               all_goals first
                 | exact ⟨⟨_, rfl⟩, X⟩
                 | (refine b7 λt Hb sb gb => ?_
                    walk_at "w";obtain ⟨zs, gz, lz, Xz⟩ := (X.same sb).put MA (.inr mx) (cz.mk (q := 0) gb rfl) (sR (i := 0) (bu _) W1) kk;refine ff gz (fE (by lia)) rfl ?_;exact ⟨⟨_, rfl⟩, Xz⟩))
        · rintro σ' Hk ⟨⟨y2, rfl⟩, X⟩;exact ⟨⟨_, _, rfl⟩, X⟩
    · rintro σ' Hj ⟨⟨x1, x2, rfl⟩, X⟩
      obtain ⟨M1, M2, M3, V0, a1, a2, a3, V2, hcs, R1, R2, R3⟩ : ∃ M1 M2 M3 V0 : Nat, (0 < M1 /\ M1 ≤ 2 ^ 800) /\ (0 < M2 /\ M2 ≤ 2 ^ 800) /\ (0 < M3 /\ M3 ≤ 2 ^ 800) /\ V0 ≤ 2 ^ 20 /\ ((w ≤ 9 /\ M1 = 2520 /\ M2 = 2520 /\ M3 = 2520 /\ V0 = 9) \/ (9 < w /\ M1 ≤ 2 ^ (c * (n * n)) /\ M2 ≤ 2 ^ (c * (i * n)) /\ M3 ≤ 2 ^ (c * (o * n)) /\ V0 = 2 ^ c)) /\ (∀ x ∈ us, fX K A Hj n (Fr M1 V0) x) /\ (∀ x ∈ ws, fX K A Hj n (Fr M2 V0) x) /\ ∀ x ∈ vs, fX K A Hj n (Fr M3 V0) x := by
        by_cases w9 : w ≤ 9
        · have XM := X.mix.weak (C' := λ_ => Fr 2520 9) λ_ _ y h => Fp ⟨ai h.1 (by lia), ai h.2 (by lia)⟩ (iW _)
          have z : 0 < 2520 /\ 2520 ≤ 2 ^ 800 := ⟨by decide, ai (show 2520 ≤ 2 ^ 12 by decide) (ax (by decide) (by decide))⟩;exact ⟨2520, 2520, 2520, 9, z, z, z, by decide, .inl ⟨w9, rfl, rfl, rfl, rfl⟩, λx hx => XM.row x (by simp [hx]), λx hx => XM.row x (by simp [hx]), λx hx => XM.row x (by simp [hx])⟩
        · obtain ⟨M1, M2, M3, a1, a2, a3, b1, b2, b3, R1, R2, R3⟩ := (X.mix.weak (C' := λ_ => Dr (2 ^ c)) λ_ _ y h => ⟨ai h.1 hc, ai h.2 hc⟩).fr3;rw [lws] at b2;rw [lvs] at b3;have up : ∀ {M k : Nat}, M ≤ 2 ^ (c * k) → k ≤ (n + i + o) * n → M ≤ 2 ^ 800 := λh hk => ai h (ax (by decide) (ai (aM _ hk) hcM))
          exact ⟨M1, M2, M3, 2 ^ c, ⟨a1, up b1 (az _ (by lia))⟩, ⟨a2, up b2 (az _ (by lia))⟩, ⟨a3, up b3 (az _ (by lia))⟩, ax (by decide) hc20, .inr ⟨by lia, b1, b2, b3, rfl⟩, R1, R2, R3⟩
      obtain ⟨μ, e2, e3, e1, e4⟩ := Mz ws vs M1 M2 M3;obtain ⟨ap1, ap2⟩ := X.mix.apart
      have XM : jT K A Hj n (λx => Fr (μ x) V0) m p l b q0 us ws vs := by
        refine ⟨X.mix.bag, X.mix.inn, X.mix.gm, X.mix.gp, X.mix.gl, X.mix.lm, λx hx => ?_, X.mix.nd⟩;sleep 1
        · sleep 1
          · rw [e1 x (ap1 x hx).1 (ap1 x hx).2]; exact R1 x hx
          · rw [e3 x hx (ap2 x hx)]; exact R3 x hx
        · rw [e2 x hx]; exact R2 x hx
      have p1 : ∀ x, 0 < μ x := λx => by
        rcases e4 x with e | e | e
        · rw [e]; exact a1.1
        · rw [e]; exact a2.1
        · rw [e]; exact a3.1
      have p2 : ∀ x, μ x ≤ 2 ^ 800 := λx => by
        rcases e4 x with e | e | e
        · rw [e]; exact a1.2
        · rw [e]; exact a2.2
        · rw [e]; exact a3.2
      have gmj := X.mix.gm;exists ⟨b, m, p, l, q0, n, V0, μ, A, us, ws, vs, rfl, MA, XM, n8, by lia, by lia, p1, p2, ⟨M1, e1⟩, V2, λq hq => ?_, λr us' H' g Y kp => ?_⟩
      · refine mkA ?_ (λz => by rw [z, gmj] at hq; cases hq) (λz => by rw [z, X.gp] at hq; cases hq) (λz => by rw [z, X.gl] at hq; cases hq);cases e : H q with
        | none => rfl
        | some u =>
          have := X.kp q u e (λz => X.mix.bag.at (by rw [<- z]; exact hq)) (λz => by have := (unA z).1; rw [e] at this; cases this) (λz => by rw [z, hm0] at e; cases e);rw [hq] at this; cases this
      · obtain ⟨yp1, yp2⟩ := Y.apart;obtain ⟨mv, Gm, lmv, hmv⟩ := ki (H0 := H) (n := n) (C := Fr M1 (9 ^ 3 * V0)) (m := n) ⟨us', Y.gm, Y.lm, MA.am, λx hx => by have := Y.row x (by simp [hx]); rwa [e1 x (yp1 x hx).1 (yp1 x hx).2] at this⟩ λq h => (unA h).1
        obtain ⟨pt, Gp, lpt, hpt⟩ := ki (H0 := H) (n := n) (C := Fr M2 (9 ^ 3 * V0)) (m := i) ⟨ws, Y.gp, lws, MA.ap, λx hx => by have := Y.row x (by simp [hx]); rwa [e2 x hx] at this⟩ λq h => (unA h).1
        obtain ⟨lk, Gl, llk, hlk⟩ := ki (H0 := H) (n := n) (C := Fr M3 (9 ^ 3 * V0)) (m := o) ⟨vs, Y.gl, lvs, MA.al, λx hx => by have := Y.row x (by simp [hx]); rwa [e3 x hx (yp2 x hx)] at this⟩ λq h => (unA h).1
        refine k r mv pt lk H' ⟨m, p, l, g, hm0, hp0, hl0, Gm, Gp, Gl⟩ lmv lpt llk ⟨by lia, by lia, by lia, λxs hx => by rw [(hmv xs hx).1, lmv], λxs hx => by rw [(hpt xs hx).1, lmv], λxs hx => by rw [(hlk xs hx).1, lmv]⟩ ⟨M1, M2, M3, 9 ^ 3 * V0, a1.1, a2.1, a3.1, λxs hx => (hmv xs hx).2, λxs hx => (hpt xs hx).2, λxs hx => (hlk xs hx).2, ?_⟩ Y.bag ⟨λc' u e n1 => (X.kp.trans kp) c' u e n1 (λz => by have := (unA z).1; rw [e] at this; cases this) (λz => by rw [z, hm0] at e; cases e), λq h => by rw [<- Inner.inj I0 h]; exact Y.inn⟩;rcases hcs with ⟨b1, b2, b3, b4, b5⟩ | ⟨b1, b2, b3, b4, b5⟩
        · exact .inl ⟨b1, b2, b3, b4, by rw [b5]⟩
        · exact .inr ⟨b1, b2, b3, b4, by rw [b5]⟩
theorem ie:a7 ["_law_bag_here","_law_n","_law_ins","_law_outs","_law_wide"] ["_law_bag_here"] (aP nO):=by walk_at "d"
theorem AN (T:Txt K mg Z):cQ P w K mg base fI 6 Z.uw Z.ue ["_law_bag_here"] (NS K):=by
 refine T.mG.F.ok ie (λvs H Q E h=>?_) (λcdv A outer s H vs Q E hr h=>?_)
 ·obtain ⟨b,rfl,_⟩:=h;rfl
 ·obtain ⟨b,rfl,hB,k⟩:=h
  refine ⟨_,(av (fh (cO (Cg T) hr T.oj (ae (pv 0) ag)) (pS rfl (cC (aQ (i:=1) ie.nd) (cC (aQ (i:=2) ie.nd) (cC (aQ (i:=3) ie.nd) (cC (aQ (i:=4) ie.nd) fY))))))
   (av (cY (bw eO (cO (bp T) hr T.aX (ae (pv 0) (ae ar ag))) ar (bC _)) (av (cY (bw eO (cO (bp T) hr T.aX (ae (pv 0) (ae ar ag))) ar (bC _)) (aB (aW (cU (ae (cO (vF T) hr T.jK (ae (pv 0) ag)) (ae ar ag))))) bW)
   (aB (aW (cU (ae (cO (pU T) hr T.jL (ae (pv 0) (ae (bH dR ar (cO (bp T) hr T.aX (ae (pv 0) (ae ar ag)))) ag))) (ae ar ag)))))) bW)
   (aB (aW (cU (ae (cO (Ci T) hr T.oo (ae (pv 0) (ae (pv 1) (ae (pv 2) (ae (pv 3) (ae (pv 4) ag)))))) (ae (bJ (oK rfl) (by rfl) T.min PyProof.Rows.boot_min (ae (pv 4) (ae ar ag))) ag))))))),?_⟩
  refine aS (σ:=[some (.ref b),none,none,none,none]) rfl ?_;have sf:∀{mv pt lk:LR9} {M V1:Nat},0 < M->M<=2^400->V1<=2^30->GF M V1 mv->GF M V1 pt->GF M V1 lk->Ku mv pt lk:=λh0 h1 h2 a b c=>⟨_,_,h0,h1,ai h2 (ax (by decide) (by decide)),a,b,c⟩
  exists ⟨b,rfl,hB,λr n i o w H1 g1 n5 i4 o4 hw h5 B1 u1=>?_⟩;exists ⟨b,16,rfl,B1,by decide,by decide,λv H2 v0 v1 B2 u2=>?_⟩;have u02:=u1.trans u2;exists gY (λh0=>?_) (λh0=>?_)
  ·exists ⟨b,2,rfl,B2,by decide,by decide,λv2 H3 _ _ B3 u3=>?_⟩;have u03:=u02.trans u3;exists gY (λh1=>?_) (λh1=>?_)
   ·exists ⟨b,rfl,B3,λr4 mv pt lk H4 P4 l6 D fm fp fl B4 u4=>?_⟩;exists b7 λt H5 s5 g5=>?_
    exact k t r4 4 0 13 mv pt lk H5 g5 ((P4.weak λq h=>u03.none B3 h).same s5) D (sf (by decide) cV (by decide) fm fp fl) (iT (n0:=8) (by decide) (by decide) D.n8 (by decide) fm fp (by decide)) (.inl ⟨by decide,by decide,by decide,by decide,by decide,fm,fp,ai (az _ (show mv.length+4<=12 by have:=D.n8;lia)) (by decide)⟩) (by decide) (by decide) (B4.same s5) ((u03.trans u4).same s5)
   ·exists ⟨b,3,rfl,B3,by decide,by decide,λv3 H4 v30 v31 B4 u4=>?_⟩;obtain ⟨v3,rfl⟩:=bY v30;have u04:=u03.trans u4;walk_at "w";rw[show ((6:Int)+(v3:Int))=((6+v3:Nat):Int) by lia];refine ⟨b,6+v3,rfl,B4,by lia,by lia,λr4 mv pt lk H5 P5 lm _ _ D fm fp fl B5 u5=>?_⟩;exists b7 λt H6 s6 g6=>?_
    exact k t r4 4 0 4 mv pt lk H6 g6 ((P5.weak λq h=>u04.none B4 h).same s6) D (sf (by decide) cV (by decide) fm fp fl) (iT (n0:=8) (by decide) (by decide) D.n8 (by decide) fm fp (by decide)) (.inl ⟨by decide,by decide,by decide,by decide,by decide,(λxs hx x hx'=>(fm xs hx x hx').mono (by decide)),(λxs hx x hx'=>(fp xs hx x hx').mono (by decide)),ai (az _ (show mv.length+4<=12 by have:=D.n8;lia)) (by decide)⟩) (by decide) (by decide) (B5.same s6) ((u04.trans u5).same s6)
  ·obtain ⟨c,hc,hc20,hcM⟩:∃c:Nat,max w 6<=2^c/\c<=20/\c*((n+i+o)*n)<=800/\(9 < w->c=20/\(n+i+o)*n<=20/\n<=2):=by
    have m1:(n+i+o)*n<=13*5:=aK (by lia) n5;rcases hw with rfl | rfl | ⟨rfl,n2⟩
    ·exact ⟨4,by decide,by decide,by lia,λz=>by lia⟩
    ·exact ⟨4,by decide,by decide,by lia,λz=>by lia⟩
    ·have m2:(n+i+o)*n<=10*2:=aK (by lia) n2;exact ⟨20,by decide,by decide,by lia,λ_=>⟨rfl,by lia,n2⟩⟩
   obtain ⟨hcM,hbig⟩:=hcM;exists ⟨b,n,i,o,w,c,rfl,B2,by lia,i4,o4,by lia,by lia,hc,hc20,hcM,λr4 mv pt lk H4 P4 lm lp ll D PF B4 u4=>?_⟩;have hmin:(if (1000:Int) < (w:Int) then (1000:Int) else (w:Int))=((min w 1000:Nat):Int):=by split <;> lia
   have PG:=PF;obtain ⟨M,V1,M0,fm,fp,fl,hcs⟩:=PF.n
   obtain ⟨a',c',KF,SF⟩:∃a' c',iM mv pt a' c'/\Ku mv pt lk:=by
    rcases hcs with ⟨w9,rfl,rfl⟩ | ⟨w9,M1,rfl⟩
    ·exact ⟨12,16,iT (n0:=5) (by decide) (by decide) (by lia) (by decide) fm fp (by decide),sf (by decide) (ai (show 2520<=2^12 by decide) (ax (by decide) (by decide))) (by decide) fm fp fl⟩
    ·obtain ⟨rfl,e1,e2⟩:=hbig w9;have M4:M<=2^400:=ai M1 (ax (by decide) (by lia));exact ⟨400,32,iT (n0:=2) M0 M4 (by lia) (by decide) fm fp (by decide),sf M0 M4 (by decide) fm fp fl⟩
   have RG:Rg mv pt (min w 1000):=by
    obtain ⟨M1,M2,M3,V1,a1,a2,a3,f1,f2,f3,hc'⟩:=PG;rcases hc' with ⟨w9,rfl,rfl,_,rfl⟩ | ⟨w9,b1,b2,_,rfl⟩
    ·exact .inr (.inl ⟨by lia,by lia,by decide,by decide,by decide,by decide,f1,f2,ai (az _ (show mv.length+4<=9 by lia)) (by decide)⟩)
    ·obtain ⟨rfl,e1,e2⟩:=hbig w9;have q1:n*n<=2*2:=aK e2 e2;have q2:i*n<=4*2:=aK i4 e2;have w6:w=1000000:=by lia
     exact .inr (.inr ⟨by lia,by lia,M1,M2,a1,a2,ai b1 (ax (by decide) (by lia)),ai b2 (ax (by decide) (by lia)),f1,f2,ai (az _ (show mv.length+4<=6 by lia)) (by decide)⟩)
   exists b7 λt H5 s5 g5=>?_
   rw[hmin] at g5;exact k t r4 (min w 1000) a' c' mv pt lk H5 g5 ((P4.weak λq h=>u02.none B2 h).same s5) D SF KF RG (by lia) (by lia) (B4.same s5) ((u02.trans u4).same s5)
theorem Eu:a7 ["thing","at","most"] ["thing","at","most"] (aP rE):=by walk_at "d"
theorem pT (T:Txt K mg Z):cQ P w K mg base fI 1 Z.yP Z.yy ["thing","at","most"] JH:=by
 refine T.jF.F.ok Eu (λvs H Q E h=>?_) (λcdv A outer s H vs Q E hr h=>?_)
 ·obtain ⟨p,xs,a,m,rfl,_⟩:=h;rfl
 ·obtain ⟨p,xs,a,m,rfl,gx,hm,k⟩:=h
  refine ⟨_,(av (cY (j9 (jx (xV rfl T.isinstance PyProof.Rows.boot_list T.list (pv 0)))) (aB Ml) bW)
   (aB (cY (bw qN (bJ bx (by rfl) T.len bg (ae (pv 0) ag)) (pv 2) (bC _)) (aB Ml) bW))),?_⟩
  refine aS (σ:=[some (.ref p),some (.int a),some (.int m)]) rfl ?_;exists ⟨_,_,.lst gx,rfl,?_⟩;exists ⟨_,_,rfl,.inl (bR.of gx),?_⟩;walk_at "w";rw[decide_eq_false (show ¬m < (xs.length:Int) by lia)];exists k
theorem Gn:a7 ["thing"] ["thing"] (aP uK):=by walk_at "d"
theorem yu (T:Txt K mg Z):cQ P w K mg base fI 1 Z.BF Z.Bn ["thing"] KI:=by
 refine T.mX.F.ok Gn (λvs H Q E h=>?_) (λcdv A outer s H vs Q E hr h=>?_)
 ·obtain ⟨i,rfl,_⟩:=h;rfl
 ·obtain ⟨i,rfl,k⟩:=h;refine ⟨_,(aB (aW (EO (xV rfl T.isinstance PyProof.Rows.boot_int T.int (pv 0)) (EM (QY (xV rfl T.isinstance PyProof.Rows.boot_bool T.bool (pv 0))))))),?_⟩;refine aS (σ:=[some (.int i)]) rfl ?_;exists ⟨_,_,.int i,rfl,?_⟩;exists ⟨_,_,.int i,rfl,?_⟩;exists k
theorem hZ:a7 ["one","other","rest"] ["one","other"] (aP j5):=by walk_at "d"
theorem jC (T:Txt K mg Z):cQ P w K mg base fI 1 Z.oN Z.oH ["one","other"] So:=by
 refine T.fK.F.ok hZ (λvs H Q E h=>?_) (λcdv A outer s H vs Q E hr h=>?_)
 ·obtain ⟨a,b,rfl,_⟩:=h;rfl
 ·obtain ⟨a,b,rfl,k⟩:=h
  refine ⟨_,(av (AB PassesOwn.never (bw sk (pv 1) ar (bC _))
    (av (a9 (i:=2) hZ.nd rfl (Or.inl rfl) (bH OM (pv 0) (pv 1)))
   (av (a9 (i:=0) hZ.nd rfl (Or.inl rfl) (pv 1))
   (aB (a9 (i:=1) hZ.nd rfl (Or.inl rfl) (pv 2))))))
   (aB (aW (bJ wJ (by rfl) T.abs PyProof.Rows.boot_abs (ae (pv 0) ag))))),?_⟩
  refine aS (σ:=[some (.int a),some (.int b),none]) rfl ?_;exists Ei (λσ' H'=>∃(u v:Int) (r:Option V),σ'=[some (.int u),some (.int v),r]/\H'=H/\Int.gcd u v=Int.gcd a b) (λσ' _=>match σ' with | [_,some (.int v),_]=>v.natAbs | _=>0) ⟨a,b,none,rfl,rfl,rfl⟩ ?_;rintro σ' H' ⟨u,v,r,rfl,rfl,hg⟩;exists gY (λh=>?_) (λh=>?_)
  ·have hv:v≠0:=λz=>by subst z;simp at h
   exists gP (show v≠0 from hv) ?_;exists ⟨⟨v,u.fmod v,_,rfl,rfl,(MT u v).trans hg⟩,OW u v hv⟩
  ·have hv:v=0:=by
    by_cases z:v=0
    ·exact z
    ·exfalso;apply h;simp [z]
   subst hv;walk_at "w"
   have e:(if u < 0 then -u else u)=g a b:=by
    unfold g;rw[<- hg,Int.gcd_zero_right]
    split <;> lia
   rw[e];exact k
theorem Ey:a7 ["thing"] ["thing"] (aP rJ):=by walk_at "d"
theorem EV (T:Txt K mg Z):cQ P w K mg base fI 2 Z.yT Z.yC ["thing"] (KN K):=by
 refine T.p6.F.ok Ey (λvs H Q E h=>?_) (λcdv A outer s H vs Q E hr h=>?_)
 ·obtain ⟨x,n,rfl,_⟩:=h;rfl
 ·obtain ⟨x,n,rfl,⟨p,rfl,hp⟩,hn,k⟩:=h
  refine ⟨_,(av (cY (PW.pt (me (j9 (jx (zL rfl T.isinstance PyProof.Rows.boot_tuple T.tuple (pv 0)))) (jv (bw sk (bJ bx (by rfl) T.len bg (ae (pv 0) ag)) ar (bC _))))) (aB (aW mh)) bW)
   (av (cY (PW.pt (me (j9 (jx (cO (yu T) hr T.mX (ae (bc bN (pv 0) ar) ag)))) (jv (j9 (jx (cO (yu T) hr T.mX (ae (bc bN (pv 0) ar) ag))))))) (aB (aW mh)) bW)
   (aB (aW (EO (ia Dd (bc bN (pv 0) ar) ar (bC _)) (EM (ia eO (cO (jC T) hr T.fK (ae (bc bN (pv 0) ar) (ae (bc bN (pv 0) ar) ag))) ar (bC _)))))))),?_⟩
  refine aS (σ:=[some (.ref p)]) rfl ?_;obtain ⟨hb,hg,s1,s2⟩:=hn;exists .inr ⟨p,_,_,rfl,hp,rfl,?_⟩;exists ⟨_,_,rfl,.inr hp,?_⟩;walk_at "w"
  try refine OS ?_
  exists ⟨n.1,rfl,?_⟩;exists ⟨n.2,rfl,?_⟩;walk_at "w";rw[decide_eq_true (show (1:Int)<=n.2 by lia)];exists ⟨n.1,n.2,rfl,?_⟩;walk_at "w";have e:g n.1 n.2=1:=by unfold g;rw[hg];rfl
  rw[e,decide_eq_true rfl];exact k _ (aL.refl _)
theorem KQ:a7 ["thing","many"] ["thing","many"] (aP Av):=by walk_at "d"
theorem K9 (T:Txt K mg Z):cQ P w K mg base fI 3 Z.Ia Z.HN ["thing","many"] (xA K):=by
 refine T.xY.F.ok KQ (λvs H Q E h=>?_) (λcdv A outer s H vs Q E hr h=>?_)
 ·obtain ⟨p,ns,rfl,_⟩:=h;rfl
 ·obtain ⟨p,ns,rfl,hp,hl,hn,k⟩:=h
  refine ⟨_,(av (cY (PW.pt (me (j9 (jx (xV rfl T.isinstance PyProof.Rows.boot_list T.list (pv 0)))) (jv (bw sk (bJ bx (by rfl) T.len bg (ae (pv 0) ag)) (pv 1) (bC _))))) (aB (aW mh)) bW)
   (aB (aW (bJ (Bv rfl) (by rfl) T.all PyProof.Rows.boot_all (ae (cm ["value"] [] [] (cM (pv 0)) (λ_=>(aQ (i:=0) (show ND9 ["value"] by decide +kernel))) (λ_=>cH) (λ_=>(cO (EV T) hr T.p6 (ae (pv 0) ag)))) ag))))),?_⟩
  refine aS (σ:=[some (.ref p),some (.int ns.length)]) rfl ?_;obtain ⟨xs,gx,qx⟩:=id hp;sleep 11;exists ⟨_,_,.lst gx,rfl,?_⟩;exists ⟨_,_,rfl,.inl (bR.of gx),?_⟩;walk_at "w";rw[show ((xs.length:Nat):Int)=(ns.length:Nat) by rw[lx],decide_eq_true rfl];sleep 7;refine fu (K:=K) (xs:=xs) (λi ys H'=>aL H H'/\ys=List.replicate i (.bl true)) (aU (bF (by lia))) ⟨aL.refl _,rfl⟩ (λi ys H' _ ⟨s,_⟩=>bR.of (s _ _ gx)) ?_ ?_
  ·rintro i x ys H' hx hlen ⟨s,rfl⟩;obtain ⟨n,en,z⟩:=b8 qx hx;exists ⟨x,n,rfl,s.num z,hn n (ay en),λH2 s2=>⟨s.trans s2,by rw[Ec]⟩⟩
  ·rintro ys H' hy ⟨s,rfl⟩ l hl';exists ⟨l,List.replicate xs.length true,rfl,bR.of (by rw[aO];simp),?_⟩;have e4:(List.replicate xs.length true).all id=true:=by simp
   rw[e4];exact k _ (s.trans (aL.new hl'))
theorem ma:a7 ["things","wide","place","thing"] ["things","wide"] (aP nN):=by walk_at "d"
theorem mB (T:Txt K mg Z):cQ P w K mg base fI 4 Z.uv Z.uc ["things","wide"] (JL K):=by
 refine T.ij.F.ok ma (λvs H Q E h=>?_) (λcdv A outer s H vs Q E hr h=>?_)
 ·obtain ⟨p,H0,rows,w,rfl,_⟩:=h;rfl
 ·obtain ⟨p,H0,rows,w,rfl,hp,hl,hw,hn,k⟩:=h
  refine ⟨_,(av (dQ PassesOwn.never rfl (EL rfl T.enumerate (ae (pv 0) ag)) (pS rfl (cC (aQ (i:=2) ma.nd) (cC (aQ (i:=3) ma.nd) fY)))
    (aB (cY (j9 (jx (cO (K9 T) hr T.xY (ae (pv 3) (ae (pv 1) ag))))) (aB Ml) bW)))
   (aB (aW (cm ["row"] [] [] (cM (pv 0)) (λ_=>(aQ (i:=0) (show ND9 ["row"] by decide +kernel))) (λ_=>cH) (λ_=>(d9 (fV K (by rfl)) (by rfl) T.list PyProof.Rows.boot_list (ae (pv 0) ag))))))),?_⟩
  refine aS (σ:=[some (.ref p),some (.int w),none,none]) rfl ?_;obtain ⟨xs,gx,qx,_⟩:=id hp;sleep 7;refine MX (K:=K) (l:=p) (xs:=xs) (λi σ' H'=>aL H H'/\∃x y,σ'=[some (.ref p),some (.int w),x,y]) ⟨aL.refl _,none,none,rfl⟩ (λi σ' H' _ ⟨s,_⟩=>bR.of (s _ _ gx)) ?_ ?_
  ·rintro i x σ' H' t hx ⟨s,x1,y1,rfl⟩ ht;obtain ⟨qs,eq,q,rfl,_,Rq⟩:=b8 qx hx;have hm:=ay eq;have st:aL H' (upd H' t (.tup [.int i,.ref q])):=aL.new ht;have gt:(upd H' t (.tup [.int i,.ref q])) t=some (.tup [.int i,.ref q]):=aO;have s2:=s.trans st;generalize upd H' t (.tup [.int i,.ref q])=H2 at st gt s2 ⊢;have lq:(qs.map nm).length=w:=by rw[aj];exact (hn qs hm).1
   exists ⟨q,_,by rw[lq],(Rq.same s2).rowK,by rw[lq];exact hw,λn hn'=>?_,λH3 s3=>?_⟩
   ·obtain ⟨y,hy,rfl⟩:=aE.mp hn';exact (hn qs hm).2 y hy
   exists ⟨s2.trans s3,_,_,rfl⟩
  ·rintro σ' H' ⟨s,x1,y1,rfl⟩;exists ⟨⟨_,bR.of (s _ _ gx)⟩,?_⟩;refine dW (K:=K) (F:=di K H0) (di K H) id (s _ _ gx) (Paired.imp' (λ_ _ z=>z.same s) qx) hl (λa b=>a.same b) (λa b=>a.same b) ?_ ?_
   ·rintro i ns x H2 NY NN en s2 ⟨u,rfl,_,zs,gz,qz⟩ k1;exists ⟨u,zs,rfl,.inl (bR.of gz),λl1 hl1=>?_⟩;exact k1 _ _ (aL.new hl1) ⟨l1,rfl,s.none (s2.none hl1),zs,aO,Paired.imp' (λ_ _ z=>z.same (aL.new hl1)) qz⟩
   ·rintro ys' H2 r hr s2 g pr nx;rw[qX] at pr nx;exact k r H2 (s.none hr) (s.trans s2) ⟨ys',g,pr,jD nx⟩
theorem uH:a7 ["self","move","put","look"] ["self","move","put","look"] (aP eN):=by walk_at "d"
theorem vd (T:Txt K mg Z):cQ P w K mg base fI 5 Z.jQ Z.jP ["self","move","put","look"] (JI K Z.a_System):=by
 refine T.nC.ok uH (λvs H Q E h=>?_) (λcdv A outer s H vs Q E hr h=>?_)
 ·obtain ⟨x,dx,p,q,r,Hb,H0,H1,H2,mv,pt,lk,rfl,_⟩:=h;rfl
 ·obtain ⟨x,dx,p,q,r,Hb,H0,H1,H2,mv,pt,lk,rfl,nx,ndx,nex,rfl,gp,gq,gr,D,om,op,ol,k⟩:=h
  refine ⟨_,(av (jy (cO (pT T) hr T.jF (ae (pv 1) (ae ar (ae (kC (v:=.int 8) rfl T.mg_MOST_STATES ⟨_,rfl⟩) ag)))))
   (av (xR (pv 0) (cO (mB T) hr T.ij (ae (pv 1) (ae (bJ bx (by rfl) T.len bg (ae (pv 1) ag)) ag))) rfl)
   (av (xR (pv 0) (bJ bx (by rfl) T.len bg (ae (fP (pv 0) rfl) ag)) rfl)
   (av (jy (cO (pT T) hr T.jF (ae (pv 2) (ae ar (ae (kC (v:=.int 4) rfl T.mg_MOST_PUTS ⟨_,rfl⟩) ag)))))
   (av (xR (pv 0) (cO (mB T) hr T.ij (ae (pv 2) (ae (fP (pv 0) rfl) ag))) rfl)
   (av (xR (pv 0) (bJ bx (by rfl) T.len bg (ae (fP (pv 0) rfl) ag)) rfl)
   (av (jy (cO (pT T) hr T.jF (ae (pv 3) (ae ar (ae (kC (v:=.int 4) rfl T.mg_MOST_LOOKS ⟨_,rfl⟩) ag)))))
   (av (xR (pv 0) (cO (mB T) hr T.ij (ae (pv 3) (ae (fP (pv 0) rfl) ag))) rfl)
   (aB (xR (pv 0) (bJ bx (by rfl) T.len bg (ae (fP (pv 0) rfl) ag)) rfl)))))))))),?_⟩
  refine aS (σ:=[some (.ref x),some (.ref p),some (.ref q),some (.ref r)]) rfl ?_
  have s0:aL Hb (upd (upd Hb dx (.own x)) x (.ins Z.a_System dx [])):=λb o e=>by
   rw[bM (fQ e nx),bM (fQ e ndx)];exact e
  have hx:(upd (upd Hb dx (.own x)) x (.ins Z.a_System dx [])) x=some (.ins Z.a_System dx []):=aO;have back:∀{b},(upd (upd Hb dx (.own x)) x (.ins Z.a_System dx [])) b=none->Hb b=none:=λh=>s0.none h
  generalize upd (upd Hb dx (.own x)) x (.ins Z.a_System dx [])=Ha at s0 hx back ⊢;obtain ⟨xs,gx,qx,_⟩:=id gp;obtain ⟨ys,gy,qy,_⟩:=id gq;obtain ⟨zs,gz,qz,_⟩:=id gr;sleep 11;have ly:=qy.length;have lz:=qz.length;have d1:=D.n8;have d2:=D.i4;have d3:=D.o4;exists ⟨p,xs,0,8,rfl,s0 _ _ gx,by lia,?_⟩;exists ⟨_,_,rfl,.inl (bR.of (s0 _ _ gx)),?_⟩;exists ⟨p,H0,mv,mv.length,by rw[lx],gp.same s0,by lia,by lia,λws hw=>⟨D.mw ws hw,om ws hw⟩,λa H3 na s3 Ga=>?_⟩;have hx3:=s3 _ _ hx;exists ⟨x,Z.a_System,dx,_,rfl,hx3,T.cl_System,T.na_move,(by show 0 < 1000;decide),?_⟩;have e3:FD x H3 (upd H3 x (.ins Z.a_System dx (cK "move" (.ref a) []))):=FD.upd;have i3:uE H3 x:=⟨_,_,_,hx3⟩;have hx4:(upd H3 x (.ins Z.a_System dx (cK "move" (.ref a) []))) x=some (.ins Z.a_System dx (cK "move" (.ref a) [])):=aO;have Ga4:=Ga.exc e3 i3;have k4:aL Hb (upd H3 x (.ins Z.a_System dx (cK "move" (.ref a) []))):=(s0.trans s3).after nx;generalize upd H3 x (.ins Z.a_System dx (cK "move" (.ref a) []))=H4 at e3 hx4 Ga4 k4 ⊢;exists ⟨x,Z.a_System,dx,_,_,rfl,hx4,T.cl_System,T.na_move,(by rw[bP,if_pos rfl]),?_⟩;obtain ⟨as,ga,qa,_⟩:=id Ga4;have la:=qa.length;exists ⟨_,_,rfl,.inl (bR.of ga),?_⟩;exists ⟨x,Z.a_System,dx,_,rfl,hx4,T.cl_System,T.na_states,bL eV (by show 1 < 1000;decide),?_⟩;rw[show ((as.length:Nat):Int)=((mv.length:Nat):Int) by rw[la]];have e4:FD x H4 (upd H4 x (.ins Z.a_System dx (cK "states" (.int mv.length) (cK "move" (.ref a) [])))):=FD.upd;have i4:uE H4 x:=⟨_,_,_,hx4⟩;have hx5:(upd H4 x (.ins Z.a_System dx (cK "states" (.int mv.length) (cK "move" (.ref a) [])))) x=some (.ins Z.a_System dx (cK "states" (.int mv.length) (cK "move" (.ref a) []))):=aO;have Ga5:=Ga4.exc e4 i4;have k5:aL Hb (upd H4 x (.ins Z.a_System dx (cK "states" (.int mv.length) (cK "move" (.ref a) [])))):=k4.after nx;generalize upd H4 x (.ins Z.a_System dx (cK "states" (.int mv.length) (cK "move" (.ref a) [])))=H5 at e4 hx5 Ga5 k5 ⊢;clear e3 e4 i3 i4 hx4 Ga4 ga qa;exists ⟨q,ys,1,4,rfl,k5 _ _ gy,by lia,?_⟩;exists ⟨x,Z.a_System,dx,_,_,rfl,hx5,T.cl_System,T.na_states,(by rw[bP,if_pos rfl]),?_⟩;exists ⟨q,H1,pt,mv.length,rfl,gq.same k5,by lia,by lia,λws hw=>⟨D.pw ws hw,op ws hw⟩,λb H6 nb s6 Gb=>?_⟩;have hx6:=s6 _ _ hx5;have i6:uE H6 x:=⟨_,_,_,hx6⟩;exists ⟨x,Z.a_System,dx,_,rfl,hx6,T.cl_System,T.na_put,bL eV (bL (eh eV) (by show 2 < 1000;decide)),?_⟩;have e6:FD x H6 (upd H6 x (.ins Z.a_System dx (cK "put" (.ref b) (cK "states" (.int mv.length) (cK "move" (.ref a) []))))):=FD.upd;have hx7:(upd H6 x (.ins Z.a_System dx (cK "put" (.ref b) (cK "states" (.int mv.length) (cK "move" (.ref a) []))))) x=some (.ins Z.a_System dx (cK "put" (.ref b) (cK "states" (.int mv.length) (cK "move" (.ref a) [])))):=aO;have Ga7:=(Ga5.same s6).exc e6 i6;have Gb7:=(Gb.weak k5).exc e6 i6;have k7:aL Hb (upd H6 x (.ins Z.a_System dx (cK "put" (.ref b) (cK "states" (.int mv.length) (cK "move" (.ref a) []))))):=(k5.trans s6).after nx;generalize upd H6 x (.ins Z.a_System dx (cK "put" (.ref b) (cK "states" (.int mv.length) (cK "move" (.ref a) []))))=H7 at e6 hx7 Ga7 Gb7 k7 ⊢;obtain ⟨bs,gb,qb,_⟩:=id Gb7;have lb:=qb.length;exists ⟨x,Z.a_System,dx,_,_,rfl,hx7,T.cl_System,T.na_put,(by rw[bP,if_pos rfl]),?_⟩;exists ⟨_,_,rfl,.inl (bR.of gb),?_⟩;exists ⟨x,Z.a_System,dx,_,rfl,hx7,T.cl_System,T.na_ins,bL eV (bL (eh (ai eV (eh eV))) (by show 3 < 1000;decide)),?_⟩;rw[show ((bs.length:Nat):Int)=((pt.length:Nat):Int) by rw[lb]];have i7:uE H7 x:=⟨_,_,_,hx7⟩;have e7:FD x H7 (upd H7 x (.ins Z.a_System dx (cK "ins" (.int pt.length) (cK "put" (.ref b) (cK "states" (.int mv.length) (cK "move" (.ref a) [])))))):=FD.upd;have hx8:(upd H7 x (.ins Z.a_System dx (cK "ins" (.int pt.length) (cK "put" (.ref b) (cK "states" (.int mv.length) (cK "move" (.ref a) [])))))) x=some (.ins Z.a_System dx (cK "ins" (.int pt.length) (cK "put" (.ref b) (cK "states" (.int mv.length) (cK "move" (.ref a) []))))):=aO;have Ga8:=Ga7.exc e7 i7;have Gb8:=Gb7.exc e7 i7;have k8:aL Hb (upd H7 x (.ins Z.a_System dx (cK "ins" (.int pt.length) (cK "put" (.ref b) (cK "states" (.int mv.length) (cK "move" (.ref a) [])))))):=k7.after nx;generalize upd H7 x (.ins Z.a_System dx (cK "ins" (.int pt.length) (cK "put" (.ref b) (cK "states" (.int mv.length) (cK "move" (.ref a) [])))))=H8 at e7 hx8 Ga8 Gb8 k8 ⊢;clear e6 e7 i6 i7 hx7 Ga7 Gb7 gb qb;exists ⟨r,zs,2,4,rfl,k8 _ _ gz,by lia,?_⟩;exists ⟨x,Z.a_System,dx,_,_,rfl,hx8,T.cl_System,T.na_states,(by rw[bP,if_neg (by decide +kernel),bP,if_neg (by decide +kernel),bP,if_pos rfl]),?_⟩;exists ⟨r,H2,lk,mv.length,rfl,gr.same k8,by lia,by lia,λws hw=>⟨D.lw ws hw,ol ws hw⟩,λc H9 nc s9 Gc=>?_⟩;have hx9:=s9 _ _ hx8;have i9:uE H9 x:=⟨_,_,_,hx9⟩;exists ⟨x,Z.a_System,dx,_,rfl,hx9,T.cl_System,T.na_look,bL eV (bL (eh (ai eV (eh (ai eV (eh eV))))) (by show 4 < 1000;decide)),?_⟩;have e9:FD x H9 (upd H9 x (.ins Z.a_System dx (cK "look" (.ref c) (cK "ins" (.int pt.length) (cK "put" (.ref b) (cK "states" (.int mv.length) (cK "move" (.ref a) []))))))):=FD.upd;have hxA:(upd H9 x (.ins Z.a_System dx (cK "look" (.ref c) (cK "ins" (.int pt.length) (cK "put" (.ref b) (cK "states" (.int mv.length) (cK "move" (.ref a) []))))))) x=some (.ins Z.a_System dx (cK "look" (.ref c) (cK "ins" (.int pt.length) (cK "put" (.ref b) (cK "states" (.int mv.length) (cK "move" (.ref a) [])))))):=aO;have GaA:=(Ga8.same s9).exc e9 i9;have GbA:=(Gb8.same s9).exc e9 i9;have GcA:=(Gc.weak k8).exc e9 i9;have kA:aL Hb (upd H9 x (.ins Z.a_System dx (cK "look" (.ref c) (cK "ins" (.int pt.length) (cK "put" (.ref b) (cK "states" (.int mv.length) (cK "move" (.ref a) []))))))):=(k8.trans s9).after nx;generalize upd H9 x (.ins Z.a_System dx (cK "look" (.ref c) (cK "ins" (.int pt.length) (cK "put" (.ref b) (cK "states" (.int mv.length) (cK "move" (.ref a) []))))))=HA at e9 hxA GaA GbA GcA kA ⊢;obtain ⟨cs,gc,qc,_⟩:=id GcA;have lc:=qc.length;exists ⟨x,Z.a_System,dx,_,_,rfl,hxA,T.cl_System,T.na_look,(by rw[bP,if_pos rfl]),?_⟩;exists ⟨_,_,rfl,.inl (bR.of gc),?_⟩;exists ⟨x,Z.a_System,dx,_,rfl,hxA,T.cl_System,T.na_outs,bL eV (bL (eh (ai eV (eh (ai eV (eh (ai eV (eh eV))))))) (by show 5 < 1000;decide)),?_⟩;rw[show ((cs.length:Nat):Int)=((lk.length:Nat):Int) by rw[lc]];have iA:uE HA x:=⟨_,_,_,hxA⟩;exact k _ (kA.after nx) ⟨dx,a,b,c,aO,back na,k5.none nb,k8.none nc,(GaA.exc FD.upd iA).weak s0,GbA.exc FD.upd iA,GcA.exc FD.upd iA⟩
theorem Ar:a7 ["_law_grid"] ["_law_grid"] (aP nU):=by walk_at "d"
theorem mC (T:Txt K mg Z):cQ P w K mg base fI 1 Z.uC Z.ui ["_law_grid"] (Ak K):=by
 refine T.iq.F.ok Ar (λvs H Q E h=>?_) (λcdv A outer s H vs Q E hr h=>?_)
 ·obtain ⟨p,H0,rows,rfl,_⟩:=h;rfl
 ·obtain ⟨p,H0,rows,rfl,hp,hl,hm,k⟩:=h;refine ⟨_,(aB (aW (cm ["_law_row_here"] [] [] (cM (pv 0)) (λ_=>(aQ (i:=0) (show ND9 ["_law_row_here"] by decide +kernel))) (λ_=>cH) (λ_=>(d9 (fV K (by rfl)) (by rfl) T.list PyProof.Rows.boot_list (ae (pv 0) ag)))))),?_⟩;refine aS (σ:=[some (.ref p)]) rfl ?_;obtain ⟨xs,gx,qx,_⟩:=id hp;sleep 7;refine dW (K:=K) (F:=di K H0) (di K H) id gx qx hl (λa b=>a.same b) (λa b=>a.same b) ?_ ?_
  ·rintro i ns x H' NY NN en s ⟨u,rfl,_,zs,gz,qz⟩ k1;exists ⟨u,zs,rfl,.inl (bR.of gz),λl1 hl1=>?_⟩;exact k1 _ _ (aL.new hl1) ⟨l1,rfl,s.none hl1,zs,aO,Paired.imp' (λ_ _ z=>z.same (aL.new hl1)) qz⟩
  ·rintro ys' H' r hr s g pr nx;rw[qX] at pr nx;exact k r H' hr s ⟨ys',g,pr,jD nx⟩
theorem ED:a7 ["_law_parts_here"] ["_law_parts_here"] (aP rS):=by walk_at "d"
theorem EZ (T:Txt K mg Z):cQ P w K mg base fI 7 Z.y8 Z.yK ["_law_parts_here"] (Ab K Z.a_System):=by
 refine T.qg.F.ok ED (λvs H Q E h=>?_) (λcdv A outer s H vs Q E hr h=>?_)
 ·obtain ⟨r,H0,mv,pt,lk,rfl,_⟩:=h;rfl
 ·obtain ⟨r,H0,mv,pt,lk,rfl,PQ,D,F,k⟩:=h;refine ⟨_,(aB (aW (OJ T.mk_System (vd T) (hr.mono (by decide)) rfl T.mg_System T.nk .nil Mo (ae (cO (mC T) hr T.iq (ae (bc bN (pv 0) ar) ag)) (ae (cO (mC T) hr T.iq (ae (bc bN (pv 0) ar) ag)) (ae (cO (mC T) hr T.iq (ae (bc bN (pv 0) ar) ag)) ag)))))),?_⟩;refine aS (σ:=[some (.ref r)]) rfl ?_;obtain ⟨m,p,l,g,n1,n2,n3,Gm,Gp,Gl⟩:=id PQ;have d1:=D.n8;have d2:=D.i4;have d3:=D.o4;exists ⟨m,H0,mv,rfl,Gm,by lia,λxs hx=>by rw[D.mw xs hx];lia,λa H1 na s1 Ga=>?_⟩;have g1:=s1 _ _ g;exists ⟨p,H0,pt,rfl,Gp.same s1,by lia,λxs hx=>by rw[D.pw xs hx];lia,λb H2 nb s2 Gb=>?_⟩;have s12:=s1.trans s2;have g2:=s12 _ _ g;exists ⟨l,H0,lk,rfl,Gl.same s12,by lia,λxs hx=>by rw[D.lw xs hx];lia,λc H3 nc s3 Gc=>?_⟩;have s13:=s12.trans s3;walk_at "w";intro x dx nx ndx nex;exact ⟨x,dx,a,b,c,H3,H,H1,H2,mv,pt,lk,rfl,nx,ndx,nex,rfl,(Ga.same s2).same s3,Gb.same s3,Gc,D,F.ok.1,F.ok.2.1,F.ok.2.2,λH' s' S'=>⟨rfl,k x H' (s13.none nx) (s13.trans s') (S'.weak s13)⟩⟩
theorem mT:a7 ["_law_one","_law_other","_law_total","_law_k"] ["_law_one","_law_other"] (aP uP):=by walk_at "d"
theorem kQ (T:Txt K mg Z):cQ P w K mg base fI 3 Z.BK Z.Bs ["_law_one","_law_other"] (Er K):=by
 refine T.ip.F.ok mT (λvs H Q E h=>?_) (λcdv A outer s H vs Q E hr h=>?_)
 ·obtain ⟨p,q,xs,ys,rfl,_⟩:=h;rfl
 ·obtain ⟨p,q,xs,ys,rfl,hp,hq,hl,hz,⟨k1,j1,k2,j2,h1,h2,hkj⟩,kk⟩:=h
  refine ⟨_,(av (a9 (i:=2) mT.nd rfl (Or.inl rfl) (cU (ae ar (ae ar ag))))
   (av (dQ PassesOwn.never rfl (cB rfl T.range (ae (bJ bx (by rfl) T.len bg (ae (pv 0) ag)) ag)) (aQ (i:=3) mT.nd)
    (aB (a9 (i:=2) mT.nd rfl (Or.inl rfl) (cO (kO T) hr T.ik (ae (pv 2) (ae (cO (lG T) hr T.iB (ae (bc bX (pv 0) (pv 3)) (ae (bc bX (pv 1) (pv 3)) ag))) ag))))))
   (aB (aW (pv 2))))),?_⟩
  refine aS (σ:=[some (.ref p),some (.ref q),none,none]) rfl ?_;obtain ⟨us,gu,qu⟩:=id hp;obtain ⟨ws,gw,qw⟩:=id hq;have lu:=qu.length;have lw:=qw.length;exists b7 λr0 H0 s0 g0=>?_
  exists ⟨_,_,rfl,.inl (bR.of (s0 _ _ gu)),?_⟩;sleep 3;refine eP (n:=us.length) (λi σ' H'=>aL H H'/\∃(r:V) (v:Option V),σ'=[some (.ref p),some (.ref q),some r,v]/\cz K H' (cE (xs.take i) (ys.take i)) r) ⟨s0,_,none,rfl,cz.mk g0 rfl⟩ ?_ ?_
  ·rintro i σ' H' hi ⟨s,r,v,rfl,hr⟩;have ix:i < xs.length:=by lia
   have iy:i < ys.length:=by lia
   obtain ⟨vx,ex,nx⟩:=Jg (Paired.imp' (λ_ _ z=>z.same s) qu) ix;obtain ⟨vy,ey,ny⟩:=Jg (Paired.imp' (λ_ _ z=>z.same s) qw) iy;exists cN (bR.of (s _ _ gu)) ex ?_;exists cN (bR.of (s _ _ gw)) ey ?_;exists ⟨_,_,_,_,rfl,nx,ny,h1.szn (getD_mem ix) (by lia),h2.szn (getD_mem iy) (by lia),λr3 H3 s3 n3=>?_⟩;exists ⟨_,_,_,_,rfl,hr.same s3,n3,Nc h1 h2 hz i hkj,My (h1.one (getD_mem ix)) (h2.one (getD_mem iy)) hkj,λr4 H4 s4 n4=>?_⟩;exists ⟨(s.trans s3).trans s4,_,_,rfl,by rw[Dv ix iy];exact n4⟩
  ·rintro σ' H' ⟨s,r,v,rfl,hr⟩;rw[aI (by lia),aI (by lia)] at hr;obtain ⟨t,rfl,ht⟩:=hr;exists kk _ H' s ⟨t,rfl,ht⟩
theorem IC:a7 ["_law_grid","_law_row_here"] ["_law_grid","_law_row_here"] (aP xP):=by walk_at "d"
theorem va (T:Txt K mg Z):cQ P w K mg base fI 4 Z.D5 Z.DE ["_law_grid","_law_row_here"] (Ep K):=by
 refine T.mI.F.ok IC (λvs H Q E h=>?_) (λcdv A outer s H vs Q E hr h=>?_)
 ·obtain ⟨p,q,H0,rows,ys,rfl,_⟩:=h;rfl
 ·obtain ⟨p,q,H0,rows,ys,rfl,hp,hq,hz,hl,hr1,kk⟩:=h;refine ⟨_,(aB (aW (cm ["_law_one"] ["_law_row_here"] [1] (cM (pv 0)) (λ_=>(aQ (i:=0) (show ND9 ["_law_one","_law_row_here"] by decide +kernel))) (λ_=>cH) (λ_=>(cO (kQ T) hr T.ip (ae (pv 0) (ae (pv 1) ag))))))),?_⟩;sleep 5;obtain ⟨xs,gx,qx,_⟩:=id hp;sleep 7;refine dW (K:=K) (F:=di K H0) (cz K) (λxs=>cE xs ys) gx qx hz (λa b=>a.same b) (λa b=>a.same b) ?_ ?_
  ·rintro i ns x H' NY NN en s ⟨u,rfl,_,hu⟩ k;obtain ⟨e1,e2⟩:=hr1 ns (ay en);exists ⟨u,q,ns,ys,rfl,hu,hq.same s,e1.symm,by lia,e2,λr H2 s2 h2'=>k _ _ s2 h2'⟩
  ·rintro ys' H' r hr s g pr nx;exact kk r H' hr s ⟨ys',g,pr⟩
theorem gO:a7 ["_law_parts_here","_law_state","_law_puts_here","_law_move_here","_law_put","_law_look","_law_found","_law_k"] ["_law_parts_here","_law_state","_law_puts_here"] (aP rQ):=by walk_at "d"
theorem vI (T:Txt K mg Z):cQ P w K mg base fI 5 Z.yZ Z.yI ["_law_parts_here","_law_state","_law_puts_here"] (F0 K):=by
 refine T.lM.F.ok gO (λvs H Q E h=>?_) (λcdv A outer s H vs Q E hr h=>?_)
 ·obtain ⟨r,s0,u0,H0,mv,pt,lk,st,pu,rfl,_⟩:=h;rfl
 ·obtain ⟨r,s0,u0,H0,mv,pt,lk,st,pu,rfl,PQ,D,hs,hu,l1,l2,NX,k⟩:=h
  refine ⟨_,(av (fh (pv 0) (pS rfl (cC (aQ (i:=3) gO.nd) (cC (aQ (i:=4) gO.nd) (cC (aQ (i:=5) gO.nd) fY)))))
   (av (a9 (i:=6) gO.nd rfl (Or.inl rfl) (cO (va T) hr T.mI (ae (pv 3) (ae (pv 1) ag))))
   (av (dQ PassesOwn.never rfl (cB rfl T.range (ae (bJ bx (by rfl) T.len bg (ae (pv 4) ag)) ag)) (aQ (i:=7) gO.nd)
    (aB (a9 (i:=6) gO.nd rfl (Or.inl rfl) (cO (vH T) hr T.lK (ae (pv 6) (ae (cO (AR T) hr T.qq (ae (bc bX (pv 2) (pv 7)) (ae (bc bX (pv 4) (pv 7)) ag))) ag))))))
   (aB (aW (pv 6)))))),?_⟩
  refine aS (σ:=[some (.ref r),some (.ref s0),some (.ref u0),none,none,none,none,none]) rfl ?_;obtain ⟨m,p,l,g,n1,n2,n3,Gm,Gp,Gl⟩:=id PQ;have d1:=D.n8;have d2:=D.i4;exists ⟨m,s0,H0,mv,st,rfl,Gm,hs,by lia,by lia,λxs hx=>⟨by rw[D.mw xs hx,l1],NX.f2 xs hx⟩,λf H1 nf s1 R1=>?_⟩;obtain ⟨ps,gp,qp,_⟩:=Gp.same s1;have lp:=qp.length;exists ⟨_,_,rfl,.inl (bR.of gp),?_⟩;sleep 3;refine eP (n:=ps.length) (λkk σ' H'=>∃(f:Addr) (x:Option V),σ'=[some (.ref r),some (.ref s0),some (.ref u0),some (.ref m),some (.ref p),some (.ref l),some (.ref f),x]/\H f=none/\aL H1 H'/\cF K H' f (nextK mv pt st pu kk)) ⟨f,none,rfl,nf,aL.refl _,by rw[IY];exact R1⟩ ?_ ?_
  ·rintro kk σ' H' hk ⟨f',x,rfl,nf',s',R'⟩;have kp:kk < pt.length:=by lia
   have ku:kk < pu.length:=by lia
   obtain ⟨zs,gz,qz⟩:=(hu.same s1).same s';have lz:=qz.length;obtain ⟨vu,eu,nu⟩:=Jg qz ku;obtain ⟨row,vr,er,ev,mr,q,rfl,_,Rq⟩:=i8 qp kp
   have er':pt[kk]=row:=by
    rw[af kp] at er;exact cb er
   have eu':pu.getD kk 0=pu[kk]:=by rw[aa,af ku];rfl
   have mu:pu.getD kk 0∈pu:=getD_mem ku;exists cN (bR.of gz) eu ?_;exists cN (bR.of (s' _ _ gp)) (fZ ev) ?_;exists ⟨vu,q,_,row,rfl,nu,NX.su _ mu,Rq.same s',by rw[D.pw row mr];lia,NX.sp row mr,λr1 H2 n1' s2 R2=>?_⟩;exists ⟨f',r1,_,_,rfl,R'.same s2,R2,by rw[aj,jf,D.pw row mr],by rw[jf];lia,NX.part kk,λy hy=>?_,λr2 H3 n2' s3 R3=>?_⟩
   ·obtain ⟨y',hy',rfl⟩:=aE.mp hy;exact NX.mul _ mu row mr y' hy'
   ·exists ⟨s1.none (s'.none (s2.none n2')),(s'.trans s2).trans s3,?_⟩;have e:=IZ (st:=st) (pu:=pu) (λxs hx=>by rw[D.mw xs hx,l1]) kp ku (by rw[er'];exact D.pw row mr);rw[er',<- eu'] at e;rw[<- e];exact R3
  ·rintro σ' H' ⟨f',x,rfl,nf',s',R'⟩;rw[tz (by lia) (by lia)] at R';exists k f' H' nf' (s1.trans s') R'
theorem mS:a7 ["_law_parts_here","_law_start","_law_rows","_law_state","_law_puts_here"] ["_law_parts_here","_law_start","_law_rows"] (aP uO):=by walk_at "d"
theorem yv (T:Txt K mg Z):cQ P w K mg base fI 6 Z.BJ Z.Br ["_law_parts_here","_law_start","_law_rows"] (JJ K):=by
 refine T.mY.F.ok mS (λvs H Q E h=>?_) (λcdv A outer s H vs Q E hr h=>?_)
 ·obtain ⟨r,s,p,H0,H1,mv,pt,lk,pus,st,rfl,_⟩:=h;rfl
 ·obtain ⟨r,s,p,H0,H1,mv,pt,lk,pus,st,rfl,PQ,D,Rs,ls,Gp,lp,wp,EF,k⟩:=h
  refine ⟨_,(av (a9 (i:=3) mS.nd rfl (Or.inl rfl) (d9 (fV K (by rfl)) (by rfl) T.list PyProof.Rows.boot_list (ae (pv 1) ag)))
   (av (dQ PassesOwn.never rfl (cM (pv 2)) (aQ (i:=4) mS.nd)
    (aB (a9 (i:=3) mS.nd rfl (Or.inl rfl) (cO (vI T) hr T.lM (ae (pv 0) (ae (pv 3) (ae (pv 4) ag)))))))
   (aB (aW (pv 3))))),?_⟩
  refine aS (σ:=[some (.ref r),some (.ref s),some (.ref p),none,none]) rfl ?_;have d1:=D.n8;obtain ⟨ss,gs,qs⟩:=id Rs;obtain ⟨ps,gp,qp,_⟩:=id Gp;have lps:=qp.length;exists ⟨s,ss,rfl,.inl (bR.of gs),λc hc=>?_⟩;have sc:aL H (upd H c (.lst ss)):=aL.new hc;have Rc:cF K (upd H c (.lst ss)) c st:=⟨ss,aO,Paired.imp' (λ_ _ z=>z.same sc) qs⟩;generalize upd H c (.lst ss)=Hc at sc Rc ⊢;exists ⟨⟨_,bR.of (sc _ _ gp)⟩,?_⟩;refine gV (K:=K) (a:=p) (xs:=ps) (λi σ' H'=>aL H H'/\∃q y,σ'=[some (.ref r),some (.ref s),some (.ref p),some (.ref q),y]/\H q=none/\cF K H' q (jU mv pt st pus i)) ⟨sc,c,_,rfl,hc,Rc⟩ (λi σ' H' _ ⟨e,_⟩=>bR.of (e _ _ gp)) ?_ ?_
  ·rintro i v σ' H' hv ⟨e,q,y,rfl,nq,Rq⟩;obtain ⟨pu,epu,u,rfl,_,Ru⟩:=b8 qp hv;have hi:i < pus.length:=(aF.mp epu).1;have mp:=ay epu;exists ⟨r,q,u,H0,mv,pt,lk,_,pu,rfl,PQ.same e,D,Rq,cF.same Ru e,jo ls (by lia),wp pu mp,EF.nx D ls wp (by lia) epu,λq2 H2 n2 s2 R2=>?_⟩;rw[<- lZ epu] at R2;exact ⟨e.trans s2,q2,_,rfl,e.none n2,R2⟩
  ·rintro σ' H' ⟨e,q,y,rfl,nq,Rq⟩;rw[<- lps] at Rq;exists k q H' nq e Rq
theorem EA:a7 ["_law_bag_here","_law_parts_here","_law_steps_here","_law_wide"] ["_law_bag_here","_law_parts_here","_law_steps_here","_law_wide"] (aP rM):=by walk_at "d"
theorem vG (T:Txt K mg Z):cQ P w K mg base fI 4 Z.yW Z.yF ["_law_bag_here","_law_parts_here","_law_steps_here","_law_wide"] (FW K):=by
 refine T.lJ.F.ok EA (λvs H Q E h=>?_) (λcdv A outer s H vs Q E hr h=>?_)
 ·obtain ⟨b,r,tt,w,H0,mv,pt,lk,rfl,_⟩:=h;rfl
 ·obtain ⟨b,r,tt,w,H0,mv,pt,lk,rfl,hT,w1,w2,hB,nb,PQ,D,k⟩:=h;refine ⟨_,(aB (aW (cm ["_law_turn"] ["_law_bag_here","_law_parts_here","_law_wide"] [0,1,3] (cB rfl T.range (ae (pv 2) ag)) (λ_=>(aQ (i:=0) (show ND9 ["_law_turn","_law_bag_here","_law_parts_here","_law_wide"] by decide +kernel))) (λ_=>cH) (λ_=>(cO (mW T) hr T.il (ae (pv 1) (ae (bJ (Cr K (by rfl)) (by rfl) T.len bg (ae (bc (qC K (by rfl)) (pv 2) ar) ag)) (ae (pv 3) ag)))))))),?_⟩;refine aS (σ:=[some (.ref b),some (.ref r),some (.int tt),some (.int w)]) rfl ?_;have i4:=D.i4;sleep 3
  refine yi (n:=tt) (b:=b) (di K H) (λxs=>xs.length=pt.length/\∀x∈xs,Dr (max w 6) x) hB (by lia) (λ{H' H'' c x} a u B=>by
   obtain ⟨q,e,nq,R⟩:=a;exact ⟨q,e,nq,R.upto u B (λz=>hB.at (by rw[<- z];exact nq))⟩) ?_ ?_
  ·rintro i Ha NY NN hi ua Ba k1;obtain ⟨m,p,l,g,n1,n2,n3,Gm,Gp,Gl⟩:=PQ.upto ua hB nb;obtain ⟨up,gp,qp,_⟩:=id Gp;have lup:=qp.length;exists ⟨_,_,rfl,.inl (bR.of gp),?_⟩;rw[<- lup];exists ⟨b,pt.length,w,rfl,Ba,by lia,w1,by lia,λq xs Hb nq R lx dx Bb ub=>?_⟩;exact k1 _ xs _ ub Bb ⟨lx,dx⟩ ⟨q,rfl,ua.none Ba nq,R⟩
  ·rintro ys cs Hz t ht uz Bz gz lc hc prz nx;exact k t cs Hz ht ⟨ys,gz,prz,jD nx⟩ lc hc Bz uz
theorem pe:a7 ["_law_bag_here","_law_parts_here","_law_start","_law_steps_here","_law_wide","_law_goal_here","_law_at"] ["_law_bag_here","_law_parts_here","_law_start","_law_steps_here","_law_wide"] (aP rW):=by walk_at "d"
theorem E4 (T:Txt K mg Z):cQ P w K mg base fI 7 Z.zb Z.yN ["_law_bag_here","_law_parts_here","_law_start","_law_steps_here","_law_wide"] (F7 K):=by
 refine T.qi.F.ok pe (λvs H Q E h=>?_) (λcdv A outer s H vs Q E hr h=>?_)
 ·obtain ⟨b,r,s,tt,w,H0,mv,pt,lk,st,rfl,_⟩:=h;rfl
 ·obtain ⟨b,r,s,tt,w,H0,mv,pt,lk,st,rfl,hT,w1,w2,hB,nb,PQ,D,Rs,sb,ls,EN,k⟩:=h
  refine ⟨_,(av (cY (bw eO (cO (bp T) hr T.aX (ae (pv 0) (ae ar ag))) ar (bC _)) (aB (aW (cO (mW T) hr T.il (ae (pv 0) (ae (bJ bx (by rfl) T.len bg (ae (pv 2) ag)) (ae (pv 4) ag)))))) bW)
   (av (a9 (i:=5) pe.nd rfl (Or.inl rfl) (cO (yv T) hr T.mY (ae (pv 1) (ae (pv 2) (ae (cO (vG T) hr T.lJ (ae (pv 0) (ae (pv 1) (ae (pv 3) (ae (pv 4) ag))))) ag)))))
   (av (cY (PW.pt (jw (bw qN (bJ bx (by rfl) T.len bg (ae (pv 5) ag)) ar (bC _)) (ky (bw eO (cO (bp T) hr T.aX (ae (pv 0) (ae ar ag))) ar (bC _))))) (av (a9 (i:=6) pe.nd rfl (Or.inl rfl) (cO (bp T) hr T.aX (ae (pv 0) (ae (bJ bx (by rfl) T.len bg (ae (pv 5) ag)) ag))))
   (aB (fh (cO (kO T) hr T.ik (ae (bc bX (pv 5) (pv 6)) (ae (cU (ae ar (ae (bH dR ar (cO (bp T) hr T.aX (ae (pv 0) (ae ar ag)))) ag))) ag))) (gQ (pv 5) (pv 6) set_list)))) bW)
   (aB (aW (pv 5)))))),?_⟩
  refine aS (σ:=[some (.ref b),some (.ref r),some (.ref s),some (.int tt),some (.int w),none,none]) rfl ?_;have d8:=D.n8;exists ⟨b,2,rfl,hB,by decide,by decide,λv H1 v0 v1 B1 u1=>?_⟩;have Rs1:=Rs.upto u1 hB sb;obtain ⟨zs,gz,qz⟩:=id Rs1;have lz:=qz.length;exists gY (λh=>?_) (λh=>?_)
  ·exists ⟨_,_,rfl,.inl (bR.of gz),?_⟩;rw[<- lz];exists ⟨b,st.length,w,rfl,B1,by lia,w1,by lia,λq xs H2 nq R2 l2 d2 B2 u2=>?_⟩;exact k q xs H2 (u1.none B1 nq) R2 (by lia) (.inl d2) B2 (u1.trans u2)
  ·have PQ1:=PQ.upto u1 hB nb;exists ⟨b,r,tt,w,H0,mv,pt,lk,rfl,hT,w1,w2,B1,nb,PQ1,D,λp pus H2 np Gp lp dp B2 u2=>?_⟩;have DP:TV pt tt w pus:=⟨lp,dp⟩;have EF:=EN pus DP;have wp:∀xs∈pus,xs.length=pt.length:=λxs hx=>(dp xs hx).1
   have u02:=u1.trans u2;exists ⟨r,s,p,H0,H1,mv,pt,lk,pus,st,rfl,PQ1.upto u2 B1 nb,D,Rs1.upto u2 B1 sb,ls,Gp,by lia,wp,EF,λg H3 ng s3 Rg=>?_⟩;rw[lp] at Rg;have B3:=B2.same s3;have u03:c7 b H H3:=u02.same s3;have ng0:H g=none:=u02.none B2 ng;have gb:g≠b:=λz=>B2.at (by rw[<- z];exact ng)
   have lst:(jU mv pt st pus tt).length=mv.length:=jo ls (by lia);have fin0:∀H':Hp,c7 b H3 H'->ic H' b->Q (.ref g) H':=λH' u B=>k g _ H' ng0 (Rg.upto u B3 gb) lst (.inr ⟨pus,DP,.inl rfl⟩) B (u03.trans u)
   obtain ⟨ys,gy,qy⟩:=id Rg;have ly:=qy.length;rw[lst] at ly;exists ⟨_,_,rfl,.inl (bR.of gy),?_⟩;rw[<- ly];exists gY (λh1=>?_) (λh1=>?_)
   ·have np0:0 < mv.length:=by have:=of_decide_eq_true h1;lia
    exists ⟨b,4,rfl,B3,by decide,by decide,λv4 H4 v40 v41 B4 u4=>?_⟩;exists gY (λh2=>?_) (λh2=>?_)
    ·obtain ⟨ys4,gy4,qy4⟩:=Rg.upto u4 B3 gb;have ly4:=qy4.length;rw[lst] at ly4;exists ⟨_,_,rfl,.inl (bR.of gy4),?_⟩;rw[<- ly4];exists ⟨b,mv.length,rfl,B4,by lia,by lia,λat' H5 a0 a1 B5 u5=>?_⟩;obtain ⟨at',rfl⟩:=bY a0;have u35:=u4.trans u5;obtain ⟨ys5,gy5,qy5⟩:=Rg.upto u35 B3 gb;have ly5:=qy5.length;rw[lst] at ly5;obtain ⟨vx,ex,nx⟩:=Jg qy5 (j:=at') (by rw[lst];lia);exists cN (bR.of gy5) ex ?_;exists ⟨b,3,rfl,B5,by decide,by decide,λv6 H6 v60 v61 B6 u6=>?_⟩;obtain ⟨v6,rfl⟩:=bY v60;exists b7 λt7 H7 s7 g7=>?_
     rw[show ((1:Int)+(v6:Int))=((v6+1:Nat):Int) by lia] at g7;have u37:c7 b H3 H7:=(u35.trans u6).same s7;obtain ⟨ys7,gy7,qy7⟩:=Rg.upto u37 B3 gb;have ly7:=qy7.length;rw[lst] at ly7
     have e57:ys7=ys5:=by
      have:=(u6.same s7).other gb gy5;rw[gy7] at this;cases this;rfl
     have szst:=EF.szn D ls wp (k:=tt) (by lia);have mx:(jU mv pt st pus tt).getD at' 0∈jU mv pt st pus tt:=getD_in (by rw[lst];lia);have szu:nB (NM v6):=sP (by decide) (show 6<=2^3 by decide) (show 1<=2^0 by decide) (by decide) (Pa (by lia));exists ⟨_,_,(jU mv pt st pus tt).getD at' 0,NM v6,rfl,(nx.upto (u6.same s7) B5),cz.mk (q:=NM v6) g7 rfl,szst _ mx,szu,λr8 H8 s8 N8=>?_⟩;have gy8:=s8 _ _ gy7;have B8:=(B6.same s7).same s8;have u38:=u37.same s8;obtain ⟨q0,I0,xq0,gq0⟩:=hB.inner;have gq:g≠q0:=λz=>by rw[<- z,ng0] at gq0;cases gq0
     have u08:c7 b H H8:=u03.trans u38;have I8:=u08.2 _ I0;exists ff gy8 (fE (by lia)) rfl ?_;exists k g _ _ ng0 ⟨_,aO,uU (N8.updL gy8) at' (Paired.imp' (λ_ _ z=>(z.same s8).updL gy8) qy7)⟩ (by rw[dI];exact lst) (.inr ⟨pus,DP,.inr ⟨at',v6,by lia,rfl⟩⟩) (B8.upd I8 gb gq) (u08.after ng0)
    ·exists fin0 H4 u4 B4
   ·exists fin0 H3 (aL.refl _).upto B3
theorem ks:a7 ["_law_bag_here","_law_parts_here","_law_bottoms","_law_row_here"] ["_law_bag_here","_law_parts_here"] (aP pH):=by walk_at "d"
theorem tS (T:Txt K mg Z):cQ P w K mg base fI 2 Z.wY Z.wg ["_law_bag_here","_law_parts_here"] (CB K):=by
 refine T.kF.F.ok ks (λvs H Q E h=>?_) (λcdv A outer s H vs Q E hr h=>?_)
 ·obtain ⟨b,r,H0,mv,pt,lk,rfl,_⟩:=h;rfl
 ·obtain ⟨b,r,H0,mv,pt,lk,rfl,hB,nb,PQ,D,sz,k⟩:=h
  refine ⟨_,(av (a9 (i:=2) ks.nd rfl (Or.inl rfl) (dG (ae ar ag)))
   (av (dQ PassesOwn.never rfl (cM (bH iK (bc bN (pv 1) ar) (bc bN (pv 1) ar))) (aQ (i:=3) ks.nd)
    (aB (a9 (i:=2) ks.nd rfl (Or.inl rfl) (bH iK (pv 2) (cm ["_law_one"] [] [] (cM (pv 3)) (λ_=>(aQ (i:=0) (show ND9 ["_law_one"] by decide +kernel))) (λ_=>cH) (λ_=>(bH dR (bc (qC K (by rfl)) (pv 0) ar) (bH dw (bH iO (bJ wJ (by rfl) T.abs PyProof.Rows.boot_abs (ae (bc (qC K (by rfl)) (pv 0) ar) ag)) ar) ar))))))))
   (av (cY (bw qN (bJ (Lo rfl) (by rfl) T.max PyProof.Rows.boot_max (ae (pv 2) ag)) ar (bC _)) (aB (aW (cO (bp T) hr T.aX (ae (pv 0) (ae ar ag))))) bW)
   (av (cY (bw qN (bJ bx (by rfl) T.len bg (ae (bc bN (pv 1) ar) ag)) ar (bC _)) (aB (aW (bc bX (dG (ae (cO (bp T) hr T.aX (ae (pv 0) (ae ar ag))) (ae (bJ bx (by rfl) T.len bg (ae (bc bN (pv 1) ar) ag)) ag))) (cO (bp T) hr T.aX (ae (pv 0) (ae ar ag)))))) bW)
   (av (cY (PW.pt (jw (bw tP (bJ bx (by rfl) T.len bg (ae (bc bN (pv 1) ar) ag)) ar (bC _)) (ky (bw eO (cO (bp T) hr T.aX (ae (pv 0) (ae ar ag))) ar (bC _))))) (aB (aW (cO (bp T) hr T.aX (ae (pv 0) (ae ar ag))))) bW)
   (aB (aW (cO (bp T) hr T.aX (ae (pv 0) (ae (bH dR ar (bJ bx (by rfl) T.len bg (ae (bc bN (pv 1) ar) ag))) ag)))))))))),?_⟩
  refine aS (σ:=[some (.ref b),some (.ref r),none,none]) rfl ?_;have d8:=D.n8;have i4:=D.i4;obtain ⟨m,p,l,g,n1,n2,n3,Gm,Gp,Gl⟩:=id PQ;obtain ⟨um,gm,qm,_⟩:=id Gm;obtain ⟨up,gp,qp,_⟩:=id Gp;have lum:=qm.length;have lup:=qp.length;exists c8 λbl0 H1 s1 nbl g1=>?_
  have g':=s1 _ _ g;exists iJ (s1 _ _ gm) (s1 _ _ gp) (aU (bF (by lia))) λcc H2 s2 nc gc=>?_
  have s02:=s1.trans s2;have qc:Paired (di K H0 H2) (mv++pt) (um++up):=Paired.imp' (λ_ _ z=>di.same z s02) (bT qm qp)
  have wc:∀xs∈mv++pt,xs.length=mv.length:=λxs hx=>by
   sleep 1
   ·exact D.mw xs hx
   ·exact D.pw xs hx
  have lc:(mv++pt).length=(um++up).length:=qc.length;rw[au,au] at lc;exists ⟨⟨_,bR.of gc⟩,?_⟩;refine gV (K:=K) (a:=cc) (xs:=um++up) (λi σ' H'=>aL H2 H'/\∃bl ns y,σ'=[some (.ref b),some (.ref r),some (.ref bl),y]/\H' bl=some (.lst (ns.map V.int))/\1<=ns.length/\ns.length<=1+i*8/\∀j xs,j < i->(mv++pt)[j]?=some xs->∀x∈xs,RQ x∈ns) ⟨aL.refl _,bl0,[1],_,rfl,s2 _ _ g1,by decide,by decide,λj xs h=>absurd h (d7 _)⟩ (λi σ' H' _ ⟨e,_⟩=>bR.of (e _ _ gc)) ?_ ?_
  ·rintro i v σ' H' hv ⟨e,bl,ns,y,rfl,gb,b1,b2,hn⟩;obtain ⟨xs,exs,u,rfl,_,zs,gz,qz⟩:=b8 qc hv;have mx:=ay exs;have wx:=wc xs mx;have hi:i < (um++up).length:=(aF.mp hv).1;rw[au] at hi;exists ⟨⟨_,bR.of (e _ _ gz)⟩,?_⟩;refine dW (K:=K) (F:=cz K) (λ_ c x=>x=V.int (RQ c)) id (e _ _ gz) (Paired.imp' (λ_ _ z=>z.same e) qz) (by lia) (λa b=>a.same b) (λa _=>a) ?_ ?_
   ·rintro j c x Ha NY NN ec sa ⟨pp,rfl,hp⟩ k1;have mc:=ay ec;have szc:=sz xs mx c mc;walk_at "w"
    have e1:(if (nm c).1 < 0 then -(nm c).1 else (nm c).1)=(c.num.natAbs:Int):=by
     show (if c.num < 0 then -c.num else c.num)=_
     split <;> lia
    have e2:(c.num.natAbs:Int).fdiv 1000=(c.num.natAbs:Int) / 1000:=cL _ (by decide);rw[e1];refine gP (show oS _ _ from ⟨by decide,bK (show (1000:Int).natAbs < 2^20 by decide) (ax (by decide) (by decide))⟩) ?_;rw[e2];exists k1 _ _ (aL.refl _) rfl
   rintro ys Hb cl hcl sb gcl prl _
   have ey:ys=(xs.map RQ).map V.int:=by
    rw[qX] at prl;rw[nF];exact Dc prl
   have ly:=prl.length;rw[aj] at ly;have gbb:=sb _ _ gb;rw[ey] at gcl;exists iJ gbb gcl (aU (bF (by rw[aj,aj,aj];lia))) λc2 Hc sc nc2 gc2=>?_
   rw[<- cg] at gc2;refine ⟨(e.trans sb).trans sc,c2,ns++xs.map RQ,_,rfl,gc2,by rw[au];lia,by rw[au,aj];lia,λj ys' hj ej x hx=>?_⟩;rcases b9 j i with z | z
   ·exact dk _ (hn j ys' z ej x hx)
   ·have:j=i:=by lia
    subst this;rw[exs] at ej;cases ej;exact bG _ (aE.mpr ⟨x,hx,rfl⟩)
  ·rintro σ' H' ⟨e,bl,ns,y,rfl,gb,b1,b2,hn⟩;have e0:=s02.trans e;have B':=hB.same e0;have PQ':=PQ.same e0;obtain ⟨m',p',l',g2,_,_,_,Gm',_,_⟩:=id PQ'
   have em:m'=m:=by
    have:=e0 _ _ g;rw[this] at g2;cases g2;rfl
   subst em;obtain ⟨um',gm',qm',_⟩:=id Gm';have lum':=qm'.length;have u0:c7 b H H':=e0.upto;exists ⟨bl,ns,rfl,bR.of gb,by lia,λM hM hmax=>?_⟩;exists gY (λh=>?_) (λh=>?_)
   ·exists ⟨b,4,rfl,B',by decide,by decide,λv H3 v0 v1 B3 u3=>?_⟩;obtain ⟨v,rfl⟩:=bY v0;exact k v H3 ⟨by lia,.inl (by lia)⟩ B3 (u0.trans u3)
   ·have M9:M<=9:=by rw[decide_eq_true_eq] at h;lia
    have sm:∀xs∈mv++pt,∀x∈xs,x.den<=9/\x.num.natAbs < 1000:=λxs hx x hx'=>by
     obtain ⟨j,hj,rfl⟩:=bO hx;have:=hn j _ (by rw[au,<- lum,<- lup];rw[au] at hj;exact hj) (af hj) x hx';exact O1 (Int.le_trans (hmax _ this) M9)
    exists ⟨_,_,rfl,.inl (bR.of gm'),?_⟩;rw[<- lum'];exists gY (λh1=>?_) (λh1=>?_)
    ·have n5:5 < mv.length:=by have:=of_decide_eq_true h1;lia
     exists ⟨b,4,rfl,B',by decide,by decide,λv H3 v0 v1 B3 u3=>?_⟩;obtain ⟨v,rfl⟩:=bY v0;obtain ⟨m3,p3,l3,g3,_,_,_,Gm3,_,_⟩:=PQ'.upto u3 B' nb;obtain ⟨um3,gm3,qm3,_⟩:=id Gm3;have lum3:=qm3.length;exists ⟨_,_,rfl,.inl (bR.of gm3),?_⟩;rw[<- lum3];exists c8 λl4 H4 s4 n4 g4=>?_
     exists ⟨b,2,rfl,B3.same s4,by decide,by decide,λv2 H5 v20 v21 B5 u5=>?_⟩;have g5:=u5.other (λz=>B3.at (by rw[<- z];exact n4)) g4;obtain ⟨x,ex,mx,_⟩:=kR (xs:=[V.int (v:Int),V.int (mv.length:Int)]) v20 (by simpa using v21);exists cN (bR.of g5) ex ?_;have u05:=(u0.trans (u3.same s4)).trans u5;simp only[aN,br,or_false] at mx;rcases mx with rfl | rfl
     ·exact k v H5 ⟨by lia,.inl (by lia)⟩ B5 u05
     ·exact k mv.length H5 ⟨by lia,.inr ⟨sm,λ_=>ak _,λ_ _=>mN _⟩⟩ B5 u05
    ·have n5:mv.length<=5:=by rw[decide_eq_true_eq] at h1;lia
     exists ⟨_,_,rfl,.inl (bR.of gm'),?_⟩;rw[<- lum'];have last:∀(Hx:Hp),ic Hx b->c7 b H Hx->∀(v:Nat),v < 2+mv.length->Q (.int v) Hx:=λHx Bx ux v hv=>k v Hx ⟨by lia,.inr ⟨sm,λz=>by lia,λ_ _=>by lia⟩⟩ Bx ux
     exists gY (λh2=>?_) (λh2=>?_)
     ·have n3':mv.length < 3:=by have:=of_decide_eq_true h2;lia
      exists ⟨b,8,rfl,B',by decide,by decide,λv H3 v0 v1 B3 u3=>?_⟩;exists gY (λh3=>?_) (λh3=>?_)
      ·exists ⟨b,13,rfl,B3,by decide,by decide,λv4 H4 v40 v41 B4 u4=>?_⟩;obtain ⟨v4,rfl⟩:=bY v40;exact k v4 H4 ⟨by lia,.inr ⟨sm,λz=>by lia,λz _=>by lia⟩⟩ B4 ((u0.trans u3).trans u4)
      ·obtain ⟨m3,p3,l3,g3,_,_,_,Gm3,_,_⟩:=PQ'.upto u3 B' nb;obtain ⟨um3,gm3,qm3,_⟩:=id Gm3;have lum3:=qm3.length;exists ⟨_,_,rfl,.inl (bR.of gm3),?_⟩;rw[<- lum3];walk_at "w";rw[show ((2:Int)+(mv.length:Int))=((2+mv.length:Nat):Int) by lia];refine ⟨b,2+mv.length,rfl,B3,by lia,by lia,λv4 H4 v40 v41 B4 u4=>?_⟩;obtain ⟨v4,rfl⟩:=bY v40;exact last H4 B4 ((u0.trans u3).trans u4) v4 (by lia)
     ·exists ⟨_,_,rfl,.inl (bR.of gm'),?_⟩;rw[<- lum'];walk_at "w";rw[show ((2:Int)+(mv.length:Int))=((2+mv.length:Nat):Int) by lia];refine ⟨b,2+mv.length,rfl,B',by lia,by lia,λv4 H4 v40 v41 B4 u4=>?_⟩;obtain ⟨v4,rfl⟩:=bY v40;exact last H4 B4 (u0.trans u4) v4 (by lia)
theorem Ew:a7 ["row","bottom"] ["row","bottom"] (aP rG):=by walk_at "d"
theorem vE (T:Txt K mg Z):cQ P w K mg base fI 1 Z.yR Z.yA ["row","bottom"] (FU K):=by
 refine T.jG.F.ok Ew (λvs H Q E h=>?_) (λcdv A outer s H vs Q E hr h=>?_)
 ·obtain ⟨p,ns,M,B,rfl,_⟩:=h;rfl
 ·obtain ⟨p,ns,M,B,rfl,hp,hl,hz,hB,sB,q⟩:=h;refine ⟨_,(aB (aW (cm ["value"] ["bottom"] [1] (cM (pv 0)) (λ_=>(aQ (i:=0) (show ND9 ["value","bottom"] by decide +kernel))) (λ_=>cH) (λ_=>(bH dw (bc (qC K (by rfl)) (pv 0) ar) (bH iO (pv 1) (bc (qC K (by rfl)) (pv 0) ar))))))),?_⟩;refine aS (σ:=[some (.ref p),some (.int B)]) rfl ?_;obtain ⟨xs,gx,qx⟩:=id hp;sleep 11;sleep 7;refine fu (K:=K) (xs:=xs) (λi ys H'=>H'=H/\ys=(fW (ns.take i) B).map V.int) (aU (bF (by lia))) ⟨rfl,rfl⟩ (λi ys H' _ ⟨e,_⟩=>by subst e;exact bR.of gx) ?_ ?_
  ·rintro i x ys H' hx hlen ⟨rfl,rfl⟩;obtain ⟨n,en,r,rfl,hr1⟩:=b8 qx hx;have nz:=hz.2.2 n (ay en);have sn:Sz 4400 n.2:=Fj hz.1 nz.2.1 hz.2.1;exists gP (show oS _ _ from ⟨by lia,sn.mono (by decide)⟩) ?_;rw[cL _ (by lia)]
   have sq:Sz 4400 (B / n.2):=sB.le (by
    rw[RP (by lia)];exact Nat.div_le_self ..)
   exists gP (show iI _ _ from .inr ⟨_,_,nz.2.2,sq,by decide⟩) ?_;exact ⟨rfl,by rw[take_snoc en];simp [fW]⟩
  ·rintro ys H' hy ⟨rfl,rfl⟩ l hl';exact q l _ hl' (aL.new hl') (by rw[aO,aI (by lia)])
theorem gM:a7 ["wholes","multiple","whole"] ["wholes"] (aP ju):=by walk_at "d"
theorem uZ (T:Txt K mg Z):cQ P w K mg base fI 2 Z.nv Z.mZ ["wholes"] (LR K):=by
 refine T.ja.F.ok gM (λvs H Q E h=>?_) (λcdv A outer s H vs Q E hr h=>?_)
 ·obtain ⟨p,bs,M,rfl,_⟩:=h;rfl
 ·obtain ⟨p,bs,M,rfl,hp,hM,sM,hb,q⟩:=h
  refine ⟨_,(av (a9 (i:=1) gM.nd rfl (Or.inl rfl) ar)
   (av (dQ PassesOwn.never rfl (cM (pv 0)) (aQ (i:=2) gM.nd)
    (aB (a9 (i:=1) gM.nd rfl (Or.inl rfl) (bH dw (pv 1) (bH iO (pv 2) (cO (jC T) hr T.fK (ae (pv 1) (ae (pv 2) ag))))))))
   (aB (aW (pv 1))))),?_⟩
  refine aS (σ:=[some (.ref p),none,none]) rfl ?_;exists ⟨⟨_,hp⟩,?_⟩;refine gV (K:=K) (a:=p) (xs:=bs.map V.int) (λi σ' H'=>H'=H/\∃x,σ'=[some (.ref p),some (.int (ya (bs.take i) 1)),x]) ⟨rfl,none,rfl⟩ (λi σ' H' _ ⟨e,_⟩=>by subst e;exact hp) ?_ ?_
  ·rintro i x σ' H' hx ⟨rfl,y,rfl⟩;rw[aG] at hx
   obtain ⟨b,eb,rfl⟩:∃b,bs[i]?=some b/\x=.int b:=by
    cases e:bs[i]? with
    | none=>rw[e] at hx;cases hx
    | some b=>rw[e] at hx;cases hx;exact ⟨b,rfl,rfl⟩
   have b1:=hb b (ay eb);have sb:Sz 4400 b:=Fj hM b1.2 sM;have ht:∀c∈bs.take i,0 < c/\c∣M:=λc hc=>hb c (cy hc)
   have msz:Sz 4400 (ya (bs.take i) 1):=Fj hM (zN (by decide) (Int.one_dvd _) ht) sM;generalize hm:ya (bs.take i) 1=m at msz ⊢;have gp:0 < g m b:=Bg (by lia);exists ⟨m,b,rfl,?_⟩;exists gP (show oS _ _ from ⟨by lia,(Ug b1.1 sb).mono (by decide)⟩) ?_;rw[cL _ (by lia)];exists gP (show iI _ _ from .inr ⟨_,_,msz,sb.hi (t:=m) (by lia),by decide⟩) ?_;exists ⟨rfl,_,by rw[take_snoc eb,Dp,hm];rfl⟩
  ·rintro σ' H' ⟨rfl,y,rfl⟩;walk_at "w";rw[aI (by simp)];exact q
theorem xE:a7 ["row"] ["row"] (aP kY):=by walk_at "d"
theorem oF (T:Txt K mg Z):cQ P w K mg base fI 3 Z.qT Z.qQ ["row"] (LS K):=by
 refine T.gG.F.ok xE (λvs H Q E h=>?_) (λcdv A outer s H vs Q E hr h=>?_)
 ·obtain ⟨p,ns,M,rfl,_⟩:=h;rfl
 ·obtain ⟨p,ns,M,rfl,hp,hl,hz,q⟩:=h;refine ⟨_,(aB (aW (cO (uZ T) hr T.ja (ae (cm ["value"] [] [] (cM (pv 0)) (λ_=>(aQ (i:=0) (show ND9 ["value"] by decide +kernel))) (λ_=>cH) (λ_=>(bc (qC K (by rfl)) (pv 0) ar))) ag)))),?_⟩;refine aS (σ:=[some (.ref p)]) rfl ?_;obtain ⟨xs,gx,qx⟩:=id hp;sleep 11;sleep 7;refine fu (K:=K) (xs:=xs) (λi ys H'=>H'=H/\ys=((ns.take i).map (·.2)).map V.int) (aU (bF (by lia))) ⟨rfl,rfl⟩ (λi ys H' _ ⟨e,_⟩=>by subst e;exact bR.of gx) ?_ ?_
  ·rintro i x ys H' hx hlen ⟨rfl,rfl⟩;obtain ⟨n,en,r,rfl,hr1⟩:=b8 qx hx;exists ⟨rfl,by rw[take_snoc en];simp⟩
  ·rintro ys H' hy ⟨rfl,rfl⟩ l hl';exists ⟨l,ns.map (·.2),M,rfl,bR.of (by rw[aO,aI (by lia)]),hz.1,hz.2.1,λb hb=>?_,?_⟩
   ·obtain ⟨n,hn,rfl⟩:=aE.mp hb;exact ⟨(hz.2.2 n hn).1,(hz.2.2 n hn).2.1⟩
   ·exact q _ (aL.new hl')
theorem tL:a7 ["lines","begin","place","at"] ["lines","begin","place"] (aP pE):=by walk_at "d"
theorem Ce (T:Txt K mg Z):cQ P w K mg base fI 1 Z.wW Z.wd ["lines","begin","place"] CQ:=by
 refine T.oh.F.ok tL (λvs H Q E h=>?_) (λcdv A outer s H vs Q E hr h=>?_)
 ·obtain ⟨l,p,ls,b,c,rfl,_⟩:=h;rfl
 ·obtain ⟨l,p,ls,b,c,rfl,G,l1000,b1000,hc,k1,k2⟩:=h
  refine ⟨_,(av (dQ PassesOwn.never rfl (K6 rfl T.range (ae (pv 1) (ae (bJ bx (by rfl) T.len bg (ae (pv 0) ag)) ag))) (aQ (i:=3) tL.nd)
    (aB (cY (bw sk (bc bX (bc bX (pv 0) (pv 3)) (pv 2)) ar (bC _)) (aB (aW (pv 3))) bW)))
   (aB (aW uS))),?_⟩
  refine aS (σ:=[some (.ref p),some (.int b),some (.int c),none]) rfl ?_;obtain ⟨_,xs,gx,qx⟩:=id G;sleep 11;exists ⟨_,_,rfl,.inl (bR.of gx),?_⟩;rw[<- lx];exists ⟨⟨by lia,by lia,by lia,by lia⟩,?_⟩;refine Du (lo:=(b:Int)) (n:=((ls.length:Int) - (b:Int)).toNat) (λi σ' H'=>H'=H/\(∃y,σ'=[some (.ref p),some (.int b),some (.int c),y])/\∀s,b<=s->s < b+i->fq ls s c=0) ⟨rfl,⟨_,rfl⟩,λs h1 h2=>absurd h2 (by lia)⟩ ?_ ?_
  ·rintro i σ' H' hi ⟨rfl,⟨y,rfl⟩,hz⟩;rw[show ((b:Int)+(i:Int))=((b+i:Nat):Int) by lia];obtain ⟨zs,v,ez,ev,mz,q,rfl,_,gq⟩:=i8 qx (i:=b+i) (by lia);exists cN (bR.of gx) (fZ ev) ?_;exists cN (bR.of gq) (zW (hc zs mz)) ?_;walk_at "w";have ef:=LG (c:=c) ez;by_cases e:zs.getD c 0=0
   ·rw[decide_eq_true e];exists ⟨rfl,⟨_,rfl⟩,λs h1 h2=>?_⟩;by_cases e2:s=b+i
    ·rw[e2,ef,e];rfl
    ·exact hz s h1 (by lia)
   ·rw[decide_eq_false e];exists k1 (b+i) (by lia) (by lia) (by rw[ef];exact T1.mpr e)
  ·rintro σ' H' ⟨rfl,⟨y,rfl⟩,hz⟩;exists k2 λt h1 h2=>hz t h1 (by lia)
theorem o9:a7 ["lines","at","place","before","used","by","swept"] ["lines","at","place","before"] (aP xO):=by walk_at "d"
theorem IW (T:Txt K mg Z):cQ P w K mg base fI 1 Z.D4 Z.DD ["lines","at","place","before"] CS:=by
 refine T.vh.F.ok o9 (λvs H Q E h=>?_) (λcdv A outer s H vs Q E hr h=>?_)
 ·obtain ⟨l,p,ls,kk,c,n,b,rfl,_⟩:=h;rfl
 ·obtain ⟨l,p,ls,kk,c,n,b,rfl,hl,G,l1000,hk,hw,n1000,hc,b0,sb,hs,k⟩:=h
  refine ⟨_,(av (a9 (i:=4) o9.nd rfl (Or.inr rfl) (bc bX (pv 0) (pv 1)))
   (av (a9 (i:=5) o9.nd rfl (Or.inr rfl) (bc bX (pv 4) (pv 2)))
   (av (kB 6 ["line"] ["used","by","place","before"] [4,5,2,3] o9.nd rfl rfl (cM (pv 0)) (λ_=>(aQ (i:=0) (show ND9 ["line","used","by","place","before"] by decide +kernel) rfl (Or.inr rfl) (Or.inl rfl))) (λ_=>cH) (λ_=>(cm ["mine","yours"] ["by","line","place","before"] [2,0,3,4] (Mn K rfl T.zip (ae (pv 0) (ae (pv 1) ag))) (λ_=>(mU K 2 (cC (aQ (i:=0) (show ND9 ["mine","yours","by","line","place","before"] by decide +kernel)) (cC (aQ (i:=1) (show ND9 ["mine","yours","by","line","place","before"] by decide +kernel)) fY)))) (λ_=>cH) (λ_=>(bH iO (bH jA (bH dw (pv 2) (pv 0)) (bH dw (bc (iP K (by rfl)) (pv 3) (pv 4)) (pv 1))) (pv 5))))))
   (av (fh (pv 4) (gQ (pv 6) (pv 1) set_list))
   (aB (aW (pv 6))))))),?_⟩
  refine aS (σ:=[some (.ref p),some (.int kk),some (.int c),some (.int b),none,none,none]) rfl ?_;obtain ⟨pl,xs,gx,qx⟩:=id G;sleep 11;obtain ⟨zk,vk,ek,evk,mk,qk,rfl,qkl,gk⟩:=i8 qx hk;have wk:=hw zk mk;have ek':ls.getD kk []=zk:=by rw[aa,ek];rfl
  exists cN (bR.of gx) (fZ evk) ?_;exists cN (bR.of gk) (zW (by lia)) ?_;sleep 7;refine fu (K:=K) (xs:=xs) (λi ys H'=>aL H H'/\Paired (Kv l H') ((ls.take i).map λzs=>List.zipWith (λx y=>(zk.getD c 0*x - zs.getD c 0*y).fdiv b) zs zk) ys) (aU (bF (by lia))) ⟨aL.refl _,.nil⟩ (λi ys H' _ ⟨s,_⟩=>bR.of (s _ _ gx)) ?_ ?_
  ·rintro i v ys0 H' hx hlen ⟨s',pr⟩;obtain ⟨zs,ec,q,rfl,ql,gq⟩:=b8 qx hx;have mz:=ay ec;have wz:=hw zs mz;have gq':=s' _ _ gq;have gk':=s' _ _ gk;exists ⟨⟨_,bR.of gq'⟩,⟨_,bR.of gk'⟩,?_⟩;refine sU (K:=K) (xs:=zs.map V.int) (ws:=zk.map V.int) (λj ys H2=>aL H' H2/\ys=((List.zipWith (λx y=>(zk.getD c 0*x - zs.getD c 0*y).fdiv b) zs zk).take j).map V.int) (aU (bF (by rw[aj];lia))) (by rw[aj,aj];lia) ⟨aL.refl _,rfl⟩ (λj ys H2 _ ⟨s2,_⟩=>⟨bR.of (s2 _ _ gq'),bR.of (s2 _ _ gk')⟩) ?_ ?_
   ·rintro j v1 v2 ys H2 r h1 h2 hy ⟨s2,rfl⟩ hr
    obtain ⟨x,ex,rfl⟩:∃x,zs[j]?=some x/\V.int x=v1:=by
     rw[aG] at h1;cases e:zs[j]? with
     | none=>rw[e] at h1;cases h1
     | some x=>rw[e] at h1;exact ⟨x,rfl,cb h1⟩
    obtain ⟨y,ey,rfl⟩:∃y,zk[j]?=some y/\V.int y=v2:=by
     rw[aG] at h2;cases e:zk[j]? with
     | none=>rw[e] at h2;cases h2
     | some x=>rw[e] at h2;exact ⟨x,rfl,cb h2⟩
    have sr:aL H2 (upd H2 r (.tup [.int x,.int y])):=aL.new hr;have gr:(upd H2 r (.tup [.int x,.int y])) r=some (.tup [.int x,.int y]):=aO;generalize upd H2 r (.tup [.int x,.int y])=H3 at sr gr ⊢;have gq3:=sr _ _ (s2 _ _ gq');have sx:=hs zs mz x (ay ex);have sy:=hs zk mk y (ay ey);have s1:=hs zk mk _ (getD_in (e:=0) (show c < zk.length by lia));have s3:=hs zs mz _ (getD_in (e:=0) (show c < zs.length by lia));exists gP (show iI _ _ from .inr ⟨_,_,s1,sx,by decide⟩) ?_;exists cN (bR.of gq3) (zW (by lia)) ?_;exists gP (show iI _ _ from .inr ⟨_,_,s3,sy,by decide⟩) ?_;exists gP (show oS _ _ from ⟨b0,sb⟩) ?_;have ez:(List.zipWith (λx y=>(zk.getD c 0*x - zs.getD c 0*y).fdiv b) zs zk)[j]?=some ((zk.getD c 0*x - zs.getD c 0*y).fdiv b):=by rw[ck,ex,ey]
    exact ⟨s2.trans sr,by rw[take_snoc ez];simp⟩
   ·rintro ys H2 hy ⟨s2,rfl⟩ r hr;have sn:aL H2 (upd H2 r (.lst (((List.zipWith (λx y=>(zk.getD c 0*x - zs.getD c 0*y).fdiv b) zs zk).take (zs.map V.int).length).map V.int))):=aL.new hr;refine ⟨(s'.trans s2).trans sn,?_⟩;rw[take_snoc ec,cg];refine bT (Paired.imp' (λ_ _ z=>(Kv.same z s2).same sn) pr) (.cons ⟨r,rfl,ne_old (λz=>hl (s'.none (s2.none z))) hr,?_⟩ .nil);rw[aO,aI (by rw[cT,aj];lia)]
  ·rintro ys H1 hy ⟨s1,pr⟩ r hr;have sn:aL H1 (upd H1 r (.lst ys)):=aL.new hr;have gn:(upd H1 r (.lst ys)) r=some (.lst ys):=aO;have ly:=pr.length;rw[aj,cG] at ly;generalize upd H1 r (.lst ys)=H2 at sn gn ⊢;exists ff gn (fE (by lia)) rfl ?_;have s2:aL H1 (upd H2 r (.lst (ys.set kk (.ref qk)))):=sn.after hr;exists k r _ (s1.none hr) (s1.trans s2) ⟨ne_old (λz=>hl (s1.none z)) hr,_,aO,?_⟩;unfold HS;rw[ek'];rw[aI (by lia)] at pr;exact i5 (Paired.imp' (λ_ _ z=>Kv.same z s2) pr) kk ⟨qk,rfl,qkl,(s1.trans s2) _ _ gk⟩
theorem tO:a7 ["lines","at","to","swapped"] ["lines","at","to"] (aP pG):=by walk_at "d"
theorem Cf (T:Txt K mg Z):cQ P w K mg base fI 1 Z.wX Z.we ["lines","at","to"] yp:=by
 refine T.oi.F.ok tO (λvs H Q E h=>?_) (λcdv A outer s H vs Q E hr h=>?_)
 ·obtain ⟨l,p,ls,t,kk,rfl,_⟩:=h;rfl
 ·obtain ⟨l,p,ls,t,kk,rfl,hl,G,l1000,ht,hk,k⟩:=h
  refine ⟨_,(av (a9 (i:=3) tO.nd rfl (Or.inl rfl) (d9 qI (by rfl) T.list PyProof.Rows.boot_list (ae (pv 0) ag)))
   (av (fh (bc bX (pv 0) (pv 1)) (gQ (pv 3) (pv 2) set_list))
   (av (fh (bc bX (pv 0) (pv 2)) (gQ (pv 3) (pv 1) set_list))
   (aB (aW (pv 3)))))),?_⟩
  refine aS (σ:=[some (.ref p),some (.int t),some (.int kk),none]) rfl ?_;obtain ⟨pl,xs,gx,qx⟩:=id G;sleep 11;obtain ⟨zt,vt,et,evt,_,Ft⟩:=i8 qx ht;obtain ⟨zk,vk,ek,evk,_,Fk⟩:=i8 qx hk;exists ⟨p,xs,rfl,.inl (bR.of gx),λc hc=>?_⟩;have sc:aL H (upd H c (.lst xs)):=aL.new hc;have gc:(upd H c (.lst xs)) c=some (.lst xs):=aO;generalize upd H c (.lst xs)=Hc at sc gc ⊢;exists cN (bR.of (sc _ _ gx)) (fZ evt) ?_;exists ff gc (fE (by lia)) rfl ?_;have s1:aL H (upd Hc c (.lst (xs.set kk vt))):=sc.after hc;have g1:(upd Hc c (.lst (xs.set kk vt))) c=some (.lst (xs.set kk vt)):=aO;generalize upd Hc c (.lst (xs.set kk vt))=H1 at s1 g1 ⊢;exists cN (bR.of (s1 _ _ gx)) (fZ evk) ?_;exists ff g1 (fE (by rw[dI];lia)) rfl ?_;have s2:aL H (upd H1 c (.lst ((xs.set kk vt).set t vk))):=s1.after hc;exists k c _ hc s2 ⟨ne_old hl hc,_,aO,?_⟩;have et':ls.getD t []=zt:=by rw[aa,et];rfl
  have ek':ls.getD kk []=zk:=by rw[aa,ek];rfl
  unfold oZ;rw[et',ek'];exact i5 (i5 (Paired.imp' (λ_ _ z=>Kv.same z s2) qx) kk (Kv.same Ft s2)) t (Kv.same Fk s2)
theorem jr:a7 ["rows","wide","lines","leads","before","place","many","at"] ["rows","wide"] (aP EG):=by walk_at "d"
theorem GK (T:Txt K mg Z):cQ P w K mg base fI 4 Z.Kq Z.Ki ["rows","wide"] (CA K):=by
 refine T.vL.F.ok jr (λvs H Q E h=>?_) (λcdv A outer s H vs Q E hr h=>?_)
 ·obtain ⟨p,n,w,H0,rows,rfl,_⟩:=h;rfl
 ·obtain ⟨p,n,w,H0,rows,rfl,G,r100,n100,hw,F,k⟩:=h
  refine ⟨_,(av (kB 2 ["row"] [] [] jr.nd rfl rfl (cM (pv 0)) (λ_=>(aQ (i:=0) (show ND9 ["row"] by decide +kernel))) (λ_=>cH) (λ_=>(cO (vE T) hr T.jG (ae (pv 0) (ae (cO (oF T) hr T.gG (ae (pv 0) ag)) ag)))))
   (av (a9 (i:=3) jr.nd rfl (Or.inl rfl) (dG ag))
   (av (a9 (i:=4) jr.nd rfl (Or.inl rfl) ar)
   (av (dQ PassesOwn.never rfl (cB rfl T.range (ae (pv 1) ag)) (aQ (i:=5) jr.nd)
    (av (a9 (i:=6) jr.nd rfl (Or.inl rfl) (bJ bx (by rfl) T.len bg (ae (pv 3) ag)))
   (av (a9 (i:=7) jr.nd rfl (Or.inl rfl) (cO (Ce T) hr T.oh (ae (pv 2) (ae (pv 6) (ae (pv 5) ag)))))
   (aB (cY (bw ER (pv 7) uS (bC _)) (av (a9 (i:=2) jr.nd rfl (Or.inl rfl) (cO (IW T) hr T.vh (ae (cO (Cf T) hr T.oi (ae (pv 2) (ae (pv 7) (ae (pv 6) ag)))) (ae (pv 6) (ae (pv 5) (ae (pv 4) ag))))))
   (av (a9 (i:=4) jr.nd rfl (Or.inl rfl) (bc bX (bc bX (pv 2) (pv 6)) (pv 5)))
   (aB (jy (yr dD dZ dX ke (pv 3) (ae (pv 5) ag)))))) bW)))))
   (aB (aW (cU (ae (rX Et (pv 2) zK (tw (bJ bx (by rfl) T.len bg (ae (pv 3) ag)))) (ae (pv 3) ag))))))))),?_⟩
  refine aS (σ:=[some (.ref p),some (.int n),none,none,none,none,none,none]) rfl ?_;obtain ⟨xs,gx,qx,_⟩:=id G;obtain ⟨W,hW,W2,ent⟩:=F.ent;obtain ⟨_,_,_,_,_,_,_,_,r15,r89⟩:=id F;sleep 7;refine dW (K:=K) (as:=rows) (F:=di K H0) (λ(H:Hp) (zs:List Int) (v:V)=>∃q,v=V.ref q/\H q=some (.lst (zs.map V.int))) jV gx qx (by lia) (λa b=>a.same b) (λ⟨q,a,b⟩ s=>⟨q,a,s _ _ b⟩) ?_ ?_
  ·rintro i qs v H' NY NN ec s' ⟨u,rfl,_,R⟩ k1;have mx:=ay ec;obtain ⟨M,hM⟩:=F.rowM mx;obtain ⟨b1,sb⟩:=hM.bot;have lq:(qs.map nm).length<=1000:=by rw[aj,hw qs mx];lia
   exists ⟨u,_,M,rfl,R.rowK,lq,hM,λH2 s2=>?_⟩;exists ⟨u,_,M,_,rfl,(R.same s2).rowK,lq,hM,b1,sb,λr H3 n3 s3 g3=>k1 _ _ (s2.trans s3) ⟨r,rfl,g3⟩⟩
  rintro ys H1 lp0 hlp s1 g1 pr1 nx1;exists c8 λqp H2 s2 nq gq=>?_
  have G2:tm qp H2 lp0 (rows.map jV):=⟨(λz=>by rw[z,nq] at g1;cases g1),ys,s2 _ _ g1,Paired.imp' (λ_ _ ⟨q,a,b⟩=>⟨q,a,(λz=>by rw[z,nq] at b;cases b),s2 _ _ b⟩) pr1⟩;have hq0:H qp=none:=s1.none nq;have s02:=s1.trans s2;have hm:(rows.map jV).length=rows.length:=aj ..;clear g1 pr1 nx1;sleep 3;refine eP (n:=n) (λP σ' H'=>aL H H'/\∃lp ls ps d y1 y2 y3,σ'=[some (.ref p),some (.int n),some (.ref lp),some (.ref qp),some (.int d),y1,y2,y3]/\H' qp=some (.lst (dF ps))/\tm qp H' lp ls/\D7 (rows.map jV) n P ls ps d) ⟨s02,lp0,rows.map jV,[],1,_,_,_,rfl,gq,G2,D7.start λzs hz=>by obtain ⟨x,hx,rfl⟩:=aE.mp hz;rw[rj];exact hw x hx⟩ ?_ ?_
  ·rintro P σ' H' hP ⟨s',lp,ls,ps,d,y1,y2,y3,rfl,gq',G',I⟩;have hl:=I.len;have kP:=I.el.kP;have km:=I.el.km;have lps:(dF ps).length=ps.length:=aj ..;have hqp:H' qp≠none:=by rw[gq'];exact λz=>nomatch z
   obtain ⟨z1,z2⟩:=I.sz (r:=min rows.length n) hW ent (by lia) (by rw[hm];exact ak _) r15;have big:(16*W)^min rows.length n < 2^8999:=bL (IL W2) (eo (by decide) (by lia));exists ⟨_,_,rfl,.inl (bR.of gq'),?_⟩;rw[lps];exists ⟨qp,lp,ls,ps.length,P,rfl,G',by lia,by lia,λzs hz=>by rw[I.wide zs hz];exact hP,λt h1 h2 h3=>?_,λhz=>?_⟩
   ·exists ⟨rfl,_,rfl,?_⟩;rw[show decide (V.int (t:Int)=V.non)=false from decide_eq_false (λz=>nomatch z)];exists ⟨qp,lp,ls,t,ps.length,rfl,hqp,G',by lia,h2,by lia,λl1 Ha na sa Ga=>?_⟩;exists ⟨qp,l1,_,ps.length,P,n,d,rfl,λz=>hqp (sa.none z),Ga,by rw[xt];lia,by rw[xt];lia,JF I.wide (by lia) h2,by lia,hP,I.d0,bL z1 big,λzs hz z hz'=>?_,λl2 Hb nb sb Gb=>?_⟩
    ·unfold oZ at hz;have key:∀ys,ys∈ls->∀z∈ys,Sz 8999 z:=λys hy z hz=>bL (z2 ys hy z hz) big
     rcases cD hz with h | h
     ·rcases cD h with h | h
      ·exact key zs h z hz'
      ·rw[h] at hz';exact key _ (getD_in h2) z hz'
     ·rw[h] at hz';exact key _ (getD_in (by lia)) z hz'
    have sab:=sa.trans sb;have I2:=I.step hW ent h1 h2 h3;have hk2:ps.length < (HS (oZ ls ps.length t) ps.length P d).length:=by rw[Nl,xt];lia
    obtain ⟨n2,xs2,gx2,qx2⟩:=id Gb;obtain ⟨zk,vk,ek,evk,mk,qk,rfl,_,gk⟩:=i8 qx2 hk2;have wk:=I2.wide zk mk;exists cN (bR.of gx2) (fZ evk) ?_;exists cN (bR.of gk) (zW (by lia)) ?_;have gqb:=sab _ _ gq';exists ⟨.inl ⟨rfl,_,bR.of gqb⟩,?_⟩;exists j8 gqb (bF (by lia)) ?_;refine ⟨(s'.trans sab).after hq0,l2,_,ps++[P],_,_,_,_,rfl,?_,Gb.upd,?_⟩
    ·rw[aO];unfold dF;rw[cg];rfl
    ·have e:(HS (oZ ls ps.length t) ps.length P d).getD ps.length []=zk:=by rw[aa,ek];rfl
     rw[e] at I2;exact I2
   ·exists ⟨rfl,_,rfl,?_⟩;rw[show decide (V.non=V.non)=true from decide_eq_true rfl];exists ⟨s',lp,ls,ps,d,_,_,_,rfl,gq',G',I.skip hz⟩
  rintro σ' H' ⟨s',lp,ls,ps,d,y1,y2,y3,rfl,gq',G',I⟩;obtain ⟨R,hR⟩:=I.done hw F;have lps:(dF ps).length=ps.length:=aj ..;obtain ⟨nl,xs',gx',qx'⟩:=id G';exists ⟨_,_,rfl,.inl (bR.of gq'),?_⟩;rw[lps];exists II (bR.of gx') λsl H3 s3 n3 g3=>?_
  rw[HQ] at g3;exists b7 λt H4 s4 g4=>?_
  have s34:=s3.trans s4;exact k t sl qp R ps d _ H4 g4 (s34 _ _ gq') ⟨(λz=>by rw[z,gq'] at n3;cases n3),_,s4 _ _ g3,Paired.imp' (λ_ _ z=>Kv.same z s34) (mV qx' ps.length)⟩ (s'.trans s34) hR
theorem xB:a7 ["top","bottom","divisor"] ["top","bottom"] (aP Au):=by walk_at "d"
theorem tx (T:Txt K mg Z):cQ P w K mg base fI 2 Z.HZ Z.HM ["top","bottom"] KL:=by
 refine T.lV.F.ok xB (λvs H Q E h=>?_) (λcdv A outer s H vs Q E hr h=>?_)
 ·obtain ⟨t,b,rfl,_⟩:=h;rfl
 ·obtain ⟨t,b,rfl,hb,hs,k⟩:=h
  refine ⟨_,(av (a9 (i:=2) xB.nd rfl (Or.inl rfl) (cO (jC T) hr T.fK (ae (pv 0) (ae (pv 1) ag))))
   (av (cY (bw tP (pv 1) ar (bC _)) (aB (a9 (i:=2) xB.nd rfl (Or.inl rfl) (vD oY (pv 2)))) bW)
   (aB (aW (cU (ae (bH iO (pv 0) (pv 2)) (ae (bH iO (pv 1) (pv 2)) ag))))))),?_⟩
  refine aS (σ:=[some (.int t),some (.int b),none]) rfl ?_;exists ⟨t,b,rfl,?_⟩;have hg:=Bg (t:=t) hb
  have hgs:Sz 8999 (g t b):=hs.le (by
   have h1:(g t b).natAbs=Int.gcd t b:=by unfold g;simp
   rw[h1];exact jm (by lia) (by have:=fO (a:=t) (b:=b);exact gR.mpr this |> λz=>by simpa using z))
  have hgn:g (-t) (-b)=g t b:=by unfold g;rw[Int.gcd_neg,Int.neg_gcd]
  exists gY (λh=>?_) (λh=>?_)
  ·have hb0:b < 0:=of_decide_eq_true h;exists gP (show oS _ _ from ⟨by lia,hgs.neg⟩) ?_;exists gP (show oS _ _ from ⟨by lia,hgs.neg⟩) ?_;exists b7 λr H' s' h'=>?_
   have e1:t.fdiv (-g t b)=lo (-t) (-b):=by
    unfold Nm.lo;rw[hgn,<- cL _ (by lia),<- Int.neg_fdiv_neg (-t),Int.neg_neg]
   have e2:b.fdiv (-g t b)=hi (-t) (-b):=by
    unfold Nm.hi;rw[hgn,<- cL _ (by lia),<- Int.neg_fdiv_neg (-b),Int.neg_neg]
   exact k r H' s' (by rw[if_pos hb0,if_pos hb0,<- e1,<- e2];exact h')
  ·have hb0:¬b < 0:=λz=>h (decide_eq_true z)
   exists gP (show oS _ _ from ⟨by lia,hgs⟩) ?_;exists gP (show oS _ _ from ⟨by lia,hgs⟩) ?_;exists b7 λr H' s' h'=>?_
   rw[cL _ (by lia),cL _ (by lia)] at h';exact k r H' s' (by rw[if_neg hb0,if_neg hb0];exact h')
theorem An:a7 ["rows","wide","found"] ["rows","wide"] (aP xI):=by walk_at "d"
theorem AK (T:Txt K mg Z):cQ P w K mg base fI 5 Z.DW Z.Dy ["rows","wide"] (yo K):=by
 refine T.pZ.F.ok An (λvs H Q E h=>?_) (λcdv A outer s H vs Q E hr h=>?_)
 ·obtain ⟨p,n,w,H0,rows,rfl,_⟩:=h;rfl
 ·obtain ⟨p,n,w,H0,rows,rfl,G,r100,n100,hw,F,k⟩:=h
  refine ⟨_,(av (a9 (i:=2) An.nd rfl (Or.inl rfl) (cO (GK T) hr T.vL (ae (pv 0) (ae (pv 1) ag))))
   (aB (aW (cm ["line","lead"] [] [] (pR rfl T.zip (ae (bc bN (pv 2) ar) (ae (bc bN (pv 2) ar) ag))) (λ_=>(mU K 2 (cC (aQ (i:=0) (show ND9 ["line","lead"] by decide +kernel) rfl (Or.inr rfl) (Or.inl rfl)) (cC (aQ (i:=1) (show ND9 ["line","lead"] by decide +kernel) rfl (Or.inr rfl) (Or.inl rfl)) fY)))) (λ_=>cH) (λ_=>(cm ["top"] ["line","lead"] [0,1] (AG K (pv 0)) (λ_=>(aQ (i:=0) (show ND9 ["top","line","lead"] by decide +kernel))) (λ_=>cH) (λ_=>(cO (tx T) hr T.lV (ae (pv 0) (ae (bc (iP K (by rfl)) (pv 1) (pv 2)) ag)))))))))),?_⟩
  refine aS (σ:=[some (.ref p),some (.int n),none]) rfl ?_;obtain ⟨_,_,_,_,_,_,_,_,r15,r89⟩:=id F;exists ⟨p,n,w,H0,rows,rfl,G,r100,n100,hw,F,λt lp qp R ps d ls H1 gt gq G1 s1 S=>?_⟩;obtain ⟨lR,wR,RR⟩:=id S.rr;have hl:=S.len;obtain ⟨_,xs,gx,qx⟩:=id G1;sleep 11;have lps:(dF ps).length=ps.length:=aj ..;have d0:(d:Rat)≠0:=λz=>S.d0 (sV z)
  have dsz:Sz 8999 d:=bL S.dsz (eo (by decide) (by lia))
  have km:ps.length<=n:=by
   rcases b9 n ps.length with z | z
   ·have inc:∀j,j < ps.length->j<=ps.getD j 0:=by
     intro j
     induction j with
     | zero=>intro _;exact bu _
     | succ j ih =>
      intro hj;have:=ih (by lia);have:=RR.inc j (j+1) (by lia) hj
      lia
    have h1:=inc (ps.length - 1) (by lia);have h2:=RR.low (ps.length - 1) (by lia)
    lia
   ·exact z
  exists ⟨⟨_,bR.of gx⟩,⟨_,bR.of gq⟩,?_⟩;refine sU (K:=K) (xs:=xs) (ws:=dF ps) (λi ys H'=>aL H1 H'/\Paired (di K H1 H') (R.take i) ys) (aU (bF (by lia))) (by lia) ⟨aL.refl _,.nil⟩ (λi ys H' _ ⟨s,_⟩=>⟨bR.of (s _ _ gx),bR.of (s _ _ gq)⟩) ?_ ?_
  ·rintro i v1 v2 ys H' r h1 h2 hy ⟨s,pr⟩ hr;obtain ⟨zs,ez,q,rfl,_,gq1⟩:=b8 qx h1;have hi:i < ls.length:=(aF.mp ez).1;have mz:=ay ez;have wz:=S.wide zs mz
   obtain ⟨j,ej,rfl⟩:∃j:Nat,ps[i]?=some j/\V.int (j:Int)=v2:=by
    unfold dF at h2;rw[aG] at h2;cases e:ps[i]? with
    | none=>rw[e] at h2;cases h2
    | some x=>rw[e] at h2;exact ⟨x,rfl,cb h2⟩
   have ej':ps.getD i 0=j:=by rw[aa,ej];rfl
   have jn:j < n:=by have:=RR.low i (by lia);rw[ej'] at this;exact this
   have sr:aL H' (upd H' r (.tup [.ref q,.int j])):=aL.new hr;have gr:(upd H' r (.tup [.ref q,.int j])) r=some (.tup [.ref q,.int j]):=aO;generalize upd H' r (.tup [.ref q,.int j])=H2 at sr gr ⊢;have s2:=s.trans sr;have iR:i < R.length:=by lia
   have eR:=af iR;have wRi:=wR _ (aJ iR)
   have ed:zs.getD j 0=d:=by
    have h:=S.val i j;rw[LG ez] at h;have u:=RR.unit i (by lia) i (by lia);rw[if_pos rfl,ej'] at u;rw[u,Eb] at h;exact d6.mp h
   have val:∀c,((zs.getD c 0:Int):Rat)=(d:Rat)*(R[i]).getD c 0:=λc=>by
    have h:=S.val i c;rw[LG ez] at h;rw[h];unfold bU;rw[aa (l:=R),eR];rfl
   exists ⟨⟨_,bR.of (s2 _ _ gq1)⟩,?_⟩;refine fu (K:=K) (xs:=zs.map V.int) (λc ys' H3=>aL H2 H3/\Paired (cz K H3) ((R[i]).take c) ys') (aU (bF (by rw[aj];lia))) ⟨aL.refl _,.nil⟩ (λc ys' H3 _ ⟨s3,_⟩=>bR.of ((s2.trans s3) _ _ gq1)) ?_ ?_
   ·rintro c x ys' H3 hx hlen ⟨s3,pr3⟩
    obtain ⟨z,ec,rfl⟩:∃z,zs[c]?=some z/\V.int z=x:=by
     rw[aG] at hx;cases e:zs[c]? with
     | none=>rw[e] at hx;cases hx
     | some x=>rw[e] at hx;exact ⟨x,rfl,cb hx⟩
    have hc:c < zs.length:=(aF.mp ec).1;have vc:=val c;have e1:zs.getD c 0=z:=by rw[aa,ec];rfl
    rw[e1] at vc;exists cN (bR.of ((s2.trans s3) _ _ gq1)) (zW (by lia)) ?_;rw[ed];exists ⟨z,d,rfl,S.d0,dsz,λr4 H4 s4 g4=>?_⟩;have ec':(R[i])[c]?=some ((R[i]).getD c 0):=by rw[aa,af (show c < (R[i]).length by lia)];rfl
    refine ⟨s3.trans s4,?_⟩;rw[take_snoc ec'];refine bT (Paired.imp' (λ_ _ z=>cz.same z s4) pr3) (.cons (cz.mk g4 ?_) .nil);rcases Int.lt_or_lt_of_ne S.d0 with hd | hd
    ·rw[if_pos hd,if_pos hd];refine qB (by lia) ?_;rw[c9,c9,vc];grind
    ·rw[if_neg (by lia),if_neg (by lia)];refine qB hd ?_;rw[vc];grind
   ·rintro ys' H3 hy' ⟨s3,pr3⟩ l4 hl4;have sn:aL H3 (upd H3 l4 (.lst ys')):=aL.new hl4;refine ⟨(s2.trans s3).trans sn,?_⟩;rw[take_snoc eR];rw[aI (by rw[aj];lia)] at pr3;exact bT (Paired.imp' (λ_ _ z=>di.same z ((sr.trans s3).trans sn)) pr) (.cons ⟨l4,rfl,(s2.trans s3).none hl4,ys',aO,Paired.imp' (λ_ _ z=>cz.same z sn) pr3⟩ .nil)
  ·rintro ys H' hy ⟨s,pr⟩ r hr;have sn:aL H' (upd H' r (.lst ys)):=aL.new hr;rw[aI (by lia)] at pr;refine k r R ps d.natAbs _ (s1.none (s.none hr)) ((s1.trans s).trans sn) ⟨ys,aO,Paired.imp' (λ_ _ z=>(di.weak z s1).same sn) pr,jD (H0:=H1) (rows:=R) ⟨H',hr,pr⟩⟩ S.rr S.km ?_ S.dsz S.tp;have:=S.d0
   lia
theorem o7:a7 ["one","other","one_bottom","other_bottom","pairs"] ["one","other"] (aP xH):=by walk_at "d"
theorem uY (T : Txt K mg Z) : cQ P w K mg base fI 4 Z.DV Z.Dx ["one", "other"] (Er K) := by
  have qV := oF (P := P) (w := w) (base := base) T;have zh := vE (P := P) (w := w) (base := base) T;have Nx := tx (P := P) (w := w) (base := base) T;refine T.mF.F.ok o7 (λvs H Q E h => ?_) (λcdv A outer s H vs Q E hr h => ?_)
  · obtain ⟨p, q, xs, ys, rfl, _⟩ := h;rfl
  · obtain ⟨p, q, xs, ys, rfl, hp, hq, hl, hz, ⟨k1, j1, k2, j2, h1, h2, hkj⟩, kk⟩ := h
    refine ⟨_, (av (a9 (i := 2) o7.nd rfl (Or.inl rfl) (cO qV hr T.gG (ae (pv 0) ag)))
      (av (a9 (i := 3) o7.nd rfl (Or.inl rfl) (cO qV hr T.gG (ae (pv 1) ag)))
      (av (a9 (i := 4) o7.nd rfl (Or.inl rfl) (IP rfl T.list rfl T.zip (ae (cO zh hr T.jG (ae (pv 0) (ae (pv 2) ag))) (ae (cO zh hr T.jG (ae (pv 1) (ae (pv 3) ag))) ag))))
      (aB (aW (cO Nx hr T.lV (ae (bJ (Nn rfl) (by rfl) T.sum PyProof.Rows.boot_sum (ae (cm ["mine", "yours"] [] [] (cM (pv 4)) (λ_ => (mU K 2 (cC (aQ (i := 0) (show List.Nodup (α := PySem.Str) ["mine", "yours"] by decide +kernel)) (cC (aQ (i := 1) (show List.Nodup (α := PySem.Str) ["mine", "yours"] by decide +kernel)) fY)))) (λ_ => cH) (λ_ => (bH dw (pv 0) (pv 1)))) ag)) (ae (bH dw (pv 2) (pv 3)) ag)))))))), ?_⟩
    refine aS (σ := [some (.ref p), some (.ref q), none, none, none]) rfl ?_;obtain ⟨M, h1⟩ := h1.rowM (by lia);obtain ⟨N, h2⟩ := h2.rowM (by lia);replace hp := hp.rowK;replace hq := hq.rowK;replace hl : (ys.map nm).length = (xs.map nm).length := by simpa using hl
    replace hz : (xs.map nm).length ≤ 1000 := by simpa using hz
    obtain ⟨b1, s1⟩ := h1.bot;obtain ⟨b2, s2⟩ := h2.bot;have k2 : ∀ r H', aL H H' → H' r = some (.tup [.int (lo (Nd (xs.map nm) (ys.map nm)) (ir (xs.map nm) * ir (ys.map nm))), .int (hi (Nd (xs.map nm) (ys.map nm)) (ir (xs.map nm) * ir (ys.map nm)))]) → Q (.ref r) H' := λr H' s g => kk r H' s (cz.mk g (OZ b1 b2))
    clear kk;generalize xs.map nm = ns at hp hq hl hz h1 h2 b1 b2 s1 s2 k2;generalize ys.map nm = ms at hp hq hl hz h1 h2 b1 b2 s1 s2 k2;have hb : 0 < ir ns * ir ms := mO b1 b2;exists ⟨p, ns, M, rfl, hp, hz, h1, λH1 t1 => ?_⟩;exists ⟨q, ms, N, rfl, hq.same t1, by lia, h2, λH2 t2 => ?_⟩;have u2 := t1.trans t2;exists ⟨p, ns, M, _, rfl, hp.same u2, hz, h1, b1, s1, λr1 H3 n3 t3 g3 => ?_⟩;exists ⟨q, ms, N, _, rfl, (hq.same u2).same t3, by lia, h2, b2, s2, λr2 H4 n4 t4 g4 => ?_⟩;exists ⟨r1, r2, _, _, rfl, bR.of (t4 _ _ g3), bR.of g4, by simp [fW, hl], λL ts H5 t5 n5 g5 pr => ?_⟩;have lt := pr.length;have ll : (fW ns (ir ns)).length = ns.length := by simp [fW]
    have lm : (fW ms (ir ms)).length = ns.length := by simp [fW, hl]
    rw [BQ, aj, aj, ll, lm] at lt;exists ⟨⟨_, bR.of g5⟩, ?_⟩;refine fu (K := K) (xs := ts) (λi ys H' => H' = H5 /\ ys = ((List.zipWith (· * ·) (fW ns (ir ns)) (fW ms (ir ms))).take i).map V.int) (aU (bF (by lia))) ⟨rfl, rfl⟩ (λi ys H' _ ⟨e, _⟩ => by subst e; exact bR.of g5) ?_ ?_
    · rintro i x ys H' hx hlen ⟨rfl, rfl⟩;obtain ⟨pq, epq, T, rfl, gT⟩ := b8 pr hx;obtain ⟨t, u, et, eu, rfl⟩ := NK epq;exists gP (show iI _ _ from .inr ⟨_, _, FK h1 b1 s1 (ay et), FK h2 b2 s2 (ay eu), by decide⟩) ?_;have ez : (List.zipWith (· * ·) (fW ns (ir ns)) (fW ms (ir ms)))[i]? = some (t * u) := by rw [ck, et, eu]
      exact ⟨rfl, by rw [take_snoc ez]; simp⟩
    · rintro ys H' hy ⟨rfl, rfl⟩ l hl';exists ⟨l, List.zipWith (· * ·) (fW ns (ir ns)) (fW ms (ir ms)), rfl, bR.of (by rw [aO, aI (by rw [cT]; lia)]), ?_⟩;exists gP (show iI _ _ from .inr ⟨_, _, s1, s2, by decide⟩) ?_;exists ⟨_, _, rfl, by lia, (s1.mul s2).mono (by decide), λr H6 t6 g6 => ?_⟩;rw [if_neg (by lia), if_neg (by lia)] at g6;exact k2 r H6 ((((u2.trans t3).trans t4).trans t5).trans ((aL.new hl').trans t6)) g6
theorem IB:a7 ["grid","row"] ["grid","row"] (aP xN):=by walk_at "d"
theorem AM (T:Txt K mg Z):cQ P w K mg base fI 5 Z.D3 Z.DC ["grid","row"] (Ep K):=by
 refine T.p7.F.ok IB (λvs H Q E h=>?_) (λcdv A outer s H vs Q E hr h=>?_)
 ·obtain ⟨p,q,H0,rows,ys,rfl,_⟩:=h;rfl
 ·obtain ⟨p,q,H0,rows,ys,rfl,hp,hq,hz,hl,hr1,kk⟩:=h;refine ⟨_,(aB (aW (cm ["line"] ["row"] [1] (cM (pv 0)) (λ_=>(aQ (i:=0) (show ND9 ["line","row"] by decide +kernel))) (λ_=>cH) (λ_=>(cO (uY T) hr T.mF (ae (pv 0) (ae (pv 1) ag))))))),?_⟩;sleep 5;obtain ⟨xs,gx,qx,_⟩:=id hp;sleep 7;refine dW (K:=K) (F:=di K H0) (cz K) (λxs=>cE xs ys) gx qx hz (λa b=>a.same b) (λa b=>a.same b) ?_ ?_
  ·rintro i ns x H' NY NN en s ⟨u,rfl,_,hu⟩ k;obtain ⟨e1,e2⟩:=hr1 ns (ay en);exists ⟨u,q,ns,ys,rfl,hu,hq.same s,e1.symm,by lia,e2,λr H2 s2 h2'=>k _ _ s2 h2'⟩
  ·rintro ys' H' r hr s g pr nx;exact kk r H' hr s ⟨ys',g,pr⟩
theorem BX:a7 ["system","rows"] ["system","rows"] (aP pB):=by walk_at "d"
theorem tQ (T:Txt K mg Z):cQ P w K mg base fI 6 Z.wQ Z.v7 ["system","rows"] (CK K Z.a_System):=by
 refine T.kE.F.ok BX (λvs H Q E h=>?_) (λcdv A outer s H vs Q E hr h=>?_)
 ·obtain ⟨x,p,H0,H1,mv,pt,lk,R,rfl,_⟩:=h;rfl
 ·obtain ⟨x,p,H0,H1,mv,pt,lk,R,rfl,S,D,G,l100,wR,hf,k⟩:=h;refine ⟨_,(aB (aW (cm ["row"] ["system"] [0] (cM (pv 1)) (λ_=>(aQ (i:=0) (show ND9 ["row","system"] by decide +kernel))) (λ_=>cH) (λ_=>(cO (AM T) hr T.p7 (ae (JQ K (pv 1) rfl) (ae (pv 0) ag))))))),?_⟩;refine aS (σ:=[some (.ref x),some (.ref p)]) rfl ?_;obtain ⟨dx,a',b',c',gx,_,_,_,Ga,Gb,Gc⟩:=id S;have d8:=D.n8;obtain ⟨xs,gxs,qx,_⟩:=id G;exists ⟨⟨_,bR.of gxs⟩,?_⟩;refine dW (K:=K) (F:=di K H1) (di K H) (oU mv) gxs qx (by lia) (λa b=>a.same b) (λa b=>a.same b) ?_ ?_
  ·rintro i ns v H' NY NN en s ⟨u,rfl,_,hu⟩ k1;have mn:=ay en;exists ⟨x,Z.a_System,dx,_,_,rfl,s _ _ gx,T.cl_System,T.na_move,zZ,?_⟩;exists ⟨a',u,H0,mv,ns,rfl,Ga.same s,hu,by lia,by rw[wR ns mn];lia,λxs hx=>⟨by rw[D.mw xs hx,wR ns mn],hf xs hx ns mn⟩,λr H2 nr s2 R2=>k1 _ _ s2 ⟨r,rfl,s.none nr,R2⟩⟩
  ·rintro ys H' r hr s g pr nx;exact k r H' hr s ⟨ys,g,pr,jD nx⟩
theorem l9:a7 ["system","steps","lists","rows"] ["system","steps"] (aP nH):=by walk_at "d"
theorem so (T:Txt K mg Z):cQ P w K mg base fI 7 Z.uo Z.tV ["system","steps"] (CO K Z.a_System):=by
 refine T.jH.F.ok l9 (λvs H Q E h=>?_) (λcdv A outer s H vs Q E hr h=>?_)
 ·obtain ⟨x,a,c,st,H0,mv,pt,lk,rfl,_⟩:=h;rfl
 ·obtain ⟨x,a,c,st,H0,mv,pt,lk,rfl,s1000,S,D,F,k⟩:=h
  refine ⟨_,(av (a9 (i:=2) l9.nd rfl (Or.inl rfl) (dG (ae (dG ag) ag)))
   (av (AB PassesOwn.never (bw SY (bJ bx (by rfl) T.len bg (ae (pv 2) ag)) (pv 1) (bC _))
    (av (a9 (i:=3) l9.nd rfl (Or.inl rfl) (cO (AK T) hr T.pZ (ae (bH iK (fP (pv 0) rfl) (cO (tQ T) hr T.kE (ae (pv 0) (ae (bc bX (pv 2) (vD oY ar)) ag)))) (ae (fP (pv 0) rfl) ag))))
   (av (cY (bw eO (bJ bx (by rfl) T.len bg (ae (pv 3) ag)) (bJ bx (by rfl) T.len bg (ae (bc bX (pv 2) (vD oY ar)) ag)) (bC _)) (aB (aW (pv 2))) bW)
   (aB (jy (yr dD dZ dX ke (pv 2) (ae (pv 3) ag)))))))
   (aB (aW (pv 2))))),?_⟩
  refine aS (σ:=[some (.ref x),some (.int st),none,none]) rfl ?_;obtain ⟨dx,a',b',c',gx,_,_,_,Ga,Gb,Gc⟩:=id S;have d8:=D.n8;have i4:=D.i4;have lP:=fD (mv:=mv) (pt:=pt) rfl D.pw;exists c8 λq0 H1 s1 nq0 g1=>?_
  exists c8 λl H2 s2 nl g2=>?_
  have s02:=s1.trans s2;have nl0:H l=none:=s1.none nl;obtain ⟨Hz,eHz⟩:∃Hz,Hz=upd H l (.lst []):=⟨_,rfl⟩;have zl:Hz l≠none:=by rw[eHz,aO];exact λz=>nomatch z
  have zn:∀q,Hz q=none->H q=none/\q≠l:=λq h=>by
   have ne:q≠l:=λz=>zl (by rw[<- z];exact h)
   rw[eHz,bM ne] at h;exact ⟨h,ne⟩
  have nz:∀q,H q=none->q≠l->Hz q=none:=λq h ne=>by rw[eHz,bM ne];exact h
  clear eHz;have q0l:q0≠l:=λz=>by rw[z,nl] at g1;cases g1
  have G0:bE K Hz H2 q0 []:=⟨[],s2 _ _ g1,.nil,λz=>nomatch z⟩;exists Ei (λσ' H'=>aL H H'/\∃Rs R us y,σ'=[some (.ref x),some (.int st),some (.ref l),y]/\H' l=some (.lst us)/\Paired (λR v=>∃q,v=V.ref q/\Hz q=none/\bE K Hz H' q R) (Rs++[R]) us/\td mv pt (Rs++[R])/\Rs.length<=st) (λ_ H'=>match H' l with | some (.lst us)=>st+1 - us.length | _=>0) ⟨s02,[],[],_,_,rfl,g2,.cons ⟨q0,rfl,nz q0 nq0 q0l,G0⟩ .nil,⟨by simp,λt R e=>?_,λt R R' e e'=>?_⟩,bu _⟩ ?_
  ·have ht:=(aF.mp e).1;have:t=0:=by simpa using ht
   subst this;cases e;exact ⟨[],IG⟩
  ·have ht:=(aF.mp e').1;simp at ht
  rintro σ' Ha ⟨sa,Rs,R,us,y,rfl,gu,pa,Gw,hst⟩;have lu:=pa.length;rw[au,bf] at lu;have eR:(Rs++[R])[Rs.length]?=some R:=by rw[aZ (ak _),fF];rfl
  obtain ⟨ps,RR⟩:=Gw.rr _ _ eR;have tn:Rs.length<=mv.length:=by have:=Gw.len _ _ eR;have:=RR.le;have:=RR.1;lia
  have fin:∀(Hx:Hp) (sx:aL Ha Hx) (hh:∀s,(Rs.length=st/\s=st\/Rs.length < st/\Rs.length<=s)->∃ps,bI (kry mv pt s) mv.length R ps),Q (.ref l) Hx:=λHx sx hh=>by
   refine k l (Rs++[R]) Hx nl0 (sa.trans sx) ⟨us,sx _ _ gu,Paired.imp' (λ_ _ ⟨q,e1,e2,e3⟩=>⟨q,e1,(zn q e2).1,(zn q e2).2,bE.weakN (bE.same e3 sx) λq h=>(zn q h).1⟩) pa⟩ Gw (by rw[au,bf];lia) λR2 e2 s hs=>?_
   rw[List.getLast?_concat] at e2;cases e2;rw[au,bf,Nat.add_sub_cancel] at hs;exact hh s hs
  exists ⟨_,_,rfl,.inl (bR.of gu),?_⟩;exists gY (λh0=>?_) (λh0=>?_)
  ·have h0:=of_decide_eq_true h0;refine Po ?_
   obtain ⟨zs,gS⟩:∃zs q,us=zs++[V.ref q]/\Hz q=none/\bE K Hz Ha q R:=by
    obtain ⟨v,ev,q,rfl,e2,e3⟩:∃v,us[Rs.length]?=some v/\∃q,v=V.ref q/\Hz q=none/\bE K Hz Ha q R:=by
     have ev:=af (show Rs.length < us.length by lia);obtain ⟨R2,e2,w⟩:=b8 pa ev;rw[eR] at e2;cases e2;exact ⟨_,ev,w⟩
    refine ⟨us.take Rs.length,q,?_,e2,e3⟩;rw[<- take_snoc ev,aI (by lia)]
   obtain ⟨q,rfl,zq,Gq⟩:=gS;have gxa:=sa _ _ gx;exists ⟨x,Z.a_System,dx,_,_,rfl,gxa,T.cl_System,T.na_put,En,?_⟩;exists cN (bR.of gu) (sY _ _) ?_;have wR:=RR.2.1;have lR:=RR.1;have pn:=RR.le;exists ⟨x,q,H0,Hz,mv,pt,lk,R,rfl,S.same sa,D,Gq,by lia,wR,F.fit d8 D.mw D.pw tn RR,λmr Hb nmr sb Gm=>?_⟩;obtain ⟨pv,gpv,qpv,_⟩:=Gb.same (sa.trans sb);obtain ⟨mvs,gmv,qmv,_⟩:=id Gm;have lpv:=qpv.length;have lmv:=qmv.length;rw[aj] at lmv;exists iJ gpv gmv (aU (bF (by lia))) λcr Hc sc nc gc=>?_
   have sab:=sa.trans (sb.trans sc);have Gc':bE K (λ_=>none) Hc cr (pt++R.map (oU mv)):=yd (H:=Hb) (bT (Paired.imp' (λ_ _ ⟨q,e1,e2,e3⟩=>⟨q,e1,rfl,e3⟩) qpv) (Paired.imp' (λ_ _ ⟨q,e1,e2,e3⟩=>⟨q,e1,rfl,e3⟩) qmv)) sc nc gc;exists ⟨x,Z.a_System,dx,_,_,rfl,sab _ _ gx,T.cl_System,T.na_states,gL,?_⟩;exists ⟨cr,mv.length,_,_,_,rfl,Gc',by rw[au,aj];lia,by lia,λxs hx=>?_,F.step d8 D.mw D.pw tn RR,λrr R' ps' M' Hd nrr sd G' RR' pm' _ _ _=>?_⟩
   ·sleep 1
    ·exact D.pw xs hx
    ·obtain ⟨y,_,rfl⟩:=aE.mp hx;exact uW
   have sbd:=sb.trans (sc.trans sd);have sad:=sa.trans sbd;have K1:=vQ rfl D.mw D.pw RR RR';have gud:=sbd _ _ gu;obtain ⟨rv,grv,qrv,_⟩:=id G';have lrv:=qrv.length;have lR':=RR'.1;have pn':=RR'.le;exists ⟨_,_,rfl,.inl (bR.of grv),?_⟩;exists cN (bR.of gud) (sY _ _) ?_;obtain ⟨ov,gov,qov,_⟩:=Gq.same sbd;have lov:=qov.length;exists ⟨_,_,rfl,.inl (bR.of gov),?_⟩;exists gY (λh1=>?_) (λh1=>?_)
   ·have h1:=of_decide_eq_true h1;exists fin Hd sbd λs hs=>⟨ps,?_⟩
    obtain ⟨s',rfl⟩:∃s',s=Rs.length+s':=⟨s - Rs.length,by lia⟩;exact Dq rfl D.mw D.pw RR RR' (by lia) s'
   ·have h1:¬((rv.length:Int)=ov.length):=λz=>h1 (decide_eq_true z)
    have gr:=Hv rfl D.mw D.pw RR K1;have rl:rr≠l:=λz=>by rw[z,(sb.trans sc) _ _ gu] at nrr;cases nrr
    have zc:∀q,Hc q=none->Hz q=none:=λq h=>nz q (sab.none h) (λz=>by rw[z,(sb.trans sc) _ _ gu] at h;cases h)
    exists ⟨.inl ⟨rfl,_,bR.of gud⟩,?_⟩;exists j8 gud (bF (by lia)) ?_;refine ⟨⟨sad.after nl0,Rs++[R],R',_,_,rfl,aO,bT (Paired.imp' (λ_ _ ⟨q,e1,e2,e3⟩=>⟨q,e1,e2,bE.updL (bE.same e3 sbd) gud zl (zn q e2).2⟩) pa) (.cons ⟨rr,rfl,zc rr nrr,bE.updL (G'.weakN zc) gud zl rl⟩ .nil),Gw.snoc K1 (by lia),by rw[au,bf];lia⟩,?_⟩;simp only[gu,aO,au,bf] at lu h0 ⊢
    lia
  ·have h0:¬((us.length:Int)<=st):=λz=>h0 (decide_eq_true z)
   walk_at "w"
   exact fin Ha (aL.refl _) λs hs=>⟨ps,by
    have:s=Rs.length:=by lia
    rw[this];exact RR⟩
theorem Ez:a7 ["lists","joined","each"] ["lists"] (aP IE):=by walk_at "d"
theorem OO (T:Txt K mg Z):cQ P w K mg base fI 1 Z.Nu Z.Ng ["lists"] (F9 K):=by
 refine T.E8.F.ok Ez (λvs H Q E h=>?_) (λcdv A outer s H vs Q E hr h=>?_)
 ·obtain ⟨p,xs,Rs,rfl,_⟩:=h;rfl
 ·obtain ⟨p,xs,Rs,rfl,gx,qx,hl,k⟩:=h
  refine ⟨_,(av (a9 (i:=1) Ez.nd rfl (Or.inl rfl) (dG ag))
   (av (dQ PassesOwn.never rfl (cM (pv 0)) (aQ (i:=2) Ez.nd)
    (aB (jy (yr dD PySem.F.slot_list_extend PySem.F.type_list_extend Lf (pv 1) (ae (pv 2) ag)))))
   (aB (aW (pv 1))))),?_⟩
  refine aS (σ:=[some (.ref p),none,none]) rfl ?_;sleep 11;exists c8 λj H1 s1 n1 g1=>?_
  exists ⟨⟨_,bR.of (s1 _ _ gx)⟩,?_⟩;refine gV (K:=K) (a:=p) (xs:=xs) (λi σ' H'=>aL H H'/\∃(us:List V) (x:Option V),σ'=[some (.ref p),some (.ref j),x]/\H' j=some (.lst us)/\Paired (di K (Cp j) H') (Rs.take i).flatten us) ⟨s1,[],none,rfl,g1,.nil⟩ (λi σ' H' _ ⟨s,_⟩=>bR.of (s _ _ gx)) ?_ ?_
  ·rintro i x σ' H' hx ⟨s,us,y,rfl,gj,pr⟩;obtain ⟨qs,eq,q,rfl,_,Gq⟩:=b8 qx hx;obtain ⟨qj,zs,gz,qz,_⟩:=Gq.off n1;have lz:=qz.length;have lu:=pr.length;have tl:(Rs.take (i+1)).flatten=(Rs.take i).flatten++qs:=by rw[take_snoc eq,iG];simp
   have bl:(Rs.take i).flatten.length+qs.length<=1000:=by
    have e:Rs.flatten=(Rs.take (i+1)).flatten++(Rs.drop (i+1)).flatten:=by rw[<- iG,List.take_append_drop]
    rw[e,tl,au,au] at hl
    lia
   exists ⟨.inl ⟨rfl,_,bR.of gj⟩,?_⟩;exists ⟨j,q,us,zs,rfl,rfl,gj,s _ _ gz,aU (bF (by lia)),?_⟩;refine ⟨s.after n1,_,_,rfl,aO,?_⟩;rw[tl];exact bT (Paired.imp' (λ_ _ z=>di.updL z gj off_ne) pr) (Paired.imp' (λ_ _ z=>di.updL (di.same z s) gj off_ne) qz)
  ·rintro σ' H' ⟨s,us,y,rfl,gj,pr⟩;rw[aI (by lia)] at pr;exists k j (Cp j) H' n1 s ⟨us,gj,pr,λz=>?_⟩;obtain ⟨_,_,q,e,h,_⟩:=dh pr z;cases e;exact off_ne h
theorem js:a7 ["system","steps","lists","rows","step"] ["system","steps"] (aP rK):=by walk_at "d"
theorem EX (T:Txt K mg Z):cQ P w K mg base fI 7 Z.yU Z.yD ["system","steps"] (Gh K Z.a_System):=by
 refine T.p9.F.ok js (λvs H Q E h=>?_) (λcdv A outer s H vs Q E hr h=>?_)
 ·obtain ⟨x,u,a,c,H0,mv,pt,lk,rfl,_⟩:=h;rfl
 ·obtain ⟨x,u,a,c,H0,mv,pt,lk,rfl,hu,S,D,F,k⟩:=h
  refine ⟨_,(av (a9 (i:=2) js.nd rfl (Or.inl rfl) (dG ag))
   (av (a9 (i:=3) js.nd rfl (Or.inl rfl) (fP (pv 0) rfl))
   (av (dQ PassesOwn.never rfl (cB rfl T.range (ae (pv 1) ag)) (aQ (i:=4) js.nd)
    (av (jy (yr dD dZ dX ke (pv 2) (ae (pv 3) ag)))
   (aB (a9 (i:=3) js.nd rfl (Or.inl rfl) (cO (tQ T) hr T.kE (ae (pv 0) (ae (pv 3) ag)))))))
   (aB (aW (pv 2)))))),?_⟩
  refine aS (σ:=[some (.ref x),some (.int u),none,none,none]) rfl ?_;obtain ⟨dx,a',b',c',gx,_,_,_,Ga,Gb,Gc⟩:=id S;have d8:=D.n8;have i4:=D.i4;exists c8 λl H1 s1 n1 g1=>?_
  exists ⟨x,Z.a_System,dx,_,_,rfl,s1 _ _ gx,T.cl_System,T.na_put,En,?_⟩;walk_at "w";obtain ⟨bl,G0⟩:=Gb.off n1;have G1:=G0.same s1;refine ⟨by lia,by lia,?_⟩;refine eP (n:=u) (λi σ' H'=>aL H H'/\∃q us y,σ'=[some (.ref x),some (.int u),some (.ref l),some (.ref q),y]/\q≠l/\H' l=some (.lst us)/\Paired (Ly K l H') (Lr mv pt i) us/\bE K (Cp l) H' q (pt.map (ig mv i))) ⟨s1,b',[],_,rfl,bl,g1,.nil,by rw[show pt.map (ig mv 0)=pt from qX pt];exact G1⟩ ?_ ?_
  ·rintro i σ' H' hi ⟨s',q,us,y,rfl,ql,gu,pu,Gq⟩;have lu:=pu.length;have la:(Lr mv pt i).length=i:=by unfold Lr;rw[aj,cv]
   exists ⟨.inl ⟨rfl,_,bR.of gu⟩,?_⟩;exists j8 gu (bF (by lia)) ?_;have s2:aL H (upd H' l (.lst (us++[V.ref q]))):=s'.after n1;have g2:(upd H' l (.lst (us++[V.ref q]))) l=some (.lst (us++[V.ref q])):=aO
   have p2:Paired (Ly K l (upd H' l (.lst (us++[V.ref q])))) (Lr mv pt (i+1)) (us++[V.ref q]):=by
    rw[Fx];exact bT (Paired.imp' (λ_ _ z=>Ly.upd z gu) pu) (.cons ⟨q,rfl,ql,Gq.updL gu off_ne ql⟩ .nil)
   have Gq2:=Gq.updL (o:=.lst (us++[V.ref q])) gu off_ne ql;generalize upd H' l (.lst (us++[V.ref q]))=H2 at s2 g2 p2 Gq2 ⊢;exists ⟨x,q,H0,Cp l,mv,pt,lk,_,rfl,S.same s2,D,Gq2,by rw[aj];lia,λr hr=>?_,F.fitP D.mw D.pw (by lia),λr H3 nr s3 G3=>?_⟩
   ·obtain ⟨y,hy,rfl⟩:=aE.mp hr;exact iS (D.pw y hy) i
   ·have e:(pt.map (ig mv i)).map (oU mv)=pt.map (ig mv (i+1)):=by rw[nF];rfl
    rw[e] at G3;exact ⟨s2.trans s3,r,_,_,rfl,λz=>(by rw[z,g2] at nr;cases nr),s3 _ _ g2,Paired.imp' (λ_ _ z=>Ly.same z s3) p2,G3.weakN λq h=>Mt λz=>by rw[z,g2] at h;cases h⟩
  ·rintro σ' H' ⟨s',q,us,y,rfl,ql,gu,pu,Gq⟩;exists k l us H' n1 s' gu pu
theorem BW:a7 ["many"] ["many"] (aP pz):=by walk_at "d"
theorem kD (T:Txt K mg Z):cQ P w K mg base fI 1 Z.wO Z.v5 ["many"] (Qm K):=by
 refine T.gX.F.ok BW (λvs H Q E h=>?_) (λcdv A outer s H vs Q E hr h=>?_)
 ·obtain ⟨m,rfl,_⟩:=h;rfl
 ·obtain ⟨m,rfl,hm,k⟩:=h;refine ⟨_,(aB (aW (cm ["place"] [] [] (cB rfl T.range (ae (pv 0) ag)) (λ_=>(aQ (i:=0) (show ND9 ["place"] by decide +kernel))) (λ_=>cH) (λ_=>(kC (v:=.ref Z.a_NOUGHT) rfl T.mg_NOUGHT rfl))))),?_⟩;refine aS (σ:=[some (.int m)]) rfl ?_;sleep 3;refine fJ (n:=m) (cz K) (λ_=>0) (by lia) (λa b=>a.same b) ?_ ?_
  ·rintro i Ha NY NN hi sa k1;exists k1 _ _ (aL.refl _) ⟨_,rfl,T.sq_NOUGHT _⟩
  ·rintro ys H1 t ht s1 g1 pr _;exact k t H1 ht s1 ⟨ys,g1,by rw[<- MC];exact pr⟩
theorem oE:a7 ["rows","wide","due","found","answer","line","lead"] ["rows","wide","due"] (aP As):=by walk_at "d"
theorem De (T:Txt K mg Z):cQ P w K mg base fI 5 Z.HY Z.HL ["rows","wide","due"] (Ac K):=by
 refine T.tD.F.ok oE (λvs H Q E h=>?_) (λcdv A outer s H vs Q E hr h=>?_)
 ·obtain ⟨p,q,n,w,H0,rows,due,rfl,_⟩:=h;rfl
 ·obtain ⟨p,q,n,w,H0,rows,due,rfl,G,Rd,hd,m99,n99,hw,F,k1,k2⟩:=h
  refine ⟨_,(av (a9 (i:=3) oE.nd rfl (Or.inl rfl) (cO (GK T) hr T.vL (ae (cm ["row","wanted"] [] [] (pR rfl T.zip (ae (pv 0) (ae (pv 2) ag))) (λ_=>(mU K 2 (cC (aQ (i:=0) (show ND9 ["row","wanted"] by decide +kernel)) (cC (aQ (i:=1) (show ND9 ["row","wanted"] by decide +kernel)) fY)))) (λ_=>cH) (λ_=>(bH iK (pv 0) (dG (ae (pv 1) ag))))) (ae (bH dR (pv 1) ar) ag))))
   (av (cY (bw K8 (pv 1) (bc bN (pv 3) ar) (by with_unfolding_all rfl)) (aB (aW uS)) bW)
   (av (a9 (i:=4) oE.nd rfl (Or.inl rfl) (cO (kD T) hr T.gX (ae (pv 1) ag)))
   (av (dQ PassesOwn.never rfl (pR rfl T.zip (ae (bc bN (pv 3) ar) (ae (bc bN (pv 3) ar) ag))) (pS rfl (cC (aQ (i:=5) oE.nd) (cC (aQ (i:=6) oE.nd) fY)))
    (aB (fh (cO (tx T) hr T.lV (ae (bc bX (pv 5) (pv 1)) (ae (bc bX (pv 5) (pv 6)) ag))) (gQ (pv 4) (pv 6) set_list))))
   (aB (aW (pv 4))))))),?_⟩
  refine aS (σ:=[some (.ref p),some (.int n),some (.ref q),none,none,none,none]) rfl ?_;obtain ⟨xs,gx,qx,_⟩:=id G;obtain ⟨ds,gd,qd⟩:=id Rd;sleep 11;have ld:=qd.length;have lj:=oA hd;exists ⟨⟨_,bR.of gx⟩,⟨_,bR.of gd⟩,?_⟩;refine sU (K:=K) (xs:=xs) (ws:=ds) (λi ys H'=>aL H H'/\Paired (di K H H') ((c5 rows due).take i) ys) (aU (bF (by lia))) (by lia) ⟨aL.refl _,.nil⟩ (λi ys H' _ ⟨s,_⟩=>⟨bR.of (s _ _ gx),bR.of (s _ _ gd)⟩) ?_ ?_
  ·rintro i v1 v2 ys H' r h1 h2 hy ⟨s,pr⟩ hr;obtain ⟨row,er,u,rfl,_,Ru⟩:=b8 qx h1;obtain ⟨d,ed,nd⟩:=b8 qd h2;have wr:=hw row (ay er);have sr:aL H' (upd H' r (.tup [.ref u,v2])):=aL.new hr;have gr:(upd H' r (.tup [.ref u,v2])) r=some (.tup [.ref u,v2]):=aO;generalize upd H' r (.tup [.ref u,v2])=H2 at sr gr ⊢;have s2:=s.trans sr;exists c8 λl1 H3 s3 n3 g3=>?_
   have s23:=s2.trans s3;obtain ⟨zs,gz,qz⟩:=Ru.same s23;have lz:=qz.length;exists iJ gz g3 (aU (bF (by rw[bf];lia))) λl2 H4 s4 n4 g4=>?_
   refine ⟨s23.trans s4,?_⟩;rw[take_snoc (PB er ed)];exact bT (Paired.imp' (λ_ _ z=>di.same z ((sr.trans s3).trans s4)) pr) (.cons ⟨l2,rfl,s23.none n4,_,g4,Paired.imp' (λ_ _ z=>cz.same z s4) (bT qz (.cons (nd.same s23) .nil))⟩ .nil)
  rintro ys H1 hy ⟨s1,pr⟩ l hl;have sn:aL H1 (upd H1 l (.lst ys)):=aL.new hl;have gn:(upd H1 l (.lst ys)) l=some (.lst ys):=aO;rw[aI (by lia)] at pr;generalize upd H1 l (.lst ys)=H2 at sn gn ⊢;have GJ:bE K H H2 l (c5 rows due):=yd pr sn hl gn;have s02:=s1.trans sn;walk_at "w";rw[show ((n:Int)+1)=((n+1:Nat):Int) by lia];refine ⟨l,n+1,w,H,_,rfl,GJ,by lia,by lia,vS hw,F,λt lp qp R ps d ls H3 gt gq GZ s3 S=>?_⟩;have s03:=s02.trans s3;have pn:=S.rr.le;exists ⟨qp,dF ps,rfl,.inl (bR.of gq),rfl,Dm,?_⟩;rw[HH];by_cases hn:n∈ps
  ·rw[decide_eq_true hn,show (if false=true then !true else true)=true from rfl];exists k2 R ps H3 S.rr hn s03
  ·rw[decide_eq_false hn,show (if false=true then !false else false)=false from rfl];obtain ⟨lR,wR,rr⟩:=id S.rr;obtain ⟨_,zs,gz,qz⟩:=id GZ;have lz:=qz.length;have hl':=S.len
   have low:∀j,j < ps.length->ps.getD j 0 < n:=λj hj=>by
    have:=rr.low j hj;have:ps.getD j 0≠n:=λz=>hn (by rw[<- z];exact getD_in hj)
    lia
   obtain ⟨_,_,_,_,_,_,_,_,_,e89⟩:=id F;rw[lj] at e89;have dsz:Sz 8999 d:=bL S.dsz (eo (by decide) (by rw[lj];lia));have lps:=vK (ps:=ps);exists ⟨n,rfl,by lia,λan H4 na s4 R4=>?_⟩;rw[<- NU (R:=R) (ps:=ps)] at R4;obtain ⟨vs0,g0,q0⟩:=id R4;have gt4:=s4 _ _ gt;exists ⟨⟨_,bR.of (s4 _ _ gz)⟩,⟨_,bR.of (s4 _ _ gq)⟩,?_⟩;refine Kd (K:=K) (xs:=zs) (ws:=dF ps) (λj σ' H'=>aL H3 H'/\∃y1 y2 vs,σ'=[some (.ref p),some (.int n),some (.ref q),some (.ref t),some (.ref an),y1,y2]/\H' an=some (.lst vs)/\Paired (cz K H') (vv R ps n j) vs) (by lia) ⟨s4,_,_,vs0,rfl,g0,q0⟩ (λj σ' H' _ ⟨e,_⟩=>⟨bR.of (e _ _ gz),bR.of (e _ _ gq)⟩) ?_ ?_
   ·rintro j v1 v2 σ' H' r h1 h2 ⟨s',y1,y2,vs,rfl,ga,qa⟩ hr;obtain ⟨line,el,u,rfl,_,gu⟩:=b8 qz h1;have wl:=S.wide line (ay el);obtain ⟨pj,ej,rfl⟩:=E7 h2;have hj:j < ps.length:=(aF.mp ej).1;have ejD:ps.getD j 0=pj:=by rw[aa,ej];rfl
    have pjn:=low j hj;rw[ejD] at pjn;have v0:=S.val j n;rw[LG el] at v0
    have ed:line.getD pj 0=d:=by
     have h:=S.val j pj;rw[LG el] at h;have u:=rr.unit j hj j hj;rw[if_pos rfl,ejD] at u;rw[u,Eb] at h;exact d6.mp h
    have sr:aL H' (upd H' r (.tup [.ref u,.int pj])):=aL.new hr;have gr:(upd H' r (.tup [.ref u,.int pj])) r=some (.tup [.ref u,.int pj]):=aO;generalize upd H' r (.tup [.ref u,.int pj])=H5 at sr gr ⊢;have gu5:=(s'.trans sr) _ _ gu;exists cN (bR.of gu5) (zW (by lia)) ?_;exists cN (bR.of gu5) (zW (by lia)) ?_;rw[ed];exists ⟨_,d,rfl,S.d0,dsz,λr6 H6 s6 g6=>?_⟩;have d0:(d:Rat)≠0:=λz=>S.d0 (sV z)
    have n6:cz K H6 (bU R j n) (.ref r6):=by
     refine cz.mk g6 ?_;rcases Int.lt_or_lt_of_ne S.d0 with hd' | hd'
     ·rw[if_pos hd',if_pos hd'];refine qB (by lia) ?_;rw[c9,c9,v0];grind
     ·rw[if_neg (by lia),if_neg (by lia)];refine qB hd' ?_;rw[v0];grind
    have ga6:=(sr.trans s6) _ _ ga;have la:=qa.length;rw[jZ] at la;exists ff ga6 (fE (by lia)) rfl ?_;refine ⟨((s'.trans sr).trans s6).after na,_,_,_,rfl,aO,?_⟩;rw[<- NV S.rr hj,ejD];exact i5 (Paired.imp' (λ_ _ z=>(cz.same z (sr.trans s6)).updL ga6) qa) pj (n6.updL ga6)
   ·rintro σ' H' ⟨s',y1,y2,vs,rfl,ga,qa⟩;rw[show zs.length=ps.length by lia] at qa;exists k1 an R ps d.natAbs H' S.rr hn (s03.none na) (s03.trans s') ⟨vs,ga,qa⟩ (by have:=S.d0;lia) (by rw[<- lj];exact S.dsz) ?_;rw[<- lj];exact Sq (by have:=S.d0;lia) S.tp S.rr
theorem Ap:a7 ["grid","wide"] ["grid","wide"] (aP nK):=by walk_at "d"
theorem jB (T:Txt K mg Z):cQ P w K mg base fI 1 Z.ur Z.tY ["grid","wide"] (FT K):=by
 refine T.gF.F.ok Ap (λvs H Q E h=>?_) (λcdv A outer s H vs Q E hr h=>?_)
 ·obtain ⟨p,w,H0,rows,rfl,_⟩:=h;rfl
 ·obtain ⟨p,w,H0,rows,rfl,hp,hz,hw,hl,kk⟩:=h;refine ⟨_,(aB (aW (cm ["place"] ["grid"] [0] (cB rfl T.range (ae (pv 1) ag)) (λ_=>(aQ (i:=0) (show ND9 ["place","grid"] by decide +kernel) rfl (Or.inr rfl) (Or.inl rfl))) (λ_=>cH) (λ_=>(cm ["line"] ["place"] [0] (AG K (pv 1)) (λ_=>(aQ (i:=0) (show ND9 ["line","place"] by decide +kernel))) (λ_=>cH) (λ_=>(bc (iP K (by rfl)) (pv 0) (pv 1)))))))),?_⟩;refine aS (σ:=[some (.ref p),some (.int w)]) rfl ?_;sleep 3;refine fJ (n:=w) (di K H) (λj=>rows.map λxs=>xs.getD j 0) hw (λa b=>a.same b) ?_ ?_
  ·rintro j H1 NY NN hj s1 k1;obtain ⟨xs,gx,qx,_⟩:=hp.same s1;sleep 7;refine dW (K:=K) (F:=di K H0) (cz K) (λxs=>xs.getD j 0) gx qx hz (λa b=>a.same b) (λa b=>a.same b) ?_ ?_
   ·rintro i ns x H2 NY2 NN2 en s2 ⟨u,rfl,_,zs,gz,qz⟩ k2;obtain ⟨v,ev,hv⟩:=Jg qz (j:=j) (by rw[hl ns (ay en)];exact hj);exists cN (bR.of gz) ev ?_;exact k2 _ _ (aL.refl _) hv
   ·rintro ys' H2 r hr s2 g pr nx;exact k1 _ _ s2 ⟨r,rfl,s1.none hr,ys',g,pr⟩
  ·rintro ys' H1 r hr s1 g pr nx;exact kk r H1 hr s1 ⟨ys',g,pr,jD nx⟩
theorem Am:a7 ["rows","wide","due","answer","columns"] ["rows","wide","due"] (aP EH):=by walk_at "d"
theorem Mr (T:Txt K mg Z):cQ P w K mg base fI 6 Z.Kr Z.Kj ["rows","wide","due"] (CC K):=by
 refine T.AU.F.ok Am (λvs H Q E h=>?_) (λcdv A outer s H vs Q E hr h=>?_)
 ·obtain ⟨p,q,n,w,w1,H0,rows,due,rfl,_⟩:=h;rfl
 ·obtain ⟨p,q,n,w,w1,H0,rows,due,rfl,G,Rd,hd,m90,n90,hw,F,F1,k1,k2⟩:=h
  refine ⟨_,(av (a9 (i:=3) Am.nd rfl (Or.inl rfl) (cO (De T) hr T.tD (ae (pv 0) (ae (pv 1) (ae (pv 2) ag)))))
   (av (cY (bw ER (pv 3) uS (bC _)) (aB (aW (cU (ae iZ (ae (pv 3) ag))))) bW)
   (av (a9 (i:=4) Am.nd rfl (Or.inl rfl) (cO (jB T) hr T.gF (ae (pv 0) (ae (pv 1) ag))))
   (aB (aW (cU (ae iZ (ae (cO (De T) hr T.tD (ae (bH iK (pv 4) (dG (ae (pv 2) ag))) (ae (bJ bx (by rfl) T.len bg (ae (pv 0) ag)) (ae (bH iK (cO (kD T) hr T.gX (ae (pv 1) ag)) (dG (ae (kC (v:=.ref Z.a_ONE) rfl T.mg_ONE rfl) ag))) ag)))) ag)))))))),?_⟩
  refine aS (σ:=[some (.ref p),some (.int n),some (.ref q),none,none]) rfl ?_;exists ⟨p,q,n,w,H0,rows,due,rfl,G,Rd,hd,by lia,by lia,hw,F,λx R ps M H1 RR hn nx s1 Rx M0 M1 tM=>?_,λR ps H1 RR hn s1=>?_⟩
  ·exists ⟨rfl,_,rfl,?_⟩;rw[show decide (V.ref x=V.non)=false from decide_eq_false (λz=>nomatch z)];exists b7 λt H2 s2 g2=>?_
   exact k1 t x R ps M H2 RR hn g2 nx (s1.trans s2) (Rx.same s2) M0 M1 tM
  ·exists ⟨rfl,_,rfl,?_⟩;rw[show decide (V.non=V.non)=true from decide_eq_true rfl];exists ⟨p,n,H0,rows,rfl,G.same s1,by lia,by lia,hw,λco H2 nc s2 G2=>?_⟩;have s02:=s1.trans s2;exists c8 λl3 H3 s3 n3 g3=>?_
   obtain ⟨cs,gc,qc,_⟩:=G2.same s3;have lc:=qc.length;rw[dj] at lc;exists iJ gc g3 (aU (bF (by rw[bf];lia))) λl4 H4 s4 n4 g4=>?_
   have s03:=s02.trans s3;have s04:=s03.trans s4;have G4:bE K (λ_=>none) H4 l4 (cS rows n++[due]):=yd (H:=H3) (bT (Paired.imp' (λ_ _ ⟨q',a,_,c⟩=>⟨q',a,rfl,c⟩) qc) (.cons ⟨q,rfl,rfl,Rd.same s03⟩ .nil)) s4 n4 g4;obtain ⟨xs,gx,qx,_⟩:=G.same s04;sleep 11;exists ⟨_,_,rfl,.inl (bR.of gx),?_⟩;rw[<- lx];exists ⟨n,rfl,by lia,λl5 H5 n5 s5 R5=>?_⟩;exists c8 λl6 H6 s6 n6 g6=>?_
   obtain ⟨zs,gz,qz⟩:=R5.same s6;have lz:=qz.length;rw[aD] at lz;exists iJ gz g6 (aU (bF (by rw[bf];lia))) λl7 H7 s7 n7 g7=>?_
   have s47:=(s5.trans s6).trans s7;have s07:=s04.trans s47;have R7:cF K H7 l7 (List.replicate n 0++[1]):=⟨_,g7,Paired.imp' (λ_ _ z=>cz.same z s7) (bT qz (.cons ⟨_,rfl,T.sq_ONE _⟩ .nil))⟩;have l1:(cS rows n++[due]).length=n+1:=by rw[au,dj];rfl
   have w1':∀xs∈cS rows n++[due],xs.length=rows.length:=λxs hx=>by
    sleep 1
    ·exact jc xs hx
    ·rw[bS.mp hx];exact hd
   exists ⟨l4,l7,rows.length,w1,_,_,_,rfl,G4.same s47,R7,by rw[l1,au,aD];rfl,by lia,by lia,w1',F1,λx R1 p1 M H8 RR1 hn1 nx s8 Rx M0 M1 tM=>?_,λR1 p1 H8 RR1 hn1 s8=>?_⟩
   ·exists b7 λt H9 s9 g9=>?_
    rw[l1] at M1 tM;exact k2 t x R ps R1 p1 M H9 RR hn RR1 hn1 g9 (s07.none nx) ((s07.trans s8).trans s9) (Rx.same s9) M0 M1 tM
   ·exact absurd hn1 (K3 hd hw RR hn RR1)
theorem rA:a7 ["rows","wide","row","answer"] ["rows","wide","row"] (aP nG):=by walk_at "d"
theorem AJ (T:Txt K mg Z):cQ P w K mg base fI 7 Z.uj Z.tU ["rows","wide","row"] (yn K):=by
 refine T.mD.F.ok rA (λvs H Q E h=>?_) (λcdv A outer s H vs Q E hr h=>?_)
 ·obtain ⟨p,q,n,w,w1,H0,rows,row,rfl,_⟩:=h;rfl
 ·obtain ⟨p,q,n,w,w1,H0,rows,row,rfl,G,Rr,hl,m90,n90,hw,F,F1,k1,k2⟩:=h
  refine ⟨_,(av (a9 (i:=3) rA.nd rfl (Or.inl rfl) (cO (Mr T) hr T.AU (ae (cO (jB T) hr T.gF (ae (pv 0) (ae (pv 1) ag))) (ae (bJ bx (by rfl) T.len bg (ae (pv 0) ag)) (ae (pv 2) ag)))))
   (aB (aW (cU (ae (GH (bw eO (bc bN (pv 3) ar) iZ (bC _)) iZ iZ) (ae (bc bN (pv 3) ar) ag)))))),?_⟩
  refine aS (σ:=[some (.ref p),some (.int n),some (.ref q),none]) rfl ?_;exists ⟨p,n,H0,rows,rfl,G,by lia,by lia,hw,λco H1 nc s1 G1=>?_⟩;obtain ⟨xs,gx,qx,_⟩:=G.same s1;sleep 11;exists ⟨_,_,rfl,.inl (bR.of gx),?_⟩;rw[<- lx];have lT:(cS rows n).length=n:=dj;have eS:LO (cS rows n) rows.length row=c5 (rows++[row]) (List.replicate rows.length 0++[1]):=by unfold LO;rw[KC hw]
  exists ⟨co,q,rows.length,w,w1,_,cS rows n,row,rfl,G1,Rr.same s1,by lia,by lia,by lia,λxs hx=>jc xs hx,F,by rw[eS,lT];exact F1,λt x R ps M H2 RR hn g2 nx s2 Rx M0 M1 tM=>?_,λt x R ps R1 p1 M H2 RR hn RR1 hn1 g2 nx s2 Rx M0 M1 tM=>?_⟩
  ·rw[lT] at M1 tM;walk_at "w";sleep 12;exists b7 λt2 H3 s3 g3=>?_
   exact k1 t2 x R ps M H3 RR hn g3 (s1.none nx) ((s1.trans s2).trans s3) (Rx.same s3) M0 M1 tM
  ·rw[lT] at M1 tM RR1 hn1 Rx;rw[eS] at RR1;walk_at "w";rw[decide_eq_false (show ¬(Str.ofString "no"=Str.ofString "yes") by decide)];exists b7 λt2 H3 s3 g3=>?_
   exact k2 t2 x R ps R1 p1 M H3 RR hn RR1 hn1 g3 (s1.none nx) ((s1.trans s2).trans s3) (Rx.same s3) M0 M1 tM
theorem LX:a7 ["one","other"] ["one","other"] (aP EJ):=by walk_at "d"
theorem GS (T:Txt K mg Z):cQ P w K mg base fI 3 Z.Kt Z.Kl ["one","other"] (o5 K (λx y=>x - y)):=by
 refine T.vM.F.ok LX (λvs H Q E h=>?_) (λcdv A outer s H vs Q E hr h=>?_)
 ·obtain ⟨p,q,a,b,c,d,rfl,hp,hq,hb,hd,sa,sb,sc,sd,k⟩:=zJ h;rfl
 ·obtain ⟨p,q,a,b,c,d,rfl,hp,hq,hb,hd,sa,sb,sc,sd,k⟩:=zJ h;refine ⟨_,(aB (aW (cO (tx T) hr T.lV (ae (bH jA (bH dw (bc bN (pv 0) ar) (bc bN (pv 1) ar)) (bH dw (bc bN (pv 1) ar) (bc bN (pv 0) ar))) (ae (bH dw (bc bN (pv 0) ar) (bc bN (pv 1) ar)) ag))))),?_⟩;sleep 5;have hbd:0 < b*d:=mO hb hd;have sbd:Sz 8999 (b*d):=(sb.mul sd).mono (by decide);exists gP (show iI _ _ from .inr ⟨_,_,sa,sd,by decide⟩) ?_;exists gP (show iI _ _ from .inr ⟨_,_,sc,sb,by decide⟩) ?_;exists gP (show iI _ _ from .inr ⟨_,_,sb,sd,by decide⟩) ?_;walk_at "w";exists ⟨_,_,rfl,by lia,sbd,λr H' s' h'=>?_⟩;rw[if_neg (by lia),if_neg (by lia)] at h';exact k r H' s' h'
theorem Ex:a7 ["one","other"] ["one","other"] (aP rH):=by walk_at "d"
theorem EU (T:Txt K mg Z):cQ P w K mg base fI 4 Z.yS Z.yB ["one","other"] (xy K):=by
 refine T.pY.F.ok Ex (λvs H Q E h=>?_) (λcdv A outer s H vs Q E hr h=>?_)
 ·obtain ⟨p,q,xq,yq,rfl,_⟩:=h;rfl
 ·obtain ⟨p,q,xq,yq,rfl,hp,hq,hl,hz,hn,hm,k⟩:=h;refine ⟨_,(aB (aW (cm ["mine","yours"] [] [] (pR rfl T.zip (ae (pv 0) (ae (pv 1) ag))) (λ_=>(mU K 2 (cC (aQ (i:=0) (show ND9 ["mine","yours"] by decide +kernel)) (cC (aQ (i:=1) (show ND9 ["mine","yours"] by decide +kernel)) fY)))) (λ_=>cH) (λ_=>(cO (GS T) hr T.vM (ae (pv 0) (ae (pv 1) ag))))))),?_⟩;sleep 5;obtain ⟨xs,gx,qx⟩:=id hp;obtain ⟨ys,gy,qy⟩:=id hq;sleep 11;have ly:=qy.length;exists ⟨⟨_,bR.of gx⟩,⟨_,bR.of gy⟩,?_⟩;refine sU (K:=K) (xs:=xs) (ws:=ys) (λi zs H'=>aL H H'/\Paired (cz K H') ((List.zipWith (λx y=>x - y) xq yq).take i) zs) (aU (bF (by lia))) (by lia) ⟨aL.refl _,.nil⟩ (λi zs H' _ ⟨s,_⟩=>⟨bR.of (s _ _ gx),bR.of (s _ _ gy)⟩) ?_ ?_
  ·rintro i x y zs H' r hx hy hlen ⟨s,hP⟩ hr;obtain ⟨n,en,hn1⟩:=b8 qx hx;obtain ⟨m,em,hm1⟩:=b8 qy hy;have s1:=aL.new (o:=.tup [x,y]) hr;have s01:=s.trans s1;have gr:(upd H' r (.tup [x,y])) r=some (.tup [x,y]):=aO;generalize upd H' r (.tup [x,y])=Hr at s1 s01 gr ⊢;exists ⟨_,_,n,m,rfl,hn1.same s01,hm1.same s01,hn n (ay en),hm m (ay em),λr3 H3 s3 h3=>?_⟩;refine ⟨s01.trans s3,?_⟩;have ez:(List.zipWith (λx y=>x - y) xq yq)[i]?=some (n - m):=by rw[ck,en,em]
   rw[take_snoc ez];exact bT (Paired.imp' (λ_ _ z=>z.same (s1.trans s3)) hP) (.cons h3 .nil)
  ·rintro zs H' hy ⟨s,hP⟩ l hl';rw[aI (by rw[cT];lia)] at hP;exact k l _ (s.none hl') (s.trans (aL.new hl')) ⟨zs,aO,Paired.imp' (λ_ _ z=>z.same (aL.new hl')) hP⟩
theorem qM:a7 ["self","state","puts","columns"] ["self","state","puts"] (aP gD):=by walk_at "d"
theorem zB (T:Txt K mg Z):cQ P w K mg base fI 5 Z.mL Z.mK ["self","state","puts"] (CL K Z.a_System):=by
 refine T.tq.ok qM (λvs H Q E h=>?_) (λcdv A outer s H vs Q E hr h=>?_)
 ·obtain ⟨x,p,q,H0,mv,pt,lk,st,pu,rfl,_⟩:=h;rfl
 ·obtain ⟨x,p,q,H0,mv,pt,lk,st,pu,rfl,S,D,F,hp,hq,l1,l2,fs,k⟩:=h
  refine ⟨_,(av (a9 (i:=3) qM.nd rfl (Or.inl rfl) (cO (jB T) hr T.gF (ae (fP (pv 0) rfl) (ae (fP (pv 0) rfl) ag))))
   (aB (aW (cm ["line","column"] ["state","puts"] [1,2] (pR rfl T.zip (ae (fP (pv 0) rfl) (ae (pv 3) ag))) (λ_=>(mU K 2 (cC (aQ (i:=0) (show ND9 ["line","column","state","puts"] by decide +kernel)) (cC (aQ (i:=1) (show ND9 ["line","column","state","puts"] by decide +kernel)) fY)))) (λ_=>cH) (λ_=>(cO (uY T) hr T.mF (ae (bH iK (pv 0) (pv 1)) (ae (bH iK (pv 2) (pv 3)) ag)))))))),?_⟩
  refine aS (σ:=[some (.ref x),some (.ref p),some (.ref q),none]) rfl ?_;obtain ⟨dx,a,b,c,gx,n1,n2,n3,Ga,Gb,Gc⟩:=id S;have d1:=D.n8;have d2:=D.i4;exists ⟨x,Z.a_System,dx,_,_,rfl,gx,T.cl_System,T.na_put,En,?_⟩;exists ⟨x,Z.a_System,dx,_,_,rfl,gx,T.cl_System,T.na_states,gL,?_⟩;exists ⟨b,mv.length,H0,pt,rfl,Gb,by lia,by lia,D.pw,λt H1 nt s1 Gt=>?_⟩;obtain ⟨as,ga,qa,_⟩:=Ga.same s1;obtain ⟨ts,gt,qt,_⟩:=id Gt;have la:=qa.length;have lt:=qt.length;rw[dj] at lt;have gx1:=s1 _ _ gx;exists ⟨x,Z.a_System,dx,_,_,rfl,gx1,T.cl_System,T.na_move,zZ,?_⟩;exists ⟨⟨_,bR.of ga⟩,⟨_,bR.of gt⟩,?_⟩;refine sU (K:=K) (xs:=as) (ws:=ts) (λi ys H'=>aL H1 H'/\Paired (cz K H') ((fH mv pt st pu).take i) ys) (aU (bF (by lia))) (by lia) ⟨aL.refl _,.nil⟩ (λi ys H' _ ⟨s,_⟩=>⟨bR.of (s _ _ ga),bR.of (s _ _ gt)⟩) ?_ ?_
  ·rintro i v1 v2 ys H' r h1 h2 hy ⟨s,pr⟩ hr;obtain ⟨line,el,u1,rfl,_,R1⟩:=b8 qa h1;obtain ⟨col,ec,u2,rfl,_,R2⟩:=b8 qt h2;have ml:=ay el;have mc:=ay ec;have sr:aL H' (upd H' r (.tup [.ref u1,.ref u2])):=aL.new hr;have gr:(upd H' r (.tup [.ref u1,.ref u2])) r=some (.tup [.ref u1,.ref u2]):=aO;have s2:=s.trans sr;generalize upd H' r (.tup [.ref u1,.ref u2])=H2 at sr gr s2 ⊢;have lc:col.length=pt.length:=jc col mc;have ll:line.length=mv.length:=D.mw line ml;obtain ⟨z1,g1,q1⟩:=R1.same s2;obtain ⟨z2,g2,q2⟩:=R2.same s2;have y1:=q1.length;have y2:=q2.length;exists iJ g1 g2 (aU (bF (by lia))) λc1 H3 s3 n3' g3=>?_
   have s13:=s2.trans s3;obtain ⟨z3,g4,q3⟩:=(hp.same s1).same s13;obtain ⟨z4,g5,q4⟩:=(hq.same s1).same s13;have y3:=q3.length;have y4:=q4.length;exists iJ g4 g5 (aU (bF (by lia))) λc2 H4 s4 n4 g6=>?_
   have s34:=s3.trans s4;exists ⟨c1,c2,line++col,st++pu,rfl,⟨_,s4 _ _ g3,Paired.imp' (λ_ _ z=>z.same s34) (bT q1 q2)⟩,⟨_,g6,Paired.imp' (λ_ _ z=>z.same s4) (bT q3 q4)⟩,by rw[au,au];lia,by rw[au];lia,.sys ?_ fs,λr2 H5 s5 h5=>?_⟩
   ·refine F.fits λy hy=>?_
    rcases aA.mp hy with hy | hy
    ·exact .inl ⟨line,ml,hy⟩
    ·obtain ⟨j,_,rfl⟩:=aE.mp mc;obtain ⟨xs,hx,rfl⟩:=aE.mp hy;by_cases hj:j < xs.length
     ·refine .inr (.inl ⟨xs,hx,?_⟩);rw[aa,af hj];exact aJ hj
     ·exact .inr (.inr (.inr (by rw[aa,aV (by lia)];rfl)))
   ·have em:(fH mv pt st pu)[i]?=some (cE (line++col) (st++pu)):=by
     unfold fH;rw[ck,el,ec]
    refine ⟨((s2.trans s34).trans s5),?_⟩;rw[take_snoc em];exact bT (Paired.imp' (λ_ _ z=>(z.same (sr.trans s34)).same s5) pr) (.cons h5 .nil)
  ·rintro ys H' hy ⟨s,pr⟩ l hl;have lm:(fH mv pt st pu).length=mv.length:=by unfold fH;rw[cT,dj];lia
   rw[aI (by lia)] at pr;exact k l _ (s1.none (s.none hl)) ((s1.trans s).trans (aL.new hl)) ⟨ys,aO,Paired.imp' (λ_ _ z=>z.same (aL.new hl)) pr⟩
theorem xD:a7 ["system","start","puts","states","row"] ["system","start","puts"] (aP Aw):=by walk_at "d"
theorem La (T:Txt K mg Z):cQ P w K mg base fI 6 Z.Ib Z.HP ["system","start","puts"] (Aj K Z.a_System):=by
 refine T.xZ.F.ok xD (λvs H Q E h=>?_) (λcdv A outer s H vs Q E hr h=>?_)
 ·obtain ⟨x,s,p,H0,H1,mv,pt,lk,pus,st,rfl,_⟩:=h;rfl
 ·obtain ⟨x,s,p,H0,H1,mv,pt,lk,pus,st,rfl,S,D,F,Rs,ls,Gp,lp,wp,cf,k⟩:=h
  refine ⟨_,(av (a9 (i:=3) xD.nd rfl (Or.inl rfl) (dG (ae (d9 qI (by rfl) T.list PyProof.Rows.boot_list (ae (pv 1) ag)) ag)))
   (av (dQ PassesOwn.never rfl (cM (pv 2)) (aQ (i:=4) xD.nd)
    (aB (jy (yr dD dZ dX ke (pv 3) (ae (OI (pv 0) T.cl_System T.qO (zB T) (hr.mono (by decide)) T.sX .nil Mo (ae (bc bX (pv 3) (vD oY ar)) (ae (pv 4) ag))) ag)))))
   (aB (aW (pv 3))))),?_⟩
  refine aS (σ:=[some (.ref x),some (.ref s),some (.ref p),none,none]) rfl ?_;have d1:=D.n8;obtain ⟨ss,gs,qs⟩:=id Rs;obtain ⟨ps,gp,qp,_⟩:=id Gp;have lps:=qp.length;exists ⟨s,ss,rfl,.inl (bR.of gs),λc hc=>?_⟩;have sc:aL H (upd H c (.lst ss)):=aL.new hc;have Rc:cF K (upd H c (.lst ss)) c st:=⟨ss,aO,Paired.imp' (λ_ _ z=>z.same sc) qs⟩;generalize upd H c (.lst ss)=Hc at sc Rc ⊢;exists c8 λl Hl sl nl gl=>?_
  have hl0:=sc.none nl;have s0:=sc.trans sl;have cl:c≠l:=λz=>by obtain ⟨_,g,_⟩:=Rc;rw[z,nl] at g;cases g
  have pr0:Paired (yl K H l Hl) ((nh mv pt st pus).take 1) [V.ref c]:=by
   have:(nh mv pt st pus).take 1=[st]:=by
    have e:=take_snoc (tI (mv:=mv) (pt:=pt) (st:=st) (pus:=pus) (k:=0) (bu _));rw[e];rfl
   rw[this];exact .cons ⟨c,rfl,hc,cl,Rc.same sl⟩ .nil
  exists ⟨⟨_,bR.of (s0 _ _ gp)⟩,?_⟩;refine gV (K:=K) (a:=p) (xs:=ps) (λi σ' H'=>aL H H'/\(∃y ys,σ'=[some (.ref x),some (.ref s),some (.ref p),some (.ref l),y]/\H' l=some (.lst ys)/\Paired (yl K H l H') ((nh mv pt st pus).take (i+1)) ys)) ⟨s0,_,_,rfl,gl,pr0⟩ (λi σ' H' _ ⟨e,_⟩=>bR.of (e _ _ gp)) ?_ ?_
  ·rintro i v σ' H' hv ⟨e,y,ys,rfl,g,pr⟩;obtain ⟨pu,epu,u,rfl,_,Ru⟩:=b8 qp hv;have hi:i < pus.length:=(aF.mp epu).1;have mp:=ay epu;have ly:=pr.length;rw[cG,vm] at ly;have ec:=tI (mv:=mv) (pt:=pt) (st:=st) (pus:=pus) (k:=i) (by lia);have el:ys[i]?=some (ys[i]'(by lia)):=af (by lia)
   obtain ⟨vl,evl,q,hq1,hq2,hq3,Rq⟩:∃vl,ys[i]?=some vl/\∃q,vl=V.ref q/\H q=none/\q≠l/\cF K H' q (jU mv pt st pus i):=by
    obtain ⟨xs,ex,w⟩:=b8 pr el;rw[xo (by lia),ec] at ex;cases ex;exact ⟨_,el,w⟩
   subst hq1
   have ey:∃zs,ys=zs++[V.ref q]:=by
    refine ⟨ys.take i,?_⟩;rw[<- take_snoc evl,aI (by lia)]
   obtain ⟨zs,rfl⟩:=ey;exists ⟨.inl ⟨rfl,_,bR.of g⟩,?_⟩;walk_at "w";obtain ⟨dx,_,_,_,gx,_⟩:=S.same e;refine ⟨x,dx,_,rfl,gx,KH,?_⟩;exists cN (bR.of g) (sY _ _) ?_;exists ⟨x,q,u,H0,mv,pt,lk,_,pu,rfl,S.same e,D,F,Rq,Ru.same e,jo ls (by lia),wp pu mp,cf.both (by lia) mp,λr1 H2 n2 s2 R2=>?_⟩;have gn:=s2 _ _ g;exists j8 gn (bF (by lia)) ?_;refine ⟨KR (e.trans s2) hl0,_,_,rfl,aO,?_⟩;rw[take_snoc (tI (by lia)),lZ epu];have rl:r1≠l:=λz=>by rw[z,g] at n2;cases n2
   exact bT (Paired.imp' (λ_ _ z=>(yl.same z s2).upd gn) pr) (.cons ⟨r1,rfl,e.none n2,rl,R2.updL gn rl⟩ .nil)
  ·rintro σ' H' ⟨e,y,ys,rfl,g,pr⟩;walk_at "w";rw[aI (by rw[vm];lia)] at pr;exact k l H' hl0 e ⟨ys,g,Paired.imp' (λ_ _ z=>yl.rowF z) pr,Az pr⟩
theorem Ao:a7 ["system","steps"] ["system","steps"] (aP nJ):=by walk_at "d"
theorem sD (T:Txt K mg Z):cQ P w K mg base fI 2 Z.uq Z.tW ["system","steps"] (FY K Z.a_System):=by
 refine T.jI.F.ok Ao (λvs H Q E h=>?_) (λcdv A outer s H vs Q E hr h=>?_)
 ·obtain ⟨x,tt,H0,mv,pt,lk,rfl,_⟩:=h;rfl
 ·obtain ⟨x,tt,H0,mv,pt,lk,rfl,hT,S,D,k⟩:=h;refine ⟨_,(aB (aW (cm ["step"] ["system"] [0] (cB rfl T.range (ae (pv 1) ag)) (λ_=>(aQ (i:=0) (show ND9 ["step","system"] by decide +kernel))) (λ_=>cH) (λ_=>(cO (kD T) hr T.gX (ae (JQ K (pv 1) rfl) ag)))))),?_⟩;refine aS (σ:=[some (.ref x),some (.int tt)]) rfl ?_;obtain ⟨dx,a',b',c',gx,_,_,_,Ga,Gb,Gc⟩:=id S;have i4:=D.i4;sleep 3;refine fJ (n:=tt) (di K H) (λ(_:Nat)=>List.replicate pt.length (0:Rat)) (by lia) (λa b=>a.same b) ?_ ?_
  ·rintro i Hb NY NN hi sa k1;exists ⟨x,Z.a_System,dx,_,_,rfl,sa _ _ gx,T.cl_System,T.na_ins,JE,?_⟩;exists ⟨pt.length,rfl,by lia,λr H2 nr s2 R2=>k1 _ _ s2 ⟨r,rfl,sa.none nr,R2⟩⟩
  rintro ys Hz t ht sz g pr nx;have e:(List.range tt).map (λ(_:Nat)=>List.replicate pt.length (0:Rat))=List.replicate tt (List.replicate pt.length 0):=by rw[hJ,cv]
  rw[e] at pr nx;exact k t Hz ht sz ⟨ys,g,pr,jD nx⟩
theorem IA:a7 ["system","start","goal","steps"] ["system","start","goal","steps"] (aP xM):=by walk_at "d"
theorem IV (T:Txt K mg Z):cQ P w K mg base fI 7 Z.DZ Z.DB ["system","start","goal","steps"] (F6 K Z.a_System):=by
 refine T.vg.F.ok IA (λvs H Q E h=>?_) (λcdv A outer s H vs Q E hr h=>?_)
 ·obtain ⟨x,s,g,tt,H0,mv,pt,lk,st,go,rfl,_⟩:=h;rfl
 ·obtain ⟨x,s,g,tt,H0,mv,pt,lk,st,go,rfl,hT,S,D,F,Rs,ls,Rg,lg,cf,sg,k⟩:=h;refine ⟨_,(aB (aW (cO (EU T) hr T.pY (ae (pv 2) (ae (bc bX (cO (La T) hr T.xZ (ae (pv 0) (ae (pv 1) (ae (cO (sD T) hr T.jI (ae (pv 0) (ae (pv 3) ag))) ag)))) (vD oY ar)) ag))))),?_⟩;refine aS (σ:=[some (.ref x),some (.ref s),some (.ref g),some (.int tt)]) rfl ?_;have d8:=D.n8;have i4:=D.i4;exists ⟨x,tt,H0,mv,pt,lk,rfl,by lia,S,D,λp1 H1 n1 s1 G1=>?_⟩;exists ⟨x,s,p1,H0,H,mv,pt,lk,_,st,rfl,S.same s1,D,F,Rs.same s1,ls,G1,by rw[aD];lia,λxs hx=>by rw[(cW.mp hx).2,aD],cf,λp2 H2 n2 s2 G2=>?_⟩;obtain ⟨us,gu,qu,_⟩:=id G2;have lu:=qu.length;rw[vm,aD] at lu;have ec:=tI (mv:=mv) (pt:=pt) (st:=st) (pus:=List.replicate tt (List.replicate pt.length 0)) (k:=tt) (by rw[aD];exact ak _);have el:us[tt]?=some (us[tt]'(by lia)):=af (by lia)
  obtain ⟨q,eq,Rq⟩:∃q,us[tt]?=some (V.ref q)/\cF K H2 q (ig mv tt st):=by
   obtain ⟨xs,ex,q,e,_,w⟩:=b8 qu el;rw[ec] at ex;cases ex;rw[Iv D ls] at w;exact ⟨q,by rw[el,e],w⟩
  have ey:∃zs,us=zs++[V.ref q]:=by
   refine ⟨us.take tt,?_⟩;rw[<- take_snoc eq,aI (by lia)]
  obtain ⟨zs,rfl⟩:=ey
  have szp:∀y∈ig mv tt st,nB y:=λy hy=>by
   have:=(cf.state (k:=tt) (by rw[aD];exact ak _)).szn (x:=y);rw[Iv D ls] at this;exact this hy
  exists cN (bR.of gu) (sY _ _) ?_;exists ⟨g,q,go,_,rfl,(Rg.same s1).same s2,Rq,by rw[lg,iS ls],by lia,sg,szp,λr H3 n3 s3 R3=>k r H3 ((s1.trans s2).none n3) ((s1.trans s2).trans s3) R3⟩
theorem Qq:a7 ["row","many","wide"] ["row","many","wide"] (aP LZ):=by walk_at "d"
theorem Q1 (T:Txt K mg Z):cQ P w K mg base fI 1 Z.PX Z.PU ["row","many","wide"] (JK K):=by
 refine T.Ja.F.ok Qq (λvs H Q E h=>?_) (λcdv A outer s H vs Q E hr h=>?_)
 ·obtain ⟨p,u,kk,w,rfl,_⟩:=h;rfl
 ·obtain ⟨p,u,kk,w,rfl,Rw,lw,uk,u1,k1,k⟩:=h;refine ⟨_,(aB (aW (cm ["turn"] ["row","wide"] [0,2] (cB rfl T.range (ae (pv 1) ag)) (λ_=>(aQ (i:=0) (show ND9 ["turn","row","wide"] by decide +kernel))) (λ_=>cH) (λ_=>(rX (Al K (by rfl)) (pv 1) (tw (bH dw (pv 0) (pv 2))) (tw (bH dw (bH dR (pv 0) ar) (pv 2)))))))),?_⟩;refine aS (σ:=[some (.ref p),some (.int u),some (.int kk)]) rfl ?_;obtain ⟨xs,gx,qx⟩:=id Rw;sleep 11;sleep 3;refine fJ (n:=u) (di K H) (λt=>(w.drop (t*kk)).take kk) (by lia) (λa b=>a.same b) ?_ ?_
  ·rintro i Hb NY NN hi sa k2;have b1:i*kk+kk<=u*kk:=by rw[<- dM];exact az _ hi
   exists gP (Fs (by lia) (by lia)) ?_;exists gP (Km (by lia) (by lia)) ?_;walk_at "w";rw[show ((i:Int)*(kk:Int))=((i*kk:Nat):Int) by lia,show (((i:Int)+1)*(kk:Int))=((i*kk:Nat):Int)+(kk:Int) by rw[Int.add_mul,Int.one_mul];lia];refine ⟨p,xs,rfl,bR.of (sa _ _ gx),λr hr=>?_⟩;rw[O0 (by lia)];have sn:=aL.new (o:=.lst ((xs.drop (i*kk)).take kk)) hr;exact k2 _ _ sn ⟨r,rfl,sa.none hr,_,aO,Paired.imp' (λ_ _ z=>(z.same sa).same sn) (mV (nV qx _) _)⟩
  rintro ys Hz t ht sz g pr nx;exact k t Hz ht sz ⟨ys,g,pr,jD nx⟩
theorem vw:a7 ["system","start","goal","steps","used","rows","answer","latest_first"] ["system","start","goal","steps"] (aP IF):=by walk_at "d"
theorem EW (T:Txt K mg Z):cQ P w K mg base fI 8 Z.Nv Z.Nh ["system","start","goal","steps"] (Gf K Z.a_System):=by
 refine T.vO.F.ok vw (λvs H Q E h=>?_) (λcdv A outer s H vs Q E hr h=>?_)
 ·obtain ⟨x,s,g,tt,a,c,D0,W0,E0,W1,H0,mv,pt,lk,st,go,rfl,_⟩:=h;rfl
 ·obtain ⟨x,s,g,tt,a,c,D0,W0,E0,W1,H0,mv,pt,lk,st,go,rfl,hT,S,D,SF,F,Rs,ls,Rg,lg,cf,sg,CF,k1,k2⟩:=h
  refine ⟨_,(av (a9 (i:=4) vw.nd rfl (Or.inl rfl) (bH jA (bJ bx (by rfl) T.len bg (ae (cO (so T) hr T.jH (ae (pv 0) (ae (pv 3) ag))) ag)) ar))
   (av (a9 (i:=5) vw.nd rfl (Or.inl rfl) (cO (OO T) hr T.E8 (ae (cO (EX T) hr T.p9 (ae (pv 0) (ae (pv 4) ag))) ag)))
   (av (a9 (i:=6) vw.nd rfl (Or.inl rfl) (cO (AJ T) hr T.mD (ae (pv 5) (ae (fP (pv 0) rfl) (ae (cO (IV T) hr T.vg (ae (pv 0) (ae (pv 1) (ae (pv 2) (ae (pv 3) ag))))) ag)))))
   (av (cY (bw eO (bc bN (pv 6) ar) iZ (bC _)) (aB (aW (cU (ae iZ (ae (bc bN (pv 6) ar) ag))))) bW)
   (av (a9 (i:=7) vw.nd rfl (Or.inl rfl) (cO (Q1 T) hr T.Ja (ae (bc bN (pv 6) ar) (ae (pv 4) (ae (fP (pv 0) rfl) ag)))))
   (aB (aW (cU (ae iZ (ae (bH iK (cO (sD T) hr T.jI (ae (pv 0) (ae (bH jA (pv 3) (pv 4)) ag))) (IQ K rfl T.list rfl T.reversed (ae (pv 7) ag))) ag)))))))))),?_⟩
  refine aS (σ:=[some (.ref x),some (.ref s),some (.ref g),some (.int tt),none,none,none,none]) rfl ?_;have d8:=D.n8;have i4:=D.i4;obtain ⟨dx,a',b',c',gx,_⟩:=id S;exists ⟨x,a,c,tt,H0,mv,pt,lk,rfl,by lia,S,D,F,λr1 Rs1 H1 n1 s1 GL Gw ln hlast=>?_⟩;obtain ⟨us,gus,pus1⟩:=id GL;have lus:=pus1.length;have rne:=Gw.ne;have lpos:0 < Rs1.length:=List.length_pos_iff.mpr rne;exists ⟨_,_,rfl,.inl (bR.of gus),?_⟩;rw[<- lus];obtain ⟨u,eu⟩:∃u,Rs1.length=u+1:=⟨Rs1.length - 1,by lia⟩;rw[eu];have eL:Rs1[u]?=some (Rs1[u]'(by lia)):=af (by lia);obtain ⟨R,eR⟩:∃R,Rs1[u]?=some R:=⟨_,eL⟩;obtain ⟨ps,RRu⟩:=Gw.rr u R eR;have ul:=Gw.len u R eR;have un:u<=mv.length:=by have:=RRu.le;have:=RRu.1;lia
  have uT:u<=tt:=by lia
  obtain ⟨psT,RRT⟩:∃ps,bI (kry mv pt tt) mv.length R ps:=by
   refine hlast R ?_ tt (by lia);rw[List.getLast?_eq_getElem?,eu];exact eR
  have CU:=Gw.cmu eR RRT;walk_at "w";rw[show ((((u+1:Nat):Int)) - 1)=(u:Int) by lia];refine ⟨x,u,a,c,H0,mv,pt,lk,rfl,un,S.same s1,D,F,λr2 us2 H2 n2 s2 g2 p2=>?_⟩;have s02:=s1.trans s2;have kl:=vR (mv:=mv) (pt:=pt) u;have kl2:u*pt.length<=8*4:=aK (by lia) i4;exists ⟨r2,us2,Lr mv pt u,rfl,g2,p2,by rw[tJ];lia,λr3 H9 H3 n3 s3 G3=>?_⟩;rw[tJ] at G3;have s03:=s02.trans s3;exists ⟨x,Z.a_System,dx,_,_,rfl,s03 _ _ gx,T.cl_System,T.na_states,gL,?_⟩;exists ⟨x,s,g,tt,H0,mv,pt,lk,st,go,rfl,hT,S.same s03,D,SF,Rs.same s03,ls,Rg.same s03,lg,cf,sg,λr4 H4 n4 s4 R4=>?_⟩;have s04:=s03.trans s4;have lL:=Bc (T:=tt) ls lg;have wk:=fD (mv:=mv) (pt:=pt) rfl D.pw u;have tk:=CF.tk u un;have up0:∀y,Tp D0 W0 y->Tp (D0*E0) (W0*E0+W1*D0+D0*E0) y:=λy h=>h.up E0 (by lia)
  have up1:∀y,Tp E0 W1 y->Tp (D0*E0) (W0*E0+W1*D0+D0*E0) y:=λy h=>by
   rw[bZ D0 E0];exact h.up D0 (by lia)
  have up2:∀y,y=0\/y=1->Tp (D0*E0) (W0*E0+W1*D0+D0*E0) y:=λy h=>by
   rcases h with rfl | rfl
   ·exact Tp.zero
   ·exact ⟨((D0*E0:Nat):Int),by rw[Ny,aT],by rw[cw];lia⟩
  obtain ⟨wa,sw1⟩:=CF.join (rows:=cS (kry mv pt u) mv.length) (due:=eI mv tt st go) (n':=(kry mv pt u).length+1) (by rw[dj];exact lL) (λys hy y hy'=>by
   obtain ⟨j,_,rfl⟩:=aE.mp hy;obtain ⟨zs,hz,rfl⟩:=aE.mp hy';exact up0 _ (kr (tk zs hz) j)) (λy hy=>up1 y (CF.tl y hy)) d8 (by rw[dj];lia)
  obtain ⟨wb,sw2⟩:=CF.join (rows:=kry mv pt u++[eI mv tt st go]) (due:=List.replicate (kry mv pt u).length 0++[1]) (n':=mv.length+1) (by simp) (λys hy y hy'=>by
   rcases aA.mp hy with hy | hy
   ·exact up0 _ (tk ys hy y hy')
   ·rw[bS.mp hy] at hy';exact up1 _ (CF.tl y hy')) (λy hy=>by
   rcases aA.mp hy with hy | hy
   ·exact up2 _ (.inl (cW.mp hy).2)
   ·exact up2 _ (.inr (bS.mp hy))) d8 (zo _ _)
  exists ⟨r3,r4,mv.length,wa,wb,H9,kry mv pt u,eI mv tt st go,rfl,G3.same s4,R4,lL,by lia,by lia,wk,sw1,sw2,⟨λt5 x5 R5 ps5 M5 H5 RR5 hn5 g5 n5 s5 R5' M50 M51 tp5=>?_,λt5 x5 R5 ps5 R6 ps6 M5 H5 RR5 hn5 RR6 hn6 g5 n5 s5 R5' M50 M51 tp5=>?_⟩⟩
  ·have s05:=s04.trans s5;have x50:=s04.none n5;have ew:=KA lL RR5 hn5;have CP:RW mv pt tt (eI mv tt st go) (AA (gB R5 ps5 (kry mv pt u).length) tt u pt.length):=⟨u,R5,ps5,CU,RR5,hn5,rfl⟩;have lw:(gB R5 ps5 (kry mv pt u).length).length=(kry mv pt u).length:=jZ;obtain ⟨q,q0,q1,q2⟩:=Qo wk lL (by lia) CF.d0 CF.e0 CF.w0 CF.w1 tk CF.tl RR5 hn5;generalize gB R5 ps5 (kry mv pt u).length=ws at ew lw q2 R5' tp5 CP;have lead:=Jq D ls lg uT lw ew;have lw2:ws.length=u*pt.length:=by rw[lw,kl]
   walk_at "w";rw[decide_eq_false (show ¬(Str.ofString "in"=Str.ofString "out") by decide)];exists ⟨x,Z.a_System,dx,_,_,rfl,s05 _ _ gx,T.cl_System,T.na_ins,JE,?_⟩;exists ⟨x5,u,pt.length,ws,rfl,R5',lw2,by lia,by lia,by lia,λr6 H6 n6 s6 G6=>?_⟩;have s06:=s05.trans s6;walk_at "w";rw[show ((tt:Int) - (u:Int))=((tt - u:Nat):Int) by lia];refine ⟨x,tt - u,H0,mv,pt,lk,rfl,by lia,S.same s06,D,λr7 H7 n7 s7 G7=>?_⟩;obtain ⟨vs,gv,qv,_⟩:=id (G6.same s7);have lv:=qv.length;have lc:(zE ws u pt.length).length=u:=by unfold zE;rw[aj,cv]
   unfold FP;exists ⟨r6,vs,rfl,bR.of gv,by lia,λr8 H8 s8 n8 g8=>?_⟩;have s67:=s7.trans s8;obtain ⟨zs,gz,qz,_⟩:=id (G7.same s8);have lz:=qz.length;rw[aD] at lz;exists iJ gz g8 (aU (bF (by rw[kW];lia))) λr9 H9 s9 n9 g9=>?_
   have s09:=(s06.trans s67).trans s9;have qz0:Paired (di K H H8) (List.replicate (tt - u) (List.replicate pt.length 0)) zs:=Paired.imp' (λ_ _ ⟨q,a,b,c⟩=>⟨q,a,s06.none b,c⟩) qz;have qv0:Paired (di K H H8) (zE ws u pt.length).reverse vs.reverse:=AH (Paired.imp' (λ_ _ ⟨q,a,b,c⟩=>⟨q,a,s05.none b,cF.same c s8⟩) qv);have G9:bE K H H9 r9 (AA ws tt u pt.length):=⟨_,g9,Paired.imp' (λ_ _ z=>di.same z s9) (bT qz0 qv0),jD ⟨H8,n9,bT qz0 qv0⟩⟩;exists b7 λt10 H10 s10 g10=>?_
   exact k1 t10 r9 _ q H10 g10 ((s06.trans s67).none n9) (s09.trans s10) (G9.same s10) (JP uT) (Pt lw2) lead CP q0 q1 (OF Tp.zero q2)
  ·have s05:=s04.trans s5;have x50:=s04.none n5;have lw:(gB R6 ps6 mv.length).length=mv.length:=jZ;obtain ⟨pr1,pr2⟩:=K2 wk lL RR6 hn6;obtain ⟨q,q0,q1,q2⟩:=Mm wk lL (by lia) CF.d0 CF.e0 CF.w0 tk CF.tl RR6 hn6;walk_at "w";sleep 12;exists b7 λt10 H10 s10 g10=>?_
   exact k2 t10 x5 _ q H10 g10 x50 (s05.trans s10) (R5'.same s10) lw (K4 D.pw RRu RRT lw pr2) pr1 ⟨u,R5,ps5,R6,ps6,CU,RR5,hn5,RR6,rfl⟩ q0 q1 q2
theorem o6:a7 ["system","start","goal","most","prices","steps","answer"] ["system","start","goal","most"] (aP xG):=by walk_at "d"
theorem uX (T:Txt K mg Z):cQ P w K mg base fI 9 Z.DU Z.Dw ["system","start","goal","most"] (FV K Z.a_System):=by
 refine T.mE.F.ok o6 (λvs H Q E h=>?_) (λcdv A outer s H vs Q E hr h=>?_)
 ·obtain ⟨x,s,g,tt,a,c,H0,mv,pt,lk,st,go,rfl,_⟩:=h;rfl
 ·obtain ⟨x,s,g,tt,a,c,H0,mv,pt,lk,st,go,rfl,hT,S,D,SF,KF,Rs,ls,Rg,lg,SO,k⟩:=h
  refine ⟨_,(av (a9 (i:=4) o6.nd rfl (Or.inl rfl) (dG ag))
   (av (dQ PassesOwn.never rfl (cB rfl T.range (ae (bH dR (pv 3) ar) ag)) (aQ (i:=5) o6.nd)
    (av (a9 (i:=6) o6.nd rfl (Or.inl rfl) (cO (EW T) hr T.vO (ae (pv 0) (ae (pv 1) (ae (pv 2) (ae (pv 5) ag))))))
   (av (cY (bw eO (bc bN (pv 6) ar) iZ (bC _)) (aB (aW (cU (ae (pv 5) (ae (bc bN (pv 6) ar) (ae (pv 4) ag)))))) bW)
   (aB (jy (yr dD dZ dX ke (pv 4) (ae (bc bN (pv 6) ar) ag)))))))
   (aB (aW (cU (ae uS (ae (dG ag) (ae (pv 4) ag)))))))),?_⟩
  refine aS (σ:=[some (.ref x),some (.ref s),some (.ref g),some (.int tt),none,none,none]) rfl ?_;exists c8 λpl H1 s1 n1 g1=>?_
  sleep 3;rw[show ((tt:Int)+1).toNat=tt+1 by lia];refine eP (n:=tt+1) (λj σ' H'=>aL H H'/\∃us prs y1 y2,σ'=[some (.ref x),some (.ref s),some (.ref g),some (.int tt),some (.ref pl),y1,y2]/\H' pl=some (.lst us)/\Paired (di K H H') prs us/\V.ref pl∉us/\prs.length=j/\∀i pr,prs[i]?=some pr->Nw mv pt st go i pr) ⟨s1,[],[],_,_,rfl,g1,.nil,(λz=>nomatch z),rfl,(λi pr z=>by simp at z)⟩ ?_ ?_
  ·rintro j σ' H2 hj ⟨s2,us,prs,y1,y2,rfl,gp,pp,np,lp,hp⟩;have lu:=pp.length;obtain ⟨D0,W0,E0,W1,CT,hA,hB⟩:=SO j (by lia);exists ⟨x,s,g,j,a,c,D0,W0,E0,W1,H0,mv,pt,lk,st,go,rfl,by lia,S.same s2,D,SF,KF,Rs.same s2,ls,Rg.same s2,lg,CT.cf,CT.sg,CT.co,⟨λt3 p3 pus q H3 g3 n3 s3 G3 l3 w3 st3 cp q0 q1 q2=>?_,λt3 p3 pr q H3 g3 n3 s3 R3 l3 w3 d3 cn q0 q1 q2=>?_⟩⟩
   ·walk_at "w";sleep 12;exists b7 λt4 H4 s4 g4=>?_
    exact k (.int j) t4 p3 pl pus prs H2 H4 g4 s2 (s3.trans s4) n1 ⟨us,gp,pp,np⟩ n3 (G3.same s4) ⟨hp,.inl ⟨j,rfl,by lia,lp,hA pus q l3 w3 st3 cp q0 q1 q2⟩⟩
   ·have gp3:=s3 _ _ gp;have pn:p3≠pl:=λz=>by rw[z,gp] at n3;cases n3
    walk_at "w";rw[decide_eq_false (show ¬(Str.ofString "never"=Str.ofString "puts") by decide)];exists ⟨.inl ⟨rfl,_,bR.of gp3⟩,?_⟩;exists j8 gp3 (bF (by lia)) ?_;refine ⟨(s2.trans s3).after n1,us++[.ref p3],prs++[pr],_,_,rfl,aO,bT (rZ (λa x hx ⟨q',a1,a2,a3,a4,a5⟩=>⟨q',a1,a2,a3,by rw[bM λz=>np (by rw[<- z,<- a1];exact hx)];exact s3 _ _ a4,Paired.imp' (λ_ _ z=>(cz.same z s3).updL gp3) a5⟩) pp) (.cons ⟨p3,rfl,s2.none n3,?_⟩ .nil),λz=>?_,by rw[au,bf,lp],λi pr' hi=>?_⟩
    ·obtain ⟨a1,a2,a3⟩:=R3;exact ⟨a1,by rw[bM pn];exact a2,Paired.imp' (λ_ _ z=>z.updL gp3) a3⟩
    ·rcases aA.mp z with z | z
     ·exact np z
     ·rw[bS] at z;cases z;exact pn rfl
    ·rcases b9 i prs.length with z | z
     ·rw[bD z] at hi;exact hp i pr' hi
     ·rw[aZ z] at hi
      have:i - prs.length=0:=by
       rcases fw (i - prs.length) with e | e
       ·exact e
       ·rw[aV (by rw[bf];lia)] at hi;cases hi
      rw[this] at hi;cases hi;obtain rfl:i=j:=by lia
      exact hB pr q l3 w3 d3 cn q0 q1 q2
  ·rintro σ' H2 ⟨s2,us,prs,y1,y2,rfl,gp,pp,np,lp,hp⟩;exists c8 λel H3 s3 n3 g3=>?_
   exists b7 λt4 H4 s4 g4=>?_
   exact k .non t4 el pl [] prs H2 H4 g4 s2 (s3.trans s4) n1 ⟨us,gp,pp,np⟩ n3 ⟨_,s4 _ _ g3,.nil,λz=>nomatch z⟩ ⟨hp,.inr ⟨rfl,rfl,lp⟩⟩
theorem BV:a7 ["system","steps"] ["system","steps"] (aP pk):=by walk_at "d"
theorem Cc (T:Txt K mg Z):cQ P w K mg base fI 8 Z.wM Z.vZ ["system","steps"] (CG K Z.a_System):=by
 refine T.oa.F.ok BV (λvs H Q E h=>?_) (λcdv A outer s H vs Q E hr h=>?_)
 ·obtain ⟨x,a,c,st,H0,mv,pt,lk,rfl,_⟩:=h;rfl
 ·obtain ⟨x,a,c,st,H0,mv,pt,lk,rfl,s1000,S,D,F,k⟩:=h;refine ⟨_,(aB (aW (bc bX (cO (so T) hr T.jH (ae (pv 0) (ae (pv 1) ag))) (vD oY ar)))),?_⟩;refine aS (σ:=[some (.ref x),some (.int st)]) rfl ?_;exists ⟨x,a,c,st,H0,mv,pt,lk,rfl,s1000,S,D,F,λr Rs H1 nr s1 ⟨us,gu,pa⟩ Gw hl hh=>?_⟩;have lu:=pa.length;obtain ⟨Rs',R,rfl⟩:∃Rs' R,Rs=Rs'++[R]:=⟨Rs.dropLast,Rs.getLast Gw.ne,(List.dropLast_concat_getLast Gw.ne).symm⟩;rw[au,bf] at lu hl;have eR:(Rs'++[R])[Rs'.length]?=some R:=by rw[aZ (ak _),fF];rfl
  obtain ⟨zs,q,rfl,zq,ql,Gq⟩:∃zs q,us=zs++[V.ref q]/\H q=none/\q≠r/\bE K H H1 q R:=by
   have ev:=af (show Rs'.length < us.length by lia);obtain ⟨R2,e2,q,e3,e4,e5,e6⟩:=b8 pa ev;rw[eR] at e2;cases e2;rw[e3] at ev;refine ⟨us.take Rs'.length,q,?_,e4,e5,e6⟩;rw[<- take_snoc ev,aI (by lia)]
  obtain ⟨ps,RR⟩:=hh R (by rw[List.getLast?_concat]) st (by rw[au,bf,Nat.add_sub_cancel];lia);exists cN (bR.of gu) (sY _ _) ?_;exact k q R ps H1 zq s1 Gq RR
theorem Gj:a7 ["many","at"] ["many","at"] (aP uI):=by walk_at "d"
theorem GI (T:Txt K mg Z):cQ P w K mg base fI 1 Z.BB Z.Bl ["many","at"] (FR K):=by
 refine T.sI.F.ok Gj (λvs H Q E h=>?_) (λcdv A outer s H vs Q E hr h=>?_)
 ·obtain ⟨m,a',rfl,_⟩:=h;rfl
 ·obtain ⟨m,a',rfl,hm,k⟩:=h;refine ⟨_,(aB (aW (cm ["place"] ["at"] [1] (cB rfl T.range (ae (pv 0) ag)) (λ_=>(aQ (i:=0) (show ND9 ["place","at"] by decide +kernel))) (λ_=>cH) (λ_=>(GH (bw eO (pv 0) (pv 1) (bC _)) (kC (v:=.ref Z.a_ONE) rfl T.mg_ONE rfl) (kC (v:=.ref Z.a_NOUGHT) rfl T.mg_NOUGHT rfl)))))),?_⟩;refine aS (σ:=[some (.int m),some (.int a')]) rfl ?_;sleep 3;refine fJ (n:=m) (cz K) (λi=>if ((i:Nat):Int)=a' then 1 else 0) hm (λa b=>a.same b) ?_ ?_
  ·rintro i H' NY NN hi s k1;exists gY (λh0=>?_) (λh0=>?_)
   ·exists k1 _ _ (aL.refl _) (by rw[if_pos (of_decide_eq_true h0)];exact ⟨_,rfl,T.sq_ONE _⟩)
   ·exists k1 _ _ (aL.refl _) (by rw[if_neg (λz=>h0 (decide_eq_true z))];exact ⟨_,rfl,T.sq_NOUGHT _⟩)
  ·rintro ys H' l hl s g pr nx;exact k l _ hl s ⟨ys,g,pr⟩
theorem xC:a7 ["row"] ["row"] (aP kX):=by walk_at "d"
theorem xX (T:Txt K mg Z):cQ P w K mg base fI 1 Z.qS Z.qP ["row"] (F4 K):=by
 refine T.kg.F.ok xC (λvs H Q E h=>?_) (λcdv A outer s H vs Q E hr h=>?_)
 ·obtain ⟨p,xs,j,rfl,_⟩:=h;rfl
 ·obtain ⟨p,xs,j,rfl,R,x1000,hj,hne,hz,k⟩:=h;refine ⟨_,(aB (aW (bJ (DN rfl) (by rfl) T.min PyProof.Rows.boot_min (ae (cm ["place","value"] [] [] (EL rfl T.enumerate (ae (pv 0) ag)) (λ_=>(mU K 2 (cC (aQ (i:=0) (show ND9 ["place","value"] by decide +kernel)) (cC (aQ (i:=1) (show ND9 ["place","value"] by decide +kernel)) fY)))) (λ_=>IM (bw (JS K (by rfl) (Cq hr)) (pv 1) (kC (v:=.ref Z.a_NOUGHT) rfl T.mg_NOUGHT rfl) (bC _))) (λ_=>(pv 0))) ag)))),?_⟩;refine aS (σ:=[some (.ref p)]) rfl ?_;obtain ⟨zs,gz,qz⟩:=id R;have lz:=qz.length;exists ⟨⟨_,bR.of gz⟩,?_⟩;refine DJ (K:=K) (xs:=zs) (λi ys H'=>aL H H'/\ys=dF (Dg xs i)) (aU (bF (by lia))) ⟨aL.refl _,rfl⟩ (λi ys H' _ ⟨s,_⟩=>bR.of (s _ _ gz)) ?_ ?_
  ·rintro i v ys H' r hx hlen ⟨s',rfl⟩ hr;obtain ⟨y,ey,ny⟩:=b8 qz hx;have ey':xs.getD i 0=y:=by rw[aa,ey];rfl
   have sr:aL H' (upd H' r (.tup [.int i,v])):=aL.new hr;have gr:(upd H' r (.tup [.int i,v])) r=some (.tup [.int i,v]):=aO;generalize upd H' r (.tup [.int i,v])=H2 at sr gr ⊢;exists ⟨_,_,Bf,y,0,by decide,(ny.same s').same sr,⟨_,rfl,T.sq_NOUGHT _⟩,?_⟩;by_cases e:y=0
   ·rw[decide_eq_true e];exists ⟨s'.trans sr,?_⟩;rw[zM,ey',if_neg (by simpa using e)]
   ·rw[decide_eq_false e];exists ⟨s'.trans sr,?_⟩;rw[zM,ey',if_pos e];unfold dF;rw[cg];rfl
  ·rintro ys H1 hy ⟨s1,rfl⟩ l hl;have sn:aL H1 (upd H1 l (.lst (dF (Dg xs zs.length)))):=aL.new hl;have gn:(upd H1 l (.lst (dF (Dg xs zs.length)))) l=some (.lst (dF (Dg xs zs.length))):=aO;generalize upd H1 l (.lst (dF (Dg xs zs.length)))=H2 at sn gn ⊢
   have mj:j∈Dg xs zs.length:=by
    unfold Dg;exact jl.mpr ⟨jX.mpr (by lia),by simpa using hne⟩
   exists ⟨l,Dt (Dg xs zs.length),rfl,bR.of (by rw[<- Dl];exact gn),?_,λM hM hle=>?_⟩
   ·unfold Dt;rw[aj];exact List.length_pos_of_mem mj
   ·obtain ⟨c,hc,rfl⟩:=aE.mp hM;have h1:=hle j (aE.mpr ⟨j,mj,rfl⟩);have h2:=(jl.mp hc).2
    have e:c=j:=by
     rcases dy c j with z | z | z
     ·exact absurd (hz c z) (of_decide_eq_true h2)
     ·exact z
     ·lia
    rw[e];exact k _ (s1.trans sn)
theorem Iz:a7 ["rows"] ["rows"] (aP xK):=by walk_at "d"
theorem AL (T:Txt K mg Z):cQ P w K mg base fI 2 Z.DY Z.DA ["rows"] (F5 K):=by
 refine T.p5.F.ok Iz (λvs H Q E h=>?_) (λcdv A outer s H vs Q E hr h=>?_)
 ·obtain ⟨p,n,H0,R,ps,rfl,_⟩:=h;rfl
 ·obtain ⟨p,n,H0,R,ps,rfl,G,r100,n100,⟨rows,RR⟩,k⟩:=h;refine ⟨_,(aB (aW (cm ["row"] [] [] (cM (pv 0)) (λ_=>(aQ (i:=0) (show ND9 ["row"] by decide +kernel))) (λ_=>cH) (λ_=>(cO (xX T) hr T.kg (ae (pv 0) ag)))))),?_⟩;refine aS (σ:=[some (.ref p)]) rfl ?_;obtain ⟨lR,wR,rr⟩:=id RR;obtain ⟨xs,gx,qx,_⟩:=id G;sleep 11;sleep 7;refine fu (K:=K) (xs:=xs) (λi ys H'=>aL H H'/\ys=dF (ps.take i)) (aU (bF (by lia))) ⟨aL.refl _,rfl⟩ (λi ys H' _ ⟨s,_⟩=>bR.of (s _ _ gx)) ?_ ?_
  ·rintro i v ys H' hx hlen ⟨s',rfl⟩;obtain ⟨row,er,q,rfl,_,Rr⟩:=b8 qx hx;have wr:=wR row (ay er);have hi:i < ps.length:=by have:=(aF.mp er).1;lia
   have ef:∀c,bU R i c=row.getD c 0:=λc=>by unfold bU;rw[aa (l:=R),er];rfl
   have ep:ps[i]?=some (ps.getD i 0):=by rw[aa,af hi];rfl
   have lowp:=rr.low i hi;have u:=rr.unit i hi i hi;rw[if_pos rfl,ef] at u;exists ⟨q,row,ps.getD i 0,rfl,Rr.same s',by lia,by lia,by rw[u];decide,λc hc=>by rw[<- ef];exact rr.lead i hi c hc,λH2 s2=>?_⟩;refine ⟨s'.trans s2,?_⟩;unfold dF;rw[take_snoc ep,cg];rfl
  ·rintro ys H1 hy ⟨s1,rfl⟩ r hr;refine k r _ (s1.none hr) (s1.trans (aL.new hr)) ?_;rw[aO,aI (by lia)]
theorem o8:a7 ["rows","wide","at","answer","lead","row"] ["rows","wide","at"] (aP xJ):=by walk_at "d"
theorem IU (T:Txt K mg Z):cQ P w K mg base fI 4 Z.DX Z.Dz ["rows","wide","at"] (CJ K):=by
 refine T.vf.F.ok o8 (λvs H Q E h=>?_) (λcdv A outer s H vs Q E hr h=>?_)
 ·obtain ⟨p,n,a,H0,R,ps,rfl,_⟩:=h;rfl
 ·obtain ⟨p,n,a,H0,R,ps,rfl,G,r100,n100,⟨rows,RR⟩,ha,hp,hz,k⟩:=h
  refine ⟨_,(av (a9 (i:=3) o8.nd rfl (Or.inl rfl) (cO (GI T) hr T.sI (ae (pv 1) (ae (pv 2) ag))))
   (av (dQ PassesOwn.never rfl (pR rfl T.zip (ae (cO (AL T) hr T.p5 (ae (pv 0) ag)) (ae (pv 0) ag))) (pS rfl (cC (aQ (i:=4) o8.nd) (cC (aQ (i:=5) o8.nd) fY)))
    (aB (fh (cO (GS T) hr T.vM (ae (kC (v:=.ref Z.a_NOUGHT) rfl T.mg_NOUGHT rfl) (ae (bc bX (pv 5) (pv 2)) ag))) (gQ (pv 3) (pv 4) set_list))))
   (aB (aW (pv 3))))),?_⟩
  refine aS (σ:=[some (.ref p),some (.int n),some (.int a),none,none,none]) rfl ?_;obtain ⟨lR,wR,rr⟩:=id RR;exists ⟨n,a,rfl,by lia,λan H1 na s1 R1=>?_⟩;rw[<- OQ (R:=R) (ps:=ps)] at R1;obtain ⟨vs0,g0,q0⟩:=id R1;exists ⟨p,n,H0,R,ps,rfl,G.same s1,r100,n100,⟨rows,RR⟩,λle H2 nl s2 g2=>?_⟩;have anl:le≠an:=λz=>by rw[z,g0] at nl;cases nl
  obtain ⟨rs,grs,qrs,_⟩:=id G;have lrs:=qrs.length;have lps:=vK (ps:=ps);exists ⟨⟨_,bR.of g2⟩,⟨_,bR.of ((s1.trans s2) _ _ grs)⟩,?_⟩;refine Kd (K:=K) (xs:=dF ps) (ws:=rs) (λj σ' H'=>aL H H'/\H' le=some (.lst (dF ps))/\∃y1 y2 vs,σ'=[some (.ref p),some (.int n),some (.int a),some (.ref an),y1,y2]/\H' an=some (.lst vs)/\Paired (cz K H') (JV R ps n a j) vs) (by lia) ⟨s1.trans s2,g2,_,_,vs0,rfl,s2 _ _ g0,Paired.imp' (λ_ _ z=>cz.same z s2) q0⟩ (λj σ' H' _ ⟨e,e2,_⟩=>⟨bR.of e2,bR.of (e _ _ grs)⟩) ?_ ?_
  ·rintro j v1 v2 σ' H' r h1 h2 ⟨s',gl,y1,y2,vs,rfl,ga,qa⟩ hr;obtain ⟨row,er,q,rfl,_,Rr⟩:=b8 qrs h2;have mr:=ay er;have wr:=wR row mr;obtain ⟨pj,ej,rfl⟩:=E7 h1;have hj:j < ps.length:=(aF.mp ej).1;have ejD:ps.getD j 0=pj:=by rw[aa,ej];rfl
   have pjn:pj < n:=by have:=rr.low j hj;rw[ejD] at this;exact this
   have fr:bU R j a=row.getD a 0:=by unfold bU;rw[aa (l:=R),er];rfl
   have sr:aL H' (upd H' r (.tup [.int pj,.ref q])):=aL.new hr;have gr:(upd H' r (.tup [.int pj,.ref q])) r=some (.tup [.int pj,.ref q]):=aO;generalize upd H' r (.tup [.int pj,.ref q])=H3 at sr gr ⊢;have s03:=s'.trans sr;obtain ⟨us,gu,qu⟩:=Rr.same s03;obtain ⟨vx,ex,nx⟩:=Jg qu (j:=a) (by lia);exists cN (bR.of gu) ex ?_;exists ⟨_,_,0,row.getD a 0,rfl,⟨_,rfl,T.sq_NOUGHT _⟩,nx,LL,hz row mr _ (getD_in (by lia)),λr4 H4 s4 n4=>?_⟩;have ga4:=(sr.trans s4) _ _ ga;have gl4:=(sr.trans s4) _ _ gl;have la:=qa.length;rw[nX] at la;exists ff ga4 (fE (by lia)) rfl ?_;refine ⟨(s03.trans s4).after na,by rw[bM anl];exact gl4,_,_,_,rfl,aO,?_⟩;rw[<- OR RR hj hp,ejD,fr,show -(row.getD a 0)=0 - row.getD a 0 by grind];exact i5 (Paired.imp' (λ_ _ z=>(cz.same z (sr.trans s4)).updL ga4) qa) pj (n4.updL ga4)
  ·rintro σ' H' ⟨s',gl,y1,y2,vs,rfl,ga,qa⟩;rw[lps] at qa;exists k an H' na s' ⟨vs,ga,qa⟩
theorem rB:a7 ["rows","wide","leads"] ["rows","wide"] (aP nM):=by walk_at "d"
theorem sG (T:Txt K mg Z):cQ P w K mg base fI 3 Z.uu Z.tZ ["rows","wide"] (F8 K):=by
 refine T.jJ.F.ok rB (λvs H Q E h=>?_) (λcdv A outer s H vs Q E hr h=>?_)
 ·obtain ⟨p,n,H0,R,ps,rfl,_⟩:=h;rfl
 ·obtain ⟨p,n,H0,R,ps,rfl,G,r100,n100,RR,k⟩:=h
  refine ⟨_,(av (a9 (i:=2) rB.nd rfl (Or.inr rfl) (cO (AL T) hr T.p5 (ae (pv 0) ag)))
   (aB (aW (cm ["place"] ["leads"] [2] (cB rfl T.range (ae (pv 1) ag)) (λ_=>(aQ (i:=0) (show ND9 ["place","leads"] by decide +kernel))) (λ_=>IM (bw (Ca K (by rfl)) (pv 0) (pv 1) (by with_unfolding_all rfl))) (λ_=>(pv 0)))))),?_⟩
  refine aS (σ:=[some (.ref p),some (.int n),none]) rfl ?_;exists ⟨p,n,H0,R,ps,rfl,G,r100,n100,RR,λl H1 nl s1 g1=>?_⟩;sleep 3;refine qE (n:=n) (λi ys H'=>aL H1 H'/\ys=dF (iQ ps i)) (aU (bF (by lia))) ⟨aL.refl _,rfl⟩ ?_ ?_
  ·rintro i ys H' hi hlen ⟨s',rfl⟩;rw[zV];exists ⟨l,dF ps,rfl,.inl (bR.of (s' _ _ g1)),rfl,Dm,?_⟩;rw[HH];by_cases e:i∈ps
   ·rw[decide_eq_true e];exists ⟨s',?_⟩;rw[Bh,if_neg (by simpa using e)]
   ·rw[decide_eq_false e,show (if true=true then !false else false)=true from rfl];exists ⟨s',?_⟩;rw[Bh,if_pos e];unfold dF;rw[cg];rfl
  ·rintro ys H2 hy ⟨s2,rfl⟩ r hr;exact k r _ (s1.none (s2.none hr)) ((s1.trans s2).trans (aL.new hr)) aO
theorem Gk:a7 ["rows","wide","basis"] ["rows","wide"] (aP EI):=by walk_at "d"
theorem Ms (T:Txt K mg Z):cQ P w K mg base fI 6 Z.Ks Z.Kk ["rows","wide"] (CI K):=by
 refine T.AV.F.ok Gk (λvs H Q E h=>?_) (λcdv A outer s H vs Q E hr h=>?_)
 ·obtain ⟨p,n,w,H0,rows,R,ps,rfl,_⟩:=h;rfl
 ·obtain ⟨p,n,w,H0,rows,R,ps,rfl,G,r100,n100,RR,F,szR,k⟩:=h
  refine ⟨_,(av (a9 (i:=2) Gk.nd rfl (Or.inr rfl) (cO (AK T) hr T.pZ (ae (pv 0) (ae (pv 1) ag))))
   (aB (aW (cm ["at"] ["basis","wide"] [2,1] (cM (cO (sG T) hr T.jJ (ae (pv 2) (ae (pv 1) ag)))) (λ_=>(aQ (i:=0) (show ND9 ["at","basis","wide"] by decide +kernel))) (λ_=>cH) (λ_=>(cO (IU T) hr T.vf (ae (pv 1) (ae (pv 2) (ae (pv 0) ag))))))))),?_⟩
  refine aS (σ:=[some (.ref p),some (.int n),none]) rfl ?_;exists ⟨p,n,w,H0,R,rfl,G,r100,n100,RR.2.1,F,λba R2 ps2 M H1 nb s1 G1 RR2 pm M0 M1 tM=>?_⟩;obtain ⟨rfl,rfl⟩:=RR2.same (vA RR);have pn:=RR.le;have lR:=RR.1;have fl:=Jm (ps:=ps2) (i:=n);exists ⟨ba,n,H,R2,ps2,rfl,G1,by lia,by lia,⟨rows,RR⟩,λfr H2 nf s2 g2=>?_⟩;exists ⟨⟨_,bR.of g2⟩,?_⟩;refine fu (K:=K) (xs:=dF (iQ ps2 n)) (λi ys H'=>aL H2 H'/\Paired (di K H H') ((iQ ps2 n).take i |>.map (JU R2 ps2 n)) ys) (aU (bF (by rw[vK];lia))) ⟨aL.refl _,.nil⟩ (λi ys H' _ ⟨s,_⟩=>bR.of (s _ _ g2)) ?_ ?_
  ·rintro i v ys H' hx hlen ⟨s',pr⟩;obtain ⟨a,ea,rfl⟩:=E7 hx;obtain ⟨an,ap⟩:=tE.mp (ay ea);have s02:=(s1.trans s2).trans s';exists ⟨ba,n,a,H,R2,ps2,rfl,(G1.same s2).same s',by lia,by lia,⟨rows,RR⟩,an,ap,szR,λr H3 nr s3 R3=>?_⟩;refine ⟨s'.trans s3,?_⟩;rw[take_snoc ea,cg];exact bT (Paired.imp' (λ_ _ z=>di.same z s3) pr) (.cons ⟨r,rfl,s02.none nr,R3⟩ .nil)
  ·rintro ys H3 hy ⟨s3,pr⟩ r hr;rw[aI (by rw[vK];exact ak _)] at pr;have sn:aL H3 (upd H3 r (.lst ys)):=aL.new hr;have s03:=(s1.trans s2).trans s3;exact k r _ (s03.none hr) (s03.trans sn) ⟨ys,aO,Paired.imp' (λ_ _ z=>di.same z sn) pr,jD (H0:=H) (rows:=aR R2 ps2 n) ⟨H3,hr,pr⟩⟩
theorem tK:a7 ["one","other","wide","columns"] ["one","other","wide"] (aP pC):=by walk_at "d"
theorem Cd (T:Txt K mg Z):cQ P w K mg base fI 6 Z.wV Z.v8 ["one","other","wide"] (Ai K):=by
 refine T.og.F.ok tK (λvs H Q E h=>?_) (λcdv A outer s H vs Q E hr h=>?_)
 ·obtain ⟨p,q,w,H0,H1,one,other,rfl,_⟩:=h;rfl
 ·obtain ⟨p,q,w,H0,H1,one,other,rfl,hp,hq,z1,z2,hw,h1,h2,kk⟩:=h
  refine ⟨_,(av (a9 (i:=3) tK.nd rfl (Or.inr rfl) (cO (jB T) hr T.gF (ae (pv 1) (ae (pv 2) ag))))
   (aB (aW (cm ["line"] ["columns"] [3] (cM (pv 0)) (λ_=>(aQ (i:=0) (show ND9 ["line","columns"] by decide +kernel))) (λ_=>cH) (λ_=>(cO (AM T) hr T.p7 (ae (pv 1) (ae (pv 0) ag)))))))),?_⟩
  refine aS (σ:=[some (.ref p),some (.ref q),some (.int w),none]) rfl ?_;exists ⟨q,w,H1,other,rfl,hq,z2,hw,h2,λc H2 nc s2 hc=>?_⟩;obtain ⟨xs,gx,qx,_⟩:=hp.same s2;sleep 7;refine dW (K:=K) (F:=di K H0) (di K H) (λxs=>(cS other w).map λys=>cE ys xs) gx qx z1 (λa b=>a.same b) (λa b=>a.same b) ?_ ?_
  ·rintro i ns x H3 NY NN en s3 ⟨u,rfl,_,hu⟩ k;obtain ⟨e1,e2⟩:=h1 ns (ay en);exists ⟨c,u,H,cS other w,ns,rfl,hc.same s3,hu,by simp [cS];lia,by lia,λys hy=>⟨?_,e2 ys hy⟩,λr H4 nr s4 hr=>k _ _ s4 ⟨r,rfl,s2.none (s3.none nr),hr⟩⟩;obtain ⟨j,_,rfl⟩:=aE.mp hy;rw[aj];exact e1.symm
  ·rintro ys' H3 r hr s3 g pr nx;exact kk r H3 (s2.none hr) (s2.trans s3) ⟨ys',g,pr,jD nx⟩
theorem BU:a7 ["system","rows"] ["system","rows"] (aP ph):=by walk_at "d"
theorem Cb (T:Txt K mg Z):cQ P w K mg base fI 7 Z.wL Z.vY ["system","rows"] (Aa K Z.a_System):=by
 refine T.nZ.F.ok BU (λvs H Q E h=>?_) (λcdv A outer s H vs Q E hr h=>?_)
 ·obtain ⟨x,p,H0,H1,mv,pt,lk,N,rfl,_⟩:=h;rfl
 ·obtain ⟨x,p,H0,H1,mv,pt,lk,N,rfl,S,D,GN,n100,hN,k⟩:=h;refine ⟨_,(aB (aW (cO (Cd T) hr T.og (ae (pv 1) (ae (fP (pv 0) rfl) (ae (fP (pv 0) rfl) ag)))))),?_⟩;refine aS (σ:=[some (.ref x),some (.ref p)]) rfl ?_;obtain ⟨dx,am,ap,al,gx,_,_,_,Gm,_,_⟩:=id S;have d1:=D.n8;exists ⟨x,Z.a_System,dx,_,_,rfl,gx,T.cl_System,T.na_move,zZ,?_⟩;exists ⟨x,Z.a_System,dx,_,_,rfl,gx,T.cl_System,T.na_states,gL,?_⟩;exists ⟨p,am,mv.length,H1,H0,N,mv,rfl,GN,Gm,by lia,by lia,by lia,hN,D.mw,k⟩
theorem lD:a7 ["system","reach","rows","places"] ["system"] (aP rF):=by walk_at "d"
theorem ET (T:Txt K mg Z):cQ P w K mg base fI 9 Z.yQ Z.yz ["system"] (Cz K Z.a_System):=by
 refine T.pX.F.ok lD (λvs H Q E h=>?_) (λcdv A outer s H vs Q E hr h=>?_)
 ·obtain ⟨x,a,c,H0,mv,pt,lk,rfl,_⟩:=h;rfl
 ·obtain ⟨x,a,c,H0,mv,pt,lk,rfl,S,D,KF,k⟩:=h
  refine ⟨_,(av (a9 (i:=1) lD.nd rfl (Or.inl rfl) (cO (Cc T) hr T.oa (ae (pv 0) (ae (fP (pv 0) rfl) ag))))
   (av (a9 (i:=2) lD.nd rfl (Or.inl rfl) (cO (Ms T) hr T.AV (ae (pv 1) (ae (fP (pv 0) rfl) ag))))
   (av (a9 (i:=3) lD.nd rfl (Or.inr rfl) (cO (sG T) hr T.jJ (ae (pv 1) (ae (fP (pv 0) rfl) ag))))
   (aB (aW (cU (ae (pv 2) (ae (cm ["row"] ["places"] [3] (cM (cO (Cb T) hr T.nZ (ae (pv 0) (ae (pv 2) ag)))) (λ_=>(aQ (i:=0) (show ND9 ["row","places"] by decide +kernel) rfl (Or.inr rfl) (Or.inl rfl))) (λ_=>cH) (λ_=>(cm ["place"] ["row"] [0] (AG K (pv 1)) (λ_=>(aQ (i:=0) (show ND9 ["place","row"] by decide +kernel))) (λ_=>cH) (λ_=>(bc (iP K (by rfl)) (pv 1) (pv 0)))))) ag)))))))),?_⟩
  refine aS (σ:=[some (.ref x),none,none,none]) rfl ?_;obtain ⟨dx,am,ap,al,gx,_,_,_,Gm,_,_⟩:=id S;have d1:=D.n8;exists ⟨x,Z.a_System,dx,_,_,rfl,gx,T.cl_System,T.na_states,gL,?_⟩;exists ⟨x,a,c,mv.length,H0,mv,pt,lk,rfl,by lia,S,D,KF,λrr R ps H1 nr s1 G1 RR=>?_⟩;obtain ⟨Mq,q0,q1,tR⟩:=KF.tp d1 D.mw D.pw (ak _) RR;obtain ⟨Mk,Vk,k0,ka,kc,gm,gp,a4,c4,k17,k89⟩:=id KF;have e17:(2:Nat)^(mv.length*(mv.length*(a+c)+4))<=2^1740:=ax (by decide) k17;have pn:=RR.le;have lR:=RR.1
  have SR:D9 R mv.length (mv.length*(mv.length*(a+c)+4)):=Qk q0 (ai q1 (ax (by decide) (by lia))) (by lia) tR (m:=mv.length) (by lia) (by lia) (by
   refine ai (aM _ ?_) k89
   lia)
  have szR:∀xs∈R,∀x∈xs,nB x:=λxs hx x hx'=>El (tR xs hx x hx') q0 (ai q1 (ai e17 (ax (by decide) (by decide)))) (ai e17 (ax (by decide) (by decide)))
  have gx1:=s1 _ _ gx;exists ⟨x,Z.a_System,dx,_,_,rfl,gx1,T.cl_System,T.na_states,gL,?_⟩;exists ⟨rr,mv.length,_,H,_,R,ps,rfl,G1,by lia,by lia,RR,SR,szR,λnn H2 nn0 s2 G2=>?_⟩;have s12:=s1.trans s2;have gx2:=s12 _ _ gx
  have lN:(aR R ps mv.length).length<=mv.length:=by
   have e:(aR R ps mv.length).length=(iQ ps mv.length).length:=aj ..;rw[e];exact Jm
  have fl:=Jm (ps:=ps) (i:=mv.length);exists ⟨x,Z.a_System,dx,_,_,rfl,gx2,T.cl_System,T.na_states,gL,?_⟩;exists ⟨rr,mv.length,H,R,ps,rfl,G1.same s2,by lia,by lia,⟨_,RR⟩,λfr H3 nf s3 g3=>?_⟩;have s13:=s12.trans s3;exists ⟨x,nn,H0,H1,mv,pt,lk,aR R ps mv.length,rfl,S.same s13,D,G2.same s3,by lia,λxs hx=>⟨lH xs hx,λys hy=>?_⟩,λtk H4 nt s4 G4=>?_⟩
  ·obtain ⟨b,h1,h2,rfl⟩:=oG hx;refine ⟨400,40,1740,1740,⟨Mk,Vk,k0,ai ka (ax (by decide) a4),?_,λy hy'=>JB gm ys hy y hy'⟩,⟨Mq,2^1740,q0,ai q1 e17,ak _,λy hy'=>((Pw q0 q1 tR RR y hy').mono e17).fr q0⟩,by decide⟩;exact ai (ai (cI _ (by lia)) kc) (ax (by decide) c4)
  have s14:=s13.trans s4;obtain ⟨ts,gt,qt,_⟩:=id G4;have lt:=qt.length;have lT:(eH (aR R ps mv.length) mv mv.length).length=(aR R ps mv.length).length:=aj ..
  have wT:∀xs∈eH (aR R ps mv.length) mv mv.length,xs.length=mv.length:=λxs hx=>by
   obtain ⟨z,_,rfl⟩:=aE.mp hx;rw[aj,dj]
  have g4f:=s4 _ _ g3;exists ⟨⟨_,bR.of gt⟩,?_⟩;refine dW (K:=K) (as:=eH (aR R ps mv.length) mv mv.length) (F:=di K H3) (di K H2) (λrow=>(iQ ps mv.length).map λpl=>row.getD pl 0) gt qt (by lia) (λa b=>a.same b) (λa b=>a.same b) ?_ ?_
  ·rintro i row v H5 NY NN er s5 ⟨u,rfl,_,Ru⟩ k1;have lr:=wT row (ay er);have g5f:=s5 _ _ g4f;exists ⟨⟨_,bR.of g5f⟩,?_⟩;refine dW (K:=K) (as:=iQ ps mv.length) (F:=λ_ j x=>x=V.int ((j:Nat):Int)) (cz K) (λpl=>row.getD pl 0) g5f yt (by lia) (λh _=>h) (λh s=>h.same s) ?_ ?_
   ·rintro j pl w H6 NY6 NN6 ej s6 rfl k6;have hp:=(tE.mp (ay ej)).1;obtain ⟨zs,gz,qz⟩:=Ru.same s6;obtain ⟨vx,ex,nx⟩:=Jg qz (j:=pl) (by lia);exists cN (bR.of gz) ex ?_;exact k6 _ _ (aL.refl _) nx
   rintro ys6 H6 l6 hl6 s6 g6 pr6 _;exact k1 _ _ s6 ⟨l6,rfl,(s3.trans s4).none (s5.none hl6),⟨ys6,g6,pr6⟩⟩
  rintro ys5 H5 q5 n5 s5 g5 pr5 nx5;have GU:bE K H2 H5 q5 (oX mv R ps):=⟨ys5,g5,pr5,jD nx5⟩;exists b7 λt6 H6 s6 g6=>?_
  exact k t6 nn q5 R ps H2 H6 g6 s12 (((s3.trans s4).trans s5).trans s6) (s1.none nn0) (G2.weak s1) ((s3.trans s4).none n5) (GU.same s6) RR
theorem xF:a7 ["things","at"] ["things","at"] (aP kZ):=by walk_at "d"
theorem kd (T:Txt K mg Z):cQ P w K mg base fI 1 Z.qU Z.qR ["things","at"] (Gg K):=by
 refine T.gH.F.ok xF (λvs H Q E h=>?_) (λcdv A outer s H vs Q E hr h=>?_)
 ·obtain ⟨p,i,xs,rfl,_⟩:=h;rfl
 ·obtain ⟨p,i,xs,rfl,gp,hi,l500,k⟩:=h;refine ⟨_,(aB (aW (bH iK (bH iK (dG (ae (bc (iP K (by rfl)) (pv 0) (pv 1)) ag)) (rX (Al K (by rfl)) (pv 0) zK (tw (pv 1)))) (rX (Al K (by rfl)) (pv 0) (tw (bH dR (pv 1) ar)) zK)))),?_⟩;refine aS (σ:=[some (.ref p),some (.int i)]) rfl ?_;exists cN (bR.of gp) (fZ (af hi)) ?_;exists c8 λl1 H1 s1 n1 g1=>?_
  exists II (bR.of (s1 _ _ gp)) λl2 H2 s2 n2 g2=>?_
  rw[HQ] at g2;exists iJ (s2 _ _ g1) g2 (aU (bF (by rw[bf,cG];lia))) λl3 H3 s3 n3 g3=>?_
  have s03:=(s1.trans s2).trans s3;exists II (bR.of (s03 _ _ gp)) λl4 H4 s4 n4 g4=>?_
  rw[show ((i:Int)+1)=((i+1:Nat):Int) by lia,Nj] at g4;exists iJ (s4 _ _ g3) g4 (aU (bF (by rw[au,bf,cG,oV];lia))) λl5 H5 s5 n5 g5=>?_
  refine k l5 H5 ((s03.trans s4).none n5) ((s03.trans s4).trans s5) ?_;unfold fj;rw[af hi];exact g5
theorem kN:a7 ["system","goal","found","own","first","weights"] ["system","goal"] (aP uJ):=by walk_at "d"
theorem GQ (T:Txt K mg Z):cQ P w K mg base fI 10 Z.BE Z.Bm ["system","goal"] (CD K Z.a_System):=by
 refine T.sJ.F.ok kN (λvs H Q E h=>?_) (λcdv A outer s H vs Q E hr h=>?_)
 ·obtain ⟨x,g,a,c,H0,mv,pt,lk,go,rfl,_⟩:=h;rfl
 ·obtain ⟨x,g,a,c,H0,mv,pt,lk,go,rfl,S,D,SF,F,Rg,lg,SO,FN,k1,k2⟩:=h
  refine ⟨_,(av (a9 (i:=2) kN.nd rfl (Or.inl rfl) (cO (uX T) hr T.mE (ae (pv 0) (ae (cO (kD T) hr T.gX (ae (fP (pv 0) rfl) ag)) (ae (pv 1) (ae (fP (pv 0) rfl) ag))))))
   (av (cY (bw ER (bc bN (pv 2) ar) uS (bC _)) (aB (aW (cU (ae iZ (ae (bc bN (pv 2) ar) (ae (bc bN (pv 2) ar) ag)))))) bW)
   (av (a9 (i:=3) kN.nd rfl (Or.inl rfl) (cO (ET T) hr T.pX (ae (pv 0) ag)))
   (av (a9 (i:=4) kN.nd rfl (Or.inr rfl) (bJ (DN rfl) (by rfl) T.min PyProof.Rows.boot_min (ae (cm ["at","row"] ["goal"] [1] (EL rfl T.enumerate (ae (bc bN (pv 3) ar) ag)) (λ_=>(mU K 2 (cC (aQ (i:=0) (show ND9 ["at","row","goal"] by decide +kernel)) (cC (aQ (i:=1) (show ND9 ["at","row","goal"] by decide +kernel)) fY)))) (λ_=>IM (bw (JS K (by rfl) (Cq hr)) (cO (uY T) hr T.mF (ae (pv 1) (ae (pv 2) ag))) (kC (v:=.ref Z.a_NOUGHT) rfl T.mg_NOUGHT rfl) (bC _))) (λ_=>(pv 0))) ag)))
   (av (kB 5 ["row"] ["first"] [4] kN.nd rfl rfl (cM (cO (kd T) hr T.gH (ae (bc bN (pv 3) ar) (ae (pv 4) ag)))) (λ_=>(aQ (i:=0) (show ND9 ["row","first"] by decide +kernel))) (λ_=>cH) (λ_=>(cO (kd T) hr T.gH (ae (pv 0) (ae (pv 1) ag)))))
   (aB (aW (cU (ae iZ (ae (cO (kd T) hr T.gH (ae (bc bN (pv 3) ar) (ae (pv 4) ag))) (ae (pv 5) ag))))))))))),?_⟩
  refine aS (σ:=[some (.ref x),some (.ref g),none,none,none,none]) rfl ?_;have d8:=D.n8;obtain ⟨dx,am,ap,al,gx,_⟩:=id S;exists ⟨x,Z.a_System,dx,_,_,rfl,gx,T.cl_System,T.na_states,gL,?_⟩;exists ⟨mv.length,rfl,by lia,λre H1 nre s1 R1=>?_⟩;have gx1:=s1 _ _ gx;exists ⟨x,Z.a_System,dx,_,_,rfl,gx1,T.cl_System,T.na_states,gL,?_⟩;exists ⟨x,re,g,mv.length,a,c,H0,mv,pt,lk,List.replicate mv.length 0,go,rfl,by lia,S.same s1,D,SF,F,R1,aD ..,Rg.same s1,lg,SO,λkv ft fp fr pus prs Hm H2 gft sm sm2 nfr Gr nfp Gp SR=>?_⟩;have s2:=sm.trans sm2;have s02:=s1.trans s2;obtain ⟨SRp,⟨kk,rfl,k1',lk1,SA⟩ | ⟨rfl,rfl,lk1⟩⟩:=SR
  ·exists ⟨rfl,?_⟩;rw[decide_eq_false (show ¬(V.int (kk:Int)=V.non) from λz=>nomatch z)];exists b7 λt3 H3 s3 g3=>?_
   refine k1 t3 fp kk pus H3 g3 (s02.trans s3) ((s1.trans sm).none nfp) ((Gp.same s3).weak (s1.trans sm)) ⟨k1',SA,λj hj=>?_⟩;exact ⟨_,SRp j _ (af (by lia))⟩
  have SB:Nw mv pt (List.replicate mv.length 0) go mv.length _:=SRp mv.length _ (af (by lia));exists ⟨rfl,?_⟩;sleep 12;exists ⟨x,a,c,H0,mv,pt,lk,rfl,S.same s02,D,F,λot op oq R ps Hn H3 got sn sn3 nop GN noq GU RR=>?_⟩;have s3:=sn.trans sn3;have s03:=s02.trans s3;have wN:∀xs∈aR R ps mv.length,xs.length=mv.length:=lH;have nc:=Di RR;have lUN:(oX mv R ps).length=(aR R ps mv.length).length:=zH;have wU:∀xs∈oX mv R ps,xs.length=(aR R ps mv.length).length:=RZ
  obtain ⟨z0,hz0,ez0⟩:=Mv RR (fD rfl D.pw _) SB.1 lg SB.2.1 (by
   have:=SB.2.2.1;rw[MI D.mw lg] at this;rw[this];decide)
  obtain ⟨j,j1,j2,j3⟩:=MZ (ds:=(aR R ps mv.length).map λz=>cE z go) ⟨_,aE.mpr ⟨z0,hz0,rfl⟩,ez0⟩;rw[aj] at j1;have GN3:=GN.same sn3;obtain ⟨us,gu,qu,nu⟩:=id GN3;have lu:=qu.length;exists ⟨⟨_,bR.of gu⟩,?_⟩;refine DJ (K:=K) (xs:=us) (λi ys H'=>aL H3 H'/\ys=dF (Dg ((aR R ps mv.length).map λz=>cE z go) i)) (aU (bF (by lia))) ⟨aL.refl _,rfl⟩ (λi ys H' _ ⟨s,_⟩=>bR.of (s _ _ gu)) ?_ ?_
  ·rintro i v ys H' r hx hlen ⟨s',rfl⟩ hr;obtain ⟨z,ez,q,rfl,_,Rq⟩:=b8 qu hx;have mz:=ay ez;have ey':((aR R ps mv.length).map λz=>cE z go).getD i 0=cE z go:=by rw[aa,aG,ez];rfl
   have sr:aL H' (upd H' r (.tup [.int i,.ref q])):=aL.new hr;have gr:(upd H' r (.tup [.int i,.ref q])) r=some (.tup [.int i,.ref q]):=aO;generalize upd H' r (.tup [.int i,.ref q])=H4 at sr gr ⊢;have s34:=s'.trans sr;exists ⟨q,g,z,go,rfl,cF.same Rq s34,Rg.same (s03.trans s34),by rw[lg,wN z mz],by rw[wN z mz];lia,FN R ps RR z mz,λd H5 s5 N5=>?_⟩;exists ⟨_,_,Bf,cE z go,0,by decide,N5,⟨_,rfl,T.sq_NOUGHT _⟩,?_⟩;by_cases e:cE z go=0
   ·rw[decide_eq_true e];exists ⟨s34.trans s5,?_⟩;rw[zM,ey',if_neg (by simpa using e)]
   ·rw[decide_eq_false e];exists ⟨s34.trans s5,?_⟩;rw[zM,ey',if_pos e];unfold dF;rw[cg];rfl
  rintro ys H4 hy ⟨s4,rfl⟩ l hl;have sn4:aL H4 (upd H4 l (.lst (dF (Dg ((aR R ps mv.length).map λz=>cE z go) us.length)))):=aL.new hl;have gn:(upd H4 l (.lst (dF (Dg ((aR R ps mv.length).map λz=>cE z go) us.length)))) l=some (.lst (dF (Dg ((aR R ps mv.length).map λz=>cE z go) us.length))):=aO;generalize upd H4 l (.lst (dF (Dg ((aR R ps mv.length).map λz=>cE z go) us.length)))=H5 at sn4 gn ⊢;have s35:=s4.trans sn4
  have mj:j∈Dg ((aR R ps mv.length).map λz=>cE z go) us.length:=by
   unfold Dg;exact jl.mpr ⟨jX.mpr (by lia),by simpa using j2⟩
  exists ⟨l,Dt (Dg ((aR R ps mv.length).map λz=>cE z go) us.length),rfl,bR.of (by rw[<- Dl];exact gn),?_,λM hM hle=>?_⟩
  ·unfold Dt;rw[aj];exact List.length_pos_of_mem mj
  obtain ⟨cx,hc,rfl⟩:=aE.mp hM;have h1:=hle j (aE.mpr ⟨j,mj,rfl⟩);have h2:=(jl.mp hc).2
  have e:cx=j:=by
   rcases dy cx j with z | z | z
   ·exact absurd (j3 cx z) (by simpa using h2)
   ·exact z
   ·lia
  subst e;have got5:=s35 _ _ got;obtain ⟨ws,gw,qw,_⟩:=GU.same s35;have lw:=qw.length;exists ⟨oq,cx,ws,rfl,gw,by lia,by lia,λaw H6 naw s6 g6=>?_⟩;have qa:=lF qw (i:=cx) (by lia);refine ⟨aw,rfl,⟨_,bR.of g6⟩,?_⟩;have qa6:Paired (di K Hn H6) (fj (oX mv R ps) cx) (fj ws cx):=Paired.imp' (λ_ _ z=>di.same z s6) qa;have la:(fj (oX mv R ps) cx).length=(oX mv R ps).length:=DT (by lia);refine dW (K:=K) (as:=fj (oX mv R ps) cx) (F:=di K Hn) (di K H) (λxs=>fj xs cx) g6 qa6 (by lia) (λh s=>h.same s) (λh s=>h.same s) ?_ ?_
  ·rintro i row v H7 NY NN er s7 ⟨u,rfl,_,zs,gz,qz⟩ k3;have lr:=wU row (oM (ay er));have lz:=qz.length;exists ⟨u,cx,zs,rfl,gz,by lia,by lia,λl8 H8 n8 s8 g8=>?_⟩;exact k3 _ _ s8 ⟨l8,rfl,((s03.trans s35).trans (s6.trans s7)).none n8,_,g8,lF (Paired.imp' (λ_ _ z=>cz.same z s8) qz) (by lia)⟩
  rintro ys7 H7 wl nwl s7 g7 pr7 nx7;have s37:=(s35.trans s6).trans s7;have got7:=s37 _ _ got;have GW:bE K H H7 wl ((fj (oX mv R ps) cx).map λxs=>fj xs cx):=⟨ys7,g7,pr7,jD nx7⟩;exists ⟨op,cx,us,rfl,s37 _ _ gu,by lia,by lia,λao H8 nao s8 g8=>?_⟩;have s38:=s37.trans s8;have qo:Paired (di K H H8) (fj (aR R ps mv.length) cx) (fj us cx):=Paired.imp' (λ_ _ ⟨q,a1,b1,c1⟩=>⟨q,a1,s02.none b1,cF.same c1 s38⟩) (lF qu (i:=cx) (by lia));exists b7 λt9 H9 s9 g9=>?_
  have GO:bE K H H8 ao (fj (aR R ps mv.length) cx):=⟨_,g8,qo,λz=>?_⟩
  ·exact k2 t9 ao wl cx R ps H9 g9 ((s03.trans s38).trans s9) ((s03.trans s37).none nao) (GO.same s9) (GW.same (s8.trans s9)) ⟨RR,j1,j2,_,SB⟩
  ·obtain ⟨y,my,q,e,_,zs,gq,_⟩:=dh (lF qu (i:=cx) (by lia)) z;cases e;rw[s37 _ _ gq] at nao;exact nomatch nao
theorem mR:a7 ["_law_thing","_law_part"] ["_law_thing"] (aP j7):=by walk_at "d"
theorem vJ (T:Txt K mg Z):cQ P w K mg base fI 2 Z.oP Z.oJ ["_law_thing"] (KO K):=by
 refine T.jN.F.ok mR (λvs H Q E h=>?_) (λcdv A outer s H vs Q E hr h=>?_)
 ·obtain ⟨x,n,rfl,_⟩:=h;rfl
 ·obtain ⟨x,n,rfl,⟨p,rfl,hp⟩,hn,k⟩:=h
  refine ⟨_,(av (cY (PW.pt (me (j9 (jx (zL rfl T.isinstance PyProof.Rows.boot_tuple T.tuple (pv 0)))) (jv (bw sk (bJ bx (by rfl) T.len bg (ae (pv 0) ag)) ar (bC _))))) (aB (aW mh)) bW)
   (av (dQ PassesOwn.never rfl (QW (pv 0)) (aQ (i:=1) mR.nd)
    (aB (cY (PW.pt (me (j9 (jx (zL rfl T.isinstance PyProof.Rows.boot_int T.int (pv 1)))) (jv (jx (zL rfl T.isinstance PyProof.Rows.boot_bool T.bool (pv 1)))))) (aB (aW mh)) bW)))
   (aB (aW (EO (ia qN (bc bN (pv 0) ar) ar (bC _)) (EM (ia (xW (Cq hr)) (cO (je T) hr T.gK (ae (bc bN (pv 0) ar) (ae (bc bN (pv 0) ar) ag))) (pv 0) (bC _)))))))),?_⟩
  refine aS (σ:=[some (.ref p),none]) rfl ?_;obtain ⟨hb,hg,_,hs⟩:=hn;exists .inr ⟨p,_,_,rfl,hp,rfl,?_⟩;exists ⟨_,_,rfl,.inr hp,?_⟩;walk_at "w"
  try refine OS ?_
  exists ⟨⟨_,hp⟩,?_⟩;refine OV (K:=K) (a:=p) (xs:=[.int n.1,.int n.2]) (λi σ' H'=>H'=H/\∃x,σ'=[some (.ref p),x]) ⟨rfl,none,rfl⟩ (λi σ' H' _ ⟨e,_⟩=>by subst e;exact hp) ?_ ?_
  ·rintro i x σ' H' hx ⟨rfl,y,rfl⟩
   obtain ⟨z,rfl⟩:∃z,x=V.int z:=by
    have hm:x∈[V.int n.1,V.int n.2]:=ay hx;simp only[aN,br,or_false] at hm;rcases hm with e | e
    ·exact ⟨_,e⟩
    ·exact ⟨_,e⟩
   exists .inl ⟨_,_,.int z,rfl,?_⟩;exists .inl ⟨_,_,.int z,rfl,?_⟩;exists ⟨rfl,_,rfl⟩
  ·rintro σ' H' ⟨rfl,x,rfl⟩;walk_at "w";rw[decide_eq_true hb];exists ⟨n.1,n.2,rfl,hb,hs.mono (by decide),λr H' s1 h'=>?_⟩;obtain ⟨e1,e2⟩:=Q4 hb hg;exists ⟨_,_,S4,(lo n.1 n.2,hi n.1 n.2),n,by decide,⟨r,rfl,qJ.of h'⟩,⟨p,rfl,s1.sqt hp⟩,?_⟩;rw[e1,e2,decide_eq_true rfl];exact k _ s1
theorem Aq:a7 ["_law_thing","_law_many"] ["_law_thing","_law_many"] (aP nR):=by walk_at "d"
theorem sH (T:Txt K mg Z):cQ P w K mg base fI 3 Z.uB Z.uh ["_law_thing","_law_many"] (xA K):=by
 refine T.jM.F.ok Aq (λvs H Q E h=>?_) (λcdv A outer s H vs Q E hr h=>?_)
 ·obtain ⟨p,ns,rfl,_⟩:=h;rfl
 ·obtain ⟨p,ns,rfl,hp,hl,hn,k⟩:=h
  refine ⟨_,(av (cY (PW.pt (me (j9 (jx (xV rfl T.isinstance PyProof.Rows.boot_list T.list (pv 0)))) (jv (bw sk (bJ bx (by rfl) T.len bg (ae (pv 0) ag)) (pv 1) (bC _))))) (aB (aW mh)) bW)
   (aB (aW (bJ (Bv rfl) (by rfl) T.all PyProof.Rows.boot_all (ae (cm ["_law_one"] [] [] (cM (pv 0)) (λ_=>(aQ (i:=0) (show ND9 ["_law_one"] by decide +kernel))) (λ_=>cH) (λ_=>(cO (vJ T) hr T.jN (ae (pv 0) ag)))) ag))))),?_⟩
  refine aS (σ:=[some (.ref p),some (.int ns.length)]) rfl ?_;obtain ⟨xs,gx,qx⟩:=id hp;sleep 11;exists ⟨_,_,.lst gx,rfl,?_⟩;exists ⟨_,_,rfl,.inl (bR.of gx),?_⟩;walk_at "w";rw[show ((xs.length:Nat):Int)=(ns.length:Nat) by rw[lx],decide_eq_true rfl];sleep 7;refine fu (K:=K) (xs:=xs) (λi ys H'=>aL H H'/\ys=List.replicate i (.bl true)) (aU (bF (by lia))) ⟨aL.refl _,rfl⟩ (λi ys H' _ ⟨s,_⟩=>bR.of (s _ _ gx)) ?_ ?_
  ·rintro i x ys H' hx hlen ⟨s,rfl⟩;obtain ⟨n,en,z⟩:=b8 qx hx;exists ⟨x,n,rfl,s.num z,hn n (ay en),λH2 s2=>⟨s.trans s2,by rw[Ec]⟩⟩
  ·rintro ys H' hy ⟨s,rfl⟩ l hl';exists ⟨l,List.replicate xs.length true,rfl,bR.of (by rw[aO];simp),?_⟩;have e4:(List.replicate xs.length true).all id=true:=by simp
   rw[e4];exact k _ (s.trans (aL.new hl'))
theorem gW:a7 ["_law_parts_here","_law_steps_here","_law_rows","_law_some","_law_turn"] ["_law_parts_here","_law_steps_here"] (aP pP):=by walk_at "d"
theorem Co (T:Txt K mg Z):cQ P w K mg base fI 5 Z.xi Z.wI ["_law_parts_here","_law_steps_here"] (CW K):=by
 refine T.oz.F.ok gW (λvs H Q E h=>?_) (λcdv A outer s H vs Q E hr h=>?_)
 ·obtain ⟨r,tt,H0,mv,pt,lk,rfl,_⟩:=h;rfl
 ·obtain ⟨r,tt,H0,mv,pt,lk,rfl,hT,PQ,D,AF,k⟩:=h
  refine ⟨_,(av (kB 2 ["_law_row_here"] [] [] gW.nd rfl rfl (cM (bc bN (pv 0) ar)) (λ_=>(aQ (i:=0) (show ND9 ["_law_row_here"] by decide +kernel))) (λ_=>cH) (λ_=>(d9 (fV K (by rfl)) (by rfl) T.list PyProof.Rows.boot_list (ae (pv 0) ag))))
   (av (a9 (i:=3) gW.nd rfl (Or.inl rfl) (dG ag))
   (av (dQ PassesOwn.never rfl (cB rfl T.range (ae (pv 1) ag)) (aQ (i:=4) gW.nd)
    (av (a9 (i:=3) gW.nd rfl (Or.inl rfl) (bH iK (pv 3) (pv 2)))
   (aB (kB 2 ["_law_row_here"] ["_law_parts_here"] [0] gW.nd rfl rfl (cM (pv 2)) (λ_=>(aQ (i:=0) (show ND9 ["_law_row_here","_law_parts_here"] by decide +kernel))) (λ_=>cH) (λ_=>(cO (va T) hr T.mI (ae (bc (qC K (by rfl)) (pv 1) ar) (ae (pv 0) ag))))))))
   (aB (aW (pv 3)))))),?_⟩
  refine aS (σ:=[some (.ref r),some (.int tt),none,none,none]) rfl ?_;have d1:=D.n8;have i4:=D.i4;obtain ⟨m,p,l,g,n1,n2,n3,Gm,Gp,Gl⟩:=id PQ;obtain ⟨up,gp,qp,_⟩:=id Gp;have lup:=qp.length;exists ⟨⟨_,bR.of gp⟩,?_⟩;refine dW (K:=K) (F:=di K H0) (di K H) id gp qp (by lia) (λa b=>a.same b) (λa b=>a.same b) ?_ ?_
  ·rintro i ns x H' NY NN en s ⟨u,rfl,_,zs,gz,qz⟩ k1;exists ⟨u,zs,rfl,.inl (bR.of gz),λl1 hl1=>?_⟩;exact k1 _ _ (aL.new hl1) ⟨l1,rfl,s.none hl1,zs,aO,Paired.imp' (λ_ _ z=>z.same (aL.new hl1)) qz⟩
  rintro ys1 H1 rq1 hr1 s1 g1 pr1 nx1;rw[qX] at pr1 nx1;have G1:bE K H H1 rq1 pt:=⟨ys1,g1,pr1,jD nx1⟩;exists c8 λsm0 H2 s2 nf gf=>?_
  have s02:=s1.trans s2;sleep 3;refine eP (n:=tt) (λt σ' H'=>aL H H'/\∃rq sm y,σ'=[some (.ref r),some (.int tt),some (.ref rq),some (.ref sm),y]/\H sm=none/\bE K H H' sm (kry mv pt t)/\bE K H H' rq (pt.map (ig mv t))) ⟨s02,rq1,sm0,_,rfl,s1.none nf,⟨[],gf,.nil,λz=>nomatch z⟩,by rw[show pt.map (ig mv 0)=pt from qX pt];exact G1.same s2⟩ ?_ ?_
  ·rintro t σ' H' ht ⟨s',rq,sm,y,rfl,nsm,Gs,Gq⟩;obtain ⟨us,gu,pu,_⟩:=id Gs;obtain ⟨zs,gz,qz,_⟩:=id Gq;have lz:=qz.length;rw[aj] at lz;have lu:=pu.length;rw[vR] at lu;have lb:t*pt.length<=20*4:=aK (by lia) i4;exists iJ gu gz (aU (bF (by lia))) λcc H3 s3 nc gc=>?_
   have ek:kry mv pt (t+1)=kry mv pt t++pt.map (ig mv t):=by
    rw[<- tJ,Fx,iG,tJ];simp
   have Gc:bE K H H3 cc (kry mv pt (t+1)):=by
    rw[ek];exact ⟨_,gc,Paired.imp' (λ_ _ z=>di.same z s3) (bT pu qz),jD ⟨H',nc,bT pu qz⟩⟩
   have s03:=s'.trans s3;have g3:=s03 _ _ g;exists ⟨⟨_,bR.of (s3 _ _ gz)⟩,?_⟩;refine dW (K:=K) (F:=di K H) (di K H) (oU mv) (s3 _ _ gz) (Paired.imp' (λ_ _ z=>di.same z s3) qz) (by rw[aj];lia) (λa b=>a.same b) (λa b=>a.same b) ?_ ?_
   ·rintro i ns v Ha NY NN en sa ⟨u,rfl,_,Ru⟩ k1;have mn:=ay en;obtain ⟨y0,hy0,rfl⟩:=aE.mp mn;have wy:=D.pw y0 hy0;have ga:=sa _ _ g3;exists ⟨m,u,H0,mv,_,rfl,(Gm.same s03).same sa,Ru,by lia,by rw[iS wy];lia,λxs hx=>⟨by rw[D.mw xs hx,iS wy],((AF.row D.mw D.pw y0 hy0).fit D.mw wy (show t<=tt by lia)).1 xs hx⟩,λz Hj nz sj Rz=>k1 _ _ sj ⟨z,rfl,s03.none (sa.none nz),Rz⟩⟩
   ·rintro ys Hb rr hrr sb gb prb nxb;have e:(pt.map (ig mv t)).map (oU mv)=pt.map (ig mv (t+1)):=by rw[nF];rfl
    rw[e] at prb nxb;exact ⟨s03.trans sb,rr,cc,_,rfl,s'.none nc,Gc.same sb,ys,gb,prb,jD nxb⟩
  ·rintro σ' H' ⟨s',rq,sm,y,rfl,nsm,Gs,Gq⟩;exists k sm H' nsm s' Gs
theorem EE:a7 ["_law_one","_law_other"] ["_law_one","_law_other"] (aP rV):=by walk_at "d"
theorem E3 (T:Txt K mg Z):cQ P w K mg base fI 2 Z.za Z.yM ["_law_one","_law_other"] (o5 K (λx y=>x - y)):=by
 refine T.qh.F.ok EE (λvs H Q E h=>?_) (λcdv A outer s H vs Q E hr h=>?_)
 ·obtain ⟨p,q,a,b,c,d,rfl,hp,hq,hb,hd,sa,sb,sc,sd,k⟩:=zJ h;rfl
 ·obtain ⟨p,q,a,b,c,d,rfl,hp,hq,hb,hd,sa,sb,sc,sd,k⟩:=zJ h;refine ⟨_,(aB (aW (cO (je T) hr T.gK (ae (bH jA (bH dw (bc bN (pv 0) ar) (bc bN (pv 1) ar)) (bH dw (bc bN (pv 1) ar) (bc bN (pv 0) ar))) (ae (bH dw (bc bN (pv 0) ar) (bc bN (pv 1) ar)) ag))))),?_⟩;sleep 5;have hbd:0 < b*d:=mO hb hd;have sbd:Sz 8999 (b*d):=(sb.mul sd).mono (by decide);exists gP (show iI _ _ from .inr ⟨_,_,sa,sd,by decide⟩) ?_;exists gP (show iI _ _ from .inr ⟨_,_,sc,sb,by decide⟩) ?_;exists gP (show iI _ _ from .inr ⟨_,_,sb,sd,by decide⟩) ?_;walk_at "w";exists ⟨_,_,rfl,hbd,sbd,k⟩
theorem BY:a7 ["_law_one","_law_other"] ["_law_one","_law_other"] (aP pM):=by walk_at "d"
theorem Ck (T:Txt K mg Z):cQ P w K mg base fI 3 Z.xf Z.wF ["_law_one","_law_other"] (xy K):=by
 refine T.ow.F.ok BY (λvs H Q E h=>?_) (λcdv A outer s H vs Q E hr h=>?_)
 ·obtain ⟨p,q,xs,ys,rfl,_⟩:=h;rfl
 ·obtain ⟨p,q,xs,ys,rfl,hp,hq,hl,hz,h1,h2,kk⟩:=h;refine ⟨_,(aB (aW (cm ["_law_k"] ["_law_one","_law_other"] [0,1] (cB rfl T.range (ae (bJ bx (by rfl) T.len bg (ae (pv 0) ag)) ag)) (λ_=>(aQ (i:=0) (show ND9 ["_law_k","_law_one","_law_other"] by decide +kernel))) (λ_=>cH) (λ_=>(cO (E3 T) hr T.qh (ae (bc (iP K (by rfl)) (pv 1) (pv 0)) (ae (bc (iP K (by rfl)) (pv 2) (pv 0)) ag))))))),?_⟩;sleep 5;obtain ⟨us,gu,qu⟩:=id hp;obtain ⟨ws,gw,qw⟩:=id hq;have lu:=qu.length;exists ⟨_,_,rfl,.inl (bR.of gu),?_⟩;sleep 3;refine fJ (n:=us.length) (cz K) (λi=>xs.getD i 0 - ys.getD i 0) (by lia) (λa b=>a.same b) ?_ ?_
  ·rintro i H' NY NN hi s k1;have ix:i < xs.length:=by lia
   have iy:i < ys.length:=by lia
   obtain ⟨vx,ex,nx⟩:=Jg (Paired.imp' (λ_ _ z=>z.same s) qu) ix;obtain ⟨vy,ey,ny⟩:=Jg (Paired.imp' (λ_ _ z=>z.same s) qw) iy;exists cN (bR.of (s _ _ gu)) ex ?_;exists cN (bR.of (s _ _ gw)) ey ?_;exists ⟨_,_,_,_,rfl,nx,ny,h1 _ (getD_mem ix),h2 _ (getD_mem iy),λr3 H3 s3 n3=>k1 _ _ s3 n3⟩
  ·rintro ys' H' l hl' s g pr nx;exact kk l H' hl' s ⟨ys',g,by rw[Io (by lia)];rw[<- lu] at pr;exact pr⟩
theorem kx:a7 ["_law_parts_here","_law_start","_law_steps_here","_law_state","_law_turn"] ["_law_parts_here","_law_start","_law_steps_here"] (aP pO):=by walk_at "d"
theorem Cn (T:Txt K mg Z):cQ P w K mg base fI 5 Z.xh Z.wH ["_law_parts_here","_law_start","_law_steps_here"] (CV K):=by
 refine T.oy.F.ok kx (λvs H Q E h=>?_) (λcdv A outer s H vs Q E hr h=>?_)
 ·obtain ⟨r,s,tt,H0,mv,pt,lk,st,rfl,_⟩:=h;rfl
 ·obtain ⟨r,s,tt,H0,mv,pt,lk,st,rfl,hT,PQ,D,Rs,ls,AF,k⟩:=h
  refine ⟨_,(av (a9 (i:=3) kx.nd rfl (Or.inl rfl) (d9 (fV K (by rfl)) (by rfl) T.list PyProof.Rows.boot_list (ae (pv 1) ag)))
   (av (dQ PassesOwn.never rfl (cB rfl T.range (ae (pv 2) ag)) (aQ (i:=4) kx.nd)
    (aB (a9 (i:=3) kx.nd rfl (Or.inl rfl) (cO (va T) hr T.mI (ae (bc bN (pv 0) ar) (ae (pv 3) ag))))))
   (aB (aW (pv 3))))),?_⟩
  refine aS (σ:=[some (.ref r),some (.ref s),some (.int tt),none,none]) rfl ?_;have d1:=D.n8;obtain ⟨m,p,l,g,n1,n2,n3,Gm,Gp,Gl⟩:=id PQ;obtain ⟨ss,gs,qs⟩:=id Rs;exists ⟨s,ss,rfl,.inl (bR.of gs),λc hc=>?_⟩;have sc:aL H (upd H c (.lst ss)):=aL.new hc;have Rc:cF K (upd H c (.lst ss)) c st:=⟨ss,aO,Paired.imp' (λ_ _ z=>z.same sc) qs⟩;generalize upd H c (.lst ss)=Hc at sc Rc ⊢;sleep 3;refine eP (n:=tt) (λi σ' H'=>aL H H'/\∃q y,σ'=[some (.ref r),some (.ref s),some (.int tt),some (.ref q),y]/\H q=none/\cF K H' q (ig mv i st)) ⟨sc,c,_,rfl,hc,Rc⟩ ?_ ?_
  ·rintro i σ' H' hi ⟨e,q,y,rfl,nq,Rq⟩;have ge:=e _ _ g;exists ⟨m,q,H0,mv,_,rfl,Gm.same e,Rq,by lia,by rw[iS ls];lia,λxs hx=>⟨by rw[D.mw xs hx,iS ls],(AF.fit D.mw ls (show i<=tt by lia)).1 xs hx⟩,λq2 H2 n2 s2 R2=>?_⟩;exact ⟨e.trans s2,q2,_,rfl,e.none n2,R2⟩
  ·rintro σ' H' ⟨e,q,y,rfl,nq,Rq⟩;exists k q H' nq e Rq
theorem rC:a7 ["_law_parts_here","_law_start","_law_goal_here","_law_steps_here","_law_price","_law_row_here"] ["_law_parts_here","_law_start","_law_goal_here","_law_steps_here","_law_price"] (aP nP):=by walk_at "d"
theorem AO (T:Txt K mg Z):cQ P w K mg base fI 6 Z.uy Z.uf ["_law_parts_here","_law_start","_law_goal_here","_law_steps_here","_law_price"] (Ad K):=by
 refine T.mH.F.ok rC (λvs H Q E h=>?_) (λcdv A outer s H vs Q E hr h=>?_)
 ·obtain ⟨r,s,g0,p0,tt,H0,mv,pt,lk,st,go,pr,rfl,_⟩:=h;rfl
 ·obtain ⟨r,s,g0,p0,tt,H0,mv,pt,lk,st,go,pr,rfl,hT,PQ,D,Rs,ls,Rg,lg,Rp,lpr,PF,hz,h1,k⟩:=h
  refine ⟨_,(av (cY (j9 (jx (cO (sH T) hr T.jM (ae (pv 4) (ae (bJ bx (by rfl) T.len bg (ae (bc bN (pv 0) ar) ag)) ag))))) (aB (aW mh)) bW)
   (av (dQ PassesOwn.never rfl (cM (cO (Co T) hr T.oz (ae (pv 0) (ae (pv 3) ag)))) (aQ (i:=5) rC.nd)
    (aB (cY (bw (IS (Cq hr)) (cO (kQ T) hr T.ip (ae (pv 4) (ae (pv 5) ag))) (cU (ae ar (ae ar ag))) (bC _)) (aB (aW mh)) bW)))
   (aB (aW (ia (xW (Cq hr)) (cO (kQ T) hr T.ip (ae (pv 4) (ae (cO (Ck T) hr T.ow (ae (pv 2) (ae (cO (Cn T) hr T.oy (ae (pv 0) (ae (pv 1) (ae (pv 3) ag)))) ag))) ag))) (cU (ae ar (ae ar ag))) (bC _)))))),?_⟩
  refine aS (σ:=[some (.ref r),some (.ref s),some (.ref g0),some (.int tt),some (.ref p0),none]) rfl ?_;have d8:=D.n8;have i4:=D.i4;obtain ⟨m,p,l,g,n1,n2,n3,Gm,Gpt,Gl⟩:=id PQ;obtain ⟨um,gm,qm,_⟩:=id Gm;have lum:=qm.length;exists ⟨_,_,rfl,.inl (bR.of gm),?_⟩;rw[<- lum];exists ⟨p0,pr.map nm,by rw[aj,lpr],Rp.rowK,by rw[aj];lia,λv hv=>?_,λH2 s2=>?_⟩
  ·obtain ⟨v,mv',rfl⟩:=aE.mp hv;exact LM (PF.sr v mv')
  exists ⟨r,tt,H0,mv,pt,lk,rfl,hT,PQ.same s2,D,PF.ad,λq H3 nq s3 Gq=>?_⟩;obtain ⟨us,gu,qu,_⟩:=id Gq;have wk:=fD (mv:=mv) (pt:=pt) rfl D.pw tt;have s03:=s2.trans s3;exists ⟨⟨_,bR.of gu⟩,?_⟩;refine gV (K:=K) (a:=q) (xs:=us) (λi σ' H'=>aL H3 H'/\∃x1,σ'=[some (.ref r),some (.ref s),some (.ref g0),some (.int tt),some (.ref p0),x1]) ⟨aL.refl _,_,rfl⟩ (λi σ' H' _ ⟨e,_⟩=>bR.of (e _ _ gu)) ?_ ?_
  ·rintro i v σ' H' hv ⟨e,x1,rfl⟩;obtain ⟨row,er,u,rfl,_,Ru⟩:=b8 qu hv;have mr:=ay er;have wr:=wk row mr;have e3:=s03.trans e;have dz:cE pr row=0:=by rw[HJ (by lia)];exact hz row mr
   exists ⟨p0,u,pr,row,rfl,Rp.same e3,cF.same Ru e,by lia,by lia,PF.f1 row mr,λd1 H4 s4 N4=>?_⟩;rw[dz] at N4;exists b7 λt5 H5 s5 g5=>?_
   exists ⟨_,_,Bf,0,0,by decide,N4.same s5,cz.mk (q:=0) g5 rfl,?_⟩;sleep 12;exists ⟨(e.trans s4).trans s5,_,rfl⟩
  ·rintro σ' H' ⟨e,x1,rfl⟩;have e3:=s03.trans e;exists ⟨r,s,tt,H0,mv,pt,lk,st,rfl,by lia,PQ.same e3,D,Rs.same e3,ls,PF.al,λal H4 n4 s4 R4=>?_⟩;have lpw:=iS (mv:=mv) ls tt;exists ⟨g0,al,go,_,rfl,(Rg.same e3).same s4,R4,by rw[lpw,lg],by lia,PF.sg,(PF.al.fit D.mw ls (ak _)).2,λlq H5 n5 s5 R5=>?_⟩;have R5:cF K H5 lq (eI mv tt st go):=R5;have ll:=Bc (T:=tt) ls lg;have e5:=(e3.trans s4).trans s5;exists ⟨p0,lq,pr,_,rfl,Rp.same e5,R5,by lia,by lia,PF.f2,λd1 H6 s6 N6=>?_⟩;rw[h1] at N6;exists b7 λt7 H7 s7 g7=>?_
   exists ⟨_,_,Bf,1,1,by decide,N6.same s7,cz.mk (q:=1) g7 rfl,?_⟩;sleep 12;exact k _ ((e5.trans s6).trans s7)
theorem eE:a7 ["_law_bag_here","_law_system_here","_law_parts_here","_law_goal_here","_law_wide","_law_rows","_law_most","_law_rest","_law_state","_law_puts_here","_law_row_here","_law_steps_here","_law_kind","_law_price"] ["_law_bag_here","_law_system_here","_law_parts_here","_law_goal_here","_law_wide","_law_rows","_law_most"] (aP pK):=by walk_at "d"
theorem Cj (T:Txt K mg Z):cQ P w K mg base fI 10 Z.xa Z.wC ["_law_bag_here","_law_system_here","_law_parts_here","_law_goal_here","_law_wide","_law_rows","_law_most"] (Af K Z.a_System):=by
 refine T.ou.F.ok eE (λvs H Q E h=>?_) (λcdv A outer s H vs Q E hr h=>?_)
 ·obtain ⟨b,x,r,g,p,w,tt,a,c,H0,H1,mv,pt,lk,rows,go,z0,rfl,_⟩:=h;rfl
 ·obtain ⟨b,x,r,g,p,w,tt,a,c,H0,H1,mv,pt,lk,rows,go,z0,rfl,B,b0,b1,gb,pb,S,PQ,D,SF,F,Rg,lg,GR,r100,ez0,nz0,hz,w1,w2,t12,hE,SO,hN,k⟩:=h
  refine ⟨_,(av (kB 7 ["_law_one"] [] [] eE.nd rfl rfl (cM (pv 3)) (λ_=>(aQ (i:=0) (show ND9 ["_law_one"] by decide +kernel))) (λ_=>cH) (λ_=>(cU (ae ar (ae ar ag)))))
   (av (a9 (i:=8) eE.nd rfl (Or.inl rfl) (d9 (fV K (by rfl)) (by rfl) T.list PyProof.Rows.boot_list (ae (pv 7) ag)))
   (av (cY (PW.pt (me (bw (xW (Cq hr)) (pv 5) (dG ag) (bC _)) (jv (bw (xW (Cq hr)) (cO (kQ T) hr T.ip (ae (bc (iP K (by rfl)) (pv 5) ar) (ae (pv 3) ag))) (cU (ae ar (ae ar ag))) (bC _))))) (aB (aW mh)) bW)
   (av (dQ PassesOwn.never rfl (cM (cO (vG T) hr T.lJ (ae (pv 0) (ae (pv 2) (ae (pv 6) (ae (pv 4) ag)))))) (aQ (i:=9) eE.nd)
    (av (a9 (i:=8) eE.nd rfl (Or.inl rfl) (cO (vI T) hr T.lM (ae (pv 2) (ae (pv 8) (ae (pv 9) ag)))))
   (av (dQ PassesOwn.never rfl (cM (pv 5)) (aQ (i:=10) eE.nd)
    (aB (cY (bw (IS (Cq hr)) (cO (kQ T) hr T.ip (ae (pv 10) (ae (pv 8) ag))) (cU (ae ar (ae ar ag))) (bC _)) (aB (aW mh)) bW)))
   (aB (cY (bw (xW (Cq hr)) (pv 8) (pv 3) (bC _)) (aB (aW mh)) bW)))))
   (av (a9 (i:=11) eE.nd rfl (Or.inl rfl) (cO (bp T) hr T.aX (ae (pv 0) (ae (bH dR (pv 6) ar) ag))))
   (av (fh (cO (EW T) hr T.vO (ae (pv 1) (ae (pv 7) (ae (pv 3) (ae (pv 11) ag))))) (pS rfl (cC (aQ (i:=12) eE.nd) (cC (aQ (i:=13) eE.nd) fY))))
   (av (cY (PW.pt (me (bw sk (pv 12) iZ (bC _)) (jv (j9 (jx (cO (AO T) hr T.mH (ae (pv 2) (ae (pv 7) (ae (pv 3) (ae (pv 11) (ae (pv 13) ag))))))))))) (aB (aW mh)) bW)
   (aB (aW (ia QZ (bc bN (cO (uX T) hr T.mE (ae (pv 1) (ae (pv 7) (ae (pv 3) (ae (pv 6) ag))))) ar) uS (bC _))))))))))),?_⟩
  refine aS (σ:=[some (.ref b),some (.ref x),some (.ref r),some (.ref g),some (.int w),some (.ref p),some (.int tt),none,none,none,none,none,none,none]) rfl ?_;have d8:=D.n8;obtain ⟨ys,gy,qy⟩:=id Rg;have ly:=qy.length;exists ⟨⟨_,bR.of gy⟩,?_⟩;refine dW (K:=K) (as:=go) (F:=cz K) (cz K) (λ_=>(0:Rat)) gy qy (by lia) (λh s=>h.same s) (λh s=>h.same s) ?_ ?_
  ·rintro i y v H2 NY NN ey s2 _ k1;exists b7 λt0 H3 s3 g3=>?_
   exact k1 _ _ s3 (cz.mk (q:=0) g3 rfl)
  rintro zs H2 re nre s2 g2 pr2 _;have R2:cF K H2 re (List.replicate mv.length 0):=⟨zs,g2,by have:=pr2;rwa [hJ,lg] at this⟩;have q2:Paired (cz K H2) (List.replicate mv.length 0) zs:=by have:=pr2;rwa [hJ,lg] at this
  exists ⟨re,zs,rfl,.inl (bR.of g2),λst hst=>?_⟩;have s3:aL H2 (upd H2 st (.lst zs)):=aL.new hst;have R3:cF K (upd H2 st (.lst zs)) st (List.replicate mv.length 0):=⟨zs,aO,Paired.imp' (λ_ _ z=>z.same s3) q2⟩;generalize upd H2 st (.lst zs)=H3 at s3 R3 ⊢;have s03:=s2.trans s3;exists c8 λel H4 s4 n4 g4=>?_
  have s04:=s03.trans s4;exists ⟨_,_,MK,rows,[],by decide,(GR.same s04).kind,bE.kind (H0:=λ_=>none) ⟨[],g4,.nil,λz=>nomatch z⟩,?_⟩;rw[decide_eq_false (show ¬rows=[] from λz=>by rw[z] at ez0;cases ez0)];obtain ⟨us,gu,qu,_⟩:=GR.same s04;have r0:0 < rows.length:=(aF.mp ez0).1;obtain ⟨z',v0,e1,e0,mz0,q0,rfl,_,Rz0⟩:=i8 qu (i:=0) r0;rw[ez0] at e1;cases e1;exists cN (bR.of gu) (fZ e0) ?_;exists ⟨q0,g,z0,go,rfl,Rz0,Rg.same s04,by rw[(hz z0 mz0).1,lg],by rw[(hz z0 mz0).1];lia,(hz z0 mz0).2,λd H5 s5 N5=>?_⟩;exists b7 λt6 H6 s6 g6=>?_
  have s06:=(s04.trans s5).trans s6;exists ⟨_,_,Bf,cE z0 go,0,by decide,N5.same s6,cz.mk (q:=0) g6 rfl,?_⟩;rw[decide_eq_false nz0];have B6:=B.same s06;have P6:=PQ.same s06;have S6:=S.same s06;have Rg6:=Rg.same s06;have GR6:=GR.same s06;have reb:re≠b:=λz=>B.at (by rw[<- z];exact nre)
  have stb:st≠b:=λz=>(B.same s2).at (by rw[<- z];exact hst)
  have R26:=R2.same (s3.trans ((s4.trans s5).trans s6));have R36:=R3.same ((s4.trans s5).trans s6);exists ⟨b,r,tt,w,H0,mv,pt,lk,rfl,by lia,w1,w2,B6,b0,P6,D,λo pus H7 no GO lo wo B7 u7=>?_⟩;obtain ⟨EF,FZ⟩:=hE pus lo wo;have P7:=P6.upto u7 B6 b0;have S7:=S6.upto u7 B6 b0;have Rg7:=Rg6.upto u7 B6 gb;have GR7:=GR6.upto u7 B6 pb b1;have R27:=R26.upto u7 B6 reb;have R37:=R36.upto u7 B6 stb;obtain ⟨ps,gp,qp,_⟩:=id GO;have lps:=qp.length;exists ⟨⟨_,bR.of gp⟩,?_⟩;refine gV (K:=K) (a:=o) (xs:=ps) (λi σ' H'=>aL H7 H'/\∃q y1 y2,σ'=[some (.ref b),some (.ref x),some (.ref r),some (.ref g),some (.int w),some (.ref p),some (.int tt),some (.ref re),some (.ref q),y1,y2,none,none,none]/\cF K H' q (jU mv pt (List.replicate mv.length 0) pus i)) ⟨aL.refl _,st,_,_,rfl,R37⟩ (λi σ' H' _ ⟨e,_⟩=>bR.of (e _ _ gp)) ?_ ?_
  ·rintro i v σ' H8 hv ⟨e8,q,y1,y2,rfl,Rq⟩;obtain ⟨pu,epu,u,rfl,_,Ru⟩:=b8 qp hv;have hi:i < pus.length:=(aF.mp epu).1;have mp:=ay epu;exists ⟨r,q,u,H0,mv,pt,lk,_,pu,rfl,P7.same e8,D,Rq,cF.same Ru e8,jo (aD ..) (by lia),(wo pu mp).1,EF.nx D (aD ..) (λxs hx=>(wo xs hx).1) (by lia) epu,λq2 H9 n2 s9 R9=>?_⟩;rw[<- lZ epu] at R9;have e9:=e8.trans s9;have ln:(jU mv pt (List.replicate mv.length 0) pus (i+1)).length=mv.length:=jo (aD ..) (by lia);obtain ⟨us9,gu9,qu9,_⟩:=GR7.same e9;exists ⟨⟨_,bR.of gu9⟩,?_⟩;refine gV (K:=K) (a:=p) (xs:=us9) (λj σ' H'=>aL H9 H'/\∃y2,σ'=[some (.ref b),some (.ref x),some (.ref r),some (.ref g),some (.int w),some (.ref p),some (.int tt),some (.ref re),some (.ref q2),some (.ref u),y2,none,none,none]) ⟨aL.refl _,_,rfl⟩ (λj σ' H' _ ⟨e,_⟩=>bR.of (e _ _ gu9)) ?_ ?_
   ·rintro j v σ' HA hv ⟨eA,y2,rfl⟩;obtain ⟨z,ez,qz,rfl,_,Rz⟩:=b8 qu9 hv;have mz:=ay ez;obtain ⟨f1,f2⟩:=FZ (i+1) (by lia) z mz;exists ⟨qz,q2,z,_,rfl,cF.same Rz eA,R9.same eA,by rw[ln,(hz z mz).1],by rw[(hz z mz).1];lia,f1,λd HB sB NB=>?_⟩;exists b7 λt0 HC sC gC=>?_
    exists ⟨_,_,Bf,_,0,by decide,NB.same sC,cz.mk (q:=0) gC rfl,?_⟩;rw[decide_eq_true f2];exists ⟨(eA.trans sB).trans sC,_,rfl⟩
   rintro σ' HA ⟨eA,y2,rfl⟩;exists ⟨_,_,J6,_,go,by decide,(R9.same eA).kind,(Rg7.same (e9.trans eA)).kind,?_⟩;rw[decide_eq_false (show ¬jU mv pt (List.replicate mv.length 0) pus (i+1)=go from λe=>nz0 (by rw[<- e];exact (FZ (i+1) (by lia) z0 mz0).2))];exists ⟨e9.trans eA,q2,_,_,rfl,R9.same eA⟩
  rintro σ' H8 ⟨e8,q,y1,y2,rfl,_⟩;have B8:=B7.same e8;exists ⟨b,(tt:Int)+1,rfl,B8,by lia,by lia,λv9 H9 v90 v91 B9 u9=>?_⟩;obtain ⟨t9,rfl⟩:=bY v90;have t9T:t9<=tt:=by lia
  have P9:=(P7.same e8).upto u9 B8 b0;have S9:=(S7.same e8).upto u9 B8 b0;have Rg9:=(Rg7.same e8).upto u9 B8 gb;have R29:=(R27.same e8).upto u9 B8 reb;obtain ⟨D0,W0,E0,W1,CT,hA,hB⟩:=SO t9 t9T;exists ⟨x,re,g,t9,a,c,D0,W0,E0,W1,H0,mv,pt,lk,List.replicate mv.length 0,go,rfl,by lia,S9,D,SF,F,R29,aD ..,Rg9,lg,CT.cf,CT.sg,CT.co,⟨λtA pA pus9 qA HA gA nA sA GA lA wA eA cA q0' q1' q2'=>?_,λtA pA prA qA HA gA nA sA RA lA wA dA cA q0' q1' q2'=>?_⟩⟩
  ·exact (hN t9 pus9 t9T (hA pus9 qA lA wA eA cA q0' q1' q2')).elim
  have SB9:=hB prA qA lA wA dA cA q0' q1' q2';walk_at "w";sleep 12;exists ⟨r,re,g,pA,t9,H0,mv,pt,lk,List.replicate mv.length 0,go,prA,rfl,by lia,P9.same sA,D,R29.same sA,aD ..,Rg9.same sA,lg,RA,lA,SB9.2.2.2.2,wA,dA,λHB sB=>?_⟩;have sAB:=sA.trans sB;exists ⟨x,re,g,tt,a,c,H0,mv,pt,lk,List.replicate mv.length 0,go,rfl,by lia,S9.same sAB,D,SF,F,R29.same sAB,aD ..,Rg9.same sAB,lg,SO,λkv ft fp fr pusB prsB Hm HC gft sm sC nfr Gr nfp Gp SR=>?_⟩;obtain ⟨_,⟨kk,rfl,kT,_,SA⟩ | ⟨rfl,rfl,_⟩⟩:=SR
  ·exact (hN kk pusB kT SA).elim
  exists ⟨rfl,?_⟩;sleep 12;exact k _
theorem zz:a7 ["_law_thing","_law_many","_law_wide"] ["_law_thing","_law_many","_law_wide"] (aP md):=by walk_at "d"
theorem zA (T:Txt K mg Z):cQ P w K mg base fI 4 Z.sZ Z.sT ["_law_thing","_law_many","_law_wide"] (Ah K):=by
 refine T.lh.F.ok zz (λvs H Q E h=>?_) (λcdv A outer s H vs Q E hr h=>?_)
 ·obtain ⟨p,rows,m,rfl,_⟩:=h;rfl
 ·obtain ⟨p,rows,m,rfl,hp,hl,hm,hn,k⟩:=h
  refine ⟨_,(av (cY (PW.pt (me (j9 (jx (xV rfl T.isinstance PyProof.Rows.boot_list T.list (pv 0)))) (jv (bw sk (bJ bx (by rfl) T.len bg (ae (pv 0) ag)) (pv 1) (bC _))))) (aB (aW mh)) bW)
   (aB (aW (bJ (Bv rfl) (by rfl) T.all PyProof.Rows.boot_all (ae (cm ["_law_row_here"] ["_law_wide"] [2] (cM (pv 0)) (λ_=>(aQ (i:=0) (show ND9 ["_law_row_here","_law_wide"] by decide +kernel))) (λ_=>cH) (λ_=>(cO (sH T) hr T.jM (ae (pv 0) (ae (pv 1) ag))))) ag))))),?_⟩
  refine aS (σ:=[some (.ref p),some (.int rows.length),some (.int m)]) rfl ?_;obtain ⟨xs,gx,qx⟩:=id hp;sleep 11;exists ⟨_,_,.lst gx,rfl,?_⟩;exists ⟨_,_,rfl,.inl (bR.of gx),?_⟩;walk_at "w";rw[show ((xs.length:Nat):Int)=(rows.length:Nat) by rw[lx],decide_eq_true rfl];sleep 7;refine fu (K:=K) (xs:=xs) (λi ys H'=>aL H H'/\ys=List.replicate i (.bl true)) (aU (bF (by lia))) ⟨aL.refl _,rfl⟩ (λi ys H' _ ⟨s,_⟩=>bR.of (s _ _ gx)) ?_ ?_
  ·rintro i x ys H' hx hlen ⟨s,rfl⟩;obtain ⟨ns,en,q,rfl,z⟩:=b8 qx hx;obtain ⟨e1,e2⟩:=hn ns (ay en);exists ⟨q,ns,by rw[e1],z.same s,by lia,e2,λH2 s2=>⟨s.trans s2,by rw[Ec]⟩⟩
  ·rintro ys H' hy ⟨s,rfl⟩ l hl';exists ⟨l,List.replicate xs.length true,rfl,bR.of (by rw[aO];simp),?_⟩;have e4:(List.replicate xs.length true).all id=true:=by simp
   rw[e4];exact k _ (s.trans (aL.new hl'))
theorem BZ:a7 ["_law_parts_here","_law_start","_law_goal_here","_law_steps_here","_law_puts_here"] ["_law_parts_here","_law_start","_law_goal_here","_law_steps_here","_law_puts_here"] (aP pN):=by walk_at "d"
theorem Cm (T:Txt K mg Z):cQ P w K mg base fI 7 Z.xg Z.wG ["_law_parts_here","_law_start","_law_goal_here","_law_steps_here","_law_puts_here"] (CN K):=by
 refine T.ox.F.ok BZ (λvs H Q E h=>?_) (λcdv A outer s H vs Q E hr h=>?_)
 ·obtain ⟨r,s,g0,p0,tt,H0,H1,mv,pt,lk,pus,st,go,rfl,_⟩:=h;rfl
 ·obtain ⟨r,s,g0,p0,tt,H0,H1,mv,pt,lk,pus,st,go,rfl,hT,PQ,D,Rs,ls,Rg,Gp,lp,wp,EF,est,k⟩:=h
  refine ⟨_,(av (cY (j9 (jx (cO (zA T) hr T.lh (ae (pv 4) (ae (pv 3) (ae (bJ bx (by rfl) T.len bg (ae (bc bN (pv 0) ar) ag)) ag)))))) (aB (aW mh)) bW)
   (aB (aW (ia (xW (Cq hr)) (cO (yv T) hr T.mY (ae (pv 0) (ae (pv 1) (ae (pv 4) ag)))) (pv 2) (bC _))))),?_⟩
  refine aS (σ:=[some (.ref r),some (.ref s),some (.ref g0),some (.int tt),some (.ref p0)]) rfl ?_;have i4:=D.i4;obtain ⟨m,p,l,g,n1,n2,n3,Gm,Gpt,Gl⟩:=id PQ;obtain ⟨up,gp,qp,_⟩:=id Gpt;have lup:=qp.length;have lm1:(pus.map (List.map nm)).length=tt:=by rw[aj];exact lp
  exists ⟨_,_,rfl,.inl (bR.of gp),?_⟩;rw[<- lup];exists ⟨p0,_,pt.length,by rw[lm1],Gp.gridK,by rw[lm1];lia,by lia,λns' hx=>?_,λH2 s2=>?_⟩
  ·obtain ⟨xs,mx,rfl⟩:=aE.mp hx;refine ⟨by rw[aj];exact wp xs mx,λv hv=>?_⟩;obtain ⟨v,mv',rfl⟩:=aE.mp hv;exact LM (EF.sznP xs mx v mv')
  exists ⟨r,s,p0,H0,H1,mv,pt,lk,pus,st,rfl,PQ.same s2,D,Rs.same s2,ls,Gp.same s2,by lia,wp,EF,λt3 H3 n3' s3 R3=>?_⟩;rw[lp,est] at R3;exists ⟨_,_,J6,go,go,by decide,R3.kind,((Rg.same s2).same s3).kind,?_⟩;sleep 12;exact k _ (s2.trans s3)
theorem j4:a7 ["_law_script","_law_bag_here","_law_parts_here","_law_wide","_law_n","_law_system_here","_law_rest","_law_goal_here","_law_most","_law_found","_law_steps_here","_law_kind","_law_puts_here"] ["_law_script"] (aP LY):=by walk_at "d"
theorem Q0 (T:Txt K mg Z):cQ P w K mg base fI 11 Z.PV Z.PR ["_law_script"] (Ag K):=by
 refine T.P8.ok j4 (λvs H Q E h=>?_) (λcdv A outer s H vs Q E hr h=>?_)
 ·obtain ⟨a,ns,rfl,_⟩:=h;rfl
 ·obtain ⟨a,ns,rfl,hS,hlen,k⟩:=h
  refine ⟨_,(av (a9 (i:=1) j4.nd rfl (Or.inl rfl) (cO (GV T) hr T.sL (ae (pv 0) ag)))
   (av (fh (cO (AN T) hr T.mG (ae (pv 1) ag)) (pS rfl (cC (aQ (i:=2) j4.nd) (cC (aQ (i:=3) j4.nd) fY))))
   (av (a9 (i:=4) j4.nd rfl (Or.inl rfl) (bJ bx (by rfl) T.len bg (ae (bc bN (pv 2) ar) ag)))
   (av (a9 (i:=5) j4.nd rfl (Or.inl rfl) (cO (EZ T) hr T.qg (ae (pv 2) ag)))
   (av (kB 6 ["_law_k"] [] [] j4.nd rfl rfl (cB rfl T.range (ae (pv 4) ag)) (λ_=>(aQ (i:=0) (show ND9 ["_law_k"] by decide +kernel))) (λ_=>cH) (λ_=>(cU (ae ar (ae ar ag)))))
   (av (a9 (i:=7) j4.nd rfl (Or.inl rfl) (cO (E4 T) hr T.qi (ae (pv 1) (ae (pv 2) (ae (pv 6) (ae (cO (tS T) hr T.kF (ae (pv 1) (ae (pv 2) ag))) (ae (pv 3) ag)))))))
   (av (a9 (i:=8) j4.nd rfl (Or.inl rfl) (bJ (oK rfl) (by rfl) T.min PyProof.Rows.boot_min (ae (bc bX (dG (ae ar (ae ar ag))) (d9 lW (by rfl) T.int PyProof.Rows.boot_int (ae (ia qN (pv 4) ar (bC _)) ag))) (ae (bH dR (bH dR (pv 4) ar) (cO (tS T) hr T.kF (ae (pv 1) (ae (pv 2) ag)))) ag))))
   (av (a9 (i:=9) j4.nd rfl (Or.inl rfl) (cO (GQ T) hr T.sJ (ae (pv 5) (ae (d9 (fV K (by rfl)) (by rfl) T.list PyProof.Rows.boot_list (ae (pv 7) ag)) ag))))
   (av (cY (bw eO (bc bN (pv 9) ar) iZ (bC _)) (aB (aW (cO (Cj T) hr T.ou (ae (pv 1) (ae (pv 5) (ae (pv 2) (ae (pv 7) (ae (pv 3) (ae (bc bN (pv 9) ar) (ae (pv 8) ag)))))))))) bW)
   (av (cY (PW.pt (me (bw sk (bc bN (pv 9) ar) iZ (bC _)) (me (bw qN (bc bN (pv 9) ar) (pv 4) (bC _)) (jv (bw sk (bc bN (cO (uX T) hr T.mE (ae (pv 5) (ae (pv 6) (ae (pv 7) (ae (pv 8) ag))))) ar) (bc bN (pv 9) ar) (bC _)))))) (aB (aW mh)) bW)
   (av (a9 (i:=10) j4.nd rfl (Or.inl rfl) (bH dR (bc bN (pv 9) ar) (cO (bp T) hr T.aX (ae (pv 1) (ae (bH dR (bH jA (pv 8) (bc bN (pv 9) ar)) ar) ag)))))
   (av (fh (cO (EW T) hr T.vO (ae (pv 5) (ae (pv 6) (ae (pv 7) (ae (pv 10) ag))))) (pS rfl (cC (aQ (i:=11) j4.nd) (cC (aQ (i:=12) j4.nd) fY))))
   (aB (aW (EO (ia eO (pv 11) iZ (bC _)) (EM (cO (Cm T) hr T.ox (ae (pv 2) (ae (pv 6) (ae (pv 7) (ae (pv 10) (ae (pv 12) ag)))))))))))))))))))))),?_⟩
  refine aS (σ:=[some (.ref a),none,none,none,none,none,none,none,none,none,none,none,none]) rfl ?_;exists ⟨a,ns,rfl,hS,hlen,λb H0 hb0 B0 s0=>?_⟩;exists ⟨b,rfl,B0,λt r w a' c mv pt lk H1 g1 P1 D F KF RG w1 w2 B1 u1=>?_⟩;have d8:=D.n8;have d4:=D.i4;obtain ⟨m,p,l,gt,mn,pn,ln,Gm,Gp,Gl⟩:=id P1;obtain ⟨um,gm,qm,_⟩:=id Gm;have lum:=qm.length;exists ⟨_,_,rfl,.inl (bR.of gm),?_⟩;rw[<- lum];clear gm qm lum Gm Gp Gl gt;exists ⟨r,H0,mv,pt,lk,rfl,P1,D,F.sf,λx H2 nx s2 S2=>?_⟩;replace S2:jR K H0 H2 Z.a_System x mv pt lk:=S2.weakN λq h=>u1.none B1 h
  replace P1:=P1.same s2;have B2:=B1.same s2
  have szE:∀xs∈mv++pt,∀x∈xs,nB x:=λxs hx y hy=>by
   obtain ⟨M,V,h0,h1,h2,f1,f2,_⟩:=F;refine OU h0 (ai h1 (ax (by decide) (by decide))) (ai h2 (ax (by decide) (by decide))) ?_;sleep 1
   ·exact f1 xs hx y hy
   ·exact f2 xs hx y hy
  sleep 3;refine fJ (n:=mv.length) (cz K) (λ_=>(0:Rat)) (by lia) (λa b=>a.same b) ?_ ?_
  ·rintro i H' NY NN hi s' k1;exists b7 λt Hy sy gy=>?_
   exact k1 _ _ sy (cz.mk (q:=0) gy rfl)
  rintro ys H4 re hre s4 g4 pr4 _;have R0:cF K H4 re (List.replicate mv.length 0):=⟨ys,g4,by have:=pr4;rwa [hJ,cv] at this⟩;have reb:re≠b:=λz=>B2.at (by rw[<- z];exact hre)
  have B4:=B2.same s4;replace P1:=P1.same s4;replace S2:=S2.same s4;clear g4 pr4;have l0:(List.replicate mv.length (0:Rat)).length=mv.length:=aD ..;have d0:∀x∈List.replicate mv.length (0:Rat),Dr (max w 6) x:=λx hx=>by rw[xp hx];exact ⟨by show 0<=_;lia,by show 1<=_;lia⟩
  exists ⟨b,r,H0,mv,pt,lk,rfl,B4,B0.at,P1,D,szE,λtt H5 hT B5 u5=>?_⟩;replace P1:=P1.upto u5 B4 B0.at;replace S2:=S2.upto u5 B4 B0.at;replace R0:=R0.upto u5 B4 reb;have T12:=hT.1;obtain ⟨M1,M2,Vx,a1,a2,cc,b1,b2,U,HG⟩:=Sx RG D hT;exists ⟨b,r,re,tt,w,H0,mv,pt,lk,_,rfl,by lia,w1,w2,B5,B0.at,P1,D,R0,reb,l0,λpus dp=>U.enf D l0 d0 (ak _) dp,λg go H6 ng Rg lg GP B6 u6=>?_⟩;have gb:g≠b:=λz=>B5.at (by rw[<- z];exact ng)
  replace P1:=P1.upto u6 B5 B0.at;replace S2:=S2.upto u6 B5 B0.at;replace R0:=R0.upto u6 B5 reb;obtain ⟨⟨E0,e0,g0,ep,el,fg,eg⟩,SO⟩:=HG go lg (U.gob D l0 lg d0 (ak _) GP);exists c8 λl7 H7 s7 n7 g7=>?_
  walk_at "w"
  obtain ⟨m7,hm7,m712,e7⟩:∃m7:Nat,mv.length<=m7/\m7<=12/\Ij [V.int 12,V.int 8] (if decide ((3:Int) < (mv.length:Int))=true then 1 else 0)=some (V.int (m7:Int)):=by
   by_cases h3:(3:Int) < (mv.length:Int)
   ·exact ⟨8,d8,by decide,by rw[decide_eq_true h3];rfl⟩
   ·exact ⟨12,by lia,by decide,by rw[decide_eq_false h3];rfl⟩
  refine cN (bR.of g7) e7 ?_;have B7:=B6.same s7;replace P1:=P1.same s7;replace S2:=S2.same s7;replace R0:=R0.same s7;replace Rg:=Rg.same s7;exists ⟨b,r,H0,mv,pt,lk,rfl,B7,B0.at,P1,D,szE,λt8 H8 hT8 B8 u8=>?_⟩;replace P1:=P1.upto u8 B7 B0.at;replace S2:=S2.upto u8 B7 B0.at;replace R0:=R0.upto u8 B7 reb;replace Rg:=Rg.upto u8 B7 gb;walk_at "w"
  obtain ⟨mo,emo,nmo,mo12,mon⟩:∃mo:Nat,(if (mv.length:Int)+1+(t8:Int) < (m7:Int) then (mv.length:Int)+1+(t8:Int) else (m7:Int))=((mo:Nat):Int)/\mv.length<=mo/\mo<=12/\mo<=mv.length+1+t8:=by
   split
   ·exact ⟨mv.length+1+t8,by lia,by lia,by lia,by lia⟩
   ·exact ⟨m7,rfl,hm7,m712,by lia⟩
  rw[emo];obtain ⟨ys8,gy8,qy8⟩:=id Rg;refine ⟨g,ys8,rfl,.inl (bR.of gy8),λc1 hc1=>?_⟩;have s9:aL H8 (upd H8 c1 (.lst ys8)):=aL.new hc1;have R9:cF K (upd H8 c1 (.lst ys8)) c1 go:=⟨ys8,aO,Paired.imp' (λ_ _ z=>z.same s9) qy8⟩;generalize upd H8 c1 (.lst ys8)=H9 at s9 R9 ⊢;clear gy8 qy8;have B9:=B8.same s9;replace P1:=P1.same s9;replace S2:=S2.same s9;replace R0:=R0.same s9;replace Rg:=Rg.same s9;obtain ⟨A1,A2,A3,A4,A5,A6,A7,A8,A9,Y0⟩:=Sw RG D (T:=0) ⟨by decide,.inl (by decide)⟩;exists ⟨x,c1,a',c,H0,mv,pt,lk,go,rfl,S2,D,F,KF,R9,lg,λu hu=>SO u tt (by lia) hT (by lia),λR ps RR z hz=>?_,⟨λtF pF kk pus HA gA sA nA GA S48=>?_,λtF pF qF i R ps HA gA sA nA GA GB SH=>?_⟩⟩
  ·obtain ⟨q,q0,q1,fN,_⟩:=Y0.un D RR;have sz:=Y0.sz;exact ⟨_,_,e0,g0,⟨q,_,q0,q1,ak _,fN z hz⟩,⟨E0,_,ep,el,ak _,fg⟩,by lia⟩
  ·obtain ⟨kn,SA,SB⟩:=S48;have BA:=B9.same sA;replace P1:=P1.same sA;replace S2:=S2.same sA;replace R0:=R0.same sA;replace Rg:=Rg.same sA;walk_at "w";rw[decide_eq_false (show ¬(Str.ofString "in"=Str.ofString "never") by decide)];walk_at "w"
   try rw[decide_eq_true rfl]
   walk_at "w"
   try rw[decide_eq_false (show ¬((mv.length:Int) < (kk:Int)) by lia)]
   exists ⟨x,re,g,mo,a',c,H0,mv,pt,lk,_,go,rfl,by lia,S2,D,F,KF,R0,l0,Rg,lg,λu hu=>SO u t8 (by lia) hT8 (by lia),λkv ft fp fr pusB prsB Hm HC gft sm sC nfr Gr nfp Gp SR=>?_⟩
   have ekv:kv=.int ((kk:Nat):Int):=by
    obtain ⟨hp,⟨k',rfl,k1,k2,SA'⟩ | ⟨_,_,k2⟩⟩:=SR
    ·rcases dy k' kk with z | z | z
     ·obtain ⟨pr,SB'⟩:=SB k' z;exact (SA'.2.2.2.1.not SB'.2.2.2.1).elim
     ·rw[z]
     ·have SB':=hp kk _ (af (by lia));exact (SA.2.2.2.1.not SB'.2.2.2.1).elim
    ·have SB':=hp kk _ (af (by lia));exact (SA.2.2.2.1.not SB'.2.2.2.1).elim
   subst ekv;have sAC:=sm.trans sC;have BC:=BA.same sAC;replace P1:=P1.same sAC;replace S2:=S2.same sAC;replace R0:=R0.same sAC;replace Rg:=Rg.same sAC;have gAC:=sAC _ _ gA;walk_at "w";sleep 12;exists ⟨b,(mo:Int) - (kk:Int)+1,rfl,BC,by lia,by lia,λv9 HD v90 v91 BD uD=>?_⟩;obtain ⟨v9,rfl⟩:=bY v90;have t10:kk+v9<=mo:=by lia
   replace P1:=P1.upto uD BC B0.at;replace S2:=S2.upto uD BC B0.at;replace R0:=R0.upto uD BC reb;replace Rg:=Rg.upto uD BC gb;obtain ⟨D0,W0,E1,W1,CT,hA,hB⟩:=SO (kk+v9) t8 (by lia) hT8 (by lia);exists ⟨x,re,g,kk+v9,a',c,D0,W0,E1,W1,H0,mv,pt,lk,_,go,by rw[show ((kk+v9:Nat):Int)=(kk:Int)+(v9:Int) by lia],by lia,S2,D,F,KF,R0,l0,Rg,lg,CT.cf,CT.sg,CT.co,⟨λtA pA pus9 qA HE gE nE sE GE lA wA eA cA q0' q1' q2'=>?_,λtA pA prA qA HE gE nE sE RE lA wA dA cA q0' q1' q2'=>?_⟩⟩
   ·have SA9:=hA pus9 qA lA wA eA cA q0' q1' q2';walk_at "w";sleep 12;exists ⟨r,re,g,pA,kk+v9,H0,_,mv,pt,lk,pus9,_,go,by rw[show ((kk+v9:Nat):Int)=(kk:Int)+(v9:Int) by lia],by lia,P1.same sE,D,R0.same sE,l0,Rg.same sE,GE,lA,wA,SA9.2.2.2.2,eA,λHF sF=>k HF⟩
   ·have:=KU D lg SA.1 SA.2.1 SA.2.2.1 (show kk<=kk+v9 by lia) lA wA;rw[dA] at this;exact absurd this (by decide)
  ·have BA:=B9.same sA;obtain ⟨RR,iN,ni,_⟩:=SH;have wN:∀xs∈aR R ps mv.length,xs.length=mv.length:=lH;have nc:=Di RR;have mzi:=aJ iN
   have nz0:cE (aR R ps mv.length)[i] go≠0:=by
    rw[aa,aG,af iN] at ni;exact ni
   have pFb:pF≠b:=λz=>B9.at (by rw[<- z];exact nA)
   have rd:=λ(pus:LR9) (wp:∀xs∈pus,xs.length=pt.length)=>CZ KF D RR wp
   walk_at "w";sleep 12;exists ⟨b,x,r,g,pF,w,mo,a',c,H0,H9,mv,pt,lk,_,go,_,rfl,BA,B0.at,B9.at,gb,pFb,S2.same sA,P1.same sA,D,F,KF,Rg.same sA,lg,GA,by rw[DT iN];lia,Js iN,nz0,λz hz=>⟨wN z (oM hz),?_⟩,w1,w2,mo12,λpus lp wp=>?_,λu hu=>SO u t8 (by lia) hT8 (by lia),λu pus hu SA=>nz0 ?_,λH'=>k H'⟩
   ·obtain ⟨q,q0,q1,fN,_⟩:=Y0.un D RR;have sz:=Y0.sz;exact ⟨_,_,e0,g0,⟨q,_,q0,q1,ak _,fN z (oM hz)⟩,⟨E0,_,ep,el,ak _,fg⟩,by lia⟩
   ·obtain ⟨C1,C2,C3,C4,C5,C6,C7,C8,C9,Y⟩:=Qs RG D hT8 mo12 mon;have G:=Y.go D RR l0 d0 lp wp;exact ⟨G.en,λk hk z hz=>⟨G.f1 k (by lia) z (oM hz),rd pus (λxs hx=>(wp xs hx).1) k (by lia) z (oM hz)⟩⟩
   ·have:=rd pus SA.2.1 u (by rw[SA.1];exact ak _) _ mzi;rwa [SA.2.2.1] at this
end
theorem ln1 {P:List Value->Prop} (h:∀x0,P [x0]):∀us:List Value,us.length=1->P us
 | [x0],_=>h x0
theorem ln2 {P:List Value->Prop} (h:∀x0 x1,P [x0,x1]):∀us:List Value,us.length=2->P us
 | [x0,x1],_=>h x0 x1
theorem ln3 {P:List Value->Prop} (h:∀x0 x1 x2,P [x0,x1,x2]):∀us:List Value,us.length=3->P us
 | [x0,x1,x2],_=>h x0 x1 x2
theorem ln4 {P:List Value->Prop} (h:∀x0 x1 x2 x3,P [x0,x1,x2,x3]):∀us:List Value,us.length=4->P us
 | [x0,x1,x2,x3],_=>h x0 x1 x2 x3
theorem ln5 {P:List Value->Prop} (h:∀x0 x1 x2 x3 x4,P [x0,x1,x2,x3,x4]):∀us:List Value,us.length=5->P us
 | [x0,x1,x2,x3,x4],_=>h x0 x1 x2 x3 x4
theorem ln7 {P:List Value->Prop} (h:∀x0 x1 x2 x3 x4 x5 x6,P [x0,x1,x2,x3,x4,x5,x6]):∀us:List Value,us.length=7->P us
 | [x0,x1,x2,x3,x4,x5,x6],_=>h x0 x1 x2 x3 x4 x5 x6
local macro_rules | `(tactic| walk_at "b") => `(tactic| (intro _ _ _ _ _ _; first | (refine ln1 ?_; intros; rfl) | (refine ln2 ?_; intros; rfl) | (refine ln3 ?_; intros; rfl) | (refine ln4 ?_; intros; rfl) | (refine ln5 ?_; intros; rfl) | (refine ln7 ?_; intros; rfl)))
theorem all_mk {l:W.OpenLaw} {w:World} {K:W.Frag} {h:Heap} {mg:Str->Option Value} {fa:Addr} {f0 f1 f2 f3 f4 f5 f6 f7 f8 f9 f10 f11 f12 f13 f14 f15 f16 f17 f18 f19 f20 f21 f23 f24 f25 f26 f27 f28 f29 f30 f31 f32 f33 f34 f35 f36 f37 f38 f39 f40 f41 f42 f43 f44 f45 f46 f47 f48 f49 f50 f51 f52 f53 f55 f56 f57 f58 f59 f60 f61 f62 f63 f64 f65 f66 f67 f68 f69 f70 f71 f72 f73 f74 f75 f76 f77 f78 f79 f80 f81 f82 f83:Addr} {e0 e1 e2 e3 e4 e5 e6 e7 e8 e9 e10 e11 e12 e13 e14 e15 e16 e17 e18 e19 e20 e21 e23 e24 e25 e26 e27 e28 e29 e30 e31 e32 e33 e34 e35 e36 e37 e38 e39 e40 e41 e42 e43 e44 e45 e46 e47 e48 e49 e50 e51 e52 e53 e55 e56 e57 e58 e59 e60 e61 e62 e63 e64 e65 e66 e67 e68 e69 e70 e71 e72 e73 e74 e75 e76 e77 e78 e79 e80 e81 e82 e83:FuncData}
  {f22 f54:Addr} {od22 od54 an22 an54:Option Addr} {sl22 sl54:Array (Option Value)} {oc22 oc54 kV22 kV54 dc22 dc54 pm22 pm54 cd22 cd54 ct22 ct54:Value}
  (X:K.In h) (G:h.Ns mainGlobals mg) (hfa:mg "law"=some (.ref fa))
  {C:Addr} (aC:W.nsIn K mainGlobals "System"=some (some (.ref C)))
  (h0:Dh K "_law_bag" uQ f0 e0)
  (h1:Dh K "_law_take" rL f1 e1)
  (h2:Dh K "_law_sizes" lE f2 e2)
  (h3:Dh K "_law_line" rT f3 e3)
  (h4:Dh K "_law_low" uN f4 e4)
  (h5:Dh K "_law_sum" uL f5 e5)
  (h6:Dh K "_law_plus" rO f6 e6)
  (h7:Dh K "_law_prod" rN f7 e7)
  (h8:Dh K "_law_by" xQ f8 e8)
  (h9:Dh K "_law_mixed" pL f9 e9)
  (h10:Dh K "_law_two_lines" j6 f10 e10)
  (h11:Dh K "_law_number" nQ f11 e11)
  (h12:Dh K "_law_row" uM f12 e12)
  (h13:Dh K "_law_move" rR f13 e13)
  (h14:Dh K "_law_parts" pJ f14 e14)
  (h15:Dh K "_law_system" nO f15 e15)
  (h16:Dh K "want_list" rE f16 e16)
  (h17:Dh K "is_whole" uK f17 e17)
  (h18:Dh K "common_divisor" j5 f18 e18)
  (h19:Dh K "is_number" rJ f19 e19)
  (h20:Dh K "is_row" Av f20 e20)
  (h21:Dh K "copied_rows" nN f21 e21)
  (a22:W.findIn K (.ref C) "__init__"=some (some (.ref f22))) (i22:W.isFn K (.ref f22)=true) (l22:K.lookup f22=some ⟨oc22,od22,.func (W.fnOf "__init__" "System.__init__" (lO eN) (jO eN) (aP eN) .none kV22 dc22 pm22 an22 cd22 ct22),sl22⟩) (c22:W.codeIn K cd22 "System.__init__"=true) (k22:W.keepIn K (.ref f22)=true)
  (h23:Dh K "_law_copied" nU f23 e23)
  (h24:Dh K "_law_made" rS f24 e24)
  (h25:Dh K "_law_dot" uP f25 e25)
  (h26:Dh K "_law_on" xP f26 e26)
  (h27:Dh K "_law_next" rQ f27 e27)
  (h28:Dh K "_law_end" uO f28 e28)
  (h29:Dh K "_law_puts" rM f29 e29)
  (h30:Dh K "_law_goal" rW f30 e30)
  (h31:Dh K "_law_steps" pH f31 e31)
  (h32:Dh K "tops_over" rG f32 e32)
  (h33:Dh K "common_multiple" ju f33 e33)
  (h34:Dh K "common_bottom" kY f34 e34)
  (h35:Dh K "first_with" pE f35 e35)
  (h36:Dh K "cleared" xO f36 e36)
  (h37:Dh K "brought_up" pG f37 e37)
  (h38:Dh K "swept" EG f38 e38)
  (h39:Dh K "lowest" Au f39 e39)
  (h40:Dh K "reduced" xI f40 e40)
  (h41:Dh K "row_dot" xH f41 e41)
  (h42:Dh K "grid_on" xN f42 e42)
  (h43:Dh K "moved_rows" pB f43 e43)
  (h44:Dh K "reach_grown" nH f44 e44)
  (h45:Dh K "flat" IE f45 e45)
  (h46:Dh K "additions" rK f46 e46)
  (h47:Dh K "nought_row" pz f47 e47)
  (h48:Dh K "solved" As f48 e48)
  (h49:Dh K "grid_turned" nK f49 e49)
  (h50:Dh K "solve" EH f50 e50)
  (h51:Dh K "weights_for" nG f51 e51)
  (h52:Dh K "minus" EJ f52 e52)
  (h53:Dh K "row_minus" rH f53 e53)
  (a54:W.findIn K (.ref C) "moved"=some (some (.ref f54))) (i54:W.isFn K (.ref f54)=true) (l54:K.lookup f54=some ⟨oc54,od54,.func (W.fnOf "moved" "System.moved" (lO gD) (jO gD) (aP gD) .none kV54 dc54 pm54 an54 cd54 ct54),sl54⟩) (c54:W.codeIn K cd54 "System.moved"=true) (k54:W.keepIn K (.ref f54)=true)
  (h55:Dh K "course" Aw f55 e55)
  (h56:Dh K "nothing_for" nJ f56 e56)
  (h57:Dh K "lacking" xM f57 e57)
  (h58:Dh K "cut" LZ f58 e58)
  (h59:Dh K "come" IF f59 e59)
  (h60:Dh K "soonest" xG f60 e60)
  (h61:Dh K "reach_rows" pk f61 e61)
  (h62:Dh K "unit_row" uI f62 e62)
  (h63:Dh K "leading_place" kX f63 e63)
  (h64:Dh K "leading" xK f64 e64)
  (h65:Dh K "null_at" xJ f65 e65)
  (h66:Dh K "free_places" nM f66 e66)
  (h67:Dh K "nulls" EI f67 e67)
  (h68:Dh K "grid_times" pC f68 e68)
  (h69:Dh K "taken_over" ph f69 e69)
  (h70:Dh K "unsteered" rF f70 e70)
  (h71:Dh K "brought_ahead" kZ f71 e71)
  (h72:Dh K "shut_off" uJ f72 e72)
  (h73:Dh K "_law_is_number" j7 f73 e73)
  (h74:Dh K "_law_is_row" nR f74 e74)
  (h75:Dh K "_law_added" pP f75 e75)
  (h76:Dh K "_law_less" rV f76 e76)
  (h77:Dh K "_law_minus" pM f77 e77)
  (h78:Dh K "_law_alone" pO f78 e78)
  (h79:Dh K "_law_priced" nP f79 e79)
  (h80:Dh K "_law_never" pK f80 e80)
  (h81:Dh K "_law_is_grid" md f81 e81)
  (h82:Dh K "_law_leads" pN f82 e82)
  (h83:Dh K "law" LY f83 e83)
  {m0:Addr} {mo0:Option Addr} {mn0:Nat} {ms0:Array (Option Value)} {mt0_0 mt0_1:Tok} (ca0:W.nsIn K mainGlobals "NOUGHT"=some (some (.ref m0))) (cl0:K.lookup m0=some ⟨.type "tuple",mo0,.seq #[.int 0 mt0_0,.int 1 mt0_1] mn0,ms0⟩)
  {m1:Addr} {mo1:Option Addr} {mn1:Nat} {ms1:Array (Option Value)} {mt1_0 mt1_1:Tok} (ca1:W.nsIn K mainGlobals "ONE"=some (some (.ref m1))) (cl1:K.lookup m1=some ⟨.type "tuple",mo1,.seq #[.int 1 mt1_0,.int 1 mt1_1] mn1,ms1⟩)
  {it0:Tok} (ci0:W.nsIn K mainGlobals "MOST_STATES"=some (some (.int 8 it0)))
  {it1:Tok} (ci1:W.nsIn K mainGlobals "MOST_PUTS"=some (some (.int 4 it1)))
  {it2:Tok} (ci2:W.nsIn K mainGlobals "MOST_LOOKS"=some (some (.int 4 it2)))
  (pg:W.plainGet K C Str.empty=true) (hd:W.hasDictIn K C=true) (po:W.plainOver K C=true) (sa:W.findIn K (.ref C) "__setattr__"=some (some (.builtin "object.__setattr__"))) (mk:W.makesIn K C=true) (kc:W.keepIn K (.ref C)=true)
  (n_move:W.findIn K (.ref C) "move"=some none)
  (n_states:W.findIn K (.ref C) "states"=some none)
  (n_put:W.findIn K (.ref C) "put"=some none)
  (n_ins:W.findIn K (.ref C) "ins"=some none)
  (n_look:W.findIn K (.ref C) "look"=some none)
  (n_outs:W.findIn K (.ref C) "outs"=some none)
  (z_abs:W.nsIn K mainGlobals "abs"=some none)
  (z_len:W.nsIn K mainGlobals "len"=some none)
  (z_min:W.nsIn K mainGlobals "min"=some none)
  (z_int:W.nsIn K mainGlobals "int"=some none)
  (z_range:W.nsIn K mainGlobals "range"=some none)
  (z_isinstance:W.nsIn K mainGlobals "isinstance"=some none)
  (z_list:W.nsIn K mainGlobals "list"=some none)
  (z_bool:W.nsIn K mainGlobals "bool"=some none)
  (z_tuple:W.nsIn K mainGlobals "tuple"=some none)
  (z_all:W.nsIn K mainGlobals "all"=some none)
  (z_enumerate:W.nsIn K mainGlobals "enumerate"=some none)
  (z_max:W.nsIn K mainGlobals "max"=some none)
  (z_zip:W.nsIn K mainGlobals "zip"=some none)
  (z_sum:W.nsIn K mainGlobals "sum"=some none)
  (z_reversed:W.nsIn K mainGlobals "reversed"=some none)
  : ∃fd:FuncData,(∀(s:Shared) (v:Value),BindsTo s fd ⟨[v],[]⟩ [("_law_script",v)])/\∀base:Heap,K.In base->base.Ns mainGlobals mg->cQ l.prog w K mg base fI 11 fa fd ["_law_script"] (Ag K):=by
 have e:=hfa.symm.trans (W.mg_of X G h83.a);cases e;obtain ⟨_,_,_,_,_,_,_,_,_,rfl,_,_⟩:=h83.F.ex;have F22:=Jk (st:=eN) l22 c22 k22;have F54:=Jk (st:=gD) l54 c54 k54
 have T:Txt K mg ⟨f0,_,f1,_,f2,_,f3,_,f4,_,f5,_,f6,_,f7,_,f8,_,f9,_,f10,_,f11,_,f12,_,f13,_,f14,_,f15,_,f16,_,f17,_,f18,_,f19,_,f20,_,f21,_,f22,_,f23,_,f24,_,f25,_,f26,_,f27,_,f28,_,f29,_,f30,_,f31,_,f32,_,f33,_,f34,_,f35,_,f36,_,f37,_,f38,_,f39,_,f40,_,f41,_,f42,_,f43,_,f44,_,f45,_,f46,_,f47,_,f48,_,f49,_,f50,_,f51,_,f52,_,f53,_,f54,_,f55,_,f56,_,f57,_,f58,_,f59,_,f60,_,f61,_,f62,_,f63,_,f64,_,f65,_,f66,_,f67,_,f68,_,f69,_,f70,_,f71,_,f72,_,f73,_,f74,_,f75,_,f76,_,f77,_,f78,_,f79,_,f80,_,f81,_,f82,_,fa,_,m0,m1,it0,it1,it2,C⟩:={
  sL:=h0.D X G
  aX:=h1.D X G
  oj:=h2.D X G
  jL:=h3.D X G
  gK:=h4.D X G
  ik:=h5.D X G
  lK:=h6.D X G
  iB:=h7.D X G
  qq:=h8.D X G
  kG:=h9.D X G
  jK:=h10.D X G
  mJ:=h11.D X G
  il:=h12.D X G
  qe:=h13.D X G
  oo:=h14.D X G
  mG:=h15.D X G
  jF:=h16.D X G
  mX:=h17.D X G
  fK:=h18.D X G
  p6:=h19.D X G
  xY:=h20.D X G
  ij:=h21.D X G
  nk:=F22.binds (ps:=["self","move","put","look"]) λ_ _ _ _ _ _=>by refine ln4 ?_;intros;rfl
  nC:=F22
  iq:=h23.D X G
  qg:=h24.D X G
  ip:=h25.D X G
  mI:=h26.D X G
  lM:=h27.D X G
  mY:=h28.D X G
  lJ:=h29.D X G
  qi:=h30.D X G
  kF:=h31.D X G
  jG:=h32.D X G
  ja:=h33.D X G
  gG:=h34.D X G
  oh:=h35.D X G
  vh:=h36.D X G
  oi:=h37.D X G
  vL:=h38.D X G
  lV:=h39.D X G
  pZ:=h40.D X G
  mF:=h41.D X G
  p7:=h42.D X G
  kE:=h43.D X G
  jH:=h44.D X G
  E8:=h45.D X G
  p9:=h46.D X G
  gX:=h47.D X G
  tD:=h48.D X G
  gF:=h49.D X G
  AU:=h50.D X G
  mD:=h51.D X G
  vM:=h52.D X G
  pY:=h53.D X G
  qO:=⟨a54,i54,k54⟩
  sX:=F54.binds (ps:=["self","state","puts"]) λ_ _ _ _ _ _=>by refine ln3 ?_;intros;rfl
  tq:=F54
  xZ:=h55.D X G
  jI:=h56.D X G
  vg:=h57.D X G
  Ja:=h58.D X G
  vO:=h59.D X G
  mE:=h60.D X G
  oa:=h61.D X G
  sI:=h62.D X G
  kg:=h63.D X G
  p5:=h64.D X G
  vf:=h65.D X G
  jJ:=h66.D X G
  AV:=h67.D X G
  og:=h68.D X G
  nZ:=h69.D X G
  pX:=h70.D X G
  gH:=h71.D X G
  sJ:=h72.D X G
  jN:=h73.D X G
  jM:=h74.D X G
  oz:=h75.D X G
  qh:=h76.D X G
  ow:=h77.D X G
  oy:=h78.D X G
  mH:=h79.D X G
  ou:=h80.D X G
  lh:=h81.D X G
  ox:=h82.D X G
  P8:=h83.F
  abs:=W.mg_none_of X G z_abs
  len:=W.mg_none_of X G z_len
  min:=W.mg_none_of X G z_min
  int:=W.mg_none_of X G z_int
  range:=W.mg_none_of X G z_range
  isinstance:=W.mg_none_of X G z_isinstance
  list:=W.mg_none_of X G z_list
  bool:=W.mg_none_of X G z_bool
  tuple:=W.mg_none_of X G z_tuple
  all:=W.mg_none_of X G z_all
  enumerate:=W.mg_none_of X G z_enumerate
  max:=W.mg_none_of X G z_max
  zip:=W.mg_none_of X G z_zip
  sum:=W.mg_none_of X G z_sum
  reversed:=W.mg_none_of X G z_reversed
  mg_NOUGHT:=W.mg_of X G ca0
  sq_NOUGHT:=λH=>.inr ⟨_,_,_,cl0,rfl,rfl,jq rfl,.cons ⟨_,rfl⟩ (.cons ⟨_,rfl⟩ (.nil))⟩
  mg_ONE:=W.mg_of X G ca1
  sq_ONE:=λH=>.inr ⟨_,_,_,cl1,rfl,rfl,jq rfl,.cons ⟨_,rfl⟩ (.cons ⟨_,rfl⟩ (.nil))⟩
  mg_MOST_STATES:=W.mg_of X G ci0
  mg_MOST_PUTS:=W.mg_of X G ci1
  mg_MOST_LOOKS:=W.mg_of X G ci2
  mg_System:=W.mg_of X G aC
  cl_System:=⟨pg,hd,po,sa⟩
  na_move:=n_move
  na_states:=n_states
  na_put:=n_put
  na_ins:=n_ins
  na_look:=n_look
  na_outs:=n_outs
  mk_System:=⟨mk,a22,i22,kc⟩ }
 exact ⟨_,λs v=>.of_eq rfl,λbase _ _=>Q0 T⟩
theorem walk {l:W.OpenLaw} {q:Program} {loose:List Str} {XP:(Str->Option Value)->Heap->Prop} {YP:World->Heap->Prop} {d:DefRec} {K:Params->W.Frag} (hn:l.most=some 63) (hdf:d.params.defaults=[])
  (hY:∀(w:World) (h:Heap),YP w h->(K w.params).In h)
  (F:∀(w:World) (mg:Str->Option Value) (fa:Addr) (h:Heap),(K w.params).In h->h.Ns mainGlobals mg->mg d.name=some (.ref fa) →
   ∃fd:FuncData,(∀(s:Shared) (u:Value),BindsTo s fd ⟨[u],[]⟩ [("_law_script",u)])/\∀base:Heap,(K w.params).In base->base.Ns mainGlobals mg->cQ l.prog w (K w.params) mg base fI 11 fa fd ["_law_script"] (Ag (K w.params))) :
  W.WalkO q loose XP YP l.row.toRowW d [] (λf vs=>PySem.call f vs) :=
 L2.NL (n:=63) (k:=11) (x:="_law_script") (CX:=λ_=>fI) (sp:=λw=>Ag (K w.params)) hn (by decide) hdf ⟨rfl,by decide,by decide⟩ hY F (λ_ _ a ns hl _ hS=>⟨a,ns,rfl,hS,hl,λ_=>rfl⟩) λ_ _ _ _ _ z=>z
end Lw
namespace PySem.W.Fast
def tw6883056774769023753:=()
def tw12793562340924920765:=()
def tw7881841158528524185:=()
def tw11587117358856401472:=()
def tw16378553159700041508:=()
def tw16007557214011267600:=()
def tw5727728344531624550:=()
def tw1505903223405398318:=()
def tw12551031584725881394:=()
def tw11577555972745982757:=()
def tw14359867462111457596:=()
def tw17104870976627856509:=()
def tw10033277332352234216:=()
def tw16349241727861886671:=()
def tw2539499016766187332:=()
def tw7348452619569520227:=()
def tw2122727729360492812:=()
def tw15190123353258828039:=()
def tw2333667055778396561:=()
def tw12527958419077988720:=()
def tw3917999082455963535:=()
def tw14113861775239512608:=()
def tw18338772759009466336:=()
def tw10530671264062234747:=()
def tw3933183820326375626:=()
def tw16946644943438042413:=()
def tw571610234246858509:=()
def tw17808976035268039924:=()
def tw1522539983802077115:=()
def tw17033074735959751512:=()
def tw17319228804703890138:=()
def tw12638659962108112762:=()
def tw10612767464216900559:=()
def tw6124853460291437293:=()
def tw4185536974444106296:=()
def tw8345462056965354764:=()
def tw11500165800938806097:=()
def tw4493799629535345239:=()
def tw4406275893804362319:=()
def tw9917836223320444867:=()
def tw2207666161697998983:=()
def tw15094704423577949472:=()
def tw15235206772700855090:=()
def tw4577175066853931062:=()
def tw17710659218036362115:=()
def tw15183898396613708460:=()
def tw1575514321158443622:=()
def tw8520972547305937340:=()
def tw9348892528166189504:=()
def tw7957390056853614650:=()
def tw7528762698172021777:=()
def tw12771010764771051439:=()
def tw12911863349825303194:=()
def tw16643762234652115492:=()
def tw1957399074509186605:=()
def tw15932359365211225608:=()
def tw12681148545193261262:=()
def tw12945737016215312833:=()
def tw15918629122190396187:=()
def tw16305799235126096756:=()
def tw1473726482811982737:=()
def tw5134211518003808030:=()
def tw10005763062337855299:=()
def tw15418239634657973787:=()
def tw10202278273424952157:=()
def tw7163239426696880063:=()
def tw6952285896575978115:=()
def tw13287653511088780880:=()
def tw14686778277721231448:=()
def tw16977227041249660381:=()
def tw7706748424596223465:=()
def tw6155506069099733375:=()
def tw17107988789497934441:=()
def tw11762886348670082261:=()
def tw10891130991606328382:=()
def tw5837396727215522809:=()
def tw10854094244706922230:=()
def tw2140026042892305209:=()
def tw15733255331165864815:=()
def tw5729854464108776825:=()
def tw11321335773553697960:=()
def tw8172870048011343234:=()
def tw7712966327497543002:=()
def tw13810286747966377194:=()
def tw209163951590303449:=()
def tw15562536781592633076:=()
def tw11772820108217655493:=()
def tw17506644741128138915:=()
def tw8220518674682730318:=()
def tw5003857577270888696:=()
def tw4702138599152853685:=()
def tw11189489026045312213:=()
def tw5439757244763147305:=()
def tw13953993292496806112:=()
def tw4630901512413774607:=()
def tw3647216868478978164:=()
def tw16723864678203959185:=()
def tw6624397081574062193:=()
def tw7289143386574876492:=()
def tw9990058937155807563:=()
def tw15029194918860368612:=()
def tw7546823394826655801:=()
def tw15677754672761311413:=()
def tw16454562970313598536:=()
def tw16229309391532802613:=()
def tw13149312794038219479:=()
def tw1275017217977382313:=()
def tw13616474160581520269:=()
def tw9918114269547021152:=()
def tw11986767526630596091:=()
def tw13269733211514028159:=()
def tw1457089686910418056:=()
def tw14585216992962549180:=()
def tw15394107803773359030:=()
def tw12755769858147979378:=()
def tw17427729965853532874:=()
def tw5873113085142098452:=()
def tw3819708895517781945:=()
def tw1474907382209807885:=()
def tw17725153754742915341:=()
def tw15018716256893880687:=()
def tw10824316036316362373:=()
def tw18169223500373801181:=()
def tw10851305989218095330:=()
def tw3208659953684483737:=()
def tw15812676626337654101:=()
def tw363820113164161476:=()
def tw13962581398952840447:=()
def tw17251146906903883650:=()
def tw13607513347461725268:=()
def tw3711748581571420557:=()
def tw14794083475805794105:=()
def tw5958452834220012542:=()
def tw929254582647206516:=()
def tw5761756204454372808:=()
def tw15465469188972608671:=()
def tw15819811867463019317:=()
def tw16254074275693726403:=()
def tw537259955035731077:=()
def tw15344858783354345164:=()
def tw11506018614530405077:=()
def tw14051987072483065723:=()
def tw9265619194986544624:=()
def tw10302137334192258965:=()
def tw1564929361772415639:=()
def tw16024671311502178546:=()
def tw7773854913905988355:=()
def tw3247684850383903662:=()
def tw3177133126862462621:=()
def tw10060360078206824134:=()
def tw16549923383674680315:=()
def tw7085935511362452042:=()
def tw2644767108693103314:=()
def tw8799123225635523538:=()
def tw13643488764065767331:=()
def tw5472532422507661244:=()
def tw9215496363522426363:=()
def tw17630666679316107962:=()
def tw13654806878639189172:=()
def tw4770602283044889917:=()
def tw10798982749844569246:=()
def tw16533701033308853600:=()
def tw15389871899749772823:=()
theorem te6883056774769023753:True:=trivial
end PySem.W.Fast
open PySem PySem.W PyProof.Rows
set_option maxRecDepth 100000 in
set_option maxHeartbeats 0 in
theorem PySem.Challenge.cw_helmsum_k48_whole_never_come_to_holds : PySem.Challenge.rw_helmsum_k48_whole_never_come_to.Holds := by
 w_on;o_law;k_head;(case hw=>w_witness2)
 k_fill
 refine Lw.walk (l:=PySem.Challenge.rw_helmsum_k48_whole_never_come_to) rfl rfl (λw h Y=>PySem.W.kIn_of Y) ?F
 case F =>
  intro w mg fa h KX G hmg;refine' Lw.all_mk KX G hmg ?aC ?_ ?_ ?_ ?_ ?_ ?_ ?_ ?_ ?_ ?_ ?_ ?_ ?_ ?_ ?_ ?_ ?_ ?_ ?_ ?_ ?_ ?_ ?a22 ?i22 ?l22 ?c22 ?k22 ?_ ?_ ?_ ?_ ?_ ?_ ?_ ?_ ?_ ?_ ?_ ?_ ?_ ?_ ?_ ?_ ?_ ?_ ?_ ?_ ?_ ?_ ?_ ?_ ?_ ?_ ?_ ?_ ?_ ?_ ?_ ?a54 ?i54 ?l54 ?c54 ?k54 ?_ ?_ ?_ ?_ ?_ ?_ ?_ ?_ ?_ ?_ ?_ ?_ ?_ ?_ ?_ ?_ ?_ ?_ ?_ ?_ ?_ ?_ ?_ ?_ ?_ ?_ ?_ ?_ ?_ ?ca0 ?cl0 ?ca1 ?cl1 ?ci0 ?ci1 ?ci2 ?pg ?hd ?po ?sa ?mk ?kc ?n_move ?n_states ?n_put ?n_ins ?n_look ?n_outs ?z_abs ?z_len ?z_min ?z_int ?z_range ?z_isinstance ?z_list ?z_bool ?z_tuple ?z_all ?z_enumerate ?z_max ?z_zip ?z_sum ?z_reversed
  all_goals try refine' Ti ?_ ?_ ?_ ?_
  all_goals try k_is