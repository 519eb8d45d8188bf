import PyProof.Rows.All
import Wide.All
import OpenK.AllK
import Wide.FinOn
import Lean
import PyProof.EqAt
import PyProof.EqKinds
import PyProof.TupleCall
import PyProof.NeKinds
import PySem.Challenge.RW_helmsum_k57_starts_none_and_alike
set_option Elab.async false
set_option linter.all false
set_option maxRecDepth 100000
abbrev aa:=@List.getD_eq_getElem?_getD
abbrev ae:=@List.getElem?_eq_getElem
abbrev ag:=@List.length_map
abbrev ah:=@Nat.le_trans
abbrev ai:=@List.length_append
abbrev ak:=@List.mem_of_getElem?
abbrev ar:=@Nat.le_refl
abbrev au:=@Nat.pow_le_pow_right
abbrev av:=@List.mem_append
abbrev aw:=@List.mem_map
abbrev ay:=@Nat.mul_le_mul_right
abbrev az:=@List.getElem?_eq_some_iff
abbrev aA:=@List.getElem?_map
abbrev aE:=@Nat.mul_le_mul
abbrev aF:=@List.size_toArray
abbrev aG:=@List.take_of_length_le
abbrev aH:=@List.mem_cons
abbrev aI:=@List.getElem_mem
abbrev aJ:=@PySem.boot_len
abbrev aN:=@Rat.intCast_mul
abbrev aP:=@Nat.mul_le_mul_left
abbrev aQ:=@List.length_singleton
abbrev aR:=@List.getElem?_eq_none
abbrev aS:=@Rat.intCast_natCast
abbrev aU:=@Nat.pow_add
abbrev aY:=@List.length_zipWith
abbrev aZ:=@List.length_cons
abbrev a7:=@Nat.zero_le
abbrev bg:=@List.getElem?_append_right
abbrev bh:=@Bool.false_ne_true
abbrev br:=@Nat.lt_of_le_of_lt
abbrev bw:=@List.not_mem_nil
abbrev bA:=@List.length_replicate
abbrev bD:=@Nat.lt_of_lt_of_le
abbrev bI:=@List.length_take
abbrev bJ:=@List.mem_cons_of_mem
abbrev bL:=@List.length_range
abbrev bM:=@List.getElem?_append_left
abbrev bN:=@PySem.F.plainAttrs_list
abbrev bO:=@List.getElem_of_mem
abbrev bR:=@Nat.mul_pos
abbrev bS:=@Option.some.inj
abbrev bT:=@Int.eq_ofNat_of_zero_le
abbrev bU:=@Nat.one_le_two_pow
abbrev bV:=@List.mem_singleton
abbrev bY:=@List.getElem?_zipWith
abbrev b7:=@List.mem_of_mem_take
abbrev b8:=@Nat.lt_or_ge
abbrev cb:=@List.mem_append_right
abbrev cg:=@PySem.F.type_list_append
abbrev ck:=@PySem.F.slot_list_append
abbrev cm:=@List.append_assoc
abbrev cu:=@List.getElem?_range
abbrev cy:=@Nat.mul_comm
abbrev cC:=@List.getElem_map
abbrev cH:=@List.mem_cons_self
abbrev cI:=@List.map_append
abbrev cM:=@Nat.mul_assoc
abbrev cP:=@List.mem_range
abbrev cQ:=@Int.fdiv_eq_ediv_of_nonneg
abbrev cY:=@List.mem_or_eq_of_mem_set
abbrev cZ:=@Rat.intCast_neg
abbrev c4:=@List.ext_getElem
abbrev c7:=@Nat.ne_of_lt
abbrev c8:=@List.flatten_cons
abbrev de:=@Int.natAbs_natCast
abbrev dh:=@Nat.le_of_lt
abbrev di:=@Nat.not_lt_zero
abbrev dr:=@List.nil_append
abbrev dA:=@List.nodup_append
abbrev dH:=@Rat.intCast_inj
abbrev dI:=@PySem.W.kia_one
abbrev dM:=@Rat.mul_comm
abbrev dN:=@Nat.succ_le_succ
abbrev dQ:=@Nat.lt_irrefl
abbrev dR:=@Int.mul_assoc
abbrev dU:=@Nat.succ_mul
abbrev dW:=@Nat.min_self
abbrev d6:=@Nat.pow_lt_pow_right
abbrev ee:=@Nat.le_mul_of_pos_right
abbrev eh:=@List.getElem_zipWith
abbrev eB:=@Bool.and_eq_true
abbrev eQ:=@Nat.lt_trichotomy
abbrev eS:=@Nat.le_mul_of_pos_left
abbrev eT:=@Int.natAbs_mul
abbrev eV:=@List.map_congr_left
abbrev fb:=@List.nodup_cons
abbrev fe:=@List.length_set
abbrev fh:=@List.drop_eq_getElem_cons
abbrev fu:=@Int.natAbs_dvd_natAbs
abbrev fB:=@List.cons_append
abbrev fE:=@Int.gcd_dvd_left
abbrev fQ:=@Nat.mul_add
abbrev fV:=@Int.mul_pos
abbrev gM:=@Int.gcd_dvd_right
abbrev gV:=@Nat.sub_self
abbrev gW:=@Nat.pow_succ
abbrev gX:=@Int.mul_comm
abbrev ib:=@List.map_cons
abbrev ic:=@Nat.dvd_mul_left
abbrev ie:=@List.mem_flatten
abbrev ik:=@List.getElem_range
abbrev ir:=@Bool.beq_eq_decide_eq
abbrev iI:=@List.range_succ
abbrev iN:=@Rat.mul_zero
abbrev iT:=@Nat.le_of_dvd
abbrev ji:=@List.replicate_succ
abbrev jm:=@Nat.lt_succ_self
abbrev jA:=@Nat.pow_pos
abbrev jI:=@Nat.eq_zero_or_pos
abbrev jJ:=@List.map_map
abbrev jK:=@Int.emod_lt_of_pos
abbrev jL:=@Bool.false_eq_true
abbrev kM:=@List.ext_getElem?
abbrev kS:=@Int.natAbs_neg
abbrev lU:=@Rat.add_zero
abbrev lV:=@PySem.IsL.update
abbrev lW:=@List.lookup_cons
abbrev lX:=@Int.gcd_comm
abbrev md:=@PySem.F.plain_extend_loop
abbrev me:=@PySem.mem_of_lookup
abbrev mf:=@Nat.pow_le_pow_left
abbrev mM:=@Nat.dvd_trans
abbrev mN:=@List.getElem?_take_of_lt
abbrev mW:=@Nat.min_eq_left
abbrev mX:=@List.mem_filter
abbrev mY:=@Int.emod_nonneg
abbrev mZ:=@Bool.eq_iff_iff
abbrev oj:=@Nat.le_succ
abbrev oo:=@List.getElem?_replicate
abbrev oq:=@Int.natCast_dvd_natCast
abbrev ot:=@Int.dvd_mul_of_dvd_left
abbrev oN:=@Nat.add_comm
abbrev oO:=@Int.zero_add
abbrev qH:=@PySem.F.slot_zip_next
abbrev qI:=@List.all_eq_true
abbrev sY:=@Nat.one_mul
abbrev sZ:=@List.mem_append_left
abbrev tj:=@List.map_id
abbrev tI:=@Rat.natCast_mul
abbrev tJ:=@Rat.intCast_add
abbrev tK:=@List.append_nil
abbrev vm:=@List.flatten_append
abbrev vz:=@Nat.mul_zero
abbrev vB:=@Nat.mul_succ
abbrev vC:=@Nat.dvd_refl
abbrev wD:=@Int.eq_of_mul_eq_mul_right
abbrev xv:=@Int.mul_neg_of_pos_of_neg
abbrev yT:=@Nat.pow_mul
abbrev yU:=@Nat.lt_succ_of_lt
abbrev yV:=@Nat.dvd_mul_right
abbrev yY:=@List.eq_of_mem_replicate
abbrev A3:=@Rat.intCast_eq_zero_iff
abbrev A4:=@Option.getD_some
abbrev BD:=@PySem.W.cellsFrom_some
abbrev DD:=@Rat.intCast_sub
abbrev DE:=@List.length_zip
abbrev FA:=@Nat.add_mul
abbrev FC:=@Nat.add_le_add_right
abbrev FD:=@List.replicate_succ'
abbrev FE:=@List.nodup_nil
abbrev FF:=@List.forIn_nil
abbrev HZ:=@PySem.W.plainGet_of
abbrev Ia:=@List.filterMap_cons
abbrev JV:=@List.all_cons
abbrev JW:=@Int.natAbs_eq
abbrev J0:=@Rat.div_mul_cancel
abbrev J5:=@PySem.W.callWith_K
abbrev J6:=@List.append_of_mem
abbrev Mn:=@Rat.zero_mul
abbrev Mo:=@Nat.zero_add
abbrev Mp:=@Nat.ne_of_gt
abbrev Mq:=@Int.dvd_refl
abbrev NB:=@Nat.min_le_right
abbrev NC:=@List.length_drop
abbrev PV:=@Nat.mul_one
abbrev PX:=@Int.dvd_gcd
abbrev P5:=@Rat.mul_eq_zero
abbrev P6:=@Nat.le_antisymm
abbrev P7:=@List.of_mem_zip
abbrev Qa:=@List.map_const'
abbrev Qb:=@List.forIn_cons
abbrev Qc:=@Int.natCast_add
abbrev Qd:=@Int.gcd_pos_of_ne_zero_right
abbrev Qf:=@Bool.decide_and
abbrev SU:=@List.length_eraseIdx_of_lt
abbrev UC:=@PySem.F.entry_extend_loop
abbrev UD:=@List.getElem?_zip_eq_some
abbrev UE:=@Int.natAbs_ediv_of_nonneg
abbrev UK:=@PySem.F.type_list_extend
abbrev UL:=@PySem.F.slot_list_extend
abbrev UM:=@Option.isSome_iff_exists
abbrev UN:=@List.mem_of_mem_eraseIdx
abbrev VT:=@PySem.F.args_zip_next_1
abbrev VU:=@Nat.add_sub_cancel_left
abbrev VW:=@List.filter_cons_of_pos
abbrev VX:=@List.filter_cons_of_neg
abbrev LR9:=List (List Rat)
abbrev FG9:=PySem.W.Frag
namespace L2
open PySem PySem.Spec PyProof.Rows
abbrev Key:=Sum Int Str
def Su:Key->Value->Bool
 | .inl k,v=>Value.isInt k v
 | .inr x,v=>Value.isStrOf x v
def Wm (w:World):Key->Int
 | .inl k=>hashInt k
 | .inr x=>hashStr w x
theorem gJ:∀{k:Key} {v:Value},Su k v=true->(∃i t,k=Sum.inl i/\v=Value.int i t)\/(∃x t,k=Sum.inr x/\v=Value.str x t)
 | .inl i,v,h=>by
  obtain ⟨t,e⟩:=Value.isInt_shape (k:=i) (v:=v) h;exact .inl ⟨i,t,rfl,e⟩
 | .inr x,v,h=>by
  obtain ⟨t,e⟩:=Value.isStrOf_shape (x:=x) (v:=v) h;exact .inr ⟨x,t,rfl,e⟩
theorem Ug (a b:Int):decide ((Sum.inl a:Key)=Sum.inl b)=(a == b):=by
 by_cases e:a=b
 ·subst e;simp
 ·have h:¬(Sum.inl a:Key)=Sum.inl b:=λq=>e (Sum.inl.inj q)
  rw[decide_eq_false h];exact (beq_eq_false_iff_ne.mpr e).symm
theorem Uc (a b:Str):decide ((Sum.inr a:Key)=Sum.inr b)=decide (a=b):=by
 by_cases e:a=b
 ·subst e;simp
 ·have h:¬(Sum.inr a:Key)=Sum.inr b:=λq=>e (Sum.inr.inj q)
  rw[decide_eq_false h,decide_eq_false e]
theorem Ue (a:Int) (b:Str):decide ((Sum.inl a:Key)=Sum.inr b)=false:=decide_eq_false (λq=>nomatch q)
theorem Ud (a:Str) (b:Int):decide ((Sum.inr a:Key)=Sum.inl b)=false:=decide_eq_false (λq=>nomatch q)
def LD (prog:Program) (w:World):PySem.KeyKind prog w Key where
 is:=Su
 hash:=Wm w
 inj:=λv a b ha hb=>by
  rcases gJ ha with ⟨i,t,rfl,rfl⟩ | ⟨x,t,rfl,rfl⟩
  ·rcases gJ hb with ⟨j,u,rfl,e⟩ | ⟨y,u,rfl,e⟩
   ·injection e with e1 _;rw[e1]
   ·exact nomatch e
  ·rcases gJ hb with ⟨j,u,rfl,e⟩ | ⟨y,u,rfl,e⟩
   ·exact nomatch e
   ·injection e with e1 _;rw[e1]
 byValue:=λk v h=>by
  rcases gJ h with ⟨i,t,rfl,rfl⟩ | ⟨x,t,rfl,rfl⟩ <;> rfl
 pyHash:=λhv h=>by
  rcases gJ hv with ⟨i,t,rfl,rfl⟩ | ⟨x,t,rfl,rfl⟩
  ·exact wpAny_pyHash_int h
  ·exact wpAny_pyHash_str h
 eqBool:=λhu hv h=>by
  rcases gJ hu with ⟨i,t,rfl,rfl⟩ | ⟨x,t,rfl,rfl⟩
  ·rcases gJ hv with ⟨j,u,rfl,rfl⟩ | ⟨y,u,rfl,rfl⟩
   ·rw[Ug] at h;exact wpAny_eqBool_int h
   ·rw[Ue] at h;exact SeqAt.EqAt.int_str i t y u _ _ _ _ h
  ·rcases gJ hv with ⟨j,u,rfl,rfl⟩ | ⟨y,u,rfl,rfl⟩
   ·rw[Ud] at h;exact SeqAt.EqAt.str_int x t j u _ _ _ _ h
   ·rw[Uc] at h;exact wpAny_eqBool_str h
 «strs»:=λk x t v h=>by
  rcases gJ h with ⟨i,u,rfl,e⟩ | ⟨y,u,rfl,e⟩
  ·exact nomatch e
  ·injection e with e1 _
   subst e1;cases v <;> rfl
inductive V where
  | non | bl (b : Bool) | int (i : Int) | str (x : Str) | byt (b : Array UInt8) | flt (b : UInt64) | ref (a : Addr) | ty (n : String)
  deriving DecidableEq

def RelV:V->Value->Prop
 | .non,u=>u=Value.none
 | .bl b,u=>u=Value.bool b
 | .int i,u=>∃t,u=Value.int i t
 | .str x,u=>∃t,u=Value.str x t
 | .byt b,u=>∃t,u=Value.bytes b t
 | .flt b,u=>∃t,u=Value.float b t
 | .ref a,u=>u=Value.ref a
 | .ty n,u=>u=Value.type n
abbrev cX:List V->List Value->Prop:=Paired RelV
theorem cX.length (r:cX xs us):xs.length=us.length:=Paired.length r
theorem cX.get:∀{xs:List V} {us:List Value} {i:Nat} {x:V},cX xs us->xs[i]?=some x->∃u,us[i]?=some u/\RelV x u
 | _,_,_,_,.nil,e=>by simp at e
 | _,_,0,_,.cons r _,e=>by simp at e;subst e;exact ⟨_,rfl,r⟩
 | _,_,i+1,x,.cons _ t,e=>by
  obtain ⟨u,h1,h2⟩:=cX.get (i:=i) (x:=x) t (by simpa using e);exact ⟨u,by simpa using h1,h2⟩
theorem cX.set {x:V} {u:Value} (r:RelV x u):∀{xs:List V} {us:List Value} (i:Nat),cX xs us->cX (xs.set i x) (us.set i u)
 | _,_,_,.nil=>.nil
 | _,_,0,.cons _ t=>.cons r t
 | _,_,i+1,.cons q t=>.cons q (cX.set r i t)
theorem cX.append:∀{xs ys:List V} {us ws:List Value},cX xs us->cX ys ws->cX (xs++ys) (us++ws)
 | _,_,_,_,.nil,s=>s
 | _,_,_,_,.cons r t,s=>.cons r (cX.append t s)
theorem cX.take:∀{xs:List V} {us:List Value} (n:Nat),cX xs us->cX (xs.take n) (us.take n)
 | _,_,0,_=>.nil
 | _,_,_+1,.nil=>.nil
 | _,_,n+1,.cons r t=>.cons r (cX.take n t)
theorem cX.drop:∀{xs:List V} {us:List Value} (n:Nat),cX xs us->cX (xs.drop n) (us.drop n)
 | _,_,0,r=>r
 | _,_,_+1,.nil=>.nil
 | _,_,n+1,.cons _ t=>cX.drop n t
def Eb:Option V->Option Value->Prop
 | some v,some u=>RelV v u
 | none,none=>True
 | _,_=>False
def KV {κ:Type}:List (κ×V)->List (κ×Value)->Prop:=Paired λ(p:κ×V) (q:κ×Value)=>p.1=q.1/\RelV p.2 q.2
def kV:Key->V
 | .inl i=>.int i
 | .inr x=>.str x
inductive HO where
 | lst (xs:List V)
 | tup (xs:List V)
 | dK (kvs:List (Key×V)) | dT (kvs:List (List Key×V))
 | set (S:Int->Bool) (n:Nat)
 | ins (C dx:Addr) (fs:List (Str×V))
 | own (x:Addr)
 | xd (fs:List (Str×V))
 | met (f x:Addr)
 | rng (lo hi:Int)
 | frz (o:Obj) (u:HO)
 | tbl (ps:Array Value)
 | ext (φ:Heap->Prop)
abbrev Hp:=Addr->Option HO
def upd (H:Hp) (a:Addr) (o:HO):Hp:=λb=>if b=a then some o else H b
theorem aD:upd H a o a=some o:=by unfold upd;rw[if_pos rfl]
theorem bc (h:b≠a):upd H a o b=H b:=by unfold upd;rw[if_neg h]
theorem gO {H:Hp} (h:H a=some o) (h':H b=none):a≠b:=by
 intro e;subst e;rw[h] at h';cases h'
section
variable (P:Program) (w:World)
def jY (H:Hp) (h:Heap) (a:Addr):HO->Prop
 | .lst xs=>xs.length<=sizeLine/\∃(its:List Value) (n:Nat),cX xs its/\h.get? a=some { cls:=.type "list",data:=.seq its.toArray n }
 | .tup xs=>xs.length<=sizeLine/\∃its:List Value,cX xs its/\IsTup h a its.toArray
 | .dK kvs=>kvs.length<=sizeLine/\(a == sysModules)=false/\∃vs,KV kvs vs/\h.DictOf (LD P w) a vs
 | .dT kvs=>kvs.length<=sizeLine/\(a == sysModules)=false/\∃xs:List (List Key×Addr×Value),
   Paired (λ(p:List Key×V) (q:List Key×Addr×Value)=>p.1=q.1/\H q.2.1=some (.tup (p.1.map kV))/\RelV p.2 q.2.2) kvs xs /\
   ∃o es ep,h.get? a=some o/\o.ExactDict/\o.data=.dict es ep/\es.toList=xs.map (entryOfKey (tupleKind (LD P w)))/\(xs.map (·.1)).Nodup
 | .set S n=>h.SetOf (intKind P w) a S n
 | .ins C dx fs=>H dx=some (.own a)/\fs.length<=1000/\dx≠a/\h.get? a=some (PySem.W.instObj C dx) /\
   ∃mA,h.Ns1 dx mA/\(∀f,Eb (fs.lookup f) (mA f))/\PySem.Within mA (fs.map (·.1))
 | .own _=>∃o,h.get? a=some o
 | .xd fs=>∃mA,h.Ns1 a mA/\∀f,Eb (fs.lookup f) (mA f)
 | .rng lo hi=>∃t u v,h.get? a=some { cls:=.type "range",data:=.fields #[.int lo t,.int hi u,.int 1 v] }
 | .frz o u=>h.get? a=some o/\jY H h a u
 | .tbl ps=>h.get? a=some { cls:=.none,data:=.fields ps }
 | .met f x=>h.get? a=some (PySem.W.methodObj (.ref f) (.ref x))
 | .ext φ=>φ h/\(∃o,h.get? a=some o)/\∀h1 h2:Heap,φ h1->(∀o,h1.get? a=some o->h2.get? a=some o)->φ h2
def BC (H:Hp) (h:Heap):Prop:=∀a o,H a=some o->jY P w H h a o
end
section
variable {P:Program} {w:World} {H H':Hp} {h h':Heap} {a:Addr} {o:HO}
theorem jY.lt (x:jY P w H h a o):a < h.objs.size:=by
 cases o with
 | lst xs=>obtain ⟨_,_,_,_,e⟩:=x;exact Heap.lt_size e
 | tup xs=>obtain ⟨_,_,_,p⟩:=x;exact p.lt
 | dK kvs=>obtain ⟨_,_,_,_,o,_,_,e,_⟩:=x;exact Heap.lt_size e
 | dT kvs=>obtain ⟨_,_,_,_,o,_,_,e,_⟩:=x;exact Heap.lt_size e
 | set S n=>obtain ⟨o,_,_,_,e,_⟩:=x;exact Heap.lt_size e
 | ins C dx fs=>obtain ⟨_,_,_,e,_⟩:=x;exact Heap.lt_size e
 | own y=>obtain ⟨_,e⟩:=x;exact Heap.lt_size e
 | xd fs=>obtain ⟨_,⟨_,_,_,e,_⟩,_⟩:=x;exact Heap.lt_size e
 | rng lo hi=>obtain ⟨_,_,_,e⟩:=x;exact Heap.lt_size e
 | frz ob u=>obtain ⟨e,_⟩:=x;exact Heap.lt_size e
 | tbl ps=>exact Heap.lt_size (show h.get? a=some _ from x)
 | met f y=>exact Heap.lt_size (show h.get? a=some _ from x)
 | ext φ=>obtain ⟨_,⟨_,e⟩,_⟩:=x;exact Heap.lt_size e
theorem Paired.mapP {α β:Type} {F G:α->β->Prop}:∀{l₁:List α} {l₂:List β},Paired F l₁ l₂->(∀a b,F a b->G a b)->Paired G l₁ l₂
 | _,_,.nil,_=>.nil
 | _,_,.cons r t,f=>.cons (f _ _ r) (Paired.mapP t f)
theorem Paired.imp' {F G:α->β->Prop} (f:∀a b,F a b->G a b) {l₁:List α} {l₂:List β} (r:Paired F l₁ l₂):Paired G l₁ l₂:=Paired.mapP r f
theorem jY.stay (x:jY P w H h a o) (k:∀b u,(b=a\/H b=some (.own a))->h.get? b=some u->h'.get? b=some u)
  (ho:∀b,H b=some (.own a)->H' b=some (.own a)) (ht:∀b xs,H b=some (.tup xs)->H' b=some (.tup xs)):jY P w H' h' a o:=by
 induction o with
 | lst xs=>obtain ⟨z,its,n,r,e⟩:=x;exact ⟨z,its,n,r,k _ _ (.inl rfl) e⟩
 | tup xs=>obtain ⟨z,its,r,ob,e,c⟩:=x;exact ⟨z,its,r,ob,k _ _ (.inl rfl) e,c⟩
 | dK kvs=>obtain ⟨z,y,vs,r,ob,es,ep,e,c⟩:=x;exact ⟨z,y,vs,r,ob,es,ep,k _ _ (.inl rfl) e,c⟩
 | dT kvs =>
  obtain ⟨z,y,xs,r,ob,es,ep,e,c⟩:=x;exact ⟨z,y,xs,Paired.mapP r λp q z=>⟨z.1,ht _ _ z.2.1,z.2.2⟩,ob,es,ep,k _ _ (.inl rfl) e,c⟩
 | set S n=>obtain ⟨ob,es,ep,t,e,c⟩:=x;exact ⟨ob,es,ep,t,k _ _ (.inl rfl) e,c⟩
 | ins C dx fs =>
  obtain ⟨d,z,ne,e,mA,⟨od,es,ep,e2,c⟩,r⟩:=x;exact ⟨ho _ d,z,ne,k _ _ (.inl rfl) e,mA,⟨od,es,ep,k _ _ (.inr d) e2,c⟩,r⟩
 | own y=>obtain ⟨ob,e⟩:=x;exact ⟨ob,k _ _ (.inl rfl) e⟩
 | xd fs=>obtain ⟨mA,⟨od,es,ep,e,c⟩,r⟩:=x;exact ⟨mA,⟨od,es,ep,k _ _ (.inl rfl) e,c⟩,r⟩
 | rng lo hi=>obtain ⟨t,u,v,e⟩:=x;exact ⟨t,u,v,k _ _ (.inl rfl) e⟩
 | frz ob u ih=>obtain ⟨e,q⟩:=x;exact ⟨k _ _ (.inl rfl) e,ih q⟩
 | tbl ps =>
  have e:h.get? a=some { cls:=.none,data:=.fields ps }:=x;show h'.get? a=some { cls:=.none,data:=.fields ps }
  exact k a _ (.inl rfl) e
 | met f y =>
  have e:h.get? a=some (PySem.W.methodObj (.ref f) (.ref y)):=x;show h'.get? a=some (PySem.W.methodObj (.ref f) (.ref y))
  exact k a _ (.inl rfl) e
 | ext φ=>obtain ⟨p,⟨o,e⟩,st⟩:=x;exact ⟨st _ _ p λo q=>k _ _ (.inl rfl) q,⟨o,k _ _ (.inl rfl) e⟩,st⟩
theorem BC.lt (x:BC P w H h) (e:H a=some o):a < h.objs.size:=(x a o e).lt
theorem BC.fresh (x:BC P w H h) (e:h.objs.size<=a):H a=none:=by
 cases q:H a with
 | none=>rfl
 | some u=>exact absurd (bD (x.lt q) e) (dQ _)
theorem BC.kept (x:BC P w H h) (k:∀b u,h.get? b=some u->h'.get? b=some u):BC P w H h':=λa o e =>
 (x a o e).stay (λb u _ q=>k b u q) (λ_ q=>q) λ_ _ q=>q
theorem BC.laid (x:BC P w H h) (k:∀b u,h.get? b=some u->h'.get? b=some u) (hp:h.objs.size<=a) (new:jY P w (upd H a o) h' a o):BC P w (upd H a o) h':=λb u e=>by
 have hn:=x.fresh hp;by_cases hb:b=a
 ·subst hb;rw[aD] at e;cases e;exact new
 ·rw[bc hb] at e;exact (x b u e).stay (λc v _ q=>k c v q) (λc q=>by rw[bc (gO q hn)];exact q) λc xs q=>by rw[bc (gO q hn)];exact q
end
def Rd (H:Hp) (a:Addr) (u:HO):Prop:=H a=some u\/∃o,H a=some (.frz o u)
theorem Rd.ok (r:Rd H a u) (x:BC P w H h):jY P w H h a u:=by
 rcases r with r | ⟨o,r⟩
 ·exact x a u r
 ·obtain ⟨_,q⟩:=x a _ r;exact q
def V8:Option HO->Prop
 | some (.lst _)=>True
 | some (.dK _)=>True
 | some (.dT _)=>True
 | some (.set _ _)=>True
 | some (.ins _ _ _)=>True
 | some (.ext _)=>True
 | _=>False
section
variable {P:Program} {w:World} {H:Hp} {h h':Heap} {x e:Addr} {o':HO}
theorem BC.write (ok:BC P w H h) (mu:V8 (H x)) (he:e=x\/H e=some (.own x)) (k:∀b u,b≠e->h.get? b=some u->h'.get? b=some u) (heo:∃u,h'.get? e=some u)
  (new:jY P w (upd H x o') h' x o'):BC P w (upd H x o') h':=λb u q=>by
 have nown:∀c y,H c=some (.own y)->c≠x:=λc y r z=>by subst z;rw[r] at mu;exact mu
 have ntup:∀c xs,H c=some (.tup xs)->c≠x:=λc xs r z=>by subst z;rw[r] at mu;exact mu
 by_cases hb:b=x
 ·subst hb;rw[aD] at q;cases q;exact new
 ·rw[bc hb] at q;by_cases hbe:b=e
  ·have q':H b=some (.own x):=by
    rcases he with z | z
    ·exact absurd (hbe.trans z) hb
    ·rw[hbe];exact z
   rw[q] at q';cases q';obtain ⟨v,hv⟩:=heo;exact ⟨v,by rw[hbe];exact hv⟩
  ·refine (ok b u q).stay (λc v hc r=>k c v ?_ r) (λc r=>by rw[bc (nown c b r)];exact r) λc xs r=>by rw[bc (ntup c xs r)];exact r
   rcases hc with rfl | hc
   ·exact hbe
   ·rintro rfl;rcases he with z | z
    ·exact nown c b hc z
    ·rw[hc] at z;cases z;exact hb rfl
end
structure Un (fs ex:List Addr) (H H':Hp) (h h':Heap):Prop where
 keep:∀b o,h.get? b=some o->H b=none->b∉fs->b∉ex->h'.get? b=some o
 slot:∀b o,h.get? b=some o->H b=none->b∈fs->b∉ex->∃sl,h'.get? b=some { o with slots:=sl }
 free:∀b o,h.get? b=some o->H b=none->b∉ex->H' b=none
 there:∀b o,h.get? b=some o->b∉ex->∃o',h'.get? b=some o'
 tups:∀b xs,H b=some (.tup xs)->H' b=some (.tup xs)
 frzs:∀b o u,H b=some (.frz o u)->H' b=some (.frz o u)
 tbls:∀b ps,H b=some (.tbl ps)->∃more,H' b=some (.tbl (ps++more))
section
variable {fs fs' ex ex':List Addr} {H H1 H2:Hp} {h h1 h2 h':Heap} {a x e:Addr} {o:HO}
theorem Un.any (u:Un fs ex H H1 h h1) (q:h.get? b=some ob) (n:H b=none) (hx:b∉ex):∃sl,h1.get? b=some { ob with slots:=sl }:=by
 by_cases hb:b∈fs
 ·exact u.slot b ob q n hb hx
 ·exact ⟨ob.slots,u.keep b ob q n hb hx⟩
theorem Un.kept (k:∀b u,h.get? b=some u->h'.get? b=some u):Un fs ex H H h h' :=
 ⟨λb ob q _ _ _=>k b ob q,λb ob q _ _ _=>⟨ob.slots,k b ob q⟩,λ_ _ _ n _=>n,λb ob q _=>⟨ob,k b ob q⟩,λ_ _ q=>q,λ_ _ _ q=>q,λ_ ps q=>⟨#[],by rw[q];simp⟩⟩
theorem Un.refl:Un fs ex H H h h:=Un.kept λ_ _ q=>q
theorem Un.laid (k:∀b u,h.get? b=some u->h'.get? b=some u) (hp:h.objs.size<=a) (hn:H a=none):Un fs ex H (upd H a o) h h' where
 keep:=λb u q _ _ _=>k b u q
 slot:=λb u q _ _ _=>⟨u.slots,k b u q⟩
 free:=λb u q n _=>by rw[bc (c7 (bD (Heap.lt_size q) hp))];exact n
 there:=λb u q _=>⟨u,k b u q⟩
 tups:=λb xs q=>by rw[bc (gO q hn)];exact q
 frzs:=λb u xs q=>by rw[bc (gO q hn)];exact q
 tbls:=λb ps q=>⟨#[],by rw[bc (gO q hn),q];simp⟩
theorem Un.write (mu:V8 (H x)) (he:e=x\/H e=some (.own x)) (k:∀b u,b≠e->h.get? b=some u->h'.get? b=some u) (heo:∃u,h'.get? e=some u):Un fs ex H (upd H x o) h h':=by
 have hx:∀b,H b=none->b≠x:=λb n z=>by subst z;rw[n] at mu;exact mu
 have hb:∀b,H b=none->b≠e:=λb n z=>by
  subst z;rcases he with r | r
  ·exact hx b n r
  ·rw[n] at r;cases r
 have hm:∀b u,H b=some u->¬V8 (some u)->b≠x:=λb u q nm z=>by subst z;rw[q] at mu;exact nm mu
 refine ⟨λb u q n _ _=>k b u (hb b n) q,λb u q n _ _=>⟨u.slots,k b u (hb b n) q⟩,λb u q n _=>by rw[bc (hx b n)];exact n,λb u q _=>?_,
  λb xs q=>by rw[bc (hm b _ q λz=>z)];exact q,λb u xs q=>by rw[bc (hm b _ q λz=>z)];exact q,λb ps q=>⟨#[],by rw[bc (hm b _ q λz=>z),q];simp⟩⟩
 by_cases hbe:b=e
 ·subst hbe;exact heo
 ·exact ⟨u,k b u hbe q⟩
end
def VY (h:Heap) (H:Hp):List Addr:=(List.range h.objs.size).filter λa=>(H a).isSome
def GY (h:Heap) (H:Hp):Heap:=PySem.W.hideAll h (VY h H)
theorem M6 (h:Heap) (H:Hp):(GY h H).objs.size=h.objs.size:=PySem.W.hideAll_size _ _
theorem O6 (e:h.get? b=some o) (n:H b=none):(GY h H).get? b=some o :=
 PySem.W.hideAll_get _ e λhm=>by
  have q:(H b).isSome=true:=(mX.mp hm).2;rw[n] at q;simp at q
theorem Rm (e:(GY h H).get? b=some o):h.get? b=some o/\H b=none:=by
 have e':h.get? b=some o:=PySem.W.of_hideAll (VY h H) e;refine ⟨e',?_⟩;cases q:H b with
 | none=>rfl
 | some x =>
  have hm:b∈VY h H:=mX.mpr ⟨cP.mpr (Heap.lt_size e'),by simp [q]⟩;have z:(GY h H).get? b=none:=PySem.W.hideAll_none (VY h H) hm;rw[z] at e;cases e
structure Mod (K:FG9) (mg:Str->Option Value) (base:Heap):Prop where
 kin:K.In base
 glob:base.Ns mainGlobals mg
 blt:∃mb,base.Ns builtinsNs mb/\∀x:Str,x≠"__name__"->mb x=bootBuiltins x
 nolimit:base.NoLimit
 seer:base.NoSeer
structure Cx where
 prog:Program
 w:World
 K:FG9
 mg:Str->Option Value
 base:Heap
 A:Around
 N:List Str
 s₀:Shared
 H₀:Hp
 env:Env
 outer:List Env
 stack:List Env
 ex:List Addr
 fn:Str->Bool
 calm:Bool
 pn:List (Addr×Obj)
 xe:Value->Shared->Prop
def Ny (l:List Env):List Addr:=l.filterMap (·.frame)
abbrev Cx.fs (X:Cx):List Addr:=Ny X.outer
def Wr (sc:Scope) (x:Str):Prop:=sc.names.lookup x=some .local\/sc.names.lookup x=some .cell\/sc.names.lookup x=some .free
def Loc (sc:Scope) (x:Str):Prop:=sc.names.lookup x=some .local\/sc.names.lookup x=some .cell
def Look (env:Env) (h:Heap) (m:Str->Option Value) (x:Str) (u:Value):Prop :=
 (env.kindOf x=some .local/\m x=some u)\/((env.kindOf x=some .cell\/env.kindOf x=some .free)/\∃c,env.cells.lookup x=some c/\h.IsCell c (some u))
structure Cx.Ok (X:Cx):Prop where
 mod:Mod X.K X.mg X.base
 kind:X.env.scope.kind=.function
 glob:X.env.globals=mainGlobals
 blt:X.env.builtins=builtinsNs
 above:X.s₀.heap.objs.size<=X.env.locals
 inj:∀x y c,X.env.cells.lookup x=some c->X.env.cells.lookup y=some c->x=y
 has:∀x,(X.env.kindOf x=some .cell\/X.env.kindOf x=some .free)->∃c,X.env.cells.lookup x=some c
 cab:∀x c,X.fn x=true->X.env.cells.lookup x=some c->X.s₀.heap.objs.size<=c
 hd:X.calm=true->X.A.handled=none
 frames:X.A.frames=some X.stack
 stk:X.stack=X.outer\/(X.stack=X.env :: X.outer/\X.env.frame=some X.env.locals)
 exf:∀b∈X.ex,b≠X.env.locals/\∀x c,X.env.cells.lookup x=some c->c≠b
 bs:∀b o,X.base.get? b=some o->X.s₀.heap.get? b=some o/\X.H₀ b=none
 bsz:X.base.objs.size<=X.s₀.heap.objs.size
 noex:∀b o,X.base.get? b=some o->b∉X.ex
 exfs:∀b∈X.ex,b∉X.fs
 funs:X.s₀.heap.FunFrames X.base X.outer
 frf:∀b∈X.fs,X.H₀ b=none
structure Inv (X:Cx) (pins:List (Addr×Obj)) (σ:List (Option V)) (H:Hp) (s:Shared):Prop where
 ok:X.Ok
 os:s.os=X.s₀.os
 bare:AllBare s.gens
 base:Un X.fs X.ex X.H₀ H X.s₀.heap s.heap
 loc:∃m,s.heap.Ns X.env.locals m/\∀(i:Nat) (x:Str) (v:V),X.N[i]?=some x->σ[i]?=some (some v)->Wr X.env.scope x->∃u,RelV v u/\Look X.env s.heap m x u
 cell:∀x c,X.env.cells.lookup x=some c->∃v,s.heap.IsCell c v
 free:H X.env.locals=none
 freeC:∀x c,X.env.cells.lookup x=some c->H c=none
 pin:∀p∈X.pn++pins,s.heap.get? p.1=some p.2/\H p.1=none/\p.1≠X.env.locals/\p.1∉X.fs/\∀v,p.2.data≠.cell v
 hok:BC X.prog X.w H s.heap
 len:σ.length=X.N.length
section
variable {X:Cx} {pins:List (Addr×Obj)} {σ:List (Option V)} {H H':Hp} {s:Shared} {h':Heap}
theorem Cx.Ok.nofr (ok:X.Ok) (e:X.base.get? b=some o):b∉X.fs:=λhb=>by
 have:=(ok.funs.mem hb).1;rw[e] at this;cases this
theorem Inv.bs (I:Inv X pins σ H s):∀b o,X.base.get? b=some o->s.heap.get? b=some o/\H b=none:=λb o e =>
 ⟨I.base.keep b o (I.ok.bs b o e).1 (I.ok.bs b o e).2 (I.ok.nofr e) (I.ok.noex b o e),I.base.free b o (I.ok.bs b o e).1 (I.ok.bs b o e).2 (I.ok.noex b o e)⟩
theorem Inv.bk (I:Inv X pins σ H s):∀b o,X.base.get? b=some o->s.heap.get? b=some o:=λb o e=>(I.bs b o e).1
theorem Inv.mod (I:Inv X pins σ H s):Mod X.K X.mg X.base:=I.ok.mod
theorem Inv.kIn (I:Inv X pins σ H s):X.K.In s.heap:=I.ok.mod.kin.keeps I.bk
theorem Inv.nolimit (I:Inv X pins σ H s):s.heap.NoLimit:=I.ok.mod.nolimit.keeps I.bk
theorem Inv.lt (I:Inv X pins σ H s):X.env.locals < s.heap.objs.size:=let ⟨_,hn,_⟩:=I.loc;hn.lt
theorem Inv.sz (I:Inv X pins σ H s):X.s₀.heap.objs.size<=s.heap.objs.size:=ah I.ok.above (dh I.lt)
theorem Inv.nofs (I:Inv X pins σ H s) {a:Addr} (h:s.heap.objs.size<=a):a∉X.fs:=λhb=>by
 obtain ⟨_,o,ho,_⟩:=I.ok.funs.mem hb;exact absurd (bD (Heap.lt_size ho) (ah I.sz h)) (dQ _)
theorem Inv.cne (I:Inv X pins σ H s):∀x c,X.env.cells.lookup x=some c->c≠X.env.locals:=λx c e z=>by
 obtain ⟨v,o,ho,hd⟩:=I.cell x c e;obtain ⟨m,⟨o',es,ep,ho',hd',_⟩,_⟩:=I.loc;rw[z,ho'] at ho;cases ho;rw[hd'] at hd;cases hd
theorem Inv.funs (I:Inv X pins σ H s):s.heap.FunFrames X.base X.outer:=by
 have all:∀(l:List Env),(∀b∈Ny l,b∈X.fs)->X.s₀.heap.FunFrames X.base l->s.heap.FunFrames X.base l:=by
  intro l
  induction l with
  | nil=>intro _ _;trivial
  | cons env r ih =>
   intro hs hl;obtain ⟨hk,⟨L,o,hf,hn,ho,hd⟩,hr⟩:=hl;have hL:L∈X.fs:=hs L (by unfold Ny;rw[Ia,hf];exact cH);obtain ⟨sl,e⟩:=I.base.slot L o ho (I.ok.frf L hL) hL λz=>I.ok.exfs L z hL
   exact ⟨hk,⟨L,_,hf,hn,e,hd⟩,ih (λb hb=>hs b (by unfold Ny;rw[Ia,hf];exact bJ _ hb)) hr⟩
 exact all X.outer (λ_ hb=>hb) I.ok.funs
theorem Inv.stack (I:Inv X pins σ H s):s.heap.FunFrames X.base X.stack:=by
 rcases I.ok.stk with e | ⟨e,hf⟩
 ·rw[e];exact I.funs
 ·rw[e];obtain ⟨m,hn,_⟩:=I.loc;refine .cons (by rw[I.ok.kind];decide) hf hn ?_ I.funs;exact Heap.get?_none_of_le (ah I.ok.bsz I.ok.above)
theorem Inv.stkSub (I:Inv X pins σ H s):∀b∈Ny X.stack,b∈X.env.locals :: X.fs:=λb hb=>by
 rcases I.ok.stk with e | ⟨e,hf⟩
 ·rw[e] at hb;exact bJ _ hb
 ·rw[e] at hb;unfold Ny at hb;rw[Ia,hf] at hb;exact hb
theorem Inv.stkFree (I:Inv X pins σ H s):∀b∈Ny X.stack,H b=none:=λb hb=>by
 rcases aH.mp (I.stkSub b hb) with e | hb
 ·rw[e];exact I.free
 ·obtain ⟨_,o,ho,_⟩:=I.ok.funs.mem hb;exact I.base.free b o ho (I.ok.frf b hb) λz=>I.ok.exfs b z hb
theorem Inv.step {ch:List Addr} (I:Inv X pins σ H s)
  (hch:∀b∈ch,(b∈X.ex\/X.s₀.heap.objs.size<=b)/\b≠X.env.locals/\(∀x c,X.env.cells.lookup x=some c->c≠b)/\∀p∈X.pn++pins,p.1≠b)
  (keep:∀b o,b≠X.env.locals->b∉X.fs->b∉ch->s.heap.get? b=some o->H b=none->h'.get? b=some o)
  (slot:∀b o,b≠X.env.locals->b∈X.fs->b∉ch->s.heap.get? b=some o->H b=none->∃sl,h'.get? b=some { o with slots:=sl }) (free:∀b o,b∉ch->s.heap.get? b=some o->H b=none->H' b=none)
  (there:∀b o,b∉ch->s.heap.get? b=some o->∃o',h'.get? b=some o')
  (tups:∀b xs,H b=some (.tup xs)->H' b=some (.tup xs)) (frzs:∀b o u,H b=some (.frz o u)->H' b=some (.frz o u)) (tbls:∀b ps,H b=some (.tbl ps)->∃more,H' b=some (.tbl (ps++more)))
  (ns:∀m,s.heap.Ns X.env.locals m->h'.Ns X.env.locals m) (hok:BC X.prog X.w H' h') (hg:AllBare g') :
  Inv X pins σ H' { s with heap:=h',gens:=g',drawn:=d',toks:=t' }:=by
 have neL:∀b o,X.s₀.heap.get? b=some o->b≠X.env.locals:=λb o e=>c7 (bD (Heap.lt_size e) I.ok.above)
 have neC:∀b o,X.s₀.heap.get? b=some o->b∉X.ex->b∉ch:=λb o e hx hb=>by
  rcases (hch b hb).1 with z | z
  ·exact hx z
  ·exact absurd (bD (Heap.lt_size e) z) (dQ _)
 have cellK:∀x c,X.env.cells.lookup x=some c->∀v,s.heap.IsCell c v->h'.IsCell c v:=λx c e v ⟨o,ho,hd⟩=>by
  have nch:c∉ch:=λz=>(hch c z).2.2.1 x c e rfl
  by_cases hc:c∈X.fs
  ·obtain ⟨sl,q⟩:=slot c o (I.cne x c e) hc nch ho (I.freeC x c e);exact ⟨_,q,hd⟩
  ·exact ⟨o,keep c o (I.cne x c e) hc nch ho (I.freeC x c e),hd⟩
 refine ⟨I.ok,I.os,hg,⟨λb o e n hb hx=>?_,λb o e n hb hx=>?_,λb o e n hx=>?_,λb o e hx=>?_,λb xs e=>tups b xs (I.base.tups b xs e),λb o xs e=>frzs b o xs (I.base.frzs b o xs e),λb ps e=>?_⟩,?_,λx c e=>?_,?_,λx c e=>?_,λp hp=>?_,hok,I.len⟩
 ·exact keep b o (neL b o e) hb (neC b o e hx) (I.base.keep b o e n hb hx) (I.base.free b o e n hx)
 ·obtain ⟨sl,e1⟩:=I.base.slot b o e n hb hx;obtain ⟨sl',e2⟩:=slot b _ (neL b o e) hb (neC b o e hx) e1 (I.base.free b o e n hx);exact ⟨sl',e2⟩
 ·obtain ⟨o',e1⟩:=I.base.there b o e hx;exact free b o' (neC b o e hx) e1 (I.base.free b o e n hx)
 ·obtain ⟨o',e1⟩:=I.base.there b o e hx;exact there b o' (neC b o e hx) e1
 ·obtain ⟨m1,e1⟩:=I.base.tbls b ps e;obtain ⟨m2,e2⟩:=tbls b _ e1;exact ⟨m1++m2,by rw[e2,Array.append_assoc]⟩
 ·obtain ⟨m,hn,hl⟩:=I.loc;refine ⟨m,ns m hn,λi x v e1 e2 e3=>?_⟩;obtain ⟨u,r,l⟩:=hl i x v e1 e2 e3;refine ⟨u,r,?_⟩;rcases l with l | ⟨k,c,e,z⟩
  ·exact .inl l
  ·exact .inr ⟨k,c,e,cellK x c e _ z⟩
 ·obtain ⟨v,z⟩:=I.cell x c e;exact ⟨v,cellK x c e v z⟩
 ·obtain ⟨m,⟨o,_,_,ho,_⟩,_⟩:=I.loc;exact free _ o (λz=>(hch _ z).2.1 rfl) ho I.free
 ·obtain ⟨v,o,ho,hd⟩:=I.cell x c e;exact free c o (λz=>(hch c z).2.2.1 x c e rfl) ho (I.freeC x c e)
 ·obtain ⟨e,n,ne,nf,d⟩:=I.pin p hp;have nch:p.1∉ch:=λz=>(hch p.1 z).2.2.2 p hp rfl
  exact ⟨keep p.1 p.2 ne nf nch e n,free p.1 p.2 nch e n,ne,nf,d⟩
theorem Inv.un (I:Inv X pins σ H s) (u:Un X.fs [] H H' s.heap h') (hok:BC X.prog X.w H' h'):Inv X pins σ H' { s with heap:=h',toks:=t' }:=by
 obtain ⟨m,⟨o,es,ep,ho,r⟩,_⟩:=id I.loc;obtain ⟨sl,hL⟩:=u.any ho I.free (by simp)
 exact I.step (g':=s.gens) (d':=s.drawn) (ch:=[]) (λ_ z=>nomatch z) (λb o _ hb _ e n=>u.keep b o e n hb (by simp)) (λb o _ hb _ e n=>u.slot b o e n hb (by simp)) (λb o _ e n=>u.free b o e n (by simp)) (λb o _ e=>u.there b o e (by simp)) u.tups u.frzs u.tbls (λm' hm=>by
  obtain ⟨o',es',ep',ho',r'⟩:=hm;rw[ho] at ho';cases ho';exact ⟨_,es',ep',hL,r'⟩) hok I.bare
theorem Inv.call (I:Inv X pins σ H s) (u:Un (Ny X.stack) ch H H' s.heap h') (hok:BC X.prog X.w H' h') (hg:AllBare g')
  (hch:∀b∈ch,(b∈X.ex\/X.s₀.heap.objs.size<=b)/\b≠X.env.locals/\(∀x c,X.env.cells.lookup x=some c->c≠b)/\∀p∈X.pn++pins,p.1≠b) :
  Inv X pins σ H' { s with heap:=h',gens:=g',drawn:=d',toks:=t' }:=by
 obtain ⟨m,⟨o,es,ep,ho,r⟩,_⟩:=id I.loc;obtain ⟨sl,hL⟩:=u.any ho I.free λz=>(hch _ z).2.1 rfl
 exact I.step (ch:=ch) hch (λb o hL hb hc e n=>u.keep b o e n (λz=>(aH.mp (I.stkSub b z)).elim hL hb) hc) (λb o _ _ hc e n=>u.any e n hc) (λb o hc e n=>u.free b o e n hc) (λb o hc e=>u.there b o e hc) u.tups u.frzs u.tbls (λm' hm=>by
  obtain ⟨o',es',ep',ho',r'⟩:=hm;rw[ho] at ho';cases ho';exact ⟨_,es',ep',hL,r'⟩) hok hg
theorem Inv.turned (I:Inv X pins σ H s) (k:∀b o,b≠it->s.heap.get? b=some o->h'.get? b=some o) (hn:H it=none) (hL:it≠X.env.locals)
  (h1:it∈X.ex\/X.s₀.heap.objs.size<=it) (h2:∀x c,X.env.cells.lookup x=some c->c≠it) (h3:∀p∈X.pn++pins,p.1≠it):Inv X pins σ H { s with heap:=h',toks:=t' }:=by
 have nit:∀b u,H b=some u->b≠it:=λb u e z=>by rw[z,hn] at e;cases e
 refine I.step (g':=s.gens) (d':=s.drawn) (ch:=[it]) (λb hb=>?_) (λb o _ _ hc e _=>k b o (λz=>hc (by simp [z])) e) (λb o _ _ hc e _=>⟨o.slots,k b o (λz=>hc (by simp [z])) e⟩) (λ_ _ _ _ n=>n)
  (λb o hc e=>⟨o,k b o (λz=>hc (by simp [z])) e⟩) (λ_ _ e=>e) (λ_ _ _ e=>e) (λb ps e=>⟨#[],by rw[e];simp⟩) (λm hm=>?_) (λb u e=>?_) I.bare
 ·have e:b=it:=by simpa using hb
  subst e;exact ⟨h1,hL,h2,h3⟩
 ·obtain ⟨o,es,ep,ho,r⟩:=hm;exact ⟨o,es,ep,k _ o (Ne.symm hL) ho,r⟩
 ·refine (I.hok b u e).stay (λc v hc q=>k c v ?_ q) (λ_ q=>q) λ_ _ q=>q
  rcases hc with z | z
  ·rw[z];exact nit b u e
  ·exact nit c _ z
theorem Inv.tok (I:Inv X pins σ H s) (t:Nat):Inv X pins σ H { s with toks:=t }:=I.un (h':=s.heap) (t':=t) Un.refl I.hok
theorem Inv.kept (I:Inv X pins σ H s) (k:∀b u,s.heap.get? b=some u->h'.get? b=some u):Inv X pins σ H { s with heap:=h',toks:=t' }:=I.un (Un.kept k) (I.hok.kept k)
theorem Inv.laid {a:Addr} (I:Inv X pins σ H s) (k:∀b u,s.heap.get? b=some u->h'.get? b=some u) (hp:s.heap.objs.size<=a) (new:jY X.prog X.w (upd H a o) h' a o) :
  Inv X pins σ (upd H a o) { s with heap:=h',toks:=t' }:=I.un (Un.laid k hp (I.hok.fresh hp)) (I.hok.laid k hp new)
theorem Inv.write (I:Inv X pins σ H s) (mu:V8 (H x)) (he:e=x\/H e=some (.own x)) (k:∀b u,b≠e->s.heap.get? b=some u->h'.get? b=some u) (heo:∃u,h'.get? e=some u)
  (new:jY X.prog X.w (upd H x o) h' x o):Inv X pins σ (upd H x o) { s with heap:=h',toks:=t' }:=I.un (Un.write mu he k heo) (I.hok.write mu he k heo new)
theorem Inv.pins_of (I:Inv X pins σ H s) (h:∀p∈pins',s.heap.get? p.1=some p.2/\H p.1=none/\p.1≠X.env.locals/\p.1∉X.fs/\∀v,p.2.data≠.cell v):Inv X pins' σ H s :=
 ⟨I.ok,I.os,I.bare,I.base,I.loc,I.cell,I.free,I.freeC,λp hp=>(av.mp hp).elim (λz=>I.pin p (sZ _ z)) (h p),I.hok,I.len⟩
theorem Jc {N:List Str} (hN:N.Nodup) {i j:Nat} (a:N[i]?=some x) (b:N[j]?=some x):i=j:=by
 obtain ⟨h1,e1⟩:=az.mp a;obtain ⟨h2,e2⟩:=az.mp b;exact (List.getElem_inj hN).mp (e1.trans e2.symm)
theorem Em {M:Model} {A:Around} {E:Value->Shared->Prop} {i:Nat} {x:Str} {v:V} {u:Value} {Q:Unit->Shared->Prop} (I:Inv X pins σ H s) (hN:X.N.Nodup) (hi:X.N[i]?=some x) (hx:Loc X.env.scope x) (r:RelV v u)
  (h:∀s',Inv X pins (σ.set i (some v)) H s'->(∃a,Heap.SameBut a s.heap s'.heap/\(a=X.env.locals\/X.env.cells.lookup x=some a))->Q () s') (hf:X.fn x=true\/X.env.scope.names.lookup x=some .local:=by first | exact .inl rfl | exact .inr rfl | assumption):wpAny M A (storeName X.env x u) Q E s:=by
 obtain ⟨m,hn,hl⟩:=id I.loc;have hcls:(X.env.scope.kind == .class || (X.env.scope.kind == .module && X.env.locals != X.env.globals))=false:=by rw[I.ok.kind];rfl
 have hiσ:i < σ.length:=by rw[I.len];exact (az.mp hi).1
 have cne:=I.cne
 have tracked:∀{a:Addr} {h':Heap},(∃o,s.heap.get? a=some o/\H a=none)->Heap.SameBut a s.heap h'->BC X.prog X.w H h':=λ{a h'} ha hs b ob e=>by
  obtain ⟨_,_,hfree⟩:=ha;refine (I.hok b ob e).stay (λc w' hc q=>(hs.2 c ?_).trans q) (λ_ q=>q) λ_ _ q=>q
  rintro rfl;rcases hc with rfl | hc
  ·rw[hfree] at e;cases e
  ·rw[hfree] at hc;cases hc
 rcases hx with hk | hk
 ·refine wpAny_storeName_local hk hn (λh' hn' hs=>?_) hcls;obtain ⟨oL,_,_,hoL,_⟩:=id hn;refine h _ ⟨I.ok,I.os,I.bare,⟨λb o e n hb hx=>?_,λb o e n hb hx=>?_,I.base.free,λb o e hx=>?_,I.base.tups,I.base.frzs,I.base.tbls⟩,⟨_,hn',λj y v' e1 e2 e3=>?_⟩,λy c e=>?_,I.free,I.freeC,λp hp=>?_,tracked ⟨oL,hoL,I.free⟩ hs,by simpa using I.len⟩ ⟨_,hs,.inl rfl⟩
  ·exact (hs.2 b (c7 (bD (Heap.lt_size e) I.ok.above))).trans (I.base.keep b o e n hb hx)
  ·obtain ⟨sl,e1⟩:=I.base.slot b o e n hb hx;exact ⟨sl,(hs.2 b (c7 (bD (Heap.lt_size e) I.ok.above))).trans e1⟩
  ·obtain ⟨o',e1⟩:=I.base.there b o e hx;exact ⟨o',(hs.2 b (c7 (bD (Heap.lt_size e) I.ok.above))).trans e1⟩
  ·by_cases hj:j=i
   ·subst hj;rw[hi] at e1;cases e1;rw[List.getElem?_set_self hiσ] at e2;cases e2;exact ⟨u,r,.inl ⟨hk,by simp⟩⟩
   ·rw[List.getElem?_set_ne (Ne.symm hj)] at e2;obtain ⟨u',r',q⟩:=hl j y v' e1 e2 e3;refine ⟨u',r',?_⟩;rcases q with ⟨k,e⟩ | ⟨k,c,e,z⟩
    ·refine .inl ⟨k,?_⟩;have:y≠x:=λe=>hj (Jc hN e1 (e ▸ hi))
     simp [this,e]
    ·exact .inr ⟨k,c,e,z.sameBut hs (cne y c e)⟩
  ·obtain ⟨w',z⟩:=I.cell y c e;exact ⟨w',z.sameBut hs (cne y c e)⟩
  ·obtain ⟨e,n,ne,nf,d⟩:=I.pin p hp;exact ⟨(hs.2 p.1 ne).trans e,n,ne,nf,d⟩
 ·have hfn:X.fn x=true:=by
   rcases hf with z | z
   ·exact z
   ·rw[z] at hk;cases hk
  obtain ⟨c,hc⟩:=I.ok.has x (.inl hk);obtain ⟨w',z⟩:=I.cell x c hc;refine wpAny_storeName_cell I.ok.kind hk hc z (λh' hc' hs=>?_);obtain ⟨oc,hoc,hocd⟩:=id z;refine h { s with heap:=h' } ⟨I.ok,I.os,I.bare,⟨λb o e n hb hx=>?_,λb o e n hb hx=>?_,I.base.free,λb o e hx=>?_,I.base.tups,I.base.frzs,I.base.tbls⟩,⟨m,hn.sameBut hs (Ne.symm (cne x c hc)),λj y v' e1 e2 e3=>?_⟩,λy c' e=>?_,I.free,I.freeC,λp hp=>?_,tracked ⟨oc,hoc,I.freeC x c hc⟩ hs,by simpa using I.len⟩ ⟨c,hs,.inr hc⟩
  ·exact (hs.2 b (c7 (bD (Heap.lt_size e) (I.ok.cab x c hfn hc)))).trans (I.base.keep b o e n hb hx)
  ·obtain ⟨sl,e1⟩:=I.base.slot b o e n hb hx;exact ⟨sl,(hs.2 b (c7 (bD (Heap.lt_size e) (I.ok.cab x c hfn hc)))).trans e1⟩
  ·obtain ⟨o',e1⟩:=I.base.there b o e hx;exact ⟨o',(hs.2 b (c7 (bD (Heap.lt_size e) (I.ok.cab x c hfn hc)))).trans e1⟩
  ·by_cases hj:j=i
   ·subst hj;rw[hi] at e1;cases e1;rw[List.getElem?_set_self hiσ] at e2;cases e2;exact ⟨u,r,.inr ⟨.inl hk,c,hc,hc'⟩⟩
   ·rw[List.getElem?_set_ne (Ne.symm hj)] at e2;obtain ⟨u',r',q⟩:=hl j y v' e1 e2 e3;refine ⟨u',r',?_⟩;rcases q with q | ⟨k,c',e,z'⟩
    ·exact .inl q
    ·refine .inr ⟨k,c',e,z'.sameBut hs ?_⟩;rintro rfl;exact hj (Jc hN e1 (I.ok.inj _ _ _ e hc ▸ hi))
  ·by_cases hcc:c'=c
   ·subst hcc;exact ⟨_,hc'⟩
   ·obtain ⟨w2,z2⟩:=I.cell y c' e;exact ⟨w2,z2.sameBut hs hcc⟩
  ·obtain ⟨e,n,ne,nf,d⟩:=I.pin p hp;refine ⟨(hs.2 p.1 ?_).trans e,n,ne,nf,d⟩;intro q;rw[q,hoc] at e;have q':oc=p.2:=bS e;exact d w' (by rw[<- q'];exact hocd)
theorem xy {M:Model} {A:Around} {E:Value->Shared->Prop} {i:Nat} {x:Str} {v:V} {u:Value} {Q:Unit->Shared->Prop} (I:Inv X pins σ H s) (hN:X.N.Nodup) (hi:X.N[i]?=some x) (hx:Loc X.env.scope x) (r:RelV v u)
  (h:∀s',Inv X pins (σ.set i (some v)) H s'->Q () s') (hf:X.fn x=true\/X.env.scope.names.lookup x=some .local:=by first | exact .inl rfl | exact .inr rfl | assumption):wpAny M A (storeName X.env x u) Q E s :=
 Em I hN hi hx r (λs' I' _=>h s' I') hf
theorem Inv.call' (I:Inv X pins σ H s) (ho:s'.os=s.os) (u:Un (Ny X.stack) ch H H' s.heap s'.heap) (hok:BC X.prog X.w H' s'.heap) (hg:AllBare s'.gens)
  (hch:∀b∈ch,(b∈X.ex\/X.s₀.heap.objs.size<=b)/\b≠X.env.locals/\(∀x c,X.env.cells.lookup x=some c->c≠b)/\∀p∈X.pn++pins,p.1≠b):Inv X pins σ H' s':=by
 obtain ⟨h',g',d',t',o'⟩:=s';have e:o'=s.os:=ho;subst e;exact I.call (g':=g') (t':=t') (d':=d') u hok hg hch
end
abbrev XK:=Value->Option Addr->Hp->Prop
abbrev St:=List (Option V)
abbrev VK:=V->Hp->Prop
abbrev TE:=St->Hp->VK->Prop
abbrev TT:=St->Hp->(Bool->Hp->Prop)->Prop
abbrev TA:=St->Hp->(List V->Hp->Prop)->Prop
structure Ends where
 nx:St->Hp->Prop
 rt:VK
 bk:St->Hp->Prop:=λ_ _=>False
 ct:St->Hp->Prop:=λ_ _=>False
abbrev TS:=Ends->St->Hp->Prop
def EP (X:Cx) (pins:List (Addr×Obj)) (σ:St) (Q:VK) (u:Value) (s':Shared):Prop:=∃v H',Inv X pins σ H' s'/\RelV v u/\Q v H'
def TP (X:Cx) (pins:List (Addr×Obj)) (σ:St) (Q:Bool->Hp->Prop) (b:Bool) (s':Shared):Prop:=∃H',Inv X pins σ H' s'/\Q b H'
def AP (X:Cx) (pins:List (Addr×Obj)) (σ:St) (Q:List V->Hp->Prop) (us:List Value) (s':Shared):Prop:=∃vs H',Inv X pins σ H' s'/\cX vs us/\Q vs H'
def SP (X:Cx) (pins:List (Addr×Obj)) (D:Ends) (f:Flow) (s':Shared):Prop :=
 match f with
 | .next=>∃σ' H',Inv X pins σ' H' s'/\D.nx σ' H'
 | .brk=>∃σ' H',Inv X pins σ' H' s'/\D.bk σ' H'
 | .cont=>∃σ' H',Inv X pins σ' H' s'/\D.ct σ' H'
 | .ret u=>∃v σ' H',Inv X pins σ' H' s'/\RelV v u/\D.rt v H'
def PE (X:Cx) (e:Expr) (t:TE):Prop :=
 ∀(pins:List (Addr×Obj)) (s:Shared) (σ:St) (H:Hp) (Q:VK),Inv X pins σ H s->t σ H Q->wpAny (model X.prog X.w) X.A (eval e X.env) (EP X pins σ Q) X.xe s
def PT (X:Cx) (e:Expr) (t:TT):Prop :=
 ∀(pins:List (Addr×Obj)) (s:Shared) (σ:St) (H:Hp) (Q:Bool->Hp->Prop),Inv X pins σ H s->t σ H Q->wpAny (model X.prog X.w) X.A (isTrue e X.env (eval e X.env)) (TP X pins σ Q) X.xe s
def PW (X:Cx) (e:Expr) (t:TT):Prop :=
 ∀(whole:Sem Value) (pins:List (Addr×Obj)) (s:Shared) (σ:St) (H:Hp) (Q:Bool->Hp->Prop),Inv X pins σ H s->t σ H Q->wpAny (model X.prog X.w) X.A (isTrue e X.env whole) (TP X pins σ Q) X.xe s
theorem PW.pt (h:PW X e t):PT X e t:=h _
def PA (X:Cx) (es:List Expr) (t:TA):Prop :=
 ∀(pos:Pos) (pins:List (Addr×Obj)) (s:Shared) (σ:St) (H:Hp) (Q:List V->Hp->Prop),Inv X pins σ H s->t σ H Q->wpAny (model X.prog X.w) X.A (spliced (backTo pos (starEach es X.env))) (AP X pins σ Q) X.xe s
def PS (X:Cx) (st:Stmt) (t:TS):Prop :=
 ∀(pins:List (Addr×Obj)) (s:Shared) (σ:St) (H:Hp) (D:Ends),Inv X pins σ H s->t D σ H->wpAny (model X.prog X.w) X.A (exec st X.env) (SP X pins D) X.xe s
def JZ (X:Cx) (st:List Stmt) (t:TS):Prop :=
 ∀(pins:List (Addr×Obj)) (s:Shared) (σ:St) (H:Hp) (D:Ends),Inv X pins σ H s->t D σ H->wpAny (model X.prog X.w) X.A (execs st X.env) (SP X pins D) X.xe s
theorem iw {t:Sem α} {Q Q':α->Shared->Prop} (h:wpAny M A t Q E s) (hQ:∀a s,Q a s->Q' a s):wpAny M A t Q' E s:=wpAny_mono h hQ λ_ _ x=>x
section
variable {X:Cx}
def S4 (i:Nat):TE:=λσ H Q=>∃v,σ[i]?=some (some v)/\Q v H
def tC (v:V):TE:=λ_ H Q=>Q v H
theorem TZ {i:Nat} {x:Str} {pos:Pos} (hN:X.N[i]?=some x) (hv:Wr X.env.scope x) (hd:(x == ("__debug__":Str))=false:=by decide) (hcd:(x == ("__classdict__":Str))=false:=by decide):PE X (.Name x pos) (S4 i):=by
 intro pins s σ H Q I h;obtain ⟨v,e,h⟩:=h;obtain ⟨m,hn,hl⟩:=I.loc;obtain ⟨u,r,l⟩:=hl i x v hN e hv;have fin:EP X pins σ Q u s:=⟨v,H,I,r,h⟩;rcases l with ⟨hk,hm⟩ | ⟨hk,c,hc,hcell⟩
 ·exact wpAny_Name (wpAny_loadName_local I.ok.kind hk hn hm fin) hd
 ·rcases hk with hk | hk
  ·exact wpAny_Name (wpAny_loadName_cell I.ok.kind hk hc hcell fin) hd
  ·exact wpAny_Name (wpAny_loadName_free I.ok.kind hk hc hcell fin hcd) hd
theorem aj:PE X (.Constant (.int i) j pos) (tC (.int i)):=λ_ _ _ H _ I h=>wpAny_Constant_int ⟨.int i,H,I.tok _,⟨_,rfl⟩,h⟩
theorem lZ:PE X (.Constant (.bool b) j pos) (tC (.bl b)):=λ_ _ _ H _ I h=>Constant_bool ⟨.bl b,H,I,rfl,h⟩
theorem k9:PE X (.Constant .none j pos) (tC .non):=λ_ _ _ H _ I h=>Constant_none ⟨.non,H,I,rfl,h⟩
theorem nI:PE X (.Constant (.str x) j pos) (tC (.str x)):=λ_ _ _ H _ I h=>Calls.Constant_str ⟨.str x,H,I.tok _,⟨_,rfl⟩,h⟩
def Gl (X:Cx) (x:Str):Prop:=X.env.kindOf x=some .globalImplicit
theorem GS {E:Value->Shared->Prop} {pins:List (Addr×Obj)} {s:Shared} {σ:St} {H:Hp} {x:Str} {u:Value} {pos:Pos} {Q:Value->Shared->Prop} (I:Inv X pins σ H s) (hg:Gl X x) (hm:X.mg x=some u) (h:Q u s)
  (hd:(x == ("__debug__":Str))=false:=by decide):wpAny (model X.prog X.w) X.A (eval (.Name x pos) X.env) Q E s :=
 Calls.Name_function_global I.ok.kind hg (Calls.loadGlobal_global (by rw[I.ok.glob];exact I.mod.glob.keeps I.bk) hm h) hd
theorem nZ {E:Value->Shared->Prop} {pins:List (Addr×Obj)} {s:Shared} {σ:St} {H:Hp} {x:Str} {u:Value} {pos:Pos} {Q:Value->Shared->Prop} (I:Inv X pins σ H s) (hg:Gl X x) (hm:X.mg x=none) (hv:bootBuiltins x=some u) (h:Q u s)
  (hn:x≠"__name__":=by decide) (hd:(x == ("__debug__":Str))=false:=by decide):wpAny (model X.prog X.w) X.A (eval (.Name x pos) X.env) Q E s:=by
 obtain ⟨mb,h1,h2⟩:=I.mod.blt;exact Calls.Name_function_global I.ok.kind hg (Calls.loadGlobal_builtin (by rw[I.ok.glob];exact I.mod.glob.keeps I.bk) hm (by rw[I.ok.blt];exact h1.keeps I.bk) ((h2 x hn).trans hv) h) hd
theorem mQ {x:Str} {v:V} {u:Value} {pos:Pos} (hg:Gl X x) (hm:X.mg x=some u) (r:RelV v u) (hd:(x == ("__debug__":Str))=false:=by decide):PE X (.Name x pos) (tC v) :=
 λ_ _ _ H _ I h=>GS I hg hm ⟨v,H,I,r,h⟩ hd
theorem Lz {x:Str} {v:V} {u:Value} {pos:Pos} (hg:Gl X x) (hm:X.mg x=none) (hv:bootBuiltins x=some u) (r:RelV v u) (hn:x≠"__name__":=by decide) (hd:(x == ("__debug__":Str))=false:=by decide):PE X (.Name x pos) (tC v) :=
 λ_ _ _ H _ I h=>nZ I hg hm hv ⟨v,H,I,r,h⟩ hn hd
variable {a b:Expr} {ta tb:TE} {pos:Pos}
def tB (t:TE):TT:=λσ H Q=>t σ H λx H1=>∃c,x=.bl c/\Q c H1
theorem iF {e:Expr} {t:TE} (h:PE X e t) (he:∀whole,isTrue e X.env whole=(do let v <- whole;standAt e.pos;holding [v] (truthy v)):=by intro _;rfl):PT X e (tB t):=by
 intro pins s σ H Q I hw;refine isTrue_plain (iw (h pins s σ H _ I hw) λv s1 ⟨x,H1,I1,r1,q1⟩=>?_) (he _);obtain ⟨d,rfl,q⟩:=q1;cases r1;exact wpAny_truthy_bool ⟨H1,I1,q⟩
variable {tA tB':TT} {rest:List Expr}
def U2 (t u:TT):TT:=λσ H Q=>t σ H λc H1=>if c=true then u σ H1 Q else Q false H1
def tOr (t u:TT):TT:=λσ H Q=>t σ H λc H1=>if c=true then Q true H1 else u σ H1 Q
def UY (t:TT):TT:=λσ H Q=>t σ H λc H1=>Q (!c) H1
theorem jD (ha:PT X a tA):PW X (.BoolOp .And [a] pos) tA:=by
 intro wh pins s σ H Q I h;refine isTrue_and (iw (ha pins s σ H Q I h) λc s1 e=>?_);cases c with
 | true=>exact isTrue_and_nil e
 | false=>exact e
theorem jq (ha:PT X a tA):PW X (.BoolOp .Or [a] pos) tA:=by
 intro wh pins s σ H Q I h;refine isTrue_or (iw (ha pins s σ H Q I h) λc s1 e=>?_);cases c with
 | false=>exact isTrue_or_nil e
 | true=>exact e
theorem jr (ha:PT X a tA) (hb:PW X (.BoolOp .And (b :: rest) pos) tB'):PW X (.BoolOp .And (a :: b :: rest) pos) (U2 tA tB'):=by
 intro wh pins s σ H Q I h;refine isTrue_and (iw (ha pins s σ H _ I h) λc s1 ⟨H1,I1,q1⟩=>?_);cases c with
 | true=>exact hb wh pins s1 σ H1 Q I1 q1
 | false=>exact ⟨H1,I1,q1⟩
theorem kR (ha:PT X a tA) (hb:PW X (.BoolOp .Or (b :: rest) pos) tB'):PW X (.BoolOp .Or (a :: b :: rest) pos) (tOr tA tB'):=by
 intro wh pins s σ H Q I h;refine isTrue_or (iw (ha pins s σ H _ I h) λc s1 ⟨H1,I1,q1⟩=>?_);cases c with
 | true=>exact ⟨H1,I1,q1⟩
 | false=>exact hb wh pins s1 σ H1 Q I1 q1
theorem jN (ha:PT X a tA):PT X (.UnaryOp .Not a pos) (UY tA):=by
 intro pins s σ H Q I h;exact isTrue_not (ha pins s σ H (λc H1=>Q (!c) H1) I h)
def Si (ta tb:TE):TE:=λσ H Q=>ta σ H λx H1=>∃c,x=.bl c/\if c=true then tb σ H1 Q else Q (.bl false) H1
def Sd (ta:TE):TE:=λσ H Q=>ta σ H λx H1=>∃c,x=.bl c/\Q (.bl (!c)) H1
theorem Gf (h:PE X a t):PE X (.BoolOp op [a] pos) t:=λpins s σ H Q I hw=>BoolOp_one (h pins s σ H Q I hw)
theorem Gh (ha:PE X a ta) (hb:PE X (.BoolOp .And (b :: rest) pos) tb):PE X (.BoolOp .And (a :: b :: rest) pos) (Si ta tb):=by
 intro pins s σ H Q I h;refine BoolOp_and (iw (ha pins s σ H _ I h) λv s1 ⟨x,H1,I1,r1,q1⟩=>?_);obtain ⟨c,rfl,q1⟩:=q1;cases r1;refine wpAny_truthy_bool ?_;cases c with
 | true=>exact hb pins s1 σ H1 Q I1 q1
 | false=>exact ⟨.bl false,H1,I1,rfl,q1⟩
theorem T1 (ha:PE X a ta):PE X (.UnaryOp .Not a pos) (Sd ta):=by
 intro pins s σ H Q I h;refine UnaryOp_ (iw (ha pins s σ H _ I h) λv s1 ⟨x,H1,I1,r1,q1⟩=>?_);obtain ⟨c,rfl,q1⟩:=q1;cases r1;exact not_of (wpAny_truthy_bool ⟨.bl (!c),H1,I1,rfl,q1⟩)
def tIf (t:TT) (ta tb:TE):TE:=λσ H Q=>t σ H λc H1=>if c=true then ta σ H1 Q else tb σ H1 Q
theorem OF (hc:PT X c tA) (ha:PE X a ta) (hb:PE X b tb):PE X (.IfExp c a b pos) (tIf tA ta tb):=by
 intro pins s σ H Q I h;refine wpAny_IfExp (iw (hc pins s σ H _ I h) λd s1 ⟨H1,I1,q1⟩=>?_);cases d with
 | true=>exact ha pins s1 σ H1 Q I1 q1
 | false=>exact hb pins s1 σ H1 Q I1 q1
end
def bB (K:FG9) (H:Hp) (a:Addr) (xs:List V):Prop :=
 Rd H a (.lst xs) \/
  ∃(o:Obj) (its:Array Value) (n:Nat),K.lookup a=some o/\o.cls=.type "list"/\o.dict=none/\o.data=.seq its n/\its.size<=sizeLine/\cX xs its.toList
def mL (K:FG9) (H:Hp) (a:Addr) (xs:List V):Prop :=
 Rd H a (.tup xs) \/
  ∃(o:Obj) (its:Array Value) (n:Nat),K.lookup a=some o/\o.cls=.type "tuple"/\o.data=.seq its n/\its.size<=sizeLine/\cX xs its.toList
def Wq:Value->Option V
 | .none=>some .non
 | .bool b=>some (.bl b)
 | .int i _=>some (.int i)
 | .str x _=>some (.str x)
 | .bytes b _=>some (.byt b)
 | .float b _=>some (.flt b)
 | .ref a=>some (.ref a)
 | .type n=>some (.ty n)
 | _=>none
theorem RelV.abs (r:RelV x u):Wq u=some x:=by
 cases x with
 | non=>cases r;rfl
 | bl _=>cases r;rfl
 | int _=>obtain ⟨t,rfl⟩:=r;rfl
 | str _=>obtain ⟨t,rfl⟩:=r;rfl
 | byt _=>obtain ⟨t,rfl⟩:=r;rfl
 | flt _=>obtain ⟨t,rfl⟩:=r;rfl
 | ref _=>cases r;rfl
 | ty _=>cases r;rfl
theorem RelV.inj (r:RelV x u) (q:RelV y u):x=y:=bS (r.abs.symm.trans q.abs)
theorem cX.inj:∀{xs ys:List V} {us:List Value},cX xs us->cX ys us->xs=ys
 | _,_,_,.nil,.nil=>rfl
 | _,_,_,.cons r t,.cons r' t'=>by rw[r.inj r',cX.inj t t']
section
variable {X:Cx} {pins:List (Addr×Obj)} {σ:St} {H:Hp} {s:Shared} {a:Addr} {xs ys:List V}
theorem bB.of {K:FG9} (h:H a=some (.lst xs)):bB K H a xs:=.inl (.inl h)
theorem mL.of {K:FG9} (h:H a=some (.tup xs)):mL K H a xs:=.inl (.inl h)
theorem Inv.list (I:Inv X pins σ H s) (h:bB X.K H a xs):∃its:List Value,cX xs its/\PlainL s.heap a its.toArray/\xs.length<=sizeLine:=by
 rcases h with h | ⟨o,its,n,hk,hc,hd,hs,hz,r⟩
 ·obtain ⟨z,its,n,r,e⟩:=h.ok I.hok;exact ⟨its,r,⟨_,n,e,rfl,rfl,rfl⟩,z⟩
 ·refine ⟨its.toList,r,⟨o,n,I.kIn a o hk,hc,hd,by simpa using hs⟩,?_⟩;have e:=r.length;simp only[Array.length_toList] at e
  lia
theorem Inv.tuple (I:Inv X pins σ H s) (h:mL X.K H a xs):∃its:List Value,cX xs its/\IsTup s.heap a its.toArray/\xs.length<=sizeLine:=by
 rcases h with h | ⟨o,its,n,hk,hc,hs,hz,r⟩
 ·obtain ⟨z,its,r,p⟩:=h.ok I.hok;exact ⟨its,r,p,z⟩
 ·refine ⟨its.toList,r,⟨o,I.kIn a o hk,hc,n,by simpa using hs⟩,?_⟩;have e:=r.length;simp only[Array.length_toList] at e
  lia
theorem Inv.list_inj (I:Inv X pins σ H s) (h:bB X.K H a xs) (h':bB X.K H a ys):xs=ys:=by
 obtain ⟨its,r,⟨o,n,e,_,_,d⟩,_⟩:=I.list h;obtain ⟨its',r',⟨o',n',e',_,_,d'⟩,_⟩:=I.list h';rw[e] at e';cases e';rw[d] at d';injection d' with d1 _
 have:its=its':=by simpa using congrArg Array.toList d1
 subst this;exact r.inj r'
theorem Inv.tuple_inj (I:Inv X pins σ H s) (h:mL X.K H a xs) (h':mL X.K H a ys):xs=ys:=by
 obtain ⟨its,r,⟨o,e,_,n,d⟩,_⟩:=I.tuple h;obtain ⟨its',r',⟨o',e',_,n',d'⟩,_⟩:=I.tuple h';rw[e] at e';cases e';rw[d] at d';injection d' with d1 _
 have:its=its':=by simpa using congrArg Array.toList d1
 subst this;exact r.inj r'
end
abbrev Cx.wish (X:Cx) (E:Value->Shared->Prop):Cx:={ X with xe:=E }
abbrev Cx.nox (X:Cx):Cx:=X.wish λ_ _=>False
theorem Cx.Ok.wish {X:Cx} (ok:X.Ok) (E:Value->Shared->Prop):(X.wish E).Ok :=
 ⟨ok.mod,ok.kind,ok.glob,ok.blt,ok.above,ok.inj,ok.has,ok.cab,ok.hd,ok.frames,ok.stk,ok.exf,ok.bs,ok.bsz,ok.noex,ok.exfs,ok.funs,ok.frf⟩
theorem Cx.Ok.unwish {X:Cx} (ok:(X.wish E).Ok):X.Ok :=
 ⟨ok.mod,ok.kind,ok.glob,ok.blt,ok.above,ok.inj,ok.has,ok.cab,ok.hd,ok.frames,ok.stk,ok.exf,ok.bs,ok.bsz,ok.noex,ok.exfs,ok.funs,ok.frf⟩
section
variable {X:Cx} {pins:List (Addr×Obj)} {σ:St} {H:Hp} {s:Shared} {E:Value->Shared->Prop}
theorem Inv.wish (I:Inv X pins σ H s) (E:Value->Shared->Prop):Inv (X.wish E) pins σ H s:=⟨I.ok.wish E,I.os,I.bare,I.base,I.loc,I.cell,I.free,I.freeC,I.pin,I.hok,I.len⟩
theorem Inv.unwish (I:Inv (X.wish E) pins σ H s):Inv X pins σ H s:=⟨I.ok.unwish,I.os,I.bare,I.base,I.loc,I.cell,I.free,I.freeC,I.pin,I.hok,I.len⟩
theorem SP.unwish (h:SP (X.wish E) pins D f s'):SP X pins D f s':=by
 cases f with
 | next=>obtain ⟨σ',H',I,q⟩:=h;exact ⟨σ',H',I.unwish,q⟩
 | brk=>obtain ⟨σ',H',I,q⟩:=h;exact ⟨σ',H',I.unwish,q⟩
 | cont=>obtain ⟨σ',H',I,q⟩:=h;exact ⟨σ',H',I.unwish,q⟩
 | ret u=>obtain ⟨v,σ',H',I,r,q⟩:=h;exact ⟨v,σ',H',I.unwish,r,q⟩
theorem JZ.nox {st:List Stmt} (h:JZ X.nox st t):JZ X st t:=λpins s σ H D I hw =>
 wpAny_mono (h pins s σ H D (I.wish _) hw) (λ_ _ q=>q.unwish) λ_ _ z=>False.elim z
end
section
variable {X:Cx} {st:Stmt} {rest:List Stmt} {t u:TS} {e:Expr} {te:TE} {pos:Pos}
def Se:TS:=λD σ H=>D.nx σ H
def UT (t u:TS):TS:=λD σ H=>t { D with nx:=u D } σ H
theorem bK:JZ X [] Se:=λ_ _ σ H _ I h=>wpAny_execs_nil ⟨σ,H,I,h⟩
theorem ao (h1:PS X st t) (h2:JZ X rest u):JZ X (st :: rest) (UT t u):=by
 intro pins s σ H D I h;refine wpAny_execs_cons (iw (h1 pins s σ H { D with nx:=u D } I h) λf s1 q=>?_);cases f with
 | next =>
  obtain ⟨σ',H',I',q⟩:=q;exact h2 pins s1 σ' H' D I' q
 | ret v=>exact q
 | brk=>exact q
 | cont=>exact q
theorem ax (h1:PS X st t):JZ X [st] t:=by
 intro pins s σ H D I h;refine wpAny_execs_cons (iw (h1 pins s σ H D I h) λf s1 q=>?_);cases f with
 | next=>exact wpAny_execs_nil q
 | ret v=>exact q
 | brk=>exact q
 | cont=>exact q
theorem Inv.quiet {σ:St} (I:Inv X pins σ H s):interactive X.env=false:=by simp [interactive,I.ok.kind]
def Sg (te:TE):TS:=λD σ H=>te σ H λ_ H1=>D.nx σ H1
theorem fO (he:PE X e te) (hs:swapsWith e none pos.line X.env=pure false:=by rfl):PS X (.Expr e pos) (Sg te):=by
 intro pins s σ H D I h;exact wpAny_Expr_any (iw (he pins s σ H _ I h) λv s1 ⟨x,H1,I1,r1,q1⟩=>⟨σ,H1,I1,q1⟩) I.quiet hs
def UU (te:TE):TS:=λD σ H=>te σ H D.rt
theorem aK (he:PE X e te):PS X (.Return (some e) pos) (UU te):=by
 intro pins s σ H D I h;exact wpAny_Return_some (iw (he pins s σ H _ I h) λv s1 ⟨x,H1,I1,r1,q1⟩=>⟨x,σ,H1,I1,r1,q1⟩)
def U0 (c:TT) (t u:TS):TS:=λD σ H=>c σ H λb H1=>if b=true then t D σ H1 else u D σ H1
theorem cV (hc:PT X c tc) (ha:JZ X a t) (hb:JZ X b u):PS X (.If c a b pos) (U0 tc t u):=by
 intro pins s σ H D I h;refine wpAny_If (iw (hc pins s σ H _ I h) λd s1 ⟨H1,I1,q1⟩=>?_);cases d with
 | true=>exact ha pins s1 σ H1 D I1 q1
 | false=>exact hb pins s1 σ H1 D I1 q1
end
abbrev TG:=V->St->Hp->(St->Hp->Prop)->Prop
abbrev PY:=List V->St->Hp->(St->Hp->Prop)->Prop
def PG (X:Cx) (target:Expr) (t:TG):Prop :=
 ∀(pins:List (Addr×Obj)) (s:Shared) (σ:St) (H:Hp) (v:V) (u:Value) (Q:St->Hp->Prop),Inv X pins σ H s->RelV v u->t v σ H Q →
  wpAny (model X.prog X.w) X.A (assign target X.env u) (λ_ s'=>∃σ' H',Inv X pins σ' H' s'/\Q σ' H') X.xe s
def VJ (X:Cx) (ts:List Expr) (t:PY):Prop :=
 ∀(pins:List (Addr×Obj)) (s:Shared) (σ:St) (H:Hp) (vs:List V) (us:List Value) (Q:St->Hp->Prop),Inv X pins σ H s->cX vs us->t vs σ H Q →
  wpAny (model X.prog X.w) X.A (assignInOrder ((assignEach ts X.env).map (·.2)) us) (λ_ s'=>∃σ' H',Inv X pins σ' H' s'/\Q σ' H') X.xe s
abbrev K8:=V->V->V->Hp->(Hp->Prop)->Prop
def Ux (X:Cx) (t:K8):Prop :=
 ∀(pins:List (Addr×Obj)) (s:Shared) (σ:St) (H:Hp) (o i v:V) (ov iv u:Value) (Q:Hp->Prop),Inv X pins σ H s->RelV o ov->RelV i iv->RelV v u->t o i v H Q →
  wpAny (model X.prog X.w) X.A (setItem ov iv u) (λ_ s'=>∃H',Inv X pins σ H' s'/\Q H') X.xe s
abbrev VI:=V->V->Hp->VK->Prop
def PIp (X:Cx) (op:Operator) (t:VI):Prop :=
 ∀(pins:List (Addr×Obj)) (s:Shared) (σ:St) (H:Hp) (x y:V) (v u:Value) (Q:VK),Inv X pins σ H s->RelV x v->RelV y u->t x y H Q →
  wpAny (model X.prog X.w) X.A (inplaceOp op v u) (EP X pins σ Q) X.xe s
section
variable {X:Cx} {pos:Pos}
def EV (i:Nat):TG:=λv σ H Q=>Q (σ.set i (some v)) H
theorem Q6 {i:Nat} {x:Str} (hN:X.N.Nodup) (hi:X.N[i]?=some x:=by exact rfl) (hx:Loc X.env.scope x:=by exact Or.inl rfl) (hf:X.fn x=true\/X.env.scope.names.lookup x=some .local:=by first | exact .inl rfl | exact .inr rfl | assumption):PG X (.Name x pos) (EV i):=by
 intro pins s σ H v u Q I r h;exact wpAny_assign_Name (xy I hN hi hx r (λs' I'=>⟨_,H,I',h⟩) hf)
def VD:PY:=λvs σ H Q=>vs=[]/\Q σ H
def SE (t:TG) (u:PY):PY:=λvs σ H Q=>∃v r,vs=v :: r/\t v σ H λσ' H'=>u r σ' H' Q
theorem gE:VJ X [] VD:=by
 intro pins s σ H vs us Q I r h;obtain ⟨e,h⟩:=h;subst e;cases r;exact assignInOrder_nil ⟨σ,H,I,h⟩
theorem b6 {e:Expr} {es:List Expr} {t:TG} {u:PY} (h1:PG X e t) (h2:VJ X es u)
  (hs:(assignEach (e :: es) X.env).map (·.2)=assign e X.env :: (assignEach es X.env).map (·.2):=by rfl):VJ X (e :: es) (SE t u):=by
 intro pins s σ H vs us Q I r h;obtain ⟨v,vr,e1,h⟩:=h;subst e1;cases r with
 | cons r rr =>
  rw[hs];refine assignInOrder_cons (iw (h1 pins s σ H _ _ _ I r h) λ_ s1 ⟨σ1,H1,I1,q1⟩=>?_);exact h2 pins s1 σ1 H1 _ _ Q I1 rr q1
def Uo (K:FG9) (n:Nat) (t:PY):TG:=λv σ H Q=>∃a xs,v=.ref a/\mL K H a xs/\xs.length=n/\t xs σ H Q
theorem o6 {es:List Expr} {k:Nat} {t:PY} {n:Nat} (hc:X.calm=true) (h:VJ X es t)
  (hn:(assignEach es X.env).length=n:=by rfl) (hst:(assignEach es X.env).findIdx? (·.1)=none:=by rfl):PG X (.Tuple es k pos) (Uo X.K n t):=by
 intro pins s σ H v u Q I r hw;obtain ⟨a,xs,e1,hq,hl,hw⟩:=hw;subst e1;cases r;obtain ⟨its,rv,ht,hz⟩:=I.tuple hq;refine assign_Tuple_tuple (I.ok.hd hc) ht (by simp [hn,<- hl,rv.length]) hst λh' hx=>?_
 have I1:Inv X pins σ H { s with heap:=h' }:=I.kept (t':=s.toks) λb o e=>hx b o (c7 (Heap.lt_size e)) e
 exact h pins _ σ H xs _ Q I1 (by simpa using rv) hw
def VC (to ti:TE) (t:K8):TG:=λv σ H Q=>to σ H λo H1=>ti σ H1 λi H2=>t o i v H2 λH3=>Q σ H3
theorem iG {o i : Expr} {to ti : TE} {t : K8} (ho : PE X o to) (hi : PE X i ti) (hs : Ux X t)
    (ha : ∀ v, assign (.Subscript o i pos) X.env v = (do
      let ov <- holding [v] (eval o X.env)
      let iv <- holding [v, ov] (eval i X.env)
      standAt pos
      holding [v, ov, iv] (setItem ov iv v)
      release [v, ov, iv] []) := by intro _; rfl) : PG X (.Subscript o i pos) (VC to ti t) := by
  intro pins s σ H v u Q I r h;rw [ha];refine wpAny_bind (wpAny_holding (iw (ho pins s σ H _ I h) λov s1 ⟨x, H1, I1, r1, q1⟩ => ?_));refine wpAny_bind (wpAny_holding (iw (hi pins s1 σ H1 _ I1 q1) λiv s2 ⟨y, H2, I2, r2, q2⟩ => ?_));refine wpAny_bind (wpAny_standAt (wpAny_bind (wpAny_holding (iw (hs pins s2 σ H2 x y v ov iv u _ I2 r1 r2 r q2) λ_ s3 ⟨H3, I3, q3⟩ => ?_))));exact wpAny_release ⟨σ, H3, I3, q3⟩
def NU (te:TE) (g:TG):TS:=λD σ H=>te σ H λx H1=>g x σ H1 D.nx
theorem fG {tg e:Expr} {te:TE} {g:TG} (he:PE X e te) (hg:PG X tg g) (hs:swapsWithSole [tg] e pos.line X.env=pure false:=by rfl) (hw:swappedStores [tg] e X.env=pure none:=by rfl)
  (h1:(assignEach [tg] X.env).map (·.2)=[assign tg X.env]:=by rfl):PS X (.Assign [tg] e pos) (NU te g):=by
 intro pins s σ H D I h;refine wpAny_Assign_stores (iw (he pins s σ H _ I h) λv s1 ⟨x,H1,I1,r1,q1⟩=>?_) hs hw;rw[h1];exact iw (hg pins s1 σ H1 x v _ I1 r1 q1) λ_ s2 q=>q
theorem TV {i:Nat} {x:Str} {e:Expr} {te:TE} {pos':Pos} (hN:X.N.Nodup) (hi:X.N[i]?=some x) (hx:Loc X.env.scope x) (he:PE X e te) (hs:swapsWith e (some (.Name x pos')) pos.line X.env=pure false:=by rfl) (hf:X.fn x=true\/X.env.scope.names.lookup x=some .local:=by first | exact .inl rfl | exact .inr rfl | assumption) :
  PS X (.Assign [.Name x pos'] e pos) (NU te (EV i)):=by
 intro pins s σ H D I h;refine wpAny_Assign_Name (iw (he pins s σ H _ I h) λv s1 ⟨y,H1,I1,r1,q1⟩=>?_) hs;exact xy I1 hN hi hx r1 (λs2 I2=>⟨_,H1,I2,q1⟩) hf
def UW (i j:Nat) (ta:TA):TS:=λD σ H=>ta σ H λvs H1=>∃v w,vs=[v,w]/\D.nx ((σ.set i (some v)).set j (some w)) H1
theorem OB {i j:Nat} {x y:Str} {a b:Expr} {ta:TA} {px py pt:Pos} {kt k2 pt2} (hc:X.calm=true) (hN:X.N.Nodup) (hi:X.N[i]?=some x) (hj:X.N[j]?=some y) (hij:i≠j)
  (hx:X.env.scope.names.lookup x=some .local) (hy:X.env.scope.names.lookup y=some .local) (ha:PA X [a,b] ta)
  (hw:swappedStores [.Tuple [.Name x px,.Name y py] kt pt] (.Tuple [a,b] k2 pt2) X.env=pure (some [x,y]))
  (hs:swapsWithSole [.Tuple [.Name x px,.Name y py] kt pt] (.Tuple [a,b] k2 pt2) pos.line X.env=pure false:=by rfl) :
  PS X (.Assign [.Tuple [.Name x px,.Name y py] kt pt] (.Tuple [a,b] k2 pt2) pos) (UW i j ta):=by
 intro pins s σ H D I h;rw[exec_Assign_arm];refine wpAny_bind (wpAny_standAt ?_);rw[hs];refine wpAny_bind (wpAny_pure ?_);rw[if_neg (by decide)];refine wpAny_bind (Tuple_ (iw (ha _ pins s σ H _ I h) λus s1 ⟨vs,H1,I1,r1,q1⟩=>?_));obtain ⟨v,w,e1,q1⟩:=q1;subst e1
 obtain ⟨u1,u2,rfl,rv,rw'⟩:∃u1 u2,us=[u1,u2]/\RelV v u1/\RelV w u2:=by
  cases r1 with
  | cons p q =>
   cases q with
   | cons p' q' =>
    cases q';exact ⟨_,_,rfl,p,p'⟩
 refine wpAny_newObj_type ?_ (by show 2<=sizeLine;decide);have I2:Inv X pins σ H1 { s1 with heap:=s1.heap.push { cls:=.type "tuple",data:=.seq [u1,u2].toArray } }:=I1.kept (t':=s1.toks) λb o e=>Heap.get?_push_of_some _ e
 rw[hw];refine wpAny_bind (wpAny_pure ?_);show wpAny (model X.prog X.w) X.A (do rule "assign.swapped-stores";let items <- unpackItems (.ref s1.heap.objs.size) 2 none;assignInOrder [λv=>bindName X.env y v,λv=>bindName X.env x v] items.reverse;pure Flow.next) _ _ _
 refine wpAny_bind (wpAny_rule (wpAny_bind (unpackItems_tuple (items:=#[u1,u2]) (I.ok.hd hc) (IsTup.new s1.heap _) λh' hx'=>?_)));have I3:=I2.kept (h':=h') (t':=s1.toks) λb o e=>hx' b o (c7 (Heap.lt_size e)) e
 show wpAny _ _ (assignInOrder [λv=>bindName X.env y v,λv=>bindName X.env x v] [u2,u1] >>= λ_=>pure Flow.next) _ _ _
 refine wpAny_bind (assignInOrder_cons (wpAny_bindName (xy I3 hN hj (.inl hy) rw' (λs2 I4=>?_) (.inr hy))));refine assignInOrder_cons (wpAny_bindName (xy I4 hN hi (.inl hx) rv (λs3 I5=>assignInOrder_nil (wpAny_pure ?_)) (.inr hx)));rw[List.set_comm _ _ (Ne.symm hij)] at I5;exact ⟨_,H1,I5,q1⟩
def Sh (to ti te:TE) (tget:V->V->Hp->VK->Prop) (tip:VI) (tset:K8):TS:=λD σ H=>to σ H λo H1=>ti σ H1 λi H2=>tget o i H2 λx H3=>te σ H3 λy H4=>tip x y H4 λz H5=>tset o i z H5 λH6=>D.nx σ H6
def VL (X:Cx) (t:V->V->Hp->VK->Prop):Prop :=
 ∀(pins:List (Addr×Obj)) (s:Shared) (σ:St) (H:Hp) (o i:V) (ov iv:Value) (Q:VK),Inv X pins σ H s->RelV o ov->RelV i iv->t o i H Q →
  wpAny (model X.prog X.w) X.A (getItem ov iv) (EP X pins σ Q) X.xe s
theorem Q4 {o i e:Expr} {to ti te:TE} {tget:V->V->Hp->VK->Prop} {tip:VI} {tset:K8} {op:Operator} {tpos:Pos} (ho:PE X o to) (hi:PE X i ti) (hg:VL X tget) (he:PE X e te) (hp:PIp X op tip) (hs:Ux X tset)
  (ha:∀ov iv new,augStore i ov iv new=(do holding [new,ov,iv] (setItem ov iv new);release [new,ov,iv] [];pure .next):=by intros;rfl):PS X (.AugAssign (.Subscript o i tpos) op e pos) (Sh to ti te tget tip tset):=by
 intro pins s σ H D I h;refine wpAny_AugAssign_SubscriptAny (iw (ho pins s σ H _ I h) λov s1 ⟨x1,H1,I1,r1,q1⟩=>?_) ha;refine iw (hi pins s1 σ H1 _ I1 q1) λiv s2 ⟨x2,H2,I2,r2,q2⟩=>?_
 refine iw (hg pins s2 σ H2 x1 x2 ov iv _ I2 r1 r2 q2) λold s3 ⟨x3,H3,I3,r3,q3⟩=>?_
 refine iw (he pins s3 σ H3 _ I3 q3) λv s4 ⟨x4,H4,I4,r4,q4⟩=>?_
 refine iw (hp pins s4 σ H4 x3 x4 old v _ I4 r3 r4 q4) λnew s5 ⟨x5,H5,I5,r5,q5⟩=>?_
 exact iw (hs pins s5 σ H5 x1 x2 x5 ov iv new _ I5 r1 r2 r5 q5) λ_ s6 ⟨H6,I6,q6⟩=>⟨σ,H6,I6,q6⟩
def ipI (f:Int->Int->Int):VI:=λx y H Q=>∃i j,x=.int i/\y=.int j/\Q (.int (f i j)) H
theorem Ui:PIp X .Add (ipI λi j=>i+j):=by
 intro pins s σ H x y v u Q I r1 r2 h;obtain ⟨i,j,e1,e2,q⟩:=h;subst e1;subst e2;obtain ⟨t,rfl⟩:=r1;obtain ⟨t',rfl⟩:=r2;exact iadd_int ⟨.int _,H,I.tok _,⟨_,rfl⟩,q⟩
end
section
variable {X:Cx} {pos:Pos}
def NR (c:TT) (tb:TS):TS:=λD σ H=>∃W:Nat->St->Hp->Prop,(∃m,W m σ H)/\∀m σ H,W m σ H →
 c σ H λb H1=>if b=true then ∃N:St->Hp->Prop,(∀σ' H',N σ' H'->∃m',m' < m/\W m' σ' H')/\tb { D with nx:=N,ct:=N,bk:=D.nx } σ H1 else D.nx σ H1
theorem Cs (hp:PassesOwn (model X.prog X.w) X.A X.env X.xe) (hc:PT X c tc) (hb:JZ X body tb):PS X (.While c body [] pos) (NR tc tb):=by
 intro pins s σ H D I h;obtain ⟨W,⟨m0,w0⟩,turn⟩:=h;refine wpAny_While (codeAny_whileLoop (λn s'=>∃σ' H',Inv X pins σ' H' s'/\W n σ' H') ?_ m0 ⟨σ,H,I,w0⟩);rintro n s1 ⟨σ1,H1,I1,w1⟩;refine wpAny_passesOwn hp (iw (hc pins s1 σ1 H1 _ I1 (turn n σ1 H1 w1)) λb s2 ⟨H2,I2,q2⟩=>?_);cases b with
 | true =>
  obtain ⟨N,hN,q2⟩:=q2;rw[if_pos rfl];refine wpAny_passesOwn hp (iw (hb pins s2 σ1 H2 _ I2 q2) λf s3 q3=>?_);cases f with
  | next =>
   obtain ⟨σ3,H3,I3,n3⟩:=q3;obtain ⟨m',hm,w3⟩:=hN σ3 H3 n3;exact ⟨m',hm,σ3,H3,I3,w3⟩
  | cont =>
   obtain ⟨σ3,H3,I3,n3⟩:=q3;obtain ⟨m',hm,w3⟩:=hN σ3 H3 n3;exact ⟨m',hm,σ3,H3,I3,w3⟩
  | brk=>exact q3
  | ret v=>exact q3
 | false =>
  rw[if_neg bh];exact wpAny_execs_nil ⟨σ1,H2,I2,q2⟩
end
structure It where
 go:Nat->Hp->Prop
 yld:Nat->Hp->V->Hp->Prop
 stop:Nat->Hp->Prop
def lJ (X:Cx) (pins:List (Addr×Obj)) (H:Hp) (b:Addr):Prop :=
 H b=none/\b≠X.env.locals/\b∉X.fs/\(b∈X.ex\/X.s₀.heap.objs.size<=b)/\(∀x c,X.env.cells.lookup x=some c->c≠b)/\∀p∈X.pn++pins,p.1≠b
theorem Inv.fpOk {σ:St} {b:Addr} (I:Inv X pins σ H s) (hb:s.heap.objs.size<=b) (hn:H' b=none):lJ X pins H' b:=by
 refine ⟨hn,Mp (bD I.lt hb),I.nofs hb,.inr (ah I.sz hb),λx c e z=>?_,λp hp z=>?_⟩
 ·obtain ⟨v,q⟩:=I.cell x c e;exact absurd (bD q.lt (by rw[z];exact hb)) (dQ _)
 ·exact absurd (bD (Heap.lt_size (I.pin p hp).1) (by rw[z];exact hb)) (dQ _)
structure Turn (P:Program) (w:World) (K:FG9) (tg:Expr) (J:It) (fp:List Addr) (it:Addr) (tn:Nat->Heap->Prop):Prop where
 mem:it∈fp
 obj:∀i h,tn i h->∀b∈fp,∃o,h.get? b=some o/\∀v,o.data≠.cell v
 keep:∀i h h',tn i h->(∀b∈fp,∀o,h.get? b=some o->h'.get? b=some o)->tn i h'
 item:∀(X:Cx),X.prog=P->X.w=w->X.K=K->X.calm=true->∀(i:Nat) (pins:List (Addr×Obj)) (s:Shared) (σ:St) (H:Hp) (E:Value->Shared->Prop),Inv X pins σ H s->(∀b∈fp,lJ X pins H b)->tn i s.heap->J.go i H →
  wpAny (model P w) X.A (pyNext (.ref it)) (λr s1=>∃u,r=some u /\
   wpAny (model P w) X.A (letOwnedTupleGo tg (.ref it) u) (λ_ s2=>∃x H',Inv X pins σ H' s2/\RelV x u/\J.yld i H x H'/\tn (i+1) s2.heap/\∀b∈fp,H' b=none) E s1) E s
 done:∀(X:Cx),X.prog=P->X.w=w->X.K=K->X.calm=true->∀(i:Nat) (pins:List (Addr×Obj)) (s:Shared) (σ:St) (H:Hp) (E:Value->Shared->Prop),Inv X pins σ H s->(∀b∈fp,lJ X pins H b)->tn i s.heap->J.stop i H →
  wpAny (model P w) X.A (pyNext (.ref it)) (λr s1=>r=none/\Inv X pins σ H s1) E s
 self:∀(A:Around) (i:Nat) (s:Shared) (Q:Value->Shared->Prop) (E:Value->Shared->Prop),tn i s.heap->Q (.ref it) s->wpAny (model P w) A (pyIter (.ref it)) Q E s
abbrev TI:=St->Hp->(It->Hp->Prop)->Prop
def PIE (X:Cx) (pins:List (Addr×Obj)) (σ:St) (tg:Expr) (R:It->Hp->Prop) (itv:Value) (s2:Shared):Prop :=
 ∃(it:Addr) (fp:List Addr) (tn:Nat->Heap->Prop) (J:It) (H':Hp),itv=.ref it/\Inv X pins σ H' s2/\Turn X.prog X.w X.K tg J fp it tn/\tn 0 s2.heap/\(∀b∈fp,lJ X pins H' b)/\R J H'
def PI (X:Cx) (tg iter:Expr) (wi:TI):Prop :=
 ∀(pins:List (Addr×Obj)) (s:Shared) (σ:St) (H:Hp) (R:It->Hp->Prop),Inv X pins σ H s->wi σ H R →
  wpAny (model X.prog X.w) X.A (eval iter X.env) (λv s1=>wpAny (model X.prog X.w) X.A (pyIter v) (PIE X pins σ tg R) X.xe s1) X.xe s
theorem O7 (ho:s.heap.get? it=some o) (hc:o.cls=.type n) (hd:o.data=.fields vs)
  (hn:["enumerate","zip","dict_itemiterator","dict_reverseitemiterator","odict_iterator","itertools.zip_longest","itertools.pairwise"].contains n=false) (hQ:Q () s):wpAny M A (letOwnedTupleGo tg (.ref it) u) Q E s:=by
 unfold letOwnedTupleGo
 cases tg <;> first
  | exact wpAny_pure hQ
  | (cases u <;> first | exact wpAny_pure hQ | (refine wpAny_bind (wpAny_load ho ?_);rw[hc,hd];show wpAny M A (if (["enumerate","zip","dict_itemiterator","dict_reverseitemiterator","odict_iterator","itertools.zip_longest","itertools.pairwise"].contains n && vs[0]? == some (rawInt _))=true then _ else _) Q E s;rw[if_neg (by intro h;rw[hn,Bool.false_and] at h;cases h)];exact wpAny_pure hQ))
def RW (K:FG9) (a:Addr):It :=
 ⟨λi H=>∃xs x,bB K H a xs/\xs[i]?=some x,λi H x H'=>H'=H/\∀xs,bB K H a xs->xs[i]?=some x,λi H=>∃xs,bB K H a xs/\xs.length<=i⟩
def UI (K:FG9) (a:Addr):It :=
 ⟨λi H=>∃xs x,mL K H a xs/\xs[i]?=some x,λi H x H'=>H'=H/\∀xs,mL K H a xs->xs[i]?=some x,λi H=>∃xs,mL K H a xs/\xs.length<=i⟩
def JK (lo:Int) (n:Nat):It:=⟨λi _=>i < n,λi H x H'=>H'=H/\x=.int (lo+i),λi _=>n<=i⟩
theorem Mr {P:Program} {w:World} {K:FG9} {tg:Expr} (a it:Addr):Turn P w K tg (RW K a) [it] it (λi h=>h.IsListIter it a i) where
 mem:=by simp
 obj:=λi h st b hb=>by
  have e:b=it:=by simpa using hb
  subst e;obtain ⟨o,e,c,d⟩:=st;exact ⟨o,e,λv z=>by rw[d] at z;cases z⟩
 keep:=λi h h' st k=>st.at λo e=>k it (by simp) o e
 item:=by
  intro X hP hw hK hc i pins s σ H E I hf st hg;subst hP hw hK;obtain ⟨xs,x,hq,hx⟩:=hg;obtain ⟨its,rv,p,hz⟩:=I.list hq;obtain ⟨u,hu,ru⟩:=rv.get hx;obtain ⟨f0,f1,f2,f3,f4,f5⟩:=hf it (by simp);refine wpAny_pyNext_list_item st p.isList (x:=u) (by simpa using hu) λh' st' sb=>?_
  have I1:Inv X pins σ H { s with heap:=h' }:=I.turned (t':=s.toks) (λb o hb e=>(sb.2 b hb).trans e) f0 f1 f3 f4 f5;obtain ⟨o,e,c,d⟩:=id st';exact ⟨u,rfl,O7 (s:={ s with heap:=h' }) e c d (by decide) ⟨x,H,I1,ru,⟨rfl,λys hy=>by rw[I.list_inj hy hq];exact hx⟩,st',λb hb=>(hf b hb).1⟩⟩
 done:=by
  intro X hP hw hK hc i pins s σ H E I hf st hg;subst hP hw hK;obtain ⟨xs,hq,hx⟩:=hg;obtain ⟨its,rv,p,hz⟩:=I.list hq;obtain ⟨f0,f1,f2,f3,f4,f5⟩:=hf it (by simp);have hl:=rv.length;exact wpAny_pyNext_list_end (I.ok.hd hc) st p.isList (by simp;lia) λh' eb=>⟨rfl,I.turned (t':=s.toks) (λb o hb e=>eb b o hb e) f0 f1 f3 f4 f5⟩
 self:=λ_ _ _ _ _ st h=>wpAny_pyIter_listiter st h
theorem Kc {P:Program} {w:World} {K:FG9} {tg:Expr} (a it:Addr):Turn P w K tg (UI K a) [it] it (λi h=>h.IsTupleIter it a i) where
 mem:=by simp
 obj:=λi h st b hb=>by
  have e:b=it:=by simpa using hb
  subst e;obtain ⟨o,e,c,d⟩:=st;exact ⟨o,e,λv z=>by rw[d] at z;cases z⟩
 keep:=λi h h' st k=>st.at λo e=>k it (by simp) o e
 item:=by
  intro X hP hw hK hc i pins s σ H E I hf st hg;subst hP hw hK;obtain ⟨xs,x,hq,hx⟩:=hg;obtain ⟨its,rv,p,hz⟩:=I.tuple hq;obtain ⟨u,hu,ru⟩:=rv.get hx;obtain ⟨f0,f1,f2,f3,f4,f5⟩:=hf it (by simp);refine wpAny_pyNext_tuple_item st (show s.heap.IsTuple a its.toArray from p) (x:=u) (by simpa using hu) λh' st' sb=>?_
  have I1:Inv X pins σ H { s with heap:=h' }:=I.turned (t':=s.toks) (λb o hb e=>(sb.2 b hb).trans e) f0 f1 f3 f4 f5;obtain ⟨o,e,c,d⟩:=id st';exact ⟨u,rfl,O7 (s:={ s with heap:=h' }) e c d (by decide) ⟨x,H,I1,ru,⟨rfl,λys hy=>by rw[I.tuple_inj hy hq];exact hx⟩,st',λb hb=>(hf b hb).1⟩⟩
 done:=by
  intro X hP hw hK hc i pins s σ H E I hf st hg;subst hP hw hK;obtain ⟨xs,hq,hx⟩:=hg;obtain ⟨its,rv,p,hz⟩:=I.tuple hq;obtain ⟨f0,f1,f2,f3,f4,f5⟩:=hf it (by simp);have hl:=rv.length;exact wpAny_pyNext_tuple_end (I.ok.hd hc) st (show s.heap.IsTuple a its.toArray from p) (by simp;lia) λh' eb=>⟨rfl,I.turned (t':=s.toks) (λb o hb e=>eb b o hb e) f0 f1 f3 f4 f5⟩
 self:=λ_ _ _ _ _ st h=>wpAny_pyIter_tupleiter st h
theorem Kd {P:Program} {w:World} {K:FG9} {tg:Expr} (it:Addr) (lo:Int) (n:Nat):Turn P w K tg (JK lo n) [it] it (λi h=>IsRangeIter h it (lo+(i:Nat)*1) ((n:Int) - (i:Nat)) 1) where
 mem:=by simp
 obj:=λi h st b hb=>by
  have e:b=it:=by simpa using hb
  subst e
  exact ⟨_,st,λv z=>by
   have z':Data.fields _=Data.cell v:=z;cases z'⟩
 keep:=λi h h' st k=>k it (by simp) _ st
 item:=by
  intro X hP hw hK hc i pins s σ H E I hf st hg;subst hP hw hK;obtain ⟨f0,f1,f2,f3,f4,f5⟩:=hf it (by simp);have W:=Walks.range (prog:=X.prog) (w:=X.w) (I.ok.hd hc) it lo 1 n;refine W.item i s _ _ hg st λv h' tk hv st' kk=>?_
  obtain ⟨t,rfl⟩:=hv;have I1:Inv X pins σ H { s with heap:=h',toks:=tk }:=I.turned (λb o hb e=>kk b o (by simpa using hb) e) f0 f1 f3 f4 f5;refine ⟨_,rfl,O7 (s:={ s with heap:=h',toks:=tk }) (n:="range_iterator") st' rfl rfl (by decide) ⟨.int (lo+i),H,I1,⟨t,?_⟩,⟨rfl,rfl⟩,st',λb hb=>(hf b hb).1⟩⟩;rw[Int.mul_one]
 done:=by
  intro X hP hw hK hc i pins s σ H E I hf st hg;subst hP hw hK;obtain ⟨f0,f1,f2,f3,f4,f5⟩:=hf it (by simp);exact wpAny_pyNext_range_end (I.ok.hd hc) st (by have:n<=i:=hg;lia) λh' eb=>⟨rfl,I.turned (t':=s.toks) (λb o hb e=>eb b o hb e) f0 f1 f3 f4 f5⟩
 self:=λ_ _ _ _ _ st h=>wpAny_pyIter_rangeiter st h
section
variable {X:Cx} {tg:Expr}
def O5 (K:FG9) (tl:TE):TI:=λσ H R=>tl σ H λx H1=>∃a,x=.ref a/\(∃xs,bB K H1 a xs)/\R (RW K a) H1
def VA (K:FG9) (tl:TE):TI:=λσ H R=>tl σ H λx H1=>∃a,x=.ref a/\(∃xs,mL K H1 a xs)/\R (UI K a) H1
theorem cA (hl:PE X l tl):PI X tg l (O5 X.K tl):=by
 intro pins s σ H R I h;refine iw (hl pins s σ H _ I h) λv s1 ⟨x,H1,I1,r1,q1⟩=>?_
 obtain ⟨a,e,⟨xs,hq⟩,q⟩:=q1;subst e;cases r1;obtain ⟨its,rv,p,hz⟩:=I1.list hq;refine wpAny_pyIter_list p.isList ?_;refine ⟨s1.heap.objs.size,[s1.heap.objs.size],_,_,H1,rfl,I1.kept (t':=s1.toks) λb o e=>Heap.get?_push_of_some _ e,Mr a _,⟨_,Heap.get?_push_size _ rfl,rfl,rfl⟩,λb hb=>?_,q⟩;have e:b=s1.heap.objs.size:=by simpa using hb
 subst e;exact I1.fpOk (ar _) (I1.hok.fresh (ar _))
theorem TY (hl:PE X l tl):PI X tg l (VA X.K tl):=by
 intro pins s σ H R I h;refine iw (hl pins s σ H _ I h) λv s1 ⟨x,H1,I1,r1,q1⟩=>?_
 obtain ⟨a,e,⟨xs,hq⟩,q⟩:=q1;subst e;cases r1;obtain ⟨its,rv,p,hz⟩:=I1.tuple hq;refine wpAny_pyIter_tuple (show s1.heap.IsTuple a its.toArray from p) ?_;refine ⟨s1.heap.objs.size,[s1.heap.objs.size],_,_,H1,rfl,I1.kept (t':=s1.toks) λb o e=>Heap.get?_push_of_some _ e,Kc a _,⟨_,Heap.get?_push_size _ rfl,rfl,rfl⟩,λb hb=>?_,q⟩;have e:b=s1.heap.objs.size:=by simpa using hb
 subst e;exact I1.fpOk (ar _) (I1.hok.fresh (ar _))
theorem IP {σ:St} {lo hi:Int} (I:Inv X pins σ H s) (h1:-(2^62)<=lo) (h2:lo < 2^62) (h3:-(2^62)<=hi) (h4:hi < 2^62)
  (q:R (JK lo (hi - lo).toNat) H):wpAny (model X.prog X.w) X.A (pyIter (.ref s.heap.objs.size)) (PIE X pins σ tg R) E { s with heap:=s.heap.push { cls:=.type "range",data:=.fields #[.int lo t,.int hi u,.int 1 v] },toks:=tk }:=by
 refine wpAny_pyIter_range (IsRange.new ..) (small_one h1 h2 h3 h4) ?_;have I1:Inv X pins σ H { s with heap:=s.heap.push { cls:=.type "range",data:=.fields #[.int lo t,.int hi u,.int 1 v] },toks:=tk }:=I.kept λb o e=>Heap.get?_push_of_some _ e
 refine ⟨(s.heap.push { cls:=.type "range",data:=.fields #[.int lo t,.int hi u,.int 1 v] }).objs.size,[(s.heap.push { cls:=.type "range",data:=.fields #[.int lo t,.int hi u,.int 1 v] }).objs.size],_,_,H,rfl,
  I1.kept (t':=tk) λb o e=>Heap.get?_push_of_some _ e,Kd _ lo (hi - lo).toNat,?_,λb hb=>?_,q⟩
 ·have e1:lo+((0:Nat):Int)*1=lo:=by simp
  have e2:(((hi - lo).toNat:Nat):Int) - ((0:Nat):Int)=Builtin.Range.rangeSize lo hi 1:=by rw[rangeSize_one];split <;> lia
  show IsRangeIter _ _ (lo+((0:Nat):Int)*1) ((((hi - lo).toNat:Nat):Int) - ((0:Nat):Int)) 1
  rw[e1,e2];exact Heap.get?_push_size _ rfl
 ·have e:b=(s.heap.push { cls:=.type "range",data:=.fields #[.int lo t,.int hi u,.int 1 v] }).objs.size:=by simpa using hb
  subst e;exact I1.fpOk (ar _) (I1.hok.fresh (ar _))
def Sy (ta:TA):TI:=λσ H R=>ta σ H λvs H1=>∃j:Int,vs=[.int j]/\-(2^62)<=j/\j < 2^62/\R (JK 0 j.toNat) H1
def Sx (ta:TA):TI:=λσ H R=>ta σ H λvs H1=>∃i j:Int,vs=[.int i,.int j]/\(-(2^62)<=i/\i < 2^62/\-(2^62)<=j/\j < 2^62)/\R (JK i (j - i).toNat) H1
theorem cp {a:Expr} {ta:TA} {p pos:Pos} (hg:Gl X "range") (hm:X.mg "range"=none) (ha:PA X [a] ta) (hs:starEach [a] X.env=[(false,eval a X.env)]:=by rfl):PI X tg (.Call (.Name "range" p) [a] [] pos) (Sy ta):=by
 intro pins s σ H R I h;refine Call_ (nZ I hg hm boot_range (PyProof.Rows.callWith_type1 (iw (ha pos pins s σ H _ I h) λus s1 ⟨vs,H1,I1,r1,q1⟩=>?_) hs rfl));obtain ⟨j,e,q1,q2,q⟩:=q1;subst e;cases r1 with
 | cons r rr =>
  cases rr;obtain ⟨t,rfl⟩:=r;exact call_range_1 (IP I1 (by lia) (by lia) q1 q2 (by simpa using q))
theorem MJ {a b:Expr} {ta:TA} {p pos:Pos} (hg:Gl X "range") (hm:X.mg "range"=none) (ha:PA X [a,b] ta) (hs:starEach [a,b] X.env=[(false,eval a X.env),(false,eval b X.env)]:=by rfl) (hs2:starEach [b] X.env=[(false,eval b X.env)]:=by rfl) :
  PI X tg (.Call (.Name "range" p) [a,b] [] pos) (Sx ta):=by
 intro pins s σ H R I h;refine Call_ (nZ I hg hm boot_range (PyProof.Rows.callWith_type1 (iw (ha pos pins s σ H _ I h) λus s1 ⟨vs,H1,I1,r1,q1⟩=>?_) (by rw[hs,hs2]) (by rw[hs2];rfl)));obtain ⟨i,j,e,⟨q1,q2,q3,q4⟩,q⟩:=q1;subst e;cases r1 with
 | cons r rr =>
  cases rr with
  | cons r' rr =>
   cases rr;obtain ⟨t,rfl⟩:=r;obtain ⟨t',rfl⟩:=r';exact call_range_2 (IP I1 q1 q2 q3 q4 q)
def U1 (wi:TI) (g:TG) (tb:TS):TS:=λD σ H=>wi σ H λJ H1=>∃W:Nat->Nat->St->Hp->Prop,(∃m,W 0 m σ H1)/\∀i m σ H,W i m σ H →
 (J.stop i H/\D.nx σ H)\/(J.go i H/\∃N:St->Hp->Prop,(∀σ' H',N σ' H'->∃m',m' < m/\W (i+1) m' σ' H')/\∀x H',J.yld i H x H'->g x σ H' λσ2 H2=>tb { D with nx:=N,ct:=N,bk:=D.nx } σ2 H2)
def Cv (fp:List Addr) (h:Heap):List (Addr×Obj):=fp.filterMap λb=>(h.get? b).map λo=>(b,o)
theorem rQ (hb:b∈fp) (e:h.get? b=some o):(b,o)∈Cv fp h:=List.mem_filterMap.mpr ⟨b,hb,by rw[e];rfl⟩
theorem MQ (hp:p∈Cv fp h):p.1∈fp/\h.get? p.1=some p.2:=by
 obtain ⟨b,hb,e⟩:=List.mem_filterMap.mp hp;cases q:h.get? b with
 | none=>rw[q] at e;cases e
 | some o =>
  rw[q] at e;have e':(b,o)=p:=bS e;subst e';exact ⟨hb,q⟩
theorem Inv.pinned {σ:St} (I:Inv X pins σ H s) (hf:∀b∈fp,lJ X pins H b) (ho:∀b∈fp,∃o,s.heap.get? b=some o/\∀v,o.data≠.cell v):Inv X (pins++Cv fp s.heap) σ H s :=
 I.pins_of λp hp=>(av.mp hp).elim (λz=>I.pin p (cb _ z)) λz=>by
  obtain ⟨hb,e⟩:=MQ z;obtain ⟨f0,f1,f2,_⟩:=hf p.1 hb;obtain ⟨o,e',d⟩:=ho p.1 hb;rw[e] at e';cases e';exact ⟨e,f0,f1,f2,d⟩
theorem Inv.unpinned {σ:St} (I:Inv X (pins++pl) σ H s):Inv X pins σ H s:=I.pins_of λp hp=>I.pin p (cb _ (sZ _ hp))
theorem dw {iter:Expr} {body:List Stmt} {wi:TI} {g:TG} {tb:TS} {pos:Pos} (hp:PassesOwn (model X.prog X.w) X.A X.env X.xe) (hc:X.calm=true) (hi:PI X tg iter wi) (hg:PG X tg g) (hb:JZ X body tb)
  (hs:∀x,foldedSetIterable iter X.env x=pure x:=by intro _;rfl):PS X (.For tg iter body [] pos) (U1 wi g tb):=by
 intro pins s σ H D I h;refine wpAny_For (iw (hi pins s σ H _ I h) λv s1 h1=>iw h1 λitv s2 h2=>?_) hs;obtain ⟨it,fp,tn,J,H2,e,I2,T,st2,f2,W,⟨m0,w0⟩,turn⟩:=h2;subst e;have stat:∀{H':Hp},(∀b∈fp,H' b=none)->∀b∈fp,lJ X pins H' b:=λhn b hb=>⟨hn b hb,(f2 b hb).2⟩
 refine codeAny_forLoop_any (λn s'=>∃i σ' H',Inv X pins σ' H' s'/\tn i s'.heap/\(∀b∈fp,H' b=none)/\W i n σ' H') ?_ m0 ⟨0,σ,H2,I2,st2,λb hb=>(f2 b hb).1,w0⟩;rintro n s3 ⟨i,σ3,H3,I3,st3,fr3,w3⟩;rcases turn i n σ3 H3 w3 with ⟨stop,qn⟩ | ⟨go,N,hN,step⟩
 ·refine wpAny_passesOwn hp (iw (T.done X rfl rfl rfl hc i pins s3 σ3 H3 X.xe I3 (stat fr3) st3 stop) λr s4 ⟨hr,I4⟩=>?_);subst hr;exact wpAny_execs_nil ⟨σ3,H3,I4,qn⟩
 ·refine wpAny_passesOwn hp (iw (T.item X rfl rfl rfl hc i pins s3 σ3 H3 X.xe I3 (stat fr3) st3 go) λr s4 ⟨u,hr,h4⟩=>?_);subst hr;refine wpAny_passesOwn hp (iw h4 λ_ s5 ⟨x,H5,I5,r5,y5,st5,fr5⟩=>?_);have I5':=I5.pinned (stat fr5) (T.obj _ _ st5);refine wpAny_passesOwn hp (iw (hg _ s5 σ3 H5 x u _ I5' r5 (step x H5 y5)) λ_ s6 ⟨σ6,H6,I6,q6⟩=>?_);refine wpAny_passesOwn hp (iw (hb _ s6 σ6 H6 _ I6 q6) λf s7 q7=>?_)
  have again:∀{σ7:St} {H7:Hp},Inv X (pins++Cv fp s5.heap) σ7 H7 s7->N σ7 H7->∃m,m < n/\∃i σ' H',Inv X pins σ' H' s7/\tn i s7.heap/\(∀b∈fp,H' b=none)/\W i m σ' H':=λ{σ7 H7} I7 n7=>by
   obtain ⟨m',hm,w7⟩:=hN σ7 H7 n7;refine ⟨m',hm,i+1,σ7,H7,I7.unpinned,T.keep _ _ _ st5 λb hb o e=>(I7.pin (b,o) (cb _ (cb _ (rQ hb e)))).1,λb hb=>?_,w7⟩;obtain ⟨o,e,d⟩:=T.obj _ _ st5 b hb;exact (I7.pin (b,o) (cb _ (cb _ (rQ hb e)))).2.1
  cases f with
  | next=>obtain ⟨σ7,H7,I7,n7⟩:=q7;exact again I7 n7
  | cont=>obtain ⟨σ7,H7,I7,n7⟩:=q7;exact again I7 n7
  | brk=>obtain ⟨σ7,H7,I7,q7⟩:=q7;exact ⟨σ7,H7,I7.unpinned,q7⟩
  | ret v=>obtain ⟨x7,σ7,H7,I7,r7,q7⟩:=q7;exact ⟨x7,σ7,H7,I7.unpinned,r7,q7⟩
end
theorem gL {K:FG9} {g:TG} {tb:TS} {D:Ends} (Pv:Nat->St->Hp->Prop) (h0:Pv 0 σ H) (hl:∀i σ H,i<=xs.length->Pv i σ H->bB K H a xs)
  (hs:∀i x σ H,xs[i]?=some x->Pv i σ H->g x σ H λσ2 H2=>tb { D with nx:=Pv (i+1),ct:=Pv (i+1),bk:=D.nx } σ2 H2) (hd:∀σ H,Pv xs.length σ H->D.nx σ H) :
  ∃W:Nat->Nat->St->Hp->Prop,(∃m,W 0 m σ H)/\∀i m σ H,W i m σ H →
   ((RW K a).stop i H/\D.nx σ H)\/((RW K a).go i H/\∃N:St->Hp->Prop,(∀σ' H',N σ' H'->∃m',m' < m/\W (i+1) m' σ' H')/\∀x H',(RW K a).yld i H x H'->g x σ H' λσ2 H2=>tb { D with nx:=N,ct:=N,bk:=D.nx } σ2 H2):=by
 refine ⟨λi m σ H=>m=xs.length - i/\i<=xs.length/\Pv i σ H,⟨xs.length,by simp,a7 _,h0⟩,?_⟩;rintro i m σ H ⟨rfl,hi,p⟩;have q:=hl i σ H hi p;by_cases hlt:i < xs.length
 ·refine .inr ⟨⟨xs,xs[i],q,by simp [hlt]⟩,Pv (i+1),λσ' H' p'=>⟨xs.length - (i+1),by lia,rfl,hlt,p'⟩,λx H' y=>?_⟩;obtain ⟨e,y⟩:=y;subst e;exact hs i x σ _ (y xs q) p
 ·have e:i=xs.length:=by lia
  subst e;exact .inl ⟨⟨xs,q,ar _⟩,hd σ H p⟩
theorem RA {K:FG9} {g:TG} {tb:TS} {D:Ends} (Pv:Nat->St->Hp->Prop) (h0:Pv 0 σ H) (hl:∀i σ H,i<=xs.length->Pv i σ H->mL K H a xs)
  (hs:∀i x σ H,xs[i]?=some x->Pv i σ H->g x σ H λσ2 H2=>tb { D with nx:=Pv (i+1),ct:=Pv (i+1),bk:=D.nx } σ2 H2) (hd:∀σ H,Pv xs.length σ H->D.nx σ H) :
  ∃W:Nat->Nat->St->Hp->Prop,(∃m,W 0 m σ H)/\∀i m σ H,W i m σ H →
   ((UI K a).stop i H/\D.nx σ H)\/((UI K a).go i H/\∃N:St->Hp->Prop,(∀σ' H',N σ' H'->∃m',m' < m/\W (i+1) m' σ' H')/\∀x H',(UI K a).yld i H x H'->g x σ H' λσ2 H2=>tb { D with nx:=N,ct:=N,bk:=D.nx } σ2 H2):=by
 refine ⟨λi m σ H=>m=xs.length - i/\i<=xs.length/\Pv i σ H,⟨xs.length,by simp,a7 _,h0⟩,?_⟩;rintro i m σ H ⟨rfl,hi,p⟩;have q:=hl i σ H hi p;by_cases hlt:i < xs.length
 ·refine .inr ⟨⟨xs,xs[i],q,by simp [hlt]⟩,Pv (i+1),λσ' H' p'=>⟨xs.length - (i+1),by lia,rfl,hlt,p'⟩,λx H' y=>?_⟩;obtain ⟨e,y⟩:=y;subst e;exact hs i x σ _ (y xs q) p
 ·have e:i=xs.length:=by lia
  subst e;exact .inl ⟨⟨xs,q,ar _⟩,hd σ H p⟩
theorem EW {lo:Int} {g:TG} {tb:TS} {D:Ends} (Pv:Nat->St->Hp->Prop) (h0:Pv 0 σ H)
  (hs:∀i σ H,i < n->Pv i σ H->g (.int (lo+i)) σ H λσ2 H2=>tb { D with nx:=Pv (i+1),ct:=Pv (i+1),bk:=D.nx } σ2 H2) (hd:∀σ H,Pv n σ H->D.nx σ H) :
  ∃W:Nat->Nat->St->Hp->Prop,(∃m,W 0 m σ H)/\∀i m σ H,W i m σ H →
   ((JK lo n).stop i H/\D.nx σ H)\/((JK lo n).go i H/\∃N:St->Hp->Prop,(∀σ' H',N σ' H'->∃m',m' < m/\W (i+1) m' σ' H')/\∀x H',(JK lo n).yld i H x H'->g x σ H' λσ2 H2=>tb { D with nx:=N,ct:=N,bk:=D.nx } σ2 H2):=by
 refine ⟨λi m σ H=>m=n - i/\i<=n/\Pv i σ H,⟨n,by simp,a7 _,h0⟩,?_⟩;rintro i m σ H ⟨rfl,hi,p⟩;by_cases hlt:i < n
 ·refine .inr ⟨hlt,Pv (i+1),λσ' H' p'=>⟨n - (i+1),by lia,rfl,hlt,p'⟩,λx H' y=>?_⟩;obtain ⟨e,y⟩:=y;subst e y;exact hs i σ _ hlt p
 ·have e:i=n:=by lia
  subst e;exact .inl ⟨ar _,hd σ H p⟩
abbrev R2:=V->V->Hp->VK->Prop
def yW (X:Cx) (f:Value->Value->Sem Value) (r:R2):Prop :=
 ∀(pins:List (Addr×Obj)) (s:Shared) (σ:St) (H:Hp) (x y:V) (v u:Value) (Q:VK),Inv X pins σ H s->RelV x v->RelV y u->r x y H Q →
  wpAny (model X.prog X.w) X.A (f v u) (EP X pins σ Q) X.xe s
def Ws (X:Cx) (f:Value->Sem Value) (r:V->Hp->VK->Prop):Prop :=
 ∀(pins:List (Addr×Obj)) (s:Shared) (σ:St) (H:Hp) (x:V) (v:Value) (Q:VK),Inv X pins σ H s->RelV x v->r x H Q →
  wpAny (model X.prog X.w) X.A (f v) (EP X pins σ Q) X.xe s
def sW (X:Cx) (f:Value) (r:List V->Hp->VK->Prop):Prop :=
 ∀(pins:List (Addr×Obj)) (s:Shared) (σ:St) (H:Hp) (xs:List V) (us:List Value) (Q:VK),Inv X pins σ H s->cX xs us->r xs H Q →
  wpAny (model X.prog X.w) X.A (call f us) (EP X pins σ Q) X.xe s
def UX (r:R2) (ta tb:TE):TE:=λσ H Q=>ta σ H λx H1=>tb σ H1 λy H2=>r x y H2 Q
def VZ (r:V->Hp->VK->Prop) (ta:TE):TE:=λσ H Q=>ta σ H λx H1=>r x H1 Q
def rI (C:Int->Int->Prop) (g:Int->Int->V):R2:=λx y H Q=>∃i j,x=.int i/\y=.int j/\C i j/\Q (g i j) H
def Q1 (g:Int->Int->V):R2:=λx y H Q=>∃i j,x=.int i/\y=.int j/\Q (g i j) H
def rU (g:Int->V):V->Hp->VK->Prop:=λx H Q=>∃i,x=.int i/\Q (g i) H
section
variable {X:Cx} {a b c:Expr} {ta tb tc:TE} {pos:Pos}
theorem Uw (ha:PE X a ta) (hb:PE X b tb) {σ:St} {R:V->V->Hp->Prop} (I:Inv X pins σ H s)
  (h:ta σ H λx H1=>tb σ H1 λy H2=>R x y H2) {f:Value->Value->Sem Value}
  (hf:∀v u s2 x y H2,Inv X pins σ H2 s2->RelV x v->RelV y u->R x y H2->wpAny (model X.prog X.w) X.A (f v u) Q X.xe s2) :
  wpAny (model X.prog X.w) X.A (eval a X.env) (λv s₁=>wpAny (model X.prog X.w) X.A (eval b X.env) (λu s₂=>wpAny (model X.prog X.w) X.A (f v u) Q X.xe s₂) X.xe s₁) X.xe s:=by
 refine iw (ha pins s σ H _ I h) λv s1 ⟨x,H1,I1,r1,q1⟩=>?_
 refine iw (hb pins s1 σ H1 _ I1 q1) λu s2 ⟨y,H2,I2,r2,q2⟩=>?_
 exact hf v u s2 x y H2 I2 r1 r2 q2
theorem bF (ho:yW X (binaryOp op) r) (ha:PE X a ta) (hb:PE X b tb):PE X (.BinOp a op b pos) (UX r ta tb):=by
 intro pins s σ H Q I h;exact wpAny_BinOp (Uw ha hb I h λv u s2 x y H2 I2 rx ry q=>ho pins s2 σ H2 x y v u Q I2 rx ry q)
theorem xO (ho:Ws X (unaryOp op) r) (ha:PE X a ta):PE X (.UnaryOp op a pos) (VZ r ta):=by
 intro pins s σ H Q I h;exact UnaryOp_ (iw (ha pins s σ H _ I h) λv s1 ⟨x,H1,I1,r1,q1⟩=>ho pins s1 σ H1 x v Q I1 r1 q1)
theorem Wk {g:Int->Int->Int}
  (rule:∀(i j:Int) (t u:Tok) (s:Shared) (Q:Value->Shared->Prop) (E:Value->Shared->Prop),C i j->Q (.int (g i j) s.toks) { s with toks:=s.toks+1 }->wpAny (model X.prog X.w) X.A (f (.int i t) (.int j u)) Q E s) :
  yW X f (rI C λi j=>.int (g i j)):=by
 intro pins s σ H x y v u Q I rx ry h;obtain ⟨i,j,rfl,rfl,hc,q⟩:=h;obtain ⟨t,rfl⟩:=rx;obtain ⟨t',rfl⟩:=ry;exact rule i j t t' s _ _ hc ⟨.int (g i j),H,I.tok _,⟨_,rfl⟩,q⟩
theorem Vo {g:Int->Int->Int}
  (rule:∀(i j:Int) (t u:Tok) (s:Shared) (Q:Value->Shared->Prop) (E:Value->Shared->Prop),Q (.int (g i j) s.toks) { s with toks:=s.toks+1 }->wpAny (model X.prog X.w) X.A (f (.int i t) (.int j u)) Q E s) :
  yW X f (Q1 λi j=>.int (g i j)):=by
 intro pins s σ H x y v u Q I rx ry h;obtain ⟨i,j,rfl,rfl,q⟩:=h;obtain ⟨t,rfl⟩:=rx;obtain ⟨t',rfl⟩:=ry;exact rule i j t t' s _ _ ⟨.int (g i j),H,I.tok _,⟨_,rfl⟩,q⟩
theorem Rh {g:Int->Int->Bool}
  (rule:∀(i j:Int) (t u:Tok) (s:Shared) (Q:Value->Shared->Prop) (E:Value->Shared->Prop),Q (.bool (g i j)) s->wpAny (model X.prog X.w) X.A (f (.int i t) (.int j u)) Q E s) :
  yW X f (Q1 λi j=>.bl (g i j)):=by
 intro pins s σ H x y v u Q I rx ry h;obtain ⟨i,j,rfl,rfl,q⟩:=h;obtain ⟨t,rfl⟩:=rx;obtain ⟨t',rfl⟩:=ry;exact rule i j t t' s _ _ ⟨.bl (g i j),H,I,rfl,q⟩
def UB (i j:Int):Prop:=(-(2^64) < i/\i < 2^64)\/(-(2^64) < j/\j < 2^64)
theorem UB.ok (h:UB i j):IntMulOk i j:=by
 rcases h with ⟨h1,h2⟩ | ⟨h1,h2⟩
 ·exact .of_left (intBits_le_64 h1 h2)
 ·exact .of_right (intBits_le_64 h1 h2)
theorem fI:yW X (binaryOp .Add) (Q1 λi j=>.int (i+j)):=Vo λ_ _ _ _ _ _ _ q=>add_int q
theorem nL:yW X (binaryOp .Sub) (Q1 λi j=>.int (i - j)):=Vo λ_ _ _ _ _ _ _ q=>sub_int q
theorem o7:yW X (binaryOp .Mod) (rI (λ_ j=>0 < j) λi j=>.int (i % j)):=Wk λi j _ _ _ _ _ hc q=>by
 have h1:(0:Int) < j:=hc;exact mod_int' (by lia) (by rw[Int.fmod_eq_emod_of_nonneg i (by lia)];exact q)
theorem Q9:yW X (binaryOp .Mod) (rI (λ_ j=>j≠0) λi j=>.int (i.fmod j)):=Wk λ_ _ _ _ _ _ _ hc q=>mod_int' hc q
theorem unI {g:Int->Int}
  (rule:∀(i:Int) (t:Tok) (s:Shared) (Q:Value->Shared->Prop) (E:Value->Shared->Prop),Q (.int (g i) s.toks) { s with toks:=s.toks+1 }->wpAny (model X.prog X.w) X.A (f (.int i t)) Q E s) :
  Ws X f (rU λi=>.int (g i)):=by
 intro pins s σ H x v Q I rx h;obtain ⟨i,rfl,q⟩:=h;obtain ⟨t,rfl⟩:=rx;exact rule i t s _ _ ⟨.int (g i),H,I.tok _,⟨_,rfl⟩,q⟩
theorem qJ:Ws X (unaryOp .USub) (rU λi=>.int (-i)):=unI λ_ _ _ _ _ q=>neg_int q
end
def U7:V->V->Bool
 | .non,.non=>true | .non,.int _=>true | .int _,.non=>true | .non,.bl _=>true | .bl _,.non=>true | .non,.str _=>true | .str _,.non=>true
 | .int _,.int _=>true | .bl _,.bl _=>true | .str _,.str _=>true | .byt _,.byt _=>true
 | .int _,.str _=>true | .str _,.int _=>true | .bl _,.str _=>true | .str _,.bl _=>true
 | _,_=>false
def Wj:R2:=λx y H Q=>U7 x y=true/\Q (.bl (decide (x=y))) H
def rNe:R2:=λx y H Q=>U7 x y=true/\Q (.bl (!decide (x=y))) H
theorem LU:decide (V.int i=V.int j)=(i == j):=by
 rw[mZ];simp
theorem Pp:decide (V.bl i=V.bl j)=(i == j):=by
 rw[mZ];simp
theorem LS:decide (V.str i=V.str j)=(i == j):=by
 rw[mZ];simp
theorem LV:decide (V.byt i=V.byt j)=(i.toList == j.toList):=by
 rw[mZ];cases i;cases j;simp
section
variable {X:Cx} {a b c:Expr} {ta tb tc:TE} {pos:Pos}
theorem dC {σ:St} (I:Inv X pins σ H s) (q:Q (.bl k) H) (e:k=k'):EP X pins σ Q (.bool k') s:=by
 subst e;exact ⟨.bl k,H,I,rfl,q⟩
theorem fo:yW X (compareOp .Eq) Wj:=by
 intro pins s σ H x y v u Q I rx ry h;obtain ⟨hs,q⟩:=h;cases x with
 | non =>
  cases rx;cases y with
  | non=>cases ry;exact PySem.EqNone.eq_none_none (dC I q (by simp))
  | bl j=>cases ry;exact PySem.EqNone.eq_none_bool (dC I q (by simp))
  | int j=>obtain ⟨t',rfl⟩:=ry;exact PySem.EqNone.eq_none_int (dC I q (by simp))
  | str j=>obtain ⟨t',rfl⟩:=ry;exact PySem.EqNone.eq_none_str (dC I q (by simp))
  | _=>exact absurd (show false=true from hs) bh
 | bl i =>
  cases rx;cases y with
  | non=>cases ry;exact PySem.EqNone.eq_bool_none (dC I q (by simp))
  | bl j=>cases ry;exact eq_bool (dC I q Pp)
  | str j=>obtain ⟨t',rfl⟩:=ry;exact PySem.EqMixed.eq_bool_str (dC I q (by simp))
  | _=>exact absurd (show false=true from hs) bh
 | int i =>
  obtain ⟨t,rfl⟩:=rx;cases y with
  | non=>cases ry;exact PySem.EqNone.eq_int_none (dC I q (by simp))
  | int j=>obtain ⟨t',rfl⟩:=ry;exact eq_int (dC I q LU)
  | str j=>obtain ⟨t',rfl⟩:=ry;exact PySem.EqMixed.eq_int_str (dC I q (by simp))
  | _=>exact absurd (show false=true from hs) bh
 | str i =>
  obtain ⟨t,rfl⟩:=rx;cases y with
  | non=>cases ry;exact PySem.EqNone.eq_str_none (dC I q (by simp))
  | bl j=>cases ry;exact PySem.EqMixed.eq_str_bool (dC I q (by simp))
  | int j=>obtain ⟨t',rfl⟩:=ry;exact PySem.EqMixed.eq_str_int (dC I q (by simp))
  | str j=>obtain ⟨t',rfl⟩:=ry;exact eq_str (dC I q LS)
  | _=>exact absurd (show false=true from hs) bh
 | byt i =>
  obtain ⟨t,rfl⟩:=rx;cases y with
  | byt j=>obtain ⟨t',rfl⟩:=ry;exact PySem.W.eq_bytes (dC I q LV)
  | _=>exact absurd (show false=true from hs) bh
 | _=>cases y <;> exact absurd (show false=true from hs) bh
theorem vJ:yW X (compareOp .NotEq) rNe:=by
 intro pins s σ H x y v u Q I rx ry h;obtain ⟨hs,q⟩:=h;cases x with
 | non =>
  cases rx;cases y with
  | non=>cases ry;exact PySem.EqNone.ne_none_none (dC I q (by simp))
  | bl j=>cases ry;exact PySem.EqNone.ne_none_bool (dC I q (by simp))
  | int j=>obtain ⟨t',rfl⟩:=ry;exact PySem.EqNone.ne_none_int (dC I q (by simp))
  | str j=>obtain ⟨t',rfl⟩:=ry;exact PySem.EqNone.ne_none_str (dC I q (by simp))
  | _=>exact absurd (show false=true from hs) bh
 | bl i =>
  cases rx;cases y with
  | non=>cases ry;exact PySem.EqNone.ne_bool_none (dC I q (by simp))
  | bl j=>cases ry;exact ne_bool (dC I q (congrArg not Pp))
  | str j=>obtain ⟨t',rfl⟩:=ry;exact PySem.EqMixed.ne_bool_str (dC I q (by simp))
  | _=>exact absurd (show false=true from hs) bh
 | int i =>
  obtain ⟨t,rfl⟩:=rx;cases y with
  | non=>cases ry;exact PySem.EqNone.ne_int_none (dC I q (by simp))
  | int j=>obtain ⟨t',rfl⟩:=ry;exact ne_int (dC I q (congrArg not LU))
  | str j=>obtain ⟨t',rfl⟩:=ry;exact PySem.EqMixed.ne_int_str (dC I q (by simp))
  | _=>exact absurd (show false=true from hs) bh
 | str i =>
  obtain ⟨t,rfl⟩:=rx;cases y with
  | non=>cases ry;exact PySem.EqNone.ne_str_none (dC I q (by simp))
  | bl j=>cases ry;exact PySem.EqMixed.ne_str_bool (dC I q (by simp))
  | int j=>obtain ⟨t',rfl⟩:=ry;exact PySem.EqMixed.ne_str_int (dC I q (by simp))
  | str j=>obtain ⟨t',rfl⟩:=ry;exact ne_str (dC I q (congrArg not LS))
  | _=>exact absurd (show false=true from hs) bh
 | byt i =>
  obtain ⟨t,rfl⟩:=rx;cases y with
  | byt j=>obtain ⟨t',rfl⟩:=ry;exact PySem.W.ne_bytes (dC I q (congrArg not LV))
  | _=>exact absurd (show false=true from hs) bh
 | _=>cases y <;> exact absurd (show false=true from hs) bh
theorem sJ:yW X (compareOp .Lt) (Q1 λi j=>.bl (decide (i < j))):=Rh λ_ _ _ _ _ _ _ q=>lt_int q
theorem Vn:yW X (compareOp .LtE) (Q1 λi j=>.bl (decide (i<=j))):=Rh λ_ _ _ _ _ _ _ q=>le_int q
theorem pT:yW X (compareOp .Gt) (Q1 λi j=>.bl (decide (j < i))):=Rh λ_ _ _ _ _ _ _ q=>gt_int q
theorem EJ:yW X (compareOp .GtE) (Q1 λi j=>.bl (decide (j<=i))):=Rh λ_ _ _ _ _ _ _ q=>ge_int q
theorem OG:yW X (compareOp .Is) (λx y H Q=>y=.non/\Q (.bl (decide (x=.non))) H):=by
 intro pins s σ H x y v u Q I rx ry h;obtain ⟨rfl,q⟩:=h;cases ry;refine is_none_gen (dC I q ?_)
 cases x <;> first
  | (cases rx;rfl)
  | (obtain ⟨t,rfl⟩:=rx;rfl)
theorem LA:yW X (compareOp .IsNot) (λx y H Q=>y=.non/\Q (.bl (!decide (x=.non))) H):=by
 intro pins s σ H x y v u Q I rx ry h;obtain ⟨rfl,q⟩:=h;cases ry;refine isnot_none_gen (dC I q ?_)
 cases x <;> first
  | (cases rx;rfl)
  | (obtain ⟨t,rfl⟩:=rx;rfl)
theorem be (b:Expr) {op:CmpOp} (h:op≠.In:=by decide) (h2:op≠.NotIn:=by decide):behindInMarks op b=false:=by
 have e1:(op == CmpOp.In)=false:=by cases op <;> first | rfl | exact absurd rfl h
 have e2:(op == CmpOp.NotIn)=false:=by cases op <;> first | rfl | exact absurd rfl h2
 cases b <;> simp [behindInMarks,e1,e2]
theorem jd (ho:yW X (compareOp op) r) (ha:PE X a ta) (hb:PE X b tb) (hm:behindInMarks op b=false):PE X (.Compare a [op] [b] pos) (UX r ta tb):=by
 intro pins s σ H Q I h;exact wpAny_Compare1 (Uw ha hb I h λv u s2 x y H2 I2 rx ry q=>ho pins s2 σ H2 x y v u Q I2 rx ry q) hm
def Sa (t:TE):TT:=λσ H Q=>t σ H λx H'=>∃k,x=.bl k/\Q k H'
theorem aV (ho:yW X (compareOp op) r) (ha:PE X a ta) (hb:PE X b tb) (hm:behindInMarks op b=false):PT X (.Compare a [op] [b] pos) (Sa (UX r ta tb)):=by
 intro pins s σ H Q I h
 refine wpAny_isTrue_Compare1 (iw (ha pins s σ H _ I h) λv s1 ⟨x,H1,I1,r1,q1⟩=>iw (hb pins s1 σ H1 _ I1 q1) λu s2 ⟨y,H2,I2,r2,q2⟩ =>
  iw (ho pins s2 σ H2 x y v u _ I2 r1 r2 q2) λc s3 ⟨z,H3,I3,r3,k,e,q3⟩=>?_) hm
 subst e;cases r3;exact wpAny_truthy_bool ⟨H3,I3,q3⟩
theorem CW:(sizeLine:Nat) < 2^63:=by rw[sizeLine_eq];decide
theorem vals1 (r:cX [x] us):∃u,us=[u]/\RelV x u:=by
 cases r with
 | cons r1 r2=>cases r2;exact ⟨_,rfl,r1⟩
theorem vals2 (r:cX [x,y] us):∃u w',us=[u,w']/\RelV x u/\RelV y w':=by
 cases r with
 | cons r1 r2 =>
  cases r2 with
  | cons r3 r4=>cases r4;exact ⟨_,_,rfl,r1,r3⟩
theorem Dm:sW X (.builtin "abs") (λxs H Q=>∃i,xs=[.int i]/\Q (.int (if i < 0 then -i else i)) H):=by
 intro pins s σ H xs us Q I r h;obtain ⟨i,rfl,q⟩:=h;obtain ⟨u,rfl,t,rfl⟩:=vals1 r;exact call_abs_int λu tk=>⟨.int (if i < 0 then -i else i),H,I.tok _,⟨_,rfl⟩,q⟩
theorem vv (hc:X.calm=true):sW X (.builtin "min") (λxs H Q=>∃i j,xs=[.int i,.int j]/\Q (.int (if j < i then j else i)) H):=by
 intro pins s σ H xs us Q I r h;obtain ⟨i,j,rfl,q⟩:=h;obtain ⟨u,w',rfl,⟨t,rfl⟩,⟨t',rfl⟩⟩:=vals2 r;refine min_two_ints (I.ok.hd hc) λh' tk k=>⟨_,H,I.kept k,?_,q⟩
 by_cases hj:j < i
 ·rw[if_pos hj,if_pos hj];exact ⟨_,rfl⟩
 ·rw[if_neg hj,if_neg hj];exact ⟨_,rfl⟩
end
structure Lb (h:Heap) (x dx C:Addr) (mA:Str->Option Value):Prop where
 obj:h.get? x=some (PySem.W.instObj C dx)
 ns:h.Ns1 dx mA
 ne:dx≠x
theorem MY {h:Heap} (n:h.Ns1 dx mA):∃od,h.get? dx=some od/\∀name,PySem.W.lookIn name od=some (mA name):=by
 obtain ⟨o,es,ep,ho,hd,hk,_,hm⟩:=n;refine ⟨o,ho,λname=>?_⟩;have e:=hm name;unfold nsFind findBy at e;rw[<- Array.find?_toList] at e;unfold PySem.W.lookIn;rw[hd]
 dsimp only
 split
 ·rename_i y q
  rw[q] at e;exact congrArg some e
 ·rename_i q
  rw[q] at e
  have a:es.toList.any (·.refKey)=false:=by
   rw[List.any_eq_false];intro y hy;obtain ⟨z,t,hkey⟩:=hk y (Array.mem_toList_iff.mp hy);simp [DictEntry.refKey,hkey]
  have a':¬es.toList.any (·.refKey)=true:=by rw[a];exact bh
  rw[if_neg a'];exact congrArg some e
theorem Lb.look (I:Lb h x dx C mA):∃od,PySem.W.InstAt h x (PySem.W.instObj C dx) C (some od)/\∀name,PySem.W.lookIn name od=some (mA name) :=
 let ⟨od,ho,hl⟩:=MY I.ns
 ⟨od,⟨I.obj,rfl,rfl,ho⟩,hl⟩
section
variable {prog:Program} {w:World} {A:Around} {E:Value->Shared->Prop} {s:Shared} {K:FG9} {x dx C f:Addr} {mA:Str->Option Value} {name:Str} {v:Value}
theorem get_map (X:K.In s.heap) (I:Lb s.heap x dx C mA) (hg:PySem.W.plainGet K C name=true) (hh:PySem.W.hasDictIn K C=true)
  (ha:PySem.W.findIn K (.ref C) name=some none) (hv:mA name=some v) (hv':PySem.W.handedIn v=true) (h:Q v { s with toks:=s.toks+1 }) :
  wpAny (model prog w) A (getAttr (.ref x) name expr) Q E s:=by
 obtain ⟨od,J,hl⟩:=I.look;exact PySem.W.get_value X J (HZ hg).1 (PySem.W.findObj_own hh ha rfl (by rw[hl,hv])) hv' h
theorem O8 (X:K.In s.heap) (I:Lb s.heap x dx C mA) (hg:PySem.W.plainGet K C name=true)
  (hf:PySem.W.findIn K (.ref C) name=some (some (.ref f))) (ht:PySem.W.isFn K (.ref f)=true) (hv:mA name=none) (h:Q (.ref f,[.ref x]) s) :
  wpAny (model prog w) A (getMethod (.ref x) name pl) Q E s:=by
 obtain ⟨od,J,hl⟩:=I.look;exact PySem.W.method_fn X J (HZ hg).1 (HZ hg).2 hf (beq_iff_eq.mp ht) (by show (PySem.W.lookIn name od).map (·.isSome)=some false;rw[hl,hv];rfl) h
theorem Qw (X:K.In s.heap) (I:Lb s.heap x dx C mA)
  (hs:PySem.W.findIn K (.ref C) "__setattr__"=some (some (.builtin "object.__setattr__"))) (hp:PySem.W.plainOver K C=true) (ht:PySem.W.takerIn K C name=some none) (hh:PySem.W.hasDictIn K C=true)
  (hw:PySem.Within mA ns) (hsz:ns.length<=sizeLine)
  (h:∀h',Lb h' x dx C (λy=>if y=name then some v else mA y)->Heap.SameBut dx s.heap h'->Q () { s with heap:=h',toks:=s.toks+2 }) :
  wpAny (model prog w) A (setAttr (.ref x) name v) Q E s:=by
 obtain ⟨od,J,hl⟩:=I.look;refine PySem.W.set_plain X J hs (PySem.W.osa_open (s:={ s with toks:=s.toks+1 }) (r:=none) X J hp ht λb=>?_);obtain ⟨cd,hc,hd'⟩:=PySem.W.any_some hh;have hx:s.heap.get? x=some ⟨.ref C,some dx,.plain,#[]⟩:=I.obj;refine wpAny_bind (wpAny_pure (wpAny_bind (wpAny_bind (wpAny_loadPart hx (wpAny_bind (PySem.W.Looks.here (s:={ s with toks:=s.toks+1 }) (PySem.W.looks_clsIn X hc) ?_))))));rw[hd'];refine wpAny_pure (a:=some dx) (wpAny_bind (wpAny_pure (wpAny_bind ?_)));refine wpAny_nsSet1 (s:={ s with toks:=s.toks+1 }) I.ns λh' hn2 hs2=>?_
 obtain ⟨oD,esD,epD,hoD,hdD,hcD⟩:=hn2.count (PySem.Within.cons name v hw);refine wpAny_bind (wpAny_lookBehind hoD (by rw[hdD];exact pastItsLine_dict (ah hcD (by rw[aZ];lia))) ?_);exact wpAny_pure (h _ ⟨(hs2.2 _ (Ne.symm I.ne)).trans I.obj,hn2,I.ne⟩ hs2)
theorem OU (X:K.In s.heap) (hm:PySem.W.makesIn K C=true)
  (hi:PySem.W.findIn K (.ref C) "__init__"=some (some (.ref f))) (hf:PySem.W.typeIn K (.ref f)=some (.type "function"))
  (h:codeAny (model prog w) (A.under (.builtin "type.__call__" ⟨.ref C :: vs,kw⟩)) (.call (.ref f) ⟨.ref (s.heap.objs.size+1) :: vs,kw⟩) (PySem.W.InitBack (s.heap.objs.size+1) R)
   { s with heap:=(s.heap.push PySem.W.emptyDict).push (PySem.W.instObj C s.heap.objs.size) }) :
  codeAny (model prog w) A (.call (.ref C) ⟨vs,kw⟩) R s:=by
 obtain ⟨hh,g,d,t,os⟩:=s;exact PySem.W.make_core (PySem.W.makes_of X hm) (PySem.W.looks_findIn X hi) (λself=>PySem.W.bind_fn X self hf) (.inl rfl) h
end
def cF (f:Str) (v:V):List (Str×V)->List (Str×V)
 | []=>[(f,v)]
 | (g,x) :: r=>if g=f then (g,v) :: r else (g,x) :: cF f v r
theorem bC (f g:Str) (v:V):∀fs:List (Str×V),(cF f v fs).lookup g=if g=f then some v else fs.lookup g
 | []=>by
  show List.lookup g [(f,v)]=_
  by_cases h:g=f
  ·have hb:(g == f)=true:=beq_iff_eq.mpr h;simp only[List.lookup,hb,if_pos h]
  ·have hb:(g == f)=false:=beq_eq_false_iff_ne.mpr h;simp only[List.lookup,hb,if_neg h]
 | (k,x) :: r=>by
  have ih:=bC f g v r;rw[show cF f v ((k,x) :: r)=(if k=f then (k,v) :: r else (k,x) :: cF f v r) from rfl];by_cases hk:k=f
  ·rw[if_pos hk];by_cases h:g=k
   ·have hb:(g == k)=true:=beq_iff_eq.mpr h;simp only[List.lookup,hb,if_pos (h.trans hk)]
   ·have hb:(g == k)=false:=beq_eq_false_iff_ne.mpr h;simp only[List.lookup,hb,if_neg (λe:g=f=>h (e.trans hk.symm))]
  ·rw[if_neg hk];by_cases h:g=k
   ·have hb:(g == k)=true:=beq_iff_eq.mpr h;simp only[List.lookup,hb,if_neg (λe:g=f=>hk (h.symm.trans e))]
   ·have hb:(g == k)=false:=beq_eq_false_iff_ne.mpr h;simp only[List.lookup,hb];exact ih
theorem zV (f:Str) (v:V):∀fs:List (Str×V),f∈(cF f v fs).map (·.1)/\∀g,g∈fs.map (·.1)->g∈(cF f v fs).map (·.1)
 | []=>⟨by simp [cF],λg h=>by simp at h⟩
 | (k,x) :: r=>by
  obtain ⟨i1,i2⟩:=zV f v r;rw[show cF f v ((k,x) :: r)=(if k=f then (k,v) :: r else (k,x) :: cF f v r) from rfl];by_cases hk:k=f
  ·rw[if_pos hk];subst hk;exact ⟨by simp,λg h=>by simpa using h⟩
  ·rw[if_neg hk];refine ⟨?_,λg h=>?_⟩
   ·rw[ib];exact bJ _ i1
   ·rw[ib] at h ⊢;rcases aH.mp h with e | e
    ·exact aH.mpr (.inl e)
    ·exact bJ _ (i2 g e)
theorem Aj (f:Str) (v:V):∀fs:List (Str×V),(cF f v fs).length<=fs.length+1
 | []=>by simp [cF]
 | (k,x) :: r=>by
  have ih:=Aj f v r;rw[show cF f v ((k,x) :: r)=(if k=f then (k,v) :: r else (k,x) :: cF f v r) from rfl];by_cases hk:k=f
  ·rw[if_pos hk,aZ,aZ];lia
  ·rw[if_neg hk,aZ,aZ];lia
theorem Eb.some_of (r:Eb (some v) o):∃u,o=some u/\RelV v u:=by
 cases o with
 | none=>exact (show False from r).elim
 | some u=>exact ⟨u,rfl,r⟩
theorem Eb.none_of (r:Eb none o):o=none:=by
 cases o with
 | none=>rfl
 | some u=>exact (show False from r).elim
theorem M7 (r:RelV v u):PySem.W.handedIn u=true:=by
 cases v with
 | non=>cases (show u=Value.none from r);rfl
 | bl b=>cases (show u=Value.bool b from r);rfl
 | int i=>obtain ⟨t,e⟩:=(show ∃t,u=Value.int i t from r);cases e;rfl
 | str x=>obtain ⟨t,e⟩:=(show ∃t,u=Value.str x t from r);cases e;rfl
 | byt b=>obtain ⟨t,e⟩:=(show ∃t,u=Value.bytes b t from r);cases e;rfl
 | flt b=>obtain ⟨t,e⟩:=(show ∃t,u=Value.float b t from r);cases e;rfl
 | ref a=>cases (show u=Value.ref a from r);rfl
 | ty n=>cases (show u=Value.type n from r);rfl
section
variable {P:Program} {w:World} {H H':Hp} {h h':Heap} {a C dx:Addr} {fs fs':List (Str×V)}
theorem Bu (hok:BC P w H h) (e:H a=some (.ins C dx fs)):∃mA,Lb h a dx C mA/\(∀f,Eb (fs.lookup f) (mA f))/\PySem.Within mA (fs.map (·.1))/\fs.length<=1000/\H dx=some (.own a):=by
 obtain ⟨d,z,ne,ob,mA,n,r,q⟩:=(show jY P w H h a (.ins C dx fs) from hok a _ e);exact ⟨mA,⟨ob,n,ne⟩,r,q,z,d⟩
end
structure Nu (K:FG9) (C:Addr):Prop where
 pg:PySem.W.plainGet K C Str.empty=true
 hd:PySem.W.hasDictIn K C=true
 po:PySem.W.plainOver K C=true
 sa:PySem.W.findIn K (.ref C) "__setattr__"=some (some (.builtin "object.__setattr__"))
theorem Nu.get {K:FG9} (c:Nu K C) (f:Str):PySem.W.plainGet K C f=true:=c.pg
def kG (K:FG9) (C:Addr) (f:Str):Prop:=PySem.W.findIn K (.ref C) f=some none
theorem kG.taker {K:FG9} (n:kG K C f):PySem.W.takerIn K C f=some none:=by
 unfold PySem.W.takerIn;rw[show PySem.W.findIn K (.ref C) f=some none from n];rfl
structure Nk (K:FG9) (C:Addr) (m:Str) (f:Addr):Prop where
 at_:PySem.W.findIn K (.ref C) m=some (some (.ref f))
 fn:PySem.W.isFn K (.ref f)=true
 kp:PySem.W.keepIn K (.ref f)=true
section
variable {X:Cx} {pins:List (Addr×Obj)} {σ:St} {H:Hp} {s:Shared} {a C dx:Addr} {fs:List (Str×V)} {f:Str} {v:V} {A:Around} {E:Value->Shared->Prop}
theorem KQ (I:Inv X pins σ H s) (e:H a=some (.ins C dx fs)) (c:Nu X.K C) (n:kG X.K C f) (l:fs.lookup f=some v)
  (h:∀u s',Inv X pins σ H s'->RelV v u->Q u s'):wpAny (model X.prog X.w) A (getAttr (.ref a) f b) Q E s:=by
 obtain ⟨mA,O,r,_,_,_⟩:=Bu I.hok e;obtain ⟨u,hu,ru⟩:=Eb.some_of (v:=v) (o:=mA f) (by rw[<- l];exact r f);exact get_map I.kIn O (c.get f) c.hd n hu (M7 ru) (h u _ (I.tok _) ru)
theorem C1 (I:Inv X pins σ H s) (e:H a=some (.ins C dx fs)) (c:Nu X.K C) (k:Nk X.K C m g) (l:fs.lookup m=none)
  (h:Q (.ref g,[.ref a]) s):wpAny (model X.prog X.w) A (getMethod (.ref a) m pl) Q E s:=by
 obtain ⟨mA,O,r,_,_,_⟩:=Bu I.hok e;have hn:mA m=none:=Eb.none_of (by rw[<- l];exact r m);exact O8 I.kIn O (c.get m) k.at_ k.fn hn h
theorem Kk (I:Inv X pins σ H s) (e:H a=some (.ins C dx fs)) (c:Nu X.K C) (n:kG X.K C f) (hl:fs.length < 1000) (ry:RelV y u)
  (h:∀s',Inv X pins σ (upd H a (.ins C dx (cF f y fs))) s'->Q () s'):wpAny (model X.prog X.w) A (setAttr (.ref a) f u) Q E s:=by
 obtain ⟨mA,O,r,wi,_,ho⟩:=Bu I.hok e;have hz:(fs.map (·.1)).length<=sizeLine:=by rw[ag,sizeLine_eq];lia
 refine Qw I.kIn O c.sa c.po n.taker c.hd wi hz λh' O' sb=>h _ ?_
 have hd:∃o,h'.get? dx=some o:=let ⟨o,_,_,e',_⟩:=O'.ns;⟨o,e'⟩
 refine I.write (x:=a) (e:=dx) (by rw[e];exact True.intro) (.inr ho) (λb q hb z=>(sb.2 b hb).trans z) hd ?_;refine ⟨by rw[bc O.ne];exact ho,?_,O.ne,O'.obj,_,O'.ns,λg=>?_,λg hg=>?_⟩
 ·have:=Aj f y fs;lia
 ·show Eb ((cF f y fs).lookup g) (if g=f then some u else mA g)
  rw[bC];by_cases q:g=f
  ·rw[if_pos q,if_pos q];exact ry
  ·rw[if_neg q,if_neg q];exact r g
 ·by_cases q:g=f
  ·rw[q];exact (zV f y fs).1
  ·refine (zV f y fs).2 g (wi g λz=>hg ?_);show (if g=f then some u else mA g)=none
   rw[if_neg q];exact z
theorem Inv.made (I:Inv X pins σ H s):Inv X pins σ (upd (upd H s.heap.objs.size (.own (s.heap.objs.size+1))) (s.heap.objs.size+1) (.ins C s.heap.objs.size []))
  { s with heap:=(s.heap.push PySem.W.emptyDict).push (PySem.W.instObj C s.heap.objs.size) }:=by
 have e1:(s.heap.push PySem.W.emptyDict).get? s.heap.objs.size=some PySem.W.emptyDict:=Heap.get?_push_size s.heap rfl
 have e2:((s.heap.push PySem.W.emptyDict).push (PySem.W.instObj C s.heap.objs.size)).get? (s.heap.objs.size+1)=some (PySem.W.instObj C s.heap.objs.size):=by
  have:=Heap.get?_push_size (s.heap.push PySem.W.emptyDict) (o:=PySem.W.instObj C s.heap.objs.size) rfl;rwa [Heap.size_push] at this
 have e3:(s.heap.push PySem.W.emptyDict).Ns s.heap.objs.size (λ_=>none):=⟨PySem.W.emptyDict,#[],_,e1,rfl,(λe he=>absurd he (by simp)),λ_=>rfl⟩;have I1:=I.laid (a:=s.heap.objs.size) (o:=.own (s.heap.objs.size+1)) (h':=s.heap.push PySem.W.emptyDict) (t':=s.toks) (λb u q=>Heap.get?_push_of_some _ q) (ar _) ⟨_,e1⟩;refine I1.laid (a:=s.heap.objs.size+1) (o:=.ins C s.heap.objs.size []) (t':=s.toks) (λb u q=>Heap.get?_push_of_some _ q) (Nat.le_of_eq (Heap.size_push _ _)) ?_;have ne:s.heap.objs.size≠s.heap.objs.size+1:=c7 (jm _);refine ⟨by rw[bc ne,aD],a7 _,ne,e2,λ_=>none,(Heap.Ns1.of_empty e3).at λo q=>Heap.get?_push_of_some _ q,λ_=>True.intro,λy hy=>absurd rfl hy⟩
theorem RT (hb:attributeBase e f env (eval e env)=eval e env)
  (h:wpAny (model prog w) A (eval e env) (λo s₁=>wpAny (model prog w) A (getAttr o f true) Q E s₁) E s):wpAny (model prog w) A (eval (.Attribute e f pos) env) Q E s :=
 Attribute_any_ h (by rw[arm_eval_Attribute,hb])
end
def S5 (K:FG9) (ta:TE) (f:Str):TE:=λσ H Q=>ta σ H λx H1=>∃a C dx fs v,x=.ref a/\H1 a=some (.ins C dx fs)/\Nu K C/\kG K C f/\fs.lookup f=some v/\Q v H1
def U9 (K:FG9) (ta tv:TE) (f:Str):TS:=λD σ H=>tv σ H λy H1=>ta σ H1 λx H2=>∃a C dx fs,x=.ref a/\H2 a=some (.ins C dx fs)/\Nu K C/\kG K C f/\fs.length < 1000 /\
 D.nx σ (upd H2 a (.ins C dx (cF f y fs)))
section
variable {X:Cx} {o e value:Expr} {f:Str} {pos pos' tpos:Pos} {ta tv:TE}
theorem fW (he:PE X e ta) (hb:attributeBase e f X.env (eval e X.env)=eval e X.env):PE X (.Attribute e f pos) (S5 X.K ta f):=by
 intro pins s σ H Q I h;refine RT hb (iw (he pins s σ H _ I h) λu s1 ⟨x,H1,I1,rx,a,C,dx,fs,v,ex,ea,c,n,l,q⟩=>?_);subst ex;obtain rfl:u=Value.ref a:=rx;exact KQ I1 ea c n l λu' s2 I2 ru=>⟨v,H1,I2,ru,q⟩
theorem zL (ha:PE X o ta) (hv:PE X value tv) (hs:swapsWith value (some (.Attribute o f pos')) pos.line X.env=pure false):PS X (.Assign [.Attribute o f pos'] value pos) (U9 X.K ta tv f):=by
 intro pins s σ H D I h;refine plainObj_wpAny_Assign_Attribute (iw (hv pins s σ H _ I h) λu s1 ⟨y,H1,I1,ry,q⟩=>iw (ha pins s1 σ H1 _ I1 q) λov s2 ⟨x,H2,I2,rx,a,C,dx,fs,ex,ea,c,n,l,q2⟩=>?_) hs;subst ex;obtain rfl:ov=Value.ref a:=rx;exact Kk I2 ea c n l ry λs3 I3=>⟨σ,_,I3,q2⟩
end
section
variable {X:Cx} {pins:List (Addr×Obj)} {σ:St} {H:Hp} {s:Shared} {A:Around} {E:Value->Shared->Prop} {Q:Value->Shared->Prop} {c:Value} {b:Bool}
inductive z5 (K:FG9) (H:Hp):V->Value->Prop where
 | non:z5 K H .non (.type "NoneType")
 | bl (x:Bool):z5 K H (.bl x) (.type "bool")
 | int (i:Int):z5 K H (.int i) (.type "int")
 | str (x:Str):z5 K H (.str x) (.type "str")
 | flt (x:UInt64):z5 K H (.flt x) (.type "float")
 | lst {a:Addr} {xs:List V} (e:H a=some (.lst xs)):z5 K H (.ref a) (.type "list")
 | frz {a:Addr} {o:Obj} {xs:List V} (e:H a=some (.frz o (.lst xs))):z5 K H (.ref a) (.type "list")
 | tup {a:Addr} {xs:List V} (e:H a=some (.tup xs)):z5 K H (.ref a) (.type "tuple")
 | dK {a:Addr} {kvs:List (Key×V)} (e:H a=some (.dK kvs)):z5 K H (.ref a) (.type "dict")
 | dT {a:Addr} {kvs:List (List Key×V)} (e:H a=some (.dT kvs)):z5 K H (.ref a) (.type "dict")
 | ins {a C dx:Addr} {fs:List (Str×V)} (e:H a=some (.ins C dx fs)) (cl:Nu K C) (ha:PySem.W.findIn K (.ref C) "__class__"=some (some (.builtin "object.__class__")))
   (hn:PySem.W.specialIn K (.builtin "object.__class__") "__get__"=some (some (.builtin "getset_descriptor.__get__"))) (htk:PySem.W.takesIn K (.builtin "object.__class__")=some true)
   (hm:PySem.W.mroIn K C (.type "object")=some true):z5 K H (.ref a) (.ref C)
theorem ET (I:Inv X pins σ H s) (rx:RelV x u) (ty:z5 X.K H x t) (e:PySem.W.kitOne X.K t c=some b) (h:∀tk,Q (.bool b) { s with toks:=tk }) :
  wpAny (model X.prog X.w) A (call (.builtin "isinstance") [u,c]) Q E s:=by
 cases ty with
 | non=>cases (show u=Value.none from rx);exact dI PySem.W.kitx_none I.kIn True.intro e (λz=>nomatch z) h
 | bl y=>cases (show u=Value.bool y from rx);exact dI PySem.W.kitx_bool I.kIn True.intro e (λz=>nomatch z) h
 | int i=>obtain ⟨t,q⟩:=(show ∃t,u=Value.int i t from rx);cases q;exact dI PySem.W.kitx_int I.kIn True.intro e (λz=>nomatch z) h
 | str y=>obtain ⟨t,q⟩:=(show ∃t,u=Value.str y t from rx);cases q;exact dI PySem.W.kitx_str I.kIn True.intro e (λz=>nomatch z) h
 | flt y=>obtain ⟨t,q⟩:=(show ∃t,u=Value.float y t from rx);cases q;exact dI PySem.W.kitx_float I.kIn True.intro e (λz=>nomatch z) h
 | @lst a xs ea =>
  cases (show u=Value.ref a from rx);obtain ⟨_,_,n,_,h1⟩:=(show jY X.prog X.w H s.heap a (.lst xs) from I.hok a _ ea);exact dI PySem.W.kitx_list I.kIn ⟨_,h1,rfl⟩ e (λz=>nomatch z) h
 | @frz a ob xs ea =>
  cases (show u=Value.ref a from rx);obtain ⟨_,_,_,n,_,h1⟩:=(show jY X.prog X.w H s.heap a (.frz ob (.lst xs)) from I.hok a _ ea);exact dI PySem.W.kitx_list I.kIn ⟨_,h1,rfl⟩ e (λz=>nomatch z) h
 | @tup a xs ea =>
  cases (show u=Value.ref a from rx);obtain ⟨_,_,_,p⟩:=(show jY X.prog X.w H s.heap a (.tup xs) from I.hok a _ ea);obtain ⟨o,h1,h2,_⟩:=p;exact dI PySem.W.kitx_tuple I.kIn ⟨o,h1,h2⟩ e (λz=>nomatch z) h
 | @dK a kvs ea =>
  cases (show u=Value.ref a from rx);obtain ⟨_,_,vs,_,p⟩:=(show jY X.prog X.w H s.heap a (.dK kvs) from I.hok a _ ea);obtain ⟨o,es,ep,h1,h2,_⟩:=p;exact dI PySem.W.kitx_dict I.kIn ⟨o,h1,h2.1⟩ e (λz=>nomatch z) h
 | @dT a kvs ea =>
  cases (show u=Value.ref a from rx);obtain ⟨_,_,xs,_,o,es,ep,h1,h2,_⟩:=(show jY X.prog X.w H s.heap a (.dT kvs) from I.hok a _ ea);exact dI PySem.W.kitx_dict I.kIn ⟨o,h1,h2.1⟩ e (λz=>nomatch z) h
 | @ins a C dx fs ea cl ha hn htk hm =>
  cases (show u=Value.ref a from rx);obtain ⟨mA,O,_⟩:=Bu I.hok ea;obtain ⟨od,J,_⟩:=O.look;exact dI (PySem.W.kitx_own (cl.get _) cl.hd ha hn htk hm) I.kIn J e (λz=>nomatch z) h
end
structure kO (k:Nat) (A:Around):Prop where
 hd:A.handled=none
 dp:A.depth+3*k+105 < recursionLimit
 un:A.units+16*k+200 < cLine
theorem kO.mono (r:kO k A) (h:j<=k):kO j A:=⟨r.hd,by have:=r.dp;lia,by have:=r.un;lia⟩
theorem kO.deeper (r:kO (k+1) A) (env:Env):kO k (A.deeper env) :=
 ⟨r.hd,by have:=r.dp;show A.depth+1+3*k+105 < _;lia,by have:=r.un;show A.units+3+16*k+200 < _;lia⟩
theorem KN {A:Around}:(A.under (.builtin "type.__call__" ⟨.ref C :: us,kw⟩)).depth=A.depth+1:=by
 first | rfl | simp [Around.under,Code.weight,Code.isCreation,Code.isGuard,Code.isCaller,Code.frames,Code.isFrame,guardIds]
theorem KL {A:Around}:(A.under (.builtin "type.__call__" ⟨.ref C :: us,kw⟩)).units=A.units+1:=by
 first | rfl | simp [Around.under,Code.cUnits,Code.frames,Code.isFrame]
theorem kO.make (r:kO (k+1) A) (C:Addr) (us:List Value) (kw:List (Str×Value)):kO k (A.under (.builtin "type.__call__" ⟨.ref C :: us,kw⟩)) :=
 ⟨r.hd,by have:=r.dp;rw[KN];lia,by have:=r.un;rw[KL];lia⟩
theorem kO.depth (r:kO k A):A.depth < recursionLimit:=by have:=r.dp;lia
theorem kO.units (r:kO k A):A.units+64 < cLine:=by have:=r.un;lia
def BF:TA:=λ_ H Q=>Q [] H
def js (ta:TE) (tr:TA):TA:=λσ H Q=>ta σ H λx H1=>tr σ H1 λxs H2=>Q (x :: xs) H2
section
variable {X:Cx} {e:Expr} {es:List Expr} {te:TE} {t:TA} {pos:Pos}
theorem iV:PA X [] BF:=λ_ _ _ _ H Q I h=>Calls.spliced_nil ⟨[],H,I,.nil,h⟩
theorem gG (ha:PE X e te) (hr:PA X es t) (hs:starEach (e :: es) X.env=(false,eval e X.env) :: starEach es X.env:=by rfl):PA X (e :: es) (js te t):=by
 intro pos pins s σ H Q I h;rw[hs];show wpAny _ _ (spliced ((false,eval e X.env) :: backTo pos (starEach es X.env))) _ _ s
 refine Calls.spliced_cons (iw (ha pins s σ H _ I h) λu s1 ⟨x,H1,I1,r1,q1⟩=>?_);exact iw (hr pos pins s1 σ H1 _ I1 q1) λus s2 ⟨xs,H2,I2,r2,q2⟩=>⟨x :: xs,H2,I2,.cons r1 r2,q2⟩
def UR (t:TA):TE:=λσ H Q=>t σ H λxs H1=>xs.length<=sizeLine/\∀p,H1 p=none->Q (.ref p) (upd H1 p (.tup xs))
def UZ (t:TA):TE:=λσ H Q=>t σ H λxs H1=>xs.length<=sizeLine/\∀p,H1 p=none->Q (.ref p) (upd H1 p (.lst xs))
theorem dm (h:PA X es t):PE X (.Tuple es x1 pos) (UR t):=by
 intro pins s σ H Q I hq;refine wpAny_Tuple_spliced (iw (h pos pins s σ H _ I hq) λus s1 ⟨xs,H1,I1,r,z,q⟩=>⟨by rw[<- r.length];exact z,?_⟩);have hf:H1 s1.heap.objs.size=none:=I1.hok.fresh (ar _);refine ⟨.ref s1.heap.objs.size,upd H1 s1.heap.objs.size (.tup xs),I1.laid (t':=s1.toks) (λb u e=>Heap.get?_push_of_some _ e) (ar _) ?_,rfl,q _ hf⟩;exact ⟨z,us,r,⟨_,Heap.get?_push_size _ rfl,rfl,_,rfl⟩⟩
theorem eU (h:PA X es t):PE X (.List es pos) (UZ t):=by
 intro pins s σ H Q I hq;refine wpAny_List_spliced (iw (h pos pins s σ H _ I hq) λus s1 ⟨xs,H1,I1,r,z,q⟩=>⟨by rw[<- r.length];exact z,?_⟩);have hf:H1 s1.heap.objs.size=none:=I1.hok.fresh (ar _);refine ⟨.ref s1.heap.objs.size,upd H1 s1.heap.objs.size (.lst xs),I1.laid (t':=s1.toks) (λb u e=>Heap.get?_push_of_some _ e) (ar _) ?_,rfl,q _ hf⟩;exact ⟨z,us,0,r,Heap.get?_push_size _ rfl⟩
end
abbrev Sp:=List V->Hp->VK->XK->Prop
abbrev PZ:=List Env->Hp->Shared->XK->Value->Shared->Prop
structure Le (P:Program) (w:World) (K:FG9) (mg:Str->Option Value) (base:Heap) (A:Around) (outer:List Env) (s:Shared) (H:Hp):Prop where
 frames:A.frames=some outer
 mod:Mod K mg base
 bs:∀b o,base.get? b=some o->s.heap.get? b=some o/\H b=none
 bsz:base.objs.size<=s.heap.objs.size
 funs:s.heap.FunFrames base outer
 frf:∀b∈Ny outer,H b=none
 hok:BC P w H s.heap
 bare:AllBare s.gens
def CE (outer:List Env) (P:Program) (w:World) (H:Hp) (s:Shared) (Q:VK) (u:Value) (s':Shared):Prop :=
 ∃v H',s'.os=s.os/\AllBare s'.gens/\Un (Ny outer) [] H H' s.heap s'.heap/\BC P w H' s'.heap/\RelV v u/\Q v H'
def CR (CX:PZ) (outer:List Env) (P:Program) (w:World) (H:Hp) (s:Shared) (Q:VK) (E:XK) (r:Result) (s':Shared):Prop :=
 match r with
 | .ok (.ret u)=>CE outer P w H s Q u s'
 | .ok _=>False
 | .error e=>CX outer H s E e s'
structure cD (P:Program) (w:World) (K:FG9) (mg:Str->Option Value) (base:Heap) (CX:PZ) (k:Nat) (f:Addr) (fd:FuncData) (ps:List Str) (sp:Sp):Prop where
 len:∀vs H Q E,sp vs H Q E->vs.length=ps.length
 run:∀(A:Around) (outer:List Env) (s:Shared) (H:Hp) (args:Args) (us:List Value) (vs:List V) (Q:VK) (E:XK),kO k A->Le P w K mg base A outer s H->BindsTo s fd args (ps.zip us)->cX vs us->sp vs H Q E →
  codeAny (model P w) A (.call (.ref f) args) (CR CX outer P w H s Q E) s
theorem Le.make {K:FG9} (e:Le P w K mg base A outer s H) (C:Addr) (us:List Value) (kw:List (Str×Value)) :
  Le P w K mg base (A.under (.builtin "type.__call__" ⟨.ref C :: us,kw⟩)) outer s H:=⟨by first | exact e.frames | (simpa [Around.under,Code.envs,Code.isFrame,pushEnvs] using e.frames),e.mod,e.bs,e.bsz,e.funs,e.frf,e.hok,e.bare⟩
section
variable {X:Cx} {pins:List (Addr×Obj)} {σ:St} {H:Hp} {s s':Shared}
theorem Inv.env0 (I:Inv X pins σ H s):Le X.prog X.w X.K X.mg X.base X.A X.stack s H :=
 ⟨I.ok.frames,I.ok.mod,I.bs,ah I.ok.bsz I.sz,I.stack,I.stkFree,I.hok,I.bare⟩
theorem Inv.after (I:Inv X pins σ H s) (h:CE X.stack X.prog X.w H s Q u s'):EP X pins σ Q u s':=by
 obtain ⟨v,H',os,bare,un,hok,r,q⟩:=h;obtain ⟨hh,g,d,t,os'⟩:=s';obtain rfl:os'=s.os:=os;exact ⟨v,H',I.call (h':=hh) (g':=g) (d':=d) (t':=t) (ch:=[]) un hok bare (λb z=>absurd z (by simp)),r,q⟩
end
def NT (sp:Sp) (dvs:List V) (E:XK) (t:TA):TE:=λσ H Q=>t σ H λvs H1=>sp (vs++dvs) H1 Q E
def NS (C:Addr) (m:Str) (sp:Sp) (dvs:List V) (E:XK) (ta:TE) (t:TA):TE:=λσ H Q=>ta σ H λx H1=>∃a dx fs,x=.ref a/\H1 a=some (.ins C dx fs)/\fs.lookup m=none /\
 t σ H1 λvs H2=>sp (x :: (vs++dvs)) H2 Q E
def Sf (C:Addr) (sp:Sp) (dvs:List V) (E:XK) (t:TA):TE:=λσ H Q=>t σ H λvs H1=>∀x dx,H1 x=none->H1 dx=none->dx≠x →
 sp (.ref x :: (vs++dvs)) (upd (upd H1 dx (.own x)) x (.ins C dx [])) (λv H2=>v=.non/\Q (.ref x) H2) E
def Binds (K:FG9) (fd:FuncData) (ps:List Str) (ds:List Value):Prop :=
 ∀(s:Shared) (us:List Value),K.In s.heap->(us++ds).length=ps.length->BindsTo s fd ⟨us,[]⟩ (ps.zip (us++ds))
theorem Binds.all {K:FG9} (h:∀us:List Value,us.length=ps.length->bindArgs fd ⟨us,[]⟩=pure (ps.zip us)):Binds K fd ps []:=λs us _ hl=>by
 rw[tK] at hl ⊢;exact .of_eq (h us hl)
def xp (CX:PZ) (X:Cx) (E:XK):Prop:=∀(pins:List (Addr×Obj)) (σ:St) (H:Hp) (s:Shared) (e:Value) (s':Shared),Inv X pins σ H s->CX X.stack H s E e s'->X.xe e s'
section
variable {X:Cx} {CX:PZ} {k:Nat} {f C:Addr} {fd:FuncData} {ps:List Str} {sp:Sp} {dvs:List V} {ds:List Value} {E:XK} {x m:Str} {p pos apos:Pos} {e o:Expr} {es:List Expr} {ta:TE} {t:TA}
theorem Kr {σ:St} (F:cD X.prog X.w X.K X.mg X.base CX k f fd ps sp) (hr:kO k X.A) (hb:Binds X.K fd ps ds) (hd:cX dvs ds) (hx:xp CX X E)
  (I:Inv X pins σ H s) (r:cX vs us) (h:sp (vs++dvs) H Q E):wpAny (model X.prog X.w) X.A (call (.ref f) us) (EP X pins σ Q) X.xe s:=by
 have r2:cX (vs++dvs) (us++ds):=r.append hd;have hl:(us++ds).length=ps.length:=by rw[<- r2.length];exact F.len _ _ _ _ h
 refine wpAny_call (codeAny_mono (F.run X.A X.stack s H ⟨us,[]⟩ (us++ds) (vs++dvs) Q E hr I.env0 (hb s us I.kIn hl) r2 h) λr s' hq=>?_);cases r with
 | error e=>exact hx pins σ H s e s' I hq
 | ok fl =>
  cases fl with
  | ret u=>exact I.after hq
  | next=>exact False.elim hq
  | brk=>exact False.elim hq
  | cont=>exact False.elim hq
theorem Q8 (F:cD X.prog X.w X.K X.mg X.base CX k f fd ps sp) (hr:kO k X.A) (hg:Gl X x) (hm:X.mg x=some (.ref f)) (hk:PySem.W.keepIn X.K (.ref f)=true) (hb:Binds X.K fd ps ds) (hd:cX dvs ds) (hx:xp CX X E)
  (ha:PA X (e :: es) t) (hdb:(x == ("__debug__":Str))=false:=by decide) (he:starEach (e :: es) X.env=(false,eval e X.env) :: starEach es X.env:=by rfl) (hpl:(backTo pos (starEach es X.env)).any (·.1)=false:=by rfl) :
  PE X (.Call (.Name x p) (e :: es) [] pos) (NT sp dvs E t):=by
 intro pins s σ H Q I h;refine wpAny_Call_Name_kw (GS I hg hm ?_ hdb);refine J5 (h₀:=X.base) I.ok.mod.kin hk (iw (ha pos pins s σ H _ I h) λus s1 ⟨vs,H1,I1,r,q⟩=>⟨I1.kIn,?_⟩) he hpl;exact Kr F hr hb hd hx I1 r q
theorem Lx {pl : Sem Bool} (he : PE X o ta) (c : Nu X.K C) (hm : Nk X.K C m f) (F : cD X.prog X.w X.K X.mg X.base CX k f fd ps sp) (hr : kO k X.A) (hb : Binds X.K fd ps ds) (hd : cX dvs ds) (hx : xp CX X E) (ha : PA X (e :: es) t)
    (hst : starEach (e :: es) X.env = (false, eval e X.env) :: starEach es X.env := by rfl) (hpl : (backTo pos (starEach es X.env)).any (·.1) = false := by rfl)
    (ht : eval (.Call (.Attribute o m apos) (e :: es) [] pos) X.env = (do
      let ov <- eval o X.env
      standAt apos.atName
      let (f, first) <- holding [ov] (getMethod ov m pl)
      callWith pos f first (backTo pos (starEach (e :: es) X.env)) (backToKw pos (keywordEach [] X.env))) := by rfl) :
    PE X (.Call (.Attribute o m apos) (e :: es) [] pos) (NS C m sp dvs E ta t) := by
  intro pins s σ H Q I h;refine PySem.W.methodCall_KW (pl := pl) (iw (he pins s σ H _ I h) λu s1 ⟨x, H1, I1, rx, a, dx, fs, ex, ea, l, q⟩ => ?_) ht;subst ex;obtain rfl : u = Value.ref a := rx;refine C1 I1 ea c hm l ?_;refine J5 (first := [.ref a]) (h₀ := X.base) I.ok.mod.kin hm.kp (iw (ha pos pins s1 σ H1 _ I1 q) λus s2 ⟨vs, H2, I2, r, q2⟩ => ⟨I2.kIn, ?_⟩) hst hpl;exact Kr (us := .ref a :: us) (vs := .ref a :: vs) F hr hb hd hx I2 (.cons rfl r) q2
theorem IV {pl : Sem Bool} (he : PE X o ta) (c : Nu X.K C) (hm : Nk X.K C m f) (F : cD X.prog X.w X.K X.mg X.base CX k f fd ps sp) (hr : kO k X.A) (hb : Binds X.K fd ps ds) (hd : cX dvs ds) (hx : xp CX X E)
    (ht : eval (.Call (.Attribute o m apos) [] [] pos) X.env = (do
      let ov <- eval o X.env
      standAt apos.atName
      let (f, first) <- holding [ov] (getMethod ov m pl)
      callWith pos f first (backTo pos (starEach [] X.env)) (backToKw pos (keywordEach [] X.env))) := by rfl) :
    PE X (.Call (.Attribute o m apos) [] [] pos) (NS C m sp dvs E ta BF) := by
  intro pins s σ H Q I h;refine PySem.W.methodCall_KW (pl := pl) (iw (he pins s σ H _ I h) λu s1 ⟨x, H1, I1, rx, a, dx, fs, ex, ea, l, q⟩ => ?_) ht;subst ex;obtain rfl : u = Value.ref a := rx;refine C1 I1 ea c hm l ?_;exact PySem.W.callWith_K0 (first := [.ref a]) I1.kIn hm.kp (Kr (us := [.ref a]) (vs := [.ref a]) F hr hb hd hx I1 (.cons rfl .nil) q)

structure Mk (K:FG9) (C f:Addr):Prop where
 makes:PySem.W.makesIn K C=true
 init:PySem.W.findIn K (.ref C) "__init__"=some (some (.ref f))
 fn:PySem.W.isFn K (.ref f)=true
 kp:PySem.W.keepIn K (.ref C)=true
theorem Ol {σ:St} (M:Mk X.K C f) (F:cD X.prog X.w X.K X.mg X.base CX k f fd ps sp) (hr:kO (k+1) X.A) (hb:Binds X.K fd ps ds) (hd:cX dvs ds)
  (hx:xp CX X E) (I:Inv X pins σ H s) (r:cX vs us)
  (h:∀x dx,H x=none->H dx=none->dx≠x->sp (.ref x :: (vs++dvs)) (upd (upd H dx (.own x)) x (.ins C dx [])) (λv H2=>v=.non/\Q (.ref x) H2) E) :
  wpAny (model X.prog X.w) X.A (call (.ref C) us) (EP X pins σ Q) X.xe s:=by
 have hq:=h (s.heap.objs.size+1) s.heap.objs.size (I.hok.fresh (oj _)) (I.hok.fresh (ar _)) (c7 (jm _));have I2:=Inv.made (C:=C) I;have r2:cX (V.ref (s.heap.objs.size+1) :: (vs++dvs)) (Value.ref (s.heap.objs.size+1) :: (us++ds)):=.cons rfl (r.append hd)
 have hl:(Value.ref (s.heap.objs.size+1) :: us++ds).length=ps.length:=by
  have e:=r2.length;rw[F.len _ _ _ _ hq] at e;exact e.symm
 refine wpAny_call (OU (f:=f) I.kIn M.makes M.init (beq_iff_eq.mp M.fn) (codeAny_mono (F.run _ X.stack _ _ ⟨Value.ref (s.heap.objs.size+1) :: us,[]⟩ (Value.ref (s.heap.objs.size+1) :: (us++ds)) _ _ E (hr.make C us [])
  (I2.env0.make C us []) (hb _ (Value.ref (s.heap.objs.size+1) :: us) I2.kIn hl) r2 hq) λr s' hq'=>?_))
 cases r with
 | error e=>exact hx pins σ _ _ e s' I2 hq'
 | ok fl =>
  cases fl with
  | ret u =>
   obtain ⟨v,H',I3,rv,ev,q3⟩:=I2.after hq';subst ev;exact ⟨rv,⟨V.ref (s.heap.objs.size+1),H',I3,rfl,q3⟩⟩
  | next=>exact False.elim hq'
  | brk=>exact False.elim hq'
  | cont=>exact False.elim hq'
theorem Ly (M:Mk X.K C f) (F:cD X.prog X.w X.K X.mg X.base CX k f fd ps sp) (hr:kO (k+1) X.A) (hg:Gl X x) (hm:X.mg x=some (.ref C)) (hb:Binds X.K fd ps ds) (hd:cX dvs ds) (hx:xp CX X E)
  (ha:PA X (e :: es) t) (hdb:(x == ("__debug__":Str))=false:=by decide) (he:starEach (e :: es) X.env=(false,eval e X.env) :: starEach es X.env:=by rfl) (hpl:(backTo pos (starEach es X.env)).any (·.1)=false:=by rfl) :
  PE X (.Call (.Name x p) (e :: es) [] pos) (Sf C sp dvs E t):=by
 intro pins s σ H Q I h;refine wpAny_Call_Name_kw (GS I hg hm ?_ hdb);refine J5 (h₀:=X.base) I.ok.mod.kin M.kp (iw (ha pos pins s σ H _ I h) λus s1 ⟨vs,H1,I1,r,q⟩=>⟨I1.kIn,?_⟩) he hpl;exact Ol M F hr hb hd hx I1 r q
end
structure vw (N P:List Str) (sc:Scope):Prop where
 kind:sc.kind=.function
 co:sc.isCoroutine=false
 gen:sc.isGenerator=false
 nd:N.Nodup
 pre:N.take P.length=P
 par:∀x∈P,sc.names.lookup x=some .local\/sc.names.lookup x=some .cell
 nofree:∀y∈sc.names,y.2≠.free
theorem Fi {kindOf:Str->Option NameKind} {x:Str}:∀{binds:List (Str×Value)} {m:Str->Option Value},(∀v,(x,v)∉binds)->bindL kindOf binds m x=m x
 | [],_,_=>rfl
 | (n,v) :: r,m,h=>by
  unfold bindL;rw[Fi λw hw=>h w (bJ _ hw)]
  split
  ·have:x≠n:=by rintro rfl;exact h v cH
   simp [this]
  ·rfl
theorem Fl {kindOf:Str->Option NameKind} {x:Str}:∀{binds:List (Str×Value)} {m:Str->Option Value},(∀v,(x,v)∉binds)->bindC kindOf binds m x=m x
 | [],_,_=>rfl
 | (n,v) :: r,m,h=>by
  unfold bindC;rw[Fl λw hw=>h w (bJ _ hw)]
  split
  ·rfl
  ·have:x≠n:=by rintro rfl;exact h v cH
   simp [this]
theorem Fj {kindOf:Str->Option NameKind} {x:Str} {v:Value}:∀{P:List Str} {vs:List Value} {i:Nat} {m:Str->Option Value},P.Nodup->P[i]?=some x->vs[i]?=some v->kindOf x=some .local →
  bindL kindOf (P.zip vs) m x=some v
 | [],_,_,_,_,h,_,_=>by simp at h
 | _ :: _,[],_,_,_,_,h,_=>by simp at h
 | p :: P,w :: vs,0,m,nd,h1,h2,hk=>by
  simp at h1 h2;subst h1;subst h2;show bindL kindOf ((p,w) :: P.zip vs) m p=_
  unfold bindL;rw[Fi λv hv=>(fb.mp nd).1 (P7 hv).1,if_pos hk];simp
 | p :: P,w :: vs,i+1,m,nd,h1,h2,hk=>by
  show bindL kindOf ((p,w) :: P.zip vs) m x=_
  unfold bindL;exact Fj (i:=i) (fb.mp nd).2 (by simpa using h1) (by simpa using h2) hk
theorem Fm {kindOf:Str->Option NameKind} {x:Str} {v:Value}:∀{P:List Str} {vs:List Value} {i:Nat} {m:Str->Option Value},P.Nodup->P[i]?=some x->vs[i]?=some v->kindOf x≠some .local →
  bindC kindOf (P.zip vs) m x=some v
 | [],_,_,_,_,h,_,_=>by simp at h
 | _ :: _,[],_,_,_,_,h,_=>by simp at h
 | p :: P,w :: vs,0,m,nd,h1,h2,hk=>by
  simp at h1 h2;subst h1;subst h2;show bindC kindOf ((p,w) :: P.zip vs) m p=_
  unfold bindC;rw[Fl λv hv=>(fb.mp nd).1 (P7 hv).1,if_neg hk];simp
 | p :: P,w :: vs,i+1,m,nd,h1,h2,hk=>by
  show bindC kindOf ((p,w) :: P.zip vs) m x=_
  unfold bindC;exact Fm (i:=i) (fb.mp nd).2 (by simpa using h1) (by simpa using h2) hk
def start (N:List Str) (vs:List V):St:=vs.map some++List.replicate (N.length - vs.length) none
def UG:List Str->List V->St
 | [],_=>[]
 | _ :: N,[]=>none :: UG N []
 | _ :: N,v :: vs=>some v :: UG N vs
theorem Kg:∀{N:List Str} {vs:List V},vs.length<=N.length->start N vs=UG N vs
 | [],[],_=>rfl
 | [],_ :: _,h=>absurd h (Nat.not_succ_le_zero _)
 | _ :: N,[],_=>congrArg (none :: ·) (Kg (N:=N) (vs:=[]) (a7 _))
 | _ :: N,v :: vs,h=>by
  show some v :: (vs.map some++List.replicate (N.length+1 - (vs.length+1)) none)=some v :: UG N vs
  rw[Nat.add_sub_add_right,<- Kg (Nat.le_of_succ_le_succ h)];rfl
def K3 (CX:PZ) (P:Program) (w:World) (K:FG9) (mg:Str->Option Value) (base:Heap) (N:List Str) (qual:Str) (scope:Scope) (f:Addr) (cd:Value) (A:Around) (outer:List Env) (s:Shared) (H:Hp) (E:XK):Cx where
 prog:=P
 w:=w
 K:=K
 mg:=mg
 base:=base
 A:=A.deeper (envOfC qual scope s.heap.objs.size f cd)
 N:=N
 s₀:=s
 H₀:=H
 env:=envOfC qual scope s.heap.objs.size f cd
 outer:=outer
 stack:=envOfC qual scope s.heap.objs.size f cd :: outer
 ex:=[]
 calm:=true
 fn:=λ_=>true
 pn:=[]
 xe:=λe s'=>wpAny (model P w) (A.deeper (envOfC qual scope s.heap.objs.size f cd)) (leaving (envOfC qual scope s.heap.objs.size f cd) e) (λ_ s''=>CX outer H s E e s'') (λe' s''=>CX outer H s E e' s'') s'
theorem Jx {sc:Scope} (h:sc.names.lookup x=some .cell):∃c,(cellsFrom n sc.names []).lookup x=some c:=by
 have q:=BD sc.names n [] (.inl h);exact UM.mp q
theorem MZ {K:FG9} 
  (S:vw N ps scope) (hd:A.handled=none) (e0:Le P w K mg base A outer s H) (hl:vs.length=ps.length) (r:cX vs us)
  (x:InCallC s s.heap.objs.size (bindL (envOfC qual scope s.heap.objs.size f cd).kindOf (ps.zip us) λ_=>none) (cellsFrom (s.heap.objs.size+1) scope.names []) (bindC (envOfC qual scope s.heap.objs.size f cd).kindOf (ps.zip us) λ_=>none) s1) :
  Inv (K3 CX P w K mg base N qual scope f cd A outer s H E) [] (start N vs) H s1:=by
 have hpl:ps.length<=N.length:=by have:=congrArg List.length S.pre;rw[bI] at this;lia
 obtain ⟨h1,tk,rfl,hk⟩:=x.done;have noA:∀b:Addr,b∉(K3 CX P w K mg base N qual scope f cd A outer s H E).ex:=λb z=>absurd (show b∈([]:List Addr) from z) (by simp)
 refine ⟨⟨e0.mod,S.kind,rfl,rfl,ar _,λy z c h1 h2=>?_,λy hy=>?_,λy c _ h=>?_,λ_=>hd,Around.frames_deeper e0.frames,.inr ⟨rfl,rfl⟩,λb z=>absurd z (noA b),e0.bs,e0.bsz,λb _ _=>noA b,λb z=>absurd z (noA b),e0.funs,e0.frf⟩,
  rfl,e0.bare,Un.kept hk,⟨_,x.toInCall.ns,λi y v h1 h2 h3=>?_⟩,λy c h=>⟨_,x.cell y c h⟩,e0.hok.fresh (ar _),λy c h=>?_,λp hp=>absurd (show p∈([]:List (Addr×Obj)) from hp) (by simp),e0.hok.kept hk,?_⟩
 ·exact name_of_addr x.apart (me h1) (me h2)
 ·have hy:scope.names.lookup y=some .cell\/scope.names.lookup y=some .free:=hy;rcases hy with hy | hy
  ·exact Jx hy
  ·exact absurd rfl (S.nofree _ (me hy))
 ·exact dh (x.above y c (me h))
 ·have hi:i < vs.length:=by
   unfold start at h2;by_cases hi:i < vs.length
   ·exact hi
   ·rw[bg (by simpa using hi)] at h2;rw[oo] at h2
    split at h2 <;> cases h2
  have ha:vs[i]?=some v:=by
   unfold start at h2;rw[bM (by simpa using hi),aA] at h2;cases e:vs[i]? with
   | none=>rw[e] at h2;cases h2
   | some a=>rw[e] at h2;cases h2;rfl
  obtain ⟨u,hu,rv⟩:=r.get ha
  have hp:ps[i]?=some y:=by
   rw[<- S.pre,mN (by lia)];exact h1
  have ndP:ps.Nodup:=by rw[<- S.pre];exact S.nd.sublist (List.take_sublist _ _)
  refine ⟨u,rv,?_⟩;rcases S.par y (ak hp) with k | k
  ·exact .inl ⟨k,Fj ndP hp hu k⟩
  ·obtain ⟨c,e⟩:=Jx (n:=s.heap.objs.size+1) k;refine .inr ⟨.inl k,c,e,?_⟩;have q:=x.cell y c e;rw[Fm ndP hp hu (by show scope.names.lookup y≠_;rw[k];decide)] at q;exact q
 ·exact e0.hok.fresh (dh (x.above y c (me h)))
 ·unfold start;show _=N.length
  rw[ai,ag,bA]
  lia
theorem VG {K:FG9} {dV kV doc pm cdv ct oc:Value} 
 (lk:K.lookup f=some ⟨oc,od,.func (PySem.W.fnOf name qual params body scope dV kV doc pm an cdv ct),osl⟩) (hcd:PySem.W.codeIn K cdv qual=true) (S:vw N ps scope)
  (len:∀vs H Q E,sp vs H Q E->vs.length=ps.length)
  (hbody:∀(A:Around) (outer:List Env) (s:Shared) (H:Hp) (vs:List V) (Q:VK) (E:XK),kO k (A.deeper (envOfC qual scope s.heap.objs.size f cdv))->sp vs H Q E →
   ∃t,JZ (K3 CX P w K mg base N qual scope f cdv A outer s H E) body t/\t { nx:=λ_ H'=>Q .non H',rt:=Q } (start N vs) H) :
  cD P w K mg base CX (k+1) f (PySem.W.fnOf name qual params body scope dV kV doc pm an cdv ct) ps sp:=by
 refine ⟨len,λA outer s H args us vs Q E hr e0 hb r hsp=>?_⟩;have hl:=len _ _ _ _ hsp;have KX:K.In s.heap:=e0.mod.kin.keeps λb o e=>(e0.bs b o e).1
 have lim:s.heap.NoLimit:=e0.mod.nolimit.keeps λb o e=>(e0.bs b o e).1
 have hkind:∀y∈ps.zip us,scope.names.lookup y.1=some .local\/(scope.names.lookup y.1=some .cell/\((cellsFrom (s.heap.objs.size+1) scope.names []).lookup y.1).isSome=true):=λ⟨n,v⟩ hy=>by
  rcases S.par n (P7 hy).1 with q | q
  ·exact .inl q
  ·exact .inr ⟨q,BD _ _ _ (.inl q)⟩
 refine codeAny_call_function hr.depth (KX _ _ lk) rfl S.co S.gen rfl (PySem.W.codeRec_of KX hcd) (hb _ _ _ _ ?_);refine wpAny_newFunctionEnv_cells S.kind hkind λenv he s1 x=>?_
 subst he;refine ⟨lim.keeps x.toInCall.keep,codeAny_func ?_⟩;obtain ⟨t,ht,hq⟩:=hbody A outer s H vs Q E (hr.deeper _) hsp;have I:Inv (K3 CX P w K mg base N qual scope f cdv A outer s H E) [] (start N vs) H s1:=MZ S hr.hd e0 hl r x;refine wpAny_mono (ht [] s1 (start N vs) H _ I hq) (λfl s' hs=>?_) λe s' hs=>hs
 have fin:∀{σ':St} {H':Hp} {v:V} {u:Value},Inv (K3 CX P w K mg base N qual scope f cdv A outer s H E) [] σ' H' s'->RelV v u->Q v H'->CE outer P w H s Q u s' :=
  λ{σ' H' v u} J rv q=>⟨v,H',J.os,J.bare,J.base,J.hok,rv,q⟩
 cases fl with
 | ret u =>
  obtain ⟨v,σ',H',J,rv,q⟩:=hs;exact fin J rv q
 | next =>
  obtain ⟨σ',H',J,q⟩:=hs;exact fin (v:=V.non) (u:=Value.none) J rfl q
 | brk =>
  obtain ⟨_,_,_,q⟩:=hs;exact False.elim q
 | cont =>
  obtain ⟨_,_,_,q⟩:=hs;exact False.elim q
section
variable {X:Cx} {x:Str} {p pos:Pos} {e:Expr} {es:List Expr} {t:TA} {id T:String} {r:List V->Hp->VK->Prop}
def Wd (r:List V->Hp->VK->Prop) (t:TA):TE:=λσ H Q=>t σ H λvs H1=>r vs H1 Q
theorem bo (hc:sW X (.builtin id) r) (hg:Gl X x) (hm:X.mg x=none) (hv:bootBuiltins x=some (.builtin id)) (ha:PA X (e :: es) t) (hn:x≠"__name__":=by decide) (hdb:(x == ("__debug__":Str))=false:=by decide)
  (he:starEach (e :: es) X.env=(false,eval e X.env) :: starEach es X.env:=by rfl) (hpl:(backTo pos (starEach es X.env)).any (·.1)=false:=by rfl):PE X (.Call (.Name x p) (e :: es) [] pos) (Wd r t):=by
 intro pins s σ H Q I h;refine wpAny_Call_Name_kw (nZ I hg hm hv ?_ hn hdb);exact PyProof.Rows.callWith_builtin1 (iw (ha pos pins s σ H _ I h) λus s1 ⟨vs,H1,I1,r1,q1⟩=>hc pins s1 σ H1 vs us Q I1 r1 q1) he hpl
theorem fz (hc:sW X (.type T) r) (hg:Gl X x) (hm:X.mg x=none) (hv:bootBuiltins x=some (.type T)) (ha:PA X (e :: es) t) (hn:x≠"__name__":=by decide) (hdb:(x == ("__debug__":Str))=false:=by decide)
  (he:starEach (e :: es) X.env=(false,eval e X.env) :: starEach es X.env:=by rfl) (hpl:(backTo pos (starEach es X.env)).any (·.1)=false:=by rfl):PE X (.Call (.Name x p) (e :: es) [] pos) (Wd r t):=by
 intro pins s σ H Q I h;refine wpAny_Call_Name_kw (nZ I hg hm hv ?_ hn hdb);exact PyProof.Rows.callWith_type1 (iw (ha pos pins s σ H _ I h) λus s1 ⟨vs,H1,I1,r1,q1⟩=>hc pins s1 σ H1 vs us Q I1 r1 q1) he hpl
end
end L2
namespace HT
open PySem PyProof.Rows
section
open PySem.SeqAt
open PySem.AutoSeq1 (wpAny_loadPart')
open PySem.MeetsSeq PySem.MeetsSeq2 PySem.MeetsSeq3
end
section
variable {prog:Program} {w:World} {A:Around} {E:Value->Shared->Prop} {s:Shared}
def HY (n d:Nat):Option Int->Nat
 | none=>d
 | some v=>if v < 0 then (v+(n:Int)).toNat else min v.toNat n
theorem Co (n d:Nat):HY n d none=d:=rfl
theorem Bo (n d k:Nat):HY n d (some (k:Int))=min k n:=by
 show (if (k:Int) < 0 then ((k:Int)+(n:Int)).toNat else min (k:Int).toNat n)=min k n
 rw[if_neg (by lia),Int.toNat_natCast]
end
end HT
namespace L2
open PySem PySem.Spec PyProof.Rows
abbrev TO:=St->Hp->(Option Int->Hp->Prop)->Prop
def PO (X:Cx) (e:Option Expr) (t:TO):Prop :=
 ∀(pins:List (Addr×Obj)) (s:Shared) (σ:St) (H:Hp) (Q:Option Int->Hp->Prop),Inv X pins σ H s->t σ H Q →
  wpAny (model X.prog X.w) X.A (evalPart e X.env) (λu s'=>∃o H',Inv X pins σ H' s'/\IsPart u o/\Q o H') X.xe s
def Li:TO:=λ_ H Q=>Q none H
def Sb (t:TE):TO:=λσ H Q=>t σ H λx H1=>∃i,x=.int i/\Q (some i) H1
theorem intsAre_of:∀{us:List Value},cX (ns.map V.int) us->IntsAre us ns:=by
 induction ns with
 | nil=>intro us r;rw[List.map_nil] at r;cases r;exact .nil
 | cons n ns ih =>
  intro us r;rw[ib] at r;cases r with
  | cons r1 r2 =>
   obtain ⟨t,e⟩:=r1;subst e;exact .cons n t (ih r2)
section
variable {X:Cx} {e:Expr} {te:TE} {lo hi:Option Expr} {tl th:TO} {pos p2:Pos}
theorem F9:PO X none Li:=by
 intro pins s σ H Q I h;rw[evalPart_none];exact wpAny_pure ⟨none,H,I,.none,h⟩
theorem xN (h:PE X e te):PO X (some e) (Sb te):=by
 intro pins s σ H Q I hw;rw[evalPart_some];refine iw (h pins s σ H _ I hw) λu s1 ⟨x,H1,I1,r1,q1⟩=>?_
 obtain ⟨i,rfl,q⟩:=q1;obtain ⟨t,rfl⟩:=r1;exact ⟨some i,H1,I1,.int i t,q⟩
def Wu (X:Cx) (r:V->Option Int->Option Int->Hp->VK->Prop):Prop :=
 ∀(pins:List (Addr×Obj)) (s:Shared) (σ:St) (H:Hp) (x:V) (v vl vu:Value) (lo hi:Option Int) (sl:Addr) (Q:VK),Inv X pins σ H s->RelV x v->s.heap.IsSliceOf sl vl vu .none->IsPart vl lo->IsPart vu hi->r x lo hi H Q →
  ∃T id,typeLookup (.type T) "__getitem__"=pure (some (.builtin id))/\s.TypeIs v T/\wpAny (model X.prog X.w) X.A (getItem v (.ref sl)) (EP X pins σ Q) X.xe s
def tSl (r:V->Option Int->Option Int->Hp->VK->Prop) (te:TE) (tl th:TO):TE:=λσ H Q=>te σ H λx H1=>tl σ H1 λl H2=>th σ H2 λu H3=>r x l u H3 Q
theorem xP (hr:Wu X r) (he:PE X e te) (hl:PO X lo tl) (hu:PO X hi th):PE X (.Subscript e (.Slice lo hi none p2) pos) (tSl r te tl th):=by
 intro pins s σ H Q I h;refine Subscript_ (iw (he pins s σ H _ I h) λv s1 ⟨x,H1,I1,r1,q1⟩=>?_);refine wpAny_Slice (iw (hl pins s1 σ H1 _ I1 q1) λvl s2 ⟨l,H2,I2,pl,q2⟩=>iw (hu pins s2 σ H2 _ I2 q2) λvu s3 ⟨u,H3,I3,pu,q3⟩=>?_);rw[evalPart_none];refine wpAny_pure ?_;have I4:Inv X pins σ H3 { s3 with heap:=s3.heap.push { cls:=.type "slice",data:=.fields #[vl,vu,.none] } }:=I3.kept (t':=s3.toks) λb ob q=>Heap.get?_push_of_some _ q
 obtain ⟨T,id,hT,ht,hg⟩:=hr pins { s3 with heap:=s3.heap.push { cls:=.type "slice",data:=.fields #[vl,vu,.none] } } σ H3 x v vl vu l u s3.heap.objs.size Q I4 r1 (Heap.IsSliceOf.new ..) pl pu q3;show wpAny (model X.prog X.w) X.A (subscriptTail e (.Slice lo hi none p2) v (.ref s3.heap.objs.size)) (EP X pins σ Q) X.xe { s3 with heap:=s3.heap.push { cls:=.type "slice",data:=.fields #[vl,vu,.none] } }
 exact tail_any (ops:=[.ref s3.heap.objs.size,v]) ht hT hg (by with_unfolding_all rfl)
def tD (xs:List V) (lo hi:Option Int):List V:=(xs.drop (HT.HY xs.length 0 lo)).take (HT.HY xs.length xs.length hi - HT.HY xs.length 0 lo)
theorem AE (xs:List V) (lo hi:Option Int):(tD xs lo hi).length<=xs.length:=by
 unfold tD;rw[bI,NC]
 lia
end
def Nx (n:Nat) (i:Int):Option Nat:=if 0<=i then (if i < n then some i.toNat else none) else if -(n:Int)<=i then some (i+n).toNat else none
def K6 {α:Type} (xs:List α) (i:Int):Option α:=(Nx xs.length i).bind λj=>xs[j]?
theorem LJ (h:Nx n i=some j):seqIndex? i n=some j/\j < n/\-(n:Int)<=i/\i < n:=by
 unfold Nx at h;by_cases h0:0<=i
 ·rw[if_pos h0] at h;by_cases h1:i < n
  ·rw[if_pos h1] at h;have e:i.toNat=j:=bS h;exact ⟨by rw[seqIndex_of h0 h1,e],by lia,by lia,h1⟩
  ·rw[if_neg h1] at h;cases h
 ·rw[if_neg h0] at h;by_cases h1:-(n:Int)<=i
  ·rw[if_pos h1] at h;have e:(i+n).toNat=j:=bS h;exact ⟨by rw[seqIndex_neg (by lia) h1,e],by lia,h1,by lia⟩
  ·rw[if_neg h1] at h;cases h
theorem HH {xs:List α} {v:α} (h:K6 xs i=some v):∃j,seqIndex? i xs.length=some j/\xs[j]?=some v/\j < xs.length/\-(xs.length:Int)<=i/\i < xs.length:=by
 unfold K6 at h;cases e:Nx xs.length i with
 | none=>rw[e] at h;cases h
 | some j =>
  rw[e] at h;obtain ⟨h1,h2,h3,h4⟩:=LJ e;exact ⟨j,h1,h,h2,h3,h4⟩
theorem dD {xs:List α} {j:Nat} {v:α} (h:xs[j]?=some v):K6 xs (j:Int)=some v:=by
 have hj:j < xs.length:=(az.mp h).1
 have e:Nx xs.length (j:Int)=some j:=by
  unfold Nx;rw[if_pos (by lia),if_pos (by lia)];simp
 unfold K6;rw[e];exact h
theorem yy (xs:List α) (v:α):K6 (xs++[v]) (-1)=some v:=by
 have hl:(xs++[v]).length=xs.length+1:=by simp
 have e:Nx (xs++[v]).length (-1)=some xs.length:=by
  unfold Nx;rw[hl,if_neg (by decide),if_pos (by lia)];congr 1
  lia
 unfold K6;rw[e];show (xs++[v])[xs.length]?=some v
 simp
def RU (b:Expr):Prop:=∀o i,subscripted b false o i=operate [o,i] (getItem o i)
def VP (X:Cx) (r:R2):Prop :=
 ∀(value slice:Expr) (pins:List (Addr×Obj)) (s:Shared) (σ:St) (H:Hp) (x y:V) (v u:Value) (Q:VK),Inv X pins σ H s->RelV x v->RelV y u->r x y H Q →
  subscripted slice false v u=operate [v,u] (getItem v u)->wpAny (model X.prog X.w) X.A (subscriptTail value slice v u) (EP X pins σ Q) X.xe s
def MtR (X:Cx) (id:String) (r:V->List V->Hp->VK->Prop):Prop :=
 ∀(pins:List (Addr×Obj)) (s:Shared) (σ:St) (H:Hp) (x:V) (xs:List V) (v:Value) (us:List Value) (Q:VK),Inv X pins σ H s->RelV x v->cX xs us->r x xs H Q →
  wpAny (model X.prog X.w) X.A (call (.builtin id) (v :: us)) (EP X pins σ Q) X.xe s
section
variable {X:Cx} {a b:Expr} {ta tb:TE} {pos:Pos}
theorem aL {r:R2} (hr:VP X r) (ha:PE X a ta) (hb:PE X b tb) (hs:RU b:=by intro _ _;rfl):PE X (.Subscript a b pos) (UX r ta tb):=by
 intro pins s σ H Q I h;exact Subscript_ (Uw ha hb I h λv u s2 x y H2 I2 rx ry q=>hr a b pins s2 σ H2 x y v u Q I2 rx ry q (hs _ _))
def TU (K:FG9):R2:=λx y H Q=>∃p xs i v,x=.ref p/\y=.int i/\bB K H p xs/\K6 xs i=some v/\Q v H
def TR (K:FG9):R2:=λx y H Q=>∃p xs i v,x=.ref p/\y=.int i/\mL K H p xs/\K6 xs i=some v/\Q v H
theorem bE:VP X (TU X.K):=by
 intro value slice pins s σ H x y v u Q I rx ry h hs;obtain ⟨p,xs,i,z,rfl,rfl,hq,he,q⟩:=h;cases rx;obtain ⟨t,rfl⟩:=ry;obtain ⟨its,r,pl,hz⟩:=I.list hq;obtain ⟨j,h1,h2,h3,h4,h5⟩:=HH he;obtain ⟨w,ew,rw'⟩:=r.get h2;have hl:=r.length;have hn:=CW;have fin:EP X pins σ Q w s:=⟨z,H,I,rw',q⟩;by_cases h0:0<=i
 ·have hj:i.toNat=j:=by
   rw[seqIndex_of h0 h5] at h1;exact bS h1
  exact item_listR pl.isList h0 (by lia) (by rw[hj];simpa using ew) fin hs
 ·have hj:(i+(its.toArray.size:Int)).toNat=j:=by
   rw[seqIndex_neg (by lia) h4] at h1;rw[aF,<- hl];exact bS h1
  exact subscriptTail_builtinR (x:=w) pl.isList.typeIs slot_list_getitem.lookup
   (wpAny_getItem_list_neg (Q:=λr s'=>r=w/\EP X pins σ Q r s') pl.isList (by lia) (by rw[aF] <;> lia) (by lia) (by rw[hj];simpa using ew) ⟨rfl,fin⟩) hs
theorem bu:VP X (TR X.K):=by
 intro value slice pins s σ H x y v u Q I rx ry h hs;obtain ⟨p,xs,i,z,rfl,rfl,hq,he,q⟩:=h;cases rx;obtain ⟨t,rfl⟩:=ry;obtain ⟨its,r,pl,hz⟩:=I.tuple hq;obtain ⟨j,h1,h2,h3,h4,h5⟩:=HH he;obtain ⟨w,ew,rw'⟩:=r.get h2;have hl:=r.length;have hn:=CW;have fin:EP X pins σ Q w s:=⟨z,H,I,rw',q⟩
 exact subscriptTail_builtinR (x:=w) pl.typeIs slot_tuple_getitem.lookup
  (getItem_tuple (j:=j) (Q:=λr s'=>r=w/\EP X pins σ Q r s') pl (by lia) (by lia) (by rw[aF,<- hl];exact h1) (by simpa using ew) ⟨rfl,fin⟩) hs
theorem KJ (its:List Value) (n j:Nat) (u:Value):Obj.mapSeq (·.setIfInBounds j u) { cls:=.type "list",data:=.seq its.toArray n }={ cls:=.type "list",data:=.seq (its.set j u).toArray n }:=by
 simp [Obj.mapSeq]
theorem Inv.lst {pins:List (Addr×Obj)} {σ:St} {H:Hp} {s:Shared} {p:Addr} {xs:List V} (I:Inv X pins σ H s) (h:H p=some (.lst xs)) :
  ∃(its:List Value) (n:Nat),cX xs its/\s.heap.get? p=some { cls:=.type "list",data:=.seq its.toArray n }/\xs.length<=sizeLine:=by
 obtain ⟨z,its,n,r,e⟩:=I.hok p _ h;exact ⟨its,n,r,e,z⟩
theorem Inv.lstUpd {σ:St} {its its':List Value} (I:Inv X pins σ H s) (h:H p=some (.lst xs))
  (ho:s.heap.get? p=some { cls:=.type "list",data:=.seq its.toArray n }) (hf:f { cls:=.type "list",data:=.seq its.toArray n }={ cls:=.type "list",data:=.seq its'.toArray n' }) (r:cX ys its') (hz:ys.length<=sizeLine) (t:Nat) :
  Inv X pins σ (upd H p (.lst ys)) { s with heap:=s.heap.update p f,toks:=t }:=by
 have e:(s.heap.update p f).get? p=some { cls:=.type "list",data:=.seq its'.toArray n' }:=by
  rw[Heap.get?_update_self f ho (by rw[hf] <;> rfl),hf]
 refine I.write (x:=p) (e:=p) (by rw[h];trivial) (.inl rfl) (λb u hb q=>(Heap.get?_update_other _ _ (Ne.symm hb)).trans q) ⟨_,e⟩ ?_;exact ⟨hz,its',n',r,e⟩
def Sm:V->V->V->Hp->(Hp->Prop)->Prop:=λo i v H Q=>∃p xs k j,o=.ref p/\i=.int k/\H p=some (.lst xs)/\Nx xs.length k=some j/\Q (upd H p (.lst (xs.set j v)))
theorem set_list:Ux X Sm:=by
 intro pins s σ H o i v ov iv u Q I ro ri rv h;obtain ⟨p,xs,k,j,rfl,rfl,hp,hj,q⟩:=h;cases ro;obtain ⟨t,rfl⟩:=ri;obtain ⟨its,n,r,ho,hz⟩:=I.lst hp;obtain ⟨h1,h2,h3,h4⟩:=LJ hj;have hl:=r.length;have hn:=CW
 have I':Inv X pins σ (upd H p (.lst (xs.set j v))) { s with heap:=s.heap.update p (Obj.mapSeq (·.setIfInBounds j u)) } :=
  I.lstUpd hp ho (KJ its n j u) (r.set rv j) (by rw[fe];exact hz) s.toks
 by_cases h0:0<=k
 ·have hk:k.toNat=j:=by
   rw[seqIndex_of h0 h4] at h1;exact bS h1
  exact PySem.W.ki_setAt ho h0 (by lia) (by rw[aF,<- hl];exact h4) (by rw[hk];exact ⟨_,I',q⟩)
 ·have hk:(k+(its.toArray.size:Int)).toNat=j:=by
   rw[seqIndex_neg (by lia) h3] at h1;rw[aF,<- hl];exact bS h1
  exact PySem.W.ki_setBack ho (by lia) (by rw[aF,<- hl];exact h3) (by lia) (by rw[hk];exact ⟨_,I',q⟩)
theorem FQ (lo hi:Option Int) (n:Nat):(sliceBounds lo hi none n).1=((HT.HY n 0 lo:Nat):Int)/\(sliceBounds lo hi none n).2.1=((HT.HY n n hi:Nat):Int)/\(sliceBounds lo hi none n).2.2=1:=by
 refine ⟨?_,?_,rfl⟩
 ·cases lo with
  | none=>simp [sliceBounds,HT.HY]
  | some i =>
   simp only[sliceBounds,HT.HY,Option.getD_none,show (1:Int) > 0 by decide,if_true];by_cases h:i < 0
   ·simp only[h,if_true] <;> lia
   ·simp only[h,if_false] <;> lia
 ·cases hi with
  | none=>simp [sliceBounds,HT.HY]
  | some i =>
   simp only[sliceBounds,HT.HY,Option.getD_none,show (1:Int) > 0 by decide,if_true];by_cases h:i < 0
   ·simp only[h,if_true] <;> lia
   ·simp only[h,if_false] <;> lia
theorem DJ (its:List Value) (lo hi:Option Int):slicePick its.toArray lo hi none=((its.drop (HT.HY its.length 0 lo)).take (HT.HY its.length its.length hi - HT.HY its.length 0 lo)).toArray:=by
 obtain ⟨h1,h2,h3⟩:=FQ lo hi its.toArray.size;unfold slicePick;rw[h1,h2,h3];simp only[sliceRange_one,pick_run,aF] <;> rfl
def TN (K:FG9):V->Option Int->Option Int->Hp->VK->Prop:=λx lo hi H Q=>∃a xs,x=.ref a/\bB K H a xs/\∀p,H p=none->Q (.ref p) (upd H p (.lst (tD xs lo hi)))
theorem Bn:Wu X (TN X.K):=by
 intro pins s σ H x v vl vu lo hi sl Q I rx hs pl pu h;obtain ⟨a,xs,rfl,hx,q⟩:=h;cases rx;obtain ⟨its,r,ht,hz⟩:=I.list hx;have hlen:=r.length;refine ⟨"list",_,slot_list_getitem.lookup,ht.isList.typeIs,?_⟩;refine wpAny_getItem_list_slice ht.isList hs pl pu .none (by simp) ?_ (by rw[aF] <;> lia);rw[DJ,<- hlen];refine ⟨.ref s.heap.objs.size,_,I.laid (t':=s.toks) (o:=.lst (tD xs lo hi)) (λb ob q=>Heap.get?_push_of_some _ q) (ar _) ?_,rfl,q _ (I.hok.fresh (ar _))⟩;exact ⟨ah (AE xs lo hi) hz,_,0,(r.drop (HT.HY xs.length 0 lo)).take (HT.HY xs.length xs.length hi - HT.HY xs.length 0 lo),Heap.get?_push_size _ rfl⟩
def yd:V->Bool
 | .non=>true
 | .bl _=>true
 | .int _=>true
 | .str _=>true
 | _=>false
def SG:V->V->Bool
 | .non,.non=>true
 | .bl a,.bl b=>a == b
 | .bl a,.int b=>(if a then 1 else 0) == b
 | .int a,.bl b=>a == (if b then 1 else 0)
 | .int a,.int b=>a == b
 | .str a,.str b=>a == b
 | _,_=>false
theorem Ur (ry:RelV y u) (rx:RelV x v) (fy:yd y=true) (fx:yd x=true):SeqAt.EqAt A s u v (SG y x):=by
 cases y with
 | non =>
  cases ry;cases x with
  | non=>cases rx;exact SeqAt.EqAt.same _
  | bl b=>cases rx;exact SeqAt.EqAt.none_bool b
  | int b=>obtain ⟨t,rfl⟩:=rx;exact SeqAt.EqAt.none_int b t
  | str b=>obtain ⟨t,rfl⟩:=rx;exact SeqAt.EqAt.none_str b t
  | _=>exact absurd (show false=true from fx) bh
 | bl a =>
  cases ry;cases x with
  | non=>cases rx;exact SeqAt.EqAt.bool_none a
  | bl b=>cases rx;exact SeqAt.EqAt.bool_bool a b
  | int b=>obtain ⟨t,rfl⟩:=rx;exact SeqAt.EqAt.bool_int a b t
  | str b=>obtain ⟨t,rfl⟩:=rx;exact SeqAt.EqAt.bool_str a b t
  | _=>exact absurd (show false=true from fx) bh
 | int a =>
  obtain ⟨t',rfl⟩:=ry;cases x with
  | non=>cases rx;exact SeqAt.EqAt.int_none a t'
  | bl b=>cases rx;exact SeqAt.EqAt.int_bool a t' b
  | int b=>obtain ⟨t,rfl⟩:=rx;exact SeqAt.EqAt.int_int a t' b t
  | str b=>obtain ⟨t,rfl⟩:=rx;exact SeqAt.EqAt.int_str a t' b t
  | _=>exact absurd (show false=true from fx) bh
 | str a =>
  obtain ⟨t',rfl⟩:=ry;cases x with
  | non=>cases rx;exact SeqAt.EqAt.str_none a t'
  | bl b=>cases rx;exact SeqAt.EqAt.str_bool a t' b
  | int b=>obtain ⟨t,rfl⟩:=rx;exact SeqAt.EqAt.str_int a t' b t
  | str b=>obtain ⟨t,rfl⟩:=rx;exact SeqAt.EqAt.str_str a t' b t
  | _=>exact absurd (show false=true from fx) bh
 | _=>exact absurd (show false=true from fy) bh
def KY (x:V) (u:Value):Bool:=match u with
 | .none=>SG .non x
 | .bool b=>SG (.bl b) x
 | .int i _=>SG (.int i) x
 | .str z _=>SG (.str z) x
 | _=>false
theorem Pj (r:RelV y u) (f:yd y=true):KY x u=SG y x:=by
 cases y with
 | non=>cases r;rfl
 | bl b=>cases r;rfl
 | int i=>obtain ⟨t,rfl⟩:=r;rfl
 | str z=>obtain ⟨t,rfl⟩:=r;rfl
 | _=>exact absurd (show false=true from f) bh
theorem yz {x:V}:∀{xs:List V} {us:List Value},cX xs us->xs.all yd=true->us.any (KY x)=xs.any λy=>SG y x
 | _,_,.nil,_=>rfl
 | y :: xs,u :: us,.cons r t,f=>by
  rw[JV,eB] at f;rw[List.any_cons,List.any_cons,Pj r f.1,yz t f.2]
theorem uL {A:Around} {s:Shared} {x:V} {v:Value} (rx:RelV x v) (fx:yd x=true):∀{xs:List V} {us:List Value},cX xs us->xs.all yd=true->∀u∈us,SeqAt.EqAt A s u v (KY x u)
 | _,_,.nil,_=>λu hu=>by cases hu
 | y :: xs,u :: us,.cons r t,f=>λu' hu=>by
  rw[JV,eB] at f;rcases aH.mp hu with rfl | hu
  ·rw[Pj r f.1];exact Ur r rx f.1 fx
  ·exact uL rx fx t f.2 u' hu
def V3 (x:V) (xs:List V):Bool:=xs.any λy=>SG y x
def Wh (K:FG9) (neg:Bool):R2:=λx y H Q=>∃p xs,y=.ref p/\(bB K H p xs\/mL K H p xs)/\yd x=true/\xs.all yd=true/\Q (.bl (if neg then !V3 x xs else V3 x xs)) H
theorem ML:yW X (compareOp .In) (Wh X.K false):=by
 intro pins s σ H x y v u Q I rx ry h;obtain ⟨p,xs,rfl,hq,fx,fs,q⟩:=h;cases ry;rcases hq with hq | hq
 ·obtain ⟨its,r,pl,hz⟩:=I.list hq;refine SeqAt.in_listAt (KY x) pl.isList (λw hw=>uL rx fx r fs w (by simpa using hw)) ⟨.bl _,H,I,rfl,?_⟩;rw[show its.toArray.any (KY x)=its.any (KY x) by simp,yz r fs];exact q
 ·obtain ⟨its,r,pl,hz⟩:=I.tuple hq;refine SeqAt.in_tupleAt (KY x) pl (λw hw=>uL rx fx r fs w (by simpa using hw)) ⟨.bl _,H,I,rfl,?_⟩;rw[show its.toArray.any (KY x)=its.any (KY x) by simp,yz r fs];exact q
theorem Gi:yW X (compareOp .NotIn) (Wh X.K true):=by
 intro pins s σ H x y v u Q I rx ry h;obtain ⟨p,xs,rfl,hq,fx,fs,q⟩:=h;cases ry;rcases hq with hq | hq
 ·obtain ⟨its,r,pl,hz⟩:=I.list hq;refine SeqAt.notIn_listAt (KY x) pl.isList (λw hw=>uL rx fx r fs w (by simpa using hw)) ⟨.bl _,H,I,rfl,?_⟩;rw[show its.toArray.any (KY x)=its.any (KY x) by simp,yz r fs];exact q
 ·obtain ⟨its,r,pl,hz⟩:=I.tuple hq;refine SeqAt.notIn_tupleAt (KY x) pl (λw hw=>uL rx fx r fs w (by simpa using hw)) ⟨.bl _,H,I,rfl,?_⟩;rw[show its.toArray.any (KY x)=its.any (KY x) by simp,yz r fs];exact q
theorem aM:sW X (.builtin "len") (λxs H Q=>∃p ys,xs=[.ref p]/\(bB X.K H p ys\/mL X.K H p ys)/\Q (.int ys.length) H):=by
 intro pins s σ H xs us Q I r h;obtain ⟨p,ys,rfl,hq,q⟩:=h;obtain ⟨u,rfl,rx⟩:=vals1 r;cases rx;have hn:=CW;rcases hq with hq | hq
 ·obtain ⟨its,r',pl,hz⟩:=I.list hq;have hlen:=r'.length;exact Calls.call_len_list pl.isList (by simp only[aF] <;> lia) ⟨.int ys.length,H,I.tok _,⟨s.toks+1,by rw[aF,hlen]⟩,q⟩
 ·obtain ⟨its,r',pl,hz⟩:=I.tuple hq;have hlen:=r'.length;exact len_tuple pl (by simp only[aF] <;> lia) ⟨.int ys.length,H,I.tok _,⟨s.toks+1,by rw[aF,hlen]⟩,q⟩
theorem mU:sW X (.type "list") (λxs H Q=>∃p ys,xs=[.ref p]/\(bB X.K H p ys\/mL X.K H p ys)/\∀l,H l=none->Q (.ref l) (upd H l (.lst ys))):=by
 intro pins s σ H xs us Q I r h;obtain ⟨p,ys,rfl,hq,q⟩:=h;obtain ⟨u,rfl,rx⟩:=vals1 r;cases rx
 have fin:∀(its:List Value),cX ys its->ys.length<=sizeLine->∀(h':Heap) (c':Nat),(∀b o',s.heap.get? b=some o'->h'.get? b=some o') →
   h'.get? s.heap.objs.size=some { cls:=.type "list",dict:=none,data:=.seq its.toArray c',slots:=#[] }->EP X pins σ Q (.ref s.heap.objs.size) { s with heap:=h' }:=λits r' hz h' c' kp e =>
  ⟨.ref s.heap.objs.size,_,I.laid (t':=s.toks) kp (ar _) (show jY X.prog X.w _ h' _ (.lst ys) from ⟨hz,its,c',r',e⟩),rfl,q _ (I.hok.fresh (ar _))⟩
 rcases hq with hq | hq
 ·obtain ⟨its,r',pl,hz⟩:=I.list hq;have hlen:=r'.length;obtain ⟨o,ho,hc,n,hd⟩:=pl.isList;exact call_list_seq p (.inl rfl) ho hc hd (λh' c' kp e=>fin its r' hz h' c' kp e) (by simp only[aF] <;> lia)
 ·obtain ⟨its,r',pl,hz⟩:=I.tuple hq;have hlen:=r'.length;obtain ⟨o,ho,hc,n,hd⟩:=pl;exact call_list_seq p (.inr rfl) ho hc hd (λh' c' kp e=>fin its r' hz h' c' kp e) (by simp only[aF] <;> lia)
def Wc (K:FG9) (T:String) (x:V) (H:Hp):Prop:=match x with
 | .str _=>T="str"
 | .int _=>T="int"
 | .ref p=>(T="list"/\∃xs,bB K H p xs)\/(T="tuple"/\∃o,K.lookup p=some o/\o.cls=.type "tuple"/\o.dict=none) \/
   (T="dict"/\((∃kvs,H p=some (.dK kvs))\/∃kvs,H p=some (.dT kvs)))\/(T="set"/\∃S n,H p=some (.set S n))
 | _=>False
theorem SY {σ:St} (I:Inv X pins σ H s) (r:RelV x v) (ty:Wc X.K T x H) :
  s.TypeIs v T/\∀a,v=.ref a->∃ob,s.heap.get? a=some ob/\ob.dict=none:=by
 cases x with
 | str z =>
  obtain ⟨t,rfl⟩:=r;cases (show T="str" from ty);exact ⟨typeIs_str s z t,λ_ e=>nomatch e⟩
 | int i =>
  obtain ⟨t,rfl⟩:=r;cases (show T="int" from ty);exact ⟨typeIs_int s i t,λ_ e=>nomatch e⟩
 | ref p =>
  cases r;rcases ty with ⟨rfl,xs,hq⟩ | ⟨rfl,o,hk,hc,hd⟩ | ⟨rfl,hk⟩ | ⟨rfl,S,n,hk⟩
  ·obtain ⟨its,_,pl,_⟩:=I.list hq;refine ⟨pl.isList.typeIs,λa e=>?_⟩;cases e;obtain ⟨o,n,e,c,hd,_⟩:=pl;exact ⟨o,e,hd⟩
  ·refine ⟨⟨o,I.kIn p o hk,hc⟩,λa e=>?_⟩;cases e;exact ⟨o,I.kIn _ o hk,hd⟩
  ·have z:∃o,s.heap.get? p=some o/\o.ExactDict:=by
    rcases hk with ⟨kvs,hk⟩ | ⟨kvs,hk⟩
    ·obtain ⟨_,_,_,_,o,_,_,e,ex,_⟩:=I.hok p _ hk;exact ⟨o,e,ex⟩
    ·obtain ⟨_,_,_,_,o,_,_,e,ex,_⟩:=I.hok p _ hk;exact ⟨o,e,ex⟩
   obtain ⟨o,e,ex⟩:=z;refine ⟨⟨o,e,ex.1⟩,λa e2=>?_⟩;cases e2;exact ⟨o,e,ex.2.1⟩
  ·obtain ⟨o,_,_,_,e,ex,_⟩:=I.hok p _ hk;refine ⟨⟨o,e,ex.1⟩,λa e2=>?_⟩;cases e2;exact ⟨o,e,ex.2.1⟩
 | _=>exact False.elim ty
def tBM (K:FG9) (T:String) (r:V->List V->Hp->VK->Prop) (to:TE) (t:TA):TE:=λσ H Q=>to σ H λx H1=>Wc K T x H1/\t σ H1 λxs H2=>r x xs H2 Q
variable {o e:Expr} {es:List Expr} {to:TE} {t:TA} {name:Str} {apos cpos:Pos} {T id:String} {r:V->List V->Hp->VK->Prop}
theorem nJ (pa:PlainAttrs T) (slot:Slot T name id) (hty:typeOf (.builtin id)=pure (.type "method_descriptor")) (hm:MtR X id r) (ho:PE X o to) (ha:PA X (e :: es) t)
  (hbase:attributeBase o name X.env (eval o X.env)=eval o X.env:=by rfl)
  (hfew:((backTo cpos (starEach (e :: es) X.env)).all (λx=>!x.1) && (backToKw cpos (keywordEach [] X.env)).all (λx=>x.1.isSome)
   && decide ((e :: es).length+([]:List Keyword).length+(if ([]:List Keyword).isEmpty then 0 else 1) < 30))=true:=by rfl)
  (hline:(apos.endLine == cpos.line)=true:=by rfl) (hs:starEach (e :: es) X.env=(false,eval e X.env) :: starEach es X.env:=by rfl) (hplain:(backTo cpos (starEach es X.env)).any (·.1)=false:=by rfl) :
  PE X (.Call (.Attribute o name apos) (e :: es) [] cpos) (tBM X.K T r to t):=by
 intro pins s σ H Q I h;refine wpAny_Call_method_late hbase hfew hline rfl (iw (ho pins s σ H _ I h) λv s1 ⟨x,H1,I1,r1,ty,q1⟩=>?_);obtain ⟨h1,h2⟩:=SY I1 r1 ty;refine ⟨T,id,pa,slot,hty,h1,h2,?_⟩;have hA:=ha cpos pins s1 σ H1 _ I1 q1;rw[hs] at hA ⊢;refine Calls.callWith_builtin (by show (false || (backTo cpos (starEach es X.env)).any (·.1))=false;rw[hplain] <;> rfl) (Calls.evalArgs_plain ?_);exact iw hA λus s2 ⟨vs,H2,I2,r2,q2⟩=>hm pins s2 σ H2 x vs v us Q I2 r1 r2 q2
end
def Wy (X:Cx) (id:String) (r:V->List V->Hp->VK->Prop):Prop :=
 ∀(pins:List (Addr×Obj)) (s:Shared) (σ:St) (H:Hp) (x:V) (xs:List V) (v:Value) (us:List Value) (Q:VK),Inv X pins σ H s->RelV x v->cX xs us->r x xs H Q →
  wpAny (model X.prog X.w) X.A (call (.builtin id) (v :: us)) (EP X pins σ Q) X.xe s
theorem cX.one:∀{x:V} {us:List Value},cX [x] us->∃u,us=[u]/\RelV x u
 | _,_,.cons r .nil=>⟨_,rfl,r⟩
theorem cX.eraseIdx:∀{xs:List V} {us:List Value} (i:Nat),cX xs us->cX (xs.eraseIdx i) (us.eraseIdx i)
 | _,_,_,.nil=>.nil
 | _,_,0,.cons _ t=>t
 | _,_,i+1,.cons r t=>.cons r (cX.eraseIdx i t)
theorem cX.rep {xs:List V} {us:List Value} (h:cX xs us):∀k:Nat,cX (List.replicate k xs).flatten (List.replicate k us).flatten
 | 0=>.nil
 | k+1=>by
  rw[ji,ji,c8,c8];exact cX.append h (cX.rep h k)
theorem EO {α:Type}:∀(l:List α) (i:Nat),(l.eraseIdx i).length<=l.length
 | [],_=>ar _
 | _ :: _,0=>oj _
 | _ :: r,i+1=>dN (EO r i)
theorem foldl_rep (its:List Value):∀(k:Nat) (acc:List Value),
  List.foldl (λx1 x2=>x1++x2) acc.toArray (List.replicate k its.toArray)=(acc++(List.replicate k its).flatten).toArray
 | 0,acc=>by simp
 | k+1,acc=>by
  have e:acc.toArray++its.toArray=(acc++its).toArray:=by simp
  have e2:(acc++its)++(List.replicate k its).flatten=acc++(List.replicate (k+1) its).flatten:=by
   rw[ji,c8,cm]
  rw[<- e2,<- foldl_rep its k (acc++its),<- e,ji,List.foldl_cons]
section
variable {X:Cx} {pins:List (Addr×Obj)} {σ:St} {H:Hp} {s:Shared} {l b:Addr} {xs ys zs:List V}
theorem Inv.lset {its its':List Value} (I:Inv X pins σ H s) (hH:H l=some (.lst xs))
  (e:s.heap.get? l=some { cls:=.type "list",data:=.seq its.toArray n }) (hf:f its.toArray=its'.toArray) (hv:cX ys its') (hz:ys.length<=sizeLine) :
  Inv X pins σ (upd H l (.lst ys)) { s with heap:=s.heap.update l (Obj.mapSeq f),toks:=t' }:=by
 have q:=lV e f;rw[hf] at q;refine I.write (x:=l) (e:=l) (by rw[hH];exact trivial) (.inl rfl) (λb' u hb hu=>(Heap.get?_update_other s.heap (Obj.mapSeq f) (Ne.symm hb)).trans hu) ⟨_,q⟩ ?_;exact ⟨hz,its',_,hv,q⟩
theorem Inv.lnew (I:Inv X pins σ H s) (hv:cX ys its) (hz:ys.length<=sizeLine) :
  Inv X pins σ (upd H s.heap.objs.size (.lst ys)) { s with heap:=s.heap.push { cls:=.type "list",data:=.seq its.toArray },toks:=t' } :=
 I.laid (λ_ _ q=>Heap.get?_push_of_some _ q) (ar _) ⟨hz,its,0,hv,Heap.get?_push_size _ rfl⟩
theorem Inv.fresh (I:Inv X pins σ H s):H s.heap.objs.size=none:=I.hok.fresh (ar _)
theorem Inv.lstM (I:Inv X pins σ H s) (hH:H l=some (.lst xs)):xs.length<=sizeLine/\∃(its:List Value) (n:Nat),cX xs its/\xs.length=its.length/\s.heap.get? l=some { cls:=.type "list",data:=.seq its.toArray n }:=by
 obtain ⟨z,its,n,r,e⟩:=I.hok l _ hH;exact ⟨z,its,n,r,r.length,e⟩
theorem Jb (h:n<=sizeLine):Builtin.List.listTooLong n=false:=by
 unfold Builtin.List.listTooLong;exact decide_eq_false (by lia)
end
section
variable {X:Cx}
def Ls:V->List V->Hp->VK->Prop:=λx vs H Q=>∃l xs y,x=.ref l/\vs=[y]/\H l=some (.lst xs)/\xs.length < sizeLine/\Q .non (upd H l (.lst (xs++[y])))
theorem gD:Wy X "list.append" Ls:=by
 intro pins s σ H x vs v us Q I rx rv h;obtain ⟨l,xs,y,rfl,rfl,hH,hz,q⟩:=h;cases rx;obtain ⟨u,rfl,ru⟩:=rv.one;obtain ⟨z,its,n,r,hl,e⟩:=I.lstM hH;refine call_meets F.slot_list_append ⟨_,e,rfl⟩ F.entry_list_append (F.args_list_append_2 _ _) (PySem.list_append l its.toArray n u (by rw[aF];lia)) ⟨e,?_⟩;refine ⟨.non,_,I.lset (its':=its++[u]) hH e (by simp) (r.append (.cons ru .nil)) ?_,rfl,q⟩;rw[ai,aQ]
 lia
def Q2:V->List V->Hp->VK->Prop:=λx vs H Q=>∃l b xs zs,x=.ref l/\vs=[.ref b]/\H l=some (.lst xs)/\H b=some (.lst zs)/\xs.length+zs.length<=sizeLine/\Q .non (upd H l (.lst (xs++zs)))
theorem EN:Wy X "list.extend" Q2:=by
 intro pins s σ H x vs v us Q I rx rv h;obtain ⟨l,b,xs,zs,rfl,rfl,hH,hB,hz,q⟩:=h;cases rx;obtain ⟨u,rfl,ru⟩:=rv.one;cases ru;obtain ⟨z,its,n,r,hl,e⟩:=I.lstM hH;obtain ⟨z2,its2,n2,r2,hl2,e2⟩:=I.lstM hB;have hsz:its.toArray.size+its2.toArray.size<=sizeLine:=by rw[aF,aF];lia
 have hlong:¬(!its.toArray.isEmpty && Builtin.List.listTooLong (its.toArray.size+its2.toArray.size))=true:=by
  rw[Jb hsz,Bool.and_false];exact bh
 refine call_meets F.slot_list_extend ⟨_,e,rfl⟩ F.entry_list_extend (F.args_list_extend_2 _ _)
  (AutoSeq1.list_extend_list_list_0 l its.toArray n b its2.toArray n2 hlong (by rw[aF];lia) (by lia)) ⟨e,e2,?_⟩
 refine ⟨.non,_,I.lset (its':=its++its2) hH e (by simp) (r.append r2) ?_,rfl,q⟩;rw[ai]
 lia
def Vm:R2:=λx y H Q=>∃l b xs zs,x=.ref l/\y=.ref b/\H l=some (.lst xs)/\H b=some (.lst zs)/\xs.length+zs.length<=sizeLine/\∀p,H p=none->Q (.ref p) (upd H p (.lst (xs++zs)))
theorem uF:yW X (binaryOp .Add) Vm:=by
 intro pins s σ H x y v u Q I rx ry h;obtain ⟨l,b,xs,zs,rfl,rfl,hH,hB,hz,q⟩:=h;cases rx;cases ry;obtain ⟨z,its,n,r,hl,e⟩:=I.lstM hH;obtain ⟨z2,its2,n2,r2,hl2,e2⟩:=I.lstM hB;refine PySem.P.add_list e e2 ?_ (by rw[aF,aF];lia);have ea:its.toArray++its2.toArray=(its++its2).toArray:=by simp
 rw[ea];exact ⟨.ref _,_,I.lnew (t':=s.toks) (r.append r2) (by rw[ai];lia),rfl,q _ I.fresh⟩
def Vl:R2:=λx y H Q=>∃l k xs,x=.ref l/\y=.int k/\H l=some (.lst xs)/\-(2^63)<=k/\k < 2^63/\xs.length*k.toNat<=sizeLine /\
 ∀p,H p=none->Q (.ref p) (upd H p (.lst (List.replicate k.toNat xs).flatten))
theorem len_rep {α:Type} (xs:List α) (k:Nat):(List.replicate k xs).flatten.length=k*xs.length:=by
 induction k with
 | zero=>simp
 | succ k ih=>rw[ji,c8,ai,ih,dU,oN]
theorem T2:yW X (binaryOp .Mult) Vl:=by
 intro pins s σ H x y v u Q I rx ry h;obtain ⟨l,k,xs,rfl,rfl,hH,h1,h2,hz,q⟩:=h;cases rx;obtain ⟨t,rfl⟩:=ry;obtain ⟨z,its,n,r,hl,e⟩:=I.lstM hH;have hlen:its.toArray.size*k.toNat<=sizeLine:=by rw[aF,<- hl];exact hz
 have hcap:¬its.toArray.size*k.toNat > (2^63 - 1) / 8:=by
  have:(sizeLine:Nat)<=(2^63 - 1) / 8:=by decide
  lia
 have hfit:¬(!Builtin.List.listFitsIndex k)=true:=by
  rw[fitsIndex_both h1 h2];exact bh
 have hlong:¬Builtin.List.listTooLong (its.toArray.size*k.toNat)=true:=by
  rw[Jb hlen];exact bh
 have hnew:List.foldl (λx1 x2=>x1++x2) #[] (List.replicate (if its.toArray.isEmpty=true then 0 else k.toNat) its.toArray)=(List.replicate k.toNat its).flatten.toArray:=by
  have f0:∀m:Nat,List.foldl (λx1 x2=>x1++x2) #[] (List.replicate m its.toArray)=(List.replicate m its).flatten.toArray:=λm=>by
   have:=foldl_rep its m [];rw[dr] at this;exact this
  rw[f0];cases its with
  | nil=>simp
  | cons a r'=>rw[if_neg (by simp)]
 refine wpAny_binaryOp_repeat_ref (T:="list") (U:="int") (by decide) ⟨_,e,rfl⟩ (λs'=>typeIs_int s' k t) noFill_list_mul F.fills_int_mul F.slot_int_rmul repeat_list F.slot_int_index.lookup
  (call_meets F.slot_int_rmul (typeIs_int s k t) F.entry_int_rmul (F.args_int_rmul_2 _ _) (int___rmul___int_list k t l its.toArray n)
   ⟨e,rfl,⟨_,e,rfl⟩,call_meets F.slot_list_mul ⟨_,e,rfl⟩ F.entry_list_mul (F.args_list_mul_2 _ _) (AutoListH.list___mul___list_int_3 l its.toArray n k t hfit hcap hlong) ⟨e,?_⟩⟩)
 rw[hnew];exact ⟨.ref _,_,I.lnew (t':=s.toks) (r.rep k.toNat) (by rw[len_rep,cy];exact hz),rfl,q _ I.fresh⟩
end
end L2
namespace Att
open PySem PySem.W PySem.Calls PyProof.Rows
theorem Be:∀(ns:List Int) (vs:List Value),WellAll P h vs (ns.map WData.int)->IntsAre vs ns:=by
 intro ns
 induction ns with
 | nil =>
  intro vs w;rw[List.map_nil] at w;cases w;exact .nil
 | cons n ns ih =>
  intro vs w;rw[ib] at w;cases w with
  | cons a b =>
   cases a;exact .cons _ _ (ih _ b)
theorem Mz {l:OpenLaw} (hn:l.most=some n) 
  (hpre:l.row.toRowW.claim.pre args=true) (hwl:WellAll P h vals args) :
  ∃a vs ns,vals=[Value.ref a]/\args=[WData.list (ns.map WData.int)]/\h.get? a=some { cls:=.type "list",data:=.seq vs.toArray }/\IntsAre vs ns/\ns.length<=n:=by
 have hsh:WShape.hasAll [] args [.list .int]=true:=(pre_splitW hpre).1;have hc:l.pre.holds [] { args:=args }=true:=(pre_splitW hpre).2;obtain ⟨d,r,rfl,h1,h2⟩:=hasAllW_cons hsh;obtain rfl:=hasAllW_nil h2;obtain ⟨xs,rfl,h3⟩:=hasW_list h1;obtain ⟨ns,rfl⟩:=items_int h3
 have hlen:ns.length<=n:=by
  unfold OpenLaw.pre at hc
  have h4:(WTm.not (.lt (.lit (.int (n:Int))) (.len (.arg 0)))).holds [] { args:=[.list (ns.map .int)] }=true:=by
   have h4:=(holds_andW hc).1;rw[hn] at h4;exact h4
  have h5:=condW_of h4 (w_not (w_lt w_lit (w_len_list (w_arg rfl))));rw[ag] at h5;refine Nat.le_of_not_lt λq=>?_
  have q':(n:Int) < ((ns.length:Nat):Int):=by lia
  first
   | (rw[decide_eq_true q'] at h5;exact absurd h5 (by decide))
   | (simp at h5;lia)
 cases hwl with
 | cons w1 w2 =>
  cases w2;cases w1 with
  | list ho hall=>exact ⟨_,_,ns,rfl,rfl,ho,Be ns _ hall,hlen⟩
theorem MI (l:OpenLaw) (args:List WData):l.row.toRowW.claim.post args (.bool true) args=true :=
 postW_of (r:=l.row.toRowW) (X:=(true == true))
  (show WShape.has [] (.bool true) .bool=true by first | rfl | decide | simp [WShape.has,WShape.arms,WShape.armsAll])
  (show (WTm.eq .res (.lit (.bool true))).value [] { args:=args,res:=some (.bool true),after:=args }=some (.bool (true == true)) from w_eq_bool (w_res rfl) w_lit) rfl
theorem JB {l:OpenLaw} 
  (hn:l.most=some n) (hdf:d.params.defaults=[])
  (call:∀(w:World) (s₀ s₁:Shared) (mg mb:Str->Option Value) (fa:Addr) (o:Obj) (pm cd doc:Value) (a:Addr) (vs:List Value) (ns:List Int),
   Ground q loose [] XP w s₀ mg mb s₁.heap->YP w s₁.heap →
   s₁.heap.get? fa=some o->o.data=.func (docDef d.name d.params d.body d.scope pm cd doc)->s₁.heap.CodeRec cd d.name->mg d.name=some (.ref fa) →
   s₁.heap.get? a=some { cls:=.type "list",data:=.seq vs.toArray }->IntsAre vs ns->ns.length<=n->s₁.gens=#[] →
   codeAny (model l.prog w) callerA (.call (.ref fa) ⟨[.ref a],[]⟩) (λr s'=>r=.ok (.ret (.bool true))/\OldK s₁.heap s'.heap/\s'.os=s₁.os/\AllBare s'.gens) s₁) :
  WalkO q loose XP YP l.row.toRowW d [] (λf vs=>PySem.call f vs):=by
 intro w s₀ s₁ mg mb G Y fa o pm cd doc dV kV ho hd hcd hD hmg hg args vals as hpre hlay hrd hwl hlo;obtain rfl:dV=.none:=Dflts.none hD hdf;obtain rfl:kV=.none:=Dflts.noKw hD;obtain ⟨a,vs,ns,rfl,rfl,hobj,hints,hlen⟩:=Mz hn hpre hwl;refine enter_call (codeAny_mono (call w s₀ s₁ mg mb fa o pm cd doc a vs ns G Y ho (fd_plain hd) hcd hmg hobj hints hlen hg) λr s' hq=>?_);obtain ⟨rfl,h2,h3,h4⟩:=hq;exact ⟨.inl ⟨.bool true,.bool true,[],rfl,λ_=>rfl,.bool true,MI l _,λ_=>⟨List.Pairwise.nil,λ_ hm=>(nomatch hm)⟩⟩,h2,h3,h4⟩
section
variable {prog:Program} {w:World} {A:Around} {E:Value->Shared->Prop} {s:Shared} {K:Frag}
end
end Att
namespace L2
open PySem PySem.Spec PyProof.Rows
theorem El:∀{vs:List Value} {ns:List Int},IntsAre vs ns->cX (ns.map V.int) vs
 | _,_,.nil=>.nil
 | _,_,.cons n t h=>.cons ⟨t,rfl⟩ (El h)
def Uy (H:Hp):Prop:=∀b,H b=none\/∃o xs,H b=some (.frz o (.lst xs))
theorem OY {K:FG9} 
  (KX:K.In s₁.heap) (hns:s₁.heap.Ns mainGlobals mg) (hb:s₁.heap.Ns builtinsNs mb) (hbb:∀x:Str,x≠"__name__"->mb x=bootBuiltins x) (hlim:s₁.heap.NoLimit) (hsr:s₁.heap.NoSeer) (hg:s₁.gens=#[])
  (ha:s₁.heap.get? a=some { cls:=.type "list",data:=.seq vs.toArray }) (hi:IntsAre vs ns) (hl:ns.length<=sizeLine) (hr:kO k callerA)
  (F:∀base:Heap,K.In base->base.Ns mainGlobals mg->cD P w K mg base CX k fa fd [x] sp) (hbind:∀(s:Shared) (u:Value),BindsTo s fd ⟨[u],[]⟩ [(x,u)])
  (hsp:∀H:Hp,Uy H->bB K H a (ns.map V.int)->sp [.ref a] H (λv _=>v=.bl true) λ_ _ _=>False)
  (hCX:∀H e s',CX [] H s₁ (λ_ _ _=>False) e s'->False) :
  codeAny (model P w) callerA (.call (.ref fa) ⟨[.ref a],[]⟩) (λr s'=>r=.ok (.ret (.bool true))/\OldK s₁.heap s'.heap/\s'.os=s₁.os/\AllBare s'.gens) s₁:=by
 have rv:=El hi;have lenV:=hi.length
 have core:∀H:Hp,Uy H->bB K H a (ns.map V.int)->BC P w H s₁.heap->(∀b,H b≠none->b=a)->(H a≠none->K.lookup a=none) →
   codeAny (model P w) callerA (.call (.ref fa) ⟨[.ref a],[]⟩) (λr s'=>r=.ok (.ret (.bool true))/\OldK s₁.heap s'.heap/\s'.os=s₁.os/\AllBare s'.gens) s₁:=by
  intro H hO hS hok hA hK;have base_of:∀{b:Addr} {o:Obj},s₁.heap.get? b=some o->H b=none->(GY s₁.heap H).get? b=some o:=λe n=>O6 e n
  have noA:∀{b:Addr} {o:Obj} {es:Array DictEntry} {ep:Nat},s₁.heap.get? b=some o->o.data=.dict es ep->H b=none:=λ{b o es ep} e d=>by
   cases q:H b with
   | none=>rfl
   | some u =>
    have e':b=a:=hA b (by rw[q];simp);subst e';rw[ha] at e;cases e;have d':Data.seq vs.toArray _=Data.dict es ep:=d;cases d'
  have nsK:∀{b:Addr} {m:Str->Option Value},s₁.heap.Ns b m->(GY s₁.heap H).Ns b m:=λ{b m} ⟨o,es,ep,e,d,r⟩=>⟨o,es,ep,base_of e (noA e d),d,r⟩
  have hKb:K.In (GY s₁.heap H):=λb o e=>base_of (KX b o e) (by
   cases q:H b with
   | none=>rfl
   | some u =>
    have e':b=a:=hA b (by rw[q];simp);subst e';rw[hK (by rw[q];simp)] at e;cases e)
  have hM:Mod K mg (GY s₁.heap H):=⟨hKb,nsK hns,⟨mb,nsK hb,hbb⟩,let ⟨mc,h1,h2⟩:=hlim;⟨mc,nsK h1,h2⟩,⟨let ⟨mc,h1,h2⟩:=hsr.statics;⟨mc,nsK h1,h2⟩,let ⟨mm,h1,h2⟩:=hsr.mods;⟨mm,nsK h1,h2⟩,⟨mb,nsK hb,hbb⟩,let ⟨mg',bm,ob,h1,h2,h3,h4,h5⟩:=hsr.main;⟨mg',bm,ob,nsK h1,h2,base_of h3 (by
   cases q:H bm with
   | none=>rfl
   | some u =>
    have e':bm=a:=hA bm (by rw[q];simp);subst e';rw[ha] at h3;cases h3;injection h4 with q4
    exact absurd q4 (by decide)),h4,h5⟩⟩⟩
  have e0:Le P w K mg (GY s₁.heap H) callerA [] s₁ H:=⟨rfl,hM,λb o e=>Rm e,Nat.le_of_eq (M6 _ _),trivial,λb hb=>absurd (show b∈([]:List Addr) from hb) (by simp),hok,.of_eq hg⟩;refine codeAny_mono ((F _ hKb (nsK hns)).run callerA [] s₁ H ⟨[.ref a],[]⟩ [.ref a] [.ref a] _ _ hr e0 (hbind s₁ (.ref a)) (.cons rfl .nil) (hsp H hO hS)) λr s' h=>?_
  cases r with
  | error e=>exact (hCX H e s' h).elim
  | ok fl =>
   cases fl with
   | next=>exact False.elim h
   | brk=>exact False.elim h
   | cont=>exact False.elim h
   | ret u =>
    obtain ⟨v,H',os,bare,un,hok',r',q⟩:=h;have q':v=.bl true:=q;subst q';obtain rfl:u=Value.bool true:=r';refine ⟨rfl,OldK.of_keep λb o e=>?_,os,bare⟩;cases q:H b with
    | none=>exact un.keep b o e q (by intro z;exact absurd (show b∈([]:List Addr) from z) (by simp)) (by simp)
    | some u =>
     rcases hO b with z | ⟨ob,xs,z⟩
     ·rw[q] at z;cases z
     ·have z2:=un.frzs b ob _ z;obtain ⟨e1,_⟩:=hok b _ z;obtain ⟨e2,_⟩:=hok' b _ z2;rw[e] at e1;cases e1;exact e2
 cases hk:K.lookup a with
 | some o =>
  have e:=KX a o hk;rw[ha] at e;cases e;refine core (λ_=>none) (λ_=>.inl rfl) (.inr ⟨_,vs.toArray,_,hk,rfl,rfl,rfl,by rw[aF,lenV];exact hl,by simpa using rv⟩) (λb u z=>by have z':(none:Option HO)=some u:=z;cases z') (λb z=>absurd rfl z) λz=>absurd rfl z
 | none =>
  refine core (λb=>if b=a then some (.frz { cls:=.type "list",data:=.seq vs.toArray } (.lst (ns.map V.int))) else none) (λb=>?_) (.inl (.inr ⟨{ cls:=.type "list",data:=.seq vs.toArray },if_pos rfl⟩)) (λb u z=>?_) (λb z=>?_) λ_=>hk
  ·by_cases hb:b=a
   ·exact .inr ⟨_,_,if_pos hb⟩
   ·exact .inl (if_neg hb)
  ·by_cases hb:b=a
   ·have z':=(if_pos hb).symm.trans z;cases z';subst hb;exact ⟨ha,by rw[ag];exact hl,vs,_,rv,ha⟩
   ·have z':=(if_neg hb).symm.trans z;cases z'
  ·by_cases hb:b=a
   ·exact hb
   ·exact absurd (if_neg hb) z
theorem Qm {l:PySem.W.OpenLaw} {K:Params->FG9} {CX:World->PZ} {sp:World->Sp} 
  (hn:l.most=some n) (hn2:n<=sizeLine) (hdf:d.params.defaults=[]) (hr:kO k callerA) (hi:importsNone q=true)
  (hY:∀(w:World) (h:Heap),YP w h->(K w.params).In h)
  (F:∀(w:World) (mg:Str->Option Value) (fa:Addr) (h:Heap),(K w.params).In h->h.Ns mainGlobals mg->mg d.name=some (.ref fa) →
   ∃fd:FuncData,(∀(s:Shared) (u:Value),BindsTo s fd ⟨[u],[]⟩ [(x,u)]) /\
    ∀base:Heap,(K w.params).In base->base.Ns mainGlobals mg->cD l.prog w (K w.params) mg base (CX w) k fa fd [x] (sp w))
  (hsp:∀(w:World) (H:Hp) (a:Addr) (ns:List Int),ns.length<=n->Uy H->bB (K w.params) H a (ns.map V.int)->sp w [.ref a] H (λv _=>v=.bl true) λ_ _ _=>False)
  (hCX:∀(w:World) (H:Hp) (s:Shared) (e:Value) (s':Shared),CX w [] H s (λ_ _ _=>False) e s'->False) :
  PySem.W.WalkO q loose XP YP l.row.toRowW d [] (λf vs=>PySem.call f vs):=by
 refine Att.JB hn hdf λw s₀ s₁ mg mb fa o pm cd doc a vs ns G Y ho hd hcd hmg hobj hints hlen hg=>?_
 have KX:=hY w _ Y;obtain ⟨fd,hb,hF⟩:=F w mg fa _ KX G.T.g hmg;exact OY KX G.T.g G.T.b G.T.builtins G.T.nolimit (G.T.seer hi) hg hobj hints (ah hlen hn2) hr hF hb (λH hO hS=>hsp w H a ns hlen hO hS) λH e s'=>hCX w H s₁ e s'
end L2

namespace L2
open PySem PySem.Spec PyProof.Rows
def inClass (s:Stmt) (j:Nat):Stmt:=match s with
 | .ClassDef _ _ _ body _ _ _ _ _ _ _=>body.getD j (.Pass ⟨0,0,0,0⟩)
 | _=>.Pass ⟨0,0,0,0⟩
def kC (s:Stmt):Arguments:=match s with
 | .FunctionDef _ a _ _ _ _ _ _ _ _=>a
 | _=>{ posonlyargs:=[],args:=[],vararg:=none,kwonlyargs:=[],kw_defaults:=[],kwarg:=none,defaults:=[] }
def iL (s:Stmt):List Stmt:=match s with
 | .FunctionDef _ _ b _ _ _ _ _ _ _=>b
 | _=>[]
def dY (s:Stmt):Scope:=match s with
 | .FunctionDef _ _ _ _ _ _ sc _ _ _=>sc
 | _=>{ kind:=.function,names:=[],isGenerator:=false,isCoroutine:=false }
abbrev fA:PZ:=λ_ _ _ _ _ _=>False
abbrev E0:XK:=λ_ _ _=>False
theorem Cw:xp fA X E0:=λ_ _ _ _ _ _ _ h=>h.elim
structure Mm (K:FG9) (x qual:Str) (st:Stmt) (f:Addr) (fd:FuncData):Prop where
 ex:∃(oc:Value) (od:Option Addr) (kV doc pm:Value) (an:Option Addr) (cdv ct:Value) (osl:Array (Option Value)),
  fd=PySem.W.fnOf x qual (kC st) (iL st) (dY st) .none kV doc pm an cdv ct/\K.lookup f=some ⟨oc,od,.func fd,osl⟩/\PySem.W.codeIn K cdv qual=true
 kp:PySem.W.keepIn K (.ref f)=true
section
variable {P:Program} {w:World} {K:FG9} {mg:Str->Option Value} {base:Heap}
theorem Mm.ok {st:Stmt} (F:Mm K x qual st f fd) (S:vw N ps (dY st)) (len:∀vs H Q E,sp vs H Q E->vs.length=ps.length)
  (hbody:∀(cdv:Value) (A:Around) (outer:List Env) (s:Shared) (H:Hp) (vs:List V) (Q:VK) (E:XK),kO k (A.deeper (envOfC qual (dY st) s.heap.objs.size f cdv))->sp vs H Q E →
   ∃t,JZ (K3 fA P w K mg base N qual (dY st) f cdv A outer s H E).nox (iL st) t/\t { nx:=λ_ H'=>Q .non H',rt:=Q } (start N vs) H):cD P w K mg base fA (k+1) f fd ps sp:=by
 obtain ⟨oc,od,kV,doc,pm,an,cdv,ct,osl,rfl,lk,hcd⟩:=F.ex;refine VG lk hcd S len λA outer s H vs Q E hr hsp=>?_
 obtain ⟨t,h,q⟩:=hbody cdv A outer s H vs Q E hr hsp;exact ⟨t,h.nox,q⟩
theorem S8 {N ps:List Str} {vs:List V} (h:N.take ps.length=ps) (l:vs.length=ps.length):vs.length<=N.length:=by
 have:=congrArg List.length h;rw[bI] at this
 lia
theorem Mm.k {x qual:Str} {st:Stmt} {f:Addr} {fd:FuncData} {N ps:List Str} {k:Nat} {sp:Sp} (F:Mm K x qual st f fd) (S:vw N ps (dY st))
  (hbody:∀(cdv:Value) (A:Around) (outer:List Env) (s:Shared) (H:Hp) (vs:List V) (Q:VK) (E:XK) (hr:kO k (A.deeper (envOfC qual (dY st) s.heap.objs.size f cdv))) (h:sp vs H Q E),
   ∃t,JZ (K3 fA P w K mg base N qual (dY st) f cdv A outer s H E).nox (iL st) t/\t { nx:=λ_ H'=>Q .non H',rt:=Q } (UG N vs) H) (len:∀vs H Q E,sp vs H Q E->vs.length=ps.length:=by walk_at "n"):cD P w K mg base fA (k+1) f fd ps sp :=
 F.ok S len λcdv A outer s H vs Q E hr h=>by
  rw[Kg (S8 S.pre (len _ _ _ _ h))];exact hbody cdv A outer s H vs Q E hr h
theorem Mm.binds {st:Stmt} (F:Mm K x qual st f fd)
  (h:∀(kV doc pm:Value) (an:Option Addr) (cdv ct:Value) (us:List Value),us.length=ps.length->bindArgs (PySem.W.fnOf x qual (kC st) (iL st) (dY st) .none kV doc pm an cdv ct) ⟨us,[]⟩=pure (ps.zip us)):Binds K fd ps []:=by
 obtain ⟨oc,od,kV,doc,pm,an,cdv,ct,osl,rfl,lk,hcd⟩:=F.ex;exact .all (h kV doc pm an cdv ct)
theorem C3 {st:Stmt} {kV doc pm cdv ct:Value} (l:K.lookup f=some ⟨oc,od,.func (PySem.W.fnOf x qual (kC st) (iL st) (dY st) .none kV doc pm an cdv ct),osl⟩)
  (c:PySem.W.codeIn K cdv qual=true) (k:PySem.W.keepIn K (.ref f)=true):Mm K x qual st f (PySem.W.fnOf x qual (kC st) (iL st) (dY st) .none kV doc pm an cdv ct):=⟨⟨oc,od,kV,doc,pm,an,cdv,ct,osl,rfl,l,c⟩,k⟩
end
structure Df (K:FG9) (mg:Str->Option Value) (x:Str) (st:Stmt) (ps:List Str) (f:Addr) (fd:FuncData):Prop where
 m:mg x=some (.ref f)
 b:Binds K fd ps []
 F:Mm K x x st f fd
structure Dh (K:FG9) (x:Str) (st:Stmt) (f:Addr) (fd:FuncData):Prop where
 a:PySem.W.nsIn K mainGlobals x=some (some (.ref f))
 F:Mm K x x st f fd
theorem VH {K:FG9} {st:Stmt} {kV doc pm cdv ct:Value} (a:PySem.W.nsIn K mainGlobals x=some (some (.ref f))) (l:K.lookup f=some ⟨oc,od,.func (PySem.W.fnOf x x (kC st) (iL st) (dY st) .none kV doc pm an cdv ct),osl⟩) (c:PySem.W.codeIn K cdv x=true) (k:PySem.W.keepIn K (.ref f)=true):Dh K x st f (PySem.W.fnOf x x (kC st) (iL st) (dY st) .none kV doc pm an cdv ct):=⟨a,C3 l c k⟩
theorem Dh.D {K:FG9} {x:Str} {st:Stmt} {f:Addr} {fd:FuncData} {ps:List Str} {mg:Str->Option Value} {h:Heap} (d:Dh K x st f fd) (X:K.In h) (G:h.Ns mainGlobals mg) (hb:∀(kV doc pm:Value) (an:Option Addr) (cdv ct:Value) (us:List Value),us.length=ps.length->bindArgs (PySem.W.fnOf x x (kC st) (iL st) (dY st) .none kV doc pm an cdv ct) ⟨us,[]⟩=pure (ps.zip us):=by walk_at "b"):Df K mg x st ps f fd:=⟨PySem.W.mg_of X G d.a,d.F.binds hb,d.F⟩
abbrev Df.o {K:FG9} {mg:Str->Option Value} {x:Str} {st:Stmt} {ps:List Str} {f:Addr} {fd:FuncData} (_:Df K mg x st ps f fd) (P:Program) (w:World) (base:Heap) (k:Nat) (sp:Sp):Prop:=cD P w K mg base fA k f fd ps sp
theorem cE {X:Cx} {k k':Nat} {f:Addr} {fd:FuncData} {ps:List Str} {sp:Sp} {x:Str} {st:Stmt} {p pos:Pos} {e:Expr} {es:List Expr} {t:TA} (F:cD X.prog X.w X.K X.mg X.base fA k f fd ps sp) (hr:kO k' X.A) (D:Df X.K X.mg x st ps f fd) (ha:PA X (e :: es) t) (hle:k<=k':=by decide) (hg:Gl X x:=by exact rfl) (hdb:(x == ("__debug__":Str))=false:=by decide) (he:starEach (e :: es) X.env=(false,eval e X.env) :: starEach es X.env:=by rfl) (hpl:(backTo pos (starEach es X.env)).any (·.1)=false:=by rfl):PE X (.Call (.Name x p) (e :: es) [] pos) (NT sp [] E0 t):=Q8 F (hr.mono hle) hg D.m D.F.kp D.b .nil Cw ha hdb he hpl
theorem cS (h:n<=1000):n < sizeLine:=br h (by decide)
theorem lE {n:Nat} (h:n<=1000:=by lia):n<=sizeLine:=dh (cS h)
section
variable {X:Cx}
theorem pv (i:Nat) {x:Str} {pos:Pos} (hN:X.N[i]?=some x:=by rfl) (hv:Wr X.env.scope x:=by first | exact Or.inl rfl | exact Or.inr (Or.inl rfl) | exact Or.inr (Or.inr rfl)) (hd:(x == ("__debug__":Str))=false:=by decide)
  (hcd:(x == ("__classdict__":Str))=false:=by decide):PE X (.Name x pos) (S4 i):=TZ hN hv hd hcd
end
theorem O3 {A B:Prop} (h:B):if false=true then A else B:=by
 rw[if_neg bh];exact h
theorem Vw {A B:Prop} (h:A):if true=true then A else B:=by
 rw[if_pos rfl];exact h
theorem iD {c A B:Prop} [Decidable c] (h1:c->A) (h2:¬c->B):if c then A else B:=by
 by_cases h:c
 ·rw[if_pos h];exact h1 h
 ·rw[if_neg h];exact h2 h
def aB (H H':Hp):Prop:=∀b o,H b=some o->H' b=some o
theorem aB.refl (H:Hp):aB H H:=λ_ _ h=>h
theorem aB.trans (a:aB H H1) (b:aB H1 H2):aB H H2:=λc o h=>b c o (a c o h)
theorem aB.free (e:aB H H') (h:H' l=Option.none):H l=Option.none:=by
 cases q:H l with
 | none=>rfl
 | some o =>
  rw[e l o q] at h;cases h
theorem aB.seq {K:FG9} (e:aB H H') (h:bB K H a xs):bB K H' a xs:=by
 rcases h with (h | ⟨o,h⟩) | h
 ·exact .inl (.inl (e _ _ h))
 ·exact .inl (.inr ⟨o,e _ _ h⟩)
 ·exact .inr h
end L2
namespace Nm
theorem Pb (a b:Int):Int.gcd b (a.fmod b)=Int.gcd a b:=by
 rw[Int.fmod_def,lX a b];apply Nat.dvd_antisymm
 ·apply PX
  ·exact fE ..
  ·have h1:=fE (a:=b) (b:=a - b*a.fdiv b);have h2:=gM (a:=b) (b:=a - b*a.fdiv b);have h3:=Int.dvd_add h2 (ot (c:=a.fdiv b) h1);rwa [Int.sub_add_cancel] at h3
 ·apply PX
  ·exact fE ..
  ·exact Int.dvd_sub (gM ..) (ot (fE ..))
theorem Pc (a b:Int):Int.gcd b (a % b)=Int.gcd a b:=by
 rw[Int.emod_def,lX a b];apply Nat.dvd_antisymm
 ·apply PX
  ·exact fE ..
  ·have h1:=fE (a:=b) (b:=a - b*(a / b));have h2:=gM (a:=b) (b:=a - b*(a / b));have h3:=Int.dvd_add h2 (ot (c:=a / b) h1);rwa [Int.sub_add_cancel] at h3
 ·apply PX
  ·exact fE ..
  ·exact Int.dvd_sub (gM ..) (ot (fE ..))
theorem RD (a b:Int) (h:b≠0):(a.fmod b).natAbs < b.natAbs:=by
 rcases Int.lt_or_gt_of_ne h with h | h
 ·have e:a.fmod b=-((-a).fmod (-b)):=by
   have:=Int.neg_fmod_neg (-a) (-b);simp only[Int.neg_neg] at this;exact this
  have h1:=Int.fmod_nonneg_of_pos (-a) (b:=-b) (by lia);have h2:=Int.fmod_lt_of_pos (-a) (b:=-b) (by lia)
  lia
 ·have h1:=Int.fmod_nonneg_of_pos a h;have h2:=Int.fmod_lt_of_pos a h
  lia
def g (t b:Int):Int:=(Int.gcd t b:Int)
def lo (t b:Int):Int:=t / g t b
def hi (t b:Int):Int:=b / g t b
theorem C2 (h:b≠0):0 < g t b:=by
 unfold g;have:0 < Int.gcd t b:=Qd _ h
 lia
theorem CV (t b:Int):lo t b*g t b=t:=Int.ediv_mul_cancel (fE ..)
theorem zW (t b:Int):hi t b*g t b=b:=Int.ediv_mul_cancel (gM ..)
theorem G6 (h:0 < b):0 < hi t b:=by
 have h1:=C2 (t:=t) (b:=b) (by lia);have h2:=zW t b;by_cases h3:0 < hi t b
 ·exact h3
 ·have:hi t b*g t b<=0:=Int.mul_nonpos_of_nonpos_of_nonneg (by lia) (by lia)
  lia
theorem CT (h:b≠0):Int.gcd (lo t b) (hi t b)=1:=by
 have h1:=C2 (t:=t) h;have e:=Int.gcd_mul_right (lo t b) (g t b) (hi t b);rw[CV,zW] at e;have e2:(g t b).natAbs=Int.gcd t b:=by unfold g;simp
 rw[e2] at e;have h2:0 < Int.gcd t b:=Qd _ h;exact Nat.eq_of_mul_eq_mul_right h2 (by rw[<- e,sY])
theorem CU (t b:Int):lo t b*b=t*hi t b:=by
 have h1:=CV t b;have h2:=zW t b
 calc lo t b*b=lo t b*(hi t b*g t b):=by rw[h2]
  _=(lo t b*g t b)*hi t b:=by rw[gX (hi t b),<- dR]
  _=t*hi t b:=by rw[h1]
theorem rS (h:Int.gcd a b=1) (hd:a∣b*c):a∣c:=by
 have h1:a.natAbs∣b.natAbs*c.natAbs:=by rw[<- eT];exact fu.mpr hd
 have h2:Nat.Coprime a.natAbs b.natAbs:=h;exact fu.mp (h2.dvd_of_dvd_mul_left h1)
theorem uniq (hb:0 < b) (hd:0 < d) (h1:Int.gcd a b=1) (h2:Int.gcd c d=1) (e:a*d=c*b):a=c/\b=d:=by
 have e1:b∣d:=by
  have:b∣a*d:=⟨c,by rw[e,gX]⟩;exact rS (by rw[lX];exact h1) this
 have e2:d∣b:=by
  have:d∣c*b:=⟨a,by rw[<- e,gX]⟩;exact rS (by rw[lX];exact h2) this
 have e3:b=d:=Int.dvd_antisymm (by lia) (by lia) e1 e2;subst e3;exact ⟨wD (by lia) e,rfl⟩
theorem Ua (hb:0 < b) (hd:0 < d) (h2:Int.gcd c d=1) (e:t*d=c*b):lo t b=c/\hi t b=d:=by
 refine uniq (G6 hb) hd (CT (by lia)) h2 ?_;have h:=CU t b;have hb':b≠0:=by lia
 apply wD hb'
 calc lo t b*d*b=lo t b*b*d:=by rw[dR,gX d b,<- dR]
  _=t*hi t b*d:=by rw[h]
  _=t*d*hi t b:=by rw[dR,gX (hi t b),<- dR]
  _=c*b*hi t b:=by rw[e]
  _=c*hi t b*b:=by rw[dR,gX b,<- dR]
theorem Ub (hb:0 < b) (h:Int.gcd a b=1):lo a b=a/\hi a b=b:=Ua hb hb h rfl
theorem pe {a b:Int} (h:b≠0):a.natAbs<=(a*b).natAbs:=by
 rw[eT];exact ee _ (Int.natAbs_pos.mpr h)
theorem lo_le (h:b≠0):(lo t b).natAbs<=t.natAbs:=by
 have:=pe (a:=lo t b) (b:=g t b) (by have:=C2 (t:=t) h;lia);rwa [CV] at this
theorem SD (h:b≠0):(hi t b).natAbs<=b.natAbs:=by
 have:=pe (a:=hi t b) (b:=g t b) (by have:=C2 (t:=t) h;lia);rwa [zW] at this
def Sz (k:Nat) (x:Int):Prop:=x.natAbs < 2^k
theorem Sz.mono (h:Sz j x) (l:j<=k):Sz k x:=bD h (au (by decide) l)
theorem Sz.mul (h1:Sz j x) (h2:Sz k y):Sz (j+k) (x*y):=by
 unfold Sz at *
 rw[eT,aU];exact Nat.mul_lt_mul'' h1 h2
theorem Sz.neg (h:Sz k x):Sz k (-x):=by unfold Sz at *;rw[kS];exact h
theorem Sz.le (h:Sz k y) (l:x.natAbs<=y.natAbs):Sz k x:=br l h
theorem Sz.hi {k:Nat} {t b:Int} (h:Sz k b) (hb:b≠0):Sz k (hi t b):=h.le (SD hb)
end Nm
namespace L2
open PySem PySem.Spec PyProof.Rows
structure Bk (env:Env) (scope:Scope) (own capN:List Str):Prop where
 kind:scope.kind=.function
 locs:∀y∈scope.names,y.2=.local->scope.names.lookup y.1=some .local
 ownk:∀x∈own,scope.names.lookup x=some .local\/scope.names.lookup x=some .cell
 cells:∀y∈scope.names,y.2=.cell->y.1∈own/\y.1∉capN
 frees:∀y∈scope.names,y.2=.free->y.1∈capN/\y.1∉own
 capf:∀x∈capN,scope.names.lookup x=some .free
 caps:∀x∈capN,env.kindOf x=some .cell\/env.kindOf x=some .free
def V4 (scope:Scope) (own capN:List Str):Bool :=
 decide (scope.kind=.function) && scope.names.all (λy=>decide (y.2=.local->scope.names.lookup y.1=some .local) && decide (y.2=.cell->y.1∈own/\y.1∉capN) && decide (y.2=.free->y.1∈capN/\y.1∉own)) &&
 own.all (λx=>decide (scope.names.lookup x=some .local\/scope.names.lookup x=some .cell)) && capN.all λx=>decide (scope.names.lookup x=some .free)
def Fh (env:Env):List Str->Bool
 | []=>true
 | x :: r=>(match env.kindOf x with | some .cell=>true | some .free=>true | _=>false) && Fh env r
theorem Jy {env:Env}:∀{capN:List Str},Fh env capN=true->∀x∈capN,env.kindOf x=some .cell\/env.kindOf x=some .free
 | [],_,_,h=>nomatch h
 | y :: r,h,x,hx=>by
  unfold Fh at h;rw[eB] at h;rcases aH.mp hx with e | hx
  ·subst e;have h1:=h.1
   split at h1
   ·rename_i e;exact .inl e
   ·rename_i e;exact .inr e
   ·cases h1
  ·exact Jy h.2 x hx
theorem Bk.of (h1:V4 scope own capN=true) (h2:Fh env capN=true):Bk env scope own capN:=by
 unfold V4 at h1;rw[eB,eB,eB,qI,qI,qI] at h1;obtain ⟨⟨⟨a1,a2⟩,a3⟩,a4⟩:=h1
 have a2':∀y∈scope.names,(y.2=.local->scope.names.lookup y.1=some .local)/\(y.2=.cell->y.1∈own/\y.1∉capN)/\(y.2=.free->y.1∈capN/\y.1∉own):=λy hy=>by
  have q:=a2 y hy;rw[eB,eB] at q;exact ⟨of_decide_eq_true q.1.1,of_decide_eq_true q.1.2,of_decide_eq_true q.2⟩
 exact ⟨of_decide_eq_true a1,λy hy=>(a2' y hy).1,λx hx=>of_decide_eq_true (a3 x hx),λy hy=>(a2' y hy).2.1,λy hy=>(a2' y hy).2.2,λx hx=>of_decide_eq_true (a4 x hx),Jy h2⟩
def eI (env:Env):List (Str×NameKind)->List (Str×Addr)->List (Str×Addr)
 | [],acc=>acc
 | (n,k) :: r,acc=>if k == .free then eI env r ((n,(env.cells.lookup n).getD 0) :: acc) else eI env r acc
theorem jg (env:Env):∀(names:List (Str×NameKind)) (acc:List (Str×Addr)),eI env names acc=eI env names []++acc
 | [],_=>rfl
 | (n,k) :: r,acc=>by
  unfold eI
  split
  ·rw[jg env r (_ :: acc),jg env r [_],cm];rfl
  ·exact jg env r acc
theorem rW (env:Env):∀(names:List (Str×NameKind)) {x:Str} {c:Addr},(x,c)∈eI env names []->(x,NameKind.free)∈names/\c=(env.cells.lookup x).getD 0
 | [],_,_,h=>nomatch h
 | (n,k) :: r,x,c,h=>by
  unfold eI at h
  split at h
  ·rename_i hk
   have ek:k=.free:=by simpa using hk
   subst ek;rw[jg] at h;rcases av.mp h with h | h
   ·have q:=rW env r h;exact ⟨bJ _ q.1,q.2⟩
   ·have e:(x,c)=(n,(env.cells.lookup n).getD 0):=by simpa using h
    cases e;exact ⟨cH,rfl⟩
  ·have q:=rW env r h;exact ⟨bJ _ q.1,q.2⟩
theorem jR {α:Type}:∀{l:List (Str×α)} {x:Str} {c:α},(x,c)∈l->∃d,l.lookup x=some d
 | (k,v) :: r,x,c,h=>by
  rw[lW];cases hb:x == k with
  | true=>exact ⟨v,rfl⟩
  | false =>
   rcases aH.mp h with e | h
   ·cases e;simp at hb
   ·exact jR h
theorem rX (env:Env):∀(names:List (Str×NameKind)) {x:Str},(x,NameKind.free)∈names->∃c,(x,c)∈eI env names []
 | (n,k) :: r,x,h=>by
  unfold eI;rcases aH.mp h with e | h
  ·cases e;rw[if_pos (by decide),jg];exact ⟨_,cb _ cH⟩
  ·obtain ⟨c,q⟩:=rX env r h
   split
   ·rw[jg];exact ⟨c,sZ _ q⟩
   ·exact ⟨c,q⟩
theorem Dk (h:∀y∈scope.names,y.2=.free->∃c,env.cells.lookup y.1=some c):closureFor scope env=pure (eI env scope.names []):=by
 have gen:∀(names:List (Str×NameKind)) (acc:List (Str×Addr)) (f:Str×NameKind->List (Str×Addr)->Sem (ForInStep (List (Str×Addr)))),
   (∀name kind cells,f (name,kind) cells=if kind == .free then (do let a <- cellOf env name;pure (.yield ((name,a) :: cells))) else pure (.yield cells)) →
   (∀y∈names,y.2=.free->∃c,env.cells.lookup y.1=some c)->forIn names acc f=pure (eI env names acc):=by
  intro names
  induction names with
  | nil=>intro acc f hf _;rw[FF];rfl
  | cons y r ih =>
   intro acc f hf hh;obtain ⟨n,k⟩:=y;rw[Qb,hf];unfold eI;by_cases hk:(k == NameKind.free)=true
   ·obtain ⟨c,hc⟩:=hh (n,k) cH (by simpa using hk);have hc':env.cells.lookup n=some c:=hc;have e:cellOf env n=pure c:=by unfold cellOf;rw[hc']
    rw[if_pos hk,if_pos hk,e,hc'];simp only[pure_bind,A4];exact ih _ f hf λy hy=>hh y (bJ _ hy)
   ·rw[if_neg hk,if_neg hk];simp only[pure_bind];exact ih _ f hf λy hy=>hh y (bJ _ hy)
 simp only[closureFor];rw[gen scope.names [] _ (λname kind cells=>by cases hkc:kind == NameKind.free <;> simp [hkc]) h];rfl
theorem gP:∀(names:List (Str×NameKind)) (n:Nat) (acc:List (Str×Addr)),cellsFrom n names acc=cellsFrom n names []++acc
 | [],_,_=>rfl
 | (x,k) :: r,n,acc=>by
  unfold cellsFrom
  split
  ·rw[gP r (n+1) (_ :: acc),gP r (n+1) [_],cm];rfl
  ·exact gP r n acc
theorem lT:∀(names:List (Str×NameKind)) (n:Nat) {x:Str} {c:Addr},(x,c)∈cellsFrom n names []->(x,NameKind.cell)∈names
 | [],_,_,_,h=>nomatch h
 | (y,k) :: r,n,x,c,h=>by
  unfold cellsFrom at h
  split at h
  ·rename_i hk
   have ek:k=.cell:=by simpa using hk
   subst ek;rw[gP] at h;rcases av.mp h with h | h
   ·exact bJ _ (lT r _ h)
   ·have e:(x,c)=(y,n):=by simpa using h
    cases e;exact cH
  ·exact bJ _ (lT r _ h)
def zZ (env:Env) (scope:Scope) (C:Addr):Env :=
 { scope:=relabel scope env,locals:=C,globals:=env.globals,cells:=cellsFrom (C+1) scope.names (eI env scope.names []),qual:=env.qual,func:=none,code:=env.code,frame:=env.frame,builtins:=env.builtins }
theorem Jd 
  (h:Q (newEnv scope s.heap.objs.size g (cellsFrom (s.heap.objs.size+1) scope.names cl) qual none .none (some env) builtinsNs) { s with heap:=pushCells (s.heap.push { cls:=.type "dict",data:=.dict #[] }) scope.names }) :
  wpAny M A (newFunctionEnv scope g cl [] qual none .none (some env)) Q E s:=by
 simp only[newFunctionEnv,Option.isSome_some,if_true];refine wpAny_bind (wpAny_alloc ?_);refine wpAny_bind (wpAny_layCells _ (λname kind cells=>by cases hkc:kind == NameKind.cell <;> simp [hkc]) _ _ _ _ ?_);rw[show ({ s with heap:=s.heap.push { cls:=.type "dict",data:=.dict #[] } }:Shared).heap.objs.size=s.heap.objs.size+1 from Heap.size_push ..];rw[FF];exact wpAny_bind (wpAny_pure (wpAny_pure h))
theorem xJ:∀{k:NameKind},(relabel scope env).names.lookup x=some k->∃k0,scope.names.lookup x=some k0/\(k=k0\/(k0=.free/\k=.cell)):=by
 unfold relabel;show ∀{k:NameKind},(scope.names.map λ(n,k)=>if (k == NameKind.free && env.scope.kind == .function && env.kindOf n == some .cell) then (n,NameKind.cell) else (n,k)).lookup x=some k->_
 induction scope.names with
 | nil=>intro k h;cases h
 | cons y r ih =>
  intro k h;obtain ⟨n,k1⟩:=y;rw[ib,lW] at h;rw[lW];by_cases hc:(k1 == NameKind.free && env.scope.kind == .function && env.kindOf n == some .cell)=true
  ·simp only[hc,if_true] at h;cases hb:x == n with
   | true =>
    simp only[hb] at h
    have e1:k1=.free:=by
     rw[eB,eB] at hc;simpa using hc.1.1
    cases h;exact ⟨k1,rfl,.inr ⟨e1,rfl⟩⟩
   | false=>simp only[hb] at h;exact ih h
  ·have hc':(k1 == NameKind.free && env.scope.kind == .function && env.kindOf n == some .cell)=false:=by simpa using hc
   simp only[hc',jL,if_false] at h;cases hb:x == n with
   | true=>simp only[hb] at h;cases h;exact ⟨_,rfl,.inl rfl⟩
   | false=>simp only[hb] at h;exact ih h
theorem IM:scope.names.lookup x=some .free->(relabel scope env).names.lookup x=some .cell\/(relabel scope env).names.lookup x=some .free:=by
 unfold relabel;show _->(scope.names.map λ(n,k)=>if (k == NameKind.free && env.scope.kind == .function && env.kindOf n == some .cell) then (n,NameKind.cell) else (n,k)).lookup x=some .cell\/(scope.names.map λ(n,k)=>if (k == NameKind.free && env.scope.kind == .function && env.kindOf n == some .cell) then (n,NameKind.cell) else (n,k)).lookup x=some .free
 induction scope.names with
 | nil=>intro h;cases h
 | cons y r ih =>
  intro h;obtain ⟨n,k1⟩:=y;rw[lW] at h;rw[ib];by_cases hc:(k1 == NameKind.free && env.scope.kind == .function && env.kindOf n == some .cell)=true
  ·simp only[hc,if_true,lW];cases hb:x == n with
   | true=>exact .inl rfl
   | false=>rw[hb] at h;exact ih h
  ·have hc':(k1 == NameKind.free && env.scope.kind == .function && env.kindOf n == some .cell)=false:=by simpa using hc
   simp only[hc',jL,if_false,lW];cases hb:x == n with
   | true=>rw[hb] at h;cases h;exact .inr rfl
   | false=>rw[hb] at h;exact ih h
structure Bz where
 s:Shared
 H:Hp
 fp:List Addr
 C:Addr
def Bg (X:Cx) (own capN:List Str) (scope:Scope) (Z:Bz):Cx where
 prog:=X.prog
 w:=X.w
 K:=X.K
 mg:=X.mg
 base:=X.base
 A:=X.A
 N:=own++capN
 s₀:=Z.s
 H₀:=Z.H
 env:=zZ X.env scope Z.C
 outer:=X.stack
 stack:=X.stack
 ex:=Z.fp
 fn:=λx=>own.contains x
 calm:=true
 pn:=[]
 xe:=λ_ _=>False
section
variable {X:Cx} {pins:List (Addr×Obj)} {σ:St} {own capN:List Str} {scope:Scope} {Z:Bz}
theorem jW (B:Bk X.env scope own capN) (I:Inv X pins σ Z.H Z.s) (h:(zZ X.env scope Z.C).cells.lookup x=some c) :
  (x∈own/\(x,c)∈cellsFrom (Z.C+1) scope.names [])\/(x∈capN/\x∉own/\X.env.cells.lookup x=some c):=by
 have h':(cellsFrom (Z.C+1) scope.names (eI X.env scope.names [])).lookup x=some c:=h;rw[gP] at h';rcases av.mp (mem_of_lookup h') with m | m
 ·exact .inl ⟨(B.cells _ (lT _ _ m) rfl).1,m⟩
 ·obtain ⟨m1,e⟩:=rW _ _ m;obtain ⟨q1,q2⟩:=B.frees _ m1 rfl;obtain ⟨d,hd⟩:=I.ok.has x (B.caps x q1);rw[hd] at e;exact .inr ⟨q1,q2,by rw[hd,e];rfl⟩
theorem RS (B:Bk X.env scope own capN) (I:Inv X pins σ Z.H Z.s) (hx:x∈capN) (h:X.env.cells.lookup x=some c):(zZ X.env scope Z.C).cells.lookup x=some c:=by
 have hm:(x,NameKind.free)∈scope.names:=mem_of_lookup (B.capf x hx);obtain ⟨c1,m1⟩:=rX X.env scope.names hm
 have hs:∃d,(zZ X.env scope Z.C).cells.lookup x=some d:=by
  show ∃d,(cellsFrom (Z.C+1) scope.names (eI X.env scope.names [])).lookup x=some d
  rw[gP];exact jR (cb _ m1)
 obtain ⟨d,hd⟩:=hs;rcases jW B I hd with ⟨q,m⟩ | ⟨_,_,q⟩
 ·exact absurd hx (B.cells _ (lT _ _ m) rfl).2
 ·rw[h] at q;cases q;exact hd
theorem MK (h:Heap) (C:Addr) (hC:h.objs.size=C+1) (names:List (Str×NameKind)):CellsOk (pushCells h names) (C+1) (cellsFrom (C+1) names []):=by
 have q:=cellsFrom_ok names h (C+1) [] ⟨λ_ _ hm=>(nomatch hm),List.Pairwise.nil⟩ (by rw[hC];exact ar _);rwa [hC] at q
theorem HG (I:Inv X pins σ Z.H Z.s) (h:X.env.cells.lookup x=some c):@LT.lt Nat instLTNat c Z.s.heap.objs.size:=by
 obtain ⟨v,q⟩:=I.cell x c h;exact q.lt
theorem Uv (I:Inv X pins σ Z.H Z.s) (hc:X.calm=true) (B:Bk X.env scope own capN) (hC:Z.s.heap.objs.size<=Z.C) (hcl:CellsOk h1 (Z.C+1) (cellsFrom (Z.C+1) scope.names []))
  (hf:∀b∈Z.fp,lJ X pins Z.H b/\@LT.lt Nat instLTNat b Z.s.heap.objs.size):(Bg X own capN scope Z).Ok:=by
 refine ⟨I.ok.mod,B.kind,I.ok.glob,I.ok.blt,hC,λx y c h1 h2=>?_,λx hx=>?_,λx c hx h=>?_,λ_=>I.ok.hd hc,I.ok.frames,.inl rfl,λb hb=>⟨?_,λx c h=>?_⟩,I.bs,ah I.ok.bsz I.sz,λb o e hb=>?_,λb hb hz=>?_,I.stack,I.stkFree⟩
 ·rcases jW B I h1 with ⟨q1,m1⟩ | ⟨q1,n1,m1⟩ <;> rcases jW B I h2 with ⟨q2,m2⟩ | ⟨q2,n2,m2⟩
  ·exact name_of_addr hcl.apart m1 m2
  ·have l1:=(hcl.empty _ _ m1).2;have l2:=HG I m2
   lia
  ·have l1:=(hcl.empty _ _ m2).2;have l2:=HG I m1
   lia
  ·exact I.ok.inj x y c m1 m2
 ·have hx':(relabel scope X.env).names.lookup x=some .cell\/(relabel scope X.env).names.lookup x=some .free:=hx
  have hk:scope.names.lookup x=some .cell\/scope.names.lookup x=some .free:=by
   rcases hx' with h | h
   ·obtain ⟨k0,e,q | ⟨q,_⟩⟩:=xJ h
    ·exact .inl (by rw[e,<- q])
    ·exact .inr (by rw[e,q])
   ·obtain ⟨k0,e,q | ⟨_,q⟩⟩:=xJ h
    ·exact .inr (by rw[e,<- q])
    ·cases q
  show ∃c,(cellsFrom (Z.C+1) scope.names (eI X.env scope.names [])).lookup x=some c
  rcases hk with h | h
  ·exact UM.mp (BD scope.names (Z.C+1) _ (.inl h))
  ·obtain ⟨c,m⟩:=rX X.env scope.names (mem_of_lookup h);rw[gP];exact jR (cb _ m)
 ·have ho:x∈own:=by have hx':own.contains x=true:=hx;simpa using hx'
  rcases jW B I h with ⟨_,m⟩ | ⟨_,n,_⟩
  ·have:=(hcl.empty _ _ m).2;have hC':Z.s.heap.objs.size<=Z.C:=hC;show Z.s.heap.objs.size<=c
   lia
  ·exact absurd ho n
 ·intro e;have e':@Eq Nat b Z.C:=e;have:=(hf b hb).2
  lia
 ·have l:=(hf b hb).2;rcases jW B I h with ⟨_,m⟩ | ⟨_,_,m⟩
  ·intro e;have e':@Eq Nat c b:=e;have:=(hcl.empty _ _ m).2
   lia
  ·exact (hf b hb).1.2.2.2.2.1 x c m
 ·obtain ⟨_,_,_,f3,_⟩:=(hf b hb).1;rcases f3 with f3 | f3
  ·exact I.ok.noex b o e f3
  ·exact absurd (bD (Heap.lt_size e) (ah I.ok.bsz f3)) (dQ _)
 ·obtain ⟨_,f1,f2,_⟩:=(hf b hb).1;rcases aH.mp (I.stkSub b hz) with e | e
  ·exact f1 e
  ·exact f2 e
def Nv (k:Nat) (cap:List Nat) (σ:St):St:=List.replicate k none++cap.map λj=>(σ[j]?).join
def A1 (X:Cx) (capN:List Str) (cap:List Nat):Prop:=cap.map (λj=>X.N[j]?)=capN.map some
theorem A1.get (h:A1 X capN cap) {i:Nat} (e:capN[i]?=some x):∃j,cap[i]?=some j/\X.N[j]?=some x:=by
 have q:=congrArg (λl=>l[i]?) h;simp only[aA,e,Option.map_some] at q;cases hc:cap[i]? with
 | none=>rw[hc] at q;cases q
 | some j=>rw[hc] at q;exact ⟨j,rfl,by simpa using q⟩
theorem Jz (I:Inv X pins σ Z.H Z.s) (B:Bk X.env scope own capN) (hcap:A1 X capN cap)
  (kc:∀x c,X.env.cells.lookup x=some c->∀v,Z.s.heap.IsCell c v->h'.IsCell c v) {i:Nat} (e1:(own++capN)[i]?=some x) (e2:(Nv own.length cap σ)[i]?=some (some v)) :
  ∃u,RelV v u/\Look (zZ X.env scope Z.C) h' m x u:=by
 have hi:own.length<=i:=by
  by_cases hi:own.length<=i
  ·exact hi
  ·exfalso
   unfold Nv at e2;rw[bM (by simpa using hi),oo] at e2
   split at e2 <;> cases e2
 rw[bg hi] at e1;unfold Nv at e2;rw[bg (by simpa using hi),bA,aA] at e2;obtain ⟨j,hj,hN⟩:=hcap.get e1;rw[hj] at e2;have e3:(σ[j]?).join=some v:=by simpa using e2
 have e4:σ[j]?=some (some v):=by
  cases q:σ[j]? with
  | none=>rw[q] at e3;cases e3
  | some o=>rw[q] at e3;simp at e3;rw[e3]
 have hx:x∈capN:=ak e1;have hk:=B.caps x hx;obtain ⟨m0,_,hl⟩:=I.loc;obtain ⟨u,r,l⟩:=hl j x v hN e4 (.inr hk);refine ⟨u,r,.inr ⟨IM (B.capf x hx),?_⟩⟩;rcases l with ⟨hk2,_⟩ | ⟨_,c,hc,z⟩
 ·rcases hk with hk | hk
  ·rw[hk] at hk2;cases hk2
  ·rw[hk] at hk2;cases hk2
 ·exact ⟨c,RS B I hx hc,kc x c hc _ z⟩
theorem VE (I:Inv X pins σ Z.H Z.s) (h:b∈Ny X.stack):@LT.lt Nat instLTNat b Z.s.heap.objs.size:=by
 obtain ⟨_,o,ho,_⟩:=I.stack.mem h;exact Heap.lt_size ho
theorem RO {D:Addr} (I:Inv X pins σ Z.H Z.s) (hc:X.calm=true) (B:Bk X.env scope own capN) (hcap:A1 X capN cap) (hC:Z.s.heap.objs.size<=Z.C)
  (hcl:CellsOk h1 (Z.C+1) (cellsFrom (Z.C+1) scope.names [])) (hf:∀b∈Z.fp,lJ X pins Z.H b/\@LT.lt Nat instLTNat b Z.s.heap.objs.size)
  (hk:∀b o,Z.s.heap.get? b=some o->h1.get? b=some o) (hn:h1.Ns Z.C λ_=>none) (hD:Z.s.heap.objs.size<=D) (hDC:D≠Z.C) (hoD:h1.get? D=some oD) (hdD:∀v,oD.data≠.cell v) :
  Inv (Bg X own capN scope Z) [(D,oD)] (Nv own.length cap σ) Z.H { Z.s with heap:=h1,toks:=t1 }:=by
 refine ⟨Uv I hc B hC hcl hf,rfl,I.bare,Un.kept hk,⟨_,hn,λi x v e1 e2 _=>Jz I B hcap (λx c _ v z=>z.keeps hk) e1 e2⟩,λx c h=>?_,I.hok.fresh hC,λx c h=>?_,λp hp=>?_,I.hok.kept hk,?_⟩
 ·rcases jW B I h with ⟨_,m⟩ | ⟨_,_,m⟩
  ·exact ⟨none,(hcl.empty _ _ m).1⟩
  ·obtain ⟨v,q⟩:=I.cell x c m;exact ⟨v,q.keeps hk⟩
 ·rcases jW B I h with ⟨_,m⟩ | ⟨_,_,m⟩
  ·exact I.hok.fresh (by have:=(hcl.empty _ _ m).2;lia)
  ·exact I.freeC x c m
 ·have e:p=(D,oD):=by simpa [Bg] using hp
  subst e;exact ⟨hoD,I.hok.fresh hD,hDC,λz=>dQ _ (bD (VE I z) hD),hdD⟩
 ·show (Nv own.length cap σ).length=(own++capN).length
  have:=congrArg List.length hcap;simp only[ag] at this;unfold Nv;simp [this]
theorem PH {σ':St} (I:Inv X pins σ Z.H Z.s) (B:Bk X.env scope own capN) (hcap:A1 X capN cap) (hf:∀b∈Z.fp,lJ X pins Z.H b/\@LT.lt Nat instLTNat b Z.s.heap.objs.size)
  (J:Inv (Bg X own capN scope Z) pins' σ' H' s'):Inv (Bg X own capN scope Z) pins' (Nv own.length cap σ) H' s':=by
 refine ⟨J.ok,J.os,J.bare,J.base,?_,J.cell,J.free,J.freeC,J.pin,J.hok,?_⟩
 ·obtain ⟨m,hn,_⟩:=J.loc;refine ⟨m,hn,λi x v e1 e2 _=>Jz I B hcap (λx c hx v z=>?_) e1 e2⟩;obtain ⟨o,ho,hd⟩:=z;obtain ⟨sl,e⟩:=J.base.any ho (I.freeC x c hx) λz=>(hf c z).1.2.2.2.2.1 x c hx rfl
  exact ⟨_,e,hd⟩
 ·show (Nv own.length cap σ).length=(own++capN).length
  have:=congrArg List.length hcap;simp only[ag] at this;unfold Nv;simp [this]
theorem RQ {σ':St} {D:Addr} (I:Inv X pins σ Z.H Z.s) (hf:∀b∈Z.fp,lJ X pins Z.H b/\@LT.lt Nat instLTNat b Z.s.heap.objs.size) (hD:Z.s.heap.objs.size<=D)
  (J:Inv (Bg X own capN scope Z) [(D,{ cls:=.type "list",data:=.seq its.toArray n })] σ' H' s') (r:cX ys its) (hz:ys.length<=sizeLine) :
  Inv X pins σ (upd H' D (.lst ys)) s':=by
 have pD:=J.pin (D,{ cls:=.type "list",data:=.seq its.toArray n }) (by simp);have ne:∀{b:Addr} {o:Obj},Z.s.heap.get? b=some o->b≠D:=λe z=>by subst z;exact dQ _ (bD (Heap.lt_size e) hD)
 have nt:∀{b:Addr} {u:HO},H' b=some u->b≠D:=λe z=>by rw[z,pD.2.1] at e;cases e
 refine I.call' (ch:=Z.fp) J.os ⟨J.base.keep,J.base.slot,λb o e h hx=>?_,J.base.there,λb xs e=>?_,λb o u e=>?_,λb ps e=>?_⟩ (λb u e=>?_) J.bare λb hb=>?_
 ·rw[bc (ne e)];exact J.base.free b o e h hx
 ·have q:=J.base.tups b xs e;rw[bc (nt q)];exact q
 ·have q:=J.base.frzs b o u e;rw[bc (nt q)];exact q
 ·obtain ⟨more,q⟩:=J.base.tbls b ps e;exact ⟨more,by rw[bc (nt q)];exact q⟩
 ·by_cases hb:b=D
  ·subst hb;rw[aD] at e;cases e;exact ⟨hz,its,n,r,pD.1⟩
  ·rw[bc hb] at e;exact (J.hok b u e).stay (λc v _ q=>q) (λc q=>by rw[bc (nt q)];exact q) λc xs q=>by rw[bc (nt q)];exact q
 ·obtain ⟨_,f1,_,f3,f4,f5⟩:=(hf b hb).1;exact ⟨f3,f1,f4,f5⟩
end
theorem S3 {t:Sem α} {Q Q':α->Shared->Prop} (h:wpAny M A t Q (λ_ _=>False) s) (hQ:∀a s,Q a s->Q' a s):wpAny M A t Q' E s :=
 wpAny_mono h hQ λ_ _ z=>False.elim z
theorem Hw (I:Nat->Shared->Prop)
  (turn:∀(E:Value->Shared->Prop) n s,I n s->wpAny (model prog w) A (pyNext it) (λr s₁=>match r with
   | none=>R (.ok .next) s₁
   | some v=>wpAny (model prog w) A (letOwnedTupleGo target it v) (λ_ s₂=>wpAny (model prog w) A (assign target env v) (λ_ s₃ =>
     wpAny (model prog w) A (forIn ifs true λc r=>if r=true then do let ok <- isTrue c env (eval c env);pure (ForInStep.yield ok) else pure (ForInStep.yield r)) (λok s₄ =>
      if ok=true then wpAny (model prog w) A (eval elt env) (λx s₅=>wpAny (model prog w) A (call (.builtin "list.append") [acc,x]) (λ_ s₆=>∃m,m < n/\I m s₆) E s₅) E s₄
      else ∃m,m < n/\I m s₄) E s₃) E s₂) E s₁) E s)
  (n:Nat) (h:I n s):codeAny (model prog w) A (.compLoop (.ListComp elt [⟨target,iter,ifs,0⟩] scope pos) 0 it acc env) R s:=by
 refine codeAny_loop rfl I (λn s hI=>?_) n h;show wpAny _ A ((compTurn (.ListComp elt [⟨target,iter,ifs,0⟩] scope pos) 0 it acc env).onRaise (λx=>do noteFrame x env;theTreesLotGoes x)) _ _ s
 refine wpAny_noted ?_;rw[compTurn_list];refine wpAny_bind (wpAny_standAt (wpAny_bind (wpAny_mono (turn _ n s hI) (λr s₁ h₁=>?_) λ_ _ h'=>h')));cases r with
 | none=>exact wpAny_pure h₁
 | some v =>
  refine wpAny_bind (wpAny_mono h₁ (λ_ s₂ h₂=>wpAny_bind (wpAny_mono h₂ (λ_ s₃ h₃=>wpAny_bind (wpAny_mono h₃ (λok s₄ h₄=>?_) λ_ _ h'=>h')) λ_ _ h'=>h')) λ_ _ h'=>h');cases ok with
  | false=>exact wpAny_pure ⟨rfl,h₄⟩
  | true =>
   exact wpAny_bind (wpAny_bind (wpAny_mono h₄ (λx s₅ h₅=>wpAny_bind (wpAny_mono h₅ (λ_ s₆ h₆=>wpAny_pure (wpAny_pure ⟨rfl,h₆⟩)) λ_ _ h'=>h')) λ_ _ h'=>h'))
def PF (X:Cx) (ifs:List Expr) (t:TT):Prop :=
 ∀(pins:List (Addr×Obj)) (s:Shared) (σ:St) (H:Hp) (Q:Bool->Hp->Prop),Inv X pins σ H s->t σ H Q →
  wpAny (model X.prog X.w) X.A (forIn ifs true λc r=>if r=true then do let ok <- isTrue c X.env (eval c X.env);pure (ForInStep.yield ok) else pure (ForInStep.yield r)) (TP X pins σ Q) X.xe s
def UQ:TT:=λ_ H Q=>Q true H
theorem cG:PF X [] UQ:=λ_ _ _ H _ I h=>wpAny_tests_nil ⟨H,I,h⟩
theorem Ge (h:PT X c t):PF X [c] t:=λpins s σ H Q I hw=>wpAny_tests_one (h pins s σ H Q I hw)
def pP (σ₀:St) (g:TG) (tf:TT) (te:TE) (x:V) (H:Hp) (NY:V->Hp->Prop) (NN:Hp->Prop):Prop :=
 g x σ₀ H λσ2 H2=>tf σ2 H2 λb H3=>if b=true then te σ2 H3 NY else NN H3
def qG (J:It) (σ₀:St) (g:TG) (tf:TT) (te:TE) (Q:VK) (H1:Hp):Prop :=
 ∃W:Nat->Nat->List V->Hp->Prop,(∃m,W 0 m [] H1)/\∀i m ys H,W i m ys H →
  (J.stop i H/\ys.length<=sizeLine/\∀p,H p=none->Q (.ref p) (upd H p (.lst ys))) \/
  (J.go i H/\ys.length < sizeLine/\∃(NY:V->Hp->Prop) (NN:Hp->Prop),(∀y H',NY y H'->∃m',m' < m/\W (i+1) m' (ys++[y]) H')/\(∀H',NN H'->∃m',m' < m/\W (i+1) m' ys H') /\
   ∀x H',J.yld i H x H'->pP σ₀ g tf te x H' NY NN)
def Ij (wi:TI) (k:Nat) (cap:List Nat) (g:TG) (tf:TT) (te:TE):TE:=λσ H Q=>wi σ H λJ H1=>qG J (Nv k cap σ) g tf te Q H1
abbrev lobj (its:List Value) (n:Nat):Obj:={ cls:=.type "list",data:=.seq its.toArray n }
section
variable {X:Cx} {own capN:List Str} {cap:List Nat} {scope:Scope} {elt tg iter:Expr} {ifs:List Expr} {pos:Pos} {wi:TI} {g:TG} {tf:TT} {te:TE}
theorem Fe (hc:X.calm=true) (B:Bk X.env scope own capN) (hcap:A1 X capN cap)
  (hi:PI X tg iter wi) (hg:∀Z,PG (Bg X own capN scope Z) tg g) (hf:∀Z,PF (Bg X own capN scope Z) ifs tf) (he:∀Z,PE (Bg X own capN scope Z) elt te)
  (hs:∀x,foldedSetIterable iter X.env x=pure x) {σ:St} (I:Inv X pins σ H s) (h:Ij wi own.length cap g tf te σ H Q)
  (fin:∀(D C:Addr) (s':Shared) (H':Hp),Inv X pins σ H' s'->lJ X pins H' C->(∃m,s'.heap.Ns C m)->Q (.ref D) H'->compPost (model X.prog X.w) X.A X.xe use Qe (.ref D) C (.ok .next) s') :
  wpAny (model X.prog X.w) X.A (comprehension (.ListComp elt [⟨tg,iter,ifs,0⟩] scope pos) scope X.env fpos (newList []) false (eval iter X.env) use) Qe X.xe s:=by
 refine wpAny_comprehension_free (use:=use) rfl hs (Dk λy hy hk=>I.ok.has y.1 (B.caps _ (B.frees y hy hk).1)) B.kind B.locs ?_;refine iw (hi pins s σ H _ I h) λv s1 h1=>iw h1 λitv s2 h2=>?_
 obtain ⟨it,fp,tn,J,H2,e,I2,T,st2,f2,W,⟨m0,w0⟩,turn⟩:=h2;subst e;have hfp:∀b∈fp,lJ X pins H2 b/\@LT.lt Nat instLTNat b s2.heap.objs.size:=λb hb=>⟨f2 b hb,let ⟨_,e,_⟩:=T.obj _ _ st2 b hb;Heap.lt_size e⟩
 refine wpAny_newObj_type (Jd ?_) (a7 _);have es:(s2.heap.push { cls:=.type "list",data:=.seq ([]:List Value).toArray }).objs.size=s2.heap.objs.size+1:=Heap.size_push ..
 show codeAny _ _ (.compStart _ 0 (.ref it) (.ref s2.heap.objs.size) { newEnv scope (s2.heap.push { cls:=.type "list",data:=.seq ([]:List Value).toArray }).objs.size X.env.globals (cellsFrom ((s2.heap.push { cls:=.type "list",data:=.seq ([]:List Value).toArray }).objs.size+1) scope.names (eI X.env scope.names [])) X.env.qual none .none (some X.env) builtinsNs with scope:=relabel scope X.env })
  (compPost (model X.prog X.w) X.A X.xe use Qe (.ref s2.heap.objs.size) (s2.heap.push { cls:=.type "list",data:=.seq ([]:List Value).toArray }).objs.size)
  { s2 with heap:=pushCells ((s2.heap.push { cls:=.type "list",data:=.seq ([]:List Value).toArray }).push { cls:=.type "dict",data:=.dict #[] }) scope.names }
 have hk1:∀b o,(s2.heap.push { cls:=.type "list",data:=.seq ([]:List Value).toArray }).get? b=some o->(pushCells ((s2.heap.push { cls:=.type "list",data:=.seq ([]:List Value).toArray }).push { cls:=.type "dict",data:=.dict #[] }) scope.names).get? b=some o :=
  λb o e=>pushCells_keeps _ _ _ _ (Heap.get?_push_of_some _ e)
 have hk:∀b o,s2.heap.get? b=some o->(pushCells ((s2.heap.push { cls:=.type "list",data:=.seq ([]:List Value).toArray }).push { cls:=.type "dict",data:=.dict #[] }) scope.names).get? b=some o:=λb o e=>hk1 b o (Heap.get?_push_of_some _ e)
 have hoD:=hk1 s2.heap.objs.size _ (Heap.get?_push_size s2.heap (o:={ cls:=.type "list",data:=.seq ([]:List Value).toArray }) rfl);have hn:=(Heap.Ns.new (s2.heap.push { cls:=.type "list",data:=.seq ([]:List Value).toArray }) (.type "dict")).keeps (pushCells_keeps scope.names _);have hcl:=MK ((s2.heap.push { cls:=.type "list",data:=.seq ([]:List Value).toArray }).push { cls:=.type "dict",data:=.dict #[] }) (s2.heap.objs.size+1) (by rw[Heap.size_push,es]) scope.names;rw[es] at hn ⊢;generalize pushCells ((s2.heap.push { cls:=.type "list",data:=.seq ([]:List Value).toArray }).push { cls:=.type "dict",data:=.dict #[] }) scope.names=h3 at hk hoD hn hcl ⊢;have Z:Bz:=⟨s2,H2,fp,s2.heap.objs.size+1⟩
 have I3:Inv (Bg X own capN scope ⟨s2,H2,fp,s2.heap.objs.size+1⟩) [(s2.heap.objs.size,lobj [] 0)] (Nv own.length cap σ) H2 { s2 with heap:=h3 } :=
  RO (Z:=⟨s2,H2,fp,s2.heap.objs.size+1⟩) (t1:=s2.toks) I2 hc B hcap (oj _) hcl hfp hk hn (ar _) (c7 (jm _)) hoD (λv z=>nomatch z)
 have st3:tn 0 h3:=T.keep _ _ _ st2 λb _ o e=>hk b o e
 have loop:codeAny (model X.prog X.w) X.A (.compLoop (.ListComp elt [⟨tg,iter,ifs,0⟩] scope pos) 0 (.ref it) (.ref s2.heap.objs.size) (zZ X.env scope (s2.heap.objs.size+1))) (compPost (model X.prog X.w) X.A X.xe use Qe (.ref s2.heap.objs.size) (s2.heap.objs.size+1)) { s2 with heap:=h3 }:=by
  refine Hw (λm s'=>∃i ys σ' H' its n,Inv (Bg X own capN scope ⟨s2,H2,fp,s2.heap.objs.size+1⟩) [(s2.heap.objs.size,lobj its n)] σ' H' s'/\tn i s'.heap/\(∀b∈fp,H' b=none)/\cX ys its/\W i m ys H') ?_ m0
   ⟨0,[],_,H2,[],0,I3,st3,λb hb=>(f2 b hb).1,.nil,w0⟩
  rintro E n s4 ⟨i,ys,σ4,H4,its,k,I4,st4,fr4,rv,w4⟩
  have fpo:∀{pp:List (Addr×Obj)} {H':Hp},(∀p∈pp,p.1=s2.heap.objs.size)->(∀b∈fp,H' b=none)->∀b∈fp,lJ (Bg X own capN scope ⟨s2,H2,fp,s2.heap.objs.size+1⟩) pp H' b:=λ{pp H'} hpp hn b hb=>by
   obtain ⟨e1,e2⟩:=I4.ok.exf b hb;refine ⟨hn b hb,e1,I4.ok.exfs b hb,.inl hb,e2,λp hp=>?_⟩;have hp':p∈pp:=by simpa [Bg] using hp
   have l:=(hfp b hb).2;rw[hpp p hp'];exact λz=>dQ _ (by rw[<- z] at l;exact l)
  have pinD:∀{its:List Value} {n:Nat},∀p∈[(s2.heap.objs.size,lobj its n)],p.1=s2.heap.objs.size:=λp hp=>by simp at hp;rw[hp]
  rcases turn i n ys H4 w4 with ⟨stop,hz,q⟩ | ⟨go,hlt,NY,NN,hNY,hNN,step⟩
  ·refine iw (T.done (Bg X own capN scope ⟨s2,H2,fp,s2.heap.objs.size+1⟩) rfl rfl rfl rfl i _ s4 σ4 H4 E I4 (fpo pinD fr4) st4 stop) λr s5 ⟨hr,I5⟩=>?_
   subst hr;have pD:=I5.pin (s2.heap.objs.size,lobj its k) (by simp);have I6:=RQ (Z:=⟨s2,H2,fp,s2.heap.objs.size+1⟩) I2 hfp (ar _) I5 rv hz
   have hC:upd H4 s2.heap.objs.size (.lst ys) (s2.heap.objs.size+1)=none:=by
    rw[bc (Mp (jm _))];exact I5.free
   obtain ⟨m,hm,_⟩:=I5.loc;exact fin _ _ s5 _ I6 (I2.fpOk (oj _) hC) ⟨m,hm⟩ (q _ pD.2.1)
  ·refine iw (T.item (Bg X own capN scope ⟨s2,H2,fp,s2.heap.objs.size+1⟩) rfl rfl rfl rfl i _ s4 σ4 H4 E I4 (fpo pinD fr4) st4 go) λr s5 ⟨u,hr,h5⟩=>?_
   subst hr;refine iw h5 λ_ s6 ⟨x,H6,I6,r6,y6,st6,fr6⟩=>?_
   have I6':=(PH (Z:=⟨s2,H2,fp,s2.heap.objs.size+1⟩) I2 B hcap hfp I6).pinned (fpo pinD fr6) (T.obj _ _ st6)
   have back:∀{σ7:St} {H7:Hp} {s7:Shared},Inv (Bg X own capN scope ⟨s2,H2,fp,s2.heap.objs.size+1⟩) ([(s2.heap.objs.size,lobj its k)]++Cv fp s6.heap) σ7 H7 s7 →
     Inv (Bg X own capN scope ⟨s2,H2,fp,s2.heap.objs.size+1⟩) [(s2.heap.objs.size,lobj its k)] σ7 H7 s7/\tn (i+1) s7.heap/\∀b∈fp,H7 b=none:=λ{σ7 H7 s7} I7=>by
    refine ⟨I7.unpinned,T.keep _ _ _ st6 λb hb o e=>(I7.pin (b,o) (cb _ (cb _ (rQ hb e)))).1,λb hb=>?_⟩;obtain ⟨o,e,d⟩:=T.obj _ _ st6 b hb;exact (I7.pin (b,o) (cb _ (cb _ (rQ hb e)))).2.1
   refine S3 (hg _ _ s6 _ H6 x u _ I6' r6 (step x H6 y6)) λ_ s7 ⟨σ7,H7,I7,q7⟩=>?_
   refine S3 (hf _ _ s7 σ7 H7 _ I7 q7) λok s8 ⟨H8,I8,q8⟩=>?_
   cases ok with
   | false =>
    rw[if_neg bh] at q8 ⊢;obtain ⟨m',hm,w8⟩:=hNN H8 q8;obtain ⟨J1,J2,J3⟩:=back I8;exact ⟨m',hm,i+1,ys,σ7,H8,its,k,J1,J2,J3,rv,w8⟩
   | true =>
    rw[if_pos rfl] at q8 ⊢;refine S3 (he _ _ s8 σ7 H8 _ I8 q8) λz s9 ⟨y,H9,I9,r9,q9⟩=>?_
    obtain ⟨J1,J2,J3⟩:=back I9;obtain ⟨m',hm,w9⟩:=hNY y H9 q9;have pD:=J1.pin (s2.heap.objs.size,lobj its k) (by simp);have hl:=rv.length;refine call_meets F.slot_list_append ⟨_,pD.1,rfl⟩ F.entry_list_append (F.args_list_append_2 _ _) (PySem.list_append s2.heap.objs.size its.toArray k z (by rw[aF];lia)) ⟨pD.1,?_⟩;have e9:=lV pD.1 (λa=>a.push z);have e9':(its.toArray.push z)=(its++[z]).toArray:=by simp
    rw[e9'] at e9;obtain ⟨n',e9⟩:∃n',(s9.heap.update s2.heap.objs.size (Obj.mapSeq λa=>a.push z)).get? s2.heap.objs.size=some (lobj (its++[z]) n'):=⟨_,e9⟩
    have J4:Inv (Bg X own capN scope ⟨s2,H2,fp,s2.heap.objs.size+1⟩) [] σ7 H9 { s9 with heap:=s9.heap.update s2.heap.objs.size (Obj.mapSeq λa=>a.push z),toks:=s9.toks } :=
     (J1.pins_of (pins':=[]) λp hp=>nomatch hp).turned (λb o hb e=>(Heap.get?_update_other s9.heap _ (Ne.symm hb)).trans e) pD.2.1 pD.2.2.1 (.inr (ar _)) (λx c hx z=>by
      rcases jW (Z:=⟨s2,H2,fp,s2.heap.objs.size+1⟩) B I2 hx with ⟨_,m⟩ | ⟨_,_,m⟩
      ·have:=(hcl.empty _ _ m).2;have z':@Eq Nat c s2.heap.objs.size:=z
       lia
      ·have:=HG (Z:=⟨s2,H2,fp,s2.heap.objs.size+1⟩) I2 m;rw[z] at this;exact dQ _ this) λp hp=>by simp [Bg] at hp
    have nfp:∀b∈fp,b≠s2.heap.objs.size:=λb hb z=>by have:=(hfp b hb).2;rw[z] at this;exact dQ _ this
    refine ⟨m',hm,i+1,ys++[y],σ7,H9,its++[z],n',J4.pins_of λp hp=>?_,T.keep _ _ _ J2 λb hb o e=>(Heap.get?_update_other s9.heap _ (Ne.symm (nfp b hb))).trans e,J3,rv.append (.cons r9 .nil),w9⟩;have ep:p=(s2.heap.objs.size,lobj (its++[z]) n'):=by simpa using hp
    rw[ep];exact ⟨e9,pD.2.1,pD.2.2.1,pD.2.2.2.1,λv z=>nomatch z⟩
 exact codeAny_compStart_list loop (T.self _ _ _ _ _ st3 loop)
theorem cx (own capN:List Str) (cap:List Nat) (hi:PI X tg iter wi) (hg:∀Z,PG (Bg X own capN scope Z) tg g) (hf:∀Z,PF (Bg X own capN scope Z) ifs tf) (he:∀Z,PE (Bg X own capN scope Z) elt te)
  (h1:V4 scope own capN=true:=by decide +kernel) (h2:Fh X.env capN=true:=by rfl) (hcap:A1 X capN cap:=by rfl) (hc:X.calm=true:=by rfl) (hs:∀x,foldedSetIterable iter X.env x=pure x:=by intro _;rfl) :
  PE X (.ListComp elt [⟨tg,iter,ifs,0⟩] scope pos) (Ij wi own.length cap g tf te):=by
 intro pins s σ H Q I h;rw[eval_ListComp];refine Fe (use:=none) hc (Bk.of h1 h2) hcap hi hg hf he hs I h λD C s' H' I' fC hm q=>?_
 obtain ⟨m,hm⟩:=hm;refine ⟨m,hm,λh' hs'=>?_⟩;obtain ⟨f0,f1,f2,f3,f4,f5⟩:=fC;exact ⟨.ref D,H',I'.turned (t':=s'.toks) (λb o hb e=>(hs'.2 b hb).trans e) f0 f1 f3 f4 f5,rfl,q⟩
theorem ki (i:Nat) (own capN:List Str) (cap:List Nat) {x:Str} {pos' spos:Pos} (hN:X.N.Nodup) (hi':X.N[i]?=some x) (hx:X.env.scope.names.lookup x=some .local) (hi:PI X tg iter wi) (hg:∀Z,PG (Bg X own capN scope Z) tg g) (hf:∀Z,PF (Bg X own capN scope Z) ifs tf) (he:∀Z,PE (Bg X own capN scope Z) elt te)
  (h1:V4 scope own capN=true:=by decide +kernel) (h2:Fh X.env capN=true:=by rfl) (hcap:A1 X capN cap:=by rfl) (hc:X.calm=true:=by rfl) (hs:∀x,foldedSetIterable iter X.env x=pure x:=by intro _;rfl)
  (hsw:swapsWith (.ListComp elt [⟨tg,iter,ifs,0⟩] scope pos) (some (.Name x pos')) spos.line X.env=pure true:=by rfl) :
  PS X (.Assign [.Name x pos'] (.ListComp elt [⟨tg,iter,ifs,0⟩] scope pos) spos) (NU (Ij wi own.length cap g tf te) (EV i)):=by
 intro pins s σ H D I h;rw[exec_Assign_Name_used _ _ _ _ hsw];refine wpAny_bind (wpAny_standAt (wpAny_bind ?_));rw[arm_evalThenUse_ListComp];refine wpAny_bind (Fe (Q:=λv H1=>D.nx (σ.set i (some v)) H1) (use:=some _) hc (Bk.of h1 h2) hcap hi hg hf he hs I h λL C s' H' I' fC hm q=>?_);obtain ⟨m,hm⟩:=hm;obtain ⟨f0,f1,f2,f3,f4,f5⟩:=fC;refine wpAny_assign_Name (Em I' hN hi' (.inl hx) (v:=.ref L) rfl (λs'' I'' ⟨a,sb,ha⟩=>?_) (.inr hx))
 have hCa:C≠a:=by
  rcases ha with e | e
  ·rw[e];exact f1
  ·exact (f4 x a e).symm
 refine ⟨m,hm.at' λo e=>(sb.2 C hCa).trans e,λh' hs'=>?_⟩;have I3:=I''.turned (h':=h') (t':=s''.toks) (λb o hb e=>(hs'.2 b hb).trans e) f0 f1 f3 f4 f5;exact wpAny_pure (wpAny_pure ⟨_,H',I3,q⟩)
end
section
variable {K:FG9} {a:Addr} {xs:List V} {g:TG} {tf:TT} {te:TE} {Q:VK} {σ₀:St} {H:Hp}
theorem eO (Pv:Nat->List V->Hp->Prop) (hz:xs.length<=sizeLine) (h0:Pv 0 [] H) (hl:∀i ys H,i<=xs.length->Pv i ys H->bB K H a xs)
  (hs:∀i x ys H,xs[i]?=some x->ys.length<=i->Pv i ys H->pP σ₀ g tf te x H (λy H'=>Pv (i+1) (ys++[y]) H') (λH'=>Pv (i+1) ys H'))
  (hd:∀ys H,ys.length<=xs.length->Pv xs.length ys H->∀p,H p=none->Q (.ref p) (upd H p (.lst ys))):qG (RW K a) σ₀ g tf te Q H:=by
 refine ⟨λi m ys H=>m=xs.length - i/\i<=xs.length/\ys.length<=i/\Pv i ys H,⟨xs.length,by simp,a7 _,a7 _,h0⟩,?_⟩;rintro i m ys H ⟨rfl,hi,hy,p⟩;have q:=hl i ys H hi p;by_cases hlt:i < xs.length
 ·refine .inr ⟨⟨xs,xs[i],q,by simp [hlt]⟩,by lia,λy H'=>Pv (i+1) (ys++[y]) H',λH'=>Pv (i+1) ys H',λy H' p'=>⟨xs.length - (i+1),by lia,rfl,hlt,by rw[ai,aQ];lia,p'⟩,λH' p'=>⟨xs.length - (i+1),by lia,rfl,hlt,by lia,p'⟩,λx H' y=>?_⟩;obtain ⟨e,y⟩:=y;subst e;exact hs i x ys _ (y xs q) hy p
 ·have e:i=xs.length:=by lia
  subst e;exact .inl ⟨⟨xs,q,ar _⟩,by lia,hd ys H hy p⟩
theorem lG {lo:Int} (Pv:Nat->List V->Hp->Prop) (hz:n<=sizeLine) (h0:Pv 0 [] H)
  (hs:∀i ys H,i < n->ys.length<=i->Pv i ys H->pP σ₀ g tf te (.int (lo+i)) H (λy H'=>Pv (i+1) (ys++[y]) H') (λH'=>Pv (i+1) ys H'))
  (hd:∀ys H,ys.length<=n->Pv n ys H->∀p,H p=none->Q (.ref p) (upd H p (.lst ys))):qG (JK lo n) σ₀ g tf te Q H:=by
 refine ⟨λi m ys H=>m=n - i/\i<=n/\ys.length<=i/\Pv i ys H,⟨n,by simp,a7 _,a7 _,h0⟩,?_⟩;rintro i m ys H ⟨rfl,hi,hy,p⟩;by_cases hlt:i < n
 ·refine .inr ⟨hlt,by lia,λy H'=>Pv (i+1) (ys++[y]) H',λH'=>Pv (i+1) ys H',λy H' p'=>⟨n - (i+1),by lia,rfl,hlt,by rw[ai,aQ];lia,p'⟩,λH' p'=>⟨n - (i+1),by lia,rfl,hlt,by lia,p'⟩,λx H' y=>?_⟩;obtain ⟨e,y⟩:=y;subst e y;exact hs i ys _ hlt hy p
 ·have e:i=n:=by lia
  subst e;exact .inl ⟨ar _,by lia,hd ys H hy p⟩
end
open Nm
def fM (i j:Int):Prop:=UB i j\/∃m n,Sz m i/\Sz n j/\m+n<=1000000
def sX (i j:Int):Prop:=j≠0/\Sz 449950 j
theorem Dn (h:Sz k i):Builtin.Int.intBits i<=k:=by
 unfold Builtin.Int.intBits;by_cases e:i=0
 ·subst e;simp
 ·have e':(i == 0)=false:=by simpa using e
  rw[e'];have hn:i.natAbs≠0:=by lia
  have:=(Nat.log2_lt hn).mpr h;simp only[jL,if_false]
  lia
theorem fM.ok (h:fM i j):IntMulOk i j:=by
 rcases h with h | ⟨m,n,h1,h2,h3⟩
 ·exact h.ok
 ·have e:(2:Nat)^20=1048576:=by decide
  exact .of_bits (by have:=Dn h1;lia) (by have:=Dn h2;lia)
section
variable {X:Cx} {a b:Expr} {ta tb:TE} {pos:Pos}
theorem cN:yW X (binaryOp .Mult) (rI fM λi j=>.int (i*j)):=Wk λ_ _ _ _ _ _ _ hc q=>mul_int q hc.ok
theorem kj (hs:X.stack=env :: l) (S:vw N ps sc) (he:env.scope=sc) (hb:env.builtins=builtinsNs) (hg:env.globals=mainGlobals) (ht:X.prog.given.tree=none) (hd:X.A.depth+Builtin.pylongFrames < recursionLimit):yW X (binaryOp .FloorDiv) (rI sX λi j=>.int (i.fdiv j)):=by
 intro pins s σ H x y v u Q I rx ry h;obtain ⟨i,j,rfl,rfl,hc,q⟩:=h;obtain ⟨t,rfl⟩:=rx;obtain ⟨t',rfl⟩:=ry;refine floordiv_int hc.1 ⟨.int _,H,I.tok _,⟨_,rfl⟩,q⟩ (.inr (PySem.PylongRoom.of I.nolimit hd (PySem.SeerAt.of (I.ok.mod.seer.keeps I.bk) ht (env:=env) (l:=l) (by rw[I.ok.frames,hs]) (by rw[he];exact S.gen) (by rw[he];exact S.co) hb hg)))
theorem ye (hr:kO k A):A.depth+Builtin.pylongFrames < recursionLimit:=by have:=hr.dp;show A.depth+100 < _;lia
def US (t u:TS):TS:=λD σ H=>∃N:St->Hp->Prop,t { D with nx:=N } σ H/\∀σ' H',N σ' H'->u D σ' H'
theorem jc {st:Stmt} (h1:PS X st t) (h2:JZ X rest u):JZ X (st :: rest) (US t u):=by
 intro pins s σ H D I h;obtain ⟨N,h,k⟩:=h;refine wpAny_execs_cons (iw (h1 pins s σ H { D with nx:=N } I h) λf s1 q=>?_);cases f with
 | next =>
  obtain ⟨σ',H',I',q⟩:=q;exact h2 pins s1 σ' H' D I' (k _ _ q)
 | ret v=>exact q
 | brk=>exact q
 | cont=>exact q
def So (K:FG9):V->V->Hp->VK->Prop:=λo i H Q=>∃p xs k v,o=.ref p/\i=.int k/\bB K H p xs/\K6 xs k=some v/\Q v H
theorem O9:VL X (So X.K):=by
 intro pins s σ H o i ov iv Q I ro ri h;obtain ⟨p,xs,k,z,rfl,rfl,hq,he,q⟩:=h;cases ro;obtain ⟨t,rfl⟩:=ri;obtain ⟨its,r,pl,hz⟩:=I.list hq;obtain ⟨j,h1,h2,h3,h4,h5⟩:=HH he;obtain ⟨w,ew,rw'⟩:=r.get h2;have hl:=r.length;have hn:=CW;have fin:EP X pins σ Q w s:=⟨z,H,I,rw',q⟩;by_cases h0:0<=k
 ·have hj:k.toNat=j:=by
   rw[seqIndex_of h0 h5] at h1;exact bS h1
  exact wpAny_getItem_list pl.isList h0 (by lia) (by rw[hj];simpa using ew) fin
 ·have hj:(k+(its.toArray.size:Int)).toNat=j:=by
   rw[seqIndex_neg (by lia) h4] at h1;rw[aF,<- hl];exact bS h1
  exact wpAny_getItem_list_neg pl.isList (by lia) (by rw[aF] <;> lia) (by lia) (by rw[hj];simpa using ew) fin
def Kw (K:FG9) (T:String):V->Hp->VK->Prop:=λx H Q=>∃t b,z5 K H x t/\PySem.W.kitOne K t (.type T)=some b/\Q (.bl b) H
theorem wX {c:Str} {T:String} {p p2:Pos} (hg:Gl X "isinstance") (hm:X.mg "isinstance"=none) (hb:bootBuiltins c=some (.type T)) (hmc:X.mg c=none) (ha:PE X a ta) (hgc:Gl X c:=by rfl) (hn:c≠"__name__":=by decide)
  (hd:(c == ("__debug__":Str))=false:=by decide) (he:starEach [a,.Name c p2] X.env=[(false,eval a X.env),(false,eval (.Name c p2) X.env)]:=by rfl)
  (hpl:(backTo pos (starEach [.Name c p2] X.env)).any (·.1)=false:=by rfl) (he2:starEach [.Name c p2] X.env=[(false,eval (.Name c p2) X.env)]:=by rfl):PE X (.Call (.Name "isinstance" p) [a,.Name c p2] [] pos) (VZ (Kw X.K T) ta):=by
 intro pins s σ H Q I h;refine wpAny_Call_Name_kw (nZ I hg hm PyProof.Rows.boot_isinstance ?_);have hA:PA X [a,.Name c p2] (js ta (js (tC (.ty T)) BF)):=gG ha (gG (Lz hgc hmc hb rfl hn hd) iV he2) (by rw[he,he2])
 have hq:js ta (js (tC (.ty T)) BF) σ H (λvs H1=>∃x,vs=[x,.ty T]/\Kw X.K T x H1 Q):=by
  show ta σ H λx H1=>∃x',[x,V.ty T]=[x',V.ty T]/\Kw X.K T x' H1 Q
  have e:(λx H1=>∃x',[x,V.ty T]=[x',V.ty T]/\Kw X.K T x' H1 Q)=λx H1=>Kw X.K T x H1 Q:=by
   funext x H1;apply propext;constructor
   ·rintro ⟨x',e,q⟩;cases e;exact q
   ·intro q;exact ⟨x,rfl,q⟩
  rw[e];exact h
 refine PyProof.Rows.callWith_builtin1 (iw (hA pos pins s σ H _ I hq) λus s1 ⟨vs,H1,I1,r1,x,e,q1⟩=>?_) (by rw[he,he2]) hpl;subst e;obtain ⟨u,w',rfl,ru,rt⟩:=vals2 r1;cases rt;obtain ⟨t,bb,ty,ek,q⟩:=q1;exact ET I1 ru ty ek λtk=>⟨.bl bb,H1,I1.tok tk,rfl,q⟩
end
structure Kind (α:Type) [DecidableEq α] where
 R:FG9->Hp->V->α->Prop
 d:Nat
 inj:∀{X:Cx} {pins:List (Addr×Obj)} {σ:St} {H:Hp} {s:Shared} {x:V} {a b:α},Inv X pins σ H s->R X.K H x a->R X.K H x b->a=b
 rc:∀{X:Cx} {pins:List (Addr×Obj)} {σ:St} {H:Hp} {s:Shared} {x y:V} {v u:Value} {a b:α} {A:Around},Inv X pins σ H s->RelV x v->RelV y u->R X.K H x a->R X.K H y b->A.units+d < cLine->SeqAt.RcAt A s v u (decide (a=b))
 ne:∀{X:Cx} {pins:List (Addr×Obj)} {σ:St} {H:Hp} {s:Shared} {x y:V} {v u:Value} {a b:α} {A:Around},Inv X pins σ H s->RelV x v->RelV y u->R X.K H x a->R X.K H y b->A.units+d < cLine->SeqAt.RcNeAt A s v u (!decide (a=b))
 eq:∀{X:Cx} {pins:List (Addr×Obj)} {σ:St} {H:Hp} {s:Shared} {x y:V} {v u:Value} {a b:α} {A:Around},Inv X pins σ H s->RelV x v->RelV y u->R X.K H x a->R X.K H y b->A.units+d < cLine->SeqAt.EqAt A s v u (decide (a=b))
def Wo:Kind Int where
 R:=λ_ _ x i=>x=.int i
 d:=0
 inj:=λ_ h1 h2=>by rw[h1] at h2;cases h2;rfl
 rc:=λ{X pins σ H s x y v u a b A} I rx ry h1 h2 _=>by
  subst h1 h2;obtain ⟨t,rfl⟩:=rx;obtain ⟨t',rfl⟩:=ry;have q:=SeqAt.RcAt.int_int (A:=A) (s:=s) a t b t';rwa [ir] at q
 ne:=λ{X pins σ H s x y v u a b A} I rx ry h1 h2 _=>by
  subst h1 h2;obtain ⟨t,rfl⟩:=rx;obtain ⟨t',rfl⟩:=ry;have q:=SeqAt.RcNeAt.int_int (A:=A) (s:=s) a t b t';rwa [ir] at q
 eq:=λ{X pins σ H s x y v u a b A} I rx ry h1 h2 _=>by
  subst h1 h2;obtain ⟨t,rfl⟩:=rx;obtain ⟨t',rfl⟩:=ry;have q:=SeqAt.EqAt.int_int (A:=A) (s:=s) a t b t';rwa [ir] at q
theorem jO {α β:Type} {F:α->β->Prop}:∀{l1:List α} {l2:List β} {i:Nat} (_:Paired F l1 l2) (h1:i < l1.length) (h2:i < l2.length),F l1[i] l2[i]
 | _,_,_,.nil,h1,_=>absurd h1 (di _)
 | _,_,0,.cons r _,_,_=>r
 | _,_,i+1,.cons _ t,h1,h2=>jO (i:=i) t (Nat.lt_of_succ_lt_succ h1) (Nat.lt_of_succ_lt_succ h2)
theorem nK {α β:Type} {F:α->β->Prop} (hF:∀a b x,F a x->F b x->a=b):∀{l1 l2:List α} {l:List β},Paired F l1 l->Paired F l2 l->l1=l2
 | _,_,_,.nil,.nil=>rfl
 | _,_,_,.cons r t,.cons r' t'=>by rw[hF _ _ _ r r',nK hF t t']
theorem yg {α:Type} [DecidableEq α] (as bs:List α) (h:as.length=bs.length):(List.range as.length).all (λj=>decide (as[j]?=bs[j]?))=decide (as=bs):=by
 rw[mZ,qI,decide_eq_true_iff];constructor
 ·intro q;apply kM;intro i;by_cases hi:i < as.length
  ·exact of_decide_eq_true (q i (cP.mpr hi))
  ·rw[aR (by lia),aR (by lia)]
 ·rintro rfl i _;simp
section
variable {α:Type} [DecidableEq α] (k:Kind α)
theorem Kind.items {X:Cx} {pins:List (Addr×Obj)} {σ:St} {H:Hp} {s:Shared} {A:Around} (I:Inv X pins σ H s) (hA:A.units+k.d < cLine) {xs ys:List V} {us ws:List Value} {as bs:List α}
  (rx:cX xs us) (ry:cX ys ws) (ha:Paired (λa x=>k.R X.K H x a) as xs) (hb:Paired (λa x=>k.R X.K H x a) bs ys) :
  ∀j (h1:j < us.toArray.size) (h2:j < ws.toArray.size),SeqAt.EqAt A s us.toArray[j] ws.toArray[j] (decide (as[j]?=bs[j]?)):=λj h1 h2=>by
 have l1:j < us.length:=by simpa using h1
 have l2:j < ws.length:=by simpa using h2
 have e1:=rx.length;have e2:=ry.length;have e3:=ha.length;have e4:=hb.length;obtain ⟨u,hu,ru⟩:=rx.get (i:=j) (x:=xs[j]'(by lia)) (by simp);obtain ⟨w,hw,rw'⟩:=ry.get (i:=j) (x:=ys[j]'(by lia)) (by simp);have q:=k.eq (A:=A) I ru rw' (jO ha (by lia) (by lia)) (jO hb (by lia) (by lia)) hA
 have eu:us.toArray[j]=u:=by
  have:=hu;rw[ae l1] at this;simpa using this
 have ew:ws.toArray[j]=w:=by
  have:=hw;rw[ae l2] at this;simpa using this
 rw[eu,ew,ae (show j < as.length by lia),ae (show j < bs.length by lia)];have e5:decide (some as[j]=some bs[j])=decide (as[j]=bs[j]):=by simp
 rw[e5];exact q
theorem FK {α:Type} [DecidableEq α] (as bs:List α) {n m:Nat} (h1:as.length=n) (h2:bs.length=m):((List.range (min n m)).all (λj=>decide (as[j]?=bs[j]?)) && n == m)=decide (as=bs):=by
 subst h1 h2;by_cases e:as.length=bs.length
 ·rw[show min as.length bs.length=as.length by lia,yg as bs e];simp [e]
 ·have h1:(as.length == bs.length)=false:=by simpa using e
  rw[h1,Bool.and_false];exact (decide_eq_false λz=>e (by rw[z])).symm
def Wn:Kind (List α) where
 R:=λK H x as=>∃p xs,x=.ref p/\mL K H p xs/\Paired (λa x=>k.R K H x a) as xs
 d:=k.d+1
 inj:=λ{X pins σ H s x a b} I h1 h2=>by
  obtain ⟨p,xs,rfl,hp,pa⟩:=h1;obtain ⟨q,ys,e,hq,pb⟩:=h2;cases e;have e:=I.tuple_inj hp hq;subst e;exact nK (F:=λa x=>k.R X.K H x a) (λa b x=>k.inj I) pa pb
 rc:=λ{X pins σ H s x y v u a b A} I rx ry h1 h2 hA=>by
  obtain ⟨p,xs,rfl,hp,pa⟩:=h1;obtain ⟨q,ys,rfl,hq,pb⟩:=h2;cases rx;cases ry;obtain ⟨us,r1,t1,_⟩:=I.tuple hp;obtain ⟨ws,r2,t2,_⟩:=I.tuple hq;have z:=SeqAt.RcAt.tuples (A:=A) (e:=λj=>decide (a[j]?=b[j]?)) (show s.heap.IsTuple p us.toArray from t1) (show s.heap.IsTuple q ws.toArray from t2) (by lia) (k.items (A:=A.in1) I (by show A.units+1+k.d < cLine;lia) r1 r2 pa pb);rwa [FK a b (by rw[pa.length,r1.length];simp) (by rw[pb.length,r2.length];simp)] at z
 ne:=λ{X pins σ H s x y v u a b A} I rx ry h1 h2 hA=>by
  obtain ⟨p,xs,rfl,hp,pa⟩:=h1;obtain ⟨q,ys,rfl,hq,pb⟩:=h2;cases rx;cases ry;obtain ⟨us,r1,t1,_⟩:=I.tuple hp;obtain ⟨ws,r2,t2,_⟩:=I.tuple hq;have z:=SeqAt.RcNeAt.tuples (A:=A) (e:=λj=>decide (a[j]?=b[j]?)) (show s.heap.IsTuple p us.toArray from t1) (show s.heap.IsTuple q ws.toArray from t2) (by lia) (k.items (A:=A.in1) I (by show A.units+1+k.d < cLine;lia) r1 r2 pa pb);rwa [FK a b (by rw[pa.length,r1.length];simp) (by rw[pb.length,r2.length];simp)] at z
 eq:=λ{X pins σ H s x y v u a b A} I rx ry h1 h2 hA=>by
  obtain ⟨p,xs,rfl,hp,pa⟩:=h1;obtain ⟨q,ys,rfl,hq,pb⟩:=h2;cases rx;cases ry;by_cases e:p=q
  ·subst e;have e:=I.tuple_inj hp hq;subst e;rw[nK (F:=λa x=>k.R X.K H x a) (λa b x=>k.inj I) pa pb,decide_eq_true rfl];exact SeqAt.EqAt.same _
  ·obtain ⟨us,r1,t1,_⟩:=I.tuple hp;obtain ⟨ws,r2,t2,_⟩:=I.tuple hq;have z:=SeqAt.RcAt.tuples (A:=A) (e:=λj=>decide (a[j]?=b[j]?)) (show s.heap.IsTuple p us.toArray from t1) (show s.heap.IsTuple q ws.toArray from t2) (by lia) (k.items (A:=A.in1) I (by show A.units+1+k.d < cLine;lia) r1 r2 pa pb);rw[FK a b (by rw[pa.length,r1.length];simp) (by rw[pb.length,r2.length];simp)] at z;exact .of_refs e z
theorem KO {X:Cx} {pins:List (Addr×Obj)} {σ:St} {H:Hp} {s:Shared} {p q:Addr} {xs ys:List V} {a b:List α} {A:Around} (I:Inv X pins σ H s) (hp:bB X.K H p xs) (hq:bB X.K H q ys)
  (pa:Paired (λa x=>k.R X.K H x a) a xs) (pb:Paired (λa x=>k.R X.K H x a) b ys) (hA:A.units+(k.d+1) < cLine) :
  SeqAt.RcAt A s (.ref p) (.ref q) (decide (a=b))/\SeqAt.RcNeAt A s (.ref p) (.ref q) (!decide (a=b)):=by
 obtain ⟨us,r1,t1,_⟩:=I.list hp;obtain ⟨ws,r2,t2,_⟩:=I.list hq;have l1:=r1.length;have l2:=r2.length;have l3:=pa.length;have l4:=pb.length;by_cases e:us.length=ws.length
 ·have it:=k.items (A:=A.in1) I (by show A.units+1+k.d < cLine;lia) r1 r2 pa pb;have z:=SeqAt.RcAt.lists (A:=A) (e:=λj=>decide (a[j]?=b[j]?)) t1.isList t2.isList (by simpa using e) (by lia) it;have z2:=SeqAt.RcNeAt.lists (A:=A) (e:=λj=>decide (a[j]?=b[j]?)) t1.isList t2.isList (by simpa using e) (by lia) it;have e1:us.toArray.size=a.length:=by rw[aF];lia
  rw[e1,yg a b (by lia)] at z z2;exact ⟨z,z2⟩
 ·have hne:¬a=b:=λz=>e (by have:=congrArg List.length z;lia)
  rw[decide_eq_false hne];exact ⟨SeqAt.RcAt.lists_lengths t1.isList t2.isList (by simpa using e) (by lia),SeqAt.RcNeAt.lists_lengths t1.isList t2.isList (by simpa using e) (by lia)⟩
def Vv:Kind (List α) where
 R:=λK H x as=>∃p xs,x=.ref p/\bB K H p xs/\Paired (λa x=>k.R K H x a) as xs
 d:=k.d+1
 inj:=λ{X pins σ H s x a b} I h1 h2=>by
  obtain ⟨p,xs,rfl,hp,pa⟩:=h1;obtain ⟨q,ys,e,hq,pb⟩:=h2;cases e;have e:=I.list_inj hp hq;subst e;exact nK (F:=λa x=>k.R X.K H x a) (λa b x=>k.inj I) pa pb
 rc:=λ{X pins σ H s x y v u a b A} I rx ry h1 h2 hA=>by
  obtain ⟨p,xs,rfl,hp,pa⟩:=h1;obtain ⟨q,ys,rfl,hq,pb⟩:=h2;cases rx;cases ry;exact (KO k I hp hq pa pb hA).1
 ne:=λ{X pins σ H s x y v u a b A} I rx ry h1 h2 hA=>by
  obtain ⟨p,xs,rfl,hp,pa⟩:=h1;obtain ⟨q,ys,rfl,hq,pb⟩:=h2;cases rx;cases ry;exact (KO k I hp hq pa pb hA).2
 eq:=λ{X pins σ H s x y v u a b A} I rx ry h1 h2 hA=>by
  obtain ⟨p,xs,rfl,hp,pa⟩:=h1;obtain ⟨q,ys,rfl,hq,pb⟩:=h2;cases rx;cases ry;by_cases e:p=q
  ·subst e;have e:=I.list_inj hp hq;subst e;rw[nK (F:=λa x=>k.R X.K H x a) (λa b x=>k.inj I) pa pb,decide_eq_true rfl];exact SeqAt.EqAt.same _
  ·exact .of_refs e (KO k I hp hq pa pb hA).1
def Kind.via {β:Type} [DecidableEq β] (f:β->α) (fi:∀a b,f a=f b->a=b) (R':FG9->Hp->V->β->Prop) (im:∀{K H x b},R' K H x b->k.R K H x (f b)):Kind β where
 R:=R'
 d:=k.d
 inj:=λI h1 h2=>fi _ _ (k.inj I (im h1) (im h2))
 rc:=λ{X pins σ H s x y v u a b A} I rx ry h1 h2 hA=>by
  have z:=k.rc (A:=A) I rx ry (im h1) (im h2) hA;rwa [decide_eq_decide.mpr (show f a=f b↔a=b from ⟨fi a b,λe=>by rw[e]⟩)] at z
 ne:=λ{X pins σ H s x y v u a b A} I rx ry h1 h2 hA=>by
  have z:=k.ne (A:=A) I rx ry (im h1) (im h2) hA;rwa [decide_eq_decide.mpr (show f a=f b↔a=b from ⟨fi a b,λe=>by rw[e]⟩)] at z
 eq:=λ{X pins σ H s x y v u a b A} I rx ry h1 h2 hA=>by
  have z:=k.eq (A:=A) I rx ry (im h1) (im h2) hA;rwa [decide_eq_decide.mpr (show f a=f b↔a=b from ⟨fi a b,λe=>by rw[e]⟩)] at z
end
def JH (K:FG9) (H:Hp) (x:V) (n:Int×Int):Prop:=∃p,x=.ref p/\mL K H p [.int n.1,.int n.2]
def Vu:Kind (Int×Int):=(Wn Wo).via (λn=>[n.1,n.2]) (λa b e=>by cases a;cases b;simp at e;rw[e.1,e.2]) JH λ⟨p,e,h⟩=>⟨p,_,e,h,.cons rfl (.cons rfl .nil)⟩
def Wi (K:FG9):R2:=λx y H Q=>∃(α:Type) (_:DecidableEq α) (k:Kind α) (a b:α),k.d<=50/\k.R K H x a/\k.R K H y b/\Q (.bl (decide (a=b))) H
def TQ (K:FG9):R2:=λx y H Q=>∃(α:Type) (_:DecidableEq α) (k:Kind α) (a b:α),k.d<=50/\k.R K H x a/\k.R K H y b/\Q (.bl (!decide (a=b))) H
theorem Gn (hu:X.A.units+50 < cLine):yW X (compareOp .Eq) (Wi X.K):=by
 intro pins s σ H x y v u Q I rx ry h;obtain ⟨α,_,k,a,b,hd,ha,hb,q⟩:=h;exact k.rc (A:=X.A) I rx ry ha hb (by lia) _ _ _ _ ⟨.bl (decide (a=b)),H,I,rfl,q⟩
theorem uE (hu:X.A.units+50 < cLine):yW X (compareOp .NotEq) (TQ X.K):=by
 intro pins s σ H x y v u Q I rx ry h;obtain ⟨α,_,k,a,b,hd,ha,hb,q⟩:=h;exact k.ne (A:=X.A) I rx ry ha hb (by lia) _ _ _ _ ⟨.bl (!decide (a=b)),H,I,rfl,q⟩
theorem xj (hr:kO k A):A.units+50 < cLine:=by have:=hr.units;lia
def Inner (H:Hp) (p q:Addr):Prop:=∃a b c:Int,H p=some (.lst [.int a,.int b,.int c,.ref q])
def df (p:Addr) (H H':Hp):Prop:=(∀b o,H b=some o->b≠p->H' b=some o)/\∀q,Inner H p q->Inner H' p q
theorem df.refl (H:Hp):df p H H:=⟨λ_ _ h _=>h,λ_ h=>h⟩
theorem df.trans (a:df p H H1) (b:df p H1 H2):df p H H2:=⟨λc o h n=>b.1 c o (a.1 c o h n) n,λq h=>b.2 q (a.2 q h)⟩
theorem Inner.inj (h:Inner H p q) (h':Inner H p q'):q=q':=by
 obtain ⟨a,b,c,e⟩:=h;obtain ⟨a',b',c',e'⟩:=h';rw[e] at e';have:=HO.lst.inj (bS e');simp at this;exact this.2.2.2
theorem df.set (h:H p=some (.lst [.int a,.int b,.int c,.ref q])):df p H (upd H p (.lst [.int a',.int b',.int c',.ref q])) :=
 ⟨λb u h n=>by rw[bc n];exact h,λq' h'=>by
  rw[(Inner.inj ⟨a,b,c,h⟩ h').symm];exact ⟨a',b',c',aD⟩⟩
theorem aB.upto (h:aB H H'):df p H H':=⟨λb o e _=>h b o e,λq ⟨a,b,c,e⟩=>⟨a,b,c,h _ _ e⟩⟩
theorem aB.new (h:H p=Option.none):aB H (upd H p o):=λb u e=>by rw[bc (gO e h)];exact e
theorem aB.sqt {K:FG9} (e:aB H H') (h:mL K H a xs):mL K H' a xs:=by
 rcases h with (h | ⟨o,h⟩) | h
 ·exact .inl (.inl (e _ _ h))
 ·exact .inl (.inr ⟨o,e _ _ h⟩)
 ·exact .inr h
theorem aB.num {K:FG9} (e:aB H H') (h:JH K H x n):JH K H' x n:=by obtain ⟨p,q,r⟩:=h;exact ⟨p,q,e.sqt r⟩
section
variable {σ:St} {H:Hp} {D:Ends}
theorem lY {t:TS} (e:σ0=σ) (h:t D σ H):t D σ0 H:=by rw[e];exact h
theorem Ti (h:t { D with nx:=u D } σ H):UT t u D σ H:=h
theorem QJ (h:D.nx σ H):Se D σ H:=h
theorem TK {g:TG} (h:te σ H λx H1=>g x σ H1 D.nx):NU te g D σ H:=h
theorem Oz (h:Q (σ.set i (some v)) H):EV i v σ H Q:=h
theorem Tj (h:te σ H D.rt):UU te D σ H:=h
theorem Tx (h:c σ H λb H1=>if b=true then t D σ H1 else u D σ H1):U0 c t u D σ H:=h
theorem QU (h:te σ H λ_ H1=>D.nx σ H1):Sg te D σ H:=h
theorem Tq (h:ta σ H λvs H1=>∃v w,vs=[v,w]/\D.nx ((σ.set i (some v)).set j (some w)) H1):UW i j ta D σ H:=h
theorem QY 
  (h:to σ H λo H1=>ti σ H1 λi H2=>tget o i H2 λx H3=>te σ H3 λy H4=>tip x y H4 λz H5=>tset o i z H5 λH6=>D.nx σ H6):Sh to ti te tget tip tset D σ H:=h
theorem Tw (h:Q (.int (f i j)) H):ipI f (.int i) (.int j) H Q:=⟨i,j,rfl,rfl,h⟩
theorem TB {g:TG} (h:wi σ H λJ H1=>∃W:Nat->Nat->St->Hp->Prop,(∃m,W 0 m σ H1)/\∀i m σ H,W i m σ H →
  (J.stop i H/\D.nx σ H)\/(J.go i H/\∃N:St->Hp->Prop,(∀σ' H',N σ' H'->∃m',m' < m/\W (i+1) m' σ' H')/\∀x H',J.yld i H x H'->g x σ H' λσ2 H2=>tb { D with nx:=N,ct:=N,bk:=D.nx } σ2 H2)):U1 wi g tb D σ H:=h
variable {Q:VK} {QA:List V->Hp->Prop} {QB:Bool->Hp->Prop}
theorem Tg (e:σ[i]?=some (some v)) (h:Q v H):S4 i σ H Q:=⟨v,e,h⟩
theorem We (h:Q v H):tC v σ H Q:=h
theorem Vh (h:ta σ H λx H1=>tb σ H1 λy H2=>r x y H2 Q):UX r ta tb σ H Q:=h
theorem Vd (h:ta σ H λx H1=>r x H1 Q):VZ r ta σ H Q:=h
theorem Vk {g:Int->Int->V} (h:Q (g i j) H):Q1 g (.int i) (.int j) H Q:=⟨i,j,rfl,rfl,h⟩
theorem fv {g:Int->Int->V} (hc:C i j) (h:Q (g i j) H):rI C g (.int i) (.int j) H Q:=⟨i,j,rfl,rfl,hc,h⟩
theorem Wf {g:Int->V} (h:Q (g i) H):rU g (.int i) H Q:=⟨i,rfl,h⟩
theorem TJ (h:Q (.bl (decide (i=j))) H):Wj (.int i) (.int j) H Q:=⟨rfl,by
 have e:decide (V.int i=V.int j)=decide (i=j):=by simp
 rw[e];exact h⟩
theorem Tt (h:Q (.bl (!decide (i=j))) H):rNe (.int i) (.int j) H Q:=⟨rfl,by
 have e:decide (V.int i=V.int j)=decide (i=j):=by simp
 rw[e];exact h⟩
theorem TH (h:Q (.bl (decide (i=j))) H):Wj (.str i) (.str j) H Q:=⟨rfl,by
 have e:decide (V.str i=V.str j)=decide (i=j):=by simp
 rw[e];exact h⟩
theorem QE (h:t σ H λx H'=>∃k,x=.bl k/\QB k H'):Sa t σ H QB:=h
theorem Ve (h:t σ H λx H'=>∃k,x=.bl k/\QB k H'):tB t σ H QB:=h
theorem TM (h:t σ H λc H1=>if c=true then u σ H1 QB else QB false H1):U2 t u σ H QB:=h
theorem Vg (h:t σ H λc H1=>if c=true then QB true H1 else u σ H1 QB):tOr t u σ H QB:=h
theorem Tr (h:t σ H λc H1=>QB (!c) H1):UY t σ H QB:=h
theorem QZ (h:t σ H λx H1=>∃c,x=.bl c/\if c=true then u σ H1 Q else Q (.bl false) H1):Si t u σ H Q:=h
theorem QI (h:t σ H λx H1=>∃c,x=.bl c/\Q (.bl (!c)) H1):Sd t σ H Q:=h
theorem Tz (h:c σ H λb H1=>if b=true then ta σ H1 Q else tb σ H1 Q):tIf c ta tb σ H Q:=h
theorem Tf (h:QB true H):UQ σ H QB:=h
theorem Ts (h:QA [] H):BF σ H QA:=h
theorem QV (h:ta σ H λx H1=>tr σ H1 λxs H2=>QA (x :: xs) H2):js ta tr σ H QA:=h
theorem QX (h:t σ H λvs H1=>sp vs H1 Q E):NT sp [] E t σ H Q:=by
 have e:(λvs H1=>sp (vs++[]) H1 Q E)=λvs H1=>sp vs H1 Q E:=by funext vs H1;rw[tK]
 show t σ H λvs H1=>sp (vs++[]) H1 Q E
 rw[e];exact h
theorem Vi (h:t σ H λvs H1=>r vs H1 Q):Wd r t σ H Q:=h
theorem Tv {K:FG9} (hx:mL K H p xs) (e:K6 xs i=some v) (h:Q v H):TR K (.ref p) (.int i) H Q:=⟨p,xs,i,v,rfl,rfl,hx,e,h⟩
theorem bX {K:FG9} (hx:bB K H p xs) (e:K6 xs i=some v) (h:Q v H):TU K (.ref p) (.int i) H Q:=⟨p,xs,i,v,rfl,rfl,hx,e,h⟩
theorem QT {K:FG9} (hx:bB K H p xs) (e:K6 xs i=some v) (h:Q v H):So K (.ref p) (.int i) H Q:=⟨p,xs,i,v,rfl,rfl,hx,e,h⟩
theorem fN (hx:H p=some (.lst xs)) (e:Nx xs.length i=some j) (ey:xs.set j v=ys) (h:QH (upd H p (.lst ys))):Sm (.ref p) (.int i) v H QH:=⟨p,xs,i,j,rfl,rfl,hx,e,by rw[ey];exact h⟩
theorem QQ (h:to σ H λo H1=>ti σ H1 λi H2=>t o i v H2 λH3=>QS σ H3):VC to ti t v σ H QS:=h
theorem OA (h:t v σ H λσ' H'=>u r σ' H' QS):SE t u (v :: r) σ H QS:=⟨v,r,rfl,h⟩
theorem QR (h:QS σ H):VD [] σ H QS:=⟨rfl,h⟩
theorem QP {K:FG9} (hx:mL K H a xs) (hl:xs.length=n) (h:t xs σ H QS):Uo K n t (.ref a) σ H QS:=⟨a,xs,rfl,hx,hl,h⟩
theorem Vf (h:te σ H λx H1=>tl σ H1 λl H2=>th σ H2 λu H3=>r x l u H3 Q):tSl r te tl th σ H Q:=h
theorem MF (h:QO none H):Li σ H QO:=h
theorem QG (h:t σ H λx H1=>∃i,x=.int i/\QO (some i) H1):Sb t σ H QO:=h
variable {R:It->Hp->Prop} {K:FG9}
theorem Ox (h:tl σ H λx H1=>∃a,x=.ref a/\(∃xs,bB K H1 a xs)/\R (RW K a) H1):O5 K tl σ H R:=h
theorem QN (h:tl σ H λx H1=>∃a,x=.ref a/\(∃xs,mL K H1 a xs)/\R (UI K a) H1):VA K tl σ H R:=h
theorem Ow (h:ta σ H λvs H1=>∃j:Int,vs=[.int j]/\-(2^62)<=j/\j < 2^62/\R (JK 0 j.toNat) H1):Sy ta σ H R:=h
theorem Ov (h:ta σ H λvs H1=>∃i j:Int,vs=[.int i,.int j]/\(-(2^62)<=i/\i < 2^62/\-(2^62)<=j/\j < 2^62)/\R (JK i (j - i).toNat) H1):Sx ta σ H R:=h
theorem QW {g:TG} (e:Nv k cap σ=σ₀) (h:wi σ H λJ H1=>qG J σ₀ g tf te Q H1):Ij wi k cap g tf te σ H Q:=by
 unfold Ij;rw[e];exact h
theorem QD {g:TG} {NY:V->Hp->Prop} (h:g x σ H λσ2 H2=>tf σ2 H2 λb H3=>if b=true then te σ2 H3 NY else NN H3):pP σ g tf te x H NY NN:=h
theorem Vj (h:to σ H λx H1=>Wc K T x H1/\t σ H1 λxs H2=>r x xs H2 Q):tBM K T r to t σ H Q:=h
def VN (Q:VK) (xs:List V) (H:Hp):Prop:=xs.length<=sizeLine/\∀p,H p=none->Q (.ref p) (upd H p (.tup xs))
def VO (Q:VK) (xs:List V) (H:Hp):Prop:=xs.length<=sizeLine/\∀p,H p=none->Q (.ref p) (upd H p (.lst xs))
theorem Th (h:t σ H (VN Q)):UR t σ H Q:=h
theorem Tu (h:t σ H (VO Q)):UZ t σ H Q:=h
theorem j6 (h:Nat.ble n 1000=true):n<=sizeLine:=dh (cS (Nat.le_of_ble_eq_true h))
theorem cz {xs:List V} (h:∀p H',aB H H'->H' p=some (.tup xs)->Q (.ref p) H') (hl:Nat.ble xs.length 1000=true:=by rfl):VN Q xs H :=
 ⟨j6 hl,λp hp=>h p _ (aB.new hp) aD⟩
theorem dJ {xs:List V} (h:∀p H',aB H H'->H p=none->H' p=some (.lst xs)->Q (.ref p) H') (hl:Nat.ble xs.length 1000=true:=by rfl):VO Q xs H :=
 ⟨j6 hl,λp hp=>h p _ (aB.new hp) hp aD⟩
theorem Vy {A B:Prop} (h:B):if (!true)=true then A else B:=O3 h
theorem Vz {A B:Prop} (h:A):if (!false)=true then A else B:=Vw h
def WB (tb:TS) (D:Ends) (Pv:St->Hp->Prop) (μ:St->Hp->Nat) (n:Nat) (σ:St) (H:Hp):Prop:=∃N:St->Hp->Prop,(∀σ' H',N σ' H'->∃m',m' < n/\(m'=μ σ' H'/\Pv σ' H'))/\tb { D with nx:=N,ct:=N,bk:=D.nx } σ H
theorem Sl (h:tb { D with nx:=λσ' H'=>Pv σ' H'/\μ σ' H' < n,ct:=λσ' H'=>Pv σ' H'/\μ σ' H' < n,bk:=D.nx } σ H):WB tb D Pv μ n σ H :=
 ⟨_,λσ' H' ⟨p,l⟩=>⟨_,l,rfl,p⟩,h⟩
theorem FH (Pv:St->Hp->Prop) (μ:St->Hp->Nat) (h0:Pv σ H) (hs:∀σ H,Pv σ H->c σ H λb H1=>if b=true then WB tb D Pv μ (μ σ H) σ H1 else D.nx σ H1):NR c tb D σ H:=by
 refine ⟨λm σ H=>m=μ σ H/\Pv σ H,⟨_,rfl,h0⟩,?_⟩;rintro m σ H ⟨rfl,p⟩;exact hs σ H p
end
def iM (H:Hp) (p:Addr):Prop:=∃(q:Addr) (a b c:Int) (cs:List Int),H p=some (.lst [.int a,.int b,.int c,.ref q])/\H q=some (.lst (cs.map V.int))/\0<=a/\0<=c/\c<=(cs.length:Int)/\∀x∈cs,(0:Int)<=x
theorem Nh {H:Hp} {cs:List Int} (hp:H p=some (.lst [.int a,.int b,.int c,.ref q])) (hq:H q=some (.lst (cs.map V.int))):q≠p:=λe=>by
 rw[e,hp] at hq;have h:=HO.lst.inj (bS hq);cases cs with
 | nil=>cases h
 | cons x1 cs=>cases cs with
  | nil=>cases h
  | cons x2 cs=>cases cs with
   | nil=>cases h
   | cons x3 cs=>cases cs with
    | nil=>cases h
    | cons x4 cs=>simp at h
theorem iM.same (h:iM H p) (e:aB H H'):iM H' p:=by obtain ⟨q,a,b,c,cs,h1,h2,r⟩:=h;exact ⟨q,a,b,c,cs,e _ _ h1,e _ _ h2,r⟩
theorem df.tup {H H':Hp} {p r:Addr} {xs:List V} (u:df p H H') (B:iM H p) (h:H r=some (.tup xs)):H' r=some (.tup xs):=by
 obtain ⟨q,a,b,c,cs,h1,_⟩:=B;exact u.1 r _ h λe=>by rw[e,h1] at h;cases h
theorem df.other (u:df p H H') (n:r≠p) (h:H r=some o):H' r=some o:=u.1 r _ h n
theorem iM.inner (h:iM H p):∃q,Inner H p q/\∃xs,H q=some (.lst xs):=by obtain ⟨q,a,b,c,cs,h1,h2,_⟩:=h;exact ⟨q,⟨a,b,c,h1⟩,_,h2⟩
theorem iM.upd (h:iM H p) (hi:Inner H p q) (n1:r≠p) (n2:r≠q):iM (L2.upd H r o) p:=by
 obtain ⟨q',a,b,c,cs,h1,h2,z⟩:=h;have e:q'=q:=Inner.inj ⟨a,b,c,h1⟩ hi;subst e;exact ⟨q',a,b,c,cs,by rw[bc n1.symm];exact h1,by rw[bc n2.symm];exact h2,z⟩
theorem Inner.upd (hi:Inner H p q) (n1:r≠p):Inner (L2.upd H r o) p q:=by obtain ⟨a,b,c,h⟩:=hi;exact ⟨a,b,c,by rw[bc n1.symm];exact h⟩
def Qs:Sp:=λvs H Q _=>∃p n,vs=[.ref p,.int n]/\iM H p/\0 < n/\n < 2^64/\∀v H',0<=v->v < n->iM H' p->df p H H'->Q (.int v) H'
inductive Oc (K:FG9) (vs:List V) (H:Hp) (Q:VK) (E9:XK):Prop
 | mk (a:Addr) (ns:List Int):vs=[.ref a]->bB K H a (ns.map V.int)->ns.length<=63->(∀p H',H p=none->iM H' p->aB H H'->Q (.ref p) H')->Oc K vs H Q E9
inductive BW (K:FG9) (vs:List V) (H:Hp) (Q:VK) (E9:XK):Prop
 | mk (a:Addr) (ns:List Int):vs=[.ref a]->bB K H a (ns.map V.int)->ns.length<=63->(∀H',Q (.bl true) H')->BW K vs H Q E9
def Tb:Sp:=λvs H Q _=>∃t b,vs=[.int t,.int b]/\0 < b/\Sz 449950 b/\∀r H',aB H H'->H' r=some (.tup [.int (lo t b),.int (hi t b)])->Q (.ref r) H'
def U4:Sp:=λvs H Q _=>∃a b,vs=[.int a,.int b]/\Q (.int (g a b)) H
def Mw:Sp:=λvs H Q _=>∃t b,vs=[.int t,.int b]/\b≠0/\Sz 449950 b/\∀r H',aB H H'->H' r=some (.tup [.int (lo (if b < 0 then -t else t) (if b < 0 then -b else b)),.int (hi (if b < 0 then -t else t) (if b < 0 then -b else b))])->Q (.ref r) H'
def LR (a b c d:Int):Int:=a*d+c*b
def Ph (a b c d:Int):Int:=a*d - c*b
def Pg (a _b c _d:Int):Int:=a*c
def IC (K:FG9) (f:Int->Int->Int->Int->Int):Sp:=λvs H Q _=>∃p q a b c d,vs=[.ref p,.ref q]/\mL K H p [.int a,.int b]/\mL K H q [.int c,.int d]/\0 < b/\0 < d/\Sz 200000 a/\Sz 200000 b/\Sz 200000 c/\Sz 200000 d /\
 ∀r H',aB H H'->H' r=some (.tup [.int (lo (f a b c d) (b*d)),.int (hi (f a b c d) (b*d))])->Q (.ref r) H'
def Qt (K:FG9):Sp:=λvs H Q _=>∃p q a b c d,vs=[.ref p,.ref q]/\mL K H p [.int a,.int b]/\mL K H q [.int c,.int d]/\0 < b/\0 < d/\c≠0/\Sz 200000 a/\Sz 200000 b/\Sz 200000 c/\Sz 200000 d /\
 ∀r H',aB H H'->H' r=some (.tup [.int (lo (if c < 0 then 0 - a*d else a*d) (if c < 0 then 0 - b*c else b*c)),.int (hi (if c < 0 then 0 - a*d else a*d) (if c < 0 then 0 - b*c else b*c))])->Q (.ref r) H'
theorem b9 {α β:Type} {F:α->β->Prop}:∀{l1 l1':List α} {l2 l2':List β},Paired F l1 l2->Paired F l1' l2'->Paired F (l1++l1') (l2++l2')
 | _,_,_,_,.nil,h=>h
 | _,_,_,_,.cons r t,h=>.cons r (b9 t h)
theorem dB {h:Heap} (ha:h.get? a=some o) (hb:h.get? b=some u) (hc:o.cls≠u.cls):a≠b:=λe=>by
 subst e;rw[ha] at hb;cases hb;exact hc rfl
theorem m6 (h:a≠b):Value.type a≠Value.type b:=λe=>h (by injection e)
theorem Ek {z TI TO i1 i2 l1 l2:Addr} (hz:IsZip h z TI TO f0) (hTI:IsPair h TI (.ref i1) (.ref i2)) (hTO:IsPair h TO a b)
  (h1:h.IsListIter i1 l1 k1) (h2:h.IsListIter i2 l2 k2) (hl1:h.IsList l1 xs) (hl2:h.IsList l2 ys) (hT:TI≠TO) (hi:i1≠i2):ZipApart z TI TO i1 i2 l1 l2:=by
 obtain ⟨o1,g1,c1,_⟩:=h1;obtain ⟨o2,g2,c2,_⟩:=h2;obtain ⟨p1,q1,d1,_⟩:=hl1;obtain ⟨p2,q2,d2,_⟩:=hl2;refine ⟨dB hTI hz ?_,dB hTO hz ?_,dB g1 hz ?_,dB g2 hz ?_,hT,dB hTI g1 ?_,dB hTI g2 ?_,dB hTO g1 ?_,dB hTO g2 ?_,hi,dB q1 hz ?_,dB q1 hTO ?_,dB q1 g1 ?_,dB q1 g2 ?_,dB q2 hz ?_,dB q2 hTO ?_,dB q2 g1 ?_,dB q2 g2 ?_⟩
 all_goals first
  | (rw[d1];first | (rw[c1];exact m6 (by decide)) | (rw[c2];exact m6 (by decide)) | exact m6 (by decide))
  | (rw[d2];first | (rw[c1];exact m6 (by decide)) | (rw[c2];exact m6 (by decide)) | exact m6 (by decide))
  | (rw[c1];exact m6 (by decide))
  | (rw[c2];exact m6 (by decide))
  | exact m6 (by decide)
def SQ (K : FG9) (l1 l2 : Addr) : It :=
  ⟨λi H => ∃ xs ys x y, bB K H l1 xs /\ bB K H l2 ys /\ xs[i]? = some x /\ ys[i]? = some y,
   λi H v H' => ∃ p x y, v = .ref p /\ H p = none /\ H' = upd H p (.tup [x, y]) /\ (∀ xs, bB K H l1 xs → xs[i]? = some x) /\ ∀ ys, bB K H l2 ys → ys[i]? = some y,
   λi H => ∃ xs ys, bB K H l1 xs /\ bB K H l2 ys /\ (xs.length ≤ i \/ ys.length ≤ i)⟩
def tnZ (z TI TO i1 i2 l1 l2:Addr) (i:Nat) (h:Heap):Prop:=IsZip h z TI TO .none/\IsPair h TI (.ref i1) (.ref i2)/\(∃a b,IsPair h TO a b)/\h.IsListIter i1 l1 i/\h.IsListIter i2 l2 i
theorem NK {P:Program} {w:World} {K:FG9} {elts:List Expr} {kk:Nat} {tpos:Pos} (z TI TO i1 i2 l1 l2:Addr) (hT:TI≠TO) (hi:i1≠i2):Turn P w K (.Tuple elts kk tpos) (SQ K l1 l2) [z,TI,TO,i1,i2] z (tnZ z TI TO i1 i2 l1 l2) where
 mem:=by simp
 obj:=λi h st b hb=>by
  obtain ⟨hz,hTI,⟨a,c,hTO⟩,⟨o1,g1,c1,d1⟩,⟨o2,g2,c2,d2⟩⟩:=st;simp only[aH,bw,or_false] at hb;rcases hb with rfl | rfl | rfl | rfl | rfl
  ·exact ⟨_,hz,λv q=>nomatch q⟩
  ·exact ⟨_,hTI,λv q=>nomatch q⟩
  ·exact ⟨_,hTO,λv q=>nomatch q⟩
  ·exact ⟨o1,g1,λv q=>by rw[d1] at q;cases q⟩
  ·exact ⟨o2,g2,λv q=>by rw[d2] at q;cases q⟩
 keep:=λi h h' st k=>by
  obtain ⟨hz,hTI,⟨a,c,hTO⟩,h1,h2⟩:=st;exact ⟨k z (by simp) _ hz,k TI (by simp) _ hTI,⟨a,c,k TO (by simp) _ hTO⟩,h1.at λo e=>k i1 (by simp) o e,h2.at λo e=>k i2 (by simp) o e⟩
 item:=by
  intro X hP hw hK hc i pins s σ H E I hf st hg;subst hP hw hK;obtain ⟨hz,hTI,⟨a,c,hTO⟩,h1,h2⟩:=st;obtain ⟨xs,ys,x,y,qx,qy,ex,ey⟩:=hg;obtain ⟨us,rx,px,_⟩:=I.list qx;obtain ⟨ws,ry,py,_⟩:=I.list qy;obtain ⟨u,eu,ru⟩:=rx.get ex;obtain ⟨v,ev,rv⟩:=ry.get ey;have D:=Ek hz hTI hTO h1 h2 px.isList py.isList hT hi;refine wpAny_pyNext_zip_item D hz hTI hTO h1 h2 px.isList py.isList (x:=u) (y:=v) (by simpa using eu) (by simpa using ev) λh' a1 a2 a3 a4 a5 a6 hk=>?_
  refine ⟨_,rfl,wpAny_letOwnedTupleGo_zip a1 λh'' hz'' hs=>?_⟩;have hT0:H s.heap.objs.size=none:=I.hok.fresh (ar _);have zne:s.heap.objs.size≠z:=Mp (Heap.lt_size hz)
  have up:∀b o,b∉[z,TO,i1,i2]->s.heap.get? b=some o->h''.get? b=some o:=λb o hb e=>by
   simp only[aH,bw,or_false,not_or] at hb;exact (hs.2 b hb.1).trans (hk b o hb.1 hb.2.1 hb.2.2.1 hb.2.2.2 e)
  have fx:∀b∈[z,TO,i1,i2],lJ X pins H b:=λb hb=>hf b (by
   simp only[aH,bw,or_false] at hb ⊢;rcases hb with rfl | rfl | rfl | rfl <;> simp)
  have nx:∀b o,H b=some o->b∉[z,TO,i1,i2]:=λb o e hb=>by
   have:=(fx b hb).1;rw[this] at e;cases e
  have nT:∀{b:Addr} {o:HO},H b=some o->b≠s.heap.objs.size:=λe q=>by rw[q,hT0] at e;cases e
  have tup:h''.get? s.heap.objs.size=some { cls:=.type "tuple",data:=.seq #[u,v] }:=(hs.2 _ zne).trans a5
  have I2:Inv X pins σ (upd H s.heap.objs.size (.tup [x,y])) { s with heap:=h'' }:=by
   refine I.step (g':=s.gens) (d':=s.drawn) (t':=s.toks) (ch:=[z,TO,i1,i2]) (λb hb=>?_) (λb o _ _ hb e _=>up b o hb e) (λb o _ _ hb e _=>⟨o.slots,up b o hb e⟩) (λb o hb e n=>?_)
    (λb o hb e=>⟨o,up b o hb e⟩) (λb q e=>by rw[bc (nT e)];exact e) (λb o q e=>by rw[bc (nT e)];exact e) (λb q e=>⟨#[],by rw[bc (nT e),e];simp⟩) (λm hm=>?_) (λb o e=>?_) I.bare
   ·obtain ⟨_,f1,_,f3,f4,f5⟩:=fx b hb;exact ⟨f3,f1,f4,f5⟩
   ·rw[bc (c7 (Heap.lt_size e))];exact n
   ·obtain ⟨o,es,ep,ho,r⟩:=hm;exact ⟨o,es,ep,up _ o (λz=>(fx _ z).2.1 rfl) ho,r⟩
   ·by_cases hb:b=s.heap.objs.size
    ·subst hb;rw[aD] at e;cases e;exact ⟨j6 rfl,[u,v],.cons ru (.cons rv .nil),⟨_,tup,rfl,_,rfl⟩⟩
    ·rw[bc hb] at e;refine (I.hok b o e).stay (λc v' hc q=>up c v' ?_ q) (λc q=>by rw[bc (nT q)];exact q) λc xs q=>by rw[bc (nT q)];exact q
     rcases hc with rfl | hc
     ·exact nx _ _ e
     ·exact nx _ _ hc
  refine ⟨.ref s.heap.objs.size,_,I2,rfl,⟨_,x,y,rfl,hT0,rfl,λxs' q=>by rw[I.list_inj q qx];exact ex,λys' q=>by rw[I.list_inj q qy];exact ey⟩,?_,λb hb=>?_⟩
  ·refine ⟨hz'',(hs.2 _ D.TIz).trans (hk _ _ D.TIz D.TITO D.TIi1 D.TIi2 hTI),⟨_,_,(hs.2 _ D.TOz).trans a2⟩,a3.at λo e=>(hs.2 _ D.i1z).trans e,a4.at λo e=>(hs.2 _ D.i2z).trans e⟩
  ·obtain ⟨o,e,_⟩:∃o,s.heap.get? b=some o/\True:=by
    obtain ⟨o1,g1,_⟩:=h1;obtain ⟨o2,g2,_⟩:=h2;simp only[aH,bw,or_false] at hb;rcases hb with rfl | rfl | rfl | rfl | rfl
    ·exact ⟨_,hz,trivial⟩
    ·exact ⟨_,hTI,trivial⟩
    ·exact ⟨_,hTO,trivial⟩
    ·exact ⟨_,g1,trivial⟩
    ·exact ⟨_,g2,trivial⟩
   rw[bc (c7 (Heap.lt_size e))];exact (hf b hb).1
 done:=by
  intro X hP hw hK hc i pins s σ H E I hf st hg;subst hP hw hK;obtain ⟨hz,hTI,⟨a,c,hTO⟩,h1,h2⟩:=st;obtain ⟨xs,ys,qx,qy,hend⟩:=hg;obtain ⟨us,rx,px,_⟩:=I.list qx;obtain ⟨ws,ry,py,_⟩:=I.list qy;have lx:=rx.length;have ly:=ry.length;have D:=Ek hz hTI hTO h1 h2 px.isList py.isList hT hi
  refine wpAny_pyNext_zip_end (I.ok.hd hc) D hz hTI hTO h1 h2 px.isList py.isList (by
   rcases hend with q | q
   ·exact .inl (by simp;lia)
   ·exact .inr (by simp;lia)) λh' hk=>⟨rfl,?_⟩
  have up:∀b o,b∉[z,TO,i1,i2]->s.heap.get? b=some o->h'.get? b=some o:=λb o hb e=>by
   simp only[aH,bw,or_false,not_or] at hb;exact hk b o hb.1 hb.2.1 hb.2.2.1 hb.2.2.2 e
  have fx:∀b∈[z,TO,i1,i2],lJ X pins H b:=λb hb=>hf b (by
   simp only[aH,bw,or_false] at hb ⊢;rcases hb with rfl | rfl | rfl | rfl <;> simp)
  have nx:∀b o,H b=some o->b∉[z,TO,i1,i2]:=λb o e hb=>by
   have:=(fx b hb).1;rw[this] at e;cases e
  refine I.step (g':=s.gens) (d':=s.drawn) (t':=s.toks) (ch:=[z,TO,i1,i2]) (λb hb=>?_) (λb o _ _ hb e _=>up b o hb e) (λb o _ _ hb e _=>⟨o.slots,up b o hb e⟩) (λb o hb e n=>n)
   (λb o hb e=>⟨o,up b o hb e⟩) (λb q e=>e) (λb o q e=>e) (λb q e=>⟨#[],by rw[e];simp⟩) (λm hm=>?_) (λb o e=>?_) I.bare
  ·obtain ⟨_,f1,_,f3,f4,f5⟩:=fx b hb;exact ⟨f3,f1,f4,f5⟩
  ·obtain ⟨o,es,ep,ho,r⟩:=hm;exact ⟨o,es,ep,up _ o (λz=>(fx _ z).2.1 rfl) ho,r⟩
  ·refine (I.hok b o e).stay (λc v' hc q=>up c v' ?_ q) (λc q=>q) λc xs q=>q
   rcases hc with rfl | hc
   ·exact nx _ _ e
   ·exact nx _ _ hc
 self:=λ_ _ _ _ _ st h=>wpAny_pyIter_zip st.1 h
section
variable {X:Cx}
def Uj (K:FG9) (ta:TA):TI:=λσ H R=>ta σ H λvs H1=>∃l1 l2,vs=[.ref l1,.ref l2]/\(∃xs,bB K H1 l1 xs)/\(∃ys,bB K H1 l2 ys)/\R (SQ K l1 l2) H1
theorem mP {a b:Expr} {ta:TA} {p pos tpos:Pos} {elts:List Expr} {kk:Nat} (hg:Gl X "zip") (hm:X.mg "zip"=none) (ha:PA X [a,b] ta) (hs:starEach [a,b] X.env=[(false,eval a X.env),(false,eval b X.env)]:=by rfl) (hs2:starEach [b] X.env=[(false,eval b X.env)]:=by rfl) :
  PI X (.Tuple elts kk tpos) (.Call (.Name "zip" p) [a,b] [] pos) (Uj X.K ta):=by
 intro pins s σ H R I h;refine Call_ (nZ I hg hm boot_zip (PyProof.Rows.callWith_type1 (iw (ha pos pins s σ H _ I h) λus s1 ⟨vs,H1,I1,r1,q1⟩=>?_) (by rw[hs,hs2]) (by rw[hs2];rfl)));obtain ⟨l1,l2,e,⟨xs,qx⟩,⟨ys,qy⟩,q⟩:=q1;subst e;obtain ⟨u,v,rfl,ru,rv⟩:=vals2 r1;cases ru;cases rv;obtain ⟨us,rx,px,_⟩:=I1.list qx;obtain ⟨ws,ry,py,_⟩:=I1.list qy;refine call_zip_2 px.isList py.isList λh' a1 a2 a3 a4 a5 a6 hk=>wpAny_pyIter_zip a1 ?_
 have I2:Inv X pins σ H1 { s1 with heap:=h' }:=I1.kept (t':=s1.toks) hk;refine ⟨_,[s1.heap.objs.size+4,s1.heap.objs.size+2,s1.heap.objs.size+3,s1.heap.objs.size,s1.heap.objs.size+1],_,_,H1,rfl,I2,NK (s1.heap.objs.size+4) (s1.heap.objs.size+2) (s1.heap.objs.size+3) s1.heap.objs.size (s1.heap.objs.size+1) l1 l2 (c7 (jm _)) (c7 (jm _)),⟨a1,a2,⟨_,_,a3⟩,a4,a5⟩,λb hb=>?_,q⟩
 have hb':s1.heap.objs.size<=b:=by
  simp only[aH,bw,or_false] at hb;rcases hb with rfl | rfl | rfl | rfl | rfl <;> first | exact Nat.le_add_right _ _ | exact ar _
 exact I1.fpOk hb' (I1.hok.fresh hb')
theorem Dl (hc:X.calm=true):sW X (.builtin "all") (λxs H Q=>∃(p:Addr) (bs:List Bool),xs=[.ref p]/\bB X.K H p (bs.map V.bl)/\Q (.bl (bs.all id)) H):=by
 intro pins s σ H xs us Q I r h;obtain ⟨p,bs,rfl,hp,q⟩:=h;obtain ⟨u,rfl,ru⟩:=vals1 r;cases ru;obtain ⟨vs,rv,pl,hz⟩:=I.list hp
 have hb:PyProof.Rows.LSm.BoolsAre vs bs:=by
  clear q hp pl hz
  induction bs generalizing vs with
  | nil=>cases rv;exact .nil
  | cons b bs ih =>
   rw[ib] at rv;cases rv with
   | cons r1 r2=>cases r1;exact .cons b (ih _ r2)
 have hlt:p < s.heap.objs.size:=by obtain ⟨_,e,_⟩:=pl.isList;exact Heap.lt_size e
 refine call_all_walk (wpAny_pyIter_list pl.isList ?_)
 refine ⟨s.heap.objs.size,[s.heap.objs.size,p],[s.heap.objs.size],vs.toArray.size,_,_,λi=>(bs[i]?).getD true,rfl,Walks.list (A:=X.A.in1) (I.ok.hd hc) _ p (c7 hlt) vs.toArray,
  ⟨⟨_,Heap.get?_push_size _ rfl,rfl,rfl⟩,pl.isList.push _⟩,λi v s' Q' E' hP hQ=>?_,λh' tk hk=>?_⟩
 ·obtain ⟨b,e,rfl⟩:=hb.get i v (by simpa using hP);simp only[e,A4] at hQ;exact wpAny_truthy_bool hQ
 ·have e:((List.range vs.toArray.size).all λi=>(bs[i]?).getD true)=bs.all id:=by
   rw[aF,hb.length];exact PyProof.Rows.LSm.range_all bs
  rw[e];exact ⟨.bl _,H,I.kept (t':=tk) (PyProof.Rows.LSm.kept_iter hk),rfl,q⟩
theorem PD (hc:X.calm=true):sW X (.builtin "sum") (λxs H Q=>∃(p:Addr) (ns:List Int),xs=[.ref p]/\bB X.K H p (ns.map V.int)/\Q (.int ns.sum) H):=by
 intro pins s σ H xs us Q I r h;obtain ⟨p,ns,rfl,hp,q⟩:=h;obtain ⟨u,rfl,ru⟩:=vals1 r;cases ru;obtain ⟨vs,rv,pl,_⟩:=I.list hp;have hi:IntsAre vs ns:=intsAre_of rv;obtain ⟨xs,hx⟩:=hi.allInts.items;have hl':s.heap.IsList p (intItems xs):=hx ▸ pl.isList;refine sum_intListG (I.ok.hd hc) hl' λh' tk t' hk=>?_
 have e1:ns=xs.toList.map (·.1):=by
  rw[<- nums_intItems,<- hx];exact (show numsOf vs.toArray.toList=ns from hi.numsOf).symm
 have e2:preSum (numAt xs) xs.size=ns.sum:=by
  rw[preSum_eq,aG (by simp),e1]
 rw[e2];exact ⟨.int _,H,I.kept (t':=tk) hk,⟨_,rfl⟩,q⟩
end
section
variable {K:FG9} {l1 l2:Addr} {xs ws:List V} {g:TG} {tf:TT} {te:TE} {Q:VK} {σ₀:St} {H:Hp}
theorem uT (Pv:Nat->List V->Hp->Prop) (hz:xs.length<=sizeLine) (hw:ws.length=xs.length) (h0:Pv 0 [] H) (hl:∀i ys H,i<=xs.length->Pv i ys H->bB K H l1 xs/\bB K H l2 ws)
  (hs:∀i x y ys H p,xs[i]?=some x->ws[i]?=some y->ys.length<=i->Pv i ys H->H p=none->pP σ₀ g tf te (.ref p) (upd H p (.tup [x,y])) (λy H'=>Pv (i+1) (ys++[y]) H') (λH'=>Pv (i+1) ys H'))
  (hd:∀ys H,ys.length<=xs.length->Pv xs.length ys H->∀p,H p=none->Q (.ref p) (upd H p (.lst ys))):qG (SQ K l1 l2) σ₀ g tf te Q H:=by
 refine ⟨λi m ys H=>m=xs.length - i/\i<=xs.length/\ys.length<=i/\Pv i ys H,⟨xs.length,by simp,a7 _,a7 _,h0⟩,?_⟩;rintro i m ys H ⟨rfl,hi,hy,p⟩;obtain ⟨q1,q2⟩:=hl i ys H hi p;by_cases hlt:i < xs.length
 ·refine .inr ⟨⟨xs,ws,xs[i],ws[i]'(by lia),q1,q2,by simp [hlt],by simp⟩,by lia,λy H'=>Pv (i+1) (ys++[y]) H',λH'=>Pv (i+1) ys H',λy H' p'=>⟨xs.length - (i+1),by lia,rfl,hlt,by rw[ai,aQ];lia,p'⟩,λH' p'=>⟨xs.length - (i+1),by lia,rfl,hlt,by lia,p'⟩,λx H' y=>?_⟩;obtain ⟨r,x',y',rfl,hr,rfl,e1,e2⟩:=y;exact hs i x' y' ys _ r (e1 xs q1) (e2 ws q2) hy p hr
 ·have e:i=xs.length:=by lia
  subst e;exact .inl ⟨⟨xs,ws,q1,q2,.inl (ar _)⟩,by lia,hd ys H hy p⟩
theorem Hq {tb:TS} {D:Ends} (Pv:Nat->St->Hp->Prop) (hw:ws.length=xs.length) (h0:Pv 0 σ H) (hl:∀i σ H,i<=xs.length->Pv i σ H->bB K H l1 xs/\bB K H l2 ws)
  (hs:∀i x y σ H p,xs[i]?=some x->ws[i]?=some y->Pv i σ H->H p=none->g (.ref p) σ (upd H p (.tup [x,y])) λσ2 H2=>tb { D with nx:=Pv (i+1),ct:=Pv (i+1),bk:=D.nx } σ2 H2) (hd:∀σ H,Pv xs.length σ H->D.nx σ H) :
  ∃W:Nat->Nat->St->Hp->Prop,(∃m,W 0 m σ H)/\∀i m σ H,W i m σ H →
   ((SQ K l1 l2).stop i H/\D.nx σ H)\/((SQ K l1 l2).go i H/\∃N:St->Hp->Prop,(∀σ' H',N σ' H'->∃m',m' < m/\W (i+1) m' σ' H')/\∀x H',(SQ K l1 l2).yld i H x H'->g x σ H' λσ2 H2=>tb { D with nx:=N,ct:=N,bk:=D.nx } σ2 H2):=by
 refine ⟨λi m σ H=>m=xs.length - i/\i<=xs.length/\Pv i σ H,⟨xs.length,by simp,a7 _,h0⟩,?_⟩;rintro i m σ H ⟨rfl,hi,p⟩;obtain ⟨q1,q2⟩:=hl i σ H hi p;by_cases hlt:i < xs.length
 ·refine .inr ⟨⟨xs,ws,xs[i],ws[i]'(by lia),q1,q2,by simp [hlt],by simp⟩,Pv (i+1),λσ' H' p'=>⟨xs.length - (i+1),by lia,rfl,hlt,p'⟩,λx H' y=>?_⟩;obtain ⟨r,x',y',rfl,hr,rfl,e1,e2⟩:=y;exact hs i x' y' σ _ r (e1 xs q1) (e2 ws q2) p hr
 ·have e:i=xs.length:=by lia
  subst e;exact .inl ⟨⟨xs,ws,q1,q2,.inl (ar _)⟩,hd σ H p⟩
end
section
variable {X:Cx}
theorem oy (K:FG9) (n:Nat) {es:List Expr} {k:Nat} {pos:Pos} {t:PY} (h:VJ X es t) (hK:X.K=K:=by rfl) (hc:X.calm=true:=by rfl)
  (hn:(assignEach es X.env).length=n:=by rfl) (hst:(assignEach es X.env).findIdx? (·.1)=none:=by rfl):PG X (.Tuple es k pos) (Uo K n t):=by subst hK;exact o6 hc h hn hst
theorem Bt (K:FG9) (hK:X.K=K):VP X (TR K):=by subst hK;exact bu
theorem hJ (K:FG9) (hK:X.K=K):VP X (TU K):=by subst hK;exact bE
theorem Gj (K:FG9) (hK:X.K=K) (hu:X.A.units+50 < cLine):yW X (compareOp .NotEq) (TQ K):=by subst hK;exact uE hu
theorem IU (K:FG9) {tg l:Expr} {tl:TE} (hl:PE X l tl) (hK:X.K=K:=by rfl):PI X tg l (O5 K tl):=by subst hK;exact cA hl
theorem Of (K:FG9) (hK:X.K=K):Wu X (TN K):=by subst hK;exact Bn
end
theorem eY {X:Cx} {e e':Expr} {es:List Expr} {te:TE} {t:TA} (h:e=e') (ha:PE X e' te) (hr:PA X es t) (hs:∀l,starEach (e' :: l) X.env=(false,eval e' X.env) :: starEach l X.env:=by intro _;rfl):PA X (e :: es) (js te t):=by subst h;exact gG ha hr (hs _)
section
variable {σ:St} {H:Hp} {D:Ends} {Q:VK}
theorem fZ (hl:H l=some (.lst xs)) (hz:xs.length < sizeLine) (h:Q .non (upd H l (.lst (xs++[y])))):Ls (.ref l) [y] H Q:=⟨l,xs,y,rfl,rfl,hl,hz,h⟩
theorem QM {K:FG9} (h:ta σ H λvs H1=>∃l1 l2,vs=[.ref l1,.ref l2]/\(∃xs,bB K H1 l1 xs)/\(∃ys,bB K H1 l2 ys)/\R (SQ K l1 l2) H1):Uj K ta σ H R:=h
theorem uA (h1:H l=some (.lst xs)) (h2:H b=some (.lst zs)) (hz:xs.length+zs.length<=sizeLine) (h:∀p H',aB H H'->H p=none->H' p=some (.lst (xs++zs))->Q (.ref p) H'):Vm (.ref l) (.ref b) H Q :=
 ⟨l,b,xs,zs,rfl,rfl,h1,h2,hz,λp hp=>h p _ (aB.new hp) hp aD⟩
theorem Ot {K:FG9} {lo hi:Option Int} (h1:bB K H a xs) (h:∀p H',aB H H'->H p=none->H' p=some (.lst (tD xs lo hi))->Q (.ref p) H'):TN K (.ref a) lo hi H Q :=
 ⟨a,xs,rfl,h1,λp hp=>h p _ (aB.new hp) hp aD⟩
theorem qj {xs:List α} {i:Int} (h0:0<=i) (h1:i < xs.length):∃v,K6 xs i=some v/\v∈xs/\xs[i.toNat]?=some v:=by
 have hj:i.toNat < xs.length:=by lia
 refine ⟨xs[i.toNat],?_,aI hj,by simp [hj]⟩;have:=dD (xs:=xs) (j:=i.toNat) (v:=xs[i.toNat]) (by simp [hj]);rwa [Int.toNat_of_nonneg h0] at this
end
inductive Kn (H:Hp):V->Prop where
 | non:Kn H .non
 | bl (b:Bool):Kn H (.bl b)
 | int (i:Int):Kn H (.int i)
 | str (x:Str):Kn H (.str x)
 | lst {a:Addr} {xs:List V} (e:H a=some (.lst xs)):Kn H (.ref a)
 | tup {a:Addr} {xs:List V} (e:H a=some (.tup xs)):Kn H (.ref a)
 | dic {a:Addr} {kvs:List (Key×V)} (e:H a=some (.dK kvs)):Kn H (.ref a)
def tyB (T:String) (x:V) (H:Hp):Bool:=match x with
 | .int _=>T == "int"
 | .bl _=>T == "int" || T == "bool"
 | .ref a=>(match H a with
  | some (.lst _)=>T == "list"
  | some (.tup _)=>T == "tuple"
  | _=>false)
 | _=>false
def OkT (T:String):Prop:=T="int"\/T="bool"\/T="list"\/T="tuple"
theorem Ou {K:FG9} (h:Kn H x) (hT:OkT T) (q:Q (.bl (tyB T x H)) H):Kw K T x H Q:=by
 cases h with
 | non=>rcases hT with rfl | rfl | rfl | rfl <;> exact ⟨_,_,.non,rfl,q⟩
 | bl b=>rcases hT with rfl | rfl | rfl | rfl <;> exact ⟨_,_,.bl b,rfl,q⟩
 | int i=>rcases hT with rfl | rfl | rfl | rfl <;> exact ⟨_,_,.int i,rfl,q⟩
 | str x=>rcases hT with rfl | rfl | rfl | rfl <;> exact ⟨_,_,.str x,rfl,q⟩
 | lst e =>
  simp only[tyB,e] at q;rcases hT with rfl | rfl | rfl | rfl <;> exact ⟨_,_,.lst e,rfl,q⟩
 | tup e =>
  simp only[tyB,e] at q;rcases hT with rfl | rfl | rfl | rfl <;> exact ⟨_,_,.tup e,rfl,q⟩
 | dic e =>
  simp only[tyB,e] at q;rcases hT with rfl | rfl | rfl | rfl <;> exact ⟨_,_,.dK e,rfl,q⟩
theorem dE {α β:Type} {F:α->β->Prop}:∀{l1:List α} {l2:List β} {y:β},Paired F l1 l2->y∈l2->∃x∈l1,F x y
 | _,_,_,.nil,h=>nomatch h
 | _,_,_,.cons r t,h=>by
  rcases aH.mp h with rfl | h
  ·exact ⟨_,cH,r⟩
  ·obtain ⟨x,hx,q⟩:=dE t h;exact ⟨x,bJ _ hx,q⟩
theorem bQ {F:α->β->Prop} {l1:List α} {l2:List β} {i:Nat} {y:β} (h:Paired F l1 l2) (e:l2[i]?=some y):∃x,l1[i]?=some x/\F x y:=by
 have hl:=h.length;have hi:i < l2.length:=(az.mp e).1;refine ⟨l1[i]'(by lia),by simp,?_⟩;have:=jO h (i:=i) (by lia) hi;have e2:l2[i]=y:=(az.mp e).2;rwa [e2] at this
def AY (n:Int×Int):Prop:=0 < n.2/\Int.gcd n.1 n.2=1/\Sz 400000 n.1/\Sz 400000 n.2
theorem take_snoc {α:Type} {l:List α} {v:α} (h:l[i]?=some v):l.take (i+1)=l.take i++[v]:=by rw[List.take_add_one,h];rfl
theorem aB.after (s:aB H H') (h:H r=Option.none):aB H (upd H' r o):=λb u e=>by rw[bc (gO e h)];exact s b u e
theorem df.after (s:df b H H') (h:H r=Option.none):df b H (upd H' r o):=⟨λc u e n=>by rw[bc (gO e h)];exact s.1 c u e n,λq hi=>(s.2 q hi).upd λz=>by obtain ⟨_,_,_,e⟩:=hi;rw[<- z,h] at e;cases e⟩
theorem df.same (s:df b H H') (e:aB H' H''):df b H H'':=s.trans e.upto
theorem HI {α:Type} {Pr:α->Prop} {l:List α} {a:α} (h:∀n∈l,Pr n) (ha:Pr a):∀n∈l++[a],Pr n:=λn hn=>by
 rcases av.mp hn with hn | hn
 ·exact h n hn
 ·have e:n=a:=by simpa using hn
  rw[e];exact ha
abbrev Dx (h:Heap) (z TI TO:Addr) (f0 f1:Value):Prop:=h.get? z=some { cls:=.type "zip",dict:=none,data:=.fields #[f0,f1,.bool false,.ref TI,.ref TO],slots:=#[] }
section
variable {prog:Program} {w:World} {A:Around} {E:Value->Shared->Prop} {s:Shared}
theorem K7 (e:s.heap.get? a=some o) (h:Q (some o) s):wpAny (model prog w) A (loadIfAlive a) Q E s:=by
 intro Γ p hp;show Sem.wp _ _ (.loadIfAlive a .pure) _ _ _ _
 simp only[Sem.wp_loadIfAlive,e];exact wpAny_pure h Γ p hp
theorem CA {z TI TO T:Addr} (zr:Dx s.heap z TI TO (rawInt T) (.bool b1)) (al:s.heap.get? T=some o)
  (h:∀h',Dx h' z TI TO (rawInt T) (.bool true)->Heap.SameBut z s.heap h'->Q false { s with heap:=h' }):wpAny (model prog w) A (Builtin.SmallTypes.ownedTupleIsFree (.ref z)) Q E s:=by
 unfold Builtin.SmallTypes.ownedTupleIsFree;refine wpAny_bind (wpAny_field zr rfl (x:=rawInt T) rfl ?_);refine wpAny_bind (K7 (a:=T) al ?_);refine wpAny_bind (wpAny_field zr rfl (x:=.bool b1) rfl ?_);cases b1 with
 | true=>exact wpAny_pure (h _ zr (.refl ..))
 | false=>exact wpAny_bind (wpAny_setField_rec zr (by simp) λh' zr' sb=>wpAny_pure (h h' zr' sb))
theorem MX {z TI TO T i1 i2 l1 l2:Addr} {Q:Value->Shared->Prop} (D:ZipApart z TI TO i1 i2 l1 l2) (zr:Dx s.heap z TI TO (rawInt T) (.bool b1)) (al:s.heap.get? T=some o)
  (pt:IsPair s.heap TI (.ref i1) (.ref i2)) (j1:s.heap.IsListIter i1 l1 k1) (j2:s.heap.IsListIter i2 l2 k2) (m1:s.heap.IsList l1 us) (m2:s.heap.IsList l2 ws) (eu:us[k1]?=some u) (ev:ws[k2]?=some v)
  (hQ:∀h',Dx h' z TI TO (rawInt T) (.bool true)->h'.IsListIter i1 l1 (k1+1)->h'.IsListIter i2 l2 (k2+1)->IsPair h' s.heap.objs.size u v->(∀c o,c≠z->c≠i1->c≠i2->s.heap.get? c=some o->h'.get? c=some o)->Q (.ref s.heap.objs.size) { s with heap:=h' }) :
  wpAny (model prog w) A (Builtin.«zip.__next__» ⟨[.ref z],[]⟩) (λfin s'=>∃v,fin=.done (.ret v)/\Q v s') E s:=by
 change wpAny _ _ (field (Value.ref z) 2 >>= _) _ _ s
 refine wpAny_bind (wpAny_field zr rfl (x:=.bool false) rfl ?_)
 change wpAny _ _ (field (Value.ref z) 3 >>= _) _ _ s
 refine wpAny_bind (wpAny_field zr rfl (x:=.ref TI) rfl (wpAny_bind (wpAny_seqItems pt rfl ?_)))
 change wpAny _ _ (Builtin.SmallTypes.ownedTupleIsFree (Value.ref z) >>= _) _ _ s
 refine wpAny_bind (CA zr al λg1 zr1 sb1=>?_);simp only[jL,if_false];refine wpAny_bind ?_;rw[<- Array.forIn_toList];simp only[Qb,FF];have j1':=j1.extBut sb1.extBut D.i1z;have m1':=m1.extBut sb1.extBut D.l1z;refine wpAny_bind (wpAny_bind (wpAny_holding ?_))
 change wpAny _ _ (Builtin.SmallTypes.nextOf (Value.ref i1) >>= _) _ _ _
 refine wpAny_bind (wpAny_nextOf_list_item j1' m1' eu λg2 j1a sb2=>wpAny_pure ?_);refine wpAny_pure ?_;have j2':=(j2.extBut sb1.extBut D.i2z).extBut sb2.extBut D.i12.symm;have m2':=(m2.extBut sb1.extBut D.l2z).extBut sb2.extBut D.l2i1;refine wpAny_bind (wpAny_bind (wpAny_holding ?_))
 change wpAny _ _ (Builtin.SmallTypes.nextOf (Value.ref i2) >>= _) _ _ _
 refine wpAny_bind (wpAny_nextOf_list_item j2' m2' ev λg3 j2a sb3=>wpAny_pure ?_);refine wpAny_pure (wpAny_pure ?_);refine wpAny_bind (wpAny_newTuple (hsz:=j6 rfl) ?_);have sz:g3.objs.size=s.heap.objs.size:=by rw[sb3.1,sb2.1,sb1.1]
 have up:∀c o,c≠z->c≠i1->c≠i2->s.heap.get? c=some o->g3.get? c=some o:=λc o c1 c2 c3 e=>sb3.extBut _ _ c3 (sb2.extBut _ _ c2 (sb1.extBut _ _ c1 e))
 have zr3:Dx g3 z TI TO (rawInt T) (.bool true):=sb3.extBut _ _ D.i2z.symm (sb2.extBut _ _ D.i1z.symm zr1);refine wpAny_pure ⟨_,rfl,?_⟩
 change Q (.ref g3.objs.size) { s with heap:=g3.push { cls:=.type "tuple",data:=.seq #[u,v] } }
 have last:=hQ (g3.push { cls:=.type "tuple",data:=.seq #[u,v] }) (Heap.get?_push_of_some _ zr3) ((j1a.extBut sb3.extBut D.i12).at λo e=>Heap.get?_push_of_some _ e) (j2a.at λo e=>Heap.get?_push_of_some _ e)
  (by rw[<- sz];exact Heap.get?_push_size _ rfl) λc o c1 c2 c3 e=>Heap.get?_push_of_some _ (up c o c1 c2 c3 e)
 rw[sz];exact last
theorem OS {z TI TO T i1 i2 l1 l2:Addr} (hh:A.handled=none) (D:ZipApart z TI TO i1 i2 l1 l2) (zr:Dx s.heap z TI TO (rawInt T) (.bool b1)) (al:s.heap.get? T=some o)
  (pt:IsPair s.heap TI (.ref i1) (.ref i2)) (j1:s.heap.IsListIter i1 l1 k1) (m1:s.heap.IsList l1 us) (eu:us[k1]?=none)
  (hE:∀h' e,(∀c o,c≠z->c≠i1->c≠i2->s.heap.get? c=some o->h'.get? c=some o)->(∃o,h'.get? e=some o/\o.cls=.type "StopIteration")->E (.ref e) { s with heap:=h' }) :
  wpAny (model prog w) A (Builtin.«zip.__next__» ⟨[.ref z],[]⟩) Q E s:=by
 change wpAny _ _ (field (Value.ref z) 2 >>= _) _ _ s
 refine wpAny_bind (wpAny_field zr rfl (x:=.bool false) rfl ?_)
 change wpAny _ _ (field (Value.ref z) 3 >>= _) _ _ s
 refine wpAny_bind (wpAny_field zr rfl (x:=.ref TI) rfl (wpAny_bind (wpAny_seqItems pt rfl ?_)))
 change wpAny _ _ (Builtin.SmallTypes.ownedTupleIsFree (Value.ref z) >>= _) _ _ s
 refine wpAny_bind (CA zr al λg1 zr1 sb1=>?_);simp only[jL,if_false];refine wpAny_bind ?_;rw[<- Array.forIn_toList];simp only[Qb,FF];refine wpAny_bind (wpAny_bind (wpAny_holding ?_))
 change wpAny _ _ (Builtin.SmallTypes.nextOf (Value.ref i1) >>= _) _ _ _
 exact wpAny_bind (wpAny_nextOf_list_end hh (j1.extBut sb1.extBut D.i1z) (m1.extBut sb1.extBut D.l1z) eu λg2 e xb he=>hE g2 e (λc o c1 c2 _ q=>xb _ _ c2 (sb1.extBut _ _ c1 q)) he)
theorem MS {z TI TO T i1 i2 l1 l2:Addr} (D:ZipApart z TI TO i1 i2 l1 l2) (zr:Dx s.heap z TI TO (rawInt T) (.bool b1)) (al:s.heap.get? T=some o)
  (pt:IsPair s.heap TI (.ref i1) (.ref i2)) (j1:s.heap.IsListIter i1 l1 k1) (j2:s.heap.IsListIter i2 l2 k2) (m1:s.heap.IsList l1 us) (m2:s.heap.IsList l2 ws) (eu:us[k1]?=some u) (ev:ws[k2]?=some v)
  (hQ:∀h',Dx h' z TI TO (rawInt T) (.bool true)->h'.IsListIter i1 l1 (k1+1)->h'.IsListIter i2 l2 (k2+1)->IsPair h' s.heap.objs.size u v->(∀c o,c≠z->c≠i1->c≠i2->s.heap.get? c=some o->h'.get? c=some o)->Q (some (.ref s.heap.objs.size)) { s with heap:=h' }) :
  wpAny (model prog w) A (pyNext (.ref z)) Q E s:=by
 have ty:s.TypeIs (.ref z) "zip":=⟨_,zr,rfl⟩;unfold pyNext;refine wpAny_bind (wpAny_attempt (wpAny_callSpecial?_slot (name:=Str.ofString "__next__") ty qH (wpAny_call_entry qH ty PySem.F.entry_zip_next ?_ (VT _))));exact MX D zr al pt j1 j2 m1 m2 eu ev λh' a1 a2 a3 a4 a5=>wpAny_pure (hQ h' a1 a2 a3 a4 a5)
theorem MR {z TI TO T i1 i2 l1 l2:Addr} (hh:A.handled=none) (D:ZipApart z TI TO i1 i2 l1 l2) (zr:Dx s.heap z TI TO (rawInt T) (.bool b1)) (al:s.heap.get? T=some o)
  (pt:IsPair s.heap TI (.ref i1) (.ref i2)) (j1:s.heap.IsListIter i1 l1 k1) (m1:s.heap.IsList l1 us) (eu:us[k1]?=none)
  (hQ:∀h',(∀c o,c≠z->c≠i1->c≠i2->s.heap.get? c=some o->h'.get? c=some o)->Q none { s with heap:=h' }):wpAny (model prog w) A (pyNext (.ref z)) Q E s:=by
 have ty:s.TypeIs (.ref z) "zip":=⟨_,zr,rfl⟩;unfold pyNext;refine wpAny_bind (wpAny_attempt (wpAny_callSpecial?_slot (name:=Str.ofString "__next__") ty qH (wpAny_call_entry qH ty PySem.F.entry_zip_next ?_ (VT _))));refine OS hh D zr al pt j1 m1 eu λh' e kk ⟨oe,he,hc⟩=>?_
 exact wpAny_bind (wpAny_isInstance (T:="StopIteration") (b:=true) ⟨oe,he,hc⟩ isSubtype_stop (wpAny_pure (hQ _ kk)))
end
section
variable {X:Cx} {pins:List (Addr×Obj)} {σ:St} {H:Hp} {s:Shared}
theorem Inv.moved {ch:List Addr} (I:Inv X pins σ H s) (fx:∀b∈ch,lJ X pins H b) (up:∀b o,b∉ch->s.heap.get? b=some o->h'.get? b=some o) (hg:AllBare g') :
  Inv X pins σ H { s with heap:=h',gens:=g',drawn:=d',toks:=t' }:=by
 have nx:∀b o,H b=some o->b∉ch:=λb o e hb=>by have:=(fx b hb).1;rw[this] at e;cases e
 refine I.step (ch:=ch) (λb hb=>?_) (λb o _ _ hb e _=>up b o hb e) (λb o _ _ hb e _=>⟨o.slots,up b o hb e⟩) (λb o hb e n=>n) (λb o hb e=>⟨o,up b o hb e⟩) (λb q e=>e) (λb o q e=>e) (λb q e=>⟨#[],by rw[e];simp⟩) (λm hm=>?_) (λb o e=>?_) hg
 ·obtain ⟨_,f1,_,f3,f4,f5⟩:=fx b hb;exact ⟨f3,f1,f4,f5⟩
 ·obtain ⟨o,es,ep,ho,r⟩:=hm;exact ⟨o,es,ep,up _ o (λz=>(fx _ z).2.1 rfl) ho,r⟩
 ·refine (I.hok b o e).stay (λc v' hc q=>up c v' ?_ q) (λc q=>q) λc xs q=>q
  rcases hc with rfl | hc
  ·exact nx _ _ e
  ·exact nx _ _ hc
theorem Inv.track (I:Inv X pins σ H s) (fp:lJ X pins H p) (new:jY X.prog X.w (upd H p o) s.heap p o):Inv X pins σ (upd H p o) s:=by
 have nt:∀{b:Addr} {u:HO},H b=some u->b≠p:=λe z=>by rw[z,fp.1] at e;cases e
 refine I.step (h':=s.heap) (g':=s.gens) (d':=s.drawn) (t':=s.toks) (ch:=[p]) (λb hb=>?_) (λb o _ _ _ e _=>e) (λb o _ _ _ e _=>⟨o.slots,e⟩) (λb o hb e n=>?_) (λb o _ e=>⟨o,e⟩) (λb q e=>by rw[bc (nt e)];exact e) (λb o q e=>by rw[bc (nt e)];exact e)
  (λb q e=>⟨#[],by rw[bc (nt e),e];simp⟩) (λm hm=>hm) (λb u e=>?_) I.bare
 ·have e:b=p:=by simpa using hb
  subst e;obtain ⟨_,f1,_,f3,f4,f5⟩:=fp;exact ⟨f3,f1,f4,f5⟩
 ·rw[bc λz=>hb (by simp [z])];exact n
 ·by_cases hb:b=p
  ·subst hb;rw[aD] at e;cases e;exact new
  ·rw[bc hb] at e;exact (I.hok b u e).stay (λc v _ q=>q) (λc q=>by rw[bc (nt q)];exact q) λc xs q=>by rw[bc (nt q)];exact q
end
def SN (H:Hp) (p:V×V) (x:V):Prop:=∃T,x=.ref T/\H T=some (.tup [p.1,p.2])
theorem SN.same (h:SN H p x) (e:aB H H'):SN H' p x:=by obtain ⟨T,q,g⟩:=h;exact ⟨T,q,e _ _ g⟩
def Zst (h:Heap) (z TI TO:Addr) (base:Nat):Prop:=(∃a b,IsPair h TO a b)/\(IsZip h z TI TO .none\/∃(T:Addr) (b1:Bool) (o:Obj),Dx h z TI TO (rawInt T) (.bool b1)/\h.get? T=some o/\@LE.le Nat instLENat base T)
theorem FG {z TI TO i1 i2 l1 l2:Addr} (hz:Dx h z TI TO f0 f1) (hTI:IsPair h TI (.ref i1) (.ref i2)) (hTO:IsPair h TO a b) (h1:h.IsListIter i1 l1 k1) (h2:h.IsListIter i2 l2 k2) (hl1:h.IsList l1 xs) (hl2:h.IsList l2 ys) (hT:TI≠TO) (hi:i1≠i2):ZipApart z TI TO i1 i2 l1 l2:=by
 obtain ⟨o1,g1,c1,_⟩:=h1;obtain ⟨o2,g2,c2,_⟩:=h2;obtain ⟨p1,q1,d1,_⟩:=hl1;obtain ⟨p2,q2,d2,_⟩:=hl2;have zt:Value.type "zip"≠.type "tuple":=m6 (by decide);have it:Value.type "list_iterator"≠.type "tuple":=m6 (by decide);have iz:Value.type "list_iterator"≠.type "zip":=m6 (by decide);have lz:Value.type "list"≠.type "zip":=m6 (by decide);have lt:Value.type "list"≠.type "tuple":=m6 (by decide);have li:Value.type "list"≠.type "list_iterator":=m6 (by decide)
 exact ⟨dB hTI hz zt.symm,dB hTO hz zt.symm,dB g1 hz (by rw[c1];exact iz),dB g2 hz (by rw[c2];exact iz),hT,dB hTI g1 (by rw[c1];exact it.symm),dB hTI g2 (by rw[c2];exact it.symm),dB hTO g1 (by rw[c1];exact it.symm),dB hTO g2 (by rw[c2];exact it.symm),hi,
  dB q1 hz (by rw[d1];exact lz),dB q1 hTO (by rw[d1];exact lt),dB q1 g1 (by rw[d1,c1];exact li),dB q1 g2 (by rw[d1,c2];exact li),dB q2 hz (by rw[d2];exact lz),dB q2 hTO (by rw[d2];exact lt),dB q2 g1 (by rw[d2,c1];exact li),dB q2 g2 (by rw[d2,c2];exact li)⟩
section
variable {X:Cx} {pins:List (Addr×Obj)} {σ:St}
theorem lJ.heap (f:lJ X pins H b) (e:H' b=none):lJ X pins H' b:=⟨e,f.2⟩
structure HJ where
 z:Addr
 TI:Addr
 TO:Addr
 i1:Addr
 i2:Addr
 S:Addr
 base:Nat
def HJ.all (a:HJ):List Addr:=[a.z,a.TI,a.TO,a.i1,a.i2,a.S]
structure HJ.Ok (a:HJ):Prop where
 tt:a.TI≠a.TO
 ii:a.i1≠a.i2
 Sz:a.S≠a.z
 STI:a.S≠a.TI
 STO:a.S≠a.TO
 Si1:a.S≠a.i1
 Si2:a.S≠a.i2
 lt:∀b∈a.all,@LT.lt Nat instLTNat b a.base
structure RV (X:Cx) (pins:List (Addr×Obj)) (σ:St) (H1:Hp) (a:HJ) (l1 l2:Addr) (i:Nat) (H:Hp) (s:Shared):Prop where
 inv:Inv X pins σ H s
 same:aB H1 H
 fps:∀b∈a.all,lJ X pins H b
 sz:a.base<=s.heap.objs.size
 zst:Zst s.heap a.z a.TI a.TO a.base
 pt:IsPair s.heap a.TI (.ref a.i1) (.ref a.i2)
 j1:s.heap.IsListIter a.i1 l1 i
 j2:s.heap.IsListIter a.i2 l2 i
variable {a:HJ} {l1 l2:Addr} {H1 H:Hp} {s:Shared} {i:Nat} {xs ys:List V}
theorem RV.push (L:RV X pins σ H1 a l1 l2 i H s) (O:a.Ok) (k:∀b o,b≠a.S->s.heap.get? b=some o->h'.get? b=some o) (hz:h'.objs.size=s.heap.objs.size):RV X pins σ H1 a l1 l2 i H { s with heap:=h' }:=by
 refine ⟨L.inv.moved (g':=s.gens) (d':=s.drawn) (t':=s.toks) (ch:=[a.S]) (λb hb=>?_) (λb o hb e=>k b o (λz=>hb (by simp [z])) e) L.inv.bare,L.same,L.fps,by show a.base<=h'.objs.size;rw[hz];exact L.sz,?_,k _ _ O.STI.symm L.pt,L.j1.at λo e=>k _ o O.Si1.symm e,L.j2.at λo e=>k _ o O.Si2.symm e⟩
 ·have e:b=a.S:=by simpa using hb
  rw[e];exact L.fps _ (by simp [HJ.all])
 ·obtain ⟨⟨c,d,z0⟩,z4⟩:=L.zst;refine ⟨⟨c,d,k _ _ O.STO.symm z0⟩,?_⟩;rcases z4 with z1 | ⟨T,b1,o,z1,z2,z3⟩
  ·exact .inl (k _ _ O.Sz.symm z1)
  ·refine .inr ⟨T,b1,o,k _ _ O.Sz.symm z1,k _ _ (λe=>?_) z2,z3⟩;have:=O.lt a.S (by simp [HJ.all]);rw[<- e] at this;exact absurd this (Nat.not_lt.mpr z3)
theorem NF (O:a.Ok) (q1:bB X.K H1 l1 xs) (q2:bB X.K H1 l2 ys) (ex:xs[i]?=some x) (ey:ys[i]?=some y) (L:RV X pins σ H1 a l1 l2 i H s)
  (hQ:∀s',RV X pins σ H1 a l1 l2 (i+1) (upd H s.heap.objs.size (.tup [x,y])) s'->(∀c o,c∉[a.z,a.TO,a.i1,a.i2]->s.heap.get? c=some o->s'.heap.get? c=some o)->H s.heap.objs.size=none->Q (some (.ref s.heap.objs.size)) s'):wpAny (model X.prog X.w) A' (pyNext (.ref a.z)) Q E s:=by
 obtain ⟨I,sm,fps,sz,zst,pt,j1,j2⟩:=id L;obtain ⟨us,ru,pu,_⟩:=I.list (sm.seq q1);obtain ⟨ws,rw',pw,_⟩:=I.list (sm.seq q2);obtain ⟨u,eu,r1⟩:=ru.get ex;obtain ⟨v,ev,r2⟩:=rw'.get ey;have fx:∀b∈[a.z,a.TO,a.i1,a.i2],lJ X pins H b:=λb hb=>fps b (by simp only[HJ.all,aH,bw,or_false] at hb ⊢;rcases hb with e | e | e | e <;> simp [e])
 have hT0:H s.heap.objs.size=none:=I.hok.fresh (ar _);have fT:lJ X pins H s.heap.objs.size:=I.fpOk (ar _) hT0;have lt:∀b∈a.all,b≠s.heap.objs.size:=λb hb e=>by have:=O.lt b hb;rw[e] at this;exact absurd this (Nat.not_lt.mpr sz)
 have fin:∀h',(∀c o,c∉[a.z,a.TO,a.i1,a.i2]->s.heap.get? c=some o->h'.get? c=some o)->IsPair h' s.heap.objs.size u v->IsPair h' a.TI (.ref a.i1) (.ref a.i2)->h'.IsListIter a.i1 l1 (i+1)->h'.IsListIter a.i2 l2 (i+1)->Zst h' a.z a.TI a.TO a.base →
   Q (some (.ref s.heap.objs.size)) { s with heap:=h' }:=λh' up pr pt' j1' j2' zst'=>by
  have I2:Inv X pins σ H { s with heap:=h' }:=I.moved (g':=s.gens) (d':=s.drawn) (t':=s.toks) fx up I.bare;have I3:Inv X pins σ (upd H s.heap.objs.size (.tup [x,y])) { s with heap:=h' }:=I2.track fT ⟨j6 rfl,[u,v],.cons r1 (.cons r2 .nil),⟨_,pr,rfl,_,rfl⟩⟩;refine hQ _ ⟨I3,sm.trans (aB.new hT0),λb hb=>(fps b hb).heap (by rw[bc (lt b hb)];exact (fps b hb).1),?_,zst',pt',j1',j2'⟩ up hT0;exact ah sz (dh (Heap.lt_size pr))
 obtain ⟨⟨c,d,z0⟩,z4⟩:=zst;rcases z4 with z1 | ⟨T,b1,o,z1,z2,z3⟩
 ·have D:=FG z1 pt z0 j1 j2 pu.isList pw.isList O.tt O.ii;refine wpAny_pyNext_zip_item D z1 pt z0 j1 j2 pu.isList pw.isList (x:=u) (y:=v) (by simpa using eu) (by simpa using ev) λh' a1 a2 a3 a4 a5 a6 hk=>?_
  have up:∀c o,c∉[a.z,a.TO,a.i1,a.i2]->s.heap.get? c=some o->h'.get? c=some o:=λc o hc e=>by
   simp only[aH,bw,or_false,not_or] at hc;exact hk c o hc.1 hc.2.1 hc.2.2.1 hc.2.2.2 e
  exact fin h' up a5 (hk _ _ D.TIz D.TITO D.TIi1 D.TIi2 pt) a3 a4 ⟨⟨_,_,a2⟩,.inr ⟨s.heap.objs.size,false,_,a1,a5,sz⟩⟩
 ·have D:=FG z1 pt z0 j1 j2 pu.isList pw.isList O.tt O.ii;refine MS D z1 z2 pt j1 j2 pu.isList pw.isList (u:=u) (v:=v) (by simpa using eu) (by simpa using ev) λh' a1 a3 a4 a5 hk=>?_
  have up:∀c o,c∉[a.z,a.TO,a.i1,a.i2]->s.heap.get? c=some o->h'.get? c=some o:=λc o hc e=>by
   simp only[aH,bw,or_false,not_or] at hc;exact hk c o hc.1 hc.2.2.1 hc.2.2.2 e
  have Tn:∀b∈a.all,T≠b:=λb hb e=>by have:=O.lt b hb;rw[<- e] at this;exact absurd this (Nat.not_lt.mpr z3)
  exact fin h' up a5 (hk _ _ D.TIz D.TIi1 D.TIi2 pt) a3 a4 ⟨⟨_,_,hk _ _ D.TOz D.TOi1 D.TOi2 z0⟩,.inr ⟨T,true,o,a1,hk _ _ (Tn _ (by simp [HJ.all])) (Tn _ (by simp [HJ.all])) (Tn _ (by simp [HJ.all])) z2,z3⟩⟩
theorem ND (hh:A'.handled=none) (O:a.Ok) (q1:bB X.K H1 l1 xs) (q2:bB X.K H1 l2 ys) (hi:xs.length<=i) (L:RV X pins σ H1 a l1 l2 i H s)
  (hQ:∀s',Inv X pins σ H s'->(∀c o,c∉[a.z,a.TO,a.i1,a.i2]->s.heap.get? c=some o->s'.heap.get? c=some o)->Q none s'):wpAny (model X.prog X.w) A' (pyNext (.ref a.z)) Q E s:=by
 obtain ⟨I,sm,fps,sz,zst,pt,j1,j2⟩:=id L;obtain ⟨us,ru,pu,_⟩:=I.list (sm.seq q1);obtain ⟨ws,rw',pw,_⟩:=I.list (sm.seq q2);have lx:=ru.length;have none1:us.toArray[i]?=none:=by simp;lia
 have fx:∀b∈[a.z,a.TO,a.i1,a.i2],lJ X pins H b:=λb hb=>fps b (by simp only[HJ.all,aH,bw,or_false] at hb ⊢;rcases hb with e | e | e | e <;> simp [e])
 have fin:∀h',(∀c o,c∉[a.z,a.TO,a.i1,a.i2]->s.heap.get? c=some o->h'.get? c=some o)->Q none { s with heap:=h' }:=λh' up=>hQ _ (I.moved (g':=s.gens) (d':=s.drawn) (t':=s.toks) fx up I.bare) up
 obtain ⟨⟨c,d,z0⟩,z4⟩:=zst;rcases z4 with z1 | ⟨T,b1,o,z1,z2,z3⟩
 ·have D:=FG z1 pt z0 j1 j2 pu.isList pw.isList O.tt O.ii;refine wpAny_pyNext_zip_end hh D z1 pt z0 j1 j2 pu.isList pw.isList (.inl none1) λh' hk=>fin h' λc o hc e=>?_
  simp only[aH,bw,or_false,not_or] at hc;exact hk c o hc.1 hc.2.1 hc.2.2.1 hc.2.2.2 e
 ·have D:=FG z1 pt z0 j1 j2 pu.isList pw.isList O.tt O.ii;refine MR hh D z1 z2 pt j1 pu.isList none1 λh' hk=>fin h' λc o hc e=>?_
  simp only[aH,bw,or_false,not_or] at hc;exact hk c o hc.1 hc.2.2.1 hc.2.2.2 e
theorem NH (hh:A'.handled=none) (O:a.Ok) (hz:xs.length<=sizeLine) (hl:ys.length=xs.length) (q1:bB X.K H1 l1 xs) (q2:bB X.K H1 l2 ys)
  (fin:∀s' H' ts acc c,Inv X pins σ H' s'->aB H1 H'->lJ X pins H' a.S->s'.heap.get? a.S=some (lobj acc c)->cX ts acc->Paired (SN H') (xs.zip ys) ts->R (.ok (.ret .none)) s') :
  ∀(k i:Nat) (s:Shared) (H:Hp) (ts:List V) (acc:List Value) (c:Nat),xs.length - i=k->i<=xs.length->RV X pins σ H1 a l1 l2 i H s->s.heap.get? a.S=some (lobj acc c)->cX ts acc->Paired (SN H) ((xs.zip ys).take i) ts →
   codeAny (model X.prog X.w) A' (.builtin "list.extend.loop" ⟨[.ref a.S,.ref a.z,.none],[]⟩) R s:=by
 have Sn:a.S∉[a.z,a.TO,a.i1,a.i2]:=λh=>by
  simp only[aH,bw,or_false] at h;rcases h with e | e | e | e
  ·exact O.Sz e
  ·exact O.STO e
  ·exact O.Si1 e
  ·exact O.Si2 e
 intro k
 induction k with
 | zero =>
  intro i s H ts acc c hk hi L gS rv prs;have e:i=xs.length:=by lia
  refine codeAny_builtin UC ?_;rw[Around.under_plainId md _]
  change wpAny _ A'.in1 (pyNext (Value.ref a.z) >>= _) _ _ s
  refine wpAny_bind (ND hh O q1 q2 (by lia) L λs' I' up=>wpAny_pure (fin s' H ts acc c I' L.same (L.fps _ (by simp [HJ.all])) (up _ _ Sn gS) rv ?_));rwa [aG (by rw[DE];lia)] at prs
 | succ k ih =>
  intro i s H ts acc c hk hi L gS rv prs;have hlt:i < xs.length:=by lia
  have lt:=prs.length;have la:=rv.length;refine codeAny_builtin UC ?_;rw[Around.under_plainId md _]
  change wpAny _ A'.in1 (pyNext (Value.ref a.z) >>= _) _ _ s
  refine wpAny_bind (NF O q1 q2 (x:=xs[i]) (y:=ys[i]'(by lia)) (by simp [hlt]) (by simp) L λs' L' up hT=>?_);have gS':=up _ _ Sn gS
  change wpAny _ A'.in1 (updateSeq a.S (·.push (Value.ref s.heap.objs.size)) >>= _) _ _ s'
  have small:acc.length<=sizeLine:=by
   rw[bI,DE] at lt
   lia
  refine wpAny_bind (wpAny_updateSeq gS' rfl (wpAny_pure ⟨plainId_quiet md _,?_⟩) (by rw[aF];exact small) (by
   show (acc.toArray.push (Value.ref s.heap.objs.size)).size<=sizeLine+1
   rw[Array.size_push,aF]
   lia))
  have gS2:=lV gS' (λb=>b.push (Value.ref s.heap.objs.size));have e2:(acc.toArray.push (Value.ref s.heap.objs.size))=(acc++[Value.ref s.heap.objs.size]).toArray:=by simp
  rw[e2] at gS2;refine ih (i+1) _ (upd H s.heap.objs.size (.tup [xs[i],ys[i]'(by lia)])) (ts++[.ref s.heap.objs.size]) (acc++[.ref s.heap.objs.size]) _ (by lia) hlt (L'.push O (λb o hb e=>(Heap.get?_update_other _ _ (Ne.symm hb)).trans e) (Heap.size_update ..)) gS2 (rv.append (show cX [V.ref s.heap.objs.size] [Value.ref s.heap.objs.size] from .cons rfl .nil)) ?_;have zp:(xs.zip ys)[i]?=some (xs[i],ys[i]'(by lia)):=by simp [UD,hlt]
  rw[take_snoc zp];exact (Paired.imp' (λ_ _ z=>z.same (aB.new hT)) prs).snoc ⟨_,rfl,aD⟩
theorem J8:typeLookup (.type "zip") "__len__"=pure Option.none:=by rw[typeLookup_type,builtinLookup_eq_fast];kernel_rfl
theorem Ib:typeLookup (.type "zip") "__length_hint__"=pure Option.none:=by rw[typeLookup_type,builtinLookup_eq_fast];kernel_rfl
theorem NG (hh:A'.handled=none) (O:a.Ok) (hz:xs.length<=sizeLine) (hl:ys.length=xs.length) (q1:bB X.K H1 l1 xs) (q2:bB X.K H1 l2 ys) (L:RV X pins σ H1 a l1 l2 0 H s) (gS:s.heap.get? a.S=some (lobj [] 0)) (z0:IsZip s.heap a.z a.TI a.TO .none)
  (fin:∀s' H' ts acc c,Inv X pins σ H' s'->aB H1 H'->lJ X pins H' a.S->s'.heap.get? a.S=some (lobj acc c)->cX ts acc->Paired (SN H') (xs.zip ys) ts->R (.ok (.ret .none)) s') :
  wpAny (model X.prog X.w) A'.in1 (Builtin.«list.__init__» ⟨[.ref a.S,.ref a.z],[]⟩) (λfl s'=>match fl with | .done f=>R (.ok f) s' | .again c'=>c'.quiet=true/\codeAny (model X.prog X.w) A' c' R s') (λe s'=>R (.error e) s') s:=by
 change wpAny _ A'.in1 (do let old <- Builtin.List.listItems (Value.ref a.S);Builtin.List.listUpdate (Value.ref a.S) (λ_=>#[]);letGo old.toList.reverse;Builtin.List.listExtendWith (Value.ref a.S) (Value.ref a.z) Value.none) _ _ s
 refine wpAny_bind ?_;unfold Builtin.List.listItems;refine wpAny_bind (wpAny_seqItems gS rfl (wpAny_pure ?_))
 change wpAny _ A'.in1 (updateSeq a.S (λ_=>#[]) >>= λ_=>letGo (#[]:Array Value).toList.reverse >>= λ_=>Builtin.List.listExtendWith (Value.ref a.S) (Value.ref a.z) Value.none) _ _ s
 refine wpAny_bind (wpAny_updateSeq gS rfl ?_);have g1:=lV gS (λ_=>(#[]:Array Value));obtain ⟨n1,g1⟩:∃n1,(s.heap.update a.S (Obj.mapSeq λ_=>(#[]:Array Value))).get? a.S=some (lobj [] n1):=⟨_,g1⟩;have L1:=L.push (h':=s.heap.update a.S (Obj.mapSeq λ_=>(#[]:Array Value))) O (λb o hb e=>(Heap.get?_update_other _ _ (Ne.symm hb)).trans e) (Heap.size_update ..);have z1:IsZip (s.heap.update a.S (Obj.mapSeq λ_=>(#[]:Array Value))) a.z a.TI a.TO .none:=(Heap.get?_update_other _ _ O.Sz).trans z0;refine wpAny_bind (wpAny_letGo ?_);unfold Builtin.List.listExtendWith;have ty:Shared.TypeIs { s with heap:=s.heap.update a.S (Obj.mapSeq λ_=>(#[]:Array Value)) } (.ref a.z) "zip":=⟨_,z1,rfl⟩;refine wpAny_bind (wpAny_typeOf ty ?_);have h1:Builtin.List.listSameRef (.ref a.S) (.ref a.z)=false:=by simp [Builtin.List.listSameRef,O.Sz]
 have h2:(Value.type "zip" == Value.type "list")=false:=by decide
 have h3:(Value.type "zip" == Value.type "tuple")=false:=by decide
 simp only[h1,h2,h3,Bool.or_false,jL,if_false];refine wpAny_bind (wpAny_pyIter_zip z1 (wpAny_bind (wpAny_holding ?_)));unfold Builtin.List.listLengthHint;refine wpAny_bind (wpAny_specialOf ty J8 ?_)
 change wpAny _ A'.in1 (specialOf (Value.ref a.z) (Str.ofString "__length_hint__") >>= _) _ _ _
 refine wpAny_bind (wpAny_specialOf ty Ib (wpAny_pure ?_))
 change wpAny _ A'.in1 (rule "list.extend.makes-room" >>= λ_=>Builtin.List.listTouch (Value.ref a.S) >>= λ_=>again (.builtin "list.extend.loop" ⟨[Value.ref a.S,Value.ref a.z,Value.none],[]⟩)) _ _ _
 refine wpAny_bind (wpAny_rule (wpAny_bind ?_))
 change wpAny _ A'.in1 (updateSeq a.S (·.push Value.none) >>= λ_=>updateSeq a.S (·.pop)) _ _ _
 refine wpAny_bind (wpAny_updateSeq g1 rfl ?_);have g2:=lV g1 (λb=>b.push Value.none);obtain ⟨n2,g2⟩:∃n2,((s.heap.update a.S (Obj.mapSeq λ_=>(#[]:Array Value))).update a.S (Obj.mapSeq λb=>b.push Value.none)).get? a.S=some (lobj [Value.none] n2):=⟨_,g2⟩;have L2:=L1.push (h':=(s.heap.update a.S (Obj.mapSeq λ_=>(#[]:Array Value))).update a.S (Obj.mapSeq λb=>b.push Value.none)) O (λb o hb e=>(Heap.get?_update_other _ _ (Ne.symm hb)).trans e) (Heap.size_update ..);refine wpAny_updateSeq g2 rfl ?_ (j6 rfl);have g3:=lV g2 (λb=>b.pop);have L3:=L2.push (h':=((s.heap.update a.S (Obj.mapSeq λ_=>(#[]:Array Value))).update a.S (Obj.mapSeq λb=>b.push Value.none)).update a.S (Obj.mapSeq λb=>b.pop)) O (λb o hb e=>(Heap.get?_update_other _ _ (Ne.symm hb)).trans e) (Heap.size_update ..);exact wpAny_pure ⟨plainId_quiet md _,NH hh O hz hl q1 q2 fin _ 0 _ H [] [] _ rfl (a7 _) L3 g3 .nil .nil⟩
end
section
variable {X:Cx}
theorem SV (n:Nat):HJ.Ok ⟨n+4,n+2,n+3,n,n+1,n+5,n+5+1⟩:=by
 have ne:∀p q:Nat,p≠q->@Ne Addr p q:=λ_ _ h=>h
 refine ⟨ne (n+2) (n+3) (by lia),ne n (n+1) (by lia),ne (n+5) (n+4) (by lia),ne (n+5) (n+2) (by lia),ne (n+5) (n+3) (by lia),ne (n+5) n (by lia),ne (n+5) (n+1) (by lia),λb hb=>?_⟩;have hb':b∈[n+4,n+2,n+3,n,n+1,n+5]:=hb;show @LT.lt Nat instLTNat b (n+5+1)
 simp only[aH,bw,or_false] at hb';rcases hb' with e | e | e | e | e | e <;> (rw[e];exact bD (jm _) (by lia))
def Ih (K:FG9) (ta:TA):TE:=λσ H Q=>ta σ H λvs H1=>∃(l1 l2:Addr) (xs ys:List V),vs=[.ref l1,.ref l2]/\bB K H1 l1 xs/\bB K H1 l2 ys/\ys.length=xs.length /\
 ∀L ts H',aB H1 H'->H1 L=none->H' L=some (.lst ts)->Paired (SN H') (xs.zip ys) ts->Q (.ref L) H'
theorem Kx {e1 e2:Expr} {ta:TA} {p p2 pos pos2:Pos} (hg:Gl X "list") (hm:X.mg "list"=none) (hg2:Gl X "zip") (hm2:X.mg "zip"=none) (ha:PA X [e1,e2] ta) (hc:X.calm=true:=by rfl)
  (hs:starEach [e1,e2] X.env=[(false,eval e1 X.env),(false,eval e2 X.env)]:=by rfl) (hs2:starEach [e2] X.env=[(false,eval e2 X.env)]:=by rfl)
  (hs3:starEach [Expr.Call (.Name "zip" p2) [e1,e2] [] pos2] X.env=[(false,eval (.Call (.Name "zip" p2) [e1,e2] [] pos2) X.env)]:=by rfl) :
  PE X (.Call (.Name "list" p) [.Call (.Name "zip" p2) [e1,e2] [] pos2] [] pos) (Ih X.K ta):=by
 intro pins s σ H Q I h;refine wpAny_Call_Name_kw (nZ I hg hm boot_list ?_);refine PyProof.Rows.callWith_type1 ?_ (by rw[hs3];rfl) rfl;rw[hs3];show wpAny _ _ (spliced ((false,eval (.Call (.Name "zip" p2) [e1,e2] [] pos2) X.env) :: [])) _ _ s
 refine Calls.spliced_cons ?_;refine Call_ (nZ I hg2 hm2 boot_zip (PyProof.Rows.callWith_type1 (iw (ha pos2 pins s σ H _ I h) λus s1 ⟨vs,H1,I1,r1,q1⟩=>?_) (by rw[hs,hs2]) (by rw[hs2];rfl)));obtain ⟨l1,l2,xs,ys,e,qx,qy,hl,q⟩:=q1;subst e;obtain ⟨u,v,rfl,ru,rv⟩:=vals2 r1;cases ru;cases rv;obtain ⟨us,rx,px,hz⟩:=I1.list qx;obtain ⟨ws,ry,py,_⟩:=I1.list qy;refine call_zip_2 px.isList py.isList λh' a1 a2 a3 a4 a5 a6 hk=>?_
 refine Calls.spliced_nil ?_;have I2:Inv X pins σ H1 { s1 with heap:=h' }:=I1.kept (t':=s1.toks) hk;have up:∀b o,h'.get? b=some o->(h'.push { cls:=.type "list",data:=.seq #[] }).get? b=some o:=λb o e=>Heap.get?_push_of_some _ e
 have O:HJ.Ok ⟨s1.heap.objs.size+4,s1.heap.objs.size+2,s1.heap.objs.size+3,s1.heap.objs.size,s1.heap.objs.size+1,h'.objs.size,h'.objs.size+1⟩:=by
  rw[a6];exact SV s1.heap.objs.size
 have old:∀b∈(HJ.mk (s1.heap.objs.size+4) (s1.heap.objs.size+2) (s1.heap.objs.size+3) s1.heap.objs.size (s1.heap.objs.size+1) h'.objs.size (h'.objs.size+1)).all,s1.heap.objs.size<=b:=λb hb=>by
  rw[a6] at hb;simp only[HJ.all,aH,bw,or_false] at hb;rcases hb with rfl | rfl | rfl | rfl | rfl | rfl <;> first | exact Nat.le_add_right _ _ | exact ar _
 have gS:(h'.push { cls:=.type "list",data:=.seq #[] }).get? h'.objs.size=some (lobj [] 0):=Heap.get?_push_size _ rfl;refine callType_codes (Q₁:=λob t=>ob=.ref h'.objs.size/\t={ s1 with heap:=h'.push { cls:=.type "list",data:=.seq #[] } }) PySem.F.called_list (PySem.F.typeCall_list_1 _) PySem.F.entry_list_init (code_list_new _ ⟨rfl,rfl⟩) λob t ht=>?_
 obtain ⟨rfl,rfl⟩:=ht;refine ⟨⟨_,gS,rfl⟩,PySem.F.args_list_init_2 _ _,?_⟩
 have L:RV X pins σ H1 ⟨s1.heap.objs.size+4,s1.heap.objs.size+2,s1.heap.objs.size+3,s1.heap.objs.size,s1.heap.objs.size+1,h'.objs.size,h'.objs.size+1⟩ l1 l2 0 H1 { s1 with heap:=h'.push { cls:=.type "list",data:=.seq #[] } } :=
  ⟨I2.kept (t':=s1.toks) up,aB.refl _,λb hb=>I1.fpOk (old b hb) (I1.hok.fresh (old b hb)),by rw[Heap.size_push];exact ar _,⟨⟨_,_,up _ _ a3⟩,.inl (up _ _ a1)⟩,up _ _ a2,a4.at λo e=>up _ o e,a5.at λo e=>up _ o e⟩
 refine NG (A':=X.A.in1) (I.ok.hd hc) O hz hl qx qy L gS (up _ _ a1) λs' H' ts acc c I' sm fS gS' vs' prs=>⟨rfl,?_⟩
 have nS:H1 h'.objs.size=none:=I1.hok.fresh (old _ (by simp [HJ.all]));have lt:=prs.length;rw[DE] at lt;exact ⟨.ref h'.objs.size,_,I'.track (o:=.lst ts) fS ⟨by lia,acc,c,vs',gS'⟩,rfl,q _ ts _ (sm.trans (aB.new fS.1)) nS aD (Paired.imp' (λ_ _ z=>z.same (aB.new fS.1)) prs)⟩
end
end L2
namespace Nm
def zU:List Int->Int->Int
 | [],m=>m
 | b :: r,m=>zU r (m*(b / g m b))
theorem xY (hm:0 < m) (hb:0 < b):0 < m*(b / g m b):=fV hm (G6 (t:=m) hb)
theorem GU:b∣m*(b / g m b):=by
 have h1:=CV m b;refine ⟨lo m b,?_⟩;have h2:b / g m b*g m b=b:=zW m b
 calc m*(b / g m b)=lo m b*g m b*(b / g m b):=by rw[h1]
  _=lo m b*(b / g m b*g m b):=by rw[dR,gX (g m b)]
  _=b*lo m b:=by rw[h2,gX]
theorem CY:∀{bs:List Int} {m:Int},0 < m->(∀b∈bs,0 < b)->0 < zU bs m
 | [],_,hm,_=>hm
 | b :: r,m,hm,h=>CY (bs:=r) (xY hm (h b cH)) λc hc=>h c (bJ _ hc)
theorem Jg:∀{bs:List Int} {m:Int},m∣zU bs m
 | [],_=>Mq _
 | b :: r,m=>Int.dvd_trans (Int.dvd_mul_right m _) (Jg (bs:=r))
theorem Jf:∀{bs:List Int} {m b:Int},b∈bs->b∣zU bs m
 | c :: r,m,b,h=>by
  rcases aH.mp h with rfl | h
  ·exact Int.dvd_trans GU (Jg (bs:=r))
  ·exact Jf (bs:=r) h
end Nm
namespace L2
open PySem PySem.Spec PyProof.Rows Nm
def HK (K:FG9) (H:Hp) (p:Addr) (ns:List (Int×Int)):Prop:=∃xs,H p=some (.lst xs)/\Paired (λn x=>JH K H x n) ns xs
theorem HK.same {K:FG9} (h:HK K H p ns) (e:aB H H'):HK K H' p ns:=by obtain ⟨xs,g,q⟩:=h;exact ⟨xs,e _ _ g,Paired.imp' (λ_ _ z=>e.num z) q⟩
def IQ (K:FG9) (T:String):V->Hp->VK->Prop:=λx H Q=>Kw K T x H Q\/∃a xs b,x=.ref a/\mL K H a xs/\PySem.W.kitOne K (.type "tuple") (.type T)=some b/\Q (.bl b) H
theorem ER:∀{bs:List Int} {m b:Int},zU (bs++[b]) m=zU bs m*(b / g (zU bs m) b)
 | [],_,_=>rfl
 | c :: r,m,b=>ER (bs:=r)
def gU (ns:List (Int×Int)) (B:Int):List Int:=ns.map λn=>n.1*(B / n.2)
def iQ (ns:List (Int×Int)):Int:=zU (ns.map (·.2)) 1
def Po (ns ms:List (Int×Int)):Int:=(List.zipWith (λx y=>x*y) (gU ns (iQ ns)) (gU ms (iQ ms))).sum
theorem qh (h:n∈ns):n.2∣iQ ns:=Jf (aw.mpr ⟨n,h,rfl⟩)
theorem Kv {K:FG9} (h:ta σ H λvs H1=>∃(l1 l2:Addr) (xs ys:List V),vs=[.ref l1,.ref l2]/\bB K H1 l1 xs/\bB K H1 l2 ys/\ys.length=xs.length /\
 ∀L ts H',aB H1 H'->H1 L=none->H' L=some (.lst ts)->Paired (SN H') (xs.zip ys) ts->Q (.ref L) H'):Ih K ta σ H Q:=h
theorem Wp (hb:0 < b) (h:Sz k b):Sz k (g m b):=h.le (by
 have h1:(g m b).natAbs=Int.gcd m b:=by unfold g;simp
 rw[h1];exact iT (by lia) (by have:=gM (a:=m) (b:=b);exact fu.mpr this |> λz=>by simpa using z))
theorem Qg {ts us:List Int} {i:Nat} (h:((ts.map V.int).zip (us.map V.int))[i]?=some pq):∃t u,ts[i]?=some t/\us[i]?=some u/\pq=(.int t,.int u):=by
 rw[UD,aA,aA] at h;obtain ⟨h1,h2⟩:=h;cases e1:ts[i]? with
 | none=>rw[e1] at h1;cases h1
 | some t =>
  cases e2:us[i]? with
  | none=>rw[e2] at h2;cases h2
  | some u =>
   rw[e1] at h1;rw[e2] at h2;refine ⟨t,u,rfl,rfl,?_⟩;cases pq;simp at h1 h2;rw[h1,h2]
def My (K:FG9):Sp:=λvs H Q _=>∃x n,vs=[x]/\JH K H x n/\AY n/\∀H',aB H H'->Q (.bl true) H'
inductive zm (K:FG9) (vs:List V) (H:Hp) (Q:VK) (E9:XK):Prop
 | mk (p:Addr) (ns:List (Int×Int)):vs=[.ref p,.int ns.length]->HK K H p ns->ns.length<=1000->(∀n∈ns,AY n)->(∀H',aB H H'->Q (.bl true) H')->zm K vs H Q E9
theorem Bp {X:Cx} {a:Expr} {ta:TE} {pos:Pos} {c:Str} {T:String} {p p2:Pos} (hg:Gl X "isinstance") (hm:X.mg "isinstance"=none) (hb:bootBuiltins c=some (.type T)) (hmc:X.mg c=none) (ha:PE X a ta) (hgc:Gl X c:=by rfl) (hn:c≠"__name__":=by decide)
  (hd:(c == ("__debug__":Str))=false:=by decide) (he:starEach [a,.Name c p2] X.env=[(false,eval a X.env),(false,eval (.Name c p2) X.env)]:=by rfl)
  (hpl:(backTo pos (starEach [.Name c p2] X.env)).any (·.1)=false:=by rfl) (he2:starEach [.Name c p2] X.env=[(false,eval (.Name c p2) X.env)]:=by rfl):PE X (.Call (.Name "isinstance" p) [a,.Name c p2] [] pos) (VZ (IQ X.K T) ta):=by
 intro pins s σ H Q I h;refine wpAny_Call_Name_kw (nZ I hg hm PyProof.Rows.boot_isinstance ?_);have hA:PA X [a,.Name c p2] (js ta (js (tC (.ty T)) BF)):=gG ha (gG (Lz hgc hmc hb rfl hn hd) iV he2) (by rw[he,he2])
 have hq:js ta (js (tC (.ty T)) BF) σ H (λvs H1=>∃x,vs=[x,.ty T]/\IQ X.K T x H1 Q):=by
  show ta σ H λx H1=>∃x',[x,V.ty T]=[x',V.ty T]/\IQ X.K T x' H1 Q
  have e:(λx H1=>∃x',[x,V.ty T]=[x',V.ty T]/\IQ X.K T x' H1 Q)=λx H1=>IQ X.K T x H1 Q:=by
   funext x H1;apply propext;constructor
   ·rintro ⟨x',e,q⟩;cases e;exact q
   ·intro q;exact ⟨x,rfl,q⟩
  rw[e];exact h
 refine PyProof.Rows.callWith_builtin1 (iw (hA pos pins s σ H _ I hq) λus s1 ⟨vs,H1,I1,r1,x,e,q1⟩=>?_) (by rw[he,he2]) hpl;subst e;obtain ⟨u,w',rfl,ru,rt⟩:=vals2 r1;cases rt;rcases q1 with ⟨t,bb,ty,ek,q⟩ | ⟨ad,xs,bb,rfl,hs,ek,q⟩
 ·exact ET I1 ru ty ek λtk=>⟨.bl bb,H1,I1.tok tk,rfl,q⟩
 ·cases ru;obtain ⟨its,_,⟨o,g1,g2,_⟩,_⟩:=I1.tuple hs;exact dI PySem.W.kitx_tuple I1.kIn ⟨o,g1,g2⟩ ek (λz=>nomatch z) λtk=>⟨.bl bb,H1,I1.tok tk,rfl,q⟩
theorem To (h:H l=some (.lst [x])) (hk:k<=1000) (q:∀p H',aB H H'->H p=none->H' p=some (.lst (List.replicate k x))->Q (.ref p) H'):Vl (.ref l) (.int k) H Q :=
 ⟨l,k,[x],rfl,rfl,h,by lia,by lia,dh (cS (by simp;lia)),λp hp=>q p _ (aB.new hp) hp (by rw[aD];simp)⟩
theorem Uu {k:Nat} (h:k<=xs.length):tD xs none (some (k:Int))=xs.take k:=by
 unfold tD;rw[HT.Co,HT.Bo,mW h];simp
theorem Cz {α β:Type} {F:α->β->Prop} {x:α} {y:β} (h:F x y):∀m:Nat,Paired F (List.replicate m x) (List.replicate m y)
 | 0=>.nil
 | m+1=>.cons h (Cz h m)
theorem gK (h:a < n):Nx n (a:Int)=some a:=by
 unfold Nx;rw[if_pos (by lia),if_pos (by lia),Int.toNat_natCast]
theorem Pu {k:Nat}:tD xs none (some (k:Int))=xs.take k:=by
 by_cases h:k<=xs.length
 ·exact Uu h
 ·unfold tD;rw[HT.Co,HT.Bo,Nat.min_eq_right (by lia),aG (by simp),aG (by lia)];rfl
theorem oz {α β:Type} {F:α->β->Prop}:∀{l1:List α} {l2:List β} (_:Paired F l1 l2) (k:Nat),Paired F (l1.take k) (l2.take k)
 | _,_,.nil,k=>by simp;exact .nil
 | _,_,.cons h r,0=>.nil
 | _,_,.cons h r,k+1=>.cons h (oz r k)
def Q0 (K:FG9):List V->Hp->VK->Prop:=λxs H Q=>∃p ys,xs=[.ref p]/\(bB K H p ys\/mL K H p ys)/\∀l,H l=none->Q (.ref l) (upd H l (.lst ys))
theorem jy (K:FG9) (hK:X.K=K):sW X (.type "list") (Q0 K):=by subst hK;exact mU
theorem aB.none (s:aB H H') (h:H' l=Option.none):H l=Option.none:=by
 cases e:H l with
 | none=>rfl
 | some o=>have:=s _ _ e;rw[h] at this;cases this
def SR (K:FG9) (H:Hp) (p:Addr) (rows:List (List (Int×Int))):Prop:=∃xs,H p=some (.lst xs)/\Paired (λns x=>∃q,x=V.ref q/\HK K H q ns) rows xs
theorem NW (h:b.natAbs<=1000000):Sz 20 b:=br h (by decide)
theorem df.none (u:df b H H') (B:iM H' b) (h:H' l=Option.none):H l=Option.none:=by
 cases e:H l with
 | none=>rfl
 | some o =>
  by_cases z:l=b
  ·obtain ⟨_,_,_,_,_,e2,_⟩:=B;rw[<- z,h] at e2;cases e2
  ·have:=u.1 l o e z;rw[h] at this;cases this
inductive BX (K:FG9) (vs:List V) (H:Hp) (Q:VK) (E9:XK):Prop
 | mk (p:Addr) (rows:List (List (Int×Int))) (m:Nat):vs=[.ref p,.int rows.length,.int m]->SR K H p rows->rows.length<=1000->m<=1000->((∀ns∈rows,ns.length=m/\∀n∈ns,AY n))->(∀H',aB H H'->Q (.bl true) H')->BX K vs H Q E9
end L2
namespace Nm
def nm (q:Rat):Int×Int:=(q.num,(q.den:Int))
theorem iq (q:Rat):0 < (nm q).2:=by have:=q.den_pos;show 0 < (q.den:Int);lia
theorem GQ (q:Rat):Int.gcd (nm q).1 (nm q).2=1:=q.reduced
theorem T9 (h:nm p=nm q):p=q:=by
 have h1:p.num=q.num:=congrArg Prod.fst h;have h2:(p.den:Int)=q.den:=congrArg Prod.snd h;exact Rat.ext h1 (by lia)
theorem mR (q:Rat):(q.num:Rat)=q*(q.den:Rat):=by
 have h:=Rat.num_divInt_den q;rw[Rat.divInt_eq_div] at h
 have hd:((q.den:Int):Rat)≠0:=by
  intro z;have z:=A3.mp z;have:=q.den_pos
  lia
 have e:((q.den:Int):Rat)=(q.den:Rat):=aS _
 calc (q.num:Rat)=(q.num:Rat) / ((q.den:Int):Rat)*((q.den:Int):Rat):=(J0 hd).symm
  _=q*(q.den:Rat):=by rw[h,e]
theorem Vr (hb:0 < b) (hg:Int.gcd a b=1) (e:q*(b:Rat)=(a:Rat)):(a,b)=nm q:=by
 have h1:a*(q.den:Int)=q.num*b:=by
  apply dH.mp;rw[aN,aN,<- e,mR,aS];grind
 obtain ⟨e1,e2⟩:=uniq hb (iq q) hg (GQ q) h1;exact Prod.ext e1 e2
theorem lQ {t b:Int} (hb:0 < b) (e:q*(b:Rat)=(t:Rat)):(lo t b,hi t b)=nm q:=by
 refine Vr (G6 hb) (CT (by lia)) ?_;have h:=CU t b;have hb':(b:Rat)≠0:=λz=>by have:=A3.mp z;lia
 have h2:((lo t b:Int):Rat)*(b:Rat)=(t:Rat)*((hi t b:Int):Rat):=by rw[<- aN,h,aN]
 rw[<- e] at h2;have h3:(q*((hi t b:Int):Rat) - ((lo t b:Int):Rat))*(b:Rat)=0:=by grind
 rcases P5.mp h3 with h4 | h4
 ·grind
 ·exact absurd h4 hb'
def Fr (M V:Nat) (q:Rat):Prop:=∃z:Int,q*(M:Rat)=(z:Rat)/\z.natAbs<=V*M
theorem Fr.mono (h:Fr M V q) (l:V<=V'):Fr M V' q:=by obtain ⟨z,e,b⟩:=h;exact ⟨z,e,ah b (ay _ l)⟩
theorem Fr.scale (h:Fr M V q) (k:Nat):Fr (M*k) V q:=by
 obtain ⟨z,e,b⟩:=h;refine ⟨z*k,?_,?_⟩
 ·rw[tI,aN,<- e,aS,Rat.mul_assoc]
 ·rw[eT,de,<- cM];exact ay _ b
theorem Fr.scaleL (h:Fr M V q) (k:Nat):Fr (k*M) V q:=by rw[cy];exact h.scale k
theorem Fr.dvd (h:Fr M V q) (d:M∣N):Fr N V q:=by obtain ⟨k,rfl⟩:=d;exact h.scale k
theorem Fr.add (h:Fr M V p) (h':Fr M W q):Fr M (V+W) (p+q):=by
 obtain ⟨z,e,b⟩:=h;obtain ⟨z',e',b'⟩:=h';refine ⟨z+z',by rw[tJ,<- e,<- e',Rat.add_mul],?_⟩;rw[FA];have:=Int.natAbs_add_le z z'
 lia
theorem Fr.neg (h:Fr M V q):Fr M V (-q):=by
 obtain ⟨z,e,b⟩:=h;exact ⟨-z,by rw[cZ,<- e,Rat.neg_mul],by rw[kS];exact b⟩
theorem Fr.sub (h:Fr M V p) (h':Fr M W q):Fr M (V+W) (p - q):=by rw[Rat.sub_eq_add_neg];exact h.add h'.neg
theorem Fr.mul (h:Fr M V p) (h':Fr N W q):Fr (M*N) (V*W) (p*q):=by
 obtain ⟨z,e,b⟩:=h;obtain ⟨z',e',b'⟩:=h';refine ⟨z*z',?_,?_⟩
 ·rw[tI,aN,<- e,<- e'];grind
 ·rw[eT]
  calc z.natAbs*z'.natAbs<=(V*M)*(W*N):=aE b b'
   _=V*W*(M*N):=by rw[cM,Nat.mul_left_comm M,<- cM]
theorem Fr.zero:Fr M V 0:=⟨0,by simp,by simp⟩
theorem Fr.int {i:Int} (h:i.natAbs<=V):Fr M V (i:Rat):=⟨i*M,by rw[aN,aS],by rw[eT,de];exact ay _ h⟩
theorem Fr.den (h:Fr M V q):(q.den:Int)∣(M:Int):=by
 obtain ⟨z,e,b⟩:=h
 have h1:q.num*(M:Int)=z*(q.den:Int):=by
  apply dH.mp;rw[aN,aN,<- e,mR,aS,aS];grind
 have h2:(q.den:Int)∣q.num*(M:Int):=⟨z,by rw[h1,gX]⟩;exact rS (by rw[lX];exact GQ q) h2
theorem Fr.den_le (h:Fr M V q) (hM:0 < M):q.den<=M:=iT hM (oq.mp h.den)
theorem Fr.num_le (h:Fr M V q) (hM:0 < M):q.num.natAbs<=V*M:=by
 have hd:=h.den;obtain ⟨z,e,b⟩:=h;obtain ⟨k,hk⟩:=oq.mp hd;have hk0:k≠0:=λz=>by rw[z,vz] at hk;lia
 have h1:z=q.num*(k:Int):=by
  apply dH.mp;rw[aN,<- e,mR,aS,hk,tI];grind
 rw[h1] at b;exact ah (pe (by lia)) b
theorem Fr.own (q:Rat) (h:q.num.natAbs<=V):Fr q.den V q:=⟨q.num,(mR q).symm,ah h (ee _ q.den_pos)⟩
theorem Fr.sz (h:Fr M V q) (hM:0 < M) (h1:M<=2^k) (h2:V<=2^j):Sz (j+k+1) (nm q).1/\Sz (k+1) (nm q).2:=by
 constructor
 ·show q.num.natAbs < 2^(j+k+1)
  have h3:=h.num_le hM;have h4:V*M<=2^j*2^k:=aE h2 h1;rw[gW,aU];have:=Nat.two_pow_pos (j+k);rw[aU] at this
  lia
 ·show (q.den:Int).natAbs < 2^(k+1)
  have h3:=h.den_le hM;rw[de,gW];have:=Nat.two_pow_pos k
  lia
theorem Fr.sum {M V:Nat}:∀{l:List Rat},(∀x∈l,Fr M V x)->Fr M (l.length*V) l.sum
 | [],_=>by simp;exact Fr.zero
 | x :: r,h=>by
  rw[List.sum_cons,aZ,dU,oN];exact (h x (.head _)).add (Fr.sum λy hy=>h y (.tail _ hy))
def cB (xs ys:List Rat):Rat:=(List.zipWith (λx y=>x*y) xs ys).sum
theorem Fr.dot (h:∀x∈xs,Fr M V x) (h':∀y∈ys,Fr N W y):Fr (M*N) (xs.length*(V*W)) (cB xs ys):=by
 have q:=Fr.sum (M:=M*N) (V:=V*W) (l:=List.zipWith (λx y=>x*y) xs ys) λz hz=>by
  obtain ⟨i,hi,e⟩:=bO hz;rw[eh] at e;rw[<- e];exact (h _ (aI _)).mul (h' _ (aI _))
 exact q.mono (ay _ (by rw[aY];lia))
theorem Nb (xs ys:List Rat):cB xs ys=cB ys xs:=by
 unfold cB;rw[List.zipWith_comm];congr 2;funext a b;exact dM ..
theorem Bs:∀{bs:List Int} {m M:Int},0 < m->m∣M->(∀b∈bs,0 < b/\b∣M)->zU bs m∣M
 | [],_,_,_,h,_=>h
 | b :: r,m,M,hm,h,hb=>by
  have b1:=hb b cH;refine Bs (bs:=r) (xY hm b1.1) ?_ λc hc=>hb c (bJ _ hc)
  have gp:0 < g m b:=C2 (by lia);have e1:=CV m b;have e2:=zW m b;obtain ⟨u,hu⟩:=h;obtain ⟨v,hv⟩:=b1.2
  have h3:lo m b*u=hi m b*v:=by
   apply wD (show g m b≠0 by lia)
   calc lo m b*u*g m b=lo m b*g m b*u:=by rw[dR,gX u,<- dR]
    _=m*u:=by rw[e1]
    _=M:=hu.symm
    _=b*v:=hv
    _=hi m b*g m b*v:=by rw[e2]
    _=hi m b*v*g m b:=by rw[dR,gX (g m b),<- dR]
  have h4:hi m b∣lo m b*u:=⟨v,h3⟩;have h5:hi m b∣u:=rS (by rw[lX];exact CT (by lia)) h4;obtain ⟨w,hw⟩:=h5;refine ⟨w,?_⟩;show M=m*hi m b*w
  rw[hu,hw,dR]
theorem Hs (hb:0 < b) (d:a∣b) (h:Sz k b):Sz k a:=h.le (iT (by lia) (fu.mpr d))
end Nm
namespace Nm
def Dr (W:Nat) (x:Rat):Prop:=x.num.natAbs<=W/\x.den<=W
def xK:List Nat->Nat
 | []=>1
 | a :: r=>a*xK r
theorem zM:∀{l:List Nat},(∀a∈l,0 < a)->0 < xK l
 | [],_=>Nat.one_pos
 | a :: r,h=>bR (h a (.head _)) (zM λb hb=>h b (.tail _ hb))
theorem zN:∀{l:List Nat} {a:Nat},a∈l->a∣xK l
 | b :: r,a,h=>by
  rcases aH.mp h with rfl | h
  ·exact yV ..
  ·exact mM (zN h) (ic ..)
theorem Ct {k:Nat}:∀{l:List Nat},(∀a∈l,a<=2^k)->xK l<=2^(k*l.length)
 | [],_=>by simp [xK]
 | a :: r,h=>by
  rw[aZ,vB,aU,cy (2^(k*r.length))];exact aE (h a (.head _)) (Ct λb hb=>h b (.tail _ hb))
def GF (M V:Nat) (rows:LR9):Prop:=∀xs∈rows,∀x∈xs,Fr M V x
def UA (c n i:Nat) (rows:LR9):Prop:=∃M,0 < M/\M<=2^(i*(c*n+2))/\GF M (2^(20+2*i)) rows
theorem Uk:UA c n 0 []:=⟨1,by decide,by simp,λ_ h=>nomatch h⟩
theorem Ul (c n i:Nat):(i+1)*(c*n+2)=i*(c*n+2)+(c*n+2):=dU ..
theorem Ry (h:UA c n i rows) (hl:xs.length=n) (hd:∀x∈xs,Dr (2^c) x) (hc:c<=20):UA c n (i+1) (rows++[xs]):=by
 obtain ⟨M,h0,h1,h2⟩:=h
 have dp:0 < xK (xs.map (·.den)):=zM λa ha=>by
  obtain ⟨x,_,rfl⟩:=aw.mp ha;exact x.den_pos
 have dl:xK (xs.map (·.den))<=2^(c*n):=by
  have:=Ct (k:=c) (l:=xs.map (·.den)) λa ha=>by
   obtain ⟨x,hx,rfl⟩:=aw.mp ha;exact (hd x hx).2
  rwa [ag,hl] at this
 refine ⟨M*xK (xs.map (·.den)),bR h0 dp,?_,λys hy x hx=>?_⟩
 ·rw[Ul,aU];exact aE h1 (ah dl (au (by decide) (by lia)))
 ·rcases av.mp hy with hy | hy
  ·exact ((h2 ys hy x hx).scale _).mono (au (by decide) (by lia))
  ·have e:ys=xs:=by simpa using hy
   subst e;have f:Fr x.den (2^c) x:=Fr.own x (hd x hx).1;have g:=(f.dvd (zN (aw.mpr ⟨x,hx,rfl⟩))).scaleL M;exact g.mono (au (by decide) (by lia))
def aW (rows:LR9) (w:Nat):LR9:=(List.range w).map λj=>rows.map λxs=>xs.getD j 0
theorem bZ:(aW rows w).length=w:=by simp [aW]
theorem kU:∀ys∈aW rows w,ys.length=rows.length:=λys hy=>by
 obtain ⟨j,_,rfl⟩:=aw.mp hy;exact ag ..
theorem getD_map {α:Type} {l:List α} {f:α->Rat} (h:i < l.length):(l.map f).getD i 0=f l[i]:=by
 rw[aa,aA,ae h];rfl
end Nm
namespace L2
open PySem PySem.Spec PyProof.Rows Nm
theorem df.sqt {K:FG9} (u:df b H H') (B:iM H b) (h:mL K H a xs):mL K H' a xs:=by
 rcases h with (h | ⟨o,h⟩) | h
 ·exact .inl (.inl (u.tup B h))
 ·exact .inl (.inr ⟨o,u.other (λz=>by obtain ⟨_,_,_,_,_,e,_⟩:=B;rw[z,e] at h;cases h) h⟩)
 ·exact .inr h
theorem N9 {K:FG9} (h:mL K H a xs) (hl:H l=some (.lst ys)):mL K (upd H l o) a xs:=by
 rcases h with (h | ⟨o,h⟩) | h
 ·exact .inl (.inl (by rw[bc λz=>by rw[z,hl] at h;cases h];exact h))
 ·exact .inl (.inr ⟨o,by rw[bc λz=>by rw[z,hl] at h;cases h];exact h⟩)
 ·exact .inr h
def cv (K:FG9) (H:Hp) (q:Rat) (x:V):Prop:=JH K H x (nm q)
section
variable {K:FG9} {H H':Hp} {q:Rat} {x:V} {b l p:Addr} {qs:List Rat}
theorem cv.same (h:cv K H q x) (e:aB H H'):cv K H' q x:=e.num h
theorem cv.upto (h:cv K H q x) (u:df b H H') (B:iM H b):cv K H' q x:=by obtain ⟨p,e,s⟩:=h;exact ⟨p,e,u.sqt B s⟩
theorem cv.updL (h:cv K H q x) (hl:H l=some (.lst ys)):cv K (upd H l o) q x:=by obtain ⟨p,e,s⟩:=h;exact ⟨p,e,N9 s hl⟩
theorem cv.mk (h:H r=some (.tup [.int a,.int c])) (e:(a,c)=nm q):cv K H q (.ref r):=⟨r,rfl,by rw[<- e];exact mL.of h⟩
def cK (K:FG9) (H:Hp) (p:Addr) (qs:List Rat):Prop:=∃xs,H p=some (.lst xs)/\Paired (cv K H) qs xs
theorem cK.same (h:cK K H p qs) (e:aB H H'):cK K H' p qs:=by obtain ⟨xs,g,r⟩:=h;exact ⟨xs,e _ _ g,Paired.imp' (λ_ _ z=>z.same e) r⟩
theorem cK.upto (h:cK K H p qs) (u:df b H H') (B:iM H b) (n:p≠b):cK K H' p qs:=by obtain ⟨xs,g,r⟩:=h;exact ⟨xs,u.other n g,Paired.imp' (λ_ _ z=>z.upto u B) r⟩
theorem cK.updL (h:cK K H p qs) (hl:H l=some (.lst ys)) (n:p≠l):cK K (upd H l o) p qs:=by obtain ⟨xs,g,r⟩:=h;exact ⟨xs,by rw[bc n];exact g,Paired.imp' (λ_ _ z=>z.updL hl) r⟩
theorem uC {α β γ:Type} {F:α->β->Prop} {f:γ->α}:∀{l:List γ} {l2:List β},Paired (λc x=>F (f c) x) l l2->Paired F (l.map f) l2
 | _,_,.nil=>.nil
 | _,_,.cons r t=>.cons r (uC t)
theorem cK.rowK (h:cK K H p qs):HK K H p (qs.map nm):=by obtain ⟨xs,g,r⟩:=h;exact ⟨xs,g,uC (F:=λn x=>JH K H x n) r⟩
def cW (K:FG9) (H0 H:Hp) (qs:List Rat) (x:V):Prop:=∃q,x=V.ref q/\H0 q=none/\cK K H q qs
def bf (K:FG9) (H0 H:Hp) (p:Addr) (rows:LR9):Prop:=∃xs,H p=some (.lst xs)/\Paired (cW K H0 H) rows xs/\V.ref p∉xs
theorem ko {rows:LR9} (h:∃H2,H2 p=none/\Paired (cW K H0 H2) rows ys):V.ref p∉ys:=λhm=>by
 obtain ⟨H2,e,pr⟩:=h;obtain ⟨qs,_,q,z,_,xs,g,_⟩:=dE pr hm;cases z;rw[e] at g;cases g
variable {H0:Hp} {rows:LR9}
theorem cW.same (h:cW K H0 H qs x) (e:aB H H'):cW K H0 H' qs x:=by obtain ⟨q,a,b,c⟩:=h;exact ⟨q,a,b,c.same e⟩
theorem cW.upto (h:cW K H0 H qs x) (u:df b H H') (B:iM H b) (nb:H0 b≠none):cW K H0 H' qs x:=by obtain ⟨q,a,c,d⟩:=h;exact ⟨q,a,c,d.upto u B λz=>nb (by rw[<- z];exact c)⟩
theorem cW.weak (h:cW K H0 H qs x) (e:aB H1 H0):cW K H1 H qs x:=by obtain ⟨q,a,b,c⟩:=h;exact ⟨q,a,e.none b,c⟩
theorem bf.same (h:bf K H0 H p rows) (e:aB H H'):bf K H0 H' p rows:=by obtain ⟨xs,g,r,n⟩:=h;exact ⟨xs,e _ _ g,Paired.imp' (λ_ _ z=>z.same e) r,n⟩
theorem bf.upto (h:bf K H0 H p rows) (u:df b H H') (B:iM H b) (n:p≠b) (nb:H0 b≠none):bf K H0 H' p rows:=by obtain ⟨xs,g,r,nn⟩:=h;exact ⟨xs,u.other n g,Paired.imp' (λ_ _ z=>z.upto u B nb) r,nn⟩
theorem bf.weak (h:bf K H0 H p rows) (e:aB H1 H0):bf K H1 H p rows:=by obtain ⟨xs,g,r,n⟩:=h;exact ⟨xs,g,Paired.imp' (λ_ _ z=>z.weak e) r,n⟩
theorem bf.gridK (h:bf K H0 H p rows):SR K H p (rows.map (List.map nm)):=by obtain ⟨xs,g,r,_⟩:=h;exact ⟨xs,g,uC (F:=λns x=>∃q,x=V.ref q/\HK K H q ns) (Paired.imp' (λ_ _ ⟨q,a,_,c⟩=>⟨q,a,c.rowK⟩) r)⟩
end
def C0:Kind Rat:=Vu.via nm (λ_ _ e=>T9 e) (λK H x q=>cv K H q x) id
def Ji:Kind (List Rat):=Vv C0
def rR:Kind (LR9):=Vv Ji
theorem cK.kind {K:FG9} (h:cK K H p qs):Ji.R K H (.ref p) qs:=by obtain ⟨xs,g,q⟩:=h;exact ⟨p,xs,rfl,bB.of g,q⟩
theorem bf.kind {K:FG9} (h:bf K H0 H p rows):rR.R K H (.ref p) rows:=by obtain ⟨xs,g,q,_⟩:=h;exact ⟨p,xs,rfl,bB.of g,Paired.imp' (λ_ _ ⟨q,a,_,c⟩=>by rw[a];exact c.kind) q⟩
def kN (x:Rat):Prop:=Sz 200000 (nm x).1/\Sz 200000 (nm x).2
def Fits (l:List Rat):Prop:=∃M V:Nat,0 < M/\M<=2^900/\V<=2^900/\∀x∈l,Fr M V x
theorem Fits.szn (h:Fits l) (hx:x∈l):kN x:=by
 obtain ⟨M,V,h0,h1,h2,h3⟩:=h;obtain ⟨a,b⟩:=(h3 x hx).sz h0 h1 h2;exact ⟨a.mono (by decide),b.mono (by decide)⟩
theorem Fits.ok (h:Fits l) (hx:x∈l):AY (nm x):=⟨iq x,GQ x,(h.szn hx).1.mono (by decide),(h.szn hx).2.mono (by decide)⟩
theorem KS {M V:Nat} (h0:0 < M) (h1:M<=2^1800) (h2:V<=2^1810) (h:Fr M V x):kN x:=by
 obtain ⟨a,b⟩:=h.sz h0 h1 h2;exact ⟨a.mono (by decide),b.mono (by decide)⟩
theorem Ke (h:kN x):AY (nm x):=⟨iq x,GQ x,h.1.mono (by decide),h.2.mono (by decide)⟩
inductive oP (K:FG9) (f:Rat->Rat->Rat) (vs:List V) (H:Hp) (Q:VK) (E9:XK):Prop
 | mk (u v:V) (x y:Rat):vs=[u,v]->cv K H x u->cv K H y v->kN x->kN y->(∀r H',aB H H'->cv K H' (f x y) (.ref r)->Q (.ref r) H')->oP K f vs H Q E9
section
variable {K:FG9} {vs:List V} {H:Hp} {Q:VK} {E:XK}
theorem Ky (hf:∀x y:Rat,(f x y)*(((nm x).2*(nm y).2:Int):Rat)=((F (nm x).1 (nm x).2 (nm y).1 (nm y).2:Int):Rat)) (h:oP K f vs H Q E):IC K F vs H Q E:=by
 obtain ⟨u,v,x,y,rfl,⟨p,rfl,hp⟩,⟨q,rfl,hq⟩,⟨s1,s2⟩,⟨s3,s4⟩,k⟩:=h;refine ⟨p,q,_,_,_,_,rfl,hp,hq,iq x,iq y,s1,s2,s3,s4,λr H' s g=>k r H' s (cv.mk g ?_)⟩;exact lQ (fV (iq x) (iq y)) (hf x y)
theorem pd (x:Rat):(((nm x).1:Int):Rat)=x*(((nm x).2:Int):Rat):=by
 show (x.num:Rat)=x*(((x.den:Nat):Int):Rat)
 rw[mR,aS]
theorem L8 (h:oP K (λx y=>x+y) vs H Q E):IC K LR vs H Q E:=Ky (λx y=>by
 unfold LR;rw[tJ,aN,aN,aN,pd,pd];grind) h
theorem Bm (h:oP K (λx y=>x - y) vs H Q E):IC K Ph vs H Q E:=Ky (λx y=>by
 unfold Ph;rw[DD,aN,aN,aN,pd,pd];grind) h
theorem Bq (h:oP K (λx y=>x*y) vs H Q E):IC K Pg vs H Q E:=Ky (λx y=>by
 unfold Pg;rw[aN,aN,pd,pd];grind) h
end
def K9 (M:Int) (ns:List (Int×Int)):Prop:=0 < M/\Sz 220000 M/\∀n∈ns,0 < n.2/\n.2∣M/\Sz 220000 n.1
theorem K9.bot (h:K9 M ns):0 < iQ ns/\Sz 220000 (iQ ns):=by
 have hb:∀b∈ns.map (·.2),0 < b/\b∣M:=λb hb=>by
  obtain ⟨n,hn,rfl⟩:=aw.mp hb;exact ⟨(h.2.2 n hn).1,(h.2.2 n hn).2.1⟩
 exact ⟨CY (by decide) λb q=>(hb b q).1,Hs h.1 (Bs (by decide) (Int.one_dvd _) hb) h.2.1⟩
inductive Oa (K:FG9) (vs:List V) (H:Hp) (Q:VK) (E9:XK):Prop
 | mk (p:Addr) (bs:List Int) (M:Int):vs=[.ref p]->bB K H p (bs.map V.int)->0 < M->Sz 220000 M->((∀b∈bs,0 < b/\b∣M))->Q (.int (zU bs 1)) H->Oa K vs H Q E9
inductive Ob (K:FG9) (vs:List V) (H:Hp) (Q:VK) (E9:XK):Prop
 | mk (p:Addr) (ns:List (Int×Int)) (M:Int):vs=[.ref p]->HK K H p ns->ns.length<=1000->K9 M ns->(∀H',aB H H'->Q (.int (iQ ns)) H')->Ob K vs H Q E9
inductive Io (K:FG9) (vs:List V) (H:Hp) (Q:VK) (E9:XK):Prop
 | mk (p:Addr) (ns:List (Int×Int)) (M:Int) (B:Int):vs=[.ref p,.int B]->HK K H p ns->ns.length<=1000->K9 M ns->0 < B->Sz 220000 B->(∀r H',H r=none->aB H H'->H' r=some (.lst ((gU ns B).map V.int))->Q (.ref r) H')->Io K vs H Q E9
theorem Ig (h:K9 M ns) (hB:0 < B) (sB:Sz 220000 B) (ht:t∈gU ns B):Sz 440000 t:=by
 obtain ⟨n,hn,rfl⟩:=aw.mp ht;have hp:=h.2.2 n hn
 have sq:Sz 220000 (B / n.2):=sB.le (by
  rw[UE (by lia)];exact Nat.div_le_self ..)
 exact (hp.2.2.mul sq).mono (by lia)
theorem tL (h:(nm x).2∣B):(((nm x).1*(B / (nm x).2):Int):Rat)=x*(B:Rat):=by
 obtain ⟨k,rfl⟩:=h;have hp:=iq x;rw[Int.mul_ediv_cancel_left _ (by lia),aN,aN,pd];grind
theorem Jp {B C:Int}:∀{xs ys:List Rat},(∀x∈xs,(nm x).2∣B)->(∀y∈ys,(nm y).2∣C)->(((List.zipWith (λx y=>x*y) (gU (xs.map nm) B) (gU (ys.map nm) C)).sum:Int):Rat)=cB xs ys*((B:Rat)*(C:Rat))
 | [],ys,_,_=>by simp [gU,cB]
 | x :: xs,[],_,_=>by simp [gU,cB]
 | x :: xs,y :: ys,h1,h2=>by
  have ih:=Jp (B:=B) (C:=C) (xs:=xs) (ys:=ys) (λz hz=>h1 z (.tail _ hz)) (λz hz=>h2 z (.tail _ hz));have e1:=tL (h1 x (.head _));have e2:=tL (h2 y (.head _));have e3:(List.zipWith (λx y=>x*y) (gU ((x :: xs).map nm) B) (gU ((y :: ys).map nm) C)).sum=((nm x).1*(B / (nm x).2))*((nm y).1*(C / (nm y).2))+(List.zipWith (λx y=>x*y) (gU (xs.map nm) B) (gU (ys.map nm) C)).sum:=rfl;have e4:cB (x :: xs) (y :: ys)=x*y+cB xs ys:=rfl;rw[e3,e4,tJ,aN,ih,e1,e2];grind
theorem RK (h1:0 < iQ (xs.map nm)) (h2:0 < iQ (ys.map nm)):(lo (Po (xs.map nm) (ys.map nm)) (iQ (xs.map nm)*iQ (ys.map nm)),hi (Po (xs.map nm) (ys.map nm)) (iQ (xs.map nm)*iQ (ys.map nm)))=nm (cB xs ys):=by
 refine lQ (fV h1 h2) ?_;unfold Po;rw[Jp (λx hx=>qh (aw.mpr ⟨x,hx,rfl⟩)) (λx hx=>qh (aw.mpr ⟨x,hx,rfl⟩)),aN]
inductive Im (K:FG9) (vs:List V) (H:Hp) (Q:VK) (E9:XK):Prop
 | mk (p:Addr) (w:Nat) (H0:Hp) (rows:LR9):vs=[.ref p,.int w]->bf K H0 H p rows->rows.length<=1000->w<=1000->(∀xs∈rows,xs.length=w)->(∀r H',H r=none->aB H H'->bf K H H' r (aW rows w)->Q (.ref r) H')->Im K vs H Q E9
def SX (m:Nat) (a:Int):List Rat:=(List.range m).map λ(i:Nat)=>if ((i:Nat):Int)=a then 1 else 0
inductive Il (K:FG9) (vs:List V) (H:Hp) (Q:VK) (E9:XK):Prop
 | mk (m:Nat) (a:Int):vs=[.int m,.int a]->m<=1000->(∀r H',H r=none->aB H H'->cK K H' r (SX m a)->Q (.ref r) H')->Il K vs H Q E9
inductive BS (K:FG9) (vs:List V) (H:Hp) (Q:VK) (E9:XK):Prop
 | mk (b:Addr) (w:Nat):vs=[.ref b,.int w]->iM H b->1<=w->w<=1000000->(∀r x H',Dr (max w 6) x->cv K H' x (.ref r)->iM H' b->df b H H'->Q (.ref r) H')->BS K vs H Q E9
inductive IB (K:FG9) (vs:List V) (H:Hp) (Q:VK) (E9:XK):Prop
 | mk (b:Addr) (m w:Nat):vs=[.ref b,.int m,.int w]->iM H b->m<=1000->1<=w->w<=1000000->(∀r xs H',H r=none->cK K H' r xs->xs.length=m->(∀x∈xs,Dr (max w 6) x)->iM H' b->df b H H'->Q (.ref r) H')->IB K vs H Q E9
inductive Iq (K:FG9) (vs:List V) (H:Hp) (Q:VK) (E9:XK):Prop
 | mk (p q:Addr) (xs ys:List Rat):vs=[.ref p,.ref q]->cK K H p xs->cK K H q ys->ys.length=xs.length->xs.length<=1000->(∀x∈xs,kN x)->(∀y∈ys,kN y)->(∀r H',H r=none->aB H H'->cK K H' r (List.zipWith (λx y=>x+y) xs ys)->Q (.ref r) H')->Iq K vs H Q E9
inductive Ki (K:FG9) (vs:List V) (H:Hp) (Q:VK) (E9:XK):Prop
 | mk (u:V) (q:Addr) (c:Rat) (ys:List Rat):vs=[u,.ref q]->cv K H c u->kN c->cK K H q ys->ys.length<=1000->(∀y∈ys,kN y)->(∀r H',H r=none->aB H H'->cK K H' r (ys.map λy=>c*y)->Q (.ref r) H')->Ki K vs H Q E9
inductive BZ (K:FG9) (vs:List V) (H:Hp) (Q:VK) (E9:XK):Prop
 | mk (p:Addr) (H0:Hp) (rows:LR9):vs=[.ref p]->bf K H0 H p rows->rows.length<=1000->(∀xs∈rows,xs.length<=1000)->(∀r H',H r=none->aB H H'->bf K H H' r rows->Q (.ref r) H')->BZ K vs H Q E9
section
variable {K:FG9} {a:Addr} {xs:List V} {g:TG} {tf:TT} {te:TE} {Q:VK} {σ₀:St} {H:Hp} {α β:Type}
theorem d4 {F:Hp->α->V->Prop} (G:Hp->β->V->Prop) (f:α->β) (hx:H a=some (.lst xs)) (pf:Paired (F H) as xs) (hl:as.length<=1000)
  (hF:∀{H H' c x},F H c x->aB H H'->F H' c x) (hG:∀{H H' c x},G H c x->aB H H'->G H' c x)
  (hs:∀(i:Nat) c x H' NY NN,as[i]?=some c->aB H H'->F H' c x->(∀y H2,aB H' H2->G H2 (f c) y->NY y H2)->pP σ₀ g tf te x H' NY NN)
  (hd:∀ys H' p,H p=none->aB H H'->H' p=some (.lst ys)->Paired (G H') (as.map f) ys->(∃H2,H2 p=none/\Paired (G H2) (as.map f) ys)->Q (.ref p) H'):qG (RW K a) σ₀ g tf te Q H:=by
 have lx:=pf.length;refine eO (K:=K) (xs:=xs) (λi ys H'=>aB H H'/\Paired (G H') ((as.take i).map f) ys) lE ⟨aB.refl _,.nil⟩ (λi ys H' _ ⟨s,_⟩=>bB.of (s _ _ hx)) ?_ ?_
 ·rintro i x ys H' hx' hlen ⟨s,pr⟩;obtain ⟨c,ec,hc⟩:=bQ pf hx';refine hs i c x H' _ _ ec s (hF hc s) λy H2 s2 gy=>⟨s.trans s2,?_⟩
  rw[take_snoc ec,cI];exact b9 (Paired.imp' (λ_ _ z=>hG z s2) pr) (.cons gy .nil)
 ·rintro ys H' hy ⟨s,pr⟩ p hp;rw[aG (by lia)] at pr;exact hd ys _ p (s.none hp) (s.trans (aB.new hp)) aD (Paired.imp' (λ_ _ z=>hG z (aB.new hp)) pr) ⟨H',hp,pr⟩
theorem hZ (G:Hp->β->V->Prop) (f:Nat->β) (hl:n<=1000) (hG:∀{H H' c x},G H c x->aB H H'->G H' c x)
  (hs:∀(i:Nat) H' NY NN,i < n->aB H H'->(∀y H2,aB H' H2->G H2 (f i) y->NY y H2)->pP σ₀ g tf te (.int i) H' NY NN)
  (hd:∀ys H' p,H p=none->aB H H'->H' p=some (.lst ys)->Paired (G H') ((List.range n).map f) ys->(∃H2,H2 p=none/\Paired (G H2) ((List.range n).map f) ys)->Q (.ref p) H'):qG (JK 0 n) σ₀ g tf te Q H:=by
 refine lG (λi ys H'=>aB H H'/\Paired (G H') ((List.range i).map f) ys) lE ⟨aB.refl _,.nil⟩ ?_ ?_
 ·rintro i ys H' hi hlen ⟨s,pr⟩;rw[oO];refine hs i H' _ _ hi s λy H2 s2 gy=>⟨s.trans s2,?_⟩
  rw[iI,cI];exact b9 (Paired.imp' (λ_ _ z=>hG z s2) pr) (.cons gy .nil)
 ·rintro ys H' hy ⟨s,pr⟩ p hp;exact hd ys _ p (s.none hp) (s.trans (aB.new hp)) aD (Paired.imp' (λ_ _ z=>hG z (aB.new hp)) pr) ⟨H',hp,pr⟩
theorem Ff (G:Hp->β->V->Prop) (C:β->Prop) (hB:iM H b) (hl:n<=1000) (hG:∀{H' H'' c x},G H' c x->df b H' H''->iM H' b->G H'' c x)
  (hs:∀(i:Nat) H' NY NN,i < n->df b H H'->iM H' b->(∀y c H2,df b H' H2->iM H2 b->C c->G H2 c y->NY y H2)->pP σ₀ g tf te (.int i) H' NY NN)
  (hd:∀ys cs H' p,H p=none->df b H H'->iM H' b->H' p=some (.lst ys)->cs.length=n->(∀c∈cs,C c)->Paired (G H') cs ys->(∃H2,H2 p=none/\Paired (G H2) cs ys)->Q (.ref p) H'):qG (JK 0 n) σ₀ g tf te Q H:=by
 refine lG (λi ys H'=>df b H H'/\iM H' b/\∃cs,cs.length=i/\(∀c∈cs,C c)/\Paired (G H') cs ys) lE ⟨(aB.refl _).upto,hB,[],rfl,(λ_ z=>nomatch z),.nil⟩ ?_ ?_
 ·rintro i ys H' hi hlen ⟨u,B,cs,lc,hc,pr⟩;rw[oO];refine hs i H' _ _ hi u B λy c H2 u2 B2 cc gy=>⟨u.trans u2,B2,cs++[c],by simp [lc],HI hc cc,b9 (Paired.imp' (λ_ _ z=>hG z u2 B) pr) (.cons gy .nil)⟩
 ·rintro ys H' hy ⟨u,B,cs,lc,hc,pr⟩ p hp;have s:aB H' (upd H' p (.lst ys)):=aB.new hp;exact hd ys cs _ p (u.none B hp) (u.same s) (B.same s) aD lc hc (Paired.imp' (λ_ _ z=>hG z s.upto B) pr) ⟨H',hp,pr⟩
end
section
variable {X:Cx}
theorem dZ {g:TG} {tb:TS} {D:Ends} (Pv:Nat->St->Hp->Prop) (h0:Pv 0 σ H)
  (hs:∀(i:Nat) σ H,i < n->Pv i σ H->g (.int i) σ H λσ2 H2=>tb { D with nx:=Pv (i+1),ct:=Pv (i+1),bk:=D.nx } σ2 H2) (hd:∀σ H,Pv n σ H->D.nx σ H) :
  ∃W:Nat->Nat->St->Hp->Prop,(∃m,W 0 m σ H)/\∀i m σ H,W i m σ H →
   ((JK 0 n).stop i H/\D.nx σ H)\/((JK 0 n).go i H/\∃N:St->Hp->Prop,(∀σ' H',N σ' H'->∃m',m' < m/\W (i+1) m' σ' H')/\∀x H',(JK 0 n).yld i H x H'->g x σ H' λσ2 H2=>tb { D with nx:=N,ct:=N,bk:=D.nx } σ2 H2) :=
 EW (lo:=0) Pv h0 (λi σ H hi p=>by rw[oO];exact hs i σ H hi p) hd
theorem p9:sW X (.type "int") (λxs H Q=>∃b:Bool,xs=[.bl b]/\Q (.int (if b=true then 1 else 0)) H):=by
 intro pins s σ H xs us Q I r h;obtain ⟨b,rfl,q⟩:=h;obtain ⟨u,rfl,ru⟩:=vals1 r;cases ru;exact call_int_bool ⟨.int _,H,I.tok _,⟨_,rfl⟩,q⟩
theorem D7 (K:FG9) (hK:X.K=K):sW X (.builtin "len") (λxs H Q=>∃p ys,xs=[.ref p]/\(bB K H p ys\/mL K H p ys)/\Q (.int ys.length) H):=by subst hK;exact aM
theorem OC {st:Stmt}:PS X st (λ_ _ _=>False):=λ_ _ _ _ _ _ h=>h.elim
end
theorem OW {t b:Int} (hb:0 < b) (h1:t.natAbs<=W) (h2:b.natAbs<=W):∃q:Rat,(lo t b,hi t b)=nm q/\Dr W q/\q*(b:Rat)=(t:Rat):=by
 have hb':(b:Rat)≠0:=λz=>by have:=A3.mp z;lia
 have e:(t:Rat) / (b:Rat)*(b:Rat)=t:=J0 hb';have h:=lQ hb e;refine ⟨_,h,⟨?_,?_⟩,e⟩
 ·have:=congrArg Prod.fst h;have z:=lo_le (t:=t) (b:=b) (by lia);show ((nm ((t:Rat) / (b:Rat))).1).natAbs<=W
  rw[<- this];exact ah z h1
 ·have:=congrArg Prod.snd h;have z:=SD (t:=t) (b:=b) (by lia);have hd:(((t:Rat) / (b:Rat)).den:Int)=hi t b:=this.symm;have hp:=G6 (t:=t) hb
  lia
theorem DH {K:FG9} (h:Paired (cv K H) qs xs) (hj:j < qs.length):∃v,K6 xs (j:Int)=some v/\cv K H (qs.getD j 0) v:=by
 have hl:=h.length;refine ⟨xs[j]'(by lia),dD (by simp),?_⟩;have:=jO h (i:=j) hj (by lia);rwa [aa,ae hj]
theorem E2 {xs ys:List Rat} (h1:i < xs.length) (h2:i < ys.length):cB (xs.take (i+1)) (ys.take (i+1))=cB (xs.take i) (ys.take i)+xs.getD i 0*ys.getD i 0:=by
 have e1:xs[i]?=some (xs.getD i 0):=by rw[aa,ae h1];rfl
 have e2:ys[i]?=some (ys.getD i 0):=by rw[aa,ae h2];rfl
 unfold cB;rw[take_snoc e1,take_snoc e2,List.zipWith_append (by simp;lia),List.sum_append];simp [lU]
theorem getD_mem {xs:List Rat} (h:i < xs.length):xs.getD i 0∈xs:=by
 rw[aa,ae h];exact aI h
theorem Ej {xs ys:List Rat} (h:ys.length=xs.length):List.zipWith (λx y=>x+y) xs ys=(List.range xs.length).map λi=>xs.getD i 0+ys.getD i 0:=by
 apply kM;intro i;rw[bY,aA];by_cases hi:i < xs.length
 ·rw[cu hi,ae hi,ae (show i < ys.length by lia)];simp [aa,ae hi,ae (show i < ys.length by lia)]
 ·rw[aR (show (List.range xs.length).length<=i by simp;lia),aR (show xs.length<=i by lia)];rfl
theorem cW.updL {K:FG9} (h:cW K H0 H qs x) (hl:H l=some (.lst ys)) (nl:H0 l≠none):cW K H0 (upd H l o) qs x:=by obtain ⟨q,a,b,c⟩:=h;exact ⟨q,a,b,c.updL hl λz=>nl (by rw[<- z];exact b)⟩
theorem iM.at (B:iM H b):H b≠none:=by obtain ⟨_,_,_,_,_,e,_⟩:=B;rw[e];simp
theorem Inner.at (B:iM H b) (i:Inner H b q):H q≠none:=by
 obtain ⟨q',i',xs,e⟩:=B.inner;rw[<- Inner.inj i' i,e];simp
theorem gN {F:α->β->Prop} {l1:List α} {l2:List β} (h:Paired F l1 l2) (hi:i < l1.length):∃x y,l1[i]?=some x/\l2[i]?=some y/\x∈l1/\F x y:=by
 have hl:=h.length;exact ⟨l1[i],l2[i]'(by lia),by simp,by simp,aI _,jO h hi (by lia)⟩
section
variable {α β:Type} [DecidableEq α] [DecidableEq β] (k1:Kind α) (k2:Kind β)
theorem yZ {X:Cx} {pins:List (Addr×Obj)} {σ:St} {H:Hp} {s:Shared} {A:Around} (I:Inv X pins σ H s) (h1:A.units+k1.d < cLine) (h2:A.units+k2.d < cLine) {x y z w:V} {us ws:List Value} {a b:α×β}
  (rx:cX [x,y] us) (ry:cX [z,w] ws) (a1:k1.R X.K H x a.1) (a2:k2.R X.K H y a.2) (b1:k1.R X.K H z b.1) (b2:k2.R X.K H w b.2) :
  ∀j (h1:j < us.toArray.size) (h2:j < ws.toArray.size),SeqAt.EqAt A s us.toArray[j] ws.toArray[j] (if j=0 then decide (a.1=b.1) else decide (a.2=b.2)):=λj l1 l2=>by
 obtain ⟨u1,u2,rfl,r1,r2⟩:=vals2 rx;obtain ⟨w1,w2,rfl,q1,q2⟩:=vals2 ry;have hj:j < 2:=by simpa using l1
 rcases b8 j 1 with h | h
 ·have e:j=0:=by lia
  subst e;exact k1.eq (A:=A) I r1 q1 a1 b1 h1
 ·have e:j=1:=by lia
  subst e;exact k2.eq (A:=A) I r2 q2 a2 b2 h2
theorem FI {a b:α×β}:(List.range 2).all (λj=>if j=0 then decide (a.1=b.1) else decide (a.2=b.2))=decide (a=b):=by
 have e:List.range 2=[0,1]:=rfl;rw[e];simp only[JV,List.all_nil,Bool.and_true,if_true,Nat.one_ne_zero,if_false];rw[<- Qf];exact decide_eq_decide.mpr ⟨λ⟨h1,h2⟩=>Prod.ext h1 h2,λh=>by rw[h];exact ⟨rfl,rfl⟩⟩
def Vt:Kind (α×β) where
 R:=λK H x a=>∃p u v,x=.ref p/\mL K H p [u,v]/\k1.R K H u a.1/\k2.R K H v a.2
 d:=max k1.d k2.d+1
 inj:=λ{X pins σ H s x a b} I h1 h2=>by
  obtain ⟨p,u,v,rfl,hp,a1,a2⟩:=h1;obtain ⟨q,u',v',e,hq,b1,b2⟩:=h2;cases e;have e:=I.tuple_inj hp hq;cases e;exact Prod.ext (k1.inj I a1 b1) (k2.inj I a2 b2)
 rc:=λ{X pins σ H s x y v u a b A} I rx ry h1 h2 hA=>by
  obtain ⟨p,x1,x2,rfl,hp,a1,a2⟩:=h1;obtain ⟨q,y1,y2,rfl,hq,b1,b2⟩:=h2;cases rx;cases ry;obtain ⟨us,r1,t1,_⟩:=I.tuple hp;obtain ⟨ws,r2,t2,_⟩:=I.tuple hq;have l1:=r1.length;have l2:=r2.length;have z:=SeqAt.RcAt.tuples (A:=A) (e:=λj=>if j=0 then decide (a.1=b.1) else decide (a.2=b.2)) (show s.heap.IsTuple p us.toArray from t1) (show s.heap.IsTuple q ws.toArray from t2) (by lia) (yZ k1 k2 (A:=A.in1) I (by show A.units+1+k1.d < cLine;lia) (by show A.units+1+k2.d < cLine;lia) r1 r2 a1 a2 b1 b2);have e1:us.toArray.size=2:=by rw[aF,<- l1];rfl
  have e2:ws.toArray.size=2:=by rw[aF,<- l2];rfl
  rw[e1,e2,dW,FI] at z;simpa using z
 ne:=λ{X pins σ H s x y v u a b A} I rx ry h1 h2 hA=>by
  obtain ⟨p,x1,x2,rfl,hp,a1,a2⟩:=h1;obtain ⟨q,y1,y2,rfl,hq,b1,b2⟩:=h2;cases rx;cases ry;obtain ⟨us,r1,t1,_⟩:=I.tuple hp;obtain ⟨ws,r2,t2,_⟩:=I.tuple hq;have l1:=r1.length;have l2:=r2.length;have z:=SeqAt.RcNeAt.tuples (A:=A) (e:=λj=>if j=0 then decide (a.1=b.1) else decide (a.2=b.2)) (show s.heap.IsTuple p us.toArray from t1) (show s.heap.IsTuple q ws.toArray from t2) (by lia) (yZ k1 k2 (A:=A.in1) I (by show A.units+1+k1.d < cLine;lia) (by show A.units+1+k2.d < cLine;lia) r1 r2 a1 a2 b1 b2);have e1:us.toArray.size=2:=by rw[aF,<- l1];rfl
  have e2:ws.toArray.size=2:=by rw[aF,<- l2];rfl
  rw[e1,e2,dW,FI] at z;simpa using z
 eq:=λ{X pins σ H s x y v u a b A} I rx ry h1 h2 hA=>by
  obtain ⟨p,x1,x2,rfl,hp,a1,a2⟩:=h1;obtain ⟨q,y1,y2,rfl,hq,b1,b2⟩:=h2;cases rx;cases ry;by_cases e:p=q
  ·subst e;have e:=I.tuple_inj hp hq;cases e;have e2:a=b:=Prod.ext (k1.inj I a1 b1) (k2.inj I a2 b2);rw[decide_eq_true e2];exact SeqAt.EqAt.same _
  ·obtain ⟨us,r1,t1,_⟩:=I.tuple hp;obtain ⟨ws,r2,t2,_⟩:=I.tuple hq;have l1:=r1.length;have l2:=r2.length;have z:=SeqAt.RcAt.tuples (A:=A) (e:=λj=>if j=0 then decide (a.1=b.1) else decide (a.2=b.2)) (show s.heap.IsTuple p us.toArray from t1) (show s.heap.IsTuple q ws.toArray from t2) (by lia) (yZ k1 k2 (A:=A.in1) I (by show A.units+1+k1.d < cLine;lia) (by show A.units+1+k2.d < cLine;lia) r1 r2 a1 a2 b1 b2);have e1:us.toArray.size=2:=by rw[aF,<- l1];rfl
   have e2:ws.toArray.size=2:=by rw[aF,<- l2];rfl
   rw[e1,e2,dW,FI] at z;exact .of_refs e (by simpa using z)
end
theorem Bx (h1:-(2^64) < i) (h2:i < 2^64):fM i j:=.inl (.inl ⟨h1,h2⟩)
theorem L6 (h1:-(2^64) < j) (h2:j < 2^64):fM i j:=.inl (.inr ⟨h1,h2⟩)
def Uz (K : FG9) (l : Addr) : It :=
  ⟨λi H => ∃ xs x, bB K H l xs /\ xs[i]? = some x,
   λi H v H' => ∃ p x, v = .ref p /\ H p = none /\ H' = upd H p (.tup [.int i, x]) /\ ∀ xs, bB K H l xs → xs[i]? = some x,
   λi H => ∃ xs, bB K H l xs /\ xs.length ≤ i⟩
def tnE (e it l:Addr) (i:Nat) (h:Heap):Prop:=(∃old,IsEnum h e it i old)/\h.IsListIter it l i
theorem Ms {P:Program} {w:World} {K:FG9} {elts:List Expr} {kk:Nat} {tpos:Pos} (e it l:Addr) (hei:e≠it):Turn P w K (.Tuple elts kk tpos) (Uz K l) [e,it] e (tnE e it l) where
 mem:=by simp
 obj:=λi h st b hb=>by
  obtain ⟨⟨old,he⟩,⟨o1,g1,c1,d1⟩⟩:=st;simp only[aH,bw,or_false] at hb;rcases hb with rfl | rfl
  ·exact ⟨_,he,λv q=>nomatch q⟩
  ·exact ⟨o1,g1,λv q=>by rw[d1] at q;cases q⟩
 keep:=λi h h' st k=>by
  obtain ⟨⟨old,he⟩,h1⟩:=st;exact ⟨⟨old,k e (by simp) _ he⟩,h1.at λo q=>k it (by simp) o q⟩
 item:=by
  intro X hP hw hK hc i pins s σ H E I hf st hg;subst hP hw hK;obtain ⟨⟨old,he⟩,h1⟩:=st;obtain ⟨xs,x,qx,ex⟩:=hg;obtain ⟨us,rx,px,_⟩:=I.list qx;obtain ⟨u,eu,ru⟩:=rx.get ex;refine wpAny_pyNext_enum_item he h1 px.isList (x:=u) (by simpa using eu) hei λh' a1 a2 a3 a4 hk=>?_
  refine ⟨_,rfl,wpAny_letOwnedTupleGo_enum a1 λh'' he'' hs=>?_⟩;have hT0:H s.heap.objs.size=none:=I.hok.fresh (ar _);have ene:s.heap.objs.size≠e:=Mp (Heap.lt_size he)
  have up:∀b o,b∉[e,it]->s.heap.get? b=some o->h''.get? b=some o:=λb o hb q=>by
   simp only[aH,bw,or_false,not_or] at hb;exact (hs.2 b hb.1).trans (hk b o hb.1 hb.2 q)
  have tup:h''.get? s.heap.objs.size=some { cls:=.type "tuple",data:=.seq #[.int i s.toks,u] }:=(hs.2 _ ene).trans a3;have I1:Inv X pins σ H { s with heap:=h'',toks:=s.toks+1 }:=I.moved (g':=s.gens) (d':=s.drawn) (t':=s.toks+1) (ch:=[e,it]) hf up I.bare;have fT:lJ X pins H s.heap.objs.size:=I.fpOk (ar _) hT0;have I2:=I1.track (o:=.tup [.int i,x]) fT ⟨j6 rfl,[.int i s.toks,u],.cons ⟨_,rfl⟩ (.cons ru .nil),⟨_,tup,rfl,_,rfl⟩⟩;refine ⟨.ref s.heap.objs.size,_,I2,rfl,⟨_,x,rfl,hT0,rfl,λxs' q=>by rw[I.list_inj q qx];exact ex⟩,?_,λb hb=>?_⟩
  ·exact ⟨⟨_,by simpa using he''⟩,a2.at λo q=>(hs.2 _ hei.symm).trans q⟩
  ·rw[bc]
   ·exact (hf b hb).1
   ·obtain ⟨o1,g1,_⟩:=h1;simp only[aH,bw,or_false] at hb;rcases hb with rfl | rfl
    ·exact ene.symm
    ·exact c7 (Heap.lt_size g1)
 done:=by
  intro X hP hw hK hc i pins s σ H E I hf st hg;subst hP hw hK;obtain ⟨⟨old,he⟩,h1⟩:=st;obtain ⟨xs,qx,hend⟩:=hg;obtain ⟨us,rx,px,_⟩:=I.list qx;have lx:=rx.length;refine wpAny_pyNext_enum_end (I.ok.hd hc) he h1 px.isList (by simp;lia) λh' hk=>⟨rfl,?_⟩
  exact I.moved (g':=s.gens) (d':=s.drawn) (t':=s.toks) (ch:=[e,it]) hf (λb o hb q=>hk b o (λz=>hb (by simp [z])) q) I.bare
 self:=λ_ _ _ _ _ st h=>let ⟨⟨_,he⟩,_⟩:=st;wpAny_pyIter_enum he h
section
variable {X:Cx}
def SA (K:FG9) (ta:TA):TI:=λσ H R=>ta σ H λvs H1=>∃l,vs=[.ref l]/\(∃xs,bB K H1 l xs)/\R (Uz K l) H1
theorem Lv {a:Expr} {ta:TA} {p pos tpos:Pos} {elts:List Expr} {kk:Nat} (hg:Gl X "enumerate") (hm:X.mg "enumerate"=none) (ha:PA X [a] ta) (hs:starEach [a] X.env=[(false,eval a X.env)]:=by rfl) :
  PI X (.Tuple elts kk tpos) (.Call (.Name "enumerate" p) [a] [] pos) (SA X.K ta):=by
 intro pins s σ H R I h;refine Call_ (nZ I hg hm boot_enumerate (PyProof.Rows.callWith_type1 (iw (ha pos pins s σ H _ I h) λus s1 ⟨vs,H1,I1,r1,q1⟩=>?_) (by rw[hs];rfl) rfl));obtain ⟨l,e,⟨xs,qx⟩,q⟩:=q1;subst e;obtain ⟨u,rfl,ru⟩:=vals1 r1;cases ru;obtain ⟨us,rx,px,_⟩:=I1.list qx;refine call_enumerate_list px.isList λh' a1 a2 a3 hk=>wpAny_pyIter_enum a1 ?_
 have I2:Inv X pins σ H1 { s1 with heap:=h' }:=I1.kept (t':=s1.toks) hk;refine ⟨_,[s1.heap.objs.size+1,s1.heap.objs.size],_,_,H1,rfl,I2,Ms (s1.heap.objs.size+1) s1.heap.objs.size l (Nat.succ_ne_self _),⟨⟨_,a1⟩,a2⟩,λb hb=>?_,q⟩
 have hb':s1.heap.objs.size<=b:=by
  simp only[aH,bw,or_false] at hb;rcases hb with rfl | rfl <;> first | exact oj _ | exact ar _
 exact I1.fpOk hb' (I1.hok.fresh hb')
end
theorem Oy {K:FG9} (h:ta σ H λvs H1=>∃l,vs=[.ref l]/\(∃xs,bB K H1 l xs)/\R (Uz K l) H1):SA K ta σ H R:=h
theorem Pe {K:FG9} {g:TG} {tb:TS} {D:Ends} (Pv:Nat->St->Hp->Prop) (h0:Pv 0 σ H) (hl:∀i σ H,i<=xs.length->Pv i σ H->bB K H l xs)
  (hs:∀i x σ H p,xs[i]?=some x->Pv i σ H->H p=none->g (.ref p) σ (upd H p (.tup [.int i,x])) λσ2 H2=>tb { D with nx:=Pv (i+1),ct:=Pv (i+1),bk:=D.nx } σ2 H2) (hd:∀σ H,Pv xs.length σ H->D.nx σ H) :
  ∃W:Nat->Nat->St->Hp->Prop,(∃m,W 0 m σ H)/\∀i m σ H,W i m σ H →
   ((Uz K l).stop i H/\D.nx σ H)\/((Uz K l).go i H/\∃N:St->Hp->Prop,(∀σ' H',N σ' H'->∃m',m' < m/\W (i+1) m' σ' H')/\∀x H',(Uz K l).yld i H x H'->g x σ H' λσ2 H2=>tb { D with nx:=N,ct:=N,bk:=D.nx } σ2 H2):=by
 refine ⟨λi m σ H=>m=xs.length - i/\i<=xs.length/\Pv i σ H,⟨xs.length,by simp,a7 _,h0⟩,?_⟩;rintro i m σ H ⟨rfl,hi,p⟩;have q1:=hl i σ H hi p;by_cases hlt:i < xs.length
 ·refine .inr ⟨⟨xs,xs[i],q1,by simp [hlt]⟩,Pv (i+1),λσ' H' p'=>⟨xs.length - (i+1),by lia,rfl,hlt,p'⟩,λx H' y=>?_⟩;obtain ⟨r,x',rfl,hr,rfl,e1⟩:=y;exact hs i x' σ _ r (e1 xs q1) p hr
 ·have e:i=xs.length:=by lia
  subst e;exact .inl ⟨⟨xs,q1,ar _⟩,hd σ H p⟩
section
variable {X:Cx}
theorem Q7 (K:FG9) {e:Expr} {f:Str} {pos:Pos} {ta:TE} (he:PE X e ta) (hb:attributeBase e f X.env (eval e X.env)=eval e X.env) (hK:X.K=K:=by rfl):PE X (.Attribute e f pos) (S5 K ta f):=by subst hK;exact fW he hb
end
theorem TC {K:FG9} (h:ta σ H λx H1=>∃a C dx fs v,x=.ref a/\H1 a=some (.ins C dx fs)/\Nu K C/\kG K C f/\fs.lookup f=some v/\Q v H1):S5 K ta f σ H Q:=h
theorem QF {K:FG9} (h:tv σ H λy H1=>ta σ H1 λx H2=>∃a C dx fs,x=.ref a/\H2 a=some (.ins C dx fs)/\Nu K C/\kG K C f/\fs.length < 1000 /\
 D.nx σ (upd H2 a (.ins C dx (cF f y fs)))):U9 K ta tv f D σ H:=h
theorem QK (h:ta σ H λx H1=>∃a dx fs,x=.ref a/\H1 a=some (.ins C dx fs)/\fs.lookup m=none /\
 t σ H1 λvs H2=>sp (x :: vs) H2 Q E):NS C m sp [] E ta t σ H Q:=by
 have e:(λ(x:V) H1=>∃a dx fs,x=.ref a/\H1 a=some (.ins C dx fs)/\fs.lookup m=none/\t σ H1 λvs H2=>sp (x :: (vs++[])) H2 Q E)=λx H1=>∃a dx fs,x=.ref a/\H1 a=some (.ins C dx fs)/\fs.lookup m=none/\t σ H1 λvs H2=>sp (x :: vs) H2 Q E:=by
  funext x H1;simp only[tK]
 show ta σ H (λ(x:V) H1=>∃a dx fs,x=.ref a/\H1 a=some (.ins C dx fs)/\fs.lookup m=none/\t σ H1 λvs H2=>sp (x :: (vs++[])) H2 Q E)
 rw[e];exact h
theorem QL (h:t σ H λvs H1=>∀x dx,H1 x=none->H1 dx=none->dx≠x →
 sp (.ref x :: vs) (upd (upd H1 dx (.own x)) x (.ins C dx [])) (λv H2=>v=.non/\Q (.ref x) H2) E):Sf C sp [] E t σ H Q:=by
 have e:(λvs (H1:Hp)=>∀x dx,H1 x=none->H1 dx=none->dx≠x->sp (.ref x :: (vs++[])) (upd (upd H1 dx (.own x)) x (.ins C dx [])) (λv H2=>v=.non/\Q (.ref x) H2) E)=λvs H1=>∀x dx,H1 x=none->H1 dx=none->dx≠x->sp (.ref x :: vs) (upd (upd H1 dx (.own x)) x (.ins C dx [])) (λv H2=>v=.non/\Q (.ref x) H2) E:=by
  funext vs H1;simp only[tK]
 show t σ H (λvs (H1:Hp)=>∀x dx,H1 x=none->H1 dx=none->dx≠x->sp (.ref x :: (vs++[])) (upd (upd H1 dx (.own x)) x (.ins C dx [])) (λv H2=>v=.non/\Q (.ref x) H2) E)
 rw[e];exact h
def HX (x:Addr) (H H':Hp):Prop:=∀b o,H b=some o->b≠x->H' b=some o
theorem HX.upd:HX x H (L2.upd H x o):=λb u h n=>by rw[bc n];exact h
def wB (H:Hp) (x:Addr):Prop:=∃C dx fs,H x=some (.ins C dx fs)
section
variable {K:FG9} {H H' H0:Hp} {q:Rat} {v:V} {x p:Addr} {qs:List Rat} {rows:LR9}
theorem cv.exc (h:cv K H q v) (e:HX x H H') (hx:wB H x):cv K H' q v:=by
 obtain ⟨C,dx,fs,hx⟩:=hx;obtain ⟨r,er,s⟩:=h;refine ⟨r,er,?_⟩;rcases s with (h | ⟨o,h⟩) | h
 ·exact .inl (.inl (e _ _ h λz=>by rw[z,hx] at h;cases h))
 ·exact .inl (.inr ⟨o,e _ _ h λz=>by rw[z,hx] at h;cases h⟩)
 ·exact .inr h
theorem cK.exc (h:cK K H p qs) (e:HX x H H') (hx:wB H x):cK K H' p qs:=by
 obtain ⟨xs,g,r⟩:=h;have hx':=hx;obtain ⟨C,dx,fs,hx⟩:=hx;exact ⟨xs,e _ _ g (λz=>by rw[z,hx] at g;cases g),Paired.imp' (λ_ _ z=>z.exc e hx') r⟩
theorem cW.exc (h:cW K H0 H qs v) (e:HX x H H') (hx:wB H x):cW K H0 H' qs v:=by obtain ⟨q,a,b,c⟩:=h;exact ⟨q,a,b,c.exc e hx⟩
theorem bf.exc (h:bf K H0 H p rows) (e:HX x H H') (hx:wB H x):bf K H0 H' p rows:=by
 obtain ⟨xs,g,r,n⟩:=h;have hx':=hx;obtain ⟨C,dx,fs,hx⟩:=hx;exact ⟨xs,e _ _ g (λz=>by rw[z,hx] at g;cases g),Paired.imp' (λ_ _ z=>z.exc e hx') r,n⟩
end
def mI (a b c:Addr) (n i o:Nat):List (Str×V):=cF "outs" (.int o) (cF "look" (.ref c) (cF "ins" (.int i) (cF "put" (.ref b) (cF "states" (.int n) (cF "move" (.ref a) [])))))
section
variable {a b c:Addr} {n i o:Nat}
theorem N3:(mI a b c n i o).lookup ("outs":Str)=some (.int o):=by
 unfold mI;rw[bC,if_pos rfl]
theorem Ik:(mI a b c n i o).lookup ("look":Str)=some (.ref c):=by
 unfold mI;rw[bC,if_neg (by decide +kernel),bC,if_pos rfl]
theorem Bl:(mI a b c n i o).lookup ("put":Str)=some (.ref b):=by
 unfold mI;rw[bC,if_neg (by decide +kernel),bC,if_neg (by decide +kernel),bC,if_neg (by decide +kernel),bC,if_pos rfl]
theorem jM:(mI a b c n i o).lookup ("states":Str)=some (.int n):=by
 unfold mI;rw[bC,if_neg (by decide +kernel),bC,if_neg (by decide +kernel),bC,if_neg (by decide +kernel),bC,if_neg (by decide +kernel),bC,if_pos rfl]
theorem BI:(mI a b c n i o).lookup ("move":Str)=some (.ref a):=by
 unfold mI;rw[bC,if_neg (by decide +kernel),bC,if_neg (by decide +kernel),bC,if_neg (by decide +kernel),bC,if_neg (by decide +kernel),bC,if_neg (by decide +kernel),bC,if_pos rfl]
theorem Kf {m:Str} (h1:¬m="outs") (h2:¬m="look") (h3:¬m="ins") (h4:¬m="put") (h5:¬m="states") (h6:¬m="move"):(mI a b c n i o).lookup m=none:=by
 unfold mI;rw[bC,if_neg h1,bC,if_neg h2,bC,if_neg h3,bC,if_neg h4,bC,if_neg h5,bC,if_neg h6];rfl
theorem Mt:(mI a b c n i o).lookup ("moved":Str)=none:=Kf (by decide +kernel) (by decide +kernel) (by decide +kernel) (by decide +kernel) (by decide +kernel) (by decide +kernel)
theorem N2:(mI a b c n i o).lookup ("seen":Str)=none:=Kf (by decide +kernel) (by decide +kernel) (by decide +kernel) (by decide +kernel) (by decide +kernel) (by decide +kernel)
theorem BH:(mI a b c n i o).lookup ("turned":Str)=none:=Kf (by decide +kernel) (by decide +kernel) (by decide +kernel) (by decide +kernel) (by decide +kernel) (by decide +kernel)
end
theorem eX {k:Str} {v:V}:∀{l:List (Str×V)},(cF k v l).length<=l.length+1
 | []=>ar _
 | (x,y) :: r=>by
  unfold cF
  split
  ·simp
  ·have:=eX (k:=k) (v:=v) (l:=r);simp only[aZ]
   lia
structure fJ (mv pt lk:LR9):Prop where
 n8:mv.length<=8
 i4:pt.length<=4
 o4:lk.length<=4
 mw:∀xs∈mv,xs.length=mv.length
 pw:∀xs∈pt,xs.length=mv.length
 lw:∀xs∈lk,xs.length=mv.length
def wq (mv pt lk:LR9):Prop:=∃M V:Nat,0 < M/\M<=2^800/\V<=2^400/\GF M V mv/\GF M V pt/\GF M V lk
def l9 (K:FG9) (H0 H:Hp) (C p:Addr) (mv pt lk:LR9):Prop:=∃dx a b c,H p=some (.ins C dx (mI a b c mv.length pt.length lk.length))/\H0 a=none/\H0 b=none/\H0 c=none/\bf K H0 H a mv/\bf K H0 H b pt/\bf K H0 H c lk
section
variable {K:FG9} {H H' H0 H1:Hp} {C p b:Addr} {mv pt lk:LR9}
theorem l9.same (h:l9 K H0 H C p mv pt lk) (e:aB H H'):l9 K H0 H' C p mv pt lk:=by obtain ⟨dx,a,b,c,g,n1,n2,n3,g1,g2,g3⟩:=h;exact ⟨dx,a,b,c,e _ _ g,n1,n2,n3,g1.same e,g2.same e,g3.same e⟩
theorem l9.upto (h:l9 K H0 H C p mv pt lk) (u:df b H H') (B:iM H b) (nb:H0 b≠none):l9 K H0 H' C p mv pt lk:=by
 obtain ⟨dx,a,b',c,g,n1,n2,n3,g1,g2,g3⟩:=h;refine ⟨dx,a,b',c,u.other (λz=>by obtain ⟨_,_,_,_,_,e,_⟩:=B;rw[z,e] at g;cases g) g,n1,n2,n3,g1.upto u B (λz=>nb (by rw[<- z];exact n1)) nb,g2.upto u B (λz=>nb (by rw[<- z];exact n2)) nb,g3.upto u B (λz=>nb (by rw[<- z];exact n3)) nb⟩
theorem l9.weak (h:l9 K H0 H C p mv pt lk) (e:aB H1 H0):l9 K H1 H C p mv pt lk:=by obtain ⟨dx,a,b,c,g,n1,n2,n3,g1,g2,g3⟩:=h;exact ⟨dx,a,b,c,g,e.none n1,e.none n2,e.none n3,g1.weak e,g2.weak e,g3.weak e⟩
theorem wq.fits (h:wq mv pt lk) (hl:∀x∈l,(∃xs∈mv,x∈xs)\/(∃xs∈pt,x∈xs)\/(∃xs∈lk,x∈xs)\/x=0):Fits l:=by
 obtain ⟨M,V,h0,h1,h2,h3,h4,h5⟩:=h;refine ⟨M,V,h0,ah h1 (au (by decide) (by decide)),ah h2 (au (by decide) (by decide)),λx hx=>?_⟩;rcases hl x hx with ⟨xs,a,b⟩ | ⟨xs,a,b⟩ | ⟨xs,a,b⟩ | rfl
 ·exact h3 xs a x b
 ·exact h4 xs a x b
 ·exact h5 xs a x b
 ·exact Fr.zero
theorem wq.turn (h:wq mv pt lk):wq (aW mv mv.length) lk pt:=by
 obtain ⟨M,V,h0,h1,h2,h3,h4,h5⟩:=h;refine ⟨M,V,h0,h1,h2,λys hy y hy'=>?_,h5,h4⟩;obtain ⟨j,_,rfl⟩:=aw.mp hy;obtain ⟨xs,hx,rfl⟩:=aw.mp hy';by_cases hj:j < xs.length
 ·rw[aa,ae hj];exact h3 xs hx _ (aI hj)
 ·rw[aa,aR (by lia)];exact Fr.zero
theorem fJ.turn (h:fJ mv pt lk):fJ (aW mv mv.length) lk pt:=⟨by rw[bZ];exact h.n8,h.o4,h.i4,λxs hx=>by rw[kU xs hx,bZ],λxs hx=>by rw[bZ];exact h.lw xs hx,λxs hx=>by rw[bZ];exact h.pw xs hx⟩
end
def Mu:Sp:=λvs H Q _=>∃i:Int,vs=[.int i]/\Q (.bl true) H
def Mx (K:FG9):Sp:=λvs H Q _=>∃x n,vs=[x]/\JH K H x n/\AY n/\∀H',aB H H'->Q (.bl true) H'
inductive Lo (vs:List V) (H:Hp) (Q:VK) (E9:XK):Prop
 | mk (p:Addr) (xs:List V) (a m:Int):vs=[.ref p,.int a,.int m]->H p=some (.lst xs)->(xs.length:Int)<=m->Q .non H->Lo  vs H Q E9
inductive Lr (K:FG9) (vs:List V) (H:Hp) (Q:VK) (E9:XK):Prop
 | mk (p:Addr) (H0:Hp) (rows:LR9) (w:Nat):vs=[.ref p,.int w]->bf K H0 H p rows->rows.length<=1000->w<=1000->((∀xs∈rows,xs.length=w/\∀x∈xs,AY (nm x)))->(∀r H',H r=none->aB H H'->bf K H H' r rows->Q (.ref r) H')->Lr K vs H Q E9
def UJ (rows:LR9):Prop:=∀xs∈rows,∀x∈xs,AY (nm x)
inductive Lp (K:FG9) (C:Addr) (vs:List V) (H:Hp) (Q:VK) (E9:XK):Prop
 | mk (x dx p q r:Addr) (Hb H0 H1 H2:Hp) (mv pt lk:LR9):vs=[.ref x,.ref p,.ref q,.ref r]->Hb x=none->Hb dx=none->dx≠x->H=upd (upd Hb dx (.own x)) x (.ins C dx [])->bf K H0 Hb p mv->bf K H1 Hb q pt->bf K H2 Hb r lk->fJ mv pt lk->UJ mv->UJ pt->UJ lk->(∀H',aB Hb H'->l9 K Hb H' C x mv pt lk->Q .non H')->Lp K C vs H Q E9
def iH (mv pt:LR9) (st pu:List Rat):List Rat:=List.zipWith (λline col=>cB (line++col) (st++pu)) mv (aW pt mv.length)
def seenQ (lk:LR9) (st:List Rat):List Rat:=lk.map λxs=>cB xs st
inductive BN (K:FG9) (C:Addr) (vs:List V) (H:Hp) (Q:VK) (E9:XK):Prop
 | mk (x:Addr) (H0:Hp) (mv pt lk:LR9):vs=[.ref x]->l9 K H0 H C x mv pt lk->fJ mv pt lk->wq mv pt lk->(∀r H',H r=none->aB H H'->l9 K H H' C r (aW mv mv.length) lk pt->Q (.ref r) H')->BN K C vs H Q E9
theorem wq.ok (h:wq mv pt lk):UJ mv/\UJ pt/\UJ lk :=
 ⟨λxs hx x hx'=>(h.fits (l:=xs) λy hy=>.inl ⟨xs,hx,hy⟩).ok hx',λxs hx x hx'=>(h.fits (l:=xs) λy hy=>.inr (.inl ⟨xs,hx,hy⟩)).ok hx',λxs hx x hx'=>(h.fits (l:=xs) λy hy=>.inr (.inr (.inl ⟨xs,hx,hy⟩))).ok hx'⟩
def ig (K:FG9) (A:Addr->Prop) (H:Hp) (n:Nat) (C:Rat->Prop) (x:V):Prop:=∃q qs,x=V.ref q/\A q/\cK K H q qs/\qs.length=n/\∀y∈qs,C y
section
variable {K:FG9} {A A':Addr->Prop} {H H' H0:Hp} {n:Nat} {C C':Rat->Prop} {x v:V} {q b l p:Addr} {xs zs:List V} {y:Rat} {o:HO}
theorem ig.same (h:ig K A H n C x) (e:aB H H'):ig K A H' n C x:=by obtain ⟨q,qs,a,c,r,z⟩:=h;exact ⟨q,qs,a,c,r.same e,z⟩
theorem ig.upto (h:ig K A H n C x) (u:df b H H') (B:iM H b) (nb:¬A b):ig K A H' n C x:=by obtain ⟨q,qs,a,c,r,z⟩:=h;exact ⟨q,qs,a,c,r.upto u B (λe=>nb (by rw[<- e];exact c)),z⟩
theorem ig.other (h:ig K A H n C x) (hl:H l=some (.lst zs)) (nl:¬A l):ig K A (upd H l o) n C x:=by obtain ⟨q,qs,a,c,r,z⟩:=h;exact ⟨q,qs,a,c,r.updL hl (λe=>nl (by rw[<- e];exact c)),z⟩
theorem ig.weak (h:ig K A H n C x) (w:∀q,A q->A' q) (wc:∀y,C y->C' y):ig K A' H n C' x:=by obtain ⟨q,qs,a,c,r,l,z⟩:=h;exact ⟨q,qs,a,w q c,r,l,λy hy=>wc y (z y hy)⟩
theorem Cy {α β:Type} {F:α->β->Prop} {a:α} {b:β} (h:F a b):∀{l1:List α} {l2:List β} (j:Nat),Paired F l1 l2->Paired F (l1.set j a) (l2.set j b)
 | _,_,_,.nil=>.nil
 | _,_,0,.cons _ t=>.cons h t
 | _,_,j+1,.cons r t=>.cons r (Cy h j t)
theorem ig.put (h:ig K A H n C x) (hq:H q=some (.lst zs)) (hv:cv K H y v) (hc:C y) (j:Nat):ig K A (upd H q (.lst (zs.set j v))) n C x:=by
 obtain ⟨q1,qs,rfl,a,⟨zs1,g1,pr⟩,l1,c1⟩:=h;by_cases e:q1=q
 ·subst e;rw[hq] at g1;cases g1;refine ⟨q1,qs.set j y,rfl,a,⟨_,aD,Cy (hv.updL hq) j (Paired.imp' (λ_ _ z=>z.updL hq) pr)⟩,by rw[fe];exact l1,λz hz=>?_⟩;rcases cY hz with hz | rfl
  ·exact c1 z hz
  ·exact hc
 ·exact ⟨q1,qs,rfl,a,⟨zs1,by rw[bc e];exact g1,Paired.imp' (λ_ _ z=>z.updL hq) pr⟩,l1,c1⟩
theorem ig.at (h:ig K A H n C x):∃q zs qs,x=V.ref q/\A q/\H q=some (.lst zs)/\zs.length=n/\Paired (cv K H) qs zs/\qs.length=n/\∀y∈qs,C y:=by obtain ⟨q,qs,a,c,⟨zs,g,pr⟩,l,z⟩:=h;exact ⟨q,zs,qs,a,c,g,by rw[<- pr.length];exact l,pr,l,z⟩
theorem Kt (h:∀x∈us,ig K (λq=>H0 q=none) H n C x):∃rows,Paired (cW K H0 H) rows us/\rows.length=us.length/\∀qs∈rows,qs.length=n/\∀y∈qs,C y:=by
 induction us with
 | nil=>exact ⟨[],.nil,rfl,λ_ z=>nomatch z⟩
 | cons u us ih =>
  obtain ⟨rows,pr,l,hr⟩:=ih λx hx=>h x (.tail _ hx)
  obtain ⟨q,qs,e,a,r,l1,c⟩:=h u (.head _);refine ⟨qs :: rows,.cons ⟨q,e,a,r⟩ pr,by simp [l],λzs hz=>?_⟩;rcases aH.mp hz with rfl | hz
  ·exact ⟨l1,c⟩
  ·exact hr zs hz
end
theorem uO {i:Int} (h:i.natAbs<=W) (hW:1<=W):Dr W (i:Rat):=⟨h,hW⟩
def VQ (K:FG9) (A:Addr->Prop) (H:Hp) (n:Nat) (C:Rat->Prop) (p:Addr) (m:Nat):Prop:=∃us,H p=some (.lst us)/\us.length=m/\¬A p/\∀x∈us,ig K A H n C x
structure JJ (A:Addr->Prop) (m p l b q0:Addr):Prop where
 am:¬A m
 ap:¬A p
 al:¬A l
 ab:¬A b
 aq:¬A q0
 mb:m≠b
 pb:p≠b
 lb:l≠b
 mp:m≠p
 ml:m≠l
 mq:m≠q0
theorem LO {M:Nat} {z:Int} (h:z.natAbs<=2):Fr 1 2 (z:Rat):=Fr.int h
theorem G7 {z:Int} (hz:z.natAbs<=2) (ha:Fr M W a) (hc:Fr M W c):Fr M (3*W) (a+(z:Rat)*c):=by
 have h:=(LO (M:=M) hz).mul hc;rw[sY] at h;exact (ha.add h).mono (by lia)
theorem FL {z:Int} (h:z.natAbs<=1000):kN (z:Rat):=KS (M:=1) (V:=1000) (by decide) (bU) (ah (show 1000<=2^10 by decide) (au (by decide) (by decide))) (Fr.int h)
theorem BG {z:Int} (hz:z.natAbs<=2) (hc:Fr M W c) (h0:0 < M) (h1:M<=2^800) (hW:W<=2^140):kN ((z:Rat)*c):=by
 have h:=(LO (M:=M) hz).mul hc;rw[sY] at h;refine KS h0 (ah h1 (au (by decide) (by decide))) (ah (aP 2 hW) ?_) h;rw[show 2*2^140=2^141 by rw[gW,cy]];exact au (by decide) (by decide)
def jk (A:Addr->Prop) (b m:Addr) (H H':Hp):Prop:=∀c u,H c=some u->c≠b->¬A c->c≠m->H' c=some u
theorem jk.same (h:jk A b m H H1) (s:aB H1 H2):jk A b m H H2:=λc u e n1 n2 n3=>s _ _ (h c u e n1 n2 n3)
theorem jk.upto (h:jk A b m H H1) (s:df b H1 H2):jk A b m H H2:=λc u e n1 n2 n3=>s.1 _ _ (h c u e n1 n2 n3) n1
theorem jk.upd (h:jk A b m H H1) (hq:A q\/q=m):jk A b m H (L2.upd H1 q o):=λc u e n1 n2 n3=>by
 rw[bc]
 ·exact h c u e n1 n2 n3
 ·rintro rfl;rcases hq with hq | hq
  ·exact n2 hq
  ·exact n3 hq
theorem jk.new (h:jk A b m H H1) (hA:∀q,H q=none->A q) (B:iM H1 b) (hm:H1 m≠none) (hr:H1 r=none):A r:=by
 by_cases z:A r
 ·exact z
 ·cases e:H r with
  | none=>exact hA r e
  | some u =>
   have:=h r u e (λy=>B.at (by rw[<- y];exact hr)) z (λy=>hm (by rw[<- y];exact hr));rw[hr] at this;cases this
structure Ml (K:FG9) (A:Addr->Prop) (n:Nat) (C:Rat->Prop) (r p b q0:Addr) (us:List V) (H0 H:Hp):Prop where
 gr:H r=some (.lst us)
 ru:∀x∈us,ig K A H n C x
 rp:ig K A H n C (.ref p)
 bag:iM H b
 inn:Inner H b q0
 up:df b H0 H
section
variable {K:FG9} {A:Addr->Prop} {n:Nat} {C:Rat->Prop} {r p b q0:Addr} {us:List V} {H0 H H':Hp} {y:Rat} {v:V}
theorem Ml.same (h:Ml K A n C r p b q0 us H0 H) (e:aB H H'):Ml K A n C r p b q0 us H0 H':=⟨e _ _ h.gr,λx hx=>(h.ru x hx).same e,h.rp.same e,h.bag.same e,(e.upto (p:=b)).2 _ h.inn,h.up.same e⟩
theorem Ml.upto (h:Ml K A n C r p b q0 us H0 H) (u:df b H H') (B:iM H' b) (nb:¬A b) (rb:r≠b):Ml K A n C r p b q0 us H0 H':=⟨u.other rb h.gr,λx hx=>(h.ru x hx).upto u h.bag nb,h.rp.upto u h.bag nb,B,u.2 _ h.inn,h.up.trans u⟩
theorem Ml.put (h:Ml K A n C r p b q0 us H0 H) (ap:A p) (nr:¬A r) (nb:¬A b) (nq:¬A q0) (hp:H0 p=none) (hv:cv K H y v) (hc:C y) (j:Nat):∃zs,H p=some (.lst zs)/\zs.length=n/\Ml K A n C r p b q0 us H0 (upd H p (.lst (zs.set j v))):=by
 obtain ⟨q,zs,qs,e,a,g,l,_⟩:=h.rp.at;cases e;have ne:∀{z},¬A z->z≠p:=λh e=>h (by rw[e];exact ap)
 exact ⟨zs,g,l,by rw[bc (ne nr)];exact h.gr,λx hx=>(h.ru x hx).put g hv hc j,h.rp.put g hv hc j,h.bag.upd h.inn (ne nb).symm (ne nq).symm,h.inn.upd (ne nb).symm,h.up.after hp⟩
end
theorem Cp {K:FG9} (h:∀x∈us,ig K A H n C x):∃rows:LR9,Paired (λqs x=>∃q,x=V.ref q/\A q/\cK K H q qs) rows us/\rows.length=us.length/\∀qs∈rows,qs.length=n/\∀y∈qs,C y:=by
 induction us with
 | nil=>exact ⟨[],.nil,rfl,λ_ z=>nomatch z⟩
 | cons u us ih =>
  obtain ⟨rows,pr,l,hr⟩:=ih λx hx=>h x (.tail _ hx)
  obtain ⟨q,qs,e,a,r,l1,c⟩:=h u (.head _);refine ⟨qs :: rows,.cons ⟨q,e,a,r⟩ pr,by simp [l],λzs hz=>?_⟩;rcases aH.mp hz with rfl | hz
  ·exact ⟨l1,c⟩
  ·exact hr zs hz
theorem Ku {K:FG9} {rows:LR9} (pr:Paired (λqs x=>∃q,x=V.ref q/\A q/\cK K H q qs) rows us) (h:∀qs∈rows,qs.length=n/\∀y∈qs,C y):∀x∈us,ig K A H n C x:=λx hx=>by
 obtain ⟨qs,hq,q,e,a,r⟩:=dE pr hx;exact ⟨q,qs,e,a,r,(h qs hq).1,(h qs hq).2⟩
theorem EX {n:Nat}:∀{rows:LR9},(∀xs∈rows,xs.length=n)->rows.flatten.length=rows.length*n
 | [],_=>by simp
 | xs :: rows,h=>by
  rw[c8,ai,h xs (.head _),EX λys hy=>h ys (.tail _ hy),aZ,dU,oN]
theorem Qz {rows:LR9} (h:∀qs∈rows,qs.length=n/\∀y∈qs,Dr (2^c) y):∃M:Nat,0 < M/\M<=2^(c*(rows.length*n))/\∀qs∈rows,∀y∈qs,Fr M (2^c) y:=by
 have fl:rows.flatten.length=rows.length*n:=EX λys hy=>(h ys hy).1
 have hm:∀a∈rows.flatten.map (·.den),0 < a/\a<=2^c:=λa ha=>by
  obtain ⟨y,hy,rfl⟩:=aw.mp ha;obtain ⟨qs,hq,hy⟩:=ie.mp hy;exact ⟨y.den_pos,((h qs hq).2 y hy).2⟩
 refine ⟨xK (rows.flatten.map (·.den)),zM λa ha=>(hm a ha).1,?_,λqs hq y hy=>?_⟩
 ·have:=Ct (k:=c) (l:=rows.flatten.map (·.den)) λa ha=>(hm a ha).2
  rwa [ag,fl] at this
 ·exact (Fr.own y ((h qs hq).2 y hy).1).dvd (zN (aw.mpr ⟨y,ie.mpr ⟨qs,hq,hy⟩,rfl⟩))
theorem lF {K:FG9} (h:VQ K A H n C p m) (w:∀q,A q->H0 q=none):∃rows,bf K H0 H p rows/\rows.length=m/\∀qs∈rows,qs.length=n/\∀y∈qs,C y:=by
 obtain ⟨us,g,l,a,r⟩:=h;obtain ⟨rows,pr,lr,hr⟩:=Cp r;refine ⟨rows,⟨us,g,Paired.imp' (λ_ _ ⟨q,e,aq,rq⟩=>⟨q,e,w q aq,rq⟩) pr,λhm=>?_⟩,by rw[lr,l],hr⟩;obtain ⟨q,_,e,aq,_⟩:=r _ hm;cases e;exact a aq
theorem jk.trans (h:jk A b m H H1) (h':jk A b m H1 H2):jk A b m H H2:=λc u e n1 n2 n3=>h' c u (h c u e n1 n2 n3) n1 n2 n3
theorem F8 {K:FG9} {rows:LR9} (pr:Paired (cW K H0 H) rows us) (h:∀qs∈rows,qs.length=n/\∀y∈qs,C y) (w:∀q,V.ref q∈us->H0 q=none->H q≠none->A q):∀x∈us,ig K A H n C x:=λx hx=>by
 obtain ⟨qs,hq,q,e,a,r⟩:=dE pr hx;subst e;exact ⟨q,qs,rfl,w q hx a (by obtain ⟨_,g,_⟩:=r;rw[g];simp),r,(h qs hq).1,(h qs hq).2⟩
def Mv:Sp:=λvs H Q _=>∃b,vs=[.ref b]/\iM H b/\∀r (n i o w:Nat) H',H' r=some (.tup [.int n,.int i,.int o,.int w])->n<=5->i<=4->o<=4->(w=4\/w=9\/(w=1000000/\n<=2))->(n=5->i<=2/\o<=2)->iM H' b->df b H H'->Q (.ref r) H'
def gQ (K:FG9) (H0 H:Hp) (r:Addr) (mv pt lk:LR9):Prop:=∃m p l,H r=some (.tup [.ref m,.ref p,.ref l])/\H0 m=none/\H0 p=none/\H0 l=none/\bf K H0 H m mv/\bf K H0 H p pt/\bf K H0 H l lk
section
variable {K:FG9} {H H' H0 H1:Hp} {r b:Addr} {mv pt lk:LR9}
theorem gQ.same (h:gQ K H0 H r mv pt lk) (e:aB H H'):gQ K H0 H' r mv pt lk:=by obtain ⟨m,p,l,g,n1,n2,n3,g1,g2,g3⟩:=h;exact ⟨m,p,l,e _ _ g,n1,n2,n3,g1.same e,g2.same e,g3.same e⟩
theorem gQ.upto (h:gQ K H0 H r mv pt lk) (u:df b H H') (B:iM H b) (nb:H0 b≠none):gQ K H0 H' r mv pt lk:=by
 obtain ⟨m,p,l,g,n1,n2,n3,g1,g2,g3⟩:=h;exact ⟨m,p,l,u.tup B g,n1,n2,n3,g1.upto u B (λz=>nb (by rw[<- z];exact n1)) nb,g2.upto u B (λz=>nb (by rw[<- z];exact n2)) nb,g3.upto u B (λz=>nb (by rw[<- z];exact n3)) nb⟩
theorem gQ.weak (h:gQ K H0 H r mv pt lk) (e:∀q,H0 q=none->H1 q=none):gQ K H1 H r mv pt lk:=by
 obtain ⟨m,p,l,g,n1,n2,n3,⟨x1,y1,z1,w1⟩,⟨x2,y2,z2,w2⟩,⟨x3,y3,z3,w3⟩⟩:=h;exact ⟨m,p,l,g,e _ n1,e _ n2,e _ n3,⟨x1,y1,Paired.imp' (λ_ _ ⟨q,a,b,c⟩=>⟨q,a,e _ b,c⟩) z1,w1⟩,⟨x2,y2,Paired.imp' (λ_ _ ⟨q,a,b,c⟩=>⟨q,a,e _ b,c⟩) z2,w2⟩,⟨x3,y3,Paired.imp' (λ_ _ ⟨q,a,b,c⟩=>⟨q,a,e _ b,c⟩) z3,w3⟩⟩
end
inductive BO (K:FG9) (C:Addr) (vs:List V) (H:Hp) (Q:VK) (E9:XK):Prop
 | mk (r:Addr) (H0:Hp) (mv pt lk:LR9):vs=[.ref r]->gQ K H0 H r mv pt lk->fJ mv pt lk->wq mv pt lk->(∀x H',H x=none->aB H H'->l9 K H H' C x mv pt lk->Q (.ref x) H')->BO K C vs H Q E9
def nextK (mv pt:LR9) (st pu:List Rat) (k:Nat):List Rat:=List.zipWith (λline col=>cB (line++col.take k) (st++pu.take k)) mv (aW pt mv.length)
theorem jU {st pu:List Rat}:(nextK mv pt st pu k).length=mv.length:=by unfold nextK;rw[aY,bZ];lia
theorem vn {st pu:List Rat} (h1:pt.length<=k) (h2:pu.length<=k):nextK mv pt st pu k=iH mv pt st pu:=by
 unfold nextK iH;apply kM;intro i;rw[bY,bY];cases e1:mv[i]? with
 | none=>rfl
 | some line =>
  cases e2:(aW pt mv.length)[i]? with
  | none=>rfl
  | some col =>
   have:=kU col (ak e2);show some _=some _
   rw[aG (by lia),aG h2]
theorem Lh (h:i < w):(aW rows w)[i]?=some (rows.map λxs=>xs.getD i 0):=by
 unfold aW;rw[aA,cu h];rfl
theorem KG {st pu:List Rat}:nextK mv pt st pu 0=mv.map λxs=>cB xs st:=by
 unfold nextK;apply kM;intro i;rw[bY,aA];by_cases hi:i < mv.length
 ·rw[Lh hi,ae hi];simp
 ·rw[aR (by lia)];rfl
theorem CO {st pu:List Rat} (hi:i < mv.length):(nextK mv pt st pu k).getD i 0=cB (mv[i]++(pt.map λxs=>xs.getD i 0).take k) (st++pu.take k):=by
 rw[aa];unfold nextK;rw[bY,ae hi,Lh hi];rfl
theorem pY (h:as.length=xs.length):cB (as++bs) (xs++ys)=cB as xs+cB bs ys:=by
 unfold cB;rw[List.zipWith_append h,List.sum_append]
theorem KH {st pu:List Rat} (hm:∀xs∈mv,xs.length=st.length) (h1:k < pt.length) (h2:k < pu.length) (hw:(pt[k]).length=mv.length) :
  List.zipWith (λx y=>x+y) (nextK mv pt st pu k) ((pt[k]).map λy=>pu[k]*y)=nextK mv pt st pu (k+1):=by
 have l1:((pt[k]).map λy=>pu[k]*y).length=mv.length:=by rw[ag,hw]
 rw[Ej (by rw[l1,jU])];apply kM;intro i;rw[aA,jU];by_cases hi:i < mv.length
 ·have e0:(nextK mv pt st pu (k+1))[i]?=some ((nextK mv pt st pu (k+1)).getD i 0):=by
   rw[aa,ae (by rw[jU];exact hi)];rfl
  rw[cu hi,e0,CO hi];have ll:=hm mv[i] (aI hi);have ec:(pt.map λxs=>xs.getD i 0)[k]?=some ((pt[k]).getD i 0):=by rw[aA,ae h1];rfl
  have ep:pu[k]?=some pu[k]:=ae h2
  have e3:((pt[k]).map λy=>pu[k]*y).getD i 0=pu[k]*(pt[k]).getD i 0:=by
   rw[getD_map (by rw[hw];exact hi),aa,ae (by rw[hw];exact hi)];rfl
  show some ((nextK mv pt st pu k).getD i 0+((pt[k]).map λy=>pu[k]*y).getD i 0)=some _
  rw[CO hi,e3,take_snoc ec,take_snoc ep,pY ll,pY ll,pY (by rw[bI,bI,ag];lia)];have:cB [(pt[k]).getD i 0] [pu[k]]=(pt[k]).getD i 0*pu[k]:=by simp [cB,lU]
  rw[this];congr 1;grind
 ·rw[aR (by simpa using hi),aR (by rw[jU];lia)];rfl
theorem MW {st pu:List Rat}:(iH mv pt st pu).length=mv.length:=by unfold iH;rw[aY,bZ];lia
def mH (k j:Nat) (l:List Rat):Prop:=∃M V:Nat,0 < M/\M<=2^k/\V<=2^j/\∀x∈l,Fr M V x
section
variable {k j k' j':Nat} {l xs ys:List Rat} {x y:Rat}
theorem mH.szn (h:mH k j l) (hx:x∈l) (hk:k+j<=197500:=by decide):kN x:=by
 obtain ⟨M,V,h0,h1,h2,h3⟩:=h;obtain ⟨a,b⟩:=(h3 x hx).sz h0 h1 h2;exact ⟨a.mono (by lia),b.mono (by lia)⟩
theorem mH.rowM (h:mH k j l) (hk:k+j<=210000:=by decide):∃M,K9 M (l.map nm):=by
 obtain ⟨M,V,h0,h1,h2,h3⟩:=h;refine ⟨M,by lia,?_,λn hn=>?_⟩
 ·show ((M:Nat):Int).natAbs < 2^220000
  rw[de];exact br h1 (d6 (by decide) (by lia))
 ·obtain ⟨x,hx,rfl⟩:=aw.mp hn;obtain ⟨a,_⟩:=(h3 x hx).sz h0 h1 h2;exact ⟨iq x,(h3 x hx).den,a.mono (by lia)⟩
theorem mH.one (h:mH k j l) (hx:x∈l):mH k j [x]:=by
 obtain ⟨M,V,h0,h1,h2,h3⟩:=h;exact ⟨M,V,h0,h1,h2,λy hy=>by rw[bV.mp hy];exact h3 x hx⟩
theorem Pn (h:mH k j xs) (h':mH k' j' ys) (hl:xs.length<=1000) (i:Nat) (hk:(k+k')+(j+j')<=196500:=by decide):kN (cB (xs.take i) (ys.take i)):=by
 obtain ⟨M,V,h0,h1,h2,h3⟩:=h;obtain ⟨N,W,k0,k1,k2,k3⟩:=h'
 have e:1000*(V*W)<=2^(10+(j+j')):=by
  rw[aU 2 10];exact aE (by decide) (ah (aE h2 k2) (by rw[<- aU];exact ar _))
 obtain ⟨a,b⟩:=((Fr.dot (λx hx=>h3 x (b7 hx)) (λy hy=>k3 y (b7 hy))).mono (ay _ (show (xs.take i).length<=1000 by rw[bI];lia))).sz (bR h0 k0) (ah (aE h1 k1) (by rw[<- aU];exact ar _)) e;exact ⟨a.mono (by lia),b.mono (by lia)⟩
theorem OP (hx:mH k j [x]) (hy:mH k' j' [y]) (hk:(k+k')+(j+j')<=196500:=by decide):kN (x*y):=by
 obtain ⟨M,V,h0,h1,h2,h3⟩:=hx;obtain ⟨N,W,k0,k1,k2,k3⟩:=hy;obtain ⟨a,b⟩:=((h3 x (.head _)).mul (k3 y (.head _))).sz (bR h0 k0) (ah (aE h1 k1) (by rw[<- aU];exact ar _)) (ah (aE h2 k2) (by rw[<- aU];exact ar _));exact ⟨a.mono (by lia),b.mono (by lia)⟩
def Ad (xs ys:List Rat):Prop:=∃k j k' j':Nat,mH k j xs/\mH k' j' ys/\(k+k')+(j+j')<=196500
theorem Ad.sys (h:mH 400 120 xs) (h':mH 1500 1800 ys):Ad xs ys:=⟨_,_,_,_,h,h',by decide⟩
end
def JY (mv pt lk:LR9):Prop:=∃M V:Nat,0 < M/\M<=2^400/\V<=2^120/\GF M V mv/\GF M V pt/\GF M V lk
section
variable {mv pt lk:LR9}
theorem JY.fits (h:JY mv pt lk) (hl:∀x∈l,(∃xs∈mv,x∈xs)\/(∃xs∈pt,x∈xs)\/(∃xs∈lk,x∈xs)\/x=0):mH 400 120 l:=by
 obtain ⟨M,V,h0,h1,h2,g1,g2,g3⟩:=h;refine ⟨M,V,h0,h1,h2,λx hx=>?_⟩;rcases hl x hx with ⟨xs,a,b⟩ | ⟨xs,a,b⟩ | ⟨xs,a,b⟩ | rfl
 ·exact g1 xs a x b
 ·exact g2 xs a x b
 ·exact g3 xs a x b
 ·exact Fr.zero
theorem JY.sf (h:JY mv pt lk):wq mv pt lk:=by obtain ⟨M,V,a,b,c,d⟩:=h;exact ⟨M,V,a,ah b (au (by decide) (by decide)),ah c (au (by decide) (by decide)),d⟩
end
inductive FP (K:FG9) (vs:List V) (H:Hp) (Q:VK) (E9:XK):Prop
 | mk (p q:Addr) (xs ys:List Rat):vs=[.ref p,.ref q]->cK K H p xs->cK K H q ys->ys.length=xs.length->xs.length<=1000->Ad xs ys->(∀r H',aB H H'->cv K H' (cB xs ys) (.ref r)->Q (.ref r) H')->FP K vs H Q E9
inductive FO (K:FG9) (vs:List V) (H:Hp) (Q:VK) (E9:XK):Prop
 | mk (p q:Addr) (H0:Hp) (rows:LR9) (ys:List Rat):vs=[.ref p,.ref q]->bf K H0 H p rows->cK K H q ys->rows.length<=1000->ys.length<=1000->((∀xs∈rows,xs.length=ys.length/\Ad xs ys))->(∀r H',H r=none->aB H H'->cK K H' r (rows.map λxs=>cB xs ys)->Q (.ref r) H')->FO K vs H Q E9
inductive Ey (K:FG9) (C:Addr) (vs:List V) (H:Hp) (Q:VK) (E9:XK):Prop
 | mk (x p q:Addr) (H0:Hp) (mv pt lk:LR9) (st pu:List Rat):vs=[.ref x,.ref p,.ref q]->l9 K H0 H C x mv pt lk->fJ mv pt lk->JY mv pt lk->cK K H p st->cK K H q pu->st.length=mv.length->pu.length=pt.length->mH 1500 1800 (st++pu)->(∀r H',H r=none->aB H H'->cK K H' r (iH mv pt st pu)->Q (.ref r) H')->Ey K C vs H Q E9
inductive Ip (K:FG9) (C:Addr) (vs:List V) (H:Hp) (Q:VK) (E9:XK):Prop
 | mk (x p:Addr) (H0:Hp) (mv pt lk:LR9) (st:List Rat):vs=[.ref x,.ref p]->l9 K H0 H C x mv pt lk->fJ mv pt lk->JY mv pt lk->cK K H p st->st.length=mv.length->mH 1500 1800 st->(∀r H',H r=none->aB H H'->cK K H' r (L2.seenQ lk st)->Q (.ref r) H')->Ip K C vs H Q E9
def tu (mv pt:LR9) (st:List Rat) (pus:LR9) (k:Nat):List Rat:=(pus.take k).foldl (iH mv pt) st
def jG (mv pt:LR9) (st:List Rat) (pus:LR9):LR9:=(List.range (pus.length+1)).map (tu mv pt st pus)
section
variable {mv pt lk pus:LR9} {st:List Rat} {k:Nat}
theorem tP (h:pus[k]?=some pu):tu mv pt st pus (k+1)=iH mv pt (tu mv pt st pus k) pu:=by
 unfold tu;rw[take_snoc h,List.foldl_append];rfl
theorem qL (h:st.length=mv.length):∀{k:Nat},k<=pus.length->(tu mv pt st pus k).length=mv.length
 | 0,_=>h
 | k+1,hk=>by rw[tP (ae (show k < pus.length by lia)),MW]
theorem rV:(jG mv pt st pus).length=pus.length+1:=by unfold jG;rw[ag,bL]
theorem Py (h:st.length=mv.length):∀xs∈jG mv pt st pus,xs.length=mv.length:=λxs hx=>by
 obtain ⟨k,hk,rfl⟩:=aw.mp hx;exact qL h (by have:=cP.mp hk;lia)
theorem vp (h:k<=pus.length):(jG mv pt st pus)[k]?=some (tu mv pt st pus k):=by
 unfold jG;rw[aA,cu (by lia)];rfl
def Ae (mv pt:LR9) (st:List Rat) (pus:LR9):Prop:=∀k,k<=pus.length->∃N W:Nat,0 < N/\N<=2^1500/\W<=2^1800/\(∀x∈tu mv pt st pus k,Fr N W x)/\∀xs∈pus,∀x∈xs,Fr N W x
theorem Ae.both (h:Ae mv pt st pus) (hk:k<=pus.length) (hp:pu∈pus):mH 1500 1800 (tu mv pt st pus k++pu):=by
 obtain ⟨N,W,a,b,c,d,e⟩:=h k hk;exact ⟨N,W,a,b,c,λx hx=>(av.mp hx).elim (d x) (e pu hp x)⟩
theorem Ae.state (h:Ae mv pt st pus) (hk:k<=pus.length):mH 1500 1800 (tu mv pt st pus k):=by
 obtain ⟨N,W,a,b,c,d,e⟩:=h k hk;exact ⟨N,W,a,b,c,d⟩
theorem Ae.all (h:Ae mv pt st pus):∀xs∈jG mv pt st pus,mH 1500 1800 xs:=λxs hx=>by
 obtain ⟨k,hk,rfl⟩:=aw.mp hx;exact h.state (by have:=cP.mp hk;lia)
theorem FJ (h:GF M W rows):GF M W (aW rows w):=λys hy y hy'=>by
 obtain ⟨j,_,rfl⟩:=aw.mp hy;obtain ⟨xs,hx,rfl⟩:=aw.mp hy';rw[aa];cases e:xs[j]? with
 | none=>exact Fr.zero
 | some z=>exact h xs hx z (ak e)
end
def z6 (K:FG9) (H:Hp) (l:Addr) (H':Hp) (xs:List Rat) (x:V):Prop:=∃q,x=.ref q/\H q=none/\q≠l/\cK K H' q xs
section
variable {K:FG9} {H H' H2:Hp} {l:Addr} {xs:List Rat} {x:V}
theorem z6.same (h:z6 K H l H' xs x) (e:aB H' H2):z6 K H l H2 xs x:=by obtain ⟨q,a,b,c,d⟩:=h;exact ⟨q,a,b,c,d.same e⟩
theorem z6.upd {ys:List V} {o:HO} (h:z6 K H l H' xs x) (hl:H' l=some (.lst ys)):z6 K H l (upd H' l o) xs x:=by obtain ⟨q,a,b,c,d⟩:=h;exact ⟨q,a,b,c,d.updL hl c⟩
theorem z6.rowF (h:z6 K H l H' xs x):cW K H H' xs x:=by obtain ⟨q,a,b,_,d⟩:=h;exact ⟨q,a,b,d⟩
theorem MC (e:aB H H') (n:H l=none):aB H (upd H' l o):=λb u h=>by
 rw[bc (λz=>by rw[z,n] at h;cases h)];exact e b u h
theorem Cq:∀{rows:LR9} {ys:List V},Paired (z6 K H l H') rows ys->V.ref l∉ys
 | _,_,.nil=>by simp
 | _,_,.cons ⟨q,a,_,c,_⟩ r=>by
  intro hm;rcases aH.mp hm with e | hm
  ·rw[a] at e;cases e;exact c rfl
  ·exact Cq r hm
end
inductive BY (K:FG9) (C:Addr) (vs:List V) (H:Hp) (Q:VK) (E9:XK):Prop
 | mk (x s p:Addr) (H0 H1:Hp) (mv pt lk pus:LR9) (st:List Rat):vs=[.ref x,.ref s,.ref p]->l9 K H0 H C x mv pt lk->fJ mv pt lk->JY mv pt lk->cK K H s st->st.length=mv.length->bf K H1 H p pus->pus.length<=100->(∀xs∈pus,xs.length=pt.length)->Ae mv pt st pus->(∀r H',H r=none->aB H H'->bf K H H' r (jG mv pt st pus)->Q (.ref r) H')->BY K C vs H Q E9
inductive EA (K:FG9) (C:Addr) (vs:List V) (H:Hp) (Q:VK) (E9:XK):Prop
 | mk (x s p:Addr) (H0 H1:Hp) (mv pt lk pus:LR9) (st:List Rat):vs=[.ref x,.ref s,.ref p]->l9 K H0 H C x mv pt lk->fJ mv pt lk->JY mv pt lk->cK K H s st->st.length=mv.length->bf K H1 H p pus->pus.length<=100->(∀xs∈pus,xs.length=pt.length)->Ae mv pt st pus->(∀r H',H r=none->aB H H'->bf K H H' r ((jG mv pt st pus).map (L2.seenQ lk))->Q (.ref r) H')->EA K C vs H Q E9
theorem EZ {l:List Rat} (h:∀x∈l,Dr (2^c) x) (hc:c<=20):∃B:Nat,0 < B/\B<=2^(c*l.length+2)/\∀x∈l,Fr B (2^22) x:=by
 obtain ⟨M,h0,h1,h2⟩:=Ry (c:=c) (n:=l.length) (i:=0) (rows:=[]) Uk rfl h hc;refine ⟨M,h0,?_,h2 l (by simp)⟩;rw[Mo,sY] at h1;exact h1
theorem kB {i:Nat}:∀{pus:LR9},(∀xs∈pus,xs.length=i)->pus.flatten.length=pus.length*i
 | [],_=>by simp
 | x :: r,h=>by
  rw[c8,ai,h x (.head _),kB (λxs hx=>h xs (.tail _ hx)),aZ,dU]
  lia
theorem U6 {i:Int} (h:i=0\/i=1):Fr 1 1 (i:Rat):=Fr.int (by rcases h with rfl | rfl <;> decide)
theorem vI {α β:Type} {F:α->β->Prop}:∀{l1:List α} {l2:List β} (_:Paired F l1 l2) (k:Nat),Paired F (l1.drop k) (l2.drop k)
 | _,_,h,0=>h
 | _,_,.nil,_+1=>.nil
 | _,_,.cons _ r,k+1=>vI r k
theorem RM {t n:Nat} (h:t+n<=xs.length):tD xs (some (t:Int)) (some ((t:Int)+(n:Int)))=(xs.drop t).take n:=by
 unfold tD;rw[show ((t:Int)+(n:Int))=((t+n:Nat):Int) by lia,HT.Bo,HT.Bo,mW (show t<=xs.length by lia),mW h,VU]
end L2
namespace L2
abbrev jX:=Nat->Rat
def DG (F:List jX->Rat) (r:Nat):List jX->List jX->Rat->Rat
 | _,[],_=>0
 | pre,v :: post,s=>s*v r*F (pre++post)+DG F r (pre++[v]) post (-s)
def tH:List Nat->List jX->Rat
 | [],[]=>1
 | [],_ :: _=>0
 | r :: rs,vs=>DG (λws=>tH rs ws) r [] vs 1
theorem Hu:tH [] (a++x :: b)=0:=by
 cases a <;> rfl
theorem GR {F:List jX->Rat} {r:Nat} {f g h:jX} {x y:Rat} (hF:∀a b,F (a++h :: b)=x*F (a++f :: b)+y*F (a++g :: b)):∀(b p q:List jX) (s:Rat),DG F r (p++h :: q) b s=x*DG F r (p++f :: q) b s+y*DG F r (p++g :: q) b s
 | [],p,q,s=>by simp only[DG,iN,lU]
 | v :: b,p,q,s=>by
  have i1:=hF p (q++b);have i2:=GR (r:=r) hF b p (q++[v]) (-s);simp only[DG,cm,fB] at i1 i2 ⊢;rw[i1,i2];grind
theorem LG {F:List jX->Rat} {r:Nat} {f g h:jX} {x y:Rat} (hF:∀a b,F (a++h :: b)=x*F (a++f :: b)+y*F (a++g :: b)) (hr:h r=x*f r+y*g r):∀(a pre b:List jX) (s:Rat),DG F r pre (a++h :: b) s=x*DG F r pre (a++f :: b) s+y*DG F r pre (a++g :: b) s
 | [],pre,b,s=>by
  have i2:=GR (r:=r) hF b pre [] (-s);simp only[DG,dr] at i2 ⊢;rw[i2,hr];grind
 | v :: a,pre,b,s=>by
  have i1:=hF (pre++a) b;have i2:=LG hF hr a (pre++[v]) b (-s);simp only[DG,cm,fB] at i1 i2 ⊢;rw[i1,i2];grind
theorem xm {f g h:jX} {x y:Rat}:∀{rs:List Nat},(∀r∈rs,h r=x*f r+y*g r)->∀a b,tH rs (a++h :: b)=x*tH rs (a++f :: b)+y*tH rs (a++g :: b)
 | [],_,a,b=>by rw[Hu,Hu,Hu];grind
 | r :: rs,hr,a,b=>LG (λa b=>xm (λr' h'=>hr r' (.tail _ h')) a b) (hr r (.head _)) a [] b 1
theorem Ht (hr:∀r∈rs,h r=0) (a b:List jX):tH rs (a++h :: b)=0:=by
 rw[xm (f:=h) (g:=h) (x:=0) (y:=0) (λr h'=>by rw[hr r h'];grind) a b];grind
theorem LH {F:List jX->Rat} {r:Nat} {x:jX} (hF:∀a b,F (a++x :: x :: b)=0):∀(b p q:List jX) (s:Rat),DG F r (p++x :: x :: q) b s=0
 | [],p,q,s=>rfl
 | v :: b,p,q,s=>by
  have i1:=hF p (q++b);have i2:=LH (r:=r) hF b p (q++[v]) (-s);simp only[DG,cm,fB] at i1 i2 ⊢;rw[i1,i2];grind
theorem LI {F:List jX->Rat} {r:Nat} {x:jX} (hF:∀a b,F (a++x :: x :: b)=0):∀(a pre b:List jX) (s:Rat),DG F r pre (a++x :: x :: b) s=0
 | [],pre,b,s=>by
  have i2:=LH (r:=r) hF b pre [] (- -s);simp only[DG,dr,cm,fB] at i2 ⊢;rw[i2];grind
 | v :: a,pre,b,s=>by
  have i1:=hF (pre++a) b;have i2:=LI (r:=r) hF a (pre++[v]) b (-s);simp only[DG,cm,fB] at i1 i2 ⊢;rw[i1,i2];grind
theorem C7 {x:jX}:∀{rs:List Nat} (a b:List jX),tH rs (a++x :: x :: b)=0
 | [],a,b=>Hu
 | r :: rs,a,b=>LI (λa b=>C7 a b) a [] b 1
theorem RI (a b:List jX):tH rs (a++x :: y :: b)=- tH rs (a++y :: x :: b):=by
 have hr:∀r∈rs,(λr=>1*x r+1*y r) r=1*x r+1*y r:=λ_ _=>rfl
 have h0:=C7 (x:=λr=>1*x r+1*y r) (rs:=rs) a b;have h1:=xm hr a ((λr=>1*x r+1*y r) :: b);have h2:=xm hr (a++[x]) b;have h3:=xm hr (a++[y]) b;have h4:=C7 (x:=x) (rs:=rs) a b;have h5:=C7 (x:=y) (rs:=rs) a b;simp only[cm,fB,dr] at h0 h1 h2 h3 h4 h5;rw[h1,h2,h3,h4,h5] at h0;grind
theorem Hv {x:jX} {rs:List Nat}:∀(b a c:List jX),tH rs (a++x :: (b++x :: c))=0
 | [],a,c=>C7 a c
 | y :: b,a,c=>by
  have:=Hv (x:=x) (rs:=rs) b (a++[y]) c;simp only[cm,fB,dr] at this;rw[fB,RI,this];rfl
def bx:Nat->(Nat->Rat)->Rat
 | 0,_=>0
 | k+1,f=>bx k f+f k
theorem aO {f g:Nat->Rat}:∀{k:Nat},(∀j,j < k->f j=g j)->bx k f=bx k g
 | 0,_=>rfl
 | k+1,h=>by
  show bx k f+f k=bx k g+g k
  rw[aO λj hj=>h j (by lia),h k (by lia)]
theorem m7 {f g:Nat->Rat}:∀{k:Nat},bx k (λj=>f j+g j)=bx k f+bx k g
 | 0=>by show (0:Rat)=0+0;grind
 | k+1=>by
  show bx k (λj=>f j+g j)+_=(bx k f+f k)+(bx k g+g k)
  rw[m7];grind
theorem cU {f:Nat->Rat} {c:Rat}:∀{k:Nat},bx k (λj=>c*f j)=c*bx k f
 | 0=>by show (0:Rat)=c*0;grind
 | k+1=>by
  show bx k (λj=>c*f j)+_=c*(bx k f+f k)
  rw[cU];grind
theorem dd {f:Nat->Rat}:∀{k:Nat},(∀j,j < k->f j=0)->bx k f=0
 | 0,_=>rfl
 | k+1,h=>by
  show bx k f+f k=0
  rw[dd λj hj=>h j (by lia),h k (by lia)];grind
theorem iB {f:Nat->Rat} {i:Nat}:∀{k:Nat},i < k->(∀j,j < k->j≠i->f j=0)->bx k f=f i
 | k+1,hi,h=>by
  show bx k f+f k=f i
  by_cases e:i=k
  ·subst e;rw[dd λj hj=>h j (by lia) (by lia)];grind
  ·rw[iB (by lia) λj hj=>h j (by lia),h k (by lia) (λz=>e z.symm)];grind
theorem fX {f:Nat->Nat->Rat} {m:Nat}:∀{k:Nat},bx k (λi=>bx m (f i))=bx m (λj=>bx k λi=>f i j)
 | 0=>(dd λ_ _=>rfl).symm
 | k+1=>by
  show bx k (λi=>bx m (f i))+bx m (f k)=bx m (λj=>bx k (λi=>f i j)+f k j)
  rw[fX,m7]
theorem KZ {rs:List Nat} {W:jX} {v:Nat->jX} {c:Nat->Rat} (a b:List jX):∀{k:Nat} {W:jX},(∀r∈rs,W r=bx k λj=>c j*v j r)->tH rs (a++W :: b)=bx k λj=>c j*tH rs (a++v j :: b)
 | 0,W,h=>Ht h a b
 | k+1,W,h=>by
  rw[xm (f:=λr=>bx k λj=>c j*v j r) (g:=v k) (x:=1) (y:=c k) (λr hr=>by rw[h r hr];show bx k _+_=_;grind) a b,KZ a b (k:=k) (W:=λr=>bx k λj=>c j*v j r) λr _=>rfl];show _=bx k _+_
  grind
end L2
namespace L2
open Nm
def zJ (f:Nat->Nat):Nat->List Nat
 | 0=>[]
 | k+1=>f k :: zJ f k
def rT (v:Nat->jX):Nat->List jX
 | 0=>[]
 | k+1=>v k :: rT v k
def Nz (v:Nat->jX) (i:Nat):Nat->List jX
 | 0=>[]
 | k+1=>if k<=i then [] else v k :: Nz v i k
theorem uz {f:Nat->Nat}:∀{k:Nat},(zJ f k).length=k
 | 0=>rfl
 | k+1=>by show (zJ f k).length+1=_;rw[uz]
theorem cw_len {v:Nat->jX}:∀{k:Nat},(rT v k).length=k
 | 0=>rfl
 | k+1=>by show (rT v k).length+1=_;rw[cw_len]
theorem o5 {f:Nat->Nat} {r:Nat}:∀{k:Nat},r∈zJ f k->∃t,t < k/\r=f t
 | k+1,h=>by
  rcases aH.mp h with h | h
  ·exact ⟨k,by lia,h⟩
  ·obtain ⟨t,a,b⟩:=o5 h;exact ⟨t,by lia,b⟩
theorem Cr {f g:Nat->Nat}:∀{k:Nat},(∀j,j < k->f j=g j)->zJ f k=zJ g k
 | 0,_=>rfl
 | k+1,h=>by
  show f k :: zJ f k=g k :: zJ g k
  rw[h k (by lia),Cr λj hj=>h j (by lia)]
theorem cw_congr {f g:Nat->jX}:∀{k:Nat},(∀j,j < k->f j=g j)->rT f k=rT g k
 | 0,_=>rfl
 | k+1,h=>by
  show f k :: rT f k=g k :: rT g k
  rw[h k (by lia),cw_congr λj hj=>h j (by lia)]
theorem cw_mem {v:Nat->jX} {j:Nat}:∀{k:Nat},j < k->v j∈rT v k
 | k+1,h=>by
  by_cases e:j=k
  ·subst e;exact .head _
  ·exact .tail _ (cw_mem (by lia))
theorem cw_in {v:Nat->jX} {x:jX}:∀{k:Nat},x∈rT v k->∃t,t < k/\x=v t
 | k+1,h=>by
  rcases aH.mp h with h | h
  ·exact ⟨k,by lia,h⟩
  ·obtain ⟨t,a,b⟩:=cw_in h;exact ⟨t,by lia,b⟩
theorem Pt {v:Nat->jX} {i j:Nat} (h1:i < j):∀{k:Nat},j < k->v j∈Nz v i k
 | k+1,h=>by
  show v j∈if k<=i then [] else v k :: Nz v i k
  rw[if_neg (by lia)];by_cases e:j=k
  ·subst e;exact .head _
  ·exact .tail _ (Pt h1 (by lia))
theorem Jv {v:Nat->jX} {i:Nat} {x:jX}:∀{k:Nat},x∈Nz v i k->∃t,t < k/\x=v t
 | k+1,h=>by
  have h:x∈if k<=i then [] else v k :: Nz v i k:=h
  split at h
  ·cases h
  ·rcases aH.mp h with h | h
   ·exact ⟨k,by lia,h⟩
   ·obtain ⟨t,a,b⟩:=Jv h;exact ⟨t,by lia,b⟩
theorem cw_split {v:Nat->jX} {i:Nat}:∀{k:Nat},i < k->rT v k=Nz v i k++v i :: rT v i
 | k+1,h=>by
  show v k :: rT v k=(if k<=i then [] else v k :: Nz v i k)++_
  by_cases e:i=k
  ·subst e;rw[if_pos (ar _)];rfl
  ·rw[if_neg (by lia),cw_split (k:=k) (i:=i) (by lia)];rfl
theorem EY {c:Nat->Rat} (hi:i < k) (hW:∀r∈rs,W r=bx k λj=>c j*v j r):tH rs (Nz v i k++W :: rT v i)=c i*tH rs (rT v k):=by
 rw[KZ (v:=v) (c:=c) (W:=W) _ _ hW,iB hi λj hj ne=>?_,cw_split hi];rcases b8 j i with h | h
 ·obtain ⟨s,t,e⟩:=J6 (cw_mem (v:=v) h);rw[e,Hv];grind
 ·obtain ⟨s,t,e⟩:=J6 (Pt (v:=v) (show i < j by lia) hj);have:=Hv (x:=v j) (rs:=rs) t s (rT v i);rw[e,cm,fB,this];grind
theorem Ut {c:Nat->Rat} (hW:∀r∈rs,W r=bx k λj=>c j*v j r):tH rs (W :: rT v k)=0:=by
 have:=KZ (v:=v) (c:=c) (W:=W) [] (rT v k) hW;rw[dr] at this;rw[this];refine dd λj hj=>?_
 obtain ⟨s,t,e⟩:=J6 (cw_mem (v:=v) hj);have:=Hv (x:=v j) (rs:=rs) s [] t;rw[dr] at this;rw[e,dr,this];grind
theorem M9 {c:Nat->Rat} (hi:i∉rs) (h1:W i=bx k (λj=>c j*v j i)+s) (hW:∀r∈rs,W r=bx k λj=>c j*v j r):tH (i :: rs) (W :: rT v k)=s*tH rs (rT v k):=by
 have e:=xm (rs:=i :: rs) (h:=W) (f:=λr=>bx k λj=>c j*v j r) (g:=λr=>if r=i then 1 else 0) (x:=1) (y:=s) (λr hr=>by
  rcases aH.mp hr with rfl | hr
  ·rw[h1,if_pos rfl];grind
  ·rw[hW r hr,if_neg (λz=>hi (by rw[<- z];exact hr))];grind) [] (rT v k)
 rw[dr,dr,dr,Ut (c:=c) λr _=>rfl] at e
 have e2:tH (i :: rs) ((λr=>if r=i then (1:Rat) else 0) :: rT v k)=tH rs (rT v k):=by
  show 1*(if i=i then (1:Rat) else 0)*tH rs ([]++rT v k)+DG (λws=>tH rs ws) i ([]++[λr=>if r=i then (1:Rat) else 0]) (rT v k) (-1)=_
  have hF:∀a b,(λws=>tH rs ws) (a++(λr=>if r=i then (1:Rat) else 0) :: b)=0*(λws=>tH rs ws) (a++(λr=>if r=i then (1:Rat) else 0) :: b)+0*(λws=>tH rs ws) (a++(λr=>if r=i then (1:Rat) else 0) :: b):=λa b=>by
   have:=Ht (h:=λr=>if r=i then (1:Rat) else 0) (rs:=rs) (λr hr=>if_neg λz=>hi (by rw[<- z];exact hr)) a b
   dsimp only
   rw[this];grind
  have:=GR (r:=i) hF (rT v k) [] [] (-1);rw[this,if_pos rfl,dr];grind
 rw[e2] at e;rw[e];grind
theorem Ss {F:List jX->Rat} {r B W:Nat}:∀{post pre:List jX} {s:Rat},(∀ws,(∀w∈ws,w∈pre++post)->ws.length+1=(pre++post).length->Fr 1 B (F ws))->(∀w∈post,Fr 1 W (w r))->Fr 1 1 s->Fr 1 (post.length*(W*B)) (DG F r pre post s)
 | [],pre,s,_,_,_=>by show Fr 1 _ 0;exact Fr.zero
 | v :: post,pre,s,hF,hw,hs=>by
  have t1:Fr 1 (W*B) (s*v r*F (pre++post)):=by
   have:=(hs.mul (hw v (.head _))).mul (hF (pre++post) (λw h=>by
    rcases av.mp h with h | h
    ·exact sZ _ h
    ·exact cb _ (.tail _ h)) (by simp only[ai,aZ];lia))
   simpa using this
  have t2:=Ss (F:=F) (r:=r) (B:=B) (W:=W) (post:=post) (pre:=pre++[v]) (s:=-s) (λws h h'=>hF ws (λw hw=>by simpa using h w hw) (by simpa using h')) (λw h=>hw w (.tail _ h)) (by simpa using hs.neg);exact (t1.add t2).mono (by rw[aZ,dU];lia)
theorem C6 {W N:Nat}:∀{rs:List Nat} {vs:List jX},vs.length<=N->(∀v∈vs,∀r∈rs,Fr 1 W (v r))->Fr 1 ((N*W)^rs.length) (tH rs vs)
 | [],[],_,_=>by show Fr 1 1 1;exact (Fr.int (i:=1) (by decide))
 | [],_ :: _,_,_=>by show Fr 1 _ 0;exact Fr.zero
 | r :: rs,vs,hl,h=>by
  have:=Ss (F:=λws=>tH rs ws) (r:=r) (B:=(N*W)^rs.length) (W:=W) (post:=vs) (pre:=[]) (s:=1) (λws h1 h2=>C6 (by rw[dr] at h2;lia) λv hv r' hr'=>h v (by simpa using h1 v hv) r' (.tail _ hr')) (λw hw=>h w hw r (.head _)) (Fr.int (i:=1) (by decide));refine this.mono ?_;rw[aZ,gW,cy ((N*W)^rs.length),cM N];exact ay _ hl
structure yX (a:Nat->Nat->Rat) (m k:Nat) (pm p:Nat->Nat) (l:Nat->Nat->Rat) (d:Rat):Prop where
 inj:∀i j,i < m->j < m->pm i=pm j->i=j
 rng:∀i,i < m->pm i < m
 km:k<=m
 d0:d≠0
 det:d=tH (zJ pm k) (rT (λj r=>a r (p j)) k)
 eqs:∀i,i < m->∀c,d*a (pm i) c=bx k (λj=>a (pm i) (p j)*l j c)+if i < k then 0 else l i c
 unit:∀i,i < m->∀j,j < k->l i (p j)=if i=j then d else 0
section
variable {a l:Nat->Nat->Rat} {m k:Nat} {pm p:Nat->Nat} {d:Rat}
theorem yX.start (h:∀i,i < m->pm i=i):yX a m 0 pm p a 1 where
 inj i j hi hj e:=by rw[h i hi,h j hj] at e;exact e
 rng i hi:=by rw[h i hi];exact hi
 km:=a7 _
 d0:=by decide
 det:=rfl
 eqs i hi c:=by
  rw[h i hi,if_neg (by lia)];show 1*a i c=0+a i c
  grind
 unit i _ j hj:=absurd hj (by lia)
theorem yX.coef (B:yX a m k pm p l d) (hi:i < m):a (pm i) c=bx k (λj=>(l j c / d)*a (pm i) (p j))+if i < k then 0 else l i c / d:=by
 have h:=B.eqs i hi c;have d0:=B.d0
 have e:bx k (λj=>(l j c / d)*a (pm i) (p j))=(1 / d)*bx k (λj=>a (pm i) (p j)*l j c):=by
  rw[<- cU];exact aO λj _=>by grind
 rw[e]
 split at h
 ·rw[if_pos (by assumption)];grind
 ·rw[if_neg (by assumption)];grind
theorem yX.old (B:yX a m k pm p l d) (hi:i < k):l i c=tH (zJ pm k) (Nz (λj r=>a r (p j)) i k++(λr=>a r c) :: rT (λj r=>a r (p j)) i):=by
 have km:=B.km;have d0:=B.d0;rw[EY (v:=λj r=>a r (p j)) (c:=λj=>l j c / d) hi λr hr=>?_,<- B.det]
 ·grind
 ·obtain ⟨t,ht,rfl⟩:=o5 hr;have:=B.coef (i:=t) (c:=c) (by lia);rw[if_pos ht] at this;rw[this];grind
theorem yX.new (B:yX a m k pm p l d) (h1:k<=i) (hi:i < m):l i c=tH (pm i :: zJ pm k) ((λr=>a r c) :: rT (λj r=>a r (p j)) k):=by
 have km:=B.km;have d0:=B.d0
 have hn:pm i∉zJ pm k:=λhm=>by
  obtain ⟨t,ht,e⟩:=o5 hm;have:=B.inj i t hi (by lia) e
  lia
 have e1:a (pm i) c=bx k (λj=>(l j c / d)*a (pm i) (p j))+l i c / d:=by
  have:=B.coef (i:=i) (c:=c) hi;rwa [if_neg (by lia)] at this
 have e2:∀r∈zJ pm k,a r c=bx k (λj=>(l j c / d)*a r (p j)):=λr hr=>by
  obtain ⟨t,ht,rfl⟩:=o5 hr;have:=B.coef (i:=t) (c:=c) (by lia);rw[if_pos ht] at this;rw[this];grind
 rw[M9 (v:=λj r=>a r (p j)) (c:=λj=>l j c / d) (W:=λr=>a r c) (s:=l i c / d) hn e1 e2,<- B.det];grind
theorem yX.fr (B:yX a m k pm p l d) (hN:k < N) (hW:1<=W) (ha:∀i,i < m->∀c,Fr 1 W (a i c)) (hi:i < m):Fr 1 ((N*W)^(k+1)) (l i c):=by
 have km:=B.km;have mono:∀t,t<=k+1->(N*W)^t<=(N*W)^(k+1):=λt ht=>au (bR (by lia) hW) ht
 have ha':∀r∈zJ pm k,∀c,Fr 1 W (a r c):=λr hr c=>by
  obtain ⟨t,ht,rfl⟩:=o5 hr;exact ha _ (B.rng t (by lia)) c
 by_cases h:i < k
 ·rw[B.old h];refine (C6 (W:=W) (N:=N) ?_ ?_).mono (mono _ (by rw[uz];lia))
  ·have:=congrArg List.length (cw_split (v:=λj r=>a r (p j)) h);rw[ai,aZ,cw_len] at this;rw[ai,aZ]
   lia
  ·intro v hv r hr;rcases av.mp hv with hv | hv
   ·obtain ⟨t,_,rfl⟩:=Jv hv;exact ha' r hr _
   ·rcases aH.mp hv with rfl | hv
    ·exact ha' r hr _
    ·obtain ⟨t,_,rfl⟩:=cw_in hv;exact ha' r hr _
 ·rw[B.new (by lia) hi];refine (C6 (W:=W) (N:=N) ?_ ?_).mono (mono _ (by rw[aZ,uz];lia))
  ·rw[aZ,cw_len]
   lia
  ·intro v hv r hr
   have hr':∀c,Fr 1 W (a r c):=λc=>by
    rcases aH.mp hr with rfl | hr
    ·exact ha _ (B.rng i hi) c
    ·exact ha' r hr c
   rcases aH.mp hv with rfl | hv
   ·exact hr' _
   ·obtain ⟨t,_,rfl⟩:=cw_in hv;exact hr' _
theorem yX.dfr (B:yX a m k pm p l d) (hN:k<=N) (ha:∀i,i < m->∀c,Fr 1 W (a i c)):Fr 1 ((N*W)^k) d:=by
 have km:=B.km;rw[B.det]
 have:=C6 (W:=W) (N:=N) (rs:=zJ pm k) (vs:=rT (λj r=>a r (p j)) k) (by rw[cw_len];exact hN) λv hv r hr=>by
  obtain ⟨t,ht,rfl⟩:=o5 hr;obtain ⟨t',_,rfl⟩:=cw_in hv;exact ha _ (B.rng t (by lia)) _
 rwa [uz] at this
def kQ (k t i:Nat):Nat:=if i=k then t else if i=t then k else i
theorem vE (hk:k < m) (ht:t < m) (hi:i < m):kQ k t i < m:=by
 unfold kQ
 split
 ·exact ht
 ·split
  ·exact hk
  ·exact hi
theorem S6 (h:kQ k t i=kQ k t j):i=j:=by
 unfold kQ at h
 split at h <;> split at h <;> (try split at h) <;> (try split at h) <;> lia
theorem wI (h:k<=t) (hi:i < k):kQ k t i=i:=by
 unfold kQ;rw[if_neg (by lia),if_neg (by lia)]
theorem xx (h:k<=t) (hi:k<=i):k<=kQ k t i:=by
 unfold kQ
 split
 ·exact h
 ·split <;> lia
theorem yX.swap (B:yX a m k pm p l d) {t:Nat} (h:k<=t) (ht:t < m):yX a m k (λi=>pm (kQ k t i)) p (λi=>l (kQ k t i)) d where
 inj i j hi hj e:=S6 (B.inj _ _ (vE (by lia) ht hi) (vE (by lia) ht hj) e)
 rng i hi:=B.rng _ (vE (by lia) ht hi)
 km:=B.km
 d0:=B.d0
 det:=by rw[B.det,Cr (f:=pm) (g:=λi=>pm (kQ k t i)) λj hj=>by rw[wI h hj]]
 eqs i hi c:=by
  have e:=B.eqs (kQ k t i) (vE (by lia) ht hi) c;have e1:bx k (λj=>a (pm (kQ k t i)) (p j)*l (kQ k t j) c)=bx k (λj=>a (pm (kQ k t i)) (p j)*l j c):=aO λj hj=>by rw[wI h hj]
  rw[e1];by_cases hk:i < k
  ·rw[wI h hk] at e ⊢;exact e
  ·rw[if_neg hk];rw[if_neg (by have:=xx h (show k<=i by lia);lia)] at e;exact e
 unit i hi j hj:=by
  rw[B.unit _ (vE (by lia) ht hi) j hj];by_cases hk:i < k
  ·rw[wI h hk]
  ·have:=xx h (show k<=i by lia);rw[if_neg (by lia),if_neg (by lia)]
theorem yX.step (B:yX a m k pm p l d) {c0:Nat} (hk:k < m) (h0:l k c0≠0):yX a m (k+1) pm (λj=>if j=k then c0 else p j) (λi c=>if i=k then l k c else (l k c0*l i c - l i c0*l k c) / d) (l k c0) where
 inj:=B.inj
 rng:=B.rng
 km:=hk
 d0:=h0
 det:=by
  rw[B.new (ar _) hk];show _=tH (pm k :: zJ pm k) ((λr=>a r (if k=k then c0 else p k)) :: rT _ k)
  rw[if_pos rfl];congr 2;exact cw_congr λj hj=>by rw[if_neg (show j≠k by lia)]
 eqs i hi c:=by
  have d0:=B.d0;have e1:=B.eqs i hi c;have e2:=B.eqs i hi c0;show l k c0*a (pm i) c=(bx k _+_)+_
  have s1:bx k (λj=>a (pm i) (if j=k then c0 else p j)*(if j=k then l k c else (l k c0*l j c - l j c0*l k c) / d))=(l k c0 / d)*bx k (λj=>a (pm i) (p j)*l j c)+(- l k c / d)*bx k (λj=>a (pm i) (p j)*l j c0):=by
   rw[<- cU,<- cU,<- m7];refine aO λj hj=>?_
   rw[if_neg (show j≠k by lia),if_neg (show j≠k by lia)];grind
  rw[s1];simp only[if_true];generalize bx k (λj=>a (pm i) (p j)*l j c)=S1 at e1 ⊢;generalize bx k (λj=>a (pm i) (p j)*l j c0)=S2 at e2 ⊢;rcases eQ i k with h | h | h
  ·rw[if_pos h] at e1 e2;rw[if_pos (by lia)];grind
  ·subst h;rw[if_neg (by lia)] at e1 e2;rw[if_pos (by lia)];grind
  ·rw[if_neg (by lia)] at e1 e2;rw[if_neg (by lia),if_neg (by lia)];grind
 unit i hi j hj:=by
  have d0:=B.d0;by_cases e:j=k
  ·subst e;simp only[if_true];by_cases ei:i=j
   ·rw[if_pos ei,if_pos ei]
   ·rw[if_neg ei,if_neg ei];grind
  ·have hj':j < k:=by lia
   rw[if_neg e];by_cases ei:i=k
   ·rw[if_pos ei,B.unit k hk j hj',if_neg (by lia),if_neg (by lia)]
   ·rw[if_neg ei,B.unit i hi j hj',B.unit k hk j hj',if_neg (show k≠j by lia)]
    split
    ·grind
    ·grind
end
def fP (m:Nat) (a:Nat->Nat->Rat) (x:Nat->Rat):Prop:=∃w:Nat->Rat,∀c,x c=bx m λt=>w t*a t c
section
variable {m m' k n:Nat} {a b:Nat->Nat->Rat} {x y:Nat->Rat}
theorem fP.row (hi:i < m):fP m a (a i):=⟨λt=>if t=i then 1 else 0,λc=>by
 rw[iB hi λj _ ne=>by dsimp only;rw[if_neg ne];grind]
 dsimp only
 rw[if_pos rfl];grind⟩
theorem fP.lin (α β:Rat) (hx:fP m a x) (hy:fP m a y):fP m a λc=>α*x c+β*y c:=by
 obtain ⟨w,hw⟩:=hx;obtain ⟨v,hv⟩:=hy;refine ⟨λt=>α*w t+β*v t,λc=>?_⟩
 dsimp only
 rw[hw c,hv c,<- cU,<- cU,<- m7];exact aO λj _=>by grind
theorem fP.congr (h:∀c,x c=y c) (hx:fP m a x):fP m a y:=by obtain ⟨w,hw⟩:=hx;exact ⟨w,λc=>by rw[<- h c];exact hw c⟩
theorem fP.trans (h:∀t,t < m'->fP m a (b t)) (hx:fP m' b x):fP m a x:=by
 obtain ⟨v,hv⟩:=hx
 have h2:∀t,∃w:Nat->Rat,t < m'->∀c,b t c=bx m λs=>w s*a s c:=λt=>by
  by_cases ht:t < m'
  ·obtain ⟨w,hw⟩:=h t ht;exact ⟨w,λ_=>hw⟩
  ·exact ⟨λ_=>0,λz=>absurd z ht⟩
 have hc:=Classical.axiomOfChoice h2;obtain ⟨w,hw⟩:=hc;refine ⟨λs=>bx m' λt=>v t*w t s,λc=>?_⟩;rw[hv c];have e1:bx m' (λt=>v t*b t c)=bx m' (λt=>bx m λs=>v t*(w t s*a s c)):=aO λt ht=>by rw[hw t ht c,<- cU]
 rw[e1,fX];refine aO λs _=>?_
 have:bx m' (λt=>v t*w t s)*a s c=a s c*bx m' (λt=>v t*w t s):=dM ..;rw[this,<- cU];exact aO λt _=>by grind
theorem fP.zero (h:∀c,x c=0):fP m a x:=⟨λ_=>0,λc=>by rw[h c,dd λ_ _=>by grind]⟩
end
structure Fz (m n:Nat) (a:Nat->Nat->Rat) (k:Nat) (p:Nat->Nat) (R:Nat->Nat->Rat):Prop where
 inc:∀i j,i < j->j < k->p i < p j
 low:∀j,j < k->p j < n
 unit:∀i,i < k->∀j,j < k->R i (p j)=if i=j then 1 else 0
 lead:∀i,i < k->∀c,c < p i->R i c=0
 span:∀i,i < m->fP k R (a i)
 back:∀i,i < k->fP m a (R i)
section
variable {m m' k k' n:Nat} {a a' R R':Nat->Nat->Rat} {p p':Nat->Nat} {x:Nat->Rat}
theorem Fz.coef (h:Fz m n a k p R) (hx:fP k R x) (c:Nat):x c=bx k λj=>x (p j)*R j c:=by
 obtain ⟨w,hw⟩:=hx;rw[hw c];refine aO λj hj=>?_
 rw[hw (p j),iB hj λt ht ne=>by rw[h.unit t ht j hj,if_neg ne];grind,h.unit j hj j hj,if_pos rfl];grind
theorem Fz.lead_in (h:Fz m n a k p R) (hx:fP k R x) (h1:x c≠0) (h0:∀c',c' < c->x c'=0):∃j,j < k/\p j=c:=by
 refine Classical.byContradiction λhn=>h1 ?_
 rw[h.coef hx c];refine dd λj hj=>?_
 rcases eQ (p j) c with z | z | z
 ·rw[h0 _ z];grind
 ·exact absurd ⟨j,hj,z⟩ hn
 ·rw[h.lead j hj c z];grind
theorem inc_le (h1:∀i j,i < j->j < k->p i < p j) (h2:∀i j,i < j->j < k'->p' i < p' j) (hs:∀j,j < k'->∃i,i < k/\p i=p' j):∀{j:Nat},j < k'->∀{i:Nat},i < k->p i=p' j->j<=i
 | 0,_,_,_,_=>a7 _
 | j+1,hj,i,hi,e=>by
  obtain ⟨i0,hi0,e0⟩:=hs j (by lia);have:=inc_le h1 h2 hs (j:=j) (by lia) hi0 e0;have lt:=h2 j (j+1) (by lia) hj;rcases eQ i0 i with z | z | z
  ·lia
  ·subst z;lia
  ·have:=h1 i i0 z hi0;lia
theorem O4 (h1:∀i j,i < j->j < k->p i < p j) (h:i<=j) (hj:j < k):p i<=p j:=by
 rcases b8 i j with z | z
 ·exact dh (h1 i j z hj)
 ·have:i=j:=by lia
  rw[this];exact ar _
theorem LM (h1:∀i j,i < j->j < k->p i < p j) (h2:∀i j,i < j->j < k'->p' i < p' j) (hs:∀j,j < k'->∃i,i < k/\p i=p' j):k'<=k/\∀j,j < k'->p j<=p' j:=by
 refine ⟨?_,λj hj=>?_⟩
 ·rcases jI k' with z | z
  ·lia
  ·obtain ⟨i,hi,e⟩:=hs (k' - 1) (by lia);have:=inc_le h1 h2 hs (j:=k' - 1) (by lia) hi e
   lia
 ·obtain ⟨i,hi,e⟩:=hs j hj;rw[<- e];exact O4 h1 (inc_le h1 h2 hs hj hi e) hi
theorem Fz.uniq (h:Fz m n a k p R) (h':Fz m' n a' k' p' R') (s1:∀i,i < m->fP m' a' (a i)) (s2:∀i,i < m'->fP m a (a' i)):k=k'/\(∀j,j < k->p j=p' j)/\∀i,i < k->∀c,R i c=R' i c:=by
 have x1:∀i,i < k->fP k' R' (R i):=λi hi=>fP.trans (λt ht=>h'.span t ht) (fP.trans s1 (h.back i hi))
 have x2:∀i,i < k'->fP k R (R' i):=λi hi=>fP.trans (λt ht=>h.span t ht) (fP.trans s2 (h'.back i hi))
 have y1:∀j,j < k->∃i,i < k'/\p' i=p j:=λj hj=>h'.lead_in (x1 j hj) (by rw[h.unit j hj j hj,if_pos rfl];decide) (h.lead j hj)
 have y2:∀j,j < k'->∃i,i < k/\p i=p' j:=λj hj=>h.lead_in (x2 j hj) (by rw[h'.unit j hj j hj,if_pos rfl];decide) (h'.lead j hj)
 obtain ⟨z1,w1⟩:=LM h'.inc h.inc y1;obtain ⟨z2,w2⟩:=LM h.inc h'.inc y2;have ek:k=k':=P6 z1 z2;subst ek;have ep:∀j,j < k->p j=p' j:=λj hj=>P6 (w2 j hj) (w1 j hj)
 refine ⟨rfl,ep,λi hi c=>?_⟩;rw[h.coef (x2 i hi) c,iB hi λj hj ne=>by rw[ep j hj,h'.unit i hi j hj,if_neg (λz=>ne z.symm)];grind,ep i hi,h'.unit i hi i hi,if_pos rfl];grind
end
structure lM (a:Nat->Nat->Rat) (m k P:Nat) (p:Nat->Nat) (l:Nat->Nat->Rat) (d:Rat):Prop where
 km:k<=m
 d0:d≠0
 unit:∀i,i < m->∀j,j < k->l i (p j)=if i=j then d else 0
 inc:∀i j,i < j->j < k->p i < p j
 low:∀j,j < k->p j < P
 zero:∀i,k<=i->i < m->∀c,c < P->l i c=0
 lead:∀j,j < k->∀c,c < p j->l j c=0
 there:∀i,i < m->fP m l (a i)
 back:∀i,i < m->fP m a (l i)
section
variable {m k n P:Nat} {a l l':Nat->Nat->Rat} {p:Nat->Nat} {d d':Rat}
theorem lM.start:lM a m 0 0 p a 1 where
 km:=a7 _
 d0:=by decide
 unit _ _ j hj:=absurd hj (by lia)
 inc _ j _ hj:=absurd hj (by lia)
 low j hj:=absurd hj (by lia)
 zero _ _ _ c hc:=absurd hc (by lia)
 lead j hj:=absurd hj (by lia)
 there i hi:=fP.row hi
 back i hi:=fP.row hi
theorem lM.skip (E:lM a m k P p l d) (h:∀i,k<=i->i < m->l i P=0):lM a m k (P+1) p l d :=
 ⟨E.km,E.d0,E.unit,E.inc,λj hj=>yU (E.low j hj),λi h1 h2 c hc=>by
  by_cases e:c=P
  ·rw[e];exact h i h1 h2
  ·exact E.zero i h1 h2 c (by lia),E.lead,E.there,E.back⟩
theorem U3:kQ k t (kQ k t i)=i:=by
 unfold kQ
 split
 ·split <;> (try split) <;> lia
 ·split
  ·rw[if_pos rfl];lia
  ·rfl
theorem lM.swap (E:lM a m k P p l d) {t:Nat} (h:k<=t) (ht:t < m):lM a m k P p (λi=>l (kQ k t i)) d where
 km:=E.km
 d0:=E.d0
 unit i hi j hj:=by
  rw[E.unit _ (vE (by lia) ht hi) j hj];by_cases hk:i < k
  ·rw[wI h hk]
  ·have:=xx h (show k<=i by lia);rw[if_neg (by lia),if_neg (by lia)]
 inc:=E.inc
 low:=E.low
 zero i h1 h2 c hc:=E.zero _ (xx h h1) (vE (by lia) ht h2) c hc
 lead j hj c hc:=by rw[wI h hj];exact E.lead j hj c hc
 there i hi:=fP.trans (λs hs=>fP.congr (λc=>by rw[U3]) (fP.row (a:=λi=>l (kQ k t i)) (i:=kQ k t s) (vE (by lia) ht hs))) (E.there i hi)
 back i hi:=E.back _ (vE (by lia) ht hi)
theorem lM.step (E:lM a m k P p l d) (hk:k < m) (h0:d'≠0) (unit':∀i,i < m->∀j,j < k+1->l' i (if j=k then P else p j)=if i=j then d' else 0)
  (hl:∀i,i < m->∃β γ:Rat,β≠0/\(i=k->γ=0)/\∀c,l' i c=β*l i c+γ*l k c):lM a m (k+1) (P+1) (λj=>if j=k then P else p j) l' d' where
 km:=hk
 d0:=h0
 unit:=unit'
 inc i j hij hj:=by
  by_cases e:j=k
  ·rw[if_pos e,if_neg (by lia)];exact E.low i (by lia)
  ·rw[if_neg e,if_neg (by lia)];exact E.inc i j hij (by lia)
 low j hj:=by
  by_cases e:j=k
  ·rw[if_pos e];lia
  ·rw[if_neg e];exact yU (E.low j (by lia))
 zero i h1 h2 c hc:=by
  by_cases e:c=P
  ·have:=unit' i h2 k (by lia);rw[if_pos rfl,if_neg (by lia)] at this;rw[e];exact this
  ·obtain ⟨β,γ,_,_,q⟩:=hl i h2;rw[q c,E.zero i (by lia) h2 c (by lia),E.zero k (ar _) hk c (by lia)];grind
 lead j hj c hc:=by
  have km:=E.km;obtain ⟨β,γ,_,_,q⟩:=hl j (by lia);by_cases e:j=k
  ·rw[if_pos e] at hc;rw[q c,e,E.zero k (ar _) hk c hc];grind
  ·rw[if_neg e] at hc;have:=E.low j (by lia);rw[q c,E.lead j (by lia) c hc,E.zero k (ar _) hk c (by lia)];grind
 there i hi:=by
  refine fP.trans (λs hs=>?_) (E.there i hi);obtain ⟨β,γ,b0,_,q⟩:=hl s hs;obtain ⟨βk,γk,bk0,gk,qk⟩:=hl k hk;have g0:=gk rfl;refine fP.congr (λc=>?_) (fP.lin (1 / β) (-(γ / β) / βk) (fP.row (a:=l') hs) (fP.row (a:=l') hk));rw[q c,qk c,g0];grind
 back i hi:=by
  obtain ⟨β,γ,_,_,q⟩:=hl i hi;exact fP.congr (λc=>(q c).symm) (fP.lin β γ (E.back i hi) (E.back k hk))
theorem lM.done (E:lM a m k n p l d) (ha:∀i,i < m->∀c,n<=c->a i c=0):Fz m n a k p (λi c=>l i c / d) where
 inc:=E.inc
 low:=E.low
 unit i hi j hj:=by
  have d0:=E.d0;have km:=E.km;rw[E.unit i (by lia) j hj]
  split
  ·grind
  ·grind
 lead i hi c hc:=by
  rw[E.lead i hi c hc];grind
 span i hi:=by
  have d0:=E.d0;refine fP.trans (λs hs=>?_) (E.there i hi);by_cases z:s < k
  ·refine fP.congr (λc=>?_) (fP.lin d 0 (fP.row (a:=λi c=>l i c / d) z) (fP.row (a:=λi c=>l i c / d) z));grind
  ·refine fP.zero λc=>?_
   by_cases hc:c < n
   ·exact E.zero s (by lia) hs c hc
   ·obtain ⟨w,hw⟩:=E.back s hs;rw[hw c,dd λt ht=>by rw[ha t ht c (by lia)];grind]
 back i hi:=by
  have km:=E.km;have d0:=E.d0;refine fP.congr (λc=>?_) (fP.lin (1 / d) 0 (E.back i (by lia)) (E.back i (by lia)));grind
end
def eJ (ls:List (List Int)) (i c:Nat):Rat:=(((ls.getD i []).getD c 0:Int):Rat)
def bW (rows:LR9) (i c:Nat):Rat:=(rows.getD i []).getD c 0
def qK (ls:List (List Int)) (k t:Nat):List (List Int):=(ls.set k (ls.getD t [])).set t (ls.getD k [])
def Jw (ls:List (List Int)) (k c:Nat) (b:Int):List (List Int):=(ls.map λzs=>List.zipWith (λx y=>((ls.getD k []).getD c 0*x - zs.getD c 0*y).fdiv b) zs (ls.getD k [])).set k (ls.getD k [])
section
variable {ls ls0:List (List Int)} {k t n P c:Nat} {b d:Int} {ps:List Nat}
theorem uN {α:Type} {l:List α} {x e:α} (hi:i < l.length):(l.set i x).getD j e=if j=i then x else l.getD j e:=by
 rw[aa,aa,List.getElem?_set];by_cases h:j=i
 ·subst h;rw[if_pos rfl,if_pos hi,if_pos rfl];rfl
 ·rw[if_neg (λz=>h z.symm),if_neg h]
theorem zd:(qK ls k t).length=ls.length:=by unfold qK;rw[fe,fe]
theorem Pz:(Jw ls k c b).length=ls.length:=by unfold Jw;rw[fe,ag]
theorem getD_in {α:Type} {l:List α} {e:α} (h:i < l.length):l.getD i e∈l:=by
 rw[aa,ae h];exact aI h
theorem Lj (w:∀zs∈ls,zs.length=n) (hk:k < ls.length) (ht:t < ls.length):∀zs∈qK ls k t,zs.length=n:=λzs hz=>by
 unfold qK at hz;rcases cY hz with h | h
 ·rcases cY h with h | h
  ·exact w zs h
  ·rw[h];exact w _ (getD_in ht)
 ·rw[h];exact w _ (getD_in hk)
theorem L7 (w:∀zs∈ls,zs.length=n) (hk:k < ls.length):∀zs∈Jw ls k c b,zs.length=n:=λzs hz=>by
 unfold Jw at hz;rcases cY hz with h | h
 ·obtain ⟨y,hy,rfl⟩:=aw.mp h;rw[aY,w y hy,w _ (getD_in hk)]
  lia
 ·rw[h];exact w _ (getD_in hk)
theorem yc (hk:k < ls.length) (ht:t < ls.length) (i c:Nat):eJ (qK ls k t) i c=eJ ls (kQ k t i) c:=by
 unfold eJ qK kQ;rw[uN (by rw[fe];exact ht),uN hk];by_cases h1:i=t
 ·rw[if_pos h1];by_cases h2:i=k
  ·rw[if_pos h2,<- h1,<- h2]
  ·rw[if_neg h2,if_pos h1]
 ·rw[if_neg h1];by_cases h2:i=k
  ·rw[if_pos h2,if_pos h2]
  ·rw[if_neg h2,if_neg h2,if_neg h1]
theorem xl (w:∀zs∈ls,zs.length=n) (hc:n<=c):eJ ls i c=0:=by
 unfold eJ;by_cases h:i < ls.length
 ·have:=w _ (getD_in (e:=[]) h);rw[aa (l:=ls.getD i []),aR (by lia)];rfl
 ·rw[aa (l:=ls),aR (by lia)];rfl
theorem sS {x:Int} (h:(x:Rat)=0):x=0:=by
 have:(x:Rat)=((0:Int):Rat):=h;exact dH.mp this
theorem KW {x b:Int} (hb:b≠0) (hq:∃z:Int,q=(z:Rat)) (e:(x:Rat)=(b:Rat)*q):((x.fdiv b:Int):Rat)=q:=by
 obtain ⟨z,rfl⟩:=hq;rw[<- aN] at e;have:=dH.mp e;rw[this,Int.mul_fdiv_cancel_left _ hb]
theorem ya (h:Fr 1 W q):∃z:Int,q=(z:Rat):=by
 obtain ⟨z,e,_⟩:=h;exact ⟨z,by rw[<- e];simp⟩
theorem xk {z:Int} (h:Fr 1 W (z:Rat)):z.natAbs<=W:=by
 obtain ⟨y,e,b⟩:=h;have:(z:Rat)=(y:Rat):=by rw[<- e];simp
 rw[dH.mp this];simpa using b
theorem Pf (w:∀zs∈ls,zs.length=n) (hk:k < ls.length) (hb:b≠0) (hi:i < ls.length) (hz:∀c,∃z:Int,(eJ ls k P*eJ ls i c - eJ ls i P*eJ ls k c) / (b:Rat)=(z:Rat)) (c:Nat) :
  eJ (Jw ls k P b) i c=if i=k then eJ ls k c else (eJ ls k P*eJ ls i c - eJ ls i P*eJ ls k c) / (b:Rat):=by
 by_cases e:i=k
 ·rw[if_pos e];unfold eJ Jw;rw[uN (by rw[ag];exact hk),if_pos e]
 ·rw[if_neg e];by_cases hc:c < n
  ·have hb':(b:Rat)≠0:=λz=>hb (sS z)
   have lk:=w _ (getD_in (e:=[]) hk);have li:=w _ (getD_in (e:=[]) hi)
   have e1:eJ (Jw ls k P b) i c=(((((ls.getD k []).getD P 0*(ls.getD i []).getD c 0 - (ls.getD i []).getD P 0*(ls.getD k []).getD c 0).fdiv b:Int)):Rat):=by
    unfold Jw;rw[eJ,uN (by rw[ag];exact hk),if_neg e];rw[aa (l:=List.map _ ls),aA,ae hi];show ((((List.zipWith _ ls[i] (ls.getD k [])).getD c 0:Int)):Rat)=_
    have ei:ls.getD i []=ls[i]:=by rw[aa,ae hi];rfl
    rw[<- ei];rw[aa (l:=List.zipWith _ _ _),bY,aa (l:=ls.getD i []) (i:=c),aa (l:=ls.getD k []) (i:=c),ae (show c < (ls.getD i []).length by lia),ae (show c < (ls.getD k []).length by lia)];rfl
   rw[e1];refine KW hb (hz c) ?_;rw[DD,aN,aN];show _=(b:Rat)*((eJ ls k P*eJ ls i c - eJ ls i P*eJ ls k c) / (b:Rat))
   show eJ ls k P*eJ ls i c - eJ ls i P*eJ ls k c=_
   grind
  ·rw[xl (L7 w hk) (show n<=c by lia),xl w (i:=i) (show n<=c by lia),xl w (i:=k) (show n<=c by lia)];grind
end
section
variable {m k n P:Nat} {a l l2:Nat->Nat->Rat} {pm p p2:Nat->Nat} {d:Rat}
theorem yX.congr (B:yX a m k pm p l d) (hp:∀j,j < k->p2 j=p j) (hl:∀i,i < m->∀c,l2 i c=l i c):yX a m k pm p2 l2 d where
 inj:=B.inj
 rng:=B.rng
 km:=B.km
 d0:=B.d0
 det:=by rw[B.det,cw_congr (f:=λj r=>a r (p j)) (g:=λj r=>a r (p2 j)) λj hj=>by rw[hp j hj]]
 eqs i hi c:=by
  have km:=B.km;rw[B.eqs i hi c,hl i hi c];congr 1;exact aO λj hj=>by rw[hp j hj,hl j (by lia) c]
 unit i hi j hj:=by rw[hp j hj,hl i hi];exact B.unit i hi j hj
theorem fP.rows (h:∀i,i < m->∀c,l2 i c=l i c) (hx:fP m l x):fP m l2 x:=by obtain ⟨w,hw⟩:=hx;exact ⟨w,λc=>by rw[hw c];exact aO λt ht=>by rw[h t ht c]⟩
theorem lM.congr (E:lM a m k P p l d) (hp:∀j,j < k->p2 j=p j) (hl:∀i,i < m->∀c,l2 i c=l i c):lM a m k P p2 l2 d where
 km:=E.km
 d0:=E.d0
 unit i hi j hj:=by rw[hp j hj,hl i hi];exact E.unit i hi j hj
 inc i j hij hj:=by rw[hp i (by lia),hp j hj];exact E.inc i j hij hj
 low j hj:=by rw[hp j hj];exact E.low j hj
 zero i h1 h2 c hc:=by rw[hl i h2];exact E.zero i h1 h2 c hc
 lead j hj c hc:=by
  have km:=E.km;rw[hp j hj] at hc;rw[hl j (by lia)];exact E.lead j hj c hc
 there i hi:=(E.there i hi).rows hl
 back i hi:=(E.back i hi).congr λc=>(hl i hi c).symm
theorem lM.kP (E:lM a m k P p l d):k<=P:=by
 have:∀j,j < k->j<=p j:=by
  intro j
  induction j with
  | zero=>intro _;exact a7 _
  | succ j ih =>
   intro hj;have:=ih (by lia);have:=E.inc j (j+1) (by lia) hj
   lia
 rcases jI k with z | z
 ·lia
 ·have h1:=this (k - 1) (by lia);have h2:=E.low (k - 1) (by lia)
  lia
end
structure Fy (ls0:List (List Int)) (n P:Nat) (ls:List (List Int)) (ps:List Nat) (d:Int):Prop where
 len:ls.length=ls0.length
 wide:∀zs∈ls,zs.length=n
 bar:∃pm,yX (eJ ls0) ls0.length ps.length pm (λj=>ps.getD j 0) (eJ ls) d
 el:lM (eJ ls0) ls0.length ps.length P (λj=>ps.getD j 0) (eJ ls) d
section
variable {ls0 ls:List (List Int)} {n P:Nat} {ps:List Nat} {d:Int}
theorem Fy.start (w:∀zs∈ls0,zs.length=n):Fy ls0 n 0 ls0 [] 1:=⟨rfl,w,⟨λi=>i,yX.start λ_ _=>rfl⟩,lM.start⟩
theorem Fy.d0 (h:Fy ls0 n P ls ps d):d≠0:=λz=>h.el.d0 (by rw[z];rfl)
theorem Fy.skip (h:Fy ls0 n P ls ps d) (hz:∀i,ps.length<=i->i < ls.length->eJ ls i P=0):Fy ls0 n (P+1) ls ps d:=⟨h.len,h.wide,h.bar,h.el.skip λi h1 h2=>hz i h1 (by rw[h.len];exact h2)⟩
theorem getD_snoc (hj:j < l.length+1):(l++[x]).getD j 0=if j=l.length then x else l.getD j 0:=by
 rw[aa,aa];by_cases e:j=l.length
 ·rw[if_pos e,e,bg (ar _),gV];rfl
 ·rw[if_neg e,bM (by lia)]
theorem Fy.int (h:Fy ls0 n P ls ps d) (hW:1<=W) (h0:∀i,i < ls0.length->∀c,Fr 1 W (eJ ls0 i c)) (ht:ps.length<=t) (ht2:t < ls.length) (hne:eJ ls t P≠0) :
  ∀i,i < ls.length->i≠ps.length->∀c,∃z:Int,(eJ (qK ls ps.length t) ps.length P*eJ (qK ls ps.length t) i c - eJ (qK ls ps.length t) i P*eJ (qK ls ps.length t) ps.length c) / (d:Rat)=(z:Rat):=λi hi ne c=>by
 obtain ⟨pm,B⟩:=h.bar;have hl:=h.len;have hk:ps.length < ls.length:=by lia
 have B1:=(B.swap ht (by lia)).congr (p2:=λj=>ps.getD j 0) (l2:=eJ (qK ls ps.length t)) (λ_ _=>rfl) (λi _ c=>yc hk ht2 i c)
 have h1:eJ (qK ls ps.length t) ps.length P≠0:=by
  rw[yc hk ht2];unfold kQ;rw[if_pos rfl];exact hne
 have B2:=B1.step (c0:=P) (by lia) h1;have:=B2.fr (W:=W) (N:=ps.length+2) (by lia) hW h0 (i:=i) (c:=c) (by lia);rw[if_neg ne] at this;exact ya this
theorem Fy.step (h:Fy ls0 n P ls ps d) (hW:1<=W) (h0:∀i,i < ls0.length->∀c,Fr 1 W (eJ ls0 i c)) (ht:ps.length<=t) (ht2:t < ls.length) (hne:eJ ls t P≠0) :
  Fy ls0 n (P+1) (Jw (qK ls ps.length t) ps.length P d) (ps++[P]) (((Jw (qK ls ps.length t) ps.length P d).getD ps.length []).getD P 0):=by
 obtain ⟨pm,B⟩:=h.bar;have hl:=h.len;have hk:ps.length < ls.length:=by lia
 have hz:=h.int hW h0 ht ht2 hne;have w1:=Lj h.wide hk ht2;have k1:ps.length < (qK ls ps.length t).length:=by rw[zd];exact hk
 have B1:=(B.swap ht (by lia)).congr (p2:=λj=>ps.getD j 0) (l2:=eJ (qK ls ps.length t)) (λ_ _=>rfl) (λi _ c=>yc hk ht2 i c);have E1:=(h.el.swap ht (by lia)).congr (p2:=λj=>ps.getD j 0) (l2:=eJ (qK ls ps.length t)) (λ_ _=>rfl) (λi _ c=>yc hk ht2 i c)
 have h1:eJ (qK ls ps.length t) ps.length P≠0:=by
  rw[yc hk ht2];unfold kQ;rw[if_pos rfl];exact hne
 have B2:=B1.step (c0:=P) (by lia) h1
 have fc:∀i,i < ls0.length->∀c,eJ (Jw (qK ls ps.length t) ps.length P d) i c=if i=ps.length then eJ (qK ls ps.length t) ps.length c else (eJ (qK ls ps.length t) ps.length P*eJ (qK ls ps.length t) i c - eJ (qK ls ps.length t) i P*eJ (qK ls ps.length t) ps.length c) / (d:Rat):=λi hi c=>by
  by_cases e:i=ps.length
  ·rw[if_pos e];unfold eJ Jw;rw[uN (by rw[ag];exact k1),if_pos e]
  ·have:=Pf w1 k1 h.d0 (i:=i) (by rw[zd];lia) (hz i (by lia) e) c;rw[this]
 have ed:(((((Jw (qK ls ps.length t) ps.length P d).getD ps.length []).getD P 0:Int)):Rat)=eJ (qK ls ps.length t) ps.length P:=by
  have:=fc ps.length (by lia) P;rw[if_pos rfl] at this;exact this
 have lp:(ps++[P]).length=ps.length+1:=by rw[ai];rfl
 have hp:∀j,j < ps.length+1->(ps++[P]).getD j 0=if j=ps.length then P else ps.getD j 0:=λj hj=>getD_snoc hj
 refine ⟨by rw[Pz,zd];exact hl,L7 w1 k1,⟨λi=>pm (kQ ps.length t i),?_⟩,?_⟩
 ·rw[ed,lp];exact B2.congr hp fc
 ·rw[ed,lp];refine lM.congr (E1.step (d':=eJ (qK ls ps.length t) ps.length P) (l':=λi c=>if i=ps.length then eJ (qK ls ps.length t) ps.length c else (eJ (qK ls ps.length t) ps.length P*eJ (qK ls ps.length t) i c - eJ (qK ls ps.length t) i P*eJ (qK ls ps.length t) ps.length c) / (d:Rat)) (by lia) h1 B2.unit λi hi=>?_) hp fc;have d0:=h.el.d0;by_cases e:i=ps.length
  ·refine ⟨1,0,by decide,λ_=>rfl,λc=>?_⟩;rw[if_pos e,e];grind
  ·refine ⟨eJ (qK ls ps.length t) ps.length P / (d:Rat),-(eJ (qK ls ps.length t) i P) / (d:Rat),?_,λz=>absurd z e,λc=>?_⟩
   ·intro z;apply h1;grind
   ·rw[if_neg e];grind
theorem Fy.sz (h:Fy ls0 n P ls ps d) (hW:1<=W) (h0:∀i,i < ls0.length->∀c,Fr 1 W (eJ ls0 i c)) (hP:P<=n) (hr:min ls0.length n<=r) (r15:r<=15):(d.natAbs<=(16*W)^r)/\∀zs∈ls,∀z∈zs,z.natAbs<=(16*W)^r:=by
 obtain ⟨pm,B⟩:=h.bar;have kP:=h.el.kP;have km:=B.km;have hl:=h.len;have mono:∀{s t:Nat},s<=t->(16*W)^s<=(16*W)^t:=λhs=>au (bR (by decide) hW) hs
 refine ⟨ah (xk (B.dfr (W:=W) (N:=16) (by lia) h0)) (mono (by lia)),λzs hz z hz'=>?_⟩;obtain ⟨i,hi,rfl⟩:=bO hz;obtain ⟨c,hc,rfl⟩:=bO hz';have hw:=h.wide _ (aI hi)
 have ez:eJ ls i c=(((ls[i])[c]:Int):Rat):=by
  unfold eJ;rw[aa (l:=ls),ae hi];show ((ls[i].getD c 0:Int):Rat)=_
  rw[aa,ae hc];rfl
 by_cases hk:i < ps.length
 ·have:Fr 1 ((16*W)^ps.length) (eJ ls i c):=by
   have hd:=B.d0;rw[B.old hk]
   have:=C6 (W:=W) (N:=16) (rs:=zJ pm ps.length) (vs:=Nz (λj r=>eJ ls0 r (ps.getD j 0)) i ps.length++(λr=>eJ ls0 r c) :: rT (λj r=>eJ ls0 r (ps.getD j 0)) i) (by
    have:=congrArg List.length (cw_split (v:=λj r=>eJ ls0 r (ps.getD j 0)) hk);rw[ai,aZ,cw_len] at this;rw[ai,aZ]
    lia) (by
    intro v hv r hr
    have hr':∀c,Fr 1 W (eJ ls0 r c):=λc=>by
     obtain ⟨t,ht,rfl⟩:=o5 hr;exact h0 _ (B.rng t (by lia)) c
    rcases av.mp hv with hv | hv
    ·obtain ⟨t,_,rfl⟩:=Jv hv;exact hr' _
    ·rcases aH.mp hv with rfl | hv
     ·exact hr' _
     ·obtain ⟨t,_,rfl⟩:=cw_in hv;exact hr' _)
   rwa [uz] at this
  rw[ez] at this;exact ah (xk this) (mono (by lia))
 ·by_cases hn:ps.length < n
  ·have:=B.fr (W:=W) (N:=16) (by lia) hW h0 (i:=i) (c:=c) (by lia);rw[ez] at this;exact ah (xk this) (mono (by lia))
  ·have:=h.el.zero i (by lia) (by lia) c (by lia);rw[ez] at this;rw[sS this];exact a7 _
end
def Tp (M W:Nat) (q:Rat):Prop:=∃z:Int,q*(M:Rat)=(z:Rat)/\z.natAbs<=W
theorem Tp.of {M V W:Nat} (h:Fr M V q) (hW:V*M<=W):Tp M W q:=by obtain ⟨z,a,b⟩:=h;exact ⟨z,a,ah b hW⟩
theorem Tp.mono (h:Tp M W q) (hW:W<=W'):Tp M W' q:=by obtain ⟨z,a,b⟩:=h;exact ⟨z,a,ah b hW⟩
theorem Tp.fr (h:Tp M W q) (h0:0 < M):Fr M W q:=by obtain ⟨z,a,b⟩:=h;exact ⟨z,a,ah b (ee _ h0)⟩
def DI (rows:LR9) (n w:Nat):Prop:=∃M W:Nat,0 < M/\M<=2^215000/\1<=W/\W<=2^w/\(∀xs∈rows,∀x∈xs,Tp M W x)/\w<=215000/\min rows.length n<=15/\min rows.length n*(w+4)<=445000
def iO (xs:List Rat):List Int:=gU (xs.map nm) (iQ (xs.map nm))
theorem pO:(iO xs).length=xs.length:=by unfold iO gU;rw[ag,ag]
theorem qe {xs:List Rat}:0 < iQ (xs.map nm):=CY (by decide) λb hb=>by
 obtain ⟨n,hn,rfl⟩:=aw.mp hb;obtain ⟨x,_,rfl⟩:=aw.mp hn;exact iq x
theorem Qn:(((iO xs).getD c 0:Int):Rat)=xs.getD c 0*((iQ (xs.map nm):Int):Rat):=by
 unfold iO gU;rw[aa,aa,aA,aA];cases e:xs[c]? with
 | none=>show ((0:Int):Rat)=0*_;rw[Mn];rfl
 | some x=>exact tL (qh (aw.mpr ⟨x,ak e,rfl⟩))
section
variable {rows:LR9} {n w i c:Nat} {xs:List Rat}
theorem Af (hi:i < rows.length):eJ (rows.map iO) i c=((iQ ((rows.getD i []).map nm):Int):Rat)*bW rows i c:=by
 unfold eJ bW
 have e:(rows.map iO).getD i []=iO (rows.getD i []):=by
  rw[aa,aa,aA,ae hi];rfl
 rw[e,Qn,dM]
theorem KU (hw:∀xs∈rows,xs.length=n) (hc:n<=c):bW rows i c=0:=by
 unfold bW;by_cases h:i < rows.length
 ·have:=hw _ (getD_in (e:=[]) h);rw[aa (l:=rows.getD i []),aR (by lia)];rfl
 ·rw[aa (l:=rows),aR (by lia)];rfl
theorem Bj (i:Nat) (hi:i < rows.length):fP rows.length (eJ (rows.map iO)) (bW rows i):=by
 have h0:((iQ ((rows.getD i []).map nm):Int):Rat)≠0:=λz=>by
  have:=qe (xs:=rows.getD i []);have:=sS z
  lia
 refine fP.congr (λc=>?_) (fP.lin (1 / ((iQ ((rows.getD i []).map nm):Int):Rat)) 0 (fP.row (a:=eJ (rows.map iO)) hi) (fP.row (a:=eJ (rows.map iO)) hi));rw[Af hi];grind
theorem Bi (i:Nat) (hi:i < rows.length):fP rows.length (bW rows) (eJ (rows.map iO) i):=by
 refine fP.congr (λc=>?_) (fP.lin ((iQ ((rows.getD i []).map nm):Int):Rat) 0 (fP.row (a:=bW rows) hi) (fP.row (a:=bW rows) hi));rw[Af hi];grind
theorem wG (h:Tp M W x):(nm x).2∣(M:Int):=by
 obtain ⟨z,e,b⟩:=h
 exact Fr.den (V:=z.natAbs) (M:=M) ⟨z,e,by
  rcases jI M with h | h
  ·subst h;have:(z:Rat)=0:=by rw[<- e];simp
   rw[sS this];simp
  ·exact ee _ h⟩
theorem y8 (h:Tp M W x) (h0:0 < M) (hB:0 < B) (d1:(nm x).2∣B) (d2:B∣(M:Int)):∃t:Int,x*(B:Rat)=(t:Rat)/\t.natAbs<=W:=by
 obtain ⟨z,e,b⟩:=h;obtain ⟨s,es⟩:=d2;refine ⟨(nm x).1*(B / (nm x).2),(tL d1).symm,?_⟩
 have s0:0 < s:=by
  rcases Int.lt_trichotomy s 0 with h | h | h
  ·have:=xv hB h
   lia
  ·rw[h] at es;lia
  ·exact h
 have e2:(((nm x).1*(B / (nm x).2)*s:Int):Rat)=(z:Rat):=by
  rw[aN,tL d1,<- e,<- aS,es,aN];grind
 have e3:=dH.mp e2;have:((nm x).1*(B / (nm x).2)).natAbs*s.natAbs=z.natAbs:=by rw[<- eT,e3]
 have h1:1<=s.natAbs:=by lia
 have:=ee ((nm x).1*(B / (nm x).2)).natAbs h1
 lia
theorem By (h0:0 < M) (h:∀x∈xs,Tp M W x):iQ (xs.map nm)∣(M:Int):=Bs (by decide) (Int.one_dvd _) λb hb=>by
 obtain ⟨n,hn,rfl⟩:=aw.mp hb;obtain ⟨x,hx,rfl⟩:=aw.mp hn;exact ⟨iq x,wG (h x hx)⟩
theorem DI.rowM (F:DI rows n w) (hx:xs∈rows):∃M,K9 M (xs.map nm):=by
 obtain ⟨M,W,h0,h1,hW,h2,h3,h4,_⟩:=F;refine ⟨M,by lia,?_,λy hy=>?_⟩
 ·show ((M:Nat):Int).natAbs < 2^220000
  rw[de];exact br h1 (d6 (by decide) (by decide))
 ·obtain ⟨x,hx',rfl⟩:=aw.mp hy;have t:=h3 xs hx x hx';refine ⟨iq x,wG t,?_⟩;obtain ⟨s,e,b⟩:=y8 t h0 (iq x) (Mq _) (wG t);have e2:(((nm x).1:Int):Rat)=(s:Rat):=by rw[<- e];exact mR x
  rw[dH.mp e2];exact br (ah b h2) (d6 (by decide) (by lia))
theorem DI.ent (F:DI rows n w):∃W:Nat,1<=W/\W<=2^w/\∀i,i < (rows.map iO).length->∀c,Fr 1 W (eJ (rows.map iO) i c):=by
 obtain ⟨M,W,h0,h1,hW,h2,h3,h4,_⟩:=F;refine ⟨W,hW,h2,λi hi c=>?_⟩;rw[ag] at hi;have hx:=getD_in (e:=[]) hi;rw[Af hi];unfold bW;generalize rows.getD i []=xs at hx ⊢;by_cases hc:c < xs.length
 ·have t:=h3 xs hx _ (getD_in (e:=0) hc);obtain ⟨s,e,b⟩:=y8 t h0 (qe (xs:=xs)) (qh (aw.mpr ⟨_,getD_in (e:=0) hc,rfl⟩)) (By h0 (h3 xs hx));rw[dM,e];exact Fr.int b
 ·rw[aa,aR (by lia)];show Fr 1 W (_*0)
  rw[iN];exact Fr.zero
end
def bG (rows:LR9) (n:Nat) (R:LR9) (ps:List Nat):Prop:=R.length=ps.length/\(∀xs∈R,xs.length=n)/\Fz rows.length n (bW rows) ps.length (λj=>ps.getD j 0) (bW R)
structure Wt (rows:LR9) (n w:Nat) (R:LR9) (ps:List Nat) (d:Int) (ls:List (List Int)):Prop where
 rr:bG rows n R ps
 d0:d≠0
 len:ls.length=ps.length
 wide:∀zs∈ls,zs.length=n
 val:∀i c,eJ ls i c=(d:Rat)*bW R i c
 dsz:d.natAbs<=2^(min rows.length n*(w+4))
 zsz:∀zs∈ls,∀z∈zs,z.natAbs<=2^(min rows.length n*(w+4))
 tp:∀xs∈R,∀x∈xs,Tp d.natAbs (2^(min rows.length n*(w+4))) x
 km:ps.length<=rows.length
theorem Fz.congrR {a R R2:Nat->Nat->Rat} (h:Fz m n a k p R) (hr:∀i,i < k->∀c,R2 i c=R i c):Fz m n a k p R2 :=
 ⟨h.inc,h.low,λi hi j hj=>by rw[hr i hi];exact h.unit i hi j hj,λi hi c hc=>by rw[hr i hi];exact h.lead i hi c hc,λi hi=>(h.span i hi).rows hr,λi hi=>(h.back i hi).congr λc=>(hr i hi c).symm⟩
theorem Fz.other (h:Fz m n a k p R) (s1:∀i,i < m->fP m' a' (a i)) (s2:∀i,i < m'->fP m a (a' i)):Fz m' n a' k p R :=
 ⟨h.inc,h.low,h.unit,h.lead,λi hi=>fP.trans h.span (s2 i hi),λi hi=>fP.trans s1 (h.back i hi)⟩
theorem zO (h:W<=2^w):(16*W)^r<=2^(r*(w+4)):=by
 calc (16*W)^r<=(2^(w+4))^r:=mf (by rw[aU];lia) _
  _=2^(r*(w+4)):=by rw[<- yT,cy]
theorem Fy.done (h:Fy (rows.map iO) n n ls ps d) (hw:∀xs∈rows,xs.length=n) (F:DI rows n w) :
  ∃R,Wt rows n w R ps d (ls.take ps.length):=by
 obtain ⟨W,hW,W2,ent⟩:=F.ent;obtain ⟨_,_,_,_,_,_,_,_,r15,_⟩:=F;have hl:=h.len;have d0:=h.d0;have d0':(d:Rat)≠0:=λz=>d0 (sS z)
 have km:=h.el.km;have hm:(rows.map iO).length=rows.length:=ag ..;obtain ⟨s1,s2⟩:=h.sz (r:=min rows.length n) hW ent (ar _) (by rw[hm];exact ar _) r15;have s2':∀zs∈ls,∀z∈zs,z.natAbs<=2^(min rows.length n*(w+4)):=λzs hz z hz'=>ah (s2 zs hz z hz') (zO W2)
 have er:∀i c,bW ((ls.take ps.length).map λzs=>zs.map λ(z:Int)=>(z:Rat) / (d:Rat)) i c=eJ (ls.take ps.length) i c / (d:Rat):=λi c=>by
  unfold bW eJ;rw[aa (l:=List.map _ _),aA,aa (l:=List.take _ _)];cases e:(ls.take ps.length)[i]? with
  | none=>show (0:Rat)=((0:Int):Rat) / _;grind
  | some zs =>
   show (zs.map λ(z:Int)=>(z:Rat) / (d:Rat)).getD c 0=((zs.getD c 0:Int):Rat) / (d:Rat)
   rw[aa,aa,aA];cases e2:zs[c]? with
   | none=>show (0:Rat)=((0:Int):Rat) / _;grind
   | some z=>rfl
 have et:∀i,i < ps.length->∀c,eJ (ls.take ps.length) i c=eJ ls i c:=λi hi c=>by
  unfold eJ;rw[aa (l:=List.take _ _),mN hi,<- aa]
 have RR:=(h.el.done λi hi c hc=>xl (n:=n) (λzs hz=>by
  obtain ⟨xs,hx,rfl⟩:=aw.mp hz;rw[pO];exact hw xs hx) hc).congrR (R2:=bW ((ls.take ps.length).map λzs=>zs.map λ(z:Int)=>(z:Rat) / (d:Rat))) λi hi c=>by rw[er,et i hi]
 rw[hm] at RR;refine ⟨(ls.take ps.length).map λzs=>zs.map λ(z:Int)=>(z:Rat) / (d:Rat),⟨by rw[ag,bI];lia,λxs hx=>?_,RR.other Bi Bj⟩,d0,by rw[bI];lia,λzs hz=>h.wide zs (b7 hz),λi c=>?_,ah s1 (zO W2),λzs hz=>s2' zs (b7 hz),λxs hx x hx'=>?_,by lia⟩
 ·obtain ⟨zs,hz,rfl⟩:=aw.mp hx;rw[ag];exact h.wide zs (b7 hz)
 ·rw[er];grind
 ·obtain ⟨zs,hz,rfl⟩:=aw.mp hx;obtain ⟨z,hz',rfl⟩:=aw.mp hx';have b:=s2' zs (b7 hz) z hz';rcases JW d with e | e
  ·refine ⟨z,?_,b⟩;have:((d.natAbs:Nat):Rat)=(d:Rat):=by rw[<- aS,<- e]
   rw[this];grind
  ·refine ⟨-z,?_,by rw[kS];exact b⟩;have:((d.natAbs:Nat):Rat)=-(d:Rat):=by rw[<- aS,<- cZ];congr 1;lia
   rw[this,cZ];grind
theorem Pd (hl:R.length=R'.length) (w1:∀xs∈R,xs.length=n) (w2:∀xs∈R',xs.length=n) (h:∀i,i < R.length->∀c,bW R i c=bW R' i c):R=R':=by
 apply c4 hl;intro i h1 h2;apply c4 (by rw[w1 _ (aI h1),w2 _ (aI h2)]);intro c h3 h4;have:=h i h1 c;unfold bW at this;rw[aa (l:=R),aa (l:=R'),ae h1,ae h2] at this;have this:(R[i]).getD c 0=(R'[i]).getD c 0:=this;rw[aa,aa,ae h3,ae h4] at this;exact this
theorem bG.uniq (h:bG rows n R ps) (h':bG rows' n R' ps') (s1:∀i,i < rows.length->fP rows'.length (bW rows') (bW rows i)) (s2:∀i,i < rows'.length->fP rows.length (bW rows) (bW rows' i)):R=R'/\ps=ps':=by
 obtain ⟨l1,w1,r1⟩:=h;obtain ⟨l2,w2,r2⟩:=h';obtain ⟨ek,ep,eR⟩:=r1.uniq r2 s1 s2;refine ⟨Pd (by lia) w1 w2 λi hi c=>eR i (by lia) c,?_⟩;apply c4 ek;intro j h1 h2;have:=ep j h1;rw[aa,aa,ae h1,ae h2] at this;exact this
theorem bG.same (h:bG rows n R ps) (h':bG rows n R' ps'):R=R'/\ps=ps':=h.uniq h' (λ_ hi=>fP.row hi) (λ_ hi=>fP.row hi)
open PySem PySem.Spec PyProof.Rows
def Mj (l:Addr) (H:Hp) (zs:List Int) (v:V):Prop:=∃q,v=V.ref q/\q≠l/\H q=some (.lst (zs.map V.int))
def uZ (l:Addr) (H:Hp) (p:Addr) (ls:List (List Int)):Prop:=p≠l/\∃xs,H p=some (.lst xs)/\Paired (Mj l H) ls xs
theorem Mj.same (h:Mj l H zs v) (e:aB H H'):Mj l H' zs v:=by obtain ⟨q,a,n,b⟩:=h;exact ⟨q,a,n,e _ _ b⟩
theorem Mj.upd {l:Addr} {H:Hp} {zs:List Int} {v:V} {o:HO} (h:Mj l H zs v):Mj l (upd H l o) zs v:=by obtain ⟨q,a,n,b⟩:=h;exact ⟨q,a,n,by rw[bc n];exact b⟩
theorem uZ.upd {l:Addr} {H:Hp} {p:Addr} {ls:List (List Int)} {o:HO} (h:uZ l H p ls):uZ l (upd H l o) p ls:=by obtain ⟨n,xs,a,b⟩:=h;exact ⟨n,xs,by rw[bc n];exact a,Paired.imp' (λ_ _ z=>z.upd) b⟩
theorem ne_old {H:Hp} (h:H l≠none) (n:H r=none):r≠l:=λz=>h (by rw[<- z];exact n)
theorem lg {α β:Type} {F:α->β->Prop}:∀{l1:List α} {l2:List β} (_:Paired F l1 l2) (i:Nat) {x:α} {y:β},F x y->Paired F (l1.set i x) (l2.set i y)
 | _,_,.nil,_,_,_,_=>.nil
 | _,_,.cons _ r,0,_,_,h=>.cons h r
 | _,_,.cons a r,i+1,_,_,h=>.cons a (lg r i h)
theorem NI (h:ls[i]?=some zs):eJ ls i c=((zs.getD c 0:Int):Rat):=by
 unfold eJ;rw[aa (l:=ls),h];rfl
theorem V9:((z:Int):Rat)≠0↔z≠0:=⟨λh e=>h (by rw[e];rfl),λh e=>h (sS e)⟩
theorem BE {zs:List Int} (h:c < zs.length):K6 (zs.map V.int) (c:Int)=some (V.int (zs.getD c 0)):=dD (by rw[aA,aa,ae h];rfl)
inductive EE (vs:List V) (H:Hp) (Q:VK) (E9:XK):Prop
 | mk (l p:Addr) (ls:List (List Int)) (b c:Nat):vs=[.ref p,.int b,.int c]->uZ l H p ls->ls.length<=1000->b<=1000->(∀zs∈ls,c < zs.length)->(∀t:Nat,b<=t->t < ls.length->eJ ls t c≠0->Q (.int t) H)->((∀t,b<=t->t < ls.length->eJ ls t c=0)->Q .non H)->EE  vs H Q E9
inductive Ah (vs:List V) (H:Hp) (Q:VK) (E9:XK):Prop
 | mk (l p:Addr) (ls:List (List Int)) (t k:Nat):vs=[.ref p,.int t,.int k]->H l≠none->uZ l H p ls->ls.length<=1000->t < ls.length->k < ls.length->(∀r H',H r=none->aB H H'->uZ l H' r (qK ls k t)->Q (.ref r) H')->Ah  vs H Q E9
inductive EF (vs:List V) (H:Hp) (Q:VK) (E9:XK):Prop
 | mk (l p:Addr) (ls:List (List Int)) (k c n:Nat) (b:Int):vs=[.ref p,.int k,.int c,.int b]->H l≠none->uZ l H p ls->ls.length<=1000->k < ls.length->(∀zs∈ls,zs.length=n)->n<=1000->c < n->b≠0->Sz 449950 b->(∀zs∈ls,∀z∈zs,Sz 449950 z)->(∀r H',H r=none->aB H H'->uZ l H' r (Jw ls k c b)->Q (.ref r) H')->EF  vs H Q E9
theorem OE (K:FG9) {X:Cx} {a b:Expr} {ta:TA} {p pos tpos:Pos} {elts:List Expr} {kk:Nat} (hg:Gl X "zip") (hm:X.mg "zip"=none) (ha:PA X [a,b] ta) (hK:X.K=K:=by rfl) (hs:starEach [a,b] X.env=[(false,eval a X.env),(false,eval b X.env)]:=by rfl) (hs2:starEach [b] X.env=[(false,eval b X.env)]:=by rfl) :
  PI X (.Tuple elts kk tpos) (.Call (.Name "zip" p) [a,b] [] pos) (Uj K ta):=by subst hK;exact mP hg hm ha hs hs2
def du (ps:List Nat):List V:=ps.map λ(j:Nat)=>V.int (j:Int)
inductive En (K:FG9) (vs:List V) (H:Hp) (Q:VK) (E9:XK):Prop
 | mk (p:Addr) (n w:Nat) (H0:Hp) (rows:LR9):vs=[.ref p,.int n]->bf K H0 H p rows->rows.length<=100->n<=100->(∀xs∈rows,xs.length=n)->DI rows n w->(∀t lp qp R ps d ls H',H' t=some (.tup [.ref lp,.ref qp])->H' qp=some (.lst (du ps))->uZ qp H' lp ls->aB H H'->Wt rows n w R ps d ls->Q (.ref t) H')->En K vs H Q E9
inductive Ag (K:FG9) (vs:List V) (H:Hp) (Q:VK) (E9:XK):Prop
 | mk (p:Addr) (n w:Nat) (H0:Hp) (rows:LR9):vs=[.ref p,.int n]->bf K H0 H p rows->rows.length<=100->n<=100->(∀xs∈rows,xs.length=n)->DI rows n w->(∀r R ps M H',H r=none->aB H H'->bf K H H' r R->bG rows n R ps->ps.length<=rows.length->0 < M->M<=2^(min rows.length n*(w+4))->(∀xs∈R,∀x∈xs,Tp M (2^(min rows.length n*(w+4))) x)->Q (.ref r) H')->Ag K vs H Q E9
def Bf (rows:LR9) (i:Nat):Rat:=((iQ ((rows.getD i []).map nm):Int):Rat)
theorem yx:Bf rows i≠0:=λz=>by
 have:=qe (xs:=rows.getD i []);have:=sS z
 lia
structure AZ (rows:LR9) (n P:Nat) (rs:LR9) (ps:List Nat):Prop where
 len:rs.length=rows.length
 wide:∀xs∈rs,xs.length=n
 ex:∃pm l d,yX (eJ (rows.map iO)) rows.length ps.length pm (λj=>ps.getD j 0) l d/\lM (eJ (rows.map iO)) rows.length ps.length P (λj=>ps.getD j 0) l d/\∀i,i < rows.length->∀c,bW rs i c=l i c / (d*if i < ps.length then 1 else Bf rows (pm i))
section
variable {rows rs rs':LR9} {n P w a:Nat} {ps:List Nat}
theorem OV {k i j:Nat} (h:d≠0):d*(if i < k then 1 else Bf rows j)≠0:=by
 have:=yx (rows:=rows) (i:=j)
 split <;> grind
theorem AZ.start (hw:∀xs∈rows,xs.length=n):AZ rows n 0 rows []:=⟨rfl,hw,λi=>i,eJ (rows.map iO),1,yX.start λ_ _=>rfl,lM.start,λi hi c=>by
 rw[Af hi,if_neg (by show ¬i < 0;lia)];have:=yx (rows:=rows) (i:=i);show bW rows i c=Bf rows i*bW rows i c / (1*Bf rows i)
 grind⟩
theorem AZ.skip (h:AZ rows n P rs ps) (hz:∀i,ps.length<=i->i < rs.length->bW rs i P=0):AZ rows n (P+1) rs ps:=by
 obtain ⟨len,wide,pm,l,d,B,E,v⟩:=h;refine ⟨len,wide,pm,l,d,B,E.skip λi h1 h2=>?_,v⟩;have:=v i h2 P;rw[hz i h1 (by lia)] at this;have ne:=OV (rows:=rows) (i:=i) (j:=pm i) (k:=ps.length) B.d0;generalize d*(if i < ps.length then 1 else Bf rows (pm i))=D at this ne;grind
theorem AZ.km (h:AZ rows n P rs ps):ps.length<=rows.length/\ps.length<=P:=by obtain ⟨_,_,_,_,_,_,E,_⟩:=h;exact ⟨E.km,E.kP⟩
theorem AZ.step (h:AZ rows n P rs ps) (ht:ps.length<=t) (ht2:t < rs.length) (hne:bW rs t P≠0) (l':rs'.length=rows.length) (w':∀xs∈rs',xs.length=n)
  (hv:∀i,i < rows.length->∀c,bW rs' i c=if i=ps.length then 1 / bW rs t P*bW rs t c else bW rs (kQ ps.length t i) c - bW rs (kQ ps.length t i) P*(1 / bW rs t P*bW rs t c)):AZ rows n (P+1) rs' (ps++[P]):=by
 obtain ⟨len,wide,pm,l,d,B,E,v⟩:=h;have hk:ps.length < rows.length:=by lia
 have B1:=B.swap ht (by lia);have E1:=E.swap ht (by lia);have d0:=B.d0
 have v1:∀i,i < rows.length->∀c,bW rs (kQ ps.length t i) c=l (kQ ps.length t i) c / (d*if i < ps.length then 1 else Bf rows (pm (kQ ps.length t i))):=λi hi c=>by
  rw[v _ (vE hk (by lia) hi) c];by_cases z:i < ps.length
  ·rw[wI ht z,if_pos z]
  ·rw[if_neg z,if_neg (by have:=xx ht (show ps.length<=i by lia);lia)]
 have sk:kQ ps.length t ps.length=t:=by unfold kQ;rw[if_pos rfl]
 have vt:∀c,bW rs t c=l (kQ ps.length t ps.length) c / (d*Bf rows (pm (kQ ps.length t ps.length))):=λc=>by
  have:=v1 ps.length hk c;rw[if_neg (by lia),sk] at this;rw[sk];exact this
 have bt:=yx (rows:=rows) (i:=pm (kQ ps.length t ps.length));have h1:l (kQ ps.length t ps.length) P≠0:=λz=>hne (by rw[vt P,z];grind)
 have B2:=B1.step (c0:=P) hk h1;have lp:(ps++[P]).length=ps.length+1:=by rw[ai];rfl
 have hp:∀j,j < ps.length+1->(ps++[P]).getD j 0=if j=ps.length then P else ps.getD j 0:=λj hj=>getD_snoc hj
 refine ⟨l',w',λi=>pm (kQ ps.length t i),_,_,by rw[lp];exact B2.congr (l2:=λi c=>if i=ps.length then l (kQ ps.length t ps.length) c else (l (kQ ps.length t ps.length) P*l (kQ ps.length t i) c - l (kQ ps.length t i) P*l (kQ ps.length t ps.length) c) / d) hp (λ_ _ _=>rfl),?_,λi hi c=>?_⟩
 ·rw[lp];refine lM.congr (E1.step (d':=l (kQ ps.length t ps.length) P) (l':=λi c=>if i=ps.length then l (kQ ps.length t ps.length) c else (l (kQ ps.length t ps.length) P*l (kQ ps.length t i) c - l (kQ ps.length t i) P*l (kQ ps.length t ps.length) c) / d) hk h1 B2.unit λi hi=>?_) hp (λ_ _ _=>rfl);by_cases e:i=ps.length
  ·refine ⟨1,0,by decide,λ_=>rfl,λc=>?_⟩;rw[if_pos e,e];grind
  ·refine ⟨l (kQ ps.length t ps.length) P / d,-(l (kQ ps.length t i) P) / d,?_,λz=>absurd z e,λc=>?_⟩
   ·intro z;apply h1;grind
   ·rw[if_neg e];grind
 ·rw[hv i hi c,lp,vt c,vt P];by_cases e:i=ps.length
  ·rw[if_pos e,if_pos e,if_pos (by lia)];grind
  ·rw[if_neg e,if_neg e,v1 i hi c,v1 i hi P];have ne:=OV (rows:=rows) (i:=i) (j:=pm (kQ ps.length t i)) (k:=ps.length) d0;by_cases z:i < ps.length
   ·rw[if_pos z,if_pos (by lia)];grind
   ·have bi:=yx (rows:=rows) (i:=pm (kQ ps.length t i));rw[if_neg z,if_neg (by lia)];grind
theorem AZ.done (h:AZ rows n n rs ps) (hw:∀xs∈rows,xs.length=n):bG rows n (rs.take ps.length) ps:=by
 obtain ⟨len,wide,pm,l,d,B,E,v⟩:=h;have km:=E.km;refine ⟨by rw[bI];lia,λxs hx=>wide xs (b7 hx),Fz.other ((E.done λi hi c hc=>?_).congrR λi hi c=>?_) Bi Bj⟩
 ·exact xl (n:=n) (λzs hz=>by
   obtain ⟨xs,hx,rfl⟩:=aw.mp hz;rw[pO];exact hw xs hx) hc
 ·have e:bW (rs.take ps.length) i c=bW rs i c:=by
   unfold bW;rw[aa (l:=List.take _ _),mN hi,<- aa]
  rw[e,v i (by lia) c,if_pos hi,Rat.mul_one]
def SO (rows:LR9) (n w a:Nat):Prop:=∃M W:Nat,0 < M/\M<=2^a/\1<=W/\W<=2^w/\(∀xs∈rows,∀x∈xs,Tp M W x)/\min rows.length n<=15/\2*(min rows.length n*(w+4)+a)<=199500
theorem SO.ent (F:SO rows n w a):∃W:Nat,1<=W/\W<=2^w/\∀i,i < rows.length->∀c,Fr 1 W (eJ (rows.map iO) i c):=by
 obtain ⟨M,W,h0,h1,hW,h2,h3,_⟩:=F;refine ⟨W,hW,h2,λi hi c=>?_⟩;have hx:=getD_in (e:=[]) hi;rw[Af hi];unfold bW;generalize rows.getD i []=xs at hx ⊢;by_cases hc:c < xs.length
 ·have t:=h3 xs hx _ (getD_in (e:=0) hc);obtain ⟨s,e,b⟩:=y8 t h0 (qe (xs:=xs)) (qh (aw.mpr ⟨_,getD_in (e:=0) hc,rfl⟩)) (By h0 (h3 xs hx));rw[dM,e];exact Fr.int b
 ·rw[aa,aR (by lia)];show Fr 1 W (_*0)
  rw[iN];exact Fr.zero
theorem SO.bot (F:SO rows n w a) (hi:i < rows.length):∃b:Nat,0 < b/\b<=2^a/\Bf rows i=(b:Rat):=by
 obtain ⟨M,W,h0,h1,hW,h2,h3,_⟩:=F;have hx:=getD_in (e:=[]) hi;have p:=qe (xs:=rows.getD i []);have dv:=By h0 (h3 _ hx);refine ⟨(iQ ((rows.getD i []).map nm)).natAbs,by lia,ah (iT h0 ?_) h1,?_⟩
 ·have:=fu.mpr dv;rwa [de] at this
 ·unfold Bf;rw[<- aS];congr 1
  lia
theorem S0 {z y:Int} (hl:l=(z:Rat)) (hD:D=(y:Rat)) (h0:D≠0) (hz:z.natAbs<=W):Tp y.natAbs W (l / D):=by
 rcases JW y with e | e
 ·refine ⟨z,?_,hz⟩;have:((y.natAbs:Nat):Rat)=D:=by rw[<- aS,<- e,hD]
  rw[this,hl];grind
 ·refine ⟨-z,?_,by rw[kS];exact hz⟩;have:((y.natAbs:Nat):Rat)=-D:=by rw[<- aS,hD,<- cZ];congr 1;lia
  rw[this,hl,cZ];grind
theorem AZ.sz (h:AZ rows n P rs ps) (F:SO rows n w a) (hP:P<=n) (hi:i < rows.length):∃D:Nat,0 < D/\D<=2^(min rows.length n*(w+4)+a)/\∀c,Tp D (2^(min rows.length n*(w+4))) (bW rs i c):=by
 obtain ⟨len,wide,pm,l,d,B,E,v⟩:=h;obtain ⟨W,hW,W2,ent⟩:=F.ent;obtain ⟨_,_,_,_,_,_,_,r15,_⟩:=id F;have kP:=E.kP;have km:=B.km;have mono:∀{s t:Nat},s<=t->(16*W)^s<=(16*W)^t:=λhs=>au (bR (by decide) hW) hs
 obtain ⟨y,ey⟩:=ya (B.dfr (W:=W) (N:=16) (by lia) ent);have hy:=B.dfr (W:=W) (N:=16) (by lia) ent;rw[ey] at hy;have yb:y.natAbs<=2^(min rows.length n*(w+4)):=ah (xk hy) (ah (mono (show ps.length<=min rows.length n by lia)) (zO W2));have y0:y≠0:=λz=>B.d0 (by rw[ey,z];rfl)
 have lb:∀c,∃z:Int,l i c=(z:Rat)/\z.natAbs<=2^(min rows.length n*(w+4)):=λc=>by
  by_cases hk:i < ps.length
  ·have f:Fr 1 ((16*W)^ps.length) (l i c):=by
    rw[B.old hk]
    have:=C6 (W:=W) (N:=16) (rs:=zJ pm ps.length) (vs:=Nz (λj r=>eJ (rows.map iO) r (ps.getD j 0)) i ps.length++(λr=>eJ (rows.map iO) r c) :: rT (λj r=>eJ (rows.map iO) r (ps.getD j 0)) i) (by
     have:=congrArg List.length (cw_split (v:=λj r=>eJ (rows.map iO) r (ps.getD j 0)) hk);rw[ai,aZ,cw_len] at this;rw[ai,aZ]
     lia) (by
     intro v hv r hr
     have hr':∀c,Fr 1 W (eJ (rows.map iO) r c):=λc=>by
      obtain ⟨t,ht,rfl⟩:=o5 hr;exact ent _ (B.rng t (by lia)) c
     rcases av.mp hv with hv | hv
     ·obtain ⟨t,_,rfl⟩:=Jv hv;exact hr' _
     ·rcases aH.mp hv with rfl | hv
      ·exact hr' _
      ·obtain ⟨t,_,rfl⟩:=cw_in hv;exact hr' _)
    rwa [uz] at this
   obtain ⟨z,ez⟩:=ya f;rw[ez] at f;exact ⟨z,ez,ah (xk f) (ah (mono (by lia)) (zO W2))⟩
  ·by_cases hn:ps.length < n
   ·have f:=B.fr (W:=W) (N:=16) (by lia) hW ent (i:=i) (c:=c) hi;obtain ⟨z,ez⟩:=ya f;rw[ez] at f;exact ⟨z,ez,ah (xk f) (ah (mono (by lia)) (zO W2))⟩
   ·refine ⟨0,?_,a7 _⟩;by_cases hc:c < n
    ·rw[E.zero i (by lia) hi c (by lia)];rfl
    ·have:=v i hi c;rw[KU wide (by lia)] at this;have ne:=OV (rows:=rows) (i:=i) (j:=pm i) (k:=ps.length) B.d0;generalize d*(if i < ps.length then 1 else Bf rows (pm i))=D at this ne;show l i c=0
     grind
 obtain ⟨b,b0,b1,eb⟩:∃b:Nat,0 < b/\b<=2^a/\(if i < ps.length then 1 else Bf rows (pm i))=(b:Rat):=by
  by_cases hk:i < ps.length
  ·exact ⟨1,by decide,bU,by rw[if_pos hk];rfl⟩
  ·obtain ⟨b,x1,x2,x3⟩:=F.bot (B.rng i hi);exact ⟨b,x1,x2,by rw[if_neg hk,x3]⟩
 have eD:d*(b:Rat)=((y*b:Int):Rat):=by rw[aN,ey,aS]
 refine ⟨(y*b).natAbs,?_,?_,λc=>?_⟩
 ·rw[eT,de];exact bR (by lia) b0
 ·rw[eT,de,aU];exact aE yb b1
 ·obtain ⟨z,ez,bz⟩:=lb c;rw[v i hi c,eb];refine S0 ez eD (λq=>?_) bz;rw[eD] at q;have:=sS q;rcases Int.mul_eq_zero.mp this with q | q
  ·exact y0 q
  ·lia
end
theorem kW (h:Tp M W x) (h0:0 < M) (h1:M<=2^199750) (h2:W<=2^199750):kN x:=by
 refine ⟨?_,?_⟩
 ·obtain ⟨s,e,b⟩:=y8 h h0 (iq x) (Mq _) (wG h);have e2:(((nm x).1:Int):Rat)=(s:Rat):=by rw[<- e];exact mR x
  rw[dH.mp e2];exact br (ah b h2) (d6 (by decide) (by decide))
 ·have:=iT h0 (oq.mp (wG h));show ((x.den:Nat):Int).natAbs < _
  rw[de];exact br (ah this h1) (d6 (by decide) (by decide))
theorem Tp.mul (h:Tp M W x) (h':Tp M' W' y):Tp (M*M') (W*W') (x*y):=by
 obtain ⟨z,e,b⟩:=h;obtain ⟨z',e',b'⟩:=h';refine ⟨z*z',?_,by rw[eT];exact aE b b'⟩;rw[aN,<- e,<- e',tI];grind
theorem Qp (h:kN x) (h0:x≠0):kN (1 / x):=by
 have n0:x.num≠0:=λz=>h0 (Rat.num_eq_zero.mp z)
 have e:=mR x;have e1:(1 / x)*(x.num:Rat)=(x.den:Rat):=by rw[e];grind
 have t:Tp x.num.natAbs x.den (1 / x):=by
  rcases JW x.num with q | q
  ·refine ⟨x.den,?_,by simp⟩;have:((x.num.natAbs:Nat):Rat)=(x.num:Rat):=by rw[<- aS,<- q]
   rw[this,e1,aS]
  ·refine ⟨-(x.den:Int),?_,by simp⟩;have:((x.num.natAbs:Nat):Rat)=-(x.num:Rat):=by rw[<- aS,<- cZ];congr 1;lia
   rw[this,cZ,aS,<- e1];grind
 obtain ⟨h1,h2⟩:=h;have h1:x.num.natAbs < 2^200000:=h1;have h2:((x.den:Nat):Int).natAbs < 2^200000:=h2;rw[de] at h2;refine ⟨?_,?_⟩
 ·obtain ⟨s,e,b⟩:=y8 t (by lia) (iq (1 / x)) (Mq _) (wG t);have e2:(((nm (1 / x)).1:Int):Rat)=(s:Rat):=by rw[<- e];exact mR (1 / x)
  rw[dH.mp e2];exact br b h2
 ·have:=iT (show 0 < x.num.natAbs by lia) (oq.mp (wG t));show (((1 / x).den:Nat):Int).natAbs < _
  rw[de];exact br this h1
inductive BR (K:FG9) (vs:List V) (H:Hp) (Q:VK) (E9:XK):Prop
 | mk (u v:V) (x y:Rat):vs=[u,v]->cv K H x u->cv K H y v->kN x->kN y->y≠0->(∀r H',aB H H'->cv K H' (x / y) (.ref r)->Q (.ref r) H')->BR K vs H Q E9
theorem IS {K:FG9} (h:BR K vs H Q E):Qt K vs H Q E:=by
 obtain ⟨u,v,x,y,rfl,⟨p,rfl,hp⟩,⟨q,rfl,hq⟩,⟨s1,s2⟩,⟨s3,s4⟩,y0,k⟩:=h;have n0:(nm y).1≠0:=λz=>y0 (Rat.num_eq_zero.mp z)
 have px:=iq x;have py:=iq y;have e1:=pd x;have e2:=pd y;have dx:(((nm x).2:Int):Rat)≠0:=λz=>by have:=sS z;lia
 have dy:(((nm y).2:Int):Rat)≠0:=λz=>by have:=sS z;lia
 refine ⟨p,q,_,_,_,_,rfl,hp,hq,px,py,n0,s1,s2,s3,s4,λr H' s g=>k r H' s (cv.mk g ?_)⟩;by_cases hc:(nm y).1 < 0
 ·rw[if_pos hc,if_pos hc];refine lQ (by have:=xv px hc;lia) ?_;rw[DD,DD,aN,aN,e1,e2];show x / y*(((0:Int):Rat) - _)=((0:Int):Rat) - _
  grind
 ·rw[if_neg hc,if_neg hc];refine lQ (fV px (by lia)) ?_;rw[aN,aN,e1,e2];grind
inductive zj (K:FG9) (vs:List V) (H:Hp) (Q:VK) (E9:XK):Prop
 | mk (p q:Addr) (xs ys:List Rat):vs=[.ref p,.ref q]->cK K H p xs->cK K H q ys->ys.length=xs.length->xs.length<=1000->(∀x∈xs,kN x)->(∀y∈ys,kN y)->(∀r H',H r=none->aB H H'->cK K H' r (List.zipWith (λx y=>x - y) xs ys)->Q (.ref r) H')->zj K vs H Q E9
theorem Pa {xs ys:List Rat} (h:xs.length=ys.length):(List.zipWith (λx y=>x - y) xs ys).getD c 0=xs.getD c 0 - ys.getD c 0:=by
 rw[aa,aa,aa,bY];by_cases hc:c < xs.length
 ·rw[ae hc,ae (show c < ys.length by lia)];rfl
 ·rw[aR (by lia),aR (by lia)];show (0:Rat)=0 - 0
  grind
theorem EU {xs:List Rat}:(xs.map λy=>q*y).getD c 0=q*xs.getD c 0:=by
 rw[aa,aa,aA];cases xs[c]? with
 | none=>show (0:Rat)=q*0;grind
 | some x=>rfl
inductive BU (K:FG9) (vs:List V) (H:Hp) (Q:VK) (E9:XK):Prop
 | mk (p:Addr) (n:Nat) (H0:Hp) (R:LR9) (ps:List Nat):vs=[.ref p]->bf K H0 H p R->R.length<=100->n<=100->(∃rows,bG rows n R ps)->(∀r H',H r=none->aB H H'->H' r=some (.lst (du ps))->Q (.ref r) H')->BU K vs H Q E9
theorem J7 {xs ys:List Rat} (h:ys.length=xs.length):List.zipWith (λx y=>x - y) xs ys=(List.range xs.length).map λi=>xs.getD i 0 - ys.getD i 0:=by
 apply kM;intro i;rw[bY,aA];by_cases hi:i < xs.length
 ·rw[cu hi,ae hi,ae (show i < ys.length by lia)];simp [aa,ae hi,ae (show i < ys.length by lia)]
 ·rw[aR (show (List.range xs.length).length<=i by simp;lia),aR (show xs.length<=i by lia)];rfl
theorem zX {K:FG9} {rows:LR9} (pr:Paired (cW K H0 H) rows vs) (s:aB H H') (n:H q=none) (g:H' q=some (.lst vs)):bf K H0 H' q rows :=
 ⟨vs,g,Paired.imp' (λ_ _ z=>z.same s) pr,λz=>by
  obtain ⟨_,_,q',e,_,_,g',_⟩:=dE pr z;cases e;rw[n] at g';cases g'⟩
theorem Qo:kN 1:=kW (M:=1) (W:=1) ⟨1,by simp,by decide⟩ (by decide) bU bU
theorem bG.le (h:bG rows n R ps):ps.length<=n:=by
 obtain ⟨_,_,rr⟩:=h;rcases b8 n ps.length with z | z
 ·have inc:∀j,j < ps.length->j<=ps.getD j 0:=by
   intro j
   induction j with
   | zero=>intro _;exact a7 _
   | succ j ih =>
    intro hj;have:=ih (by lia);have:=rr.inc j (j+1) (by lia) hj
    lia
  have h1:=inc (ps.length - 1) (by lia);have h2:=rr.low (ps.length - 1) (by lia)
  lia
 ·exact z
theorem Tp.zero:Tp M W 0:=⟨0,by simp,by simp⟩
theorem Tp.add (h:Tp M W x) (h':Tp M W' y):Tp M (W+W') (x+y):=by
 obtain ⟨z,e,b⟩:=h;obtain ⟨z',e',b'⟩:=h';refine ⟨z+z',?_,ah (Int.natAbs_add_le _ _) (Nat.add_le_add b b')⟩;rw[tJ,<- e,<- e'];grind
theorem Tp.sum {M W:Nat} {f:Nat->Rat}:∀{k:Nat},(∀j,j < k->Tp M W (f j))->Tp M (k*W) (bx k f)
 | 0,_=>Tp.zero
 | k+1,h=>by
  have:=(Tp.sum (k:=k) λj hj=>h j (by lia)).add (h k (by lia));exact this.mono (by rw[dU];exact ar _)
theorem jB {xs:List Rat} (h:∀x∈xs,Tp M W x) (c:Nat):Tp M W (xs.getD c 0):=by
 by_cases hc:c < xs.length
 ·exact h _ (getD_in hc)
 ·rw[aa,aR (by lia)];exact Tp.zero
theorem NM (h:∀xs∈R,∀x∈xs,Tp M W x) (i c:Nat):Tp M W (bW R i c):=by
 unfold bW;by_cases hi:i < R.length
 ·exact jB (h _ (getD_in hi)) c
 ·rw[aa (l:=R),aR (by lia)];exact Tp.zero
theorem N4 (hM:0 < M) (h1:M<=2^215000) (hw:w<=215000) (tp:∀xs∈rows,∀x∈xs,Tp M (2^w) x) (hr:min rows.length n<=m) (h15:m<=15) (h89:m*(w+4)<=445000):DI rows n w :=
 ⟨M,2^w,hM,h1,bU,ar _,tp,hw,by lia,ah (ay _ hr) h89⟩
theorem Nf {K:FG9} {g:TG} (Pv:Nat->List V->Hp->Prop) (hz:xs.length<=sizeLine) (h0:Pv 0 [] H) (hl:∀i ys H,i<=xs.length->Pv i ys H->bB K H l xs)
  (hs:∀i x ys H p,xs[i]?=some x->ys.length<=i->Pv i ys H->H p=none->pP σ₀ g tf te (.ref p) (upd H p (.tup [.int i,x])) (λy H'=>Pv (i+1) (ys++[y]) H') (λH'=>Pv (i+1) ys H'))
  (hd:∀ys H,ys.length<=xs.length->Pv xs.length ys H->∀p,H p=none->Q (.ref p) (upd H p (.lst ys))):qG (Uz K l) σ₀ g tf te Q H:=by
 refine ⟨λi m ys H=>m=xs.length - i/\i<=xs.length/\ys.length<=i/\Pv i ys H,⟨xs.length,by simp,a7 _,a7 _,h0⟩,?_⟩;rintro i m ys H ⟨rfl,hi,hy,p⟩;have q1:=hl i ys H hi p;by_cases hlt:i < xs.length
 ·refine .inr ⟨⟨xs,xs[i],q1,by simp [hlt]⟩,by lia,λy H'=>Pv (i+1) (ys++[y]) H',λH'=>Pv (i+1) ys H',λy H' p'=>⟨xs.length - (i+1),by lia,rfl,hlt,by rw[ai,aQ];lia,p'⟩,λH' p'=>⟨xs.length - (i+1),by lia,rfl,hlt,by lia,p'⟩,λx H' y=>?_⟩;obtain ⟨r,x',rfl,hr,rfl,e1⟩:=y;exact hs i x' ys _ r (e1 xs q1) hy p hr
 ·have e:i=xs.length:=by lia
  subst e;exact .inl ⟨⟨xs,q1,ar _⟩,by lia,hd ys H hy p⟩
section
variable {X:Cx}
theorem Ng (hc:X.calm=true):sW X (.builtin "min") (λxs H Q=>∃(p:Addr) (ns:List Int),xs=[.ref p]/\bB X.K H p (ns.map V.int)/\0 < ns.length/\∀M,M∈ns->(∀a,a∈ns->M<=a)->Q (.int M) H):=by
 intro pins s σ H xs us Q I r h;obtain ⟨p,ns,rfl,hp,hne,q⟩:=h;obtain ⟨u,rfl,ru⟩:=vals1 r;cases ru;obtain ⟨its,r2,pl,_⟩:=I.list hp;have hi:=intsAre_of r2;have hl:=pl.isList;obtain ⟨xs,e⟩:=hi.allInts.items
 have hns:ns=xs.toList.map (·.1):=by
  rw[<- hi.numsOf,<- nums_intItems,<- e]
 have hsz:0 < xs.size:=by
  have h3:=hne;rw[hns,ag,Array.length_toList] at h3;exact h3
 rw[e] at hl;refine min_intList (I.ok.hd hc) hl hsz λv h' tk hv hk=>?_
 obtain ⟨t,rfl⟩:=intItems_at hv;obtain ⟨h1,h2⟩:=argBest_lt (numAt xs) (xs.size - 1);refine ⟨.int _,H,I.kept hk,⟨_,rfl⟩,q _ ?_ λa ha=>?_⟩
 ·rw[hns,numAt_eq];exact getD_in (by rw[ag,Array.length_toList];lia)
 ·rw[hns] at ha;obtain ⟨j,hj,rfl⟩:=mem_getD ha;rw[ag,Array.length_toList] at hj;rw[<- numAt_eq];exact h2 j (by lia)
theorem DS (K:FG9) (hK:X.K=K):yW X (compareOp .NotIn) (Wh K true):=by subst hK;exact Gi
end
theorem Jj {j:Nat}:V3 (.int (j:Int)) (du ps)=decide (j∈ps):=by
 unfold V3 du;rw[List.any_map,mZ,List.any_eq_true,decide_eq_true_iff];constructor
 ·rintro ⟨x,hx,e⟩;have e:((x:Int) == (j:Int))=true:=e;have:(x:Int)=j:=by simpa using e
  have:x=j:=by lia
  rw[<- this];exact hx
 ·intro h;exact ⟨j,h,by show ((j:Int) == (j:Int))=true;simp⟩
theorem EM:(du ps).all yd=true:=by
 unfold du;rw[List.all_map];exact qI.mpr λ_ _=>rfl
theorem nO:(du ps).length=ps.length:=ag ..
def LK (ps:List Nat):List Int:=ps.map λ(j:Nat)=>(j:Int)
theorem MT:du ps=(LK ps).map V.int:=by unfold du LK;rw[jJ];rfl
theorem xV {i:Nat} (h:(du ps)[i]?=some v):∃j,ps[i]?=some j/\v=V.int (j:Int):=by
 unfold du at h;rw[aA] at h;cases e:ps[i]? with
 | none=>rw[e] at h;cases h
 | some x=>rw[e] at h;exact ⟨x,rfl,(bS h).symm⟩
def xu (xs:List Rat) (i:Nat):List Nat:=(List.range i).filter λc=>decide (xs.getD c 0≠0)
theorem oE:xu xs (i+1)=if xs.getD i 0≠0 then xu xs i++[i] else xu xs i:=by
 unfold xu;rw[iI,List.filter_append];by_cases h:xs.getD i 0≠0
 ·rw[if_pos h,VW (by simpa using h)];rfl
 ·rw[if_neg h,VX (by simpa using h)];simp
def Bv (ps:List Nat) (i:Nat):List Nat:=(List.range i).filter λc=>decide (c∉ps)
theorem C5:Bv ps (i+1)=if i∉ps then Bv ps i++[i] else Bv ps i:=by
 unfold Bv;rw[iI,List.filter_append];by_cases h:i∉ps
 ·rw[if_pos h,VW (by simpa using h)];rfl
 ·rw[if_neg h,VX (by simpa using h)];simp
theorem Uq:(Bv ps i).length<=i:=by
 unfold Bv;exact ah (List.length_filter_le ..) (by rw[bL];exact ar _)
inductive Iy (K:FG9) (vs:List V) (H:Hp) (Q:VK) (E9:XK):Prop
 | mk (p:Addr) (xs:List Rat) (j:Nat):vs=[.ref p]->cK K H p xs->xs.length<=1000->j < xs.length->xs.getD j 0≠0->(∀c,c < j->xs.getD c 0=0)->(∀H',aB H H'->Q (.int (j:Int)) H')->Iy K vs H Q E9
inductive Iz (K:FG9) (vs:List V) (H:Hp) (Q:VK) (E9:XK):Prop
 | mk (p:Addr) (n:Nat) (H0:Hp) (R:LR9) (ps:List Nat):vs=[.ref p,.int n]->bf K H0 H p R->R.length<=100->n<=100->(∃rows,bG rows n R ps)->(∀r H',H r=none->aB H H'->H' r=some (.lst (du (Bv ps n)))->Q (.ref r) H')->Iz K vs H Q E9
def LC (R:LR9) (ps:List Nat) (n at_ j:Nat):List Rat:=(List.range n).map λc=>if c=at_ then 1 else bx j λi=>if ps.getD i 0=c then -(bW R i at_) else 0
def Nw (R:LR9) (ps:List Nat) (n at_:Nat):List Rat:=LC R ps n at_ ps.length
def dF (R:LR9) (ps:List Nat) (n:Nat):LR9:=(Bv ps n).map (Nw R ps n)
section
variable {R rows:LR9} {ps:List Nat} {n a j:Nat}
theorem uI:(LC R ps n a j).length=n:=by unfold LC;rw[ag,bL]
theorem Sq (h:c < n):(LC R ps n a j).getD c 0=if c=a then 1 else bx j λi=>if ps.getD i 0=c then -(bW R i a) else 0:=by
 unfold LC;rw[aa,aA,cu h];rfl
theorem Rn:LC R ps n a 0=SX n a:=by
 unfold LC SX;refine eV λc _=>?_
 by_cases e:c=a
 ·subst e;simp
 ·rw[if_neg e];show (0:Rat)=_
  have:¬(c:Int)=(a:Int):=by lia
  simp [this]
theorem Rp (RR:bG rows n R ps) (hj:j < ps.length) (ha:a∉ps):(LC R ps n a j).set (ps.getD j 0) (-(bW R j a))=LC R ps n a (j+1):=by
 obtain ⟨_,_,rr⟩:=RR;have low:=rr.low j hj;have pm:ps.getD j 0∈ps:=getD_in hj;apply c4 (by rw[fe,uI,uI]);intro c h1 h2;rw[uI] at h2;have e1:(LC R ps n a j)[c]'(by rw[uI];exact h2)=if c=a then 1 else bx j λi=>if ps.getD i 0=c then -(bW R i a) else 0:=by simp only[LC,cC,ik]
 have e2:(LC R ps n a (j+1))[c]'(by rw[uI];exact h2)=if c=a then 1 else bx (j+1) λi=>if ps.getD i 0=c then -(bW R i a) else 0:=by simp only[LC,cC,ik]
 rw[List.getElem_set,e2];have es:bx (j+1) (λi=>if ps.getD i 0=c then -(bW R i a) else 0)=bx j (λi=>if ps.getD i 0=c then -(bW R i a) else 0)+if ps.getD j 0=c then -(bW R j a) else 0:=rfl
 by_cases q:ps.getD j 0=c
 ·rw[if_pos q,if_neg (λz=>ha (by rw[<- z,<- q];exact pm)),es,if_pos q,dd λi hi=>?_,Rat.zero_add];rw[if_neg];intro z;have:=rr.inc i j hi hj
  lia
 ·rw[if_neg q,e1];by_cases z:c=a
  ·rw[if_pos z,if_pos z]
  ·rw[if_neg z,if_neg z,es,if_neg q,lU]
theorem Rv (hc:c < n) (hp:c∉ps):(Nw R ps n a).getD c 0=if c=a then 1 else 0:=by
 unfold Nw;rw[Sq hc];by_cases e:c=a
 ·rw[if_pos e,if_pos e]
 ·rw[if_neg e,if_neg e,dd λi hi=>?_];rw[if_neg (λz=>hp (by rw[<- z];exact getD_in hi))]
theorem cO:∀{xs ys:List Rat},xs.length=ys.length->cB xs ys=bx xs.length λc=>xs.getD c 0*ys.getD c 0:=by
 intro xs ys h
 have key:∀k,k<=xs.length->cB (xs.take k) (ys.take k)=bx k λc=>xs.getD c 0*ys.getD c 0:=by
  intro k
  induction k with
  | zero=>intro _;rfl
  | succ k ih =>
   intro hk;rw[E2 (by lia) (by lia),ih (by lia)];rfl
 have:=key xs.length (ar _);rwa [aG (ar _),aG (by lia)] at this
theorem T8 (RR:bG rows n R ps) (ha:a < n) (hp:a∉ps) {i:Nat} (hr:rows[i]?=some row) (hw:row.length=n):cB row (Nw R ps n a)=0:=by
 obtain ⟨_,_,rr⟩:=RR;have hi:=(az.mp hr).1;have ef:∀c,bW rows i c=row.getD c 0:=λc=>by unfold bW;rw[aa (l:=rows),hr];rfl
 have co:=rr.coef (rr.span i hi) a;rw[ef] at co;rw[cO (by unfold Nw;rw[uI,hw]),hw]
 have e1:bx n (λc=>row.getD c 0*(Nw R ps n a).getD c 0)=bx n (λc=>(if c=a then row.getD a 0 else 0)+bx ps.length λj=>if ps.getD j 0=c then row.getD (ps.getD j 0) 0*-(bW R j a) else 0):=by
  refine aO λc hc=>?_
  unfold Nw;rw[Sq hc];by_cases e:c=a
  ·rw[if_pos e,if_pos e,e,dd λj hj=>?_]
   ·grind
   ·rw[if_neg (λz=>hp (by rw[<- z];exact getD_in hj))]
  ·rw[if_neg e,if_neg e,<- cU,Rat.zero_add];refine aO λj _=>?_
   split
   ·rename_i q;rw[q]
   ·grind
 rw[e1,m7,iB (i:=a) ha (λj _ ne=>if_neg ne),if_pos rfl,<- fX]
 have e2:bx ps.length (λj=>bx n λc=>if ps.getD j 0=c then row.getD (ps.getD j 0) 0*-(bW R j a) else 0)=bx ps.length λj=>-1*(bW rows i (ps.getD j 0)*bW R j a):=by
  refine aO λj hj=>?_
  rw[iB (i:=ps.getD j 0) (rr.low j hj) λc _ ne=>if_neg λz=>ne z.symm,if_pos rfl,ef];grind
 rw[e2,cU,co];grind
theorem Vq (h0:0 < M) (hW:M<=W) (tp:∀xs∈R,∀x∈xs,Tp M W x) (RR:bG rows n R ps):∀x∈Nw R ps n a,Tp M W x:=λx hx=>by
 obtain ⟨_,_,rr⟩:=RR;obtain ⟨c,hc,rfl⟩:=aw.mp hx
 split
 ·exact ⟨M,by rw[Rat.one_mul,aS],by simpa using hW⟩
 ·by_cases hp:∃j,j < ps.length/\ps.getD j 0=c
  ·obtain ⟨j,hj,e⟩:=hp;rw[iB hj λi hi ne=>if_neg λz=>?_,if_pos e]
   ·obtain ⟨z,ez,b⟩:=NM tp j a;exact ⟨-z,by rw[cZ,<- ez];grind,by rw[kS];exact b⟩
   ·rcases eQ i j with q | q | q
    ·have:=rr.inc i j q hj;lia
    ·exact ne q
    ·have:=rr.inc j i q hi;lia
  ·rw[dd λj hj=>if_neg λz=>hp ⟨j,hj,z⟩];exact Tp.zero
theorem Ho:c∈Bv ps n↔c < n/\c∉ps:=by
 unfold Bv;rw[mX,cP,decide_eq_true_iff]
end
inductive Eu (K:FG9) (vs:List V) (H:Hp) (Q:VK) (E9:XK):Prop
 | mk (p:Addr) (n a:Nat) (H0:Hp) (R:LR9) (ps:List Nat):vs=[.ref p,.int n,.int a]->bf K H0 H p R->R.length<=100->n<=100->(∃rows,bG rows n R ps)->a < n->a∉ps->(∀xs∈R,∀x∈xs,kN x)->(∀r H',H r=none->aB H H'->cK K H' r (Nw R ps n a)->Q (.ref r) H')->Eu K vs H Q E9
theorem NV:kN 0:=kW (M:=1) (W:=1) Tp.zero (by decide) bU bU
theorem zQ (h:xs∈dF R ps n):∃a,a < n/\a∉ps/\xs=Nw R ps n a:=by
 obtain ⟨a,ha,rfl⟩:=aw.mp h;obtain ⟨h1,h2⟩:=Ho.mp ha;exact ⟨a,h1,h2,rfl⟩
def Uh:Kind Str where
 R:=λ_ _ x i=>x=.str i
 d:=0
 inj:=λ_ h1 h2=>by rw[h1] at h2;cases h2;rfl
 rc:=λ{X pins σ H s x y v u a b A} I rx ry h1 h2 _=>by
  subst h1 h2;obtain ⟨t,rfl⟩:=rx;obtain ⟨t',rfl⟩:=ry;have q:=SeqAt.RcAt.str_str (A:=A) (s:=s) a t b t';rwa [ir] at q
 ne:=λ{X pins σ H s x y v u a b A} I rx ry h1 h2 _=>by
  subst h1 h2;obtain ⟨t,rfl⟩:=rx;obtain ⟨t',rfl⟩:=ry;have q:=SeqAt.RcNeAt.str_str (A:=A) (s:=s) a t b t';rwa [ir] at q
 eq:=λ{X pins σ H s x y v u a b A} I rx ry h1 h2 _=>by
  subst h1 h2;obtain ⟨t,rfl⟩:=rx;obtain ⟨t',rfl⟩:=ry;have q:=SeqAt.EqAt.str_str (A:=A) (s:=s) a t b t';rwa [ir] at q
theorem RL {q:Rat} (h:q.den<=9):q.den∣2520:=by
 have:=q.den_pos;generalize q.den=d at h this;have:d=1\/d=2\/d=3\/d=4\/d=5\/d=6\/d=7\/d=8\/d=9:=by lia
 rcases this with rfl | rfl | rfl | rfl | rfl | rfl | rfl | rfl | rfl <;> decide
theorem K2 (h:Dr 9 q) (hM:2520∣M):Fr M 9 q:=(Fr.own q h.1).dvd (mM (RL h.2) hM)
def eZ (rows:LR9) (due:List Rat):LR9:=List.zipWith (λrow d=>row++[d]) rows due
def xD (R:LR9) (ps:List Nat) (n j:Nat):List Rat:=(List.range n).map λc=>bx j λi=>if ps.getD i 0=c then bW R i n else 0
def j5 (R:LR9) (ps:List Nat) (n:Nat):List Rat:=xD R ps n ps.length
section
variable {rows R:LR9} {due xs:List Rat} {ps:List Nat} {n j:Nat}
theorem GX (h:due.length=rows.length):(eZ rows due).length=rows.length:=by unfold eZ;rw[aY];lia
theorem GW (h:∀xs∈rows,xs.length=n):∀xs∈eZ rows due,xs.length=n+1:=λxs hx=>by
 unfold eZ at hx;obtain ⟨i,hi,rfl⟩:=bO hx;rw[eh,ai,h _ (aI _)];rfl
theorem Sw {i:Nat} (h1:rows[i]?=some row) (h2:due[i]?=some d):(eZ rows due)[i]?=some (row++[d]):=by
 unfold eZ;rw[bY,h1,h2]
theorem O2 (hd:due.length=rows.length) (hw:∀xs∈rows,xs.length=n) (hi:i < rows.length):(∀c,c < n->bW (eZ rows due) i c=bW rows i c)/\bW (eZ rows due) i n=due.getD i 0:=by
 have e1:=ae hi;have e2:=ae (show i < due.length by lia);have ej:=Sw e1 e2;have wi:=hw _ (aI hi);refine ⟨λc hc=>?_,?_⟩
 ·unfold bW;rw[aa (l:=eZ rows due),ej,aa (l:=rows),e1];show (rows[i]++[due[i]]).getD c 0=(rows[i]).getD c 0
  rw[aa,aa,bM (by lia)]
 ·unfold bW;rw[aa (l:=eZ rows due),ej,aa (l:=due),e2];show (rows[i]++[due[i]]).getD n 0=due[i]
  rw[aa,bg (by lia),wi,gV];rfl
theorem mh:(xD R ps n j).length=n:=by unfold xD;rw[ag,bL]
theorem U5 (h:c < n):(xD R ps n j).getD c 0=bx j λi=>if ps.getD i 0=c then bW R i n else 0:=by
 unfold xD;rw[aa,aA,cu h];rfl
theorem Qu:xD R ps n 0=List.replicate n 0:=by
 unfold xD;show (List.range n).map (λ_=>(0:Rat))=_
 rw[Qa,bL]
theorem Qv (RR:bG J (n+1) R ps) (hj:j < ps.length):(xD R ps n j).set (ps.getD j 0) (bW R j n)=xD R ps n (j+1):=by
 obtain ⟨_,_,rr⟩:=RR;apply c4 (by rw[fe,mh,mh]);intro c h1 h2;rw[mh] at h2;have e1:(xD R ps n j)[c]'(by rw[mh];exact h2)=bx j λi=>if ps.getD i 0=c then bW R i n else 0:=by simp only[xD,cC,ik]
 have e2:(xD R ps n (j+1))[c]'(by rw[mh];exact h2)=bx j (λi=>if ps.getD i 0=c then bW R i n else 0)+if ps.getD j 0=c then bW R j n else 0:=by simp only[xD,cC,ik];rfl
 rw[List.getElem_set,e2];by_cases q:ps.getD j 0=c
 ·rw[if_pos q,if_pos q,dd λi hi=>?_,Rat.zero_add];rw[if_neg];intro z;have:=rr.inc i j hi hj
  lia
 ·rw[if_neg q,if_neg q,e1,lU]
theorem Kj (hd:due.length=rows.length) (hw:∀xs∈rows,xs.length=n) (RR:bG (eZ rows due) (n+1) R ps) (hn:n∉ps) (hr:rows[i]?=some row):cB row (j5 R ps n)=due.getD i 0:=by
 obtain ⟨_,_,rr⟩:=RR;have hi:=(az.mp hr).1;have wr:=hw row (ak hr);have ef:∀c,bW rows i c=row.getD c 0:=λc=>by unfold bW;rw[aa (l:=rows),hr];rfl
 obtain ⟨f1,f2⟩:=O2 hd hw hi
 have low:∀j,j < ps.length->ps.getD j 0 < n:=λj hj=>by
  have:=rr.low j hj;have:ps.getD j 0≠n:=λz=>hn (by rw[<- z];exact getD_in hj)
  lia
 have co:=rr.coef (rr.span i (by rw[GX hd];exact hi)) n;rw[f2] at co;rw[co,cO (by unfold j5;rw[mh,wr]),wr]
 have e1:bx n (λc=>row.getD c 0*(j5 R ps n).getD c 0)=bx n (λc=>bx ps.length λj=>if ps.getD j 0=c then row.getD (ps.getD j 0) 0*bW R j n else 0):=by
  refine aO λc hc=>?_
  unfold j5;rw[U5 hc,<- cU];refine aO λj _=>?_
  split
  ·rename_i q;rw[q]
  ·grind
 rw[e1,<- fX];refine aO λj hj=>?_
 rw[iB (i:=ps.getD j 0) (low j hj) λc _ ne=>if_neg λz=>ne z.symm,if_pos rfl,f1 _ (low j hj),ef]
theorem IF (hd:due.length=rows.length) (hw:∀xs∈rows,xs.length=n) (RR:bG (eZ rows due) (n+1) R ps) (hn:n∈ps):∃w:Nat->Rat,(∀c,c < n->bx rows.length (λi=>w i*bW rows i c)=0)/\bx rows.length (λi=>w i*due.getD i 0)=1:=by
 obtain ⟨_,_,rr⟩:=RR;obtain ⟨j,hj,ej⟩:=bO hn;have ejD:ps.getD j 0=n:=by rw[aa,ae hj];exact ej
 obtain ⟨w,hw'⟩:=rr.back j hj;rw[GX hd] at hw';refine ⟨w,λc hc=>?_,?_⟩
 ·have z:=rr.lead j hj c (by rw[ejD];exact hc);rw[hw' c] at z;rw[<- z];exact aO λi hi=>by rw[(O2 hd hw hi).1 c hc]
 ·have u:=rr.unit j hj j hj;rw[if_pos rfl,ejD,hw' n] at u;rw[<- u];exact aO λi hi=>by rw[(O2 hd hw hi).2]
theorem Tc (hd:due.length=rows.length) (hw:∀xs∈rows,xs.length=n) (RR:bG (eZ rows due) (n+1) R ps) {x:Nat->Rat} (hx:∀i,i < rows.length->bx n (λc=>bW rows i c*x c)=due.getD i 0):n∉ps:=λhn=>by
 obtain ⟨w,h1,h2⟩:=IF hd hw RR hn
 have e1:bx rows.length (λi=>w i*due.getD i 0)=bx rows.length (λi=>bx n λc=>x c*(w i*bW rows i c)):=aO λi hi=>by
  rw[<- hx i hi,<- cU];exact aO λc _=>by grind
 have e2:bx n (λc=>bx rows.length λi=>x c*(w i*bW rows i c))=0:=dd λc hc=>by
  rw[cU,h1 c hc];grind
 rw[e1,fX,e2] at h2;exact absurd h2 (by decide)
theorem Oe (h0:0 < M) (tp:∀xs∈R,∀x∈xs,Tp M W x) (RR:bG J (n+1) R ps):∀x∈j5 R ps n,Tp M W x:=λx hx=>by
 obtain ⟨_,_,rr⟩:=RR;obtain ⟨c,hc,rfl⟩:=aw.mp hx;by_cases hp:∃j,j < ps.length/\ps.getD j 0=c
 ·obtain ⟨j,hj,e⟩:=hp;rw[iB hj λi hi ne=>if_neg λz=>?_,if_pos e]
  ·exact NM tp j n
  ·rcases eQ i j with q | q | q
   ·have:=rr.inc i j q hj;lia
   ·exact ne q
   ·have:=rr.inc j i q hi;lia
 ·rw[dd λj hj=>if_neg λz=>hp ⟨j,hj,z⟩];exact Tp.zero
end
inductive BQ (K:FG9) (vs:List V) (H:Hp) (Q:VK) (E9:XK):Prop
 | mk (p q:Addr) (n w:Nat) (H0:Hp) (rows:LR9) (due:List Rat):vs=[.ref p,.int n,.ref q]->bf K H0 H p rows->cK K H q due->due.length=rows.length->rows.length<=99->n<=99->(∀xs∈rows,xs.length=n)->DI (eZ rows due) (n+1) w->((∀x R ps M H',bG (eZ rows due) (n+1) R ps->n∉ps->H x=none->aB H H'->cK K H' x (j5 R ps n)->0 < M->M<=2^(min rows.length (n+1)*(w+4))->(∀y∈j5 R ps n,Tp M (2^(min rows.length (n+1)*(w+4))) y)->Q (.ref x) H')/\(∀R ps H',bG (eZ rows due) (n+1) R ps->n∈ps->aB H H'->Q .non H'))->BQ K vs H Q E9
def zb (rows:LR9) (n:Nat) (due:List Rat):LR9:=eZ (aW rows n++[due]) (List.replicate n 0++[1])
inductive Eo (K:FG9) (vs:List V) (H:Hp) (Q:VK) (E9:XK):Prop
 | mk (p q:Addr) (n w w':Nat) (H0:Hp) (rows:LR9) (due:List Rat):vs=[.ref p,.int n,.ref q]->bf K H0 H p rows->cK K H q due->due.length=rows.length->rows.length<=90->n<=90->(∀xs∈rows,xs.length=n)->DI (eZ rows due) (n+1) w->DI (zb rows n due) (rows.length+1) w'->((∀t x R ps M H',bG (eZ rows due) (n+1) R ps->n∉ps->H' t=some (.tup [.str (Str.ofString "yes"),.ref x])->H x=none->aB H H'->cK K H' x (j5 R ps n)->0 < M->M<=2^(min rows.length (n+1)*(w+4))->(∀y∈j5 R ps n,Tp M (2^(min rows.length (n+1)*(w+4))) y)->Q (.ref t) H')/\(∀t x R ps R' ps' M H',bG (eZ rows due) (n+1) R ps->n∈ps->bG (zb rows n due) (rows.length+1) R' ps'->rows.length∉ps'->H' t=some (.tup [.str (Str.ofString "no"),.ref x])->H x=none->aB H H'->cK K H' x (j5 R' ps' rows.length)->0 < M->M<=2^(min (n+1) (rows.length+1)*(w'+4))->(∀y∈j5 R' ps' rows.length,Tp M (2^(min (n+1) (rows.length+1)*(w'+4))) y)->Q (.ref t) H'))->Eo K vs H Q E9
theorem EI (hd:due.length=rows.length) (hw:∀xs∈rows,xs.length=n) (RR:bG (eZ rows due) (n+1) R ps) (hn:n∈ps) (RR':bG (zb rows n due) (rows.length+1) R' ps'):rows.length∉ps':=by
 obtain ⟨w,h1,h2⟩:=IF hd hw RR hn;have l1:(aW rows n++[due]).length=n+1:=by rw[ai,bZ];rfl
 have w1:∀xs∈aW rows n++[due],xs.length=rows.length:=λxs hx=>by
  rcases av.mp hx with hx | hx
  ·exact kU xs hx
  ·rw[bV.mp hx];exact hd
 refine Tc (x:=w) (by rw[l1,ai,bA];rfl) w1 RR' λi hi=>?_
 rw[l1] at hi;by_cases e:i < n
 ·have e1:∀c,bW (aW rows n++[due]) i c=bW rows c i:=λc=>by
   unfold bW;rw[aa (l:=aW rows n++[due]),bM (by rw[bZ];exact e)];unfold aW;rw[aA,cu e];show (rows.map λxs=>xs.getD i 0).getD c 0=_
   rw[aa,aA,aa (l:=rows)];cases rows[c]? with
   | none=>rfl
   | some y=>rfl
  have e2:(List.replicate n (0:Rat)++[1]).getD i 0=0:=by
   rw[aa,bM (by rw[bA];exact e),oo,if_pos e];rfl
  rw[e2,<- h1 i e];exact aO λc _=>by rw[e1];grind
 ·have ei:i=n:=by lia
  subst ei
  have e1:∀c,bW (aW rows i++[due]) i c=due.getD c 0:=λc=>by
   unfold bW;rw[aa (l:=aW rows i++[due]),bg (by rw[bZ];exact ar _),bZ,gV];rfl
  have e2:(List.replicate i (0:Rat)++[1]).getD i 0=1:=by
   rw[aa,bg (by rw[bA];exact ar _),bA,gV];rfl
  rw[e2,<- h2];exact aO λc _=>by rw[e1];grind
theorem Je:((List.range n).map λ_=>(0:Rat))=List.replicate n 0:=by rw[Qa,bL]
def Ta (K:FG9):Sp:=λvs H Q _=>∃m:Nat,vs=[.int m]/\m<=100/\∀r H',H r=none->aB H H'->cK K H' r (List.replicate m 0)->Q (.ref r) H'
def Ka (rows:LR9) (ws:List Rat) (n j:Nat):List Rat:=(List.range n).map λc=>bx j λi=>ws.getD i 0*bW rows i c
def NJ (rows:LR9) (ws:List Rat) (n:Nat):List Rat:=Ka rows ws n ws.length
section
variable {rows:LR9} {ws xs row:List Rat} {n j:Nat}
theorem wF:(Ka rows ws n j).length=n:=by unfold Ka;rw[ag,bL]
theorem R9 (h:j < j+1) (hc:c < (Ka rows ws n j).length):(Ka rows ws n j)[c]=bx j λi=>ws.getD i 0*bW rows i c:=by
 simp only[Ka,cC,ik]
theorem Qh:Ka rows ws n 0=List.replicate n 0:=Je
theorem Qi (hx:rows[j]?=some xs) (hp:ws[j]?=some w) (hw:xs.length=n):List.zipWith (λx y=>x+y) (Ka rows ws n j) (xs.map λy=>w*y)=Ka rows ws n (j+1):=by
 apply c4 (by rw[aY,wF,wF,ag];lia);intro c h1 h2;rw[wF] at h2;rw[eh,cC,R9 (by lia),R9 (by lia)];show _=bx j _+_
 congr 1;have e1:ws.getD j 0=w:=by rw[aa,hp];rfl
 have e2:bW rows j c=xs[c]'(by lia):=by
  unfold bW;rw[aa (l:=rows),hx];show xs.getD c 0=_
  rw[aa,ae (by lia)];rfl
 dsimp only
 rw[e1,e2]
theorem Lf (hc:c < n):(NJ rows ws n).getD c 0=bx ws.length λi=>ws.getD i 0*bW rows i c:=by
 unfold NJ Ka;rw[aa,aA,cu hc];rfl
theorem Jo (h:xs.length=ws.length):cB xs ws=cB ws xs:=by
 rw[cO h,cO h.symm,h];exact aO λc _=>dM ..
theorem Ie (hc:c < n):(aW rows n)[c]?=some (rows.map λxs=>xs.getD c 0):=by
 unfold aW;rw[aA,cu hc];rfl
theorem OT:(rows.map λxs=>xs.getD c 0).getD i 0=bW rows i c:=by
 unfold bW;rw[aa,aA,aa (l:=rows)];cases rows[i]? with
 | none=>rfl
 | some y=>rfl
end
theorem Sv {M V:Nat} (h1:∀xs∈rows,∀x∈xs,Fr M V x) (h2:∀x∈due,Fr M V x):∀xs∈eZ rows due,∀x∈xs,Fr M V x:=λxs hx x hx'=>by
 unfold eZ at hx;obtain ⟨i,hi,rfl⟩:=bO hx;rw[eh] at hx';rcases av.mp hx' with h | h
 ·exact h1 _ (aI _) x h
 ·rw[bV.mp h];exact h2 _ (aI _)
theorem Fr.up {M V M' V':Nat} (h:Fr M V x) (hd:M∣M') (hv:V<=V'):Fr M' V' x:=(h.dvd hd).mono hv
section
variable {rows R:LR9} {due:List Rat} {ps:List Nat} {n:Nat}
theorem MH (hd:due.length=rows.length) (hw:∀xs∈rows,xs.length=n) (RR':bG (zb rows n due) (rows.length+1) R' ps') (hn:rows.length∉ps'):cB (j5 R' ps' rows.length) due=1/\NJ rows (j5 R' ps' rows.length) n=List.replicate n 0:=by
 have l1:(aW rows n++[due]).length=n+1:=by rw[ai,bZ];rfl
 have w1:∀xs∈aW rows n++[due],xs.length=rows.length:=λxs hx=>by
  rcases av.mp hx with hx | hx
  ·exact kU xs hx
  ·rw[bV.mp hx];exact hd
 have l2:(List.replicate n (0:Rat)++[1]).length=(aW rows n++[due]).length:=by rw[l1,ai,bA];rfl
 have ls:(j5 R' ps' rows.length).length=rows.length:=mh;refine ⟨?_,?_⟩
 ·have:=Kj l2 w1 RR' hn (i:=n) (row:=due) (by rw[bg (by rw[bZ];exact ar _),bZ,gV];rfl);rw[Jo (by rw[ls,hd]),this,aa,bg (by rw[bA];exact ar _),bA,gV];rfl
 ·apply c4 (by unfold NJ;rw[wF,bA]);intro c h1 h2;rw[bA] at h2;have:=Kj l2 w1 RR' hn (i:=c) (by rw[bM (by rw[bZ];exact h2)];exact Ie h2);have e1:(NJ rows (j5 R' ps' rows.length) n).getD c 0=(NJ rows (j5 R' ps' rows.length) n)[c]:=by rw[aa,ae h1];rfl
  rw[List.getElem_replicate,<- e1,Lf h2,ls];rw[aa,bM (by rw[bA];exact h2),oo,if_pos h2,cO (by rw[ag,ls]),ag] at this;have e:bx rows.length (λi=>(j5 R' ps' rows.length).getD i 0*bW rows i c)=bx rows.length (λi=>(rows.map λxs=>xs.getD c 0).getD i 0*(j5 R' ps' rows.length).getD i 0):=aO λi _=>by rw[OT];grind
  rw[e,this];rfl
theorem Od (hd:due.length=rows.length) (hw:∀xs∈rows,xs.length=n) (RR:bG (eZ rows due) (n+1) R ps) (hn:n∉ps):(rows.map λys=>cB ys (j5 R ps n))=due:=by
 apply c4 (by rw[ag,hd]);intro i h1 h2;rw[cC,Kj hd hw RR hn (ae (by lia)),aa,ae h2];rfl
theorem RJ {M V D B:Nat} (h:ys.length=xs.length) (hx:∀x∈xs,Fr M V x) (hy:∀y∈ys,Fr D B y):Fr (M*D) (xs.length*(V*B)) (cB xs ys):=by
 rw[cO h.symm]
 have key:∀j,j<=xs.length->Fr (M*D) (j*(V*B)) (bx j λc=>xs.getD c 0*ys.getD c 0):=by
  intro j
  induction j with
  | zero=>intro _;exact Fr.zero
  | succ j ih =>
   intro hj;exact ((ih (by lia)).add ((hx _ (getD_in (by lia))).mul (hy _ (getD_in (by lia))))).mono (Nat.le_of_eq (dU j (V*B)).symm)
 exact key _ (ar _)
end
def rY (K:FG9) (P:Addr->Prop) (H:Hp) (xs:List Rat) (v:V):Prop:=∃q,v=.ref q/\P q/\cK K H q xs
section
variable {K:FG9} {P:Addr->Prop} {H H':Hp} {xs:List Rat} {v:V} {b l:Addr}
theorem rY.same (h:rY K P H xs v) (s:aB H H'):rY K P H' xs v:=by obtain ⟨q,a,c,d⟩:=h;exact ⟨q,a,c,d.same s⟩
theorem rY.updL (h:rY K P H xs v) (hl:H l=some (.lst ys)) (nb:∀q,P q->q≠l):rY K P (upd H l o) xs v:=by obtain ⟨q,a,c,d⟩:=h;exact ⟨q,a,c,d.updL hl (nb q c)⟩
theorem bf.ofE {rows:LR9} (g:H l=some (.lst us)) (h:Paired (rY K P H) rows us) (h0:∀q,P q->H0 q=none) (hn:∀q,P q->q≠l):bf K H0 H l rows :=
 ⟨us,g,Paired.imp' (λ_ _ ⟨q,a,c,d⟩=>⟨q,a,h0 q c,d⟩) h,λz=>by
  obtain ⟨_,_,q,e,c,_⟩:=dE h z;cases e;exact hn _ c rfl⟩
end
theorem uD {α β:Type} {F G:α->β->Prop}:∀{l1:List α} {l2:List β},(∀a b,b∈l2->F a b->G a b)->Paired F l1 l2->Paired G l1 l2
 | _,_,_,.nil=>.nil
 | _,_,h,.cons a r=>.cons (h _ _ (by simp) a) (uD (λx y hy=>h x y (by simp [hy])) r)
section
variable {rows rows' R R':LR9} {n w W:Nat} {ps ps':List Nat}
theorem ze (hw:∀xs∈rows,xs.length=n) (hW:1<=W) (ent:∀i,i < (rows.map iO).length->∀c,Fr 1 W (eJ (rows.map iO) i c)):∀P,P<=n->∃ls ps d,Fy (rows.map iO) n P ls ps d:=by
 intro P
 induction P with
 | zero=>intro _;exact ⟨_,_,_,Fy.start λzs hz=>by obtain ⟨x,hx,rfl⟩:=aw.mp hz;rw[pO];exact hw x hx⟩
 | succ P ih =>
  intro hP;obtain ⟨ls,ps,d,I⟩:=ih (by lia);by_cases e:∃t,ps.length<=t/\t < ls.length/\eJ ls t P≠0
  ·obtain ⟨t,h1,h2,h3⟩:=e;exact ⟨_,_,_,I.step hW ent h1 h2 h3⟩
  ·exact ⟨_,_,_,I.skip λi h1 h2=>by
    by_cases z:eJ ls i P=0
    ·exact z
    ·exact absurd ⟨i,h1,h2,z⟩ e⟩
theorem EG (hw:∀xs∈rows,xs.length=n) (F:DI rows n w):∃R ps d ls,Wt rows n w R ps d ls:=by
 obtain ⟨W,hW,W2,ent⟩:=F.ent;obtain ⟨ls,ps,d,I⟩:=ze hw hW ent n (ar _);obtain ⟨R,S⟩:=I.done hw F;exact ⟨R,ps,d,_,S⟩
theorem Om (hw:∀xs∈rows,xs.length=n) (F:DI rows n w) (RR:bG rows n R ps):ps.length<=rows.length/\∃M,0 < M/\M<=2^(min rows.length n*(w+4))/\∀xs∈R,∀x∈xs,Tp M (2^(min rows.length n*(w+4))) x:=by
 obtain ⟨R2,ps2,d,ls,S⟩:=EG hw F;obtain ⟨rfl,rfl⟩:=S.rr.same RR;exact ⟨S.km,d.natAbs,Int.natAbs_pos.mpr S.d0,S.dsz,S.tp⟩
theorem M5 {p q:Nat->Nat} (hp:∀i j,i < j->j < k->p i < p j) (hq:∀i j,i < j->j < k->q i < q j) (hs:∀i,i < k->∃j,j < k/\q j=p i):∀i,i < k->p i=q i:=by
 have hqm:∀i j,i<=j->j < k->q i<=q j:=λi j h hj=>by
  rcases b8 i j with z | z
  ·exact dh (hq i j z hj)
  ·have:i=j:=by lia
   rw[this];exact ar _
 have hqi:∀i j,i < k->j < k->q i < q j->i < j:=λi j hi hj h=>by
  rcases b8 i j with z | z
  ·exact z
  ·have:=hqm j i z hi
   lia
 have key:∀i,i < k->∀j,j < k->q j=p i->i<=j:=by
  intro i
  induction i with
  | zero=>intro _ j _ _;exact a7 _
  | succ i ih =>
   intro hi j hj e;obtain ⟨j',hj',e'⟩:=hs i (by lia);have h1:=ih (by lia) j' hj' e';have h2:=hp i (i+1) (by lia) hi;have:=hqi j' j hj' hj (by lia)
   lia
 have key2:∀t i,i+t+1=k->∀j,j < k->q j=p i->j<=i:=by
  intro t
  induction t with
  | zero=>intro i e j hj _;lia
  | succ t ih =>
   intro i e j hj ej;obtain ⟨j',hj',e'⟩:=hs (i+1) (by lia);have h1:=ih (i+1) (by lia) j' hj' e';have h2:=hp i (i+1) (by lia) (by lia);have:=hqi j j' hj hj' (by lia)
   lia
 intro i hi;obtain ⟨j,hj,e⟩:=hs i hi;have h1:=key i hi j hj e;have h2:=key2 (k - 1 - i) i (by lia) j hj e;have:j=i:=by lia
 rw[<- e,this]
theorem MD (h:bG rows n R ps) (h':bG rows' n R' ps') (hl:ps.length=ps'.length) (hs:∀i,i < ps.length->fP ps'.length (bW R') (bW R i)):R=R'/\ps=ps':=by
 obtain ⟨l1,w1,r1⟩:=h;obtain ⟨l2,w2,r2⟩:=h'
 have ep:∀i,i < ps.length->ps.getD i 0=ps'.getD i 0:=M5 r1.inc (by rw[hl];exact r2.inc) λi hi=>by
  have u:=r1.unit i hi i hi;rw[if_pos rfl] at u;obtain ⟨j,hj,e⟩:=r2.lead_in (hs i hi) (c:=ps.getD i 0) (by rw[u];decide) (λc hc=>r1.lead i hi c hc);exact ⟨j,by lia,e⟩
 have eps:ps=ps':=by
  apply c4 hl;intro i a b;have:=ep i a;rw[aa,aa,ae a,ae b] at this;exact this
 refine ⟨Pd (n:=n) (by lia) w1 w2 λi hi c=>?_,eps⟩;rw[l1] at hi;rw[r2.coef (hs i hi) c,<- hl,iB hi λj hj hj'=>?_]
 ·rw[<- ep i hi];have u:=r1.unit i hi i hi;rw[if_pos rfl] at u;rw[u];grind
 ·rw[<- ep j hj];have u:=r1.unit i hi j hj;rw[if_neg (Ne.symm hj')] at u;rw[u];grind
end
def ou (mv:LR9) (x:List Rat):List Rat:=mv.map λxs=>cB xs x
def kry (mv pt:LR9):Nat->LR9
 | 0=>[]
 | t+1=>pt++(kry mv pt t).map (ou mv)
section
variable {mv pt R R' S X Y:LR9} {n t m i c:Nat} {ps ps':List Nat} {a:Nat->Nat->Rat}
theorem rj:(ou mv x).length=mv.length:=ag ..
theorem OI (lm:mv.length=n) (wm:∀xs∈mv,xs.length=n) (wR:∀xs∈R,xs.length=n) (hi:i < R.length) (c:Nat):bW (R.map (ou mv)) i c=bx n λj=>bW mv c j*bW R i j:=by
 have wi:=wR _ (aI hi);have e1:(R.map (ou mv)).getD i []=ou mv R[i]:=by rw[aa,aA,ae hi];rfl
 have e2:R.getD i []=R[i]:=by rw[aa,ae hi];rfl
 by_cases hc:c < n
 ·have wc:=wm _ (aI (show c < mv.length by lia));have e3:mv.getD c []=mv[c]'(by lia):=by rw[aa,ae (by lia)];rfl
  have e4:(ou mv R[i]).getD c 0=cB (mv[c]'(by lia)) R[i]:=by
   unfold ou;rw[aa,aA,ae (by lia)];rfl
  unfold bW;rw[e1,e2,e3,e4,cO (by lia),wc]
 ·have e3:mv.getD c []=[]:=by rw[aa,aR (by lia)];rfl
  unfold bW
  rw[e1,e3,aa,aR (by rw[rj];lia),dd λj _=>by
   show ([]:List Rat).getD j 0*_=0
   rw[aa];show (0:Rat)*_=0
   grind]
  rfl
theorem BK (lm:mv.length=n) (wm:∀xs∈mv,xs.length=n) (wR:∀xs∈R,xs.length=n) (wS:∀xs∈S,xs.length=n) (hi:i < R.length) (h:fP S.length (bW S) (bW R i)):fP (S.map (ou mv)).length (bW (S.map (ou mv))) (bW (R.map (ou mv)) i):=by
 obtain ⟨w,hw⟩:=h;refine ⟨w,λc=>?_⟩;rw[OI lm wm wR hi,ag]
 have e1:bx n (λj=>bW mv c j*bW R i j)=bx n (λj=>bx S.length λs=>w s*(bW mv c j*bW S s j)):=aO λj _=>by
  rw[hw j,<- cU];exact aO λs _=>by grind
 rw[e1,fX];exact aO λs hs=>by rw[cU,OI lm wm wS hs]
theorem Ea (h:i < X.length):bW (X++Y) i=bW X i:=by
 funext c;unfold bW;rw[aa (l:=X++Y),bM h,<- aa]
theorem qo:bW (X++Y) (X.length+i)=bW Y i:=by
 funext c;unfold bW;rw[aa (l:=X++Y),bg (by lia),show X.length+i - X.length=i by lia,<- aa]
theorem xA (h1:∀i,i < X.length->fP m a (bW X i)) (h2:∀i,i < Y.length->fP m a (bW Y i)):∀i,i < (X++Y).length->fP m a (bW (X++Y) i):=λi hi=>by
 rw[ai] at hi;by_cases h:i < X.length
 ·rw[Ea h];exact h1 i h
 ·obtain ⟨j,rfl⟩:∃j,i=X.length+j:=⟨i - X.length,by lia⟩;rw[qo];exact h2 j (by lia)
theorem tQ (h:i < X.length):fP (X++Y).length (bW (X++Y)) (bW X i):=by
 have:=fP.row (a:=bW (X++Y)) (m:=(X++Y).length) (i:=i) (by rw[ai];lia);rwa [Ea h] at this
theorem pQ (h:fP Y.length (bW Y) x):fP (X++Y).length (bW (X++Y)) x:=fP.trans (λs hs=>by
 have:=fP.row (a:=bW (X++Y)) (m:=(X++Y).length) (i:=X.length+s) (by rw[ai];lia);rwa [qo] at this) h
theorem eG (lm:mv.length=n) (wp:∀xs∈pt,xs.length=n):∀t,∀xs∈kry mv pt t,xs.length=n:=by
 intro t
 induction t with
 | zero=>intro xs hx;cases hx
 | succ t ih =>
  intro xs hx;rcases av.mp hx with hx | hx
  ·exact wp xs hx
  ·obtain ⟨y,_,rfl⟩:=aw.mp hx;rw[rj,lm]
theorem xZ (lm:mv.length=n) (wm:∀xs∈mv,xs.length=n) (wp:∀xs∈pt,xs.length=n) (RR:bG (kry mv pt t) n R ps) (RR':bG (pt++R.map (ou mv)) n R' ps'):bG (kry mv pt (t+1)) n R' ps':=by
 have wk:=eG (mv:=mv) lm wp t;refine ⟨RR'.1,RR'.2.1,RR'.2.2.other ?_ ?_⟩
 ·refine xA (λi hi=>tQ hi) λi hi=>pQ ?_
  rw[ag] at hi;exact BK lm wm RR.2.1 wk hi (RR.2.2.back i (by rw[<- RR.1];exact hi))
 ·refine xA (λi hi=>tQ hi) λi hi=>pQ ?_
  rw[ag] at hi;have:=RR.2.2.span i hi;rw[<- RR.1] at this;exact BK lm wm wk RR.2.1 hi this
theorem OZ (lm:mv.length=n) (wm:∀xs∈mv,xs.length=n) (wp:∀xs∈pt,xs.length=n):∀t i,i < (kry mv pt t).length->fP (kry mv pt (t+1)).length (bW (kry mv pt (t+1))) (bW (kry mv pt t) i):=by
 intro t
 induction t with
 | zero=>intro i hi;cases hi
 | succ t ih =>
  refine xA (λi hi=>tQ hi) λi hi=>pQ ?_
  rw[ag] at hi;exact BK lm wm (eG lm wp t) (eG lm wp (t+1)) hi (ih i hi)
theorem CZ (lm:mv.length=n) (wm:∀xs∈mv,xs.length=n) (wp:∀xs∈pt,xs.length=n) (RR:bG (kry mv pt t) n R ps) (RR':bG (kry mv pt (t+1)) n R' ps'):∀i,i < ps.length->fP ps'.length (bW R') (bW R i):=λi hi =>
 fP.trans (λs hs=>RR'.2.2.span s hs) (fP.trans (OZ lm wm wp t) (RR.2.2.back i hi))
theorem ES (lm:mv.length=n) (wm:∀xs∈mv,xs.length=n) (wp:∀xs∈pt,xs.length=n) (RR:bG (kry mv pt t) n R ps) (RR':bG (pt++R.map (ou mv)) n R' ps') (hl:ps'.length=ps.length):∀s,bG (kry mv pt (t+s)) n R ps:=by
 have K1:=xZ lm wm wp RR RR';obtain ⟨e1,e2⟩:=MD RR K1 hl.symm (CZ lm wm wp RR K1);subst e1 e2;intro s
 induction s with
 | zero=>exact RR
 | succ s ih=>exact xZ lm wm wp ih RR'
theorem Jh (lm:mv.length=n) (wm:∀xs∈mv,xs.length=n) (wp:∀xs∈pt,xs.length=n) (RR:bG (kry mv pt t) n R ps) (RR':bG (kry mv pt (t+1)) n R' ps'):ps.length<=ps'.length:=by
 have h:=CZ lm wm wp RR RR'
 have hs:∀i,i < ps.length->∃j,j < ps'.length/\ps'.getD j 0=ps.getD i 0:=λi hi=>by
  have u:=RR.2.2.unit i hi i hi;rw[if_pos rfl] at u;exact RR'.2.2.lead_in (h i hi) (c:=ps.getD i 0) (by rw[u];decide) (λc hc=>RR.2.2.lead i hi c hc)
 rcases b8 ps'.length ps.length with z | z
 ·exfalso
  have key:∀i,i < ps.length->∀j,j < ps'.length->ps'.getD j 0=ps.getD i 0->i<=j:=by
   intro i
   induction i with
   | zero=>intro _ j _ _;exact a7 _
   | succ i ih =>
    intro hi j hj e;obtain ⟨j',hj',e'⟩:=hs i (by lia);have h1:=ih (by lia) j' hj' e';have h2:=RR.2.2.inc i (i+1) (by lia) hi;rcases b8 j' j with y | y
    ·lia
    ·rcases b8 j j' with x | x
     ·have:=RR'.2.2.inc j j' x hj'
      lia
     ·have:j=j':=by lia
      rw[this] at e
      lia
  obtain ⟨j,hj,e⟩:=hs (ps.length - 1) (by lia);have:=key (ps.length - 1) (by lia) j hj e
  lia
 ·exact z
theorem O0 {M V c:Nat} (lm:mv.length=n) (wm:∀xs∈mv,xs.length=n) (wp:∀xs∈pt,xs.length=n) (hc:(n+1)*V<=2^c) (fm:GF M V mv) (fp:GF M V pt):∀t,∀xs∈kry mv pt t,∀x∈xs,Fr (M^t) (2^(c*t)) x:=by
 intro t
 induction t with
 | zero=>intro xs hx;cases hx
 | succ t ih =>
  intro xs hx x hx';have hV:V<=2^c:=ah (eS _ (by lia)) hc;rcases av.mp hx with hx | hx
  ·refine Fr.up (fp xs hx x hx') (by rw[gW];exact ic _ _) (ah hV (au (by decide) (ee _ (by lia))))
  ·obtain ⟨y,hy,rfl⟩:=aw.mp hx;unfold ou at hx';obtain ⟨r,hr,rfl⟩:=aw.mp hx';have wr:=wm r hr;have wy:=eG (mv:=mv) lm wp t y hy;have f:=RJ (by lia) (fm r hr) (ih y hy);rw[gW,cy (M^t)];refine f.mono ?_;rw[fQ,PV,aU,cy (2^(c*t)),<- cM,wr];exact ay _ (ah (ay _ (by lia)) hc)
def tE (mv pt:LR9) (a c:Nat):Prop:=∃M V:Nat,0 < M/\M<=2^a/\(mv.length+1)*V<=2^c/\GF M V mv/\GF M V pt/\a<=400/\c<=40/\mv.length*(mv.length*(a+c)+4)<=1740/\mv.length*(mv.length*(mv.length*(a+c)+4)+a+c+4)<=445000
theorem tE.swf {a c:Nat} (F:tE mv pt a c) (D:mv.length<=8) (wm:∀xs∈mv,xs.length=mv.length) (wp:∀xs∈pt,xs.length=mv.length) (ht:t<=mv.length):DI (kry mv pt t) mv.length (mv.length*(a+c)):=by
 obtain ⟨M,V,M0,Ma,hV,fm,fp,a3,c3,e14,e89⟩:=F;have f:=O0 rfl wm wp hV fm fp t;have h1:mv.length*(a+c)<=8*440:=aE D (by lia);have hM:M^t<=2^(a*mv.length):=ah (mf Ma _) (by rw[<- yT];exact au (by decide) (aP _ ht));have h2:a*mv.length<=mv.length*(a+c):=by rw[cy];exact aP _ (by lia)
 have h3:mv.length=0\/mv.length*(a+c)<=1740:=by
  rcases jI mv.length with z | z
  ·exact .inl z
  ·right
   have:=eS (mv.length*(a+c)+4) z
   lia
 have h4:mv.length*(a+c)<=1740:=by
  rcases h3 with z | z
  ·rw[z];lia
  ·exact z
 refine ⟨M^t,2^(mv.length*(a+c)),jA M0,ah hM (au (by decide) (by lia)),bU,ar _,λxs hx x hx'=>Tp.of (f xs hx x hx') ?_,by lia,by lia,?_⟩
 ·refine ah (aE (au (by decide) (aP c ht)) hM) ?_;rw[<- aU];refine au (by decide) ?_;rw[cy c,cy a,<- fQ,oN c];exact ar _
 ·exact ah (ay _ (NB _ _)) (by lia)
theorem tE.tp {a c:Nat} (F:tE mv pt a c) (D:mv.length<=8) (wm:∀xs∈mv,xs.length=mv.length) (wp:∀xs∈pt,xs.length=mv.length) (ht:t<=mv.length) (RR:bG (kry mv pt t) mv.length R ps):∃M,0 < M/\M<=2^(mv.length*(mv.length*(a+c)+4))/\∀xs∈R,∀x∈xs,Tp M (2^(mv.length*(mv.length*(a+c)+4))) x:=by
 obtain ⟨_,M,h0,h1,h2⟩:=Om (eG rfl wp t) (F.swf D wm wp ht) RR;have le:2^(min (kry mv pt t).length mv.length*(mv.length*(a+c)+4))<=2^(mv.length*(mv.length*(a+c)+4)):=au (by decide) (ay _ (NB _ _));exact ⟨M,h0,ah h1 le,λxs hx x hx'=>(h2 xs hx x hx').mono le⟩
theorem tE.step {a c:Nat} (F:tE mv pt a c) (D:mv.length<=8) (wm:∀xs∈mv,xs.length=mv.length) (wp:∀xs∈pt,xs.length=mv.length) (ht:t<=mv.length) (RR:bG (kry mv pt t) mv.length R ps):DI (pt++R.map (ou mv)) mv.length (mv.length*(mv.length*(a+c)+4)+a+c):=by
 obtain ⟨N,N0,N1,tN⟩:=F.tp D wm wp ht RR;obtain ⟨M,V,M0,Ma,hV,fm,fp,a3,c3,e14,e89⟩:=F;generalize mv.length*(mv.length*(a+c)+4)=e at *
 have V1:V<=2^c:=ah (eS _ (by lia)) hV;have eW:(2:Nat)^(e+a+c)=2^c*(2^a*2^e):=by rw[<- aU,<- aU];congr 1;lia
 refine ⟨N*M,2^(e+a+c),bR N0 M0,?_,bU,ar _,λxs hx x hx'=>?_,by lia,by lia,?_⟩
 ·exact ah (aE N1 Ma) (by rw[<- aU];exact au (by decide) (by lia))
 ·rcases av.mp hx with hx | hx
  ·refine Tp.of ((fp xs hx x hx').scaleL N) ?_;rw[eW,cy N];exact aE V1 (aE Ma N1)
  ·obtain ⟨y,hy,rfl⟩:=aw.mp hx;unfold ou at hx';obtain ⟨r,hr,rfl⟩:=aw.mp hx';have wr:=wm r hr;have wy:=RR.2.1 y hy;rw[cO (by lia),wr];have t1:∀j,Tp M (V*M) (r.getD j 0):=λj=>jB (λx hx=>Tp.of (fm r hr x hx) (ar _)) j
   have t2:∀j,Tp N (2^e) (y.getD j 0):=λj=>jB (tN y hy) j
   have:=Tp.sum (k:=mv.length) (M:=N*M) (W:=V*M*2^e) (f:=λj=>r.getD j 0*y.getD j 0) λj _=>by
    have:=(t1 j).mul (t2 j);rwa [cy M N] at this
   refine this.mono ?_;rw[eW,cM V,<- cM mv.length];exact aE (ah (ay _ (by lia)) hV) (ay _ Ma)
 ·exact ah (ay _ (NB _ _)) (by rw[show e+a+c+4=e+a+c+4 from rfl];exact e89)
theorem tE.fit {a c:Nat} (F:tE mv pt a c) (D:mv.length<=8) (wm:∀xs∈mv,xs.length=mv.length) (wp:∀xs∈pt,xs.length=mv.length) (ht:t<=mv.length) (RR:bG (kry mv pt t) mv.length R ps):∀xs∈mv,∀r∈R,Ad xs r:=λxs hx r hr=>by
 obtain ⟨N,N0,N1,tN⟩:=F.tp D wm wp ht RR;obtain ⟨M,V,M0,Ma,hV,fm,fp,a3,c3,e14,e89⟩:=F;have V1:V<=2^c:=ah (eS _ (by lia)) hV;have p14:=au (show 0 < 2 by decide) e14;exact ⟨400,40,1740,1740,⟨M,V,M0,ah Ma (au (by decide) a3),ah V1 (au (by decide) c3),fm xs hx⟩,⟨N,2^1740,N0,ah N1 p14,ar _,λx hx=>((tN r hr x hx).mono p14).fr N0⟩,by decide⟩
end
inductive Ex (K:FG9) (C:Addr) (vs:List V) (H:Hp) (Q:VK) (E9:XK):Prop
 | mk (x p:Addr) (H0 H1:Hp) (mv pt lk R:LR9):vs=[.ref x,.ref p]->l9 K H0 H C x mv pt lk->fJ mv pt lk->bf K H1 H p R->R.length<=100->(∀r∈R,r.length=mv.length)->(∀xs∈mv,∀r∈R,Ad xs r)->(∀r H',H r=none->aB H H'->bf K H H' r (R.map (ou mv))->Q (.ref r) H')->Ex K C vs H Q E9
structure Dz (mv pt:LR9) (Rs:List (LR9)):Prop where
 ne:Rs≠[]
 rr:∀t R,Rs[t]?=some R->∃ps,bG (kry mv pt t) mv.length R ps
 up:∀t R R',Rs[t]?=some R->Rs[t+1]?=some R'->R.length < R'.length
def GrL (K:FG9) (H0 H:Hp) (l:Addr) (Rs:List (LR9)):Prop:=∃us,H l=some (.lst us)/\Paired (λR v=>∃q,v=V.ref q/\H0 q=none/\q≠l/\bf K H0 H q R) Rs us
inductive ED (K:FG9) (C:Addr) (vs:List V) (H:Hp) (Q:VK) (E9:XK):Prop
 | mk (x:Addr) (a c st:Nat) (H0:Hp) (mv pt lk:LR9):vs=[.ref x,.int st]->st<=1000->l9 K H0 H C x mv pt lk->fJ mv pt lk->tE mv pt a c->(∀r Rs H',H r=none->aB H H'->GrL K H H' r Rs->Dz mv pt Rs->Rs.length<=st+1->(∀R,Rs.getLast?=some R->∀s,(Rs.length - 1=st/\s=st\/Rs.length - 1 < st/\Rs.length - 1<=s)->∃ps,bG (kry mv pt s) mv.length R ps)->Q (.ref r) H')->ED K C vs H Q E9
inductive Ep (K:FG9) (C:Addr) (vs:List V) (H:Hp) (Q:VK) (E9:XK):Prop
 | mk (x:Addr) (a c st:Nat) (H0:Hp) (mv pt lk:LR9):vs=[.ref x,.int st]->st<=1000->l9 K H0 H C x mv pt lk->fJ mv pt lk->tE mv pt a c->(∀r R ps H',H r=none->aB H H'->bf K H H' r R->bG (kry mv pt st) mv.length R ps->Q (.ref r) H')->Ep K C vs H Q E9
section
variable {K:FG9} {H0 H1 H H':Hp} {p l:Addr} {rows mv pt R R':LR9} {Rs:List (LR9)} {t:Nat}
theorem bf.weakN (h:bf K H0 H p rows) (hn:∀q,H0 q=none->H1 q=none):bf K H1 H p rows:=by obtain ⟨xs,g,r,n⟩:=h;exact ⟨xs,g,Paired.imp' (λ_ _ ⟨q,a,b,c⟩=>⟨q,a,hn q b,c⟩) r,n⟩
theorem bf.updL (h:bf K H0 H p rows) (hl:H l=some (.lst ys)) (nl:H0 l≠none) (pl:p≠l):bf K H0 (upd H l o) p rows:=by obtain ⟨xs,g,r,n⟩:=h;exact ⟨xs,by rw[bc pl];exact g,Paired.imp' (λ_ _ z=>cW.updL z hl nl) r,n⟩
theorem Ks:bG [] n [] []:=⟨rfl,(λ_ h=>by cases h),(λ_ _ _ h=>absurd h (di _)),(λ_ h=>absurd h (di _)),(λ_ h=>absurd h (di _)),(λ_ h=>absurd h (di _)),(λ_ h=>absurd h (di _)),(λ_ h=>absurd h (di _))⟩
theorem Dz.len (h:Dz mv pt Rs):∀(t:Nat) (R:LR9),Rs[t]?=some R->t<=R.length:=by
 intro t
 induction t with
 | zero=>intro R _;exact a7 _
 | succ t ih =>
  intro R e;have ht:=(az.mp e).1;have e0:=ae (show t < Rs.length by lia);have:=ih _ e0;have:=h.up t _ R e0 e
  lia
theorem Dz.snoc (h:Dz mv pt (Rs++[R])) (h1:bG (kry mv pt (Rs.length+1)) mv.length R' ps') (h2:R.length < R'.length):Dz mv pt ((Rs++[R])++[R']):=by
 have l1:(Rs++[R]).length=Rs.length+1:=by rw[ai];rfl
 refine ⟨by simp,λt S e=>?_,λt S S' e e'=>?_⟩
 ·rcases b8 t (Rs.length+1) with z | z
  ·rw[bM (by lia)] at e;exact h.rr t S e
  ·have ht:=(az.mp e).1;rw[ai,aQ] at ht;have:t=Rs.length+1:=by lia
   subst this;rw[bg (by lia),l1,gV] at e;cases e;exact ⟨ps',h1⟩
 ·have ht:=(az.mp e').1;rw[ai,aQ] at ht;rw[bM (by lia)] at e;rcases b8 (t+1) (Rs.length+1) with z | z
  ·rw[bM (by lia)] at e';exact h.up t S S' e e'
  ·have:t=Rs.length:=by lia
   subst this;rw[bg (by lia),l1,gV] at e';cases e';rw[bg (ar _),gV] at e;cases e;exact h2
end
def sI (k t i:Nat):Nat:=if i < k then i else if i=k then t else if i<=t then i - 1 else i
def IL (k t i:Nat):Nat:=if i < k then i else if i=t then k else if i < t then i+1 else i
section
variable {k t m i j:Nat}
theorem xG (h : k ≤ t) (ht : t < m) (hi : i < m) : sI k t i < m := by     unfold sI; split; · exact hi
                                                                          · split; · exact ht
                                                                            · split <;> lia
theorem Vc (h : k ≤ t) (ht : t < m) (hi : i < m) : IL k t i < m := by     unfold IL; split; · exact hi
                                                                          · split; · lia
                                                                            · split <;> lia
theorem Va (h:k<=t):sI k t (IL k t i)=i:=by
 by_cases h1:i < k
 ·rw[show IL k t i=i by unfold IL;rw[if_pos h1]];unfold sI;rw[if_pos h1]
 ·by_cases h2:i=t
  ·rw[show IL k t i=k by unfold IL;rw[if_neg h1,if_pos h2]];unfold sI;rw[if_neg (by lia),if_pos rfl,h2]
  ·by_cases h3:i < t
   ·rw[show IL k t i=i+1 by unfold IL;rw[if_neg h1,if_neg h2,if_pos h3]];unfold sI;rw[if_neg (by lia),if_neg (by lia),if_pos (by lia)];lia
   ·rw[show IL k t i=i by unfold IL;rw[if_neg h1,if_neg h2,if_neg h3]];unfold sI;rw[if_neg h1,if_neg (by lia),if_neg (by lia)]
theorem Sk (h:k<=t):IL k t (sI k t i)=i:=by
 by_cases h1:i < k
 ·rw[show sI k t i=i by unfold sI;rw[if_pos h1]];unfold IL;rw[if_pos h1]
 ·by_cases h2:i=k
  ·rw[show sI k t i=t by unfold sI;rw[if_neg h1,if_pos h2]];unfold IL;rw[if_neg (by lia),if_pos rfl,h2]
  ·by_cases h3:i<=t
   ·rw[show sI k t i=i - 1 by unfold sI;rw[if_neg h1,if_neg h2,if_pos h3]];unfold IL;rw[if_neg (by lia),if_neg (by lia),if_pos (by lia)];lia
   ·rw[show sI k t i=i by unfold sI;rw[if_neg h1,if_neg h2,if_neg h3]];unfold IL;rw[if_neg h1,if_neg (by lia),if_neg (by lia)]
theorem uy (hi:i < k):sI k t i=i:=by unfold sI;rw[if_pos hi]
theorem xH (h:k<=t) (hi:k<=i):k<=sI k t i:=by
 unfold sI;rw[if_neg (by lia)]
 split
 ·exact h
 ·split <;> lia
variable {a l:Nat->Nat->Rat} {pm p:Nat->Nat} {d:Rat} {P:Nat}
theorem yX.rot (B:yX a m k pm p l d) (h:k<=t) (ht:t < m):yX a m k (λi=>pm (sI k t i)) p (λi=>l (sI k t i)) d where
 inj i j hi hj e:=by
  have:=B.inj _ _ (xG h ht hi) (xG h ht hj) e;rw[<- Sk (i:=i) h,this,Sk h]
 rng i hi:=B.rng _ (xG h ht hi)
 km:=B.km
 d0:=B.d0
 det:=by rw[B.det,Cr (f:=pm) (g:=λi=>pm (sI k t i)) λj hj=>by rw[uy hj]]
 eqs i hi c:=by
  have e:=B.eqs (sI k t i) (xG h ht hi) c;have e1:bx k (λj=>a (pm (sI k t i)) (p j)*l (sI k t j) c)=bx k (λj=>a (pm (sI k t i)) (p j)*l j c):=aO λj hj=>by rw[uy hj]
  rw[e1];by_cases hk:i < k
  ·rw[uy hk] at e ⊢;exact e
  ·rw[if_neg hk];rw[if_neg (by have:=xH h (show k<=i by lia);lia)] at e;exact e
 unit i hi j hj:=by
  rw[B.unit _ (xG h ht hi) j hj];by_cases hk:i < k
  ·rw[uy hk]
  ·have:=xH h (show k<=i by lia);rw[if_neg (by lia),if_neg (by lia)]
theorem lM.rot (E:lM a m k P p l d) (h:k<=t) (ht:t < m):lM a m k P p (λi=>l (sI k t i)) d where
 km:=E.km
 d0:=E.d0
 unit i hi j hj:=by
  rw[E.unit _ (xG h ht hi) j hj];by_cases hk:i < k
  ·rw[uy hk]
  ·have:=xH h (show k<=i by lia);rw[if_neg (by lia),if_neg (by lia)]
 inc:=E.inc
 low:=E.low
 zero i h1 h2 c hc:=E.zero _ (xH h h1) (xG h ht h2) c hc
 lead j hj c hc:=by rw[uy hj];exact E.lead j hj c hc
 there i hi:=fP.trans (λs hs=>fP.congr (λc=>by rw[Va h]) (fP.row (a:=λi=>l (sI k t i)) (i:=IL k t s) (Vc h ht hs))) (E.there i hi)
 back i hi:=E.back _ (xG h ht hi)
end
section
variable {rows fs ls:LR9} {n P w a:Nat} {ps:List Nat}
theorem Qq:kQ k k i=i:=by unfold kQ;split <;> (try split) <;> lia
theorem AZ.rot (h:AZ rows n P (fs++ls) ps) (hf:fs.length=ps.length) (ht:t < ls.length):AZ rows n P (fs++ls.getD t [] :: ls.eraseIdx t) ps:=by
 obtain ⟨len,wide,pm,l,d,B,E,v⟩:=h;rw[ai] at len;have h1:ps.length<=ps.length+t:=by lia
 have h2:ps.length+t < rows.length:=by lia
 have ef:∀i,i < rows.length->∀c,bW (fs++ls.getD t [] :: ls.eraseIdx t) i c=bW (fs++ls) (sI ps.length (ps.length+t) i) c:=λi hi c=>by
  by_cases z:i < ps.length
  ·rw[uy z,Ea (by lia),Ea (by lia)]
  ·obtain ⟨j,rfl⟩:∃j,i=fs.length+j:=⟨i - fs.length,by lia⟩;rw[qo];cases j with
   | zero =>
    rw[show sI ps.length (ps.length+t) (fs.length+0)=fs.length+t by unfold sI;rw[if_neg (by lia),if_pos (by lia)];lia,qo];rfl
   | succ j =>
    by_cases y:j < t
    ·rw[show sI ps.length (ps.length+t) (fs.length+(j+1))=fs.length+j by unfold sI;rw[if_neg (by lia),if_neg (by lia),if_pos (by lia)];lia,qo];show bW (ls.eraseIdx t) j c=_
     unfold bW;rw[aa (l:=ls.eraseIdx t),List.getElem?_eraseIdx_of_lt y,<- aa]
    ·rw[show sI ps.length (ps.length+t) (fs.length+(j+1))=fs.length+(j+1) by unfold sI;rw[if_neg (by lia),if_neg (by lia),if_neg (by lia)],qo];show bW (ls.eraseIdx t) j c=_
     unfold bW;rw[aa (l:=ls.eraseIdx t),List.getElem?_eraseIdx_of_ge (by lia),<- aa]
 refine ⟨?_,λxs hx=>?_,λi=>pm (sI ps.length (ps.length+t) i),λi=>l (sI ps.length (ps.length+t) i),d,B.rot h1 h2,E.rot h1 h2,λi hi c=>?_⟩
 ·rw[ai,aZ,SU ht];lia
 ·rcases av.mp hx with hx | hx
  ·exact wide xs (av.mpr (.inl hx))
  ·rcases aH.mp hx with rfl | hx
   ·exact wide _ (av.mpr (.inr (getD_in ht)))
   ·exact wide xs (av.mpr (.inr (UN hx)))
 ·rw[ef i hi c,v _ (xG h1 h2 hi) c];by_cases z:i < ps.length
  ·dsimp only
   rw[uy z]
  ·rw[if_neg z,if_neg (by have:=xH h1 (show ps.length<=i by lia);lia)]
def iS (P:Nat) (h:List Rat):List Rat:=h.map λy=>1 / h.getD P 0*y
def pJ (P:Nat) (u r:List Rat):List Rat:=List.zipWith (λx y=>x - y) r (u.map λy=>r.getD P 0*y)
theorem AZ.lean (h:AZ rows n P (fs++ls) ps) (hf:fs.length=ps.length) (ht:t < ls.length) (hP:P < n) (hne:(ls.getD t []).getD P 0≠0):AZ rows n (P+1) ((fs.map (pJ P (iS P (ls.getD t [])) )++[iS P (ls.getD t [])])++(ls.eraseIdx t).map (pJ P (iS P (ls.getD t [])))) (ps++[P]):=by
 have R:=h.rot hf ht;have len:=R.len;have wide:=R.wide;generalize ls.getD t []=hd at *
 generalize ls.eraseIdx t=l2 at *
 rw[ai,aZ] at len;have whd:hd.length=n:=wide _ (av.mpr (.inr (.head _)));have wu:(iS P hd).length=n:=by unfold iS;rw[ag];exact whd
 have ek:bW (fs++hd :: l2) ps.length=λc=>hd.getD c 0:=by
  have:=qo (X:=fs) (Y:=hd :: l2) (i:=0);rw[show fs.length+0=ps.length by lia] at this;rw[this];rfl
 have wl:∀r,r.length=n->(pJ P (iS P hd) r).length=n:=λr hr=>by unfold pJ;rw[aY,ag,wu,hr];lia
 have vl:∀r,r.length=n->∀c,(pJ P (iS P hd) r).getD c 0=r.getD c 0 - r.getD P 0*(1 / hd.getD P 0*hd.getD c 0):=λr hr c=>by
  unfold pJ;rw[Pa (by rw[ag,wu,hr]),EU];unfold iS;rw[EU]
 refine R.step (t:=ps.length) (ar _) (by rw[ai,aZ];lia) (by rw[ek];exact hne) ?_ ?_ λi hi c=>?_
 ·rw[ai,ai,ag,ag,aQ];lia
 ·intro xs hx;rcases av.mp hx with hx | hx
  ·rcases av.mp hx with hx | hx
   ·obtain ⟨r,hr,rfl⟩:=aw.mp hx;exact wl r (wide r (av.mpr (.inl hr)))
   ·rw[bV.mp hx];exact wu
  ·obtain ⟨r,hr,rfl⟩:=aw.mp hx;exact wl r (wide r (av.mpr (.inr (.tail _ hr))))
 ·rw[Qq,ek]
  dsimp only
  have lf:(fs.map (pJ P (iS P hd))).length=ps.length:=by rw[ag];exact hf
  have key:∀{X:LR9} {s:Nat} (hs:s < X.length) (_:∀r∈X,r.length=n),bW (X.map (pJ P (iS P hd))) s c=bW X s c - bW X s P*(1 / hd.getD P 0*hd.getD c 0):=λ{X s} hs hX=>by
   unfold bW;have e1:(X.map (pJ P (iS P hd))).getD s []=pJ P (iS P hd) X[s]:=by rw[aa,aA,ae hs];rfl
   have e2:X.getD s []=X[s]:=by rw[aa,ae hs];rfl
   rw[e1,e2];exact vl _ (hX _ (aI hs)) c
  rcases eQ i ps.length with z | z | z
  ·rw[if_neg (by lia),cm,Ea (by lia),Ea (by lia),key (by lia) λr hr=>wide r (av.mpr (.inl hr))]
  ·rw[if_pos z,cm,show i=(fs.map (pJ P (iS P hd))).length+0 by lia,qo];show (iS P hd).getD c 0=_
   unfold iS;rw[EU]
  ·rw[if_neg (by lia)];obtain ⟨j,rfl⟩:∃j,i=ps.length+1+j:=⟨i - ps.length - 1,by lia⟩
   have e1:bW (fs++hd :: l2) (ps.length+1+j)=bW l2 j:=by
    have:=qo (X:=fs) (Y:=hd :: l2) (i:=j+1);rw[show fs.length+(j+1)=ps.length+1+j by lia] at this;rw[this];rfl
   have e2:bW ((fs.map (pJ P (iS P hd))++[iS P hd])++l2.map (pJ P (iS P hd))) (ps.length+1+j)=bW (l2.map (pJ P (iS P hd))) j:=by
    have:=qo (X:=fs.map (pJ P (iS P hd))++[iS P hd]) (Y:=l2.map (pJ P (iS P hd))) (i:=j);rw[ai,lf,aQ] at this;exact this
   rw[e1,e2,key (by lia) λr hr=>wide r (av.mpr (.inr (.tail _ hr)))]
end
theorem xQ {α β:Type} {F:α->β->Prop}:∀{l1:List α} {l2:List β} (_:Paired F l1 l2) (i:Nat),Paired F (l1.eraseIdx i) (l2.eraseIdx i)
 | _,_,.nil,_=>.nil
 | _,_,.cons _ r,0=>r
 | _,_,.cons h r,i+1=>.cons h (xQ r i)
theorem KD:c∈xu xs i↔c < i/\xs.getD c 0≠0:=by
 unfold xu;rw[mX,cP];simp
theorem bf.toE {K:FG9} (h:bf K H0 H l rows):∃us,H l=some (.lst us)/\Paired (rY K (λq=>H0 q=none/\q≠l) H) rows us:=by
 obtain ⟨us,g,pr,nn⟩:=h;exact ⟨us,g,uD (λxs v hv ⟨q,e,a,b⟩=>⟨q,e,⟨a,λz=>nn (by rw[<- z,<- e];exact hv)⟩,b⟩) pr⟩
theorem EL {α:Type} {v:α}:∀{l:List α},l.Nodup->v∉l->∀j,(l.set j v).Nodup
 | [],_,_,_=>FE
 | a :: l,h,hn,0=>by
  rw[fb] at h;rw[List.set_cons_zero,fb];exact ⟨λz=>hn (.tail _ z),h.2⟩
 | a :: l,h,hn,j+1=>by
  rw[fb] at h;rw[List.set_cons_succ,fb];refine ⟨λz=>?_,EL h.2 (λz=>hn (.tail _ z)) j⟩;rcases cY z with z | z
  ·exact h.1 z
  ·exact hn (by rw[z];exact .head _)
structure kH (K:FG9) (A:Addr->Prop) (H:Hp) (n:Nat) (C:V->Rat->Prop) (m p l b q0:Addr) (us ws vs:List V):Prop where
 bag:iM H b
 inn:Inner H b q0
 gm:H m=some (.lst us)
 gp:H p=some (.lst ws)
 gl:H l=some (.lst vs)
 lm:us.length=n
 row:∀x∈us++vs++ws,ig K A H n (C x) x
 nd:(us++vs++ws).Nodup
section
variable {K:FG9} {A:Addr->Prop} {H H':Hp} {n:Nat} {C C':V->Rat->Prop} {m p l b q0 q:Addr} {us ws vs zs:List V} {y:Rat} {v:V}
theorem kH.same (h:kH K A H n C m p l b q0 us ws vs) (e:aB H H'):kH K A H' n C m p l b q0 us ws vs :=
 ⟨h.bag.same e,(e.upto (p:=b)).2 _ h.inn,e _ _ h.gm,e _ _ h.gp,e _ _ h.gl,h.lm,λx hx=>(h.row x hx).same e,h.nd⟩
theorem kH.upto (h:kH K A H n C m p l b q0 us ws vs) (M:JJ A m p l b q0) (u:df b H H') (B':iM H' b):kH K A H' n C m p l b q0 us ws vs :=
 ⟨B',u.2 _ h.inn,u.other M.mb h.gm,u.other M.pb h.gp,u.other M.lb h.gl,h.lm,λx hx=>(h.row x hx).upto u h.bag M.ab,h.nd⟩
theorem kH.weak (h:kH K A H n C m p l b q0 us ws vs) (w:∀x∈us++vs++ws,∀y,C x y->C' x y):kH K A H n C' m p l b q0 us ws vs :=
 ⟨h.bag,h.inn,h.gm,h.gp,h.gl,h.lm,λx hx=>(h.row x hx).weak (λ_ z=>z) (w x hx),h.nd⟩
theorem kH.put (h:kH K A H n C m p l b q0 us ws vs) (M:JJ A m p l b q0) (aq:A q) (hq:H q=some (.lst zs)) (hv:cv K H y v) (hc:C (.ref q) y) (j:Nat):kH K A (upd H q (.lst (zs.set j v))) n C m p l b q0 us ws vs:=by
 have ne:∀{z},¬A z->z≠q:=λh e=>h (by rw[e];exact aq)
 refine ⟨h.bag.upd h.inn (ne M.ab).symm (ne M.aq).symm,h.inn.upd (ne M.ab).symm,by rw[bc (ne M.am)];exact h.gm,by rw[bc (ne M.ap)];exact h.gp,by rw[bc (ne M.al)];exact h.gl,h.lm,λx hx=>?_,h.nd⟩;by_cases e:x=.ref q
 ·subst e;exact (h.row _ hx).put hq hv hc j
 ·obtain ⟨q1,qs,rfl,a1,r1,l1,c1⟩:=h.row x hx;exact ⟨q1,qs,rfl,a1,r1.updL hq (λz=>e (by rw[z])),l1,c1⟩
theorem kH.set (h:kH K A H n C m p l b q0 us ws vs) (M:JJ A m p l b q0) (hx:ig K A H n (C v) v) (hn:v∉us++vs++ws) (j:Nat):kH K A (upd H m (.lst (us.set j v))) n C m p l b q0 (us.set j v) ws vs:=by
 have mem:∀x∈us.set j v++vs++ws,x=v\/x∈us++vs++ws:=λx hx=>by
  rcases av.mp hx with hx | hx
  ·rcases av.mp hx with hx | hx
   ·rcases cY hx with hx | hx
    ·exact .inr (by simp [hx])
    ·exact .inl hx
   ·exact .inr (by simp [hx])
  ·exact .inr (by simp [hx])
 refine ⟨h.bag.upd h.inn M.mb M.mq,h.inn.upd M.mb,aD,by rw[bc M.mp.symm];exact h.gp,by rw[bc M.ml.symm];exact h.gl,by rw[fe];exact h.lm,λx hx'=>?_,?_⟩
 ·rcases mem x hx' with rfl | hx'
  ·exact hx.other h.gm M.am
  ·exact (h.row x hx').other h.gm M.am
 ·have nd:=h.nd;rw[cm] at nd hn ⊢;obtain ⟨n1,n2,n3⟩:=dA.mp nd;refine dA.mpr ⟨?_,n2,λa ha c hc=>?_⟩
  ·rcases b8 j us.length with z | z
   ·exact EL n1 (λz'=>hn (av.mpr (.inl z'))) j
   ·rw[List.set_eq_of_length_le z];exact n1
  ·rcases cY ha with ha | rfl
   ·exact n3 a ha c hc
   ·exact λz=>hn (av.mpr (.inr (by rw[z];exact hc)))
end
theorem LP (h0:0 < M) (h1:M<=2^800) (hW:W<=2^140) (h:Fr M W x):kN x :=
 KS h0 (ah h1 (au (by decide) (by decide))) (ah hW (au (by decide) (by decide))) h
theorem Q5 {t V c:Nat} (ht:t<=3) (hV:V<=2^20) (hc:c<=9):c*(9^t*V)<=2^140:=by
 have h1:9^t<=9^3:=au (by decide) ht;have h2:c*(9^t*V)<=9*(9^3*2^20):=aE hc (aE h1 hV);exact ah h2 (ah (show 9*(9^3*2^20)<=2^40 by decide) (au (by decide) (by decide)))
theorem CN {α:Type} {l:List α} {v:α} (h:l.Nodup) (hn:v∉l):(l++[v]).Nodup:=dA.mpr ⟨h,by simp,λa ha c hc=>by rw[bV.mp hc];exact λz=>hn (by rw[<- z];exact ha)⟩
section
variable {K:FG9} {a:Addr} {xs:List V} {g:TG} {tf:TT} {te:TE} {Q:VK} {σ₀:St} {H:Hp} {α β:Type}
theorem Fg (G:Hp->β->V->Prop) (C:β->Prop) (hB:iM H b) (hl:n<=1000) (hG:∀{H' H'' c x},G H' c x->df b H' H''->iM H' b->G H'' c x)
  (hA:∀{H' c x},G H' c x->∃q,x=V.ref q/\H' q≠none)
  (hs:∀(i:Nat) H' NY NN,i < n->df b H H'->iM H' b->(∀y c H2,df b H' H2->iM H2 b->C c->G H2 c y->(∃q,y=V.ref q/\H' q=none)->NY y H2)->pP σ₀ g tf te (.int i) H' NY NN)
  (hd:∀ys cs H' p,H p=none->df b H H'->iM H' b->H' p=some (.lst ys)->cs.length=n->ys.Nodup->(∀c∈cs,C c)->Paired (G H') cs ys->(∃H2,H2 p=none/\Paired (G H2) cs ys)->Q (.ref p) H'):qG (JK 0 n) σ₀ g tf te Q H:=by
 refine lG (λi ys H'=>df b H H'/\iM H' b/\∃cs,cs.length=i/\ys.Nodup/\(∀c∈cs,C c)/\Paired (G H') cs ys) lE ⟨(aB.refl _).upto,hB,[],rfl,FE,(λ_ z=>nomatch z),.nil⟩ ?_ ?_
 ·rintro i ys H' hi hlen ⟨u,B,cs,lc,nd,hc,pr⟩;rw[oO];refine hs i H' _ _ hi u B λy c H2 u2 B2 cc gy ⟨q,ey,nq⟩=>⟨u.trans u2,B2,cs++[c],by simp [lc],CN nd (λz=>by obtain ⟨c',_,gc⟩:=dE pr z;obtain ⟨q',e',h'⟩:=hA gc;rw[ey] at e';cases e';exact h' nq),HI hc cc,b9 (Paired.imp' (λ_ _ z=>hG z u2 B) pr) (.cons gy .nil)⟩
 ·rintro ys H' hy ⟨u,B,cs,lc,nd,hc,pr⟩ p hp;have s:aB H' (upd H' p (.lst ys)):=aB.new hp;exact hd ys cs _ p (u.none B hp) (u.same s) (B.same s) aD lc nd hc (Paired.imp' (λ_ _ z=>hG z s.upto B) pr) ⟨H',hp,pr⟩
end
structure La (K:FG9) (A:Addr->Prop) (n:Nat) (C:Rat->Prop) (m p l b q0:Addr) (us ws vs:List V) (H0 H:Hp):Prop where
 mix:kH K A H n (λ_=>C) m p l b q0 us ws vs
 gp:H p=some (.lst ws)
 gl:H l=some (.lst vs)
 kp:jk A b m H0 H
section
variable {K:FG9} {A:Addr->Prop} {n:Nat} {C:Rat->Prop} {m p l b q0 q:Addr} {us ws vs:List V} {H0 H H':Hp} {y:Rat} {v:V}
theorem La.same (h:La K A n C m p l b q0 us ws vs H0 H) (e:aB H H'):La K A n C m p l b q0 us ws vs H0 H':=⟨h.mix.same e,e _ _ h.gp,e _ _ h.gl,h.kp.same e⟩
theorem La.upto (h:La K A n C m p l b q0 us ws vs H0 H) (M:JJ A m p l b q0) (u:df b H H') (B:iM H' b):La K A n C m p l b q0 us ws vs H0 H':=⟨h.mix.upto M u B,u.other M.pb h.gp,u.other M.lb h.gl,h.kp.upto u⟩
theorem La.row (h:La K A n C m p l b q0 us ws vs H0 H) (hx:x∈ws\/x∈vs):ig K A H n C x:=h.mix.row x (by rcases hx with hx | hx <;> simp [hx])
theorem La.put (h:La K A n C m p l b q0 us ws vs H0 H) (M:JJ A m p l b q0) (hx:V.ref q∈ws\/V.ref q∈vs) (hv:cv K H y v) (hc:C y) (j:Nat):∃zs,H q=some (.lst zs)/\zs.length=n/\La K A n C m p l b q0 us ws vs H0 (upd H q (.lst (zs.set j v))):=by
 obtain ⟨q',zs,qs,e,a,g,lz,_⟩:=(h.row hx).at;cases e;have ne:∀{z},¬A z->z≠q:=λh e=>h (by rw[e];exact a)
 exact ⟨zs,g,lz,h.mix.put M a g hv hc j,by rw[bc (ne M.ap)];exact h.gp,by rw[bc (ne M.al)];exact h.gl,h.kp.upd (.inl a)⟩
end
inductive Iv (K:FG9) (vs:List V) (H:Hp) (Q:VK) (E9:XK):Prop
 | mk (b:Addr) (n w:Nat) (way first:Int):vs=[.ref b,.int n,.int way,.int first,.int w]->iM H b->n<=8->1<=w->w<=1000000->(∀r us H',H r=none->H' r=some (.lst us)->us.length=n->us.Nodup->(∀x∈us,ig K (λq=>H q=none/\q≠r) H' n (Dr (max w 6)) x)->iM H' b->df b H H'->Q (.ref r) H')->Iv K vs H Q E9
def PtF (n i o w c:Nat) (mv pt lk:LR9):Prop:=∃M V1:Nat,0 < M/\GF M V1 mv/\GF M V1 pt/\GF M V1 lk/\((w<=9/\M=2520/\V1=9^3*9)\/(9 < w/\M<=2^(c*((n+i+o)*n))/\V1=9^3*2^c))
theorem GV (M0:0 < M) (hM:M<=2^a) (hn:mv.length<=n0) (hV:(n0+1)*V1<=2^c) (fm:GF M V1 mv) (fp:GF M V1 pt) (h4:a<=400/\c<=40/\n0*(n0*(a+c)+4)<=1740/\n0*(n0*(n0*(a+c)+4)+a+c+4)<=445000):tE mv pt a c:=by
 obtain ⟨h1,h2,h3,h5⟩:=h4;have e1:mv.length*(a+c)<=n0*(a+c):=ay _ hn;have e2:mv.length*(mv.length*(a+c)+4)<=n0*(n0*(a+c)+4):=aE hn (by lia);have e3:mv.length*(mv.length*(mv.length*(a+c)+4)+a+c+4)<=n0*(n0*(n0*(a+c)+4)+a+c+4):=aE hn (by lia);exact ⟨M,V1,M0,hM,ah (ay _ (by lia)) hV,fm,fp,h1,h2,by lia,by lia⟩
def Qr (K:FG9):Sp:=λvs H Q _=>∃b:Addr,vs=[.ref b]/\iM H b /\
 ∀r mv pt lk H',gQ K H H' r mv pt lk->6<=mv.length->fJ mv pt lk->GF 1 (9^3) mv->GF 1 (9^3) pt->GF 1 (9^3) lk->iM H' b->df b H H'->Q (.ref r) H'
theorem O1 (lm:mv.length=n) (wm:∀xs∈mv,xs.length=n) (wp:∀xs∈pt,xs.length=n) (RR:bG (kry mv pt t) n R ps) (RR':bG (kry mv pt (t+1)) n R' ps'):bG (pt++R.map (ou mv)) n R' ps':=by
 have wk:=eG (mv:=mv) lm wp t;refine ⟨RR'.1,RR'.2.1,RR'.2.2.other ?_ ?_⟩
 ·refine xA (λi hi=>tQ hi) λi hi=>pQ ?_
  rw[ag] at hi;have:=RR.2.2.span i hi;rw[<- RR.1] at this;exact BK lm wm wk RR.2.1 hi this
 ·refine xA (λi hi=>tQ hi) λi hi=>pQ ?_
  rw[ag] at hi;exact BK lm wm RR.2.1 wk hi (RR.2.2.back i (by rw[<- RR.1];exact hi))
theorem Sr {F G:List jX->Rat} {r:Nat} {σ:Nat->Nat} (hF:∀ws:List jX,F (ws.map λv i=>v (σ i))=G ws):∀(post pre:List jX) (s:Rat),DG F r (pre.map λv i=>v (σ i)) (post.map λv i=>v (σ i)) s=DG G (σ r) pre post s
 | [],_,_=>rfl
 | v :: post,pre,s=>by
  have i1:=hF (pre++post);have i2:=Sr (r:=r) hF post (pre++[v]) (-s);simp only[cI,ib,List.map_nil,DG] at i1 i2 ⊢;rw[i1,i2]
theorem SH {σ:Nat->Nat}:∀(rs:List Nat) (vs:List jX),tH rs (vs.map λv i=>v (σ i))=tH (rs.map σ) vs
 | [],[]=>rfl
 | [],_ :: _=>rfl
 | r :: rs,vs=>Sr (λws=>SH rs ws) vs [] 1
theorem Oq {σ:Nat->Nat}:∀{k:Nat},(zJ (λi=>i) k).map σ=zJ σ k
 | 0=>rfl
 | k+1=>by show σ k :: _=_;rw[Oq];rfl
theorem cw_map {τ:jX->jX} {v:Nat->jX}:∀{k:Nat},(rT v k).map τ=rT (λj=>τ (v j)) k
 | 0=>rfl
 | k+1=>by show τ (v k) :: _=_;rw[cw_map];rfl
theorem Us:tH (zJ σ k) (rT v k)=tH (zJ (λi=>i) k) (rT (λj i=>v j (σ i)) k):=by
 rw[<- Oq,<- SH,cw_map]
structure Vb (r n:Nat) (Pm Y Z:Nat->Nat->Rat) (d:Rat) (W:Nat):Prop where
 d0:d≠0
 det:d=tH (zJ (λi=>i) r) (rT (λj i=>Pm i j) r)
 eq:∀i,i < r->∀c,c < n->Z i c=bx r λs=>Pm i s*Y s c
 pf:∀i,i < r->∀s,s < r->Fr 1 W (Pm i s)
 zf:∀i,i < r->∀c,c < n->Fr 1 W (Z i c)
section
variable {rows fs ls:LR9} {n r M W Wv Wb k P:Nat} {Pm Y Z B E a:Nat->Nat->Rat} {d:Rat} {ps:List Nat} {rs:LR9}
def Wz (rows:LR9) (n S:Nat):Prop:=2*S<=199500/\∃J:Nat->LR9->List Nat->Prop,J 0 rows []/\(∀P rs ps,J P rs ps->(∀i,ps.length<=i->i < rs.length->bW rs i P=0)->J (P+1) rs ps) /\
 (∀P fs ls ps t,J P (fs++ls) ps->fs.length=ps.length->t < ls.length->P < n->(ls.getD t []).getD P 0≠0->J (P+1) ((fs.map (pJ P (iS P (ls.getD t [])) )++[iS P (ls.getD t [])])++(ls.eraseIdx t).map (pJ P (iS P (ls.getD t [])))) (ps++[P])) /\
 (∀P rs ps,J P rs ps->AZ rows n P rs ps)/\∀P rs ps,J P rs ps->P<=n->∀i,i < rows.length->∃D:Nat,0 < D/\D<=2^S/\∀c,Tp D (2^S) (bW rs i c)
theorem SO.lws {w a:Nat} (F:SO rows n w a) (hw:∀xs∈rows,xs.length=n):Wz rows n (min rows.length n*(w+4)+a):=by
 obtain ⟨_,_,_,_,_,_,_,_,e⟩:=id F;refine ⟨e,AZ rows n,AZ.start hw,λ_ _ _ h z=>h.skip z,λ_ _ _ _ _ h hf ht hP hne=>h.lean hf ht hP hne,λ_ _ _ h=>h,λP rs ps h hP i hi=>?_⟩;obtain ⟨D,D0,D1,D2⟩:=h.sz F hP hi;exact ⟨D,D0,D1,λc=>(D2 c).mono (au (by decide) (by lia))⟩
end
section
variable {rows R R1 R2 mv pt:LR9} {n r M V1 W W' Wv Wb k P:Nat} {Pm Y Z B E a:Nat->Nat->Rat} {d:Rat} {ps ps1 ps2:List Nat} {rs:LR9}
theorem NP (h0:0 < M) (h3:∀xs∈rows,∀x∈xs,Tp M W x):∀i,i < rows.length->∀c,Fr 1 W (eJ (rows.map iO) i c):=λi hi c=>by
 have hx:=getD_in (e:=[]) hi;rw[Af hi];unfold bW;generalize rows.getD i []=xs at hx ⊢;by_cases hc:c < xs.length
 ·have t:=h3 xs hx _ (getD_in (e:=0) hc);obtain ⟨s,e,b⟩:=y8 t h0 (qe (xs:=xs)) (qh (aw.mpr ⟨_,getD_in (e:=0) hc,rfl⟩)) (By h0 (h3 xs hx));rw[dM,e];exact Fr.int b
 ·rw[aa,aR (by lia)];show Fr 1 W (_*0)
  rw[iN];exact Fr.zero
theorem Vb.of (hw:∀xs∈rows,xs.length=n) (hW:1<=W) (h0:0 < M) (h3:∀xs∈rows,∀x∈xs,Tp M W x) (RR:bG rows n R ps):∃Pm Z d,Vb ps.length n Pm (bW R) Z d W:=by
 have ent:=NP h0 h3;obtain ⟨ls,ps2,d,I⟩:=ze hw hW (by rw[ag];exact ent) n (ar _);obtain ⟨_,_,⟨pm,B⟩,E⟩:=I;rw[ag] at B E
 have RF:Fz rows.length n (bW rows) ps2.length (λj=>ps2.getD j 0) (λi c=>eJ ls i c / d):=Fz.other (E.done λi hi c hc=>xl (n:=n) (λzs hz=>by
  obtain ⟨xs,hx,rfl⟩:=aw.mp hz;rw[pO];exact hw xs hx) hc) Bi Bj
 obtain ⟨e1,e2,e3⟩:=RF.uniq RR.2.2 (λ_ hi=>fP.row hi) (λ_ hi=>fP.row hi);refine ⟨λi s=>eJ (rows.map iO) (pm i) (ps2.getD s 0),λi c=>eJ (rows.map iO) (pm i) c,d,?_⟩;rw[<- e1];have km:=B.km;refine ⟨B.d0,?_,λi hi c hc=>?_,λi hi s hs=>ent _ (B.rng i (by lia)) _,λi hi c hc=>ent _ (B.rng i (by lia)) _⟩
 ·rw[B.det];exact Us
 ·have:=B.coef (i:=i) (c:=c) (by lia);rw[if_pos hi,lU] at this;rw[this];exact aO λs hs=>by rw[<- e3 s hs c];exact dM _ _
theorem zh {f:Nat->Rat} {a:Nat}:∀{b:Nat},bx (a+b) f=bx a f+bx b λt=>f (a+t)
 | 0=>by show bx a f=bx a f+0;grind
 | b+1=>by
  show bx (a+b) f+f (a+b)=_+(bx b _+f (a+b))
  rw[zh];grind
end
section
variable {rows R R1 R2 mv pt:LR9} {n t t2 a c:Nat} {ps ps1 ps2:List Nat}
theorem xI (RR:bG rows n R ps):bG R n R ps:=⟨RR.1,RR.2.1,RR.2.2.other (λi hi=>by rw[RR.1];exact RR.2.2.span i hi) (λi hi=>RR.2.2.back i (by rw[<- RR.1];exact hi))⟩
theorem Qy (RR:bG rows n R ps) (e:ps.length=n) (hi:i < n) (c:Nat):bW R i c=if c=i then 1 else 0:=by
 have lo:∀j,j < n->j<=ps.getD j 0:=by
  intro j
  induction j with
  | zero=>intro _;exact a7 _
  | succ j ih =>
   intro hj;have:=ih (by lia);have:=RR.2.2.inc j (j+1) (by lia) (by lia)
   lia
 have hi2:∀s j,j+s+1=n->ps.getD j 0<=j:=by
  intro s
  induction s with
  | zero =>
   intro j hj;have:=RR.2.2.low j (by lia)
   lia
  | succ s ih =>
   intro j hj;have:=ih (j+1) (by lia);have:=RR.2.2.inc j (j+1) (by lia) (by lia)
   lia
 have ep:∀j,j < n->ps.getD j 0=j:=λj hj=>P6 (hi2 (n - 1 - j) j (by lia)) (lo j hj)
 by_cases hc:c < n
 ·have:=RR.2.2.unit i (by lia) c (by lia);rw[ep c hc] at this;rw[this];by_cases z:i=c
  ·rw[if_pos z,if_pos z.symm]
  ·rw[if_neg z,if_neg (Ne.symm z)]
 ·rw[KU RR.2.1 (by lia),if_neg (by lia)]
theorem LQ (h:∀i,i < rows.length->∀c,Tp M W (bW rows i c)):∀xs∈rows,∀x∈xs,Tp M W x:=λxs hx x hx'=>by
 obtain ⟨i,hi,rfl⟩:=bO hx;obtain ⟨c,hc,rfl⟩:=bO hx';have:=h i hi c;unfold bW at this;rw[aa (l:=rows),ae hi] at this;have e:(some rows[i]).getD []=rows[i]:=rfl;rw[e,aa,ae hc] at this;exact this
theorem tE.vb (F:tE mv pt a c) (wm:∀xs∈mv,xs.length=mv.length) (wp:∀xs∈pt,xs.length=mv.length) (ht:t<=ps.length) (RR:bG (kry mv pt t) mv.length R ps):∃Pm Z d w,Vb ps.length mv.length Pm (bW R) Z d (2^w)/\(ps.length < mv.length/\w=(mv.length - 1)*(a+c)\/ps.length=mv.length/\w=0):=by
 have le:=RR.le;rcases b8 ps.length mv.length with z | z
 ·obtain ⟨M,V,M0,Ma,hV,fm,fp,_⟩:=F;have f:=O0 rfl wm wp hV fm fp t
  obtain ⟨Pm,Z,d,vb⟩:=Vb.of (eG rfl wp t) (bU (n:=(mv.length - 1)*(a+c))) (jA M0 (n:=t)) (λxs hx x hx'=>Tp.of (f xs hx x hx') (by
   refine ah (aP _ (mf Ma t)) ?_;rw[<- yT,<- aU];refine au (by decide) ?_;rw[<- FA,cy,oN c];exact ay _ (by lia))) RR
  exact ⟨Pm,Z,d,_,vb,.inl ⟨z,rfl⟩⟩
 ·have e:ps.length=mv.length:=by lia
  obtain ⟨Pm,Z,d,vb⟩:=Vb.of (W:=2^0) (M:=1) RR.2.1 (by decide) (by decide) (LQ λi hi c=>by
   rw[RR.1,e] at hi;rw[Qy RR e hi c]
   split
   ·exact ⟨1,by rw[Rat.one_mul];rfl,by decide⟩
   ·exact ⟨0,by rw[Mn];rfl,by decide⟩) (xI RR)
  exact ⟨Pm,Z,d,0,vb,.inr ⟨e,rfl⟩⟩
end
def Gd (mv pt:LR9) (i:Nat) (R:LR9) (ps:List Nat):Prop:=bG (kry mv pt i) mv.length R ps/\∃t,t<=ps.length/\t<=i/\bG (kry mv pt t) mv.length R ps/\(t=i\/∀s,bG (kry mv pt (t+s)) mv.length R ps)
section
variable {mv pt R R':LR9} {i:Nat} {ps ps':List Nat}
theorem Gd.start:Gd mv pt 0 [] []:=⟨Ks,0,ar _,ar _,Ks,.inl rfl⟩
theorem Oo (wm:∀xs∈mv,xs.length=mv.length) (wp:∀xs∈pt,xs.length=mv.length) (h:bG (kry mv pt i) mv.length R ps) (h':bG (kry mv pt (i+1)) mv.length R' ps') (e:ps'.length=ps.length):∀s,bG (kry mv pt (i+s)) mv.length R ps:=ES rfl wm wp h (O1 rfl wm wp h h') e
theorem Gd.step (wm:∀xs∈mv,xs.length=mv.length) (wp:∀xs∈pt,xs.length=mv.length) (h:Gd mv pt i R ps) (h':bG (kry mv pt (i+1)) mv.length R' ps'):Gd mv pt (i+1) R' ps'/\(mv.length<=i->R'=R):=by
 obtain ⟨h0,t,t1,t2,ht,hs⟩:=h
 have st:(∀s,bG (kry mv pt (t+s)) mv.length R ps)->Gd mv pt (i+1) R' ps'/\(mv.length<=i->R'=R):=λhs=>by
  have:=hs (i+1 - t);rw[show t+(i+1 - t)=i+1 by lia] at this;obtain ⟨rfl,rfl⟩:=this.same h';exact ⟨⟨h',t,t1,by lia,ht,.inr hs⟩,λ_=>rfl⟩
 rcases hs with rfl | hs
 ·have gr:=Jh rfl wm wp h0 h';by_cases e:ps'.length=ps.length
  ·exact st (Oo wm wp h0 h' e)
  ·refine ⟨⟨h',t+1,by lia,ar _,h',.inl rfl⟩,λhn=>?_⟩;have:=h'.le
   lia
 ·exact st hs
end
section
variable {rows R X K0:LR9} {due L:List Rat} {n m M W D E W0 W1:Nat} {ps:List Nat}
theorem Pl (hl:vs.length<=N) (h:∀v∈vs,∀r∈rs,Fr 1 Wx (v r)):∃z:Int,tH rs vs=(z:Rat)/\z.natAbs<=(N*Wx)^rs.length:=by
 have f:=C6 hl h;obtain ⟨z,ez⟩:=ya f;rw[ez] at f;exact ⟨z,ez,xk f⟩
end
def iP (mv:LR9):Nat->List Rat->List Rat
 | 0,x=>x
 | t+1,x=>ou mv (iP mv t x)
section
variable {mv pt lk pus:LR9} {st pu go:List Rat} {n t T c:Nat}
theorem xM (h:st.length=mv.length):∀t,(iP mv t st).length=mv.length
 | 0=>h
 | _+1=>rj
theorem KR {x y:List Rat} (h:x.length=y.length) (e:∀c,c < x.length->x.getD c 0=y.getD c 0):x=y:=by
 apply c4 h;intro c h1 h2;have:=e c h1;rwa [aa,aa,ae h1,ae h2] at this
theorem Vp (wm:∀xs∈mv,xs.length=mv.length) (h:st.length=mv.length) (hc:c < mv.length):(ou mv st).getD c 0=bx mv.length λj=>bW mv c j*st.getD j 0:=by
 have e:(ou mv st).getD c 0=cB mv[c] st:=by
  unfold ou;rw[aa,aA,ae hc];rfl
 have wc:=wm _ (aI hc);rw[e,cO (by lia),wc];refine aO λj _=>?_
 unfold bW;rw[aa (l:=mv),ae hc];rfl
theorem OR (D:fJ mv pt lk) (h:st.length=mv.length) (hp:pu.length=pt.length) (hc:c < mv.length):(iH mv pt st pu).getD c 0=bx mv.length (λj=>bW mv c j*st.getD j 0)+bx pt.length λi=>pu.getD i 0*bW pt i c:=by
 have wc:=D.mw _ (aI hc)
 have e:(iH mv pt st pu).getD c 0=cB (mv[c]++pt.map λxs=>xs.getD c 0) (st++pu):=by
  unfold iH;rw[aa,bY,ae hc,Ie hc];rfl
 rw[e,pY (by lia),cO (by lia),cO (by rw[ag];lia),wc,ag];congr 1
 ·refine aO λj _=>?_
  unfold bW;rw[aa (l:=mv),ae hc];rfl
 ·refine aO λi hi=>?_
  rw[dM];congr 1;unfold bW;rw[aa,aA,aa (l:=pt),ae hi];rfl
theorem lS:∀t,(kry mv pt t).length=t*pt.length
 | 0=>by rw[Nat.zero_mul];rfl
 | t+1=>by
  show (pt++(kry mv pt t).map (ou mv)).length=_
  rw[ai,ag,lS t,dU,oN]
theorem Lm (D:fJ mv pt lk) (ls:st.length=mv.length):∀k,k<=pus.length->(∀xs∈pus,xs.length=pt.length)->∀c,c < mv.length->(tu mv pt st pus k).getD c 0=(iP mv k st).getD c 0+bx (kry mv pt k).length λi=>((pus.take k).reverse.flatten).getD i 0*bW (kry mv pt k) i c:=by
 intro k
 induction k with
 | zero =>
  intro _ _ c _;show st.getD c 0=st.getD c 0+0
  grind
 | succ k ih =>
  intro hk hp c hc;have hk':k < pus.length:=hk;have e:=ae hk';have hl:=hp _ (aI hk');have ls':=qL (pt:=pt) (pus:=pus) ls (k:=k) (by lia)
  have lf:((pus.take k).reverse.flatten).length=(kry mv pt k).length:=by
   rw[lS,kB (i:=pt.length) λxs hx=>hp xs (b7 (List.mem_reverse.mp hx)),List.length_reverse,bI,mW (by lia)]
  rw[tP e,OR D ls' hl hc]
  have er:(pus.take (k+1)).reverse.flatten=pus[k]++(pus.take k).reverse.flatten:=by
   rw[take_snoc e,List.reverse_append];simp
  have ek:kry mv pt (k+1)=pt++(kry mv pt k).map (ou mv):=rfl;rw[er,ek,ai,ag,zh]
  have p1:(bx pt.length λi=>(pus[k]++(pus.take k).reverse.flatten).getD i 0*bW (pt++(kry mv pt k).map (ou mv)) i c)=bx pt.length λi=>pus[k].getD i 0*bW pt i c:=aO λi hi=>by
   rw[Ea hi,aa,bM (by lia),aa]
  have p2:(bx (kry mv pt k).length λi=>(pus[k]++(pus.take k).reverse.flatten).getD (pt.length+i) 0*bW (pt++(kry mv pt k).map (ou mv)) (pt.length+i) c)=bx mv.length λj=>bW mv c j*bx (kry mv pt k).length λi=>((pus.take k).reverse.flatten).getD i 0*bW (kry mv pt k) i j:=by
   have q1:∀i,i < (kry mv pt k).length->(pus[k]++(pus.take k).reverse.flatten).getD (pt.length+i) 0*bW (pt++(kry mv pt k).map (ou mv)) (pt.length+i) c=bx mv.length λj=>bW mv c j*(((pus.take k).reverse.flatten).getD i 0*bW (kry mv pt k) i j):=λi hi=>by
    rw[qo,OI rfl D.mw (eG rfl D.pw k) hi,aa,bg (by lia),hl,VU,<- aa,<- cU];exact aO λj _=>by grind
   rw[aO q1,fX];exact aO λj _=>cU
  rw[p1,p2];have p3:(iP mv (k+1) st).getD c 0=bx mv.length λj=>bW mv c j*(iP mv k st).getD j 0:=Vp D.mw (xM ls k) hc
  rw[p3]
  have p4:(bx mv.length λj=>bW mv c j*(tu mv pt st pus k).getD j 0)=(bx mv.length λj=>bW mv c j*(iP mv k st).getD j 0)+bx mv.length λj=>bW mv c j*bx (kry mv pt k).length λi=>((pus.take k).reverse.flatten).getD i 0*bW (kry mv pt k) i j:=by
   rw[<- m7];refine aO λj hj=>?_
   rw[ih (by lia) hp j hj];grind
  rw[p4];grind
end
section
variable {mv pt lk pus R:LR9} {st pu go w pr L:List Rat} {n t T c u k:Nat} {ps:List Nat}
theorem J9 {x y:List Rat} (h:x.length=y.length) (hc:c < x.length):(List.zipWith (λx y=>x - y) x y).getD c 0=x.getD c 0 - y.getD c 0:=by
 rw[aa,bY,aa (l:=x),aa (l:=y),ae hc,ae (by lia)];rfl
def D6 (w:List Rat) (u k:Nat):LR9:=(List.range u).map λt=>(w.drop (t*k)).take k
theorem Dj:∀{u:Nat} {w:List Rat},w.length=u*k->(D6 w u k).flatten=w
 | 0,w,h=>by
  rw[Nat.zero_mul] at h;rw[List.length_eq_zero_iff.mp h];rfl
 | u+1,w,h=>by
  have e:D6 w (u+1) k=D6 (w.take (u*k)) u k++[w.drop (u*k)]:=by
   unfold D6;rw[iI,cI];congr 1
   ·refine eV λt ht=>?_
    have ht:=cP.mp ht;have:t*k+k<=u*k:=by rw[<- dU];exact ay _ ht
    rw[List.drop_take,List.take_take,mW (by lia)]
   ·show [(w.drop (u*k)).take k]=_
    rw[aG (by rw[NC,h,dU];lia)]
  rw[e,vm,Dj (by rw[bI,h,dU];lia)];simp
theorem Px (hx:xs∈D6 w u k) (hx':x∈xs):x∈w:=by
 obtain ⟨t,_,rfl⟩:=aw.mp hx;exact List.mem_of_mem_drop (b7 hx')
end
def GO (l:Addr):Hp:=λq=>if q=l then some (.lst []) else none
theorem off_ne:GO l l≠none:=by unfold GO;rw[if_pos rfl];exact λz=>nomatch z
theorem OM (h:q≠l):GO l q=none:=by unfold GO;rw[if_neg h]
def NA (K:FG9) (l:Addr) (H:Hp) (R:LR9) (v:V):Prop:=∃q,v=V.ref q/\q≠l/\bf K (GO l) H q R
section
variable {K:FG9} {H0 H H':Hp} {l p q:Addr} {R:LR9} {v:V} {mv pt:LR9} {u T:Nat}
theorem bf.off (h:bf K H0 H p R) (hl:H l=none):p≠l/\bf K (GO l) H p R:=by
 obtain ⟨xs,g,r,n⟩:=h;refine ⟨λz=>(by rw[z,hl] at g;cases g),xs,g,Paired.imp' (λ_ _ ⟨q,a,b,c⟩=>⟨q,a,OM λz=>?_,c⟩) r,n⟩;obtain ⟨_,gg,_⟩:=c;rw[z,hl] at gg;cases gg
theorem NA.same (h:NA K l H R v) (s:aB H H'):NA K l H' R v:=by obtain ⟨q,a,b,c⟩:=h;exact ⟨q,a,b,c.same s⟩
theorem NA.upd {ys zs:List V} (h:NA K l H R v) (g:H l=some (.lst ys)):NA K l (upd H l (.lst zs)) R v:=by obtain ⟨q,a,b,c⟩:=h;exact ⟨q,a,b,c.updL g off_ne b⟩
def Ni (mv pt:LR9) (u:Nat):List (LR9):=(List.range u).map λs=>pt.map (iP mv s)
theorem Mc:Ni mv pt (u+1)=Ni mv pt u++[pt.map (iP mv u)]:=by unfold Ni;rw[iI,cI];rfl
theorem yA:∀u,(Ni mv pt u).flatten=kry mv pt u
 | 0=>rfl
 | u+1=>by
  have e:Ni mv pt (u+1)=pt :: (Ni mv pt u).map (List.map (ou mv)):=by
   unfold Ni;rw[List.range_succ_eq_map,ib,jJ];congr 1
   ·exact tj pt
   ·rw[jJ];refine eV λs _=>?_
    show pt.map (iP mv (s+1))=(pt.map (iP mv s)).map (ou mv)
    rw[jJ];rfl
  rw[e,c8,<- List.map_flatten,yA u];rfl
end
inductive Lq (K:FG9) (vs:List V) (H:Hp) (Q:VK) (E9:XK):Prop
 | mk (p:Addr) (u k:Nat) (w:List Rat):vs=[.ref p,.int u,.int k]->cK K H p w->w.length=u*k->u*k<=1000->u<=1000->k<=1000->(∀r H',H r=none->aB H H'->bf K H H' r (D6 w u k)->Q (.ref r) H')->Lq K vs H Q E9
theorem Tp.up (h:Tp M W q) (k:Nat) (hx:W*k<=x):Tp (M*k) x q:=by
 obtain ⟨z,e,b⟩:=h;exact ⟨z*k,by rw[tI,aN,<- e,aS];grind,by rw[eT,de];exact ah (ay _ b) hx⟩
section
variable {mv pt lk rows R N Hd:LR9} {st pr go:List Rat} {n r t T a c W B:Nat} {ps psd:List Nat} {Pm Y Z:Nat->Nat->Rat} {d:Rat}
theorem Vb.tp (V:Vb r n Pm Y Z d W) (r15:r<=15) (w1:1<=W):∃q:Nat,0 < q/\q<=(16*W)^r/\∀s,s < r->∀c,c < n->Tp q ((16*W)^r) (Y s c):=by
 have rlt:∀i∈zJ (λi=>i) r,i < r:=λi hi=>by
  obtain ⟨t,ht,e⟩:=o5 hi;have e:i=t:=e
  lia
 obtain ⟨q,eq,bq⟩:=Pl (N:=16) (Wx:=W) (rs:=zJ (λi=>i) r) (vs:=rT (λj i=>Pm i j) r) (by rw[cw_len];lia) λw hw i hi=>by
  obtain ⟨s,hs,rfl⟩:=cw_in hw;exact V.pf i (rlt i hi) s hs
 rw[uz] at bq;rw[<- V.det] at eq;have q0:q≠0:=λz=>V.d0 (by rw[eq,z];rfl)
 refine ⟨q.natAbs,by lia,bq,λs hs c hc=>?_⟩
 have cr:=EY (rs:=zJ (λi=>i) r) (v:=λj i=>Pm i j) (c:=λj=>Y j c) (W:=λi=>Z i c) hs (λi hi=>by
  rw[V.eq i (rlt i hi) c hc];exact aO λj _=>dM _ _)
 obtain ⟨z,ez,bz⟩:=Pl (N:=16) (Wx:=W) (rs:=zJ (λi=>i) r) (vs:=Nz (λj i=>Pm i j) s r++(λi=>Z i c) :: rT (λj i=>Pm i j) s) (by
  have:=congrArg List.length (cw_split (v:=λj i=>Pm i j) hs);rw[ai,aZ,cw_len] at this;rw[ai,aZ]
  lia) λw hw i hi=>by
   rcases av.mp hw with hw | hw
   ·obtain ⟨s',hs',rfl⟩:=Jv hw;exact V.pf i (rlt i hi) s' hs'
   ·rcases aH.mp hw with rfl | hw
    ·exact V.zf i (rlt i hi) c hc
    ·obtain ⟨s',hs',rfl⟩:=cw_in hw;exact V.pf i (rlt i hi) s' (by lia)
 rw[uz] at bz;rw[ez,<- V.det,eq] at cr;have key:Y s c*(q:Rat)=(z:Rat):=cr.symm;rcases JW q with h | h
 ·have hq:((q.natAbs:Nat):Rat)=(q:Rat):=by rw[<- aS,<- h]
  exact ⟨z,by rw[hq,key],bz⟩
 ·have hq:((q.natAbs:Nat):Rat)=-(q:Rat):=by rw[<- aS,<- cZ];congr 1;lia
  exact ⟨-z,by rw[hq,cZ,<- key];grind,by rw[kS];exact bz⟩
theorem Um (F:tE mv pt a c) (D8:mv.length<=8) (wm:∀xs∈mv,xs.length=mv.length) (wp:∀xs∈pt,xs.length=mv.length):∀T,∃R ps,Gd mv pt T R ps:=by
 intro T
 induction T with
 | zero=>exact ⟨_,_,Gd.start⟩
 | succ T ih =>
  obtain ⟨R,ps,G⟩:=ih;obtain ⟨RR,t,t1,t2,RRt,hs⟩:=id G;have le:=RR.le
  obtain ⟨R',ps',d,ls,S⟩:=EG (n:=mv.length) (rows:=pt++R.map (ou mv)) (λxs hx=>by
   rcases av.mp hx with hx | hx
   ·exact wp xs hx
   ·obtain ⟨y,_,rfl⟩:=aw.mp hx;exact rj) (F.step D8 wm wp (t:=t) (by lia) RRt)
  have RR':=xZ rfl wm wp RR S.rr;exact ⟨R',ps',(G.step wm wp RR').1⟩
theorem VB (F:tE mv pt a c) (D8:mv.length<=8) (wm:∀xs∈mv,xs.length=mv.length) (wp:∀xs∈pt,xs.length=mv.length) (RR:bG (kry mv pt T) mv.length R ps):Gd mv pt T R ps:=by
 obtain ⟨R',ps',G⟩:=Um F D8 wm wp T;obtain ⟨rfl,rfl⟩:=RR.same G.1;exact G
theorem tE.rtp (F:tE mv pt a c) (D8:mv.length<=8) (wm:∀xs∈mv,xs.length=mv.length) (wp:∀xs∈pt,xs.length=mv.length) (RR:bG (kry mv pt T) mv.length R ps):∃q,0 < q/\q<=2^(ps.length*((mv.length - 1)*(a+c)+4))/\∀xs∈R,∀x∈xs,Tp q (2^(ps.length*((mv.length - 1)*(a+c)+4))) x:=by
 obtain ⟨_,t,t1,_,RRt,_⟩:=VB F D8 wm wp RR;obtain ⟨Pm,Z,d,w,vb,hw⟩:=F.vb wm wp t1 RRt;have le:=RR.le;obtain ⟨q,q0,q1,q2⟩:=vb.tp (by lia) bU
 have up:(16*2^w)^ps.length<=2^(ps.length*((mv.length - 1)*(a+c)+4)):=by
  have e:(16*2^w)^ps.length=2^(ps.length*(w+4)):=by rw[show (16:Nat)=2^4 from rfl,<- aU,<- yT,cy ps.length,oN w]
  rw[e];refine au (by decide) (aP _ ?_);rcases hw with ⟨_,rfl⟩ | ⟨_,rfl⟩ <;> lia
 refine ⟨q,q0,ah q1 up,LQ λi hi e=>?_⟩;by_cases he:e < mv.length
 ·exact (q2 i (by rw[<- RR.1];exact hi) e he).mono up
 ·rw[KU RR.2.1 (by lia)];exact Tp.zero
theorem MG (hw:∀xs∈N,xs.length=n) (hW:1<=W) (h0:0 < M) (h3:∀xs∈N,∀x∈xs,Tp M W x) (f:Nat->Nat) (hf:∀i,i < N.length->bW N i (f i)≠0/\∀j,j < N.length->j≠i->bW N j (f i)=0) (hn:∀i,i < N.length->f i < n) (RR:bG N n Hd psd):psd.length=N.length:=by
 have ent:=NP h0 h3;obtain ⟨ls,ps2,d,I⟩:=ze hw hW (by rw[ag];exact ent) n (ar _);obtain ⟨_,_,⟨pm,B⟩,E⟩:=I;rw[ag] at B E
 have RF:Fz N.length n (bW N) ps2.length (λj=>ps2.getD j 0) (λi c=>eJ ls i c / d):=Fz.other (E.done λi hi c hc=>xl (n:=n) (λzs hz=>by
  obtain ⟨xs,hx,rfl⟩:=aw.mp hz;rw[pO];exact hw xs hx) hc) Bi Bj
 obtain ⟨e1,_,_⟩:=RF.uniq RR.2.2 (λ_ hi=>fP.row hi) (λ_ hi=>fP.row hi);rw[<- e1];have km:=B.km;rcases b8 ps2.length N.length with z | z
 ·exfalso
  have hk:=B.rng ps2.length z;obtain ⟨f1,f2⟩:=hf _ hk
  have low:∀i,i < ps2.length->eJ (N.map iO) (pm i) (f (pm ps2.length))=0:=λi hi=>by
   rw[Af (B.rng i (by lia)),f2 _ (B.rng i (by lia)) (λe=>by have:=B.inj i ps2.length (by lia) z e;lia),iN]
  have lz:∀j,j < ps2.length->eJ ls j (f (pm ps2.length))=0:=λj hj=>by
   rw[B.old hj]
   exact Ht (λr hr=>by
    obtain ⟨t,ht,rfl⟩:=o5 hr;exact low t ht) _ _
  have:=B.eqs ps2.length z (f (pm ps2.length));rw[if_neg (dQ _),E.zero ps2.length (ar _) z _ (hn _ hk),dd λj hj=>by rw[lz j hj,iN],Af hk] at this;have bne:=yx (rows:=N) (i:=pm ps2.length);have d0:=B.d0;rcases P5.mp (this.trans (by grind)) with q | q
  ·exact d0 q
  ·rcases P5.mp q with q | q
   ·exact bne q
   ·exact f1 q
 ·lia
theorem Up (h1:∀i j,i < j->j < ps.length->ps.getD i 0 < ps.getD j 0) (h2:∀j,j < ps.length->ps.getD j 0 < n):(Bv ps n).length+ps.length=n:=by
 have key:∀i,∃k,k<=ps.length/\(Bv ps i).length+k=i/\(∀j,j < k->ps.getD j 0 < i)/\∀j,k<=j->j < ps.length->i<=ps.getD j 0:=by
  intro i
  induction i with
  | zero=>exact ⟨0,a7 _,rfl,λj hj=>absurd hj (di _),λj _ _=>a7 _⟩
  | succ i ih =>
   obtain ⟨k,k1,k2,k3,k4⟩:=ih;rw[C5];by_cases hk:k < ps.length/\ps.getD k 0=i
   ·have hm:i∈ps:=by rw[<- hk.2];exact getD_in hk.1
    rw[if_neg (λz=>z hm)];refine ⟨k+1,hk.1,by lia,λj hj=>?_,λj hj hl=>?_⟩
    ·rcases b8 j k with z | z
     ·have:=k3 j z;lia
     ·rw[show j=k by lia,hk.2];lia
    ·have:=h1 k j (by lia) hl
     lia
   ·have hm:i∉ps:=λz=>by
     obtain ⟨j,hj,ej⟩:=bO z;have ej':ps.getD j 0=i:=by rw[aa,ae hj];exact ej
     rcases b8 j k with y | y
     ·have:=k3 j y;lia
     ·rcases b8 k j with x | x
      ·have:=h1 k j x hj;have:=k4 k (ar _) (by lia)
       lia
      ·exact hk ⟨by lia,by rw[show k=j by lia];exact ej'⟩
    rw[if_pos hm];refine ⟨k,k1,by rw[ai,aQ];lia,λj hj=>by have:=k3 j hj;lia,λj hj hl=>?_⟩;have:=k4 j hj hl;rcases b8 i (ps.getD j 0) with y | y
    ·exact y
    ·exact absurd (by rw[show i=ps.getD j 0 by lia];exact getD_in hl) hm
 obtain ⟨k,k1,k2,k3,k4⟩:=key n;rcases b8 k ps.length with z | z
 ·have:=k4 k (ar _) z;have:=h2 k z
  lia
 ·lia
theorem GP:∀xs∈dF R ps n,xs.length=n:=λxs hx=>by
 obtain ⟨_,_,_,rfl⟩:=zQ hx;exact uI
theorem zR (RR:bG rows n R ps):(dF R ps n).length+ps.length=n:=by
 unfold dF;rw[ag];exact Up RR.2.2.inc RR.2.2.low
theorem KE (RR:bG rows n R ps) (hW:1<=W) (h0:0 < M) (h3:∀xs∈dF R ps n,∀x∈xs,Tp M W x) (RN:bG (dF R ps n) n Hd psd):psd.length+ps.length=n:=by
 have fn:∀i,i < (dF R ps n).length->∀c,c < n->c∉ps->bW (dF R ps n) i c=if c=(Bv ps n).getD i 0 then 1 else 0:=λi hi c hc hp=>by
  unfold dF at hi ⊢;rw[ag] at hi;unfold bW;rw[aa (l:=List.map _ _),aA,ae hi];show (Nw R ps n (Bv ps n)[i]).getD c 0=_
  rw[Rv hc hp,aa,ae hi];rfl
 have fm:∀i,i < (dF R ps n).length->(Bv ps n).getD i 0 < n/\(Bv ps n).getD i 0∉ps:=λi hi=>by
  unfold dF at hi;rw[ag] at hi;exact Ho.mp (getD_in hi)
 have nd:(Bv ps n).Nodup:=by
  unfold Bv;exact List.Nodup.sublist List.filter_sublist List.nodup_range
 rw[MG GP hW h0 h3 (λi=>(Bv ps n).getD i 0) (λi hi=>⟨?_,λj hj ne=>?_⟩) (λi hi=>(fm i hi).1) RN,zR RR]
 ·rw[fn i hi _ (fm i hi).1 (fm i hi).2,if_pos rfl];decide
 ·rw[fn j hj _ (fm i hi).1 (fm i hi).2,if_neg λz=>ne ?_];unfold dF at hi hj;rw[ag] at hi hj;rw[aa,aa,ae hi,ae hj] at z;have z:(Bv ps n)[i]=(Bv ps n)[j]:=z;have pw:=List.pairwise_iff_getElem.mp nd;rcases eQ i j with y | y | y
  ·exact absurd z (pw i j hi hj y)
  ·exact y.symm
  ·exact absurd z.symm (pw j i hj hi y)
theorem Kb (RR:bG rows n R ps) (RN:bG (dF R ps n) n Hd psd):∀h∈Hd,∀r∈R,cB h r=0:=λh hh r hr=>by
 obtain ⟨i,hi,rfl⟩:=bO hh;have wr:=RR.2.1 r hr;have wh:=RN.2.1 _ (aI hi);obtain ⟨v,hv⟩:=RN.2.2.back i (by rw[<- RN.1];exact hi);rw[cO (by lia),wh]
 have fnh:∀c,Hd[i].getD c 0=bW Hd i c:=λc=>by
  unfold bW;rw[aa (l:=Hd),ae hi];rfl
 have e1:(bx n λc=>Hd[i].getD c 0*r.getD c 0)=bx (dF R ps n).length λt=>v t*bx n λc=>bW (dF R ps n) t c*r.getD c 0:=by
  have q:∀c,c < n->Hd[i].getD c 0*r.getD c 0=bx (dF R ps n).length λt=>v t*(bW (dF R ps n) t c*r.getD c 0):=λc _=>by
   rw[fnh c,hv c,dM,<- cU];exact aO λt _=>by grind
  rw[aO q,fX];exact aO λt _=>cU
 rw[e1];refine dd λt ht=>?_
 have mt:=aI ht;obtain ⟨at_,ha,hp,en⟩:=zQ mt;obtain ⟨j,hj,rfl⟩:=bO hr;have dz:=T8 (xI RR) ha hp (ae hj) wr;rw[<- en] at dz;have wn:(dF R ps n)[t].length=n:=GP _ mt;rw[cO (by lia),wr] at dz
 have q:(bx n λc=>bW (dF R ps n) t c*R[j].getD c 0)=0:=by
  refine Eq.trans (aO λc _=>?_) dz
  have:bW (dF R ps n) t c=(dF R ps n)[t].getD c 0:=by
   unfold bW;rw[aa (l:=dF R ps n),ae ht];rfl
  rw[this];exact dM _ _
 rw[q,iN]
end
structure VM (mv pt:LR9) (st pu:List Rat):Prop where
 f2:∀xs∈mv,Ad xs st
 part:∀kk,∀x∈nextK mv pt st pu kk,kN x
 su:∀u∈pu,kN u
 sp:∀row∈pt,∀y∈row,kN y
 mul:∀u∈pu,∀row∈pt,∀y∈row,kN (u*y)
inductive Iu (K:FG9) (vs:List V) (H:Hp) (Q:VK) (E9:XK):Prop
 | mk (r s u:Addr) (H0:Hp) (mv pt lk:LR9) (st pu:List Rat):vs=[.ref r,.ref s,.ref u]->gQ K H0 H r mv pt lk->fJ mv pt lk->cK K H s st->cK K H u pu->st.length=mv.length->pu.length=pt.length->VM mv pt st pu->(∀t H',H t=none->aB H H'->cK K H' t (iH mv pt st pu)->Q (.ref t) H')->Iu K vs H Q E9
structure Bd (mv pt:LR9) (M1 M2 V a1 a2 c:Nat):Prop where
 m1:0 < M1
 m2:0 < M2
 b1:M1<=2^a1
 b2:M2<=2^a2
 gm:GF M1 V mv
 gp:GF M2 V pt
 vc:(mv.length+4)*V<=2^c
section
variable {mv pt lk pus:LR9} {st pu go:List Rat} {M1 M2 V a1 a2 c N Np p t T ν:Nat}
theorem Bd.v1 (B:Bd mv pt M1 M2 V a1 a2 c):V<=2^c:=ah (eS _ (by lia)) B.vc
theorem C4 (h0:0 < M) (h1:M<=2^a) (h2:W<=2^b) (hab:a+b<=199500) (h:Fr M W x):kN x:=by
 refine kW (Tp.of h (ar _)) h0 (ah h1 (au (by decide) (by lia))) ?_;refine ah (aE h2 h1) ?_;rw[<- aU];exact au (by decide) (by lia)
theorem Bd.next (B:Bd mv pt M1 M2 V a1 a2 c) (D:fJ mv pt lk) (ls:st.length=mv.length) (lu:pu.length=pt.length) (N0:0 < N) (dv:M2*Np∣M1*N) (hs:∀x∈st,Fr N (2^p) x) (hu:∀x∈pu,Fr Np (2^p) x) (hN:N<=2^ν) (sz:a1+ν+c+p<=195000) (sp2:a2+c<=195000):VM mv pt st pu/\∀x∈iH mv pt st pu,Fr (M1*N) (2^(c+p)) x:=by
 have V1:=B.v1;have i4:=D.i4;have MN0:0 < M1*N:=bR B.m1 N0;have MN:M1*N<=2^(a1+ν):=by rw[aU];exact aE B.b1 hN
 have Np0:0 < Np:=by
  rcases jI Np with z | z
  ·rw[z,vz] at dv;have:=Nat.eq_zero_of_zero_dvd dv
   lia
  ·exact z
 have NpMN:Np<=M1*N:=ah (eS _ B.m2) (iT MN0 dv)
 have one:∀u∈pu,∀row∈pt,∀y∈row,Fr (M1*N) (V*2^p) (u*y):=λu hu' row hr y hy=>by
  have:=(B.gp row hr y hy).mul (hu u hu');rw[dM];exact this.dvd dv
 have part:∀kk,kk<=pt.length->∀x∈nextK mv pt st pu kk,Fr (M1*N) (2^(c+p)) x:=λkk hkk x hx=>by
  obtain ⟨j,hj,e⟩:=bO hx;rw[jU] at hj;have e2:=CO (mv:=mv) (pt:=pt) (st:=st) (pu:=pu) (k:=kk) hj;rw[aa,ae (by rw[jU];exact hj)] at e2;have e3:x=cB (mv[j]++(pt.map λxs=>xs.getD j 0).take kk) (st++pu.take kk):=by rw[<- e,<- e2];rfl
  have wj:=D.mw _ (aI hj);rw[e3,pY (by lia)];have f1:=Fr.dot (B.gm _ (aI hj)) hs;rw[wj] at f1
  have f2:Fr (M1*N) (4*(V*2^p)) (cB ((pt.map λxs=>xs.getD j 0).take kk) (pu.take kk)):=by
   have hc:∀y∈(pt.map λxs=>xs.getD j 0).take kk,Fr M2 V y:=λy hy=>by
    obtain ⟨xs,hxs,rfl⟩:=aw.mp (b7 hy);rw[aa];cases e:xs[j]? with
    | none=>exact Fr.zero
    | some z=>exact B.gp xs hxs z (ak e)
   have:=Fr.dot (ys:=pu.take kk) hc (λy hy=>hu y (b7 hy));refine (this.dvd dv).mono (ay _ ?_);rw[bI,ag]
   lia
  refine (f1.add f2).mono ?_;rw[<- FA,aU,<- cM];exact ay _ B.vc
 have szb:∀{x:Rat},Fr (M1*N) (2^(c+p)) x->kN x:=λh=>C4 MN0 MN (ar _) (by lia) h
 have all:∀kk,∀x∈nextK mv pt st pu kk,Fr (M1*N) (2^(c+p)) x:=λkk x hx=>by
  rcases b8 pt.length kk with z | z
  ·have e:nextK mv pt st pu kk=nextK mv pt st pu pt.length:=(vn (by lia) (by lia)).trans (vn (ar _) (by lia)).symm;rw[e] at hx;exact part _ (ar _) x hx
  ·exact part kk z x hx
 refine ⟨⟨λxs hx=>⟨a1,c,ν,p,⟨M1,V,B.m1,B.b1,V1,B.gm xs hx⟩,⟨N,2^p,N0,hN,ar _,hs⟩,by lia⟩,λkk x hx=>szb (all kk x hx),λu hu'=>?_,λrow hr y hy=>?_,λu hu' row hr y hy=>szb ((one u hu' row hr y hy).mono (by rw[aU];exact ay _ V1))⟩,λx hx=>?_⟩
 ·exact C4 Np0 (ah NpMN MN) (ar _) (by lia) (hu u hu')
 ·exact C4 B.m2 B.b2 V1 (by lia) (B.gp row hr y hy)
 ·rw[<- vn (k:=pt.length) (ar _) (by lia)] at hx;exact all _ x hx
end
section
variable {mv pt lk pus:LR9} {st pu go:List Rat} {M1 M2 V a1 a2 c N Np p t T ν k:Nat}
def WC (mv pt pus:LR9) (st:List Rat):Prop:=∃M1 M2 V a1 a2 c N Np p ν,Bd mv pt M1 M2 V a1 a2 c/\0 < N/\N<=2^ν/\M2*Np∣N/\(∀x∈st,Fr N (2^p) x)/\(∀xs∈pus,∀x∈xs,Fr Np (2^p) x)/\a1*(pus.length+1)+ν+c*(pus.length+1)+p<=195000/\a2+c<=195000
theorem nH (h:M<=2^a) (hN:N<=2^ν):M^t*N<=2^(a*t+ν):=by
 rw[aU,yT];exact aE (mf h t) hN
theorem Bd.states (B:Bd mv pt M1 M2 V a1 a2 c) (D:fJ mv pt lk) (ls:st.length=mv.length) (wp:∀xs∈pus,xs.length=pt.length) (N0:0 < N) (hN:N<=2^ν) (dv:M2*Np∣N) (hs:∀x∈st,Fr N (2^p) x) (hu:∀xs∈pus,∀x∈xs,Fr Np (2^p) x) (sz:a1*(pus.length+1)+ν+c*(pus.length+1)+p<=195000) (sp2:a2+c<=195000):∀k,k<=pus.length->(∀x∈tu mv pt st pus k,Fr (M1^k*N) (2^(c*k+p)) x)/\∀pu,pus[k]?=some pu->VM mv pt (tu mv pt st pus k) pu:=by
 have key:∀k,k<=pus.length->(∀x∈tu mv pt st pus k,Fr (M1^k*N) (2^(c*k+p)) x)->∀pu,pus[k]?=some pu->VM mv pt (tu mv pt st pus k) pu/\∀x∈iH mv pt (tu mv pt st pus k) pu,Fr (M1*(M1^k*N)) (2^(c+(c*k+p))) x:=λk hk f pu hpu=>by
  have mp:=ak hpu;have kl:=(az.mp hpu).1;have e1:a1*(k+1)<=a1*(pus.length+1):=aP _ (by lia);have e2:c*(k+1)<=c*(pus.length+1):=aP _ (by lia);rw[fQ,PV] at e1 e2;refine B.next D (qL ls hk) (wp pu mp) (bR (jA B.m1) N0) ?_ f (λx hx=>(hu pu mp x hx).mono (au (by decide) (Nat.le_add_left _ _))) (nH B.b1 hN) (by lia) sp2;exact mM dv (mM (ic _ _) (ic _ _))
 have fr:∀k,k<=pus.length->∀x∈tu mv pt st pus k,Fr (M1^k*N) (2^(c*k+p)) x:=by
  intro k
  induction k with
  | zero =>
   intro _ x hx;rw[Nat.pow_zero,sY,vz,Mo];exact hs x hx
  | succ k ih =>
   intro hk x hx;have e:=ae (show k < pus.length by lia);rw[tP e] at hx;have:=(key k (by lia) (ih (by lia)) _ e).2 x hx;rw[<- cM,cy M1,<- gW,show c+(c*k+p)=c*(k+1)+p by rw[fQ];lia] at this;exact this
 exact λk hk=>⟨fr k hk,λpu hpu=>(key k hk (fr k hk) pu hpu).1⟩
theorem WC.nx (h:WC mv pt pus st) (D:fJ mv pt lk) (ls:st.length=mv.length) (wp:∀xs∈pus,xs.length=pt.length) (hk:k<=pus.length) (hpu:pus[k]?=some pu):VM mv pt (tu mv pt st pus k) pu:=by
 obtain ⟨M1,M2,V,a1,a2,c,N,Np,p,ν,B,N0,hN,dv,hs,hu,sz,sp2⟩:=h;exact (B.states D ls wp N0 hN dv hs hu sz sp2 k hk).2 pu hpu
def WD (mv:LR9) (st:List Rat) (T:Nat):Prop:=∃M1 V a1 c N p ν,0 < M1/\M1<=2^a1/\GF M1 V mv/\(mv.length+4)*V<=2^c/\0 < N/\N<=2^ν/\(∀x∈st,Fr N (2^p) x)/\a1*(T+1)+ν+c*(T+1)+p<=195000
theorem TX (gm:GF M1 V mv) (wm:∀xs∈mv,xs.length=mv.length) (vc:(mv.length+4)*V<=2^c) (ls:st.length=mv.length) (hs:∀x∈st,Fr N (2^p) x):∀t,∀x∈iP mv t st,Fr (M1^t*N) (2^(c*t+p)) x:=by
 intro t
 induction t with
 | zero =>
  intro x hx;rw[Nat.pow_zero,sY,vz,Mo];exact hs x hx
 | succ t ih =>
  intro x hx;obtain ⟨row,hr,rfl⟩:=aw.mp (show x∈mv.map λxs=>cB xs (iP mv t st) from hx);have f:=Fr.dot (gm row hr) ih;rw[<- cM,cy M1,<- gW] at f;refine f.mono ?_;rw[wm row hr,<- cM,show c*(t+1)+p=c+(c*t+p) by rw[fQ];lia,aU 2 c];exact ay _ (ah (ay V (show mv.length<=mv.length+4 by lia)) vc)
theorem WD.fit (h:WD mv st T) (wm:∀xs∈mv,xs.length=mv.length) (ls:st.length=mv.length) (ht:t<=T):(∀xs∈mv,Ad xs (iP mv t st))/\∀x∈iP mv t st,kN x:=by
 obtain ⟨M1,V,a1,c,N,p,ν,m0,m1,gm,vc,N0,hN,hs,sz⟩:=h;have f:=TX gm wm vc ls hs t;have V1:V<=2^c:=ah (eS _ (by lia)) vc;have e1:a1*t<=a1*T:=aP _ ht;have e2:c*t<=c*T:=aP _ ht;rw[fQ,fQ,PV,PV] at sz;exact ⟨λxs hx=>⟨a1,c,a1*t+ν,c*t+p,⟨M1,V,m0,m1,V1,gm xs hx⟩,⟨M1^t*N,2^(c*t+p),bR (jA m0) N0,nH m1 hN,ar _,f⟩,by lia⟩,λx hx=>C4 (bR (jA m0) N0) (nH m1 hN) (ar _) (by lia) (f x hx)⟩
def VS (mv pt:LR9) (T:Nat):Prop:=∃M1 M2 V a1 a2 c,Bd mv pt M1 M2 V a1 a2 c/\a1*(T+1)+a2+c*(T+2)<=195000
theorem VS.row (h:VS mv pt T) (wm:∀xs∈mv,xs.length=mv.length) (wp:∀xs∈pt,xs.length=mv.length):∀xs∈pt,WD mv xs T:=λxs hx=>by
 obtain ⟨M1,M2,V,a1,a2,c,B,sz⟩:=h;refine ⟨M1,V,a1,c,M2,c,a2,B.m1,B.b1,B.gm,B.vc,B.m2,B.b2,λx hx'=>(B.gp xs hx x hx').mono B.v1,?_⟩;rw[fQ c T 2] at sz;rw[fQ c T 1]
 lia
end
section
variable {X:Cx}
end
def DrP (pt:LR9) (T w:Nat) (pus:LR9):Prop:=pus.length=T/\∀xs∈pus,xs.length=pt.length/\∀x∈xs,Dr (max w 6) x
theorem OQ (ws vs:List V) (M1 M2 M3:Nat):∃μ:V->Nat,(∀x∈ws,μ x=M2)/\(∀x∈vs,x∉ws->μ x=M3)/\(∀x,x∉ws->x∉vs->μ x=M1)/\∀x,μ x=M1\/μ x=M2\/μ x=M3:=by
 classical
 refine ⟨λx=>if x∈ws then M2 else if x∈vs then M3 else M1,λx h=>if_pos h,λx h h'=>?_,λx h h'=>?_,λx=>?_⟩
 ·show (if x∈ws then M2 else if x∈vs then M3 else M1)=M3
  rw[if_neg h',if_pos h]
 ·show (if x∈ws then M2 else if x∈vs then M3 else M1)=M1
  rw[if_neg h,if_neg h']
 ·show (if x∈ws then M2 else if x∈vs then M3 else M1)=M1\/(if x∈ws then M2 else if x∈vs then M3 else M1)=M2\/(if x∈ws then M2 else if x∈vs then M3 else M1)=M3
  by_cases h:x∈ws
  ·rw[if_pos h];exact .inr (.inl rfl)
  ·rw[if_neg h];by_cases h':x∈vs
   ·rw[if_pos h'];exact .inr (.inr rfl)
   ·rw[if_neg h'];exact .inl rfl
theorem kH.apart {K:FG9} (h:kH K A H n C m p l b q0 us ws vs):(∀x∈us,x∉ws/\x∉vs)/\∀x∈vs,x∉ws:=by
 obtain ⟨n1,n2,n3⟩:=dA.mp h.nd;obtain ⟨n4,n5,n6⟩:=dA.mp n1;exact ⟨λx hx=>⟨λz=>n3 x (av.mpr (.inl hx)) x z rfl,λz=>n6 x hx x z rfl⟩,λx hx z=>n3 x (av.mpr (.inr hx)) x z rfl⟩
theorem kH.fr3 {K:FG9} (h:kH K A H n (λ_=>Dr (2^c)) m p l b q0 us ws vs):∃M1 M2 M3,0 < M1/\0 < M2/\0 < M3/\M1<=2^(c*(n*n))/\M2<=2^(c*(ws.length*n))/\M3<=2^(c*(vs.length*n))/\(∀x∈us,ig K A H n (Fr M1 (2^c)) x)/\(∀x∈ws,ig K A H n (Fr M2 (2^c)) x)/\∀x∈vs,ig K A H n (Fr M3 (2^c)) x:=by
 have one:∀l:List V,(∀x∈l,x∈us++vs++ws)->∃M,0 < M/\M<=2^(c*(l.length*n))/\∀x∈l,ig K A H n (Fr M (2^c)) x:=λl hl=>by
  obtain ⟨ra,pa,la,ha⟩:=Cp λx hx=>h.row x (hl x hx)
  obtain ⟨M,m0,m1,m2⟩:=Qz (c:=c) (n:=n) (rows:=ra) ha;exact ⟨M,m0,by rw[la] at m1;exact m1,Ku pa λqs hq=>⟨(ha qs hq).1,m2 qs hq⟩⟩
 obtain ⟨M1,a1,a2,a3⟩:=one us λx hx=>by simp [hx]
 obtain ⟨M2,b1,b2,b3⟩:=one ws λx hx=>by simp [hx]
 obtain ⟨M3,c1,c2,c3⟩:=one vs λx hx=>by simp [hx]
 rw[h.lm] at a2;exact ⟨M1,M2,M3,a1,b1,c1,a2,b2,c2,a3,b3,c3⟩
inductive Ez (K:FG9) (xs:List V) (H:Hp) (Q:VK) (E9:XK):Prop
 | mk (b m p l q0:Addr) (n V1:Nat) (μ:V->Nat) (A:Addr->Prop) (us ws vs:List V):xs=[.ref b,.ref m,.ref p,.ref l]->JJ A m p l b q0->kH K A H n (λx=>Fr (μ x) V1) m p l b q0 us ws vs->n<=8->ws.length<=4->vs.length<=4->(∀x,0 < μ x)->(∀x,μ x<=2^800)->(∃M,∀x,x∉ws->x∉vs->μ x=M)->V1<=2^20->(∀q,H q=none->A q)->(∀r us' H',H' r=some (.tup [.ref m,.ref p,.ref l])->kH K A H' n (λx=>Fr (μ x) (9^3*V1)) m p l b q0 us' ws vs->jk A b m H H'->Q (.ref r) H')->Ez K xs H Q E9
def Ww (n i o w c:Nat) (mv pt lk:LR9):Prop:=∃M1 M2 M3 V1:Nat,0 < M1/\0 < M2/\0 < M3/\GF M1 V1 mv/\GF M2 V1 pt/\GF M3 V1 lk/\((w<=9/\M1=2520/\M2=2520/\M3=2520/\V1=9^3*9)\/(9 < w/\M1<=2^(c*(n*n))/\M2<=2^(c*(i*n))/\M3<=2^(c*(o*n))/\V1=9^3*2^c))
inductive Es (K:FG9) (vs:List V) (H:Hp) (Q:VK) (E9:XK):Prop
 | mk (b:Addr) (n i o w c:Nat):vs=[.ref b,.int n,.int i,.int o,.int w]->iM H b->n<=8->i<=4->o<=4->1<=w->w<=1000000->max w 6<=2^c->c<=20->c*((n+i+o)*n)<=800->(∀r mv pt lk H',gQ K H H' r mv pt lk->mv.length=n->pt.length=i->lk.length=o->fJ mv pt lk->Ww n i o w c mv pt lk->iM H' b->df b H H'->Q (.ref r) H')->Es K vs H Q E9
def Rg (mv pt:LR9) (w:Nat):Prop:=(w<=9/\Bd mv pt 1 1 (9^3) 0 0 14)\/(w<=9/\mv.length<=5/\Bd mv pt 2520 2520 (9^3*9) 12 12 16)\/(w=1000/\mv.length<=2/\∃M1 M2,Bd mv pt M1 M2 (9^3*2^20) 80 160 33)
theorem KP {M V:Nat} (h:GF M V l) (k:Nat):GF (k*M) V l:=λxs hx x hx'=>(h xs hx x hx').scaleL k
theorem Ww.n {n i o w c:Nat} (h:Ww n i o w c mv pt lk):PtF n i o w c mv pt lk:=by
 obtain ⟨M1,M2,M3,V1,a1,a2,a3,f1,f2,f3,hc⟩:=h;rcases hc with ⟨w9,rfl,rfl,rfl,e⟩ | ⟨w9,e1,e2,e3,e⟩
 ·exact ⟨2520,V1,by decide,f1,f2,f3,.inl ⟨w9,rfl,e⟩⟩
 ·refine ⟨M1*M2*M3,V1,bR (bR a1 a2) a3,?_,?_,?_,.inr ⟨w9,?_,e⟩⟩
  ·have:=KP f1 (M2*M3);rwa [show M2*M3*M1=M1*M2*M3 by rw[cy (M2*M3),cM]] at this
  ·have:=KP f2 (M1*M3);rwa [show M1*M3*M2=M1*M2*M3 by rw[cM,cy M3,cM]] at this
  ·exact KP f3 (M1*M2)
  ·refine ah (aE (aE e1 e2) e3) ?_;rw[<- aU,<- aU,show c*((n+i+o)*n)=c*(n*n)+c*(i*n)+c*(o*n) by rw[FA,FA,fQ,fQ]];exact ar _
section
variable {mv pt lk pus:LR9} {st pu go pr:List Rat} {M1 M2 V a1 a2 c B b g p t T w:Nat}
theorem Bd.kry (X:Bd mv pt M1 M2 V a1 a2 c) (D:fJ mv pt lk):∀t,∀xs∈kry mv pt t,∀x∈xs,Fr (M1^(t - 1)*M2) (2^(c*t)) x:=by
 intro t
 induction t with
 | zero=>intro xs hx;exact nomatch hx
 | succ t ih =>
  intro xs hx x hx';rcases av.mp (show xs∈pt++(L2.kry mv pt t).map (ou mv) from hx) with hx | hx
  ·refine Fr.up (X.gp xs hx x hx') (ic _ _) (ah X.v1 (au (by decide) ?_));exact ee _ (by lia)
  ·obtain ⟨ys,hy,rfl⟩:=aw.mp hx;obtain ⟨row,hr,rfl⟩:=aw.mp (show x∈mv.map λzs=>cB zs ys from hx');rcases t with _ | t
   ·exact nomatch hy
   have f:=Fr.dot (X.gm row hr) (ih ys hy);rw[show M1*(M1^(t+1 - 1)*M2)=M1^(t+1+1 - 1)*M2 by rw[<- cM,show t+1 - 1=t by lia,show t+1+1 - 1=t+1 by lia,gW,cy M1]] at f;refine f.mono ?_;rw[D.mw row hr,<- cM,show c*(t+1+1)=c+c*(t+1) by rw[fQ c (t+1)];lia,aU 2 c];exact ay _ (ah (ay V (show mv.length<=mv.length+4 by lia)) X.vc)
end
section
variable {mv pt lk pus pus':LR9} {st st' pu go pr:List Rat} {M1 M2 V a1 a2 c B b1 b2 g p t T w:Nat}
theorem C8:∀(xs:List Rat) (k:Nat),cB xs (List.replicate k 0)=0
 | [],_=>by simp [cB]
 | x :: xs,0=>by simp [cB]
 | x :: xs,k+1=>by
  have:=C8 xs k;simp only[cB,ji,List.zipWith_cons_cons,List.sum_cons] at this ⊢;rw[this];grind
theorem Cu:∀t,iP mv t (List.replicate mv.length 0)=List.replicate mv.length 0
 | 0=>rfl
 | t+1=>by
  show (mv.map λxs=>cB xs (iP mv t (List.replicate mv.length 0)))=_
  rw[Cu t]
  have:∀xs:List Rat,cB xs (List.replicate mv.length (0:Rat))=0:=λxs=>by
   exact C8 xs _
  rw[eV λxs _=>this xs,Qa]
end
open PySem.MeetsSeq
theorem DR (l:Addr) (items:Array Value) (n:Nat) (x:Value) (e:Nat->Bool) (j:Nat) (hj:j < items.size) (hit:e j=true) (k:Nat) (hs1:items.size<=sizeLine) :
  ∀i:Nat,j - i=k->i<=j->(∀m,i<=m->m < j->e m=false)->Meets (Builtin.«list.remove.loop» ⟨[.ref l,x,rawInt i],[]⟩)
   (λA R s=>s.heap.get? l=some { cls:=.type "list",dict:=none,data:=.seq items n,slots:=#[] }/\(∀m (hm:m < items.size),SeqAt.EqAt A.in1 s items[m] x (e m))/\R (.ok (.ret .none)) { s with heap:=s.heap.update l (Obj.mapSeq λxs=>xs.eraseIdxIfInBounds j) }):=by
 induction k with
 | zero =>
  intro i hk hij hno prog w A R s h;obtain ⟨hp,g,d,tk,os⟩:=s;obtain ⟨hl,he,h⟩:=h;have hij':i=j:=by lia
  subst hij'
  wp_walk using wpAny_loadPart' hl
  have hi:items[((i:Nat):Int).toNat]?=some items[i]:=by simp [hj]
  rw[hi];refine wpAny_bind (he _ hj prog w _ _ ?_);rw[hit];have hz':(items.eraseIdxIfInBounds i).size<=sizeLine+1:=ah (size_erased items _) (Nat.le_succ_of_le hs1)
  wp_walk using (wpAny_updateSeq hl rfl (hz:=hs1) (_hz':=hz')),wpAny_loadPart' hl
  simpa using h
 | succ k ih =>
  intro i hk hij hno prog w A R s h;obtain ⟨hp,g,d,tk,os⟩:=s;obtain ⟨hl,he,h⟩:=h;have hlt:i < items.size:=by lia
  wp_walk using wpAny_loadPart' hl
  have hi:items[((i:Nat):Int).toNat]?=some items[i]:=by simp [hlt]
  have hc:((i:Int)+1)=((i+1:Nat):Int):=by push_cast;rfl
  rw[hi];refine wpAny_bind (he _ hlt prog w _ _ ?_);rw[hno i (ar _) (by lia)]
  wp_walk
  rw[hc]
  exact ⟨plainId_quiet plain_remove_loop _,codeAny_builtin entry_remove_loop (by
   rw[Around.under_plainId plain_remove_loop _];exact ih (i+1) (by lia) (by lia) (λm h1 h2=>hno m (by lia) h2) prog w A R _ ⟨hl,he,h⟩)⟩
theorem D5 (l:Addr) (items:Array Value) (n:Nat) (x:Value) (e:Nat->Bool) (j:Nat) (hj:j < items.size)
  (hit:e j=true) (hno:∀m,m < j->e m=false) (hs1:items.size<=sizeLine) :
  Meets (Builtin.«list.remove» ⟨[.ref l,x],[]⟩)
   (λA R s=>s.heap.get? l=some { cls:=.type "list",dict:=none,data:=.seq items n,slots:=#[] }/\(∀m (hm:m < items.size),SeqAt.EqAt A.in1 s items[m] x (e m))/\R (.ok (.ret .none)) { s with heap:=s.heap.update l (Obj.mapSeq λxs=>xs.eraseIdxIfInBounds j) }):=by
 intro prog w A R s h;obtain ⟨hp,g,d,tk,os⟩:=s;obtain ⟨hl,he,h⟩:=h
 wp_walk using wpAny_loadPart' hl
 exact ⟨plainId_quiet plain_remove_loop _,codeAny_builtin entry_remove_loop (by
  rw[Around.under_plainId plain_remove_loop _];exact DR l items n x e j hj hit _ hs1 0 rfl (a7 _) (λm _ h2=>hno m h2) prog w A R _ ⟨hl,he,h⟩)⟩
def Wg (K:FG9):V->List V->Hp->VK->Prop:=λx vs H Q=>∃(l:Addr) (xs:List V) (y:V) (α:Type) (_:DecidableEq α) (k:Kind α) (as:List α) (a:α) (j:Nat),x=.ref l/\vs=[y]/\H l=some (.lst xs)/\k.d<=40/\Paired (λa x=>k.R K H x a) as xs/\k.R K H y a/\as[j]?=some a/\(∀i,i < j->as[i]?≠some a)/\Q .non (upd H l (.lst (xs.eraseIdx j)))
theorem MV (hu:X.A.units+50 < cLine):Wy X "list.remove" (Wg X.K):=by
 intro pins s σ H x vs v us Q I rx rv h;obtain ⟨l,xs,y,α,dα,k,as,a,j,rfl,rfl,hH,hd,pa,ha,hj,hno,q⟩:=h;cases rx;obtain ⟨u,rfl,ru⟩:=rv.one;obtain ⟨z,its,n,r,hl,e⟩:=I.lstM hH;have l1:=pa.length;have l2:=r.length;have jl:j < as.length:=(az.mp hj).1
 refine call_meets F.slot_list_remove ⟨_,e,rfl⟩ F.entry_list_remove (F.args_list_remove_2 _ _)
  (D5 l its.toArray n u (λm=>decide (as[m]?=some a)) j (by rw[aF];lia) (decide_eq_true hj) (λm hm=>decide_eq_false (hno m hm)) (by rw[aF];lia)) ⟨e,λm hm=>?_,?_⟩
 ·have ml:m < its.length:=by simpa using hm
  obtain ⟨w,hw,rw'⟩:=r.get (i:=m) (x:=xs[m]'(by lia)) (by simp)
  have ew:its.toArray[m]=w:=by
   rw[ae ml] at hw;simpa using hw
  have q:=k.eq (A:=X.A.in1) I rw' ru (jO pa (i:=m) (by lia) (by lia)) ha (by show X.A.units+1+k.d < cLine;lia);rw[ew,ae (show m < as.length by lia)];have e5:decide (some as[m]=some a)=decide (as[m]=a):=by simp
  rw[e5];exact q
 ·refine ⟨.non,_,I.lset (its':=its.eraseIdx j) hH e ?_ (r.eraseIdx j) ?_,rfl,q⟩
  ·show its.toArray.eraseIdxIfInBounds j=(its.eraseIdx j).toArray
   rw[List.eraseIdxIfInBounds_toArray]
  ·have:=EO xs j
   lia
section
variable {rows rows0 fs l2 R Hd:LR9} {hd:List Rat} {n P:Nat} {ps psd:List Nat}
theorem OX (wide:∀r∈fs++hd :: l2,r.length=n) (hi:i < (fs++hd :: l2).length) (c:Nat) :
  bW ((fs.map (pJ P (iS P hd))++[iS P hd])++l2.map (pJ P (iS P hd))) i c=if i=fs.length then 1 / hd.getD P 0*hd.getD c 0 else bW (fs++hd :: l2) i c - bW (fs++hd :: l2) i P*(1 / hd.getD P 0*hd.getD c 0):=by
 rw[ai,aZ] at hi;have whd:hd.length=n:=wide _ (av.mpr (.inr (.head _)));have wu:(iS P hd).length=n:=by unfold iS;rw[ag];exact whd
 have vl:∀r,r.length=n->∀c,(pJ P (iS P hd) r).getD c 0=r.getD c 0 - r.getD P 0*(1 / hd.getD P 0*hd.getD c 0):=λr hr c=>by
  unfold pJ;rw[Pa (by rw[ag,wu,hr]),EU];unfold iS;rw[EU]
 have lf:(fs.map (pJ P (iS P hd))).length=fs.length:=ag _
 have key:∀{X:LR9} {s:Nat} (hs:s < X.length) (_:∀r∈X,r.length=n),bW (X.map (pJ P (iS P hd))) s c=bW X s c - bW X s P*(1 / hd.getD P 0*hd.getD c 0):=λ{X s} hs hX=>by
  unfold bW;have e1:(X.map (pJ P (iS P hd))).getD s []=pJ P (iS P hd) X[s]:=by rw[aa,aA,ae hs];rfl
  have e2:X.getD s []=X[s]:=by rw[aa,ae hs];rfl
  rw[e1,e2];exact vl _ (hX _ (aI hs)) c
 rcases eQ i fs.length with z | z | z
 ·rw[if_neg (by lia),cm,Ea (by lia),Ea (by lia),key (by lia) λr hr=>wide r (av.mpr (.inl hr))]
 ·rw[if_pos z,cm,show i=(fs.map (pJ P (iS P hd))).length+0 by lia,qo];show (iS P hd).getD c 0=_
  unfold iS;rw[EU]
 ·rw[if_neg (by lia)];obtain ⟨j,rfl⟩:∃j,i=fs.length+1+j:=⟨i - fs.length - 1,by lia⟩
  have e1:bW (fs++hd :: l2) (fs.length+1+j)=bW l2 j:=by
   have:=qo (X:=fs) (Y:=hd :: l2) (i:=j+1);rw[show fs.length+(j+1)=fs.length+1+j by lia] at this;rw[this];rfl
  have e2:bW ((fs.map (pJ P (iS P hd))++[iS P hd])++l2.map (pJ P (iS P hd))) (fs.length+1+j)=bW (l2.map (pJ P (iS P hd))) j:=by
   have:=qo (X:=fs.map (pJ P (iS P hd))++[iS P hd]) (Y:=l2.map (pJ P (iS P hd))) (i:=j);rw[ai,lf,aQ] at this;exact this
  rw[e1,e2,key (by lia) λr hr=>wide r (av.mpr (.inr (.tail _ hr)))]
def Nl (rows:LR9) (n S:Nat):Prop:=2*S<=199500/\∃J:Nat->LR9->List Nat->Prop,J 0 rows []/\(∀P rs ps,J P rs ps->(∀i,ps.length<=i->i < rs.length->bW rs i P=0)->J (P+1) rs ps) /\
 (∀P fs ls ps t,J P (fs++ls) ps->fs.length=ps.length->t < ls.length->P < n->(ls.getD t []).getD P 0≠0->(∀j,j < t->bW ls j P=0)->J (P+1) ((fs.map (pJ P (iS P (ls.getD t [])) )++[iS P (ls.getD t [])])++(ls.eraseIdx t).map (pJ P (iS P (ls.getD t [])))) (ps++[P])) /\
 (∀P rs ps,J P rs ps->AZ rows n P rs ps)/\∀P rs ps,J P rs ps->P<=n->∀i,i < rows.length->∃D:Nat,0 < D/\D<=2^S/\∀c,Tp D (2^S) (bW rs i c)
theorem Wz.lwt (h:Wz rows n S):Nl rows n S:=by
 obtain ⟨a,J,j0,j1,j2,j3,j4⟩:=h;exact ⟨a,J,j0,j1,λP fs ls ps t h1 h2 h3 h4 h5 _=>j2 P fs ls ps t h1 h2 h3 h4 h5,j3,j4⟩
theorem Tp.neg (h:Tp M W x):Tp M W (-x):=by
 obtain ⟨z,e,b⟩:=h;exact ⟨-z,by rw[Rat.neg_mul,e];exact (cZ z).symm,by rw[kS];exact b⟩
theorem Nl.redJ (RR:bG rows0 n Hd psd) (hx:∀i,i < rows.length->fP psd.length (bW Hd) (bW rows i)) (hwr:∀xs∈rows,xs.length=n) (hS:2*S<=199500) (s1:∀i,i < psd.length->∃D:Nat,0 < D/\D<=2^S/\∀c,Tp D (2^S) (bW Hd i c)) (s2:∀i,i < rows.length->∀k,k<=psd.length->∃D:Nat,0 < D/\D<=2^S/\∀c,Tp D (2^S) (bW rows i c - bx k λj=>bW rows i (psd.getD j 0)*bW Hd j c)):Nl (Hd++rows) n S:=by
 have lH:=RR.1;have Rf:=RR.2.2;have wA:∀xs∈Hd++rows,xs.length=n:=λxs h=>(av.mp h).elim (RR.2.1 xs) (hwr xs)
 refine ⟨hS,λP rs ps=>AZ (Hd++rows) n P rs ps/\∃k,k<=psd.length/\ps=psd.take k/\(∀j,j < k->psd.getD j 0 < P)/\(∀j,k<=j->j < psd.length->P<=psd.getD j 0)/\(∀i,i < psd.length->∀c,bW rs i c=bW Hd i c)/\∀i,i < rows.length->∀c,bW rs (psd.length+i) c=bW rows i c - bx k λj=>bW rows i (psd.getD j 0)*bW Hd j c,?_,?_,?_,λ_ _ _ h=>h.1,?_⟩
 ·refine ⟨AZ.start wA,0,a7 _,rfl,(λ_ h=>absurd h (di _)),(λ_ _ _=>a7 _),λi hi c=>by rw[Ea (by lia)],λi hi c=>?_⟩;rw[<- lH,qo];show _=_ - (0:Rat)
  grind
 ·rintro P rs ps ⟨L,k,hk,rfl,h1,h2,h3,h4⟩ hz;refine ⟨L.skip hz,k,hk,rfl,λj hj=>yU (h1 j hj),λj hj hj'=>?_,h3,h4⟩;have:=h2 j hj hj';rcases b8 P (psd.getD j 0) with q | q
  ·exact q
  ·have e:psd.getD j 0=P:=by lia
   have len:=L.len;rw[ai] at len;have z:=hz j (by rw[bI];lia) (by lia);rw[h3 j hj',<- e,Rf.unit j hj' j hj',if_pos rfl] at z;exact absurd z (by decide)
 ·rintro P fs ls ps t ⟨L,k,hk,rfl,h1,h2,h3,h4⟩ hf ht hP hne hfst;have hfk:fs.length=k:=by rw[hf,bI];lia
  have L2:=L.lean hf ht hP hne;have len:=L.len;have wide:=L.wide;rw[ai,ai] at len
  have at0:bW (fs++ls) (k+t) P≠0:=by
   rw[<- hfk,qo];exact hne
  have kd:k < psd.length/\psd.getD k 0=P:=by
   by_cases z:k < psd.length/\psd.getD k 0=P
   ·exact z
   ·exfalso
    have lt:∀j,k<=j->j < psd.length->P < psd.getD j 0:=λj hj hj'=>by
     have:=h2 j hj hj';rcases b8 P (psd.getD j 0) with q | q
     ·exact q
     ·have e:psd.getD j 0=P:=by lia
      rcases b8 k j with y | y
      ·have a:=Rf.inc k j y hj';have b:=h2 k (ar _) (by lia)
       lia
      ·have:j=k:=by lia
       subst this;exact absurd ⟨hj',e⟩ z
    have zr:∀j,k<=j->j < psd.length->bW Hd j P=0:=λj hj hj'=>Rf.lead j hj' P (lt j hj hj')
    apply at0;by_cases y:k+t < psd.length
    ·rw[h3 _ y];exact zr _ (by lia) y
    ·obtain ⟨i,hi⟩:∃i,k+t=psd.length+i:=⟨k+t - psd.length,by lia⟩;have il:i < rows.length:=by lia
     rw[hi,h4 i il,Rf.coef (hx i il) P];obtain ⟨b,hb⟩:∃b,psd.length=k+b:=⟨psd.length - k,by lia⟩;rw[hb,zh,dd (k:=b) λj hj=>by rw[zr (k+j) (by lia) (by lia)];grind];grind
  obtain ⟨kd,eP⟩:=kd;have one:bW (fs++ls) k P=1:=by rw[h3 k kd,<- eP,Rf.unit k kd k kd,if_pos rfl]
  have t0:t=0:=by
   rcases jI t with z | z
   ·exact z
   ·have:=hfst 0 z;have e:=qo (X:=fs) (Y:=ls) (i:=0);rw[Nat.add_zero,hfk] at e;rw[e,this] at one;exact absurd one (by decide)
  subst t0
  obtain ⟨hd,l2,rfl⟩:∃hd l2,ls=hd :: l2:=by
   cases ls with
   | nil=>exact absurd ht (di _)
   | cons a b=>exact ⟨a,b,rfl⟩
  have ehd:∀c,hd.getD c 0=bW Hd k c:=λc=>by
   rw[<- h3 k kd c];have e:=qo (X:=fs) (Y:=hd :: l2) (i:=0);rw[Nat.add_zero,hfk] at e;rw[e];rfl
  have hP1:hd.getD P 0=1:=by rw[ehd,<- h3 k kd];exact one
  refine ⟨L2,k+1,kd,?_,λj hj=>?_,λj hj hj'=>?_,λi hi c=>?_,λi hi c=>?_⟩
  ·rw[List.take_succ,ae kd];have:psd[k]=P:=by rw[<- eP,aa,ae kd];rfl
   rw[this];rfl
  ·rcases b8 j k with y | y
   ·exact yU (h1 j y)
   ·have:j=k:=by lia
    subst this
    lia
  ·have:=Rf.inc k j (by lia) hj'
   lia
  ·show bW ((fs.map (pJ P (iS P hd))++[iS P hd])++l2.map (pJ P (iS P hd))) i c=_
   rw[OX wide (by rw[ai];lia),hP1,ehd];by_cases y:i=fs.length
   ·rw[if_pos y,y,hfk];grind
   ·rw[if_neg y,h3 i hi,h3 i hi,<- eP,Rf.unit i hi k kd,if_neg (by lia)];grind
  ·show bW ((fs.map (pJ P (iS P hd))++[iS P hd])++l2.map (pJ P (iS P hd))) (psd.length+i) c=_
   rw[OX wide (by rw[ai];lia),hP1,ehd,if_neg (by lia),h4 i hi,h4 i hi];rw[show (bx k λj=>bW rows i (psd.getD j 0)*bW Hd j P)=0 from dd λj hj=>by rw[<- eP,Rf.unit j (by lia) k kd,if_neg (by lia)];grind];show _=bW rows i c - (bx k (λj=>bW rows i (psd.getD j 0)*bW Hd j c)+bW rows i (psd.getD k 0)*bW Hd k c)
   rw[eP];grind
 ·rintro P rs ps ⟨L,k,hk,rfl,h1,h2,h3,h4⟩ hP i hi;rw[ai] at hi;by_cases y:i < psd.length
  ·obtain ⟨D,a,b,c⟩:=s1 i y;exact ⟨D,a,b,λx=>by rw[h3 i y];exact c x⟩
  ·obtain ⟨j,rfl⟩:∃j,i=psd.length+j:=⟨i - psd.length,by lia⟩;obtain ⟨D,a,b,c⟩:=s2 j (by lia) k hk;exact ⟨D,a,b,λx=>by rw[h4 j (by lia)];exact c x⟩
theorem Nl.self (RR:bG rows0 n Hd psd) (M0:0 < M) (hM:M<=2^e) (th:∀xs∈Hd,∀x∈xs,Tp M (2^e) x) (he:2*e<=199500):Nl Hd n e:=by
 have q:Nl (Hd++[]) n e:=Nl.redJ (rows:=[]) RR (λi hi=>absurd hi (di _)) (λ_ h=>nomatch h) he (λi _=>⟨M,M0,hM,λc=>NM th i c⟩) (λi hi=>absurd hi (di _));rwa [tK] at q
end
inductive BV (K:FG9) (vs:List V) (H:Hp) (Q:VK) (E9:XK):Prop
 | mk (p:Addr) (n S:Nat) (H0:Hp) (rows:LR9):vs=[.ref p,.int n]->bf K H0 H p rows->rows.length<=100->n<=100->(∀xs∈rows,xs.length=n)->Nl rows n S->(∀r R ps H',H r=none->aB H H'->bf K H H' r R->bG rows n R ps->ps.length<=rows.length->Q (.ref r) H')->BV K vs H Q E9
theorem OO (h : xu xs n = t :: r) : ∀ i, i < t → xs.getD i 0 = 0 := λi hi => by
  by_cases z : xs.getD i 0 = 0
  · exact z
  · exfalso
    have pw : (xu xs n).Pairwise (· < ·) := by unfold xu; exact List.Pairwise.filter _ List.pairwise_lt_range
    have tm : t ∈ xu xs n := by rw [h]; exact .head _
    have tn : t < n := (KD.mp tm).1;have im : i ∈ xu xs n := KD.mpr ⟨by lia, z⟩;rw [h] at pw im;rcases aH.mp im with e | e
    · lia
    · have := (List.pairwise_cons.mp pw).1 i e
      lia
inductive Et (K:FG9) (vs:List V) (H:Hp) (Q:VK) (E9:XK):Prop
 | mk (p:Addr) (n w:Nat) (H0:Hp) (rows R:LR9) (ps:List Nat):vs=[.ref p,.int n]->bf K H0 H p R->R.length<=100->n<=100->bG rows n R ps->DI R n w->(∀xs∈R,∀x∈xs,kN x)->(∀r H',H r=none->aB H H'->bf K H H' r (dF R ps n)->Q (.ref r) H')->Et K vs H Q E9
structure V6 (A lk:LR9) (e:Nat):Prop where
 n8:A.length<=8
 wm:∀xs∈A,xs.length=A.length
 wp:∀xs∈lk,xs.length=A.length
 kf:∃a c,tE A lk a c/\A.length*((A.length - 1)*(a+c)+4)<=900/\∀p,p<=A.length->(A.length - p)*(p*((A.length - 1)*(a+c)+4)+4)<=e
 e1:e<=1650
def yO (A lk:LR9) (n t e:Nat) (Hd:LR9):Prop:=∃R ps psd M,bG (kry A lk t) n R ps/\bG (dF R ps n) n Hd psd/\psd.length+ps.length=n/\0 < M/\M<=2^e/\∀xs∈Hd,∀x∈xs,Tp M (2^e) x
section
variable {A lk R Hd:LR9} {e T n t:Nat} {ps psd:List Nat}
theorem V6.sw (h:V6 A lk e) (RR:bG (kry A lk T) A.length R ps):(∃w,DI R A.length w)/\(∀xs∈R,∀x∈xs,kN x)/\∃w,DI (dF R ps A.length) A.length w/\min (dF R ps A.length).length A.length*(w+4)<=e/\∃q,0 < q/\∀xs∈dF R ps A.length,∀x∈xs,Tp q (2^w) x:=by
 obtain ⟨a,c,KF,b1,b2⟩:=h.kf;obtain ⟨q,q0,q1,q2⟩:=KF.rtp h.n8 h.wm h.wp RR;have n8:=h.n8;have le:=RR.le;have lR:=RR.1;have cnt:=zR RR;have e1:=h.e1;have bp:=b2 ps.length le;generalize (A.length - 1)*(a+c)+4=E at b1 b2 q1 q2 bp;have pE:ps.length*E<=900:=ah (ay _ le) b1;have up:∀{m:Nat},900<=m->2^(ps.length*E)<=2^m:=λh=>au (by decide) (by lia)
 have tn:∀xs∈dF R ps A.length,∀x∈xs,Tp q (2^(ps.length*E)) x:=λxs hx x hx'=>by
  obtain ⟨a,_,_,rfl⟩:=zQ hx;exact Vq q0 q1 q2 RR x hx'
 have bn:min (dF R ps A.length).length A.length*(ps.length*E+4)<=e:=ah (ay _ (show min (dF R ps A.length).length A.length<=A.length - ps.length by lia)) bp;refine ⟨⟨ps.length*E,q,2^(ps.length*E),q0,ah q1 (up (by decide)),bU,ar _,q2,by lia,by lia,?_⟩,λxs hx x hx'=>kW (q2 xs hx x hx') q0 (ah q1 (up (by decide))) (up (by decide)),ps.length*E,⟨q,2^(ps.length*E),q0,ah q1 (up (by decide)),bU,ar _,tn,by lia,by lia,by lia⟩,bn,q,q0,tn⟩;have:min R.length A.length*(ps.length*E+4)<=8*904:=aE (by lia) (by lia)
 lia
theorem yO.lwt (h:yO A lk n t e Hd) (he:e<=1650):Nl Hd n e:=by
 obtain ⟨R,ps,psd,M,_,RN,_,M0,M1,tp⟩:=h;exact Nl.self RN M0 M1 tp (by lia)
theorem yO.self (h:yO A lk n t e Hd) (RR:bG Hd n R' ps'):R'=Hd:=by
 obtain ⟨R,ps,psd,M,_,RN,_⟩:=h;exact (RR.same (xI RN)).1
end
inductive BL (K:FG9) (C:Addr) (vs:List V) (H:Hp) (Q:VK) (E9:XK):Prop
 | mk (x:Addr) (T e:Nat) (H0:Hp) (mv pt lk:LR9):vs=[.ref x,.int T]->T<=99->l9 K H0 H C x mv pt lk->fJ mv pt lk->JY mv pt lk->V6 (aW mv mv.length) lk e->(∀r Hd H',H r=none->aB H H'->bf K H H' r Hd->yO (aW mv mv.length) lk mv.length T e Hd->Q (.ref r) H')->BL K C vs H Q E9
def V7 (n w T:Nat):Prop:=T<=12/\(9 < w->T<=3)/\(3 < n->n<=5->T<=5)/\(n=3->T<=6)
structure V5 (A lk:LR9) (T e:Nat):Prop where
 un:V6 A lk e
 ad:VS A lk T
 lw:∃S,Nl (kry A lk T) A.length S
 ft:∃k j,2*e+k+j<=196500/\∀xs∈kry A lk T,mH k j xs
section
variable {A lk pk:LR9} {T w e:Nat}
theorem JA (B:Bd A lk M1 M2 Vx a1 a2 c) (D:fJ A lk pk) (hn:A.length<=n) (n15:n<=15) (sz:2*(n*(c*T+(a1*(T - 1)+a2)+4)+(a1*(T - 1)+a2))<=199500):(∃S,Nl (kry A lk T) A.length S)/\∀xs∈kry A lk T,mH (a1*(T - 1)+a2) (c*T) xs:=by
 have f:=B.kry D T;have M0:0 < M1^(T - 1)*M2:=bR (jA B.m1) B.m2
 have hM:M1^(T - 1)*M2<=2^(a1*(T - 1)+a2):=by
  rw[aU];exact aE (ah (mf B.b1 _) (by rw[<- yT];exact ar _)) B.b2
 refine ⟨⟨_,(SO.lws (w:=c*T+(a1*(T - 1)+a2)) (a:=a1*(T - 1)+a2) ⟨_,2^(c*T+(a1*(T - 1)+a2)),M0,hM,bU,ar _,λxs hx x hx'=>Tp.of (f xs hx x hx') (by rw[aU];exact aP _ hM),by lia,?_⟩ (eG rfl D.pw T)).lwt⟩,λxs hx=>⟨_,_,M0,hM,ar _,f xs hx⟩⟩;have:min (kry A lk T).length A.length*(c*T+(a1*(T - 1)+a2)+4)<=n*(c*T+(a1*(T - 1)+a2)+4):=ay _ (by lia)
 lia
theorem QC (G:Rg A lk w) (D:fJ A lk pk) (St:V7 A.length w T):∃e,V5 A lk T e:=by
 obtain ⟨s1,s2,s3,s4⟩:=St;have tri:∀{n N:Nat} (E e:Nat),n<=N->(∀p,p<=N->(N - p)*(p*E+4)<=e)->∀p,p<=n->(n - p)*(p*E+4)<=e:=λE e hn h p hp=>ah (ay _ (by lia)) (h p (by lia))
 rcases G with ⟨_,B⟩ | ⟨_,n5,B⟩ | ⟨w1,n2,M1,M2,B⟩
 ·obtain ⟨l1,l2⟩:=JA (T:=T) (n:=8) B D D.n8 (by decide) (by lia);refine ⟨1650,⟨D.n8,D.mw,D.pw,⟨0,14,GV (M:=1) (V1:=9^3) (n0:=8) (by decide) (by decide) D.n8 (by decide) B.gm B.gp (by decide),?_,λp hp=>?_⟩,by decide⟩,⟨_,_,_,_,_,_,B,by lia⟩,l1,⟨_,_,by lia,l2⟩⟩
  ·exact ah (aE D.n8 (show (A.length - 1)*(0+14)+4<=102 by have:=D.n8;lia)) (by decide)
  ·have:=tri 102 1650 D.n8 (by decide) p hp;exact ah (aP _ (FC (aP _ (by have:=D.n8;lia)) _)) this
 ·obtain ⟨l1,l2⟩:(∃S,Nl (kry A lk T) A.length S)/\∀xs∈kry A lk T,mH (12*(T - 1)+12) (16*T) xs:=by
   rcases (show A.length<=2\/A.length=3\/3 < A.length by lia) with h | h | h
   ·exact JA (n:=2) B D h (by decide) (by lia)
   ·have:=s4 h;exact JA (n:=3) B D (by lia) (by decide) (by lia)
   ·have:=s3 h n5;exact JA (n:=5) B D n5 (by decide) (by lia)
  refine ⟨720,⟨D.n8,D.mw,D.pw,⟨12,16,GV (M:=2520) (V1:=9^3*9) (n0:=5) (by decide) (by decide) n5 (by decide) B.gm B.gp (by decide),?_,λp hp=>?_⟩,by decide⟩,⟨_,_,_,_,_,_,B,by lia⟩,l1,⟨_,_,by lia,l2⟩⟩
  ·exact ah (aE n5 (show (A.length - 1)*(12+16)+4<=116 by lia)) (by decide)
  ·have:=tri 116 720 n5 (by decide) p hp;exact ah (aP _ (FC (aP _ (by lia)) _)) this
 ·have t3:=s2 (by lia);obtain ⟨l1,l2⟩:=JA (T:=T) (n:=2) B D n2 (by decide) (by lia);have fm:GF (M1*M2) (9^3*2^20) A:=λxs hx x hx'=>(B.gm xs hx x hx').scale M2
  have fp:GF (M1*M2) (9^3*2^20) lk:=λxs hx x hx'=>(B.gp xs hx x hx').scaleL M1
  have hM:M1*M2<=2^240:=ah (aE B.b1 B.b2) (by rw[<- aU];exact ar _);refine ⟨600,⟨D.n8,D.mw,D.pw,⟨240,32,GV (n0:=2) (bR B.m1 B.m2) hM n2 (by decide) fm fp (by decide),?_,λp hp=>?_⟩,by decide⟩,⟨_,_,_,_,_,_,B,by lia⟩,l1,⟨_,_,by lia,l2⟩⟩
  ·exact ah (aE n2 (show (A.length - 1)*(240+32)+4<=276 by lia)) (by decide)
  ·have:=tri 276 600 n2 (by decide) p hp;exact ah (aP _ (FC (aP _ (by lia)) _)) this
theorem Ad.symm (h:Ad xs ys):Ad ys xs:=by obtain ⟨k,j,k',j',a,b,c⟩:=h;exact ⟨k',j',k,j,b,a,by lia⟩
end
inductive Iw (K:FG9) (vs:List V) (H:Hp) (Q:VK) (E9:XK):Prop
 | mk (r:Addr) (T:Nat) (H0:Hp) (mv pt lk:LR9):vs=[.ref r,.int T]->T<=12->gQ K H0 H r mv pt lk->fJ mv pt lk->VS (aW mv mv.length) lk T->(∀q H',H q=none->aB H H'->bf K H H' q (kry (aW mv mv.length) lk T)->Q (.ref q) H')->Iw K vs H Q E9
inductive BP (vs:List V) (H:Hp) (Q:VK) (E9:XK):Prop
 | mk (b:Addr) (n w:Nat):vs=[.ref b,.int n,.int w]->iM H b->n<=8->(∀(T:Nat) H',V7 n w T->iM H' b->df b H H'->Q (.int T) H')->BP  vs H Q E9
section
variable {K:FG9} {g:TG} {tf:TT} {te:TE} {Q:VK} {σ₀:St} {H:Hp}
theorem K4 (f:Nat->List Rat) (hl:n<=1000)
  (hs:∀(i:Nat) H' NY NN,i < n->aB H H'->(∀q H2,aB H' H2->H' q=none->cK K H2 q (f i)->NY (.ref q) H2)->pP σ₀ g tf te (.int i) H' NY NN)
  (hd:∀ys H' p,H p=none->aB H H'->H' p=some (.lst ys)->ys.Nodup->Paired (cW K H H') ((List.range n).map f) ys->V.ref p∉ys->Q (.ref p) H'):qG (JK 0 n) σ₀ g tf te Q H:=by
 refine lG (λi ys H'=>aB H H'/\Paired (cW K H H') ((List.range i).map f) ys/\ys.Nodup/\∀y∈ys,∃q,y=V.ref q/\H' q≠none) lE ⟨aB.refl _,.nil,FE,(λ_ h=>nomatch h)⟩ ?_ ?_
 ·rintro i ys H' hi hlen ⟨s,pr,nd,ne⟩;rw[oO];refine hs i H' _ _ hi s λq H2 s2 nq R=>⟨s.trans s2,?_,?_,λy hy=>?_⟩
  ·rw[iI,cI];exact b9 (Paired.imp' (λ_ _ z=>cW.same z s2) pr) (.cons ⟨q,rfl,s.none nq,R⟩ .nil)
  ·refine dA.mpr ⟨nd,by simp,λa ha b hb z=>?_⟩;rw[bV.mp hb] at z;obtain ⟨q',e,h⟩:=ne a ha;rw[z] at e;cases e;exact h nq
  ·rcases av.mp hy with hy | hy
   ·obtain ⟨q',e,h⟩:=ne y hy;exact ⟨q',e,λz=>h (s2.none z)⟩
   ·obtain ⟨_,gg,_⟩:=R;exact ⟨q,bV.mp hy,by rw[gg];exact λz=>nomatch z⟩
 ·rintro ys H' hy ⟨s,pr,nd,ne⟩ p hp;refine hd ys _ p (s.none hp) (s.trans (aB.new hp)) aD nd (Paired.imp' (λ_ _ z=>cW.same z (aB.new hp)) pr) λz=>?_
  obtain ⟨q,e,h⟩:=ne _ z;cases e;exact h hp
end
theorem yO.dot (h:yO A lk n t e Hd) (hw:∀xs∈kry A lk t,xs.length=n):∀x∈Hd,∀y∈kry A lk t,cB x y=0:=λx hx y hy=>by
 obtain ⟨R,ps,psd,M,RR,RN,_⟩:=h;obtain ⟨i,hi,rfl⟩:=bO hy;have wx:=RN.2.1 x hx;have wy:=hw _ hy;obtain ⟨v,hv⟩:=RR.2.2.span i hi;rw[cO (by lia),wx]
 have e1:∀c,c < n->x.getD c 0*(kry A lk t)[i].getD c 0=bx ps.length λs=>v s*(x.getD c 0*bW R s c):=λc _=>by
  have:(kry A lk t)[i].getD c 0=bW (kry A lk t) i c:=by
   unfold bW;rw[aa (l:=kry A lk t),ae hi];rfl
  rw[this,hv c,<- cU];exact aO λs _=>by grind
 rw[aO e1,fX,dd λs hs=>?_];rw[cU];have hs':s < R.length:=by rw[RR.1];exact hs
 have wr:=RR.2.1 _ (aI hs');have dz:=Kb RR RN x hx _ (aI hs');rw[cO (by lia),wx] at dz
 have:(bx n λc=>x.getD c 0*bW R s c)=0:=by
  refine Eq.trans (aO λc _=>?_) dz;unfold bW;rw[aa (l:=R),ae hs'];rfl
 rw[this];grind
theorem yO.cnt (h:yO A lk n t e Hd) (RR:bG (kry A lk t) n R' ps'):Hd.length+R'.length=n:=by
 obtain ⟨R,ps,psd,M,RR0,RN,c,_⟩:=h;obtain ⟨rfl,rfl⟩:=RR.same RR0;rw[RN.1,RR.1];exact c
theorem yO.szn (h:yO A lk n t e Hd) (he:e<=1650):(∀xs∈Hd,xs.length=n)/\Hd.length<=n/\(∀xs∈Hd,∀x∈xs,kN x)/\∀xs∈Hd,mH e e xs:=by
 obtain ⟨R,ps,psd,M,RR0,RN,c,M0,M1,tp⟩:=h;have up:2^e<=2^199750:=au (by decide) (by lia);exact ⟨RN.2.1,by rw[RN.1];lia,λxs hx x hx'=>kW (tp xs hx x hx') M0 (ah M1 up) up,λxs hx=>⟨M,2^e,M0,M1,ar _,λx hx'=>(tp xs hx x hx').fr M0⟩⟩
inductive BM (K:FG9) (vs:List V) (H:Hp) (Q:VK) (E9:XK):Prop
 | mk (td rw:Addr) (T e:Nat) (H0 H1:Hp) (A lk Hd:LR9):vs=[.ref td,.ref rw,.int A.length]->bf K H0 H td Hd->bf K H1 H rw (kry A lk T)->T<=12->lk.length<=4->A.length<=8->(∀xs∈lk,xs.length=A.length)->yO A lk A.length T e Hd->V5 A lk T e->(∀H',aB H H'->Q (.bl true) H')->BM K vs H Q E9
section
variable {mv pt lk A ws pus:LR9} {x y st pr go:List Rat} {n t T o:Nat}
theorem Na (h1:P.length=p.length) (h2:P.length=q.length):cB P (List.zipWith (λx y=>x - y) p q)=cB P p - cB P q:=by
 have l:(List.zipWith (λx y=>x - y) p q).length=P.length:=by rw[aY];lia
 rw[cO l.symm,cO h1,cO h2]
 have:∀k,k<=P.length->(bx k λc=>P.getD c 0*(List.zipWith (λx y=>x - y) p q).getD c 0)=(bx k λc=>P.getD c 0*p.getD c 0) - bx k λc=>P.getD c 0*q.getD c 0:=by
  intro k
  induction k with
  | zero=>intro _;show (0:Rat)=0 - 0;grind
  | succ k ih =>
   intro hk;show (bx k _)+P.getD k 0*(List.zipWith (λx y=>x - y) p q).getD k 0=(bx k _+P.getD k 0*p.getD k 0) - (bx k _+P.getD k 0*q.getD k 0)
   rw[ih (by lia),J9 (by lia) (by lia)];grind
 exact this _ (ar _)
theorem M8 (hc:t < n):(aW mv n).getD t []=mv.map λxs=>xs.getD t 0:=by
 unfold aW;rw[aa,aA,cu hc];rfl
theorem OH (hc:t < mv.length):(ou mv x).getD t 0=cB (mv.getD t []) x:=by
 unfold ou;rw[aa,aA,aa,ae hc];rfl
theorem T3 (wm:∀xs∈mv,xs.length=n) (lx:x.length=mv.length) (ly:y.length=n):cB (ou (aW mv n) x) y=cB x (ou mv y):=by
 have lt:(aW mv n).length=n:=bZ;rw[cO (by rw[rj,lt,ly]),rj,lt,cO (by rw[rj,lx]),lx]
 have e1:∀c,c < n->(ou (aW mv n) x).getD c 0*y.getD c 0=bx mv.length λi=>x.getD i 0*((mv.getD i []).getD c 0*y.getD c 0):=λc hc=>by
  rw[OH (by lia),M8 hc,cO (by rw[ag,lx]),ag,dM,<- cU];refine aO λi hi=>?_
  have:(mv.map λxs=>xs.getD c 0).getD i 0=(mv.getD i []).getD c 0:=by
   rw[aa,aA,aa (l:=mv),ae hi];rfl
  rw[this];grind
 rw[aO e1,fX];refine aO λi hi=>?_
 have wi:(mv.getD i []).length=n:=by
  rw[aa,ae hi];exact wm _ (aI hi)
 rw[cU,OH hi,cO (by rw[wi,ly]),wi]
theorem OD:∀t,iP mv t (ou mv x)=iP mv (t+1) x
 | 0=>rfl
 | t+1=>by
  show ou mv (iP mv t (ou mv x))=ou mv (iP mv (t+1) x)
  rw[OD t]
theorem Lu (wm:∀xs∈mv,xs.length=mv.length) (ly:y.length=mv.length):∀t (x:List Rat),x.length=mv.length->cB (iP (aW mv mv.length) t x) y=cB x (iP mv t y)
 | 0,x,_=>rfl
 | t+1,x,lx=>by
  have lt:(aW mv mv.length).length=mv.length:=bZ;rw[<- OD,Lu wm ly t _ (by rw[rj,lt]),T3 wm lx (xM ly t)];rfl
theorem Ln (D:fJ mv pt pk) (ls:st.length=mv.length) (wp:∀xs∈pus,xs.length=pt.length) (ht:t<=pus.length) (lx:x.length=mv.length):cB x (tu mv pt st pus t) - cB x (tu mv pt (List.replicate mv.length 0) pus t)=cB (iP (aW mv mv.length) t x) st:=by
 have l0:(List.replicate mv.length (0:Rat)).length=mv.length:=bA ..;have l1:=qL (mv:=mv) (pt:=pt) (pus:=pus) (k:=t) ls ht;have l2:=qL (mv:=mv) (pt:=pt) (pus:=pus) (k:=t) l0 ht;rw[Lu D.mw ls t x lx,<- Na (by lia) (by lia)];refine congrArg _ (KR (by rw[aY,xM ls];lia) λc hc=>?_);rw[aY] at hc;rw[J9 (by lia) (by lia),Lm D ls t ht wp c (by lia),Lm D l0 t ht wp c (by lia),Cu]
 have:(List.replicate mv.length (0:Rat)).getD c 0=0:=by
  rw[aa];cases h:(List.replicate mv.length (0:Rat))[c]? with
  | none=>rfl
  | some x=>exact yY (ak h)
 rw[this];grind
theorem BJ {f:Nat->Rat}:∀k,bx (k+1) f=f 0+bx k λi=>f (i+1)
 | 0=>by show (0:Rat)+f 0=f 0+0;grind
 | k+1=>by
  show bx (k+1) f+f (k+1)=f 0+(bx k _+f (k+1))
  rw[BJ k];grind
theorem Qj (hl:x.length=rows.length) (hw:∀xs∈rows,xs.length=n) (ly:y.length=n):cB (NJ rows x n) y=cB x (rows.map λxs=>cB xs y):=by
 have lw:(NJ rows x n).length=n:=wF;rw[cO (by lia),lw,cO (by rw[ag];exact hl)]
 have e:∀c,c < n->(NJ rows x n).getD c 0*y.getD c 0=bx x.length λi=>x.getD i 0*(bW rows i c*y.getD c 0):=λc hc=>by
  rw[Lf hc,dM,<- cU];exact aO λi _=>by grind
 rw[aO e,fX];refine aO λi hi=>?_
 rw[cU];have hi':i < rows.length:=by lia
 have wi:=hw _ (aI hi')
 have:(rows.map λxs=>cB xs y).getD i 0=cB rows[i] y:=by
  rw[aa,aA,ae hi'];rfl
 rw[this,cO (by lia),wi];refine congrArg _ (aO λc _=>?_);unfold bW;rw[aa (l:=rows),ae hi'];rfl
end
structure B3 (mv pt lk:LR9) (M1 M2 M3 V a1 a2 c:Nat):Prop where
 p:Bd mv pt M1 M2 V a1 a2 c
 q:Bd (aW mv mv.length) lk M1 M3 V a1 a2 c
def Rj (mv pt lk:LR9) (w:Nat):Prop:=(w<=9/\B3 mv pt lk 1 1 1 (9^3) 0 0 14)\/(w<=9/\mv.length<=5/\B3 mv pt lk 2520 2520 2520 (9^3*9) 12 12 16)\/(w=1000/\mv.length<=2/\∃M1 M2 M3,B3 mv pt lk M1 M2 M3 (9^3*2^20) 80 160 33)
theorem Rj.g (h:Rj mv pt lk w):Rg (aW mv mv.length) lk w:=by
 have et:(aW mv mv.length).length=mv.length:=bZ;rcases h with ⟨a,b⟩ | ⟨a,b,c⟩ | ⟨a,b,M1,M2,M3,c⟩
 ·exact .inl ⟨a,b.q⟩
 ·exact .inr (.inl ⟨a,by rw[et];exact b,c.q⟩)
 ·exact .inr (.inr ⟨a,by rw[et];exact b,M1,M3,c.q⟩)
structure PK (mv pt lk pus:LR9) (st:List Rat):Prop where
 en:WC mv pt pus st
 fit:∀t,t<=pus.length->∀xs∈lk,Ad xs (tu mv pt st pus t)
section
variable {mv pt lk ws pus:LR9} {st go pr:List Rat} {M1 M2 M3 V a1 a2 c N Np ν p T t e g x y v w:Nat}
theorem B3.looks (B:B3 mv pt lk M1 M2 M3 V a1 a2 c) (D:fJ mv pt lk) (ls:st.length=mv.length) (wp:∀xs∈pus,xs.length=pt.length) (lp:pus.length=T) (N0:0 < N) (hN:N<=2^ν) (dv:M2*Np∣N) (hs:∀z∈st,Fr N (2^p) z) (hu:∀xs∈pus,∀z∈xs,Fr Np (2^p) z) (sz:a1*(T+1)+ν+c*(T+1)+p+a2<=195000) (sp2:a2+c<=195000):PK mv pt lk pus st/\∀t,t<=T->∀xs∈lk,Fr (M3*(M1^T*N)) (2^(c*(T+1)+p)) (cB xs (tu mv pt st pus t)):=by
 subst lp;have f:=λt ht=>(B.p.states D ls wp N0 hN dv hs hu (by lia) sp2 t ht).1
 have V1:=B.p.v1;have ct:∀t,t<=pus.length->a1*t<=a1*(pus.length+1)/\c*t+c<=c*(pus.length+1):=λt ht=>⟨aP _ (by lia),by rw[<- vB];exact aP _ (by lia)⟩
 refine ⟨⟨⟨M1,M2,V,a1,a2,c,N,Np,p,ν,B.p,N0,hN,dv,hs,hu,by lia,sp2⟩,λt ht xs hx=>?_⟩,λt ht xs hx=>?_⟩
 ·obtain ⟨c1,c2⟩:=ct t ht;exact ⟨a2,c,a1*t+ν,c*t+p,⟨M3,V,B.q.m2,B.q.b2,V1,B.q.gp xs hx⟩,⟨M1^t*N,2^(c*t+p),bR (jA B.p.m1) N0,nH B.p.b1 hN,ar _,f t ht⟩,by lia⟩
 ·obtain ⟨c1,c2⟩:=ct t ht;have wx:=D.lw xs hx;refine Fr.up (Fr.dot (B.q.gp xs hx) (f t ht)) (Nat.mul_dvd_mul_left _ (Nat.mul_dvd_mul_right (Nat.pow_dvd_pow _ ht) _)) ?_;rw[wx,<- cM];refine ah (ay _ (show mv.length*V<=2^c from ah (ay _ (by lia)) B.p.vc)) ?_;rw[<- aU];exact au (by decide) (by lia)
def UH (mv lk:LR9) (st:List Rat) (t:Nat):List Rat:=lk.map λxs=>cB (iP (aW mv mv.length) t xs) st
def xh (mv pt lk:LR9) (st:List Rat) (pus:LR9):LR9:=(List.range pus.length).map λt=>lk.map λxs=>cB xs (tu mv pt st pus t)
end
def Kh (K:FG9):Sp:=λvs H Q _=>∃b:Addr,vs=[.ref b]/\iM H b /\
 ∀t r (w:Nat) mv pt lk H',H' t=some (.tup [.ref r,.int w])->gQ K H H' r mv pt lk->fJ mv pt lk->JY mv pt lk->Rj mv pt lk w->1<=w->w<=1000->iM H' b->df b H H'->Q (.ref t) H'
def Ir (K:FG9):Sp:=λvs H Q _=>∃n:Nat,vs=[.int n]/\n<=100/\∀r H',H r=none->aB H H'->cK K H' r (List.replicate n 0)->Q (.ref r) H'
inductive EB (K:FG9) (vs:List V) (H:Hp) (Q:VK) (E9:XK):Prop
 | mk (r s p:Addr) (H0 H1:Hp) (mv pt lk pus:LR9) (st:List Rat):vs=[.ref r,.ref s,.ref p]->gQ K H0 H r mv pt lk->fJ mv pt lk->cK K H s st->st.length=mv.length->bf K H1 H p pus->pus.length<=100->(∀xs∈pus,xs.length=pt.length)->PK mv pt lk pus st->(∀q H',H q=none->aB H H'->bf K H H' q (xh mv pt lk st pus)->Q (.ref q) H')->EB K vs H Q E9
inductive IA (vs:List V) (H:Hp) (Q:VK) (E9:XK):Prop
 | mk (p:Addr) (us:List V) (zss:List (List V)):vs=[.ref p]->H p=some (.lst us)->Paired (λzs u=>∃q,u=V.ref q/\H q=some (.lst zs)) zss us->zss.flatten.length<=1000->(∀r H',H r=none->aB H H'->H' r=some (.lst zss.flatten)->Q (.ref r) H')->IA vs H Q E9
inductive IE (K:FG9) (C:Addr) (vs:List V) (H:Hp) (Q:VK) (E9:XK):Prop
 | mk (x:Addr) (u:Nat) (H0:Hp) (mv pt lk:LR9):vs=[.ref x,.int u]->u<=99->l9 K H0 H C x mv pt lk->fJ mv pt lk->VS mv pt u->(∀r us H',H r=none->aB H H'->H' r=some (.lst us)->Paired (NA K r H') (Ni mv pt u) us->Q (.ref r) H')->IE K C vs H Q E9
theorem Jk {K:FG9} {l:Addr} {H:Hp}:∀{Rs:List (LR9)} {us:List V},Paired (NA K l H) Rs us->∃zss:List (List V),Paired (λzs u=>∃q,u=V.ref q/\H q=some (.lst zs)) zss us/\Paired (λR zs=>Paired (cW K (GO l) H) R zs) Rs zss
 | _,_,.nil=>⟨[],.nil,.nil⟩
 | _,_,.cons h t=>by
  obtain ⟨zss,a,b⟩:=Jk t;obtain ⟨q,e,_,zs,g,r,_⟩:=h;exact ⟨zs :: zss,.cons ⟨q,e,g⟩ a,.cons r b⟩
theorem rh {α β:Type} {F:α->β->Prop}:∀{Rs:List (List α)} {zss:List (List β)},Paired (λR zs=>Paired F R zs) Rs zss->Paired F Rs.flatten zss.flatten
 | _,_,.nil=>.nil
 | _,_,.cons h t=>b9 h (rh t)
theorem NL {C:Rat->Prop} (h:∀xs∈rows,xs.length=n/\∀x∈xs,C x):∀ys∈aW rows n,∀y∈ys,C y:=λys hy y hy'=>by
 obtain ⟨j,hj,rfl⟩:=aw.mp hy;obtain ⟨xs,hx,rfl⟩:=aw.mp hy';have:=h xs hx;exact this.2 _ (getD_mem (by rw[this.1];exact cP.mp hj))
def DF (x:List Rat) (Hd:LR9) (ps:List Nat) (n k:Nat):List Rat:=(List.range n).map λc=>x.getD c 0 - bx k λj=>x.getD (ps.getD j 0) 0*bW Hd j c
section
variable {rows Hd:LR9} {x r:List Rat} {ps:List Nat} {n k:Nat}
theorem kT:(DF x Hd ps n k).length=n:=by unfold DF;rw[ag,bL]
theorem Ic (hc:c < n):(DF x Hd ps n k).getD c 0=x.getD c 0 - bx k λj=>x.getD (ps.getD j 0) 0*bW Hd j c:=by
 unfold DF;rw[aa,aA,cu hc];rfl
theorem Qk (lx:x.length=n):DF x Hd ps n 0=x:=KR (by rw[kT,lx]) λc hc=>by
 rw[kT] at hc;rw[Ic hc];show x.getD c 0 - 0=_
 grind
theorem Lg (RR:bG rows n Hd ps) (hk:k<=ps.length) (hi:i < ps.length):(DF x Hd ps n k).getD (ps.getD i 0) 0=if i < k then 0 else x.getD (ps.getD i 0) 0:=by
 have rr:=RR.2.2;rw[Ic (rr.low i hi)];by_cases h:i < k
 ·rw[if_pos h,iB h λj hj ne=>by rw[rr.unit j (by lia) i hi,if_neg ne,iN],rr.unit i hi i hi,if_pos rfl];grind
 ·rw[if_neg h,dd λj hj=>by rw[rr.unit j (by lia) i hi,if_neg (by lia),iN]];grind
theorem Ql (RR:bG rows n Hd ps) (hk:k < ps.length) (hr:Hd[k]?=some row):List.zipWith (λu v=>u - v) (DF x Hd ps n k) (row.map λy=>(DF x Hd ps n k).getD (ps.getD k 0) 0*y)=DF x Hd ps n (k+1):=by
 have wr:row.length=n:=RR.2.1 row (ak hr);refine KR (by rw[aY,ag,kT,kT,wr,dW]) λc hc=>?_
 rw[aY,ag,kT,wr,dW] at hc;rw[J9 (by rw[kT,ag,wr]) (by rw[kT];exact hc),getD_map (by lia),Lg RR (by lia) hk,if_neg (dQ _),Ic hc,Ic hc]
 have e:row[c]'(by lia)=bW Hd k c:=by
  unfold bW;rw[aa (l:=Hd),hr,A4,aa,ae (by lia)];rfl
 rw[e];show _=x.getD c 0 - (bx k _+_)
 grind
theorem SW (lx:x.length=n) (lr:r.length=n) (hw:∀xs∈Hd,xs.length=n) (hk:k<=Hd.length) (hz:∀xs∈Hd,cB xs r=0):cB r (DF x Hd ps n k)=cB r x:=by
 rw[cO (by rw[lr,kT]),cO (by rw[lr,lx]),lr]
 have e:∀c,c < n->r.getD c 0*(DF x Hd ps n k).getD c 0=r.getD c 0*x.getD c 0+-1*bx k λj=>x.getD (ps.getD j 0) 0*(bW Hd j c*r.getD c 0):=λc hc=>by
  rw[Ic hc]
  have:(bx k λj=>x.getD (ps.getD j 0) 0*(bW Hd j c*r.getD c 0))=r.getD c 0*bx k λj=>x.getD (ps.getD j 0) 0*bW Hd j c:=by
   rw[<- cU];exact aO λj _=>by grind
  rw[this];grind
 rw[aO e,m7,cU,fX,dd (k:=k) λj hj=>?_]
 ·grind
 ·rw[cU];have:=hz _ (aI (l:=Hd) (n:=j) (by lia));have w:=hw _ (aI (l:=Hd) (n:=j) (by lia));rw[cO (by rw[w,lr]),w] at this
  have q:(bx n λc=>bW Hd j c*r.getD c 0)=0:=by
   refine Eq.trans (aO λc _=>?_) this;unfold bW;rw[aa (l:=Hd),ae (by lia)];rfl
  rw[q,iN]
end
theorem Nc {K:FG9} {g:TG} (Pv:Nat->List V->Hp->Prop) (hz:xs.length<=sizeLine) (hw:xs.length<=ws.length) (h0:Pv 0 [] H) (hl:∀i ys H,i<=xs.length->Pv i ys H->bB K H l1 xs/\bB K H l2 ws)
  (hs:∀i x y ys H p,xs[i]?=some x->ws[i]?=some y->ys.length<=i->Pv i ys H->H p=none->pP σ₀ g tf te (.ref p) (upd H p (.tup [x,y])) (λy H'=>Pv (i+1) (ys++[y]) H') (λH'=>Pv (i+1) ys H'))
  (hd:∀ys H,ys.length<=xs.length->Pv xs.length ys H->∀p,H p=none->Q (.ref p) (upd H p (.lst ys))):qG (SQ K l1 l2) σ₀ g tf te Q H:=by
 refine ⟨λi m ys H=>m=xs.length - i/\i<=xs.length/\ys.length<=i/\Pv i ys H,⟨xs.length,by simp,a7 _,a7 _,h0⟩,?_⟩;rintro i m ys H ⟨rfl,hi,hy,p⟩;obtain ⟨q1,q2⟩:=hl i ys H hi p;by_cases hlt:i < xs.length
 ·refine .inr ⟨⟨xs,ws,xs[i],ws[i]'(by lia),q1,q2,by simp [hlt],ae _⟩,by lia,λy H'=>Pv (i+1) (ys++[y]) H',λH'=>Pv (i+1) ys H',λy H' p'=>⟨xs.length - (i+1),by lia,rfl,hlt,by rw[ai,aQ];lia,p'⟩,λH' p'=>⟨xs.length - (i+1),by lia,rfl,hlt,by lia,p'⟩,λx H' y=>?_⟩;obtain ⟨r,x',y',rfl,hr,rfl,e1,e2⟩:=y;exact hs i x' y' ys _ r (e1 xs q1) (e2 ws q2) hy p hr
 ·have e:i=xs.length:=by lia
  subst e;exact .inl ⟨⟨xs,ws,q1,q2,.inl (ar _)⟩,by lia,hd ys H hy p⟩
structure WoZ (x:List Rat) (Hd:LR9) (ps:List Nat) (n:Nat):Prop where
 sz:∀k,k<=ps.length->∀z∈DF x Hd ps n k,kN z
 hz:∀xs∈Hd,∀z∈xs,kN z
 mul:∀k,k < ps.length->∀z∈Hd.getD k [],kN ((DF x Hd ps n k).getD (ps.getD k 0) 0*z)
inductive Sj (K:FG9) (vs:List V) (H:Hp) (Q:VK) (E9:XK):Prop
 | mk (s g:Addr) (n:Nat) (H0:Hp) (x:List Rat) (rows Hd:LR9) (ps:List Nat):vs=[.ref s,.ref g]->cK K H s x->x.length=n->bf K H0 H g Hd->n<=90->bG rows n Hd ps->WoZ x Hd ps n->(∀r H',aB H H'->(r=s\/H r=none)->cK K H' r (DF x Hd ps n ps.length)->Q (.ref r) H')->Sj K vs H Q E9
theorem Pw:tD xs none (some (-1))=xs.take (xs.length - 1):=by
 unfold tD
 have e:HT.HY xs.length xs.length (some (-1))=xs.length - 1:=by
  show (if (-1:Int) < 0 then ((-1:Int)+(xs.length:Int)).toNat else min (-1:Int).toNat xs.length)=xs.length - 1
  rw[if_pos (by decide)]
  lia
 rw[e,HT.Co,List.drop_zero,Nat.sub_zero]
def Pk (mv lk:LR9) (st:List Rat) (T:Nat):List Rat:=(kry (aW mv mv.length) lk T).map λxs=>cB xs st
theorem Jm {st:List Rat}:((List.range T).map (UH mv lk st)).flatten=Pk mv lk st T:=by
 unfold Pk;rw[<- yA,List.map_flatten];unfold Ni;rw[jJ];refine congrArg _ (eV λt _=>?_);unfold UH;rw[Function.comp_apply,jJ];rfl
theorem EH {K:FG9} {H0 H:Hp}:∀{Rs:LR9} {us:List V},Paired (cW K H0 H) Rs us->∃zss:List (List V),Paired (λzs u=>∃q,u=V.ref q/\H q=some (.lst zs)) zss us/\Paired (λR zs=>Paired (cv K H) R zs) Rs zss
 | _,_,.nil=>⟨[],.nil,.nil⟩
 | _,_,.cons h t=>by
  obtain ⟨zss,a,b⟩:=EH t;obtain ⟨q,e,_,zs,g,r⟩:=h;exact ⟨zs :: zss,.cons ⟨q,e,g⟩ a,.cons r b⟩
section
variable {mv pt ps:LR9} {a:List Rat} {k j:Nat}
theorem Ll (h:j<=k):tu mv pt a (ps.take k) j=tu mv pt a ps j:=by
 unfold tu;rw[List.take_take,mW h]
theorem Ae.take (h:Ae mv pt a ps) (hk:k<=ps.length):Ae mv pt a (ps.take k):=λj hj=>by
 rw[bI] at hj;obtain ⟨N,W,x1,x2,x3,x4,x5⟩:=h j (by lia);exact ⟨N,W,x1,x2,x3,by rw[Ll (by lia)];exact x4,λxs hx=>x5 xs (b7 hx)⟩
end
section
variable {mv pt lk pus:LR9} {st x:List Rat} {T e n:Nat} {rows Hd R:LR9} {ps psd:List Nat}
theorem UO (q0:0 < q) (lx:x.length=n) (n8:n<=8) (tx:∀z∈x,Tp q X z) (th:∀xs∈Hd,∀z∈xs,Tp M E z) (hk:k<=8) (ME:M<=E):∀z∈DF x Hd ps n k,Tp (q*M) (X*(9*E)) z:=λz hz=>by
 unfold DF at hz;obtain ⟨c,_,rfl⟩:=aw.mp hz;have t1:=(jB tx c).up M (ar _)
 have t2:=Tp.sum (k:=k) (f:=λj=>x.getD (ps.getD j 0) 0*bW Hd j c) λj _=>(jB tx (ps.getD j 0)).mul (show Tp M E (bW Hd j c) by
  unfold bW;by_cases h:j < Hd.length
  ·exact jB (th _ (getD_in h)) c
  ·rw[aa (l:=Hd),aR (by lia)];exact Tp.zero)
 rw[Rat.sub_eq_add_neg];refine (t1.add t2.neg).mono ?_;rw[Nat.mul_left_comm k X E,<- fQ];refine aP _ ?_;have:=ay E hk
 lia
theorem tz (h:a<=b):2^a<=2^b:=au (by decide) h
end
theorem LB {xs:List Rat}:∀{i:Nat},(∀c,c < i->xs.getD c 0=0)->xu xs i=[]
 | 0,_=>rfl
 | i+1,h=>by rw[oE,if_neg (by rw[h i (by lia)];simp),LB λc hc=>h c (by lia)]
theorem ON {xs:List Rat} {j:Nat} (hj:xs.getD j 0≠0) (hz:∀c,c < j->xs.getD c 0=0):∀{n:Nat},j < n->∃rest,xu xs n=j :: rest
 | 0,h=>absurd h (di _)
 | n+1,h=>by
  rw[oE];by_cases e:n=j
  ·subst e;rw[if_pos hj,LB hz];exact ⟨[],rfl⟩
  ·obtain ⟨rest,er⟩:=ON hj hz (n:=n) (by lia);rw[er];by_cases h0:xs.getD n 0≠0
   ·rw[if_pos h0];exact ⟨rest++[n],rfl⟩
   ·rw[if_neg h0];exact ⟨rest,rfl⟩
inductive Er (K:FG9) (vs:List V) (H:Hp) (Q:VK) (E9:XK):Prop
 | mk (b r:Addr) (w:Nat) (H0:Hp) (mv pt lk:LR9):vs=[.ref b,.ref r,.int w]->iM H b->H0 b≠none->gQ K H0 H r mv pt lk->fJ mv pt lk->1<=w->w<=1000->(∀p pus T H',H p=none->bf K H H' p pus->DrP pt T w pus->V7 mv.length w T->iM H' b->df b H H'->Q (.ref p) H')->Er K vs H Q E9
def zY (mv pt lk pus L:LR9) (t:Nat):List Rat:=List.zipWith (λx y=>x - y) (L.getD t []) (lk.map λxs=>cB xs (tu mv pt (List.replicate mv.length 0) pus t))
def mC (mv pt lk pus L:LR9) (T:Nat):List Rat:=((List.range T).map (zY mv pt lk pus L)).flatten
structure Mi (mv pt lk pus L:LR9) (T e:Nat):Prop where
 v:V5 (aW mv mv.length) lk T e
 t12:T<=12
 lp:pus.length=T
 wp:∀xs∈pus,xs.length=pt.length
 lL:L.length=T
 wL:∀xs∈L,xs.length=lk.length
 cf:Ae mv pt (List.replicate mv.length 0) pus
 sL:∀xs∈L,∀z∈xs,kN z
 sR:∀t,t < T->∀z∈lk.map λxs=>cB xs (tu mv pt (List.replicate mv.length 0) pus t),kN z
 sw:∃w,DI (eZ (kry (aW mv mv.length) lk T) (mC mv pt lk pus L T)) (mv.length+1) w/\9*(w+4)<=20000
 sw':∃w,DI (zb (kry (aW mv mv.length) lk T) mv.length (mC mv pt lk pus L T)) ((kry (aW mv mv.length) lk T).length+1) w/\9*(w+4)<=20000
structure yP (mv pt lk pus L:LR9) (T e:Nat) (y:List Rat) (Hd:LR9):Prop where
 un:yO (aW mv mv.length) lk mv.length T e Hd
 ly:y.length=mv.length
 dy:((kry (aW mv mv.length) lk T).map λxs=>cB xs y)=mC mv pt lk pus L T
 zy:∃psd,bG Hd mv.length Hd psd/\∀i,i < psd.length->y.getD (psd.getD i 0) 0=0
 fy:∃q,0 < q/\q<=2^22000/\∀z∈y,Tp q (2^22000) z
 can:∃R ps psd,bG (eZ (kry (aW mv mv.length) lk T) (mC mv pt lk pus L T)) (mv.length+1) R ps/\bG Hd mv.length Hd psd/\y=DF (j5 R ps mv.length) Hd psd mv.length psd.length
structure rZ (mv pt lk pus L:LR9) (T:Nat) (ws:LR9):Prop where
 lw:ws.length=T
 ww:∀xs∈ws,xs.length=lk.length
 z0:NJ (kry (aW mv mv.length) lk T) ws.flatten mv.length=List.replicate mv.length 0
 d1:cB ws.flatten (mC mv pt lk pus L T)=1
 fw:∃q,0 < q/\q<=2^20000/\∀xs∈ws,∀z∈xs,Tp q (2^20000) z
 can:∃R ps,bG (zb (kry (aW mv mv.length) lk T) mv.length (mC mv pt lk pus L T)) ((kry (aW mv mv.length) lk T).length+1) R ps/\ws=D6 (j5 R ps (kry (aW mv mv.length) lk T).length) T lk.length
inductive tR (K:FG9) (C:Addr) (vs:List V) (H:Hp) (Q:VK) (E9:XK):Prop
 | mk (x p l:Addr) (T e:Nat) (H0 H1 H2:Hp) (mv pt lk pus L:LR9):vs=[.ref x,.ref p,.ref l]->l9 K H0 H C x mv pt lk->fJ mv pt lk->JY mv pt lk->bf K H1 H p pus->bf K H2 H l L->Mi mv pt lk pus L T e →
  (∀t a r y Hd H',H' t=some (.tup [.str (Str.ofString "any"),.ref a,.ref r])->H a=none->H r=none->aB H H'->cK K H' a y->bf K H H' r Hd->yP mv pt lk pus L T e y Hd->Q (.ref t) H') →
  (∀t a ws H',H' t=some (.tup [.str (Str.ofString "none"),.ref a])->H a=none->aB H H'->bf K H H' a ws->rZ mv pt lk pus L T ws->Q (.ref t) H')->tR K C vs H Q E9
section
variable {mv pt lk pus L:LR9} {T e:Nat} {Hd R R':LR9} {ps ps':List Nat}
theorem Bw (lL:L.length=T) (wL:∀xs∈L,xs.length=lk.length):(mC mv pt lk pus L T).length=(kry (aW mv mv.length) lk T).length:=by
 unfold mC;rw[lS,kB (i:=lk.length) λxs hx=>?_,ag,bL];obtain ⟨t,ht,rfl⟩:=aw.mp hx;have ht:=cP.mp ht;unfold zY;rw[aY,ag,wL _ (getD_in (by lia)),dW]
theorem Wa (D:fJ mv pt lk) (S:Mi mv pt lk pus L T e) (RR:bG (eZ (kry (aW mv mv.length) lk T) (mC mv pt lk pus L T)) (mv.length+1) R ps) (hn:mv.length∉ps) (U:yO (aW mv mv.length) lk mv.length T e Hd):∃psd,bG Hd mv.length Hd psd/\WoZ (j5 R ps mv.length) Hd psd mv.length/\yP mv pt lk pus L T e (DF (j5 R ps mv.length) Hd psd mv.length psd.length) Hd:=by
 have et:(aW mv mv.length).length=mv.length:=bZ;have wk:=eG (mv:=aW mv mv.length) (pt:=lk) et D.lw T;have d8:=D.n8;have e1:=S.v.un.e1;have hd:=Bw (mv:=mv) (pt:=pt) (pus:=pus) S.lL S.wL;obtain ⟨w,sw,hw⟩:=S.sw;obtain ⟨_,q,q0,q1,q2⟩:=Om (λxs hx=>GW wk xs hx) sw RR;have hb:min (eZ (kry (aW mv mv.length) lk T) (mC mv pt lk pus L T)).length (mv.length+1)*(w+4)<=20000:=ah (ay _ (by lia)) hw;have tx:∀z∈j5 R ps mv.length,Tp q (2^20000) z:=λz hz=>(Oe q0 q2 RR z hz).mono (tz hb)
 have q1:=ah q1 (tz hb);have lx:(j5 R ps mv.length).length=mv.length:=mh;obtain ⟨R0,ps0,psd,M,RR0,RN,cn,M0,M1,th⟩:=id U;have RH:=xI RN;have le:=RH.le;have th:=th
 have tw:∀k,k<=psd.length->∀z∈DF (j5 R ps mv.length) Hd psd mv.length k,Tp (q*M) (2^22000) z:=λk hk z hz=>(UO q0 lx d8 tx th (by lia) M1 z hz).mono (by
  refine ah (aP _ (ay _ (show 9<=2^4 by decide))) ?_;rw[<- aU,<- aU];exact tz (by lia))
 have qM0:0 < q*M:=bR q0 M0;have qM1:q*M<=2^21700:=ah (aE q1 M1) (by rw[<- aU];exact tz (by lia));refine ⟨psd,RH,⟨λk hk z hz=>kW (tw k hk z hz) qM0 (ah qM1 (tz (by decide))) (tz (by decide)),λxs hx z hz=>kW (th xs hx z hz) M0 (ah M1 (tz (by lia))) (tz (by lia)),λk hk z hz=>?_⟩,⟨U,kT,?_,⟨psd,RH,λi hi=>by rw[Lg RH (ar _) hi,if_pos hi]⟩,⟨q*M,qM0,ah qM1 (tz (by decide)),tw _ (ar _)⟩,⟨R,ps,psd,RR,RH,rfl⟩⟩⟩
 ·have hk':k < Hd.length:=by rw[RH.1];exact hk
  have t1:=jB (tw k (by lia)) (psd.getD k 0);have t2:=th _ (getD_in (e:=[]) hk') z hz;refine kW (t1.mul t2) (bR qM0 M0) (ah (aE qM1 M1) ?_) ?_
  ·rw[<- aU];exact tz (by lia)
  ·rw[<- aU];exact tz (by lia)
 ·rw[<- Od hd wk RR hn];refine eV λxs hx=>?_
  rw[SW lx (wk xs hx) RH.2.1 (by rw[RH.1];exact ar _) λys hy=>U.dot wk ys hy xs hx]
theorem Wl (D:fJ mv pt lk) (S:Mi mv pt lk pus L T e) (RR:bG (eZ (kry (aW mv mv.length) lk T) (mC mv pt lk pus L T)) (mv.length+1) R ps) (hn:mv.length∈ps) (RR':bG (zb (kry (aW mv mv.length) lk T) mv.length (mC mv pt lk pus L T)) ((kry (aW mv mv.length) lk T).length+1) R' ps'):rZ mv pt lk pus L T (D6 (j5 R' ps' (kry (aW mv mv.length) lk T).length) T lk.length):=by
 have et:(aW mv mv.length).length=mv.length:=bZ;have wk:=eG (mv:=aW mv mv.length) (pt:=lk) et D.lw T;have d8:=D.n8;have hd:=Bw (mv:=mv) (pt:=pt) (pus:=pus) S.lL S.wL;have hn':=EI hd wk RR hn RR';obtain ⟨p1,p2⟩:=MH hd wk RR' hn';have ls:(j5 R' ps' (kry (aW mv mv.length) lk T).length).length=T*lk.length  :=by rw[<- lS (mv:=aW mv mv.length)];exact mh
 obtain ⟨w,sw,hw⟩:=S.sw';have l1:(aW (kry (aW mv mv.length) lk T) mv.length++[mC mv pt lk pus L T]).length=mv.length+1:=by rw[ai,bZ];rfl
 have w1:∀xs∈aW (kry (aW mv mv.length) lk T) mv.length++[mC mv pt lk pus L T],xs.length=(kry (aW mv mv.length) lk T).length:=λxs hx=>by
  rcases av.mp hx with hx | hx
  ·exact kU xs hx
  ·rw[bV.mp hx];exact hd
 have lb:(zb (kry (aW mv mv.length) lk T) mv.length (mC mv pt lk pus L T)).length=mv.length+1:=by
  unfold zb;rw[GX (by rw[l1,ai,bA];rfl),l1]
 obtain ⟨_,q,q0,q1,q2⟩:=Om (λxs hx=>GW w1 xs hx) sw RR';have hb:min (zb (kry (aW mv mv.length) lk T) mv.length (mC mv pt lk pus L T)).length ((kry (aW mv mv.length) lk T).length+1)*(w+4)<=20000:=ah (ay _ (by lia)) hw;refine ⟨by unfold D6;rw[ag,bL],λxs hx=>?_,by rw[Dj ls];exact p2,by rw[Dj ls];exact p1,⟨q,q0,ah q1 (tz hb),λxs hx z hz=>(Oe q0 q2 RR' z (Px hx hz)).mono (tz hb)⟩,⟨R',ps',RR',rfl⟩⟩;unfold D6 at hx;obtain ⟨t,ht,rfl⟩:=aw.mp hx;have ht:=cP.mp ht;rw[bI,NC,ls];have:(t+1)*lk.length<=T*lk.length:=ay _ ht;rw[dU] at this
 lia
end
theorem Jl {α:Type} {m:Nat}:∀{xs ys:List (List α)},xs.length=ys.length->(∀x∈xs,x.length=m)->(∀y∈ys,y.length=m)->xs.flatten=ys.flatten->xs=ys
 | [],[],_,_,_,_=>rfl
 | [],_ :: _,h,_,_,_=>nomatch h
 | _ :: _,[],h,_,_,_=>nomatch h
 | x :: xs,y :: ys,h,hx,hy,e=>by
  rw[c8,c8] at e;obtain ⟨e1,e2⟩:=List.append_inj e (by rw[hx x (cH ..),hy y (cH ..)]);rw[e1,Jl (by simpa using h) (λz hz=>hx z (bJ _ hz)) (λz hz=>hy z (bJ _ hz)) e2]
theorem yP.looks (TL:yP mv pt lk pus L T e y Hd) (D:fJ mv pt lk) (S:Mi mv pt lk pus L T e):xh mv pt lk y pus=L:=by
 have lp:=S.lp;have lL:=S.lL
 have h0:((List.range T).map (UH mv lk y)).flatten=((List.range T).map (zY mv pt lk pus L)).flatten:=by
  rw[Jm];exact TL.dy
 have h1:=Jl (m:=lk.length) (by rw[ag,ag]) (λx hx=>by
  obtain ⟨t,_,rfl⟩:=aw.mp hx;unfold UH;rw[ag]) (λx hx=>by
  obtain ⟨t,ht,rfl⟩:=aw.mp hx;have ht:=cP.mp ht;unfold zY;rw[aY,ag,S.wL _ (getD_in (by lia)),dW]) h0
 unfold xh;refine c4 (by rw[ag,bL,lp,lL]) λt ht ht'=>?_
 have tT:t < T:=by lia
 have h2:=List.map_inj_left.mp h1 t (cP.mpr tT);have eL:L.getD t []=L[t]:=by rw[aa,ae ht'];rfl
 have wt:=S.wL _ (aI ht');rw[cC,ik];refine c4 (by rw[ag,wt]) λi hi hi'=>?_
 rw[ag] at hi;have h3:=congrArg (λl=>l[i]?) h2;unfold UH zY at h3;rw[eL,ae (by rw[ag];exact hi),ae (by rw[aY,ag];lia),cC,eh,cC] at h3;have h3:=bS h3;rw[cC];have h4:=Ln D TL.ly S.wp (by lia:t<=pus.length) (D.lw _ (aI hi));grind
inductive ID (K:FG9) (vs:List V) (H:Hp) (Q:VK) (E9:XK):Prop
 | mk (r t p l a g:Addr) (T e:Nat) (H0 H1 H2 H3:Hp) (mv pt lk pus L Hd:LR9) (y:List Rat):vs=[.ref r,.ref t,.ref p,.ref l]->gQ K H0 H r mv pt lk->fJ mv pt lk->bf K H1 H p pus->bf K H2 H l L->Mi mv pt lk pus L T e->H t=some (.tup [.str (Str.ofString "any"),.ref a,.ref g])->cK K H a y->bf K H3 H g Hd->yP mv pt lk pus L T e y Hd->PK mv pt lk pus y->(∀H',aB H H'->Q (.bl true) H')->ID K vs H Q E9
section
variable {rows:LR9} {w:List Rat} {n m:Nat}
theorem UP (tw:∀z∈w,Tp q X z) (tr:∀xs∈rows,∀z∈xs,Tp M E z):∀z∈Ka rows w n m,Tp (q*M) (m*(X*E)) z:=λz hz=>by
 unfold Ka at hz;obtain ⟨c,_,rfl⟩:=aw.mp hz;refine Tp.sum λj _=>(jB tw j).mul ?_
 unfold bW;by_cases h:j < rows.length
 ·exact jB (tr _ (getD_in h)) c
 ·rw[aa (l:=rows),aR (by lia)];exact Tp.zero
theorem Jn:∀{ws ds:LR9},ws.length=ds.length->(∀t,t < ws.length->(ws.getD t []).length=(ds.getD t []).length)->cB ws.flatten ds.flatten=bx ws.length λt=>cB (ws.getD t []) (ds.getD t [])
 | [],[],_,_=>by simp [cB,bx]
 | [],_ :: _,h,_=>nomatch h
 | _ :: _,[],h,_=>nomatch h
 | x :: xs,y :: ys,h,hl=>by
  have h0:x.length=y.length:=hl 0 (Nat.succ_pos _);rw[c8,c8,pY h0,aZ,BJ,Jn (by simpa using h) λt ht=>?_]
  ·rfl
  ·have:=hl (t+1) (by rw[aZ];lia);exact this
theorem L5 {ws:LR9} {k:Nat}:∀{ws:LR9} {t j:Nat},(∀xs∈ws,xs.length=k)->t < ws.length->j < k->ws.flatten.getD (k*t+j) 0=(ws.getD t []).getD j 0
 | [],_,_,_,h,_=>absurd h (di _)
 | x :: xs,0,j,hk,_,hj=>by
  have lx:=hk x (cH ..);rw[c8,aa,bM (by lia),vz,Mo];rfl
 | x :: xs,t+1,j,hk,h,hj=>by
  have lx:=hk x (cH ..);rw[c8,aa,bg (by rw[vB];lia),show k*(t+1)+j - x.length=k*t+j by rw[vB];lia,<- aa,L5 (ws:=xs) (λz hz=>hk z (bJ _ hz)) (by simpa using h) hj];rfl
end
structure Nj (mv pt lk pus L ws:LR9) (T:Nat):Prop where
 l0:PK mv pt lk pus (List.replicate mv.length 0)
 sw:∀xs∈ws,∀z∈xs,kN z
 sr:∀xs∈kry (aW mv mv.length) lk T,∀z∈xs,kN z
 pr:∀i,i < T*lk.length->∀z∈(kry (aW mv mv.length) lk T).getD i [],kN (ws.flatten.getD i 0*z)
 wt:∀m,m<=T*lk.length->∀z∈Ka (kry (aW mv mv.length) lk T) ws.flatten mv.length m,kN z
 ft:∀t,t < T->Ad (ws.getD t []) (zY mv pt lk pus L t)
 dt:∀t,t < T->kN (cB (ws.getD t []) (zY mv pt lk pus L t))
 dj:∀t,t<=T->kN (bx t λs=>cB (ws.getD s []) (zY mv pt lk pus L s))
inductive Ew (K:FG9) (vs:List V) (H:Hp) (Q:VK) (E9:XK):Prop
 | mk (r t p l a:Addr) (T e:Nat) (H0 H1 H2 H3:Hp) (mv pt lk pus L ws:LR9):vs=[.ref r,.ref t,.ref p,.ref l]->gQ K H0 H r mv pt lk->fJ mv pt lk->bf K H1 H p pus->bf K H2 H l L->Mi mv pt lk pus L T e->H t=some (.tup [.str (Str.ofString "none"),.ref a])->bf K H3 H a ws->rZ mv pt lk pus L T ws->Nj mv pt lk pus L ws T->(∀H',aB H H'->Q (.bl true) H')->Ew K vs H Q E9
theorem rZ.dot (N:rZ mv pt lk pus L T ws) (S:Mi mv pt lk pus L T e):(bx T λs=>cB (ws.getD s []) (zY mv pt lk pus L s))=1:=by
 have d1:=N.d1;have lL:=S.lL;unfold mC at d1
 have e:∀t,t < T->((List.range T).map (zY mv pt lk pus L)).getD t []=zY mv pt lk pus L t:=λt ht=>by
  rw[aa,aA,cu ht];rfl
 rw[Jn (by rw[ag,bL];exact N.lw) λt ht=>?_,N.lw] at d1
 ·rw[<- d1];exact aO λt ht=>by rw[e t ht]
 ·rw[N.lw] at ht;rw[e t ht,N.ww _ (getD_in (by rw[N.lw];exact ht))];unfold zY;rw[aY,ag,S.wL _ (getD_in (by lia)),dW]
inductive zi (K:FG9) (C:Addr) (vs:List V) (H:Hp) (Q:VK) (E9:XK):Prop
 | mk (x r p l:Addr) (T e:Nat) (H0 H1 H2 H3:Hp) (mv pt lk pus L:LR9):vs=[.ref x,.ref r,.ref p,.ref l]->l9 K H0 H C x mv pt lk->gQ K H1 H r mv pt lk->fJ mv pt lk->JY mv pt lk->bf K H2 H p pus->bf K H3 H l L->Mi mv pt lk pus L T e->(∀y Hd,yP mv pt lk pus L T e y Hd->PK mv pt lk pus y)->(∀ws,rZ mv pt lk pus L T ws->Nj mv pt lk pus L ws T)->(∀H',aB H H'->Q (.str (Str.ofString "any")) H')->(∀ws H',rZ mv pt lk pus L T ws->aB H H'->Q (.str (Str.ofString "none")) H')->zi K C vs H Q E9
inductive FN (K:FG9) (vs:List V) (H:Hp) (Q:VK) (E9:XK):Prop
 | mk (u:V) (q:Addr) (x:Rat) (c d:Nat):vs=[u,.ref q]->cv K H x u->kN x->H q=some (.tup [.int c,.int d])->0 < d->c<=9->d<=9->(∀r H',aB H H'->cv K H' (x+(c:Rat) / (d:Rat)) (.ref r)->Q (.ref r) H')->FN K vs H Q E9
theorem Lk {K:FG9} (h:FN K vs H Q E):IC K LR vs H Q E:=by
 obtain ⟨u,q,x,c,d,rfl,⟨p,rfl,hp⟩,⟨s1,s2⟩,gq,d0,c9,d9,k⟩:=h;have sz:∀n:Nat,n<=9->Sz 200000 (n:Int):=λn hn=>Sz.mono (j:=4) (show Sz 4 (n:Int) by unfold Sz;have:(2:Nat)^4=16:=rfl;lia) (by decide)
 refine ⟨p,q,_,_,c,d,rfl,hp,mL.of gq,iq x,by lia,s1,s2,sz c c9,sz d d9,λr H' s g=>k r H' s (cv.mk g ?_)⟩
 have d1:(d:Rat)≠0:=by
  intro z;have:(d:Rat)=((0:Nat):Rat):=z;have:=Rat.natCast_inj.mp this
  lia
 refine lQ (fV (iq x) (by lia)) ?_;unfold LR;rw[tJ,aN,aN,aN,pd,aS,aS];have e:(c:Rat) / (d:Rat)*(d:Rat)=c:=J0 d1;grind
section
variable {α β γ:Type} [DecidableEq α] [DecidableEq β] [DecidableEq γ] (k1:Kind α) (k2:Kind β) (k3:Kind γ)
theorem vals3 (r:cX [x,y,z] us):∃u v w,us=[u,v,w]/\RelV x u/\RelV y v/\RelV z w:=by
 cases r with
 | cons a r=>cases r with
  | cons b r=>cases r with
   | cons c r=>cases r;exact ⟨_,_,_,rfl,a,b,c⟩
def e3 (a b:α×β×γ) (j:Nat):Bool:=if j=0 then decide (a.1=b.1) else if j=1 then decide (a.2.1=b.2.1) else decide (a.2.2=b.2.2)
theorem tO {X:Cx} {pins:List (Addr×Obj)} {σ:St} {H:Hp} {s:Shared} {A:Around} (I:Inv X pins σ H s) (h1:A.units+k1.d < cLine) (h2:A.units+k2.d < cLine) (h3:A.units+k3.d < cLine) {x y z x' y' z':V} {us ws:List Value} {a b:α×β×γ}
  (rx:cX [x,y,z] us) (ry:cX [x',y',z'] ws) (a1:k1.R X.K H x a.1) (a2:k2.R X.K H y a.2.1) (a3:k3.R X.K H z a.2.2) (b1:k1.R X.K H x' b.1) (b2:k2.R X.K H y' b.2.1) (b3:k3.R X.K H z' b.2.2) :
  ∀j (h1:j < us.toArray.size) (h2:j < ws.toArray.size),SeqAt.EqAt A s us.toArray[j] ws.toArray[j] (e3 a b j):=λj l1 l2=>by
 obtain ⟨u1,u2,u3,rfl,r1,r2,r3⟩:=vals3 rx;obtain ⟨w1,w2,w3,rfl,q1,q2,q3⟩:=vals3 ry;have hj:j < 3:=by simpa using l1
 rcases (show j=0\/j=1\/j=2 by lia) with rfl | rfl | rfl
 ·exact k1.eq (A:=A) I r1 q1 a1 b1 h1
 ·exact k2.eq (A:=A) I r2 q2 a2 b2 h2
 ·exact k3.eq (A:=A) I r3 q3 a3 b3 h3
theorem y9 {a b:α×β×γ}:(List.range 3).all (e3 a b)=decide (a=b):=by
 have e:List.range 3=[0,1,2]:=rfl;rw[e];simp only[JV,List.all_nil,Bool.and_true];show (decide (a.1=b.1) && (decide (a.2.1=b.2.1) && decide (a.2.2=b.2.2)))=_
 rw[<- Qf,<- Qf];exact decide_eq_decide.mpr ⟨λ⟨h1,h2,h3⟩=>Prod.ext h1 (Prod.ext h2 h3),λh=>by rw[h];exact ⟨rfl,rfl,rfl⟩⟩
def Vs:Kind (α×β×γ) where
 R:=λK H x a=>∃p u v w,x=.ref p/\mL K H p [u,v,w]/\k1.R K H u a.1/\k2.R K H v a.2.1/\k3.R K H w a.2.2
 d:=max k1.d (max k2.d k3.d)+1
 inj:=λ{X pins σ H s x a b} I h1 h2=>by
  obtain ⟨p,u,v,w,rfl,hp,a1,a2,a3⟩:=h1;obtain ⟨q,u',v',w',e,hq,b1,b2,b3⟩:=h2;cases e;have e:=I.tuple_inj hp hq;cases e;exact Prod.ext (k1.inj I a1 b1) (Prod.ext (k2.inj I a2 b2) (k3.inj I a3 b3))
 rc:=λ{X pins σ H s x y v u a b A} I rx ry h1 h2 hA=>by
  obtain ⟨p,x1,x2,x3,rfl,hp,a1,a2,a3⟩:=h1;obtain ⟨q,y1,y2,y3,rfl,hq,b1,b2,b3⟩:=h2;cases rx;cases ry;obtain ⟨us,r1,t1,_⟩:=I.tuple hp;obtain ⟨ws,r2,t2,_⟩:=I.tuple hq;have l1:=r1.length;have l2:=r2.length;have z:=SeqAt.RcAt.tuples (A:=A) (e:=e3 a b) (show s.heap.IsTuple p us.toArray from t1) (show s.heap.IsTuple q ws.toArray from t2) (by lia) (tO k1 k2 k3 (A:=A.in1) I (by show A.units+1+k1.d < cLine;lia) (by show A.units+1+k2.d < cLine;lia) (by show A.units+1+k3.d < cLine;lia) r1 r2 a1 a2 a3 b1 b2 b3);have e1:us.toArray.size=3:=by rw[aF,<- l1];rfl
  have e2:ws.toArray.size=3:=by rw[aF,<- l2];rfl
  rw[e1,e2,dW,y9] at z;simpa using z
 ne:=λ{X pins σ H s x y v u a b A} I rx ry h1 h2 hA=>by
  obtain ⟨p,x1,x2,x3,rfl,hp,a1,a2,a3⟩:=h1;obtain ⟨q,y1,y2,y3,rfl,hq,b1,b2,b3⟩:=h2;cases rx;cases ry;obtain ⟨us,r1,t1,_⟩:=I.tuple hp;obtain ⟨ws,r2,t2,_⟩:=I.tuple hq;have l1:=r1.length;have l2:=r2.length;have z:=SeqAt.RcNeAt.tuples (A:=A) (e:=e3 a b) (show s.heap.IsTuple p us.toArray from t1) (show s.heap.IsTuple q ws.toArray from t2) (by lia) (tO k1 k2 k3 (A:=A.in1) I (by show A.units+1+k1.d < cLine;lia) (by show A.units+1+k2.d < cLine;lia) (by show A.units+1+k3.d < cLine;lia) r1 r2 a1 a2 a3 b1 b2 b3);have e1:us.toArray.size=3:=by rw[aF,<- l1];rfl
  have e2:ws.toArray.size=3:=by rw[aF,<- l2];rfl
  rw[e1,e2,dW,y9] at z;simpa using z
 eq:=λ{X pins σ H s x y v u a b A} I rx ry h1 h2 hA=>by
  obtain ⟨p,x1,x2,x3,rfl,hp,a1,a2,a3⟩:=h1;obtain ⟨q,y1,y2,y3,rfl,hq,b1,b2,b3⟩:=h2;cases rx;cases ry;by_cases e:p=q
  ·subst e;have e:=I.tuple_inj hp hq;cases e;have e2:a=b:=Prod.ext (k1.inj I a1 b1) (Prod.ext (k2.inj I a2 b2) (k3.inj I a3 b3));rw[decide_eq_true e2];exact SeqAt.EqAt.same _
  ·obtain ⟨us,r1,t1,_⟩:=I.tuple hp;obtain ⟨ws,r2,t2,_⟩:=I.tuple hq;have l1:=r1.length;have l2:=r2.length;have z:=SeqAt.RcAt.tuples (A:=A) (e:=e3 a b) (show s.heap.IsTuple p us.toArray from t1) (show s.heap.IsTuple q ws.toArray from t2) (by lia) (tO k1 k2 k3 (A:=A.in1) I (by show A.units+1+k1.d < cLine;lia) (by show A.units+1+k2.d < cLine;lia) (by show A.units+1+k3.d < cLine;lia) r1 r2 a1 a2 a3 b1 b2 b3);have e1:us.toArray.size=3:=by rw[aF,<- l1];rfl
   have e2:ws.toArray.size=3:=by rw[aF,<- l2];rfl
   rw[e1,e2,dW,y9] at z;exact .of_refs e (by simpa using z)
end
section
variable {mv pt lk pus L Hd Hd' ws ws':LR9} {y y':List Rat} {T e:Nat}
theorem rZ.not (D:fJ mv pt lk) (N:rZ mv pt lk pus L T ws) (ly:y.length=mv.length) (dy:((kry (aW mv mv.length) lk T).map λxs=>cB xs y)=mC mv pt lk pus L T):False:=by
 have et:(aW mv mv.length).length=mv.length:=bZ;have wk:=eG (mv:=aW mv mv.length) (pt:=lk) et D.lw T;have lf:ws.flatten.length=(kry (aW mv mv.length) lk T).length:=by rw[kB N.ww,N.lw,lS]
 have d1:=N.d1;rw[<- dy,<- Qj lf wk ly,N.z0,Nb,C8] at d1;exact absurd d1 (by decide)
theorem yP.one (h:yP mv pt lk pus L T e y Hd) (h':yP mv pt lk pus L T e y' Hd'):y=y'/\Hd=Hd':=by
 have eH:Hd=Hd':=by
  obtain ⟨R,ps,psd,M,RR,RN,_⟩:=h.un;obtain ⟨R',ps',psd',M',RR',RN',_⟩:=h'.un;obtain ⟨rfl,rfl⟩:=RR.same RR';exact (RN.same RN').1
 subst eH;obtain ⟨R,ps,psd,RR,RH,rfl⟩:=h.can;obtain ⟨R',ps',psd',RR',RH',rfl⟩:=h'.can;obtain ⟨rfl,rfl⟩:=RR.same RR';obtain ⟨_,rfl⟩:=RH.same RH';exact ⟨rfl,rfl⟩
theorem rZ.one (h:rZ mv pt lk pus L T ws) (h':rZ mv pt lk pus L T ws'):ws=ws':=by
 obtain ⟨R,ps,RR,rfl⟩:=h.can;obtain ⟨R',ps',RR',rfl⟩:=h'.can;obtain ⟨rfl,rfl⟩:=RR.same RR';rfl
theorem rZ.looks {st:List Rat} (D:fJ mv pt lk) (ls:st.length=mv.length) (lp:pus.length=T) (wp:∀xs∈pus,xs.length=pt.length) (N:rZ mv pt lk pus (xh mv pt lk st pus) T ws):False:=by
 refine N.not D ls ?_;show Pk mv lk st T=_
 rw[<- Jm];unfold mC;refine congrArg _ (eV λt ht=>?_);have ht:=cP.mp ht;unfold UH zY xh;rw[aa,aA,cu (by lia),Option.map_some,A4];refine c4 (by rw[ag,aY,ag,ag,dW]) λi hi hi'=>?_
 rw[ag] at hi;rw[cC,eh,cC,cC];exact (Ln D ls wp (by lia:t<=pus.length) (D.lw _ (aI hi))).symm
end
inductive Dy (K:FG9) (H0 H:Hp) (mv pt lk pus L:LR9) (T e:Nat):V->Prop
 | any (t a g:Addr) (y:List Rat) (Hd:LR9):H t=some (.tup [.str (Str.ofString "any"),.ref a,.ref g])->cK K H a y->bf K H0 H g Hd->yP mv pt lk pus L T e y Hd->Dy K H0 H mv pt lk pus L T e (.ref t)
 | none (t a:Addr) (ws:LR9):H t=some (.tup [.str (Str.ofString "none"),.ref a])->bf K H0 H a ws->rZ mv pt lk pus L T ws->Dy K H0 H mv pt lk pus L T e (.ref t)
section
variable {K:FG9} {H0 H0' H H':Hp} {mv pt lk pus L:LR9} {T e:Nat} {v v':V}
theorem Dy.same (h:Dy K H0 H mv pt lk pus L T e v) (s:aB H H'):Dy K H0 H' mv pt lk pus L T e v:=by
 cases h with
 | any t a g y Hd gt Ra Gg TL=>exact .any t a g y Hd (s _ _ gt) (Ra.same s) (Gg.same s) TL
 | none t a ws gt Ga NO=>exact .none t a ws (s _ _ gt) (Ga.same s) NO
theorem Dy.eq (D:fJ mv pt lk) (h:Dy K H0 H mv pt lk pus L T e v) (h':Dy K H0' H mv pt lk pus L T e v') (k:Q (.bl false) H):TQ K v v' H Q:=by
 cases h with
 | any t a g y Hd gt Ra Gg TL =>
  cases h' with
  | any t' a' g' y' Hd' gt' Ra' Gg' TL' =>
   obtain ⟨rfl,rfl⟩:=TL.one TL';exact ⟨_,_,Vs Uh Ji rR,(Str.ofString "any",y,Hd),(Str.ofString "any",y,Hd),by decide,⟨t,_,_,_,rfl,mL.of gt,rfl,Ra.kind,Gg.kind⟩,⟨t',_,_,_,rfl,mL.of gt',rfl,Ra'.kind,Gg'.kind⟩,by rw[decide_eq_true rfl];exact k⟩
  | none t' a' ws gt' Ga NO=>exact (NO.not D TL.ly TL.dy).elim
 | none t a ws gt Ga NO =>
  cases h' with
  | any t' a' g' y' Hd' gt' Ra' Gg' TL'=>exact (NO.not D TL'.ly TL'.dy).elim
  | none t' a' ws' gt' Ga' NO' =>
   obtain rfl:=NO.one NO';exact ⟨_,_,Vt Uh rR,(Str.ofString "none",ws),(Str.ofString "none",ws),by decide,⟨t,_,_,rfl,mL.of gt,rfl,Ga.kind⟩,⟨t',_,_,rfl,mL.of gt',rfl,Ga'.kind⟩,by rw[decide_eq_true rfl];exact k⟩
end
inductive EC (K:FG9) (vs:List V) (H:Hp) (Q:VK) (E9:XK):Prop
 | mk (v:V) (H0:Hp) (mv pt lk pus L:LR9) (T e:Nat):vs=[v]->fJ mv pt lk->Mi mv pt lk pus L T e->Dy K H0 H mv pt lk pus L T e v->(∀v' H',aB H H'->Dy K H H' mv pt lk pus L T e v'->Q v' H')->EC K vs H Q E9
def PU (L:LR9) (w:Nat) (L':LR9):Prop:=(∀xs∈L',∀z∈xs,Dr (max w 6) z)\/∀xs∈L',∀z∈xs,∃ys∈L,∃x∈ys,∃c d:Nat,c<=5/\0 < d/\d<=3/\z=x+(c:Rat) / (d:Rat)
theorem PU.refl:PU L w L:=.inr λxs hx z hz=>⟨xs,hx,z,hz,0,1,by decide,by decide,by decide,by rw[show ((0:Nat):Rat) / ((1:Nat):Rat)=0 from Mn _,lU]⟩
inductive xB (K:FG9) (vs:List V) (H:Hp) (Q:VK) (E9:XK):Prop
 | mk (b l:Addr) (o w:Nat) (H0:Hp) (L:LR9):vs=[.ref b,.ref l,.int o,.int w]->iM H b->bf K H0 H l L->L.length<=12->(∀xs∈L,xs.length=o/\∀z∈xs,kN z)->o<=4->1<=w->w<=1000000->(∀r L' H',H r=none->bf K H H' r L'->L'.length=L.length->(∀xs∈L',xs.length=o)->PU L w L'->iM H' b->df b H H'->Q (.ref r) H')->xB K vs H Q E9
section
variable {K:FG9} {g:TG} {tf:TT} {te:TE} {Q:VK} {σ₀:St} {H:Hp}
theorem K5 (G:Hp->β->V->Prop) (C:β->Prop) (hx:H a=some (.lst xs)) (ab:a≠b) (hB:iM H b) (hl:xs.length<=1000) (hG:∀{H' H'' c x},G H' c x->df b H' H''->iM H' b->G H'' c x)
  (hs:∀x H' NY NN,x∈xs->df b H H'->iM H' b->(∀y c H2,df b H' H2->iM H2 b->C c->G H2 c y->NY y H2)->pP σ₀ g tf te x H' NY NN)
  (hd:∀ys cs H' p,H p=none->df b H H'->iM H' b->H' p=some (.lst ys)->cs.length=xs.length->(∀c∈cs,C c)->Paired (G H') cs ys->(∃H2,H2 p=none/\Paired (G H2) cs ys)->Q (.ref p) H'):qG (RW K a) σ₀ g tf te Q H:=by
 refine eO (K:=K) (xs:=xs) (λi ys H'=>df b H H'/\iM H' b/\∃cs,cs.length=i/\(∀c∈cs,C c)/\Paired (G H') cs ys) lE ⟨(aB.refl _).upto,hB,[],rfl,(λ_ z=>nomatch z),.nil⟩ (λi ys H' _ ⟨u,_⟩=>bB.of (u.other ab hx)) ?_ ?_
 ·rintro i x ys H' hx' hlen ⟨u,B,cs,lc,hc,pr⟩;refine hs x H' _ _ (ak hx') u B λy c H2 u2 B2 cc gy=>⟨u.trans u2,B2,cs++[c],by simp [lc],HI hc cc,b9 (Paired.imp' (λ_ _ z=>hG z u2 B) pr) (.cons gy .nil)⟩
 ·rintro ys H' hy ⟨u,B,cs,lc,hc,pr⟩ p hp;have s:aB H' (upd H' p (.lst ys)):=aB.new hp;exact hd ys cs _ p (u.none B hp) (u.same s) (B.same s) aD lc hc (Paired.imp' (λ_ _ z=>hG z s.upto B) pr) ⟨H',hp,pr⟩
end
section
variable {K:FG9} {C:Addr} {H H0 H1 H2 H3:Hp} {Q:VK} {E9:XK} {mv pt lk pus L:LR9} {T e:Nat} {x p l r:Addr}
theorem N5 (S:l9 K H0 H C x mv pt lk) (D:fJ mv pt lk) (F:JY mv pt lk) (Gp:bf K H1 H p pus) (Gl:bf K H2 H l L) (Z:Mi mv pt lk pus L T e) (k:∀v H',aB H H'->Dy K H H' mv pt lk pus L T e v->Q v H'):tR K C [.ref x,.ref p,.ref l] H Q E9 :=
 ⟨x,p,l,T,e,H0,H1,H2,mv,pt,lk,pus,L,rfl,S,D,F,Gp,Gl,Z,λt a r y Hd H' gt _ _ s Ra Gg TL=>k _ H' s (.any t a r y Hd gt Ra Gg TL),λt a ws H' gt _ s Ga NO=>k _ H' s (.none t a ws gt Ga NO)⟩
theorem NQ (S:l9 K H0 H C x mv pt lk) (PQ:gQ K H1 H r mv pt lk) (D:fJ mv pt lk) (F:JY mv pt lk) (Gp:bf K H2 H p pus) (Gl:bf K H3 H l L) (Z:Mi mv pt lk pus L T e/\(∀y Hd,yP mv pt lk pus L T e y Hd->PK mv pt lk pus y)/\∀ws,rZ mv pt lk pus L T ws->Nj mv pt lk pus L ws T) (k:∀v H',aB H H'->Q (.str v) H'):zi K C [.ref x,.ref r,.ref p,.ref l] H Q E9 :=
 ⟨x,r,p,l,T,e,H0,H1,H2,H3,mv,pt,lk,pus,L,rfl,S,PQ,D,F,Gp,Gl,Z.1,Z.2.1,Z.2.2,λH' s=>k _ H' s,λ_ H' _ s=>k _ H' s⟩
end
theorem VF {c d:Nat} (c5:c<=5) (d0:0 < d) (d3:d<=3):Fr 6 5 ((c:Rat) / (d:Rat)):=by
 have hd:d=1\/d=2\/d=3:=by lia
 have e:∀k:Nat,(((k:Int)*(c:Int):Int):Rat)=(k:Rat)*(c:Rat):=λk=>by rw[aN,aS,aS]
 rcases hd with rfl | rfl | rfl
 ·exact ⟨((6:Nat):Int)*(c:Int),by rw[e];grind,by lia⟩
 ·exact ⟨((3:Nat):Int)*(c:Int),by rw[e];grind,by lia⟩
 ·exact ⟨((2:Nat):Int)*(c:Int),by rw[e];grind,by lia⟩
def WA (L:LR9):Prop:=∃q,0 < q/\q<=2^790/\∀xs∈L,∀z∈xs,Fr q (2^240) z
section
variable {mv pt lk pus L:LR9} {st:List Rat} {w T e M1 M2 M3 Vx a1 a2 c:Nat}
theorem Qx (B:B3 mv pt lk M1 M2 M3 Vx a1 a2 c) (D:fJ mv pt lk) (VV:V5 (aW mv mv.length) lk T e) (t12:T<=12) (wp:∀xs∈pus,xs.length=pt.length) (lp:pus.length=T) (b0:0 < B0) (b1:B0<=2^142) (hu:∀xs∈pus,∀z∈xs,Fr B0 (2^22) z) (h1:a1*(T+1)<=320) (h2:a2<=160) (h3:c*(T+1)<=208) (h4:c<=33) (lL:L.length=T) (wL:∀xs∈L,xs.length=lk.length) (hL:WA L):Mi mv pt lk pus L T e/\(∀y Hd,yP mv pt lk pus L T e y Hd->PK mv pt lk pus y)/\∀ws,rZ mv pt lk pus L T ws->Nj mv pt lk pus L ws T:=by
 have et:(aW mv mv.length).length=mv.length:=bZ;have d8:=D.n8;have o4:=D.o4;have l0:(List.replicate mv.length (0:Rat)).length=mv.length:=bA ..;obtain ⟨q,q0,q1,fq⟩:=hL;have N0:0 < M2*B0:=bR B.p.m2 b0;have hN:M2*B0<=2^(a2+142):=by rw[aU];exact aE B.p.b2 b1
 have hz:∀z∈List.replicate mv.length (0:Rat),Fr (M2*B0) (2^22) z:=λz hz=>by rw[yY hz];exact Fr.zero
 have sp:a2+c<=195000:=by lia
 obtain ⟨L2,f2⟩:=B.looks D l0 wp lp N0 hN (vC _) hz hu (by lia) sp;have Mb0:0 < M3*(M1^T*(M2*B0)):=bR B.q.m2 (bR (jA B.p.m1) N0);have aT:a1*T<=320:=ah (aP _ (oj _)) h1;have cT:c*T<=208:=ah (aP _ (oj _)) h3;have Mb:M3*(M1^T*(M2*B0))<=2^782:=ah (aE B.q.b2 (nH B.p.b1 hN)) (by rw[<- aU];exact tz (by lia))
 have dk:M1^(T - 1)*M3∣M3*(M1^T*(M2*B0)):=by
  rw[cy];exact Nat.mul_dvd_mul_left _ (mM (Nat.pow_dvd_pow _ (by lia)) (yV _ _))
 have ps:=B.p.states D l0 wp N0 hN (vC _) hz hu (by rw[lp];lia) sp;have kf:=B.q.kry D.turn T;have wk:=eG (mv:=aW mv mv.length) (pt:=lk) et D.lw T;have kl:=lS (mv:=aW mv mv.length) (pt:=lk) T;have kl2:T*lk.length<=12*4:=aE t12 o4;obtain ⟨P,eP⟩:∃P,P=M3*(M1^T*(M2*B0))*q:=⟨_,rfl⟩;have P0:0 < P:=by rw[eP];exact bR Mb0 q0
 have P1:P<=2^1572:=by rw[eP];exact ah (aE Mb q1) (by rw[<- aU];exact ar _)
 have dP:M3*(M1^T*(M2*B0))∣P:=by rw[eP];exact yV _ _
 have fR:∀t,t < T->∀z∈lk.map λxs=>cB xs (tu mv pt (List.replicate mv.length 0) pus t),Fr P (2^240) z:=λt ht z hz=>by
  obtain ⟨xs,hx,rfl⟩:=aw.mp hz;exact Fr.up (f2 t (by lia) xs hx) dP (tz (by lia))
 have fL:∀xs∈L,∀z∈xs,Fr P (2^240) z:=λxs hx z hz=>Fr.up (fq xs hx z hz) (by rw[eP];exact ic _ _) (ar _)
 have fD:∀t,t < T->∀z∈zY mv pt lk pus L t,Fr P (2^241) z:=λt ht z hz=>by
  unfold zY at hz;obtain ⟨i,hi,rfl⟩:=bO hz;rw[eh];exact ((fL _ (getD_in (by lia)) _ (aI _)).sub (fR t ht _ (aI _))).mono (by rw[gW];lia)
 have fK:∀xs∈kry (aW mv mv.length) lk T,∀z∈xs,Fr P (2^241) z:=λxs hx z hz=>Fr.up (kf xs hx z hz) (mM dk dP) (tz (by lia))
 have fU:∀z∈mC mv pt lk pus L T,Fr P (2^241) z:=λz hz=>by
  unfold mC at hz;obtain ⟨xs,hx,hz⟩:=ie.mp hz;obtain ⟨t,ht,rfl⟩:=aw.mp hx;exact fD t (cP.mp ht) z hz
 have szf:∀{z:Rat},Fr P (2^241) z->kN z:=λh=>C4 P0 P1 (ar _) (by decide) h
 have tpf:∀{z:Rat},Fr P (2^241) z->Tp P (2^1813) z:=λh=>Tp.of h (ah (aP _ P1) (by rw[<- aU];exact ar _))
 have P2:P<=2^215000:=ah P1 (tz (by decide));have hd:=Bw (mv:=mv) (pt:=pt) (pus:=pus) lL wL;have f1:Fr P (2^241) (1:Rat):=Fr.int (i:=1) bU;have swJ:DI (eZ (kry (aW mv mv.length) lk T) (mC mv pt lk pus L T)) (mv.length+1) 1813:=N4 (m:=9) P0 P2 (by decide) (λxs hx x hx'=>tpf (Sv fK fU xs hx x hx')) (by lia) (by decide) (by decide)
 have swS:DI (zb (kry (aW mv mv.length) lk T) mv.length (mC mv pt lk pus L T)) ((kry (aW mv mv.length) lk T).length+1) 1813:=by
  refine N4 (m:=9) P0 P2 (by decide) (λxs hx x hx'=>tpf ?_) ?_ (by decide) (by decide)
  ·unfold zb at hx;refine Sv (λys hy y hy'=>?_) (λy hy=>?_) xs hx x hx'
   ·rcases av.mp hy with hy | hy
    ·exact NL (C:=Fr P (2^241)) (λxs hx=>⟨wk xs hx,fK xs hx⟩) ys hy y hy'
    ·rw[bV.mp hy] at hy';exact fU y hy'
   ·rcases av.mp hy with hy | hy
    ·rw[yY hy];exact Fr.zero
    ·rw[bV.mp hy];exact f1
  ·refine ah (Nat.min_le_left _ _) ?_;unfold zb eZ;rw[aY,ai,bZ];show min (mv.length+1) _<=9
   lia
 refine ⟨⟨VV,t12,lp,wp,lL,wL,λk hk=>?_,λxs hx z hz=>szf ((fL xs hx z hz).mono (tz (by decide))),λt ht z hz=>szf ((fR t ht z hz).mono (tz (by decide))),⟨_,swJ,by decide⟩,⟨_,swS,by decide⟩⟩,λy Hd TL=>?_,λws NO=>?_⟩
 ·have k1:a1*k<=320:=ah (aP _ (by lia)) h1;have k2:c*k<=208:=ah (aP _ (by lia)) h3;refine ⟨M1^k*(M2*B0),2^(c*k+22),bR (jA B.p.m1) N0,ah (nH B.p.b1 hN) (tz (by lia)),tz (by lia),(ps k hk).1,λxs hx x hx'=>Fr.up (hu xs hx x hx') ?_ (tz (by lia))⟩;exact mM (ic _ _) (ic _ _)
 ·obtain ⟨q,q0,q1,tq⟩:=TL.fy;have Nq:M2*B0*q<=2^(a2+142+22000):=by rw[aU];exact aE hN q1
  exact (B.looks D TL.ly wp lp (bR N0 q0) Nq (yV _ _) (p:=22000) (λz hz=>((tq z hz).fr q0).scaleL _) (λxs hx z hz=>(hu xs hx z hz).mono (tz (by decide))) (by lia) sp).1
 ·obtain ⟨q,q0,q1,tq⟩:=NO.fw;have lw:=NO.lw;have lf:ws.flatten.length=T*lk.length:=by rw[kB NO.ww,lw]
  have tf:∀z∈ws.flatten,Tp q (2^20000) z:=λz hz=>by obtain ⟨xs,hx,hz⟩:=ie.mp hz;exact tq xs hx z hz
  have qP:q*P<=2^22000:=ah (aE q1 P1) (by rw[<- aU];exact tz (by decide));have szq:∀{z:Rat} {W:Nat},Tp (q*P) W z->W<=2^23000->kN z:=λh hW=>kW h (bR q0 P0) (ah qP (tz (by decide))) (ah hW (tz (by decide)))
  have two:∀{m:Nat},m<=2^9->m*(2^20000*2^1813)<=2^23000:=λh=>ah (ay _ h) (by rw[<- aU,<- aU];exact tz (by decide))
  have dt:∀t,t < T->Tp (q*P) (4*(2^20000*2^1813)) (cB (ws.getD t []) (zY mv pt lk pus L t)):=λt ht=>by
   have m1:=getD_in (l:=ws) (i:=t) (e:=[]) (by lia);have w1:=NO.ww _ m1;rw[cO (by unfold zY;rw[w1,aY,ag,wL _ (getD_in (by lia)),dW]),w1];refine (Tp.sum (W:=2^20000*2^1813) λj _=>(jB (tq _ m1) j).mul (jB (λz hz=>tpf (fD t ht z hz)) j)).mono (ay _ o4)
  refine ⟨L2,λxs hx z hz=>kW (tq xs hx z hz) q0 (ah q1 (tz (by decide))) (tz (by decide)),λxs hx z hz=>szf (fK xs hx z hz),λi hi z hz=>?_,λm hm z hz=>?_,λt ht=>?_,λt ht=>szq (dt t ht) (two (by decide)),λt ht=>?_⟩
  ·refine szq ((jB tf i).mul (tpf (fK _ (getD_in (by lia)) z hz))) ?_;have:=two (m:=1) (by decide);rwa [sY] at this
  ·exact szq (UP tf (λxs hx z hz=>tpf (fK xs hx z hz)) z hz) (two (by have:(2:Nat)^9=512:=rfl;lia))
  ·exact ⟨20000,20000,1572,241,⟨q,2^20000,q0,q1,ar _,λz hz=>(tq _ (getD_in (by lia)) z hz).fr q0⟩,⟨P,2^241,P0,P1,ar _,fD t ht⟩,by decide⟩
  ·refine szq (Tp.sum λs hs=>dt s (by lia)) ?_;rw[<- cM];exact two (by have:(2:Nat)^9=512:=rfl;lia)
theorem Te (J:Rj mv pt lk w) (D:fJ mv pt lk) (St:V7 mv.length w T) (ls:st.length=mv.length) (hs:∀z∈st,Dr (max w 6) z) (hp:DrP pt T w pus):∃e,PK mv pt lk pus st/\∀L,L.length=T->(∀xs∈L,xs.length=lk.length)->PU (xh mv pt lk st pus) w L->Mi mv pt lk pus L T e/\(∀y Hd,yP mv pt lk pus L T e y Hd->PK mv pt lk pus y)/\∀ws,rZ mv pt lk pus L T ws->Nj mv pt lk pus L ws T:=by
 have et:(aW mv mv.length).length=mv.length:=bZ;have i4:=D.i4;have o4:=D.o4;obtain ⟨e,VV⟩:=QC J.g D.turn (by rw[et];exact St);obtain ⟨s1,s2,_,_⟩:=St;obtain ⟨lp,hp⟩:=hp
 have hl:∀z∈st++pus.flatten,Dr (max w 6) z:=λz hz=>by
  rcases av.mp hz with hz | hz
  ·exact hs z hz
  ·obtain ⟨xs,hx,hz⟩:=ie.mp hz;exact (hp xs hx).2 z hz
 have len:(st++pus.flatten).length=mv.length+T*pt.length:=by rw[ai,kB λxs hx=>(hp xs hx).1,lp,ls]
 have key:∀{M1 M2 M3 Vx a1 a2 c:Nat},B3 mv pt lk M1 M2 M3 Vx a1 a2 c->a1*(T+1)<=320->a2<=160->c*(T+1)<=208->c<=33->(∃B,0 < B/\B<=2^142/\∀z∈st++pus.flatten,Fr B (2^22) z)->(∀L:LR9,L.length=T->(∀xs∈L,xs.length=lk.length)->(∀xs∈L,∀z∈xs,Dr (max w 6) z)->WA L)->PK mv pt lk pus st/\∀L,L.length=T->(∀xs∈L,xs.length=lk.length)->PU (xh mv pt lk st pus) w L->Mi mv pt lk pus L T e/\(∀y Hd,yP mv pt lk pus L T e y Hd->PK mv pt lk pus y)/\∀ws,rZ mv pt lk pus L T ws->Nj mv pt lk pus L ws T:=λ{M1 M2 M3 Vx a1 a2 c} B h1 h2 h3 h4 ⟨B0,b0,b1,fr⟩ hdr=>by
  have wp:∀xs∈pus,xs.length=pt.length:=λxs hx=>(hp xs hx).1
  have hu:∀xs∈pus,∀z∈xs,Fr B0 (2^22) z:=λxs hx z hz=>fr z (av.mpr (.inr (ie.mpr ⟨xs,hx,hz⟩)))
  have N0:0 < M2*B0:=bR B.p.m2 b0;have hN:M2*B0<=2^(a2+142):=by rw[aU];exact aE B.p.b2 b1
  have aT:a1*T<=320:=ah (aP _ (oj _)) h1;obtain ⟨L1,f1⟩:=B.looks D ls wp lp N0 hN (vC _) (λz hz=>(fr z (av.mpr (.inl hz))).scaleL M2) hu (by lia) (show a2+c<=195000 by lia);refine ⟨L1,λL lL wL ch=>Qx B D VV s1 wp lp b0 b1 hu h1 h2 h3 h4 lL wL ?_⟩;rcases ch with ch | ch
  ·exact hdr L lL wL ch
  ·have Mb:M3*(M1^T*(M2*B0))<=2^782:=ah (aE B.q.b2 (nH B.p.b1 hN)) (by rw[<- aU];exact tz (by lia));refine ⟨M3*(M1^T*(M2*B0))*6,bR (bR B.q.m2 (bR (jA B.p.m1) N0)) (by decide),ah (aE Mb (show 6<=2^3 by decide)) (by rw[<- aU];exact tz (by decide)),λxs hx z hz=>?_⟩;obtain ⟨ys,hy,x,hx',c',d',c5,d0,d3,rfl⟩:=ch xs hx z hz;unfold xh at hy;obtain ⟨t,ht,rfl⟩:=aw.mp hy;obtain ⟨zs,hz',rfl⟩:=aw.mp hx';have g1:=(f1 t (by have:=cP.mp ht;lia) zs hz').scale 6;have g2:Fr (M3*(M1^T*(M2*B0))*6) 5 ((c':Rat) / (d':Rat)):=Fr.scaleL (VF c5 d0 d3) _;refine (g1.add g2).mono ?_;have:c*(T+1)+22<=230:=by lia
   have:=tz this;have:(2:Nat)^230+5<=2^240:=by decide
   lia
 have small:w<=9->∃B,0 < B/\B<=2^142/\∀z∈st++pus.flatten,Fr B (2^22) z:=λw9=>⟨2520,by decide,by decide,λz hz=>(K2 ⟨ah (hl z hz).1 (by lia),ah (hl z hz).2 (by lia)⟩ (vC _)).mono (by decide)⟩
 have smallL:w<=9->∀L:LR9,L.length=T->(∀xs∈L,xs.length=lk.length)->(∀xs∈L,∀z∈xs,Dr (max w 6) z)->WA L:=λw9 L _ _ h=>⟨2520,by decide,by decide,λxs hx z hz=>(K2 ⟨ah (h xs hx z hz).1 (by lia),ah (h xs hx z hz).2 (by lia)⟩ (vC _)).mono (by decide)⟩
 refine ⟨e,?_⟩;rcases J with ⟨w9,B⟩ | ⟨w9,n5,B⟩ | ⟨w9,n2,M1,M2,M3,B⟩
 ·exact key B (by lia) (by lia) (by lia) (by lia) (small w9) (smallL w9)
 ·exact key B (by lia) (by lia) (by lia) (by lia) (small w9) (smallL w9)
 ·have t3:=s2 (by lia);have dr10:∀{z:Rat},Dr (max w 6) z->Dr (2^10) z:=λh=>⟨ah h.1 (by rw[w9];decide),ah h.2 (by rw[w9];decide)⟩
  refine key B (by lia) (by lia) (by lia) (by lia) ?_ λL lL wL h=>?_
  ·obtain ⟨B0,h0,h1,h2⟩:=EZ (c:=10) (l:=st++pus.flatten) (λx hx=>dr10 (hl x hx)) (by decide);have m:T*pt.length<=3*4:=aE t3 i4;exact ⟨B0,h0,ah h1 (tz (by lia)),h2⟩
  ·obtain ⟨B0,h0,h1,h2⟩:=EZ (c:=10) (l:=L.flatten) (λx hx=>by obtain ⟨xs,hx,hz⟩:=ie.mp hx;exact dr10 (h xs hx x hz)) (by decide);have m:T*lk.length<=3*4:=aE t3 o4;rw[kB wL,lL] at h1;exact ⟨B0,h0,ah h1 (tz (by lia)),λxs hx z hz=>(h2 z (ie.mpr ⟨xs,hx,hz⟩)).mono (tz (by decide))⟩
end
end L2
open L2
local macro_rules | `(tactic| walk_at "hl") => `(tactic| first | (show _ ≤ sizeLine; with_unfolding_all decide) | (with_unfolding_all exact (by decide)))
local macro_rules | `(tactic| walk_at "sq") => `(tactic| first | with_reducible assumption | with_reducible exact mL.of (by assumption) | with_reducible exact bB.of (by assumption) | with_reducible exact mL.of aD | with_reducible exact bB.of aD | assumption)
local macro_rules | `(tactic| walk_at "sc") => `(tactic| first | (with_reducible show (0 : Int) < _; decide) | with_reducible exact L6 (by decide) (by decide) | with_reducible exact Bx (by decide) (by decide) | with_reducible exact cpow_of (by decide) (by decide) (by decide))
local macro_rules | `(tactic| walk_at "rd") => `(tactic| first
  | with_reducible refine Ti ?_
  | with_reducible refine QJ ?_
  | with_reducible refine TK ?_
  | with_reducible refine Oz ?_
  | ((with_reducible refine' Tg ?hx1 ?_); (case hx1 => with_unfolding_all rfl))
  | with_reducible refine We ?_
  | with_reducible refine Vh ?_
  | with_reducible refine Vk ?_
  | with_reducible refine Vd ?_
  | with_reducible refine Wf ?_
  | with_reducible refine TJ ?_
  | with_reducible refine Tt ?_
  | with_reducible refine TH ?_
  | with_reducible refine rd_neS ?_
  | with_reducible refine rd_eqB ?_
  | with_reducible refine rd_neB ?_
  | with_reducible refine QM ?_
  | with_reducible refine Kv ?_
  | with_reducible refine TC ?_
  | with_reducible refine QF ?_
  | with_reducible refine QK ?_
  | with_reducible refine QL ?_
  | with_reducible refine Oy ?_
  | with_reducible refine QE ?_
  | with_reducible refine Ve ?_
  | with_reducible refine Tj ?_
  | with_reducible refine rd_retN ?_
  | with_reducible refine Tx ?_
  | with_reducible refine TM ?_
  | with_reducible refine Vg ?_
  | with_reducible refine Tr ?_
  | with_reducible refine QZ ?_
  | with_reducible refine rd_orV ?_
  | with_reducible refine QI ?_
  | with_reducible refine Tz ?_
  | with_reducible refine Tf ?_
  | with_reducible refine O3 ?_
  | with_reducible refine Vw ?_
  | with_reducible refine Vy ?_
  | with_reducible refine Vz ?_
  | with_reducible refine Sl ?_
  | with_reducible refine Ts ?_
  | with_reducible refine QV ?_
  | with_reducible refine Th ?_
  | with_reducible refine Tu ?_
  | with_reducible refine QX ?_
  | with_reducible refine Vi ?_
  | with_reducible refine QU ?_
  | with_reducible refine Tq ?_
  | with_reducible refine QY ?_
  | ((with_reducible refine' rd_aug ?hx1 ?_); (case hx1 => with_unfolding_all rfl))
  | with_reducible refine Tw ?_
  | with_reducible refine QQ ?_
  | with_reducible refine OA ?_
  | with_reducible refine QR ?_
  | with_reducible refine Vf ?_
  | with_reducible refine MF ?_
  | with_reducible refine QG ?_
  | with_reducible refine TB ?_
  | with_reducible refine Ox ?_
  | with_reducible refine QN ?_
  | with_reducible refine Ow ?_
  | with_reducible refine Ov ?_
  | ((with_reducible refine' QW ?hx1 ?_); (case hx1 => with_unfolding_all rfl))
  | with_reducible refine QD ?_
  | with_reducible refine Vj ?_
  | with_reducible refine rd_bm0 ?_
  | with_reducible refine rd_brk ?_
  | ((with_reducible refine' QP ?hx1 ?hx2 ?_); (case hx1 => walk_at "sq"); (case hx2 => with_unfolding_all rfl))
  | with_reducible refine rd_cont ?_
  | ((with_reducible refine' fv ?hx1 ?_); (case hx1 => walk_at "sc"))
  | ((with_reducible refine' Tv ?hx1 ?hx2 ?_); (case hx1 => walk_at "sq"); (case hx2 => with_unfolding_all rfl))
  | ((with_reducible refine' bX ?hx1 ?hx2 ?_); (case hx1 => walk_at "sq"); (case hx2 => with_unfolding_all rfl))
  | ((with_reducible refine' QT ?hx1 ?hx2 ?_); (case hx1 => walk_at "sq"); (case hx2 => with_unfolding_all rfl))
  | ((with_reducible refine' fN ?hx1 ?hx2 ?hx3 ?_); (case hx1 => with_reducible first | assumption | exact aD); (case hx2 => with_unfolding_all rfl); (case hx3 => with_unfolding_all rfl))
  | with_reducible refine ⟨_, rfl, ?_⟩
  | with_reducible refine ⟨_, _, rfl, ?_⟩)
namespace L2
open PySem PySem.Spec PyProof.Rows Nm
section
variable {X:Cx} {e e1 e2 e3:Expr} {te t1 t2 t3:TE}
theorem dX (i:Nat) {x:Str} {pos:Pos} (hN:X.N.Nodup:=by walk_at "u") (hi:X.N[i]?=some x:=by rfl) (hx:Loc X.env.scope x:=by first | exact Or.inl rfl | exact Or.inr rfl) (hf:X.fn x=true\/X.env.scope.names.lookup x=some .local:=by first | exact .inl rfl | exact .inr rfl | assumption):PG X (.Name x pos) (EV i):=Q6 hN hi hx hf
theorem eK (i:Nat) {x:Str} {pos pos':Pos} (hN:X.N.Nodup) (he:PE X e te) (hi:X.N[i]?=some x:=by rfl) (hx:Loc X.env.scope x:=by first | exact Or.inl rfl | exact Or.inr rfl) (hs:swapsWith e (some (.Name x pos')) pos.line X.env=pure false:=by rfl) (hf:X.fn x=true\/X.env.scope.names.lookup x=some .local:=by first | exact .inl rfl | exact .inr rfl | assumption):PS X (.Assign [.Name x pos'] e pos) (NU te (EV i)):=TV hN hi hx he hs hf
theorem dc (a:PE X e te) (h0:starEach [e] X.env=(false,eval e X.env) :: starEach [] X.env:=by rfl):PA X [e] (js te BF):=(gG a iV h0)
theorem cR (a:PE X e te) (b:PE X e1 t1) (h0:starEach [e,e1] X.env=(false,eval e X.env) :: starEach [e1] X.env:=by rfl) (h1:starEach [e1] X.env=(false,eval e1 X.env) :: starEach [] X.env:=by rfl):PA X [e,e1] (js te (js t1 BF)):=(gG a (gG b iV h1) h0)
theorem tG (a:PE X e te) (b:PE X e1 t1) (c:PE X e2 t2) (h0:starEach [e,e1,e2] X.env=(false,eval e X.env) :: starEach [e1,e2] X.env:=by rfl) (h1:starEach [e1,e2] X.env=(false,eval e1 X.env) :: starEach [e2] X.env:=by rfl) (h2:starEach [e2] X.env=(false,eval e2 X.env) :: starEach [] X.env:=by rfl):PA X [e,e1,e2] (js te (js t1 (js t2 BF))):=(gG a (gG b (gG c iV h2) h1) h0)
theorem JX (a:PE X e te) (b:PE X e1 t1) (c:PE X e2 t2) (d:PE X e3 t3) (h0:starEach [e,e1,e2,e3] X.env=(false,eval e X.env) :: starEach [e1,e2,e3] X.env:=by rfl) (h1:starEach [e1,e2,e3] X.env=(false,eval e1 X.env) :: starEach [e2,e3] X.env:=by rfl) (h2:starEach [e2,e3] X.env=(false,eval e2 X.env) :: starEach [e3] X.env:=by rfl) (h3:starEach [e3] X.env=(false,eval e3 X.env) :: starEach [] X.env:=by rfl):PA X [e,e1,e2,e3] (js te (js t1 (js t2 (js t3 BF)))):=(gG a (gG b (gG c (gG d iV h3) h2) h1) h0)
abbrev bP:=@pv X 0
abbrev cL:=@pv X 1
abbrev dS:=@pv X 2
abbrev iu:=@pv X 3
abbrev m5:=@pv X 4
abbrev wW:=@pv X 5
abbrev nG:=@pv X 6
abbrev zK:=@pv X 7
abbrev IT:=@pv X 8
abbrev Q3:=@pv X 9
abbrev sC (N:List Str) (k:Nat) (st:Stmt):Prop:=vw N (N.take k) (dY st)
end
end L2
local macro_rules | `(tactic| walk_at "w") => `(tactic| repeat walk_at "rd")
local macro_rules | `(tactic| walk_at "d") => `(tactic| exact ⟨rfl,rfl,rfl,by decide +kernel,rfl,by decide +kernel,by decide +kernel⟩)
namespace Lw
open PySem PySem.Spec PyProof.Rows L2 Nm
local macro_rules | `(tactic| exists $e) => `(tactic| (walk_at "w";refine $e))
local macro_rules | `(tactic| walk_at "n") => `(tactic| (intro vs H Q E h; first | (cases h; subst_vars; rfl) | (obtain ⟨_, _⟩ := h; subst_vars; rfl) | (obtain ⟨_, _, _⟩ := h; subst_vars; rfl) | (obtain ⟨_, _, _, _⟩ := h; subst_vars; rfl) | (obtain ⟨_, _, _, _, _⟩ := h; subst_vars; rfl) | (obtain ⟨_, _, _, _, _, _⟩ := h; subst_vars; rfl) | (obtain ⟨_, _, _, _, _, _, _⟩ := h; subst_vars; rfl) | (obtain ⟨_, _, _, _, _, _, _, _⟩ := h; subst_vars; rfl) | (obtain ⟨_, _, _, _, _, _, _, _, _⟩ := h; subst_vars; rfl) | (obtain ⟨_, _, _, _, _, _, _, _, _, _⟩ := h; subst_vars; rfl) | (obtain ⟨_, _, _, _, _, _, _, _, _, _, _⟩ := h; subst_vars; rfl)))
local macro_rules | `(tactic| walk_at "i") => `(tactic| set_option tactic.hygienic false in intros)
local macro_rules | `(tactic| walk_at "s") => `(tactic| refine lY (by dsimp only [UG] <;> rfl) ?_)
local macro_rules | `(tactic| walk_at "d") => `(tactic| exact ⟨rfl, rfl, rfl, by decide +kernel, rfl, by decide +kernel, by decide +kernel⟩)
local macro_rules | `(tactic| walk_at "u") => `(tactic| first | (change List.Nodup (α := Str) [_]; decide +kernel) | (change List.Nodup (α := Str) [_, _]; decide +kernel) | (change List.Nodup (α := Str) [_, _, _]; decide +kernel) | (change List.Nodup (α := Str) [_, _, _, _]; decide +kernel) | (change List.Nodup (α := Str) [_, _, _, _, _]; decide +kernel) | (change List.Nodup (α := Str) [_, _, _, _, _, _]; decide +kernel) | (change List.Nodup (α := Str) [_, _, _, _, _, _, _]; decide +kernel) | (change List.Nodup (α := Str) [_, _, _, _, _, _, _, _]; decide +kernel) | (change List.Nodup (α := Str) [_, _, _, _, _, _, _, _, _]; decide +kernel))
set_option maxHeartbeats 4000000
def top (i:Nat):Stmt:=PySem.Challenge.pw_helmsum_k57_starts_none_and_alike.main.body.getD i (.Pass ⟨0,0,0,0⟩)
abbrev wV:Stmt:=top 64
abbrev ug:Stmt:=top 65
abbrev wQ:Stmt:=top 66
abbrev wN:Stmt:=top 67
abbrev uo:Stmt:=top 74
abbrev uj:Stmt:=top 69
abbrev zI:Stmt:=top 76
abbrev qX:Stmt:=top 78
abbrev uv:Stmt:=top 88
abbrev mO:Stmt:=top 81
abbrev oY:Stmt:=top 71
abbrev wO:Stmt:=top 72
abbrev uu:Stmt:=top 77
abbrev qW:Stmt:=top 79
abbrev rg:Stmt:=top 89
abbrev tW:Stmt:=top 60
abbrev wM:Stmt:=top 8
abbrev kX:Stmt:=top 9
abbrev uc:Stmt:=top 11
abbrev Cm:Stmt:=top 16
abbrev oW:Stmt:=top 61
abbrev eN:Stmt:=inClass (top 62) 0
abbrev o3:Stmt:=top 80
abbrev oX:Stmt:=top 87
abbrev qV:Stmt:=top 92
abbrev ui:Stmt:=top 100
abbrev wU:Stmt:=top 73
abbrev zH:Stmt:=top 82
abbrev uq:Stmt:=top 83
abbrev qZ:Stmt:=top 95
abbrev nF:Stmt:=top 101
abbrev kg:Stmt:=top 10
abbrev mo:Stmt:=top 19
abbrev tX:Stmt:=top 20
abbrev Ck:Stmt:=top 12
abbrev zB:Stmt:=top 21
abbrev zF:Stmt:=top 25
abbrev iE:Stmt:=inClass (top 62) 2
abbrev oU:Stmt:=top 26
abbrev gY:Stmt:=inClass (top 62) 1
abbrev Cn:Stmt:=top 30
abbrev oT:Stmt:=top 31
abbrev qR:Stmt:=top 22
abbrev F7:Stmt:=top 13
abbrev tZ:Stmt:=top 17
abbrev qT:Stmt:=top 36
abbrev zG:Stmt:=top 38
abbrev qU:Stmt:=top 37
abbrev F4:Stmt:=top 39
abbrev Cj:Stmt:=top 42
abbrev F5:Stmt:=top 43
abbrev Kq:Stmt:=top 27
abbrev qS:Stmt:=top 47
abbrev ue:Stmt:=top 48
abbrev fY:Stmt:=inClass (top 62) 3
abbrev Oj:Stmt:=top 28
abbrev zC:Stmt:=top 40
abbrev oS:Stmt:=top 49
abbrev qQ:Stmt:=top 50
abbrev wK:Stmt:=top 23
abbrev mi:Stmt:=top 33
abbrev zE:Stmt:=top 34
abbrev zD:Stmt:=top 44
abbrev oV:Stmt:=top 35
abbrev F6:Stmt:=top 45
abbrev oR:Stmt:=top 52
abbrev F3:Stmt:=top 14
abbrev tY:Stmt:=top 18
abbrev zA:Stmt:=top 54
abbrev Ci:Stmt:=top 55
abbrev kZ:Stmt:=top 84
abbrev oZ:Stmt:=top 85
abbrev nE:Stmt:=top 86
abbrev uh:Stmt:=top 70
abbrev uw:Stmt:=top 68
abbrev qY:Stmt:=top 75
abbrev nk:Stmt:=top 91
abbrev jo:Stmt:=top 93
abbrev kY:Stmt:=top 90
abbrev rd:Stmt:=top 96
abbrev k6:Stmt:=top 97
abbrev nv:Stmt:=top 94
abbrev kh:Stmt:=top 98
abbrev uf:Stmt:=top 99
abbrev ux:Stmt:=top 102
abbrev Oi:Stmt:=top 103
set_option genInjectivity false in
set_option genSizeOf false in
structure Ads where
 Dw:Addr
 Di:FuncData
 AM:Addr
 Ar:FuncData
 Dt:Addr
 De:FuncData
 xo:Addr
 xn:FuncData
 AR:Addr
 Aw:FuncData
 AQ:Addr
 Av:FuncData
 Fx:Addr
 Fd:FuncData
 yJ:Addr
 yr:FuncData
 AV:Addr
 Az:FuncData
 yH:Addr
 yo:FuncData
 we:Addr
 vU:FuncData
 Ds:Addr
 Dd:FuncData
 AU:Addr
 Ay:FuncData
 yI:Addr
 yp:FuncData
 yN:Addr
 yw:FuncData
 AF:Addr
 Ak:FuncData
 Dq:Addr
 Dc:FuncData
 qv:Addr
 pZ:FuncData
 AJ:Addr
 Ao:FuncData
 JF:Addr
 Jt:FuncData
 wa:Addr
 vS:FuncData
 kF:Addr
 kD:FuncData
 wo:Addr
 vW:FuncData
 wb:Addr
 vT:FuncData
 yG:Addr
 yn:FuncData
 AO:Addr
 Au:FuncData
 Dv:Addr
 Dg:FuncData
 Fw:Addr
 Fc:FuncData
 AS:Addr
 Ax:FuncData
 yL:Addr
 yu:FuncData
 uY:Addr
 uS:FuncData
 oI:Addr
 oG:FuncData
 sU:Addr
 sQ:FuncData
 AG:Addr
 Al:FuncData
 JE:Addr
 Js:FuncData
 Fo:Addr
 E4:FuncData
 Fu:Addr
 E8:FuncData
 pL:Addr
 pK:FuncData
 v5:Addr
 vQ:FuncData
 og:Addr
 oa:FuncData
 JG:Addr
 Ju:FuncData
 v3:Addr
 vP:FuncData
 yC:Addr
 yi:FuncData
 Mh:Addr
 L4:FuncData
 AI:Addr
 An:FuncData
 yE:Addr
 yk:FuncData
 Fv:Addr
 Fb:FuncData
 yF:Addr
 ym:FuncData
 Me:Addr
 LY:FuncData
 JD:Addr
 Jr:FuncData
 Mf:Addr
 LZ:FuncData
 PJ:Addr
 Pq:FuncData
 yD:Addr
 yj:FuncData
 AK:Addr
 Ap:FuncData
 mF:Addr
 mD:FuncData
 SM:Addr
 SJ:FuncData
 Fp:Addr
 E5:FuncData
 vZ:Addr
 vO:FuncData
 yB:Addr
 yh:FuncData
 Dp:Addr
 C9:FuncData
 sT:Addr
 sP:FuncData
 Fs:Addr
 E7:FuncData
 Fq:Addr
 E6:FuncData
 v8:Addr
 vR:FuncData
 Mg:Addr
 L0:FuncData
 vY:Addr
 vN:FuncData
 Md:Addr
 LX:FuncData
 AH:Addr
 Am:FuncData
 Fn:Addr
 E3:FuncData
 JC:Addr
 Jq:FuncData
 qC:Addr
 p6:FuncData
 wg:Addr
 vV:FuncData
 uX:Addr
 uR:FuncData
 AN:Addr
 As:FuncData
 AW:Addr
 AA:FuncData
 yK:Addr
 yt:FuncData
 uV:Addr
 uP:FuncData
 mK:Addr
 mJ:FuncData
 qB:Addr
 p0:FuncData
 yM:Addr
 yv:FuncData
 qD:Addr
 p7:FuncData
 uW:Addr
 uQ:FuncData
 oJ:Addr
 oH:FuncData
 AL:Addr
 Aq:FuncData
 AX:Addr
 AB:FuncData
 SK:Addr
 SI:FuncData
 a_NOUGHT:Addr
 a_ONE:Addr
 t_MOST_STATES:Tok
 t_MOST_PUTS:Tok
 t_MOST_LOOKS:Tok
 a_System:Addr
structure Txt (K:W.Frag) (mg:Str->Option Value) (Z:Ads):Prop where
 uK:Df K mg "_law_bag" wV ["_law_script"] Z.Dw Z.Di
 a9:Df K mg "_law_take" ug ["_law_bag_here","_law_many"] Z.AM Z.Ar
 eF:Df K mg "_law_low" wQ ["_law_top","_law_bottom"] Z.Dt Z.De
 gI:Df K mg "_law_sum" wN ["_law_one","_law_other"] Z.xo Z.xn
 kv:Df K mg "_law_plus" uo ["_law_one","_law_other"] Z.AR Z.Aw
 je:Df K mg "_law_prod" uj ["_law_one","_law_other"] Z.AQ Z.Av
 i8:Df K mg "_law_by" zI ["_law_factor","_law_row_here"] Z.Fx Z.Fd
 lO:Df K mg "_law_mixed" qX ["_law_bag_here","_law_move_here","_law_put","_law_look"] Z.yJ Z.yr
 rO:Df K mg "_law_line" uv ["_law_bag_here"] Z.AV Z.Az
 pF:Df K mg "_law_sizes" mO ["_law_bag_here"] Z.yH Z.yo
 nY:Df K mg "_law_number" oY ["_law_bag_here","_law_wide"] Z.we Z.vU
 ij:Df K mg "_law_row" wO ["_law_bag_here","_law_many","_law_wide"] Z.Ds Z.Dd
 rN:Df K mg "_law_move" uu ["_law_bag_here","_law_n","_law_way","_law_first","_law_wide"] Z.AU Z.Ay
 pG:Df K mg "_law_parts" qW ["_law_bag_here","_law_n","_law_ins","_law_outs","_law_wide"] Z.yI Z.yp
 pI:Df K mg "_law_drawn" rg ["_law_bag_here"] Z.yN Z.yw
 kq:Df K mg "want_list" tW ["thing","at","most"] Z.AF Z.Ak
 oF:Df K mg "is_whole" wM ["thing"] Z.Dq Z.Dc
 gH:Df K mg "common_divisor" kX ["one","other"] Z.qv Z.pZ
 rF:Df K mg "is_number" uc ["thing"] Z.AJ Z.Ao
 zS:Df K mg "is_row" Cm ["thing","many"] Z.JF Z.Jt
 iZ:Df K mg "copied_rows" oW ["things","wide"] Z.wa Z.vS
 kE:Binds K Z.kD ["self","move","put","look"] []
 oM:Mm K "__init__" "System.__init__" eN Z.kF Z.kD
 dg:Df K mg "_law_copied" o3 ["_law_grid"] Z.wo Z.vW
 nX:Df K mg "_law_system" oX ["_law_parts_here"] Z.wb Z.vT
 pC:Df K mg "_law_steps" qV ["_law_bag_here","_law_n","_law_wide"] Z.yG Z.yn
 rK:Df K mg "_law_puts" ui ["_law_bag_here","_law_parts_here","_law_wide"] Z.AO Z.Au
 jV:Df K mg "_law_dot" wU ["_law_one","_law_other"] Z.Dv Z.Dg
 rL:Df K mg "_law_on" zH ["_law_grid","_law_row_here"] Z.Fw Z.Fc
 rM:Df K mg "_law_next" uq ["_law_parts_here","_law_state","_law_puts_here"] Z.AS Z.Ax
 jx:Df K mg "_law_looks" qZ ["_law_parts_here","_law_start","_law_puts_here"] Z.yL Z.yu
 mB:Df K mg "_law_changed" nF ["_law_bag_here","_law_looks_here","_law_outs","_law_wide"] Z.uY Z.uS
 jP:Df K mg "common_multiple" kg ["wholes"] Z.oI Z.oG
 gZ:Df K mg "common_bottom" mo ["row"] Z.sU Z.sQ
 kr:Df K mg "tops_over" tX ["row","bottom"] Z.AG Z.Al
 lh:Df K mg "lowest" Ck ["top","bottom"] Z.JE Z.Js
 rC:Df K mg "row_dot" zB ["one","other"] Z.Fo Z.E4
 rG:Df K mg "grid_on" zF ["grid","row"] Z.Fu Z.E8
 uM:Nk K Z.a_System "seen" Z.pL
 vX:Binds K Z.pK ["self","state"] []
 wC:Mm K "seen" "System.seen" iE Z.pL Z.pK
 iY:Df K mg "grid_turned" oU ["grid","wide"] Z.v5 Z.vQ
 sO:Nk K Z.a_System "moved" Z.og
 uU:Binds K Z.oa ["self","state","puts"] []
 vh:Mm K "moved" "System.moved" gY Z.og Z.oa
 zT:Df K mg "course" Cn ["system","start","puts"] Z.JG Z.Ju
 nU:Df K mg "looks_along" oT ["system","start","puts"] Z.v3 Z.vP
 jv:Df K mg "nought_row" qR ["many"] Z.yC Z.yi
 xX:Df K mg "minus" F7 ["one","other"] Z.Mh Z.L4
 mS:Df K mg "row_minus" tZ ["one","other"] Z.AI Z.An
 pA:Df K mg "first_with" qT ["lines","begin","place"] Z.yE Z.yk
 xg:Df K mg "cleared" zG ["lines","at","place","before"] Z.Fv Z.Fb
 pB:Df K mg "brought_up" qU ["lines","at","to"] Z.yF Z.ym
 xW:Df K mg "swept" F4 ["rows","wide"] Z.Me Z.LY
 vo:Df K mg "solved" Cj ["rows","wide","due"] Z.JD Z.Jr
 CQ:Df K mg "solve" F5 ["rows","wide","due"] Z.Mf Z.LZ
 Br:Df K mg "flat" Kq ["lists"] Z.PJ Z.Pq
 lN:Df K mg "moved_rows" qS ["system","rows"] Z.yD Z.yj
 rH:Df K mg "additions" ue ["system","steps"] Z.AK Z.Ap
 lD:Nk K Z.a_System "turned" Z.mF
 mE:Binds K Z.mD ["self"] []
 sV:Mm K "turned" "System.turned" fY Z.mF Z.mD
 KI:Df K mg "cut" Oj ["row","many","wide"] Z.SM Z.SJ
 nQ:Df K mg "reduced" zC ["rows","wide"] Z.Fp Z.E5
 nR:Df K mg "reach_grown" oS ["system","steps"] Z.vZ Z.vO
 ph:Df K mg "reach_rows" qQ ["system","steps"] Z.yB Z.yh
 uJ:Df K mg "unit_row" wK ["many","at"] Z.Dp Z.C9
 lB:Df K mg "leading_place" mi ["row"] Z.sT Z.sP
 nV:Df K mg "leading" zE ["rows"] Z.Fs Z.E7
 xf:Df K mg "null_at" zD ["rows","wide","at"] Z.Fq Z.E6
 nW:Df K mg "free_places" oV ["rows","wide"] Z.v8 Z.vR
 CS:Df K mg "nulls" F6 ["rows","wide"] Z.Mg Z.L0
 nP:Df K mg "unseen_rows" oR ["system","steps"] Z.vY Z.vN
 CP:Df K mg "times" F3 ["one","other"] Z.Md Z.LX
 rB:Df K mg "row_times" tY ["by","row"] Z.AH Z.Am
 xc:Df K mg "without" zA ["state","rows"] Z.Fn Z.E3
 pX:Df K mg "starts" Ci ["system","puts","looks"] Z.JC Z.Jq
 ky:Df K mg "_law_is_number" kZ ["_law_thing"] Z.qC Z.p6
 kx:Df K mg "_law_is_row" oZ ["_law_thing","_law_many"] Z.wg Z.vV
 jF:Df K mg "_law_is_grid" nE ["_law_thing","_law_many","_law_wide"] Z.uX Z.uR
 rJ:Df K mg "_law_quot" uh ["_law_one","_law_other"] Z.AN Z.As
 rP:Df K mg "_law_less" uw ["_law_one","_law_other"] Z.AW Z.AA
 jw:Df K mg "_law_minus" qY ["_law_one","_law_other"] Z.yK Z.yt
 jE:Df K mg "_law_reduced" nk ["_law_rows","_law_wide"] Z.uV Z.uP
 i5:Df K mg "_law_unseen_right" jo ["_law_told_here","_law_rows","_law_n"] Z.mK Z.mJ
 iK:Df K mg "_law_look_rows" kY ["_law_parts_here","_law_steps_here"] Z.qB Z.p0
 pH:Df K mg "_law_leads" rd ["_law_rows"] Z.yM Z.yv
 kz:Df K mg "_law_any_right" k6 ["_law_parts_here","_law_told_here","_law_puts_here","_law_looks_here"] Z.qD Z.p7
 iC:Df K mg "_law_noughts" nv ["_law_many"] Z.uW Z.uQ
 jQ:Df K mg "_law_none_right" kh ["_law_parts_here","_law_told_here","_law_puts_here","_law_looks_here"] Z.oJ Z.oH
 ks:Df K mg "_law_told" uf ["_law_system_here","_law_parts_here","_law_puts_here","_law_looks_here"] Z.AL Z.Aq
 mT:Df K mg "_law_kept" ux ["_law_told_here"] Z.AX Z.AB
 SS:Mm K "law" "law" Oi Z.SK Z.SI
 abs:mg "abs"=none
 len:mg "len"=none
 range:mg "range"=none
 int:mg "int"=none
 min:mg "min"=none
 isinstance:mg "isinstance"=none
 list:mg "list"=none
 bool:mg "bool"=none
 tuple:mg "tuple"=none
 all:mg "all"=none
 enumerate:mg "enumerate"=none
 zip:mg "zip"=none
 sum:mg "sum"=none
 mg_NOUGHT:mg "NOUGHT"=some (.ref Z.a_NOUGHT)
 sq_NOUGHT:∀H,mL K H Z.a_NOUGHT [.int 0,.int 1]
 mg_ONE:mg "ONE"=some (.ref Z.a_ONE)
 sq_ONE:∀H,mL K H Z.a_ONE [.int 1,.int 1]
 mg_MOST_STATES:mg "MOST_STATES"=some (.int 8 Z.t_MOST_STATES)
 mg_MOST_PUTS:mg "MOST_PUTS"=some (.int 4 Z.t_MOST_PUTS)
 mg_MOST_LOOKS:mg "MOST_LOOKS"=some (.int 4 Z.t_MOST_LOOKS)
 mg_System:mg "System"=some (.ref Z.a_System)
 cl_System:Nu K Z.a_System
 na_move:kG K Z.a_System "move"
 na_states:kG K Z.a_System "states"
 na_put:kG K Z.a_System "put"
 na_ins:kG K Z.a_System "ins"
 na_look:kG K Z.a_System "look"
 na_outs:kG K Z.a_System "outs"
 mk_System:Mk K Z.a_System Z.kF
section
variable {P:Program} {w:World} {K:W.Frag} {mg:Str->Option Value} {base:Heap} {Z:Ads}
theorem IK:sC ["_law_script"] 1 wV:=by walk_at "d"
theorem Ja (T:Txt K mg Z) (ptree:P.given.tree=none):cD P w K mg base fA 1 Z.Dw Z.Di ["_law_script"] (Oc K):=by
 refine T.uK.F.k IK ?_;walk_at "i";obtain ⟨a,ns,rfl,hS,hlen,k⟩:=h;refine ⟨_,(ax (aK (eU (JX aj aj aj (cx ["_law_cell"] [] [] (cA (xP Bn bP F9 (xN aj))) (λ_=>(dX 0)) (λ_=>cG) (λ_=>(bo Dm (by rfl) T.abs PyProof.Rows.boot_abs (dc bP)))))))),?_⟩;walk_at "s";exists ⟨a,_,rfl,hS,λl hl=>?_⟩;have hcl:(tD (ns.map V.int) none (some 63)).length<=63:=ah (AE _ _ _) (by simpa using hlen);refine ⟨l,rfl,⟨_,bB.of aD⟩,?_⟩;refine eO (K:=K) (a:=l) (xs:=tD (ns.map V.int) none (some 63)) (λi ys H'=>H'=upd H l (.lst (tD (ns.map V.int) none (some 63)))/\∃cs:List Int,ys=cs.map V.int/\∀x∈cs,0<=x) (ah hcl (by decide)) ⟨rfl,[],rfl,λ_ z=>nomatch z⟩ (λi ys H' _ ⟨e,_⟩=>by subst e;exact bB.of aD) ?_ ?_
 ·rintro i x ys H' hx hi ⟨rfl,cs,rfl,hcs⟩
  obtain ⟨z,rfl⟩:∃z,x=V.int z:=by
   have hm:x∈ns.map V.int:=List.mem_of_mem_drop (b7 (ak hx));obtain ⟨z,_,e⟩:=aw.mp hm;exact ⟨z,e.symm⟩
  exists ⟨rfl,cs++[if z < 0 then -z else z],by simp,λx hx=>?_⟩;rcases av.mp hx with hx | hx
  ·exact hcs x hx
  ·have e:x=if z < 0 then -z else z:=by simpa using hx
   subst e
   split <;> lia
 ·rintro ys H' hy ⟨rfl,cs,rfl,hcs⟩ p hp;exists ⟨by show 4<=sizeLine;decide,λb hb=>?_⟩;have n1:b≠p:=λz=>by rw[z,aD] at hb;cases hb
  have hb1:(upd H l (.lst (tD (ns.map V.int) none (some 63)))) b=none:=by rw[bc n1] at hb;exact hb
  have s1:aB H (upd H l (.lst (tD (ns.map V.int) none (some 63)))):=aB.new hl;refine k b _ (s1.free hb1) ⟨p,0,1234567891,0,cs,aD,by rw[bc n1.symm];exact aD,by decide,by decide,by lia,hcs⟩ ((s1.trans (aB.new hp)).trans (aB.new hb))
theorem ff:sC ["_law_bag_here","_law_many","_law_more","_law_cell","_law_value","_law_first","_law_second"] 2 ug:=by walk_at "d"
theorem fg (T:Txt K mg Z) (ptree:P.given.tree=none):cD P w K mg base fA 1 Z.AM Z.Ar ["_law_bag_here","_law_many"] Qs:=by
 refine T.a9.F.k ff ?_;walk_at "i";obtain ⟨p,n,rfl,⟨q,a,b,c,cs,hp,hq,ha,hc,hcl,hcs⟩,hn,hn2,k⟩:=h;have nqp:q≠p:=Nh hp hq
 refine ⟨_,(jc (cV (aV fo (aL bE bP aj) aj (be _)) (ao (eK 2 ff.nd aj)
  (jc (cV (aV sJ (aL bE bP aj) (bo aM (by rfl) T.len aJ (dc (aL bE bP aj))) (be _)) (ao (eK 3 ff.nd (aL bE (aL bE bP aj) (aL bE bP aj)))
  (ao (Q4 bP aj O9 aj Ui set_list)
  (ao (cV (aV EJ iu aj (be _)) (ax (fG iu (iG bP aj set_list))) bK)
  (ax (eK 2 ff.nd (bF fI (bF o7 iu aj) aj)))))) bK)
  (ax (fG (bF o7 (bF fI (bF cN (aL bE bP aj) aj) dS) aj) (iG bP aj set_list))))) bK)
  (ao (cV (aV pT (aL bE bP aj) aj (be _)) (ao (eK 4 ff.nd (bF o7 (aL bE bP aj) cL))
  (ao (fG (bF (kj rfl ff rfl rfl rfl ptree (ye hr)) (aL bE bP aj) cL) (iG bP aj set_list))
  (ax (aK m5)))) bK)
  (ao (eK 5 ff.nd (bF o7 (bF cN (aL bE bP aj) aj) aj))
  (ao (eK 6 ff.nd (bF o7 (bF cN wW aj) aj))
  (ao (cV (aV pT cL aj (be _)) (ax (aK (bF o7 (bF fI (bF cN nG aj) wW) cL))) bK)
  (ax (aK (bF o7 (bF (kj rfl ff rfl rfl rfl ptree (ye hr)) nG aj) cL)))))))),?_⟩
 walk_at "s";refine ⟨λσ' H'=>∃(x y:Option V) (a' b' c':Int),σ'=[some (.ref p),some (.int n),x,y,none,none,none]/\H' p=some (.lst [.int a',.int b',.int c',.ref q])/\0<=a'/\0<=c'/\c'<=cs.length/\df p H H',?_,?_⟩
 ·exists iD (λh0=>?_) (λh0=>?_)
  ·exists ⟨λσ' H'=>∃(m:Int) (y:Option V) (a' c':Int),σ'=[some (.ref p),some (.int n),some (.int m),y,none,none,none]/\H' p=some (.lst [.int a',.int b,.int c',.ref q])/\0<=a'/\0<=c'/\c'<=cs.length/\df p H H',?_,?_⟩
   ·exists ⟨_,_,rfl,.inl (bB.of hq),?_⟩;exists iD (λh1=>?_) (λh1=>?_)
    ·have h1':c < cs.length:=by simpa using of_decide_eq_true h1
     obtain ⟨z,hz⟩:∃z,cs[c.toNat]?=some z:=⟨_,ae (by lia)⟩;have hz0:0<=z:=hcs z (ak hz);exists bX (bB.of hq) (v:=.int z) ?_ ?_
     ·have:=dD (xs:=cs.map V.int) (j:=c.toNat) (v:=.int z) (by rw[aA,hz];rfl);rwa [Int.toNat_of_nonneg hc] at this
     exists iD (λh2=>?_) (λh2=>?_)
     ·exists ⟨_,_,z,c+1,rfl,aD,hz0,by lia,by lia,(df.set hp).trans (df.set aD)⟩
     ·exists ⟨_,_,a,c+1,rfl,aD,ha,by lia,by lia,df.set hp⟩
    ·exists ⟨_,_,a,c,rfl,hp,ha,hc,hcl,df.refl _⟩
   ·rintro σ' H' ⟨m,y,a',c',rfl,hp',ha',hc',hcl',u'⟩;exists ⟨_,_,a',_,c',rfl,aD,ha',hc',hcl',u'.trans (df.set hp')⟩
  ·exists ⟨_,_,a,b,c,rfl,hp,ha,hc,hcl,df.refl _⟩
 ·rintro σ' H' ⟨x,y,a',b',c',rfl,hp',ha',hc',hcl',u'⟩;have hq':H' q=some (.lst (cs.map V.int)):=u'.1 q _ hq nqp
  have sn:Sz 449950 n:=by
   show n.natAbs < 2^449950
   exact bD (show n.natAbs < 2^64 by lia) (au (by decide) (by decide))
  exists iD (λh0=>?_) (λh0=>?_)
  ·exists fv (show (0:Int) < n from hn) ?_;exists fv (show sX _ _ from ⟨by lia,sn⟩) ?_;exists k _ _ (mY _ (by lia)) (jK _ hn) ⟨q,_,b',c',cs,aD,by rw[bc nqp];exact hq',?_,hc',hcl',hcs⟩ (u'.trans (df.set hp'));rw[cQ _ (by lia)];exact Int.ediv_nonneg ha' (by lia)
  ·exists iD (λh1=>?_) (λh1=>?_)
   ·exists fv (show (0:Int) < n from hn) ?_;exact k _ _ (mY _ (by lia)) (jK _ hn) ⟨q,a',b',c',cs,hp',hq',ha',hc',hcl',hcs⟩ u'
   ·exists fv (show sX _ _ from ⟨by decide,by show (3:Nat) < 2^449950;exact bD (show 3 < 2^2 by decide) (au (by decide) (by decide))⟩) ?_;exists fv (show (0:Int) < n from hn) ?_;exact k _ _ (mY _ (by lia)) (jK _ hn) ⟨q,a',b',c',cs,hp',hq',ha',hc',hcl',hcs⟩ u'
theorem jT:sC ["_law_top","_law_bottom","_law_one","_law_other"] 2 wQ:=by walk_at "d"
theorem iW (T:Txt K mg Z) (ptree:P.given.tree=none):cD P w K mg base fA 1 Z.Dt Z.De ["_law_top","_law_bottom"] Tb:=by
 refine T.eF.F.k jT ?_;walk_at "i";obtain ⟨t,b,rfl,hb,hs,k⟩:=h
 refine ⟨_,(ao (eK 2 jT.nd (bo Dm (by rfl) T.abs PyProof.Rows.boot_abs (dc bP)))
  (ao (eK 3 jT.nd cL)
  (ao (Cs PassesOwn.never (aV vJ dS aj (be _))
   (ax (OB (i:=2) (j:=3) rfl jT.nd rfl rfl (by decide) rfl rfl (cR (bF o7 iu dS) dS) rfl)))
  (ax (aK (dm (cR (bF (kj rfl jT rfl rfl rfl ptree (ye hr)) bP iu) (bF (kj rfl jT rfl rfl rfl ptree (ye hr)) cL iu)))))))),?_⟩
 walk_at "s";walk_at "w"
 refine FH (λσ' H'=>∃(u v:Int),σ'=[some (.int t),some (.int b),some (.int u),some (.int v)]/\H'=H/\0<=u/\0 < v/\Int.gcd u v=Int.gcd t b) (λσ' _=>match σ' with | [_,_,some (.int u),_]=>u.natAbs | _=>0) ⟨_,b,rfl,rfl,by split <;> lia,hb,by
  split
  ·rw[Int.neg_gcd]
  ·rfl⟩ ?_
 rintro σ' H' ⟨u,v,rfl,rfl,hu,hv,hg⟩;exists iD (λh=>?_) (λh=>?_)
 ·have hu0:u≠0:=λz=>by subst z;simp at h
  exists fv (show (0:Int) < u by lia) ?_;walk_at "w";have h1:=mY v hu0;have h2:=jK v (show 0 < u by lia);exact ⟨⟨v % u,u,rfl,rfl,h1,by lia,by rw[lX,Pc,lX];exact hg⟩,by show (v % u).natAbs < u.natAbs;lia⟩
 ·have hu0:u=0:=by
   by_cases z:u=0
   ·exact z
   ·exfalso;apply h;simp [z]
  subst hu0
  have e:v=g t b:=by
   unfold g;rw[<- hg,Int.gcd_zero_left]
   lia
  have hgs:Sz 449950 v:=hs.le (by
   rw[e];have h1:(g t b).natAbs=Int.gcd t b:=by unfold g;simp
   rw[h1];exact iT (by lia) (by have:=gM (a:=t) (b:=b);exact fu.mpr this |> λz=>by simpa using z))
  exists fv (show sX _ _ from ⟨by lia,hgs⟩) ?_;exists fv (show sX _ _ from ⟨by lia,hgs⟩) ?_;exists cz λr H' s' h'=>?_
  rw[cQ _ (by lia),cQ _ (by lia),e] at h';exact k r H' s' h'
theorem Ai:sC ["_law_one","_law_other"] 2 wN:=by walk_at "d"
theorem oA (T:Txt K mg Z) (ptree:P.given.tree=none):cD P w K mg base fA 2 Z.xo Z.xn ["_law_one","_law_other"] (oP K (λx y=>x+y)):=by
 have dG:=iW (P:=P) (w:=w) (base:=base) T ptree;refine T.gI.F.ok Ai (λvs H Q E h=>?_) (λcdv A outer s H vs Q E hr h=>?_)
 ·obtain ⟨p,q,a,b,c,d,rfl,hp,hq,hb,hd,sa,sb,sc,sd,k⟩:=L8 h;rfl
 ·obtain ⟨p,q,a,b,c,d,rfl,hp,hq,hb,hd,sa,sb,sc,sd,k⟩:=L8 h;refine ⟨_,(ax (aK (cE dG hr T.eF (cR (bF fI (bF cN (aL bu bP aj) (aL bu cL aj)) (bF cN (aL bu cL aj) (aL bu bP aj))) (bF cN (aL bu bP aj) (aL bu cL aj)))))),?_⟩;refine lY (σ:=[some (.ref p),some (.ref q)]) rfl ?_;have hbd:0 < b*d:=fV hb hd;have sbd:Sz 449950 (b*d):=(sb.mul sd).mono (by decide);exists fv (show fM _ _ from .inr ⟨_,_,sa,sd,by decide⟩) ?_;exists fv (show fM _ _ from .inr ⟨_,_,sc,sb,by decide⟩) ?_;exists fv (show fM _ _ from .inr ⟨_,_,sb,sd,by decide⟩) ?_;walk_at "w";exists ⟨_,_,rfl,hbd,sbd,k⟩
theorem FZ:sC ["_law_one","_law_other"] 2 uo:=by walk_at "d"
theorem rn (T:Txt K mg Z) (ptree:P.given.tree=none):cD P w K mg base fA 3 Z.AR Z.Aw ["_law_one","_law_other"] (Iq K):=by
 have ja:=oA (P:=P) (w:=w) (base:=base) T ptree;refine T.kv.F.k FZ ?_;walk_at "i";obtain ⟨p,q,xs,ys,rfl,hp,hq,hl,hz,h1,h2,kk⟩:=h;refine ⟨_,(ax (aK (cx ["_law_k"] ["_law_one","_law_other"] [0,1] (cp rfl T.range (dc (bo aM (by rfl) T.len aJ (dc bP)))) (λ_=>(dX 0)) (λ_=>cG) (λ_=>(cE ja hr T.gI (cR (aL (hJ K (by rfl)) cL bP) (aL (hJ K (by rfl)) dS bP))))))),?_⟩;walk_at "s";obtain ⟨us,gu,qu⟩:=id hp;obtain ⟨ws,gw,qw⟩:=id hq;have lu:=qu.length;exists ⟨_,_,rfl,.inl (bB.of gu),?_⟩;exists ⟨by lia,by lia,?_⟩;refine hZ (n:=us.length) (cv K) (λi=>xs.getD i 0+ys.getD i 0) (by lia) (λa b=>a.same b) ?_ ?_
 ·rintro i H' NY NN hi s k1;have ix:i < xs.length:=by lia
  have iy:i < ys.length:=by lia
  obtain ⟨vx,ex,nx⟩:=DH (Paired.imp' (λ_ _ z=>z.same s) qu) ix;obtain ⟨vy,ey,ny⟩:=DH (Paired.imp' (λ_ _ z=>z.same s) qw) iy;exists bX (bB.of (s _ _ gu)) ex ?_;exists bX (bB.of (s _ _ gw)) ey ?_;exists ⟨_,_,_,_,rfl,nx,ny,h1 _ (getD_mem ix),h2 _ (getD_mem iy),λr3 H3 s3 n3=>k1 _ _ s3 n3⟩
 ·rintro ys' H' l hl' s g pr nx;exact kk l H' hl' s ⟨ys',g,by rw[Ej (by lia)];rw[<- lu] at pr;exact pr⟩
theorem FY:sC ["_law_one","_law_other"] 2 uj:=by walk_at "d"
theorem rk (T:Txt K mg Z) (ptree:P.given.tree=none):cD P w K mg base fA 2 Z.AQ Z.Av ["_law_one","_law_other"] (oP K (λx y=>x*y)):=by
 have dG:=iW (P:=P) (w:=w) (base:=base) T ptree;refine T.je.F.ok FY (λvs H Q E h=>?_) (λcdv A outer s H vs Q E hr h=>?_)
 ·obtain ⟨p,q,a,b,c,d,rfl,hp,hq,hb,hd,sa,sb,sc,sd,k⟩:=Bq h;rfl
 ·obtain ⟨p,q,a,b,c,d,rfl,hp,hq,hb,hd,sa,sb,sc,sd,k⟩:=Bq h;refine ⟨_,(ax (aK (cE dG hr T.eF (cR (bF cN (aL bu bP aj) (aL bu cL aj)) (bF cN (aL bu bP aj) (aL bu cL aj)))))),?_⟩;refine lY (σ:=[some (.ref p),some (.ref q)]) rfl ?_;have hbd:0 < b*d:=fV hb hd;have sbd:Sz 449950 (b*d):=(sb.mul sd).mono (by decide);exists fv (show fM _ _ from .inr ⟨_,_,sa,sc,by decide⟩) ?_;exists fv (show fM _ _ from .inr ⟨_,_,sb,sd,by decide⟩) ?_;walk_at "w";exists ⟨_,_,rfl,hbd,sbd,k⟩
theorem Kp:sC ["_law_factor","_law_row_here"] 2 zI:=by walk_at "d"
theorem rz (T:Txt K mg Z) (ptree:P.given.tree=none):cD P w K mg base fA 3 Z.Fx Z.Fd ["_law_factor","_law_row_here"] (Ki K):=by
 have jZ:=rk (P:=P) (w:=w) (base:=base) T ptree;refine T.i8.F.k Kp ?_;walk_at "i";obtain ⟨u,q,c,ys,rfl,hc,sc,hq,hz,h2,kk⟩:=h;refine ⟨_,(ax (aK (cx ["_law_one"] ["_law_factor"] [0] (cA cL) (λ_=>(dX 0)) (λ_=>cG) (λ_=>(cE jZ hr T.je (cR cL bP)))))),?_⟩;walk_at "s";obtain ⟨us,gu,qu⟩:=id hq;exists ⟨⟨_,bB.of gu⟩,?_⟩;refine d4 (K:=K) (F:=cv K) (cv K) (λy=>c*y) gu qu hz (λa b=>a.same b) (λa b=>a.same b) ?_ ?_
 ·rintro i y x H' NY NN en s hx k;exists ⟨_,_,_,_,rfl,hc.same s,hx,sc,h2 y (ak en),λr H2 s2 h2'=>k _ _ s2 h2'⟩
 ·rintro ys' H' r hr s g pr nx;exact kk r H' hr s ⟨ys',g,pr⟩
theorem eE:sC ["_law_bag_here","_law_move_here","_law_put","_law_look","_law_n","_law_turn","_law_i","_law_j","_law_by_here","_law_less_here","_law_row_here"] 4 qX:=by walk_at "d"
theorem vL (T:Txt K mg Z) (ptree:P.given.tree=none):cD P w K mg base fA 4 Z.yJ Z.yr ["_law_bag_here","_law_move_here","_law_put","_law_look"] (Ez K):=by
 have aX:=fg (P:=P) (w:=w) (base:=base) T ptree;have ma:=rn (P:=P) (w:=w) (base:=base) T ptree;have jh:=rz (P:=P) (w:=w) (base:=base) T ptree;have ja:=oA (P:=P) (w:=w) (base:=base) T ptree;have jZ:=rk (P:=P) (w:=w) (base:=base) T ptree;refine T.lO.F.k eE ?_;walk_at "i";obtain ⟨b,m,p,l,q0,n,WV,μ,A,us,ws,vs,rfl,MA,X,n8,i4,o4,M0,M1,⟨M,eM⟩,V1,hA,k⟩:=h
 refine ⟨_,(ao (eK 4 eE.nd (bo aM (by rfl) T.len aJ (dc cL)))
  (ao (cV (PW.pt (kR (aV sJ m5 aj (be _)) (jq (aV fo (cE aX hr T.a9 (cR bP aj)) aj (be _))))) (ax (aK (dm (tG cL dS iu)))) bK)
  (ao (dw PassesOwn.never rfl (cp rfl T.range (dc (bF fI aj (cE aX hr T.a9 (cR bP aj))))) (dX 5 eE.nd)
   (ao (eK 6 eE.nd (cE aX hr T.a9 (cR bP m5)))
  (ao (eK 7 eE.nd (bF o7 (bF fI (bF fI nG aj) (cE aX hr T.a9 (cR bP (bF nL m5 aj)))) m5))
  (ao (eK 8 eE.nd (dm (cR (aL bE (eU (JX aj (xO qJ aj) aj (xO qJ aj))) (cE aX hr T.a9 (cR bP aj))) aj)))
  (ao (eK 9 eE.nd (dm (cR (bF nL aj (aL bu IT aj)) aj)))
  (ao (fG (cE ma hr T.kv (cR (aL bE cL nG) (cE jh hr T.i8 (cR IT (aL bE cL zK))))) (iG cL nG set_list))
  (ao (dw PassesOwn.never rfl (cA (bF uF cL iu)) (dX 10 eE.nd)
   (ax (fG (cE ja hr T.gI (cR (aL bE (pv 10) zK) (cE jZ hr T.je (cR Q3 (aL bE (pv 10) nG))))) (iG (pv 10) zK set_list))))
  (ax (dw PassesOwn.never rfl (cA dS) (dX 10 eE.nd)
   (ax (fG (cE ja hr T.gI (cR (aL bE (pv 10) nG) (cE jZ hr T.je (cR IT (aL bE (pv 10) zK))))) (iG (pv 10) nG set_list))))))))))))
  (ax (aK (dm (tG cL dS iu))))))),?_⟩
 walk_at "s";have done:∀r us' H' t,t<=3->H' r=some (.tup [.ref m,.ref p,.ref l])->kH K A H' n (λx=>Fr (μ x) (9^t*WV)) m p l b q0 us' ws vs->jk A b m H H'->Q (.ref r) H':=λr us' H' t ht g x kp=>k r us' H' g (x.weak λ_ _ y h=>h.mono (ay _ (au (by decide) ht))) kp
 have X0:kH K A H n (λx=>Fr (μ x) (9^0*WV)) m p l b q0 us ws vs:=X.weak λ_ _ y h=>h.mono (by simp)
 clear X k;have gu:=X0.gm;have lu:=X0.lm;exists ⟨_,_,rfl,.inl (bB.of gu),?_⟩;rw[lu];clear gu lu;have kp0:jk A b m H H:=λ_ _ h _ _ _=>h
 exists iD (λh0=>?_) (λh0=>?_)
 ·exists cz λr H' s' g'=>?_
  exact done r us H' 0 (by decide) g' (X0.same s') (kp0.same s')
 have n2:2<=n:=by
  rcases b8 n 2 with z | z
  ·exact absurd (decide_eq_true (show (n:Int) < 2 by lia)) h0
  ·exact z
 exists ⟨b,2,rfl,X0.bag,by decide,by decide,λv H1 v0 v1 B1 u1=>?_⟩;have X1:=X0.upto MA u1 B1;have kp1:=kp0.upto u1;exists iD (λh1=>?_) (λh1=>?_)
 ·exists cz λr H' s' g'=>?_
  exact done r us H' 0 (by decide) g' (X1.same s') (kp1.same s')
 exists ⟨b,3,rfl,B1,by decide,by decide,λc H2 c0 c1 B2 u2=>?_⟩;have X2:=X1.upto MA u2 B2;have kp2:=kp1.upto u2;clear X0 X1 kp0 kp1 u1 u2 B1;exists ⟨by lia,by lia,?_⟩;refine dZ (n:=(1+c).toNat) (λt σ' H'=>∃(x1 x2 x3 x4 x5 x6:Option V) (us:List V),σ'=[some (.ref b),some (.ref m),some (.ref p),some (.ref l),some (.int n),x1,x2,x3,x4,x5,x6]/\kH K A H' n (λx=>Fr (μ x) (9^t*WV)) m p l b q0 us ws vs/\jk A b m H H') ⟨none,none,none,none,none,none,us,rfl,X2,kp2⟩ ?_ ?_
 ·rintro t σ' H' ht ⟨x1,x2,x3,x4,x5,x6,us,rfl,X,kp⟩;have t3:t<=2:=by lia
  exists ⟨b,n,rfl,X.bag,by lia,by lia,λii Ha i0 i1 Ba ua=>?_⟩;obtain ⟨ii,rfl⟩:=bT i0;have Xa:=X.upto MA ua Ba;have kpa:=kp.upto ua;exists ⟨b,_,rfl,Ba,by lia,by lia,λd Hb d0 d1 Bb ub=>?_⟩;have Xb:=Xa.upto MA ub Bb;have kpb:=kpa.upto ub;exists fv (show (0:Int) < n by lia) ?_;have j0:=mY ((ii:Int)+1+d) (show (n:Int)≠0 by lia);have j1:=jK ((ii:Int)+1+d) (show (0:Int) < n by lia);generalize ((ii:Int)+1+d) % (n:Int)=jj at j0 j1 ⊢;obtain ⟨jj,rfl⟩:=bT j0;exists dJ λl0 Hc sc nc gc=>?_
  exists ⟨b,4,rfl,Bb.same sc,by decide,by decide,λv' Hd v0' v1' Bd ud=>?_⟩;have gd:=ud.other (λz=>Bb.at (by rw[<- z];exact nc)) gc;obtain ⟨x,ex,mx,_⟩:=qj (xs:=[V.int 1,V.int (-1),V.int 2,V.int (-2)]) v0' (by simpa using v1')
  obtain ⟨z,rfl,hz⟩:∃z:Int,x=.int z/\z.natAbs<=2:=by
   simp only[aH,bw,or_false] at mx;rcases mx with rfl | rfl | rfl | rfl
   ·exact ⟨1,rfl,by decide⟩
   ·exact ⟨-1,rfl,by decide⟩
   ·exact ⟨2,rfl,by decide⟩
   ·exact ⟨-2,rfl,by decide⟩
  have Xd:=(Xb.same sc).upto MA ud Bd;have kpd:=(kpb.same sc).upto ud;exists bX (bB.of gd) ex ?_;exists cz λbt He se ge=>?_
  exists cz λlt Hf sf gf=>?_
  have Xf:=(Xd.same se).same sf;have kpf:=(kpd.same se).same sf;have nb:cv K Hf ((z:Int):Rat) (.ref bt):=cv.mk (sf _ _ ge) rfl;have nl:cv K Hf ((0 - z:Int):Rat) (.ref lt):=cv.mk gf rfl;clear X Xa Xb Xd kp kpa kpb kpd ua ub ud sc gc gd ex mx ge gf se sf Ba Bb Bd nc;have gu:=Xf.gm;have lu:=Xf.lm
  have ru:∀x∈us,ig K A Hf n (Fr M (9^t*WV)) x:=λx hx=>by
   have:=Xf.row x (by simp [hx]);rwa [eM x (Xf.apart.1 x hx).1 (Xf.apart.1 x hx).2] at this
  have hM:0 < M/\M<=2^800:=by
   have hx:us[ii]'(by lia)∈us:=aI _;have:=eM _ (Xf.apart.1 _ hx).1 (Xf.apart.1 _ hx).2;rw[<- this];exact ⟨M0 _,M1 _⟩
  have e1:us[ii]?=some (us[ii]'(by lia)):=by simp
  have e2:us[jj]?=some (us[jj]'(by lia)):=by simp
  obtain ⟨q1,z1,qs1,w1,a1,g1,k1,p1,l1,c1⟩:=(ru _ (ak e1)).at;obtain ⟨q2,z2,qs2,w2,a2,g2,k2,p2,l2,c2⟩:=(ru _ (ak e2)).at;rw[w1] at e1;rw[w2] at e2;generalize eW:9^t*WV=W at *
  have W9:9*W<=2^140:=by rw[<- eW];exact Q5 (by lia) V1 (by decide)
  have sz9M:∀{x:Rat} {U:Nat},U<=9*W->Fr M U x->kN x:=λhU h=>LP hM.1 hM.2 (ah hU W9) h
  have sz9:∀{x:Rat} {U:Nat} {v:V},U<=9*W->Fr (μ v) U x->kN x:=λhU h=>LP (M0 _) (M1 _) (ah hU W9) h
  exists bX (bB.of gu) (dD e1) ?_;exists bX (bB.of gu) (dD e2) ?_;exists ⟨_,q2,_,qs2,rfl,nb,FL (by lia),⟨z2,g2,p2⟩,by lia,λy hy=>sz9M (by lia) (c2 y hy),λr1 Hg n1 sg R1=>?_⟩;exists ⟨q1,r1,qs1,_,rfl,⟨z1,sg _ _ g1,Paired.imp' (λ_ _ y=>y.same sg) p1⟩,R1,by rw[ag,l1,l2],by lia,λy hy=>sz9M (by lia) (c1 y hy),λy hy=>?_,λr2 Hh n2' sh R2=>?_⟩
  ·obtain ⟨y',hy',rfl⟩:=aw.mp hy;exact BG hz (c2 y' hy') hM.1 hM.2 (by lia)
  have sfh:=sg.trans sh
  have new:V.ref r2∉us++vs++ws:=λz=>by
   obtain ⟨q',_,_,e',_,g',_⟩:=((Xf.same sg).row _ z).at;cases e';rw[n2'] at g';cases g'
  have Xh:=(Xf.same sfh).weak (C':=λx y=>(x∈ws->Fr (μ x) W y)/\Fr (μ x) (3*W) y) λx _ y h=>⟨λ_=>h,h.mono (by lia)⟩
  have kph:=kpf.same sfh;have guh:=sfh _ _ gu;have ar2:A r2:=(kpf.same sg).new hA (Xf.same sg).bag (by rw[sg _ _ gu];simp) n2'
  have rp2:ig K A Hh n (λy=>(V.ref r2∈ws->Fr (μ (.ref r2)) W y)/\Fr (μ (.ref r2)) (3*W) y) (.ref r2):=by
   rw[eM (.ref r2) (λz=>new (av.mpr (.inr z))) (λz=>new (av.mpr (.inl (av.mpr (.inr z)))))];refine ⟨r2,_,rfl,ar2,R2,by rw[aY,ag];lia,λy hy=>⟨λz=>absurd (av.mpr (.inr z)) new,?_⟩⟩;obtain ⟨j',hj',e⟩:=bO hy;rw[eh,cC] at e;rw[<- e];exact G7 hz (c1 _ (aI _)) (c2 _ (aI _))
  exists fN guh (gK (by lia)) rfl ?_;have Xi:=Xh.set MA rp2 new ii;have kpi:=kph.upd (o:=.lst (us.set ii (.ref r2))) (q:=m) (.inr rfl);have nli:cv K (upd Hh m (.lst (us.set ii (.ref r2)))) ((0 - z:Int):Rat) (.ref lt):=(nl.same sfh).updL guh;have nbi:cv K (upd Hh m (.lst (us.set ii (.ref r2)))) ((z:Int):Rat) (.ref bt):=(nb.same sfh).updL guh;generalize upd Hh m (.lst (us.set ii (.ref r2)))=Hi at Xi kpi nli nbi ⊢;generalize us.set ii (.ref r2)=um at Xi;clear nb nl Xf kpf gu ru e1 e2 g1 p1 g2 p2 R1 R2 Xh kph guh rp2 sg sh sfh new;have gm:=Xi.gm;have lm:=Xi.lm;have gl:=Xi.gl;have nd:=Xi.nd;obtain ⟨nd1,nd2,nd3⟩:=dA.mp nd;exists uA gm gl lE λcl Hj sj nj gj=>?_
  have kpj:=kpi.same sj
  have rows:∀x∈um++vs,∀q,x=V.ref q->q≠cl:=λx hx q e y=>by
   obtain ⟨q',zs,_,e',_,g',_⟩:=(Xi.row x (av.mpr (.inl hx))).at;rw[e] at e';cases e';rw[y,nj] at g';cases g'
  have Xj:=(Xi.same sj).weak (C':=λx y=>(x∈ws->Fr (μ x) W y)/\(x∈(um++vs).drop 0->Fr (μ x) (3*W) y)/\Fr (μ x) (9*W) y) λx _ y h=>⟨h.1,λ_=>h.2,h.2.mono (by lia)⟩
  have lj:cv K Hj ((0 - z:Int):Rat) (.ref lt):=nli.same sj;have bj:cv K Hj ((z:Int):Rat) (.ref bt):=nbi.same sj;clear Xi kpi nli nbi;refine ⟨_,rfl,⟨_,bB.of gj⟩,?_⟩;refine gL (K:=K) (a:=cl) (xs:=um++vs) (λs σ' H'=>∃x6:Option V,σ'=[some (.ref b),some (.ref m),some (.ref p),some (.ref l),some (.int n),some (.int t),some (.int ii),some (.int jj),some (.ref bt),some (.ref lt),x6]/\kH K A H' n (λx y=>(x∈ws->Fr (μ x) W y)/\(x∈(um++vs).drop s->Fr (μ x) (3*W) y)/\Fr (μ x) (9*W) y) m p l b q0 um ws vs/\jk A b m H H'/\H' cl=some (.lst (um++vs))/\cv K H' ((0 - z:Int):Rat) (.ref lt)/\cv K H' ((z:Int):Rat) (.ref bt)) ⟨_,rfl,Xj,kpj,gj,lj,bj⟩ (λs σ' H' _ ⟨_,_,_,_,e,_⟩=>bB.of e) ?_ ?_
  ·rintro s x σ' Hk hx ⟨y6,rfl,Xk,kpk,gk,lk,bk⟩;have hs:s < (um++vs).length:=(az.mp hx).1;have mx:=ak hx
   have xd:x∈(um++vs).drop s:=by
    rw[fh hs,(az.mp hx).2];exact .head _
   have xd2:x∉(um++vs).drop (s+1):=λz=>by
    have:=nd1.sublist (List.drop_sublist s _);rw[fh hs,fb,(az.mp hx).2] at this;exact this.1 z
   have xw:x∉ws:=λz=>nd3 x mx x z rfl
   have rx:=Xk.row x (av.mpr (.inl mx));obtain ⟨q,zs,qs,rfl,aq,gq,lq,pq,lq2,cq⟩:=rx.at;have qcl:=rows _ mx q rfl;obtain ⟨vj,ej,nj'⟩:=DH pq (j:=jj) (by lia);obtain ⟨vi,ei,ni'⟩:=DH pq (j:=ii) (by lia);have cj:=(cq _ (getD_mem (xs:=qs) (i:=jj) (by lia))).2.1 xd;have ci:=(cq _ (getD_mem (xs:=qs) (i:=ii) (by lia))).2.1 xd;exists bX (bB.of gq) ej ?_;exists bX (bB.of gq) ei ?_;exists ⟨_,_,_,_,rfl,lk,ni',FL (by lia),sz9 (by lia) ci,λr3 Hl sl n3=>?_⟩;exists ⟨_,_,_,_,rfl,nj'.same sl,n3,sz9 (by lia) cj,BG (by lia) ci (M0 _) (M1 _) (by lia),λr4 Hm sm n4=>?_⟩;have slm:=sl.trans sm;exists fN (slm _ _ gq) (gK (by lia)) rfl ?_;refine ⟨_,rfl,?_,(kpk.same slm).upd (.inl aq),by rw[bc qcl.symm];exact slm _ _ gk,(lk.same slm).updL (slm _ _ gq),(bk.same slm).updL (slm _ _ gq)⟩;refine ((Xk.same slm).weak λx' _ y h=>⟨h.1,λz=>h.2.1 ?_,h.2.2⟩).put MA aq (slm _ _ gq) n4 ⟨λz=>absurd z xw,λz=>absurd z xd2,?_⟩ jj
   ·rw[fh hs];exact .tail _ z
   ·exact (G7 (by lia) cj ci).mono (by lia)
  ·rintro σ' Hk ⟨y6,rfl,Xk,kpk,gk,lk,bk⟩;have gp:=Xk.gp;have Xk2:=Xk.weak (C':=λx y=>(x∈ws.drop 0->Fr (μ x) W y)/\Fr (μ x) (9*W) y) λx _ y h=>⟨λz=>h.1 (by simpa using z),h.2.2⟩
   clear Xk;exists ⟨⟨_,bB.of gp⟩,?_⟩;refine gL (K:=K) (a:=p) (xs:=ws) (λs σ' H'=>∃x6:Option V,σ'=[some (.ref b),some (.ref m),some (.ref p),some (.ref l),some (.int n),some (.int t),some (.int ii),some (.int jj),some (.ref bt),some (.ref lt),x6]/\kH K A H' n (λx y=>(x∈ws.drop s->Fr (μ x) W y)/\Fr (μ x) (9*W) y) m p l b q0 um ws vs/\jk A b m H H'/\cv K H' ((z:Int):Rat) (.ref bt)) ⟨_,rfl,Xk2,kpk,bk⟩ (λs σ' H' _ ⟨_,_,X,_⟩=>bB.of X.gp) ?_ ?_
   ·rintro s x σ' Hl hx ⟨w6,rfl,Xl,kpl,bl⟩;have hs:s < ws.length:=(az.mp hx).1;have mx:=ak hx
    have xd:x∈ws.drop s:=by
     rw[fh hs,(az.mp hx).2];exact .head _
    have xd2:x∉ws.drop (s+1):=λz=>by
     have:=nd2.sublist (List.drop_sublist s _);rw[fh hs,fb,(az.mp hx).2] at this;exact this.1 z
    have rx:=Xl.row x (av.mpr (.inr mx));obtain ⟨q,zs,qs,rfl,aq,gq,lq,pq,lq2,cq⟩:=rx.at;obtain ⟨vj,ej,nj'⟩:=DH pq (j:=jj) (by lia);obtain ⟨vi,ei,ni'⟩:=DH pq (j:=ii) (by lia);have cj:=(cq _ (getD_mem (xs:=qs) (i:=jj) (by lia))).1 xd;have ci:=(cq _ (getD_mem (xs:=qs) (i:=ii) (by lia))).1 xd;exists bX (bB.of gq) ei ?_;exists bX (bB.of gq) ej ?_;exists ⟨_,_,_,_,rfl,bl,nj',FL (by lia),sz9 (by lia) cj,λr3 Hm sm n3=>?_⟩;exists ⟨_,_,_,_,rfl,ni'.same sm,n3,sz9 (by lia) ci,BG (by lia) cj (M0 _) (M1 _) (by lia),λr4 Hn sn n4=>?_⟩;have smn:=sm.trans sn;exists fN (smn _ _ gq) (gK (by lia)) rfl ?_;refine ⟨_,rfl,?_,(kpl.same smn).upd (.inl aq),(bl.same smn).updL (smn _ _ gq)⟩;refine ((Xl.same smn).weak λx' _ y h=>⟨λz=>h.1 ?_,h.2⟩).put MA aq (smn _ _ gq) n4 ⟨λz=>absurd z xd2,?_⟩ ii
    ·rw[fh hs];exact .tail _ z
    ·exact (G7 (by lia) ci cj).mono (by lia)
   ·rintro σ' Hl ⟨w6,rfl,Xl,kpl,bl⟩;refine ⟨_,_,_,_,_,_,um,rfl,Xl.weak λ_ _ y h=>h.2.mono ?_,kpl⟩;rw[<- eW,gW,cy (9^t) 9,cM];exact ar _
 ·rintro σ' H' ⟨x1,x2,x3,x4,x5,x6,us',rfl,X,kp⟩;exists cz λr H2' s' g'=>?_
  exact done r us' H2' _ (by lia) g' (X.same s') (kp.same s')
theorem kb:sC ["_law_bag_here","_law_n","_law_move_here","_law_put","_law_look"] 1 uv:=by walk_at "d"
theorem GI (T:Txt K mg Z) (ptree:P.given.tree=none):cD P w K mg base fA 5 Z.AV Z.Az ["_law_bag_here"] (Qr K):=by
 have aX:=fg (P:=P) (w:=w) (base:=base) T ptree;have sv:=vL (P:=P) (w:=w) (base:=base) T ptree;refine T.rO.F.k kb ?_;walk_at "i";obtain ⟨b,rfl,hB,k⟩:=h
 refine ⟨_,(ao (eK 1 kb.nd (bF fI aj (cE aX hr T.a9 (cR bP aj))))
  (ao (ki 2 ["_law_i"] ["_law_n"] [1] kb.nd rfl rfl (cp rfl T.range (dc cL)) (λ_=>(dX 0)) (λ_=>cG) (λ_=>(cx ["_law_j"] ["_law_i"] [0] (cp rfl T.range (dc cL)) (λ_=>(dX 0)) (λ_=>cG) (λ_=>(dm (cR (fz p9 (by rfl) T.int PyProof.Rows.boot_int (dc (jd fo bP (bF fI cL aj) (be _)))) aj))))))
  (ao (eK 3 kb.nd (eU (dc (cx ["_law_j"] ["_law_n"] [1] (cp rfl T.range (dc cL)) (λ_=>(dX 0)) (λ_=>cG) (λ_=>(dm (cR (fz p9 (by rfl) T.int PyProof.Rows.boot_int (dc (jd fo bP (bF nL cL aj) (be _)))) aj)))))))
  (ao (eK 4 kb.nd (eU (dc (cx ["_law_j"] [] [] (cp rfl T.range (dc cL)) (λ_=>(dX 0)) (λ_=>cG) (λ_=>(dm (cR (fz p9 (by rfl) T.int PyProof.Rows.boot_int (dc (jd fo bP aj (be _)))) aj)))))))
  (ax (aK (cE sv hr T.lO (JX bP dS iu m5)))))))),?_⟩
 walk_at "s";obtain ⟨q0,I0,xs0,gq0⟩:=hB.inner;exists ⟨b,3,rfl,hB,by decide,by decide,λt Ha t0 t1 Ba ua=>?_⟩;obtain ⟨t,rfl⟩:=bT t0;walk_at "w";obtain ⟨n,en,n6,n8⟩:∃n:Nat,(6:Int)+(t:Int)=(n:Int)/\6<=n/\n<=8:=⟨6+t,by lia,by lia,by lia⟩;rw[en];refine ⟨by lia,by lia,?_⟩;refine K4 (K:=K) (n:=n) (λ(i:Nat)=>(List.range n).map λ(j:Nat)=>(((if decide ((j:Int)=(i:Int)+1)=true then 1 else 0:Int)):Rat)) (by lia) ?_ ?_
 ·rintro i Hb NY NN hi sa k1;exists ⟨by lia,by lia,?_⟩;refine hZ (n:=n) (cv K) (λ(j:Nat)=>(((if decide ((j:Int)=(i:Int)+1)=true then 1 else 0:Int)):Rat)) (by lia) (λa b=>a.same b) ?_ ?_
  ·rintro j Hz NY2 NN2 hj sz k2;exists cz λt Hy sy gy=>?_
   exact k2 _ _ sy (cv.mk gy rfl)
  ·rintro ys Hz t ht sz g pr nx;exact k1 _ _ sz ht ⟨ys,g,pr⟩
 rintro ys H1 mm hm s1 g1 nd1 pr1 nx1;exists ⟨by lia,by lia,?_⟩;refine hZ (n:=n) (cv K) (λ(j:Nat)=>(((if decide ((j:Int)=(n:Int) - 1)=true then 1 else 0:Int)):Rat)) (by lia) (λa b=>a.same b) ?_ ?_
 ·rintro j Hz NY2 NN2 hj sz k2;exists cz λt Hy sy gy=>?_
  exact k2 _ _ sy (cv.mk gy rfl)
 rintro ys2 H2 q2 hq2 s2 g2 pr2 nx2;exists dJ λp3 H3 s3 n3 g3=>?_
 have q23:q2≠p3:=λz=>by rw[z,n3] at g2;cases g2
 have hp3:H1 p3=none:=s2.none n3;exists ⟨by lia,by lia,?_⟩;refine hZ (n:=n) (cv K) (λ(j:Nat)=>(((if decide ((j:Int)=0)=true then 1 else 0:Int)):Rat)) (by lia) (λa b=>a.same b) ?_ ?_
 ·rintro j Hz NY2 NN2 hj sz k2;exists cz λt Hy sy gy=>?_
  exact k2 _ _ sy (cv.mk gy rfl)
 rintro ys4 H4 q4 hq4 s4 g4 pr4 nx4;exists dJ λp5 H5 s5 n5 g5=>?_
 have q45:q4≠p5:=λz=>by rw[z,n5] at g4;cases g4
 have hp5:H3 p5=none:=s4.none n5;have s35:=s4.trans s5;have s23:=s2.trans s3;have s15:=s23.trans s35;have s05:=s1.trans s15;have B5:=Ba.same s05;have hu:∀{q},Ha q=none->H q=none:=λh=>ua.none Ba h
 have hm0:H mm=none:=hu hm;have hp0:H p3=none:=hu (s1.none hp3);have hl0:H p5=none:=hu (s1.none (s23.none hp5));have mb:mm≠b:=λz=>Ba.at (by rw[<- z];exact hm)
 have pb:p3≠b:=λz=>hB.at (by rw[<- z];exact hp0)
 have lb:p5≠b:=λz=>hB.at (by rw[<- z];exact hl0)
 have g13:=s23 _ _ g1;have mp:mm≠p3:=λz=>by rw[z,hp3] at g1;cases g1
 have ml:mm≠p5:=λz=>by rw[z,hp5] at g13;cases g13
 have pl:p3≠p5:=λz=>by rw[z,hp5] at g3;cases g3
 have mq:mm≠q0:=λz=>Inner.at Ba (ua.2 _ I0) (by rw[<- z];exact hm)
 have g15:=s15 _ _ g1;have g35:=s35 _ _ g3;obtain ⟨A,eA⟩:∃A:Addr->Prop,A=λq=>H q=none/\q≠mm/\q≠p3/\q≠p5:=⟨_,rfl⟩
 have mkA:∀{q},H q=none->q≠mm->q≠p3->q≠p5->A q:=λh1 h2 h3 h4=>by rw[eA];exact ⟨h1,h2,h3,h4⟩
 have unA:∀{q},A q->H q=none/\q≠mm/\q≠p3/\q≠p5:=λh=>by rw[eA] at h;exact h
 have MA:JJ A mm p3 p5 b q0:=⟨λz=>(unA z).2.1 rfl,λz=>(unA z).2.2.1 rfl,λz=>(unA z).2.2.2 rfl,λz=>hB.at (unA z).1,(λz=>by have z1:=(unA z).1;rw[gq0] at z1;cases z1),mb,pb,lb,mp,ml,mq⟩;clear eA;have f01:∀{i:Int},i=0\/i=1->Fr 1 1 (i:Rat):=λh=>U6 h
 have R2:cK K H5 q2 _:=cK.same ⟨ys2,g2,pr2⟩ (s3.trans s35);have R4:cK K H5 q4 _:=cK.same ⟨ys4,g4,pr4⟩ s5;have g23:=s3 _ _ g2
 have ney:∀y∈ys,∃q,y=V.ref q/\H1 q≠none:=λy hy=>by
  obtain ⟨_,_,q,e,_,_,gg,_⟩:=dE pr1 hy;exact ⟨q,e,by rw[gg];exact λz=>nomatch z⟩
 have X5:kH K A H5 n (λ_=>Fr 1 1) mm p3 p5 b q0 ys [.ref q2] [.ref q4]:=by
  refine ⟨B5,(s05.upto (p:=b)).2 _ (ua.2 _ I0),g15,g35,g5,by rw[<- pr1.length,ag,bL],λx hx=>?_,?_⟩
  ·rcases av.mp hx with hx | hx
   ·rcases av.mp hx with hx | hx
    ·refine ig.same (F8 (A:=A) pr1 (λqs hq=>?_) (λq hq a b'=>?_) x hx) s15
     ·obtain ⟨i,_,rfl⟩:=aw.mp hq;refine ⟨by rw[ag,bL],λy hy=>?_⟩;obtain ⟨j,_,rfl⟩:=aw.mp hy;exact f01 (by split <;> simp)
     ·have b3:H3 q≠none:=λz=>b' (s23.none z)
      exact mkA (hu a) (λy=>nx1 (by rw[<- y];exact hq)) (λy=>b' (by rw[y];exact hp3)) (λy=>b3 (by rw[y];exact hp5))
    ·rw[bV.mp hx];refine ⟨q4,_,rfl,mkA (hu (s1.none (s23.none hq4))) (λy=>by rw[y,g13] at hq4;cases hq4) (λy=>by rw[y,g3] at hq4;cases hq4) q45,R4,by rw[ag,bL],λy hy=>?_⟩;obtain ⟨j,_,rfl⟩:=aw.mp hy;exact f01 (by split <;> simp)
   ·rw[bV.mp hx];refine ⟨q2,_,rfl,mkA (hu (s1.none hq2)) (λy=>by rw[y,g1] at hq2;cases hq2) q23 (λy=>by rw[y,hp5] at g23;cases g23),R2,by rw[ag,bL],λy hy=>?_⟩;obtain ⟨j,_,rfl⟩:=aw.mp hy;exact f01 (by split <;> simp)
  ·refine dA.mpr ⟨dA.mpr ⟨nd1,by simp,λa ha c hc z=>?_⟩,by simp,λa ha c hc z=>?_⟩
   ·rw[bV.mp hc] at z;obtain ⟨q,e,h⟩:=ney a ha;rw[z] at e;cases e;exact h (s23.none hq4)
   ·rw[bV.mp hc] at z;rcases av.mp ha with ha | ha
    ·obtain ⟨q,e,h⟩:=ney a ha;rw[z] at e;cases e;exact h hq2
    ·rw[bV.mp ha] at z;cases z;rw[g23] at hq4;cases hq4
 clear pr1 nx1 pr2 nx2 pr4 nx4 R2 R4 g1 g2 g3 g4 g13 g23;exists ⟨b,mm,p3,p5,q0,n,1,λ_=>1,A,ys,[.ref q2],[.ref q4],rfl,MA,X5,n8,by simp,by simp,λ_=>Nat.zero_lt_one,λ_=>bU,⟨1,λ_ _ _=>rfl⟩,by decide,λq hq=>?_,λr us' H' g Y kp=>?_⟩
 ·exact mkA (hu (s05.none hq)) (λz=>by rw[z,g15] at hq;cases hq) (λz=>by rw[z,g35] at hq;cases hq) (λz=>by rw[z,g5] at hq;cases hq)
 ·obtain ⟨mv,Gm,lmv,hmv⟩:=lF (H0:=H) (n:=n) (C:=Fr 1 (9^3*1)) (m:=n) ⟨us',Y.gm,Y.lm,MA.am,λx hx=>Y.row x (by simp [hx])⟩ λq h=>(unA h).1
  obtain ⟨pt,Gp,lpt,hpt⟩:=lF (H0:=H) (n:=n) (C:=Fr 1 (9^3*1)) (m:=1) ⟨_,Y.gp,rfl,MA.ap,λx hx=>Y.row x (av.mpr (.inr hx))⟩ λq h=>(unA h).1
  obtain ⟨lk,Gl,llk,hlk⟩:=lF (H0:=H) (n:=n) (C:=Fr 1 (9^3*1)) (m:=1) ⟨_,Y.gl,rfl,MA.al,λx hx=>Y.row x (av.mpr (.inl (av.mpr (.inr hx))))⟩ λq h=>(unA h).1
  refine k r mv pt lk H' ⟨mm,p3,p5,g,hm0,hp0,hl0,Gm,Gp,Gl⟩ (by lia) ⟨by lia,by lia,by lia,λxs hx=>by rw[(hmv xs hx).1,lmv],λxs hx=>by rw[(hpt xs hx).1,lmv],λxs hx=>by rw[(hlk xs hx).1,lmv]⟩ (λxs hx=>(hmv xs hx).2) (λxs hx=>(hpt xs hx).2) (λxs hx=>(hlk xs hx).2) Y.bag ⟨λc' u e n1=>kp c' u (s05 _ _ (ua.1 c' u e n1)) n1 (λz=>by have:=(unA z).1;rw[e] at this;cases this) (λz=>by rw[z,hm0] at e;cases e),λq h=>by rw[<- Inner.inj I0 h];exact Y.inn⟩
theorem D9:∃x1 x2 x3 x4 x5 x6 x7 x8 x9 x10 x11 x12 x13 x14 x15 x16:Expr,x1=(Expr.Constant (Const.int 0) 0 ⟨335,16,335,17⟩)/\x2=(Expr.Constant (Const.int 1) 0 ⟨335,19,335,20⟩)/\x3=(Expr.Constant (Const.int 1) 0 ⟨335,22,335,23⟩)/\x4=(Expr.Constant (Const.int 1) 0 ⟨335,25,335,26⟩)/\x5=(Expr.Constant (Const.int 2) 0 ⟨335,28,335,29⟩)/\x6=(Expr.Constant (Const.int 2) 0 ⟨335,31,335,32⟩)/\x7=(Expr.Constant (Const.int 3) 0 ⟨335,34,335,35⟩)/\x8=(Expr.Constant (Const.int 4) 0 ⟨335,37,335,38⟩)/\x9=(Expr.Constant (Const.int 0) 0 ⟨336,17,336,18⟩)/\x10=(Expr.Constant (Const.int 1) 0 ⟨336,20,336,21⟩)/\x11=(Expr.Constant (Const.int 1) 0 ⟨336,23,336,24⟩)/\x12=(Expr.Constant (Const.int 1) 0 ⟨336,26,336,27⟩)/\x13=(Expr.Constant (Const.int 2) 0 ⟨336,29,336,30⟩)/\x14=(Expr.Constant (Const.int 2) 0 ⟨336,32,336,33⟩)/\x15=(Expr.Constant (Const.int 3) 0 ⟨336,35,336,36⟩)/\x16=(Expr.Constant (Const.int 4) 0 ⟨336,38,336,39⟩)/\iL mO=[ (Stmt.Assign (targets:=[(Expr.Name "_law_n" ⟨332,4,332,10⟩)]) (value:=(Expr.Call (func:=(Expr.Name "_law_take" ⟨332,13,332,22⟩)) (args:=[ (Expr.Name "_law_bag_here" ⟨332,23,332,36⟩),(Expr.Constant (Const.int 5) 0 ⟨332,38,332,39⟩)]) (keywords:=[]) (pos:=⟨332,13,332,40⟩))) (pos:=⟨332,4,332,40⟩)),(Stmt.If (test:=(Expr.Compare (left:=(Expr.Call (func:=(Expr.Name "_law_take" ⟨333,7,333,16⟩)) (args:=[ (Expr.Name "_law_bag_here" ⟨333,17,333,30⟩),(Expr.Constant (Const.int 8) 0 ⟨333,32,333,33⟩)]) (keywords:=[]) (pos:=⟨333,7,333,34⟩))) (ops:=[PySem.CmpOp.Eq]) (comparators:=[(Expr.Constant (Const.int 7) 0 ⟨333,38,333,39⟩)]) (pos:=⟨333,7,333,39⟩))) (body:=[ (Stmt.Assign (targets:=[(Expr.Name "_law_n" ⟨334,8,334,14⟩)]) (value:=(Expr.Constant (Const.int 5) 0 ⟨334,17,334,18⟩)) (pos:=⟨334,8,334,18⟩))]) (orelse:=[]) (pos:=⟨333,4,334,18⟩)),(Stmt.Assign (targets:=[(Expr.Name "_law_ins" ⟨335,4,335,12⟩)]) (value:=(Expr.Subscript (value:=(Expr.List (elts:=[x1,x2,x3,x4,x5,x6,x7,x8]) (pos:=⟨335,15,335,39⟩))) (slice:=(Expr.Call (func:=(Expr.Name "_law_take" ⟨335,40,335,49⟩)) (args:=[ (Expr.Name "_law_bag_here" ⟨335,50,335,63⟩),(Expr.Constant (Const.int 8) 0 ⟨335,65,335,66⟩)]) (keywords:=[]) (pos:=⟨335,40,335,67⟩))) (pos:=⟨335,15,335,68⟩))) (pos:=⟨335,4,335,68⟩)),(Stmt.Assign (targets:=[(Expr.Name "_law_outs" ⟨336,4,336,13⟩)]) (value:=(Expr.Subscript (value:=(Expr.List (elts:=[x9,x10,x11,x12,x13,x14,x15,x16]) (pos:=⟨336,16,336,40⟩))) (slice:=(Expr.Call (func:=(Expr.Name "_law_take" ⟨336,41,336,50⟩)) (args:=[ (Expr.Name "_law_bag_here" ⟨336,51,336,64⟩),(Expr.Constant (Const.int 8) 0 ⟨336,66,336,67⟩)]) (keywords:=[]) (pos:=⟨336,41,336,68⟩))) (pos:=⟨336,16,336,69⟩))) (pos:=⟨336,4,336,69⟩)),(Stmt.If (test:=(Expr.Compare (left:=(Expr.Name "_law_n" ⟨337,7,337,13⟩)) (ops:=[PySem.CmpOp.Eq]) (comparators:=[(Expr.Constant (Const.int 5) 0 ⟨337,17,337,18⟩)]) (pos:=⟨337,7,337,18⟩))) (body:=[ (Stmt.Assign (targets:=[ (Expr.Tuple (elts:=[(Expr.Name "_law_ins" ⟨338,8,338,16⟩),(Expr.Name "_law_outs" ⟨338,18,338,27⟩)]) (k:=0) (pos:=⟨338,8,338,27⟩))]) (value:=(Expr.Tuple (elts:=[ (Expr.Call (func:=(Expr.Name "min" ⟨338,31,338,34⟩)) (args:=[ (Expr.Name "_law_ins" ⟨338,35,338,43⟩),(Expr.Constant (Const.int 2) 0 ⟨338,45,338,46⟩)]) (keywords:=[]) (pos:=⟨338,31,338,47⟩)),(Expr.Call (func:=(Expr.Name "min" ⟨338,49,338,52⟩)) (args:=[ (Expr.Name "_law_outs" ⟨338,53,338,62⟩),(Expr.Constant (Const.int 2) 0 ⟨338,64,338,65⟩)]) (keywords:=[]) (pos:=⟨338,49,338,66⟩))]) (k:=0) (pos:=⟨338,30,338,67⟩))) (pos:=⟨338,8,338,67⟩))]) (orelse:=[]) (pos:=⟨337,4,338,67⟩)),(Stmt.Assign (targets:=[(Expr.Name "_law_wide" ⟨339,4,339,13⟩)]) (value:=(Expr.Subscript (value:=(Expr.List (elts:=[ (Expr.Constant (Const.int 4) 0 ⟨339,17,339,18⟩),(Expr.Constant (Const.int 4) 0 ⟨339,20,339,21⟩),(Expr.Constant (Const.int 9) 0 ⟨339,23,339,24⟩),(Expr.Constant (Const.int 1000000) 0 ⟨339,26,339,33⟩)]) (pos:=⟨339,16,339,34⟩))) (slice:=(Expr.Call (func:=(Expr.Name "_law_take" ⟨339,35,339,44⟩)) (args:=[ (Expr.Name "_law_bag_here" ⟨339,45,339,58⟩),(Expr.Constant (Const.int 4) 0 ⟨339,60,339,61⟩)]) (keywords:=[]) (pos:=⟨339,35,339,62⟩))) (pos:=⟨339,16,339,63⟩))) (pos:=⟨339,4,339,63⟩)),(Stmt.If (test:=(Expr.Compare (left:=(Expr.Name "_law_wide" ⟨340,7,340,16⟩)) (ops:=[PySem.CmpOp.Gt]) (comparators:=[(Expr.Constant (Const.int 9) 0 ⟨340,19,340,20⟩)]) (pos:=⟨340,7,340,20⟩))) (body:=[ (Stmt.Assign (targets:=[(Expr.Name "_law_n" ⟨341,8,341,14⟩)]) (value:=(Expr.Call (func:=(Expr.Name "min" ⟨341,17,341,20⟩)) (args:=[ (Expr.Name "_law_n" ⟨341,21,341,27⟩),(Expr.Constant (Const.int 2) 0 ⟨341,29,341,30⟩)]) (keywords:=[]) (pos:=⟨341,17,341,31⟩))) (pos:=⟨341,8,341,31⟩))]) (orelse:=[]) (pos:=⟨340,4,341,31⟩)),(Stmt.Return (value:=(some (Expr.Tuple (elts:=[ (Expr.Name "_law_n" ⟨342,12,342,18⟩),(Expr.Name "_law_ins" ⟨342,20,342,28⟩),(Expr.Name "_law_outs" ⟨342,30,342,39⟩),(Expr.Name "_law_wide" ⟨342,41,342,50⟩)]) (k:=0) (pos:=⟨342,11,342,51⟩)))) (pos:=⟨342,4,342,51⟩))]:=⟨_,_,_,_,_,_,_,_,_,_,_,_,_,_,_,_,rfl,rfl,rfl,rfl,rfl,rfl,rfl,rfl,rfl,rfl,rfl,rfl,rfl,rfl,rfl,rfl,by with_unfolding_all rfl⟩
theorem fj:sC ["_law_bag_here","_law_n","_law_ins","_law_outs","_law_wide"] 1 mO:=by walk_at "d"
theorem DY (T:Txt K mg Z) (ptree:P.given.tree=none):cD P w K mg base fA 2 Z.yH Z.yo ["_law_bag_here"] Mv:=by
 have aX:=fg (P:=P) (w:=w) (base:=base) T ptree;refine T.pF.F.k fj ?_;walk_at "i";obtain ⟨b,rfl,hB,k⟩:=h;obtain ⟨x1,x2,x3,x4,x5,x6,x7,x8,x9,x10,x11,x12,x13,x14,x15,x16,hx1,hx2,hx3,hx4,hx5,hx6,hx7,hx8,hx9,hx10,hx11,hx12,hx13,hx14,hx15,hx16,hbd⟩:=D9;rw[hbd]
 refine ⟨_,(ao (eK 1 fj.nd (cE aX hr T.a9 (cR bP aj)))
  (jc (cV (aV fo (cE aX hr T.a9 (cR bP aj)) aj (be _)) (ax (eK 1 fj.nd aj)) bK)
  (ao (eK 2 fj.nd (aL bE (eU (eY hx1 aj (eY hx2 aj (eY hx3 aj (eY hx4 aj (eY hx5 aj (eY hx6 aj (eY hx7 aj (eY hx8 aj iV))))))))) (cE aX hr T.a9 (cR bP aj))))
  (ao (eK 3 fj.nd (aL bE (eU (eY hx9 aj (eY hx10 aj (eY hx11 aj (eY hx12 aj (eY hx13 aj (eY hx14 aj (eY hx15 aj (eY hx16 aj iV))))))))) (cE aX hr T.a9 (cR bP aj))))
  (jc (cV (aV fo cL aj (be _)) (ax (OB (i:=2) (j:=3) rfl fj.nd rfl rfl (by decide) rfl rfl (cR (bo (vv rfl) (by rfl) T.min PyProof.Rows.boot_min (cR dS aj)) (bo (vv rfl) (by rfl) T.min PyProof.Rows.boot_min (cR iu aj))) rfl)) bK)
  (ao (eK 4 fj.nd (aL bE (eU (JX aj aj aj aj)) (cE aX hr T.a9 (cR bP aj))))
  (jc (cV (aV pT m5 aj (be _)) (ax (eK 1 fj.nd (bo (vv rfl) (by rfl) T.min PyProof.Rows.boot_min (cR cL aj)))) bK)
  (ax (aK (dm (JX cL dS iu m5))))))))))),?_⟩
 walk_at "s";exists ⟨b,5,rfl,hB,by decide,by decide,λn H1 n0 n1 B1 u1=>?_⟩;obtain ⟨n,rfl⟩:=bT n0;exists ⟨λσ' H'=>(∃n:Nat,σ'=[some (.ref b),some (.int n),none,none,none]/\n<=5)/\iM H' b/\df b H H',?_,?_⟩
 ·exists ⟨b,8,rfl,B1,by decide,by decide,λv H2 v0 v1 B2 u2=>?_⟩;exists iD (λ_=>?_) (λ_=>?_)
  ·exists ⟨⟨5,rfl,by decide⟩,B2,u1.trans u2⟩
  ·exists ⟨⟨n,rfl,by lia⟩,B2,u1.trans u2⟩
 clear n0 n1 u1 B1;rintro σ' H1 ⟨⟨n,rfl,n5⟩,B1,u1⟩;exists dJ λl0 H2 s2 n2 g2=>?_
 exists ⟨b,8,rfl,B1.same s2,by decide,by decide,λv H3 v0 v1 B3 u3=>?_⟩;have g3:=u3.other (λz=>B1.at (by rw[<- z];exact n2)) g2;obtain ⟨x,ex,mx,_⟩:=qj (xs:=[V.int 0,V.int 1,V.int 1,V.int 1,V.int 2,V.int 2,V.int 3,V.int 4]) v0 (by simpa using v1)
 obtain ⟨i,rfl,hi⟩:∃z:Nat,x=.int z/\z<=4:=by
  simp only[aH,bw,or_false] at mx;rcases mx with rfl | rfl | rfl | rfl | rfl | rfl | rfl | rfl
  ·exact ⟨0,rfl,by decide⟩
  ·exact ⟨1,rfl,by decide⟩
  ·exact ⟨1,rfl,by decide⟩
  ·exact ⟨1,rfl,by decide⟩
  ·exact ⟨2,rfl,by decide⟩
  ·exact ⟨2,rfl,by decide⟩
  ·exact ⟨3,rfl,by decide⟩
  ·exact ⟨4,rfl,by decide⟩
 exists bX (bB.of g3) ex ?_;clear ex mx g3 g2;exists dJ λl1 H4 s4 n4 g4=>?_
 exists ⟨b,8,rfl,B3.same s4,by decide,by decide,λt H5 t0 t1 B5 u5=>?_⟩;have g5:=u5.other (λz=>B3.at (by rw[<- z];exact n4)) g4;obtain ⟨x,ex,mx,_⟩:=qj (xs:=[V.int 0,V.int 1,V.int 1,V.int 1,V.int 2,V.int 2,V.int 3,V.int 4]) t0 (by simpa using t1)
 obtain ⟨o,rfl,ho⟩:∃z:Nat,x=.int z/\z<=4:=by
  simp only[aH,bw,or_false] at mx;rcases mx with rfl | rfl | rfl | rfl | rfl | rfl | rfl | rfl
  ·exact ⟨0,rfl,by decide⟩
  ·exact ⟨1,rfl,by decide⟩
  ·exact ⟨1,rfl,by decide⟩
  ·exact ⟨1,rfl,by decide⟩
  ·exact ⟨2,rfl,by decide⟩
  ·exact ⟨2,rfl,by decide⟩
  ·exact ⟨3,rfl,by decide⟩
  ·exact ⟨4,rfl,by decide⟩
 exists bX (bB.of g5) ex ?_;clear ex mx g5 g4;have u15:=(((u1.same s2).trans u3).same s4).trans u5;exists ⟨λσ' H'=>(∃i o:Nat,σ'=[some (.ref b),some (.int n),some (.int i),some (.int o),none]/\i<=4/\o<=4/\(n=5->i<=2/\o<=2))/\iM H' b/\df b H H',?_,?_⟩
 ·exists iD (λh0=>?_) (λh0=>?_)
  ·exists ⟨⟨min i 2,min o 2,?_,by lia,by lia,λ_=>⟨by lia,by lia⟩⟩,B5,u15⟩;have e1:(if (2:Int) < (i:Int) then (2:Int) else (i:Int))=((min i 2:Nat):Int):=by split <;> lia
   have e2:(if (2:Int) < (o:Int) then (2:Int) else (o:Int))=((min o 2:Nat):Int):=by split <;> lia
   rw[<- e1,<- e2];rfl
  ·exists ⟨⟨i,o,rfl,hi,ho,λz=>absurd (decide_eq_true (show (n:Int)=5 by lia)) h0⟩,B5,u15⟩
 clear hi ho u15 B5 u5 u3 u1;rintro σ' H5 ⟨⟨i,o,rfl,hi,ho,h5⟩,B5,u5⟩;exists dJ λl2 H6 s6 n6 g6=>?_
 exists ⟨b,4,rfl,B5.same s6,by decide,by decide,λv H7 v0 v1 B7 u7=>?_⟩;have g7:=u7.other (λz=>B5.at (by rw[<- z];exact n6)) g6;obtain ⟨x,ex,mx,_⟩:=qj (xs:=[V.int 4,V.int 4,V.int 9,V.int 1000000]) v0 (by simpa using v1)
 obtain ⟨w,rfl,hw⟩:∃w:Nat,x=.int w/\(w=4\/w=9\/w=1000000):=by
  simp only[aH,bw,or_false] at mx;rcases mx with rfl | rfl | rfl | rfl
  ·exact ⟨4,rfl,.inl rfl⟩
  ·exact ⟨4,rfl,.inl rfl⟩
  ·exact ⟨9,rfl,.inr (.inl rfl)⟩
  ·exact ⟨1000000,rfl,.inr (.inr rfl)⟩
 exists bX (bB.of g7) ex ?_;have u07:=(u5.same s6).trans u7;exists ⟨λσ' H'=>(∃n:Nat,σ'=[some (.ref b),some (.int n),some (.int i),some (.int o),some (.int w)]/\n<=5/\(w=4\/w=9\/(w=1000000/\n<=2))/\(n=5->i<=2/\o<=2))/\iM H' b/\df b H H',?_,?_⟩
 ·exists iD (λh0=>?_) (λh0=>?_)
  ·exists ⟨⟨min n 2,?_,by lia,by lia,λz=>by lia⟩,B7,u07⟩;have e1:(if (2:Int) < (n:Int) then (2:Int) else (n:Int))=((min n 2:Nat):Int):=by split <;> lia
   rw[<- e1];rfl
  ·exists ⟨⟨n,rfl,n5,?_,h5⟩,B7,u07⟩;rcases hw with z | z | z
   ·exact .inl z
   ·exact .inr (.inl z)
   ·exact absurd (decide_eq_true (show (9:Int) < (w:Int) by lia)) h0
 ·clear h5 n5;rintro σ' H8 ⟨⟨n',rfl,n5,hwn,h5⟩,B8,u8⟩;exists cz λr H9 s9 g9=>?_
  exact k r n' i o w H9 g9 n5 hi ho hwn h5 (B8.same s9) (u8.same s9)
theorem tV:sC ["_law_bag_here","_law_wide","_law_way"] 2 oY:=by walk_at "d"
theorem CL (T:Txt K mg Z) (ptree:P.given.tree=none):cD P w K mg base fA 2 Z.we Z.vU ["_law_bag_here","_law_wide"] (BS K):=by
 have aX:=fg (P:=P) (w:=w) (base:=base) T ptree;have dG:=iW (P:=P) (w:=w) (base:=base) T ptree;refine T.nY.F.k tV ?_;walk_at "i";obtain ⟨b,w,rfl,hB,w0,w1,k⟩:=h
 refine ⟨_,(ao (eK 2 tV.nd (cE aX hr T.a9 (cR bP aj)))
  (ao (cV (aV sJ dS aj (be _)) (ax (aK (dm (cR aj aj)))) bK)
  (ao (cV (aV sJ dS aj (be _)) (ax (aK (dm (cR (bF nL (cE aX hr T.a9 (cR bP aj)) aj) aj)))) bK)
  (ao (cV (aV fo dS aj (be _)) (ax (aK (cE dG hr T.eF (cR (bF nL (cE aX hr T.a9 (cR bP aj)) aj) (bF fI aj (cE aX hr T.a9 (cR bP aj))))))) bK)
  (ax (aK (cE dG hr T.eF (cR (bF nL (cE aX hr T.a9 (cR bP (bF fI (bF cN aj cL) aj))) cL) (bF fI aj (cE aX hr T.a9 (cR bP cL))))))))))),?_⟩
 walk_at "s";exists ⟨b,8,rfl,hB,by decide,by decide,λv H1 v0 v1 B1 u1=>?_⟩;exists iD (λh0=>?_) (λh0=>?_)
 ·exists cz λr H2 s2 g2=>?_
  exact k r 0 _ ⟨a7 _,by show 1<=_;lia⟩ (cv.mk g2 rfl) (B1.same s2) (u1.same s2)
 exists iD (λh1=>?_) (λh1=>?_)
 ·exists ⟨b,7,rfl,B1,by decide,by decide,λa H2 a0 a1 B2 u2=>?_⟩;exists cz λr H3 s3 g3=>?_
  exact k r ((a - 3:Int):Rat) _ ⟨by show (a - 3).natAbs<=_;lia,by show 1<=_;lia⟩ (cv.mk g3 rfl) (B2.same s3) ((u1.trans u2).same s3)
 exists iD (λh2=>?_) (λh2=>?_)
 ·exists ⟨b,13,rfl,B1,by decide,by decide,λa H2 a0 a1 B2 u2=>?_⟩;exists ⟨b,6,rfl,B2,by decide,by decide,λc H3 c0 c1 B3 u3=>?_⟩;exists ⟨_,_,rfl,by lia,(NW (by lia)).mono (by decide),λr H4 s4 g4=>?_⟩;obtain ⟨q,e,d,_⟩:=OW (t:=a - 6) (b:=1+c) (W:=max w 6) (by lia) (by lia) (by lia);exact k r q _ d (cv.mk g4 e) (B3.same s4) (((u1.trans u2).trans u3).same s4)
 exists ⟨b,_,rfl,B1,by lia,by lia,λa H2 a0 a1 B2 u2=>?_⟩;exists ⟨b,_,rfl,B2,by lia,by lia,λc H3 c0 c1 B3 u3=>?_⟩;exists ⟨_,_,rfl,by lia,(NW (by lia)).mono (by decide),λr H4 s4 g4=>?_⟩;obtain ⟨q,e,d,_⟩:=OW (t:=a - w) (b:=1+c) (W:=max w 6) (by lia) (by lia) (by lia);exact k r q _ d (cv.mk g4 e) (B3.same s4) (((u1.trans u2).trans u3).same s4)
theorem IJ:sC ["_law_bag_here","_law_many","_law_wide"] 3 wO:=by walk_at "d"
theorem l8 (T:Txt K mg Z) (ptree:P.given.tree=none):cD P w K mg base fA 3 Z.Ds Z.Dd ["_law_bag_here","_law_many","_law_wide"] (IB K):=by
 have Eh:=CL (P:=P) (w:=w) (base:=base) T ptree;refine T.ij.F.k IJ ?_;walk_at "i";obtain ⟨b,m,w,rfl,hB,hm,w0,w1,k⟩:=h;refine ⟨_,(ax (aK (cx ["_law_k"] ["_law_bag_here","_law_wide"] [0,2] (cp rfl T.range (dc cL)) (λ_=>(dX 0)) (λ_=>cG) (λ_=>(cE Eh hr T.nY (cR cL dS)))))),?_⟩;walk_at "s";exists ⟨by lia,by lia,?_⟩;refine Ff (n:=m) (cv K) (Dr (max w 6)) hB hm (λa u B=>a.upto u B) ?_ ?_
 ·rintro i H' NY NN hi u B k1;exists ⟨b,w,rfl,B,w0,w1,λr x H2 hx h2 B2 u2=>k1 _ x _ u2 B2 hx h2⟩
 ·rintro ys cs H' p hp u B g lc hc pr nx;exact k p cs H' hp ⟨ys,g,pr⟩ lc hc B u
theorem ka:sC ["_law_bag_here","_law_n","_law_way","_law_first","_law_wide","_law_move_here","_law_i","_law_row_here","_law_j"] 5 uu:=by walk_at "d"
theorem GH (T:Txt K mg Z) (ptree:P.given.tree=none):cD P w K mg base fA 4 Z.AU Z.Ay ["_law_bag_here","_law_n","_law_way","_law_first","_law_wide"] (Iv K):=by
 have gR:=l8 (P:=P) (w:=w) (base:=base) T ptree;have aX:=fg (P:=P) (w:=w) (base:=base) T ptree;refine T.rN.F.k ka ?_;walk_at "i";obtain ⟨b,n,w,way,first,rfl,hB,n8,w0,w1,k⟩:=h
 refine ⟨_,(ao (eK 5 ka.nd (eU iV))
  (ao (dw PassesOwn.never rfl (cp rfl T.range (dc cL)) (dX 6 ka.nd)
   (ao (eK 7 ka.nd (cE gR hr T.ij (tG bP cL m5)))
  (ao (dw PassesOwn.never rfl (cp rfl T.range (dc cL)) (dX 8 ka.nd)
   (jc (cV (PW.pt (jr (aV fo dS aj (be _)) (jD (aV pT (cE aX hr T.a9 (cR bP aj)) aj (be _))))) (ax (fG (dm (cR aj aj)) (iG zK IT set_list))) bK)
  (jc (cV (PW.pt (jr (aV fo dS aj (be _)) (jD (aV sJ (bF fI nG aj) cL (be _))))) (ax (fG (dm (cR (fz p9 (by rfl) T.int PyProof.Rows.boot_int (dc (jd fo IT (bF fI nG aj) (be _)))) aj)) (iG zK IT set_list))) bK)
  (jc (cV (PW.pt (kR (PW.pt (jr (aV fo dS aj (be _)) (jr (aV EJ nG iu (be _)) (jD (aV sJ IT iu (be _)))))) (jq (PW.pt (jr (aV fo dS aj (be _)) (jr (aV sJ nG iu (be _)) (jD (aV EJ IT iu (be _))))))))) (ax (fG (dm (cR aj aj)) (iG zK IT set_list))) bK)
  (ax (cV (aV fo dS aj (be _)) (ax (fG (dm (cR (bF cN (aL bE (eU (JX aj aj (xO qJ aj) aj)) (bF o7 iu aj)) (fz p9 (by rfl) T.int PyProof.Rows.boot_int (dc (jd fo nG IT (be _))))) aj)) (iG zK IT set_list))) bK))))))
  (ax (fO (nJ bN ck cg gD wW (dc zK)))))))
  (ax (aK wW)))),?_⟩
 walk_at "s";have W1:1<=max w 6:=by lia
 exists dJ λr H1 s1 n1 g1=>?_
 have rb:r≠b:=λz=>hB.at (by rw[<- z];exact n1)
 obtain ⟨q0,I0,xs0,gq0⟩:=hB.inner;have I1:Inner H1 b q0:=(s1.upto (p:=b)).2 _ I0;obtain ⟨A,eA⟩:∃A:Addr->Prop,A=λq=>H q=none/\q≠r:=⟨_,rfl⟩
 have nb:¬A b:=by rw[eA];exact λz=>hB.at z.1
 have nr:¬A r:=by rw[eA];exact λz=>z.2 rfl
 have nq:¬A q0:=by rw[eA];exact λz=>by have z1:=z.1;rw[gq0] at z1;cases z1
 have rq:r≠q0:=λz=>by rw[<- z,n1] at gq0;cases gq0
 exists ⟨by lia,by lia,?_⟩;refine dZ (n:=n) (λi σ' H'=>∃(x1 x2 x3:Option V) (us:List V),σ'=[some (.ref b),some (.int n),some (.int way),some (.int first),some (.int w),some (.ref r),x1,x2,x3]/\H' r=some (.lst us)/\us.length=i/\us.Nodup/\(∀x∈us,ig K A H' n (Dr (max w 6)) x)/\iM H' b/\Inner H' b q0/\df b H H') ⟨none,none,none,[],rfl,g1,rfl,FE,(λ_ z=>nomatch z),hB.same s1,I1,s1.upto⟩ ?_ ?_
 ·rintro i σ' H' hi ⟨x1,x2,x3,us,rfl,gu,lu,nd,ru,B',I',u'⟩;exists ⟨b,n,w,rfl,B',by lia,w0,w1,λp xs Ha np Ra la da Ba ua=>?_⟩;have hp0:H p=none:=u'.none B' np
  have pn:V.ref p∉us:=λz=>by
   obtain ⟨q',_,_,e',_,g',_⟩:=(ru _ z).at;cases e';rw[np] at g';cases g'
  have ap':H p=none/\p≠r:=⟨hp0,λz=>by rw[z,gu] at np;cases np⟩;have ap:A p:=by rw[eA];exact ap'
  have X0:Ml K A n (Dr (max w 6)) r p b q0 us H Ha:=⟨ua.other rb gu,λx hx=>(ru x hx).upto ua B' nb,⟨p,xs,rfl,ap,Ra,la,da⟩,Ba,ua.2 _ I',u'.trans ua⟩;clear ru Ra gu;exists ⟨by lia,by lia,?_⟩;refine dZ (n:=n) (λj σ' H'=>(∃x3,σ'=[some (.ref b),some (.int n),some (.int way),some (.int first),some (.int w),some (.ref r),some (.int i),some (.ref p),x3])/\Ml K A n (Dr (max w 6)) r p b q0 us H H') ⟨⟨_,rfl⟩,X0⟩ ?_ ?_
  ·rintro j σ' Hj hj ⟨⟨x3,rfl⟩,X⟩;exists ⟨λσ' H'=>σ'=[some (.ref b),some (.int n),some (.int way),some (.int first),some (.int w),some (.ref r),some (.int i),some (.ref p),some (.int j)]/\Ml K A n (Dr (max w 6)) r p b q0 us H H',?_,?_⟩
   ·exists iD (λ_=>?_) (λ_=>?_)
    ·exists ⟨b,3,rfl,X.bag,by decide,by decide,λd Hd d0 d1 Bd ud=>?_⟩;replace X:=X.upto ud Bd nb rb
     repeat' (first | walk_at "rd" | refine iD (λ_=>?_) (λ_=>?_))
     all_goals first
      | exact ⟨rfl,X⟩
      | (refine cz λt Hb sb gb=>?_;walk_at "w";obtain ⟨zs,gz,lz,Xz⟩:=(X.same sb).put ap nr nb nq hp0 (cv.mk (q:=0) gb rfl) (uO (i:=0) (a7 _) W1) j;refine fN gz (gK (by lia)) rfl ?_;exact ⟨rfl,Xz⟩)
    ·exists ⟨rfl,X⟩
   clear X;rintro σ' Hj ⟨rfl,X⟩;refine ⟨λσ' H'=>σ'=[some (.ref b),some (.int n),some (.int way),some (.int first),some (.int w),some (.ref r),some (.int i),some (.ref p),some (.int j)]/\Ml K A n (Dr (max w 6)) r p b q0 us H H',?_,?_⟩
   ·repeat' (first | walk_at "rd" | refine iD (λ_=>?_) (λ_=>?_))
    all_goals first
     | exact ⟨rfl,X⟩
     | (refine cz λt Hb sb gb=>?_;walk_at "w";obtain ⟨zs,gz,lz,Xz⟩:=(X.same sb).put ap nr nb nq hp0 (cv.mk (q:=((if decide ((j:Int)=(i:Int)+1)=true then (1:Int) else 0:Int):Rat)) gb rfl) (uO (by split <;> lia) W1) j;refine fN gz (gK (by lia)) rfl ?_;exact ⟨rfl,Xz⟩)
   clear X;rintro σ' Hj ⟨rfl,X⟩;refine ⟨λσ' H'=>σ'=[some (.ref b),some (.int n),some (.int way),some (.int first),some (.int w),some (.ref r),some (.int i),some (.ref p),some (.int j)]/\Ml K A n (Dr (max w 6)) r p b q0 us H H',?_,?_⟩
   ·repeat' (first | walk_at "rd" | refine iD (λ_=>?_) (λ_=>?_))
    all_goals first
     | exact ⟨rfl,X⟩
     | (refine cz λt Hb sb gb=>?_;walk_at "w";obtain ⟨zs,gz,lz,Xz⟩:=(X.same sb).put ap nr nb nq hp0 (cv.mk (q:=0) gb rfl) (uO (i:=0) (a7 _) W1) j;refine fN gz (gK (by lia)) rfl ?_;exact ⟨rfl,Xz⟩)
   clear X;rintro σ' Hj ⟨rfl,X⟩;exists iD (λ_=>?_) (λ_=>?_)
   ·exists dJ λl0 Hc sc nc gc=>?_
    walk_at "w";obtain ⟨x,ex,mx,_⟩:=qj (xs:=[V.int 2,V.int 1,V.int (-1),V.int 0]) (i:=first % 4) (mY _ (by decide)) (by have:=jK first (show (0:Int) < 4 by decide);simpa using this)
    obtain ⟨z,rfl,hz⟩:∃z:Int,x=.int z/\z.natAbs<=2:=by
     simp only[aH,bw,or_false] at mx;rcases mx with rfl | rfl | rfl | rfl
     ·exact ⟨2,rfl,by decide⟩
     ·exact ⟨1,rfl,by decide⟩
     ·exact ⟨-1,rfl,by decide⟩
     ·exact ⟨0,rfl,by decide⟩
    refine bX (bB.of gc) ex ?_;exists fv (Bx (by lia) (by lia)) ?_;exists cz λt Hb sb gb=>?_
    walk_at "w";obtain ⟨zs,gz,lz,Xz⟩:=((X.same sc).same sb).put ap nr nb nq hp0 (cv.mk (q:=((z*(if decide ((i:Int)=(j:Int))=true then (1:Int) else 0):Int):Rat)) gb rfl) (uO (by split <;> lia) W1) j;refine fN gz (gK (by lia)) rfl ?_;exact ⟨⟨_,rfl⟩,Xz⟩
   ·exists ⟨⟨_,rfl⟩,X⟩
  ·rintro σ' Hj ⟨⟨x3,rfl⟩,X⟩;exists ⟨.inl ⟨rfl,_,bB.of X.gr⟩,?_⟩;exists fZ X.gr (cS (by lia)) ?_;refine ⟨_,_,_,us++[.ref p],rfl,aD,by simp [lu],CN nd pn,λx hx=>?_,X.bag.upd X.inn rb rq,X.inn.upd rb,X.up.after n1⟩;rcases av.mp hx with hx | hx
   ·exact (X.ru x hx).other X.gr nr
   ·have e:x=V.ref p:=by simpa using hx
    rw[e];exact X.rp.other X.gr nr
 ·rintro σ' H' ⟨x1,x2,x3,us,rfl,gu,lu,nd,ru,B',I',u'⟩;exists k r us H' n1 gu lu nd (by rw[eA] at ru;exact ru) B' u'
theorem eC:sC ["_law_bag_here","_law_n","_law_ins","_law_outs","_law_wide","_law_way","_law_first","_law_move_here","_law_put","_law_look","_law_k","_law_row_here"] 5 qW:=by walk_at "d"
theorem DZ (T : Txt K mg Z) (ptree : P.given.tree = none) : cD P w K mg base fA 5 Z.yI Z.yp ["_law_bag_here", "_law_n", "_law_ins", "_law_outs", "_law_wide"] (Es K) := by
  have aX := fg (P := P) (w := w) (base := base) T ptree;have JS := GH (P := P) (w := w) (base := base) T ptree;have gR := l8 (P := P) (w := w) (base := base) T ptree;have sv := vL (P := P) (w := w) (base := base) T ptree;refine T.pG.F.k eC ?_;walk_at "i";obtain ⟨b, n, i, o, w, c, rfl, hB, n8, i4, o4, w0, w1, hc, hc20, hcM, k⟩ := h
  refine ⟨_, (ao (eK 5 eC.nd (cE aX hr T.a9 (cR bP aj)))
    (ao (eK 6 eC.nd (cE aX hr T.a9 (cR bP (bF fI cL aj))))
    (ao (eK 7 eC.nd (cE JS hr T.rN (gG bP (JX cL wW nG m5))))
    (ao (ki 8 ["_law_k"] ["_law_bag_here", "_law_n", "_law_wide"] [0, 1, 4] eC.nd rfl rfl (cp rfl T.range (dc dS)) (λ_ => (dX 0)) (λ_ => cG) (λ_ => (cE gR hr T.ij (tG cL dS iu))))
    (ao (ki 9 ["_law_k"] ["_law_bag_here", "_law_n", "_law_wide"] [0, 1, 4] eC.nd rfl rfl (cp rfl T.range (dc iu)) (λ_ => (dX 0)) (λ_ => cG) (λ_ => (cE gR hr T.ij (tG cL dS iu))))
    (ao (dw PassesOwn.never rfl (cp rfl T.range (dc cL)) (dX 10 eC.nd)
      (ao (dw PassesOwn.never rfl (cA IT) (dX 11 eC.nd)
      (ax (cV (PW.pt (kR (PW.pt (jr (aV fo wW aj (be _)) (jD (aV EJ (pv 10) nG (be _))))) (jq (PW.pt (jr (aV fo wW aj (be _)) (jr (aV sJ (bF fI (pv 10) aj) cL (be _)) (jD (aV fo (cE aX hr T.a9 (cR bP aj)) aj (be _))))))))) (ax (fG (dm (cR aj aj)) (iG (pv 11) (pv 10) set_list))) bK)))
    (ax (dw PassesOwn.never rfl (cA Q3) (dX 11 eC.nd)
      (ax (cV (PW.pt (kR (PW.pt (jr (aV fo wW aj (be _)) (jD (aV EJ (pv 10) nG (be _))))) (jq (PW.pt (jr (aV fo wW aj (be _)) (jr (aV pT (pv 10) aj (be _)) (jD (aV fo (cE aX hr T.a9 (cR bP aj)) aj (be _))))))))) (ax (fG (dm (cR aj aj)) (iG (pv 11) (pv 10) set_list))) bK))))))
    (ax (aK (cE sv hr T.lO (JX bP zK IT Q3)))))))))), ?_⟩
  walk_at "s";have W1 : 1 ≤ max w 6 := by lia
  obtain ⟨q0, I0, xs0, gq0⟩ := hB.inner;exists ⟨b, 6, rfl, hB, by decide, by decide, λway H1 a0 a1 B1 u1 => ?_⟩;exists ⟨b, _, rfl, B1, by lia, by lia, λfirst H2 f0 f1 B2 u2 => ?_⟩;have u02 := u1.trans u2;exists ⟨b, n, w, way, first, rfl, B2, n8, w0, w1, λm us H3 nm0 gm lm ndm rm B3 u3 => ?_⟩;have u03 := u02.trans u3;exists ⟨by lia, by lia, ?_⟩;refine Fg (n := i) (b := b) (cW K H3) (λxs => xs.length = n /\ ∀ x ∈ xs, Dr (max w 6) x) B3 (by lia) (λa u B => a.upto u B B3.at) (λ⟨q, e, _, _, g, _⟩ => ⟨q, e, by rw [g]; exact λz => nomatch z⟩) ?_ ?_
  · rintro s H' NY NN hi u B k1;exists ⟨b, n, w, rfl, B, by lia, w0, w1, λr xs H2 nr R lx dx B2 u2 => k1 _ xs _ u2 B2 ⟨lx, dx⟩ ⟨r, rfl, u.none B nr, R⟩ ⟨r, rfl, nr⟩⟩
  rintro ws puts H4 p np u4 B4 gp lp ndp hp pr4 nx4;have u04 := u03.trans u4;exists ⟨by lia, by lia, ?_⟩;refine Fg (n := o) (b := b) (cW K H4) (λxs => xs.length = n /\ ∀ x ∈ xs, Dr (max w 6) x) B4 (by lia) (λa u B => a.upto u B B4.at) (λ⟨q, e, _, _, g, _⟩ => ⟨q, e, by rw [g]; exact λz => nomatch z⟩) ?_ ?_
  · rintro s H' NY NN hi u B k1;exists ⟨b, n, w, rfl, B, by lia, w0, w1, λr xs H2 nr R lx dx B2 u2 => k1 _ xs _ u2 B2 ⟨lx, dx⟩ ⟨r, rfl, u.none B nr, R⟩ ⟨r, rfl, nr⟩⟩
  rintro vs looks H5 l nl u5 B5 gl ll ndl hl pr5 nx5;have u05 := u04.trans u5;have hm0 : H m = none := u02.none B2 nm0;have hp0 : H p = none := u03.none B3 np;have hl0 : H l = none := u04.none B4 nl;have mb : m ≠ b := λz => B2.at (by rw [<- z]; exact nm0)
  have pb : p ≠ b := λz => B3.at (by rw [<- z]; exact np)
  have lb : l ≠ b := λz => B4.at (by rw [<- z]; exact nl)
  have gm4 := u4.other mb gm;have gm5 := u5.other mb gm4;have gp5 := u5.other pb gp;have mp : m ≠ p := λz => by rw [z, np] at gm; cases gm
  have ml : m ≠ l := λz => by rw [z, nl] at gm4; cases gm4
  have pl : p ≠ l := λz => by rw [z, nl] at gp; cases gp
  have mq : m ≠ q0 := λz => Inner.at B2 (u02.2 _ I0) (by rw [<- z]; exact nm0)
  obtain ⟨A, eA⟩ : ∃ A : Addr → Prop, A = λq => H q = none /\ q ≠ m /\ q ≠ p /\ q ≠ l := ⟨_, rfl⟩
  have mkA : ∀ {q}, H q = none → q ≠ m → q ≠ p → q ≠ l → A q := λh1 h2 h3 h4 => by rw [eA]; exact ⟨h1, h2, h3, h4⟩
  have unA : ∀ {q}, A q → H q = none /\ q ≠ m /\ q ≠ p /\ q ≠ l := λh => by rw [eA] at h; exact h
  have MA : JJ A m p l b q0 := ⟨λz => (unA z).2.1 rfl, λz => (unA z).2.2.1 rfl, λz => (unA z).2.2.2 rfl, λz => hB.at (unA z).1, (λz => by have z1 := (unA z).1; rw [gq0] at z1; cases z1), mb, pb, lb, mp, ml, mq⟩;clear eA;have lws : ws.length = i := by rw [<- pr4.length]; exact lp
  have lvs : vs.length = o := by rw [<- pr5.length]; exact ll
  have alM : ∀ q, V.ref q ∈ us → H3 q ≠ none /\ q ≠ b /\ H4 q ≠ none := λq hq => by
    obtain ⟨q', qs, e, ⟨a1, a2⟩, r, z⟩ := rm _ hq;cases e;have qb : q ≠ b := λy => B2.at (by rw [<- y]; exact a1)
    obtain ⟨xq, gq, _⟩ := id r;obtain ⟨xq4, gq4, _⟩ := r.upto u4 B3 qb;exact ⟨(by rw [gq]; exact λz => nomatch z), qb, (by rw [gq4]; exact λz => nomatch z)⟩
  have alP : ∀ q, V.ref q ∈ ws → H3 q = none /\ H4 q ≠ none := λq hq => by
    obtain ⟨_, _, q', e, a, _, g, _⟩ := dE pr4 hq;cases e;exact ⟨a, by rw [g]; exact λz => nomatch z⟩
  have alL : ∀ q, V.ref q ∈ vs → H4 q = none := λq hq => by
    obtain ⟨_, _, q', e, a, _⟩ := dE pr5 hq;cases e;exact a
  have isR : ∀ x, x ∈ us \/ x ∈ ws \/ x ∈ vs → ∃ q, x = V.ref q := λx hx => by
    rcases hx with hx | hx | hx
    · obtain ⟨q, _, e, _⟩ := rm x hx; exact ⟨q, e⟩
    · obtain ⟨_, _, q, e, _⟩ := dE pr4 hx; exact ⟨q, e⟩
    · obtain ⟨_, _, q, e, _⟩ := dE pr5 hx; exact ⟨q, e⟩
  have nd : (us ++ vs ++ ws).Nodup := by
    refine dA.mpr ⟨dA.mpr ⟨ndm, ndl, λx hx y hy e => ?_⟩, ndp, λx hx y hy e => ?_⟩
    · subst e;obtain ⟨q, rfl⟩ := isR x (.inl hx);exact (alM q hx).2.2 (alL q hy)
    · subst e;obtain ⟨q, rfl⟩ := isR x (.inr (.inl hy));rcases av.mp hx with hx | hx
      · exact (alM q hx).1 (alP q hy).1
      · exact (alP q hy).2 (alL q hx)
  have X5 : La K A n (Dr (max w 6)) m p l b q0 us ws vs H H5 := by
    refine ⟨⟨B5, u05.2 _ I0, gm5, gp5, gl, lm, λx hx => ?_, nd⟩, gp5, gl, λc u e n1 _ _ => u05.1 c u e n1⟩;rcases av.mp hx with hx | hx
    · rcases av.mp hx with hx | hx
      · obtain ⟨q, qs, e, ⟨a1, a2⟩, r, z⟩ := rm x hx;obtain ⟨xq, gq, _⟩ := id r;have qb : q ≠ b := λy => B2.at (by rw [<- y]; exact a1)
        have r4 := r.upto u4 B3 qb;obtain ⟨xq4, gq4, _⟩ := id r4;exact ⟨q, qs, e, mkA (u02.none B2 a1) a2 (λy => by rw [y, np] at gq; cases gq) (λy => by rw [y, nl] at gq4; cases gq4), r4.upto u5 B4 qb, z⟩
      · refine F8 (A := A) pr5 hl (λq hq a b' => ?_) x hx;exact mkA (u04.none B4 a) (λy => by rw [y, gm4] at a; cases a) (λy => by rw [y, gp] at a; cases a) (λy => ko nx5 (by rw [<- y]; exact hq))
    · refine ig.upto (F8 (A := A) pr4 hp (λq hq a b' => ?_) x hx) u5 B4 MA.ab;exact mkA (u03.none B3 a) (λy => by rw [y, gm] at a; cases a) (λy => ko nx4 (by rw [<- y]; exact hq)) (λy => b' (by rw [y]; exact nl))
  clear alM alP alL isR rm pr4 pr5 nx4 nx5 gm gm4 gm5 gp gp5 gl hp hl;exists ⟨by lia, by lia, ?_⟩;refine dZ (n := n) (λkk σ' H' => (∃ x1 x2, σ' = [some (.ref b), some (.int n), some (.int i), some (.int o), some (.int w), some (.int way), some (.int first), some (.ref m), some (.ref p), some (.ref l), x1, x2]) /\ La K A n (Dr (max w 6)) m p l b q0 us ws vs H H') ⟨⟨_, _, rfl⟩, X5⟩ ?_ ?_
  · rintro kk σ' Hj hk ⟨⟨x1, x2, rfl⟩, X⟩;exists ⟨⟨_, bB.of X.gp⟩, ?_⟩;refine gL (K := K) (a := p) (xs := ws) (λs σ' H' => (∃ x2, σ' = [some (.ref b), some (.int n), some (.int i), some (.int o), some (.int w), some (.int way), some (.int first), some (.ref m), some (.ref p), some (.ref l), some (.int kk), x2]) /\ La K A n (Dr (max w 6)) m p l b q0 us ws vs H H') ⟨⟨_, rfl⟩, X⟩ (λs σ' H' _ ⟨_, e⟩ => bB.of e.gp) ?_ ?_
    · rintro s x σ' Hk hx ⟨⟨y2, rfl⟩, X⟩;have mx := ak hx;obtain ⟨q, _, rfl, _⟩ := X.row (.inl mx)
      repeat' (first | walk_at "rd" | refine iD (λ_ => ?_) (λ_ => ?_))
      all_goals first
        | exact ⟨⟨_, rfl⟩, X⟩
        | (refine cz λt Hb sb gb => ?_; walk_at "w"; obtain ⟨zs, gz, lz, Xz⟩ := (X.same sb).put MA (.inl mx) (cv.mk (q := 0) gb rfl) (uO (i := 0) (a7 _) W1) kk; refine fN gz (gK (by lia)) rfl ?_; exact ⟨⟨_, rfl⟩, Xz⟩)
        | (refine ⟨b, 2, rfl, X.mix.bag, by decide, by decide, λd Hd d0 d1 Bd ud => ?_⟩
           replace X := X.upto MA ud Bd
           repeat' (first | walk_at "rd" | refine iD (λ_ => ?_) (λ_ => ?_))
           all_goals first
             | exact ⟨⟨_, rfl⟩, X⟩
             | (refine cz λt Hb sb gb => ?_
                walk_at "w";obtain ⟨zs, gz, lz, Xz⟩ := (X.same sb).put MA (.inl mx) (cv.mk (q := 0) gb rfl) (uO (i := 0) (a7 _) W1) kk;refine fN gz (gK (by lia)) rfl ?_;exact ⟨⟨_, rfl⟩, Xz⟩))
    · rintro σ' Hk ⟨⟨y2, rfl⟩, X⟩;exists ⟨⟨_, bB.of X.gl⟩, ?_⟩;refine gL (K := K) (a := l) (xs := vs) (λs σ' H' => (∃ x2, σ' = [some (.ref b), some (.int n), some (.int i), some (.int o), some (.int w), some (.int way), some (.int first), some (.ref m), some (.ref p), some (.ref l), some (.int kk), x2]) /\ La K A n (Dr (max w 6)) m p l b q0 us ws vs H H') ⟨⟨_, rfl⟩, X⟩ (λs σ' H' _ ⟨_, e⟩ => bB.of e.gl) ?_ ?_
      · rintro s x σ' Hk hx ⟨⟨y2, rfl⟩, X⟩;have mx := ak hx;obtain ⟨q, _, rfl, _⟩ := X.row (.inr mx)
        repeat' (first | walk_at "rd" | refine iD (λ_ => ?_) (λ_ => ?_))
        all_goals first
          | exact ⟨⟨_, rfl⟩, X⟩
          | (refine cz λt Hb sb gb => ?_; walk_at "w"; obtain ⟨zs, gz, lz, Xz⟩ := (X.same sb).put MA (.inr mx) (cv.mk (q := 0) gb rfl) (uO (i := 0) (a7 _) W1) kk; refine fN gz (gK (by lia)) rfl ?_; exact ⟨⟨_, rfl⟩, Xz⟩)
          | (refine ⟨b, 2, rfl, X.mix.bag, by decide, by decide, λd Hd d0 d1 Bd ud => ?_⟩
             replace X := X.upto MA ud Bd
             repeat' (first | walk_at "rd" | refine iD (λ_ => ?_) (λ_ => ?_))
             all_goals first
               | exact ⟨⟨_, rfl⟩, X⟩
               | (refine cz λt Hb sb gb => ?_
                  walk_at "w";obtain ⟨zs, gz, lz, Xz⟩ := (X.same sb).put MA (.inr mx) (cv.mk (q := 0) gb rfl) (uO (i := 0) (a7 _) W1) kk;refine fN gz (gK (by lia)) rfl ?_;exact ⟨⟨_, rfl⟩, Xz⟩))
      · rintro σ' Hk ⟨⟨y2, rfl⟩, X⟩;exact ⟨⟨_, _, rfl⟩, X⟩
  · rintro σ' Hj ⟨⟨x1, x2, rfl⟩, X⟩
    obtain ⟨M1, M2, M3, V0, a1, a2, a3, V2, hcs, R1, R2, R3⟩ : ∃ M1 M2 M3 V0 : Nat, (0 < M1 /\ M1 ≤ 2 ^ 800) /\ (0 < M2 /\ M2 ≤ 2 ^ 800) /\ (0 < M3 /\ M3 ≤ 2 ^ 800) /\ V0 ≤ 2 ^ 20 /\ ((w ≤ 9 /\ M1 = 2520 /\ M2 = 2520 /\ M3 = 2520 /\ V0 = 9) \/ (9 < w /\ M1 ≤ 2 ^ (c * (n * n)) /\ M2 ≤ 2 ^ (c * (i * n)) /\ M3 ≤ 2 ^ (c * (o * n)) /\ V0 = 2 ^ c)) /\ (∀ x ∈ us, ig K A Hj n (Fr M1 V0) x) /\ (∀ x ∈ ws, ig K A Hj n (Fr M2 V0) x) /\ ∀ x ∈ vs, ig K A Hj n (Fr M3 V0) x := by
      by_cases w9 : w ≤ 9
      · have XM := X.mix.weak (C' := λ_ => Fr 2520 9) λ_ _ y h => K2 ⟨ah h.1 (by lia), ah h.2 (by lia)⟩ (vC _)
        have z : 0 < 2520 /\ 2520 ≤ 2 ^ 800 := ⟨by decide, ah (show 2520 ≤ 2 ^ 12 by decide) (au (by decide) (by decide))⟩;exact ⟨2520, 2520, 2520, 9, z, z, z, by decide, .inl ⟨w9, rfl, rfl, rfl, rfl⟩, λx hx => XM.row x (by simp [hx]), λx hx => XM.row x (by simp [hx]), λx hx => XM.row x (by simp [hx])⟩
      · obtain ⟨M1, M2, M3, a1, a2, a3, b1, b2, b3, R1, R2, R3⟩ := (X.mix.weak (C' := λ_ => Dr (2 ^ c)) λ_ _ y h => ⟨ah h.1 hc, ah h.2 hc⟩).fr3;rw [lws] at b2;rw [lvs] at b3;have up : ∀ {M k : Nat}, M ≤ 2 ^ (c * k) → k ≤ (n + i + o) * n → M ≤ 2 ^ 800 := λh hk => ah h (au (by decide) (ah (aP _ hk) hcM))
        exact ⟨M1, M2, M3, 2 ^ c, ⟨a1, up b1 (ay _ (by lia))⟩, ⟨a2, up b2 (ay _ (by lia))⟩, ⟨a3, up b3 (ay _ (by lia))⟩, au (by decide) hc20, .inr ⟨by lia, b1, b2, b3, rfl⟩, R1, R2, R3⟩
    obtain ⟨μ, e2, e3, e1, e4⟩ := OQ ws vs M1 M2 M3;obtain ⟨ap1, ap2⟩ := X.mix.apart
    have XM : kH K A Hj n (λx => Fr (μ x) V0) m p l b q0 us ws vs := by
      refine ⟨X.mix.bag, X.mix.inn, X.mix.gm, X.mix.gp, X.mix.gl, X.mix.lm, λx hx => ?_, X.mix.nd⟩;rcases av.mp hx with hx | hx
      · rcases av.mp hx with hx | hx
        · rw [e1 x (ap1 x hx).1 (ap1 x hx).2]; exact R1 x hx
        · rw [e3 x hx (ap2 x hx)]; exact R3 x hx
      · rw [e2 x hx]; exact R2 x hx
    have p1 : ∀ x, 0 < μ x := λx => by
      rcases e4 x with e | e | e
      · rw [e]; exact a1.1
      · rw [e]; exact a2.1
      · rw [e]; exact a3.1
    have p2 : ∀ x, μ x ≤ 2 ^ 800 := λx => by
      rcases e4 x with e | e | e
      · rw [e]; exact a1.2
      · rw [e]; exact a2.2
      · rw [e]; exact a3.2
    have gmj := X.mix.gm;exists ⟨b, m, p, l, q0, n, V0, μ, A, us, ws, vs, rfl, MA, XM, n8, by lia, by lia, p1, p2, ⟨M1, e1⟩, V2, λq hq => ?_, λr us' H' g Y kp => ?_⟩
    · refine mkA ?_ (λz => by rw [z, gmj] at hq; cases hq) (λz => by rw [z, X.gp] at hq; cases hq) (λz => by rw [z, X.gl] at hq; cases hq);cases e : H q with
      | none => rfl
      | some u =>
        have := X.kp q u e (λz => X.mix.bag.at (by rw [<- z]; exact hq)) (λz => by have := (unA z).1; rw [e] at this; cases this) (λz => by rw [z, hm0] at e; cases e);rw [hq] at this; cases this
    · obtain ⟨yp1, yp2⟩ := Y.apart;obtain ⟨mv, Gm, lmv, hmv⟩ := lF (H0 := H) (n := n) (C := Fr M1 (9 ^ 3 * V0)) (m := n) ⟨us', Y.gm, Y.lm, MA.am, λx hx => by have := Y.row x (by simp [hx]); rwa [e1 x (yp1 x hx).1 (yp1 x hx).2] at this⟩ λq h => (unA h).1
      obtain ⟨pt, Gp, lpt, hpt⟩ := lF (H0 := H) (n := n) (C := Fr M2 (9 ^ 3 * V0)) (m := i) ⟨ws, Y.gp, lws, MA.ap, λx hx => by have := Y.row x (by simp [hx]); rwa [e2 x hx] at this⟩ λq h => (unA h).1
      obtain ⟨lk, Gl, llk, hlk⟩ := lF (H0 := H) (n := n) (C := Fr M3 (9 ^ 3 * V0)) (m := o) ⟨vs, Y.gl, lvs, MA.al, λx hx => by have := Y.row x (by simp [hx]); rwa [e3 x hx (yp2 x hx)] at this⟩ λq h => (unA h).1
      refine k r mv pt lk H' ⟨m, p, l, g, hm0, hp0, hl0, Gm, Gp, Gl⟩ lmv lpt llk ⟨by lia, by lia, by lia, λxs hx => by rw [(hmv xs hx).1, lmv], λxs hx => by rw [(hpt xs hx).1, lmv], λxs hx => by rw [(hlk xs hx).1, lmv]⟩ ⟨M1, M2, M3, 9 ^ 3 * V0, a1.1, a2.1, a3.1, λxs hx => (hmv xs hx).2, λxs hx => (hpt xs hx).2, λxs hx => (hlk xs hx).2, ?_⟩ Y.bag ⟨λc' u e n1 => (X.kp.trans kp) c' u e n1 (λz => by have := (unA z).1; rw [e] at this; cases this) (λz => by rw [z, hm0] at e; cases e), λq h => by rw [<- Inner.inj I0 h]; exact Y.inn⟩;rcases hcs with ⟨b1, b2, b3, b4, b5⟩ | ⟨b1, b2, b3, b4, b5⟩
      · exact .inl ⟨b1, b2, b3, b4, by rw [b5]⟩
      · exact .inr ⟨b1, b2, b3, b4, by rw [b5]⟩
theorem ju:sC ["_law_bag_here","_law_n","_law_ins","_law_outs","_law_wide"] 1 rg:=by walk_at "d"
theorem D4 (T:Txt K mg Z) (ptree:P.given.tree=none):cD P w K mg base fA 6 Z.yN Z.yw ["_law_bag_here"] (Kh K):=by
 have aX:=fg (P:=P) (w:=w) (base:=base) T ptree;have JT:=GI (P:=P) (w:=w) (base:=base) T ptree;have HS:=DY (P:=P) (w:=w) (base:=base) T ptree;have HU:=DZ (P:=P) (w:=w) (base:=base) T ptree;refine T.pI.F.k ju ?_;walk_at "i";obtain ⟨b,rfl,hB,k⟩:=h
 refine ⟨_,(ao (cV (aV fo (cE aX hr T.a9 (cR bP aj)) aj (be _)) (ax (aK (dm (cR (cE JT hr T.rO (dc bP)) aj)))) bK)
  (ao (fG (cE HS hr T.pF (dc bP)) (o6 rfl (b6 (dX 1 ju.nd) (b6 (dX 2 ju.nd) (b6 (dX 3 ju.nd) (b6 (dX 4 ju.nd) gE))))))
  (ax (aK (dm (cR (cE HU hr T.pG (gG bP (JX cL dS iu m5))) (bo (vv rfl) (by rfl) T.min PyProof.Rows.boot_min (cR m5 aj)))))))),?_⟩
 walk_at "s";have sf:∀{mv pt lk:LR9} {M V1:Nat},0 < M->M<=2^400->V1<=2^30->GF M V1 mv->GF M V1 pt->GF M V1 lk->JY mv pt lk:=λh0 h1 h2 a b c=>⟨_,_,h0,h1,ah h2 (au (by decide) (by decide)),a,b,c⟩
 have et:∀{mv:LR9},(aW mv mv.length).length=mv.length:=bZ;exists ⟨b,16,rfl,hB,by decide,by decide,λv H2 v0 v1 B2 u2=>?_⟩;exists iD (λh0=>?_) (λh0=>?_)
 ·exists ⟨b,rfl,B2,λr4 mv pt lk H4 P4 l6 D fm fp fl B4 u4=>?_⟩;have d8:=D.n8;exists cz λt H5 s5 g5=>?_
  exact k t r4 4 mv pt lk H5 g5 ((P4.weak λq h=>u2.none B2 h).same s5) D (sf (by decide) bU (by decide) fm fp fl) (.inl ⟨by decide,⟨by decide,by decide,by decide,by decide,fm,fp,(ah (ay _ (show mv.length+4<=12 by lia)) (by decide))⟩,⟨by decide,by decide,by decide,by decide,FJ fm,fl,(ah (ay _ (show (aW mv mv.length).length+4<=12 by rw[et];lia)) (by decide))⟩⟩) (by decide) (by decide) (B4.same s5) ((u2.trans u4).same s5)
 ·exists ⟨b,rfl,B2,λr n i o w H1 g1 n5 i4 o4 hw h5 B1 u1=>?_⟩;have u02:=u2.trans u1
  obtain ⟨c,hc,hc20,hcM⟩:∃c:Nat,max w 6<=2^c/\c<=20/\c*((n+i+o)*n)<=800/\(9 < w->c=20/\(n+i+o)*n<=20/\n<=2):=by
   have m1:(n+i+o)*n<=13*5:=aE (by lia) n5;rcases hw with rfl | rfl | ⟨rfl,n2⟩
   ·exact ⟨4,by decide,by decide,by lia,λz=>by lia⟩
   ·exact ⟨4,by decide,by decide,by lia,λz=>by lia⟩
   ·have m2:(n+i+o)*n<=10*2:=aE (by lia) n2;exact ⟨20,by decide,by decide,by lia,λ_=>⟨rfl,by lia,n2⟩⟩
  obtain ⟨hcM,hbig⟩:=hcM;exists ⟨b,n,i,o,w,c,rfl,B1,by lia,i4,o4,by lia,by lia,hc,hc20,hcM,λr4 mv pt lk H4 P4 lm lp ll D PG B4 u4=>?_⟩;have hmin:(if (1000:Int) < (w:Int) then (1000:Int) else (w:Int))=((min w 1000:Nat):Int):=by split <;> lia
  have SF:JY mv pt lk:=by
   obtain ⟨M,V1,M0,fm,fp,fl,hcs⟩:=PG.n;rcases hcs with ⟨w9,rfl,rfl⟩ | ⟨w9,M1,rfl⟩
   ·exact sf (by decide) (ah (show 2520<=2^12 by decide) (au (by decide) (by decide))) (by decide) fm fp fl
   ·obtain ⟨rfl,e1,e2⟩:=hbig w9;exact sf M0 (ah M1 (au (by decide) (by lia))) (by decide) fm fp fl
  have RG:Rj mv pt lk (min w 1000):=by
   obtain ⟨M1,M2,M3,V1,a1,a2,a3,f1,f2,f3,hc'⟩:=PG;rcases hc' with ⟨w9,rfl,rfl,rfl,rfl⟩ | ⟨w9,b1,b2,b3,rfl⟩
   ·exact .inr (.inl ⟨by lia,by lia,⟨by decide,by decide,by decide,by decide,f1,f2,(ah (ay _ (show mv.length+4<=9 by lia)) (by decide))⟩,⟨by decide,by decide,by decide,by decide,FJ f1,f3,(ah (ay _ (show (aW mv mv.length).length+4<=9 by rw[et];lia)) (by decide))⟩⟩)
   ·obtain ⟨rfl,e1,e2⟩:=hbig w9;have q1:n*n<=2*2:=aE e2 e2;have q2:o*n<=4*2:=aE o4 e2;have q3:i*n<=4*2:=aE i4 e2;have w6:w=1000000:=by lia
    exact .inr (.inr ⟨by lia,by lia,M1,M2,M3,⟨a1,a2,ah b1 (au (by decide) (by lia)),ah b2 (au (by decide) (by lia)),f1,f2,(ah (ay _ (show mv.length+4<=6 by lia)) (by decide))⟩,⟨a1,a3,ah b1 (au (by decide) (by lia)),ah b3 (au (by decide) (by lia)),FJ f1,f3,(ah (ay _ (show (aW mv mv.length).length+4<=6 by rw[et];lia)) (by decide))⟩⟩)
  exists cz λt H5 s5 g5=>?_
  rw[hmin] at g5;exact k t r4 (min w 1000) mv pt lk H5 g5 ((P4.weak λq h=>u02.none B1 h).same s5) D SF RG (by lia) (by lia) (B4.same s5) ((u02.trans u4).same s5)
theorem FR:sC ["thing","at","most"] 3 tW:=by walk_at "d"
theorem Gs (T:Txt K mg Z) (ptree:P.given.tree=none):cD P w K mg base fA 1 Z.AF Z.Ak ["thing","at","most"] Lo:=by
 refine T.kq.F.k FR ?_;walk_at "i";obtain ⟨p,xs,a,m,rfl,gx,hm,k⟩:=h
 refine ⟨_,(ao (cV (jN (iF (wX rfl T.isinstance PyProof.Rows.boot_list T.list bP))) (ax OC) bK)
  (ax (cV (aV pT (bo aM (by rfl) T.len aJ (dc bP)) dS (be _)) (ax OC) bK))),?_⟩
 walk_at "s";exists ⟨_,_,.lst gx,rfl,?_⟩;exists ⟨_,_,rfl,.inl (bB.of gx),?_⟩;walk_at "w";rw[decide_eq_false (show ¬m < (xs.length:Int) by lia)];exists k
theorem II:sC ["thing"] 1 wM:=by walk_at "d"
theorem IZ (T:Txt K mg Z) (ptree:P.given.tree=none):cD P w K mg base fA 1 Z.Dq Z.Dc ["thing"] Mu:=by
 refine T.oF.F.k II ?_;walk_at "i";obtain ⟨i,rfl,k⟩:=h;refine ⟨_,(ax (aK (Gh (wX rfl T.isinstance PyProof.Rows.boot_int T.int bP) (Gf (T1 (wX rfl T.isinstance PyProof.Rows.boot_bool T.bool bP)))))),?_⟩;walk_at "s";exists ⟨_,_,.int i,rfl,?_⟩;exists ⟨_,_,.int i,rfl,?_⟩;exists k
theorem iJ:sC ["one","other","rest"] 2 kX:=by walk_at "d"
theorem kn (T:Txt K mg Z) (ptree:P.given.tree=none):cD P w K mg base fA 1 Z.qv Z.pZ ["one","other"] U4:=by
 refine T.gH.F.k iJ ?_;walk_at "i";obtain ⟨a,b,rfl,k⟩:=h
 refine ⟨_,(ao (Cs PassesOwn.never (aV vJ cL aj (be _))
   (ao (eK 2 iJ.nd (bF Q9 bP cL))
  (ao (eK 0 iJ.nd cL)
  (ax (eK 1 iJ.nd dS)))))
  (ax (aK (bo Dm (by rfl) T.abs PyProof.Rows.boot_abs (dc bP))))),?_⟩
 walk_at "s";exists FH (λσ' H'=>∃(u v:Int) (r:Option V),σ'=[some (.int u),some (.int v),r]/\H'=H/\Int.gcd u v=Int.gcd a b) (λσ' _=>match σ' with | [_,some (.int v),_]=>v.natAbs | _=>0) ⟨a,b,none,rfl,rfl,rfl⟩ ?_;rintro σ' H' ⟨u,v,r,rfl,rfl,hg⟩;exists iD (λh=>?_) (λh=>?_)
 ·have hv:v≠0:=λz=>by subst z;simp at h
  exists fv (show v≠0 from hv) ?_;exists ⟨⟨v,u.fmod v,_,rfl,rfl,(Pb u v).trans hg⟩,RD u v hv⟩
 ·have hv:v=0:=by
   by_cases z:v=0
   ·exact z
   ·exfalso;apply h;simp [z]
  subst hv;walk_at "w"
  have e:(if u < 0 then -u else u)=g a b:=by
   unfold g;rw[<- hg,Int.gcd_zero_right]
   split <;> lia
  rw[e];exact k
theorem FV:sC ["thing"] 1 uc:=by walk_at "d"
theorem Gv (T:Txt K mg Z) (ptree:P.given.tree=none):cD P w K mg base fA 2 Z.AJ Z.Ao ["thing"] (Mx K):=by
 have DA:=IZ (P:=P) (w:=w) (base:=base) T ptree;have ia:=kn (P:=P) (w:=w) (base:=base) T ptree;refine T.rF.F.k FV ?_;walk_at "i";obtain ⟨x,n,rfl,⟨p,rfl,hp⟩,hn,k⟩:=h
 refine ⟨_,(ao (cV (PW.pt (kR (jN (iF (Bp rfl T.isinstance PyProof.Rows.boot_tuple T.tuple bP))) (jq (aV vJ (bo aM (by rfl) T.len aJ (dc bP)) aj (be _))))) (ax (aK lZ)) bK)
  (ao (cV (PW.pt (kR (jN (iF (cE DA hr T.oF (dc (aL bu bP aj))))) (jq (jN (iF (cE DA hr T.oF (dc (aL bu bP aj)))))))) (ax (aK lZ)) bK)
  (ax (aK (Gh (jd EJ (aL bu bP aj) aj (be _)) (Gf (jd fo (cE ia hr T.gH (cR (aL bu bP aj) (aL bu bP aj))) aj (be _)))))))),?_⟩
 walk_at "s";obtain ⟨hb,hg,s1,s2⟩:=hn;exists .inr ⟨p,_,_,rfl,hp,rfl,?_⟩;exists ⟨_,_,rfl,.inr hp,?_⟩;walk_at "w"
 try refine O3 ?_
 exists ⟨n.1,rfl,?_⟩;exists ⟨n.2,rfl,?_⟩;walk_at "w";rw[decide_eq_true (show (1:Int)<=n.2 by lia)];exists ⟨n.1,n.2,rfl,?_⟩;walk_at "w";have e:g n.1 n.2=1:=by unfold g;rw[hg];rfl
 rw[e,decide_eq_true rfl];exact k _ (aB.refl _)
theorem MB:sC ["thing","many"] 2 Cm:=by walk_at "d"
theorem MO (T:Txt K mg Z) (ptree:P.given.tree=none):cD P w K mg base fA 3 Z.JF Z.Jt ["thing","many"] (zm K):=by
 have JN:=Gv (P:=P) (w:=w) (base:=base) T ptree;refine T.zS.F.k MB ?_;walk_at "i";obtain ⟨p,ns,rfl,hp,hl,hn,k⟩:=h
 refine ⟨_,(ao (cV (PW.pt (kR (jN (iF (wX rfl T.isinstance PyProof.Rows.boot_list T.list bP))) (jq (aV vJ (bo aM (by rfl) T.len aJ (dc bP)) cL (be _))))) (ax (aK lZ)) bK)
  (ax (aK (bo (Dl rfl) (by rfl) T.all PyProof.Rows.boot_all (dc (cx ["value"] [] [] (cA bP) (λ_=>(dX 0)) (λ_=>cG) (λ_=>(cE JN hr T.rF (dc bP))))))))),?_⟩
 walk_at "s";obtain ⟨xs,gx,qx⟩:=id hp;have lx:=qx.length;exists ⟨_,_,.lst gx,rfl,?_⟩;exists ⟨_,_,rfl,.inl (bB.of gx),?_⟩;walk_at "w";rw[show ((xs.length:Nat):Int)=(ns.length:Nat) by rw[lx],decide_eq_true rfl];exists ⟨⟨_,bB.of gx⟩,?_⟩;refine eO (K:=K) (xs:=xs) (λi ys H'=>aB H H'/\ys=List.replicate i (.bl true)) lE ⟨aB.refl _,rfl⟩ (λi ys H' _ ⟨s,_⟩=>bB.of (s _ _ gx)) ?_ ?_
 ·rintro i x ys H' hx hlen ⟨s,rfl⟩;obtain ⟨n,en,z⟩:=bQ qx hx;exists ⟨x,n,rfl,s.num z,hn n (ak en),λH2 s2=>⟨s.trans s2,by rw[FD]⟩⟩
 ·rintro ys H' hy ⟨s,rfl⟩ l hl';exists ⟨l,List.replicate xs.length true,rfl,bB.of (by rw[aD];simp),?_⟩;have e4:(List.replicate xs.length true).all id=true:=by simp
  rw[e4];exact k _ (s.trans (aB.new hl'))
theorem nh:sC ["things","wide","place","thing"] 2 oW:=by walk_at "d"
theorem CI (T:Txt K mg Z) (ptree:P.given.tree=none):cD P w K mg base fA 4 Z.wa Z.vS ["things","wide"] (Lr K):=by
 have PL:=MO (P:=P) (w:=w) (base:=base) T ptree;refine T.iZ.F.k nh ?_;walk_at "i";obtain ⟨p,H0,rows,w,rfl,hp,hl,hw,hn,k⟩:=h
 refine ⟨_,(ao (dw PassesOwn.never rfl (Lv rfl T.enumerate (dc bP)) (o6 rfl (b6 (dX 2 nh.nd) (b6 (dX 3 nh.nd) gE)))
   (ax (cV (jN (iF (cE PL hr T.zS (cR iu cL)))) (ax OC) bK)))
  (ax (aK (cx ["row"] [] [] (cA bP) (λ_=>(dX 0)) (λ_=>cG) (λ_=>(fz (jy K (by rfl)) (by rfl) T.list PyProof.Rows.boot_list (dc bP))))))),?_⟩
 walk_at "s";obtain ⟨xs,gx,qx,_⟩:=id hp;exists ⟨⟨_,bB.of gx⟩,?_⟩;refine Pe (K:=K) (l:=p) (xs:=xs) (λi σ' H'=>aB H H'/\∃x y,σ'=[some (.ref p),some (.int w),x,y]) ⟨aB.refl _,none,none,rfl⟩ (λi σ' H' _ ⟨s,_⟩=>bB.of (s _ _ gx)) ?_ ?_
 ·rintro i x σ' H' t hx ⟨s,x1,y1,rfl⟩ ht;obtain ⟨qs,eq,q,rfl,_,Rq⟩:=bQ qx hx;have hm:=ak eq;have st:aB H' (upd H' t (.tup [.int i,.ref q])):=aB.new ht;have gt:(upd H' t (.tup [.int i,.ref q])) t=some (.tup [.int i,.ref q]):=aD;have s2:=s.trans st;generalize upd H' t (.tup [.int i,.ref q])=H2 at st gt s2 ⊢;have lq:(qs.map nm).length=w:=by rw[ag];exact (hn qs hm).1
  exists ⟨q,_,by rw[lq],(Rq.same s2).rowK,by rw[lq];exact hw,λn hn'=>?_,λH3 s3=>?_⟩
  ·obtain ⟨y,hy,rfl⟩:=aw.mp hn';exact (hn qs hm).2 y hy
  exists ⟨s2.trans s3,_,_,rfl⟩
 ·rintro σ' H' ⟨s,x1,y1,rfl⟩;exists ⟨⟨_,bB.of (s _ _ gx)⟩,?_⟩;refine d4 (K:=K) (F:=cW K H0) (cW K H) id (s _ _ gx) (Paired.imp' (λ_ _ z=>z.same s) qx) hl (λa b=>a.same b) (λa b=>a.same b) ?_ ?_
  ·rintro i ns x H2 NY NN en s2 ⟨u,rfl,_,zs,gz,qz⟩ k1;exists ⟨u,zs,rfl,.inl (bB.of gz),λl1 hl1=>?_⟩;exact k1 _ _ (aB.new hl1) ⟨l1,rfl,s.none (s2.none hl1),zs,aD,Paired.imp' (λ_ _ z=>z.same (aB.new hl1)) qz⟩
  ·rintro ys' H2 r hr s2 g pr nx;rw[tj] at pr nx;exact k r H2 (s.none hr) (s.trans s2) ⟨ys',g,pr,ko nx⟩
theorem wJ:sC ["self","move","put","look"] 4 eN:=by walk_at "d"
theorem nN (T:Txt K mg Z) (ptree:P.given.tree=none):cD P w K mg base fA 5 Z.kF Z.kD ["self","move","put","look"] (Lp K Z.a_System):=by
 have vd:=Gs (P:=P) (w:=w) (base:=base) T ptree;have pM:=CI (P:=P) (w:=w) (base:=base) T ptree;refine T.oM.k wJ ?_;walk_at "i";obtain ⟨x,dx,p,q,r,Hb,H0,H1,H2,mv,pt,lk,rfl,nx,ndx,nex,rfl,gp,gq,gr,D,om,op,ol,k⟩:=h
 refine ⟨_,(ao (fO (cE vd hr T.kq (tG cL aj (mQ (v:=.int 8) rfl T.mg_MOST_STATES ⟨_,rfl⟩))))
  (ao (zL bP (cE pM hr T.iZ (cR cL (bo aM (by rfl) T.len aJ (dc cL)))) rfl)
  (ao (zL bP (bo aM (by rfl) T.len aJ (dc (fW bP rfl))) rfl)
  (ao (fO (cE vd hr T.kq (tG dS aj (mQ (v:=.int 4) rfl T.mg_MOST_PUTS ⟨_,rfl⟩))))
  (ao (zL bP (cE pM hr T.iZ (cR dS (fW bP rfl))) rfl)
  (ao (zL bP (bo aM (by rfl) T.len aJ (dc (fW bP rfl))) rfl)
  (ao (fO (cE vd hr T.kq (tG iu aj (mQ (v:=.int 4) rfl T.mg_MOST_LOOKS ⟨_,rfl⟩))))
  (ao (zL bP (cE pM hr T.iZ (cR iu (fW bP rfl))) rfl)
  (ax (zL bP (bo aM (by rfl) T.len aJ (dc (fW bP rfl))) rfl)))))))))),?_⟩
 walk_at "s"
 have s0:aB Hb (upd (upd Hb dx (.own x)) x (.ins Z.a_System dx [])):=λb o e=>by
  rw[bc (gO e nx),bc (gO e ndx)];exact e
 have hx:(upd (upd Hb dx (.own x)) x (.ins Z.a_System dx [])) x=some (.ins Z.a_System dx []):=aD;have back:∀{b},(upd (upd Hb dx (.own x)) x (.ins Z.a_System dx [])) b=none->Hb b=none:=λh=>s0.none h
 generalize upd (upd Hb dx (.own x)) x (.ins Z.a_System dx [])=Ha at s0 hx back ⊢;obtain ⟨xs,gx,qx,_⟩:=id gp;obtain ⟨ys,gy,qy,_⟩:=id gq;obtain ⟨zs,gz,qz,_⟩:=id gr;have lx:=qx.length;have ly:=qy.length;have lz:=qz.length;have d1:=D.n8;have d2:=D.i4;have d3:=D.o4;exists ⟨p,xs,0,8,rfl,s0 _ _ gx,by lia,?_⟩;exists ⟨_,_,rfl,.inl (bB.of (s0 _ _ gx)),?_⟩;exists ⟨p,H0,mv,mv.length,by rw[lx],gp.same s0,by lia,by lia,λws hw=>⟨D.mw ws hw,om ws hw⟩,λa H3 na s3 Ga=>?_⟩;have hx3:=s3 _ _ hx;exists ⟨x,Z.a_System,dx,_,rfl,hx3,T.cl_System,T.na_move,(by show 0 < 1000;decide),?_⟩;have e3:HX x H3 (upd H3 x (.ins Z.a_System dx (cF "move" (.ref a) []))):=HX.upd;have i3:wB H3 x:=⟨_,_,_,hx3⟩;have hx4:(upd H3 x (.ins Z.a_System dx (cF "move" (.ref a) []))) x=some (.ins Z.a_System dx (cF "move" (.ref a) [])):=aD;have Ga4:=Ga.exc e3 i3;have k4:aB Hb (upd H3 x (.ins Z.a_System dx (cF "move" (.ref a) []))):=(s0.trans s3).after nx;generalize upd H3 x (.ins Z.a_System dx (cF "move" (.ref a) []))=H4 at e3 hx4 Ga4 k4 ⊢;exists ⟨x,Z.a_System,dx,_,_,rfl,hx4,T.cl_System,T.na_move,(by rw[bC,if_pos rfl]),?_⟩;obtain ⟨as,ga,qa,_⟩:=id Ga4;have la:=qa.length;exists ⟨_,_,rfl,.inl (bB.of ga),?_⟩;exists ⟨x,Z.a_System,dx,_,rfl,hx4,T.cl_System,T.na_states,br eX (by show 1 < 1000;decide),?_⟩;rw[show ((as.length:Nat):Int)=((mv.length:Nat):Int) by rw[la]];have e4:HX x H4 (upd H4 x (.ins Z.a_System dx (cF "states" (.int mv.length) (cF "move" (.ref a) [])))):=HX.upd;have i4:wB H4 x:=⟨_,_,_,hx4⟩;have hx5:(upd H4 x (.ins Z.a_System dx (cF "states" (.int mv.length) (cF "move" (.ref a) [])))) x=some (.ins Z.a_System dx (cF "states" (.int mv.length) (cF "move" (.ref a) []))):=aD;have Ga5:=Ga4.exc e4 i4;have k5:aB Hb (upd H4 x (.ins Z.a_System dx (cF "states" (.int mv.length) (cF "move" (.ref a) [])))):=k4.after nx;generalize upd H4 x (.ins Z.a_System dx (cF "states" (.int mv.length) (cF "move" (.ref a) [])))=H5 at e4 hx5 Ga5 k5 ⊢;clear e3 e4 i3 i4 hx4 Ga4 ga qa;exists ⟨q,ys,1,4,rfl,k5 _ _ gy,by lia,?_⟩;exists ⟨x,Z.a_System,dx,_,_,rfl,hx5,T.cl_System,T.na_states,(by rw[bC,if_pos rfl]),?_⟩;exists ⟨q,H1,pt,mv.length,rfl,gq.same k5,by lia,by lia,λws hw=>⟨D.pw ws hw,op ws hw⟩,λb H6 nb s6 Gb=>?_⟩;have hx6:=s6 _ _ hx5;have i6:wB H6 x:=⟨_,_,_,hx6⟩;exists ⟨x,Z.a_System,dx,_,rfl,hx6,T.cl_System,T.na_put,br eX (br (dN eX) (by show 2 < 1000;decide)),?_⟩;have e6:HX x H6 (upd H6 x (.ins Z.a_System dx (cF "put" (.ref b) (cF "states" (.int mv.length) (cF "move" (.ref a) []))))):=HX.upd;have hx7:(upd H6 x (.ins Z.a_System dx (cF "put" (.ref b) (cF "states" (.int mv.length) (cF "move" (.ref a) []))))) x=some (.ins Z.a_System dx (cF "put" (.ref b) (cF "states" (.int mv.length) (cF "move" (.ref a) [])))):=aD;have Ga7:=(Ga5.same s6).exc e6 i6;have Gb7:=(Gb.weak k5).exc e6 i6;have k7:aB Hb (upd H6 x (.ins Z.a_System dx (cF "put" (.ref b) (cF "states" (.int mv.length) (cF "move" (.ref a) []))))):=(k5.trans s6).after nx;generalize upd H6 x (.ins Z.a_System dx (cF "put" (.ref b) (cF "states" (.int mv.length) (cF "move" (.ref a) []))))=H7 at e6 hx7 Ga7 Gb7 k7 ⊢;obtain ⟨bs,gb,qb,_⟩:=id Gb7;have lb:=qb.length;exists ⟨x,Z.a_System,dx,_,_,rfl,hx7,T.cl_System,T.na_put,(by rw[bC,if_pos rfl]),?_⟩;exists ⟨_,_,rfl,.inl (bB.of gb),?_⟩;exists ⟨x,Z.a_System,dx,_,rfl,hx7,T.cl_System,T.na_ins,br eX (br (dN (ah eX (dN eX))) (by show 3 < 1000;decide)),?_⟩;rw[show ((bs.length:Nat):Int)=((pt.length:Nat):Int) by rw[lb]];have i7:wB H7 x:=⟨_,_,_,hx7⟩;have e7:HX x H7 (upd H7 x (.ins Z.a_System dx (cF "ins" (.int pt.length) (cF "put" (.ref b) (cF "states" (.int mv.length) (cF "move" (.ref a) [])))))):=HX.upd;have hx8:(upd H7 x (.ins Z.a_System dx (cF "ins" (.int pt.length) (cF "put" (.ref b) (cF "states" (.int mv.length) (cF "move" (.ref a) [])))))) x=some (.ins Z.a_System dx (cF "ins" (.int pt.length) (cF "put" (.ref b) (cF "states" (.int mv.length) (cF "move" (.ref a) []))))):=aD;have Ga8:=Ga7.exc e7 i7;have Gb8:=Gb7.exc e7 i7;have k8:aB Hb (upd H7 x (.ins Z.a_System dx (cF "ins" (.int pt.length) (cF "put" (.ref b) (cF "states" (.int mv.length) (cF "move" (.ref a) [])))))):=k7.after nx;generalize upd H7 x (.ins Z.a_System dx (cF "ins" (.int pt.length) (cF "put" (.ref b) (cF "states" (.int mv.length) (cF "move" (.ref a) [])))))=H8 at e7 hx8 Ga8 Gb8 k8 ⊢;clear e6 e7 i6 i7 hx7 Ga7 Gb7 gb qb;exists ⟨r,zs,2,4,rfl,k8 _ _ gz,by lia,?_⟩;exists ⟨x,Z.a_System,dx,_,_,rfl,hx8,T.cl_System,T.na_states,(by rw[bC,if_neg (by decide +kernel),bC,if_neg (by decide +kernel),bC,if_pos rfl]),?_⟩;exists ⟨r,H2,lk,mv.length,rfl,gr.same k8,by lia,by lia,λws hw=>⟨D.lw ws hw,ol ws hw⟩,λc H9 nc s9 Gc=>?_⟩;have hx9:=s9 _ _ hx8;have i9:wB H9 x:=⟨_,_,_,hx9⟩;exists ⟨x,Z.a_System,dx,_,rfl,hx9,T.cl_System,T.na_look,br eX (br (dN (ah eX (dN (ah eX (dN eX))))) (by show 4 < 1000;decide)),?_⟩;have e9:HX x H9 (upd H9 x (.ins Z.a_System dx (cF "look" (.ref c) (cF "ins" (.int pt.length) (cF "put" (.ref b) (cF "states" (.int mv.length) (cF "move" (.ref a) []))))))):=HX.upd;have hxA:(upd H9 x (.ins Z.a_System dx (cF "look" (.ref c) (cF "ins" (.int pt.length) (cF "put" (.ref b) (cF "states" (.int mv.length) (cF "move" (.ref a) []))))))) x=some (.ins Z.a_System dx (cF "look" (.ref c) (cF "ins" (.int pt.length) (cF "put" (.ref b) (cF "states" (.int mv.length) (cF "move" (.ref a) [])))))):=aD;have GaA:=(Ga8.same s9).exc e9 i9;have GbA:=(Gb8.same s9).exc e9 i9;have GcA:=(Gc.weak k8).exc e9 i9;have kA:aB Hb (upd H9 x (.ins Z.a_System dx (cF "look" (.ref c) (cF "ins" (.int pt.length) (cF "put" (.ref b) (cF "states" (.int mv.length) (cF "move" (.ref a) []))))))):=(k8.trans s9).after nx;generalize upd H9 x (.ins Z.a_System dx (cF "look" (.ref c) (cF "ins" (.int pt.length) (cF "put" (.ref b) (cF "states" (.int mv.length) (cF "move" (.ref a) []))))))=HA at e9 hxA GaA GbA GcA kA ⊢;obtain ⟨cs,gc,qc,_⟩:=id GcA;have lc:=qc.length;exists ⟨x,Z.a_System,dx,_,_,rfl,hxA,T.cl_System,T.na_look,(by rw[bC,if_pos rfl]),?_⟩;exists ⟨_,_,rfl,.inl (bB.of gc),?_⟩;exists ⟨x,Z.a_System,dx,_,rfl,hxA,T.cl_System,T.na_outs,br eX (br (dN (ah eX (dN (ah eX (dN (ah eX (dN eX))))))) (by show 5 < 1000;decide)),?_⟩;rw[show ((cs.length:Nat):Int)=((lk.length:Nat):Int) by rw[lc]];have iA:wB HA x:=⟨_,_,_,hxA⟩;exact k _ (kA.after nx) ⟨dx,a,b,c,aD,back na,k5.none nb,k8.none nc,(GaA.exc HX.upd iA).weak s0,GbA.exc HX.upd iA,GcA.exc HX.upd iA⟩
theorem Cf:sC ["_law_grid"] 1 o3:=by walk_at "d"
theorem iX (T:Txt K mg Z) (ptree:P.given.tree=none):cD P w K mg base fA 1 Z.wo Z.vW ["_law_grid"] (BZ K):=by
 refine T.dg.F.k Cf ?_;walk_at "i";obtain ⟨p,H0,rows,rfl,hp,hl,hm,k⟩:=h;refine ⟨_,(ax (aK (cx ["_law_row_here"] [] [] (cA bP) (λ_=>(dX 0)) (λ_=>cG) (λ_=>(fz (jy K (by rfl)) (by rfl) T.list PyProof.Rows.boot_list (dc bP)))))),?_⟩;walk_at "s";obtain ⟨xs,gx,qx,_⟩:=id hp;exists ⟨⟨_,bB.of gx⟩,?_⟩;refine d4 (K:=K) (F:=cW K H0) (cW K H) id gx qx hl (λa b=>a.same b) (λa b=>a.same b) ?_ ?_
 ·rintro i ns x H' NY NN en s ⟨u,rfl,_,zs,gz,qz⟩ k1;exists ⟨u,zs,rfl,.inl (bB.of gz),λl1 hl1=>?_⟩;exact k1 _ _ (aB.new hl1) ⟨l1,rfl,s.none hl1,zs,aD,Paired.imp' (λ_ _ z=>z.same (aB.new hl1)) qz⟩
 ·rintro ys' H' r hr s g pr nx;rw[tj] at pr nx;exact k r H' hr s ⟨ys',g,pr,ko nx⟩
theorem j9:sC ["_law_parts_here","_law_move_here","_law_put","_law_look"] 1 oX:=by walk_at "d"
theorem CJ (T:Txt K mg Z) (ptree:P.given.tree=none):cD P w K mg base fA 7 Z.wb Z.vT ["_law_parts_here"] (BO K Z.a_System):=by
 have kL:=nN (P:=P) (w:=w) (base:=base) T ptree;have c6:=iX (P:=P) (w:=w) (base:=base) T ptree;refine T.nX.F.k j9 ?_;walk_at "i";obtain ⟨r,H0,mv,pt,lk,rfl,PQ,D,F,k⟩:=h
 refine ⟨_,(ao (fG bP (o6 rfl (b6 (dX 1 j9.nd) (b6 (dX 2 j9.nd) (b6 (dX 3 j9.nd) gE)))))
  (ax (aK (Ly T.mk_System kL (hr.mono (by decide)) rfl T.mg_System T.kE .nil Cw (tG (cE c6 hr T.dg (dc cL)) (cE c6 hr T.dg (dc dS)) (cE c6 hr T.dg (dc iu))))))),?_⟩
 walk_at "s";obtain ⟨m,p,l,g,n1,n2,n3,Gm,Gp,Gl⟩:=id PQ;have d1:=D.n8;have d2:=D.i4;have d3:=D.o4;exists ⟨m,H0,mv,rfl,Gm,by lia,λxs hx=>by rw[D.mw xs hx];lia,λa H1 na s1 Ga=>?_⟩;exists ⟨p,H0,pt,rfl,Gp.same s1,by lia,λxs hx=>by rw[D.pw xs hx];lia,λb H2 nb s2 Gb=>?_⟩;have s12:=s1.trans s2;exists ⟨l,H0,lk,rfl,Gl.same s12,by lia,λxs hx=>by rw[D.lw xs hx];lia,λc H3 nc s3 Gc=>?_⟩;have s13:=s12.trans s3;walk_at "w";intro x dx nx ndx nex;exact ⟨x,dx,a,b,c,H3,H,H1,H2,mv,pt,lk,rfl,nx,ndx,nex,rfl,(Ga.same s2).same s3,Gb.same s3,Gc,D,F.ok.1,F.ok.2.1,F.ok.2.2,λH' s' S'=>⟨rfl,k x H' (s13.none nx) (s13.trans s') (S'.weak s13)⟩⟩
theorem DO:sC ["_law_bag_here","_law_n","_law_wide"] 3 qV:=by walk_at "d"
theorem DX (T:Txt K mg Z) (ptree:P.given.tree=none):cD P w K mg base fA 2 Z.yG Z.yn ["_law_bag_here","_law_n","_law_wide"] BP:=by
 have aX:=fg (P:=P) (w:=w) (base:=base) T ptree;refine T.pC.F.k DO ?_;walk_at "i";obtain ⟨b,n,w,rfl,hB,n8,k⟩:=h
 refine ⟨_,(ao (cV (aV pT dS aj (be _)) (ax (aK (cE aX hr T.a9 (cR bP aj)))) bK)
  (ao (cV (aV pT cL aj (be _)) (ax (aK (cE aX hr T.a9 (cR bP aj)))) bK)
  (ao (cV (aV pT cL aj (be _)) (ax (aK (aL bE (eU (cR (cE aX hr T.a9 (cR bP aj)) cL)) (cE aX hr T.a9 (cR bP aj))))) bK)
  (ao (cV (PW.pt (jr (aV sJ cL aj (be _)) (jD (aV fo (cE aX hr T.a9 (cR bP aj)) aj (be _))))) (ax (aK (cE aX hr T.a9 (cR bP aj)))) bK)
  (ax (aK (cE aX hr T.a9 (cR bP aj)))))))),?_⟩
 walk_at "s";exists iD (λh0=>?_) (λh0=>?_)
 ·have h0:=of_decide_eq_true h0;exists ⟨b,4,rfl,hB,by decide,by decide,λv H1 v0 v1 B1 u1=>?_⟩;obtain ⟨v,rfl⟩:=bT v0;exact k v H1 ⟨by lia,λ_=>by lia,λ_ _=>by lia,λ_=>by lia⟩ B1 u1
 have h0:¬((9:Int) < w):=λz=>h0 (decide_eq_true z)
 exists iD (λh1=>?_) (λh1=>?_)
 ·have h1:=of_decide_eq_true h1;exists ⟨b,13,rfl,hB,by decide,by decide,λv H1 v0 v1 B1 u1=>?_⟩;obtain ⟨v,rfl⟩:=bT v0;exact k v H1 ⟨by lia,λ_=>by lia,λ_ _=>by lia,λ_=>by lia⟩ B1 u1
 have h1:¬((5:Int) < n):=λz=>h1 (decide_eq_true z)
 exists iD (λh2=>?_) (λh2=>?_)
 ·have h2:=of_decide_eq_true h2;exists ⟨b,5,rfl,hB,by decide,by decide,λv H1 v0 v1 B1 u1=>?_⟩;obtain ⟨v,rfl⟩:=bT v0;exists dJ λl H2 s2 n2 g2=>?_
  exists ⟨b,2,rfl,B1.same s2,by decide,by decide,λc H3 c0 c1 B3 u3=>?_⟩;have g3:=u3.other (λz=>B1.at (by rw[<- z];exact n2)) g2;obtain ⟨x,ex,mx,_⟩:=qj (xs:=[V.int v,V.int n]) c0 (by simpa using c1);refine bX (bB.of g3) ex ?_;have u03:=(u1.same s2).trans u3;simp only[aH,bw,or_false] at mx;rcases mx with rfl | rfl
  ·exact k v H3 ⟨by lia,λ_=>by lia,λ_ _=>by lia,λ_=>by lia⟩ B3 u03
  ·exact k n H3 ⟨by lia,λ_=>by lia,λ_ _=>by lia,λ_=>by lia⟩ B3 u03
 have h2:¬((3:Int) < n):=λz=>h2 (decide_eq_true z)
 exists iD (λh3=>?_) (λh3=>?_)
 ·have h3:=of_decide_eq_true h3;exists ⟨b,4,rfl,hB,by decide,by decide,λc H1 c0 c1 B1 u1=>?_⟩;exists iD (λh4=>?_) (λh4=>?_)
  ·exists ⟨b,13,rfl,B1,by decide,by decide,λv H2 v0 v1 B2 u2=>?_⟩;obtain ⟨v,rfl⟩:=bT v0;exact k v H2 ⟨by lia,λ_=>by lia,λ_ _=>by lia,λ_=>by lia⟩ B2 (u1.trans u2)
  ·exists ⟨b,7,rfl,B1,by decide,by decide,λv H2 v0 v1 B2 u2=>?_⟩;obtain ⟨v,rfl⟩:=bT v0;exact k v H2 ⟨by lia,λ_=>by lia,λ_ _=>by lia,λ_=>by lia⟩ B2 (u1.trans u2)
 ·exists ⟨b,7,rfl,hB,by decide,by decide,λv H2 v0 v1 B2 u2=>?_⟩;obtain ⟨v,rfl⟩:=bT v0;exact k v H2 ⟨by lia,λ_=>by lia,λ_ _=>by lia,λ_=>by lia⟩ B2 u2
theorem xF:sC ["_law_bag_here","_law_parts_here","_law_wide","_law_steps_here"] 3 ui:=by walk_at "d"
theorem GB (T:Txt K mg Z) (ptree:P.given.tree=none):cD P w K mg base fA 4 Z.AO Z.Au ["_law_bag_here","_law_parts_here","_law_wide"] (Er K):=by
 have HR:=DX (P:=P) (w:=w) (base:=base) T ptree;have gR:=l8 (P:=P) (w:=w) (base:=base) T ptree;refine T.rK.F.k xF ?_;walk_at "i";obtain ⟨b,r,w,H0,mv,pt,lk,rfl,B2,nb,P2,D,w1,wk,k⟩:=h
 refine ⟨_,(ao (eK 3 xF.nd (cE HR hr T.pC (tG bP (bo aM (by rfl) T.len aJ (dc (aL bu cL aj))) dS)))
  (ax (aK (cx ["_law_t"] ["_law_bag_here","_law_parts_here","_law_wide"] [0,1,2] (cp rfl T.range (dc iu)) (λ_=>(dX 0)) (λ_=>cG) (λ_=>(cE gR hr T.ij (tG cL (bo (D7 K (by rfl)) (by rfl) T.len aJ (dc (aL (Bt K (by rfl)) dS aj))) iu))))))),?_⟩
 walk_at "s";have d8:=D.n8;have i4:=D.i4;obtain ⟨m,p,l,gt,mn,pn,ln,Gm,Gp,Gl⟩:=id P2;obtain ⟨um,gm,qm,_⟩:=id Gm;have lum:=qm.length;exists ⟨_,_,rfl,.inl (bB.of gm),?_⟩;rw[<- lum];exists ⟨b,mv.length,w,rfl,B2,d8,λtt H8 St B8 u8=>?_⟩;have t12:=St.1;have P8:=P2.upto u8 B2 nb;clear gm qm lum Gm Gp Gl gt mn pn ln;exists ⟨by lia,by lia,?_⟩
 refine Ff (n:=tt) (b:=b) (cW K H8) (λxs=>xs.length=pt.length/\∀x∈xs,Dr (max w 6) x) B8 (by lia) (λ{H' H'' c x} a u B=>by
  obtain ⟨q,e,nq,R⟩:=a;exact ⟨q,e,nq,R.upto u B (λz=>B8.at (by rw[<- z];exact nq))⟩) ?_ ?_
 ·rintro i Ha NY NN hi ua Ba k1;obtain ⟨m,p,l,g',n1,n2,n3,Gm,Gp,Gl⟩:=P8.upto ua B8 nb;obtain ⟨up,gp,qp,_⟩:=id Gp;have lup:=qp.length;exists ⟨_,_,rfl,.inl (bB.of gp),?_⟩;rw[<- lup];exists ⟨b,pt.length,w,rfl,Ba,by lia,w1,by lia,λq xs Hb nq R lx dx Bb ub=>?_⟩;exact k1 _ xs _ ub Bb ⟨lx,dx⟩ ⟨q,rfl,ua.none Ba nq,R⟩
 rintro ys pus H9 pl npl u9 B9 g9 lc hc pr9 nx9;have Gp9:bf K H8 H9 pl pus:=⟨ys,g9,pr9,ko nx9⟩;exact k pl pus tt H9 (u8.none B8 npl) (Gp9.weakN λq h=>u8.none B8 h) ⟨lc,hc⟩ St B9 (u8.trans u9)
theorem ox:sC ["_law_one","_law_other","_law_total","_law_k"] 2 wU:=by walk_at "d"
theorem oC (T:Txt K mg Z) (ptree:P.given.tree=none):cD P w K mg base fA 3 Z.Dv Z.Dg ["_law_one","_law_other"] (FP K):=by
 have ja:=oA (P:=P) (w:=w) (base:=base) T ptree;have jZ:=rk (P:=P) (w:=w) (base:=base) T ptree;refine T.jV.F.k ox ?_;walk_at "i";obtain ⟨p,q,xs,ys,rfl,hp,hq,hl,hz,⟨k1,j1,k2,j2,h1,h2,hkj⟩,kk⟩:=h
 refine ⟨_,(ao (eK 2 ox.nd (dm (cR aj aj)))
  (ao (dw PassesOwn.never rfl (cp rfl T.range (dc (bo aM (by rfl) T.len aJ (dc bP)))) (dX 3 ox.nd)
   (ax (eK 2 ox.nd (cE ja hr T.gI (cR dS (cE jZ hr T.je (cR (aL bE bP iu) (aL bE cL iu))))))))
  (ax (aK dS)))),?_⟩
 walk_at "s";obtain ⟨us,gu,qu⟩:=id hp;obtain ⟨ws,gw,qw⟩:=id hq;have lu:=qu.length;have lw:=qw.length;exists cz λr0 H0 s0 g0=>?_
 exists ⟨_,_,rfl,.inl (bB.of (s0 _ _ gu)),?_⟩;exists ⟨by lia,by lia,?_⟩;refine dZ (n:=us.length) (λi σ' H'=>aB H H'/\∃(r:V) (v:Option V),σ'=[some (.ref p),some (.ref q),some r,v]/\cv K H' (cB (xs.take i) (ys.take i)) r) ⟨s0,_,none,rfl,cv.mk g0 rfl⟩ ?_ ?_
 ·rintro i σ' H' hi ⟨s,r,v,rfl,hr⟩;have ix:i < xs.length:=by lia
  have iy:i < ys.length:=by lia
  obtain ⟨vx,ex,nx⟩:=DH (Paired.imp' (λ_ _ z=>z.same s) qu) ix;obtain ⟨vy,ey,ny⟩:=DH (Paired.imp' (λ_ _ z=>z.same s) qw) iy;exists bX (bB.of (s _ _ gu)) ex ?_;exists bX (bB.of (s _ _ gw)) ey ?_;exists ⟨_,_,_,_,rfl,nx,ny,h1.szn (getD_mem ix) (by lia),h2.szn (getD_mem iy) (by lia),λr3 H3 s3 n3=>?_⟩;exists ⟨_,_,_,_,rfl,hr.same s3,n3,Pn h1 h2 hz i hkj,OP (h1.one (getD_mem ix)) (h2.one (getD_mem iy)) hkj,λr4 H4 s4 n4=>?_⟩;exists ⟨(s.trans s3).trans s4,_,_,rfl,by rw[E2 ix iy];exact n4⟩
 ·rintro σ' H' ⟨s,r,v,rfl,hr⟩;rw[aG (by lia),aG (by lia)] at hr;obtain ⟨t,rfl,ht⟩:=hr;exists kk _ H' s ⟨t,rfl,ht⟩
theorem Ko:sC ["_law_grid","_law_row_here"] 2 zH:=by walk_at "d"
theorem CK (T:Txt K mg Z) (ptree:P.given.tree=none):cD P w K mg base fA 4 Z.Fw Z.Fc ["_law_grid","_law_row_here"] (FO K):=by
 have jS:=oC (P:=P) (w:=w) (base:=base) T ptree;refine T.rL.F.k Ko ?_;walk_at "i";obtain ⟨p,q,H0,rows,ys,rfl,hp,hq,hz,hl,hr1,kk⟩:=h;refine ⟨_,(ax (aK (cx ["_law_one"] ["_law_row_here"] [1] (cA bP) (λ_=>(dX 0)) (λ_=>cG) (λ_=>(cE jS hr T.jV (cR bP cL)))))),?_⟩;walk_at "s";obtain ⟨xs,gx,qx,_⟩:=id hp;exists ⟨⟨_,bB.of gx⟩,?_⟩;refine d4 (K:=K) (F:=cW K H0) (cv K) (λxs=>cB xs ys) gx qx hz (λa b=>a.same b) (λa b=>a.same b) ?_ ?_
 ·rintro i ns x H' NY NN en s ⟨u,rfl,_,hu⟩ k;obtain ⟨e1,e2⟩:=hr1 ns (ak en);exists ⟨u,q,ns,ys,rfl,hu,hq.same s,e1.symm,by lia,e2,λr H2 s2 h2'=>k _ _ s2 h2'⟩
 ·rintro ys' H' r hr s g pr nx;exact kk r H' hr s ⟨ys',g,pr⟩
theorem ip:sC ["_law_parts_here","_law_state","_law_puts_here","_law_move_here","_law_put","_law_look","_law_found","_law_k"] 3 uq:=by walk_at "d"
theorem GG (T:Txt K mg Z) (ptree:P.given.tree=none):cD P w K mg base fA 5 Z.AS Z.Ax ["_law_parts_here","_law_state","_law_puts_here"] (Iu K):=by
 have Aa:=CK (P:=P) (w:=w) (base:=base) T ptree;have ma:=rn (P:=P) (w:=w) (base:=base) T ptree;have jh:=rz (P:=P) (w:=w) (base:=base) T ptree;refine T.rM.F.k ip ?_;walk_at "i";obtain ⟨r,s0,u0,H0,mv,pt,lk,st,pu,rfl,PQ,D,hs,hu,l1,l2,NX,k⟩:=h
 refine ⟨_,(ao (fG bP (o6 rfl (b6 (dX 3 ip.nd) (b6 (dX 4 ip.nd) (b6 (dX 5 ip.nd) gE)))))
  (ao (eK 6 ip.nd (cE Aa hr T.rL (cR iu cL)))
  (ao (dw PassesOwn.never rfl (cp rfl T.range (dc (bo aM (by rfl) T.len aJ (dc m5)))) (dX 7 ip.nd)
   (ax (eK 6 ip.nd (cE ma hr T.kv (cR nG (cE jh hr T.i8 (cR (aL bE dS zK) (aL bE m5 zK))))))))
  (ax (aK nG))))),?_⟩
 walk_at "s";obtain ⟨m,p,l,g,n1,n2,n3,Gm,Gp,Gl⟩:=id PQ;have d1:=D.n8;have d2:=D.i4;exists ⟨m,s0,H0,mv,st,rfl,Gm,hs,by lia,by lia,λxs hx=>⟨by rw[D.mw xs hx,l1],NX.f2 xs hx⟩,λf H1 nf s1 R1=>?_⟩;obtain ⟨ps,gp,qp,_⟩:=Gp.same s1;have lp:=qp.length;exists ⟨_,_,rfl,.inl (bB.of gp),?_⟩;exists ⟨by lia,by lia,?_⟩;refine dZ (n:=ps.length) (λkk σ' H'=>∃(f:Addr) (x:Option V),σ'=[some (.ref r),some (.ref s0),some (.ref u0),some (.ref m),some (.ref p),some (.ref l),some (.ref f),x]/\H f=none/\aB H1 H'/\cK K H' f (nextK mv pt st pu kk)) ⟨f,none,rfl,nf,aB.refl _,by rw[KG];exact R1⟩ ?_ ?_
 ·rintro kk σ' H' hk ⟨f',x,rfl,nf',s',R'⟩;have kp:kk < pt.length:=by lia
  have ku:kk < pu.length:=by lia
  obtain ⟨zs,gz,qz⟩:=(hu.same s1).same s';have lz:=qz.length;obtain ⟨vu,eu,nu⟩:=DH qz ku;obtain ⟨row,vr,er,ev,mr,q,rfl,_,Rq⟩:=gN qp kp
  have er':pt[kk]=row:=by
   rw[ae kp] at er;exact bS er
  have eu':pu.getD kk 0=pu[kk]:=by rw[aa,ae ku];rfl
  have mu:pu.getD kk 0∈pu:=getD_mem ku;exists bX (bB.of gz) eu ?_;exists bX (bB.of (s' _ _ gp)) (dD ev) ?_;exists ⟨vu,q,_,row,rfl,nu,NX.su _ mu,Rq.same s',by rw[D.pw row mr];lia,NX.sp row mr,λr1 H2 n1' s2 R2=>?_⟩;exists ⟨f',r1,_,_,rfl,R'.same s2,R2,by rw[ag,jU,D.pw row mr],by rw[jU];lia,NX.part kk,λy hy=>?_,λr2 H3 n2' s3 R3=>?_⟩
  ·obtain ⟨y',hy',rfl⟩:=aw.mp hy;exact NX.mul _ mu row mr y' hy'
  ·exists ⟨s1.none (s'.none (s2.none n2')),(s'.trans s2).trans s3,?_⟩;have e:=KH (st:=st) (pu:=pu) (λxs hx=>by rw[D.mw xs hx,l1]) kp ku (by rw[er'];exact D.pw row mr);rw[er',<- eu'] at e;rw[<- e];exact R3
 ·rintro σ' H' ⟨f',x,rfl,nf',s',R'⟩;rw[vn (by lia) (by lia)] at R';exists k f' H' nf' (s1.trans s') R'
theorem jt:sC ["_law_parts_here","_law_start","_law_puts_here","_law_state","_law_found","_law_row_here"] 3 qZ:=by walk_at "d"
theorem o9 (T:Txt K mg Z) (ptree:P.given.tree=none):cD P w K mg base fA 6 Z.yL Z.yu ["_law_parts_here","_law_start","_law_puts_here"] (EB K):=by
 have Aa:=CK (P:=P) (w:=w) (base:=base) T ptree;have JR:=GG (P:=P) (w:=w) (base:=base) T ptree;refine T.jx.F.k jt ?_;walk_at "i";obtain ⟨r,s,p,H0,H1,mv,pt,lk,pus,st,rfl,PQ,D,Rs,ls,Gp,p100,wp,LF,k⟩:=h
 refine ⟨_,(ao (eK 3 jt.nd (fz (jy K (by rfl)) (by rfl) T.list PyProof.Rows.boot_list (dc cL)))
  (ao (eK 4 jt.nd (eU iV))
  (ao (dw PassesOwn.never rfl (cA dS) (dX 5 jt.nd)
   (ao (fO (nJ bN ck cg gD m5 (dc (cE Aa hr T.rL (cR (aL bu bP aj) iu)))))
  (ax (eK 3 jt.nd (cE JR hr T.rM (tG bP iu wW))))))
  (ax (aK m5))))),?_⟩
 walk_at "s";have d1:=D.n8;have o4:=D.o4;obtain ⟨ss,gs,qs⟩:=id Rs;obtain ⟨ps,gp,qp,_⟩:=id Gp;have lps:=qp.length;exists ⟨s,ss,rfl,.inl (bB.of gs),λc hc=>?_⟩;have sc:aB H (upd H c (.lst ss)):=aB.new hc;have Rc:cK K (upd H c (.lst ss)) c st:=⟨ss,aD,Paired.imp' (λ_ _ z=>z.same sc) qs⟩;generalize upd H c (.lst ss)=Hc at sc Rc ⊢;exists dJ λfd H2 s2 n2 g2=>?_
 have s02:=sc.trans s2;have nfd:H fd=none:=sc.none n2;exists ⟨⟨_,bB.of (s02 _ _ gp)⟩,?_⟩;refine gL (K:=K) (a:=p) (xs:=ps) (λi σ' H'=>aB H H'/\∃q y us,σ'=[some (.ref r),some (.ref s),some (.ref p),some (.ref q),some (.ref fd),y]/\cK K H' q (tu mv pt st pus i)/\q≠fd/\H' fd=some (.lst us)/\Paired (cW K H H') ((List.range i).map λt=>lk.map λxs=>cB xs (tu mv pt st pus t)) us/\V.ref fd∉us) ⟨s02,c,_,[],rfl,Rc.same s2,λz=>(by rw[<- z] at n2;obtain ⟨_,g,_⟩:=Rc;rw[g] at n2;cases n2),g2,.nil,λz=>nomatch z⟩ (λi σ' H' _ ⟨e,_⟩=>bB.of (e _ _ gp)) ?_ ?_
 ·rintro i v σ' H' hv ⟨e,q,y,us,rfl,Rq,qf,gf,pf,nf⟩;obtain ⟨pu,epu,u,rfl,_,Ru⟩:=bQ qp hv;have hi:i < pus.length:=(az.mp epu).1;have mp:=ak epu;have lus:=pf.length;rw[ag,bL] at lus;obtain ⟨m,p',l,gt,mn,pn,ln,Gm,Gp',Gl⟩:=id (PQ.same e);have lst:=qL (mv:=mv) (pt:=pt) (pus:=pus) (k:=i) ls (by lia);exists ⟨.inl ⟨rfl,_,bB.of gf⟩,?_⟩;exists ⟨l,q,_,lk,tu mv pt st pus i,rfl,Gl,Rq,by lia,by lia,λxs hx=>⟨by rw[lst];exact D.lw xs hx,LF.fit i (by lia) xs hx⟩,λo H3 no s3 Ro=>?_⟩;have gf3:=s3 _ _ gf;have of:o≠fd:=λz=>by rw[z,gf] at no;cases no
  have pf3:=Paired.imp' (λ_ _ z=>cW.same z s3) pf;have Rq3:=Rq.same s3;have e3:=e.trans s3;exists fZ gf3 (cS (by lia)) ?_;have e4:=e3.after (o:=.lst (us++[V.ref o])) nfd
  have Rq4:cK K (upd H3 fd (.lst (us++[V.ref o]))) q (tu mv pt st pus i):=by
   obtain ⟨a1,a2,a3⟩:=Rq3;exact ⟨a1,by rw[bc qf];exact a2,Paired.imp' (λ_ _ z=>z.updL gf3) a3⟩
  have pf4:Paired (cW K H (upd H3 fd (.lst (us++[V.ref o])))) ((List.range (i+1)).map λt=>lk.map λxs=>cB xs (tu mv pt st pus t)) (us++[V.ref o]):=by
   rw[iI,cI];refine b9 ?_ (.cons ⟨o,rfl,e.none no,?_⟩ .nil)
   ·exact uD (λa x hx ⟨q',a1,a2,a3,a4,a5⟩=>⟨q',a1,a2,a3,by rw[bc λz=>nf (by rw[<- z,<- a1];exact hx)];exact a4,Paired.imp' (λ_ _ z=>z.updL gf3) a5⟩) pf3
   ·obtain ⟨a1,a2,a3⟩:=Ro;exact ⟨a1,by rw[bc of];exact a2,Paired.imp' (λ_ _ z=>z.updL gf3) a3⟩
  have gf4:(upd H3 fd (.lst (us++[V.ref o]))) fd=some (.lst (us++[V.ref o])):=aD
  have nf4:V.ref fd∉us++[V.ref o]:=λz=>by
   rcases av.mp z with z | z
   ·exact nf z
   ·rw[bV] at z;cases z;exact of rfl
  generalize upd H3 fd (.lst (us++[V.ref o]))=H4 at e4 Rq4 pf4 gf4 ⊢;exists ⟨r,q,u,H0,mv,pt,lk,_,pu,rfl,PQ.same e4,D,Rq4,cK.same Ru e4,lst,wp pu mp,LF.en.nx D ls wp (by lia) epu,λq2 H5 n5 s5 R5=>?_⟩;rw[<- tP epu] at R5;exact ⟨e4.trans s5,q2,_,_,rfl,R5,(λz=>by rw[z,gf4] at n5;cases n5),s5 _ _ gf4,Paired.imp' (λ_ _ z=>cW.same z s5) pf4,nf4⟩
 ·rintro σ' H' ⟨e,q,y,us,rfl,Rq,qf,gf,pf,nf⟩;rw[<- lps] at pf;exists k fd H' nfd e ⟨us,gf,pf,nf⟩
theorem DW (T:Txt K mg Z) (ptree:P.given.tree=none):cD P w K mg base fA 2 Z.xo Z.xn ["_law_one","_law_other"] (FN K):=by
 have dG:=iW (P:=P) (w:=w) (base:=base) T ptree;refine T.gI.F.ok Ai (λvs H Q E h=>?_) (λcdv A outer s H vs Q E hr h=>?_)
 ·obtain ⟨p,q,a,b,c,d,rfl,hp,hq,hb,hd,sa,sb,sc,sd,k⟩:=Lk h;rfl
 ·obtain ⟨p,q,a,b,c,d,rfl,hp,hq,hb,hd,sa,sb,sc,sd,k⟩:=Lk h;refine ⟨_,(ax (aK (cE dG hr T.eF (cR (bF fI (bF cN (aL bu bP aj) (aL bu cL aj)) (bF cN (aL bu cL aj) (aL bu bP aj))) (bF cN (aL bu bP aj) (aL bu cL aj)))))),?_⟩;refine lY (σ:=[some (.ref p),some (.ref q)]) rfl ?_;have hbd:0 < b*d:=fV hb hd;have sbd:Sz 449950 (b*d):=(sb.mul sd).mono (by decide);exists fv (show fM _ _ from .inr ⟨_,_,sa,sd,by decide⟩) ?_;exists fv (show fM _ _ from .inr ⟨_,_,sc,sb,by decide⟩) ?_;exists fv (show fM _ _ from .inr ⟨_,_,sb,sd,by decide⟩) ?_;walk_at "w";exists ⟨_,_,rfl,hbd,sbd,k⟩
theorem jC:sC ["_law_bag_here","_law_looks_here","_law_outs","_law_wide","_law_some","_law_t","_law_k"] 4 nF:=by walk_at "d"
theorem A9 (T:Txt K mg Z) (ptree:P.given.tree=none):cD P w K mg base fA 4 Z.uY Z.uS ["_law_bag_here","_law_looks_here","_law_outs","_law_wide"] (xB K):=by
 have c6:=iX (P:=P) (w:=w) (base:=base) T ptree;have aX:=fg (P:=P) (w:=w) (base:=base) T ptree;have gR:=l8 (P:=P) (w:=w) (base:=base) T ptree;have G__law_sum_U:=DW (P:=P) (w:=w) (base:=base) T ptree;refine T.mB.F.k jC ?_;walk_at "i";obtain ⟨b,l,o,w,H0,L,rfl,B,Gl,lL,wL,o4,w1,w6,k⟩:=h
 refine ⟨_,(ao (eK 4 jC.nd (cE c6 hr T.dg (dc cL)))
  (ao (cV (aV fo (cE aX hr T.a9 (cR bP aj)) aj (be _)) (ax (aK (cx ["_law_row_here"] ["_law_bag_here","_law_outs","_law_wide"] [0,2,3] (cA m5) (λ_=>(dX 0)) (λ_=>cG) (λ_=>(cE gR hr T.ij (tG cL dS iu)))))) bK)
  (ao (cV (PW.pt (jr (aV pT (bo aM (by rfl) T.len aJ (dc m5)) aj (be _)) (jD (aV pT dS aj (be _))))) (ao (eK 5 jC.nd (cE aX hr T.a9 (cR bP (bo aM (by rfl) T.len aJ (dc m5)))))
  (ao (eK 6 jC.nd (cE aX hr T.a9 (cR bP dS)))
  (ax (fG (cE G__law_sum_U hr T.gI (cR (aL bE (aL bE m5 wW) nG) (dm (cR (bF fI aj (cE aX hr T.a9 (cR bP aj))) (bF fI aj (cE aX hr T.a9 (cR bP aj))))))) (iG (aL bE m5 wW) nG set_list))))) bK)
  (ax (aK m5))))),?_⟩
 walk_at "s";have bH:=B.at;exists ⟨l,H0,L,rfl,Gl,by lia,λxs hx=>by rw[(wL xs hx).1];lia,λs H1 ns s1 G1=>?_⟩;have B1:=B.same s1;have sb:s≠b:=λz=>bH (by rw[<- z];exact ns)
 obtain ⟨us,gs,qs,nin⟩:=id G1;have lus:=qs.length;exists ⟨b,4,rfl,B1,by decide,by decide,λv H2 v0 v1 B2 u2=>?_⟩;have gs2:=u2.other sb gs;exists iD (λhv=>?_) (λhv=>?_)
 ·exists ⟨⟨_,bB.of gs2⟩,?_⟩
  refine K5 (K:=K) (a:=s) (b:=b) (cW K H2) (λxs=>xs.length=o/\∀x∈xs,Dr (max w 6) x) gs2 sb B2 (by lia) (λ{H' H'' c x} a u B=>by
   obtain ⟨q,e,nq,R⟩:=a;exact ⟨q,e,nq,R.upto u B (λz=>B2.at (by rw[<- z];exact nq))⟩) ?_ ?_
  ·rintro x H3 NY NN hx u3 B3 k3;exists ⟨b,o,w,rfl,B3,by lia,w1,by lia,λq xs Hb nq R lx dx Bb ub=>?_⟩;exact k3 _ xs _ ub Bb ⟨lx,dx⟩ ⟨q,rfl,u3.none B3 nq,R⟩
  rintro ys cs H3 p np u3 B3 gp lc hc pr nx;have np1:=s1.none (u2.none B2 np);have G3:bf K H2 H3 p cs:=⟨ys,gp,pr,ko nx⟩;exact k p cs H3 np1 (G3.weakN λq h=>s1.none (u2.none B2 h)) (by lia) (λxs hx=>(hc xs hx).1) (.inl λxs hx=>(hc xs hx).2) B3 ((s1.upto).trans (u2.trans u3))
 ·exists ⟨_,_,rfl,.inl (bB.of gs2),?_⟩;walk_at "w";have G2:=G1.upto u2 B1 sb bH
  have fin:∀H',H'=H2->Q (.ref s) H':=λH' e=>by
   subst e;exact k s L _ ns G2 rfl (λxs hx=>(wL xs hx).1) .refl B2 ((s1.upto).trans u2)
  refine iD (λhp=>?_) (λ_=>?_)
  rotate_left
  ·rw[if_neg (by decide)];exists fin _ rfl
  exists iD (λhq=>?_) (λ_=>?_)
  rotate_left
  ·exists fin _ rfl
  have hp:=of_decide_eq_true hp;have hq:=of_decide_eq_true hq;clear fin;exists ⟨_,_,rfl,.inl (bB.of gs2),?_⟩;rw[<- lus];exists ⟨b,L.length,rfl,B2,by lia,by lia,λtt H3 t0 t1 B3 u3=>?_⟩;obtain ⟨tt,rfl⟩:=bT t0;exists ⟨b,o,rfl,B3,by lia,by lia,λkk H4 k0 k1 B4 u4=>?_⟩;obtain ⟨kk,rfl⟩:=bT k0;have u14:=(u2.trans u3).trans u4;have gs4:=u14.other sb gs;obtain ⟨us',gs',qs',_⟩:=G1.upto u14 B1 sb bH;rw[gs4] at gs';cases gs';obtain ⟨row,vr,er,ev,mr,q,rfl,nq,zs,gz,qz⟩:=gN qs' (i:=tt) (by lia);have lz:=qz.length;have wr:=wL row mr;have qb:q≠b:=λz=>bH (by rw[<- z];exact nq)
  obtain ⟨x,vx,ex,evx,mx,nx⟩:=gN qz (i:=kk) (by lia);exists bX (bB.of gs4) (dD ev) ?_;exists bX (bB.of gz) (dD evx) ?_;exists ⟨b,5,rfl,B4,by decide,by decide,λc5 H5 c0 c1 B5 u5=>?_⟩;obtain ⟨c5,rfl⟩:=bT c0;exists ⟨b,3,rfl,B5,by decide,by decide,λd5 H6 d0 d1 B6 u6=>?_⟩;obtain ⟨d5,rfl⟩:=bT d0;exists cz λt7 H7 s7 g7=>?_
  exists ⟨vx,t7,x,1+c5,1+d5,rfl,(nx.upto (u5.trans u6) B4).same s7,wr.2 x mx,by rw[g7,Qc,Qc];rfl,by lia,by lia,by lia,λr8 H8 s8 N8=>?_⟩;have u48:df b H4 H8:=((u5.trans u6).same s7).same s8;have gs8:=u48.other sb gs4;have gz8:=u48.other qb gz;exists bX (bB.of gs8) (dD ev) ?_;exists fN gz8 (gK (by lia)) rfl ?_;walk_at "w";have U8:df b H H8:=s1.upto.trans (u14.trans u48);have B8:iM H8 b:=(B6.same s7).same s8;obtain ⟨qi,Ii,xi,gi⟩:=B.inner;obtain ⟨us',gs',qs8,_⟩:=G1.upto (u14.trans u48) B1 sb bH;rw[gs8] at gs';cases gs';have sq:s≠q:=λz=>nin (by rw[z];exact ak ev)
  have RP:=F8 (A:=λa=>H a=none/\a≠s) (n:=o) (C:=λz=>∃ys∈L,∃x∈ys,∃c d:Nat,c<=5/\0 < d/\d<=3/\z=x+(c:Rat) / (d:Rat)) qs8 (λxs hx=>⟨(wL xs hx).1,λz hz=>⟨xs,hx,z,hz,0,1,by decide,by decide,by decide,by rw[show ((0:Nat):Rat) / ((1:Nat):Rat)=0 from Mn _,lU]⟩⟩) (λa ha h1 _=>⟨h1,λz=>nin (by rw[<- z];exact ha)⟩);obtain ⟨L',pr',ll',hh'⟩:=Kt (H0:=H) λu hu=>((RP u hu).put gz8 N8 ⟨row,mr,x,mx,1+c5,1+d5,by lia,by lia,by lia,rfl⟩ kk).weak (λa h=>h.1) (λ_ z=>z)
  exact k s L' _ ns ⟨us,by rw[bc sq];exact gs8,pr',nin⟩ (by lia) (λxs hx=>(hh' xs hx).1) (.inr λxs hx=>(hh' xs hx).2) (B8.upd (U8.2 _ Ii) qb (λe=>by rw[e,gi] at nq;cases nq)) (U8.after nq)
theorem fF:sC ["wholes","multiple","whole"] 1 kg:=by walk_at "d"
theorem w5 (T:Txt K mg Z) (ptree:P.given.tree=none):cD P w K mg base fA 2 Z.oI Z.oG ["wholes"] (Oa K):=by
 have ia:=kn (P:=P) (w:=w) (base:=base) T ptree;refine T.jP.F.k fF ?_;walk_at "i";obtain ⟨p,bs,M,rfl,hp,hM,sM,hb,q⟩:=h
 refine ⟨_,(ao (eK 1 fF.nd aj)
  (ao (dw PassesOwn.never rfl (cA bP) (dX 2 fF.nd)
   (ax (eK 1 fF.nd (bF cN cL (bF (kj rfl fF rfl rfl rfl ptree (ye hr)) dS (cE ia hr T.gH (cR cL dS)))))))
  (ax (aK cL)))),?_⟩
 walk_at "s";exists ⟨⟨_,hp⟩,?_⟩;refine gL (K:=K) (a:=p) (xs:=bs.map V.int) (λi σ' H'=>H'=H/\∃x,σ'=[some (.ref p),some (.int (zU (bs.take i) 1)),x]) ⟨rfl,none,rfl⟩ (λi σ' H' _ ⟨e,_⟩=>by subst e;exact hp) ?_ ?_
 ·rintro i x σ' H' hx ⟨rfl,y,rfl⟩;rw[aA] at hx
  obtain ⟨b,eb,rfl⟩:∃b,bs[i]?=some b/\x=.int b:=by
   cases e:bs[i]? with
   | none=>rw[e] at hx;cases hx
   | some b=>rw[e] at hx;cases hx;exact ⟨b,rfl,rfl⟩
  have b1:=hb b (ak eb);have sb:Sz 220000 b:=Hs hM b1.2 sM;have ht:∀c∈bs.take i,0 < c/\c∣M:=λc hc=>hb c (b7 hc)
  have msz:Sz 220000 (zU (bs.take i) 1):=Hs hM (Bs (by decide) (Int.one_dvd _) ht) sM;generalize hm:zU (bs.take i) 1=m at msz ⊢;have gp:0 < g m b:=C2 (by lia);exists ⟨m,b,rfl,?_⟩;exists fv (show sX _ _ from ⟨by lia,(Wp b1.1 sb).mono (by decide)⟩) ?_;rw[cQ _ (by lia)];exists fv (show fM _ _ from .inr ⟨_,_,msz,sb.hi (t:=m) (by lia),by decide⟩) ?_;exists ⟨rfl,_,by rw[take_snoc eb,ER,hm];rfl⟩
 ·rintro σ' H' ⟨rfl,y,rfl⟩;walk_at "w";rw[aG (by simp)];exact q
theorem zw:sC ["row"] 1 mo:=by walk_at "d"
theorem pV (T:Txt K mg Z) (ptree:P.given.tree=none):cD P w K mg base fA 3 Z.sU Z.sQ ["row"] (Ob K):=by
 have yR:=w5 (P:=P) (w:=w) (base:=base) T ptree;refine T.gZ.F.k zw ?_;walk_at "i";obtain ⟨p,ns,M,rfl,hp,hl,hz,q⟩:=h;refine ⟨_,(ax (aK (cE yR hr T.jP (dc (cx ["value"] [] [] (cA bP) (λ_=>(dX 0)) (λ_=>cG) (λ_=>(aL (Bt K (by rfl)) bP aj))))))),?_⟩;walk_at "s";obtain ⟨xs,gx,qx⟩:=id hp;have lx:=qx.length;exists ⟨⟨_,bB.of gx⟩,?_⟩;refine eO (K:=K) (xs:=xs) (λi ys H'=>H'=H/\ys=((ns.take i).map (·.2)).map V.int) lE ⟨rfl,rfl⟩ (λi ys H' _ ⟨e,_⟩=>by subst e;exact bB.of gx) ?_ ?_
 ·rintro i x ys H' hx hlen ⟨rfl,rfl⟩;obtain ⟨n,en,r,rfl,hr1⟩:=bQ qx hx;exists ⟨rfl,by rw[take_snoc en];simp⟩
 ·rintro ys H' hy ⟨rfl,rfl⟩ l hl';exists ⟨l,ns.map (·.2),M,rfl,bB.of (by rw[aD,aG (by lia)]),hz.1,hz.2.1,λb hb=>?_,?_⟩
  ·obtain ⟨n,hn,rfl⟩:=aw.mp hb;exact ⟨(hz.2.2 n hn).1,(hz.2.2 n hn).2.1⟩
  ·exact q _ (aB.new hl')
theorem xE:sC ["row","bottom"] 2 tX:=by walk_at "d"
theorem xR (T:Txt K mg Z) (ptree:P.given.tree=none):cD P w K mg base fA 1 Z.AG Z.Al ["row","bottom"] (Io K):=by
 refine T.kr.F.k xE ?_;walk_at "i";obtain ⟨p,ns,M,B,rfl,hp,hl,hz,hB,sB,q⟩:=h;refine ⟨_,(ax (aK (cx ["value"] ["bottom"] [1] (cA bP) (λ_=>(dX 0)) (λ_=>cG) (λ_=>(bF cN (aL (Bt K (by rfl)) bP aj) (bF (kj rfl xE rfl rfl rfl ptree (ye hr)) cL (aL (Bt K (by rfl)) bP aj))))))),?_⟩;walk_at "s";obtain ⟨xs,gx,qx⟩:=id hp;have lx:=qx.length;exists ⟨⟨_,bB.of gx⟩,?_⟩;refine eO (K:=K) (xs:=xs) (λi ys H'=>H'=H/\ys=(gU (ns.take i) B).map V.int) lE ⟨rfl,rfl⟩ (λi ys H' _ ⟨e,_⟩=>by subst e;exact bB.of gx) ?_ ?_
 ·rintro i x ys H' hx hlen ⟨rfl,rfl⟩;obtain ⟨n,en,r,rfl,hr1⟩:=bQ qx hx;have nz:=hz.2.2 n (ak en);have sn:Sz 220000 n.2:=Hs hz.1 nz.2.1 hz.2.1;exists fv (show sX _ _ from ⟨by lia,sn.mono (by decide)⟩) ?_;rw[cQ _ (by lia)]
  have sq:Sz 220000 (B / n.2):=sB.le (by
   rw[UE (by lia)];exact Nat.div_le_self ..)
  exists fv (show fM _ _ from .inr ⟨_,_,nz.2.2,sq,by decide⟩) ?_;exact ⟨rfl,by rw[take_snoc en];simp [gU]⟩
 ·rintro ys H' hy ⟨rfl,rfl⟩ l hl';exact q l _ hl' (aB.new hl') (by rw[aD,aG (by lia)])
theorem pS:sC ["top","bottom","divisor"] 2 Ck:=by walk_at "d"
theorem pU (T:Txt K mg Z) (ptree:P.given.tree=none):cD P w K mg base fA 2 Z.JE Z.Js ["top","bottom"] Mw:=by
 have ia:=kn (P:=P) (w:=w) (base:=base) T ptree;refine T.lh.F.k pS ?_;walk_at "i";obtain ⟨t,b,rfl,hb,hs,k⟩:=h
 refine ⟨_,(ao (eK 2 pS.nd (cE ia hr T.gH (cR bP cL)))
  (ao (cV (aV sJ cL aj (be _)) (ax (eK 2 pS.nd (xO qJ dS))) bK)
  (ax (aK (dm (cR (bF (kj rfl pS rfl rfl rfl ptree (ye hr)) bP dS) (bF (kj rfl pS rfl rfl rfl ptree (ye hr)) cL dS))))))),?_⟩
 walk_at "s";exists ⟨t,b,rfl,?_⟩;have hg:=C2 (t:=t) hb
 have hgs:Sz 449950 (g t b):=hs.le (by
  have h1:(g t b).natAbs=Int.gcd t b:=by unfold g;simp
  rw[h1];exact iT (by lia) (by have:=gM (a:=t) (b:=b);exact fu.mpr this |> λz=>by simpa using z))
 have hgn:g (-t) (-b)=g t b:=by unfold g;rw[Int.gcd_neg,Int.neg_gcd]
 exists iD (λh=>?_) (λh=>?_)
 ·have hb0:b < 0:=of_decide_eq_true h;exists fv (show sX _ _ from ⟨by lia,hgs.neg⟩) ?_;exists fv (show sX _ _ from ⟨by lia,hgs.neg⟩) ?_;exists cz λr H' s' h'=>?_
  have e1:t.fdiv (-g t b)=lo (-t) (-b):=by
   unfold Nm.lo;rw[hgn,<- cQ _ (by lia),<- Int.neg_fdiv_neg (-t),Int.neg_neg]
  have e2:b.fdiv (-g t b)=hi (-t) (-b):=by
   unfold Nm.hi;rw[hgn,<- cQ _ (by lia),<- Int.neg_fdiv_neg (-b),Int.neg_neg]
  exact k r H' s' (by rw[if_pos hb0,if_pos hb0,<- e1,<- e2];exact h')
 ·have hb0:¬b < 0:=λz=>h (decide_eq_true z)
  exists fv (show sX _ _ from ⟨by lia,hgs⟩) ?_;exists fv (show sX _ _ from ⟨by lia,hgs⟩) ?_;exists cz λr H' s' h'=>?_
  rw[cQ _ (by lia),cQ _ (by lia)] at h';exact k r H' s' (by rw[if_neg hb0,if_neg hb0];exact h')
theorem qN:sC ["one","other","one_bottom","other_bottom","pairs"] 2 zB:=by walk_at "d"
theorem CC (T:Txt K mg Z) (ptree:P.given.tree=none):cD P w K mg base fA 4 Z.Fo Z.E4 ["one","other"] (FP K):=by
 have jH:=pV (P:=P) (w:=w) (base:=base) T ptree;have oK:=xR (P:=P) (w:=w) (base:=base) T ptree;have kJ:=pU (P:=P) (w:=w) (base:=base) T ptree;refine T.rC.F.k qN ?_;walk_at "i";obtain ⟨p,q,xs,ys,rfl,hp,hq,hl,hz,⟨k1,j1,k2,j2,h1,h2,hkj⟩,kk⟩:=h
 refine ⟨_,(ao (eK 2 qN.nd (cE jH hr T.gZ (dc bP)))
  (ao (eK 3 qN.nd (cE jH hr T.gZ (dc cL)))
  (ao (eK 4 qN.nd (Kx rfl T.list rfl T.zip (cR (cE oK hr T.kr (cR bP dS)) (cE oK hr T.kr (cR cL iu)))))
  (ax (aK (cE kJ hr T.lh (cR (bo (PD rfl) (by rfl) T.sum PyProof.Rows.boot_sum (dc (cx ["mine","yours"] [] [] (cA m5) (λ_=>(oy K 2 (b6 (dX 0) (b6 (dX 1) gE)))) (λ_=>cG) (λ_=>(bF cN bP cL))))) (bF cN dS iu)))))))),?_⟩
 walk_at "s";obtain ⟨M,h1⟩:=h1.rowM (by lia);obtain ⟨N,h2⟩:=h2.rowM (by lia);replace hp:=hp.rowK;replace hq:=hq.rowK;replace hl:(ys.map nm).length=(xs.map nm).length:=by simpa using hl
 replace hz:(xs.map nm).length<=1000:=by simpa using hz
 obtain ⟨b1,s1⟩:=h1.bot;obtain ⟨b2,s2⟩:=h2.bot;have k2:∀r H',aB H H'->H' r=some (.tup [.int (lo (Po (xs.map nm) (ys.map nm)) (iQ (xs.map nm)*iQ (ys.map nm))),.int (hi (Po (xs.map nm) (ys.map nm)) (iQ (xs.map nm)*iQ (ys.map nm)))])->Q (.ref r) H':=λr H' s g=>kk r H' s (cv.mk g (RK b1 b2))
 clear kk;generalize xs.map nm=ns at hp hq hl hz h1 h2 b1 b2 s1 s2 k2;generalize ys.map nm=ms at hp hq hl hz h1 h2 b1 b2 s1 s2 k2;have hb:0 < iQ ns*iQ ms:=fV b1 b2;exists ⟨p,ns,M,rfl,hp,hz,h1,λH1 t1=>?_⟩;exists ⟨q,ms,N,rfl,hq.same t1,by lia,h2,λH2 t2=>?_⟩;have u2:=t1.trans t2;exists ⟨p,ns,M,_,rfl,hp.same u2,hz,h1,b1,s1,λr1 H3 n3 t3 g3=>?_⟩;exists ⟨q,ms,N,_,rfl,(hq.same u2).same t3,by lia,h2,b2,s2,λr2 H4 n4 t4 g4=>?_⟩;exists ⟨r1,r2,_,_,rfl,bB.of (t4 _ _ g3),bB.of g4,by simp [gU,hl],λL ts H5 t5 n5 g5 pr=>?_⟩;have lt:=pr.length;have ll:(gU ns (iQ ns)).length=ns.length:=by simp [gU]
 have lm:(gU ms (iQ ms)).length=ns.length:=by simp [gU,hl]
 rw[DE,ag,ag,ll,lm] at lt;exists ⟨⟨_,bB.of g5⟩,?_⟩;refine eO (K:=K) (xs:=ts) (λi ys H'=>H'=H5/\ys=((List.zipWith (λx y=>x*y) (gU ns (iQ ns)) (gU ms (iQ ms))).take i).map V.int) lE ⟨rfl,rfl⟩ (λi ys H' _ ⟨e,_⟩=>by subst e;exact bB.of g5) ?_ ?_
 ·rintro i x ys H' hx hlen ⟨rfl,rfl⟩;obtain ⟨pq,epq,T,rfl,gT⟩:=bQ pr hx;obtain ⟨t,u,et,eu,rfl⟩:=Qg epq;exists fv (show fM _ _ from .inr ⟨_,_,Ig h1 b1 s1 (ak et),Ig h2 b2 s2 (ak eu),by decide⟩) ?_;have ez:(List.zipWith (λx y=>x*y) (gU ns (iQ ns)) (gU ms (iQ ms)))[i]?=some (t*u):=by rw[bY,et,eu]
  exact ⟨rfl,by rw[take_snoc ez];simp⟩
 ·rintro ys H' hy ⟨rfl,rfl⟩ l hl';exists ⟨l,List.zipWith (λx y=>x*y) (gU ns (iQ ns)) (gU ms (iQ ms)),rfl,bB.of (by rw[aD,aG (by rw[aY];lia)]),?_⟩;exists fv (show fM _ _ from .inr ⟨_,_,s1,s2,by decide⟩) ?_;exists ⟨_,_,rfl,by lia,(s1.mul s2).mono (by decide),λr H6 t6 g6=>?_⟩;rw[if_neg (by lia),if_neg (by lia)] at g6;exact k2 r H6 ((((u2.trans t3).trans t4).trans t5).trans ((aB.new hl').trans t6)) g6
theorem Km:sC ["grid","row"] 2 zF:=by walk_at "d"
theorem CG (T:Txt K mg Z) (ptree:P.given.tree=none):cD P w K mg base fA 5 Z.Fu Z.E8 ["grid","row"] (FO K):=by
 have z7:=CC (P:=P) (w:=w) (base:=base) T ptree;refine T.rG.F.k Km ?_;walk_at "i";obtain ⟨p,q,H0,rows,ys,rfl,hp,hq,hz,hl,hr1,kk⟩:=h;refine ⟨_,(ax (aK (cx ["line"] ["row"] [1] (cA bP) (λ_=>(dX 0)) (λ_=>cG) (λ_=>(cE z7 hr T.rC (cR bP cL)))))),?_⟩;walk_at "s";obtain ⟨xs,gx,qx,_⟩:=id hp;exists ⟨⟨_,bB.of gx⟩,?_⟩;refine d4 (K:=K) (F:=cW K H0) (cv K) (λxs=>cB xs ys) gx qx hz (λa b=>a.same b) (λa b=>a.same b) ?_ ?_
 ·rintro i ns x H' NY NN en s ⟨u,rfl,_,hu⟩ k;obtain ⟨e1,e2⟩:=hr1 ns (ak en);exists ⟨u,q,ns,ys,rfl,hu,hq.same s,e1.symm,by lia,e2,λr H2 s2 h2'=>k _ _ s2 h2'⟩
 ·rintro ys' H' r hr s g pr nx;exact kk r H' hr s ⟨ys',g,pr⟩
theorem Cg:sC ["self","state"] 2 iE:=by walk_at "d"
theorem CM (T:Txt K mg Z) (ptree:P.given.tree=none):cD P w K mg base fA 6 Z.pL Z.pK ["self","state"] (Ip K Z.a_System):=by
 have z8:=CG (P:=P) (w:=w) (base:=base) T ptree;refine T.wC.k Cg ?_;walk_at "i";obtain ⟨x,p,H0,mv,pt,lk,st,rfl,S,D,F,hp,l1,fs,k⟩:=h;refine ⟨_,(ax (aK (cE z8 hr T.rG (cR (fW bP rfl) cL)))),?_⟩;walk_at "s";obtain ⟨dx,a,b,c,gx,n1,n2,n3,Ga,Gb,Gc⟩:=id S;have d3:=D.o4;have d1:=D.n8;exists ⟨x,Z.a_System,dx,_,_,rfl,gx,T.cl_System,T.na_look,Ik,?_⟩;exists ⟨c,p,H0,lk,st,rfl,Gc,hp,by lia,by lia,λxs hx=>⟨by rw[D.lw xs hx,l1],.sys (F.fits λy hy=>.inr (.inr (.inl ⟨xs,hx,hy⟩))) fs⟩,k⟩
theorem Cd:sC ["grid","wide"] 2 oU:=by walk_at "d"
theorem nM (T:Txt K mg Z) (ptree:P.given.tree=none):cD P w K mg base fA 1 Z.v5 Z.vQ ["grid","wide"] (Im K):=by
 refine T.iY.F.k Cd ?_;walk_at "i";obtain ⟨p,w,H0,rows,rfl,hp,hz,hw,hl,kk⟩:=h;refine ⟨_,(ax (aK (cx ["place"] ["grid"] [0] (cp rfl T.range (dc cL)) (λ_=>(dX 0)) (λ_=>cG) (λ_=>(cx ["line"] ["place"] [0] (IU K cL) (λ_=>(dX 0)) (λ_=>cG) (λ_=>(aL (hJ K (by rfl)) bP cL))))))),?_⟩;walk_at "s";exists ⟨by lia,by lia,?_⟩;refine hZ (n:=w) (cW K H) (λj=>rows.map λxs=>xs.getD j 0) hw (λa b=>a.same b) ?_ ?_
 ·rintro j H1 NY NN hj s1 k1;obtain ⟨xs,gx,qx,_⟩:=hp.same s1;exists ⟨⟨_,bB.of gx⟩,?_⟩;refine d4 (K:=K) (F:=cW K H0) (cv K) (λxs=>xs.getD j 0) gx qx hz (λa b=>a.same b) (λa b=>a.same b) ?_ ?_
  ·rintro i ns x H2 NY2 NN2 en s2 ⟨u,rfl,_,zs,gz,qz⟩ k2;obtain ⟨v,ev,hv⟩:=DH qz (j:=j) (by rw[hl ns (ak en)];exact hj);exists bX (bB.of gz) ev ?_;exact k2 _ _ (aB.refl _) hv
  ·rintro ys' H2 r hr s2 g pr nx;exact k1 _ _ s2 ⟨r,rfl,s1.none hr,ys',g,pr⟩
 ·rintro ys' H1 r hr s1 g pr nx;exact kk r H1 hr s1 ⟨ys',g,pr,ko nx⟩
theorem sG:sC ["self","state","puts","columns"] 3 gY:=by walk_at "d"
theorem Bc (T:Txt K mg Z) (ptree:P.given.tree=none):cD P w K mg base fA 5 Z.og Z.oa ["self","state","puts"] (Ey K Z.a_System):=by
 have jz:=nM (P:=P) (w:=w) (base:=base) T ptree;have z7:=CC (P:=P) (w:=w) (base:=base) T ptree;refine T.vh.k sG ?_;walk_at "i";obtain ⟨x,p,q,H0,mv,pt,lk,st,pu,rfl,S,D,F,hp,hq,l1,l2,fs,k⟩:=h
 refine ⟨_,(ao (eK 3 sG.nd (cE jz hr T.iY (cR (fW bP rfl) (fW bP rfl))))
  (ax (aK (cx ["line","column"] ["state","puts"] [1,2] (mP rfl T.zip (cR (fW bP rfl) iu)) (λ_=>(oy K 2 (b6 (dX 0) (b6 (dX 1) gE)))) (λ_=>cG) (λ_=>(cE z7 hr T.rC (cR (bF uF bP cL) (bF uF dS iu)))))))),?_⟩
 walk_at "s";obtain ⟨dx,a,b,c,gx,n1,n2,n3,Ga,Gb,Gc⟩:=id S;have d1:=D.n8;have d2:=D.i4;exists ⟨x,Z.a_System,dx,_,_,rfl,gx,T.cl_System,T.na_put,Bl,?_⟩;exists ⟨x,Z.a_System,dx,_,_,rfl,gx,T.cl_System,T.na_states,jM,?_⟩;exists ⟨b,mv.length,H0,pt,rfl,Gb,by lia,by lia,D.pw,λt H1 nt s1 Gt=>?_⟩;obtain ⟨as,ga,qa,_⟩:=Ga.same s1;obtain ⟨ts,gt,qt,_⟩:=id Gt;have la:=qa.length;have lt:=qt.length;rw[bZ] at lt;have gx1:=s1 _ _ gx;exists ⟨x,Z.a_System,dx,_,_,rfl,gx1,T.cl_System,T.na_move,BI,?_⟩;exists ⟨⟨_,bB.of ga⟩,⟨_,bB.of gt⟩,?_⟩;refine uT (K:=K) (xs:=as) (ws:=ts) (λi ys H'=>aB H1 H'/\Paired (cv K H') ((iH mv pt st pu).take i) ys) lE (by lia) ⟨aB.refl _,.nil⟩ (λi ys H' _ ⟨s,_⟩=>⟨bB.of (s _ _ ga),bB.of (s _ _ gt)⟩) ?_ ?_
 ·rintro i v1 v2 ys H' r h1 h2 hy ⟨s,pr⟩ hr;obtain ⟨line,el,u1,rfl,_,R1⟩:=bQ qa h1;obtain ⟨col,ec,u2,rfl,_,R2⟩:=bQ qt h2;have ml:=ak el;have mc:=ak ec;have sr:aB H' (upd H' r (.tup [.ref u1,.ref u2])):=aB.new hr;have gr:(upd H' r (.tup [.ref u1,.ref u2])) r=some (.tup [.ref u1,.ref u2]):=aD;have s2:=s.trans sr;generalize upd H' r (.tup [.ref u1,.ref u2])=H2 at sr gr s2 ⊢;have lc:col.length=pt.length:=kU col mc;have ll:line.length=mv.length:=D.mw line ml;obtain ⟨z1,g1,q1⟩:=R1.same s2;obtain ⟨z2,g2,q2⟩:=R2.same s2;have y1:=q1.length;have y2:=q2.length;exists uA g1 g2 lE λc1 H3 s3 n3' g3=>?_
  have s13:=s2.trans s3;obtain ⟨z3,g4,q3⟩:=(hp.same s1).same s13;obtain ⟨z4,g5,q4⟩:=(hq.same s1).same s13;have y3:=q3.length;have y4:=q4.length;exists uA g4 g5 lE λc2 H4 s4 n4 g6=>?_
  have s34:=s3.trans s4;exists ⟨c1,c2,line++col,st++pu,rfl,⟨_,s4 _ _ g3,Paired.imp' (λ_ _ z=>z.same s34) (b9 q1 q2)⟩,⟨_,g6,Paired.imp' (λ_ _ z=>z.same s4) (b9 q3 q4)⟩,by rw[ai,ai];lia,by rw[ai];lia,.sys ?_ fs,λr2 H5 s5 h5=>?_⟩
  ·refine F.fits λy hy=>?_
   rcases av.mp hy with hy | hy
   ·exact .inl ⟨line,ml,hy⟩
   ·obtain ⟨j,_,rfl⟩:=aw.mp mc;obtain ⟨xs,hx,rfl⟩:=aw.mp hy;by_cases hj:j < xs.length
    ·refine .inr (.inl ⟨xs,hx,?_⟩);rw[aa,ae hj];exact aI hj
    ·exact .inr (.inr (.inr (by rw[aa,aR (by lia)];rfl)))
  ·have em:(iH mv pt st pu)[i]?=some (cB (line++col) (st++pu)):=by
    unfold iH;rw[bY,el,ec]
   refine ⟨((s2.trans s34).trans s5),?_⟩;rw[take_snoc em];exact b9 (Paired.imp' (λ_ _ z=>(z.same (sr.trans s34)).same s5) pr) (.cons h5 .nil)
 ·rintro ys H' hy ⟨s,pr⟩ l hl;have lm:(iH mv pt st pu).length=mv.length:=by unfold iH;rw[aY,bZ];lia
  rw[aG (by lia)] at pr;exact k l _ (s1.none (s.none hl)) ((s1.trans s).trans (aB.new hl)) ⟨ys,aD,Paired.imp' (λ_ _ z=>z.same (aB.new hl)) pr⟩
theorem zu:sC ["system","start","puts","states","row"] 3 Cn:=by walk_at "d"
theorem MP (T:Txt K mg Z) (ptree:P.given.tree=none):cD P w K mg base fA 6 Z.JG Z.Ju ["system","start","puts"] (BY K Z.a_System):=by
 have DC:=Bc (P:=P) (w:=w) (base:=base) T ptree;refine T.zT.F.k zu ?_;walk_at "i";obtain ⟨x,s,p,H0,H1,mv,pt,lk,pus,st,rfl,S,D,F,Rs,ls,Gp,lp,wp,cf,k⟩:=h
 refine ⟨_,(ao (eK 3 zu.nd (eU (dc (fz mU (by rfl) T.list PyProof.Rows.boot_list (dc cL)))))
  (ao (dw PassesOwn.never rfl (cA dS) (dX 4 zu.nd)
   (ax (fO (nJ bN ck cg gD iu (dc (Lx bP T.cl_System T.sO DC (hr.mono (by decide)) T.uU .nil Cw (cR (aL bE iu (xO qJ aj)) m5)))))))
  (ax (aK iu)))),?_⟩
 walk_at "s";have d1:=D.n8;obtain ⟨ss,gs,qs⟩:=id Rs;obtain ⟨ps,gp,qp,_⟩:=id Gp;have lps:=qp.length;exists ⟨s,ss,rfl,.inl (bB.of gs),λc hc=>?_⟩;have sc:aB H (upd H c (.lst ss)):=aB.new hc;have Rc:cK K (upd H c (.lst ss)) c st:=⟨ss,aD,Paired.imp' (λ_ _ z=>z.same sc) qs⟩;generalize upd H c (.lst ss)=Hc at sc Rc ⊢;exists dJ λl Hl sl nl gl=>?_
 have hl0:=sc.none nl;have s0:=sc.trans sl;have cl:c≠l:=λz=>by obtain ⟨_,g,_⟩:=Rc;rw[z,nl] at g;cases g
 have pr0:Paired (z6 K H l Hl) ((jG mv pt st pus).take 1) [V.ref c]:=by
  have:(jG mv pt st pus).take 1=[st]:=by
   have e:=take_snoc (vp (mv:=mv) (pt:=pt) (st:=st) (pus:=pus) (k:=0) (a7 _));rw[e];rfl
  rw[this];exact .cons ⟨c,rfl,hc,cl,Rc.same sl⟩ .nil
 exists ⟨⟨_,bB.of (s0 _ _ gp)⟩,?_⟩;refine gL (K:=K) (a:=p) (xs:=ps) (λi σ' H'=>aB H H'/\(∃y ys,σ'=[some (.ref x),some (.ref s),some (.ref p),some (.ref l),y]/\H' l=some (.lst ys)/\Paired (z6 K H l H') ((jG mv pt st pus).take (i+1)) ys)) ⟨s0,_,_,rfl,gl,pr0⟩ (λi σ' H' _ ⟨e,_⟩=>bB.of (e _ _ gp)) ?_ ?_
 ·rintro i v σ' H' hv ⟨e,y,ys,rfl,g,pr⟩;obtain ⟨pu,epu,u,rfl,_,Ru⟩:=bQ qp hv;have hi:i < pus.length:=(az.mp epu).1;have mp:=ak epu;have ly:=pr.length;rw[bI,rV] at ly;have ec:=vp (mv:=mv) (pt:=pt) (st:=st) (pus:=pus) (k:=i) (by lia);have el:ys[i]?=some (ys[i]'(by lia)):=ae (by lia)
  obtain ⟨vl,evl,q,hq1,hq2,hq3,Rq⟩:∃vl,ys[i]?=some vl/\∃q,vl=V.ref q/\H q=none/\q≠l/\cK K H' q (tu mv pt st pus i):=by
   obtain ⟨xs,ex,w⟩:=bQ pr el;rw[mN (by lia),ec] at ex;cases ex;exact ⟨_,el,w⟩
  subst hq1
  have ey:∃zs,ys=zs++[V.ref q]:=by
   refine ⟨ys.take i,?_⟩;rw[<- take_snoc evl,aG (by lia)]
  obtain ⟨zs,rfl⟩:=ey;exists ⟨.inl ⟨rfl,_,bB.of g⟩,?_⟩;walk_at "w";obtain ⟨dx,_,_,_,gx,_⟩:=S.same e;refine ⟨x,dx,_,rfl,gx,Mt,?_⟩;exists bX (bB.of g) (yy _ _) ?_;exists ⟨x,q,u,H0,mv,pt,lk,_,pu,rfl,S.same e,D,F,Rq,Ru.same e,qL ls (by lia),wp pu mp,cf.both (by lia) mp,λr1 H2 n2 s2 R2=>?_⟩;have gn:=s2 _ _ g;exists fZ gn (cS (by lia)) ?_;refine ⟨MC (e.trans s2) hl0,_,_,rfl,aD,?_⟩;rw[take_snoc (vp (by lia)),tP epu];have rl:r1≠l:=λz=>by rw[z,g] at n2;cases n2
  exact b9 (Paired.imp' (λ_ _ z=>(z6.same z s2).upd gn) pr) (.cons ⟨r1,rfl,e.none n2,rl,R2.updL gn rl⟩ .nil)
 ·rintro σ' H' ⟨e,y,ys,rfl,g,pr⟩;walk_at "w";rw[aG (by rw[rV];lia)] at pr;exact k l H' hl0 e ⟨ys,g,Paired.imp' (λ_ _ z=>z6.rowF z) pr,Cq pr⟩
theorem Cc:sC ["system","start","puts"] 3 oT:=by walk_at "d"
theorem CF (T:Txt K mg Z) (ptree:P.given.tree=none):cD P w K mg base fA 7 Z.v3 Z.vP ["system","start","puts"] (EA K Z.a_System):=by
 have Ei:=CM (P:=P) (w:=w) (base:=base) T ptree;have PN:=MP (P:=P) (w:=w) (base:=base) T ptree;refine T.nU.F.k Cc ?_;walk_at "i";obtain ⟨x,s,p,H0,H1,mv,pt,lk,pus,st,rfl,S,D,F,Rs,ls,Gp,lp,wp,cf,k⟩:=h;refine ⟨_,(ax (aK (cx ["state"] ["system"] [0] (cA (cE PN hr T.zT (tG bP cL dS))) (λ_=>(dX 0)) (λ_=>cG) (λ_=>(Lx cL T.cl_System T.uM Ei (hr.mono (by decide)) T.vX .nil Cw (dc bP)))))),?_⟩;walk_at "s";exists ⟨x,s,p,H0,H1,mv,pt,lk,pus,st,rfl,S,D,F,Rs,ls,Gp,lp,wp,cf,λr Hr nr sr Gr=>?_⟩;obtain ⟨cs,gc,qc,_⟩:=id Gr;exists ⟨⟨_,bB.of gc⟩,?_⟩;refine d4 (K:=K) (as:=jG mv pt st pus) (F:=cW K H) (cW K H) (L2.seenQ lk) gc qc (by rw[rV];lia) (λa b=>a.same b) (λa b=>a.same b) ?_ ?_
 ·rintro i xs v H' NY NN ec s' ⟨u,rfl,_,R⟩ k1;have mx:=ak ec;obtain ⟨dx,_,_,_,gx,_⟩:=S.same (sr.trans s');exists ⟨x,dx,_,rfl,gx,N2,?_⟩;exists ⟨x,u,H0,mv,pt,lk,xs,rfl,S.same (sr.trans s'),D,F,R,Py ls xs mx,cf.all xs mx,λr2 H2 n2 s2 R2=>k1 _ _ s2 ⟨r2,rfl,sr.none (s'.none n2),R2⟩⟩
 ·rintro ys H2 r2 hr s2 g2 pr nx;exact k r2 H2 (sr.none hr) (sr.trans s2) ⟨ys,g2,pr,ko nx⟩
theorem DM:sC ["many"] 1 qR:=by walk_at "d"
theorem o8 (T:Txt K mg Z) (ptree:P.given.tree=none):cD P w K mg base fA 1 Z.yC Z.yi ["many"] (Ta K):=by
 refine T.jv.F.k DM ?_;walk_at "i";obtain ⟨m,rfl,hm,k⟩:=h;refine ⟨_,(ax (aK (cx ["place"] [] [] (cp rfl T.range (dc bP)) (λ_=>(dX 0)) (λ_=>cG) (λ_=>(mQ (v:=.ref Z.a_NOUGHT) rfl T.mg_NOUGHT rfl))))),?_⟩;walk_at "s";exists ⟨by lia,by lia,?_⟩;refine hZ (n:=m) (cv K) (λ_=>0) (by lia) (λa b=>a.same b) ?_ ?_
 ·rintro i Ha NY NN hi sa k1;exists k1 _ _ (aB.refl _) ⟨_,rfl,T.sq_NOUGHT _⟩
 ·rintro ys H1 t ht s1 g1 pr _;exact k t H1 ht s1 ⟨ys,g1,by rw[<- Je];exact pr⟩
theorem Oh:sC ["one","other"] 2 F7:=by walk_at "d"
theorem IY (T:Txt K mg Z) (ptree:P.given.tree=none):cD P w K mg base fA 3 Z.Mh Z.L4 ["one","other"] (oP K (λx y=>x - y)):=by
 have kJ:=pU (P:=P) (w:=w) (base:=base) T ptree;refine T.xX.F.ok Oh (λvs H Q E h=>?_) (λcdv A outer s H vs Q E hr h=>?_)
 ·obtain ⟨p,q,a,b,c,d,rfl,hp,hq,hb,hd,sa,sb,sc,sd,k⟩:=Bm h;rfl
 ·obtain ⟨p,q,a,b,c,d,rfl,hp,hq,hb,hd,sa,sb,sc,sd,k⟩:=Bm h;refine ⟨_,(ax (aK (cE kJ hr T.lh (cR (bF nL (bF cN (aL bu bP aj) (aL bu cL aj)) (bF cN (aL bu cL aj) (aL bu bP aj))) (bF cN (aL bu bP aj) (aL bu cL aj)))))),?_⟩;refine lY (σ:=[some (.ref p),some (.ref q)]) rfl ?_;have hbd:0 < b*d:=fV hb hd;have sbd:Sz 449950 (b*d):=(sb.mul sd).mono (by decide);exists fv (show fM _ _ from .inr ⟨_,_,sa,sd,by decide⟩) ?_;exists fv (show fM _ _ from .inr ⟨_,_,sc,sb,by decide⟩) ?_;exists fv (show fM _ _ from .inr ⟨_,_,sb,sd,by decide⟩) ?_;walk_at "w";exists ⟨_,_,rfl,by lia,sbd,λr H' s' h'=>?_⟩;rw[if_neg (by lia),if_neg (by lia)] at h';exact k r H' s' h'
theorem FU:sC ["one","other"] 2 tZ:=by walk_at "d"
theorem xS (T:Txt K mg Z) (ptree:P.given.tree=none):cD P w K mg base fA 4 Z.AI Z.An ["one","other"] (zj K):=by
 have HN:=IY (P:=P) (w:=w) (base:=base) T ptree;refine T.mS.F.k FU ?_;walk_at "i";obtain ⟨p,q,xq,yq,rfl,hp,hq,hl,hz,hn,hm,k⟩:=h;refine ⟨_,(ax (aK (cx ["mine","yours"] [] [] (mP rfl T.zip (cR bP cL)) (λ_=>(oy K 2 (b6 (dX 0) (b6 (dX 1) gE)))) (λ_=>cG) (λ_=>(cE HN hr T.xX (cR bP cL)))))),?_⟩;walk_at "s";obtain ⟨xs,gx,qx⟩:=id hp;obtain ⟨ys,gy,qy⟩:=id hq;have lx:=qx.length;have ly:=qy.length;exists ⟨⟨_,bB.of gx⟩,⟨_,bB.of gy⟩,?_⟩;refine uT (K:=K) (xs:=xs) (ws:=ys) (λi zs H'=>aB H H'/\Paired (cv K H') ((List.zipWith (λx y=>x - y) xq yq).take i) zs) lE (by lia) ⟨aB.refl _,.nil⟩ (λi zs H' _ ⟨s,_⟩=>⟨bB.of (s _ _ gx),bB.of (s _ _ gy)⟩) ?_ ?_
 ·rintro i x y zs H' r hx hy hlen ⟨s,hP⟩ hr;obtain ⟨n,en,hn1⟩:=bQ qx hx;obtain ⟨m,em,hm1⟩:=bQ qy hy;have s1:=aB.new (o:=.tup [x,y]) hr;have s01:=s.trans s1;have gr:(upd H' r (.tup [x,y])) r=some (.tup [x,y]):=aD;generalize upd H' r (.tup [x,y])=Hr at s1 s01 gr ⊢;exists ⟨_,_,n,m,rfl,hn1.same s01,hm1.same s01,hn n (ak en),hm m (ak em),λr3 H3 s3 h3=>?_⟩;refine ⟨s01.trans s3,?_⟩;have ez:(List.zipWith (λx y=>x - y) xq yq)[i]?=some (n - m):=by rw[bY,en,em]
  rw[take_snoc ez];exact b9 (Paired.imp' (λ_ _ z=>z.same (s1.trans s3)) hP) (.cons h3 .nil)
 ·rintro zs H' hy ⟨s,hP⟩ l hl';rw[aG (by rw[aY];lia)] at hP;exact k l _ (s.none hl') (s.trans (aB.new hl')) ⟨zs,aD,Paired.imp' (λ_ _ z=>z.same (aB.new hl')) hP⟩
theorem vG:sC ["lines","begin","place","at"] 3 qT:=by walk_at "d"
theorem DU (T:Txt K mg Z) (ptree:P.given.tree=none):cD P w K mg base fA 1 Z.yE Z.yk ["lines","begin","place"] EE:=by
 refine T.pA.F.k vG ?_;walk_at "i";obtain ⟨l,p,ls,b,c,rfl,G,l1000,b1000,hc,k1,k2⟩:=h
 refine ⟨_,(ao (dw PassesOwn.never rfl (MJ rfl T.range (cR cL (bo aM (by rfl) T.len aJ (dc bP)))) (dX 3 vG.nd)
   (ax (cV (aV vJ (aL bE (aL bE bP iu) dS) aj (be _)) (ax (aK iu)) bK)))
  (ax (aK k9))),?_⟩
 walk_at "s";obtain ⟨_,xs,gx,qx⟩:=id G;have lx:=qx.length;exists ⟨_,_,rfl,.inl (bB.of gx),?_⟩;rw[<- lx];exists ⟨⟨by lia,by lia,by lia,by lia⟩,?_⟩;refine EW (lo:=(b:Int)) (n:=((ls.length:Int) - (b:Int)).toNat) (λi σ' H'=>H'=H/\(∃y,σ'=[some (.ref p),some (.int b),some (.int c),y])/\∀s,b<=s->s < b+i->eJ ls s c=0) ⟨rfl,⟨_,rfl⟩,λs h1 h2=>absurd h2 (by lia)⟩ ?_ ?_
 ·rintro i σ' H' hi ⟨rfl,⟨y,rfl⟩,hz⟩;rw[show ((b:Int)+(i:Int))=((b+i:Nat):Int) by lia];obtain ⟨zs,v,ez,ev,mz,q,rfl,_,gq⟩:=gN qx (i:=b+i) (by lia);exists bX (bB.of gx) (dD ev) ?_;exists bX (bB.of gq) (BE (hc zs mz)) ?_;walk_at "w";have ef:=NI (c:=c) ez;by_cases e:zs.getD c 0=0
  ·rw[decide_eq_true e];exists ⟨rfl,⟨_,rfl⟩,λs h1 h2=>?_⟩;by_cases e2:s=b+i
   ·rw[e2,ef,e];rfl
   ·exact hz s h1 (by lia)
  ·rw[decide_eq_false e];exists k1 (b+i) (by lia) (by lia) (by rw[ef];exact V9.mpr e)
 ·rintro σ' H' ⟨rfl,⟨y,rfl⟩,hz⟩;exists k2 λt h1 h2=>hz t h1 (by lia)
theorem ni:sC ["lines","at","place","before","used","by","swept"] 4 zG:=by walk_at "d"
theorem KC (T:Txt K mg Z) (ptree:P.given.tree=none):cD P w K mg base fA 1 Z.Fv Z.Fb ["lines","at","place","before"] EF:=by
 refine T.xg.F.k ni ?_;walk_at "i";obtain ⟨l,p,ls,kk,c,n,b,rfl,hl,G,l1000,hk,hw,n1000,hc,b0,sb,hs,k⟩:=h
 refine ⟨_,(ao (eK 4 ni.nd (aL bE bP cL))
  (ao (eK 5 ni.nd (aL bE m5 dS))
  (ao (ki 6 ["line"] ["used","by","place","before"] [4,5,2,3] ni.nd rfl rfl (cA bP) (λ_=>(dX 0)) (λ_=>cG) (λ_=>(cx ["mine","yours"] ["by","line","place","before"] [2,0,3,4] (OE K rfl T.zip (cR bP cL)) (λ_=>(oy K 2 (b6 (dX 0) (b6 (dX 1) gE)))) (λ_=>cG) (λ_=>(bF (kj rfl ni rfl rfl rfl ptree (ye hr)) (bF nL (bF cN dS bP) (bF cN (aL (hJ K (by rfl)) iu m5) cL)) wW)))))
  (ao (fG m5 (iG nG cL set_list))
  (ax (aK nG)))))),?_⟩
 walk_at "s";obtain ⟨pl,xs,gx,qx⟩:=id G;have lx:=qx.length;obtain ⟨zk,vk,ek,evk,mk,qk,rfl,qkl,gk⟩:=gN qx hk;have wk:=hw zk mk;have ek':ls.getD kk []=zk:=by rw[aa,ek];rfl
 exists bX (bB.of gx) (dD evk) ?_;exists bX (bB.of gk) (BE (by lia)) ?_;exists ⟨⟨_,bB.of gx⟩,?_⟩;refine eO (K:=K) (xs:=xs) (λi ys H'=>aB H H'/\Paired (Mj l H') ((ls.take i).map λzs=>List.zipWith (λx y=>(zk.getD c 0*x - zs.getD c 0*y).fdiv b) zs zk) ys) lE ⟨aB.refl _,.nil⟩ (λi ys H' _ ⟨s,_⟩=>bB.of (s _ _ gx)) ?_ ?_
 ·rintro i v ys0 H' hx hlen ⟨s',pr⟩;obtain ⟨zs,ec,q,rfl,ql,gq⟩:=bQ qx hx;have mz:=ak ec;have wz:=hw zs mz;have gq':=s' _ _ gq;have gk':=s' _ _ gk;exists ⟨⟨_,bB.of gq'⟩,⟨_,bB.of gk'⟩,?_⟩;refine uT (K:=K) (xs:=zs.map V.int) (ws:=zk.map V.int) (λj ys H2=>aB H' H2/\ys=((List.zipWith (λx y=>(zk.getD c 0*x - zs.getD c 0*y).fdiv b) zs zk).take j).map V.int) (dh (cS (by rw[ag];lia))) (by rw[ag,ag];lia) ⟨aB.refl _,rfl⟩ (λj ys H2 _ ⟨s2,_⟩=>⟨bB.of (s2 _ _ gq'),bB.of (s2 _ _ gk')⟩) ?_ ?_
  ·rintro j v1 v2 ys H2 r h1 h2 hy ⟨s2,rfl⟩ hr
   obtain ⟨x,ex,rfl⟩:∃x,zs[j]?=some x/\V.int x=v1:=by
    rw[aA] at h1;cases e:zs[j]? with
    | none=>rw[e] at h1;cases h1
    | some x=>rw[e] at h1;exact ⟨x,rfl,bS h1⟩
   obtain ⟨y,ey,rfl⟩:∃y,zk[j]?=some y/\V.int y=v2:=by
    rw[aA] at h2;cases e:zk[j]? with
    | none=>rw[e] at h2;cases h2
    | some x=>rw[e] at h2;exact ⟨x,rfl,bS h2⟩
   have sr:aB H2 (upd H2 r (.tup [.int x,.int y])):=aB.new hr;have gr:(upd H2 r (.tup [.int x,.int y])) r=some (.tup [.int x,.int y]):=aD;generalize upd H2 r (.tup [.int x,.int y])=H3 at sr gr ⊢;have gq3:=sr _ _ (s2 _ _ gq');have sx:=hs zs mz x (ak ex);have sy:=hs zk mk y (ak ey);have s1:=hs zk mk _ (getD_in (e:=0) (show c < zk.length by lia));have s3:=hs zs mz _ (getD_in (e:=0) (show c < zs.length by lia));exists fv (show fM _ _ from .inr ⟨_,_,s1,sx,by decide⟩) ?_;exists bX (bB.of gq3) (BE (by lia)) ?_;exists fv (show fM _ _ from .inr ⟨_,_,s3,sy,by decide⟩) ?_;exists fv (show sX _ _ from ⟨b0,sb⟩) ?_;have ez:(List.zipWith (λx y=>(zk.getD c 0*x - zs.getD c 0*y).fdiv b) zs zk)[j]?=some ((zk.getD c 0*x - zs.getD c 0*y).fdiv b):=by rw[bY,ex,ey]
   exact ⟨s2.trans sr,by rw[take_snoc ez];simp⟩
  ·rintro ys H2 hy ⟨s2,rfl⟩ r hr;have sn:aB H2 (upd H2 r (.lst (((List.zipWith (λx y=>(zk.getD c 0*x - zs.getD c 0*y).fdiv b) zs zk).take (zs.map V.int).length).map V.int))):=aB.new hr;refine ⟨(s'.trans s2).trans sn,?_⟩;rw[take_snoc ec,cI];refine b9 (Paired.imp' (λ_ _ z=>(Mj.same z s2).same sn) pr) (.cons ⟨r,rfl,ne_old (λz=>hl (s'.none (s2.none z))) hr,?_⟩ .nil);rw[aD,aG (by rw[aY,ag];lia)]
 ·rintro ys H1 hy ⟨s1,pr⟩ r hr;have sn:aB H1 (upd H1 r (.lst ys)):=aB.new hr;have gn:(upd H1 r (.lst ys)) r=some (.lst ys):=aD;have ly:=pr.length;rw[ag,bI] at ly;generalize upd H1 r (.lst ys)=H2 at sn gn ⊢;exists fN gn (gK (by lia)) rfl ?_;have s2:aB H1 (upd H2 r (.lst (ys.set kk (.ref qk)))):=sn.after hr;exists k r _ (s1.none hr) (s1.trans s2) ⟨ne_old (λz=>hl (s1.none z)) hr,_,aD,?_⟩;unfold Jw;rw[ek'];rw[aG (by lia)] at pr;exact lg (Paired.imp' (λ_ _ z=>Mj.same z s2) pr) kk ⟨qk,rfl,qkl,(s1.trans s2) _ _ gk⟩
theorem vH:sC ["lines","at","to","swapped"] 3 qU:=by walk_at "d"
theorem DV (T:Txt K mg Z) (ptree:P.given.tree=none):cD P w K mg base fA 1 Z.yF Z.ym ["lines","at","to"] Ah:=by
 refine T.pB.F.k vH ?_;walk_at "i";obtain ⟨l,p,ls,t,kk,rfl,hl,G,l1000,ht,hk,k⟩:=h
 refine ⟨_,(ao (eK 3 vH.nd (fz mU (by rfl) T.list PyProof.Rows.boot_list (dc bP)))
  (ao (fG (aL bE bP cL) (iG iu dS set_list))
  (ao (fG (aL bE bP dS) (iG iu cL set_list))
  (ax (aK iu))))),?_⟩
 walk_at "s";obtain ⟨pl,xs,gx,qx⟩:=id G;have lx:=qx.length;obtain ⟨zt,vt,et,evt,_,Ft⟩:=gN qx ht;obtain ⟨zk,vk,ek,evk,_,Fk⟩:=gN qx hk;exists ⟨p,xs,rfl,.inl (bB.of gx),λc hc=>?_⟩;have sc:aB H (upd H c (.lst xs)):=aB.new hc;have gc:(upd H c (.lst xs)) c=some (.lst xs):=aD;generalize upd H c (.lst xs)=Hc at sc gc ⊢;exists bX (bB.of (sc _ _ gx)) (dD evt) ?_;exists fN gc (gK (by lia)) rfl ?_;have s1:aB H (upd Hc c (.lst (xs.set kk vt))):=sc.after hc;have g1:(upd Hc c (.lst (xs.set kk vt))) c=some (.lst (xs.set kk vt)):=aD;generalize upd Hc c (.lst (xs.set kk vt))=H1 at s1 g1 ⊢;exists bX (bB.of (s1 _ _ gx)) (dD evk) ?_;exists fN g1 (gK (by rw[fe];lia)) rfl ?_;have s2:aB H (upd H1 c (.lst ((xs.set kk vt).set t vk))):=s1.after hc;exists k c _ hc s2 ⟨ne_old hl hc,_,aD,?_⟩;have et':ls.getD t []=zt:=by rw[aa,et];rfl
 have ek':ls.getD kk []=zk:=by rw[aa,ek];rfl
 unfold qK;rw[et',ek'];exact lg (lg (Paired.imp' (λ_ _ z=>Mj.same z s2) qx) kk (Mj.same Ft s2)) t (Mj.same Fk s2)
theorem j7:sC ["rows","wide","lines","leads","before","place","many","at"] 2 F4:=by walk_at "d"
theorem IX (T:Txt K mg Z) (ptree:P.given.tree=none):cD P w K mg base fA 4 Z.Me Z.LY ["rows","wide"] (En K):=by
 have oK:=xR (P:=P) (w:=w) (base:=base) T ptree;have jH:=pV (P:=P) (w:=w) (base:=base) T ptree;have HP:=DU (P:=P) (w:=w) (base:=base) T ptree;have Nt:=KC (P:=P) (w:=w) (base:=base) T ptree;have HQ:=DV (P:=P) (w:=w) (base:=base) T ptree;refine T.xW.F.k j7 ?_;walk_at "i";obtain ⟨p,n,w,H0,rows,rfl,G,r100,n100,hw,F,k⟩:=h
 refine ⟨_,(ao (ki 2 ["row"] [] [] j7.nd rfl rfl (cA bP) (λ_=>(dX 0)) (λ_=>cG) (λ_=>(cE oK hr T.kr (cR bP (cE jH hr T.gZ (dc bP))))))
  (ao (eK 3 j7.nd (eU iV))
  (ao (eK 4 j7.nd aj)
  (ao (dw PassesOwn.never rfl (cp rfl T.range (dc cL)) (dX 5 j7.nd)
   (ao (eK 6 j7.nd (bo aM (by rfl) T.len aJ (dc iu)))
  (ao (eK 7 j7.nd (cE HP hr T.pA (tG dS nG wW)))
  (ax (cV (aV LA zK k9 (be _)) (ao (eK 2 j7.nd (cE Nt hr T.xg (JX (cE HQ hr T.pB (tG dS zK nG)) nG wW m5)))
  (ao (eK 4 j7.nd (aL bE (aL bE dS nG) wW))
  (ax (fO (nJ bN ck cg gD iu (dc wW)))))) bK)))))
  (ax (aK (dm (cR (xP Bn dS F9 (xN (bo aM (by rfl) T.len aJ (dc iu)))) iu)))))))),?_⟩
 walk_at "s";obtain ⟨xs,gx,qx,_⟩:=id G;obtain ⟨W,hW,W2,ent⟩:=F.ent;obtain ⟨_,_,_,_,_,_,_,_,r15,r89⟩:=id F;exists ⟨⟨_,bB.of gx⟩,?_⟩;refine d4 (K:=K) (as:=rows) (F:=cW K H0) (λ(H:Hp) (zs:List Int) (v:V)=>∃q,v=V.ref q/\H q=some (.lst (zs.map V.int))) iO gx qx (by lia) (λa b=>a.same b) (λ⟨q,a,b⟩ s=>⟨q,a,s _ _ b⟩) ?_ ?_
 ·rintro i qs v H' NY NN ec s' ⟨u,rfl,_,R⟩ k1;have mx:=ak ec;obtain ⟨M,hM⟩:=F.rowM mx;obtain ⟨b1,sb⟩:=hM.bot;have lq:(qs.map nm).length<=1000:=by rw[ag,hw qs mx];lia
  exists ⟨u,_,M,rfl,R.rowK,lq,hM,λH2 s2=>?_⟩;exists ⟨u,_,M,_,rfl,(R.same s2).rowK,lq,hM,b1,sb,λr H3 n3 s3 g3=>k1 _ _ (s2.trans s3) ⟨r,rfl,g3⟩⟩
 rintro ys H1 lp0 hlp s1 g1 pr1 nx1;exists dJ λqp H2 s2 nq gq=>?_
 have G2:uZ qp H2 lp0 (rows.map iO):=⟨(λz=>by rw[z,nq] at g1;cases g1),ys,s2 _ _ g1,Paired.imp' (λ_ _ ⟨q,a,b⟩=>⟨q,a,(λz=>by rw[z,nq] at b;cases b),s2 _ _ b⟩) pr1⟩;have hq0:H qp=none:=s1.none nq;have s02:=s1.trans s2;have hm:(rows.map iO).length=rows.length:=ag ..;clear g1 pr1 nx1;exists ⟨by lia,by lia,?_⟩;refine dZ (n:=n) (λP σ' H'=>aB H H'/\∃lp ls ps d y1 y2 y3,σ'=[some (.ref p),some (.int n),some (.ref lp),some (.ref qp),some (.int d),y1,y2,y3]/\H' qp=some (.lst (du ps))/\uZ qp H' lp ls/\Fy (rows.map iO) n P ls ps d) ⟨s02,lp0,rows.map iO,[],1,_,_,_,rfl,gq,G2,Fy.start λzs hz=>by obtain ⟨x,hx,rfl⟩:=aw.mp hz;rw[pO];exact hw x hx⟩ ?_ ?_
 ·rintro P σ' H' hP ⟨s',lp,ls,ps,d,y1,y2,y3,rfl,gq',G',I⟩;have hl:=I.len;have kP:=I.el.kP;have km:=I.el.km;have lps:(du ps).length=ps.length:=ag ..;have hqp:H' qp≠none:=by rw[gq'];exact λz=>nomatch z
  obtain ⟨z1,z2⟩:=I.sz (r:=min rows.length n) hW ent (by lia) (by rw[hm];exact ar _) r15;have big:(16*W)^min rows.length n < 2^449950:=br (zO W2) (d6 (by decide) (by lia));exists ⟨_,_,rfl,.inl (bB.of gq'),?_⟩;rw[lps];exists ⟨qp,lp,ls,ps.length,P,rfl,G',by lia,by lia,λzs hz=>by rw[I.wide zs hz];exact hP,λt h1 h2 h3=>?_,λhz=>?_⟩
  ·exists ⟨rfl,_,rfl,?_⟩;rw[show decide (V.int (t:Int)=V.non)=false from decide_eq_false (λz=>nomatch z)];exists ⟨qp,lp,ls,t,ps.length,rfl,hqp,G',by lia,h2,by lia,λl1 Ha na sa Ga=>?_⟩;exists ⟨qp,l1,_,ps.length,P,n,d,rfl,λz=>hqp (sa.none z),Ga,by rw[zd];lia,by rw[zd];lia,Lj I.wide (by lia) h2,by lia,hP,I.d0,br z1 big,λzs hz z hz'=>?_,λl2 Hb nb sb Gb=>?_⟩
   ·unfold qK at hz;have key:∀ys,ys∈ls->∀z∈ys,Sz 449950 z:=λys hy z hz=>br (z2 ys hy z hz) big
    rcases cY hz with h | h
    ·rcases cY h with h | h
     ·exact key zs h z hz'
     ·rw[h] at hz';exact key _ (getD_in h2) z hz'
    ·rw[h] at hz';exact key _ (getD_in (by lia)) z hz'
   have sab:=sa.trans sb;have I2:=I.step hW ent h1 h2 h3;have hk2:ps.length < (Jw (qK ls ps.length t) ps.length P d).length:=by rw[Pz,zd];lia
   obtain ⟨n2,xs2,gx2,qx2⟩:=id Gb;obtain ⟨zk,vk,ek,evk,mk,qk,rfl,_,gk⟩:=gN qx2 hk2;have wk:=I2.wide zk mk;exists bX (bB.of gx2) (dD evk) ?_;exists bX (bB.of gk) (BE (by lia)) ?_;have gqb:=sab _ _ gq';exists ⟨.inl ⟨rfl,_,bB.of gqb⟩,?_⟩;exists fZ gqb (cS (by lia)) ?_;refine ⟨(s'.trans sab).after hq0,l2,_,ps++[P],_,_,_,_,rfl,?_,Gb.upd,?_⟩
   ·rw[aD];unfold du;rw[cI];rfl
   ·have e:(Jw (qK ls ps.length t) ps.length P d).getD ps.length []=zk:=by rw[aa,ek];rfl
    rw[e] at I2;exact I2
  ·exists ⟨rfl,_,rfl,?_⟩;rw[show decide (V.non=V.non)=true from decide_eq_true rfl];exists ⟨s',lp,ls,ps,d,_,_,_,rfl,gq',G',I.skip hz⟩
 rintro σ' H' ⟨s',lp,ls,ps,d,y1,y2,y3,rfl,gq',G',I⟩;obtain ⟨R,hR⟩:=I.done hw F;have lps:(du ps).length=ps.length:=ag ..;obtain ⟨nl,xs',gx',qx'⟩:=id G';exists ⟨_,_,rfl,.inl (bB.of gq'),?_⟩;rw[lps];exists Ot (bB.of gx') λsl H3 s3 n3 g3=>?_
 rw[Pu] at g3;exists cz λt H4 s4 g4=>?_
 have s34:=s3.trans s4;exact k t sl qp R ps d _ H4 g4 (s34 _ _ gq') ⟨(λz=>by rw[z,gq'] at n3;cases n3),_,s4 _ _ g3,Paired.imp' (λ_ _ z=>Mj.same z s34) (oz qx' ps.length)⟩ (s'.trans s34) hR
theorem pR:sC ["rows","wide","due","found","answer","line","lead"] 3 Cj:=by walk_at "d"
theorem MM (T:Txt K mg Z) (ptree:P.given.tree=none):cD P w K mg base fA 5 Z.JD Z.Jr ["rows","wide","due"] (BQ K):=by
 have HL:=IX (P:=P) (w:=w) (base:=base) T ptree;have kI:=o8 (P:=P) (w:=w) (base:=base) T ptree;have kJ:=pU (P:=P) (w:=w) (base:=base) T ptree;refine T.vo.F.k pR ?_;walk_at "i";obtain ⟨p,q,n,w,H0,rows,due,rfl,G,Rd,hd,m99,n99,hw,F,k1,k2⟩:=h
 refine ⟨_,(ao (eK 3 pR.nd (cE HL hr T.xW (cR (cx ["row","wanted"] [] [] (mP rfl T.zip (cR bP dS)) (λ_=>(oy K 2 (b6 (dX 0) (b6 (dX 1) gE)))) (λ_=>cG) (λ_=>(bF uF bP (eU (dc cL))))) (bF fI cL aj))))
  (ao (cV (aV ML cL (aL bu iu aj) (by with_unfolding_all rfl)) (ax (aK k9)) bK)
  (ao (eK 4 pR.nd (cE kI hr T.jv (dc cL)))
  (ao (dw PassesOwn.never rfl (mP rfl T.zip (cR (aL bu iu aj) (aL bu iu aj))) (o6 rfl (b6 (dX 5 pR.nd) (b6 (dX 6 pR.nd) gE)))
   (ax (fG (cE kJ hr T.lh (cR (aL bE wW cL) (aL bE wW nG))) (iG m5 nG set_list))))
  (ax (aK m5)))))),?_⟩
 walk_at "s";obtain ⟨xs,gx,qx,_⟩:=id G;obtain ⟨ds,gd,qd⟩:=id Rd;have lx:=qx.length;have ld:=qd.length;have lj:=GX hd;exists ⟨⟨_,bB.of gx⟩,⟨_,bB.of gd⟩,?_⟩;refine uT (K:=K) (xs:=xs) (ws:=ds) (λi ys H'=>aB H H'/\Paired (cW K H H') ((eZ rows due).take i) ys) lE (by lia) ⟨aB.refl _,.nil⟩ (λi ys H' _ ⟨s,_⟩=>⟨bB.of (s _ _ gx),bB.of (s _ _ gd)⟩) ?_ ?_
 ·rintro i v1 v2 ys H' r h1 h2 hy ⟨s,pr⟩ hr;obtain ⟨row,er,u,rfl,_,Ru⟩:=bQ qx h1;obtain ⟨d,ed,nd⟩:=bQ qd h2;have wr:=hw row (ak er);have sr:aB H' (upd H' r (.tup [.ref u,v2])):=aB.new hr;have gr:(upd H' r (.tup [.ref u,v2])) r=some (.tup [.ref u,v2]):=aD;generalize upd H' r (.tup [.ref u,v2])=H2 at sr gr ⊢;have s2:=s.trans sr;exists dJ λl1 H3 s3 n3 g3=>?_
  have s23:=s2.trans s3;obtain ⟨zs,gz,qz⟩:=Ru.same s23;have lz:=qz.length;exists uA gz g3 (dh (cS (by rw[aQ];lia))) λl2 H4 s4 n4 g4=>?_
  refine ⟨s23.trans s4,?_⟩;rw[take_snoc (Sw er ed)];exact b9 (Paired.imp' (λ_ _ z=>cW.same z ((sr.trans s3).trans s4)) pr) (.cons ⟨l2,rfl,s23.none n4,_,g4,Paired.imp' (λ_ _ z=>cv.same z s4) (b9 qz (.cons (nd.same s23) .nil))⟩ .nil)
 rintro ys H1 hy ⟨s1,pr⟩ l hl;have sn:aB H1 (upd H1 l (.lst ys)):=aB.new hl;have gn:(upd H1 l (.lst ys)) l=some (.lst ys):=aD;rw[aG (by lia)] at pr;generalize upd H1 l (.lst ys)=H2 at sn gn ⊢;have GJ:bf K H H2 l (eZ rows due):=zX pr sn hl gn;have s02:=s1.trans sn;walk_at "w";rw[show ((n:Int)+1)=((n+1:Nat):Int) by lia];refine ⟨l,n+1,w,H,_,rfl,GJ,by lia,by lia,GW hw,F,λt lp qp R ps d ls H3 gt gq GZ s3 S=>?_⟩;have s03:=s02.trans s3;have pn:=S.rr.le;exists ⟨qp,du ps,rfl,.inl (bB.of gq),rfl,EM,?_⟩;rw[Jj];by_cases hn:n∈ps
 ·rw[decide_eq_true hn,show (if false=true then !true else true)=true from rfl];exists k2 R ps H3 S.rr hn s03
 ·rw[decide_eq_false hn,show (if false=true then !false else false)=false from rfl];obtain ⟨lR,wR,rr⟩:=id S.rr;obtain ⟨_,zs,gz,qz⟩:=id GZ;have lz:=qz.length;have hl':=S.len
  have low:∀j,j < ps.length->ps.getD j 0 < n:=λj hj=>by
   have:=rr.low j hj;have:ps.getD j 0≠n:=λz=>hn (by rw[<- z];exact getD_in hj)
   lia
  obtain ⟨_,_,_,_,_,_,_,_,_,e89⟩:=id F;rw[lj] at e89;have dsz:Sz 449950 d:=br S.dsz (d6 (by decide) (by rw[lj];lia));have lps:=nO (ps:=ps);exists ⟨n,rfl,by lia,λan H4 na s4 R4=>?_⟩;rw[<- Qu (R:=R) (ps:=ps)] at R4;obtain ⟨vs0,g0,q0⟩:=id R4;have gt4:=s4 _ _ gt;exists ⟨⟨_,bB.of (s4 _ _ gz)⟩,⟨_,bB.of (s4 _ _ gq)⟩,?_⟩;refine Hq (K:=K) (xs:=zs) (ws:=du ps) (λj σ' H'=>aB H3 H'/\∃y1 y2 vs,σ'=[some (.ref p),some (.int n),some (.ref q),some (.ref t),some (.ref an),y1,y2]/\H' an=some (.lst vs)/\Paired (cv K H') (xD R ps n j) vs) (by lia) ⟨s4,_,_,vs0,rfl,g0,q0⟩ (λj σ' H' _ ⟨e,_⟩=>⟨bB.of (e _ _ gz),bB.of (e _ _ gq)⟩) ?_ ?_
  ·rintro j v1 v2 σ' H' r h1 h2 ⟨s',y1,y2,vs,rfl,ga,qa⟩ hr;obtain ⟨line,el,u,rfl,_,gu⟩:=bQ qz h1;have wl:=S.wide line (ak el);obtain ⟨pj,ej,rfl⟩:=xV h2;have hj:j < ps.length:=(az.mp ej).1;have ejD:ps.getD j 0=pj:=by rw[aa,ej];rfl
   have pjn:=low j hj;rw[ejD] at pjn;have v0:=S.val j n;rw[NI el] at v0
   have ed:line.getD pj 0=d:=by
    have h:=S.val j pj;rw[NI el] at h;have u:=rr.unit j hj j hj;rw[if_pos rfl,ejD] at u;rw[u,Rat.mul_one] at h;exact dH.mp h
   have sr:aB H' (upd H' r (.tup [.ref u,.int pj])):=aB.new hr;have gr:(upd H' r (.tup [.ref u,.int pj])) r=some (.tup [.ref u,.int pj]):=aD;generalize upd H' r (.tup [.ref u,.int pj])=H5 at sr gr ⊢;have gu5:=(s'.trans sr) _ _ gu;exists bX (bB.of gu5) (BE (by lia)) ?_;exists bX (bB.of gu5) (BE (by lia)) ?_;rw[ed];exists ⟨_,d,rfl,S.d0,dsz,λr6 H6 s6 g6=>?_⟩;have d0:(d:Rat)≠0:=λz=>S.d0 (sS z)
   have n6:cv K H6 (bW R j n) (.ref r6):=by
    refine cv.mk g6 ?_;rcases Int.lt_or_lt_of_ne S.d0 with hd' | hd'
    ·rw[if_pos hd',if_pos hd'];refine lQ (by lia) ?_;rw[cZ,cZ,v0];grind
    ·rw[if_neg (by lia),if_neg (by lia)];refine lQ hd' ?_;rw[v0];grind
   have ga6:=(sr.trans s6) _ _ ga;have la:=qa.length;rw[mh] at la;exists fN ga6 (gK (by lia)) rfl ?_;refine ⟨((s'.trans sr).trans s6).after na,_,_,_,rfl,aD,?_⟩;rw[<- Qv S.rr hj,ejD];exact lg (Paired.imp' (λ_ _ z=>(cv.same z (sr.trans s6)).updL ga6) qa) pj (n6.updL ga6)
  ·rintro σ' H' ⟨s',y1,y2,vs,rfl,ga,qa⟩;rw[show zs.length=ps.length by lia] at qa;exists k1 an R ps d.natAbs H' S.rr hn (s03.none na) (s03.trans s') ⟨vs,ga,qa⟩ (by have:=S.d0;lia) (by rw[<- lj];exact S.dsz) ?_;rw[<- lj];exact Oe (by have:=S.d0;lia) S.tp S.rr
theorem Ca:sC ["rows","wide","due","answer","columns"] 3 F5:=by walk_at "d"
theorem OK (T:Txt K mg Z) (ptree:P.given.tree=none):cD P w K mg base fA 6 Z.Mf Z.LZ ["rows","wide","due"] (Eo K):=by
 have JL:=MM (P:=P) (w:=w) (base:=base) T ptree;have jz:=nM (P:=P) (w:=w) (base:=base) T ptree;have kI:=o8 (P:=P) (w:=w) (base:=base) T ptree;refine T.CQ.F.k Ca ?_;walk_at "i";obtain ⟨p,q,n,w,w1,H0,rows,due,rfl,G,Rd,hd,m90,n90,hw,F,F1,k1,k2⟩:=h
 refine ⟨_,(ao (eK 3 Ca.nd (cE JL hr T.vo (tG bP cL dS)))
  (ao (cV (aV LA iu k9 (be _)) (ax (aK (dm (cR nI iu)))) bK)
  (ao (eK 4 Ca.nd (cE jz hr T.iY (cR bP cL)))
  (ax (aK (dm (cR nI (cE JL hr T.vo (tG (bF uF m5 (eU (dc dS))) (bo aM (by rfl) T.len aJ (dc bP)) (bF uF (cE kI hr T.jv (dc cL)) (eU (dc (mQ (v:=.ref Z.a_ONE) rfl T.mg_ONE rfl))))))))))))),?_⟩
 walk_at "s";exists ⟨p,q,n,w,H0,rows,due,rfl,G,Rd,hd,by lia,by lia,hw,F,λx R ps M H1 RR hn nx s1 Rx M0 M1 tM=>?_,λR ps H1 RR hn s1=>?_⟩
 ·exists ⟨rfl,_,rfl,?_⟩;rw[show decide (V.ref x=V.non)=false from decide_eq_false (λz=>nomatch z)];exists cz λt H2 s2 g2=>?_
  exact k1 t x R ps M H2 RR hn g2 nx (s1.trans s2) (Rx.same s2) M0 M1 tM
 ·exists ⟨rfl,_,rfl,?_⟩;rw[show decide (V.non=V.non)=true from decide_eq_true rfl];exists ⟨p,n,H0,rows,rfl,G.same s1,by lia,by lia,hw,λco H2 nc s2 G2=>?_⟩;have s02:=s1.trans s2;exists dJ λl3 H3 s3 n3 g3=>?_
  obtain ⟨cs,gc,qc,_⟩:=G2.same s3;have lc:=qc.length;rw[bZ] at lc;exists uA gc g3 (dh (cS (by rw[aQ];lia))) λl4 H4 s4 n4 g4=>?_
  have s03:=s02.trans s3;have s04:=s03.trans s4;have G4:bf K (λ_=>none) H4 l4 (aW rows n++[due]):=zX (H:=H3) (b9 (Paired.imp' (λ_ _ ⟨q',a,_,c⟩=>⟨q',a,rfl,c⟩) qc) (.cons ⟨q,rfl,rfl,Rd.same s03⟩ .nil)) s4 n4 g4;obtain ⟨xs,gx,qx,_⟩:=G.same s04;have lx:=qx.length;exists ⟨_,_,rfl,.inl (bB.of gx),?_⟩;rw[<- lx];exists ⟨n,rfl,by lia,λl5 H5 n5 s5 R5=>?_⟩;exists dJ λl6 H6 s6 n6 g6=>?_
  obtain ⟨zs,gz,qz⟩:=R5.same s6;have lz:=qz.length;rw[bA] at lz;exists uA gz g6 (dh (cS (by rw[aQ];lia))) λl7 H7 s7 n7 g7=>?_
  have s47:=(s5.trans s6).trans s7;have s07:=s04.trans s47;have R7:cK K H7 l7 (List.replicate n 0++[1]):=⟨_,g7,Paired.imp' (λ_ _ z=>cv.same z s7) (b9 qz (.cons ⟨_,rfl,T.sq_ONE _⟩ .nil))⟩;have l1:(aW rows n++[due]).length=n+1:=by rw[ai,bZ];rfl
  have w1':∀xs∈aW rows n++[due],xs.length=rows.length:=λxs hx=>by
   rcases av.mp hx with hx | hx
   ·exact kU xs hx
   ·rw[bV.mp hx];exact hd
  exists ⟨l4,l7,rows.length,w1,_,_,_,rfl,G4.same s47,R7,by rw[l1,ai,bA];rfl,by lia,by lia,w1',F1,λx R1 p1 M H8 RR1 hn1 nx s8 Rx M0 M1 tM=>?_,λR1 p1 H8 RR1 hn1 s8=>?_⟩
  ·exists cz λt H9 s9 g9=>?_
   rw[l1] at M1 tM;exact k2 t x R ps R1 p1 M H9 RR hn RR1 hn1 g9 (s07.none nx) ((s07.trans s8).trans s9) (Rx.same s9) M0 M1 tM
  ·exact absurd hn1 (EI hd hw RR hn RR1)
theorem FW:sC ["lists","joined","each"] 1 Kq:=by walk_at "d"
theorem Ri (T:Txt K mg Z) (ptree:P.given.tree=none):cD P w K mg base fA 1 Z.PJ Z.Pq ["lists"] IA:=by
 refine T.Br.F.k FW ?_;walk_at "i";obtain ⟨p,us,zss,rfl,gx,qx,hl,k⟩:=h
 refine ⟨_,(ao (eK 1 FW.nd (eU iV))
  (ao (dw PassesOwn.never rfl (cA bP) (dX 2 FW.nd)
   (ax (fO (nJ bN UL UK EN cL (dc dS)))))
  (ax (aK cL)))),?_⟩
 walk_at "s";have lx:=qx.length;exists dJ λj H1 s1 n1 g1=>?_
 exists ⟨⟨_,bB.of (s1 _ _ gx)⟩,?_⟩;refine gL (K:=K) (a:=p) (xs:=us) (λi σ' H'=>aB H H'/\∃x:Option V,σ'=[some (.ref p),some (.ref j),x]/\H' j=some (.lst (zss.take i).flatten)) ⟨s1,none,rfl,g1⟩ (λi σ' H' _ ⟨s,_⟩=>bB.of (s _ _ gx)) ?_ ?_
 ·rintro i x σ' H' hx ⟨s,y,rfl,gj⟩;obtain ⟨zs,ez,q,rfl,gz⟩:=bQ qx hx;have tl:(zss.take (i+1)).flatten=(zss.take i).flatten++zs:=by rw[take_snoc ez,vm];simp
  have bl:(zss.take i).flatten.length+zs.length<=1000:=by
   have e:zss.flatten=(zss.take (i+1)).flatten++(zss.drop (i+1)).flatten:=by rw[<- vm,List.take_append_drop]
   rw[e,tl,ai,ai] at hl
   lia
  exists ⟨.inl ⟨rfl,_,bB.of gj⟩,?_⟩;exists ⟨j,q,_,zs,rfl,rfl,gj,s _ _ gz,dh (cS (by lia)),?_⟩;exact ⟨s.after n1,_,rfl,by rw[aD,tl]⟩
 ·rintro σ' H' ⟨s,y,rfl,gj⟩;rw[aG (by lia)] at gj;exists k j H' n1 s gj
theorem DN:sC ["system","rows"] 2 qS:=by walk_at "d"
theorem vK (T:Txt K mg Z) (ptree:P.given.tree=none):cD P w K mg base fA 6 Z.yD Z.yj ["system","rows"] (Ex K Z.a_System):=by
 have z8:=CG (P:=P) (w:=w) (base:=base) T ptree;refine T.lN.F.k DN ?_;walk_at "i";obtain ⟨x,p,H0,H1,mv,pt,lk,R,rfl,S,D,G,l100,wR,hf,k⟩:=h;refine ⟨_,(ax (aK (cx ["row"] ["system"] [0] (cA cL) (λ_=>(dX 0)) (λ_=>cG) (λ_=>(cE z8 hr T.rG (cR (Q7 K cL rfl) bP)))))),?_⟩;walk_at "s";obtain ⟨dx,a',b',c',gx,_,_,_,Ga,Gb,Gc⟩:=id S;have d8:=D.n8;obtain ⟨xs,gxs,qx,_⟩:=id G;exists ⟨⟨_,bB.of gxs⟩,?_⟩;refine d4 (K:=K) (F:=cW K H1) (cW K H) (ou mv) gxs qx (by lia) (λa b=>a.same b) (λa b=>a.same b) ?_ ?_
 ·rintro i ns v H' NY NN en s ⟨u,rfl,_,hu⟩ k1;have mn:=ak en;exists ⟨x,Z.a_System,dx,_,_,rfl,s _ _ gx,T.cl_System,T.na_move,BI,?_⟩;exists ⟨a',u,H0,mv,ns,rfl,Ga.same s,hu,by lia,by rw[wR ns mn];lia,λxs hx=>⟨by rw[D.mw xs hx,wR ns mn],hf xs hx ns mn⟩,λr H2 nr s2 R2=>k1 _ _ s2 ⟨r,rfl,s.none nr,R2⟩⟩
 ·rintro ys H' r hr s g pr nx;exact k r H' hr s ⟨ys,g,pr,ko nx⟩
theorem j8:sC ["system","steps","lists","rows","step"] 2 ue:=by walk_at "d"
theorem Gx (T:Txt K mg Z) (ptree:P.given.tree=none):cD P w K mg base fA 7 Z.AK Z.Ap ["system","steps"] (IE K Z.a_System):=by
 have so:=vK (P:=P) (w:=w) (base:=base) T ptree;refine T.rH.F.k j8 ?_;walk_at "i";obtain ⟨x,u,H0,mv,pt,lk,rfl,hu,S,D,F,k⟩:=h
 refine ⟨_,(ao (eK 2 j8.nd (eU iV))
  (ao (eK 3 j8.nd (fW bP rfl))
  (ao (dw PassesOwn.never rfl (cp rfl T.range (dc cL)) (dX 4 j8.nd)
   (ao (fO (nJ bN ck cg gD dS (dc iu)))
  (ax (eK 3 j8.nd (cE so hr T.lN (cR bP iu))))))
  (ax (aK dS))))),?_⟩
 walk_at "s";obtain ⟨dx,a',b',c',gx,_,_,_,Ga,Gb,Gc⟩:=id S;have d8:=D.n8;have i4:=D.i4;exists dJ λl H1 s1 n1 g1=>?_
 exists ⟨x,Z.a_System,dx,_,_,rfl,s1 _ _ gx,T.cl_System,T.na_put,Bl,?_⟩;walk_at "w";obtain ⟨bl,G0⟩:=Gb.off n1;have G1:=G0.same s1;refine ⟨by lia,by lia,?_⟩;refine dZ (n:=u) (λi σ' H'=>aB H H'/\∃q us y,σ'=[some (.ref x),some (.int u),some (.ref l),some (.ref q),y]/\q≠l/\H' l=some (.lst us)/\Paired (NA K l H') (Ni mv pt i) us/\bf K (GO l) H' q (pt.map (iP mv i))) ⟨s1,b',[],_,rfl,bl,g1,.nil,by rw[show pt.map (iP mv 0)=pt from tj pt];exact G1⟩ ?_ ?_
 ·rintro i σ' H' hi ⟨s',q,us,y,rfl,ql,gu,pu,Gq⟩;have lu:=pu.length;have la:(Ni mv pt i).length=i:=by unfold Ni;rw[ag,bL]
  exists ⟨.inl ⟨rfl,_,bB.of gu⟩,?_⟩;exists fZ gu (cS (by lia)) ?_;have s2:aB H (upd H' l (.lst (us++[V.ref q]))):=s'.after n1;have g2:(upd H' l (.lst (us++[V.ref q]))) l=some (.lst (us++[V.ref q])):=aD
  have p2:Paired (NA K l (upd H' l (.lst (us++[V.ref q])))) (Ni mv pt (i+1)) (us++[V.ref q]):=by
   rw[Mc];exact b9 (Paired.imp' (λ_ _ z=>NA.upd z gu) pu) (.cons ⟨q,rfl,ql,Gq.updL gu off_ne ql⟩ .nil)
  have Gq2:=Gq.updL (o:=.lst (us++[V.ref q])) gu off_ne ql;generalize upd H' l (.lst (us++[V.ref q]))=H2 at s2 g2 p2 Gq2 ⊢;walk_at "w"
  refine ⟨x,q,H0,GO l,mv,pt,lk,_,rfl,S.same s2,D,Gq2,by rw[ag];lia,λr hr=>?_,λxs hx r hr=>(by
    obtain ⟨y,hy,rfl⟩:=aw.mp hr;exact ((F.row D.mw D.pw y hy).fit D.mw (D.pw y hy) (by lia)).1 xs hx),λr H3 nr s3 G3=>?_⟩
  ·obtain ⟨y,hy,rfl⟩:=aw.mp hr;exact xM (D.pw y hy) i
  ·have e:(pt.map (iP mv i)).map (ou mv)=pt.map (iP mv (i+1)):=by rw[jJ];rfl
   rw[e] at G3;exact ⟨s2.trans s3,r,_,_,rfl,λz=>(by rw[z,g2] at nr;cases nr),s3 _ _ g2,Paired.imp' (λ_ _ z=>NA.same z s3) p2,G3.weakN λq h=>OM λz=>by rw[z,g2] at h;cases h⟩
 ·rintro σ' H' ⟨s',q,us,y,rfl,ql,gu,pu,Gq⟩;exists k l us H' n1 s' gu pu
theorem zx:sC ["self"] 1 fY:=by walk_at "d"
theorem pW (T:Txt K mg Z) (ptree:P.given.tree=none):cD P w K mg base fA 7 Z.mF Z.mD ["self"] (BN K Z.a_System):=by
 have kL:=nN (P:=P) (w:=w) (base:=base) T ptree;have jz:=nM (P:=P) (w:=w) (base:=base) T ptree;refine T.sV.k zx ?_;walk_at "i";obtain ⟨x,H0,mv,pt,lk,rfl,S,D,F,k⟩:=h;refine ⟨_,(ax (aK (Ly T.mk_System kL (hr.mono (by decide)) rfl T.mg_System T.kE .nil Cw (tG (cE jz hr T.iY (cR (fW bP rfl) (fW bP rfl))) (fW bP rfl) (fW bP rfl))))),?_⟩;walk_at "s";obtain ⟨dx,a,b,c,gx,n1,n2,n3,Ga,Gb,Gc⟩:=id S;have d1:=D.n8;exists ⟨x,Z.a_System,dx,_,_,rfl,gx,T.cl_System,T.na_move,BI,?_⟩;exists ⟨x,Z.a_System,dx,_,_,rfl,gx,T.cl_System,T.na_states,jM,?_⟩;exists ⟨a,mv.length,H0,mv,rfl,Ga,by lia,by lia,D.mw,λt H1 nt s1 Gt=>?_⟩;have gx1:=s1 _ _ gx;exists ⟨x,Z.a_System,dx,_,_,rfl,gx1,T.cl_System,T.na_look,Ik,?_⟩;exists ⟨x,Z.a_System,dx,_,_,rfl,gx1,T.cl_System,T.na_put,Bl,?_⟩;walk_at "w";intro x' dx' nx ndx nex;have F':=F.turn;exact ⟨x',dx',t,c,b,H1,H,H0,H0,_,_,_,rfl,nx,ndx,nex,rfl,Gt,Gc.same s1,Gb.same s1,D.turn,F'.ok.1,F'.ok.2.1,F'.ok.2.2,λH' s' S'=>⟨rfl,k x' H' (s1.none nx) (s1.trans s') (S'.weak s1)⟩⟩
theorem Td:sC ["row","many","wide"] 3 Oj:=by walk_at "d"
theorem T5 (T:Txt K mg Z) (ptree:P.given.tree=none):cD P w K mg base fA 1 Z.SM Z.SJ ["row","many","wide"] (Lq K):=by
 refine T.KI.F.k Td ?_;walk_at "i";obtain ⟨p,u,kk,w,rfl,Rw,lw,uk,u1,k1,k⟩:=h;refine ⟨_,(ax (aK (cx ["turn"] ["row","wide"] [0,2] (cp rfl T.range (dc cL)) (λ_=>(dX 0)) (λ_=>cG) (λ_=>(xP (Of K (by rfl)) cL (xN (bF cN bP dS)) (xN (bF cN (bF fI bP aj) dS))))))),?_⟩;walk_at "s";obtain ⟨xs,gx,qx⟩:=id Rw;have lx:=qx.length;exists ⟨by lia,by lia,?_⟩;refine hZ (n:=u) (cW K H) (λt=>(w.drop (t*kk)).take kk) (by lia) (λa b=>a.same b) ?_ ?_
 ·rintro i Hb NY NN hi sa k2;have b1:i*kk+kk<=u*kk:=by rw[<- dU];exact ay _ hi
  exists fv (Bx (by lia) (by lia)) ?_;exists fv (L6 (by lia) (by lia)) ?_;walk_at "w";rw[show ((i:Int)*(kk:Int))=((i*kk:Nat):Int) by lia,show (((i:Int)+1)*(kk:Int))=((i*kk:Nat):Int)+(kk:Int) by rw[Int.add_mul,Int.one_mul];lia];refine ⟨p,xs,rfl,bB.of (sa _ _ gx),λr hr=>?_⟩;rw[RM (by lia)];have sn:=aB.new (o:=.lst ((xs.drop (i*kk)).take kk)) hr;exact k2 _ _ sn ⟨r,rfl,sa.none hr,_,aD,Paired.imp' (λ_ _ z=>(z.same sa).same sn) (oz (vI qx _) _)⟩
 rintro ys Hz t ht sz g pr nx;exact k t Hz ht sz ⟨ys,g,pr,ko nx⟩
theorem Cb:sC ["rows","wide","found"] 2 zC:=by walk_at "d"
theorem wY (T:Txt K mg Z) (ptree:P.given.tree=none):cD P w K mg base fA 5 Z.Fp Z.E5 ["rows","wide"] (Ag K):=by
 have HL:=IX (P:=P) (w:=w) (base:=base) T ptree;have kJ:=pU (P:=P) (w:=w) (base:=base) T ptree;refine T.nQ.F.k Cb ?_;walk_at "i";obtain ⟨p,n,w,H0,rows,rfl,G,r100,n100,hw,F,k⟩:=h
 refine ⟨_,(ao (eK 2 Cb.nd (cE HL hr T.xW (cR bP cL)))
  (ax (aK (cx ["line","lead"] [] [] (mP rfl T.zip (cR (aL bu dS aj) (aL bu dS aj))) (λ_=>(oy K 2 (b6 (dX 0) (b6 (dX 1) gE)))) (λ_=>cG) (λ_=>(cx ["top"] ["line","lead"] [0,1] (IU K bP) (λ_=>(dX 0)) (λ_=>cG) (λ_=>(cE kJ hr T.lh (cR bP (aL (hJ K (by rfl)) cL dS)))))))))),?_⟩
 walk_at "s";obtain ⟨_,_,_,_,_,_,_,_,r15,r89⟩:=id F;exists ⟨p,n,w,H0,rows,rfl,G,r100,n100,hw,F,λt lp qp R ps d ls H1 gt gq G1 s1 S=>?_⟩;obtain ⟨lR,wR,RR⟩:=id S.rr;have hl:=S.len;obtain ⟨_,xs,gx,qx⟩:=id G1;have lx:=qx.length;have lps:(du ps).length=ps.length:=ag ..;have d0:(d:Rat)≠0:=λz=>S.d0 (sS z)
 have dsz:Sz 449950 d:=br S.dsz (d6 (by decide) (by lia))
 have km:ps.length<=n:=by
  rcases b8 n ps.length with z | z
  ·have inc:∀j,j < ps.length->j<=ps.getD j 0:=by
    intro j
    induction j with
    | zero=>intro _;exact a7 _
    | succ j ih =>
     intro hj;have:=ih (by lia);have:=RR.inc j (j+1) (by lia) hj
     lia
   have h1:=inc (ps.length - 1) (by lia);have h2:=RR.low (ps.length - 1) (by lia)
   lia
  ·exact z
 exists ⟨⟨_,bB.of gx⟩,⟨_,bB.of gq⟩,?_⟩;refine uT (K:=K) (xs:=xs) (ws:=du ps) (λi ys H'=>aB H1 H'/\Paired (cW K H1 H') (R.take i) ys) lE (by lia) ⟨aB.refl _,.nil⟩ (λi ys H' _ ⟨s,_⟩=>⟨bB.of (s _ _ gx),bB.of (s _ _ gq)⟩) ?_ ?_
 ·rintro i v1 v2 ys H' r h1 h2 hy ⟨s,pr⟩ hr;obtain ⟨zs,ez,q,rfl,_,gq1⟩:=bQ qx h1;have hi:i < ls.length:=(az.mp ez).1;have mz:=ak ez;have wz:=S.wide zs mz
  obtain ⟨j,ej,rfl⟩:∃j:Nat,ps[i]?=some j/\V.int (j:Int)=v2:=by
   unfold du at h2;rw[aA] at h2;cases e:ps[i]? with
   | none=>rw[e] at h2;cases h2
   | some x=>rw[e] at h2;exact ⟨x,rfl,bS h2⟩
  have ej':ps.getD i 0=j:=by rw[aa,ej];rfl
  have jn:j < n:=by have:=RR.low i (by lia);rw[ej'] at this;exact this
  have sr:aB H' (upd H' r (.tup [.ref q,.int j])):=aB.new hr;have gr:(upd H' r (.tup [.ref q,.int j])) r=some (.tup [.ref q,.int j]):=aD;generalize upd H' r (.tup [.ref q,.int j])=H2 at sr gr ⊢;have s2:=s.trans sr;have iR:i < R.length:=by lia
  have eR:=ae iR;have wRi:=wR _ (aI iR)
  have ed:zs.getD j 0=d:=by
   have h:=S.val i j;rw[NI ez] at h;have u:=RR.unit i (by lia) i (by lia);rw[if_pos rfl,ej'] at u;rw[u,Rat.mul_one] at h;exact dH.mp h
  have val:∀c,((zs.getD c 0:Int):Rat)=(d:Rat)*(R[i]).getD c 0:=λc=>by
   have h:=S.val i c;rw[NI ez] at h;rw[h];unfold bW;rw[aa (l:=R),eR];rfl
  exists ⟨⟨_,bB.of (s2 _ _ gq1)⟩,?_⟩;refine eO (K:=K) (xs:=zs.map V.int) (λc ys' H3=>aB H2 H3/\Paired (cv K H3) ((R[i]).take c) ys') (dh (cS (by rw[ag];lia))) ⟨aB.refl _,.nil⟩ (λc ys' H3 _ ⟨s3,_⟩=>bB.of ((s2.trans s3) _ _ gq1)) ?_ ?_
  ·rintro c x ys' H3 hx hlen ⟨s3,pr3⟩
   obtain ⟨z,ec,rfl⟩:∃z,zs[c]?=some z/\V.int z=x:=by
    rw[aA] at hx;cases e:zs[c]? with
    | none=>rw[e] at hx;cases hx
    | some x=>rw[e] at hx;exact ⟨x,rfl,bS hx⟩
   have hc:c < zs.length:=(az.mp ec).1;have vc:=val c;have e1:zs.getD c 0=z:=by rw[aa,ec];rfl
   rw[e1] at vc;exists bX (bB.of ((s2.trans s3) _ _ gq1)) (BE (by lia)) ?_;rw[ed];exists ⟨z,d,rfl,S.d0,dsz,λr4 H4 s4 g4=>?_⟩;have ec':(R[i])[c]?=some ((R[i]).getD c 0):=by rw[aa,ae (show c < (R[i]).length by lia)];rfl
   refine ⟨s3.trans s4,?_⟩;rw[take_snoc ec'];refine b9 (Paired.imp' (λ_ _ z=>cv.same z s4) pr3) (.cons (cv.mk g4 ?_) .nil);rcases Int.lt_or_lt_of_ne S.d0 with hd | hd
   ·rw[if_pos hd,if_pos hd];refine lQ (by lia) ?_;rw[cZ,cZ,vc];grind
   ·rw[if_neg (by lia),if_neg (by lia)];refine lQ hd ?_;rw[vc];grind
  ·rintro ys' H3 hy' ⟨s3,pr3⟩ l4 hl4;have sn:aB H3 (upd H3 l4 (.lst ys')):=aB.new hl4;refine ⟨(s2.trans s3).trans sn,?_⟩;rw[take_snoc eR];rw[aG (by rw[ag];lia)] at pr3;exact b9 (Paired.imp' (λ_ _ z=>cW.same z ((sr.trans s3).trans sn)) pr) (.cons ⟨l4,rfl,(s2.trans s3).none hl4,ys',aD,Paired.imp' (λ_ _ z=>cv.same z sn) pr3⟩ .nil)
 ·rintro ys H' hy ⟨s,pr⟩ r hr;have sn:aB H' (upd H' r (.lst ys)):=aB.new hr;rw[aG (by lia)] at pr;refine k r R ps d.natAbs _ (s1.none (s.none hr)) ((s1.trans s).trans sn) ⟨ys,aD,Paired.imp' (λ_ _ z=>(cW.weak z s1).same sn) pr,ko (H0:=H1) (rows:=R) ⟨H',hr,pr⟩⟩ S.rr S.km ?_ S.dsz S.tp;have:=S.d0
  lia
theorem m8:sC ["system","steps","lists","rows"] 2 oS:=by walk_at "d"
theorem CD (T:Txt K mg Z) (ptree:P.given.tree=none):cD P w K mg base fA 7 Z.vZ Z.vO ["system","steps"] (ED K Z.a_System):=by
 have qE:=wY (P:=P) (w:=w) (base:=base) T ptree;have so:=vK (P:=P) (w:=w) (base:=base) T ptree;refine T.nR.F.k m8 ?_;walk_at "i";obtain ⟨x,a,c,st,H0,mv,pt,lk,rfl,s1000,S,D,F,k⟩:=h
 refine ⟨_,(ao (eK 2 m8.nd (eU (dc (eU iV))))
  (ao (Cs PassesOwn.never (aV Vn (bo aM (by rfl) T.len aJ (dc dS)) cL (be _))
   (ao (eK 3 m8.nd (cE qE hr T.nQ (cR (bF uF (fW bP rfl) (cE so hr T.lN (cR bP (aL bE dS (xO qJ aj))))) (fW bP rfl))))
  (ao (cV (aV fo (bo aM (by rfl) T.len aJ (dc iu)) (bo aM (by rfl) T.len aJ (dc (aL bE dS (xO qJ aj)))) (be _)) (ax (aK dS)) bK)
  (ax (fO (nJ bN ck cg gD dS (dc iu)))))))
  (ax (aK dS)))),?_⟩
 walk_at "s";obtain ⟨dx,a',b',c',gx,_,_,_,Ga,Gb,Gc⟩:=id S;have d8:=D.n8;have i4:=D.i4;have lP:=eG (mv:=mv) (pt:=pt) rfl D.pw;exists dJ λq0 H1 s1 nq0 g1=>?_
 exists dJ λl H2 s2 nl g2=>?_
 have s02:=s1.trans s2;have nl0:H l=none:=s1.none nl;obtain ⟨Hz,eHz⟩:∃Hz,Hz=upd H l (.lst []):=⟨_,rfl⟩;have zl:Hz l≠none:=by rw[eHz,aD];exact λz=>nomatch z
 have zn:∀q,Hz q=none->H q=none/\q≠l:=λq h=>by
  have ne:q≠l:=λz=>zl (by rw[<- z];exact h)
  rw[eHz,bc ne] at h;exact ⟨h,ne⟩
 have nz:∀q,H q=none->q≠l->Hz q=none:=λq h ne=>by rw[eHz,bc ne];exact h
 clear eHz;have q0l:q0≠l:=λz=>by rw[z,nl] at g1;cases g1
 have G0:bf K Hz H2 q0 []:=⟨[],s2 _ _ g1,.nil,λz=>nomatch z⟩;exists FH (λσ' H'=>aB H H'/\∃Rs R us y,σ'=[some (.ref x),some (.int st),some (.ref l),y]/\H' l=some (.lst us)/\Paired (λR v=>∃q,v=V.ref q/\Hz q=none/\bf K Hz H' q R) (Rs++[R]) us/\Dz mv pt (Rs++[R])/\Rs.length<=st) (λ_ H'=>match H' l with | some (.lst us)=>st+1 - us.length | _=>0) ⟨s02,[],[],_,_,rfl,g2,.cons ⟨q0,rfl,nz q0 nq0 q0l,G0⟩ .nil,⟨by simp,λt R e=>?_,λt R R' e e'=>?_⟩,a7 _⟩ ?_
 ·have ht:=(az.mp e).1;have:t=0:=by simpa using ht
  subst this;cases e;exact ⟨[],Ks⟩
 ·have ht:=(az.mp e').1;simp at ht
 rintro σ' Ha ⟨sa,Rs,R,us,y,rfl,gu,pa,Gw,hst⟩;have lu:=pa.length;rw[ai,aQ] at lu;have eR:(Rs++[R])[Rs.length]?=some R:=by rw[bg (ar _),gV];rfl
 obtain ⟨ps,RR⟩:=Gw.rr _ _ eR;have tn:Rs.length<=mv.length:=by have:=Gw.len _ _ eR;have:=RR.le;have:=RR.1;lia
 have fin:∀(Hx:Hp) (sx:aB Ha Hx) (hh:∀s,(Rs.length=st/\s=st\/Rs.length < st/\Rs.length<=s)->∃ps,bG (kry mv pt s) mv.length R ps),Q (.ref l) Hx:=λHx sx hh=>by
  refine k l (Rs++[R]) Hx nl0 (sa.trans sx) ⟨us,sx _ _ gu,Paired.imp' (λ_ _ ⟨q,e1,e2,e3⟩=>⟨q,e1,(zn q e2).1,(zn q e2).2,bf.weakN (bf.same e3 sx) λq h=>(zn q h).1⟩) pa⟩ Gw (by rw[ai,aQ];lia) λR2 e2 s hs=>?_
  rw[List.getLast?_concat] at e2;cases e2;rw[ai,aQ,Nat.add_sub_cancel] at hs;exact hh s hs
 exists ⟨_,_,rfl,.inl (bB.of gu),?_⟩;exists iD (λh0=>?_) (λh0=>?_)
 ·have h0:=of_decide_eq_true h0;refine Sl ?_
  obtain ⟨zs,gS⟩:∃zs q,us=zs++[V.ref q]/\Hz q=none/\bf K Hz Ha q R:=by
   obtain ⟨v,ev,q,rfl,e2,e3⟩:∃v,us[Rs.length]?=some v/\∃q,v=V.ref q/\Hz q=none/\bf K Hz Ha q R:=by
    have ev:=ae (show Rs.length < us.length by lia);obtain ⟨R2,e2,w⟩:=bQ pa ev;rw[eR] at e2;cases e2;exact ⟨_,ev,w⟩
   refine ⟨us.take Rs.length,q,?_,e2,e3⟩;rw[<- take_snoc ev,aG (by lia)]
  obtain ⟨q,rfl,zq,Gq⟩:=gS;have gxa:=sa _ _ gx;exists ⟨x,Z.a_System,dx,_,_,rfl,gxa,T.cl_System,T.na_put,Bl,?_⟩;exists bX (bB.of gu) (yy _ _) ?_;have wR:=RR.2.1;have lR:=RR.1;have pn:=RR.le;exists ⟨x,q,H0,Hz,mv,pt,lk,R,rfl,S.same sa,D,Gq,by lia,wR,F.fit d8 D.mw D.pw tn RR,λmr Hb nmr sb Gm=>?_⟩;obtain ⟨pv,gpv,qpv,_⟩:=Gb.same (sa.trans sb);obtain ⟨mvs,gmv,qmv,_⟩:=id Gm;have lpv:=qpv.length;have lmv:=qmv.length;rw[ag] at lmv;exists uA gpv gmv lE λcr Hc sc nc gc=>?_
  have sab:=sa.trans (sb.trans sc);have Gc':bf K (λ_=>none) Hc cr (pt++R.map (ou mv)):=zX (H:=Hb) (b9 (Paired.imp' (λ_ _ ⟨q,e1,e2,e3⟩=>⟨q,e1,rfl,e3⟩) qpv) (Paired.imp' (λ_ _ ⟨q,e1,e2,e3⟩=>⟨q,e1,rfl,e3⟩) qmv)) sc nc gc;exists ⟨x,Z.a_System,dx,_,_,rfl,sab _ _ gx,T.cl_System,T.na_states,jM,?_⟩;exists ⟨cr,mv.length,_,_,_,rfl,Gc',by rw[ai,ag];lia,by lia,λxs hx=>?_,F.step d8 D.mw D.pw tn RR,λrr R' ps' M' Hd nrr sd G' RR' pm' _ _ _=>?_⟩
  ·rcases av.mp hx with hx | hx
   ·exact D.pw xs hx
   ·obtain ⟨y,_,rfl⟩:=aw.mp hx;exact rj
  have sbd:=sb.trans (sc.trans sd);have sad:=sa.trans sbd;have K1:=xZ rfl D.mw D.pw RR RR';have gud:=sbd _ _ gu;obtain ⟨rv,grv,qrv,_⟩:=id G';have lrv:=qrv.length;have lR':=RR'.1;have pn':=RR'.le;exists ⟨_,_,rfl,.inl (bB.of grv),?_⟩;exists bX (bB.of gud) (yy _ _) ?_;obtain ⟨ov,gov,qov,_⟩:=Gq.same sbd;have lov:=qov.length;exists ⟨_,_,rfl,.inl (bB.of gov),?_⟩;exists iD (λh1=>?_) (λh1=>?_)
  ·have h1:=of_decide_eq_true h1;exists fin Hd sbd λs hs=>⟨ps,?_⟩
   obtain ⟨s',rfl⟩:∃s',s=Rs.length+s':=⟨s - Rs.length,by lia⟩;exact ES rfl D.mw D.pw RR RR' (by lia) s'
  ·have h1:¬((rv.length:Int)=ov.length):=λz=>h1 (decide_eq_true z)
   have gr:=Jh rfl D.mw D.pw RR K1;have rl:rr≠l:=λz=>by rw[z,(sb.trans sc) _ _ gu] at nrr;cases nrr
   have zc:∀q,Hc q=none->Hz q=none:=λq h=>nz q (sab.none h) (λz=>by rw[z,(sb.trans sc) _ _ gu] at h;cases h)
   exists ⟨.inl ⟨rfl,_,bB.of gud⟩,?_⟩;exists fZ gud (cS (by lia)) ?_;refine ⟨⟨sad.after nl0,Rs++[R],R',_,_,rfl,aD,b9 (Paired.imp' (λ_ _ ⟨q,e1,e2,e3⟩=>⟨q,e1,e2,bf.updL (bf.same e3 sbd) gud zl (zn q e2).2⟩) pa) (.cons ⟨rr,rfl,zc rr nrr,bf.updL (G'.weakN zc) gud zl rl⟩ .nil),Gw.snoc K1 (by lia),by rw[ai,aQ];lia⟩,?_⟩;simp only[gu,aD,ai,aQ] at lu h0 ⊢
   lia
 ·have h0:¬((us.length:Int)<=st):=λz=>h0 (decide_eq_true z)
  walk_at "w"
  exact fin Ha (aB.refl _) λs hs=>⟨ps,by
   have:s=Rs.length:=by lia
   rw[this];exact RR⟩
theorem DK:sC ["system","steps"] 2 qQ:=by walk_at "d"
theorem DT (T:Txt K mg Z) (ptree:P.given.tree=none):cD P w K mg base fA 8 Z.yB Z.yh ["system","steps"] (Ep K Z.a_System):=by
 have Ed:=CD (P:=P) (w:=w) (base:=base) T ptree;refine T.ph.F.k DK ?_;walk_at "i";obtain ⟨x,a,c,st,H0,mv,pt,lk,rfl,s1000,S,D,F,k⟩:=h;refine ⟨_,(ax (aK (aL bE (cE Ed hr T.nR (cR bP cL)) (xO qJ aj)))),?_⟩;walk_at "s";exists ⟨x,a,c,st,H0,mv,pt,lk,rfl,s1000,S,D,F,λr Rs H1 nr s1 ⟨us,gu,pa⟩ Gw hl hh=>?_⟩;have lu:=pa.length;obtain ⟨Rs',R,rfl⟩:∃Rs' R,Rs=Rs'++[R]:=⟨Rs.dropLast,Rs.getLast Gw.ne,(List.dropLast_concat_getLast Gw.ne).symm⟩;rw[ai,aQ] at lu hl;have eR:(Rs'++[R])[Rs'.length]?=some R:=by rw[bg (ar _),gV];rfl
 obtain ⟨zs,q,rfl,zq,ql,Gq⟩:∃zs q,us=zs++[V.ref q]/\H q=none/\q≠r/\bf K H H1 q R:=by
  have ev:=ae (show Rs'.length < us.length by lia);obtain ⟨R2,e2,q,e3,e4,e5,e6⟩:=bQ pa ev;rw[eR] at e2;cases e2;rw[e3] at ev;refine ⟨us.take Rs'.length,q,?_,e4,e5,e6⟩;rw[<- take_snoc ev,aG (by lia)]
 obtain ⟨ps,RR⟩:=hh R (by rw[List.getLast?_concat]) st (by rw[ai,aQ,Nat.add_sub_cancel];lia);exists bX (bB.of gu) (yy _ _) ?_;exact k q R ps H1 zq s1 Gq RR
theorem IG:sC ["many","at"] 2 wK:=by walk_at "d"
theorem IW (T:Txt K mg Z) (ptree:P.given.tree=none):cD P w K mg base fA 1 Z.Dp Z.C9 ["many","at"] (Il K):=by
 refine T.uJ.F.k IG ?_;walk_at "i";obtain ⟨m,a',rfl,hm,k⟩:=h;refine ⟨_,(ax (aK (cx ["place"] ["at"] [1] (cp rfl T.range (dc bP)) (λ_=>(dX 0)) (λ_=>cG) (λ_=>(OF (aV fo bP cL (be _)) (mQ (v:=.ref Z.a_ONE) rfl T.mg_ONE rfl) (mQ (v:=.ref Z.a_NOUGHT) rfl T.mg_NOUGHT rfl)))))),?_⟩;walk_at "s";exists ⟨by lia,by lia,?_⟩;refine hZ (n:=m) (cv K) (λi=>if ((i:Nat):Int)=a' then 1 else 0) hm (λa b=>a.same b) ?_ ?_
 ·rintro i H' NY NN hi s k1;exists iD (λh0=>?_) (λh0=>?_)
  ·exists k1 _ _ (aB.refl _) (by rw[if_pos (of_decide_eq_true h0)];exact ⟨_,rfl,T.sq_ONE _⟩)
  ·exists k1 _ _ (aB.refl _) (by rw[if_neg (λz=>h0 (decide_eq_true z))];exact ⟨_,rfl,T.sq_NOUGHT _⟩)
 ·rintro ys H' l hl s g pr nx;exact k l _ hl s ⟨ys,g,pr⟩
theorem zo:sC ["row"] 1 mi:=by walk_at "d"
theorem zP (T:Txt K mg Z) (ptree:P.given.tree=none):cD P w K mg base fA 1 Z.sT Z.sP ["row"] (Iy K):=by
 refine T.lB.F.k zo ?_;walk_at "i";obtain ⟨p,xs,j,rfl,R,x1000,hj,hne,hz,k⟩:=h;refine ⟨_,(ax (aK (bo (Ng rfl) (by rfl) T.min PyProof.Rows.boot_min (dc (cx ["place","value"] [] [] (Lv rfl T.enumerate (dc bP)) (λ_=>(oy K 2 (b6 (dX 0) (b6 (dX 1) gE)))) (λ_=>Ge (aV (Gj K (by rfl) (xj hr)) cL (mQ (v:=.ref Z.a_NOUGHT) rfl T.mg_NOUGHT rfl) (be _))) (λ_=>bP)))))),?_⟩;walk_at "s";obtain ⟨zs,gz,qz⟩:=id R;have lz:=qz.length;exists ⟨⟨_,bB.of gz⟩,?_⟩;refine Nf (K:=K) (xs:=zs) (λi ys H'=>aB H H'/\ys=du (xu xs i)) lE ⟨aB.refl _,rfl⟩ (λi ys H' _ ⟨s,_⟩=>bB.of (s _ _ gz)) ?_ ?_
 ·rintro i v ys H' r hx hlen ⟨s',rfl⟩ hr;obtain ⟨y,ey,ny⟩:=bQ qz hx;have ey':xs.getD i 0=y:=by rw[aa,ey];rfl
  have sr:aB H' (upd H' r (.tup [.int i,v])):=aB.new hr;have gr:(upd H' r (.tup [.int i,v])) r=some (.tup [.int i,v]):=aD;generalize upd H' r (.tup [.int i,v])=H2 at sr gr ⊢;exists ⟨_,_,C0,y,0,by decide,(ny.same s').same sr,⟨_,rfl,T.sq_NOUGHT _⟩,?_⟩;by_cases e:y=0
  ·rw[decide_eq_true e];exists ⟨s'.trans sr,?_⟩;rw[oE,ey',if_neg (by simpa using e)]
  ·rw[decide_eq_false e];exists ⟨s'.trans sr,?_⟩;rw[oE,ey',if_pos e];unfold du;rw[cI];rfl
 ·rintro ys H1 hy ⟨s1,rfl⟩ l hl;have sn:aB H1 (upd H1 l (.lst (du (xu xs zs.length)))):=aB.new hl;have gn:(upd H1 l (.lst (du (xu xs zs.length)))) l=some (.lst (du (xu xs zs.length))):=aD;generalize upd H1 l (.lst (du (xu xs zs.length)))=H2 at sn gn ⊢
  have mj:j∈xu xs zs.length:=by
   unfold xu;exact mX.mpr ⟨cP.mpr (by lia),by simpa using hne⟩
  exists ⟨l,LK (xu xs zs.length),rfl,bB.of (by rw[<- MT];exact gn),?_,λM hM hle=>?_⟩
  ·unfold LK;rw[ag];exact List.length_pos_of_mem mj
  ·obtain ⟨c,hc,rfl⟩:=aw.mp hM;have h1:=hle j (aw.mpr ⟨j,mj,rfl⟩);have h2:=(mX.mp hc).2
   have e:c=j:=by
    rcases eQ c j with z | z | z
    ·exact absurd (hz c z) (of_decide_eq_true h2)
    ·exact z
    ·lia
   rw[e];exact k _ (s1.trans sn)
theorem Kl:sC ["rows"] 1 zE:=by walk_at "d"
theorem wZ (T:Txt K mg Z) (ptree:P.given.tree=none):cD P w K mg base fA 2 Z.Fs Z.E7 ["rows"] (BU K):=by
 have Bh:=zP (P:=P) (w:=w) (base:=base) T ptree;refine T.nV.F.k Kl ?_;walk_at "i";obtain ⟨p,n,H0,R,ps,rfl,G,r100,n100,⟨rows,RR⟩,k⟩:=h;refine ⟨_,(ax (aK (cx ["row"] [] [] (cA bP) (λ_=>(dX 0)) (λ_=>cG) (λ_=>(cE Bh hr T.lB (dc bP)))))),?_⟩;walk_at "s";obtain ⟨lR,wR,rr⟩:=id RR;obtain ⟨xs,gx,qx,_⟩:=id G;have lx:=qx.length;exists ⟨⟨_,bB.of gx⟩,?_⟩;refine eO (K:=K) (xs:=xs) (λi ys H'=>aB H H'/\ys=du (ps.take i)) lE ⟨aB.refl _,rfl⟩ (λi ys H' _ ⟨s,_⟩=>bB.of (s _ _ gx)) ?_ ?_
 ·rintro i v ys H' hx hlen ⟨s',rfl⟩;obtain ⟨row,er,q,rfl,_,Rr⟩:=bQ qx hx;have wr:=wR row (ak er);have hi:i < ps.length:=by have:=(az.mp er).1;lia
  have ef:∀c,bW R i c=row.getD c 0:=λc=>by unfold bW;rw[aa (l:=R),er];rfl
  have ep:ps[i]?=some (ps.getD i 0):=by rw[aa,ae hi];rfl
  have lowp:=rr.low i hi;have u:=rr.unit i hi i hi;rw[if_pos rfl,ef] at u;exists ⟨q,row,ps.getD i 0,rfl,Rr.same s',by lia,by lia,by rw[u];decide,λc hc=>by rw[<- ef];exact rr.lead i hi c hc,λH2 s2=>?_⟩;refine ⟨s'.trans s2,?_⟩;unfold du;rw[take_snoc ep,cI];rfl
 ·rintro ys H1 hy ⟨s1,rfl⟩ r hr;refine k r _ (s1.none hr) (s1.trans (aB.new hr)) ?_;rw[aD,aG (by lia)]
theorem qO:sC ["rows","wide","at","answer","lead","row"] 3 zD:=by walk_at "d"
theorem KA (T:Txt K mg Z) (ptree:P.given.tree=none):cD P w K mg base fA 4 Z.Fq Z.E6 ["rows","wide","at"] (Eu K):=by
 have Lc:=IW (P:=P) (w:=w) (base:=base) T ptree;have qF:=wZ (P:=P) (w:=w) (base:=base) T ptree;have HN:=IY (P:=P) (w:=w) (base:=base) T ptree;refine T.xf.F.k qO ?_;walk_at "i";obtain ⟨p,n,a,H0,R,ps,rfl,G,r100,n100,⟨rows,RR⟩,ha,hp,hz,k⟩:=h
 refine ⟨_,(ao (eK 3 qO.nd (cE Lc hr T.uJ (cR cL dS)))
  (ao (dw PassesOwn.never rfl (mP rfl T.zip (cR (cE qF hr T.nV (dc bP)) bP)) (o6 rfl (b6 (dX 4 qO.nd) (b6 (dX 5 qO.nd) gE)))
   (ax (fG (cE HN hr T.xX (cR (mQ (v:=.ref Z.a_NOUGHT) rfl T.mg_NOUGHT rfl) (aL bE wW dS))) (iG iu m5 set_list))))
  (ax (aK iu)))),?_⟩
 walk_at "s";obtain ⟨lR,wR,rr⟩:=id RR;exists ⟨n,a,rfl,by lia,λan H1 na s1 R1=>?_⟩;rw[<- Rn (R:=R) (ps:=ps)] at R1;obtain ⟨vs0,g0,q0⟩:=id R1;exists ⟨p,n,H0,R,ps,rfl,G.same s1,r100,n100,⟨rows,RR⟩,λle H2 nl s2 g2=>?_⟩;have anl:le≠an:=λz=>by rw[z,g0] at nl;cases nl
 obtain ⟨rs,grs,qrs,_⟩:=id G;have lrs:=qrs.length;have lps:=nO (ps:=ps);exists ⟨⟨_,bB.of g2⟩,⟨_,bB.of ((s1.trans s2) _ _ grs)⟩,?_⟩;refine Hq (K:=K) (xs:=du ps) (ws:=rs) (λj σ' H'=>aB H H'/\H' le=some (.lst (du ps))/\∃y1 y2 vs,σ'=[some (.ref p),some (.int n),some (.int a),some (.ref an),y1,y2]/\H' an=some (.lst vs)/\Paired (cv K H') (LC R ps n a j) vs) (by lia) ⟨s1.trans s2,g2,_,_,vs0,rfl,s2 _ _ g0,Paired.imp' (λ_ _ z=>cv.same z s2) q0⟩ (λj σ' H' _ ⟨e,e2,_⟩=>⟨bB.of e2,bB.of (e _ _ grs)⟩) ?_ ?_
 ·rintro j v1 v2 σ' H' r h1 h2 ⟨s',gl,y1,y2,vs,rfl,ga,qa⟩ hr;obtain ⟨row,er,q,rfl,_,Rr⟩:=bQ qrs h2;have mr:=ak er;have wr:=wR row mr;obtain ⟨pj,ej,rfl⟩:=xV h1;have hj:j < ps.length:=(az.mp ej).1;have ejD:ps.getD j 0=pj:=by rw[aa,ej];rfl
  have pjn:pj < n:=by have:=rr.low j hj;rw[ejD] at this;exact this
  have fr:bW R j a=row.getD a 0:=by unfold bW;rw[aa (l:=R),er];rfl
  have sr:aB H' (upd H' r (.tup [.int pj,.ref q])):=aB.new hr;have gr:(upd H' r (.tup [.int pj,.ref q])) r=some (.tup [.int pj,.ref q]):=aD;generalize upd H' r (.tup [.int pj,.ref q])=H3 at sr gr ⊢;have s03:=s'.trans sr;obtain ⟨us,gu,qu⟩:=Rr.same s03;obtain ⟨vx,ex,nx⟩:=DH qu (j:=a) (by lia);exists bX (bB.of gu) ex ?_;exists ⟨_,_,0,row.getD a 0,rfl,⟨_,rfl,T.sq_NOUGHT _⟩,nx,NV,hz row mr _ (getD_in (by lia)),λr4 H4 s4 n4=>?_⟩;have ga4:=(sr.trans s4) _ _ ga;have gl4:=(sr.trans s4) _ _ gl;have la:=qa.length;rw[uI] at la;exists fN ga4 (gK (by lia)) rfl ?_;refine ⟨(s03.trans s4).after na,by rw[bc anl];exact gl4,_,_,_,rfl,aD,?_⟩;rw[<- Rp RR hj hp,ejD,fr,show -(row.getD a 0)=0 - row.getD a 0 by grind];exact lg (Paired.imp' (λ_ _ z=>(cv.same z (sr.trans s4)).updL ga4) qa) pj (n4.updL ga4)
 ·rintro σ' H' ⟨s',gl,y1,y2,vs,rfl,ga,qa⟩;rw[lps] at qa;exists k an H' na s' ⟨vs,ga,qa⟩
theorem tU:sC ["rows","wide","leads"] 2 oV:=by walk_at "d"
theorem CH (T:Txt K mg Z) (ptree:P.given.tree=none):cD P w K mg base fA 3 Z.v8 Z.vR ["rows","wide"] (Iz K):=by
 have qF:=wZ (P:=P) (w:=w) (base:=base) T ptree;refine T.nW.F.k tU ?_;walk_at "i";obtain ⟨p,n,H0,R,ps,rfl,G,r100,n100,RR,k⟩:=h
 refine ⟨_,(ao (eK 2 tU.nd (cE qF hr T.nV (dc bP)))
  (ax (aK (cx ["place"] ["leads"] [2] (cp rfl T.range (dc cL)) (λ_=>(dX 0)) (λ_=>Ge (aV (DS K (by rfl)) bP cL (by with_unfolding_all rfl))) (λ_=>bP))))),?_⟩
 walk_at "s";exists ⟨p,n,H0,R,ps,rfl,G,r100,n100,RR,λl H1 nl s1 g1=>?_⟩;exists ⟨by lia,by lia,?_⟩;refine lG (n:=n) (λi ys H'=>aB H1 H'/\ys=du (Bv ps i)) lE ⟨aB.refl _,rfl⟩ ?_ ?_
 ·rintro i ys H' hi hlen ⟨s',rfl⟩;rw[oO];exists ⟨l,du ps,rfl,.inl (bB.of (s' _ _ g1)),rfl,EM,?_⟩;rw[Jj];by_cases e:i∈ps
  ·rw[decide_eq_true e];exists ⟨s',?_⟩;rw[C5,if_neg (by simpa using e)]
  ·rw[decide_eq_false e,show (if true=true then !false else false)=true from rfl];exists ⟨s',?_⟩;rw[C5,if_pos e];unfold du;rw[cI];rfl
 ·rintro ys H2 hy ⟨s2,rfl⟩ r hr;exact k r _ (s1.none (s2.none hr)) ((s1.trans s2).trans (aB.new hr)) aD
theorem IH:sC ["rows","wide","basis"] 2 F6:=by walk_at "d"
theorem OL (T:Txt K mg Z) (ptree:P.given.tree=none):cD P w K mg base fA 6 Z.Mg Z.L0 ["rows","wide"] (Et K):=by
 have qE:=wY (P:=P) (w:=w) (base:=base) T ptree;have Nr:=KA (P:=P) (w:=w) (base:=base) T ptree;have Ef:=CH (P:=P) (w:=w) (base:=base) T ptree;refine T.CS.F.k IH ?_;walk_at "i";obtain ⟨p,n,w,H0,rows,R,ps,rfl,G,r100,n100,RR,F,szR,k⟩:=h
 refine ⟨_,(ao (eK 2 IH.nd (cE qE hr T.nQ (cR bP cL)))
  (ax (aK (cx ["at"] ["basis","wide"] [2,1] (cA (cE Ef hr T.nW (cR dS cL))) (λ_=>(dX 0)) (λ_=>cG) (λ_=>(cE Nr hr T.xf (tG cL dS bP))))))),?_⟩
 walk_at "s";exists ⟨p,n,w,H0,R,rfl,G,r100,n100,RR.2.1,F,λba R2 ps2 M H1 nb s1 G1 RR2 pm M0 M1 tM=>?_⟩;obtain ⟨rfl,rfl⟩:=RR2.same (xI RR);have pn:=RR.le;have lR:=RR.1;have fl:=Uq (ps:=ps2) (i:=n);exists ⟨ba,n,H,R2,ps2,rfl,G1,by lia,by lia,⟨rows,RR⟩,λfr H2 nf s2 g2=>?_⟩;exists ⟨⟨_,bB.of g2⟩,?_⟩;refine eO (K:=K) (xs:=du (Bv ps2 n)) (λi ys H'=>aB H2 H'/\Paired (cW K H H') ((Bv ps2 n).take i |>.map (Nw R2 ps2 n)) ys) (dh (cS (by rw[nO];lia))) ⟨aB.refl _,.nil⟩ (λi ys H' _ ⟨s,_⟩=>bB.of (s _ _ g2)) ?_ ?_
 ·rintro i v ys H' hx hlen ⟨s',pr⟩;obtain ⟨a,ea,rfl⟩:=xV hx;obtain ⟨an,ap⟩:=Ho.mp (ak ea);have s02:=(s1.trans s2).trans s';exists ⟨ba,n,a,H,R2,ps2,rfl,(G1.same s2).same s',by lia,by lia,⟨rows,RR⟩,an,ap,szR,λr H3 nr s3 R3=>?_⟩;refine ⟨s'.trans s3,?_⟩;rw[take_snoc ea,cI];exact b9 (Paired.imp' (λ_ _ z=>cW.same z s3) pr) (.cons ⟨r,rfl,s02.none nr,R3⟩ .nil)
 ·rintro ys H3 hy ⟨s3,pr⟩ r hr;rw[aG (by rw[nO];exact ar _)] at pr;have sn:aB H3 (upd H3 r (.lst ys)):=aB.new hr;have s03:=(s1.trans s2).trans s3;exact k r _ (s03.none hr) (s03.trans sn) ⟨ys,aD,Paired.imp' (λ_ _ z=>cW.same z sn) pr,ko (H0:=H) (rows:=dF R2 ps2 n) ⟨H3,hr,pr⟩⟩
theorem tS:sC ["system","steps","told"] 2 oR:=by walk_at "d"
theorem CB (T:Txt K mg Z) (ptree:P.given.tree=none):cD P w K mg base fA 9 Z.vY Z.vN ["system","steps"] (BL K Z.a_System):=by
 have HM:=DT (P:=P) (w:=w) (base:=base) T ptree;have mG:=pW (P:=P) (w:=w) (base:=base) T ptree;have qE:=wY (P:=P) (w:=w) (base:=base) T ptree;have RZ:=OL (P:=P) (w:=w) (base:=base) T ptree;refine T.nP.F.k tS ?_;walk_at "i";obtain ⟨x,tt,e,H0,mv,pt,lk,rfl,hT,S,D,F,UF,k⟩:=h
 refine ⟨_,(ao (eK 2 tS.nd (cE HM hr T.ph (cR (IV bP T.cl_System T.lD mG (hr.mono (by decide)) T.mE .nil Cw) cL)))
  (ax (aK (cE qE hr T.nQ (cR (cE RZ hr T.CS (cR dS (fW bP rfl))) (fW bP rfl)))))),?_⟩
 walk_at "s";have d8:=D.n8;have et:(aW mv mv.length).length=mv.length:=bZ;obtain ⟨a,c,KF,_,_⟩:=UF.kf;obtain ⟨dx,a',b',c',gx,_⟩:=id S;exists ⟨x,dx,_,rfl,gx,BH,?_⟩;exists ⟨x,H0,mv,pt,lk,rfl,S,D,F.sf,λy H1 ny s1 S1=>?_⟩;exists ⟨y,a,c,tt,H,_,lk,pt,rfl,by lia,S1,D.turn,KF,λq R ps H2 nq s2 G2 RR=>?_⟩;have s02:=s1.trans s2;obtain ⟨⟨w1,sw⟩,szR,w2,swn,bn,q1,q10,tn⟩:=UF.sw RR;have e1:=UF.e1;rw[et] at RR sw swn bn tn;have le:=RR.le;have lR:=RR.1;have cnt:=zR RR;exists ⟨x,Z.a_System,dx,_,_,rfl,s02 _ _ gx,T.cl_System,T.na_states,jM,?_⟩;exists ⟨q,mv.length,w1,H1,_,R,ps,rfl,G2,by lia,by lia,RR,sw,szR,λr3 H3 n3 s3 G3=>?_⟩;have s03:=s02.trans s3;exists ⟨x,Z.a_System,dx,_,_,rfl,s03 _ _ gx,T.cl_System,T.na_states,jM,?_⟩;exists ⟨r3,mv.length,w2,H2,_,rfl,G3,by lia,by lia,GP,swn,λr4 Hd psd M4 H4 n4 s4 G4 RN _ M0 M1 tp=>?_⟩;have up:=au (show 0 < 2 by decide) bn;exact k r4 Hd H4 (s03.none n4) (s03.trans s4) (G4.weakN λq h=>s03.none h) ⟨R,ps,psd,M4,RR,RN,KE RR bU q10 tn RN,M0,ah M1 up,λxs hx x hx'=>(tp xs hx x hx').mono up⟩
theorem Og:sC ["one","other"] 2 F3:=by walk_at "d"
theorem OJ (T:Txt K mg Z) (ptree:P.given.tree=none):cD P w K mg base fA 3 Z.Md Z.LX ["one","other"] (oP K (λx y=>x*y)):=by
 have kJ:=pU (P:=P) (w:=w) (base:=base) T ptree;refine T.CP.F.ok Og (λvs H Q E h=>?_) (λcdv A outer s H vs Q E hr h=>?_)
 ·obtain ⟨p,q,a,b,c,d,rfl,hp,hq,hb,hd,sa,sb,sc,sd,k⟩:=Bq h;rfl
 ·obtain ⟨p,q,a,b,c,d,rfl,hp,hq,hb,hd,sa,sb,sc,sd,k⟩:=Bq h;refine ⟨_,(ax (aK (cE kJ hr T.lh (cR (bF cN (aL bu bP aj) (aL bu cL aj)) (bF cN (aL bu bP aj) (aL bu cL aj)))))),?_⟩;refine lY (σ:=[some (.ref p),some (.ref q)]) rfl ?_;have hbd:0 < b*d:=fV hb hd;have sbd:Sz 449950 (b*d):=(sb.mul sd).mono (by decide);exists fv (show fM _ _ from .inr ⟨_,_,sa,sc,by decide⟩) ?_;exists fv (show fM _ _ from .inr ⟨_,_,sb,sd,by decide⟩) ?_;walk_at "w";exists ⟨_,_,rfl,by lia,sbd,λr H' s' h'=>?_⟩;rw[if_neg (by lia),if_neg (by lia)] at h';exact k r H' s' h'
theorem FT:sC ["by","row"] 2 tY:=by walk_at "d"
theorem Gu (T:Txt K mg Z) (ptree:P.given.tree=none):cD P w K mg base fA 4 Z.AH Z.Am ["by","row"] (Ki K):=by
 have RX:=OJ (P:=P) (w:=w) (base:=base) T ptree;refine T.rB.F.k FT ?_;walk_at "i";obtain ⟨u,q,c,ys,rfl,hc,sc,hq,hz,h2,kk⟩:=h;refine ⟨_,(ax (aK (cx ["value"] ["by"] [0] (cA cL) (λ_=>(dX 0)) (λ_=>cG) (λ_=>(cE RX hr T.CP (cR cL bP)))))),?_⟩;walk_at "s";obtain ⟨us,gu,qu⟩:=id hq;exists ⟨⟨_,bB.of gu⟩,?_⟩;refine d4 (K:=K) (F:=cv K) (cv K) (λy=>c*y) gu qu hz (λa b=>a.same b) (λa b=>a.same b) ?_ ?_
 ·rintro i y x H' NY NN en s hx k;exists ⟨_,_,_,_,rfl,hc.same s,hx,sc,h2 y (ak en),λr H2 s2 h2'=>k _ _ s2 h2'⟩
 ·rintro ys' H' r hr s g pr nx;exact kk r H' hr s ⟨ys',g,pr⟩
theorem qM:sC ["state","rows","lead","row"] 2 zA:=by walk_at "d"
theorem Kz (T:Txt K mg Z) (ptree:P.given.tree=none):cD P w K mg base fA 5 Z.Fn Z.E3 ["state","rows"] (Sj K):=by
 have qF:=wZ (P:=P) (w:=w) (base:=base) T ptree;have ve:=xS (P:=P) (w:=w) (base:=base) T ptree;have JM:=Gu (P:=P) (w:=w) (base:=base) T ptree;refine T.xc.F.k qM ?_;walk_at "i";obtain ⟨s,g,n,H0,x,rows,Hd,ps,rfl,Rs,ls,G,n90,RR,WZ,k⟩:=h
 refine ⟨_,(ao (dw PassesOwn.never rfl (mP rfl T.zip (cR (cE qF hr T.nV (dc cL)) cL)) (o6 rfl (b6 (dX 2 qM.nd) (b6 (dX 3 qM.nd) gE)))
   (ax (eK 0 qM.nd (cE ve hr T.mS (cR bP (cE JM hr T.rB (cR (aL bE bP dS) iu)))))))
  (ax (aK bP))),?_⟩
 walk_at "s";obtain ⟨lR,wR,rr⟩:=id RR;have pn:=RR.le;obtain ⟨rs,grs,qrs,_⟩:=id G;have lrs:=qrs.length;have lps:=nO (ps:=ps);exists ⟨g,n,H0,Hd,ps,rfl,G,by lia,by lia,⟨rows,RR⟩,λle H2 nl s2 g2=>?_⟩;exists ⟨⟨_,bB.of g2⟩,⟨_,bB.of (s2 _ _ grs)⟩,?_⟩;refine Hq (K:=K) (xs:=du ps) (ws:=rs) (λj σ' H'=>aB H2 H'/\∃y1 y2 q,σ'=[some (.ref q),some (.ref g),y1,y2]/\(q=s\/H q=none)/\cK K H' q (DF x Hd ps n j)) (by lia) ⟨aB.refl _,_,_,s,rfl,.inl rfl,by rw[Qk ls];exact Rs.same s2⟩ (λj σ' H' _ ⟨e,_⟩=>⟨bB.of (e _ _ g2),bB.of ((s2.trans e) _ _ grs)⟩) ?_ ?_
 ·rintro j v1 v2 σ' H' r h1 h2 ⟨s',y1,y2,q,rfl,hq,Rq⟩ hr;obtain ⟨row,er,u,rfl,_,Rr⟩:=bQ qrs h2;have mr:=ak er;have wr:=wR row mr;obtain ⟨pj,ej,rfl⟩:=xV h1;have hj:j < ps.length:=(az.mp ej).1;have ejD:ps.getD j 0=pj:=by rw[aa,ej];rfl
  have pjn:pj < n:=by have:=rr.low j hj;rw[ejD] at this;exact this
  have erD:Hd.getD j []=row:=by rw[aa,er];rfl
  have MU:=WZ.mul j hj;rw[erD] at MU;have sr:aB H' (upd H' r (.tup [.int pj,.ref u])):=aB.new hr;have gr:(upd H' r (.tup [.int pj,.ref u])) r=some (.tup [.int pj,.ref u]):=aD;generalize upd H' r (.tup [.int pj,.ref u])=H3 at sr gr ⊢;have s03:=(s2.trans s').trans sr;obtain ⟨vq,gq,qq⟩:=Rq.same sr;obtain ⟨vx,ex,nx⟩:=DH qq (j:=pj) (by rw[kT];exact pjn);have mx:(DF x Hd ps n j).getD pj 0∈DF x Hd ps n j:=getD_in (by rw[kT];exact pjn);exists bX (bB.of gq) ex ?_;exists ⟨_,u,_,row,rfl,nx,WZ.sz j (by lia) _ mx,Rr.same s03,by lia,WZ.hz row mr,λr4 H4 n4 s4 R4=>?_⟩;exists ⟨q,r4,_,_,rfl,(Rq.same sr).same s4,R4,by rw[kT,ag,wr],by rw[kT];lia,WZ.sz j (by lia),λz hz=>?_,λr5 H5 n5 s5 R5=>?_⟩
  ·obtain ⟨y,hy,rfl⟩:=aw.mp hz;rw[<- ejD];exact MU y hy
  refine ⟨((s'.trans sr).trans s4).trans s5,_,_,r5,rfl,.inr ((s03.trans s4).none n5),?_⟩;rw[<- Ql RR hj er,ejD];exact R5
 ·rintro σ' H' ⟨s',y1,y2,q,rfl,hq,Rq⟩;rw[lps] at Rq;exists k q H' (s2.trans s') hq Rq
theorem m3:sC ["system","puts","looks","steps","of_rest","of_start","answer","rows"] 3 Ci:=by walk_at "d"
theorem EK (T:Txt K mg Z) (ptree:P.given.tree=none):cD P w K mg base fA 10 Z.JC Z.Jq ["system","puts","looks"] (tR K Z.a_System):=by
 have Ee:=CF (P:=P) (w:=w) (base:=base) T ptree;have kI:=o8 (P:=P) (w:=w) (base:=base) T ptree;have ve:=xS (P:=P) (w:=w) (base:=base) T ptree;have RY:=OK (P:=P) (w:=w) (base:=base) T ptree;have PM:=Ri (P:=P) (w:=w) (base:=base) T ptree;have JO:=Gx (P:=P) (w:=w) (base:=base) T ptree;have mG:=pW (P:=P) (w:=w) (base:=base) T ptree;have VR:=T5 (P:=P) (w:=w) (base:=base) T ptree;have Ec:=CB (P:=P) (w:=w) (base:=base) T ptree;have Nn:=Kz (P:=P) (w:=w) (base:=base) T ptree;refine T.pX.F.k m3 ?_;walk_at "i";obtain ⟨x,p,l,tt,e,H0,H1,H2,mv,pt,lk,pus,L9,rfl,S,D,F,Gp,Gl,Z5,k,k2⟩:=h
 refine ⟨_,(ao (eK 3 m3.nd (bo aM (by rfl) T.len aJ (dc dS)))
  (ao (eK 4 m3.nd (cE Ee hr T.nU (tG bP (cE kI hr T.jv (dc (fW bP rfl))) (xP Bn cL F9 (xN (xO qJ aj))))))
  (ao (ki 5 ["mine","yours"] [] [] m3.nd rfl rfl (mP rfl T.zip (cR dS m5)) (λ_=>(oy K 2 (b6 (dX 0) (b6 (dX 1) gE)))) (λ_=>cG) (λ_=>(cE ve hr T.mS (cR bP cL))))
  (ao (eK 6 m3.nd (cE RY hr T.CQ (tG (cE PM hr T.Br (dc (cE JO hr T.rH (cR (IV bP T.cl_System T.lD mG (hr.mono (by decide)) T.mE .nil Cw) iu)))) (fW bP rfl) (cE PM hr T.Br (dc wW)))))
  (ao (cV (aV fo (aL bu nG aj) nI (be _)) (ax (aK (dm (cR nI (cE VR hr T.KI (tG (aL bu nG aj) iu (fW bP rfl))))))) bK)
  (ao (eK 7 m3.nd (cE Ec hr T.nP (cR bP iu)))
  (ax (aK (dm (tG nI (cE Nn hr T.xc (cR (aL bu nG aj) zK)) zK)))))))))),?_⟩
 walk_at "s";have d8:=D.n8;have o4:=D.o4;have t12:=Z5.t12;have lp:=Z5.lp;have et:(aW mv mv.length).length=mv.length:=bZ;have wk:=eG (mv:=aW mv mv.length) (pt:=lk) et D.lw tt;have kl:=lS (mv:=aW mv mv.length) (pt:=lk) tt;have kl2:tt*lk.length<=12*4:=aE t12 o4;have l0:(List.replicate mv.length (0:Rat)).length=mv.length:=bA ..;have hd:=Bw (mv:=mv) (pt:=pt) (pus:=pus) Z5.lL Z5.wL;obtain ⟨dx,a',b',c',gx,_⟩:=id S;obtain ⟨us,gl,ql,_⟩:=id Gl;obtain ⟨vs,gp,qp,_⟩:=id Gp;have lu:=ql.length;have lv:=qp.length;have ll:=Z5.lL;exists ⟨l,us,rfl,.inl (bB.of gl),?_⟩;have eu:us.length=tt:=by lia
 rw[eu];exists ⟨x,Z.a_System,dx,_,_,rfl,gx,T.cl_System,T.na_states,jM,?_⟩;exists ⟨mv.length,rfl,by lia,λz H3 nz s3 Rz=>?_⟩;exists Ot (bB.of (s3 _ _ gp)) λlA HA sA nA gA=>?_
 rw[Pw] at gA;have qA:=oz qp (vs.length - 1);have s0A:=s3.trans sA;have GA:bf K H1 HA lA (pus.take (vs.length - 1)):=⟨_,gA,Paired.imp' (λ_ _ z=>cW.same z s0A) qA,ko ⟨_,nA,Paired.imp' (λ_ _ z=>cW.same z s3) qA⟩⟩;have ev:vs.length - 1=tt - 1:=by lia
 rw[ev] at GA;exists ⟨x,z,lA,H0,_,mv,pt,lk,pus.take (tt - 1),_,rfl,S.same s0A,D,F,Rz.same sA,l0,GA,by rw[bI];lia,λxs hx=>Z5.wp xs (b7 hx),Ae.take Z5.cf (by lia),λr4 H4 n4 s4 G4=>?_⟩;have s04:=s0A.trans s4;obtain ⟨ys,g4,q4,_⟩:=id G4;have ly:=q4.length;rw[ag,rV,bI] at ly;exists ⟨⟨_,bB.of (s04 _ _ gl)⟩,⟨_,bB.of g4⟩,?_⟩;refine Nc (K:=K) (xs:=us) (ws:=ys) (λi zs H'=>aB H4 H'/\Paired (cW K H4 H') ((List.range i).map (zY mv pt lk pus L9)) zs) lE (by lia) ⟨aB.refl _,.nil⟩ (λi zs H' _ ⟨s',_⟩=>⟨bB.of ((s04.trans s') _ _ gl),bB.of (s' _ _ g4)⟩) ?_ ?_
 ·rintro i v1 v2 zs H' r e1 e2 hy ⟨s',pr⟩ hr;obtain ⟨row1,er1,u1,rfl,_,R1⟩:=bQ ql e1;obtain ⟨row2,er2,u2,rfl,_,R2⟩:=bQ q4 e2;have hi:i < tt:=by have:=(az.mp e1).1;lia
  have m1:=ak er1;have er1:L9.getD i []=row1:=by rw[aa,er1];rfl
  have er2:lk.map (λxs=>cB xs (tu mv pt (List.replicate mv.length 0) pus i))=row2:=by
   rw[aA,vp (by rw[bI];lia),Ll (by lia)] at er2;exact bS er2
  have DL:List.zipWith (λx y=>x - y) row1 row2=zY mv pt lk pus L9 i:=by unfold zY;rw[er1,er2]
  have z1:=Z5.sL row1 m1;have z2:=Z5.sR i hi;rw[er2] at z2;have w1:=Z5.wL row1 m1;have w2:row2.length=lk.length:=by rw[<- er2,ag]
  have sr:aB H' (upd H' r (.tup [.ref u1,.ref u2])):=aB.new hr;have gr:(upd H' r (.tup [.ref u1,.ref u2])) r=some (.tup [.ref u1,.ref u2]):=aD;generalize upd H' r (.tup [.ref u1,.ref u2])=H6 at sr gr ⊢;have s46:=s'.trans sr;exists ⟨u1,u2,row1,row2,rfl,R1.same (s04.trans s46),R2.same s46,by rw[w1,w2],by lia,z1,z2,λr7 H7 n7 s7 R7=>⟨s46.trans s7,?_⟩⟩;rw[iI,cI];rw[DL] at R7;exact b9 (Paired.imp' (λ_ _ z=>cW.same z (sr.trans s7)) pr) (.cons ⟨r7,rfl,s46.none n7,R7⟩ .nil)
 rintro zs H5 hy ⟨s5,pr⟩ p5 n5;rw[show us.length=tt by lia] at pr;have sp5:aB H5 (upd H5 p5 (.lst zs)):=aB.new n5;have g5:(upd H5 p5 (.lst zs)) p5=some (.lst zs):=aD;generalize upd H5 p5 (.lst zs)=H6 at sp5 g5 ⊢;have s06:=(s04.trans s5).trans sp5;have pr:=Paired.imp' (λ_ _ z=>cW.same z sp5) pr;exists ⟨x,dx,_,rfl,s06 _ _ gx,BH,?_⟩;exists ⟨x,H0,mv,pt,lk,rfl,S.same s06,D,F.sf,λy7 H7 n7 s7 S7=>?_⟩;exists ⟨y7,tt,_,aW mv mv.length,lk,pt,rfl,by lia,S7,D.turn,Z5.v.ad,λr8 us8 H8 n8 s8 g8 p8=>?_⟩;obtain ⟨zss,pz,pq⟩:=Jk p8;have pf:=rh pq;have lf:=pf.length;rw[yA] at pf lf;exists ⟨r8,us8,zss,rfl,g8,pz,by lia,λr9 H9 n9 s9 g9=>?_⟩;have G9:bf K (λ_=>none) H9 r9 (kry (aW mv mv.length) lk tt):=⟨_,g9,Paired.imp' (λ_ _ ⟨a,b,_,d⟩=>⟨a,b,rfl,d.same s9⟩) pf,ko ⟨H8,n9,pf⟩⟩;have s69:=(s7.trans s8).trans s9;have s09:=s06.trans s69;obtain ⟨zs2,pz2,pq2⟩:=EH (Paired.imp' (λ_ _ z=>cW.same z s69) pr);have pf2:=rh pq2;have lf2:=pf2.length;have ed:((List.range tt).map (zY mv pt lk pus L9)).flatten=mC mv pt lk pus L9 tt:=rfl;rw[ed] at pf2 lf2;exists ⟨x,Z.a_System,dx,_,_,rfl,s09 _ _ gx,T.cl_System,T.na_states,jM,?_⟩;exists ⟨p5,zs,zs2,rfl,s69 _ _ g5,pz2,by lia,λrA HB nB sB gB=>?_⟩;have RB:cK K HB rA (mC mv pt lk pus L9 tt):=⟨_,gB,Paired.imp' (λ_ _ z=>z.same sB) pf2⟩;have s0B:=s09.trans sB;obtain ⟨w,sw,_⟩:=Z5.sw;obtain ⟨w',sw',_⟩:=Z5.sw';exists ⟨r9,rA,mv.length,w,w',_,_,_,rfl,G9.same sB,RB,hd,by lia,by lia,wk,sw,sw',⟨λtC xC R ps _ HC RR hn gC nC sC RC _ _ _=>?_,λtC xC R ps R' ps' _ HC RR hn RR' hn' gC nC sC RC _ _ _=>?_⟩⟩
 ·have s0C:=s0B.trans sC;walk_at "w";rw[decide_eq_false (show ¬(Str.ofString "yes"=Str.ofString "no") by decide)];exists ⟨x,tt,e,H0,mv,pt,lk,rfl,by lia,S.same s0C,D,F,Z5.v.un,λrD Hd HD nD sD GD U=>?_⟩;obtain ⟨psd,RH,WZ,TL⟩:=Wa D Z5 RR hn U;have s0D:=s0C.trans sD;have gC:=sD _ _ gC;exists ⟨xC,rD,mv.length,_,_,_,Hd,psd,rfl,RC.same sD,mh,GD,by lia,RH,WZ,λrE HE sE hE RE=>?_⟩;exists cz λtF HF sF gF=>?_
  exact k tF rE rD _ Hd HF gF (hE.elim (λz=>z ▸ s0B.none nC) λz=>s0D.none z) (s0C.none nD) ((s0D.trans sE).trans sF) (RE.same sF) ((GD.weakN λq h=>s0C.none h).same (sE.trans sF)) TL
 ·have s0C:=s0B.trans sC;have NO:=Wl D Z5 RR hn RR';have ls:(j5 R' ps' (kry (aW mv mv.length) lk tt).length).length=tt*lk.length:=by rw[<- kl];exact mh
  walk_at "w";rw[decide_eq_true rfl];exists ⟨x,Z.a_System,dx,_,_,rfl,s0C _ _ gx,T.cl_System,T.na_outs,N3,?_⟩;exists ⟨xC,tt,lk.length,_,rfl,RC,ls,by lia,by lia,by lia,λrD HD nD sD GD=>?_⟩;exists cz λtF HF sF gF=>?_
  exact k2 tF rD _ HF gF (s0C.none nD) ((s0C.trans sD).trans sF) ((GD.weakN λq h=>s0C.none h).same sF) NO
theorem ow:sC ["_law_thing","_law_part"] 1 kZ:=by walk_at "d"
theorem xT (T:Txt K mg Z) (ptree:P.given.tree=none):cD P w K mg base fA 2 Z.qC Z.p6 ["_law_thing"] (My K):=by
 have dG:=iW (P:=P) (w:=w) (base:=base) T ptree;refine T.ky.F.k ow ?_;walk_at "i";obtain ⟨x,n,rfl,⟨p,rfl,hp⟩,hn,k⟩:=h
 refine ⟨_,(ao (cV (PW.pt (kR (jN (iF (Bp rfl T.isinstance PyProof.Rows.boot_tuple T.tuple bP))) (jq (aV vJ (bo aM (by rfl) T.len aJ (dc bP)) aj (be _))))) (ax (aK lZ)) bK)
  (ao (dw PassesOwn.never rfl (TY bP) (dX 1 ow.nd)
   (ax (cV (PW.pt (kR (jN (iF (Bp rfl T.isinstance PyProof.Rows.boot_int T.int cL))) (jq (iF (Bp rfl T.isinstance PyProof.Rows.boot_bool T.bool cL))))) (ax (aK lZ)) bK)))
  (ax (aK (Gh (jd pT (aL bu bP aj) aj (be _)) (Gf (jd (Gn (xj hr)) (cE dG hr T.eF (cR (aL bu bP aj) (aL bu bP aj))) bP (be _)))))))),?_⟩
 walk_at "s";obtain ⟨hb,hg,_,hs⟩:=hn;exists .inr ⟨p,_,_,rfl,hp,rfl,?_⟩;exists ⟨_,_,rfl,.inr hp,?_⟩;walk_at "w"
 try refine O3 ?_
 exists ⟨⟨_,hp⟩,?_⟩;refine RA (K:=K) (a:=p) (xs:=[.int n.1,.int n.2]) (λi σ' H'=>H'=H/\∃x,σ'=[some (.ref p),x]) ⟨rfl,none,rfl⟩ (λi σ' H' _ ⟨e,_⟩=>by subst e;exact hp) ?_ ?_
 ·rintro i x σ' H' hx ⟨rfl,y,rfl⟩
  obtain ⟨z,rfl⟩:∃z,x=V.int z:=by
   have hm:x∈[V.int n.1,V.int n.2]:=ak hx;simp only[aH,bw,or_false] at hm;rcases hm with e | e
   ·exact ⟨_,e⟩
   ·exact ⟨_,e⟩
  exists .inl ⟨_,_,.int z,rfl,?_⟩;exists .inl ⟨_,_,.int z,rfl,?_⟩;exists ⟨rfl,_,rfl⟩
 ·rintro σ' H' ⟨rfl,x,rfl⟩;walk_at "w";rw[decide_eq_true hb];exists ⟨n.1,n.2,rfl,hb,hs.mono (by decide),λr H' s1 h'=>?_⟩;obtain ⟨e1,e2⟩:=Ub hb hg;exists ⟨_,_,Vu,(lo n.1 n.2,hi n.1 n.2),n,by decide,⟨r,rfl,mL.of h'⟩,⟨p,rfl,s1.sqt hp⟩,?_⟩;rw[e1,e2,decide_eq_true rfl];exact k _ s1
theorem Ce:sC ["_law_thing","_law_many"] 2 oZ:=by walk_at "d"
theorem uH (T:Txt K mg Z) (ptree:P.given.tree=none):cD P w K mg base fA 3 Z.wg Z.vV ["_law_thing","_law_many"] (zm K):=by
 have Ab:=xT (P:=P) (w:=w) (base:=base) T ptree;refine T.kx.F.k Ce ?_;walk_at "i";obtain ⟨p,ns,rfl,hp,hl,hn,k⟩:=h
 refine ⟨_,(ao (cV (PW.pt (kR (jN (iF (wX rfl T.isinstance PyProof.Rows.boot_list T.list bP))) (jq (aV vJ (bo aM (by rfl) T.len aJ (dc bP)) cL (be _))))) (ax (aK lZ)) bK)
  (ax (aK (bo (Dl rfl) (by rfl) T.all PyProof.Rows.boot_all (dc (cx ["_law_one"] [] [] (cA bP) (λ_=>(dX 0)) (λ_=>cG) (λ_=>(cE Ab hr T.ky (dc bP))))))))),?_⟩
 walk_at "s";obtain ⟨xs,gx,qx⟩:=id hp;have lx:=qx.length;exists ⟨_,_,.lst gx,rfl,?_⟩;exists ⟨_,_,rfl,.inl (bB.of gx),?_⟩;walk_at "w";rw[show ((xs.length:Nat):Int)=(ns.length:Nat) by rw[lx],decide_eq_true rfl];exists ⟨⟨_,bB.of gx⟩,?_⟩;refine eO (K:=K) (xs:=xs) (λi ys H'=>aB H H'/\ys=List.replicate i (.bl true)) lE ⟨aB.refl _,rfl⟩ (λi ys H' _ ⟨s,_⟩=>bB.of (s _ _ gx)) ?_ ?_
 ·rintro i x ys H' hx hlen ⟨s,rfl⟩;obtain ⟨n,en,z⟩:=bQ qx hx;exists ⟨x,n,rfl,s.num z,hn n (ak en),λH2 s2=>⟨s.trans s2,by rw[FD]⟩⟩
 ·rintro ys H' hy ⟨s,rfl⟩ l hl';exists ⟨l,List.replicate xs.length true,rfl,bB.of (by rw[aD];simp),?_⟩;have e4:(List.replicate xs.length true).all id=true:=by simp
  rw[e4];exact k _ (s.trans (aB.new hl'))
theorem A6:sC ["_law_thing","_law_many","_law_wide"] 3 nE:=by walk_at "d"
theorem sN (T:Txt K mg Z) (ptree:P.given.tree=none):cD P w K mg base fA 4 Z.uX Z.uR ["_law_thing","_law_many","_law_wide"] (BX K):=by
 have pN:=uH (P:=P) (w:=w) (base:=base) T ptree;refine T.jF.F.k A6 ?_;walk_at "i";obtain ⟨p,rows,m,rfl,hp,hl,hm,hn,k⟩:=h
 refine ⟨_,(ao (cV (PW.pt (kR (jN (iF (wX rfl T.isinstance PyProof.Rows.boot_list T.list bP))) (jq (aV vJ (bo aM (by rfl) T.len aJ (dc bP)) cL (be _))))) (ax (aK lZ)) bK)
  (ax (aK (bo (Dl rfl) (by rfl) T.all PyProof.Rows.boot_all (dc (cx ["_law_row_here"] ["_law_wide"] [2] (cA bP) (λ_=>(dX 0)) (λ_=>cG) (λ_=>(cE pN hr T.kx (cR bP cL))))))))),?_⟩
 walk_at "s";obtain ⟨xs,gx,qx⟩:=id hp;have lx:=qx.length;exists ⟨_,_,.lst gx,rfl,?_⟩;exists ⟨_,_,rfl,.inl (bB.of gx),?_⟩;walk_at "w";rw[show ((xs.length:Nat):Int)=(rows.length:Nat) by rw[lx],decide_eq_true rfl];exists ⟨⟨_,bB.of gx⟩,?_⟩;refine eO (K:=K) (xs:=xs) (λi ys H'=>aB H H'/\ys=List.replicate i (.bl true)) lE ⟨aB.refl _,rfl⟩ (λi ys H' _ ⟨s,_⟩=>bB.of (s _ _ gx)) ?_ ?_
 ·rintro i x ys H' hx hlen ⟨s,rfl⟩;obtain ⟨ns,en,q,rfl,z⟩:=bQ qx hx;obtain ⟨e1,e2⟩:=hn ns (ak en);exists ⟨q,ns,by rw[e1],z.same s,by lia,e2,λH2 s2=>⟨s.trans s2,by rw[FD]⟩⟩
 ·rintro ys H' hy ⟨s,rfl⟩ l hl';exists ⟨l,List.replicate xs.length true,rfl,bB.of (by rw[aD];simp),?_⟩;have e4:(List.replicate xs.length true).all id=true:=by simp
  rw[e4];exact k _ (s.trans (aB.new hl'))
theorem FX:sC ["_law_one","_law_other"] 2 uh:=by walk_at "d"
theorem Gz (T:Txt K mg Z) (ptree:P.given.tree=none):cD P w K mg base fA 2 Z.AN Z.As ["_law_one","_law_other"] (BR K):=by
 have dG:=iW (P:=P) (w:=w) (base:=base) T ptree;refine T.rJ.F.ok FX (λvs H Q E h=>?_) (λcdv A outer s H vs Q E hr h=>?_)
 ·obtain ⟨p,q,a,b,c,d,rfl,hp,hq,hb,hd,hc,sa,sb,sc,sd,k⟩:=IS h;rfl
 ·obtain ⟨p,q,a,b,c,d,rfl,hp,hq,hb,hd,hc,sa,sb,sc,sd,k⟩:=IS h
  refine ⟨_,(ao (cV (aV sJ (aL bu cL aj) aj (be _)) (ax (aK (cE dG hr T.eF (cR (bF nL aj (bF cN (aL bu bP aj) (aL bu cL aj))) (bF nL aj (bF cN (aL bu bP aj) (aL bu cL aj))))))) bK)
   (ax (aK (cE dG hr T.eF (cR (bF cN (aL bu bP aj) (aL bu cL aj)) (bF cN (aL bu bP aj) (aL bu cL aj))))))),?_⟩
  refine lY (σ:=[some (.ref p),some (.ref q)]) rfl ?_;have sbc:Sz 449950 (b*c):=(sb.mul sc).mono (by decide);exists iD (λh=>?_) (λh=>?_)
  ·have h0:c < 0:=of_decide_eq_true h;have hbc:b*c < 0:=xv hb h0;exists fv (show fM _ _ from .inr ⟨_,_,sa,sd,by decide⟩) ?_;exists fv (show fM _ _ from .inr ⟨_,_,sb,sc,by decide⟩) ?_;exists ⟨_,_,rfl,by lia,by rw[Int.zero_sub];exact sbc.neg,λr H' s' h'=>?_⟩;exact k r H' s' (by rw[if_pos h0,if_pos h0];exact h')
  ·have h0:¬c < 0:=λz=>h (decide_eq_true z)
   have hbc:0 < b*c:=fV hb (by lia);exists fv (show fM _ _ from .inr ⟨_,_,sa,sd,by decide⟩) ?_;exists fv (show fM _ _ from .inr ⟨_,_,sb,sc,by decide⟩) ?_;exists ⟨_,_,rfl,hbc,sbc,λr H' s' h'=>?_⟩;exact k r H' s' (by rw[if_neg h0,if_neg h0];exact h')
theorem F0:sC ["_law_one","_law_other"] 2 uw:=by walk_at "d"
theorem GK (T:Txt K mg Z) (ptree:P.given.tree=none):cD P w K mg base fA 2 Z.AW Z.AA ["_law_one","_law_other"] (oP K (λx y=>x - y)):=by
 have dG:=iW (P:=P) (w:=w) (base:=base) T ptree;refine T.rP.F.ok F0 (λvs H Q E h=>?_) (λcdv A outer s H vs Q E hr h=>?_)
 ·obtain ⟨p,q,a,b,c,d,rfl,hp,hq,hb,hd,sa,sb,sc,sd,k⟩:=Bm h;rfl
 ·obtain ⟨p,q,a,b,c,d,rfl,hp,hq,hb,hd,sa,sb,sc,sd,k⟩:=Bm h;refine ⟨_,(ax (aK (cE dG hr T.eF (cR (bF nL (bF cN (aL bu bP aj) (aL bu cL aj)) (bF cN (aL bu cL aj) (aL bu bP aj))) (bF cN (aL bu bP aj) (aL bu cL aj)))))),?_⟩;refine lY (σ:=[some (.ref p),some (.ref q)]) rfl ?_;have hbd:0 < b*d:=fV hb hd;have sbd:Sz 449950 (b*d):=(sb.mul sd).mono (by decide);exists fv (show fM _ _ from .inr ⟨_,_,sa,sd,by decide⟩) ?_;exists fv (show fM _ _ from .inr ⟨_,_,sc,sb,by decide⟩) ?_;exists fv (show fM _ _ from .inr ⟨_,_,sb,sd,by decide⟩) ?_;walk_at "w";exists ⟨_,_,rfl,hbd,sbd,k⟩
theorem DQ:sC ["_law_one","_law_other"] 2 qY:=by walk_at "d"
theorem vM (T:Txt K mg Z) (ptree:P.given.tree=none):cD P w K mg base fA 3 Z.yK Z.yt ["_law_one","_law_other"] (zj K):=by
 have JU:=GK (P:=P) (w:=w) (base:=base) T ptree;refine T.jw.F.k DQ ?_;walk_at "i";obtain ⟨p,q,xs,ys,rfl,hp,hq,hl,hz,h1,h2,kk⟩:=h;refine ⟨_,(ax (aK (cx ["_law_k"] ["_law_one","_law_other"] [0,1] (cp rfl T.range (dc (bo aM (by rfl) T.len aJ (dc bP)))) (λ_=>(dX 0)) (λ_=>cG) (λ_=>(cE JU hr T.rP (cR (aL (hJ K (by rfl)) cL bP) (aL (hJ K (by rfl)) dS bP))))))),?_⟩;walk_at "s";obtain ⟨us,gu,qu⟩:=id hp;obtain ⟨ws,gw,qw⟩:=id hq;have lu:=qu.length;exists ⟨_,_,rfl,.inl (bB.of gu),?_⟩;exists ⟨by lia,by lia,?_⟩;refine hZ (n:=us.length) (cv K) (λi=>xs.getD i 0 - ys.getD i 0) (by lia) (λa b=>a.same b) ?_ ?_
 ·rintro i H' NY NN hi s k1;have ix:i < xs.length:=by lia
  have iy:i < ys.length:=by lia
  obtain ⟨vx,ex,nx⟩:=DH (Paired.imp' (λ_ _ z=>z.same s) qu) ix;obtain ⟨vy,ey,ny⟩:=DH (Paired.imp' (λ_ _ z=>z.same s) qw) iy;exists bX (bB.of (s _ _ gu)) ex ?_;exists bX (bB.of (s _ _ gw)) ey ?_;exists ⟨_,_,_,_,rfl,nx,ny,h1 _ (getD_mem ix),h2 _ (getD_mem iy),λr3 H3 s3 n3=>k1 _ _ s3 n3⟩
 ·rintro ys' H' l hl' s g pr nx;exact kk l H' hl' s ⟨ys',g,by rw[J7 (by lia)];rw[<- lu] at pr;exact pr⟩
theorem dO:sC ["_law_rows","_law_wide","_law_found","_law_left","_law_at","_law_first","_law_lead"] 2 nk:=by walk_at "d"
theorem A7 (T:Txt K mg Z) (ptree:P.given.tree=none):cD P w K mg base fA 4 Z.uV Z.uP ["_law_rows","_law_wide"] (BV K):=by
 have jh:=rz (P:=P) (w:=w) (base:=base) T ptree;have JP:=Gz (P:=P) (w:=w) (base:=base) T ptree;have mV:=vM (P:=P) (w:=w) (base:=base) T ptree;refine T.jE.F.k dO ?_;walk_at "i";obtain ⟨p,n,S,H0,rows,rfl,G,r100,n100,hw,⟨e39,J,j0,jskip,jlean,jlw,jsz⟩,k⟩:=h
 refine ⟨_,(ao (eK 2 dO.nd (eU iV))
  (ao (ki 3 ["_law_row_here"] [] [] dO.nd rfl rfl (cA bP) (λ_=>(dX 0)) (λ_=>cG) (λ_=>(fz (jy K (by rfl)) (by rfl) T.list PyProof.Rows.boot_list (dc bP))))
  (ao (dw PassesOwn.never rfl (cp rfl T.range (dc cL)) (dX 4 dO.nd)
   (ao (ki 5 ["_law_row_here"] ["_law_at"] [4] dO.nd rfl rfl (cA iu) (λ_=>(dX 0)) (λ_=>Ge (aV (Gj K (by rfl) (xj hr)) (aL (hJ K (by rfl)) bP cL) (dm (cR aj aj)) (be _))) (λ_=>bP))
  (ax (cV (aV pT (bo aM (by rfl) T.len aJ (dc wW)) aj (be _)) (ao (eK 6 dO.nd (cE jh hr T.i8 (cR (cE JP hr T.rJ (cR (dm (cR aj aj)) (aL bE (aL bE wW aj) m5))) (aL bE wW aj))))
  (ao (fO (nJ bN PySem.F.slot_list_remove PySem.F.type_list_remove (MV (xj hr)) iu (dc (aL bE wW aj))))
  (ao (ki 3 ["_law_row_here"] ["_law_at","_law_lead"] [4,6] dO.nd rfl rfl (cA iu) (λ_=>(dX 0)) (λ_=>cG) (λ_=>(cE mV hr T.jw (cR bP (cE jh hr T.i8 (cR (aL (hJ K (by rfl)) bP cL) dS))))))
  (ax (eK 2 dO.nd (bF uF (cx ["_law_row_here"] ["_law_at","_law_lead"] [4,6] (cA dS) (λ_=>(dX 0)) (λ_=>cG) (λ_=>(cE mV hr T.jw (cR bP (cE jh hr T.i8 (cR (aL (hJ K (by rfl)) bP cL) dS)))))) (eU (dc nG)))))))) bK))))
  (ax (aK dS))))),?_⟩
 walk_at "s";obtain ⟨xs,gx,qx,_⟩:=id G;have szT:∀{D:Nat} {x:Rat},0 < D->D<=2^S->Tp D (2^S) x->kN x:=λh0 h1 t=>kW t h0 (ah h1 (au (by decide) (by lia))) (au (by decide) (by lia))
 have szP:∀{D D':Nat} {x y:Rat},0 < D->0 < D'->D<=2^S->D'<=2^S->Tp D (2^S) x->Tp D' (2^S) y->kN (x*y):=λh0 h0' h1 h1' t t'=>kW (t.mul t') (bR h0 h0') (ah (aE h1 h1') (by rw[<- aU];exact au (by decide) (by lia))) (by rw[<- aU];exact au (by decide) (by lia))
 exists dJ λfd Hz sz nf gf=>?_
 exists ⟨⟨_,bB.of (sz _ _ gx)⟩,?_⟩;refine d4 (K:=K) (F:=cW K H0) (cW K Hz) id (sz _ _ gx) (Paired.imp' (λ_ _ z=>cW.same z sz) qx) (by lia) (λa b=>a.same b) (λa b=>a.same b) ?_ ?_
 ·rintro i ns x H' NY NN en s ⟨u,rfl,_,zs,gz,qz⟩ k1;exists ⟨u,zs,rfl,.inl (bB.of gz),λl1 hl1=>?_⟩;exact k1 _ _ (aB.new hl1) ⟨l1,rfl,s.none hl1,zs,aD,Paired.imp' (λ_ _ z=>z.same (aB.new hl1)) qz⟩
 rintro ys1 H1 L hL s1 g1 pr1 nx1;rw[tj] at pr1 nx1;have GL1:bf K Hz H1 L rows:=⟨ys1,g1,pr1,ko nx1⟩;have GL1:=GL1.weak sz;have fdL:fd≠L:=λz=>by rw[<- z,gf] at hL;cases hL
 clear g1 pr1 nx1;exists ⟨by lia,by lia,?_⟩;refine dZ (n:=n) (λP σ' H'=>aB H H'/\∃lp fp ls fs ps vs y1 y2 y3,σ'=[some (.ref p),some (.int n),some (.ref fp),some (.ref lp),y1,y2,y3]/\H lp=none/\H fp=none/\fp≠lp/\bf K H H' lp ls/\H' fp=some (.lst vs)/\Paired (rY K (λq=>(H q=none/\q≠fp)/\q≠lp) H') fs vs/\fs.length=ps.length/\J P (fs++ls) ps) ⟨sz.trans s1,L,fd,rows,[],[],[],_,_,_,rfl,sz.none hL,nf,fdL,GL1,s1 _ _ gf,.nil,rfl,j0⟩ ?_ ?_
 ·rintro P σ' H' hP ⟨s',lp,fp,ls,fs,ps,vs,y1,y2,y3,rfl,nlp,nfp,fl,GL,gv,pv,hf,JI⟩;have I:=jlw _ _ _ JI;have len:=I.len;rw[ai] at len;have wide:=I.wide;obtain ⟨us,gu,qu,nu⟩:=id GL;have lu:=qu.length;have lv:=pv.length;have ez:∀i,(ls.map λr=>r.getD P 0).getD i 0=bW ls i P:=λi=>OT
  exists ⟨⟨_,bB.of gu⟩,?_⟩;refine eO (K:=K) (a:=lp) (xs:=us) (λi ys H''=>aB H' H''/\ys=(xu (ls.map λr=>r.getD P 0) i).map λj=>us.getD j .non) lE ⟨aB.refl _,rfl⟩ (λi ys H'' _ ⟨s,_⟩=>bB.of (s _ _ gu)) ?_ ?_
  ·rintro i v ys Hb hv hlen ⟨sb,rfl⟩;obtain ⟨xt,et,qt,rfl,nqt,Rt⟩:=bQ (Paired.imp' (λ_ _ z=>cW.same z sb) qu) hv;have mt:=ak et;have wt:=wide xt (av.mpr (.inr mt));obtain ⟨zs,gz,qz⟩:=id Rt;obtain ⟨vx,ex,nx⟩:=DH qz (j:=P) (by lia);have fx:(ls.map λr=>r.getD P 0).getD i 0=xt.getD P 0:=by rw[ez];unfold bW;rw[aa (l:=ls),et];rfl
   exists bX (bB.of gz) ex ?_;exists cz λt0 Hc sc gc=>?_
   exists ⟨_,_,C0,xt.getD P 0,0,by decide,nx.same sc,cv.mk (q:=0) gc rfl,?_⟩;by_cases e:xt.getD P 0=0
   ·rw[decide_eq_true e];exists ⟨sb.trans sc,?_⟩;rw[oE,fx,if_neg (by simpa using e)]
   ·rw[decide_eq_false e];exists ⟨sb.trans sc,?_⟩;rw[oE,fx,if_pos e,cI,List.map_singleton,aa,hv];rfl
  rw[<- lu];rintro ys Hb hy ⟨sb,rfl⟩ hd hhd;have nzm:∀c,c∈xu (ls.map λr=>r.getD P 0) ls.length↔c < ls.length/\bW ls c P≠0:=λc=>by rw[KD,ez]
  have nzf:∀t r,xu (ls.map λr=>r.getD P 0) ls.length=t :: r->∀i,i < t->bW ls i P=0:=λt r e i hi=>by rw[<- ez];exact OO e i hi
  generalize xu (ls.map λr=>r.getD P 0) ls.length=hs at hy hhd nzm nzf;have sn:aB Hb (upd Hb hd (.lst (hs.map λj=>us.getD j .non))):=aB.new hhd;have gh:(upd Hb hd (.lst (hs.map λj=>us.getD j .non))) hd=some (.lst (hs.map λj=>us.getD j .non)):=aD;generalize upd Hb hd (.lst (hs.map λj=>us.getD j .non))=Hd at sn gh ⊢;have sbd:=sb.trans sn;exists ⟨_,_,rfl,.inl (bB.of gh),?_⟩;rw[ag];walk_at "w";cases hs with
  | nil =>
   refine O3 ?_;exists ⟨s'.trans sbd,lp,fp,ls,fs,ps,vs,_,_,_,rfl,nlp,nfp,fl,GL.same sbd,sbd _ _ gv,Paired.imp' (λ_ _ z=>rY.same z sbd) pv,hf,jskip _ _ _ JI λi h1 h2=>?_⟩;rw[ai] at h2;obtain ⟨j,rfl⟩:∃j,i=fs.length+j:=⟨i - fs.length,by lia⟩;rw[qo];by_cases z:bW ls j P=0
   ·exact z
   ·exact absurd ((nzm j).mpr ⟨by lia,z⟩) (by simp)
  | cons t hs' =>
   rw[decide_eq_true (show (0:Int) < ((t :: hs').length:Nat) by rw[aZ];lia)];obtain ⟨tl,hne⟩:=(nzm t).mp (.head _);have tfst:=nzf t hs' rfl;have gud:=sbd _ _ gu;obtain ⟨xt,vt,et,evt,mt,qt,rfl,nqt,Rt⟩:=gN (Paired.imp' (λ_ _ z=>cW.same z sbd) qu) tl;have ext:ls.getD t []=xt:=by rw[aa,et];rfl
   have hne':xt.getD P 0≠0:=by unfold bW at hne;rw[ext] at hne;exact hne
   have wt:=wide xt (av.mpr (.inr mt));have qtl:qt≠lp:=λz=>nu (by rw[<- z];exact ak evt)
   rw[ib,show us.getD t .non=.ref qt by rw[aa,evt];rfl] at gh;generalize hs'.map (λj=>us.getD j .non)=hv at gh;have I2:=jlean _ _ _ _ _ JI hf tl hP (by rw[ext];exact hne') tfst;rw[ext] at I2
   have rowD:∀r∈fs++ls,∃D:Nat,0 < D/\D<=2^S/\∀c,Tp D (2^S) (r.getD c 0):=λr hr=>by
    obtain ⟨i,hi,rfl⟩:=bO hr;obtain ⟨D,D0,D1,D2⟩:=jsz _ _ _ JI (by lia) i (by rw[ai] at hi;lia);refine ⟨D,D0,D1,λc=>?_⟩;have:=D2 c;unfold bW at this;rw[aa (l:=fs++ls),ae hi] at this;exact this
   have szr:∀r∈fs++ls,∀y∈r,kN y:=λr hr y hy=>by
    obtain ⟨D,D0,D1,D2⟩:=rowD r hr;obtain ⟨c,hc,rfl⟩:=bO hy;have:=D2 c;rw[aa,ae hc] at this;exact szT D0 D1 this
   have mxt:xt∈fs++ls:=av.mpr (.inr mt);have lu2:(iS P xt).length=n:=by unfold iS;rw[ag];exact wt
   obtain ⟨Du,Du0,Du1,Du2⟩:∃D:Nat,0 < D/\D<=2^S/\∀y∈iS P xt,Tp D (2^S) y:=by
    obtain ⟨D,D0,D1,D2⟩:=jsz _ _ _ I2 (by lia) ps.length (by lia);refine ⟨D,D0,D1,λy hy=>?_⟩;obtain ⟨c,hc,rfl⟩:=bO hy;have:=D2 c;rw[cm,show ps.length=(fs.map (pJ P (iS P xt))).length+0 by rw[ag];lia,qo] at this
    have e:bW ([iS P xt]++(ls.eraseIdx t).map (pJ P (iS P xt))) 0 c=(iS P xt)[c]:=by
     show (iS P xt).getD c 0=_
     rw[aa,ae hc];rfl
    rw[e] at this;exact this
   have szu:∀y∈iS P xt,kN y:=λy hy=>szT Du0 Du1 (Du2 y hy)
   have szp:∀r∈fs++ls,∀y∈iS P xt,kN (r.getD P 0*y):=λr hr y hy=>by
    obtain ⟨D,D0,D1,D2⟩:=rowD r hr;exact szP D0 Du0 D1 Du1 (D2 P) (Du2 y hy)
   obtain ⟨zs,gz,qz⟩:=id Rt;obtain ⟨vx,ex,nx⟩:=DH qz (j:=P) (by lia);have szx:kN (xt.getD P 0):=szr xt mxt _ (getD_in (by lia));exists cz λtq Hf sf gf=>?_
   have ghf:=sf _ _ gh;exists bX (bB.of ghf) (dD (j:=0) rfl) ?_;exists bX (bB.of (sf _ _ gz)) ex ?_;exists ⟨_,_,1,xt.getD P 0,rfl,cv.mk (q:=1) gf rfl,nx.same sf,Qo,szx,hne',λqr Hg sg nq=>?_⟩;have sfg:=sf.trans sg;have ghg:=sg _ _ ghf;exists bX (bB.of ghg) (dD (j:=0) rfl) ?_;exists ⟨_,qt,1 / xt.getD P 0,xt,rfl,nq,Qp szx hne',Rt.same sfg,by lia,szr xt mxt,λur Hh nur sh Rur=>?_⟩;have Rur:cK K Hh ur (iS P xt):=Rur;have seh:=sfg.trans sh;have ghh:=sh _ _ ghg;have guh:=seh _ _ gud;have s0h:=(s'.trans sbd).trans seh;have nur0:H ur=none:=((s'.trans sbd).trans sfg).none nur;have url0:ur≠lp:=λz=>by have:=sfg _ _ gud;rw[<- z,nur] at this;cases this
   exists ⟨.inl ⟨rfl,_,bB.of guh⟩,?_⟩;exists bX (bB.of ghh) (dD (j:=0) rfl) ?_;exists ⟨lp,us,.ref qt,_,_,Ji,ls,xt,t,rfl,rfl,guh,by decide,Paired.imp' (λ_ _ ⟨q,e1,_,e3⟩=>by rw[e1];exact (cK.kind (cK.same (cK.same e3 sbd) seh))) qu,(Rt.same seh).kind,et,λi hi z=>?_,?_⟩
   ·have:=tfst i hi;unfold bW at this;rw[aa (l:=ls),z] at this;exact hne' this
   have s0e:aB H (upd Hh lp (.lst (us.eraseIdx t))):=s0h.after nlp;obtain ⟨us',gu',pu'⟩:=((GL.same sbd).same seh).toE;have eus:us'=us:=by rw[guh] at gu';cases gu';rfl
   subst eus;have ple:Paired (rY K (λq=>H q=none/\q≠lp) (upd Hh lp (.lst (us'.eraseIdx t)))) (ls.eraseIdx t) (us'.eraseIdx t):=xQ (Paired.imp' (λ_ _ z=>rY.updL z guh (λq h=>h.2)) pu') t;have gle:(upd Hh lp (.lst (us'.eraseIdx t))) lp=some (.lst (us'.eraseIdx t)):=aD;have gve:(upd Hh lp (.lst (us'.eraseIdx t))) fp=some (.lst vs):=by rw[bc fl];exact seh _ _ (sbd _ _ gv)
   have pve:Paired (rY K (λq=>(H q=none/\q≠fp)/\q≠lp) (upd Hh lp (.lst (us'.eraseIdx t)))) fs vs:=Paired.imp' (λ_ _ z=>rY.updL (rY.same (rY.same z sbd) seh) guh (λq h=>h.2)) pv;have Rur:cK K (upd Hh lp (.lst (us'.eraseIdx t))) ur (iS P xt):=Rur.updL guh url0;generalize upd Hh lp (.lst (us'.eraseIdx t))=He at s0e ple gle gve pve Rur ⊢;clear pu' gu' gud guh gh ghf ghg ghh;exists ⟨⟨_,bB.of gle⟩,?_⟩;refine d4 (K:=K) (F:=rY K (λq=>H q=none/\q≠lp)) (cW K H) (pJ P (iS P xt)) gle ple (by rw[SU tl];lia) (λa b=>a.same b) (λa b=>a.same b) ?_ ?_
   ·rintro i ns x Hi NY NN en si ⟨q,rfl,nq0,Rq⟩ k1;have mn:ns∈fs++ls:=av.mpr (.inr (UN (ak en)));have wn:=wide ns mn;obtain ⟨zs2,gz2,qz2⟩:=id Rq;obtain ⟨vx2,ex2,nx2⟩:=DH qz2 (j:=P) (by lia);exists bX (bB.of gz2) ex2 ?_;exists ⟨_,ur,ns.getD P 0,iS P xt,rfl,nx2,szr ns mn _ (getD_in (by lia)),Rur.same si,by lia,szu,λb1 Hj nb1 sj Rb=>?_⟩;exists ⟨q,b1,ns,_,rfl,Rq.same sj,Rb,by rw[ag];lia,by lia,szr ns mn,λy hy=>?_,λr2 Hk nr2 sk Rk=>?_⟩
    ·obtain ⟨y',hy',rfl⟩:=aw.mp hy;exact szp ns mn y' hy'
    ·exact k1 _ _ (sj.trans sk) ⟨r2,rfl,s0e.none (si.none (sj.none nr2)),Rk⟩
   rintro yl Hk lp2 hlp2 sk gk prk nxk;have s0k:=s0e.trans sk;have Gk:bf K H Hk lp2 ((ls.eraseIdx t).map (pJ P (iS P xt))):=⟨yl,gk,prk,ko nxk⟩;have Ruk:=Rur.same sk;exists ⟨⟨_,bB.of (sk _ _ gve)⟩,?_⟩;refine d4 (K:=K) (F:=rY K (λq=>(H q=none/\q≠fp)/\q≠lp)) (cW K Hk) (pJ P (iS P xt)) (sk _ _ gve) (Paired.imp' (λ_ _ z=>rY.same z sk) pve) (by lia) (λa b=>a.same b) (λa b=>a.same b) ?_ ?_
   ·rintro i ns x Hi NY NN en si ⟨q,rfl,nq0,Rq⟩ k1;have mn:ns∈fs++ls:=av.mpr (.inl (ak en));have wn:=wide ns mn;obtain ⟨zs2,gz2,qz2⟩:=id Rq;obtain ⟨vx2,ex2,nx2⟩:=DH qz2 (j:=P) (by lia);exists bX (bB.of gz2) ex2 ?_;exists ⟨_,ur,ns.getD P 0,iS P xt,rfl,nx2,szr ns mn _ (getD_in (by lia)),Ruk.same si,by lia,szu,λb1 Hj nb1 sj Rb=>?_⟩;exists ⟨q,b1,ns,_,rfl,Rq.same sj,Rb,by rw[ag];lia,by lia,szr ns mn,λy hy=>?_,λr2 Hl nr2 sl Rl=>?_⟩
    ·obtain ⟨y',hy',rfl⟩:=aw.mp hy;exact szp ns mn y' hy'
    ·exact k1 _ _ (sj.trans sl) ⟨r2,rfl,si.none (sj.none nr2),Rl⟩
   rintro yf Hl f1 hf1 sl gl prl nxl;have lyf:=prl.length;rw[ag] at lyf;exists dJ λsg1 Hm sm nm gm=>?_
   exists uA (sm _ _ gl) gm (dh (cS (by show yf.length+1<=1000;lia))) λfp2 Hn sn2 nfn gn=>?_
   have slm:=sm.trans sn2;have s0n:=(s0k.trans sl).trans slm;have nlp2:H lp2=none:=s0e.none hlp2;have gkm:=sm _ _ (sl _ _ gk);have fl2:fp2≠lp2:=λz=>by rw[z,gkm] at nfn;cases nfn
   have urm:=(Ruk.same sl).same sm;have urf:ur≠fp2:=λz=>by obtain ⟨_,gg,_⟩:=urm;rw[z,nfn] at gg;cases gg
   have url:ur≠lp2:=λz=>by obtain ⟨_,gg,_⟩:=Rur;rw[z,hlp2] at gg;cases gg
   refine ⟨s0n,lp2,fp2,_,_,ps++[P],_,_,_,_,rfl,nlp2,s0k.none (sl.none (sm.none nfn)),fl2,(Gk.same sl).same slm,gn,?_,by rw[ai,ai,ag];show fs.length+1=ps.length+1;lia,I2⟩;refine b9 (Paired.imp' (λ_ _ ⟨q,e1,e2,e3⟩=>⟨q,e1,⟨⟨s0k.none e2,λz=>?_⟩,λz=>?_⟩,cK.same e3 slm⟩) prl) (.cons ⟨ur,rfl,⟨⟨nur0,urf⟩,url⟩,urm.same sn2⟩ .nil)
   ·obtain ⟨_,gg,_⟩:=cK.same e3 sm;rw[z,nfn] at gg;cases gg
   ·rw[z,gk] at e2;cases e2
 ·rintro σ' H' ⟨s',lp,fp,ls,fs,ps,vs,y1,y2,y3,rfl,nlp,nfp,fl,GL,gv,pv,hf,JI⟩;have I:=jlw _ _ _ JI;have D:=I.done hw;rw[List.take_left' hf] at D;obtain ⟨km,_⟩:=I.km;exists k fp fs ps H' nfp s' (bf.ofE gv pv (λq h=>h.1.1) (λq h=>h.1.2)) D km
theorem iU:sC ["_law_told_here","_law_rows","_law_n","_law_row_here","_law_one"] 3 jo:=by walk_at "d"
theorem uG (T:Txt K mg Z) (ptree:P.given.tree=none):cD P w K mg base fA 5 Z.mK Z.mJ ["_law_told_here","_law_rows","_law_n"] (BM K):=by
 have oi:=sN (P:=P) (w:=w) (base:=base) T ptree;have vg:=A7 (P:=P) (w:=w) (base:=base) T ptree;have jS:=oC (P:=P) (w:=w) (base:=base) T ptree;refine T.i5.F.k iU ?_;walk_at "i";obtain ⟨td,rw,tt,e,H0,H1,A2,lk,Hd,rfl,G1,G2,t12,o4,n8,wl,U,VV,k⟩:=h
 refine ⟨_,(ao (cV (PW.pt (kR (jN (iF (cE oi hr T.jF (tG bP (bo aM (by rfl) T.len aJ (dc bP)) dS)))) (jq (aV (uE (xj hr)) bP (cE vg hr T.jE (cR bP dS)) (be _))))) (ax (aK lZ)) bK)
  (ao (dw PassesOwn.never rfl (cA bP) (dX 3 iU.nd)
   (ax (dw PassesOwn.never rfl (cA cL) (dX 4 iU.nd)
   (ax (cV (aV (uE (xj hr)) (cE jS hr T.jV (cR iu m5)) (dm (cR aj aj)) (be _)) (ax (aK lZ)) bK)))))
  (ax (aK (jd fo (bF fI (bo aM (by rfl) T.len aJ (dc bP)) (bo aM (by rfl) T.len aJ (dc (cE vg hr T.jE (cR cL dS))))) dS (be _)))))),?_⟩
 walk_at "s";obtain ⟨us,gu,qu,_⟩:=id G1;obtain ⟨ws,gw,qw,_⟩:=id G2;have lu:=qu.length;have wk:=eG (mv:=A2) rfl wl tt;have lb:tt*lk.length<=12*4:=aE t12 o4;have e1:=VV.un.e1;obtain ⟨wH,lH,szH,fH⟩:=U.szn e1;obtain ⟨S,LW⟩:=VV.lw;obtain ⟨kf,jf,hf,fk⟩:=VV.ft;exists ⟨_,_,rfl,.inl (bB.of gu),?_⟩;rw[<- lu];exists ⟨td,_,A2.length,by rw[ag],G1.gridK,by rw[ag];lia,by lia,λns hn=>?_,λH2 s2=>?_⟩
 ·obtain ⟨xs,hx,rfl⟩:=aw.mp hn;refine ⟨by rw[ag];exact wH xs hx,λz hz=>?_⟩;obtain ⟨y,hy,rfl⟩:=aw.mp hz;exact Ke (szH xs hx y hy)
 exists ⟨td,A2.length,e,H0,Hd,rfl,G1.same s2,by lia,by lia,wH,U.lwt e1,λr R' ps' H3 nr s3 G3 RR _=>?_⟩;have eR:=U.self RR;have s23:=s2.trans s3;exists ⟨_,_,rR,Hd,R',by decide,(G1.same s23).kind,G3.kind,?_⟩;rw[decide_eq_true eR.symm];exists ⟨⟨_,bB.of (s23 _ _ gu)⟩,?_⟩;refine gL (K:=K) (a:=td) (xs:=us) (λi σ' H'=>aB H H'/\∃y1 y2,σ'=[some (.ref td),some (.ref rw),some (.int A2.length),y1,y2]) ⟨s23,_,_,rfl⟩ (λi σ' H' _ ⟨s,_⟩=>bB.of (s _ _ gu)) ?_ ?_
 ·rintro i v σ' H4 hv ⟨s4,y1,y2,rfl⟩;obtain ⟨xs,ex,q,rfl,_,Rq⟩:=bQ qu hv;have mx:=ak ex;exists ⟨⟨_,bB.of (s4 _ _ gw)⟩,?_⟩;refine gL (K:=K) (a:=rw) (xs:=ws) (λj σ' H'=>aB H H'/\∃y2,σ'=[some (.ref td),some (.ref rw),some (.int A2.length),some (.ref q),y2]) ⟨s4,_,rfl⟩ (λi σ' H' _ ⟨s,_⟩=>bB.of (s _ _ gw)) ?_ ?_
  ·rintro j v2 σ' H5 hv2 ⟨s5,y2,rfl⟩;obtain ⟨ys,ey,q2,rfl,_,Rq2⟩:=bQ qw hv2;have my:=ak ey;exists ⟨q,q2,xs,ys,rfl,cK.same Rq s5,cK.same Rq2 s5,by rw[wH xs mx,wk ys my],by rw[wH xs mx];lia,⟨e,e,kf,jf,fH xs mx,fk ys my,by lia⟩,λd H6 s6 N6=>?_⟩;exists cz λt0 H7 s7 g7=>?_
   exists ⟨_,_,C0,cB xs ys,0,by decide,N6.same s7,cv.mk (q:=0) g7 rfl,?_⟩;rw[decide_eq_true (U.dot wk xs mx ys my)];exists ⟨(s5.trans s6).trans s7,_,rfl⟩
  ·rintro σ' H5 ⟨s5,y2,rfl⟩;exact ⟨s5,_,_,rfl⟩
 ·rintro σ' H4 ⟨s4,y1,y2,rfl⟩;exists ⟨_,_,rfl,.inl (bB.of (s4 _ _ gu)),?_⟩;rw[<- lu];exists ⟨rw,A2.length,S,H1,_,rfl,G2.same s4,by rw[lS];lia,by lia,wk,LW,λr2 R2 ps2 H5 n5 s5 G5 RR5 _=>?_⟩;obtain ⟨zs,gz,qz,_⟩:=id G5;have lz:=qz.length;exists ⟨_,_,rfl,.inl (bB.of gz),?_⟩;rw[<- lz];walk_at "w";have c:=U.cnt RR5;rw[decide_eq_true (show ((Hd.length:Int)+R2.length)=A2.length by lia)];exact k _ (s4.trans s5)
theorem dn:sC ["_law_parts_here","_law_steps_here","_law_move_here","_law_put","_law_look","_law_n","_law_rows","_law_found","_law_t"] 2 kY:=by walk_at "d"
theorem oB (T:Txt K mg Z) (ptree:P.given.tree=none):cD P w K mg base fA 4 Z.qB Z.p0 ["_law_parts_here","_law_steps_here"] (Iw K):=by
 have jS:=oC (P:=P) (w:=w) (base:=base) T ptree;refine T.iK.F.k dn ?_;walk_at "i";obtain ⟨r,tt,H0,mv,pt,lk,rfl,hT,PQ,D,AD,k⟩:=h
 refine ⟨_,(ao (fG bP (o6 rfl (b6 (dX 2 dn.nd) (b6 (dX 3 dn.nd) (b6 (dX 4 dn.nd) gE)))))
  (ao (eK 5 dn.nd (bo aM (by rfl) T.len aJ (dc dS)))
  (ao (ki 6 ["_law_row_here"] [] [] dn.nd rfl rfl (cA m5) (λ_=>(dX 0)) (λ_=>cG) (λ_=>(fz (jy K (by rfl)) (by rfl) T.list PyProof.Rows.boot_list (dc bP))))
  (ao (eK 7 dn.nd (eU iV))
  (ao (dw PassesOwn.never rfl (cp rfl T.range (dc cL)) (dX 8 dn.nd)
   (ao (fO (nJ bN UL UK EN zK (dc nG)))
  (ax (ki 6 ["_law_row_here"] ["_law_n","_law_move_here"] [5,2] dn.nd rfl rfl (cA nG) (λ_=>(dX 0)) (λ_=>cG) (λ_=>(cx ["_law_j"] ["_law_row_here","_law_n","_law_move_here"] [0,1,2] (cp rfl T.range (dc cL)) (λ_=>(dX 0)) (λ_=>cG) (λ_=>(cE jS hr T.jV (cR cL (cx ["_law_i"] ["_law_move_here","_law_j"] [3,0] (cp rfl T.range (dc dS)) (λ_=>(dX 0)) (λ_=>cG) (λ_=>(aL (hJ K (by rfl)) (aL (hJ K (by rfl)) cL bP) dS))))))))))))
  (ax (aK zK))))))),?_⟩
 walk_at "s";have d8:=D.n8;have o4:=D.o4;have et:(aW mv mv.length).length=mv.length:=bZ;obtain ⟨m,p,l,g,n1,n2,n3,Gm,Gp,Gl⟩:=id PQ;obtain ⟨um,gm,qm,_⟩:=id Gm;obtain ⟨ul,gl,ql,_⟩:=id Gl;have lum:=qm.length;have lul:=ql.length;exists ⟨_,_,rfl,.inl (bB.of gm),?_⟩;rw[<- lum];exists ⟨⟨_,bB.of gl⟩,?_⟩;refine d4 (K:=K) (F:=cW K H0) (cW K H) id gl ql (by lia) (λa b=>a.same b) (λa b=>a.same b) ?_ ?_
 ·rintro i ns x H' NY NN en s ⟨u,rfl,_,zs,gz,qz⟩ k1;exists ⟨u,zs,rfl,.inl (bB.of gz),λl1 hl1=>?_⟩;exact k1 _ _ (aB.new hl1) ⟨l1,rfl,s.none hl1,zs,aD,Paired.imp' (λ_ _ z=>z.same (aB.new hl1)) qz⟩
 rintro ys1 H1 rq1 hr1 s1 g1 pr1 nx1;rw[tj] at pr1 nx1;have G1:bf K H H1 rq1 lk:=⟨ys1,g1,pr1,ko nx1⟩;exists dJ λfd H2 s2 nf gf=>?_
 have s02:=s1.trans s2;have nf0:H fd=none:=s1.none nf;obtain ⟨Hz,eHz⟩:∃Hz,Hz=upd H fd (.lst []):=⟨_,rfl⟩;have zl:Hz fd≠none:=by rw[eHz,aD];exact λz=>nomatch z
 have zn:∀q,Hz q=none->H q=none/\q≠fd:=λq h=>by
  have ne:q≠fd:=λz=>zl (by rw[<- z];exact h)
  rw[eHz,bc ne] at h;exact ⟨h,ne⟩
 have nz:∀q,H q=none->q≠fd->Hz q=none:=λq h ne=>by rw[eHz,bc ne];exact h
 clear eHz;have rf1:rq1≠fd:=λz=>by rw[z,nf] at g1;cases g1
 have G2:bf K Hz H2 rq1 lk:=⟨ys1,s2 _ _ g1,Paired.imp' (λ_ _ ⟨q,a,b,c⟩=>⟨q,a,nz q b (λz=>by obtain ⟨_,gg,_⟩:=c;rw[z,nf] at gg;cases gg),cK.same c s2⟩) pr1,ko nx1⟩
 have powl:∀t,∀ns∈lk.map (iP (aW mv mv.length) t),ns.length=mv.length:=λt ns hn=>by
  obtain ⟨y,hy,rfl⟩:=aw.mp hn;have:=xM (mv:=aW mv mv.length) (st:=y) (by rw[et];exact D.lw y hy) t;rw[this,et]
 exists ⟨by lia,by lia,?_⟩;refine dZ (n:=tt) (λt σ' H'=>aB H H'/\∃rq us y,σ'=[some (.ref r),some (.int tt),some (.ref m),some (.ref p),some (.ref l),some (.int mv.length),some (.ref rq),some (.ref fd),y]/\rq≠fd/\H' fd=some (.lst us)/\Paired (cW K Hz H') (kry (aW mv mv.length) lk t) us/\bf K Hz H' rq (lk.map (iP (aW mv mv.length) t))) ⟨s02,rq1,[],_,rfl,rf1,gf,.nil,by rw[show lk.map (iP (aW mv mv.length) 0)=lk from tj lk];exact G2⟩ ?_ ?_
 ·rintro t σ' H' ht ⟨s',rq,us,y,rfl,rf,gu,pu,Gq⟩;obtain ⟨zs,gz,qz,_⟩:=id Gq;have lz:=qz.length;rw[ag] at lz;have lu:=pu.length;rw[lS] at lu;have lb:t*lk.length<=12*4:=aE (by lia) o4;exists ⟨.inl ⟨rfl,_,bB.of gu⟩,?_⟩;exists ⟨fd,rq,us,zs,rfl,rfl,gu,gz,dh (cS (by lia)),?_⟩;have s2':aB H (upd H' fd (.lst (us++zs))):=s'.after nf0;have g2':(upd H' fd (.lst (us++zs))) fd=some (.lst (us++zs)):=aD
  have p2':Paired (cW K Hz (upd H' fd (.lst (us++zs)))) (kry (aW mv mv.length) lk (t+1)) (us++zs):=by
   rw[<- yA,Mc,vm,yA];have:[lk.map (iP (aW mv mv.length) t)].flatten=lk.map (iP (aW mv mv.length) t):=by simp
   rw[this];exact b9 (Paired.imp' (λ_ _ z=>cW.updL z gu zl) pu) (Paired.imp' (λ_ _ z=>cW.updL z gu zl) qz)
  have gz2:(upd H' fd (.lst (us++zs))) rq=some (.lst zs):=by rw[bc rf];exact gz
  have qz2:Paired (cW K Hz (upd H' fd (.lst (us++zs)))) (lk.map (iP (aW mv mv.length) t)) zs:=Paired.imp' (λ_ _ z=>cW.updL z gu zl) qz;generalize upd H' fd (.lst (us++zs))=H3 at s2' g2' p2' gz2 qz2 ⊢;have gm3:=s2' _ _ gm;have qm3:Paired (cW K H0 H3) mv um:=Paired.imp' (λ_ _ z=>cW.same z s2') qm;exists ⟨⟨_,bB.of gz2⟩,?_⟩;refine d4 (K:=K) (F:=cW K Hz) (cW K Hz) (ou (aW mv mv.length)) gz2 qz2 (by rw[ag];lia) (λa b=>a.same b) (λa b=>a.same b) ?_ ?_
  ·rintro i ns v Ha NY NN en sa ⟨u,rfl,_,Ru⟩ k1;have mn:=ak en;have wn:=powl t ns mn;exists ⟨by lia,by lia,?_⟩;refine hZ (n:=mv.length) (cv K) (λj=>cB ns (mv.map λxs=>xs.getD j 0)) (by lia) (λa b=>a.same b) ?_ ?_
   ·rintro j Hb NY2 NN2 hj sb k2;have sab:=sa.trans sb;exists ⟨by lia,by lia,?_⟩;refine hZ (n:=mv.length) (cv K) (λi=>(mv.getD i []).getD j 0) (by lia) (λa b=>a.same b) ?_ ?_
    ·rintro i2 Hc NY3 NN3 hi2 sc k3;have sac:=sab.trans sc;obtain ⟨xr,vr,er,evr,mr,qr,rfl,_,Rr⟩:=gN (Paired.imp' (λ_ _ z=>cW.same z sac) qm3) hi2;have wr:=D.mw xr mr;obtain ⟨ws,gw,qw⟩:=id Rr;obtain ⟨vx,ex,nx⟩:=DH qw (j:=j) (by lia);have e:(mv.getD i2 []).getD j 0=xr.getD j 0:=by rw[aa (l:=mv),er];rfl
     exists bX (bB.of (sac _ _ gm3)) (dD evr) ?_;exists bX (bB.of gw) ex ?_;exact k3 _ _ (aB.refl _) (by rw[e];exact nx)
    ·rintro ys Hc cq hcq sc gc prc _
     have ecol:(List.range mv.length).map (λi=>(mv.getD i []).getD j 0)=mv.map λxs=>xs.getD j 0:=by
      apply c4 (by rw[ag,ag,bL]);intro i h1 h2;rw[cC,cC,ik];rw[ag] at h2;rw[aa (l:=mv),ae h2];rfl
     rw[ecol] at prc;have Rc:cK K Hc cq (mv.map λxs=>xs.getD j 0):=⟨ys,gc,prc⟩;exists ⟨u,cq,ns,_,rfl,cK.same Ru (sb.trans sc),Rc,by rw[ag,wn],by lia,?_,λd1 Hd sd Nd=>?_⟩
     ·obtain ⟨y0,hy0,rfl⟩:=aw.mp mn;have af:=(AD.row D.turn.mw D.turn.pw y0 hy0).fit D.turn.mw (D.turn.pw y0 hy0) (show t<=tt by lia);refine (af.1 _ ?_).symm;unfold aW;exact aw.mpr ⟨j,cP.mpr hj,rfl⟩
     ·exact k2 _ _ (sc.trans sd) Nd
   ·rintro ys Hb rr hrr sb gb prb _
    have eo:(List.range mv.length).map (λj=>cB ns (mv.map λxs=>xs.getD j 0))=ou (aW mv mv.length) ns:=by
     unfold ou aW;rw[jJ];refine eV λj _=>?_
     show cB ns _=cB _ ns
     exact Jo (by rw[ag,wn])
    rw[eo] at prb;exact k1 _ _ sb ⟨rr,rfl,nz rr (s2'.none (sa.none hrr)) (λz=>by have:=sa _ _ g2';rw[z,this] at hrr;cases hrr),ys,gb,prb⟩
  ·rintro ys Hb rr hrr sb gb prb nxb;have e:(lk.map (iP (aW mv mv.length) t)).map (ou (aW mv mv.length))=lk.map (iP (aW mv mv.length) (t+1)):=by rw[jJ];rfl
   rw[e] at prb nxb;exact ⟨s2'.trans sb,rr,_,_,rfl,λz=>(by rw[z,g2'] at hrr;cases hrr),sb _ _ g2',Paired.imp' (λ_ _ z=>cW.same z sb) p2',ys,gb,prb,ko nxb⟩
 ·rintro σ' H' ⟨s',rq,us,y,rfl,rf,gu,pu,Gq⟩;exists k fd H' nf0 s' ⟨us,gu,Paired.imp' (λ_ _ ⟨q,a,b,c⟩=>⟨q,a,(zn q b).1,c⟩) pu,λz=>?_⟩;obtain ⟨_,_,q,e,h,_⟩:=dE pu z;cases e;exact zl h
theorem oQ:sC ["_law_rows","_law_found","_law_row_here"] 1 rd:=by walk_at "d"
theorem D3 (T:Txt K mg Z) (ptree:P.given.tree=none):cD P w K mg base fA 1 Z.yM Z.yv ["_law_rows"] (BU K):=by
 refine T.pH.F.k oQ ?_;walk_at "i";obtain ⟨p,n,H0,R,ps,rfl,G,r100,n100,⟨rows,RR⟩,k⟩:=h
 refine ⟨_,(ao (eK 1 oQ.nd (eU iV))
  (ao (dw PassesOwn.never rfl (cA bP) (dX 2 oQ.nd)
   (ax (fO (nJ bN ck cg gD cL (dc (aL bE (cx ["_law_k"] ["_law_row_here"] [2] (cp rfl T.range (dc (bo aM (by rfl) T.len aJ (dc dS)))) (λ_=>(dX 0)) (λ_=>Ge (aV (Gj K (by rfl) (xj hr)) (aL (hJ K (by rfl)) cL bP) (dm (cR aj aj)) (be _))) (λ_=>bP)) aj))))))
  (ax (aK cL)))),?_⟩
 walk_at "s";obtain ⟨lR,wR,rr⟩:=id RR;obtain ⟨xs,gx,qx,_⟩:=id G;have lx:=qx.length;exists dJ λfd H1 s1 n1 g1=>?_
 exists ⟨⟨_,bB.of (s1 _ _ gx)⟩,?_⟩;refine gL (K:=K) (a:=p) (xs:=xs) (λi σ' H'=>aB H H'/\∃y,σ'=[some (.ref p),some (.ref fd),y]/\H' fd=some (.lst (du (ps.take i)))) ⟨s1,_,rfl,g1⟩ (λi σ' H' _ ⟨e,_⟩=>bB.of (e _ _ gx)) ?_ ?_
 ·rintro i v σ' H' hx ⟨e,y,rfl,gf⟩;obtain ⟨row,er,q,rfl,_,Rr⟩:=bQ (Paired.imp' (λ_ _ z=>cW.same z e) qx) hx;have wr:=wR row (ak er);have hi:i < ps.length:=by have:=(az.mp er).1;lia
  have ef:∀c,bW R i c=row.getD c 0:=λc=>by unfold bW;rw[aa (l:=R),er];rfl
  have ep:ps[i]?=some (ps.getD i 0):=by rw[aa,ae hi];rfl
  have lowp:=rr.low i hi;have u:=rr.unit i hi i hi;rw[if_pos rfl,ef] at u;obtain ⟨rest,en⟩:=ON (xs:=row) (j:=ps.getD i 0) (by rw[u];decide) (λc hc=>by rw[<- ef];exact rr.lead i hi c hc) (n:=row.length) (by lia);obtain ⟨zs,gz,qz⟩:=id Rr;have lz:=qz.length;exists ⟨.inl ⟨rfl,_,bB.of gf⟩,?_⟩;exists ⟨q,zs,rfl,.inl (bB.of gz),?_⟩;exists ⟨by lia,by lia,?_⟩;refine lG (n:=zs.length) (λc ys H2=>aB H' H2/\ys=du (xu row c)) lE ⟨aB.refl _,rfl⟩ ?_ ?_
  ·rintro c ys H2 hc hlen ⟨s2,rfl⟩;rw[oO];obtain ⟨vx,ex,nx⟩:=DH qz (j:=c) (by lia);exists bX (bB.of (s2 _ _ gz)) ex ?_;exists cz λt0 H3 s3 g3=>?_
   exists ⟨_,_,C0,row.getD c 0,0,by decide,(nx.same s2).same s3,cv.mk (q:=0) g3 rfl,?_⟩;by_cases e0:row.getD c 0=0
   ·rw[decide_eq_true e0];exists ⟨s2.trans s3,?_⟩;rw[oE,if_neg (by simpa using e0)]
   ·rw[decide_eq_false e0];exists ⟨s2.trans s3,?_⟩;rw[oE,if_pos e0];unfold du;rw[cI];rfl
  rintro ys H2 hy ⟨s2,rfl⟩ l hl;have sn:aB H2 (upd H2 l (.lst (du (xu row zs.length)))):=aB.new hl;have gn:(upd H2 l (.lst (du (xu row zs.length)))) l=some (.lst (du (xu row zs.length))):=aD;generalize upd H2 l (.lst (du (xu row zs.length)))=H3 at sn gn ⊢;rw[<- lz,en] at gn;have s23:=s2.trans sn;have gf3:=s23 _ _ gf;exists bX (bB.of gn) (v:=.int ((ps.getD i 0:Nat):Int)) (dD (j:=0) rfl) ?_;exists fZ gf3 (cS (by rw[nO,bI];lia)) ?_;refine ⟨(e.trans s23).after n1,_,rfl,?_⟩;rw[aD,take_snoc ep];unfold du;rw[cI];rfl
 ·rintro σ' H' ⟨e,y,rfl,gf⟩;rw[aG (by lia)] at gf;exists k fd H' n1 e gf
theorem ke:sC ["_law_parts_here","_law_told_here","_law_puts_here","_law_looks_here","_law_n","_law_at"] 4 k6:=by walk_at "d"
theorem xU (T:Txt K mg Z) (ptree:P.given.tree=none):cD P w K mg base fA 7 Z.qD Z.p7 ["_law_parts_here","_law_told_here","_law_puts_here","_law_looks_here"] (ID K):=by
 have pN:=uH (P:=P) (w:=w) (base:=base) T ptree;have vD:=uG (P:=P) (w:=w) (base:=base) T ptree;have lI:=oB (P:=P) (w:=w) (base:=base) T ptree;have HV:=D3 (P:=P) (w:=w) (base:=base) T ptree;have kK:=o9 (P:=P) (w:=w) (base:=base) T ptree;refine T.kz.F.k ke ?_;walk_at "i";obtain ⟨r,t,p,l,a,g,tt,e,H0,H1,H2,H3,mv,pt,lk,pus,L9,Hd,y,rfl,PQ,D,Gp,Gl,Z5,gt,Ra,Gg,TL,LF,k⟩:=h
 refine ⟨_,(ao (eK 4 ke.nd (bo aM (by rfl) T.len aJ (dc (aL bu bP aj))))
  (ao (cV (PW.pt (kR (aV vJ (bo aM (by rfl) T.len aJ (dc cL)) aj (be _)) (jq (jN (iF (cE pN hr T.kx (cR (aL bu cL aj) m5))))))) (ax (aK lZ)) bK)
  (ao (cV (jN (iF (cE vD hr T.i5 (tG (aL bu cL aj) (cE lI hr T.iK (cR bP (bo aM (by rfl) T.len aJ (dc dS)))) m5)))) (ax (aK lZ)) bK)
  (ao (dw PassesOwn.never rfl (cA (cE HV hr T.pH (dc (aL bu cL aj)))) (dX 5 ke.nd)
   (ax (cV (aV (uE (xj hr)) (aL bE (aL bu cL aj) wW) (dm (cR aj aj)) (be _)) (ax (aK lZ)) bK)))
  (ax (aK (jd (Gn (xj hr)) (cE kK hr T.jx (tG bP (aL bu cL aj) dS)) iu (be _)))))))),?_⟩
 walk_at "s";have d8:=D.n8;have o4:=D.o4;have t12:=Z5.t12;have lp:=Z5.lp;have et:(aW mv mv.length).length=mv.length:=bZ;have ly:=TL.ly;obtain ⟨q,q0,q1,tq⟩:=TL.fy;obtain ⟨psd,RH,zy⟩:=TL.zy;obtain ⟨wH,lH,_,_⟩:=TL.un.szn Z5.v.un.e1;obtain ⟨m,p',l',gr,n1,n2,n3,Gm,Gp',Gl'⟩:=id PQ;obtain ⟨um,gm,qm,_⟩:=id Gm;obtain ⟨up,gp,qp,_⟩:=id Gp;have lum:=qm.length;have lup:=qp.length;exists ⟨_,_,rfl,.inl (bB.of gm),?_⟩;rw[<- lum];exists ⟨t,_,rfl,.inr (mL.of gt),?_⟩;walk_at "w";rw[decide_eq_true (show (([V.str (Str.ofString "any"),V.ref a,V.ref g].length:Nat):Int)=3 from rfl)];exists ⟨a,y.map nm,by rw[ag,ly],Ra.rowK,by rw[ag];lia,λn hn=>by obtain ⟨z,hz,rfl⟩:=aw.mp hn;exact Ke (kW (tq z hz) q0 (ah q1 (tz (by decide))) (tz (by decide))),λH7 s7=>?_⟩;have gt7:=s7 _ _ gt;exists ⟨_,_,rfl,.inl (bB.of (s7 _ _ gp)),?_⟩;rw[show up.length=tt by lia];exists ⟨r,tt,H0,mv,pt,lk,rfl,t12,PQ.same s7,D,Z5.v.ad,λrq H8 nrq s8 G8=>?_⟩;have s08:=s7.trans s8;have gt8:=s8 _ _ gt7;exists ⟨g,rq,tt,e,_,_,aW mv mv.length,lk,Hd,by rw[et],Gg.same s08,G8,t12,o4,by rw[et];exact d8,D.turn.pw,by rw[et];exact TL.un,Z5.v,λH9 s9=>?_⟩;have s09:=s08.trans s9;have gt9:=s9 _ _ gt8;exists ⟨g,mv.length,_,Hd,psd,rfl,Gg.same s09,by lia,by lia,⟨_,RH⟩,λrA HA nA sA gA=>?_⟩;have s0A:=s09.trans sA;have lps:=nO (ps:=psd);exists ⟨⟨_,bB.of gA⟩,?_⟩;refine gL (K:=K) (a:=rA) (xs:=du psd) (λi σ' H'=>aB HA H'/\∃y1,σ'=[some (.ref r),some (.ref t),some (.ref p),some (.ref l),some (.int mv.length),y1]) ⟨aB.refl _,_,rfl⟩ (λi σ' H' _ ⟨s,_⟩=>bB.of (s _ _ gA)) ?_ ?_
 ·rintro i v σ' HB hv ⟨sB,y1,rfl⟩;obtain ⟨pj,ej,rfl⟩:=xV hv;have hi:i < psd.length:=(az.mp ej).1;have ejD:psd.getD i 0=pj:=by rw[aa,ej];rfl
  have pjn:pj < mv.length:=by have:=RH.2.2.low i hi;rw[ejD] at this;exact this
  have zz:=zy i hi;rw[ejD] at zz;have s0B:=s0A.trans sB;have gtB:=s0B _ _ gt;obtain ⟨va,ga,qa⟩:=Ra.same s0B;obtain ⟨vx,ex,nx⟩:=DH qa (j:=pj) (by lia);exists bX (bB.of ga) ex ?_;exists cz λt0 HC sC gC=>?_
  exists ⟨_,_,C0,y.getD pj 0,0,by decide,nx.same sC,cv.mk (q:=0) gC rfl,?_⟩;rw[decide_eq_true zz];exists ⟨sB.trans sC,_,rfl⟩
 ·rintro σ' HB ⟨sB,y1,rfl⟩;have s0B:=s0A.trans sB;have gtB:=s0B _ _ gt;exists ⟨r,a,p,H0,H1,mv,pt,lk,pus,y,rfl,PQ.same s0B,D,Ra.same s0B,ly,Gp.same s0B,by lia,Z5.wp,LF,λlC HC nC sC GC=>?_⟩;exists ⟨_,_,rR,_,_,by decide,GC.kind,(Gl.same (s0B.trans sC)).kind,?_⟩;rw[decide_eq_true (TL.looks D Z5)];exact k _ (s0B.trans sC)
theorem A5:sC ["_law_many"] 1 nv:=by walk_at "d"
theorem A8 (T:Txt K mg Z) (ptree:P.given.tree=none):cD P w K mg base fA 1 Z.uW Z.uQ ["_law_many"] (Ir K):=by
 refine T.iC.F.k A5 ?_;walk_at "i";obtain ⟨n,rfl,n100,k⟩:=h;refine ⟨_,(ax (aK (bF T2 (eU (dc (dm (cR aj aj)))) bP))),?_⟩;walk_at "s";exists cz λt0 Hc sc gc=>?_
 exists dJ λl0 Hd sd nd gd=>?_
 exists To gd (by lia) λtot He se ne ge=>?_
 have sce:=sd.trans se;exact k tot He (sc.none (sd.none ne)) (sc.trans sce) ⟨_,ge,Cz (cv.mk (q:=0) (sce _ _ gc) rfl) n⟩
theorem cJ:sC ["_law_parts_here","_law_told_here","_law_puts_here","_law_looks_here","_law_n","_law_outs","_law_rest","_law_rows","_law_total","_law_due","_law_t","_law_k"] 4 kh:=by walk_at "d"
theorem xa (T:Txt K mg Z) (ptree:P.given.tree=none):cD P w K mg base fA 7 Z.oJ Z.oH ["_law_parts_here","_law_told_here","_law_puts_here","_law_looks_here"] (Ew K):=by
 have oi:=sN (P:=P) (w:=w) (base:=base) T ptree;have kK:=o9 (P:=P) (w:=w) (base:=base) T ptree;have oh:=A8 (P:=P) (w:=w) (base:=base) T ptree;have lI:=oB (P:=P) (w:=w) (base:=base) T ptree;have ja:=oA (P:=P) (w:=w) (base:=base) T ptree;have jS:=oC (P:=P) (w:=w) (base:=base) T ptree;have mV:=vM (P:=P) (w:=w) (base:=base) T ptree;have ma:=rn (P:=P) (w:=w) (base:=base) T ptree;have jh:=rz (P:=P) (w:=w) (base:=base) T ptree;refine T.jQ.F.k cJ ?_;walk_at "i";obtain ⟨r,t,p,l,a,tt,e,H0,H1,H2,H3,mv,pt,lk,pus,L9,ws,rfl,PQ,D,Gp,Gl,Z5,gt,Ga,NO,NZ,k⟩:=h
 refine ⟨_,(ao (eK 4 cJ.nd (bo aM (by rfl) T.len aJ (dc (aL bu bP aj))))
  (ao (eK 5 cJ.nd (bo aM (by rfl) T.len aJ (dc (aL bu bP aj))))
  (ao (cV (PW.pt (kR (aV vJ (bo aM (by rfl) T.len aJ (dc cL)) aj (be _)) (jq (jN (iF (cE oi hr T.jF (tG (aL bu cL aj) (bo aM (by rfl) T.len aJ (dc dS)) wW))))))) (ax (aK lZ)) bK)
  (ao (eK 6 cJ.nd (cE kK hr T.jx (tG bP (cE oh hr T.iC (dc m5)) dS)))
  (ao (eK 7 cJ.nd (cE lI hr T.iK (cR bP (bo aM (by rfl) T.len aJ (dc dS)))))
  (ao (eK 8 cJ.nd (cE oh hr T.iC (dc m5)))
  (ao (eK 9 cJ.nd (dm (cR aj aj)))
  (ao (dw PassesOwn.never rfl (cp rfl T.range (dc (bo aM (by rfl) T.len aJ (dc dS)))) (dX 10 cJ.nd)
   (ao (eK 9 cJ.nd (cE ja hr T.gI (cR Q3 (cE jS hr T.jV (cR (aL bE (aL bu cL aj) (pv 10)) (cE mV hr T.jw (cR (aL bE iu (pv 10)) (aL bE nG (pv 10)))))))))
  (ax (dw PassesOwn.never rfl (cp rfl T.range (dc wW)) (dX 11 cJ.nd)
   (ax (eK 8 cJ.nd (cE ma hr T.kv (cR IT (cE jh hr T.i8 (cR (aL bE (aL bE (aL bu cL aj) (pv 10)) (pv 11)) (aL bE zK (bF fI (bF cN wW (pv 10)) (pv 11)))))))))))))
  (ax (aK (Gh (jd (Gn (xj hr)) IT (cE oh hr T.iC (dc m5)) (be _)) (Gf (jd (Gn (xj hr)) Q3 (dm (cR aj aj)) (be _)))))))))))))),?_⟩
 walk_at "s";have d8:=D.n8;have o4:=D.o4;have t12:=Z5.t12;have lp:=Z5.lp;have lw:=NO.lw;obtain ⟨m,p',l',gr,n1,n2,n3,Gm,Gp',Gl'⟩:=id PQ;obtain ⟨um,gm,qm,_⟩:=id Gm;obtain ⟨ul,gl',ql',_⟩:=id Gl';obtain ⟨up,gp,qp,_⟩:=id Gp;have lum:=qm.length;have lul:=ql'.length;have lup:=qp.length;exists ⟨_,_,rfl,.inl (bB.of gm),?_⟩;rw[<- lum];exists ⟨_,_,rfl,.inl (bB.of gl'),?_⟩;rw[<- lul];exists ⟨t,_,rfl,.inr (mL.of gt),?_⟩;walk_at "w";rw[decide_eq_true (show (([V.str (Str.ofString "none"),V.ref a].length:Nat):Int)=2 from rfl)];exists ⟨_,_,rfl,.inl (bB.of gp),?_⟩;rw[show up.length=tt by lia];exists ⟨a,ws.map (List.map nm),lk.length,by rw[ag,lw],Ga.gridK,by rw[ag];lia,by lia,λns hn=>?_,λH7 s7=>?_⟩
 ·obtain ⟨xs,hx,rfl⟩:=aw.mp hn;exact ⟨by rw[ag];exact NO.ww xs hx,λn hn=>by obtain ⟨z,hz,rfl⟩:=aw.mp hn;exact Ke (NZ.sw xs hx z hz)⟩
 exists ⟨mv.length,rfl,by lia,λz0 H8 nz0 s8 R8=>?_⟩;have s08:=s7.trans s8;exists ⟨r,z0,p,H0,H1,mv,pt,lk,pus,_,rfl,PQ.same s08,D,R8,bA ..,Gp.same s08,by lia,Z5.wp,NZ.l0,λrs H9 n9 s9 G9=>?_⟩;have s09:=s08.trans s9;exists ⟨_,_,rfl,.inl (bB.of (s09 _ _ gp)),?_⟩;rw[show up.length=tt by lia];exists ⟨r,tt,H0,mv,pt,lk,rfl,t12,PQ.same s09,D,Z5.v.ad,λrq HA nA sA GA=>?_⟩;have s0A:=s09.trans sA;exists ⟨mv.length,rfl,by lia,λtq HB nB sB RB=>?_⟩;have s0B:=s0A.trans sB;exists cz λdq HC sC gC=>?_
 have s0C:=s0B.trans sC;exists ⟨_,_,rfl,.inl (bB.of (s0C _ _ gp)),?_⟩;rw[show up.length=tt by lia];exists ⟨by lia,by lia,?_⟩;have kl:=lS (mv:=aW mv mv.length) (pt:=lk) tt;have et:(aW mv mv.length).length=mv.length:=bZ;have wk:=eG (mv:=aW mv mv.length) (pt:=lk) et D.lw tt;have s9C:=(sA.trans sB).trans sC;have sAC:=sB.trans sC;refine dZ (n:=tt) (λi σ' H'=>aB HC H'/\∃tv dv y1 y2,σ'=[some (.ref r),some (.ref t),some (.ref p),some (.ref l),some (.int mv.length),some (.int lk.length),some (.ref rs),some (.ref rq),some (.ref tv),some dv,y1,y2]/\cK K H' tv (Ka (kry (aW mv mv.length) lk tt) ws.flatten mv.length (lk.length*i))/\cv K H' (bx i λs=>cB (ws.getD s []) (zY mv pt lk pus L9 s)) dv) ⟨aB.refl _,tq,.ref dq,_,_,rfl,by rw[vz,Qh];exact RB.same sC,cv.mk (q:=0) gC rfl⟩ ?_ ?_
 ·rintro i σ' H' hi ⟨s',tv,dv,y1,y2,rfl,Rt,Nd⟩;have s0:=s0C.trans s';have gt':=s0 _ _ gt;obtain ⟨va,ga,qa,_⟩:=Ga.same s0;obtain ⟨vl,gl,ql,_⟩:=Gl.same s0;obtain ⟨vr,gr',qr,_⟩:=G9.same (s9C.trans s');have lva:=qa.length;have lvl:=ql.length;have lvr:=qr.length;have lL:=Z5.lL;have lK:(xh mv pt lk (List.replicate mv.length 0) pus).length=tt:=by unfold xh;rw[ag,bL,lp]
  obtain ⟨row1,er1,u1,eu1,_,R1⟩:=bQ qa (ae (by lia:i < va.length));obtain ⟨row2,er2,u2,eu2,_,R2⟩:=bQ ql (ae (by lia:i < vl.length));obtain ⟨row3,er3,u3,eu3,_,R3⟩:=bQ qr (ae (by lia:i < vr.length));have e1:va[i]?=some (.ref u1):=by rw[ae (by lia),eu1]
  have e2:vl[i]?=some (.ref u2):=by rw[ae (by lia),eu2]
  have e3:vr[i]?=some (.ref u3):=by rw[ae (by lia),eu3]
  have w1:=NO.ww row1 (ak er1);have w2:=Z5.wL row2 (ak er2);have m2:=ak er2;have g1:ws.getD i []=row1:=by rw[aa,er1];rfl
  have g2:L9.getD i []=row2:=by rw[aa,er2];rfl
  have g3:lk.map (λxs=>cB xs (tu mv pt (List.replicate mv.length 0) pus i))=row3:=by
   unfold xh at er3;rw[aA,cu (by lia)] at er3;exact bS er3
  have w3:row3.length=lk.length:=by rw[<- g3,ag]
  have DL:List.zipWith (λx y=>x - y) row2 row3=zY mv pt lk pus L9 i:=by unfold zY;rw[g2,g3]
  have z3:=Z5.sR i hi;rw[g3] at z3;have ft:=NZ.ft i hi;have dt:=NZ.dt i hi;rw[g1] at ft dt;have wd:(zY mv pt lk pus L9 i).length=lk.length:=by rw[<- DL,aY,w2,w3,dW]
  exists bX (bB.of ga) (dD e1) ?_;exists bX (bB.of gl) (dD e2) ?_;exists bX (bB.of gr') (dD e3) ?_;exists ⟨u2,u3,row2,row3,rfl,R2,R3,by lia,by lia,Z5.sL row2 m2,z3,λr6 H6 n6 s6 R6=>?_⟩;rw[DL] at R6;exists ⟨u1,r6,row1,_,rfl,R1.same s6,R6,by lia,by lia,ft,λd7 H7 s7 N7=>?_⟩;have s67:=s6.trans s7;exists ⟨_,_,_,_,rfl,Nd.same s67,N7,NZ.dj i (by lia),dt,λr8 H8 s8 N8=>?_⟩;have s68:=s67.trans s8
  have N8:cv K H8 (bx (i+1) λs=>cB (ws.getD s []) (zY mv pt lk pus L9 s)) (.ref r8):=by
   show cv K H8 (bx i _+cB (ws.getD i []) (zY mv pt lk pus L9 i)) (.ref r8)
   rw[g1];exact N8
  exists ⟨by lia,by lia,?_⟩;refine dZ (n:=lk.length) (λj σ' H''=>aB H8 H''/\∃tv y2,σ'=[some (.ref r),some (.ref t),some (.ref p),some (.ref l),some (.int mv.length),some (.int lk.length),some (.ref rs),some (.ref rq),some (.ref tv),some (.ref r8),some (.int i),y2]/\cK K H'' tv (Ka (kry (aW mv mv.length) lk tt) ws.flatten mv.length (lk.length*i+j))) ⟨aB.refl _,tv,_,rfl,Rt.same s68⟩ ?_ ?_
  ·rintro j σ' H'' hj ⟨s2,tv,y2,rfl,Rt⟩;have sH:=s68.trans s2;have gt2:=sH _ _ gt'
   have hm:lk.length*i+j < tt*lk.length:=by
    have:lk.length*(i+1)<=lk.length*tt:=aP _ hi;rw[vB] at this;rw[cy tt]
    lia
   obtain ⟨zv,gz,qz⟩:=R1.same sH;obtain ⟨vx,ex,nx⟩:=DH qz (j:=j) (by lia);have cw:=L5 (ws:=ws) (k:=lk.length) (t:=i) (j:=j) NO.ww (by lia) hj;rw[g1] at cw;obtain ⟨vq,gq,qq,_⟩:=GA.same ((sAC.trans s').trans sH);have lvq:=qq.length;obtain ⟨row4,er4,u4,eu4,_,R4⟩:=bQ qq (ae (by lia:lk.length*i+j < vq.length));have e4:vq[lk.length*i+j]?=some (.ref u4):=by rw[ae (by lia),eu4]
   have m4:=ak er4;have g4:(kry (aW mv mv.length) lk tt).getD (lk.length*i+j) []=row4:=by rw[aa,er4];rfl
   have PR:=NZ.pr _ hm;rw[g4,cw] at PR;have lwf:ws.flatten.length=tt*lk.length:=by rw[kB NO.ww,lw]
   have ewf:ws.flatten[lk.length*i+j]?=some (row1.getD j 0):=by
    rw[<- cw,aa,ae (by lia)];rfl
   exists bX (bB.of (sH _ _ ga)) (dD e1) ?_;exists bX (bB.of gz) ex ?_;exists fv (Bx (by lia) (by lia)) ?_;walk_at "w";rw[show ((lk.length:Int)*(i:Int)+(j:Int))=((lk.length*i+j:Nat):Int) by rw[Qc,Int.natCast_mul]];refine bX (bB.of gq) (v:=.ref u4) (dD e4) ?_;exists ⟨_,u4,_,row4,rfl,nx,NZ.sw row1 (ak er1) _ (getD_in (by lia)),R4,by rw[wk row4 m4];lia,NZ.sr row4 m4,λr5 H5 n5 s5 R5=>?_⟩;exists ⟨tv,r5,_,_,rfl,Rt.same s5,R5,by rw[wF,ag,wk row4 m4],by rw[wF];lia,NZ.wt _ (by lia),λz hz=>?_,λr9 H10 n10 s10 R10=>?_⟩
   ·obtain ⟨y,hy,rfl⟩:=aw.mp hz;exact PR y hy
   rw[Qi er4 ewf (wk row4 m4)] at R10;exact ⟨(s2.trans s5).trans s10,r9,_,rfl,R10⟩
  ·rintro σ' H'' ⟨s2,tv,y2,rfl,Rt⟩;exact ⟨(s'.trans s68).trans s2,tv,_,_,_,rfl,by rw[vB];exact Rt,N8.same s2⟩
 ·rintro σ' H' ⟨s',tv,dv,y1,y2,rfl,Rt,Nd⟩;have lwf:ws.flatten.length=tt*lk.length:=by rw[kB NO.ww,lw]
  have Rt:cK K H' tv (List.replicate mv.length 0):=by
   rw[<- NO.z0];unfold NJ;rw[lwf,cy];exact Rt
  rw[NO.dot Z5] at Nd;exists ⟨mv.length,rfl,by lia,λz9 H8 nz9 s8 R8=>?_⟩;exists ⟨_,_,Ji,_,_,by decide,(Rt.same s8).kind,R8.kind,?_⟩;rw[decide_eq_true rfl];exists cz λt9 H9 s9 g9=>?_
  exists ⟨_,_,C0,1,1,by decide,(Nd.same s8).same s9,cv.mk (q:=1) g9 rfl,?_⟩;rw[decide_eq_true rfl];exact k _ (((s0C.trans s').trans s8).trans s9)
theorem jb:sC ["_law_system_here","_law_parts_here","_law_puts_here","_law_looks_here","_law_rows","_law_seen","_law_told_here","_law_row_here"] 4 uf:=by walk_at "d"
theorem Gy (T:Txt K mg Z) (ptree:P.given.tree=none):cD P w K mg base fA 11 Z.AL Z.Aq ["_law_system_here","_law_parts_here","_law_puts_here","_law_looks_here"] (zi K Z.a_System):=by
 have c6:=iX (P:=P) (w:=w) (base:=base) T ptree;have yQ:=EK (P:=P) (w:=w) (base:=base) T ptree;have Ac:=xU (P:=P) (w:=w) (base:=base) T ptree;have yS:=xa (P:=P) (w:=w) (base:=base) T ptree;refine T.ks.F.k jb ?_;walk_at "i";obtain ⟨x,r,p,l,tt,e,H0,H1,H2,H3,mv,pt,lk,pus,L9,rfl,S,PQ,D,F,Gp,Gl,Z5,LL,LN,k,k2⟩:=h
 refine ⟨_,(ao (eK 4 jb.nd (cE c6 hr T.dg (dc dS)))
  (ao (eK 5 jb.nd (cE c6 hr T.dg (dc iu)))
  (ao (eK 6 jb.nd (cE yQ hr T.pX (tG bP m5 wW)))
  (ao (cV (PW.pt (kR (aV (uE (xj hr)) m5 dS (be _)) (kR (aV (uE (xj hr)) wW iu (be _)) (kR (jN (iF (wX rfl T.isinstance PyProof.Rows.boot_tuple T.tuple nG))) (jq (aV sJ (bo aM (by rfl) T.len aJ (dc nG)) aj (be _))))))) (ax (aK k9)) bK)
  (ao (cV (PW.pt (jr (aV fo (aL bu nG aj) nI (be _)) (jD (iF (cE Ac hr T.kz (JX cL nG dS iu)))))) (ao (dw PassesOwn.never rfl (cA (aL bu nG aj)) (dX 7 jb.nd)
   (ax (fO (nJ bN ck cg gD zK (dc k9)))))
  (ao (fO (nJ bN ck cg gD (aL bu nG aj) (dc k9)))
  (ao (fO (nJ bN ck cg gD (aL bu nG aj) (dc k9)))
  (ax (aK nI))))) bK)
  (ao (cV (PW.pt (jr (aV fo (aL bu nG aj) nI (be _)) (jD (iF (cE yS hr T.jQ (JX cL nG dS iu)))))) (ao (dw PassesOwn.never rfl (cA (aL bu nG aj)) (dX 7 jb.nd)
   (ax (fO (nJ bN ck cg gD zK (dc k9)))))
  (ao (fO (nJ bN ck cg gD (aL bu nG aj) (dc k9)))
  (ax (aK nI)))) bK)
  (ax (aK k9)))))))),?_⟩
 walk_at "s";have d8:=D.n8;have o4:=D.o4;have i4:=D.i4;have t12:=Z5.t12;have lp:=Z5.lp;have ll:=Z5.lL;have wl:=Z5.wL;exists ⟨p,_,pus,rfl,Gp,by lia,λxs hx=>by rw[Z5.wp xs hx];lia,λp4 H4 n4 s4 G4=>?_⟩;exists ⟨l,_,_,rfl,Gl.same s4,by lia,λxs hx=>by rw[wl xs hx];lia,λl5 H5 n5 s5 G5=>?_⟩;have s05:=s4.trans s5;have G45:=G4.same s5;exists ⟨x,p4,l5,tt,e,H0,_,_,mv,pt,lk,pus,L9,rfl,S.same s05,D,F,G45,G5,Z5,λt a g y Hd H6 gt na ng s6 Ra Gg TL=>?_,λt a ws H6 gt na s6 Ga NO=>?_⟩
 ·have s06:=s05.trans s6;have na0:=s05.none na;have ng0:=s05.none ng;obtain ⟨wH,lH,_,_⟩:=TL.un.szn Z5.v.un.e1;have ly:=TL.ly;exists ⟨_,_,rR,_,_,by decide,(G45.same s6).kind,(Gp.same s06).kind,?_⟩;rw[decide_eq_true rfl];exists ⟨_,_,rR,_,_,by decide,(G5.same s6).kind,(Gl.same s06).kind,?_⟩;rw[decide_eq_true rfl];exists Ou (.tup gt) (.inr (.inr (.inr rfl))) ?_;rw[show tyB "tuple" (.ref t) H6=true by unfold tyB;dsimp only;rw[gt];rfl];exists ⟨t,_,rfl,.inr (mL.of gt),?_⟩;walk_at "w";rw[decide_eq_false (show ¬((([V.str (Str.ofString "any"),V.ref a,V.ref g].length:Nat):Int) < 2) from λz=>absurd (show (3:Int) < 2 from z) (by decide))];walk_at "w";rw[decide_eq_true rfl];exists ⟨r,t,p,l,a,g,tt,e,H1,H2,H3,_,mv,pt,lk,pus,L9,Hd,y,rfl,PQ.same s06,D,Gp.same s06,Gl.same s06,Z5,gt,Ra,Gg,TL,LL y Hd TL,λH7 s7=>?_⟩;have s07:=s06.trans s7;have gt7:=s7 _ _ gt;obtain ⟨us,gu,qu,nu⟩:=Gg.same s7;obtain ⟨va,ga,qa⟩:=Ra.same s7;have lu:=qu.length;have lva:=qa.length;exists ⟨⟨_,bB.of gu⟩,?_⟩;refine gL (K:=K) (a:=g) (xs:=us) (λi σ' H'=>aB H H'/\H' g=some (.lst us)/\H' t=some (.tup [.str (Str.ofString "any"),.ref a,.ref g])/\(∃zs,H' a=some (.lst zs)/\zs.length<=20+i)/\(∀y∈us,∃q zs,y=V.ref q/\H q=none/\q≠g/\q≠t/\H' q=some (.lst zs)/\zs.length<=20+i)/\∃y1,σ'=[some (.ref x),some (.ref r),some (.ref p),some (.ref l),some (.ref p4),some (.ref l5),some (.ref t),y1]) ⟨s07,gu,gt7,⟨va,ga,by lia⟩,λy hy=>?_,_,rfl⟩ (λi σ' H' _ ⟨_,g,_⟩=>bB.of g) ?_ ?_
  ·obtain ⟨xs,mx,q,rfl,nq,zs,gz,qz⟩:=dE qu hy;have:=qz.length;have:=wH xs mx;exact ⟨q,zs,rfl,s05.none nq,λz=>nu (by rw[<- z];exact hy),λz=>(by rw[z,gt7] at gz;cases gz),gz,by lia⟩
  ·rintro i v σ' H8 hv ⟨s8,g8,t8,⟨za,a8,la8⟩,hq,y1,rfl⟩;have hi:i < us.length:=(az.mp hv).1;obtain ⟨q,zs,rfl,nq,qg,qt,gq,lz⟩:=hq v (ak hv);exists ⟨.inl ⟨rfl,_,bB.of gq⟩,?_⟩;exists fZ gq (cS (by lia)) ?_;refine ⟨s8.after nq,by rw[bc (Ne.symm qg)];exact g8,by rw[bc (Ne.symm qt)];exact t8,?_,λy hy=>?_,_,rfl⟩
   ·by_cases z:a=q
    ·exact ⟨zs++[.non],by rw[z,aD],by rw[ai,aQ];lia⟩
    ·exact ⟨za,by rw[bc z];exact a8,by lia⟩
   obtain ⟨q2,zs2,rfl,nq2,qg2,qt2,gq2,lz2⟩:=hq y hy;by_cases z:q2=q
   ·exact ⟨q2,zs++[.non],rfl,nq2,qg2,qt2,by rw[z,aD],by rw[ai,aQ];lia⟩
   ·exact ⟨q2,zs2,rfl,nq2,qg2,qt2,by rw[bc z];exact gq2,by lia⟩
  ·rintro σ' H8 ⟨s8,g8,t8,⟨za,a8,la8⟩,_,y1,rfl⟩;have ta:t≠a:=λz=>by rw[z,a8] at t8;cases t8
   exists ⟨.inl ⟨rfl,_,bB.of a8⟩,?_⟩;exists fZ a8 (cS (by lia)) ?_;have s9:=s8.after (o:=.lst (za++[V.non])) na0;have t9:(upd H8 a (.lst (za++[V.non]))) t=some (.tup [.str (Str.ofString "any"),.ref a,.ref g]):=by rw[bc ta];exact t8
   have g9:∃zs,(upd H8 a (.lst (za++[V.non]))) g=some (.lst zs)/\zs.length<=100:=by
    by_cases z:g=a
    ·exact ⟨_,by rw[z,aD],by rw[ai,aQ];lia⟩
    ·exact ⟨us,by rw[bc z];exact g8,by lia⟩
   generalize upd H8 a (.lst (za++[V.non]))=H9 at s9 t9 g9 ⊢;obtain ⟨zg,g9,lg9⟩:=g9;exists ⟨.inl ⟨rfl,_,bB.of g9⟩,?_⟩;exists fZ g9 (cS (by lia)) ?_;exists k _ (s9.after ng0)
 ·have s06:=s05.trans s6;have na0:=s05.none na;have lw:=NO.lw;exists ⟨_,_,rR,_,_,by decide,(G45.same s6).kind,(Gp.same s06).kind,?_⟩;rw[decide_eq_true rfl];exists ⟨_,_,rR,_,_,by decide,(G5.same s6).kind,(Gl.same s06).kind,?_⟩;rw[decide_eq_true rfl];exists Ou (.tup gt) (.inr (.inr (.inr rfl))) ?_;rw[show tyB "tuple" (.ref t) H6=true by unfold tyB;dsimp only;rw[gt];rfl];exists ⟨t,_,rfl,.inr (mL.of gt),?_⟩;walk_at "w";rw[decide_eq_false (show ¬((([V.str (Str.ofString "none"),V.ref a].length:Nat):Int) < 2) from λz=>absurd (show (2:Int) < 2 from z) (by decide))];walk_at "w";rw[decide_eq_false (show ¬(Str.ofString "none"=Str.ofString "any") by decide)];walk_at "w";rw[decide_eq_true rfl];exists ⟨r,t,p,l,a,tt,e,H1,H2,H3,_,mv,pt,lk,pus,L9,ws,rfl,PQ.same s06,D,Gp.same s06,Gl.same s06,Z5,gt,Ga,NO,LN ws NO,λH7 s7=>?_⟩;have s07:=s06.trans s7;have gt7:=s7 _ _ gt;obtain ⟨us,gu,qu,nu⟩:=Ga.same s7;have lu:=qu.length;exists ⟨⟨_,bB.of gu⟩,?_⟩;refine gL (K:=K) (a:=a) (xs:=us) (λi σ' H'=>aB H H'/\H' a=some (.lst us)/\H' t=some (.tup [.str (Str.ofString "none"),.ref a])/\(∀y∈us,∃q zs,y=V.ref q/\H q=none/\q≠a/\q≠t/\H' q=some (.lst zs)/\zs.length<=20+i)/\∃y1,σ'=[some (.ref x),some (.ref r),some (.ref p),some (.ref l),some (.ref p4),some (.ref l5),some (.ref t),y1]) ⟨s07,gu,gt7,λy hy=>?_,_,rfl⟩ (λi σ' H' _ ⟨_,g,_⟩=>bB.of g) ?_ ?_
  ·obtain ⟨xs,mx,q,rfl,nq,zs,gz,qz⟩:=dE qu hy;have:=qz.length;have:=NO.ww xs mx;exact ⟨q,zs,rfl,s05.none nq,λz=>nu (by rw[<- z];exact hy),λz=>(by rw[z,gt7] at gz;cases gz),gz,by lia⟩
  ·rintro i v σ' H8 hv ⟨s8,g8,t8,hq,y1,rfl⟩;have hi:i < us.length:=(az.mp hv).1;obtain ⟨q,zs,rfl,nq,qg,qt,gq,lz⟩:=hq v (ak hv);exists ⟨.inl ⟨rfl,_,bB.of gq⟩,?_⟩;exists fZ gq (cS (by lia)) ?_;refine ⟨s8.after nq,by rw[bc (Ne.symm qg)];exact g8,by rw[bc (Ne.symm qt)];exact t8,λy hy=>?_,_,rfl⟩;obtain ⟨q2,zs2,rfl,nq2,qg2,qt2,gq2,lz2⟩:=hq y hy;by_cases z:q2=q
   ·exact ⟨q2,zs++[.non],rfl,nq2,qg2,qt2,by rw[z,aD],by rw[ai,aQ];lia⟩
   ·exact ⟨q2,zs2,rfl,nq2,qg2,qt2,by rw[bc z];exact gq2,by lia⟩
  ·rintro σ' H8 ⟨s8,g8,t8,_,y1,rfl⟩;exists ⟨.inl ⟨rfl,_,bB.of g8⟩,?_⟩;exists fZ g8 (cS (by lia)) ?_;exists k2 ws _ NO (s8.after na0)
theorem F2:sC ["_law_told_here"] 1 ux:=by walk_at "d"
theorem GN (T:Txt K mg Z) (ptree:P.given.tree=none):cD P w K mg base fA 2 Z.AX Z.AB ["_law_told_here"] (EC K):=by
 have c6:=iX (P:=P) (w:=w) (base:=base) T ptree;refine T.mT.F.k F2 ?_;walk_at "i";obtain ⟨v,H0,mv,pt,lk,pus,L9,tt,e,rfl,D,Z5,TO,k⟩:=h
 refine ⟨_,(ao (cV (aV fo (aL bu bP aj) nI (be _)) (ax (aK (dm (tG (aL bu bP aj) (fz mU (by rfl) T.list PyProof.Rows.boot_list (dc (aL bu bP aj))) (cE c6 hr T.dg (dc (aL bu bP aj))))))) bK)
  (ax (aK (dm (cR (aL bu bP aj) (cE c6 hr T.dg (dc (aL bu bP aj)))))))),?_⟩
 walk_at "s";have d8:=D.n8;cases TO with
 | any t a g y Hd gt Ra Gg TL =>
  obtain ⟨wH,lH,_,_⟩:=TL.un.szn Z5.v.un.e1;have ly:=TL.ly;obtain ⟨va,ga,qa⟩:=id Ra;walk_at "w";rw[decide_eq_true rfl];exists ⟨a,va,rfl,.inl (bB.of ga),λl1 hl1=>?_⟩;have s1:aB H (upd H l1 (.lst va)):=aB.new hl1;have g1:(upd H l1 (.lst va)) l1=some (.lst va):=aD;generalize upd H l1 (.lst va)=H1 at s1 g1 ⊢;have gt1:=s1 _ _ gt;exists ⟨g,H0,Hd,rfl,Gg.same s1,by lia,λxs hx=>by rw[wH xs hx];lia,λr2 H2 n2 s2 G2=>?_⟩;exists cz λtF HF sF gF=>?_
  exact k _ HF ((s1.trans s2).trans sF) (.any tF l1 r2 y Hd gF ⟨va,(s2.trans sF) _ _ g1,Paired.imp' (λ_ _ z=>z.same ((s1.trans s2).trans sF)) qa⟩ ((G2.weakN λq h=>s1.none h).same sF) TL)
 | none t a ws gt Ga NO =>
  have lw:=NO.lw;have t12:=Z5.t12;have o4:=D.o4;walk_at "w";rw[decide_eq_false (show ¬(Str.ofString "none"=Str.ofString "any") by decide)];exists ⟨a,H0,ws,rfl,Ga,by lia,λxs hx=>by rw[NO.ww xs hx];lia,λr2 H2 n2 s2 G2=>?_⟩;exists cz λtF HF sF gF=>?_
  exact k _ HF (s2.trans sF) (.none tF r2 ws gF (G2.same sF) NO)
theorem m9:sC ["_law_script","_law_bag_here","_law_parts_here","_law_wide","_law_system_here","_law_turn","_law_start","_law_puts_here","_law_looks_here","_law_other","_law_kept_here"] 1 Oi:=by walk_at "d"
theorem T4 (T:Txt K mg Z) (ptree:P.given.tree=none):cD P w K mg base fA 12 Z.SK Z.SI ["_law_script"] (BW K):=by
 have Ld:=Ja (P:=P) (w:=w) (base:=base) T ptree;have HW:=D4 (P:=P) (w:=w) (base:=base) T ptree;have Eg:=CJ (P:=P) (w:=w) (base:=base) T ptree;have gR:=l8 (P:=P) (w:=w) (base:=base) T ptree;have JQ:=GB (P:=P) (w:=w) (base:=base) T ptree;have kK:=o9 (P:=P) (w:=w) (base:=base) T ptree;have DB:=A9 (P:=P) (w:=w) (base:=base) T ptree;have vf:=Gy (P:=P) (w:=w) (base:=base) T ptree;have A0:=GN (P:=P) (w:=w) (base:=base) T ptree;have yQ:=EK (P:=P) (w:=w) (base:=base) T ptree;have c6:=iX (P:=P) (w:=w) (base:=base) T ptree;refine T.SS.k m9 ?_;walk_at "i";obtain ⟨a,ns,rfl,hS,hlen,k⟩:=h
 refine ⟨_,(ao (eK 1 m9.nd (cE Ld hr T.uK (dc bP)))
  (ao (fG (cE HW hr T.pI (dc cL)) (o6 rfl (b6 (dX 2 m9.nd) (b6 (dX 3 m9.nd) gE))))
  (ao (eK 4 m9.nd (cE Eg hr T.nX (dc dS)))
  (ao (dw PassesOwn.never rfl (cp rfl T.range (dc aj)) (dX 5 m9.nd)
   (ao (eK 6 m9.nd (cE gR hr T.ij (tG cL (bo aM (by rfl) T.len aJ (dc (aL bu dS aj))) iu)))
  (ao (eK 7 m9.nd (cE JQ hr T.rK (tG cL dS iu)))
  (ao (eK 8 m9.nd (cE kK hr T.jx (tG dS nG zK)))
  (ao (eK 9 m9.nd (cE DB hr T.mB (JX cL IT (bo aM (by rfl) T.len aJ (dc (aL bu dS aj))) iu)))
  (jc (cV (aV OG (cE vf hr T.ks (JX m5 dS zK Q3)) k9 (be _)) (ax (aK lZ)) bK)
  (ao (eK 10 m9.nd (cE A0 hr T.mT (dc (cE yQ hr T.pX (tG m5 (cE c6 hr T.dg (dc zK)) (cE c6 hr T.dg (dc Q3)))))))
  (ao (cV (PW.pt (kR (aV (uE (xj hr)) (cE vf hr T.ks (JX m5 dS zK IT)) nI (be _)) (jq (aV OG (cE vf hr T.ks (JX m5 dS zK Q3)) k9 (be _))))) (ax (aK lZ)) bK)
  (ax (cV (aV (uE (xj hr)) (cE A0 hr T.mT (dc (cE yQ hr T.pX (tG m5 zK Q3)))) (pv 10) (be _)) (ax (aK lZ)) bK))))))))))
  (ax (aK lZ)))))),?_⟩
 walk_at "s";exists ⟨a,ns,rfl,hS,hlen,λb H0 hb0 B0 s0=>?_⟩;exists ⟨b,rfl,B0,λt r w mv pt lk H1 g1 PQ D F G w1 wk B1 u1=>?_⟩;have d8:=D.n8;have o4:=D.o4;have i4:=D.i4;exists ⟨r,H0,mv,pt,lk,rfl,PQ,D,F.sf,λx H2 nx s2 S=>?_⟩;have P2:=PQ.same s2;have B2:=B1.same s2;exists ⟨by decide,by decide,?_⟩;refine dZ (n:=2) (λi σ' H'=>iM H' b/\df b H2 H'/\∃y1 y2 y3 y4 y5 y6,σ'=[some (.ref a),some (.ref b),some (.ref r),some (.int w),some (.ref x),y1,y2,y3,y4,y5,y6]) ⟨B2,(aB.refl _).upto,_,_,_,_,_,_,rfl⟩ ?_ ?_
 ·rintro i σ' H' hi ⟨B',u',y1,y2,y3,y4,y5,y6,rfl⟩;have S':=S.upto u' B2 B1.at;have P':=P2.upto u' B2 B0.at;obtain ⟨m,p,l,gt,mn,pn,ln,Gm,Gp,Gl⟩:=id P';obtain ⟨um,gm,qm,_⟩:=id Gm;have lum:=qm.length;exists ⟨_,_,rfl,.inl (bB.of gm),?_⟩;rw[<- lum];clear gm qm lum Gm Gp Gl gt mn pn ln;exists ⟨b,mv.length,w,rfl,B',by lia,w1,by lia,λs st H8 ns Rs ls ds B8 u8=>?_⟩;have sb:s≠b:=λz=>B'.at (by rw[<- z];exact ns)
  exists ⟨b,r,w,H0,mv,pt,lk,rfl,B8,B0.at,P'.upto u8 B' B0.at,D,w1,wk,λp pus tt H9 np Gp DP St B9 u9=>?_⟩;have u89:=u8.trans u9;have pb:p≠b:=λz=>B8.at (by rw[<- z];exact np)
  have P9:=P'.upto u89 B' B0.at;have S9:=S'.upto u89 B' B1.at;have t12:=St.1;obtain ⟨e,LF,ZZ⟩:=Te G D St ls ds DP;have wp:∀xs∈pus,xs.length=pt.length:=λxs hx=>(DP.2 xs hx).1
  have lp:pus.length=tt:=DP.1;have ll:(xh mv pt lk st pus).length=tt:=by unfold xh;rw[ag,bL,lp]
  have wl:∀xs∈xh mv pt lk st pus,xs.length=lk.length:=λxs hx=>by
   unfold xh at hx;obtain ⟨t,_,rfl⟩:=aw.mp hx;rw[ag]
  have Z0:=ZZ _ ll wl .refl;exists ⟨r,s,p,H0,_,mv,pt,lk,pus,st,rfl,P9,D,Rs.upto u9 B8 sb,ls,Gp,by lia,wp,LF,λlq HA nl sA Gl=>?_⟩;have lqb:lq≠b:=λz=>B9.at (by rw[<- z];exact nl)
  have PA:=P9.same sA;have BA:=B9.same sA;obtain ⟨m',p',l',gt,mn,pn,ln,Gm,Gp',Gl'⟩:=id PA;obtain ⟨ul,gl',ql',_⟩:=id Gl';have lul:=ql'.length;exists ⟨_,_,rfl,.inl (bB.of gl'),?_⟩;rw[<- lul];clear gl' ql' lul Gm Gp' Gl' gt mn pn ln;exists ⟨b,lq,lk.length,w,_,_,rfl,BA,Gl,by lia,λxs hx=>⟨wl xs hx,Z0.1.sL xs hx⟩,o4,w1,by lia,λc L9 HB nc Gc lc wc ch BB uB=>?_⟩;have Z9:=ZZ L9 (by lia) wc ch;have uAB:df b H' HB:=(u89.same sA).trans uB;have SB:=S'.upto uAB B' B1.at;have PB:=P'.upto uAB B' B0.at;have GpB:=(Gp.same sA).upto uB BA pb B8.at;have GlB:=Gl.upto uB BA lqb B9.at;clear S' P' S9 P9 PA Gp Gl Rs;exists ⟨λσ' H''=>aB HB H''/\σ'=[some (.ref a),some (.ref b),some (.ref r),some (.int w),some (.ref x),some (.int i),some (.ref s),some (.ref p),some (.ref lq),some (.ref c),y6],?_,?_⟩
  ·exists NQ SB PB D F GpB Gc Z9 λv HC sC=>?_
   exists ⟨rfl,_,rfl,?_⟩;rw[decide_eq_false (show ¬V.str v=V.non from λz=>nomatch z)];exists ⟨sC,rfl⟩
  rintro σ' HC ⟨sC,rfl⟩;have SC:=SB.same sC;have PC:=PB.same sC;have GpC:=GpB.same sC;have GlC:=GlB.same sC;have GcC:=Gc.same sC;exists ⟨p,_,pus,rfl,GpC,by lia,λxs hx=>by rw[wp xs hx];lia,λp4 H4 n4 s4 G4=>?_⟩;exists ⟨c,_,L9,rfl,GcC.same s4,by lia,λxs hx=>by rw[wc xs hx];lia,λl5 H5 n5 s5 G5=>?_⟩;have s45:=s4.trans s5;exists N5 (SC.same s45) D F (G4.same s5) G5 Z9.1 λv H6 s6 T6=>?_
  exists ⟨v,_,mv,pt,lk,pus,L9,tt,e,rfl,D,Z9.1,T6,λv7 H7 s7 T7=>?_⟩;have sC7:=(s45.trans s6).trans s7;have GpZ:=GpC.same sC7;have GcZ:=GcC.same sC7;have SZ:=SC.same sC7;exists ⟨x,r,p,lq,tt,e,_,_,_,_,mv,pt,lk,pus,_,rfl,SZ,PC.same sC7,D,F,GpZ,GlC.same sC7,Z0.1,Z0.2.1,Z0.2.2,λH8 s8=>?_,λws _ NO _=>(NO.looks D ls lp wp).elim⟩;exists ⟨_,_,Uh,_,_,by decide,rfl,rfl,?_⟩;rw[decide_eq_true rfl];exists NQ (SZ.same s8) (PC.same (sC7.trans s8)) D F (GpZ.same s8) (GcZ.same s8) Z9 λv9 H9 s9=>?_
  exists ⟨rfl,_,rfl,?_⟩;rw[decide_eq_false (show ¬V.str v9=V.non from λz=>nomatch z)];have s79:=s8.trans s9;exists N5 (SZ.same s79) D F (GpZ.same s79) (GcZ.same s79) Z9.1 λvA HE sE TE=>?_
  exists ⟨vA,_,mv,pt,lk,pus,L9,tt,e,rfl,D,Z9.1,TE,λvF HF sF TF=>?_⟩;exists TF.eq D (T7.same ((s79.trans sE).trans sF)) ?_;walk_at "w";have sBF:=(((sC.trans sC7).trans s79).trans sE).trans sF;exact ⟨BB.same sBF,(u'.trans uAB).same sBF,_,_,_,_,_,_,rfl⟩
 rintro σ' H' ⟨B',u',y1,y2,y3,y4,y5,y6,rfl⟩;exists k _
end
theorem ln1 {P:List Value->Prop} (h:∀x0,P [x0]):∀us:List Value,us.length=1->P us
 | [x0],_=>h x0
theorem ln2 {P:List Value->Prop} (h:∀x0 x1,P [x0,x1]):∀us:List Value,us.length=2->P us
 | [x0,x1],_=>h x0 x1
theorem ln3 {P:List Value->Prop} (h:∀x0 x1 x2,P [x0,x1,x2]):∀us:List Value,us.length=3->P us
 | [x0,x1,x2],_=>h x0 x1 x2
theorem ln4 {P:List Value->Prop} (h:∀x0 x1 x2 x3,P [x0,x1,x2,x3]):∀us:List Value,us.length=4->P us
 | [x0,x1,x2,x3],_=>h x0 x1 x2 x3
theorem ln5 {P:List Value->Prop} (h:∀x0 x1 x2 x3 x4,P [x0,x1,x2,x3,x4]):∀us:List Value,us.length=5->P us
 | [x0,x1,x2,x3,x4],_=>h x0 x1 x2 x3 x4
local macro_rules | `(tactic| walk_at "b") => `(tactic| (intro _ _ _ _ _ _; first | (refine ln1 ?_; intros; rfl) | (refine ln2 ?_; intros; rfl) | (refine ln3 ?_; intros; rfl) | (refine ln4 ?_; intros; rfl) | (refine ln5 ?_; intros; rfl)))
theorem all_mk {l:W.OpenLaw} {K:W.Frag} {e0 e1 e2 e3 e4 e5 e6 e7 e8 e9 e10 e11 e12 e13 e14 e15 e16 e17 e18 e19 e20 e22 e23 e24 e25 e26 e27 e28 e29 e30 e31 e32 e33 e34 e35 e36 e38 e40 e41 e42 e43 e44 e45 e46 e47 e48 e49 e50 e51 e52 e53 e55 e56 e57 e58 e59 e60 e61 e62 e63 e64 e65 e66 e67 e68 e69 e70 e71 e72 e73 e74 e75 e76 e77 e78 e79 e80 e81 e82 e83 e84 e85:FuncData}
 
  (X:K.In h) (G:h.Ns mainGlobals mg) (hfa:mg "law"=some (.ref fa)) (htree:l.prog.given.tree=none)
 (aC:W.nsIn K mainGlobals "System"=some (some (.ref C)))
  (h0:Dh K "_law_bag" wV f0 e0)
  (h1:Dh K "_law_take" ug f1 e1)
  (h2:Dh K "_law_low" wQ f2 e2)
  (h3:Dh K "_law_sum" wN f3 e3)
  (h4:Dh K "_law_plus" uo f4 e4)
  (h5:Dh K "_law_prod" uj f5 e5)
  (h6:Dh K "_law_by" zI f6 e6)
  (h7:Dh K "_law_mixed" qX f7 e7)
  (h8:Dh K "_law_line" uv f8 e8)
  (h9:Dh K "_law_sizes" mO f9 e9)
  (h10:Dh K "_law_number" oY f10 e10)
  (h11:Dh K "_law_row" wO f11 e11)
  (h12:Dh K "_law_move" uu f12 e12)
  (h13:Dh K "_law_parts" qW f13 e13)
  (h14:Dh K "_law_drawn" rg f14 e14)
  (h15:Dh K "want_list" tW f15 e15)
  (h16:Dh K "is_whole" wM f16 e16)
  (h17:Dh K "common_divisor" kX f17 e17)
  (h18:Dh K "is_number" uc f18 e18)
  (h19:Dh K "is_row" Cm f19 e19)
  (h20:Dh K "copied_rows" oW f20 e20)
  (a21:W.findIn K (.ref C) "__init__"=some (some (.ref f21))) (i21:W.isFn K (.ref f21)=true) (l21:K.lookup f21=some ⟨oc21,od21,.func (W.fnOf "__init__" "System.__init__" (kC eN) (iL eN) (dY eN) .none kV21 dc21 pm21 an21 cd21 ct21),sl21⟩) (c21:W.codeIn K cd21 "System.__init__"=true) (k21:W.keepIn K (.ref f21)=true)
  (h22:Dh K "_law_copied" o3 f22 e22)
  (h23:Dh K "_law_system" oX f23 e23)
  (h24:Dh K "_law_steps" qV f24 e24)
  (h25:Dh K "_law_puts" ui f25 e25)
  (h26:Dh K "_law_dot" wU f26 e26)
  (h27:Dh K "_law_on" zH f27 e27)
  (h28:Dh K "_law_next" uq f28 e28)
  (h29:Dh K "_law_looks" qZ f29 e29)
  (h30:Dh K "_law_changed" nF f30 e30)
  (h31:Dh K "common_multiple" kg f31 e31)
  (h32:Dh K "common_bottom" mo f32 e32)
  (h33:Dh K "tops_over" tX f33 e33)
  (h34:Dh K "lowest" Ck f34 e34)
  (h35:Dh K "row_dot" zB f35 e35)
  (h36:Dh K "grid_on" zF f36 e36)
  (a37:W.findIn K (.ref C) "seen"=some (some (.ref f37))) (i37:W.isFn K (.ref f37)=true) (l37:K.lookup f37=some ⟨oc37,od37,.func (W.fnOf "seen" "System.seen" (kC iE) (iL iE) (dY iE) .none kV37 dc37 pm37 an37 cd37 ct37),sl37⟩) (c37:W.codeIn K cd37 "System.seen"=true) (k37:W.keepIn K (.ref f37)=true)
  (h38:Dh K "grid_turned" oU f38 e38)
  (a39:W.findIn K (.ref C) "moved"=some (some (.ref f39))) (i39:W.isFn K (.ref f39)=true) (l39:K.lookup f39=some ⟨oc39,od39,.func (W.fnOf "moved" "System.moved" (kC gY) (iL gY) (dY gY) .none kV39 dc39 pm39 an39 cd39 ct39),sl39⟩) (c39:W.codeIn K cd39 "System.moved"=true) (k39:W.keepIn K (.ref f39)=true)
  (h40:Dh K "course" Cn f40 e40)
  (h41:Dh K "looks_along" oT f41 e41)
  (h42:Dh K "nought_row" qR f42 e42)
  (h43:Dh K "minus" F7 f43 e43)
  (h44:Dh K "row_minus" tZ f44 e44)
  (h45:Dh K "first_with" qT f45 e45)
  (h46:Dh K "cleared" zG f46 e46)
  (h47:Dh K "brought_up" qU f47 e47)
  (h48:Dh K "swept" F4 f48 e48)
  (h49:Dh K "solved" Cj f49 e49)
  (h50:Dh K "solve" F5 f50 e50)
  (h51:Dh K "flat" Kq f51 e51)
  (h52:Dh K "moved_rows" qS f52 e52)
  (h53:Dh K "additions" ue f53 e53)
  (a54:W.findIn K (.ref C) "turned"=some (some (.ref f54))) (i54:W.isFn K (.ref f54)=true) (l54:K.lookup f54=some ⟨oc54,od54,.func (W.fnOf "turned" "System.turned" (kC fY) (iL fY) (dY fY) .none kV54 dc54 pm54 an54 cd54 ct54),sl54⟩) (c54:W.codeIn K cd54 "System.turned"=true) (k54:W.keepIn K (.ref f54)=true)
  (h55:Dh K "cut" Oj f55 e55)
  (h56:Dh K "reduced" zC f56 e56)
  (h57:Dh K "reach_grown" oS f57 e57)
  (h58:Dh K "reach_rows" qQ f58 e58)
  (h59:Dh K "unit_row" wK f59 e59)
  (h60:Dh K "leading_place" mi f60 e60)
  (h61:Dh K "leading" zE f61 e61)
  (h62:Dh K "null_at" zD f62 e62)
  (h63:Dh K "free_places" oV f63 e63)
  (h64:Dh K "nulls" F6 f64 e64)
  (h65:Dh K "unseen_rows" oR f65 e65)
  (h66:Dh K "times" F3 f66 e66)
  (h67:Dh K "row_times" tY f67 e67)
  (h68:Dh K "without" zA f68 e68)
  (h69:Dh K "starts" Ci f69 e69)
  (h70:Dh K "_law_is_number" kZ f70 e70)
  (h71:Dh K "_law_is_row" oZ f71 e71)
  (h72:Dh K "_law_is_grid" nE f72 e72)
  (h73:Dh K "_law_quot" uh f73 e73)
  (h74:Dh K "_law_less" uw f74 e74)
  (h75:Dh K "_law_minus" qY f75 e75)
  (h76:Dh K "_law_reduced" nk f76 e76)
  (h77:Dh K "_law_unseen_right" jo f77 e77)
  (h78:Dh K "_law_look_rows" kY f78 e78)
  (h79:Dh K "_law_leads" rd f79 e79)
  (h80:Dh K "_law_any_right" k6 f80 e80)
  (h81:Dh K "_law_noughts" nv f81 e81)
  (h82:Dh K "_law_none_right" kh f82 e82)
  (h83:Dh K "_law_told" uf f83 e83)
  (h84:Dh K "_law_kept" ux f84 e84)
  (h85:Dh K "law" Oi f85 e85)
 (ca0:W.nsIn K mainGlobals "NOUGHT"=some (some (.ref m0))) (cl0:K.lookup m0=some ⟨.type "tuple",mo0,.seq #[.int 0 mt0_0,.int 1 mt0_1] mn0,ms0⟩)
 (ca1:W.nsIn K mainGlobals "ONE"=some (some (.ref m1))) (cl1:K.lookup m1=some ⟨.type "tuple",mo1,.seq #[.int 1 mt1_0,.int 1 mt1_1] mn1,ms1⟩)
 (ci0:W.nsIn K mainGlobals "MOST_STATES"=some (some (.int 8 it0)))
 (ci1:W.nsIn K mainGlobals "MOST_PUTS"=some (some (.int 4 it1)))
 (ci2:W.nsIn K mainGlobals "MOST_LOOKS"=some (some (.int 4 it2)))
  (pg:W.plainGet K C Str.empty=true) (hd:W.hasDictIn K C=true) (po:W.plainOver K C=true) (sa:W.findIn K (.ref C) "__setattr__"=some (some (.builtin "object.__setattr__"))) (mk:W.makesIn K C=true) (kc:W.keepIn K (.ref C)=true)
  (n_move:W.findIn K (.ref C) "move"=some none)
  (n_states:W.findIn K (.ref C) "states"=some none)
  (n_put:W.findIn K (.ref C) "put"=some none)
  (n_ins:W.findIn K (.ref C) "ins"=some none)
  (n_look:W.findIn K (.ref C) "look"=some none)
  (n_outs:W.findIn K (.ref C) "outs"=some none)
  (z_abs:W.nsIn K mainGlobals "abs"=some none)
  (z_len:W.nsIn K mainGlobals "len"=some none)
  (z_range:W.nsIn K mainGlobals "range"=some none)
  (z_int:W.nsIn K mainGlobals "int"=some none)
  (z_min:W.nsIn K mainGlobals "min"=some none)
  (z_isinstance:W.nsIn K mainGlobals "isinstance"=some none)
  (z_list:W.nsIn K mainGlobals "list"=some none)
  (z_bool:W.nsIn K mainGlobals "bool"=some none)
  (z_tuple:W.nsIn K mainGlobals "tuple"=some none)
  (z_all:W.nsIn K mainGlobals "all"=some none)
  (z_enumerate:W.nsIn K mainGlobals "enumerate"=some none)
  (z_zip:W.nsIn K mainGlobals "zip"=some none)
  (z_sum:W.nsIn K mainGlobals "sum"=some none)
  : ∃fd:FuncData,(∀(s:Shared) (v:Value),BindsTo s fd ⟨[v],[]⟩ [("_law_script",v)])/\∀base:Heap,K.In base->base.Ns mainGlobals mg->cD l.prog w K mg base fA 12 fa fd ["_law_script"] (BW K):=by
 have e:=hfa.symm.trans (W.mg_of X G h85.a);cases e;obtain ⟨_,_,_,_,_,_,_,_,_,rfl,_,_⟩:=h85.F.ex;have F21:=C3 (st:=eN) l21 c21 k21;have F37:=C3 (st:=iE) l37 c37 k37;have F39:=C3 (st:=gY) l39 c39 k39;have F54:=C3 (st:=fY) l54 c54 k54
 have T:Txt K mg ⟨f0,_,f1,_,f2,_,f3,_,f4,_,f5,_,f6,_,f7,_,f8,_,f9,_,f10,_,f11,_,f12,_,f13,_,f14,_,f15,_,f16,_,f17,_,f18,_,f19,_,f20,_,f21,_,f22,_,f23,_,f24,_,f25,_,f26,_,f27,_,f28,_,f29,_,f30,_,f31,_,f32,_,f33,_,f34,_,f35,_,f36,_,f37,_,f38,_,f39,_,f40,_,f41,_,f42,_,f43,_,f44,_,f45,_,f46,_,f47,_,f48,_,f49,_,f50,_,f51,_,f52,_,f53,_,f54,_,f55,_,f56,_,f57,_,f58,_,f59,_,f60,_,f61,_,f62,_,f63,_,f64,_,f65,_,f66,_,f67,_,f68,_,f69,_,f70,_,f71,_,f72,_,f73,_,f74,_,f75,_,f76,_,f77,_,f78,_,f79,_,f80,_,f81,_,f82,_,f83,_,f84,_,fa,_,m0,m1,it0,it1,it2,C⟩:={
  uK:=h0.D X G
  a9:=h1.D X G
  eF:=h2.D X G
  gI:=h3.D X G
  kv:=h4.D X G
  je:=h5.D X G
  i8:=h6.D X G
  lO:=h7.D X G
  rO:=h8.D X G
  pF:=h9.D X G
  nY:=h10.D X G
  ij:=h11.D X G
  rN:=h12.D X G
  pG:=h13.D X G
  pI:=h14.D X G
  kq:=h15.D X G
  oF:=h16.D X G
  gH:=h17.D X G
  rF:=h18.D X G
  zS:=h19.D X G
  iZ:=h20.D X G
  kE:=F21.binds (ps:=["self","move","put","look"]) λ_ _ _ _ _ _=>by refine ln4 ?_;intros;rfl
  oM:=F21
  dg:=h22.D X G
  nX:=h23.D X G
  pC:=h24.D X G
  rK:=h25.D X G
  jV:=h26.D X G
  rL:=h27.D X G
  rM:=h28.D X G
  jx:=h29.D X G
  mB:=h30.D X G
  jP:=h31.D X G
  gZ:=h32.D X G
  kr:=h33.D X G
  lh:=h34.D X G
  rC:=h35.D X G
  rG:=h36.D X G
  uM:=⟨a37,i37,k37⟩
  vX:=F37.binds (ps:=["self","state"]) λ_ _ _ _ _ _=>by refine ln2 ?_;intros;rfl
  wC:=F37
  iY:=h38.D X G
  sO:=⟨a39,i39,k39⟩
  uU:=F39.binds (ps:=["self","state","puts"]) λ_ _ _ _ _ _=>by refine ln3 ?_;intros;rfl
  vh:=F39
  zT:=h40.D X G
  nU:=h41.D X G
  jv:=h42.D X G
  xX:=h43.D X G
  mS:=h44.D X G
  pA:=h45.D X G
  xg:=h46.D X G
  pB:=h47.D X G
  xW:=h48.D X G
  vo:=h49.D X G
  CQ:=h50.D X G
  Br:=h51.D X G
  lN:=h52.D X G
  rH:=h53.D X G
  lD:=⟨a54,i54,k54⟩
  mE:=F54.binds (ps:=["self"]) λ_ _ _ _ _ _=>by refine ln1 ?_;intros;rfl
  sV:=F54
  KI:=h55.D X G
  nQ:=h56.D X G
  nR:=h57.D X G
  ph:=h58.D X G
  uJ:=h59.D X G
  lB:=h60.D X G
  nV:=h61.D X G
  xf:=h62.D X G
  nW:=h63.D X G
  CS:=h64.D X G
  nP:=h65.D X G
  CP:=h66.D X G
  rB:=h67.D X G
  xc:=h68.D X G
  pX:=h69.D X G
  ky:=h70.D X G
  kx:=h71.D X G
  jF:=h72.D X G
  rJ:=h73.D X G
  rP:=h74.D X G
  jw:=h75.D X G
  jE:=h76.D X G
  i5:=h77.D X G
  iK:=h78.D X G
  pH:=h79.D X G
  kz:=h80.D X G
  iC:=h81.D X G
  jQ:=h82.D X G
  ks:=h83.D X G
  mT:=h84.D X G
  SS:=h85.F
  abs:=W.mg_none_of X G z_abs
  len:=W.mg_none_of X G z_len
  range:=W.mg_none_of X G z_range
  int:=W.mg_none_of X G z_int
  min:=W.mg_none_of X G z_min
  isinstance:=W.mg_none_of X G z_isinstance
  list:=W.mg_none_of X G z_list
  bool:=W.mg_none_of X G z_bool
  tuple:=W.mg_none_of X G z_tuple
  all:=W.mg_none_of X G z_all
  enumerate:=W.mg_none_of X G z_enumerate
  zip:=W.mg_none_of X G z_zip
  sum:=W.mg_none_of X G z_sum
  mg_NOUGHT:=W.mg_of X G ca0
  sq_NOUGHT:=λH=>.inr ⟨_,_,_,cl0,rfl,rfl,j6 rfl,.cons ⟨_,rfl⟩ (.cons ⟨_,rfl⟩ (.nil))⟩
  mg_ONE:=W.mg_of X G ca1
  sq_ONE:=λH=>.inr ⟨_,_,_,cl1,rfl,rfl,j6 rfl,.cons ⟨_,rfl⟩ (.cons ⟨_,rfl⟩ (.nil))⟩
  mg_MOST_STATES:=W.mg_of X G ci0
  mg_MOST_PUTS:=W.mg_of X G ci1
  mg_MOST_LOOKS:=W.mg_of X G ci2
  mg_System:=W.mg_of X G aC
  cl_System:=⟨pg,hd,po,sa⟩
  na_move:=n_move
  na_states:=n_states
  na_put:=n_put
  na_ins:=n_ins
  na_look:=n_look
  na_outs:=n_outs
  mk_System:=⟨mk,a21,i21,kc⟩ }
 exact ⟨_,λs v=>.of_eq rfl,λbase _ _=>T4 T htree⟩
theorem walk {l:W.OpenLaw} {K:Params->W.Frag} (hn:l.most=some 63) (hdf:d.params.defaults=[])
  (hi:PyProof.Rows.importsNone q=true)
  (hY:∀(w:World) (h:Heap),YP w h->(K w.params).In h)
  (F:∀(w:World) (mg:Str->Option Value) (fa:Addr) (h:Heap),(K w.params).In h->h.Ns mainGlobals mg->mg d.name=some (.ref fa) →
   ∃fd:FuncData,(∀(s:Shared) (u:Value),BindsTo s fd ⟨[u],[]⟩ [("_law_script",u)])/\∀base:Heap,(K w.params).In base->base.Ns mainGlobals mg->cD l.prog w (K w.params) mg base fA 12 fa fd ["_law_script"] (BW (K w.params))) :
  W.WalkO q loose XP YP l.row.toRowW d [] (λf vs=>PySem.call f vs) :=
 L2.Qm (n:=63) (k:=12) (x:="_law_script") (CX:=λ_=>fA) (sp:=λw=>BW (K w.params)) hn (by decide) hdf ⟨rfl,by decide,by decide⟩ hi hY F (λ_ _ a ns hl _ hS=>⟨a,ns,rfl,hS,hl,λ_=>rfl⟩) λ_ _ _ _ _ z=>z
end Lw
namespace PySem.W.Fast
def tw299153960792714491:=()
def tw13924117391125211300:=()
def tw7432182190598779054:=()
def tw9616685935543534166:=()
def tw16323645082330461788:=()
def tw18030305100999248456:=()
def tw11906587436140150563:=()
def tw17405751165380715157:=()
def tw11275622368640070228:=()
def tw1628821854623864920:=()
def tw14149369334876968918:=()
def tw11684090918612642644:=()
def tw9833199765918446930:=()
def tw17603034299121981328:=()
def tw13890087287505941936:=()
def tw2138171367389327491:=()
def tw12531752349692494732:=()
def tw6168757372576055800:=()
def tw9091320657688826707:=()
def tw9625562031431074110:=()
def tw11283047640701101316:=()
def tw6082197430783758850:=()
def tw1811694386986902839:=()
def tw16659809796619862218:=()
def tw7051746793236419138:=()
def tw13584635347077592506:=()
def tw72498765389675053:=()
def tw16217309359828655424:=()
def tw8306935755076646425:=()
def tw13987229896549798554:=()
def tw13751122384520598939:=()
def tw7293075950020092522:=()
def tw16735753010259051632:=()
def tw5325538130833426969:=()
def tw14786665594414449950:=()
def tw17525215099181465841:=()
def tw3692733485877373666:=()
def tw13518430235142361647:=()
def tw12079805183032723570:=()
def tw12576425926566005867:=()
def tw868060845654604560:=()
def tw4472336693051597312:=()
def tw15408971139384393712:=()
def tw8272352098239616640:=()
def tw5419266635643587443:=()
def tw3220407739380581669:=()
def tw10164140416661888297:=()
def tw13795940154489380953:=()
def tw128202816014644710:=()
def tw3548085460009531324:=()
def tw5268852438839355020:=()
def tw12287367145158825459:=()
def tw2665560646435198840:=()
def tw13731246255180883554:=()
def tw5784821171040238169:=()
def tw12594301607033178739:=()
def tw16444644435507249337:=()
def tw13935508000886575890:=()
def tw8391762564295139951:=()
def tw17009178155180947927:=()
def tw5168263695507791629:=()
def tw8549107562665091130:=()
def tw12698861362363112869:=()
def tw13552122451929907304:=()
def tw4730256908907633373:=()
def tw13088545046267310352:=()
def tw9346647436355424286:=()
def tw7625220959156442349:=()
def tw12004606432801494053:=()
def tw682947818672318185:=()
def tw9034354620595867250:=()
def tw449717158382268955:=()
def tw10848511248509135595:=()
def tw13006831980791135691:=()
def tw524820951157560006:=()
def tw1970944740605968604:=()
def tw5477356121856690822:=()
def tw16463165185498456901:=()
def tw16560846148753048772:=()
def tw17981912955958972754:=()
def tw17323372740765461134:=()
def tw11051909338587482960:=()
def tw8362874048637603884:=()
def tw10022939777760180769:=()
def tw17641668828152267693:=()
def tw4161432324387757920:=()
def tw14709421508520058332:=()
def tw990959339600848347:=()
def tw9121625264502331647:=()
def tw9040331011896353326:=()
def tw3506883241001809707:=()
def tw12307564485430095127:=()
def tw7226010342156055785:=()
def tw8815881706967840086:=()
def tw10814853718767614455:=()
def tw7423812110813356953:=()
def tw16708082149515852014:=()
def tw10489138285085635585:=()
def tw7039619550640246419:=()
def tw6142257169460680999:=()
def tw2420279955234279122:=()
def tw7196335979812044911:=()
def tw10652185975964201993:=()
def tw5536614247840631786:=()
def tw15473098067106688362:=()
def tw1952196192871784022:=()
def tw9383603041914548540:=()
def tw15783991341335691934:=()
def tw10005254834039486095:=()
def tw12005811300239220662:=()
def tw13547686331676588356:=()
def tw18308926629740150665:=()
def tw2878117963214385326:=()
def tw5930700101169961053:=()
def tw4011480183960659951:=()
def tw2144952935491418203:=()
def tw8148719221226437594:=()
def tw14570568186438330045:=()
def tw5685809291125526188:=()
def tw8253440184297569506:=()
def tw2957103816667946683:=()
def tw2063671521053542487:=()
def tw7176982939915465183:=()
def tw2084358596811113830:=()
def tw13109499625735685105:=()
def tw4268631002768425447:=()
def tw1343841267606228456:=()
def tw8098159509638936802:=()
def tw3737311566999145884:=()
def tw8058922795005533157:=()
def tw2822645081160294077:=()
def tw6921263588628848409:=()
def tw13187684079863589999:=()
def tw5133622585342534998:=()
def tw376715777905703752:=()
def tw764270629377278752:=()
def tw7991729286512760606:=()
def tw3805597081197646657:=()
def tw18021467676535458277:=()
def tw12074578794906292771:=()
def tw1136724155427458462:=()
def tw4570405359811820754:=()
def tw3896952566677996255:=()
def tw13948082842067588991:=()
def tw11545038462455604600:=()
def tw8852591523120292215:=()
def tw14151420950136615438:=()
def tw10231745577981723132:=()
def tw6105551507292278675:=()
def tw6316569061688207881:=()
def tw2453862828087714331:=()
def tw15584994124405408631:=()
def tw10862837160200700375:=()
def tw5063329040858642566:=()
def tw1315874204554563864:=()
def tw11426112311925337342:=()
def tw18097018144291300794:=()
def tw17081143381732943378:=()
def tw15068741649454045244:=()
def tw15979366101271802247:=()
def tw15055601927498363789:=()
def tw156511184638776779:=()
def tw14873548617143874019:=()
def tw11334662601558096839:=()
def tw10287585401654796526:=()
def tw5056215874010874020:=()
def tw630389001253556827:=()
def tw9329665549422439275:=()
def tw1227869082812773020:=()
def tw6761898704219842411:=()
def tw11889678348860849272:=()
def tw13566611886283584024:=()
def tw8701287527890621900:=()
def tw8502920663231022493:=()
def tw4874423611726955135:=()
def tw17337760860547524899:=()
def tw10430093735938463063:=()
def tw6907670449128676502:=()
def tw7011059153491264242:=()
def tw10083695232608619160:=()
def tw5314364965792561874:=()
def tw1405767904481200388:=()
def tw13972278549786906432:=()
def tw14855222795731778954:=()
def tw4551612508666929729:=()
def tw7723861544006966982:=()
def tw12567689302363062139:=()
def tw2973794772291323515:=()
def tw16328134721702890137:=()
def tw6841335133961856929:=()
def tw11095906281256300487:=()
def tw17237706656143927433:=()
def tw14061887165977139564:=()
def tw10723470885992504487:=()
def tw9723971685709931485:=()
def tw3356483530944116934:=()
def tw14311571713076577009:=()
def tw16869902313504822245:=()
def tw6205695670278111033:=()
def tw6065724163353033644:=()
def tw3291131284545077904:=()
def tw9852365472031601138:=()
def tw2714186679651600377:=()
def tw17431572793922280544:=()
def tw15351682157417954627:=()
def tw18124869056657966228:=()
def tw8282582070324554777:=()
def tw17043292775575604263:=()
def tw2220916548693909823:=()
def tw2166016473234855736:=()
def tw9272731156078636693:=()
def tw11922951512758087298:=()
def tw13405183926508929563:=()
def tw2646604261628450758:=()
def tw1925497236643292621:=()
def tw9612716499695158361:=()
def tw2667695971944188413:=()
def tw12091149177574753378:=()
def tw777339493721061151:=()
def tw12860470003215541128:=()
def tw15427534802804465215:=()
def tw13652364094289140216:=()
def tw4251615551357544190:=()
def tw3666849246890945294:=()
def tw1142031305411286005:=()
def tw18302143258869194616:=()
def tw17641536250519042286:=()
def tw9425921013018523634:=()
def tw10225188125537109174:=()
def tw1351637893886020552:=()
def tw10244905284997971232:=()
def tw38890110895395195:=()
def tw17168909281747006024:=()
def tw17740985131509088248:=()
def tw16481355760521821727:=()
def tw16605198588929792917:=()
def tw930410403510182331:=()
def tw938490497203795525:=()
def tw2719708785207195048:=()
def tw4145437363417546726:=()
def tw12264028497629181679:=()
def tw9374752659757567451:=()
def tw5870927484141166763:=()
def tw10399677119124728840:=()
def tw8437416743497928121:=()
def tw2924107963888672342:=()
def tw3431667363732000300:=()
def tw4136116518620478948:=()
def tw7983053482678387361:=()
def tw6037375268374051908:=()
def tw5450481259314154868:=()
def tw9621613817921190246:=()
def tw15377745049761823489:=()
def tw13482840431125841329:=()
def tw2816847276891105413:=()
def tw3446986266536881166:=()
def tw9288463048445459358:=()
def tw132365096710021646:=()
def tw18304744627555158054:=()
def tw11150594382656183923:=()
def tw365861706915213355:=()
def tw13928038857436138785:=()
def tw5061353825097409271:=()
def tw11287600429031802551:=()
def tw997370490493720458:=()
def tw2860707470346403730:=()
def tw10178381562601194243:=()
def tw7464678121830494609:=()
def tw15485445664605626034:=()
def tw9317436505334068701:=()
def tw8349647342650497283:=()
def tw8667763855647562772:=()
def tw577932889950579059:=()
def tw14957021051877975900:=()
def tw17848730366505016153:=()
def tw10993431571322191532:=()
def tw15830009429426549908:=()
def tw6255607641696230296:=()
def tw10488177939286626575:=()
def tw11788138660284210823:=()
def tw4191034350776223080:=()
def tw16230902434434356461:=()
def tw11737723436550754452:=()
def tw10377150593317704977:=()
def tw10190435056530870250:=()
def tw17576434359469294443:=()
def tw18114818410886352123:=()
def tw7123677671349489512:=()
def tw7225628630088585455:=()
def tw421420936447321980:=()
def tw16907355199227691728:=()
def tw1376309396634298922:=()
def tw4215877849418439631:=()
def tw11300217198452788091:=()
def tw17138202992895252045:=()
def tw9007331414083915046:=()
def tw16562572297214184630:=()
def tw13814167048479053525:=()
def tw8135873889672953073:=()
def tw5337349832744768267:=()
def tw12608825203676267245:=()
def tw7759900136609840917:=()
def tw7879491579583521416:=()
def tw5278944648038063933:=()
def tw1977621708614715851:=()
def tw10459200143902383965:=()
def tw3419731056758546935:=()
def tw952479798113765949:=()
def tw11038143530640422824:=()
def tw18364998716396053118:=()
def tw18431174781628238008:=()
def tw9654980347342204301:=()
def tw10701707527715631843:=()
def tw12423714312858583873:=()
def tw16657685254056008694:=()
def tw11208275084795269112:=()
def tw5020704725741255172:=()
def tw7779053581022672237:=()
def tw12989590957617193570:=()
def tw10166887231279414919:=()
def tw15277430587385045740:=()
def tw14622981304335569658:=()
def tw4712389771266484804:=()
def tw3133352863559729874:=()
def tw6621444124621366171:=()
def tw12021794868674373669:=()
def tw5289815035285362432:=()
def tw8468105458292245054:=()
def tw7052985534584577988:=()
def tw4408069491013833645:=()
def tw15626112299951614831:=()
def tw11981167888970667043:=()
def tw6930036185918010385:=()
def tw6703059530596303632:=()
def tw15024729713227226773:=()
def tw3499194167362613196:=()
def tw1524618426209309441:=()
def tw5709614099296002073:=()
def tw18440361824139233456:=()
def tw15147909482844522982:=()
def tw17625586078270032244:=()
def tw9495999265486519949:=()
def tw1134487983169283496:=()
def tw8606670602236278031:=()
def tw11288058099354163700:=()
def tw6240094591495497011:=()
def tw1246071958304567864:=()
def tw8002316920546125316:=()
def tw5213761747737363512:=()
def tw13268876009566166351:=()
def tw1747707980797193130:=()
def tw6340017512936498623:=()
def tw6669965841933189228:=()
def tw8285128162775769807:=()
def tw16187547946321322211:=()
def tw9102974579211307464:=()
def tw3069182418590723830:=()
def tw8104148235505432201:=()
def tw17558658051741666444:=()
def tw4838497312283149662:=()
def tw2416152465491241650:=()
def tw17255188468498701959:=()
def tw4548823493753535822:=()
def tw15579328879819232056:=()
def tw5103522446626649321:=()
def tw8797867105458187189:=()
def tw17856744438461151351:=()
def tw16948374635240008507:=()
def tw16020272789137581209:=()
def tw17760123668947048428:=()
def tw12196727053160063398:=()
def tw45921074454120880:=()
def tw3347396211828015208:=()
def tw7901028029889057599:=()
def tw8374712609741792758:=()
def tw9600268666015028999:=()
def tw8075336376900000098:=()
def tw201496017792950139:=()
def tw4439004481499964155:=()
def tw1820706261731162877:=()
def tw11907947692886296126:=()
def tw7210397318217051558:=()
def tw3979277900845468611:=()
def tw14397152796906210170:=()
def tw16569616759325651088:=()
def tw3872312385716822655:=()
def tw17597046964480626005:=()
def tw1256466716349957942:=()
def tw4380224123464130301:=()
def tw17987008429344758144:=()
def tw4157717736805125218:=()
def tw16614116485653202529:=()
def tw11971601357459459494:=()
def tw15088087379067216061:=()
def tw14462533432698088047:=()
def tw13350091929342782707:=()
def tw12901439129809606644:=()
def tw872051957263066950:=()
def tw4181748054283063955:=()
def tw16804699570655156873:=()
def tw809335123543726597:=()
def tw7313176497703330697:=()
def tw5918840643244562891:=()
def tw3214029285752631736:=()
def tw15470996983136764807:=()
def tw1095673138984288925:=()
def tw1679605258357268651:=()
def tw5017810154113804010:=()
def tw15140170711157336669:=()
def tw5668430965068857005:=()
def tw1907417612857207406:=()
def tw12824128354896876239:=()
def tw11486135781992658082:=()
def tw10425555697562179482:=()
def tw1088438388369080649:=()
def tw9424228320298155473:=()
def tw6021414615955944329:=()
def tw13547037251776782657:=()
def tw4880777005384594886:=()
def tw2882810830735406860:=()
def tw2314289040615004698:=()
def tw12145892501913565349:=()
def tw9475546398053097158:=()
def tw824358766333526376:=()
def tw8854110548297556586:=()
def tw12278869999554041635:=()
def tw10150865592337893945:=()
def tw15922783180335067060:=()
def tw14557055076042322441:=()
def tw9817020277426052535:=()
def tw7343075552650700609:=()
def tw17640217684894691962:=()
def tw4941476437260636510:=()
def tw16460119947960395996:=()
def tw15154369146850070631:=()
def tw2312270897976978660:=()
def tw1790126637665653002:=()
def tw5494111929091500328:=()
def tw11492086139423125627:=()
def tw8484899100809421669:=()
def tw16772892943524243305:=()
def tw11962957355668881550:=()
def tw7975303351619935552:=()
def tw4160297807934485410:=()
def tw6080144740459067121:=()
def tw12720642143960733363:=()
def tw12223005823428297950:=()
def tw7771718718296679397:=()
def tw2015605068296040137:=()
def tw14075885635418758008:=()
def tw8281328766995093540:=()
def tw13872928367094408472:=()
def tw1849288002642306842:=()
def tw8250609952143126157:=()
def tw15779977591787146190:=()
def tw2249468068280584327:=()
def tw17413802752384373901:=()
def tw12582893797957013243:=()
def tw16764886590371162203:=()
def tw13907416165079080133:=()
theorem te299153960792714491:True:=trivial
end PySem.W.Fast
open PySem PySem.W PyProof.Rows
set_option maxRecDepth 100000 in
set_option maxHeartbeats 0 in
theorem PySem.Challenge.cw_helmsum_k57_starts_none_and_alike_holds : PySem.Challenge.rw_helmsum_k57_starts_none_and_alike.Holds := by
 w_on;o_law;k_head;(case hw=>w_witness2)
 k_fill
 refine Lw.walk (l:=PySem.Challenge.rw_helmsum_k57_starts_none_and_alike) rfl rfl ?hi (λw h Y=>PySem.W.kIn_of Y) ?F
 case hi=>decide +kernel
 case F =>
  intro w mg fa h KX G hmg;refine' Lw.all_mk KX G hmg rfl ?aC ?_ ?_ ?_ ?_ ?_ ?_ ?_ ?_ ?_ ?_ ?_ ?_ ?_ ?_ ?_ ?_ ?_ ?_ ?_ ?_ ?_ ?a21 ?i21 ?l21 ?c21 ?k21 ?_ ?_ ?_ ?_ ?_ ?_ ?_ ?_ ?_ ?_ ?_ ?_ ?_ ?_ ?_ ?a37 ?i37 ?l37 ?c37 ?k37 ?_ ?a39 ?i39 ?l39 ?c39 ?k39 ?_ ?_ ?_ ?_ ?_ ?_ ?_ ?_ ?_ ?_ ?_ ?_ ?_ ?_ ?a54 ?i54 ?l54 ?c54 ?k54 ?_ ?_ ?_ ?_ ?_ ?_ ?_ ?_ ?_ ?_ ?_ ?_ ?_ ?_ ?_ ?_ ?_ ?_ ?_ ?_ ?_ ?_ ?_ ?_ ?_ ?_ ?_ ?_ ?_ ?_ ?_ ?ca0 ?cl0 ?ca1 ?cl1 ?ci0 ?ci1 ?ci2 ?pg ?hd ?po ?sa ?mk ?kc ?n_move ?n_states ?n_put ?n_ins ?n_look ?n_outs ?z_abs ?z_len ?z_range ?z_int ?z_min ?z_isinstance ?z_list ?z_bool ?z_tuple ?z_all ?z_enumerate ?z_zip ?z_sum
  all_goals try refine' VH ?_ ?_ ?_ ?_
  all_goals try k_is