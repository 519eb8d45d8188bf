import PyProof.Rows.All
import Wide.All
import OpenK.AllK
import Wide.FinOn
import Lean
import PyProof.EqAt
import PyProof.EqKinds
import PyProof.TupleCall
import PyProof.NeKinds
import PySem.Challenge.RW_helmsum_k81_closed
set_option Elab.async false
set_option linter.all false
set_option maxRecDepth 100000
abbrev aa:=@List.getD_eq_getElem?_getD
abbrev af:=@List.getElem?_eq_getElem
abbrev ag:=@List.length_map
abbrev ah:=@Nat.pow_le_pow_right
abbrev ai:=@Nat.le_trans
abbrev ak:=@List.mem_of_getElem?
abbrev au:=@Nat.le_refl
abbrev ay:=@List.mem_map
abbrev az:=@List.getElem?_map
abbrev aA:=@List.length_append
abbrev aB:=@List.take_of_length_le
abbrev aD:=@List.getElem?_eq_some_iff
abbrev aE:=@List.mem_cons
abbrev aG:=@Nat.mul_le_mul_right
abbrev aI:=@List.mem_append
abbrev aJ:=@List.size_toArray
abbrev aM:=@Rat.intCast_mul
abbrev aN:=@List.getElem_mem
abbrev aP:=@List.getElem?_eq_none
abbrev aR:=@Nat.mul_le_mul
abbrev aS:=@List.not_mem_nil
abbrev aT:=@Bool.false_ne_true
abbrev aZ:=@Nat.lt_of_lt_of_le
abbrev bc:=@Nat.lt_of_le_of_lt
abbrev bh:=@Nat.le_of_lt
abbrev bo:=@Nat.zero_le
abbrev bp:=@Option.some.inj
abbrev br:=@List.length_singleton
abbrev bx:=@PySem.boot_len
abbrev bC:=@List.length_zipWith
abbrev bD:=@List.mem_cons_of_mem
abbrev bG:=@List.mem_append_right
abbrev bJ:=@List.length_cons
abbrev bO:=@List.getElem?_zipWith
abbrev bR:=@List.getElem?_append_right
abbrev bW:=@Int.fdiv_eq_ediv_of_nonneg
abbrev bX:=@Nat.pow_add
abbrev bY:=@Rat.intCast_natCast
abbrev bZ:=@List.mem_or_eq_of_mem_set
abbrev b7:=@Nat.ne_of_lt
abbrev cm:=@List.mem_of_mem_take
abbrev cy:=@Nat.dvd_mul_left
abbrev cz:=@List.ext_getElem
abbrev cC:=@Nat.mul_comm
abbrev cD:=@List.append_assoc
abbrev cH:=@List.mem_cons_self
abbrev cJ:=@PySem.W.kia_one
abbrev cK:=@List.nil_append
abbrev cM:=@Nat.lt_or_ge
abbrev cN:=@Nat.le_mul_of_pos_left
abbrev cO:=@List.length_take
abbrev cP:=@List.getElem_map
abbrev cQ:=@List.getElem?_append_left
abbrev cU:=@Nat.succ_le_succ
abbrev cV:=@Bool.and_eq_true
abbrev di:=@List.length_range
abbrev dk:=@List.map_congr_left
abbrev dq:=@Rat.intCast_inj
abbrev dr:=@Nat.mul_pos
abbrev du:=@List.nodup_cons
abbrev dw:=@List.drop_eq_getElem_cons
abbrev dD:=@Nat.lt_succ_self
abbrev dE:=@List.cons_append
abbrev dF:=@Int.gcd_dvd_left
abbrev dG:=@PySem.F.type_list_append
abbrev dH:=@PySem.F.slot_list_append
abbrev dI:=@Nat.mul_assoc
abbrev dJ:=@Nat.lt_irrefl
abbrev dM:=@Nat.pow_lt_pow_right
abbrev dS:=@PySem.F.plainAttrs_list
abbrev dU:=@Nat.le_mul_of_pos_right
abbrev dW:=@List.nodup_append
abbrev dX:=@Int.gcd_dvd_right
abbrev dY:=@List.length_set
abbrev eo:=@List.getElem?_range
abbrev eJ:=@Nat.one_le_two_pow
abbrev eZ:=@Int.natAbs_dvd_natAbs
abbrev fE:=@Nat.not_lt_zero
abbrev fG:=@List.map_append
abbrev fO:=@Nat.dvd_mul_right
abbrev fP:=@List.getElem_zipWith
abbrev gL:=@Nat.mul_le_mul_left
abbrev gM:=@List.getElem_of_mem
abbrev gQ:=@Int.natAbs_mul
abbrev h7:=@Nat.pow_succ
abbrev h8:=@Int.natAbs_natCast
abbrev h9:=@Int.emod_lt_of_pos
abbrev ie:=@Bool.false_eq_true
abbrev iO:=@Rat.intCast_neg
abbrev jk:=@List.mem_append_left
abbrev jZ:=@Rat.mul_comm
abbrev j3:=@PySem.IsL.update
abbrev j4:=@List.lookup_cons
abbrev j5:=@Int.mul_comm
abbrev j6:=@Int.gcd_comm
abbrev kl:=@PySem.F.plain_extend_loop
abbrev kn:=@PySem.mem_of_lookup
abbrev kz:=@Nat.le_of_dvd
abbrev kB:=@List.map_cons
abbrev kC:=@Int.mul_assoc
abbrev lD:=@Int.emod_nonneg
abbrev lE:=@Bool.eq_iff_iff
abbrev lV:=@Nat.eq_zero_or_pos
abbrev mF:=@Int.mul_pos
abbrev mG:=@Int.eq_ofNat_of_zero_le
abbrev mH:=@Int.dvd_mul_of_dvd_left
abbrev nI:=@Nat.min_self
abbrev nJ:=@Nat.lt_trichotomy
abbrev nK:=@List.mem_range
abbrev nL:=@List.ext_getElem?
abbrev oC:=@PySem.F.slot_zip_next
abbrev oE:=@List.all_eq_true
abbrev pR:=@Nat.dvd_trans
abbrev pY:=@List.mem_filter
abbrev rM:=@Rat.add_zero
abbrev rN:=@Nat.succ_mul
abbrev rO:=@Nat.sub_self
abbrev sP:=@List.getElem_range
abbrev sQ:=@Int.natAbs_neg
abbrev vS:=@Rat.intCast_eq_zero_iff
abbrev vT:=@Int.natCast_dvd_natCast
abbrev wt:=@Rat.mul_zero
abbrev wu:=@PySem.W.cellsFrom_some
abbrev wx:=@Int.zero_add
abbrev xV:=@Rat.natCast_mul
abbrev xW:=@Rat.intCast_add
abbrev xX:=@List.length_zip
abbrev xY:=@List.append_nil
abbrev ya:=@Bool.beq_eq_decide_eq
abbrev zh:=@Nat.le_succ
abbrev zi:=@List.forIn_nil
abbrev Ap:=@PySem.W.plainGet_of
abbrev Aq:=@List.filterMap_cons
abbrev BM:=@PySem.W.callWith_K
abbrev BN:=@List.mem_singleton
abbrev BO:=@List.append_of_mem
abbrev DS:=@Nat.ne_of_gt
abbrev DT:=@Nat.dvd_refl
abbrev ED:=@Nat.min_le_right
abbrev GG:=@Int.dvd_gcd
abbrev GO:=@List.range_succ
abbrev GP:=@List.of_mem_zip
abbrev GQ:=@List.forIn_cons
abbrev GR:=@Int.gcd_pos_of_ne_zero_right
abbrev Jv:=@List.nodup_nil
abbrev Jw:=@Int.eq_of_mul_eq_mul_right
abbrev KG:=@PySem.F.entry_extend_loop
abbrev KH:=@List.getElem?_zip_eq_some
abbrev KI:=@Int.natAbs_ediv_of_nonneg
abbrev KL:=@Option.isSome_iff_exists
abbrev KN:=@List.getElem?_take_of_lt
abbrev KO:=@List.getD_nil
abbrev KP:=@List.all_cons
abbrev LU:=@PySem.F.args_zip_next_1
abbrev LV:=@List.getElem?_replicate
abbrev LW:=@List.filter_cons_of_pos
abbrev LX:=@List.filter_cons_of_neg
abbrev LR9:=List (List Rat)
abbrev FG9:=PySem.W.Frag
namespace L2
open PySem PySem.Spec PyProof.Rows
abbrev Key:=Sum Int Str
def Jh:Key->Value->Bool
 | .inl k,v=>Value.isInt k v
 | .inr x,v=>Value.isStrOf x v
def Mg (w:World):Key->Int
 | .inl k=>hashInt k
 | .inr x=>hashStr w x
theorem dR:∀{k:Key} {v:Value},Jh k v=true->(∃i t,k=Sum.inl i/\v=Value.int i t)\/(∃x t,k=Sum.inr x/\v=Value.str x t)
 | .inl i,v,h=>by
  obtain ⟨t,e⟩:=Value.isInt_shape (k:=i) (v:=v) h;exact .inl ⟨i,t,rfl,e⟩
 | .inr x,v,h=>by
  obtain ⟨t,e⟩:=Value.isStrOf_shape (x:=x) (v:=v) h;exact .inr ⟨x,t,rfl,e⟩
theorem Kj (a b:Int):decide ((Sum.inl a:Key)=Sum.inl b)=(a == b):=by
 by_cases e:a=b
 ·subst e;simp
 ·have h:¬(Sum.inl a:Key)=Sum.inl b:=λq=>e (Sum.inl.inj q)
  rw[decide_eq_false h];exact (beq_eq_false_iff_ne.mpr e).symm
theorem Kg (a b:Str):decide ((Sum.inr a:Key)=Sum.inr b)=decide (a=b):=by
 by_cases e:a=b
 ·subst e;simp
 ·have h:¬(Sum.inr a:Key)=Sum.inr b:=λq=>e (Sum.inr.inj q)
  rw[decide_eq_false h,decide_eq_false e]
theorem Ki (a:Int) (b:Str):decide ((Sum.inl a:Key)=Sum.inr b)=false:=decide_eq_false (λq=>nomatch q)
theorem Kh (a:Str) (b:Int):decide ((Sum.inr a:Key)=Sum.inl b)=false:=decide_eq_false (λq=>nomatch q)
def Dn (prog:Program) (w:World):PySem.KeyKind prog w Key where
 is:=Jh
 hash:=Mg w
 inj:=λv a b ha hb=>by
  rcases dR ha with ⟨i,t,rfl,rfl⟩ | ⟨x,t,rfl,rfl⟩
  ·rcases dR hb with ⟨j,u,rfl,e⟩ | ⟨y,u,rfl,e⟩
   ·injection e with e1 _;rw[e1]
   ·exact nomatch e
  ·rcases dR hb with ⟨j,u,rfl,e⟩ | ⟨y,u,rfl,e⟩
   ·exact nomatch e
   ·injection e with e1 _;rw[e1]
 byValue:=λk v h=>by
  rcases dR h with ⟨i,t,rfl,rfl⟩ | ⟨x,t,rfl,rfl⟩ <;> rfl
 pyHash:=λhv h=>by
  rcases dR hv with ⟨i,t,rfl,rfl⟩ | ⟨x,t,rfl,rfl⟩
  ·exact wpAny_pyHash_int h
  ·exact wpAny_pyHash_str h
 eqBool:=λhu hv h=>by
  rcases dR hu with ⟨i,t,rfl,rfl⟩ | ⟨x,t,rfl,rfl⟩
  ·rcases dR hv with ⟨j,u,rfl,rfl⟩ | ⟨y,u,rfl,rfl⟩
   ·rw[Kj] at h;exact wpAny_eqBool_int h
   ·rw[Ki] at h;exact SeqAt.EqAt.int_str i t y u _ _ _ _ h
  ·rcases dR hv with ⟨j,u,rfl,rfl⟩ | ⟨y,u,rfl,rfl⟩
   ·rw[Kh] at h;exact SeqAt.EqAt.str_int x t j u _ _ _ _ h
   ·rw[Kg] at h;exact wpAny_eqBool_str h
 «strs»:=λk x t v h=>by
  rcases dR h with ⟨i,u,rfl,e⟩ | ⟨y,u,rfl,e⟩
  ·exact nomatch e
  ·injection e with e1 _
   subst e1;cases v <;> rfl
inductive V where
  | non | bl (b : Bool) | int (i : Int) | str (x : Str) | byt (b : Array UInt8) | flt (b : UInt64) | ref (a : Addr) | ty (n : String)
  deriving DecidableEq

def RelV:V->Value->Prop
 | .non,u=>u=Value.none
 | .bl b,u=>u=Value.bool b
 | .int i,u=>∃t,u=Value.int i t
 | .str x,u=>∃t,u=Value.str x t
 | .byt b,u=>∃t,u=Value.bytes b t
 | .flt b,u=>∃t,u=Value.float b t
 | .ref a,u=>u=Value.ref a
 | .ty n,u=>u=Value.type n
abbrev cp:List V->List Value->Prop:=Paired RelV
theorem cp.length {xs:List V} {us:List Value} (r:cp xs us):xs.length=us.length:=Paired.length r
theorem cp.get:∀{xs:List V} {us:List Value} {i:Nat} {x:V},cp xs us->xs[i]?=some x->∃u,us[i]?=some u/\RelV x u
 | _,_,_,_,.nil,e=>by simp at e
 | _,_,0,_,.cons r _,e=>by simp at e;subst e;exact ⟨_,rfl,r⟩
 | _,_,i+1,x,.cons _ t,e=>by
  obtain ⟨u,h1,h2⟩:=cp.get (i:=i) (x:=x) t (by simpa using e);exact ⟨u,by simpa using h1,h2⟩
theorem cp.set {x:V} {u:Value} (r:RelV x u):∀{xs:List V} {us:List Value} (i:Nat),cp xs us->cp (xs.set i x) (us.set i u)
 | _,_,_,.nil=>.nil
 | _,_,0,.cons _ t=>.cons r t
 | _,_,i+1,.cons q t=>.cons q (cp.set r i t)
theorem cp.append:∀{xs ys:List V} {us ws:List Value},cp xs us->cp ys ws->cp (xs++ys) (us++ws)
 | _,_,_,_,.nil,s=>s
 | _,_,_,_,.cons r t,s=>.cons r (cp.append t s)
theorem cp.take:∀{xs:List V} {us:List Value} (n:Nat),cp xs us->cp (xs.take n) (us.take n)
 | _,_,0,_=>.nil
 | _,_,_+1,.nil=>.nil
 | _,_,n+1,.cons r t=>.cons r (cp.take n t)
theorem cp.drop:∀{xs:List V} {us:List Value} (n:Nat),cp xs us->cp (xs.drop n) (us.drop n)
 | _,_,0,r=>r
 | _,_,_+1,.nil=>.nil
 | _,_,n+1,.cons _ t=>cp.drop n t
def yp:Option V->Option Value->Prop
 | some v,some u=>RelV v u
 | none,none=>True
 | _,_=>False
def KV {κ:Type}:List (κ×V)->List (κ×Value)->Prop:=Paired λ(p:κ×V) (q:κ×Value)=>p.1=q.1/\RelV p.2 q.2
def kV:Key->V
 | .inl i=>.int i
 | .inr x=>.str x
inductive HO where
 | lst (xs:List V)
 | tup (xs:List V)
 | dK (kvs:List (Key×V)) | dT (kvs:List (List Key×V))
 | set (S:Int->Bool) (n:Nat)
 | ins (C dx:Addr) (fs:List (Str×V))
 | own (x:Addr)
 | xd (fs:List (Str×V))
 | met (f x:Addr)
 | rng (lo hi:Int)
 | frz (o:Obj) (u:HO)
 | tbl (ps:Array Value)
 | ext (φ:Heap->Prop)
abbrev Hp:=Addr->Option HO
def upd (H:Hp) (a:Addr) (o:HO):Hp:=λb=>if b=a then some o else H b
theorem aF {H:Hp} {a:Addr} {o:HO}:upd H a o a=some o:=by unfold upd;rw[if_pos rfl]
theorem aU {H:Hp} {a b:Addr} {o:HO} (h:b≠a):upd H a o b=H b:=by unfold upd;rw[if_neg h]
theorem d6 {H:Hp} {a b:Addr} {o:HO} (h:H a=some o) (h':H b=none):a≠b:=by
 intro e;subst e;rw[h] at h';cases h'
section
variable (P:Program) (w:World)
def iK (H:Hp) (h:Heap) (a:Addr):HO->Prop
 | .lst xs=>xs.length<=sizeLine/\∃(its:List Value) (n:Nat),cp xs its/\h.get? a=some { cls:=.type "list",data:=.seq its.toArray n }
 | .tup xs=>xs.length<=sizeLine/\∃its:List Value,cp xs its/\IsTup h a its.toArray
 | .dK kvs=>kvs.length<=sizeLine/\(a == sysModules)=false/\∃vs,KV kvs vs/\h.DictOf (Dn P w) a vs
 | .dT kvs=>kvs.length<=sizeLine/\(a == sysModules)=false/\∃xs:List (List Key×Addr×Value),
   Paired (λ(p:List Key×V) (q:List Key×Addr×Value)=>p.1=q.1/\H q.2.1=some (.tup (p.1.map kV))/\RelV p.2 q.2.2) kvs xs /\
   ∃o es ep,h.get? a=some o/\o.ExactDict/\o.data=.dict es ep/\es.toList=xs.map (entryOfKey (tupleKind (Dn P w)))/\(xs.map (·.1)).Nodup
 | .set S n=>h.SetOf (intKind P w) a S n
 | .ins C dx fs=>H dx=some (.own a)/\fs.length<=1000/\dx≠a/\h.get? a=some (PySem.W.instObj C dx) /\
   ∃mA,h.Ns1 dx mA/\(∀f,yp (fs.lookup f) (mA f))/\PySem.Within mA (fs.map (·.1))
 | .own _=>∃o,h.get? a=some o
 | .xd fs=>∃mA,h.Ns1 a mA/\∀f,yp (fs.lookup f) (mA f)
 | .rng lo hi=>∃t u v,h.get? a=some { cls:=.type "range",data:=.fields #[.int lo t,.int hi u,.int 1 v] }
 | .frz o u=>h.get? a=some o/\iK H h a u
 | .tbl ps=>h.get? a=some { cls:=.none,data:=.fields ps }
 | .met f x=>h.get? a=some (PySem.W.methodObj (.ref f) (.ref x))
 | .ext φ=>φ h/\(∃o,h.get? a=some o)/\∀h1 h2:Heap,φ h1->(∀o,h1.get? a=some o->h2.get? a=some o)->φ h2
def wq (H:Hp) (h:Heap):Prop:=∀a o,H a=some o->iK P w H h a o
end
section
variable {P:Program} {w:World} {H H':Hp} {h h':Heap} {a:Addr} {o:HO}
theorem iK.lt (x:iK P w H h a o):a < h.objs.size:=by
 cases o with
 | lst xs=>obtain ⟨_,_,_,_,e⟩:=x;exact Heap.lt_size e
 | tup xs=>obtain ⟨_,_,_,p⟩:=x;exact p.lt
 | dK kvs=>obtain ⟨_,_,_,_,o,_,_,e,_⟩:=x;exact Heap.lt_size e
 | dT kvs=>obtain ⟨_,_,_,_,o,_,_,e,_⟩:=x;exact Heap.lt_size e
 | set S n=>obtain ⟨o,_,_,_,e,_⟩:=x;exact Heap.lt_size e
 | ins C dx fs=>obtain ⟨_,_,_,e,_⟩:=x;exact Heap.lt_size e
 | own y=>obtain ⟨_,e⟩:=x;exact Heap.lt_size e
 | xd fs=>obtain ⟨_,⟨_,_,_,e,_⟩,_⟩:=x;exact Heap.lt_size e
 | rng lo hi=>obtain ⟨_,_,_,e⟩:=x;exact Heap.lt_size e
 | frz ob u=>obtain ⟨e,_⟩:=x;exact Heap.lt_size e
 | tbl ps=>exact Heap.lt_size (show h.get? a=some _ from x)
 | met f y=>exact Heap.lt_size (show h.get? a=some _ from x)
 | ext φ=>obtain ⟨_,⟨_,e⟩,_⟩:=x;exact Heap.lt_size e
theorem Paired.mapP {α β:Type} {F G:α->β->Prop}:∀{l₁:List α} {l₂:List β},Paired F l₁ l₂->(∀a b,F a b->G a b)->Paired G l₁ l₂
 | _,_,.nil,_=>.nil
 | _,_,.cons r t,f=>.cons (f _ _ r) (Paired.mapP t f)
theorem Paired.imp' {α β:Type} {F G:α->β->Prop} (f:∀a b,F a b->G a b) {l₁:List α} {l₂:List β} (r:Paired F l₁ l₂):Paired G l₁ l₂:=Paired.mapP r f
theorem iK.stay (x:iK P w H h a o) (k:∀b u,(b=a\/H b=some (.own a))->h.get? b=some u->h'.get? b=some u)
  (ho:∀b,H b=some (.own a)->H' b=some (.own a)) (ht:∀b xs,H b=some (.tup xs)->H' b=some (.tup xs)):iK P w H' h' a o:=by
 induction o with
 | lst xs=>obtain ⟨z,its,n,r,e⟩:=x;exact ⟨z,its,n,r,k _ _ (.inl rfl) e⟩
 | tup xs=>obtain ⟨z,its,r,ob,e,c⟩:=x;exact ⟨z,its,r,ob,k _ _ (.inl rfl) e,c⟩
 | dK kvs=>obtain ⟨z,y,vs,r,ob,es,ep,e,c⟩:=x;exact ⟨z,y,vs,r,ob,es,ep,k _ _ (.inl rfl) e,c⟩
 | dT kvs =>
  obtain ⟨z,y,xs,r,ob,es,ep,e,c⟩:=x;exact ⟨z,y,xs,Paired.mapP r λp q z=>⟨z.1,ht _ _ z.2.1,z.2.2⟩,ob,es,ep,k _ _ (.inl rfl) e,c⟩
 | set S n=>obtain ⟨ob,es,ep,t,e,c⟩:=x;exact ⟨ob,es,ep,t,k _ _ (.inl rfl) e,c⟩
 | ins C dx fs =>
  obtain ⟨d,z,ne,e,mA,⟨od,es,ep,e2,c⟩,r⟩:=x;exact ⟨ho _ d,z,ne,k _ _ (.inl rfl) e,mA,⟨od,es,ep,k _ _ (.inr d) e2,c⟩,r⟩
 | own y=>obtain ⟨ob,e⟩:=x;exact ⟨ob,k _ _ (.inl rfl) e⟩
 | xd fs=>obtain ⟨mA,⟨od,es,ep,e,c⟩,r⟩:=x;exact ⟨mA,⟨od,es,ep,k _ _ (.inl rfl) e,c⟩,r⟩
 | rng lo hi=>obtain ⟨t,u,v,e⟩:=x;exact ⟨t,u,v,k _ _ (.inl rfl) e⟩
 | frz ob u ih=>obtain ⟨e,q⟩:=x;exact ⟨k _ _ (.inl rfl) e,ih q⟩
 | tbl ps =>
  have e:h.get? a=some { cls:=.none,data:=.fields ps }:=x;show h'.get? a=some { cls:=.none,data:=.fields ps }
  exact k a _ (.inl rfl) e
 | met f y =>
  have e:h.get? a=some (PySem.W.methodObj (.ref f) (.ref y)):=x;show h'.get? a=some (PySem.W.methodObj (.ref f) (.ref y))
  exact k a _ (.inl rfl) e
 | ext φ=>obtain ⟨p,⟨o,e⟩,st⟩:=x;exact ⟨st _ _ p λo q=>k _ _ (.inl rfl) q,⟨o,k _ _ (.inl rfl) e⟩,st⟩
theorem wq.lt (x:wq P w H h) (e:H a=some o):a < h.objs.size:=(x a o e).lt
theorem wq.fresh (x:wq P w H h) (e:h.objs.size<=a):H a=none:=by
 cases q:H a with
 | none=>rfl
 | some u=>exact absurd (aZ (x.lt q) e) (dJ _)
theorem wq.kept (x:wq P w H h) (k:∀b u,h.get? b=some u->h'.get? b=some u):wq P w H h':=λa o e =>
 (x a o e).stay (λb u _ q=>k b u q) (λ_ q=>q) λ_ _ q=>q
theorem wq.laid (x:wq P w H h) (k:∀b u,h.get? b=some u->h'.get? b=some u) (hp:h.objs.size<=a) (new:iK P w (upd H a o) h' a o):wq P w (upd H a o) h':=λb u e=>by
 have hn:=x.fresh hp;by_cases hb:b=a
 ·subst hb;rw[aF] at e;cases e;exact new
 ·rw[aU hb] at e;exact (x b u e).stay (λc v _ q=>k c v q) (λc q=>by rw[aU (d6 q hn)];exact q) λc xs q=>by rw[aU (d6 q hn)];exact q
end
def Rd (H:Hp) (a:Addr) (u:HO):Prop:=H a=some u\/∃o,H a=some (.frz o u)
theorem Rd.ok {P:Program} {w:World} {H:Hp} {h:Heap} {a:Addr} {u:HO} (r:Rd H a u) (x:wq P w H h):iK P w H h a u:=by
 rcases r with r | ⟨o,r⟩
 ·exact x a u r
 ·obtain ⟨_,q⟩:=x a _ r;exact q
def L6:Option HO->Prop
 | some (.lst _)=>True
 | some (.dK _)=>True
 | some (.dT _)=>True
 | some (.set _ _)=>True
 | some (.ins _ _ _)=>True
 | some (.ext _)=>True
 | _=>False
section
variable {P:Program} {w:World} {H:Hp} {h h':Heap} {x e:Addr} {o':HO}
theorem wq.write (ok:wq P w H h) (mu:L6 (H x)) (he:e=x\/H e=some (.own x)) (k:∀b u,b≠e->h.get? b=some u->h'.get? b=some u) (heo:∃u,h'.get? e=some u)
  (new:iK P w (upd H x o') h' x o'):wq P w (upd H x o') h':=λb u q=>by
 have nown:∀c y,H c=some (.own y)->c≠x:=λc y r z=>by subst z;rw[r] at mu;exact mu
 have ntup:∀c xs,H c=some (.tup xs)->c≠x:=λc xs r z=>by subst z;rw[r] at mu;exact mu
 by_cases hb:b=x
 ·subst hb;rw[aF] at q;cases q;exact new
 ·rw[aU hb] at q;by_cases hbe:b=e
  ·have q':H b=some (.own x):=by
    rcases he with z | z
    ·exact absurd (hbe.trans z) hb
    ·rw[hbe];exact z
   rw[q] at q';cases q';obtain ⟨v,hv⟩:=heo;exact ⟨v,by rw[hbe];exact hv⟩
  ·refine (ok b u q).stay (λc v hc r=>k c v ?_ r) (λc r=>by rw[aU (nown c b r)];exact r) λc xs r=>by rw[aU (ntup c xs r)];exact r
   rcases hc with rfl | hc
   ·exact hbe
   ·rintro rfl;rcases he with z | z
    ·exact nown c b hc z
    ·rw[hc] at z;cases z;exact hb rfl
end
structure Un (fs ex:List Addr) (H H':Hp) (h h':Heap):Prop where
 keep:∀b o,h.get? b=some o->H b=none->b∉fs->b∉ex->h'.get? b=some o
 slot:∀b o,h.get? b=some o->H b=none->b∈fs->b∉ex->∃sl,h'.get? b=some { o with slots:=sl }
 free:∀b o,h.get? b=some o->H b=none->b∉ex->H' b=none
 there:∀b o,h.get? b=some o->b∉ex->∃o',h'.get? b=some o'
 tups:∀b xs,H b=some (.tup xs)->H' b=some (.tup xs)
 frzs:∀b o u,H b=some (.frz o u)->H' b=some (.frz o u)
 tbls:∀b ps,H b=some (.tbl ps)->∃more,H' b=some (.tbl (ps++more))
section
variable {fs fs' ex ex':List Addr} {H H1 H2:Hp} {h h1 h2 h':Heap} {a x e:Addr} {o:HO}
theorem Un.any (u:Un fs ex H H1 h h1) {b:Addr} {ob:Obj} (q:h.get? b=some ob) (n:H b=none) (hx:b∉ex):∃sl,h1.get? b=some { ob with slots:=sl }:=by
 by_cases hb:b∈fs
 ·exact u.slot b ob q n hb hx
 ·exact ⟨ob.slots,u.keep b ob q n hb hx⟩
theorem Un.kept (k:∀b u,h.get? b=some u->h'.get? b=some u):Un fs ex H H h h' :=
 ⟨λb ob q _ _ _=>k b ob q,λb ob q _ _ _=>⟨ob.slots,k b ob q⟩,λ_ _ _ n _=>n,λb ob q _=>⟨ob,k b ob q⟩,λ_ _ q=>q,λ_ _ _ q=>q,λ_ ps q=>⟨#[],by rw[q];simp⟩⟩
theorem Un.refl:Un fs ex H H h h:=Un.kept λ_ _ q=>q
theorem Un.laid (k:∀b u,h.get? b=some u->h'.get? b=some u) (hp:h.objs.size<=a) (hn:H a=none):Un fs ex H (upd H a o) h h' where
 keep:=λb u q _ _ _=>k b u q
 slot:=λb u q _ _ _=>⟨u.slots,k b u q⟩
 free:=λb u q n _=>by rw[aU (b7 (aZ (Heap.lt_size q) hp))];exact n
 there:=λb u q _=>⟨u,k b u q⟩
 tups:=λb xs q=>by rw[aU (d6 q hn)];exact q
 frzs:=λb u xs q=>by rw[aU (d6 q hn)];exact q
 tbls:=λb ps q=>⟨#[],by rw[aU (d6 q hn),q];simp⟩
theorem Un.write (mu:L6 (H x)) (he:e=x\/H e=some (.own x)) (k:∀b u,b≠e->h.get? b=some u->h'.get? b=some u) (heo:∃u,h'.get? e=some u):Un fs ex H (upd H x o) h h':=by
 have hx:∀b,H b=none->b≠x:=λb n z=>by subst z;rw[n] at mu;exact mu
 have hb:∀b,H b=none->b≠e:=λb n z=>by
  subst z;rcases he with r | r
  ·exact hx b n r
  ·rw[n] at r;cases r
 have hm:∀b u,H b=some u->¬L6 (some u)->b≠x:=λb u q nm z=>by subst z;rw[q] at mu;exact nm mu
 refine ⟨λb u q n _ _=>k b u (hb b n) q,λb u q n _ _=>⟨u.slots,k b u (hb b n) q⟩,λb u q n _=>by rw[aU (hx b n)];exact n,λb u q _=>?_,
  λb xs q=>by rw[aU (hm b _ q λz=>z)];exact q,λb u xs q=>by rw[aU (hm b _ q λz=>z)];exact q,λb ps q=>⟨#[],by rw[aU (hm b _ q λz=>z),q];simp⟩⟩
 by_cases hbe:b=e
 ·subst hbe;exact heo
 ·exact ⟨u,k b u hbe q⟩
end
def LY (h:Heap) (H:Hp):List Addr:=(List.range h.objs.size).filter λa=>(H a).isSome
def zZ (h:Heap) (H:Hp):Heap:=PySem.W.hideAll h (LY h H)
theorem En (h:Heap) (H:Hp):(zZ h H).objs.size=h.objs.size:=PySem.W.hideAll_size _ _
theorem FJ {h:Heap} {H:Hp} {b:Addr} {o:Obj} (e:h.get? b=some o) (n:H b=none):(zZ h H).get? b=some o :=
 PySem.W.hideAll_get _ e λhm=>by
  have q:(H b).isSome=true:=(pY.mp hm).2;rw[n] at q;simp at q
theorem Ip {h:Heap} {H:Hp} {b:Addr} {o:Obj} (e:(zZ h H).get? b=some o):h.get? b=some o/\H b=none:=by
 have e':h.get? b=some o:=PySem.W.of_hideAll (LY h H) e;refine ⟨e',?_⟩;cases q:H b with
 | none=>rfl
 | some x =>
  have hm:b∈LY h H:=pY.mpr ⟨nK.mpr (Heap.lt_size e'),by simp [q]⟩;have z:(zZ h H).get? b=none:=PySem.W.hideAll_none (LY h H) hm;rw[z] at e;cases e
structure Mod (K:FG9) (mg:Str->Option Value) (base:Heap):Prop where
 kin:K.In base
 glob:base.Ns mainGlobals mg
 blt:∃mb,base.Ns builtinsNs mb/\∀x:Str,x≠"__name__"->mb x=bootBuiltins x
 nolimit:base.NoLimit
structure Cx where
 prog:Program
 w:World
 K:FG9
 mg:Str->Option Value
 base:Heap
 A:Around
 N:List Str
 s₀:Shared
 H₀:Hp
 env:Env
 outer:List Env
 stack:List Env
 ex:List Addr
 fn:Str->Bool
 calm:Bool
 pn:List (Addr×Obj)
 xe:Value->Shared->Prop
def EA (l:List Env):List Addr:=l.filterMap (·.frame)
abbrev Cx.fs (X:Cx):List Addr:=EA X.outer
def Mm (sc:Scope) (x:Str):Prop:=sc.names.lookup x=some .local\/sc.names.lookup x=some .cell\/sc.names.lookup x=some .free
def Loc (sc:Scope) (x:Str):Prop:=sc.names.lookup x=some .local\/sc.names.lookup x=some .cell
def Look (env:Env) (h:Heap) (m:Str->Option Value) (x:Str) (u:Value):Prop :=
 (env.kindOf x=some .local/\m x=some u)\/((env.kindOf x=some .cell\/env.kindOf x=some .free)/\∃c,env.cells.lookup x=some c/\h.IsCell c (some u))
structure Cx.Ok (X:Cx):Prop where
 mod:Mod X.K X.mg X.base
 kind:X.env.scope.kind=.function
 glob:X.env.globals=mainGlobals
 blt:X.env.builtins=builtinsNs
 above:X.s₀.heap.objs.size<=X.env.locals
 inj:∀x y c,X.env.cells.lookup x=some c->X.env.cells.lookup y=some c->x=y
 has:∀x,(X.env.kindOf x=some .cell\/X.env.kindOf x=some .free)->∃c,X.env.cells.lookup x=some c
 cab:∀x c,X.fn x=true->X.env.cells.lookup x=some c->X.s₀.heap.objs.size<=c
 hd:X.calm=true->X.A.handled=none
 frames:X.A.frames=some X.stack
 stk:X.stack=X.outer\/(X.stack=X.env :: X.outer/\X.env.frame=some X.env.locals)
 exf:∀b∈X.ex,b≠X.env.locals/\∀x c,X.env.cells.lookup x=some c->c≠b
 bs:∀b o,X.base.get? b=some o->X.s₀.heap.get? b=some o/\X.H₀ b=none
 bsz:X.base.objs.size<=X.s₀.heap.objs.size
 noex:∀b o,X.base.get? b=some o->b∉X.ex
 exfs:∀b∈X.ex,b∉X.fs
 funs:X.s₀.heap.FunFrames X.base X.outer
 frf:∀b∈X.fs,X.H₀ b=none
structure Inv (X:Cx) (pins:List (Addr×Obj)) (σ:List (Option V)) (H:Hp) (s:Shared):Prop where
 ok:X.Ok
 os:s.os=X.s₀.os
 bare:AllBare s.gens
 base:Un X.fs X.ex X.H₀ H X.s₀.heap s.heap
 loc:∃m,s.heap.Ns X.env.locals m/\∀(i:Nat) (x:Str) (v:V),X.N[i]?=some x->σ[i]?=some (some v)->Mm X.env.scope x->∃u,RelV v u/\Look X.env s.heap m x u
 cell:∀x c,X.env.cells.lookup x=some c->∃v,s.heap.IsCell c v
 free:H X.env.locals=none
 freeC:∀x c,X.env.cells.lookup x=some c->H c=none
 pin:∀p∈X.pn++pins,s.heap.get? p.1=some p.2/\H p.1=none/\p.1≠X.env.locals/\p.1∉X.fs/\∀v,p.2.data≠.cell v
 hok:wq X.prog X.w H s.heap
 len:σ.length=X.N.length
section
variable {X:Cx} {pins:List (Addr×Obj)} {σ:List (Option V)} {H H':Hp} {s:Shared} {h':Heap}
theorem Cx.Ok.nofr (ok:X.Ok) {b:Addr} {o:Obj} (e:X.base.get? b=some o):b∉X.fs:=λhb=>by
 have:=(ok.funs.mem hb).1;rw[e] at this;cases this
theorem Inv.bs (I:Inv X pins σ H s):∀b o,X.base.get? b=some o->s.heap.get? b=some o/\H b=none:=λb o e =>
 ⟨I.base.keep b o (I.ok.bs b o e).1 (I.ok.bs b o e).2 (I.ok.nofr e) (I.ok.noex b o e),I.base.free b o (I.ok.bs b o e).1 (I.ok.bs b o e).2 (I.ok.noex b o e)⟩
theorem Inv.bk (I:Inv X pins σ H s):∀b o,X.base.get? b=some o->s.heap.get? b=some o:=λb o e=>(I.bs b o e).1
theorem Inv.mod (I:Inv X pins σ H s):Mod X.K X.mg X.base:=I.ok.mod
theorem Inv.kIn (I:Inv X pins σ H s):X.K.In s.heap:=I.ok.mod.kin.keeps I.bk
theorem Inv.lt (I:Inv X pins σ H s):X.env.locals < s.heap.objs.size:=let ⟨_,hn,_⟩:=I.loc;hn.lt
theorem Inv.sz (I:Inv X pins σ H s):X.s₀.heap.objs.size<=s.heap.objs.size:=ai I.ok.above (bh I.lt)
theorem Inv.nofs (I:Inv X pins σ H s) {a:Addr} (h:s.heap.objs.size<=a):a∉X.fs:=λhb=>by
 obtain ⟨_,o,ho,_⟩:=I.ok.funs.mem hb;exact absurd (aZ (Heap.lt_size ho) (ai I.sz h)) (dJ _)
theorem Inv.cne (I:Inv X pins σ H s):∀x c,X.env.cells.lookup x=some c->c≠X.env.locals:=λx c e z=>by
 obtain ⟨v,o,ho,hd⟩:=I.cell x c e;obtain ⟨m,⟨o',es,ep,ho',hd',_⟩,_⟩:=I.loc;rw[z,ho'] at ho;cases ho;rw[hd'] at hd;cases hd
theorem Inv.funs (I:Inv X pins σ H s):s.heap.FunFrames X.base X.outer:=by
 have all:∀(l:List Env),(∀b∈EA l,b∈X.fs)->X.s₀.heap.FunFrames X.base l->s.heap.FunFrames X.base l:=by
  intro l
  induction l with
  | nil=>intro _ _;trivial
  | cons env r ih =>
   intro hs hl;obtain ⟨hk,⟨L,o,hf,hn,ho,hd⟩,hr⟩:=hl;have hL:L∈X.fs:=hs L (by unfold EA;rw[Aq,hf];exact cH);obtain ⟨sl,e⟩:=I.base.slot L o ho (I.ok.frf L hL) hL λz=>I.ok.exfs L z hL
   exact ⟨hk,⟨L,_,hf,hn,e,hd⟩,ih (λb hb=>hs b (by unfold EA;rw[Aq,hf];exact bD _ hb)) hr⟩
 exact all X.outer (λ_ hb=>hb) I.ok.funs
theorem Inv.stack (I:Inv X pins σ H s):s.heap.FunFrames X.base X.stack:=by
 rcases I.ok.stk with e | ⟨e,hf⟩
 ·rw[e];exact I.funs
 ·rw[e];obtain ⟨m,hn,_⟩:=I.loc;refine .cons (by rw[I.ok.kind];decide) hf hn ?_ I.funs;exact Heap.get?_none_of_le (ai I.ok.bsz I.ok.above)
theorem Inv.stkSub (I:Inv X pins σ H s):∀b∈EA X.stack,b∈X.env.locals :: X.fs:=λb hb=>by
 rcases I.ok.stk with e | ⟨e,hf⟩
 ·rw[e] at hb;exact bD _ hb
 ·rw[e] at hb;unfold EA at hb;rw[Aq,hf] at hb;exact hb
theorem Inv.stkFree (I:Inv X pins σ H s):∀b∈EA X.stack,H b=none:=λb hb=>by
 rcases aE.mp (I.stkSub b hb) with e | hb
 ·rw[e];exact I.free
 ·obtain ⟨_,o,ho,_⟩:=I.ok.funs.mem hb;exact I.base.free b o ho (I.ok.frf b hb) λz=>I.ok.exfs b z hb
theorem Inv.step {g':Array GenState} {t':Nat} {d':Drawn} {ch:List Addr} (I:Inv X pins σ H s)
  (hch:∀b∈ch,(b∈X.ex\/X.s₀.heap.objs.size<=b)/\b≠X.env.locals/\(∀x c,X.env.cells.lookup x=some c->c≠b)/\∀p∈X.pn++pins,p.1≠b)
  (keep:∀b o,b≠X.env.locals->b∉X.fs->b∉ch->s.heap.get? b=some o->H b=none->h'.get? b=some o)
  (slot:∀b o,b≠X.env.locals->b∈X.fs->b∉ch->s.heap.get? b=some o->H b=none->∃sl,h'.get? b=some { o with slots:=sl }) (free:∀b o,b∉ch->s.heap.get? b=some o->H b=none->H' b=none)
  (there:∀b o,b∉ch->s.heap.get? b=some o->∃o',h'.get? b=some o')
  (tups:∀b xs,H b=some (.tup xs)->H' b=some (.tup xs)) (frzs:∀b o u,H b=some (.frz o u)->H' b=some (.frz o u)) (tbls:∀b ps,H b=some (.tbl ps)->∃more,H' b=some (.tbl (ps++more)))
  (ns:∀m,s.heap.Ns X.env.locals m->h'.Ns X.env.locals m) (hok:wq X.prog X.w H' h') (hg:AllBare g') :
  Inv X pins σ H' { s with heap:=h',gens:=g',drawn:=d',toks:=t' }:=by
 have neL:∀b o,X.s₀.heap.get? b=some o->b≠X.env.locals:=λb o e=>b7 (aZ (Heap.lt_size e) I.ok.above)
 have neC:∀b o,X.s₀.heap.get? b=some o->b∉X.ex->b∉ch:=λb o e hx hb=>by
  rcases (hch b hb).1 with z | z
  ·exact hx z
  ·exact absurd (aZ (Heap.lt_size e) z) (dJ _)
 have cellK:∀x c,X.env.cells.lookup x=some c->∀v,s.heap.IsCell c v->h'.IsCell c v:=λx c e v ⟨o,ho,hd⟩=>by
  have nch:c∉ch:=λz=>(hch c z).2.2.1 x c e rfl
  by_cases hc:c∈X.fs
  ·obtain ⟨sl,q⟩:=slot c o (I.cne x c e) hc nch ho (I.freeC x c e);exact ⟨_,q,hd⟩
  ·exact ⟨o,keep c o (I.cne x c e) hc nch ho (I.freeC x c e),hd⟩
 refine ⟨I.ok,I.os,hg,⟨λb o e n hb hx=>?_,λb o e n hb hx=>?_,λb o e n hx=>?_,λb o e hx=>?_,λb xs e=>tups b xs (I.base.tups b xs e),λb o xs e=>frzs b o xs (I.base.frzs b o xs e),λb ps e=>?_⟩,?_,λx c e=>?_,?_,λx c e=>?_,λp hp=>?_,hok,I.len⟩
 ·exact keep b o (neL b o e) hb (neC b o e hx) (I.base.keep b o e n hb hx) (I.base.free b o e n hx)
 ·obtain ⟨sl,e1⟩:=I.base.slot b o e n hb hx;obtain ⟨sl',e2⟩:=slot b _ (neL b o e) hb (neC b o e hx) e1 (I.base.free b o e n hx);exact ⟨sl',e2⟩
 ·obtain ⟨o',e1⟩:=I.base.there b o e hx;exact free b o' (neC b o e hx) e1 (I.base.free b o e n hx)
 ·obtain ⟨o',e1⟩:=I.base.there b o e hx;exact there b o' (neC b o e hx) e1
 ·obtain ⟨m1,e1⟩:=I.base.tbls b ps e;obtain ⟨m2,e2⟩:=tbls b _ e1;exact ⟨m1++m2,by rw[e2,Array.append_assoc]⟩
 ·obtain ⟨m,hn,hl⟩:=I.loc;refine ⟨m,ns m hn,λi x v e1 e2 e3=>?_⟩;obtain ⟨u,r,l⟩:=hl i x v e1 e2 e3;refine ⟨u,r,?_⟩;rcases l with l | ⟨k,c,e,z⟩
  ·exact .inl l
  ·exact .inr ⟨k,c,e,cellK x c e _ z⟩
 ·obtain ⟨v,z⟩:=I.cell x c e;exact ⟨v,cellK x c e v z⟩
 ·obtain ⟨m,⟨o,_,_,ho,_⟩,_⟩:=I.loc;exact free _ o (λz=>(hch _ z).2.1 rfl) ho I.free
 ·obtain ⟨v,o,ho,hd⟩:=I.cell x c e;exact free c o (λz=>(hch c z).2.2.1 x c e rfl) ho (I.freeC x c e)
 ·obtain ⟨e,n,ne,nf,d⟩:=I.pin p hp;have nch:p.1∉ch:=λz=>(hch p.1 z).2.2.2 p hp rfl
  exact ⟨keep p.1 p.2 ne nf nch e n,free p.1 p.2 nch e n,ne,nf,d⟩
theorem Inv.un {t':Nat} (I:Inv X pins σ H s) (u:Un X.fs [] H H' s.heap h') (hok:wq X.prog X.w H' h'):Inv X pins σ H' { s with heap:=h',toks:=t' }:=by
 obtain ⟨m,⟨o,es,ep,ho,r⟩,_⟩:=id I.loc;obtain ⟨sl,hL⟩:=u.any ho I.free (by simp)
 exact I.step (g':=s.gens) (d':=s.drawn) (ch:=[]) (λ_ z=>nomatch z) (λb o _ hb _ e n=>u.keep b o e n hb (by simp)) (λb o _ hb _ e n=>u.slot b o e n hb (by simp)) (λb o _ e n=>u.free b o e n (by simp)) (λb o _ e=>u.there b o e (by simp)) u.tups u.frzs u.tbls (λm' hm=>by
  obtain ⟨o',es',ep',ho',r'⟩:=hm;rw[ho] at ho';cases ho';exact ⟨_,es',ep',hL,r'⟩) hok I.bare
theorem Inv.call {g':Array GenState} {t':Nat} {d':Drawn} {ch:List Addr} (I:Inv X pins σ H s) (u:Un (EA X.stack) ch H H' s.heap h') (hok:wq X.prog X.w H' h') (hg:AllBare g')
  (hch:∀b∈ch,(b∈X.ex\/X.s₀.heap.objs.size<=b)/\b≠X.env.locals/\(∀x c,X.env.cells.lookup x=some c->c≠b)/\∀p∈X.pn++pins,p.1≠b) :
  Inv X pins σ H' { s with heap:=h',gens:=g',drawn:=d',toks:=t' }:=by
 obtain ⟨m,⟨o,es,ep,ho,r⟩,_⟩:=id I.loc;obtain ⟨sl,hL⟩:=u.any ho I.free λz=>(hch _ z).2.1 rfl
 exact I.step (ch:=ch) hch (λb o hL hb hc e n=>u.keep b o e n (λz=>(aE.mp (I.stkSub b z)).elim hL hb) hc) (λb o _ _ hc e n=>u.any e n hc) (λb o hc e n=>u.free b o e n hc) (λb o hc e=>u.there b o e hc) u.tups u.frzs u.tbls (λm' hm=>by
  obtain ⟨o',es',ep',ho',r'⟩:=hm;rw[ho] at ho';cases ho';exact ⟨_,es',ep',hL,r'⟩) hok hg
theorem Inv.turned {t':Nat} {it:Addr} (I:Inv X pins σ H s) (k:∀b o,b≠it->s.heap.get? b=some o->h'.get? b=some o) (hn:H it=none) (hL:it≠X.env.locals)
  (h1:it∈X.ex\/X.s₀.heap.objs.size<=it) (h2:∀x c,X.env.cells.lookup x=some c->c≠it) (h3:∀p∈X.pn++pins,p.1≠it):Inv X pins σ H { s with heap:=h',toks:=t' }:=by
 have nit:∀b u,H b=some u->b≠it:=λb u e z=>by rw[z,hn] at e;cases e
 refine I.step (g':=s.gens) (d':=s.drawn) (ch:=[it]) (λb hb=>?_) (λb o _ _ hc e _=>k b o (λz=>hc (by simp [z])) e) (λb o _ _ hc e _=>⟨o.slots,k b o (λz=>hc (by simp [z])) e⟩) (λ_ _ _ _ n=>n)
  (λb o hc e=>⟨o,k b o (λz=>hc (by simp [z])) e⟩) (λ_ _ e=>e) (λ_ _ _ e=>e) (λb ps e=>⟨#[],by rw[e];simp⟩) (λm hm=>?_) (λb u e=>?_) I.bare
 ·have e:b=it:=by simpa using hb
  subst e;exact ⟨h1,hL,h2,h3⟩
 ·obtain ⟨o,es,ep,ho,r⟩:=hm;exact ⟨o,es,ep,k _ o (Ne.symm hL) ho,r⟩
 ·refine (I.hok b u e).stay (λc v hc q=>k c v ?_ q) (λ_ q=>q) λ_ _ q=>q
  rcases hc with z | z
  ·rw[z];exact nit b u e
  ·exact nit c _ z
theorem Inv.tok (I:Inv X pins σ H s) (t:Nat):Inv X pins σ H { s with toks:=t }:=I.un (h':=s.heap) (t':=t) Un.refl I.hok
theorem Inv.kept {t':Nat} (I:Inv X pins σ H s) (k:∀b u,s.heap.get? b=some u->h'.get? b=some u):Inv X pins σ H { s with heap:=h',toks:=t' }:=I.un (Un.kept k) (I.hok.kept k)
theorem Inv.laid {a:Addr} {o:HO} {t':Nat} (I:Inv X pins σ H s) (k:∀b u,s.heap.get? b=some u->h'.get? b=some u) (hp:s.heap.objs.size<=a) (new:iK X.prog X.w (upd H a o) h' a o) :
  Inv X pins σ (upd H a o) { s with heap:=h',toks:=t' }:=I.un (Un.laid k hp (I.hok.fresh hp)) (I.hok.laid k hp new)
theorem Inv.write {x e:Addr} {o:HO} {t':Nat} (I:Inv X pins σ H s) (mu:L6 (H x)) (he:e=x\/H e=some (.own x)) (k:∀b u,b≠e->s.heap.get? b=some u->h'.get? b=some u) (heo:∃u,h'.get? e=some u)
  (new:iK X.prog X.w (upd H x o) h' x o):Inv X pins σ (upd H x o) { s with heap:=h',toks:=t' }:=I.un (Un.write mu he k heo) (I.hok.write mu he k heo new)
theorem Inv.pins_of {pins':List (Addr×Obj)} (I:Inv X pins σ H s) (h:∀p∈pins',s.heap.get? p.1=some p.2/\H p.1=none/\p.1≠X.env.locals/\p.1∉X.fs/\∀v,p.2.data≠.cell v):Inv X pins' σ H s :=
 ⟨I.ok,I.os,I.bare,I.base,I.loc,I.cell,I.free,I.freeC,λp hp=>(aI.mp hp).elim (λz=>I.pin p (jk _ z)) (h p),I.hok,I.len⟩
theorem A7 {N:List Str} (hN:N.Nodup) {i j:Nat} {x:Str} (a:N[i]?=some x) (b:N[j]?=some x):i=j:=by
 obtain ⟨h1,e1⟩:=aD.mp a;obtain ⟨h2,e2⟩:=aD.mp b;exact (List.getElem_inj hN).mp (e1.trans e2.symm)
theorem yu {M:Model} {A:Around} {E:Value->Shared->Prop} {i:Nat} {x:Str} {v:V} {u:Value} {Q:Unit->Shared->Prop} (I:Inv X pins σ H s) (hN:X.N.Nodup) (hi:X.N[i]?=some x) (hx:Loc X.env.scope x) (r:RelV v u)
  (h:∀s',Inv X pins (σ.set i (some v)) H s'->(∃a,Heap.SameBut a s.heap s'.heap/\(a=X.env.locals\/X.env.cells.lookup x=some a))->Q () s') (hf:X.fn x=true\/X.env.scope.names.lookup x=some .local:=by first | exact .inl rfl | exact .inr rfl | assumption):wpAny M A (storeName X.env x u) Q E s:=by
 obtain ⟨m,hn,hl⟩:=id I.loc;have hcls:(X.env.scope.kind == .class || (X.env.scope.kind == .module && X.env.locals != X.env.globals))=false:=by rw[I.ok.kind];rfl
 have hiσ:i < σ.length:=by rw[I.len];exact (aD.mp hi).1
 have cne:=I.cne
 have tracked:∀{a:Addr} {h':Heap},(∃o,s.heap.get? a=some o/\H a=none)->Heap.SameBut a s.heap h'->wq X.prog X.w H h':=λ{a h'} ha hs b ob e=>by
  obtain ⟨_,_,hfree⟩:=ha;refine (I.hok b ob e).stay (λc w' hc q=>(hs.2 c ?_).trans q) (λ_ q=>q) λ_ _ q=>q
  rintro rfl;rcases hc with rfl | hc
  ·rw[hfree] at e;cases e
  ·rw[hfree] at hc;cases hc
 rcases hx with hk | hk
 ·refine wpAny_storeName_local hk hn (λh' hn' hs=>?_) hcls;obtain ⟨oL,_,_,hoL,_⟩:=id hn;refine h _ ⟨I.ok,I.os,I.bare,⟨λb o e n hb hx=>?_,λb o e n hb hx=>?_,I.base.free,λb o e hx=>?_,I.base.tups,I.base.frzs,I.base.tbls⟩,⟨_,hn',λj y v' e1 e2 e3=>?_⟩,λy c e=>?_,I.free,I.freeC,λp hp=>?_,tracked ⟨oL,hoL,I.free⟩ hs,by simpa using I.len⟩ ⟨_,hs,.inl rfl⟩
  ·exact (hs.2 b (b7 (aZ (Heap.lt_size e) I.ok.above))).trans (I.base.keep b o e n hb hx)
  ·obtain ⟨sl,e1⟩:=I.base.slot b o e n hb hx;exact ⟨sl,(hs.2 b (b7 (aZ (Heap.lt_size e) I.ok.above))).trans e1⟩
  ·obtain ⟨o',e1⟩:=I.base.there b o e hx;exact ⟨o',(hs.2 b (b7 (aZ (Heap.lt_size e) I.ok.above))).trans e1⟩
  ·by_cases hj:j=i
   ·subst hj;rw[hi] at e1;cases e1;rw[List.getElem?_set_self hiσ] at e2;cases e2;exact ⟨u,r,.inl ⟨hk,by simp⟩⟩
   ·rw[List.getElem?_set_ne (Ne.symm hj)] at e2;obtain ⟨u',r',q⟩:=hl j y v' e1 e2 e3;refine ⟨u',r',?_⟩;rcases q with ⟨k,e⟩ | ⟨k,c,e,z⟩
    ·refine .inl ⟨k,?_⟩;have:y≠x:=λe=>hj (A7 hN e1 (e ▸ hi))
     simp [this,e]
    ·exact .inr ⟨k,c,e,z.sameBut hs (cne y c e)⟩
  ·obtain ⟨w',z⟩:=I.cell y c e;exact ⟨w',z.sameBut hs (cne y c e)⟩
  ·obtain ⟨e,n,ne,nf,d⟩:=I.pin p hp;exact ⟨(hs.2 p.1 ne).trans e,n,ne,nf,d⟩
 ·have hfn:X.fn x=true:=by
   rcases hf with z | z
   ·exact z
   ·rw[z] at hk;cases hk
  obtain ⟨c,hc⟩:=I.ok.has x (.inl hk);obtain ⟨w',z⟩:=I.cell x c hc;refine wpAny_storeName_cell I.ok.kind hk hc z (λh' hc' hs=>?_);obtain ⟨oc,hoc,hocd⟩:=id z;refine h { s with heap:=h' } ⟨I.ok,I.os,I.bare,⟨λb o e n hb hx=>?_,λb o e n hb hx=>?_,I.base.free,λb o e hx=>?_,I.base.tups,I.base.frzs,I.base.tbls⟩,⟨m,hn.sameBut hs (Ne.symm (cne x c hc)),λj y v' e1 e2 e3=>?_⟩,λy c' e=>?_,I.free,I.freeC,λp hp=>?_,tracked ⟨oc,hoc,I.freeC x c hc⟩ hs,by simpa using I.len⟩ ⟨c,hs,.inr hc⟩
  ·exact (hs.2 b (b7 (aZ (Heap.lt_size e) (I.ok.cab x c hfn hc)))).trans (I.base.keep b o e n hb hx)
  ·obtain ⟨sl,e1⟩:=I.base.slot b o e n hb hx;exact ⟨sl,(hs.2 b (b7 (aZ (Heap.lt_size e) (I.ok.cab x c hfn hc)))).trans e1⟩
  ·obtain ⟨o',e1⟩:=I.base.there b o e hx;exact ⟨o',(hs.2 b (b7 (aZ (Heap.lt_size e) (I.ok.cab x c hfn hc)))).trans e1⟩
  ·by_cases hj:j=i
   ·subst hj;rw[hi] at e1;cases e1;rw[List.getElem?_set_self hiσ] at e2;cases e2;exact ⟨u,r,.inr ⟨.inl hk,c,hc,hc'⟩⟩
   ·rw[List.getElem?_set_ne (Ne.symm hj)] at e2;obtain ⟨u',r',q⟩:=hl j y v' e1 e2 e3;refine ⟨u',r',?_⟩;rcases q with q | ⟨k,c',e,z'⟩
    ·exact .inl q
    ·refine .inr ⟨k,c',e,z'.sameBut hs ?_⟩;rintro rfl;exact hj (A7 hN e1 (I.ok.inj _ _ _ e hc ▸ hi))
  ·by_cases hcc:c'=c
   ·subst hcc;exact ⟨_,hc'⟩
   ·obtain ⟨w2,z2⟩:=I.cell y c' e;exact ⟨w2,z2.sameBut hs hcc⟩
  ·obtain ⟨e,n,ne,nf,d⟩:=I.pin p hp;refine ⟨(hs.2 p.1 ?_).trans e,n,ne,nf,d⟩;intro q;rw[q,hoc] at e;have q':oc=p.2:=bp e;exact d w' (by rw[<- q'];exact hocd)
theorem tQ {M:Model} {A:Around} {E:Value->Shared->Prop} {i:Nat} {x:Str} {v:V} {u:Value} {Q:Unit->Shared->Prop} (I:Inv X pins σ H s) (hN:X.N.Nodup) (hi:X.N[i]?=some x) (hx:Loc X.env.scope x) (r:RelV v u)
  (h:∀s',Inv X pins (σ.set i (some v)) H s'->Q () s') (hf:X.fn x=true\/X.env.scope.names.lookup x=some .local:=by first | exact .inl rfl | exact .inr rfl | assumption):wpAny M A (storeName X.env x u) Q E s :=
 yu I hN hi hx r (λs' I' _=>h s' I') hf
theorem Inv.call' {s':Shared} {ch:List Addr} (I:Inv X pins σ H s) (ho:s'.os=s.os) (u:Un (EA X.stack) ch H H' s.heap s'.heap) (hok:wq X.prog X.w H' s'.heap) (hg:AllBare s'.gens)
  (hch:∀b∈ch,(b∈X.ex\/X.s₀.heap.objs.size<=b)/\b≠X.env.locals/\(∀x c,X.env.cells.lookup x=some c->c≠b)/\∀p∈X.pn++pins,p.1≠b):Inv X pins σ H' s':=by
 obtain ⟨h',g',d',t',o'⟩:=s';have e:o'=s.os:=ho;subst e;exact I.call (g':=g') (t':=t') (d':=d') u hok hg hch
end
abbrev XK:=Value->Option Addr->Hp->Prop
abbrev St:=List (Option V)
abbrev VK:=V->Hp->Prop
abbrev TE:=St->Hp->VK->Prop
abbrev TT:=St->Hp->(Bool->Hp->Prop)->Prop
abbrev TA:=St->Hp->(List V->Hp->Prop)->Prop
structure Ends where
 nx:St->Hp->Prop
 rt:VK
 bk:St->Hp->Prop:=λ_ _=>False
 ct:St->Hp->Prop:=λ_ _=>False
abbrev TS:=Ends->St->Hp->Prop
def EP (X:Cx) (pins:List (Addr×Obj)) (σ:St) (Q:VK) (u:Value) (s':Shared):Prop:=∃v H',Inv X pins σ H' s'/\RelV v u/\Q v H'
def TP (X:Cx) (pins:List (Addr×Obj)) (σ:St) (Q:Bool->Hp->Prop) (b:Bool) (s':Shared):Prop:=∃H',Inv X pins σ H' s'/\Q b H'
def AP (X:Cx) (pins:List (Addr×Obj)) (σ:St) (Q:List V->Hp->Prop) (us:List Value) (s':Shared):Prop:=∃vs H',Inv X pins σ H' s'/\cp vs us/\Q vs H'
def SP (X:Cx) (pins:List (Addr×Obj)) (D:Ends) (f:Flow) (s':Shared):Prop :=
 match f with
 | .next=>∃σ' H',Inv X pins σ' H' s'/\D.nx σ' H'
 | .brk=>∃σ' H',Inv X pins σ' H' s'/\D.bk σ' H'
 | .cont=>∃σ' H',Inv X pins σ' H' s'/\D.ct σ' H'
 | .ret u=>∃v σ' H',Inv X pins σ' H' s'/\RelV v u/\D.rt v H'
def PE (X:Cx) (e:Expr) (t:TE):Prop :=
 ∀(pins:List (Addr×Obj)) (s:Shared) (σ:St) (H:Hp) (Q:VK),Inv X pins σ H s->t σ H Q->wpAny (model X.prog X.w) X.A (eval e X.env) (EP X pins σ Q) X.xe s
def PT (X:Cx) (e:Expr) (t:TT):Prop :=
 ∀(pins:List (Addr×Obj)) (s:Shared) (σ:St) (H:Hp) (Q:Bool->Hp->Prop),Inv X pins σ H s->t σ H Q->wpAny (model X.prog X.w) X.A (isTrue e X.env (eval e X.env)) (TP X pins σ Q) X.xe s
def PW (X:Cx) (e:Expr) (t:TT):Prop :=
 ∀(whole:Sem Value) (pins:List (Addr×Obj)) (s:Shared) (σ:St) (H:Hp) (Q:Bool->Hp->Prop),Inv X pins σ H s->t σ H Q->wpAny (model X.prog X.w) X.A (isTrue e X.env whole) (TP X pins σ Q) X.xe s
theorem PW.pt {X:Cx} {e:Expr} {t:TT} (h:PW X e t):PT X e t:=h _
def PA (X:Cx) (es:List Expr) (t:TA):Prop :=
 ∀(pos:Pos) (pins:List (Addr×Obj)) (s:Shared) (σ:St) (H:Hp) (Q:List V->Hp->Prop),Inv X pins σ H s->t σ H Q->wpAny (model X.prog X.w) X.A (spliced (backTo pos (starEach es X.env))) (AP X pins σ Q) X.xe s
def PS (X:Cx) (st:Stmt) (t:TS):Prop :=
 ∀(pins:List (Addr×Obj)) (s:Shared) (σ:St) (H:Hp) (D:Ends),Inv X pins σ H s->t D σ H->wpAny (model X.prog X.w) X.A (exec st X.env) (SP X pins D) X.xe s
def CK (X:Cx) (st:List Stmt) (t:TS):Prop :=
 ∀(pins:List (Addr×Obj)) (s:Shared) (σ:St) (H:Hp) (D:Ends),Inv X pins σ H s->t D σ H->wpAny (model X.prog X.w) X.A (execs st X.env) (SP X pins D) X.xe s
theorem ff {α:Type} {t:Sem α} {Q Q':α->Shared->Prop} {M:Model} {A:Around} {E:Value->Shared->Prop} {s:Shared} (h:wpAny M A t Q E s) (hQ:∀a s,Q a s->Q' a s):wpAny M A t Q' E s:=wpAny_mono h hQ λ_ _ x=>x
section
variable {X:Cx}
def JC (i:Nat):TE:=λσ H Q=>∃v,σ[i]?=some (some v)/\Q v H
def tC (v:V):TE:=λ_ H Q=>Q v H
theorem J8 {i:Nat} {x:Str} {pos:Pos} (hN:X.N[i]?=some x) (hv:Mm X.env.scope x) (hd:(x == ("__debug__":Str))=false:=by decide) (hcd:(x == ("__classdict__":Str))=false:=by decide):PE X (.Name x pos) (JC i):=by
 intro pins s σ H Q I h;obtain ⟨v,e,h⟩:=h;obtain ⟨m,hn,hl⟩:=I.loc;obtain ⟨u,r,l⟩:=hl i x v hN e hv;have fin:EP X pins σ Q u s:=⟨v,H,I,r,h⟩;rcases l with ⟨hk,hm⟩ | ⟨hk,c,hc,hcell⟩
 ·exact wpAny_Name (wpAny_loadName_local I.ok.kind hk hn hm fin) hd
 ·rcases hk with hk | hk
  ·exact wpAny_Name (wpAny_loadName_cell I.ok.kind hk hc hcell fin) hd
  ·exact wpAny_Name (wpAny_loadName_free I.ok.kind hk hc hcell fin hcd) hd
theorem ao {i j pos}:PE X (.Constant (.int i) j pos) (tC (.int i)):=λ_ _ _ H _ I h=>wpAny_Constant_int ⟨.int i,H,I.tok _,⟨_,rfl⟩,h⟩
theorem tW {b j pos}:PE X (.Constant (.bool b) j pos) (tC (.bl b)):=λ_ _ _ H _ I h=>Constant_bool ⟨.bl b,H,I,rfl,h⟩
theorem Fl {j pos}:PE X (.Constant .none j pos) (tC .non):=λ_ _ _ H _ I h=>Constant_none ⟨.non,H,I,rfl,h⟩
def Gl (X:Cx) (x:Str):Prop:=X.env.kindOf x=some .globalImplicit
theorem zW {E:Value->Shared->Prop} {pins:List (Addr×Obj)} {s:Shared} {σ:St} {H:Hp} {x:Str} {u:Value} {pos:Pos} {Q:Value->Shared->Prop} (I:Inv X pins σ H s) (hg:Gl X x) (hm:X.mg x=some u) (h:Q u s)
  (hd:(x == ("__debug__":Str))=false:=by decide):wpAny (model X.prog X.w) X.A (eval (.Name x pos) X.env) Q E s :=
 Calls.Name_function_global I.ok.kind hg (Calls.loadGlobal_global (by rw[I.ok.glob];exact I.mod.glob.keeps I.bk) hm h) hd
theorem kr {E:Value->Shared->Prop} {pins:List (Addr×Obj)} {s:Shared} {σ:St} {H:Hp} {x:Str} {u:Value} {pos:Pos} {Q:Value->Shared->Prop} (I:Inv X pins σ H s) (hg:Gl X x) (hm:X.mg x=none) (hv:bootBuiltins x=some u) (h:Q u s)
  (hn:x≠"__name__":=by decide) (hd:(x == ("__debug__":Str))=false:=by decide):wpAny (model X.prog X.w) X.A (eval (.Name x pos) X.env) Q E s:=by
 obtain ⟨mb,h1,h2⟩:=I.mod.blt;exact Calls.Name_function_global I.ok.kind hg (Calls.loadGlobal_builtin (by rw[I.ok.glob];exact I.mod.glob.keeps I.bk) hm (by rw[I.ok.blt];exact h1.keeps I.bk) ((h2 x hn).trans hv) h) hd
theorem mM {x:Str} {v:V} {u:Value} {pos:Pos} (hg:Gl X x) (hm:X.mg x=some u) (r:RelV v u) (hd:(x == ("__debug__":Str))=false:=by decide):PE X (.Name x pos) (tC v) :=
 λ_ _ _ H _ I h=>zW I hg hm ⟨v,H,I,r,h⟩ hd
theorem Df {x:Str} {v:V} {u:Value} {pos:Pos} (hg:Gl X x) (hm:X.mg x=none) (hv:bootBuiltins x=some u) (r:RelV v u) (hn:x≠"__name__":=by decide) (hd:(x == ("__debug__":Str))=false:=by decide):PE X (.Name x pos) (tC v) :=
 λ_ _ _ H _ I h=>kr I hg hm hv ⟨v,H,I,r,h⟩ hn hd
variable {a b:Expr} {ta tb:TE} {pos:Pos}
def tB (t:TE):TT:=λσ H Q=>t σ H λx H1=>∃c,x=.bl c/\Q c H1
theorem ko {e : Expr} {t : TE} (h : PE X e t) (he : ∀ whole, isTrue e X.env whole = (do let v <- whole; standAt e.pos; holding [v] (truthy v)) := by intro _; rfl) : PT X e (tB t) := by
  intro pins s σ H Q I hw;refine isTrue_plain (ff (h pins s σ H _ I hw) λv s1 ⟨x, H1, I1, r1, q1⟩ => ?_) (he _);obtain ⟨d, rfl, q⟩ := q1;cases r1;exact wpAny_truthy_bool ⟨H1, I1, q⟩

variable {tA tB':TT} {rest:List Expr}
def K7 (t u:TT):TT:=λσ H Q=>t σ H λc H1=>if c=true then u σ H1 Q else Q false H1
def tOr (t u:TT):TT:=λσ H Q=>t σ H λc H1=>if c=true then Q true H1 else u σ H1 Q
def K3 (t:TT):TT:=λσ H Q=>t σ H λc H1=>Q (!c) H1
theorem kE (ha:PT X a tA):PW X (.BoolOp .And [a] pos) tA:=by
 intro wh pins s σ H Q I h;refine isTrue_and (ff (ha pins s σ H Q I h) λc s1 e=>?_);cases c with
 | true=>exact isTrue_and_nil e
 | false=>exact e
theorem nM (ha:PT X a tA):PW X (.BoolOp .Or [a] pos) tA:=by
 intro wh pins s σ H Q I h;refine isTrue_or (ff (ha pins s σ H Q I h) λc s1 e=>?_);cases c with
 | false=>exact isTrue_or_nil e
 | true=>exact e
theorem jv (ha:PT X a tA) (hb:PW X (.BoolOp .And (b :: rest) pos) tB'):PW X (.BoolOp .And (a :: b :: rest) pos) (K7 tA tB'):=by
 intro wh pins s σ H Q I h;refine isTrue_and (ff (ha pins s σ H _ I h) λc s1 ⟨H1,I1,q1⟩=>?_);cases c with
 | true=>exact hb wh pins s1 σ H1 Q I1 q1
 | false=>exact ⟨H1,I1,q1⟩
theorem p8 (ha:PT X a tA) (hb:PW X (.BoolOp .Or (b :: rest) pos) tB'):PW X (.BoolOp .Or (a :: b :: rest) pos) (tOr tA tB'):=by
 intro wh pins s σ H Q I h;refine isTrue_or (ff (ha pins s σ H _ I h) λc s1 ⟨H1,I1,q1⟩=>?_);cases c with
 | true=>exact ⟨H1,I1,q1⟩
 | false=>exact hb wh pins s1 σ H1 Q I1 q1
theorem kq (ha:PT X a tA):PT X (.UnaryOp .Not a pos) (K3 tA):=by
 intro pins s σ H Q I h;exact isTrue_not (ha pins s σ H (λc H1=>Q (!c) H1) I h)
def Jb (ta tb:TE):TE:=λσ H Q=>ta σ H λx H1=>∃c,x=.bl c/\if c=true then tb σ H1 Q else Q (.bl false) H1
def IV (ta:TE):TE:=λσ H Q=>ta σ H λx H1=>∃c,x=.bl c/\Q (.bl (!c)) H1
theorem zJ {op} {t:TE} (h:PE X a t):PE X (.BoolOp op [a] pos) t:=λpins s σ H Q I hw=>BoolOp_one (h pins s σ H Q I hw)
theorem xc (ha:PE X a ta) (hb:PE X (.BoolOp .And (b :: rest) pos) tb):PE X (.BoolOp .And (a :: b :: rest) pos) (Jb ta tb):=by
 intro pins s σ H Q I h;refine BoolOp_and (ff (ha pins s σ H _ I h) λv s1 ⟨x,H1,I1,r1,q1⟩=>?_);obtain ⟨c,rfl,q1⟩:=q1;cases r1;refine wpAny_truthy_bool ?_;cases c with
 | true=>exact hb pins s1 σ H1 Q I1 q1
 | false=>exact ⟨.bl false,H1,I1,rfl,q1⟩
theorem J9 (ha:PE X a ta):PE X (.UnaryOp .Not a pos) (IV ta):=by
 intro pins s σ H Q I h;refine UnaryOp_ (ff (ha pins s σ H _ I h) λv s1 ⟨x,H1,I1,r1,q1⟩=>?_);obtain ⟨c,rfl,q1⟩:=q1;cases r1;exact not_of (wpAny_truthy_bool ⟨.bl (!c),H1,I1,rfl,q1⟩)
def tIf (t:TT) (ta tb:TE):TE:=λσ H Q=>t σ H λc H1=>if c=true then ta σ H1 Q else tb σ H1 Q
theorem Fn {c:Expr} (hc:PT X c tA) (ha:PE X a ta) (hb:PE X b tb):PE X (.IfExp c a b pos) (tIf tA ta tb):=by
 intro pins s σ H Q I h;refine wpAny_IfExp (ff (hc pins s σ H _ I h) λd s1 ⟨H1,I1,q1⟩=>?_);cases d with
 | true=>exact ha pins s1 σ H1 Q I1 q1
 | false=>exact hb pins s1 σ H1 Q I1 q1
end
def bI (K:FG9) (H:Hp) (a:Addr) (xs:List V):Prop :=
 Rd H a (.lst xs) \/
  ∃(o:Obj) (its:Array Value) (n:Nat),K.lookup a=some o/\o.cls=.type "list"/\o.dict=none/\o.data=.seq its n/\its.size<=sizeLine/\cp xs its.toList
def rH (K:FG9) (H:Hp) (a:Addr) (xs:List V):Prop :=
 Rd H a (.tup xs) \/
  ∃(o:Obj) (its:Array Value) (n:Nat),K.lookup a=some o/\o.cls=.type "tuple"/\o.data=.seq its n/\its.size<=sizeLine/\cp xs its.toList
def Ml:Value->Option V
 | .none=>some .non
 | .bool b=>some (.bl b)
 | .int i _=>some (.int i)
 | .str x _=>some (.str x)
 | .bytes b _=>some (.byt b)
 | .float b _=>some (.flt b)
 | .ref a=>some (.ref a)
 | .type n=>some (.ty n)
 | _=>none
theorem RelV.abs {x:V} {u:Value} (r:RelV x u):Ml u=some x:=by
 cases x with
 | non=>cases r;rfl
 | bl _=>cases r;rfl
 | int _=>obtain ⟨t,rfl⟩:=r;rfl
 | str _=>obtain ⟨t,rfl⟩:=r;rfl
 | byt _=>obtain ⟨t,rfl⟩:=r;rfl
 | flt _=>obtain ⟨t,rfl⟩:=r;rfl
 | ref _=>cases r;rfl
 | ty _=>cases r;rfl
theorem RelV.inj {x y:V} {u:Value} (r:RelV x u) (q:RelV y u):x=y:=bp (r.abs.symm.trans q.abs)
theorem cp.inj:∀{xs ys:List V} {us:List Value},cp xs us->cp ys us->xs=ys
 | _,_,_,.nil,.nil=>rfl
 | _,_,_,.cons r t,.cons r' t'=>by rw[r.inj r',cp.inj t t']
section
variable {X:Cx} {pins:List (Addr×Obj)} {σ:St} {H:Hp} {s:Shared} {a:Addr} {xs ys:List V}
theorem bI.of {K:FG9} (h:H a=some (.lst xs)):bI K H a xs:=.inl (.inl h)
theorem rH.of {K:FG9} (h:H a=some (.tup xs)):rH K H a xs:=.inl (.inl h)
theorem Inv.list (I:Inv X pins σ H s) (h:bI X.K H a xs):∃its:List Value,cp xs its/\PlainL s.heap a its.toArray/\xs.length<=sizeLine:=by
 rcases h with h | ⟨o,its,n,hk,hc,hd,hs,hz,r⟩
 ·obtain ⟨z,its,n,r,e⟩:=h.ok I.hok;exact ⟨its,r,⟨_,n,e,rfl,rfl,rfl⟩,z⟩
 ·refine ⟨its.toList,r,⟨o,n,I.kIn a o hk,hc,hd,by simpa using hs⟩,?_⟩;have e:=r.length;simp only[Array.length_toList] at e
  lia
theorem Inv.tuple (I:Inv X pins σ H s) (h:rH X.K H a xs):∃its:List Value,cp xs its/\IsTup s.heap a its.toArray/\xs.length<=sizeLine:=by
 rcases h with h | ⟨o,its,n,hk,hc,hs,hz,r⟩
 ·obtain ⟨z,its,r,p⟩:=h.ok I.hok;exact ⟨its,r,p,z⟩
 ·refine ⟨its.toList,r,⟨o,I.kIn a o hk,hc,n,by simpa using hs⟩,?_⟩;have e:=r.length;simp only[Array.length_toList] at e
  lia
theorem Inv.list_inj (I:Inv X pins σ H s) (h:bI X.K H a xs) (h':bI X.K H a ys):xs=ys:=by
 obtain ⟨its,r,⟨o,n,e,_,_,d⟩,_⟩:=I.list h;obtain ⟨its',r',⟨o',n',e',_,_,d'⟩,_⟩:=I.list h';rw[e] at e';cases e';rw[d] at d';injection d' with d1 _
 have:its=its':=by simpa using congrArg Array.toList d1
 subst this;exact r.inj r'
theorem Inv.tuple_inj (I:Inv X pins σ H s) (h:rH X.K H a xs) (h':rH X.K H a ys):xs=ys:=by
 obtain ⟨its,r,⟨o,e,_,n,d⟩,_⟩:=I.tuple h;obtain ⟨its',r',⟨o',e',_,n',d'⟩,_⟩:=I.tuple h';rw[e] at e';cases e';rw[d] at d';injection d' with d1 _
 have:its=its':=by simpa using congrArg Array.toList d1
 subst this;exact r.inj r'
end
abbrev Cx.wish (X:Cx) (E:Value->Shared->Prop):Cx:={ X with xe:=E }
abbrev Cx.nox (X:Cx):Cx:=X.wish λ_ _=>False
theorem Cx.Ok.wish {X:Cx} (ok:X.Ok) (E:Value->Shared->Prop):(X.wish E).Ok :=
 ⟨ok.mod,ok.kind,ok.glob,ok.blt,ok.above,ok.inj,ok.has,ok.cab,ok.hd,ok.frames,ok.stk,ok.exf,ok.bs,ok.bsz,ok.noex,ok.exfs,ok.funs,ok.frf⟩
theorem Cx.Ok.unwish {X:Cx} {E:Value->Shared->Prop} (ok:(X.wish E).Ok):X.Ok :=
 ⟨ok.mod,ok.kind,ok.glob,ok.blt,ok.above,ok.inj,ok.has,ok.cab,ok.hd,ok.frames,ok.stk,ok.exf,ok.bs,ok.bsz,ok.noex,ok.exfs,ok.funs,ok.frf⟩
section
variable {X:Cx} {pins:List (Addr×Obj)} {σ:St} {H:Hp} {s:Shared} {E:Value->Shared->Prop}
theorem Inv.wish (I:Inv X pins σ H s) (E:Value->Shared->Prop):Inv (X.wish E) pins σ H s:=⟨I.ok.wish E,I.os,I.bare,I.base,I.loc,I.cell,I.free,I.freeC,I.pin,I.hok,I.len⟩
theorem Inv.unwish (I:Inv (X.wish E) pins σ H s):Inv X pins σ H s:=⟨I.ok.unwish,I.os,I.bare,I.base,I.loc,I.cell,I.free,I.freeC,I.pin,I.hok,I.len⟩
theorem SP.unwish {D:Ends} {f:Flow} {s':Shared} (h:SP (X.wish E) pins D f s'):SP X pins D f s':=by
 cases f with
 | next=>obtain ⟨σ',H',I,q⟩:=h;exact ⟨σ',H',I.unwish,q⟩
 | brk=>obtain ⟨σ',H',I,q⟩:=h;exact ⟨σ',H',I.unwish,q⟩
 | cont=>obtain ⟨σ',H',I,q⟩:=h;exact ⟨σ',H',I.unwish,q⟩
 | ret u=>obtain ⟨v,σ',H',I,r,q⟩:=h;exact ⟨v,σ',H',I.unwish,r,q⟩
theorem CK.nox {st:List Stmt} {t:TS} (h:CK X.nox st t):CK X st t:=λpins s σ H D I hw =>
 wpAny_mono (h pins s σ H D (I.wish _) hw) (λ_ _ q=>q.unwish) λ_ _ z=>False.elim z
end
section
variable {X:Cx} {st:Stmt} {rest:List Stmt} {t u:TS} {e:Expr} {te:TE} {pos:Pos}
def IW:TS:=λD σ H=>D.nx σ H
def KY (t u:TS):TS:=λD σ H=>t { D with nx:=u D } σ H
theorem bV:CK X [] IW:=λ_ _ σ H _ I h=>wpAny_execs_nil ⟨σ,H,I,h⟩
theorem av (h1:PS X st t) (h2:CK X rest u):CK X (st :: rest) (KY t u):=by
 intro pins s σ H D I h;refine wpAny_execs_cons (ff (h1 pins s σ H { D with nx:=u D } I h) λf s1 q=>?_);cases f with
 | next =>
  obtain ⟨σ',H',I',q⟩:=q;exact h2 pins s1 σ' H' D I' q
 | ret v=>exact q
 | brk=>exact q
 | cont=>exact q
theorem ax (h1:PS X st t):CK X [st] t:=by
 intro pins s σ H D I h;refine wpAny_execs_cons (ff (h1 pins s σ H D I h) λf s1 q=>?_);cases f with
 | next=>exact wpAny_execs_nil q
 | ret v=>exact q
 | brk=>exact q
 | cont=>exact q
theorem Inv.quiet {pins:List (Addr×Obj)} {σ:St} {H:Hp} {s:Shared} (I:Inv X pins σ H s):interactive X.env=false:=by simp [interactive,I.ok.kind]
def IZ (te:TE):TS:=λD σ H=>te σ H λ_ H1=>D.nx σ H1
theorem kF (he:PE X e te) (hs:swapsWith e none pos.line X.env=pure false:=by rfl):PS X (.Expr e pos) (IZ te):=by
 intro pins s σ H D I h;exact wpAny_Expr_any (ff (he pins s σ H _ I h) λv s1 ⟨x,H1,I1,r1,q1⟩=>⟨σ,H1,I1,q1⟩) I.quiet hs
def KZ (te:TE):TS:=λD σ H=>te σ H D.rt
theorem bf (he:PE X e te):PS X (.Return (some e) pos) (KZ te):=by
 intro pins s σ H D I h;exact wpAny_Return_some (ff (he pins s σ H _ I h) λv s1 ⟨x,H1,I1,r1,q1⟩=>⟨x,σ,H1,I1,r1,q1⟩)
def K5 (c:TT) (t u:TS):TS:=λD σ H=>c σ H λb H1=>if b=true then t D σ H1 else u D σ H1
theorem dc {c:Expr} {a b:List Stmt} {tc:TT} (hc:PT X c tc) (ha:CK X a t) (hb:CK X b u):PS X (.If c a b pos) (K5 tc t u):=by
 intro pins s σ H D I h;refine wpAny_If (ff (hc pins s σ H _ I h) λd s1 ⟨H1,I1,q1⟩=>?_);cases d with
 | true=>exact ha pins s1 σ H1 D I1 q1
 | false=>exact hb pins s1 σ H1 D I1 q1
end
abbrev TG:=V->St->Hp->(St->Hp->Prop)->Prop
abbrev GJ:=List V->St->Hp->(St->Hp->Prop)->Prop
def PG (X:Cx) (target:Expr) (t:TG):Prop :=
 ∀(pins:List (Addr×Obj)) (s:Shared) (σ:St) (H:Hp) (v:V) (u:Value) (Q:St->Hp->Prop),Inv X pins σ H s->RelV v u->t v σ H Q →
  wpAny (model X.prog X.w) X.A (assign target X.env u) (λ_ s'=>∃σ' H',Inv X pins σ' H' s'/\Q σ' H') X.xe s
def LM (X:Cx) (ts:List Expr) (t:GJ):Prop :=
 ∀(pins:List (Addr×Obj)) (s:Shared) (σ:St) (H:Hp) (vs:List V) (us:List Value) (Q:St->Hp->Prop),Inv X pins σ H s->cp vs us->t vs σ H Q →
  wpAny (model X.prog X.w) X.A (assignInOrder ((assignEach ts X.env).map (·.2)) us) (λ_ s'=>∃σ' H',Inv X pins σ' H' s'/\Q σ' H') X.xe s
abbrev CF:=V->V->V->Hp->(Hp->Prop)->Prop
def Kz (X:Cx) (t:CF):Prop :=
 ∀(pins:List (Addr×Obj)) (s:Shared) (σ:St) (H:Hp) (o i v:V) (ov iv u:Value) (Q:Hp->Prop),Inv X pins σ H s->RelV o ov->RelV i iv->RelV v u->t o i v H Q →
  wpAny (model X.prog X.w) X.A (setItem ov iv u) (λ_ s'=>∃H',Inv X pins σ H' s'/\Q H') X.xe s
abbrev LK:=V->V->Hp->VK->Prop
def PIp (X:Cx) (op:Operator) (t:LK):Prop :=
 ∀(pins:List (Addr×Obj)) (s:Shared) (σ:St) (H:Hp) (x y:V) (v u:Value) (Q:VK),Inv X pins σ H s->RelV x v->RelV y u->t x y H Q →
  wpAny (model X.prog X.w) X.A (inplaceOp op v u) (EP X pins σ Q) X.xe s
section
variable {X:Cx} {pos:Pos}
def DB (i:Nat):TG:=λv σ H Q=>Q (σ.set i (some v)) H
theorem aK {i:Nat} {x:Str} (hN:X.N.Nodup) (hi:X.N[i]?=some x:=by exact rfl) (hx:Loc X.env.scope x:=by exact Or.inl rfl) (hf:X.fn x=true\/X.env.scope.names.lookup x=some .local:=by first | exact .inl rfl | exact .inr rfl | assumption):PG X (.Name x pos) (DB i):=by
 intro pins s σ H v u Q I r h;exact wpAny_assign_Name (tQ I hN hi hx r (λs' I'=>⟨_,H,I',h⟩) hf)
def LH:GJ:=λvs σ H Q=>vs=[]/\Q σ H
def Jo (t:TG) (u:GJ):GJ:=λvs σ H Q=>∃v r,vs=v :: r/\t v σ H λσ' H'=>u r σ' H' Q
theorem iX:LM X [] LH:=by
 intro pins s σ H vs us Q I r h;obtain ⟨e,h⟩:=h;subst e;cases r;exact assignInOrder_nil ⟨σ,H,I,h⟩
theorem cb {e:Expr} {es:List Expr} {t:TG} {u:GJ} (h1:PG X e t) (h2:LM X es u)
  (hs:(assignEach (e :: es) X.env).map (·.2)=assign e X.env :: (assignEach es X.env).map (·.2):=by rfl):LM X (e :: es) (Jo t u):=by
 intro pins s σ H vs us Q I r h;obtain ⟨v,vr,e1,h⟩:=h;subst e1;cases r with
 | cons r rr =>
  rw[hs];refine assignInOrder_cons (ff (h1 pins s σ H _ _ _ I r h) λ_ s1 ⟨σ1,H1,I1,q1⟩=>?_);exact h2 pins s1 σ1 H1 _ _ Q I1 rr q1
def Kq (K:FG9) (n:Nat) (t:GJ):TG:=λv σ H Q=>∃a xs,v=.ref a/\rH K H a xs/\xs.length=n/\t xs σ H Q
theorem w5 {es:List Expr} {k:Nat} {t:GJ} {n:Nat} (hc:X.calm=true) (h:LM X es t)
  (hn:(assignEach es X.env).length=n:=by rfl) (hst:(assignEach es X.env).findIdx? (·.1)=none:=by rfl):PG X (.Tuple es k pos) (Kq X.K n t):=by
 intro pins s σ H v u Q I r hw;obtain ⟨a,xs,e1,hq,hl,hw⟩:=hw;subst e1;cases r;obtain ⟨its,rv,ht,hz⟩:=I.tuple hq;refine assign_Tuple_tuple (I.ok.hd hc) ht (by simp [hn,<- hl,rv.length]) hst λh' hx=>?_
 have I1:Inv X pins σ H { s with heap:=h' }:=I.kept (t':=s.toks) λb o e=>hx b o (b7 (Heap.lt_size e)) e
 exact h pins _ σ H xs _ Q I1 (by simpa using rv) hw
def LG (to ti:TE) (t:CF):TG:=λv σ H Q=>to σ H λo H1=>ti σ H1 λi H2=>t o i v H2 λH3=>Q σ H3
theorem gR {o i : Expr} {to ti : TE} {t : CF} (ho : PE X o to) (hi : PE X i ti) (hs : Kz X t)
    (ha : ∀ v, assign (.Subscript o i pos) X.env v = (do
      let ov <- holding [v] (eval o X.env)
      let iv <- holding [v, ov] (eval i X.env)
      standAt pos
      holding [v, ov, iv] (setItem ov iv v)
      release [v, ov, iv] []) := by intro _; rfl) : PG X (.Subscript o i pos) (LG to ti t) := by
  intro pins s σ H v u Q I r h;rw [ha];refine wpAny_bind (wpAny_holding (ff (ho pins s σ H _ I h) λov s1 ⟨x, H1, I1, r1, q1⟩ => ?_));refine wpAny_bind (wpAny_holding (ff (hi pins s1 σ H1 _ I1 q1) λiv s2 ⟨y, H2, I2, r2, q2⟩ => ?_));refine wpAny_bind (wpAny_standAt (wpAny_bind (wpAny_holding (ff (hs pins s2 σ H2 x y v ov iv u _ I2 r1 r2 r q2) λ_ s3 ⟨H3, I3, q3⟩ => ?_))));exact wpAny_release ⟨σ, H3, I3, q3⟩
def G5 (te:TE) (g:TG):TS:=λD σ H=>te σ H λx H1=>g x σ H1 D.nx
theorem fB {tg e:Expr} {te:TE} {g:TG} (he:PE X e te) (hg:PG X tg g) (hs:swapsWithSole [tg] e pos.line X.env=pure false:=by rfl) (hw:swappedStores [tg] e X.env=pure none:=by rfl)
  (h1:(assignEach [tg] X.env).map (·.2)=[assign tg X.env]:=by rfl):PS X (.Assign [tg] e pos) (G5 te g):=by
 intro pins s σ H D I h;refine wpAny_Assign_stores (ff (he pins s σ H _ I h) λv s1 ⟨x,H1,I1,r1,q1⟩=>?_) hs hw;rw[h1];exact ff (hg pins s1 σ H1 x v _ I1 r1 q1) λ_ s2 q=>q
theorem aY {i:Nat} {x:Str} {e:Expr} {te:TE} {pos':Pos} (hN:X.N.Nodup) (hi:X.N[i]?=some x) (hx:Loc X.env.scope x) (he:PE X e te) (hs:swapsWith e (some (.Name x pos')) pos.line X.env=pure false:=by rfl) (hf:X.fn x=true\/X.env.scope.names.lookup x=some .local:=by first | exact .inl rfl | exact .inr rfl | assumption) :
  PS X (.Assign [.Name x pos'] e pos) (G5 te (DB i)):=by
 intro pins s σ H D I h;refine wpAny_Assign_Name (ff (he pins s σ H _ I h) λv s1 ⟨y,H1,I1,r1,q1⟩=>?_) hs;exact tQ I1 hN hi hx r1 (λs2 I2=>⟨_,H1,I2,q1⟩) hf
def K0 (i j:Nat) (ta:TA):TS:=λD σ H=>ta σ H λvs H1=>∃v w,vs=[v,w]/\D.nx ((σ.set i (some v)).set j (some w)) H1
theorem Fg {i j : Nat} {x y : Str} {a b : Expr} {ta : TA} {px py pt : Pos} {kt k2 pt2} (hc : X.calm = true) (hN : X.N.Nodup) (hi : X.N[i]? = some x) (hj : X.N[j]? = some y) (hij : i ≠ j)
    (hx : X.env.scope.names.lookup x = some .local) (hy : X.env.scope.names.lookup y = some .local) (ha : PA X [a, b] ta)
    (hw : swappedStores [.Tuple [.Name x px, .Name y py] kt pt] (.Tuple [a, b] k2 pt2) X.env = pure (some [x, y]))
    (hs : swapsWithSole [.Tuple [.Name x px, .Name y py] kt pt] (.Tuple [a, b] k2 pt2) pos.line X.env = pure false := by rfl) :
    PS X (.Assign [.Tuple [.Name x px, .Name y py] kt pt] (.Tuple [a, b] k2 pt2) pos) (K0 i j ta) := by
  intro pins s σ H D I h;rw [exec_Assign_arm];refine wpAny_bind (wpAny_standAt ?_);rw [hs];refine wpAny_bind (wpAny_pure ?_);rw [if_neg (by decide)];refine wpAny_bind (Tuple_ (ff (ha _ pins s σ H _ I h) λus s1 ⟨vs, H1, I1, r1, q1⟩ => ?_));obtain ⟨v, w, e1, q1⟩ := q1;subst e1
  obtain ⟨u1, u2, rfl, rv, rw'⟩ : ∃ u1 u2, us = [u1, u2] /\ RelV v u1 /\ RelV w u2 := by
    cases r1 with
    | cons p q =>
      cases q with
      | cons p' q' =>
        cases q';exact ⟨_, _, rfl, p, p'⟩
  refine wpAny_newObj_type ?_ (by show 2 ≤ sizeLine; decide);have I2 : Inv X pins σ H1 { s1 with heap := s1.heap.push { cls := .type "tuple", data := .seq [u1, u2].toArray } } := I1.kept (t' := s1.toks) λb o e => Heap.get?_push_of_some _ e
  rw [hw];refine wpAny_bind (wpAny_pure ?_);show wpAny (model X.prog X.w) X.A (do rule "assign.swapped-stores"; let items <- unpackItems (.ref s1.heap.objs.size) 2 none; assignInOrder [λv => bindName X.env y v, λv => bindName X.env x v] items.reverse; pure Flow.next) _ _ _
  refine wpAny_bind (wpAny_rule (wpAny_bind (unpackItems_tuple (items := #[u1, u2]) (I.ok.hd hc) (IsTup.new s1.heap _) λh' hx' => ?_)));have I3 := I2.kept (h' := h') (t' := s1.toks) λb o e => hx' b o (b7 (Heap.lt_size e)) e
  show wpAny _ _ (assignInOrder [λv => bindName X.env y v, λv => bindName X.env x v] [u2, u1] >>= λ_ => pure Flow.next) _ _ _
  refine wpAny_bind (assignInOrder_cons (wpAny_bindName (tQ I3 hN hj (.inl hy) rw' (λs2 I4 => ?_) (.inr hy))));refine assignInOrder_cons (wpAny_bindName (tQ I4 hN hi (.inl hx) rv (λs3 I5 => assignInOrder_nil (wpAny_pure ?_)) (.inr hx)));rw [List.set_comm _ _ (Ne.symm hij)] at I5;exact ⟨_, H1, I5, q1⟩
def Ja (to ti te:TE) (tget:V->V->Hp->VK->Prop) (tip:LK) (tset:CF):TS:=λD σ H=>to σ H λo H1=>ti σ H1 λi H2=>tget o i H2 λx H3=>te σ H3 λy H4=>tip x y H4 λz H5=>tset o i z H5 λH6=>D.nx σ H6
def LN (X:Cx) (t:V->V->Hp->VK->Prop):Prop :=
 ∀(pins:List (Addr×Obj)) (s:Shared) (σ:St) (H:Hp) (o i:V) (ov iv:Value) (Q:VK),Inv X pins σ H s->RelV o ov->RelV i iv->t o i H Q →
  wpAny (model X.prog X.w) X.A (getItem ov iv) (EP X pins σ Q) X.xe s
theorem Ic {o i e : Expr} {to ti te : TE} {tget : V → V → Hp → VK → Prop} {tip : LK} {tset : CF} {op : Operator} {tpos : Pos} (ho : PE X o to) (hi : PE X i ti) (hg : LN X tget) (he : PE X e te) (hp : PIp X op tip) (hs : Kz X tset)
    (ha : ∀ ov iv new, augStore i ov iv new = (do holding [new, ov, iv] (setItem ov iv new); release [new, ov, iv] []; pure .next) := by intros; rfl) : PS X (.AugAssign (.Subscript o i tpos) op e pos) (Ja to ti te tget tip tset) := by
  intro pins s σ H D I h;refine wpAny_AugAssign_SubscriptAny (ff (ho pins s σ H _ I h) λov s1 ⟨x1, H1, I1, r1, q1⟩ => ?_) ha;refine ff (hi pins s1 σ H1 _ I1 q1) λiv s2 ⟨x2, H2, I2, r2, q2⟩ => ?_
  refine ff (hg pins s2 σ H2 x1 x2 ov iv _ I2 r1 r2 q2) λold s3 ⟨x3, H3, I3, r3, q3⟩ => ?_
  refine ff (he pins s3 σ H3 _ I3 q3) λv s4 ⟨x4, H4, I4, r4, q4⟩ => ?_
  refine ff (hp pins s4 σ H4 x3 x4 old v _ I4 r3 r4 q4) λnew s5 ⟨x5, H5, I5, r5, q5⟩ => ?_
  exact ff (hs pins s5 σ H5 x1 x2 x5 ov iv new _ I5 r1 r2 r5 q5) λ_ s6 ⟨H6, I6, q6⟩ => ⟨σ, H6, I6, q6⟩
def ipI (f:Int->Int->Int):LK:=λx y H Q=>∃i j,x=.int i/\y=.int j/\Q (.int (f i j)) H
theorem Km:PIp X .Add (ipI λi j=>i+j):=by
 intro pins s σ H x y v u Q I r1 r2 h;obtain ⟨i,j,e1,e2,q⟩:=h;subst e1;subst e2;obtain ⟨t,rfl⟩:=r1;obtain ⟨t',rfl⟩:=r2;exact iadd_int ⟨.int _,H,I.tok _,⟨_,rfl⟩,q⟩
end
section
variable {X:Cx} {pos:Pos}
def EK (c:TT) (tb:TS):TS:=λD σ H=>∃W:Nat->St->Hp->Prop,(∃m,W m σ H)/\∀m σ H,W m σ H →
 c σ H λb H1=>if b=true then ∃N:St->Hp->Prop,(∀σ' H',N σ' H'->∃m',m' < m/\W m' σ' H')/\tb { D with nx:=N,ct:=N,bk:=D.nx } σ H1 else D.nx σ H1
theorem wY {c:Expr} {body:List Stmt} {tc:TT} {tb:TS} (hp:PassesOwn (model X.prog X.w) X.A X.env X.xe) (hc:PT X c tc) (hb:CK X body tb):PS X (.While c body [] pos) (EK tc tb):=by
 intro pins s σ H D I h;obtain ⟨W,⟨m0,w0⟩,turn⟩:=h;refine wpAny_While (codeAny_whileLoop (λn s'=>∃σ' H',Inv X pins σ' H' s'/\W n σ' H') ?_ m0 ⟨σ,H,I,w0⟩);rintro n s1 ⟨σ1,H1,I1,w1⟩;refine wpAny_passesOwn hp (ff (hc pins s1 σ1 H1 _ I1 (turn n σ1 H1 w1)) λb s2 ⟨H2,I2,q2⟩=>?_);cases b with
 | true =>
  obtain ⟨N,hN,q2⟩:=q2;rw[if_pos rfl];refine wpAny_passesOwn hp (ff (hb pins s2 σ1 H2 _ I2 q2) λf s3 q3=>?_);cases f with
  | next =>
   obtain ⟨σ3,H3,I3,n3⟩:=q3;obtain ⟨m',hm,w3⟩:=hN σ3 H3 n3;exact ⟨m',hm,σ3,H3,I3,w3⟩
  | cont =>
   obtain ⟨σ3,H3,I3,n3⟩:=q3;obtain ⟨m',hm,w3⟩:=hN σ3 H3 n3;exact ⟨m',hm,σ3,H3,I3,w3⟩
  | brk=>exact q3
  | ret v=>exact q3
 | false =>
  rw[if_neg aT];exact wpAny_execs_nil ⟨σ1,H2,I2,q2⟩
end
structure It where
 go:Nat->Hp->Prop
 yld:Nat->Hp->V->Hp->Prop
 stop:Nat->Hp->Prop
def jA (X:Cx) (pins:List (Addr×Obj)) (H:Hp) (b:Addr):Prop :=
 H b=none/\b≠X.env.locals/\b∉X.fs/\(b∈X.ex\/X.s₀.heap.objs.size<=b)/\(∀x c,X.env.cells.lookup x=some c->c≠b)/\∀p∈X.pn++pins,p.1≠b
theorem Inv.fpOk {X:Cx} {pins:List (Addr×Obj)} {σ:St} {H H':Hp} {s:Shared} {b:Addr} (I:Inv X pins σ H s) (hb:s.heap.objs.size<=b) (hn:H' b=none):jA X pins H' b:=by
 refine ⟨hn,DS (aZ I.lt hb),I.nofs hb,.inr (ai I.sz hb),λx c e z=>?_,λp hp z=>?_⟩
 ·obtain ⟨v,q⟩:=I.cell x c e;exact absurd (aZ q.lt (by rw[z];exact hb)) (dJ _)
 ·exact absurd (aZ (Heap.lt_size (I.pin p hp).1) (by rw[z];exact hb)) (dJ _)
structure Turn (P:Program) (w:World) (K:FG9) (tg:Expr) (J:It) (fp:List Addr) (it:Addr) (tn:Nat->Heap->Prop):Prop where
 mem:it∈fp
 obj:∀i h,tn i h->∀b∈fp,∃o,h.get? b=some o/\∀v,o.data≠.cell v
 keep:∀i h h',tn i h->(∀b∈fp,∀o,h.get? b=some o->h'.get? b=some o)->tn i h'
 item:∀(X:Cx),X.prog=P->X.w=w->X.K=K->X.calm=true->∀(i:Nat) (pins:List (Addr×Obj)) (s:Shared) (σ:St) (H:Hp) (E:Value->Shared->Prop),Inv X pins σ H s->(∀b∈fp,jA X pins H b)->tn i s.heap->J.go i H →
  wpAny (model P w) X.A (pyNext (.ref it)) (λr s1=>∃u,r=some u /\
   wpAny (model P w) X.A (letOwnedTupleGo tg (.ref it) u) (λ_ s2=>∃x H',Inv X pins σ H' s2/\RelV x u/\J.yld i H x H'/\tn (i+1) s2.heap/\∀b∈fp,H' b=none) E s1) E s
 done:∀(X:Cx),X.prog=P->X.w=w->X.K=K->X.calm=true->∀(i:Nat) (pins:List (Addr×Obj)) (s:Shared) (σ:St) (H:Hp) (E:Value->Shared->Prop),Inv X pins σ H s->(∀b∈fp,jA X pins H b)->tn i s.heap->J.stop i H →
  wpAny (model P w) X.A (pyNext (.ref it)) (λr s1=>r=none/\Inv X pins σ H s1) E s
 self:∀(A:Around) (i:Nat) (s:Shared) (Q:Value->Shared->Prop) (E:Value->Shared->Prop),tn i s.heap->Q (.ref it) s->wpAny (model P w) A (pyIter (.ref it)) Q E s
abbrev TI:=St->Hp->(It->Hp->Prop)->Prop
def PIE (X:Cx) (pins:List (Addr×Obj)) (σ:St) (tg:Expr) (R:It->Hp->Prop) (itv:Value) (s2:Shared):Prop :=
 ∃(it:Addr) (fp:List Addr) (tn:Nat->Heap->Prop) (J:It) (H':Hp),itv=.ref it/\Inv X pins σ H' s2/\Turn X.prog X.w X.K tg J fp it tn/\tn 0 s2.heap/\(∀b∈fp,jA X pins H' b)/\R J H'
def PI (X:Cx) (tg iter:Expr) (wi:TI):Prop :=
 ∀(pins:List (Addr×Obj)) (s:Shared) (σ:St) (H:Hp) (R:It->Hp->Prop),Inv X pins σ H s->wi σ H R →
  wpAny (model X.prog X.w) X.A (eval iter X.env) (λv s1=>wpAny (model X.prog X.w) X.A (pyIter v) (PIE X pins σ tg R) X.xe s1) X.xe s
theorem Jn {M : Model} {A : Around} {E : Value → Shared → Prop} {s : Shared} {tg : Expr} {it : Addr} {u : Value} {o : Obj} {n : String} {vs : Array Value} {Q : Unit → Shared → Prop} (ho : s.heap.get? it = some o) (hc : o.cls = .type n) (hd : o.data = .fields vs)
    (hn : ["enumerate", "zip", "dict_itemiterator", "dict_reverseitemiterator", "odict_iterator", "itertools.zip_longest", "itertools.pairwise"].contains n = false) (hQ : Q () s) : wpAny M A (letOwnedTupleGo tg (.ref it) u) Q E s := by
  unfold letOwnedTupleGo
  cases tg <;> first
    | exact wpAny_pure hQ
    | (cases u <;> first
        | exact wpAny_pure hQ
        | (refine wpAny_bind (wpAny_load ho ?_)
           rw [hc, hd];show wpAny M A (if (["enumerate", "zip", "dict_itemiterator", "dict_reverseitemiterator", "odict_iterator", "itertools.zip_longest", "itertools.pairwise"].contains n && vs[0]? == some (rawInt _)) = true then _ else _) Q E s
           rw [if_neg (by intro h; rw [hn, Bool.false_and] at h; cases h)];exact wpAny_pure hQ))

def Jt (K:FG9) (a:Addr):It :=
 ⟨λi H=>∃xs x,bI K H a xs/\xs[i]?=some x,λi H x H'=>H'=H/\∀xs,bI K H a xs->xs[i]?=some x,λi H=>∃xs,bI K H a xs/\xs.length<=i⟩
def BL (lo:Int) (n:Nat):It:=⟨λi _=>i < n,λi H x H'=>H'=H/\x=.int (lo+i),λi _=>n<=i⟩
theorem DU {P:Program} {w:World} {K:FG9} {tg:Expr} (a it:Addr):Turn P w K tg (Jt K a) [it] it (λi h=>h.IsListIter it a i) where
 mem:=by simp
 obj:=λi h st b hb=>by
  have e:b=it:=by simpa using hb
  subst e;obtain ⟨o,e,c,d⟩:=st;exact ⟨o,e,λv z=>by rw[d] at z;cases z⟩
 keep:=λi h h' st k=>st.at λo e=>k it (by simp) o e
 item:=by
  intro X hP hw hK hc i pins s σ H E I hf st hg;subst hP hw hK;obtain ⟨xs,x,hq,hx⟩:=hg;obtain ⟨its,rv,p,hz⟩:=I.list hq;obtain ⟨u,hu,ru⟩:=rv.get hx;obtain ⟨f0,f1,f2,f3,f4,f5⟩:=hf it (by simp);refine wpAny_pyNext_list_item st p.isList (x:=u) (by simpa using hu) λh' st' sb=>?_
  have I1:Inv X pins σ H { s with heap:=h' }:=I.turned (t':=s.toks) (λb o hb e=>(sb.2 b hb).trans e) f0 f1 f3 f4 f5;obtain ⟨o,e,c,d⟩:=id st';exact ⟨u,rfl,Jn (s:={ s with heap:=h' }) e c d (by decide) ⟨x,H,I1,ru,⟨rfl,λys hy=>by rw[I.list_inj hy hq];exact hx⟩,st',λb hb=>(hf b hb).1⟩⟩
 done:=by
  intro X hP hw hK hc i pins s σ H E I hf st hg;subst hP hw hK;obtain ⟨xs,hq,hx⟩:=hg;obtain ⟨its,rv,p,hz⟩:=I.list hq;obtain ⟨f0,f1,f2,f3,f4,f5⟩:=hf it (by simp);have hl:=rv.length;exact wpAny_pyNext_list_end (I.ok.hd hc) st p.isList (by simp;lia) λh' eb=>⟨rfl,I.turned (t':=s.toks) (λb o hb e=>eb b o hb e) f0 f1 f3 f4 f5⟩
 self:=λ_ _ _ _ _ st h=>wpAny_pyIter_listiter st h
theorem BS {P:Program} {w:World} {K:FG9} {tg:Expr} (it:Addr) (lo:Int) (n:Nat):Turn P w K tg (BL lo n) [it] it (λi h=>IsRangeIter h it (lo+(i:Nat)*1) ((n:Int) - (i:Nat)) 1) where
 mem:=by simp
 obj:=λi h st b hb=>by
  have e:b=it:=by simpa using hb
  subst e
  exact ⟨_,st,λv z=>by
   have z':Data.fields _=Data.cell v:=z;cases z'⟩
 keep:=λi h h' st k=>k it (by simp) _ st
 item:=by
  intro X hP hw hK hc i pins s σ H E I hf st hg;subst hP hw hK;obtain ⟨f0,f1,f2,f3,f4,f5⟩:=hf it (by simp);have W:=Walks.range (prog:=X.prog) (w:=X.w) (I.ok.hd hc) it lo 1 n;refine W.item i s _ _ hg st λv h' tk hv st' kk=>?_
  obtain ⟨t,rfl⟩:=hv;have I1:Inv X pins σ H { s with heap:=h',toks:=tk }:=I.turned (λb o hb e=>kk b o (by simpa using hb) e) f0 f1 f3 f4 f5;refine ⟨_,rfl,Jn (s:={ s with heap:=h',toks:=tk }) (n:="range_iterator") st' rfl rfl (by decide) ⟨.int (lo+i),H,I1,⟨t,?_⟩,⟨rfl,rfl⟩,st',λb hb=>(hf b hb).1⟩⟩;rw[Int.mul_one]
 done:=by
  intro X hP hw hK hc i pins s σ H E I hf st hg;subst hP hw hK;obtain ⟨f0,f1,f2,f3,f4,f5⟩:=hf it (by simp);exact wpAny_pyNext_range_end (I.ok.hd hc) st (by have:n<=i:=hg;lia) λh' eb=>⟨rfl,I.turned (t':=s.toks) (λb o hb e=>eb b o hb e) f0 f1 f3 f4 f5⟩
 self:=λ_ _ _ _ _ st h=>wpAny_pyIter_rangeiter st h
section
variable {X:Cx} {tg:Expr}
def FI (K:FG9) (tl:TE):TI:=λσ H R=>tl σ H λx H1=>∃a,x=.ref a/\(∃xs,bI K H1 a xs)/\R (Jt K a) H1
theorem cG {l:Expr} {tl:TE} (hl:PE X l tl):PI X tg l (FI X.K tl):=by
 intro pins s σ H R I h;refine ff (hl pins s σ H _ I h) λv s1 ⟨x,H1,I1,r1,q1⟩=>?_
 obtain ⟨a,e,⟨xs,hq⟩,q⟩:=q1;subst e;cases r1;obtain ⟨its,rv,p,hz⟩:=I1.list hq;refine wpAny_pyIter_list p.isList ?_;refine ⟨s1.heap.objs.size,[s1.heap.objs.size],_,_,H1,rfl,I1.kept (t':=s1.toks) λb o e=>Heap.get?_push_of_some _ e,DU a _,⟨_,Heap.get?_push_size _ rfl,rfl,rfl⟩,λb hb=>?_,q⟩;have e:b=s1.heap.objs.size:=by simpa using hb
 subst e;exact I1.fpOk (au _) (I1.hok.fresh (au _))
theorem AX {pins:List (Addr×Obj)} {σ:St} {H:Hp} {s:Shared} {R:It->Hp->Prop} {E:Value->Shared->Prop} {lo hi:Int} {t u v:Tok} {tk:Nat} (I:Inv X pins σ H s) (h1:-(2^62)<=lo) (h2:lo < 2^62) (h3:-(2^62)<=hi) (h4:hi < 2^62)
  (q:R (BL lo (hi - lo).toNat) H):wpAny (model X.prog X.w) X.A (pyIter (.ref s.heap.objs.size)) (PIE X pins σ tg R) E { s with heap:=s.heap.push { cls:=.type "range",data:=.fields #[.int lo t,.int hi u,.int 1 v] },toks:=tk }:=by
 refine wpAny_pyIter_range (IsRange.new ..) (small_one h1 h2 h3 h4) ?_;have I1:Inv X pins σ H { s with heap:=s.heap.push { cls:=.type "range",data:=.fields #[.int lo t,.int hi u,.int 1 v] },toks:=tk }:=I.kept λb o e=>Heap.get?_push_of_some _ e
 refine ⟨(s.heap.push { cls:=.type "range",data:=.fields #[.int lo t,.int hi u,.int 1 v] }).objs.size,[(s.heap.push { cls:=.type "range",data:=.fields #[.int lo t,.int hi u,.int 1 v] }).objs.size],_,_,H,rfl,
  I1.kept (t':=tk) λb o e=>Heap.get?_push_of_some _ e,BS _ lo (hi - lo).toNat,?_,λb hb=>?_,q⟩
 ·have e1:lo+((0:Nat):Int)*1=lo:=by simp
  have e2:(((hi - lo).toNat:Nat):Int) - ((0:Nat):Int)=Builtin.Range.rangeSize lo hi 1:=by rw[rangeSize_one];split <;> lia
  show IsRangeIter _ _ (lo+((0:Nat):Int)*1) ((((hi - lo).toNat:Nat):Int) - ((0:Nat):Int)) 1
  rw[e1,e2];exact Heap.get?_push_size _ rfl
 ·have e:b=(s.heap.push { cls:=.type "range",data:=.fields #[.int lo t,.int hi u,.int 1 v] }).objs.size:=by simpa using hb
  subst e;exact I1.fpOk (au _) (I1.hok.fresh (au _))
def Jk (ta:TA):TI:=λσ H R=>ta σ H λvs H1=>∃j:Int,vs=[.int j]/\-(2^62)<=j/\j < 2^62/\R (BL 0 j.toNat) H1
def Jj (ta:TA):TI:=λσ H R=>ta σ H λvs H1=>∃i j:Int,vs=[.int i,.int j]/\(-(2^62)<=i/\i < 2^62/\-(2^62)<=j/\j < 2^62)/\R (BL i (j - i).toNat) H1
theorem cx {a:Expr} {ta:TA} {p pos:Pos} (hg:Gl X "range") (hm:X.mg "range"=none) (ha:PA X [a] ta) (hs:starEach [a] X.env=[(false,eval a X.env)]:=by rfl):PI X tg (.Call (.Name "range" p) [a] [] pos) (Jk ta):=by
 intro pins s σ H R I h;refine Call_ (kr I hg hm boot_range (PyProof.Rows.callWith_type1 (ff (ha pos pins s σ H _ I h) λus s1 ⟨vs,H1,I1,r1,q1⟩=>?_) hs rfl));obtain ⟨j,e,q1,q2,q⟩:=q1;subst e;cases r1 with
 | cons r rr =>
  cases rr;obtain ⟨t,rfl⟩:=r;exact call_range_1 (AX I1 (by lia) (by lia) q1 q2 (by simpa using q))
theorem Ea {a b:Expr} {ta:TA} {p pos:Pos} (hg:Gl X "range") (hm:X.mg "range"=none) (ha:PA X [a,b] ta) (hs:starEach [a,b] X.env=[(false,eval a X.env),(false,eval b X.env)]:=by rfl) (hs2:starEach [b] X.env=[(false,eval b X.env)]:=by rfl) :
  PI X tg (.Call (.Name "range" p) [a,b] [] pos) (Jj ta):=by
 intro pins s σ H R I h;refine Call_ (kr I hg hm boot_range (PyProof.Rows.callWith_type1 (ff (ha pos pins s σ H _ I h) λus s1 ⟨vs,H1,I1,r1,q1⟩=>?_) (by rw[hs,hs2]) (by rw[hs2];rfl)));obtain ⟨i,j,e,⟨q1,q2,q3,q4⟩,q⟩:=q1;subst e;cases r1 with
 | cons r rr =>
  cases rr with
  | cons r' rr =>
   cases rr;obtain ⟨t,rfl⟩:=r;obtain ⟨t',rfl⟩:=r';exact call_range_2 (AX I1 q1 q2 q3 q4 q)
def K6 (wi:TI) (g:TG) (tb:TS):TS:=λD σ H=>wi σ H λJ H1=>∃W:Nat->Nat->St->Hp->Prop,(∃m,W 0 m σ H1)/\∀i m σ H,W i m σ H →
 (J.stop i H/\D.nx σ H)\/(J.go i H/\∃N:St->Hp->Prop,(∀σ' H',N σ' H'->∃m',m' < m/\W (i+1) m' σ' H')/\∀x H',J.yld i H x H'->g x σ H' λσ2 H2=>tb { D with nx:=N,ct:=N,bk:=D.nx } σ2 H2)
def wZ (fp:List Addr) (h:Heap):List (Addr×Obj):=fp.filterMap λb=>(h.get? b).map λo=>(b,o)
theorem oT {fp:List Addr} {h:Heap} {b:Addr} {o:Obj} (hb:b∈fp) (e:h.get? b=some o):(b,o)∈wZ fp h:=List.mem_filterMap.mpr ⟨b,hb,by rw[e];rfl⟩
theorem Ed {fp:List Addr} {h:Heap} {p:Addr×Obj} (hp:p∈wZ fp h):p.1∈fp/\h.get? p.1=some p.2:=by
 obtain ⟨b,hb,e⟩:=List.mem_filterMap.mp hp;cases q:h.get? b with
 | none=>rw[q] at e;cases e
 | some o =>
  rw[q] at e;have e':(b,o)=p:=bp e;subst e';exact ⟨hb,q⟩
theorem Inv.pinned {pins:List (Addr×Obj)} {σ:St} {H:Hp} {s:Shared} {fp:List Addr} (I:Inv X pins σ H s) (hf:∀b∈fp,jA X pins H b) (ho:∀b∈fp,∃o,s.heap.get? b=some o/\∀v,o.data≠.cell v):Inv X (pins++wZ fp s.heap) σ H s :=
 I.pins_of λp hp=>(aI.mp hp).elim (λz=>I.pin p (bG _ z)) λz=>by
  obtain ⟨hb,e⟩:=Ed z;obtain ⟨f0,f1,f2,_⟩:=hf p.1 hb;obtain ⟨o,e',d⟩:=ho p.1 hb;rw[e] at e';cases e';exact ⟨e,f0,f1,f2,d⟩
theorem Inv.unpinned {pins pl:List (Addr×Obj)} {σ:St} {H:Hp} {s:Shared} (I:Inv X (pins++pl) σ H s):Inv X pins σ H s:=I.pins_of λp hp=>I.pin p (bG _ (jk _ hp))
theorem eS {iter : Expr} {body : List Stmt} {wi : TI} {g : TG} {tb : TS} {pos : Pos} (hp : PassesOwn (model X.prog X.w) X.A X.env X.xe) (hc : X.calm = true) (hi : PI X tg iter wi) (hg : PG X tg g) (hb : CK X body tb)
    (hs : ∀ x, foldedSetIterable iter X.env x = pure x := by intro _; rfl) : PS X (.For tg iter body [] pos) (K6 wi g tb) := by
  intro pins s σ H D I h;refine wpAny_For (ff (hi pins s σ H _ I h) λv s1 h1 => ff h1 λitv s2 h2 => ?_) hs;obtain ⟨it, fp, tn, J, H2, e, I2, T, st2, f2, W, ⟨m0, w0⟩, turn⟩ := h2;subst e;have stat : ∀ {H' : Hp}, (∀ b ∈ fp, H' b = none) → ∀ b ∈ fp, jA X pins H' b := λhn b hb => ⟨hn b hb, (f2 b hb).2⟩
  refine codeAny_forLoop_any (λn s' => ∃ i σ' H', Inv X pins σ' H' s' /\ tn i s'.heap /\ (∀ b ∈ fp, H' b = none) /\ W i n σ' H') ?_ m0 ⟨0, σ, H2, I2, st2, λb hb => (f2 b hb).1, w0⟩;rintro n s3 ⟨i, σ3, H3, I3, st3, fr3, w3⟩;rcases turn i n σ3 H3 w3 with ⟨stop, qn⟩ | ⟨go, N, hN, step⟩
  · refine wpAny_passesOwn hp (ff (T.done X rfl rfl rfl hc i pins s3 σ3 H3 X.xe I3 (stat fr3) st3 stop) λr s4 ⟨hr, I4⟩ => ?_);subst hr;exact wpAny_execs_nil ⟨σ3, H3, I4, qn⟩
  · refine wpAny_passesOwn hp (ff (T.item X rfl rfl rfl hc i pins s3 σ3 H3 X.xe I3 (stat fr3) st3 go) λr s4 ⟨u, hr, h4⟩ => ?_);subst hr;refine wpAny_passesOwn hp (ff h4 λ_ s5 ⟨x, H5, I5, r5, y5, st5, fr5⟩ => ?_);have I5' := I5.pinned (stat fr5) (T.obj _ _ st5);refine wpAny_passesOwn hp (ff (hg _ s5 σ3 H5 x u _ I5' r5 (step x H5 y5)) λ_ s6 ⟨σ6, H6, I6, q6⟩ => ?_);refine wpAny_passesOwn hp (ff (hb _ s6 σ6 H6 _ I6 q6) λf s7 q7 => ?_)
    have again : ∀ {σ7 : St} {H7 : Hp}, Inv X (pins ++ wZ fp s5.heap) σ7 H7 s7 → N σ7 H7 → ∃ m, m < n /\ ∃ i σ' H', Inv X pins σ' H' s7 /\ tn i s7.heap /\ (∀ b ∈ fp, H' b = none) /\ W i m σ' H' := λ{σ7 H7} I7 n7 => by
      obtain ⟨m', hm, w7⟩ := hN σ7 H7 n7;refine ⟨m', hm, i + 1, σ7, H7, I7.unpinned, T.keep _ _ _ st5 λb hb o e => (I7.pin (b, o) (bG _ (bG _ (oT hb e)))).1, λb hb => ?_, w7⟩;obtain ⟨o, e, d⟩ := T.obj _ _ st5 b hb;exact (I7.pin (b, o) (bG _ (bG _ (oT hb e)))).2.1
    cases f with
    | next => obtain ⟨σ7, H7, I7, n7⟩ := q7; exact again I7 n7
    | cont => obtain ⟨σ7, H7, I7, n7⟩ := q7; exact again I7 n7
    | brk => obtain ⟨σ7, H7, I7, q7⟩ := q7; exact ⟨σ7, H7, I7.unpinned, q7⟩
    | ret v => obtain ⟨x7, σ7, H7, I7, r7, q7⟩ := q7; exact ⟨x7, σ7, H7, I7.unpinned, r7, q7⟩
end
theorem ou {K:FG9} {a:Addr} {xs:List V} {g:TG} {tb:TS} {D:Ends} {σ:St} {H:Hp} (Pv:Nat->St->Hp->Prop) (h0:Pv 0 σ H) (hl:∀i σ H,i<=xs.length->Pv i σ H->bI K H a xs)
  (hs:∀i x σ H,xs[i]?=some x->Pv i σ H->g x σ H λσ2 H2=>tb { D with nx:=Pv (i+1),ct:=Pv (i+1),bk:=D.nx } σ2 H2) (hd:∀σ H,Pv xs.length σ H->D.nx σ H) :
  ∃W:Nat->Nat->St->Hp->Prop,(∃m,W 0 m σ H)/\∀i m σ H,W i m σ H →
   ((Jt K a).stop i H/\D.nx σ H)\/((Jt K a).go i H/\∃N:St->Hp->Prop,(∀σ' H',N σ' H'->∃m',m' < m/\W (i+1) m' σ' H')/\∀x H',(Jt K a).yld i H x H'->g x σ H' λσ2 H2=>tb { D with nx:=N,ct:=N,bk:=D.nx } σ2 H2):=by
 refine ⟨λi m σ H=>m=xs.length - i/\i<=xs.length/\Pv i σ H,⟨xs.length,by simp,bo _,h0⟩,?_⟩;rintro i m σ H ⟨rfl,hi,p⟩;have q:=hl i σ H hi p;by_cases hlt:i < xs.length
 ·refine .inr ⟨⟨xs,xs[i],q,by simp [hlt]⟩,Pv (i+1),λσ' H' p'=>⟨xs.length - (i+1),by lia,rfl,hlt,p'⟩,λx H' y=>?_⟩;obtain ⟨e,y⟩:=y;subst e;exact hs i x σ _ (y xs q) p
 ·have e:i=xs.length:=by lia
  subst e;exact .inl ⟨⟨xs,q,au _⟩,hd σ H p⟩
theorem yW {lo:Int} {n:Nat} {g:TG} {tb:TS} {D:Ends} {σ:St} {H:Hp} (Pv:Nat->St->Hp->Prop) (h0:Pv 0 σ H)
  (hs:∀i σ H,i < n->Pv i σ H->g (.int (lo+i)) σ H λσ2 H2=>tb { D with nx:=Pv (i+1),ct:=Pv (i+1),bk:=D.nx } σ2 H2) (hd:∀σ H,Pv n σ H->D.nx σ H) :
  ∃W:Nat->Nat->St->Hp->Prop,(∃m,W 0 m σ H)/\∀i m σ H,W i m σ H →
   ((BL lo n).stop i H/\D.nx σ H)\/((BL lo n).go i H/\∃N:St->Hp->Prop,(∀σ' H',N σ' H'->∃m',m' < m/\W (i+1) m' σ' H')/\∀x H',(BL lo n).yld i H x H'->g x σ H' λσ2 H2=>tb { D with nx:=N,ct:=N,bk:=D.nx } σ2 H2):=by
 refine ⟨λi m σ H=>m=n - i/\i<=n/\Pv i σ H,⟨n,by simp,bo _,h0⟩,?_⟩;rintro i m σ H ⟨rfl,hi,p⟩;by_cases hlt:i < n
 ·refine .inr ⟨hlt,Pv (i+1),λσ' H' p'=>⟨n - (i+1),by lia,rfl,hlt,p'⟩,λx H' y=>?_⟩;obtain ⟨e,y⟩:=y;subst e y;exact hs i σ _ hlt p
 ·have e:i=n:=by lia
  subst e;exact .inl ⟨au _,hd σ H p⟩
abbrev R2:=V->V->Hp->VK->Prop
def vX (X:Cx) (f:Value->Value->Sem Value) (r:R2):Prop :=
 ∀(pins:List (Addr×Obj)) (s:Shared) (σ:St) (H:Hp) (x y:V) (v u:Value) (Q:VK),Inv X pins σ H s->RelV x v->RelV y u->r x y H Q →
  wpAny (model X.prog X.w) X.A (f v u) (EP X pins σ Q) X.xe s
def Mn (X:Cx) (f:Value->Sem Value) (r:V->Hp->VK->Prop):Prop :=
 ∀(pins:List (Addr×Obj)) (s:Shared) (σ:St) (H:Hp) (x:V) (v:Value) (Q:VK),Inv X pins σ H s->RelV x v->r x H Q →
  wpAny (model X.prog X.w) X.A (f v) (EP X pins σ Q) X.xe s
def qM (X:Cx) (f:Value) (r:List V->Hp->VK->Prop):Prop :=
 ∀(pins:List (Addr×Obj)) (s:Shared) (σ:St) (H:Hp) (xs:List V) (us:List Value) (Q:VK),Inv X pins σ H s->cp xs us->r xs H Q →
  wpAny (model X.prog X.w) X.A (call f us) (EP X pins σ Q) X.xe s
def K2 (r:R2) (ta tb:TE):TE:=λσ H Q=>ta σ H λx H1=>tb σ H1 λy H2=>r x y H2 Q
def KS (r:V->Hp->VK->Prop) (ta:TE):TE:=λσ H Q=>ta σ H λx H1=>r x H1 Q
def rI (C:Int->Int->Prop) (g:Int->Int->V):R2:=λx y H Q=>∃i j,x=.int i/\y=.int j/\C i j/\Q (g i j) H
def Ib (g:Int->Int->V):R2:=λx y H Q=>∃i j,x=.int i/\y=.int j/\Q (g i j) H
def rU (g:Int->V):V->Hp->VK->Prop:=λx H Q=>∃i,x=.int i/\Q (g i) H
section
variable {X:Cx} {a b c:Expr} {ta tb tc:TE} {pos:Pos}
theorem Kw (ha:PE X a ta) (hb:PE X b tb) {pins:List (Addr×Obj)} {s:Shared} {σ:St} {H:Hp} {R:V->V->Hp->Prop} (I:Inv X pins σ H s)
  (h:ta σ H λx H1=>tb σ H1 λy H2=>R x y H2) {Q:Value->Shared->Prop} {f:Value->Value->Sem Value}
  (hf:∀v u s2 x y H2,Inv X pins σ H2 s2->RelV x v->RelV y u->R x y H2->wpAny (model X.prog X.w) X.A (f v u) Q X.xe s2) :
  wpAny (model X.prog X.w) X.A (eval a X.env) (λv s₁=>wpAny (model X.prog X.w) X.A (eval b X.env) (λu s₂=>wpAny (model X.prog X.w) X.A (f v u) Q X.xe s₂) X.xe s₁) X.xe s:=by
 refine ff (ha pins s σ H _ I h) λv s1 ⟨x,H1,I1,r1,q1⟩=>?_
 refine ff (hb pins s1 σ H1 _ I1 q1) λu s2 ⟨y,H2,I2,r2,q2⟩=>?_
 exact hf v u s2 x y H2 I2 r1 r2 q2
theorem bN {op:Operator} {r:R2} (ho:vX X (binaryOp op) r) (ha:PE X a ta) (hb:PE X b tb):PE X (.BinOp a op b pos) (K2 r ta tb):=by
 intro pins s σ H Q I h;exact wpAny_BinOp (Kw ha hb I h λv u s2 x y H2 I2 rx ry q=>ho pins s2 σ H2 x y v u Q I2 rx ry q)
theorem xa {op:UnaryOp} {r:V->Hp->VK->Prop} (ho:Mn X (unaryOp op) r) (ha:PE X a ta):PE X (.UnaryOp op a pos) (KS r ta):=by
 intro pins s σ H Q I h;exact UnaryOp_ (ff (ha pins s σ H _ I h) λv s1 ⟨x,H1,I1,r1,q1⟩=>ho pins s1 σ H1 x v Q I1 r1 q1)
theorem LZ {f:Value->Value->Sem Value} {C:Int->Int->Prop} {g:Int->Int->Int}
  (rule:∀(i j:Int) (t u:Tok) (s:Shared) (Q:Value->Shared->Prop) (E:Value->Shared->Prop),C i j->Q (.int (g i j) s.toks) { s with toks:=s.toks+1 }->wpAny (model X.prog X.w) X.A (f (.int i t) (.int j u)) Q E s) :
  vX X f (rI C λi j=>.int (g i j)):=by
 intro pins s σ H x y v u Q I rx ry h;obtain ⟨i,j,rfl,rfl,hc,q⟩:=h;obtain ⟨t,rfl⟩:=rx;obtain ⟨t',rfl⟩:=ry;exact rule i j t t' s _ _ hc ⟨.int (g i j),H,I.tok _,⟨_,rfl⟩,q⟩
theorem Ls {f:Value->Value->Sem Value} {g:Int->Int->Int}
  (rule:∀(i j:Int) (t u:Tok) (s:Shared) (Q:Value->Shared->Prop) (E:Value->Shared->Prop),Q (.int (g i j) s.toks) { s with toks:=s.toks+1 }->wpAny (model X.prog X.w) X.A (f (.int i t) (.int j u)) Q E s) :
  vX X f (Ib λi j=>.int (g i j)):=by
 intro pins s σ H x y v u Q I rx ry h;obtain ⟨i,j,rfl,rfl,q⟩:=h;obtain ⟨t,rfl⟩:=rx;obtain ⟨t',rfl⟩:=ry;exact rule i j t t' s _ _ ⟨.int (g i j),H,I.tok _,⟨_,rfl⟩,q⟩
theorem Im {f:Value->Value->Sem Value} {g:Int->Int->Bool}
  (rule:∀(i j:Int) (t u:Tok) (s:Shared) (Q:Value->Shared->Prop) (E:Value->Shared->Prop),Q (.bool (g i j)) s->wpAny (model X.prog X.w) X.A (f (.int i t) (.int j u)) Q E s) :
  vX X f (Ib λi j=>.bl (g i j)):=by
 intro pins s σ H x y v u Q I rx ry h;obtain ⟨i,j,rfl,rfl,q⟩:=h;obtain ⟨t,rfl⟩:=rx;obtain ⟨t',rfl⟩:=ry;exact rule i j t t' s _ _ ⟨.bl (g i j),H,I,rfl,q⟩
def KE (i j:Int):Prop:=(-(2^64) < i/\i < 2^64)\/(-(2^64) < j/\j < 2^64)
theorem KE.ok {i j:Int} (h:KE i j):IntMulOk i j:=by
 rcases h with ⟨h1,h2⟩ | ⟨h1,h2⟩
 ·exact .of_left (intBits_le_64 h1 h2)
 ·exact .of_right (intBits_le_64 h1 h2)
theorem ig:vX X (binaryOp .Add) (Ib λi j=>.int (i+j)):=Ls λ_ _ _ _ _ _ _ q=>add_int q
theorem p9:vX X (binaryOp .Sub) (Ib λi j=>.int (i - j)):=Ls λ_ _ _ _ _ _ _ q=>sub_int q
theorem nN:vX X (binaryOp .Mod) (rI (λ_ j=>0 < j) λi j=>.int (i % j)):=LZ λi j _ _ _ _ _ hc q=>by
 have h1:(0:Int) < j:=hc;exact mod_int' (by lia) (by rw[Int.fmod_eq_emod_of_nonneg i (by lia)];exact q)
theorem Il:vX X (binaryOp .Mod) (rI (λ_ j=>j≠0) λi j=>.int (i.fmod j)):=LZ λ_ _ _ _ _ _ _ hc q=>mod_int' hc q
theorem unI {f:Value->Sem Value} {g:Int->Int}
  (rule:∀(i:Int) (t:Tok) (s:Shared) (Q:Value->Shared->Prop) (E:Value->Shared->Prop),Q (.int (g i) s.toks) { s with toks:=s.toks+1 }->wpAny (model X.prog X.w) X.A (f (.int i t)) Q E s) :
  Mn X f (rU λi=>.int (g i)):=by
 intro pins s σ H x v Q I rx h;obtain ⟨i,rfl,q⟩:=h;obtain ⟨t,rfl⟩:=rx;exact rule i t s _ _ ⟨.int (g i),H,I.tok _,⟨_,rfl⟩,q⟩
theorem sR:Mn X (unaryOp .USub) (rU λi=>.int (-i)):=unI λ_ _ _ _ _ q=>neg_int q
end
def La:V->V->Bool
 | .non,.non=>true | .non,.int _=>true | .int _,.non=>true | .non,.bl _=>true | .bl _,.non=>true | .non,.str _=>true | .str _,.non=>true
 | .int _,.int _=>true | .bl _,.bl _=>true | .str _,.str _=>true | .byt _,.byt _=>true
 | .int _,.str _=>true | .str _,.int _=>true | .bl _,.str _=>true | .str _,.bl _=>true
 | _,_=>false
def rEq:R2:=λx y H Q=>La x y=true/\Q (.bl (decide (x=y))) H
def rNe:R2:=λx y H Q=>La x y=true/\Q (.bl (!decide (x=y))) H
theorem DG {i j:Int}:decide (V.int i=V.int j)=(i == j):=by
 rw[lE];simp
theorem Ge {i j:Bool}:decide (V.bl i=V.bl j)=(i == j):=by
 rw[lE];simp
theorem DF {i j:Str}:decide (V.str i=V.str j)=(i == j):=by
 rw[lE];simp
theorem DH {i j:Array UInt8}:decide (V.byt i=V.byt j)=(i.toList == j.toList):=by
 rw[lE];cases i;cases j;simp
section
variable {X:Cx} {a b c:Expr} {ta tb tc:TE} {pos:Pos}
theorem cI {pins:List (Addr×Obj)} {σ:St} {H:Hp} {s:Shared} {Q:VK} {k k':Bool} (I:Inv X pins σ H s) (q:Q (.bl k) H) (e:k=k'):EP X pins σ Q (.bool k') s:=by
 subst e;exact ⟨.bl k,H,I,rfl,q⟩
theorem gN:vX X (compareOp .Eq) rEq:=by
 intro pins s σ H x y v u Q I rx ry h;obtain ⟨hs,q⟩:=h;cases x with
 | non =>
  cases rx;cases y with
  | non=>cases ry;exact PySem.EqNone.eq_none_none (cI I q (by simp))
  | bl j=>cases ry;exact PySem.EqNone.eq_none_bool (cI I q (by simp))
  | int j=>obtain ⟨t',rfl⟩:=ry;exact PySem.EqNone.eq_none_int (cI I q (by simp))
  | str j=>obtain ⟨t',rfl⟩:=ry;exact PySem.EqNone.eq_none_str (cI I q (by simp))
  | _=>exact absurd (show false=true from hs) aT
 | bl i =>
  cases rx;cases y with
  | non=>cases ry;exact PySem.EqNone.eq_bool_none (cI I q (by simp))
  | bl j=>cases ry;exact eq_bool (cI I q Ge)
  | str j=>obtain ⟨t',rfl⟩:=ry;exact PySem.EqMixed.eq_bool_str (cI I q (by simp))
  | _=>exact absurd (show false=true from hs) aT
 | int i =>
  obtain ⟨t,rfl⟩:=rx;cases y with
  | non=>cases ry;exact PySem.EqNone.eq_int_none (cI I q (by simp))
  | int j=>obtain ⟨t',rfl⟩:=ry;exact eq_int (cI I q DG)
  | str j=>obtain ⟨t',rfl⟩:=ry;exact PySem.EqMixed.eq_int_str (cI I q (by simp))
  | _=>exact absurd (show false=true from hs) aT
 | str i =>
  obtain ⟨t,rfl⟩:=rx;cases y with
  | non=>cases ry;exact PySem.EqNone.eq_str_none (cI I q (by simp))
  | bl j=>cases ry;exact PySem.EqMixed.eq_str_bool (cI I q (by simp))
  | int j=>obtain ⟨t',rfl⟩:=ry;exact PySem.EqMixed.eq_str_int (cI I q (by simp))
  | str j=>obtain ⟨t',rfl⟩:=ry;exact eq_str (cI I q DF)
  | _=>exact absurd (show false=true from hs) aT
 | byt i =>
  obtain ⟨t,rfl⟩:=rx;cases y with
  | byt j=>obtain ⟨t',rfl⟩:=ry;exact PySem.W.eq_bytes (cI I q DH)
  | _=>exact absurd (show false=true from hs) aT
 | _=>cases y <;> exact absurd (show false=true from hs) aT
theorem A2:vX X (compareOp .NotEq) rNe:=by
 intro pins s σ H x y v u Q I rx ry h;obtain ⟨hs,q⟩:=h;cases x with
 | non =>
  cases rx;cases y with
  | non=>cases ry;exact PySem.EqNone.ne_none_none (cI I q (by simp))
  | bl j=>cases ry;exact PySem.EqNone.ne_none_bool (cI I q (by simp))
  | int j=>obtain ⟨t',rfl⟩:=ry;exact PySem.EqNone.ne_none_int (cI I q (by simp))
  | str j=>obtain ⟨t',rfl⟩:=ry;exact PySem.EqNone.ne_none_str (cI I q (by simp))
  | _=>exact absurd (show false=true from hs) aT
 | bl i =>
  cases rx;cases y with
  | non=>cases ry;exact PySem.EqNone.ne_bool_none (cI I q (by simp))
  | bl j=>cases ry;exact ne_bool (cI I q (congrArg not Ge))
  | str j=>obtain ⟨t',rfl⟩:=ry;exact PySem.EqMixed.ne_bool_str (cI I q (by simp))
  | _=>exact absurd (show false=true from hs) aT
 | int i =>
  obtain ⟨t,rfl⟩:=rx;cases y with
  | non=>cases ry;exact PySem.EqNone.ne_int_none (cI I q (by simp))
  | int j=>obtain ⟨t',rfl⟩:=ry;exact ne_int (cI I q (congrArg not DG))
  | str j=>obtain ⟨t',rfl⟩:=ry;exact PySem.EqMixed.ne_int_str (cI I q (by simp))
  | _=>exact absurd (show false=true from hs) aT
 | str i =>
  obtain ⟨t,rfl⟩:=rx;cases y with
  | non=>cases ry;exact PySem.EqNone.ne_str_none (cI I q (by simp))
  | bl j=>cases ry;exact PySem.EqMixed.ne_str_bool (cI I q (by simp))
  | int j=>obtain ⟨t',rfl⟩:=ry;exact PySem.EqMixed.ne_str_int (cI I q (by simp))
  | str j=>obtain ⟨t',rfl⟩:=ry;exact ne_str (cI I q (congrArg not DF))
  | _=>exact absurd (show false=true from hs) aT
 | byt i =>
  obtain ⟨t,rfl⟩:=rx;cases y with
  | byt j=>obtain ⟨t',rfl⟩:=ry;exact PySem.W.ne_bytes (cI I q (congrArg not DH))
  | _=>exact absurd (show false=true from hs) aT
 | _=>cases y <;> exact absurd (show false=true from hs) aT
theorem rT:vX X (compareOp .Lt) (Ib λi j=>.bl (decide (i < j))):=Im λ_ _ _ _ _ _ _ q=>lt_int q
theorem Lr:vX X (compareOp .LtE) (Ib λi j=>.bl (decide (i<=j))):=Im λ_ _ _ _ _ _ _ q=>le_int q
theorem yP:vX X (compareOp .Gt) (Ib λi j=>.bl (decide (j < i))):=Im λ_ _ _ _ _ _ _ q=>gt_int q
theorem yQ:vX X (compareOp .GtE) (Ib λi j=>.bl (decide (j<=i))):=Im λ_ _ _ _ _ _ _ q=>ge_int q
theorem Ij:vX X (compareOp .IsNot) (λx y H Q=>y=.non/\Q (.bl (!decide (x=.non))) H):=by
 intro pins s σ H x y v u Q I rx ry h;obtain ⟨rfl,q⟩:=h;cases ry;refine isnot_none_gen (cI I q ?_)
 cases x <;> first
  | (cases rx;rfl)
  | (obtain ⟨t,rfl⟩:=rx;rfl)
theorem bA (b:Expr) {op:CmpOp} (h:op≠.In:=by decide) (h2:op≠.NotIn:=by decide):behindInMarks op b=false:=by
 have e1:(op == CmpOp.In)=false:=by cases op <;> first | rfl | exact absurd rfl h
 have e2:(op == CmpOp.NotIn)=false:=by cases op <;> first | rfl | exact absurd rfl h2
 cases b <;> simp [behindInMarks,e1,e2]
theorem mN {op:CmpOp} {r:R2} (ho:vX X (compareOp op) r) (ha:PE X a ta) (hb:PE X b tb) (hm:behindInMarks op b=false):PE X (.Compare a [op] [b] pos) (K2 r ta tb):=by
 intro pins s σ H Q I h;exact wpAny_Compare1 (Kw ha hb I h λv u s2 x y H2 I2 rx ry q=>ho pins s2 σ H2 x y v u Q I2 rx ry q) hm
def IT (t:TE):TT:=λσ H Q=>t σ H λx H'=>∃k,x=.bl k/\Q k H'
theorem bq {op:CmpOp} {r:R2} (ho:vX X (compareOp op) r) (ha:PE X a ta) (hb:PE X b tb) (hm:behindInMarks op b=false):PT X (.Compare a [op] [b] pos) (IT (K2 r ta tb)):=by
 intro pins s σ H Q I h
 refine wpAny_isTrue_Compare1 (ff (ha pins s σ H _ I h) λv s1 ⟨x,H1,I1,r1,q1⟩=>ff (hb pins s1 σ H1 _ I1 q1) λu s2 ⟨y,H2,I2,r2,q2⟩ =>
  ff (ho pins s2 σ H2 x y v u _ I2 r1 r2 q2) λc s3 ⟨z,H3,I3,r3,k,e,q3⟩=>?_) hm
 subst e;cases r3;exact wpAny_truthy_bool ⟨H3,I3,q3⟩
theorem xA:(sizeLine:Nat) < 2^63:=by rw[sizeLine_eq];decide
theorem vals1 {x:V} {us:List Value} (r:cp [x] us):∃u,us=[u]/\RelV x u:=by
 cases r with
 | cons r1 r2=>cases r2;exact ⟨_,rfl,r1⟩
theorem vals2 {x y:V} {us:List Value} (r:cp [x,y] us):∃u w',us=[u,w']/\RelV x u/\RelV y w':=by
 cases r with
 | cons r1 r2 =>
  cases r2 with
  | cons r3 r4=>cases r4;exact ⟨_,_,rfl,r1,r3⟩
theorem xJ:qM X (.builtin "abs") (λxs H Q=>∃i,xs=[.int i]/\Q (.int (if i < 0 then -i else i)) H):=by
 intro pins s σ H xs us Q I r h;obtain ⟨i,rfl,q⟩:=h;obtain ⟨u,rfl,t,rfl⟩:=vals1 r;exact call_abs_int λu tk=>⟨.int (if i < 0 then -i else i),H,I.tok _,⟨_,rfl⟩,q⟩
theorem ve (hc:X.calm=true):qM X (.builtin "min") (λxs H Q=>∃i j,xs=[.int i,.int j]/\Q (.int (if j < i then j else i)) H):=by
 intro pins s σ H xs us Q I r h;obtain ⟨i,j,rfl,q⟩:=h;obtain ⟨u,w',rfl,⟨t,rfl⟩,⟨t',rfl⟩⟩:=vals2 r;refine min_two_ints (I.ok.hd hc) λh' tk k=>⟨_,H,I.kept k,?_,q⟩
 by_cases hj:j < i
 ·rw[if_pos hj,if_pos hj];exact ⟨_,rfl⟩
 ·rw[if_neg hj,if_neg hj];exact ⟨_,rfl⟩
end
structure CL (h:Heap) (x dx C:Addr) (mA:Str->Option Value):Prop where
 obj:h.get? x=some (PySem.W.instObj C dx)
 ns:h.Ns1 dx mA
 ne:dx≠x
theorem Ej {h:Heap} {dx:Addr} {mA:Str->Option Value} (n:h.Ns1 dx mA):∃od,h.get? dx=some od/\∀name,PySem.W.lookIn name od=some (mA name):=by
 obtain ⟨o,es,ep,ho,hd,hk,_,hm⟩:=n;refine ⟨o,ho,λname=>?_⟩;have e:=hm name;unfold nsFind findBy at e;rw[<- Array.find?_toList] at e;unfold PySem.W.lookIn;rw[hd]
 dsimp only
 split
 ·rename_i y q
  rw[q] at e;exact congrArg some e
 ·rename_i q
  rw[q] at e
  have a:es.toList.any (·.refKey)=false:=by
   rw[List.any_eq_false];intro y hy;obtain ⟨z,t,hkey⟩:=hk y (Array.mem_toList_iff.mp hy);simp [DictEntry.refKey,hkey]
  have a':¬es.toList.any (·.refKey)=true:=by rw[a];exact aT
  rw[if_neg a'];exact congrArg some e
theorem CL.look {h:Heap} {x dx C:Addr} {mA:Str->Option Value} (I:CL h x dx C mA):∃od,PySem.W.InstAt h x (PySem.W.instObj C dx) C (some od)/\∀name,PySem.W.lookIn name od=some (mA name) :=
 let ⟨od,ho,hl⟩:=Ej I.ns
 ⟨od,⟨I.obj,rfl,rfl,ho⟩,hl⟩
section
variable {prog:Program} {w:World} {A:Around} {E:Value->Shared->Prop} {s:Shared} {K:FG9} {x dx C f:Addr} {mA:Str->Option Value} {name:Str} {v:Value}
theorem get_map {expr:Bool} {Q:Value->Shared->Prop} (X:K.In s.heap) (I:CL s.heap x dx C mA) (hg:PySem.W.plainGet K C name=true) (hh:PySem.W.hasDictIn K C=true)
  (ha:PySem.W.findIn K (.ref C) name=some none) (hv:mA name=some v) (hv':PySem.W.handedIn v=true) (h:Q v { s with toks:=s.toks+1 }) :
  wpAny (model prog w) A (getAttr (.ref x) name expr) Q E s:=by
 obtain ⟨od,J,hl⟩:=I.look;exact PySem.W.get_value X J (Ap hg).1 (PySem.W.findObj_own hh ha rfl (by rw[hl,hv])) hv' h
theorem FN {pl:Sem Bool} {Q:Value×List Value->Shared->Prop} (X:K.In s.heap) (I:CL s.heap x dx C mA) (hg:PySem.W.plainGet K C name=true)
  (hf:PySem.W.findIn K (.ref C) name=some (some (.ref f))) (ht:PySem.W.isFn K (.ref f)=true) (hv:mA name=none) (h:Q (.ref f,[.ref x]) s) :
  wpAny (model prog w) A (getMethod (.ref x) name pl) Q E s:=by
 obtain ⟨od,J,hl⟩:=I.look;exact PySem.W.method_fn X J (Ap hg).1 (Ap hg).2 hf (beq_iff_eq.mp ht) (by show (PySem.W.lookIn name od).map (·.isSome)=some false;rw[hl,hv];rfl) h
theorem G8 {ns:List Str} {Q:Unit->Shared->Prop} (X:K.In s.heap) (I:CL s.heap x dx C mA)
  (hs:PySem.W.findIn K (.ref C) "__setattr__"=some (some (.builtin "object.__setattr__"))) (hp:PySem.W.plainOver K C=true) (ht:PySem.W.takerIn K C name=some none) (hh:PySem.W.hasDictIn K C=true)
  (hw:PySem.Within mA ns) (hsz:ns.length<=sizeLine)
  (h:∀h',CL h' x dx C (λy=>if y=name then some v else mA y)->Heap.SameBut dx s.heap h'->Q () { s with heap:=h',toks:=s.toks+2 }) :
  wpAny (model prog w) A (setAttr (.ref x) name v) Q E s:=by
 obtain ⟨od,J,hl⟩:=I.look;refine PySem.W.set_plain X J hs (PySem.W.osa_open (s:={ s with toks:=s.toks+1 }) (r:=none) X J hp ht λb=>?_);obtain ⟨cd,hc,hd'⟩:=PySem.W.any_some hh;have hx:s.heap.get? x=some ⟨.ref C,some dx,.plain,#[]⟩:=I.obj;refine wpAny_bind (wpAny_pure (wpAny_bind (wpAny_bind (wpAny_loadPart hx (wpAny_bind (PySem.W.Looks.here (s:={ s with toks:=s.toks+1 }) (PySem.W.looks_clsIn X hc) ?_))))));rw[hd'];refine wpAny_pure (a:=some dx) (wpAny_bind (wpAny_pure (wpAny_bind ?_)));refine wpAny_nsSet1 (s:={ s with toks:=s.toks+1 }) I.ns λh' hn2 hs2=>?_
 obtain ⟨oD,esD,epD,hoD,hdD,hcD⟩:=hn2.count (PySem.Within.cons name v hw);refine wpAny_bind (wpAny_lookBehind hoD (by rw[hdD];exact pastItsLine_dict (ai hcD (by rw[bJ];lia))) ?_);exact wpAny_pure (h _ ⟨(hs2.2 _ (Ne.symm I.ne)).trans I.obj,hn2,I.ne⟩ hs2)
theorem Fz {R:Result->Shared->Prop} {vs:List Value} {kw:List (Str×Value)} (X:K.In s.heap) (hm:PySem.W.makesIn K C=true)
  (hi:PySem.W.findIn K (.ref C) "__init__"=some (some (.ref f))) (hf:PySem.W.typeIn K (.ref f)=some (.type "function"))
  (h:codeAny (model prog w) (A.under (.builtin "type.__call__" ⟨.ref C :: vs,kw⟩)) (.call (.ref f) ⟨.ref (s.heap.objs.size+1) :: vs,kw⟩) (PySem.W.InitBack (s.heap.objs.size+1) R)
   { s with heap:=(s.heap.push PySem.W.emptyDict).push (PySem.W.instObj C s.heap.objs.size) }) :
  codeAny (model prog w) A (.call (.ref C) ⟨vs,kw⟩) R s:=by
 obtain ⟨hh,g,d,t,os⟩:=s;exact PySem.W.make_core (PySem.W.makes_of X hm) (PySem.W.looks_findIn X hi) (λself=>PySem.W.bind_fn X self hf) (.inl rfl) h
end
def bQ (f:Str) (v:V):List (Str×V)->List (Str×V)
 | []=>[(f,v)]
 | (g,x) :: r=>if g=f then (g,v) :: r else (g,x) :: bQ f v r
theorem aO (f g:Str) (v:V):∀fs:List (Str×V),(bQ f v fs).lookup g=if g=f then some v else fs.lookup g
 | []=>by
  show List.lookup g [(f,v)]=_
  by_cases h:g=f
  ·have hb:(g == f)=true:=beq_iff_eq.mpr h;simp only[List.lookup,hb,if_pos h]
  ·have hb:(g == f)=false:=beq_eq_false_iff_ne.mpr h;simp only[List.lookup,hb,if_neg h]
 | (k,x) :: r=>by
  have ih:=aO f g v r;rw[show bQ f v ((k,x) :: r)=(if k=f then (k,v) :: r else (k,x) :: bQ f v r) from rfl];by_cases hk:k=f
  ·rw[if_pos hk];by_cases h:g=k
   ·have hb:(g == k)=true:=beq_iff_eq.mpr h;simp only[List.lookup,hb,if_pos (h.trans hk)]
   ·have hb:(g == k)=false:=beq_eq_false_iff_ne.mpr h;simp only[List.lookup,hb,if_neg (λe:g=f=>h (e.trans hk.symm))]
  ·rw[if_neg hk];by_cases h:g=k
   ·have hb:(g == k)=true:=beq_iff_eq.mpr h;simp only[List.lookup,hb,if_neg (λe:g=f=>hk (h.symm.trans e))]
   ·have hb:(g == k)=false:=beq_eq_false_iff_ne.mpr h;simp only[List.lookup,hb];exact ih
theorem uY (f:Str) (v:V):∀fs:List (Str×V),f∈(bQ f v fs).map (·.1)/\∀g,g∈fs.map (·.1)->g∈(bQ f v fs).map (·.1)
 | []=>⟨by simp [bQ],λg h=>by simp at h⟩
 | (k,x) :: r=>by
  obtain ⟨i1,i2⟩:=uY f v r;rw[show bQ f v ((k,x) :: r)=(if k=f then (k,v) :: r else (k,x) :: bQ f v r) from rfl];by_cases hk:k=f
  ·rw[if_pos hk];subst hk;exact ⟨by simp,λg h=>by simpa using h⟩
  ·rw[if_neg hk];refine ⟨?_,λg h=>?_⟩
   ·rw[kB];exact bD _ i1
   ·rw[kB] at h ⊢;rcases aE.mp h with e | e
    ·exact aE.mpr (.inl e)
    ·exact bD _ (i2 g e)
theorem vJ (f:Str) (v:V):∀fs:List (Str×V),(bQ f v fs).length<=fs.length+1
 | []=>by simp [bQ]
 | (k,x) :: r=>by
  have ih:=vJ f v r;rw[show bQ f v ((k,x) :: r)=(if k=f then (k,v) :: r else (k,x) :: bQ f v r) from rfl];by_cases hk:k=f
  ·rw[if_pos hk,bJ,bJ];lia
  ·rw[if_neg hk,bJ,bJ];lia
theorem yp.some_of {v:V} {o:Option Value} (r:yp (some v) o):∃u,o=some u/\RelV v u:=by
 cases o with
 | none=>exact (show False from r).elim
 | some u=>exact ⟨u,rfl,r⟩
theorem yp.none_of {o:Option Value} (r:yp none o):o=none:=by
 cases o with
 | none=>rfl
 | some u=>exact (show False from r).elim
theorem Eo {v:V} {u:Value} (r:RelV v u):PySem.W.handedIn u=true:=by
 cases v with
 | non=>cases (show u=Value.none from r);rfl
 | bl b=>cases (show u=Value.bool b from r);rfl
 | int i=>obtain ⟨t,e⟩:=(show ∃t,u=Value.int i t from r);cases e;rfl
 | str x=>obtain ⟨t,e⟩:=(show ∃t,u=Value.str x t from r);cases e;rfl
 | byt b=>obtain ⟨t,e⟩:=(show ∃t,u=Value.bytes b t from r);cases e;rfl
 | flt b=>obtain ⟨t,e⟩:=(show ∃t,u=Value.float b t from r);cases e;rfl
 | ref a=>cases (show u=Value.ref a from r);rfl
 | ty n=>cases (show u=Value.type n from r);rfl
section
variable {P:Program} {w:World} {H H':Hp} {h h':Heap} {a C dx:Addr} {fs fs':List (Str×V)}
theorem v7 (hok:wq P w H h) (e:H a=some (.ins C dx fs)):∃mA,CL h a dx C mA/\(∀f,yp (fs.lookup f) (mA f))/\PySem.Within mA (fs.map (·.1))/\fs.length<=1000/\H dx=some (.own a):=by
 obtain ⟨d,z,ne,ob,mA,n,r,q⟩:=(show iK P w H h a (.ins C dx fs) from hok a _ e);exact ⟨mA,⟨ob,n,ne⟩,r,q,z,d⟩
end
structure EC (K:FG9) (C:Addr):Prop where
 pg:PySem.W.plainGet K C Str.empty=true
 hd:PySem.W.hasDictIn K C=true
 po:PySem.W.plainOver K C=true
 sa:PySem.W.findIn K (.ref C) "__setattr__"=some (some (.builtin "object.__setattr__"))
theorem EC.get {K:FG9} {C:Addr} (c:EC K C) (f:Str):PySem.W.plainGet K C f=true:=c.pg
def jg (K:FG9) (C:Addr) (f:Str):Prop:=PySem.W.findIn K (.ref C) f=some none
theorem jg.taker {K:FG9} {C:Addr} {f:Str} (n:jg K C f):PySem.W.takerIn K C f=some none:=by
 unfold PySem.W.takerIn;rw[show PySem.W.findIn K (.ref C) f=some none from n];rfl
structure IQ (K:FG9) (C:Addr) (m:Str) (f:Addr):Prop where
 at_:PySem.W.findIn K (.ref C) m=some (some (.ref f))
 fn:PySem.W.isFn K (.ref f)=true
 kp:PySem.W.keepIn K (.ref f)=true
section
variable {X:Cx} {pins:List (Addr×Obj)} {σ:St} {H:Hp} {s:Shared} {a C dx:Addr} {fs:List (Str×V)} {f:Str} {v:V} {A:Around} {E:Value->Shared->Prop}
theorem Cv {b:Bool} {Q:Value->Shared->Prop} (I:Inv X pins σ H s) (e:H a=some (.ins C dx fs)) (c:EC X.K C) (n:jg X.K C f) (l:fs.lookup f=some v)
  (h:∀u s',Inv X pins σ H s'->RelV v u->Q u s'):wpAny (model X.prog X.w) A (getAttr (.ref a) f b) Q E s:=by
 obtain ⟨mA,O,r,_,_,_⟩:=v7 I.hok e;obtain ⟨u,hu,ru⟩:=yp.some_of (v:=v) (o:=mA f) (by rw[<- l];exact r f);exact get_map I.kIn O (c.get f) c.hd n hu (Eo ru) (h u _ (I.tok _) ru)
theorem Cu {m:Str} {g:Addr} {pl:Sem Bool} {Q:Value×List Value->Shared->Prop} (I:Inv X pins σ H s) (e:H a=some (.ins C dx fs)) (c:EC X.K C) (k:IQ X.K C m g) (l:fs.lookup m=none)
  (h:Q (.ref g,[.ref a]) s):wpAny (model X.prog X.w) A (getMethod (.ref a) m pl) Q E s:=by
 obtain ⟨mA,O,r,_,_,_⟩:=v7 I.hok e;have hn:mA m=none:=yp.none_of (by rw[<- l];exact r m);exact FN I.kIn O (c.get m) k.at_ k.fn hn h
theorem BW {y:V} {u:Value} {Q:Unit->Shared->Prop} (I:Inv X pins σ H s) (e:H a=some (.ins C dx fs)) (c:EC X.K C) (n:jg X.K C f) (hl:fs.length < 1000) (ry:RelV y u)
  (h:∀s',Inv X pins σ (upd H a (.ins C dx (bQ f y fs))) s'->Q () s'):wpAny (model X.prog X.w) A (setAttr (.ref a) f u) Q E s:=by
 obtain ⟨mA,O,r,wi,_,ho⟩:=v7 I.hok e;have hz:(fs.map (·.1)).length<=sizeLine:=by rw[ag,sizeLine_eq];lia
 refine G8 I.kIn O c.sa c.po n.taker c.hd wi hz λh' O' sb=>h _ ?_
 have hd:∃o,h'.get? dx=some o:=let ⟨o,_,_,e',_⟩:=O'.ns;⟨o,e'⟩
 refine I.write (x:=a) (e:=dx) (by rw[e];exact True.intro) (.inr ho) (λb q hb z=>(sb.2 b hb).trans z) hd ?_;refine ⟨by rw[aU O.ne];exact ho,?_,O.ne,O'.obj,_,O'.ns,λg=>?_,λg hg=>?_⟩
 ·have:=vJ f y fs;lia
 ·show yp ((bQ f y fs).lookup g) (if g=f then some u else mA g)
  rw[aO];by_cases q:g=f
  ·rw[if_pos q,if_pos q];exact ry
  ·rw[if_neg q,if_neg q];exact r g
 ·by_cases q:g=f
  ·rw[q];exact (uY f y fs).1
  ·refine (uY f y fs).2 g (wi g λz=>hg ?_);show (if g=f then some u else mA g)=none
   rw[if_neg q];exact z
theorem Inv.made (I:Inv X pins σ H s):Inv X pins σ (upd (upd H s.heap.objs.size (.own (s.heap.objs.size+1))) (s.heap.objs.size+1) (.ins C s.heap.objs.size []))
  { s with heap:=(s.heap.push PySem.W.emptyDict).push (PySem.W.instObj C s.heap.objs.size) }:=by
 have e1:(s.heap.push PySem.W.emptyDict).get? s.heap.objs.size=some PySem.W.emptyDict:=Heap.get?_push_size s.heap rfl
 have e2:((s.heap.push PySem.W.emptyDict).push (PySem.W.instObj C s.heap.objs.size)).get? (s.heap.objs.size+1)=some (PySem.W.instObj C s.heap.objs.size):=by
  have:=Heap.get?_push_size (s.heap.push PySem.W.emptyDict) (o:=PySem.W.instObj C s.heap.objs.size) rfl;rwa [Heap.size_push] at this
 have e3:(s.heap.push PySem.W.emptyDict).Ns s.heap.objs.size (λ_=>none):=⟨PySem.W.emptyDict,#[],_,e1,rfl,(λe he=>absurd he (by simp)),λ_=>rfl⟩;have I1:=I.laid (a:=s.heap.objs.size) (o:=.own (s.heap.objs.size+1)) (h':=s.heap.push PySem.W.emptyDict) (t':=s.toks) (λb u q=>Heap.get?_push_of_some _ q) (au _) ⟨_,e1⟩;refine I1.laid (a:=s.heap.objs.size+1) (o:=.ins C s.heap.objs.size []) (t':=s.toks) (λb u q=>Heap.get?_push_of_some _ q) (Nat.le_of_eq (Heap.size_push _ _)) ?_;have ne:s.heap.objs.size≠s.heap.objs.size+1:=b7 (dD _);refine ⟨by rw[aU ne,aF],bo _,ne,e2,λ_=>none,(Heap.Ns1.of_empty e3).at λo q=>Heap.get?_push_of_some _ q,λ_=>True.intro,λy hy=>absurd rfl hy⟩
theorem IL {prog:Program} {w:World} {env:Env} {e:Expr} {f:Str} {pos:Pos} {s:Shared} {Q:Value->Shared->Prop} (hb:attributeBase e f env (eval e env)=eval e env)
  (h:wpAny (model prog w) A (eval e env) (λo s₁=>wpAny (model prog w) A (getAttr o f true) Q E s₁) E s):wpAny (model prog w) A (eval (.Attribute e f pos) env) Q E s :=
 Attribute_any_ h (by rw[arm_eval_Attribute,hb])
end
def JD (K:FG9) (ta:TE) (f:Str):TE:=λσ H Q=>ta σ H λx H1=>∃a C dx fs v,x=.ref a/\H1 a=some (.ins C dx fs)/\EC K C/\jg K C f/\fs.lookup f=some v/\Q v H1
def Lb (K:FG9) (ta tv:TE) (f:Str):TS:=λD σ H=>tv σ H λy H1=>ta σ H1 λx H2=>∃a C dx fs,x=.ref a/\H2 a=some (.ins C dx fs)/\EC K C/\jg K C f/\fs.length < 1000 /\
 D.nx σ (upd H2 a (.ins C dx (bQ f y fs)))
section
variable {X:Cx} {o e value:Expr} {f:Str} {pos pos' tpos:Pos} {ta tv:TE}
theorem cR (he:PE X e ta) (hb:attributeBase e f X.env (eval e X.env)=eval e X.env):PE X (.Attribute e f pos) (JD X.K ta f):=by
 intro pins s σ H Q I h;refine IL hb (ff (he pins s σ H _ I h) λu s1 ⟨x,H1,I1,rx,a,C,dx,fs,v,ex,ea,c,n,l,q⟩=>?_);subst ex;obtain rfl:u=Value.ref a:=rx;exact Cv I1 ea c n l λu' s2 I2 ru=>⟨v,H1,I2,ru,q⟩
theorem uT (ha:PE X o ta) (hv:PE X value tv) (hs:swapsWith value (some (.Attribute o f pos')) pos.line X.env=pure false):PS X (.Assign [.Attribute o f pos'] value pos) (Lb X.K ta tv f):=by
 intro pins s σ H D I h;refine plainObj_wpAny_Assign_Attribute (ff (hv pins s σ H _ I h) λu s1 ⟨y,H1,I1,ry,q⟩=>ff (ha pins s1 σ H1 _ I1 q) λov s2 ⟨x,H2,I2,rx,a,C,dx,fs,ex,ea,c,n,l,q2⟩=>?_) hs;subst ex;obtain rfl:ov=Value.ref a:=rx;exact BW I2 ea c n l ry λs3 I3=>⟨σ,_,I3,q2⟩
end
section
variable {X:Cx} {pins:List (Addr×Obj)} {σ:St} {H:Hp} {s:Shared} {A:Around} {E:Value->Shared->Prop} {Q:Value->Shared->Prop} {c:Value} {b:Bool}
inductive tE (K:FG9) (H:Hp):V->Value->Prop where
 | non:tE K H .non (.type "NoneType")
 | bl (x:Bool):tE K H (.bl x) (.type "bool")
 | int (i:Int):tE K H (.int i) (.type "int")
 | str (x:Str):tE K H (.str x) (.type "str")
 | flt (x:UInt64):tE K H (.flt x) (.type "float")
 | lst {a:Addr} {xs:List V} (e:H a=some (.lst xs)):tE K H (.ref a) (.type "list")
 | frz {a:Addr} {o:Obj} {xs:List V} (e:H a=some (.frz o (.lst xs))):tE K H (.ref a) (.type "list")
 | tup {a:Addr} {xs:List V} (e:H a=some (.tup xs)):tE K H (.ref a) (.type "tuple")
 | dK {a:Addr} {kvs:List (Key×V)} (e:H a=some (.dK kvs)):tE K H (.ref a) (.type "dict")
 | dT {a:Addr} {kvs:List (List Key×V)} (e:H a=some (.dT kvs)):tE K H (.ref a) (.type "dict")
 | ins {a C dx:Addr} {fs:List (Str×V)} (e:H a=some (.ins C dx fs)) (cl:EC K C) (ha:PySem.W.findIn K (.ref C) "__class__"=some (some (.builtin "object.__class__")))
   (hn:PySem.W.specialIn K (.builtin "object.__class__") "__get__"=some (some (.builtin "getset_descriptor.__get__"))) (htk:PySem.W.takesIn K (.builtin "object.__class__")=some true)
   (hm:PySem.W.mroIn K C (.type "object")=some true):tE K H (.ref a) (.ref C)
theorem uZ {x:V} {u t:Value} (I:Inv X pins σ H s) (rx:RelV x u) (ty:tE X.K H x t) (e:PySem.W.kitOne X.K t c=some b) (h:∀tk,Q (.bool b) { s with toks:=tk }) :
  wpAny (model X.prog X.w) A (call (.builtin "isinstance") [u,c]) Q E s:=by
 cases ty with
 | non=>cases (show u=Value.none from rx);exact cJ PySem.W.kitx_none I.kIn True.intro e (λz=>nomatch z) h
 | bl y=>cases (show u=Value.bool y from rx);exact cJ PySem.W.kitx_bool I.kIn True.intro e (λz=>nomatch z) h
 | int i=>obtain ⟨t,q⟩:=(show ∃t,u=Value.int i t from rx);cases q;exact cJ PySem.W.kitx_int I.kIn True.intro e (λz=>nomatch z) h
 | str y=>obtain ⟨t,q⟩:=(show ∃t,u=Value.str y t from rx);cases q;exact cJ PySem.W.kitx_str I.kIn True.intro e (λz=>nomatch z) h
 | flt y=>obtain ⟨t,q⟩:=(show ∃t,u=Value.float y t from rx);cases q;exact cJ PySem.W.kitx_float I.kIn True.intro e (λz=>nomatch z) h
 | @lst a xs ea =>
  cases (show u=Value.ref a from rx);obtain ⟨_,_,n,_,h1⟩:=(show iK X.prog X.w H s.heap a (.lst xs) from I.hok a _ ea);exact cJ PySem.W.kitx_list I.kIn ⟨_,h1,rfl⟩ e (λz=>nomatch z) h
 | @frz a ob xs ea =>
  cases (show u=Value.ref a from rx);obtain ⟨_,_,_,n,_,h1⟩:=(show iK X.prog X.w H s.heap a (.frz ob (.lst xs)) from I.hok a _ ea);exact cJ PySem.W.kitx_list I.kIn ⟨_,h1,rfl⟩ e (λz=>nomatch z) h
 | @tup a xs ea =>
  cases (show u=Value.ref a from rx);obtain ⟨_,_,_,p⟩:=(show iK X.prog X.w H s.heap a (.tup xs) from I.hok a _ ea);obtain ⟨o,h1,h2,_⟩:=p;exact cJ PySem.W.kitx_tuple I.kIn ⟨o,h1,h2⟩ e (λz=>nomatch z) h
 | @dK a kvs ea =>
  cases (show u=Value.ref a from rx);obtain ⟨_,_,vs,_,p⟩:=(show iK X.prog X.w H s.heap a (.dK kvs) from I.hok a _ ea);obtain ⟨o,es,ep,h1,h2,_⟩:=p;exact cJ PySem.W.kitx_dict I.kIn ⟨o,h1,h2.1⟩ e (λz=>nomatch z) h
 | @dT a kvs ea =>
  cases (show u=Value.ref a from rx);obtain ⟨_,_,xs,_,o,es,ep,h1,h2,_⟩:=(show iK X.prog X.w H s.heap a (.dT kvs) from I.hok a _ ea);exact cJ PySem.W.kitx_dict I.kIn ⟨o,h1,h2.1⟩ e (λz=>nomatch z) h
 | @ins a C dx fs ea cl ha hn htk hm =>
  cases (show u=Value.ref a from rx);obtain ⟨mA,O,_⟩:=v7 I.hok ea;obtain ⟨od,J,_⟩:=O.look;exact cJ (PySem.W.kitx_own (cl.get _) cl.hd ha hn htk hm) I.kIn J e (λz=>nomatch z) h
end
structure kv (k:Nat) (A:Around):Prop where
 hd:A.handled=none
 dp:A.depth+3*k+5 < recursionLimit
 un:A.units+16*k+200 < cLine
theorem kv.mono {j k:Nat} {A:Around} (r:kv k A) (h:j<=k):kv j A:=⟨r.hd,by have:=r.dp;lia,by have:=r.un;lia⟩
theorem kv.deeper {k:Nat} {A:Around} (r:kv (k+1) A) (env:Env):kv k (A.deeper env) :=
 ⟨r.hd,by have:=r.dp;show A.depth+1+3*k+5 < _;lia,by have:=r.un;show A.units+3+16*k+200 < _;lia⟩
theorem Cp {A:Around} {C:Addr} {us:List Value} {kw:List (Str×Value)}:(A.under (.builtin "type.__call__" ⟨.ref C :: us,kw⟩)).depth=A.depth+1:=by
 first | rfl | simp [Around.under,Code.weight,Code.isCreation,Code.isGuard,Code.isCaller,Code.frames,Code.isFrame,guardIds]
theorem Co {A:Around} {C:Addr} {us:List Value} {kw:List (Str×Value)}:(A.under (.builtin "type.__call__" ⟨.ref C :: us,kw⟩)).units=A.units+1:=by
 first | rfl | simp [Around.under,Code.cUnits,Code.frames,Code.isFrame]
theorem kv.make {k:Nat} {A:Around} (r:kv (k+1) A) (C:Addr) (us:List Value) (kw:List (Str×Value)):kv k (A.under (.builtin "type.__call__" ⟨.ref C :: us,kw⟩)) :=
 ⟨r.hd,by have:=r.dp;rw[Cp];lia,by have:=r.un;rw[Co];lia⟩
theorem kv.depth {k:Nat} {A:Around} (r:kv k A):A.depth < recursionLimit:=by have:=r.dp;lia
theorem kv.units {k:Nat} {A:Around} (r:kv k A):A.units+64 < cLine:=by have:=r.un;lia
def Av:TA:=λ_ H Q=>Q [] H
def lY (ta:TE) (tr:TA):TA:=λσ H Q=>ta σ H λx H1=>tr σ H1 λxs H2=>Q (x :: xs) H2
section
variable {X:Cx} {e:Expr} {es:List Expr} {te:TE} {t:TA} {pos:Pos}
theorem aj:PA X [] Av:=λ_ _ _ _ H Q I h=>Calls.spliced_nil ⟨[],H,I,.nil,h⟩
theorem ae (ha:PE X e te) (hr:PA X es t) (hs:starEach (e :: es) X.env=(false,eval e X.env) :: starEach es X.env:=by rfl):PA X (e :: es) (lY te t):=by
 intro pos pins s σ H Q I h;rw[hs];show wpAny _ _ (spliced ((false,eval e X.env) :: backTo pos (starEach es X.env))) _ _ s
 refine Calls.spliced_cons (ff (ha pins s σ H _ I h) λu s1 ⟨x,H1,I1,r1,q1⟩=>?_);exact ff (hr pos pins s1 σ H1 _ I1 q1) λus s2 ⟨xs,H2,I2,r2,q2⟩=>⟨x :: xs,H2,I2,.cons r1 r2,q2⟩
def KU (t:TA):TE:=λσ H Q=>t σ H λxs H1=>xs.length<=sizeLine/\∀p,H1 p=none->Q (.ref p) (upd H1 p (.tup xs))
def K4 (t:TA):TE:=λσ H Q=>t σ H λxs H1=>xs.length<=sizeLine/\∀p,H1 p=none->Q (.ref p) (upd H1 p (.lst xs))
theorem d5 {x1} (h:PA X es t):PE X (.Tuple es x1 pos) (KU t):=by
 intro pins s σ H Q I hq;refine wpAny_Tuple_spliced (ff (h pos pins s σ H _ I hq) λus s1 ⟨xs,H1,I1,r,z,q⟩=>⟨by rw[<- r.length];exact z,?_⟩);have hf:H1 s1.heap.objs.size=none:=I1.hok.fresh (au _);refine ⟨.ref s1.heap.objs.size,upd H1 s1.heap.objs.size (.tup xs),I1.laid (t':=s1.toks) (λb u e=>Heap.get?_push_of_some _ e) (au _) ?_,rfl,q _ hf⟩;exact ⟨z,us,r,⟨_,Heap.get?_push_size _ rfl,rfl,_,rfl⟩⟩
theorem iY (h:PA X es t):PE X (.List es pos) (K4 t):=by
 intro pins s σ H Q I hq;refine wpAny_List_spliced (ff (h pos pins s σ H _ I hq) λus s1 ⟨xs,H1,I1,r,z,q⟩=>⟨by rw[<- r.length];exact z,?_⟩);have hf:H1 s1.heap.objs.size=none:=I1.hok.fresh (au _);refine ⟨.ref s1.heap.objs.size,upd H1 s1.heap.objs.size (.lst xs),I1.laid (t':=s1.toks) (λb u e=>Heap.get?_push_of_some _ e) (au _) ?_,rfl,q _ hf⟩;exact ⟨z,us,0,r,Heap.get?_push_size _ rfl⟩
end
abbrev Sp:=List V->Hp->VK->XK->Prop
abbrev GK:=List Env->Hp->Shared->XK->Value->Shared->Prop
structure CP (P:Program) (w:World) (K:FG9) (mg:Str->Option Value) (base:Heap) (A:Around) (outer:List Env) (s:Shared) (H:Hp):Prop where
 frames:A.frames=some outer
 mod:Mod K mg base
 bs:∀b o,base.get? b=some o->s.heap.get? b=some o/\H b=none
 bsz:base.objs.size<=s.heap.objs.size
 funs:s.heap.FunFrames base outer
 frf:∀b∈EA outer,H b=none
 hok:wq P w H s.heap
 bare:AllBare s.gens
def CE (outer:List Env) (P:Program) (w:World) (H:Hp) (s:Shared) (Q:VK) (u:Value) (s':Shared):Prop :=
 ∃v H',s'.os=s.os/\AllBare s'.gens/\Un (EA outer) [] H H' s.heap s'.heap/\wq P w H' s'.heap/\RelV v u/\Q v H'
def CR (CX:GK) (outer:List Env) (P:Program) (w:World) (H:Hp) (s:Shared) (Q:VK) (E:XK) (r:Result) (s':Shared):Prop :=
 match r with
 | .ok (.ret u)=>CE outer P w H s Q u s'
 | .ok _=>False
 | .error e=>CX outer H s E e s'
structure cw (P:Program) (w:World) (K:FG9) (mg:Str->Option Value) (base:Heap) (CX:GK) (k:Nat) (f:Addr) (fd:FuncData) (ps:List Str) (sp:Sp):Prop where
 len:∀vs H Q E,sp vs H Q E->vs.length=ps.length
 run:∀(A:Around) (outer:List Env) (s:Shared) (H:Hp) (args:Args) (us:List Value) (vs:List V) (Q:VK) (E:XK),kv k A->CP P w K mg base A outer s H->BindsTo s fd args (ps.zip us)->cp vs us->sp vs H Q E →
  codeAny (model P w) A (.call (.ref f) args) (CR CX outer P w H s Q E) s
theorem CP.make {P:Program} {w:World} {K:FG9} {mg:Str->Option Value} {base:Heap} {A:Around} {outer:List Env} {s:Shared} {H:Hp} (e:CP P w K mg base A outer s H) (C:Addr) (us:List Value) (kw:List (Str×Value)) :
  CP P w K mg base (A.under (.builtin "type.__call__" ⟨.ref C :: us,kw⟩)) outer s H:=⟨by first | exact e.frames | (simpa [Around.under,Code.envs,Code.isFrame,pushEnvs] using e.frames),e.mod,e.bs,e.bsz,e.funs,e.frf,e.hok,e.bare⟩
section
variable {X:Cx} {pins:List (Addr×Obj)} {σ:St} {H:Hp} {s s':Shared}
theorem Inv.env0 (I:Inv X pins σ H s):CP X.prog X.w X.K X.mg X.base X.A X.stack s H :=
 ⟨I.ok.frames,I.ok.mod,I.bs,ai I.ok.bsz I.sz,I.stack,I.stkFree,I.hok,I.bare⟩
theorem Inv.after {Q:VK} {u:Value} (I:Inv X pins σ H s) (h:CE X.stack X.prog X.w H s Q u s'):EP X pins σ Q u s':=by
 obtain ⟨v,H',os,bare,un,hok,r,q⟩:=h;obtain ⟨hh,g,d,t,os'⟩:=s';obtain rfl:os'=s.os:=os;exact ⟨v,H',I.call (h':=hh) (g':=g) (d':=d) (t':=t) (ch:=[]) un hok bare (λb z=>absurd z (by simp)),r,q⟩
end
def EL (sp:Sp) (dvs:List V) (E:XK) (t:TA):TE:=λσ H Q=>t σ H λvs H1=>sp (vs++dvs) H1 Q E
def IX (C:Addr) (m:Str) (sp:Sp) (dvs:List V) (E:XK) (ta:TE) (t:TA):TE:=λσ H Q=>ta σ H λx H1=>∃a dx fs,x=.ref a/\H1 a=some (.ins C dx fs)/\fs.lookup m=none /\
 t σ H1 λvs H2=>sp (x :: (vs++dvs)) H2 Q E
def IY (C:Addr) (sp:Sp) (dvs:List V) (E:XK) (t:TA):TE:=λσ H Q=>t σ H λvs H1=>∀x dx,H1 x=none->H1 dx=none->dx≠x →
 sp (.ref x :: (vs++dvs)) (upd (upd H1 dx (.own x)) x (.ins C dx [])) (λv H2=>v=.non/\Q (.ref x) H2) E
def Binds (K:FG9) (fd:FuncData) (ps:List Str) (ds:List Value):Prop :=
 ∀(s:Shared) (us:List Value),K.In s.heap->(us++ds).length=ps.length->BindsTo s fd ⟨us,[]⟩ (ps.zip (us++ds))
theorem Binds.all {K:FG9} {fd:FuncData} {ps:List Str} (h:∀us:List Value,us.length=ps.length->bindArgs fd ⟨us,[]⟩=pure (ps.zip us)):Binds K fd ps []:=λs us _ hl=>by
 rw[xY] at hl ⊢;exact .of_eq (h us hl)
def vn (CX:GK) (X:Cx) (E:XK):Prop:=∀(pins:List (Addr×Obj)) (σ:St) (H:Hp) (s:Shared) (e:Value) (s':Shared),Inv X pins σ H s->CX X.stack H s E e s'->X.xe e s'
section
variable {X:Cx} {CX:GK} {k:Nat} {f C:Addr} {fd:FuncData} {ps:List Str} {sp:Sp} {dvs:List V} {ds:List Value} {E:XK} {x m:Str} {p pos apos:Pos} {e o:Expr} {es:List Expr} {ta:TE} {t:TA}
theorem E4 {pins:List (Addr×Obj)} {σ:St} {H:Hp} {s:Shared} {Q:VK} {us:List Value} {vs:List V} (F:cw X.prog X.w X.K X.mg X.base CX k f fd ps sp) (hr:kv k X.A) (hb:Binds X.K fd ps ds) (hd:cp dvs ds) (hx:vn CX X E)
  (I:Inv X pins σ H s) (r:cp vs us) (h:sp (vs++dvs) H Q E):wpAny (model X.prog X.w) X.A (call (.ref f) us) (EP X pins σ Q) X.xe s:=by
 have r2:cp (vs++dvs) (us++ds):=r.append hd;have hl:(us++ds).length=ps.length:=by rw[<- r2.length];exact F.len _ _ _ _ h
 refine wpAny_call (codeAny_mono (F.run X.A X.stack s H ⟨us,[]⟩ (us++ds) (vs++dvs) Q E hr I.env0 (hb s us I.kIn hl) r2 h) λr s' hq=>?_);cases r with
 | error e=>exact hx pins σ H s e s' I hq
 | ok fl =>
  cases fl with
  | ret u=>exact I.after hq
  | next=>exact False.elim hq
  | brk=>exact False.elim hq
  | cont=>exact False.elim hq
theorem Ii (F:cw X.prog X.w X.K X.mg X.base CX k f fd ps sp) (hr:kv k X.A) (hg:Gl X x) (hm:X.mg x=some (.ref f)) (hk:PySem.W.keepIn X.K (.ref f)=true) (hb:Binds X.K fd ps ds) (hd:cp dvs ds) (hx:vn CX X E)
  (ha:PA X (e :: es) t) (hdb:(x == ("__debug__":Str))=false:=by decide) (he:starEach (e :: es) X.env=(false,eval e X.env) :: starEach es X.env:=by rfl) (hpl:(backTo pos (starEach es X.env)).any (·.1)=false:=by rfl) :
  PE X (.Call (.Name x p) (e :: es) [] pos) (EL sp dvs E t):=by
 intro pins s σ H Q I h;refine wpAny_Call_Name_kw (zW I hg hm ?_ hdb);refine BM (h₀:=X.base) I.ok.mod.kin hk (ff (ha pos pins s σ H _ I h) λus s1 ⟨vs,H1,I1,r,q⟩=>⟨I1.kIn,?_⟩) he hpl;exact E4 F hr hb hd hx I1 r q
theorem Dd {pl : Sem Bool} (he : PE X o ta) (c : EC X.K C) (hm : IQ X.K C m f) (F : cw X.prog X.w X.K X.mg X.base CX k f fd ps sp) (hr : kv k X.A) (hb : Binds X.K fd ps ds) (hd : cp dvs ds) (hx : vn CX X E) (ha : PA X (e :: es) t)
    (hst : starEach (e :: es) X.env = (false, eval e X.env) :: starEach es X.env := by rfl) (hpl : (backTo pos (starEach es X.env)).any (·.1) = false := by rfl)
    (ht : eval (.Call (.Attribute o m apos) (e :: es) [] pos) X.env = (do
      let ov <- eval o X.env
      standAt apos.atName
      let (f, first) <- holding [ov] (getMethod ov m pl)
      callWith pos f first (backTo pos (starEach (e :: es) X.env)) (backToKw pos (keywordEach [] X.env))) := by rfl) :
    PE X (.Call (.Attribute o m apos) (e :: es) [] pos) (IX C m sp dvs E ta t) := by
  intro pins s σ H Q I h;refine PySem.W.methodCall_KW (pl := pl) (ff (he pins s σ H _ I h) λu s1 ⟨x, H1, I1, rx, a, dx, fs, ex, ea, l, q⟩ => ?_) ht;subst ex;obtain rfl : u = Value.ref a := rx;refine Cu I1 ea c hm l ?_;refine BM (first := [.ref a]) (h₀ := X.base) I.ok.mod.kin hm.kp (ff (ha pos pins s1 σ H1 _ I1 q) λus s2 ⟨vs, H2, I2, r, q2⟩ => ⟨I2.kIn, ?_⟩) hst hpl;exact E4 (us := .ref a :: us) (vs := .ref a :: vs) F hr hb hd hx I2 (.cons rfl r) q2
structure Mk (K:FG9) (C f:Addr):Prop where
 makes:PySem.W.makesIn K C=true
 init:PySem.W.findIn K (.ref C) "__init__"=some (some (.ref f))
 fn:PySem.W.isFn K (.ref f)=true
 kp:PySem.W.keepIn K (.ref C)=true
theorem E3 {pins:List (Addr×Obj)} {σ:St} {H:Hp} {s:Shared} {Q:VK} {us:List Value} {vs:List V} (M:Mk X.K C f) (F:cw X.prog X.w X.K X.mg X.base CX k f fd ps sp) (hr:kv (k+1) X.A) (hb:Binds X.K fd ps ds) (hd:cp dvs ds)
  (hx:vn CX X E) (I:Inv X pins σ H s) (r:cp vs us)
  (h:∀x dx,H x=none->H dx=none->dx≠x->sp (.ref x :: (vs++dvs)) (upd (upd H dx (.own x)) x (.ins C dx [])) (λv H2=>v=.non/\Q (.ref x) H2) E) :
  wpAny (model X.prog X.w) X.A (call (.ref C) us) (EP X pins σ Q) X.xe s:=by
 have hq:=h (s.heap.objs.size+1) s.heap.objs.size (I.hok.fresh (zh _)) (I.hok.fresh (au _)) (b7 (dD _));have I2:=Inv.made (C:=C) I;have r2:cp (V.ref (s.heap.objs.size+1) :: (vs++dvs)) (Value.ref (s.heap.objs.size+1) :: (us++ds)):=.cons rfl (r.append hd)
 have hl:(Value.ref (s.heap.objs.size+1) :: us++ds).length=ps.length:=by
  have e:=r2.length;rw[F.len _ _ _ _ hq] at e;exact e.symm
 refine wpAny_call (Fz (f:=f) I.kIn M.makes M.init (beq_iff_eq.mp M.fn) (codeAny_mono (F.run _ X.stack _ _ ⟨Value.ref (s.heap.objs.size+1) :: us,[]⟩ (Value.ref (s.heap.objs.size+1) :: (us++ds)) _ _ E (hr.make C us [])
  (I2.env0.make C us []) (hb _ (Value.ref (s.heap.objs.size+1) :: us) I2.kIn hl) r2 hq) λr s' hq'=>?_))
 cases r with
 | error e=>exact hx pins σ _ _ e s' I2 hq'
 | ok fl =>
  cases fl with
  | ret u =>
   obtain ⟨v,H',I3,rv,ev,q3⟩:=I2.after hq';subst ev;exact ⟨rv,⟨V.ref (s.heap.objs.size+1),H',I3,rfl,q3⟩⟩
  | next=>exact False.elim hq'
  | brk=>exact False.elim hq'
  | cont=>exact False.elim hq'
theorem De (M:Mk X.K C f) (F:cw X.prog X.w X.K X.mg X.base CX k f fd ps sp) (hr:kv (k+1) X.A) (hg:Gl X x) (hm:X.mg x=some (.ref C)) (hb:Binds X.K fd ps ds) (hd:cp dvs ds) (hx:vn CX X E)
  (ha:PA X (e :: es) t) (hdb:(x == ("__debug__":Str))=false:=by decide) (he:starEach (e :: es) X.env=(false,eval e X.env) :: starEach es X.env:=by rfl) (hpl:(backTo pos (starEach es X.env)).any (·.1)=false:=by rfl) :
  PE X (.Call (.Name x p) (e :: es) [] pos) (IY C sp dvs E t):=by
 intro pins s σ H Q I h;refine wpAny_Call_Name_kw (zW I hg hm ?_ hdb);refine BM (h₀:=X.base) I.ok.mod.kin M.kp (ff (ha pos pins s σ H _ I h) λus s1 ⟨vs,H1,I1,r,q⟩=>⟨I1.kIn,?_⟩) he hpl;exact E3 M F hr hb hd hx I1 r q
end
structure aX (N P:List Str) (sc:Scope):Prop where
 kind:sc.kind=.function
 co:sc.isCoroutine=false
 gen:sc.isGenerator=false
 nd:N.Nodup
 pre:N.take P.length=P
 par:∀x∈P,sc.names.lookup x=some .local\/sc.names.lookup x=some .cell
 nofree:∀y∈sc.names,y.2≠.free
theorem y9 {kindOf:Str->Option NameKind} {x:Str}:∀{binds:List (Str×Value)} {m:Str->Option Value},(∀v,(x,v)∉binds)->bindL kindOf binds m x=m x
 | [],_,_=>rfl
 | (n,v) :: r,m,h=>by
  unfold bindL;rw[y9 λw hw=>h w (bD _ hw)]
  split
  ·have:x≠n:=by rintro rfl;exact h v cH
   simp [this]
  ·rfl
theorem zb {kindOf:Str->Option NameKind} {x:Str}:∀{binds:List (Str×Value)} {m:Str->Option Value},(∀v,(x,v)∉binds)->bindC kindOf binds m x=m x
 | [],_,_=>rfl
 | (n,v) :: r,m,h=>by
  unfold bindC;rw[zb λw hw=>h w (bD _ hw)]
  split
  ·rfl
  ·have:x≠n:=by rintro rfl;exact h v cH
   simp [this]
theorem za {kindOf:Str->Option NameKind} {x:Str} {v:Value}:∀{P:List Str} {vs:List Value} {i:Nat} {m:Str->Option Value},P.Nodup->P[i]?=some x->vs[i]?=some v->kindOf x=some .local →
  bindL kindOf (P.zip vs) m x=some v
 | [],_,_,_,_,h,_,_=>by simp at h
 | _ :: _,[],_,_,_,_,h,_=>by simp at h
 | p :: P,w :: vs,0,m,nd,h1,h2,hk=>by
  simp at h1 h2;subst h1;subst h2;show bindL kindOf ((p,w) :: P.zip vs) m p=_
  unfold bindL;rw[y9 λv hv=>(du.mp nd).1 (GP hv).1,if_pos hk];simp
 | p :: P,w :: vs,i+1,m,nd,h1,h2,hk=>by
  show bindL kindOf ((p,w) :: P.zip vs) m x=_
  unfold bindL;exact za (i:=i) (du.mp nd).2 (by simpa using h1) (by simpa using h2) hk
theorem zd {kindOf:Str->Option NameKind} {x:Str} {v:Value}:∀{P:List Str} {vs:List Value} {i:Nat} {m:Str->Option Value},P.Nodup->P[i]?=some x->vs[i]?=some v->kindOf x≠some .local →
  bindC kindOf (P.zip vs) m x=some v
 | [],_,_,_,_,h,_,_=>by simp at h
 | _ :: _,[],_,_,_,_,h,_=>by simp at h
 | p :: P,w :: vs,0,m,nd,h1,h2,hk=>by
  simp at h1 h2;subst h1;subst h2;show bindC kindOf ((p,w) :: P.zip vs) m p=_
  unfold bindC;rw[zb λv hv=>(du.mp nd).1 (GP hv).1,if_neg hk];simp
 | p :: P,w :: vs,i+1,m,nd,h1,h2,hk=>by
  show bindC kindOf ((p,w) :: P.zip vs) m x=_
  unfold bindC;exact zd (i:=i) (du.mp nd).2 (by simpa using h1) (by simpa using h2) hk
def start (N:List Str) (vs:List V):St:=vs.map some++List.replicate (N.length - vs.length) none
def Et (CX:GK) (P:Program) (w:World) (K:FG9) (mg:Str->Option Value) (base:Heap) (N:List Str) (qual:Str) (scope:Scope) (f:Addr) (cd:Value) (A:Around) (outer:List Env) (s:Shared) (H:Hp) (E:XK):Cx where
 prog:=P
 w:=w
 K:=K
 mg:=mg
 base:=base
 A:=A.deeper (envOfC qual scope s.heap.objs.size f cd)
 N:=N
 s₀:=s
 H₀:=H
 env:=envOfC qual scope s.heap.objs.size f cd
 outer:=outer
 stack:=envOfC qual scope s.heap.objs.size f cd :: outer
 ex:=[]
 calm:=true
 fn:=λ_=>true
 pn:=[]
 xe:=λe s'=>wpAny (model P w) (A.deeper (envOfC qual scope s.heap.objs.size f cd)) (leaving (envOfC qual scope s.heap.objs.size f cd) e) (λ_ s''=>CX outer H s E e s'') (λe' s''=>CX outer H s E e' s'') s'
theorem BD {sc:Scope} {n:Nat} {x:Str} (h:sc.names.lookup x=some .cell):∃c,(cellsFrom n sc.names []).lookup x=some c:=by
 have q:=wu sc.names n [] (.inl h);exact KL.mp q
theorem El {CX:GK} {P:Program} {w:World} {K:FG9} {mg:Str->Option Value} {base:Heap} {N ps:List Str} {qual:Str} {scope:Scope} {f:Addr} {cd:Value} {A:Around} {outer:List Env} {s s1:Shared} {H:Hp} {E:XK} {us:List Value} {vs:List V}
  (S:aX N ps scope) (hd:A.handled=none) (e0:CP P w K mg base A outer s H) (hl:vs.length=ps.length) (r:cp vs us)
  (x:InCallC s s.heap.objs.size (bindL (envOfC qual scope s.heap.objs.size f cd).kindOf (ps.zip us) λ_=>none) (cellsFrom (s.heap.objs.size+1) scope.names []) (bindC (envOfC qual scope s.heap.objs.size f cd).kindOf (ps.zip us) λ_=>none) s1) :
  Inv (Et CX P w K mg base N qual scope f cd A outer s H E) [] (start N vs) H s1:=by
 have hpl:ps.length<=N.length:=by have:=congrArg List.length S.pre;rw[cO] at this;lia
 obtain ⟨h1,tk,rfl,hk⟩:=x.done;have noA:∀b:Addr,b∉(Et CX P w K mg base N qual scope f cd A outer s H E).ex:=λb z=>absurd (show b∈([]:List Addr) from z) (by simp)
 refine ⟨⟨e0.mod,S.kind,rfl,rfl,au _,λy z c h1 h2=>?_,λy hy=>?_,λy c _ h=>?_,λ_=>hd,Around.frames_deeper e0.frames,.inr ⟨rfl,rfl⟩,λb z=>absurd z (noA b),e0.bs,e0.bsz,λb _ _=>noA b,λb z=>absurd z (noA b),e0.funs,e0.frf⟩,
  rfl,e0.bare,Un.kept hk,⟨_,x.toInCall.ns,λi y v h1 h2 h3=>?_⟩,λy c h=>⟨_,x.cell y c h⟩,e0.hok.fresh (au _),λy c h=>?_,λp hp=>absurd (show p∈([]:List (Addr×Obj)) from hp) (by simp),e0.hok.kept hk,?_⟩
 ·exact name_of_addr x.apart (kn h1) (kn h2)
 ·have hy:scope.names.lookup y=some .cell\/scope.names.lookup y=some .free:=hy;rcases hy with hy | hy
  ·exact BD hy
  ·exact absurd rfl (S.nofree _ (kn hy))
 ·exact bh (x.above y c (kn h))
 ·have hi:i < vs.length:=by
   unfold start at h2;by_cases hi:i < vs.length
   ·exact hi
   ·rw[bR (by simpa using hi)] at h2;rw[LV] at h2
    split at h2 <;> cases h2
  have ha:vs[i]?=some v:=by
   unfold start at h2;rw[cQ (by simpa using hi),az] at h2;cases e:vs[i]? with
   | none=>rw[e] at h2;cases h2
   | some a=>rw[e] at h2;cases h2;rfl
  obtain ⟨u,hu,rv⟩:=r.get ha
  have hp:ps[i]?=some y:=by
   rw[<- S.pre,KN (by lia)];exact h1
  have ndP:ps.Nodup:=by rw[<- S.pre];exact S.nd.sublist (List.take_sublist _ _)
  refine ⟨u,rv,?_⟩;rcases S.par y (ak hp) with k | k
  ·exact .inl ⟨k,za ndP hp hu k⟩
  ·obtain ⟨c,e⟩:=BD (n:=s.heap.objs.size+1) k;refine .inr ⟨.inl k,c,e,?_⟩;have q:=x.cell y c e;rw[zd ndP hp hu (by show scope.names.lookup y≠_;rw[k];decide)] at q;exact q
 ·exact e0.hok.fresh (bh (x.above y c (kn h)))
 ·unfold start;show _=N.length
  rw[aA,ag,List.length_replicate]
  lia
theorem LJ {CX:GK} {P:Program} {w:World} {K:FG9} {mg:Str->Option Value} {base:Heap} {k:Nat} {f:Addr} {name qual:Str} {params:Arguments} {body:List Stmt} {scope:Scope} {dV kV doc pm cdv ct oc:Value} {an od:Option Addr}
  {osl:Array (Option Value)} {N ps:List Str} {sp:Sp} (lk:K.lookup f=some ⟨oc,od,.func (PySem.W.fnOf name qual params body scope dV kV doc pm an cdv ct),osl⟩) (hcd:PySem.W.codeIn K cdv qual=true) (S:aX N ps scope)
  (len:∀vs H Q E,sp vs H Q E->vs.length=ps.length)
  (hbody:∀(A:Around) (outer:List Env) (s:Shared) (H:Hp) (vs:List V) (Q:VK) (E:XK),kv k (A.deeper (envOfC qual scope s.heap.objs.size f cdv))->sp vs H Q E →
   ∃t,CK (Et CX P w K mg base N qual scope f cdv A outer s H E) body t/\t { nx:=λ_ H'=>Q .non H',rt:=Q } (start N vs) H) :
  cw P w K mg base CX (k+1) f (PySem.W.fnOf name qual params body scope dV kV doc pm an cdv ct) ps sp:=by
 refine ⟨len,λA outer s H args us vs Q E hr e0 hb r hsp=>?_⟩;have hl:=len _ _ _ _ hsp;have KX:K.In s.heap:=e0.mod.kin.keeps λb o e=>(e0.bs b o e).1
 have lim:s.heap.NoLimit:=e0.mod.nolimit.keeps λb o e=>(e0.bs b o e).1
 have hkind:∀y∈ps.zip us,scope.names.lookup y.1=some .local\/(scope.names.lookup y.1=some .cell/\((cellsFrom (s.heap.objs.size+1) scope.names []).lookup y.1).isSome=true):=λ⟨n,v⟩ hy=>by
  rcases S.par n (GP hy).1 with q | q
  ·exact .inl q
  ·exact .inr ⟨q,wu _ _ _ (.inl q)⟩
 refine codeAny_call_function hr.depth (KX _ _ lk) rfl S.co S.gen rfl (PySem.W.codeRec_of KX hcd) (hb _ _ _ _ ?_);refine wpAny_newFunctionEnv_cells S.kind hkind λenv he s1 x=>?_
 subst he;refine ⟨lim.keeps x.toInCall.keep,codeAny_func ?_⟩;obtain ⟨t,ht,hq⟩:=hbody A outer s H vs Q E (hr.deeper _) hsp;have I:Inv (Et CX P w K mg base N qual scope f cdv A outer s H E) [] (start N vs) H s1:=El S hr.hd e0 hl r x;refine wpAny_mono (ht [] s1 (start N vs) H _ I hq) (λfl s' hs=>?_) λe s' hs=>hs
 have fin:∀{σ':St} {H':Hp} {v:V} {u:Value},Inv (Et CX P w K mg base N qual scope f cdv A outer s H E) [] σ' H' s'->RelV v u->Q v H'->CE outer P w H s Q u s' :=
  λ{σ' H' v u} J rv q=>⟨v,H',J.os,J.bare,J.base,J.hok,rv,q⟩
 cases fl with
 | ret u =>
  obtain ⟨v,σ',H',J,rv,q⟩:=hs;exact fin J rv q
 | next =>
  obtain ⟨σ',H',J,q⟩:=hs;exact fin (v:=V.non) (u:=Value.none) J rfl q
 | brk =>
  obtain ⟨_,_,_,q⟩:=hs;exact False.elim q
 | cont =>
  obtain ⟨_,_,_,q⟩:=hs;exact False.elim q
section
variable {X:Cx} {x:Str} {p pos:Pos} {e:Expr} {es:List Expr} {t:TA} {id T:String} {r:List V->Hp->VK->Prop}
def L9 (r:List V->Hp->VK->Prop) (t:TA):TE:=λσ H Q=>t σ H λvs H1=>r vs H1 Q
theorem bS (hc:qM X (.builtin id) r) (hg:Gl X x) (hm:X.mg x=none) (hv:bootBuiltins x=some (.builtin id)) (ha:PA X (e :: es) t) (hn:x≠"__name__":=by decide) (hdb:(x == ("__debug__":Str))=false:=by decide)
  (he:starEach (e :: es) X.env=(false,eval e X.env) :: starEach es X.env:=by rfl) (hpl:(backTo pos (starEach es X.env)).any (·.1)=false:=by rfl):PE X (.Call (.Name x p) (e :: es) [] pos) (L9 r t):=by
 intro pins s σ H Q I h;refine wpAny_Call_Name_kw (kr I hg hm hv ?_ hn hdb);exact PyProof.Rows.callWith_builtin1 (ff (ha pos pins s σ H _ I h) λus s1 ⟨vs,H1,I1,r1,q1⟩=>hc pins s1 σ H1 vs us Q I1 r1 q1) he hpl
theorem lS (hc:qM X (.type T) r) (hg:Gl X x) (hm:X.mg x=none) (hv:bootBuiltins x=some (.type T)) (ha:PA X (e :: es) t) (hn:x≠"__name__":=by decide) (hdb:(x == ("__debug__":Str))=false:=by decide)
  (he:starEach (e :: es) X.env=(false,eval e X.env) :: starEach es X.env:=by rfl) (hpl:(backTo pos (starEach es X.env)).any (·.1)=false:=by rfl):PE X (.Call (.Name x p) (e :: es) [] pos) (L9 r t):=by
 intro pins s σ H Q I h;refine wpAny_Call_Name_kw (kr I hg hm hv ?_ hn hdb);exact PyProof.Rows.callWith_type1 (ff (ha pos pins s σ H _ I h) λus s1 ⟨vs,H1,I1,r1,q1⟩=>hc pins s1 σ H1 vs us Q I1 r1 q1) he hpl
end
end L2
namespace HT
open PySem PyProof.Rows
section
open PySem.SeqAt
open PySem.AutoSeq1 (wpAny_loadPart')
open PySem.MeetsSeq PySem.MeetsSeq2 PySem.MeetsSeq3
end
section
variable {prog:Program} {w:World} {A:Around} {E:Value->Shared->Prop} {s:Shared}
def AS (n d:Nat):Option Int->Nat
 | none=>d
 | some v=>if v < 0 then (v+(n:Int)).toNat else min v.toNat n
theorem AR (n d:Nat):AS n d none=d:=rfl
theorem C5 (n d k:Nat):AS n d (some (k:Int))=min k n:=by
 show (if (k:Int) < 0 then ((k:Int)+(n:Int)).toNat else min (k:Int).toNat n)=min k n
 rw[if_neg (by lia),Int.toNat_natCast]
end
end HT
namespace L2
open PySem PySem.Spec PyProof.Rows
abbrev TO:=St->Hp->(Option Int->Hp->Prop)->Prop
def PO (X:Cx) (e:Option Expr) (t:TO):Prop :=
 ∀(pins:List (Addr×Obj)) (s:Shared) (σ:St) (H:Hp) (Q:Option Int->Hp->Prop),Inv X pins σ H s->t σ H Q →
  wpAny (model X.prog X.w) X.A (evalPart e X.env) (λu s'=>∃o H',Inv X pins σ H' s'/\IsPart u o/\Q o H') X.xe s
def CT:TO:=λ_ H Q=>Q none H
def IU (t:TE):TO:=λσ H Q=>t σ H λx H1=>∃i,x=.int i/\Q (some i) H1
theorem intsAre_of {ns:List Int}:∀{us:List Value},cp (ns.map V.int) us->IntsAre us ns:=by
 induction ns with
 | nil=>intro us r;rw[List.map_nil] at r;cases r;exact .nil
 | cons n ns ih =>
  intro us r;rw[kB] at r;cases r with
  | cons r1 r2 =>
   obtain ⟨t,e⟩:=r1;subst e;exact .cons n t (ih r2)
section
variable {X:Cx} {e:Expr} {te:TE} {lo hi:Option Expr} {tl th:TO} {pos p2:Pos}
theorem C9:PO X none CT:=by
 intro pins s σ H Q I h;rw[evalPart_none];exact wpAny_pure ⟨none,H,I,.none,h⟩
theorem C8 (h:PE X e te):PO X (some e) (IU te):=by
 intro pins s σ H Q I hw;rw[evalPart_some];refine ff (h pins s σ H _ I hw) λu s1 ⟨x,H1,I1,r1,q1⟩=>?_
 obtain ⟨i,rfl,q⟩:=q1;obtain ⟨t,rfl⟩:=r1;exact ⟨some i,H1,I1,.int i t,q⟩
def SlR (X:Cx) (r:V->Option Int->Option Int->Hp->VK->Prop):Prop :=
 ∀(pins:List (Addr×Obj)) (s:Shared) (σ:St) (H:Hp) (x:V) (v vl vu:Value) (lo hi:Option Int) (sl:Addr) (Q:VK),Inv X pins σ H s->RelV x v->s.heap.IsSliceOf sl vl vu .none->IsPart vl lo->IsPart vu hi->r x lo hi H Q →
  ∃T id,typeLookup (.type T) "__getitem__"=pure (some (.builtin id))/\s.TypeIs v T/\wpAny (model X.prog X.w) X.A (getItem v (.ref sl)) (EP X pins σ Q) X.xe s
def tSl (r:V->Option Int->Option Int->Hp->VK->Prop) (te:TE) (tl th:TO):TE:=λσ H Q=>te σ H λx H1=>tl σ H1 λl H2=>th σ H2 λu H3=>r x l u H3 Q
theorem A0 {r:V->Option Int->Option Int->Hp->VK->Prop} (hr:SlR X r) (he:PE X e te) (hl:PO X lo tl) (hu:PO X hi th):PE X (.Subscript e (.Slice lo hi none p2) pos) (tSl r te tl th):=by
 intro pins s σ H Q I h;refine Subscript_ (ff (he pins s σ H _ I h) λv s1 ⟨x,H1,I1,r1,q1⟩=>?_);refine wpAny_Slice (ff (hl pins s1 σ H1 _ I1 q1) λvl s2 ⟨l,H2,I2,pl,q2⟩=>ff (hu pins s2 σ H2 _ I2 q2) λvu s3 ⟨u,H3,I3,pu,q3⟩=>?_);rw[evalPart_none];refine wpAny_pure ?_;have I4:Inv X pins σ H3 { s3 with heap:=s3.heap.push { cls:=.type "slice",data:=.fields #[vl,vu,.none] } }:=I3.kept (t':=s3.toks) λb ob q=>Heap.get?_push_of_some _ q
 obtain ⟨T,id,hT,ht,hg⟩:=hr pins { s3 with heap:=s3.heap.push { cls:=.type "slice",data:=.fields #[vl,vu,.none] } } σ H3 x v vl vu l u s3.heap.objs.size Q I4 r1 (Heap.IsSliceOf.new ..) pl pu q3;show wpAny (model X.prog X.w) X.A (subscriptTail e (.Slice lo hi none p2) v (.ref s3.heap.objs.size)) (EP X pins σ Q) X.xe { s3 with heap:=s3.heap.push { cls:=.type "slice",data:=.fields #[vl,vu,.none] } }
 exact tail_any (ops:=[.ref s3.heap.objs.size,v]) ht hT hg (by with_unfolding_all rfl)
def ux (xs:List V) (lo hi:Option Int):List V:=(xs.drop (HT.AS xs.length 0 lo)).take (HT.AS xs.length xs.length hi - HT.AS xs.length 0 lo)
theorem vK (xs:List V) (lo hi:Option Int):(ux xs lo hi).length<=xs.length:=by
 unfold ux;rw[cO,List.length_drop]
 lia
end
def Ez (n:Nat) (i:Int):Option Nat:=if 0<=i then (if i < n then some i.toNat else none) else if -(n:Int)<=i then some (i+n).toNat else none
def CC {α:Type} (xs:List α) (i:Int):Option α:=(Ez xs.length i).bind λj=>xs[j]?
theorem Dy {n:Nat} {i:Int} {j:Nat} (h:Ez n i=some j):seqIndex? i n=some j/\j < n/\-(n:Int)<=i/\i < n:=by
 unfold Ez at h;by_cases h0:0<=i
 ·rw[if_pos h0] at h;by_cases h1:i < n
  ·rw[if_pos h1] at h;have e:i.toNat=j:=bp h;exact ⟨by rw[seqIndex_of h0 h1,e],by lia,by lia,h1⟩
  ·rw[if_neg h1] at h;cases h
 ·rw[if_neg h0] at h;by_cases h1:-(n:Int)<=i
  ·rw[if_pos h1] at h;have e:(i+n).toNat=j:=bp h;exact ⟨by rw[seqIndex_neg (by lia) h1,e],by lia,h1,by lia⟩
  ·rw[if_neg h1] at h;cases h
theorem Ag {α:Type} {xs:List α} {i:Int} {v:α} (h:CC xs i=some v):∃j,seqIndex? i xs.length=some j/\xs[j]?=some v/\j < xs.length/\-(xs.length:Int)<=i/\i < xs.length:=by
 unfold CC at h;cases e:Ez xs.length i with
 | none=>rw[e] at h;cases h
 | some j =>
  rw[e] at h;obtain ⟨h1,h2,h3,h4⟩:=Dy e;exact ⟨j,h1,h,h2,h3,h4⟩
theorem eX {α:Type} {xs:List α} {j:Nat} {v:α} (h:xs[j]?=some v):CC xs (j:Int)=some v:=by
 have hj:j < xs.length:=(aD.mp h).1
 have e:Ez xs.length (j:Int)=some j:=by
  unfold Ez;rw[if_pos (by lia),if_pos (by lia)];simp
 unfold CC;rw[e];exact h
theorem xQ {α:Type} (xs:List α) (v:α):CC (xs++[v]) (-1)=some v:=by
 have hl:(xs++[v]).length=xs.length+1:=by simp
 have e:Ez (xs++[v]).length (-1)=some xs.length:=by
  unfold Ez;rw[hl,if_neg (by decide),if_pos (by lia)];congr 1
  lia
 unfold CC;rw[e];show (xs++[v])[xs.length]?=some v
 simp
def IP (b:Expr):Prop:=∀o i,subscripted b false o i=operate [o,i] (getItem o i)
def LQ (X:Cx) (r:R2):Prop :=
 ∀(value slice:Expr) (pins:List (Addr×Obj)) (s:Shared) (σ:St) (H:Hp) (x y:V) (v u:Value) (Q:VK),Inv X pins σ H s->RelV x v->RelV y u->r x y H Q →
  subscripted slice false v u=operate [v,u] (getItem v u)->wpAny (model X.prog X.w) X.A (subscriptTail value slice v u) (EP X pins σ Q) X.xe s
def MtR (X:Cx) (id:String) (r:V->List V->Hp->VK->Prop):Prop :=
 ∀(pins:List (Addr×Obj)) (s:Shared) (σ:St) (H:Hp) (x:V) (xs:List V) (v:Value) (us:List Value) (Q:VK),Inv X pins σ H s->RelV x v->cp xs us->r x xs H Q →
  wpAny (model X.prog X.w) X.A (call (.builtin id) (v :: us)) (EP X pins σ Q) X.xe s
section
variable {X:Cx} {a b:Expr} {ta tb:TE} {pos:Pos}
theorem be {r:R2} (hr:LQ X r) (ha:PE X a ta) (hb:PE X b tb) (hs:IP b:=by intro _ _;rfl):PE X (.Subscript a b pos) (K2 r ta tb):=by
 intro pins s σ H Q I h;exact Subscript_ (Kw ha hb I h λv u s2 x y H2 I2 rx ry q=>hr a b pins s2 σ H2 x y v u Q I2 rx ry q (hs _ _))
def J7 (K:FG9):R2:=λx y H Q=>∃p xs i v,x=.ref p/\y=.int i/\bI K H p xs/\CC xs i=some v/\Q v H
def J6 (K:FG9):R2:=λx y H Q=>∃p xs i v,x=.ref p/\y=.int i/\rH K H p xs/\CC xs i=some v/\Q v H
theorem bK:LQ X (J7 X.K):=by
 intro value slice pins s σ H x y v u Q I rx ry h hs;obtain ⟨p,xs,i,z,rfl,rfl,hq,he,q⟩:=h;cases rx;obtain ⟨t,rfl⟩:=ry;obtain ⟨its,r,pl,hz⟩:=I.list hq;obtain ⟨j,h1,h2,h3,h4,h5⟩:=Ag he;obtain ⟨w,ew,rw'⟩:=r.get h2;have hl:=r.length;have hn:=xA;have fin:EP X pins σ Q w s:=⟨z,H,I,rw',q⟩;by_cases h0:0<=i
 ·have hj:i.toNat=j:=by
   rw[seqIndex_of h0 h5] at h1;exact bp h1
  exact item_listR pl.isList h0 (by lia) (by rw[hj];simpa using ew) fin hs
 ·have hj:(i+(its.toArray.size:Int)).toNat=j:=by
   rw[seqIndex_neg (by lia) h4] at h1;rw[aJ,<- hl];exact bp h1
  exact subscriptTail_builtinR (x:=w) pl.isList.typeIs slot_list_getitem.lookup
   (wpAny_getItem_list_neg (Q:=λr s'=>r=w/\EP X pins σ Q r s') pl.isList (by lia) (by rw[aJ] <;> lia) (by lia) (by rw[hj];simpa using ew) ⟨rfl,fin⟩) hs
theorem bT:LQ X (J6 X.K):=by
 intro value slice pins s σ H x y v u Q I rx ry h hs;obtain ⟨p,xs,i,z,rfl,rfl,hq,he,q⟩:=h;cases rx;obtain ⟨t,rfl⟩:=ry;obtain ⟨its,r,pl,hz⟩:=I.tuple hq;obtain ⟨j,h1,h2,h3,h4,h5⟩:=Ag he;obtain ⟨w,ew,rw'⟩:=r.get h2;have hl:=r.length;have hn:=xA;have fin:EP X pins σ Q w s:=⟨z,H,I,rw',q⟩
 exact subscriptTail_builtinR (x:=w) pl.typeIs slot_tuple_getitem.lookup
  (getItem_tuple (j:=j) (Q:=λr s'=>r=w/\EP X pins σ Q r s') pl (by lia) (by lia) (by rw[aJ,<- hl];exact h1) (by simpa using ew) ⟨rfl,fin⟩) hs
theorem Cn (its:List Value) (n j:Nat) (u:Value):Obj.mapSeq (·.setIfInBounds j u) { cls:=.type "list",data:=.seq its.toArray n }={ cls:=.type "list",data:=.seq (its.set j u).toArray n }:=by
 simp [Obj.mapSeq]
theorem Inv.lst {pins:List (Addr×Obj)} {σ:St} {H:Hp} {s:Shared} {p:Addr} {xs:List V} (I:Inv X pins σ H s) (h:H p=some (.lst xs)) :
  ∃(its:List Value) (n:Nat),cp xs its/\s.heap.get? p=some { cls:=.type "list",data:=.seq its.toArray n }/\xs.length<=sizeLine:=by
 obtain ⟨z,its,n,r,e⟩:=I.hok p _ h;exact ⟨its,n,r,e,z⟩
theorem Inv.lstUpd {pins:List (Addr×Obj)} {σ:St} {H:Hp} {s:Shared} {p:Addr} {xs ys:List V} {its its':List Value} {n n':Nat} {f:Obj->Obj} (I:Inv X pins σ H s) (h:H p=some (.lst xs))
  (ho:s.heap.get? p=some { cls:=.type "list",data:=.seq its.toArray n }) (hf:f { cls:=.type "list",data:=.seq its.toArray n }={ cls:=.type "list",data:=.seq its'.toArray n' }) (r:cp ys its') (hz:ys.length<=sizeLine) (t:Nat) :
  Inv X pins σ (upd H p (.lst ys)) { s with heap:=s.heap.update p f,toks:=t }:=by
 have e:(s.heap.update p f).get? p=some { cls:=.type "list",data:=.seq its'.toArray n' }:=by
  rw[Heap.get?_update_self f ho (by rw[hf] <;> rfl),hf]
 refine I.write (x:=p) (e:=p) (by rw[h];trivial) (.inl rfl) (λb u hb q=>(Heap.get?_update_other _ _ (Ne.symm hb)).trans q) ⟨_,e⟩ ?_;exact ⟨hz,its',n',r,e⟩
def Jd:V->V->V->Hp->(Hp->Prop)->Prop:=λo i v H Q=>∃p xs k j,o=.ref p/\i=.int k/\H p=some (.lst xs)/\Ez xs.length k=some j/\Q (upd H p (.lst (xs.set j v)))
theorem set_list:Kz X Jd:=by
 intro pins s σ H o i v ov iv u Q I ro ri rv h;obtain ⟨p,xs,k,j,rfl,rfl,hp,hj,q⟩:=h;cases ro;obtain ⟨t,rfl⟩:=ri;obtain ⟨its,n,r,ho,hz⟩:=I.lst hp;obtain ⟨h1,h2,h3,h4⟩:=Dy hj;have hl:=r.length;have hn:=xA
 have I':Inv X pins σ (upd H p (.lst (xs.set j v))) { s with heap:=s.heap.update p (Obj.mapSeq (·.setIfInBounds j u)) } :=
  I.lstUpd hp ho (Cn its n j u) (r.set rv j) (by rw[dY];exact hz) s.toks
 by_cases h0:0<=k
 ·have hk:k.toNat=j:=by
   rw[seqIndex_of h0 h4] at h1;exact bp h1
  exact PySem.W.ki_setAt ho h0 (by lia) (by rw[aJ,<- hl];exact h4) (by rw[hk];exact ⟨_,I',q⟩)
 ·have hk:(k+(its.toArray.size:Int)).toNat=j:=by
   rw[seqIndex_neg (by lia) h3] at h1;rw[aJ,<- hl];exact bp h1
  exact PySem.W.ki_setBack ho (by lia) (by rw[aJ,<- hl];exact h3) (by lia) (by rw[hk];exact ⟨_,I',q⟩)
theorem zA (lo hi:Option Int) (n:Nat):(sliceBounds lo hi none n).1=((HT.AS n 0 lo:Nat):Int)/\(sliceBounds lo hi none n).2.1=((HT.AS n n hi:Nat):Int)/\(sliceBounds lo hi none n).2.2=1:=by
 refine ⟨?_,?_,rfl⟩
 ·cases lo with
  | none=>simp [sliceBounds,HT.AS]
  | some i =>
   simp only[sliceBounds,HT.AS,Option.getD_none,show (1:Int) > 0 by decide,if_true];by_cases h:i < 0
   ·simp only[h,if_true] <;> lia
   ·simp only[h,if_false] <;> lia
 ·cases hi with
  | none=>simp [sliceBounds,HT.AS]
  | some i =>
   simp only[sliceBounds,HT.AS,Option.getD_none,show (1:Int) > 0 by decide,if_true];by_cases h:i < 0
   ·simp only[h,if_true] <;> lia
   ·simp only[h,if_false] <;> lia
theorem yb (its:List Value) (lo hi:Option Int):slicePick its.toArray lo hi none=((its.drop (HT.AS its.length 0 lo)).take (HT.AS its.length its.length hi - HT.AS its.length 0 lo)).toArray:=by
 obtain ⟨h1,h2,h3⟩:=zA lo hi its.toArray.size;unfold slicePick;rw[h1,h2,h3];simp only[sliceRange_one,pick_run,aJ] <;> rfl
def Lo (K:FG9):V->Option Int->Option Int->Hp->VK->Prop:=λx lo hi H Q=>∃a xs,x=.ref a/\bI K H a xs/\∀p,H p=none->Q (.ref p) (upd H p (.lst (ux xs lo hi)))
theorem C4:SlR X (Lo X.K):=by
 intro pins s σ H x v vl vu lo hi sl Q I rx hs pl pu h;obtain ⟨a,xs,rfl,hx,q⟩:=h;cases rx;obtain ⟨its,r,ht,hz⟩:=I.list hx;have hlen:=r.length;refine ⟨"list",_,slot_list_getitem.lookup,ht.isList.typeIs,?_⟩;refine wpAny_getItem_list_slice ht.isList hs pl pu .none (by simp) ?_ (by rw[aJ] <;> lia);rw[yb,<- hlen];refine ⟨.ref s.heap.objs.size,_,I.laid (t':=s.toks) (o:=.lst (ux xs lo hi)) (λb ob q=>Heap.get?_push_of_some _ q) (au _) ?_,rfl,q _ (I.hok.fresh (au _))⟩;exact ⟨ai (vK xs lo hi) hz,_,0,(r.drop (HT.AS xs.length 0 lo)).take (HT.AS xs.length xs.length hi - HT.AS xs.length 0 lo),Heap.get?_push_size _ rfl⟩
def uj:V->Bool
 | .non=>true
 | .bl _=>true
 | .int _=>true
 | .str _=>true
 | _=>false
def Jq:V->V->Bool
 | .non,.non=>true
 | .bl a,.bl b=>a == b
 | .bl a,.int b=>(if a then 1 else 0) == b
 | .int a,.bl b=>a == (if b then 1 else 0)
 | .int a,.int b=>a == b
 | .str a,.str b=>a == b
 | _,_=>false
theorem Ks {A:Around} {s:Shared} {y x:V} {u v:Value} (ry:RelV y u) (rx:RelV x v) (fy:uj y=true) (fx:uj x=true):SeqAt.EqAt A s u v (Jq y x):=by
 cases y with
 | non =>
  cases ry;cases x with
  | non=>cases rx;exact SeqAt.EqAt.same _
  | bl b=>cases rx;exact SeqAt.EqAt.none_bool b
  | int b=>obtain ⟨t,rfl⟩:=rx;exact SeqAt.EqAt.none_int b t
  | str b=>obtain ⟨t,rfl⟩:=rx;exact SeqAt.EqAt.none_str b t
  | _=>exact absurd (show false=true from fx) aT
 | bl a =>
  cases ry;cases x with
  | non=>cases rx;exact SeqAt.EqAt.bool_none a
  | bl b=>cases rx;exact SeqAt.EqAt.bool_bool a b
  | int b=>obtain ⟨t,rfl⟩:=rx;exact SeqAt.EqAt.bool_int a b t
  | str b=>obtain ⟨t,rfl⟩:=rx;exact SeqAt.EqAt.bool_str a b t
  | _=>exact absurd (show false=true from fx) aT
 | int a =>
  obtain ⟨t',rfl⟩:=ry;cases x with
  | non=>cases rx;exact SeqAt.EqAt.int_none a t'
  | bl b=>cases rx;exact SeqAt.EqAt.int_bool a t' b
  | int b=>obtain ⟨t,rfl⟩:=rx;exact SeqAt.EqAt.int_int a t' b t
  | str b=>obtain ⟨t,rfl⟩:=rx;exact SeqAt.EqAt.int_str a t' b t
  | _=>exact absurd (show false=true from fx) aT
 | str a =>
  obtain ⟨t',rfl⟩:=ry;cases x with
  | non=>cases rx;exact SeqAt.EqAt.str_none a t'
  | bl b=>cases rx;exact SeqAt.EqAt.str_bool a t' b
  | int b=>obtain ⟨t,rfl⟩:=rx;exact SeqAt.EqAt.str_int a t' b t
  | str b=>obtain ⟨t,rfl⟩:=rx;exact SeqAt.EqAt.str_str a t' b t
  | _=>exact absurd (show false=true from fx) aT
 | _=>exact absurd (show false=true from fy) aT
def IA (x:V) (u:Value):Bool:=match u with
 | .none=>Jq .non x
 | .bool b=>Jq (.bl b) x
 | .int i _=>Jq (.int i) x
 | .str z _=>Jq (.str z) x
 | _=>false
theorem FX {x y:V} {u:Value} (r:RelV y u) (f:uj y=true):IA x u=Jq y x:=by
 cases y with
 | non=>cases r;rfl
 | bl b=>cases r;rfl
 | int i=>obtain ⟨t,rfl⟩:=r;rfl
 | str z=>obtain ⟨t,rfl⟩:=r;rfl
 | _=>exact absurd (show false=true from f) aT
theorem Ah {x:V}:∀{xs:List V} {us:List Value},cp xs us->xs.all uj=true->us.any (IA x)=xs.any λy=>Jq y x
 | _,_,.nil,_=>rfl
 | y :: xs,u :: us,.cons r t,f=>by
  rw[KP,cV] at f;rw[List.any_cons,List.any_cons,FX r f.1,Ah t f.2]
theorem xx {A:Around} {s:Shared} {x:V} {v:Value} (rx:RelV x v) (fx:uj x=true):∀{xs:List V} {us:List Value},cp xs us->xs.all uj=true->∀u∈us,SeqAt.EqAt A s u v (IA x u)
 | _,_,.nil,_=>λu hu=>by cases hu
 | y :: xs,u :: us,.cons r t,f=>λu' hu=>by
  rw[KP,cV] at f;rcases aE.mp hu with rfl | hu
  ·rw[FX r f.1];exact Ks r rx f.1 fx
  ·exact xx rx fx t f.2 u' hu
def L4 (x:V) (xs:List V):Bool:=xs.any λy=>Jq y x
def rIn (K:FG9) (neg:Bool):R2:=λx y H Q=>∃p xs,y=.ref p/\(bI K H p xs\/rH K H p xs)/\uj x=true/\xs.all uj=true/\Q (.bl (if neg then !L4 x xs else L4 x xs)) H
theorem zL:vX X (compareOp .NotIn) (rIn X.K true):=by
 intro pins s σ H x y v u Q I rx ry h;obtain ⟨p,xs,rfl,hq,fx,fs,q⟩:=h;cases ry;rcases hq with hq | hq
 ·obtain ⟨its,r,pl,hz⟩:=I.list hq;refine SeqAt.notIn_listAt (IA x) pl.isList (λw hw=>xx rx fx r fs w (by simpa using hw)) ⟨.bl _,H,I,rfl,?_⟩;rw[show its.toArray.any (IA x)=its.any (IA x) by simp,Ah r fs];exact q
 ·obtain ⟨its,r,pl,hz⟩:=I.tuple hq;refine SeqAt.notIn_tupleAt (IA x) pl (λw hw=>xx rx fx r fs w (by simpa using hw)) ⟨.bl _,H,I,rfl,?_⟩;rw[show its.toArray.any (IA x)=its.any (IA x) by simp,Ah r fs];exact q
theorem bB:qM X (.builtin "len") (λxs H Q=>∃p ys,xs=[.ref p]/\(bI X.K H p ys\/rH X.K H p ys)/\Q (.int ys.length) H):=by
 intro pins s σ H xs us Q I r h;obtain ⟨p,ys,rfl,hq,q⟩:=h;obtain ⟨u,rfl,rx⟩:=vals1 r;cases rx;have hn:=xA;rcases hq with hq | hq
 ·obtain ⟨its,r',pl,hz⟩:=I.list hq;have hlen:=r'.length;exact Calls.call_len_list pl.isList (by simp only[aJ] <;> lia) ⟨.int ys.length,H,I.tok _,⟨s.toks+1,by rw[aJ,hlen]⟩,q⟩
 ·obtain ⟨its,r',pl,hz⟩:=I.tuple hq;have hlen:=r'.length;exact len_tuple pl (by simp only[aJ] <;> lia) ⟨.int ys.length,H,I.tok _,⟨s.toks+1,by rw[aJ,hlen]⟩,q⟩
theorem pd:qM X (.type "list") (λxs H Q=>∃p ys,xs=[.ref p]/\(bI X.K H p ys\/rH X.K H p ys)/\∀l,H l=none->Q (.ref l) (upd H l (.lst ys))):=by
 intro pins s σ H xs us Q I r h;obtain ⟨p,ys,rfl,hq,q⟩:=h;obtain ⟨u,rfl,rx⟩:=vals1 r;cases rx
 have fin:∀(its:List Value),cp ys its->ys.length<=sizeLine->∀(h':Heap) (c':Nat),(∀b o',s.heap.get? b=some o'->h'.get? b=some o') →
   h'.get? s.heap.objs.size=some { cls:=.type "list",dict:=none,data:=.seq its.toArray c',slots:=#[] }->EP X pins σ Q (.ref s.heap.objs.size) { s with heap:=h' }:=λits r' hz h' c' kp e =>
  ⟨.ref s.heap.objs.size,_,I.laid (t':=s.toks) kp (au _) (show iK X.prog X.w _ h' _ (.lst ys) from ⟨hz,its,c',r',e⟩),rfl,q _ (I.hok.fresh (au _))⟩
 rcases hq with hq | hq
 ·obtain ⟨its,r',pl,hz⟩:=I.list hq;have hlen:=r'.length;obtain ⟨o,ho,hc,n,hd⟩:=pl.isList;exact call_list_seq p (.inl rfl) ho hc hd (λh' c' kp e=>fin its r' hz h' c' kp e) (by simp only[aJ] <;> lia)
 ·obtain ⟨its,r',pl,hz⟩:=I.tuple hq;have hlen:=r'.length;obtain ⟨o,ho,hc,n,hd⟩:=pl;exact call_list_seq p (.inr rfl) ho hc hd (λh' c' kp e=>fin its r' hz h' c' kp e) (by simp only[aJ] <;> lia)
def L8 (K:FG9) (T:String) (x:V) (H:Hp):Prop:=match x with
 | .str _=>T="str"
 | .int _=>T="int"
 | .ref p=>(T="list"/\∃xs,bI K H p xs)\/(T="tuple"/\∃o,K.lookup p=some o/\o.cls=.type "tuple"/\o.dict=none) \/
   (T="dict"/\((∃kvs,H p=some (.dK kvs))\/∃kvs,H p=some (.dT kvs)))\/(T="set"/\∃S n,H p=some (.set S n))
 | _=>False
theorem JA {pins:List (Addr×Obj)} {σ:St} {H:Hp} {s:Shared} {T:String} {x:V} {v:Value} (I:Inv X pins σ H s) (r:RelV x v) (ty:L8 X.K T x H) :
  s.TypeIs v T/\∀a,v=.ref a->∃ob,s.heap.get? a=some ob/\ob.dict=none:=by
 cases x with
 | str z =>
  obtain ⟨t,rfl⟩:=r;cases (show T="str" from ty);exact ⟨typeIs_str s z t,λ_ e=>nomatch e⟩
 | int i =>
  obtain ⟨t,rfl⟩:=r;cases (show T="int" from ty);exact ⟨typeIs_int s i t,λ_ e=>nomatch e⟩
 | ref p =>
  cases r;rcases ty with ⟨rfl,xs,hq⟩ | ⟨rfl,o,hk,hc,hd⟩ | ⟨rfl,hk⟩ | ⟨rfl,S,n,hk⟩
  ·obtain ⟨its,_,pl,_⟩:=I.list hq;refine ⟨pl.isList.typeIs,λa e=>?_⟩;cases e;obtain ⟨o,n,e,c,hd,_⟩:=pl;exact ⟨o,e,hd⟩
  ·refine ⟨⟨o,I.kIn p o hk,hc⟩,λa e=>?_⟩;cases e;exact ⟨o,I.kIn _ o hk,hd⟩
  ·have z:∃o,s.heap.get? p=some o/\o.ExactDict:=by
    rcases hk with ⟨kvs,hk⟩ | ⟨kvs,hk⟩
    ·obtain ⟨_,_,_,_,o,_,_,e,ex,_⟩:=I.hok p _ hk;exact ⟨o,e,ex⟩
    ·obtain ⟨_,_,_,_,o,_,_,e,ex,_⟩:=I.hok p _ hk;exact ⟨o,e,ex⟩
   obtain ⟨o,e,ex⟩:=z;refine ⟨⟨o,e,ex.1⟩,λa e2=>?_⟩;cases e2;exact ⟨o,e,ex.2.1⟩
  ·obtain ⟨o,_,_,_,e,ex,_⟩:=I.hok p _ hk;refine ⟨⟨o,e,ex.1⟩,λa e2=>?_⟩;cases e2;exact ⟨o,e,ex.2.1⟩
 | _=>exact False.elim ty
def tBM (K:FG9) (T:String) (r:V->List V->Hp->VK->Prop) (to:TE) (t:TA):TE:=λσ H Q=>to σ H λx H1=>L8 K T x H1/\t σ H1 λxs H2=>r x xs H2 Q
variable {o e:Expr} {es:List Expr} {to:TE} {t:TA} {name:Str} {apos cpos:Pos} {T id:String} {r:V->List V->Hp->VK->Prop}
theorem yO (pa:PlainAttrs T) (slot:Slot T name id) (hty:typeOf (.builtin id)=pure (.type "method_descriptor")) (hm:MtR X id r) (ho:PE X o to) (ha:PA X (e :: es) t)
  (hbase:attributeBase o name X.env (eval o X.env)=eval o X.env:=by rfl)
  (hfew:((backTo cpos (starEach (e :: es) X.env)).all (λx=>!x.1) && (backToKw cpos (keywordEach [] X.env)).all (λx=>x.1.isSome)
   && decide ((e :: es).length+([]:List Keyword).length+(if ([]:List Keyword).isEmpty then 0 else 1) < 30))=true:=by rfl)
  (hline:(apos.endLine == cpos.line)=true:=by rfl) (hs:starEach (e :: es) X.env=(false,eval e X.env) :: starEach es X.env:=by rfl) (hplain:(backTo cpos (starEach es X.env)).any (·.1)=false:=by rfl) :
  PE X (.Call (.Attribute o name apos) (e :: es) [] cpos) (tBM X.K T r to t):=by
 intro pins s σ H Q I h;refine wpAny_Call_method_late hbase hfew hline rfl (ff (ho pins s σ H _ I h) λv s1 ⟨x,H1,I1,r1,ty,q1⟩=>?_);obtain ⟨h1,h2⟩:=JA I1 r1 ty;refine ⟨T,id,pa,slot,hty,h1,h2,?_⟩;have hA:=ha cpos pins s1 σ H1 _ I1 q1;rw[hs] at hA ⊢;refine Calls.callWith_builtin (by show (false || (backTo cpos (starEach es X.env)).any (·.1))=false;rw[hplain] <;> rfl) (Calls.evalArgs_plain ?_);exact ff hA λus s2 ⟨vs,H2,I2,r2,q2⟩=>hm pins s2 σ H2 x vs v us Q I2 r1 r2 q2
end
def MtM (X:Cx) (id:String) (r:V->List V->Hp->VK->Prop):Prop :=
 ∀(pins:List (Addr×Obj)) (s:Shared) (σ:St) (H:Hp) (x:V) (xs:List V) (v:Value) (us:List Value) (Q:VK),Inv X pins σ H s->RelV x v->cp xs us->r x xs H Q →
  wpAny (model X.prog X.w) X.A (call (.builtin id) (v :: us)) (EP X pins σ Q) X.xe s
theorem cp.one:∀{x:V} {us:List Value},cp [x] us->∃u,us=[u]/\RelV x u
 | _,_,.cons r .nil=>⟨_,rfl,r⟩
section
variable {X:Cx} {pins:List (Addr×Obj)} {σ:St} {H:Hp} {s:Shared} {l b:Addr} {xs ys zs:List V}
theorem Inv.lset {its its':List Value} {n:Nat} {f:Array Value->Array Value} {t':Nat} (I:Inv X pins σ H s) (hH:H l=some (.lst xs))
  (e:s.heap.get? l=some { cls:=.type "list",data:=.seq its.toArray n }) (hf:f its.toArray=its'.toArray) (hv:cp ys its') (hz:ys.length<=sizeLine) :
  Inv X pins σ (upd H l (.lst ys)) { s with heap:=s.heap.update l (Obj.mapSeq f),toks:=t' }:=by
 have q:=j3 e f;rw[hf] at q;refine I.write (x:=l) (e:=l) (by rw[hH];exact trivial) (.inl rfl) (λb' u hb hu=>(Heap.get?_update_other s.heap (Obj.mapSeq f) (Ne.symm hb)).trans hu) ⟨_,q⟩ ?_;exact ⟨hz,its',_,hv,q⟩
theorem Inv.lnew {its:List Value} {t':Nat} (I:Inv X pins σ H s) (hv:cp ys its) (hz:ys.length<=sizeLine) :
  Inv X pins σ (upd H s.heap.objs.size (.lst ys)) { s with heap:=s.heap.push { cls:=.type "list",data:=.seq its.toArray },toks:=t' } :=
 I.laid (λ_ _ q=>Heap.get?_push_of_some _ q) (au _) ⟨hz,its,0,hv,Heap.get?_push_size _ rfl⟩
theorem Inv.fresh (I:Inv X pins σ H s):H s.heap.objs.size=none:=I.hok.fresh (au _)
theorem Inv.lstM (I:Inv X pins σ H s) (hH:H l=some (.lst xs)):xs.length<=sizeLine/\∃(its:List Value) (n:Nat),cp xs its/\xs.length=its.length/\s.heap.get? l=some { cls:=.type "list",data:=.seq its.toArray n }:=by
 obtain ⟨z,its,n,r,e⟩:=I.hok l _ hH;exact ⟨z,its,n,r,r.length,e⟩
end
section
variable {X:Cx}
def C7:V->List V->Hp->VK->Prop:=λx vs H Q=>∃l xs y,x=.ref l/\vs=[y]/\H l=some (.lst xs)/\xs.length < sizeLine/\Q .non (upd H l (.lst (xs++[y])))
theorem lU:MtM X "list.append" C7:=by
 intro pins s σ H x vs v us Q I rx rv h;obtain ⟨l,xs,y,rfl,rfl,hH,hz,q⟩:=h;cases rx;obtain ⟨u,rfl,ru⟩:=rv.one;obtain ⟨z,its,n,r,hl,e⟩:=I.lstM hH;refine call_meets F.slot_list_append ⟨_,e,rfl⟩ F.entry_list_append (F.args_list_append_2 _ _) (PySem.list_append l its.toArray n u (by rw[aJ];lia)) ⟨e,?_⟩;refine ⟨.non,_,I.lset (its':=its++[u]) hH e (by simp) (r.append (.cons ru .nil)) ?_,rfl,q⟩;rw[aA,br]
 lia
def Lq:R2:=λx y H Q=>∃l b xs zs,x=.ref l/\y=.ref b/\H l=some (.lst xs)/\H b=some (.lst zs)/\xs.length+zs.length<=sizeLine/\∀p,H p=none->Q (.ref p) (upd H p (.lst (xs++zs)))
theorem zN:vX X (binaryOp .Add) Lq:=by
 intro pins s σ H x y v u Q I rx ry h;obtain ⟨l,b,xs,zs,rfl,rfl,hH,hB,hz,q⟩:=h;cases rx;cases ry;obtain ⟨z,its,n,r,hl,e⟩:=I.lstM hH;obtain ⟨z2,its2,n2,r2,hl2,e2⟩:=I.lstM hB;refine PySem.P.add_list e e2 ?_ (by rw[aJ,aJ];lia);have ea:its.toArray++its2.toArray=(its++its2).toArray:=by simp
 rw[ea];exact ⟨.ref _,_,I.lnew (t':=s.toks) (r.append r2) (by rw[aA];lia),rfl,q _ I.fresh⟩
end
end L2
namespace Att
open PySem PySem.W PySem.Calls PyProof.Rows
theorem vV {P:Params} {h:Heap}:∀(ns:List Int) (vs:List Value),WellAll P h vs (ns.map WData.int)->IntsAre vs ns:=by
 intro ns
 induction ns with
 | nil =>
  intro vs w;rw[List.map_nil] at w;cases w;exact .nil
 | cons n ns ih =>
  intro vs w;rw[kB] at w;cases w with
  | cons a b =>
   cases a;exact .cons _ _ (ih _ b)
theorem D2 {l:OpenLaw} {n:Nat} (hn:l.most=some n) {P:Params} {h:Heap} {args:List WData} {vals:List Value}
  (hpre:l.row.toRowW.claim.pre args=true) (hwl:WellAll P h vals args) :
  ∃a vs ns,vals=[Value.ref a]/\args=[WData.list (ns.map WData.int)]/\h.get? a=some { cls:=.type "list",data:=.seq vs.toArray }/\IntsAre vs ns/\ns.length<=n:=by
 have hsh:WShape.hasAll [] args [.list .int]=true:=(pre_splitW hpre).1;have hc:l.pre.holds [] { args:=args }=true:=(pre_splitW hpre).2;obtain ⟨d,r,rfl,h1,h2⟩:=hasAllW_cons hsh;obtain rfl:=hasAllW_nil h2;obtain ⟨xs,rfl,h3⟩:=hasW_list h1;obtain ⟨ns,rfl⟩:=items_int h3
 have hlen:ns.length<=n:=by
  unfold OpenLaw.pre at hc
  have h4:(WTm.not (.lt (.lit (.int (n:Int))) (.len (.arg 0)))).holds [] { args:=[.list (ns.map .int)] }=true:=by
   have h4:=(holds_andW hc).1;rw[hn] at h4;exact h4
  have h5:=condW_of h4 (w_not (w_lt w_lit (w_len_list (w_arg rfl))));rw[ag] at h5;refine Nat.le_of_not_lt λq=>?_
  have q':(n:Int) < ((ns.length:Nat):Int):=by lia
  first
   | (rw[decide_eq_true q'] at h5;exact absurd h5 (by decide))
   | (simp at h5;lia)
 cases hwl with
 | cons w1 w2 =>
  cases w2;cases w1 with
  | list ho hall=>exact ⟨_,_,ns,rfl,rfl,ho,vV ns _ hall,hlen⟩
theorem D9 (l:OpenLaw) (args:List WData):l.row.toRowW.claim.post args (.bool true) args=true :=
 postW_of (r:=l.row.toRowW) (X:=(true == true))
  (show WShape.has [] (.bool true) .bool=true by first | rfl | decide | simp [WShape.has,WShape.arms,WShape.armsAll])
  (show (WTm.eq .res (.lit (.bool true))).value [] { args:=args,res:=some (.bool true),after:=args }=some (.bool (true == true)) from w_eq_bool (w_res rfl) w_lit) rfl
theorem BI {l:OpenLaw} {n:Nat} {q:Program} {loose:List Str} {XP:(Str->Option Value)->Heap->Prop} {YP:World->Heap->Prop} {d:DefRec}
  (hn:l.most=some n) (hdf:d.params.defaults=[])
  (call:∀(w:World) (s₀ s₁:Shared) (mg mb:Str->Option Value) (fa:Addr) (o:Obj) (pm cd doc:Value) (a:Addr) (vs:List Value) (ns:List Int),
   Ground q loose [] XP w s₀ mg mb s₁.heap->YP w s₁.heap →
   s₁.heap.get? fa=some o->o.data=.func (docDef d.name d.params d.body d.scope pm cd doc)->s₁.heap.CodeRec cd d.name->mg d.name=some (.ref fa) →
   s₁.heap.get? a=some { cls:=.type "list",data:=.seq vs.toArray }->IntsAre vs ns->ns.length<=n->s₁.gens=#[] →
   codeAny (model l.prog w) callerA (.call (.ref fa) ⟨[.ref a],[]⟩) (λr s'=>r=.ok (.ret (.bool true))/\OldK s₁.heap s'.heap/\s'.os=s₁.os/\AllBare s'.gens) s₁) :
  WalkO q loose XP YP l.row.toRowW d [] (λf vs=>PySem.call f vs):=by
 intro w s₀ s₁ mg mb G Y fa o pm cd doc dV kV ho hd hcd hD hmg hg args vals as hpre hlay hrd hwl hlo;obtain rfl:dV=.none:=Dflts.none hD hdf;obtain rfl:kV=.none:=Dflts.noKw hD;obtain ⟨a,vs,ns,rfl,rfl,hobj,hints,hlen⟩:=D2 hn hpre hwl;refine enter_call (codeAny_mono (call w s₀ s₁ mg mb fa o pm cd doc a vs ns G Y ho (fd_plain hd) hcd hmg hobj hints hlen hg) λr s' hq=>?_);obtain ⟨rfl,h2,h3,h4⟩:=hq;exact ⟨.inl ⟨.bool true,.bool true,[],rfl,λ_=>rfl,.bool true,D9 l _,λ_=>⟨List.Pairwise.nil,λ_ hm=>(nomatch hm)⟩⟩,h2,h3,h4⟩
section
variable {prog:Program} {w:World} {A:Around} {E:Value->Shared->Prop} {s:Shared} {K:Frag}
end
end Att
namespace L2
open PySem PySem.Spec PyProof.Rows
theorem yt:∀{vs:List Value} {ns:List Int},IntsAre vs ns->cp (ns.map V.int) vs
 | _,_,.nil=>.nil
 | _,_,.cons n t h=>.cons ⟨t,rfl⟩ (yt h)
def KA (H:Hp):Prop:=∀b,H b=none\/∃o xs,H b=some (.frz o (.lst xs))
theorem FD {P : Program} {w : World} {K : FG9} {mg mb : Str → Option Value} {CX : GK} {k : Nat} {fa a : Addr} {fd : FuncData} {x : Str} {sp : Sp} {s₁ : Shared} {vs : List Value} {ns : List Int}
    (KX : K.In s₁.heap) (hns : s₁.heap.Ns mainGlobals mg) (hb : s₁.heap.Ns builtinsNs mb) (hbb : ∀ x : Str, x ≠ "__name__" → mb x = bootBuiltins x) (hlim : s₁.heap.NoLimit) (hg : s₁.gens = #[])
    (ha : s₁.heap.get? a = some { cls := .type "list", data := .seq vs.toArray }) (hi : IntsAre vs ns) (hl : ns.length ≤ sizeLine) (hr : kv k callerA)
    (F : ∀ base : Heap, K.In base → base.Ns mainGlobals mg → cw P w K mg base CX k fa fd [x] sp) (hbind : ∀ (s : Shared) (u : Value), BindsTo s fd ⟨[u], []⟩ [(x, u)])
    (hsp : ∀ H : Hp, KA H → bI K H a (ns.map V.int) → sp [.ref a] H (λv _ => v = .bl true) λ_ _ _ => False)
    (hCX : ∀ H e s', CX [] H s₁ (λ_ _ _ => False) e s' → False) :
    codeAny (model P w) callerA (.call (.ref fa) ⟨[.ref a], []⟩) (λr s' => r = .ok (.ret (.bool true)) /\ OldK s₁.heap s'.heap /\ s'.os = s₁.os /\ AllBare s'.gens) s₁ := by
  have rv := yt hi;have lenV := hi.length
  have core : ∀ H : Hp, KA H → bI K H a (ns.map V.int) → wq P w H s₁.heap → (∀ b, H b ≠ none → b = a) → (H a ≠ none → K.lookup a = none) →
      codeAny (model P w) callerA (.call (.ref fa) ⟨[.ref a], []⟩) (λr s' => r = .ok (.ret (.bool true)) /\ OldK s₁.heap s'.heap /\ s'.os = s₁.os /\ AllBare s'.gens) s₁ := by
    intro H hO hS hok hA hK;have base_of : ∀ {b : Addr} {o : Obj}, s₁.heap.get? b = some o → H b = none → (zZ s₁.heap H).get? b = some o := λe n => FJ e n
    have noA : ∀ {b : Addr} {o : Obj} {es : Array DictEntry} {ep : Nat}, s₁.heap.get? b = some o → o.data = .dict es ep → H b = none := λ{b o es ep} e d => by
      cases q : H b with
      | none => rfl
      | some u =>
        have e' : b = a := hA b (by rw [q]; simp);subst e';rw [ha] at e; cases e;have d' : Data.seq vs.toArray _ = Data.dict es ep := d;cases d'
    have nsK : ∀ {b : Addr} {m : Str → Option Value}, s₁.heap.Ns b m → (zZ s₁.heap H).Ns b m := λ{b m} ⟨o, es, ep, e, d, r⟩ => ⟨o, es, ep, base_of e (noA e d), d, r⟩
    have hKb : K.In (zZ s₁.heap H) := λb o e => base_of (KX b o e) (by
      cases q : H b with
      | none => rfl
      | some u =>
        have e' : b = a := hA b (by rw [q]; simp);subst e';rw [hK (by rw [q]; simp)] at e; cases e)
    have hM : Mod K mg (zZ s₁.heap H) := ⟨hKb, nsK hns, ⟨mb, nsK hb, hbb⟩, let ⟨mc, h1, h2⟩ := hlim; ⟨mc, nsK h1, h2⟩⟩;have e0 : CP P w K mg (zZ s₁.heap H) callerA [] s₁ H := ⟨rfl, hM, λb o e => Ip e, Nat.le_of_eq (En _ _), trivial, λb hb => absurd (show b ∈ ([] : List Addr) from hb) (by simp), hok, .of_eq hg⟩;refine codeAny_mono ((F _ hKb (nsK hns)).run callerA [] s₁ H ⟨[.ref a], []⟩ [.ref a] [.ref a] _ _ hr e0 (hbind s₁ (.ref a)) (.cons rfl .nil) (hsp H hO hS)) λr s' h => ?_
    cases r with
    | error e => exact (hCX H e s' h).elim
    | ok fl =>
      cases fl with
      | next => exact False.elim h
      | brk => exact False.elim h
      | cont => exact False.elim h
      | ret u =>
        obtain ⟨v, H', os, bare, un, hok', r', q⟩ := h;have q' : v = .bl true := q;subst q';obtain rfl : u = Value.bool true := r';refine ⟨rfl, OldK.of_keep λb o e => ?_, os, bare⟩;cases q : H b with
        | none => exact un.keep b o e q (by intro z; exact absurd (show b ∈ ([] : List Addr) from z) (by simp)) (by simp)
        | some u =>
          rcases hO b with z | ⟨ob, xs, z⟩
          · rw [q] at z; cases z
          · have z2 := un.frzs b ob _ z;obtain ⟨e1, _⟩ := hok b _ z;obtain ⟨e2, _⟩ := hok' b _ z2;rw [e] at e1; cases e1;exact e2
  cases hk : K.lookup a with
  | some o =>
    have e := KX a o hk;rw [ha] at e;cases e;refine core (λ_ => none) (λ_ => .inl rfl) (.inr ⟨_, vs.toArray, _, hk, rfl, rfl, rfl, by rw [aJ, lenV]; exact hl, by simpa using rv⟩) (λb u z => by have z' : (none : Option HO) = some u := z; cases z') (λb z => absurd rfl z) λz => absurd rfl z
  | none =>
    refine core (λb => if b = a then some (.frz { cls := .type "list", data := .seq vs.toArray } (.lst (ns.map V.int))) else none) (λb => ?_) (.inl (.inr ⟨{ cls := .type "list", data := .seq vs.toArray }, if_pos rfl⟩)) (λb u z => ?_) (λb z => ?_) λ_ => hk
    · by_cases hb : b = a
      · exact .inr ⟨_, _, if_pos hb⟩
      · exact .inl (if_neg hb)
    · by_cases hb : b = a
      · have z' := (if_pos hb).symm.trans z;cases z';subst hb;exact ⟨ha, by rw [ag]; exact hl, vs, _, rv, ha⟩
      · have z' := (if_neg hb).symm.trans z;cases z'
    · by_cases hb : b = a
      · exact hb
      · exact absurd (if_neg hb) z
theorem GY {l:PySem.W.OpenLaw} {n k:Nat} {q:Program} {loose:List Str} {XP:(Str->Option Value)->Heap->Prop} {YP:World->Heap->Prop} {d:DefRec} {K:Params->FG9} {CX:World->GK} {sp:World->Sp} {x:Str}
  (hn:l.most=some n) (hn2:n<=sizeLine) (hdf:d.params.defaults=[]) (hr:kv k callerA)
  (hY:∀(w:World) (h:Heap),YP w h->(K w.params).In h)
  (F:∀(w:World) (mg:Str->Option Value) (fa:Addr) (h:Heap),(K w.params).In h->h.Ns mainGlobals mg->mg d.name=some (.ref fa) →
   ∃fd:FuncData,(∀(s:Shared) (u:Value),BindsTo s fd ⟨[u],[]⟩ [(x,u)]) /\
    ∀base:Heap,(K w.params).In base->base.Ns mainGlobals mg->cw l.prog w (K w.params) mg base (CX w) k fa fd [x] (sp w))
  (hsp:∀(w:World) (H:Hp) (a:Addr) (ns:List Int),ns.length<=n->KA H->bI (K w.params) H a (ns.map V.int)->sp w [.ref a] H (λv _=>v=.bl true) λ_ _ _=>False)
  (hCX:∀(w:World) (H:Hp) (s:Shared) (e:Value) (s':Shared),CX w [] H s (λ_ _ _=>False) e s'->False) :
  PySem.W.WalkO q loose XP YP l.row.toRowW d [] (λf vs=>PySem.call f vs):=by
 refine Att.BI hn hdf λw s₀ s₁ mg mb fa o pm cd doc a vs ns G Y ho hd hcd hmg hobj hints hlen hg=>?_
 have KX:=hY w _ Y;obtain ⟨fd,hb,hF⟩:=F w mg fa _ KX G.T.g hmg;exact FD KX G.T.g G.T.b G.T.builtins G.T.nolimit hg hobj hints (ai hlen hn2) hr hF hb (λH hO hS=>hsp w H a ns hlen hO hS) λH e s'=>hCX w H s₁ e s'
end L2


namespace L2
open PySem PySem.Spec PyProof.Rows
def inClass (s:Stmt) (j:Nat):Stmt:=match s with
 | .ClassDef _ _ _ body _ _ _ _ _ _ _=>body.getD j (.Pass ⟨0,0,0,0⟩)
 | _=>.Pass ⟨0,0,0,0⟩
def aV (s:Stmt):Arguments:=match s with
 | .FunctionDef _ a _ _ _ _ _ _ _ _=>a
 | _=>{ posonlyargs:=[],args:=[],vararg:=none,kwonlyargs:=[],kw_defaults:=[],kwarg:=none,defaults:=[] }
def aQ (s:Stmt):List Stmt:=match s with
 | .FunctionDef _ _ b _ _ _ _ _ _ _=>b
 | _=>[]
def aw (s:Stmt):Scope:=match s with
 | .FunctionDef _ _ _ _ _ _ sc _ _ _=>sc
 | _=>{ kind:=.function,names:=[],isGenerator:=false,isCoroutine:=false }
abbrev gX:GK:=λ_ _ _ _ _ _=>False
abbrev E0:XK:=λ_ _ _=>False
theorem A1 {X:Cx}:vn gX X E0:=λ_ _ _ _ _ _ _ h=>h.elim
theorem cA {X:Cx} {k k':Nat} {f:Addr} {fd:FuncData} {ps:List Str} {sp:Sp} {x:Str} {p pos:Pos} {e:Expr} {es:List Expr} {t:TA} (F:cw X.prog X.w X.K X.mg X.base gX k f fd ps sp) (hr:kv k' X.A) (hm:X.mg x=some (.ref f)) (hk:PySem.W.keepIn X.K (.ref f)=true) (hb:Binds X.K fd ps []) (ha:PA X (e::es) t) (hle:k<=k':=by decide) (hg:Gl X x:=by exact rfl) (hdb:(x==("__debug__":Str))=false:=by decide) (he:starEach (e::es) X.env=(false,eval e X.env)::starEach es X.env:=by rfl) (hpl:(backTo pos (starEach es X.env)).any (·.1)=false:=by rfl):PE X (.Call (.Name x p) (e::es) [] pos) (EL sp [] E0 t):=Ii F (hr.mono hle) hg hm hk hb .nil A1 ha hdb he hpl
structure ik (K:FG9) (x qual:Str) (st:Stmt) (f:Addr) (fd:FuncData):Prop where
 ex:∃(oc:Value) (od:Option Addr) (kV doc pm:Value) (an:Option Addr) (cdv ct:Value) (osl:Array (Option Value)),
  fd=PySem.W.fnOf x qual (aV st) (aQ st) (aw st) .none kV doc pm an cdv ct/\K.lookup f=some ⟨oc,od,.func fd,osl⟩/\PySem.W.codeIn K cdv qual=true
 kp:PySem.W.keepIn K (.ref f)=true
section
variable {P:Program} {w:World} {K:FG9} {mg:Str->Option Value} {base:Heap}
theorem ik.ok {x qual:Str} {st:Stmt} {f:Addr} {fd:FuncData} {N ps:List Str} {k:Nat} {sp:Sp} (F:ik K x qual st f fd) (S:aX N ps (aw st)) (len:∀vs H Q E,sp vs H Q E->vs.length=ps.length)
  (hbody:∀(cdv:Value) (A:Around) (outer:List Env) (s:Shared) (H:Hp) (vs:List V) (Q:VK) (E:XK),kv k (A.deeper (envOfC qual (aw st) s.heap.objs.size f cdv))->sp vs H Q E →
   ∃t,CK (Et gX P w K mg base N qual (aw st) f cdv A outer s H E).nox (aQ st) t/\t { nx:=λ_ H'=>Q .non H',rt:=Q } (start N vs) H):cw P w K mg base gX (k+1) f fd ps sp:=by
 obtain ⟨oc,od,kV,doc,pm,an,cdv,ct,osl,rfl,lk,hcd⟩:=F.ex;refine LJ lk hcd S len λA outer s H vs Q E hr hsp=>?_
 obtain ⟨t,h,q⟩:=hbody cdv A outer s H vs Q E hr hsp;exact ⟨t,h.nox,q⟩
theorem ik.binds {x qual:Str} {st:Stmt} {f:Addr} {fd:FuncData} {ps:List Str} (F:ik K x qual st f fd)
  (h:∀(kV doc pm:Value) (an:Option Addr) (cdv ct:Value) (us:List Value),us.length=ps.length->bindArgs (PySem.W.fnOf x qual (aV st) (aQ st) (aw st) .none kV doc pm an cdv ct) ⟨us,[]⟩=pure (ps.zip us)):Binds K fd ps []:=by
 obtain ⟨oc,od,kV,doc,pm,an,cdv,ct,osl,rfl,lk,hcd⟩:=F.ex;exact .all (h kV doc pm an cdv ct)
theorem bE {x qual:Str} {st:Stmt} {f:Addr} {oc:Value} {od an:Option Addr} {osl:Array (Option Value)} {kV doc pm cdv ct:Value} (l:K.lookup f=some ⟨oc,od,.func (PySem.W.fnOf x qual (aV st) (aQ st) (aw st) .none kV doc pm an cdv ct),osl⟩)
  (c:PySem.W.codeIn K cdv qual=true) (k:PySem.W.keepIn K (.ref f)=true):ik K x qual st f (PySem.W.fnOf x qual (aV st) (aQ st) (aw st) .none kV doc pm an cdv ct):=⟨⟨oc,od,kV,doc,pm,an,cdv,ct,osl,rfl,l,c⟩,k⟩
end
theorem bL {n:Nat} (h:n<=1000):n < sizeLine:=bc h (by decide)
section
variable {X:Cx}
theorem pv (i:Nat) {x:Str} {pos:Pos} (hN:X.N[i]?=some x:=by rfl) (hv:Mm X.env.scope x:=by first | exact Or.inl rfl | exact Or.inr (Or.inl rfl) | exact Or.inr (Or.inr rfl)) (hd:(x == ("__debug__":Str))=false:=by decide)
  (hcd:(x == ("__classdict__":Str))=false:=by decide):PE X (.Name x pos) (JC i):=J8 hN hv hd hcd
end
theorem Kl {A B:Prop} (h:B):if false=true then A else B:=by
 rw[if_neg aT];exact h
theorem LC {A B:Prop} (h:A):if true=true then A else B:=by
 rw[if_pos rfl];exact h
theorem iP {c A B:Prop} [Decidable c] (h1:c->A) (h2:¬c->B):if c then A else B:=by
 by_cases h:c
 ·rw[if_pos h];exact h1 h
 ·rw[if_neg h];exact h2 h
def aH (H H':Hp):Prop:=∀b o,H b=some o->H' b=some o
theorem aH.refl (H:Hp):aH H H:=λ_ _ h=>h
theorem aH.trans {H H1 H2:Hp} (a:aH H H1) (b:aH H1 H2):aH H H2:=λc o h=>b c o (a c o h)
theorem aH.free {H H':Hp} (e:aH H H') {l:Addr} (h:H' l=Option.none):H l=Option.none:=by
 cases q:H l with
 | none=>rfl
 | some o =>
  rw[e l o q] at h;cases h
theorem aH.seq {K:FG9} {H H':Hp} {a:Addr} {xs:List V} (e:aH H H') (h:bI K H a xs):bI K H' a xs:=by
 rcases h with (h | ⟨o,h⟩) | h
 ·exact .inl (.inl (e _ _ h))
 ·exact .inl (.inr ⟨o,e _ _ h⟩)
 ·exact .inr h
end L2
namespace Nm
theorem FP (a b:Int):Int.gcd b (a.fmod b)=Int.gcd a b:=by
 rw[Int.fmod_def,j6 a b];apply Nat.dvd_antisymm
 ·apply GG
  ·exact dF ..
  ·have h1:=dF (a:=b) (b:=a - b*a.fdiv b);have h2:=dX (a:=b) (b:=a - b*a.fdiv b);have h3:=Int.dvd_add h2 (mH (c:=a.fdiv b) h1);rwa [Int.sub_add_cancel] at h3
 ·apply GG
  ·exact dF ..
  ·exact Int.dvd_sub (dX ..) (mH (dF ..))
theorem FQ (a b:Int):Int.gcd b (a % b)=Int.gcd a b:=by
 rw[Int.emod_def,j6 a b];apply Nat.dvd_antisymm
 ·apply GG
  ·exact dF ..
  ·have h1:=dF (a:=b) (b:=a - b*(a / b));have h2:=dX (a:=b) (b:=a - b*(a / b));have h3:=Int.dvd_add h2 (mH (c:=a / b) h1);rwa [Int.sub_add_cancel] at h3
 ·apply GG
  ·exact dF ..
  ·exact Int.dvd_sub (dX ..) (mH (dF ..))
theorem Iz (a b:Int) (h:b≠0):(a.fmod b).natAbs < b.natAbs:=by
 rcases Int.lt_or_gt_of_ne h with h | h
 ·have e:a.fmod b=-((-a).fmod (-b)):=by
   have:=Int.neg_fmod_neg (-a) (-b);simp only[Int.neg_neg] at this;exact this
  have h1:=Int.fmod_nonneg_of_pos (-a) (b:=-b) (by lia);have h2:=Int.fmod_lt_of_pos (-a) (b:=-b) (by lia)
  lia
 ·have h1:=Int.fmod_nonneg_of_pos a h;have h2:=Int.fmod_lt_of_pos a h
  lia
def g (t b:Int):Int:=(Int.gcd t b:Int)
def lo (t b:Int):Int:=t / g t b
def hi (t b:Int):Int:=b / g t b
theorem xE {t b:Int} (h:b≠0):0 < g t b:=by
 unfold g;have:0 < Int.gcd t b:=GR _ h
 lia
theorem xy (t b:Int):lo t b*g t b=t:=Int.ediv_mul_cancel (dF ..)
theorem u9 (t b:Int):hi t b*g t b=b:=Int.ediv_mul_cancel (dX ..)
theorem Ct {t b:Int} (h:0 < b):0 < hi t b:=by
 have h1:=xE (t:=t) (b:=b) (by lia);have h2:=u9 t b;by_cases h3:0 < hi t b
 ·exact h3
 ·have:hi t b*g t b<=0:=Int.mul_nonpos_of_nonpos_of_nonneg (by lia) (by lia)
  lia
theorem Bi {t b:Int} (h:b≠0):Int.gcd (lo t b) (hi t b)=1:=by
 have h1:=xE (t:=t) h;have e:=Int.gcd_mul_right (lo t b) (g t b) (hi t b);rw[xy,u9] at e;have e2:(g t b).natAbs=Int.gcd t b:=by unfold g;simp
 rw[e2] at e;have h2:0 < Int.gcd t b:=GR _ h;exact Nat.eq_of_mul_eq_mul_right h2 (by rw[<- e,Nat.one_mul])
theorem Cr (t b : Int) : lo t b * b = t * hi t b := by
  have h1 := xy t b;have h2 := u9 t b
  calc lo t b * b = lo t b * (hi t b * g t b) := by rw [h2]
    _ = (lo t b * g t b) * hi t b := by rw [j5 (hi t b), <- kC]
    _ = t * hi t b := by rw [h1]
theorem oU {a b c:Int} (h:Int.gcd a b=1) (hd:a∣b*c):a∣c:=by
 have h1:a.natAbs∣b.natAbs*c.natAbs:=by rw[<- gQ];exact eZ.mpr hd
 have h2:Nat.Coprime a.natAbs b.natAbs:=h;exact eZ.mp (h2.dvd_of_dvd_mul_left h1)
theorem uniq {a b c d:Int} (hb:0 < b) (hd:0 < d) (h1:Int.gcd a b=1) (h2:Int.gcd c d=1) (e:a*d=c*b):a=c/\b=d:=by
 have e1:b∣d:=by
  have:b∣a*d:=⟨c,by rw[e,j5]⟩;exact oU (by rw[j6];exact h1) this
 have e2:d∣b:=by
  have:d∣c*b:=⟨a,by rw[<- e,j5]⟩;exact oU (by rw[j6];exact h2) this
 have e3:b=d:=Int.dvd_antisymm (by lia) (by lia) e1 e2;subst e3;exact ⟨Jw (by lia) e,rfl⟩
theorem nO {a b:Int} (h:b≠0):a.natAbs<=(a*b).natAbs:=by
 rw[gQ];exact dU _ (Int.natAbs_pos.mpr h)
theorem lo_le {t b:Int} (h:b≠0):(lo t b).natAbs<=t.natAbs:=by
 have:=nO (a:=lo t b) (b:=g t b) (by have:=xE (t:=t) h;lia);rwa [xy] at this
theorem Jm {t b:Int} (h:b≠0):(hi t b).natAbs<=b.natAbs:=by
 have:=nO (a:=hi t b) (b:=g t b) (by have:=xE (t:=t) h;lia);rwa [u9] at this
def Sz (k:Nat) (x:Int):Prop:=x.natAbs < 2^k
theorem Sz.mono {j k:Nat} {x:Int} (h:Sz j x) (l:j<=k):Sz k x:=aZ h (ah (by decide) l)
theorem Sz.mul {j k:Nat} {x y:Int} (h1:Sz j x) (h2:Sz k y):Sz (j+k) (x*y):=by
 unfold Sz at *
 rw[gQ,bX];exact Nat.mul_lt_mul'' h1 h2
theorem Sz.neg {k:Nat} {x:Int} (h:Sz k x):Sz k (-x):=by unfold Sz at *;rw[sQ];exact h
theorem Sz.le {k:Nat} {x y:Int} (h:Sz k y) (l:x.natAbs<=y.natAbs):Sz k x:=bc l h
theorem Sz.hi {k:Nat} {t b:Int} (h:Sz k b) (hb:b≠0):Sz k (hi t b):=h.le (Jm hb)
end Nm
namespace L2
open PySem PySem.Spec PyProof.Rows
structure Bk (env:Env) (scope:Scope) (own capN:List Str):Prop where
 kind:scope.kind=.function
 locs:∀y∈scope.names,y.2=.local->scope.names.lookup y.1=some .local
 ownk:∀x∈own,scope.names.lookup x=some .local\/scope.names.lookup x=some .cell
 cells:∀y∈scope.names,y.2=.cell->y.1∈own/\y.1∉capN
 frees:∀y∈scope.names,y.2=.free->y.1∈capN/\y.1∉own
 capf:∀x∈capN,scope.names.lookup x=some .free
 caps:∀x∈capN,env.kindOf x=some .cell\/env.kindOf x=some .free
def L5 (scope:Scope) (own capN:List Str):Bool :=
 decide (scope.kind=.function) && scope.names.all (λy=>decide (y.2=.local->scope.names.lookup y.1=some .local) && decide (y.2=.cell->y.1∈own/\y.1∉capN) && decide (y.2=.free->y.1∈capN/\y.1∉own)) &&
 own.all (λx=>decide (scope.names.lookup x=some .local\/scope.names.lookup x=some .cell)) && capN.all λx=>decide (scope.names.lookup x=some .free)
def y7 (env:Env):List Str->Bool
 | []=>true
 | x :: r=>(match env.kindOf x with | some .cell=>true | some .free=>true | _=>false) && y7 env r
theorem BE {env:Env}:∀{capN:List Str},y7 env capN=true->∀x∈capN,env.kindOf x=some .cell\/env.kindOf x=some .free
 | [],_,_,h=>nomatch h
 | y :: r,h,x,hx=>by
  unfold y7 at h;rw[cV] at h;rcases aE.mp hx with e | hx
  ·subst e;have h1:=h.1
   split at h1
   ·rename_i e;exact .inl e
   ·rename_i e;exact .inr e
   ·cases h1
  ·exact BE h.2 x hx
theorem Bk.of {env:Env} {scope:Scope} {own capN:List Str} (h1:L5 scope own capN=true) (h2:y7 env capN=true):Bk env scope own capN:=by
 unfold L5 at h1;rw[cV,cV,cV,oE,oE,oE] at h1;obtain ⟨⟨⟨a1,a2⟩,a3⟩,a4⟩:=h1
 have a2':∀y∈scope.names,(y.2=.local->scope.names.lookup y.1=some .local)/\(y.2=.cell->y.1∈own/\y.1∉capN)/\(y.2=.free->y.1∈capN/\y.1∉own):=λy hy=>by
  have q:=a2 y hy;rw[cV,cV] at q;exact ⟨of_decide_eq_true q.1.1,of_decide_eq_true q.1.2,of_decide_eq_true q.2⟩
 exact ⟨of_decide_eq_true a1,λy hy=>(a2' y hy).1,λx hx=>of_decide_eq_true (a3 x hx),λy hy=>(a2' y hy).2.1,λy hy=>(a2' y hy).2.2,λx hx=>of_decide_eq_true (a4 x hx),BE h2⟩
def dd (env:Env):List (Str×NameKind)->List (Str×Addr)->List (Str×Addr)
 | [],acc=>acc
 | (n,k) :: r,acc=>if k == .free then dd env r ((n,(env.cells.lookup n).getD 0) :: acc) else dd env r acc
theorem gH (env:Env):∀(names:List (Str×NameKind)) (acc:List (Str×Addr)),dd env names acc=dd env names []++acc
 | [],_=>rfl
 | (n,k) :: r,acc=>by
  unfold dd
  split
  ·rw[gH env r (_ :: acc),gH env r [_],cD];rfl
  ·exact gH env r acc
theorem o8 (env:Env):∀(names:List (Str×NameKind)) {x:Str} {c:Addr},(x,c)∈dd env names []->(x,NameKind.free)∈names/\c=(env.cells.lookup x).getD 0
 | [],_,_,h=>nomatch h
 | (n,k) :: r,x,c,h=>by
  unfold dd at h
  split at h
  ·rename_i hk
   have ek:k=.free:=by simpa using hk
   subst ek;rw[gH] at h;rcases aI.mp h with h | h
   ·have q:=o8 env r h;exact ⟨bD _ q.1,q.2⟩
   ·have e:(x,c)=(n,(env.cells.lookup n).getD 0):=by simpa using h
    cases e;exact ⟨cH,rfl⟩
  ·have q:=o8 env r h;exact ⟨bD _ q.1,q.2⟩
theorem ij {α:Type}:∀{l:List (Str×α)} {x:Str} {c:α},(x,c)∈l->∃d,l.lookup x=some d
 | (k,v) :: r,x,c,h=>by
  rw[j4];cases hb:x == k with
  | true=>exact ⟨v,rfl⟩
  | false =>
   rcases aE.mp h with e | h
   ·cases e;simp at hb
   ·exact ij h
theorem o9 (env:Env):∀(names:List (Str×NameKind)) {x:Str},(x,NameKind.free)∈names->∃c,(x,c)∈dd env names []
 | (n,k) :: r,x,h=>by
  unfold dd;rcases aE.mp h with e | h
  ·cases e;rw[if_pos (by decide),gH];exact ⟨_,bG _ cH⟩
  ·obtain ⟨c,q⟩:=o9 env r h
   split
   ·rw[gH];exact ⟨c,jk _ q⟩
   ·exact ⟨c,q⟩
theorem xH {scope : Scope} {env : Env} (h : ∀ y ∈ scope.names, y.2 = .free → ∃ c, env.cells.lookup y.1 = some c) : closureFor scope env = pure (dd env scope.names []) := by
  have gen : ∀ (names : List (Str × NameKind)) (acc : List (Str × Addr)) (f : Str × NameKind → List (Str × Addr) → Sem (ForInStep (List (Str × Addr)))),
      (∀ name kind cells, f (name, kind) cells = if kind == .free then (do let a <- cellOf env name; pure (.yield ((name, a) :: cells))) else pure (.yield cells)) →
      (∀ y ∈ names, y.2 = .free → ∃ c, env.cells.lookup y.1 = some c) → forIn names acc f = pure (dd env names acc) := by
    intro names
    induction names with
    | nil => intro acc f hf _; rw [zi]; rfl
    | cons y r ih =>
      intro acc f hf hh;obtain ⟨n, k⟩ := y;rw [GQ, hf];unfold dd;by_cases hk : (k == NameKind.free) = true
      · obtain ⟨c, hc⟩ := hh (n, k) cH (by simpa using hk);have hc' : env.cells.lookup n = some c := hc;have e : cellOf env n = pure c := by unfold cellOf; rw [hc']
        rw [if_pos hk, if_pos hk, e, hc'];simp only [pure_bind, Option.getD_some];exact ih _ f hf λy hy => hh y (bD _ hy)
      · rw [if_neg hk, if_neg hk];simp only [pure_bind];exact ih _ f hf λy hy => hh y (bD _ hy)
  simp only [closureFor];rw [gen scope.names [] _ (λname kind cells => by cases hkc : kind == NameKind.free <;> simp [hkc]) h];rfl

theorem d9:∀(names:List (Str×NameKind)) (n:Nat) (acc:List (Str×Addr)),cellsFrom n names acc=cellsFrom n names []++acc
 | [],_,_=>rfl
 | (x,k) :: r,n,acc=>by
  unfold cellsFrom
  split
  ·rw[d9 r (n+1) (_ :: acc),d9 r (n+1) [_],cD];rfl
  ·exact d9 r n acc
theorem jM:∀(names:List (Str×NameKind)) (n:Nat) {x:Str} {c:Addr},(x,c)∈cellsFrom n names []->(x,NameKind.cell)∈names
 | [],_,_,_,h=>nomatch h
 | (y,k) :: r,n,x,c,h=>by
  unfold cellsFrom at h
  split at h
  ·rename_i hk
   have ek:k=.cell:=by simpa using hk
   subst ek;rw[d9] at h;rcases aI.mp h with h | h
   ·exact bD _ (jM r _ h)
   ·have e:(x,c)=(y,n):=by simpa using h
    cases e;exact cH
  ·exact bD _ (jM r _ h)
def vf (env:Env) (scope:Scope) (C:Addr):Env :=
 { scope:=relabel scope env,locals:=C,globals:=env.globals,cells:=cellsFrom (C+1) scope.names (dd env scope.names []),qual:=env.qual,func:=none,code:=env.code,frame:=env.frame,builtins:=env.builtins }
theorem A8 {M:Model} {A:Around} {E:Value->Shared->Prop} {s:Shared} {scope:Scope} {g:Addr} {cl:List (Str×Addr)} {qual:Str} {env:Env} {Q:Env->Shared->Prop}
  (h:Q (newEnv scope s.heap.objs.size g (cellsFrom (s.heap.objs.size+1) scope.names cl) qual none .none (some env) builtinsNs) { s with heap:=pushCells (s.heap.push { cls:=.type "dict",data:=.dict #[] }) scope.names }) :
  wpAny M A (newFunctionEnv scope g cl [] qual none .none (some env)) Q E s:=by
 simp only[newFunctionEnv,Option.isSome_some,if_true];refine wpAny_bind (wpAny_alloc ?_);refine wpAny_bind (wpAny_layCells _ (λname kind cells=>by cases hkc:kind == NameKind.cell <;> simp [hkc]) _ _ _ _ ?_);rw[show ({ s with heap:=s.heap.push { cls:=.type "dict",data:=.dict #[] } }:Shared).heap.objs.size=s.heap.objs.size+1 from Heap.size_push ..];rw[zi];exact wpAny_bind (wpAny_pure (wpAny_pure h))
theorem tU {scope:Scope} {env:Env} {x:Str}:∀{k:NameKind},(relabel scope env).names.lookup x=some k->∃k0,scope.names.lookup x=some k0/\(k=k0\/(k0=.free/\k=.cell)):=by
 unfold relabel;show ∀{k:NameKind},(scope.names.map λ(n,k)=>if (k == NameKind.free && env.scope.kind == .function && env.kindOf n == some .cell) then (n,NameKind.cell) else (n,k)).lookup x=some k->_
 induction scope.names with
 | nil=>intro k h;cases h
 | cons y r ih =>
  intro k h;obtain ⟨n,k1⟩:=y;rw[kB,j4] at h;rw[j4];by_cases hc:(k1 == NameKind.free && env.scope.kind == .function && env.kindOf n == some .cell)=true
  ·simp only[hc,if_true] at h;cases hb:x == n with
   | true =>
    simp only[hb] at h
    have e1:k1=.free:=by
     rw[cV,cV] at hc;simpa using hc.1.1
    cases h;exact ⟨k1,rfl,.inr ⟨e1,rfl⟩⟩
   | false=>simp only[hb] at h;exact ih h
  ·have hc':(k1 == NameKind.free && env.scope.kind == .function && env.kindOf n == some .cell)=false:=by simpa using hc
   simp only[hc',ie,if_false] at h;cases hb:x == n with
   | true=>simp only[hb] at h;cases h;exact ⟨_,rfl,.inl rfl⟩
   | false=>simp only[hb] at h;exact ih h
theorem AW {scope:Scope} {env:Env} {x:Str}:scope.names.lookup x=some .free->(relabel scope env).names.lookup x=some .cell\/(relabel scope env).names.lookup x=some .free:=by
 unfold relabel;show _->(scope.names.map λ(n,k)=>if (k == NameKind.free && env.scope.kind == .function && env.kindOf n == some .cell) then (n,NameKind.cell) else (n,k)).lookup x=some .cell\/(scope.names.map λ(n,k)=>if (k == NameKind.free && env.scope.kind == .function && env.kindOf n == some .cell) then (n,NameKind.cell) else (n,k)).lookup x=some .free
 induction scope.names with
 | nil=>intro h;cases h
 | cons y r ih =>
  intro h;obtain ⟨n,k1⟩:=y;rw[j4] at h;rw[kB];by_cases hc:(k1 == NameKind.free && env.scope.kind == .function && env.kindOf n == some .cell)=true
  ·simp only[hc,if_true,j4];cases hb:x == n with
   | true=>exact .inl rfl
   | false=>rw[hb] at h;exact ih h
  ·have hc':(k1 == NameKind.free && env.scope.kind == .function && env.kindOf n == some .cell)=false:=by simpa using hc
   simp only[hc',ie,if_false,j4];cases hb:x == n with
   | true=>rw[hb] at h;cases h;exact .inr rfl
   | false=>rw[hb] at h;exact ih h
structure Bz where
 s:Shared
 H:Hp
 fp:List Addr
 C:Addr
def vW (X:Cx) (own capN:List Str) (scope:Scope) (Z:Bz):Cx where
 prog:=X.prog
 w:=X.w
 K:=X.K
 mg:=X.mg
 base:=X.base
 A:=X.A
 N:=own++capN
 s₀:=Z.s
 H₀:=Z.H
 env:=vf X.env scope Z.C
 outer:=X.stack
 stack:=X.stack
 ex:=Z.fp
 fn:=λx=>own.contains x
 calm:=true
 pn:=[]
 xe:=λ_ _=>False
section
variable {X:Cx} {pins:List (Addr×Obj)} {σ:St} {own capN:List Str} {scope:Scope} {Z:Bz}
theorem iJ (B:Bk X.env scope own capN) (I:Inv X pins σ Z.H Z.s) {x:Str} {c:Addr} (h:(vf X.env scope Z.C).cells.lookup x=some c) :
  (x∈own/\(x,c)∈cellsFrom (Z.C+1) scope.names [])\/(x∈capN/\x∉own/\X.env.cells.lookup x=some c):=by
 have h':(cellsFrom (Z.C+1) scope.names (dd X.env scope.names [])).lookup x=some c:=h;rw[d9] at h';rcases aI.mp (mem_of_lookup h') with m | m
 ·exact .inl ⟨(B.cells _ (jM _ _ m) rfl).1,m⟩
 ·obtain ⟨m1,e⟩:=o8 _ _ m;obtain ⟨q1,q2⟩:=B.frees _ m1 rfl;obtain ⟨d,hd⟩:=I.ok.has x (B.caps x q1);rw[hd] at e;exact .inr ⟨q1,q2,by rw[hd,e];rfl⟩
theorem IK (B:Bk X.env scope own capN) (I:Inv X pins σ Z.H Z.s) {x:Str} {c:Addr} (hx:x∈capN) (h:X.env.cells.lookup x=some c):(vf X.env scope Z.C).cells.lookup x=some c:=by
 have hm:(x,NameKind.free)∈scope.names:=mem_of_lookup (B.capf x hx);obtain ⟨c1,m1⟩:=o9 X.env scope.names hm
 have hs:∃d,(vf X.env scope Z.C).cells.lookup x=some d:=by
  show ∃d,(cellsFrom (Z.C+1) scope.names (dd X.env scope.names [])).lookup x=some d
  rw[d9];exact ij (bG _ m1)
 obtain ⟨d,hd⟩:=hs;rcases iJ B I hd with ⟨q,m⟩ | ⟨_,_,q⟩
 ·exact absurd hx (B.cells _ (jM _ _ m) rfl).2
 ·rw[h] at q;cases q;exact hd
theorem Eb (h:Heap) (C:Addr) (hC:h.objs.size=C+1) (names:List (Str×NameKind)):CellsOk (pushCells h names) (C+1) (cellsFrom (C+1) names []):=by
 have q:=cellsFrom_ok names h (C+1) [] ⟨λ_ _ hm=>(nomatch hm),List.Pairwise.nil⟩ (by rw[hC];exact au _);rwa [hC] at q
theorem Af (I:Inv X pins σ Z.H Z.s) {x:Str} {c:Addr} (h:X.env.cells.lookup x=some c):@LT.lt Nat instLTNat c Z.s.heap.objs.size:=by
 obtain ⟨v,q⟩:=I.cell x c h;exact q.lt
theorem Kv {h1:Heap} (I:Inv X pins σ Z.H Z.s) (hc:X.calm=true) (B:Bk X.env scope own capN) (hC:Z.s.heap.objs.size<=Z.C) (hcl:CellsOk h1 (Z.C+1) (cellsFrom (Z.C+1) scope.names []))
  (hf:∀b∈Z.fp,jA X pins Z.H b/\@LT.lt Nat instLTNat b Z.s.heap.objs.size):(vW X own capN scope Z).Ok:=by
 refine ⟨I.ok.mod,B.kind,I.ok.glob,I.ok.blt,hC,λx y c h1 h2=>?_,λx hx=>?_,λx c hx h=>?_,λ_=>I.ok.hd hc,I.ok.frames,.inl rfl,λb hb=>⟨?_,λx c h=>?_⟩,I.bs,ai I.ok.bsz I.sz,λb o e hb=>?_,λb hb hz=>?_,I.stack,I.stkFree⟩
 ·rcases iJ B I h1 with ⟨q1,m1⟩ | ⟨q1,n1,m1⟩ <;> rcases iJ B I h2 with ⟨q2,m2⟩ | ⟨q2,n2,m2⟩
  ·exact name_of_addr hcl.apart m1 m2
  ·have l1:=(hcl.empty _ _ m1).2;have l2:=Af I m2
   lia
  ·have l1:=(hcl.empty _ _ m2).2;have l2:=Af I m1
   lia
  ·exact I.ok.inj x y c m1 m2
 ·have hx':(relabel scope X.env).names.lookup x=some .cell\/(relabel scope X.env).names.lookup x=some .free:=hx
  have hk:scope.names.lookup x=some .cell\/scope.names.lookup x=some .free:=by
   rcases hx' with h | h
   ·obtain ⟨k0,e,q | ⟨q,_⟩⟩:=tU h
    ·exact .inl (by rw[e,<- q])
    ·exact .inr (by rw[e,q])
   ·obtain ⟨k0,e,q | ⟨_,q⟩⟩:=tU h
    ·exact .inr (by rw[e,<- q])
    ·cases q
  show ∃c,(cellsFrom (Z.C+1) scope.names (dd X.env scope.names [])).lookup x=some c
  rcases hk with h | h
  ·exact KL.mp (wu scope.names (Z.C+1) _ (.inl h))
  ·obtain ⟨c,m⟩:=o9 X.env scope.names (mem_of_lookup h);rw[d9];exact ij (bG _ m)
 ·have ho:x∈own:=by have hx':own.contains x=true:=hx;simpa using hx'
  rcases iJ B I h with ⟨_,m⟩ | ⟨_,n,_⟩
  ·have:=(hcl.empty _ _ m).2;have hC':Z.s.heap.objs.size<=Z.C:=hC;show Z.s.heap.objs.size<=c
   lia
  ·exact absurd ho n
 ·intro e;have e':@Eq Nat b Z.C:=e;have:=(hf b hb).2
  lia
 ·have l:=(hf b hb).2;rcases iJ B I h with ⟨_,m⟩ | ⟨_,_,m⟩
  ·intro e;have e':@Eq Nat c b:=e;have:=(hcl.empty _ _ m).2
   lia
  ·exact (hf b hb).1.2.2.2.2.1 x c m
 ·obtain ⟨_,_,_,f3,_⟩:=(hf b hb).1;rcases f3 with f3 | f3
  ·exact I.ok.noex b o e f3
  ·exact absurd (aZ (Heap.lt_size e) (ai I.ok.bsz f3)) (dJ _)
 ·obtain ⟨_,f1,f2,_⟩:=(hf b hb).1;rcases aE.mp (I.stkSub b hz) with e | e
  ·exact f1 e
  ·exact f2 e
def CW (k:Nat) (cap:List Nat) (σ:St):St:=List.replicate k none++cap.map λj=>(σ[j]?).join
def vR (X:Cx) (capN:List Str) (cap:List Nat):Prop:=cap.map (λj=>X.N[j]?)=capN.map some
theorem vR.get {cap:List Nat} (h:vR X capN cap) {i:Nat} {x:Str} (e:capN[i]?=some x):∃j,cap[i]?=some j/\X.N[j]?=some x:=by
 have q:=congrArg (λl=>l[i]?) h;simp only[az,e,Option.map_some] at q;cases hc:cap[i]? with
 | none=>rw[hc] at q;cases q
 | some j=>rw[hc] at q;exact ⟨j,rfl,by simpa using q⟩
theorem BF {cap:List Nat} {h':Heap} {m:Str->Option Value} (I:Inv X pins σ Z.H Z.s) (B:Bk X.env scope own capN) (hcap:vR X capN cap)
  (kc:∀x c,X.env.cells.lookup x=some c->∀v,Z.s.heap.IsCell c v->h'.IsCell c v) {i:Nat} {x:Str} {v:V} (e1:(own++capN)[i]?=some x) (e2:(CW own.length cap σ)[i]?=some (some v)) :
  ∃u,RelV v u/\Look (vf X.env scope Z.C) h' m x u:=by
 have hi:own.length<=i:=by
  by_cases hi:own.length<=i
  ·exact hi
  ·exfalso
   unfold CW at e2;rw[cQ (by simpa using hi),LV] at e2
   split at e2 <;> cases e2
 rw[bR hi] at e1;unfold CW at e2;rw[bR (by simpa using hi),List.length_replicate,az] at e2;obtain ⟨j,hj,hN⟩:=hcap.get e1;rw[hj] at e2;have e3:(σ[j]?).join=some v:=by simpa using e2
 have e4:σ[j]?=some (some v):=by
  cases q:σ[j]? with
  | none=>rw[q] at e3;cases e3
  | some o=>rw[q] at e3;simp at e3;rw[e3]
 have hx:x∈capN:=ak e1;have hk:=B.caps x hx;obtain ⟨m0,_,hl⟩:=I.loc;obtain ⟨u,r,l⟩:=hl j x v hN e4 (.inr hk);refine ⟨u,r,.inr ⟨AW (B.capf x hx),?_⟩⟩;rcases l with ⟨hk2,_⟩ | ⟨_,c,hc,z⟩
 ·rcases hk with hk | hk
  ·rw[hk] at hk2;cases hk2
  ·rw[hk] at hk2;cases hk2
 ·exact ⟨c,IK B I hx hc,kc x c hc _ z⟩
theorem LI (I:Inv X pins σ Z.H Z.s) {b:Addr} (h:b∈EA X.stack):@LT.lt Nat instLTNat b Z.s.heap.objs.size:=by
 obtain ⟨_,o,ho,_⟩:=I.stack.mem h;exact Heap.lt_size ho
theorem II {cap:List Nat} {h1:Heap} {D:Addr} {oD:Obj} {t1:Nat} (I:Inv X pins σ Z.H Z.s) (hc:X.calm=true) (B:Bk X.env scope own capN) (hcap:vR X capN cap) (hC:Z.s.heap.objs.size<=Z.C)
  (hcl:CellsOk h1 (Z.C+1) (cellsFrom (Z.C+1) scope.names [])) (hf:∀b∈Z.fp,jA X pins Z.H b/\@LT.lt Nat instLTNat b Z.s.heap.objs.size)
  (hk:∀b o,Z.s.heap.get? b=some o->h1.get? b=some o) (hn:h1.Ns Z.C λ_=>none) (hD:Z.s.heap.objs.size<=D) (hDC:D≠Z.C) (hoD:h1.get? D=some oD) (hdD:∀v,oD.data≠.cell v) :
  Inv (vW X own capN scope Z) [(D,oD)] (CW own.length cap σ) Z.H { Z.s with heap:=h1,toks:=t1 }:=by
 refine ⟨Kv I hc B hC hcl hf,rfl,I.bare,Un.kept hk,⟨_,hn,λi x v e1 e2 _=>BF I B hcap (λx c _ v z=>z.keeps hk) e1 e2⟩,λx c h=>?_,I.hok.fresh hC,λx c h=>?_,λp hp=>?_,I.hok.kept hk,?_⟩
 ·rcases iJ B I h with ⟨_,m⟩ | ⟨_,_,m⟩
  ·exact ⟨none,(hcl.empty _ _ m).1⟩
  ·obtain ⟨v,q⟩:=I.cell x c m;exact ⟨v,q.keeps hk⟩
 ·rcases iJ B I h with ⟨_,m⟩ | ⟨_,_,m⟩
  ·exact I.hok.fresh (by have:=(hcl.empty _ _ m).2;lia)
  ·exact I.freeC x c m
 ·have e:p=(D,oD):=by simpa [vW] using hp
  subst e;exact ⟨hoD,I.hok.fresh hD,hDC,λz=>dJ _ (aZ (LI I z) hD),hdD⟩
 ·show (CW own.length cap σ).length=(own++capN).length
  have:=congrArg List.length hcap;simp only[ag] at this;unfold CW;simp [this]
theorem GA {cap:List Nat} {pins':List (Addr×Obj)} {σ':St} {H':Hp} {s':Shared} (I:Inv X pins σ Z.H Z.s) (B:Bk X.env scope own capN) (hcap:vR X capN cap) (hf:∀b∈Z.fp,jA X pins Z.H b/\@LT.lt Nat instLTNat b Z.s.heap.objs.size)
  (J:Inv (vW X own capN scope Z) pins' σ' H' s'):Inv (vW X own capN scope Z) pins' (CW own.length cap σ) H' s':=by
 refine ⟨J.ok,J.os,J.bare,J.base,?_,J.cell,J.free,J.freeC,J.pin,J.hok,?_⟩
 ·obtain ⟨m,hn,_⟩:=J.loc;refine ⟨m,hn,λi x v e1 e2 _=>BF I B hcap (λx c hx v z=>?_) e1 e2⟩;obtain ⟨o,ho,hd⟩:=z;obtain ⟨sl,e⟩:=J.base.any ho (I.freeC x c hx) λz=>(hf c z).1.2.2.2.2.1 x c hx rfl
  exact ⟨_,e,hd⟩
 ·show (CW own.length cap σ).length=(own++capN).length
  have:=congrArg List.length hcap;simp only[ag] at this;unfold CW;simp [this]
theorem IJ {σ':St} {H':Hp} {s':Shared} {D:Addr} {its:List Value} {n:Nat} {ys:List V} (I:Inv X pins σ Z.H Z.s) (hf:∀b∈Z.fp,jA X pins Z.H b/\@LT.lt Nat instLTNat b Z.s.heap.objs.size) (hD:Z.s.heap.objs.size<=D)
  (J:Inv (vW X own capN scope Z) [(D,{ cls:=.type "list",data:=.seq its.toArray n })] σ' H' s') (r:cp ys its) (hz:ys.length<=sizeLine) :
  Inv X pins σ (upd H' D (.lst ys)) s':=by
 have pD:=J.pin (D,{ cls:=.type "list",data:=.seq its.toArray n }) (by simp);have ne:∀{b:Addr} {o:Obj},Z.s.heap.get? b=some o->b≠D:=λe z=>by subst z;exact dJ _ (aZ (Heap.lt_size e) hD)
 have nt:∀{b:Addr} {u:HO},H' b=some u->b≠D:=λe z=>by rw[z,pD.2.1] at e;cases e
 refine I.call' (ch:=Z.fp) J.os ⟨J.base.keep,J.base.slot,λb o e h hx=>?_,J.base.there,λb xs e=>?_,λb o u e=>?_,λb ps e=>?_⟩ (λb u e=>?_) J.bare λb hb=>?_
 ·rw[aU (ne e)];exact J.base.free b o e h hx
 ·have q:=J.base.tups b xs e;rw[aU (nt q)];exact q
 ·have q:=J.base.frzs b o u e;rw[aU (nt q)];exact q
 ·obtain ⟨more,q⟩:=J.base.tbls b ps e;exact ⟨more,by rw[aU (nt q)];exact q⟩
 ·by_cases hb:b=D
  ·subst hb;rw[aF] at e;cases e;exact ⟨hz,its,n,r,pD.1⟩
  ·rw[aU hb] at e;exact (J.hok b u e).stay (λc v _ q=>q) (λc q=>by rw[aU (nt q)];exact q) λc xs q=>by rw[aU (nt q)];exact q
 ·obtain ⟨_,f1,_,f3,f4,f5⟩:=(hf b hb).1;exact ⟨f3,f1,f4,f5⟩
end
theorem JB {α:Type} {t:Sem α} {Q Q':α->Shared->Prop} {M:Model} {A:Around} {E:Value->Shared->Prop} {s:Shared} (h:wpAny M A t Q (λ_ _=>False) s) (hQ:∀a s,Q a s->Q' a s):wpAny M A t Q' E s :=
 wpAny_mono h hQ λ_ _ z=>False.elim z
theorem Ae {prog : Program} {w : World} {A : Around} {R : Result → Shared → Prop} {s : Shared} {elt target iter : Expr} {ifs : List Expr} {scope : Scope} {pos : Pos} {it acc : Value} {env : Env} (I : Nat → Shared → Prop)
    (turn : ∀ (E : Value → Shared → Prop) n s, I n s → wpAny (model prog w) A (pyNext it) (λr s₁ => match r with
      | none => R (.ok .next) s₁
      | some v => wpAny (model prog w) A (letOwnedTupleGo target it v) (λ_ s₂ => wpAny (model prog w) A (assign target env v) (λ_ s₃ =>
          wpAny (model prog w) A (forIn ifs true λc r => if r = true then do let ok <- isTrue c env (eval c env); pure (ForInStep.yield ok) else pure (ForInStep.yield r)) (λok s₄ =>
            if ok = true then wpAny (model prog w) A (eval elt env) (λx s₅ => wpAny (model prog w) A (call (.builtin "list.append") [acc, x]) (λ_ s₆ => ∃ m, m < n /\ I m s₆) E s₅) E s₄
            else ∃ m, m < n /\ I m s₄) E s₃) E s₂) E s₁) E s)
    (n : Nat) (h : I n s) : codeAny (model prog w) A (.compLoop (.ListComp elt [⟨target, iter, ifs, 0⟩] scope pos) 0 it acc env) R s := by
  refine codeAny_loop rfl I (λn s hI => ?_) n h;show wpAny _ A ((compTurn (.ListComp elt [⟨target, iter, ifs, 0⟩] scope pos) 0 it acc env).onRaise (λx => do noteFrame x env; theTreesLotGoes x)) _ _ s
  refine wpAny_noted ?_;rw [compTurn_list];refine wpAny_bind (wpAny_standAt (wpAny_bind (wpAny_mono (turn _ n s hI) (λr s₁ h₁ => ?_) λ_ _ h' => h')));cases r with
  | none => exact wpAny_pure h₁
  | some v =>
    refine wpAny_bind (wpAny_mono h₁ (λ_ s₂ h₂ => wpAny_bind (wpAny_mono h₂ (λ_ s₃ h₃ => wpAny_bind (wpAny_mono h₃ (λok s₄ h₄ => ?_) λ_ _ h' => h')) λ_ _ h' => h')) λ_ _ h' => h');cases ok with
    | false => exact wpAny_pure ⟨rfl, h₄⟩
    | true =>
      exact wpAny_bind (wpAny_bind (wpAny_mono h₄ (λx s₅ h₅ => wpAny_bind (wpAny_mono h₅ (λ_ s₆ h₆ => wpAny_pure (wpAny_pure ⟨rfl, h₆⟩)) λ_ _ h' => h')) λ_ _ h' => h'))

def PF (X : Cx) (ifs : List Expr) (t : TT) : Prop :=
  ∀ (pins : List (Addr × Obj)) (s : Shared) (σ : St) (H : Hp) (Q : Bool → Hp → Prop), Inv X pins σ H s → t σ H Q →
    wpAny (model X.prog X.w) X.A (forIn ifs true λc r => if r = true then do let ok <- isTrue c X.env (eval c X.env); pure (ForInStep.yield ok) else pure (ForInStep.yield r)) (TP X pins σ Q) X.xe s
def KR:TT:=λ_ H Q=>Q true H
theorem cu {X:Cx}:PF X [] KR:=λ_ _ _ H _ I h=>wpAny_tests_nil ⟨H,I,h⟩
theorem Fj {X:Cx} {c:Expr} {t:TT} (h:PT X c t):PF X [c] t:=λpins s σ H Q I hw=>wpAny_tests_one (h pins s σ H Q I hw)
def rP (σ₀:St) (g:TG) (tf:TT) (te:TE) (x:V) (H:Hp) (NY:V->Hp->Prop) (NN:Hp->Prop):Prop :=
 g x σ₀ H λσ2 H2=>tf σ2 H2 λb H3=>if b=true then te σ2 H3 NY else NN H3
def sO (J:It) (σ₀:St) (g:TG) (tf:TT) (te:TE) (Q:VK) (H1:Hp):Prop :=
 ∃W:Nat->Nat->List V->Hp->Prop,(∃m,W 0 m [] H1)/\∀i m ys H,W i m ys H →
  (J.stop i H/\ys.length<=sizeLine/\∀p,H p=none->Q (.ref p) (upd H p (.lst ys))) \/
  (J.go i H/\ys.length < sizeLine/\∃(NY:V->Hp->Prop) (NN:Hp->Prop),(∀y H',NY y H'->∃m',m' < m/\W (i+1) m' (ys++[y]) H')/\(∀H',NN H'->∃m',m' < m/\W (i+1) m' ys H') /\
   ∀x H',J.yld i H x H'->rP σ₀ g tf te x H' NY NN)
def Ax (wi:TI) (k:Nat) (cap:List Nat) (g:TG) (tf:TT) (te:TE):TE:=λσ H Q=>wi σ H λJ H1=>sO J (CW k cap σ) g tf te Q H1
abbrev lobj (its:List Value) (n:Nat):Obj:={ cls:=.type "list",data:=.seq its.toArray n }
section
variable {X:Cx} {own capN:List Str} {cap:List Nat} {scope:Scope} {elt tg iter:Expr} {ifs:List Expr} {pos:Pos} {wi:TI} {g:TG} {tf:TT} {te:TE}
theorem yZ {use:Option (Value->Sem Unit)} {Qe:Value->Shared->Prop} {fpos:Pos} (hc:X.calm=true) (B:Bk X.env scope own capN) (hcap:vR X capN cap)
  (hi:PI X tg iter wi) (hg:∀Z,PG (vW X own capN scope Z) tg g) (hf:∀Z,PF (vW X own capN scope Z) ifs tf) (he:∀Z,PE (vW X own capN scope Z) elt te)
  (hs:∀x,foldedSetIterable iter X.env x=pure x) {pins:List (Addr×Obj)} {s:Shared} {σ:St} {H:Hp} {Q:VK} (I:Inv X pins σ H s) (h:Ax wi own.length cap g tf te σ H Q)
  (fin:∀(D C:Addr) (s':Shared) (H':Hp),Inv X pins σ H' s'->jA X pins H' C->(∃m,s'.heap.Ns C m)->Q (.ref D) H'->compPost (model X.prog X.w) X.A X.xe use Qe (.ref D) C (.ok .next) s') :
  wpAny (model X.prog X.w) X.A (comprehension (.ListComp elt [⟨tg,iter,ifs,0⟩] scope pos) scope X.env fpos (newList []) false (eval iter X.env) use) Qe X.xe s:=by
 refine wpAny_comprehension_free (use:=use) rfl hs (xH λy hy hk=>I.ok.has y.1 (B.caps _ (B.frees y hy hk).1)) B.kind B.locs ?_;refine ff (hi pins s σ H _ I h) λv s1 h1=>ff h1 λitv s2 h2=>?_
 obtain ⟨it,fp,tn,J,H2,e,I2,T,st2,f2,W,⟨m0,w0⟩,turn⟩:=h2;subst e;have hfp:∀b∈fp,jA X pins H2 b/\@LT.lt Nat instLTNat b s2.heap.objs.size:=λb hb=>⟨f2 b hb,let ⟨_,e,_⟩:=T.obj _ _ st2 b hb;Heap.lt_size e⟩
 refine wpAny_newObj_type (A8 ?_) (bo _);have es:(s2.heap.push { cls:=.type "list",data:=.seq ([]:List Value).toArray }).objs.size=s2.heap.objs.size+1:=Heap.size_push ..
 show codeAny _ _ (.compStart _ 0 (.ref it) (.ref s2.heap.objs.size) { newEnv scope (s2.heap.push { cls:=.type "list",data:=.seq ([]:List Value).toArray }).objs.size X.env.globals (cellsFrom ((s2.heap.push { cls:=.type "list",data:=.seq ([]:List Value).toArray }).objs.size+1) scope.names (dd X.env scope.names [])) X.env.qual none .none (some X.env) builtinsNs with scope:=relabel scope X.env })
  (compPost (model X.prog X.w) X.A X.xe use Qe (.ref s2.heap.objs.size) (s2.heap.push { cls:=.type "list",data:=.seq ([]:List Value).toArray }).objs.size)
  { s2 with heap:=pushCells ((s2.heap.push { cls:=.type "list",data:=.seq ([]:List Value).toArray }).push { cls:=.type "dict",data:=.dict #[] }) scope.names }
 have hk1:∀b o,(s2.heap.push { cls:=.type "list",data:=.seq ([]:List Value).toArray }).get? b=some o->(pushCells ((s2.heap.push { cls:=.type "list",data:=.seq ([]:List Value).toArray }).push { cls:=.type "dict",data:=.dict #[] }) scope.names).get? b=some o :=
  λb o e=>pushCells_keeps _ _ _ _ (Heap.get?_push_of_some _ e)
 have hk:∀b o,s2.heap.get? b=some o->(pushCells ((s2.heap.push { cls:=.type "list",data:=.seq ([]:List Value).toArray }).push { cls:=.type "dict",data:=.dict #[] }) scope.names).get? b=some o:=λb o e=>hk1 b o (Heap.get?_push_of_some _ e)
 have hoD:=hk1 s2.heap.objs.size _ (Heap.get?_push_size s2.heap (o:={ cls:=.type "list",data:=.seq ([]:List Value).toArray }) rfl);have hn:=(Heap.Ns.new (s2.heap.push { cls:=.type "list",data:=.seq ([]:List Value).toArray }) (.type "dict")).keeps (pushCells_keeps scope.names _);have hcl:=Eb ((s2.heap.push { cls:=.type "list",data:=.seq ([]:List Value).toArray }).push { cls:=.type "dict",data:=.dict #[] }) (s2.heap.objs.size+1) (by rw[Heap.size_push,es]) scope.names;rw[es] at hn ⊢;generalize pushCells ((s2.heap.push { cls:=.type "list",data:=.seq ([]:List Value).toArray }).push { cls:=.type "dict",data:=.dict #[] }) scope.names=h3 at hk hoD hn hcl ⊢;have Z:Bz:=⟨s2,H2,fp,s2.heap.objs.size+1⟩
 have I3:Inv (vW X own capN scope ⟨s2,H2,fp,s2.heap.objs.size+1⟩) [(s2.heap.objs.size,lobj [] 0)] (CW own.length cap σ) H2 { s2 with heap:=h3 } :=
  II (Z:=⟨s2,H2,fp,s2.heap.objs.size+1⟩) (t1:=s2.toks) I2 hc B hcap (zh _) hcl hfp hk hn (au _) (b7 (dD _)) hoD (λv z=>nomatch z)
 have st3:tn 0 h3:=T.keep _ _ _ st2 λb _ o e=>hk b o e
 have loop:codeAny (model X.prog X.w) X.A (.compLoop (.ListComp elt [⟨tg,iter,ifs,0⟩] scope pos) 0 (.ref it) (.ref s2.heap.objs.size) (vf X.env scope (s2.heap.objs.size+1))) (compPost (model X.prog X.w) X.A X.xe use Qe (.ref s2.heap.objs.size) (s2.heap.objs.size+1)) { s2 with heap:=h3 }:=by
  refine Ae (λm s'=>∃i ys σ' H' its n,Inv (vW X own capN scope ⟨s2,H2,fp,s2.heap.objs.size+1⟩) [(s2.heap.objs.size,lobj its n)] σ' H' s'/\tn i s'.heap/\(∀b∈fp,H' b=none)/\cp ys its/\W i m ys H') ?_ m0
   ⟨0,[],_,H2,[],0,I3,st3,λb hb=>(f2 b hb).1,.nil,w0⟩
  rintro E n s4 ⟨i,ys,σ4,H4,its,k,I4,st4,fr4,rv,w4⟩
  have fpo:∀{pp:List (Addr×Obj)} {H':Hp},(∀p∈pp,p.1=s2.heap.objs.size)->(∀b∈fp,H' b=none)->∀b∈fp,jA (vW X own capN scope ⟨s2,H2,fp,s2.heap.objs.size+1⟩) pp H' b:=λ{pp H'} hpp hn b hb=>by
   obtain ⟨e1,e2⟩:=I4.ok.exf b hb;refine ⟨hn b hb,e1,I4.ok.exfs b hb,.inl hb,e2,λp hp=>?_⟩;have hp':p∈pp:=by simpa [vW] using hp
   have l:=(hfp b hb).2;rw[hpp p hp'];exact λz=>dJ _ (by rw[<- z] at l;exact l)
  have pinD:∀{its:List Value} {n:Nat},∀p∈[(s2.heap.objs.size,lobj its n)],p.1=s2.heap.objs.size:=λp hp=>by simp at hp;rw[hp]
  rcases turn i n ys H4 w4 with ⟨stop,hz,q⟩ | ⟨go,hlt,NY,NN,hNY,hNN,step⟩
  ·refine ff (T.done (vW X own capN scope ⟨s2,H2,fp,s2.heap.objs.size+1⟩) rfl rfl rfl rfl i _ s4 σ4 H4 E I4 (fpo pinD fr4) st4 stop) λr s5 ⟨hr,I5⟩=>?_
   subst hr;have pD:=I5.pin (s2.heap.objs.size,lobj its k) (by simp);have I6:=IJ (Z:=⟨s2,H2,fp,s2.heap.objs.size+1⟩) I2 hfp (au _) I5 rv hz
   have hC:upd H4 s2.heap.objs.size (.lst ys) (s2.heap.objs.size+1)=none:=by
    rw[aU (DS (dD _))];exact I5.free
   obtain ⟨m,hm,_⟩:=I5.loc;exact fin _ _ s5 _ I6 (I2.fpOk (zh _) hC) ⟨m,hm⟩ (q _ pD.2.1)
  ·refine ff (T.item (vW X own capN scope ⟨s2,H2,fp,s2.heap.objs.size+1⟩) rfl rfl rfl rfl i _ s4 σ4 H4 E I4 (fpo pinD fr4) st4 go) λr s5 ⟨u,hr,h5⟩=>?_
   subst hr;refine ff h5 λ_ s6 ⟨x,H6,I6,r6,y6,st6,fr6⟩=>?_
   have I6':=(GA (Z:=⟨s2,H2,fp,s2.heap.objs.size+1⟩) I2 B hcap hfp I6).pinned (fpo pinD fr6) (T.obj _ _ st6)
   have back:∀{σ7:St} {H7:Hp} {s7:Shared},Inv (vW X own capN scope ⟨s2,H2,fp,s2.heap.objs.size+1⟩) ([(s2.heap.objs.size,lobj its k)]++wZ fp s6.heap) σ7 H7 s7 →
     Inv (vW X own capN scope ⟨s2,H2,fp,s2.heap.objs.size+1⟩) [(s2.heap.objs.size,lobj its k)] σ7 H7 s7/\tn (i+1) s7.heap/\∀b∈fp,H7 b=none:=λ{σ7 H7 s7} I7=>by
    refine ⟨I7.unpinned,T.keep _ _ _ st6 λb hb o e=>(I7.pin (b,o) (bG _ (bG _ (oT hb e)))).1,λb hb=>?_⟩;obtain ⟨o,e,d⟩:=T.obj _ _ st6 b hb;exact (I7.pin (b,o) (bG _ (bG _ (oT hb e)))).2.1
   refine JB (hg _ _ s6 _ H6 x u _ I6' r6 (step x H6 y6)) λ_ s7 ⟨σ7,H7,I7,q7⟩=>?_
   refine JB (hf _ _ s7 σ7 H7 _ I7 q7) λok s8 ⟨H8,I8,q8⟩=>?_
   cases ok with
   | false =>
    rw[if_neg aT] at q8 ⊢;obtain ⟨m',hm,w8⟩:=hNN H8 q8;obtain ⟨J1,J2,J3⟩:=back I8;exact ⟨m',hm,i+1,ys,σ7,H8,its,k,J1,J2,J3,rv,w8⟩
   | true =>
    rw[if_pos rfl] at q8 ⊢;refine JB (he _ _ s8 σ7 H8 _ I8 q8) λz s9 ⟨y,H9,I9,r9,q9⟩=>?_
    obtain ⟨J1,J2,J3⟩:=back I9;obtain ⟨m',hm,w9⟩:=hNY y H9 q9;have pD:=J1.pin (s2.heap.objs.size,lobj its k) (by simp);have hl:=rv.length;refine call_meets F.slot_list_append ⟨_,pD.1,rfl⟩ F.entry_list_append (F.args_list_append_2 _ _) (PySem.list_append s2.heap.objs.size its.toArray k z (by rw[aJ];lia)) ⟨pD.1,?_⟩;have e9:=j3 pD.1 (λa=>a.push z);have e9':(its.toArray.push z)=(its++[z]).toArray:=by simp
    rw[e9'] at e9;obtain ⟨n',e9⟩:∃n',(s9.heap.update s2.heap.objs.size (Obj.mapSeq λa=>a.push z)).get? s2.heap.objs.size=some (lobj (its++[z]) n'):=⟨_,e9⟩
    have J4:Inv (vW X own capN scope ⟨s2,H2,fp,s2.heap.objs.size+1⟩) [] σ7 H9 { s9 with heap:=s9.heap.update s2.heap.objs.size (Obj.mapSeq λa=>a.push z),toks:=s9.toks } :=
     (J1.pins_of (pins':=[]) λp hp=>nomatch hp).turned (λb o hb e=>(Heap.get?_update_other s9.heap _ (Ne.symm hb)).trans e) pD.2.1 pD.2.2.1 (.inr (au _)) (λx c hx z=>by
      rcases iJ (Z:=⟨s2,H2,fp,s2.heap.objs.size+1⟩) B I2 hx with ⟨_,m⟩ | ⟨_,_,m⟩
      ·have:=(hcl.empty _ _ m).2;have z':@Eq Nat c s2.heap.objs.size:=z
       lia
      ·have:=Af (Z:=⟨s2,H2,fp,s2.heap.objs.size+1⟩) I2 m;rw[z] at this;exact dJ _ this) λp hp=>by simp [vW] at hp
    have nfp:∀b∈fp,b≠s2.heap.objs.size:=λb hb z=>by have:=(hfp b hb).2;rw[z] at this;exact dJ _ this
    refine ⟨m',hm,i+1,ys++[y],σ7,H9,its++[z],n',J4.pins_of λp hp=>?_,T.keep _ _ _ J2 λb hb o e=>(Heap.get?_update_other s9.heap _ (Ne.symm (nfp b hb))).trans e,J3,rv.append (.cons r9 .nil),w9⟩;have ep:p=(s2.heap.objs.size,lobj (its++[z]) n'):=by simpa using hp
    rw[ep];exact ⟨e9,pD.2.1,pD.2.2.1,pD.2.2.2.1,λv z=>nomatch z⟩
 exact codeAny_compStart_list loop (T.self _ _ _ _ _ st3 loop)
theorem ck (own capN:List Str) (cap:List Nat) (hi:PI X tg iter wi) (hg:∀Z,PG (vW X own capN scope Z) tg g) (hf:∀Z,PF (vW X own capN scope Z) ifs tf) (he:∀Z,PE (vW X own capN scope Z) elt te)
  (h1:L5 scope own capN=true:=by decide +kernel) (h2:y7 X.env capN=true:=by rfl) (hcap:vR X capN cap:=by rfl) (hc:X.calm=true:=by rfl) (hs:∀x,foldedSetIterable iter X.env x=pure x:=by intro _;rfl) :
  PE X (.ListComp elt [⟨tg,iter,ifs,0⟩] scope pos) (Ax wi own.length cap g tf te):=by
 intro pins s σ H Q I h;rw[eval_ListComp];refine yZ (use:=none) hc (Bk.of h1 h2) hcap hi hg hf he hs I h λD C s' H' I' fC hm q=>?_
 obtain ⟨m,hm⟩:=hm;refine ⟨m,hm,λh' hs'=>?_⟩;obtain ⟨f0,f1,f2,f3,f4,f5⟩:=fC;exact ⟨.ref D,H',I'.turned (t':=s'.toks) (λb o hb e=>(hs'.2 b hb).trans e) f0 f1 f3 f4 f5,rfl,q⟩
theorem mL (i:Nat) (own capN:List Str) (cap:List Nat) {x:Str} {pos' spos:Pos} (hN:X.N.Nodup) (hi':X.N[i]?=some x) (hx:X.env.scope.names.lookup x=some .local) (hi:PI X tg iter wi) (hg:∀Z,PG (vW X own capN scope Z) tg g) (hf:∀Z,PF (vW X own capN scope Z) ifs tf) (he:∀Z,PE (vW X own capN scope Z) elt te)
  (h1:L5 scope own capN=true:=by decide +kernel) (h2:y7 X.env capN=true:=by rfl) (hcap:vR X capN cap:=by rfl) (hc:X.calm=true:=by rfl) (hs:∀x,foldedSetIterable iter X.env x=pure x:=by intro _;rfl)
  (hsw:swapsWith (.ListComp elt [⟨tg,iter,ifs,0⟩] scope pos) (some (.Name x pos')) spos.line X.env=pure true:=by rfl) :
  PS X (.Assign [.Name x pos'] (.ListComp elt [⟨tg,iter,ifs,0⟩] scope pos) spos) (G5 (Ax wi own.length cap g tf te) (DB i)):=by
 intro pins s σ H D I h;rw[exec_Assign_Name_used _ _ _ _ hsw];refine wpAny_bind (wpAny_standAt (wpAny_bind ?_));rw[arm_evalThenUse_ListComp];refine wpAny_bind (yZ (Q:=λv H1=>D.nx (σ.set i (some v)) H1) (use:=some _) hc (Bk.of h1 h2) hcap hi hg hf he hs I h λL C s' H' I' fC hm q=>?_);obtain ⟨m,hm⟩:=hm;obtain ⟨f0,f1,f2,f3,f4,f5⟩:=fC;refine wpAny_assign_Name (yu I' hN hi' (.inl hx) (v:=.ref L) rfl (λs'' I'' ⟨a,sb,ha⟩=>?_) (.inr hx))
 have hCa:C≠a:=by
  rcases ha with e | e
  ·rw[e];exact f1
  ·exact (f4 x a e).symm
 refine ⟨m,hm.at' λo e=>(sb.2 C hCa).trans e,λh' hs'=>?_⟩;have I3:=I''.turned (h':=h') (t':=s''.toks) (λb o hb e=>(hs'.2 b hb).trans e) f0 f1 f3 f4 f5;exact wpAny_pure (wpAny_pure ⟨_,H',I3,q⟩)
end
section
variable {K:FG9} {a:Addr} {xs:List V} {g:TG} {tf:TT} {te:TE} {Q:VK} {σ₀:St} {H:Hp}
theorem fw (Pv:Nat->List V->Hp->Prop) (hz:xs.length<=sizeLine) (h0:Pv 0 [] H) (hl:∀i ys H,i<=xs.length->Pv i ys H->bI K H a xs)
  (hs:∀i x ys H,xs[i]?=some x->ys.length<=i->Pv i ys H->rP σ₀ g tf te x H (λy H'=>Pv (i+1) (ys++[y]) H') (λH'=>Pv (i+1) ys H'))
  (hd:∀ys H,ys.length<=xs.length->Pv xs.length ys H->∀p,H p=none->Q (.ref p) (upd H p (.lst ys))):sO (Jt K a) σ₀ g tf te Q H:=by
 refine ⟨λi m ys H=>m=xs.length - i/\i<=xs.length/\ys.length<=i/\Pv i ys H,⟨xs.length,by simp,bo _,bo _,h0⟩,?_⟩;rintro i m ys H ⟨rfl,hi,hy,p⟩;have q:=hl i ys H hi p;by_cases hlt:i < xs.length
 ·refine .inr ⟨⟨xs,xs[i],q,by simp [hlt]⟩,by lia,λy H'=>Pv (i+1) (ys++[y]) H',λH'=>Pv (i+1) ys H',λy H' p'=>⟨xs.length - (i+1),by lia,rfl,hlt,by rw[aA,br];lia,p'⟩,λH' p'=>⟨xs.length - (i+1),by lia,rfl,hlt,by lia,p'⟩,λx H' y=>?_⟩;obtain ⟨e,y⟩:=y;subst e;exact hs i x ys _ (y xs q) hy p
 ·have e:i=xs.length:=by lia
  subst e;exact .inl ⟨⟨xs,q,au _⟩,by lia,hd ys H hy p⟩
theorem o7 {lo:Int} {n:Nat} (Pv:Nat->List V->Hp->Prop) (hz:n<=sizeLine) (h0:Pv 0 [] H)
  (hs:∀i ys H,i < n->ys.length<=i->Pv i ys H->rP σ₀ g tf te (.int (lo+i)) H (λy H'=>Pv (i+1) (ys++[y]) H') (λH'=>Pv (i+1) ys H'))
  (hd:∀ys H,ys.length<=n->Pv n ys H->∀p,H p=none->Q (.ref p) (upd H p (.lst ys))):sO (BL lo n) σ₀ g tf te Q H:=by
 refine ⟨λi m ys H=>m=n - i/\i<=n/\ys.length<=i/\Pv i ys H,⟨n,by simp,bo _,bo _,h0⟩,?_⟩;rintro i m ys H ⟨rfl,hi,hy,p⟩;by_cases hlt:i < n
 ·refine .inr ⟨hlt,by lia,λy H'=>Pv (i+1) (ys++[y]) H',λH'=>Pv (i+1) ys H',λy H' p'=>⟨n - (i+1),by lia,rfl,hlt,by rw[aA,br];lia,p'⟩,λH' p'=>⟨n - (i+1),by lia,rfl,hlt,by lia,p'⟩,λx H' y=>?_⟩;obtain ⟨e,y⟩:=y;subst e y;exact hs i ys _ hlt hy p
 ·have e:i=n:=by lia
  subst e;exact .inl ⟨au _,by lia,hd ys H hy p⟩
end
open Nm
def gP (i j:Int):Prop:=KE i j\/∃m n,Sz m i/\Sz n j/\m+n<=1000000
def pW (i j:Int):Prop:=j≠0/\Sz 8999 j
theorem xK {k:Nat} {i:Int} (h:Sz k i):Builtin.Int.intBits i<=k:=by
 unfold Builtin.Int.intBits;by_cases e:i=0
 ·subst e;simp
 ·have e':(i == 0)=false:=by simpa using e
  rw[e'];have hn:i.natAbs≠0:=by lia
  have:=(Nat.log2_lt hn).mpr h;simp only[ie,if_false]
  lia
theorem gP.ok {i j:Int} (h:gP i j):IntMulOk i j:=by
 rcases h with h | ⟨m,n,h1,h2,h3⟩
 ·exact h.ok
 ·have e:(2:Nat)^20=1048576:=by decide
  exact .of_bits (by have:=xK h1;lia) (by have:=xK h2;lia)
section
variable {X:Cx} {a b:Expr} {ta tb:TE} {pos:Pos}
theorem cS:vX X (binaryOp .Mult) (rI gP λi j=>.int (i*j)):=LZ λ_ _ _ _ _ _ _ hc q=>mul_int q hc.ok
theorem iZ:vX X (binaryOp .FloorDiv) (rI pW λi j=>.int (i.fdiv j)):=LZ λi j _ _ _ _ _ hc q=>by
 refine floordiv_int hc.1 q (.inl (PyProof.noPylong_of_log2 ?_));have hn:j.natAbs≠0:=by have:=hc.1;lia
 have:=(Nat.log2_lt hn).mpr hc.2
 lia
def KW (t u:TS):TS:=λD σ H=>∃N:St->Hp->Prop,t { D with nx:=N } σ H/\∀σ' H',N σ' H'->u D σ' H'
theorem gC {st:Stmt} {rest:List Stmt} {t u:TS} (h1:PS X st t) (h2:CK X rest u):CK X (st :: rest) (KW t u):=by
 intro pins s σ H D I h;obtain ⟨N,h,k⟩:=h;refine wpAny_execs_cons (ff (h1 pins s σ H { D with nx:=N } I h) λf s1 q=>?_);cases f with
 | next =>
  obtain ⟨σ',H',I',q⟩:=q;exact h2 pins s1 σ' H' D I' (k _ _ q)
 | ret v=>exact q
 | brk=>exact q
 | cont=>exact q
def Je (K:FG9):V->V->Hp->VK->Prop:=λo i H Q=>∃p xs k v,o=.ref p/\i=.int k/\bI K H p xs/\CC xs k=some v/\Q v H
theorem FO:LN X (Je X.K):=by
 intro pins s σ H o i ov iv Q I ro ri h;obtain ⟨p,xs,k,z,rfl,rfl,hq,he,q⟩:=h;cases ro;obtain ⟨t,rfl⟩:=ri;obtain ⟨its,r,pl,hz⟩:=I.list hq;obtain ⟨j,h1,h2,h3,h4,h5⟩:=Ag he;obtain ⟨w,ew,rw'⟩:=r.get h2;have hl:=r.length;have hn:=xA;have fin:EP X pins σ Q w s:=⟨z,H,I,rw',q⟩;by_cases h0:0<=k
 ·have hj:k.toNat=j:=by
   rw[seqIndex_of h0 h5] at h1;exact bp h1
  exact wpAny_getItem_list pl.isList h0 (by lia) (by rw[hj];simpa using ew) fin
 ·have hj:(k+(its.toArray.size:Int)).toNat=j:=by
   rw[seqIndex_neg (by lia) h4] at h1;rw[aJ,<- hl];exact bp h1
  exact wpAny_getItem_list_neg pl.isList (by lia) (by rw[aJ] <;> lia) (by lia) (by rw[hj];simpa using ew) fin
def D7 (K:FG9) (T:String):V->Hp->VK->Prop:=λx H Q=>∃t b,tE K H x t/\PySem.W.kitOne K t (.type T)=some b/\Q (.bl b) H
theorem zK {c:Str} {T:String} {p p2:Pos} (hg:Gl X "isinstance") (hm:X.mg "isinstance"=none) (hb:bootBuiltins c=some (.type T)) (hmc:X.mg c=none) (ha:PE X a ta) (hgc:Gl X c:=by rfl) (hn:c≠"__name__":=by decide)
  (hd:(c == ("__debug__":Str))=false:=by decide) (he:starEach [a,.Name c p2] X.env=[(false,eval a X.env),(false,eval (.Name c p2) X.env)]:=by rfl)
  (hpl:(backTo pos (starEach [.Name c p2] X.env)).any (·.1)=false:=by rfl) (he2:starEach [.Name c p2] X.env=[(false,eval (.Name c p2) X.env)]:=by rfl):PE X (.Call (.Name "isinstance" p) [a,.Name c p2] [] pos) (KS (D7 X.K T) ta):=by
 intro pins s σ H Q I h;refine wpAny_Call_Name_kw (kr I hg hm PyProof.Rows.boot_isinstance ?_);have hA:PA X [a,.Name c p2] (lY ta (lY (tC (.ty T)) Av)):=ae ha (ae (Df hgc hmc hb rfl hn hd) aj he2) (by rw[he,he2])
 have hq:lY ta (lY (tC (.ty T)) Av) σ H (λvs H1=>∃x,vs=[x,.ty T]/\D7 X.K T x H1 Q):=by
  show ta σ H λx H1=>∃x',[x,V.ty T]=[x',V.ty T]/\D7 X.K T x' H1 Q
  have e:(λx H1=>∃x',[x,V.ty T]=[x',V.ty T]/\D7 X.K T x' H1 Q)=λx H1=>D7 X.K T x H1 Q:=by
   funext x H1;apply propext;constructor
   ·rintro ⟨x',e,q⟩;cases e;exact q
   ·intro q;exact ⟨x,rfl,q⟩
  rw[e];exact h
 refine PyProof.Rows.callWith_builtin1 (ff (hA pos pins s σ H _ I hq) λus s1 ⟨vs,H1,I1,r1,x,e,q1⟩=>?_) (by rw[he,he2]) hpl;subst e;obtain ⟨u,w',rfl,ru,rt⟩:=vals2 r1;cases rt;obtain ⟨t,bb,ty,ek,q⟩:=q1;exact uZ I1 ru ty ek λtk=>⟨.bl bb,H1,I1.tok tk,rfl,q⟩
end
structure Kind (α:Type) [DecidableEq α] where
 R:FG9->Hp->V->α->Prop
 d:Nat
 inj:∀{X:Cx} {pins:List (Addr×Obj)} {σ:St} {H:Hp} {s:Shared} {x:V} {a b:α},Inv X pins σ H s->R X.K H x a->R X.K H x b->a=b
 rc:∀{X:Cx} {pins:List (Addr×Obj)} {σ:St} {H:Hp} {s:Shared} {x y:V} {v u:Value} {a b:α} {A:Around},Inv X pins σ H s->RelV x v->RelV y u->R X.K H x a->R X.K H y b->A.units+d < cLine->SeqAt.RcAt A s v u (decide (a=b))
 ne:∀{X:Cx} {pins:List (Addr×Obj)} {σ:St} {H:Hp} {s:Shared} {x y:V} {v u:Value} {a b:α} {A:Around},Inv X pins σ H s->RelV x v->RelV y u->R X.K H x a->R X.K H y b->A.units+d < cLine->SeqAt.RcNeAt A s v u (!decide (a=b))
 eq:∀{X:Cx} {pins:List (Addr×Obj)} {σ:St} {H:Hp} {s:Shared} {x y:V} {v u:Value} {a b:α} {A:Around},Inv X pins σ H s->RelV x v->RelV y u->R X.K H x a->R X.K H y b->A.units+d < cLine->SeqAt.EqAt A s v u (decide (a=b))
def LB:Kind Int where
 R:=λ_ _ x i=>x=.int i
 d:=0
 inj:=λ_ h1 h2=>by rw[h1] at h2;cases h2;rfl
 rc:=λ{X pins σ H s x y v u a b A} I rx ry h1 h2 _=>by
  subst h1 h2;obtain ⟨t,rfl⟩:=rx;obtain ⟨t',rfl⟩:=ry;have q:=SeqAt.RcAt.int_int (A:=A) (s:=s) a t b t';rwa [ya] at q
 ne:=λ{X pins σ H s x y v u a b A} I rx ry h1 h2 _=>by
  subst h1 h2;obtain ⟨t,rfl⟩:=rx;obtain ⟨t',rfl⟩:=ry;have q:=SeqAt.RcNeAt.int_int (A:=A) (s:=s) a t b t';rwa [ya] at q
 eq:=λ{X pins σ H s x y v u a b A} I rx ry h1 h2 _=>by
  subst h1 h2;obtain ⟨t,rfl⟩:=rx;obtain ⟨t',rfl⟩:=ry;have q:=SeqAt.EqAt.int_int (A:=A) (s:=s) a t b t';rwa [ya] at q
theorem jw {α β:Type} {F:α->β->Prop}:∀{l1:List α} {l2:List β} {i:Nat} (_:Paired F l1 l2) (h1:i < l1.length) (h2:i < l2.length),F l1[i] l2[i]
 | _,_,_,.nil,h1,_=>absurd h1 (fE _)
 | _,_,0,.cons r _,_,_=>r
 | _,_,i+1,.cons _ t,h1,h2=>jw (i:=i) t (Nat.lt_of_succ_lt_succ h1) (Nat.lt_of_succ_lt_succ h2)
theorem me {α β:Type} {F:α->β->Prop} (hF:∀a b x,F a x->F b x->a=b):∀{l1 l2:List α} {l:List β},Paired F l1 l->Paired F l2 l->l1=l2
 | _,_,_,.nil,.nil=>rfl
 | _,_,_,.cons r t,.cons r' t'=>by rw[hF _ _ _ r r',me hF t t']
theorem uk {α:Type} [DecidableEq α] (as bs:List α) (h:as.length=bs.length):(List.range as.length).all (λj=>decide (as[j]?=bs[j]?))=decide (as=bs):=by
 rw[lE,oE,decide_eq_true_iff];constructor
 ·intro q;apply nL;intro i;by_cases hi:i < as.length
  ·exact of_decide_eq_true (q i (nK.mpr hi))
  ·rw[aP (by lia),aP (by lia)]
 ·rintro rfl i _;simp
section
variable {α:Type} [DecidableEq α] (k:Kind α)
theorem Kind.items {X:Cx} {pins:List (Addr×Obj)} {σ:St} {H:Hp} {s:Shared} {A:Around} (I:Inv X pins σ H s) (hA:A.units+k.d < cLine) {xs ys:List V} {us ws:List Value} {as bs:List α}
  (rx:cp xs us) (ry:cp ys ws) (ha:Paired (λa x=>k.R X.K H x a) as xs) (hb:Paired (λa x=>k.R X.K H x a) bs ys) :
  ∀j (h1:j < us.toArray.size) (h2:j < ws.toArray.size),SeqAt.EqAt A s us.toArray[j] ws.toArray[j] (decide (as[j]?=bs[j]?)):=λj h1 h2=>by
 have l1:j < us.length:=by simpa using h1
 have l2:j < ws.length:=by simpa using h2
 have e1:=rx.length;have e2:=ry.length;have e3:=ha.length;have e4:=hb.length;obtain ⟨u,hu,ru⟩:=rx.get (i:=j) (x:=xs[j]'(by lia)) (by simp);obtain ⟨w,hw,rw'⟩:=ry.get (i:=j) (x:=ys[j]'(by lia)) (by simp);have q:=k.eq (A:=A) I ru rw' (jw ha (by lia) (by lia)) (jw hb (by lia) (by lia)) hA
 have eu:us.toArray[j]=u:=by
  have:=hu;rw[af l1] at this;simpa using this
 have ew:ws.toArray[j]=w:=by
  have:=hw;rw[af l2] at this;simpa using this
 rw[eu,ew,af (show j < as.length by lia),af (show j < bs.length by lia)];have e5:decide (some as[j]=some bs[j])=decide (as[j]=bs[j]):=by simp
 rw[e5];exact q
theorem zu {α:Type} [DecidableEq α] (as bs:List α) {n m:Nat} (h1:as.length=n) (h2:bs.length=m):((List.range (min n m)).all (λj=>decide (as[j]?=bs[j]?)) && n == m)=decide (as=bs):=by
 subst h1 h2;by_cases e:as.length=bs.length
 ·rw[show min as.length bs.length=as.length by lia,uk as bs e];simp [e]
 ·have h1:(as.length == bs.length)=false:=by simpa using e
  rw[h1,Bool.and_false];exact (decide_eq_false λz=>e (by rw[z])).symm
def Mh:Kind (List α) where
 R:=λK H x as=>∃p xs,x=.ref p/\rH K H p xs/\Paired (λa x=>k.R K H x a) as xs
 d:=k.d+1
 inj:=λ{X pins σ H s x a b} I h1 h2=>by
  obtain ⟨p,xs,rfl,hp,pa⟩:=h1;obtain ⟨q,ys,e,hq,pb⟩:=h2;cases e;have e:=I.tuple_inj hp hq;subst e;exact me (F:=λa x=>k.R X.K H x a) (λa b x=>k.inj I) pa pb
 rc:=λ{X pins σ H s x y v u a b A} I rx ry h1 h2 hA=>by
  obtain ⟨p,xs,rfl,hp,pa⟩:=h1;obtain ⟨q,ys,rfl,hq,pb⟩:=h2;cases rx;cases ry;obtain ⟨us,r1,t1,_⟩:=I.tuple hp;obtain ⟨ws,r2,t2,_⟩:=I.tuple hq;have z:=SeqAt.RcAt.tuples (A:=A) (e:=λj=>decide (a[j]?=b[j]?)) (show s.heap.IsTuple p us.toArray from t1) (show s.heap.IsTuple q ws.toArray from t2) (by lia) (k.items (A:=A.in1) I (by show A.units+1+k.d < cLine;lia) r1 r2 pa pb);rwa [zu a b (by rw[pa.length,r1.length];simp) (by rw[pb.length,r2.length];simp)] at z
 ne:=λ{X pins σ H s x y v u a b A} I rx ry h1 h2 hA=>by
  obtain ⟨p,xs,rfl,hp,pa⟩:=h1;obtain ⟨q,ys,rfl,hq,pb⟩:=h2;cases rx;cases ry;obtain ⟨us,r1,t1,_⟩:=I.tuple hp;obtain ⟨ws,r2,t2,_⟩:=I.tuple hq;have z:=SeqAt.RcNeAt.tuples (A:=A) (e:=λj=>decide (a[j]?=b[j]?)) (show s.heap.IsTuple p us.toArray from t1) (show s.heap.IsTuple q ws.toArray from t2) (by lia) (k.items (A:=A.in1) I (by show A.units+1+k.d < cLine;lia) r1 r2 pa pb);rwa [zu a b (by rw[pa.length,r1.length];simp) (by rw[pb.length,r2.length];simp)] at z
 eq:=λ{X pins σ H s x y v u a b A} I rx ry h1 h2 hA=>by
  obtain ⟨p,xs,rfl,hp,pa⟩:=h1;obtain ⟨q,ys,rfl,hq,pb⟩:=h2;cases rx;cases ry;by_cases e:p=q
  ·subst e;have e:=I.tuple_inj hp hq;subst e;rw[me (F:=λa x=>k.R X.K H x a) (λa b x=>k.inj I) pa pb,decide_eq_true rfl];exact SeqAt.EqAt.same _
  ·obtain ⟨us,r1,t1,_⟩:=I.tuple hp;obtain ⟨ws,r2,t2,_⟩:=I.tuple hq;have z:=SeqAt.RcAt.tuples (A:=A) (e:=λj=>decide (a[j]?=b[j]?)) (show s.heap.IsTuple p us.toArray from t1) (show s.heap.IsTuple q ws.toArray from t2) (by lia) (k.items (A:=A.in1) I (by show A.units+1+k.d < cLine;lia) r1 r2 pa pb);rw[zu a b (by rw[pa.length,r1.length];simp) (by rw[pb.length,r2.length];simp)] at z;exact .of_refs e z
theorem Cq {X:Cx} {pins:List (Addr×Obj)} {σ:St} {H:Hp} {s:Shared} {p q:Addr} {xs ys:List V} {a b:List α} {A:Around} (I:Inv X pins σ H s) (hp:bI X.K H p xs) (hq:bI X.K H q ys)
  (pa:Paired (λa x=>k.R X.K H x a) a xs) (pb:Paired (λa x=>k.R X.K H x a) b ys) (hA:A.units+(k.d+1) < cLine) :
  SeqAt.RcAt A s (.ref p) (.ref q) (decide (a=b))/\SeqAt.RcNeAt A s (.ref p) (.ref q) (!decide (a=b)):=by
 obtain ⟨us,r1,t1,_⟩:=I.list hp;obtain ⟨ws,r2,t2,_⟩:=I.list hq;have l1:=r1.length;have l2:=r2.length;have l3:=pa.length;have l4:=pb.length;by_cases e:us.length=ws.length
 ·have it:=k.items (A:=A.in1) I (by show A.units+1+k.d < cLine;lia) r1 r2 pa pb;have z:=SeqAt.RcAt.lists (A:=A) (e:=λj=>decide (a[j]?=b[j]?)) t1.isList t2.isList (by simpa using e) (by lia) it;have z2:=SeqAt.RcNeAt.lists (A:=A) (e:=λj=>decide (a[j]?=b[j]?)) t1.isList t2.isList (by simpa using e) (by lia) it;have e1:us.toArray.size=a.length:=by rw[aJ];lia
  rw[e1,uk a b (by lia)] at z z2;exact ⟨z,z2⟩
 ·have hne:¬a=b:=λz=>e (by have:=congrArg List.length z;lia)
  rw[decide_eq_false hne];exact ⟨SeqAt.RcAt.lists_lengths t1.isList t2.isList (by simpa using e) (by lia),SeqAt.RcNeAt.lists_lengths t1.isList t2.isList (by simpa using e) (by lia)⟩
def Kk:Kind (List α) where
 R:=λK H x as=>∃p xs,x=.ref p/\bI K H p xs/\Paired (λa x=>k.R K H x a) as xs
 d:=k.d+1
 inj:=λ{X pins σ H s x a b} I h1 h2=>by
  obtain ⟨p,xs,rfl,hp,pa⟩:=h1;obtain ⟨q,ys,e,hq,pb⟩:=h2;cases e;have e:=I.list_inj hp hq;subst e;exact me (F:=λa x=>k.R X.K H x a) (λa b x=>k.inj I) pa pb
 rc:=λ{X pins σ H s x y v u a b A} I rx ry h1 h2 hA=>by
  obtain ⟨p,xs,rfl,hp,pa⟩:=h1;obtain ⟨q,ys,rfl,hq,pb⟩:=h2;cases rx;cases ry;exact (Cq k I hp hq pa pb hA).1
 ne:=λ{X pins σ H s x y v u a b A} I rx ry h1 h2 hA=>by
  obtain ⟨p,xs,rfl,hp,pa⟩:=h1;obtain ⟨q,ys,rfl,hq,pb⟩:=h2;cases rx;cases ry;exact (Cq k I hp hq pa pb hA).2
 eq:=λ{X pins σ H s x y v u a b A} I rx ry h1 h2 hA=>by
  obtain ⟨p,xs,rfl,hp,pa⟩:=h1;obtain ⟨q,ys,rfl,hq,pb⟩:=h2;cases rx;cases ry;by_cases e:p=q
  ·subst e;have e:=I.list_inj hp hq;subst e;rw[me (F:=λa x=>k.R X.K H x a) (λa b x=>k.inj I) pa pb,decide_eq_true rfl];exact SeqAt.EqAt.same _
  ·exact .of_refs e (Cq k I hp hq pa pb hA).1
def Kind.via {β:Type} [DecidableEq β] (f:β->α) (fi:∀a b,f a=f b->a=b) (R':FG9->Hp->V->β->Prop) (im:∀{K H x b},R' K H x b->k.R K H x (f b)):Kind β where
 R:=R'
 d:=k.d
 inj:=λI h1 h2=>fi _ _ (k.inj I (im h1) (im h2))
 rc:=λ{X pins σ H s x y v u a b A} I rx ry h1 h2 hA=>by
  have z:=k.rc (A:=A) I rx ry (im h1) (im h2) hA;rwa [decide_eq_decide.mpr (show f a=f b↔a=b from ⟨fi a b,λe=>by rw[e]⟩)] at z
 ne:=λ{X pins σ H s x y v u a b A} I rx ry h1 h2 hA=>by
  have z:=k.ne (A:=A) I rx ry (im h1) (im h2) hA;rwa [decide_eq_decide.mpr (show f a=f b↔a=b from ⟨fi a b,λe=>by rw[e]⟩)] at z
 eq:=λ{X pins σ H s x y v u a b A} I rx ry h1 h2 hA=>by
  have z:=k.eq (A:=A) I rx ry (im h1) (im h2) hA;rwa [decide_eq_decide.mpr (show f a=f b↔a=b from ⟨fi a b,λe=>by rw[e]⟩)] at z
end
def CM (K:FG9) (H:Hp) (x:V) (n:Int×Int):Prop:=∃p,x=.ref p/\rH K H p [.int n.1,.int n.2]
def Mi:Kind (Int×Int):=(Mh LB).via (λn=>[n.1,n.2]) (λa b e=>by cases a;cases b;simp at e;rw[e.1,e.2]) CM λ⟨p,e,h⟩=>⟨p,_,e,h,.cons rfl (.cons rfl .nil)⟩
def Me (K:FG9):R2:=λx y H Q=>∃(α:Type) (_:DecidableEq α) (k:Kind α) (a b:α),k.d<=50/\k.R K H x a/\k.R K H y b/\Q (.bl (decide (a=b))) H
def Lp (K:FG9):R2:=λx y H Q=>∃(α:Type) (_:DecidableEq α) (k:Kind α) (a b:α),k.d<=50/\k.R K H x a/\k.R K H y b/\Q (.bl (!decide (a=b))) H
theorem zM {X:Cx} (hu:X.A.units+50 < cLine):vX X (compareOp .Eq) (Me X.K):=by
 intro pins s σ H x y v u Q I rx ry h;obtain ⟨α,_,k,a,b,hd,ha,hb,q⟩:=h;exact k.rc (A:=X.A) I rx ry ha hb (by lia) _ _ _ _ ⟨.bl (decide (a=b)),H,I,rfl,q⟩
theorem xh {X:Cx} (hu:X.A.units+50 < cLine):vX X (compareOp .NotEq) (Lp X.K):=by
 intro pins s σ H x y v u Q I rx ry h;obtain ⟨α,_,k,a,b,hd,ha,hb,q⟩:=h;exact k.ne (A:=X.A) I rx ry ha hb (by lia) _ _ _ _ ⟨.bl (!decide (a=b)),H,I,rfl,q⟩
theorem zY {A:Around} {k:Nat} (hr:kv k A):A.units+50 < cLine:=by have:=hr.units;lia
def Inner (H:Hp) (p q:Addr):Prop:=∃a b c:Int,H p=some (.lst [.int a,.int b,.int c,.ref q])
def cB (p:Addr) (H H':Hp):Prop:=(∀b o,H b=some o->b≠p->H' b=some o)/\∀q,Inner H p q->Inner H' p q
theorem cB.refl {p:Addr} (H:Hp):cB p H H:=⟨λ_ _ h _=>h,λ_ h=>h⟩
theorem cB.trans {p:Addr} {H H1 H2:Hp} (a:cB p H H1) (b:cB p H1 H2):cB p H H2:=⟨λc o h n=>b.1 c o (a.1 c o h n) n,λq h=>b.2 q (a.2 q h)⟩
theorem Inner.inj {H:Hp} {p q q':Addr} (h:Inner H p q) (h':Inner H p q'):q=q':=by
 obtain ⟨a,b,c,e⟩:=h;obtain ⟨a',b',c',e'⟩:=h';rw[e] at e';have:=HO.lst.inj (bp e');simp at this;exact this.2.2.2
theorem cB.set {p q:Addr} {H:Hp} {a b c a' b' c':Int} (h:H p=some (.lst [.int a,.int b,.int c,.ref q])):cB p H (upd H p (.lst [.int a',.int b',.int c',.ref q])) :=
 ⟨λb u h n=>by rw[aU n];exact h,λq' h'=>by
  rw[(Inner.inj ⟨a,b,c,h⟩ h').symm];exact ⟨a',b',c',aF⟩⟩
theorem aH.upto {p:Addr} {H H':Hp} (h:aH H H'):cB p H H':=⟨λb o e _=>h b o e,λq ⟨a,b,c,e⟩=>⟨a,b,c,h _ _ e⟩⟩
theorem aH.new {H:Hp} {p:Addr} {o:HO} (h:H p=Option.none):aH H (upd H p o):=λb u e=>by rw[aU (d6 e h)];exact e
theorem aH.sqt {K:FG9} {H H':Hp} {a:Addr} {xs:List V} (e:aH H H') (h:rH K H a xs):rH K H' a xs:=by
 rcases h with (h | ⟨o,h⟩) | h
 ·exact .inl (.inl (e _ _ h))
 ·exact .inl (.inr ⟨o,e _ _ h⟩)
 ·exact .inr h
theorem aH.num {K:FG9} {H H':Hp} {x:V} {n:Int×Int} (e:aH H H') (h:CM K H x n):CM K H' x n:=by obtain ⟨p,q,r⟩:=h;exact ⟨p,q,e.sqt r⟩
section
variable {σ:St} {H:Hp} {D:Ends}
theorem aL {t:TS} {σ0 σ:St} {D:Ends} {H:Hp} (e:σ0=σ) (h:t D σ H):t D σ0 H:=by rw[e];exact h
theorem JM {t u:TS} (h:t { D with nx:=u D } σ H):KY t u D σ H:=h
theorem HK (h:D.nx σ H):IW D σ H:=h
theorem J0 {te:TE} {g:TG} (h:te σ H λx H1=>g x σ H1 D.nx):G5 te g D σ H:=h
theorem Fd {i:Nat} {v:V} {Q:St->Hp->Prop} (h:Q (σ.set i (some v)) H):DB i v σ H Q:=h
theorem JN {te:TE} (h:te σ H D.rt):KZ te D σ H:=h
theorem JV {c:TT} {t u:TS} (h:c σ H λb H1=>if b=true then t D σ H1 else u D σ H1):K5 c t u D σ H:=h
theorem HU {te:TE} (h:te σ H λ_ H1=>D.nx σ H1):IZ te D σ H:=h
theorem JO {i j:Nat} {ta:TA} (h:ta σ H λvs H1=>∃v w,vs=[v,w]/\D.nx ((σ.set i (some v)).set j (some w)) H1):K0 i j ta D σ H:=h
theorem HY {to ti te:TE} {tget:V->V->Hp->VK->Prop} {tip:LK} {tset:CF}
  (h:to σ H λo H1=>ti σ H1 λi H2=>tget o i H2 λx H3=>te σ H3 λy H4=>tip x y H4 λz H5=>tset o i z H5 λH6=>D.nx σ H6):Ja to ti te tget tip tset D σ H:=h
theorem JU {f:Int->Int->Int} {i j:Int} {Q:VK} (h:Q (.int (f i j)) H):ipI f (.int i) (.int j) H Q:=⟨i,j,rfl,rfl,h⟩
theorem JX {wi:TI} {g:TG} {tb:TS} (h:wi σ H λJ H1=>∃W:Nat->Nat->St->Hp->Prop,(∃m,W 0 m σ H1)/\∀i m σ H,W i m σ H →
  (J.stop i H/\D.nx σ H)\/(J.go i H/\∃N:St->Hp->Prop,(∀σ' H',N σ' H'->∃m',m' < m/\W (i+1) m' σ' H')/\∀x H',J.yld i H x H'->g x σ H' λσ2 H2=>tb { D with nx:=N,ct:=N,bk:=D.nx } σ2 H2)):K6 wi g tb D σ H:=h
variable {Q:VK} {QA:List V->Hp->Prop} {QB:Bool->Hp->Prop}
theorem JJ {i:Nat} {v:V} (e:σ[i]?=some (some v)) (h:Q v H):JC i σ H Q:=⟨v,e,h⟩
theorem Mc {v:V} (h:Q v H):tC v σ H Q:=h
theorem Lk {r:R2} {ta tb:TE} (h:ta σ H λx H1=>tb σ H1 λy H2=>r x y H2 Q):K2 r ta tb σ H Q:=h
theorem Ld {r:V->Hp->VK->Prop} {ta:TE} (h:ta σ H λx H1=>r x H1 Q):KS r ta σ H Q:=h
theorem Ln {g:Int->Int->V} {i j:Int} (h:Q (g i j) H):Ib g (.int i) (.int j) H Q:=⟨i,j,rfl,rfl,h⟩
theorem fQ {C:Int->Int->Prop} {g:Int->Int->V} {i j:Int} (hc:C i j) (h:Q (g i j) H):rI C g (.int i) (.int j) H Q:=⟨i,j,rfl,rfl,hc,h⟩
theorem Md {g:Int->V} {i:Int} (h:Q (g i) H):rU g (.int i) H Q:=⟨i,rfl,h⟩
theorem JZ {i j:Int} (h:Q (.bl (decide (i=j))) H):rEq (.int i) (.int j) H Q:=⟨rfl,by
 have e:decide (V.int i=V.int j)=decide (i=j):=by simp
 rw[e];exact h⟩
theorem JR {i j:Int} (h:Q (.bl (!decide (i=j))) H):rNe (.int i) (.int j) H Q:=⟨rfl,by
 have e:decide (V.int i=V.int j)=decide (i=j):=by simp
 rw[e];exact h⟩
theorem HG {t:TE} (h:t σ H λx H'=>∃k,x=.bl k/\QB k H'):IT t σ H QB:=h
theorem Le {t:TE} (h:t σ H λx H'=>∃k,x=.bl k/\QB k H'):tB t σ H QB:=h
theorem J5 {t u:TT} (h:t σ H λc H1=>if c=true then u σ H1 QB else QB false H1):K7 t u σ H QB:=h
theorem Lh {t u:TT} (h:t σ H λc H1=>if c=true then QB true H1 else u σ H1 QB):tOr t u σ H QB:=h
theorem JP {t:TT} (h:t σ H λc H1=>QB (!c) H1):K3 t σ H QB:=h
theorem HZ {t u:TE} (h:t σ H λx H1=>∃c,x=.bl c/\if c=true then u σ H1 Q else Q (.bl false) H1):Jb t u σ H Q:=h
theorem HJ {t:TE} (h:t σ H λx H1=>∃c,x=.bl c/\Q (.bl (!c)) H1):IV t σ H Q:=h
theorem JW {c:TT} {ta tb:TE} (h:c σ H λb H1=>if b=true then ta σ H1 Q else tb σ H1 Q):tIf c ta tb σ H Q:=h
theorem JI (h:QB true H):KR σ H QB:=h
theorem JQ (h:QA [] H):Av σ H QA:=h
theorem HV {ta:TE} {tr:TA} (h:ta σ H λx H1=>tr σ H1 λxs H2=>QA (x :: xs) H2):lY ta tr σ H QA:=h
theorem HX {sp:Sp} {E:XK} {t:TA} (h:t σ H λvs H1=>sp vs H1 Q E):EL sp [] E t σ H Q:=by
 have e:(λvs H1=>sp (vs++[]) H1 Q E)=λvs H1=>sp vs H1 Q E:=by funext vs H1;rw[xY]
 show t σ H λvs H1=>sp (vs++[]) H1 Q E
 rw[e];exact h
theorem Ll {r:List V->Hp->VK->Prop} {t:TA} (h:t σ H λvs H1=>r vs H1 Q):L9 r t σ H Q:=h
theorem JT {K:FG9} {p:Addr} {xs:List V} {i:Int} {v:V} (hx:rH K H p xs) (e:CC xs i=some v) (h:Q v H):J6 K (.ref p) (.int i) H Q:=⟨p,xs,i,v,rfl,rfl,hx,e,h⟩
theorem b9 {K:FG9} {p:Addr} {xs:List V} {i:Int} (hx:bI K H p xs) {v:V} (e:CC xs i=some v) (h:Q v H):J7 K (.ref p) (.int i) H Q:=⟨p,xs,i,v,rfl,rfl,hx,e,h⟩
theorem HS {K:FG9} {p:Addr} {xs:List V} {i:Int} (hx:bI K H p xs) {v:V} (e:CC xs i=some v) (h:Q v H):Je K (.ref p) (.int i) H Q:=⟨p,xs,i,v,rfl,rfl,hx,e,h⟩
theorem eB {QH:Hp->Prop} {p:Addr} {xs:List V} {i:Int} {v:V} {j:Nat} {ys:List V} (hx:H p=some (.lst xs)) (e:Ez xs.length i=some j) (ey:xs.set j v=ys) (h:QH (upd H p (.lst ys))):Jd (.ref p) (.int i) v H QH:=⟨p,xs,i,j,rfl,rfl,hx,e,by rw[ey];exact h⟩
theorem HQ {to ti:TE} {t:CF} {v:V} {QS:St->Hp->Prop} (h:to σ H λo H1=>ti σ H1 λi H2=>t o i v H2 λH3=>QS σ H3):LG to ti t v σ H QS:=h
theorem Fe {t:TG} {u:GJ} {v:V} {r:List V} {QS:St->Hp->Prop} (h:t v σ H λσ' H'=>u r σ' H' QS):Jo t u (v :: r) σ H QS:=⟨v,r,rfl,h⟩
theorem HR {QS:St->Hp->Prop} (h:QS σ H):LH [] σ H QS:=⟨rfl,h⟩
theorem HP {K:FG9} {n:Nat} {t:GJ} {a:Addr} {xs:List V} {QS:St->Hp->Prop} (hx:rH K H a xs) (hl:xs.length=n) (h:t xs σ H QS):Kq K n t (.ref a) σ H QS:=⟨a,xs,rfl,hx,hl,h⟩
theorem Lf {r:V->Option Int->Option Int->Hp->VK->Prop} {te:TE} {tl th:TO} (h:te σ H λx H1=>tl σ H1 λl H2=>th σ H2 λu H3=>r x l u H3 Q):tSl r te tl th σ H Q:=h
theorem D5 {QO:Option Int->Hp->Prop} (h:QO none H):CT σ H QO:=h
theorem HI {t:TE} {QO:Option Int->Hp->Prop} (h:t σ H λx H1=>∃i,x=.int i/\QO (some i) H1):IU t σ H QO:=h
variable {R:It->Hp->Prop} {K:FG9}
theorem Fb {tl:TE} (h:tl σ H λx H1=>∃a,x=.ref a/\(∃xs,bI K H1 a xs)/\R (Jt K a) H1):FI K tl σ H R:=h
theorem E8 {ta:TA} (h:ta σ H λvs H1=>∃j:Int,vs=[.int j]/\-(2^62)<=j/\j < 2^62/\R (BL 0 j.toNat) H1):Jk ta σ H R:=h
theorem E7 {ta:TA} (h:ta σ H λvs H1=>∃i j:Int,vs=[.int i,.int j]/\(-(2^62)<=i/\i < 2^62/\-(2^62)<=j/\j < 2^62)/\R (BL i (j - i).toNat) H1):Jj ta σ H R:=h
theorem HW {wi:TI} {k:Nat} {cap:List Nat} {g:TG} {tf:TT} {te:TE} {σ₀:St} (e:CW k cap σ=σ₀) (h:wi σ H λJ H1=>sO J σ₀ g tf te Q H1):Ax wi k cap g tf te σ H Q:=by
 unfold Ax;rw[e];exact h
theorem HF {g:TG} {tf:TT} {te:TE} {x:V} {NY:V->Hp->Prop} {NN:Hp->Prop} (h:g x σ H λσ2 H2=>tf σ2 H2 λb H3=>if b=true then te σ2 H3 NY else NN H3):rP σ g tf te x H NY NN:=h
theorem Lm {T:String} {r:V->List V->Hp->VK->Prop} {to:TE} {t:TA} (h:to σ H λx H1=>L8 K T x H1/\t σ H1 λxs H2=>r x xs H2 Q):tBM K T r to t σ H Q:=h
def LO (Q:VK) (xs:List V) (H:Hp):Prop:=xs.length<=sizeLine/\∀p,H p=none->Q (.ref p) (upd H p (.tup xs))
def LP (Q:VK) (xs:List V) (H:Hp):Prop:=xs.length<=sizeLine/\∀p,H p=none->Q (.ref p) (upd H p (.lst xs))
theorem JK {t:TA} (h:t σ H (LO Q)):KU t σ H Q:=h
theorem JS {t:TA} (h:t σ H (LP Q)):K4 t σ H Q:=h
theorem iU {n:Nat} (h:Nat.ble n 1000=true):n<=sizeLine:=bh (bL (Nat.le_of_ble_eq_true h))
theorem cF {xs:List V} (h:∀p H',aH H H'->H' p=some (.tup xs)->Q (.ref p) H') (hl:Nat.ble xs.length 1000=true:=by rfl):LO Q xs H :=
 ⟨iU hl,λp hp=>h p _ (aH.new hp) aF⟩
theorem gB {xs:List V} (h:∀p H',aH H H'->H p=none->H' p=some (.lst xs)->Q (.ref p) H') (hl:Nat.ble xs.length 1000=true:=by rfl):LP Q xs H :=
 ⟨iU hl,λp hp=>h p _ (aH.new hp) hp aF⟩
theorem LD {A B:Prop} (h:B):if (!true)=true then A else B:=Kl h
theorem LF {A B:Prop} (h:A):if (!false)=true then A else B:=LC h
def WB (tb:TS) (D:Ends) (Pv:St->Hp->Prop) (μ:St->Hp->Nat) (n:Nat) (σ:St) (H:Hp):Prop:=∃N:St->Hp->Prop,(∀σ' H',N σ' H'->∃m',m' < n/\(m'=μ σ' H'/\Pv σ' H'))/\tb { D with nx:=N,ct:=N,bk:=D.nx } σ H
theorem Jc {tb:TS} {Pv:St->Hp->Prop} {μ:St->Hp->Nat} {n:Nat} (h:tb { D with nx:=λσ' H'=>Pv σ' H'/\μ σ' H' < n,ct:=λσ' H'=>Pv σ' H'/\μ σ' H' < n,bk:=D.nx } σ H):WB tb D Pv μ n σ H :=
 ⟨_,λσ' H' ⟨p,l⟩=>⟨_,l,rfl,p⟩,h⟩
theorem zm {c:TT} {tb:TS} (Pv:St->Hp->Prop) (μ:St->Hp->Nat) (h0:Pv σ H) (hs:∀σ H,Pv σ H->c σ H λb H1=>if b=true then WB tb D Pv μ (μ σ H) σ H1 else D.nx σ H1):EK c tb D σ H:=by
 refine ⟨λm σ H=>m=μ σ H/\Pv σ H,⟨_,rfl,h0⟩,?_⟩;rintro m σ H ⟨rfl,p⟩;exact hs σ H p
end
def iQ (H:Hp) (p:Addr):Prop:=∃(q:Addr) (a b c:Int) (cs:List Int),H p=some (.lst [.int a,.int b,.int c,.ref q])/\H q=some (.lst (cs.map V.int))/\0<=a/\0<=c/\c<=(cs.length:Int)/\∀x∈cs,(0:Int)<=x
theorem Ex {H:Hp} {p q:Addr} {a b c:Int} {cs:List Int} (hp:H p=some (.lst [.int a,.int b,.int c,.ref q])) (hq:H q=some (.lst (cs.map V.int))):q≠p:=λe=>by
 rw[e,hp] at hq;have h:=HO.lst.inj (bp hq);cases cs with
 | nil=>cases h
 | cons x1 cs=>cases cs with
  | nil=>cases h
  | cons x2 cs=>cases cs with
   | nil=>cases h
   | cons x3 cs=>cases cs with
    | nil=>cases h
    | cons x4 cs=>simp at h
theorem iQ.same {H H':Hp} {p:Addr} (h:iQ H p) (e:aH H H'):iQ H' p:=by obtain ⟨q,a,b,c,cs,h1,h2,r⟩:=h;exact ⟨q,a,b,c,cs,e _ _ h1,e _ _ h2,r⟩
theorem cB.tup {H H':Hp} {p r:Addr} {xs:List V} (u:cB p H H') (B:iQ H p) (h:H r=some (.tup xs)):H' r=some (.tup xs):=by
 obtain ⟨q,a,b,c,cs,h1,_⟩:=B;exact u.1 r _ h λe=>by rw[e,h1] at h;cases h
theorem cB.other {H H':Hp} {p r:Addr} {o:HO} (u:cB p H H') (n:r≠p) (h:H r=some o):H' r=some o:=u.1 r _ h n
theorem iQ.inner {H:Hp} {p:Addr} (h:iQ H p):∃q,Inner H p q/\∃xs,H q=some (.lst xs):=by obtain ⟨q,a,b,c,cs,h1,h2,_⟩:=h;exact ⟨q,⟨a,b,c,h1⟩,_,h2⟩
theorem iQ.upd {H:Hp} {p q r:Addr} {o:HO} (h:iQ H p) (hi:Inner H p q) (n1:r≠p) (n2:r≠q):iQ (L2.upd H r o) p:=by
 obtain ⟨q',a,b,c,cs,h1,h2,z⟩:=h;have e:q'=q:=Inner.inj ⟨a,b,c,h1⟩ hi;subst e;exact ⟨q',a,b,c,cs,by rw[aU n1.symm];exact h1,by rw[aU n2.symm];exact h2,z⟩
theorem Inner.upd {H:Hp} {p q r:Addr} {o:HO} (hi:Inner H p q) (n1:r≠p):Inner (L2.upd H r o) p q:=by obtain ⟨a,b,c,h⟩:=hi;exact ⟨a,b,c,by rw[aU n1.symm];exact h⟩
def G7:Sp:=λvs H Q _=>∃p n,vs=[.ref p,.int n]/\iQ H p/\0 < n/\n < 2^64/\∀v H',0<=v->v < n->iQ H' p->cB p H H'->Q (.int v) H'
inductive EY (K:FG9) (vs:List V) (H:Hp) (Q:VK) (E9:XK):Prop
 | mk (a:Addr) (ns:List Int):vs=[.ref a]->bI K H a (ns.map V.int)->ns.length<=63->(∀p H',H p=none->iQ H' p->aH H H'->Q (.ref p) H')->EY K vs H Q E9
inductive wL (K:FG9) (vs:List V) (H:Hp) (Q:VK) (E9:XK):Prop
 | mk (a:Addr) (ns:List Int):vs=[.ref a]->bI K H a (ns.map V.int)->ns.length<=63->(∀H',Q (.bl true) H')->wL K vs H Q E9
def JH:Sp:=λvs H Q _=>∃t b,vs=[.int t,.int b]/\0 < b/\Sz 8999 b/\∀r H',aH H H'->H' r=some (.tup [.int (lo t b),.int (hi t b)])->Q (.ref r) H'
def K9:Sp:=λvs H Q _=>∃a b,vs=[.int a,.int b]/\Q (.int (g a b)) H
def D0:Sp:=λvs H Q _=>∃t b,vs=[.int t,.int b]/\b≠0/\Sz 8999 b/\∀r H',aH H H'->H' r=some (.tup [.int (lo (if b < 0 then -t else t) (if b < 0 then -b else b)),.int (hi (if b < 0 then -t else t) (if b < 0 then -b else b))])->Q (.ref r) H'
def Jp (a b c d:Int):Int:=a*d+c*b
def FW (a b c d:Int):Int:=a*d - c*b
def FV (a _b c _d:Int):Int:=a*c
def C3 (K:FG9) (f:Int->Int->Int->Int->Int):Sp:=λvs H Q _=>∃p q a b c d,vs=[.ref p,.ref q]/\rH K H p [.int a,.int b]/\rH K H q [.int c,.int d]/\0 < b/\0 < d/\Sz 4000 a/\Sz 4000 b/\Sz 4000 c/\Sz 4000 d /\
 ∀r H',aH H H'->H' r=some (.tup [.int (lo (f a b c d) (b*d)),.int (hi (f a b c d) (b*d))])->Q (.ref r) H'
theorem cv {α β:Type} {F:α->β->Prop}:∀{l1 l1':List α} {l2 l2':List β},Paired F l1 l2->Paired F l1' l2'->Paired F (l1++l1') (l2++l2')
 | _,_,_,_,.nil,h=>h
 | _,_,_,_,.cons r t,h=>.cons r (cv t h)
theorem cE {h:Heap} {a b:Addr} {o u:Obj} (ha:h.get? a=some o) (hb:h.get? b=some u) (hc:o.cls≠u.cls):a≠b:=λe=>by
 subst e;rw[ha] at hb;cases hb;exact hc rfl
theorem lW {a b:String} (h:a≠b):Value.type a≠Value.type b:=λe=>h (by injection e)
theorem yr {h:Heap} {z TI TO i1 i2 l1 l2:Addr} {f0 a b:Value} {k1 k2:Nat} {xs ys:Array Value} (hz:IsZip h z TI TO f0) (hTI:IsPair h TI (.ref i1) (.ref i2)) (hTO:IsPair h TO a b)
  (h1:h.IsListIter i1 l1 k1) (h2:h.IsListIter i2 l2 k2) (hl1:h.IsList l1 xs) (hl2:h.IsList l2 ys) (hT:TI≠TO) (hi:i1≠i2):ZipApart z TI TO i1 i2 l1 l2:=by
 obtain ⟨o1,g1,c1,_⟩:=h1;obtain ⟨o2,g2,c2,_⟩:=h2;obtain ⟨p1,q1,d1,_⟩:=hl1;obtain ⟨p2,q2,d2,_⟩:=hl2;refine ⟨cE hTI hz ?_,cE hTO hz ?_,cE g1 hz ?_,cE g2 hz ?_,hT,cE hTI g1 ?_,cE hTI g2 ?_,cE hTO g1 ?_,cE hTO g2 ?_,hi,cE q1 hz ?_,cE q1 hTO ?_,cE q1 g1 ?_,cE q1 g2 ?_,cE q2 hz ?_,cE q2 hTO ?_,cE q2 g1 ?_,cE q2 g2 ?_⟩
 all_goals first
  | (rw[d1];first | (rw[c1];exact lW (by decide)) | (rw[c2];exact lW (by decide)) | exact lW (by decide))
  | (rw[d2];first | (rw[c1];exact lW (by decide)) | (rw[c2];exact lW (by decide)) | exact lW (by decide))
  | (rw[c1];exact lW (by decide))
  | (rw[c2];exact lW (by decide))
  | exact lW (by decide)
def KC (K : FG9) (l1 l2 : Addr) : It :=
  ⟨λi H => ∃ xs ys x y, bI K H l1 xs /\ bI K H l2 ys /\ xs[i]? = some x /\ ys[i]? = some y,
   λi H v H' => ∃ p x y, v = .ref p /\ H p = none /\ H' = upd H p (.tup [x, y]) /\ (∀ xs, bI K H l1 xs → xs[i]? = some x) /\ ∀ ys, bI K H l2 ys → ys[i]? = some y,
   λi H => ∃ xs ys, bI K H l1 xs /\ bI K H l2 ys /\ (xs.length ≤ i \/ ys.length ≤ i)⟩
def tnZ (z TI TO i1 i2 l1 l2:Addr) (i:Nat) (h:Heap):Prop:=IsZip h z TI TO .none/\IsPair h TI (.ref i1) (.ref i2)/\(∃a b,IsPair h TO a b)/\h.IsListIter i1 l1 i/\h.IsListIter i2 l2 i
theorem EJ {P:Program} {w:World} {K:FG9} {elts:List Expr} {kk:Nat} {tpos:Pos} (z TI TO i1 i2 l1 l2:Addr) (hT:TI≠TO) (hi:i1≠i2):Turn P w K (.Tuple elts kk tpos) (KC K l1 l2) [z,TI,TO,i1,i2] z (tnZ z TI TO i1 i2 l1 l2) where
 mem:=by simp
 obj:=λi h st b hb=>by
  obtain ⟨hz,hTI,⟨a,c,hTO⟩,⟨o1,g1,c1,d1⟩,⟨o2,g2,c2,d2⟩⟩:=st;simp only[aE,aS,or_false] at hb;rcases hb with rfl | rfl | rfl | rfl | rfl
  ·exact ⟨_,hz,λv q=>nomatch q⟩
  ·exact ⟨_,hTI,λv q=>nomatch q⟩
  ·exact ⟨_,hTO,λv q=>nomatch q⟩
  ·exact ⟨o1,g1,λv q=>by rw[d1] at q;cases q⟩
  ·exact ⟨o2,g2,λv q=>by rw[d2] at q;cases q⟩
 keep:=λi h h' st k=>by
  obtain ⟨hz,hTI,⟨a,c,hTO⟩,h1,h2⟩:=st;exact ⟨k z (by simp) _ hz,k TI (by simp) _ hTI,⟨a,c,k TO (by simp) _ hTO⟩,h1.at λo e=>k i1 (by simp) o e,h2.at λo e=>k i2 (by simp) o e⟩
 item:=by
  intro X hP hw hK hc i pins s σ H E I hf st hg;subst hP hw hK;obtain ⟨hz,hTI,⟨a,c,hTO⟩,h1,h2⟩:=st;obtain ⟨xs,ys,x,y,qx,qy,ex,ey⟩:=hg;obtain ⟨us,rx,px,_⟩:=I.list qx;obtain ⟨ws,ry,py,_⟩:=I.list qy;obtain ⟨u,eu,ru⟩:=rx.get ex;obtain ⟨v,ev,rv⟩:=ry.get ey;have D:=yr hz hTI hTO h1 h2 px.isList py.isList hT hi;refine wpAny_pyNext_zip_item D hz hTI hTO h1 h2 px.isList py.isList (x:=u) (y:=v) (by simpa using eu) (by simpa using ev) λh' a1 a2 a3 a4 a5 a6 hk=>?_
  refine ⟨_,rfl,wpAny_letOwnedTupleGo_zip a1 λh'' hz'' hs=>?_⟩;have hT0:H s.heap.objs.size=none:=I.hok.fresh (au _);have zne:s.heap.objs.size≠z:=DS (Heap.lt_size hz)
  have up:∀b o,b∉[z,TO,i1,i2]->s.heap.get? b=some o->h''.get? b=some o:=λb o hb e=>by
   simp only[aE,aS,or_false,not_or] at hb;exact (hs.2 b hb.1).trans (hk b o hb.1 hb.2.1 hb.2.2.1 hb.2.2.2 e)
  have fx:∀b∈[z,TO,i1,i2],jA X pins H b:=λb hb=>hf b (by
   simp only[aE,aS,or_false] at hb ⊢;rcases hb with rfl | rfl | rfl | rfl <;> simp)
  have nx:∀b o,H b=some o->b∉[z,TO,i1,i2]:=λb o e hb=>by
   have:=(fx b hb).1;rw[this] at e;cases e
  have nT:∀{b:Addr} {o:HO},H b=some o->b≠s.heap.objs.size:=λe q=>by rw[q,hT0] at e;cases e
  have tup:h''.get? s.heap.objs.size=some { cls:=.type "tuple",data:=.seq #[u,v] }:=(hs.2 _ zne).trans a5
  have I2:Inv X pins σ (upd H s.heap.objs.size (.tup [x,y])) { s with heap:=h'' }:=by
   refine I.step (g':=s.gens) (d':=s.drawn) (t':=s.toks) (ch:=[z,TO,i1,i2]) (λb hb=>?_) (λb o _ _ hb e _=>up b o hb e) (λb o _ _ hb e _=>⟨o.slots,up b o hb e⟩) (λb o hb e n=>?_)
    (λb o hb e=>⟨o,up b o hb e⟩) (λb q e=>by rw[aU (nT e)];exact e) (λb o q e=>by rw[aU (nT e)];exact e) (λb q e=>⟨#[],by rw[aU (nT e),e];simp⟩) (λm hm=>?_) (λb o e=>?_) I.bare
   ·obtain ⟨_,f1,_,f3,f4,f5⟩:=fx b hb;exact ⟨f3,f1,f4,f5⟩
   ·rw[aU (b7 (Heap.lt_size e))];exact n
   ·obtain ⟨o,es,ep,ho,r⟩:=hm;exact ⟨o,es,ep,up _ o (λz=>(fx _ z).2.1 rfl) ho,r⟩
   ·by_cases hb:b=s.heap.objs.size
    ·subst hb;rw[aF] at e;cases e;exact ⟨iU rfl,[u,v],.cons ru (.cons rv .nil),⟨_,tup,rfl,_,rfl⟩⟩
    ·rw[aU hb] at e;refine (I.hok b o e).stay (λc v' hc q=>up c v' ?_ q) (λc q=>by rw[aU (nT q)];exact q) λc xs q=>by rw[aU (nT q)];exact q
     rcases hc with rfl | hc
     ·exact nx _ _ e
     ·exact nx _ _ hc
  refine ⟨.ref s.heap.objs.size,_,I2,rfl,⟨_,x,y,rfl,hT0,rfl,λxs' q=>by rw[I.list_inj q qx];exact ex,λys' q=>by rw[I.list_inj q qy];exact ey⟩,?_,λb hb=>?_⟩
  ·refine ⟨hz'',(hs.2 _ D.TIz).trans (hk _ _ D.TIz D.TITO D.TIi1 D.TIi2 hTI),⟨_,_,(hs.2 _ D.TOz).trans a2⟩,a3.at λo e=>(hs.2 _ D.i1z).trans e,a4.at λo e=>(hs.2 _ D.i2z).trans e⟩
  ·obtain ⟨o,e,_⟩:∃o,s.heap.get? b=some o/\True:=by
    obtain ⟨o1,g1,_⟩:=h1;obtain ⟨o2,g2,_⟩:=h2;simp only[aE,aS,or_false] at hb;rcases hb with rfl | rfl | rfl | rfl | rfl
    ·exact ⟨_,hz,trivial⟩
    ·exact ⟨_,hTI,trivial⟩
    ·exact ⟨_,hTO,trivial⟩
    ·exact ⟨_,g1,trivial⟩
    ·exact ⟨_,g2,trivial⟩
   rw[aU (b7 (Heap.lt_size e))];exact (hf b hb).1
 done:=by
  intro X hP hw hK hc i pins s σ H E I hf st hg;subst hP hw hK;obtain ⟨hz,hTI,⟨a,c,hTO⟩,h1,h2⟩:=st;obtain ⟨xs,ys,qx,qy,hend⟩:=hg;obtain ⟨us,rx,px,_⟩:=I.list qx;obtain ⟨ws,ry,py,_⟩:=I.list qy;have lx:=rx.length;have ly:=ry.length;have D:=yr hz hTI hTO h1 h2 px.isList py.isList hT hi
  refine wpAny_pyNext_zip_end (I.ok.hd hc) D hz hTI hTO h1 h2 px.isList py.isList (by
   rcases hend with q | q
   ·exact .inl (by simp;lia)
   ·exact .inr (by simp;lia)) λh' hk=>⟨rfl,?_⟩
  have up:∀b o,b∉[z,TO,i1,i2]->s.heap.get? b=some o->h'.get? b=some o:=λb o hb e=>by
   simp only[aE,aS,or_false,not_or] at hb;exact hk b o hb.1 hb.2.1 hb.2.2.1 hb.2.2.2 e
  have fx:∀b∈[z,TO,i1,i2],jA X pins H b:=λb hb=>hf b (by
   simp only[aE,aS,or_false] at hb ⊢;rcases hb with rfl | rfl | rfl | rfl <;> simp)
  have nx:∀b o,H b=some o->b∉[z,TO,i1,i2]:=λb o e hb=>by
   have:=(fx b hb).1;rw[this] at e;cases e
  refine I.step (g':=s.gens) (d':=s.drawn) (t':=s.toks) (ch:=[z,TO,i1,i2]) (λb hb=>?_) (λb o _ _ hb e _=>up b o hb e) (λb o _ _ hb e _=>⟨o.slots,up b o hb e⟩) (λb o hb e n=>n)
   (λb o hb e=>⟨o,up b o hb e⟩) (λb q e=>e) (λb o q e=>e) (λb q e=>⟨#[],by rw[e];simp⟩) (λm hm=>?_) (λb o e=>?_) I.bare
  ·obtain ⟨_,f1,_,f3,f4,f5⟩:=fx b hb;exact ⟨f3,f1,f4,f5⟩
  ·obtain ⟨o,es,ep,ho,r⟩:=hm;exact ⟨o,es,ep,up _ o (λz=>(fx _ z).2.1 rfl) ho,r⟩
  ·refine (I.hok b o e).stay (λc v' hc q=>up c v' ?_ q) (λc q=>q) λc xs q=>q
   rcases hc with rfl | hc
   ·exact nx _ _ e
   ·exact nx _ _ hc
 self:=λ_ _ _ _ _ st h=>wpAny_pyIter_zip st.1 h
section
variable {X:Cx}
def Kn (K:FG9) (ta:TA):TI:=λσ H R=>ta σ H λvs H1=>∃l1 l2,vs=[.ref l1,.ref l2]/\(∃xs,bI K H1 l1 xs)/\(∃ys,bI K H1 l2 ys)/\R (KC K l1 l2) H1
theorem qR {a b:Expr} {ta:TA} {p pos tpos:Pos} {elts:List Expr} {kk:Nat} (hg:Gl X "zip") (hm:X.mg "zip"=none) (ha:PA X [a,b] ta) (hs:starEach [a,b] X.env=[(false,eval a X.env),(false,eval b X.env)]:=by rfl) (hs2:starEach [b] X.env=[(false,eval b X.env)]:=by rfl) :
  PI X (.Tuple elts kk tpos) (.Call (.Name "zip" p) [a,b] [] pos) (Kn X.K ta):=by
 intro pins s σ H R I h;refine Call_ (kr I hg hm boot_zip (PyProof.Rows.callWith_type1 (ff (ha pos pins s σ H _ I h) λus s1 ⟨vs,H1,I1,r1,q1⟩=>?_) (by rw[hs,hs2]) (by rw[hs2];rfl)));obtain ⟨l1,l2,e,⟨xs,qx⟩,⟨ys,qy⟩,q⟩:=q1;subst e;obtain ⟨u,v,rfl,ru,rv⟩:=vals2 r1;cases ru;cases rv;obtain ⟨us,rx,px,_⟩:=I1.list qx;obtain ⟨ws,ry,py,_⟩:=I1.list qy;refine call_zip_2 px.isList py.isList λh' a1 a2 a3 a4 a5 a6 hk=>wpAny_pyIter_zip a1 ?_
 have I2:Inv X pins σ H1 { s1 with heap:=h' }:=I1.kept (t':=s1.toks) hk;refine ⟨_,[s1.heap.objs.size+4,s1.heap.objs.size+2,s1.heap.objs.size+3,s1.heap.objs.size,s1.heap.objs.size+1],_,_,H1,rfl,I2,EJ (s1.heap.objs.size+4) (s1.heap.objs.size+2) (s1.heap.objs.size+3) s1.heap.objs.size (s1.heap.objs.size+1) l1 l2 (b7 (dD _)) (b7 (dD _)),⟨a1,a2,⟨_,_,a3⟩,a4,a5⟩,λb hb=>?_,q⟩
 have hb':s1.heap.objs.size<=b:=by
  simp only[aE,aS,or_false] at hb;rcases hb with rfl | rfl | rfl | rfl | rfl <;> first | exact Nat.le_add_right _ _ | exact au _
 exact I1.fpOk hb' (I1.hok.fresh hb')
theorem Gz (hc:X.calm=true):qM X (.builtin "all") (λxs H Q=>∃(p:Addr) (bs:List Bool),xs=[.ref p]/\bI X.K H p (bs.map V.bl)/\Q (.bl (bs.all id)) H):=by
 intro pins s σ H xs us Q I r h;obtain ⟨p,bs,rfl,hp,q⟩:=h;obtain ⟨u,rfl,ru⟩:=vals1 r;cases ru;obtain ⟨vs,rv,pl,hz⟩:=I.list hp
 have hb:PyProof.Rows.LSm.BoolsAre vs bs:=by
  clear q hp pl hz
  induction bs generalizing vs with
  | nil=>cases rv;exact .nil
  | cons b bs ih =>
   rw[kB] at rv;cases rv with
   | cons r1 r2=>cases r1;exact .cons b (ih _ r2)
 have hlt:p < s.heap.objs.size:=by obtain ⟨_,e,_⟩:=pl.isList;exact Heap.lt_size e
 refine call_all_walk (wpAny_pyIter_list pl.isList ?_)
 refine ⟨s.heap.objs.size,[s.heap.objs.size,p],[s.heap.objs.size],vs.toArray.size,_,_,λi=>(bs[i]?).getD true,rfl,Walks.list (A:=X.A.in1) (I.ok.hd hc) _ p (b7 hlt) vs.toArray,
  ⟨⟨_,Heap.get?_push_size _ rfl,rfl,rfl⟩,pl.isList.push _⟩,λi v s' Q' E' hP hQ=>?_,λh' tk hk=>?_⟩
 ·obtain ⟨b,e,rfl⟩:=hb.get i v (by simpa using hP);simp only[e,Option.getD_some] at hQ;exact wpAny_truthy_bool hQ
 ·have e:((List.range vs.toArray.size).all λi=>(bs[i]?).getD true)=bs.all id:=by
   rw[aJ,hb.length];exact PyProof.Rows.LSm.range_all bs
  rw[e];exact ⟨.bl _,H,I.kept (t':=tk) (PyProof.Rows.LSm.kept_iter hk),rfl,q⟩
theorem Gy (hc:X.calm=true):qM X (.builtin "sum") (λxs H Q=>∃(p:Addr) (ns:List Int),xs=[.ref p]/\bI X.K H p (ns.map V.int)/\Q (.int ns.sum) H):=by
 intro pins s σ H xs us Q I r h;obtain ⟨p,ns,rfl,hp,q⟩:=h;obtain ⟨u,rfl,ru⟩:=vals1 r;cases ru;obtain ⟨vs,rv,pl,_⟩:=I.list hp;have hi:IntsAre vs ns:=intsAre_of rv;obtain ⟨xs,hx⟩:=hi.allInts.items;have hl':s.heap.IsList p (intItems xs):=hx ▸ pl.isList;refine sum_intListG (I.ok.hd hc) hl' λh' tk t' hk=>?_
 have e1:ns=xs.toList.map (·.1):=by
  rw[<- nums_intItems,<- hx];exact (show numsOf vs.toArray.toList=ns from hi.numsOf).symm
 have e2:preSum (numAt xs) xs.size=ns.sum:=by
  rw[preSum_eq,aB (by simp),e1]
 rw[e2];exact ⟨.int _,H,I.kept (t':=tk) hk,⟨_,rfl⟩,q⟩
end
section
variable {K:FG9} {l1 l2:Addr} {xs ws:List V} {g:TG} {tf:TT} {te:TE} {Q:VK} {σ₀:St} {H:Hp}
theorem qA (Pv:Nat->List V->Hp->Prop) (hz:xs.length<=sizeLine) (hw:ws.length=xs.length) (h0:Pv 0 [] H) (hl:∀i ys H,i<=xs.length->Pv i ys H->bI K H l1 xs/\bI K H l2 ws)
  (hs:∀i x y ys H p,xs[i]?=some x->ws[i]?=some y->ys.length<=i->Pv i ys H->H p=none->rP σ₀ g tf te (.ref p) (upd H p (.tup [x,y])) (λy H'=>Pv (i+1) (ys++[y]) H') (λH'=>Pv (i+1) ys H'))
  (hd:∀ys H,ys.length<=xs.length->Pv xs.length ys H->∀p,H p=none->Q (.ref p) (upd H p (.lst ys))):sO (KC K l1 l2) σ₀ g tf te Q H:=by
 refine ⟨λi m ys H=>m=xs.length - i/\i<=xs.length/\ys.length<=i/\Pv i ys H,⟨xs.length,by simp,bo _,bo _,h0⟩,?_⟩;rintro i m ys H ⟨rfl,hi,hy,p⟩;obtain ⟨q1,q2⟩:=hl i ys H hi p;by_cases hlt:i < xs.length
 ·refine .inr ⟨⟨xs,ws,xs[i],ws[i]'(by lia),q1,q2,by simp [hlt],by simp⟩,by lia,λy H'=>Pv (i+1) (ys++[y]) H',λH'=>Pv (i+1) ys H',λy H' p'=>⟨xs.length - (i+1),by lia,rfl,hlt,by rw[aA,br];lia,p'⟩,λH' p'=>⟨xs.length - (i+1),by lia,rfl,hlt,by lia,p'⟩,λx H' y=>?_⟩;obtain ⟨r,x',y',rfl,hr,rfl,e1,e2⟩:=y;exact hs i x' y' ys _ r (e1 xs q1) (e2 ws q2) hy p hr
 ·have e:i=xs.length:=by lia
  subst e;exact .inl ⟨⟨xs,ws,q1,q2,.inl (au _)⟩,by lia,hd ys H hy p⟩
theorem Iy {tb:TS} {D:Ends} {σ:St} (Pv:Nat->St->Hp->Prop) (hw:ws.length=xs.length) (h0:Pv 0 σ H) (hl:∀i σ H,i<=xs.length->Pv i σ H->bI K H l1 xs/\bI K H l2 ws)
  (hs:∀i x y σ H p,xs[i]?=some x->ws[i]?=some y->Pv i σ H->H p=none->g (.ref p) σ (upd H p (.tup [x,y])) λσ2 H2=>tb { D with nx:=Pv (i+1),ct:=Pv (i+1),bk:=D.nx } σ2 H2) (hd:∀σ H,Pv xs.length σ H->D.nx σ H) :
  ∃W:Nat->Nat->St->Hp->Prop,(∃m,W 0 m σ H)/\∀i m σ H,W i m σ H →
   ((KC K l1 l2).stop i H/\D.nx σ H)\/((KC K l1 l2).go i H/\∃N:St->Hp->Prop,(∀σ' H',N σ' H'->∃m',m' < m/\W (i+1) m' σ' H')/\∀x H',(KC K l1 l2).yld i H x H'->g x σ H' λσ2 H2=>tb { D with nx:=N,ct:=N,bk:=D.nx } σ2 H2):=by
 refine ⟨λi m σ H=>m=xs.length - i/\i<=xs.length/\Pv i σ H,⟨xs.length,by simp,bo _,h0⟩,?_⟩;rintro i m σ H ⟨rfl,hi,p⟩;obtain ⟨q1,q2⟩:=hl i σ H hi p;by_cases hlt:i < xs.length
 ·refine .inr ⟨⟨xs,ws,xs[i],ws[i]'(by lia),q1,q2,by simp [hlt],by simp⟩,Pv (i+1),λσ' H' p'=>⟨xs.length - (i+1),by lia,rfl,hlt,p'⟩,λx H' y=>?_⟩;obtain ⟨r,x',y',rfl,hr,rfl,e1,e2⟩:=y;exact hs i x' y' σ _ r (e1 xs q1) (e2 ws q2) p hr
 ·have e:i=xs.length:=by lia
  subst e;exact .inl ⟨⟨xs,ws,q1,q2,.inl (au _)⟩,hd σ H p⟩
end
section
variable {X:Cx}
theorem oK (K:FG9) (n:Nat) {es:List Expr} {k:Nat} {pos:Pos} {t:GJ} (h:LM X es t) (hK:X.K=K:=by rfl) (hc:X.calm=true:=by rfl)
  (hn:(assignEach es X.env).length=n:=by rfl) (hst:(assignEach es X.env).findIdx? (·.1)=none:=by rfl):PG X (.Tuple es k pos) (Kq K n t):=by subst hK;exact w5 hc h hn hst
theorem uh (K:FG9) (hK:X.K=K):LQ X (J6 K):=by subst hK;exact bT
theorem ot (K:FG9) (hK:X.K=K):LQ X (J7 K):=by subst hK;exact bK
theorem Ik (K:FG9) (hK:X.K=K) (hu:X.A.units+50 < cLine):vX X (compareOp .NotEq) (Lp K):=by subst hK;exact xh hu
theorem tV (K:FG9) {tg l:Expr} {tl:TE} (hl:PE X l tl) (hK:X.K=K:=by rfl):PI X tg l (FI K tl):=by subst hK;exact cG hl
end
theorem dn {X:Cx} {e e':Expr} {es:List Expr} {te:TE} {t:TA} (h:e=e') (ha:PE X e' te) (hr:PA X es t) (hs:∀l,starEach (e' :: l) X.env=(false,eval e' X.env) :: starEach l X.env:=by intro _;rfl):PA X (e :: es) (lY te t):=by subst h;exact ae ha hr (hs _)
section
variable {σ:St} {H:Hp} {D:Ends} {Q:VK}
theorem lQ {l:Addr} {xs:List V} {y:V} (hl:H l=some (.lst xs)) (hz:xs.length < sizeLine) (h:Q .non (upd H l (.lst (xs++[y])))):C7 (.ref l) [y] H Q:=⟨l,xs,y,rfl,rfl,hl,hz,h⟩
theorem HN {K:FG9} {ta:TA} {R:It->Hp->Prop} (h:ta σ H λvs H1=>∃l1 l2,vs=[.ref l1,.ref l2]/\(∃xs,bI K H1 l1 xs)/\(∃ys,bI K H1 l2 ys)/\R (KC K l1 l2) H1):Kn K ta σ H R:=h
theorem zI {l b:Addr} {xs zs:List V} (h1:H l=some (.lst xs)) (h2:H b=some (.lst zs)) (hz:xs.length+zs.length<=sizeLine) (h:∀p H',aH H H'->H p=none->H' p=some (.lst (xs++zs))->Q (.ref p) H'):Lq (.ref l) (.ref b) H Q :=
 ⟨l,b,xs,zs,rfl,rfl,h1,h2,hz,λp hp=>h p _ (aH.new hp) hp aF⟩
theorem JL {K:FG9} {a:Addr} {xs:List V} {lo hi:Option Int} (h1:bI K H a xs) (h:∀p H',aH H H'->H p=none->H' p=some (.lst (ux xs lo hi))->Q (.ref p) H'):Lo K (.ref a) lo hi H Q :=
 ⟨a,xs,rfl,h1,λp hp=>h p _ (aH.new hp) hp aF⟩
theorem qF {α:Type} {xs:List α} {i:Int} (h0:0<=i) (h1:i < xs.length):∃v,CC xs i=some v/\v∈xs/\xs[i.toNat]?=some v:=by
 have hj:i.toNat < xs.length:=by lia
 refine ⟨xs[i.toNat],?_,aN hj,by simp [hj]⟩;have:=eX (xs:=xs) (j:=i.toNat) (v:=xs[i.toNat]) (by simp [hj]);rwa [Int.toNat_of_nonneg h0] at this
end
theorem dj {α β:Type} {F:α->β->Prop}:∀{l1:List α} {l2:List β} {y:β},Paired F l1 l2->y∈l2->∃x∈l1,F x y
 | _,_,_,.nil,h=>nomatch h
 | _,_,_,.cons r t,h=>by
  rcases aE.mp h with rfl | h
  ·exact ⟨_,cH,r⟩
  ·obtain ⟨x,hx,q⟩:=dj t h;exact ⟨x,bD _ hx,q⟩
theorem b8 {α β:Type} {F:α->β->Prop} {l1:List α} {l2:List β} {i:Nat} {y:β} (h:Paired F l1 l2) (e:l2[i]?=some y):∃x,l1[i]?=some x/\F x y:=by
 have hl:=h.length;have hi:i < l2.length:=(aD.mp e).1;refine ⟨l1[i]'(by lia),by simp,?_⟩;have:=jw h (i:=i) (by lia) hi;have e2:l2[i]=y:=(aD.mp e).2;rwa [e2] at this
def BJ (n:Int×Int):Prop:=0 < n.2/\Int.gcd n.1 n.2=1/\Sz 8000 n.1/\Sz 8000 n.2
theorem take_snoc {α:Type} {l:List α} {i:Nat} {v:α} (h:l[i]?=some v):l.take (i+1)=l.take i++[v]:=by rw[List.take_add_one,h];rfl
theorem aH.after {H H':Hp} {r:Addr} {o:HO} (s:aH H H') (h:H r=Option.none):aH H (upd H' r o):=λb u e=>by rw[aU (d6 e h)];exact s b u e
theorem cB.after {H H':Hp} {b r:Addr} {o:HO} (s:cB b H H') (h:H r=Option.none):cB b H (upd H' r o):=⟨λc u e n=>by rw[aU (d6 e h)];exact s.1 c u e n,λq hi=>(s.2 q hi).upd λz=>by obtain ⟨_,_,_,e⟩:=hi;rw[<- z,h] at e;cases e⟩
theorem cB.same {H H' H'':Hp} {b:Addr} (s:cB b H H') (e:aH H' H''):cB b H H'':=s.trans e.upto
theorem DO {α:Type} {Pr:α->Prop} {l:List α} {a:α} (h:∀n∈l,Pr n) (ha:Pr a):∀n∈l++[a],Pr n:=λn hn=>by
 rcases aI.mp hn with hn | hn
 ·exact h n hn
 ·have e:n=a:=by simpa using hn
  rw[e];exact ha
abbrev xR (h:Heap) (z TI TO:Addr) (f0 f1:Value):Prop:=h.get? z=some { cls:=.type "zip",dict:=none,data:=.fields #[f0,f1,.bool false,.ref TI,.ref TO],slots:=#[] }
section
variable {prog:Program} {w:World} {A:Around} {E:Value->Shared->Prop} {s:Shared}
theorem CD {a:Addr} {o:Obj} {Q:Option Obj->Shared->Prop} (e:s.heap.get? a=some o) (h:Q (some o) s):wpAny (model prog w) A (loadIfAlive a) Q E s:=by
 intro Γ p hp;show Sem.wp _ _ (.loadIfAlive a .pure) _ _ _ _
 simp only[Sem.wp_loadIfAlive,e];exact wpAny_pure h Γ p hp
theorem xg {z TI TO T:Addr} {b1:Bool} {o:Obj} {Q:Bool->Shared->Prop} (zr:xR s.heap z TI TO (rawInt T) (.bool b1)) (al:s.heap.get? T=some o)
  (h:∀h',xR h' z TI TO (rawInt T) (.bool true)->Heap.SameBut z s.heap h'->Q false { s with heap:=h' }):wpAny (model prog w) A (Builtin.SmallTypes.ownedTupleIsFree (.ref z)) Q E s:=by
 unfold Builtin.SmallTypes.ownedTupleIsFree;refine wpAny_bind (wpAny_field zr rfl (x:=rawInt T) rfl ?_);refine wpAny_bind (CD (a:=T) al ?_);refine wpAny_bind (wpAny_field zr rfl (x:=.bool b1) rfl ?_);cases b1 with
 | true=>exact wpAny_pure (h _ zr (.refl ..))
 | false=>exact wpAny_bind (wpAny_setField_rec zr (by simp) λh' zr' sb=>wpAny_pure (h h' zr' sb))
theorem Ei {z TI TO T i1 i2 l1 l2:Addr} {k1 k2:Nat} {us ws:Array Value} {u v:Value} {b1:Bool} {o:Obj} {Q:Value->Shared->Prop} (D:ZipApart z TI TO i1 i2 l1 l2) (zr:xR s.heap z TI TO (rawInt T) (.bool b1)) (al:s.heap.get? T=some o)
  (pt:IsPair s.heap TI (.ref i1) (.ref i2)) (j1:s.heap.IsListIter i1 l1 k1) (j2:s.heap.IsListIter i2 l2 k2) (m1:s.heap.IsList l1 us) (m2:s.heap.IsList l2 ws) (eu:us[k1]?=some u) (ev:ws[k2]?=some v)
  (hQ:∀h',xR h' z TI TO (rawInt T) (.bool true)->h'.IsListIter i1 l1 (k1+1)->h'.IsListIter i2 l2 (k2+1)->IsPair h' s.heap.objs.size u v->(∀c o,c≠z->c≠i1->c≠i2->s.heap.get? c=some o->h'.get? c=some o)->Q (.ref s.heap.objs.size) { s with heap:=h' }) :
  wpAny (model prog w) A (Builtin.«zip.__next__» ⟨[.ref z],[]⟩) (λfin s'=>∃v,fin=.done (.ret v)/\Q v s') E s:=by
 change wpAny _ _ (field (Value.ref z) 2 >>= _) _ _ s
 refine wpAny_bind (wpAny_field zr rfl (x:=.bool false) rfl ?_)
 change wpAny _ _ (field (Value.ref z) 3 >>= _) _ _ s
 refine wpAny_bind (wpAny_field zr rfl (x:=.ref TI) rfl (wpAny_bind (wpAny_seqItems pt rfl ?_)))
 change wpAny _ _ (Builtin.SmallTypes.ownedTupleIsFree (Value.ref z) >>= _) _ _ s
 refine wpAny_bind (xg zr al λg1 zr1 sb1=>?_);simp only[ie,if_false];refine wpAny_bind ?_;rw[<- Array.forIn_toList];simp only[GQ,zi];have j1':=j1.extBut sb1.extBut D.i1z;have m1':=m1.extBut sb1.extBut D.l1z;refine wpAny_bind (wpAny_bind (wpAny_holding ?_))
 change wpAny _ _ (Builtin.SmallTypes.nextOf (Value.ref i1) >>= _) _ _ _
 refine wpAny_bind (wpAny_nextOf_list_item j1' m1' eu λg2 j1a sb2=>wpAny_pure ?_);refine wpAny_pure ?_;have j2':=(j2.extBut sb1.extBut D.i2z).extBut sb2.extBut D.i12.symm;have m2':=(m2.extBut sb1.extBut D.l2z).extBut sb2.extBut D.l2i1;refine wpAny_bind (wpAny_bind (wpAny_holding ?_))
 change wpAny _ _ (Builtin.SmallTypes.nextOf (Value.ref i2) >>= _) _ _ _
 refine wpAny_bind (wpAny_nextOf_list_item j2' m2' ev λg3 j2a sb3=>wpAny_pure ?_);refine wpAny_pure (wpAny_pure ?_);refine wpAny_bind (wpAny_newTuple (hsz:=iU rfl) ?_);have sz:g3.objs.size=s.heap.objs.size:=by rw[sb3.1,sb2.1,sb1.1]
 have up:∀c o,c≠z->c≠i1->c≠i2->s.heap.get? c=some o->g3.get? c=some o:=λc o c1 c2 c3 e=>sb3.extBut _ _ c3 (sb2.extBut _ _ c2 (sb1.extBut _ _ c1 e))
 have zr3:xR g3 z TI TO (rawInt T) (.bool true):=sb3.extBut _ _ D.i2z.symm (sb2.extBut _ _ D.i1z.symm zr1);refine wpAny_pure ⟨_,rfl,?_⟩
 change Q (.ref g3.objs.size) { s with heap:=g3.push { cls:=.type "tuple",data:=.seq #[u,v] } }
 have last:=hQ (g3.push { cls:=.type "tuple",data:=.seq #[u,v] }) (Heap.get?_push_of_some _ zr3) ((j1a.extBut sb3.extBut D.i12).at λo e=>Heap.get?_push_of_some _ e) (j2a.at λo e=>Heap.get?_push_of_some _ e)
  (by rw[<- sz];exact Heap.get?_push_size _ rfl) λc o c1 c2 c3 e=>Heap.get?_push_of_some _ (up c o c1 c2 c3 e)
 rw[sz];exact last
theorem Fy {z TI TO T i1 i2 l1 l2:Addr} {k1:Nat} {us:Array Value} {b1:Bool} {o:Obj} {Q:PySem.Fin->Shared->Prop} (hh:A.handled=none) (D:ZipApart z TI TO i1 i2 l1 l2) (zr:xR s.heap z TI TO (rawInt T) (.bool b1)) (al:s.heap.get? T=some o)
  (pt:IsPair s.heap TI (.ref i1) (.ref i2)) (j1:s.heap.IsListIter i1 l1 k1) (m1:s.heap.IsList l1 us) (eu:us[k1]?=none)
  (hE:∀h' e,(∀c o,c≠z->c≠i1->c≠i2->s.heap.get? c=some o->h'.get? c=some o)->(∃o,h'.get? e=some o/\o.cls=.type "StopIteration")->E (.ref e) { s with heap:=h' }) :
  wpAny (model prog w) A (Builtin.«zip.__next__» ⟨[.ref z],[]⟩) Q E s:=by
 change wpAny _ _ (field (Value.ref z) 2 >>= _) _ _ s
 refine wpAny_bind (wpAny_field zr rfl (x:=.bool false) rfl ?_)
 change wpAny _ _ (field (Value.ref z) 3 >>= _) _ _ s
 refine wpAny_bind (wpAny_field zr rfl (x:=.ref TI) rfl (wpAny_bind (wpAny_seqItems pt rfl ?_)))
 change wpAny _ _ (Builtin.SmallTypes.ownedTupleIsFree (Value.ref z) >>= _) _ _ s
 refine wpAny_bind (xg zr al λg1 zr1 sb1=>?_);simp only[ie,if_false];refine wpAny_bind ?_;rw[<- Array.forIn_toList];simp only[GQ,zi];refine wpAny_bind (wpAny_bind (wpAny_holding ?_))
 change wpAny _ _ (Builtin.SmallTypes.nextOf (Value.ref i1) >>= _) _ _ _
 exact wpAny_bind (wpAny_nextOf_list_end hh (j1.extBut sb1.extBut D.i1z) (m1.extBut sb1.extBut D.l1z) eu λg2 e xb he=>hE g2 e (λc o c1 c2 _ q=>xb _ _ c2 (sb1.extBut _ _ c1 q)) he)
theorem Ef {z TI TO T i1 i2 l1 l2:Addr} {k1 k2:Nat} {us ws:Array Value} {u v:Value} {b1:Bool} {o:Obj} {Q:Option Value->Shared->Prop} (D:ZipApart z TI TO i1 i2 l1 l2) (zr:xR s.heap z TI TO (rawInt T) (.bool b1)) (al:s.heap.get? T=some o)
  (pt:IsPair s.heap TI (.ref i1) (.ref i2)) (j1:s.heap.IsListIter i1 l1 k1) (j2:s.heap.IsListIter i2 l2 k2) (m1:s.heap.IsList l1 us) (m2:s.heap.IsList l2 ws) (eu:us[k1]?=some u) (ev:ws[k2]?=some v)
  (hQ:∀h',xR h' z TI TO (rawInt T) (.bool true)->h'.IsListIter i1 l1 (k1+1)->h'.IsListIter i2 l2 (k2+1)->IsPair h' s.heap.objs.size u v->(∀c o,c≠z->c≠i1->c≠i2->s.heap.get? c=some o->h'.get? c=some o)->Q (some (.ref s.heap.objs.size)) { s with heap:=h' }) :
  wpAny (model prog w) A (pyNext (.ref z)) Q E s:=by
 have ty:s.TypeIs (.ref z) "zip":=⟨_,zr,rfl⟩;unfold pyNext;refine wpAny_bind (wpAny_attempt (wpAny_callSpecial?_slot (name:=Str.ofString "__next__") ty oC (wpAny_call_entry oC ty PySem.F.entry_zip_next ?_ (LU _))));exact Ei D zr al pt j1 j2 m1 m2 eu ev λh' a1 a2 a3 a4 a5=>wpAny_pure (hQ h' a1 a2 a3 a4 a5)
theorem Ee {z TI TO T i1 i2 l1 l2:Addr} {k1:Nat} {us:Array Value} {b1:Bool} {o:Obj} {Q:Option Value->Shared->Prop} (hh:A.handled=none) (D:ZipApart z TI TO i1 i2 l1 l2) (zr:xR s.heap z TI TO (rawInt T) (.bool b1)) (al:s.heap.get? T=some o)
  (pt:IsPair s.heap TI (.ref i1) (.ref i2)) (j1:s.heap.IsListIter i1 l1 k1) (m1:s.heap.IsList l1 us) (eu:us[k1]?=none)
  (hQ:∀h',(∀c o,c≠z->c≠i1->c≠i2->s.heap.get? c=some o->h'.get? c=some o)->Q none { s with heap:=h' }):wpAny (model prog w) A (pyNext (.ref z)) Q E s:=by
 have ty:s.TypeIs (.ref z) "zip":=⟨_,zr,rfl⟩;unfold pyNext;refine wpAny_bind (wpAny_attempt (wpAny_callSpecial?_slot (name:=Str.ofString "__next__") ty oC (wpAny_call_entry oC ty PySem.F.entry_zip_next ?_ (LU _))));refine Fy hh D zr al pt j1 m1 eu λh' e kk ⟨oe,he,hc⟩=>?_
 exact wpAny_bind (wpAny_isInstance (T:="StopIteration") (b:=true) ⟨oe,he,hc⟩ isSubtype_stop (wpAny_pure (hQ _ kk)))
end
section
variable {X:Cx} {pins:List (Addr×Obj)} {σ:St} {H:Hp} {s:Shared}
theorem Inv.moved {h':Heap} {ch:List Addr} {g':Array GenState} {d':Drawn} {t':Nat} (I:Inv X pins σ H s) (fx:∀b∈ch,jA X pins H b) (up:∀b o,b∉ch->s.heap.get? b=some o->h'.get? b=some o) (hg:AllBare g') :
  Inv X pins σ H { s with heap:=h',gens:=g',drawn:=d',toks:=t' }:=by
 have nx:∀b o,H b=some o->b∉ch:=λb o e hb=>by have:=(fx b hb).1;rw[this] at e;cases e
 refine I.step (ch:=ch) (λb hb=>?_) (λb o _ _ hb e _=>up b o hb e) (λb o _ _ hb e _=>⟨o.slots,up b o hb e⟩) (λb o hb e n=>n) (λb o hb e=>⟨o,up b o hb e⟩) (λb q e=>e) (λb o q e=>e) (λb q e=>⟨#[],by rw[e];simp⟩) (λm hm=>?_) (λb o e=>?_) hg
 ·obtain ⟨_,f1,_,f3,f4,f5⟩:=fx b hb;exact ⟨f3,f1,f4,f5⟩
 ·obtain ⟨o,es,ep,ho,r⟩:=hm;exact ⟨o,es,ep,up _ o (λz=>(fx _ z).2.1 rfl) ho,r⟩
 ·refine (I.hok b o e).stay (λc v' hc q=>up c v' ?_ q) (λc q=>q) λc xs q=>q
  rcases hc with rfl | hc
  ·exact nx _ _ e
  ·exact nx _ _ hc
theorem Inv.track {p:Addr} {o:HO} (I:Inv X pins σ H s) (fp:jA X pins H p) (new:iK X.prog X.w (upd H p o) s.heap p o):Inv X pins σ (upd H p o) s:=by
 have nt:∀{b:Addr} {u:HO},H b=some u->b≠p:=λe z=>by rw[z,fp.1] at e;cases e
 refine I.step (h':=s.heap) (g':=s.gens) (d':=s.drawn) (t':=s.toks) (ch:=[p]) (λb hb=>?_) (λb o _ _ _ e _=>e) (λb o _ _ _ e _=>⟨o.slots,e⟩) (λb o hb e n=>?_) (λb o _ e=>⟨o,e⟩) (λb q e=>by rw[aU (nt e)];exact e) (λb o q e=>by rw[aU (nt e)];exact e)
  (λb q e=>⟨#[],by rw[aU (nt e),e];simp⟩) (λm hm=>hm) (λb u e=>?_) I.bare
 ·have e:b=p:=by simpa using hb
  subst e;obtain ⟨_,f1,_,f3,f4,f5⟩:=fp;exact ⟨f3,f1,f4,f5⟩
 ·rw[aU λz=>hb (by simp [z])];exact n
 ·by_cases hb:b=p
  ·subst hb;rw[aF] at e;cases e;exact new
  ·rw[aU hb] at e;exact (I.hok b u e).stay (λc v _ q=>q) (λc q=>by rw[aU (nt q)];exact q) λc xs q=>by rw[aU (nt q)];exact q
end
def Js (H:Hp) (p:V×V) (x:V):Prop:=∃T,x=.ref T/\H T=some (.tup [p.1,p.2])
theorem Js.same {H H':Hp} {p:V×V} {x:V} (h:Js H p x) (e:aH H H'):Js H' p x:=by obtain ⟨T,q,g⟩:=h;exact ⟨T,q,e _ _ g⟩
def Zst (h:Heap) (z TI TO:Addr) (base:Nat):Prop:=(∃a b,IsPair h TO a b)/\(IsZip h z TI TO .none\/∃(T:Addr) (b1:Bool) (o:Obj),xR h z TI TO (rawInt T) (.bool b1)/\h.get? T=some o/\@LE.le Nat instLENat base T)
theorem zj {h:Heap} {z TI TO i1 i2 l1 l2:Addr} {f0 f1 a b:Value} {k1 k2:Nat} {xs ys:Array Value} (hz:xR h z TI TO f0 f1) (hTI:IsPair h TI (.ref i1) (.ref i2)) (hTO:IsPair h TO a b) (h1:h.IsListIter i1 l1 k1) (h2:h.IsListIter i2 l2 k2) (hl1:h.IsList l1 xs) (hl2:h.IsList l2 ys) (hT:TI≠TO) (hi:i1≠i2):ZipApart z TI TO i1 i2 l1 l2:=by
 obtain ⟨o1,g1,c1,_⟩:=h1;obtain ⟨o2,g2,c2,_⟩:=h2;obtain ⟨p1,q1,d1,_⟩:=hl1;obtain ⟨p2,q2,d2,_⟩:=hl2;have zt:Value.type "zip"≠.type "tuple":=lW (by decide);have it:Value.type "list_iterator"≠.type "tuple":=lW (by decide);have iz:Value.type "list_iterator"≠.type "zip":=lW (by decide);have lz:Value.type "list"≠.type "zip":=lW (by decide);have lt:Value.type "list"≠.type "tuple":=lW (by decide);have li:Value.type "list"≠.type "list_iterator":=lW (by decide)
 exact ⟨cE hTI hz zt.symm,cE hTO hz zt.symm,cE g1 hz (by rw[c1];exact iz),cE g2 hz (by rw[c2];exact iz),hT,cE hTI g1 (by rw[c1];exact it.symm),cE hTI g2 (by rw[c2];exact it.symm),cE hTO g1 (by rw[c1];exact it.symm),cE hTO g2 (by rw[c2];exact it.symm),hi,
  cE q1 hz (by rw[d1];exact lz),cE q1 hTO (by rw[d1];exact lt),cE q1 g1 (by rw[d1,c1];exact li),cE q1 g2 (by rw[d1,c2];exact li),cE q2 hz (by rw[d2];exact lz),cE q2 hTO (by rw[d2];exact lt),cE q2 g1 (by rw[d2,c1];exact li),cE q2 g2 (by rw[d2,c2];exact li)⟩
section
variable {X:Cx} {pins:List (Addr×Obj)} {σ:St}
theorem jA.heap {H H':Hp} {b:Addr} (f:jA X pins H b) (e:H' b=none):jA X pins H' b:=⟨e,f.2⟩
structure Aj where
 z:Addr
 TI:Addr
 TO:Addr
 i1:Addr
 i2:Addr
 S:Addr
 base:Nat
def Aj.all (a:Aj):List Addr:=[a.z,a.TI,a.TO,a.i1,a.i2,a.S]
structure Aj.Ok (a:Aj):Prop where
 tt:a.TI≠a.TO
 ii:a.i1≠a.i2
 Sz:a.S≠a.z
 STI:a.S≠a.TI
 STO:a.S≠a.TO
 Si1:a.S≠a.i1
 Si2:a.S≠a.i2
 lt:∀b∈a.all,@LT.lt Nat instLTNat b a.base
structure IS (X:Cx) (pins:List (Addr×Obj)) (σ:St) (H1:Hp) (a:Aj) (l1 l2:Addr) (i:Nat) (H:Hp) (s:Shared):Prop where
 inv:Inv X pins σ H s
 same:aH H1 H
 fps:∀b∈a.all,jA X pins H b
 sz:a.base<=s.heap.objs.size
 zst:Zst s.heap a.z a.TI a.TO a.base
 pt:IsPair s.heap a.TI (.ref a.i1) (.ref a.i2)
 j1:s.heap.IsListIter a.i1 l1 i
 j2:s.heap.IsListIter a.i2 l2 i
variable {a:Aj} {l1 l2:Addr} {H1 H:Hp} {s:Shared} {i:Nat} {xs ys:List V}
theorem IS.push {h':Heap} (L:IS X pins σ H1 a l1 l2 i H s) (O:a.Ok) (k:∀b o,b≠a.S->s.heap.get? b=some o->h'.get? b=some o) (hz:h'.objs.size=s.heap.objs.size):IS X pins σ H1 a l1 l2 i H { s with heap:=h' }:=by
 refine ⟨L.inv.moved (g':=s.gens) (d':=s.drawn) (t':=s.toks) (ch:=[a.S]) (λb hb=>?_) (λb o hb e=>k b o (λz=>hb (by simp [z])) e) L.inv.bare,L.same,L.fps,by show a.base<=h'.objs.size;rw[hz];exact L.sz,?_,k _ _ O.STI.symm L.pt,L.j1.at λo e=>k _ o O.Si1.symm e,L.j2.at λo e=>k _ o O.Si2.symm e⟩
 ·have e:b=a.S:=by simpa using hb
  rw[e];exact L.fps _ (by simp [Aj.all])
 ·obtain ⟨⟨c,d,z0⟩,z4⟩:=L.zst;refine ⟨⟨c,d,k _ _ O.STO.symm z0⟩,?_⟩;rcases z4 with z1 | ⟨T,b1,o,z1,z2,z3⟩
  ·exact .inl (k _ _ O.Sz.symm z1)
  ·refine .inr ⟨T,b1,o,k _ _ O.Sz.symm z1,k _ _ (λe=>?_) z2,z3⟩;have:=O.lt a.S (by simp [Aj.all]);rw[<- e] at this;exact absurd this (Nat.not_lt.mpr z3)
theorem EG {A':Around} {E:Value->Shared->Prop} {Q:Option Value->Shared->Prop} (O:a.Ok) (q1:bI X.K H1 l1 xs) (q2:bI X.K H1 l2 ys) {x y:V} (ex:xs[i]?=some x) (ey:ys[i]?=some y) (L:IS X pins σ H1 a l1 l2 i H s)
  (hQ:∀s',IS X pins σ H1 a l1 l2 (i+1) (upd H s.heap.objs.size (.tup [x,y])) s'->(∀c o,c∉[a.z,a.TO,a.i1,a.i2]->s.heap.get? c=some o->s'.heap.get? c=some o)->H s.heap.objs.size=none->Q (some (.ref s.heap.objs.size)) s'):wpAny (model X.prog X.w) A' (pyNext (.ref a.z)) Q E s:=by
 obtain ⟨I,sm,fps,sz,zst,pt,j1,j2⟩:=id L;obtain ⟨us,ru,pu,_⟩:=I.list (sm.seq q1);obtain ⟨ws,rw',pw,_⟩:=I.list (sm.seq q2);obtain ⟨u,eu,r1⟩:=ru.get ex;obtain ⟨v,ev,r2⟩:=rw'.get ey;have fx:∀b∈[a.z,a.TO,a.i1,a.i2],jA X pins H b:=λb hb=>fps b (by simp only[Aj.all,aE,aS,or_false] at hb ⊢;rcases hb with e | e | e | e <;> simp [e])
 have hT0:H s.heap.objs.size=none:=I.hok.fresh (au _);have fT:jA X pins H s.heap.objs.size:=I.fpOk (au _) hT0;have lt:∀b∈a.all,b≠s.heap.objs.size:=λb hb e=>by have:=O.lt b hb;rw[e] at this;exact absurd this (Nat.not_lt.mpr sz)
 have fin:∀h',(∀c o,c∉[a.z,a.TO,a.i1,a.i2]->s.heap.get? c=some o->h'.get? c=some o)->IsPair h' s.heap.objs.size u v->IsPair h' a.TI (.ref a.i1) (.ref a.i2)->h'.IsListIter a.i1 l1 (i+1)->h'.IsListIter a.i2 l2 (i+1)->Zst h' a.z a.TI a.TO a.base →
   Q (some (.ref s.heap.objs.size)) { s with heap:=h' }:=λh' up pr pt' j1' j2' zst'=>by
  have I2:Inv X pins σ H { s with heap:=h' }:=I.moved (g':=s.gens) (d':=s.drawn) (t':=s.toks) fx up I.bare;have I3:Inv X pins σ (upd H s.heap.objs.size (.tup [x,y])) { s with heap:=h' }:=I2.track fT ⟨iU rfl,[u,v],.cons r1 (.cons r2 .nil),⟨_,pr,rfl,_,rfl⟩⟩;refine hQ _ ⟨I3,sm.trans (aH.new hT0),λb hb=>(fps b hb).heap (by rw[aU (lt b hb)];exact (fps b hb).1),?_,zst',pt',j1',j2'⟩ up hT0;exact ai sz (bh (Heap.lt_size pr))
 obtain ⟨⟨c,d,z0⟩,z4⟩:=zst;rcases z4 with z1 | ⟨T,b1,o,z1,z2,z3⟩
 ·have D:=zj z1 pt z0 j1 j2 pu.isList pw.isList O.tt O.ii;refine wpAny_pyNext_zip_item D z1 pt z0 j1 j2 pu.isList pw.isList (x:=u) (y:=v) (by simpa using eu) (by simpa using ev) λh' a1 a2 a3 a4 a5 a6 hk=>?_
  have up:∀c o,c∉[a.z,a.TO,a.i1,a.i2]->s.heap.get? c=some o->h'.get? c=some o:=λc o hc e=>by
   simp only[aE,aS,or_false,not_or] at hc;exact hk c o hc.1 hc.2.1 hc.2.2.1 hc.2.2.2 e
  exact fin h' up a5 (hk _ _ D.TIz D.TITO D.TIi1 D.TIi2 pt) a3 a4 ⟨⟨_,_,a2⟩,.inr ⟨s.heap.objs.size,false,_,a1,a5,sz⟩⟩
 ·have D:=zj z1 pt z0 j1 j2 pu.isList pw.isList O.tt O.ii;refine Ef D z1 z2 pt j1 j2 pu.isList pw.isList (u:=u) (v:=v) (by simpa using eu) (by simpa using ev) λh' a1 a3 a4 a5 hk=>?_
  have up:∀c o,c∉[a.z,a.TO,a.i1,a.i2]->s.heap.get? c=some o->h'.get? c=some o:=λc o hc e=>by
   simp only[aE,aS,or_false,not_or] at hc;exact hk c o hc.1 hc.2.2.1 hc.2.2.2 e
  have Tn:∀b∈a.all,T≠b:=λb hb e=>by have:=O.lt b hb;rw[<- e] at this;exact absurd this (Nat.not_lt.mpr z3)
  exact fin h' up a5 (hk _ _ D.TIz D.TIi1 D.TIi2 pt) a3 a4 ⟨⟨_,_,hk _ _ D.TOz D.TOi1 D.TOi2 z0⟩,.inr ⟨T,true,o,a1,hk _ _ (Tn _ (by simp [Aj.all])) (Tn _ (by simp [Aj.all])) (Tn _ (by simp [Aj.all])) z2,z3⟩⟩
theorem EF {A':Around} {E:Value->Shared->Prop} {Q:Option Value->Shared->Prop} (hh:A'.handled=none) (O:a.Ok) (q1:bI X.K H1 l1 xs) (q2:bI X.K H1 l2 ys) (hi:xs.length<=i) (L:IS X pins σ H1 a l1 l2 i H s)
  (hQ:∀s',Inv X pins σ H s'->(∀c o,c∉[a.z,a.TO,a.i1,a.i2]->s.heap.get? c=some o->s'.heap.get? c=some o)->Q none s'):wpAny (model X.prog X.w) A' (pyNext (.ref a.z)) Q E s:=by
 obtain ⟨I,sm,fps,sz,zst,pt,j1,j2⟩:=id L;obtain ⟨us,ru,pu,_⟩:=I.list (sm.seq q1);obtain ⟨ws,rw',pw,_⟩:=I.list (sm.seq q2);have lx:=ru.length;have none1:us.toArray[i]?=none:=by simp;lia
 have fx:∀b∈[a.z,a.TO,a.i1,a.i2],jA X pins H b:=λb hb=>fps b (by simp only[Aj.all,aE,aS,or_false] at hb ⊢;rcases hb with e | e | e | e <;> simp [e])
 have fin:∀h',(∀c o,c∉[a.z,a.TO,a.i1,a.i2]->s.heap.get? c=some o->h'.get? c=some o)->Q none { s with heap:=h' }:=λh' up=>hQ _ (I.moved (g':=s.gens) (d':=s.drawn) (t':=s.toks) fx up I.bare) up
 obtain ⟨⟨c,d,z0⟩,z4⟩:=zst;rcases z4 with z1 | ⟨T,b1,o,z1,z2,z3⟩
 ·have D:=zj z1 pt z0 j1 j2 pu.isList pw.isList O.tt O.ii;refine wpAny_pyNext_zip_end hh D z1 pt z0 j1 j2 pu.isList pw.isList (.inl none1) λh' hk=>fin h' λc o hc e=>?_
  simp only[aE,aS,or_false,not_or] at hc;exact hk c o hc.1 hc.2.1 hc.2.2.1 hc.2.2.2 e
 ·have D:=zj z1 pt z0 j1 j2 pu.isList pw.isList O.tt O.ii;refine Ee hh D z1 z2 pt j1 pu.isList none1 λh' hk=>fin h' λc o hc e=>?_
  simp only[aE,aS,or_false,not_or] at hc;exact hk c o hc.1 hc.2.2.1 hc.2.2.2 e
theorem EI {A':Around} {R:Result->Shared->Prop} (hh:A'.handled=none) (O:a.Ok) (hz:xs.length<=sizeLine) (hl:ys.length=xs.length) (q1:bI X.K H1 l1 xs) (q2:bI X.K H1 l2 ys)
  (fin:∀s' H' ts acc c,Inv X pins σ H' s'->aH H1 H'->jA X pins H' a.S->s'.heap.get? a.S=some (lobj acc c)->cp ts acc->Paired (Js H') (xs.zip ys) ts->R (.ok (.ret .none)) s') :
  ∀(k i:Nat) (s:Shared) (H:Hp) (ts:List V) (acc:List Value) (c:Nat),xs.length - i=k->i<=xs.length->IS X pins σ H1 a l1 l2 i H s->s.heap.get? a.S=some (lobj acc c)->cp ts acc->Paired (Js H) ((xs.zip ys).take i) ts →
   codeAny (model X.prog X.w) A' (.builtin "list.extend.loop" ⟨[.ref a.S,.ref a.z,.none],[]⟩) R s:=by
 have Sn:a.S∉[a.z,a.TO,a.i1,a.i2]:=λh=>by
  simp only[aE,aS,or_false] at h;rcases h with e | e | e | e
  ·exact O.Sz e
  ·exact O.STO e
  ·exact O.Si1 e
  ·exact O.Si2 e
 intro k
 induction k with
 | zero =>
  intro i s H ts acc c hk hi L gS rv prs;have e:i=xs.length:=by lia
  refine codeAny_builtin KG ?_;rw[Around.under_plainId kl _]
  change wpAny _ A'.in1 (pyNext (Value.ref a.z) >>= _) _ _ s
  refine wpAny_bind (EF hh O q1 q2 (by lia) L λs' I' up=>wpAny_pure (fin s' H ts acc c I' L.same (L.fps _ (by simp [Aj.all])) (up _ _ Sn gS) rv ?_));rwa [aB (by rw[xX];lia)] at prs
 | succ k ih =>
  intro i s H ts acc c hk hi L gS rv prs;have hlt:i < xs.length:=by lia
  have lt:=prs.length;have la:=rv.length;refine codeAny_builtin KG ?_;rw[Around.under_plainId kl _]
  change wpAny _ A'.in1 (pyNext (Value.ref a.z) >>= _) _ _ s
  refine wpAny_bind (EG O q1 q2 (x:=xs[i]) (y:=ys[i]'(by lia)) (by simp [hlt]) (by simp) L λs' L' up hT=>?_);have gS':=up _ _ Sn gS
  change wpAny _ A'.in1 (updateSeq a.S (·.push (Value.ref s.heap.objs.size)) >>= _) _ _ s'
  have small:acc.length<=sizeLine:=by
   rw[cO,xX] at lt
   lia
  refine wpAny_bind (wpAny_updateSeq gS' rfl (wpAny_pure ⟨plainId_quiet kl _,?_⟩) (by rw[aJ];exact small) (by
   show (acc.toArray.push (Value.ref s.heap.objs.size)).size<=sizeLine+1
   rw[Array.size_push,aJ]
   lia))
  have gS2:=j3 gS' (λb=>b.push (Value.ref s.heap.objs.size));have e2:(acc.toArray.push (Value.ref s.heap.objs.size))=(acc++[Value.ref s.heap.objs.size]).toArray:=by simp
  rw[e2] at gS2;refine ih (i+1) _ (upd H s.heap.objs.size (.tup [xs[i],ys[i]'(by lia)])) (ts++[.ref s.heap.objs.size]) (acc++[.ref s.heap.objs.size]) _ (by lia) hlt (L'.push O (λb o hb e=>(Heap.get?_update_other _ _ (Ne.symm hb)).trans e) (Heap.size_update ..)) gS2 (rv.append (show cp [V.ref s.heap.objs.size] [Value.ref s.heap.objs.size] from .cons rfl .nil)) ?_;have zp:(xs.zip ys)[i]?=some (xs[i],ys[i]'(by lia)):=by simp [KH,hlt]
  rw[take_snoc zp];exact (Paired.imp' (λ_ _ z=>z.same (aH.new hT)) prs).snoc ⟨_,rfl,aF⟩
theorem BQ:typeLookup (.type "zip") "__len__"=pure Option.none:=by rw[typeLookup_type,builtinLookup_eq_fast];kernel_rfl
theorem As:typeLookup (.type "zip") "__length_hint__"=pure Option.none:=by rw[typeLookup_type,builtinLookup_eq_fast];kernel_rfl
theorem EH {A' : Around} {R : Result → Shared → Prop} (hh : A'.handled = none) (O : a.Ok) (hz : xs.length ≤ sizeLine) (hl : ys.length = xs.length) (q1 : bI X.K H1 l1 xs) (q2 : bI X.K H1 l2 ys) (L : IS X pins σ H1 a l1 l2 0 H s) (gS : s.heap.get? a.S = some (lobj [] 0)) (z0 : IsZip s.heap a.z a.TI a.TO .none)
    (fin : ∀ s' H' ts acc c, Inv X pins σ H' s' → aH H1 H' → jA X pins H' a.S → s'.heap.get? a.S = some (lobj acc c) → cp ts acc → Paired (Js H') (xs.zip ys) ts → R (.ok (.ret .none)) s') :
    wpAny (model X.prog X.w) A'.in1 (Builtin.«list.__init__» ⟨[.ref a.S, .ref a.z], []⟩) (λfl s' => match fl with | .done f => R (.ok f) s' | .again c' => c'.quiet = true /\ codeAny (model X.prog X.w) A' c' R s') (λe s' => R (.error e) s') s := by
  change wpAny _ A'.in1 (do let old <- Builtin.List.listItems (Value.ref a.S); Builtin.List.listUpdate (Value.ref a.S) (λ_ => #[]); letGo old.toList.reverse; Builtin.List.listExtendWith (Value.ref a.S) (Value.ref a.z) Value.none) _ _ s
  refine wpAny_bind ?_;unfold Builtin.List.listItems;refine wpAny_bind (wpAny_seqItems gS rfl (wpAny_pure ?_))
  change wpAny _ A'.in1 (updateSeq a.S (λ_ => #[]) >>= λ_ => letGo (#[] : Array Value).toList.reverse >>= λ_ => Builtin.List.listExtendWith (Value.ref a.S) (Value.ref a.z) Value.none) _ _ s
  refine wpAny_bind (wpAny_updateSeq gS rfl ?_);have g1 := j3 gS (λ_ => (#[] : Array Value));obtain ⟨n1, g1⟩ : ∃ n1, (s.heap.update a.S (Obj.mapSeq λ_ => (#[] : Array Value))).get? a.S = some (lobj [] n1) := ⟨_, g1⟩;have L1 := L.push (h' := s.heap.update a.S (Obj.mapSeq λ_ => (#[] : Array Value))) O (λb o hb e => (Heap.get?_update_other _ _ (Ne.symm hb)).trans e) (Heap.size_update ..);have z1 : IsZip (s.heap.update a.S (Obj.mapSeq λ_ => (#[] : Array Value))) a.z a.TI a.TO .none := (Heap.get?_update_other _ _ O.Sz).trans z0;refine wpAny_bind (wpAny_letGo ?_);unfold Builtin.List.listExtendWith;have ty : Shared.TypeIs { s with heap := s.heap.update a.S (Obj.mapSeq λ_ => (#[] : Array Value)) } (.ref a.z) "zip" := ⟨_, z1, rfl⟩;refine wpAny_bind (wpAny_typeOf ty ?_);have h1 : Builtin.List.listSameRef (.ref a.S) (.ref a.z) = false := by simp [Builtin.List.listSameRef, O.Sz]
  have h2 : (Value.type "zip" == Value.type "list") = false := by decide
  have h3 : (Value.type "zip" == Value.type "tuple") = false := by decide
  simp only [h1, h2, h3, Bool.or_false, ie, if_false];refine wpAny_bind (wpAny_pyIter_zip z1 (wpAny_bind (wpAny_holding ?_)));unfold Builtin.List.listLengthHint;refine wpAny_bind (wpAny_specialOf ty BQ ?_)
  change wpAny _ A'.in1 (specialOf (Value.ref a.z) (Str.ofString "__length_hint__") >>= _) _ _ _
  refine wpAny_bind (wpAny_specialOf ty As (wpAny_pure ?_))
  change wpAny _ A'.in1 (rule "list.extend.makes-room" >>= λ_ => Builtin.List.listTouch (Value.ref a.S) >>= λ_ => again (.builtin "list.extend.loop" ⟨[Value.ref a.S, Value.ref a.z, Value.none], []⟩)) _ _ _
  refine wpAny_bind (wpAny_rule (wpAny_bind ?_))
  change wpAny _ A'.in1 (updateSeq a.S (·.push Value.none) >>= λ_ => updateSeq a.S (·.pop)) _ _ _
  refine wpAny_bind (wpAny_updateSeq g1 rfl ?_);have g2 := j3 g1 (λb => b.push Value.none);obtain ⟨n2, g2⟩ : ∃ n2, ((s.heap.update a.S (Obj.mapSeq λ_ => (#[] : Array Value))).update a.S (Obj.mapSeq λb => b.push Value.none)).get? a.S = some (lobj [Value.none] n2) := ⟨_, g2⟩;have L2 := L1.push (h' := (s.heap.update a.S (Obj.mapSeq λ_ => (#[] : Array Value))).update a.S (Obj.mapSeq λb => b.push Value.none)) O (λb o hb e => (Heap.get?_update_other _ _ (Ne.symm hb)).trans e) (Heap.size_update ..);refine wpAny_updateSeq g2 rfl ?_ (iU rfl);have g3 := j3 g2 (λb => b.pop);have L3 := L2.push (h' := ((s.heap.update a.S (Obj.mapSeq λ_ => (#[] : Array Value))).update a.S (Obj.mapSeq λb => b.push Value.none)).update a.S (Obj.mapSeq λb => b.pop)) O (λb o hb e => (Heap.get?_update_other _ _ (Ne.symm hb)).trans e) (Heap.size_update ..);exact wpAny_pure ⟨plainId_quiet kl _, EI hh O hz hl q1 q2 fin _ 0 _ H [] [] _ rfl (bo _) L3 g3 .nil .nil⟩
end
section
variable {X:Cx}
theorem Jx (n:Nat):Aj.Ok ⟨n+4,n+2,n+3,n,n+1,n+5,n+5+1⟩:=by
 have ne:∀p q:Nat,p≠q->@Ne Addr p q:=λ_ _ h=>h
 refine ⟨ne (n+2) (n+3) (by lia),ne n (n+1) (by lia),ne (n+5) (n+4) (by lia),ne (n+5) (n+2) (by lia),ne (n+5) (n+3) (by lia),ne (n+5) n (by lia),ne (n+5) (n+1) (by lia),λb hb=>?_⟩;have hb':b∈[n+4,n+2,n+3,n,n+1,n+5]:=hb;show @LT.lt Nat instLTNat b (n+5+1)
 simp only[aE,aS,or_false] at hb';rcases hb' with e | e | e | e | e | e <;> (rw[e];exact aZ (dD _) (by lia))
def Aw (K:FG9) (ta:TA):TE:=λσ H Q=>ta σ H λvs H1=>∃(l1 l2:Addr) (xs ys:List V),vs=[.ref l1,.ref l2]/\bI K H1 l1 xs/\bI K H1 l2 ys/\ys.length=xs.length /\
 ∀L ts H',aH H1 H'->H1 L=none->H' L=some (.lst ts)->Paired (Js H') (xs.zip ys) ts->Q (.ref L) H'
theorem Ce {e1 e2:Expr} {ta:TA} {p p2 pos pos2:Pos} (hg:Gl X "list") (hm:X.mg "list"=none) (hg2:Gl X "zip") (hm2:X.mg "zip"=none) (ha:PA X [e1,e2] ta) (hc:X.calm=true:=by rfl)
  (hs:starEach [e1,e2] X.env=[(false,eval e1 X.env),(false,eval e2 X.env)]:=by rfl) (hs2:starEach [e2] X.env=[(false,eval e2 X.env)]:=by rfl)
  (hs3:starEach [Expr.Call (.Name "zip" p2) [e1,e2] [] pos2] X.env=[(false,eval (.Call (.Name "zip" p2) [e1,e2] [] pos2) X.env)]:=by rfl) :
  PE X (.Call (.Name "list" p) [.Call (.Name "zip" p2) [e1,e2] [] pos2] [] pos) (Aw X.K ta):=by
 intro pins s σ H Q I h;refine wpAny_Call_Name_kw (kr I hg hm boot_list ?_);refine PyProof.Rows.callWith_type1 ?_ (by rw[hs3];rfl) rfl;rw[hs3];show wpAny _ _ (spliced ((false,eval (.Call (.Name "zip" p2) [e1,e2] [] pos2) X.env) :: [])) _ _ s
 refine Calls.spliced_cons ?_;refine Call_ (kr I hg2 hm2 boot_zip (PyProof.Rows.callWith_type1 (ff (ha pos2 pins s σ H _ I h) λus s1 ⟨vs,H1,I1,r1,q1⟩=>?_) (by rw[hs,hs2]) (by rw[hs2];rfl)));obtain ⟨l1,l2,xs,ys,e,qx,qy,hl,q⟩:=q1;subst e;obtain ⟨u,v,rfl,ru,rv⟩:=vals2 r1;cases ru;cases rv;obtain ⟨us,rx,px,hz⟩:=I1.list qx;obtain ⟨ws,ry,py,_⟩:=I1.list qy;refine call_zip_2 px.isList py.isList λh' a1 a2 a3 a4 a5 a6 hk=>?_
 refine Calls.spliced_nil ?_;have I2:Inv X pins σ H1 { s1 with heap:=h' }:=I1.kept (t':=s1.toks) hk;have up:∀b o,h'.get? b=some o->(h'.push { cls:=.type "list",data:=.seq #[] }).get? b=some o:=λb o e=>Heap.get?_push_of_some _ e
 have O:Aj.Ok ⟨s1.heap.objs.size+4,s1.heap.objs.size+2,s1.heap.objs.size+3,s1.heap.objs.size,s1.heap.objs.size+1,h'.objs.size,h'.objs.size+1⟩:=by
  rw[a6];exact Jx s1.heap.objs.size
 have old:∀b∈(Aj.mk (s1.heap.objs.size+4) (s1.heap.objs.size+2) (s1.heap.objs.size+3) s1.heap.objs.size (s1.heap.objs.size+1) h'.objs.size (h'.objs.size+1)).all,s1.heap.objs.size<=b:=λb hb=>by
  rw[a6] at hb;simp only[Aj.all,aE,aS,or_false] at hb;rcases hb with rfl | rfl | rfl | rfl | rfl | rfl <;> first | exact Nat.le_add_right _ _ | exact au _
 have gS:(h'.push { cls:=.type "list",data:=.seq #[] }).get? h'.objs.size=some (lobj [] 0):=Heap.get?_push_size _ rfl;refine callType_codes (Q₁:=λob t=>ob=.ref h'.objs.size/\t={ s1 with heap:=h'.push { cls:=.type "list",data:=.seq #[] } }) PySem.F.called_list (PySem.F.typeCall_list_1 _) PySem.F.entry_list_init (code_list_new _ ⟨rfl,rfl⟩) λob t ht=>?_
 obtain ⟨rfl,rfl⟩:=ht;refine ⟨⟨_,gS,rfl⟩,PySem.F.args_list_init_2 _ _,?_⟩
 have L:IS X pins σ H1 ⟨s1.heap.objs.size+4,s1.heap.objs.size+2,s1.heap.objs.size+3,s1.heap.objs.size,s1.heap.objs.size+1,h'.objs.size,h'.objs.size+1⟩ l1 l2 0 H1 { s1 with heap:=h'.push { cls:=.type "list",data:=.seq #[] } } :=
  ⟨I2.kept (t':=s1.toks) up,aH.refl _,λb hb=>I1.fpOk (old b hb) (I1.hok.fresh (old b hb)),by rw[Heap.size_push];exact au _,⟨⟨_,_,up _ _ a3⟩,.inl (up _ _ a1)⟩,up _ _ a2,a4.at λo e=>up _ o e,a5.at λo e=>up _ o e⟩
 refine EH (A':=X.A.in1) (I.ok.hd hc) O hz hl qx qy L gS (up _ _ a1) λs' H' ts acc c I' sm fS gS' vs' prs=>⟨rfl,?_⟩
 have nS:H1 h'.objs.size=none:=I1.hok.fresh (old _ (by simp [Aj.all]));have lt:=prs.length;rw[xX] at lt;exact ⟨.ref h'.objs.size,_,I'.track (o:=.lst ts) fS ⟨by lia,acc,c,vs',gS'⟩,rfl,q _ ts _ (sm.trans (aH.new fS.1)) nS aF (Paired.imp' (λ_ _ z=>z.same (aH.new fS.1)) prs)⟩
end
end L2
namespace Nm
def uX:List Int->Int->Int
 | [],m=>m
 | b :: r,m=>uX r (m*(b / g m b))
theorem ue {m b:Int} (hm:0 < m) (hb:0 < b):0 < m*(b / g m b):=mF hm (Ct (t:=m) hb)
theorem zX {m b : Int} : b ∣ m * (b / g m b) := by
  have h1 := xy m b;refine ⟨lo m b, ?_⟩;have h2 : b / g m b * g m b = b := u9 m b
  calc m * (b / g m b) = lo m b * g m b * (b / g m b) := by rw [h1]
    _ = lo m b * (b / g m b * g m b) := by rw [kC, j5 (g m b)]
    _ = b * lo m b := by rw [h2, j5]
theorem xB:∀{bs:List Int} {m:Int},0 < m->(∀b∈bs,0 < b)->0 < uX bs m
 | [],_,hm,_=>hm
 | b :: r,m,hm,h=>xB (bs:=r) (ue hm (h b cH)) λc hc=>h c (bD _ hc)
theorem Bl:∀{bs:List Int} {m:Int},m∣uX bs m
 | [],_=>Int.dvd_refl _
 | b :: r,m=>Int.dvd_trans (Int.dvd_mul_right m _) (Bl (bs:=r))
theorem Bj:∀{bs:List Int} {m b:Int},b∈bs->b∣uX bs m
 | c :: r,m,b,h=>by
  rcases aE.mp h with rfl | h
  ·exact Int.dvd_trans zX (Bl (bs:=r))
  ·exact Bj (bs:=r) h
end Nm
namespace L2
open PySem PySem.Spec PyProof.Rows Nm
def CI (K:FG9) (H:Hp) (p:Addr) (ns:List (Int×Int)):Prop:=∃xs,H p=some (.lst xs)/\Paired (λn x=>CM K H x n) ns xs
theorem CI.same {K:FG9} {H H':Hp} {p:Addr} {ns:List (Int×Int)} (h:CI K H p ns) (e:aH H H'):CI K H' p ns:=by obtain ⟨xs,g,q⟩:=h;exact ⟨xs,e _ _ g,Paired.imp' (λ_ _ z=>e.num z) q⟩
def AY (K:FG9) (T:String):V->Hp->VK->Prop:=λx H Q=>D7 K T x H Q\/∃a xs b,x=.ref a/\rH K H a xs/\PySem.W.kitOne K (.type "tuple") (.type T)=some b/\Q (.bl b) H
theorem yT:∀{bs:List Int} {m b:Int},uX (bs++[b]) m=uX bs m*(b / g (uX bs m) b)
 | [],_,_=>rfl
 | c :: r,m,b=>yT (bs:=r)
def eh (ns:List (Int×Int)) (B:Int):List Int:=ns.map λn=>n.1*(B / n.2)
def gI (ns:List (Int×Int)):Int:=uX (ns.map (·.2)) 1
def FZ (ns ms:List (Int×Int)):Int:=(List.zipWith (·*·) (eh ns (gI ns)) (eh ms (gI ms))).sum
theorem uy {ns:List (Int×Int)} {n:Int×Int} (h:n∈ns):n.2∣gI ns:=Bj (ay.mpr ⟨n,h,rfl⟩)
theorem Cc {σ:St} {H:Hp} {Q:VK} {K:FG9} {ta:TA} (h:ta σ H λvs H1=>∃(l1 l2:Addr) (xs ys:List V),vs=[.ref l1,.ref l2]/\bI K H1 l1 xs/\bI K H1 l2 ys/\ys.length=xs.length /\
 ∀L ts H',aH H1 H'->H1 L=none->H' L=some (.lst ts)->Paired (Js H') (xs.zip ys) ts->Q (.ref L) H'):Aw K ta σ H Q:=h
theorem Mj {m b:Int} (hb:0 < b) {k:Nat} (h:Sz k b):Sz k (g m b):=h.le (by
 have h1:(g m b).natAbs=Int.gcd m b:=by unfold g;simp
 rw[h1];exact kz (by lia) (by have:=dX (a:=m) (b:=b);exact eZ.mpr this |> λz=>by simpa using z))
theorem GW {ts us:List Int} {i:Nat} {pq:V×V} (h:((ts.map V.int).zip (us.map V.int))[i]?=some pq):∃t u,ts[i]?=some t/\us[i]?=some u/\pq=(.int t,.int u):=by
 rw[KH,az,az] at h;obtain ⟨h1,h2⟩:=h;cases e1:ts[i]? with
 | none=>rw[e1] at h1;cases h1
 | some t =>
  cases e2:us[i]? with
  | none=>rw[e2] at h2;cases h2
  | some u =>
   rw[e1] at h1;rw[e2] at h2;refine ⟨t,u,rfl,rfl,?_⟩;cases pq;simp at h1 h2;rw[h1,h2]
inductive yF (K:FG9) (vs:List V) (H:Hp) (Q:VK) (E9:XK):Prop
 | mk (p:Addr) (ns:List (Int×Int)):vs=[.ref p,.int ns.length]->CI K H p ns->ns.length<=1000->(∀n∈ns,BJ n)->(∀H',aH H H'->Q (.bl true) H')->yF K vs H Q E9
theorem Ig {X:Cx} {a:Expr} {ta:TE} {pos:Pos} {c:Str} {T:String} {p p2:Pos} (hg:Gl X "isinstance") (hm:X.mg "isinstance"=none) (hb:bootBuiltins c=some (.type T)) (hmc:X.mg c=none) (ha:PE X a ta) (hgc:Gl X c:=by rfl) (hn:c≠"__name__":=by decide)
  (hd:(c == ("__debug__":Str))=false:=by decide) (he:starEach [a,.Name c p2] X.env=[(false,eval a X.env),(false,eval (.Name c p2) X.env)]:=by rfl)
  (hpl:(backTo pos (starEach [.Name c p2] X.env)).any (·.1)=false:=by rfl) (he2:starEach [.Name c p2] X.env=[(false,eval (.Name c p2) X.env)]:=by rfl):PE X (.Call (.Name "isinstance" p) [a,.Name c p2] [] pos) (KS (AY X.K T) ta):=by
 intro pins s σ H Q I h;refine wpAny_Call_Name_kw (kr I hg hm PyProof.Rows.boot_isinstance ?_);have hA:PA X [a,.Name c p2] (lY ta (lY (tC (.ty T)) Av)):=ae ha (ae (Df hgc hmc hb rfl hn hd) aj he2) (by rw[he,he2])
 have hq:lY ta (lY (tC (.ty T)) Av) σ H (λvs H1=>∃x,vs=[x,.ty T]/\AY X.K T x H1 Q):=by
  show ta σ H λx H1=>∃x',[x,V.ty T]=[x',V.ty T]/\AY X.K T x' H1 Q
  have e:(λx H1=>∃x',[x,V.ty T]=[x',V.ty T]/\AY X.K T x' H1 Q)=λx H1=>AY X.K T x H1 Q:=by
   funext x H1;apply propext;constructor
   ·rintro ⟨x',e,q⟩;cases e;exact q
   ·intro q;exact ⟨x,rfl,q⟩
  rw[e];exact h
 refine PyProof.Rows.callWith_builtin1 (ff (hA pos pins s σ H _ I hq) λus s1 ⟨vs,H1,I1,r1,x,e,q1⟩=>?_) (by rw[he,he2]) hpl;subst e;obtain ⟨u,w',rfl,ru,rt⟩:=vals2 r1;cases rt;rcases q1 with ⟨t,bb,ty,ek,q⟩ | ⟨ad,xs,bb,rfl,hs,ek,q⟩
 ·exact uZ I1 ru ty ek λtk=>⟨.bl bb,H1,I1.tok tk,rfl,q⟩
 ·cases ru;obtain ⟨its,_,⟨o,g1,g2,_⟩,_⟩:=I1.tuple hs;exact cJ PySem.W.kitx_tuple I1.kIn ⟨o,g1,g2⟩ ek (λz=>nomatch z) λtk=>⟨.bl bb,H1,I1.tok tk,rfl,q⟩
theorem Ku {xs:List V} {k:Nat} (h:k<=xs.length):ux xs none (some (k:Int))=xs.take k:=by
 unfold ux;rw[HT.AR,HT.C5,Nat.min_eq_left h];simp
theorem eV {n a:Nat} (h:a < n):Ez n (a:Int)=some a:=by
 unfold Ez;rw[if_pos (by lia),if_pos (by lia),Int.toNat_natCast]
theorem Gj {xs:List V} {k:Nat}:ux xs none (some (k:Int))=xs.take k:=by
 by_cases h:k<=xs.length
 ·exact Ku h
 ·unfold ux;rw[HT.AR,HT.C5,Nat.min_eq_right (by lia),aB (by simp),aB (by lia)];rfl
theorem vB {α β:Type} {F:α->β->Prop}:∀{l1:List α} {l2:List β} (_:Paired F l1 l2) (k:Nat),Paired F (l1.take k) (l2.take k)
 | _,_,.nil,k=>by simp;exact .nil
 | _,_,.cons h r,0=>.nil
 | _,_,.cons h r,k+1=>.cons h (vB r k)
def Ia (K:FG9):List V->Hp->VK->Prop:=λxs H Q=>∃p ys,xs=[.ref p]/\(bI K H p ys\/rH K H p ys)/\∀l,H l=none->Q (.ref l) (upd H l (.lst ys))
theorem sG {X:Cx} (K:FG9) (hK:X.K=K):qM X (.type "list") (Ia K):=by subst hK;exact pd
theorem aH.none {H H':Hp} {l:Addr} (s:aH H H') (h:H' l=Option.none):H l=Option.none:=by
 cases e:H l with
 | none=>rfl
 | some o=>have:=s _ _ e;rw[h] at this;cases this
theorem EN {b:Int} (h:b.natAbs<=1000000):Sz 20 b:=bc h (by decide)
theorem cB.none {H H':Hp} {b l:Addr} (u:cB b H H') (B:iQ H' b) (h:H' l=Option.none):H l=Option.none:=by
 cases e:H l with
 | none=>rfl
 | some o =>
  by_cases z:l=b
  ·obtain ⟨_,_,_,_,_,e2,_⟩:=B;rw[<- z,h] at e2;cases e2
  ·have:=u.1 l o e z;rw[h] at this;cases this
end L2
namespace Nm
def nm (q:Rat):Int×Int:=(q.num,(q.den:Int))
theorem jy (q:Rat):0 < (nm q).2:=by have:=q.den_pos;show 0 < (q.den:Int);lia
theorem Cj (q:Rat):Int.gcd (nm q).1 (nm q).2=1:=q.reduced
theorem Ke {p q:Rat} (h:nm p=nm q):p=q:=by
 have h1:p.num=q.num:=congrArg Prod.fst h;have h2:(p.den:Int)=q.den:=congrArg Prod.snd h;exact Rat.ext h1 (by lia)
theorem oN (q : Rat) : (q.num : Rat) = q * (q.den : Rat) := by
  have h := Rat.num_divInt_den q;rw [Rat.divInt_eq_div] at h
  have hd : ((q.den : Int) : Rat) ≠ 0 := by
    intro z;have z := vS.mp z;have := q.den_pos
    lia
  have e : ((q.den : Int) : Rat) = (q.den : Rat) := bY _
  calc (q.num : Rat) = (q.num : Rat) / ((q.den : Int) : Rat) * ((q.den : Int) : Rat) := (Rat.div_mul_cancel hd).symm
    _ = q * (q.den : Rat) := by rw [h, e]
theorem Lz {a b:Int} {q:Rat} (hb:0 < b) (hg:Int.gcd a b=1) (e:q*(b:Rat)=(a:Rat)):(a,b)=nm q:=by
 have h1:a*(q.den:Int)=q.num*b:=by
  apply dq.mp;rw[aM,aM,<- e,oN,bY];grind
 obtain ⟨e1,e2⟩:=uniq hb (jy q) hg (Cj q) h1;exact Prod.ext e1 e2
theorem uc {t b:Int} {q:Rat} (hb:0 < b) (e:q*(b:Rat)=(t:Rat)):(lo t b,hi t b)=nm q:=by
 refine Lz (Ct hb) (Bi (by lia)) ?_;have h:=Cr t b;have hb':(b:Rat)≠0:=λz=>by have:=vS.mp z;lia
 have h2:((lo t b:Int):Rat)*(b:Rat)=(t:Rat)*((hi t b:Int):Rat):=by rw[<- aM,h,aM]
 rw[<- e] at h2;have h3:(q*((hi t b:Int):Rat) - ((lo t b:Int):Rat))*(b:Rat)=0:=by grind
 rcases Rat.mul_eq_zero.mp h3 with h4 | h4
 ·grind
 ·exact absurd h4 hb'
def Fr (M V:Nat) (q:Rat):Prop:=∃z:Int,q*(M:Rat)=(z:Rat)/\z.natAbs<=V*M
theorem Fr.mono {M V V':Nat} {q:Rat} (h:Fr M V q) (l:V<=V'):Fr M V' q:=by obtain ⟨z,e,b⟩:=h;exact ⟨z,e,ai b (aG _ l)⟩
theorem Fr.scale {M V:Nat} {q:Rat} (h:Fr M V q) (k:Nat):Fr (M*k) V q:=by
 obtain ⟨z,e,b⟩:=h;refine ⟨z*k,?_,?_⟩
 ·rw[xV,aM,<- e,bY,Rat.mul_assoc]
 ·rw[gQ,h8,<- dI];exact aG _ b
theorem Fr.scaleL {M V:Nat} {q:Rat} (h:Fr M V q) (k:Nat):Fr (k*M) V q:=by rw[cC];exact h.scale k
theorem Fr.dvd {M N V:Nat} {q:Rat} (h:Fr M V q) (d:M∣N):Fr N V q:=by obtain ⟨k,rfl⟩:=d;exact h.scale k
theorem Fr.add {M V W:Nat} {p q:Rat} (h:Fr M V p) (h':Fr M W q):Fr M (V+W) (p+q):=by
 obtain ⟨z,e,b⟩:=h;obtain ⟨z',e',b'⟩:=h';refine ⟨z+z',by rw[xW,<- e,<- e',Rat.add_mul],?_⟩;rw[Nat.add_mul];have:=Int.natAbs_add_le z z'
 lia
theorem Fr.neg {M V:Nat} {q:Rat} (h:Fr M V q):Fr M V (-q):=by
 obtain ⟨z,e,b⟩:=h;exact ⟨-z,by rw[iO,<- e,Rat.neg_mul],by rw[sQ];exact b⟩
theorem Fr.mul {M N V W : Nat} {p q : Rat} (h : Fr M V p) (h' : Fr N W q) : Fr (M * N) (V * W) (p * q) := by
  obtain ⟨z, e, b⟩ := h;obtain ⟨z', e', b'⟩ := h';refine ⟨z * z', ?_, ?_⟩
  · rw [xV, aM, <- e, <- e']; grind
  · rw [gQ]
    calc z.natAbs * z'.natAbs ≤ (V * M) * (W * N) := aR b b'
      _ = V * W * (M * N) := by rw [dI, Nat.mul_left_comm M, <- dI]
theorem Fr.zero {M V:Nat}:Fr M V 0:=⟨0,by simp,by simp⟩
theorem Fr.int {M V:Nat} {i:Int} (h:i.natAbs<=V):Fr M V (i:Rat):=⟨i*M,by rw[aM,bY],by rw[gQ,h8];exact aG _ h⟩
theorem Fr.den {M V:Nat} {q:Rat} (h:Fr M V q):(q.den:Int)∣(M:Int):=by
 obtain ⟨z,e,b⟩:=h
 have h1:q.num*(M:Int)=z*(q.den:Int):=by
  apply dq.mp;rw[aM,aM,<- e,oN,bY,bY];grind
 have h2:(q.den:Int)∣q.num*(M:Int):=⟨z,by rw[h1,j5]⟩;exact oU (by rw[j6];exact Cj q) h2
theorem Fr.den_le {M V:Nat} {q:Rat} (h:Fr M V q) (hM:0 < M):q.den<=M:=kz hM (vT.mp h.den)
theorem Fr.num_le {M V:Nat} {q:Rat} (h:Fr M V q) (hM:0 < M):q.num.natAbs<=V*M:=by
 have hd:=h.den;obtain ⟨z,e,b⟩:=h;obtain ⟨k,hk⟩:=vT.mp hd;have hk0:k≠0:=λz=>by rw[z,Nat.mul_zero] at hk;lia
 have h1:z=q.num*(k:Int):=by
  apply dq.mp;rw[aM,<- e,oN,bY,hk,xV];grind
 rw[h1] at b;exact ai (nO (by lia)) b
theorem Fr.own (q:Rat) {V:Nat} (h:q.num.natAbs<=V):Fr q.den V q:=⟨q.num,(oN q).symm,ai h (dU _ q.den_pos)⟩
theorem Fr.sz {M V k j:Nat} {q:Rat} (h:Fr M V q) (hM:0 < M) (h1:M<=2^k) (h2:V<=2^j):Sz (j+k+1) (nm q).1/\Sz (k+1) (nm q).2:=by
 constructor
 ·show q.num.natAbs < 2^(j+k+1)
  have h3:=h.num_le hM;have h4:V*M<=2^j*2^k:=aR h2 h1;rw[h7,bX];have:=Nat.two_pow_pos (j+k);rw[bX] at this
  lia
 ·show (q.den:Int).natAbs < 2^(k+1)
  have h3:=h.den_le hM;rw[h8,h7];have:=Nat.two_pow_pos k
  lia
theorem Fr.sum {M V:Nat}:∀{l:List Rat},(∀x∈l,Fr M V x)->Fr M (l.length*V) l.sum
 | [],_=>by simp;exact Fr.zero
 | x :: r,h=>by
  rw[List.sum_cons,bJ,rN,Nat.add_comm];exact (h x (.head _)).add (Fr.sum λy hy=>h y (.tail _ hy))
def cY (xs ys:List Rat):Rat:=(List.zipWith (·*·) xs ys).sum
theorem Fr.dot {M N V W : Nat} {xs ys : List Rat} (h : ∀ x ∈ xs, Fr M V x) (h' : ∀ y ∈ ys, Fr N W y) : Fr (M * N) (xs.length * (V * W)) (cY xs ys) := by
  have q := Fr.sum (M := M * N) (V := V * W) (l := List.zipWith (· * ·) xs ys) λz hz => by
    obtain ⟨i, hi, e⟩ := gM hz;rw [fP] at e;rw [<- e];exact (h _ (aN _)).mul (h' _ (aN _))
  exact q.mono (aG _ (by rw [bC]; lia))
theorem v5 : ∀ {bs : List Int} {m M : Int}, 0 < m → m ∣ M → (∀ b ∈ bs, 0 < b /\ b ∣ M) → uX bs m ∣ M
  | [], _, _, _, h, _ => h
  | b :: r, m, M, hm, h, hb => by
    have b1 := hb b cH;refine v5 (bs := r) (ue hm b1.1) ?_ λc hc => hb c (bD _ hc)
    have gp : 0 < g m b := xE (by lia);have e1 := xy m b;have e2 := u9 m b;obtain ⟨u, hu⟩ := h;obtain ⟨v, hv⟩ := b1.2
    have h3 : lo m b * u = hi m b * v := by
      apply Jw (show g m b ≠ 0 by lia)
      calc lo m b * u * g m b = lo m b * g m b * u := by rw [kC, j5 u, <- kC]
        _ = m * u := by rw [e1]
        _ = M := hu.symm
        _ = b * v := hv
        _ = hi m b * g m b * v := by rw [e2]
        _ = hi m b * v * g m b := by rw [kC, j5 (g m b), <- kC]
    have h4 : hi m b ∣ lo m b * u := ⟨v, h3⟩;have h5 : hi m b ∣ u := oU (by rw [j6]; exact Bi (by lia)) h4;obtain ⟨w, hw⟩ := h5;refine ⟨w, ?_⟩;show M = m * hi m b * w
    rw [hu, hw, kC]
theorem z8 {a b:Int} {k:Nat} (hb:0 < b) (d:a∣b) (h:Sz k b):Sz k a:=h.le (kz (by lia) (eZ.mpr d))
end Nm
namespace Nm
def Dr (W:Nat) (x:Rat):Prop:=x.num.natAbs<=W/\x.den<=W
def yN:List Nat->Nat
 | []=>1
 | a :: r=>a*yN r
theorem yL:∀{l:List Nat},(∀a∈l,0 < a)->0 < yN l
 | [],_=>Nat.one_pos
 | a :: r,h=>dr (h a (.head _)) (yL λb hb=>h b (.tail _ hb))
theorem yM:∀{l:List Nat} {a:Nat},a∈l->a∣yN l
 | b :: r,a,h=>by
  rcases aE.mp h with rfl | h
  ·exact fO ..
  ·exact pR (yM h) (cy ..)
theorem AZ {k:Nat}:∀{l:List Nat},(∀a∈l,a<=2^k)->yN l<=2^(k*l.length)
 | [],_=>by simp [yN]
 | a :: r,h=>by
  rw[bJ,Nat.mul_succ,bX,cC (2^(k*r.length))];exact aR (h a (.head _)) (AZ λb hb=>h b (.tail _ hb))
def GF (M V:Nat) (rows:LR9):Prop:=∀xs∈rows,∀x∈xs,Fr M V x
def de (rows:LR9) (w:Nat):LR9:=(List.range w).map λj=>rows.map λxs=>xs.getD j 0
def dZ (one other:LR9) (w:Nat):LR9:=one.map λxs=>(de other w).map λys=>cY ys xs
theorem cL {rows:LR9} {w:Nat}:(de rows w).length=w:=by simp [de]
theorem nY {rows:LR9} {w:Nat}:∀ys∈de rows w,ys.length=rows.length:=λys hy=>by
 obtain ⟨j,_,rfl⟩:=ay.mp hy;exact ag ..
theorem getD_map {α:Type} {l:List α} {f:α->Rat} {i:Nat} (h:i < l.length):(l.map f).getD i 0=f l[i]:=by
 rw[aa,az,af h];rfl
end Nm
namespace L2
open PySem PySem.Spec PyProof.Rows Nm
theorem cB.sqt {K:FG9} {H H':Hp} {b a:Addr} {xs:List V} (u:cB b H H') (B:iQ H b) (h:rH K H a xs):rH K H' a xs:=by
 rcases h with (h | ⟨o,h⟩) | h
 ·exact .inl (.inl (u.tup B h))
 ·exact .inl (.inr ⟨o,u.other (λz=>by obtain ⟨_,_,_,_,_,e,_⟩:=B;rw[z,e] at h;cases h) h⟩)
 ·exact .inr h
theorem EU {K:FG9} {H:Hp} {a l:Addr} {xs ys:List V} {o:HO} (h:rH K H a xs) (hl:H l=some (.lst ys)):rH K (upd H l o) a xs:=by
 rcases h with (h | ⟨o,h⟩) | h
 ·exact .inl (.inl (by rw[aU λz=>by rw[z,hl] at h;cases h];exact h))
 ·exact .inl (.inr ⟨o,by rw[aU λz=>by rw[z,hl] at h;cases h];exact h⟩)
 ·exact .inr h
def b6 (K:FG9) (H:Hp) (q:Rat) (x:V):Prop:=CM K H x (nm q)
section
variable {K:FG9} {H H':Hp} {q:Rat} {x:V} {b l p:Addr} {qs:List Rat}
theorem b6.same (h:b6 K H q x) (e:aH H H'):b6 K H' q x:=e.num h
theorem b6.upto (h:b6 K H q x) (u:cB b H H') (B:iQ H b):b6 K H' q x:=by obtain ⟨p,e,s⟩:=h;exact ⟨p,e,u.sqt B s⟩
theorem b6.updL {ys:List V} {o:HO} (h:b6 K H q x) (hl:H l=some (.lst ys)):b6 K (upd H l o) q x:=by obtain ⟨p,e,s⟩:=h;exact ⟨p,e,EU s hl⟩
theorem b6.mk {r:Addr} {a c:Int} (h:H r=some (.tup [.int a,.int c])) (e:(a,c)=nm q):b6 K H q (.ref r):=⟨r,rfl,by rw[<- e];exact rH.of h⟩
def dC (K:FG9) (H:Hp) (p:Addr) (qs:List Rat):Prop:=∃xs,H p=some (.lst xs)/\Paired (b6 K H) qs xs
theorem dC.same (h:dC K H p qs) (e:aH H H'):dC K H' p qs:=by obtain ⟨xs,g,r⟩:=h;exact ⟨xs,e _ _ g,Paired.imp' (λ_ _ z=>z.same e) r⟩
theorem dC.upto (h:dC K H p qs) (u:cB b H H') (B:iQ H b) (n:p≠b):dC K H' p qs:=by obtain ⟨xs,g,r⟩:=h;exact ⟨xs,u.other n g,Paired.imp' (λ_ _ z=>z.upto u B) r⟩
theorem dC.updL {ys:List V} {o:HO} (h:dC K H p qs) (hl:H l=some (.lst ys)) (n:p≠l):dC K (upd H l o) p qs:=by obtain ⟨xs,g,r⟩:=h;exact ⟨xs,by rw[aU n];exact g,Paired.imp' (λ_ _ z=>z.updL hl) r⟩
theorem vD {α β γ:Type} {F:α->β->Prop} {f:γ->α}:∀{l:List γ} {l2:List β},Paired (λc x=>F (f c) x) l l2->Paired F (l.map f) l2
 | _,_,.nil=>.nil
 | _,_,.cons r t=>.cons r (vD t)
theorem dC.rowK (h:dC K H p qs):CI K H p (qs.map nm):=by obtain ⟨xs,g,r⟩:=h;exact ⟨xs,g,vD (F:=λn x=>CM K H x n) r⟩
def cZ (K:FG9) (H0 H:Hp) (qs:List Rat) (x:V):Prop:=∃q,x=V.ref q/\H0 q=none/\dC K H q qs
def bu (K:FG9) (H0 H:Hp) (p:Addr) (rows:LR9):Prop:=∃xs,H p=some (.lst xs)/\Paired (cZ K H0 H) rows xs/\V.ref p∉xs
theorem mQ {H0:Hp} {K:FG9} {p:Addr} {rows:LR9} {ys:List V} (h:∃H2,H2 p=none/\Paired (cZ K H0 H2) rows ys):V.ref p∉ys:=λhm=>by
 obtain ⟨H2,e,pr⟩:=h;obtain ⟨qs,_,q,z,_,xs,g,_⟩:=dj pr hm;cases z;rw[e] at g;cases g
variable {H0:Hp} {rows:LR9}
theorem cZ.same (h:cZ K H0 H qs x) (e:aH H H'):cZ K H0 H' qs x:=by obtain ⟨q,a,b,c⟩:=h;exact ⟨q,a,b,c.same e⟩
theorem cZ.upto (h:cZ K H0 H qs x) (u:cB b H H') (B:iQ H b) (nb:H0 b≠none):cZ K H0 H' qs x:=by obtain ⟨q,a,c,d⟩:=h;exact ⟨q,a,c,d.upto u B λz=>nb (by rw[<- z];exact c)⟩
theorem cZ.weak (h:cZ K H0 H qs x) {H1:Hp} (e:aH H1 H0):cZ K H1 H qs x:=by obtain ⟨q,a,b,c⟩:=h;exact ⟨q,a,e.none b,c⟩
theorem bu.same (h:bu K H0 H p rows) (e:aH H H'):bu K H0 H' p rows:=by obtain ⟨xs,g,r,n⟩:=h;exact ⟨xs,e _ _ g,Paired.imp' (λ_ _ z=>z.same e) r,n⟩
theorem bu.upto (h:bu K H0 H p rows) (u:cB b H H') (B:iQ H b) (n:p≠b) (nb:H0 b≠none):bu K H0 H' p rows:=by obtain ⟨xs,g,r,nn⟩:=h;exact ⟨xs,u.other n g,Paired.imp' (λ_ _ z=>z.upto u B nb) r,nn⟩
theorem bu.weak (h:bu K H0 H p rows) {H1:Hp} (e:aH H1 H0):bu K H1 H p rows:=by obtain ⟨xs,g,r,n⟩:=h;exact ⟨xs,g,Paired.imp' (λ_ _ z=>z.weak e) r,n⟩
end
def Ji:Kind Rat:=Mi.via nm (λ_ _ e=>Ke e) (λK H x q=>b6 K H q x) id
def Dx:Kind (List Rat):=Kk Ji
def tm:Kind (LR9):=Kk Dx
theorem dC.kind {K:FG9} {H:Hp} {p:Addr} {qs:List Rat} (h:dC K H p qs):Dx.R K H (.ref p) qs:=by obtain ⟨xs,g,q⟩:=h;exact ⟨p,xs,rfl,bI.of g,q⟩
theorem bu.kind {K:FG9} {H0 H:Hp} {p:Addr} {rows:LR9} (h:bu K H0 H p rows):tm.R K H (.ref p) rows:=by obtain ⟨xs,g,q,_⟩:=h;exact ⟨p,xs,rfl,bI.of g,Paired.imp' (λ_ _ ⟨q,a,_,c⟩=>by rw[a];exact c.kind) q⟩
def pX (x:Rat):Prop:=Sz 4000 (nm x).1/\Sz 4000 (nm x).2
def Fits (l:List Rat):Prop:=∃M V:Nat,0 < M/\M<=2^900/\V<=2^900/\∀x∈l,Fr M V x
theorem Fits.szn {l:List Rat} (h:Fits l) {x:Rat} (hx:x∈l):pX x:=by
 obtain ⟨M,V,h0,h1,h2,h3⟩:=h;obtain ⟨a,b⟩:=(h3 x hx).sz h0 h1 h2;exact ⟨a.mono (by decide),b.mono (by decide)⟩
theorem Fits.ok {l:List Rat} (h:Fits l) {x:Rat} (hx:x∈l):BJ (nm x):=⟨jy x,Cj x,(h.szn hx).1.mono (by decide),(h.szn hx).2.mono (by decide)⟩
theorem Cw {M V:Nat} {x:Rat} (h0:0 < M) (h1:M<=2^1800) (h2:V<=2^1810) (h:Fr M V x):pX x:=by
 obtain ⟨a,b⟩:=h.sz h0 h1 h2;exact ⟨a.mono (by decide),b.mono (by decide)⟩
inductive oG (K:FG9) (f:Rat->Rat->Rat) (vs:List V) (H:Hp) (Q:VK) (E9:XK):Prop
 | mk (u v:V) (x y:Rat):vs=[u,v]->b6 K H x u->b6 K H y v->pX x->pX y->(∀r H',aH H H'->b6 K H' (f x y) (.ref r)->Q (.ref r) H')->oG K f vs H Q E9
section
variable {K:FG9} {vs:List V} {H:Hp} {Q:VK} {E:XK}
theorem Cf {f:Rat->Rat->Rat} {F:Int->Int->Int->Int->Int} (hf:∀x y:Rat,(f x y)*(((nm x).2*(nm y).2:Int):Rat)=((F (nm x).1 (nm x).2 (nm y).1 (nm y).2:Int):Rat)) (h:oG K f vs H Q E):C3 K F vs H Q E:=by
 obtain ⟨u,v,x,y,rfl,⟨p,rfl,hp⟩,⟨q,rfl,hq⟩,⟨s1,s2⟩,⟨s3,s4⟩,k⟩:=h;refine ⟨p,q,_,_,_,_,rfl,hp,hq,jy x,jy y,s1,s2,s3,s4,λr H' s g=>k r H' s (b6.mk g ?_)⟩;exact uc (mF (jy x) (jy y)) (hf x y)
theorem sY (x:Rat):(((nm x).1:Int):Rat)=x*(((nm x).2:Int):Rat):=by
 show (x.num:Rat)=x*(((x.den:Nat):Int):Rat)
 rw[oN,bY]
theorem wd (h:oG K (λx y=>x+y) vs H Q E):C3 K Jp vs H Q E:=Cf (λx y=>by
 unfold Jp;rw[xW,aM,aM,aM,sY,sY];grind) h
theorem CV (h:oG K (λx y=>x - y) vs H Q E):C3 K FW vs H Q E:=Cf (λx y=>by
 unfold FW;rw[Rat.intCast_sub,aM,aM,aM,sY,sY];grind) h
theorem Dl (h:oG K (λx y=>x*y) vs H Q E):C3 K FV vs H Q E:=Cf (λx y=>by
 unfold FV;rw[aM,aM,sY,sY];grind) h
end
def CH (M:Int) (ns:List (Int×Int)):Prop:=0 < M/\Sz 4400 M/\∀n∈ns,0 < n.2/\n.2∣M/\Sz 4400 n.1
theorem CH.bot {M:Int} {ns:List (Int×Int)} (h:CH M ns):0 < gI ns/\Sz 4400 (gI ns):=by
 have hb:∀b∈ns.map (·.2),0 < b/\b∣M:=λb hb=>by
  obtain ⟨n,hn,rfl⟩:=ay.mp hb;exact ⟨(h.2.2 n hn).1,(h.2.2 n hn).2.1⟩
 exact ⟨xB (by decide) λb q=>(hb b q).1,z8 h.1 (v5 (by decide) (Int.one_dvd _) hb) h.2.1⟩
inductive EV (K:FG9) (vs:List V) (H:Hp) (Q:VK) (E9:XK):Prop
 | mk (p:Addr) (bs:List Int) (M:Int):vs=[.ref p]->bI K H p (bs.map V.int)->0 < M->Sz 4400 M->((∀b∈bs,0 < b/\b∣M))->Q (.int (uX bs 1)) H->EV K vs H Q E9
inductive EW (K:FG9) (vs:List V) (H:Hp) (Q:VK) (E9:XK):Prop
 | mk (p:Addr) (ns:List (Int×Int)) (M:Int):vs=[.ref p]->CI K H p ns->ns.length<=1000->CH M ns->(∀H',aH H H'->Q (.int (gI ns)) H')->EW K vs H Q E9
inductive AA (K:FG9) (vs:List V) (H:Hp) (Q:VK) (E9:XK):Prop
 | mk (p:Addr) (ns:List (Int×Int)) (M:Int) (B:Int):vs=[.ref p,.int B]->CI K H p ns->ns.length<=1000->CH M ns->0 < B->Sz 4400 B->(∀r H',H r=none->aH H H'->H' r=some (.lst ((eh ns B).map V.int))->Q (.ref r) H')->AA K vs H Q E9
theorem Au {M:Int} {ns:List (Int×Int)} {B t:Int} (h:CH M ns) (hB:0 < B) (sB:Sz 4400 B) (ht:t∈eh ns B):Sz 8800 t:=by
 obtain ⟨n,hn,rfl⟩:=ay.mp ht;have hp:=h.2.2 n hn
 have sq:Sz 4400 (B / n.2):=sB.le (by
  rw[KI (by lia)];exact Nat.div_le_self ..)
 exact (hp.2.2.mul sq).mono (by lia)
theorem pZ {x:Rat} {B:Int} (h:(nm x).2∣B):(((nm x).1*(B / (nm x).2):Int):Rat)=x*(B:Rat):=by
 obtain ⟨k,rfl⟩:=h;have hp:=jy x;rw[Int.mul_ediv_cancel_left _ (by lia),aM,aM,sY];grind
theorem BB {B C : Int} : ∀ {xs ys : List Rat}, (∀ x ∈ xs, (nm x).2 ∣ B) → (∀ y ∈ ys, (nm y).2 ∣ C) → (((List.zipWith (· * ·) (eh (xs.map nm) B) (eh (ys.map nm) C)).sum : Int) : Rat) = cY xs ys * ((B : Rat) * (C : Rat))
  | [], ys, _, _ => by simp [eh, cY]
  | x :: xs, [], _, _ => by simp [eh, cY]
  | x :: xs, y :: ys, h1, h2 => by
    have ih := BB (B := B) (C := C) (xs := xs) (ys := ys) (λz hz => h1 z (.tail _ hz)) (λz hz => h2 z (.tail _ hz));have e1 := pZ (h1 x (.head _));have e2 := pZ (h2 y (.head _));have e3 : (List.zipWith (· * ·) (eh ((x :: xs).map nm) B) (eh ((y :: ys).map nm) C)).sum = ((nm x).1 * (B / (nm x).2)) * ((nm y).1 * (C / (nm y).2)) + (List.zipWith (· * ·) (eh (xs.map nm) B) (eh (ys.map nm) C)).sum := rfl;have e4 : cY (x :: xs) (y :: ys) = x * y + cY xs ys := rfl;rw [e3, e4, xW, aM, ih, e1, e2];grind
theorem IC {xs ys:List Rat} (h1:0 < gI (xs.map nm)) (h2:0 < gI (ys.map nm)):(lo (FZ (xs.map nm) (ys.map nm)) (gI (xs.map nm)*gI (ys.map nm)),hi (FZ (xs.map nm) (ys.map nm)) (gI (xs.map nm)*gI (ys.map nm)))=nm (cY xs ys):=by
 refine uc (mF h1 h2) ?_;unfold FZ;rw[BB (λx hx=>uy (ay.mpr ⟨x,hx,rfl⟩)) (λx hx=>uy (ay.mpr ⟨x,hx,rfl⟩)),aM]
inductive Az (K:FG9) (vs:List V) (H:Hp) (Q:VK) (E9:XK):Prop
 | mk (p:Addr) (w:Nat) (H0:Hp) (rows:LR9):vs=[.ref p,.int w]->bu K H0 H p rows->rows.length<=1000->w<=1000->(∀xs∈rows,xs.length=w)->(∀r H',H r=none->aH H H'->bu K H H' r (de rows w)->Q (.ref r) H')->Az K vs H Q E9
def Jz (m:Nat) (a:Int):List Rat:=(List.range m).map λ(i:Nat)=>if ((i:Nat):Int)=a then 1 else 0
inductive Ay (K:FG9) (vs:List V) (H:Hp) (Q:VK) (E9:XK):Prop
 | mk (m:Nat) (a:Int):vs=[.int m,.int a]->m<=1000->(∀r H',H r=none->aH H H'->dC K H' r (Jz m a)->Q (.ref r) H')->Ay K vs H Q E9
inductive wK (K:FG9) (vs:List V) (H:Hp) (Q:VK) (E9:XK):Prop
 | mk (b:Addr) (w:Nat):vs=[.ref b,.int w]->iQ H b->1<=w->w<=1000000->(∀r x H',Dr (max w 6) x->b6 K H' x (.ref r)->iQ H' b->cB b H H'->Q (.ref r) H')->wK K vs H Q E9
inductive AI (K:FG9) (vs:List V) (H:Hp) (Q:VK) (E9:XK):Prop
 | mk (b:Addr) (m w:Nat):vs=[.ref b,.int m,.int w]->iQ H b->m<=1000->1<=w->w<=1000000->(∀r xs H',H r=none->dC K H' r xs->xs.length=m->(∀x∈xs,Dr (max w 6) x)->iQ H' b->cB b H H'->Q (.ref r) H')->AI K vs H Q E9
inductive wJ (K:FG9) (vs:List V) (H:Hp) (Q:VK) (E9:XK):Prop
 | mk (p q:Addr) (xs ys:List Rat):vs=[.ref p,.ref q]->dC K H p xs->dC K H q ys->ys.length=xs.length->xs.length<=1000->(∀x∈xs,pX x)->(∀y∈ys,pX y)->(∀r H',H r=none->aH H H'->dC K H' r (List.zipWith (λx y=>x+y) xs ys)->Q (.ref r) H')->wJ K vs H Q E9
inductive EX (K:FG9) (vs:List V) (H:Hp) (Q:VK) (E9:XK):Prop
 | mk (u:V) (q:Addr) (c:Rat) (ys:List Rat):vs=[u,.ref q]->b6 K H c u->pX c->dC K H q ys->ys.length<=1000->(∀y∈ys,pX y)->(∀r H',H r=none->aH H H'->dC K H' r (ys.map λy=>c*y)->Q (.ref r) H')->EX K vs H Q E9
inductive wN (K:FG9) (vs:List V) (H:Hp) (Q:VK) (E9:XK):Prop
 | mk (p:Addr) (H0:Hp) (rows:LR9):vs=[.ref p]->bu K H0 H p rows->rows.length<=1000->(∀xs∈rows,xs.length<=1000)->(∀r H',H r=none->aH H H'->bu K H H' r rows->Q (.ref r) H')->wN K vs H Q E9
section
variable {K:FG9} {a:Addr} {xs:List V} {g:TG} {tf:TT} {te:TE} {Q:VK} {σ₀:St} {H:Hp} {α β:Type}
theorem dA {as:List α} {F:Hp->α->V->Prop} (G:Hp->β->V->Prop) (f:α->β) (hx:H a=some (.lst xs)) (pf:Paired (F H) as xs) (hl:as.length<=1000)
  (hF:∀{H H' c x},F H c x->aH H H'->F H' c x) (hG:∀{H H' c x},G H c x->aH H H'->G H' c x)
  (hs:∀(i:Nat) c x H' NY NN,as[i]?=some c->aH H H'->F H' c x->(∀y H2,aH H' H2->G H2 (f c) y->NY y H2)->rP σ₀ g tf te x H' NY NN)
  (hd:∀ys H' p,H p=none->aH H H'->H' p=some (.lst ys)->Paired (G H') (as.map f) ys->(∃H2,H2 p=none/\Paired (G H2) (as.map f) ys)->Q (.ref p) H'):sO (Jt K a) σ₀ g tf te Q H:=by
 have lx:=pf.length;refine fw (K:=K) (xs:=xs) (λi ys H'=>aH H H'/\Paired (G H') ((as.take i).map f) ys) (bh (bL (by lia))) ⟨aH.refl _,.nil⟩ (λi ys H' _ ⟨s,_⟩=>bI.of (s _ _ hx)) ?_ ?_
 ·rintro i x ys H' hx' hlen ⟨s,pr⟩;obtain ⟨c,ec,hc⟩:=b8 pf hx';refine hs i c x H' _ _ ec s (hF hc s) λy H2 s2 gy=>⟨s.trans s2,?_⟩
  rw[take_snoc ec,fG];exact cv (Paired.imp' (λ_ _ z=>hG z s2) pr) (.cons gy .nil)
 ·rintro ys H' hy ⟨s,pr⟩ p hp;rw[aB (by lia)] at pr;exact hd ys _ p (s.none hp) (s.trans (aH.new hp)) aF (Paired.imp' (λ_ _ z=>hG z (aH.new hp)) pr) ⟨H',hp,pr⟩
theorem vb {n:Nat} (G:Hp->β->V->Prop) (f:Nat->β) (hl:n<=1000) (hG:∀{H H' c x},G H c x->aH H H'->G H' c x)
  (hs:∀(i:Nat) H' NY NN,i < n->aH H H'->(∀y H2,aH H' H2->G H2 (f i) y->NY y H2)->rP σ₀ g tf te (.int i) H' NY NN)
  (hd:∀ys H' p,H p=none->aH H H'->H' p=some (.lst ys)->Paired (G H') ((List.range n).map f) ys->(∃H2,H2 p=none/\Paired (G H2) ((List.range n).map f) ys)->Q (.ref p) H'):sO (BL 0 n) σ₀ g tf te Q H:=by
 refine o7 (λi ys H'=>aH H H'/\Paired (G H') ((List.range i).map f) ys) (bh (bL (by lia))) ⟨aH.refl _,.nil⟩ ?_ ?_
 ·rintro i ys H' hi hlen ⟨s,pr⟩;rw[wx];refine hs i H' _ _ hi s λy H2 s2 gy=>⟨s.trans s2,?_⟩
  rw[GO,fG];exact cv (Paired.imp' (λ_ _ z=>hG z s2) pr) (.cons gy .nil)
 ·rintro ys H' hy ⟨s,pr⟩ p hp;exact hd ys _ p (s.none hp) (s.trans (aH.new hp)) aF (Paired.imp' (λ_ _ z=>hG z (aH.new hp)) pr) ⟨H',hp,pr⟩
theorem vd {n:Nat} {b:Addr} (G:Hp->β->V->Prop) (C:β->Prop) (hB:iQ H b) (hl:n<=1000) (hG:∀{H' H'' c x},G H' c x->cB b H' H''->iQ H' b->G H'' c x)
  (hs:∀(i:Nat) H' NY NN,i < n->cB b H H'->iQ H' b->(∀y c H2,cB b H' H2->iQ H2 b->C c->G H2 c y->NY y H2)->rP σ₀ g tf te (.int i) H' NY NN)
  (hd:∀ys cs H' p,H p=none->cB b H H'->iQ H' b->H' p=some (.lst ys)->cs.length=n->(∀c∈cs,C c)->Paired (G H') cs ys->(∃H2,H2 p=none/\Paired (G H2) cs ys)->Q (.ref p) H'):sO (BL 0 n) σ₀ g tf te Q H:=by
 refine o7 (λi ys H'=>cB b H H'/\iQ H' b/\∃cs,cs.length=i/\(∀c∈cs,C c)/\Paired (G H') cs ys) (bh (bL (by lia))) ⟨(aH.refl _).upto,hB,[],rfl,(λ_ z=>nomatch z),.nil⟩ ?_ ?_
 ·rintro i ys H' hi hlen ⟨u,B,cs,lc,hc,pr⟩;rw[wx];refine hs i H' _ _ hi u B λy c H2 u2 B2 cc gy=>⟨u.trans u2,B2,cs++[c],by simp [lc],DO hc cc,cv (Paired.imp' (λ_ _ z=>hG z u2 B) pr) (.cons gy .nil)⟩
 ·rintro ys H' hy ⟨u,B,cs,lc,hc,pr⟩ p hp;have s:aH H' (upd H' p (.lst ys)):=aH.new hp;exact hd ys cs _ p (u.none B hp) (u.same s) (B.same s) aF lc hc (Paired.imp' (λ_ _ z=>hG z s.upto B) pr) ⟨H',hp,pr⟩
end
section
variable {X:Cx}
theorem d7 {n:Nat} {g:TG} {tb:TS} {D:Ends} {σ:St} {H:Hp} (Pv:Nat->St->Hp->Prop) (h0:Pv 0 σ H)
  (hs:∀(i:Nat) σ H,i < n->Pv i σ H->g (.int i) σ H λσ2 H2=>tb { D with nx:=Pv (i+1),ct:=Pv (i+1),bk:=D.nx } σ2 H2) (hd:∀σ H,Pv n σ H->D.nx σ H) :
  ∃W:Nat->Nat->St->Hp->Prop,(∃m,W 0 m σ H)/\∀i m σ H,W i m σ H →
   ((BL 0 n).stop i H/\D.nx σ H)\/((BL 0 n).go i H/\∃N:St->Hp->Prop,(∀σ' H',N σ' H'->∃m',m' < m/\W (i+1) m' σ' H')/\∀x H',(BL 0 n).yld i H x H'->g x σ H' λσ2 H2=>tb { D with nx:=N,ct:=N,bk:=D.nx } σ2 H2) :=
 yW (lo:=0) Pv h0 (λi σ H hi p=>by rw[wx];exact hs i σ H hi p) hd
theorem y8:qM X (.type "int") (λxs H Q=>∃b:Bool,xs=[.bl b]/\Q (.int (if b=true then 1 else 0)) H):=by
 intro pins s σ H xs us Q I r h;obtain ⟨b,rfl,q⟩:=h;obtain ⟨u,rfl,ru⟩:=vals1 r;cases ru;exact call_int_bool ⟨.int _,H,I.tok _,⟨_,rfl⟩,q⟩
theorem Fh {st:Stmt}:PS X st (λ_ _ _=>False):=λ_ _ _ _ _ _ h=>h.elim
end
theorem FA {t b:Int} {W:Nat} (hb:0 < b) (h1:t.natAbs<=W) (h2:b.natAbs<=W):∃q:Rat,(lo t b,hi t b)=nm q/\Dr W q/\q*(b:Rat)=(t:Rat):=by
 have hb':(b:Rat)≠0:=λz=>by have:=vS.mp z;lia
 have e:(t:Rat) / (b:Rat)*(b:Rat)=t:=Rat.div_mul_cancel hb';have h:=uc hb e;refine ⟨_,h,⟨?_,?_⟩,e⟩
 ·have:=congrArg Prod.fst h;have z:=lo_le (t:=t) (b:=b) (by lia);show ((nm ((t:Rat) / (b:Rat))).1).natAbs<=W
  rw[<- this];exact ai z h1
 ·have:=congrArg Prod.snd h;have z:=Jm (t:=t) (b:=b) (by lia);have hd:(((t:Rat) / (b:Rat)).den:Int)=hi t b:=this.symm;have hp:=Ct (t:=t) hb
  lia
theorem Ek {K:FG9} {H:Hp} {qs:List Rat} {xs:List V} (h:Paired (b6 K H) qs xs) {j:Nat} (hj:j < qs.length):∃v,CC xs (j:Int)=some v/\b6 K H (qs.getD j 0) v:=by
 have hl:=h.length;refine ⟨xs[j]'(by lia),eX (by simp),?_⟩;have:=jw h (i:=j) hj (by lia);rwa [aa,af hj]
theorem yY {xs ys:List Rat} {i:Nat} (h1:i < xs.length) (h2:i < ys.length):cY (xs.take (i+1)) (ys.take (i+1))=cY (xs.take i) (ys.take i)+xs.getD i 0*ys.getD i 0:=by
 have e1:xs[i]?=some (xs.getD i 0):=by rw[aa,af h1];rfl
 have e2:ys[i]?=some (ys.getD i 0):=by rw[aa,af h2];rfl
 unfold cY;rw[take_snoc e1,take_snoc e2,List.zipWith_append (by simp;lia),List.sum_append];simp [rM]
theorem getD_mem {xs:List Rat} {i:Nat} (h:i < xs.length):xs.getD i 0∈xs:=by
 rw[aa,af h];exact aN h
theorem yq {xs ys:List Rat} (h:ys.length=xs.length):List.zipWith (λx y=>x+y) xs ys=(List.range xs.length).map λi=>xs.getD i 0+ys.getD i 0:=by
 apply nL;intro i;rw[bO,az];by_cases hi:i < xs.length
 ·rw[eo hi,af hi,af (show i < ys.length by lia)];simp [aa,af hi,af (show i < ys.length by lia)]
 ·rw[aP (show (List.range xs.length).length<=i by simp;lia),aP (show xs.length<=i by lia)];rfl
theorem cZ.updL {K:FG9} {H0 H:Hp} {qs:List Rat} {x:V} {l:Addr} {ys:List V} {o:HO} (h:cZ K H0 H qs x) (hl:H l=some (.lst ys)) (nl:H0 l≠none):cZ K H0 (upd H l o) qs x:=by obtain ⟨q,a,b,c⟩:=h;exact ⟨q,a,b,c.updL hl λz=>nl (by rw[<- z];exact b)⟩
theorem iQ.at {H:Hp} {b:Addr} (B:iQ H b):H b≠none:=by obtain ⟨_,_,_,_,_,e,_⟩:=B;rw[e];simp
theorem Inner.at {H:Hp} {b q:Addr} (B:iQ H b) (i:Inner H b q):H q≠none:=by
 obtain ⟨q',i',xs,e⟩:=B.inner;rw[<- Inner.inj i' i,e];simp
theorem jx {α β:Type} {F:α->β->Prop} {l1:List α} {l2:List β} {i:Nat} (h:Paired F l1 l2) (hi:i < l1.length):∃x y,l1[i]?=some x/\l2[i]?=some y/\x∈l1/\F x y:=by
 have hl:=h.length;exact ⟨l1[i],l2[i]'(by lia),by simp,by simp,aN _,jw h hi (by lia)⟩
section
variable {α β:Type} [DecidableEq α] [DecidableEq β] (k1:Kind α) (k2:Kind β)
theorem uK {X:Cx} {pins:List (Addr×Obj)} {σ:St} {H:Hp} {s:Shared} {A:Around} (I:Inv X pins σ H s) (h1:A.units+k1.d < cLine) (h2:A.units+k2.d < cLine) {x y z w:V} {us ws:List Value} {a b:α×β}
  (rx:cp [x,y] us) (ry:cp [z,w] ws) (a1:k1.R X.K H x a.1) (a2:k2.R X.K H y a.2) (b1:k1.R X.K H z b.1) (b2:k2.R X.K H w b.2) :
  ∀j (h1:j < us.toArray.size) (h2:j < ws.toArray.size),SeqAt.EqAt A s us.toArray[j] ws.toArray[j] (if j=0 then decide (a.1=b.1) else decide (a.2=b.2)):=λj l1 l2=>by
 obtain ⟨u1,u2,rfl,r1,r2⟩:=vals2 rx;obtain ⟨w1,w2,rfl,q1,q2⟩:=vals2 ry;have hj:j < 2:=by simpa using l1
 rcases cM j 1 with h | h
 ·have e:j=0:=by lia
  subst e;exact k1.eq (A:=A) I r1 q1 a1 b1 h1
 ·have e:j=1:=by lia
  subst e;exact k2.eq (A:=A) I r2 q2 a2 b2 h2
theorem zo {a b:α×β}:(List.range 2).all (λj=>if j=0 then decide (a.1=b.1) else decide (a.2=b.2))=decide (a=b):=by
 have e:List.range 2=[0,1]:=rfl;rw[e];simp only[KP,List.all_nil,Bool.and_true,if_true,Nat.one_ne_zero,if_false];rw[<- Bool.decide_and];exact decide_eq_decide.mpr ⟨λ⟨h1,h2⟩=>Prod.ext h1 h2,λh=>by rw[h];exact ⟨rfl,rfl⟩⟩
def LA:Kind (α×β) where
 R:=λK H x a=>∃p u v,x=.ref p/\rH K H p [u,v]/\k1.R K H u a.1/\k2.R K H v a.2
 d:=max k1.d k2.d+1
 inj:=λ{X pins σ H s x a b} I h1 h2=>by
  obtain ⟨p,u,v,rfl,hp,a1,a2⟩:=h1;obtain ⟨q,u',v',e,hq,b1,b2⟩:=h2;cases e;have e:=I.tuple_inj hp hq;cases e;exact Prod.ext (k1.inj I a1 b1) (k2.inj I a2 b2)
 rc:=λ{X pins σ H s x y v u a b A} I rx ry h1 h2 hA=>by
  obtain ⟨p,x1,x2,rfl,hp,a1,a2⟩:=h1;obtain ⟨q,y1,y2,rfl,hq,b1,b2⟩:=h2;cases rx;cases ry;obtain ⟨us,r1,t1,_⟩:=I.tuple hp;obtain ⟨ws,r2,t2,_⟩:=I.tuple hq;have l1:=r1.length;have l2:=r2.length;have z:=SeqAt.RcAt.tuples (A:=A) (e:=λj=>if j=0 then decide (a.1=b.1) else decide (a.2=b.2)) (show s.heap.IsTuple p us.toArray from t1) (show s.heap.IsTuple q ws.toArray from t2) (by lia) (uK k1 k2 (A:=A.in1) I (by show A.units+1+k1.d < cLine;lia) (by show A.units+1+k2.d < cLine;lia) r1 r2 a1 a2 b1 b2);have e1:us.toArray.size=2:=by rw[aJ,<- l1];rfl
  have e2:ws.toArray.size=2:=by rw[aJ,<- l2];rfl
  rw[e1,e2,nI,zo] at z;simpa using z
 ne:=λ{X pins σ H s x y v u a b A} I rx ry h1 h2 hA=>by
  obtain ⟨p,x1,x2,rfl,hp,a1,a2⟩:=h1;obtain ⟨q,y1,y2,rfl,hq,b1,b2⟩:=h2;cases rx;cases ry;obtain ⟨us,r1,t1,_⟩:=I.tuple hp;obtain ⟨ws,r2,t2,_⟩:=I.tuple hq;have l1:=r1.length;have l2:=r2.length;have z:=SeqAt.RcNeAt.tuples (A:=A) (e:=λj=>if j=0 then decide (a.1=b.1) else decide (a.2=b.2)) (show s.heap.IsTuple p us.toArray from t1) (show s.heap.IsTuple q ws.toArray from t2) (by lia) (uK k1 k2 (A:=A.in1) I (by show A.units+1+k1.d < cLine;lia) (by show A.units+1+k2.d < cLine;lia) r1 r2 a1 a2 b1 b2);have e1:us.toArray.size=2:=by rw[aJ,<- l1];rfl
  have e2:ws.toArray.size=2:=by rw[aJ,<- l2];rfl
  rw[e1,e2,nI,zo] at z;simpa using z
 eq:=λ{X pins σ H s x y v u a b A} I rx ry h1 h2 hA=>by
  obtain ⟨p,x1,x2,rfl,hp,a1,a2⟩:=h1;obtain ⟨q,y1,y2,rfl,hq,b1,b2⟩:=h2;cases rx;cases ry;by_cases e:p=q
  ·subst e;have e:=I.tuple_inj hp hq;cases e;have e2:a=b:=Prod.ext (k1.inj I a1 b1) (k2.inj I a2 b2);rw[decide_eq_true e2];exact SeqAt.EqAt.same _
  ·obtain ⟨us,r1,t1,_⟩:=I.tuple hp;obtain ⟨ws,r2,t2,_⟩:=I.tuple hq;have l1:=r1.length;have l2:=r2.length;have z:=SeqAt.RcAt.tuples (A:=A) (e:=λj=>if j=0 then decide (a.1=b.1) else decide (a.2=b.2)) (show s.heap.IsTuple p us.toArray from t1) (show s.heap.IsTuple q ws.toArray from t2) (by lia) (uK k1 k2 (A:=A.in1) I (by show A.units+1+k1.d < cLine;lia) (by show A.units+1+k2.d < cLine;lia) r1 r2 a1 a2 b1 b2);have e1:us.toArray.size=2:=by rw[aJ,<- l1];rfl
   have e2:ws.toArray.size=2:=by rw[aJ,<- l2];rfl
   rw[e1,e2,nI,zo] at z;exact .of_refs e (by simpa using z)
end
theorem DI {i j:Int} (h1:-(2^64) < i) (h2:i < 2^64):gP i j:=.inl (.inl ⟨h1,h2⟩)
theorem IE {i j:Int} (h1:-(2^64) < j) (h2:j < 2^64):gP i j:=.inl (.inr ⟨h1,h2⟩)
def KD (K : FG9) (l : Addr) : It :=
  ⟨λi H => ∃ xs x, bI K H l xs /\ xs[i]? = some x,
   λi H v H' => ∃ p x, v = .ref p /\ H p = none /\ H' = upd H p (.tup [.int i, x]) /\ ∀ xs, bI K H l xs → xs[i]? = some x,
   λi H => ∃ xs, bI K H l xs /\ xs.length ≤ i⟩
def tnE (e it l:Addr) (i:Nat) (h:Heap):Prop:=(∃old,IsEnum h e it i old)/\h.IsListIter it l i
theorem DV {P:Program} {w:World} {K:FG9} {elts:List Expr} {kk:Nat} {tpos:Pos} (e it l:Addr) (hei:e≠it):Turn P w K (.Tuple elts kk tpos) (KD K l) [e,it] e (tnE e it l) where
 mem:=by simp
 obj:=λi h st b hb=>by
  obtain ⟨⟨old,he⟩,⟨o1,g1,c1,d1⟩⟩:=st;simp only[aE,aS,or_false] at hb;rcases hb with rfl | rfl
  ·exact ⟨_,he,λv q=>nomatch q⟩
  ·exact ⟨o1,g1,λv q=>by rw[d1] at q;cases q⟩
 keep:=λi h h' st k=>by
  obtain ⟨⟨old,he⟩,h1⟩:=st;exact ⟨⟨old,k e (by simp) _ he⟩,h1.at λo q=>k it (by simp) o q⟩
 item:=by
  intro X hP hw hK hc i pins s σ H E I hf st hg;subst hP hw hK;obtain ⟨⟨old,he⟩,h1⟩:=st;obtain ⟨xs,x,qx,ex⟩:=hg;obtain ⟨us,rx,px,_⟩:=I.list qx;obtain ⟨u,eu,ru⟩:=rx.get ex;refine wpAny_pyNext_enum_item he h1 px.isList (x:=u) (by simpa using eu) hei λh' a1 a2 a3 a4 hk=>?_
  refine ⟨_,rfl,wpAny_letOwnedTupleGo_enum a1 λh'' he'' hs=>?_⟩;have hT0:H s.heap.objs.size=none:=I.hok.fresh (au _);have ene:s.heap.objs.size≠e:=DS (Heap.lt_size he)
  have up:∀b o,b∉[e,it]->s.heap.get? b=some o->h''.get? b=some o:=λb o hb q=>by
   simp only[aE,aS,or_false,not_or] at hb;exact (hs.2 b hb.1).trans (hk b o hb.1 hb.2 q)
  have tup:h''.get? s.heap.objs.size=some { cls:=.type "tuple",data:=.seq #[.int i s.toks,u] }:=(hs.2 _ ene).trans a3;have I1:Inv X pins σ H { s with heap:=h'',toks:=s.toks+1 }:=I.moved (g':=s.gens) (d':=s.drawn) (t':=s.toks+1) (ch:=[e,it]) hf up I.bare;have fT:jA X pins H s.heap.objs.size:=I.fpOk (au _) hT0;have I2:=I1.track (o:=.tup [.int i,x]) fT ⟨iU rfl,[.int i s.toks,u],.cons ⟨_,rfl⟩ (.cons ru .nil),⟨_,tup,rfl,_,rfl⟩⟩;refine ⟨.ref s.heap.objs.size,_,I2,rfl,⟨_,x,rfl,hT0,rfl,λxs' q=>by rw[I.list_inj q qx];exact ex⟩,?_,λb hb=>?_⟩
  ·exact ⟨⟨_,by simpa using he''⟩,a2.at λo q=>(hs.2 _ hei.symm).trans q⟩
  ·rw[aU]
   ·exact (hf b hb).1
   ·obtain ⟨o1,g1,_⟩:=h1;simp only[aE,aS,or_false] at hb;rcases hb with rfl | rfl
    ·exact ene.symm
    ·exact b7 (Heap.lt_size g1)
 done:=by
  intro X hP hw hK hc i pins s σ H E I hf st hg;subst hP hw hK;obtain ⟨⟨old,he⟩,h1⟩:=st;obtain ⟨xs,qx,hend⟩:=hg;obtain ⟨us,rx,px,_⟩:=I.list qx;have lx:=rx.length;refine wpAny_pyNext_enum_end (I.ok.hd hc) he h1 px.isList (by simp;lia) λh' hk=>⟨rfl,?_⟩
  exact I.moved (g':=s.gens) (d':=s.drawn) (t':=s.toks) (ch:=[e,it]) hf (λb o hb q=>hk b o (λz=>hb (by simp [z])) q) I.bare
 self:=λ_ _ _ _ _ st h=>let ⟨⟨_,he⟩,_⟩:=st;wpAny_pyIter_enum he h
section
variable {X:Cx}
def Jl (K:FG9) (ta:TA):TI:=λσ H R=>ta σ H λvs H1=>∃l,vs=[.ref l]/\(∃xs,bI K H1 l xs)/\R (KD K l) H1
theorem Dc {a:Expr} {ta:TA} {p pos tpos:Pos} {elts:List Expr} {kk:Nat} (hg:Gl X "enumerate") (hm:X.mg "enumerate"=none) (ha:PA X [a] ta) (hs:starEach [a] X.env=[(false,eval a X.env)]:=by rfl) :
  PI X (.Tuple elts kk tpos) (.Call (.Name "enumerate" p) [a] [] pos) (Jl X.K ta):=by
 intro pins s σ H R I h;refine Call_ (kr I hg hm boot_enumerate (PyProof.Rows.callWith_type1 (ff (ha pos pins s σ H _ I h) λus s1 ⟨vs,H1,I1,r1,q1⟩=>?_) (by rw[hs];rfl) rfl));obtain ⟨l,e,⟨xs,qx⟩,q⟩:=q1;subst e;obtain ⟨u,rfl,ru⟩:=vals1 r1;cases ru;obtain ⟨us,rx,px,_⟩:=I1.list qx;refine call_enumerate_list px.isList λh' a1 a2 a3 hk=>wpAny_pyIter_enum a1 ?_
 have I2:Inv X pins σ H1 { s1 with heap:=h' }:=I1.kept (t':=s1.toks) hk;refine ⟨_,[s1.heap.objs.size+1,s1.heap.objs.size],_,_,H1,rfl,I2,DV (s1.heap.objs.size+1) s1.heap.objs.size l (Nat.succ_ne_self _),⟨⟨_,a1⟩,a2⟩,λb hb=>?_,q⟩
 have hb':s1.heap.objs.size<=b:=by
  simp only[aE,aS,or_false] at hb;rcases hb with rfl | rfl <;> first | exact zh _ | exact au _
 exact I1.fpOk hb' (I1.hok.fresh hb')
end
theorem Fc {K:FG9} {ta:TA} {R:It->Hp->Prop} {σ:St} {H:Hp} (h:ta σ H λvs H1=>∃l,vs=[.ref l]/\(∃xs,bI K H1 l xs)/\R (KD K l) H1):Jl K ta σ H R:=h
theorem FT {K:FG9} {l:Addr} {xs:List V} {g:TG} {tb:TS} {D:Ends} {σ:St} {H:Hp} (Pv:Nat->St->Hp->Prop) (h0:Pv 0 σ H) (hl:∀i σ H,i<=xs.length->Pv i σ H->bI K H l xs)
  (hs:∀i x σ H p,xs[i]?=some x->Pv i σ H->H p=none->g (.ref p) σ (upd H p (.tup [.int i,x])) λσ2 H2=>tb { D with nx:=Pv (i+1),ct:=Pv (i+1),bk:=D.nx } σ2 H2) (hd:∀σ H,Pv xs.length σ H->D.nx σ H) :
  ∃W:Nat->Nat->St->Hp->Prop,(∃m,W 0 m σ H)/\∀i m σ H,W i m σ H →
   ((KD K l).stop i H/\D.nx σ H)\/((KD K l).go i H/\∃N:St->Hp->Prop,(∀σ' H',N σ' H'->∃m',m' < m/\W (i+1) m' σ' H')/\∀x H',(KD K l).yld i H x H'->g x σ H' λσ2 H2=>tb { D with nx:=N,ct:=N,bk:=D.nx } σ2 H2):=by
 refine ⟨λi m σ H=>m=xs.length - i/\i<=xs.length/\Pv i σ H,⟨xs.length,by simp,bo _,h0⟩,?_⟩;rintro i m σ H ⟨rfl,hi,p⟩;have q1:=hl i σ H hi p;by_cases hlt:i < xs.length
 ·refine .inr ⟨⟨xs,xs[i],q1,by simp [hlt]⟩,Pv (i+1),λσ' H' p'=>⟨xs.length - (i+1),by lia,rfl,hlt,p'⟩,λx H' y=>?_⟩;obtain ⟨r,x',rfl,hr,rfl,e1⟩:=y;exact hs i x' σ _ r (e1 xs q1) p hr
 ·have e:i=xs.length:=by lia
  subst e;exact .inl ⟨⟨xs,q1,au _⟩,hd σ H p⟩
section
variable {X:Cx}
theorem Ih (K:FG9) {e:Expr} {f:Str} {pos:Pos} {ta:TE} (he:PE X e ta) (hb:attributeBase e f X.env (eval e X.env)=eval e X.env) (hK:X.K=K:=by rfl):PE X (.Attribute e f pos) (JD K ta f):=by subst hK;exact cR he hb
def Ff (K:FG9) (C:Addr):V->Hp->VK->Prop:=λx H Q=>∃t b,tE K H x t/\PySem.W.kitOne K t (.ref C)=some b/\Q (.bl b) H
theorem Ka {a:Expr} {ta:TE} {pos:Pos} {c:Str} {C:Addr} {p p2:Pos} (hg:Gl X "isinstance") (hm:X.mg "isinstance"=none) (hgc:Gl X c) (hmc:X.mg c=some (.ref C)) (ha:PE X a ta)
  (hd:(c == ("__debug__":Str))=false:=by decide) (he:starEach [a,.Name c p2] X.env=[(false,eval a X.env),(false,eval (.Name c p2) X.env)]:=by rfl)
  (hpl:(backTo pos (starEach [.Name c p2] X.env)).any (·.1)=false:=by rfl) (he2:starEach [.Name c p2] X.env=[(false,eval (.Name c p2) X.env)]:=by rfl):PE X (.Call (.Name "isinstance" p) [a,.Name c p2] [] pos) (KS (Ff X.K C) ta):=by
 intro pins s σ H Q I h;refine wpAny_Call_Name_kw (kr I hg hm PyProof.Rows.boot_isinstance ?_);have hA:PA X [a,.Name c p2] (lY ta (lY (tC (.ref C)) Av)):=ae ha (ae (mM hgc hmc rfl hd) aj he2) (by rw[he,he2])
 have hq:lY ta (lY (tC (.ref C)) Av) σ H (λvs H1=>∃x,vs=[x,.ref C]/\Ff X.K C x H1 Q):=by
  show ta σ H λx H1=>∃x',[x,V.ref C]=[x',V.ref C]/\Ff X.K C x' H1 Q
  have e:(λx H1=>∃x',[x,V.ref C]=[x',V.ref C]/\Ff X.K C x' H1 Q)=λx H1=>Ff X.K C x H1 Q:=by
   funext x H1;apply propext;constructor
   ·rintro ⟨x',e,q⟩;cases e;exact q
   ·intro q;exact ⟨x,rfl,q⟩
  rw[e];exact h
 refine PyProof.Rows.callWith_builtin1 (ff (hA pos pins s σ H _ I hq) λus s1 ⟨vs,H1,I1,r1,x,e,q1⟩=>?_) (by rw[he,he2]) hpl;subst e;obtain ⟨u,w',rfl,ru,rt⟩:=vals2 r1;cases rt;obtain ⟨t,bb,ty,ek,q⟩:=q1;exact uZ I1 ru ty ek λtk=>⟨.bl bb,H1,I1.tok tk,rfl,q⟩
end
theorem JY {K:FG9} {ta:TE} {f:Str} {σ:St} {H:Hp} {Q:VK} (h:ta σ H λx H1=>∃a C dx fs v,x=.ref a/\H1 a=some (.ins C dx fs)/\EC K C/\jg K C f/\fs.lookup f=some v/\Q v H1):JD K ta f σ H Q:=h
theorem HH {K:FG9} {ta tv:TE} {f:Str} {D:Ends} {σ:St} {H:Hp} (h:tv σ H λy H1=>ta σ H1 λx H2=>∃a C dx fs,x=.ref a/\H2 a=some (.ins C dx fs)/\EC K C/\jg K C f/\fs.length < 1000 /\
 D.nx σ (upd H2 a (.ins C dx (bQ f y fs)))):Lb K ta tv f D σ H:=h
theorem HL {C:Addr} {m:Str} {sp:Sp} {E:XK} {ta:TE} {t:TA} {σ:St} {H:Hp} {Q:VK} (h:ta σ H λx H1=>∃a dx fs,x=.ref a/\H1 a=some (.ins C dx fs)/\fs.lookup m=none /\
 t σ H1 λvs H2=>sp (x :: vs) H2 Q E):IX C m sp [] E ta t σ H Q:=by
 have e:(λ(x:V) H1=>∃a dx fs,x=.ref a/\H1 a=some (.ins C dx fs)/\fs.lookup m=none/\t σ H1 λvs H2=>sp (x :: (vs++[])) H2 Q E)=λx H1=>∃a dx fs,x=.ref a/\H1 a=some (.ins C dx fs)/\fs.lookup m=none/\t σ H1 λvs H2=>sp (x :: vs) H2 Q E:=by
  funext x H1;simp only[xY]
 show ta σ H (λ(x:V) H1=>∃a dx fs,x=.ref a/\H1 a=some (.ins C dx fs)/\fs.lookup m=none/\t σ H1 λvs H2=>sp (x :: (vs++[])) H2 Q E)
 rw[e];exact h
theorem HM {C:Addr} {sp:Sp} {E:XK} {t:TA} {σ:St} {H:Hp} {Q:VK} (h:t σ H λvs H1=>∀x dx,H1 x=none->H1 dx=none->dx≠x →
 sp (.ref x :: vs) (upd (upd H1 dx (.own x)) x (.ins C dx [])) (λv H2=>v=.non/\Q (.ref x) H2) E):IY C sp [] E t σ H Q:=by
 have e:(λvs (H1:Hp)=>∀x dx,H1 x=none->H1 dx=none->dx≠x->sp (.ref x :: (vs++[])) (upd (upd H1 dx (.own x)) x (.ins C dx [])) (λv H2=>v=.non/\Q (.ref x) H2) E)=λvs H1=>∀x dx,H1 x=none->H1 dx=none->dx≠x->sp (.ref x :: vs) (upd (upd H1 dx (.own x)) x (.ins C dx [])) (λv H2=>v=.non/\Q (.ref x) H2) E:=by
  funext vs H1;simp only[xY]
 show t σ H (λvs (H1:Hp)=>∀x dx,H1 x=none->H1 dx=none->dx≠x->sp (.ref x :: (vs++[])) (upd (upd H1 dx (.own x)) x (.ins C dx [])) (λv H2=>v=.non/\Q (.ref x) H2) E)
 rw[e];exact h
def Ao (x:Addr) (H H':Hp):Prop:=∀b o,H b=some o->b≠x->H' b=some o
theorem Ao.upd {x:Addr} {H:Hp} {o:HO}:Ao x H (L2.upd H x o):=λb u h n=>by rw[aU n];exact h
def sL (H:Hp) (x:Addr):Prop:=∃C dx fs,H x=some (.ins C dx fs)
section
variable {K:FG9} {H H' H0:Hp} {q:Rat} {v:V} {x p:Addr} {qs:List Rat} {rows:LR9}
theorem b6.exc (h:b6 K H q v) (e:Ao x H H') (hx:sL H x):b6 K H' q v:=by
 obtain ⟨C,dx,fs,hx⟩:=hx;obtain ⟨r,er,s⟩:=h;refine ⟨r,er,?_⟩;rcases s with (h | ⟨o,h⟩) | h
 ·exact .inl (.inl (e _ _ h λz=>by rw[z,hx] at h;cases h))
 ·exact .inl (.inr ⟨o,e _ _ h λz=>by rw[z,hx] at h;cases h⟩)
 ·exact .inr h
theorem dC.exc (h:dC K H p qs) (e:Ao x H H') (hx:sL H x):dC K H' p qs:=by
 obtain ⟨xs,g,r⟩:=h;have hx':=hx;obtain ⟨C,dx,fs,hx⟩:=hx;exact ⟨xs,e _ _ g (λz=>by rw[z,hx] at g;cases g),Paired.imp' (λ_ _ z=>z.exc e hx') r⟩
theorem cZ.exc (h:cZ K H0 H qs v) (e:Ao x H H') (hx:sL H x):cZ K H0 H' qs v:=by obtain ⟨q,a,b,c⟩:=h;exact ⟨q,a,b,c.exc e hx⟩
theorem bu.exc (h:bu K H0 H p rows) (e:Ao x H H') (hx:sL H x):bu K H0 H' p rows:=by
 obtain ⟨xs,g,r,n⟩:=h;have hx':=hx;obtain ⟨C,dx,fs,hx⟩:=hx;exact ⟨xs,e _ _ g (λz=>by rw[z,hx] at g;cases g),Paired.imp' (λ_ _ z=>z.exc e hx') r,n⟩
end
def j7 (a b c:Addr) (n i o:Nat):List (Str×V):=bQ "outs" (.int o) (bQ "look" (.ref c) (bQ "ins" (.int i) (bQ "put" (.ref b) (bQ "states" (.int n) (bQ "move" (.ref a) [])))))
section
variable {a b c:Addr} {n i o:Nat}
theorem ER:(j7 a b c n i o).lookup ("outs":Str)=some (.int o):=by
 unfold j7;rw[aO,if_pos rfl]
theorem wD:(j7 a b c n i o).lookup ("look":Str)=some (.ref c):=by
 unfold j7;rw[aO,if_neg (by decide +kernel),aO,if_pos rfl]
theorem G6:(j7 a b c n i o).lookup ("ins":Str)=some (.int i):=by
 unfold j7;rw[aO,if_neg (by decide +kernel),aO,if_neg (by decide +kernel),aO,if_pos rfl]
theorem tO:(j7 a b c n i o).lookup ("put":Str)=some (.ref b):=by
 unfold j7;rw[aO,if_neg (by decide +kernel),aO,if_neg (by decide +kernel),aO,if_neg (by decide +kernel),aO,if_pos rfl]
theorem eK:(j7 a b c n i o).lookup ("states":Str)=some (.int n):=by
 unfold j7;rw[aO,if_neg (by decide +kernel),aO,if_neg (by decide +kernel),aO,if_neg (by decide +kernel),aO,if_neg (by decide +kernel),aO,if_pos rfl]
theorem p4:(j7 a b c n i o).lookup ("move":Str)=some (.ref a):=by
 unfold j7;rw[aO,if_neg (by decide +kernel),aO,if_neg (by decide +kernel),aO,if_neg (by decide +kernel),aO,if_neg (by decide +kernel),aO,if_neg (by decide +kernel),aO,if_pos rfl]
theorem ES {m:Str} (h1:¬m="outs") (h2:¬m="look") (h3:¬m="ins") (h4:¬m="put") (h5:¬m="states") (h6:¬m="move"):(j7 a b c n i o).lookup m=none:=by
 unfold j7;rw[aO,if_neg h1,aO,if_neg h2,aO,if_neg h3,aO,if_neg h4,aO,if_neg h5,aO,if_neg h6];rfl
theorem DW:(j7 a b c n i o).lookup ("moved":Str)=none:=ES (by decide +kernel) (by decide +kernel) (by decide +kernel) (by decide +kernel) (by decide +kernel) (by decide +kernel)
theorem EO:(j7 a b c n i o).lookup ("seen":Str)=none:=ES (by decide +kernel) (by decide +kernel) (by decide +kernel) (by decide +kernel) (by decide +kernel) (by decide +kernel)
end
theorem dm {k:Str} {v:V}:∀{l:List (Str×V)},(bQ k v l).length<=l.length+1
 | []=>au _
 | (x,y) :: r=>by
  unfold bQ
  split
  ·simp
  ·have:=dm (k:=k) (v:=v) (l:=r);simp only[bJ]
   lia
structure mI (mv pt lk:LR9):Prop where
 n8:mv.length<=8
 i4:pt.length<=4
 o4:lk.length<=4
 mw:∀xs∈mv,xs.length=mv.length
 pw:∀xs∈pt,xs.length=mv.length
 lw:∀xs∈lk,xs.length=mv.length
def vP (mv pt lk:LR9):Prop:=∃M V:Nat,0 < M/\M<=2^800/\V<=2^400/\GF M V mv/\GF M V pt/\GF M V lk
def ks (K:FG9) (H0 H:Hp) (C p:Addr) (mv pt lk:LR9):Prop:=∃dx a b c,H p=some (.ins C dx (j7 a b c mv.length pt.length lk.length))/\H0 a=none/\H0 b=none/\H0 c=none/\bu K H0 H a mv/\bu K H0 H b pt/\bu K H0 H c lk
section
variable {K:FG9} {H H' H0 H1:Hp} {C p b:Addr} {mv pt lk:LR9}
theorem ks.same (h:ks K H0 H C p mv pt lk) (e:aH H H'):ks K H0 H' C p mv pt lk:=by obtain ⟨dx,a,b,c,g,n1,n2,n3,g1,g2,g3⟩:=h;exact ⟨dx,a,b,c,e _ _ g,n1,n2,n3,g1.same e,g2.same e,g3.same e⟩
theorem ks.upto (h:ks K H0 H C p mv pt lk) (u:cB b H H') (B:iQ H b) (nb:H0 b≠none):ks K H0 H' C p mv pt lk:=by
 obtain ⟨dx,a,b',c,g,n1,n2,n3,g1,g2,g3⟩:=h;refine ⟨dx,a,b',c,u.other (λz=>by obtain ⟨_,_,_,_,_,e,_⟩:=B;rw[z,e] at g;cases g) g,n1,n2,n3,g1.upto u B (λz=>nb (by rw[<- z];exact n1)) nb,g2.upto u B (λz=>nb (by rw[<- z];exact n2)) nb,g3.upto u B (λz=>nb (by rw[<- z];exact n3)) nb⟩
theorem ks.weak (h:ks K H0 H C p mv pt lk) (e:aH H1 H0):ks K H1 H C p mv pt lk:=by obtain ⟨dx,a,b,c,g,n1,n2,n3,g1,g2,g3⟩:=h;exact ⟨dx,a,b,c,g,e.none n1,e.none n2,e.none n3,g1.weak e,g2.weak e,g3.weak e⟩
theorem vP.fits (h:vP mv pt lk) {l:List Rat} (hl:∀x∈l,(∃xs∈mv,x∈xs)\/(∃xs∈pt,x∈xs)\/(∃xs∈lk,x∈xs)\/x=0):Fits l:=by
 obtain ⟨M,V,h0,h1,h2,h3,h4,h5⟩:=h;refine ⟨M,V,h0,ai h1 (ah (by decide) (by decide)),ai h2 (ah (by decide) (by decide)),λx hx=>?_⟩;rcases hl x hx with ⟨xs,a,b⟩ | ⟨xs,a,b⟩ | ⟨xs,a,b⟩ | rfl
 ·exact h3 xs a x b
 ·exact h4 xs a x b
 ·exact h5 xs a x b
 ·exact Fr.zero
end
def DY:Sp:=λvs H Q _=>∃i:Int,vs=[.int i]/\Q (.bl true) H
def D1 (K:FG9):Sp:=λvs H Q _=>∃x n,vs=[x]/\CM K H x n/\BJ n/\∀H',aH H H'->Q (.bl true) H'
inductive CY (vs:List V) (H:Hp) (Q:VK) (E9:XK):Prop
 | mk (p:Addr) (xs:List V) (a m:Int):vs=[.ref p,.int a,.int m]->H p=some (.lst xs)->(xs.length:Int)<=m->Q .non H->CY  vs H Q E9
inductive C0 (K:FG9) (vs:List V) (H:Hp) (Q:VK) (E9:XK):Prop
 | mk (p:Addr) (H0:Hp) (rows:LR9) (w:Nat):vs=[.ref p,.int w]->bu K H0 H p rows->rows.length<=1000->w<=1000->((∀xs∈rows,xs.length=w/\∀x∈xs,BJ (nm x)))->(∀r H',H r=none->aH H H'->bu K H H' r rows->Q (.ref r) H')->C0 K vs H Q E9
def KJ (rows:LR9):Prop:=∀xs∈rows,∀x∈xs,BJ (nm x)
inductive CZ (K:FG9) (C:Addr) (vs:List V) (H:Hp) (Q:VK) (E9:XK):Prop
 | mk (x dx p q r:Addr) (Hb H0 H1 H2:Hp) (mv pt lk:LR9):vs=[.ref x,.ref p,.ref q,.ref r]->Hb x=none->Hb dx=none->dx≠x->H=upd (upd Hb dx (.own x)) x (.ins C dx [])->bu K H0 Hb p mv->bu K H1 Hb q pt->bu K H2 Hb r lk->mI mv pt lk->KJ mv->KJ pt->KJ lk->(∀H',aH Hb H'->ks K Hb H' C x mv pt lk->Q .non H')->CZ K C vs H Q E9
def fD (mv pt:LR9) (st pu:List Rat):List Rat:=List.zipWith (λline col=>cY (line++col) (st++pu)) mv (de pt mv.length)
def seenQ (lk:LR9) (st:List Rat):List Rat:=lk.map λxs=>cY xs st
theorem vP.ok {mv pt lk:LR9} (h:vP mv pt lk):KJ mv/\KJ pt/\KJ lk :=
 ⟨λxs hx x hx'=>(h.fits (l:=xs) λy hy=>.inl ⟨xs,hx,hy⟩).ok hx',λxs hx x hx'=>(h.fits (l:=xs) λy hy=>.inr (.inl ⟨xs,hx,hy⟩)).ok hx',λxs hx x hx'=>(h.fits (l:=xs) λy hy=>.inr (.inr (.inl ⟨xs,hx,hy⟩))).ok hx'⟩
def e8 (K:FG9) (A:Addr->Prop) (H:Hp) (n:Nat) (C:Rat->Prop) (x:V):Prop:=∃q qs,x=V.ref q/\A q/\dC K H q qs/\qs.length=n/\∀y∈qs,C y
section
variable {K:FG9} {A A':Addr->Prop} {H H' H0:Hp} {n:Nat} {C C':Rat->Prop} {x v:V} {q b l p:Addr} {xs zs:List V} {y:Rat} {o:HO}
theorem e8.same (h:e8 K A H n C x) (e:aH H H'):e8 K A H' n C x:=by obtain ⟨q,qs,a,c,r,z⟩:=h;exact ⟨q,qs,a,c,r.same e,z⟩
theorem e8.upto (h:e8 K A H n C x) (u:cB b H H') (B:iQ H b) (nb:¬A b):e8 K A H' n C x:=by obtain ⟨q,qs,a,c,r,z⟩:=h;exact ⟨q,qs,a,c,r.upto u B (λe=>nb (by rw[<- e];exact c)),z⟩
theorem e8.other (h:e8 K A H n C x) (hl:H l=some (.lst zs)) (nl:¬A l):e8 K A (upd H l o) n C x:=by obtain ⟨q,qs,a,c,r,z⟩:=h;exact ⟨q,qs,a,c,r.updL hl (λe=>nl (by rw[<- e];exact c)),z⟩
theorem e8.weak (h:e8 K A H n C x) (w:∀q,A q->A' q) (wc:∀y,C y->C' y):e8 K A' H n C' x:=by obtain ⟨q,qs,a,c,r,l,z⟩:=h;exact ⟨q,qs,a,w q c,r,l,λy hy=>wc y (z y hy)⟩
theorem xf {α β:Type} {F:α->β->Prop} {a:α} {b:β} (h:F a b):∀{l1:List α} {l2:List β} (j:Nat),Paired F l1 l2->Paired F (l1.set j a) (l2.set j b)
 | _,_,_,.nil=>.nil
 | _,_,0,.cons _ t=>.cons h t
 | _,_,j+1,.cons r t=>.cons r (xf h j t)
theorem e8.put (h:e8 K A H n C x) (hq:H q=some (.lst zs)) (hv:b6 K H y v) (hc:C y) (j:Nat):e8 K A (upd H q (.lst (zs.set j v))) n C x:=by
 obtain ⟨q1,qs,rfl,a,⟨zs1,g1,pr⟩,l1,c1⟩:=h;by_cases e:q1=q
 ·subst e;rw[hq] at g1;cases g1;refine ⟨q1,qs.set j y,rfl,a,⟨_,aF,xf (hv.updL hq) j (Paired.imp' (λ_ _ z=>z.updL hq) pr)⟩,by rw[dY];exact l1,λz hz=>?_⟩;rcases bZ hz with hz | rfl
  ·exact c1 z hz
  ·exact hc
 ·exact ⟨q1,qs,rfl,a,⟨zs1,by rw[aU e];exact g1,Paired.imp' (λ_ _ z=>z.updL hq) pr⟩,l1,c1⟩
theorem e8.at (h:e8 K A H n C x):∃q zs qs,x=V.ref q/\A q/\H q=some (.lst zs)/\zs.length=n/\Paired (b6 K H) qs zs/\qs.length=n/\∀y∈qs,C y:=by obtain ⟨q,qs,a,c,⟨zs,g,pr⟩,l,z⟩:=h;exact ⟨q,zs,qs,a,c,g,by rw[<- pr.length];exact l,pr,l,z⟩
end
theorem qr {W:Nat} {i:Int} (h:i.natAbs<=W) (hW:1<=W):Dr W (i:Rat):=⟨h,hW⟩
def LR (K:FG9) (A:Addr->Prop) (H:Hp) (n:Nat) (C:Rat->Prop) (p:Addr) (m:Nat):Prop:=∃us,H p=some (.lst us)/\us.length=m/\¬A p/\∀x∈us,e8 K A H n C x
structure CN (A:Addr->Prop) (m p l b q0:Addr):Prop where
 am:¬A m
 ap:¬A p
 al:¬A l
 ab:¬A b
 aq:¬A q0
 mb:m≠b
 pb:p≠b
 lb:l≠b
 mp:m≠p
 ml:m≠l
 mq:m≠q0
theorem DC {M:Nat} {z:Int} (h:z.natAbs<=2):Fr 1 2 (z:Rat):=Fr.int h
theorem z5 {M W:Nat} {a c:Rat} {z:Int} (hz:z.natAbs<=2) (ha:Fr M W a) (hc:Fr M W c):Fr M (3*W) (a+(z:Rat)*c):=by
 have h:=(DC (M:=M) hz).mul hc;rw[Nat.one_mul] at h;exact (ha.add h).mono (by lia)
theorem zw {z:Int} (h:z.natAbs<=1000):pX (z:Rat):=Cw (M:=1) (V:=1000) (by decide) (eJ) (ai (show 1000<=2^10 by decide) (ah (by decide) (by decide))) (Fr.int h)
theorem wC {M W:Nat} {c:Rat} {z:Int} (hz:z.natAbs<=2) (hc:Fr M W c) (h0:0 < M) (h1:M<=2^800) (hW:W<=2^140):pX ((z:Rat)*c):=by
 have h:=(DC (M:=M) hz).mul hc;rw[Nat.one_mul] at h;refine Cw h0 (ai h1 (ah (by decide) (by decide))) (ai (gL 2 hW) ?_) h;rw[show 2*2^140=2^141 by rw[h7,cC]];exact ah (by decide) (by decide)
def gO (A:Addr->Prop) (b m:Addr) (H H':Hp):Prop:=∀c u,H c=some u->c≠b->¬A c->c≠m->H' c=some u
theorem gO.same {A:Addr->Prop} {b m:Addr} {H H1 H2:Hp} (h:gO A b m H H1) (s:aH H1 H2):gO A b m H H2:=λc u e n1 n2 n3=>s _ _ (h c u e n1 n2 n3)
theorem gO.upto {A:Addr->Prop} {b m:Addr} {H H1 H2:Hp} (h:gO A b m H H1) (s:cB b H1 H2):gO A b m H H2:=λc u e n1 n2 n3=>s.1 _ _ (h c u e n1 n2 n3) n1
theorem gO.upd {A:Addr->Prop} {b m q:Addr} {H H1:Hp} {o:HO} (h:gO A b m H H1) (hq:A q\/q=m):gO A b m H (L2.upd H1 q o):=λc u e n1 n2 n3=>by
 rw[aU]
 ·exact h c u e n1 n2 n3
 ·rintro rfl;rcases hq with hq | hq
  ·exact n2 hq
  ·exact n3 hq
theorem gO.new {A:Addr->Prop} {b m r:Addr} {H H1:Hp} (h:gO A b m H H1) (hA:∀q,H q=none->A q) (B:iQ H1 b) (hm:H1 m≠none) (hr:H1 r=none):A r:=by
 by_cases z:A r
 ·exact z
 ·cases e:H r with
  | none=>exact hA r e
  | some u =>
   have:=h r u e (λy=>B.at (by rw[<- y];exact hr)) z (λy=>hm (by rw[<- y];exact hr));rw[hr] at this;cases this
structure DR (K:FG9) (A:Addr->Prop) (n:Nat) (C:Rat->Prop) (r p b q0:Addr) (us:List V) (H0 H:Hp):Prop where
 gr:H r=some (.lst us)
 ru:∀x∈us,e8 K A H n C x
 rp:e8 K A H n C (.ref p)
 bag:iQ H b
 inn:Inner H b q0
 up:cB b H0 H
section
variable {K:FG9} {A:Addr->Prop} {n:Nat} {C:Rat->Prop} {r p b q0:Addr} {us:List V} {H0 H H':Hp} {y:Rat} {v:V}
theorem DR.same (h:DR K A n C r p b q0 us H0 H) (e:aH H H'):DR K A n C r p b q0 us H0 H':=⟨e _ _ h.gr,λx hx=>(h.ru x hx).same e,h.rp.same e,h.bag.same e,(e.upto (p:=b)).2 _ h.inn,h.up.same e⟩
theorem DR.upto (h:DR K A n C r p b q0 us H0 H) (u:cB b H H') (B:iQ H' b) (nb:¬A b) (rb:r≠b):DR K A n C r p b q0 us H0 H':=⟨u.other rb h.gr,λx hx=>(h.ru x hx).upto u h.bag nb,h.rp.upto u h.bag nb,B,u.2 _ h.inn,h.up.trans u⟩
theorem DR.put (h:DR K A n C r p b q0 us H0 H) (ap:A p) (nr:¬A r) (nb:¬A b) (nq:¬A q0) (hp:H0 p=none) (hv:b6 K H y v) (hc:C y) (j:Nat):∃zs,H p=some (.lst zs)/\zs.length=n/\DR K A n C r p b q0 us H0 (upd H p (.lst (zs.set j v))):=by
 obtain ⟨q,zs,qs,e,a,g,l,_⟩:=h.rp.at;cases e;have ne:∀{z},¬A z->z≠p:=λh e=>h (by rw[e];exact ap)
 exact ⟨zs,g,l,by rw[aU (ne nr)];exact h.gr,λx hx=>(h.ru x hx).put g hv hc j,h.rp.put g hv hc j,h.bag.upd h.inn (ne nb).symm (ne nq).symm,h.inn.upd (ne nb).symm,h.up.after hp⟩
end
theorem wW {K:FG9} {A:Addr->Prop} {H:Hp} {n:Nat} {C:Rat->Prop} {us:List V} (h:∀x∈us,e8 K A H n C x):∃rows:LR9,Paired (λqs x=>∃q,x=V.ref q/\A q/\dC K H q qs) rows us/\rows.length=us.length/\∀qs∈rows,qs.length=n/\∀y∈qs,C y:=by
 induction us with
 | nil=>exact ⟨[],.nil,rfl,λ_ z=>nomatch z⟩
 | cons u us ih =>
  obtain ⟨rows,pr,l,hr⟩:=ih λx hx=>h x (.tail _ hx)
  obtain ⟨q,qs,e,a,r,l1,c⟩:=h u (.head _);refine ⟨qs :: rows,.cons ⟨q,e,a,r⟩ pr,by simp [l],λzs hz=>?_⟩;rcases aE.mp hz with rfl | hz
  ·exact ⟨l1,c⟩
  ·exact hr zs hz
theorem Cb {K:FG9} {A:Addr->Prop} {H:Hp} {n:Nat} {C:Rat->Prop} {us:List V} {rows:LR9} (pr:Paired (λqs x=>∃q,x=V.ref q/\A q/\dC K H q qs) rows us) (h:∀qs∈rows,qs.length=n/\∀y∈qs,C y):∀x∈us,e8 K A H n C x:=λx hx=>by
 obtain ⟨qs,hq,q,e,a,r⟩:=dj pr hx;exact ⟨q,qs,e,a,r,(h qs hq).1,(h qs hq).2⟩
theorem yX {n:Nat}:∀{rows:LR9},(∀xs∈rows,xs.length=n)->rows.flatten.length=rows.length*n
 | [],_=>by simp
 | xs :: rows,h=>by
  rw[List.flatten_cons,aA,h xs (.head _),yX λys hy=>h ys (.tail _ hy),bJ,rN,Nat.add_comm]
theorem zH {c n:Nat} {rows:LR9} (h:∀qs∈rows,qs.length=n/\∀y∈qs,Dr (2^c) y):∃M:Nat,0 < M/\M<=2^(c*(rows.length*n))/\∀qs∈rows,∀y∈qs,Fr M (2^c) y:=by
 have fl:rows.flatten.length=rows.length*n:=yX λys hy=>(h ys hy).1
 have hm:∀a∈rows.flatten.map (·.den),0 < a/\a<=2^c:=λa ha=>by
  obtain ⟨y,hy,rfl⟩:=ay.mp ha;obtain ⟨qs,hq,hy⟩:=List.mem_flatten.mp hy;exact ⟨y.den_pos,((h qs hq).2 y hy).2⟩
 refine ⟨yN (rows.flatten.map (·.den)),yL λa ha=>(hm a ha).1,?_,λqs hq y hy=>?_⟩
 ·have:=AZ (k:=c) (l:=rows.flatten.map (·.den)) λa ha=>(hm a ha).2
  rwa [ag,fl] at this
 ·exact (Fr.own y ((h qs hq).2 y hy).1).dvd (yM (ay.mpr ⟨y,List.mem_flatten.mpr ⟨qs,hq,hy⟩,rfl⟩))
theorem tu {K:FG9} {A:Addr->Prop} {H H0:Hp} {n m:Nat} {C:Rat->Prop} {p:Addr} (h:LR K A H n C p m) (w:∀q,A q->H0 q=none):∃rows,bu K H0 H p rows/\rows.length=m/\∀qs∈rows,qs.length=n/\∀y∈qs,C y:=by
 obtain ⟨us,g,l,a,r⟩:=h;obtain ⟨rows,pr,lr,hr⟩:=wW r;refine ⟨rows,⟨us,g,Paired.imp' (λ_ _ ⟨q,e,aq,rq⟩=>⟨q,e,w q aq,rq⟩) pr,λhm=>?_⟩,by rw[lr,l],hr⟩;obtain ⟨q,_,e,aq,_⟩:=r _ hm;cases e;exact a aq
theorem gO.trans {A:Addr->Prop} {b m:Addr} {H H1 H2:Hp} (h:gO A b m H H1) (h':gO A b m H1 H2):gO A b m H H2:=λc u e n1 n2 n3=>h' c u (h c u e n1 n2 n3) n1 n2 n3
theorem E6 {K:FG9} {A:Addr->Prop} {H0 H:Hp} {n:Nat} {C:Rat->Prop} {us:List V} {rows:LR9} (pr:Paired (cZ K H0 H) rows us) (h:∀qs∈rows,qs.length=n/\∀y∈qs,C y) (w:∀q,V.ref q∈us->H0 q=none->H q≠none->A q):∀x∈us,e8 K A H n C x:=λx hx=>by
 obtain ⟨qs,hq,q,e,a,r⟩:=dj pr hx;subst e;exact ⟨q,qs,rfl,w q hx a (by obtain ⟨_,g,_⟩:=r;rw[g];simp),r,(h qs hq).1,(h qs hq).2⟩
def jz (K:FG9) (H0 H:Hp) (r:Addr) (mv pt lk:LR9):Prop:=∃m p l,H r=some (.tup [.ref m,.ref p,.ref l])/\H0 m=none/\H0 p=none/\H0 l=none/\bu K H0 H m mv/\bu K H0 H p pt/\bu K H0 H l lk
section
variable {K:FG9} {H H' H0 H1:Hp} {r b:Addr} {mv pt lk:LR9}
theorem jz.same (h:jz K H0 H r mv pt lk) (e:aH H H'):jz K H0 H' r mv pt lk:=by obtain ⟨m,p,l,g,n1,n2,n3,g1,g2,g3⟩:=h;exact ⟨m,p,l,e _ _ g,n1,n2,n3,g1.same e,g2.same e,g3.same e⟩
theorem jz.upto (h:jz K H0 H r mv pt lk) (u:cB b H H') (B:iQ H b) (nb:H0 b≠none):jz K H0 H' r mv pt lk:=by
 obtain ⟨m,p,l,g,n1,n2,n3,g1,g2,g3⟩:=h;exact ⟨m,p,l,u.tup B g,n1,n2,n3,g1.upto u B (λz=>nb (by rw[<- z];exact n1)) nb,g2.upto u B (λz=>nb (by rw[<- z];exact n2)) nb,g3.upto u B (λz=>nb (by rw[<- z];exact n3)) nb⟩
end
inductive wI (K:FG9) (C:Addr) (vs:List V) (H:Hp) (Q:VK) (E9:XK):Prop
 | mk (r:Addr) (H0:Hp) (mv pt lk:LR9):vs=[.ref r]->jz K H0 H r mv pt lk->mI mv pt lk->vP mv pt lk->(∀x H',H x=none->aH H H'->ks K H H' C x mv pt lk->Q (.ref x) H')->wI K C vs H Q E9
def nextK (mv pt:LR9) (st pu:List Rat) (k:Nat):List Rat:=List.zipWith (λline col=>cY (line++col.take k) (st++pu.take k)) mv (de pt mv.length)
theorem iI {mv pt:LR9} {st pu:List Rat} {k:Nat}:(nextK mv pt st pu k).length=mv.length:=by unfold nextK;rw[bC,cL];lia
theorem qU {mv pt:LR9} {st pu:List Rat} {k:Nat} (h1:pt.length<=k) (h2:pu.length<=k):nextK mv pt st pu k=fD mv pt st pu:=by
 unfold nextK fD;apply nL;intro i;rw[bO,bO];cases e1:mv[i]? with
 | none=>rfl
 | some line =>
  cases e2:(de pt mv.length)[i]? with
  | none=>rfl
  | some col =>
   have:=nY col (ak e2);show some _=some _
   rw[aB (by lia),aB h2]
theorem CQ {rows:LR9} {w i:Nat} (h:i < w):(de rows w)[i]?=some (rows.map λxs=>xs.getD i 0):=by
 unfold de;rw[az,eo h];rfl
theorem Ck {mv pt:LR9} {st pu:List Rat}:nextK mv pt st pu 0=mv.map λxs=>cY xs st:=by
 unfold nextK;apply nL;intro i;rw[bO,az];by_cases hi:i < mv.length
 ·rw[CQ hi,af hi];simp
 ·rw[aP (by lia)];rfl
theorem xp {mv pt:LR9} {st pu:List Rat} {k i:Nat} (hi:i < mv.length):(nextK mv pt st pu k).getD i 0=cY (mv[i]++(pt.map λxs=>xs.getD i 0).take k) (st++pu.take k):=by
 rw[aa];unfold nextK;rw[bO,af hi,CQ hi];rfl
theorem qv {as bs xs ys:List Rat} (h:as.length=xs.length):cY (as++bs) (xs++ys)=cY as xs+cY bs ys:=by
 unfold cY;rw[List.zipWith_append h,List.sum_append]
theorem Cm {mv pt:LR9} {st pu:List Rat} {k:Nat} (hm:∀xs∈mv,xs.length=st.length) (h1:k < pt.length) (h2:k < pu.length) (hw:(pt[k]).length=mv.length) :
  List.zipWith (λx y=>x+y) (nextK mv pt st pu k) ((pt[k]).map λy=>pu[k]*y)=nextK mv pt st pu (k+1):=by
 have l1:((pt[k]).map λy=>pu[k]*y).length=mv.length:=by rw[ag,hw]
 rw[yq (by rw[l1,iI])];apply nL;intro i;rw[az,iI];by_cases hi:i < mv.length
 ·have e0:(nextK mv pt st pu (k+1))[i]?=some ((nextK mv pt st pu (k+1)).getD i 0):=by
   rw[aa,af (by rw[iI];exact hi)];rfl
  rw[eo hi,e0,xp hi];have ll:=hm mv[i] (aN hi);have ec:(pt.map λxs=>xs.getD i 0)[k]?=some ((pt[k]).getD i 0):=by rw[az,af h1];rfl
  have ep:pu[k]?=some pu[k]:=af h2
  have e3:((pt[k]).map λy=>pu[k]*y).getD i 0=pu[k]*(pt[k]).getD i 0:=by
   rw[getD_map (by rw[hw];exact hi),aa,af (by rw[hw];exact hi)];rfl
  show some ((nextK mv pt st pu k).getD i 0+((pt[k]).map λy=>pu[k]*y).getD i 0)=some _
  rw[xp hi,e3,take_snoc ec,take_snoc ep,qv ll,qv ll,qv (by rw[cO,cO,ag];lia)];have:cY [(pt[k]).getD i 0] [pu[k]]=(pt[k]).getD i 0*pu[k]:=by simp [cY,rM]
  rw[this];congr 1;grind
 ·rw[aP (by simpa using hi),aP (by rw[iI];lia)];rfl
theorem FF {K:FG9} {C:Addr}:PySem.W.kitOne K (.ref C) (.ref C)=some true:=by
 unfold PySem.W.kitOne;rw[if_pos (by simp)]
theorem qV {mv pt:LR9} {st pu:List Rat}:(fD mv pt st pu).length=mv.length:=by unfold fD;rw[bC,cL];lia
def gU (J:Addr->Prop) (H H':Hp):Prop:=∀c u,H c=some u->(J c->∀xs,u≠.lst xs)->H' c=some u
section
variable {K:FG9} {J J':Addr->Prop} {H H' H1 H0:Hp} {C p b x:Addr} {mv pt lk rows:LR9} {qs:List Rat}
theorem gU.of (e:aH H H'):gU J H H':=λc u h _=>e c u h
theorem gU.trans (a:gU J H H1) (b:gU J H1 H'):gU J H H':=λc u h n=>b c u (a c u h n) n
theorem gU.set {xs ys:List V} (h:H p=some (.lst xs)) (hJ:J p):gU J H (upd H p (.lst ys)):=λc u e n=>by
 by_cases z:c=p
 ·subst z;rw[h] at e;cases e;exact absurd rfl (n hJ xs)
 ·rw[aU z];exact e
theorem gU.sqt {a:Addr} {xs:List V} (k:gU J H H') (h:rH K H a xs):rH K H' a xs:=by
 rcases h with (h | ⟨o,h⟩) | h
 ·exact .inl (.inl (k _ _ h λ_ _ z=>nomatch z))
 ·exact .inl (.inr ⟨o,k _ _ h λ_ _ z=>nomatch z⟩)
 ·exact .inr h
theorem b6.keepL {q:Rat} {x:V} (h:b6 K H q x) (k:gU J H H'):b6 K H' q x:=by obtain ⟨p,e,s⟩:=h;exact ⟨p,e,k.sqt s⟩
theorem dC.keepL (h:dC K H p qs) (k:gU J H H') (n:¬J p):dC K H' p qs:=by obtain ⟨xs,g,r⟩:=h;exact ⟨xs,k _ _ g λz=>absurd z n,Paired.imp' (λ_ _ z=>z.keepL k) r⟩
theorem bu.keepL (h:bu K H0 H p rows) (k:gU J H H') (n:H0 p=none) (hJ:∀q,H0 q=none->¬J q):bu K H0 H' p rows:=by obtain ⟨xs,g,r,nn⟩:=h;exact ⟨xs,k _ _ g λz=>absurd z (hJ p n),Paired.imp' (λ_ _ ⟨q,a,b,c⟩=>⟨q,a,b,c.keepL k (hJ q b)⟩) r,nn⟩
theorem ks.keepL (h:ks K H0 H C p mv pt lk) (k:gU J H H') (hJ:∀q,H0 q=none->¬J q):ks K H0 H' C p mv pt lk:=by
 obtain ⟨dx,a,b,c,g,n1,n2,n3,g1,g2,g3⟩:=h;exact ⟨dx,a,b,c,k _ _ g (λ_ _ z=>by cases z),n1,n2,n3,g1.keepL k n1 hJ,g2.keepL k n2 hJ,g3.keepL k n3 hJ⟩
end
def ow (k j:Nat) (l:List Rat):Prop:=∃M V:Nat,0 < M/\M<=2^k/\V<=2^j/\∀x∈l,Fr M V x
section
variable {k j k' j':Nat} {l xs ys:List Rat} {x y:Rat}
theorem ow.szn (h:ow k j l) (hx:x∈l) (hk:k+j<=3950:=by decide):pX x:=by
 obtain ⟨M,V,h0,h1,h2,h3⟩:=h;obtain ⟨a,b⟩:=(h3 x hx).sz h0 h1 h2;exact ⟨a.mono (by lia),b.mono (by lia)⟩
theorem ow.rowM (h:ow k j l) (hk:k+j<=4200:=by decide):∃M,CH M (l.map nm):=by
 obtain ⟨M,V,h0,h1,h2,h3⟩:=h;refine ⟨M,by lia,?_,λn hn=>?_⟩
 ·show ((M:Nat):Int).natAbs < 2^4400
  rw[h8];exact bc h1 (dM (by decide) (by lia))
 ·obtain ⟨x,hx,rfl⟩:=ay.mp hn;obtain ⟨a,_⟩:=(h3 x hx).sz h0 h1 h2;exact ⟨jy x,(h3 x hx).den,a.mono (by lia)⟩
theorem ow.one (h:ow k j l) (hx:x∈l):ow k j [x]:=by
 obtain ⟨M,V,h0,h1,h2,h3⟩:=h;exact ⟨M,V,h0,h1,h2,λy hy=>by rw[BN.mp hy];exact h3 x hx⟩
theorem FY (h:ow k j xs) (h':ow k' j' ys) (hl:xs.length<=1000) (i:Nat) (hk:(k+k')+(j+j')<=3930:=by decide):pX (cY (xs.take i) (ys.take i)):=by
 obtain ⟨M,V,h0,h1,h2,h3⟩:=h;obtain ⟨N,W,k0,k1,k2,k3⟩:=h'
 have e:1000*(V*W)<=2^(10+(j+j')):=by
  rw[bX 2 10];exact aR (by decide) (ai (aR h2 k2) (by rw[<- bX];exact au _))
 obtain ⟨a,b⟩:=((Fr.dot (λx hx=>h3 x (cm hx)) (λy hy=>k3 y (cm hy))).mono (aG _ (show (xs.take i).length<=1000 by rw[cO];lia))).sz (dr h0 k0) (ai (aR h1 k1) (by rw[<- bX];exact au _)) e;exact ⟨a.mono (by lia),b.mono (by lia)⟩
theorem Fw (hx:ow k j [x]) (hy:ow k' j' [y]) (hk:(k+k')+(j+j')<=3930:=by decide):pX (x*y):=by
 obtain ⟨M,V,h0,h1,h2,h3⟩:=hx;obtain ⟨N,W,k0,k1,k2,k3⟩:=hy;obtain ⟨a,b⟩:=((h3 x (.head _)).mul (k3 y (.head _))).sz (dr h0 k0) (ai (aR h1 k1) (by rw[<- bX];exact au _)) (ai (aR h2 k2) (by rw[<- bX];exact au _));exact ⟨a.mono (by lia),b.mono (by lia)⟩
def vY (xs ys:List Rat):Prop:=∃k j k' j':Nat,ow k j xs/\ow k' j' ys/\(k+k')+(j+j')<=3930
theorem vY.sys (h:ow 400 120 xs) (h':ow 1500 1800 ys):vY xs ys:=⟨_,_,_,_,h,h',by decide⟩
end
def Jr (mv pt lk:LR9):Prop:=∃M V:Nat,0 < M/\M<=2^400/\V<=2^120/\GF M V mv/\GF M V pt/\GF M V lk
section
variable {mv pt lk:LR9}
theorem Jr.fits (h:Jr mv pt lk) {l:List Rat} (hl:∀x∈l,(∃xs∈mv,x∈xs)\/(∃xs∈pt,x∈xs)\/(∃xs∈lk,x∈xs)\/x=0):ow 400 120 l:=by
 obtain ⟨M,V,h0,h1,h2,g1,g2,g3⟩:=h;refine ⟨M,V,h0,h1,h2,λx hx=>?_⟩;rcases hl x hx with ⟨xs,a,b⟩ | ⟨xs,a,b⟩ | ⟨xs,a,b⟩ | rfl
 ·exact g1 xs a x b
 ·exact g2 xs a x b
 ·exact g3 xs a x b
 ·exact Fr.zero
theorem Jr.sf (h:Jr mv pt lk):vP mv pt lk:=by obtain ⟨M,V,a,b,c,d⟩:=h;exact ⟨M,V,a,ai b (ah (by decide) (by decide)),ai c (ah (by decide) (by decide)),d⟩
end
inductive zz (K:FG9) (vs:List V) (H:Hp) (Q:VK) (E9:XK):Prop
 | mk (p q:Addr) (xs ys:List Rat):vs=[.ref p,.ref q]->dC K H p xs->dC K H q ys->ys.length=xs.length->xs.length<=1000->vY xs ys->(∀r H',aH H H'->b6 K H' (cY xs ys) (.ref r)->Q (.ref r) H')->zz K vs H Q E9
inductive zy (K:FG9) (vs:List V) (H:Hp) (Q:VK) (E9:XK):Prop
 | mk (p q:Addr) (H0:Hp) (rows:LR9) (ys:List Rat):vs=[.ref p,.ref q]->bu K H0 H p rows->dC K H q ys->rows.length<=1000->ys.length<=1000->((∀xs∈rows,xs.length=ys.length/\vY xs ys))->(∀r H',H r=none->aH H H'->dC K H' r (rows.map λxs=>cY xs ys)->Q (.ref r) H')->zy K vs H Q E9
inductive yC (K:FG9) (C:Addr) (vs:List V) (H:Hp) (Q:VK) (E9:XK):Prop
 | mk (x p q:Addr) (H0:Hp) (mv pt lk:LR9) (st pu:List Rat):vs=[.ref x,.ref p,.ref q]->ks K H0 H C x mv pt lk->mI mv pt lk->Jr mv pt lk->dC K H p st->dC K H q pu->st.length=mv.length->pu.length=pt.length->ow 1500 1800 (st++pu)->(∀r H',H r=none->aH H H'->dC K H' r (fD mv pt st pu)->Q (.ref r) H')->yC K C vs H Q E9
inductive AB (K:FG9) (C:Addr) (vs:List V) (H:Hp) (Q:VK) (E9:XK):Prop
 | mk (x p:Addr) (H0:Hp) (mv pt lk:LR9) (st:List Rat):vs=[.ref x,.ref p]->ks K H0 H C x mv pt lk->mI mv pt lk->Jr mv pt lk->dC K H p st->st.length=mv.length->ow 1500 1800 st->(∀r H',H r=none->aH H H'->dC K H' r (L2.seenQ lk st)->Q (.ref r) H')->AB K C vs H Q E9
section
variable {mv pt lk pus:LR9} {st:List Rat} {k:Nat}
theorem tK {M W:Nat} {rows:LR9} {w:Nat} (h:GF M W rows):GF M W (de rows w):=λys hy y hy'=>by
 obtain ⟨j,_,rfl⟩:=ay.mp hy;obtain ⟨xs,hx,rfl⟩:=ay.mp hy';rw[aa];cases e:xs[j]? with
 | none=>exact Fr.zero
 | some z=>exact h xs hx z (ak e)
end
def LL (N:Addr->Prop) (B:Nat) (H:Hp) (p:Addr) (xs:List V):Prop:=H p=some (.lst xs)/\∀x∈xs,∃q zs,x=V.ref q/\N q/\q≠p/\H q=some (.lst zs)/\zs.length<=B
theorem LL.of {K:FG9} {H0 H:Hp} {p:Addr} {rows:LR9} {B:Nat} {N:Addr->Prop} (h:bu K H0 H p rows) (hB:∀xs∈rows,xs.length<=B) (hN:∀q,H0 q=none->H q≠none->N q):∃xs,LL N B H p xs/\xs.length=rows.length:=by
 obtain ⟨xs,g,r,nn⟩:=h;refine ⟨xs,⟨g,λx hx=>?_⟩,r.length.symm⟩;obtain ⟨qs,hq,q,e,nq,zs,gq,rq⟩:=dj r hx;exact ⟨q,zs,e,hN q nq (by rw[gq];exact λz=>nomatch z),λz=>nn (by rw[<- z,<- e];exact hx),gq,by rw[<- rq.length];exact hB qs hq⟩
theorem LL.upd {N:Addr->Prop} {B B':Nat} {H:Hp} {p q:Addr} {xs ws:List V} (h:LL N B H p xs) (n:q≠p) (hb:B<=B') (hw:ws.length<=B'):LL N B' (upd H q (.lst ws)) p xs:=by
 refine ⟨by rw[aU (Ne.symm n)];exact h.1,λx hx=>?_⟩;obtain ⟨q',zs,e,a,b,g,l⟩:=h.2 x hx;by_cases z:q'=q
 ·subst z;exact ⟨q',ws,e,a,b,aF,hw⟩
 ·exact ⟨q',zs,e,a,b,by rw[aU z];exact g,by lia⟩
theorem LL.same {N:Addr->Prop} {B:Nat} {H H':Hp} {p:Addr} {xs:List V} (h:LL N B H p xs) (e:aH H H'):LL N B H' p xs:=⟨e _ _ h.1,λx hx=>let ⟨q,zs,a,b,c,d,l⟩:=h.2 x hx;⟨q,zs,a,b,c,e _ _ d,l⟩⟩
end L2
namespace L2
abbrev kg:=Nat->Rat
def zV (F:List kg->Rat) (r:Nat):List kg->List kg->Rat->Rat
 | _,[],_=>0
 | pre,v :: post,s=>s*v r*F (pre++post)+zV F r (pre++[v]) post (-s)
def tJ:List Nat->List kg->Rat
 | [],[]=>1
 | [],_ :: _=>0
 | r :: rs,vs=>zV (λws=>tJ rs ws) r [] vs 1
theorem z9 {a b:List kg} {x:kg}:tJ [] (a++x :: b)=0:=by
 cases a <;> rfl
theorem zU {F:List kg->Rat} {r:Nat} {f g h:kg} {x y:Rat} (hF:∀a b,F (a++h :: b)=x*F (a++f :: b)+y*F (a++g :: b)):∀(b p q:List kg) (s:Rat),zV F r (p++h :: q) b s=x*zV F r (p++f :: q) b s+y*zV F r (p++g :: q) b s
 | [],p,q,s=>by simp only[zV,wt,rM]
 | v :: b,p,q,s=>by
  have i1:=hF p (q++b);have i2:=zU (r:=r) hF b p (q++[v]) (-s);simp only[zV,cD,dE] at i1 i2 ⊢;rw[i1,i2];grind
theorem Ds {F:List kg->Rat} {r:Nat} {f g h:kg} {x y:Rat} (hF:∀a b,F (a++h :: b)=x*F (a++f :: b)+y*F (a++g :: b)) (hr:h r=x*f r+y*g r):∀(a pre b:List kg) (s:Rat),zV F r pre (a++h :: b) s=x*zV F r pre (a++f :: b) s+y*zV F r pre (a++g :: b) s
 | [],pre,b,s=>by
  have i2:=zU (r:=r) hF b pre [] (-s);simp only[zV,cK] at i2 ⊢;rw[i2,hr];grind
 | v :: a,pre,b,s=>by
  have i1:=hF (pre++a) b;have i2:=Ds hF hr a (pre++[v]) b (-s);simp only[zV,cD,dE] at i1 i2 ⊢;rw[i1,i2];grind
theorem tx {f g h:kg} {x y:Rat}:∀{rs:List Nat},(∀r∈rs,h r=x*f r+y*g r)->∀a b,tJ rs (a++h :: b)=x*tJ rs (a++f :: b)+y*tJ rs (a++g :: b)
 | [],_,a,b=>by rw[z9,z9,z9];grind
 | r :: rs,hr,a,b=>Ds (λa b=>tx (λr' h'=>hr r' (.tail _ h')) a b) (hr r (.head _)) a [] b 1
theorem DE {h:kg} {rs:List Nat} (hr:∀r∈rs,h r=0) (a b:List kg):tJ rs (a++h :: b)=0:=by
 rw[tx (f:=h) (g:=h) (x:=0) (y:=0) (λr h'=>by rw[hr r h'];grind) a b];grind
theorem Dt {F:List kg->Rat} {r:Nat} {x:kg} (hF:∀a b,F (a++x :: x :: b)=0):∀(b p q:List kg) (s:Rat),zV F r (p++x :: x :: q) b s=0
 | [],p,q,s=>rfl
 | v :: b,p,q,s=>by
  have i1:=hF p (q++b);have i2:=Dt (r:=r) hF b p (q++[v]) (-s);simp only[zV,cD,dE] at i1 i2 ⊢;rw[i1,i2];grind
theorem Du {F:List kg->Rat} {r:Nat} {x:kg} (hF:∀a b,F (a++x :: x :: b)=0):∀(a pre b:List kg) (s:Rat),zV F r pre (a++x :: x :: b) s=0
 | [],pre,b,s=>by
  have i2:=Dt (r:=r) hF b pre [] (- -s);simp only[zV,cK,cD,dE] at i2 ⊢;rw[i2];grind
 | v :: a,pre,b,s=>by
  have i1:=hF (pre++a) b;have i2:=Du (r:=r) hF a (pre++[v]) b (-s);simp only[zV,cD,dE] at i1 i2 ⊢;rw[i1,i2];grind
theorem xF {x:kg}:∀{rs:List Nat} (a b:List kg),tJ rs (a++x :: x :: b)=0
 | [],a,b=>z9
 | r :: rs,a,b=>Du (λa b=>xF a b) a [] b 1
theorem IB {x y:kg} {rs:List Nat} (a b:List kg):tJ rs (a++x :: y :: b)=- tJ rs (a++y :: x :: b):=by
 have hr:∀r∈rs,(λr=>1*x r+1*y r) r=1*x r+1*y r:=λ_ _=>rfl
 have h0:=xF (x:=λr=>1*x r+1*y r) (rs:=rs) a b;have h1:=tx hr a ((λr=>1*x r+1*y r) :: b);have h2:=tx hr (a++[x]) b;have h3:=tx hr (a++[y]) b;have h4:=xF (x:=x) (rs:=rs) a b;have h5:=xF (x:=y) (rs:=rs) a b;simp only[cD,dE,cK] at h0 h1 h2 h3 h4 h5;rw[h1,h2,h3,h4,h5] at h0;grind
theorem Aa {x:kg} {rs:List Nat}:∀(b a c:List kg),tJ rs (a++x :: (b++x :: c))=0
 | [],a,c=>xF a c
 | y :: b,a,c=>by
  have:=Aa (x:=x) (rs:=rs) b (a++[y]) c;simp only[cD,dE,cK] at this;rw[dE,IB,this];rfl
def bg:Nat->(Nat->Rat)->Rat
 | 0,_=>0
 | k+1,f=>bg k f+f k
theorem aW {f g:Nat->Rat}:∀{k:Nat},(∀j,j < k->f j=g j)->bg k f=bg k g
 | 0,_=>rfl
 | k+1,h=>by
  show bg k f+f k=bg k g+g k
  rw[aW λj hj=>h j (by lia),h k (by lia)]
theorem iT {f g:Nat->Rat}:∀{k:Nat},bg k (λj=>f j+g j)=bg k f+bg k g
 | 0=>by show (0:Rat)=0+0;grind
 | k+1=>by
  show bg k (λj=>f j+g j)+_=(bg k f+f k)+(bg k g+g k)
  rw[iT];grind
theorem cg {f:Nat->Rat} {c:Rat}:∀{k:Nat},bg k (λj=>c*f j)=c*bg k f
 | 0=>by show (0:Rat)=c*0;grind
 | k+1=>by
  show bg k (λj=>c*f j)+_=c*(bg k f+f k)
  rw[cg];grind
theorem cT {f:Nat->Rat}:∀{k:Nat},(∀j,j < k->f j=0)->bg k f=0
 | 0,_=>rfl
 | k+1,h=>by
  show bg k f+f k=0
  rw[cT λj hj=>h j (by lia),h k (by lia)];grind
theorem iS {f:Nat->Rat} {i:Nat}:∀{k:Nat},i < k->(∀j,j < k->j≠i->f j=0)->bg k f=f i
 | k+1,hi,h=>by
  show bg k f+f k=f i
  by_cases e:i=k
  ·subst e;rw[cT λj hj=>h j (by lia) (by lia)];grind
  ·rw[iS (by lia) λj hj=>h j (by lia),h k (by lia) (λz=>e z.symm)];grind
theorem fX {f:Nat->Nat->Rat} {m:Nat}:∀{k:Nat},bg k (λi=>bg m (f i))=bg m (λj=>bg k λi=>f i j)
 | 0=>(cT λ_ _=>rfl).symm
 | k+1=>by
  show bg k (λi=>bg m (f i))+bg m (f k)=bg m (λj=>bg k (λi=>f i j)+f k j)
  rw[fX,iT]
theorem CB {rs:List Nat} {W:kg} {v:Nat->kg} {c:Nat->Rat} (a b:List kg):∀{k:Nat} {W:kg},(∀r∈rs,W r=bg k λj=>c j*v j r)->tJ rs (a++W :: b)=bg k λj=>c j*tJ rs (a++v j :: b)
 | 0,W,h=>DE h a b
 | k+1,W,h=>by
  rw[tx (f:=λr=>bg k λj=>c j*v j r) (g:=v k) (x:=1) (y:=c k) (λr hr=>by rw[h r hr];show bg k _+_=_;grind) a b,CB a b (k:=k) (W:=λr=>bg k λj=>c j*v j r) λr _=>rfl];show _=bg k _+_
  grind
end L2
namespace L2
open Nm
def AV (f:Nat->Nat):Nat->List Nat
 | 0=>[]
 | k+1=>f k :: AV f k
def tz (v:Nat->kg):Nat->List kg
 | 0=>[]
 | k+1=>v k :: tz v k
def GI (v:Nat->kg) (i:Nat):Nat->List kg
 | 0=>[]
 | k+1=>if k<=i then [] else v k :: GI v i k
theorem wX {f:Nat->Nat}:∀{k:Nat},(AV f k).length=k
 | 0=>rfl
 | k+1=>by show (AV f k).length+1=_;rw[wX]
theorem cw_len {v:Nat->kg}:∀{k:Nat},(tz v k).length=k
 | 0=>rfl
 | k+1=>by show (tz v k).length+1=_;rw[cw_len]
theorem sT {f:Nat->Nat} {r:Nat}:∀{k:Nat},r∈AV f k->∃t,t < k/\r=f t
 | k+1,h=>by
  rcases aE.mp h with h | h
  ·exact ⟨k,by lia,h⟩
  ·obtain ⟨t,a,b⟩:=sT h;exact ⟨t,by lia,b⟩
theorem AU {f g:Nat->Nat}:∀{k:Nat},(∀j,j < k->f j=g j)->AV f k=AV g k
 | 0,_=>rfl
 | k+1,h=>by
  show f k :: AV f k=g k :: AV g k
  rw[h k (by lia),AU λj hj=>h j (by lia)]
theorem cw_congr {f g:Nat->kg}:∀{k:Nat},(∀j,j < k->f j=g j)->tz f k=tz g k
 | 0,_=>rfl
 | k+1,h=>by
  show f k :: tz f k=g k :: tz g k
  rw[h k (by lia),cw_congr λj hj=>h j (by lia)]
theorem cw_mem {v:Nat->kg} {j:Nat}:∀{k:Nat},j < k->v j∈tz v k
 | k+1,h=>by
  by_cases e:j=k
  ·subst e;exact .head _
  ·exact .tail _ (cw_mem (by lia))
theorem cw_in {v:Nat->kg} {x:kg}:∀{k:Nat},x∈tz v k->∃t,t < k/\x=v t
 | k+1,h=>by
  rcases aE.mp h with h | h
  ·exact ⟨k,by lia,h⟩
  ·obtain ⟨t,a,b⟩:=cw_in h;exact ⟨t,by lia,b⟩
theorem Gg {v:Nat->kg} {i j:Nat} (h1:i < j):∀{k:Nat},j < k->v j∈GI v i k
 | k+1,h=>by
  show v j∈if k<=i then [] else v k :: GI v i k
  rw[if_neg (by lia)];by_cases e:j=k
  ·subst e;exact .head _
  ·exact .tail _ (Gg h1 (by lia))
theorem Gi {v:Nat->kg} {i:Nat} {x:kg}:∀{k:Nat},x∈GI v i k->∃t,t < k/\x=v t
 | k+1,h=>by
  have h:x∈if k<=i then [] else v k :: GI v i k:=h
  split at h
  ·cases h
  ·rcases aE.mp h with h | h
   ·exact ⟨k,by lia,h⟩
   ·obtain ⟨t,a,b⟩:=Gi h;exact ⟨t,by lia,b⟩
theorem cw_split {v:Nat->kg} {i:Nat}:∀{k:Nat},i < k->tz v k=GI v i k++v i :: tz v i
 | k+1,h=>by
  show v k :: tz v k=(if k<=i then [] else v k :: GI v i k)++_
  by_cases e:i=k
  ·subst e;rw[if_pos (au _)];rfl
  ·rw[if_neg (by lia),cw_split (k:=k) (i:=i) (by lia)];rfl
theorem Es {rs:List Nat} {v:Nat->kg} {c:Nat->Rat} {W:kg} {k i:Nat} (hi:i < k) (hW:∀r∈rs,W r=bg k λj=>c j*v j r):tJ rs (GI v i k++W :: tz v i)=c i*tJ rs (tz v k):=by
 rw[CB (v:=v) (c:=c) (W:=W) _ _ hW,iS hi λj hj ne=>?_,cw_split hi];rcases cM j i with h | h
 ·obtain ⟨s,t,e⟩:=BO (cw_mem (v:=v) h);rw[e,Aa];grind
 ·obtain ⟨s,t,e⟩:=BO (Gg (v:=v) (show i < j by lia) hj);have:=Aa (x:=v j) (rs:=rs) t s (tz v i);rw[e,cD,dE,this];grind
theorem Kt {rs:List Nat} {v:Nat->kg} {c:Nat->Rat} {W:kg} {k:Nat} (hW:∀r∈rs,W r=bg k λj=>c j*v j r):tJ rs (W :: tz v k)=0:=by
 have:=CB (v:=v) (c:=c) (W:=W) [] (tz v k) hW;rw[cK] at this;rw[this];refine cT λj hj=>?_
 obtain ⟨s,t,e⟩:=BO (cw_mem (v:=v) hj);have:=Aa (x:=v j) (rs:=rs) s [] t;rw[cK] at this;rw[e,cK,this];grind
theorem Er {rs:List Nat} {v:Nat->kg} {c:Nat->Rat} {W:kg} {k i:Nat} {s:Rat} (hi:i∉rs) (h1:W i=bg k (λj=>c j*v j i)+s) (hW:∀r∈rs,W r=bg k λj=>c j*v j r):tJ (i :: rs) (W :: tz v k)=s*tJ rs (tz v k):=by
 have e:=tx (rs:=i :: rs) (h:=W) (f:=λr=>bg k λj=>c j*v j r) (g:=λr=>if r=i then 1 else 0) (x:=1) (y:=s) (λr hr=>by
  rcases aE.mp hr with rfl | hr
  ·rw[h1,if_pos rfl];grind
  ·rw[hW r hr,if_neg (λz=>hi (by rw[<- z];exact hr))];grind) [] (tz v k)
 rw[cK,cK,cK,Kt (c:=c) λr _=>rfl] at e
 have e2:tJ (i :: rs) ((λr=>if r=i then (1:Rat) else 0) :: tz v k)=tJ rs (tz v k):=by
  show 1*(if i=i then (1:Rat) else 0)*tJ rs ([]++tz v k)+zV (λws=>tJ rs ws) i ([]++[λr=>if r=i then (1:Rat) else 0]) (tz v k) (-1)=_
  have hF:∀a b,(λws=>tJ rs ws) (a++(λr=>if r=i then (1:Rat) else 0) :: b)=0*(λws=>tJ rs ws) (a++(λr=>if r=i then (1:Rat) else 0) :: b)+0*(λws=>tJ rs ws) (a++(λr=>if r=i then (1:Rat) else 0) :: b):=λa b=>by
   have:=DE (h:=λr=>if r=i then (1:Rat) else 0) (rs:=rs) (λr hr=>if_neg λz=>hi (by rw[<- z];exact hr)) a b
   dsimp only
   rw[this];grind
  have:=zU (r:=i) hF (tz v k) [] [] (-1);rw[this,if_pos rfl,cK];grind
 rw[e2] at e;rw[e];grind
theorem Jf {F:List kg->Rat} {r B W:Nat}:∀{post pre:List kg} {s:Rat},(∀ws,(∀w∈ws,w∈pre++post)->ws.length+1=(pre++post).length->Fr 1 B (F ws))->(∀w∈post,Fr 1 W (w r))->Fr 1 1 s->Fr 1 (post.length*(W*B)) (zV F r pre post s)
 | [],pre,s,_,_,_=>by show Fr 1 _ 0;exact Fr.zero
 | v :: post,pre,s,hF,hw,hs=>by
  have t1:Fr 1 (W*B) (s*v r*F (pre++post)):=by
   have:=(hs.mul (hw v (.head _))).mul (hF (pre++post) (λw h=>by
    rcases aI.mp h with h | h
    ·exact jk _ h
    ·exact bG _ (.tail _ h)) (by simp only[aA,bJ];lia))
   simpa using this
  have t2:=Jf (F:=F) (r:=r) (B:=B) (W:=W) (post:=post) (pre:=pre++[v]) (s:=-s) (λws h h'=>hF ws (λw hw=>by simpa using h w hw) (by simpa using h')) (λw h=>hw w (.tail _ h)) (by simpa using hs.neg);exact (t1.add t2).mono (by rw[bJ,rN];lia)
theorem BA {W N:Nat}:∀{rs:List Nat} {vs:List kg},vs.length<=N->(∀v∈vs,∀r∈rs,Fr 1 W (v r))->Fr 1 ((N*W)^rs.length) (tJ rs vs)
 | [],[],_,_=>by show Fr 1 1 1;exact (Fr.int (i:=1) (by decide))
 | [],_ :: _,_,_=>by show Fr 1 _ 0;exact Fr.zero
 | r :: rs,vs,hl,h=>by
  have:=Jf (F:=λws=>tJ rs ws) (r:=r) (B:=(N*W)^rs.length) (W:=W) (post:=vs) (pre:=[]) (s:=1) (λws h1 h2=>BA (by rw[cK] at h2;lia) λv hv r' hr'=>h v (by simpa using h1 v hv) r' (.tail _ hr')) (λw hw=>h w hw r (.head _)) (Fr.int (i:=1) (by decide));refine this.mono ?_;rw[bJ,h7,cC ((N*W)^rs.length),dI N];exact aG _ hl
structure xU (a:Nat->Nat->Rat) (m k:Nat) (pm p:Nat->Nat) (l:Nat->Nat->Rat) (d:Rat):Prop where
 inj:∀i j,i < m->j < m->pm i=pm j->i=j
 rng:∀i,i < m->pm i < m
 km:k<=m
 d0:d≠0
 det:d=tJ (AV pm k) (tz (λj r=>a r (p j)) k)
 eqs:∀i,i < m->∀c,d*a (pm i) c=bg k (λj=>a (pm i) (p j)*l j c)+if i < k then 0 else l i c
 unit:∀i,i < m->∀j,j < k->l i (p j)=if i=j then d else 0
section
variable {a l:Nat->Nat->Rat} {m k:Nat} {pm p:Nat->Nat} {d:Rat}
theorem xU.start (h:∀i,i < m->pm i=i):xU a m 0 pm p a 1 where
 inj i j hi hj e:=by rw[h i hi,h j hj] at e;exact e
 rng i hi:=by rw[h i hi];exact hi
 km:=bo _
 d0:=by decide
 det:=rfl
 eqs i hi c:=by
  rw[h i hi,if_neg (by lia)];show 1*a i c=0+a i c
  grind
 unit i _ j hj:=absurd hj (by lia)
theorem xU.coef (B:xU a m k pm p l d) {i c:Nat} (hi:i < m):a (pm i) c=bg k (λj=>(l j c / d)*a (pm i) (p j))+if i < k then 0 else l i c / d:=by
 have h:=B.eqs i hi c;have d0:=B.d0
 have e:bg k (λj=>(l j c / d)*a (pm i) (p j))=(1 / d)*bg k (λj=>a (pm i) (p j)*l j c):=by
  rw[<- cg];exact aW λj _=>by grind
 rw[e]
 split at h
 ·rw[if_pos (by assumption)];grind
 ·rw[if_neg (by assumption)];grind
theorem xU.old (B:xU a m k pm p l d) {i c:Nat} (hi:i < k):l i c=tJ (AV pm k) (GI (λj r=>a r (p j)) i k++(λr=>a r c) :: tz (λj r=>a r (p j)) i):=by
 have km:=B.km;have d0:=B.d0;rw[Es (v:=λj r=>a r (p j)) (c:=λj=>l j c / d) hi λr hr=>?_,<- B.det]
 ·grind
 ·obtain ⟨t,ht,rfl⟩:=sT hr;have:=B.coef (i:=t) (c:=c) (by lia);rw[if_pos ht] at this;rw[this];grind
theorem xU.new (B:xU a m k pm p l d) {i c:Nat} (h1:k<=i) (hi:i < m):l i c=tJ (pm i :: AV pm k) ((λr=>a r c) :: tz (λj r=>a r (p j)) k):=by
 have km:=B.km;have d0:=B.d0
 have hn:pm i∉AV pm k:=λhm=>by
  obtain ⟨t,ht,e⟩:=sT hm;have:=B.inj i t hi (by lia) e
  lia
 have e1:a (pm i) c=bg k (λj=>(l j c / d)*a (pm i) (p j))+l i c / d:=by
  have:=B.coef (i:=i) (c:=c) hi;rwa [if_neg (by lia)] at this
 have e2:∀r∈AV pm k,a r c=bg k (λj=>(l j c / d)*a r (p j)):=λr hr=>by
  obtain ⟨t,ht,rfl⟩:=sT hr;have:=B.coef (i:=t) (c:=c) (by lia);rw[if_pos ht] at this;rw[this];grind
 rw[Er (v:=λj r=>a r (p j)) (c:=λj=>l j c / d) (W:=λr=>a r c) (s:=l i c / d) hn e1 e2,<- B.det];grind
theorem xU.fr {W N:Nat} (B:xU a m k pm p l d) (hN:k < N) (hW:1<=W) (ha:∀i,i < m->∀c,Fr 1 W (a i c)) {i c:Nat} (hi:i < m):Fr 1 ((N*W)^(k+1)) (l i c):=by
 have km:=B.km;have mono:∀t,t<=k+1->(N*W)^t<=(N*W)^(k+1):=λt ht=>ah (dr (by lia) hW) ht
 have ha':∀r∈AV pm k,∀c,Fr 1 W (a r c):=λr hr c=>by
  obtain ⟨t,ht,rfl⟩:=sT hr;exact ha _ (B.rng t (by lia)) c
 by_cases h:i < k
 ·rw[B.old h];refine (BA (W:=W) (N:=N) ?_ ?_).mono (mono _ (by rw[wX];lia))
  ·have:=congrArg List.length (cw_split (v:=λj r=>a r (p j)) h);rw[aA,bJ,cw_len] at this;rw[aA,bJ]
   lia
  ·intro v hv r hr;rcases aI.mp hv with hv | hv
   ·obtain ⟨t,_,rfl⟩:=Gi hv;exact ha' r hr _
   ·rcases aE.mp hv with rfl | hv
    ·exact ha' r hr _
    ·obtain ⟨t,_,rfl⟩:=cw_in hv;exact ha' r hr _
 ·rw[B.new (by lia) hi];refine (BA (W:=W) (N:=N) ?_ ?_).mono (mono _ (by rw[bJ,wX];lia))
  ·rw[bJ,cw_len]
   lia
  ·intro v hv r hr
   have hr':∀c,Fr 1 W (a r c):=λc=>by
    rcases aE.mp hr with rfl | hr
    ·exact ha _ (B.rng i hi) c
    ·exact ha' r hr c
   rcases aE.mp hv with rfl | hv
   ·exact hr' _
   ·obtain ⟨t,_,rfl⟩:=cw_in hv;exact hr' _
theorem xU.dfr {W N:Nat} (B:xU a m k pm p l d) (hN:k<=N) (ha:∀i,i < m->∀c,Fr 1 W (a i c)):Fr 1 ((N*W)^k) d:=by
 have km:=B.km;rw[B.det]
 have:=BA (W:=W) (N:=N) (rs:=AV pm k) (vs:=tz (λj r=>a r (p j)) k) (by rw[cw_len];exact hN) λv hv r hr=>by
  obtain ⟨t,ht,rfl⟩:=sT hr;obtain ⟨t',_,rfl⟩:=cw_in hv;exact ha _ (B.rng t (by lia)) _
 rwa [wX] at this
def uN (k t i:Nat):Nat:=if i=k then t else if i=t then k else i
theorem tP {k t m i:Nat} (hk:k < m) (ht:t < m) (hi:i < m):uN k t i < m:=by
 unfold uN
 split
 ·exact ht
 ·split
  ·exact hk
  ·exact hi
theorem JF {k t i j:Nat} (h:uN k t i=uN k t j):i=j:=by
 unfold uN at h
 split at h <;> split at h <;> (try split at h) <;> (try split at h) <;> lia
theorem uL {k t i:Nat} (h:k<=t) (hi:i < k):uN k t i=i:=by
 unfold uN;rw[if_neg (by lia),if_neg (by lia)]
theorem vZ {k t i:Nat} (h:k<=t) (hi:k<=i):k<=uN k t i:=by
 unfold uN
 split
 ·exact h
 ·split <;> lia
theorem xU.swap (B:xU a m k pm p l d) {t:Nat} (h:k<=t) (ht:t < m):xU a m k (λi=>pm (uN k t i)) p (λi=>l (uN k t i)) d where
 inj i j hi hj e:=JF (B.inj _ _ (tP (by lia) ht hi) (tP (by lia) ht hj) e)
 rng i hi:=B.rng _ (tP (by lia) ht hi)
 km:=B.km
 d0:=B.d0
 det:=by rw[B.det,AU (f:=pm) (g:=λi=>pm (uN k t i)) λj hj=>by rw[uL h hj]]
 eqs i hi c:=by
  have e:=B.eqs (uN k t i) (tP (by lia) ht hi) c;have e1:bg k (λj=>a (pm (uN k t i)) (p j)*l (uN k t j) c)=bg k (λj=>a (pm (uN k t i)) (p j)*l j c):=aW λj hj=>by rw[uL h hj]
  rw[e1];by_cases hk:i < k
  ·rw[uL h hk] at e ⊢;exact e
  ·rw[if_neg hk];rw[if_neg (by have:=vZ h (show k<=i by lia);lia)] at e;exact e
 unit i hi j hj:=by
  rw[B.unit _ (tP (by lia) ht hi) j hj];by_cases hk:i < k
  ·rw[uL h hk]
  ·have:=vZ h (show k<=i by lia);rw[if_neg (by lia),if_neg (by lia)]
theorem xU.step (B:xU a m k pm p l d) {c0:Nat} (hk:k < m) (h0:l k c0≠0):xU a m (k+1) pm (λj=>if j=k then c0 else p j) (λi c=>if i=k then l k c else (l k c0*l i c - l i c0*l k c) / d) (l k c0) where
 inj:=B.inj
 rng:=B.rng
 km:=hk
 d0:=h0
 det:=by
  rw[B.new (au _) hk];show _=tJ (pm k :: AV pm k) ((λr=>a r (if k=k then c0 else p k)) :: tz _ k)
  rw[if_pos rfl];congr 2;exact cw_congr λj hj=>by rw[if_neg (show j≠k by lia)]
 eqs i hi c:=by
  have d0:=B.d0;have e1:=B.eqs i hi c;have e2:=B.eqs i hi c0;show l k c0*a (pm i) c=(bg k _+_)+_
  have s1:bg k (λj=>a (pm i) (if j=k then c0 else p j)*(if j=k then l k c else (l k c0*l j c - l j c0*l k c) / d))=(l k c0 / d)*bg k (λj=>a (pm i) (p j)*l j c)+(- l k c / d)*bg k (λj=>a (pm i) (p j)*l j c0):=by
   rw[<- cg,<- cg,<- iT];refine aW λj hj=>?_
   rw[if_neg (show j≠k by lia),if_neg (show j≠k by lia)];grind
  rw[s1];simp only[if_true];generalize bg k (λj=>a (pm i) (p j)*l j c)=S1 at e1 ⊢;generalize bg k (λj=>a (pm i) (p j)*l j c0)=S2 at e2 ⊢;rcases nJ i k with h | h | h
  ·rw[if_pos h] at e1 e2;rw[if_pos (by lia)];grind
  ·subst h;rw[if_neg (by lia)] at e1 e2;rw[if_pos (by lia)];grind
  ·rw[if_neg (by lia)] at e1 e2;rw[if_neg (by lia),if_neg (by lia)];grind
 unit i hi j hj:=by
  have d0:=B.d0;by_cases e:j=k
  ·subst e;simp only[if_true];by_cases ei:i=j
   ·rw[if_pos ei,if_pos ei]
   ·rw[if_neg ei,if_neg ei];grind
  ·have hj':j < k:=by lia
   rw[if_neg e];by_cases ei:i=k
   ·rw[if_pos ei,B.unit k hk j hj',if_neg (by lia),if_neg (by lia)]
   ·rw[if_neg ei,B.unit i hi j hj',B.unit k hk j hj',if_neg (show k≠j by lia)]
    split
    ·grind
    ·grind
end
def dB (m:Nat) (a:Nat->Nat->Rat) (x:Nat->Rat):Prop:=∃w:Nat->Rat,∀c,x c=bg m λt=>w t*a t c
section
variable {m m' k n:Nat} {a b:Nat->Nat->Rat} {x y:Nat->Rat}
theorem dB.row {i:Nat} (hi:i < m):dB m a (a i):=⟨λt=>if t=i then 1 else 0,λc=>by
 rw[iS hi λj _ ne=>by dsimp only;rw[if_neg ne];grind]
 dsimp only
 rw[if_pos rfl];grind⟩
theorem dB.lin (α β:Rat) (hx:dB m a x) (hy:dB m a y):dB m a λc=>α*x c+β*y c:=by
 obtain ⟨w,hw⟩:=hx;obtain ⟨v,hv⟩:=hy;refine ⟨λt=>α*w t+β*v t,λc=>?_⟩
 dsimp only
 rw[hw c,hv c,<- cg,<- cg,<- iT];exact aW λj _=>by grind
theorem dB.congr (h:∀c,x c=y c) (hx:dB m a x):dB m a y:=by obtain ⟨w,hw⟩:=hx;exact ⟨w,λc=>by rw[<- h c];exact hw c⟩
theorem dB.trans (h:∀t,t < m'->dB m a (b t)) (hx:dB m' b x):dB m a x:=by
 obtain ⟨v,hv⟩:=hx
 have h2:∀t,∃w:Nat->Rat,t < m'->∀c,b t c=bg m λs=>w s*a s c:=λt=>by
  by_cases ht:t < m'
  ·obtain ⟨w,hw⟩:=h t ht;exact ⟨w,λ_=>hw⟩
  ·exact ⟨λ_=>0,λz=>absurd z ht⟩
 have hc:=Classical.axiomOfChoice h2;obtain ⟨w,hw⟩:=hc;refine ⟨λs=>bg m' λt=>v t*w t s,λc=>?_⟩;rw[hv c];have e1:bg m' (λt=>v t*b t c)=bg m' (λt=>bg m λs=>v t*(w t s*a s c)):=aW λt ht=>by rw[hw t ht c,<- cg]
 rw[e1,fX];refine aW λs _=>?_
 have:bg m' (λt=>v t*w t s)*a s c=a s c*bg m' (λt=>v t*w t s):=jZ ..;rw[this,<- cg];exact aW λt _=>by grind
theorem dB.zero (h:∀c,x c=0):dB m a x:=⟨λ_=>0,λc=>by rw[h c,cT λ_ _=>by grind]⟩
end
structure CG (m n:Nat) (a:Nat->Nat->Rat) (k:Nat) (p:Nat->Nat) (R:Nat->Nat->Rat):Prop where
 inc:∀i j,i < j->j < k->p i < p j
 low:∀j,j < k->p j < n
 unit:∀i,i < k->∀j,j < k->R i (p j)=if i=j then 1 else 0
 lead:∀i,i < k->∀c,c < p i->R i c=0
 span:∀i,i < m->dB k R (a i)
 back:∀i,i < k->dB m a (R i)
section
variable {m m' k k' n:Nat} {a a' R R':Nat->Nat->Rat} {p p':Nat->Nat} {x:Nat->Rat}
theorem CG.coef (h:CG m n a k p R) (hx:dB k R x) (c:Nat):x c=bg k λj=>x (p j)*R j c:=by
 obtain ⟨w,hw⟩:=hx;rw[hw c];refine aW λj hj=>?_
 rw[hw (p j),iS hj λt ht ne=>by rw[h.unit t ht j hj,if_neg ne];grind,h.unit j hj j hj,if_pos rfl];grind
theorem CG.lead_in (h:CG m n a k p R) (hx:dB k R x) {c:Nat} (h1:x c≠0) (h0:∀c',c' < c->x c'=0):∃j,j < k/\p j=c:=by
 refine Classical.byContradiction λhn=>h1 ?_
 rw[h.coef hx c];refine cT λj hj=>?_
 rcases nJ (p j) c with z | z | z
 ·rw[h0 _ z];grind
 ·exact absurd ⟨j,hj,z⟩ hn
 ·rw[h.lead j hj c z];grind
theorem inc_le (h1:∀i j,i < j->j < k->p i < p j) (h2:∀i j,i < j->j < k'->p' i < p' j) (hs:∀j,j < k'->∃i,i < k/\p i=p' j):∀{j:Nat},j < k'->∀{i:Nat},i < k->p i=p' j->j<=i
 | 0,_,_,_,_=>bo _
 | j+1,hj,i,hi,e=>by
  obtain ⟨i0,hi0,e0⟩:=hs j (by lia);have:=inc_le h1 h2 hs (j:=j) (by lia) hi0 e0;have lt:=h2 j (j+1) (by lia) hj;rcases nJ i0 i with z | z | z
  ·lia
  ·subst z;lia
  ·have:=h1 i i0 z hi0;lia
theorem FG (h1:∀i j,i < j->j < k->p i < p j) {i j:Nat} (h:i<=j) (hj:j < k):p i<=p j:=by
 rcases cM i j with z | z
 ·exact bh (h1 i j z hj)
 ·have:i=j:=by lia
  rw[this];exact au _
theorem DA (h1:∀i j,i < j->j < k->p i < p j) (h2:∀i j,i < j->j < k'->p' i < p' j) (hs:∀j,j < k'->∃i,i < k/\p i=p' j):k'<=k/\∀j,j < k'->p j<=p' j:=by
 refine ⟨?_,λj hj=>?_⟩
 ·rcases lV k' with z | z
  ·lia
  ·obtain ⟨i,hi,e⟩:=hs (k' - 1) (by lia);have:=inc_le h1 h2 hs (j:=k' - 1) (by lia) hi e
   lia
 ·obtain ⟨i,hi,e⟩:=hs j hj;rw[<- e];exact FG h1 (inc_le h1 h2 hs hj hi e) hi
theorem CG.uniq (h:CG m n a k p R) (h':CG m' n a' k' p' R') (s1:∀i,i < m->dB m' a' (a i)) (s2:∀i,i < m'->dB m a (a' i)):k=k'/\(∀j,j < k->p j=p' j)/\∀i,i < k->∀c,R i c=R' i c:=by
 have x1:∀i,i < k->dB k' R' (R i):=λi hi=>dB.trans (λt ht=>h'.span t ht) (dB.trans s1 (h.back i hi))
 have x2:∀i,i < k'->dB k R (R' i):=λi hi=>dB.trans (λt ht=>h.span t ht) (dB.trans s2 (h'.back i hi))
 have y1:∀j,j < k->∃i,i < k'/\p' i=p j:=λj hj=>h'.lead_in (x1 j hj) (by rw[h.unit j hj j hj,if_pos rfl];decide) (h.lead j hj)
 have y2:∀j,j < k'->∃i,i < k/\p i=p' j:=λj hj=>h.lead_in (x2 j hj) (by rw[h'.unit j hj j hj,if_pos rfl];decide) (h'.lead j hj)
 obtain ⟨z1,w1⟩:=DA h'.inc h.inc y1;obtain ⟨z2,w2⟩:=DA h.inc h'.inc y2;have ek:k=k':=Nat.le_antisymm z1 z2;subst ek;have ep:∀j,j < k->p j=p' j:=λj hj=>Nat.le_antisymm (w2 j hj) (w1 j hj)
 refine ⟨rfl,ep,λi hi c=>?_⟩;rw[h.coef (x2 i hi) c,iS hi λj hj ne=>by rw[ep j hj,h'.unit i hi j hj,if_neg (λz=>ne z.symm)];grind,ep i hi,h'.unit i hi i hi,if_pos rfl];grind
end
structure nX (a:Nat->Nat->Rat) (m k P:Nat) (p:Nat->Nat) (l:Nat->Nat->Rat) (d:Rat):Prop where
 km:k<=m
 d0:d≠0
 unit:∀i,i < m->∀j,j < k->l i (p j)=if i=j then d else 0
 inc:∀i j,i < j->j < k->p i < p j
 low:∀j,j < k->p j < P
 zero:∀i,k<=i->i < m->∀c,c < P->l i c=0
 lead:∀j,j < k->∀c,c < p j->l j c=0
 there:∀i,i < m->dB m l (a i)
 back:∀i,i < m->dB m a (l i)
section
variable {m k n P:Nat} {a l l':Nat->Nat->Rat} {p:Nat->Nat} {d d':Rat}
theorem nX.start:nX a m 0 0 p a 1 where
 km:=bo _
 d0:=by decide
 unit _ _ j hj:=absurd hj (by lia)
 inc _ j _ hj:=absurd hj (by lia)
 low j hj:=absurd hj (by lia)
 zero _ _ _ c hc:=absurd hc (by lia)
 lead j hj:=absurd hj (by lia)
 there i hi:=dB.row hi
 back i hi:=dB.row hi
theorem nX.skip (E:nX a m k P p l d) (h:∀i,k<=i->i < m->l i P=0):nX a m k (P+1) p l d :=
 ⟨E.km,E.d0,E.unit,E.inc,λj hj=>Nat.lt_succ_of_lt (E.low j hj),λi h1 h2 c hc=>by
  by_cases e:c=P
  ·rw[e];exact h i h1 h2
  ·exact E.zero i h1 h2 c (by lia),E.lead,E.there,E.back⟩
theorem K8 {k t i:Nat}:uN k t (uN k t i)=i:=by
 unfold uN
 split
 ·split <;> (try split) <;> lia
 ·split
  ·rw[if_pos rfl];lia
  ·rfl
theorem nX.swap (E:nX a m k P p l d) {t:Nat} (h:k<=t) (ht:t < m):nX a m k P p (λi=>l (uN k t i)) d where
 km:=E.km
 d0:=E.d0
 unit i hi j hj:=by
  rw[E.unit _ (tP (by lia) ht hi) j hj];by_cases hk:i < k
  ·rw[uL h hk]
  ·have:=vZ h (show k<=i by lia);rw[if_neg (by lia),if_neg (by lia)]
 inc:=E.inc
 low:=E.low
 zero i h1 h2 c hc:=E.zero _ (vZ h h1) (tP (by lia) ht h2) c hc
 lead j hj c hc:=by rw[uL h hj];exact E.lead j hj c hc
 there i hi:=dB.trans (λs hs=>dB.congr (λc=>by rw[K8]) (dB.row (a:=λi=>l (uN k t i)) (i:=uN k t s) (tP (by lia) ht hs))) (E.there i hi)
 back i hi:=E.back _ (tP (by lia) ht hi)
theorem nX.step (E : nX a m k P p l d) (hk : k < m) (h0 : d' ≠ 0) (unit' : ∀ i, i < m → ∀ j, j < k + 1 → l' i (if j = k then P else p j) = if i = j then d' else 0)
    (hl : ∀ i, i < m → ∃ β γ : Rat, β ≠ 0 /\ (i = k → γ = 0) /\ ∀ c, l' i c = β * l i c + γ * l k c) : nX a m (k + 1) (P + 1) (λj => if j = k then P else p j) l' d' where
  km := hk
  d0 := h0
  unit := unit'
  inc i j hij hj := by
    by_cases e : j = k
    · rw [if_pos e, if_neg (by lia)];exact E.low i (by lia)
    · rw [if_neg e, if_neg (by lia)];exact E.inc i j hij (by lia)
  low j hj := by
    by_cases e : j = k
    · rw [if_pos e]; lia
    · rw [if_neg e];exact Nat.lt_succ_of_lt (E.low j (by lia))
  zero i h1 h2 c hc := by
    by_cases e : c = P
    · have := unit' i h2 k (by lia);rw [if_pos rfl, if_neg (by lia)] at this;rw [e]; exact this
    · obtain ⟨β, γ, _, _, q⟩ := hl i h2;rw [q c, E.zero i (by lia) h2 c (by lia), E.zero k (au _) hk c (by lia)];grind
  lead j hj c hc := by
    have km := E.km;obtain ⟨β, γ, _, _, q⟩ := hl j (by lia);by_cases e : j = k
    · rw [if_pos e] at hc;rw [q c, e, E.zero k (au _) hk c hc];grind
    · rw [if_neg e] at hc;have := E.low j (by lia);rw [q c, E.lead j (by lia) c hc, E.zero k (au _) hk c (by lia)];grind
  there i hi := by
    refine dB.trans (λs hs => ?_) (E.there i hi);obtain ⟨β, γ, b0, _, q⟩ := hl s hs;obtain ⟨βk, γk, bk0, gk, qk⟩ := hl k hk;have g0 := gk rfl;refine dB.congr (λc => ?_) (dB.lin (1 / β) (-(γ / β) / βk) (dB.row (a := l') hs) (dB.row (a := l') hk));rw [q c, qk c, g0];grind
  back i hi := by
    obtain ⟨β, γ, _, _, q⟩ := hl i hi;exact dB.congr (λc => (q c).symm) (dB.lin β γ (E.back i hi) (E.back k hk))
theorem nX.done (E:nX a m k n p l d) (ha:∀i,i < m->∀c,n<=c->a i c=0):CG m n a k p (λi c=>l i c / d) where
 inc:=E.inc
 low:=E.low
 unit i hi j hj:=by
  have d0:=E.d0;have km:=E.km;rw[E.unit i (by lia) j hj]
  split
  ·grind
  ·grind
 lead i hi c hc:=by
  rw[E.lead i hi c hc];grind
 span i hi:=by
  have d0:=E.d0;refine dB.trans (λs hs=>?_) (E.there i hi);by_cases z:s < k
  ·refine dB.congr (λc=>?_) (dB.lin d 0 (dB.row (a:=λi c=>l i c / d) z) (dB.row (a:=λi c=>l i c / d) z));grind
  ·refine dB.zero λc=>?_
   by_cases hc:c < n
   ·exact E.zero s (by lia) hs c hc
   ·obtain ⟨w,hw⟩:=E.back s hs;rw[hw c,cT λt ht=>by rw[ha t ht c (by lia)];grind]
 back i hi:=by
  have km:=E.km;have d0:=E.d0;refine dB.congr (λc=>?_) (dB.lin (1 / d) 0 (E.back i (by lia)) (E.back i (by lia)));grind
end
def dQ (ls:List (List Int)) (i c:Nat):Rat:=(((ls.getD i []).getD c 0:Int):Rat)
def bM (rows:LR9) (i c:Nat):Rat:=(rows.getD i []).getD c 0
def oF (ls:List (List Int)) (k t:Nat):List (List Int):=(ls.set k (ls.getD t [])).set t (ls.getD k [])
def BC (ls:List (List Int)) (k c:Nat) (b:Int):List (List Int):=(ls.map λzs=>List.zipWith (λx y=>((ls.getD k []).getD c 0*x - zs.getD c 0*y).fdiv b) zs (ls.getD k [])).set k (ls.getD k [])
section
variable {ls ls0:List (List Int)} {k t n P c:Nat} {b d:Int} {ps:List Nat}
theorem qo {α:Type} {l:List α} {i j:Nat} {x e:α} (hi:i < l.length):(l.set i x).getD j e=if j=i then x else l.getD j e:=by
 rw[aa,aa,List.getElem?_set];by_cases h:j=i
 ·subst h;rw[if_pos rfl,if_pos hi,if_pos rfl];rfl
 ·rw[if_neg (λz=>h z.symm),if_neg h]
theorem uM:(oF ls k t).length=ls.length:=by unfold oF;rw[dY,dY]
theorem Gx:(BC ls k c b).length=ls.length:=by unfold BC;rw[dY,ag]
theorem getD_in {α:Type} {l:List α} {i:Nat} {e:α} (h:i < l.length):l.getD i e∈l:=by
 rw[aa,af h];exact aN h
theorem CU (w:∀zs∈ls,zs.length=n) (hk:k < ls.length) (ht:t < ls.length):∀zs∈oF ls k t,zs.length=n:=λzs hz=>by
 unfold oF at hz;rcases bZ hz with h | h
 ·rcases bZ h with h | h
  ·exact w zs h
  ·rw[h];exact w _ (getD_in ht)
 ·rw[h];exact w _ (getD_in hk)
theorem DJ (w:∀zs∈ls,zs.length=n) (hk:k < ls.length):∀zs∈BC ls k c b,zs.length=n:=λzs hz=>by
 unfold BC at hz;rcases bZ hz with h | h
 ·obtain ⟨y,hy,rfl⟩:=ay.mp h;rw[bC,w y hy,w _ (getD_in hk)]
  lia
 ·rw[h];exact w _ (getD_in hk)
theorem ui (hk:k < ls.length) (ht:t < ls.length) (i c:Nat):dQ (oF ls k t) i c=dQ ls (uN k t i) c:=by
 unfold dQ oF uN;rw[qo (by rw[dY];exact ht),qo hk];by_cases h1:i=t
 ·rw[if_pos h1];by_cases h2:i=k
  ·rw[if_pos h2,<- h1,<- h2]
  ·rw[if_neg h2,if_pos h1]
 ·rw[if_neg h1];by_cases h2:i=k
  ·rw[if_pos h2,if_pos h2]
  ·rw[if_neg h2,if_neg h2,if_neg h1]
theorem z7 (w:∀zs∈ls,zs.length=n) {i c:Nat} (hc:n<=c):dQ ls i c=0:=by
 unfold dQ;by_cases h:i < ls.length
 ·have:=w _ (getD_in (e:=[]) h);rw[aa (l:=ls.getD i []),aP (by lia)];rfl
 ·rw[aa (l:=ls),aP (by lia)];rfl
theorem xI {x:Int} (h:(x:Rat)=0):x=0:=by
 have:(x:Rat)=((0:Int):Rat):=h;exact dq.mp this
theorem CA {x b:Int} {q:Rat} (hb:b≠0) (hq:∃z:Int,q=(z:Rat)) (e:(x:Rat)=(b:Rat)*q):((x.fdiv b:Int):Rat)=q:=by
 obtain ⟨z,rfl⟩:=hq;rw[<- aM] at e;have:=dq.mp e;rw[this,Int.mul_fdiv_cancel_left _ hb]
theorem Iw {W:Nat} {q:Rat} (h:Fr 1 W q):∃z:Int,q=(z:Rat):=by
 obtain ⟨z,e,_⟩:=h;exact ⟨z,by rw[<- e];simp⟩
theorem Cz {W:Nat} {z:Int} (h:Fr 1 W (z:Rat)):z.natAbs<=W:=by
 obtain ⟨y,e,b⟩:=h;have:(z:Rat)=(y:Rat):=by rw[<- e];simp
 rw[dq.mp this];simpa using b
theorem FU (w:∀zs∈ls,zs.length=n) (hk:k < ls.length) (hb:b≠0) {i:Nat} (hi:i < ls.length) (hz:∀c,∃z:Int,(dQ ls k P*dQ ls i c - dQ ls i P*dQ ls k c) / (b:Rat)=(z:Rat)) (c:Nat) :
  dQ (BC ls k P b) i c=if i=k then dQ ls k c else (dQ ls k P*dQ ls i c - dQ ls i P*dQ ls k c) / (b:Rat):=by
 by_cases e:i=k
 ·rw[if_pos e];unfold dQ BC;rw[qo (by rw[ag];exact hk),if_pos e]
 ·rw[if_neg e];by_cases hc:c < n
  ·have hb':(b:Rat)≠0:=λz=>hb (xI z)
   have lk:=w _ (getD_in (e:=[]) hk);have li:=w _ (getD_in (e:=[]) hi)
   have e1:dQ (BC ls k P b) i c=(((((ls.getD k []).getD P 0*(ls.getD i []).getD c 0 - (ls.getD i []).getD P 0*(ls.getD k []).getD c 0).fdiv b:Int)):Rat):=by
    unfold BC;rw[dQ,qo (by rw[ag];exact hk),if_neg e];rw[aa (l:=List.map _ ls),az,af hi];show ((((List.zipWith _ ls[i] (ls.getD k [])).getD c 0:Int)):Rat)=_
    have ei:ls.getD i []=ls[i]:=by rw[aa,af hi];rfl
    rw[<- ei];rw[aa (l:=List.zipWith _ _ _),bO,aa (l:=ls.getD i []) (i:=c),aa (l:=ls.getD k []) (i:=c),af (show c < (ls.getD i []).length by lia),af (show c < (ls.getD k []).length by lia)];rfl
   rw[e1];refine CA hb (hz c) ?_;rw[Rat.intCast_sub,aM,aM];show _=(b:Rat)*((dQ ls k P*dQ ls i c - dQ ls i P*dQ ls k c) / (b:Rat))
   show dQ ls k P*dQ ls i c - dQ ls i P*dQ ls k c=_
   grind
  ·rw[z7 (DJ w hk) (show n<=c by lia),z7 w (i:=i) (show n<=c by lia),z7 w (i:=k) (show n<=c by lia)];grind
end
section
variable {m k n P:Nat} {a l l2:Nat->Nat->Rat} {pm p p2:Nat->Nat} {d:Rat}
theorem xU.congr (B:xU a m k pm p l d) (hp:∀j,j < k->p2 j=p j) (hl:∀i,i < m->∀c,l2 i c=l i c):xU a m k pm p2 l2 d where
 inj:=B.inj
 rng:=B.rng
 km:=B.km
 d0:=B.d0
 det:=by rw[B.det,cw_congr (f:=λj r=>a r (p j)) (g:=λj r=>a r (p2 j)) λj hj=>by rw[hp j hj]]
 eqs i hi c:=by
  have km:=B.km;rw[B.eqs i hi c,hl i hi c];congr 1;exact aW λj hj=>by rw[hp j hj,hl j (by lia) c]
 unit i hi j hj:=by rw[hp j hj,hl i hi];exact B.unit i hi j hj
theorem dB.rows {x:Nat->Rat} (h:∀i,i < m->∀c,l2 i c=l i c) (hx:dB m l x):dB m l2 x:=by obtain ⟨w,hw⟩:=hx;exact ⟨w,λc=>by rw[hw c];exact aW λt ht=>by rw[h t ht c]⟩
theorem nX.congr (E:nX a m k P p l d) (hp:∀j,j < k->p2 j=p j) (hl:∀i,i < m->∀c,l2 i c=l i c):nX a m k P p2 l2 d where
 km:=E.km
 d0:=E.d0
 unit i hi j hj:=by rw[hp j hj,hl i hi];exact E.unit i hi j hj
 inc i j hij hj:=by rw[hp i (by lia),hp j hj];exact E.inc i j hij hj
 low j hj:=by rw[hp j hj];exact E.low j hj
 zero i h1 h2 c hc:=by rw[hl i h2];exact E.zero i h1 h2 c hc
 lead j hj c hc:=by
  have km:=E.km;rw[hp j hj] at hc;rw[hl j (by lia)];exact E.lead j hj c hc
 there i hi:=(E.there i hi).rows hl
 back i hi:=(E.back i hi).congr λc=>(hl i hi c).symm
theorem nX.kP (E:nX a m k P p l d):k<=P:=by
 have:∀j,j < k->j<=p j:=by
  intro j
  induction j with
  | zero=>intro _;exact bo _
  | succ j ih =>
   intro hj;have:=ih (by lia);have:=E.inc j (j+1) (by lia) hj
   lia
 rcases lV k with z | z
 ·lia
 ·have h1:=this (k - 1) (by lia);have h2:=E.low (k - 1) (by lia)
  lia
end
structure zg (ls0:List (List Int)) (n P:Nat) (ls:List (List Int)) (ps:List Nat) (d:Int):Prop where
 len:ls.length=ls0.length
 wide:∀zs∈ls,zs.length=n
 bar:∃pm,xU (dQ ls0) ls0.length ps.length pm (λj=>ps.getD j 0) (dQ ls) d
 el:nX (dQ ls0) ls0.length ps.length P (λj=>ps.getD j 0) (dQ ls) d
section
variable {ls0 ls:List (List Int)} {n P:Nat} {ps:List Nat} {d:Int}
theorem zg.start (w:∀zs∈ls0,zs.length=n):zg ls0 n 0 ls0 [] 1:=⟨rfl,w,⟨λi=>i,xU.start λ_ _=>rfl⟩,nX.start⟩
theorem zg.d0 (h:zg ls0 n P ls ps d):d≠0:=λz=>h.el.d0 (by rw[z];rfl)
theorem zg.skip (h:zg ls0 n P ls ps d) (hz:∀i,ps.length<=i->i < ls.length->dQ ls i P=0):zg ls0 n (P+1) ls ps d:=⟨h.len,h.wide,h.bar,h.el.skip λi h1 h2=>hz i h1 (by rw[h.len];exact h2)⟩
theorem getD_snoc {l:List Nat} {x j:Nat} (hj:j < l.length+1):(l++[x]).getD j 0=if j=l.length then x else l.getD j 0:=by
 rw[aa,aa];by_cases e:j=l.length
 ·rw[if_pos e,e,bR (au _),rO];rfl
 ·rw[if_neg e,cQ (by lia)]
theorem zg.int {W:Nat} (h:zg ls0 n P ls ps d) (hW:1<=W) (h0:∀i,i < ls0.length->∀c,Fr 1 W (dQ ls0 i c)) {t:Nat} (ht:ps.length<=t) (ht2:t < ls.length) (hne:dQ ls t P≠0) :
  ∀i,i < ls.length->i≠ps.length->∀c,∃z:Int,(dQ (oF ls ps.length t) ps.length P*dQ (oF ls ps.length t) i c - dQ (oF ls ps.length t) i P*dQ (oF ls ps.length t) ps.length c) / (d:Rat)=(z:Rat):=λi hi ne c=>by
 obtain ⟨pm,B⟩:=h.bar;have hl:=h.len;have hk:ps.length < ls.length:=by lia
 have B1:=(B.swap ht (by lia)).congr (p2:=λj=>ps.getD j 0) (l2:=dQ (oF ls ps.length t)) (λ_ _=>rfl) (λi _ c=>ui hk ht2 i c)
 have h1:dQ (oF ls ps.length t) ps.length P≠0:=by
  rw[ui hk ht2];unfold uN;rw[if_pos rfl];exact hne
 have B2:=B1.step (c0:=P) (by lia) h1;have:=B2.fr (W:=W) (N:=ps.length+2) (by lia) hW h0 (i:=i) (c:=c) (by lia);rw[if_neg ne] at this;exact Iw this
theorem zg.step {W:Nat} (h:zg ls0 n P ls ps d) (hW:1<=W) (h0:∀i,i < ls0.length->∀c,Fr 1 W (dQ ls0 i c)) {t:Nat} (ht:ps.length<=t) (ht2:t < ls.length) (hne:dQ ls t P≠0) :
  zg ls0 n (P+1) (BC (oF ls ps.length t) ps.length P d) (ps++[P]) (((BC (oF ls ps.length t) ps.length P d).getD ps.length []).getD P 0):=by
 obtain ⟨pm,B⟩:=h.bar;have hl:=h.len;have hk:ps.length < ls.length:=by lia
 have hz:=h.int hW h0 ht ht2 hne;have w1:=CU h.wide hk ht2;have k1:ps.length < (oF ls ps.length t).length:=by rw[uM];exact hk
 have B1:=(B.swap ht (by lia)).congr (p2:=λj=>ps.getD j 0) (l2:=dQ (oF ls ps.length t)) (λ_ _=>rfl) (λi _ c=>ui hk ht2 i c);have E1:=(h.el.swap ht (by lia)).congr (p2:=λj=>ps.getD j 0) (l2:=dQ (oF ls ps.length t)) (λ_ _=>rfl) (λi _ c=>ui hk ht2 i c)
 have h1:dQ (oF ls ps.length t) ps.length P≠0:=by
  rw[ui hk ht2];unfold uN;rw[if_pos rfl];exact hne
 have B2:=B1.step (c0:=P) (by lia) h1
 have fc:∀i,i < ls0.length->∀c,dQ (BC (oF ls ps.length t) ps.length P d) i c=if i=ps.length then dQ (oF ls ps.length t) ps.length c else (dQ (oF ls ps.length t) ps.length P*dQ (oF ls ps.length t) i c - dQ (oF ls ps.length t) i P*dQ (oF ls ps.length t) ps.length c) / (d:Rat):=λi hi c=>by
  by_cases e:i=ps.length
  ·rw[if_pos e];unfold dQ BC;rw[qo (by rw[ag];exact k1),if_pos e]
  ·have:=FU w1 k1 h.d0 (i:=i) (by rw[uM];lia) (hz i (by lia) e) c;rw[this]
 have ed:(((((BC (oF ls ps.length t) ps.length P d).getD ps.length []).getD P 0:Int)):Rat)=dQ (oF ls ps.length t) ps.length P:=by
  have:=fc ps.length (by lia) P;rw[if_pos rfl] at this;exact this
 have lp:(ps++[P]).length=ps.length+1:=by rw[aA];rfl
 have hp:∀j,j < ps.length+1->(ps++[P]).getD j 0=if j=ps.length then P else ps.getD j 0:=λj hj=>getD_snoc hj
 refine ⟨by rw[Gx,uM];exact hl,DJ w1 k1,⟨λi=>pm (uN ps.length t i),?_⟩,?_⟩
 ·rw[ed,lp];exact B2.congr hp fc
 ·rw[ed,lp];refine nX.congr (E1.step (d':=dQ (oF ls ps.length t) ps.length P) (l':=λi c=>if i=ps.length then dQ (oF ls ps.length t) ps.length c else (dQ (oF ls ps.length t) ps.length P*dQ (oF ls ps.length t) i c - dQ (oF ls ps.length t) i P*dQ (oF ls ps.length t) ps.length c) / (d:Rat)) (by lia) h1 B2.unit λi hi=>?_) hp fc;have d0:=h.el.d0;by_cases e:i=ps.length
  ·refine ⟨1,0,by decide,λ_=>rfl,λc=>?_⟩;rw[if_pos e,e];grind
  ·refine ⟨dQ (oF ls ps.length t) ps.length P / (d:Rat),-(dQ (oF ls ps.length t) i P) / (d:Rat),?_,λz=>absurd z e,λc=>?_⟩
   ·intro z;apply h1;grind
   ·rw[if_neg e];grind
theorem zg.sz {W r:Nat} (h:zg ls0 n P ls ps d) (hW:1<=W) (h0:∀i,i < ls0.length->∀c,Fr 1 W (dQ ls0 i c)) (hP:P<=n) (hr:min ls0.length n<=r) (r15:r<=15):(d.natAbs<=(16*W)^r)/\∀zs∈ls,∀z∈zs,z.natAbs<=(16*W)^r:=by
 obtain ⟨pm,B⟩:=h.bar;have kP:=h.el.kP;have km:=B.km;have hl:=h.len;have mono:∀{s t:Nat},s<=t->(16*W)^s<=(16*W)^t:=λhs=>ah (dr (by decide) hW) hs
 refine ⟨ai (Cz (B.dfr (W:=W) (N:=16) (by lia) h0)) (mono (by lia)),λzs hz z hz'=>?_⟩;obtain ⟨i,hi,rfl⟩:=gM hz;obtain ⟨c,hc,rfl⟩:=gM hz';have hw:=h.wide _ (aN hi)
 have ez:dQ ls i c=(((ls[i])[c]:Int):Rat):=by
  unfold dQ;rw[aa (l:=ls),af hi];show ((ls[i].getD c 0:Int):Rat)=_
  rw[aa,af hc];rfl
 by_cases hk:i < ps.length
 ·have:Fr 1 ((16*W)^ps.length) (dQ ls i c):=by
   have hd:=B.d0;rw[B.old hk]
   have:=BA (W:=W) (N:=16) (rs:=AV pm ps.length) (vs:=GI (λj r=>dQ ls0 r (ps.getD j 0)) i ps.length++(λr=>dQ ls0 r c) :: tz (λj r=>dQ ls0 r (ps.getD j 0)) i) (by
    have:=congrArg List.length (cw_split (v:=λj r=>dQ ls0 r (ps.getD j 0)) hk);rw[aA,bJ,cw_len] at this;rw[aA,bJ]
    lia) (by
    intro v hv r hr
    have hr':∀c,Fr 1 W (dQ ls0 r c):=λc=>by
     obtain ⟨t,ht,rfl⟩:=sT hr;exact h0 _ (B.rng t (by lia)) c
    rcases aI.mp hv with hv | hv
    ·obtain ⟨t,_,rfl⟩:=Gi hv;exact hr' _
    ·rcases aE.mp hv with rfl | hv
     ·exact hr' _
     ·obtain ⟨t,_,rfl⟩:=cw_in hv;exact hr' _)
   rwa [wX] at this
  rw[ez] at this;exact ai (Cz this) (mono (by lia))
 ·by_cases hn:ps.length < n
  ·have:=B.fr (W:=W) (N:=16) (by lia) hW h0 (i:=i) (c:=c) (by lia);rw[ez] at this;exact ai (Cz this) (mono (by lia))
  ·have:=h.el.zero i (by lia) (by lia) c (by lia);rw[ez] at this;rw[xI this];exact bo _
end
def Tp (M W:Nat) (q:Rat):Prop:=∃z:Int,q*(M:Rat)=(z:Rat)/\z.natAbs<=W
theorem Tp.of {M V W:Nat} {q:Rat} (h:Fr M V q) (hW:V*M<=W):Tp M W q:=by obtain ⟨z,a,b⟩:=h;exact ⟨z,a,ai b hW⟩
theorem Tp.mono {M W W':Nat} {q:Rat} (h:Tp M W q) (hW:W<=W'):Tp M W' q:=by obtain ⟨z,a,b⟩:=h;exact ⟨z,a,ai b hW⟩
theorem Tp.fr {M W:Nat} {q:Rat} (h:Tp M W q) (h0:0 < M):Fr M W q:=by obtain ⟨z,a,b⟩:=h;exact ⟨z,a,ai b (dU _ h0)⟩
def DP (rows:LR9) (n w:Nat):Prop:=∃M W:Nat,0 < M/\M<=2^4300/\1<=W/\W<=2^w/\(∀xs∈rows,∀x∈xs,Tp M W x)/\w<=4300/\min rows.length n<=15/\min rows.length n*(w+4)<=8900
def lX (xs:List Rat):List Int:=eh (xs.map nm) (gI (xs.map nm))
theorem wB {xs:List Rat}:(lX xs).length=xs.length:=by unfold lX eh;rw[ag,ag]
theorem BG {xs:List Rat}:0 < gI (xs.map nm):=xB (by decide) λb hb=>by
 obtain ⟨n,hn,rfl⟩:=ay.mp hb;obtain ⟨x,_,rfl⟩:=ay.mp hn;exact jy x
theorem GZ {xs:List Rat} {c:Nat}:(((lX xs).getD c 0:Int):Rat)=xs.getD c 0*((gI (xs.map nm):Int):Rat):=by
 unfold lX eh;rw[aa,aa,az,az];cases e:xs[c]? with
 | none=>show ((0:Int):Rat)=0*_;rw[Rat.zero_mul];rfl
 | some x=>exact pZ (uy (ay.mpr ⟨x,ak e,rfl⟩))
section
variable {rows:LR9} {n w i c:Nat} {xs:List Rat}
theorem EE (hi:i < rows.length):dQ (rows.map lX) i c=((gI ((rows.getD i []).map nm):Int):Rat)*bM rows i c:=by
 unfold dQ bM
 have e:(rows.map lX).getD i []=lX (rows.getD i []):=by
  rw[aa,aa,az,af hi];rfl
 rw[e,GZ,jZ]
theorem Kr (hw:∀xs∈rows,xs.length=n) (hc:n<=c):bM rows i c=0:=by
 unfold bM;by_cases h:i < rows.length
 ·have:=hw _ (getD_in (e:=[]) h);rw[aa (l:=rows.getD i []),aP (by lia)];rfl
 ·rw[aa (l:=rows),aP (by lia)];rfl
theorem GV (i:Nat) (hi:i < rows.length):dB rows.length (dQ (rows.map lX)) (bM rows i):=by
 have h0:((gI ((rows.getD i []).map nm):Int):Rat)≠0:=λz=>by
  have:=BG (xs:=rows.getD i []);have:=xI z
  lia
 refine dB.congr (λc=>?_) (dB.lin (1 / ((gI ((rows.getD i []).map nm):Int):Rat)) 0 (dB.row (a:=dQ (rows.map lX)) hi) (dB.row (a:=dQ (rows.map lX)) hi));rw[EE hi];grind
theorem GS (i:Nat) (hi:i < rows.length):dB rows.length (bM rows) (dQ (rows.map lX) i):=by
 refine dB.congr (λc=>?_) (dB.lin ((gI ((rows.getD i []).map nm):Int):Rat) 0 (dB.row (a:=bM rows) hi) (dB.row (a:=bM rows) hi));rw[EE hi];grind
theorem wA {M W:Nat} {x:Rat} (h:Tp M W x):(nm x).2∣(M:Int):=by
 obtain ⟨z,e,b⟩:=h
 exact Fr.den (V:=z.natAbs) (M:=M) ⟨z,e,by
  rcases lV M with h | h
  ·subst h;have:(z:Rat)=0:=by rw[<- e];simp
   rw[xI this];simp
  ·exact dU _ h⟩
theorem BU {M W:Nat} {x:Rat} (h:Tp M W x) (h0:0 < M) {B:Int} (hB:0 < B) (d1:(nm x).2∣B) (d2:B∣(M:Int)):∃t:Int,x*(B:Rat)=(t:Rat)/\t.natAbs<=W:=by
 obtain ⟨z,e,b⟩:=h;obtain ⟨s,es⟩:=d2;refine ⟨(nm x).1*(B / (nm x).2),(pZ d1).symm,?_⟩
 have s0:0 < s:=by
  rcases Int.lt_trichotomy s 0 with h | h | h
  ·have:=Int.mul_neg_of_pos_of_neg hB h
   lia
  ·rw[h] at es;lia
  ·exact h
 have e2:(((nm x).1*(B / (nm x).2)*s:Int):Rat)=(z:Rat):=by
  rw[aM,pZ d1,<- e,<- bY,es,aM];grind
 have e3:=dq.mp e2;have:((nm x).1*(B / (nm x).2)).natAbs*s.natAbs=z.natAbs:=by rw[<- gQ,e3]
 have h1:1<=s.natAbs:=by lia
 have:=dU ((nm x).1*(B / (nm x).2)).natAbs h1
 lia
theorem IH {M W:Nat} (h0:0 < M) (h:∀x∈xs,Tp M W x):gI (xs.map nm)∣(M:Int):=v5 (by decide) (Int.one_dvd _) λb hb=>by
 obtain ⟨n,hn,rfl⟩:=ay.mp hb;obtain ⟨x,hx,rfl⟩:=ay.mp hn;exact ⟨jy x,wA (h x hx)⟩
theorem DP.rowM (F:DP rows n w) (hx:xs∈rows):∃M,CH M (xs.map nm):=by
 obtain ⟨M,W,h0,h1,hW,h2,h3,h4,_⟩:=F;refine ⟨M,by lia,?_,λy hy=>?_⟩
 ·show ((M:Nat):Int).natAbs < 2^4400
  rw[h8];exact bc h1 (dM (by decide) (by decide))
 ·obtain ⟨x,hx',rfl⟩:=ay.mp hy;have t:=h3 xs hx x hx';refine ⟨jy x,wA t,?_⟩;obtain ⟨s,e,b⟩:=BU t h0 (jy x) (Int.dvd_refl _) (wA t);have e2:(((nm x).1:Int):Rat)=(s:Rat):=by rw[<- e];exact oN x
  rw[dq.mp e2];exact bc (ai b h2) (dM (by decide) (by lia))
theorem DP.ent (F:DP rows n w):∃W:Nat,1<=W/\W<=2^w/\∀i,i < (rows.map lX).length->∀c,Fr 1 W (dQ (rows.map lX) i c):=by
 obtain ⟨M,W,h0,h1,hW,h2,h3,h4,_⟩:=F;refine ⟨W,hW,h2,λi hi c=>?_⟩;rw[ag] at hi;have hx:=getD_in (e:=[]) hi;rw[EE hi];unfold bM;generalize rows.getD i []=xs at hx ⊢;by_cases hc:c < xs.length
 ·have t:=h3 xs hx _ (getD_in (e:=0) hc);obtain ⟨s,e,b⟩:=BU t h0 (BG (xs:=xs)) (uy (ay.mpr ⟨_,getD_in (e:=0) hc,rfl⟩)) (IH h0 (h3 xs hx));rw[jZ,e];exact Fr.int b
 ·rw[aa,aP (by lia)];show Fr 1 W (_*0)
  rw[wt];exact Fr.zero
end
def bU (rows:LR9) (n:Nat) (R:LR9) (ps:List Nat):Prop:=R.length=ps.length/\(∀xs∈R,xs.length=n)/\CG rows.length n (bM rows) ps.length (λj=>ps.getD j 0) (bM R)
structure Mo (rows:LR9) (n w:Nat) (R:LR9) (ps:List Nat) (d:Int) (ls:List (List Int)):Prop where
 rr:bU rows n R ps
 d0:d≠0
 len:ls.length=ps.length
 wide:∀zs∈ls,zs.length=n
 val:∀i c,dQ ls i c=(d:Rat)*bM R i c
 dsz:d.natAbs<=2^(min rows.length n*(w+4))
 zsz:∀zs∈ls,∀z∈zs,z.natAbs<=2^(min rows.length n*(w+4))
 tp:∀xs∈R,∀x∈xs,Tp d.natAbs (2^(min rows.length n*(w+4))) x
 km:ps.length<=rows.length
theorem CG.congrR {m n k:Nat} {a R R2:Nat->Nat->Rat} {p:Nat->Nat} (h:CG m n a k p R) (hr:∀i,i < k->∀c,R2 i c=R i c):CG m n a k p R2 :=
 ⟨h.inc,h.low,λi hi j hj=>by rw[hr i hi];exact h.unit i hi j hj,λi hi c hc=>by rw[hr i hi];exact h.lead i hi c hc,λi hi=>(h.span i hi).rows hr,λi hi=>(h.back i hi).congr λc=>(hr i hi c).symm⟩
theorem CG.other {m m' n k:Nat} {a a' R:Nat->Nat->Rat} {p:Nat->Nat} (h:CG m n a k p R) (s1:∀i,i < m->dB m' a' (a i)) (s2:∀i,i < m'->dB m a (a' i)):CG m' n a' k p R :=
 ⟨h.inc,h.low,h.unit,h.lead,λi hi=>dB.trans h.span (s2 i hi),λi hi=>dB.trans s1 (h.back i hi)⟩
theorem Cd {W w r : Nat} (h : W ≤ 2 ^ w) : (16 * W) ^ r ≤ 2 ^ (r * (w + 4)) := by
  calc (16 * W) ^ r ≤ (2 ^ (w + 4)) ^ r := Nat.pow_le_pow_left (by rw [bX]; lia) _
    _ = 2 ^ (r * (w + 4)) := by rw [<- Nat.pow_mul, cC]
theorem zg.done {rows:LR9} {n w:Nat} {ls:List (List Int)} {ps:List Nat} {d:Int} (h:zg (rows.map lX) n n ls ps d) (hw:∀xs∈rows,xs.length=n) (F:DP rows n w) :
  ∃R,Mo rows n w R ps d (ls.take ps.length):=by
 obtain ⟨W,hW,W2,ent⟩:=F.ent;obtain ⟨_,_,_,_,_,_,_,_,r15,_⟩:=F;have hl:=h.len;have d0:=h.d0;have d0':(d:Rat)≠0:=λz=>d0 (xI z)
 have km:=h.el.km;have hm:(rows.map lX).length=rows.length:=ag ..;obtain ⟨s1,s2⟩:=h.sz (r:=min rows.length n) hW ent (au _) (by rw[hm];exact au _) r15;have s2':∀zs∈ls,∀z∈zs,z.natAbs<=2^(min rows.length n*(w+4)):=λzs hz z hz'=>ai (s2 zs hz z hz') (Cd W2)
 have er:∀i c,bM ((ls.take ps.length).map λzs=>zs.map λ(z:Int)=>(z:Rat) / (d:Rat)) i c=dQ (ls.take ps.length) i c / (d:Rat):=λi c=>by
  unfold bM dQ;rw[aa (l:=List.map _ _),az,aa (l:=List.take _ _)];cases e:(ls.take ps.length)[i]? with
  | none=>show (0:Rat)=((0:Int):Rat) / _;grind
  | some zs =>
   show (zs.map λ(z:Int)=>(z:Rat) / (d:Rat)).getD c 0=((zs.getD c 0:Int):Rat) / (d:Rat)
   rw[aa,aa,az];cases e2:zs[c]? with
   | none=>show (0:Rat)=((0:Int):Rat) / _;grind
   | some z=>rfl
 have et:∀i,i < ps.length->∀c,dQ (ls.take ps.length) i c=dQ ls i c:=λi hi c=>by
  unfold dQ;rw[aa (l:=List.take _ _),KN hi,<- aa]
 have RR:=(h.el.done λi hi c hc=>z7 (n:=n) (λzs hz=>by
  obtain ⟨xs,hx,rfl⟩:=ay.mp hz;rw[wB];exact hw xs hx) hc).congrR (R2:=bM ((ls.take ps.length).map λzs=>zs.map λ(z:Int)=>(z:Rat) / (d:Rat))) λi hi c=>by rw[er,et i hi]
 rw[hm] at RR;refine ⟨(ls.take ps.length).map λzs=>zs.map λ(z:Int)=>(z:Rat) / (d:Rat),⟨by rw[ag,cO];lia,λxs hx=>?_,RR.other GS GV⟩,d0,by rw[cO];lia,λzs hz=>h.wide zs (cm hz),λi c=>?_,ai s1 (Cd W2),λzs hz=>s2' zs (cm hz),λxs hx x hx'=>?_,by lia⟩
 ·obtain ⟨zs,hz,rfl⟩:=ay.mp hx;rw[ag];exact h.wide zs (cm hz)
 ·rw[er];grind
 ·obtain ⟨zs,hz,rfl⟩:=ay.mp hx;obtain ⟨z,hz',rfl⟩:=ay.mp hx';have b:=s2' zs (cm hz) z hz';rcases Int.natAbs_eq d with e | e
  ·refine ⟨z,?_,b⟩;have:((d.natAbs:Nat):Rat)=(d:Rat):=by rw[<- bY,<- e]
   rw[this];grind
  ·refine ⟨-z,?_,by rw[sQ];exact b⟩;have:((d.natAbs:Nat):Rat)=-(d:Rat):=by rw[<- bY,<- iO];congr 1;lia
   rw[this,iO];grind
theorem FR {R R':LR9} {n:Nat} (hl:R.length=R'.length) (w1:∀xs∈R,xs.length=n) (w2:∀xs∈R',xs.length=n) (h:∀i,i < R.length->∀c,bM R i c=bM R' i c):R=R':=by
 apply cz hl;intro i h1 h2;apply cz (by rw[w1 _ (aN h1),w2 _ (aN h2)]);intro c h3 h4;have:=h i h1 c;unfold bM at this;rw[aa (l:=R),aa (l:=R'),af h1,af h2] at this;have this:(R[i]).getD c 0=(R'[i]).getD c 0:=this;rw[aa,aa,af h3,af h4] at this;exact this
theorem bU.uniq {rows rows' R R':LR9} {n:Nat} {ps ps':List Nat} (h:bU rows n R ps) (h':bU rows' n R' ps') (s1:∀i,i < rows.length->dB rows'.length (bM rows') (bM rows i)) (s2:∀i,i < rows'.length->dB rows.length (bM rows) (bM rows' i)):R=R'/\ps=ps':=by
 obtain ⟨l1,w1,r1⟩:=h;obtain ⟨l2,w2,r2⟩:=h';obtain ⟨ek,ep,eR⟩:=r1.uniq r2 s1 s2;refine ⟨FR (by lia) w1 w2 λi hi c=>eR i (by lia) c,?_⟩;apply cz ek;intro j h1 h2;have:=ep j h1;rw[aa,aa,af h1,af h2] at this;exact this
theorem bU.same {rows R R':LR9} {n:Nat} {ps ps':List Nat} (h:bU rows n R ps) (h':bU rows n R' ps'):R=R'/\ps=ps':=h.uniq h' (λ_ hi=>dB.row hi) (λ_ hi=>dB.row hi)
open PySem PySem.Spec PyProof.Rows
def DQ (l:Addr) (H:Hp) (zs:List Int) (v:V):Prop:=∃q,v=V.ref q/\q≠l/\H q=some (.lst (zs.map V.int))
def qG (l:Addr) (H:Hp) (p:Addr) (ls:List (List Int)):Prop:=p≠l/\∃xs,H p=some (.lst xs)/\Paired (DQ l H) ls xs
theorem DQ.same {l:Addr} {H H':Hp} {zs:List Int} {v:V} (h:DQ l H zs v) (e:aH H H'):DQ l H' zs v:=by obtain ⟨q,a,n,b⟩:=h;exact ⟨q,a,n,e _ _ b⟩
theorem DQ.upd {l:Addr} {H:Hp} {zs:List Int} {v:V} {o:HO} (h:DQ l H zs v):DQ l (upd H l o) zs v:=by obtain ⟨q,a,n,b⟩:=h;exact ⟨q,a,n,by rw[aU n];exact b⟩
theorem qG.upd {l:Addr} {H:Hp} {p:Addr} {ls:List (List Int)} {o:HO} (h:qG l H p ls):qG l (upd H l o) p ls:=by obtain ⟨n,xs,a,b⟩:=h;exact ⟨n,xs,by rw[aU n];exact a,Paired.imp' (λ_ _ z=>z.upd) b⟩
theorem ne_old {H:Hp} {l r:Addr} (h:H l≠none) (n:H r=none):r≠l:=λz=>h (by rw[<- z];exact n)
theorem md {α β:Type} {F:α->β->Prop}:∀{l1:List α} {l2:List β} (_:Paired F l1 l2) (i:Nat) {x:α} {y:β},F x y->Paired F (l1.set i x) (l2.set i y)
 | _,_,.nil,_,_,_,_=>.nil
 | _,_,.cons _ r,0,_,_,h=>.cons h r
 | _,_,.cons a r,i+1,_,_,h=>.cons a (md r i h)
theorem Jy {ls:List (List Int)} {i c:Nat} {zs:List Int} (h:ls[i]?=some zs):dQ ls i c=((zs.getD c 0:Int):Rat):=by
 unfold dQ;rw[aa (l:=ls),h];rfl
theorem L7 {z:Int}:((z:Int):Rat)≠0↔z≠0:=⟨λh e=>h (by rw[e];rfl),λh e=>h (xI e)⟩
theorem Ar {zs:List Int} {c:Nat} (h:c < zs.length):CC (zs.map V.int) (c:Int)=some (V.int (zs.getD c 0)):=eX (by rw[az,aa,af h];rfl)
inductive yH (vs:List V) (H:Hp) (Q:VK) (E9:XK):Prop
 | mk (l p:Addr) (ls:List (List Int)) (b c:Nat):vs=[.ref p,.int b,.int c]->qG l H p ls->ls.length<=1000->b<=1000->(∀zs∈ls,c < zs.length)->(∀t:Nat,b<=t->t < ls.length->dQ ls t c≠0->Q (.int t) H)->((∀t,b<=t->t < ls.length->dQ ls t c=0)->Q .non H)->yH  vs H Q E9
inductive vA (vs:List V) (H:Hp) (Q:VK) (E9:XK):Prop
 | mk (l p:Addr) (ls:List (List Int)) (t k:Nat):vs=[.ref p,.int t,.int k]->H l≠none->qG l H p ls->ls.length<=1000->t < ls.length->k < ls.length->(∀r H',H r=none->aH H H'->qG l H' r (oF ls k t)->Q (.ref r) H')->vA  vs H Q E9
inductive yI (vs:List V) (H:Hp) (Q:VK) (E9:XK):Prop
 | mk (l p:Addr) (ls:List (List Int)) (k c n:Nat) (b:Int):vs=[.ref p,.int k,.int c,.int b]->H l≠none->qG l H p ls->ls.length<=1000->k < ls.length->(∀zs∈ls,zs.length=n)->n<=1000->c < n->b≠0->Sz 8999 b->(∀zs∈ls,∀z∈zs,Sz 8999 z)->(∀r H',H r=none->aH H H'->qG l H' r (BC ls k c b)->Q (.ref r) H')->yI  vs H Q E9
theorem Fi (K:FG9) {X:Cx} {a b:Expr} {ta:TA} {p pos tpos:Pos} {elts:List Expr} {kk:Nat} (hg:Gl X "zip") (hm:X.mg "zip"=none) (ha:PA X [a,b] ta) (hK:X.K=K:=by rfl) (hs:starEach [a,b] X.env=[(false,eval a X.env),(false,eval b X.env)]:=by rfl) (hs2:starEach [b] X.env=[(false,eval b X.env)]:=by rfl) :
  PI X (.Tuple elts kk tpos) (.Call (.Name "zip" p) [a,b] [] pos) (Kn K ta):=by subst hK;exact qR hg hm ha hs hs2
def dh (ps:List Nat):List V:=ps.map λ(j:Nat)=>V.int (j:Int)
inductive yw (K:FG9) (vs:List V) (H:Hp) (Q:VK) (E9:XK):Prop
 | mk (p:Addr) (n w:Nat) (H0:Hp) (rows:LR9):vs=[.ref p,.int n]->bu K H0 H p rows->rows.length<=100->n<=100->(∀xs∈rows,xs.length=n)->DP rows n w->(∀t lp qp R ps d ls H',H' t=some (.tup [.ref lp,.ref qp])->H' qp=some (.lst (dh ps))->qG qp H' lp ls->aH H H'->Mo rows n w R ps d ls->Q (.ref t) H')->yw K vs H Q E9
inductive vw (K:FG9) (vs:List V) (H:Hp) (Q:VK) (E9:XK):Prop
 | mk (p:Addr) (n w:Nat) (H0:Hp) (rows:LR9):vs=[.ref p,.int n]->bu K H0 H p rows->rows.length<=100->n<=100->(∀xs∈rows,xs.length=n)->DP rows n w->(∀r R ps M H',H r=none->aH H H'->bu K H H' r R->bU rows n R ps->ps.length<=rows.length->0 < M->M<=2^(min rows.length n*(w+4))->(∀xs∈R,∀x∈xs,Tp M (2^(min rows.length n*(w+4))) x)->Q (.ref r) H')->vw K vs H Q E9
section
variable {rows rs rs':LR9} {n P w a:Nat} {ps:List Nat}
end
theorem BV {M W:Nat} {x:Rat} (h:Tp M W x) (h0:0 < M) (h1:M<=2^3995) (h2:W<=2^3995):pX x:=by
 refine ⟨?_,?_⟩
 ·obtain ⟨s,e,b⟩:=BU h h0 (jy x) (Int.dvd_refl _) (wA h);have e2:(((nm x).1:Int):Rat)=(s:Rat):=by rw[<- e];exact oN x
  rw[dq.mp e2];exact bc (ai b h2) (dM (by decide) (by decide))
 ·have:=kz h0 (vT.mp (wA h));show ((x.den:Nat):Int).natAbs < _
  rw[h8];exact bc (ai this h1) (dM (by decide) (by decide))
theorem Tp.mul {M W M' W':Nat} {x y:Rat} (h:Tp M W x) (h':Tp M' W' y):Tp (M*M') (W*W') (x*y):=by
 obtain ⟨z,e,b⟩:=h;obtain ⟨z',e',b'⟩:=h';refine ⟨z*z',?_,by rw[gQ];exact aR b b'⟩;rw[aM,<- e,<- e',xV];grind
inductive AG (K:FG9) (vs:List V) (H:Hp) (Q:VK) (E9:XK):Prop
 | mk (p:Addr) (n:Nat) (H0:Hp) (R:LR9) (ps:List Nat):vs=[.ref p]->bu K H0 H p R->R.length<=100->n<=100->(∃rows,bU rows n R ps)->(∀r H',H r=none->aH H H'->H' r=some (.lst (dh ps))->Q (.ref r) H')->AG K vs H Q E9
theorem Ep {K:FG9} {H0 H H':Hp} {q:Addr} {rows:LR9} {vs:List V} (pr:Paired (cZ K H0 H) rows vs) (s:aH H H') (n:H q=none) (g:H' q=some (.lst vs)):bu K H0 H' q rows :=
 ⟨vs,g,Paired.imp' (λ_ _ z=>z.same s) pr,λz=>by
  obtain ⟨_,_,q',e,_,_,g',_⟩:=dj pr z;cases e;rw[n] at g';cases g'⟩
theorem bU.le {rows R:LR9} {n:Nat} {ps:List Nat} (h:bU rows n R ps):ps.length<=n:=by
 obtain ⟨_,_,rr⟩:=h;rcases cM n ps.length with z | z
 ·have inc:∀j,j < ps.length->j<=ps.getD j 0:=by
   intro j
   induction j with
   | zero=>intro _;exact bo _
   | succ j ih =>
    intro hj;have:=ih (by lia);have:=rr.inc j (j+1) (by lia) hj
    lia
  have h1:=inc (ps.length - 1) (by lia);have h2:=rr.low (ps.length - 1) (by lia)
  lia
 ·exact z
theorem Tp.zero {M W:Nat}:Tp M W 0:=⟨0,by simp,by simp⟩
theorem Tp.add {M W W':Nat} {x y:Rat} (h:Tp M W x) (h':Tp M W' y):Tp M (W+W') (x+y):=by
 obtain ⟨z,e,b⟩:=h;obtain ⟨z',e',b'⟩:=h';refine ⟨z+z',?_,ai (Int.natAbs_add_le _ _) (Nat.add_le_add b b')⟩;rw[xW,<- e,<- e'];grind
theorem Tp.sum {M W:Nat} {f:Nat->Rat}:∀{k:Nat},(∀j,j < k->Tp M W (f j))->Tp M (k*W) (bg k f)
 | 0,_=>Tp.zero
 | k+1,h=>by
  have:=(Tp.sum (k:=k) λj hj=>h j (by lia)).add (h k (by lia));exact this.mono (by rw[rN];exact au _)
theorem zv {M W:Nat} {xs:List Rat} (h:∀x∈xs,Tp M W x) (c:Nat):Tp M W (xs.getD c 0):=by
 by_cases hc:c < xs.length
 ·exact h _ (getD_in hc)
 ·rw[aa,aP (by lia)];exact Tp.zero
theorem KQ {M W:Nat} {R:LR9} (h:∀xs∈R,∀x∈xs,Tp M W x) (i c:Nat):Tp M W (bM R i c):=by
 unfold bM;by_cases hi:i < R.length
 ·exact zv (h _ (getD_in hi)) c
 ·rw[aa (l:=R),aP (by lia)];exact Tp.zero
theorem JE {rows:LR9} {n m w M:Nat} (hM:0 < M) (h1:M<=2^4300) (hw:w<=4300) (tp:∀xs∈rows,∀x∈xs,Tp M (2^w) x) (hr:min rows.length n<=m) (h15:m<=15) (h89:m*(w+4)<=8900):DP rows n w :=
 ⟨M,2^w,hM,h1,eJ,au _,tp,hw,by lia,ai (aG _ hr) h89⟩
theorem Eu {K:FG9} {l:Addr} {xs:List V} {g:TG} {tf:TT} {te:TE} {Q:VK} {σ₀:St} {H:Hp} (Pv:Nat->List V->Hp->Prop) (hz:xs.length<=sizeLine) (h0:Pv 0 [] H) (hl:∀i ys H,i<=xs.length->Pv i ys H->bI K H l xs)
  (hs:∀i x ys H p,xs[i]?=some x->ys.length<=i->Pv i ys H->H p=none->rP σ₀ g tf te (.ref p) (upd H p (.tup [.int i,x])) (λy H'=>Pv (i+1) (ys++[y]) H') (λH'=>Pv (i+1) ys H'))
  (hd:∀ys H,ys.length<=xs.length->Pv xs.length ys H->∀p,H p=none->Q (.ref p) (upd H p (.lst ys))):sO (KD K l) σ₀ g tf te Q H:=by
 refine ⟨λi m ys H=>m=xs.length - i/\i<=xs.length/\ys.length<=i/\Pv i ys H,⟨xs.length,by simp,bo _,bo _,h0⟩,?_⟩;rintro i m ys H ⟨rfl,hi,hy,p⟩;have q1:=hl i ys H hi p;by_cases hlt:i < xs.length
 ·refine .inr ⟨⟨xs,xs[i],q1,by simp [hlt]⟩,by lia,λy H'=>Pv (i+1) (ys++[y]) H',λH'=>Pv (i+1) ys H',λy H' p'=>⟨xs.length - (i+1),by lia,rfl,hlt,by rw[aA,br];lia,p'⟩,λH' p'=>⟨xs.length - (i+1),by lia,rfl,hlt,by lia,p'⟩,λx H' y=>?_⟩;obtain ⟨r,x',rfl,hr,rfl,e1⟩:=y;exact hs i x' ys _ r (e1 xs q1) hy p hr
 ·have e:i=xs.length:=by lia
  subst e;exact .inl ⟨⟨xs,q1,au _⟩,by lia,hd ys H hy p⟩
section
variable {X:Cx}
theorem Ew (hc:X.calm=true):qM X (.builtin "min") (λxs H Q=>∃(p:Addr) (ns:List Int),xs=[.ref p]/\bI X.K H p (ns.map V.int)/\0 < ns.length/\∀M,M∈ns->(∀a,a∈ns->M<=a)->Q (.int M) H):=by
 intro pins s σ H xs us Q I r h;obtain ⟨p,ns,rfl,hp,hne,q⟩:=h;obtain ⟨u,rfl,ru⟩:=vals1 r;cases ru;obtain ⟨its,r2,pl,_⟩:=I.list hp;have hi:=intsAre_of r2;have hl:=pl.isList;obtain ⟨xs,e⟩:=hi.allInts.items
 have hns:ns=xs.toList.map (·.1):=by
  rw[<- hi.numsOf,<- nums_intItems,<- e]
 have hsz:0 < xs.size:=by
  have h3:=hne;rw[hns,ag,Array.length_toList] at h3;exact h3
 rw[e] at hl;refine min_intList (I.ok.hd hc) hl hsz λv h' tk hv hk=>?_
 obtain ⟨t,rfl⟩:=intItems_at hv;obtain ⟨h1,h2⟩:=argBest_lt (numAt xs) (xs.size - 1);refine ⟨.int _,H,I.kept hk,⟨_,rfl⟩,q _ ?_ λa ha=>?_⟩
 ·rw[hns,numAt_eq];exact getD_in (by rw[ag,Array.length_toList];lia)
 ·rw[hns] at ha;obtain ⟨j,hj,rfl⟩:=mem_getD ha;rw[ag,Array.length_toList] at hj;rw[<- numAt_eq];exact h2 j (by lia)
theorem yf (K:FG9) (hK:X.K=K):vX X (compareOp .NotIn) (rIn K true):=by subst hK;exact zL
end
theorem FH {j:Nat} {ps:List Nat}:L4 (.int (j:Int)) (dh ps)=decide (j∈ps):=by
 unfold L4 dh;rw[List.any_map,lE,List.any_eq_true,decide_eq_true_iff];constructor
 ·rintro ⟨x,hx,e⟩;have e:((x:Int) == (j:Int))=true:=e;have:(x:Int)=j:=by simpa using e
  have:x=j:=by lia
  rw[<- this];exact hx
 ·intro h;exact ⟨j,h,by show ((j:Int) == (j:Int))=true;simp⟩
theorem Eh {ps:List Nat}:(dh ps).all uj=true:=by
 unfold dh;rw[List.all_map];exact oE.mpr λ_ _=>rfl
theorem xr {ps:List Nat}:(dh ps).length=ps.length:=ag ..
def Dz (ps:List Nat):List Int:=ps.map λ(j:Nat)=>(j:Int)
theorem Eg {ps:List Nat}:dh ps=(Dz ps).map V.int:=by unfold dh Dz;rw[List.map_map];rfl
theorem Dk {ps:List Nat} {i:Nat} {v:V} (h:(dh ps)[i]?=some v):∃j,ps[i]?=some j/\v=V.int (j:Int):=by
 unfold dh at h;rw[az] at h;cases e:ps[i]? with
 | none=>rw[e] at h;cases h
 | some x=>rw[e] at h;exact ⟨x,rfl,(bp h).symm⟩
def Ey (xs:List Rat) (i:Nat):List Nat:=(List.range i).filter λc=>decide (xs.getD c 0≠0)
theorem Dh {xs:List Rat} {i:Nat}:Ey xs (i+1)=if xs.getD i 0≠0 then Ey xs i++[i] else Ey xs i:=by
 unfold Ey;rw[GO,List.filter_append];by_cases h:xs.getD i 0≠0
 ·rw[if_pos h,LW (by simpa using h)];rfl
 ·rw[if_neg h,LX (by simpa using h)];simp
def By (ps:List Nat) (i:Nat):List Nat:=(List.range i).filter λc=>decide (c∉ps)
theorem Bx {ps:List Nat} {i:Nat}:By ps (i+1)=if i∉ps then By ps i++[i] else By ps i:=by
 unfold By;rw[GO,List.filter_append];by_cases h:i∉ps
 ·rw[if_pos h,LW (by simpa using h)];rfl
 ·rw[if_neg h,LX (by simpa using h)];simp
theorem Cy {ps:List Nat} {i:Nat}:(By ps i).length<=i:=by
 unfold By;exact ai (List.length_filter_le ..) (by rw[di];exact au _)
inductive AF (K:FG9) (vs:List V) (H:Hp) (Q:VK) (E9:XK):Prop
 | mk (p:Addr) (xs:List Rat) (j:Nat):vs=[.ref p]->dC K H p xs->xs.length<=1000->j < xs.length->xs.getD j 0≠0->(∀c,c < j->xs.getD c 0=0)->(∀H',aH H H'->Q (.int (j:Int)) H')->AF K vs H Q E9
inductive AH (K:FG9) (vs:List V) (H:Hp) (Q:VK) (E9:XK):Prop
 | mk (p:Addr) (n:Nat) (H0:Hp) (R:LR9) (ps:List Nat):vs=[.ref p,.int n]->bu K H0 H p R->R.length<=100->n<=100->(∃rows,bU rows n R ps)->(∀r H',H r=none->aH H H'->H' r=some (.lst (dh (By ps n)))->Q (.ref r) H')->AH K vs H Q E9
def Dj (R:LR9) (ps:List Nat) (n at_ j:Nat):List Rat:=(List.range n).map λc=>if c=at_ then 1 else bg j λi=>if ps.getD i 0=c then -(bM R i at_) else 0
def GH (R:LR9) (ps:List Nat) (n at_:Nat):List Rat:=Dj R ps n at_ ps.length
def eE (R:LR9) (ps:List Nat) (n:Nat):LR9:=(By ps n).map (GH R ps n)
section
variable {R rows:LR9} {ps:List Nat} {n a j:Nat}
theorem oO:(Dj R ps n a j).length=n:=by unfold Dj;rw[ag,di]
theorem Ly {c:Nat} (h:c < n):(Dj R ps n a j).getD c 0=if c=a then 1 else bg j λi=>if ps.getD i 0=c then -(bM R i a) else 0:=by
 unfold Dj;rw[aa,az,eo h];rfl
theorem Iq:Dj R ps n a 0=Jz n a:=by
 unfold Dj Jz;refine dk λc _=>?_
 by_cases e:c=a
 ·subst e;simp
 ·rw[if_neg e];show (0:Rat)=_
  have:¬(c:Int)=(a:Int):=by lia
  simp [this]
theorem Ir (RR:bU rows n R ps) (hj:j < ps.length) (ha:a∉ps):(Dj R ps n a j).set (ps.getD j 0) (-(bM R j a))=Dj R ps n a (j+1):=by
 obtain ⟨_,_,rr⟩:=RR;have low:=rr.low j hj;have pm:ps.getD j 0∈ps:=getD_in hj;apply cz (by rw[dY,oO,oO]);intro c h1 h2;rw[oO] at h2;have e1:(Dj R ps n a j)[c]'(by rw[oO];exact h2)=if c=a then 1 else bg j λi=>if ps.getD i 0=c then -(bM R i a) else 0:=by simp only[Dj,cP,sP]
 have e2:(Dj R ps n a (j+1))[c]'(by rw[oO];exact h2)=if c=a then 1 else bg (j+1) λi=>if ps.getD i 0=c then -(bM R i a) else 0:=by simp only[Dj,cP,sP]
 rw[List.getElem_set,e2];have es:bg (j+1) (λi=>if ps.getD i 0=c then -(bM R i a) else 0)=bg j (λi=>if ps.getD i 0=c then -(bM R i a) else 0)+if ps.getD j 0=c then -(bM R j a) else 0:=rfl
 by_cases q:ps.getD j 0=c
 ·rw[if_pos q,if_neg (λz=>ha (by rw[<- z,<- q];exact pm)),es,if_pos q,cT λi hi=>?_,Rat.zero_add];rw[if_neg];intro z;have:=rr.inc i j hi hj
  lia
 ·rw[if_neg q,e1];by_cases z:c=a
  ·rw[if_pos z,if_pos z]
  ·rw[if_neg z,if_neg z,es,if_neg q,rM]
theorem fU:∀{xs ys:List Rat},xs.length=ys.length->cY xs ys=bg xs.length λc=>xs.getD c 0*ys.getD c 0:=by
 intro xs ys h
 have key:∀k,k<=xs.length->cY (xs.take k) (ys.take k)=bg k λc=>xs.getD c 0*ys.getD c 0:=by
  intro k
  induction k with
  | zero=>intro _;rfl
  | succ k ih =>
   intro hk;rw[yY (by lia) (by lia),ih (by lia)];rfl
 have:=key xs.length (au _);rwa [aB (au _),aB (by lia)] at this
theorem Kd (RR:bU rows n R ps) (ha:a < n) (hp:a∉ps) {i:Nat} {row:List Rat} (hr:rows[i]?=some row) (hw:row.length=n):cY row (GH R ps n a)=0:=by
 obtain ⟨_,_,rr⟩:=RR;have hi:=(aD.mp hr).1;have ef:∀c,bM rows i c=row.getD c 0:=λc=>by unfold bM;rw[aa (l:=rows),hr];rfl
 have co:=rr.coef (rr.span i hi) a;rw[ef] at co;rw[fU (by unfold GH;rw[oO,hw]),hw]
 have e1:bg n (λc=>row.getD c 0*(GH R ps n a).getD c 0)=bg n (λc=>(if c=a then row.getD a 0 else 0)+bg ps.length λj=>if ps.getD j 0=c then row.getD (ps.getD j 0) 0*-(bM R j a) else 0):=by
  refine aW λc hc=>?_
  unfold GH;rw[Ly hc];by_cases e:c=a
  ·rw[if_pos e,if_pos e,e,cT λj hj=>?_]
   ·grind
   ·rw[if_neg (λz=>hp (by rw[<- z];exact getD_in hj))]
  ·rw[if_neg e,if_neg e,<- cg,Rat.zero_add];refine aW λj _=>?_
   split
   ·rename_i q;rw[q]
   ·grind
 rw[e1,iT,iS (i:=a) ha (λj _ ne=>if_neg ne),if_pos rfl,<- fX]
 have e2:bg ps.length (λj=>bg n λc=>if ps.getD j 0=c then row.getD (ps.getD j 0) 0*-(bM R j a) else 0)=bg ps.length λj=>-1*(bM rows i (ps.getD j 0)*bM R j a):=by
  refine aW λj hj=>?_
  rw[iS (i:=ps.getD j 0) (rr.low j hj) λc _ ne=>if_neg λz=>ne z.symm,if_pos rfl,ef];grind
 rw[e2,cg,co];grind
theorem Lx {M W:Nat} (h0:0 < M) (hW:M<=W) (tp:∀xs∈R,∀x∈xs,Tp M W x) (RR:bU rows n R ps):∀x∈GH R ps n a,Tp M W x:=λx hx=>by
 obtain ⟨_,_,rr⟩:=RR;obtain ⟨c,hc,rfl⟩:=ay.mp hx
 split
 ·exact ⟨M,by rw[Rat.one_mul,bY],by simpa using hW⟩
 ·by_cases hp:∃j,j < ps.length/\ps.getD j 0=c
  ·obtain ⟨j,hj,e⟩:=hp;rw[iS hj λi hi ne=>if_neg λz=>?_,if_pos e]
   ·obtain ⟨z,ez,b⟩:=KQ tp j a;exact ⟨-z,by rw[iO,<- ez];grind,by rw[sQ];exact b⟩
   ·rcases nJ i j with q | q | q
    ·have:=rr.inc i j q hj;lia
    ·exact ne q
    ·have:=rr.inc j i q hi;lia
  ·rw[cT λj hj=>if_neg λz=>hp ⟨j,hj,z⟩];exact Tp.zero
theorem z6 {c:Nat}:c∈By ps n↔c < n/\c∉ps:=by
 unfold By;rw[pY,nK,decide_eq_true_iff]
end
inductive yA (K:FG9) (vs:List V) (H:Hp) (Q:VK) (E9:XK):Prop
 | mk (p:Addr) (n a:Nat) (H0:Hp) (R:LR9) (ps:List Nat):vs=[.ref p,.int n,.int a]->bu K H0 H p R->R.length<=100->n<=100->(∃rows,bU rows n R ps)->a < n->a∉ps->(∀xs∈R,∀x∈xs,pX x)->(∀r H',H r=none->aH H H'->dC K H' r (GH R ps n a)->Q (.ref r) H')->yA K vs H Q E9
theorem EM:pX 0:=BV (M:=1) (W:=1) Tp.zero (by decide) eJ eJ
theorem uV {R:LR9} {ps:List Nat} {n:Nat} {xs:List Rat} (h:xs∈eE R ps n):∃a,a < n/\a∉ps/\xs=GH R ps n a:=by
 obtain ⟨a,ha,rfl⟩:=ay.mp h;obtain ⟨h1,h2⟩:=z6.mp ha;exact ⟨a,h1,h2,rfl⟩
theorem ID {q:Rat} (h:q.den<=9):q.den∣2520:=by
 have:=q.den_pos;generalize q.den=d at h this;have:d=1\/d=2\/d=3\/d=4\/d=5\/d=6\/d=7\/d=8\/d=9:=by lia
 rcases this with rfl | rfl | rfl | rfl | rfl | rfl | rfl | rfl | rfl <;> decide
theorem Ab {q:Rat} {M:Nat} (h:Dr 9 q) (hM:2520∣M):Fr M 9 q:=(Fr.own q h.1).dvd (pR (ID h.2) hM)
theorem bu.any {K:FG9} {H0 H:Hp} {p:Addr} {rows:LR9} (h:bu K H0 H p rows):bu K (λ_=>none) H p rows:=by obtain ⟨xs,g,r,n⟩:=h;exact ⟨xs,g,Paired.imp' (λ_ _ ⟨q,a,_,c⟩=>⟨q,a,rfl,c⟩) r,n⟩
section
variable {rows:LR9} {ws xs row:List Rat} {n j:Nat}
theorem tL {c:Nat} (hc:c < n):(de rows n)[c]?=some (rows.map λxs=>xs.getD c 0):=by
 unfold de;rw[az,eo hc];rfl
theorem zT {c i:Nat}:(rows.map λxs=>xs.getD c 0).getD i 0=bM rows i c:=by
 unfold bM;rw[aa,az,aa (l:=rows)];cases rows[i]? with
 | none=>rfl
 | some y=>rfl
end
theorem Fr.up {M V M' V':Nat} {x:Rat} (h:Fr M V x) (hd:M∣M') (hv:V<=V'):Fr M' V' x:=(h.dvd hd).mono hv
section
variable {rows R:LR9} {due:List Rat} {ps:List Nat} {n:Nat}
theorem Ac {xs ys:List Rat} {M V D B:Nat} (h:ys.length=xs.length) (hx:∀x∈xs,Fr M V x) (hy:∀y∈ys,Fr D B y):Fr (M*D) (xs.length*(V*B)) (cY xs ys):=by
 rw[fU h.symm]
 have key:∀j,j<=xs.length->Fr (M*D) (j*(V*B)) (bg j λc=>xs.getD c 0*ys.getD c 0):=by
  intro j
  induction j with
  | zero=>intro _;exact Fr.zero
  | succ j ih =>
   intro hj;exact ((ih (by lia)).add ((hx _ (getD_in (by lia))).mul (hy _ (getD_in (by lia))))).mono (Nat.le_of_eq (rN j (V*B)).symm)
 exact key _ (au _)
end
section
variable {rows rows' R R':LR9} {n w W:Nat} {ps ps':List Nat}
theorem DX (hw:∀xs∈rows,xs.length=n) (hW:1<=W) (ent:∀i,i < (rows.map lX).length->∀c,Fr 1 W (dQ (rows.map lX) i c)):∀P,P<=n->∃ls ps d,zg (rows.map lX) n P ls ps d:=by
 intro P
 induction P with
 | zero=>intro _;exact ⟨_,_,_,zg.start λzs hz=>by obtain ⟨x,hx,rfl⟩:=ay.mp hz;rw[wB];exact hw x hx⟩
 | succ P ih =>
  intro hP;obtain ⟨ls,ps,d,I⟩:=ih (by lia);by_cases e:∃t,ps.length<=t/\t < ls.length/\dQ ls t P≠0
  ·obtain ⟨t,h1,h2,h3⟩:=e;exact ⟨_,_,_,I.step hW ent h1 h2 h3⟩
  ·exact ⟨_,_,_,I.skip λi h1 h2=>by
    by_cases z:dQ ls i P=0
    ·exact z
    ·exact absurd ⟨i,h1,h2,z⟩ e⟩
theorem yK (hw:∀xs∈rows,xs.length=n) (F:DP rows n w):∃R ps d ls,Mo rows n w R ps d ls:=by
 obtain ⟨W,hW,W2,ent⟩:=F.ent;obtain ⟨ls,ps,d,I⟩:=DX hw hW ent n (au _);obtain ⟨R,S⟩:=I.done hw F;exact ⟨R,ps,d,_,S⟩
theorem Lc (hw:∀xs∈rows,xs.length=n) (F:DP rows n w) (RR:bU rows n R ps):ps.length<=rows.length/\∃M,0 < M/\M<=2^(min rows.length n*(w+4))/\∀xs∈R,∀x∈xs,Tp M (2^(min rows.length n*(w+4))) x:=by
 obtain ⟨R2,ps2,d,ls,S⟩:=yK hw F;obtain ⟨rfl,rfl⟩:=S.rr.same RR;exact ⟨S.km,d.natAbs,Int.natAbs_pos.mpr S.d0,S.dsz,S.tp⟩
theorem Em {k:Nat} {p q:Nat->Nat} (hp:∀i j,i < j->j < k->p i < p j) (hq:∀i j,i < j->j < k->q i < q j) (hs:∀i,i < k->∃j,j < k/\q j=p i):∀i,i < k->p i=q i:=by
 have hqm:∀i j,i<=j->j < k->q i<=q j:=λi j h hj=>by
  rcases cM i j with z | z
  ·exact bh (hq i j z hj)
  ·have:i=j:=by lia
   rw[this];exact au _
 have hqi:∀i j,i < k->j < k->q i < q j->i < j:=λi j hi hj h=>by
  rcases cM i j with z | z
  ·exact z
  ·have:=hqm j i z hi
   lia
 have key:∀i,i < k->∀j,j < k->q j=p i->i<=j:=by
  intro i
  induction i with
  | zero=>intro _ j _ _;exact bo _
  | succ i ih =>
   intro hi j hj e;obtain ⟨j',hj',e'⟩:=hs i (by lia);have h1:=ih (by lia) j' hj' e';have h2:=hp i (i+1) (by lia) hi;have:=hqi j' j hj' hj (by lia)
   lia
 have key2:∀t i,i+t+1=k->∀j,j < k->q j=p i->j<=i:=by
  intro t
  induction t with
  | zero=>intro i e j hj _;lia
  | succ t ih =>
   intro i e j hj ej;obtain ⟨j',hj',e'⟩:=hs (i+1) (by lia);have h1:=ih (i+1) (by lia) j' hj' e';have h2:=hp i (i+1) (by lia) (by lia);have:=hqi j j' hj hj' (by lia)
   lia
 intro i hi;obtain ⟨j,hj,e⟩:=hs i hi;have h1:=key i hi j hj e;have h2:=key2 (k - 1 - i) i (by lia) j hj e;have:j=i:=by lia
 rw[<- e,this]
theorem D4 (h:bU rows n R ps) (h':bU rows' n R' ps') (hl:ps.length=ps'.length) (hs:∀i,i < ps.length->dB ps'.length (bM R') (bM R i)):R=R'/\ps=ps':=by
 obtain ⟨l1,w1,r1⟩:=h;obtain ⟨l2,w2,r2⟩:=h'
 have ep:∀i,i < ps.length->ps.getD i 0=ps'.getD i 0:=Em r1.inc (by rw[hl];exact r2.inc) λi hi=>by
  have u:=r1.unit i hi i hi;rw[if_pos rfl] at u;obtain ⟨j,hj,e⟩:=r2.lead_in (hs i hi) (c:=ps.getD i 0) (by rw[u];decide) (λc hc=>r1.lead i hi c hc);exact ⟨j,by lia,e⟩
 have eps:ps=ps':=by
  apply cz hl;intro i a b;have:=ep i a;rw[aa,aa,af a,af b] at this;exact this
 refine ⟨FR (n:=n) (by lia) w1 w2 λi hi c=>?_,eps⟩;rw[l1] at hi;rw[r2.coef (hs i hi) c,<- hl,iS hi λj hj hj'=>?_]
 ·rw[<- ep i hi];have u:=r1.unit i hi i hi;rw[if_pos rfl] at u;rw[u];grind
 ·rw[<- ep j hj];have u:=r1.unit i hi j hj;rw[if_neg (Ne.symm hj')] at u;rw[u];grind
end
def xZ (mv:LR9) (x:List Rat):List Rat:=mv.map λxs=>cY xs x
def jD (mv pt:LR9):Nat->LR9
 | 0=>[]
 | t+1=>pt++(jD mv pt t).map (xZ mv)
section
variable {mv pt R R' S X Y:LR9} {n t m i c:Nat} {ps ps':List Nat} {a:Nat->Nat->Rat}
theorem zO {x:List Rat}:(xZ mv x).length=mv.length:=ag ..
theorem Dg (lm:mv.length=n) (wm:∀xs∈mv,xs.length=n) (wR:∀xs∈R,xs.length=n) (hi:i < R.length) (c:Nat):bM (R.map (xZ mv)) i c=bg n λj=>bM mv c j*bM R i j:=by
 have wi:=wR _ (aN hi);have e1:(R.map (xZ mv)).getD i []=xZ mv R[i]:=by rw[aa,az,af hi];rfl
 have e2:R.getD i []=R[i]:=by rw[aa,af hi];rfl
 by_cases hc:c < n
 ·have wc:=wm _ (aN (show c < mv.length by lia));have e3:mv.getD c []=mv[c]'(by lia):=by rw[aa,af (by lia)];rfl
  have e4:(xZ mv R[i]).getD c 0=cY (mv[c]'(by lia)) R[i]:=by
   unfold xZ;rw[aa,az,af (by lia)];rfl
  unfold bM;rw[e1,e2,e3,e4,fU (by lia),wc]
 ·have e3:mv.getD c []=[]:=by rw[aa,aP (by lia)];rfl
  unfold bM
  rw[e1,e3,aa,aP (by rw[zO];lia),cT λj _=>by
   show ([]:List Rat).getD j 0*_=0
   rw[aa];show (0:Rat)*_=0
   grind]
  rfl
theorem wG (lm:mv.length=n) (wm:∀xs∈mv,xs.length=n) (wR:∀xs∈R,xs.length=n) (wS:∀xs∈S,xs.length=n) (hi:i < R.length) (h:dB S.length (bM S) (bM R i)):dB (S.map (xZ mv)).length (bM (S.map (xZ mv))) (bM (R.map (xZ mv)) i):=by
 obtain ⟨w,hw⟩:=h;refine ⟨w,λc=>?_⟩;rw[Dg lm wm wR hi,ag]
 have e1:bg n (λj=>bM mv c j*bM R i j)=bg n (λj=>bg S.length λs=>w s*(bM mv c j*bM S s j)):=aW λj _=>by
  rw[hw j,<- cg];exact aW λs _=>by grind
 rw[e1,fX];exact aW λs hs=>by rw[cg,Dg lm wm wS hs]
theorem Ky (h:i < X.length):bM (X++Y) i=bM X i:=by
 funext c;unfold bM;rw[aa (l:=X++Y),cQ h,<- aa]
theorem Kx:bM (X++Y) (X.length+i)=bM Y i:=by
 funext c;unfold bM;rw[aa (l:=X++Y),bR (by lia),show X.length+i - X.length=i by lia,<- aa]
theorem qN (h1:∀i,i < X.length->dB m a (bM X i)) (h2:∀i,i < Y.length->dB m a (bM Y i)):∀i,i < (X++Y).length->dB m a (bM (X++Y) i):=λi hi=>by
 rw[aA] at hi;by_cases h:i < X.length
 ·rw[Ky h];exact h1 i h
 ·obtain ⟨j,rfl⟩:∃j,i=X.length+j:=⟨i - X.length,by lia⟩;rw[Kx];exact h2 j (by lia)
theorem p5 (h:i < X.length):dB (X++Y).length (bM (X++Y)) (bM X i):=by
 have:=dB.row (a:=bM (X++Y)) (m:=(X++Y).length) (i:=i) (by rw[aA];lia);rwa [Ky h] at this
theorem nZ {x:Nat->Rat} (h:dB Y.length (bM Y) x):dB (X++Y).length (bM (X++Y)) x:=dB.trans (λs hs=>by
 have:=dB.row (a:=bM (X++Y)) (m:=(X++Y).length) (i:=X.length+s) (by rw[aA];lia);rwa [Kx] at this) h
theorem kb (lm:mv.length=n) (wp:∀xs∈pt,xs.length=n):∀t,∀xs∈jD mv pt t,xs.length=n:=by
 intro t
 induction t with
 | zero=>intro xs hx;cases hx
 | succ t ih =>
  intro xs hx;rcases aI.mp hx with hx | hx
  ·exact wp xs hx
  ·obtain ⟨y,_,rfl⟩:=ay.mp hx;rw[zO,lm]
theorem ug (lm:mv.length=n) (wm:∀xs∈mv,xs.length=n) (wp:∀xs∈pt,xs.length=n) (RR:bU (jD mv pt t) n R ps) (RR':bU (pt++R.map (xZ mv)) n R' ps'):bU (jD mv pt (t+1)) n R' ps':=by
 have wk:=kb (mv:=mv) lm wp t;refine ⟨RR'.1,RR'.2.1,RR'.2.2.other ?_ ?_⟩
 ·refine qN (λi hi=>p5 hi) λi hi=>nZ ?_
  rw[ag] at hi;exact wG lm wm RR.2.1 wk hi (RR.2.2.back i (by rw[<- RR.1];exact hi))
 ·refine qN (λi hi=>p5 hi) λi hi=>nZ ?_
  rw[ag] at hi;have:=RR.2.2.span i hi;rw[<- RR.1] at this;exact wG lm wm wk RR.2.1 hi this
theorem FE (lm:mv.length=n) (wm:∀xs∈mv,xs.length=n) (wp:∀xs∈pt,xs.length=n):∀t i,i < (jD mv pt t).length->dB (jD mv pt (t+1)).length (bM (jD mv pt (t+1))) (bM (jD mv pt t) i):=by
 intro t
 induction t with
 | zero=>intro i hi;cases hi
 | succ t ih =>
  refine qN (λi hi=>p5 hi) λi hi=>nZ ?_
  rw[ag] at hi;exact wG lm wm (kb lm wp t) (kb lm wp (t+1)) hi (ih i hi)
theorem xC (lm:mv.length=n) (wm:∀xs∈mv,xs.length=n) (wp:∀xs∈pt,xs.length=n) (RR:bU (jD mv pt t) n R ps) (RR':bU (jD mv pt (t+1)) n R' ps'):∀i,i < ps.length->dB ps'.length (bM R') (bM R i):=λi hi =>
 dB.trans (λs hs=>RR'.2.2.span s hs) (dB.trans (FE lm wm wp t) (RR.2.2.back i hi))
theorem yU (lm:mv.length=n) (wm:∀xs∈mv,xs.length=n) (wp:∀xs∈pt,xs.length=n) (RR:bU (jD mv pt t) n R ps) (RR':bU (pt++R.map (xZ mv)) n R' ps') (hl:ps'.length=ps.length):∀s,bU (jD mv pt (t+s)) n R ps:=by
 have K1:=ug lm wm wp RR RR';obtain ⟨e1,e2⟩:=D4 RR K1 hl.symm (xC lm wm wp RR K1);subst e1 e2;intro s
 induction s with
 | zero=>exact RR
 | succ s ih=>exact ug lm wm wp ih RR'
theorem Bu (lm:mv.length=n) (wm:∀xs∈mv,xs.length=n) (wp:∀xs∈pt,xs.length=n) (RR:bU (jD mv pt t) n R ps) (RR':bU (jD mv pt (t+1)) n R' ps'):ps.length<=ps'.length:=by
 have h:=xC lm wm wp RR RR'
 have hs:∀i,i < ps.length->∃j,j < ps'.length/\ps'.getD j 0=ps.getD i 0:=λi hi=>by
  have u:=RR.2.2.unit i hi i hi;rw[if_pos rfl] at u;exact RR'.2.2.lead_in (h i hi) (c:=ps.getD i 0) (by rw[u];decide) (λc hc=>RR.2.2.lead i hi c hc)
 rcases cM ps'.length ps.length with z | z
 ·exfalso
  have key:∀i,i < ps.length->∀j,j < ps'.length->ps'.getD j 0=ps.getD i 0->i<=j:=by
   intro i
   induction i with
   | zero=>intro _ j _ _;exact bo _
   | succ i ih =>
    intro hi j hj e;obtain ⟨j',hj',e'⟩:=hs i (by lia);have h1:=ih (by lia) j' hj' e';have h2:=RR.2.2.inc i (i+1) (by lia) hi;rcases cM j' j with y | y
    ·lia
    ·rcases cM j j' with x | x
     ·have:=RR'.2.2.inc j j' x hj'
      lia
     ·have:j=j':=by lia
      rw[this] at e
      lia
  obtain ⟨j,hj,e⟩:=hs (ps.length - 1) (by lia);have:=key (ps.length - 1) (by lia) j hj e
  lia
 ·exact z
theorem Kf {M V c:Nat} (lm:mv.length=n) (wm:∀xs∈mv,xs.length=n) (wp:∀xs∈pt,xs.length=n) (hc:(n+1)*V<=2^c) (fm:GF M V mv) (fp:GF M V pt):∀t,∀xs∈jD mv pt t,∀x∈xs,Fr (M^t) (2^(c*t)) x:=by
 intro t
 induction t with
 | zero=>intro xs hx;cases hx
 | succ t ih =>
  intro xs hx x hx';have hV:V<=2^c:=ai (cN _ (by lia)) hc;rcases aI.mp hx with hx | hx
  ·refine Fr.up (fp xs hx x hx') (by rw[h7];exact cy _ _) (ai hV (ah (by decide) (dU _ (by lia))))
  ·obtain ⟨y,hy,rfl⟩:=ay.mp hx;unfold xZ at hx';obtain ⟨r,hr,rfl⟩:=ay.mp hx';have wr:=wm r hr;have wy:=kb (mv:=mv) lm wp t y hy;have f:=Ac (by lia) (fm r hr) (ih y hy);rw[h7,cC (M^t)];refine f.mono ?_;rw[Nat.mul_add,Nat.mul_one,bX,cC (2^(c*t)),<- dI,wr];exact aG _ (ai (aG _ (by lia)) hc)
def nU (mv pt:LR9) (a c:Nat):Prop:=∃M V:Nat,0 < M/\M<=2^a/\(mv.length+1)*V<=2^c/\GF M V mv/\GF M V pt/\a<=400/\c<=40/\mv.length*(mv.length*(a+c)+4)<=1740/\mv.length*(mv.length*(mv.length*(a+c)+4)+a+c+4)<=8900
theorem nU.swf {a c:Nat} (F:nU mv pt a c) (D:mv.length<=8) (wm:∀xs∈mv,xs.length=mv.length) (wp:∀xs∈pt,xs.length=mv.length) (ht:t<=mv.length):DP (jD mv pt t) mv.length (mv.length*(a+c)):=by
 obtain ⟨M,V,M0,Ma,hV,fm,fp,a3,c3,e14,e89⟩:=F;have f:=Kf rfl wm wp hV fm fp t;have h1:mv.length*(a+c)<=8*440:=aR D (by lia);have hM:M^t<=2^(a*mv.length):=ai (Nat.pow_le_pow_left Ma _) (by rw[<- Nat.pow_mul];exact ah (by decide) (gL _ ht));have h2:a*mv.length<=mv.length*(a+c):=by rw[cC];exact gL _ (by lia)
 have h3:mv.length=0\/mv.length*(a+c)<=1740:=by
  rcases lV mv.length with z | z
  ·exact .inl z
  ·right
   have:=cN (mv.length*(a+c)+4) z
   lia
 have h4:mv.length*(a+c)<=1740:=by
  rcases h3 with z | z
  ·rw[z];lia
  ·exact z
 refine ⟨M^t,2^(mv.length*(a+c)),Nat.pow_pos M0,ai hM (ah (by decide) (by lia)),eJ,au _,λxs hx x hx'=>Tp.of (f xs hx x hx') ?_,by lia,by lia,?_⟩
 ·refine ai (aR (ah (by decide) (gL c ht)) hM) ?_;rw[<- bX];refine ah (by decide) ?_;rw[cC c,cC a,<- Nat.mul_add,Nat.add_comm c];exact au _
 ·exact ai (aG _ (ED _ _)) (by lia)
theorem nU.tp {a c:Nat} (F:nU mv pt a c) (D:mv.length<=8) (wm:∀xs∈mv,xs.length=mv.length) (wp:∀xs∈pt,xs.length=mv.length) (ht:t<=mv.length) (RR:bU (jD mv pt t) mv.length R ps):∃M,0 < M/\M<=2^(mv.length*(mv.length*(a+c)+4))/\∀xs∈R,∀x∈xs,Tp M (2^(mv.length*(mv.length*(a+c)+4))) x:=by
 obtain ⟨_,M,h0,h1,h2⟩:=Lc (kb rfl wp t) (F.swf D wm wp ht) RR;have le:2^(min (jD mv pt t).length mv.length*(mv.length*(a+c)+4))<=2^(mv.length*(mv.length*(a+c)+4)):=ah (by decide) (aG _ (ED _ _));exact ⟨M,h0,ai h1 le,λxs hx x hx'=>(h2 xs hx x hx').mono le⟩
theorem nU.step {a c:Nat} (F:nU mv pt a c) (D:mv.length<=8) (wm:∀xs∈mv,xs.length=mv.length) (wp:∀xs∈pt,xs.length=mv.length) (ht:t<=mv.length) (RR:bU (jD mv pt t) mv.length R ps):DP (pt++R.map (xZ mv)) mv.length (mv.length*(mv.length*(a+c)+4)+a+c):=by
 obtain ⟨N,N0,N1,tN⟩:=F.tp D wm wp ht RR;obtain ⟨M,V,M0,Ma,hV,fm,fp,a3,c3,e14,e89⟩:=F;generalize mv.length*(mv.length*(a+c)+4)=e at *
 have V1:V<=2^c:=ai (cN _ (by lia)) hV;have eW:(2:Nat)^(e+a+c)=2^c*(2^a*2^e):=by rw[<- bX,<- bX];congr 1;lia
 refine ⟨N*M,2^(e+a+c),dr N0 M0,?_,eJ,au _,λxs hx x hx'=>?_,by lia,by lia,?_⟩
 ·exact ai (aR N1 Ma) (by rw[<- bX];exact ah (by decide) (by lia))
 ·rcases aI.mp hx with hx | hx
  ·refine Tp.of ((fp xs hx x hx').scaleL N) ?_;rw[eW,cC N];exact aR V1 (aR Ma N1)
  ·obtain ⟨y,hy,rfl⟩:=ay.mp hx;unfold xZ at hx';obtain ⟨r,hr,rfl⟩:=ay.mp hx';have wr:=wm r hr;have wy:=RR.2.1 y hy;rw[fU (by lia),wr];have t1:∀j,Tp M (V*M) (r.getD j 0):=λj=>zv (λx hx=>Tp.of (fm r hr x hx) (au _)) j
   have t2:∀j,Tp N (2^e) (y.getD j 0):=λj=>zv (tN y hy) j
   have:=Tp.sum (k:=mv.length) (M:=N*M) (W:=V*M*2^e) (f:=λj=>r.getD j 0*y.getD j 0) λj _=>by
    have:=(t1 j).mul (t2 j);rwa [cC M N] at this
   refine this.mono ?_;rw[eW,dI V,<- dI mv.length];exact aR (ai (aG _ (by lia)) hV) (aG _ Ma)
 ·exact ai (aG _ (ED _ _)) (by rw[show e+a+c+4=e+a+c+4 from rfl];exact e89)
theorem nU.fit {a c:Nat} (F:nU mv pt a c) (D:mv.length<=8) (wm:∀xs∈mv,xs.length=mv.length) (wp:∀xs∈pt,xs.length=mv.length) (ht:t<=mv.length) (RR:bU (jD mv pt t) mv.length R ps):∀xs∈mv,∀r∈R,vY xs r:=λxs hx r hr=>by
 obtain ⟨N,N0,N1,tN⟩:=F.tp D wm wp ht RR;obtain ⟨M,V,M0,Ma,hV,fm,fp,a3,c3,e14,e89⟩:=F;have V1:V<=2^c:=ai (cN _ (by lia)) hV;have p14:=ah (show 0 < 2 by decide) e14;exact ⟨400,40,1740,1740,⟨M,V,M0,ai Ma (ah (by decide) a3),ai V1 (ah (by decide) c3),fm xs hx⟩,⟨N,2^1740,N0,ai N1 p14,au _,λx hx=>((tN r hr x hx).mono p14).fr N0⟩,by decide⟩
end
inductive yB (K:FG9) (C:Addr) (vs:List V) (H:Hp) (Q:VK) (E9:XK):Prop
 | mk (x p:Addr) (H0 H1:Hp) (mv pt lk R:LR9):vs=[.ref x,.ref p]->ks K H0 H C x mv pt lk->mI mv pt lk->bu K H1 H p R->R.length<=100->(∀r∈R,r.length=mv.length)->(∀xs∈mv,∀r∈R,vY xs r)->(∀r H',H r=none->aH H H'->bu K H H' r (R.map (xZ mv))->Q (.ref r) H')->yB K C vs H Q E9
structure xS (mv pt:LR9) (Rs:List (LR9)):Prop where
 ne:Rs≠[]
 rr:∀t R,Rs[t]?=some R->∃ps,bU (jD mv pt t) mv.length R ps
 up:∀t R R',Rs[t]?=some R->Rs[t+1]?=some R'->R.length < R'.length
def GrL (K:FG9) (H0 H:Hp) (l:Addr) (Rs:List (LR9)):Prop:=∃us,H l=some (.lst us)/\Paired (λR v=>∃q,v=V.ref q/\H0 q=none/\q≠l/\bu K H0 H q R) Rs us
inductive yG (K:FG9) (C:Addr) (vs:List V) (H:Hp) (Q:VK) (E9:XK):Prop
 | mk (x:Addr) (a c st:Nat) (H0:Hp) (mv pt lk:LR9):vs=[.ref x,.int st]->st<=1000->ks K H0 H C x mv pt lk->mI mv pt lk->nU mv pt a c->(∀r Rs H',H r=none->aH H H'->GrL K H H' r Rs->xS mv pt Rs->Rs.length<=st+1->(∀R,Rs.getLast?=some R->∀s,(Rs.length - 1=st/\s=st\/Rs.length - 1 < st/\Rs.length - 1<=s)->∃ps,bU (jD mv pt s) mv.length R ps)->Q (.ref r) H')->yG K C vs H Q E9
inductive yx (K:FG9) (C:Addr) (vs:List V) (H:Hp) (Q:VK) (E9:XK):Prop
 | mk (x:Addr) (a c st:Nat) (H0:Hp) (mv pt lk:LR9):vs=[.ref x,.int st]->st<=1000->ks K H0 H C x mv pt lk->mI mv pt lk->nU mv pt a c->(∀r R ps H',H r=none->aH H H'->bu K H H' r R->bU (jD mv pt st) mv.length R ps->Q (.ref r) H')->yx K C vs H Q E9
section
variable {K:FG9} {H0 H1 H H':Hp} {p l:Addr} {rows mv pt R R':LR9} {Rs:List (LR9)} {t:Nat}
theorem bu.weakN (h:bu K H0 H p rows) (hn:∀q,H0 q=none->H1 q=none):bu K H1 H p rows:=by obtain ⟨xs,g,r,n⟩:=h;exact ⟨xs,g,Paired.imp' (λ_ _ ⟨q,a,b,c⟩=>⟨q,a,hn q b,c⟩) r,n⟩
theorem bu.updL {ys:List V} {o:HO} (h:bu K H0 H p rows) (hl:H l=some (.lst ys)) (nl:H0 l≠none) (pl:p≠l):bu K H0 (upd H l o) p rows:=by obtain ⟨xs,g,r,n⟩:=h;exact ⟨xs,by rw[aU pl];exact g,Paired.imp' (λ_ _ z=>cZ.updL z hl nl) r,n⟩
theorem Ca {n:Nat}:bU [] n [] []:=⟨rfl,(λ_ h=>by cases h),(λ_ _ _ h=>absurd h (fE _)),(λ_ h=>absurd h (fE _)),(λ_ h=>absurd h (fE _)),(λ_ h=>absurd h (fE _)),(λ_ h=>absurd h (fE _)),(λ_ h=>absurd h (fE _))⟩
theorem xS.len (h:xS mv pt Rs):∀(t:Nat) (R:LR9),Rs[t]?=some R->t<=R.length:=by
 intro t
 induction t with
 | zero=>intro R _;exact bo _
 | succ t ih =>
  intro R e;have ht:=(aD.mp e).1;have e0:=af (show t < Rs.length by lia);have:=ih _ e0;have:=h.up t _ R e0 e
  lia
theorem xS.snoc {ps':List Nat} (h:xS mv pt (Rs++[R])) (h1:bU (jD mv pt (Rs.length+1)) mv.length R' ps') (h2:R.length < R'.length):xS mv pt ((Rs++[R])++[R']):=by
 have l1:(Rs++[R]).length=Rs.length+1:=by rw[aA];rfl
 refine ⟨by simp,λt S e=>?_,λt S S' e e'=>?_⟩
 ·rcases cM t (Rs.length+1) with z | z
  ·rw[cQ (by lia)] at e;exact h.rr t S e
  ·have ht:=(aD.mp e).1;rw[aA,br] at ht;have:t=Rs.length+1:=by lia
   subst this;rw[bR (by lia),l1,rO] at e;cases e;exact ⟨ps',h1⟩
 ·have ht:=(aD.mp e').1;rw[aA,br] at ht;rw[cQ (by lia)] at e;rcases cM (t+1) (Rs.length+1) with z | z
  ·rw[cQ (by lia)] at e';exact h.up t S S' e e'
  ·have:t=Rs.length:=by lia
   subst this;rw[bR (by lia),l1,rO] at e';cases e';rw[bR (au _),rO] at e;cases e;exact h2
end
theorem yR {α:Type} {v:α}:∀{l:List α},l.Nodup->v∉l->∀j,(l.set j v).Nodup
 | [],_,_,_=>Jv
 | a :: l,h,hn,0=>by
  rw[du] at h;rw[List.set_cons_zero,du];exact ⟨λz=>hn (.tail _ z),h.2⟩
 | a :: l,h,hn,j+1=>by
  rw[du] at h;rw[List.set_cons_succ,du];refine ⟨λz=>?_,yR h.2 (λz=>hn (.tail _ z)) j⟩;rcases bZ z with z | z
  ·exact h.1 z
  ·exact hn (by rw[z];exact .head _)
structure ji (K:FG9) (A:Addr->Prop) (H:Hp) (n:Nat) (C:V->Rat->Prop) (m p l b q0:Addr) (us ws vs:List V):Prop where
 bag:iQ H b
 inn:Inner H b q0
 gm:H m=some (.lst us)
 gp:H p=some (.lst ws)
 gl:H l=some (.lst vs)
 lm:us.length=n
 row:∀x∈us++vs++ws,e8 K A H n (C x) x
 nd:(us++vs++ws).Nodup
section
variable {K:FG9} {A:Addr->Prop} {H H':Hp} {n:Nat} {C C':V->Rat->Prop} {m p l b q0 q:Addr} {us ws vs zs:List V} {y:Rat} {v:V}
theorem ji.same (h:ji K A H n C m p l b q0 us ws vs) (e:aH H H'):ji K A H' n C m p l b q0 us ws vs :=
 ⟨h.bag.same e,(e.upto (p:=b)).2 _ h.inn,e _ _ h.gm,e _ _ h.gp,e _ _ h.gl,h.lm,λx hx=>(h.row x hx).same e,h.nd⟩
theorem ji.upto (h:ji K A H n C m p l b q0 us ws vs) (M:CN A m p l b q0) (u:cB b H H') (B':iQ H' b):ji K A H' n C m p l b q0 us ws vs :=
 ⟨B',u.2 _ h.inn,u.other M.mb h.gm,u.other M.pb h.gp,u.other M.lb h.gl,h.lm,λx hx=>(h.row x hx).upto u h.bag M.ab,h.nd⟩
theorem ji.weak (h:ji K A H n C m p l b q0 us ws vs) (w:∀x∈us++vs++ws,∀y,C x y->C' x y):ji K A H n C' m p l b q0 us ws vs :=
 ⟨h.bag,h.inn,h.gm,h.gp,h.gl,h.lm,λx hx=>(h.row x hx).weak (λ_ z=>z) (w x hx),h.nd⟩
theorem ji.put (h:ji K A H n C m p l b q0 us ws vs) (M:CN A m p l b q0) (aq:A q) (hq:H q=some (.lst zs)) (hv:b6 K H y v) (hc:C (.ref q) y) (j:Nat):ji K A (upd H q (.lst (zs.set j v))) n C m p l b q0 us ws vs:=by
 have ne:∀{z},¬A z->z≠q:=λh e=>h (by rw[e];exact aq)
 refine ⟨h.bag.upd h.inn (ne M.ab).symm (ne M.aq).symm,h.inn.upd (ne M.ab).symm,by rw[aU (ne M.am)];exact h.gm,by rw[aU (ne M.ap)];exact h.gp,by rw[aU (ne M.al)];exact h.gl,h.lm,λx hx=>?_,h.nd⟩;by_cases e:x=.ref q
 ·subst e;exact (h.row _ hx).put hq hv hc j
 ·obtain ⟨q1,qs,rfl,a1,r1,l1,c1⟩:=h.row x hx;exact ⟨q1,qs,rfl,a1,r1.updL hq (λz=>e (by rw[z])),l1,c1⟩
theorem ji.set (h:ji K A H n C m p l b q0 us ws vs) (M:CN A m p l b q0) (hx:e8 K A H n (C v) v) (hn:v∉us++vs++ws) (j:Nat):ji K A (upd H m (.lst (us.set j v))) n C m p l b q0 (us.set j v) ws vs:=by
 have mem:∀x∈us.set j v++vs++ws,x=v\/x∈us++vs++ws:=λx hx=>by
  rcases aI.mp hx with hx | hx
  ·rcases aI.mp hx with hx | hx
   ·rcases bZ hx with hx | hx
    ·exact .inr (by simp [hx])
    ·exact .inl hx
   ·exact .inr (by simp [hx])
  ·exact .inr (by simp [hx])
 refine ⟨h.bag.upd h.inn M.mb M.mq,h.inn.upd M.mb,aF,by rw[aU M.mp.symm];exact h.gp,by rw[aU M.ml.symm];exact h.gl,by rw[dY];exact h.lm,λx hx'=>?_,?_⟩
 ·rcases mem x hx' with rfl | hx'
  ·exact hx.other h.gm M.am
  ·exact (h.row x hx').other h.gm M.am
 ·have nd:=h.nd;rw[cD] at nd hn ⊢;obtain ⟨n1,n2,n3⟩:=dW.mp nd;refine dW.mpr ⟨?_,n2,λa ha c hc=>?_⟩
  ·rcases cM j us.length with z | z
   ·exact yR n1 (λz'=>hn (aI.mpr (.inl z'))) j
   ·rw[List.set_eq_of_length_le z];exact n1
  ·rcases bZ ha with ha | rfl
   ·exact n3 a ha c hc
   ·exact λz=>hn (aI.mpr (.inr (by rw[z];exact hc)))
end
theorem DD {M W:Nat} {x:Rat} (h0:0 < M) (h1:M<=2^800) (hW:W<=2^140) (h:Fr M W x):pX x :=
 Cw h0 (ai h1 (ah (by decide) (by decide))) (ai hW (ah (by decide) (by decide))) h
theorem Ie {t V c:Nat} (ht:t<=3) (hV:V<=2^20) (hc:c<=9):c*(9^t*V)<=2^140:=by
 have h1:9^t<=9^3:=ah (by decide) ht;have h2:c*(9^t*V)<=9*(9^3*2^20):=aR hc (aR h1 hV);exact ai h2 (ai (show 9*(9^3*2^20)<=2^40 by decide) (ah (by decide) (by decide)))
theorem xo {α:Type} {l:List α} {v:α} (h:l.Nodup) (hn:v∉l):(l++[v]).Nodup:=dW.mpr ⟨h,by simp,λa ha c hc=>by rw[BN.mp hc];exact λz=>hn (by rw[<- z];exact ha)⟩
section
variable {K:FG9} {a:Addr} {xs:List V} {g:TG} {tf:TT} {te:TE} {Q:VK} {σ₀:St} {H:Hp} {α β:Type}
theorem y0 {n:Nat} {b:Addr} (G:Hp->β->V->Prop) (C:β->Prop) (hB:iQ H b) (hl:n<=1000) (hG:∀{H' H'' c x},G H' c x->cB b H' H''->iQ H' b->G H'' c x)
  (hA:∀{H' c x},G H' c x->∃q,x=V.ref q/\H' q≠none)
  (hs:∀(i:Nat) H' NY NN,i < n->cB b H H'->iQ H' b->(∀y c H2,cB b H' H2->iQ H2 b->C c->G H2 c y->(∃q,y=V.ref q/\H' q=none)->NY y H2)->rP σ₀ g tf te (.int i) H' NY NN)
  (hd:∀ys cs H' p,H p=none->cB b H H'->iQ H' b->H' p=some (.lst ys)->cs.length=n->ys.Nodup->(∀c∈cs,C c)->Paired (G H') cs ys->(∃H2,H2 p=none/\Paired (G H2) cs ys)->Q (.ref p) H'):sO (BL 0 n) σ₀ g tf te Q H:=by
 refine o7 (λi ys H'=>cB b H H'/\iQ H' b/\∃cs,cs.length=i/\ys.Nodup/\(∀c∈cs,C c)/\Paired (G H') cs ys) (bh (bL (by lia))) ⟨(aH.refl _).upto,hB,[],rfl,Jv,(λ_ z=>nomatch z),.nil⟩ ?_ ?_
 ·rintro i ys H' hi hlen ⟨u,B,cs,lc,nd,hc,pr⟩;rw[wx];refine hs i H' _ _ hi u B λy c H2 u2 B2 cc gy ⟨q,ey,nq⟩=>⟨u.trans u2,B2,cs++[c],by simp [lc],xo nd (λz=>by obtain ⟨c',_,gc⟩:=dj pr z;obtain ⟨q',e',h'⟩:=hA gc;rw[ey] at e';cases e';exact h' nq),DO hc cc,cv (Paired.imp' (λ_ _ z=>hG z u2 B) pr) (.cons gy .nil)⟩
 ·rintro ys H' hy ⟨u,B,cs,lc,nd,hc,pr⟩ p hp;have s:aH H' (upd H' p (.lst ys)):=aH.new hp;exact hd ys cs _ p (u.none B hp) (u.same s) (B.same s) aF lc nd hc (Paired.imp' (λ_ _ z=>hG z s.upto B) pr) ⟨H',hp,pr⟩
end
structure CJ (K:FG9) (A:Addr->Prop) (n:Nat) (C:Rat->Prop) (m p l b q0:Addr) (us ws vs:List V) (H0 H:Hp):Prop where
 mix:ji K A H n (λ_=>C) m p l b q0 us ws vs
 gp:H p=some (.lst ws)
 gl:H l=some (.lst vs)
 kp:gO A b m H0 H
section
variable {K:FG9} {A:Addr->Prop} {n:Nat} {C:Rat->Prop} {m p l b q0 q:Addr} {us ws vs:List V} {H0 H H':Hp} {y:Rat} {v:V}
theorem CJ.same (h:CJ K A n C m p l b q0 us ws vs H0 H) (e:aH H H'):CJ K A n C m p l b q0 us ws vs H0 H':=⟨h.mix.same e,e _ _ h.gp,e _ _ h.gl,h.kp.same e⟩
theorem CJ.upto (h:CJ K A n C m p l b q0 us ws vs H0 H) (M:CN A m p l b q0) (u:cB b H H') (B:iQ H' b):CJ K A n C m p l b q0 us ws vs H0 H':=⟨h.mix.upto M u B,u.other M.pb h.gp,u.other M.lb h.gl,h.kp.upto u⟩
theorem CJ.row (h:CJ K A n C m p l b q0 us ws vs H0 H) {x:V} (hx:x∈ws\/x∈vs):e8 K A H n C x:=h.mix.row x (by rcases hx with hx | hx <;> simp [hx])
theorem CJ.put (h:CJ K A n C m p l b q0 us ws vs H0 H) (M:CN A m p l b q0) (hx:V.ref q∈ws\/V.ref q∈vs) (hv:b6 K H y v) (hc:C y) (j:Nat):∃zs,H q=some (.lst zs)/\zs.length=n/\CJ K A n C m p l b q0 us ws vs H0 (upd H q (.lst (zs.set j v))):=by
 obtain ⟨q',zs,qs,e,a,g,lz,_⟩:=(h.row hx).at;cases e;have ne:∀{z},¬A z->z≠q:=λh e=>h (by rw[e];exact a)
 exact ⟨zs,g,lz,h.mix.put M a g hv hc j,by rw[aU (ne M.ap)];exact h.gp,by rw[aU (ne M.al)];exact h.gl,h.kp.upd (.inl a)⟩
end
inductive AE (K:FG9) (vs:List V) (H:Hp) (Q:VK) (E9:XK):Prop
 | mk (b:Addr) (n w:Nat) (way first:Int):vs=[.ref b,.int n,.int way,.int first,.int w]->iQ H b->n<=8->1<=w->w<=1000000->(∀r us H',H r=none->H' r=some (.lst us)->us.length=n->us.Nodup->(∀x∈us,e8 K (λq=>H q=none/\q≠r) H' n (Dr (max w 6)) x)->iQ H' b->cB b H H'->Q (.ref r) H')->AE K vs H Q E9
theorem Dw {mv pt:LR9} {M V1 a c n0:Nat} (M0:0 < M) (hM:M<=2^a) (hn:mv.length<=n0) (hV:(n0+1)*V1<=2^c) (fm:GF M V1 mv) (fp:GF M V1 pt) (h4:a<=400/\c<=40/\n0*(n0*(a+c)+4)<=1740/\n0*(n0*(n0*(a+c)+4)+a+c+4)<=8900):nU mv pt a c:=by
 obtain ⟨h1,h2,h3,h5⟩:=h4;have e1:mv.length*(a+c)<=n0*(a+c):=aG _ hn;have e2:mv.length*(mv.length*(a+c)+4)<=n0*(n0*(a+c)+4):=aR hn (by lia);have e3:mv.length*(mv.length*(mv.length*(a+c)+4)+a+c+4)<=n0*(n0*(n0*(a+c)+4)+a+c+4):=aR hn (by lia);exact ⟨M,V1,M0,hM,ai (aG _ (by lia)) hV,fm,fp,h1,h2,by lia,by lia⟩
theorem Bv {mv pt R R':LR9} {n t:Nat} {ps ps':List Nat} (lm:mv.length=n) (wm:∀xs∈mv,xs.length=n) (wp:∀xs∈pt,xs.length=n) (RR:bU (jD mv pt t) n R ps) (RR':bU (jD mv pt (t+1)) n R' ps'):bU (pt++R.map (xZ mv)) n R' ps':=by
 have wk:=kb (mv:=mv) lm wp t;refine ⟨RR'.1,RR'.2.1,RR'.2.2.other ?_ ?_⟩
 ·refine qN (λi hi=>p5 hi) λi hi=>nZ ?_
  rw[ag] at hi;have:=RR.2.2.span i hi;rw[<- RR.1] at this;exact wG lm wm wk RR.2.1 hi this
 ·refine qN (λi hi=>p5 hi) λi hi=>nZ ?_
  rw[ag] at hi;exact wG lm wm RR.2.1 wk hi (RR.2.2.back i (by rw[<- RR.1];exact hi))
section
variable {rows fs ls:LR9} {n r M W Wv Wb k P:Nat} {Pm Y Z B E a:Nat->Nat->Rat} {d:Rat} {ps:List Nat} {rs:LR9}
end
section
variable {rows R R1 R2 mv pt:LR9} {n t t2 a c:Nat} {ps ps1 ps2:List Nat}
theorem C6 (RR:bU rows n R ps):bU R n R ps:=⟨RR.1,RR.2.1,RR.2.2.other (λi hi=>by rw[RR.1];exact RR.2.2.span i hi) (λi hi=>RR.2.2.back i (by rw[<- RR.1];exact hi))⟩
end
def Gd (mv pt:LR9) (i:Nat) (R:LR9) (ps:List Nat):Prop:=bU (jD mv pt i) mv.length R ps/\∃t,t<=ps.length/\t<=i/\bU (jD mv pt t) mv.length R ps/\(t=i\/∀s,bU (jD mv pt (t+s)) mv.length R ps)
section
variable {mv pt R R':LR9} {i:Nat} {ps ps':List Nat}
theorem Gd.start:Gd mv pt 0 [] []:=⟨Ca,0,au _,au _,Ca,.inl rfl⟩
theorem E5 (wm:∀xs∈mv,xs.length=mv.length) (wp:∀xs∈pt,xs.length=mv.length) (h:bU (jD mv pt i) mv.length R ps) (h':bU (jD mv pt (i+1)) mv.length R' ps') (e:ps'.length=ps.length):∀s,bU (jD mv pt (i+s)) mv.length R ps:=yU rfl wm wp h (Bv rfl wm wp h h') e
theorem Gd.step (wm:∀xs∈mv,xs.length=mv.length) (wp:∀xs∈pt,xs.length=mv.length) (h:Gd mv pt i R ps) (h':bU (jD mv pt (i+1)) mv.length R' ps'):Gd mv pt (i+1) R' ps'/\(mv.length<=i->R'=R):=by
 obtain ⟨h0,t,t1,t2,ht,hs⟩:=h
 have st:(∀s,bU (jD mv pt (t+s)) mv.length R ps)->Gd mv pt (i+1) R' ps'/\(mv.length<=i->R'=R):=λhs=>by
  have:=hs (i+1 - t);rw[show t+(i+1 - t)=i+1 by lia] at this;obtain ⟨rfl,rfl⟩:=this.same h';exact ⟨⟨h',t,t1,by lia,ht,.inr hs⟩,λ_=>rfl⟩
 rcases hs with rfl | hs
 ·have gr:=Bu rfl wm wp h0 h';by_cases e:ps'.length=ps.length
  ·exact st (E5 wm wp h0 h' e)
  ·refine ⟨⟨h',t+1,by lia,au _,h',.inl rfl⟩,λhn=>?_⟩;have:=h'.le
   lia
 ·exact st hs
theorem Gd.late (h:Gd mv pt i R ps) (hi:mv.length < i) {j:Nat} (hj:mv.length<=j):bU (jD mv pt j) mv.length R ps:=by
 obtain ⟨h0,t,t1,t2,ht,hs⟩:=h;have le:=h0.le;rcases hs with rfl | hs
 ·lia
 ·have:=hs (j - t);rwa [show t+(j - t)=j by lia] at this
end
section
variable {mv pt lk pus:LR9} {st pu go:List Rat} {n t T c:Nat}
theorem Ko {x y:List Rat} (h:x.length=y.length) (e:∀c,c < x.length->x.getD c 0=y.getD c 0):x=y:=by
 apply cz h;intro c h1 h2;have:=e c h1;rwa [aa,aa,af h1,af h2] at this
theorem A9 (D:mI mv pt lk) (h:st.length=mv.length) (hp:pu.length=pt.length) (hc:c < mv.length):(fD mv pt st pu).getD c 0=bg mv.length (λj=>bM mv c j*st.getD j 0)+bg pt.length λi=>pu.getD i 0*bM pt i c:=by
 have wc:=D.mw _ (aN hc)
 have e:(fD mv pt st pu).getD c 0=cY (mv[c]++pt.map λxs=>xs.getD c 0) (st++pu):=by
  unfold fD;rw[aa,bO,af hc,tL hc];rfl
 rw[e,qv (by lia),fU (by lia),fU (by rw[ag];lia),wc,ag];congr 1
 ·refine aW λj _=>?_
  unfold bM;rw[aa (l:=mv),af hc];rfl
 ·refine aW λi hi=>?_
  rw[jZ];congr 1;unfold bM;rw[aa,az,aa (l:=pt),af hi];rfl
end
def Lu (l:Addr):Hp:=λq=>if q=l then some (.lst []) else none
theorem Kc {l q:Addr} (h:q≠l):Lu l q=none:=by unfold Lu;rw[if_neg h]
section
variable {mv pt lk rows R N Hd:LR9} {st pr go:List Rat} {n r t T a c W B:Nat} {ps psd:List Nat} {Pm Y Z:Nat->Nat->Rat} {d:Rat}
theorem Kp (F:nU mv pt a c) (D8:mv.length<=8) (wm:∀xs∈mv,xs.length=mv.length) (wp:∀xs∈pt,xs.length=mv.length):∀T,∃R ps,Gd mv pt T R ps:=by
 intro T
 induction T with
 | zero=>exact ⟨_,_,Gd.start⟩
 | succ T ih =>
  obtain ⟨R,ps,G⟩:=ih;obtain ⟨RR,t,t1,t2,RRt,hs⟩:=id G;have le:=RR.le
  obtain ⟨R',ps',d,ls,S⟩:=yK (n:=mv.length) (rows:=pt++R.map (xZ mv)) (λxs hx=>by
   rcases aI.mp hx with hx | hx
   ·exact wp xs hx
   ·obtain ⟨y,_,rfl⟩:=ay.mp hx;exact zO) (F.step D8 wm wp (t:=t) (by lia) RRt)
  have RR':=ug rfl wm wp RR S.rr;exact ⟨R',ps',(G.step wm wp RR').1⟩
theorem Di:∀xs∈eE R ps n,xs.length=n:=λxs hx=>by
 obtain ⟨_,_,_,rfl⟩:=uV hx;exact oO
end
structure Mp (mv pt:LR9) (st pu:List Rat):Prop where
 f2:∀xs∈mv,vY xs st
 part:∀kk,∀x∈nextK mv pt st pu kk,pX x
 su:∀u∈pu,pX u
 sp:∀row∈pt,∀y∈row,pX y
 mul:∀u∈pu,∀row∈pt,∀y∈row,pX (u*y)
inductive AD (K:FG9) (vs:List V) (H:Hp) (Q:VK) (E9:XK):Prop
 | mk (r s u:Addr) (H0:Hp) (mv pt lk:LR9) (st pu:List Rat):vs=[.ref r,.ref s,.ref u]->jz K H0 H r mv pt lk->mI mv pt lk->dC K H s st->dC K H u pu->st.length=mv.length->pu.length=pt.length->Mp mv pt st pu->(∀t H',H t=none->aH H H'->dC K H' t (fD mv pt st pu)->Q (.ref t) H')->AD K vs H Q E9
structure Bd (mv pt:LR9) (M1 M2 V a1 a2 c:Nat):Prop where
 m1:0 < M1
 m2:0 < M2
 b1:M1<=2^a1
 b2:M2<=2^a2
 gm:GF M1 V mv
 gp:GF M2 V pt
 vc:(mv.length+4)*V<=2^c
section
variable {mv pt lk pus:LR9} {st pu go:List Rat} {M1 M2 V a1 a2 c N Np p t T ν:Nat}
theorem Bd.v1 (B:Bd mv pt M1 M2 V a1 a2 c):V<=2^c:=ai (cN _ (by lia)) B.vc
theorem tw {M W:Nat} {x:Rat} (h0:0 < M) {a b:Nat} (h1:M<=2^a) (h2:W<=2^b) (hab:a+b<=3990) (h:Fr M W x):pX x:=by
 refine BV (Tp.of h (au _)) h0 (ai h1 (ah (by decide) (by lia))) ?_;refine ai (aR h2 h1) ?_;rw[<- bX];exact ah (by decide) (by lia)
theorem Bd.next (B:Bd mv pt M1 M2 V a1 a2 c) (D:mI mv pt lk) (ls:st.length=mv.length) (lu:pu.length=pt.length) (N0:0 < N) (dv:M2*Np∣M1*N) (hs:∀x∈st,Fr N (2^p) x) (hu:∀x∈pu,Fr Np (2^p) x) (hN:N<=2^ν) (sz:a1+ν+c+p<=3900) (sp2:a2+c<=3900):Mp mv pt st pu/\∀x∈fD mv pt st pu,Fr (M1*N) (2^(c+p)) x:=by
 have V1:=B.v1;have i4:=D.i4;have MN0:0 < M1*N:=dr B.m1 N0;have MN:M1*N<=2^(a1+ν):=by rw[bX];exact aR B.b1 hN
 have Np0:0 < Np:=by
  rcases lV Np with z | z
  ·rw[z,Nat.mul_zero] at dv;have:=Nat.eq_zero_of_zero_dvd dv
   lia
  ·exact z
 have NpMN:Np<=M1*N:=ai (cN _ B.m2) (kz MN0 dv)
 have one:∀u∈pu,∀row∈pt,∀y∈row,Fr (M1*N) (V*2^p) (u*y):=λu hu' row hr y hy=>by
  have:=(B.gp row hr y hy).mul (hu u hu');rw[jZ];exact this.dvd dv
 have part:∀kk,kk<=pt.length->∀x∈nextK mv pt st pu kk,Fr (M1*N) (2^(c+p)) x:=λkk hkk x hx=>by
  obtain ⟨j,hj,e⟩:=gM hx;rw[iI] at hj;have e2:=xp (mv:=mv) (pt:=pt) (st:=st) (pu:=pu) (k:=kk) hj;rw[aa,af (by rw[iI];exact hj)] at e2;have e3:x=cY (mv[j]++(pt.map λxs=>xs.getD j 0).take kk) (st++pu.take kk):=by rw[<- e,<- e2];rfl
  have wj:=D.mw _ (aN hj);rw[e3,qv (by lia)];have f1:=Fr.dot (B.gm _ (aN hj)) hs;rw[wj] at f1
  have f2:Fr (M1*N) (4*(V*2^p)) (cY ((pt.map λxs=>xs.getD j 0).take kk) (pu.take kk)):=by
   have hc:∀y∈(pt.map λxs=>xs.getD j 0).take kk,Fr M2 V y:=λy hy=>by
    obtain ⟨xs,hxs,rfl⟩:=ay.mp (cm hy);rw[aa];cases e:xs[j]? with
    | none=>exact Fr.zero
    | some z=>exact B.gp xs hxs z (ak e)
   have:=Fr.dot (ys:=pu.take kk) hc (λy hy=>hu y (cm hy));refine (this.dvd dv).mono (aG _ ?_);rw[cO,ag]
   lia
  refine (f1.add f2).mono ?_;rw[<- Nat.add_mul,bX,<- dI];exact aG _ B.vc
 have szb:∀{x:Rat},Fr (M1*N) (2^(c+p)) x->pX x:=λh=>tw MN0 MN (au _) (by lia) h
 have all:∀kk,∀x∈nextK mv pt st pu kk,Fr (M1*N) (2^(c+p)) x:=λkk x hx=>by
  rcases cM pt.length kk with z | z
  ·have e:nextK mv pt st pu kk=nextK mv pt st pu pt.length:=(qU (by lia) (by lia)).trans (qU (au _) (by lia)).symm;rw[e] at hx;exact part _ (au _) x hx
  ·exact part kk z x hx
 refine ⟨⟨λxs hx=>⟨a1,c,ν,p,⟨M1,V,B.m1,B.b1,V1,B.gm xs hx⟩,⟨N,2^p,N0,hN,au _,hs⟩,by lia⟩,λkk x hx=>szb (all kk x hx),λu hu'=>?_,λrow hr y hy=>?_,λu hu' row hr y hy=>szb ((one u hu' row hr y hy).mono (by rw[bX];exact aG _ V1))⟩,λx hx=>?_⟩
 ·exact tw Np0 (ai NpMN MN) (au _) (by lia) (hu u hu')
 ·exact tw B.m2 B.b2 V1 (by lia) (B.gp row hr y hy)
 ·rw[<- qU (k:=pt.length) (au _) (by lia)] at hx;exact all _ x hx
end
section
variable {X:Cx}
end
theorem Fx (ws vs:List V) (M1 M2 M3:Nat):∃μ:V->Nat,(∀x∈ws,μ x=M2)/\(∀x∈vs,x∉ws->μ x=M3)/\(∀x,x∉ws->x∉vs->μ x=M1)/\∀x,μ x=M1\/μ x=M2\/μ x=M3:=by
 classical
 refine ⟨λx=>if x∈ws then M2 else if x∈vs then M3 else M1,λx h=>if_pos h,λx h h'=>?_,λx h h'=>?_,λx=>?_⟩
 ·show (if x∈ws then M2 else if x∈vs then M3 else M1)=M3
  rw[if_neg h',if_pos h]
 ·show (if x∈ws then M2 else if x∈vs then M3 else M1)=M1
  rw[if_neg h,if_neg h']
 ·show (if x∈ws then M2 else if x∈vs then M3 else M1)=M1\/(if x∈ws then M2 else if x∈vs then M3 else M1)=M2\/(if x∈ws then M2 else if x∈vs then M3 else M1)=M3
  by_cases h:x∈ws
  ·rw[if_pos h];exact .inr (.inl rfl)
  ·rw[if_neg h];by_cases h':x∈vs
   ·rw[if_pos h'];exact .inr (.inr rfl)
   ·rw[if_neg h'];exact .inl rfl
theorem ji.apart {K:FG9} {A:Addr->Prop} {H:Hp} {n:Nat} {C:V->Rat->Prop} {m p l b q0:Addr} {us ws vs:List V} (h:ji K A H n C m p l b q0 us ws vs):(∀x∈us,x∉ws/\x∉vs)/\∀x∈vs,x∉ws:=by
 obtain ⟨n1,n2,n3⟩:=dW.mp h.nd;obtain ⟨n4,n5,n6⟩:=dW.mp n1;exact ⟨λx hx=>⟨λz=>n3 x (aI.mpr (.inl hx)) x z rfl,λz=>n6 x hx x z rfl⟩,λx hx z=>n3 x (aI.mpr (.inr hx)) x z rfl⟩
theorem ji.fr3 {K:FG9} {A:Addr->Prop} {H:Hp} {n c:Nat} {m p l b q0:Addr} {us ws vs:List V} (h:ji K A H n (λ_=>Dr (2^c)) m p l b q0 us ws vs):∃M1 M2 M3,0 < M1/\0 < M2/\0 < M3/\M1<=2^(c*(n*n))/\M2<=2^(c*(ws.length*n))/\M3<=2^(c*(vs.length*n))/\(∀x∈us,e8 K A H n (Fr M1 (2^c)) x)/\(∀x∈ws,e8 K A H n (Fr M2 (2^c)) x)/\∀x∈vs,e8 K A H n (Fr M3 (2^c)) x:=by
 have one:∀l:List V,(∀x∈l,x∈us++vs++ws)->∃M,0 < M/\M<=2^(c*(l.length*n))/\∀x∈l,e8 K A H n (Fr M (2^c)) x:=λl hl=>by
  obtain ⟨ra,pa,la,ha⟩:=wW λx hx=>h.row x (hl x hx)
  obtain ⟨M,m0,m1,m2⟩:=zH (c:=c) (n:=n) (rows:=ra) ha;exact ⟨M,m0,by rw[la] at m1;exact m1,Cb pa λqs hq=>⟨(ha qs hq).1,m2 qs hq⟩⟩
 obtain ⟨M1,a1,a2,a3⟩:=one us λx hx=>by simp [hx]
 obtain ⟨M2,b1,b2,b3⟩:=one ws λx hx=>by simp [hx]
 obtain ⟨M3,c1,c2,c3⟩:=one vs λx hx=>by simp [hx]
 rw[h.lm] at a2;exact ⟨M1,M2,M3,a1,b1,c1,a2,b2,c2,a3,b3,c3⟩
inductive yD (K:FG9) (xs:List V) (H:Hp) (Q:VK) (E9:XK):Prop
 | mk (b m p l q0:Addr) (n V1:Nat) (μ:V->Nat) (A:Addr->Prop) (us ws vs:List V):xs=[.ref b,.ref m,.ref p,.ref l]->CN A m p l b q0->ji K A H n (λx=>Fr (μ x) V1) m p l b q0 us ws vs->n<=8->ws.length<=4->vs.length<=4->(∀x,0 < μ x)->(∀x,μ x<=2^800)->(∃M,∀x,x∉ws->x∉vs->μ x=M)->V1<=2^20->(∀q,H q=none->A q)->(∀r us' H',H' r=some (.tup [.ref m,.ref p,.ref l])->ji K A H' n (λx=>Fr (μ x) (9^3*V1)) m p l b q0 us' ws vs->gO A b m H H'->Q (.ref r) H')->yD K xs H Q E9
def PtG (n i o w c:Nat) (mv pt lk:LR9):Prop:=∃M1 M2 M3 V1:Nat,0 < M1/\0 < M2/\0 < M3/\GF M1 V1 mv/\GF M2 V1 pt/\GF M3 V1 lk/\((w<=9/\M1=2520/\M2=2520/\M3=2520/\V1=9^3*9)\/(9 < w/\M1<=2^(c*(n*n))/\M2<=2^(c*(i*n))/\M3<=2^(c*(o*n))/\V1=9^3*2^c))
inductive yy (K:FG9) (vs:List V) (H:Hp) (Q:VK) (E9:XK):Prop
 | mk (b:Addr) (n i o w c:Nat):vs=[.ref b,.int n,.int i,.int o,.int w]->iQ H b->n<=8->i<=4->o<=4->1<=w->w<=1000000->max w 6<=2^c->c<=20->c*((n+i+o)*n)<=800->(∀r mv pt lk H',jz K H H' r mv pt lk->mv.length=n->pt.length=i->lk.length=o->mI mv pt lk->PtG n i o w c mv pt lk->iQ H' b->cB b H H'->Q (.ref r) H')->yy K vs H Q E9
open PySem.MeetsSeq
inductive yz (K:FG9) (vs:List V) (H:Hp) (Q:VK) (E9:XK):Prop
 | mk (p:Addr) (n w:Nat) (H0:Hp) (rows R:LR9) (ps:List Nat):vs=[.ref p,.int n]->bu K H0 H p R->R.length<=100->n<=100->bU rows n R ps->DP R n w->(∀xs∈R,∀x∈xs,pX x)->(∀r H',H r=none->aH H H'->bu K H H' r (eE R ps n)->Q (.ref r) H')->yz K vs H Q E9
section
variable {rows ends:LR9} {row due:List Rat} {n:Nat}
theorem mul_pow {a b c d:Nat} (h:a<=2^c) (h':b<=2^d):a*b<=2^(c+d):=by
 rw[bX];exact aR h h'
end
def DZ:Sp:=λvs H Q _=>∃b,vs=[.ref b]/\iQ H b/\∀r (n i o w:Nat) H',H' r=some (.tup [.int n,.int i,.int o,.int w])->n<=5->i<=4->o<=4->(w=4\/w=9\/(w=1000/\n<=2))->(n=5->i<=2/\o<=2)->iQ H' b->cB b H H'->Q (.ref r) H'
theorem Mb {xs:List Rat} {f:Nat} (h:f=9\/(f=1000/\xs.length<=2)) (dx:∀x∈xs,Dr (max f 6) x):∃E V0,0 < E/\E<=2^20/\V0<=2^10/\∀x∈xs,Fr E V0 x:=by
 rcases h with rfl | ⟨rfl,l2⟩
 ·exact ⟨2520,9,by decide,by decide,by decide,λx hx=>Ab (dx x hx) (DT _)⟩
 ·obtain ⟨M,m0,m1,m2⟩:=zH (c:=10) (n:=xs.length) (rows:=[xs]) λqs hq=>by
   rw[BN.mp hq];exact ⟨rfl,λy hy=>⟨ai (dx y hy).1 (by decide),ai (dx y hy).2 (by decide)⟩⟩
  exact ⟨M,2^10,m0,ai m1 (ah (by decide) (by rw[br];lia)),au _,λx hx=>m2 xs (by simp) x hx⟩
def ky (n:Nat) (f:Nat->Nat->Rat):LR9:=(List.range n).map λi=>(List.range n).map λj=>f i j
section
variable {n:Nat} {f g:Nat->Nat->Rat}
theorem va:(ky n f).length=n:=by unfold ky;rw[ag,di]
theorem Iv:∀xs∈ky n f,xs.length=n:=λxs hx=>by obtain ⟨i,_,rfl⟩:=ay.mp hx;rw[ag,di]
theorem xD {i:Nat} (h:i < n):(ky n f)[i]?=some ((List.range n).map λj=>f i j):=by unfold ky;rw[az,eo h];rfl
theorem D6 {h:Nat->Rat} {i:Nat} (hi:i < n):((List.range n).map h).getD i 0=h i:=by rw[aa,az,eo hi];rfl
theorem yV {i:Nat} (h:i < (ky n f).length):(ky n f)[i]=(List.range n).map λj=>f i j:=by
 have:=xD (f:=f) (n:=n) (i:=i) (by rw[va] at h;exact h);rw[af h] at this;exact bp this
theorem Bw (h:∀i j,i < n->j < n->f i j=g i j):ky n f=ky n g:=by
 unfold ky;exact dk λi hi=>dk λj hj=>h i j (nK.mp hi) (nK.mp hj)
end
theorem Iu {x:Rat}:((0 - (nm x).1,(nm x).2):Int×Int)=nm (-x):=by
 unfold nm;rw[Rat.neg_num,Rat.neg_den,Int.zero_sub]
theorem uW {xs:List Rat} {n:Nat} (h:xs.length=n):((List.range n).map λl=>xs.getD l 0)=xs:=by
 apply cz (by rw[ag,di,h]);intro i h1 h2;rw[cP,sP,aa,af h2];rfl
theorem BP {n m:Nat} {w:Rat} {f g:Nat->Rat}:List.zipWith (λx y=>x+y) ((List.range n).map f) (((List.range n).map g).map λy=>w*y)=(List.range n).map λj=>f j+w*g j:=by
 rw[List.map_map];apply cz (by rw[bC,ag,ag,ag];lia);intro i h1 h2;rw[fP,cP,cP,cP];rfl
def mC (mv pt F:LR9):LR9:=ky mv.length λa b=>bM mv a b+bg pt.length λk=>bM pt k a*bM F k b
section
variable {mv pt lk F R:LR9} {n m:Nat} {ps:List Nat} {x:Nat->Rat} {st pu:List Rat}
theorem cf:(mC mv pt F).length=mv.length:=va
theorem Gn:∀xs∈mC mv pt F,xs.length=mv.length:=Iv
theorem FL {f:Nat->Nat->Rat} {i j:Nat} (hi:i < n) (hj:j < n):bM (ky n f) i j=f i j:=by
 unfold bM;rw[aa (l:=ky n f),xD hi];exact D6 hj
theorem xG {a b:Nat} (ha:a < mv.length) (hb:b < mv.length):bM (mC mv pt F) a b=bM mv a b+bg pt.length λk=>bM pt k a*bM F k b:=FL ha hb
theorem FK (lm:mv.length=n) (hw:∀xs∈mv,xs.length=n):ky n (bM mv)=mv:=by
 apply cz (by rw[va,lm]);intro i h1 h2;rw[yV h1];have wi:=hw _ (aN h2);have e:∀j,bM mv i j=(mv[i]).getD j 0:=λj=>by unfold bM;rw[aa (l:=mv),af h2];rfl
 rw[dk λj _=>e j];exact uW wi
theorem IG {F2:LR9} (hw:∀xs∈mv,xs.length=mv.length) (h:∀k b,k < pt.length->b < mv.length->bM F2 k b=-(bM F k b)):mC (mC mv pt F) pt F2=mv:=by
 have e0:mC (mC mv pt F) pt F2=ky mv.length (bM mv):=by
  show ky (mC mv pt F).length _=_
  rw[cf];refine Bw λa b ha hb=>?_
  rw[xG ha hb]
  have:(bg pt.length λk=>bM pt k a*bM F2 k b)=-1*bg pt.length λk=>bM pt k a*bM F k b:=by
   rw[<- cg];exact aW λk hk=>by rw[h k b hk hb];grind
  rw[this];grind
 rw[e0,FK rfl hw]
theorem IF (hw:∀xs∈mv,xs.length=mv.length) (lF:F.length=pt.length):List.zipWith (λline more=>List.zipWith (λx y=>x+y) line more) mv (dZ (de pt mv.length) F mv.length)=mC mv pt F:=by
 have l1:(dZ (de pt mv.length) F mv.length).length=mv.length:=by unfold dZ;rw[ag,cL]
 apply cz (by rw[bC,l1,cf,nI]);intro a h1 h2;have ha:a < mv.length:=by rw[cf] at h2;exact h2
 rw[fP];unfold mC at h2 ⊢;rw[yV h2]
 have ea:(dZ (de pt mv.length) F mv.length)[a]'(by rw[l1];exact ha)=(de F mv.length).map λys=>cY ys (pt.map λxs=>xs.getD a 0):=by
  have:(dZ (de pt mv.length) F mv.length)[a]?=some ((de F mv.length).map λys=>cY ys (pt.map λxs=>xs.getD a 0)):=by
   unfold dZ;rw[az,tL ha];rfl
  rw[af (by rw[l1];exact ha)] at this;exact bp this
 rw[ea];have wa:=hw _ (aN ha);apply cz (by rw[bC,ag,ag,cL,di,wa,nI]);intro b h3 h4;rw[ag,di] at h4;rw[fP,cP,cP,sP]
 have e1:mv[a][b]'(by rw[wa];exact h4)=bM mv a b:=by
  unfold bM;rw[aa (l:=mv),af ha];show _=(mv[a]).getD b 0
  rw[aa,af (by rw[wa];exact h4)];rfl
 have e2:(de F mv.length)[b]'(by rw[cL];exact h4)=F.map λxs=>xs.getD b 0:=by
  have:=tL (rows:=F) (n:=mv.length) h4;rw[af (by rw[cL];exact h4)] at this;exact bp this
 rw[e1,e2,fU (by rw[ag,ag,lF]),ag,lF];congr 1;exact aW λk _=>by rw[zT,zT];exact jZ _ _
theorem GX {xs ys:List Rat} {i:Nat} (h:ys.length=xs.length) (hi:i < xs.length):(List.zipWith (λx y=>x+y) xs ys).getD i 0=xs.getD i 0+ys.getD i 0:=by
 rw[aa,bO,af hi,af (show i < ys.length by lia),aa,aa,af hi,af (show i < ys.length by lia)];rfl
theorem Gv (D:mI mv pt lk) (lF:F.length=pt.length) (wF:∀xs∈F,xs.length=mv.length) (ls:st.length=mv.length) (lu:pu.length=pt.length) (D':mI (mC mv pt F) pt lk):fD (mC mv pt F) pt st pu=fD mv pt st (List.zipWith (λx y=>x+y) pu (F.map λxs=>cY xs st)):=by
 have lz:(List.zipWith (λx y=>x+y) pu (F.map λxs=>cY xs st)).length=pt.length:=by rw[bC,ag,lF,lu,nI]
 refine Ko (by rw[qV,qV,cf]) λc hc=>?_
 rw[qV,cf] at hc;rw[A9 D' (by rw[cf];exact ls) lu (by rw[cf];exact hc),A9 D ls lz hc,cf]
 have e1:(bg mv.length λj=>bM (mC mv pt F) c j*st.getD j 0)=bg mv.length (λj=>bM mv c j*st.getD j 0)+bg pt.length λk=>bM pt k c*bg mv.length λj=>bM F k j*st.getD j 0:=by
  have:(bg mv.length λj=>bM (mC mv pt F) c j*st.getD j 0)=bg mv.length λj=>bM mv c j*st.getD j 0+bg pt.length λk=>bM pt k c*(bM F k j*st.getD j 0):=aW λj hj=>by
   rw[xG hc hj]
   have:(bg pt.length λk=>bM pt k c*(bM F k j*st.getD j 0))=st.getD j 0*bg pt.length λk=>bM pt k c*bM F k j:=by
    rw[<- cg];exact aW λk _=>by grind
   rw[this];grind
  rw[this,iT,fX];congr 1;exact aW λk _=>by rw[cg]
 have e2:(bg pt.length λi=>(List.zipWith (λx y=>x+y) pu (F.map λxs=>cY xs st)).getD i 0*bM pt i c)=bg pt.length (λi=>pu.getD i 0*bM pt i c)+bg pt.length λk=>bM pt k c*bg mv.length λj=>bM F k j*st.getD j 0:=by
  rw[<- iT];refine aW λk hk=>?_
  have hk':k < F.length:=by lia
  have ek:(List.zipWith (λx y=>x+y) pu (F.map λxs=>cY xs st)).getD k 0=pu.getD k 0+bg mv.length λj=>bM F k j*st.getD j 0:=by
   rw[GX (by rw[ag];lia) (by lia)];congr 1;rw[aa,az,af hk'];show cY F[k] st=_
   have wk:=wF _ (aN hk');rw[fU (by rw[wk,ls]),wk];refine aW λj _=>?_
   unfold bM;rw[aa (l:=F),af hk'];rfl
  rw[ek];grind
 rw[e1,e2];grind
theorem zx {a:Nat->Nat->Rat} {f:Nat->Nat->Rat} {w:Nat->Rat}:∀k,(∀i,i < k->dB m a (f i))->dB m a λc=>bg k λi=>w i*f i c
 | 0,_=>dB.zero λ_=>rfl
 | k+1,h=>by
  have:=dB.lin 1 (w k) (zx (w:=w) k λi hi=>h i (by lia)) (h k (by lia));exact this.congr λc=>by show _=bg k _+_;grind
theorem Dv {a c:Nat} (KF:nU mv pt a c) (D8:mv.length<=8) (wm:∀xs∈mv,xs.length=mv.length) (wp:∀xs∈pt,xs.length=mv.length) (RR:bU (jD mv pt mv.length) mv.length R ps):(∀k,k < pt.length->dB ps.length (bM R) (bM pt k))/\∀x:Nat->Rat,dB ps.length (bM R) x->dB ps.length (bM R) λc=>bg mv.length λj=>bM mv c j*x j:=by
 obtain ⟨R0,ps0,G⟩:=Kp KF D8 wm wp (mv.length+1);have R1:=G.late (dD _) (au _);have R2:=G.late (dD _) (zh mv.length);obtain ⟨rfl,rfl⟩:=RR.same R1;have B:=Bv rfl wm wp R1 R2;have sp:=B.2.2.span;refine ⟨λk hk=>?_,λx hx=>?_⟩
 ·have:=sp k (by rw[aA];lia);rwa [Ky hk] at this
 ·obtain ⟨w,hw⟩:=hx
  have key:=zx (w:=w) (f:=λs=>bM (R.map (xZ mv)) s) ps.length λs hs=>by
   have:=sp (pt.length+s) (by rw[aA,ag,RR.1];lia);rwa [Kx] at this
  refine key.congr λc=>?_
  have e:(bg mv.length λj=>bM mv c j*x j)=bg mv.length λj=>bg ps.length λs=>w s*(bM mv c j*bM R s j):=aW λj _=>by
   rw[hw j,<- cg];exact aW λs _=>by grind
  rw[e,fX];refine aW λs hs=>?_
  rw[cg,Dg rfl wm RR.2.1 (by rw[RR.1];exact hs)]
theorem Cs {mv2:LR9} {f:Nat->Nat->Rat} {a c:Nat} (KF:nU mv pt a c) (D8:mv.length<=8) (wm:∀xs∈mv,xs.length=mv.length) (wp:∀xs∈pt,xs.length=mv.length) (RR:bU (jD mv pt mv.length) mv.length R ps) (l2:mv2.length=mv.length) (w2:∀xs∈mv2,xs.length=mv.length) (h2:∀a b,a < mv.length->b < mv.length->bM mv2 a b=bM mv a b+bg pt.length λk=>bM pt k a*f k b):∀t i,i < (jD mv2 pt t).length->dB ps.length (bM R) (bM (jD mv2 pt t) i)
 | 0,i,hi=>absurd hi (fE _)
 | t+1,i,hi=>by
  obtain ⟨ip,iv⟩:=Dv KF D8 wm wp RR;have wk:=kb (pt:=pt) l2 (λxs hx=>wp xs hx) t;refine qN (X:=pt) (Y:=(jD mv2 pt t).map (xZ mv2)) ip (λs hs=>?_) i hi;rw[ag] at hs;have xs:=Cs KF D8 wm wp RR l2 w2 h2 t s hs;have a1:=iv _ xs;have a2:=zx (w:=λk=>bg mv.length λj=>f k j*bM (jD mv2 pt t) s j) pt.length ip;refine (dB.lin 1 1 a1 a2).congr λc=>?_
  rw[Dg l2 w2 wk hs c];by_cases hc:c < mv.length
  ·have e:(bg mv.length λj=>bM mv2 c j*bM (jD mv2 pt t) s j)=bg mv.length λj=>bM mv c j*bM (jD mv2 pt t) s j+bg pt.length λk=>bM pt k c*(f k j*bM (jD mv2 pt t) s j):=aW λj hj=>by
    rw[h2 c j hc hj]
    have:(bg pt.length λk=>bM pt k c*(f k j*bM (jD mv2 pt t) s j))=bM (jD mv2 pt t) s j*bg pt.length λk=>bM pt k c*f k j:=by
     rw[<- cg];exact aW λk _=>by grind
    rw[this];grind
   rw[e,iT,fX];have e2:(bg pt.length λk=>bg mv.length λj=>bM pt k c*(f k j*bM (jD mv2 pt t) s j))=bg pt.length λk=>(bg mv.length λj=>f k j*bM (jD mv2 pt t) s j)*bM pt k c:=aW λk _=>by rw[cg];exact jZ _ _
   rw[e2];grind
  ·have z1:∀j,bM mv c j=0:=λj=>by unfold bM;rw[aa (l:=mv),aP (by lia)];exact KO
   have z2:∀j,bM mv2 c j=0:=λj=>by unfold bM;rw[aa (l:=mv2),aP (by lia)];exact KO
   have z3:∀k,bM pt k c=0:=λk=>Kr wp (by lia)
   rw[cT (k:=mv.length) λj _=>by rw[z1,Rat.zero_mul],cT (k:=mv.length) λj _=>by rw[z2,Rat.zero_mul],cT λk _=>by rw[z3,wt]];grind
theorem Gu {R':LR9} {ps':List Nat} {a c a' c':Nat} (KF:nU mv pt a c) (KF':nU (mC mv pt F) pt a' c') (D8:mv.length<=8) (wm:∀xs∈mv,xs.length=mv.length) (wp:∀xs∈pt,xs.length=mv.length) (RR:bU (jD mv pt mv.length) mv.length R ps) (RR':bU (jD (mC mv pt F) pt (mC mv pt F).length) (mC mv pt F).length R' ps'):R'=R/\ps'=ps:=by
 have k1:=Cs KF D8 wm wp RR cf Gn (λa b ha hb=>xG (F:=F) ha hb)
 have k2:=Cs (mv:=mC mv pt F) (mv2:=mv) (f:=λk b=>-(bM F k b)) KF' (by rw[cf];exact D8) (λxs hx=>by rw[cf];exact Gn xs hx) (λxs hx=>by rw[cf];exact wp xs hx) RR' cf.symm (λxs hx=>by rw[cf];exact wm xs hx) (λa b ha hb=>by
  rw[cf] at ha hb;rw[xG ha hb]
  have:(bg pt.length λk=>bM pt k a*-(bM F k b))=-1*bg pt.length λk=>bM pt k a*bM F k b:=by
   rw[<- cg];exact aW λk _=>by grind
  rw[this];grind)
 rw[cf] at RR';refine RR'.uniq RR (λi hi=>dB.trans (λj hj=>RR.2.2.back j hj) (k1 _ i hi)) λi hi=>dB.trans (λj hj=>RR'.2.2.back j hj) (k2 _ i hi)
theorem Fv {a c:Nat} (KF:nU mv pt a c) (D8:mv.length<=8) (wm:∀xs∈mv,xs.length=mv.length) (wp:∀xs∈pt,xs.length=mv.length) (RR:bU (jD mv pt mv.length) mv.length R ps) {z:List Rat} (hz:z∈eE R ps mv.length) {k:Nat} (hk:k < pt.length):(bg mv.length λc=>bM pt k c*z.getD c 0)=0:=by
 obtain ⟨w,hw⟩:=(Dv KF D8 wm wp RR).1 k hk
 have e:(bg mv.length λc=>bM pt k c*z.getD c 0)=bg mv.length λc=>bg ps.length λs=>w s*(bM R s c*z.getD c 0):=aW λc _=>by
  rw[hw c,jZ,<- cg];exact aW λs _=>by grind
 rw[e,fX];refine cT λs hs=>?_
 rw[cg];obtain ⟨b,h1,h2,rfl⟩:=uV hz;have hs':s < R.length:=by rw[RR.1];exact hs
 have ws:=RR.2.1 _ (aN hs');have d:=Kd (C6 RR) h1 h2 (af hs') ws;rw[fU (by rw[ws];exact oO.symm),ws] at d
 have:(bg mv.length λc=>bM R s c*(GH R ps mv.length b).getD c 0)=0:=by
  refine Eq.trans (aW λc _=>?_) d;unfold bM;rw[aa (l:=R),af hs'];rfl
 rw[this,wt]
theorem Gs {a c:Nat} (KF:nU mv pt a c) (D8:mv.length<=8) (wm:∀xs∈mv,xs.length=mv.length) (wp:∀xs∈pt,xs.length=mv.length) (RR:bU (jD mv pt mv.length) mv.length R ps):dZ (eE R ps mv.length) (mC mv pt F) mv.length=dZ (eE R ps mv.length) mv mv.length:=by
 unfold dZ;refine dk λz hz=>?_
 have lz:=Di z hz;apply cz (by rw[ag,ag,cL,cL]);intro b h1 h2;rw[ag,cL] at h2
 have tb:∀A:LR9,(de A mv.length)[b]'(by rw[cL];exact h2)=A.map λxs=>xs.getD b 0:=λA=>by
  have:=tL (rows:=A) (n:=mv.length) h2;rw[af (by rw[cL];exact h2)] at this;exact bp this
 rw[cP,cP,tb,tb,fU (by rw[ag,cf,lz]),fU (by rw[ag,lz]),ag,ag,cf]
 have e:(bg mv.length λc=>((mC mv pt F).map λxs=>xs.getD b 0).getD c 0*z.getD c 0)=bg mv.length λc=>(mv.map λxs=>xs.getD b 0).getD c 0*z.getD c 0+bg pt.length λk=>bM F k b*(bM pt k c*z.getD c 0):=aW λc hc=>by
  rw[zT,zT,xG hc h2]
  have:(bg pt.length λk=>bM F k b*(bM pt k c*z.getD c 0))=z.getD c 0*bg pt.length λk=>bM pt k c*bM F k b:=by
   rw[<- cg];exact aW λk _=>by grind
  rw[this];grind
 rw[e,iT,fX,cT (k:=pt.length) λk hk=>by rw[cg,Fv KF D8 wm wp RR hz hk,wt],rM]
end
def pQ (mv pt lk F:LR9) (M1 M2 M3 E V1 V0 a c n0:Nat):Prop:=0 < M1/\0 < M2/\0 < M3/\0 < E/\GF M1 V1 mv/\GF M2 V1 pt/\GF M3 V1 lk/\GF E V0 F/\M1<=2^80/\M2<=2^80/\M3<=2^80/\E<=2^80/\V1<=2^20/\V0<=2^10/\M1*(M2*E)<=2^a/\(n0+4)*(V1+4*(V1*V0))<=2^c/\mv.length<=n0/\n0<=5/\a<=200/\c<=40/\n0*(n0*(a+c)+4)<=1740/\n0*(n0*(n0*(a+c)+4)+a+c+4)<=8900
section
variable {mv pt lk F:LR9} {M1 M2 M3 E V1 V0 a c n0 n:Nat}
theorem qq {rows:LR9} {M V i j:Nat} (h:GF M V rows):Fr M V (bM rows i j):=by
 unfold bM;rw[aa (l:=rows)];cases ei:rows[i]? with
 | none=>show Fr M V (([]:List Rat).getD j 0);exact Fr.zero
 | some xs =>
  show Fr M V (xs.getD j 0)
  rw[aa];cases ej:xs[j]? with
  | none=>exact Fr.zero
  | some y=>exact h xs (ak ei) y (ak ej)
theorem ET {M V m:Nat} {f:Nat->Rat} (h:∀k,k < m->Fr M V (f k)) (hm:m<=4):Fr M (4*V) (bg m f):=by
 have key:∀k,k<=m->Fr M (k*V) (bg k f):=by
  intro k
  induction k with
  | zero=>intro _;rw[Nat.zero_mul];exact Fr.zero
  | succ k ih =>
   intro hk;rw[rN];exact (ih (by lia)).add (h k (by lia))
 exact (key m (au _)).mono (aG _ hm)
theorem pQ.gf (h:pQ mv pt lk F M1 M2 M3 E V1 V0 a c n0) (i4:pt.length<=4):GF (M1*(M2*E)) (V1+4*(V1*V0)) (mC mv pt F)/\GF (M1*(M2*E)) (V1+4*(V1*V0)) mv/\GF (M1*(M2*E)) (V1+4*(V1*V0)) pt:=by
 obtain ⟨a1,a2,a3,a4,f1,f2,f3,f4,_⟩:=h;refine ⟨λxs hx x hx'=>?_,λxs hx x hx'=>((f1 xs hx x hx').dvd (fO _ _)).mono (by lia),λxs hx x hx'=>((f2 xs hx x hx').dvd (pR (fO _ _) (cy _ _))).mono (by lia)⟩;obtain ⟨i,_,rfl⟩:=ay.mp hx;obtain ⟨j,_,rfl⟩:=ay.mp hx';refine ((qq f1).dvd (fO _ _)).add (ET (λk _=>?_) i4);exact ((qq f2).mul (qq f4)).dvd (cy _ _)
theorem pQ.v (h:pQ mv pt lk F M1 M2 M3 E V1 V0 a c n0):V1+4*(V1*V0)<=2^c/\V1+4*(V1*V0)<=2^40/\M1*(M2*E)*M3<=2^280/\0 < M1*(M2*E):=by
 obtain ⟨a1,a2,a3,a4,_,_,_,_,b1,b2,b3,b4,_,_,ha,hc,_,_,a200,c40,_⟩:=h;have:V1+4*(V1*V0)<=2^c:=ai (cN _ (by lia)) hc;refine ⟨this,ai this (ah (by decide) c40),ai (mul_pow ha b3) (ah (by decide) (by lia)),dr a1 (dr a2 a4)⟩
theorem pQ.kf (h:pQ mv pt lk F M1 M2 M3 E V1 V0 a c n0) (i4:pt.length<=4):nU mv pt a c/\nU (mC mv pt F) pt a c:=by
 obtain ⟨g1,g2,g3⟩:=h.gf i4;obtain ⟨v1,v2,v3,v4⟩:=h.v;obtain ⟨_,_,_,_,_,_,_,_,_,_,_,_,_,_,ha,hc,ln,_,a200,c40,k1,k2⟩:=id h;have hv:(n0+1)*(V1+4*(V1*V0))<=2^c:=ai (aG _ (by lia)) hc;exact ⟨Dw v4 ha ln hv g2 g3 ⟨by lia,by lia,k1,k2⟩,Dw v4 ha (by rw[cf];exact ln) hv g1 g3 ⟨by lia,by lia,k1,k2⟩⟩
theorem pQ.sfc (h:pQ mv pt lk F M1 M2 M3 E V1 V0 a c n0) (i4:pt.length<=4):Jr mv pt lk/\Jr (mC mv pt F) pt lk:=by
 obtain ⟨g1,g2,g3⟩:=h.gf i4;obtain ⟨v1,v2,v3,v4⟩:=h.v;obtain ⟨_,_,a3,_,_,_,f3,_⟩:=id h;have up:∀l,GF (M1*(M2*E)) (V1+4*(V1*V0)) l->GF (M1*(M2*E)*M3) (V1+4*(V1*V0)) l:=λl g xs hx x hx'=>(g xs hx x hx').dvd (fO _ _)
 have gl:GF (M1*(M2*E)*M3) (V1+4*(V1*V0)) lk:=λxs hx x hx'=>((f3 xs hx x hx').dvd (cy _ _)).mono (by lia)
 have m4:M1*(M2*E)*M3<=2^400:=ai v3 (ah (by decide) (by decide));have v12:V1+4*(V1*V0)<=2^120:=ai v2 (ah (by decide) (by decide));exact ⟨⟨_,_,dr v4 a3,m4,v12,up _ g2,up _ g3,gl⟩,⟨_,_,dr v4 a3,m4,v12,up _ g1,up _ g3,gl⟩⟩
theorem pQ.sysd (D:mI mv pt lk):mI (mC mv pt F) pt lk:=⟨by rw[cf];exact D.n8,D.i4,D.o4,λxs hx=>by rw[cf];exact Gn xs hx,λxs hx=>by rw[cf];exact D.pw xs hx,λxs hx=>by rw[cf];exact D.lw xs hx⟩
structure LS (mv pt lk F:LR9):Prop where
 f2:∀xs∈de pt mv.length,∀ys∈de F mv.length,vY ys xs
 sm:∀xs∈mv,∀x∈xs,pX x
 st:∀xs∈dZ (de pt mv.length) F mv.length,∀x∈xs,pX x
 sp:∀k i,pX (bM pt k i)
 sf:∀k b,pX (bM F k b)
 sq:∀k i b,pX (bM pt k i*bM F k b)
 sj:∀j i b,j<=pt.length->pX (bM mv i b+bg j λk=>bM pt k i*bM F k b)
 ok:vP (mC mv pt F) pt lk
theorem Gk {M V:Nat} (M0:0 < M) (M1':M<=2^300) (Vb:V<=2^41) (gm:GF M V mv) (gp:GF M V pt) (gF:GF M V F) (i4:pt.length<=4) (lF:F.length=pt.length) (ok:vP (mC mv pt F) pt lk):LS mv pt lk F:=by
 have q:∀k i b,Fr (M*M) (V*V) (bM pt k i*bM F k b):=λk i b=>(qq gp).mul (qq gF)
 have MM:M*M<=2^600:=ai (mul_pow M1' M1') (ah (by decide) (by decide));have VV:V*V<=2^82:=ai (mul_pow Vb Vb) (ah (by decide) (by decide));have s1:∀x,Fr M V x->pX x:=λx h=>tw M0 M1' Vb (by decide) h
 have s2:∀x,Fr (M*M) (2^90) x->pX x:=λx h=>tw (dr M0 M0) MM (au _) (by decide) h
 have V9:V+4*(V*V)<=2^90:=by
  have e:(2:Nat)^90=2^8*2^82:=by rw[<- bX]
  have:(2:Nat)^41<=2^82:=ah (by decide) (by decide)
  lia
 refine ⟨λxs hx ys hy=>⟨300,41,300,41,⟨M,V,M0,M1',Vb,λy hy'=>tK gF ys hy y hy'⟩,⟨M,V,M0,M1',Vb,λy hy'=>tK gp xs hx y hy'⟩,by decide⟩,λxs hx x hx'=>s1 x (gm xs hx x hx'),λxs hx x hx'=>?_,λk i=>s1 _ (qq gp),λk b=>s1 _ (qq gF),λk i b=>s2 _ ((q k i b).mono (by lia)),λj i b hj=>s2 _ ?_,ok⟩
 ·obtain ⟨z,hz,rfl⟩:=ay.mp hx;obtain ⟨y,hy,rfl⟩:=ay.mp hx';have ly:=nY y hy;have lz:=nY z hz;have:=Ac (M:=M) (V:=V) (D:=M) (B:=V) (xs:=y) (ys:=z) (by rw[ly,lz,lF]) (λx hx=>tK gF y hy x hx) (λx hx=>tK gp z hz x hx);refine s2 _ (this.mono ?_);rw[ly,lF];exact ai (aG _ i4) (by lia)
 ·exact (((qq gm).dvd (fO M M)).add (ET (λk _=>q k i b) (by lia))).mono V9
end
theorem vC:∀{ps:List Nat},Paired (λj x=>x=V.int ((j:Nat):Int)) ps (dh ps)
 | []=>.nil
 | _ :: _=>.cons rfl vC
inductive wM (K:FG9) (vs:List V) (H:Hp) (Q:VK) (E9:XK):Prop
 | mk (p q:Addr) (w:Nat) (H0 H1:Hp) (one other:LR9):vs=[.ref p,.ref q,.int w]->bu K H0 H p one->bu K H1 H q other->one.length<=1000->other.length<=1000->w<=1000->((∀xs∈one,xs.length=other.length/\∀ys∈de other w,vY ys xs))->(∀xs∈other,xs.length=w)->(∀r H',H r=none->aH H H'->bu K H H' r (dZ one other w)->Q (.ref r) H')->wM K vs H Q E9
inductive vz (K:FG9) (C:Addr) (vs:List V) (H:Hp) (Q:VK) (E9:XK):Prop
 | mk (x p:Addr) (H0 H1:Hp) (mv pt lk F:LR9):vs=[.ref x,.ref p]->ks K H0 H C x mv pt lk->mI mv pt lk->bu K H1 H p F->F.length=pt.length->(∀xs∈F,xs.length=mv.length)->LS mv pt lk F->(∀r H',H r=none->aH H H'->ks K H H' C r (mC mv pt F) pt lk->Q (.ref r) H')->vz K C vs H Q E9
inductive wH (K:FG9) (C:Addr) (vs:List V) (H:Hp) (Q:VK) (E9:XK):Prop
 | mk (x p:Addr) (H0 H1:Hp) (mv pt lk N:LR9):vs=[.ref x,.ref p]->ks K H0 H C x mv pt lk->mI mv pt lk->bu K H1 H p N->N.length<=100->((∀xs∈N,xs.length=mv.length/\∀ys∈de mv mv.length,vY ys xs))->(∀r H',H r=none->aH H H'->bu K H H' r (dZ N mv mv.length)->Q (.ref r) H')->wH K C vs H Q E9
def BR (mv R:LR9) (ps:List Nat):LR9:=(dZ (eE R ps mv.length) mv mv.length).map λrow=>(By ps mv.length).map λpl=>row.getD pl 0
inductive yv (K:FG9) (C:Addr) (vs:List V) (H:Hp) (Q:VK) (E9:XK):Prop
 | mk (x:Addr) (a c:Nat) (H0:Hp) (mv pt lk:LR9):vs=[.ref x]->ks K H0 H C x mv pt lk->mI mv pt lk->nU mv pt a c->(∀t r q R ps H',H' t=some (.tup [.ref r,.ref q])->aH H H'->bu K H H' r (eE R ps mv.length)->bu K H H' q (BR mv R ps)->bU (jD mv pt mv.length) mv.length R ps->Q (.ref t) H')->yv K C vs H Q E9
inductive tS (K:FG9) (vs:List V) (H:Hp) (Q:VK) (E9:XK):Prop
 | mk (r p m pp l:Addr) (H0 H1 H2:Hp) (mv pt lk F:LR9):vs=[.ref r,.ref p]->H r=some (.tup [.ref m,.ref pp,.ref l])->bu K H0 H m mv->bu K H2 H pp pt->mI mv pt lk->bu K H1 H p F->F.length=pt.length->(∀xs∈F,xs.length=mv.length)->LS mv pt lk F->(∀t m2 H',aH H H'->H' t=some (.tup [.ref m2,.ref pp,.ref l])->H m2=none->bu K H H' m2 (mC mv pt F)->Q (.ref t) H')->tS K vs H Q E9
inductive yE (K:FG9) (C:Addr) (vs:List V) (H:Hp) (Q:VK) (E9:XK):Prop
 | mk (x r:Addr) (H0 H1:Hp) (mv pt lk:LR9):vs=[.ref x,.ref r]->ks K H0 H C x mv pt lk->jz K H1 H r mv pt lk->mI mv pt lk->(∀H',aH H H'->Q (.bl true) H')->yE K C vs H Q E9
section
variable {mv pt lk F:LR9} {n i o w c f:Nat}
theorem Lv:2520*(2520*2520)<=2^34/\(5+4)*(9^3*9+4*(9^3*9*9))<=2^22/\(2+4)*(9^3*9+4*(9^3*9*2^10))<=2^28/\(2+4)*(9^3*2^10+4*(9^3*2^10*2^10))<=2^35/\9^3*2^10<=2^20:=by decide
theorem DK (PG:PtG n i o w c mv pt lk) (lm:mv.length=n) (n5:n<=5) (i4:i<=4) (o4:o<=4) (hw:w<=9\/(n<=2/\c=10)) (hf:f=9\/(f=1000/\n<=2)) (lF:F.length=i) (wF:∀xs∈F,xs.length=n/\∀x∈xs,Dr (max f 6) x):∃M1 M2 M3 E V1 V0 a c n0,pQ mv pt lk F M1 M2 M3 E V1 V0 a c n0:=by
 obtain ⟨t1,t2,t3,t4,t5⟩:=Lv;have up9:f=9->GF 2520 9 F:=λe xs hx x hx'=>Ab (by have:=(wF xs hx).2 x hx';rw[e] at this;exact this) (DT _)
 have upk:f=1000->n<=2->∃E,0 < E/\E<=2^80/\GF E (2^10) F:=λe n2=>by
  obtain ⟨M,m0,m1,m2⟩:=zH (c:=10) (n:=n) (rows:=F) λqs hq=>⟨(wF qs hq).1,λy hy=>by
   have:=(wF qs hq).2 y hy;rw[e] at this;exact ⟨ai this.1 (by decide),ai this.2 (by decide)⟩⟩
  refine ⟨M,m0,ai m1 (ah (by decide) ?_),m2⟩;have:F.length*n<=4*2:=aR (by lia) n2
  lia
 obtain ⟨M1,M2,M3,V1,a1,a2,a3,f1,f2,f3,hcs⟩:=PG;rcases hcs with ⟨w9,rfl,rfl,rfl,rfl⟩ | ⟨w9,e1,e2,e3,rfl⟩
 ·rcases hf with rfl | ⟨rfl,n2⟩
  ·exact ⟨2520,2520,2520,2520,9^3*9,9,34,22,5,by decide,by decide,by decide,by decide,f1,f2,f3,up9 rfl,by decide,by decide,by decide,by decide,by decide,by decide,t1,t2,by lia,by decide,by decide,by decide,by decide,by decide⟩
  ·obtain ⟨E,E0,E1,E2⟩:=upk rfl n2;refine ⟨2520,2520,2520,E,9^3*9,2^10,104,28,2,by decide,by decide,by decide,E0,f1,f2,f3,E2,by decide,by decide,by decide,E1,by decide,by decide,?_,t3,by lia,by decide,by decide,by decide,by decide,by decide⟩;exact ai (mul_pow (c:=12) (by decide) (mul_pow (c:=12) (by decide) E1)) (ah (by decide) (by decide))
 ·rcases hw with hw | ⟨n2,rfl⟩
  ·lia
  ·have b1:M1<=2^40:=ai e1 (ah (by decide) (by have:n*n<=2*2:=aR n2 n2;lia));have b2:M2<=2^80:=ai e2 (ah (by decide) (by have:i*n<=4*2:=aR i4 n2;lia));have b3:M3<=2^80:=ai e3 (ah (by decide) (by have:o*n<=4*2:=aR o4 n2;lia))
   obtain ⟨E,E0,E1,E2⟩:∃E,0 < E/\E<=2^80/\GF E (2^10) F:=by
    rcases hf with rfl | ⟨rfl,_⟩
    ·exact ⟨2520,by decide,by decide,λxs hx x hx'=>(up9 rfl xs hx x hx').mono (by decide)⟩
    ·exact upk rfl n2
   refine ⟨M1,M2,M3,E,9^3*2^10,2^10,200,35,2,a1,a2,a3,E0,f1,f2,f3,E2,ai b1 (ah (by decide) (by decide)),b2,b3,E1,t5,au _,?_,t4,by lia,by decide,by decide,by decide,by decide,by decide⟩;exact ai (mul_pow b1 (mul_pow b2 E1)) (ah (by decide) (by decide))
variable {M1 M2 M3 E V1 V0 a n0:Nat}
theorem pQ.cls (h:pQ mv pt lk F M1 M2 M3 E V1 V0 a c n0) (i4:pt.length<=4) (lF:F.length=pt.length):LS mv pt lk F:=by
 obtain ⟨g1,g2,g3⟩:=h.gf i4;obtain ⟨v1,v2,v3,v4⟩:=h.v;have ok:=(h.sfc i4).2.sf;obtain ⟨_,_,_,_,_,_,_,f4,_,_,_,_,_,v0,ha,_,_,_,a200,_⟩:=id h;have e41:(2:Nat)^41=2*2^40:=by rw[h7,cC]
 have e10:(2:Nat)^10<=2^40:=ah (by decide) (by decide);exact Gk (M:=M1*(M2*E)) (V:=V1+4*(V1*V0)+V0) v4 (ai ha (ah (by decide) (by lia))) (by lia) (λxs hx x hx'=>(g2 xs hx x hx').mono (by lia)) (λxs hx x hx'=>(g3 xs hx x hx').mono (by lia)) (λxs hx x hx'=>((f4 xs hx x hx').dvd (pR (cy _ _) (cy _ _))).mono (by lia)) i4 lF ok
theorem pQ.cls2 {F2:LR9} (h:pQ mv pt lk F M1 M2 M3 E V1 V0 a c n0) (i4:pt.length<=4) (lF:F2.length=pt.length) (g:GF E V0 F2) (hb:mC (mC mv pt F) pt F2=mv):LS (mC mv pt F) pt lk F2:=by
 obtain ⟨g1,g2,g3⟩:=h.gf i4;obtain ⟨v1,v2,v3,v4⟩:=h.v;have ok:=(h.sfc i4).1.sf;obtain ⟨_,_,_,_,_,_,_,f4,_,_,_,_,_,v0,ha,_,_,_,a200,_⟩:=id h;have e41:(2:Nat)^41=2*2^40:=by rw[h7,cC]
 have e10:(2:Nat)^10<=2^40:=ah (by decide) (by decide);exact Gk (M:=M1*(M2*E)) (V:=V1+4*(V1*V0)+V0) v4 (ai ha (ah (by decide) (by lia))) (by lia) (λxs hx x hx'=>(g1 xs hx x hx').mono (by lia)) (λxs hx x hx'=>(g3 xs hx x hx').mono (by lia)) (λxs hx x hx'=>((g xs hx x hx').dvd (pR (cy _ _) (cy _ _))).mono (by lia)) i4 lF (by rw[hb];exact ok)
def IM (t:Nat) (st:List Rat):Prop:=∃B,0 < B/\B<=2^(200*t+40)/\2520∣B/\∀x∈st,Fr B (2^(60*t+10)) x
theorem JG {st:List Rat} (hf:f=9\/(f=1000/\st.length<=2)) (h:∀x∈st,Dr (max f 6) x):IM 0 st:=by
 obtain ⟨E,V,e0,e1,e2,e3⟩:=Mb hf h;exact ⟨2520*E,by lia,ai (mul_pow (c:=12) (by decide) e1) (ah (by decide) (by decide)),fO _ _,λx hx=>((e3 x hx).dvd (cy _ _)).mono e2⟩
theorem pQ.step {st pu:List Rat} {t:Nat} (h:pQ mv pt lk F M1 M2 M3 E V1 V0 a c n0) (D:mI mv pt lk) (lF:F.length=pt.length) (wF:∀xs∈F,xs.length=mv.length) (ls:st.length=mv.length) (lu:pu.length=pt.length) (hu:∀x∈pu,Dr 9 x) (ht:t<=4) (S:IM t st):Mp mv pt st (List.zipWith (λx y=>x+y) pu (F.map λxs=>cY xs st))/\ow 1500 1800 (st++pu)/\(∀xs∈F,vY xs st)/\(∀xs∈lk,vY xs st)/\(∀x∈pu,pX x)/\(∀x∈F.map λxs=>cY xs st,pX x)/\IM (t+1) (fD mv pt st (List.zipWith (λx y=>x+y) pu (F.map λxs=>cY xs st))):=by
 obtain ⟨g1,g2,g3⟩:=h.gf D.i4;obtain ⟨v1,v2,v3,v4⟩:=h.v;obtain ⟨a1,a2,a3,a4,f1,f2,f3,f4,b1,b2,b3,b4,w1,w0,ha,hc,ln,n05,a200,c40,_⟩:=id h;obtain ⟨B,B0,B1,B2,B3⟩:=S;have pw:(2:Nat)^(60*t+10)<=2^(60*t+24):=ah (by decide) (by lia);have e24:(2:Nat)^(60*t+24)=2^14*2^(60*t+10):=by rw[<- bX];congr 1;lia
 have p1:=eJ (n:=60*t+10);have fu:∀x∈pu,Fr B 9 x:=λx hx=>(Ab (hu x hx) (DT _)).dvd B2
 have fd:∀x∈F.map (λxs=>cY xs st),Fr (E*B) (5*(2^10*2^(60*t+10))) x:=λx hx=>by
  obtain ⟨xs,hxs,rfl⟩:=ay.mp hx;have:=Ac (M:=E) (V:=V0) (by rw[ls,wF xs hxs]) (f4 xs hxs) B3;refine this.mono (aR (by rw[wF xs hxs];lia) (aG _ w0))
 have EB:E*B<=2^(80+(200*t+40)):=mul_pow b4 B1
 have fz:∀x∈List.zipWith (λx y=>x+y) pu (F.map λxs=>cY xs st),Fr (E*B) (2^(60*t+24)) x:=λx hx=>by
  obtain ⟨i,hi,rfl⟩:=gM hx;rw[fP];exact (((fu _ (aN _)).dvd (cy _ _)).add (fd _ (aN _))).mono (by lia)
 have lz:(List.zipWith (λx y=>x+y) pu (F.map λxs=>cY xs st)).length=pt.length:=by rw[bC,ag,lF,lu,nI]
 have bd:Bd mv pt (M1*(M2*E)) M2 (V1+4*(V1*V0)) a 80 c:=⟨v4,a2,ha,b2,g2,λxs hx x hx'=>(f2 xs hx x hx').mono (by lia),ai (aG _ (by lia)) hc⟩;obtain ⟨nx,fm⟩:=bd.next D ls lz B0 (Np:=E*B) (p:=60*t+24) (ν:=200*t+40) ⟨M1,by rw[dI,cC M1,dI M2 E B]⟩ (λx hx=>(B3 x hx).mono pw) fz B1 (by lia) (by lia);have q15:B<=2^1500:=ai B1 (ah (by decide) (by lia));have fs:ow 900 300 st:=⟨B,_,B0,ai B1 (ah (by decide) (by lia)),ah (by decide) (by lia),B3⟩;refine ⟨nx,⟨B,2^1800,B0,q15,au _,λx hx=>?_⟩,λxs hx=>⟨80,10,900,300,⟨E,V0,a4,b4,w0,f4 xs hx⟩,fs,by decide⟩,λxs hx=>⟨80,20,900,300,⟨M3,V1,a3,b3,w1,f3 xs hx⟩,fs,by decide⟩,λx hx=>tw B0 (a:=900) (b:=300) (ai B1 (ah (by decide) (by lia))) (ai (show 9<=2^4 by decide) (ah (by decide) (by decide))) (by decide) (fu x hx),λx hx=>tw (dr a4 B0) (a:=1000) (b:=300) (ai EB (ah (by decide) (by lia))) ?_ (by decide) (fd x hx),⟨M1*(M2*E)*B,dr v4 B0,?_,pR B2 (cy _ _),λx hx=>(fm x hx).mono (ah (by decide) (by lia))⟩⟩
 ·rcases aI.mp hx with hx | hx
  ·exact (B3 x hx).mono (ah (by decide) (by lia))
  ·exact (fu x hx).mono (ai (show 9<=2^4 by decide) (ah (by decide) (by decide)))
 ·have:5*(2^10*2^(60*t+10))<=2^(60*t+24):=by lia
  exact ai this (ah (by decide) (by lia))
 ·exact ai (mul_pow ha B1) (ah (by decide) (by lia))
end
end L2
open L2
local macro_rules | `(tactic| walk_at "hl") => `(tactic| first | (show _ ≤ sizeLine; with_unfolding_all decide) | (with_unfolding_all exact (by decide)))
local macro_rules | `(tactic| walk_at "sq") => `(tactic| first | with_reducible assumption | with_reducible exact rH.of (by assumption) | with_reducible exact bI.of (by assumption) | with_reducible exact rH.of aF | with_reducible exact bI.of aF | assumption)
local macro_rules | `(tactic| walk_at "sc") => `(tactic| first | (with_reducible show (0 : Int) < _; decide) | with_reducible exact IE (by decide) (by decide) | with_reducible exact DI (by decide) (by decide) | with_reducible exact cpow_of (by decide) (by decide) (by decide))
local macro_rules | `(tactic| walk_at "rd") => `(tactic| first
  | with_reducible refine JM ?_
  | with_reducible refine HK ?_
  | with_reducible refine J0 ?_
  | with_reducible refine Fd ?_
  | ((with_reducible refine' JJ ?hx1 ?_); (case hx1 => with_unfolding_all rfl))
  | with_reducible refine Mc ?_
  | with_reducible refine Lk ?_
  | with_reducible refine Ln ?_
  | with_reducible refine Ld ?_
  | with_reducible refine Md ?_
  | with_reducible refine JZ ?_
  | with_reducible refine JR ?_
  | with_reducible refine rd_eqS ?_
  | with_reducible refine rd_neS ?_
  | with_reducible refine rd_eqB ?_
  | with_reducible refine rd_neB ?_
  | with_reducible refine HN ?_
  | with_reducible refine Cc ?_
  | with_reducible refine JY ?_
  | with_reducible refine HH ?_
  | with_reducible refine HL ?_
  | with_reducible refine HM ?_
  | with_reducible refine Fc ?_
  | with_reducible refine HG ?_
  | with_reducible refine Le ?_
  | with_reducible refine JN ?_
  | with_reducible refine rd_retN ?_
  | with_reducible refine JV ?_
  | with_reducible refine J5 ?_
  | with_reducible refine Lh ?_
  | with_reducible refine JP ?_
  | with_reducible refine HZ ?_
  | with_reducible refine rd_orV ?_
  | with_reducible refine HJ ?_
  | with_reducible refine JW ?_
  | with_reducible refine JI ?_
  | with_reducible refine Kl ?_
  | with_reducible refine LC ?_
  | with_reducible refine LD ?_
  | with_reducible refine LF ?_
  | with_reducible refine Jc ?_
  | with_reducible refine JQ ?_
  | with_reducible refine HV ?_
  | with_reducible refine JK ?_
  | with_reducible refine JS ?_
  | with_reducible refine HX ?_
  | with_reducible refine Ll ?_
  | with_reducible refine HU ?_
  | with_reducible refine JO ?_
  | with_reducible refine HY ?_
  | ((with_reducible refine' rd_aug ?hx1 ?_); (case hx1 => with_unfolding_all rfl))
  | with_reducible refine JU ?_
  | with_reducible refine HQ ?_
  | with_reducible refine Fe ?_
  | with_reducible refine HR ?_
  | with_reducible refine Lf ?_
  | with_reducible refine D5 ?_
  | with_reducible refine HI ?_
  | with_reducible refine JX ?_
  | with_reducible refine Fb ?_
  | with_reducible refine rd_iTup ?_
  | with_reducible refine E8 ?_
  | with_reducible refine E7 ?_
  | ((with_reducible refine' HW ?hx1 ?_); (case hx1 => with_unfolding_all rfl))
  | with_reducible refine HF ?_
  | with_reducible refine Lm ?_
  | with_reducible refine rd_bm0 ?_
  | with_reducible refine rd_brk ?_
  | ((with_reducible refine' HP ?hx1 ?hx2 ?_); (case hx1 => walk_at "sq"); (case hx2 => with_unfolding_all rfl))
  | with_reducible refine rd_cont ?_
  | ((with_reducible refine' fQ ?hx1 ?_); (case hx1 => walk_at "sc"))
  | ((with_reducible refine' JT ?hx1 ?hx2 ?_); (case hx1 => walk_at "sq"); (case hx2 => with_unfolding_all rfl))
  | ((with_reducible refine' b9 ?hx1 ?hx2 ?_); (case hx1 => walk_at "sq"); (case hx2 => with_unfolding_all rfl))
  | ((with_reducible refine' HS ?hx1 ?hx2 ?_); (case hx1 => walk_at "sq"); (case hx2 => with_unfolding_all rfl))
  | ((with_reducible refine' eB ?hx1 ?hx2 ?hx3 ?_); (case hx1 => with_reducible first | assumption | exact aF); (case hx2 => with_unfolding_all rfl); (case hx3 => with_unfolding_all rfl))
  | with_reducible refine ⟨_, rfl, ?_⟩
  | with_reducible refine ⟨_, _, rfl, ?_⟩)
local macro_rules | `(tactic| walk_at "w") => `(tactic| repeat walk_at "rd")
local macro_rules | `(tactic| walk_at "d") => `(tactic| exact ⟨rfl,rfl,rfl,by decide +kernel,rfl,by decide +kernel,by decide +kernel⟩)
namespace Lw
open PySem PySem.Spec PyProof.Rows L2 Nm
set_option maxHeartbeats 4000000
def top (i:Nat):Stmt:=PySem.Challenge.pw_helmsum_k81_closed.main.body.getD i (.Pass ⟨0,0,0,0⟩)
abbrev ju:Stmt:=top 56
abbrev iw:Stmt:=top 57
abbrev eQ:Stmt:=top 74
abbrev js:Stmt:=top 58
abbrev fo:Stmt:=top 63
abbrev jr:Stmt:=top 64
abbrev iE:Stmt:=top 71
abbrev jq:Stmt:=top 59
abbrev iC:Stmt:=top 66
abbrev iB:Stmt:=top 61
abbrev lO:Stmt:=top 67
abbrev gA:Stmt:=top 72
abbrev gv:Stmt:=top 73
abbrev il:Stmt:=top 31
abbrev jo:Stmt:=top 9
abbrev dz:Stmt:=top 10
abbrev iu:Stmt:=top 12
abbrev oa:Stmt:=top 17
abbrev fk:Stmt:=top 32
abbrev dg:Stmt:=inClass (top 33) 0
abbrev fq:Stmt:=top 75
abbrev iF:Stmt:=top 76
abbrev fh:Stmt:=top 25
abbrev df:Stmt:=top 11
abbrev dP:Stmt:=top 19
abbrev ir:Stmt:=top 20
abbrev n9:Stmt:=top 13
abbrev lG:Stmt:=top 21
abbrev lK:Stmt:=top 24
abbrev gh:Stmt:=top 26
abbrev uS:Stmt:=top 14
abbrev jm:Stmt:=top 18
abbrev og:Stmt:=top 35
abbrev ft:Stmt:=top 79
abbrev iG:Stmt:=top 80
abbrev jt:Stmt:=top 65
abbrev lM:Stmt:=top 77
abbrev iD:Stmt:=top 78
abbrev eD:Stmt:=inClass (top 33) 1
abbrev fv:Stmt:=inClass (top 33) 2
abbrev gi:Stmt:=top 40
abbrev lL:Stmt:=top 42
abbrev gs:Stmt:=top 41
abbrev qO:Stmt:=top 43
abbrev lH:Stmt:=top 44
abbrev gg:Stmt:=top 49
abbrev fg:Stmt:=top 50
abbrev fZ:Stmt:=top 51
abbrev jl:Stmt:=top 22
abbrev dO:Stmt:=top 37
abbrev lJ:Stmt:=top 38
abbrev qQ:Stmt:=top 15
abbrev lI:Stmt:=top 46
abbrev fj:Stmt:=top 39
abbrev qP:Stmt:=top 47
abbrev fY:Stmt:=top 53
abbrev iq:Stmt:=top 54
abbrev yJ:Stmt:=top 81
set_option genInjectivity false in
set_option genSizeOf false in
structure Ads where
 pF:Addr
 o6:FuncData
 nv:Addr
 mV:FuncData
 lh:Addr
 kR:FuncData
 pC:Addr
 o3:FuncData
 jT:Addr
 jI:FuncData
 pB:Addr
 oZ:FuncData
 nD:Addr
 mZ:FuncData
 pA:Addr
 oY:FuncData
 nB:Addr
 mX:FuncData
 nA:Addr
 mW:FuncData
 rG:Addr
 rh:FuncData
 lB:Addr
 kT:FuncData
 lA:Addr
 kS:FuncData
 ng:Addr
 mR:FuncData
 pz:Addr
 oX:FuncData
 gK:Addr
 gG:FuncData
 nk:Addr
 mU:FuncData
 uI:Addr
 uv:FuncData
 jS:Addr
 jH:FuncData
 fN:Addr
 fK:FuncData
 jU:Addr
 jJ:FuncData
 nE:Addr
 m5:FuncData
 jQ:Addr
 jF:FuncData
 fM:Addr
 fJ:FuncData
 hZ:Addr
 gZ:FuncData
 ni:Addr
 mT:FuncData
 uH:Addr
 uu:FuncData
 rz:Addr
 qW:FuncData
 rD:Addr
 rd:FuncData
 kY:Addr
 kN:FuncData
 Ai:Addr
 Ad:FuncData
 pk:Addr
 oW:FuncData
 uJ:Addr
 uw:FuncData
 jV:Addr
 jK:FuncData
 nF:Addr
 m6:FuncData
 pE:Addr
 o5:FuncData
 rF:Addr
 rg:FuncData
 nC:Addr
 mY:FuncData
 jf:Addr
 jd:FuncData
 jW:Addr
 jL:FuncData
 kZ:Addr
 kO:FuncData
 rE:Addr
 rf:FuncData
 lg:Addr
 kQ:FuncData
 we:Addr
 v8:FuncData
 rA:Addr
 qX:FuncData
 kX:Addr
 kM:FuncData
 jP:Addr
 jE:FuncData
 kW:Addr
 kL:FuncData
 ph:Addr
 oV:FuncData
 hX:Addr
 gY:FuncData
 rC:Addr
 qZ:FuncData
 wo:Addr
 wb:FuncData
 rB:Addr
 qY:FuncData
 jR:Addr
 jG:FuncData
 wg:Addr
 v9:FuncData
 kU:Addr
 kK:FuncData
 nh:Addr
 mS:FuncData
 GC:Addr
 Gf:FuncData
 a_NOUGHT:Addr
 a_ONE:Addr
 t_MOST_STATES:Tok
 t_MOST_PUTS:Tok
 t_MOST_LOOKS:Tok
 a_System:Addr
structure Txt (K:W.Frag) (mg:Str->Option Value) (Z:Ads):Prop where
 vI:mg "_law_bag"=some (.ref Z.pF)
 xP:Binds K Z.o6 ["_law_script"] []
 tI:ik K "_law_bag" "_law_bag" ju Z.pF Z.o6
 bw:mg "_law_take"=some (.ref Z.nv)
 bH:Binds K Z.mV ["_law_bag_here","_law_many"] []
 bF:ik K "_law_take" "_law_take" iw Z.nv Z.mV
 sk:mg "_law_sizes"=some (.ref Z.lh)
 uE:Binds K Z.kR ["_law_bag_here"] []
 pN:ik K "_law_sizes" "_law_sizes" eQ Z.lh Z.kR
 j9:mg "_law_low"=some (.ref Z.pC)
 mE:Binds K Z.o3 ["_law_top","_law_bottom"] []
 jC:ik K "_law_low" "_law_low" js Z.pC Z.o3
 qi:mg "_law_number"=some (.ref Z.jT)
 sI:Binds K Z.jI ["_law_bag_here","_law_wide"] []
 nW:ik K "_law_number" "_law_number" fo Z.jT Z.jI
 eH:mg "_law_row"=some (.ref Z.pB)
 fV:Binds K Z.oZ ["_law_bag_here","_law_many","_law_wide"] []
 eY:ik K "_law_row" "_law_row" jr Z.pB Z.oZ
 t8:mg "_law_move"=some (.ref Z.nD)
 vN:Binds K Z.mZ ["_law_bag_here","_law_n","_law_way","_law_first","_law_wide"] []
 qJ:ik K "_law_move" "_law_move" iE Z.nD Z.mZ
 j8:mg "_law_sum"=some (.ref Z.pA)
 mD:Binds K Z.oY ["_law_one","_law_other"] []
 jB:ik K "_law_sum" "_law_sum" jq Z.pA Z.oY
 jc:mg "_law_plus"=some (.ref Z.nB)
 ke:Binds K Z.mX ["_law_one","_law_other"] []
 iN:ik K "_law_plus" "_law_plus" iC Z.nB Z.mX
 jb:mg "_law_prod"=some (.ref Z.nA)
 kd:Binds K Z.mW ["_law_one","_law_other"] []
 iM:ik K "_law_prod" "_law_prod" iB Z.nA Z.mW
 oS:mg "_law_by"=some (.ref Z.rG)
 rn:Binds K Z.rh ["_law_by_here","_law_row_here"] []
 oB:ik K "_law_by" "_law_by" lO Z.rG Z.rh
 sF:mg "_law_mixed"=some (.ref Z.lB)
 uG:Binds K Z.kT ["_law_bag_here","_law_move_here","_law_put","_law_look"] []
 pP:ik K "_law_mixed" "_law_mixed" gA Z.lB Z.kT
 so:mg "_law_parts"=some (.ref Z.lA)
 uF:Binds K Z.kS ["_law_bag_here","_law_n","_law_ins","_law_outs","_law_wide"] []
 pO:ik K "_law_parts" "_law_parts" gv Z.lA Z.kS
 kI:mg "want_list"=some (.ref Z.ng)
 m7:Binds K Z.mR ["thing","at","most"] []
 kh:ik K "want_list" "want_list" il Z.ng Z.mR
 qh:mg "is_whole"=some (.ref Z.pz)
 tD:Binds K Z.oX ["thing"] []
 pK:ik K "is_whole" "is_whole" jo Z.pz Z.oX
 fI:mg "common_divisor"=some (.ref Z.gK)
 gJ:Binds K Z.gG ["one","other"] []
 eG:ik K "common_divisor" "common_divisor" dz Z.gK Z.gG
 tZ:mg "is_number"=some (.ref Z.nk)
 vL:Binds K Z.mU ["thing"] []
 qH:ik K "is_number" "is_number" iu Z.nk Z.mU
 yS:mg "is_row"=some (.ref Z.uI)
 BH:Binds K Z.uv ["thing","many"] []
 xT:ik K "is_row" "is_row" oa Z.uI Z.uv
 ja:mg "copied_rows"=some (.ref Z.jS)
 jO:Binds K Z.jH ["things","wide"] []
 gW:ik K "copied_rows" "copied_rows" fk Z.jS Z.jH
 je:Binds K Z.fK ["self","move","put","look"] []
 nH:ik K "__init__" "System.__init__" dg Z.fN Z.fK
 eF:mg "_law_copied"=some (.ref Z.jU)
 fA:Binds K Z.jJ ["_law_grid"] []
 ee:ik K "_law_copied" "_law_copied" fq Z.jU Z.jJ
 t9:mg "_law_made"=some (.ref Z.nE)
 vO:Binds K Z.m5 ["_law_parts_here"] []
 qK:ik K "_law_made" "_law_made" iF Z.nE Z.m5
 i8:mg "grid_turned"=some (.ref Z.jQ)
 jN:Binds K Z.jF ["grid","wide"] []
 gV:ik K "grid_turned" "grid_turned" fh Z.jQ Z.jF
 my:mg "common_multiple"=some (.ref Z.fM)
 m9:Binds K Z.fJ ["wholes"] []
 jh:ik K "common_multiple" "common_multiple" df Z.fM Z.fJ
 gE:mg "common_bottom"=some (.ref Z.hZ)
 g8:Binds K Z.gZ ["row"] []
 fe:ik K "common_bottom" "common_bottom" dP Z.hZ Z.gZ
 kJ:mg "tops_over"=some (.ref Z.ni)
 m8:Binds K Z.mT ["row","bottom"] []
 kj:ik K "tops_over" "tops_over" ir Z.ni Z.mT
 oi:mg "lowest"=some (.ref Z.uH)
 qC:Binds K Z.uu ["top","bottom"] []
 ox:ik K "lowest" "lowest" n9 Z.uH Z.uu
 sZ:mg "row_dot"=some (.ref Z.rz)
 vg:Binds K Z.qW ["one","other"] []
 rJ:ik K "row_dot" "row_dot" lG Z.rz Z.qW
 oQ:mg "grid_on"=some (.ref Z.rD)
 rj:Binds K Z.rd ["grid","row"] []
 oy:ik K "grid_on" "grid_on" lK Z.rD Z.rd
 nP:mg "grid_times"=some (.ref Z.kY)
 pe:Binds K Z.kN ["one","other","wide"] []
 lC:ik K "grid_times" "grid_times" gh Z.kY Z.kN
 Dp:mg "plus"=some (.ref Z.Ai)
 GB:Binds K Z.Ad ["one","other"] []
 CO:ik K "plus" "plus" uS Z.Ai Z.Ad
 vG:mg "row_plus"=some (.ref Z.pk)
 xN:Binds K Z.oW ["one","other"] []
 tG:ik K "row_plus" "row_plus" jm Z.pk Z.oW
 oq:mg "closed"=some (.ref Z.uJ)
 qD:Binds K Z.uw ["system","rows"] []
 oz:ik K "closed" "closed" og Z.uJ Z.uw
 mB:mg "_law_closed"=some (.ref Z.jV)
 nR:Binds K Z.jK ["_law_parts_here","_law_rows"] []
 jY:ik K "_law_closed" "_law_closed" ft Z.jV Z.jK
 eT:mg "_law_like"=some (.ref Z.nF)
 fW:Binds K Z.m6 ["_law_system","_law_parts_here"] []
 eI:ik K "_law_like" "_law_like" iG Z.nF Z.m6
 vH:mg "_law_dot"=some (.ref Z.pE)
 xO:Binds K Z.o5 ["_law_one","_law_other"] []
 tH:ik K "_law_dot" "_law_dot" jt Z.pE Z.o5
 oR:mg "_law_on"=some (.ref Z.rF)
 rk:Binds K Z.rg ["_law_grid","_law_row_here"] []
 oA:ik K "_law_on" "_law_on" lM Z.rF Z.rg
 t7:mg "_law_next"=some (.ref Z.nC)
 vM:Binds K Z.mY ["_law_parts_here","_law_state","_law_puts"] []
 qI:ik K "_law_next" "_law_next" iD Z.nC Z.mY
 pT:IQ K Z.a_System "moved" Z.jf
 qE:Binds K Z.jd ["self","state","puts"] []
 qL:ik K "moved" "System.moved" eD Z.jf Z.jd
 qj:IQ K Z.a_System "seen" Z.jW
 sJ:Binds K Z.jL ["self","state"] []
 sN:ik K "seen" "System.seen" fv Z.jW Z.jL
 rZ:mg "first_with"=some (.ref Z.kZ)
 uC:Binds K Z.kO ["lines","begin","place"] []
 pL:ik K "first_with" "first_with" gi Z.kZ Z.kO
 xv:mg "cleared"=some (.ref Z.rE)
 zf:Binds K Z.rf ["lines","at","place","before"] []
 vp:ik K "cleared" "cleared" lL Z.rE Z.rf
 si:mg "brought_up"=some (.ref Z.lg)
 uD:Binds K Z.kQ ["lines","at","to"] []
 pM:ik K "brought_up" "brought_up" gs Z.lg Z.kQ
 Bc:mg "swept"=some (.ref Z.we)
 DL:Binds K Z.v8 ["rows","wide"] []
 Al:ik K "swept" "swept" qO Z.we Z.v8
 td:mg "reduced"=some (.ref Z.rA)
 vh:Binds K Z.qX ["rows","wide"] []
 rK:ik K "reduced" "reduced" lH Z.rA Z.qX
 rY:mg "moved_rows"=some (.ref Z.kX)
 uB:Binds K Z.kM ["system","rows"] []
 pJ:ik K "moved_rows" "moved_rows" gg Z.kX Z.kM
 qg:mg "reach_grown"=some (.ref Z.jP)
 sH:Binds K Z.jE ["system","steps"] []
 nV:ik K "reach_grown" "reach_grown" fg Z.jP Z.jE
 rX:mg "reach_rows"=some (.ref Z.kW)
 uA:Binds K Z.kL ["system","steps"] []
 pI:ik K "reach_rows" "reach_rows" fZ Z.kW Z.kL
 vF:mg "unit_row"=some (.ref Z.ph)
 xM:Binds K Z.oV ["many","at"] []
 tF:ik K "unit_row" "unit_row" jl Z.ph Z.oV
 oj:mg "leading_place"=some (.ref Z.hX)
 pU:Binds K Z.gY ["row"] []
 kx:ik K "leading_place" "leading_place" dO Z.hX Z.gY
 tj:mg "leading"=some (.ref Z.rC)
 vm:Binds K Z.qZ ["rows"] []
 rL:ik K "leading" "leading" lJ Z.rC Z.qZ
 Bg:mg "minus"=some (.ref Z.wo)
 DN:Binds K Z.wb ["one","other"] []
 An:ik K "minus" "minus" qQ Z.wo Z.wb
 xu:mg "null_at"=some (.ref Z.rB)
 ze:Binds K Z.qY ["rows","wide","at"] []
 vo:ik K "null_at" "null_at" lI Z.rB Z.qY
 mo:mg "free_places"=some (.ref Z.jR)
 nQ:Binds K Z.jG ["rows","wide"] []
 jX:ik K "free_places" "free_places" fj Z.jR Z.jG
 Be:mg "nulls"=some (.ref Z.wg)
 DM:Binds K Z.v9 ["rows","wide"] []
 Am:ik K "nulls" "nulls" qP Z.wg Z.v9
 rW:mg "taken_over"=some (.ref Z.kU)
 uz:Binds K Z.kK ["system","rows"] []
 pH:ik K "taken_over" "taken_over" fY Z.kU Z.kK
 oP:mg "unsteered"=some (.ref Z.nh)
 qB:Binds K Z.mS ["system"] []
 nG:ik K "unsteered" "unsteered" iq Z.nh Z.mS
 Ju:ik K "law" "law" yJ Z.GC Z.Gf
 abs:mg "abs"=none
 len:mg "len"=none
 min:mg "min"=none
 range:mg "range"=none
 int:mg "int"=none
 isinstance:mg "isinstance"=none
 list:mg "list"=none
 bool:mg "bool"=none
 tuple:mg "tuple"=none
 all:mg "all"=none
 enumerate:mg "enumerate"=none
 zip:mg "zip"=none
 sum:mg "sum"=none
 mg_NOUGHT:mg "NOUGHT"=some (.ref Z.a_NOUGHT)
 sq_NOUGHT:∀H,rH K H Z.a_NOUGHT [.int 0,.int 1]
 mg_ONE:mg "ONE"=some (.ref Z.a_ONE)
 sq_ONE:∀H,rH K H Z.a_ONE [.int 1,.int 1]
 mg_MOST_STATES:mg "MOST_STATES"=some (.int 8 Z.t_MOST_STATES)
 mg_MOST_PUTS:mg "MOST_PUTS"=some (.int 4 Z.t_MOST_PUTS)
 mg_MOST_LOOKS:mg "MOST_LOOKS"=some (.int 4 Z.t_MOST_LOOKS)
 mg_System:mg "System"=some (.ref Z.a_System)
 cl_System:EC K Z.a_System
 na_move:jg K Z.a_System "move"
 na_states:jg K Z.a_System "states"
 na_put:jg K Z.a_System "put"
 na_ins:jg K Z.a_System "ins"
 na_look:jg K Z.a_System "look"
 na_outs:jg K Z.a_System "outs"
 mk_System:Mk K Z.a_System Z.fN
 ty_System:(∀{H:Hp} {a dx:Addr} {fs:List (Str×V)},H a=some (.ins Z.a_System dx fs)->tE K H (.ref a) (.ref Z.a_System))/\W.kitOne K (.ref Z.a_System) (.ref Z.a_System)=some true
section
variable {P:Program} {w:World} {K:W.Frag} {mg:Str->Option Value} {base:Heap} {Z:Ads}
theorem AQ:aX ["_law_script"] ["_law_script"] (aw ju):=by walk_at "d"
theorem A6 (T:Txt K mg Z):cw P w K mg base gX 1 Z.pF Z.o6 ["_law_script"] (EY K):=by
 refine T.tI.ok AQ (λvs H Q E h=>?_) (λcdv A outer s H vs Q E hr h=>?_)
 ·obtain ⟨a,ns,rfl,_⟩:=h;rfl
 ·obtain ⟨a,ns,rfl,hS,hlen,k⟩:=h;refine ⟨_,(ax (bf (iY (ae ao (ae ao (ae ao (ae (ck ["_law_cell"] [] [] (cG (A0 C4 (pv 0) C9 (C8 ao))) (λ_=>(aK (i:=0) (show List.Nodup (α:=PySem.Str) ["_law_cell"] by decide +kernel))) (λ_=>cu) (λ_=>(bS xJ (by rfl) T.abs PyProof.Rows.boot_abs (ae (pv 0) aj)))) aj))))))),?_⟩;refine aL (σ:=[some (.ref a)]) rfl ?_;walk_at "w";refine ⟨a,_,rfl,hS,λl hl=>?_⟩;have hcl:(ux (ns.map V.int) none (some 63)).length<=63:=ai (vK _ _ _) (by simpa using hlen);refine ⟨l,rfl,⟨_,bI.of aF⟩,?_⟩;refine fw (K:=K) (a:=l) (xs:=ux (ns.map V.int) none (some 63)) (λi ys H'=>H'=upd H l (.lst (ux (ns.map V.int) none (some 63)))/\∃cs:List Int,ys=cs.map V.int/\∀x∈cs,0<=x) (ai hcl (by decide)) ⟨rfl,[],rfl,λ_ z=>nomatch z⟩ (λi ys H' _ ⟨e,_⟩=>by subst e;exact bI.of aF) ?_ ?_
  ·rintro i x ys H' hx hi ⟨rfl,cs,rfl,hcs⟩
   obtain ⟨z,rfl⟩:∃z,x=V.int z:=by
    have hm:x∈ns.map V.int:=List.mem_of_mem_drop (cm (ak hx));obtain ⟨z,_,e⟩:=ay.mp hm;exact ⟨z,e.symm⟩
   walk_at "w";refine ⟨rfl,cs++[if z < 0 then -z else z],by simp,λx hx=>?_⟩;rcases aI.mp hx with hx | hx
   ·exact hcs x hx
   ·have e:x=if z < 0 then -z else z:=by simpa using hx
    subst e
    split <;> lia
  ·rintro ys H' hy ⟨rfl,cs,rfl,hcs⟩ p hp;walk_at "w";refine ⟨by show 4<=sizeLine;decide,λb hb=>?_⟩;have n1:b≠p:=λz=>by rw[z,aF] at hb;cases hb
   have hb1:(upd H l (.lst (ux (ns.map V.int) none (some 63)))) b=none:=by rw[aU n1] at hb;exact hb
   have s1:aH H (upd H l (.lst (ux (ns.map V.int) none (some 63)))):=aH.new hl;refine k b _ (s1.free hb1) ⟨p,0,1234567891,0,cs,aF,by rw[aU n1.symm];exact aF,by decide,by decide,by lia,hcs⟩ ((s1.trans (aH.new hp)).trans (aH.new hb))
theorem eO:aX ["_law_bag_here","_law_many","_law_more","_law_cell","_law_value","_law_first","_law_second"] ["_law_bag_here","_law_many"] (aw iw):=by walk_at "d"
theorem bP (T:Txt K mg Z):cw P w K mg base gX 1 Z.nv Z.mV ["_law_bag_here","_law_many"] G7:=by
 refine T.bF.ok eO (λvs H Q E h=>?_) (λcdv A outer s H vs Q E hr h=>?_)
 ·obtain ⟨p,n,rfl,_⟩:=h;rfl
 ·obtain ⟨p,n,rfl,⟨q,a,b,c,cs,hp,hq,ha,hc,hcl,hcs⟩,hn,hn2,k⟩:=h;have nqp:q≠p:=Ex hp hq
  refine ⟨_,(gC (dc (bq gN (be bK (pv 0) ao) ao (bA _)) (av (aY (i:=2) eO.nd rfl (Or.inl rfl) ao)
   (gC (dc (bq rT (be bK (pv 0) ao) (bS bB (by rfl) T.len bx (ae (be bK (pv 0) ao) aj)) (bA _)) (av (aY (i:=3) eO.nd rfl (Or.inl rfl) (be bK (be bK (pv 0) ao) (be bK (pv 0) ao)))
   (av (Ic (pv 0) ao FO ao Km set_list)
   (av (dc (bq yQ (pv 3) ao (bA _)) (ax (fB (pv 3) (gR (pv 0) ao set_list))) bV)
   (ax (aY (i:=2) eO.nd rfl (Or.inl rfl) (bN ig (bN nN (pv 3) ao) ao)))))) bV)
   (ax (fB (bN nN (bN ig (bN cS (be bK (pv 0) ao) ao) (pv 2)) ao) (gR (pv 0) ao set_list))))) bV)
   (av (dc (bq yP (be bK (pv 0) ao) ao (bA _)) (av (aY (i:=4) eO.nd rfl (Or.inl rfl) (bN nN (be bK (pv 0) ao) (pv 1)))
   (av (fB (bN iZ (be bK (pv 0) ao) (pv 1)) (gR (pv 0) ao set_list))
   (ax (bf (pv 4))))) bV)
   (av (aY (i:=5) eO.nd rfl (Or.inl rfl) (bN nN (bN cS (be bK (pv 0) ao) ao) ao))
   (av (aY (i:=6) eO.nd rfl (Or.inl rfl) (bN nN (bN cS (pv 5) ao) ao))
   (av (dc (bq yP (pv 1) ao (bA _)) (ax (bf (bN nN (bN ig (bN cS (pv 6) ao) (pv 5)) (pv 1)))) bV)
   (ax (bf (bN nN (bN iZ (pv 6) ao) (pv 1))))))))),?_⟩
  refine aL (σ:=[some (.ref p),some (.int n),none,none,none,none,none]) rfl ?_;refine ⟨λσ' H'=>∃(x y:Option V) (a' b' c':Int),σ'=[some (.ref p),some (.int n),x,y,none,none,none]/\H' p=some (.lst [.int a',.int b',.int c',.ref q])/\0<=a'/\0<=c'/\c'<=cs.length/\cB p H H',?_,?_⟩
  ·walk_at "w";refine iP (λh0=>?_) (λh0=>?_)
   ·walk_at "w";refine ⟨λσ' H'=>∃(m:Int) (y:Option V) (a' c':Int),σ'=[some (.ref p),some (.int n),some (.int m),y,none,none,none]/\H' p=some (.lst [.int a',.int b,.int c',.ref q])/\0<=a'/\0<=c'/\c'<=cs.length/\cB p H H',?_,?_⟩
    ·walk_at "w";refine ⟨_,_,rfl,.inl (bI.of hq),?_⟩;walk_at "w";refine iP (λh1=>?_) (λh1=>?_)
     ·have h1':c < cs.length:=by simpa using of_decide_eq_true h1
      obtain ⟨z,hz⟩:∃z,cs[c.toNat]?=some z:=⟨_,af (by lia)⟩;have hz0:0<=z:=hcs z (ak hz);walk_at "w";refine b9 (bI.of hq) (v:=.int z) ?_ ?_
      ·have:=eX (xs:=cs.map V.int) (j:=c.toNat) (v:=.int z) (by rw[az,hz];rfl);rwa [Int.toNat_of_nonneg hc] at this
      walk_at "w";refine iP (λh2=>?_) (λh2=>?_)
      ·walk_at "w";exact ⟨_,_,z,c+1,rfl,aF,hz0,by lia,by lia,(cB.set hp).trans (cB.set aF)⟩
      ·walk_at "w";exact ⟨_,_,a,c+1,rfl,aF,ha,by lia,by lia,cB.set hp⟩
     ·walk_at "w";exact ⟨_,_,a,c,rfl,hp,ha,hc,hcl,cB.refl _⟩
    ·rintro σ' H' ⟨m,y,a',c',rfl,hp',ha',hc',hcl',u'⟩;walk_at "w";exact ⟨_,_,a',_,c',rfl,aF,ha',hc',hcl',u'.trans (cB.set hp')⟩
   ·walk_at "w";exact ⟨_,_,a,b,c,rfl,hp,ha,hc,hcl,cB.refl _⟩
  ·rintro σ' H' ⟨x,y,a',b',c',rfl,hp',ha',hc',hcl',u'⟩;have hq':H' q=some (.lst (cs.map V.int)):=u'.1 q _ hq nqp
   have sn:Sz 8999 n:=by
    show n.natAbs < 2^8999
    exact aZ (show n.natAbs < 2^64 by lia) (ah (by decide) (by decide))
   walk_at "w";refine iP (λh0=>?_) (λh0=>?_)
   ·walk_at "w";refine fQ (show (0:Int) < n from hn) ?_;walk_at "w";refine fQ (show pW _ _ from ⟨by lia,sn⟩) ?_;walk_at "w";refine k _ _ (lD _ (by lia)) (h9 _ hn) ⟨q,_,b',c',cs,aF,by rw[aU nqp];exact hq',?_,hc',hcl',hcs⟩ (u'.trans (cB.set hp'));rw[bW _ (by lia)];exact Int.ediv_nonneg ha' (by lia)
   ·walk_at "w";refine iP (λh1=>?_) (λh1=>?_)
    ·walk_at "w";refine fQ (show (0:Int) < n from hn) ?_;exact k _ _ (lD _ (by lia)) (h9 _ hn) ⟨q,a',b',c',cs,hp',hq',ha',hc',hcl',hcs⟩ u'
    ·walk_at "w";refine fQ (show pW _ _ from ⟨by decide,by show (3:Nat) < 2^8999;exact aZ (show 3 < 2^2 by decide) (ah (by decide) (by decide))⟩) ?_;walk_at "w";refine fQ (show (0:Int) < n from hn) ?_;exact k _ _ (lD _ (by lia)) (h9 _ hn) ⟨q,a',b',c',cs,hp',hq',ha',hc',hcl',hcs⟩ u'
theorem yo:∃x1 x2 x3 x4 x5 x6 x7 x8 x9 x10 x11 x12 x13 x14 x15 x16:Expr,x1=(Expr.Constant (Const.int 0) 0 ⟨307,16,307,17⟩)/\x2=(Expr.Constant (Const.int 1) 0 ⟨307,19,307,20⟩)/\x3=(Expr.Constant (Const.int 1) 0 ⟨307,22,307,23⟩)/\x4=(Expr.Constant (Const.int 1) 0 ⟨307,25,307,26⟩)/\x5=(Expr.Constant (Const.int 2) 0 ⟨307,28,307,29⟩)/\x6=(Expr.Constant (Const.int 2) 0 ⟨307,31,307,32⟩)/\x7=(Expr.Constant (Const.int 3) 0 ⟨307,34,307,35⟩)/\x8=(Expr.Constant (Const.int 4) 0 ⟨307,37,307,38⟩)/\x9=(Expr.Constant (Const.int 0) 0 ⟨308,17,308,18⟩)/\x10=(Expr.Constant (Const.int 1) 0 ⟨308,20,308,21⟩)/\x11=(Expr.Constant (Const.int 1) 0 ⟨308,23,308,24⟩)/\x12=(Expr.Constant (Const.int 1) 0 ⟨308,26,308,27⟩)/\x13=(Expr.Constant (Const.int 2) 0 ⟨308,29,308,30⟩)/\x14=(Expr.Constant (Const.int 2) 0 ⟨308,32,308,33⟩)/\x15=(Expr.Constant (Const.int 3) 0 ⟨308,35,308,36⟩)/\x16=(Expr.Constant (Const.int 4) 0 ⟨308,38,308,39⟩)/\aQ eQ=[ (Stmt.Assign (targets:=[(Expr.Name "_law_n" ⟨304,4,304,10⟩)]) (value:=(Expr.Call (func:=(Expr.Name "_law_take" ⟨304,13,304,22⟩)) (args:=[ (Expr.Name "_law_bag_here" ⟨304,23,304,36⟩),(Expr.Constant (Const.int 5) 0 ⟨304,38,304,39⟩)]) (keywords:=[]) (pos:=⟨304,13,304,40⟩))) (pos:=⟨304,4,304,40⟩)),(Stmt.If (test:=(Expr.Compare (left:=(Expr.Call (func:=(Expr.Name "_law_take" ⟨305,7,305,16⟩)) (args:=[ (Expr.Name "_law_bag_here" ⟨305,17,305,30⟩),(Expr.Constant (Const.int 8) 0 ⟨305,32,305,33⟩)]) (keywords:=[]) (pos:=⟨305,7,305,34⟩))) (ops:=[PySem.CmpOp.Eq]) (comparators:=[(Expr.Constant (Const.int 7) 0 ⟨305,38,305,39⟩)]) (pos:=⟨305,7,305,39⟩))) (body:=[ (Stmt.Assign (targets:=[(Expr.Name "_law_n" ⟨306,8,306,14⟩)]) (value:=(Expr.Constant (Const.int 5) 0 ⟨306,17,306,18⟩)) (pos:=⟨306,8,306,18⟩))]) (orelse:=[]) (pos:=⟨305,4,306,18⟩)),(Stmt.Assign (targets:=[(Expr.Name "_law_ins" ⟨307,4,307,12⟩)]) (value:=(Expr.Subscript (value:=(Expr.List (elts:=[x1,x2,x3,x4,x5,x6,x7,x8]) (pos:=⟨307,15,307,39⟩))) (slice:=(Expr.Call (func:=(Expr.Name "_law_take" ⟨307,40,307,49⟩)) (args:=[ (Expr.Name "_law_bag_here" ⟨307,50,307,63⟩),(Expr.Constant (Const.int 8) 0 ⟨307,65,307,66⟩)]) (keywords:=[]) (pos:=⟨307,40,307,67⟩))) (pos:=⟨307,15,307,68⟩))) (pos:=⟨307,4,307,68⟩)),(Stmt.Assign (targets:=[(Expr.Name "_law_outs" ⟨308,4,308,13⟩)]) (value:=(Expr.Subscript (value:=(Expr.List (elts:=[x9,x10,x11,x12,x13,x14,x15,x16]) (pos:=⟨308,16,308,40⟩))) (slice:=(Expr.Call (func:=(Expr.Name "_law_take" ⟨308,41,308,50⟩)) (args:=[ (Expr.Name "_law_bag_here" ⟨308,51,308,64⟩),(Expr.Constant (Const.int 8) 0 ⟨308,66,308,67⟩)]) (keywords:=[]) (pos:=⟨308,41,308,68⟩))) (pos:=⟨308,16,308,69⟩))) (pos:=⟨308,4,308,69⟩)),(Stmt.If (test:=(Expr.Compare (left:=(Expr.Name "_law_n" ⟨309,7,309,13⟩)) (ops:=[PySem.CmpOp.Eq]) (comparators:=[(Expr.Constant (Const.int 5) 0 ⟨309,17,309,18⟩)]) (pos:=⟨309,7,309,18⟩))) (body:=[ (Stmt.Assign (targets:=[ (Expr.Tuple (elts:=[(Expr.Name "_law_ins" ⟨310,8,310,16⟩),(Expr.Name "_law_outs" ⟨310,18,310,27⟩)]) (k:=0) (pos:=⟨310,8,310,27⟩))]) (value:=(Expr.Tuple (elts:=[ (Expr.Call (func:=(Expr.Name "min" ⟨310,31,310,34⟩)) (args:=[ (Expr.Name "_law_ins" ⟨310,35,310,43⟩),(Expr.Constant (Const.int 2) 0 ⟨310,45,310,46⟩)]) (keywords:=[]) (pos:=⟨310,31,310,47⟩)),(Expr.Call (func:=(Expr.Name "min" ⟨310,49,310,52⟩)) (args:=[ (Expr.Name "_law_outs" ⟨310,53,310,62⟩),(Expr.Constant (Const.int 2) 0 ⟨310,64,310,65⟩)]) (keywords:=[]) (pos:=⟨310,49,310,66⟩))]) (k:=0) (pos:=⟨310,30,310,67⟩))) (pos:=⟨310,8,310,67⟩))]) (orelse:=[]) (pos:=⟨309,4,310,67⟩)),(Stmt.Assign (targets:=[(Expr.Name "_law_wide" ⟨311,4,311,13⟩)]) (value:=(Expr.Subscript (value:=(Expr.List (elts:=[ (Expr.Constant (Const.int 4) 0 ⟨311,17,311,18⟩),(Expr.Constant (Const.int 4) 0 ⟨311,20,311,21⟩),(Expr.Constant (Const.int 9) 0 ⟨311,23,311,24⟩),(Expr.Constant (Const.int 1000) 0 ⟨311,26,311,30⟩)]) (pos:=⟨311,16,311,31⟩))) (slice:=(Expr.Call (func:=(Expr.Name "_law_take" ⟨311,32,311,41⟩)) (args:=[ (Expr.Name "_law_bag_here" ⟨311,42,311,55⟩),(Expr.Constant (Const.int 4) 0 ⟨311,57,311,58⟩)]) (keywords:=[]) (pos:=⟨311,32,311,59⟩))) (pos:=⟨311,16,311,60⟩))) (pos:=⟨311,4,311,60⟩)),(Stmt.If (test:=(Expr.Compare (left:=(Expr.Name "_law_wide" ⟨312,7,312,16⟩)) (ops:=[PySem.CmpOp.Gt]) (comparators:=[(Expr.Constant (Const.int 9) 0 ⟨312,19,312,20⟩)]) (pos:=⟨312,7,312,20⟩))) (body:=[ (Stmt.Assign (targets:=[(Expr.Name "_law_n" ⟨313,8,313,14⟩)]) (value:=(Expr.Call (func:=(Expr.Name "min" ⟨313,17,313,20⟩)) (args:=[ (Expr.Name "_law_n" ⟨313,21,313,27⟩),(Expr.Constant (Const.int 2) 0 ⟨313,29,313,30⟩)]) (keywords:=[]) (pos:=⟨313,17,313,31⟩))) (pos:=⟨313,8,313,31⟩))]) (orelse:=[]) (pos:=⟨312,4,313,31⟩)),(Stmt.Return (value:=(some (Expr.Tuple (elts:=[ (Expr.Name "_law_n" ⟨314,12,314,18⟩),(Expr.Name "_law_ins" ⟨314,20,314,28⟩),(Expr.Name "_law_outs" ⟨314,30,314,39⟩),(Expr.Name "_law_wide" ⟨314,41,314,50⟩)]) (k:=0) (pos:=⟨314,11,314,51⟩)))) (pos:=⟨314,4,314,51⟩))]:=⟨_,_,_,_,_,_,_,_,_,_,_,_,_,_,_,_,rfl,rfl,rfl,rfl,rfl,rfl,rfl,rfl,rfl,rfl,rfl,rfl,rfl,rfl,rfl,rfl,by with_unfolding_all rfl⟩
theorem dy:aX ["_law_bag_here","_law_n","_law_ins","_law_outs","_law_wide"] ["_law_bag_here"] (aw eQ):=by walk_at "d"
theorem yl (T:Txt K mg Z):cw P w K mg base gX 2 Z.lh Z.kR ["_law_bag_here"] DZ:=by
 refine T.pN.ok dy (λvs H Q E h=>?_) (λcdv A outer s H vs Q E hr h=>?_)
 ·obtain ⟨b,rfl,_⟩:=h;rfl
 ·obtain ⟨b,rfl,hB,k⟩:=h;obtain ⟨x1,x2,x3,x4,x5,x6,x7,x8,x9,x10,x11,x12,x13,x14,x15,x16,hx1,hx2,hx3,hx4,hx5,hx6,hx7,hx8,hx9,hx10,hx11,hx12,hx13,hx14,hx15,hx16,hbd⟩:=yo;rw[hbd]
  refine ⟨_,(av (aY (i:=1) dy.nd rfl (Or.inl rfl) (cA (bP T) hr T.bw T.bF.kp T.bH (ae (pv 0) (ae ao aj))))
   (gC (dc (bq gN (cA (bP T) hr T.bw T.bF.kp T.bH (ae (pv 0) (ae ao aj))) ao (bA _)) (ax (aY (i:=1) dy.nd rfl (Or.inl rfl) ao)) bV)
   (av (aY (i:=2) dy.nd rfl (Or.inl rfl) (be bK (iY (dn hx1 ao (dn hx2 ao (dn hx3 ao (dn hx4 ao (dn hx5 ao (dn hx6 ao (dn hx7 ao (dn hx8 ao aj))))))))) (cA (bP T) hr T.bw T.bF.kp T.bH (ae (pv 0) (ae ao aj)))))
   (av (aY (i:=3) dy.nd rfl (Or.inl rfl) (be bK (iY (dn hx9 ao (dn hx10 ao (dn hx11 ao (dn hx12 ao (dn hx13 ao (dn hx14 ao (dn hx15 ao (dn hx16 ao aj))))))))) (cA (bP T) hr T.bw T.bF.kp T.bH (ae (pv 0) (ae ao aj)))))
   (gC (dc (bq gN (pv 1) ao (bA _)) (ax (Fg (i:=2) (j:=3) rfl dy.nd rfl rfl (by decide) rfl rfl (ae (bS (ve rfl) (by rfl) T.min PyProof.Rows.boot_min (ae (pv 2) (ae ao aj))) (ae (bS (ve rfl) (by rfl) T.min PyProof.Rows.boot_min (ae (pv 3) (ae ao aj))) aj)) rfl)) bV)
   (av (aY (i:=4) dy.nd rfl (Or.inl rfl) (be bK (iY (ae ao (ae ao (ae ao (ae ao aj))))) (cA (bP T) hr T.bw T.bF.kp T.bH (ae (pv 0) (ae ao aj)))))
   (gC (dc (bq yP (pv 4) ao (bA _)) (ax (aY (i:=1) dy.nd rfl (Or.inl rfl) (bS (ve rfl) (by rfl) T.min PyProof.Rows.boot_min (ae (pv 1) (ae ao aj))))) bV)
   (ax (bf (d5 (ae (pv 1) (ae (pv 2) (ae (pv 3) (ae (pv 4) aj)))))))))))))),?_⟩
  refine aL (σ:=[some (.ref b),none,none,none,none]) rfl ?_;walk_at "w";refine ⟨b,5,rfl,hB,by decide,by decide,λn H1 n0 n1 B1 u1=>?_⟩;obtain ⟨n,rfl⟩:=mG n0;walk_at "w";refine ⟨λσ' H'=>(∃n:Nat,σ'=[some (.ref b),some (.int n),none,none,none]/\n<=5)/\iQ H' b/\cB b H H',?_,?_⟩
  ·walk_at "w";refine ⟨b,8,rfl,B1,by decide,by decide,λv H2 v0 v1 B2 u2=>?_⟩;walk_at "w";refine iP (λ_=>?_) (λ_=>?_)
   ·walk_at "w";exact ⟨⟨5,rfl,by decide⟩,B2,u1.trans u2⟩
   ·walk_at "w";exact ⟨⟨n,rfl,by lia⟩,B2,u1.trans u2⟩
  clear n0 n1 u1 B1;rintro σ' H1 ⟨⟨n,rfl,n5⟩,B1,u1⟩;walk_at "w";refine gB λl0 H2 s2 n2 g2=>?_
  walk_at "w";refine ⟨b,8,rfl,B1.same s2,by decide,by decide,λv H3 v0 v1 B3 u3=>?_⟩;have g3:=u3.other (λz=>B1.at (by rw[<- z];exact n2)) g2;obtain ⟨x,ex,mx,_⟩:=qF (xs:=[V.int 0,V.int 1,V.int 1,V.int 1,V.int 2,V.int 2,V.int 3,V.int 4]) v0 (by simpa using v1)
  obtain ⟨i,rfl,hi⟩:∃z:Nat,x=.int z/\z<=4:=by
   simp only[aE,aS,or_false] at mx;rcases mx with rfl | rfl | rfl | rfl | rfl | rfl | rfl | rfl
   ·exact ⟨0,rfl,by decide⟩
   ·exact ⟨1,rfl,by decide⟩
   ·exact ⟨1,rfl,by decide⟩
   ·exact ⟨1,rfl,by decide⟩
   ·exact ⟨2,rfl,by decide⟩
   ·exact ⟨2,rfl,by decide⟩
   ·exact ⟨3,rfl,by decide⟩
   ·exact ⟨4,rfl,by decide⟩
  walk_at "w";refine b9 (bI.of g3) ex ?_;clear ex mx g3 g2;walk_at "w";refine gB λl1 H4 s4 n4 g4=>?_
  walk_at "w";refine ⟨b,8,rfl,B3.same s4,by decide,by decide,λt H5 t0 t1 B5 u5=>?_⟩;have g5:=u5.other (λz=>B3.at (by rw[<- z];exact n4)) g4;obtain ⟨x,ex,mx,_⟩:=qF (xs:=[V.int 0,V.int 1,V.int 1,V.int 1,V.int 2,V.int 2,V.int 3,V.int 4]) t0 (by simpa using t1)
  obtain ⟨o,rfl,ho⟩:∃z:Nat,x=.int z/\z<=4:=by
   simp only[aE,aS,or_false] at mx;rcases mx with rfl | rfl | rfl | rfl | rfl | rfl | rfl | rfl
   ·exact ⟨0,rfl,by decide⟩
   ·exact ⟨1,rfl,by decide⟩
   ·exact ⟨1,rfl,by decide⟩
   ·exact ⟨1,rfl,by decide⟩
   ·exact ⟨2,rfl,by decide⟩
   ·exact ⟨2,rfl,by decide⟩
   ·exact ⟨3,rfl,by decide⟩
   ·exact ⟨4,rfl,by decide⟩
  walk_at "w";refine b9 (bI.of g5) ex ?_;clear ex mx g5 g4;have u15:=(((u1.same s2).trans u3).same s4).trans u5;walk_at "w";refine ⟨λσ' H'=>(∃i o:Nat,σ'=[some (.ref b),some (.int n),some (.int i),some (.int o),none]/\i<=4/\o<=4/\(n=5->i<=2/\o<=2))/\iQ H' b/\cB b H H',?_,?_⟩
  ·walk_at "w";refine iP (λh0=>?_) (λh0=>?_)
   ·walk_at "w";refine ⟨⟨min i 2,min o 2,?_,by lia,by lia,λ_=>⟨by lia,by lia⟩⟩,B5,u15⟩;have e1:(if (2:Int) < (i:Int) then (2:Int) else (i:Int))=((min i 2:Nat):Int):=by split <;> lia
    have e2:(if (2:Int) < (o:Int) then (2:Int) else (o:Int))=((min o 2:Nat):Int):=by split <;> lia
    rw[<- e1,<- e2];rfl
   ·walk_at "w";exact ⟨⟨i,o,rfl,hi,ho,λz=>absurd (decide_eq_true (show (n:Int)=5 by lia)) h0⟩,B5,u15⟩
  clear hi ho u15 B5 u5 u3 u1;rintro σ' H5 ⟨⟨i,o,rfl,hi,ho,h5⟩,B5,u5⟩;walk_at "w";refine gB λl2 H6 s6 n6 g6=>?_
  walk_at "w";refine ⟨b,4,rfl,B5.same s6,by decide,by decide,λv H7 v0 v1 B7 u7=>?_⟩;have g7:=u7.other (λz=>B5.at (by rw[<- z];exact n6)) g6;obtain ⟨x,ex,mx,_⟩:=qF (xs:=[V.int 4,V.int 4,V.int 9,V.int 1000]) v0 (by simpa using v1)
  obtain ⟨w,rfl,hw⟩:∃w:Nat,x=.int w/\(w=4\/w=9\/w=1000):=by
   simp only[aE,aS,or_false] at mx;rcases mx with rfl | rfl | rfl | rfl
   ·exact ⟨4,rfl,.inl rfl⟩
   ·exact ⟨4,rfl,.inl rfl⟩
   ·exact ⟨9,rfl,.inr (.inl rfl)⟩
   ·exact ⟨1000,rfl,.inr (.inr rfl)⟩
  walk_at "w";refine b9 (bI.of g7) ex ?_;have u07:=(u5.same s6).trans u7;walk_at "w";refine ⟨λσ' H'=>(∃n:Nat,σ'=[some (.ref b),some (.int n),some (.int i),some (.int o),some (.int w)]/\n<=5/\(w=4\/w=9\/(w=1000/\n<=2))/\(n=5->i<=2/\o<=2))/\iQ H' b/\cB b H H',?_,?_⟩
  ·walk_at "w";refine iP (λh0=>?_) (λh0=>?_)
   ·walk_at "w";refine ⟨⟨min n 2,?_,by lia,by lia,λz=>by lia⟩,B7,u07⟩;have e1:(if (2:Int) < (n:Int) then (2:Int) else (n:Int))=((min n 2:Nat):Int):=by split <;> lia
    rw[<- e1];rfl
   ·walk_at "w";refine ⟨⟨n,rfl,n5,?_,h5⟩,B7,u07⟩;rcases hw with z | z | z
    ·exact .inl z
    ·exact .inr (.inl z)
    ·exact absurd (decide_eq_true (show (9:Int) < (w:Int) by lia)) h0
  ·clear h5 n5;rintro σ' H8 ⟨⟨n',rfl,n5,hwn,h5⟩,B8,u8⟩;walk_at "w";refine cF λr H9 s9 g9=>?_
   exact k r n' i o w H9 g9 n5 hi ho hwn h5 (B8.same s9) (u8.same s9)
theorem mJ:aX ["_law_top","_law_bottom","_law_one","_law_other"] ["_law_top","_law_bottom"] (aw js):=by walk_at "d"
theorem mP (T:Txt K mg Z):cw P w K mg base gX 1 Z.pC Z.o3 ["_law_top","_law_bottom"] JH:=by
 refine T.jC.ok mJ (λvs H Q E h=>?_) (λcdv A outer s H vs Q E hr h=>?_)
 ·obtain ⟨t,b,rfl,_⟩:=h;rfl
 ·obtain ⟨t,b,rfl,hb,hs,k⟩:=h
  refine ⟨_,(av (aY (i:=2) mJ.nd rfl (Or.inl rfl) (bS xJ (by rfl) T.abs PyProof.Rows.boot_abs (ae (pv 0) aj)))
   (av (aY (i:=3) mJ.nd rfl (Or.inl rfl) (pv 1))
   (av (wY PassesOwn.never (bq A2 (pv 2) ao (bA _))
    (ax (Fg (i:=2) (j:=3) rfl mJ.nd rfl rfl (by decide) rfl rfl (ae (bN nN (pv 3) (pv 2)) (ae (pv 2) aj)) rfl)))
   (ax (bf (d5 (ae (bN iZ (pv 0) (pv 3)) (ae (bN iZ (pv 1) (pv 3)) aj)))))))),?_⟩
  refine aL (σ:=[some (.int t),some (.int b),none,none]) rfl ?_;walk_at "w"
  refine zm (λσ' H'=>∃(u v:Int),σ'=[some (.int t),some (.int b),some (.int u),some (.int v)]/\H'=H/\0<=u/\0 < v/\Int.gcd u v=Int.gcd t b) (λσ' _=>match σ' with | [_,_,some (.int u),_]=>u.natAbs | _=>0) ⟨_,b,rfl,rfl,by split <;> lia,hb,by
   split
   ·rw[Int.neg_gcd]
   ·rfl⟩ ?_
  rintro σ' H' ⟨u,v,rfl,rfl,hu,hv,hg⟩;walk_at "w";refine iP (λh=>?_) (λh=>?_)
  ·have hu0:u≠0:=λz=>by subst z;simp at h
   walk_at "w";refine fQ (show (0:Int) < u by lia) ?_;walk_at "w";have h1:=lD v hu0;have h2:=h9 v (show 0 < u by lia);exact ⟨⟨v % u,u,rfl,rfl,h1,by lia,by rw[j6,FQ,j6];exact hg⟩,by show (v % u).natAbs < u.natAbs;lia⟩
  ·have hu0:u=0:=by
    by_cases z:u=0
    ·exact z
    ·exfalso;apply h;simp [z]
   subst hu0
   have e:v=g t b:=by
    unfold g;rw[<- hg,Int.gcd_zero_left]
    lia
   have hgs:Sz 8999 v:=hs.le (by
    rw[e];have h1:(g t b).natAbs=Int.gcd t b:=by unfold g;simp
    rw[h1];exact kz (by lia) (by have:=dX (a:=t) (b:=b);exact eZ.mpr this |> λz=>by simpa using z))
   walk_at "w";refine fQ (show pW _ _ from ⟨by lia,hgs⟩) ?_;walk_at "w";refine fQ (show pW _ _ from ⟨by lia,hgs⟩) ?_;walk_at "w";refine cF λr H' s' h'=>?_
   rw[bW _ (by lia),bW _ (by lia),e] at h';exact k r H' s' h'
theorem p7:aX ["_law_bag_here","_law_wide","_law_way"] ["_law_bag_here","_law_wide"] (aw fo):=by walk_at "d"
theorem xm (T:Txt K mg Z):cw P w K mg base gX 2 Z.jT Z.jI ["_law_bag_here","_law_wide"] (wK K):=by
 refine T.nW.ok p7 (λvs H Q E h=>?_) (λcdv A outer s H vs Q E hr h=>?_)
 ·obtain ⟨b,w,rfl,_⟩:=h;rfl
 ·obtain ⟨b,w,rfl,hB,w0,w1,k⟩:=h
  refine ⟨_,(av (aY (i:=2) p7.nd rfl (Or.inl rfl) (cA (bP T) hr T.bw T.bF.kp T.bH (ae (pv 0) (ae ao aj))))
   (av (dc (bq rT (pv 2) ao (bA _)) (ax (bf (d5 (ae ao (ae ao aj))))) bV)
   (av (dc (bq rT (pv 2) ao (bA _)) (ax (bf (d5 (ae (bN p9 (cA (bP T) hr T.bw T.bF.kp T.bH (ae (pv 0) (ae ao aj))) ao) (ae ao aj))))) bV)
   (av (dc (bq gN (pv 2) ao (bA _)) (ax (bf (cA (mP T) hr T.j9 T.jC.kp T.mE (ae (bN p9 (cA (bP T) hr T.bw T.bF.kp T.bH (ae (pv 0) (ae ao aj))) ao) (ae (bN ig ao (cA (bP T) hr T.bw T.bF.kp T.bH (ae (pv 0) (ae ao aj)))) aj))))) bV)
   (ax (bf (cA (mP T) hr T.j9 T.jC.kp T.mE (ae (bN p9 (cA (bP T) hr T.bw T.bF.kp T.bH (ae (pv 0) (ae (bN ig (bN cS ao (pv 1)) ao) aj))) (pv 1)) (ae (bN ig ao (cA (bP T) hr T.bw T.bF.kp T.bH (ae (pv 0) (ae (pv 1) aj)))) aj))))))))),?_⟩
  refine aL (σ:=[some (.ref b),some (.int w),none]) rfl ?_;walk_at "w";refine ⟨b,8,rfl,hB,by decide,by decide,λv H1 v0 v1 B1 u1=>?_⟩;walk_at "w";refine iP (λh0=>?_) (λh0=>?_)
  ·walk_at "w";refine cF λr H2 s2 g2=>?_
   exact k r 0 _ ⟨bo _,by show 1<=_;lia⟩ (b6.mk g2 rfl) (B1.same s2) (u1.same s2)
  walk_at "w";refine iP (λh1=>?_) (λh1=>?_)
  ·walk_at "w";refine ⟨b,7,rfl,B1,by decide,by decide,λa H2 a0 a1 B2 u2=>?_⟩;walk_at "w";refine cF λr H3 s3 g3=>?_
   exact k r ((a - 3:Int):Rat) _ ⟨by show (a - 3).natAbs<=_;lia,by show 1<=_;lia⟩ (b6.mk g3 rfl) (B2.same s3) ((u1.trans u2).same s3)
  walk_at "w";refine iP (λh2=>?_) (λh2=>?_)
  ·walk_at "w";refine ⟨b,13,rfl,B1,by decide,by decide,λa H2 a0 a1 B2 u2=>?_⟩;walk_at "w";refine ⟨b,6,rfl,B2,by decide,by decide,λc H3 c0 c1 B3 u3=>?_⟩;walk_at "w";refine ⟨_,_,rfl,by lia,(EN (by lia)).mono (by decide),λr H4 s4 g4=>?_⟩;obtain ⟨q,e,d,_⟩:=FA (t:=a - 6) (b:=1+c) (W:=max w 6) (by lia) (by lia) (by lia);exact k r q _ d (b6.mk g4 e) (B3.same s4) (((u1.trans u2).trans u3).same s4)
  walk_at "w";refine ⟨b,_,rfl,B1,by lia,by lia,λa H2 a0 a1 B2 u2=>?_⟩;walk_at "w";refine ⟨b,_,rfl,B2,by lia,by lia,λc H3 c0 c1 B3 u3=>?_⟩;walk_at "w";refine ⟨_,_,rfl,by lia,(EN (by lia)).mono (by decide),λr H4 s4 g4=>?_⟩;obtain ⟨q,e,d,_⟩:=FA (t:=a - w) (b:=1+c) (W:=max w 6) (by lia) (by lia) (by lia);exact k r q _ d (b6.mk g4 e) (B3.same s4) (((u1.trans u2).trans u3).same s4)
theorem AO:aX ["_law_bag_here","_law_many","_law_wide"] ["_law_bag_here","_law_many","_law_wide"] (aw jr):=by walk_at "d"
theorem iH (T:Txt K mg Z):cw P w K mg base gX 3 Z.pB Z.oZ ["_law_bag_here","_law_many","_law_wide"] (AI K):=by
 refine T.eY.ok AO (λvs H Q E h=>?_) (λcdv A outer s H vs Q E hr h=>?_)
 ·obtain ⟨b,m,w,rfl,_⟩:=h;rfl
 ·obtain ⟨b,m,w,rfl,hB,hm,w0,w1,k⟩:=h;refine ⟨_,(ax (bf (ck ["_law_k"] ["_law_bag_here","_law_wide"] [0,2] (cx rfl T.range (ae (pv 1) aj)) (λ_=>(aK (i:=0) (show List.Nodup (α:=PySem.Str) ["_law_k","_law_bag_here","_law_wide"] by decide +kernel))) (λ_=>cu) (λ_=>(cA (xm T) hr T.qi T.nW.kp T.sI (ae (pv 1) (ae (pv 2) aj))))))),?_⟩;refine aL (σ:=[some (.ref b),some (.int m),some (.int w)]) rfl ?_;walk_at "w";refine ⟨by lia,by lia,?_⟩;refine vd (n:=m) (b6 K) (Dr (max w 6)) hB hm (λa u B=>a.upto u B) ?_ ?_
  ·rintro i H' NY NN hi u B k1;walk_at "w";exact ⟨b,w,rfl,B,w0,w1,λr x H2 hx h2 B2 u2=>k1 _ x _ u2 B2 hx h2⟩
  ·rintro ys cs H' p hp u B g lc hc pr nx;exact k p cs H' hp ⟨ys,g,pr⟩ lc hc B u
theorem iW:aX ["_law_bag_here","_law_n","_law_way","_law_first","_law_wide","_law_move_here","_law_i","_law_row_here","_law_j"] ["_law_bag_here","_law_n","_law_way","_law_first","_law_wide"] (aw iE):=by walk_at "d"
theorem zR (T : Txt K mg Z) : cw P w K mg base gX 4 Z.nD Z.mZ ["_law_bag_here", "_law_n", "_law_way", "_law_first", "_law_wide"] (AE K) := by
  have pG := iH (P := P) (w := w) (base := base) T;have iL := bP (P := P) (w := w) (base := base) T;refine T.qJ.ok iW (λvs H Q E h => ?_) (λcdv A outer s H vs Q E hr h => ?_)
  · obtain ⟨b, n, w, way, first, rfl, _⟩ := h;rfl
  · obtain ⟨b, n, w, way, first, rfl, hB, n8, w0, w1, k⟩ := h
    refine ⟨_, (av (aY (i := 5) iW.nd rfl (Or.inl rfl) (iY aj))
      (av (eS PassesOwn.never rfl (cx rfl T.range (ae (pv 1) aj)) (aK (i := 6) iW.nd)
        (av (aY (i := 7) iW.nd rfl (Or.inl rfl) (cA pG hr T.eH T.eY.kp T.fV (ae (pv 0) (ae (pv 1) (ae (pv 4) aj)))))
      (av (eS PassesOwn.never rfl (cx rfl T.range (ae (pv 1) aj)) (aK (i := 8) iW.nd)
        (gC (dc (PW.pt (jv (bq gN (pv 2) ao (bA _)) (kE (bq yP (cA iL hr T.bw T.bF.kp T.bH (ae (pv 0) (ae ao aj))) ao (bA _))))) (ax (fB (d5 (ae ao (ae ao aj))) (gR (pv 7) (pv 8) set_list))) bV)
      (gC (dc (PW.pt (jv (bq gN (pv 2) ao (bA _)) (kE (bq rT (bN ig (pv 6) ao) (pv 1) (bA _))))) (ax (fB (d5 (ae (lS y8 (by rfl) T.int PyProof.Rows.boot_int (ae (mN gN (pv 8) (bN ig (pv 6) ao) (bA _)) aj)) (ae ao aj))) (gR (pv 7) (pv 8) set_list))) bV)
      (gC (dc (PW.pt (p8 (PW.pt (jv (bq gN (pv 2) ao (bA _)) (jv (bq yQ (pv 6) (pv 3) (bA _)) (kE (bq rT (pv 8) (pv 3) (bA _)))))) (nM (PW.pt (jv (bq gN (pv 2) ao (bA _)) (jv (bq rT (pv 6) (pv 3) (bA _)) (kE (bq yQ (pv 8) (pv 3) (bA _))))))))) (ax (fB (d5 (ae ao (ae ao aj))) (gR (pv 7) (pv 8) set_list))) bV)
      (ax (dc (bq gN (pv 2) ao (bA _)) (ax (fB (d5 (ae (bN cS (be bK (iY (ae ao (ae ao (ae (xa sR ao) (ae ao aj))))) (bN nN (pv 3) ao)) (lS y8 (by rfl) T.int PyProof.Rows.boot_int (ae (mN gN (pv 6) (pv 8) (bA _)) aj))) (ae ao aj))) (gR (pv 7) (pv 8) set_list))) bV))))))
      (ax (kF (yO dS dH dG lU (pv 5) (ae (pv 7) aj)))))))
      (ax (bf (pv 5))))), ?_⟩
    refine aL (σ := [some (.ref b), some (.int n), some (.int way), some (.int first), some (.int w), none, none, none, none]) rfl ?_;have W1 : 1 ≤ max w 6 := by lia
    walk_at "w";refine gB λr H1 s1 n1 g1 => ?_
    have rb : r ≠ b := λz => hB.at (by rw [<- z]; exact n1)
    obtain ⟨q0, I0, xs0, gq0⟩ := hB.inner;have I1 : Inner H1 b q0 := (s1.upto (p := b)).2 _ I0;obtain ⟨A, eA⟩ : ∃ A : Addr → Prop, A = λq => H q = none /\ q ≠ r := ⟨_, rfl⟩
    have nb : ¬ A b := by rw [eA]; exact λz => hB.at z.1
    have nr : ¬ A r := by rw [eA]; exact λz => z.2 rfl
    have nq : ¬ A q0 := by rw [eA]; exact λz => by have z1 := z.1; rw [gq0] at z1; cases z1
    have rq : r ≠ q0 := λz => by rw [<- z, n1] at gq0; cases gq0
    walk_at "w";refine ⟨by lia, by lia, ?_⟩;refine d7 (n := n) (λi σ' H' => ∃ (x1 x2 x3 : Option V) (us : List V), σ' = [some (.ref b), some (.int n), some (.int way), some (.int first), some (.int w), some (.ref r), x1, x2, x3] /\ H' r = some (.lst us) /\ us.length = i /\ us.Nodup /\ (∀ x ∈ us, e8 K A H' n (Dr (max w 6)) x) /\ iQ H' b /\ Inner H' b q0 /\ cB b H H') ⟨none, none, none, [], rfl, g1, rfl, Jv, (λ_ z => nomatch z), hB.same s1, I1, s1.upto⟩ ?_ ?_
    · rintro i σ' H' hi ⟨x1, x2, x3, us, rfl, gu, lu, nd, ru, B', I', u'⟩;walk_at "w";refine ⟨b, n, w, rfl, B', by lia, w0, w1, λp xs Ha np Ra la da Ba ua => ?_⟩;have hp0 : H p = none := u'.none B' np
      have pn : V.ref p ∉ us := λz => by
        obtain ⟨q', _, _, e', _, g', _⟩ := (ru _ z).at;cases e';rw [np] at g';cases g'
      have ap' : H p = none /\ p ≠ r := ⟨hp0, λz => by rw [z, gu] at np; cases np⟩;have ap : A p := by rw [eA]; exact ap'
      have X0 : DR K A n (Dr (max w 6)) r p b q0 us H Ha := ⟨ua.other rb gu, λx hx => (ru x hx).upto ua B' nb, ⟨p, xs, rfl, ap, Ra, la, da⟩, Ba, ua.2 _ I', u'.trans ua⟩;clear ru Ra gu;walk_at "w";refine ⟨by lia, by lia, ?_⟩;refine d7 (n := n) (λj σ' H' => (∃ x3, σ' = [some (.ref b), some (.int n), some (.int way), some (.int first), some (.int w), some (.ref r), some (.int i), some (.ref p), x3]) /\ DR K A n (Dr (max w 6)) r p b q0 us H H') ⟨⟨_, rfl⟩, X0⟩ ?_ ?_
      · rintro j σ' Hj hj ⟨⟨x3, rfl⟩, X⟩;walk_at "w";refine ⟨λσ' H' => σ' = [some (.ref b), some (.int n), some (.int way), some (.int first), some (.int w), some (.ref r), some (.int i), some (.ref p), some (.int j)] /\ DR K A n (Dr (max w 6)) r p b q0 us H H', ?_, ?_⟩
        · walk_at "w";refine iP (λ_ => ?_) (λ_ => ?_)
          · walk_at "w";refine ⟨b, 3, rfl, X.bag, by decide, by decide, λd Hd d0 d1 Bd ud => ?_⟩;replace X := X.upto ud Bd nb rb
            repeat' (first | walk_at "rd" | refine iP (λ_ => ?_) (λ_ => ?_))
            all_goals first
              | exact ⟨rfl, X⟩
              | (refine cF λt Hb sb gb => ?_
                 walk_at "w";obtain ⟨zs, gz, lz, Xz⟩ := (X.same sb).put ap nr nb nq hp0 (b6.mk (q := 0) gb rfl) (qr (i := 0) (bo _) W1) j;refine eB gz (eV (by lia)) rfl ?_;exact ⟨rfl, Xz⟩)
          · walk_at "w";exact ⟨rfl, X⟩
        clear X;rintro σ' Hj ⟨rfl, X⟩;refine ⟨λσ' H' => σ' = [some (.ref b), some (.int n), some (.int way), some (.int first), some (.int w), some (.ref r), some (.int i), some (.ref p), some (.int j)] /\ DR K A n (Dr (max w 6)) r p b q0 us H H', ?_, ?_⟩
        · repeat' (first | walk_at "rd" | refine iP (λ_ => ?_) (λ_ => ?_))
          all_goals first
            | exact ⟨rfl, X⟩
            | (refine cF λt Hb sb gb => ?_
               walk_at "w";obtain ⟨zs, gz, lz, Xz⟩ := (X.same sb).put ap nr nb nq hp0 (b6.mk (q := ((if decide ((j : Int) = (i : Int) + 1) = true then (1 : Int) else 0 : Int) : Rat)) gb rfl) (qr (by split <;> lia) W1) j;refine eB gz (eV (by lia)) rfl ?_;exact ⟨rfl, Xz⟩)
        clear X;rintro σ' Hj ⟨rfl, X⟩;refine ⟨λσ' H' => σ' = [some (.ref b), some (.int n), some (.int way), some (.int first), some (.int w), some (.ref r), some (.int i), some (.ref p), some (.int j)] /\ DR K A n (Dr (max w 6)) r p b q0 us H H', ?_, ?_⟩
        · repeat' (first | walk_at "rd" | refine iP (λ_ => ?_) (λ_ => ?_))
          all_goals first
            | exact ⟨rfl, X⟩
            | (refine cF λt Hb sb gb => ?_
               walk_at "w";obtain ⟨zs, gz, lz, Xz⟩ := (X.same sb).put ap nr nb nq hp0 (b6.mk (q := 0) gb rfl) (qr (i := 0) (bo _) W1) j;refine eB gz (eV (by lia)) rfl ?_;exact ⟨rfl, Xz⟩)
        clear X;rintro σ' Hj ⟨rfl, X⟩;walk_at "w";refine iP (λ_ => ?_) (λ_ => ?_)
        · walk_at "w";refine gB λl0 Hc sc nc gc => ?_
          walk_at "w";obtain ⟨x, ex, mx, _⟩ := qF (xs := [V.int 2, V.int 1, V.int (-1), V.int 0]) (i := first % 4) (lD _ (by decide)) (by have := h9 first (show (0 : Int) < 4 by decide); simpa using this)
          obtain ⟨z, rfl, hz⟩ : ∃ z : Int, x = .int z /\ z.natAbs ≤ 2 := by
            simp only [aE, aS, or_false] at mx;rcases mx with rfl | rfl | rfl | rfl
            · exact ⟨2, rfl, by decide⟩
            · exact ⟨1, rfl, by decide⟩
            · exact ⟨-1, rfl, by decide⟩
            · exact ⟨0, rfl, by decide⟩
          refine b9 (bI.of gc) ex ?_;walk_at "w";refine fQ (DI (by lia) (by lia)) ?_;walk_at "w";refine cF λt Hb sb gb => ?_
          walk_at "w";obtain ⟨zs, gz, lz, Xz⟩ := ((X.same sc).same sb).put ap nr nb nq hp0 (b6.mk (q := ((z * (if decide ((i : Int) = (j : Int)) = true then (1 : Int) else 0) : Int) : Rat)) gb rfl) (qr (by split <;> lia) W1) j;refine eB gz (eV (by lia)) rfl ?_;exact ⟨⟨_, rfl⟩, Xz⟩
        · walk_at "w";exact ⟨⟨_, rfl⟩, X⟩
      · rintro σ' Hj ⟨⟨x3, rfl⟩, X⟩;walk_at "w";refine ⟨.inl ⟨rfl, _, bI.of X.gr⟩, ?_⟩;walk_at "w";refine lQ X.gr (bL (by lia)) ?_;refine ⟨_, _, _, us ++ [.ref p], rfl, aF, by simp [lu], xo nd pn, λx hx => ?_, X.bag.upd X.inn rb rq, X.inn.upd rb, X.up.after n1⟩;rcases aI.mp hx with hx | hx
        · exact (X.ru x hx).other X.gr nr
        · have e : x = V.ref p := by simpa using hx
          rw [e]; exact X.rp.other X.gr nr
    · rintro σ' H' ⟨x1, x2, x3, us, rfl, gu, lu, nd, ru, B', I', u'⟩;walk_at "w";exact k r us H' n1 gu lu nd (by rw [eA] at ru; exact ru) B' u'
theorem AN:aX ["_law_one","_law_other"] ["_law_one","_law_other"] (aw jq):=by walk_at "d"
theorem mO (T:Txt K mg Z):cw P w K mg base gX 2 Z.pA Z.oY ["_law_one","_law_other"] (oG K (λx y=>x+y)):=by
 refine T.jB.ok AN (λvs H Q E h=>?_) (λcdv A outer s H vs Q E hr h=>?_)
 ·obtain ⟨p,q,a,b,c,d,rfl,hp,hq,hb,hd,sa,sb,sc,sd,k⟩:=wd h;rfl
 ·obtain ⟨p,q,a,b,c,d,rfl,hp,hq,hb,hd,sa,sb,sc,sd,k⟩:=wd h;refine ⟨_,(ax (bf (cA (mP T) hr T.j9 T.jC.kp T.mE (ae (bN ig (bN cS (be bT (pv 0) ao) (be bT (pv 1) ao)) (bN cS (be bT (pv 1) ao) (be bT (pv 0) ao))) (ae (bN cS (be bT (pv 0) ao) (be bT (pv 1) ao)) aj))))),?_⟩;refine aL (σ:=[some (.ref p),some (.ref q)]) rfl ?_;have hbd:0 < b*d:=mF hb hd;have sbd:Sz 8999 (b*d):=(sb.mul sd).mono (by decide);walk_at "w";refine fQ (show gP _ _ from .inr ⟨_,_,sa,sd,by decide⟩) ?_;walk_at "w";refine fQ (show gP _ _ from .inr ⟨_,_,sc,sb,by decide⟩) ?_;walk_at "w";refine fQ (show gP _ _ from .inr ⟨_,_,sb,sd,by decide⟩) ?_;walk_at "w";walk_at "w";refine ⟨_,_,rfl,hbd,sbd,k⟩
theorem zF:aX ["_law_one","_law_other"] ["_law_one","_law_other"] (aw iC):=by walk_at "d"
theorem kH (T:Txt K mg Z):cw P w K mg base gX 3 Z.nB Z.mX ["_law_one","_law_other"] (wJ K):=by
 refine T.iN.ok zF (λvs H Q E h=>?_) (λcdv A outer s H vs Q E hr h=>?_)
 ·obtain ⟨p,q,xs,ys,rfl,_⟩:=h;rfl
 ·obtain ⟨p,q,xs,ys,rfl,hp,hq,hl,hz,h1,h2,kk⟩:=h;refine ⟨_,(ax (bf (ck ["_law_k"] ["_law_one","_law_other"] [0,1] (cx rfl T.range (ae (bS bB (by rfl) T.len bx (ae (pv 0) aj)) aj)) (λ_=>(aK (i:=0) (show List.Nodup (α:=PySem.Str) ["_law_k","_law_one","_law_other"] by decide +kernel))) (λ_=>cu) (λ_=>(cA (mO T) hr T.j8 T.jB.kp T.mD (ae (be (ot K (by rfl)) (pv 1) (pv 0)) (ae (be (ot K (by rfl)) (pv 2) (pv 0)) aj))))))),?_⟩;refine aL (σ:=[some (.ref p),some (.ref q)]) rfl ?_;obtain ⟨us,gu,qu⟩:=id hp;obtain ⟨ws,gw,qw⟩:=id hq;have lu:=qu.length;walk_at "w";refine ⟨_,_,rfl,.inl (bI.of gu),?_⟩;walk_at "w";refine ⟨by lia,by lia,?_⟩;refine vb (n:=us.length) (b6 K) (λi=>xs.getD i 0+ys.getD i 0) (by lia) (λa b=>a.same b) ?_ ?_
  ·rintro i H' NY NN hi s k1;have ix:i < xs.length:=by lia
   have iy:i < ys.length:=by lia
   obtain ⟨vx,ex,nx⟩:=Ek (Paired.imp' (λ_ _ z=>z.same s) qu) ix;obtain ⟨vy,ey,ny⟩:=Ek (Paired.imp' (λ_ _ z=>z.same s) qw) iy;walk_at "w";refine b9 (bI.of (s _ _ gu)) ex ?_;walk_at "w";refine b9 (bI.of (s _ _ gw)) ey ?_;walk_at "w";exact ⟨_,_,_,_,rfl,nx,ny,h1 _ (getD_mem ix),h2 _ (getD_mem iy),λr3 H3 s3 n3=>k1 _ _ s3 n3⟩
  ·rintro ys' H' l hl' s g pr nx;exact kk l H' hl' s ⟨ys',g,by rw[yq (by lia)];rw[<- lu] at pr;exact pr⟩
theorem zE:aX ["_law_one","_law_other"] ["_law_one","_law_other"] (aw iB):=by walk_at "d"
theorem kG (T:Txt K mg Z):cw P w K mg base gX 2 Z.nA Z.mW ["_law_one","_law_other"] (oG K (λx y=>x*y)):=by
 refine T.iM.ok zE (λvs H Q E h=>?_) (λcdv A outer s H vs Q E hr h=>?_)
 ·obtain ⟨p,q,a,b,c,d,rfl,hp,hq,hb,hd,sa,sb,sc,sd,k⟩:=Dl h;rfl
 ·obtain ⟨p,q,a,b,c,d,rfl,hp,hq,hb,hd,sa,sb,sc,sd,k⟩:=Dl h;refine ⟨_,(ax (bf (cA (mP T) hr T.j9 T.jC.kp T.mE (ae (bN cS (be bT (pv 0) ao) (be bT (pv 1) ao)) (ae (bN cS (be bT (pv 0) ao) (be bT (pv 1) ao)) aj))))),?_⟩;refine aL (σ:=[some (.ref p),some (.ref q)]) rfl ?_;have hbd:0 < b*d:=mF hb hd;have sbd:Sz 8999 (b*d):=(sb.mul sd).mono (by decide);walk_at "w";refine fQ (show gP _ _ from .inr ⟨_,_,sa,sc,by decide⟩) ?_;walk_at "w";refine fQ (show gP _ _ from .inr ⟨_,_,sb,sd,by decide⟩) ?_;walk_at "w";walk_at "w";refine ⟨_,_,rfl,hbd,sbd,k⟩
theorem B9:aX ["_law_by_here","_law_row_here"] ["_law_by_here","_law_row_here"] (aw lO):=by walk_at "d"
theorem sX (T:Txt K mg Z):cw P w K mg base gX 3 Z.rG Z.rh ["_law_by_here","_law_row_here"] (EX K):=by
 refine T.oB.ok B9 (λvs H Q E h=>?_) (λcdv A outer s H vs Q E hr h=>?_)
 ·obtain ⟨u,q,c,ys,rfl,_⟩:=h;rfl
 ·obtain ⟨u,q,c,ys,rfl,hc,sc,hq,hz,h2,kk⟩:=h;refine ⟨_,(ax (bf (ck ["_law_one"] ["_law_by_here"] [0] (cG (pv 1)) (λ_=>(aK (i:=0) (show List.Nodup (α:=PySem.Str) ["_law_one","_law_by_here"] by decide +kernel))) (λ_=>cu) (λ_=>(cA (kG T) hr T.jb T.iM.kp T.kd (ae (pv 1) (ae (pv 0) aj))))))),?_⟩;refine aL (σ:=[some u,some (.ref q)]) rfl ?_;obtain ⟨us,gu,qu⟩:=id hq;walk_at "w";refine ⟨⟨_,bI.of gu⟩,?_⟩;refine dA (K:=K) (F:=b6 K) (b6 K) (λy=>c*y) gu qu hz (λa b=>a.same b) (λa b=>a.same b) ?_ ?_
  ·rintro i y x H' NY NN en s hx k;walk_at "w";exact ⟨_,_,_,_,rfl,hc.same s,hx,sc,h2 y (ak en),λr H2 s2 h2'=>k _ _ s2 h2'⟩
  ·rintro ys' H' r hr s g pr nx;exact kk r H' hr s ⟨ys',g,pr⟩
theorem cX:aX ["_law_bag_here","_law_move_here","_law_put","_law_look","_law_n","_law_turn","_law_i","_law_j","_law_by_here","_law_less_here","_law_row_here"] ["_law_bag_here","_law_move_here","_law_put","_law_look"] (aw gA):=by walk_at "d"
theorem yn (T:Txt K mg Z):cw P w K mg base gX 4 Z.lB Z.kT ["_law_bag_here","_law_move_here","_law_put","_law_look"] (yD K):=by
 refine T.pP.ok cX (λvs H Q E h=>?_) (λcdv A outer s H vs Q E hr h=>?_)
 ·obtain ⟨b,m,p,l,q0,n,WV,μ,A,us,ws,vs,rfl,_⟩:=h;rfl
 ·obtain ⟨b,m,p,l,q0,n,WV,μ,A,us,ws,vs,rfl,MA,X,n8,i4,o4,M0,M1,⟨M,eM⟩,V1,hA,k⟩:=h
  refine ⟨_,(av (aY (i:=4) cX.nd rfl (Or.inl rfl) (bS bB (by rfl) T.len bx (ae (pv 1) aj)))
   (av (dc (PW.pt (p8 (bq rT (pv 4) ao (bA _)) (nM (bq gN (cA (bP T) hr T.bw T.bF.kp T.bH (ae (pv 0) (ae ao aj))) ao (bA _))))) (ax (bf (d5 (ae (pv 1) (ae (pv 2) (ae (pv 3) aj)))))) bV)
   (av (eS PassesOwn.never rfl (cx rfl T.range (ae (bN ig ao (cA (bP T) hr T.bw T.bF.kp T.bH (ae (pv 0) (ae ao aj)))) aj)) (aK (i:=5) cX.nd)
    (av (aY (i:=6) cX.nd rfl (Or.inl rfl) (cA (bP T) hr T.bw T.bF.kp T.bH (ae (pv 0) (ae (pv 4) aj))))
   (av (aY (i:=7) cX.nd rfl (Or.inl rfl) (bN nN (bN ig (bN ig (pv 6) ao) (cA (bP T) hr T.bw T.bF.kp T.bH (ae (pv 0) (ae (bN p9 (pv 4) ao) aj)))) (pv 4)))
   (av (aY (i:=8) cX.nd rfl (Or.inl rfl) (d5 (ae (be bK (iY (ae ao (ae (xa sR ao) (ae ao (ae (xa sR ao) aj))))) (cA (bP T) hr T.bw T.bF.kp T.bH (ae (pv 0) (ae ao aj)))) (ae ao aj))))
   (av (aY (i:=9) cX.nd rfl (Or.inl rfl) (d5 (ae (bN p9 ao (be bT (pv 8) ao)) (ae ao aj))))
   (av (fB (cA (kH T) hr T.jc T.iN.kp T.ke (ae (be bK (pv 1) (pv 6)) (ae (cA (sX T) hr T.oS T.oB.kp T.rn (ae (pv 8) (ae (be bK (pv 1) (pv 7)) aj))) aj))) (gR (pv 1) (pv 6) set_list))
   (av (eS PassesOwn.never rfl (cG (bN zN (pv 1) (pv 3))) (aK (i:=10) cX.nd)
    (ax (fB (cA (mO T) hr T.j8 T.jB.kp T.mD (ae (be bK (pv 10) (pv 7)) (ae (cA (kG T) hr T.jb T.iM.kp T.kd (ae (pv 9) (ae (be bK (pv 10) (pv 6)) aj))) aj))) (gR (pv 10) (pv 7) set_list))))
   (ax (eS PassesOwn.never rfl (cG (pv 2)) (aK (i:=10) cX.nd)
    (ax (fB (cA (mO T) hr T.j8 T.jB.kp T.mD (ae (be bK (pv 10) (pv 6)) (ae (cA (kG T) hr T.jb T.iM.kp T.kd (ae (pv 8) (ae (be bK (pv 10) (pv 7)) aj))) aj))) (gR (pv 10) (pv 6) set_list))))))))))))
   (ax (bf (d5 (ae (pv 1) (ae (pv 2) (ae (pv 3) aj))))))))),?_⟩
  refine aL (σ:=[some (.ref b),some (.ref m),some (.ref p),some (.ref l),none,none,none,none,none,none,none]) rfl ?_;have done:∀r us' H' t,t<=3->H' r=some (.tup [.ref m,.ref p,.ref l])->ji K A H' n (λx=>Fr (μ x) (9^t*WV)) m p l b q0 us' ws vs->gO A b m H H'->Q (.ref r) H':=λr us' H' t ht g x kp=>k r us' H' g (x.weak λ_ _ y h=>h.mono (aG _ (ah (by decide) ht))) kp
  have X0:ji K A H n (λx=>Fr (μ x) (9^0*WV)) m p l b q0 us ws vs:=X.weak λ_ _ y h=>h.mono (by simp)
  clear X k;have gu:=X0.gm;have lu:=X0.lm;walk_at "w";refine ⟨_,_,rfl,.inl (bI.of gu),?_⟩;rw[lu];clear gu lu;have kp0:gO A b m H H:=λ_ _ h _ _ _=>h
  walk_at "w";refine iP (λh0=>?_) (λh0=>?_)
  ·walk_at "w";refine cF λr H' s' g'=>?_
   exact done r us H' 0 (by decide) g' (X0.same s') (kp0.same s')
  have n2:2<=n:=by
   rcases cM n 2 with z | z
   ·exact absurd (decide_eq_true (show (n:Int) < 2 by lia)) h0
   ·exact z
  walk_at "w";refine ⟨b,2,rfl,X0.bag,by decide,by decide,λv H1 v0 v1 B1 u1=>?_⟩;have X1:=X0.upto MA u1 B1;have kp1:=kp0.upto u1;walk_at "w";refine iP (λh1=>?_) (λh1=>?_)
  ·walk_at "w";refine cF λr H' s' g'=>?_
   exact done r us H' 0 (by decide) g' (X1.same s') (kp1.same s')
  walk_at "w";refine ⟨b,3,rfl,B1,by decide,by decide,λc H2 c0 c1 B2 u2=>?_⟩;have X2:=X1.upto MA u2 B2;have kp2:=kp1.upto u2;clear X0 X1 kp0 kp1 u1 u2 B1;walk_at "w";refine ⟨by lia,by lia,?_⟩;refine d7 (n:=(1+c).toNat) (λt σ' H'=>∃(x1 x2 x3 x4 x5 x6:Option V) (us:List V),σ'=[some (.ref b),some (.ref m),some (.ref p),some (.ref l),some (.int n),x1,x2,x3,x4,x5,x6]/\ji K A H' n (λx=>Fr (μ x) (9^t*WV)) m p l b q0 us ws vs/\gO A b m H H') ⟨none,none,none,none,none,none,us,rfl,X2,kp2⟩ ?_ ?_
  ·rintro t σ' H' ht ⟨x1,x2,x3,x4,x5,x6,us,rfl,X,kp⟩;have t3:t<=2:=by lia
   walk_at "w";refine ⟨b,n,rfl,X.bag,by lia,by lia,λii Ha i0 i1 Ba ua=>?_⟩;obtain ⟨ii,rfl⟩:=mG i0;have Xa:=X.upto MA ua Ba;have kpa:=kp.upto ua;walk_at "w";refine ⟨b,_,rfl,Ba,by lia,by lia,λd Hb d0 d1 Bb ub=>?_⟩;have Xb:=Xa.upto MA ub Bb;have kpb:=kpa.upto ub;walk_at "w";refine fQ (show (0:Int) < n by lia) ?_;have j0:=lD ((ii:Int)+1+d) (show (n:Int)≠0 by lia);have j1:=h9 ((ii:Int)+1+d) (show (0:Int) < n by lia);generalize ((ii:Int)+1+d) % (n:Int)=jj at j0 j1 ⊢;obtain ⟨jj,rfl⟩:=mG j0;walk_at "w";refine gB λl0 Hc sc nc gc=>?_
   walk_at "w";refine ⟨b,4,rfl,Bb.same sc,by decide,by decide,λv' Hd v0' v1' Bd ud=>?_⟩;have gd:=ud.other (λz=>Bb.at (by rw[<- z];exact nc)) gc;obtain ⟨x,ex,mx,_⟩:=qF (xs:=[V.int 1,V.int (-1),V.int 2,V.int (-2)]) v0' (by simpa using v1')
   obtain ⟨z,rfl,hz⟩:∃z:Int,x=.int z/\z.natAbs<=2:=by
    simp only[aE,aS,or_false] at mx;rcases mx with rfl | rfl | rfl | rfl
    ·exact ⟨1,rfl,by decide⟩
    ·exact ⟨-1,rfl,by decide⟩
    ·exact ⟨2,rfl,by decide⟩
    ·exact ⟨-2,rfl,by decide⟩
   have Xd:=(Xb.same sc).upto MA ud Bd;have kpd:=(kpb.same sc).upto ud;walk_at "w";refine b9 (bI.of gd) ex ?_;walk_at "w";refine cF λbt He se ge=>?_
   walk_at "w";refine cF λlt Hf sf gf=>?_
   have Xf:=(Xd.same se).same sf;have kpf:=(kpd.same se).same sf;have nb:b6 K Hf ((z:Int):Rat) (.ref bt):=b6.mk (sf _ _ ge) rfl;have nl:b6 K Hf ((0 - z:Int):Rat) (.ref lt):=b6.mk gf rfl;clear X Xa Xb Xd kp kpa kpb kpd ua ub ud sc gc gd ex mx ge gf se sf Ba Bb Bd nc;have gu:=Xf.gm;have lu:=Xf.lm
   have ru:∀x∈us,e8 K A Hf n (Fr M (9^t*WV)) x:=λx hx=>by
    have:=Xf.row x (by simp [hx]);rwa [eM x (Xf.apart.1 x hx).1 (Xf.apart.1 x hx).2] at this
   have hM:0 < M/\M<=2^800:=by
    have hx:us[ii]'(by lia)∈us:=aN _;have:=eM _ (Xf.apart.1 _ hx).1 (Xf.apart.1 _ hx).2;rw[<- this];exact ⟨M0 _,M1 _⟩
   have e1:us[ii]?=some (us[ii]'(by lia)):=by simp
   have e2:us[jj]?=some (us[jj]'(by lia)):=by simp
   obtain ⟨q1,z1,qs1,w1,a1,g1,k1,p1,l1,c1⟩:=(ru _ (ak e1)).at;obtain ⟨q2,z2,qs2,w2,a2,g2,k2,p2,l2,c2⟩:=(ru _ (ak e2)).at;rw[w1] at e1;rw[w2] at e2;generalize eW:9^t*WV=W at *
   have W9:9*W<=2^140:=by rw[<- eW];exact Ie (by lia) V1 (by decide)
   have sz9M:∀{x:Rat} {U:Nat},U<=9*W->Fr M U x->pX x:=λhU h=>DD hM.1 hM.2 (ai hU W9) h
   have sz9:∀{x:Rat} {U:Nat} {v:V},U<=9*W->Fr (μ v) U x->pX x:=λhU h=>DD (M0 _) (M1 _) (ai hU W9) h
   walk_at "w";refine b9 (bI.of gu) (eX e1) ?_;walk_at "w";refine b9 (bI.of gu) (eX e2) ?_;walk_at "w";refine ⟨_,q2,_,qs2,rfl,nb,zw (by lia),⟨z2,g2,p2⟩,by lia,λy hy=>sz9M (by lia) (c2 y hy),λr1 Hg n1 sg R1=>?_⟩;walk_at "w";refine ⟨q1,r1,qs1,_,rfl,⟨z1,sg _ _ g1,Paired.imp' (λ_ _ y=>y.same sg) p1⟩,R1,by rw[ag,l1,l2],by lia,λy hy=>sz9M (by lia) (c1 y hy),λy hy=>?_,λr2 Hh n2' sh R2=>?_⟩
   ·obtain ⟨y',hy',rfl⟩:=ay.mp hy;exact wC hz (c2 y' hy') hM.1 hM.2 (by lia)
   have sfh:=sg.trans sh
   have new:V.ref r2∉us++vs++ws:=λz=>by
    obtain ⟨q',_,_,e',_,g',_⟩:=((Xf.same sg).row _ z).at;cases e';rw[n2'] at g';cases g'
   have Xh:=(Xf.same sfh).weak (C':=λx y=>(x∈ws->Fr (μ x) W y)/\Fr (μ x) (3*W) y) λx _ y h=>⟨λ_=>h,h.mono (by lia)⟩
   have kph:=kpf.same sfh;have guh:=sfh _ _ gu;have ar2:A r2:=(kpf.same sg).new hA (Xf.same sg).bag (by rw[sg _ _ gu];simp) n2'
   have rp2:e8 K A Hh n (λy=>(V.ref r2∈ws->Fr (μ (.ref r2)) W y)/\Fr (μ (.ref r2)) (3*W) y) (.ref r2):=by
    rw[eM (.ref r2) (λz=>new (aI.mpr (.inr z))) (λz=>new (aI.mpr (.inl (aI.mpr (.inr z)))))];refine ⟨r2,_,rfl,ar2,R2,by rw[bC,ag];lia,λy hy=>⟨λz=>absurd (aI.mpr (.inr z)) new,?_⟩⟩;obtain ⟨j',hj',e⟩:=gM hy;rw[fP,cP] at e;rw[<- e];exact z5 hz (c1 _ (aN _)) (c2 _ (aN _))
   walk_at "w";refine eB guh (eV (by lia)) rfl ?_;have Xi:=Xh.set MA rp2 new ii;have kpi:=kph.upd (o:=.lst (us.set ii (.ref r2))) (q:=m) (.inr rfl);have nli:b6 K (upd Hh m (.lst (us.set ii (.ref r2)))) ((0 - z:Int):Rat) (.ref lt):=(nl.same sfh).updL guh;have nbi:b6 K (upd Hh m (.lst (us.set ii (.ref r2)))) ((z:Int):Rat) (.ref bt):=(nb.same sfh).updL guh;generalize upd Hh m (.lst (us.set ii (.ref r2)))=Hi at Xi kpi nli nbi ⊢;generalize us.set ii (.ref r2)=um at Xi;clear nb nl Xf kpf gu ru e1 e2 g1 p1 g2 p2 R1 R2 Xh kph guh rp2 sg sh sfh new;have gm:=Xi.gm;have lm:=Xi.lm;have gl:=Xi.gl;have nd:=Xi.nd;obtain ⟨nd1,nd2,nd3⟩:=dW.mp nd;walk_at "w";refine zI gm gl (bh (bL (by lia))) λcl Hj sj nj gj=>?_
   have kpj:=kpi.same sj
   have rows:∀x∈um++vs,∀q,x=V.ref q->q≠cl:=λx hx q e y=>by
    obtain ⟨q',zs,_,e',_,g',_⟩:=(Xi.row x (aI.mpr (.inl hx))).at;rw[e] at e';cases e';rw[y,nj] at g';cases g'
   have Xj:=(Xi.same sj).weak (C':=λx y=>(x∈ws->Fr (μ x) W y)/\(x∈(um++vs).drop 0->Fr (μ x) (3*W) y)/\Fr (μ x) (9*W) y) λx _ y h=>⟨h.1,λ_=>h.2,h.2.mono (by lia)⟩
   have lj:b6 K Hj ((0 - z:Int):Rat) (.ref lt):=nli.same sj;have bj:b6 K Hj ((z:Int):Rat) (.ref bt):=nbi.same sj;clear Xi kpi nli nbi;refine ⟨_,rfl,⟨_,bI.of gj⟩,?_⟩;refine ou (K:=K) (a:=cl) (xs:=um++vs) (λs σ' H'=>∃x6:Option V,σ'=[some (.ref b),some (.ref m),some (.ref p),some (.ref l),some (.int n),some (.int t),some (.int ii),some (.int jj),some (.ref bt),some (.ref lt),x6]/\ji K A H' n (λx y=>(x∈ws->Fr (μ x) W y)/\(x∈(um++vs).drop s->Fr (μ x) (3*W) y)/\Fr (μ x) (9*W) y) m p l b q0 um ws vs/\gO A b m H H'/\H' cl=some (.lst (um++vs))/\b6 K H' ((0 - z:Int):Rat) (.ref lt)/\b6 K H' ((z:Int):Rat) (.ref bt)) ⟨_,rfl,Xj,kpj,gj,lj,bj⟩ (λs σ' H' _ ⟨_,_,_,_,e,_⟩=>bI.of e) ?_ ?_
   ·rintro s x σ' Hk hx ⟨y6,rfl,Xk,kpk,gk,lk,bk⟩;have hs:s < (um++vs).length:=(aD.mp hx).1;have mx:=ak hx
    have xd:x∈(um++vs).drop s:=by
     rw[dw hs,(aD.mp hx).2];exact .head _
    have xd2:x∉(um++vs).drop (s+1):=λz=>by
     have:=nd1.sublist (List.drop_sublist s _);rw[dw hs,du,(aD.mp hx).2] at this;exact this.1 z
    have xw:x∉ws:=λz=>nd3 x mx x z rfl
    have rx:=Xk.row x (aI.mpr (.inl mx));obtain ⟨q,zs,qs,rfl,aq,gq,lq,pq,lq2,cq⟩:=rx.at;have qcl:=rows _ mx q rfl;obtain ⟨vj,ej,nj'⟩:=Ek pq (j:=jj) (by lia);obtain ⟨vi,ei,ni'⟩:=Ek pq (j:=ii) (by lia);have cj:=(cq _ (getD_mem (xs:=qs) (i:=jj) (by lia))).2.1 xd;have ci:=(cq _ (getD_mem (xs:=qs) (i:=ii) (by lia))).2.1 xd;walk_at "w";refine b9 (bI.of gq) ej ?_;walk_at "w";refine b9 (bI.of gq) ei ?_;walk_at "w";refine ⟨_,_,_,_,rfl,lk,ni',zw (by lia),sz9 (by lia) ci,λr3 Hl sl n3=>?_⟩;walk_at "w";refine ⟨_,_,_,_,rfl,nj'.same sl,n3,sz9 (by lia) cj,wC (by lia) ci (M0 _) (M1 _) (by lia),λr4 Hm sm n4=>?_⟩;have slm:=sl.trans sm;walk_at "w";refine eB (slm _ _ gq) (eV (by lia)) rfl ?_;refine ⟨_,rfl,?_,(kpk.same slm).upd (.inl aq),by rw[aU qcl.symm];exact slm _ _ gk,(lk.same slm).updL (slm _ _ gq),(bk.same slm).updL (slm _ _ gq)⟩;refine ((Xk.same slm).weak λx' _ y h=>⟨h.1,λz=>h.2.1 ?_,h.2.2⟩).put MA aq (slm _ _ gq) n4 ⟨λz=>absurd z xw,λz=>absurd z xd2,?_⟩ jj
    ·rw[dw hs];exact .tail _ z
    ·exact (z5 (by lia) cj ci).mono (by lia)
   ·rintro σ' Hk ⟨y6,rfl,Xk,kpk,gk,lk,bk⟩;have gp:=Xk.gp;have Xk2:=Xk.weak (C':=λx y=>(x∈ws.drop 0->Fr (μ x) W y)/\Fr (μ x) (9*W) y) λx _ y h=>⟨λz=>h.1 (by simpa using z),h.2.2⟩
    clear Xk;walk_at "w";refine ⟨⟨_,bI.of gp⟩,?_⟩;refine ou (K:=K) (a:=p) (xs:=ws) (λs σ' H'=>∃x6:Option V,σ'=[some (.ref b),some (.ref m),some (.ref p),some (.ref l),some (.int n),some (.int t),some (.int ii),some (.int jj),some (.ref bt),some (.ref lt),x6]/\ji K A H' n (λx y=>(x∈ws.drop s->Fr (μ x) W y)/\Fr (μ x) (9*W) y) m p l b q0 um ws vs/\gO A b m H H'/\b6 K H' ((z:Int):Rat) (.ref bt)) ⟨_,rfl,Xk2,kpk,bk⟩ (λs σ' H' _ ⟨_,_,X,_⟩=>bI.of X.gp) ?_ ?_
    ·rintro s x σ' Hl hx ⟨w6,rfl,Xl,kpl,bl⟩;have hs:s < ws.length:=(aD.mp hx).1;have mx:=ak hx
     have xd:x∈ws.drop s:=by
      rw[dw hs,(aD.mp hx).2];exact .head _
     have xd2:x∉ws.drop (s+1):=λz=>by
      have:=nd2.sublist (List.drop_sublist s _);rw[dw hs,du,(aD.mp hx).2] at this;exact this.1 z
     have rx:=Xl.row x (aI.mpr (.inr mx));obtain ⟨q,zs,qs,rfl,aq,gq,lq,pq,lq2,cq⟩:=rx.at;obtain ⟨vj,ej,nj'⟩:=Ek pq (j:=jj) (by lia);obtain ⟨vi,ei,ni'⟩:=Ek pq (j:=ii) (by lia);have cj:=(cq _ (getD_mem (xs:=qs) (i:=jj) (by lia))).1 xd;have ci:=(cq _ (getD_mem (xs:=qs) (i:=ii) (by lia))).1 xd;walk_at "w";refine b9 (bI.of gq) ei ?_;walk_at "w";refine b9 (bI.of gq) ej ?_;walk_at "w";refine ⟨_,_,_,_,rfl,bl,nj',zw (by lia),sz9 (by lia) cj,λr3 Hm sm n3=>?_⟩;walk_at "w";refine ⟨_,_,_,_,rfl,ni'.same sm,n3,sz9 (by lia) ci,wC (by lia) cj (M0 _) (M1 _) (by lia),λr4 Hn sn n4=>?_⟩;have smn:=sm.trans sn;walk_at "w";refine eB (smn _ _ gq) (eV (by lia)) rfl ?_;refine ⟨_,rfl,?_,(kpl.same smn).upd (.inl aq),(bl.same smn).updL (smn _ _ gq)⟩;refine ((Xl.same smn).weak λx' _ y h=>⟨λz=>h.1 ?_,h.2⟩).put MA aq (smn _ _ gq) n4 ⟨λz=>absurd z xd2,?_⟩ ii
     ·rw[dw hs];exact .tail _ z
     ·exact (z5 (by lia) ci cj).mono (by lia)
    ·rintro σ' Hl ⟨w6,rfl,Xl,kpl,bl⟩;refine ⟨_,_,_,_,_,_,um,rfl,Xl.weak λ_ _ y h=>h.2.mono ?_,kpl⟩;rw[<- eW,h7,cC (9^t) 9,dI];exact au _
  ·rintro σ' H' ⟨x1,x2,x3,x4,x5,x6,us',rfl,X,kp⟩;walk_at "w";refine cF λr H2' s' g'=>?_
   exact done r us' H2' _ (by lia) g' (X.same s') (kp.same s')
theorem cW:aX ["_law_bag_here","_law_n","_law_ins","_law_outs","_law_wide","_law_way","_law_first","_law_move_here","_law_put","_law_look","_law_k","_law_row_here"] ["_law_bag_here","_law_n","_law_ins","_law_outs","_law_wide"] (aw gv):=by walk_at "d"
theorem ym (T : Txt K mg Z) : cw P w K mg base gX 5 Z.lA Z.kS ["_law_bag_here", "_law_n", "_law_ins", "_law_outs", "_law_wide"] (yy K) := by
  have iL := bP (P := P) (w := w) (base := base) T;have BK := zR (P := P) (w := w) (base := base) T;have pG := iH (P := P) (w := w) (base := base) T;have Ak := yn (P := P) (w := w) (base := base) T;refine T.pO.ok cW (λvs H Q E h => ?_) (λcdv A outer s H vs Q E hr h => ?_)
  · obtain ⟨b, n, i, o, w, c, rfl, _⟩ := h;rfl
  · obtain ⟨b, n, i, o, w, c, rfl, hB, n8, i4, o4, w0, w1, hc, hc20, hcM, k⟩ := h
    refine ⟨_, (av (aY (i := 5) cW.nd rfl (Or.inl rfl) (cA iL hr T.bw T.bF.kp T.bH (ae (pv 0) (ae ao aj))))
      (av (aY (i := 6) cW.nd rfl (Or.inl rfl) (cA iL hr T.bw T.bF.kp T.bH (ae (pv 0) (ae (bN ig (pv 1) ao) aj))))
      (av (aY (i := 7) cW.nd rfl (Or.inl rfl) (cA BK hr T.t8 T.qJ.kp T.vN (ae (pv 0) (ae (pv 1) (ae (pv 5) (ae (pv 6) (ae (pv 4) aj)))))))
      (av (mL 8 ["_law_k"] ["_law_bag_here", "_law_n", "_law_wide"] [0, 1, 4] cW.nd rfl rfl (cx rfl T.range (ae (pv 2) aj)) (λ_ => (aK (i := 0) (show List.Nodup (α := PySem.Str) ["_law_k", "_law_bag_here", "_law_n", "_law_wide"] by decide +kernel))) (λ_ => cu) (λ_ => (cA pG hr T.eH T.eY.kp T.fV (ae (pv 1) (ae (pv 2) (ae (pv 3) aj))))))
      (av (mL 9 ["_law_k"] ["_law_bag_here", "_law_n", "_law_wide"] [0, 1, 4] cW.nd rfl rfl (cx rfl T.range (ae (pv 3) aj)) (λ_ => (aK (i := 0) (show List.Nodup (α := PySem.Str) ["_law_k", "_law_bag_here", "_law_n", "_law_wide"] by decide +kernel))) (λ_ => cu) (λ_ => (cA pG hr T.eH T.eY.kp T.fV (ae (pv 1) (ae (pv 2) (ae (pv 3) aj))))))
      (av (eS PassesOwn.never rfl (cx rfl T.range (ae (pv 1) aj)) (aK (i := 10) cW.nd)
        (av (eS PassesOwn.never rfl (cG (pv 8)) (aK (i := 11) cW.nd)
        (ax (dc (PW.pt (p8 (PW.pt (jv (bq gN (pv 5) ao (bA _)) (kE (bq yQ (pv 10) (pv 6) (bA _))))) (nM (PW.pt (jv (bq gN (pv 5) ao (bA _)) (jv (bq rT (bN ig (pv 10) ao) (pv 1) (bA _)) (kE (bq gN (cA iL hr T.bw T.bF.kp T.bH (ae (pv 0) (ae ao aj))) ao (bA _))))))))) (ax (fB (d5 (ae ao (ae ao aj))) (gR (pv 11) (pv 10) set_list))) bV)))
      (ax (eS PassesOwn.never rfl (cG (pv 9)) (aK (i := 11) cW.nd)
        (ax (dc (PW.pt (p8 (PW.pt (jv (bq gN (pv 5) ao (bA _)) (kE (bq yQ (pv 10) (pv 6) (bA _))))) (nM (PW.pt (jv (bq gN (pv 5) ao (bA _)) (jv (bq yP (pv 10) ao (bA _)) (kE (bq gN (cA iL hr T.bw T.bF.kp T.bH (ae (pv 0) (ae ao aj))) ao (bA _))))))))) (ax (fB (d5 (ae ao (ae ao aj))) (gR (pv 11) (pv 10) set_list))) bV))))))
      (ax (bf (cA Ak hr T.sF T.pP.kp T.uG (ae (pv 0) (ae (pv 7) (ae (pv 8) (ae (pv 9) aj))))))))))))), ?_⟩
    refine aL (σ := [some (.ref b), some (.int n), some (.int i), some (.int o), some (.int w), none, none, none, none, none, none, none]) rfl ?_;have W1 : 1 ≤ max w 6 := by lia
    obtain ⟨q0, I0, xs0, gq0⟩ := hB.inner;walk_at "w";refine ⟨b, 6, rfl, hB, by decide, by decide, λway H1 a0 a1 B1 u1 => ?_⟩;walk_at "w";refine ⟨b, _, rfl, B1, by lia, by lia, λfirst H2 f0 f1 B2 u2 => ?_⟩;have u02 := u1.trans u2;walk_at "w";refine ⟨b, n, w, way, first, rfl, B2, n8, w0, w1, λm us H3 nm0 gm lm ndm rm B3 u3 => ?_⟩;have u03 := u02.trans u3;walk_at "w";refine ⟨by lia, by lia, ?_⟩;refine y0 (n := i) (b := b) (cZ K H3) (λxs => xs.length = n /\ ∀ x ∈ xs, Dr (max w 6) x) B3 (by lia) (λa u B => a.upto u B B3.at) (λ⟨q, e, _, _, g, _⟩ => ⟨q, e, by rw [g]; exact λz => nomatch z⟩) ?_ ?_
    · rintro s H' NY NN hi u B k1;walk_at "w";exact ⟨b, n, w, rfl, B, by lia, w0, w1, λr xs H2 nr R lx dx B2 u2 => k1 _ xs _ u2 B2 ⟨lx, dx⟩ ⟨r, rfl, u.none B nr, R⟩ ⟨r, rfl, nr⟩⟩
    rintro ws puts H4 p np u4 B4 gp lp ndp hp pr4 nx4;have u04 := u03.trans u4;walk_at "w";refine ⟨by lia, by lia, ?_⟩;refine y0 (n := o) (b := b) (cZ K H4) (λxs => xs.length = n /\ ∀ x ∈ xs, Dr (max w 6) x) B4 (by lia) (λa u B => a.upto u B B4.at) (λ⟨q, e, _, _, g, _⟩ => ⟨q, e, by rw [g]; exact λz => nomatch z⟩) ?_ ?_
    · rintro s H' NY NN hi u B k1;walk_at "w";exact ⟨b, n, w, rfl, B, by lia, w0, w1, λr xs H2 nr R lx dx B2 u2 => k1 _ xs _ u2 B2 ⟨lx, dx⟩ ⟨r, rfl, u.none B nr, R⟩ ⟨r, rfl, nr⟩⟩
    rintro vs looks H5 l nl u5 B5 gl ll ndl hl pr5 nx5;have u05 := u04.trans u5;have hm0 : H m = none := u02.none B2 nm0;have hp0 : H p = none := u03.none B3 np;have hl0 : H l = none := u04.none B4 nl;have mb : m ≠ b := λz => B2.at (by rw [<- z]; exact nm0)
    have pb : p ≠ b := λz => B3.at (by rw [<- z]; exact np)
    have lb : l ≠ b := λz => B4.at (by rw [<- z]; exact nl)
    have gm4 := u4.other mb gm;have gm5 := u5.other mb gm4;have gp5 := u5.other pb gp;have mp : m ≠ p := λz => by rw [z, np] at gm; cases gm
    have ml : m ≠ l := λz => by rw [z, nl] at gm4; cases gm4
    have pl : p ≠ l := λz => by rw [z, nl] at gp; cases gp
    have mq : m ≠ q0 := λz => Inner.at B2 (u02.2 _ I0) (by rw [<- z]; exact nm0)
    obtain ⟨A, eA⟩ : ∃ A : Addr → Prop, A = λq => H q = none /\ q ≠ m /\ q ≠ p /\ q ≠ l := ⟨_, rfl⟩
    have mkA : ∀ {q}, H q = none → q ≠ m → q ≠ p → q ≠ l → A q := λh1 h2 h3 h4 => by rw [eA]; exact ⟨h1, h2, h3, h4⟩
    have unA : ∀ {q}, A q → H q = none /\ q ≠ m /\ q ≠ p /\ q ≠ l := λh => by rw [eA] at h; exact h
    have MA : CN A m p l b q0 := ⟨λz => (unA z).2.1 rfl, λz => (unA z).2.2.1 rfl, λz => (unA z).2.2.2 rfl, λz => hB.at (unA z).1, (λz => by have z1 := (unA z).1; rw [gq0] at z1; cases z1), mb, pb, lb, mp, ml, mq⟩;clear eA;have lws : ws.length = i := by rw [<- pr4.length]; exact lp
    have lvs : vs.length = o := by rw [<- pr5.length]; exact ll
    have alM : ∀ q, V.ref q ∈ us → H3 q ≠ none /\ q ≠ b /\ H4 q ≠ none := λq hq => by
      obtain ⟨q', qs, e, ⟨a1, a2⟩, r, z⟩ := rm _ hq;cases e;have qb : q ≠ b := λy => B2.at (by rw [<- y]; exact a1)
      obtain ⟨xq, gq, _⟩ := id r;obtain ⟨xq4, gq4, _⟩ := r.upto u4 B3 qb;exact ⟨(by rw [gq]; exact λz => nomatch z), qb, (by rw [gq4]; exact λz => nomatch z)⟩
    have alP : ∀ q, V.ref q ∈ ws → H3 q = none /\ H4 q ≠ none := λq hq => by
      obtain ⟨_, _, q', e, a, _, g, _⟩ := dj pr4 hq;cases e;exact ⟨a, by rw [g]; exact λz => nomatch z⟩
    have alL : ∀ q, V.ref q ∈ vs → H4 q = none := λq hq => by
      obtain ⟨_, _, q', e, a, _⟩ := dj pr5 hq;cases e;exact a
    have isR : ∀ x, x ∈ us \/ x ∈ ws \/ x ∈ vs → ∃ q, x = V.ref q := λx hx => by
      rcases hx with hx | hx | hx
      · obtain ⟨q, _, e, _⟩ := rm x hx; exact ⟨q, e⟩
      · obtain ⟨_, _, q, e, _⟩ := dj pr4 hx; exact ⟨q, e⟩
      · obtain ⟨_, _, q, e, _⟩ := dj pr5 hx; exact ⟨q, e⟩
    have nd : (us ++ vs ++ ws).Nodup := by
      refine dW.mpr ⟨dW.mpr ⟨ndm, ndl, λx hx y hy e => ?_⟩, ndp, λx hx y hy e => ?_⟩
      · subst e;obtain ⟨q, rfl⟩ := isR x (.inl hx);exact (alM q hx).2.2 (alL q hy)
      · subst e;obtain ⟨q, rfl⟩ := isR x (.inr (.inl hy));rcases aI.mp hx with hx | hx
        · exact (alM q hx).1 (alP q hy).1
        · exact (alP q hy).2 (alL q hx)
    have X5 : CJ K A n (Dr (max w 6)) m p l b q0 us ws vs H H5 := by
      refine ⟨⟨B5, u05.2 _ I0, gm5, gp5, gl, lm, λx hx => ?_, nd⟩, gp5, gl, λc u e n1 _ _ => u05.1 c u e n1⟩;rcases aI.mp hx with hx | hx
      · rcases aI.mp hx with hx | hx
        · obtain ⟨q, qs, e, ⟨a1, a2⟩, r, z⟩ := rm x hx;obtain ⟨xq, gq, _⟩ := id r;have qb : q ≠ b := λy => B2.at (by rw [<- y]; exact a1)
          have r4 := r.upto u4 B3 qb;obtain ⟨xq4, gq4, _⟩ := id r4;exact ⟨q, qs, e, mkA (u02.none B2 a1) a2 (λy => by rw [y, np] at gq; cases gq) (λy => by rw [y, nl] at gq4; cases gq4), r4.upto u5 B4 qb, z⟩
        · refine E6 (A := A) pr5 hl (λq hq a b' => ?_) x hx;exact mkA (u04.none B4 a) (λy => by rw [y, gm4] at a; cases a) (λy => by rw [y, gp] at a; cases a) (λy => mQ nx5 (by rw [<- y]; exact hq))
      · refine e8.upto (E6 (A := A) pr4 hp (λq hq a b' => ?_) x hx) u5 B4 MA.ab;exact mkA (u03.none B3 a) (λy => by rw [y, gm] at a; cases a) (λy => mQ nx4 (by rw [<- y]; exact hq)) (λy => b' (by rw [y]; exact nl))
    clear alM alP alL isR rm pr4 pr5 nx4 nx5 gm gm4 gm5 gp gp5 gl hp hl;walk_at "w";refine ⟨by lia, by lia, ?_⟩;refine d7 (n := n) (λkk σ' H' => (∃ x1 x2, σ' = [some (.ref b), some (.int n), some (.int i), some (.int o), some (.int w), some (.int way), some (.int first), some (.ref m), some (.ref p), some (.ref l), x1, x2]) /\ CJ K A n (Dr (max w 6)) m p l b q0 us ws vs H H') ⟨⟨_, _, rfl⟩, X5⟩ ?_ ?_
    · rintro kk σ' Hj hk ⟨⟨x1, x2, rfl⟩, X⟩;walk_at "w";refine ⟨⟨_, bI.of X.gp⟩, ?_⟩;refine ou (K := K) (a := p) (xs := ws) (λs σ' H' => (∃ x2, σ' = [some (.ref b), some (.int n), some (.int i), some (.int o), some (.int w), some (.int way), some (.int first), some (.ref m), some (.ref p), some (.ref l), some (.int kk), x2]) /\ CJ K A n (Dr (max w 6)) m p l b q0 us ws vs H H') ⟨⟨_, rfl⟩, X⟩ (λs σ' H' _ ⟨_, e⟩ => bI.of e.gp) ?_ ?_
      · rintro s x σ' Hk hx ⟨⟨y2, rfl⟩, X⟩;have mx := ak hx;obtain ⟨q, _, rfl, _⟩ := X.row (.inl mx)
        repeat' (first | walk_at "rd" | refine iP (λ_ => ?_) (λ_ => ?_))
        all_goals first
          | exact ⟨⟨_, rfl⟩, X⟩
          | (refine cF λt Hb sb gb => ?_
             walk_at "w";obtain ⟨zs, gz, lz, Xz⟩ := (X.same sb).put MA (.inl mx) (b6.mk (q := 0) gb rfl) (qr (i := 0) (bo _) W1) kk;refine eB gz (eV (by lia)) rfl ?_;exact ⟨⟨_, rfl⟩, Xz⟩)
          | (refine ⟨b, 2, rfl, X.mix.bag, by decide, by decide, λd Hd d0 d1 Bd ud => ?_⟩
             replace X := X.upto MA ud Bd
             repeat' (first | walk_at "rd" | refine iP (λ_ => ?_) (λ_ => ?_))
             all_goals first
               | exact ⟨⟨_, rfl⟩, X⟩
               | (refine cF λt Hb sb gb => ?_
                  walk_at "w";obtain ⟨zs, gz, lz, Xz⟩ := (X.same sb).put MA (.inl mx) (b6.mk (q := 0) gb rfl) (qr (i := 0) (bo _) W1) kk;refine eB gz (eV (by lia)) rfl ?_;exact ⟨⟨_, rfl⟩, Xz⟩))
      · rintro σ' Hk ⟨⟨y2, rfl⟩, X⟩;walk_at "w";refine ⟨⟨_, bI.of X.gl⟩, ?_⟩;refine ou (K := K) (a := l) (xs := vs) (λs σ' H' => (∃ x2, σ' = [some (.ref b), some (.int n), some (.int i), some (.int o), some (.int w), some (.int way), some (.int first), some (.ref m), some (.ref p), some (.ref l), some (.int kk), x2]) /\ CJ K A n (Dr (max w 6)) m p l b q0 us ws vs H H') ⟨⟨_, rfl⟩, X⟩ (λs σ' H' _ ⟨_, e⟩ => bI.of e.gl) ?_ ?_
        · rintro s x σ' Hk hx ⟨⟨y2, rfl⟩, X⟩;have mx := ak hx;obtain ⟨q, _, rfl, _⟩ := X.row (.inr mx)
          repeat' (first | walk_at "rd" | refine iP (λ_ => ?_) (λ_ => ?_))
          all_goals first
            | exact ⟨⟨_, rfl⟩, X⟩
            | (refine cF λt Hb sb gb => ?_
               walk_at "w";obtain ⟨zs, gz, lz, Xz⟩ := (X.same sb).put MA (.inr mx) (b6.mk (q := 0) gb rfl) (qr (i := 0) (bo _) W1) kk;refine eB gz (eV (by lia)) rfl ?_;exact ⟨⟨_, rfl⟩, Xz⟩)
            | (refine ⟨b, 2, rfl, X.mix.bag, by decide, by decide, λd Hd d0 d1 Bd ud => ?_⟩
               replace X := X.upto MA ud Bd
               repeat' (first | walk_at "rd" | refine iP (λ_ => ?_) (λ_ => ?_))
               all_goals first
                 | exact ⟨⟨_, rfl⟩, X⟩
                 | (refine cF λt Hb sb gb => ?_
                    walk_at "w";obtain ⟨zs, gz, lz, Xz⟩ := (X.same sb).put MA (.inr mx) (b6.mk (q := 0) gb rfl) (qr (i := 0) (bo _) W1) kk;refine eB gz (eV (by lia)) rfl ?_;exact ⟨⟨_, rfl⟩, Xz⟩))
        · rintro σ' Hk ⟨⟨y2, rfl⟩, X⟩;exact ⟨⟨_, _, rfl⟩, X⟩
    · rintro σ' Hj ⟨⟨x1, x2, rfl⟩, X⟩
      obtain ⟨M1, M2, M3, V0, a1, a2, a3, V2, hcs, R1, R2, R3⟩ : ∃ M1 M2 M3 V0 : Nat, (0 < M1 /\ M1 ≤ 2 ^ 800) /\ (0 < M2 /\ M2 ≤ 2 ^ 800) /\ (0 < M3 /\ M3 ≤ 2 ^ 800) /\ V0 ≤ 2 ^ 20 /\ ((w ≤ 9 /\ M1 = 2520 /\ M2 = 2520 /\ M3 = 2520 /\ V0 = 9) \/ (9 < w /\ M1 ≤ 2 ^ (c * (n * n)) /\ M2 ≤ 2 ^ (c * (i * n)) /\ M3 ≤ 2 ^ (c * (o * n)) /\ V0 = 2 ^ c)) /\ (∀ x ∈ us, e8 K A Hj n (Fr M1 V0) x) /\ (∀ x ∈ ws, e8 K A Hj n (Fr M2 V0) x) /\ ∀ x ∈ vs, e8 K A Hj n (Fr M3 V0) x := by
        by_cases w9 : w ≤ 9
        · have XM := X.mix.weak (C' := λ_ => Fr 2520 9) λ_ _ y h => Ab ⟨ai h.1 (by lia), ai h.2 (by lia)⟩ (DT _)
          have z : 0 < 2520 /\ 2520 ≤ 2 ^ 800 := ⟨by decide, ai (show 2520 ≤ 2 ^ 12 by decide) (ah (by decide) (by decide))⟩;exact ⟨2520, 2520, 2520, 9, z, z, z, by decide, .inl ⟨w9, rfl, rfl, rfl, rfl⟩, λx hx => XM.row x (by simp [hx]), λx hx => XM.row x (by simp [hx]), λx hx => XM.row x (by simp [hx])⟩
        · obtain ⟨M1, M2, M3, a1, a2, a3, b1, b2, b3, R1, R2, R3⟩ := (X.mix.weak (C' := λ_ => Dr (2 ^ c)) λ_ _ y h => ⟨ai h.1 hc, ai h.2 hc⟩).fr3;rw [lws] at b2;rw [lvs] at b3;have up : ∀ {M k : Nat}, M ≤ 2 ^ (c * k) → k ≤ (n + i + o) * n → M ≤ 2 ^ 800 := λh hk => ai h (ah (by decide) (ai (gL _ hk) hcM))
          exact ⟨M1, M2, M3, 2 ^ c, ⟨a1, up b1 (aG _ (by lia))⟩, ⟨a2, up b2 (aG _ (by lia))⟩, ⟨a3, up b3 (aG _ (by lia))⟩, ah (by decide) hc20, .inr ⟨by lia, b1, b2, b3, rfl⟩, R1, R2, R3⟩
      obtain ⟨μ, e2, e3, e1, e4⟩ := Fx ws vs M1 M2 M3;obtain ⟨ap1, ap2⟩ := X.mix.apart
      have XM : ji K A Hj n (λx => Fr (μ x) V0) m p l b q0 us ws vs := by
        refine ⟨X.mix.bag, X.mix.inn, X.mix.gm, X.mix.gp, X.mix.gl, X.mix.lm, λx hx => ?_, X.mix.nd⟩;rcases aI.mp hx with hx | hx
        · rcases aI.mp hx with hx | hx
          · rw [e1 x (ap1 x hx).1 (ap1 x hx).2]; exact R1 x hx
          · rw [e3 x hx (ap2 x hx)]; exact R3 x hx
        · rw [e2 x hx]; exact R2 x hx
      have p1 : ∀ x, 0 < μ x := λx => by
        rcases e4 x with e | e | e
        · rw [e]; exact a1.1
        · rw [e]; exact a2.1
        · rw [e]; exact a3.1
      have p2 : ∀ x, μ x ≤ 2 ^ 800 := λx => by
        rcases e4 x with e | e | e
        · rw [e]; exact a1.2
        · rw [e]; exact a2.2
        · rw [e]; exact a3.2
      have gmj := X.mix.gm;walk_at "w";refine ⟨b, m, p, l, q0, n, V0, μ, A, us, ws, vs, rfl, MA, XM, n8, by lia, by lia, p1, p2, ⟨M1, e1⟩, V2, λq hq => ?_, λr us' H' g Y kp => ?_⟩
      · refine mkA ?_ (λz => by rw [z, gmj] at hq; cases hq) (λz => by rw [z, X.gp] at hq; cases hq) (λz => by rw [z, X.gl] at hq; cases hq);cases e : H q with
        | none => rfl
        | some u =>
          have := X.kp q u e (λz => X.mix.bag.at (by rw [<- z]; exact hq)) (λz => by have := (unA z).1; rw [e] at this; cases this) (λz => by rw [z, hm0] at e; cases e);rw [hq] at this; cases this
      · obtain ⟨yp1, yp2⟩ := Y.apart;obtain ⟨mv, Gm, lmv, hmv⟩ := tu (H0 := H) (n := n) (C := Fr M1 (9 ^ 3 * V0)) (m := n) ⟨us', Y.gm, Y.lm, MA.am, λx hx => by have := Y.row x (by simp [hx]); rwa [e1 x (yp1 x hx).1 (yp1 x hx).2] at this⟩ λq h => (unA h).1
        obtain ⟨pt, Gp, lpt, hpt⟩ := tu (H0 := H) (n := n) (C := Fr M2 (9 ^ 3 * V0)) (m := i) ⟨ws, Y.gp, lws, MA.ap, λx hx => by have := Y.row x (by simp [hx]); rwa [e2 x hx] at this⟩ λq h => (unA h).1
        obtain ⟨lk, Gl, llk, hlk⟩ := tu (H0 := H) (n := n) (C := Fr M3 (9 ^ 3 * V0)) (m := o) ⟨vs, Y.gl, lvs, MA.al, λx hx => by have := Y.row x (by simp [hx]); rwa [e3 x hx (yp2 x hx)] at this⟩ λq h => (unA h).1
        refine k r mv pt lk H' ⟨m, p, l, g, hm0, hp0, hl0, Gm, Gp, Gl⟩ lmv lpt llk ⟨by lia, by lia, by lia, λxs hx => by rw [(hmv xs hx).1, lmv], λxs hx => by rw [(hpt xs hx).1, lmv], λxs hx => by rw [(hlk xs hx).1, lmv]⟩ ⟨M1, M2, M3, 9 ^ 3 * V0, a1.1, a2.1, a3.1, λxs hx => (hmv xs hx).2, λxs hx => (hpt xs hx).2, λxs hx => (hlk xs hx).2, ?_⟩ Y.bag ⟨λc' u e n1 => (X.kp.trans kp) c' u e n1 (λz => by have := (unA z).1; rw [e] at this; cases this) (λz => by rw [z, hm0] at e; cases e), λq h => by rw [<- Inner.inj I0 h]; exact Y.inn⟩;rcases hcs with ⟨b1, b2, b3, b4, b5⟩ | ⟨b1, b2, b3, b4, b5⟩
        · exact .inl ⟨b1, b2, b3, b4, by rw [b5]⟩
        · exact .inr ⟨b1, b2, b3, b4, by rw [b5]⟩
theorem zB:aX ["thing","at","most"] ["thing","at","most"] (aw il):=by walk_at "d"
theorem oM (T:Txt K mg Z):cw P w K mg base gX 1 Z.ng Z.mR ["thing","at","most"] CY:=by
 refine T.kh.ok zB (λvs H Q E h=>?_) (λcdv A outer s H vs Q E hr h=>?_)
 ·obtain ⟨p,xs,a,m,rfl,_⟩:=h;rfl
 ·obtain ⟨p,xs,a,m,rfl,gx,hm,k⟩:=h
  refine ⟨_,(av (dc (kq (ko (zK rfl T.isinstance PyProof.Rows.boot_list T.list (pv 0)))) (ax Fh) bV)
   (ax (dc (bq yP (bS bB (by rfl) T.len bx (ae (pv 0) aj)) (pv 2) (bA _)) (ax Fh) bV))),?_⟩
  refine aL (σ:=[some (.ref p),some (.int a),some (.int m)]) rfl ?_;walk_at "w";refine ⟨_,_,.lst gx,rfl,?_⟩;walk_at "w";refine ⟨_,_,rfl,.inl (bI.of gx),?_⟩;walk_at "w";rw[decide_eq_false (show ¬m < (xs.length:Int) by lia)];walk_at "w";exact k
theorem AM:aX ["thing"] ["thing"] (aw jo):=by walk_at "d"
theorem vE (T:Txt K mg Z):cw P w K mg base gX 1 Z.pz Z.oX ["thing"] DY:=by
 refine T.pK.ok AM (λvs H Q E h=>?_) (λcdv A outer s H vs Q E hr h=>?_)
 ·obtain ⟨i,rfl,_⟩:=h;rfl
 ·obtain ⟨i,rfl,k⟩:=h;refine ⟨_,(ax (bf (xc (zK rfl T.isinstance PyProof.Rows.boot_int T.int (pv 0)) (zJ (J9 (zK rfl T.isinstance PyProof.Rows.boot_bool T.bool (pv 0))))))),?_⟩;refine aL (σ:=[some (.int i)]) rfl ?_;walk_at "w";refine ⟨_,_,.int i,rfl,?_⟩;walk_at "w";refine ⟨_,_,.int i,rfl,?_⟩;walk_at "w";exact k
theorem fH:aX ["one","other","rest"] ["one","other"] (aw dz):=by walk_at "d"
theorem i5 (T:Txt K mg Z):cw P w K mg base gX 1 Z.gK Z.gG ["one","other"] K9:=by
 refine T.eG.ok fH (λvs H Q E h=>?_) (λcdv A outer s H vs Q E hr h=>?_)
 ·obtain ⟨a,b,rfl,_⟩:=h;rfl
 ·obtain ⟨a,b,rfl,k⟩:=h
  refine ⟨_,(av (wY PassesOwn.never (bq A2 (pv 1) ao (bA _))
    (av (aY (i:=2) fH.nd rfl (Or.inl rfl) (bN Il (pv 0) (pv 1)))
   (av (aY (i:=0) fH.nd rfl (Or.inl rfl) (pv 1))
   (ax (aY (i:=1) fH.nd rfl (Or.inl rfl) (pv 2))))))
   (ax (bf (bS xJ (by rfl) T.abs PyProof.Rows.boot_abs (ae (pv 0) aj))))),?_⟩
  refine aL (σ:=[some (.int a),some (.int b),none]) rfl ?_;walk_at "w";refine zm (λσ' H'=>∃(u v:Int) (r:Option V),σ'=[some (.int u),some (.int v),r]/\H'=H/\Int.gcd u v=Int.gcd a b) (λσ' _=>match σ' with | [_,some (.int v),_]=>v.natAbs | _=>0) ⟨a,b,none,rfl,rfl,rfl⟩ ?_;rintro σ' H' ⟨u,v,r,rfl,rfl,hg⟩;walk_at "w";refine iP (λh=>?_) (λh=>?_)
  ·have hv:v≠0:=λz=>by subst z;simp at h
   walk_at "w";refine fQ (show v≠0 from hv) ?_;walk_at "w";exact ⟨⟨v,u.fmod v,_,rfl,rfl,(FP u v).trans hg⟩,Iz u v hv⟩
  ·have hv:v=0:=by
    by_cases z:v=0
    ·exact z
    ·exfalso;apply h;simp [z]
   subst hv;walk_at "w"
   have e:(if u < 0 then -u else u)=g a b:=by
    unfold g;rw[<- hg,Int.gcd_zero_right]
    split <;> lia
   rw[e];exact k
theorem zD:aX ["thing"] ["thing"] (aw iu):=by walk_at "d"
theorem zP (T:Txt K mg Z):cw P w K mg base gX 2 Z.nk Z.mU ["thing"] (D1 K):=by
 refine T.qH.ok zD (λvs H Q E h=>?_) (λcdv A outer s H vs Q E hr h=>?_)
 ·obtain ⟨x,n,rfl,_⟩:=h;rfl
 ·obtain ⟨x,n,rfl,⟨p,rfl,hp⟩,hn,k⟩:=h
  refine ⟨_,(av (dc (PW.pt (p8 (kq (ko (Ig rfl T.isinstance PyProof.Rows.boot_tuple T.tuple (pv 0)))) (nM (bq A2 (bS bB (by rfl) T.len bx (ae (pv 0) aj)) ao (bA _))))) (ax (bf tW)) bV)
   (av (dc (PW.pt (p8 (kq (ko (cA (vE T) hr T.qh T.pK.kp T.tD (ae (be bT (pv 0) ao) aj)))) (nM (kq (ko (cA (vE T) hr T.qh T.pK.kp T.tD (ae (be bT (pv 0) ao) aj))))))) (ax (bf tW)) bV)
   (ax (bf (xc (mN yQ (be bT (pv 0) ao) ao (bA _)) (zJ (mN gN (cA (i5 T) hr T.fI T.eG.kp T.gJ (ae (be bT (pv 0) ao) (ae (be bT (pv 0) ao) aj))) ao (bA _)))))))),?_⟩
  refine aL (σ:=[some (.ref p)]) rfl ?_;obtain ⟨hb,hg,s1,s2⟩:=hn;walk_at "w";refine .inr ⟨p,_,_,rfl,hp,rfl,?_⟩;walk_at "w";refine ⟨_,_,rfl,.inr hp,?_⟩;walk_at "w"
  try refine Kl ?_
  walk_at "w";refine ⟨n.1,rfl,?_⟩;walk_at "w";refine ⟨n.2,rfl,?_⟩;walk_at "w";rw[decide_eq_true (show (1:Int)<=n.2 by lia)];walk_at "w";refine ⟨n.1,n.2,rfl,?_⟩;walk_at "w";have e:g n.1 n.2=1:=by unfold g;rw[hg];rfl
  rw[e,decide_eq_true rfl];exact k _ (aH.refl _)
theorem D3:aX ["thing","many"] ["thing","many"] (aw oa):=by walk_at "d"
theorem Ec (T:Txt K mg Z):cw P w K mg base gX 3 Z.uI Z.uv ["thing","many"] (yF K):=by
 refine T.xT.ok D3 (λvs H Q E h=>?_) (λcdv A outer s H vs Q E hr h=>?_)
 ·obtain ⟨p,ns,rfl,_⟩:=h;rfl
 ·obtain ⟨p,ns,rfl,hp,hl,hn,k⟩:=h
  refine ⟨_,(av (dc (PW.pt (p8 (kq (ko (zK rfl T.isinstance PyProof.Rows.boot_list T.list (pv 0)))) (nM (bq A2 (bS bB (by rfl) T.len bx (ae (pv 0) aj)) (pv 1) (bA _))))) (ax (bf tW)) bV)
   (ax (bf (bS (Gz rfl) (by rfl) T.all PyProof.Rows.boot_all (ae (ck ["value"] [] [] (cG (pv 0)) (λ_=>(aK (i:=0) (show List.Nodup (α:=PySem.Str) ["value"] by decide +kernel))) (λ_=>cu) (λ_=>(cA (zP T) hr T.tZ T.qH.kp T.vL (ae (pv 0) aj)))) aj))))),?_⟩
  refine aL (σ:=[some (.ref p),some (.int ns.length)]) rfl ?_;obtain ⟨xs,gx,qx⟩:=id hp;have lx:=qx.length;walk_at "w";refine ⟨_,_,.lst gx,rfl,?_⟩;walk_at "w";refine ⟨_,_,rfl,.inl (bI.of gx),?_⟩;walk_at "w";rw[show ((xs.length:Nat):Int)=(ns.length:Nat) by rw[lx],decide_eq_true rfl];walk_at "w";refine ⟨⟨_,bI.of gx⟩,?_⟩;refine fw (K:=K) (xs:=xs) (λi ys H'=>aH H H'/\ys=List.replicate i (.bl true)) (bh (bL (by lia))) ⟨aH.refl _,rfl⟩ (λi ys H' _ ⟨s,_⟩=>bI.of (s _ _ gx)) ?_ ?_
  ·rintro i x ys H' hx hlen ⟨s,rfl⟩;obtain ⟨n,en,z⟩:=b8 qx hx;walk_at "w";exact ⟨x,n,rfl,s.num z,hn n (ak en),λH2 s2=>⟨s.trans s2,by rw[List.replicate_succ']⟩⟩
  ·rintro ys H' hy ⟨s,rfl⟩ l hl';walk_at "w";refine ⟨l,List.replicate xs.length true,rfl,bI.of (by rw[aF];simp),?_⟩;have e4:(List.replicate xs.length true).all id=true:=by simp
   rw[e4];exact k _ (s.trans (aH.new hl'))
theorem ma:aX ["things","wide","place","thing"] ["things","wide"] (aw fk):=by walk_at "d"
theorem mh (T:Txt K mg Z):cw P w K mg base gX 4 Z.jS Z.jH ["things","wide"] (C0 K):=by
 refine T.gW.ok ma (λvs H Q E h=>?_) (λcdv A outer s H vs Q E hr h=>?_)
 ·obtain ⟨p,H0,rows,w,rfl,_⟩:=h;rfl
 ·obtain ⟨p,H0,rows,w,rfl,hp,hl,hw,hn,k⟩:=h
  refine ⟨_,(av (eS PassesOwn.never rfl (Dc rfl T.enumerate (ae (pv 0) aj)) (w5 rfl (cb (aK (i:=2) ma.nd) (cb (aK (i:=3) ma.nd) iX)))
    (ax (dc (kq (ko (cA (Ec T) hr T.yS T.xT.kp T.BH (ae (pv 3) (ae (pv 1) aj))))) (ax Fh) bV)))
   (ax (bf (ck ["row"] [] [] (cG (pv 0)) (λ_=>(aK (i:=0) (show List.Nodup (α:=PySem.Str) ["row"] by decide +kernel))) (λ_=>cu) (λ_=>(lS (sG K (by rfl)) (by rfl) T.list PyProof.Rows.boot_list (ae (pv 0) aj))))))),?_⟩
  refine aL (σ:=[some (.ref p),some (.int w),none,none]) rfl ?_;obtain ⟨xs,gx,qx,_⟩:=id hp;walk_at "w";refine ⟨⟨_,bI.of gx⟩,?_⟩;refine FT (K:=K) (l:=p) (xs:=xs) (λi σ' H'=>aH H H'/\∃x y,σ'=[some (.ref p),some (.int w),x,y]) ⟨aH.refl _,none,none,rfl⟩ (λi σ' H' _ ⟨s,_⟩=>bI.of (s _ _ gx)) ?_ ?_
  ·rintro i x σ' H' t hx ⟨s,x1,y1,rfl⟩ ht;obtain ⟨qs,eq,q,rfl,_,Rq⟩:=b8 qx hx;have hm:=ak eq;have st:aH H' (upd H' t (.tup [.int i,.ref q])):=aH.new ht;have gt:(upd H' t (.tup [.int i,.ref q])) t=some (.tup [.int i,.ref q]):=aF;have s2:=s.trans st;generalize upd H' t (.tup [.int i,.ref q])=H2 at st gt s2 ⊢;have lq:(qs.map nm).length=w:=by rw[ag];exact (hn qs hm).1
   walk_at "w";refine ⟨q,_,by rw[lq],(Rq.same s2).rowK,by rw[lq];exact hw,λn hn'=>?_,λH3 s3=>?_⟩
   ·obtain ⟨y,hy,rfl⟩:=ay.mp hn';exact (hn qs hm).2 y hy
   walk_at "w";exact ⟨s2.trans s3,_,_,rfl⟩
  ·rintro σ' H' ⟨s,x1,y1,rfl⟩;walk_at "w";refine ⟨⟨_,bI.of (s _ _ gx)⟩,?_⟩;refine dA (K:=K) (F:=cZ K H0) (cZ K H) id (s _ _ gx) (Paired.imp' (λ_ _ z=>z.same s) qx) hl (λa b=>a.same b) (λa b=>a.same b) ?_ ?_
   ·rintro i ns x H2 NY NN en s2 ⟨u,rfl,_,zs,gz,qz⟩ k1;walk_at "w";refine ⟨u,zs,rfl,.inl (bI.of gz),λl1 hl1=>?_⟩;exact k1 _ _ (aH.new hl1) ⟨l1,rfl,s.none (s2.none hl1),zs,aF,Paired.imp' (λ_ _ z=>z.same (aH.new hl1)) qz⟩
   ·rintro ys' H2 r hr s2 g pr nx;rw[List.map_id] at pr nx;exact k r H2 (s.none hr) (s.trans s2) ⟨ys',g,pr,mQ nx⟩
theorem sS:aX ["self","move","put","look"] ["self","move","put","look"] (aw dg):=by walk_at "d"
theorem mi (T:Txt K mg Z):cw P w K mg base gX 5 Z.fN Z.fK ["self","move","put","look"] (CZ K Z.a_System):=by
 refine T.nH.ok sS (λvs H Q E h=>?_) (λcdv A outer s H vs Q E hr h=>?_)
 ·obtain ⟨x,dx,p,q,r,Hb,H0,H1,H2,mv,pt,lk,rfl,_⟩:=h;rfl
 ·obtain ⟨x,dx,p,q,r,Hb,H0,H1,H2,mv,pt,lk,rfl,nx,ndx,nex,rfl,gp,gq,gr,D,om,op,ol,k⟩:=h
  refine ⟨_,(av (kF (cA (oM T) hr T.kI T.kh.kp T.m7 (ae (pv 1) (ae ao (ae (mM (v:=.int 8) rfl T.mg_MOST_STATES ⟨_,rfl⟩) aj)))))
   (av (uT (pv 0) (cA (mh T) hr T.ja T.gW.kp T.jO (ae (pv 1) (ae (bS bB (by rfl) T.len bx (ae (pv 1) aj)) aj))) rfl)
   (av (uT (pv 0) (bS bB (by rfl) T.len bx (ae (cR (pv 0) rfl) aj)) rfl)
   (av (kF (cA (oM T) hr T.kI T.kh.kp T.m7 (ae (pv 2) (ae ao (ae (mM (v:=.int 4) rfl T.mg_MOST_PUTS ⟨_,rfl⟩) aj)))))
   (av (uT (pv 0) (cA (mh T) hr T.ja T.gW.kp T.jO (ae (pv 2) (ae (cR (pv 0) rfl) aj))) rfl)
   (av (uT (pv 0) (bS bB (by rfl) T.len bx (ae (cR (pv 0) rfl) aj)) rfl)
   (av (kF (cA (oM T) hr T.kI T.kh.kp T.m7 (ae (pv 3) (ae ao (ae (mM (v:=.int 4) rfl T.mg_MOST_LOOKS ⟨_,rfl⟩) aj)))))
   (av (uT (pv 0) (cA (mh T) hr T.ja T.gW.kp T.jO (ae (pv 3) (ae (cR (pv 0) rfl) aj))) rfl)
   (ax (uT (pv 0) (bS bB (by rfl) T.len bx (ae (cR (pv 0) rfl) aj)) rfl)))))))))),?_⟩
  refine aL (σ:=[some (.ref x),some (.ref p),some (.ref q),some (.ref r)]) rfl ?_
  have s0:aH Hb (upd (upd Hb dx (.own x)) x (.ins Z.a_System dx [])):=λb o e=>by
   rw[aU (d6 e nx),aU (d6 e ndx)];exact e
  have hx:(upd (upd Hb dx (.own x)) x (.ins Z.a_System dx [])) x=some (.ins Z.a_System dx []):=aF;have back:∀{b},(upd (upd Hb dx (.own x)) x (.ins Z.a_System dx [])) b=none->Hb b=none:=λh=>s0.none h
  generalize upd (upd Hb dx (.own x)) x (.ins Z.a_System dx [])=Ha at s0 hx back ⊢;obtain ⟨xs,gx,qx,_⟩:=id gp;obtain ⟨ys,gy,qy,_⟩:=id gq;obtain ⟨zs,gz,qz,_⟩:=id gr;have lx:=qx.length;have ly:=qy.length;have lz:=qz.length;have d1:=D.n8;have d2:=D.i4;have d3:=D.o4;walk_at "w";refine ⟨p,xs,0,8,rfl,s0 _ _ gx,by lia,?_⟩;walk_at "w";refine ⟨_,_,rfl,.inl (bI.of (s0 _ _ gx)),?_⟩;walk_at "w";refine ⟨p,H0,mv,mv.length,by rw[lx],gp.same s0,by lia,by lia,λws hw=>⟨D.mw ws hw,om ws hw⟩,λa H3 na s3 Ga=>?_⟩;have hx3:=s3 _ _ hx;walk_at "w";refine ⟨x,Z.a_System,dx,_,rfl,hx3,T.cl_System,T.na_move,(by show 0 < 1000;decide),?_⟩;have e3:Ao x H3 (upd H3 x (.ins Z.a_System dx (bQ "move" (.ref a) []))):=Ao.upd;have i3:sL H3 x:=⟨_,_,_,hx3⟩;have hx4:(upd H3 x (.ins Z.a_System dx (bQ "move" (.ref a) []))) x=some (.ins Z.a_System dx (bQ "move" (.ref a) [])):=aF;have Ga4:=Ga.exc e3 i3;have k4:aH Hb (upd H3 x (.ins Z.a_System dx (bQ "move" (.ref a) []))):=(s0.trans s3).after nx;generalize upd H3 x (.ins Z.a_System dx (bQ "move" (.ref a) []))=H4 at e3 hx4 Ga4 k4 ⊢;walk_at "w";refine ⟨x,Z.a_System,dx,_,_,rfl,hx4,T.cl_System,T.na_move,(by rw[aO,if_pos rfl]),?_⟩;obtain ⟨as,ga,qa,_⟩:=id Ga4;have la:=qa.length;walk_at "w";refine ⟨_,_,rfl,.inl (bI.of ga),?_⟩;walk_at "w";refine ⟨x,Z.a_System,dx,_,rfl,hx4,T.cl_System,T.na_states,bc dm (by show 1 < 1000;decide),?_⟩;rw[show ((as.length:Nat):Int)=((mv.length:Nat):Int) by rw[la]];have e4:Ao x H4 (upd H4 x (.ins Z.a_System dx (bQ "states" (.int mv.length) (bQ "move" (.ref a) [])))):=Ao.upd;have i4:sL H4 x:=⟨_,_,_,hx4⟩;have hx5:(upd H4 x (.ins Z.a_System dx (bQ "states" (.int mv.length) (bQ "move" (.ref a) [])))) x=some (.ins Z.a_System dx (bQ "states" (.int mv.length) (bQ "move" (.ref a) []))):=aF;have Ga5:=Ga4.exc e4 i4;have k5:aH Hb (upd H4 x (.ins Z.a_System dx (bQ "states" (.int mv.length) (bQ "move" (.ref a) [])))):=k4.after nx;generalize upd H4 x (.ins Z.a_System dx (bQ "states" (.int mv.length) (bQ "move" (.ref a) [])))=H5 at e4 hx5 Ga5 k5 ⊢;clear e3 e4 i3 i4 hx4 Ga4 ga qa;walk_at "w";refine ⟨q,ys,1,4,rfl,k5 _ _ gy,by lia,?_⟩;walk_at "w";refine ⟨x,Z.a_System,dx,_,_,rfl,hx5,T.cl_System,T.na_states,(by rw[aO,if_pos rfl]),?_⟩;walk_at "w";refine ⟨q,H1,pt,mv.length,rfl,gq.same k5,by lia,by lia,λws hw=>⟨D.pw ws hw,op ws hw⟩,λb H6 nb s6 Gb=>?_⟩;have hx6:=s6 _ _ hx5;have i6:sL H6 x:=⟨_,_,_,hx6⟩;walk_at "w";refine ⟨x,Z.a_System,dx,_,rfl,hx6,T.cl_System,T.na_put,bc dm (bc (cU dm) (by show 2 < 1000;decide)),?_⟩;have e6:Ao x H6 (upd H6 x (.ins Z.a_System dx (bQ "put" (.ref b) (bQ "states" (.int mv.length) (bQ "move" (.ref a) []))))):=Ao.upd;have hx7:(upd H6 x (.ins Z.a_System dx (bQ "put" (.ref b) (bQ "states" (.int mv.length) (bQ "move" (.ref a) []))))) x=some (.ins Z.a_System dx (bQ "put" (.ref b) (bQ "states" (.int mv.length) (bQ "move" (.ref a) [])))):=aF;have Ga7:=(Ga5.same s6).exc e6 i6;have Gb7:=(Gb.weak k5).exc e6 i6;have k7:aH Hb (upd H6 x (.ins Z.a_System dx (bQ "put" (.ref b) (bQ "states" (.int mv.length) (bQ "move" (.ref a) []))))):=(k5.trans s6).after nx;generalize upd H6 x (.ins Z.a_System dx (bQ "put" (.ref b) (bQ "states" (.int mv.length) (bQ "move" (.ref a) []))))=H7 at e6 hx7 Ga7 Gb7 k7 ⊢;obtain ⟨bs,gb,qb,_⟩:=id Gb7;have lb:=qb.length;walk_at "w";refine ⟨x,Z.a_System,dx,_,_,rfl,hx7,T.cl_System,T.na_put,(by rw[aO,if_pos rfl]),?_⟩;walk_at "w";refine ⟨_,_,rfl,.inl (bI.of gb),?_⟩;walk_at "w";refine ⟨x,Z.a_System,dx,_,rfl,hx7,T.cl_System,T.na_ins,bc dm (bc (cU (ai dm (cU dm))) (by show 3 < 1000;decide)),?_⟩;rw[show ((bs.length:Nat):Int)=((pt.length:Nat):Int) by rw[lb]];have i7:sL H7 x:=⟨_,_,_,hx7⟩;have e7:Ao x H7 (upd H7 x (.ins Z.a_System dx (bQ "ins" (.int pt.length) (bQ "put" (.ref b) (bQ "states" (.int mv.length) (bQ "move" (.ref a) [])))))):=Ao.upd;have hx8:(upd H7 x (.ins Z.a_System dx (bQ "ins" (.int pt.length) (bQ "put" (.ref b) (bQ "states" (.int mv.length) (bQ "move" (.ref a) [])))))) x=some (.ins Z.a_System dx (bQ "ins" (.int pt.length) (bQ "put" (.ref b) (bQ "states" (.int mv.length) (bQ "move" (.ref a) []))))):=aF;have Ga8:=Ga7.exc e7 i7;have Gb8:=Gb7.exc e7 i7;have k8:aH Hb (upd H7 x (.ins Z.a_System dx (bQ "ins" (.int pt.length) (bQ "put" (.ref b) (bQ "states" (.int mv.length) (bQ "move" (.ref a) [])))))):=k7.after nx;generalize upd H7 x (.ins Z.a_System dx (bQ "ins" (.int pt.length) (bQ "put" (.ref b) (bQ "states" (.int mv.length) (bQ "move" (.ref a) [])))))=H8 at e7 hx8 Ga8 Gb8 k8 ⊢;clear e6 e7 i6 i7 hx7 Ga7 Gb7 gb qb;walk_at "w";refine ⟨r,zs,2,4,rfl,k8 _ _ gz,by lia,?_⟩;walk_at "w";refine ⟨x,Z.a_System,dx,_,_,rfl,hx8,T.cl_System,T.na_states,(by rw[aO,if_neg (by decide +kernel),aO,if_neg (by decide +kernel),aO,if_pos rfl]),?_⟩;walk_at "w";refine ⟨r,H2,lk,mv.length,rfl,gr.same k8,by lia,by lia,λws hw=>⟨D.lw ws hw,ol ws hw⟩,λc H9 nc s9 Gc=>?_⟩;have hx9:=s9 _ _ hx8;have i9:sL H9 x:=⟨_,_,_,hx9⟩;walk_at "w";refine ⟨x,Z.a_System,dx,_,rfl,hx9,T.cl_System,T.na_look,bc dm (bc (cU (ai dm (cU (ai dm (cU dm))))) (by show 4 < 1000;decide)),?_⟩;have e9:Ao x H9 (upd H9 x (.ins Z.a_System dx (bQ "look" (.ref c) (bQ "ins" (.int pt.length) (bQ "put" (.ref b) (bQ "states" (.int mv.length) (bQ "move" (.ref a) []))))))):=Ao.upd;have hxA:(upd H9 x (.ins Z.a_System dx (bQ "look" (.ref c) (bQ "ins" (.int pt.length) (bQ "put" (.ref b) (bQ "states" (.int mv.length) (bQ "move" (.ref a) []))))))) x=some (.ins Z.a_System dx (bQ "look" (.ref c) (bQ "ins" (.int pt.length) (bQ "put" (.ref b) (bQ "states" (.int mv.length) (bQ "move" (.ref a) [])))))):=aF;have GaA:=(Ga8.same s9).exc e9 i9;have GbA:=(Gb8.same s9).exc e9 i9;have GcA:=(Gc.weak k8).exc e9 i9;have kA:aH Hb (upd H9 x (.ins Z.a_System dx (bQ "look" (.ref c) (bQ "ins" (.int pt.length) (bQ "put" (.ref b) (bQ "states" (.int mv.length) (bQ "move" (.ref a) []))))))):=(k8.trans s9).after nx;generalize upd H9 x (.ins Z.a_System dx (bQ "look" (.ref c) (bQ "ins" (.int pt.length) (bQ "put" (.ref b) (bQ "states" (.int mv.length) (bQ "move" (.ref a) []))))))=HA at e9 hxA GaA GbA GcA kA ⊢;obtain ⟨cs,gc,qc,_⟩:=id GcA;have lc:=qc.length;walk_at "w";refine ⟨x,Z.a_System,dx,_,_,rfl,hxA,T.cl_System,T.na_look,(by rw[aO,if_pos rfl]),?_⟩;walk_at "w";refine ⟨_,_,rfl,.inl (bI.of gc),?_⟩;walk_at "w";refine ⟨x,Z.a_System,dx,_,rfl,hxA,T.cl_System,T.na_outs,bc dm (bc (cU (ai dm (cU (ai dm (cU (ai dm (cU dm))))))) (by show 5 < 1000;decide)),?_⟩;rw[show ((cs.length:Nat):Int)=((lk.length:Nat):Int) by rw[lc]];have iA:sL HA x:=⟨_,_,_,hxA⟩;exact k _ (kA.after nx) ⟨dx,a,b,c,aF,back na,k5.none nb,k8.none nc,(GaA.exc Ao.upd iA).weak s0,GbA.exc Ao.upd iA,GcA.exc Ao.upd iA⟩
theorem wU:aX ["_law_grid"] ["_law_grid"] (aw fq):=by walk_at "d"
theorem fR (T:Txt K mg Z):cw P w K mg base gX 1 Z.jU Z.jJ ["_law_grid"] (wN K):=by
 refine T.ee.ok wU (λvs H Q E h=>?_) (λcdv A outer s H vs Q E hr h=>?_)
 ·obtain ⟨p,H0,rows,rfl,_⟩:=h;rfl
 ·obtain ⟨p,H0,rows,rfl,hp,hl,hm,k⟩:=h;refine ⟨_,(ax (bf (ck ["_law_row_here"] [] [] (cG (pv 0)) (λ_=>(aK (i:=0) (show List.Nodup (α:=PySem.Str) ["_law_row_here"] by decide +kernel))) (λ_=>cu) (λ_=>(lS (sG K (by rfl)) (by rfl) T.list PyProof.Rows.boot_list (ae (pv 0) aj)))))),?_⟩;refine aL (σ:=[some (.ref p)]) rfl ?_;obtain ⟨xs,gx,qx,_⟩:=id hp;walk_at "w";refine ⟨⟨_,bI.of gx⟩,?_⟩;refine dA (K:=K) (F:=cZ K H0) (cZ K H) id gx qx hl (λa b=>a.same b) (λa b=>a.same b) ?_ ?_
  ·rintro i ns x H' NY NN en s ⟨u,rfl,_,zs,gz,qz⟩ k1;walk_at "w";refine ⟨u,zs,rfl,.inl (bI.of gz),λl1 hl1=>?_⟩;exact k1 _ _ (aH.new hl1) ⟨l1,rfl,s.none hl1,zs,aF,Paired.imp' (λ_ _ z=>z.same (aH.new hl1)) qz⟩
  ·rintro ys' H' r hr s g pr nx;rw[List.map_id] at pr nx;exact k r H' hr s ⟨ys',g,pr,mQ nx⟩
theorem zG:aX ["_law_parts_here"] ["_law_parts_here"] (aw iF):=by walk_at "d"
theorem zS (T:Txt K mg Z):cw P w K mg base gX 7 Z.nE Z.m5 ["_law_parts_here"] (wI K Z.a_System):=by
 refine T.qK.ok zG (λvs H Q E h=>?_) (λcdv A outer s H vs Q E hr h=>?_)
 ·obtain ⟨r,H0,mv,pt,lk,rfl,_⟩:=h;rfl
 ·obtain ⟨r,H0,mv,pt,lk,rfl,PQ,D,F,k⟩:=h;refine ⟨_,(ax (bf (De T.mk_System (mi T) (hr.mono (by decide)) rfl T.mg_System T.je .nil A1 (ae (cA (fR T) hr T.eF T.ee.kp T.fA (ae (be bT (pv 0) ao) aj)) (ae (cA (fR T) hr T.eF T.ee.kp T.fA (ae (be bT (pv 0) ao) aj)) (ae (cA (fR T) hr T.eF T.ee.kp T.fA (ae (be bT (pv 0) ao) aj)) aj)))))),?_⟩;refine aL (σ:=[some (.ref r)]) rfl ?_;obtain ⟨m,p,l,g,n1,n2,n3,Gm,Gp,Gl⟩:=id PQ;have d1:=D.n8;have d2:=D.i4;have d3:=D.o4;walk_at "w";refine ⟨m,H0,mv,rfl,Gm,by lia,λxs hx=>by rw[D.mw xs hx];lia,λa H1 na s1 Ga=>?_⟩;have g1:=s1 _ _ g;walk_at "w";refine ⟨p,H0,pt,rfl,Gp.same s1,by lia,λxs hx=>by rw[D.pw xs hx];lia,λb H2 nb s2 Gb=>?_⟩;have s12:=s1.trans s2;have g2:=s12 _ _ g;walk_at "w";refine ⟨l,H0,lk,rfl,Gl.same s12,by lia,λxs hx=>by rw[D.lw xs hx];lia,λc H3 nc s3 Gc=>?_⟩;have s13:=s12.trans s3;walk_at "w";intro x dx nx ndx nex;exact ⟨x,dx,a,b,c,H3,H,H1,H2,mv,pt,lk,rfl,nx,ndx,nex,rfl,(Ga.same s2).same s3,Gb.same s3,Gc,D,F.ok.1,F.ok.2.1,F.ok.2.2,λH' s' S'=>⟨rfl,k x H' (s13.none nx) (s13.trans s') (S'.weak s13)⟩⟩
theorem wQ:aX ["grid","wide"] ["grid","wide"] (aw fh):=by walk_at "d"
theorem mf (T:Txt K mg Z):cw P w K mg base gX 1 Z.jQ Z.jF ["grid","wide"] (Az K):=by
 refine T.gV.ok wQ (λvs H Q E h=>?_) (λcdv A outer s H vs Q E hr h=>?_)
 ·obtain ⟨p,w,H0,rows,rfl,_⟩:=h;rfl
 ·obtain ⟨p,w,H0,rows,rfl,hp,hz,hw,hl,kk⟩:=h;refine ⟨_,(ax (bf (ck ["place"] ["grid"] [0] (cx rfl T.range (ae (pv 1) aj)) (λ_=>(aK (i:=0) (show List.Nodup (α:=PySem.Str) ["place","grid"] by decide +kernel) rfl (Or.inr rfl) (Or.inl rfl))) (λ_=>cu) (λ_=>(ck ["line"] ["place"] [0] (tV K (pv 1)) (λ_=>(aK (i:=0) (show List.Nodup (α:=PySem.Str) ["line","place"] by decide +kernel))) (λ_=>cu) (λ_=>(be (ot K (by rfl)) (pv 0) (pv 1)))))))),?_⟩;refine aL (σ:=[some (.ref p),some (.int w)]) rfl ?_;walk_at "w";refine ⟨by lia,by lia,?_⟩;refine vb (n:=w) (cZ K H) (λj=>rows.map λxs=>xs.getD j 0) hw (λa b=>a.same b) ?_ ?_
  ·rintro j H1 NY NN hj s1 k1;obtain ⟨xs,gx,qx,_⟩:=hp.same s1;walk_at "w";refine ⟨⟨_,bI.of gx⟩,?_⟩;refine dA (K:=K) (F:=cZ K H0) (b6 K) (λxs=>xs.getD j 0) gx qx hz (λa b=>a.same b) (λa b=>a.same b) ?_ ?_
   ·rintro i ns x H2 NY2 NN2 en s2 ⟨u,rfl,_,zs,gz,qz⟩ k2;obtain ⟨v,ev,hv⟩:=Ek qz (j:=j) (by rw[hl ns (ak en)];exact hj);walk_at "w";refine b9 (bI.of gz) ev ?_;exact k2 _ _ (aH.refl _) hv
   ·rintro ys' H2 r hr s2 g pr nx;exact k1 _ _ s2 ⟨r,rfl,s1.none hr,ys',g,pr⟩
  ·rintro ys' H1 r hr s1 g pr nx;exact kk r H1 hr s1 ⟨ys',g,pr,mQ nx⟩
theorem eL:aX ["wholes","multiple","whole"] ["wholes"] (aw df):=by walk_at "d"
theorem sV (T:Txt K mg Z):cw P w K mg base gX 2 Z.fM Z.fJ ["wholes"] (EV K):=by
 refine T.jh.ok eL (λvs H Q E h=>?_) (λcdv A outer s H vs Q E hr h=>?_)
 ·obtain ⟨p,bs,M,rfl,_⟩:=h;rfl
 ·obtain ⟨p,bs,M,rfl,hp,hM,sM,hb,q⟩:=h
  refine ⟨_,(av (aY (i:=1) eL.nd rfl (Or.inl rfl) ao)
   (av (eS PassesOwn.never rfl (cG (pv 0)) (aK (i:=2) eL.nd)
    (ax (aY (i:=1) eL.nd rfl (Or.inl rfl) (bN cS (pv 1) (bN iZ (pv 2) (cA (i5 T) hr T.fI T.eG.kp T.gJ (ae (pv 1) (ae (pv 2) aj))))))))
   (ax (bf (pv 1))))),?_⟩
  refine aL (σ:=[some (.ref p),none,none]) rfl ?_;walk_at "w";refine ⟨⟨_,hp⟩,?_⟩;refine ou (K:=K) (a:=p) (xs:=bs.map V.int) (λi σ' H'=>H'=H/\∃x,σ'=[some (.ref p),some (.int (uX (bs.take i) 1)),x]) ⟨rfl,none,rfl⟩ (λi σ' H' _ ⟨e,_⟩=>by subst e;exact hp) ?_ ?_
  ·rintro i x σ' H' hx ⟨rfl,y,rfl⟩;rw[az] at hx
   obtain ⟨b,eb,rfl⟩:∃b,bs[i]?=some b/\x=.int b:=by
    cases e:bs[i]? with
    | none=>rw[e] at hx;cases hx
    | some b=>rw[e] at hx;cases hx;exact ⟨b,rfl,rfl⟩
   have b1:=hb b (ak eb);have sb:Sz 4400 b:=z8 hM b1.2 sM;have ht:∀c∈bs.take i,0 < c/\c∣M:=λc hc=>hb c (cm hc)
   have msz:Sz 4400 (uX (bs.take i) 1):=z8 hM (v5 (by decide) (Int.one_dvd _) ht) sM;generalize hm:uX (bs.take i) 1=m at msz ⊢;have gp:0 < g m b:=xE (by lia);walk_at "w";refine ⟨m,b,rfl,?_⟩;walk_at "w";refine fQ (show pW _ _ from ⟨by lia,(Mj b1.1 sb).mono (by decide)⟩) ?_;rw[bW _ (by lia)];walk_at "w";refine fQ (show gP _ _ from .inr ⟨_,_,msz,sb.hi (t:=m) (by lia),by decide⟩) ?_;walk_at "w";exact ⟨rfl,_,by rw[take_snoc eb,yT,hm];rfl⟩
  ·rintro σ' H' ⟨rfl,y,rfl⟩;walk_at "w";rw[aB (by simp)];exact q
theorem uQ:aX ["row"] ["row"] (aw dP):=by walk_at "d"
theorem oh (T:Txt K mg Z):cw P w K mg base gX 3 Z.hZ Z.gZ ["row"] (EW K):=by
 refine T.fe.ok uQ (λvs H Q E h=>?_) (λcdv A outer s H vs Q E hr h=>?_)
 ·obtain ⟨p,ns,M,rfl,_⟩:=h;rfl
 ·obtain ⟨p,ns,M,rfl,hp,hl,hz,q⟩:=h;refine ⟨_,(ax (bf (cA (sV T) hr T.my T.jh.kp T.m9 (ae (ck ["value"] [] [] (cG (pv 0)) (λ_=>(aK (i:=0) (show List.Nodup (α:=PySem.Str) ["value"] by decide +kernel))) (λ_=>cu) (λ_=>(be (uh K (by rfl)) (pv 0) ao))) aj)))),?_⟩;refine aL (σ:=[some (.ref p)]) rfl ?_;obtain ⟨xs,gx,qx⟩:=id hp;have lx:=qx.length;walk_at "w";refine ⟨⟨_,bI.of gx⟩,?_⟩;refine fw (K:=K) (xs:=xs) (λi ys H'=>H'=H/\ys=((ns.take i).map (·.2)).map V.int) (bh (bL (by lia))) ⟨rfl,rfl⟩ (λi ys H' _ ⟨e,_⟩=>by subst e;exact bI.of gx) ?_ ?_
  ·rintro i x ys H' hx hlen ⟨rfl,rfl⟩;obtain ⟨n,en,r,rfl,hr1⟩:=b8 qx hx;walk_at "w";exact ⟨rfl,by rw[take_snoc en];simp⟩
  ·rintro ys H' hy ⟨rfl,rfl⟩ l hl';walk_at "w";refine ⟨l,ns.map (·.2),M,rfl,bI.of (by rw[aF,aB (by lia)]),hz.1,hz.2.1,λb hb=>?_,?_⟩
   ·obtain ⟨n,hn,rfl⟩:=ay.mp hb;exact ⟨(hz.2.2 n hn).1,(hz.2.2 n hn).2.1⟩
   ·exact q _ (aH.new hl')
theorem zC:aX ["row","bottom"] ["row","bottom"] (aw ir):=by walk_at "d"
theorem tY (T:Txt K mg Z):cw P w K mg base gX 1 Z.ni Z.mT ["row","bottom"] (AA K):=by
 refine T.kj.ok zC (λvs H Q E h=>?_) (λcdv A outer s H vs Q E hr h=>?_)
 ·obtain ⟨p,ns,M,B,rfl,_⟩:=h;rfl
 ·obtain ⟨p,ns,M,B,rfl,hp,hl,hz,hB,sB,q⟩:=h;refine ⟨_,(ax (bf (ck ["value"] ["bottom"] [1] (cG (pv 0)) (λ_=>(aK (i:=0) (show List.Nodup (α:=PySem.Str) ["value","bottom"] by decide +kernel))) (λ_=>cu) (λ_=>(bN cS (be (uh K (by rfl)) (pv 0) ao) (bN iZ (pv 1) (be (uh K (by rfl)) (pv 0) ao))))))),?_⟩;refine aL (σ:=[some (.ref p),some (.int B)]) rfl ?_;obtain ⟨xs,gx,qx⟩:=id hp;have lx:=qx.length;walk_at "w";refine ⟨⟨_,bI.of gx⟩,?_⟩;refine fw (K:=K) (xs:=xs) (λi ys H'=>H'=H/\ys=(eh (ns.take i) B).map V.int) (bh (bL (by lia))) ⟨rfl,rfl⟩ (λi ys H' _ ⟨e,_⟩=>by subst e;exact bI.of gx) ?_ ?_
  ·rintro i x ys H' hx hlen ⟨rfl,rfl⟩;obtain ⟨n,en,r,rfl,hr1⟩:=b8 qx hx;have nz:=hz.2.2 n (ak en);have sn:Sz 4400 n.2:=z8 hz.1 nz.2.1 hz.2.1;walk_at "w";refine fQ (show pW _ _ from ⟨by lia,sn.mono (by decide)⟩) ?_;rw[bW _ (by lia)]
   have sq:Sz 4400 (B / n.2):=sB.le (by
    rw[KI (by lia)];exact Nat.div_le_self ..)
   walk_at "w";refine fQ (show gP _ _ from .inr ⟨_,_,nz.2.2,sq,by decide⟩) ?_;exact ⟨rfl,by rw[take_snoc en];simp [eh]⟩
  ·rintro ys H' hy ⟨rfl,rfl⟩ l hl';exact q l _ hl' (aH.new hl') (by rw[aF,aB (by lia)])
theorem uO:aX ["top","bottom","divisor"] ["top","bottom"] (aw n9):=by walk_at "d"
theorem qS (T:Txt K mg Z):cw P w K mg base gX 2 Z.uH Z.uu ["top","bottom"] D0:=by
 refine T.ox.ok uO (λvs H Q E h=>?_) (λcdv A outer s H vs Q E hr h=>?_)
 ·obtain ⟨t,b,rfl,_⟩:=h;rfl
 ·obtain ⟨t,b,rfl,hb,hs,k⟩:=h
  refine ⟨_,(av (aY (i:=2) uO.nd rfl (Or.inl rfl) (cA (i5 T) hr T.fI T.eG.kp T.gJ (ae (pv 0) (ae (pv 1) aj))))
   (av (dc (bq rT (pv 1) ao (bA _)) (ax (aY (i:=2) uO.nd rfl (Or.inl rfl) (xa sR (pv 2)))) bV)
   (ax (bf (d5 (ae (bN iZ (pv 0) (pv 2)) (ae (bN iZ (pv 1) (pv 2)) aj))))))),?_⟩
  refine aL (σ:=[some (.int t),some (.int b),none]) rfl ?_;walk_at "w";refine ⟨t,b,rfl,?_⟩;have hg:=xE (t:=t) hb
  have hgs:Sz 8999 (g t b):=hs.le (by
   have h1:(g t b).natAbs=Int.gcd t b:=by unfold g;simp
   rw[h1];exact kz (by lia) (by have:=dX (a:=t) (b:=b);exact eZ.mpr this |> λz=>by simpa using z))
  have hgn:g (-t) (-b)=g t b:=by unfold g;rw[Int.gcd_neg,Int.neg_gcd]
  walk_at "w";refine iP (λh=>?_) (λh=>?_)
  ·have hb0:b < 0:=of_decide_eq_true h;walk_at "w";refine fQ (show pW _ _ from ⟨by lia,hgs.neg⟩) ?_;walk_at "w";refine fQ (show pW _ _ from ⟨by lia,hgs.neg⟩) ?_;walk_at "w";refine cF λr H' s' h'=>?_
   have e1:t.fdiv (-g t b)=lo (-t) (-b):=by
    unfold Nm.lo;rw[hgn,<- bW _ (by lia),<- Int.neg_fdiv_neg (-t),Int.neg_neg]
   have e2:b.fdiv (-g t b)=hi (-t) (-b):=by
    unfold Nm.hi;rw[hgn,<- bW _ (by lia),<- Int.neg_fdiv_neg (-b),Int.neg_neg]
   exact k r H' s' (by rw[if_pos hb0,if_pos hb0,<- e1,<- e2];exact h')
  ·have hb0:¬b < 0:=λz=>h (decide_eq_true z)
   walk_at "w";refine fQ (show pW _ _ from ⟨by lia,hgs⟩) ?_;walk_at "w";refine fQ (show pW _ _ from ⟨by lia,hgs⟩) ?_;walk_at "w";refine cF λr H' s' h'=>?_
   rw[bW _ (by lia),bW _ (by lia)] at h';exact k r H' s' (by rw[if_neg hb0,if_neg hb0];exact h')
theorem oH:aX ["one","other","one_bottom","other_bottom","pairs"] ["one","other"] (aw lG):=by walk_at "d"
theorem xi (T : Txt K mg Z) : cw P w K mg base gX 4 Z.rz Z.qW ["one", "other"] (zz K) := by
  have pV := oh (P := P) (w := w) (base := base) T;have vQ := tY (P := P) (w := w) (base := base) T;have GD := qS (P := P) (w := w) (base := base) T;refine T.rJ.ok oH (λvs H Q E h => ?_) (λcdv A outer s H vs Q E hr h => ?_)
  · obtain ⟨p, q, xs, ys, rfl, _⟩ := h;rfl
  · obtain ⟨p, q, xs, ys, rfl, hp, hq, hl, hz, ⟨k1, j1, k2, j2, h1, h2, hkj⟩, kk⟩ := h
    refine ⟨_, (av (aY (i := 2) oH.nd rfl (Or.inl rfl) (cA pV hr T.gE T.fe.kp T.g8 (ae (pv 0) aj)))
      (av (aY (i := 3) oH.nd rfl (Or.inl rfl) (cA pV hr T.gE T.fe.kp T.g8 (ae (pv 1) aj)))
      (av (aY (i := 4) oH.nd rfl (Or.inl rfl) (Ce rfl T.list rfl T.zip (ae (cA vQ hr T.kJ T.kj.kp T.m8 (ae (pv 0) (ae (pv 2) aj))) (ae (cA vQ hr T.kJ T.kj.kp T.m8 (ae (pv 1) (ae (pv 3) aj))) aj))))
      (ax (bf (cA GD hr T.oi T.ox.kp T.qC (ae (bS (Gy rfl) (by rfl) T.sum PyProof.Rows.boot_sum (ae (ck ["mine", "yours"] [] [] (cG (pv 4)) (λ_ => (oK K 2 (cb (aK (i := 0) (show List.Nodup (α := PySem.Str) ["mine", "yours"] by decide +kernel)) (cb (aK (i := 1) (show List.Nodup (α := PySem.Str) ["mine", "yours"] by decide +kernel)) iX)))) (λ_ => cu) (λ_ => (bN cS (pv 0) (pv 1)))) aj)) (ae (bN cS (pv 2) (pv 3)) aj)))))))), ?_⟩
    refine aL (σ := [some (.ref p), some (.ref q), none, none, none]) rfl ?_;obtain ⟨M, h1⟩ := h1.rowM (by lia);obtain ⟨N, h2⟩ := h2.rowM (by lia);replace hp := hp.rowK;replace hq := hq.rowK;replace hl : (ys.map nm).length = (xs.map nm).length := by simpa using hl
    replace hz : (xs.map nm).length ≤ 1000 := by simpa using hz
    obtain ⟨b1, s1⟩ := h1.bot;obtain ⟨b2, s2⟩ := h2.bot;have k2 : ∀ r H', aH H H' → H' r = some (.tup [.int (lo (FZ (xs.map nm) (ys.map nm)) (gI (xs.map nm) * gI (ys.map nm))), .int (hi (FZ (xs.map nm) (ys.map nm)) (gI (xs.map nm) * gI (ys.map nm)))]) → Q (.ref r) H' := λr H' s g => kk r H' s (b6.mk g (IC b1 b2))
    clear kk;generalize xs.map nm = ns at hp hq hl hz h1 h2 b1 b2 s1 s2 k2;generalize ys.map nm = ms at hp hq hl hz h1 h2 b1 b2 s1 s2 k2;have hb : 0 < gI ns * gI ms := mF b1 b2;walk_at "w";refine ⟨p, ns, M, rfl, hp, hz, h1, λH1 t1 => ?_⟩;walk_at "w";refine ⟨q, ms, N, rfl, hq.same t1, by lia, h2, λH2 t2 => ?_⟩;have u2 := t1.trans t2;walk_at "w";refine ⟨p, ns, M, _, rfl, hp.same u2, hz, h1, b1, s1, λr1 H3 n3 t3 g3 => ?_⟩;walk_at "w";refine ⟨q, ms, N, _, rfl, (hq.same u2).same t3, by lia, h2, b2, s2, λr2 H4 n4 t4 g4 => ?_⟩;walk_at "w";refine ⟨r1, r2, _, _, rfl, bI.of (t4 _ _ g3), bI.of g4, by simp [eh, hl], λL ts H5 t5 n5 g5 pr => ?_⟩;have lt := pr.length;have ll : (eh ns (gI ns)).length = ns.length := by simp [eh]
    have lm : (eh ms (gI ms)).length = ns.length := by simp [eh, hl]
    rw [xX, ag, ag, ll, lm] at lt;walk_at "w";refine ⟨⟨_, bI.of g5⟩, ?_⟩;refine fw (K := K) (xs := ts) (λi ys H' => H' = H5 /\ ys = ((List.zipWith (· * ·) (eh ns (gI ns)) (eh ms (gI ms))).take i).map V.int) (bh (bL (by lia))) ⟨rfl, rfl⟩ (λi ys H' _ ⟨e, _⟩ => by subst e; exact bI.of g5) ?_ ?_
    · rintro i x ys H' hx hlen ⟨rfl, rfl⟩;obtain ⟨pq, epq, T, rfl, gT⟩ := b8 pr hx;obtain ⟨t, u, et, eu, rfl⟩ := GW epq;walk_at "w";refine fQ (show gP _ _ from .inr ⟨_, _, Au h1 b1 s1 (ak et), Au h2 b2 s2 (ak eu), by decide⟩) ?_;have ez : (List.zipWith (· * ·) (eh ns (gI ns)) (eh ms (gI ms)))[i]? = some (t * u) := by rw [bO, et, eu]
      exact ⟨rfl, by rw [take_snoc ez]; simp⟩
    · rintro ys H' hy ⟨rfl, rfl⟩ l hl';walk_at "w";refine ⟨l, List.zipWith (· * ·) (eh ns (gI ns)) (eh ms (gI ms)), rfl, bI.of (by rw [aF, aB (by rw [bC]; lia)]), ?_⟩;walk_at "w";refine fQ (show gP _ _ from .inr ⟨_, _, s1, s2, by decide⟩) ?_;walk_at "w";refine ⟨_, _, rfl, by lia, (s1.mul s2).mono (by decide), λr H6 t6 g6 => ?_⟩;rw [if_neg (by lia), if_neg (by lia)] at g6;exact k2 r H6 ((((u2.trans t3).trans t4).trans t5).trans ((aH.new hl').trans t6)) g6
theorem BY:aX ["grid","row"] ["grid","row"] (aw lK):=by walk_at "d"
theorem sU (T:Txt K mg Z):cw P w K mg base gX 5 Z.rD Z.rd ["grid","row"] (zy K):=by
 refine T.oy.ok BY (λvs H Q E h=>?_) (λcdv A outer s H vs Q E hr h=>?_)
 ·obtain ⟨p,q,H0,rows,ys,rfl,_⟩:=h;rfl
 ·obtain ⟨p,q,H0,rows,ys,rfl,hp,hq,hz,hl,hr1,kk⟩:=h;refine ⟨_,(ax (bf (ck ["line"] ["row"] [1] (cG (pv 0)) (λ_=>(aK (i:=0) (show List.Nodup (α:=PySem.Str) ["line","row"] by decide +kernel))) (λ_=>cu) (λ_=>(cA (xi T) hr T.sZ T.rJ.kp T.vg (ae (pv 0) (ae (pv 1) aj))))))),?_⟩;refine aL (σ:=[some (.ref p),some (.ref q)]) rfl ?_;obtain ⟨xs,gx,qx,_⟩:=id hp;walk_at "w";refine ⟨⟨_,bI.of gx⟩,?_⟩;refine dA (K:=K) (F:=cZ K H0) (b6 K) (λxs=>cY xs ys) gx qx hz (λa b=>a.same b) (λa b=>a.same b) ?_ ?_
  ·rintro i ns x H' NY NN en s ⟨u,rfl,_,hu⟩ k;obtain ⟨e1,e2⟩:=hr1 ns (ak en);walk_at "w";exact ⟨u,q,ns,ys,rfl,hu,hq.same s,e1.symm,by lia,e2,λr H2 s2 h2'=>k _ _ s2 h2'⟩
  ·rintro ys' H' r hr s g pr nx;exact kk r H' hr s ⟨ys',g,pr⟩
theorem rQ:aX ["one","other","wide","columns"] ["one","other","wide"] (aw gh):=by walk_at "d"
theorem rV (T:Txt K mg Z):cw P w K mg base gX 6 Z.kY Z.kN ["one","other","wide"] (wM K):=by
 refine T.lC.ok rQ (λvs H Q E h=>?_) (λcdv A outer s H vs Q E hr h=>?_)
 ·obtain ⟨p,q,w,H0,H1,one,other,rfl,_⟩:=h;rfl
 ·obtain ⟨p,q,w,H0,H1,one,other,rfl,hp,hq,z1,z2,hw,h1,h2,kk⟩:=h
  refine ⟨_,(av (aY (i:=3) rQ.nd rfl (Or.inr rfl) (cA (mf T) hr T.i8 T.gV.kp T.jN (ae (pv 1) (ae (pv 2) aj))))
   (ax (bf (ck ["line"] ["columns"] [3] (cG (pv 0)) (λ_=>(aK (i:=0) (show List.Nodup (α:=PySem.Str) ["line","columns"] by decide +kernel))) (λ_=>cu) (λ_=>(cA (sU T) hr T.oQ T.oy.kp T.rj (ae (pv 1) (ae (pv 0) aj)))))))),?_⟩
  refine aL (σ:=[some (.ref p),some (.ref q),some (.int w),none]) rfl ?_;walk_at "w";refine ⟨q,w,H1,other,rfl,hq,z2,hw,h2,λc H2 nc s2 hc=>?_⟩;obtain ⟨xs,gx,qx,_⟩:=hp.same s2;walk_at "w";refine ⟨⟨_,bI.of gx⟩,?_⟩;refine dA (K:=K) (F:=cZ K H0) (cZ K H) (λxs=>(de other w).map λys=>cY ys xs) gx qx z1 (λa b=>a.same b) (λa b=>a.same b) ?_ ?_
  ·rintro i ns x H3 NY NN en s3 ⟨u,rfl,_,hu⟩ k;obtain ⟨e1,e2⟩:=h1 ns (ak en);walk_at "w";refine ⟨c,u,H,de other w,ns,rfl,hc.same s3,hu,by simp [de];lia,by lia,λys hy=>⟨?_,e2 ys hy⟩,λr H4 nr s4 hr=>k _ _ s4 ⟨r,rfl,s2.none (s3.none nr),hr⟩⟩;obtain ⟨j,_,rfl⟩:=ay.mp hy;rw[ag];exact e1.symm
  ·rintro ys' H3 r hr s3 g pr nx;exact kk r H3 (s2.none hr) (s2.trans s3) ⟨ys',g,pr,mQ nx⟩
theorem G9:aX ["one","other"] ["one","other"] (aw uS):=by walk_at "d"
theorem Io (T:Txt K mg Z):cw P w K mg base gX 3 Z.Ai Z.Ad ["one","other"] (oG K (λx y=>x+y)):=by
 refine T.CO.ok G9 (λvs H Q E h=>?_) (λcdv A outer s H vs Q E hr h=>?_)
 ·obtain ⟨p,q,a,b,c,d,rfl,hp,hq,hb,hd,sa,sb,sc,sd,k⟩:=wd h;rfl
 ·obtain ⟨p,q,a,b,c,d,rfl,hp,hq,hb,hd,sa,sb,sc,sd,k⟩:=wd h;refine ⟨_,(ax (bf (cA (qS T) hr T.oi T.ox.kp T.qC (ae (bN ig (bN cS (be bT (pv 0) ao) (be bT (pv 1) ao)) (bN cS (be bT (pv 1) ao) (be bT (pv 0) ao))) (ae (bN cS (be bT (pv 0) ao) (be bT (pv 1) ao)) aj))))),?_⟩;refine aL (σ:=[some (.ref p),some (.ref q)]) rfl ?_;have hbd:0 < b*d:=mF hb hd;have sbd:Sz 8999 (b*d):=(sb.mul sd).mono (by decide);walk_at "w";refine fQ (show gP _ _ from .inr ⟨_,_,sa,sd,by decide⟩) ?_;walk_at "w";refine fQ (show gP _ _ from .inr ⟨_,_,sc,sb,by decide⟩) ?_;walk_at "w";refine fQ (show gP _ _ from .inr ⟨_,_,sb,sd,by decide⟩) ?_;walk_at "w";walk_at "w";refine ⟨_,_,rfl,by lia,sbd,λr H' s' h'=>?_⟩;rw[if_neg (by lia),if_neg (by lia)] at h';exact k r H' s' h'
theorem AK:aX ["one","other"] ["one","other"] (aw jm):=by walk_at "d"
theorem A4 (T:Txt K mg Z):cw P w K mg base gX 4 Z.pk Z.oW ["one","other"] (wJ K):=by
 refine T.tG.ok AK (λvs H Q E h=>?_) (λcdv A outer s H vs Q E hr h=>?_)
 ·obtain ⟨p,q,xs,ys,rfl,_⟩:=h;rfl
 ·obtain ⟨p,q,xs,ys,rfl,hp,hq,hl,h1000,sx,sy,k⟩:=h;refine ⟨_,(ax (bf (ck ["mine","yours"] [] [] (qR rfl T.zip (ae (pv 0) (ae (pv 1) aj))) (λ_=>(oK K 2 (cb (aK (i:=0) (show List.Nodup (α:=PySem.Str) ["mine","yours"] by decide +kernel)) (cb (aK (i:=1) (show List.Nodup (α:=PySem.Str) ["mine","yours"] by decide +kernel)) iX)))) (λ_=>cu) (λ_=>(cA (Io T) hr T.Dp T.CO.kp T.GB (ae (pv 0) (ae (pv 1) aj))))))),?_⟩;refine aL (σ:=[some (.ref p),some (.ref q)]) rfl ?_;obtain ⟨us,gu,qu⟩:=id hp;obtain ⟨ws,gw,qw⟩:=id hq;have lu:=qu.length;have lw:=qw.length;walk_at "w";refine ⟨⟨_,bI.of gu⟩,⟨_,bI.of gw⟩,?_⟩;refine qA (K:=K) (xs:=us) (ws:=ws) (λi zs H'=>aH H H'/\Paired (b6 K H') ((List.zipWith (λx y=>x+y) xs ys).take i) zs) (bh (bL (by lia))) (by lia) ⟨aH.refl _,.nil⟩ (λi zs H' _ ⟨s,_⟩=>⟨bI.of (s _ _ gu),bI.of (s _ _ gw)⟩) ?_ ?_
  ·rintro i u w zs H' r hu hw hlen ⟨s',pr⟩ hr;obtain ⟨x,ex,nx⟩:=b8 qu hu;obtain ⟨y,ey,ny⟩:=b8 qw hw;have sr:aH H' (upd H' r (.tup [u,w])):=aH.new hr;have gr:(upd H' r (.tup [u,w])) r=some (.tup [u,w]):=aF;generalize upd H' r (.tup [u,w])=H2 at sr gr ⊢;walk_at "w";refine ⟨_,_,x,y,rfl,(nx.same s').same sr,(ny.same s').same sr,sx x (ak ex),sy y (ak ey),λr3 H3 s3 n3=>?_⟩;refine ⟨(s'.trans sr).trans s3,?_⟩;have ez:(List.zipWith (λx y=>x+y) xs ys)[i]?=some (x+y):=by rw[bO,ex,ey]
   rw[take_snoc ez];exact cv (Paired.imp' (λ_ _ z=>b6.same z (sr.trans s3)) pr) (.cons n3 .nil)
  rintro zs H' hz ⟨s',pr⟩ l hl';rw[aB (by rw[bC];lia)] at pr;exact k l _ (s'.none hl') (s'.trans (aH.new hl')) ⟨zs,aF,Paired.imp' (λ_ _ z=>b6.same z (aH.new hl')) pr⟩
theorem uR:aX ["system","rows","fed_back","move"] ["system","rows"] (aw og):=by walk_at "d"
theorem qT (T:Txt K mg Z):cw P w K mg base gX 7 Z.uJ Z.uw ["system","rows"] (vz K Z.a_System):=by
 refine T.oz.ok uR (λvs H Q E h=>?_) (λcdv A outer s H vs Q E hr h=>?_)
 ·obtain ⟨x,p,H0,H1,mv,pt,lk,F,rfl,_⟩:=h;rfl
 ·obtain ⟨x,p,H0,H1,mv,pt,lk,F,rfl,S,D,GF_,lF,wF,C,k⟩:=h
  refine ⟨_,(av (aY (i:=2) uR.nd rfl (Or.inl rfl) (cA (rV T) hr T.nP T.lC.kp T.pe (ae (cA (mf T) hr T.i8 T.gV.kp T.jN (ae (cR (pv 0) rfl) (ae (cR (pv 0) rfl) aj))) (ae (pv 1) (ae (cR (pv 0) rfl) aj)))))
   (av (mL 3 ["line","more"] [] [] uR.nd rfl rfl (qR rfl T.zip (ae (cR (pv 0) rfl) (ae (pv 2) aj))) (λ_=>(oK K 2 (cb (aK (i:=0) (show List.Nodup (α:=PySem.Str) ["line","more"] by decide +kernel)) (cb (aK (i:=1) (show List.Nodup (α:=PySem.Str) ["line","more"] by decide +kernel)) iX)))) (λ_=>cu) (λ_=>(cA (A4 T) hr T.vG T.tG.kp T.xN (ae (pv 0) (ae (pv 1) aj)))))
   (ax (bf (De T.mk_System (mi T) (hr.mono (by decide)) rfl T.mg_System T.je .nil A1 (ae (pv 3) (ae (cR (pv 0) rfl) (ae (cR (pv 0) rfl) aj)))))))),?_⟩
  refine aL (σ:=[some (.ref x),some (.ref p),none,none]) rfl ?_;obtain ⟨dx,am,ap,al,gx,_,_,_,Gm,Gp,Gl⟩:=id S;have d1:=D.n8;have d2:=D.i4;walk_at "w";refine ⟨x,Z.a_System,dx,_,_,rfl,gx,T.cl_System,T.na_put,tO,?_⟩;walk_at "w";refine ⟨x,Z.a_System,dx,_,_,rfl,gx,T.cl_System,T.na_states,eK,?_⟩;walk_at "w";refine ⟨ap,mv.length,H0,pt,rfl,Gp,by lia,by lia,D.pw,λtp H2 ntp s2 G2=>?_⟩;have gx2:=s2 _ _ gx;walk_at "w";refine ⟨x,Z.a_System,dx,_,_,rfl,gx2,T.cl_System,T.na_states,eK,?_⟩;walk_at "w";refine ⟨tp,p,mv.length,H,H1,de pt mv.length,F,rfl,G2,GF_.same s2,by rw[cL];lia,by lia,by lia,λxs hx=>⟨by rw[nY xs hx,lF],λys hy=>C.f2 xs hx ys hy⟩,wF,λfb H3 nfb s3 G3=>?_⟩;have s13:=s2.trans s3;have gx3:=s13 _ _ gx;obtain ⟨ms,gm,qm,_⟩:=Gm.same s13;obtain ⟨fs,gf,qf,_⟩:=id G3;have lm:=qm.length;have lf:=qf.length;have lT:(dZ (de pt mv.length) F mv.length).length=mv.length:=by unfold dZ;rw[ag,cL]
  have wT:∀xs∈dZ (de pt mv.length) F mv.length,xs.length=mv.length:=λxs hx=>by
   obtain ⟨z,_,rfl⟩:=ay.mp hx;rw[ag,cL]
  walk_at "w";refine ⟨x,Z.a_System,dx,_,_,rfl,gx3,T.cl_System,T.na_move,p4,?_⟩;walk_at "w";refine ⟨⟨_,bI.of gm⟩,⟨_,bI.of gf⟩,?_⟩;refine qA (K:=K) (xs:=ms) (ws:=fs) (λi ys H'=>aH H3 H'/\Paired (cZ K H H') ((List.zipWith (λline more=>List.zipWith (λx y=>x+y) line more) mv (dZ (de pt mv.length) F mv.length)).take i) ys) (bh (bL (by lia))) (by lia) ⟨aH.refl _,.nil⟩ (λi ys H' _ ⟨s,_⟩=>⟨bI.of (s _ _ gm),bI.of (s _ _ gf)⟩) ?_ ?_
  ·rintro i u w ys H4 r4 hu hw hlen ⟨s4,pr4⟩ hr4;obtain ⟨line,el,qa,rfl,_,Ra⟩:=b8 qm hu;obtain ⟨more,em,qb,rfl,_,Rb⟩:=b8 qf hw;have ml:=ak el;have mm:=ak em;have sr:aH H4 (upd H4 r4 (.tup [.ref qa,.ref qb])):=aH.new hr4;have gr:(upd H4 r4 (.tup [.ref qa,.ref qb])) r4=some (.tup [.ref qa,.ref qb]):=aF;generalize upd H4 r4 (.tup [.ref qa,.ref qb])=H5 at sr gr ⊢;have s35:=s4.trans sr;walk_at "w";refine ⟨qa,qb,line,more,rfl,Ra.same s35,Rb.same s35,by rw[wT more mm,D.mw line ml],by rw[D.mw line ml];lia,C.sm line ml,C.st more mm,λr6 H6 n6 s6 R6=>?_⟩;refine ⟨s35.trans s6,?_⟩;have ez:(List.zipWith (λline more=>List.zipWith (λx y=>x+y) line more) mv (dZ (de pt mv.length) F mv.length))[i]?=some (List.zipWith (λx y=>x+y) line more):=by rw[bO,el,em]
   rw[take_snoc ez];exact cv (Paired.imp' (λ_ _ z=>cZ.same z (sr.trans s6)) pr4) (.cons ⟨r6,rfl,s13.none (s35.none n6),R6⟩ .nil)
  rintro ys H4 hy ⟨s4,pr4⟩ mp hmp;have sn:aH H4 (upd H4 mp (.lst ys)):=aH.new hmp;have gn:(upd H4 mp (.lst ys)) mp=some (.lst ys):=aF;have nn:V.ref mp∉ys:=mQ ⟨H4,hmp,pr4⟩;rw[aB (by rw[bC];lia),IF D.mw lF] at pr4;generalize upd H4 mp (.lst ys)=H5 at sn gn ⊢;have GM:bu K H H5 mp (mC mv pt F):=⟨ys,gn,Paired.imp' (λ_ _ z=>cZ.same z sn) pr4,nn⟩;have s15:=s13.trans (s4.trans sn);have gx5:=s15 _ _ gx;walk_at "w";refine ⟨x,Z.a_System,dx,_,_,rfl,gx5,T.cl_System,T.na_put,tO,?_⟩;walk_at "w";refine ⟨x,Z.a_System,dx,_,_,rfl,gx5,T.cl_System,T.na_look,wD,?_⟩;walk_at "w";intro x2 dx2 nx ndx nex;have ok:=C.ok.ok;exact ⟨x2,dx2,mp,ap,al,H5,H,H0,H0,_,_,_,rfl,nx,ndx,nex,rfl,GM,Gp.same s15,Gl.same s15,pQ.sysd D,ok.1,ok.2.1,ok.2.2,λH' s' S'=>⟨rfl,k x2 H' (s15.none nx) (s15.trans s') (S'.weak s15)⟩⟩
theorem eC:aX ["_law_parts_here","_law_rows","_law_move_here","_law_i","_law_row_here","_law_k"] ["_law_parts_here","_law_rows"] (aw ft):=by walk_at "d"
theorem qe (T:Txt K mg Z):cw P w K mg base gX 4 Z.jV Z.jK ["_law_parts_here","_law_rows"] (tS K):=by
 refine T.jY.ok eC (λvs H Q E h=>?_) (λcdv A outer s H vs Q E hr h=>?_)
 ·obtain ⟨r,p,m,pp,l,H0,H1,H2,mv,pt,lk,F,rfl,_⟩:=h;rfl
 ·obtain ⟨r,p,m,pp,l,H0,H1,H2,mv,pt,lk,F,rfl,g,Gm,Gp,D,GF_,lF,wF,C,k⟩:=h
  refine ⟨_,(av (aY (i:=2) eC.nd rfl (Or.inl rfl) (iY aj))
   (av (eS PassesOwn.never rfl (cx rfl T.range (ae (bS bB (by rfl) T.len bx (ae (be bT (pv 0) ao) aj)) aj)) (aK (i:=3) eC.nd)
    (av (aY (i:=4) eC.nd rfl (Or.inl rfl) (lS pd (by rfl) T.list PyProof.Rows.boot_list (ae (be bK (be bT (pv 0) ao) (pv 3)) aj)))
   (av (eS PassesOwn.never rfl (cx rfl T.range (ae (bS bB (by rfl) T.len bx (ae (pv 1) aj)) aj)) (aK (i:=5) eC.nd)
    (ax (aY (i:=4) eC.nd rfl (Or.inl rfl) (cA (kH T) hr T.jc T.iN.kp T.ke (ae (pv 4) (ae (cA (sX T) hr T.oS T.oB.kp T.rn (ae (be bK (be bK (be bT (pv 0) ao) (pv 5)) (pv 3)) (ae (be bK (pv 1) (pv 5)) aj))) aj))))))
   (ax (kF (yO dS dH dG lU (pv 2) (ae (pv 4) aj)))))))
   (ax (bf (d5 (ae (pv 2) (ae (be bT (pv 0) ao) (ae (be bT (pv 0) ao) aj)))))))),?_⟩
  refine aL (σ:=[some (.ref r),some (.ref p),none,none,none,none]) rfl ?_;obtain ⟨ms,gm,qm,_⟩:=id Gm;obtain ⟨qs,gp,qp,_⟩:=id Gp;obtain ⟨fs,gf,qf,_⟩:=id GF_;have lms:=qm.length;have lqs:=qp.length;have lfs:=qf.length;have d1:=D.n8;have d2:=D.i4;walk_at "w";refine gB λml H3 s3 n3 g3=>?_
  have ml3:H3 ml≠none:=by rw[g3];exact λz=>nomatch z
  have gr3:=s3 _ _ g;walk_at "w";refine ⟨_,_,rfl,.inl (bI.of (s3 _ _ gm)),?_⟩;rw[<- lms];walk_at "w";refine ⟨by lia,by lia,?_⟩;refine d7 (n:=mv.length) (λi σ' H'=>aH H H'/\(∀q,H' q=none->H3 q=none)/\∃us y1 y2 y3,σ'=[some (.ref r),some (.ref p),some (.ref ml),y1,y2,y3]/\H' ml=some (.lst us)/\Paired (cZ K H3 H') ((mC mv pt F).take i) us) ⟨s3,(λ_ h=>h),[],_,_,_,rfl,g3,.nil⟩ ?_ ?_
  ·rintro i σ' H4 hi ⟨s4,h34,us,y1,y2,y3,rfl,g4,pr4⟩;have lu:=pr4.length;rw[cO,cf] at lu;have gr4:=s4 _ _ g;have ev:=af (show i < ms.length by lia);obtain ⟨line,el,qa,eqa,_,Ra⟩:=b8 qm ev;rw[eqa] at ev;have ll:=D.mw line (ak el);obtain ⟨ls,gl,ql⟩:=Ra.same s4;walk_at "w";refine b9 (bI.of (s4 _ _ gm)) (eX ev) ?_;walk_at "w";refine ⟨qa,ls,rfl,.inl (bI.of gl),λrw5 n5=>?_⟩;have s5:aH H4 (upd H4 rw5 (.lst ls)):=aH.new n5;have g5:(upd H4 rw5 (.lst ls)) rw5=some (.lst ls):=aF;generalize upd H4 rw5 (.lst ls)=H5 at s5 g5 ⊢
   have e0:((List.range mv.length).map λb=>bM mv i b+bg 0 λk=>bM pt k i*bM F k b)=line:=by
    have e1:∀b,bM mv i b+(bg 0 λk=>bM pt k i*bM F k b)=line.getD b 0:=λb=>by
     show _+(0:Rat)=_
     rw[rM];unfold bM;rw[aa (l:=mv),el];rfl
    rw[dk λb _=>e1 b];exact uW ll
   have R5:dC K H5 rw5 ((List.range mv.length).map λb=>bM mv i b+bg 0 λk=>bM pt k i*bM F k b):=by
    rw[e0];exact ⟨ls,g5,Paired.imp' (λ_ _ z=>b6.same z s5) ql⟩
   have s45:=s4.trans s5;walk_at "w";refine ⟨_,_,rfl,.inl (bI.of (s45 _ _ gf)),?_⟩;rw[<- lfs];walk_at "w";refine ⟨by lia,by lia,?_⟩;refine d7 (n:=F.length) (λkk σ' H'=>aH H4 H'/\∃rw y3,σ'=[some (.ref r),some (.ref p),some (.ref ml),some (.int i),some (.ref rw),y3]/\H4 rw=none/\dC K H' rw ((List.range mv.length).map λb=>bM mv i b+bg kk λk=>bM pt k i*bM F k b)) ⟨s5,rw5,_,rfl,n5,R5⟩ ?_ ?_
   ·rintro kk σ' H6 hk ⟨s6,rw6,y6,rfl,n6,R6⟩;have s46:=s4.trans s6;have gr6:=s46 _ _ g;have ep:=af (show kk < qs.length by lia);obtain ⟨prow,er,qb,eqb,_,Rb⟩:=b8 qp ep;rw[eqb] at ep;have lpr:=D.pw prow (ak er);obtain ⟨bs,gb,qbs⟩:=Rb.same s46;obtain ⟨vx,ex,nx⟩:=Ek qbs (j:=i) (by lia);have ef:=af (show kk < fs.length by lia);obtain ⟨frow,efr,qc,eqc,_,Rc⟩:=b8 qf ef;rw[eqc] at ef;have lfr:=wF frow (ak efr);have e1:prow.getD i 0=bM pt kk i:=by unfold bM;rw[aa (l:=pt),er];rfl
    have e2:frow=(List.range mv.length).map λb=>bM F kk b:=by
     rw[<- uW lfr];exact dk λb _=>by unfold bM;rw[aa (l:=F),efr];rfl
    rw[e1] at nx;walk_at "w";refine b9 (bI.of (s46 _ _ gp)) (eX ep) ?_;walk_at "w";refine b9 (bI.of gb) ex ?_;walk_at "w";refine b9 (bI.of (s46 _ _ gf)) (eX ef) ?_;walk_at "w";rw[e2] at Rc;refine ⟨_,qc,_,_,rfl,nx,C.sp kk i,Rc.same s46,by rw[ag,di];lia,λz hz=>?_,λr7 H7 n7 s7 R7=>?_⟩
    ·obtain ⟨b,_,rfl⟩:=ay.mp hz;exact C.sf kk b
    walk_at "w";refine ⟨rw6,r7,_,_,rfl,R6.same s7,R7,by rw[ag,ag,ag],by rw[ag,di];lia,λz hz=>?_,λz hz=>?_,λr8 H8 n8 s8 R8=>?_⟩
    ·obtain ⟨b,_,rfl⟩:=ay.mp hz;exact C.sj kk i b (by lia)
    ·obtain ⟨z',hz',rfl⟩:=ay.mp hz;obtain ⟨b,_,rfl⟩:=ay.mp hz';exact C.sq kk i b
    rw[BP (m:=0)] at R8;walk_at "w";refine ⟨(s6.trans s7).trans s8,r8,_,rfl,s6.none (s7.none n8),?_⟩;rw[dk λb _=>show bM mv i b+bg (kk+1) (λk=>bM pt k i*bM F k b)=(bM mv i b+bg kk λk=>bM pt k i*bM F k b)+bM pt kk i*bM F kk b from by show _+(_+_)=_;rw[Rat.add_assoc]];exact R8
   rintro σ' H6 ⟨s6,rw6,y6,rfl,n6,R6⟩;have g6:=s6 _ _ g4;have rl:rw6≠ml:=λz=>by rw[z,g4] at n6;cases n6
   walk_at "w";refine ⟨.inl ⟨rfl,_,bI.of g6⟩,?_⟩;walk_at "w";refine lQ g6 (bL (by lia)) ?_
   refine ⟨(s4.trans s6).after n3,(λq hq=>h34 q (s6.none (Classical.byContradiction λz=>by
    by_cases e:q=ml
    ·rw[e,aF] at hq;cases hq
    ·rw[aU e] at hq;exact z hq))),_,_,_,_,rfl,aF,?_⟩
   have ec:(mC mv pt F)[i]?=some ((List.range mv.length).map λb=>bM mv i b+bg F.length λk=>bM pt k i*bM F k b):=by rw[lF];exact xD hi
   rw[take_snoc ec];have off:=Kc rl;exact cv (Paired.imp' (λ_ _ z=>cZ.updL (cZ.same z s6) g6 ml3) pr4) (.cons ⟨rw6,rfl,h34 _ n6,R6.updL g6 rl⟩ .nil)
  rintro σ' H4 ⟨s4,_,us,y1,y2,y3,rfl,g4,pr4⟩;rw[aB (by rw[cf];exact au _)] at pr4;have gr4:=s4 _ _ g;walk_at "w";refine cF λt5 H5 s5 g5=>?_
  have nn:V.ref ml∉us:=λz=>by
   obtain ⟨_,_,q,e,h,_⟩:=dj pr4 z;cases e;exact ml3 h
  exact k t5 ml H5 (s4.trans s5) g5 n3 ⟨us,s5 _ _ g4,Paired.imp' (λ_ _ z=>cZ.same (z.weak s3) s5) pr4,nn⟩
theorem tT:aX ["_law_system","_law_parts_here","_law_sizes_here"] ["_law_system","_law_parts_here"] (aw iG):=by walk_at "d"
theorem gD (T:Txt K mg Z):cw P w K mg base gX 1 Z.nF Z.m6 ["_law_system","_law_parts_here"] (yE K Z.a_System):=by
 refine T.eI.ok tT (λvs H Q E h=>?_) (λcdv A outer s H vs Q E hr h=>?_)
 ·obtain ⟨x,r,H0,H1,mv,pt,lk,rfl,_⟩:=h;rfl
 ·obtain ⟨x,r,H0,H1,mv,pt,lk,rfl,S,PQ,D,k⟩:=h
  refine ⟨_,(av (dc (kq (ko (Ka rfl T.isinstance rfl T.mg_System (pv 0)))) (ax (bf tW)) bV)
   (av (aY (i:=2) tT.nd rfl (Or.inl rfl) (iY (ae (cR (pv 0) rfl) (ae (cR (pv 0) rfl) (ae (cR (pv 0) rfl) aj)))))
   (av (dc (bq (xh (zY hr)) (pv 2) (iY (ae (bS bB (by rfl) T.len bx (ae (be bT (pv 1) ao) aj)) (ae (bS bB (by rfl) T.len bx (ae (be bT (pv 1) ao) aj)) (ae (bS bB (by rfl) T.len bx (ae (be bT (pv 1) ao) aj)) aj)))) (bA _)) (ax (bf tW)) bV)
   (ax (bf (xc (mN (zM (zY hr)) (cR (pv 0) rfl) (be bT (pv 1) ao) (bA _)) (xc (mN (zM (zY hr)) (cR (pv 0) rfl) (be bT (pv 1) ao) (bA _)) (zJ (mN (zM (zY hr)) (cR (pv 0) rfl) (be bT (pv 1) ao) (bA _)))))))))),?_⟩
  refine aL (σ:=[some (.ref x),some (.ref r),none]) rfl ?_;obtain ⟨m,p,l,g,n1,n2,n3,Gm,Gp,Gl⟩:=id PQ;obtain ⟨dx,a,b,c,gx,m1,m2,m3,Ga,Gb,Gc⟩:=id S;obtain ⟨ms,gm,qm,_⟩:=id Gm;obtain ⟨ps,gp,qp,_⟩:=id Gp;obtain ⟨ls,gl,ql,_⟩:=id Gl;have lms:=qm.length;have lps:=qp.length;have lls:=ql.length;walk_at "w";refine ⟨_,true,T.ty_System.1 gx,T.ty_System.2,?_⟩;walk_at "w";refine ⟨x,Z.a_System,dx,_,_,rfl,gx,T.cl_System,T.na_states,eK,?_⟩;walk_at "w";refine ⟨x,Z.a_System,dx,_,_,rfl,gx,T.cl_System,T.na_ins,G6,?_⟩;walk_at "w";refine ⟨x,Z.a_System,dx,_,_,rfl,gx,T.cl_System,T.na_outs,ER,?_⟩;walk_at "w";refine gB λsz H5 s5 n5 g5=>?_
  have g05:=s5 _ _ g;walk_at "w";refine ⟨_,_,rfl,.inl (bI.of (s5 _ _ gm)),?_⟩;rw[<- lms];walk_at "w";refine ⟨_,_,rfl,.inl (bI.of (s5 _ _ gp)),?_⟩;rw[<- lps];walk_at "w";refine ⟨_,_,rfl,.inl (bI.of (s5 _ _ gl)),?_⟩;rw[<- lls];walk_at "w";refine gB λt2 H7 s7 n7 g7=>?_
  walk_at "w";refine ⟨_,_,Kk LB,[(mv.length:Int),pt.length,lk.length],[(mv.length:Int),pt.length,lk.length],by decide,⟨sz,_,rfl,bI.of (s7 _ _ g5),.cons rfl (.cons rfl (.cons rfl .nil))⟩,⟨t2,_,rfl,bI.of g7,.cons rfl (.cons rfl (.cons rfl .nil))⟩,?_⟩;rw[decide_eq_true rfl];have s:=s5.trans s7;have gx7:=s _ _ gx;have g07:=s _ _ g;walk_at "w";refine ⟨x,Z.a_System,dx,_,_,rfl,gx7,T.cl_System,T.na_move,p4,?_⟩;walk_at "w";refine ⟨_,_,tm,_,_,by decide,(Ga.same s).kind,(Gm.same s).kind,?_⟩;rw[decide_eq_true rfl];walk_at "w";refine ⟨x,Z.a_System,dx,_,_,rfl,gx7,T.cl_System,T.na_put,tO,?_⟩;walk_at "w";refine ⟨_,_,tm,_,_,by decide,(Gb.same s).kind,(Gp.same s).kind,?_⟩;rw[decide_eq_true rfl];walk_at "w";refine ⟨x,Z.a_System,dx,_,_,rfl,gx7,T.cl_System,T.na_look,wD,?_⟩;walk_at "w";refine ⟨_,_,tm,_,_,by decide,(Gc.same s).kind,(Gl.same s).kind,?_⟩;rw[decide_eq_true rfl];exact k _ s
theorem mK:aX ["_law_one","_law_other","_law_total","_law_k"] ["_law_one","_law_other"] (aw jt):=by walk_at "d"
theorem A5 (T:Txt K mg Z):cw P w K mg base gX 3 Z.pE Z.o5 ["_law_one","_law_other"] (zz K):=by
 refine T.tH.ok mK (λvs H Q E h=>?_) (λcdv A outer s H vs Q E hr h=>?_)
 ·obtain ⟨p,q,xs,ys,rfl,_⟩:=h;rfl
 ·obtain ⟨p,q,xs,ys,rfl,hp,hq,hl,hz,⟨k1,j1,k2,j2,h1,h2,hkj⟩,kk⟩:=h
  refine ⟨_,(av (aY (i:=2) mK.nd rfl (Or.inl rfl) (d5 (ae ao (ae ao aj))))
   (av (eS PassesOwn.never rfl (cx rfl T.range (ae (bS bB (by rfl) T.len bx (ae (pv 0) aj)) aj)) (aK (i:=3) mK.nd)
    (ax (aY (i:=2) mK.nd rfl (Or.inl rfl) (cA (mO T) hr T.j8 T.jB.kp T.mD (ae (pv 2) (ae (cA (kG T) hr T.jb T.iM.kp T.kd (ae (be bK (pv 0) (pv 3)) (ae (be bK (pv 1) (pv 3)) aj))) aj))))))
   (ax (bf (pv 2))))),?_⟩
  refine aL (σ:=[some (.ref p),some (.ref q),none,none]) rfl ?_;obtain ⟨us,gu,qu⟩:=id hp;obtain ⟨ws,gw,qw⟩:=id hq;have lu:=qu.length;have lw:=qw.length;walk_at "w";refine cF λr0 H0 s0 g0=>?_
  walk_at "w";refine ⟨_,_,rfl,.inl (bI.of (s0 _ _ gu)),?_⟩;walk_at "w";refine ⟨by lia,by lia,?_⟩;refine d7 (n:=us.length) (λi σ' H'=>aH H H'/\∃(r:V) (v:Option V),σ'=[some (.ref p),some (.ref q),some r,v]/\b6 K H' (cY (xs.take i) (ys.take i)) r) ⟨s0,_,none,rfl,b6.mk g0 rfl⟩ ?_ ?_
  ·rintro i σ' H' hi ⟨s,r,v,rfl,hr⟩;have ix:i < xs.length:=by lia
   have iy:i < ys.length:=by lia
   obtain ⟨vx,ex,nx⟩:=Ek (Paired.imp' (λ_ _ z=>z.same s) qu) ix;obtain ⟨vy,ey,ny⟩:=Ek (Paired.imp' (λ_ _ z=>z.same s) qw) iy;walk_at "w";refine b9 (bI.of (s _ _ gu)) ex ?_;walk_at "w";refine b9 (bI.of (s _ _ gw)) ey ?_;walk_at "w";refine ⟨_,_,_,_,rfl,nx,ny,h1.szn (getD_mem ix) (by lia),h2.szn (getD_mem iy) (by lia),λr3 H3 s3 n3=>?_⟩;walk_at "w";refine ⟨_,_,_,_,rfl,hr.same s3,n3,FY h1 h2 hz i hkj,Fw (h1.one (getD_mem ix)) (h2.one (getD_mem iy)) hkj,λr4 H4 s4 n4=>?_⟩;walk_at "w";exact ⟨(s.trans s3).trans s4,_,_,rfl,by rw[yY ix iy];exact n4⟩
  ·rintro σ' H' ⟨s,r,v,rfl,hr⟩;rw[aB (by lia),aB (by lia)] at hr;obtain ⟨t,rfl,ht⟩:=hr;walk_at "w";exact kk _ H' s ⟨t,rfl,ht⟩
theorem BZ:aX ["_law_grid","_law_row_here"] ["_law_grid","_law_row_here"] (aw lM):=by walk_at "d"
theorem sW (T:Txt K mg Z):cw P w K mg base gX 4 Z.rF Z.rg ["_law_grid","_law_row_here"] (zy K):=by
 refine T.oA.ok BZ (λvs H Q E h=>?_) (λcdv A outer s H vs Q E hr h=>?_)
 ·obtain ⟨p,q,H0,rows,ys,rfl,_⟩:=h;rfl
 ·obtain ⟨p,q,H0,rows,ys,rfl,hp,hq,hz,hl,hr1,kk⟩:=h;refine ⟨_,(ax (bf (ck ["_law_one"] ["_law_row_here"] [1] (cG (pv 0)) (λ_=>(aK (i:=0) (show List.Nodup (α:=PySem.Str) ["_law_one","_law_row_here"] by decide +kernel))) (λ_=>cu) (λ_=>(cA (A5 T) hr T.vH T.tH.kp T.xO (ae (pv 0) (ae (pv 1) aj))))))),?_⟩;refine aL (σ:=[some (.ref p),some (.ref q)]) rfl ?_;obtain ⟨xs,gx,qx,_⟩:=id hp;walk_at "w";refine ⟨⟨_,bI.of gx⟩,?_⟩;refine dA (K:=K) (F:=cZ K H0) (b6 K) (λxs=>cY xs ys) gx qx hz (λa b=>a.same b) (λa b=>a.same b) ?_ ?_
  ·rintro i ns x H' NY NN en s ⟨u,rfl,_,hu⟩ k;obtain ⟨e1,e2⟩:=hr1 ns (ak en);walk_at "w";exact ⟨u,q,ns,ys,rfl,hu,hq.same s,e1.symm,by lia,e2,λr H2 s2 h2'=>k _ _ s2 h2'⟩
  ·rintro ys' H' r hr s g pr nx;exact kk r H' hr s ⟨ys',g,pr⟩
theorem eP:aX ["_law_parts_here","_law_state","_law_puts","_law_move_here","_law_put","_law_look","_law_found","_law_k"] ["_law_parts_here","_law_state","_law_puts"] (aw iD):=by walk_at "d"
theorem zQ (T:Txt K mg Z):cw P w K mg base gX 5 Z.nC Z.mY ["_law_parts_here","_law_state","_law_puts"] (AD K):=by
 refine T.qI.ok eP (λvs H Q E h=>?_) (λcdv A outer s H vs Q E hr h=>?_)
 ·obtain ⟨r,s0,u0,H0,mv,pt,lk,st,pu,rfl,_⟩:=h;rfl
 ·obtain ⟨r,s0,u0,H0,mv,pt,lk,st,pu,rfl,PQ,D,hs,hu,l1,l2,NX,k⟩:=h
  refine ⟨_,(av (fB (pv 0) (w5 rfl (cb (aK (i:=3) eP.nd) (cb (aK (i:=4) eP.nd) (cb (aK (i:=5) eP.nd) iX)))))
   (av (aY (i:=6) eP.nd rfl (Or.inl rfl) (cA (sW T) hr T.oR T.oA.kp T.rk (ae (pv 3) (ae (pv 1) aj))))
   (av (eS PassesOwn.never rfl (cx rfl T.range (ae (bS bB (by rfl) T.len bx (ae (pv 4) aj)) aj)) (aK (i:=7) eP.nd)
    (ax (aY (i:=6) eP.nd rfl (Or.inl rfl) (cA (kH T) hr T.jc T.iN.kp T.ke (ae (pv 6) (ae (cA (sX T) hr T.oS T.oB.kp T.rn (ae (be bK (pv 2) (pv 7)) (ae (be bK (pv 4) (pv 7)) aj))) aj))))))
   (ax (bf (pv 6)))))),?_⟩
  refine aL (σ:=[some (.ref r),some (.ref s0),some (.ref u0),none,none,none,none,none]) rfl ?_;obtain ⟨m,p,l,g,n1,n2,n3,Gm,Gp,Gl⟩:=id PQ;have d1:=D.n8;have d2:=D.i4;walk_at "w";refine ⟨m,s0,H0,mv,st,rfl,Gm,hs,by lia,by lia,λxs hx=>⟨by rw[D.mw xs hx,l1],NX.f2 xs hx⟩,λf H1 nf s1 R1=>?_⟩;obtain ⟨ps,gp,qp,_⟩:=Gp.same s1;have lp:=qp.length;walk_at "w";refine ⟨_,_,rfl,.inl (bI.of gp),?_⟩;walk_at "w";refine ⟨by lia,by lia,?_⟩;refine d7 (n:=ps.length) (λkk σ' H'=>∃(f:Addr) (x:Option V),σ'=[some (.ref r),some (.ref s0),some (.ref u0),some (.ref m),some (.ref p),some (.ref l),some (.ref f),x]/\H f=none/\aH H1 H'/\dC K H' f (nextK mv pt st pu kk)) ⟨f,none,rfl,nf,aH.refl _,by rw[Ck];exact R1⟩ ?_ ?_
  ·rintro kk σ' H' hk ⟨f',x,rfl,nf',s',R'⟩;have kp:kk < pt.length:=by lia
   have ku:kk < pu.length:=by lia
   obtain ⟨zs,gz,qz⟩:=(hu.same s1).same s';have lz:=qz.length;obtain ⟨vu,eu,nu⟩:=Ek qz ku;obtain ⟨row,vr,er,ev,mr,q,rfl,_,Rq⟩:=jx qp kp
   have er':pt[kk]=row:=by
    rw[af kp] at er;exact bp er
   have eu':pu.getD kk 0=pu[kk]:=by rw[aa,af ku];rfl
   have mu:pu.getD kk 0∈pu:=getD_mem ku;walk_at "w";refine b9 (bI.of gz) eu ?_;walk_at "w";refine b9 (bI.of (s' _ _ gp)) (eX ev) ?_;walk_at "w";refine ⟨vu,q,_,row,rfl,nu,NX.su _ mu,Rq.same s',by rw[D.pw row mr];lia,NX.sp row mr,λr1 H2 n1' s2 R2=>?_⟩;walk_at "w";refine ⟨f',r1,_,_,rfl,R'.same s2,R2,by rw[ag,iI,D.pw row mr],by rw[iI];lia,NX.part kk,λy hy=>?_,λr2 H3 n2' s3 R3=>?_⟩
   ·obtain ⟨y',hy',rfl⟩:=ay.mp hy;exact NX.mul _ mu row mr y' hy'
   ·walk_at "w";refine ⟨s1.none (s'.none (s2.none n2')),(s'.trans s2).trans s3,?_⟩;have e:=Cm (st:=st) (pu:=pu) (λxs hx=>by rw[D.mw xs hx,l1]) kp ku (by rw[er'];exact D.pw row mr);rw[er',<- eu'] at e;rw[<- e];exact R3
  ·rintro σ' H' ⟨f',x,rfl,nf',s',R'⟩;rw[qU (by lia) (by lia)] at R';walk_at "w";exact k f' H' nf' (s1.trans s') R'
theorem pS:aX ["self","state","puts","columns"] ["self","state","puts"] (aw eD):=by walk_at "d"
theorem vU (T:Txt K mg Z):cw P w K mg base gX 5 Z.jf Z.jd ["self","state","puts"] (yC K Z.a_System):=by
 refine T.qL.ok pS (λvs H Q E h=>?_) (λcdv A outer s H vs Q E hr h=>?_)
 ·obtain ⟨x,p,q,H0,mv,pt,lk,st,pu,rfl,_⟩:=h;rfl
 ·obtain ⟨x,p,q,H0,mv,pt,lk,st,pu,rfl,S,D,F,hp,hq,l1,l2,fs,k⟩:=h
  refine ⟨_,(av (aY (i:=3) pS.nd rfl (Or.inl rfl) (cA (mf T) hr T.i8 T.gV.kp T.jN (ae (cR (pv 0) rfl) (ae (cR (pv 0) rfl) aj))))
   (ax (bf (ck ["line","column"] ["state","puts"] [1,2] (qR rfl T.zip (ae (cR (pv 0) rfl) (ae (pv 3) aj))) (λ_=>(oK K 2 (cb (aK (i:=0) (show List.Nodup (α:=PySem.Str) ["line","column","state","puts"] by decide +kernel)) (cb (aK (i:=1) (show List.Nodup (α:=PySem.Str) ["line","column","state","puts"] by decide +kernel)) iX)))) (λ_=>cu) (λ_=>(cA (xi T) hr T.sZ T.rJ.kp T.vg (ae (bN zN (pv 0) (pv 1)) (ae (bN zN (pv 2) (pv 3)) aj)))))))),?_⟩
  refine aL (σ:=[some (.ref x),some (.ref p),some (.ref q),none]) rfl ?_;obtain ⟨dx,a,b,c,gx,n1,n2,n3,Ga,Gb,Gc⟩:=id S;have d1:=D.n8;have d2:=D.i4;walk_at "w";refine ⟨x,Z.a_System,dx,_,_,rfl,gx,T.cl_System,T.na_put,tO,?_⟩;walk_at "w";refine ⟨x,Z.a_System,dx,_,_,rfl,gx,T.cl_System,T.na_states,eK,?_⟩;walk_at "w";refine ⟨b,mv.length,H0,pt,rfl,Gb,by lia,by lia,D.pw,λt H1 nt s1 Gt=>?_⟩;obtain ⟨as,ga,qa,_⟩:=Ga.same s1;obtain ⟨ts,gt,qt,_⟩:=id Gt;have la:=qa.length;have lt:=qt.length;rw[cL] at lt;have gx1:=s1 _ _ gx;walk_at "w";refine ⟨x,Z.a_System,dx,_,_,rfl,gx1,T.cl_System,T.na_move,p4,?_⟩;walk_at "w";refine ⟨⟨_,bI.of ga⟩,⟨_,bI.of gt⟩,?_⟩;refine qA (K:=K) (xs:=as) (ws:=ts) (λi ys H'=>aH H1 H'/\Paired (b6 K H') ((fD mv pt st pu).take i) ys) (bh (bL (by lia))) (by lia) ⟨aH.refl _,.nil⟩ (λi ys H' _ ⟨s,_⟩=>⟨bI.of (s _ _ ga),bI.of (s _ _ gt)⟩) ?_ ?_
  ·rintro i v1 v2 ys H' r h1 h2 hy ⟨s,pr⟩ hr;obtain ⟨line,el,u1,rfl,_,R1⟩:=b8 qa h1;obtain ⟨col,ec,u2,rfl,_,R2⟩:=b8 qt h2;have ml:=ak el;have mc:=ak ec;have sr:aH H' (upd H' r (.tup [.ref u1,.ref u2])):=aH.new hr;have gr:(upd H' r (.tup [.ref u1,.ref u2])) r=some (.tup [.ref u1,.ref u2]):=aF;have s2:=s.trans sr;generalize upd H' r (.tup [.ref u1,.ref u2])=H2 at sr gr s2 ⊢;have lc:col.length=pt.length:=nY col mc;have ll:line.length=mv.length:=D.mw line ml;obtain ⟨z1,g1,q1⟩:=R1.same s2;obtain ⟨z2,g2,q2⟩:=R2.same s2;have y1:=q1.length;have y2:=q2.length;walk_at "w";refine zI g1 g2 (bh (bL (by lia))) λc1 H3 s3 n3' g3=>?_
   have s13:=s2.trans s3;obtain ⟨z3,g4,q3⟩:=(hp.same s1).same s13;obtain ⟨z4,g5,q4⟩:=(hq.same s1).same s13;have y3:=q3.length;have y4:=q4.length;walk_at "w";refine zI g4 g5 (bh (bL (by lia))) λc2 H4 s4 n4 g6=>?_
   have s34:=s3.trans s4;walk_at "w";refine ⟨c1,c2,line++col,st++pu,rfl,⟨_,s4 _ _ g3,Paired.imp' (λ_ _ z=>z.same s34) (cv q1 q2)⟩,⟨_,g6,Paired.imp' (λ_ _ z=>z.same s4) (cv q3 q4)⟩,by rw[aA,aA];lia,by rw[aA];lia,.sys ?_ fs,λr2 H5 s5 h5=>?_⟩
   ·refine F.fits λy hy=>?_
    rcases aI.mp hy with hy | hy
    ·exact .inl ⟨line,ml,hy⟩
    ·obtain ⟨j,_,rfl⟩:=ay.mp mc;obtain ⟨xs,hx,rfl⟩:=ay.mp hy;by_cases hj:j < xs.length
     ·refine .inr (.inl ⟨xs,hx,?_⟩);rw[aa,af hj];exact aN hj
     ·exact .inr (.inr (.inr (by rw[aa,aP (by lia)];rfl)))
   ·have em:(fD mv pt st pu)[i]?=some (cY (line++col) (st++pu)):=by
     unfold fD;rw[bO,el,ec]
    refine ⟨((s2.trans s34).trans s5),?_⟩;rw[take_snoc em];exact cv (Paired.imp' (λ_ _ z=>(z.same (sr.trans s34)).same s5) pr) (.cons h5 .nil)
  ·rintro ys H' hy ⟨s,pr⟩ l hl;have lm:(fD mv pt st pu).length=mv.length:=by unfold fD;rw[bC,cL];lia
   rw[aB (by lia)] at pr;exact k l _ (s1.none (s.none hl)) ((s1.trans s).trans (aH.new hl)) ⟨ys,aF,Paired.imp' (λ_ _ z=>z.same (aH.new hl)) pr⟩
theorem wV:aX ["self","state"] ["self","state"] (aw fv):=by walk_at "d"
theorem xn (T:Txt K mg Z):cw P w K mg base gX 6 Z.jW Z.jL ["self","state"] (AB K Z.a_System):=by
 refine T.sN.ok wV (λvs H Q E h=>?_) (λcdv A outer s H vs Q E hr h=>?_)
 ·obtain ⟨x,p,H0,mv,pt,lk,st,rfl,_⟩:=h;rfl
 ·obtain ⟨x,p,H0,mv,pt,lk,st,rfl,S,D,F,hp,l1,fs,k⟩:=h;refine ⟨_,(ax (bf (cA (sU T) hr T.oQ T.oy.kp T.rj (ae (cR (pv 0) rfl) (ae (pv 1) aj))))),?_⟩;refine aL (σ:=[some (.ref x),some (.ref p)]) rfl ?_;obtain ⟨dx,a,b,c,gx,n1,n2,n3,Ga,Gb,Gc⟩:=id S;have d3:=D.o4;have d1:=D.n8;walk_at "w";refine ⟨x,Z.a_System,dx,_,_,rfl,gx,T.cl_System,T.na_look,wD,?_⟩;walk_at "w";exact ⟨c,p,H0,lk,st,rfl,Gc,hp,by lia,by lia,λxs hx=>⟨by rw[D.lw xs hx,l1],.sys (F.fits λy hy=>.inr (.inr (.inl ⟨xs,hx,hy⟩))) fs⟩,k⟩
theorem rR:aX ["lines","begin","place","at"] ["lines","begin","place"] (aw gi):=by walk_at "d"
theorem yj (T:Txt K mg Z):cw P w K mg base gX 1 Z.kZ Z.kO ["lines","begin","place"] yH:=by
 refine T.pL.ok rR (λvs H Q E h=>?_) (λcdv A outer s H vs Q E hr h=>?_)
 ·obtain ⟨l,p,ls,b,c,rfl,_⟩:=h;rfl
 ·obtain ⟨l,p,ls,b,c,rfl,G,l1000,b1000,hc,k1,k2⟩:=h
  refine ⟨_,(av (eS PassesOwn.never rfl (Ea rfl T.range (ae (pv 1) (ae (bS bB (by rfl) T.len bx (ae (pv 0) aj)) aj))) (aK (i:=3) rR.nd)
    (ax (dc (bq A2 (be bK (be bK (pv 0) (pv 3)) (pv 2)) ao (bA _)) (ax (bf (pv 3))) bV)))
   (ax (bf Fl))),?_⟩
  refine aL (σ:=[some (.ref p),some (.int b),some (.int c),none]) rfl ?_;obtain ⟨_,xs,gx,qx⟩:=id G;have lx:=qx.length;walk_at "w";refine ⟨_,_,rfl,.inl (bI.of gx),?_⟩;rw[<- lx];walk_at "w";refine ⟨⟨by lia,by lia,by lia,by lia⟩,?_⟩;refine yW (lo:=(b:Int)) (n:=((ls.length:Int) - (b:Int)).toNat) (λi σ' H'=>H'=H/\(∃y,σ'=[some (.ref p),some (.int b),some (.int c),y])/\∀s,b<=s->s < b+i->dQ ls s c=0) ⟨rfl,⟨_,rfl⟩,λs h1 h2=>absurd h2 (by lia)⟩ ?_ ?_
  ·rintro i σ' H' hi ⟨rfl,⟨y,rfl⟩,hz⟩;rw[show ((b:Int)+(i:Int))=((b+i:Nat):Int) by lia];obtain ⟨zs,v,ez,ev,mz,q,rfl,_,gq⟩:=jx qx (i:=b+i) (by lia);walk_at "w";refine b9 (bI.of gx) (eX ev) ?_;walk_at "w";refine b9 (bI.of gq) (Ar (hc zs mz)) ?_;walk_at "w";have ef:=Jy (c:=c) ez;by_cases e:zs.getD c 0=0
   ·rw[decide_eq_true e];walk_at "w";refine ⟨rfl,⟨_,rfl⟩,λs h1 h2=>?_⟩;by_cases e2:s=b+i
    ·rw[e2,ef,e];rfl
    ·exact hz s h1 (by lia)
   ·rw[decide_eq_false e];walk_at "w";exact k1 (b+i) (by lia) (by lia) (by rw[ef];exact L7.mpr e)
  ·rintro σ' H' ⟨rfl,⟨y,rfl⟩,hz⟩;walk_at "w";exact k2 λt h1 h2=>hz t h1 (by lia)
theorem oJ:aX ["lines","at","place","before","used","by","swept"] ["lines","at","place","before"] (aw lL):=by walk_at "d"
theorem Ci (T:Txt K mg Z):cw P w K mg base gX 1 Z.rE Z.rf ["lines","at","place","before"] yI:=by
 refine T.vp.ok oJ (λvs H Q E h=>?_) (λcdv A outer s H vs Q E hr h=>?_)
 ·obtain ⟨l,p,ls,kk,c,n,b,rfl,_⟩:=h;rfl
 ·obtain ⟨l,p,ls,kk,c,n,b,rfl,hl,G,l1000,hk,hw,n1000,hc,b0,sb,hs,k⟩:=h
  refine ⟨_,(av (aY (i:=4) oJ.nd rfl (Or.inr rfl) (be bK (pv 0) (pv 1)))
   (av (aY (i:=5) oJ.nd rfl (Or.inr rfl) (be bK (pv 4) (pv 2)))
   (av (mL 6 ["line"] ["used","by","place","before"] [4,5,2,3] oJ.nd rfl rfl (cG (pv 0)) (λ_=>(aK (i:=0) (show List.Nodup (α:=PySem.Str) ["line","used","by","place","before"] by decide +kernel) rfl (Or.inr rfl) (Or.inl rfl))) (λ_=>cu) (λ_=>(ck ["mine","yours"] ["by","line","place","before"] [2,0,3,4] (Fi K rfl T.zip (ae (pv 0) (ae (pv 1) aj))) (λ_=>(oK K 2 (cb (aK (i:=0) (show List.Nodup (α:=PySem.Str) ["mine","yours","by","line","place","before"] by decide +kernel)) (cb (aK (i:=1) (show List.Nodup (α:=PySem.Str) ["mine","yours","by","line","place","before"] by decide +kernel)) iX)))) (λ_=>cu) (λ_=>(bN iZ (bN p9 (bN cS (pv 2) (pv 0)) (bN cS (be (ot K (by rfl)) (pv 3) (pv 4)) (pv 1))) (pv 5))))))
   (av (fB (pv 4) (gR (pv 6) (pv 1) set_list))
   (ax (bf (pv 6))))))),?_⟩
  refine aL (σ:=[some (.ref p),some (.int kk),some (.int c),some (.int b),none,none,none]) rfl ?_;obtain ⟨pl,xs,gx,qx⟩:=id G;have lx:=qx.length;obtain ⟨zk,vk,ek,evk,mk,qk,rfl,qkl,gk⟩:=jx qx hk;have wk:=hw zk mk;have ek':ls.getD kk []=zk:=by rw[aa,ek];rfl
  walk_at "w";refine b9 (bI.of gx) (eX evk) ?_;walk_at "w";refine b9 (bI.of gk) (Ar (by lia)) ?_;walk_at "w";refine ⟨⟨_,bI.of gx⟩,?_⟩;refine fw (K:=K) (xs:=xs) (λi ys H'=>aH H H'/\Paired (DQ l H') ((ls.take i).map λzs=>List.zipWith (λx y=>(zk.getD c 0*x - zs.getD c 0*y).fdiv b) zs zk) ys) (bh (bL (by lia))) ⟨aH.refl _,.nil⟩ (λi ys H' _ ⟨s,_⟩=>bI.of (s _ _ gx)) ?_ ?_
  ·rintro i v ys0 H' hx hlen ⟨s',pr⟩;obtain ⟨zs,ec,q,rfl,ql,gq⟩:=b8 qx hx;have mz:=ak ec;have wz:=hw zs mz;have gq':=s' _ _ gq;have gk':=s' _ _ gk;walk_at "w";refine ⟨⟨_,bI.of gq'⟩,⟨_,bI.of gk'⟩,?_⟩;refine qA (K:=K) (xs:=zs.map V.int) (ws:=zk.map V.int) (λj ys H2=>aH H' H2/\ys=((List.zipWith (λx y=>(zk.getD c 0*x - zs.getD c 0*y).fdiv b) zs zk).take j).map V.int) (bh (bL (by rw[ag];lia))) (by rw[ag,ag];lia) ⟨aH.refl _,rfl⟩ (λj ys H2 _ ⟨s2,_⟩=>⟨bI.of (s2 _ _ gq'),bI.of (s2 _ _ gk')⟩) ?_ ?_
   ·rintro j v1 v2 ys H2 r h1 h2 hy ⟨s2,rfl⟩ hr
    obtain ⟨x,ex,rfl⟩:∃x,zs[j]?=some x/\V.int x=v1:=by
     rw[az] at h1;cases e:zs[j]? with
     | none=>rw[e] at h1;cases h1
     | some x=>rw[e] at h1;exact ⟨x,rfl,bp h1⟩
    obtain ⟨y,ey,rfl⟩:∃y,zk[j]?=some y/\V.int y=v2:=by
     rw[az] at h2;cases e:zk[j]? with
     | none=>rw[e] at h2;cases h2
     | some x=>rw[e] at h2;exact ⟨x,rfl,bp h2⟩
    have sr:aH H2 (upd H2 r (.tup [.int x,.int y])):=aH.new hr;have gr:(upd H2 r (.tup [.int x,.int y])) r=some (.tup [.int x,.int y]):=aF;generalize upd H2 r (.tup [.int x,.int y])=H3 at sr gr ⊢;have gq3:=sr _ _ (s2 _ _ gq');have sx:=hs zs mz x (ak ex);have sy:=hs zk mk y (ak ey);have s1:=hs zk mk _ (getD_in (e:=0) (show c < zk.length by lia));have s3:=hs zs mz _ (getD_in (e:=0) (show c < zs.length by lia));walk_at "w";refine fQ (show gP _ _ from .inr ⟨_,_,s1,sx,by decide⟩) ?_;walk_at "w";refine b9 (bI.of gq3) (Ar (by lia)) ?_;walk_at "w";refine fQ (show gP _ _ from .inr ⟨_,_,s3,sy,by decide⟩) ?_;walk_at "w";refine fQ (show pW _ _ from ⟨b0,sb⟩) ?_;have ez:(List.zipWith (λx y=>(zk.getD c 0*x - zs.getD c 0*y).fdiv b) zs zk)[j]?=some ((zk.getD c 0*x - zs.getD c 0*y).fdiv b):=by rw[bO,ex,ey]
    exact ⟨s2.trans sr,by rw[take_snoc ez];simp⟩
   ·rintro ys H2 hy ⟨s2,rfl⟩ r hr;have sn:aH H2 (upd H2 r (.lst (((List.zipWith (λx y=>(zk.getD c 0*x - zs.getD c 0*y).fdiv b) zs zk).take (zs.map V.int).length).map V.int))):=aH.new hr;refine ⟨(s'.trans s2).trans sn,?_⟩;rw[take_snoc ec,fG];refine cv (Paired.imp' (λ_ _ z=>(DQ.same z s2).same sn) pr) (.cons ⟨r,rfl,ne_old (λz=>hl (s'.none (s2.none z))) hr,?_⟩ .nil);rw[aF,aB (by rw[bC,ag];lia)]
  ·rintro ys H1 hy ⟨s1,pr⟩ r hr;have sn:aH H1 (upd H1 r (.lst ys)):=aH.new hr;have gn:(upd H1 r (.lst ys)) r=some (.lst ys):=aF;have ly:=pr.length;rw[ag,cO] at ly;generalize upd H1 r (.lst ys)=H2 at sn gn ⊢;walk_at "w";refine eB gn (eV (by lia)) rfl ?_;have s2:aH H1 (upd H2 r (.lst (ys.set kk (.ref qk)))):=sn.after hr;walk_at "w";refine k r _ (s1.none hr) (s1.trans s2) ⟨ne_old (λz=>hl (s1.none z)) hr,_,aF,?_⟩;unfold BC;rw[ek'];rw[aB (by lia)] at pr;exact md (Paired.imp' (λ_ _ z=>DQ.same z s2) pr) kk ⟨qk,rfl,qkl,(s1.trans s2) _ _ gk⟩
theorem rS:aX ["lines","at","to","swapped"] ["lines","at","to"] (aw gs):=by walk_at "d"
theorem yk (T:Txt K mg Z):cw P w K mg base gX 1 Z.lg Z.kQ ["lines","at","to"] vA:=by
 refine T.pM.ok rS (λvs H Q E h=>?_) (λcdv A outer s H vs Q E hr h=>?_)
 ·obtain ⟨l,p,ls,t,kk,rfl,_⟩:=h;rfl
 ·obtain ⟨l,p,ls,t,kk,rfl,hl,G,l1000,ht,hk,k⟩:=h
  refine ⟨_,(av (aY (i:=3) rS.nd rfl (Or.inl rfl) (lS pd (by rfl) T.list PyProof.Rows.boot_list (ae (pv 0) aj)))
   (av (fB (be bK (pv 0) (pv 1)) (gR (pv 3) (pv 2) set_list))
   (av (fB (be bK (pv 0) (pv 2)) (gR (pv 3) (pv 1) set_list))
   (ax (bf (pv 3)))))),?_⟩
  refine aL (σ:=[some (.ref p),some (.int t),some (.int kk),none]) rfl ?_;obtain ⟨pl,xs,gx,qx⟩:=id G;have lx:=qx.length;obtain ⟨zt,vt,et,evt,_,Ft⟩:=jx qx ht;obtain ⟨zk,vk,ek,evk,_,Fk⟩:=jx qx hk;walk_at "w";refine ⟨p,xs,rfl,.inl (bI.of gx),λc hc=>?_⟩;have sc:aH H (upd H c (.lst xs)):=aH.new hc;have gc:(upd H c (.lst xs)) c=some (.lst xs):=aF;generalize upd H c (.lst xs)=Hc at sc gc ⊢;walk_at "w";refine b9 (bI.of (sc _ _ gx)) (eX evt) ?_;walk_at "w";refine eB gc (eV (by lia)) rfl ?_;have s1:aH H (upd Hc c (.lst (xs.set kk vt))):=sc.after hc;have g1:(upd Hc c (.lst (xs.set kk vt))) c=some (.lst (xs.set kk vt)):=aF;generalize upd Hc c (.lst (xs.set kk vt))=H1 at s1 g1 ⊢;walk_at "w";refine b9 (bI.of (s1 _ _ gx)) (eX evk) ?_;walk_at "w";refine eB g1 (eV (by rw[dY];lia)) rfl ?_;have s2:aH H (upd H1 c (.lst ((xs.set kk vt).set t vk))):=s1.after hc;walk_at "w";refine k c _ hc s2 ⟨ne_old hl hc,_,aF,?_⟩;have et':ls.getD t []=zt:=by rw[aa,et];rfl
  have ek':ls.getD kk []=zk:=by rw[aa,ek];rfl
  unfold oF;rw[et',ek'];exact md (md (Paired.imp' (λ_ _ z=>DQ.same z s2) qx) kk (DQ.same Ft s2)) t (DQ.same Fk s2)
theorem iV:aX ["rows","wide","lines","leads","before","place","many","at"] ["rows","wide"] (aw qO):=by walk_at "d"
theorem Fp (T:Txt K mg Z):cw P w K mg base gX 4 Z.we Z.v8 ["rows","wide"] (yw K):=by
 refine T.Al.ok iV (λvs H Q E h=>?_) (λcdv A outer s H vs Q E hr h=>?_)
 ·obtain ⟨p,n,w,H0,rows,rfl,_⟩:=h;rfl
 ·obtain ⟨p,n,w,H0,rows,rfl,G,r100,n100,hw,F,k⟩:=h
  refine ⟨_,(av (mL 2 ["row"] [] [] iV.nd rfl rfl (cG (pv 0)) (λ_=>(aK (i:=0) (show List.Nodup (α:=PySem.Str) ["row"] by decide +kernel))) (λ_=>cu) (λ_=>(cA (tY T) hr T.kJ T.kj.kp T.m8 (ae (pv 0) (ae (cA (oh T) hr T.gE T.fe.kp T.g8 (ae (pv 0) aj)) aj)))))
   (av (aY (i:=3) iV.nd rfl (Or.inl rfl) (iY aj))
   (av (aY (i:=4) iV.nd rfl (Or.inl rfl) ao)
   (av (eS PassesOwn.never rfl (cx rfl T.range (ae (pv 1) aj)) (aK (i:=5) iV.nd)
    (av (aY (i:=6) iV.nd rfl (Or.inl rfl) (bS bB (by rfl) T.len bx (ae (pv 3) aj)))
   (av (aY (i:=7) iV.nd rfl (Or.inl rfl) (cA (yj T) hr T.rZ T.pL.kp T.uC (ae (pv 2) (ae (pv 6) (ae (pv 5) aj)))))
   (ax (dc (bq Ij (pv 7) Fl (bA _)) (av (aY (i:=2) iV.nd rfl (Or.inl rfl) (cA (Ci T) hr T.xv T.vp.kp T.zf (ae (cA (yk T) hr T.si T.pM.kp T.uD (ae (pv 2) (ae (pv 7) (ae (pv 6) aj)))) (ae (pv 6) (ae (pv 5) (ae (pv 4) aj))))))
   (av (aY (i:=4) iV.nd rfl (Or.inl rfl) (be bK (be bK (pv 2) (pv 6)) (pv 5)))
   (ax (kF (yO dS dH dG lU (pv 3) (ae (pv 5) aj)))))) bV)))))
   (ax (bf (d5 (ae (A0 C4 (pv 2) C9 (C8 (bS bB (by rfl) T.len bx (ae (pv 3) aj)))) (ae (pv 3) aj))))))))),?_⟩
  refine aL (σ:=[some (.ref p),some (.int n),none,none,none,none,none,none]) rfl ?_;obtain ⟨xs,gx,qx,_⟩:=id G;obtain ⟨W,hW,W2,ent⟩:=F.ent;obtain ⟨_,_,_,_,_,_,_,_,r15,r89⟩:=id F;walk_at "w";refine ⟨⟨_,bI.of gx⟩,?_⟩;refine dA (K:=K) (as:=rows) (F:=cZ K H0) (λ(H:Hp) (zs:List Int) (v:V)=>∃q,v=V.ref q/\H q=some (.lst (zs.map V.int))) lX gx qx (by lia) (λa b=>a.same b) (λ⟨q,a,b⟩ s=>⟨q,a,s _ _ b⟩) ?_ ?_
  ·rintro i qs v H' NY NN ec s' ⟨u,rfl,_,R⟩ k1;have mx:=ak ec;obtain ⟨M,hM⟩:=F.rowM mx;obtain ⟨b1,sb⟩:=hM.bot;have lq:(qs.map nm).length<=1000:=by rw[ag,hw qs mx];lia
   walk_at "w";refine ⟨u,_,M,rfl,R.rowK,lq,hM,λH2 s2=>?_⟩;walk_at "w";exact ⟨u,_,M,_,rfl,(R.same s2).rowK,lq,hM,b1,sb,λr H3 n3 s3 g3=>k1 _ _ (s2.trans s3) ⟨r,rfl,g3⟩⟩
  rintro ys H1 lp0 hlp s1 g1 pr1 nx1;walk_at "w";refine gB λqp H2 s2 nq gq=>?_
  have G2:qG qp H2 lp0 (rows.map lX):=⟨(λz=>by rw[z,nq] at g1;cases g1),ys,s2 _ _ g1,Paired.imp' (λ_ _ ⟨q,a,b⟩=>⟨q,a,(λz=>by rw[z,nq] at b;cases b),s2 _ _ b⟩) pr1⟩;have hq0:H qp=none:=s1.none nq;have s02:=s1.trans s2;have hm:(rows.map lX).length=rows.length:=ag ..;clear g1 pr1 nx1;walk_at "w";refine ⟨by lia,by lia,?_⟩;refine d7 (n:=n) (λP σ' H'=>aH H H'/\∃lp ls ps d y1 y2 y3,σ'=[some (.ref p),some (.int n),some (.ref lp),some (.ref qp),some (.int d),y1,y2,y3]/\H' qp=some (.lst (dh ps))/\qG qp H' lp ls/\zg (rows.map lX) n P ls ps d) ⟨s02,lp0,rows.map lX,[],1,_,_,_,rfl,gq,G2,zg.start λzs hz=>by obtain ⟨x,hx,rfl⟩:=ay.mp hz;rw[wB];exact hw x hx⟩ ?_ ?_
  ·rintro P σ' H' hP ⟨s',lp,ls,ps,d,y1,y2,y3,rfl,gq',G',I⟩;have hl:=I.len;have kP:=I.el.kP;have km:=I.el.km;have lps:(dh ps).length=ps.length:=ag ..;have hqp:H' qp≠none:=by rw[gq'];exact λz=>nomatch z
   obtain ⟨z1,z2⟩:=I.sz (r:=min rows.length n) hW ent (by lia) (by rw[hm];exact au _) r15;have big:(16*W)^min rows.length n < 2^8999:=bc (Cd W2) (dM (by decide) (by lia));walk_at "w";refine ⟨_,_,rfl,.inl (bI.of gq'),?_⟩;rw[lps];walk_at "w";refine ⟨qp,lp,ls,ps.length,P,rfl,G',by lia,by lia,λzs hz=>by rw[I.wide zs hz];exact hP,λt h1 h2 h3=>?_,λhz=>?_⟩
   ·walk_at "w";refine ⟨rfl,_,rfl,?_⟩;rw[show decide (V.int (t:Int)=V.non)=false from decide_eq_false (λz=>nomatch z)];walk_at "w";refine ⟨qp,lp,ls,t,ps.length,rfl,hqp,G',by lia,h2,by lia,λl1 Ha na sa Ga=>?_⟩;walk_at "w";refine ⟨qp,l1,_,ps.length,P,n,d,rfl,λz=>hqp (sa.none z),Ga,by rw[uM];lia,by rw[uM];lia,CU I.wide (by lia) h2,by lia,hP,I.d0,bc z1 big,λzs hz z hz'=>?_,λl2 Hb nb sb Gb=>?_⟩
    ·unfold oF at hz;have key:∀ys,ys∈ls->∀z∈ys,Sz 8999 z:=λys hy z hz=>bc (z2 ys hy z hz) big
     rcases bZ hz with h | h
     ·rcases bZ h with h | h
      ·exact key zs h z hz'
      ·rw[h] at hz';exact key _ (getD_in h2) z hz'
     ·rw[h] at hz';exact key _ (getD_in (by lia)) z hz'
    have sab:=sa.trans sb;have I2:=I.step hW ent h1 h2 h3;have hk2:ps.length < (BC (oF ls ps.length t) ps.length P d).length:=by rw[Gx,uM];lia
    obtain ⟨n2,xs2,gx2,qx2⟩:=id Gb;obtain ⟨zk,vk,ek,evk,mk,qk,rfl,_,gk⟩:=jx qx2 hk2;have wk:=I2.wide zk mk;walk_at "w";refine b9 (bI.of gx2) (eX evk) ?_;walk_at "w";refine b9 (bI.of gk) (Ar (by lia)) ?_;have gqb:=sab _ _ gq';walk_at "w";refine ⟨.inl ⟨rfl,_,bI.of gqb⟩,?_⟩;walk_at "w";refine lQ gqb (bL (by lia)) ?_;refine ⟨(s'.trans sab).after hq0,l2,_,ps++[P],_,_,_,_,rfl,?_,Gb.upd,?_⟩
    ·rw[aF];unfold dh;rw[fG];rfl
    ·have e:(BC (oF ls ps.length t) ps.length P d).getD ps.length []=zk:=by rw[aa,ek];rfl
     rw[e] at I2;exact I2
   ·walk_at "w";refine ⟨rfl,_,rfl,?_⟩;rw[show decide (V.non=V.non)=true from decide_eq_true rfl];walk_at "w";exact ⟨s',lp,ls,ps,d,_,_,_,rfl,gq',G',I.skip hz⟩
  rintro σ' H' ⟨s',lp,ls,ps,d,y1,y2,y3,rfl,gq',G',I⟩;obtain ⟨R,hR⟩:=I.done hw F;have lps:(dh ps).length=ps.length:=ag ..;obtain ⟨nl,xs',gx',qx'⟩:=id G';walk_at "w";refine ⟨_,_,rfl,.inl (bI.of gq'),?_⟩;rw[lps];walk_at "w";refine JL (bI.of gx') λsl H3 s3 n3 g3=>?_
  rw[Gj] at g3;walk_at "w";refine cF λt H4 s4 g4=>?_
  have s34:=s3.trans s4;exact k t sl qp R ps d _ H4 g4 (s34 _ _ gq') ⟨(λz=>by rw[z,gq'] at n3;cases n3),_,s4 _ _ g3,Paired.imp' (λ_ _ z=>DQ.same z s34) (vB qx' ps.length)⟩ (s'.trans s34) hR
theorem wO:aX ["rows","wide","found"] ["rows","wide"] (aw lH):=by walk_at "d"
theorem xj (T:Txt K mg Z):cw P w K mg base gX 5 Z.rA Z.qX ["rows","wide"] (vw K):=by
 refine T.rK.ok wO (λvs H Q E h=>?_) (λcdv A outer s H vs Q E hr h=>?_)
 ·obtain ⟨p,n,w,H0,rows,rfl,_⟩:=h;rfl
 ·obtain ⟨p,n,w,H0,rows,rfl,G,r100,n100,hw,F,k⟩:=h
  refine ⟨_,(av (aY (i:=2) wO.nd rfl (Or.inl rfl) (cA (Fp T) hr T.Bc T.Al.kp T.DL (ae (pv 0) (ae (pv 1) aj))))
   (ax (bf (ck ["line","lead"] [] [] (qR rfl T.zip (ae (be bT (pv 2) ao) (ae (be bT (pv 2) ao) aj))) (λ_=>(oK K 2 (cb (aK (i:=0) (show List.Nodup (α:=PySem.Str) ["line","lead"] by decide +kernel) rfl (Or.inr rfl) (Or.inl rfl)) (cb (aK (i:=1) (show List.Nodup (α:=PySem.Str) ["line","lead"] by decide +kernel) rfl (Or.inr rfl) (Or.inl rfl)) iX)))) (λ_=>cu) (λ_=>(ck ["top"] ["line","lead"] [0,1] (tV K (pv 0)) (λ_=>(aK (i:=0) (show List.Nodup (α:=PySem.Str) ["top","line","lead"] by decide +kernel))) (λ_=>cu) (λ_=>(cA (qS T) hr T.oi T.ox.kp T.qC (ae (pv 0) (ae (be (ot K (by rfl)) (pv 1) (pv 2)) aj)))))))))),?_⟩
  refine aL (σ:=[some (.ref p),some (.int n),none]) rfl ?_;obtain ⟨_,_,_,_,_,_,_,_,r15,r89⟩:=id F;walk_at "w";refine ⟨p,n,w,H0,rows,rfl,G,r100,n100,hw,F,λt lp qp R ps d ls H1 gt gq G1 s1 S=>?_⟩;obtain ⟨lR,wR,RR⟩:=id S.rr;have hl:=S.len;obtain ⟨_,xs,gx,qx⟩:=id G1;have lx:=qx.length;have lps:(dh ps).length=ps.length:=ag ..;have d0:(d:Rat)≠0:=λz=>S.d0 (xI z)
  have dsz:Sz 8999 d:=bc S.dsz (dM (by decide) (by lia))
  have km:ps.length<=n:=by
   rcases cM n ps.length with z | z
   ·have inc:∀j,j < ps.length->j<=ps.getD j 0:=by
     intro j
     induction j with
     | zero=>intro _;exact bo _
     | succ j ih =>
      intro hj;have:=ih (by lia);have:=RR.inc j (j+1) (by lia) hj
      lia
    have h1:=inc (ps.length - 1) (by lia);have h2:=RR.low (ps.length - 1) (by lia)
    lia
   ·exact z
  walk_at "w";refine ⟨⟨_,bI.of gx⟩,⟨_,bI.of gq⟩,?_⟩;refine qA (K:=K) (xs:=xs) (ws:=dh ps) (λi ys H'=>aH H1 H'/\Paired (cZ K H1 H') (R.take i) ys) (bh (bL (by lia))) (by lia) ⟨aH.refl _,.nil⟩ (λi ys H' _ ⟨s,_⟩=>⟨bI.of (s _ _ gx),bI.of (s _ _ gq)⟩) ?_ ?_
  ·rintro i v1 v2 ys H' r h1 h2 hy ⟨s,pr⟩ hr;obtain ⟨zs,ez,q,rfl,_,gq1⟩:=b8 qx h1;have hi:i < ls.length:=(aD.mp ez).1;have mz:=ak ez;have wz:=S.wide zs mz
   obtain ⟨j,ej,rfl⟩:∃j:Nat,ps[i]?=some j/\V.int (j:Int)=v2:=by
    unfold dh at h2;rw[az] at h2;cases e:ps[i]? with
    | none=>rw[e] at h2;cases h2
    | some x=>rw[e] at h2;exact ⟨x,rfl,bp h2⟩
   have ej':ps.getD i 0=j:=by rw[aa,ej];rfl
   have jn:j < n:=by have:=RR.low i (by lia);rw[ej'] at this;exact this
   have sr:aH H' (upd H' r (.tup [.ref q,.int j])):=aH.new hr;have gr:(upd H' r (.tup [.ref q,.int j])) r=some (.tup [.ref q,.int j]):=aF;generalize upd H' r (.tup [.ref q,.int j])=H2 at sr gr ⊢;have s2:=s.trans sr;have iR:i < R.length:=by lia
   have eR:=af iR;have wRi:=wR _ (aN iR)
   have ed:zs.getD j 0=d:=by
    have h:=S.val i j;rw[Jy ez] at h;have u:=RR.unit i (by lia) i (by lia);rw[if_pos rfl,ej'] at u;rw[u,Rat.mul_one] at h;exact dq.mp h
   have val:∀c,((zs.getD c 0:Int):Rat)=(d:Rat)*(R[i]).getD c 0:=λc=>by
    have h:=S.val i c;rw[Jy ez] at h;rw[h];unfold bM;rw[aa (l:=R),eR];rfl
   walk_at "w";refine ⟨⟨_,bI.of (s2 _ _ gq1)⟩,?_⟩;refine fw (K:=K) (xs:=zs.map V.int) (λc ys' H3=>aH H2 H3/\Paired (b6 K H3) ((R[i]).take c) ys') (bh (bL (by rw[ag];lia))) ⟨aH.refl _,.nil⟩ (λc ys' H3 _ ⟨s3,_⟩=>bI.of ((s2.trans s3) _ _ gq1)) ?_ ?_
   ·rintro c x ys' H3 hx hlen ⟨s3,pr3⟩
    obtain ⟨z,ec,rfl⟩:∃z,zs[c]?=some z/\V.int z=x:=by
     rw[az] at hx;cases e:zs[c]? with
     | none=>rw[e] at hx;cases hx
     | some x=>rw[e] at hx;exact ⟨x,rfl,bp hx⟩
    have hc:c < zs.length:=(aD.mp ec).1;have vc:=val c;have e1:zs.getD c 0=z:=by rw[aa,ec];rfl
    rw[e1] at vc;walk_at "w";refine b9 (bI.of ((s2.trans s3) _ _ gq1)) (Ar (by lia)) ?_;rw[ed];walk_at "w";refine ⟨z,d,rfl,S.d0,dsz,λr4 H4 s4 g4=>?_⟩;have ec':(R[i])[c]?=some ((R[i]).getD c 0):=by rw[aa,af (show c < (R[i]).length by lia)];rfl
    refine ⟨s3.trans s4,?_⟩;rw[take_snoc ec'];refine cv (Paired.imp' (λ_ _ z=>b6.same z s4) pr3) (.cons (b6.mk g4 ?_) .nil);rcases Int.lt_or_lt_of_ne S.d0 with hd | hd
    ·rw[if_pos hd,if_pos hd];refine uc (by lia) ?_;rw[iO,iO,vc];grind
    ·rw[if_neg (by lia),if_neg (by lia)];refine uc hd ?_;rw[vc];grind
   ·rintro ys' H3 hy' ⟨s3,pr3⟩ l4 hl4;have sn:aH H3 (upd H3 l4 (.lst ys')):=aH.new hl4;refine ⟨(s2.trans s3).trans sn,?_⟩;rw[take_snoc eR];rw[aB (by rw[ag];lia)] at pr3;exact cv (Paired.imp' (λ_ _ z=>cZ.same z ((sr.trans s3).trans sn)) pr) (.cons ⟨l4,rfl,(s2.trans s3).none hl4,ys',aF,Paired.imp' (λ_ _ z=>b6.same z sn) pr3⟩ .nil)
  ·rintro ys H' hy ⟨s,pr⟩ r hr;have sn:aH H' (upd H' r (.lst ys)):=aH.new hr;rw[aB (by lia)] at pr;refine k r R ps d.natAbs _ (s1.none (s.none hr)) ((s1.trans s).trans sn) ⟨ys,aF,Paired.imp' (λ_ _ z=>(cZ.weak z s1).same sn) pr,mQ (H0:=H1) (rows:=R) ⟨H',hr,pr⟩⟩ S.rr S.km ?_ S.dsz S.tp;have:=S.d0
   lia
theorem ye:aX ["system","rows"] ["system","rows"] (aw gg):=by walk_at "d"
theorem yi (T:Txt K mg Z):cw P w K mg base gX 6 Z.kX Z.kM ["system","rows"] (yB K Z.a_System):=by
 refine T.pJ.ok ye (λvs H Q E h=>?_) (λcdv A outer s H vs Q E hr h=>?_)
 ·obtain ⟨x,p,H0,H1,mv,pt,lk,R,rfl,_⟩:=h;rfl
 ·obtain ⟨x,p,H0,H1,mv,pt,lk,R,rfl,S,D,G,l100,wR,hf,k⟩:=h;refine ⟨_,(ax (bf (ck ["row"] ["system"] [0] (cG (pv 1)) (λ_=>(aK (i:=0) (show List.Nodup (α:=PySem.Str) ["row","system"] by decide +kernel))) (λ_=>cu) (λ_=>(cA (sU T) hr T.oQ T.oy.kp T.rj (ae (Ih K (pv 1) rfl) (ae (pv 0) aj))))))),?_⟩;refine aL (σ:=[some (.ref x),some (.ref p)]) rfl ?_;obtain ⟨dx,a',b',c',gx,_,_,_,Ga,Gb,Gc⟩:=id S;have d8:=D.n8;obtain ⟨xs,gxs,qx,_⟩:=id G;walk_at "w";refine ⟨⟨_,bI.of gxs⟩,?_⟩;refine dA (K:=K) (F:=cZ K H1) (cZ K H) (xZ mv) gxs qx (by lia) (λa b=>a.same b) (λa b=>a.same b) ?_ ?_
  ·rintro i ns v H' NY NN en s ⟨u,rfl,_,hu⟩ k1;have mn:=ak en;walk_at "w";refine ⟨x,Z.a_System,dx,_,_,rfl,s _ _ gx,T.cl_System,T.na_move,p4,?_⟩;walk_at "w";exact ⟨a',u,H0,mv,ns,rfl,Ga.same s,hu,by lia,by rw[wR ns mn];lia,λxs hx=>⟨by rw[D.mw xs hx,wR ns mn],hf xs hx ns mn⟩,λr H2 nr s2 R2=>k1 _ _ s2 ⟨r,rfl,s.none nr,R2⟩⟩
  ·rintro ys H' r hr s g pr nx;exact k r H' hr s ⟨ys,g,pr,mQ nx⟩
theorem lZ:aX ["system","steps","lists","rows"] ["system","steps"] (aw fg):=by walk_at "d"
theorem xk (T:Txt K mg Z):cw P w K mg base gX 7 Z.jP Z.jE ["system","steps"] (yG K Z.a_System):=by
 refine T.nV.ok lZ (λvs H Q E h=>?_) (λcdv A outer s H vs Q E hr h=>?_)
 ·obtain ⟨x,a,c,st,H0,mv,pt,lk,rfl,_⟩:=h;rfl
 ·obtain ⟨x,a,c,st,H0,mv,pt,lk,rfl,s1000,S,D,F,k⟩:=h
  refine ⟨_,(av (aY (i:=2) lZ.nd rfl (Or.inl rfl) (iY (ae (iY aj) aj)))
   (av (wY PassesOwn.never (bq Lr (bS bB (by rfl) T.len bx (ae (pv 2) aj)) (pv 1) (bA _))
    (av (aY (i:=3) lZ.nd rfl (Or.inl rfl) (cA (xj T) hr T.td T.rK.kp T.vh (ae (bN zN (cR (pv 0) rfl) (cA (yi T) hr T.rY T.pJ.kp T.uB (ae (pv 0) (ae (be bK (pv 2) (xa sR ao)) aj)))) (ae (cR (pv 0) rfl) aj))))
   (av (dc (bq gN (bS bB (by rfl) T.len bx (ae (pv 3) aj)) (bS bB (by rfl) T.len bx (ae (be bK (pv 2) (xa sR ao)) aj)) (bA _)) (ax (bf (pv 2))) bV)
   (ax (kF (yO dS dH dG lU (pv 2) (ae (pv 3) aj)))))))
   (ax (bf (pv 2))))),?_⟩
  refine aL (σ:=[some (.ref x),some (.int st),none,none]) rfl ?_;obtain ⟨dx,a',b',c',gx,_,_,_,Ga,Gb,Gc⟩:=id S;have d8:=D.n8;have i4:=D.i4;have lP:=kb (mv:=mv) (pt:=pt) rfl D.pw;walk_at "w";refine gB λq0 H1 s1 nq0 g1=>?_
  walk_at "w";refine gB λl H2 s2 nl g2=>?_
  have s02:=s1.trans s2;have nl0:H l=none:=s1.none nl;obtain ⟨Hz,eHz⟩:∃Hz,Hz=upd H l (.lst []):=⟨_,rfl⟩;have zl:Hz l≠none:=by rw[eHz,aF];exact λz=>nomatch z
  have zn:∀q,Hz q=none->H q=none/\q≠l:=λq h=>by
   have ne:q≠l:=λz=>zl (by rw[<- z];exact h)
   rw[eHz,aU ne] at h;exact ⟨h,ne⟩
  have nz:∀q,H q=none->q≠l->Hz q=none:=λq h ne=>by rw[eHz,aU ne];exact h
  clear eHz;have q0l:q0≠l:=λz=>by rw[z,nl] at g1;cases g1
  have G0:bu K Hz H2 q0 []:=⟨[],s2 _ _ g1,.nil,λz=>nomatch z⟩;walk_at "w";refine zm (λσ' H'=>aH H H'/\∃Rs R us y,σ'=[some (.ref x),some (.int st),some (.ref l),y]/\H' l=some (.lst us)/\Paired (λR v=>∃q,v=V.ref q/\Hz q=none/\bu K Hz H' q R) (Rs++[R]) us/\xS mv pt (Rs++[R])/\Rs.length<=st) (λ_ H'=>match H' l with | some (.lst us)=>st+1 - us.length | _=>0) ⟨s02,[],[],_,_,rfl,g2,.cons ⟨q0,rfl,nz q0 nq0 q0l,G0⟩ .nil,⟨by simp,λt R e=>?_,λt R R' e e'=>?_⟩,bo _⟩ ?_
  ·have ht:=(aD.mp e).1;have:t=0:=by simpa using ht
   subst this;cases e;exact ⟨[],Ca⟩
  ·have ht:=(aD.mp e').1;simp at ht
  rintro σ' Ha ⟨sa,Rs,R,us,y,rfl,gu,pa,Gw,hst⟩;have lu:=pa.length;rw[aA,br] at lu;have eR:(Rs++[R])[Rs.length]?=some R:=by rw[bR (au _),rO];rfl
  obtain ⟨ps,RR⟩:=Gw.rr _ _ eR;have tn:Rs.length<=mv.length:=by have:=Gw.len _ _ eR;have:=RR.le;have:=RR.1;lia
  have fin:∀(Hx:Hp) (sx:aH Ha Hx) (hh:∀s,(Rs.length=st/\s=st\/Rs.length < st/\Rs.length<=s)->∃ps,bU (jD mv pt s) mv.length R ps),Q (.ref l) Hx:=λHx sx hh=>by
   refine k l (Rs++[R]) Hx nl0 (sa.trans sx) ⟨us,sx _ _ gu,Paired.imp' (λ_ _ ⟨q,e1,e2,e3⟩=>⟨q,e1,(zn q e2).1,(zn q e2).2,bu.weakN (bu.same e3 sx) λq h=>(zn q h).1⟩) pa⟩ Gw (by rw[aA,br];lia) λR2 e2 s hs=>?_
   rw[List.getLast?_concat] at e2;cases e2;rw[aA,br,Nat.add_sub_cancel] at hs;exact hh s hs
  walk_at "w";refine ⟨_,_,rfl,.inl (bI.of gu),?_⟩;walk_at "w";refine iP (λh0=>?_) (λh0=>?_)
  ·have h0:=of_decide_eq_true h0;refine Jc ?_
   obtain ⟨zs,gS⟩:∃zs q,us=zs++[V.ref q]/\Hz q=none/\bu K Hz Ha q R:=by
    obtain ⟨v,ev,q,rfl,e2,e3⟩:∃v,us[Rs.length]?=some v/\∃q,v=V.ref q/\Hz q=none/\bu K Hz Ha q R:=by
     have ev:=af (show Rs.length < us.length by lia);obtain ⟨R2,e2,w⟩:=b8 pa ev;rw[eR] at e2;cases e2;exact ⟨_,ev,w⟩
    refine ⟨us.take Rs.length,q,?_,e2,e3⟩;rw[<- take_snoc ev,aB (by lia)]
   obtain ⟨q,rfl,zq,Gq⟩:=gS;have gxa:=sa _ _ gx;walk_at "w";refine ⟨x,Z.a_System,dx,_,_,rfl,gxa,T.cl_System,T.na_put,tO,?_⟩;walk_at "w";refine b9 (bI.of gu) (xQ _ _) ?_;have wR:=RR.2.1;have lR:=RR.1;have pn:=RR.le;walk_at "w";refine ⟨x,q,H0,Hz,mv,pt,lk,R,rfl,S.same sa,D,Gq,by lia,wR,F.fit d8 D.mw D.pw tn RR,λmr Hb nmr sb Gm=>?_⟩;obtain ⟨pv,gpv,qpv,_⟩:=Gb.same (sa.trans sb);obtain ⟨mvs,gmv,qmv,_⟩:=id Gm;have lpv:=qpv.length;have lmv:=qmv.length;rw[ag] at lmv;walk_at "w";refine zI gpv gmv (bh (bL (by lia))) λcr Hc sc nc gc=>?_
   have sab:=sa.trans (sb.trans sc);have Gc':bu K (λ_=>none) Hc cr (pt++R.map (xZ mv)):=Ep (H:=Hb) (cv (Paired.imp' (λ_ _ ⟨q,e1,e2,e3⟩=>⟨q,e1,rfl,e3⟩) qpv) (Paired.imp' (λ_ _ ⟨q,e1,e2,e3⟩=>⟨q,e1,rfl,e3⟩) qmv)) sc nc gc;walk_at "w";refine ⟨x,Z.a_System,dx,_,_,rfl,sab _ _ gx,T.cl_System,T.na_states,eK,?_⟩;walk_at "w";refine ⟨cr,mv.length,_,_,_,rfl,Gc',by rw[aA,ag];lia,by lia,λxs hx=>?_,F.step d8 D.mw D.pw tn RR,λrr R' ps' M' Hd nrr sd G' RR' pm' _ _ _=>?_⟩
   ·rcases aI.mp hx with hx | hx
    ·exact D.pw xs hx
    ·obtain ⟨y,_,rfl⟩:=ay.mp hx;exact zO
   have sbd:=sb.trans (sc.trans sd);have sad:=sa.trans sbd;have K1:=ug rfl D.mw D.pw RR RR';have gud:=sbd _ _ gu;obtain ⟨rv,grv,qrv,_⟩:=id G';have lrv:=qrv.length;have lR':=RR'.1;have pn':=RR'.le;walk_at "w";refine ⟨_,_,rfl,.inl (bI.of grv),?_⟩;walk_at "w";refine b9 (bI.of gud) (xQ _ _) ?_;obtain ⟨ov,gov,qov,_⟩:=Gq.same sbd;have lov:=qov.length;walk_at "w";refine ⟨_,_,rfl,.inl (bI.of gov),?_⟩;walk_at "w";refine iP (λh1=>?_) (λh1=>?_)
   ·have h1:=of_decide_eq_true h1;walk_at "w";refine fin Hd sbd λs hs=>⟨ps,?_⟩
    obtain ⟨s',rfl⟩:∃s',s=Rs.length+s':=⟨s - Rs.length,by lia⟩;exact yU rfl D.mw D.pw RR RR' (by lia) s'
   ·have h1:¬((rv.length:Int)=ov.length):=λz=>h1 (decide_eq_true z)
    have gr:=Bu rfl D.mw D.pw RR K1;have rl:rr≠l:=λz=>by rw[z,(sb.trans sc) _ _ gu] at nrr;cases nrr
    have zc:∀q,Hc q=none->Hz q=none:=λq h=>nz q (sab.none h) (λz=>by rw[z,(sb.trans sc) _ _ gu] at h;cases h)
    walk_at "w";refine ⟨.inl ⟨rfl,_,bI.of gud⟩,?_⟩;walk_at "w";refine lQ gud (bL (by lia)) ?_;refine ⟨⟨sad.after nl0,Rs++[R],R',_,_,rfl,aF,cv (Paired.imp' (λ_ _ ⟨q,e1,e2,e3⟩=>⟨q,e1,e2,bu.updL (bu.same e3 sbd) gud zl (zn q e2).2⟩) pa) (.cons ⟨rr,rfl,zc rr nrr,bu.updL (G'.weakN zc) gud zl rl⟩ .nil),Gw.snoc K1 (by lia),by rw[aA,br];lia⟩,?_⟩;simp only[gu,aF,aA,br] at lu h0 ⊢
    lia
  ·have h0:¬((us.length:Int)<=st):=λz=>h0 (decide_eq_true z)
   walk_at "w"
   exact fin Ha (aH.refl _) λs hs=>⟨ps,by
    have:s=Rs.length:=by lia
    rw[this];exact RR⟩
theorem yd:aX ["system","steps"] ["system","steps"] (aw fZ):=by walk_at "d"
theorem yh (T:Txt K mg Z):cw P w K mg base gX 8 Z.kW Z.kL ["system","steps"] (yx K Z.a_System):=by
 refine T.pI.ok yd (λvs H Q E h=>?_) (λcdv A outer s H vs Q E hr h=>?_)
 ·obtain ⟨x,a,c,st,H0,mv,pt,lk,rfl,_⟩:=h;rfl
 ·obtain ⟨x,a,c,st,H0,mv,pt,lk,rfl,s1000,S,D,F,k⟩:=h;refine ⟨_,(ax (bf (be bK (cA (xk T) hr T.qg T.nV.kp T.sH (ae (pv 0) (ae (pv 1) aj))) (xa sR ao)))),?_⟩;refine aL (σ:=[some (.ref x),some (.int st)]) rfl ?_;walk_at "w";refine ⟨x,a,c,st,H0,mv,pt,lk,rfl,s1000,S,D,F,λr Rs H1 nr s1 ⟨us,gu,pa⟩ Gw hl hh=>?_⟩;have lu:=pa.length;obtain ⟨Rs',R,rfl⟩:∃Rs' R,Rs=Rs'++[R]:=⟨Rs.dropLast,Rs.getLast Gw.ne,(List.dropLast_concat_getLast Gw.ne).symm⟩;rw[aA,br] at lu hl;have eR:(Rs'++[R])[Rs'.length]?=some R:=by rw[bR (au _),rO];rfl
  obtain ⟨zs,q,rfl,zq,ql,Gq⟩:∃zs q,us=zs++[V.ref q]/\H q=none/\q≠r/\bu K H H1 q R:=by
   have ev:=af (show Rs'.length < us.length by lia);obtain ⟨R2,e2,q,e3,e4,e5,e6⟩:=b8 pa ev;rw[eR] at e2;cases e2;rw[e3] at ev;refine ⟨us.take Rs'.length,q,?_,e4,e5,e6⟩;rw[<- take_snoc ev,aB (by lia)]
  obtain ⟨ps,RR⟩:=hh R (by rw[List.getLast?_concat]) st (by rw[aA,br,Nat.add_sub_cancel];lia);walk_at "w";refine b9 (bI.of gu) (xQ _ _) ?_;exact k q R ps H1 zq s1 Gq RR
theorem AJ:aX ["many","at"] ["many","at"] (aw jl):=by walk_at "d"
theorem A3 (T:Txt K mg Z):cw P w K mg base gX 1 Z.ph Z.oV ["many","at"] (Ay K):=by
 refine T.tF.ok AJ (λvs H Q E h=>?_) (λcdv A outer s H vs Q E hr h=>?_)
 ·obtain ⟨m,a',rfl,_⟩:=h;rfl
 ·obtain ⟨m,a',rfl,hm,k⟩:=h;refine ⟨_,(ax (bf (ck ["place"] ["at"] [1] (cx rfl T.range (ae (pv 0) aj)) (λ_=>(aK (i:=0) (show List.Nodup (α:=PySem.Str) ["place","at"] by decide +kernel))) (λ_=>cu) (λ_=>(Fn (bq gN (pv 0) (pv 1) (bA _)) (mM (v:=.ref Z.a_ONE) rfl T.mg_ONE rfl) (mM (v:=.ref Z.a_NOUGHT) rfl T.mg_NOUGHT rfl)))))),?_⟩;refine aL (σ:=[some (.int m),some (.int a')]) rfl ?_;walk_at "w";refine ⟨by lia,by lia,?_⟩;refine vb (n:=m) (b6 K) (λi=>if ((i:Nat):Int)=a' then 1 else 0) hm (λa b=>a.same b) ?_ ?_
  ·rintro i H' NY NN hi s k1;walk_at "w";refine iP (λh0=>?_) (λh0=>?_)
   ·walk_at "w";exact k1 _ _ (aH.refl _) (by rw[if_pos (of_decide_eq_true h0)];exact ⟨_,rfl,T.sq_ONE _⟩)
   ·walk_at "w";exact k1 _ _ (aH.refl _) (by rw[if_neg (λz=>h0 (decide_eq_true z))];exact ⟨_,rfl,T.sq_NOUGHT _⟩)
  ·rintro ys H' l hl s g pr nx;exact k l _ hl s ⟨ys,g,pr⟩
theorem uP:aX ["row"] ["row"] (aw dO):=by walk_at "d"
theorem uU (T:Txt K mg Z):cw P w K mg base gX 1 Z.hX Z.gY ["row"] (AF K):=by
 refine T.kx.ok uP (λvs H Q E h=>?_) (λcdv A outer s H vs Q E hr h=>?_)
 ·obtain ⟨p,xs,j,rfl,_⟩:=h;rfl
 ·obtain ⟨p,xs,j,rfl,R,x1000,hj,hne,hz,k⟩:=h;refine ⟨_,(ax (bf (bS (Ew rfl) (by rfl) T.min PyProof.Rows.boot_min (ae (ck ["place","value"] [] [] (Dc rfl T.enumerate (ae (pv 0) aj)) (λ_=>(oK K 2 (cb (aK (i:=0) (show List.Nodup (α:=PySem.Str) ["place","value"] by decide +kernel)) (cb (aK (i:=1) (show List.Nodup (α:=PySem.Str) ["place","value"] by decide +kernel)) iX)))) (λ_=>Fj (bq (Ik K (by rfl) (zY hr)) (pv 1) (mM (v:=.ref Z.a_NOUGHT) rfl T.mg_NOUGHT rfl) (bA _))) (λ_=>(pv 0))) aj)))),?_⟩;refine aL (σ:=[some (.ref p)]) rfl ?_;obtain ⟨zs,gz,qz⟩:=id R;have lz:=qz.length;walk_at "w";refine ⟨⟨_,bI.of gz⟩,?_⟩;refine Eu (K:=K) (xs:=zs) (λi ys H'=>aH H H'/\ys=dh (Ey xs i)) (bh (bL (by lia))) ⟨aH.refl _,rfl⟩ (λi ys H' _ ⟨s,_⟩=>bI.of (s _ _ gz)) ?_ ?_
  ·rintro i v ys H' r hx hlen ⟨s',rfl⟩ hr;obtain ⟨y,ey,ny⟩:=b8 qz hx;have ey':xs.getD i 0=y:=by rw[aa,ey];rfl
   have sr:aH H' (upd H' r (.tup [.int i,v])):=aH.new hr;have gr:(upd H' r (.tup [.int i,v])) r=some (.tup [.int i,v]):=aF;generalize upd H' r (.tup [.int i,v])=H2 at sr gr ⊢;walk_at "w";refine ⟨_,_,Ji,y,0,by decide,(ny.same s').same sr,⟨_,rfl,T.sq_NOUGHT _⟩,?_⟩;by_cases e:y=0
   ·rw[decide_eq_true e];walk_at "w";refine ⟨s'.trans sr,?_⟩;rw[Dh,ey',if_neg (by simpa using e)]
   ·rw[decide_eq_false e];walk_at "w";refine ⟨s'.trans sr,?_⟩;rw[Dh,ey',if_pos e];unfold dh;rw[fG];rfl
  ·rintro ys H1 hy ⟨s1,rfl⟩ l hl;have sn:aH H1 (upd H1 l (.lst (dh (Ey xs zs.length)))):=aH.new hl;have gn:(upd H1 l (.lst (dh (Ey xs zs.length)))) l=some (.lst (dh (Ey xs zs.length))):=aF;generalize upd H1 l (.lst (dh (Ey xs zs.length)))=H2 at sn gn ⊢
   have mj:j∈Ey xs zs.length:=by
    unfold Ey;exact pY.mpr ⟨nK.mpr (by lia),by simpa using hne⟩
   walk_at "w";refine ⟨l,Dz (Ey xs zs.length),rfl,bI.of (by rw[<- Eg];exact gn),?_,λM hM hle=>?_⟩
   ·unfold Dz;rw[ag];exact List.length_pos_of_mem mj
   ·obtain ⟨c,hc,rfl⟩:=ay.mp hM;have h1:=hle j (ay.mpr ⟨j,mj,rfl⟩);have h2:=(pY.mp hc).2
    have e:c=j:=by
     rcases nJ c j with z | z | z
     ·exact absurd (hz c z) (of_decide_eq_true h2)
     ·exact z
     ·lia
    rw[e];exact k _ (s1.trans sn)
theorem BX:aX ["rows"] ["rows"] (aw lJ):=by walk_at "d"
theorem xl (T:Txt K mg Z):cw P w K mg base gX 2 Z.rC Z.qZ ["rows"] (AG K):=by
 refine T.rL.ok BX (λvs H Q E h=>?_) (λcdv A outer s H vs Q E hr h=>?_)
 ·obtain ⟨p,n,H0,R,ps,rfl,_⟩:=h;rfl
 ·obtain ⟨p,n,H0,R,ps,rfl,G,r100,n100,⟨rows,RR⟩,k⟩:=h;refine ⟨_,(ax (bf (ck ["row"] [] [] (cG (pv 0)) (λ_=>(aK (i:=0) (show List.Nodup (α:=PySem.Str) ["row"] by decide +kernel))) (λ_=>cu) (λ_=>(cA (uU T) hr T.oj T.kx.kp T.pU (ae (pv 0) aj)))))),?_⟩;refine aL (σ:=[some (.ref p)]) rfl ?_;obtain ⟨lR,wR,rr⟩:=id RR;obtain ⟨xs,gx,qx,_⟩:=id G;have lx:=qx.length;walk_at "w";refine ⟨⟨_,bI.of gx⟩,?_⟩;refine fw (K:=K) (xs:=xs) (λi ys H'=>aH H H'/\ys=dh (ps.take i)) (bh (bL (by lia))) ⟨aH.refl _,rfl⟩ (λi ys H' _ ⟨s,_⟩=>bI.of (s _ _ gx)) ?_ ?_
  ·rintro i v ys H' hx hlen ⟨s',rfl⟩;obtain ⟨row,er,q,rfl,_,Rr⟩:=b8 qx hx;have wr:=wR row (ak er);have hi:i < ps.length:=by have:=(aD.mp er).1;lia
   have ef:∀c,bM R i c=row.getD c 0:=λc=>by unfold bM;rw[aa (l:=R),er];rfl
   have ep:ps[i]?=some (ps.getD i 0):=by rw[aa,af hi];rfl
   have lowp:=rr.low i hi;have u:=rr.unit i hi i hi;rw[if_pos rfl,ef] at u;walk_at "w";refine ⟨q,row,ps.getD i 0,rfl,Rr.same s',by lia,by lia,by rw[u];decide,λc hc=>by rw[<- ef];exact rr.lead i hi c hc,λH2 s2=>?_⟩;refine ⟨s'.trans s2,?_⟩;unfold dh;rw[take_snoc ep,fG];rfl
  ·rintro ys H1 hy ⟨s1,rfl⟩ r hr;refine k r _ (s1.none hr) (s1.trans (aH.new hr)) ?_;rw[aF,aB (by lia)]
theorem EZ:aX ["one","other"] ["one","other"] (aw qQ):=by walk_at "d"
theorem Fu (T:Txt K mg Z):cw P w K mg base gX 3 Z.wo Z.wb ["one","other"] (oG K (λx y=>x - y)):=by
 refine T.An.ok EZ (λvs H Q E h=>?_) (λcdv A outer s H vs Q E hr h=>?_)
 ·obtain ⟨p,q,a,b,c,d,rfl,hp,hq,hb,hd,sa,sb,sc,sd,k⟩:=CV h;rfl
 ·obtain ⟨p,q,a,b,c,d,rfl,hp,hq,hb,hd,sa,sb,sc,sd,k⟩:=CV h;refine ⟨_,(ax (bf (cA (qS T) hr T.oi T.ox.kp T.qC (ae (bN p9 (bN cS (be bT (pv 0) ao) (be bT (pv 1) ao)) (bN cS (be bT (pv 1) ao) (be bT (pv 0) ao))) (ae (bN cS (be bT (pv 0) ao) (be bT (pv 1) ao)) aj))))),?_⟩;refine aL (σ:=[some (.ref p),some (.ref q)]) rfl ?_;have hbd:0 < b*d:=mF hb hd;have sbd:Sz 8999 (b*d):=(sb.mul sd).mono (by decide);walk_at "w";refine fQ (show gP _ _ from .inr ⟨_,_,sa,sd,by decide⟩) ?_;walk_at "w";refine fQ (show gP _ _ from .inr ⟨_,_,sc,sb,by decide⟩) ?_;walk_at "w";refine fQ (show gP _ _ from .inr ⟨_,_,sb,sd,by decide⟩) ?_;walk_at "w";walk_at "w";refine ⟨_,_,rfl,by lia,sbd,λr H' s' h'=>?_⟩;rw[if_neg (by lia),if_neg (by lia)] at h';exact k r H' s' h'
theorem oI:aX ["rows","wide","at","answer","lead","row"] ["rows","wide","at"] (aw lI):=by walk_at "d"
theorem Cg (T:Txt K mg Z):cw P w K mg base gX 4 Z.rB Z.qY ["rows","wide","at"] (yA K):=by
 refine T.vo.ok oI (λvs H Q E h=>?_) (λcdv A outer s H vs Q E hr h=>?_)
 ·obtain ⟨p,n,a,H0,R,ps,rfl,_⟩:=h;rfl
 ·obtain ⟨p,n,a,H0,R,ps,rfl,G,r100,n100,⟨rows,RR⟩,ha,hp,hz,k⟩:=h
  refine ⟨_,(av (aY (i:=3) oI.nd rfl (Or.inl rfl) (cA (A3 T) hr T.vF T.tF.kp T.xM (ae (pv 1) (ae (pv 2) aj))))
   (av (eS PassesOwn.never rfl (qR rfl T.zip (ae (cA (xl T) hr T.tj T.rL.kp T.vm (ae (pv 0) aj)) (ae (pv 0) aj))) (w5 rfl (cb (aK (i:=4) oI.nd) (cb (aK (i:=5) oI.nd) iX)))
    (ax (fB (cA (Fu T) hr T.Bg T.An.kp T.DN (ae (mM (v:=.ref Z.a_NOUGHT) rfl T.mg_NOUGHT rfl) (ae (be bK (pv 5) (pv 2)) aj))) (gR (pv 3) (pv 4) set_list))))
   (ax (bf (pv 3))))),?_⟩
  refine aL (σ:=[some (.ref p),some (.int n),some (.int a),none,none,none]) rfl ?_;obtain ⟨lR,wR,rr⟩:=id RR;walk_at "w";refine ⟨n,a,rfl,by lia,λan H1 na s1 R1=>?_⟩;rw[<- Iq (R:=R) (ps:=ps)] at R1;obtain ⟨vs0,g0,q0⟩:=id R1;walk_at "w";refine ⟨p,n,H0,R,ps,rfl,G.same s1,r100,n100,⟨rows,RR⟩,λle H2 nl s2 g2=>?_⟩;have anl:le≠an:=λz=>by rw[z,g0] at nl;cases nl
  obtain ⟨rs,grs,qrs,_⟩:=id G;have lrs:=qrs.length;have lps:=xr (ps:=ps);walk_at "w";refine ⟨⟨_,bI.of g2⟩,⟨_,bI.of ((s1.trans s2) _ _ grs)⟩,?_⟩;refine Iy (K:=K) (xs:=dh ps) (ws:=rs) (λj σ' H'=>aH H H'/\H' le=some (.lst (dh ps))/\∃y1 y2 vs,σ'=[some (.ref p),some (.int n),some (.int a),some (.ref an),y1,y2]/\H' an=some (.lst vs)/\Paired (b6 K H') (Dj R ps n a j) vs) (by lia) ⟨s1.trans s2,g2,_,_,vs0,rfl,s2 _ _ g0,Paired.imp' (λ_ _ z=>b6.same z s2) q0⟩ (λj σ' H' _ ⟨e,e2,_⟩=>⟨bI.of e2,bI.of (e _ _ grs)⟩) ?_ ?_
  ·rintro j v1 v2 σ' H' r h1 h2 ⟨s',gl,y1,y2,vs,rfl,ga,qa⟩ hr;obtain ⟨row,er,q,rfl,_,Rr⟩:=b8 qrs h2;have mr:=ak er;have wr:=wR row mr;obtain ⟨pj,ej,rfl⟩:=Dk h1;have hj:j < ps.length:=(aD.mp ej).1;have ejD:ps.getD j 0=pj:=by rw[aa,ej];rfl
   have pjn:pj < n:=by have:=rr.low j hj;rw[ejD] at this;exact this
   have fr:bM R j a=row.getD a 0:=by unfold bM;rw[aa (l:=R),er];rfl
   have sr:aH H' (upd H' r (.tup [.int pj,.ref q])):=aH.new hr;have gr:(upd H' r (.tup [.int pj,.ref q])) r=some (.tup [.int pj,.ref q]):=aF;generalize upd H' r (.tup [.int pj,.ref q])=H3 at sr gr ⊢;have s03:=s'.trans sr;obtain ⟨us,gu,qu⟩:=Rr.same s03;obtain ⟨vx,ex,nx⟩:=Ek qu (j:=a) (by lia);walk_at "w";refine b9 (bI.of gu) ex ?_;walk_at "w";refine ⟨_,_,0,row.getD a 0,rfl,⟨_,rfl,T.sq_NOUGHT _⟩,nx,EM,hz row mr _ (getD_in (by lia)),λr4 H4 s4 n4=>?_⟩;have ga4:=(sr.trans s4) _ _ ga;have gl4:=(sr.trans s4) _ _ gl;have la:=qa.length;rw[oO] at la;walk_at "w";refine eB ga4 (eV (by lia)) rfl ?_;refine ⟨(s03.trans s4).after na,by rw[aU anl];exact gl4,_,_,_,rfl,aF,?_⟩;rw[<- Ir RR hj hp,ejD,fr,show -(row.getD a 0)=0 - row.getD a 0 by grind];exact md (Paired.imp' (λ_ _ z=>(b6.same z (sr.trans s4)).updL ga4) qa) pj (n4.updL ga4)
  ·rintro σ' H' ⟨s',gl,y1,y2,vs,rfl,ga,qa⟩;rw[lps] at qa;walk_at "w";exact k an H' na s' ⟨vs,ga,qa⟩
theorem p6:aX ["rows","wide","leads"] ["rows","wide"] (aw fj):=by walk_at "d"
theorem qd (T:Txt K mg Z):cw P w K mg base gX 3 Z.jR Z.jG ["rows","wide"] (AH K):=by
 refine T.jX.ok p6 (λvs H Q E h=>?_) (λcdv A outer s H vs Q E hr h=>?_)
 ·obtain ⟨p,n,H0,R,ps,rfl,_⟩:=h;rfl
 ·obtain ⟨p,n,H0,R,ps,rfl,G,r100,n100,RR,k⟩:=h
  refine ⟨_,(av (aY (i:=2) p6.nd rfl (Or.inr rfl) (cA (xl T) hr T.tj T.rL.kp T.vm (ae (pv 0) aj)))
   (ax (bf (ck ["place"] ["leads"] [2] (cx rfl T.range (ae (pv 1) aj)) (λ_=>(aK (i:=0) (show List.Nodup (α:=PySem.Str) ["place","leads"] by decide +kernel))) (λ_=>Fj (bq (yf K (by rfl)) (pv 0) (pv 1) (by with_unfolding_all rfl))) (λ_=>(pv 0)))))),?_⟩
  refine aL (σ:=[some (.ref p),some (.int n),none]) rfl ?_;walk_at "w";refine ⟨p,n,H0,R,ps,rfl,G,r100,n100,RR,λl H1 nl s1 g1=>?_⟩;walk_at "w";refine ⟨by lia,by lia,?_⟩;refine o7 (n:=n) (λi ys H'=>aH H1 H'/\ys=dh (By ps i)) (bh (bL (by lia))) ⟨aH.refl _,rfl⟩ ?_ ?_
  ·rintro i ys H' hi hlen ⟨s',rfl⟩;rw[wx];walk_at "w";refine ⟨l,dh ps,rfl,.inl (bI.of (s' _ _ g1)),rfl,Eh,?_⟩;rw[FH];by_cases e:i∈ps
   ·rw[decide_eq_true e];walk_at "w";refine ⟨s',?_⟩;rw[Bx,if_neg (by simpa using e)]
   ·rw[decide_eq_false e,show (if true=true then !false else false)=true from rfl];walk_at "w";refine ⟨s',?_⟩;rw[Bx,if_pos e];unfold dh;rw[fG];rfl
  ·rintro ys H2 hy ⟨s2,rfl⟩ r hr;exact k r _ (s1.none (s2.none hr)) ((s1.trans s2).trans (aH.new hr)) aF
theorem AL:aX ["rows","wide","basis"] ["rows","wide"] (aw qP):=by walk_at "d"
theorem Fs (T:Txt K mg Z):cw P w K mg base gX 6 Z.wg Z.v9 ["rows","wide"] (yz K):=by
 refine T.Am.ok AL (λvs H Q E h=>?_) (λcdv A outer s H vs Q E hr h=>?_)
 ·obtain ⟨p,n,w,H0,rows,R,ps,rfl,_⟩:=h;rfl
 ·obtain ⟨p,n,w,H0,rows,R,ps,rfl,G,r100,n100,RR,F,szR,k⟩:=h
  refine ⟨_,(av (aY (i:=2) AL.nd rfl (Or.inr rfl) (cA (xj T) hr T.td T.rK.kp T.vh (ae (pv 0) (ae (pv 1) aj))))
   (ax (bf (ck ["at"] ["basis","wide"] [2,1] (cG (cA (qd T) hr T.mo T.jX.kp T.nQ (ae (pv 2) (ae (pv 1) aj)))) (λ_=>(aK (i:=0) (show List.Nodup (α:=PySem.Str) ["at","basis","wide"] by decide +kernel))) (λ_=>cu) (λ_=>(cA (Cg T) hr T.xu T.vo.kp T.ze (ae (pv 1) (ae (pv 2) (ae (pv 0) aj))))))))),?_⟩
  refine aL (σ:=[some (.ref p),some (.int n),none]) rfl ?_;walk_at "w";refine ⟨p,n,w,H0,R,rfl,G,r100,n100,RR.2.1,F,λba R2 ps2 M H1 nb s1 G1 RR2 pm M0 M1 tM=>?_⟩;obtain ⟨rfl,rfl⟩:=RR2.same (C6 RR);have pn:=RR.le;have lR:=RR.1;have fl:=Cy (ps:=ps2) (i:=n);walk_at "w";refine ⟨ba,n,H,R2,ps2,rfl,G1,by lia,by lia,⟨rows,RR⟩,λfr H2 nf s2 g2=>?_⟩;walk_at "w";refine ⟨⟨_,bI.of g2⟩,?_⟩;refine fw (K:=K) (xs:=dh (By ps2 n)) (λi ys H'=>aH H2 H'/\Paired (cZ K H H') ((By ps2 n).take i |>.map (GH R2 ps2 n)) ys) (bh (bL (by rw[xr];lia))) ⟨aH.refl _,.nil⟩ (λi ys H' _ ⟨s,_⟩=>bI.of (s _ _ g2)) ?_ ?_
  ·rintro i v ys H' hx hlen ⟨s',pr⟩;obtain ⟨a,ea,rfl⟩:=Dk hx;obtain ⟨an,ap⟩:=z6.mp (ak ea);have s02:=(s1.trans s2).trans s';walk_at "w";refine ⟨ba,n,a,H,R2,ps2,rfl,(G1.same s2).same s',by lia,by lia,⟨rows,RR⟩,an,ap,szR,λr H3 nr s3 R3=>?_⟩;refine ⟨s'.trans s3,?_⟩;rw[take_snoc ea,fG];exact cv (Paired.imp' (λ_ _ z=>cZ.same z s3) pr) (.cons ⟨r,rfl,s02.none nr,R3⟩ .nil)
  ·rintro ys H3 hy ⟨s3,pr⟩ r hr;rw[aB (by rw[xr];exact au _)] at pr;have sn:aH H3 (upd H3 r (.lst ys)):=aH.new hr;have s03:=(s1.trans s2).trans s3;exact k r _ (s03.none hr) (s03.trans sn) ⟨ys,aF,Paired.imp' (λ_ _ z=>cZ.same z sn) pr,mQ (H0:=H) (rows:=eE R2 ps2 n) ⟨H3,hr,pr⟩⟩
theorem yc:aX ["system","rows"] ["system","rows"] (aw fY):=by walk_at "d"
theorem yg (T:Txt K mg Z):cw P w K mg base gX 7 Z.kU Z.kK ["system","rows"] (wH K Z.a_System):=by
 refine T.pH.ok yc (λvs H Q E h=>?_) (λcdv A outer s H vs Q E hr h=>?_)
 ·obtain ⟨x,p,H0,H1,mv,pt,lk,N,rfl,_⟩:=h;rfl
 ·obtain ⟨x,p,H0,H1,mv,pt,lk,N,rfl,S,D,GN,n100,hN,k⟩:=h;refine ⟨_,(ax (bf (cA (rV T) hr T.nP T.lC.kp T.pe (ae (pv 1) (ae (cR (pv 0) rfl) (ae (cR (pv 0) rfl) aj)))))),?_⟩;refine aL (σ:=[some (.ref x),some (.ref p)]) rfl ?_;obtain ⟨dx,am,ap,al,gx,_,_,_,Gm,_,_⟩:=id S;have d1:=D.n8;walk_at "w";refine ⟨x,Z.a_System,dx,_,_,rfl,gx,T.cl_System,T.na_move,p4,?_⟩;walk_at "w";refine ⟨x,Z.a_System,dx,_,_,rfl,gx,T.cl_System,T.na_states,eK,?_⟩;walk_at "w";exact ⟨p,am,mv.length,H1,H0,N,mv,rfl,GN,Gm,by lia,by lia,by lia,hN,D.mw,k⟩
theorem kD:aX ["system","reach","rows","places"] ["system"] (aw iq):=by walk_at "d"
theorem tX (T:Txt K mg Z):cw P w K mg base gX 9 Z.nh Z.mS ["system"] (yv K Z.a_System):=by
 refine T.nG.ok kD (λvs H Q E h=>?_) (λcdv A outer s H vs Q E hr h=>?_)
 ·obtain ⟨x,a,c,H0,mv,pt,lk,rfl,_⟩:=h;rfl
 ·obtain ⟨x,a,c,H0,mv,pt,lk,rfl,S,D,KF,k⟩:=h
  refine ⟨_,(av (aY (i:=1) kD.nd rfl (Or.inl rfl) (cA (yh T) hr T.rX T.pI.kp T.uA (ae (pv 0) (ae (cR (pv 0) rfl) aj))))
   (av (aY (i:=2) kD.nd rfl (Or.inl rfl) (cA (Fs T) hr T.Be T.Am.kp T.DM (ae (pv 1) (ae (cR (pv 0) rfl) aj))))
   (av (aY (i:=3) kD.nd rfl (Or.inr rfl) (cA (qd T) hr T.mo T.jX.kp T.nQ (ae (pv 1) (ae (cR (pv 0) rfl) aj))))
   (ax (bf (d5 (ae (pv 2) (ae (ck ["row"] ["places"] [3] (cG (cA (yg T) hr T.rW T.pH.kp T.uz (ae (pv 0) (ae (pv 2) aj)))) (λ_=>(aK (i:=0) (show List.Nodup (α:=PySem.Str) ["row","places"] by decide +kernel) rfl (Or.inr rfl) (Or.inl rfl))) (λ_=>cu) (λ_=>(ck ["place"] ["row"] [0] (tV K (pv 1)) (λ_=>(aK (i:=0) (show List.Nodup (α:=PySem.Str) ["place","row"] by decide +kernel))) (λ_=>cu) (λ_=>(be (ot K (by rfl)) (pv 1) (pv 0)))))) aj)))))))),?_⟩
  refine aL (σ:=[some (.ref x),none,none,none]) rfl ?_;obtain ⟨dx,am,ap,al,gx,_,_,_,Gm,_,_⟩:=id S;have d1:=D.n8;walk_at "w";refine ⟨x,Z.a_System,dx,_,_,rfl,gx,T.cl_System,T.na_states,eK,?_⟩;walk_at "w";refine ⟨x,a,c,mv.length,H0,mv,pt,lk,rfl,by lia,S,D,KF,λrr R ps H1 nr s1 G1 RR=>?_⟩;obtain ⟨Mq,q0,q1,tR⟩:=KF.tp d1 D.mw D.pw (au _) RR;obtain ⟨Mk,Vk,k0,ka,kc,gm,gp,a4,c4,k17,k89⟩:=id KF;have e17:(2:Nat)^(mv.length*(mv.length*(a+c)+4))<=2^1740:=ah (by decide) k17;have pn:=RR.le;have lR:=RR.1
  have SR:DP R mv.length (mv.length*(mv.length*(a+c)+4)):=JE q0 (ai q1 (ah (by decide) (by lia))) (by lia) tR (m:=mv.length) (by lia) (by lia) (by
   refine ai (gL _ ?_) k89
   lia)
  have szR:∀xs∈R,∀x∈xs,pX x:=λxs hx x hx'=>BV (tR xs hx x hx') q0 (ai q1 (ai e17 (ah (by decide) (by decide)))) (ai e17 (ah (by decide) (by decide)))
  have gx1:=s1 _ _ gx;walk_at "w";refine ⟨x,Z.a_System,dx,_,_,rfl,gx1,T.cl_System,T.na_states,eK,?_⟩;walk_at "w";refine ⟨rr,mv.length,_,H,_,R,ps,rfl,G1,by lia,by lia,RR,SR,szR,λnn H2 nn0 s2 G2=>?_⟩;have s12:=s1.trans s2;have gx2:=s12 _ _ gx
  have lN:(eE R ps mv.length).length<=mv.length:=by
   have e:(eE R ps mv.length).length=(By ps mv.length).length:=ag ..;rw[e];exact Cy
  have fl:=Cy (ps:=ps) (i:=mv.length);walk_at "w";refine ⟨x,Z.a_System,dx,_,_,rfl,gx2,T.cl_System,T.na_states,eK,?_⟩;walk_at "w";refine ⟨rr,mv.length,H,R,ps,rfl,G1.same s2,by lia,by lia,⟨_,RR⟩,λfr H3 nf s3 g3=>?_⟩;have s13:=s12.trans s3;walk_at "w";refine ⟨x,nn,H0,H1,mv,pt,lk,eE R ps mv.length,rfl,S.same s13,D,G2.same s3,by lia,λxs hx=>⟨Di xs hx,λys hy=>?_⟩,λtk H4 nt s4 G4=>?_⟩
  ·obtain ⟨b,h1,h2,rfl⟩:=uV hx;refine ⟨400,40,1740,1740,⟨Mk,Vk,k0,ai ka (ah (by decide) a4),?_,λy hy'=>tK gm ys hy y hy'⟩,⟨Mq,2^1740,q0,ai q1 e17,au _,λy hy'=>((Lx q0 q1 tR RR y hy').mono e17).fr q0⟩,by decide⟩;exact ai (ai (cN _ (by lia)) kc) (ah (by decide) c4)
  have s14:=s13.trans s4;obtain ⟨ts,gt,qt,_⟩:=id G4;have lt:=qt.length;have lT:(dZ (eE R ps mv.length) mv mv.length).length=(eE R ps mv.length).length:=ag ..
  have wT:∀xs∈dZ (eE R ps mv.length) mv mv.length,xs.length=mv.length:=λxs hx=>by
   obtain ⟨z,_,rfl⟩:=ay.mp hx;rw[ag,cL]
  have g4f:=s4 _ _ g3;walk_at "w";refine ⟨⟨_,bI.of gt⟩,?_⟩;refine dA (K:=K) (as:=dZ (eE R ps mv.length) mv mv.length) (F:=cZ K H3) (cZ K H) (λrow=>(By ps mv.length).map λpl=>row.getD pl 0) gt qt (by lia) (λa b=>a.same b) (λa b=>a.same b) ?_ ?_
  ·rintro i row v H5 NY NN er s5 ⟨u,rfl,_,Ru⟩ k1;have lr:=wT row (ak er);have g5f:=s5 _ _ g4f;walk_at "w";refine ⟨⟨_,bI.of g5f⟩,?_⟩;refine dA (K:=K) (as:=By ps mv.length) (F:=λ_ j x=>x=V.int ((j:Nat):Int)) (b6 K) (λpl=>row.getD pl 0) g5f vC (by lia) (λh _=>h) (λh s=>h.same s) ?_ ?_
   ·rintro j pl w H6 NY6 NN6 ej s6 rfl k6;have hp:=(z6.mp (ak ej)).1;obtain ⟨zs,gz,qz⟩:=Ru.same s6;obtain ⟨vx,ex,nx⟩:=Ek qz (j:=pl) (by lia);walk_at "w";refine b9 (bI.of gz) ex ?_;exact k6 _ _ (aH.refl _) nx
   rintro ys6 H6 l6 hl6 s6 g6 pr6 _;exact k1 _ _ s6 ⟨l6,rfl,s14.none (s5.none hl6),⟨ys6,g6,pr6⟩⟩
  rintro ys5 H5 q5 n5 s5 g5 pr5 nx5;have GU:bu K H H5 q5 (BR mv R ps):=⟨ys5,g5,pr5,mQ nx5⟩;walk_at "w";refine cF λt6 H6 s6 g6=>?_
  have s26:=((s3.trans s4).trans s5).trans s6;exact k t6 nn q5 R ps H6 g6 ((s14.trans s5).trans s6) ((G2.weak s1).same s26) (GU.same s6) RR
theorem dN:aX ["_law_script","_law_bag_here","_law_n","_law_ins","_law_outs","_law_wide","_law_parts_here","_law_far","_law_rows","_law_other","_law_system","_law_handed","_law_told","_law_due","_law_row_here","_law_state","_law_turn","_law_puts","_law_after","_law_less_here"] ["_law_script"] (aw yJ):=by walk_at "d"
theorem Kb (T:Txt K mg Z):cw P w K mg base gX 10 Z.GC Z.Gf ["_law_script"] (wL K):=by
 refine T.Ju.ok dN (λvs H Q E h=>?_) (λcdv A outer s H vs Q E hr h=>?_)
 ·obtain ⟨a0,ns,rfl,_⟩:=h;rfl
 ·obtain ⟨a0,ns,rfl,hS,hlen,k⟩:=h
  refine ⟨_,(av (aY (i:=1) dN.nd rfl (Or.inr rfl) (cA (A6 T) hr T.vI T.tI.kp T.xP (ae (pv 0) aj)))
   (av (fB (cA (yl T) hr T.sk T.pN.kp T.uE (ae (pv 1) aj)) (w5 rfl (cb (aK (i:=2) dN.nd rfl (Or.inr rfl) (Or.inl rfl)) (cb (aK (i:=3) dN.nd) (cb (aK (i:=4) dN.nd) (cb (aK (i:=5) dN.nd) iX))))))
   (av (aY (i:=6) dN.nd rfl (Or.inl rfl) (cA (ym T) hr T.so T.pO.kp T.uF (ae (pv 1) (ae (pv 2) (ae (pv 3) (ae (pv 4) (ae (pv 5) aj)))))))
   (av (aY (i:=7) dN.nd rfl (Or.inr rfl) ao)
   (gC (dc (PW.pt (jv (bq rT (pv 2) ao (bA _)) (kE (bq gN (cA (bP T) hr T.bw T.bF.kp T.bH (ae (pv 1) (ae ao aj))) ao (bA _))))) (ax (aY (i:=7) dN.nd rfl (Or.inr rfl) ao)) bV)
   (av (mL 8 ["_law_k"] ["_law_bag_here","_law_n","_law_far"] [1,2,7] dN.nd rfl rfl (cx rfl T.range (ae (pv 3) aj)) (λ_=>(aK (i:=0) (show List.Nodup (α:=PySem.Str) ["_law_k","_law_bag_here","_law_n","_law_far"] by decide +kernel))) (λ_=>cu) (λ_=>(cA (iH T) hr T.eH T.eY.kp T.fV (ae (pv 1) (ae (pv 2) (ae (pv 3) aj))))))
   (av (mL 9 ["_law_k"] ["_law_bag_here","_law_n"] [1,2] dN.nd rfl rfl (cx rfl T.range (ae (pv 3) aj)) (λ_=>(aK (i:=0) (show List.Nodup (α:=PySem.Str) ["_law_k","_law_bag_here","_law_n"] by decide +kernel))) (λ_=>cu) (λ_=>(cA (iH T) hr T.eH T.eY.kp T.fV (ae (pv 1) (ae (pv 2) (ae ao aj))))))
   (av (aY (i:=10) dN.nd rfl (Or.inl rfl) (cA (zS T) hr T.t9 T.qK.kp T.vO (ae (pv 6) aj)))
   (av (aY (i:=11) dN.nd rfl (Or.inl rfl) (cA (fR T) hr T.eF T.ee.kp T.fA (ae (pv 8) aj)))
   (av (aY (i:=12) dN.nd rfl (Or.inl rfl) (cA (qT T) hr T.oq T.oz.kp T.qD (ae (pv 10) (ae (pv 11) aj))))
   (av (aY (i:=13) dN.nd rfl (Or.inl rfl) (cA (qe T) hr T.mB T.jY.kp T.nR (ae (pv 6) (ae (pv 8) aj))))
   (av (dc (PW.pt (p8 (kq (ko (cA (gD T) hr T.eT T.eI.kp T.fW (ae (pv 12) (ae (pv 13) aj))))) (p8 (kq (ko (cA (gD T) hr T.eT T.eI.kp T.fW (ae (pv 10) (ae (pv 6) aj))))) (nM (bq (xh (zY hr)) (pv 11) (pv 8) (bA _)))))) (ax (bf tW)) bV)
   (av (eS PassesOwn.never rfl (cG (pv 11)) (aK (i:=14) dN.nd)
    (ax (kF (yO dS dH dG lU (pv 14) (ae (d5 (ae ao (ae ao aj))) aj)))))
   (av (kF (yO dS dH dG lU (pv 11) (ae (iY aj) aj)))
   (av (aY (i:=15) dN.nd rfl (Or.inl rfl) (cA (iH T) hr T.eH T.eY.kp T.fV (ae (pv 1) (ae (pv 2) (ae (pv 7) aj)))))
   (av (eS PassesOwn.never rfl (cx rfl T.range (ae (cA (bP T) hr T.bw T.bF.kp T.bH (ae (pv 1) (ae ao aj))) aj)) (aK (i:=16) dN.nd)
    (av (aY (i:=17) dN.nd rfl (Or.inl rfl) (cA (iH T) hr T.eH T.eY.kp T.fV (ae (pv 1) (ae (pv 3) (ae ao aj)))))
   (av (aY (i:=18) dN.nd rfl (Or.inl rfl) (cA (zQ T) hr T.t7 T.qI.kp T.vM (ae (pv 6) (ae (pv 15) (ae (cA (kH T) hr T.jc T.iN.kp T.ke (ae (pv 17) (ae (cA (sW T) hr T.oR T.oA.kp T.rk (ae (pv 8) (ae (pv 15) aj))) aj))) aj)))))
   (av (dc (PW.pt (p8 (bq (xh (zY hr)) (Dd (pv 12) T.cl_System T.pT (vU T) (hr.mono (by decide)) T.qE .nil A1 (ae (pv 15) (ae (pv 17) aj))) (pv 18) (bA _)) (nM (bq (xh (zY hr)) (Dd (pv 12) T.cl_System T.qj (xn T) (hr.mono (by decide)) T.sJ .nil A1 (ae (pv 15) aj)) (cA (sW T) hr T.oR T.oA.kp T.rk (ae (be bT (pv 6) ao) (ae (pv 15) aj))) (bA _))))) (ax (bf tW)) bV)
   (ax (aY (i:=15) dN.nd rfl (Or.inl rfl) (pv 18)))))))
   (av (mL 19 ["_law_row_here"] [] [] dN.nd rfl rfl (cG (pv 8)) (λ_=>(aK (i:=0) (show List.Nodup (α:=PySem.Str) ["_law_row_here"] by decide +kernel))) (λ_=>cu) (λ_=>(ck ["_law_one"] [] [] (tV K (pv 0)) (λ_=>(aK (i:=0) (show List.Nodup (α:=PySem.Str) ["_law_one"] by decide +kernel))) (λ_=>cu) (λ_=>(d5 (ae (bN p9 ao (be (uh K (by rfl)) (pv 0) ao)) (ae (be (uh K (by rfl)) (pv 0) ao) aj)))))))
   (av (dc (PW.pt (p8 (kq (ko (cA (gD T) hr T.eT T.eI.kp T.fW (ae (cA (qT T) hr T.oq T.oz.kp T.qD (ae (pv 12) (ae (pv 19) aj))) (ae (pv 6) aj))))) (nM (kq (ko (cA (gD T) hr T.eT T.eI.kp T.fW (ae (cA (qT T) hr T.oq T.oz.kp T.qD (ae (pv 10) (ae (pv 9) aj))) (ae (cA (qe T) hr T.mB T.jY.kp T.nR (ae (pv 6) (ae (pv 9) aj))) aj)))))))) (ax (bf tW)) bV)
   (av (dc (kq (ko (cA (gD T) hr T.eT T.eI.kp T.fW (ae (cA (qT T) hr T.oq T.oz.kp T.qD (ae (pv 10) (ae (cA (fR T) hr T.eF T.ee.kp T.fA (ae (pv 8) aj)) aj))) (ae (pv 13) aj))))) (ax (bf tW)) bV)
   (ax (bf (xc (mN (zM (zY hr)) (cA (tX T) hr T.oP T.nG.kp T.qB (ae (pv 12) aj)) (cA (tX T) hr T.oP T.nG.kp T.qB (ae (pv 10) aj)) (bA _)) (zJ (cA (gD T) hr T.eT T.eI.kp T.fW (ae (pv 12) (ae (pv 13) aj)))))))))))))))))))))))))),?_⟩
  refine aL (σ:=[some (.ref a0),none,none,none,none,none,none,none,none,none,none,none,none,none,none,none,none,none,none,none]) rfl ?_;walk_at "w";refine ⟨a0,ns,rfl,hS,hlen,λb H0 hb0 B0 s0=>?_⟩;walk_at "w";refine ⟨b,rfl,B0,λt1 n i o w H1 g1 n5 i4 o4 hw hn B1 u1=>?_⟩;walk_at "w"
  obtain ⟨c,c20,wc,hc2,cn⟩:∃c,c<=20/\max w 6<=2^c/\(w<=9\/(n<=2/\c=10))/\c*((n+i+o)*n)<=800:=by
   have a1:(n+i+o)*n<=13*5:=aR (by lia) n5;rcases hw with rfl | rfl | ⟨rfl,h2⟩
   ·exact ⟨4,by decide,by decide,.inl (by decide),by lia⟩
   ·exact ⟨4,by decide,by decide,.inl (by decide),by lia⟩
   ·have a2:(n+i+o)*n<=10*2:=aR (by lia) (by lia);exact ⟨10,by decide,by decide,.inr ⟨by lia,rfl⟩,by lia⟩
  refine ⟨b,n,i,o,w,c,rfl,B1,by lia,i4,o4,by lia,by lia,wc,c20,cn,λr mv pt lk H2 P2 lm lp ll D PG B2 u2=>?_⟩;walk_at "w";refine ⟨λσ' H'=>∃f:Nat,σ'=[some (.ref a0),some (.ref b),some (.int n),some (.int i),some (.int o),some (.int w),some (.ref r),some (.int f),none,none,none,none,none,none,none,none,none,none,none,none]/\(f=9\/(f=1000/\n<=2))/\iQ H' b/\cB b H2 H',?_,?_⟩
  ·walk_at "w";refine iP (λh0=>?_) (λh0=>?_)
   ·have h0:=of_decide_eq_true h0;walk_at "w";refine ⟨b,8,rfl,B2,by decide,by decide,λv H6 v0 v1 B6 u6=>?_⟩;walk_at "w";refine iP (λh1=>?_) (λh1=>?_)
    ·walk_at "w";exact ⟨.inr ⟨rfl,by lia⟩,B6,u6⟩
    ·walk_at "w";exact ⟨.inl rfl,B6,u6⟩
   ·walk_at "w";exact ⟨.inl rfl,B2,cB.refl _⟩
  rintro σ' Hf ⟨f,rfl,hf,Bf,uf⟩;have Pf:=P2.upto uf B2 B1.at;walk_at "w";refine ⟨by lia,by lia,?_⟩
  refine vd (n:=i) (b:=b) (cZ K Hf) (λxs=>xs.length=n/\∀x∈xs,Dr (max f 6) x) Bf (by lia) (λ{H' H'' c x} a u B=>by
   obtain ⟨q,e,nq,R⟩:=a;exact ⟨q,e,nq,R.upto u B (λz=>Bf.at (by rw[<- z];exact nq))⟩) ?_ ?_
  ·rintro j Ha NY NN hj ua Ba k1;walk_at "w";refine ⟨b,n,f,rfl,Ba,by lia,by lia,by lia,λq xs Hb nq R lx dx Bb ub=>?_⟩;exact k1 _ xs _ ub Bb ⟨lx,dx⟩ ⟨q,rfl,ua.none Ba nq,R⟩
  rintro ysr F Hr rr nrr ur Br gr lF wF prr nxr;have Gr:bu K Hf Hr rr F:=⟨ysr,gr,prr,mQ nxr⟩;have rrb:rr≠b:=λz=>Bf.at (by rw[<- z];exact nrr)
  walk_at "w";refine ⟨by lia,by lia,?_⟩
  refine vd (n:=i) (b:=b) (cZ K Hr) (λxs=>xs.length=n/\∀x∈xs,Dr (max 9 6) x) Br (by lia) (λ{H' H'' c x} a u B=>by
   obtain ⟨q,e,nq,R⟩:=a;exact ⟨q,e,nq,R.upto u B (λz=>Br.at (by rw[<- z];exact nq))⟩) ?_ ?_
  ·rintro j Ha NY NN hj ua Ba k1;walk_at "w";refine ⟨b,n,9,rfl,Ba,by lia,by lia,by lia,λq xs Hb nq R lx dx Bb ub=>?_⟩;exact k1 _ xs _ ub Bb ⟨lx,dx⟩ ⟨q,rfl,ua.none Ba nq,R⟩
  rintro yso F2 Ho oo noo uo Bo go lF2 wF2 pro nxo;have Go:bu K Hr Ho oo F2:=⟨yso,go,pro,mQ nxo⟩;have oob:oo≠b:=λz=>Br.at (by rw[<- z];exact noo)
  have Fo:=Gr.upto uo Br rrb Bf.at;have Po:=(Pf.upto ur Bf B1.at).upto uo Br B1.at;obtain ⟨M1,M2,M3,E,V1,V0,a,cc,n0,C1⟩:=DK PG lm n5 i4 o4 hc2 hf lF wF;obtain ⟨M1',M2',M3',E',V1',V0',a',cc',n0',C2⟩:=DK (f:=9) PG lm n5 i4 o4 hc2 (.inl rfl) lF2 wF2;clear PG;have d4:=D.i4;have lFp:F.length=pt.length:=by lia
  have lFp2:F2.length=pt.length:=by lia
  have wFm:∀xs∈F,xs.length=mv.length:=λxs hx=>by rw[(wF xs hx).1,lm]
  have wFm2:∀xs∈F2,xs.length=mv.length:=λxs hx=>by rw[(wF2 xs hx).1,lm]
  obtain ⟨KF,KF'⟩:=C1.kf d4;obtain ⟨SC,SC'⟩:=C1.sfc d4;have D':mI (mC mv pt F) pt lk:=pQ.sysd D;have CS:=C1.cls d4 lFp;have CS2:=C2.cls d4 lFp2;have d8:=D.n8;obtain ⟨m0,p0,l0,gp0,nm0,np0,nl0,Gm0,Gp0,Gl0⟩:=id Po;walk_at "w";refine ⟨r,H1,mv,pt,lk,rfl,Po,D,SC.sf,λx Hs nx ss Sx=>?_⟩;have Bs:=Bo.same ss;walk_at "w";refine ⟨rr,Hf,F,rfl,Fo.same ss,by lia,λxs hx=>by rw[wFm xs hx];lia,λhd Hh nhd sh Gh=>?_⟩;walk_at "w";refine ⟨x,hd,Ho,Hs,mv,pt,lk,F,rfl,Sx.same sh,D,Gh,lFp,wFm,CS,λxt Ht nxt st Sxt=>?_⟩;have sst:=sh.trans st;have sot:=ss.trans sst;walk_at "w";refine ⟨r,rr,m0,p0,l0,H1,Hf,H1,mv,pt,lk,F,rfl,sot _ _ gp0,Gm0.same sot,Gp0.same sot,D,Fo.same sot,lFp,wFm,CS,λdt m2 Hd sd gd nm2 Gm2=>?_⟩;have PD:jz K (λ_=>none) Hd dt (mC mv pt F) pt lk:=⟨m2,p0,l0,gd,rfl,rfl,rfl,Gm2.any,(Gp0.same (sot.trans sd)).any,(Gl0.same (sot.trans sd)).any⟩;walk_at "w";refine ⟨xt,dt,Hh,_,_,pt,lk,rfl,Sxt.same sd,PD,D',λHe se=>?_⟩;have ste:=sd.trans se;have sse:=sst.trans ste;walk_at "w";refine ⟨x,r,Ho,H1,mv,pt,lk,rfl,Sx.same sse,Po.same (ss.trans sse),D,λHg sg=>?_⟩;have stg:=ste.trans sg;have ssg:=sst.trans stg;have shg:=st.trans stg;walk_at "w";refine ⟨_,_,tm,_,_,by decide,(Gh.same shg).kind,(Fo.same (ss.trans ssg)).kind,?_⟩;rw[decide_eq_true rfl];obtain ⟨zs,L0,lz⟩:=LL.of (B:=mv.length) (N:=λq=>Hs q=none/\Hh q≠none) Gh (λxs hx=>by rw[wFm xs hx];exact au _) (λq h h'=>⟨h,h'⟩);have hd8:Hh hd≠none:=by rw[L0.1];exact λz=>nomatch z
  have Lg:=L0.same shg;walk_at "w";refine ⟨⟨_,bI.of Lg.1⟩,?_⟩;refine ou (K:=K) (a:=hd) (xs:=zs) (λi2 σ' H'=>aH Hs H'/\gU (λq=>Hh q≠none) Hg H'/\LL (λq=>Hs q=none/\Hh q≠none) (mv.length+i2) H' hd zs/\∃y,σ'=[some (.ref a0),some (.ref b),some (.int n),some (.int i),some (.int o),some (.int w),some (.ref r),some (.int f),some (.ref rr),some (.ref oo),some (.ref x),some (.ref hd),some (.ref xt),some (.ref dt),y,none,none,none,none,none]) ⟨ssg,gU.of (aH.refl _),Lg,_,rfl⟩ (λi σ' H' _ ⟨_,_,L,_⟩=>bI.of L.1) ?_ ?_
  ·rintro i2 v σ' Hi hv ⟨ei,ki,Li,y,rfl⟩;have hi:=(aD.mp hv).1;obtain ⟨q,ws,rfl,nq,qt,gq,lq⟩:=Li.2 v (ak hv);walk_at "w";refine ⟨.inl ⟨rfl,_,bI.of gq⟩,?_⟩;walk_at "w";refine cF λt2 Hj sj gj=>?_
   have gqj:=sj _ _ gq;walk_at "w";refine lQ gqj (bL (by lia)) ?_;exact ⟨(ei.trans sj).after nq.1,(ki.trans (gU.of sj)).trans (gU.set gqj nq.2),(Li.same sj).upd qt (by lia) (by rw[aA,br];lia),_,rfl⟩
  rintro σ' Hi ⟨ei,ki,Li,y,rfl⟩;walk_at "w";refine ⟨.inl ⟨rfl,_,bI.of Li.1⟩,?_⟩;walk_at "w";refine gB λl8 Hj sj nj gj=>?_
  have Lj:=Li.same sj;walk_at "w";refine lQ Lj.1 (bL (by lia)) ?_;have sm:aH Hs (upd Hj hd (.lst (zs++[.ref l8]))):=(ei.trans sj).after nhd;have km:gU (λq=>Hh q≠none) Hg (upd Hj hd (.lst (zs++[.ref l8]))):=(ki.trans (gU.of sj)).trans (gU.set Lj.1 hd8);generalize upd Hj hd (.lst (zs++[.ref l8]))=Hm at sm km ⊢;clear Lj Li Lg L0 ei ki;have som:=ss.trans sm;have Pm:=Po.same som;have Fm:=Fo.same som;have F2m:=Go.same som;have Sm:=Sx.same sm;have Tm:ks K Hh Hm Z.a_System xt (mC mv pt F) pt lk:=(Sxt.same stg).keepL km λq h z=>z h
  have gDm:Hm dt=some (.tup [.ref m2,.ref p0,.ref l0]):=km _ _ ((se.trans sg) _ _ gd) λ_ xs z=>by cases z
  have Dm:bu K Ht Hm m2 (mC mv pt F):=(Gm2.same (se.trans sg)).keepL km nm2 λq h z=>z (st.none h)
  have Bm:=Bo.same som;have Bt:iQ Ht b:=Bo.same sot;have Bh:iQ Hh b:=Bs.same sh;have m2b:m2≠b:=λz=>Bt.at (by rw[<- z];exact nm2)
  walk_at "w";refine ⟨b,n,f,rfl,Bm,by lia,by lia,by lia,λsr CW Hn nsr Rst lst dst Bn un=>?_⟩;walk_at "w";refine ⟨b,5,rfl,Bn,by decide,by decide,λv Hp v0 v1 Bp up=>?_⟩;obtain ⟨v,rfl⟩:=mG v0;have srb:sr≠b:=λz=>Bm.at (by rw[<- z];exact nsr)
  walk_at "w";refine ⟨by lia,by lia,?_⟩;refine d7 (n:=v) (λt σ' H'=>∃sr y1 y2 y3,σ'=[some (.ref a0),some (.ref b),some (.int n),some (.int i),some (.int o),some (.int w),some (.ref r),some (.int f),some (.ref rr),some (.ref oo),some (.ref x),some (.ref hd),some (.ref xt),some (.ref dt),y,some (.ref sr),y1,y2,y3,none]/\iQ H' b/\cB b Hm H'/\sr≠b/\∃st,dC K H' sr st/\st.length=mv.length/\IM t st) ⟨sr,_,_,_,rfl,Bp,un.trans up,srb,CW,Rst.upto up Bn srb,by lia,JG (by rcases hf with h | ⟨h,h'⟩;exact .inl h;exact .inr ⟨h,by lia⟩) dst⟩ ?_ ?_
  ·rintro t σ' Hq ht ⟨sr,y1,y2,y3,rfl,Bq,uq,srb,st,Rq,lq,Sq⟩;walk_at "w";refine ⟨b,i,9,rfl,Bq,by lia,by lia,by lia,λpr pu Ha npr Rpu lpu dpu Ba ua=>?_⟩;have uma:=uq.trans ua;have Rsa:=Rq.upto ua Bq srb;have Pa:=Pm.upto uma Bm B1.at;have Fa:=Fm.upto uma Bm rrb Bf.at;have Ta:=Tm.upto uma Bm Bh.at;obtain ⟨NX,fit,fF,fL,szu,szf,Sn⟩:=C1.step D lFp wFm lq (by lia) dpu (by lia) Sq;walk_at "w";refine ⟨rr,sr,Hf,F,st,rfl,Fa,Rsa,by lia,by lia,λxs hx=>⟨by rw[wFm xs hx,lq],fF xs hx⟩,λfr Hb nfr sb Rfb=>?_⟩;walk_at "w";refine ⟨pr,fr,pu,_,rfl,Rpu.same sb,Rfb,by rw[ag,lFp];lia,by lia,szu,szf,λzr Hc nzr sc Rz=>?_⟩;have sbc:=sb.trans sc;have lz:(List.zipWith (λx y=>x+y) pu (F.map λxs=>cY xs st)).length=pt.length:=by rw[bC,ag];lia
   walk_at "w";refine ⟨r,sr,zr,H1,mv,pt,lk,st,_,rfl,Pa.same sbc,D,Rsa.same sbc,Rz,lq,lz,NX,λar Hd2 nar sd2 Rar=>?_⟩;have sad:=sbc.trans sd2;have Td:=Ta.same sad;obtain ⟨dxt,_,_,_,gxt,_⟩:=id Td;walk_at "w";refine ⟨xt,dxt,_,rfl,gxt,DW,?_⟩;walk_at "w";refine ⟨xt,sr,pr,Hh,mC mv pt F,pt,lk,st,pu,rfl,Td,D',SC',Rsa.same sad,Rpu.same sad,by rw[cf];exact lq,by lia,fit,λmr He2 nmr se2 Rmr=>?_⟩;rw[Gv D lFp wFm lq (by lia) D'] at Rmr;have sae:=sad.trans se2;walk_at "w";refine ⟨_,_,Dx,_,_,by decide,Rmr.kind,(Rar.same se2).kind,?_⟩;rw[decide_eq_true rfl];have gxe:=se2 _ _ gxt;walk_at "w";refine ⟨xt,dxt,_,rfl,gxe,EO,?_⟩;walk_at "w";refine ⟨xt,sr,Hh,mC mv pt F,pt,lk,st,rfl,Ta.same sae,D',SC',Rsa.same sae,by rw[cf];exact lq,(by obtain ⟨q1,q2,q3,q4,q5,q6⟩:=fit;exact ⟨q1,q2,q3,q4,q5,λx hx=>q6 x (jk _ hx)⟩),λvr Hv nvr sv Rv=>?_⟩;have sav:=sae.trans sv;obtain ⟨m3,p3,l3,g3,_,_,_,_,_,Gl3⟩:=Pa.same sav;have o4':=D.o4;walk_at "w";refine ⟨l3,sr,H1,lk,st,rfl,Gl3,Rsa.same sav,by lia,by lia,λxs hx=>⟨by rw[D.lw xs hx,lq],fL xs hx⟩,λwr Hw nwr sw Rw=>?_⟩;walk_at "w";refine ⟨_,_,Dx,_,_,by decide,(Rv.same sw).kind,Rw.kind,?_⟩;rw[show L2.seenQ lk st=lk.map (λxs=>cY xs st) from rfl,decide_eq_true rfl];have saw:=sav.trans sw;walk_at "w";exact ⟨ar,_,_,_,rfl,Ba.same saw,uma.same saw,(λz=>(Ba.same sbc).at (by rw[<- z];exact nar)),_,(Rar.same se2).same (sv.trans sw),qV,Sn⟩
  rintro σ' Hq ⟨sr,y1,y2,y3,rfl,Bq,uq,srb,st,Rq,lq,Sq⟩;clear Rq Sq srb;have Pq:=Pm.upto uq Bm B1.at;have Fq:=Fm.upto uq Bm rrb Bf.at;have F2q:=F2m.upto uq Bm oob Br.at;have Sq:=Sm.upto uq Bm Bo.at;have Tq:=Tm.upto uq Bm Bh.at;have gDq:=uq.tup Bm gDm;have Dq:=Dm.upto uq Bm m2b Bt.at;obtain ⟨mq,pq,lqq,gpq,_,_,_,Gmq,Gpq,Glq⟩:=id Pq
  obtain ⟨rfl,rfl⟩:pq=p0/\lqq=l0:=by
   have:=uq.tup Bm (som _ _ gp0);rw[gpq] at this;cases this;exact ⟨rfl,rfl⟩
  obtain ⟨fs,gfs,qfs,_⟩:=id Fq;walk_at "w";refine ⟨⟨_,bI.of gfs⟩,?_⟩;refine dA (K:=K) (as:=F) (F:=cZ K Hf) (cZ K Hq) (λxs=>xs.map λq=>-q) gfs qfs (by lia) (λh s=>h.same s) (λh s=>h.same s) ?_ ?_
  ·rintro j row vv H3 NY NN er s3 ⟨u,rfl,_,Ru⟩ k1;have lr:=wFm row (ak er);obtain ⟨us,gu,qu⟩:=id Ru;walk_at "w";refine ⟨⟨_,bI.of gu⟩,?_⟩;refine dA (K:=K) (as:=row) (F:=b6 K) (b6 K) (λq=>-q) gu qu (by lia) (λh s=>h.same s) (λh s=>h.same s) ?_ ?_
   ·rintro j2 q vq H4 NY4 NN4 eq4 s4 nq k4;obtain ⟨tq,rfl,sq⟩:=id nq;walk_at "w";refine cF λt5 H5 s5 g5=>?_
    exact k4 _ _ s5 (b6.mk g5 Iu)
   rintro ys4 H4 l4 hl4 s4 g4 pr4 _;exact k1 _ _ s4 ⟨l4,rfl,s3.none hl4,⟨ys4,g4,pr4⟩⟩
  rintro ysl Hl lr nlr sl gl prl nxl;have GL:bu K Hq Hl lr (F.map λxs=>xs.map λq=>-q):=⟨ysl,gl,prl,mQ nxl⟩
  have eneg:∀k b,bM (F.map λxs=>xs.map λq=>-q) k b=-(bM F k b):=λk b=>by
   unfold bM;rw[aa (l:=List.map _ F),az,aa (l:=F)];cases F[k]? with
   | none=>show (([]:List Rat).getD b 0)=-(([]:List Rat).getD b 0);rw[KO];rfl
   | some xs =>
    show (xs.map λq=>-q).getD b 0=-(xs.getD b 0)
    rw[aa,az,aa];cases xs[b]? with
    | none=>rfl
    | some y=>rfl
  have ebk:=IG (F:=F) (F2:=F.map λxs=>xs.map λq=>-q) (pt:=pt) D.mw λk b _ _=>eneg k b
  have CS3:=C1.cls2 (F2:=F.map λxs=>xs.map λq=>-q) d4 (by rw[ag];exact lFp) (λxs hx x hx'=>by
   obtain ⟨ys,hy,rfl⟩:=ay.mp hx;obtain ⟨y,hy',rfl⟩:=ay.mp hx';obtain ⟨z,ez,bz⟩:=C1.2.2.2.2.2.2.2.1 ys hy y hy';exact ⟨-z,by rw[iO,<- ez];grind,by rw[sQ];exact bz⟩) ebk
  walk_at "w";refine ⟨xt,lr,Hh,Hq,mC mv pt F,pt,lk,_,rfl,Tq.same sl,D',GL,by rw[ag];exact lFp,λxs hx=>?_,CS3,λy1' Hu ny1 su Su=>?_⟩
  ·obtain ⟨ys,hy,rfl⟩:=ay.mp hx;rw[ag,wFm ys hy,cf]
  rw[ebk] at Su;have squ:=sl.trans su;walk_at "w";refine ⟨y1',r,Hl,H1,mv,pt,lk,rfl,Su,Pq.same squ,D,λHv sv=>?_⟩;have sqv:=squ.trans sv;walk_at "w";refine ⟨x,oo,Ho,Hr,mv,pt,lk,F2,rfl,Sq.same sqv,D,F2q.same sqv,lFp2,wFm2,CS2,λy2' Hw ny2 sw Sw=>?_⟩;have sqw:=sqv.trans sw;walk_at "w";refine ⟨r,oo,mq,pq,lqq,H1,Hr,H1,mv,pt,lk,F2,rfl,sqw _ _ gpq,Gmq.same sqw,Gpq.same sqw,D,F2q.same sqw,lFp2,wFm2,CS2,λd2' m3 Hx sx gd2 nm3 Gm3=>?_⟩;have sqx:=sqw.trans sx;have PD2:jz K (λ_=>none) Hx d2' (mC mv pt F2) pt lk:=⟨m3,pq,lqq,gd2,rfl,rfl,rfl,Gm3.any,(Gpq.same sqx).any,(Glq.same sqx).any⟩;walk_at "w";refine ⟨y2',d2',Hv,_,_,pt,lk,rfl,Sw.same sx,PD2,pQ.sysd D,λHy sy=>?_⟩;have sqy:=sqx.trans sy;walk_at "w";refine ⟨rr,Hf,F,rfl,Fq.same sqy,by lia,λxs hx=>by rw[wFm xs hx];lia,λh3 Hz nh3 sz Gh3=>?_⟩;have sqz:=sqy.trans sz;walk_at "w";refine ⟨x,h3,Ho,Hy,mv,pt,lk,F,rfl,Sq.same sqz,D,Gh3,lFp,wFm,CS,λy3' HA ny3 sA SA=>?_⟩;have sqA:=sqz.trans sA;have PDq:∀H',aH Hq H'->jz K (λ_=>none) H' dt (mC mv pt F) pt lk:=λH' s=>⟨m2,pq,lqq,s _ _ gDq,rfl,rfl,rfl,(Dq.same s).any,(Gpq.same s).any,(Glq.same s).any⟩
  walk_at "w";refine ⟨y3',dt,Hz,_,_,pt,lk,rfl,SA,PDq _ sqA,D',λHB sB=>?_⟩;have sqB:=sqA.trans sB;walk_at "w";refine ⟨xt,_,_,Hh,mC mv pt F,pt,lk,rfl,Tq.same sqB,D',KF',λt4 r4 q4 R4 ps4 HC g4 sC GN4 GU4 RR4=>?_⟩;have sqC:=sqB.trans sC;walk_at "w";refine ⟨x,_,_,Ho,mv,pt,lk,rfl,Sq.same sqC,D,KF,λt5 r5 q5 R5 ps5 HD g5 sD GN5 GU5 RR5=>?_⟩;obtain ⟨rfl,rfl⟩:=Gu KF KF' d8 D.mw D.pw RR5 RR4;have eN:eE R4 ps4 (mC mv pt F).length=eE R4 ps4 mv.length:=by rw[cf]
  have eU:BR (mC mv pt F) R4 ps4=BR mv R4 ps4:=by
   unfold BR;rw[cf,Gs KF d8 D.mw D.pw RR5]
  rw[eN] at GN4;rw[eU] at GU4;have sqD:=sqC.trans sD;walk_at "w";refine ⟨_,_,LA tm tm,(eE R4 ps4 mv.length,BR mv R4 ps4),(eE R4 ps4 mv.length,BR mv R4 ps4),by decide,⟨t4,_,_,rfl,rH.of (sD _ _ g4),(GN4.same sD).kind,(GU4.same sD).kind⟩,⟨t5,_,_,rfl,rH.of g5,GN5.kind,GU5.kind⟩,?_⟩;rw[decide_eq_true rfl];walk_at "w";refine ⟨xt,dt,Hh,_,_,pt,lk,rfl,Tq.same sqD,PDq _ sqD,D',λHE sE=>?_⟩;exact k _
end
theorem FC {P:List Value->Prop} (h:∀x0,P [x0]):∀us:List Value,us.length=1->P us
 | [x0],_=>h x0
theorem ln2 {P:List Value->Prop} (h:∀x0 x1,P [x0,x1]):∀us:List Value,us.length=2->P us
 | [x0,x1],_=>h x0 x1
theorem Jg {P:List Value->Prop} (h:∀x0 x1 x2,P [x0,x1,x2]):∀us:List Value,us.length=3->P us
 | [x0,x1,x2],_=>h x0 x1 x2
theorem Mf {P:List Value->Prop} (h:∀x0 x1 x2 x3,P [x0,x1,x2,x3]):∀us:List Value,us.length=4->P us
 | [x0,x1,x2,x3],_=>h x0 x1 x2 x3
theorem ln5 {P:List Value->Prop} (h:∀x0 x1 x2 x3 x4,P [x0,x1,x2,x3,x4]):∀us:List Value,us.length=5->P us
 | [x0,x1,x2,x3,x4],_=>h x0 x1 x2 x3 x4
theorem all_mk {l:W.OpenLaw} {w:World} {K:W.Frag} {h:Heap} {mg:Str->Option Value} {fa:Addr}
  {f0 f1 f2 f3 f4 f5 f6 f7 f8 f9 f10 f11 f12 f13 f14 f15 f16 f17 f18 f19 f20 f21 f22 f23 f24 f25 f26 f27 f28 f29 f30 f31 f32 f33 f34 f35 f36 f37 f38 f39 f40 f41 f42 f43 f44 f45 f46 f47 f48 f49 f50 f51 f52 f53 f54 f55 f56 f57:Addr} {od0 od1 od2 od3 od4 od5 od6 od7 od8 od9 od10 od11 od12 od13 od14 od15 od16 od17 od18 od19 od20 od21 od22 od23 od24 od25 od26 od27 od28 od29 od30 od31 od32 od33 od34 od35 od36 od37 od38 od39 od40 od41 od42 od43 od44 od45 od46 od47 od48 od49 od50 od51 od52 od53 od54 od55 od56 od57 an0 an1 an2 an3 an4 an5 an6 an7 an8 an9 an10 an11 an12 an13 an14 an15 an16 an17 an18 an19 an20 an21 an22 an23 an24 an25 an26 an27 an28 an29 an30 an31 an32 an33 an34 an35 an36 an37 an38 an39 an40 an41 an42 an43 an44 an45 an46 an47 an48 an49 an50 an51 an52 an53 an54 an55 an56 an57:Option Addr} {sl0 sl1 sl2 sl3 sl4 sl5 sl6 sl7 sl8 sl9 sl10 sl11 sl12 sl13 sl14 sl15 sl16 sl17 sl18 sl19 sl20 sl21 sl22 sl23 sl24 sl25 sl26 sl27 sl28 sl29 sl30 sl31 sl32 sl33 sl34 sl35 sl36 sl37 sl38 sl39 sl40 sl41 sl42 sl43 sl44 sl45 sl46 sl47 sl48 sl49 sl50 sl51 sl52 sl53 sl54 sl55 sl56 sl57:Array (Option Value)} {oc0 oc1 oc2 oc3 oc4 oc5 oc6 oc7 oc8 oc9 oc10 oc11 oc12 oc13 oc14 oc15 oc16 oc17 oc18 oc19 oc20 oc21 oc22 oc23 oc24 oc25 oc26 oc27 oc28 oc29 oc30 oc31 oc32 oc33 oc34 oc35 oc36 oc37 oc38 oc39 oc40 oc41 oc42 oc43 oc44 oc45 oc46 oc47 oc48 oc49 oc50 oc51 oc52 oc53 oc54 oc55 oc56 oc57 kV0 kV1 kV2 kV3 kV4 kV5 kV6 kV7 kV8 kV9 kV10 kV11 kV12 kV13 kV14 kV15 kV16 kV17 kV18 kV19 kV20 kV21 kV22 kV23 kV24 kV25 kV26 kV27 kV28 kV29 kV30 kV31 kV32 kV33 kV34 kV35 kV36 kV37 kV38 kV39 kV40 kV41 kV42 kV43 kV44 kV45 kV46 kV47 kV48 kV49 kV50 kV51 kV52 kV53 kV54 kV55 kV56 kV57 dc0 dc1 dc2 dc3 dc4 dc5 dc6 dc7 dc8 dc9 dc10 dc11 dc12 dc13 dc14 dc15 dc16 dc17 dc18 dc19 dc20 dc21 dc22 dc23 dc24 dc25 dc26 dc27 dc28 dc29 dc30 dc31 dc32 dc33 dc34 dc35 dc36 dc37 dc38 dc39 dc40 dc41 dc42 dc43 dc44 dc45 dc46 dc47 dc48 dc49 dc50 dc51 dc52 dc53 dc54 dc55 dc56 dc57 pm0 pm1 pm2 pm3 pm4 pm5 pm6 pm7 pm8 pm9 pm10 pm11 pm12 pm13 pm14 pm15 pm16 pm17 pm18 pm19 pm20 pm21 pm22 pm23 pm24 pm25 pm26 pm27 pm28 pm29 pm30 pm31 pm32 pm33 pm34 pm35 pm36 pm37 pm38 pm39 pm40 pm41 pm42 pm43 pm44 pm45 pm46 pm47 pm48 pm49 pm50 pm51 pm52 pm53 pm54 pm55 pm56 pm57 cd0 cd1 cd2 cd3 cd4 cd5 cd6 cd7 cd8 cd9 cd10 cd11 cd12 cd13 cd14 cd15 cd16 cd17 cd18 cd19 cd20 cd21 cd22 cd23 cd24 cd25 cd26 cd27 cd28 cd29 cd30 cd31 cd32 cd33 cd34 cd35 cd36 cd37 cd38 cd39 cd40 cd41 cd42 cd43 cd44 cd45 cd46 cd47 cd48 cd49 cd50 cd51 cd52 cd53 cd54 cd55 cd56 cd57 ct0 ct1 ct2 ct3 ct4 ct5 ct6 ct7 ct8 ct9 ct10 ct11 ct12 ct13 ct14 ct15 ct16 ct17 ct18 ct19 ct20 ct21 ct22 ct23 ct24 ct25 ct26 ct27 ct28 ct29 ct30 ct31 ct32 ct33 ct34 ct35 ct36 ct37 ct38 ct39 ct40 ct41 ct42 ct43 ct44 ct45 ct46 ct47 ct48 ct49 ct50 ct51 ct52 ct53 ct54 ct55 ct56 ct57:Value}
  (X:K.In h) (G:h.Ns mainGlobals mg) (hfa:mg "law"=some (.ref fa))
  {C:Addr} (aC:W.nsIn K mainGlobals "System"=some (some (.ref C)))
  (a0:W.nsIn K mainGlobals "_law_bag"=some (some (.ref f0))) (l0:K.lookup f0=some ⟨oc0,od0,.func (W.fnOf "_law_bag" "_law_bag" (aV ju) (aQ ju) (aw ju) .none kV0 dc0 pm0 an0 cd0 ct0),sl0⟩) (c0:W.codeIn K cd0 "_law_bag"=true) (k0:W.keepIn K (.ref f0)=true)
  (a1:W.nsIn K mainGlobals "_law_take"=some (some (.ref f1))) (l1:K.lookup f1=some ⟨oc1,od1,.func (W.fnOf "_law_take" "_law_take" (aV iw) (aQ iw) (aw iw) .none kV1 dc1 pm1 an1 cd1 ct1),sl1⟩) (c1:W.codeIn K cd1 "_law_take"=true) (k1:W.keepIn K (.ref f1)=true)
  (a2:W.nsIn K mainGlobals "_law_sizes"=some (some (.ref f2))) (l2:K.lookup f2=some ⟨oc2,od2,.func (W.fnOf "_law_sizes" "_law_sizes" (aV eQ) (aQ eQ) (aw eQ) .none kV2 dc2 pm2 an2 cd2 ct2),sl2⟩) (c2:W.codeIn K cd2 "_law_sizes"=true) (k2:W.keepIn K (.ref f2)=true)
  (a3:W.nsIn K mainGlobals "_law_low"=some (some (.ref f3))) (l3:K.lookup f3=some ⟨oc3,od3,.func (W.fnOf "_law_low" "_law_low" (aV js) (aQ js) (aw js) .none kV3 dc3 pm3 an3 cd3 ct3),sl3⟩) (c3:W.codeIn K cd3 "_law_low"=true) (k3:W.keepIn K (.ref f3)=true)
  (a4:W.nsIn K mainGlobals "_law_number"=some (some (.ref f4))) (l4:K.lookup f4=some ⟨oc4,od4,.func (W.fnOf "_law_number" "_law_number" (aV fo) (aQ fo) (aw fo) .none kV4 dc4 pm4 an4 cd4 ct4),sl4⟩) (c4:W.codeIn K cd4 "_law_number"=true) (k4:W.keepIn K (.ref f4)=true)
  (a5:W.nsIn K mainGlobals "_law_row"=some (some (.ref f5))) (l5:K.lookup f5=some ⟨oc5,od5,.func (W.fnOf "_law_row" "_law_row" (aV jr) (aQ jr) (aw jr) .none kV5 dc5 pm5 an5 cd5 ct5),sl5⟩) (c5:W.codeIn K cd5 "_law_row"=true) (k5:W.keepIn K (.ref f5)=true)
  (a6:W.nsIn K mainGlobals "_law_move"=some (some (.ref f6))) (l6:K.lookup f6=some ⟨oc6,od6,.func (W.fnOf "_law_move" "_law_move" (aV iE) (aQ iE) (aw iE) .none kV6 dc6 pm6 an6 cd6 ct6),sl6⟩) (c6:W.codeIn K cd6 "_law_move"=true) (k6:W.keepIn K (.ref f6)=true)
  (a7:W.nsIn K mainGlobals "_law_sum"=some (some (.ref f7))) (l7:K.lookup f7=some ⟨oc7,od7,.func (W.fnOf "_law_sum" "_law_sum" (aV jq) (aQ jq) (aw jq) .none kV7 dc7 pm7 an7 cd7 ct7),sl7⟩) (c7:W.codeIn K cd7 "_law_sum"=true) (k7:W.keepIn K (.ref f7)=true)
  (a8:W.nsIn K mainGlobals "_law_plus"=some (some (.ref f8))) (l8:K.lookup f8=some ⟨oc8,od8,.func (W.fnOf "_law_plus" "_law_plus" (aV iC) (aQ iC) (aw iC) .none kV8 dc8 pm8 an8 cd8 ct8),sl8⟩) (c8:W.codeIn K cd8 "_law_plus"=true) (k8:W.keepIn K (.ref f8)=true)
  (a9:W.nsIn K mainGlobals "_law_prod"=some (some (.ref f9))) (l9:K.lookup f9=some ⟨oc9,od9,.func (W.fnOf "_law_prod" "_law_prod" (aV iB) (aQ iB) (aw iB) .none kV9 dc9 pm9 an9 cd9 ct9),sl9⟩) (c9:W.codeIn K cd9 "_law_prod"=true) (k9:W.keepIn K (.ref f9)=true)
  (a10:W.nsIn K mainGlobals "_law_by"=some (some (.ref f10))) (l10:K.lookup f10=some ⟨oc10,od10,.func (W.fnOf "_law_by" "_law_by" (aV lO) (aQ lO) (aw lO) .none kV10 dc10 pm10 an10 cd10 ct10),sl10⟩) (c10:W.codeIn K cd10 "_law_by"=true) (k10:W.keepIn K (.ref f10)=true)
  (a11:W.nsIn K mainGlobals "_law_mixed"=some (some (.ref f11))) (l11:K.lookup f11=some ⟨oc11,od11,.func (W.fnOf "_law_mixed" "_law_mixed" (aV gA) (aQ gA) (aw gA) .none kV11 dc11 pm11 an11 cd11 ct11),sl11⟩) (c11:W.codeIn K cd11 "_law_mixed"=true) (k11:W.keepIn K (.ref f11)=true)
  (a12:W.nsIn K mainGlobals "_law_parts"=some (some (.ref f12))) (l12:K.lookup f12=some ⟨oc12,od12,.func (W.fnOf "_law_parts" "_law_parts" (aV gv) (aQ gv) (aw gv) .none kV12 dc12 pm12 an12 cd12 ct12),sl12⟩) (c12:W.codeIn K cd12 "_law_parts"=true) (k12:W.keepIn K (.ref f12)=true)
  (a13:W.nsIn K mainGlobals "want_list"=some (some (.ref f13))) (l13:K.lookup f13=some ⟨oc13,od13,.func (W.fnOf "want_list" "want_list" (aV il) (aQ il) (aw il) .none kV13 dc13 pm13 an13 cd13 ct13),sl13⟩) (c13:W.codeIn K cd13 "want_list"=true) (k13:W.keepIn K (.ref f13)=true)
  (a14:W.nsIn K mainGlobals "is_whole"=some (some (.ref f14))) (l14:K.lookup f14=some ⟨oc14,od14,.func (W.fnOf "is_whole" "is_whole" (aV jo) (aQ jo) (aw jo) .none kV14 dc14 pm14 an14 cd14 ct14),sl14⟩) (c14:W.codeIn K cd14 "is_whole"=true) (k14:W.keepIn K (.ref f14)=true)
  (a15:W.nsIn K mainGlobals "common_divisor"=some (some (.ref f15))) (l15:K.lookup f15=some ⟨oc15,od15,.func (W.fnOf "common_divisor" "common_divisor" (aV dz) (aQ dz) (aw dz) .none kV15 dc15 pm15 an15 cd15 ct15),sl15⟩) (c15:W.codeIn K cd15 "common_divisor"=true) (k15:W.keepIn K (.ref f15)=true)
  (a16:W.nsIn K mainGlobals "is_number"=some (some (.ref f16))) (l16:K.lookup f16=some ⟨oc16,od16,.func (W.fnOf "is_number" "is_number" (aV iu) (aQ iu) (aw iu) .none kV16 dc16 pm16 an16 cd16 ct16),sl16⟩) (c16:W.codeIn K cd16 "is_number"=true) (k16:W.keepIn K (.ref f16)=true)
  (a17:W.nsIn K mainGlobals "is_row"=some (some (.ref f17))) (l17:K.lookup f17=some ⟨oc17,od17,.func (W.fnOf "is_row" "is_row" (aV oa) (aQ oa) (aw oa) .none kV17 dc17 pm17 an17 cd17 ct17),sl17⟩) (c17:W.codeIn K cd17 "is_row"=true) (k17:W.keepIn K (.ref f17)=true)
  (a18:W.nsIn K mainGlobals "copied_rows"=some (some (.ref f18))) (l18:K.lookup f18=some ⟨oc18,od18,.func (W.fnOf "copied_rows" "copied_rows" (aV fk) (aQ fk) (aw fk) .none kV18 dc18 pm18 an18 cd18 ct18),sl18⟩) (c18:W.codeIn K cd18 "copied_rows"=true) (k18:W.keepIn K (.ref f18)=true)
  (a19:W.findIn K (.ref C) "__init__"=some (some (.ref f19))) (i19:W.isFn K (.ref f19)=true) (l19:K.lookup f19=some ⟨oc19,od19,.func (W.fnOf "__init__" "System.__init__" (aV dg) (aQ dg) (aw dg) .none kV19 dc19 pm19 an19 cd19 ct19),sl19⟩) (c19:W.codeIn K cd19 "System.__init__"=true) (k19:W.keepIn K (.ref f19)=true)
  (a20:W.nsIn K mainGlobals "_law_copied"=some (some (.ref f20))) (l20:K.lookup f20=some ⟨oc20,od20,.func (W.fnOf "_law_copied" "_law_copied" (aV fq) (aQ fq) (aw fq) .none kV20 dc20 pm20 an20 cd20 ct20),sl20⟩) (c20:W.codeIn K cd20 "_law_copied"=true) (k20:W.keepIn K (.ref f20)=true)
  (a21:W.nsIn K mainGlobals "_law_made"=some (some (.ref f21))) (l21:K.lookup f21=some ⟨oc21,od21,.func (W.fnOf "_law_made" "_law_made" (aV iF) (aQ iF) (aw iF) .none kV21 dc21 pm21 an21 cd21 ct21),sl21⟩) (c21:W.codeIn K cd21 "_law_made"=true) (k21:W.keepIn K (.ref f21)=true)
  (a22:W.nsIn K mainGlobals "grid_turned"=some (some (.ref f22))) (l22:K.lookup f22=some ⟨oc22,od22,.func (W.fnOf "grid_turned" "grid_turned" (aV fh) (aQ fh) (aw fh) .none kV22 dc22 pm22 an22 cd22 ct22),sl22⟩) (c22:W.codeIn K cd22 "grid_turned"=true) (k22:W.keepIn K (.ref f22)=true)
  (a23:W.nsIn K mainGlobals "common_multiple"=some (some (.ref f23))) (l23:K.lookup f23=some ⟨oc23,od23,.func (W.fnOf "common_multiple" "common_multiple" (aV df) (aQ df) (aw df) .none kV23 dc23 pm23 an23 cd23 ct23),sl23⟩) (c23:W.codeIn K cd23 "common_multiple"=true) (k23:W.keepIn K (.ref f23)=true)
  (a24:W.nsIn K mainGlobals "common_bottom"=some (some (.ref f24))) (l24:K.lookup f24=some ⟨oc24,od24,.func (W.fnOf "common_bottom" "common_bottom" (aV dP) (aQ dP) (aw dP) .none kV24 dc24 pm24 an24 cd24 ct24),sl24⟩) (c24:W.codeIn K cd24 "common_bottom"=true) (k24:W.keepIn K (.ref f24)=true)
  (a25:W.nsIn K mainGlobals "tops_over"=some (some (.ref f25))) (l25:K.lookup f25=some ⟨oc25,od25,.func (W.fnOf "tops_over" "tops_over" (aV ir) (aQ ir) (aw ir) .none kV25 dc25 pm25 an25 cd25 ct25),sl25⟩) (c25:W.codeIn K cd25 "tops_over"=true) (k25:W.keepIn K (.ref f25)=true)
  (a26:W.nsIn K mainGlobals "lowest"=some (some (.ref f26))) (l26:K.lookup f26=some ⟨oc26,od26,.func (W.fnOf "lowest" "lowest" (aV n9) (aQ n9) (aw n9) .none kV26 dc26 pm26 an26 cd26 ct26),sl26⟩) (c26:W.codeIn K cd26 "lowest"=true) (k26:W.keepIn K (.ref f26)=true)
  (a27:W.nsIn K mainGlobals "row_dot"=some (some (.ref f27))) (l27:K.lookup f27=some ⟨oc27,od27,.func (W.fnOf "row_dot" "row_dot" (aV lG) (aQ lG) (aw lG) .none kV27 dc27 pm27 an27 cd27 ct27),sl27⟩) (c27:W.codeIn K cd27 "row_dot"=true) (k27:W.keepIn K (.ref f27)=true)
  (a28:W.nsIn K mainGlobals "grid_on"=some (some (.ref f28))) (l28:K.lookup f28=some ⟨oc28,od28,.func (W.fnOf "grid_on" "grid_on" (aV lK) (aQ lK) (aw lK) .none kV28 dc28 pm28 an28 cd28 ct28),sl28⟩) (c28:W.codeIn K cd28 "grid_on"=true) (k28:W.keepIn K (.ref f28)=true)
  (a29:W.nsIn K mainGlobals "grid_times"=some (some (.ref f29))) (l29:K.lookup f29=some ⟨oc29,od29,.func (W.fnOf "grid_times" "grid_times" (aV gh) (aQ gh) (aw gh) .none kV29 dc29 pm29 an29 cd29 ct29),sl29⟩) (c29:W.codeIn K cd29 "grid_times"=true) (k29:W.keepIn K (.ref f29)=true)
  (a30:W.nsIn K mainGlobals "plus"=some (some (.ref f30))) (l30:K.lookup f30=some ⟨oc30,od30,.func (W.fnOf "plus" "plus" (aV uS) (aQ uS) (aw uS) .none kV30 dc30 pm30 an30 cd30 ct30),sl30⟩) (c30:W.codeIn K cd30 "plus"=true) (k30:W.keepIn K (.ref f30)=true)
  (a31:W.nsIn K mainGlobals "row_plus"=some (some (.ref f31))) (l31:K.lookup f31=some ⟨oc31,od31,.func (W.fnOf "row_plus" "row_plus" (aV jm) (aQ jm) (aw jm) .none kV31 dc31 pm31 an31 cd31 ct31),sl31⟩) (c31:W.codeIn K cd31 "row_plus"=true) (k31:W.keepIn K (.ref f31)=true)
  (a32:W.nsIn K mainGlobals "closed"=some (some (.ref f32))) (l32:K.lookup f32=some ⟨oc32,od32,.func (W.fnOf "closed" "closed" (aV og) (aQ og) (aw og) .none kV32 dc32 pm32 an32 cd32 ct32),sl32⟩) (c32:W.codeIn K cd32 "closed"=true) (k32:W.keepIn K (.ref f32)=true)
  (a33:W.nsIn K mainGlobals "_law_closed"=some (some (.ref f33))) (l33:K.lookup f33=some ⟨oc33,od33,.func (W.fnOf "_law_closed" "_law_closed" (aV ft) (aQ ft) (aw ft) .none kV33 dc33 pm33 an33 cd33 ct33),sl33⟩) (c33:W.codeIn K cd33 "_law_closed"=true) (k33:W.keepIn K (.ref f33)=true)
  (a34:W.nsIn K mainGlobals "_law_like"=some (some (.ref f34))) (l34:K.lookup f34=some ⟨oc34,od34,.func (W.fnOf "_law_like" "_law_like" (aV iG) (aQ iG) (aw iG) .none kV34 dc34 pm34 an34 cd34 ct34),sl34⟩) (c34:W.codeIn K cd34 "_law_like"=true) (k34:W.keepIn K (.ref f34)=true)
  (a35:W.nsIn K mainGlobals "_law_dot"=some (some (.ref f35))) (l35:K.lookup f35=some ⟨oc35,od35,.func (W.fnOf "_law_dot" "_law_dot" (aV jt) (aQ jt) (aw jt) .none kV35 dc35 pm35 an35 cd35 ct35),sl35⟩) (c35:W.codeIn K cd35 "_law_dot"=true) (k35:W.keepIn K (.ref f35)=true)
  (a36:W.nsIn K mainGlobals "_law_on"=some (some (.ref f36))) (l36:K.lookup f36=some ⟨oc36,od36,.func (W.fnOf "_law_on" "_law_on" (aV lM) (aQ lM) (aw lM) .none kV36 dc36 pm36 an36 cd36 ct36),sl36⟩) (c36:W.codeIn K cd36 "_law_on"=true) (k36:W.keepIn K (.ref f36)=true)
  (a37:W.nsIn K mainGlobals "_law_next"=some (some (.ref f37))) (l37:K.lookup f37=some ⟨oc37,od37,.func (W.fnOf "_law_next" "_law_next" (aV iD) (aQ iD) (aw iD) .none kV37 dc37 pm37 an37 cd37 ct37),sl37⟩) (c37:W.codeIn K cd37 "_law_next"=true) (k37:W.keepIn K (.ref f37)=true)
  (a38:W.findIn K (.ref C) "moved"=some (some (.ref f38))) (i38:W.isFn K (.ref f38)=true) (l38:K.lookup f38=some ⟨oc38,od38,.func (W.fnOf "moved" "System.moved" (aV eD) (aQ eD) (aw eD) .none kV38 dc38 pm38 an38 cd38 ct38),sl38⟩) (c38:W.codeIn K cd38 "System.moved"=true) (k38:W.keepIn K (.ref f38)=true)
  (a39:W.findIn K (.ref C) "seen"=some (some (.ref f39))) (i39:W.isFn K (.ref f39)=true) (l39:K.lookup f39=some ⟨oc39,od39,.func (W.fnOf "seen" "System.seen" (aV fv) (aQ fv) (aw fv) .none kV39 dc39 pm39 an39 cd39 ct39),sl39⟩) (c39:W.codeIn K cd39 "System.seen"=true) (k39:W.keepIn K (.ref f39)=true)
  (a40:W.nsIn K mainGlobals "first_with"=some (some (.ref f40))) (l40:K.lookup f40=some ⟨oc40,od40,.func (W.fnOf "first_with" "first_with" (aV gi) (aQ gi) (aw gi) .none kV40 dc40 pm40 an40 cd40 ct40),sl40⟩) (c40:W.codeIn K cd40 "first_with"=true) (k40:W.keepIn K (.ref f40)=true)
  (a41:W.nsIn K mainGlobals "cleared"=some (some (.ref f41))) (l41:K.lookup f41=some ⟨oc41,od41,.func (W.fnOf "cleared" "cleared" (aV lL) (aQ lL) (aw lL) .none kV41 dc41 pm41 an41 cd41 ct41),sl41⟩) (c41:W.codeIn K cd41 "cleared"=true) (k41:W.keepIn K (.ref f41)=true)
  (a42:W.nsIn K mainGlobals "brought_up"=some (some (.ref f42))) (l42:K.lookup f42=some ⟨oc42,od42,.func (W.fnOf "brought_up" "brought_up" (aV gs) (aQ gs) (aw gs) .none kV42 dc42 pm42 an42 cd42 ct42),sl42⟩) (c42:W.codeIn K cd42 "brought_up"=true) (k42:W.keepIn K (.ref f42)=true)
  (a43:W.nsIn K mainGlobals "swept"=some (some (.ref f43))) (l43:K.lookup f43=some ⟨oc43,od43,.func (W.fnOf "swept" "swept" (aV qO) (aQ qO) (aw qO) .none kV43 dc43 pm43 an43 cd43 ct43),sl43⟩) (c43:W.codeIn K cd43 "swept"=true) (k43:W.keepIn K (.ref f43)=true)
  (a44:W.nsIn K mainGlobals "reduced"=some (some (.ref f44))) (l44:K.lookup f44=some ⟨oc44,od44,.func (W.fnOf "reduced" "reduced" (aV lH) (aQ lH) (aw lH) .none kV44 dc44 pm44 an44 cd44 ct44),sl44⟩) (c44:W.codeIn K cd44 "reduced"=true) (k44:W.keepIn K (.ref f44)=true)
  (a45:W.nsIn K mainGlobals "moved_rows"=some (some (.ref f45))) (l45:K.lookup f45=some ⟨oc45,od45,.func (W.fnOf "moved_rows" "moved_rows" (aV gg) (aQ gg) (aw gg) .none kV45 dc45 pm45 an45 cd45 ct45),sl45⟩) (c45:W.codeIn K cd45 "moved_rows"=true) (k45:W.keepIn K (.ref f45)=true)
  (a46:W.nsIn K mainGlobals "reach_grown"=some (some (.ref f46))) (l46:K.lookup f46=some ⟨oc46,od46,.func (W.fnOf "reach_grown" "reach_grown" (aV fg) (aQ fg) (aw fg) .none kV46 dc46 pm46 an46 cd46 ct46),sl46⟩) (c46:W.codeIn K cd46 "reach_grown"=true) (k46:W.keepIn K (.ref f46)=true)
  (a47:W.nsIn K mainGlobals "reach_rows"=some (some (.ref f47))) (l47:K.lookup f47=some ⟨oc47,od47,.func (W.fnOf "reach_rows" "reach_rows" (aV fZ) (aQ fZ) (aw fZ) .none kV47 dc47 pm47 an47 cd47 ct47),sl47⟩) (c47:W.codeIn K cd47 "reach_rows"=true) (k47:W.keepIn K (.ref f47)=true)
  (a48:W.nsIn K mainGlobals "unit_row"=some (some (.ref f48))) (l48:K.lookup f48=some ⟨oc48,od48,.func (W.fnOf "unit_row" "unit_row" (aV jl) (aQ jl) (aw jl) .none kV48 dc48 pm48 an48 cd48 ct48),sl48⟩) (c48:W.codeIn K cd48 "unit_row"=true) (k48:W.keepIn K (.ref f48)=true)
  (a49:W.nsIn K mainGlobals "leading_place"=some (some (.ref f49))) (l49:K.lookup f49=some ⟨oc49,od49,.func (W.fnOf "leading_place" "leading_place" (aV dO) (aQ dO) (aw dO) .none kV49 dc49 pm49 an49 cd49 ct49),sl49⟩) (c49:W.codeIn K cd49 "leading_place"=true) (k49:W.keepIn K (.ref f49)=true)
  (a50:W.nsIn K mainGlobals "leading"=some (some (.ref f50))) (l50:K.lookup f50=some ⟨oc50,od50,.func (W.fnOf "leading" "leading" (aV lJ) (aQ lJ) (aw lJ) .none kV50 dc50 pm50 an50 cd50 ct50),sl50⟩) (c50:W.codeIn K cd50 "leading"=true) (k50:W.keepIn K (.ref f50)=true)
  (a51:W.nsIn K mainGlobals "minus"=some (some (.ref f51))) (l51:K.lookup f51=some ⟨oc51,od51,.func (W.fnOf "minus" "minus" (aV qQ) (aQ qQ) (aw qQ) .none kV51 dc51 pm51 an51 cd51 ct51),sl51⟩) (c51:W.codeIn K cd51 "minus"=true) (k51:W.keepIn K (.ref f51)=true)
  (a52:W.nsIn K mainGlobals "null_at"=some (some (.ref f52))) (l52:K.lookup f52=some ⟨oc52,od52,.func (W.fnOf "null_at" "null_at" (aV lI) (aQ lI) (aw lI) .none kV52 dc52 pm52 an52 cd52 ct52),sl52⟩) (c52:W.codeIn K cd52 "null_at"=true) (k52:W.keepIn K (.ref f52)=true)
  (a53:W.nsIn K mainGlobals "free_places"=some (some (.ref f53))) (l53:K.lookup f53=some ⟨oc53,od53,.func (W.fnOf "free_places" "free_places" (aV fj) (aQ fj) (aw fj) .none kV53 dc53 pm53 an53 cd53 ct53),sl53⟩) (c53:W.codeIn K cd53 "free_places"=true) (k53:W.keepIn K (.ref f53)=true)
  (a54:W.nsIn K mainGlobals "nulls"=some (some (.ref f54))) (l54:K.lookup f54=some ⟨oc54,od54,.func (W.fnOf "nulls" "nulls" (aV qP) (aQ qP) (aw qP) .none kV54 dc54 pm54 an54 cd54 ct54),sl54⟩) (c54:W.codeIn K cd54 "nulls"=true) (k54:W.keepIn K (.ref f54)=true)
  (a55:W.nsIn K mainGlobals "taken_over"=some (some (.ref f55))) (l55:K.lookup f55=some ⟨oc55,od55,.func (W.fnOf "taken_over" "taken_over" (aV fY) (aQ fY) (aw fY) .none kV55 dc55 pm55 an55 cd55 ct55),sl55⟩) (c55:W.codeIn K cd55 "taken_over"=true) (k55:W.keepIn K (.ref f55)=true)
  (a56:W.nsIn K mainGlobals "unsteered"=some (some (.ref f56))) (l56:K.lookup f56=some ⟨oc56,od56,.func (W.fnOf "unsteered" "unsteered" (aV iq) (aQ iq) (aw iq) .none kV56 dc56 pm56 an56 cd56 ct56),sl56⟩) (c56:W.codeIn K cd56 "unsteered"=true) (k56:W.keepIn K (.ref f56)=true)
  (a57:W.nsIn K mainGlobals "law"=some (some (.ref f57))) (l57:K.lookup f57=some ⟨oc57,od57,.func (W.fnOf "law" "law" (aV yJ) (aQ yJ) (aw yJ) .none kV57 dc57 pm57 an57 cd57 ct57),sl57⟩) (c57:W.codeIn K cd57 "law"=true) (k57:W.keepIn K (.ref f57)=true)
  {m0:Addr} {mo0:Option Addr} {mn0:Nat} {ms0:Array (Option Value)} {mt0_0 mt0_1:Tok} (ca0:W.nsIn K mainGlobals "NOUGHT"=some (some (.ref m0))) (cl0:K.lookup m0=some ⟨.type "tuple",mo0,.seq #[.int 0 mt0_0,.int 1 mt0_1] mn0,ms0⟩)
  {m1:Addr} {mo1:Option Addr} {mn1:Nat} {ms1:Array (Option Value)} {mt1_0 mt1_1:Tok} (ca1:W.nsIn K mainGlobals "ONE"=some (some (.ref m1))) (cl1:K.lookup m1=some ⟨.type "tuple",mo1,.seq #[.int 1 mt1_0,.int 1 mt1_1] mn1,ms1⟩)
  {it0:Tok} (ci0:W.nsIn K mainGlobals "MOST_STATES"=some (some (.int 8 it0)))
  {it1:Tok} (ci1:W.nsIn K mainGlobals "MOST_PUTS"=some (some (.int 4 it1)))
  {it2:Tok} (ci2:W.nsIn K mainGlobals "MOST_LOOKS"=some (some (.int 4 it2)))
  (pg:W.plainGet K C Str.empty=true) (hd:W.hasDictIn K C=true) (po:W.plainOver K C=true) (sa:W.findIn K (.ref C) "__setattr__"=some (some (.builtin "object.__setattr__"))) (mk:W.makesIn K C=true) (kc:W.keepIn K (.ref C)=true)
  (n_move:W.findIn K (.ref C) "move"=some none)
  (n_states:W.findIn K (.ref C) "states"=some none)
  (n_put:W.findIn K (.ref C) "put"=some none)
  (n_ins:W.findIn K (.ref C) "ins"=some none)
  (n_look:W.findIn K (.ref C) "look"=some none)
  (n_outs:W.findIn K (.ref C) "outs"=some none)
  (ia:W.findIn K (.ref C) "__class__"=some (some (.builtin "object.__class__"))) (ib:W.specialIn K (.builtin "object.__class__") "__get__"=some (some (.builtin "getset_descriptor.__get__"))) (ic:W.takesIn K (.builtin "object.__class__")=some true) (id:W.mroIn K C (.type "object")=some true)
  (z_abs:W.nsIn K mainGlobals "abs"=some none)
  (z_len:W.nsIn K mainGlobals "len"=some none)
  (z_min:W.nsIn K mainGlobals "min"=some none)
  (z_range:W.nsIn K mainGlobals "range"=some none)
  (z_int:W.nsIn K mainGlobals "int"=some none)
  (z_isinstance:W.nsIn K mainGlobals "isinstance"=some none)
  (z_list:W.nsIn K mainGlobals "list"=some none)
  (z_bool:W.nsIn K mainGlobals "bool"=some none)
  (z_tuple:W.nsIn K mainGlobals "tuple"=some none)
  (z_all:W.nsIn K mainGlobals "all"=some none)
  (z_enumerate:W.nsIn K mainGlobals "enumerate"=some none)
  (z_zip:W.nsIn K mainGlobals "zip"=some none)
  (z_sum:W.nsIn K mainGlobals "sum"=some none)
  : ∃fd:FuncData,(∀(s:Shared) (v:Value),BindsTo s fd ⟨[v],[]⟩ [("_law_script",v)])/\∀base:Heap,K.In base->base.Ns mainGlobals mg->cw l.prog w K mg base gX 10 fa fd ["_law_script"] (wL K):=by
 have e:=hfa.symm.trans (W.mg_of X G a57);cases e;have F0:=bE (st:=ju) l0 c0 k0;have F1:=bE (st:=iw) l1 c1 k1;have F2:=bE (st:=eQ) l2 c2 k2;have F3:=bE (st:=js) l3 c3 k3;have F4:=bE (st:=fo) l4 c4 k4;have F5:=bE (st:=jr) l5 c5 k5;have F6:=bE (st:=iE) l6 c6 k6;have F7:=bE (st:=jq) l7 c7 k7;have F8:=bE (st:=iC) l8 c8 k8;have F9:=bE (st:=iB) l9 c9 k9;have F10:=bE (st:=lO) l10 c10 k10;have F11:=bE (st:=gA) l11 c11 k11;have F12:=bE (st:=gv) l12 c12 k12;have F13:=bE (st:=il) l13 c13 k13;have F14:=bE (st:=jo) l14 c14 k14;have F15:=bE (st:=dz) l15 c15 k15;have F16:=bE (st:=iu) l16 c16 k16;have F17:=bE (st:=oa) l17 c17 k17;have F18:=bE (st:=fk) l18 c18 k18;have F19:=bE (st:=dg) l19 c19 k19;have F20:=bE (st:=fq) l20 c20 k20;have F21:=bE (st:=iF) l21 c21 k21;have F22:=bE (st:=fh) l22 c22 k22;have F23:=bE (st:=df) l23 c23 k23;have F24:=bE (st:=dP) l24 c24 k24;have F25:=bE (st:=ir) l25 c25 k25;have F26:=bE (st:=n9) l26 c26 k26;have F27:=bE (st:=lG) l27 c27 k27;have F28:=bE (st:=lK) l28 c28 k28;have F29:=bE (st:=gh) l29 c29 k29;have F30:=bE (st:=uS) l30 c30 k30;have F31:=bE (st:=jm) l31 c31 k31;have F32:=bE (st:=og) l32 c32 k32;have F33:=bE (st:=ft) l33 c33 k33;have F34:=bE (st:=iG) l34 c34 k34;have F35:=bE (st:=jt) l35 c35 k35;have F36:=bE (st:=lM) l36 c36 k36;have F37:=bE (st:=iD) l37 c37 k37;have F38:=bE (st:=eD) l38 c38 k38;have F39:=bE (st:=fv) l39 c39 k39;have F40:=bE (st:=gi) l40 c40 k40;have F41:=bE (st:=lL) l41 c41 k41;have F42:=bE (st:=gs) l42 c42 k42;have F43:=bE (st:=qO) l43 c43 k43;have F44:=bE (st:=lH) l44 c44 k44;have F45:=bE (st:=gg) l45 c45 k45;have F46:=bE (st:=fg) l46 c46 k46;have F47:=bE (st:=fZ) l47 c47 k47;have F48:=bE (st:=jl) l48 c48 k48;have F49:=bE (st:=dO) l49 c49 k49;have F50:=bE (st:=lJ) l50 c50 k50;have F51:=bE (st:=qQ) l51 c51 k51;have F52:=bE (st:=lI) l52 c52 k52;have F53:=bE (st:=fj) l53 c53 k53;have F54:=bE (st:=qP) l54 c54 k54;have F55:=bE (st:=fY) l55 c55 k55;have F56:=bE (st:=iq) l56 c56 k56;have F57:=bE (st:=yJ) l57 c57 k57
 have T:Txt K mg { pF:=f0,o6:=_,nv:=f1,mV:=_,lh:=f2,kR:=_,pC:=f3,o3:=_,jT:=f4,jI:=_,pB:=f5,oZ:=_,nD:=f6,mZ:=_,pA:=f7,oY:=_,nB:=f8,mX:=_,nA:=f9,mW:=_,rG:=f10,rh:=_,lB:=f11,kT:=_,lA:=f12,kS:=_,ng:=f13,mR:=_,pz:=f14,oX:=_,gK:=f15,gG:=_,nk:=f16,mU:=_,uI:=f17,uv:=_,jS:=f18,jH:=_,fN:=f19,fK:=_,jU:=f20,jJ:=_,nE:=f21,m5:=_,jQ:=f22,jF:=_,fM:=f23,fJ:=_,hZ:=f24,gZ:=_,ni:=f25,mT:=_,uH:=f26,uu:=_,rz:=f27,qW:=_,rD:=f28,rd:=_,kY:=f29,kN:=_,Ai:=f30,Ad:=_,pk:=f31,oW:=_,uJ:=f32,uw:=_,jV:=f33,jK:=_,nF:=f34,m6:=_,pE:=f35,o5:=_,rF:=f36,rg:=_,nC:=f37,mY:=_,jf:=f38,jd:=_,jW:=f39,jL:=_,kZ:=f40,kO:=_,rE:=f41,rf:=_,lg:=f42,kQ:=_,we:=f43,v8:=_,rA:=f44,qX:=_,kX:=f45,kM:=_,jP:=f46,jE:=_,kW:=f47,kL:=_,ph:=f48,oV:=_,hX:=f49,gY:=_,rC:=f50,qZ:=_,wo:=f51,wb:=_,rB:=f52,qY:=_,jR:=f53,jG:=_,wg:=f54,v9:=_,kU:=f55,kK:=_,nh:=f56,mS:=_,GC:=fa,Gf:=_,a_NOUGHT:=m0,a_ONE:=m1,t_MOST_STATES:=it0,t_MOST_PUTS:=it1,t_MOST_LOOKS:=it2,a_System:=C }:={
  vI:=W.mg_of X G a0
  xP:=F0.binds (ps:=["_law_script"]) λ_ _ _ _ _ _=>by refine FC ?_;intros;rfl
  tI:=F0
  bw:=W.mg_of X G a1
  bH:=F1.binds (ps:=["_law_bag_here","_law_many"]) λ_ _ _ _ _ _=>by refine ln2 ?_;intros;rfl
  bF:=F1
  sk:=W.mg_of X G a2
  uE:=F2.binds (ps:=["_law_bag_here"]) λ_ _ _ _ _ _=>by refine FC ?_;intros;rfl
  pN:=F2
  j9:=W.mg_of X G a3
  mE:=F3.binds (ps:=["_law_top","_law_bottom"]) λ_ _ _ _ _ _=>by refine ln2 ?_;intros;rfl
  jC:=F3
  qi:=W.mg_of X G a4
  sI:=F4.binds (ps:=["_law_bag_here","_law_wide"]) λ_ _ _ _ _ _=>by refine ln2 ?_;intros;rfl
  nW:=F4
  eH:=W.mg_of X G a5
  fV:=F5.binds (ps:=["_law_bag_here","_law_many","_law_wide"]) λ_ _ _ _ _ _=>by refine Jg ?_;intros;rfl
  eY:=F5
  t8:=W.mg_of X G a6
  vN:=F6.binds (ps:=["_law_bag_here","_law_n","_law_way","_law_first","_law_wide"]) λ_ _ _ _ _ _=>by refine ln5 ?_;intros;rfl
  qJ:=F6
  j8:=W.mg_of X G a7
  mD:=F7.binds (ps:=["_law_one","_law_other"]) λ_ _ _ _ _ _=>by refine ln2 ?_;intros;rfl
  jB:=F7
  jc:=W.mg_of X G a8
  ke:=F8.binds (ps:=["_law_one","_law_other"]) λ_ _ _ _ _ _=>by refine ln2 ?_;intros;rfl
  iN:=F8
  jb:=W.mg_of X G a9
  kd:=F9.binds (ps:=["_law_one","_law_other"]) λ_ _ _ _ _ _=>by refine ln2 ?_;intros;rfl
  iM:=F9
  oS:=W.mg_of X G a10
  rn:=F10.binds (ps:=["_law_by_here","_law_row_here"]) λ_ _ _ _ _ _=>by refine ln2 ?_;intros;rfl
  oB:=F10
  sF:=W.mg_of X G a11
  uG:=F11.binds (ps:=["_law_bag_here","_law_move_here","_law_put","_law_look"]) λ_ _ _ _ _ _=>by refine Mf ?_;intros;rfl
  pP:=F11
  so:=W.mg_of X G a12
  uF:=F12.binds (ps:=["_law_bag_here","_law_n","_law_ins","_law_outs","_law_wide"]) λ_ _ _ _ _ _=>by refine ln5 ?_;intros;rfl
  pO:=F12
  kI:=W.mg_of X G a13
  m7:=F13.binds (ps:=["thing","at","most"]) λ_ _ _ _ _ _=>by refine Jg ?_;intros;rfl
  kh:=F13
  qh:=W.mg_of X G a14
  tD:=F14.binds (ps:=["thing"]) λ_ _ _ _ _ _=>by refine FC ?_;intros;rfl
  pK:=F14
  fI:=W.mg_of X G a15
  gJ:=F15.binds (ps:=["one","other"]) λ_ _ _ _ _ _=>by refine ln2 ?_;intros;rfl
  eG:=F15
  tZ:=W.mg_of X G a16
  vL:=F16.binds (ps:=["thing"]) λ_ _ _ _ _ _=>by refine FC ?_;intros;rfl
  qH:=F16
  yS:=W.mg_of X G a17
  BH:=F17.binds (ps:=["thing","many"]) λ_ _ _ _ _ _=>by refine ln2 ?_;intros;rfl
  xT:=F17
  ja:=W.mg_of X G a18
  jO:=F18.binds (ps:=["things","wide"]) λ_ _ _ _ _ _=>by refine ln2 ?_;intros;rfl
  gW:=F18
  je:=F19.binds (ps:=["self","move","put","look"]) λ_ _ _ _ _ _=>by refine Mf ?_;intros;rfl
  nH:=F19
  eF:=W.mg_of X G a20
  fA:=F20.binds (ps:=["_law_grid"]) λ_ _ _ _ _ _=>by refine FC ?_;intros;rfl
  ee:=F20
  t9:=W.mg_of X G a21
  vO:=F21.binds (ps:=["_law_parts_here"]) λ_ _ _ _ _ _=>by refine FC ?_;intros;rfl
  qK:=F21
  i8:=W.mg_of X G a22
  jN:=F22.binds (ps:=["grid","wide"]) λ_ _ _ _ _ _=>by refine ln2 ?_;intros;rfl
  gV:=F22
  my:=W.mg_of X G a23
  m9:=F23.binds (ps:=["wholes"]) λ_ _ _ _ _ _=>by refine FC ?_;intros;rfl
  jh:=F23
  gE:=W.mg_of X G a24
  g8:=F24.binds (ps:=["row"]) λ_ _ _ _ _ _=>by refine FC ?_;intros;rfl
  fe:=F24
  kJ:=W.mg_of X G a25
  m8:=F25.binds (ps:=["row","bottom"]) λ_ _ _ _ _ _=>by refine ln2 ?_;intros;rfl
  kj:=F25
  oi:=W.mg_of X G a26
  qC:=F26.binds (ps:=["top","bottom"]) λ_ _ _ _ _ _=>by refine ln2 ?_;intros;rfl
  ox:=F26
  sZ:=W.mg_of X G a27
  vg:=F27.binds (ps:=["one","other"]) λ_ _ _ _ _ _=>by refine ln2 ?_;intros;rfl
  rJ:=F27
  oQ:=W.mg_of X G a28
  rj:=F28.binds (ps:=["grid","row"]) λ_ _ _ _ _ _=>by refine ln2 ?_;intros;rfl
  oy:=F28
  nP:=W.mg_of X G a29
  pe:=F29.binds (ps:=["one","other","wide"]) λ_ _ _ _ _ _=>by refine Jg ?_;intros;rfl
  lC:=F29
  Dp:=W.mg_of X G a30
  GB:=F30.binds (ps:=["one","other"]) λ_ _ _ _ _ _=>by refine ln2 ?_;intros;rfl
  CO:=F30
  vG:=W.mg_of X G a31
  xN:=F31.binds (ps:=["one","other"]) λ_ _ _ _ _ _=>by refine ln2 ?_;intros;rfl
  tG:=F31
  oq:=W.mg_of X G a32
  qD:=F32.binds (ps:=["system","rows"]) λ_ _ _ _ _ _=>by refine ln2 ?_;intros;rfl
  oz:=F32
  mB:=W.mg_of X G a33
  nR:=F33.binds (ps:=["_law_parts_here","_law_rows"]) λ_ _ _ _ _ _=>by refine ln2 ?_;intros;rfl
  jY:=F33
  eT:=W.mg_of X G a34
  fW:=F34.binds (ps:=["_law_system","_law_parts_here"]) λ_ _ _ _ _ _=>by refine ln2 ?_;intros;rfl
  eI:=F34
  vH:=W.mg_of X G a35
  xO:=F35.binds (ps:=["_law_one","_law_other"]) λ_ _ _ _ _ _=>by refine ln2 ?_;intros;rfl
  tH:=F35
  oR:=W.mg_of X G a36
  rk:=F36.binds (ps:=["_law_grid","_law_row_here"]) λ_ _ _ _ _ _=>by refine ln2 ?_;intros;rfl
  oA:=F36
  t7:=W.mg_of X G a37
  vM:=F37.binds (ps:=["_law_parts_here","_law_state","_law_puts"]) λ_ _ _ _ _ _=>by refine Jg ?_;intros;rfl
  qI:=F37
  pT:=⟨a38,i38,k38⟩
  qE:=F38.binds (ps:=["self","state","puts"]) λ_ _ _ _ _ _=>by refine Jg ?_;intros;rfl
  qL:=F38
  qj:=⟨a39,i39,k39⟩
  sJ:=F39.binds (ps:=["self","state"]) λ_ _ _ _ _ _=>by refine ln2 ?_;intros;rfl
  sN:=F39
  rZ:=W.mg_of X G a40
  uC:=F40.binds (ps:=["lines","begin","place"]) λ_ _ _ _ _ _=>by refine Jg ?_;intros;rfl
  pL:=F40
  xv:=W.mg_of X G a41
  zf:=F41.binds (ps:=["lines","at","place","before"]) λ_ _ _ _ _ _=>by refine Mf ?_;intros;rfl
  vp:=F41
  si:=W.mg_of X G a42
  uD:=F42.binds (ps:=["lines","at","to"]) λ_ _ _ _ _ _=>by refine Jg ?_;intros;rfl
  pM:=F42
  Bc:=W.mg_of X G a43
  DL:=F43.binds (ps:=["rows","wide"]) λ_ _ _ _ _ _=>by refine ln2 ?_;intros;rfl
  Al:=F43
  td:=W.mg_of X G a44
  vh:=F44.binds (ps:=["rows","wide"]) λ_ _ _ _ _ _=>by refine ln2 ?_;intros;rfl
  rK:=F44
  rY:=W.mg_of X G a45
  uB:=F45.binds (ps:=["system","rows"]) λ_ _ _ _ _ _=>by refine ln2 ?_;intros;rfl
  pJ:=F45
  qg:=W.mg_of X G a46
  sH:=F46.binds (ps:=["system","steps"]) λ_ _ _ _ _ _=>by refine ln2 ?_;intros;rfl
  nV:=F46
  rX:=W.mg_of X G a47
  uA:=F47.binds (ps:=["system","steps"]) λ_ _ _ _ _ _=>by refine ln2 ?_;intros;rfl
  pI:=F47
  vF:=W.mg_of X G a48
  xM:=F48.binds (ps:=["many","at"]) λ_ _ _ _ _ _=>by refine ln2 ?_;intros;rfl
  tF:=F48
  oj:=W.mg_of X G a49
  pU:=F49.binds (ps:=["row"]) λ_ _ _ _ _ _=>by refine FC ?_;intros;rfl
  kx:=F49
  tj:=W.mg_of X G a50
  vm:=F50.binds (ps:=["rows"]) λ_ _ _ _ _ _=>by refine FC ?_;intros;rfl
  rL:=F50
  Bg:=W.mg_of X G a51
  DN:=F51.binds (ps:=["one","other"]) λ_ _ _ _ _ _=>by refine ln2 ?_;intros;rfl
  An:=F51
  xu:=W.mg_of X G a52
  ze:=F52.binds (ps:=["rows","wide","at"]) λ_ _ _ _ _ _=>by refine Jg ?_;intros;rfl
  vo:=F52
  mo:=W.mg_of X G a53
  nQ:=F53.binds (ps:=["rows","wide"]) λ_ _ _ _ _ _=>by refine ln2 ?_;intros;rfl
  jX:=F53
  Be:=W.mg_of X G a54
  DM:=F54.binds (ps:=["rows","wide"]) λ_ _ _ _ _ _=>by refine ln2 ?_;intros;rfl
  Am:=F54
  rW:=W.mg_of X G a55
  uz:=F55.binds (ps:=["system","rows"]) λ_ _ _ _ _ _=>by refine ln2 ?_;intros;rfl
  pH:=F55
  oP:=W.mg_of X G a56
  qB:=F56.binds (ps:=["system"]) λ_ _ _ _ _ _=>by refine FC ?_;intros;rfl
  nG:=F56
  Ju:=F57
  abs:=W.mg_none_of X G z_abs
  len:=W.mg_none_of X G z_len
  min:=W.mg_none_of X G z_min
  range:=W.mg_none_of X G z_range
  int:=W.mg_none_of X G z_int
  isinstance:=W.mg_none_of X G z_isinstance
  list:=W.mg_none_of X G z_list
  bool:=W.mg_none_of X G z_bool
  tuple:=W.mg_none_of X G z_tuple
  all:=W.mg_none_of X G z_all
  enumerate:=W.mg_none_of X G z_enumerate
  zip:=W.mg_none_of X G z_zip
  sum:=W.mg_none_of X G z_sum
  mg_NOUGHT:=W.mg_of X G ca0
  sq_NOUGHT:=λH=>.inr ⟨_,_,_,cl0,rfl,rfl,iU rfl,.cons ⟨_,rfl⟩ (.cons ⟨_,rfl⟩ (.nil))⟩
  mg_ONE:=W.mg_of X G ca1
  sq_ONE:=λH=>.inr ⟨_,_,_,cl1,rfl,rfl,iU rfl,.cons ⟨_,rfl⟩ (.cons ⟨_,rfl⟩ (.nil))⟩
  mg_MOST_STATES:=W.mg_of X G ci0
  mg_MOST_PUTS:=W.mg_of X G ci1
  mg_MOST_LOOKS:=W.mg_of X G ci2
  mg_System:=W.mg_of X G aC
  cl_System:=⟨pg,hd,po,sa⟩
  na_move:=n_move
  na_states:=n_states
  na_put:=n_put
  na_ins:=n_ins
  na_look:=n_look
  na_outs:=n_outs
  mk_System:=⟨mk,a19,i19,kc⟩
  ty_System:=⟨λe=>.ins e ⟨pg,hd,po,sa⟩ ia ib ic id,FF⟩ }
 exact ⟨_,λs v=>.of_eq rfl,λbase _ _=>Kb T⟩
theorem walk {l:W.OpenLaw} {q:Program} {loose:List Str} {XP:(Str->Option Value)->Heap->Prop} {YP:World->Heap->Prop} {d:DefRec} {K:Params->W.Frag} (hn:l.most=some 63) (hdf:d.params.defaults=[])
  (hY:∀(w:World) (h:Heap),YP w h->(K w.params).In h)
  (F:∀(w:World) (mg:Str->Option Value) (fa:Addr) (h:Heap),(K w.params).In h->h.Ns mainGlobals mg->mg d.name=some (.ref fa) →
   ∃fd:FuncData,(∀(s:Shared) (u:Value),BindsTo s fd ⟨[u],[]⟩ [("_law_script",u)])/\∀base:Heap,(K w.params).In base->base.Ns mainGlobals mg->cw l.prog w (K w.params) mg base gX 10 fa fd ["_law_script"] (wL (K w.params))) :
  W.WalkO q loose XP YP l.row.toRowW d [] (λf vs=>PySem.call f vs) :=
 L2.GY (n:=63) (k:=10) (x:="_law_script") (CX:=λ_=>gX) (sp:=λw=>wL (K w.params)) hn (by decide) hdf ⟨rfl,by decide,by decide⟩ hY F (λ_ _ a ns hl _ hS=>⟨a,ns,rfl,hS,hl,λ_=>rfl⟩) λ_ _ _ _ _ z=>z
end Lw
namespace PySem.W.Fast
def tw17732243523494507655:=()
def tw5126776611903906744:=()
def tw17235074780708705389:=()
def tw13095639695479916679:=()
def tw13544945268053108898:=()
def tw16338991127112996540:=()
def tw6690579941747343914:=()
def tw16376498234655123979:=()
def tw4070055268121156234:=()
def tw8594769980455856517:=()
def tw7964883209341326950:=()
def tw16559024488890741700:=()
def tw16292933525698756096:=()
def tw264370700618145679:=()
def tw11464508286440277897:=()
def tw10946317906860407231:=()
def tw5320998609726825458:=()
def tw12440382783951431750:=()
def tw11427758025794764294:=()
def tw16056603559229340245:=()
def tw14712911732508263205:=()
def tw8935756216405174817:=()
def tw18090828096524036153:=()
def tw18078806887959152618:=()
def tw3647582996965854463:=()
def tw6404470302514372775:=()
def tw13685444817565308261:=()
def tw2235366524619225017:=()
def tw10201919803342334247:=()
def tw11426486863071559079:=()
def tw15062933987587048504:=()
def tw18142539455508458388:=()
def tw17970677408828924340:=()
def tw6972307450293235789:=()
def tw3106145847911199665:=()
def tw12755510378302302240:=()
def tw17957668335313948500:=()
def tw3765242720799146747:=()
def tw16090688545234253305:=()
def tw8050016679031631010:=()
def tw16933250684615725403:=()
def tw2672050269804040945:=()
def tw4197544745128116924:=()
def tw7128691486285303994:=()
def tw9360187323980921448:=()
def tw18376867851047518957:=()
def tw12082659610210546334:=()
def tw5212625861449153096:=()
def tw13861036035145950937:=()
def tw17611144167620249454:=()
def tw2679160344055633871:=()
def tw3287702920597002291:=()
def tw5472700935702281030:=()
def tw9420481530157710949:=()
def tw18314334148132329232:=()
def tw18436081421524505701:=()
def tw13856523909563210935:=()
def tw889862748655500292:=()
def tw1849551355558966494:=()
def tw15564635527825242226:=()
def tw14909174481290532859:=()
def tw10018917959152235745:=()
def tw5666176637277603927:=()
def tw16055719863254174962:=()
def tw3932645115132355606:=()
def tw13368885467760825863:=()
def tw6053402740261457259:=()
def tw10491538295244561314:=()
def tw8275770871940002674:=()
def tw6277874161465471572:=()
def tw9196277517891306482:=()
def tw6513564431502951522:=()
def tw13712995463796983841:=()
def tw10666235853055135822:=()
def tw3642273123588263763:=()
def tw1693286228729459820:=()
def tw18066593672401507559:=()
def tw18211417247905372655:=()
def tw9811750145066928478:=()
def tw17945588621776073772:=()
def tw6756527836164095089:=()
def tw12283517452478793711:=()
def tw13425772335828273666:=()
def tw14566164588777415849:=()
def tw10594172487838621653:=()
def tw14704259260757437369:=()
def tw17961952201329251744:=()
def tw12512073873800410576:=()
def tw12608451797637237627:=()
def tw277594698649306859:=()
def tw9698564191033890034:=()
def tw12572764054223315917:=()
def tw3180326727496162475:=()
def tw10714516721768991730:=()
def tw11486130504494521222:=()
def tw5089540372640930475:=()
def tw16797636236994096736:=()
def tw16117933747093997776:=()
def tw11780720087262312831:=()
def tw9173676805110559331:=()
def tw6391062941932401260:=()
def tw3237961032995587740:=()
def tw7606008080796520263:=()
def tw5730560279608868119:=()
def tw11514226457991448751:=()
def tw10444307622808127114:=()
def tw15911436808687140293:=()
def tw5365109567928664221:=()
def tw17008234152445360701:=()
def tw3964856169257397194:=()
def tw1272283708526022682:=()
def tw13810121982040385837:=()
def tw12325265442090062476:=()
def tw12587948974989222636:=()
def tw143882463222483618:=()
def tw3061077916912884655:=()
def tw7214661725104309809:=()
def tw640644426159749306:=()
def tw10966631507530882932:=()
def tw17199431011230535384:=()
def tw10182044663757861358:=()
def tw8412215392339903974:=()
def tw15320233526600184559:=()
def tw5954982632892431106:=()
def tw16666160551177350755:=()
def tw10988905000074773756:=()
def tw8323595159223988475:=()
def tw11486651403686539179:=()
def tw11938581900986393241:=()
def tw12174650975076358014:=()
def tw14372135472388439748:=()
def tw11302592325876671264:=()
def tw1184872350805551788:=()
def tw580115363740882245:=()
def tw17747820580285346848:=()
def tw11151764915517116938:=()
def tw12104205098498406244:=()
def tw2422414484457949914:=()
def tw9559062601229308318:=()
def tw14455666419880976131:=()
def tw10500809751918624941:=()
def tw1167139716045241294:=()
def tw9966111631887994039:=()
def tw9983051065157646529:=()
def tw9331706391029526064:=()
def tw17250982145616138130:=()
def tw16474062942821340283:=()
def tw13305576447070609297:=()
def tw1130817334566789262:=()
def tw17212027755378807146:=()
def tw13350142395400612230:=()
def tw11905570156649148453:=()
def tw15151723389603752806:=()
def tw15792479643150806196:=()
def tw3233087424207091098:=()
def tw5291843980043984587:=()
def tw4575840305063089218:=()
def tw1199340280797584:=()
def tw8223284339108743404:=()
def tw8872203533127690761:=()
def tw10955560886442695011:=()
def tw464800594314720499:=()
def tw16355665051801383318:=()
def tw17085550525855297918:=()
def tw11125768743804335750:=()
def tw405022959365341496:=()
def tw2985194689967079616:=()
def tw18255973393378774394:=()
def tw6324211852836853905:=()
def tw7449620715502654365:=()
def tw8498094734152587868:=()
def tw18108723600795843440:=()
def tw13808621465101420431:=()
def tw15085157135667613527:=()
def tw1648378694795450788:=()
def tw16220546744705514097:=()
def tw10416891187366178915:=()
def tw10420104634763368743:=()
def tw14131490666653086870:=()
def tw2681810914394433804:=()
def tw5982696704383812562:=()
def tw14440264548001404370:=()
def tw5357327225482340114:=()
def tw16544963325761724315:=()
def tw3368696485107866187:=()
def tw2658546547110988550:=()
def tw10620053777845299100:=()
def tw3003088138028897875:=()
def tw13549059164628610448:=()
def tw8170015300953676467:=()
def tw1527225356736851029:=()
def tw14619930194182872393:=()
def tw3713754995700121985:=()
def tw11375124355362168968:=()
def tw9964295249255656610:=()
def tw6274101979231268107:=()
def tw13647183218764235624:=()
def tw17103133341344593962:=()
def tw12338472810256296240:=()
def tw8863028031161662102:=()
def tw9542562236585216004:=()
def tw7589161600525492987:=()
def tw1164124714996870351:=()
def tw3577670984409047538:=()
def tw5264274537570414117:=()
def tw4483770003929776:=()
def tw7115011564816941793:=()
def tw10605380564290982987:=()
def tw7750660777427477645:=()
def tw3885392374133568163:=()
def tw6838931503841085195:=()
def tw13093522198416362772:=()
def tw270802758760849449:=()
def tw16100143509428939635:=()
def tw16415490350898551626:=()
def tw3518751884774032600:=()
def tw6602743274568342169:=()
def tw8481921927717645468:=()
def tw7249010279788487324:=()
def tw5089340959386866514:=()
def tw2966026100393944327:=()
def tw11685501223400443818:=()
def tw10736843897805925042:=()
def tw4647830102686398214:=()
def tw1087517127144078128:=()
def tw4015415297538269709:=()
def tw1078647581240125292:=()
def tw6190048001884850778:=()
def tw3683467083702310645:=()
def tw12551480768781950951:=()
def tw17286602683196370933:=()
def tw6859975308047590303:=()
def tw13608541915053630612:=()
def tw6189886731732257621:=()
def tw2365654133794059954:=()
def tw16585262825928583573:=()
def tw11605648610881987856:=()
def tw4556431537689421819:=()
def tw5005090979381934282:=()
def tw373328899341328180:=()
def tw12834969572724216743:=()
def tw13144649334833138460:=()
def tw15840562857032385890:=()
def tw9985186015202414276:=()
def tw16711999680610130227:=()
def tw4367623226952173421:=()
def tw126764754506795329:=()
def tw5244887876392814724:=()
def tw8894984758297439431:=()
def tw18387992179255252730:=()
def tw9340339932339237353:=()
def tw10524298874468535469:=()
def tw13038738182506325888:=()
def tw4476482436466365656:=()
def tw13050787466568073148:=()
def tw14349232798489945673:=()
def tw13234857476439598515:=()
def tw6404236586354812818:=()
def tw13408839694463588532:=()
def tw18090498529133741904:=()
def tw7076815946115835283:=()
def tw432482069619153727:=()
def tw1975760328734833579:=()
def tw7971258863141231099:=()
def tw14179957452672191817:=()
def tw17512761883025054380:=()
def tw12243263735854191769:=()
def tw8408018484959853098:=()
def tw10640081507279863364:=()
def tw7046282358406124731:=()
def tw16663958558472215376:=()
def tw14474025024294537458:=()
def tw3930509848797563441:=()
def tw2436016381031163804:=()
def tw7946044748619284028:=()
def tw5125575668270443039:=()
def tw3611823864309402290:=()
def tw2330545686801168543:=()
def tw1706786694683122005:=()
def tw11885307547716001766:=()
def tw712730788627373443:=()
def tw3560568473764950635:=()
def tw8197473746482541970:=()
def tw10327865733489659474:=()
def tw2421551174536838956:=()
def tw14138340550161437683:=()
def tw17453619115324281107:=()
def tw7729550867161828561:=()
def tw13662077227360682503:=()
def tw7583324091256651437:=()
def tw14066763804860021691:=()
def tw15259435803553485539:=()
def tw2223278758894040996:=()
def tw16701715430167944330:=()
def tw5462715975925712538:=()
def tw1610666200306102284:=()
def tw7659481913753084961:=()
def tw7664586788691719305:=()
def tw7463732128698819616:=()
def tw18026827749954116588:=()
def tw6643612842781605511:=()
def tw5021851076755745404:=()
def tw1719802540099557400:=()
def tw17366418682133801810:=()
def tw773324915245371607:=()
def tw13681647109107501874:=()
def tw1457146543349511107:=()
def tw11932809497633808219:=()
def tw10718228540639765210:=()
def tw15630292915380374956:=()
def tw14789353602924410890:=()
def tw11652538438080593593:=()
def tw6527735265535218858:=()
def tw5406134691553852113:=()
def tw16934365797349184003:=()
def tw14943270227462502107:=()
def tw3460242822972866706:=()
def tw17465166817673452427:=()
def tw5425615571124468487:=()
def tw7094334092918887397:=()
def tw3094571073663914225:=()
def tw11914353538923980531:=()
def tw12712070324809058969:=()
def tw6303962243146125894:=()
def tw15329886832755245111:=()
def tw8938851555230762203:=()
def tw7637496339392826910:=()
def tw15739477104336512826:=()
def tw17038989823334287391:=()
def tw7568044302258380151:=()
def tw7832088573836140447:=()
def tw7321129607886016046:=()
def tw1727293312748736289:=()
def tw16574770801406287022:=()
def tw5816273625216958535:=()
def tw13196374915979346512:=()
def tw11799424431856591016:=()
def tw6451430785746872620:=()
def tw7822234537229147196:=()
def tw18155627422526492358:=()
def tw3802273630361449868:=()
def tw12177352523421906676:=()
def tw17833597869707194091:=()
def tw4480837296075949530:=()
def tw4956330096146061563:=()
def tw4600908711402505025:=()
def tw6748809607316601663:=()
def tw9805664507900269191:=()
def tw4866572531366369747:=()
def tw16622542398191722775:=()
def tw16220901134389711959:=()
def tw12672657290232498336:=()
def tw17836126409306742849:=()
def tw14010425032931608887:=()
def tw13610757002667515838:=()
def tw5566912222865904611:=()
def tw11899648602851874775:=()
def tw16747311166368380777:=()
def tw2344649990359853826:=()
def tw11095570136867208194:=()
def tw11115304350849411981:=()
def tw3453128165919748828:=()
def tw16174307425655247435:=()
def tw4190587751405598834:=()
def tw10573561661192897388:=()
def tw15332141205369799125:=()
def tw17283882540567235876:=()
def tw7511549402414254527:=()
def tw17960432436850661861:=()
def tw15128345751028297330:=()
def tw1048120370739138343:=()
def tw9854295929017695898:=()
def tw9348732751599743281:=()
def tw8129360762667156263:=()
def tw13570146020736245018:=()
def tw8519431798189055943:=()
def tw14396931894222635116:=()
def tw6116631163525020365:=()
def tw11838245440046718508:=()
def tw17829498777298316194:=()
def tw5190080483259078094:=()
def tw2388183310256205222:=()
def tw6555912024467986922:=()
def tw6084968695163956922:=()
def tw9134912928284260892:=()
def tw5982075832534743851:=()
def tw2118161396878584947:=()
def tw16899231686238580201:=()
def tw13486447139250603782:=()
def tw6363112548143126849:=()
def tw6752390450783890242:=()
def tw8331800660301314950:=()
def tw14857988398710073367:=()
def tw179850683886033320:=()
def tw9001788705852385371:=()
def tw15928471753349861393:=()
def tw11709656095756401554:=()
def tw1669820156154750296:=()
def tw18362364831045043887:=()
def tw11161535309590591416:=()
def tw10574480890584539812:=()
def tw9966057490585515182:=()
def tw16333787534790811496:=()
def tw4880823754528010771:=()
def tw16831305505213939559:=()
def tw10481615390081500717:=()
def tw15465426603403501885:=()
def tw11958558888426016213:=()
def tw7609019745834273164:=()
def tw5844669660290206809:=()
def tw15128358416696709837:=()
def tw4488428933854012859:=()
def tw15604407488446048357:=()
def tw1749668650200849558:=()
def tw15557668602511296695:=()
def tw4149208223039551549:=()
def tw16002680685060565680:=()
def tw16782220069157271173:=()
def tw13692441780476863722:=()
def tw1856748889136111953:=()
def tw3810764456985028198:=()
def tw17817658364280588536:=()
def tw17173780057306361800:=()
def tw15224457476391514397:=()
def tw6126465920092824054:=()
def tw11999062513628690342:=()
def tw12168688241126499030:=()
def tw3456751583659295753:=()
def tw11457072775213079536:=()
def tw14857272097847316161:=()
def tw4232015142757539007:=()
def tw17554717042993065210:=()
def tw210237651787089930:=()
def tw1454030483735404783:=()
def tw2098610606745823551:=()
def tw10401420713093468895:=()
def tw1909246337593411413:=()
def tw8109949122503370837:=()
def tw3943083953760950543:=()
def tw14033371789647146578:=()
def tw14387744156670518359:=()
def tw1250191250893795524:=()
theorem te17732243523494507655:True:=trivial
end PySem.W.Fast
open PySem PySem.W PyProof.Rows
set_option maxRecDepth 100000 in
set_option maxHeartbeats 0 in
theorem PySem.Challenge.cw_helmsum_k81_closed_holds : PySem.Challenge.rw_helmsum_k81_closed.Holds := by
 w_on;o_law;k_head;(case hw=>w_witness2)
 k_fill
 refine Lw.walk (l:=PySem.Challenge.rw_helmsum_k81_closed) rfl rfl (λw h Y=>PySem.W.kIn_of Y) ?F
 case F =>
  intro w mg fa h KX G hmg;refine' Lw.all_mk KX G hmg ?aC ?a0 ?l0 ?c0 ?k0 ?a1 ?l1 ?c1 ?k1 ?a2 ?l2 ?c2 ?k2 ?a3 ?l3 ?c3 ?k3 ?a4 ?l4 ?c4 ?k4 ?a5 ?l5 ?c5 ?k5 ?a6 ?l6 ?c6 ?k6 ?a7 ?l7 ?c7 ?k7 ?a8 ?l8 ?c8 ?k8 ?a9 ?l9 ?c9 ?k9 ?a10 ?l10 ?c10 ?k10 ?a11 ?l11 ?c11 ?k11 ?a12 ?l12 ?c12 ?k12 ?a13 ?l13 ?c13 ?k13 ?a14 ?l14 ?c14 ?k14 ?a15 ?l15 ?c15 ?k15 ?a16 ?l16 ?c16 ?k16 ?a17 ?l17 ?c17 ?k17 ?a18 ?l18 ?c18 ?k18 ?a19 ?i19 ?l19 ?c19 ?k19 ?a20 ?l20 ?c20 ?k20 ?a21 ?l21 ?c21 ?k21 ?a22 ?l22 ?c22 ?k22 ?a23 ?l23 ?c23 ?k23 ?a24 ?l24 ?c24 ?k24 ?a25 ?l25 ?c25 ?k25 ?a26 ?l26 ?c26 ?k26 ?a27 ?l27 ?c27 ?k27 ?a28 ?l28 ?c28 ?k28 ?a29 ?l29 ?c29 ?k29 ?a30 ?l30 ?c30 ?k30 ?a31 ?l31 ?c31 ?k31 ?a32 ?l32 ?c32 ?k32 ?a33 ?l33 ?c33 ?k33 ?a34 ?l34 ?c34 ?k34 ?a35 ?l35 ?c35 ?k35 ?a36 ?l36 ?c36 ?k36 ?a37 ?l37 ?c37 ?k37 ?a38 ?i38 ?l38 ?c38 ?k38 ?a39 ?i39 ?l39 ?c39 ?k39 ?a40 ?l40 ?c40 ?k40 ?a41 ?l41 ?c41 ?k41 ?a42 ?l42 ?c42 ?k42 ?a43 ?l43 ?c43 ?k43 ?a44 ?l44 ?c44 ?k44 ?a45 ?l45 ?c45 ?k45 ?a46 ?l46 ?c46 ?k46 ?a47 ?l47 ?c47 ?k47 ?a48 ?l48 ?c48 ?k48 ?a49 ?l49 ?c49 ?k49 ?a50 ?l50 ?c50 ?k50 ?a51 ?l51 ?c51 ?k51 ?a52 ?l52 ?c52 ?k52 ?a53 ?l53 ?c53 ?k53 ?a54 ?l54 ?c54 ?k54 ?a55 ?l55 ?c55 ?k55 ?a56 ?l56 ?c56 ?k56 ?a57 ?l57 ?c57 ?k57 ?ca0 ?cl0 ?ca1 ?cl1 ?ci0 ?ci1 ?ci2 ?pg ?hd ?po ?sa ?mk ?kc ?n_move ?n_states ?n_put ?n_ins ?n_look ?n_outs ?ia ?ib ?ic ?id ?z_abs ?z_len ?z_min ?z_range ?z_int ?z_isinstance ?z_list ?z_bool ?z_tuple ?z_all ?z_enumerate ?z_zip ?z_sum
  all_goals try k_is