import PyProof.Rows.All
import Wide.All
import OpenK.AllK
import Wide.FinOn
import Lean
import PyProof.EqAt
import PyProof.EqKinds
import PyProof.TupleCall
import PyProof.NeKinds
import PySem.Challenge.RW_helmsum_k56_whole_turned
set_option Elab.async false
set_option linter.all false
set_option maxRecDepth 100000
abbrev a0a:=@List.getD_eq_getElem?_getD
abbrev a0c:=@List.getElem?_eq_getElem
abbrev a0d:=@Nat.le_trans
abbrev a0e:=@List.length_map
abbrev a0f:=@Nat.pow_le_pow_right
abbrev a0h:=@Nat.le_refl
abbrev a0i:=@List.length_append
abbrev a0j:=@List.mem_of_getElem?
abbrev a0n:=@Nat.mul_le_mul_right
abbrev a0o:=@List.length_replicate
abbrev a0r:=@List.take_of_length_le
abbrev a0s:=@List.getElem?_eq_some_iff
abbrev a0t:=@List.mem_map
abbrev a0u:=@List.mem_cons
abbrev a0v:=@Rat.intCast_natCast
abbrev a0w:=@List.mem_append
abbrev a0x:=@List.getElem?_map
abbrev a0z:=@List.getElem_mem
abbrev a1a:=@List.size_toArray
abbrev a1b:=@Rat.intCast_mul
abbrev a1d:=@List.getElem?_eq_none
abbrev a1e:=@List.getElem?_append_right
abbrev a1f:=@Nat.zero_le
abbrev a1g:=@Bool.false_ne_true
abbrev a1j:=@Nat.le_of_lt
abbrev a1k:=@List.not_mem_nil
abbrev a1m:=@Nat.lt_of_le_of_lt
abbrev a1n:=@List.length_cons
abbrev a1p:=@List.getElem?_append_left
abbrev a1q:=@List.length_singleton
abbrev a1u:=@Nat.lt_of_lt_of_le
abbrev a1v:=@PySem.boot_len
abbrev a2a:=@Nat.mul_le_mul
abbrev a2c:=@List.getElem_of_mem
abbrev a2e:=@List.mem_append_right
abbrev a2i:=@List.length_zipWith
abbrev a2j:=@List.mem_cons_of_mem
abbrev a2m:=@Int.natAbs_natCast
abbrev a2q:=@Nat.ne_of_lt
abbrev a2r:=@Nat.one_le_two_pow
abbrev a2v:=@Option.some.inj
abbrev a2x:=@Nat.lt_or_ge
abbrev a2y:=@List.mem_or_eq_of_mem_set
abbrev a3d:=@Nat.mul_comm
abbrev a3f:=@Int.fdiv_eq_ediv_of_nonneg
abbrev a3g:=@List.append_assoc
abbrev a3h:=@List.getElem?_replicate
abbrev a3k:=@List.mem_of_mem_take
abbrev a3m:=@List.mem_replicate
abbrev a3q:=@Rat.intCast_neg
abbrev a3r:=@List.nil_append
abbrev a3s:=@List.length_range
abbrev a3t:=@Int.natAbs_mul
abbrev a3x:=@Nat.mul_le_mul_left
abbrev a3y:=@List.map_append
abbrev a3z:=@List.getElem?_zipWith
abbrev a4d:=@Nat.succ_mul
abbrev a4e:=@List.mem_cons_self
abbrev a4g:=@PySem.W.kia_one
abbrev a4h:=@List.length_take
abbrev a4i:=@List.ext_getElem
abbrev a4k:=@Nat.pow_add
abbrev a4l:=@Rat.mul_comm
abbrev a4m:=@Rat.intCast_inj
abbrev a4n:=@PySem.F.plainAttrs_list
abbrev a4o:=@Nat.le_mul_of_pos_right
abbrev a4p:=@List.mem_singleton
abbrev a4q:=@List.length_set
abbrev a4r:=@Int.mul_assoc
abbrev a4s:=@Nat.pow_lt_pow_right
abbrev a4w:=@Nat.succ_le_succ
abbrev a4x:=@Bool.and_eq_true
abbrev a5f:=@Nat.lt_irrefl
abbrev a5g:=@List.drop_eq_getElem_cons
abbrev a5m:=@Rat.natCast_mul
abbrev a5n:=@List.nodup_cons
abbrev a5r:=@List.getElem_map
abbrev a5s:=@List.cons_append
abbrev a5t:=@Int.gcd_dvd_left
abbrev a6b:=@Rat.mul_zero
abbrev a6c:=@Int.gcd_dvd_right
abbrev a6h:=@Nat.not_lt_zero
abbrev a6i:=@List.getElem?_range
abbrev a6m:=@Nat.le_mul_of_pos_left
abbrev a6w:=@Nat.sub_self
abbrev a6x:=@Nat.mul_assoc
abbrev a6y:=@List.map_cons
abbrev a6z:=@Int.natAbs_dvd_natAbs
abbrev a7a:=@Int.mul_comm
abbrev a7b:=@Bool.beq_eq_decide_eq
abbrev a7k:=@Nat.mul_pos
abbrev a8f:=@PySem.F.type_list_append
abbrev a8g:=@PySem.F.slot_list_append
abbrev a8h:=@Nat.lt_trichotomy
abbrev a8i:=@List.flatten_cons
abbrev a9l:=@List.flatten_append
abbrev a9m:=@Int.eq_ofNat_of_zero_le
abbrev a9n:=@Nat.lt_succ_self
abbrev b0h:=@Int.emod_lt_of_pos
abbrev b0i:=@Bool.false_eq_true
abbrev b1p:=@Rat.zero_mul
abbrev b1q:=@Nat.pow_succ
abbrev b2a:=@List.nodup_append
abbrev b2f:=@List.getElem_zipWith
abbrev b4c:=@PySem.F.plain_extend_loop
abbrev b4d:=@Int.natAbs_neg
abbrev b4p:=@PySem.IsL.update
abbrev b4q:=@List.lookup_cons
abbrev b4r:=@PySem.mem_of_lookup
abbrev b4s:=@List.replicate_succ
abbrev b4t:=@List.length_reverse
abbrev b4u:=@Int.gcd_comm
abbrev b6h:=@Rat.mul_eq_zero
abbrev b6i:=@Nat.min_eq_left
abbrev b6j:=@Nat.eq_zero_or_pos
abbrev b6k:=@List.getElem_range
abbrev b6l:=@Int.emod_nonneg
abbrev b6m:=@Int.dvd_mul_of_dvd_left
abbrev b6n:=@Bool.eq_iff_iff
abbrev b9i:=@List.mem_range
abbrev b9k:=@Rat.add_zero
abbrev b9l:=@PySem.F.slot_zip_next
abbrev b9m:=@Nat.add_comm
abbrev b9n:=@List.map_map
abbrev c1x:=@List.all_eq_true
abbrev c1z:=@List.mem_append_left
abbrev c2u:=@Nat.le_of_dvd
abbrev c3s:=@Nat.pow_le_pow_left
abbrev c3t:=@Nat.le_succ
abbrev c3u:=@List.range_succ
abbrev c3v:=@List.mem_filter
abbrev c3w:=@List.map_congr_left
abbrev c3x:=@List.append_nil
abbrev c3y:=@Int.mul_pos
abbrev c6e:=@Int.eq_of_mul_eq_mul_right
abbrev c8z:=@List.reverse_cons
abbrev c9a:=@List.getElem?_take_of_lt
abbrev d0y:=@Rat.intCast_eq_zero_iff
abbrev d0z:=@List.map_id
abbrev d1a:=@Int.natCast_dvd_natCast
abbrev d1r:=@Nat.min_le_right
abbrev d1s:=@Nat.le_add_right
abbrev d1t:=@List.mem_reverse
abbrev d3c:=@PySem.W.cellsFrom_some
abbrev d5p:=@Rat.intCast_add
abbrev d5q:=@Nat.pow_dvd_pow
abbrev d5r:=@Nat.min_self
abbrev d5s:=@Nat.dvd_refl
abbrev d5t:=@List.length_zip
abbrev d5u:=@Int.zero_add
abbrev d8i:=@List.replicate_succ'
abbrev e0k:=@List.forIn_nil
abbrev e2m:=@PySem.W.plainGet_of
abbrev e2n:=@Nat.pow_mul
abbrev e2o:=@List.filterMap_cons
abbrev e4h:=@PySem.W.callWith_K
abbrev e4i:=@List.append_of_mem
abbrev e4j:=@Int.natAbs_eq
abbrev e8z:=@List.ext_getElem?
abbrev f1x:=@Rat.zero_add
abbrev f1y:=@Nat.ne_of_gt
abbrev f1z:=@List.map_nil
abbrev f3a:=@List.mem_flatten
abbrev f3b:=@List.length_drop
abbrev f6p:=@Int.gcd_pos_of_ne_zero_right
namespace L2
open PySem PySem.Spec PyProof.Rows
abbrev Key:=Sum Int Str
def f9n:Key->Value->Bool
 | .inl k,v=>Value.isInt k v
 | .inr x,v=>Value.isStrOf x v
def keyH (w:World):Key->Int
 | .inl k=>hashInt k
 | .inr x=>hashStr w x
theorem a6d:∀{k:Key} {v:Value},f9n k v=true->(∃i t,k=Sum.inl i∧v=Value.int i t)∨(∃x t,k=Sum.inr x∧v=Value.str x t)
 | .inl i,v,h=>by
  obtain ⟨t,e⟩:=Value.isInt_shape (k:=i) (v:=v) h
  exact .inl ⟨i,t,rfl,e⟩
 | .inr x,v,h=>by
  obtain ⟨t,e⟩:=Value.isStrOf_shape (x:=x) (v:=v) h
  exact .inr ⟨x,t,rfl,e⟩
theorem f9m (a b:Int):decide ((Sum.inl a:Key)=Sum.inl b)=(a == b):=by
 by_cases e:a=b
 ·subst e;simp
 ·have h:¬(Sum.inl a:Key)=Sum.inl b:=fun q=>e (Sum.inl.inj q)
  rw[decide_eq_false h]
  exact (beq_eq_false_iff_ne.mpr e).symm
theorem f9j (a b:Str):decide ((Sum.inr a:Key)=Sum.inr b)=decide (a=b):=by
 by_cases e:a=b
 ·subst e;simp
 ·have h:¬(Sum.inr a:Key)=Sum.inr b:=fun q=>e (Sum.inr.inj q)
  rw[decide_eq_false h,decide_eq_false e]
theorem f9l (a:Int) (b:Str):decide ((Sum.inl a:Key)=Sum.inr b)=false:=decide_eq_false (fun q=>nomatch q)
theorem f9k (a:Str) (b:Int):decide ((Sum.inr a:Key)=Sum.inl b)=false:=decide_eq_false (fun q=>nomatch q)
def e7i (prog:Program) (w:World):PySem.KeyKind prog w Key where
 is:=f9n
 hash:=keyH w
 inj:=fun v a b ha hb=>by
  rcases a6d ha with ⟨i,t,rfl,rfl⟩ | ⟨x,t,rfl,rfl⟩
  ·rcases a6d hb with ⟨j,u,rfl,e⟩ | ⟨y,u,rfl,e⟩
   ·injection e with e1 _;rw[e1]
   ·exact nomatch e
  ·rcases a6d hb with ⟨j,u,rfl,e⟩ | ⟨y,u,rfl,e⟩
   ·exact nomatch e
   ·injection e with e1 _;rw[e1]
 byValue:=fun k v h=>by
  rcases a6d h with ⟨i,t,rfl,rfl⟩ | ⟨x,t,rfl,rfl⟩ <;> rfl
 pyHash:=fun hv h=>by
  rcases a6d hv with ⟨i,t,rfl,rfl⟩ | ⟨x,t,rfl,rfl⟩
  ·exact wpAny_pyHash_int h
  ·exact wpAny_pyHash_str h
 eqBool:=fun hu hv h=>by
  rcases a6d hu with ⟨i,t,rfl,rfl⟩ | ⟨x,t,rfl,rfl⟩
  ·rcases a6d hv with ⟨j,u,rfl,rfl⟩ | ⟨y,u,rfl,rfl⟩
   ·rw[f9m] at h;exact wpAny_eqBool_int h
   ·rw[f9l] at h;exact SeqAt.EqAt.int_str i t y u _ _ _ _ h
  ·rcases a6d hv with ⟨j,u,rfl,rfl⟩ | ⟨y,u,rfl,rfl⟩
   ·rw[f9k] at h;exact SeqAt.EqAt.str_int x t j u _ _ _ _ h
   ·rw[f9j] at h;exact wpAny_eqBool_str h
 «strs»:=fun k x t v h=>by
  rcases a6d h with ⟨i,u,rfl,e⟩ | ⟨y,u,rfl,e⟩
  ·exact nomatch e
  ·injection e with e1 _
   subst e1
   cases v <;> rfl
end L2
namespace L2
open PySem PySem.Spec PyProof.Rows
inductive V where
  | non | bl (b : Bool) | int (i : Int) | str (x : Str) | byt (b : Array UInt8) | flt (b : UInt64) | ref (a : Addr) | ty (n : String)
  deriving DecidableEq

def RelV:V->Value->Prop
 | .non,u=>u=Value.none
 | .bl b,u=>u=Value.bool b
 | .int i,u=>∃t,u=Value.int i t
 | .str x,u=>∃t,u=Value.str x t
 | .byt b,u=>∃t,u=Value.bytes b t
 | .flt b,u=>∃t,u=Value.float b t
 | .ref a,u=>u=Value.ref a
 | .ty n,u=>u=Value.type n
abbrev a6a:List V->List Value->Prop:=Paired RelV
theorem a6a.length {xs:List V} {us:List Value} (r:a6a xs us):xs.length=us.length:=Paired.length r
theorem a6a.get:∀{xs:List V} {us:List Value} {i:Nat} {x:V},a6a xs us->xs[i]?=some x->∃u,us[i]?=some u∧RelV x u
 | _,_,_,_,.nil,e=>by simp at e
 | _,_,0,_,.cons r _,e=>by simp at e;subst e;exact ⟨_,rfl,r⟩
 | _,_,i+1,x,.cons _ t,e=>by
  obtain ⟨u,h1,h2⟩:=a6a.get (i:=i) (x:=x) t (by simpa using e)
  exact ⟨u,by simpa using h1,h2⟩
theorem a6a.set {x:V} {u:Value} (r:RelV x u):∀{xs:List V} {us:List Value} (i:Nat),a6a xs us->a6a (xs.set i x) (us.set i u)
 | _,_,_,.nil=>.nil
 | _,_,0,.cons _ t=>.cons r t
 | _,_,i+1,.cons q t=>.cons q (a6a.set r i t)
theorem a6a.append:∀{xs ys:List V} {us ws:List Value},a6a xs us->a6a ys ws->a6a (xs++ys) (us++ws)
 | _,_,_,_,.nil,s=>s
 | _,_,_,_,.cons r t,s=>.cons r (a6a.append t s)
theorem a6a.take:∀{xs:List V} {us:List Value} (n:Nat),a6a xs us->a6a (xs.take n) (us.take n)
 | _,_,0,_=>.nil
 | _,_,_+1,.nil=>.nil
 | _,_,n+1,.cons r t=>.cons r (a6a.take n t)
theorem a6a.drop:∀{xs:List V} {us:List Value} (n:Nat),a6a xs us->a6a (xs.drop n) (us.drop n)
 | _,_,0,r=>r
 | _,_,_+1,.nil=>.nil
 | _,_,n+1,.cons _ t=>a6a.drop n t
def e8y:Option V->Option Value->Prop
 | some v,some u=>RelV v u
 | none,none=>True
 | _,_=>False
def KV {κ:Type}:List (κ×V)->List (κ×Value)->Prop:=Paired fun (p:κ×V) (q:κ×Value)=>p.1=q.1∧RelV p.2 q.2
def kV:Key->V
 | .inl i=>.int i
 | .inr x=>.str x
inductive HO where
 | lst (xs:List V)
 | tup (xs:List V)
 | dK (kvs:List (Key×V)) | dT (kvs:List (List Key×V))
 | set (S:Int->Bool) (n:Nat)
 | ins (C dx:Addr) (fs:List (Str×V))
 | own (x:Addr)
 | xd (fs:List (Str×V))
 | met (f x:Addr)
 | rng (lo hi:Int)
 | frz (o:Obj) (u:HO)
 | tbl (ps:Array Value)
 | ext (φ:Heap->Prop)
abbrev Hp:=Addr->Option HO
def upd (H:Hp) (a:Addr) (o:HO):Hp:=fun b=>if b=a then some o else H b
theorem a0y {H:Hp} {a:Addr} {o:HO}:upd H a o a=some o:=by unfold upd;rw[if_pos rfl]
theorem a2d {H:Hp} {a b:Addr} {o:HO} (h:b≠a):upd H a o b=H b:=by unfold upd;rw[if_neg h]
theorem a6p {H:Hp} {a b:Addr} {o:HO} (h:H a=some o) (h':H b=none):a≠b:=by
 intro e;subst e;rw[h] at h';cases h'
section
variable (P:Program) (w:World)
def b7h (H:Hp) (h:Heap) (a:Addr):HO->Prop
 | .lst xs=>xs.length<=sizeLine∧∃(its:List Value) (n:Nat),a6a xs its∧h.get? a=some { cls:=.type "list",data:=.seq its.toArray n }
 | .tup xs=>xs.length<=sizeLine∧∃its:List Value,a6a xs its∧IsTup h a its.toArray
 | .dK kvs=>kvs.length<=sizeLine∧(a == sysModules)=false∧∃vs,KV kvs vs∧h.DictOf (e7i P w) a vs
 | .dT kvs=>kvs.length<=sizeLine∧(a == sysModules)=false∧∃xs:List (List Key×Addr×Value),
   Paired (fun (p:List Key×V) (q:List Key×Addr×Value)=>p.1=q.1∧H q.2.1=some (.tup (p.1.map kV))∧RelV p.2 q.2.2) kvs xs ∧
   ∃o es ep,h.get? a=some o∧o.ExactDict∧o.data=.dict es ep∧es.toList=xs.map (entryOfKey (tupleKind (e7i P w)))∧(xs.map (·.1)).Nodup
 | .set S n=>h.SetOf (intKind P w) a S n
 | .ins C dx fs=>H dx=some (.own a)∧fs.length<=1000∧dx≠a∧h.get? a=some (PySem.W.instObj C dx) ∧
   ∃mA,h.Ns1 dx mA∧(∀f,e8y (fs.lookup f) (mA f))∧PySem.Within mA (fs.map (·.1))
 | .own _=>∃o,h.get? a=some o
 | .xd fs=>∃mA,h.Ns1 a mA∧∀f,e8y (fs.lookup f) (mA f)
 | .rng lo hi=>∃t u v,h.get? a=some { cls:=.type "range",data:=.fields #[.int lo t,.int hi u,.int 1 v] }
 | .frz o u=>h.get? a=some o∧b7h H h a u
 | .tbl ps=>h.get? a=some { cls:=.none,data:=.fields ps }
 | .met f x=>h.get? a=some (PySem.W.methodObj (.ref f) (.ref x))
 | .ext φ=>φ h∧(∃o,h.get? a=some o)∧∀h1 h2:Heap,φ h1->(∀o,h1.get? a=some o->h2.get? a=some o)->φ h2
def HOk (H:Hp) (h:Heap):Prop:=∀a o,H a=some o->b7h P w H h a o
end
section
variable {P:Program} {w:World} {H H':Hp} {h h':Heap} {a:Addr} {o:HO}
theorem b7h.lt (x:b7h P w H h a o):a < h.objs.size:=by
 cases o with
 | lst xs=>obtain ⟨_,_,_,_,e⟩:=x;exact Heap.lt_size e
 | tup xs=>obtain ⟨_,_,_,p⟩:=x;exact p.lt
 | dK kvs=>obtain ⟨_,_,_,_,o,_,_,e,_⟩:=x;exact Heap.lt_size e
 | dT kvs=>obtain ⟨_,_,_,_,o,_,_,e,_⟩:=x;exact Heap.lt_size e
 | set S n=>obtain ⟨o,_,_,_,e,_⟩:=x;exact Heap.lt_size e
 | ins C dx fs=>obtain ⟨_,_,_,e,_⟩:=x;exact Heap.lt_size e
 | own y=>obtain ⟨_,e⟩:=x;exact Heap.lt_size e
 | xd fs=>obtain ⟨_,⟨_,_,_,e,_⟩,_⟩:=x;exact Heap.lt_size e
 | rng lo hi=>obtain ⟨_,_,_,e⟩:=x;exact Heap.lt_size e
 | frz ob u=>obtain ⟨e,_⟩:=x;exact Heap.lt_size e
 | tbl ps=>exact Heap.lt_size (show h.get? a=some _ from x)
 | met f y=>exact Heap.lt_size (show h.get? a=some _ from x)
 | ext φ=>obtain ⟨_,⟨_,e⟩,_⟩:=x;exact Heap.lt_size e
theorem Paired.mapP {α β:Type} {F G:α->β->Prop}:∀{l₁:List α} {l₂:List β},Paired F l₁ l₂->(∀a b,F a b->G a b)->Paired G l₁ l₂
 | _,_,.nil,_=>.nil
 | _,_,.cons r t,f=>.cons (f _ _ r) (Paired.mapP t f)
theorem Paired.imp' {α β:Type} {F G:α->β->Prop} (f:∀a b,F a b->G a b) {l₁:List α} {l₂:List β} (r:Paired F l₁ l₂):Paired G l₁ l₂:=Paired.mapP r f
theorem b7h.stay (x:b7h P w H h a o) (k:∀b u,(b=a∨H b=some (.own a))->h.get? b=some u->h'.get? b=some u)
  (ho:∀b,H b=some (.own a)->H' b=some (.own a)) (ht:∀b xs,H b=some (.tup xs)->H' b=some (.tup xs)):b7h P w H' h' a o:=by
 induction o with
 | lst xs=>obtain ⟨z,its,n,r,e⟩:=x;exact ⟨z,its,n,r,k _ _ (.inl rfl) e⟩
 | tup xs=>obtain ⟨z,its,r,ob,e,c⟩:=x;exact ⟨z,its,r,ob,k _ _ (.inl rfl) e,c⟩
 | dK kvs=>obtain ⟨z,y,vs,r,ob,es,ep,e,c⟩:=x;exact ⟨z,y,vs,r,ob,es,ep,k _ _ (.inl rfl) e,c⟩
 | dT kvs =>
  obtain ⟨z,y,xs,r,ob,es,ep,e,c⟩:=x
  exact ⟨z,y,xs,Paired.mapP r fun p q z=>⟨z.1,ht _ _ z.2.1,z.2.2⟩,ob,es,ep,k _ _ (.inl rfl) e,c⟩
 | set S n=>obtain ⟨ob,es,ep,t,e,c⟩:=x;exact ⟨ob,es,ep,t,k _ _ (.inl rfl) e,c⟩
 | ins C dx fs =>
  obtain ⟨d,z,ne,e,mA,⟨od,es,ep,e2,c⟩,r⟩:=x
  exact ⟨ho _ d,z,ne,k _ _ (.inl rfl) e,mA,⟨od,es,ep,k _ _ (.inr d) e2,c⟩,r⟩
 | own y=>obtain ⟨ob,e⟩:=x;exact ⟨ob,k _ _ (.inl rfl) e⟩
 | xd fs=>obtain ⟨mA,⟨od,es,ep,e,c⟩,r⟩:=x;exact ⟨mA,⟨od,es,ep,k _ _ (.inl rfl) e,c⟩,r⟩
 | rng lo hi=>obtain ⟨t,u,v,e⟩:=x;exact ⟨t,u,v,k _ _ (.inl rfl) e⟩
 | frz ob u ih=>obtain ⟨e,q⟩:=x;exact ⟨k _ _ (.inl rfl) e,ih q⟩
 | tbl ps =>
  have e:h.get? a=some { cls:=.none,data:=.fields ps }:=x
  show h'.get? a=some { cls:=.none,data:=.fields ps }
  exact k a _ (.inl rfl) e
 | met f y =>
  have e:h.get? a=some (PySem.W.methodObj (.ref f) (.ref y)):=x
  show h'.get? a=some (PySem.W.methodObj (.ref f) (.ref y))
  exact k a _ (.inl rfl) e
 | ext φ=>obtain ⟨p,⟨o,e⟩,st⟩:=x;exact ⟨st _ _ p fun o q=>k _ _ (.inl rfl) q,⟨o,k _ _ (.inl rfl) e⟩,st⟩
theorem HOk.lt (x:HOk P w H h) (e:H a=some o):a < h.objs.size:=(x a o e).lt
theorem HOk.fresh (x:HOk P w H h) (e:h.objs.size<=a):H a=none:=by
 cases q:H a with
 | none=>rfl
 | some u=>exact absurd (a1u (x.lt q) e) (a5f _)
theorem HOk.kept (x:HOk P w H h) (k:∀b u,h.get? b=some u->h'.get? b=some u):HOk P w H h':=fun a o e =>
 (x a o e).stay (fun b u _ q=>k b u q) (fun _ q=>q) fun _ _ q=>q
theorem HOk.laid (x:HOk P w H h) (k:∀b u,h.get? b=some u->h'.get? b=some u) (hp:h.objs.size<=a) (new:b7h P w (upd H a o) h' a o):HOk P w (upd H a o) h':=fun b u e=>by
 have hn:=x.fresh hp
 by_cases hb:b=a
 ·subst hb;rw[a0y] at e;cases e;exact new
 ·rw[a2d hb] at e
  exact (x b u e).stay (fun c v _ q=>k c v q) (fun c q=>by rw[a2d (a6p q hn)];exact q) fun c xs q=>by rw[a2d (a6p q hn)];exact q
end
def Rd (H:Hp) (a:Addr) (u:HO):Prop:=H a=some u∨∃o,H a=some (.frz o u)
theorem Rd.ok {P:Program} {w:World} {H:Hp} {h:Heap} {a:Addr} {u:HO} (r:Rd H a u) (x:HOk P w H h):b7h P w H h a u:=by
 rcases r with r | ⟨o,r⟩
 ·exact x a u r
 ·obtain ⟨_,q⟩:=x a _ r
  exact q
def Mut:Option HO->Prop
 | some (.lst _)=>True
 | some (.dK _)=>True
 | some (.dT _)=>True
 | some (.set _ _)=>True
 | some (.ins _ _ _)=>True
 | some (.ext _)=>True
 | _=>False
section
variable {P:Program} {w:World} {H:Hp} {h h':Heap} {x e:Addr} {o':HO}
theorem HOk.write (ok:HOk P w H h) (mu:Mut (H x)) (he:e=x∨H e=some (.own x)) (k:∀b u,b≠e->h.get? b=some u->h'.get? b=some u) (heo:∃u,h'.get? e=some u)
  (new:b7h P w (upd H x o') h' x o'):HOk P w (upd H x o') h':=fun b u q=>by
 have nown:∀c y,H c=some (.own y)->c≠x:=fun c y r z=>by subst z;rw[r] at mu;exact mu
 have ntup:∀c xs,H c=some (.tup xs)->c≠x:=fun c xs r z=>by subst z;rw[r] at mu;exact mu
 by_cases hb:b=x
 ·subst hb;rw[a0y] at q;cases q;exact new
 ·rw[a2d hb] at q
  by_cases hbe:b=e
  ·have q':H b=some (.own x):=by
    rcases he with z | z
    ·exact absurd (hbe.trans z) hb
    ·rw[hbe];exact z
   rw[q] at q';cases q'
   obtain ⟨v,hv⟩:=heo
   exact ⟨v,by rw[hbe];exact hv⟩
  ·refine (ok b u q).stay (fun c v hc r=>k c v ?_ r) (fun c r=>by rw[a2d (nown c b r)];exact r) fun c xs r=>by rw[a2d (ntup c xs r)];exact r
   rcases hc with rfl | hc
   ·exact hbe
   ·rintro rfl
    rcases he with z | z
    ·exact nown c b hc z
    ·rw[hc] at z;cases z;exact hb rfl
end
structure Un (fs ex:List Addr) (H H':Hp) (h h':Heap):Prop where
 keep:∀b o,h.get? b=some o->H b=none->b∉fs->b∉ex->h'.get? b=some o
 slot:∀b o,h.get? b=some o->H b=none->b∈fs->b∉ex->∃sl,h'.get? b=some { o with slots:=sl }
 free:∀b o,h.get? b=some o->H b=none->b∉ex->H' b=none
 there:∀b o,h.get? b=some o->b∉ex->∃o',h'.get? b=some o'
 tups:∀b xs,H b=some (.tup xs)->H' b=some (.tup xs)
 frzs:∀b o u,H b=some (.frz o u)->H' b=some (.frz o u)
 tbls:∀b ps,H b=some (.tbl ps)->∃more,H' b=some (.tbl (ps++more))
section
variable {fs fs' ex ex':List Addr} {H H1 H2:Hp} {h h1 h2 h':Heap} {a x e:Addr} {o:HO}
theorem Un.any (u:Un fs ex H H1 h h1) {b:Addr} {ob:Obj} (q:h.get? b=some ob) (n:H b=none) (hx:b∉ex):∃sl,h1.get? b=some { ob with slots:=sl }:=by
 by_cases hb:b∈fs
 ·exact u.slot b ob q n hb hx
 ·exact ⟨ob.slots,u.keep b ob q n hb hx⟩
theorem Un.kept (k:∀b u,h.get? b=some u->h'.get? b=some u):Un fs ex H H h h' :=
 ⟨fun b ob q _ _ _=>k b ob q,fun b ob q _ _ _=>⟨ob.slots,k b ob q⟩,fun _ _ _ n _=>n,fun b ob q _=>⟨ob,k b ob q⟩,fun _ _ q=>q,fun _ _ _ q=>q,fun _ ps q=>⟨#[],by rw[q];simp⟩⟩
theorem Un.refl:Un fs ex H H h h:=Un.kept fun _ _ q=>q
theorem Un.laid (k:∀b u,h.get? b=some u->h'.get? b=some u) (hp:h.objs.size<=a) (hn:H a=none):Un fs ex H (upd H a o) h h' where
 keep:=fun b u q _ _ _=>k b u q
 slot:=fun b u q _ _ _=>⟨u.slots,k b u q⟩
 free:=fun b u q n _=>by rw[a2d (a2q (a1u (Heap.lt_size q) hp))];exact n
 there:=fun b u q _=>⟨u,k b u q⟩
 tups:=fun b xs q=>by rw[a2d (a6p q hn)];exact q
 frzs:=fun b u xs q=>by rw[a2d (a6p q hn)];exact q
 tbls:=fun b ps q=>⟨#[],by rw[a2d (a6p q hn),q];simp⟩
theorem Un.write (mu:Mut (H x)) (he:e=x∨H e=some (.own x)) (k:∀b u,b≠e->h.get? b=some u->h'.get? b=some u) (heo:∃u,h'.get? e=some u):Un fs ex H (upd H x o) h h':=by
 have hx:∀b,H b=none->b≠x:=fun b n z=>by subst z;rw[n] at mu;exact mu
 have hb:∀b,H b=none->b≠e:=fun b n z=>by
  subst z
  rcases he with r | r
  ·exact hx b n r
  ·rw[n] at r;cases r
 have hm:∀b u,H b=some u->¬Mut (some u)->b≠x:=fun b u q nm z=>by subst z;rw[q] at mu;exact nm mu
 refine ⟨fun b u q n _ _=>k b u (hb b n) q,fun b u q n _ _=>⟨u.slots,k b u (hb b n) q⟩,fun b u q n _=>by rw[a2d (hx b n)];exact n,fun b u q _=>?_,
  fun b xs q=>by rw[a2d (hm b _ q fun z=>z)];exact q,fun b u xs q=>by rw[a2d (hm b _ q fun z=>z)];exact q,fun b ps q=>⟨#[],by rw[a2d (hm b _ q fun z=>z),q];simp⟩⟩
 by_cases hbe:b=e
 ·subst hbe;exact heo
 ·exact ⟨u,k b u hbe q⟩
end
def trk (h:Heap) (H:Hp):List Addr:=(List.range h.objs.size).filter fun a=>(H a).isSome
def f1c (h:Heap) (H:Hp):Heap:=PySem.W.hideAll h (trk h H)
theorem e7t (h:Heap) (H:Hp):(f1c h H).objs.size=h.objs.size:=PySem.W.hideAll_size _ _
theorem f1b {h:Heap} {H:Hp} {b:Addr} {o:Obj} (e:h.get? b=some o) (n:H b=none):(f1c h H).get? b=some o :=
 PySem.W.hideAll_get _ e fun hm=>by
  have q:(H b).isSome=true:=(c3v.mp hm).2
  rw[n] at q;simp at q
theorem f5f {h:Heap} {H:Hp} {b:Addr} {o:Obj} (e:(f1c h H).get? b=some o):h.get? b=some o∧H b=none:=by
 have e':h.get? b=some o:=PySem.W.of_hideAll (trk h H) e
 refine ⟨e',?_⟩
 cases q:H b with
 | none=>rfl
 | some x =>
  have hm:b∈trk h H:=c3v.mpr ⟨b9i.mpr (Heap.lt_size e'),by simp [q]⟩
  have z:(f1c h H).get? b=none:=PySem.W.hideAll_none (trk h H) hm
  rw[z] at e;cases e
end L2
namespace L2
open PySem PySem.Spec PyProof.Rows
structure Mod (K:PySem.W.Frag) (mg:Str->Option Value) (base:Heap):Prop where
 kin:K.In base
 glob:base.Ns mainGlobals mg
 blt:∃mb,base.Ns builtinsNs mb∧∀x:Str,x≠"__name__"->mb x=bootBuiltins x
 nolimit:base.NoLimit
structure Cx where
 prog:Program
 w:World
 K:PySem.W.Frag
 mg:Str->Option Value
 base:Heap
 A:Around
 N:List Str
 s₀:Shared
 H₀:Hp
 env:Env
 outer:List Env
 stack:List Env
 ex:List Addr
 fn:Str->Bool
 calm:Bool
 pn:List (Addr×Obj)
 xe:Value->Shared->Prop
def frs (l:List Env):List Addr:=l.filterMap (·.frame)
abbrev Cx.fs (X:Cx):List Addr:=frs X.outer
def Vis (sc:Scope) (x:Str):Prop:=sc.names.lookup x=some .local∨sc.names.lookup x=some .cell∨sc.names.lookup x=some .free
def Loc (sc:Scope) (x:Str):Prop:=sc.names.lookup x=some .local∨sc.names.lookup x=some .cell
def Look (env:Env) (h:Heap) (m:Str->Option Value) (x:Str) (u:Value):Prop :=
 (env.kindOf x=some .local∧m x=some u)∨((env.kindOf x=some .cell∨env.kindOf x=some .free)∧∃c,env.cells.lookup x=some c∧h.IsCell c (some u))
structure Cx.Ok (X:Cx):Prop where
 mod:Mod X.K X.mg X.base
 kind:X.env.scope.kind=.function
 glob:X.env.globals=mainGlobals
 blt:X.env.builtins=builtinsNs
 above:X.s₀.heap.objs.size<=X.env.locals
 inj:∀x y c,X.env.cells.lookup x=some c->X.env.cells.lookup y=some c->x=y
 has:∀x,(X.env.kindOf x=some .cell∨X.env.kindOf x=some .free)->∃c,X.env.cells.lookup x=some c
 cab:∀x c,X.fn x=true->X.env.cells.lookup x=some c->X.s₀.heap.objs.size<=c
 hd:X.calm=true->X.A.handled=none
 frames:X.A.frames=some X.stack
 stk:X.stack=X.outer∨(X.stack=X.env :: X.outer∧X.env.frame=some X.env.locals)
 exf:∀b∈X.ex,b≠X.env.locals∧∀x c,X.env.cells.lookup x=some c->c≠b
 bs:∀b o,X.base.get? b=some o->X.s₀.heap.get? b=some o∧X.H₀ b=none
 bsz:X.base.objs.size<=X.s₀.heap.objs.size
 noex:∀b o,X.base.get? b=some o->b∉X.ex
 exfs:∀b∈X.ex,b∉X.fs
 funs:X.s₀.heap.FunFrames X.base X.outer
 frf:∀b∈X.fs,X.H₀ b=none
structure Inv (X:Cx) (pins:List (Addr×Obj)) (σ:List (Option V)) (H:Hp) (s:Shared):Prop where
 ok:X.Ok
 os:s.os=X.s₀.os
 bare:AllBare s.gens
 base:Un X.fs X.ex X.H₀ H X.s₀.heap s.heap
 loc:∃m,s.heap.Ns X.env.locals m∧∀(i:Nat) (x:Str) (v:V),X.N[i]?=some x->σ[i]?=some (some v)->Vis X.env.scope x->∃u,RelV v u∧Look X.env s.heap m x u
 cell:∀x c,X.env.cells.lookup x=some c->∃v,s.heap.IsCell c v
 free:H X.env.locals=none
 freeC:∀x c,X.env.cells.lookup x=some c->H c=none
 pin:∀p∈X.pn++pins,s.heap.get? p.1=some p.2∧H p.1=none∧p.1≠X.env.locals∧p.1∉X.fs∧∀v,p.2.data≠.cell v
 hok:HOk X.prog X.w H s.heap
 len:σ.length=X.N.length
section
variable {X:Cx} {pins:List (Addr×Obj)} {σ:List (Option V)} {H H':Hp} {s:Shared} {h':Heap}
theorem Cx.Ok.nofr (ok:X.Ok) {b:Addr} {o:Obj} (e:X.base.get? b=some o):b∉X.fs:=fun hb=>by
 have:=(ok.funs.mem hb).1
 rw[e] at this;cases this
theorem Inv.bs (I:Inv X pins σ H s):∀b o,X.base.get? b=some o->s.heap.get? b=some o∧H b=none:=fun b o e =>
 ⟨I.base.keep b o (I.ok.bs b o e).1 (I.ok.bs b o e).2 (I.ok.nofr e) (I.ok.noex b o e),I.base.free b o (I.ok.bs b o e).1 (I.ok.bs b o e).2 (I.ok.noex b o e)⟩
theorem Inv.bk (I:Inv X pins σ H s):∀b o,X.base.get? b=some o->s.heap.get? b=some o:=fun b o e=>(I.bs b o e).1
theorem Inv.mod (I:Inv X pins σ H s):Mod X.K X.mg X.base:=I.ok.mod
theorem Inv.kIn (I:Inv X pins σ H s):X.K.In s.heap:=I.ok.mod.kin.keeps I.bk
theorem Inv.lt (I:Inv X pins σ H s):X.env.locals < s.heap.objs.size:=let ⟨_,hn,_⟩:=I.loc;hn.lt
theorem Inv.sz (I:Inv X pins σ H s):X.s₀.heap.objs.size<=s.heap.objs.size:=a0d I.ok.above (a1j I.lt)
theorem Inv.nofs (I:Inv X pins σ H s) {a:Addr} (h:s.heap.objs.size<=a):a∉X.fs:=fun hb=>by
 obtain ⟨_,o,ho,_⟩:=I.ok.funs.mem hb
 exact absurd (a1u (Heap.lt_size ho) (a0d I.sz h)) (a5f _)
theorem Inv.cne (I:Inv X pins σ H s):∀x c,X.env.cells.lookup x=some c->c≠X.env.locals:=fun x c e z=>by
 obtain ⟨v,o,ho,hd⟩:=I.cell x c e
 obtain ⟨m,⟨o',es,ep,ho',hd',_⟩,_⟩:=I.loc
 rw[z,ho'] at ho;cases ho;rw[hd'] at hd;cases hd
theorem Inv.funs (I:Inv X pins σ H s):s.heap.FunFrames X.base X.outer:=by
 have all:∀(l:List Env),(∀b∈frs l,b∈X.fs)->X.s₀.heap.FunFrames X.base l->s.heap.FunFrames X.base l:=by
  intro l
  induction l with
  | nil=>intro _ _;trivial
  | cons env r ih =>
   intro hs hl
   obtain ⟨hk,⟨L,o,hf,hn,ho,hd⟩,hr⟩:=hl
   have hL:L∈X.fs:=hs L (by unfold frs;rw[e2o,hf];exact a4e)
   obtain ⟨sl,e⟩:=I.base.slot L o ho (I.ok.frf L hL) hL fun z=>I.ok.exfs L z hL
   exact ⟨hk,⟨L,_,hf,hn,e,hd⟩,ih (fun b hb=>hs b (by unfold frs;rw[e2o,hf];exact a2j _ hb)) hr⟩
 exact all X.outer (fun _ hb=>hb) I.ok.funs
theorem Inv.stack (I:Inv X pins σ H s):s.heap.FunFrames X.base X.stack:=by
 rcases I.ok.stk with e | ⟨e,hf⟩
 ·rw[e];exact I.funs
 ·rw[e]
  obtain ⟨m,hn,_⟩:=I.loc
  refine .cons (by rw[I.ok.kind];decide) hf hn ?_ I.funs
  exact Heap.get?_none_of_le (a0d I.ok.bsz I.ok.above)
theorem Inv.stkSub (I:Inv X pins σ H s):∀b∈frs X.stack,b∈X.env.locals :: X.fs:=fun b hb=>by
 rcases I.ok.stk with e | ⟨e,hf⟩
 ·rw[e] at hb;exact a2j _ hb
 ·rw[e] at hb
  unfold frs at hb
  rw[e2o,hf] at hb
  exact hb
theorem Inv.stkFree (I:Inv X pins σ H s):∀b∈frs X.stack,H b=none:=fun b hb=>by
 rcases a0u.mp (I.stkSub b hb) with e | hb
 ·rw[e];exact I.free
 ·obtain ⟨_,o,ho,_⟩:=I.ok.funs.mem hb
  exact I.base.free b o ho (I.ok.frf b hb) fun z=>I.ok.exfs b z hb
theorem Inv.step {g':Array GenState} {t':Nat} {d':Drawn} {ch:List Addr} (I:Inv X pins σ H s)
  (hch:∀b∈ch,(b∈X.ex∨X.s₀.heap.objs.size<=b)∧b≠X.env.locals∧(∀x c,X.env.cells.lookup x=some c->c≠b)∧∀p∈X.pn++pins,p.1≠b)
  (keep:∀b o,b≠X.env.locals->b∉X.fs->b∉ch->s.heap.get? b=some o->H b=none->h'.get? b=some o)
  (slot:∀b o,b≠X.env.locals->b∈X.fs->b∉ch->s.heap.get? b=some o->H b=none->∃sl,h'.get? b=some { o with slots:=sl }) (free:∀b o,b∉ch->s.heap.get? b=some o->H b=none->H' b=none)
  (there:∀b o,b∉ch->s.heap.get? b=some o->∃o',h'.get? b=some o')
  (tups:∀b xs,H b=some (.tup xs)->H' b=some (.tup xs)) (frzs:∀b o u,H b=some (.frz o u)->H' b=some (.frz o u)) (tbls:∀b ps,H b=some (.tbl ps)->∃more,H' b=some (.tbl (ps++more)))
  (ns:∀m,s.heap.Ns X.env.locals m->h'.Ns X.env.locals m) (hok:HOk X.prog X.w H' h') (hg:AllBare g') :
  Inv X pins σ H' { s with heap:=h',gens:=g',drawn:=d',toks:=t' }:=by
 have neL:∀b o,X.s₀.heap.get? b=some o->b≠X.env.locals:=fun b o e=>a2q (a1u (Heap.lt_size e) I.ok.above)
 have neC:∀b o,X.s₀.heap.get? b=some o->b∉X.ex->b∉ch:=fun b o e hx hb=>by
  rcases (hch b hb).1 with z | z
  ·exact hx z
  ·exact absurd (a1u (Heap.lt_size e) z) (a5f _)
 have cellK:∀x c,X.env.cells.lookup x=some c->∀v,s.heap.IsCell c v->h'.IsCell c v:=fun x c e v ⟨o,ho,hd⟩=>by
  have nch:c∉ch:=fun z=>(hch c z).2.2.1 x c e rfl
  by_cases hc:c∈X.fs
  ·obtain ⟨sl,q⟩:=slot c o (I.cne x c e) hc nch ho (I.freeC x c e)
   exact ⟨_,q,hd⟩
  ·exact ⟨o,keep c o (I.cne x c e) hc nch ho (I.freeC x c e),hd⟩
 refine ⟨I.ok,I.os,hg,⟨fun b o e n hb hx=>?_,fun b o e n hb hx=>?_,fun b o e n hx=>?_,fun b o e hx=>?_,fun b xs e=>tups b xs (I.base.tups b xs e),fun b o xs e=>frzs b o xs (I.base.frzs b o xs e),fun b ps e=>?_⟩,?_,fun x c e=>?_,?_,fun x c e=>?_,fun p hp=>?_,hok,I.len⟩
 ·exact keep b o (neL b o e) hb (neC b o e hx) (I.base.keep b o e n hb hx) (I.base.free b o e n hx)
 ·obtain ⟨sl,e1⟩:=I.base.slot b o e n hb hx
  obtain ⟨sl',e2⟩:=slot b _ (neL b o e) hb (neC b o e hx) e1 (I.base.free b o e n hx)
  exact ⟨sl',e2⟩
 ·obtain ⟨o',e1⟩:=I.base.there b o e hx
  exact free b o' (neC b o e hx) e1 (I.base.free b o e n hx)
 ·obtain ⟨o',e1⟩:=I.base.there b o e hx
  exact there b o' (neC b o e hx) e1
 ·obtain ⟨m1,e1⟩:=I.base.tbls b ps e
  obtain ⟨m2,e2⟩:=tbls b _ e1
  exact ⟨m1++m2,by rw[e2,Array.append_assoc]⟩
 ·obtain ⟨m,hn,hl⟩:=I.loc
  refine ⟨m,ns m hn,fun i x v e1 e2 e3=>?_⟩
  obtain ⟨u,r,l⟩:=hl i x v e1 e2 e3
  refine ⟨u,r,?_⟩
  rcases l with l | ⟨k,c,e,z⟩
  ·exact .inl l
  ·exact .inr ⟨k,c,e,cellK x c e _ z⟩
 ·obtain ⟨v,z⟩:=I.cell x c e
  exact ⟨v,cellK x c e v z⟩
 ·obtain ⟨m,⟨o,_,_,ho,_⟩,_⟩:=I.loc
  exact free _ o (fun z=>(hch _ z).2.1 rfl) ho I.free
 ·obtain ⟨v,o,ho,hd⟩:=I.cell x c e
  exact free c o (fun z=>(hch c z).2.2.1 x c e rfl) ho (I.freeC x c e)
 ·obtain ⟨e,n,ne,nf,d⟩:=I.pin p hp
  have nch:p.1∉ch:=fun z=>(hch p.1 z).2.2.2 p hp rfl
  exact ⟨keep p.1 p.2 ne nf nch e n,free p.1 p.2 nch e n,ne,nf,d⟩
theorem Inv.un {t':Nat} (I:Inv X pins σ H s) (u:Un X.fs [] H H' s.heap h') (hok:HOk X.prog X.w H' h'):Inv X pins σ H' { s with heap:=h',toks:=t' }:=by
 obtain ⟨m,⟨o,es,ep,ho,r⟩,_⟩:=id I.loc
 obtain ⟨sl,hL⟩:=u.any ho I.free (by simp)
 exact I.step (g':=s.gens) (d':=s.drawn) (ch:=[]) (fun _ z=>nomatch z) (fun b o _ hb _ e n=>u.keep b o e n hb (by simp)) (fun b o _ hb _ e n=>u.slot b o e n hb (by simp)) (fun b o _ e n=>u.free b o e n (by simp)) (fun b o _ e=>u.there b o e (by simp)) u.tups u.frzs u.tbls (fun m' hm=>by
  obtain ⟨o',es',ep',ho',r'⟩:=hm
  rw[ho] at ho';cases ho'
  exact ⟨_,es',ep',hL,r'⟩) hok I.bare
theorem Inv.call {g':Array GenState} {t':Nat} {d':Drawn} {ch:List Addr} (I:Inv X pins σ H s) (u:Un (frs X.stack) ch H H' s.heap h') (hok:HOk X.prog X.w H' h') (hg:AllBare g')
  (hch:∀b∈ch,(b∈X.ex∨X.s₀.heap.objs.size<=b)∧b≠X.env.locals∧(∀x c,X.env.cells.lookup x=some c->c≠b)∧∀p∈X.pn++pins,p.1≠b) :
  Inv X pins σ H' { s with heap:=h',gens:=g',drawn:=d',toks:=t' }:=by
 obtain ⟨m,⟨o,es,ep,ho,r⟩,_⟩:=id I.loc
 obtain ⟨sl,hL⟩:=u.any ho I.free fun z=>(hch _ z).2.1 rfl
 exact I.step (ch:=ch) hch (fun b o hL hb hc e n=>u.keep b o e n (fun z=>(a0u.mp (I.stkSub b z)).elim hL hb) hc) (fun b o _ _ hc e n=>u.any e n hc) (fun b o hc e n=>u.free b o e n hc) (fun b o hc e=>u.there b o e hc) u.tups u.frzs u.tbls (fun m' hm=>by
  obtain ⟨o',es',ep',ho',r'⟩:=hm
  rw[ho] at ho';cases ho'
  exact ⟨_,es',ep',hL,r'⟩) hok hg
theorem Inv.turned {t':Nat} {it:Addr} (I:Inv X pins σ H s) (k:∀b o,b≠it->s.heap.get? b=some o->h'.get? b=some o) (hn:H it=none) (hL:it≠X.env.locals)
  (h1:it∈X.ex∨X.s₀.heap.objs.size<=it) (h2:∀x c,X.env.cells.lookup x=some c->c≠it) (h3:∀p∈X.pn++pins,p.1≠it):Inv X pins σ H { s with heap:=h',toks:=t' }:=by
 have nit:∀b u,H b=some u->b≠it:=fun b u e z=>by rw[z,hn] at e;cases e
 refine I.step (g':=s.gens) (d':=s.drawn) (ch:=[it]) (fun b hb=>?_) (fun b o _ _ hc e _=>k b o (fun z=>hc (by simp [z])) e) (fun b o _ _ hc e _=>⟨o.slots,k b o (fun z=>hc (by simp [z])) e⟩) (fun _ _ _ _ n=>n)
  (fun b o hc e=>⟨o,k b o (fun z=>hc (by simp [z])) e⟩) (fun _ _ e=>e) (fun _ _ _ e=>e) (fun b ps e=>⟨#[],by rw[e];simp⟩) (fun m hm=>?_) (fun b u e=>?_) I.bare
 ·have e:b=it:=by simpa using hb
  subst e
  exact ⟨h1,hL,h2,h3⟩
 ·obtain ⟨o,es,ep,ho,r⟩:=hm
  exact ⟨o,es,ep,k _ o (Ne.symm hL) ho,r⟩
 ·refine (I.hok b u e).stay (fun c v hc q=>k c v ?_ q) (fun _ q=>q) fun _ _ q=>q
  rcases hc with z | z
  ·rw[z];exact nit b u e
  ·exact nit c _ z
theorem Inv.tok (I:Inv X pins σ H s) (t:Nat):Inv X pins σ H { s with toks:=t }:=I.un (h':=s.heap) (t':=t) Un.refl I.hok
theorem Inv.kept {t':Nat} (I:Inv X pins σ H s) (k:∀b u,s.heap.get? b=some u->h'.get? b=some u):Inv X pins σ H { s with heap:=h',toks:=t' }:=I.un (Un.kept k) (I.hok.kept k)
theorem Inv.laid {a:Addr} {o:HO} {t':Nat} (I:Inv X pins σ H s) (k:∀b u,s.heap.get? b=some u->h'.get? b=some u) (hp:s.heap.objs.size<=a) (new:b7h X.prog X.w (upd H a o) h' a o) :
  Inv X pins σ (upd H a o) { s with heap:=h',toks:=t' }:=I.un (Un.laid k hp (I.hok.fresh hp)) (I.hok.laid k hp new)
theorem Inv.write {x e:Addr} {o:HO} {t':Nat} (I:Inv X pins σ H s) (mu:Mut (H x)) (he:e=x∨H e=some (.own x)) (k:∀b u,b≠e->s.heap.get? b=some u->h'.get? b=some u) (heo:∃u,h'.get? e=some u)
  (new:b7h X.prog X.w (upd H x o) h' x o):Inv X pins σ (upd H x o) { s with heap:=h',toks:=t' }:=I.un (Un.write mu he k heo) (I.hok.write mu he k heo new)
theorem Inv.pins_of {pins':List (Addr×Obj)} (I:Inv X pins σ H s) (h:∀p∈pins',s.heap.get? p.1=some p.2∧H p.1=none∧p.1≠X.env.locals∧p.1∉X.fs∧∀v,p.2.data≠.cell v):Inv X pins' σ H s :=
 ⟨I.ok,I.os,I.bare,I.base,I.loc,I.cell,I.free,I.freeC,fun p hp=>(a0w.mp hp).elim (fun z=>I.pin p (c1z _ z)) (h p),I.hok,I.len⟩
theorem e1f {N:List Str} (hN:N.Nodup) {i j:Nat} {x:Str} (a:N[i]?=some x) (b:N[j]?=some x):i=j:=by
 obtain ⟨h1,e1⟩:=a0s.mp a
 obtain ⟨h2,e2⟩:=a0s.mp b
 exact (List.getElem_inj hN).mp (e1.trans e2.symm)
theorem d5z {M:Model} {A:Around} {E:Value->Shared->Prop} {i:Nat} {x:Str} {v:V} {u:Value} {Q:Unit->Shared->Prop} (I:Inv X pins σ H s) (hN:X.N.Nodup) (hi:X.N[i]?=some x) (hx:Loc X.env.scope x) (r:RelV v u)
  (h:∀s',Inv X pins (σ.set i (some v)) H s'->(∃a,Heap.SameBut a s.heap s'.heap∧(a=X.env.locals∨X.env.cells.lookup x=some a))->Q () s') (hf:X.fn x=true∨X.env.scope.names.lookup x=some .local:=by first | exact .inl rfl | exact .inr rfl | assumption):wpAny M A (storeName X.env x u) Q E s:=by
 obtain ⟨m,hn,hl⟩:=id I.loc
 have hcls:(X.env.scope.kind == .class || (X.env.scope.kind == .module && X.env.locals != X.env.globals))=false:=by rw[I.ok.kind];rfl
 have hiσ:i < σ.length:=by rw[I.len];exact (a0s.mp hi).1
 have cne:=I.cne
 have tracked:∀{a:Addr} {h':Heap},(∃o,s.heap.get? a=some o∧H a=none)->Heap.SameBut a s.heap h'->HOk X.prog X.w H h':=fun {a h'} ha hs b ob e=>by
  obtain ⟨_,_,hfree⟩:=ha
  refine (I.hok b ob e).stay (fun c w' hc q=>(hs.2 c ?_).trans q) (fun _ q=>q) fun _ _ q=>q
  rintro rfl
  rcases hc with rfl | hc
  ·rw[hfree] at e;cases e
  ·rw[hfree] at hc;cases hc
 rcases hx with hk | hk
 ·refine wpAny_storeName_local hk hn (fun h' hn' hs=>?_) hcls
  obtain ⟨oL,_,_,hoL,_⟩:=id hn
  refine h _ ⟨I.ok,I.os,I.bare,⟨fun b o e n hb hx=>?_,fun b o e n hb hx=>?_,I.base.free,fun b o e hx=>?_,I.base.tups,I.base.frzs,I.base.tbls⟩,⟨_,hn',fun j y v' e1 e2 e3=>?_⟩,fun y c e=>?_,I.free,I.freeC,fun p hp=>?_,tracked ⟨oL,hoL,I.free⟩ hs,by simpa using I.len⟩ ⟨_,hs,.inl rfl⟩
  ·exact (hs.2 b (a2q (a1u (Heap.lt_size e) I.ok.above))).trans (I.base.keep b o e n hb hx)
  ·obtain ⟨sl,e1⟩:=I.base.slot b o e n hb hx
   exact ⟨sl,(hs.2 b (a2q (a1u (Heap.lt_size e) I.ok.above))).trans e1⟩
  ·obtain ⟨o',e1⟩:=I.base.there b o e hx
   exact ⟨o',(hs.2 b (a2q (a1u (Heap.lt_size e) I.ok.above))).trans e1⟩
  ·by_cases hj:j=i
   ·subst hj
    rw[hi] at e1;cases e1
    rw[List.getElem?_set_self hiσ] at e2
    cases e2
    exact ⟨u,r,.inl ⟨hk,by simp⟩⟩
   ·rw[List.getElem?_set_ne (Ne.symm hj)] at e2
    obtain ⟨u',r',q⟩:=hl j y v' e1 e2 e3
    refine ⟨u',r',?_⟩
    rcases q with ⟨k,e⟩ | ⟨k,c,e,z⟩
    ·refine .inl ⟨k,?_⟩
     have:y≠x:=fun e=>hj (e1f hN e1 (e ▸ hi))
     simp [this,e]
    ·exact .inr ⟨k,c,e,z.sameBut hs (cne y c e)⟩
  ·obtain ⟨w',z⟩:=I.cell y c e
   exact ⟨w',z.sameBut hs (cne y c e)⟩
  ·obtain ⟨e,n,ne,nf,d⟩:=I.pin p hp
   exact ⟨(hs.2 p.1 ne).trans e,n,ne,nf,d⟩
 ·have hfn:X.fn x=true:=by
   rcases hf with z | z
   ·exact z
   ·rw[z] at hk;cases hk
  obtain ⟨c,hc⟩:=I.ok.has x (.inl hk)
  obtain ⟨w',z⟩:=I.cell x c hc
  refine wpAny_storeName_cell I.ok.kind hk hc z (fun h' hc' hs=>?_)
  obtain ⟨oc,hoc,hocd⟩:=id z
  refine h { s with heap:=h' } ⟨I.ok,I.os,I.bare,⟨fun b o e n hb hx=>?_,fun b o e n hb hx=>?_,I.base.free,fun b o e hx=>?_,I.base.tups,I.base.frzs,I.base.tbls⟩,⟨m,hn.sameBut hs (Ne.symm (cne x c hc)),fun j y v' e1 e2 e3=>?_⟩,fun y c' e=>?_,I.free,I.freeC,fun p hp=>?_,tracked ⟨oc,hoc,I.freeC x c hc⟩ hs,by simpa using I.len⟩ ⟨c,hs,.inr hc⟩
  ·exact (hs.2 b (a2q (a1u (Heap.lt_size e) (I.ok.cab x c hfn hc)))).trans (I.base.keep b o e n hb hx)
  ·obtain ⟨sl,e1⟩:=I.base.slot b o e n hb hx
   exact ⟨sl,(hs.2 b (a2q (a1u (Heap.lt_size e) (I.ok.cab x c hfn hc)))).trans e1⟩
  ·obtain ⟨o',e1⟩:=I.base.there b o e hx
   exact ⟨o',(hs.2 b (a2q (a1u (Heap.lt_size e) (I.ok.cab x c hfn hc)))).trans e1⟩
  ·by_cases hj:j=i
   ·subst hj
    rw[hi] at e1;cases e1
    rw[List.getElem?_set_self hiσ] at e2
    cases e2
    exact ⟨u,r,.inr ⟨.inl hk,c,hc,hc'⟩⟩
   ·rw[List.getElem?_set_ne (Ne.symm hj)] at e2
    obtain ⟨u',r',q⟩:=hl j y v' e1 e2 e3
    refine ⟨u',r',?_⟩
    rcases q with q | ⟨k,c',e,z'⟩
    ·exact .inl q
    ·refine .inr ⟨k,c',e,z'.sameBut hs ?_⟩
     rintro rfl
     exact hj (e1f hN e1 (I.ok.inj _ _ _ e hc ▸ hi))
  ·by_cases hcc:c'=c
   ·subst hcc;exact ⟨_,hc'⟩
   ·obtain ⟨w2,z2⟩:=I.cell y c' e
    exact ⟨w2,z2.sameBut hs hcc⟩
  ·obtain ⟨e,n,ne,nf,d⟩:=I.pin p hp
   refine ⟨(hs.2 p.1 ?_).trans e,n,ne,nf,d⟩
   intro q
   rw[q,hoc] at e
   have q':oc=p.2:=a2v e
   exact d w' (by rw[← q'];exact hocd)
theorem c8k {M:Model} {A:Around} {E:Value->Shared->Prop} {i:Nat} {x:Str} {v:V} {u:Value} {Q:Unit->Shared->Prop} (I:Inv X pins σ H s) (hN:X.N.Nodup) (hi:X.N[i]?=some x) (hx:Loc X.env.scope x) (r:RelV v u)
  (h:∀s',Inv X pins (σ.set i (some v)) H s'->Q () s') (hf:X.fn x=true∨X.env.scope.names.lookup x=some .local:=by first | exact .inl rfl | exact .inr rfl | assumption):wpAny M A (storeName X.env x u) Q E s :=
 d5z I hN hi hx r (fun s' I' _=>h s' I') hf
theorem Inv.call' {s':Shared} {ch:List Addr} (I:Inv X pins σ H s) (ho:s'.os=s.os) (u:Un (frs X.stack) ch H H' s.heap s'.heap) (hok:HOk X.prog X.w H' s'.heap) (hg:AllBare s'.gens)
  (hch:∀b∈ch,(b∈X.ex∨X.s₀.heap.objs.size<=b)∧b≠X.env.locals∧(∀x c,X.env.cells.lookup x=some c->c≠b)∧∀p∈X.pn++pins,p.1≠b):Inv X pins σ H' s':=by
 obtain ⟨h',g',d',t',o'⟩:=s'
 have e:o'=s.os:=ho
 subst e
 exact I.call (g':=g') (t':=t') (d':=d') u hok hg hch
end
abbrev XK:=Value->Option Addr->Hp->Prop
abbrev St:=List (Option V)
abbrev VK:=V->Hp->Prop
abbrev TE:=St->Hp->VK->Prop
abbrev TT:=St->Hp->(Bool->Hp->Prop)->Prop
abbrev TA:=St->Hp->(List V->Hp->Prop)->Prop
structure Ends where
 nx:St->Hp->Prop
 rt:VK
 bk:St->Hp->Prop:=fun _ _=>False
 ct:St->Hp->Prop:=fun _ _=>False
abbrev TS:=Ends->St->Hp->Prop
def EP (X:Cx) (pins:List (Addr×Obj)) (σ:St) (Q:VK) (u:Value) (s':Shared):Prop:=∃v H',Inv X pins σ H' s'∧RelV v u∧Q v H'
def TP (X:Cx) (pins:List (Addr×Obj)) (σ:St) (Q:Bool->Hp->Prop) (b:Bool) (s':Shared):Prop:=∃H',Inv X pins σ H' s'∧Q b H'
def AP (X:Cx) (pins:List (Addr×Obj)) (σ:St) (Q:List V->Hp->Prop) (us:List Value) (s':Shared):Prop:=∃vs H',Inv X pins σ H' s'∧a6a vs us∧Q vs H'
def SP (X:Cx) (pins:List (Addr×Obj)) (D:Ends) (f:Flow) (s':Shared):Prop :=
 match f with
 | .next=>∃σ' H',Inv X pins σ' H' s'∧D.nx σ' H'
 | .brk=>∃σ' H',Inv X pins σ' H' s'∧D.bk σ' H'
 | .cont=>∃σ' H',Inv X pins σ' H' s'∧D.ct σ' H'
 | .ret u=>∃v σ' H',Inv X pins σ' H' s'∧RelV v u∧D.rt v H'
def PE (X:Cx) (e:Expr) (t:TE):Prop :=
 ∀(pins:List (Addr×Obj)) (s:Shared) (σ:St) (H:Hp) (Q:VK),Inv X pins σ H s->t σ H Q->wpAny (model X.prog X.w) X.A (eval e X.env) (EP X pins σ Q) X.xe s
def PT (X:Cx) (e:Expr) (t:TT):Prop :=
 ∀(pins:List (Addr×Obj)) (s:Shared) (σ:St) (H:Hp) (Q:Bool->Hp->Prop),Inv X pins σ H s->t σ H Q->wpAny (model X.prog X.w) X.A (isTrue e X.env (eval e X.env)) (TP X pins σ Q) X.xe s
def PW (X:Cx) (e:Expr) (t:TT):Prop :=
 ∀(whole:Sem Value) (pins:List (Addr×Obj)) (s:Shared) (σ:St) (H:Hp) (Q:Bool->Hp->Prop),Inv X pins σ H s->t σ H Q->wpAny (model X.prog X.w) X.A (isTrue e X.env whole) (TP X pins σ Q) X.xe s
theorem PW.pt {X:Cx} {e:Expr} {t:TT} (h:PW X e t):PT X e t:=h _
def PA (X:Cx) (es:List Expr) (t:TA):Prop :=
 ∀(pos:Pos) (pins:List (Addr×Obj)) (s:Shared) (σ:St) (H:Hp) (Q:List V->Hp->Prop),Inv X pins σ H s->t σ H Q->wpAny (model X.prog X.w) X.A (spliced (backTo pos (starEach es X.env))) (AP X pins σ Q) X.xe s
def PS (X:Cx) (st:Stmt) (t:TS):Prop :=
 ∀(pins:List (Addr×Obj)) (s:Shared) (σ:St) (H:Hp) (D:Ends),Inv X pins σ H s->t D σ H->wpAny (model X.prog X.w) X.A (exec st X.env) (SP X pins D) X.xe s
def PSs (X:Cx) (st:List Stmt) (t:TS):Prop :=
 ∀(pins:List (Addr×Obj)) (s:Shared) (σ:St) (H:Hp) (D:Ends),Inv X pins σ H s->t D σ H->wpAny (model X.prog X.w) X.A (execs st X.env) (SP X pins D) X.xe s
theorem thn {α:Type} {t:Sem α} {Q Q':α->Shared->Prop} {M:Model} {A:Around} {E:Value->Shared->Prop} {s:Shared} (h:wpAny M A t Q E s) (hQ:∀a s,Q a s->Q' a s):wpAny M A t Q' E s:=wpAny_mono h hQ fun _ _ x=>x
end L2
namespace L2
open PySem PySem.Spec PyProof.Rows
section
variable {X:Cx}
def g0y (i:Nat):TE:=fun σ H Q=>∃v,σ[i]?=some (some v)∧Q v H
def tC (v:V):TE:=fun _ H Q=>Q v H
theorem f8t {i:Nat} {x:Str} {pos:Pos} (hN:X.N[i]?=some x) (hv:Vis X.env.scope x) (hd:(x == ("__debug__":Str))=false:=by decide) (hcd:(x == ("__classdict__":Str))=false:=by decide):PE X (.Name x pos) (g0y i):=by
 intro pins s σ H Q I h
 obtain ⟨v,e,h⟩:=h
 obtain ⟨m,hn,hl⟩:=I.loc
 obtain ⟨u,r,l⟩:=hl i x v hN e hv
 have fin:EP X pins σ Q u s:=⟨v,H,I,r,h⟩
 rcases l with ⟨hk,hm⟩ | ⟨hk,c,hc,hcell⟩
 ·exact wpAny_Name (wpAny_loadName_local I.ok.kind hk hn hm fin) hd
 ·rcases hk with hk | hk
  ·exact wpAny_Name (wpAny_loadName_cell I.ok.kind hk hc hcell fin) hd
  ·exact wpAny_Name (wpAny_loadName_free I.ok.kind hk hc hcell fin hcd) hd
theorem a0m {i j pos}:PE X (.Constant (.int i) j pos) (tC (.int i)):=fun _ _ _ H _ I h=>wpAny_Constant_int ⟨.int i,H,I.tok _,⟨_,rfl⟩,h⟩
theorem c8d {b j pos}:PE X (.Constant (.bool b) j pos) (tC (.bl b)):=fun _ _ _ H _ I h=>Constant_bool ⟨.bl b,H,I,rfl,h⟩
theorem e0y {j pos}:PE X (.Constant .none j pos) (tC .non):=fun _ _ _ H _ I h=>Constant_none ⟨.non,H,I,rfl,h⟩
theorem b4g {x j pos}:PE X (.Constant (.str x) j pos) (tC (.str x)):=fun _ _ _ H _ I h=>Calls.Constant_str ⟨.str x,H,I.tok _,⟨_,rfl⟩,h⟩
def Gl (X:Cx) (x:Str):Prop:=X.env.kindOf x=some .globalImplicit
theorem d9n {E:Value->Shared->Prop} {pins:List (Addr×Obj)} {s:Shared} {σ:St} {H:Hp} {x:Str} {u:Value} {pos:Pos} {Q:Value->Shared->Prop} (I:Inv X pins σ H s) (hg:Gl X x) (hm:X.mg x=some u) (h:Q u s)
  (hd:(x == ("__debug__":Str))=false:=by decide):wpAny (model X.prog X.w) X.A (eval (.Name x pos) X.env) Q E s :=
 Calls.Name_function_global I.ok.kind hg (Calls.loadGlobal_global (by rw[I.ok.glob];exact I.mod.glob.keeps I.bk) hm h) hd
theorem b7e {E:Value->Shared->Prop} {pins:List (Addr×Obj)} {s:Shared} {σ:St} {H:Hp} {x:Str} {u:Value} {pos:Pos} {Q:Value->Shared->Prop} (I:Inv X pins σ H s) (hg:Gl X x) (hm:X.mg x=none) (hv:bootBuiltins x=some u) (h:Q u s)
  (hn:x≠"__name__":=by decide) (hd:(x == ("__debug__":Str))=false:=by decide):wpAny (model X.prog X.w) X.A (eval (.Name x pos) X.env) Q E s:=by
 obtain ⟨mb,h1,h2⟩:=I.mod.blt
 exact Calls.Name_function_global I.ok.kind hg (Calls.loadGlobal_builtin (by rw[I.ok.glob];exact I.mod.glob.keeps I.bk) hm (by rw[I.ok.blt];exact h1.keeps I.bk) ((h2 x hn).trans hv) h) hd
theorem b7l {x:Str} {v:V} {u:Value} {pos:Pos} (hg:Gl X x) (hm:X.mg x=some u) (r:RelV v u) (hd:(x == ("__debug__":Str))=false:=by decide):PE X (.Name x pos) (tC v) :=
 fun _ _ _ H _ I h=>d9n I hg hm ⟨v,H,I,r,h⟩ hd
theorem e6q {x:Str} {v:V} {u:Value} {pos:Pos} (hg:Gl X x) (hm:X.mg x=none) (hv:bootBuiltins x=some u) (r:RelV v u) (hn:x≠"__name__":=by decide) (hd:(x == ("__debug__":Str))=false:=by decide):PE X (.Name x pos) (tC v) :=
 fun _ _ _ H _ I h=>b7e I hg hm hv ⟨v,H,I,r,h⟩ hn hd
variable {a b:Expr} {ta tb:TE} {pos:Pos}
def tB (t:TE):TT:=fun σ H Q=>t σ H fun x H1=>∃c,x=.bl c∧Q c H1
theorem b4f {e : Expr} {t : TE} (h : PE X e t) (he : ∀ whole, isTrue e X.env whole = (do let v ← whole; standAt e.pos; holding [v] (truthy v)) := by intro _; rfl) : PT X e (tB t) := by
  intro pins s σ H Q I hw
  refine isTrue_plain (thn (h pins s σ H _ I hw) fun v s1 ⟨x, H1, I1, r1, q1⟩ => ?_) (he _)
  obtain ⟨d, rfl, q⟩ := q1
  cases r1
  exact wpAny_truthy_bool ⟨H1, I1, q⟩

variable {tA tB':TT} {rest:List Expr}
def tAnd (t u:TT):TT:=fun σ H Q=>t σ H fun c H1=>if c=true then u σ H1 Q else Q false H1
def tOr (t u:TT):TT:=fun σ H Q=>t σ H fun c H1=>if c=true then Q true H1 else u σ H1 Q
def tNot (t:TT):TT:=fun σ H Q=>t σ H fun c H1=>Q (!c) H1
theorem b6b (ha:PT X a tA):PW X (.BoolOp .And [a] pos) tA:=by
 intro wh pins s σ H Q I h
 refine isTrue_and (thn (ha pins s σ H Q I h) fun c s1 e=>?_)
 cases c with
 | true=>exact isTrue_and_nil e
 | false=>exact e
theorem b7a (ha:PT X a tA):PW X (.BoolOp .Or [a] pos) tA:=by
 intro wh pins s σ H Q I h
 refine isTrue_or (thn (ha pins s σ H Q I h) fun c s1 e=>?_)
 cases c with
 | false=>exact isTrue_or_nil e
 | true=>exact e
theorem b4v (ha:PT X a tA) (hb:PW X (.BoolOp .And (b :: rest) pos) tB'):PW X (.BoolOp .And (a :: b :: rest) pos) (tAnd tA tB'):=by
 intro wh pins s σ H Q I h
 refine isTrue_and (thn (ha pins s σ H _ I h) fun c s1 ⟨H1,I1,q1⟩=>?_)
 cases c with
 | true=>exact hb wh pins s1 σ H1 Q I1 q1
 | false=>exact ⟨H1,I1,q1⟩
theorem c6k (ha:PT X a tA) (hb:PW X (.BoolOp .Or (b :: rest) pos) tB'):PW X (.BoolOp .Or (a :: b :: rest) pos) (tOr tA tB'):=by
 intro wh pins s σ H Q I h
 refine isTrue_or (thn (ha pins s σ H _ I h) fun c s1 ⟨H1,I1,q1⟩=>?_)
 cases c with
 | true=>exact ⟨H1,I1,q1⟩
 | false=>exact hb wh pins s1 σ H1 Q I1 q1
theorem b4w (ha:PT X a tA):PT X (.UnaryOp .Not a pos) (tNot tA):=by
 intro pins s σ H Q I h
 exact isTrue_not (ha pins s σ H (fun c H1=>Q (!c) H1) I h)
def f7f (ta tb:TE):TE:=fun σ H Q=>ta σ H fun x H1=>∃c,x=.bl c∧if c=true then tb σ H1 Q else Q (.bl false) H1
def f6z (ta:TE):TE:=fun σ H Q=>ta σ H fun x H1=>∃c,x=.bl c∧Q (.bl (!c)) H1
theorem e6n {op} {t:TE} (h:PE X a t):PE X (.BoolOp op [a] pos) t:=fun pins s σ H Q I hw=>BoolOp_one (h pins s σ H Q I hw)
theorem e6r (ha:PE X a ta) (hb:PE X (.BoolOp .And (b :: rest) pos) tb):PE X (.BoolOp .And (a :: b :: rest) pos) (f7f ta tb):=by
 intro pins s σ H Q I h
 refine BoolOp_and (thn (ha pins s σ H _ I h) fun v s1 ⟨x,H1,I1,r1,q1⟩=>?_)
 obtain ⟨c,rfl,q1⟩:=q1
 cases r1
 refine wpAny_truthy_bool ?_
 cases c with
 | true=>exact hb pins s1 σ H1 Q I1 q1
 | false=>exact ⟨.bl false,H1,I1,rfl,q1⟩
theorem f8u (ha:PE X a ta):PE X (.UnaryOp .Not a pos) (f6z ta):=by
 intro pins s σ H Q I h
 refine UnaryOp_ (thn (ha pins s σ H _ I h) fun v s1 ⟨x,H1,I1,r1,q1⟩=>?_)
 obtain ⟨c,rfl,q1⟩:=q1
 cases r1
 exact not_of (wpAny_truthy_bool ⟨.bl (!c),H1,I1,rfl,q1⟩)
def tIf (t:TT) (ta tb:TE):TE:=fun σ H Q=>t σ H fun c H1=>if c=true then ta σ H1 Q else tb σ H1 Q
theorem e0z {c:Expr} (hc:PT X c tA) (ha:PE X a ta) (hb:PE X b tb):PE X (.IfExp c a b pos) (tIf tA ta tb):=by
 intro pins s σ H Q I h
 refine wpAny_IfExp (thn (hc pins s σ H _ I h) fun d s1 ⟨H1,I1,q1⟩=>?_)
 cases d with
 | true=>exact ha pins s1 σ H1 Q I1 q1
 | false=>exact hb pins s1 σ H1 Q I1 q1
end
end L2
namespace L2
open PySem PySem.Spec PyProof.Rows
def SqL (K:PySem.W.Frag) (H:Hp) (a:Addr) (xs:List V):Prop :=
 Rd H a (.lst xs) ∨
  ∃(o:Obj) (its:Array Value) (n:Nat),K.lookup a=some o∧o.cls=.type "list"∧o.dict=none∧o.data=.seq its n∧its.size<=sizeLine∧a6a xs its.toList
def SqT (K:PySem.W.Frag) (H:Hp) (a:Addr) (xs:List V):Prop :=
 Rd H a (.tup xs) ∨
  ∃(o:Obj) (its:Array Value) (n:Nat),K.lookup a=some o∧o.cls=.type "tuple"∧o.data=.seq its n∧its.size<=sizeLine∧a6a xs its.toList
def absV:Value->Option V
 | .none=>some .non
 | .bool b=>some (.bl b)
 | .int i _=>some (.int i)
 | .str x _=>some (.str x)
 | .bytes b _=>some (.byt b)
 | .float b _=>some (.flt b)
 | .ref a=>some (.ref a)
 | .type n=>some (.ty n)
 | _=>none
theorem RelV.abs {x:V} {u:Value} (r:RelV x u):absV u=some x:=by
 cases x with
 | non=>cases r;rfl
 | bl _=>cases r;rfl
 | int _=>obtain ⟨t,rfl⟩:=r;rfl
 | str _=>obtain ⟨t,rfl⟩:=r;rfl
 | byt _=>obtain ⟨t,rfl⟩:=r;rfl
 | flt _=>obtain ⟨t,rfl⟩:=r;rfl
 | ref _=>cases r;rfl
 | ty _=>cases r;rfl
theorem RelV.inj {x y:V} {u:Value} (r:RelV x u) (q:RelV y u):x=y:=a2v (r.abs.symm.trans q.abs)
theorem a6a.inj:∀{xs ys:List V} {us:List Value},a6a xs us->a6a ys us->xs=ys
 | _,_,_,.nil,.nil=>rfl
 | _,_,_,.cons r t,.cons r' t'=>by rw[r.inj r',a6a.inj t t']
section
variable {X:Cx} {pins:List (Addr×Obj)} {σ:St} {H:Hp} {s:Shared} {a:Addr} {xs ys:List V}
theorem SqL.of {K:PySem.W.Frag} (h:H a=some (.lst xs)):SqL K H a xs:=.inl (.inl h)
theorem SqT.of {K:PySem.W.Frag} (h:H a=some (.tup xs)):SqT K H a xs:=.inl (.inl h)
theorem Inv.list (I:Inv X pins σ H s) (h:SqL X.K H a xs):∃its:List Value,a6a xs its∧PlainL s.heap a its.toArray∧xs.length<=sizeLine:=by
 rcases h with h | ⟨o,its,n,hk,hc,hd,hs,hz,r⟩
 ·obtain ⟨z,its,n,r,e⟩:=h.ok I.hok
  exact ⟨its,r,⟨_,n,e,rfl,rfl,rfl⟩,z⟩
 ·refine ⟨its.toList,r,⟨o,n,I.kIn a o hk,hc,hd,by simpa using hs⟩,?_⟩
  have e:=r.length
  simp only[Array.length_toList] at e
  omega
theorem Inv.tuple (I:Inv X pins σ H s) (h:SqT X.K H a xs):∃its:List Value,a6a xs its∧IsTup s.heap a its.toArray∧xs.length<=sizeLine:=by
 rcases h with h | ⟨o,its,n,hk,hc,hs,hz,r⟩
 ·obtain ⟨z,its,r,p⟩:=h.ok I.hok
  exact ⟨its,r,p,z⟩
 ·refine ⟨its.toList,r,⟨o,I.kIn a o hk,hc,n,by simpa using hs⟩,?_⟩
  have e:=r.length
  simp only[Array.length_toList] at e
  omega
theorem Inv.list_inj (I:Inv X pins σ H s) (h:SqL X.K H a xs) (h':SqL X.K H a ys):xs=ys:=by
 obtain ⟨its,r,⟨o,n,e,_,_,d⟩,_⟩:=I.list h
 obtain ⟨its',r',⟨o',n',e',_,_,d'⟩,_⟩:=I.list h'
 rw[e] at e';cases e'
 rw[d] at d'
 injection d' with d1 _
 have:its=its':=by simpa using congrArg Array.toList d1
 subst this
 exact r.inj r'
theorem Inv.tuple_inj (I:Inv X pins σ H s) (h:SqT X.K H a xs) (h':SqT X.K H a ys):xs=ys:=by
 obtain ⟨its,r,⟨o,e,_,n,d⟩,_⟩:=I.tuple h
 obtain ⟨its',r',⟨o',e',_,n',d'⟩,_⟩:=I.tuple h'
 rw[e] at e';cases e'
 rw[d] at d'
 injection d' with d1 _
 have:its=its':=by simpa using congrArg Array.toList d1
 subst this
 exact r.inj r'
end
abbrev Cx.wish (X:Cx) (E:Value->Shared->Prop):Cx:={ X with xe:=E }
abbrev Cx.nox (X:Cx):Cx:=X.wish fun _ _=>False
theorem Cx.Ok.wish {X:Cx} (ok:X.Ok) (E:Value->Shared->Prop):(X.wish E).Ok :=
 ⟨ok.mod,ok.kind,ok.glob,ok.blt,ok.above,ok.inj,ok.has,ok.cab,ok.hd,ok.frames,ok.stk,ok.exf,ok.bs,ok.bsz,ok.noex,ok.exfs,ok.funs,ok.frf⟩
theorem Cx.Ok.unwish {X:Cx} {E:Value->Shared->Prop} (ok:(X.wish E).Ok):X.Ok :=
 ⟨ok.mod,ok.kind,ok.glob,ok.blt,ok.above,ok.inj,ok.has,ok.cab,ok.hd,ok.frames,ok.stk,ok.exf,ok.bs,ok.bsz,ok.noex,ok.exfs,ok.funs,ok.frf⟩
section
variable {X:Cx} {pins:List (Addr×Obj)} {σ:St} {H:Hp} {s:Shared} {E:Value->Shared->Prop}
theorem Inv.wish (I:Inv X pins σ H s) (E:Value->Shared->Prop):Inv (X.wish E) pins σ H s:=⟨I.ok.wish E,I.os,I.bare,I.base,I.loc,I.cell,I.free,I.freeC,I.pin,I.hok,I.len⟩
theorem Inv.unwish (I:Inv (X.wish E) pins σ H s):Inv X pins σ H s:=⟨I.ok.unwish,I.os,I.bare,I.base,I.loc,I.cell,I.free,I.freeC,I.pin,I.hok,I.len⟩
theorem SP.unwish {D:Ends} {f:Flow} {s':Shared} (h:SP (X.wish E) pins D f s'):SP X pins D f s':=by
 cases f with
 | next=>obtain ⟨σ',H',I,q⟩:=h;exact ⟨σ',H',I.unwish,q⟩
 | brk=>obtain ⟨σ',H',I,q⟩:=h;exact ⟨σ',H',I.unwish,q⟩
 | cont=>obtain ⟨σ',H',I,q⟩:=h;exact ⟨σ',H',I.unwish,q⟩
 | ret u=>obtain ⟨v,σ',H',I,r,q⟩:=h;exact ⟨v,σ',H',I.unwish,r,q⟩
theorem PSs.nox {st:List Stmt} {t:TS} (h:PSs X.nox st t):PSs X st t:=fun pins s σ H D I hw =>
 wpAny_mono (h pins s σ H D (I.wish _) hw) (fun _ _ q=>q.unwish) fun _ _ z=>False.elim z
end
section
variable {X:Cx} {st:Stmt} {rest:List Stmt} {t u:TS} {e:Expr} {te:TE} {pos:Pos}
def f7a:TS:=fun D σ H=>D.nx σ H
def tSeq (t u:TS):TS:=fun D σ H=>t { D with nx:=u D } σ H
theorem a3c:PSs X [] f7a:=fun _ _ σ H _ I h=>wpAny_execs_nil ⟨σ,H,I,h⟩
theorem a0k (h1:PS X st t) (h2:PSs X rest u):PSs X (st :: rest) (tSeq t u):=by
 intro pins s σ H D I h
 refine wpAny_execs_cons (thn (h1 pins s σ H { D with nx:=u D } I h) fun f s1 q=>?_)
 cases f with
 | next =>
  obtain ⟨σ',H',I',q⟩:=q
  exact h2 pins s1 σ' H' D I' q
 | ret v=>exact q
 | brk=>exact q
 | cont=>exact q
theorem a0q (h1:PS X st t):PSs X [st] t:=by
 intro pins s σ H D I h
 refine wpAny_execs_cons (thn (h1 pins s σ H D I h) fun f s1 q=>?_)
 cases f with
 | next=>exact wpAny_execs_nil q
 | ret v=>exact q
 | brk=>exact q
 | cont=>exact q
theorem Inv.quiet {pins:List (Addr×Obj)} {σ:St} {H:Hp} {s:Shared} (I:Inv X pins σ H s):interactive X.env=false:=by simp [interactive,I.ok.kind]
def f7c (te:TE):TS:=fun D σ H=>te σ H fun _ H1=>D.nx σ H1
theorem b6c (he:PE X e te) (hs:swapsWith e none pos.line X.env=pure false:=by rfl):PS X (.Expr e pos) (f7c te):=by
 intro pins s σ H D I h
 exact wpAny_Expr_any (thn (he pins s σ H _ I h) fun v s1 ⟨x,H1,I1,r1,q1⟩=>⟨σ,H1,I1,q1⟩) I.quiet hs
def tRet (te:TE):TS:=fun D σ H=>te σ H D.rt
theorem a1x (he:PE X e te):PS X (.Return (some e) pos) (tRet te):=by
 intro pins s σ H D I h
 exact wpAny_Return_some (thn (he pins s σ H _ I h) fun v s1 ⟨x,H1,I1,r1,q1⟩=>⟨x,σ,H1,I1,r1,q1⟩)
def tIfS (c:TT) (t u:TS):TS:=fun D σ H=>c σ H fun b H1=>if b=true then t D σ H1 else u D σ H1
theorem a5u {c:Expr} {a b:List Stmt} {tc:TT} (hc:PT X c tc) (ha:PSs X a t) (hb:PSs X b u):PS X (.If c a b pos) (tIfS tc t u):=by
 intro pins s σ H D I h
 refine wpAny_If (thn (hc pins s σ H _ I h) fun d s1 ⟨H1,I1,q1⟩=>?_)
 cases d with
 | true=>exact ha pins s1 σ H1 D I1 q1
 | false=>exact hb pins s1 σ H1 D I1 q1
end
abbrev TG:=V->St->Hp->(St->Hp->Prop)->Prop
abbrev TGs:=List V->St->Hp->(St->Hp->Prop)->Prop
def PG (X:Cx) (target:Expr) (t:TG):Prop :=
 ∀(pins:List (Addr×Obj)) (s:Shared) (σ:St) (H:Hp) (v:V) (u:Value) (Q:St->Hp->Prop),Inv X pins σ H s->RelV v u->t v σ H Q →
  wpAny (model X.prog X.w) X.A (assign target X.env u) (fun _ s'=>∃σ' H',Inv X pins σ' H' s'∧Q σ' H') X.xe s
def PGs (X:Cx) (ts:List Expr) (t:TGs):Prop :=
 ∀(pins:List (Addr×Obj)) (s:Shared) (σ:St) (H:Hp) (vs:List V) (us:List Value) (Q:St->Hp->Prop),Inv X pins σ H s->a6a vs us->t vs σ H Q →
  wpAny (model X.prog X.w) X.A (assignInOrder ((assignEach ts X.env).map (·.2)) us) (fun _ s'=>∃σ' H',Inv X pins σ' H' s'∧Q σ' H') X.xe s
abbrev f6f:=V->V->V->Hp->(Hp->Prop)->Prop
def g2c (X:Cx) (t:f6f):Prop :=
 ∀(pins:List (Addr×Obj)) (s:Shared) (σ:St) (H:Hp) (o i v:V) (ov iv u:Value) (Q:Hp->Prop),Inv X pins σ H s->RelV o ov->RelV i iv->RelV v u->t o i v H Q →
  wpAny (model X.prog X.w) X.A (setItem ov iv u) (fun _ s'=>∃H',Inv X pins σ H' s'∧Q H') X.xe s
abbrev TIp:=V->V->Hp->VK->Prop
def PIp (X:Cx) (op:Operator) (t:TIp):Prop :=
 ∀(pins:List (Addr×Obj)) (s:Shared) (σ:St) (H:Hp) (x y:V) (v u:Value) (Q:VK),Inv X pins σ H s->RelV x v->RelV y u->t x y H Q →
  wpAny (model X.prog X.w) X.A (inplaceOp op v u) (EP X pins σ Q) X.xe s
section
variable {X:Cx} {pos:Pos}
def f1h (i:Nat):TG:=fun v σ H Q=>Q (σ.set i (some v)) H
theorem a1i {i:Nat} {x:Str} (hN:X.N.Nodup) (hi:X.N[i]?=some x) (hx:Loc X.env.scope x) (hf:X.fn x=true∨X.env.scope.names.lookup x=some .local:=by first | exact .inl rfl | exact .inr rfl | assumption):PG X (.Name x pos) (f1h i):=by
 intro pins s σ H v u Q I r h
 exact wpAny_assign_Name (c8k I hN hi hx r (fun s' I'=>⟨_,H,I',h⟩) hf)
def gNil:TGs:=fun vs σ H Q=>vs=[]∧Q σ H
def f9y (t:TG) (u:TGs):TGs:=fun vs σ H Q=>∃v r,vs=v :: r∧t v σ H fun σ' H'=>u r σ' H' Q
theorem b0u:PGs X [] gNil:=by
 intro pins s σ H vs us Q I r h
 obtain ⟨e,h⟩:=h
 subst e
 cases r
 exact assignInOrder_nil ⟨σ,H,I,h⟩
theorem a3j {e:Expr} {es:List Expr} {t:TG} {u:TGs} (h1:PG X e t) (h2:PGs X es u)
  (hs:(assignEach (e :: es) X.env).map (·.2)=assign e X.env :: (assignEach es X.env).map (·.2):=by rfl):PGs X (e :: es) (f9y t u):=by
 intro pins s σ H vs us Q I r h
 obtain ⟨v,vr,e1,h⟩:=h
 subst e1
 cases r with
 | cons r rr =>
  rw[hs]
  refine assignInOrder_cons (thn (h1 pins s σ H _ _ _ I r h) fun _ s1 ⟨σ1,H1,I1,q1⟩=>?_)
  exact h2 pins s1 σ1 H1 _ _ Q I1 rr q1
def g1x (K:PySem.W.Frag) (n:Nat) (t:TGs):TG:=fun v σ H Q=>∃a xs,v=.ref a∧SqT K H a xs∧xs.length=n∧t xs σ H Q
theorem c9j {es:List Expr} {k:Nat} {t:TGs} {n:Nat} (hc:X.calm=true) (h:PGs X es t)
  (hn:(assignEach es X.env).length=n:=by rfl) (hst:(assignEach es X.env).findIdx? (·.1)=none:=by rfl):PG X (.Tuple es k pos) (g1x X.K n t):=by
 intro pins s σ H v u Q I r hw
 obtain ⟨a,xs,e1,hq,hl,hw⟩:=hw
 subst e1
 cases r
 obtain ⟨its,rv,ht,hz⟩:=I.tuple hq
 refine assign_Tuple_tuple (I.ok.hd hc) ht (by simp [hn,← hl,rv.length]) hst fun h' hx=>?_
 have I1:Inv X pins σ H { s with heap:=h' }:=I.kept (t':=s.toks) fun b o e=>hx b o (a2q (Heap.lt_size e)) e
 exact h pins _ σ H xs _ Q I1 (by simpa using rv) hw
def gSub (to ti:TE) (t:f6f):TG:=fun v σ H Q=>to σ H fun o H1=>ti σ H1 fun i H2=>t o i v H2 fun H3=>Q σ H3
theorem b0j {o i : Expr} {to ti : TE} {t : f6f} (ho : PE X o to) (hi : PE X i ti) (hs : g2c X t)
    (ha : ∀ v, assign (.Subscript o i pos) X.env v = (do
      let ov ← holding [v] (eval o X.env)
      let iv ← holding [v, ov] (eval i X.env)
      standAt pos
      holding [v, ov, iv] (setItem ov iv v)
      release [v, ov, iv] []) := by intro _; rfl) : PG X (.Subscript o i pos) (gSub to ti t) := by
  intro pins s σ H v u Q I r h
  rw [ha]
  refine wpAny_bind (wpAny_holding (thn (ho pins s σ H _ I h) fun ov s1 ⟨x, H1, I1, r1, q1⟩ => ?_))
  refine wpAny_bind (wpAny_holding (thn (hi pins s1 σ H1 _ I1 q1) fun iv s2 ⟨y, H2, I2, r2, q2⟩ => ?_))
  refine wpAny_bind (wpAny_standAt (wpAny_bind (wpAny_holding (thn (hs pins s2 σ H2 x y v ov iv u _ I2 r1 r2 r q2) fun _ s3 ⟨H3, I3, q3⟩ => ?_))))
  exact wpAny_release ⟨σ, H3, I3, q3⟩
def g0r (te:TE) (g:TG):TS:=fun D σ H=>te σ H fun x H1=>g x σ H1 D.nx
theorem a8l {tg e:Expr} {te:TE} {g:TG} (he:PE X e te) (hg:PG X tg g) (hs:swapsWithSole [tg] e pos.line X.env=pure false:=by rfl) (hw:swappedStores [tg] e X.env=pure none:=by rfl)
  (h1:(assignEach [tg] X.env).map (·.2)=[assign tg X.env]:=by rfl):PS X (.Assign [tg] e pos) (g0r te g):=by
 intro pins s σ H D I h
 refine wpAny_Assign_stores (thn (he pins s σ H _ I h) fun v s1 ⟨x,H1,I1,r1,q1⟩=>?_) hs hw
 rw[h1]
 exact thn (hg pins s1 σ H1 x v _ I1 r1 q1) fun _ s2 q=>q
theorem a1z {i:Nat} {x:Str} {e:Expr} {te:TE} {pos':Pos} (hN:X.N.Nodup) (hi:X.N[i]?=some x) (hx:Loc X.env.scope x) (he:PE X e te) (hs:swapsWith e (some (.Name x pos')) pos.line X.env=pure false:=by rfl) (hf:X.fn x=true∨X.env.scope.names.lookup x=some .local:=by first | exact .inl rfl | exact .inr rfl | assumption) :
  PS X (.Assign [.Name x pos'] e pos) (g0r te (f1h i)):=by
 intro pins s σ H D I h
 refine wpAny_Assign_Name (thn (he pins s σ H _ I h) fun v s1 ⟨y,H1,I1,r1,q1⟩=>?_) hs
 exact c8k I1 hN hi hx r1 (fun s2 I2=>⟨_,H1,I2,q1⟩) hf
def tPar (i j:Nat) (ta:TA):TS:=fun D σ H=>ta σ H fun vs H1=>∃v w,vs=[v,w]∧D.nx ((σ.set i (some v)).set j (some w)) H1
theorem f2i {i j : Nat} {x y : Str} {a b : Expr} {ta : TA} {px py pt : Pos} {kt k2 pt2} (hc : X.calm = true) (hN : X.N.Nodup) (hi : X.N[i]? = some x) (hj : X.N[j]? = some y) (hij : i ≠ j)
    (hx : X.env.scope.names.lookup x = some .local) (hy : X.env.scope.names.lookup y = some .local) (ha : PA X [a, b] ta)
    (hw : swappedStores [.Tuple [.Name x px, .Name y py] kt pt] (.Tuple [a, b] k2 pt2) X.env = pure (some [x, y]))
    (hs : swapsWithSole [.Tuple [.Name x px, .Name y py] kt pt] (.Tuple [a, b] k2 pt2) pos.line X.env = pure false := by rfl) :
    PS X (.Assign [.Tuple [.Name x px, .Name y py] kt pt] (.Tuple [a, b] k2 pt2) pos) (tPar i j ta) := by
  intro pins s σ H D I h
  rw [exec_Assign_arm]
  refine wpAny_bind (wpAny_standAt ?_)
  rw [hs]
  refine wpAny_bind (wpAny_pure ?_)
  rw [if_neg (by decide)]
  refine wpAny_bind (Tuple_ (thn (ha _ pins s σ H _ I h) fun us s1 ⟨vs, H1, I1, r1, q1⟩ => ?_))
  obtain ⟨v, w, e1, q1⟩ := q1
  subst e1
  obtain ⟨u1, u2, rfl, rv, rw'⟩ : ∃ u1 u2, us = [u1, u2] ∧ RelV v u1 ∧ RelV w u2 := by
    cases r1 with
    | cons p q =>
      cases q with
      | cons p' q' =>
        cases q'
        exact ⟨_, _, rfl, p, p'⟩
  refine wpAny_newObj_type ?_ (by show 2 ≤ sizeLine; decide)
  have I2 : Inv X pins σ H1 { s1 with heap := s1.heap.push { cls := .type "tuple", data := .seq [u1, u2].toArray } } := I1.kept (t' := s1.toks) fun b o e => Heap.get?_push_of_some _ e
  rw [hw]
  refine wpAny_bind (wpAny_pure ?_)
  show wpAny (model X.prog X.w) X.A (do rule "assign.swapped-stores"; let items ← unpackItems (.ref s1.heap.objs.size) 2 none; assignInOrder [fun v => bindName X.env y v, fun v => bindName X.env x v] items.reverse; pure Flow.next) _ _ _
  refine wpAny_bind (wpAny_rule (wpAny_bind (unpackItems_tuple (items := #[u1, u2]) (I.ok.hd hc) (IsTup.new s1.heap _) fun h' hx' => ?_)))
  have I3 := I2.kept (h' := h') (t' := s1.toks) fun b o e => hx' b o (a2q (Heap.lt_size e)) e
  show wpAny _ _ (assignInOrder [fun v => bindName X.env y v, fun v => bindName X.env x v] [u2, u1] >>= fun _ => pure Flow.next) _ _ _
  refine wpAny_bind (assignInOrder_cons (wpAny_bindName (c8k I3 hN hj (.inl hy) rw' (fun s2 I4 => ?_) (.inr hy))))
  refine assignInOrder_cons (wpAny_bindName (c8k I4 hN hi (.inl hx) rv (fun s3 I5 => assignInOrder_nil (wpAny_pure ?_)) (.inr hx)))
  rw [List.set_comm _ _ (Ne.symm hij)] at I5
  exact ⟨_, H1, I5, q1⟩
def f7e (to ti te:TE) (tget:V->V->Hp->VK->Prop) (tip:TIp) (tset:f6f):TS:=fun D σ H=>to σ H fun o H1=>ti σ H1 fun i H2=>tget o i H2 fun x H3=>te σ H3 fun y H4=>tip x y H4 fun z H5=>tset o i z H5 fun H6=>D.nx σ H6
def PGet (X:Cx) (t:V->V->Hp->VK->Prop):Prop :=
 ∀(pins:List (Addr×Obj)) (s:Shared) (σ:St) (H:Hp) (o i:V) (ov iv:Value) (Q:VK),Inv X pins σ H s->RelV o ov->RelV i iv->t o i H Q →
  wpAny (model X.prog X.w) X.A (getItem ov iv) (EP X pins σ Q) X.xe s
theorem f4y {o i e : Expr} {to ti te : TE} {tget : V → V → Hp → VK → Prop} {tip : TIp} {tset : f6f} {op : Operator} {tpos : Pos} (ho : PE X o to) (hi : PE X i ti) (hg : PGet X tget) (he : PE X e te) (hp : PIp X op tip) (hs : g2c X tset)
    (ha : ∀ ov iv new, augStore i ov iv new = (do holding [new, ov, iv] (setItem ov iv new); release [new, ov, iv] []; pure .next) := by intros; rfl) : PS X (.AugAssign (.Subscript o i tpos) op e pos) (f7e to ti te tget tip tset) := by
  intro pins s σ H D I h
  refine wpAny_AugAssign_SubscriptAny (thn (ho pins s σ H _ I h) fun ov s1 ⟨x1, H1, I1, r1, q1⟩ => ?_) ha
  refine thn (hi pins s1 σ H1 _ I1 q1) fun iv s2 ⟨x2, H2, I2, r2, q2⟩ => ?_
  refine thn (hg pins s2 σ H2 x1 x2 ov iv _ I2 r1 r2 q2) fun old s3 ⟨x3, H3, I3, r3, q3⟩ => ?_
  refine thn (he pins s3 σ H3 _ I3 q3) fun v s4 ⟨x4, H4, I4, r4, q4⟩ => ?_
  refine thn (hp pins s4 σ H4 x3 x4 old v _ I4 r3 r4 q4) fun new s5 ⟨x5, H5, I5, r5, q5⟩ => ?_
  exact thn (hs pins s5 σ H5 x1 x2 x5 ov iv new _ I5 r1 r2 r5 q5) fun _ s6 ⟨H6, I6, q6⟩ => ⟨σ, H6, I6, q6⟩
def ipI (f:Int->Int->Int):TIp:=fun x y H Q=>∃i j,x=.int i∧y=.int j∧Q (.int (f i j)) H
theorem f9r:PIp X .Add (ipI fun i j=>i+j):=by
 intro pins s σ H x y v u Q I r1 r2 h
 obtain ⟨i,j,e1,e2,q⟩:=h
 subst e1;subst e2
 obtain ⟨t,rfl⟩:=r1
 obtain ⟨t',rfl⟩:=r2
 exact iadd_int ⟨.int _,H,I.tok _,⟨_,rfl⟩,q⟩
end
section
variable {X:Cx} {pos:Pos}
def f2b (c:TT) (tb:TS):TS:=fun D σ H=>∃W:Nat->St->Hp->Prop,(∃m,W m σ H)∧∀m σ H,W m σ H →
 c σ H fun b H1=>if b=true then ∃N:St->Hp->Prop,(∀σ' H',N σ' H'->∃m',m' < m∧W m' σ' H')∧tb { D with nx:=N,ct:=N,bk:=D.nx } σ H1 else D.nx σ H1
theorem d3u {c:Expr} {body:List Stmt} {tc:TT} {tb:TS} (hp:PassesOwn (model X.prog X.w) X.A X.env X.xe) (hc:PT X c tc) (hb:PSs X body tb):PS X (.While c body [] pos) (f2b tc tb):=by
 intro pins s σ H D I h
 obtain ⟨W,⟨m0,w0⟩,turn⟩:=h
 refine wpAny_While (codeAny_whileLoop (fun n s'=>∃σ' H',Inv X pins σ' H' s'∧W n σ' H') ?_ m0 ⟨σ,H,I,w0⟩)
 rintro n s1 ⟨σ1,H1,I1,w1⟩
 refine wpAny_passesOwn hp (thn (hc pins s1 σ1 H1 _ I1 (turn n σ1 H1 w1)) fun b s2 ⟨H2,I2,q2⟩=>?_)
 cases b with
 | true =>
  obtain ⟨N,hN,q2⟩:=q2
  rw[if_pos rfl]
  refine wpAny_passesOwn hp (thn (hb pins s2 σ1 H2 _ I2 q2) fun f s3 q3=>?_)
  cases f with
  | next =>
   obtain ⟨σ3,H3,I3,n3⟩:=q3
   obtain ⟨m',hm,w3⟩:=hN σ3 H3 n3
   exact ⟨m',hm,σ3,H3,I3,w3⟩
  | cont =>
   obtain ⟨σ3,H3,I3,n3⟩:=q3
   obtain ⟨m',hm,w3⟩:=hN σ3 H3 n3
   exact ⟨m',hm,σ3,H3,I3,w3⟩
  | brk=>exact q3
  | ret v=>exact q3
 | false =>
  rw[if_neg a1g]
  exact wpAny_execs_nil ⟨σ1,H2,I2,q2⟩
end
structure It where
 go:Nat->Hp->Prop
 yld:Nat->Hp->V->Hp->Prop
 stop:Nat->Hp->Prop
def c7e (X:Cx) (pins:List (Addr×Obj)) (H:Hp) (b:Addr):Prop :=
 H b=none∧b≠X.env.locals∧b∉X.fs∧(b∈X.ex∨X.s₀.heap.objs.size<=b)∧(∀x c,X.env.cells.lookup x=some c->c≠b)∧∀p∈X.pn++pins,p.1≠b
theorem Inv.fpOk {X:Cx} {pins:List (Addr×Obj)} {σ:St} {H H':Hp} {s:Shared} {b:Addr} (I:Inv X pins σ H s) (hb:s.heap.objs.size<=b) (hn:H' b=none):c7e X pins H' b:=by
 refine ⟨hn,f1y (a1u I.lt hb),I.nofs hb,.inr (a0d I.sz hb),fun x c e z=>?_,fun p hp z=>?_⟩
 ·obtain ⟨v,q⟩:=I.cell x c e
  exact absurd (a1u q.lt (by rw[z];exact hb)) (a5f _)
 ·exact absurd (a1u (Heap.lt_size (I.pin p hp).1) (by rw[z];exact hb)) (a5f _)
structure Turn (P:Program) (w:World) (K:PySem.W.Frag) (tg:Expr) (J:It) (fp:List Addr) (it:Addr) (tn:Nat->Heap->Prop):Prop where
 mem:it∈fp
 obj:∀i h,tn i h->∀b∈fp,∃o,h.get? b=some o∧∀v,o.data≠.cell v
 keep:∀i h h',tn i h->(∀b∈fp,∀o,h.get? b=some o->h'.get? b=some o)->tn i h'
 item:∀(X:Cx),X.prog=P->X.w=w->X.K=K->X.calm=true->∀(i:Nat) (pins:List (Addr×Obj)) (s:Shared) (σ:St) (H:Hp) (E:Value->Shared->Prop),Inv X pins σ H s->(∀b∈fp,c7e X pins H b)->tn i s.heap->J.go i H →
  wpAny (model P w) X.A (pyNext (.ref it)) (fun r s1=>∃u,r=some u ∧
   wpAny (model P w) X.A (letOwnedTupleGo tg (.ref it) u) (fun _ s2=>∃x H',Inv X pins σ H' s2∧RelV x u∧J.yld i H x H'∧tn (i+1) s2.heap∧∀b∈fp,H' b=none) E s1) E s
 done:∀(X:Cx),X.prog=P->X.w=w->X.K=K->X.calm=true->∀(i:Nat) (pins:List (Addr×Obj)) (s:Shared) (σ:St) (H:Hp) (E:Value->Shared->Prop),Inv X pins σ H s->(∀b∈fp,c7e X pins H b)->tn i s.heap->J.stop i H →
  wpAny (model P w) X.A (pyNext (.ref it)) (fun r s1=>r=none∧Inv X pins σ H s1) E s
 self:∀(A:Around) (i:Nat) (s:Shared) (Q:Value->Shared->Prop) (E:Value->Shared->Prop),tn i s.heap->Q (.ref it) s->wpAny (model P w) A (pyIter (.ref it)) Q E s
abbrev TI:=St->Hp->(It->Hp->Prop)->Prop
def PIE (X:Cx) (pins:List (Addr×Obj)) (σ:St) (tg:Expr) (R:It->Hp->Prop) (itv:Value) (s2:Shared):Prop :=
 ∃(it:Addr) (fp:List Addr) (tn:Nat->Heap->Prop) (J:It) (H':Hp),itv=.ref it∧Inv X pins σ H' s2∧Turn X.prog X.w X.K tg J fp it tn∧tn 0 s2.heap∧(∀b∈fp,c7e X pins H' b)∧R J H'
def PI (X:Cx) (tg iter:Expr) (wi:TI):Prop :=
 ∀(pins:List (Addr×Obj)) (s:Shared) (σ:St) (H:Hp) (R:It->Hp->Prop),Inv X pins σ H s->wi σ H R →
  wpAny (model X.prog X.w) X.A (eval iter X.env) (fun v s1=>wpAny (model X.prog X.w) X.A (pyIter v) (PIE X pins σ tg R) X.xe s1) X.xe s
theorem f5n {M : Model} {A : Around} {E : Value → Shared → Prop} {s : Shared} {tg : Expr} {it : Addr} {u : Value} {o : Obj} {n : String} {vs : Array Value} {Q : Unit → Shared → Prop} (ho : s.heap.get? it = some o) (hc : o.cls = .type n) (hd : o.data = .fields vs)
    (hn : ["enumerate", "zip", "dict_itemiterator", "dict_reverseitemiterator", "odict_iterator", "itertools.zip_longest", "itertools.pairwise"].contains n = false) (hQ : Q () s) : wpAny M A (letOwnedTupleGo tg (.ref it) u) Q E s := by
  unfold letOwnedTupleGo
  cases tg <;> first
    | exact wpAny_pure hQ
    | (cases u <;> first
        | exact wpAny_pure hQ
        | (refine wpAny_bind (wpAny_load ho ?_)
           rw [hc, hd]
           show wpAny M A (if (["enumerate", "zip", "dict_itemiterator", "dict_reverseitemiterator", "odict_iterator", "itertools.zip_longest", "itertools.pairwise"].contains n && vs[0]? == some (rawInt _)) = true then _ else _) Q E s
           rw [if_neg (by intro h; rw [hn, Bool.false_and] at h; cases h)]
           exact wpAny_pure hQ))

def Itl (K:PySem.W.Frag) (a:Addr):It :=
 ⟨fun i H=>∃xs x,SqL K H a xs∧xs[i]?=some x,fun i H x H'=>H'=H∧∀xs,SqL K H a xs->xs[i]?=some x,fun i H=>∃xs,SqL K H a xs∧xs.length<=i⟩
def Itt (K:PySem.W.Frag) (a:Addr):It :=
 ⟨fun i H=>∃xs x,SqT K H a xs∧xs[i]?=some x,fun i H x H'=>H'=H∧∀xs,SqT K H a xs->xs[i]?=some x,fun i H=>∃xs,SqT K H a xs∧xs.length<=i⟩
def Itr (lo:Int) (n:Nat):It:=⟨fun i _=>i < n,fun i H x H'=>H'=H∧x=.int (lo+i),fun i _=>n<=i⟩
theorem e4o {P:Program} {w:World} {K:PySem.W.Frag} {tg:Expr} (a it:Addr):Turn P w K tg (Itl K a) [it] it (fun i h=>h.IsListIter it a i) where
 mem:=by simp
 obj:=fun i h st b hb=>by
  have e:b=it:=by simpa using hb
  subst e
  obtain ⟨o,e,c,d⟩:=st
  exact ⟨o,e,fun v z=>by rw[d] at z;cases z⟩
 keep:=fun i h h' st k=>st.at fun o e=>k it (by simp) o e
 item:=by
  intro X hP hw hK hc i pins s σ H E I hf st hg
  subst hP hw hK
  obtain ⟨xs,x,hq,hx⟩:=hg
  obtain ⟨its,rv,p,hz⟩:=I.list hq
  obtain ⟨u,hu,ru⟩:=rv.get hx
  obtain ⟨f0,f1,f2,f3,f4,f5⟩:=hf it (by simp)
  refine wpAny_pyNext_list_item st p.isList (x:=u) (by simpa using hu) fun h' st' sb=>?_
  have I1:Inv X pins σ H { s with heap:=h' }:=I.turned (t':=s.toks) (fun b o hb e=>(sb.2 b hb).trans e) f0 f1 f3 f4 f5
  obtain ⟨o,e,c,d⟩:=id st'
  exact ⟨u,rfl,f5n (s:={ s with heap:=h' }) e c d (by decide) ⟨x,H,I1,ru,⟨rfl,fun ys hy=>by rw[I.list_inj hy hq];exact hx⟩,st',fun b hb=>(hf b hb).1⟩⟩
 done:=by
  intro X hP hw hK hc i pins s σ H E I hf st hg
  subst hP hw hK
  obtain ⟨xs,hq,hx⟩:=hg
  obtain ⟨its,rv,p,hz⟩:=I.list hq
  obtain ⟨f0,f1,f2,f3,f4,f5⟩:=hf it (by simp)
  have hl:=rv.length
  exact wpAny_pyNext_list_end (I.ok.hd hc) st p.isList (by simp;omega) fun h' eb=>⟨rfl,I.turned (t':=s.toks) (fun b o hb e=>eb b o hb e) f0 f1 f3 f4 f5⟩
 self:=fun _ _ _ _ _ st h=>wpAny_pyIter_listiter st h
theorem e2r {P:Program} {w:World} {K:PySem.W.Frag} {tg:Expr} (a it:Addr):Turn P w K tg (Itt K a) [it] it (fun i h=>h.IsTupleIter it a i) where
 mem:=by simp
 obj:=fun i h st b hb=>by
  have e:b=it:=by simpa using hb
  subst e
  obtain ⟨o,e,c,d⟩:=st
  exact ⟨o,e,fun v z=>by rw[d] at z;cases z⟩
 keep:=fun i h h' st k=>st.at fun o e=>k it (by simp) o e
 item:=by
  intro X hP hw hK hc i pins s σ H E I hf st hg
  subst hP hw hK
  obtain ⟨xs,x,hq,hx⟩:=hg
  obtain ⟨its,rv,p,hz⟩:=I.tuple hq
  obtain ⟨u,hu,ru⟩:=rv.get hx
  obtain ⟨f0,f1,f2,f3,f4,f5⟩:=hf it (by simp)
  refine wpAny_pyNext_tuple_item st (show s.heap.IsTuple a its.toArray from p) (x:=u) (by simpa using hu) fun h' st' sb=>?_
  have I1:Inv X pins σ H { s with heap:=h' }:=I.turned (t':=s.toks) (fun b o hb e=>(sb.2 b hb).trans e) f0 f1 f3 f4 f5
  obtain ⟨o,e,c,d⟩:=id st'
  exact ⟨u,rfl,f5n (s:={ s with heap:=h' }) e c d (by decide) ⟨x,H,I1,ru,⟨rfl,fun ys hy=>by rw[I.tuple_inj hy hq];exact hx⟩,st',fun b hb=>(hf b hb).1⟩⟩
 done:=by
  intro X hP hw hK hc i pins s σ H E I hf st hg
  subst hP hw hK
  obtain ⟨xs,hq,hx⟩:=hg
  obtain ⟨its,rv,p,hz⟩:=I.tuple hq
  obtain ⟨f0,f1,f2,f3,f4,f5⟩:=hf it (by simp)
  have hl:=rv.length
  exact wpAny_pyNext_tuple_end (I.ok.hd hc) st (show s.heap.IsTuple a its.toArray from p) (by simp;omega) fun h' eb=>⟨rfl,I.turned (t':=s.toks) (fun b o hb e=>eb b o hb e) f0 f1 f3 f4 f5⟩
 self:=fun _ _ _ _ _ st h=>wpAny_pyIter_tupleiter st h
theorem e2s {P:Program} {w:World} {K:PySem.W.Frag} {tg:Expr} (it:Addr) (lo:Int) (n:Nat):Turn P w K tg (Itr lo n) [it] it (fun i h=>IsRangeIter h it (lo+(i:Nat)*1) ((n:Int) - (i:Nat)) 1) where
 mem:=by simp
 obj:=fun i h st b hb=>by
  have e:b=it:=by simpa using hb
  subst e
  exact ⟨_,st,fun v z=>by
   have z':Data.fields _=Data.cell v:=z
   cases z'⟩
 keep:=fun i h h' st k=>k it (by simp) _ st
 item:=by
  intro X hP hw hK hc i pins s σ H E I hf st hg
  subst hP hw hK
  obtain ⟨f0,f1,f2,f3,f4,f5⟩:=hf it (by simp)
  have W:=Walks.range (prog:=X.prog) (w:=X.w) (I.ok.hd hc) it lo 1 n
  refine W.item i s _ _ hg st fun v h' tk hv st' kk=>?_
  obtain ⟨t,rfl⟩:=hv
  have I1:Inv X pins σ H { s with heap:=h',toks:=tk }:=I.turned (fun b o hb e=>kk b o (by simpa using hb) e) f0 f1 f3 f4 f5
  refine ⟨_,rfl,f5n (s:={ s with heap:=h',toks:=tk }) (n:="range_iterator") st' rfl rfl (by decide) ⟨.int (lo+i),H,I1,⟨t,?_⟩,⟨rfl,rfl⟩,st',fun b hb=>(hf b hb).1⟩⟩
  rw[Int.mul_one]
 done:=by
  intro X hP hw hK hc i pins s σ H E I hf st hg
  subst hP hw hK
  obtain ⟨f0,f1,f2,f3,f4,f5⟩:=hf it (by simp)
  exact wpAny_pyNext_range_end (I.ok.hd hc) st (by have:n<=i:=hg;omega) fun h' eb=>⟨rfl,I.turned (t':=s.toks) (fun b o hb e=>eb b o hb e) f0 f1 f3 f4 f5⟩
 self:=fun _ _ _ _ _ st h=>wpAny_pyIter_rangeiter st h
end L2
namespace L2
open PySem PySem.Spec PyProof.Rows
section
variable {X:Cx} {tg:Expr}
def f5m (K:PySem.W.Frag) (tl:TE):TI:=fun σ H R=>tl σ H fun x H1=>∃a,x=.ref a∧(∃xs,SqL K H1 a xs)∧R (Itl K a) H1
def iTup (K:PySem.W.Frag) (tl:TE):TI:=fun σ H R=>tl σ H fun x H1=>∃a,x=.ref a∧(∃xs,SqT K H1 a xs)∧R (Itt K a) H1
theorem a4c {l:Expr} {tl:TE} (hl:PE X l tl):PI X tg l (f5m X.K tl):=by
 intro pins s σ H R I h
 refine thn (hl pins s σ H _ I h) fun v s1 ⟨x,H1,I1,r1,q1⟩=>?_
 obtain ⟨a,e,⟨xs,hq⟩,q⟩:=q1
 subst e
 cases r1
 obtain ⟨its,rv,p,hz⟩:=I1.list hq
 refine wpAny_pyIter_list p.isList ?_
 refine ⟨s1.heap.objs.size,[s1.heap.objs.size],_,_,H1,rfl,I1.kept (t':=s1.toks) fun b o e=>Heap.get?_push_of_some _ e,e4o a _,⟨_,Heap.get?_push_size _ rfl,rfl,rfl⟩,fun b hb=>?_,q⟩
 have e:b=s1.heap.objs.size:=by simpa using hb
 subst e
 exact I1.fpOk (a0h _) (I1.hok.fresh (a0h _))
theorem f8s {l:Expr} {tl:TE} (hl:PE X l tl):PI X tg l (iTup X.K tl):=by
 intro pins s σ H R I h
 refine thn (hl pins s σ H _ I h) fun v s1 ⟨x,H1,I1,r1,q1⟩=>?_
 obtain ⟨a,e,⟨xs,hq⟩,q⟩:=q1
 subst e
 cases r1
 obtain ⟨its,rv,p,hz⟩:=I1.tuple hq
 refine wpAny_pyIter_tuple (show s1.heap.IsTuple a its.toArray from p) ?_
 refine ⟨s1.heap.objs.size,[s1.heap.objs.size],_,_,H1,rfl,I1.kept (t':=s1.toks) fun b o e=>Heap.get?_push_of_some _ e,e2r a _,⟨_,Heap.get?_push_size _ rfl,rfl,rfl⟩,fun b hb=>?_,q⟩
 have e:b=s1.heap.objs.size:=by simpa using hb
 subst e
 exact I1.fpOk (a0h _) (I1.hok.fresh (a0h _))
theorem e0v {pins:List (Addr×Obj)} {σ:St} {H:Hp} {s:Shared} {R:It->Hp->Prop} {E:Value->Shared->Prop} {lo hi:Int} {t u v:Tok} {tk:Nat} (I:Inv X pins σ H s) (h1:-(2^62)<=lo) (h2:lo < 2^62) (h3:-(2^62)<=hi) (h4:hi < 2^62)
  (q:R (Itr lo (hi - lo).toNat) H):wpAny (model X.prog X.w) X.A (pyIter (.ref s.heap.objs.size)) (PIE X pins σ tg R) E { s with heap:=s.heap.push { cls:=.type "range",data:=.fields #[.int lo t,.int hi u,.int 1 v] },toks:=tk }:=by
 refine wpAny_pyIter_range (IsRange.new ..) (small_one h1 h2 h3 h4) ?_
 have I1:Inv X pins σ H { s with heap:=s.heap.push { cls:=.type "range",data:=.fields #[.int lo t,.int hi u,.int 1 v] },toks:=tk }:=I.kept fun b o e=>Heap.get?_push_of_some _ e
 refine ⟨(s.heap.push { cls:=.type "range",data:=.fields #[.int lo t,.int hi u,.int 1 v] }).objs.size,[(s.heap.push { cls:=.type "range",data:=.fields #[.int lo t,.int hi u,.int 1 v] }).objs.size],_,_,H,rfl,
  I1.kept (t':=tk) fun b o e=>Heap.get?_push_of_some _ e,e2s _ lo (hi - lo).toNat,?_,fun b hb=>?_,q⟩
 ·have e1:lo+((0:Nat):Int)*1=lo:=by simp
  have e2:(((hi - lo).toNat:Nat):Int) - ((0:Nat):Int)=Builtin.Range.rangeSize lo hi 1:=by rw[rangeSize_one];split <;> omega
  show IsRangeIter _ _ (lo+((0:Nat):Int)*1) ((((hi - lo).toNat:Nat):Int) - ((0:Nat):Int)) 1
  rw[e1,e2]
  exact Heap.get?_push_size _ rfl
 ·have e:b=(s.heap.push { cls:=.type "range",data:=.fields #[.int lo t,.int hi u,.int 1 v] }).objs.size:=by simpa using hb
  subst e
  exact I1.fpOk (a0h _) (I1.hok.fresh (a0h _))
def f9t (ta:TA):TI:=fun σ H R=>ta σ H fun vs H1=>∃j:Int,vs=[.int j]∧-(2^62)<=j∧j < 2^62∧R (Itr 0 j.toNat) H1
def f9s (ta:TA):TI:=fun σ H R=>ta σ H fun vs H1=>∃i j:Int,vs=[.int i,.int j]∧(-(2^62)<=i∧i < 2^62∧-(2^62)<=j∧j < 2^62)∧R (Itr i (j - i).toNat) H1
theorem a3u {a:Expr} {ta:TA} {p pos:Pos} (hg:Gl X "range") (hm:X.mg "range"=none) (ha:PA X [a] ta) (hs:starEach [a] X.env=[(false,eval a X.env)]:=by rfl):PI X tg (.Call (.Name "range" p) [a] [] pos) (f9t ta):=by
 intro pins s σ H R I h
 refine Call_ (b7e I hg hm boot_range (PyProof.Rows.callWith_type1 (thn (ha pos pins s σ H _ I h) fun us s1 ⟨vs,H1,I1,r1,q1⟩=>?_) hs rfl))
 obtain ⟨j,e,q1,q2,q⟩:=q1
 subst e
 cases r1 with
 | cons r rr =>
  cases rr
  obtain ⟨t,rfl⟩:=r
  exact call_range_1 (e0v I1 (by omega) (by omega) q1 q2 (by simpa using q))
theorem e6l {a b:Expr} {ta:TA} {p pos:Pos} (hg:Gl X "range") (hm:X.mg "range"=none) (ha:PA X [a,b] ta) (hs:starEach [a,b] X.env=[(false,eval a X.env),(false,eval b X.env)]:=by rfl) (hs2:starEach [b] X.env=[(false,eval b X.env)]:=by rfl) :
  PI X tg (.Call (.Name "range" p) [a,b] [] pos) (f9s ta):=by
 intro pins s σ H R I h
 refine Call_ (b7e I hg hm boot_range (PyProof.Rows.callWith_type1 (thn (ha pos pins s σ H _ I h) fun us s1 ⟨vs,H1,I1,r1,q1⟩=>?_) (by rw[hs,hs2]) (by rw[hs2];rfl)))
 obtain ⟨i,j,e,⟨q1,q2,q3,q4⟩,q⟩:=q1
 subst e
 cases r1 with
 | cons r rr =>
  cases rr with
  | cons r' rr =>
   cases rr
   obtain ⟨t,rfl⟩:=r
   obtain ⟨t',rfl⟩:=r'
   exact call_range_2 (e0v I1 q1 q2 q3 q4 q)
def tFor (wi:TI) (g:TG) (tb:TS):TS:=fun D σ H=>wi σ H fun J H1=>∃W:Nat->Nat->St->Hp->Prop,(∃m,W 0 m σ H1)∧∀i m σ H,W i m σ H →
 (J.stop i H∧D.nx σ H)∨(J.go i H∧∃N:St->Hp->Prop,(∀σ' H',N σ' H'->∃m',m' < m∧W (i+1) m' σ' H')∧∀x H',J.yld i H x H'->g x σ H' fun σ2 H2=>tb { D with nx:=N,ct:=N,bk:=D.nx } σ2 H2)
def d6m (fp:List Addr) (h:Heap):List (Addr×Obj):=fp.filterMap fun b=>(h.get? b).map fun o=>(b,o)
theorem c1c {fp:List Addr} {h:Heap} {b:Addr} {o:Obj} (hb:b∈fp) (e:h.get? b=some o):(b,o)∈d6m fp h:=List.mem_filterMap.mpr ⟨b,hb,by rw[e];rfl⟩
theorem e7a {fp:List Addr} {h:Heap} {p:Addr×Obj} (hp:p∈d6m fp h):p.1∈fp∧h.get? p.1=some p.2:=by
 obtain ⟨b,hb,e⟩:=List.mem_filterMap.mp hp
 cases q:h.get? b with
 | none=>rw[q] at e;cases e
 | some o =>
  rw[q] at e
  have e':(b,o)=p:=a2v e
  subst e'
  exact ⟨hb,q⟩
theorem Inv.pinned {pins:List (Addr×Obj)} {σ:St} {H:Hp} {s:Shared} {fp:List Addr} (I:Inv X pins σ H s) (hf:∀b∈fp,c7e X pins H b) (ho:∀b∈fp,∃o,s.heap.get? b=some o∧∀v,o.data≠.cell v):Inv X (pins++d6m fp s.heap) σ H s :=
 I.pins_of fun p hp=>(a0w.mp hp).elim (fun z=>I.pin p (a2e _ z)) fun z=>by
  obtain ⟨hb,e⟩:=e7a z
  obtain ⟨f0,f1,f2,_⟩:=hf p.1 hb
  obtain ⟨o,e',d⟩:=ho p.1 hb
  rw[e] at e';cases e'
  exact ⟨e,f0,f1,f2,d⟩
theorem Inv.unpinned {pins pl:List (Addr×Obj)} {σ:St} {H:Hp} {s:Shared} (I:Inv X (pins++pl) σ H s):Inv X pins σ H s:=I.pins_of fun p hp=>I.pin p (a2e _ (c1z _ hp))
theorem a6t {iter : Expr} {body : List Stmt} {wi : TI} {g : TG} {tb : TS} {pos : Pos} (hp : PassesOwn (model X.prog X.w) X.A X.env X.xe) (hc : X.calm = true) (hi : PI X tg iter wi) (hg : PG X tg g) (hb : PSs X body tb)
    (hs : ∀ x, foldedSetIterable iter X.env x = pure x := by intro _; rfl) : PS X (.For tg iter body [] pos) (tFor wi g tb) := by
  intro pins s σ H D I h
  refine wpAny_For (thn (hi pins s σ H _ I h) fun v s1 h1 => thn h1 fun itv s2 h2 => ?_) hs
  obtain ⟨it, fp, tn, J, H2, e, I2, T, st2, f2, W, ⟨m0, w0⟩, turn⟩ := h2
  subst e
  -- what stays true of the iterator's objects through the loop
  have stat : ∀ {H' : Hp}, (∀ b ∈ fp, H' b = none) → ∀ b ∈ fp, c7e X pins H' b := fun hn b hb => ⟨hn b hb, (f2 b hb).2⟩
  refine codeAny_forLoop_any (fun n s' => ∃ i σ' H', Inv X pins σ' H' s' ∧ tn i s'.heap ∧ (∀ b ∈ fp, H' b = none) ∧ W i n σ' H') ?_ m0 ⟨0, σ, H2, I2, st2, fun b hb => (f2 b hb).1, w0⟩
  rintro n s3 ⟨i, σ3, H3, I3, st3, fr3, w3⟩
  rcases turn i n σ3 H3 w3 with ⟨stop, qn⟩ | ⟨go, N, hN, step⟩
  · refine wpAny_passesOwn hp (thn (T.done X rfl rfl rfl hc i pins s3 σ3 H3 X.xe I3 (stat fr3) st3 stop) fun r s4 ⟨hr, I4⟩ => ?_)
    subst hr
    exact wpAny_execs_nil ⟨σ3, H3, I4, qn⟩
  · refine wpAny_passesOwn hp (thn (T.item X rfl rfl rfl hc i pins s3 σ3 H3 X.xe I3 (stat fr3) st3 go) fun r s4 ⟨u, hr, h4⟩ => ?_)
    subst hr
    refine wpAny_passesOwn hp (thn h4 fun _ s5 ⟨x, H5, I5, r5, y5, st5, fr5⟩ => ?_)
    have I5' := I5.pinned (stat fr5) (T.obj _ _ st5)
    refine wpAny_passesOwn hp (thn (hg _ s5 σ3 H5 x u _ I5' r5 (step x H5 y5)) fun _ s6 ⟨σ6, H6, I6, q6⟩ => ?_)
    refine wpAny_passesOwn hp (thn (hb _ s6 σ6 H6 _ I6 q6) fun f s7 q7 => ?_)
    have again : ∀ {σ7 : St} {H7 : Hp}, Inv X (pins ++ d6m fp s5.heap) σ7 H7 s7 → N σ7 H7 → ∃ m, m < n ∧ ∃ i σ' H', Inv X pins σ' H' s7 ∧ tn i s7.heap ∧ (∀ b ∈ fp, H' b = none) ∧ W i m σ' H' := fun {σ7 H7} I7 n7 => by
      obtain ⟨m', hm, w7⟩ := hN σ7 H7 n7
      refine ⟨m', hm, i + 1, σ7, H7, I7.unpinned, T.keep _ _ _ st5 fun b hb o e => (I7.pin (b, o) (a2e _ (a2e _ (c1c hb e)))).1, fun b hb => ?_, w7⟩
      obtain ⟨o, e, d⟩ := T.obj _ _ st5 b hb
      exact (I7.pin (b, o) (a2e _ (a2e _ (c1c hb e)))).2.1
    cases f with
    | next => obtain ⟨σ7, H7, I7, n7⟩ := q7; exact again I7 n7
    | cont => obtain ⟨σ7, H7, I7, n7⟩ := q7; exact again I7 n7
    | brk => obtain ⟨σ7, H7, I7, q7⟩ := q7; exact ⟨σ7, H7, I7.unpinned, q7⟩
    | ret v => obtain ⟨x7, σ7, H7, I7, r7, q7⟩ := q7; exact ⟨x7, σ7, H7, I7.unpinned, r7, q7⟩
end
theorem b1j {K:PySem.W.Frag} {a:Addr} {xs:List V} {g:TG} {tb:TS} {D:Ends} {σ:St} {H:Hp} (Pv:Nat->St->Hp->Prop) (h0:Pv 0 σ H) (hl:∀i σ H,i<=xs.length->Pv i σ H->SqL K H a xs)
  (hs:∀i x σ H,xs[i]?=some x->Pv i σ H->g x σ H fun σ2 H2=>tb { D with nx:=Pv (i+1),ct:=Pv (i+1),bk:=D.nx } σ2 H2) (hd:∀σ H,Pv xs.length σ H->D.nx σ H) :
  ∃W:Nat->Nat->St->Hp->Prop,(∃m,W 0 m σ H)∧∀i m σ H,W i m σ H →
   ((Itl K a).stop i H∧D.nx σ H)∨((Itl K a).go i H∧∃N:St->Hp->Prop,(∀σ' H',N σ' H'->∃m',m' < m∧W (i+1) m' σ' H')∧∀x H',(Itl K a).yld i H x H'->g x σ H' fun σ2 H2=>tb { D with nx:=N,ct:=N,bk:=D.nx } σ2 H2):=by
 refine ⟨fun i m σ H=>m=xs.length - i∧i<=xs.length∧Pv i σ H,⟨xs.length,by simp,a1f _,h0⟩,?_⟩
 rintro i m σ H ⟨rfl,hi,p⟩
 have q:=hl i σ H hi p
 by_cases hlt:i < xs.length
 ·refine .inr ⟨⟨xs,xs[i],q,by simp [hlt]⟩,Pv (i+1),fun σ' H' p'=>⟨xs.length - (i+1),by omega,rfl,hlt,p'⟩,fun x H' y=>?_⟩
  obtain ⟨e,y⟩:=y
  subst e
  exact hs i x σ _ (y xs q) p
 ·have e:i=xs.length:=by omega
  subst e
  exact .inl ⟨⟨xs,q,a0h _⟩,hd σ H p⟩
theorem f5p {K:PySem.W.Frag} {a:Addr} {xs:List V} {g:TG} {tb:TS} {D:Ends} {σ:St} {H:Hp} (Pv:Nat->St->Hp->Prop) (h0:Pv 0 σ H) (hl:∀i σ H,i<=xs.length->Pv i σ H->SqT K H a xs)
  (hs:∀i x σ H,xs[i]?=some x->Pv i σ H->g x σ H fun σ2 H2=>tb { D with nx:=Pv (i+1),ct:=Pv (i+1),bk:=D.nx } σ2 H2) (hd:∀σ H,Pv xs.length σ H->D.nx σ H) :
  ∃W:Nat->Nat->St->Hp->Prop,(∃m,W 0 m σ H)∧∀i m σ H,W i m σ H →
   ((Itt K a).stop i H∧D.nx σ H)∨((Itt K a).go i H∧∃N:St->Hp->Prop,(∀σ' H',N σ' H'->∃m',m' < m∧W (i+1) m' σ' H')∧∀x H',(Itt K a).yld i H x H'->g x σ H' fun σ2 H2=>tb { D with nx:=N,ct:=N,bk:=D.nx } σ2 H2):=by
 refine ⟨fun i m σ H=>m=xs.length - i∧i<=xs.length∧Pv i σ H,⟨xs.length,by simp,a1f _,h0⟩,?_⟩
 rintro i m σ H ⟨rfl,hi,p⟩
 have q:=hl i σ H hi p
 by_cases hlt:i < xs.length
 ·refine .inr ⟨⟨xs,xs[i],q,by simp [hlt]⟩,Pv (i+1),fun σ' H' p'=>⟨xs.length - (i+1),by omega,rfl,hlt,p'⟩,fun x H' y=>?_⟩
  obtain ⟨e,y⟩:=y
  subst e
  exact hs i x σ _ (y xs q) p
 ·have e:i=xs.length:=by omega
  subst e
  exact .inl ⟨⟨xs,q,a0h _⟩,hd σ H p⟩
theorem d7g {lo:Int} {n:Nat} {g:TG} {tb:TS} {D:Ends} {σ:St} {H:Hp} (Pv:Nat->St->Hp->Prop) (h0:Pv 0 σ H)
  (hs:∀i σ H,i < n->Pv i σ H->g (.int (lo+i)) σ H fun σ2 H2=>tb { D with nx:=Pv (i+1),ct:=Pv (i+1),bk:=D.nx } σ2 H2) (hd:∀σ H,Pv n σ H->D.nx σ H) :
  ∃W:Nat->Nat->St->Hp->Prop,(∃m,W 0 m σ H)∧∀i m σ H,W i m σ H →
   ((Itr lo n).stop i H∧D.nx σ H)∨((Itr lo n).go i H∧∃N:St->Hp->Prop,(∀σ' H',N σ' H'->∃m',m' < m∧W (i+1) m' σ' H')∧∀x H',(Itr lo n).yld i H x H'->g x σ H' fun σ2 H2=>tb { D with nx:=N,ct:=N,bk:=D.nx } σ2 H2):=by
 refine ⟨fun i m σ H=>m=n - i∧i<=n∧Pv i σ H,⟨n,by simp,a1f _,h0⟩,?_⟩
 rintro i m σ H ⟨rfl,hi,p⟩
 by_cases hlt:i < n
 ·refine .inr ⟨hlt,Pv (i+1),fun σ' H' p'=>⟨n - (i+1),by omega,rfl,hlt,p'⟩,fun x H' y=>?_⟩
  obtain ⟨e,y⟩:=y
  subst e y
  exact hs i σ _ hlt p
 ·have e:i=n:=by omega
  subst e
  exact .inl ⟨a0h _,hd σ H p⟩
end L2
namespace L2
open PySem PySem.Spec PyProof.Rows
abbrev R2:=V->V->Hp->VK->Prop
def OpR (X:Cx) (f:Value->Value->Sem Value) (r:R2):Prop :=
 ∀(pins:List (Addr×Obj)) (s:Shared) (σ:St) (H:Hp) (x y:V) (v u:Value) (Q:VK),Inv X pins σ H s->RelV x v->RelV y u->r x y H Q →
  wpAny (model X.prog X.w) X.A (f v u) (EP X pins σ Q) X.xe s
def UnR (X:Cx) (f:Value->Sem Value) (r:V->Hp->VK->Prop):Prop :=
 ∀(pins:List (Addr×Obj)) (s:Shared) (σ:St) (H:Hp) (x:V) (v:Value) (Q:VK),Inv X pins σ H s->RelV x v->r x H Q →
  wpAny (model X.prog X.w) X.A (f v) (EP X pins σ Q) X.xe s
def d0v (X:Cx) (f:Value) (r:List V->Hp->VK->Prop):Prop :=
 ∀(pins:List (Addr×Obj)) (s:Shared) (σ:St) (H:Hp) (xs:List V) (us:List Value) (Q:VK),Inv X pins σ H s->a6a xs us->r xs H Q →
  wpAny (model X.prog X.w) X.A (call f us) (EP X pins σ Q) X.xe s
def tOp (r:R2) (ta tb:TE):TE:=fun σ H Q=>ta σ H fun x H1=>tb σ H1 fun y H2=>r x y H2 Q
def tUn (r:V->Hp->VK->Prop) (ta:TE):TE:=fun σ H Q=>ta σ H fun x H1=>r x H1 Q
def rI (C:Int->Int->Prop) (g:Int->Int->V):R2:=fun x y H Q=>∃i j,x=.int i∧y=.int j∧C i j∧Q (g i j) H
def rI0 (g:Int->Int->V):R2:=fun x y H Q=>∃i j,x=.int i∧y=.int j∧Q (g i j) H
def rU (g:Int->V):V->Hp->VK->Prop:=fun x H Q=>∃i,x=.int i∧Q (g i) H
section
variable {X:Cx} {a b c:Expr} {ta tb tc:TE} {pos:Pos}
theorem g2b (ha:PE X a ta) (hb:PE X b tb) {pins:List (Addr×Obj)} {s:Shared} {σ:St} {H:Hp} {R:V->V->Hp->Prop} (I:Inv X pins σ H s)
  (h:ta σ H fun x H1=>tb σ H1 fun y H2=>R x y H2) {Q:Value->Shared->Prop} {f:Value->Value->Sem Value}
  (hf:∀v u s2 x y H2,Inv X pins σ H2 s2->RelV x v->RelV y u->R x y H2->wpAny (model X.prog X.w) X.A (f v u) Q X.xe s2) :
  wpAny (model X.prog X.w) X.A (eval a X.env) (fun v s₁=>wpAny (model X.prog X.w) X.A (eval b X.env) (fun u s₂=>wpAny (model X.prog X.w) X.A (f v u) Q X.xe s₂) X.xe s₁) X.xe s:=by
 refine thn (ha pins s σ H _ I h) fun v s1 ⟨x,H1,I1,r1,q1⟩=>?_
 refine thn (hb pins s1 σ H1 _ I1 q1) fun u s2 ⟨y,H2,I2,r2,q2⟩=>?_
 exact hf v u s2 x y H2 I2 r1 r2 q2
theorem a3i {op:Operator} {r:R2} (ho:OpR X (binaryOp op) r) (ha:PE X a ta) (hb:PE X b tb):PE X (.BinOp a op b pos) (tOp r ta tb):=by
 intro pins s σ H Q I h
 exact wpAny_BinOp (g2b ha hb I h fun v u s2 x y H2 I2 rx ry q=>ho pins s2 σ H2 x y v u Q I2 rx ry q)
theorem d3w {op:UnaryOp} {r:V->Hp->VK->Prop} (ho:UnR X (unaryOp op) r) (ha:PE X a ta):PE X (.UnaryOp op a pos) (tUn r ta):=by
 intro pins s σ H Q I h
 exact UnaryOp_ (thn (ha pins s σ H _ I h) fun v s1 ⟨x,H1,I1,r1,q1⟩=>ho pins s1 σ H1 x v Q I1 r1 q1)
theorem opI {f:Value->Value->Sem Value} {C:Int->Int->Prop} {g:Int->Int->Int}
  (rule:∀(i j:Int) (t u:Tok) (s:Shared) (Q:Value->Shared->Prop) (E:Value->Shared->Prop),C i j->Q (.int (g i j) s.toks) { s with toks:=s.toks+1 }->wpAny (model X.prog X.w) X.A (f (.int i t) (.int j u)) Q E s) :
  OpR X f (rI C fun i j=>.int (g i j)):=by
 intro pins s σ H x y v u Q I rx ry h
 obtain ⟨i,j,rfl,rfl,hc,q⟩:=h
 obtain ⟨t,rfl⟩:=rx
 obtain ⟨t',rfl⟩:=ry
 exact rule i j t t' s _ _ hc ⟨.int (g i j),H,I.tok _,⟨_,rfl⟩,q⟩
theorem opI0 {f:Value->Value->Sem Value} {g:Int->Int->Int}
  (rule:∀(i j:Int) (t u:Tok) (s:Shared) (Q:Value->Shared->Prop) (E:Value->Shared->Prop),Q (.int (g i j) s.toks) { s with toks:=s.toks+1 }->wpAny (model X.prog X.w) X.A (f (.int i t) (.int j u)) Q E s) :
  OpR X f (rI0 fun i j=>.int (g i j)):=by
 intro pins s σ H x y v u Q I rx ry h
 obtain ⟨i,j,rfl,rfl,q⟩:=h
 obtain ⟨t,rfl⟩:=rx
 obtain ⟨t',rfl⟩:=ry
 exact rule i j t t' s _ _ ⟨.int (g i j),H,I.tok _,⟨_,rfl⟩,q⟩
theorem g0s {f:Value->Value->Sem Value} {g:Int->Int->Bool}
  (rule:∀(i j:Int) (t u:Tok) (s:Shared) (Q:Value->Shared->Prop) (E:Value->Shared->Prop),Q (.bool (g i j)) s->wpAny (model X.prog X.w) X.A (f (.int i t) (.int j u)) Q E s) :
  OpR X f (rI0 fun i j=>.bl (g i j)):=by
 intro pins s σ H x y v u Q I rx ry h
 obtain ⟨i,j,rfl,rfl,q⟩:=h
 obtain ⟨t,rfl⟩:=rx
 obtain ⟨t',rfl⟩:=ry
 exact rule i j t t' s _ _ ⟨.bl (g i j),H,I,rfl,q⟩
def g2f (i j:Int):Prop:=(-(2^64) < i∧i < 2^64)∨(-(2^64) < j∧j < 2^64)
theorem g2f.ok {i j:Int} (h:g2f i j):IntMulOk i j:=by
 rcases h with ⟨h1,h2⟩ | ⟨h1,h2⟩
 ·exact .of_left (intBits_le_64 h1 h2)
 ·exact .of_right (intBits_le_64 h1 h2)
theorem b1v:OpR X (binaryOp .Add) (rI0 fun i j=>.int (i+j)):=opI0 fun _ _ _ _ _ _ _ q=>add_int q
theorem c4j:OpR X (binaryOp .Sub) (rI0 fun i j=>.int (i - j)):=opI0 fun _ _ _ _ _ _ _ q=>sub_int q
theorem c2f:OpR X (binaryOp .Mod) (rI (fun _ j=>0 < j) fun i j=>.int (i % j)):=opI fun i j _ _ _ _ _ hc q=>by
 have h1:(0:Int) < j:=hc
 exact mod_int' (by omega) (by rw[Int.fmod_eq_emod_of_nonneg i (by omega)];exact q)
theorem f5c:OpR X (binaryOp .Mod) (rI (fun _ j=>j≠0) fun i j=>.int (i.fmod j)):=opI fun _ _ _ _ _ _ _ hc q=>mod_int' hc q
theorem unI {f:Value->Sem Value} {g:Int->Int}
  (rule:∀(i:Int) (t:Tok) (s:Shared) (Q:Value->Shared->Prop) (E:Value->Shared->Prop),Q (.int (g i) s.toks) { s with toks:=s.toks+1 }->wpAny (model X.prog X.w) X.A (f (.int i t)) Q E s) :
  UnR X f (rU fun i=>.int (g i)):=by
 intro pins s σ H x v Q I rx h
 obtain ⟨i,rfl,q⟩:=h
 obtain ⟨t,rfl⟩:=rx
 exact rule i t s _ _ ⟨.int (g i),H,I.tok _,⟨_,rfl⟩,q⟩
theorem c3z:UnR X (unaryOp .USub) (rU fun i=>.int (-i)):=unI fun _ _ _ _ _ q=>neg_int q
end
def scal:V->V->Bool
 | .non,.non=>true | .non,.int _=>true | .int _,.non=>true | .non,.bl _=>true | .bl _,.non=>true | .non,.str _=>true | .str _,.non=>true
 | .int _,.int _=>true | .bl _,.bl _=>true | .str _,.str _=>true | .byt _,.byt _=>true
 | .int _,.str _=>true | .str _,.int _=>true | .bl _,.str _=>true | .str _,.bl _=>true
 | _,_=>false
def rEq:R2:=fun x y H Q=>scal x y=true∧Q (.bl (decide (x=y))) H
def rNe:R2:=fun x y H Q=>scal x y=true∧Q (.bl (!decide (x=y))) H
theorem e8b {i j:Int}:decide (V.int i=V.int j)=(i == j):=by
 rw[b6n]
 simp
theorem f2t {i j:Bool}:decide (V.bl i=V.bl j)=(i == j):=by
 rw[b6n]
 simp
theorem e8a {i j:Str}:decide (V.str i=V.str j)=(i == j):=by
 rw[b6n]
 simp
theorem e8c {i j:Array UInt8}:decide (V.byt i=V.byt j)=(i.toList == j.toList):=by
 rw[b6n]
 cases i
 cases j
 simp
section
variable {X:Cx} {a b c:Expr} {ta tb tc:TE} {pos:Pos}
theorem a5c {pins:List (Addr×Obj)} {σ:St} {H:Hp} {s:Shared} {Q:VK} {k k':Bool} (I:Inv X pins σ H s) (q:Q (.bl k) H) (e:k=k'):EP X pins σ Q (.bool k') s:=by
 subst e
 exact ⟨.bl k,H,I,rfl,q⟩
theorem b1u:OpR X (compareOp .Eq) rEq:=by
 intro pins s σ H x y v u Q I rx ry h
 obtain ⟨hs,q⟩:=h
 cases x with
 | non =>
  cases rx
  cases y with
  | non=>cases ry;exact PySem.EqNone.eq_none_none (a5c I q (by simp))
  | bl j=>cases ry;exact PySem.EqNone.eq_none_bool (a5c I q (by simp))
  | int j=>obtain ⟨t',rfl⟩:=ry;exact PySem.EqNone.eq_none_int (a5c I q (by simp))
  | str j=>obtain ⟨t',rfl⟩:=ry;exact PySem.EqNone.eq_none_str (a5c I q (by simp))
  | _=>exact absurd (show false=true from hs) a1g
 | bl i =>
  cases rx
  cases y with
  | non=>cases ry;exact PySem.EqNone.eq_bool_none (a5c I q (by simp))
  | bl j=>cases ry;exact eq_bool (a5c I q f2t)
  | str j=>obtain ⟨t',rfl⟩:=ry;exact PySem.EqMixed.eq_bool_str (a5c I q (by simp))
  | _=>exact absurd (show false=true from hs) a1g
 | int i =>
  obtain ⟨t,rfl⟩:=rx
  cases y with
  | non=>cases ry;exact PySem.EqNone.eq_int_none (a5c I q (by simp))
  | int j=>obtain ⟨t',rfl⟩:=ry;exact eq_int (a5c I q e8b)
  | str j=>obtain ⟨t',rfl⟩:=ry;exact PySem.EqMixed.eq_int_str (a5c I q (by simp))
  | _=>exact absurd (show false=true from hs) a1g
 | str i =>
  obtain ⟨t,rfl⟩:=rx
  cases y with
  | non=>cases ry;exact PySem.EqNone.eq_str_none (a5c I q (by simp))
  | bl j=>cases ry;exact PySem.EqMixed.eq_str_bool (a5c I q (by simp))
  | int j=>obtain ⟨t',rfl⟩:=ry;exact PySem.EqMixed.eq_str_int (a5c I q (by simp))
  | str j=>obtain ⟨t',rfl⟩:=ry;exact eq_str (a5c I q e8a)
  | _=>exact absurd (show false=true from hs) a1g
 | byt i =>
  obtain ⟨t,rfl⟩:=rx
  cases y with
  | byt j=>obtain ⟨t',rfl⟩:=ry;exact PySem.W.eq_bytes (a5c I q e8c)
  | _=>exact absurd (show false=true from hs) a1g
 | _=>cases y <;> exact absurd (show false=true from hs) a1g
theorem d6o:OpR X (compareOp .NotEq) rNe:=by
 intro pins s σ H x y v u Q I rx ry h
 obtain ⟨hs,q⟩:=h
 cases x with
 | non =>
  cases rx
  cases y with
  | non=>cases ry;exact PySem.EqNone.ne_none_none (a5c I q (by simp))
  | bl j=>cases ry;exact PySem.EqNone.ne_none_bool (a5c I q (by simp))
  | int j=>obtain ⟨t',rfl⟩:=ry;exact PySem.EqNone.ne_none_int (a5c I q (by simp))
  | str j=>obtain ⟨t',rfl⟩:=ry;exact PySem.EqNone.ne_none_str (a5c I q (by simp))
  | _=>exact absurd (show false=true from hs) a1g
 | bl i =>
  cases rx
  cases y with
  | non=>cases ry;exact PySem.EqNone.ne_bool_none (a5c I q (by simp))
  | bl j=>cases ry;exact ne_bool (a5c I q (congrArg not f2t))
  | str j=>obtain ⟨t',rfl⟩:=ry;exact PySem.EqMixed.ne_bool_str (a5c I q (by simp))
  | _=>exact absurd (show false=true from hs) a1g
 | int i =>
  obtain ⟨t,rfl⟩:=rx
  cases y with
  | non=>cases ry;exact PySem.EqNone.ne_int_none (a5c I q (by simp))
  | int j=>obtain ⟨t',rfl⟩:=ry;exact ne_int (a5c I q (congrArg not e8b))
  | str j=>obtain ⟨t',rfl⟩:=ry;exact PySem.EqMixed.ne_int_str (a5c I q (by simp))
  | _=>exact absurd (show false=true from hs) a1g
 | str i =>
  obtain ⟨t,rfl⟩:=rx
  cases y with
  | non=>cases ry;exact PySem.EqNone.ne_str_none (a5c I q (by simp))
  | bl j=>cases ry;exact PySem.EqMixed.ne_str_bool (a5c I q (by simp))
  | int j=>obtain ⟨t',rfl⟩:=ry;exact PySem.EqMixed.ne_str_int (a5c I q (by simp))
  | str j=>obtain ⟨t',rfl⟩:=ry;exact ne_str (a5c I q (congrArg not e8a))
  | _=>exact absurd (show false=true from hs) a1g
 | byt i =>
  obtain ⟨t,rfl⟩:=rx
  cases y with
  | byt j=>obtain ⟨t',rfl⟩:=ry;exact PySem.W.ne_bytes (a5c I q (congrArg not e8c))
  | _=>exact absurd (show false=true from hs) a1g
 | _=>cases y <;> exact absurd (show false=true from hs) a1g
theorem d4b:OpR X (compareOp .Lt) (rI0 fun i j=>.bl (decide (i < j))):=g0s fun _ _ _ _ _ _ _ q=>lt_int q
theorem g1q:OpR X (compareOp .LtE) (rI0 fun i j=>.bl (decide (i<=j))):=g0s fun _ _ _ _ _ _ _ q=>le_int q
theorem d4c:OpR X (compareOp .Gt) (rI0 fun i j=>.bl (decide (j < i))):=g0s fun _ _ _ _ _ _ _ q=>gt_int q
theorem e3l:OpR X (compareOp .GtE) (rI0 fun i j=>.bl (decide (j<=i))):=g0s fun _ _ _ _ _ _ _ q=>ge_int q
theorem e6t:OpR X (compareOp .IsNot) (fun x y H Q=>y=.non∧Q (.bl (!decide (x=.non))) H):=by
 intro pins s σ H x y v u Q I rx ry h
 obtain ⟨rfl,q⟩:=h
 cases ry
 refine isnot_none_gen (a5c I q ?_)
 cases x <;> first
  | (cases rx;rfl)
  | (obtain ⟨t,rfl⟩:=rx;rfl)
theorem a2o (b:Expr) {op:CmpOp} (h:op≠.In:=by decide) (h2:op≠.NotIn:=by decide):behindInMarks op b=false:=by
 have e1:(op == CmpOp.In)=false:=by cases op <;> first | rfl | exact absurd rfl h
 have e2:(op == CmpOp.NotIn)=false:=by cases op <;> first | rfl | exact absurd rfl h2
 cases b <;> simp [behindInMarks,e1,e2]
theorem c3b {op:CmpOp} {r:R2} (ho:OpR X (compareOp op) r) (ha:PE X a ta) (hb:PE X b tb) (hm:behindInMarks op b=false):PE X (.Compare a [op] [b] pos) (tOp r ta tb):=by
 intro pins s σ H Q I h
 exact wpAny_Compare1 (g2b ha hb I h fun v u s2 x y H2 I2 rx ry q=>ho pins s2 σ H2 x y v u Q I2 rx ry q) hm
def f6x (t:TE):TT:=fun σ H Q=>t σ H fun x H'=>∃k,x=.bl k∧Q k H'
theorem a2b {op:CmpOp} {r:R2} (ho:OpR X (compareOp op) r) (ha:PE X a ta) (hb:PE X b tb) (hm:behindInMarks op b=false):PT X (.Compare a [op] [b] pos) (f6x (tOp r ta tb)):=by
 intro pins s σ H Q I h
 refine wpAny_isTrue_Compare1 (thn (ha pins s σ H _ I h) fun v s1 ⟨x,H1,I1,r1,q1⟩=>thn (hb pins s1 σ H1 _ I1 q1) fun u s2 ⟨y,H2,I2,r2,q2⟩ =>
  thn (ho pins s2 σ H2 x y v u _ I2 r1 r2 q2) fun c s3 ⟨z,H3,I3,r3,k,e,q3⟩=>?_) hm
 subst e
 cases r3
 exact wpAny_truthy_bool ⟨H3,I3,q3⟩
theorem d7a:(sizeLine:Nat) < 2^63:=by rw[sizeLine_eq];decide
theorem vals1 {x:V} {us:List Value} (r:a6a [x] us):∃u,us=[u]∧RelV x u:=by
 cases r with
 | cons r1 r2=>cases r2;exact ⟨_,rfl,r1⟩
theorem vals2 {x y:V} {us:List Value} (r:a6a [x,y] us):∃u w',us=[u,w']∧RelV x u∧RelV y w':=by
 cases r with
 | cons r1 r2 =>
  cases r2 with
  | cons r3 r4=>cases r4;exact ⟨_,_,rfl,r1,r3⟩
theorem d4y:d0v X (.builtin "abs") (fun xs H Q=>∃i,xs=[.int i]∧Q (.int (if i < 0 then -i else i)) H):=by
 intro pins s σ H xs us Q I r h
 obtain ⟨i,rfl,q⟩:=h
 obtain ⟨u,rfl,t,rfl⟩:=vals1 r
 exact call_abs_int fun u tk=>⟨.int (if i < 0 then -i else i),H,I.tok _,⟨_,rfl⟩,q⟩
theorem c0b (hc:X.calm=true):d0v X (.builtin "min") (fun xs H Q=>∃i j,xs=[.int i,.int j]∧Q (.int (if j < i then j else i)) H):=by
 intro pins s σ H xs us Q I r h
 obtain ⟨i,j,rfl,q⟩:=h
 obtain ⟨u,w',rfl,⟨t,rfl⟩,⟨t',rfl⟩⟩:=vals2 r
 refine min_two_ints (I.ok.hd hc) fun h' tk k=>⟨_,H,I.kept k,?_,q⟩
 by_cases hj:j < i
 ·rw[if_pos hj,if_pos hj];exact ⟨_,rfl⟩
 ·rw[if_neg hj,if_neg hj];exact ⟨_,rfl⟩
end
end L2
namespace L2
open PySem PySem.Spec PyProof.Rows
structure f6i (h:Heap) (x dx C:Addr) (mA:Str->Option Value):Prop where
 obj:h.get? x=some (PySem.W.instObj C dx)
 ns:h.Ns1 dx mA
 ne:dx≠x
theorem e7n {h:Heap} {dx:Addr} {mA:Str->Option Value} (n:h.Ns1 dx mA):∃od,h.get? dx=some od∧∀name,PySem.W.lookIn name od=some (mA name):=by
 obtain ⟨o,es,ep,ho,hd,hk,_,hm⟩:=n
 refine ⟨o,ho,fun name=>?_⟩
 have e:=hm name
 unfold nsFind findBy at e
 rw[← Array.find?_toList] at e
 unfold PySem.W.lookIn
 rw[hd]
 dsimp only
 split
 ·rename_i y q
  rw[q] at e
  exact congrArg some e
 ·rename_i q
  rw[q] at e
  have a:es.toList.any (·.refKey)=false:=by
   rw[List.any_eq_false]
   intro y hy
   obtain ⟨z,t,hkey⟩:=hk y (Array.mem_toList_iff.mp hy)
   simp [DictEntry.refKey,hkey]
  have a':¬es.toList.any (·.refKey)=true:=by rw[a];exact a1g
  rw[if_neg a']
  exact congrArg some e
theorem f6i.look {h:Heap} {x dx C:Addr} {mA:Str->Option Value} (I:f6i h x dx C mA):∃od,PySem.W.InstAt h x (PySem.W.instObj C dx) C (some od)∧∀name,PySem.W.lookIn name od=some (mA name) :=
 let ⟨od,ho,hl⟩:=e7n I.ns
 ⟨od,⟨I.obj,rfl,rfl,ho⟩,hl⟩
section
variable {prog:Program} {w:World} {A:Around} {E:Value->Shared->Prop} {s:Shared} {K:PySem.W.Frag} {x dx C f:Addr} {mA:Str->Option Value} {name:Str} {v:Value}
theorem get_map {expr:Bool} {Q:Value->Shared->Prop} (X:K.In s.heap) (I:f6i s.heap x dx C mA) (hg:PySem.W.plainGet K C name=true) (hh:PySem.W.hasDictIn K C=true)
  (ha:PySem.W.findIn K (.ref C) name=some none) (hv:mA name=some v) (hv':PySem.W.handedIn v=true) (h:Q v { s with toks:=s.toks+1 }) :
  wpAny (model prog w) A (getAttr (.ref x) name expr) Q E s:=by
 obtain ⟨od,J,hl⟩:=I.look
 exact PySem.W.get_value X J (e2m hg).1 (PySem.W.findObj_own hh ha rfl (by rw[hl,hv])) hv' h
theorem f1d {pl:Sem Bool} {Q:Value×List Value->Shared->Prop} (X:K.In s.heap) (I:f6i s.heap x dx C mA) (hg:PySem.W.plainGet K C name=true)
  (hf:PySem.W.findIn K (.ref C) name=some (some (.ref f))) (ht:PySem.W.isFn K (.ref f)=true) (hv:mA name=none) (h:Q (.ref f,[.ref x]) s) :
  wpAny (model prog w) A (getMethod (.ref x) name pl) Q E s:=by
 obtain ⟨od,J,hl⟩:=I.look
 exact PySem.W.method_fn X J (e2m hg).1 (e2m hg).2 hf (beq_iff_eq.mp ht) (by show (PySem.W.lookIn name od).map (·.isSome)=some false;rw[hl,hv];rfl) h
theorem f3s {ns:List Str} {Q:Unit->Shared->Prop} (X:K.In s.heap) (I:f6i s.heap x dx C mA)
  (hs:PySem.W.findIn K (.ref C) "__setattr__"=some (some (.builtin "object.__setattr__"))) (hp:PySem.W.plainOver K C=true) (ht:PySem.W.takerIn K C name=some none) (hh:PySem.W.hasDictIn K C=true)
  (hw:PySem.Within mA ns) (hsz:ns.length<=sizeLine)
  (h:∀h',f6i h' x dx C (fun y=>if y=name then some v else mA y)->Heap.SameBut dx s.heap h'->Q () { s with heap:=h',toks:=s.toks+2 }) :
  wpAny (model prog w) A (setAttr (.ref x) name v) Q E s:=by
 obtain ⟨od,J,hl⟩:=I.look
 refine PySem.W.set_plain X J hs (PySem.W.osa_open (s:={ s with toks:=s.toks+1 }) (r:=none) X J hp ht fun b=>?_)
 obtain ⟨cd,hc,hd'⟩:=PySem.W.any_some hh
 have hx:s.heap.get? x=some ⟨.ref C,some dx,.plain,#[]⟩:=I.obj
 refine wpAny_bind (wpAny_pure (wpAny_bind (wpAny_bind (wpAny_loadPart hx (wpAny_bind (PySem.W.Looks.here (s:={ s with toks:=s.toks+1 }) (PySem.W.looks_clsIn X hc) ?_))))))
 rw[hd']
 refine wpAny_pure (a:=some dx) (wpAny_bind (wpAny_pure (wpAny_bind ?_)))
 refine wpAny_nsSet1 (s:={ s with toks:=s.toks+1 }) I.ns fun h' hn2 hs2=>?_
 obtain ⟨oD,esD,epD,hoD,hdD,hcD⟩:=hn2.count (PySem.Within.cons name v hw)
 refine wpAny_bind (wpAny_lookBehind hoD (by rw[hdD];exact pastItsLine_dict (a0d hcD (by rw[a1n];omega))) ?_)
 exact wpAny_pure (h _ ⟨(hs2.2 _ (Ne.symm I.ne)).trans I.obj,hn2,I.ne⟩ hs2)
theorem f0u {R:Result->Shared->Prop} {vs:List Value} {kw:List (Str×Value)} (X:K.In s.heap) (hm:PySem.W.makesIn K C=true)
  (hi:PySem.W.findIn K (.ref C) "__init__"=some (some (.ref f))) (hf:PySem.W.typeIn K (.ref f)=some (.type "function"))
  (h:codeAny (model prog w) (A.under (.builtin "type.__call__" ⟨.ref C :: vs,kw⟩)) (.call (.ref f) ⟨.ref (s.heap.objs.size+1) :: vs,kw⟩) (PySem.W.InitBack (s.heap.objs.size+1) R)
   { s with heap:=(s.heap.push PySem.W.emptyDict).push (PySem.W.instObj C s.heap.objs.size) }) :
  codeAny (model prog w) A (.call (.ref C) ⟨vs,kw⟩) R s:=by
 obtain ⟨hh,g,d,t,os⟩:=s
 exact PySem.W.make_core (PySem.W.makes_of X hm) (PySem.W.looks_findIn X hi) (fun self=>PySem.W.bind_fn X self hf) (.inl rfl) h
end
def a4t (f:Str) (v:V):List (Str×V)->List (Str×V)
 | []=>[(f,v)]
 | (g,x) :: r=>if g=f then (g,v) :: r else (g,x) :: a4t f v r
theorem a1r (f g:Str) (v:V):∀fs:List (Str×V),(a4t f v fs).lookup g=if g=f then some v else fs.lookup g
 | []=>by
  show List.lookup g [(f,v)]=_
  by_cases h:g=f
  ·have hb:(g == f)=true:=beq_iff_eq.mpr h
   simp only[List.lookup,hb,if_pos h]
  ·have hb:(g == f)=false:=beq_eq_false_iff_ne.mpr h
   simp only[List.lookup,hb,if_neg h]
 | (k,x) :: r=>by
  have ih:=a1r f g v r
  rw[show a4t f v ((k,x) :: r)=(if k=f then (k,v) :: r else (k,x) :: a4t f v r) from rfl]
  by_cases hk:k=f
  ·rw[if_pos hk]
   by_cases h:g=k
   ·have hb:(g == k)=true:=beq_iff_eq.mpr h
    simp only[List.lookup,hb,if_pos (h.trans hk)]
   ·have hb:(g == k)=false:=beq_eq_false_iff_ne.mpr h
    simp only[List.lookup,hb,if_neg (fun e:g=f=>h (e.trans hk.symm))]
  ·rw[if_neg hk]
   by_cases h:g=k
   ·have hb:(g == k)=true:=beq_iff_eq.mpr h
    simp only[List.lookup,hb,if_neg (fun e:g=f=>hk (h.symm.trans e))]
   ·have hb:(g == k)=false:=beq_eq_false_iff_ne.mpr h
    simp only[List.lookup,hb]
    exact ih
theorem c9u (f:Str) (v:V):∀fs:List (Str×V),f∈(a4t f v fs).map (·.1)∧∀g,g∈fs.map (·.1)->g∈(a4t f v fs).map (·.1)
 | []=>⟨by simp [a4t],fun g h=>by simp at h⟩
 | (k,x) :: r=>by
  obtain ⟨i1,i2⟩:=c9u f v r
  rw[show a4t f v ((k,x) :: r)=(if k=f then (k,v) :: r else (k,x) :: a4t f v r) from rfl]
  by_cases hk:k=f
  ·rw[if_pos hk]
   subst hk
   exact ⟨by simp,fun g h=>by simpa using h⟩
  ·rw[if_neg hk]
   refine ⟨?_,fun g h=>?_⟩
   ·rw[a6y]
    exact a2j _ i1
   ·rw[a6y] at h ⊢
    rcases a0u.mp h with e | e
    ·exact a0u.mpr (.inl e)
    ·exact a2j _ (i2 g e)
theorem c9t (f:Str) (v:V):∀fs:List (Str×V),(a4t f v fs).length<=fs.length+1
 | []=>by simp [a4t]
 | (k,x) :: r=>by
  have ih:=c9t f v r
  rw[show a4t f v ((k,x) :: r)=(if k=f then (k,v) :: r else (k,x) :: a4t f v r) from rfl]
  by_cases hk:k=f
  ·rw[if_pos hk,a1n,a1n];omega
  ·rw[if_neg hk,a1n,a1n];omega
theorem e8y.some_of {v:V} {o:Option Value} (r:e8y (some v) o):∃u,o=some u∧RelV v u:=by
 cases o with
 | none=>exact (show False from r).elim
 | some u=>exact ⟨u,rfl,r⟩
theorem e8y.none_of {o:Option Value} (r:e8y none o):o=none:=by
 cases o with
 | none=>rfl
 | some u=>exact (show False from r).elim
theorem e7u {v:V} {u:Value} (r:RelV v u):PySem.W.handedIn u=true:=by
 cases v with
 | non=>cases (show u=Value.none from r);rfl
 | bl b=>cases (show u=Value.bool b from r);rfl
 | int i=>obtain ⟨t,e⟩:=(show ∃t,u=Value.int i t from r);cases e;rfl
 | str x=>obtain ⟨t,e⟩:=(show ∃t,u=Value.str x t from r);cases e;rfl
 | byt b=>obtain ⟨t,e⟩:=(show ∃t,u=Value.bytes b t from r);cases e;rfl
 | flt b=>obtain ⟨t,e⟩:=(show ∃t,u=Value.float b t from r);cases e;rfl
 | ref a=>cases (show u=Value.ref a from r);rfl
 | ty n=>cases (show u=Value.type n from r);rfl
section
variable {P:Program} {w:World} {H H':Hp} {h h':Heap} {a C dx:Addr} {fs fs':List (Str×V)}
theorem d4o (hok:HOk P w H h) (e:H a=some (.ins C dx fs)):∃mA,f6i h a dx C mA∧(∀f,e8y (fs.lookup f) (mA f))∧PySem.Within mA (fs.map (·.1))∧fs.length<=1000∧H dx=some (.own a):=by
 obtain ⟨d,z,ne,ob,mA,n,r,q⟩:=(show b7h P w H h a (.ins C dx fs) from hok a _ e)
 exact ⟨mA,⟨ob,n,ne⟩,r,q,z,d⟩
end
structure Cls (K:PySem.W.Frag) (C:Addr):Prop where
 pg:PySem.W.plainGet K C Str.empty=true
 hd:PySem.W.hasDictIn K C=true
 po:PySem.W.plainOver K C=true
 sa:PySem.W.findIn K (.ref C) "__setattr__"=some (some (.builtin "object.__setattr__"))
theorem Cls.get {K:PySem.W.Frag} {C:Addr} (c:Cls K C) (f:Str):PySem.W.plainGet K C f=true:=c.pg
def b5u (K:PySem.W.Frag) (C:Addr) (f:Str):Prop:=PySem.W.findIn K (.ref C) f=some none
theorem b5u.taker {K:PySem.W.Frag} {C:Addr} {f:Str} (n:b5u K C f):PySem.W.takerIn K C f=some none:=by
 unfold PySem.W.takerIn
 rw[show PySem.W.findIn K (.ref C) f=some none from n]
 rfl
structure Con (K:PySem.W.Frag) (C:Addr) (f:Str) (v:V) (u:Value):Prop where
 at_:PySem.W.findIn K (.ref C) f=some (some u)
 rel:RelV v u
 get:PySem.W.specialIn K u "__get__"=some none
 cp:PySem.W.copiedNames.contains f=false
structure g0n (K:PySem.W.Frag) (C:Addr) (m:Str) (f:Addr):Prop where
 at_:PySem.W.findIn K (.ref C) m=some (some (.ref f))
 fn:PySem.W.isFn K (.ref f)=true
 kp:PySem.W.keepIn K (.ref f)=true
section
variable {X:Cx} {pins:List (Addr×Obj)} {σ:St} {H:Hp} {s:Shared} {a C dx:Addr} {fs:List (Str×V)} {f:Str} {v:V} {A:Around} {E:Value->Shared->Prop}
theorem e3w {b:Bool} {Q:Value->Shared->Prop} (I:Inv X pins σ H s) (e:H a=some (.ins C dx fs)) (c:Cls X.K C) (n:b5u X.K C f) (l:fs.lookup f=some v)
  (h:∀u s',Inv X pins σ H s'->RelV v u->Q u s'):wpAny (model X.prog X.w) A (getAttr (.ref a) f b) Q E s:=by
 obtain ⟨mA,O,r,_,_,_⟩:=d4o I.hok e
 obtain ⟨u,hu,ru⟩:=e8y.some_of (v:=v) (o:=mA f) (by rw[← l];exact r f)
 exact get_map I.kIn O (c.get f) c.hd n hu (e7u ru) (h u _ (I.tok _) ru)
theorem d2v {m:Str} {g:Addr} {pl:Sem Bool} {Q:Value×List Value->Shared->Prop} (I:Inv X pins σ H s) (e:H a=some (.ins C dx fs)) (c:Cls X.K C) (k:g0n X.K C m g) (l:fs.lookup m=none)
  (h:Q (.ref g,[.ref a]) s):wpAny (model X.prog X.w) A (getMethod (.ref a) m pl) Q E s:=by
 obtain ⟨mA,O,r,_,_,_⟩:=d4o I.hok e
 have hn:mA m=none:=e8y.none_of (by rw[← l];exact r m)
 exact f1d I.kIn O (c.get m) k.at_ k.fn hn h
theorem e3b {y:V} {u:Value} {Q:Unit->Shared->Prop} (I:Inv X pins σ H s) (e:H a=some (.ins C dx fs)) (c:Cls X.K C) (n:b5u X.K C f) (hl:fs.length < 1000) (ry:RelV y u)
  (h:∀s',Inv X pins σ (upd H a (.ins C dx (a4t f y fs))) s'->Q () s'):wpAny (model X.prog X.w) A (setAttr (.ref a) f u) Q E s:=by
 obtain ⟨mA,O,r,wi,_,ho⟩:=d4o I.hok e
 have hz:(fs.map (·.1)).length<=sizeLine:=by rw[a0e,sizeLine_eq];omega
 refine f3s I.kIn O c.sa c.po n.taker c.hd wi hz fun h' O' sb=>h _ ?_
 have hd:∃o,h'.get? dx=some o:=let ⟨o,_,_,e',_⟩:=O'.ns;⟨o,e'⟩
 refine I.write (x:=a) (e:=dx) (by rw[e];exact True.intro) (.inr ho) (fun b q hb z=>(sb.2 b hb).trans z) hd ?_
 refine ⟨by rw[a2d O.ne];exact ho,?_,O.ne,O'.obj,_,O'.ns,fun g=>?_,fun g hg=>?_⟩
 ·have:=c9t f y fs;omega
 ·show e8y ((a4t f y fs).lookup g) (if g=f then some u else mA g)
  rw[a1r]
  by_cases q:g=f
  ·rw[if_pos q,if_pos q];exact ry
  ·rw[if_neg q,if_neg q];exact r g
 ·by_cases q:g=f
  ·rw[q];exact (c9u f y fs).1
  ·refine (c9u f y fs).2 g (wi g fun z=>hg ?_)
   show (if g=f then some u else mA g)=none
   rw[if_neg q];exact z
theorem Inv.made (I:Inv X pins σ H s):Inv X pins σ (upd (upd H s.heap.objs.size (.own (s.heap.objs.size+1))) (s.heap.objs.size+1) (.ins C s.heap.objs.size []))
  { s with heap:=(s.heap.push PySem.W.emptyDict).push (PySem.W.instObj C s.heap.objs.size) }:=by
 have e1:(s.heap.push PySem.W.emptyDict).get? s.heap.objs.size=some PySem.W.emptyDict:=Heap.get?_push_size s.heap rfl
 have e2:((s.heap.push PySem.W.emptyDict).push (PySem.W.instObj C s.heap.objs.size)).get? (s.heap.objs.size+1)=some (PySem.W.instObj C s.heap.objs.size):=by
  have:=Heap.get?_push_size (s.heap.push PySem.W.emptyDict) (o:=PySem.W.instObj C s.heap.objs.size) rfl
  rwa [Heap.size_push] at this
 have e3:(s.heap.push PySem.W.emptyDict).Ns s.heap.objs.size (fun _=>none):=⟨PySem.W.emptyDict,#[],_,e1,rfl,(fun e he=>absurd he (by simp)),fun _=>rfl⟩
 have I1:=I.laid (a:=s.heap.objs.size) (o:=.own (s.heap.objs.size+1)) (h':=s.heap.push PySem.W.emptyDict) (t':=s.toks) (fun b u q=>Heap.get?_push_of_some _ q) (a0h _) ⟨_,e1⟩
 refine I1.laid (a:=s.heap.objs.size+1) (o:=.ins C s.heap.objs.size []) (t':=s.toks) (fun b u q=>Heap.get?_push_of_some _ q) (Nat.le_of_eq (Heap.size_push _ _)) ?_
 have ne:s.heap.objs.size≠s.heap.objs.size+1:=a2q (a9n _)
 refine ⟨by rw[a2d ne,a0y],a1f _,ne,e2,fun _=>none,(Heap.Ns1.of_empty e3).at fun o q=>Heap.get?_push_of_some _ q,fun _=>True.intro,fun y hy=>absurd rfl hy⟩
theorem f6c {prog:Program} {w:World} {env:Env} {e:Expr} {f:Str} {pos:Pos} {s:Shared} {Q:Value->Shared->Prop} (hb:attributeBase e f env (eval e env)=eval e env)
  (h:wpAny (model prog w) A (eval e env) (fun o s₁=>wpAny (model prog w) A (getAttr o f true) Q E s₁) E s):wpAny (model prog w) A (eval (.Attribute e f pos) env) Q E s :=
 Attribute_any_ h (by rw[arm_eval_Attribute,hb])
end
def g1a (K:PySem.W.Frag) (ta:TE) (f:Str):TE:=fun σ H Q=>ta σ H fun x H1=>∃a C dx fs v,x=.ref a∧H1 a=some (.ins C dx fs)∧Cls K C∧b5u K C f∧fs.lookup f=some v∧Q v H1
def sFld (K:PySem.W.Frag) (ta tv:TE) (f:Str):TS:=fun D σ H=>tv σ H fun y H1=>ta σ H1 fun x H2=>∃a C dx fs,x=.ref a∧H2 a=some (.ins C dx fs)∧Cls K C∧b5u K C f∧fs.length < 1000 ∧
 D.nx σ (upd H2 a (.ins C dx (a4t f y fs)))
section
variable {X:Cx} {o e value:Expr} {f:Str} {pos pos' tpos:Pos} {ta tv:TE}
theorem a8m (he:PE X e ta) (hb:attributeBase e f X.env (eval e X.env)=eval e X.env):PE X (.Attribute e f pos) (g1a X.K ta f):=by
 intro pins s σ H Q I h
 refine f6c hb (thn (he pins s σ H _ I h) fun u s1 ⟨x,H1,I1,rx,a,C,dx,fs,v,ex,ea,c,n,l,q⟩=>?_)
 subst ex
 obtain rfl:u=Value.ref a:=rx
 exact e3w I1 ea c n l fun u' s2 I2 ru=>⟨v,H1,I2,ru,q⟩
theorem d2c (ha:PE X o ta) (hv:PE X value tv) (hs:swapsWith value (some (.Attribute o f pos')) pos.line X.env=pure false):PS X (.Assign [.Attribute o f pos'] value pos) (sFld X.K ta tv f):=by
 intro pins s σ H D I h
 refine plainObj_wpAny_Assign_Attribute (thn (hv pins s σ H _ I h) fun u s1 ⟨y,H1,I1,ry,q⟩=>thn (ha pins s1 σ H1 _ I1 q) fun ov s2 ⟨x,H2,I2,rx,a,C,dx,fs,ex,ea,c,n,l,q2⟩=>?_) hs
 subst ex
 obtain rfl:ov=Value.ref a:=rx
 exact e3b I2 ea c n l ry fun s3 I3=>⟨σ,_,I3,q2⟩
end
section
variable {X:Cx} {pins:List (Addr×Obj)} {σ:St} {H:Hp} {s:Shared} {A:Around} {E:Value->Shared->Prop} {Q:Value->Shared->Prop} {c:Value} {b:Bool}
inductive e4c (K:PySem.W.Frag) (H:Hp):V->Value->Prop where
 | non:e4c K H .non (.type "NoneType")
 | bl (x:Bool):e4c K H (.bl x) (.type "bool")
 | int (i:Int):e4c K H (.int i) (.type "int")
 | str (x:Str):e4c K H (.str x) (.type "str")
 | flt (x:UInt64):e4c K H (.flt x) (.type "float")
 | lst {a:Addr} {xs:List V} (e:H a=some (.lst xs)):e4c K H (.ref a) (.type "list")
 | frz {a:Addr} {o:Obj} {xs:List V} (e:H a=some (.frz o (.lst xs))):e4c K H (.ref a) (.type "list")
 | tup {a:Addr} {xs:List V} (e:H a=some (.tup xs)):e4c K H (.ref a) (.type "tuple")
 | dK {a:Addr} {kvs:List (Key×V)} (e:H a=some (.dK kvs)):e4c K H (.ref a) (.type "dict")
 | dT {a:Addr} {kvs:List (List Key×V)} (e:H a=some (.dT kvs)):e4c K H (.ref a) (.type "dict")
 | ins {a C dx:Addr} {fs:List (Str×V)} (e:H a=some (.ins C dx fs)) (cl:Cls K C) (ha:PySem.W.findIn K (.ref C) "__class__"=some (some (.builtin "object.__class__")))
   (hn:PySem.W.specialIn K (.builtin "object.__class__") "__get__"=some (some (.builtin "getset_descriptor.__get__"))) (htk:PySem.W.takesIn K (.builtin "object.__class__")=some true)
   (hm:PySem.W.mroIn K C (.type "object")=some true):e4c K H (.ref a) (.ref C)
theorem d7f {x:V} {u t:Value} (I:Inv X pins σ H s) (rx:RelV x u) (ty:e4c X.K H x t) (e:PySem.W.kitOne X.K t c=some b) (h:∀tk,Q (.bool b) { s with toks:=tk }) :
  wpAny (model X.prog X.w) A (call (.builtin "isinstance") [u,c]) Q E s:=by
 cases ty with
 | non=>cases (show u=Value.none from rx);exact a4g PySem.W.kitx_none I.kIn True.intro e (fun z=>nomatch z) h
 | bl y=>cases (show u=Value.bool y from rx);exact a4g PySem.W.kitx_bool I.kIn True.intro e (fun z=>nomatch z) h
 | int i=>obtain ⟨t,q⟩:=(show ∃t,u=Value.int i t from rx);cases q;exact a4g PySem.W.kitx_int I.kIn True.intro e (fun z=>nomatch z) h
 | str y=>obtain ⟨t,q⟩:=(show ∃t,u=Value.str y t from rx);cases q;exact a4g PySem.W.kitx_str I.kIn True.intro e (fun z=>nomatch z) h
 | flt y=>obtain ⟨t,q⟩:=(show ∃t,u=Value.float y t from rx);cases q;exact a4g PySem.W.kitx_float I.kIn True.intro e (fun z=>nomatch z) h
 | @lst a xs ea =>
  cases (show u=Value.ref a from rx)
  obtain ⟨_,_,n,_,h1⟩:=(show b7h X.prog X.w H s.heap a (.lst xs) from I.hok a _ ea)
  exact a4g PySem.W.kitx_list I.kIn ⟨_,h1,rfl⟩ e (fun z=>nomatch z) h
 | @frz a ob xs ea =>
  cases (show u=Value.ref a from rx)
  obtain ⟨_,_,_,n,_,h1⟩:=(show b7h X.prog X.w H s.heap a (.frz ob (.lst xs)) from I.hok a _ ea)
  exact a4g PySem.W.kitx_list I.kIn ⟨_,h1,rfl⟩ e (fun z=>nomatch z) h
 | @tup a xs ea =>
  cases (show u=Value.ref a from rx)
  obtain ⟨_,_,_,p⟩:=(show b7h X.prog X.w H s.heap a (.tup xs) from I.hok a _ ea)
  obtain ⟨o,h1,h2,_⟩:=p
  exact a4g PySem.W.kitx_tuple I.kIn ⟨o,h1,h2⟩ e (fun z=>nomatch z) h
 | @dK a kvs ea =>
  cases (show u=Value.ref a from rx)
  obtain ⟨_,_,vs,_,p⟩:=(show b7h X.prog X.w H s.heap a (.dK kvs) from I.hok a _ ea)
  obtain ⟨o,es,ep,h1,h2,_⟩:=p
  exact a4g PySem.W.kitx_dict I.kIn ⟨o,h1,h2.1⟩ e (fun z=>nomatch z) h
 | @dT a kvs ea =>
  cases (show u=Value.ref a from rx)
  obtain ⟨_,_,xs,_,o,es,ep,h1,h2,_⟩:=(show b7h X.prog X.w H s.heap a (.dT kvs) from I.hok a _ ea)
  exact a4g PySem.W.kitx_dict I.kIn ⟨o,h1,h2.1⟩ e (fun z=>nomatch z) h
 | @ins a C dx fs ea cl ha hn htk hm =>
  cases (show u=Value.ref a from rx)
  obtain ⟨mA,O,_⟩:=d4o I.hok ea
  obtain ⟨od,J,_⟩:=O.look
  exact a4g (PySem.W.kitx_own (cl.get _) cl.hd ha hn htk hm) I.kIn J e (fun z=>nomatch z) h
end
end L2
namespace L2
open PySem PySem.Spec PyProof.Rows
structure c8g (k:Nat) (A:Around):Prop where
 hd:A.handled=none
 dp:A.depth+3*k+5 < recursionLimit
 un:A.units+16*k+200 < cLine
theorem c8g.mono {j k:Nat} {A:Around} (r:c8g k A) (h:j<=k):c8g j A:=⟨r.hd,by have:=r.dp;omega,by have:=r.un;omega⟩
theorem c8g.deeper {k:Nat} {A:Around} (r:c8g (k+1) A) (env:Env):c8g k (A.deeper env) :=
 ⟨r.hd,by have:=r.dp;show A.depth+1+3*k+5 < _;omega,by have:=r.un;show A.units+3+16*k+200 < _;omega⟩
theorem e3u {A:Around} {C:Addr} {us:List Value} {kw:List (Str×Value)}:(A.under (.builtin "type.__call__" ⟨.ref C :: us,kw⟩)).depth=A.depth+1:=by
 first | rfl | simp [Around.under,Code.weight,Code.isCreation,Code.isGuard,Code.isCaller,Code.frames,Code.isFrame,guardIds]
theorem e3t {A:Around} {C:Addr} {us:List Value} {kw:List (Str×Value)}:(A.under (.builtin "type.__call__" ⟨.ref C :: us,kw⟩)).units=A.units+1:=by
 first | rfl | simp [Around.under,Code.cUnits,Code.frames,Code.isFrame]
theorem c8g.make {k:Nat} {A:Around} (r:c8g (k+1) A) (C:Addr) (us:List Value) (kw:List (Str×Value)):c8g k (A.under (.builtin "type.__call__" ⟨.ref C :: us,kw⟩)) :=
 ⟨r.hd,by have:=r.dp;rw[e3u];omega,by have:=r.un;rw[e3t];omega⟩
theorem c8g.depth {k:Nat} {A:Around} (r:c8g k A):A.depth < recursionLimit:=by have:=r.dp;omega
theorem c8g.units {k:Nat} {A:Around} (r:c8g k A):A.units+64 < cLine:=by have:=r.un;omega
def f3f:TA:=fun _ H Q=>Q [] H
def c9b (ta:TE) (tr:TA):TA:=fun σ H Q=>ta σ H fun x H1=>tr σ H1 fun xs H2=>Q (x :: xs) H2
section
variable {X:Cx} {e:Expr} {es:List Expr} {te:TE} {t:TA} {pos:Pos}
theorem a0g:PA X [] f3f:=fun _ _ _ _ H Q I h=>Calls.spliced_nil ⟨[],H,I,.nil,h⟩
theorem a0b (ha:PE X e te) (hr:PA X es t) (hs:starEach (e :: es) X.env=(false,eval e X.env) :: starEach es X.env:=by rfl):PA X (e :: es) (c9b te t):=by
 intro pos pins s σ H Q I h
 rw[hs]
 show wpAny _ _ (spliced ((false,eval e X.env) :: backTo pos (starEach es X.env))) _ _ s
 refine Calls.spliced_cons (thn (ha pins s σ H _ I h) fun u s1 ⟨x,H1,I1,r1,q1⟩=>?_)
 exact thn (hr pos pins s1 σ H1 _ I1 q1) fun us s2 ⟨xs,H2,I2,r2,q2⟩=>⟨x :: xs,H2,I2,.cons r1 r2,q2⟩
def tTup (t:TA):TE:=fun σ H Q=>t σ H fun xs H1=>xs.length<=sizeLine∧∀p,H1 p=none->Q (.ref p) (upd H1 p (.tup xs))
def tLst (t:TA):TE:=fun σ H Q=>t σ H fun xs H1=>xs.length<=sizeLine∧∀p,H1 p=none->Q (.ref p) (upd H1 p (.lst xs))
theorem a5e {x1} (h:PA X es t):PE X (.Tuple es x1 pos) (tTup t):=by
 intro pins s σ H Q I hq
 refine wpAny_Tuple_spliced (thn (h pos pins s σ H _ I hq) fun us s1 ⟨xs,H1,I1,r,z,q⟩=>⟨by rw[← r.length];exact z,?_⟩)
 have hf:H1 s1.heap.objs.size=none:=I1.hok.fresh (a0h _)
 refine ⟨.ref s1.heap.objs.size,upd H1 s1.heap.objs.size (.tup xs),I1.laid (t':=s1.toks) (fun b u e=>Heap.get?_push_of_some _ e) (a0h _) ?_,rfl,q _ hf⟩
 exact ⟨z,us,r,⟨_,Heap.get?_push_size _ rfl,rfl,_,rfl⟩⟩
theorem a9q (h:PA X es t):PE X (.List es pos) (tLst t):=by
 intro pins s σ H Q I hq
 refine wpAny_List_spliced (thn (h pos pins s σ H _ I hq) fun us s1 ⟨xs,H1,I1,r,z,q⟩=>⟨by rw[← r.length];exact z,?_⟩)
 have hf:H1 s1.heap.objs.size=none:=I1.hok.fresh (a0h _)
 refine ⟨.ref s1.heap.objs.size,upd H1 s1.heap.objs.size (.lst xs),I1.laid (t':=s1.toks) (fun b u e=>Heap.get?_push_of_some _ e) (a0h _) ?_,rfl,q _ hf⟩
 exact ⟨z,us,0,r,Heap.get?_push_size _ rfl⟩
end
abbrev Sp:=List V->Hp->VK->XK->Prop
abbrev CXT:=List Env->Hp->Shared->XK->Value->Shared->Prop
structure f6o (P:Program) (w:World) (K:PySem.W.Frag) (mg:Str->Option Value) (base:Heap) (A:Around) (outer:List Env) (s:Shared) (H:Hp):Prop where
 frames:A.frames=some outer
 mod:Mod K mg base
 bs:∀b o,base.get? b=some o->s.heap.get? b=some o∧H b=none
 bsz:base.objs.size<=s.heap.objs.size
 funs:s.heap.FunFrames base outer
 frf:∀b∈frs outer,H b=none
 hok:HOk P w H s.heap
 bare:AllBare s.gens
def CE (outer:List Env) (P:Program) (w:World) (H:Hp) (s:Shared) (Q:VK) (u:Value) (s':Shared):Prop :=
 ∃v H',s'.os=s.os∧AllBare s'.gens∧Un (frs outer) [] H H' s.heap s'.heap∧HOk P w H' s'.heap∧RelV v u∧Q v H'
def CR (CX:CXT) (outer:List Env) (P:Program) (w:World) (H:Hp) (s:Shared) (Q:VK) (E:XK) (r:Result) (s':Shared):Prop :=
 match r with
 | .ok (.ret u)=>CE outer P w H s Q u s'
 | .ok _=>False
 | .error e=>CX outer H s E e s'
structure a6g (P:Program) (w:World) (K:PySem.W.Frag) (mg:Str->Option Value) (base:Heap) (CX:CXT) (k:Nat) (f:Addr) (fd:FuncData) (ps:List Str) (sp:Sp):Prop where
 len:∀vs H Q E,sp vs H Q E->vs.length=ps.length
 run:∀(A:Around) (outer:List Env) (s:Shared) (H:Hp) (args:Args) (us:List Value) (vs:List V) (Q:VK) (E:XK),c8g k A->f6o P w K mg base A outer s H->BindsTo s fd args (ps.zip us)->a6a vs us->sp vs H Q E →
  codeAny (model P w) A (.call (.ref f) args) (CR CX outer P w H s Q E) s
theorem f6o.make {P:Program} {w:World} {K:PySem.W.Frag} {mg:Str->Option Value} {base:Heap} {A:Around} {outer:List Env} {s:Shared} {H:Hp} (e:f6o P w K mg base A outer s H) (C:Addr) (us:List Value) (kw:List (Str×Value)) :
  f6o P w K mg base (A.under (.builtin "type.__call__" ⟨.ref C :: us,kw⟩)) outer s H:=⟨by first | exact e.frames | (simpa [Around.under,Code.envs,Code.isFrame,pushEnvs] using e.frames),e.mod,e.bs,e.bsz,e.funs,e.frf,e.hok,e.bare⟩
section
variable {X:Cx} {pins:List (Addr×Obj)} {σ:St} {H:Hp} {s s':Shared}
theorem Inv.env0 (I:Inv X pins σ H s):f6o X.prog X.w X.K X.mg X.base X.A X.stack s H :=
 ⟨I.ok.frames,I.ok.mod,I.bs,a0d I.ok.bsz I.sz,I.stack,I.stkFree,I.hok,I.bare⟩
theorem Inv.after {Q:VK} {u:Value} (I:Inv X pins σ H s) (h:CE X.stack X.prog X.w H s Q u s'):EP X pins σ Q u s':=by
 obtain ⟨v,H',os,bare,un,hok,r,q⟩:=h
 obtain ⟨hh,g,d,t,os'⟩:=s'
 obtain rfl:os'=s.os:=os
 exact ⟨v,H',I.call (h':=hh) (g':=g) (d':=d) (t':=t) (ch:=[]) un hok bare (fun b z=>absurd z (by simp)),r,q⟩
end
def f7d (sp:Sp) (dvs:List V) (E:XK) (t:TA):TE:=fun σ H Q=>t σ H fun vs H1=>sp (vs++dvs) H1 Q E
def f3g (C:Addr) (m:Str) (sp:Sp) (dvs:List V) (E:XK) (ta:TE) (t:TA):TE:=fun σ H Q=>ta σ H fun x H1=>∃a dx fs,x=.ref a∧H1 a=some (.ins C dx fs)∧fs.lookup m=none ∧
 t σ H1 fun vs H2=>sp (x :: (vs++dvs)) H2 Q E
def f7b (C:Addr) (sp:Sp) (dvs:List V) (E:XK) (t:TA):TE:=fun σ H Q=>t σ H fun vs H1=>∀x dx,H1 x=none->H1 dx=none->dx≠x →
 sp (.ref x :: (vs++dvs)) (upd (upd H1 dx (.own x)) x (.ins C dx [])) (fun v H2=>v=.non∧Q (.ref x) H2) E
def Binds (K:PySem.W.Frag) (fd:FuncData) (ps:List Str) (ds:List Value):Prop :=
 ∀(s:Shared) (us:List Value),K.In s.heap->(us++ds).length=ps.length->BindsTo s fd ⟨us,[]⟩ (ps.zip (us++ds))
theorem Binds.all {K:PySem.W.Frag} {fd:FuncData} {ps:List Str} (h:∀us:List Value,us.length=ps.length->bindArgs fd ⟨us,[]⟩=pure (ps.zip us)):Binds K fd ps []:=fun s us _ hl=>by
 rw[c3x] at hl ⊢
 exact .of_eq (h us hl)
def d0k (CX:CXT) (X:Cx) (E:XK):Prop:=∀(pins:List (Addr×Obj)) (σ:St) (H:Hp) (s:Shared) (e:Value) (s':Shared),Inv X pins σ H s->CX X.stack H s E e s'->X.xe e s'
section
variable {X:Cx} {CX:CXT} {k:Nat} {f C:Addr} {fd:FuncData} {ps:List Str} {sp:Sp} {dvs:List V} {ds:List Value} {E:XK} {x m:Str} {p pos apos:Pos} {e o:Expr} {es:List Expr} {ta:TE} {t:TA}
theorem e5x {pins:List (Addr×Obj)} {σ:St} {H:Hp} {s:Shared} {Q:VK} {us:List Value} {vs:List V} (F:a6g X.prog X.w X.K X.mg X.base CX k f fd ps sp) (hr:c8g k X.A) (hb:Binds X.K fd ps ds) (hd:a6a dvs ds) (hx:d0k CX X E)
  (I:Inv X pins σ H s) (r:a6a vs us) (h:sp (vs++dvs) H Q E):wpAny (model X.prog X.w) X.A (call (.ref f) us) (EP X pins σ Q) X.xe s:=by
 have r2:a6a (vs++dvs) (us++ds):=r.append hd
 have hl:(us++ds).length=ps.length:=by rw[← r2.length];exact F.len _ _ _ _ h
 refine wpAny_call (codeAny_mono (F.run X.A X.stack s H ⟨us,[]⟩ (us++ds) (vs++dvs) Q E hr I.env0 (hb s us I.kIn hl) r2 h) fun r s' hq=>?_)
 cases r with
 | error e=>exact hx pins σ H s e s' I hq
 | ok fl =>
  cases fl with
  | ret u=>exact I.after hq
  | next=>exact False.elim hq
  | brk=>exact False.elim hq
  | cont=>exact False.elim hq
theorem a0p (F:a6g X.prog X.w X.K X.mg X.base CX k f fd ps sp) (hr:c8g k X.A) (hg:Gl X x) (hm:X.mg x=some (.ref f)) (hk:PySem.W.keepIn X.K (.ref f)=true) (hb:Binds X.K fd ps ds) (hd:a6a dvs ds) (hx:d0k CX X E)
  (ha:PA X (e :: es) t) (hdb:(x == ("__debug__":Str))=false:=by decide) (he:starEach (e :: es) X.env=(false,eval e X.env) :: starEach es X.env:=by rfl) (hpl:(backTo pos (starEach es X.env)).any (·.1)=false:=by rfl) :
  PE X (.Call (.Name x p) (e :: es) [] pos) (f7d sp dvs E t):=by
 intro pins s σ H Q I h
 refine wpAny_Call_Name_kw (d9n I hg hm ?_ hdb)
 refine e4h (h₀:=X.base) I.ok.mod.kin hk (thn (ha pos pins s σ H _ I h) fun us s1 ⟨vs,H1,I1,r,q⟩=>⟨I1.kIn,?_⟩) he hpl
 exact e5x F hr hb hd hx I1 r q
theorem f5a {pl : Sem Bool} (he : PE X o ta) (c : Cls X.K C) (hm : g0n X.K C m f) (F : a6g X.prog X.w X.K X.mg X.base CX k f fd ps sp) (hr : c8g k X.A) (hb : Binds X.K fd ps ds) (hd : a6a dvs ds) (hx : d0k CX X E) (ha : PA X (e :: es) t)
    (hst : starEach (e :: es) X.env = (false, eval e X.env) :: starEach es X.env := by rfl) (hpl : (backTo pos (starEach es X.env)).any (·.1) = false := by rfl)
    (ht : eval (.Call (.Attribute o m apos) (e :: es) [] pos) X.env = (do
      let ov ← eval o X.env
      standAt apos.atName
      let (f, first) ← holding [ov] (getMethod ov m pl)
      callWith pos f first (backTo pos (starEach (e :: es) X.env)) (backToKw pos (keywordEach [] X.env))) := by rfl) :
    PE X (.Call (.Attribute o m apos) (e :: es) [] pos) (f3g C m sp dvs E ta t) := by
  intro pins s σ H Q I h
  refine PySem.W.methodCall_KW (pl := pl) (thn (he pins s σ H _ I h) fun u s1 ⟨x, H1, I1, rx, a, dx, fs, ex, ea, l, q⟩ => ?_) ht
  subst ex
  obtain rfl : u = Value.ref a := rx
  refine d2v I1 ea c hm l ?_
  refine e4h (first := [.ref a]) (h₀ := X.base) I.ok.mod.kin hm.kp (thn (ha pos pins s1 σ H1 _ I1 q) fun us s2 ⟨vs, H2, I2, r, q2⟩ => ⟨I2.kIn, ?_⟩) hst hpl
  exact e5x (us := .ref a :: us) (vs := .ref a :: vs) F hr hb hd hx I2 (.cons rfl r) q2
theorem d3y {pl : Sem Bool} (he : PE X o ta) (c : Cls X.K C) (hm : g0n X.K C m f) (F : a6g X.prog X.w X.K X.mg X.base CX k f fd ps sp) (hr : c8g k X.A) (hb : Binds X.K fd ps ds) (hd : a6a dvs ds) (hx : d0k CX X E)
    (ht : eval (.Call (.Attribute o m apos) [] [] pos) X.env = (do
      let ov ← eval o X.env
      standAt apos.atName
      let (f, first) ← holding [ov] (getMethod ov m pl)
      callWith pos f first (backTo pos (starEach [] X.env)) (backToKw pos (keywordEach [] X.env))) := by rfl) :
    PE X (.Call (.Attribute o m apos) [] [] pos) (f3g C m sp dvs E ta f3f) := by
  intro pins s σ H Q I h
  refine PySem.W.methodCall_KW (pl := pl) (thn (he pins s σ H _ I h) fun u s1 ⟨x, H1, I1, rx, a, dx, fs, ex, ea, l, q⟩ => ?_) ht
  subst ex
  obtain rfl : u = Value.ref a := rx
  refine d2v I1 ea c hm l ?_
  exact PySem.W.callWith_K0 (first := [.ref a]) I1.kIn hm.kp (e5x (us := [.ref a]) (vs := [.ref a]) F hr hb hd hx I1 (.cons rfl .nil) q)

structure Mk (K:PySem.W.Frag) (C f:Addr):Prop where
 makes:PySem.W.makesIn K C=true
 init:PySem.W.findIn K (.ref C) "__init__"=some (some (.ref f))
 fn:PySem.W.isFn K (.ref f)=true
 kp:PySem.W.keepIn K (.ref C)=true
theorem f0c {pins:List (Addr×Obj)} {σ:St} {H:Hp} {s:Shared} {Q:VK} {us:List Value} {vs:List V} (M:Mk X.K C f) (F:a6g X.prog X.w X.K X.mg X.base CX k f fd ps sp) (hr:c8g (k+1) X.A) (hb:Binds X.K fd ps ds) (hd:a6a dvs ds)
  (hx:d0k CX X E) (I:Inv X pins σ H s) (r:a6a vs us)
  (h:∀x dx,H x=none->H dx=none->dx≠x->sp (.ref x :: (vs++dvs)) (upd (upd H dx (.own x)) x (.ins C dx [])) (fun v H2=>v=.non∧Q (.ref x) H2) E) :
  wpAny (model X.prog X.w) X.A (call (.ref C) us) (EP X pins σ Q) X.xe s:=by
 have hq:=h (s.heap.objs.size+1) s.heap.objs.size (I.hok.fresh (c3t _)) (I.hok.fresh (a0h _)) (a2q (a9n _))
 have I2:=Inv.made (C:=C) I
 have r2:a6a (V.ref (s.heap.objs.size+1) :: (vs++dvs)) (Value.ref (s.heap.objs.size+1) :: (us++ds)):=.cons rfl (r.append hd)
 have hl:(Value.ref (s.heap.objs.size+1) :: us++ds).length=ps.length:=by
  have e:=r2.length
  rw[F.len _ _ _ _ hq] at e
  exact e.symm
 refine wpAny_call (f0u (f:=f) I.kIn M.makes M.init (beq_iff_eq.mp M.fn) (codeAny_mono (F.run _ X.stack _ _ ⟨Value.ref (s.heap.objs.size+1) :: us,[]⟩ (Value.ref (s.heap.objs.size+1) :: (us++ds)) _ _ E (hr.make C us [])
  (I2.env0.make C us []) (hb _ (Value.ref (s.heap.objs.size+1) :: us) I2.kIn hl) r2 hq) fun r s' hq'=>?_))
 cases r with
 | error e=>exact hx pins σ _ _ e s' I2 hq'
 | ok fl =>
  cases fl with
  | ret u =>
   obtain ⟨v,H',I3,rv,ev,q3⟩:=I2.after hq'
   subst ev
   exact ⟨rv,⟨V.ref (s.heap.objs.size+1),H',I3,rfl,q3⟩⟩
  | next=>exact False.elim hq'
  | brk=>exact False.elim hq'
  | cont=>exact False.elim hq'
theorem e6o (M:Mk X.K C f) (F:a6g X.prog X.w X.K X.mg X.base CX k f fd ps sp) (hr:c8g (k+1) X.A) (hg:Gl X x) (hm:X.mg x=some (.ref C)) (hb:Binds X.K fd ps ds) (hd:a6a dvs ds) (hx:d0k CX X E)
  (ha:PA X (e :: es) t) (hdb:(x == ("__debug__":Str))=false:=by decide) (he:starEach (e :: es) X.env=(false,eval e X.env) :: starEach es X.env:=by rfl) (hpl:(backTo pos (starEach es X.env)).any (·.1)=false:=by rfl) :
  PE X (.Call (.Name x p) (e :: es) [] pos) (f7b C sp dvs E t):=by
 intro pins s σ H Q I h
 refine wpAny_Call_Name_kw (d9n I hg hm ?_ hdb)
 refine e4h (h₀:=X.base) I.ok.mod.kin M.kp (thn (ha pos pins s σ H _ I h) fun us s1 ⟨vs,H1,I1,r,q⟩=>⟨I1.kIn,?_⟩) he hpl
 exact f0c M F hr hb hd hx I1 r q
end
section
variable {X:Cx} {CX:CXT} {k:Nat} {f C:Addr} {fd:FuncData} {ps ks:List Str} {sp:Sp} {E:XK} {x m:Str} {p pos apos kpos:Pos} {e o:Expr} {es:List Expr} {kws:List Keyword} {te ta:TE} {t tk:TA} {nm:Option Str}
structure KBinds (K:PySem.W.Frag) (fd:FuncData) (ps ks:List Str) (g:List Value->List Value->List Value) (gV:List V->List V->List V):Prop where
 to:∀(s:Shared) (us ws:List Value),K.In s.heap->(g us ws).length=ps.length->BindsTo s fd ⟨us,ks.zip ws⟩ (ps.zip (g us ws))
 rel:∀{vs:List V} {us:List Value} {zs:List V} {ws:List Value},a6a vs us->a6a zs ws->a6a (gV vs zs) (g us ws)
variable {g:List Value->List Value->List Value} {gV:List V->List V->List V}
end
structure a1t (N P:List Str) (sc:Scope):Prop where
 kind:sc.kind=.function
 co:sc.isCoroutine=false
 gen:sc.isGenerator=false
 nd:N.Nodup
 pre:N.take P.length=P
 par:∀x∈P,sc.names.lookup x=some .local∨sc.names.lookup x=some .cell
 nofree:∀y∈sc.names,y.2≠.free
theorem d7r {kindOf:Str->Option NameKind} {x:Str}:∀{binds:List (Str×Value)} {m:Str->Option Value},(∀v,(x,v)∉binds)->bindL kindOf binds m x=m x
 | [],_,_=>rfl
 | (n,v) :: r,m,h=>by
  unfold bindL
  rw[d7r fun w hw=>h w (a2j _ hw)]
  split
  ·have:x≠n:=by rintro rfl;exact h v a4e
   simp [this]
  ·rfl
theorem d7t {kindOf:Str->Option NameKind} {x:Str}:∀{binds:List (Str×Value)} {m:Str->Option Value},(∀v,(x,v)∉binds)->bindC kindOf binds m x=m x
 | [],_,_=>rfl
 | (n,v) :: r,m,h=>by
  unfold bindC
  rw[d7t fun w hw=>h w (a2j _ hw)]
  split
  ·rfl
  ·have:x≠n:=by rintro rfl;exact h v a4e
   simp [this]
theorem d7s {kindOf:Str->Option NameKind} {x:Str} {v:Value}:∀{P:List Str} {vs:List Value} {i:Nat} {m:Str->Option Value},P.Nodup->P[i]?=some x->vs[i]?=some v->kindOf x=some .local →
  bindL kindOf (P.zip vs) m x=some v
 | [],_,_,_,_,h,_,_=>by simp at h
 | _ :: _,[],_,_,_,_,h,_=>by simp at h
 | p :: P,w :: vs,0,m,nd,h1,h2,hk=>by
  simp at h1 h2;subst h1;subst h2
  show bindL kindOf ((p,w) :: P.zip vs) m p=_
  unfold bindL
  rw[d7r fun v hv=>(a5n.mp nd).1 (List.of_mem_zip hv).1,if_pos hk]
  simp
 | p :: P,w :: vs,i+1,m,nd,h1,h2,hk=>by
  show bindL kindOf ((p,w) :: P.zip vs) m x=_
  unfold bindL
  exact d7s (i:=i) (a5n.mp nd).2 (by simpa using h1) (by simpa using h2) hk
theorem d7u {kindOf:Str->Option NameKind} {x:Str} {v:Value}:∀{P:List Str} {vs:List Value} {i:Nat} {m:Str->Option Value},P.Nodup->P[i]?=some x->vs[i]?=some v->kindOf x≠some .local →
  bindC kindOf (P.zip vs) m x=some v
 | [],_,_,_,_,h,_,_=>by simp at h
 | _ :: _,[],_,_,_,_,h,_=>by simp at h
 | p :: P,w :: vs,0,m,nd,h1,h2,hk=>by
  simp at h1 h2;subst h1;subst h2
  show bindC kindOf ((p,w) :: P.zip vs) m p=_
  unfold bindC
  rw[d7t fun v hv=>(a5n.mp nd).1 (List.of_mem_zip hv).1,if_neg hk]
  simp
 | p :: P,w :: vs,i+1,m,nd,h1,h2,hk=>by
  show bindC kindOf ((p,w) :: P.zip vs) m x=_
  unfold bindC
  exact d7u (i:=i) (a5n.mp nd).2 (by simpa using h1) (by simpa using h2) hk
def start (N:List Str) (vs:List V):St:=vs.map some++List.replicate (N.length - vs.length) none
def f6r (CX:CXT) (P:Program) (w:World) (K:PySem.W.Frag) (mg:Str->Option Value) (base:Heap) (N:List Str) (qual:Str) (scope:Scope) (f:Addr) (cd:Value) (A:Around) (outer:List Env) (s:Shared) (H:Hp) (E:XK):Cx where
 prog:=P
 w:=w
 K:=K
 mg:=mg
 base:=base
 A:=A.deeper (envOfC qual scope s.heap.objs.size f cd)
 N:=N
 s₀:=s
 H₀:=H
 env:=envOfC qual scope s.heap.objs.size f cd
 outer:=outer
 stack:=envOfC qual scope s.heap.objs.size f cd :: outer
 ex:=[]
 calm:=true
 fn:=fun _=>true
 pn:=[]
 xe:=fun e s'=>wpAny (model P w) (A.deeper (envOfC qual scope s.heap.objs.size f cd)) (leaving (envOfC qual scope s.heap.objs.size f cd) e) (fun _ s''=>CX outer H s E e s'') (fun e' s''=>CX outer H s E e' s'') s'
theorem e2d {sc:Scope} {n:Nat} {x:Str} (h:sc.names.lookup x=some .cell):∃c,(cellsFrom n sc.names []).lookup x=some c:=by
 have q:=d3c sc.names n [] (.inl h)
 exact Option.isSome_iff_exists.mp q
theorem e7q {CX:CXT} {P:Program} {w:World} {K:PySem.W.Frag} {mg:Str->Option Value} {base:Heap} {N ps:List Str} {qual:Str} {scope:Scope} {f:Addr} {cd:Value} {A:Around} {outer:List Env} {s s1:Shared} {H:Hp} {E:XK} {us:List Value} {vs:List V}
  (S:a1t N ps scope) (hd:A.handled=none) (e0:f6o P w K mg base A outer s H) (hl:vs.length=ps.length) (r:a6a vs us)
  (x:InCallC s s.heap.objs.size (bindL (envOfC qual scope s.heap.objs.size f cd).kindOf (ps.zip us) fun _=>none) (cellsFrom (s.heap.objs.size+1) scope.names []) (bindC (envOfC qual scope s.heap.objs.size f cd).kindOf (ps.zip us) fun _=>none) s1) :
  Inv (f6r CX P w K mg base N qual scope f cd A outer s H E) [] (start N vs) H s1:=by
 have hpl:ps.length<=N.length:=by have:=congrArg List.length S.pre;rw[a4h] at this;omega
 obtain ⟨h1,tk,rfl,hk⟩:=x.done
 have noA:∀b:Addr,b∉(f6r CX P w K mg base N qual scope f cd A outer s H E).ex:=fun b z=>absurd (show b∈([]:List Addr) from z) (by simp)
 refine ⟨⟨e0.mod,S.kind,rfl,rfl,a0h _,fun y z c h1 h2=>?_,fun y hy=>?_,fun y c _ h=>?_,fun _=>hd,Around.frames_deeper e0.frames,.inr ⟨rfl,rfl⟩,fun b z=>absurd z (noA b),e0.bs,e0.bsz,fun b _ _=>noA b,fun b z=>absurd z (noA b),e0.funs,e0.frf⟩,
  rfl,e0.bare,Un.kept hk,⟨_,x.toInCall.ns,fun i y v h1 h2 h3=>?_⟩,fun y c h=>⟨_,x.cell y c h⟩,e0.hok.fresh (a0h _),fun y c h=>?_,fun p hp=>absurd (show p∈([]:List (Addr×Obj)) from hp) (by simp),e0.hok.kept hk,?_⟩
 ·exact name_of_addr x.apart (b4r h1) (b4r h2)
 ·have hy:scope.names.lookup y=some .cell∨scope.names.lookup y=some .free:=hy
  rcases hy with hy | hy
  ·exact e2d hy
  ·exact absurd rfl (S.nofree _ (b4r hy))
 ·exact a1j (x.above y c (b4r h))
 ·have hi:i < vs.length:=by
   unfold start at h2
   by_cases hi:i < vs.length
   ·exact hi
   ·rw[a1e (by simpa using hi)] at h2
    rw[a3h] at h2
    split at h2 <;> cases h2
  have ha:vs[i]?=some v:=by
   unfold start at h2
   rw[a1p (by simpa using hi),a0x] at h2
   cases e:vs[i]? with
   | none=>rw[e] at h2;cases h2
   | some a=>rw[e] at h2;cases h2;rfl
  obtain ⟨u,hu,rv⟩:=r.get ha
  have hp:ps[i]?=some y:=by
   rw[← S.pre,c9a (by omega)];exact h1
  have ndP:ps.Nodup:=by rw[← S.pre];exact S.nd.sublist (List.take_sublist _ _)
  refine ⟨u,rv,?_⟩
  rcases S.par y (a0j hp) with k | k
  ·exact .inl ⟨k,d7s ndP hp hu k⟩
  ·obtain ⟨c,e⟩:=e2d (n:=s.heap.objs.size+1) k
   refine .inr ⟨.inl k,c,e,?_⟩
   have q:=x.cell y c e
   rw[d7u ndP hp hu (by show scope.names.lookup y≠_;rw[k];decide)] at q
   exact q
 ·exact e0.hok.fresh (a1j (x.above y c (b4r h)))
 ·unfold start
  show _=N.length
  rw[a0i,a0e,a0o]
  omega
theorem g1z {CX:CXT} {P:Program} {w:World} {K:PySem.W.Frag} {mg:Str->Option Value} {base:Heap} {k:Nat} {f:Addr} {name qual:Str} {params:Arguments} {body:List Stmt} {scope:Scope} {dV kV doc pm cdv ct oc:Value} {an od:Option Addr}
  {osl:Array (Option Value)} {N ps:List Str} {sp:Sp} (lk:K.lookup f=some ⟨oc,od,.func (PySem.W.fnOf name qual params body scope dV kV doc pm an cdv ct),osl⟩) (hcd:PySem.W.codeIn K cdv qual=true) (S:a1t N ps scope)
  (len:∀vs H Q E,sp vs H Q E->vs.length=ps.length)
  (hbody:∀(A:Around) (outer:List Env) (s:Shared) (H:Hp) (vs:List V) (Q:VK) (E:XK),c8g k (A.deeper (envOfC qual scope s.heap.objs.size f cdv))->sp vs H Q E →
   ∃t,PSs (f6r CX P w K mg base N qual scope f cdv A outer s H E) body t∧t { nx:=fun _ H'=>Q .non H',rt:=Q } (start N vs) H) :
  a6g P w K mg base CX (k+1) f (PySem.W.fnOf name qual params body scope dV kV doc pm an cdv ct) ps sp:=by
 refine ⟨len,fun A outer s H args us vs Q E hr e0 hb r hsp=>?_⟩
 have hl:=len _ _ _ _ hsp
 have KX:K.In s.heap:=e0.mod.kin.keeps fun b o e=>(e0.bs b o e).1
 have lim:s.heap.NoLimit:=e0.mod.nolimit.keeps fun b o e=>(e0.bs b o e).1
 have hkind:∀y∈ps.zip us,scope.names.lookup y.1=some .local∨(scope.names.lookup y.1=some .cell∧((cellsFrom (s.heap.objs.size+1) scope.names []).lookup y.1).isSome=true):=fun ⟨n,v⟩ hy=>by
  rcases S.par n (List.of_mem_zip hy).1 with q | q
  ·exact .inl q
  ·exact .inr ⟨q,d3c _ _ _ (.inl q)⟩
 refine codeAny_call_function hr.depth (KX _ _ lk) rfl S.co S.gen rfl (PySem.W.codeRec_of KX hcd) (hb _ _ _ _ ?_)
 refine wpAny_newFunctionEnv_cells S.kind hkind fun env he s1 x=>?_
 subst he
 refine ⟨lim.keeps x.toInCall.keep,codeAny_func ?_⟩
 obtain ⟨t,ht,hq⟩:=hbody A outer s H vs Q E (hr.deeper _) hsp
 have I:Inv (f6r CX P w K mg base N qual scope f cdv A outer s H E) [] (start N vs) H s1:=e7q S hr.hd e0 hl r x
 refine wpAny_mono (ht [] s1 (start N vs) H _ I hq) (fun fl s' hs=>?_) fun e s' hs=>hs
 have fin:∀{σ':St} {H':Hp} {v:V} {u:Value},Inv (f6r CX P w K mg base N qual scope f cdv A outer s H E) [] σ' H' s'->RelV v u->Q v H'->CE outer P w H s Q u s' :=
  fun {σ' H' v u} J rv q=>⟨v,H',J.os,J.bare,J.base,J.hok,rv,q⟩
 cases fl with
 | ret u =>
  obtain ⟨v,σ',H',J,rv,q⟩:=hs
  exact fin J rv q
 | next =>
  obtain ⟨σ',H',J,q⟩:=hs
  exact fin (v:=V.non) (u:=Value.none) J rfl q
 | brk =>
  obtain ⟨_,_,_,q⟩:=hs
  exact False.elim q
 | cont =>
  obtain ⟨_,_,_,q⟩:=hs
  exact False.elim q
end L2
namespace L2
open PySem PySem.Spec PyProof.Rows
section
variable {X:Cx} {x:Str} {p pos:Pos} {e:Expr} {es:List Expr} {t:TA} {id T:String} {r:List V->Hp->VK->Prop}
def tCB (r:List V->Hp->VK->Prop) (t:TA):TE:=fun σ H Q=>t σ H fun vs H1=>r vs H1 Q
theorem a2k (hc:d0v X (.builtin id) r) (hg:Gl X x) (hm:X.mg x=none) (hv:bootBuiltins x=some (.builtin id)) (ha:PA X (e :: es) t) (hn:x≠"__name__":=by decide) (hdb:(x == ("__debug__":Str))=false:=by decide)
  (he:starEach (e :: es) X.env=(false,eval e X.env) :: starEach es X.env:=by rfl) (hpl:(backTo pos (starEach es X.env)).any (·.1)=false:=by rfl):PE X (.Call (.Name x p) (e :: es) [] pos) (tCB r t):=by
 intro pins s σ H Q I h
 refine wpAny_Call_Name_kw (b7e I hg hm hv ?_ hn hdb)
 exact PyProof.Rows.callWith_builtin1 (thn (ha pos pins s σ H _ I h) fun us s1 ⟨vs,H1,I1,r1,q1⟩=>hc pins s1 σ H1 vs us Q I1 r1 q1) he hpl
theorem b1t (hc:d0v X (.type T) r) (hg:Gl X x) (hm:X.mg x=none) (hv:bootBuiltins x=some (.type T)) (ha:PA X (e :: es) t) (hn:x≠"__name__":=by decide) (hdb:(x == ("__debug__":Str))=false:=by decide)
  (he:starEach (e :: es) X.env=(false,eval e X.env) :: starEach es X.env:=by rfl) (hpl:(backTo pos (starEach es X.env)).any (·.1)=false:=by rfl):PE X (.Call (.Name x p) (e :: es) [] pos) (tCB r t):=by
 intro pins s σ H Q I h
 refine wpAny_Call_Name_kw (b7e I hg hm hv ?_ hn hdb)
 exact PyProof.Rows.callWith_type1 (thn (ha pos pins s σ H _ I h) fun us s1 ⟨vs,H1,I1,r1,q1⟩=>hc pins s1 σ H1 vs us Q I1 r1 q1) he hpl
end
end L2
namespace HT
open PySem PyProof.Rows
section
open PySem.SeqAt
open PySem.AutoSeq1 (wpAny_loadPart')
open PySem.MeetsSeq PySem.MeetsSeq2 PySem.MeetsSeq3
end
section
variable {prog:Program} {w:World} {A:Around} {E:Value->Shared->Prop} {s:Shared}
def sIx (n d:Nat):Option Int->Nat
 | none=>d
 | some v=>if v < 0 then (v+(n:Int)).toNat else min v.toNat n
theorem e0t (n d:Nat):sIx n d none=d:=rfl
theorem d3t (n d k:Nat):sIx n d (some (k:Int))=min k n:=by
 show (if (k:Int) < 0 then ((k:Int)+(n:Int)).toNat else min (k:Int).toNat n)=min k n
 rw[if_neg (by omega),Int.toNat_natCast]
end
end HT
namespace L2
open PySem PySem.Spec PyProof.Rows
abbrev TO:=St->Hp->(Option Int->Hp->Prop)->Prop
def PO (X:Cx) (e:Option Expr) (t:TO):Prop :=
 ∀(pins:List (Addr×Obj)) (s:Shared) (σ:St) (H:Hp) (Q:Option Int->Hp->Prop),Inv X pins σ H s->t σ H Q →
  wpAny (model X.prog X.w) X.A (evalPart e X.env) (fun u s'=>∃o H',Inv X pins σ H' s'∧IsPart u o∧Q o H') X.xe s
def e4r:TO:=fun _ H Q=>Q none H
def f6y (t:TE):TO:=fun σ H Q=>t σ H fun x H1=>∃i,x=.int i∧Q (some i) H1
theorem intsAre_of {ns:List Int}:∀{us:List Value},a6a (ns.map V.int) us->IntsAre us ns:=by
 induction ns with
 | nil=>intro us r;rw[f1z] at r;cases r;exact .nil
 | cons n ns ih =>
  intro us r
  rw[a6y] at r
  cases r with
  | cons r1 r2 =>
   obtain ⟨t,e⟩:=r1
   subst e
   exact .cons n t (ih r2)
section
variable {X:Cx} {e:Expr} {te:TE} {lo hi:Option Expr} {tl th:TO} {pos p2:Pos}
theorem e6k:PO X none e4r:=by
 intro pins s σ H Q I h
 rw[evalPart_none]
 exact wpAny_pure ⟨none,H,I,.none,h⟩
theorem d3v (h:PE X e te):PO X (some e) (f6y te):=by
 intro pins s σ H Q I hw
 rw[evalPart_some]
 refine thn (h pins s σ H _ I hw) fun u s1 ⟨x,H1,I1,r1,q1⟩=>?_
 obtain ⟨i,rfl,q⟩:=q1
 obtain ⟨t,rfl⟩:=r1
 exact ⟨some i,H1,I1,.int i t,q⟩
def SlR (X:Cx) (r:V->Option Int->Option Int->Hp->VK->Prop):Prop :=
 ∀(pins:List (Addr×Obj)) (s:Shared) (σ:St) (H:Hp) (x:V) (v vl vu:Value) (lo hi:Option Int) (sl:Addr) (Q:VK),Inv X pins σ H s->RelV x v->s.heap.IsSliceOf sl vl vu .none->IsPart vl lo->IsPart vu hi->r x lo hi H Q →
  ∃T id,typeLookup (.type T) "__getitem__"=pure (some (.builtin id))∧s.TypeIs v T∧wpAny (model X.prog X.w) X.A (getItem v (.ref sl)) (EP X pins σ Q) X.xe s
def tSl (r:V->Option Int->Option Int->Hp->VK->Prop) (te:TE) (tl th:TO):TE:=fun σ H Q=>te σ H fun x H1=>tl σ H1 fun l H2=>th σ H2 fun u H3=>r x l u H3 Q
theorem d3x {r:V->Option Int->Option Int->Hp->VK->Prop} (hr:SlR X r) (he:PE X e te) (hl:PO X lo tl) (hu:PO X hi th):PE X (.Subscript e (.Slice lo hi none p2) pos) (tSl r te tl th):=by
 intro pins s σ H Q I h
 refine Subscript_ (thn (he pins s σ H _ I h) fun v s1 ⟨x,H1,I1,r1,q1⟩=>?_)
 refine wpAny_Slice (thn (hl pins s1 σ H1 _ I1 q1) fun vl s2 ⟨l,H2,I2,pl,q2⟩=>thn (hu pins s2 σ H2 _ I2 q2) fun vu s3 ⟨u,H3,I3,pu,q3⟩=>?_)
 rw[evalPart_none]
 refine wpAny_pure ?_
 have I4:Inv X pins σ H3 { s3 with heap:=s3.heap.push { cls:=.type "slice",data:=.fields #[vl,vu,.none] } }:=I3.kept (t':=s3.toks) fun b ob q=>Heap.get?_push_of_some _ q
 obtain ⟨T,id,hT,ht,hg⟩:=hr pins { s3 with heap:=s3.heap.push { cls:=.type "slice",data:=.fields #[vl,vu,.none] } } σ H3 x v vl vu l u s3.heap.objs.size Q I4 r1 (Heap.IsSliceOf.new ..) pl pu q3
 show wpAny (model X.prog X.w) X.A (subscriptTail e (.Slice lo hi none p2) v (.ref s3.heap.objs.size)) (EP X pins σ Q) X.xe { s3 with heap:=s3.heap.push { cls:=.type "slice",data:=.fields #[vl,vu,.none] } }
 exact tail_any (ops:=[.ref s3.heap.objs.size,v]) ht hT hg (by with_unfolding_all rfl)
def d8h (xs:List V) (lo hi:Option Int):List V:=(xs.drop (HT.sIx xs.length 0 lo)).take (HT.sIx xs.length xs.length hi - HT.sIx xs.length 0 lo)
theorem d0a (xs:List V) (lo hi:Option Int):(d8h xs lo hi).length<=xs.length:=by
 unfold d8h
 rw[a4h,f3b]
 omega
end
end L2
namespace L2
open PySem PySem.Spec PyProof.Rows
def ixN (n:Nat) (i:Int):Option Nat:=if 0<=i then (if i < n then some i.toNat else none) else if -(n:Int)<=i then some (i+n).toNat else none
def atI {α:Type} (xs:List α) (i:Int):Option α:=(ixN xs.length i).bind fun j=>xs[j]?
theorem e7p {n:Nat} {i:Int} {j:Nat} (h:ixN n i=some j):seqIndex? i n=some j∧j < n∧-(n:Int)<=i∧i < n:=by
 unfold ixN at h
 by_cases h0:0<=i
 ·rw[if_pos h0] at h
  by_cases h1:i < n
  ·rw[if_pos h1] at h
   have e:i.toNat=j:=a2v h
   exact ⟨by rw[seqIndex_of h0 h1,e],by omega,by omega,h1⟩
  ·rw[if_neg h1] at h;cases h
 ·rw[if_neg h0] at h
  by_cases h1:-(n:Int)<=i
  ·rw[if_pos h1] at h
   have e:(i+n).toNat=j:=a2v h
   exact ⟨by rw[seqIndex_neg (by omega) h1,e],by omega,h1,by omega⟩
  ·rw[if_neg h1] at h;cases h
theorem d9z {α:Type} {xs:List α} {i:Int} {v:α} (h:atI xs i=some v):∃j,seqIndex? i xs.length=some j∧xs[j]?=some v∧j < xs.length∧-(xs.length:Int)<=i∧i < xs.length:=by
 unfold atI at h
 cases e:ixN xs.length i with
 | none=>rw[e] at h;cases h
 | some j =>
  rw[e] at h
  obtain ⟨h1,h2,h3,h4⟩:=e7p e
  exact ⟨j,h1,h,h2,h3,h4⟩
theorem b2c {α:Type} {xs:List α} {j:Nat} {v:α} (h:xs[j]?=some v):atI xs (j:Int)=some v:=by
 have hj:j < xs.length:=(a0s.mp h).1
 have e:ixN xs.length (j:Int)=some j:=by
  unfold ixN
  rw[if_pos (by omega),if_pos (by omega)];simp
 unfold atI;rw[e];exact h
theorem c5r {α:Type} (xs:List α) (v:α):atI (xs++[v]) (-1)=some v:=by
 have hl:(xs++[v]).length=xs.length+1:=by simp
 have e:ixN (xs++[v]).length (-1)=some xs.length:=by
  unfold ixN
  rw[hl,if_neg (by decide),if_pos (by omega)]
  congr 1
  omega
 unfold atI
 rw[e]
 show (xs++[v])[xs.length]?=some v
 simp
def f6h (b:Expr):Prop:=∀o i,subscripted b false o i=operate [o,i] (getItem o i)
def IxR (X:Cx) (r:R2):Prop :=
 ∀(value slice:Expr) (pins:List (Addr×Obj)) (s:Shared) (σ:St) (H:Hp) (x y:V) (v u:Value) (Q:VK),Inv X pins σ H s->RelV x v->RelV y u->r x y H Q →
  subscripted slice false v u=operate [v,u] (getItem v u)->wpAny (model X.prog X.w) X.A (subscriptTail value slice v u) (EP X pins σ Q) X.xe s
def MtR (X:Cx) (id:String) (r:V->List V->Hp->VK->Prop):Prop :=
 ∀(pins:List (Addr×Obj)) (s:Shared) (σ:St) (H:Hp) (x:V) (xs:List V) (v:Value) (us:List Value) (Q:VK),Inv X pins σ H s->RelV x v->a6a xs us->r x xs H Q →
  wpAny (model X.prog X.w) X.A (call (.builtin id) (v :: us)) (EP X pins σ Q) X.xe s
section
variable {X:Cx} {a b:Expr} {ta tb:TE} {pos:Pos}
theorem a2w {r:R2} (hr:IxR X r) (ha:PE X a ta) (hb:PE X b tb) (hs:f6h b):PE X (.Subscript a b pos) (tOp r ta tb):=by
 intro pins s σ H Q I h
 exact Subscript_ (g2b ha hb I h fun v u s2 x y H2 I2 rx ry q=>hr a b pins s2 σ H2 x y v u Q I2 rx ry q (hs _ _))
def g1p (K:PySem.W.Frag):R2:=fun x y H Q=>∃p xs i v,x=.ref p∧y=.int i∧SqL K H p xs∧atI xs i=some v∧Q v H
def g1o (K:PySem.W.Frag):R2:=fun x y H Q=>∃p xs i v,x=.ref p∧y=.int i∧SqT K H p xs∧atI xs i=some v∧Q v H
theorem a3a:IxR X (g1p X.K):=by
 intro value slice pins s σ H x y v u Q I rx ry h hs
 obtain ⟨p,xs,i,z,rfl,rfl,hq,he,q⟩:=h
 cases rx
 obtain ⟨t,rfl⟩:=ry
 obtain ⟨its,r,pl,hz⟩:=I.list hq
 obtain ⟨j,h1,h2,h3,h4,h5⟩:=d9z he
 obtain ⟨w,ew,rw'⟩:=r.get h2
 have hl:=r.length
 have hn:=d7a
 have fin:EP X pins σ Q w s:=⟨z,H,I,rw',q⟩
 by_cases h0:0<=i
 ·have hj:i.toNat=j:=by
   rw[seqIndex_of h0 h5] at h1
   exact a2v h1
  exact item_listR pl.isList h0 (by omega) (by rw[hj];simpa using ew) fin hs
 ·have hj:(i+(its.toArray.size:Int)).toNat=j:=by
   rw[seqIndex_neg (by omega) h4] at h1
   rw[a1a,← hl]
   exact a2v h1
  exact subscriptTail_builtinR (x:=w) pl.isList.typeIs slot_list_getitem.lookup
   (wpAny_getItem_list_neg (Q:=fun r s'=>r=w∧EP X pins σ Q r s') pl.isList (by omega) (by rw[a1a] <;> omega) (by omega) (by rw[hj];simpa using ew) ⟨rfl,fin⟩) hs
theorem a4a:IxR X (g1o X.K):=by
 intro value slice pins s σ H x y v u Q I rx ry h hs
 obtain ⟨p,xs,i,z,rfl,rfl,hq,he,q⟩:=h
 cases rx
 obtain ⟨t,rfl⟩:=ry
 obtain ⟨its,r,pl,hz⟩:=I.tuple hq
 obtain ⟨j,h1,h2,h3,h4,h5⟩:=d9z he
 obtain ⟨w,ew,rw'⟩:=r.get h2
 have hl:=r.length
 have hn:=d7a
 have fin:EP X pins σ Q w s:=⟨z,H,I,rw',q⟩
 exact subscriptTail_builtinR (x:=w) pl.typeIs slot_tuple_getitem.lookup
  (getItem_tuple (j:=j) (Q:=fun r s'=>r=w∧EP X pins σ Q r s') pl (by omega) (by omega) (by rw[a1a,← hl];exact h1) (by simpa using ew) ⟨rfl,fin⟩) hs
theorem e3s (its:List Value) (n j:Nat) (u:Value):Obj.mapSeq (·.setIfInBounds j u) { cls:=.type "list",data:=.seq its.toArray n }={ cls:=.type "list",data:=.seq (its.set j u).toArray n }:=by
 simp [Obj.mapSeq]
theorem Inv.lst {pins:List (Addr×Obj)} {σ:St} {H:Hp} {s:Shared} {p:Addr} {xs:List V} (I:Inv X pins σ H s) (h:H p=some (.lst xs)) :
  ∃(its:List Value) (n:Nat),a6a xs its∧s.heap.get? p=some { cls:=.type "list",data:=.seq its.toArray n }∧xs.length<=sizeLine:=by
 obtain ⟨z,its,n,r,e⟩:=I.hok p _ h
 exact ⟨its,n,r,e,z⟩
theorem Inv.lstUpd {pins:List (Addr×Obj)} {σ:St} {H:Hp} {s:Shared} {p:Addr} {xs ys:List V} {its its':List Value} {n n':Nat} {f:Obj->Obj} (I:Inv X pins σ H s) (h:H p=some (.lst xs))
  (ho:s.heap.get? p=some { cls:=.type "list",data:=.seq its.toArray n }) (hf:f { cls:=.type "list",data:=.seq its.toArray n }={ cls:=.type "list",data:=.seq its'.toArray n' }) (r:a6a ys its') (hz:ys.length<=sizeLine) (t:Nat) :
  Inv X pins σ (upd H p (.lst ys)) { s with heap:=s.heap.update p f,toks:=t }:=by
 have e:(s.heap.update p f).get? p=some { cls:=.type "list",data:=.seq its'.toArray n' }:=by
  rw[Heap.get?_update_self f ho (by rw[hf] <;> rfl),hf]
 refine I.write (x:=p) (e:=p) (by rw[h];trivial) (.inl rfl) (fun b u hb q=>(Heap.get?_update_other _ _ (Ne.symm hb)).trans q) ⟨_,e⟩ ?_
 exact ⟨hz,its',n',r,e⟩
def f8p:V->V->V->Hp->(Hp->Prop)->Prop:=fun o i v H Q=>∃p xs k j,o=.ref p∧i=.int k∧H p=some (.lst xs)∧ixN xs.length k=some j∧Q (upd H p (.lst (xs.set j v)))
theorem set_list:g2c X f8p:=by
 intro pins s σ H o i v ov iv u Q I ro ri rv h
 obtain ⟨p,xs,k,j,rfl,rfl,hp,hj,q⟩:=h
 cases ro
 obtain ⟨t,rfl⟩:=ri
 obtain ⟨its,n,r,ho,hz⟩:=I.lst hp
 obtain ⟨h1,h2,h3,h4⟩:=e7p hj
 have hl:=r.length
 have hn:=d7a
 have I':Inv X pins σ (upd H p (.lst (xs.set j v))) { s with heap:=s.heap.update p (Obj.mapSeq (·.setIfInBounds j u)) } :=
  I.lstUpd hp ho (e3s its n j u) (r.set rv j) (by rw[a4q];exact hz) s.toks
 by_cases h0:0<=k
 ·have hk:k.toNat=j:=by
   rw[seqIndex_of h0 h4] at h1
   exact a2v h1
  exact PySem.W.ki_setAt ho h0 (by omega) (by rw[a1a,← hl];exact h4) (by rw[hk];exact ⟨_,I',q⟩)
 ·have hk:(k+(its.toArray.size:Int)).toNat=j:=by
   rw[seqIndex_neg (by omega) h3] at h1
   rw[a1a,← hl]
   exact a2v h1
  exact PySem.W.ki_setBack ho (by omega) (by rw[a1a,← hl];exact h3) (by omega) (by rw[hk];exact ⟨_,I',q⟩)
theorem d6c (lo hi:Option Int) (n:Nat):(sliceBounds lo hi none n).1=((HT.sIx n 0 lo:Nat):Int)∧(sliceBounds lo hi none n).2.1=((HT.sIx n n hi:Nat):Int)∧(sliceBounds lo hi none n).2.2=1:=by
 refine ⟨?_,?_,rfl⟩
 ·cases lo with
  | none=>simp [sliceBounds,HT.sIx]
  | some i =>
   simp only[sliceBounds,HT.sIx,Option.getD_none,show (1:Int) > 0 by decide,if_true]
   by_cases h:i < 0
   ·simp only[h,if_true] <;> omega
   ·simp only[h,if_false] <;> omega
 ·cases hi with
  | none=>simp [sliceBounds,HT.sIx]
  | some i =>
   simp only[sliceBounds,HT.sIx,Option.getD_none,show (1:Int) > 0 by decide,if_true]
   by_cases h:i < 0
   ·simp only[h,if_true] <;> omega
   ·simp only[h,if_false] <;> omega
theorem d3o (its:List Value) (lo hi:Option Int):slicePick its.toArray lo hi none=((its.drop (HT.sIx its.length 0 lo)).take (HT.sIx its.length its.length hi - HT.sIx its.length 0 lo)).toArray:=by
 obtain ⟨h1,h2,h3⟩:=d6c lo hi its.toArray.size
 unfold slicePick
 rw[h1,h2,h3]
 simp only[sliceRange_one,pick_run,a1a] <;> rfl
def g1n (K:PySem.W.Frag):V->Option Int->Option Int->Hp->VK->Prop:=fun x lo hi H Q=>∃a xs,x=.ref a∧SqL K H a xs∧∀p,H p=none->Q (.ref p) (upd H p (.lst (d8h xs lo hi)))
theorem d8t:SlR X (g1n X.K):=by
 intro pins s σ H x v vl vu lo hi sl Q I rx hs pl pu h
 obtain ⟨a,xs,rfl,hx,q⟩:=h
 cases rx
 obtain ⟨its,r,ht,hz⟩:=I.list hx
 have hlen:=r.length
 refine ⟨"list",_,slot_list_getitem.lookup,ht.isList.typeIs,?_⟩
 refine wpAny_getItem_list_slice ht.isList hs pl pu .none (by simp) ?_ (by rw[a1a] <;> omega)
 rw[d3o,← hlen]
 refine ⟨.ref s.heap.objs.size,_,I.laid (t':=s.toks) (o:=.lst (d8h xs lo hi)) (fun b ob q=>Heap.get?_push_of_some _ q) (a0h _) ?_,rfl,q _ (I.hok.fresh (a0h _))⟩
 exact ⟨a0d (d0a xs lo hi) hz,_,0,(r.drop (HT.sIx xs.length 0 lo)).take (HT.sIx xs.length xs.length hi - HT.sIx xs.length 0 lo),Heap.get?_push_size _ rfl⟩
def d4s:V->Bool
 | .non=>true
 | .bl _=>true
 | .int _=>true
 | .str _=>true
 | _=>false
def eqV:V->V->Bool
 | .non,.non=>true
 | .bl a,.bl b=>a == b
 | .bl a,.int b=>(if a then 1 else 0) == b
 | .int a,.bl b=>a == (if b then 1 else 0)
 | .int a,.int b=>a == b
 | .str a,.str b=>a == b
 | _,_=>false
theorem g0c {A:Around} {s:Shared} {y x:V} {u v:Value} (ry:RelV y u) (rx:RelV x v) (fy:d4s y=true) (fx:d4s x=true):SeqAt.EqAt A s u v (eqV y x):=by
 cases y with
 | non =>
  cases ry
  cases x with
  | non=>cases rx;exact SeqAt.EqAt.same _
  | bl b=>cases rx;exact SeqAt.EqAt.none_bool b
  | int b=>obtain ⟨t,rfl⟩:=rx;exact SeqAt.EqAt.none_int b t
  | str b=>obtain ⟨t,rfl⟩:=rx;exact SeqAt.EqAt.none_str b t
  | _=>exact absurd (show false=true from fx) a1g
 | bl a =>
  cases ry
  cases x with
  | non=>cases rx;exact SeqAt.EqAt.bool_none a
  | bl b=>cases rx;exact SeqAt.EqAt.bool_bool a b
  | int b=>obtain ⟨t,rfl⟩:=rx;exact SeqAt.EqAt.bool_int a b t
  | str b=>obtain ⟨t,rfl⟩:=rx;exact SeqAt.EqAt.bool_str a b t
  | _=>exact absurd (show false=true from fx) a1g
 | int a =>
  obtain ⟨t',rfl⟩:=ry
  cases x with
  | non=>cases rx;exact SeqAt.EqAt.int_none a t'
  | bl b=>cases rx;exact SeqAt.EqAt.int_bool a t' b
  | int b=>obtain ⟨t,rfl⟩:=rx;exact SeqAt.EqAt.int_int a t' b t
  | str b=>obtain ⟨t,rfl⟩:=rx;exact SeqAt.EqAt.int_str a t' b t
  | _=>exact absurd (show false=true from fx) a1g
 | str a =>
  obtain ⟨t',rfl⟩:=ry
  cases x with
  | non=>cases rx;exact SeqAt.EqAt.str_none a t'
  | bl b=>cases rx;exact SeqAt.EqAt.str_bool a t' b
  | int b=>obtain ⟨t,rfl⟩:=rx;exact SeqAt.EqAt.str_int a t' b t
  | str b=>obtain ⟨t,rfl⟩:=rx;exact SeqAt.EqAt.str_str a t' b t
  | _=>exact absurd (show false=true from fx) a1g
 | _=>exact absurd (show false=true from fy) a1g
def eqU (x:V) (u:Value):Bool:=match u with
 | .none=>eqV .non x
 | .bool b=>eqV (.bl b) x
 | .int i _=>eqV (.int i) x
 | .str z _=>eqV (.str z) x
 | _=>false
theorem f2r {x y:V} {u:Value} (r:RelV y u) (f:d4s y=true):eqU x u=eqV y x:=by
 cases y with
 | non=>cases r;rfl
 | bl b=>cases r;rfl
 | int i=>obtain ⟨t,rfl⟩:=r;rfl
 | str z=>obtain ⟨t,rfl⟩:=r;rfl
 | _=>exact absurd (show false=true from f) a1g
theorem d0i {x:V}:∀{xs:List V} {us:List Value},a6a xs us->xs.all d4s=true->us.any (eqU x)=xs.any fun y=>eqV y x
 | _,_,.nil,_=>rfl
 | y :: xs,u :: us,.cons r t,f=>by
  rw[List.all_cons,a4x] at f
  rw[List.any_cons,List.any_cons,f2r r f.1,d0i t f.2]
theorem c4v {A:Around} {s:Shared} {x:V} {v:Value} (rx:RelV x v) (fx:d4s x=true):∀{xs:List V} {us:List Value},a6a xs us->xs.all d4s=true->∀u∈us,SeqAt.EqAt A s u v (eqU x u)
 | _,_,.nil,_=>fun u hu=>by cases hu
 | y :: xs,u :: us,.cons r t,f=>fun u' hu=>by
  rw[List.all_cons,a4x] at f
  rcases a0u.mp hu with rfl | hu
  ·rw[f2r r f.1];exact g0c r rx f.1 fx
  ·exact c4v rx fx t f.2 u' hu
def inV (x:V) (xs:List V):Bool:=xs.any fun y=>eqV y x
def rIn (K:PySem.W.Frag) (neg:Bool):R2:=fun x y H Q=>∃p xs,y=.ref p∧(SqL K H p xs∨SqT K H p xs)∧d4s x=true∧xs.all d4s=true∧Q (.bl (if neg then !inV x xs else inV x xs)) H
theorem e6u:OpR X (compareOp .In) (rIn X.K false):=by
 intro pins s σ H x y v u Q I rx ry h
 obtain ⟨p,xs,rfl,hq,fx,fs,q⟩:=h
 cases ry
 rcases hq with hq | hq
 ·obtain ⟨its,r,pl,hz⟩:=I.list hq
  refine SeqAt.in_listAt (eqU x) pl.isList (fun w hw=>c4v rx fx r fs w (by simpa using hw)) ⟨.bl _,H,I,rfl,?_⟩
  rw[show its.toArray.any (eqU x)=its.any (eqU x) by simp,d0i r fs]
  exact q
 ·obtain ⟨its,r,pl,hz⟩:=I.tuple hq
  refine SeqAt.in_tupleAt (eqU x) pl (fun w hw=>c4v rx fx r fs w (by simpa using hw)) ⟨.bl _,H,I,rfl,?_⟩
  rw[show its.toArray.any (eqU x)=its.any (eqU x) by simp,d0i r fs]
  exact q
theorem d6n:OpR X (compareOp .NotIn) (rIn X.K true):=by
 intro pins s σ H x y v u Q I rx ry h
 obtain ⟨p,xs,rfl,hq,fx,fs,q⟩:=h
 cases ry
 rcases hq with hq | hq
 ·obtain ⟨its,r,pl,hz⟩:=I.list hq
  refine SeqAt.notIn_listAt (eqU x) pl.isList (fun w hw=>c4v rx fx r fs w (by simpa using hw)) ⟨.bl _,H,I,rfl,?_⟩
  rw[show its.toArray.any (eqU x)=its.any (eqU x) by simp,d0i r fs]
  exact q
 ·obtain ⟨its,r,pl,hz⟩:=I.tuple hq
  refine SeqAt.notIn_tupleAt (eqU x) pl (fun w hw=>c4v rx fx r fs w (by simpa using hw)) ⟨.bl _,H,I,rfl,?_⟩
  rw[show its.toArray.any (eqU x)=its.any (eqU x) by simp,d0i r fs]
  exact q
theorem a1y:d0v X (.builtin "len") (fun xs H Q=>∃p ys,xs=[.ref p]∧(SqL X.K H p ys∨SqT X.K H p ys)∧Q (.int ys.length) H):=by
 intro pins s σ H xs us Q I r h
 obtain ⟨p,ys,rfl,hq,q⟩:=h
 obtain ⟨u,rfl,rx⟩:=vals1 r
 cases rx
 have hn:=d7a
 rcases hq with hq | hq
 ·obtain ⟨its,r',pl,hz⟩:=I.list hq
  have hlen:=r'.length
  exact Calls.call_len_list pl.isList (by simp only[a1a] <;> omega) ⟨.int ys.length,H,I.tok _,⟨s.toks+1,by rw[a1a,hlen]⟩,q⟩
 ·obtain ⟨its,r',pl,hz⟩:=I.tuple hq
  have hlen:=r'.length
  exact len_tuple pl (by simp only[a1a] <;> omega) ⟨.int ys.length,H,I.tok _,⟨s.toks+1,by rw[a1a,hlen]⟩,q⟩
theorem c0c:d0v X (.type "list") (fun xs H Q=>∃p ys,xs=[.ref p]∧(SqL X.K H p ys∨SqT X.K H p ys)∧∀l,H l=none->Q (.ref l) (upd H l (.lst ys))):=by
 intro pins s σ H xs us Q I r h
 obtain ⟨p,ys,rfl,hq,q⟩:=h
 obtain ⟨u,rfl,rx⟩:=vals1 r
 cases rx
 have fin:∀(its:List Value),a6a ys its->ys.length<=sizeLine->∀(h':Heap) (c':Nat),(∀b o',s.heap.get? b=some o'->h'.get? b=some o') →
   h'.get? s.heap.objs.size=some { cls:=.type "list",dict:=none,data:=.seq its.toArray c',slots:=#[] }->EP X pins σ Q (.ref s.heap.objs.size) { s with heap:=h' }:=fun its r' hz h' c' kp e =>
  ⟨.ref s.heap.objs.size,_,I.laid (t':=s.toks) kp (a0h _) (show b7h X.prog X.w _ h' _ (.lst ys) from ⟨hz,its,c',r',e⟩),rfl,q _ (I.hok.fresh (a0h _))⟩
 rcases hq with hq | hq
 ·obtain ⟨its,r',pl,hz⟩:=I.list hq
  have hlen:=r'.length
  obtain ⟨o,ho,hc,n,hd⟩:=pl.isList
  exact call_list_seq p (.inl rfl) ho hc hd (fun h' c' kp e=>fin its r' hz h' c' kp e) (by simp only[a1a] <;> omega)
 ·obtain ⟨its,r',pl,hz⟩:=I.tuple hq
  have hlen:=r'.length
  obtain ⟨o,ho,hc,n,hd⟩:=pl
  exact call_list_seq p (.inr rfl) ho hc hd (fun h' c' kp e=>fin its r' hz h' c' kp e) (by simp only[a1a] <;> omega)
def tyV (K:PySem.W.Frag) (T:String) (x:V) (H:Hp):Prop:=match x with
 | .str _=>T="str"
 | .int _=>T="int"
 | .ref p=>(T="list"∧∃xs,SqL K H p xs)∨(T="tuple"∧∃o,K.lookup p=some o∧o.cls=.type "tuple"∧o.dict=none) ∨
   (T="dict"∧((∃kvs,H p=some (.dK kvs))∨∃kvs,H p=some (.dT kvs)))∨(T="set"∧∃S n,H p=some (.set S n))
 | _=>False
theorem f6v {pins:List (Addr×Obj)} {σ:St} {H:Hp} {s:Shared} {T:String} {x:V} {v:Value} (I:Inv X pins σ H s) (r:RelV x v) (ty:tyV X.K T x H) :
  s.TypeIs v T∧∀a,v=.ref a->∃ob,s.heap.get? a=some ob∧ob.dict=none:=by
 cases x with
 | str z =>
  obtain ⟨t,rfl⟩:=r
  cases (show T="str" from ty)
  exact ⟨typeIs_str s z t,fun _ e=>nomatch e⟩
 | int i =>
  obtain ⟨t,rfl⟩:=r
  cases (show T="int" from ty)
  exact ⟨typeIs_int s i t,fun _ e=>nomatch e⟩
 | ref p =>
  cases r
  rcases ty with ⟨rfl,xs,hq⟩ | ⟨rfl,o,hk,hc,hd⟩ | ⟨rfl,hk⟩ | ⟨rfl,S,n,hk⟩
  ·obtain ⟨its,_,pl,_⟩:=I.list hq
   refine ⟨pl.isList.typeIs,fun a e=>?_⟩
   cases e
   obtain ⟨o,n,e,c,hd,_⟩:=pl
   exact ⟨o,e,hd⟩
  ·refine ⟨⟨o,I.kIn p o hk,hc⟩,fun a e=>?_⟩
   cases e
   exact ⟨o,I.kIn _ o hk,hd⟩
  ·have z:∃o,s.heap.get? p=some o∧o.ExactDict:=by
    rcases hk with ⟨kvs,hk⟩ | ⟨kvs,hk⟩
    ·obtain ⟨_,_,_,_,o,_,_,e,ex,_⟩:=I.hok p _ hk
     exact ⟨o,e,ex⟩
    ·obtain ⟨_,_,_,_,o,_,_,e,ex,_⟩:=I.hok p _ hk
     exact ⟨o,e,ex⟩
   obtain ⟨o,e,ex⟩:=z
   refine ⟨⟨o,e,ex.1⟩,fun a e2=>?_⟩
   cases e2
   exact ⟨o,e,ex.2.1⟩
  ·obtain ⟨o,_,_,_,e,ex,_⟩:=I.hok p _ hk
   refine ⟨⟨o,e,ex.1⟩,fun a e2=>?_⟩
   cases e2
   exact ⟨o,e,ex.2.1⟩
 | _=>exact False.elim ty
def tBM (K:PySem.W.Frag) (T:String) (r:V->List V->Hp->VK->Prop) (to:TE) (t:TA):TE:=fun σ H Q=>to σ H fun x H1=>tyV K T x H1∧t σ H1 fun xs H2=>r x xs H2 Q
variable {o e:Expr} {es:List Expr} {to:TE} {t:TA} {name:Str} {apos cpos:Pos} {T id:String} {r:V->List V->Hp->VK->Prop}
theorem d9e (pa:PlainAttrs T) (slot:Slot T name id) (hty:typeOf (.builtin id)=pure (.type "method_descriptor")) (hm:MtR X id r) (ho:PE X o to) (ha:PA X (e :: es) t)
  (hbase:attributeBase o name X.env (eval o X.env)=eval o X.env:=by rfl)
  (hfew:((backTo cpos (starEach (e :: es) X.env)).all (fun x=>!x.1) && (backToKw cpos (keywordEach [] X.env)).all (fun x=>x.1.isSome)
   && decide ((e :: es).length+([]:List Keyword).length+(if ([]:List Keyword).isEmpty then 0 else 1) < 30))=true:=by rfl)
  (hline:(apos.endLine == cpos.line)=true:=by rfl) (hs:starEach (e :: es) X.env=(false,eval e X.env) :: starEach es X.env:=by rfl) (hplain:(backTo cpos (starEach es X.env)).any (·.1)=false:=by rfl) :
  PE X (.Call (.Attribute o name apos) (e :: es) [] cpos) (tBM X.K T r to t):=by
 intro pins s σ H Q I h
 refine wpAny_Call_method_late hbase hfew hline rfl (thn (ho pins s σ H _ I h) fun v s1 ⟨x,H1,I1,r1,ty,q1⟩=>?_)
 obtain ⟨h1,h2⟩:=f6v I1 r1 ty
 refine ⟨T,id,pa,slot,hty,h1,h2,?_⟩
 have hA:=ha cpos pins s1 σ H1 _ I1 q1
 rw[hs] at hA ⊢
 refine Calls.callWith_builtin (by show (false || (backTo cpos (starEach es X.env)).any (·.1))=false;rw[hplain] <;> rfl) (Calls.evalArgs_plain ?_)
 exact thn hA fun us s2 ⟨vs,H2,I2,r2,q2⟩=>hm pins s2 σ H2 x vs v us Q I2 r1 r2 q2
/- xs.append(e),list.index on a module's tuple .. are MtR facts of 06m -/
end
end L2
namespace L2
open PySem PySem.Spec PyProof.Rows
def MtM (X:Cx) (id:String) (r:V->List V->Hp->VK->Prop):Prop :=
 ∀(pins:List (Addr×Obj)) (s:Shared) (σ:St) (H:Hp) (x:V) (xs:List V) (v:Value) (us:List Value) (Q:VK),Inv X pins σ H s->RelV x v->a6a xs us->r x xs H Q →
  wpAny (model X.prog X.w) X.A (call (.builtin id) (v :: us)) (EP X pins σ Q) X.xe s
theorem a6a.one:∀{x:V} {us:List Value},a6a [x] us->∃u,us=[u]∧RelV x u
 | _,_,.cons r .nil=>⟨_,rfl,r⟩
theorem a6a.rep {xs:List V} {us:List Value} (h:a6a xs us):∀k:Nat,a6a (List.replicate k xs).flatten (List.replicate k us).flatten
 | 0=>.nil
 | k+1=>by
  rw[b4s,b4s,a8i,a8i]
  exact a6a.append h (a6a.rep h k)
theorem foldl_rep (its:List Value):∀(k:Nat) (acc:List Value),
  List.foldl (fun x1 x2=>x1++x2) acc.toArray (List.replicate k its.toArray)=(acc++(List.replicate k its).flatten).toArray
 | 0,acc=>by simp
 | k+1,acc=>by
  have e:acc.toArray++its.toArray=(acc++its).toArray:=by simp
  have e2:(acc++its)++(List.replicate k its).flatten=acc++(List.replicate (k+1) its).flatten:=by
   rw[b4s,a8i,a3g]
  rw[← e2,← foldl_rep its k (acc++its),← e,b4s,List.foldl_cons]
section
variable {X:Cx} {pins:List (Addr×Obj)} {σ:St} {H:Hp} {s:Shared} {l b:Addr} {xs ys zs:List V}
theorem Inv.lset {its its':List Value} {n:Nat} {f:Array Value->Array Value} {t':Nat} (I:Inv X pins σ H s) (hH:H l=some (.lst xs))
  (e:s.heap.get? l=some { cls:=.type "list",data:=.seq its.toArray n }) (hf:f its.toArray=its'.toArray) (hv:a6a ys its') (hz:ys.length<=sizeLine) :
  Inv X pins σ (upd H l (.lst ys)) { s with heap:=s.heap.update l (Obj.mapSeq f),toks:=t' }:=by
 have q:=b4p e f
 rw[hf] at q
 refine I.write (x:=l) (e:=l) (by rw[hH];exact trivial) (.inl rfl) (fun b' u hb hu=>(Heap.get?_update_other s.heap (Obj.mapSeq f) (Ne.symm hb)).trans hu) ⟨_,q⟩ ?_
 exact ⟨hz,its',_,hv,q⟩
theorem Inv.lnew {its:List Value} {t':Nat} (I:Inv X pins σ H s) (hv:a6a ys its) (hz:ys.length<=sizeLine) :
  Inv X pins σ (upd H s.heap.objs.size (.lst ys)) { s with heap:=s.heap.push { cls:=.type "list",data:=.seq its.toArray },toks:=t' } :=
 I.laid (fun _ _ q=>Heap.get?_push_of_some _ q) (a0h _) ⟨hz,its,0,hv,Heap.get?_push_size _ rfl⟩
theorem Inv.fresh (I:Inv X pins σ H s):H s.heap.objs.size=none:=I.hok.fresh (a0h _)
theorem Inv.lstM (I:Inv X pins σ H s) (hH:H l=some (.lst xs)):xs.length<=sizeLine∧∃(its:List Value) (n:Nat),a6a xs its∧xs.length=its.length∧s.heap.get? l=some { cls:=.type "list",data:=.seq its.toArray n }:=by
 obtain ⟨z,its,n,r,e⟩:=I.hok l _ hH
 exact ⟨z,its,n,r,r.length,e⟩
theorem e1e {n:Nat} (h:n<=sizeLine):Builtin.List.listTooLong n=false:=by
 unfold Builtin.List.listTooLong
 exact decide_eq_false (by omega)
end
section
variable {X:Cx}
def e6d:V->List V->Hp->VK->Prop:=fun x vs H Q=>∃l xs y,x=.ref l∧vs=[y]∧H l=some (.lst xs)∧xs.length < sizeLine∧Q .non (upd H l (.lst (xs++[y])))
theorem b9u:MtM X "list.append" e6d:=by
 intro pins s σ H x vs v us Q I rx rv h
 obtain ⟨l,xs,y,rfl,rfl,hH,hz,q⟩:=h
 cases rx
 obtain ⟨u,rfl,ru⟩:=rv.one
 obtain ⟨z,its,n,r,hl,e⟩:=I.lstM hH
 refine call_meets F.slot_list_append ⟨_,e,rfl⟩ F.entry_list_append (F.args_list_append_2 _ _) (PySem.list_append l its.toArray n u (by rw[a1a];omega)) ⟨e,?_⟩
 refine ⟨.non,_,I.lset (its':=its++[u]) hH e (by simp) (r.append (.cons ru .nil)) ?_,rfl,q⟩
 rw[a0i,a1q]
 omega
def f4v:V->List V->Hp->VK->Prop:=fun x vs H Q=>∃l b xs zs,x=.ref l∧vs=[.ref b]∧H l=some (.lst xs)∧H b=some (.lst zs)∧xs.length+zs.length<=sizeLine∧Q .non (upd H l (.lst (xs++zs)))
theorem d6w:MtM X "list.extend" f4v:=by
 intro pins s σ H x vs v us Q I rx rv h
 obtain ⟨l,b,xs,zs,rfl,rfl,hH,hB,hz,q⟩:=h
 cases rx
 obtain ⟨u,rfl,ru⟩:=rv.one
 cases ru
 obtain ⟨z,its,n,r,hl,e⟩:=I.lstM hH
 obtain ⟨z2,its2,n2,r2,hl2,e2⟩:=I.lstM hB
 have hsz:its.toArray.size+its2.toArray.size<=sizeLine:=by rw[a1a,a1a];omega
 have hlong:¬(!its.toArray.isEmpty && Builtin.List.listTooLong (its.toArray.size+its2.toArray.size))=true:=by
  rw[e1e hsz,Bool.and_false]
  exact a1g
 refine call_meets F.slot_list_extend ⟨_,e,rfl⟩ F.entry_list_extend (F.args_list_extend_2 _ _)
  (AutoSeq1.list_extend_list_list_0 l its.toArray n b its2.toArray n2 hlong (by rw[a1a];omega) (by omega)) ⟨e,e2,?_⟩
 refine ⟨.non,_,I.lset (its':=its++its2) hH e (by simp) (r.append r2) ?_,rfl,q⟩
 rw[a0i]
 omega
def rCat:R2:=fun x y H Q=>∃l b xs zs,x=.ref l∧y=.ref b∧H l=some (.lst xs)∧H b=some (.lst zs)∧xs.length+zs.length<=sizeLine∧∀p,H p=none->Q (.ref p) (upd H p (.lst (xs++zs)))
theorem c7j:OpR X (binaryOp .Add) rCat:=by
 intro pins s σ H x y v u Q I rx ry h
 obtain ⟨l,b,xs,zs,rfl,rfl,hH,hB,hz,q⟩:=h
 cases rx
 cases ry
 obtain ⟨z,its,n,r,hl,e⟩:=I.lstM hH
 obtain ⟨z2,its2,n2,r2,hl2,e2⟩:=I.lstM hB
 refine PySem.P.add_list e e2 ?_ (by rw[a1a,a1a];omega)
 have ea:its.toArray++its2.toArray=(its++its2).toArray:=by simp
 rw[ea]
 exact ⟨.ref _,_,I.lnew (t':=s.toks) (r.append r2) (by rw[a0i];omega),rfl,q _ I.fresh⟩
def rRep:R2:=fun x y H Q=>∃l k xs,x=.ref l∧y=.int k∧H l=some (.lst xs)∧-(2^63)<=k∧k < 2^63∧xs.length*k.toNat<=sizeLine ∧
 ∀p,H p=none->Q (.ref p) (upd H p (.lst (List.replicate k.toNat xs).flatten))
theorem len_rep {α:Type} (xs:List α) (k:Nat):(List.replicate k xs).flatten.length=k*xs.length:=by
 induction k with
 | zero=>simp
 | succ k ih=>rw[b4s,a8i,a0i,ih,a4d,b9m]
theorem f8v:OpR X (binaryOp .Mult) rRep:=by
 intro pins s σ H x y v u Q I rx ry h
 obtain ⟨l,k,xs,rfl,rfl,hH,h1,h2,hz,q⟩:=h
 cases rx
 obtain ⟨t,rfl⟩:=ry
 obtain ⟨z,its,n,r,hl,e⟩:=I.lstM hH
 have hlen:its.toArray.size*k.toNat<=sizeLine:=by rw[a1a,← hl];exact hz
 have hcap:¬its.toArray.size*k.toNat > (2^63 - 1) / 8:=by
  have:(sizeLine:Nat)<=(2^63 - 1) / 8:=by decide
  omega
 have hfit:¬(!Builtin.List.listFitsIndex k)=true:=by
  rw[fitsIndex_both h1 h2]
  exact a1g
 have hlong:¬Builtin.List.listTooLong (its.toArray.size*k.toNat)=true:=by
  rw[e1e hlen]
  exact a1g
 have hnew:List.foldl (fun x1 x2=>x1++x2) #[] (List.replicate (if its.toArray.isEmpty=true then 0 else k.toNat) its.toArray)=(List.replicate k.toNat its).flatten.toArray:=by
  have f0:∀m:Nat,List.foldl (fun x1 x2=>x1++x2) #[] (List.replicate m its.toArray)=(List.replicate m its).flatten.toArray:=fun m=>by
   have:=foldl_rep its m []
   rw[a3r] at this
   exact this
  rw[f0]
  cases its with
  | nil=>simp
  | cons a r'=>rw[if_neg (by simp)]
 refine wpAny_binaryOp_repeat_ref (T:="list") (U:="int") (by decide) ⟨_,e,rfl⟩ (fun s'=>typeIs_int s' k t) noFill_list_mul F.fills_int_mul F.slot_int_rmul repeat_list F.slot_int_index.lookup
  (call_meets F.slot_int_rmul (typeIs_int s k t) F.entry_int_rmul (F.args_int_rmul_2 _ _) (int___rmul___int_list k t l its.toArray n)
   ⟨e,rfl,⟨_,e,rfl⟩,call_meets F.slot_list_mul ⟨_,e,rfl⟩ F.entry_list_mul (F.args_list_mul_2 _ _) (AutoListH.list___mul___list_int_3 l its.toArray n k t hfit hcap hlong) ⟨e,?_⟩⟩)
 rw[hnew]
 exact ⟨.ref _,_,I.lnew (t':=s.toks) (r.rep k.toNat) (by rw[len_rep,a3d];exact hz),rfl,q _ I.fresh⟩
end
end L2
namespace Att
open PySem PySem.W PySem.Calls PyProof.Rows
theorem c9w {P:Params} {h:Heap}:∀(ns:List Int) (vs:List Value),WellAll P h vs (ns.map WData.int)->IntsAre vs ns:=by
 intro ns
 induction ns with
 | nil =>
  intro vs w
  rw[f1z] at w
  cases w
  exact .nil
 | cons n ns ih =>
  intro vs w
  rw[a6y] at w
  cases w with
  | cons a b =>
   cases a
   exact .cons _ _ (ih _ b)
theorem e5u {l:OpenLaw} {n:Nat} (hn:l.most=some n) {P:Params} {h:Heap} {args:List WData} {vals:List Value}
  (hpre:l.row.toRowW.claim.pre args=true) (hwl:WellAll P h vals args) :
  ∃a vs ns,vals=[Value.ref a]∧args=[WData.list (ns.map WData.int)]∧h.get? a=some { cls:=.type "list",data:=.seq vs.toArray }∧IntsAre vs ns∧ns.length<=n:=by
 have hsh:WShape.hasAll [] args [.list .int]=true:=(pre_splitW hpre).1
 have hc:l.pre.holds [] { args:=args }=true:=(pre_splitW hpre).2
 obtain ⟨d,r,rfl,h1,h2⟩:=hasAllW_cons hsh
 obtain rfl:=hasAllW_nil h2
 obtain ⟨xs,rfl,h3⟩:=hasW_list h1
 obtain ⟨ns,rfl⟩:=items_int h3
 have hlen:ns.length<=n:=by
  unfold OpenLaw.pre at hc
  have h4:(WTm.not (.lt (.lit (.int (n:Int))) (.len (.arg 0)))).holds [] { args:=[.list (ns.map .int)] }=true:=by
   have h4:=(holds_andW hc).1
   rw[hn] at h4
   exact h4
  have h5:=condW_of h4 (w_not (w_lt w_lit (w_len_list (w_arg rfl))))
  rw[a0e] at h5
  refine Nat.le_of_not_lt fun q=>?_
  have q':(n:Int) < ((ns.length:Nat):Int):=by omega
  first
   | (rw[decide_eq_true q'] at h5;exact absurd h5 (by decide))
   | (simp at h5;omega)
 cases hwl with
 | cons w1 w2 =>
  cases w2
  cases w1 with
  | list ho hall=>exact ⟨_,_,ns,rfl,rfl,ho,c9w ns _ hall,hlen⟩
theorem e6j (l:OpenLaw) (args:List WData):l.row.toRowW.claim.post args (.bool true) args=true :=
 postW_of (r:=l.row.toRowW) (X:=(true == true))
  (show WShape.has [] (.bool true) .bool=true by first | rfl | decide | simp [WShape.has,WShape.arms,WShape.armsAll])
  (show (WTm.eq .res (.lit (.bool true))).value [] { args:=args,res:=some (.bool true),after:=args }=some (.bool (true == true)) from w_eq_bool (w_res rfl) w_lit) rfl
theorem d9y {l:OpenLaw} {n:Nat} {q:Program} {loose:List Str} {XP:(Str->Option Value)->Heap->Prop} {YP:World->Heap->Prop} {d:DefRec}
  (hn:l.most=some n) (hdf:d.params.defaults=[])
  (call:∀(w:World) (s₀ s₁:Shared) (mg mb:Str->Option Value) (fa:Addr) (o:Obj) (pm cd doc:Value) (a:Addr) (vs:List Value) (ns:List Int),
   Ground q loose [] XP w s₀ mg mb s₁.heap->YP w s₁.heap →
   s₁.heap.get? fa=some o->o.data=.func (docDef d.name d.params d.body d.scope pm cd doc)->s₁.heap.CodeRec cd d.name->mg d.name=some (.ref fa) →
   s₁.heap.get? a=some { cls:=.type "list",data:=.seq vs.toArray }->IntsAre vs ns->ns.length<=n->s₁.gens=#[] →
   codeAny (model l.prog w) callerA (.call (.ref fa) ⟨[.ref a],[]⟩) (fun r s'=>r=.ok (.ret (.bool true))∧OldK s₁.heap s'.heap∧s'.os=s₁.os∧AllBare s'.gens) s₁) :
  WalkO q loose XP YP l.row.toRowW d [] (fun f vs=>PySem.call f vs):=by
 intro w s₀ s₁ mg mb G Y fa o pm cd doc dV kV ho hd hcd hD hmg hg args vals as hpre hlay hrd hwl hlo
 obtain rfl:dV=.none:=Dflts.none hD hdf
 obtain rfl:kV=.none:=Dflts.noKw hD
 obtain ⟨a,vs,ns,rfl,rfl,hobj,hints,hlen⟩:=e5u hn hpre hwl
 refine enter_call (codeAny_mono (call w s₀ s₁ mg mb fa o pm cd doc a vs ns G Y ho (fd_plain hd) hcd hmg hobj hints hlen hg) fun r s' hq=>?_)
 obtain ⟨rfl,h2,h3,h4⟩:=hq
 exact ⟨.inl ⟨.bool true,.bool true,[],rfl,fun _=>rfl,.bool true,e6j l _,fun _=>⟨List.Pairwise.nil,fun _ hm=>(nomatch hm)⟩⟩,h2,h3,h4⟩
section
variable {prog:Program} {w:World} {A:Around} {E:Value->Shared->Prop} {s:Shared} {K:Frag}
end
end Att
namespace L2
open PySem PySem.Spec PyProof.Rows
theorem d5w:∀{vs:List Value} {ns:List Int},IntsAre vs ns->a6a (ns.map V.int) vs
 | _,_,.nil=>.nil
 | _,_,.cons n t h=>.cons ⟨t,rfl⟩ (d5w h)
def g2d (H:Hp):Prop:=∀b,H b=none∨∃o xs,H b=some (.frz o (.lst xs))
theorem f0v {P : Program} {w : World} {K : PySem.W.Frag} {mg mb : Str → Option Value} {CX : CXT} {k : Nat} {fa a : Addr} {fd : FuncData} {x : Str} {sp : Sp} {s₁ : Shared} {vs : List Value} {ns : List Int}
    (KX : K.In s₁.heap) (hns : s₁.heap.Ns mainGlobals mg) (hb : s₁.heap.Ns builtinsNs mb) (hbb : ∀ x : Str, x ≠ "__name__" → mb x = bootBuiltins x) (hlim : s₁.heap.NoLimit) (hg : s₁.gens = #[])
    (ha : s₁.heap.get? a = some { cls := .type "list", data := .seq vs.toArray }) (hi : IntsAre vs ns) (hl : ns.length ≤ sizeLine) (hr : c8g k callerA)
    (F : ∀ base : Heap, K.In base → base.Ns mainGlobals mg → a6g P w K mg base CX k fa fd [x] sp) (hbind : ∀ (s : Shared) (u : Value), BindsTo s fd ⟨[u], []⟩ [(x, u)])
    (hsp : ∀ H : Hp, g2d H → SqL K H a (ns.map V.int) → sp [.ref a] H (fun v _ => v = .bl true) fun _ _ _ => False)
    (hCX : ∀ H e s', CX [] H s₁ (fun _ _ _ => False) e s' → False) :
    codeAny (model P w) callerA (.call (.ref fa) ⟨[.ref a], []⟩) (fun r s' => r = .ok (.ret (.bool true)) ∧ OldK s₁.heap s'.heap ∧ s'.os = s₁.os ∧ AllBare s'.gens) s₁ := by
  have rv := d5w hi
  have lenV := hi.length
  -- from an abstract heap in which nothing but the script may be tracked
  have core : ∀ H : Hp, g2d H → SqL K H a (ns.map V.int) → HOk P w H s₁.heap → (∀ b, H b ≠ none → b = a) → (H a ≠ none → K.lookup a = none) →
      codeAny (model P w) callerA (.call (.ref fa) ⟨[.ref a], []⟩) (fun r s' => r = .ok (.ret (.bool true)) ∧ OldK s₁.heap s'.heap ∧ s'.os = s₁.os ∧ AllBare s'.gens) s₁ := by
    intro H hO hS hok hA hK
    have base_of : ∀ {b : Addr} {o : Obj}, s₁.heap.get? b = some o → H b = none → (f1c s₁.heap H).get? b = some o := fun e n => f1b e n
    have noA : ∀ {b : Addr} {o : Obj} {es : Array DictEntry} {ep : Nat}, s₁.heap.get? b = some o → o.data = .dict es ep → H b = none := fun {b o es ep} e d => by
      cases q : H b with
      | none => rfl
      | some u =>
        have e' : b = a := hA b (by rw [q]; simp)
        subst e'
        rw [ha] at e; cases e
        have d' : Data.seq vs.toArray _ = Data.dict es ep := d
        cases d'
    have nsK : ∀ {b : Addr} {m : Str → Option Value}, s₁.heap.Ns b m → (f1c s₁.heap H).Ns b m := fun {b m} ⟨o, es, ep, e, d, r⟩ => ⟨o, es, ep, base_of e (noA e d), d, r⟩
    have hKb : K.In (f1c s₁.heap H) := fun b o e => base_of (KX b o e) (by
      cases q : H b with
      | none => rfl
      | some u =>
        have e' : b = a := hA b (by rw [q]; simp)
        subst e'
        rw [hK (by rw [q]; simp)] at e; cases e)
    have hM : Mod K mg (f1c s₁.heap H) := ⟨hKb, nsK hns, ⟨mb, nsK hb, hbb⟩, let ⟨mc, h1, h2⟩ := hlim; ⟨mc, nsK h1, h2⟩⟩
    have e0 : f6o P w K mg (f1c s₁.heap H) callerA [] s₁ H := ⟨rfl, hM, fun b o e => f5f e, Nat.le_of_eq (e7t _ _), trivial, fun b hb => absurd (show b ∈ ([] : List Addr) from hb) (by simp), hok, .of_eq hg⟩
    refine codeAny_mono ((F _ hKb (nsK hns)).run callerA [] s₁ H ⟨[.ref a], []⟩ [.ref a] [.ref a] _ _ hr e0 (hbind s₁ (.ref a)) (.cons rfl .nil) (hsp H hO hS)) fun r s' h => ?_
    cases r with
    | error e => exact (hCX H e s' h).elim
    | ok fl =>
      cases fl with
      | next => exact False.elim h
      | brk => exact False.elim h
      | cont => exact False.elim h
      | ret u =>
        obtain ⟨v, H', os, bare, un, hok', r', q⟩ := h
        have q' : v = .bl true := q
        subst q'
        obtain rfl : u = Value.bool true := r'
        refine ⟨rfl, OldK.of_keep fun b o e => ?_, os, bare⟩
        cases q : H b with
        | none => exact un.keep b o e q (by intro z; exact absurd (show b ∈ ([] : List Addr) from z) (by simp)) (by simp)
        | some u =>
          rcases hO b with z | ⟨ob, xs, z⟩
          · rw [q] at z; cases z
          · have z2 := un.frzs b ob _ z
            obtain ⟨e1, _⟩ := hok b _ z
            obtain ⟨e2, _⟩ := hok' b _ z2
            rw [e] at e1; cases e1
            exact e2
  cases hk : K.lookup a with
  | some o =>
    -- the script is one of the module's own objects
    have e := KX a o hk
    rw [ha] at e
    cases e
    refine core (fun _ => none) (fun _ => .inl rfl) (.inr ⟨_, vs.toArray, _, hk, rfl, rfl, rfl, by rw [a1a, lenV]; exact hl, by simpa using rv⟩) (fun b u z => by have z' : (none : Option HO) = some u := z; cases z') (fun b z => absurd rfl z) fun z => absurd rfl z
  | none =>
    refine core (fun b => if b = a then some (.frz { cls := .type "list", data := .seq vs.toArray } (.lst (ns.map V.int))) else none) (fun b => ?_) (.inl (.inr ⟨{ cls := .type "list", data := .seq vs.toArray }, if_pos rfl⟩)) (fun b u z => ?_) (fun b z => ?_) fun _ => hk
    · by_cases hb : b = a
      · exact .inr ⟨_, _, if_pos hb⟩
      · exact .inl (if_neg hb)
    · by_cases hb : b = a
      · have z' := (if_pos hb).symm.trans z
        cases z'
        subst hb
        exact ⟨ha, by rw [a0e]; exact hl, vs, _, rv, ha⟩
      · have z' := (if_neg hb).symm.trans z
        cases z'
    · by_cases hb : b = a
      · exact hb
      · exact absurd (if_neg hb) z
end L2
namespace L2
open PySem PySem.Spec PyProof.Rows
theorem e4n {l:PySem.W.OpenLaw} {n k:Nat} {q:Program} {loose:List Str} {XP:(Str->Option Value)->Heap->Prop} {YP:World->Heap->Prop} {d:DefRec} {K:Params->PySem.W.Frag} {CX:World->CXT} {sp:World->Sp} {x:Str}
  (hn:l.most=some n) (hn2:n<=sizeLine) (hdf:d.params.defaults=[]) (hr:c8g k callerA)
  (hY:∀(w:World) (h:Heap),YP w h->(K w.params).In h)
  (F:∀(w:World) (mg:Str->Option Value) (fa:Addr) (h:Heap),(K w.params).In h->h.Ns mainGlobals mg->mg d.name=some (.ref fa) →
   ∃fd:FuncData,(∀(s:Shared) (u:Value),BindsTo s fd ⟨[u],[]⟩ [(x,u)]) ∧
    ∀base:Heap,(K w.params).In base->base.Ns mainGlobals mg->a6g l.prog w (K w.params) mg base (CX w) k fa fd [x] (sp w))
  (hsp:∀(w:World) (H:Hp) (a:Addr) (ns:List Int),ns.length<=n->g2d H->SqL (K w.params) H a (ns.map V.int)->sp w [.ref a] H (fun v _=>v=.bl true) fun _ _ _=>False)
  (hCX:∀(w:World) (H:Hp) (s:Shared) (e:Value) (s':Shared),CX w [] H s (fun _ _ _=>False) e s'->False) :
  PySem.W.WalkO q loose XP YP l.row.toRowW d [] (fun f vs=>PySem.call f vs):=by
 refine Att.d9y hn hdf fun w s₀ s₁ mg mb fa o pm cd doc a vs ns G Y ho hd hcd hmg hobj hints hlen hg=>?_
 have KX:=hY w _ Y
 obtain ⟨fd,hb,hF⟩:=F w mg fa _ KX G.T.g hmg
 exact f0v KX G.T.g G.T.b G.T.builtins G.T.nolimit hg hobj hints (a0d hlen hn2) hr hF hb (fun H hO hS=>hsp w H a ns hlen hO hS) fun H e s'=>hCX w H s₁ e s'
end L2

/- THE LAST THEOREM (shape; LID, My.* are yours):
   My.Adr: a structure of the addresses that your layer names (classes, functions); My.Txt K t: a structure (Prop) of the equations over K;
   My.txt_mk : {K} {implicit addresses ..} (e1 : nsIn K mainGlobals "law" = some (some (.ref f))) (e2 : K.lookup f = some ⟨oc, od, .func (fnOf "law" "law" params body scope dV kV doc pm an cdv ct), sl⟩) (e3 : codeIn K cdv "law" = true) .. : ∃ t, My.Txt K t

set_option maxRecDepth 100000 in
set_option maxHeartbeats 0 in
theorem PySem.Challenge.cw_LID_holds : PySem.Challenge.rw_LID.Holds := by
  w_on; o_law; k_head; (case hw => w_witness2)
  k_fill
  refine L2.e4n (l := PySem.Challenge.rw_LID) (n := 63) (k := 40) (x := "script") (CX := fun w => ..) (sp := fun _ => My.sp_law) rfl (by decide) rfl ⟨rfl, by decide, by decide⟩ (fun w h Y => PySem.W.kIn_of Y) ?F ?S ?C
  case F =>
    intro w mg fa h KX G hmg
    have T : ∃ t, My.Txt (L2.KOf KX) t := by
      dsimp only [L2.KOf]                          -- K must stand as «<heap const> w.params» for k_is
      refine' My.txt_mk ?e1 ?e2 ?e3 ..
      (case e1 => PySem.W.k_is)                    -- in the order: a name -> its address -> its object -> its parts
      (case e2 => PySem.W.k_is)
      ..
    obtain ⟨t, T⟩ := T
    have e0 := hmg.symm.trans (PySem.W.mg_of KX G T.law)
    cases e0                                       -- fa is the law's own address
    exact ⟨_, fun s u => .of_eq rfl, fun base kb nb => My.law_fn T kb nb⟩     -- if «.of_eq rfl» comes too early: refine' ⟨_, ?b, fun base kb nb => My.law_fn T kb nb⟩; exact fun s u => .of_eq rfl
  case S => exact fun w H a ns hl hO hS => ..
  case C => exact ..
(the tactic k_is has no namespace: write k_is) -/

namespace L2
open PySem PySem.Spec PyProof.Rows
def inClass (s:Stmt) (j:Nat):Stmt:=match s with
 | .ClassDef _ _ _ body _ _ _ _ _ _ _=>body.getD j (.Pass ⟨0,0,0,0⟩)
 | _=>.Pass ⟨0,0,0,0⟩
def a1s (s:Stmt):Arguments:=match s with
 | .FunctionDef _ a _ _ _ _ _ _ _ _=>a
 | _=>{ posonlyargs:=[],args:=[],vararg:=none,kwonlyargs:=[],kw_defaults:=[],kwarg:=none,defaults:=[] }
def a1l (s:Stmt):List Stmt:=match s with
 | .FunctionDef _ _ b _ _ _ _ _ _ _=>b
 | _=>[]
def a0l (s:Stmt):Scope:=match s with
 | .FunctionDef _ _ _ _ _ _ sc _ _ _=>sc
 | _=>{ kind:=.function,names:=[],isGenerator:=false,isCoroutine:=false }
abbrev CX0:CXT:=fun _ _ _ _ _ _=>False
abbrev E0:XK:=fun _ _ _=>False
theorem a1o {X:Cx}:d0k CX0 X E0:=fun _ _ _ _ _ _ _ h=>h.elim
structure Fun (K:PySem.W.Frag) (x qual:Str) (st:Stmt) (f:Addr) (fd:FuncData):Prop where
 ex:∃(oc:Value) (od:Option Addr) (kV doc pm:Value) (an:Option Addr) (cdv ct:Value) (osl:Array (Option Value)),
  fd=PySem.W.fnOf x qual (a1s st) (a1l st) (a0l st) .none kV doc pm an cdv ct∧K.lookup f=some ⟨oc,od,.func fd,osl⟩∧PySem.W.codeIn K cdv qual=true
 kp:PySem.W.keepIn K (.ref f)=true
section
variable {P:Program} {w:World} {K:PySem.W.Frag} {mg:Str->Option Value} {base:Heap}
theorem Fun.ok {x qual:Str} {st:Stmt} {f:Addr} {fd:FuncData} {N ps:List Str} {k:Nat} {sp:Sp} (F:Fun K x qual st f fd) (S:a1t N ps (a0l st)) (len:∀vs H Q E,sp vs H Q E->vs.length=ps.length)
  (hbody:∀(cdv:Value) (A:Around) (outer:List Env) (s:Shared) (H:Hp) (vs:List V) (Q:VK) (E:XK),c8g k (A.deeper (envOfC qual (a0l st) s.heap.objs.size f cdv))->sp vs H Q E →
   ∃t,PSs (f6r CX0 P w K mg base N qual (a0l st) f cdv A outer s H E).nox (a1l st) t∧t { nx:=fun _ H'=>Q .non H',rt:=Q } (start N vs) H):a6g P w K mg base CX0 (k+1) f fd ps sp:=by
 obtain ⟨oc,od,kV,doc,pm,an,cdv,ct,osl,rfl,lk,hcd⟩:=F.ex
 refine g1z lk hcd S len fun A outer s H vs Q E hr hsp=>?_
 obtain ⟨t,h,q⟩:=hbody cdv A outer s H vs Q E hr hsp
 exact ⟨t,h.nox,q⟩
theorem Fun.binds {x qual:Str} {st:Stmt} {f:Addr} {fd:FuncData} {ps:List Str} (F:Fun K x qual st f fd)
  (h:∀(kV doc pm:Value) (an:Option Addr) (cdv ct:Value) (us:List Value),us.length=ps.length->bindArgs (PySem.W.fnOf x qual (a1s st) (a1l st) (a0l st) .none kV doc pm an cdv ct) ⟨us,[]⟩=pure (ps.zip us)):Binds K fd ps []:=by
 obtain ⟨oc,od,kV,doc,pm,an,cdv,ct,osl,rfl,lk,hcd⟩:=F.ex
 exact .all (h kV doc pm an cdv ct)
theorem a2n {x qual:Str} {st:Stmt} {f:Addr} {oc:Value} {od an:Option Addr} {osl:Array (Option Value)} {kV doc pm cdv ct:Value} (l:K.lookup f=some ⟨oc,od,.func (PySem.W.fnOf x qual (a1s st) (a1l st) (a0l st) .none kV doc pm an cdv ct),osl⟩)
  (c:PySem.W.codeIn K cdv qual=true) (k:PySem.W.keepIn K (.ref f)=true):Fun K x qual st f (PySem.W.fnOf x qual (a1s st) (a1l st) (a0l st) .none kV doc pm an cdv ct):=⟨⟨oc,od,kV,doc,pm,an,cdv,ct,osl,rfl,l,c⟩,k⟩
end
theorem a2f {n:Nat} (h:n<=1000):n < sizeLine:=a1m h (by decide)
section
variable {X:Cx}
theorem pv (i:Nat) {x:Str} {pos:Pos} (hN:X.N[i]?=some x:=by rfl) (hv:Vis X.env.scope x:=by first | exact Or.inl rfl | exact Or.inr (Or.inl rfl) | exact Or.inr (Or.inr rfl)) (hd:(x == ("__debug__":Str))=false:=by decide)
  (hcd:(x == ("__classdict__":Str))=false:=by decide):PE X (.Name x pos) (g0y i):=f8t hN hv hd hcd
end
theorem g0u {A B:Prop} (h:B):if false=true then A else B:=by
 rw[if_neg a1g]
 exact h
theorem iteT {A B:Prop} (h:A):if true=true then A else B:=by
 rw[if_pos rfl]
 exact h
theorem c3j {c A B:Prop} [Decidable c] (h1:c->A) (h2:¬c->B):if c then A else B:=by
 by_cases h:c
 ·rw[if_pos h]
  exact h1 h
 ·rw[if_neg h]
  exact h2 h
def a1w (H H':Hp):Prop:=∀b o,H b=some o->H' b=some o
theorem a1w.refl (H:Hp):a1w H H:=fun _ _ h=>h
theorem a1w.trans {H H1 H2:Hp} (a:a1w H H1) (b:a1w H1 H2):a1w H H2:=fun c o h=>b c o (a c o h)
theorem a1w.free {H H':Hp} (e:a1w H H') {l:Addr} (h:H' l=Option.none):H l=Option.none:=by
 cases q:H l with
 | none=>rfl
 | some o =>
  rw[e l o q] at h
  cases h
theorem a1w.seq {K:PySem.W.Frag} {H H':Hp} {a:Addr} {xs:List V} (e:a1w H H') (h:SqL K H a xs):SqL K H' a xs:=by
 rcases h with (h | ⟨o,h⟩) | h
 ·exact .inl (.inl (e _ _ h))
 ·exact .inl (.inr ⟨o,e _ _ h⟩)
 ·exact .inr h
end L2
namespace Nm
theorem f1f (a b:Int):Int.gcd b (a.fmod b)=Int.gcd a b:=by
 rw[Int.fmod_def,b4u a b]
 apply Nat.dvd_antisymm
 ·apply Int.dvd_gcd
  ·exact a5t ..
  ·have h1:=a5t (a:=b) (b:=a - b*a.fdiv b)
   have h2:=a6c (a:=b) (b:=a - b*a.fdiv b)
   have h3:=Int.dvd_add h2 (b6m (c:=a.fdiv b) h1)
   rwa [Int.sub_add_cancel] at h3
 ·apply Int.dvd_gcd
  ·exact a5t ..
  ·exact Int.dvd_sub (a6c ..) (b6m (a5t ..))
theorem f1g (a b:Int):Int.gcd b (a % b)=Int.gcd a b:=by
 rw[Int.emod_def,b4u a b]
 apply Nat.dvd_antisymm
 ·apply Int.dvd_gcd
  ·exact a5t ..
  ·have h1:=a5t (a:=b) (b:=a - b*(a / b))
   have h2:=a6c (a:=b) (b:=a - b*(a / b))
   have h3:=Int.dvd_add h2 (b6m (c:=a / b) h1)
   rwa [Int.sub_add_cancel] at h3
 ·apply Int.dvd_gcd
  ·exact a5t ..
  ·exact Int.dvd_sub (a6c ..) (b6m (a5t ..))
theorem f5q (a b:Int) (h:b≠0):(a.fmod b).natAbs < b.natAbs:=by
 rcases Int.lt_or_gt_of_ne h with h | h
 ·have e:a.fmod b=-((-a).fmod (-b)):=by
   have:=Int.neg_fmod_neg (-a) (-b)
   simp only[Int.neg_neg] at this
   exact this
  have h1:=Int.fmod_nonneg_of_pos (-a) (b:=-b) (by omega)
  have h2:=Int.fmod_lt_of_pos (-a) (b:=-b) (by omega)
  omega
 ·have h1:=Int.fmod_nonneg_of_pos a h
  have h2:=Int.fmod_lt_of_pos a h
  omega
def g (t b:Int):Int:=(Int.gcd t b:Int)
def lo (t b:Int):Int:=t / g t b
def hi (t b:Int):Int:=b / g t b
theorem d9p {t b:Int} (h:b≠0):0 < g t b:=by
 unfold g
 have:0 < Int.gcd t b:=f6p _ h
 omega
theorem d6z (t b:Int):lo t b*g t b=t:=Int.ediv_mul_cancel (a5t ..)
theorem d2u (t b:Int):hi t b*g t b=b:=Int.ediv_mul_cancel (a6c ..)
theorem e1p {t b:Int} (h:0 < b):0 < hi t b:=by
 have h1:=d9p (t:=t) (b:=b) (by omega)
 have h2:=d2u t b
 by_cases h3:0 < hi t b
 ·exact h3
 ·have:hi t b*g t b<=0:=Int.mul_nonpos_of_nonpos_of_nonneg (by omega) (by omega)
  omega
theorem d4l {t b:Int} (h:b≠0):Int.gcd (lo t b) (hi t b)=1:=by
 have h1:=d9p (t:=t) h
 have e:=Int.gcd_mul_right (lo t b) (g t b) (hi t b)
 rw[d6z,d2u] at e
 have e2:(g t b).natAbs=Int.gcd t b:=by unfold g;simp
 rw[e2] at e
 have h2:0 < Int.gcd t b:=f6p _ h
 exact Nat.eq_of_mul_eq_mul_right h2 (by rw[← e,Nat.one_mul])
theorem d2r (t b : Int) : lo t b * b = t * hi t b := by
  have h1 := d6z t b
  have h2 := d2u t b
  calc lo t b * b = lo t b * (hi t b * g t b) := by rw [h2]
    _ = (lo t b * g t b) * hi t b := by rw [a7a (hi t b), ← a4r]
    _ = t * hi t b := by rw [h1]
theorem c1d {a b c:Int} (h:Int.gcd a b=1) (hd:a∣b*c):a∣c:=by
 have h1:a.natAbs∣b.natAbs*c.natAbs:=by rw[← a3t];exact a6z.mpr hd
 have h2:Nat.Coprime a.natAbs b.natAbs:=h
 exact a6z.mp (h2.dvd_of_dvd_mul_left h1)
theorem uniq {a b c d:Int} (hb:0 < b) (hd:0 < d) (h1:Int.gcd a b=1) (h2:Int.gcd c d=1) (e:a*d=c*b):a=c∧b=d:=by
 have e1:b∣d:=by
  have:b∣a*d:=⟨c,by rw[e,a7a]⟩
  exact c1d (by rw[b4u];exact h1) this
 have e2:d∣b:=by
  have:d∣c*b:=⟨a,by rw[← e,a7a]⟩
  exact c1d (by rw[b4u];exact h2) this
 have e3:b=d:=Int.dvd_antisymm (by omega) (by omega) e1 e2
 subst e3
 exact ⟨c6e (by omega) e,rfl⟩
theorem f9g {t b c d : Int} (hb : 0 < b) (hd : 0 < d) (h2 : Int.gcd c d = 1) (e : t * d = c * b) : lo t b = c ∧ hi t b = d := by
  refine uniq (e1p hb) hd (d4l (by omega)) h2 ?_
  have h := d2r t b
  have hb' : b ≠ 0 := by omega
  apply c6e hb'
  calc lo t b * d * b = lo t b * b * d := by rw [a4r, a7a d b, ← a4r]
    _ = t * hi t b * d := by rw [h]
    _ = t * d * hi t b := by rw [a4r, a7a (hi t b), ← a4r]
    _ = c * b * hi t b := by rw [e]
    _ = c * hi t b * b := by rw [a4r, a7a b, ← a4r]
theorem f9h {a b:Int} (hb:0 < b) (h:Int.gcd a b=1):lo a b=a∧hi a b=b:=f9g hb hb h rfl
theorem b7o {a b:Int} (h:b≠0):a.natAbs<=(a*b).natAbs:=by
 rw[a3t]
 exact a4o _ (Int.natAbs_pos.mpr h)
theorem lo_le {t b:Int} (h:b≠0):(lo t b).natAbs<=t.natAbs:=by
 have:=b7o (a:=lo t b) (b:=g t b) (by have:=d9p (t:=t) h;omega)
 rwa [d6z] at this
theorem f9w {t b:Int} (h:b≠0):(hi t b).natAbs<=b.natAbs:=by
 have:=b7o (a:=hi t b) (b:=g t b) (by have:=d9p (t:=t) h;omega)
 rwa [d2u] at this
def Sz (k:Nat) (x:Int):Prop:=x.natAbs < 2^k
theorem Sz.mono {j k:Nat} {x:Int} (h:Sz j x) (l:j<=k):Sz k x:=a1u h (a0f (by decide) l)
theorem Sz.mul {j k:Nat} {x y:Int} (h1:Sz j x) (h2:Sz k y):Sz (j+k) (x*y):=by
 unfold Sz at *
 rw[a3t,a4k]
 exact Nat.mul_lt_mul'' h1 h2
theorem Sz.neg {k:Nat} {x:Int} (h:Sz k x):Sz k (-x):=by unfold Sz at *;rw[b4d];exact h
theorem Sz.le {k:Nat} {x y:Int} (h:Sz k y) (l:x.natAbs<=y.natAbs):Sz k x:=a1m l h
theorem Sz.hi {k:Nat} {t b:Int} (h:Sz k b) (hb:b≠0):Sz k (hi t b):=h.le (f9w hb)
end Nm
namespace L2
open PySem PySem.Spec PyProof.Rows
structure Bk (env:Env) (scope:Scope) (own capN:List Str):Prop where
 kind:scope.kind=.function
 locs:∀y∈scope.names,y.2=.local->scope.names.lookup y.1=some .local
 ownk:∀x∈own,scope.names.lookup x=some .local∨scope.names.lookup x=some .cell
 cells:∀y∈scope.names,y.2=.cell->y.1∈own∧y.1∉capN
 frees:∀y∈scope.names,y.2=.free->y.1∈capN∧y.1∉own
 capf:∀x∈capN,scope.names.lookup x=some .free
 caps:∀x∈capN,env.kindOf x=some .cell∨env.kindOf x=some .free
def bkS (scope:Scope) (own capN:List Str):Bool :=
 decide (scope.kind=.function) && scope.names.all (fun y=>decide (y.2=.local->scope.names.lookup y.1=some .local) && decide (y.2=.cell->y.1∈own∧y.1∉capN) && decide (y.2=.free->y.1∈capN∧y.1∉own)) &&
 own.all (fun x=>decide (scope.names.lookup x=some .local∨scope.names.lookup x=some .cell)) && capN.all fun x=>decide (scope.names.lookup x=some .free)
def e4a (env:Env):List Str->Bool
 | []=>true
 | x :: r=>(match env.kindOf x with | some .cell=>true | some .free=>true | _=>false) && e4a env r
theorem e2e {env:Env}:∀{capN:List Str},e4a env capN=true->∀x∈capN,env.kindOf x=some .cell∨env.kindOf x=some .free
 | [],_,_,h=>nomatch h
 | y :: r,h,x,hx=>by
  unfold e4a at h
  rw[a4x] at h
  rcases a0u.mp hx with e | hx
  ·subst e
   have h1:=h.1
   split at h1
   ·rename_i e;exact .inl e
   ·rename_i e;exact .inr e
   ·cases h1
  ·exact e2e h.2 x hx
theorem Bk.of {env:Env} {scope:Scope} {own capN:List Str} (h1:bkS scope own capN=true) (h2:e4a env capN=true):Bk env scope own capN:=by
 unfold bkS at h1
 rw[a4x,a4x,a4x,c1x,c1x,c1x] at h1
 obtain ⟨⟨⟨a1,a2⟩,a3⟩,a4⟩:=h1
 have a2':∀y∈scope.names,(y.2=.local->scope.names.lookup y.1=some .local)∧(y.2=.cell->y.1∈own∧y.1∉capN)∧(y.2=.free->y.1∈capN∧y.1∉own):=fun y hy=>by
  have q:=a2 y hy
  rw[a4x,a4x] at q
  exact ⟨of_decide_eq_true q.1.1,of_decide_eq_true q.1.2,of_decide_eq_true q.2⟩
 exact ⟨of_decide_eq_true a1,fun y hy=>(a2' y hy).1,fun x hx=>of_decide_eq_true (a3 x hx),fun y hy=>(a2' y hy).2.1,fun y hy=>(a2' y hy).2.2,fun x hx=>of_decide_eq_true (a4 x hx),e2e h2⟩
def a5q (env:Env):List (Str×NameKind)->List (Str×Addr)->List (Str×Addr)
 | [],acc=>acc
 | (n,k) :: r,acc=>if k == .free then a5q env r ((n,(env.cells.lookup n).getD 0) :: acc) else a5q env r acc
theorem a9h (env:Env):∀(names:List (Str×NameKind)) (acc:List (Str×Addr)),a5q env names acc=a5q env names []++acc
 | [],_=>rfl
 | (n,k) :: r,acc=>by
  unfold a5q
  split
  ·rw[a9h env r (_ :: acc),a9h env r [_],a3g];rfl
  ·exact a9h env r acc
theorem b9z (env:Env):∀(names:List (Str×NameKind)) {x:Str} {c:Addr},(x,c)∈a5q env names []->(x,NameKind.free)∈names∧c=(env.cells.lookup x).getD 0
 | [],_,_,h=>nomatch h
 | (n,k) :: r,x,c,h=>by
  unfold a5q at h
  split at h
  ·rename_i hk
   have ek:k=.free:=by simpa using hk
   subst ek
   rw[a9h] at h
   rcases a0w.mp h with h | h
   ·have q:=b9z env r h
    exact ⟨a2j _ q.1,q.2⟩
   ·have e:(x,c)=(n,(env.cells.lookup n).getD 0):=by simpa using h
    cases e
    exact ⟨a4e,rfl⟩
  ·have q:=b9z env r h
   exact ⟨a2j _ q.1,q.2⟩
theorem a9s {α:Type}:∀{l:List (Str×α)} {x:Str} {c:α},(x,c)∈l->∃d,l.lookup x=some d
 | (k,v) :: r,x,c,h=>by
  rw[b4q]
  cases hb:x == k with
  | true=>exact ⟨v,rfl⟩
  | false =>
   rcases a0u.mp h with e | h
   ·cases e;simp at hb
   ·exact a9s h
theorem c0a (env:Env):∀(names:List (Str×NameKind)) {x:Str},(x,NameKind.free)∈names->∃c,(x,c)∈a5q env names []
 | (n,k) :: r,x,h=>by
  unfold a5q
  rcases a0u.mp h with e | h
  ·cases e
   rw[if_pos (by decide),a9h]
   exact ⟨_,a2e _ a4e⟩
  ·obtain ⟨c,q⟩:=c0a env r h
   split
   ·rw[a9h];exact ⟨c,c1z _ q⟩
   ·exact ⟨c,q⟩
theorem d1n {scope : Scope} {env : Env} (h : ∀ y ∈ scope.names, y.2 = .free → ∃ c, env.cells.lookup y.1 = some c) : closureFor scope env = pure (a5q env scope.names []) := by
  have gen : ∀ (names : List (Str × NameKind)) (acc : List (Str × Addr)) (f : Str × NameKind → List (Str × Addr) → Sem (ForInStep (List (Str × Addr)))),
      (∀ name kind cells, f (name, kind) cells = if kind == .free then (do let a ← cellOf env name; pure (.yield ((name, a) :: cells))) else pure (.yield cells)) →
      (∀ y ∈ names, y.2 = .free → ∃ c, env.cells.lookup y.1 = some c) → forIn names acc f = pure (a5q env names acc) := by
    intro names
    induction names with
    | nil => intro acc f hf _; rw [e0k]; rfl
    | cons y r ih =>
      intro acc f hf hh
      obtain ⟨n, k⟩ := y
      rw [List.forIn_cons, hf]
      unfold a5q
      by_cases hk : (k == NameKind.free) = true
      · obtain ⟨c, hc⟩ := hh (n, k) a4e (by simpa using hk)
        have hc' : env.cells.lookup n = some c := hc
        have e : cellOf env n = pure c := by unfold cellOf; rw [hc']
        rw [if_pos hk, if_pos hk, e, hc']
        simp only [pure_bind, Option.getD_some]
        exact ih _ f hf fun y hy => hh y (a2j _ hy)
      · rw [if_neg hk, if_neg hk]
        simp only [pure_bind]
        exact ih _ f hf fun y hy => hh y (a2j _ hy)
  simp only [closureFor]
  rw [gen scope.names [] _ (fun name kind cells => by cases hkc : kind == NameKind.free <;> simp [hkc]) h]
  rfl

theorem a6e:∀(names:List (Str×NameKind)) (n:Nat) (acc:List (Str×Addr)),cellsFrom n names acc=cellsFrom n names []++acc
 | [],_,_=>rfl
 | (x,k) :: r,n,acc=>by
  unfold cellsFrom
  split
  ·rw[a6e r (n+1) (_ :: acc),a6e r (n+1) [_],a3g];rfl
  ·exact a6e r n acc
theorem b2w:∀(names:List (Str×NameKind)) (n:Nat) {x:Str} {c:Addr},(x,c)∈cellsFrom n names []->(x,NameKind.cell)∈names
 | [],_,_,_,h=>nomatch h
 | (y,k) :: r,n,x,c,h=>by
  unfold cellsFrom at h
  split at h
  ·rename_i hk
   have ek:k=.cell:=by simpa using hk
   subst ek
   rw[a6e] at h
   rcases a0w.mp h with h | h
   ·exact a2j _ (b2w r _ h)
   ·have e:(x,c)=(y,n):=by simpa using h
    cases e
    exact a4e
  ·exact a2j _ (b2w r _ h)
def d2x (env:Env) (scope:Scope) (C:Addr):Env :=
 { scope:=relabel scope env,locals:=C,globals:=env.globals,cells:=cellsFrom (C+1) scope.names (a5q env scope.names []),qual:=env.qual,func:=none,code:=env.code,frame:=env.frame,builtins:=env.builtins }
theorem d9j {M:Model} {A:Around} {E:Value->Shared->Prop} {s:Shared} {scope:Scope} {g:Addr} {cl:List (Str×Addr)} {qual:Str} {env:Env} {Q:Env->Shared->Prop}
  (h:Q (newEnv scope s.heap.objs.size g (cellsFrom (s.heap.objs.size+1) scope.names cl) qual none .none (some env) builtinsNs) { s with heap:=pushCells (s.heap.push { cls:=.type "dict",data:=.dict #[] }) scope.names }) :
  wpAny M A (newFunctionEnv scope g cl [] qual none .none (some env)) Q E s:=by
 simp only[newFunctionEnv,Option.isSome_some,if_true]
 refine wpAny_bind (wpAny_alloc ?_)
 refine wpAny_bind (wpAny_layCells _ (fun name kind cells=>by cases hkc:kind == NameKind.cell <;> simp [hkc]) _ _ _ _ ?_)
 rw[show ({ s with heap:=s.heap.push { cls:=.type "dict",data:=.dict #[] } }:Shared).heap.objs.size=s.heap.objs.size+1 from Heap.size_push ..]
 rw[e0k]
 exact wpAny_bind (wpAny_pure (wpAny_pure h))
theorem c7h {scope:Scope} {env:Env} {x:Str}:∀{k:NameKind},(relabel scope env).names.lookup x=some k->∃k0,scope.names.lookup x=some k0∧(k=k0∨(k0=.free∧k=.cell)):=by
 unfold relabel
 show ∀{k:NameKind},(scope.names.map fun (n,k)=>if (k == NameKind.free && env.scope.kind == .function && env.kindOf n == some .cell) then (n,NameKind.cell) else (n,k)).lookup x=some k->_
 induction scope.names with
 | nil=>intro k h;cases h
 | cons y r ih =>
  intro k h
  obtain ⟨n,k1⟩:=y
  rw[a6y,b4q] at h
  rw[b4q]
  by_cases hc:(k1 == NameKind.free && env.scope.kind == .function && env.kindOf n == some .cell)=true
  ·simp only[hc,if_true] at h
   cases hb:x == n with
   | true =>
    simp only[hb] at h
    have e1:k1=.free:=by
     rw[a4x,a4x] at hc
     simpa using hc.1.1
    cases h
    exact ⟨k1,rfl,.inr ⟨e1,rfl⟩⟩
   | false=>simp only[hb] at h;exact ih h
  ·have hc':(k1 == NameKind.free && env.scope.kind == .function && env.kindOf n == some .cell)=false:=by simpa using hc
   simp only[hc',b0i,if_false] at h
   cases hb:x == n with
   | true=>simp only[hb] at h;cases h;exact ⟨_,rfl,.inl rfl⟩
   | false=>simp only[hb] at h;exact ih h
theorem d9c {scope:Scope} {env:Env} {x:Str}:scope.names.lookup x=some .free->(relabel scope env).names.lookup x=some .cell∨(relabel scope env).names.lookup x=some .free:=by
 unfold relabel
 show _->(scope.names.map fun (n,k)=>if (k == NameKind.free && env.scope.kind == .function && env.kindOf n == some .cell) then (n,NameKind.cell) else (n,k)).lookup x=some .cell∨(scope.names.map fun (n,k)=>if (k == NameKind.free && env.scope.kind == .function && env.kindOf n == some .cell) then (n,NameKind.cell) else (n,k)).lookup x=some .free
 induction scope.names with
 | nil=>intro h;cases h
 | cons y r ih =>
  intro h
  obtain ⟨n,k1⟩:=y
  rw[b4q] at h
  rw[a6y]
  by_cases hc:(k1 == NameKind.free && env.scope.kind == .function && env.kindOf n == some .cell)=true
  ·simp only[hc,if_true,b4q]
   cases hb:x == n with
   | true=>exact .inl rfl
   | false=>rw[hb] at h;exact ih h
  ·have hc':(k1 == NameKind.free && env.scope.kind == .function && env.kindOf n == some .cell)=false:=by simpa using hc
   simp only[hc',b0i,if_false,b4q]
   cases hb:x == n with
   | true=>rw[hb] at h;cases h;exact .inr rfl
   | false=>rw[hb] at h;exact ih h
structure Bz where
 s:Shared
 H:Hp
 fp:List Addr
 C:Addr
def blk (X:Cx) (own capN:List Str) (scope:Scope) (Z:Bz):Cx where
 prog:=X.prog
 w:=X.w
 K:=X.K
 mg:=X.mg
 base:=X.base
 A:=X.A
 N:=own++capN
 s₀:=Z.s
 H₀:=Z.H
 env:=d2x X.env scope Z.C
 outer:=X.stack
 stack:=X.stack
 ex:=Z.fp
 fn:=fun x=>own.contains x
 calm:=true
 pn:=[]
 xe:=fun _ _=>False
section
variable {X:Cx} {pins:List (Addr×Obj)} {σ:St} {own capN:List Str} {scope:Scope} {Z:Bz}
theorem b1y (B:Bk X.env scope own capN) (I:Inv X pins σ Z.H Z.s) {x:Str} {c:Addr} (h:(d2x X.env scope Z.C).cells.lookup x=some c) :
  (x∈own∧(x,c)∈cellsFrom (Z.C+1) scope.names [])∨(x∈capN∧x∉own∧X.env.cells.lookup x=some c):=by
 have h':(cellsFrom (Z.C+1) scope.names (a5q X.env scope.names [])).lookup x=some c:=h
 rw[a6e] at h'
 rcases a0w.mp (mem_of_lookup h') with m | m
 ·exact .inl ⟨(B.cells _ (b2w _ _ m) rfl).1,m⟩
 ·obtain ⟨m1,e⟩:=b9z _ _ m
  obtain ⟨q1,q2⟩:=B.frees _ m1 rfl
  obtain ⟨d,hd⟩:=I.ok.has x (B.caps x q1)
  rw[hd] at e
  exact .inr ⟨q1,q2,by rw[hd,e];rfl⟩
theorem f6b (B:Bk X.env scope own capN) (I:Inv X pins σ Z.H Z.s) {x:Str} {c:Addr} (hx:x∈capN) (h:X.env.cells.lookup x=some c):(d2x X.env scope Z.C).cells.lookup x=some c:=by
 have hm:(x,NameKind.free)∈scope.names:=mem_of_lookup (B.capf x hx)
 obtain ⟨c1,m1⟩:=c0a X.env scope.names hm
 have hs:∃d,(d2x X.env scope Z.C).cells.lookup x=some d:=by
  show ∃d,(cellsFrom (Z.C+1) scope.names (a5q X.env scope.names [])).lookup x=some d
  rw[a6e]
  exact a9s (a2e _ m1)
 obtain ⟨d,hd⟩:=hs
 rcases b1y B I hd with ⟨q,m⟩ | ⟨_,_,q⟩
 ·exact absurd hx (B.cells _ (b2w _ _ m) rfl).2
 ·rw[h] at q;cases q;exact hd
theorem e6s (h:Heap) (C:Addr) (hC:h.objs.size=C+1) (names:List (Str×NameKind)):CellsOk (pushCells h names) (C+1) (cellsFrom (C+1) names []):=by
 have q:=cellsFrom_ok names h (C+1) [] ⟨fun _ _ hm=>(nomatch hm),List.Pairwise.nil⟩ (by rw[hC];exact a0h _)
 rwa [hC] at q
theorem d9v (I:Inv X pins σ Z.H Z.s) {x:Str} {c:Addr} (h:X.env.cells.lookup x=some c):@LT.lt Nat instLTNat c Z.s.heap.objs.size:=by
 obtain ⟨v,q⟩:=I.cell x c h
 exact q.lt
theorem g0i {h1:Heap} (I:Inv X pins σ Z.H Z.s) (hc:X.calm=true) (B:Bk X.env scope own capN) (hC:Z.s.heap.objs.size<=Z.C) (hcl:CellsOk h1 (Z.C+1) (cellsFrom (Z.C+1) scope.names []))
  (hf:∀b∈Z.fp,c7e X pins Z.H b∧@LT.lt Nat instLTNat b Z.s.heap.objs.size):(blk X own capN scope Z).Ok:=by
 refine ⟨I.ok.mod,B.kind,I.ok.glob,I.ok.blt,hC,fun x y c h1 h2=>?_,fun x hx=>?_,fun x c hx h=>?_,fun _=>I.ok.hd hc,I.ok.frames,.inl rfl,fun b hb=>⟨?_,fun x c h=>?_⟩,I.bs,a0d I.ok.bsz I.sz,fun b o e hb=>?_,fun b hb hz=>?_,I.stack,I.stkFree⟩
 ·rcases b1y B I h1 with ⟨q1,m1⟩ | ⟨q1,n1,m1⟩ <;> rcases b1y B I h2 with ⟨q2,m2⟩ | ⟨q2,n2,m2⟩
  ·exact name_of_addr hcl.apart m1 m2
  ·have l1:=(hcl.empty _ _ m1).2
   have l2:=d9v I m2
   omega
  ·have l1:=(hcl.empty _ _ m2).2
   have l2:=d9v I m1
   omega
  ·exact I.ok.inj x y c m1 m2
 ·have hx':(relabel scope X.env).names.lookup x=some .cell∨(relabel scope X.env).names.lookup x=some .free:=hx
  have hk:scope.names.lookup x=some .cell∨scope.names.lookup x=some .free:=by
   rcases hx' with h | h
   ·obtain ⟨k0,e,q | ⟨q,_⟩⟩:=c7h h
    ·exact .inl (by rw[e,← q])
    ·exact .inr (by rw[e,q])
   ·obtain ⟨k0,e,q | ⟨_,q⟩⟩:=c7h h
    ·exact .inr (by rw[e,← q])
    ·cases q
  show ∃c,(cellsFrom (Z.C+1) scope.names (a5q X.env scope.names [])).lookup x=some c
  rcases hk with h | h
  ·exact Option.isSome_iff_exists.mp (d3c scope.names (Z.C+1) _ (.inl h))
  ·obtain ⟨c,m⟩:=c0a X.env scope.names (mem_of_lookup h)
   rw[a6e]
   exact a9s (a2e _ m)
 ·have ho:x∈own:=by have hx':own.contains x=true:=hx;simpa using hx'
  rcases b1y B I h with ⟨_,m⟩ | ⟨_,n,_⟩
  ·have:=(hcl.empty _ _ m).2
   have hC':Z.s.heap.objs.size<=Z.C:=hC
   show Z.s.heap.objs.size<=c
   omega
  ·exact absurd ho n
 ·intro e
  have e':@Eq Nat b Z.C:=e
  have:=(hf b hb).2
  omega
 ·have l:=(hf b hb).2
  rcases b1y B I h with ⟨_,m⟩ | ⟨_,_,m⟩
  ·intro e
   have e':@Eq Nat c b:=e
   have:=(hcl.empty _ _ m).2
   omega
  ·exact (hf b hb).1.2.2.2.2.1 x c m
 ·obtain ⟨_,_,_,f3,_⟩:=(hf b hb).1
  rcases f3 with f3 | f3
  ·exact I.ok.noex b o e f3
  ·exact absurd (a1u (Heap.lt_size e) (a0d I.ok.bsz f3)) (a5f _)
 ·obtain ⟨_,f1,f2,_⟩:=(hf b hb).1
  rcases a0u.mp (I.stkSub b hz) with e | e
  ·exact f1 e
  ·exact f2 e
def st0 (k:Nat) (cap:List Nat) (σ:St):St:=List.replicate k none++cap.map fun j=>(σ[j]?).join
def d8g (X:Cx) (capN:List Str) (cap:List Nat):Prop:=cap.map (fun j=>X.N[j]?)=capN.map some
theorem d8g.get {cap:List Nat} (h:d8g X capN cap) {i:Nat} {x:Str} (e:capN[i]?=some x):∃j,cap[i]?=some j∧X.N[j]?=some x:=by
 have q:=congrArg (fun l=>l[i]?) h
 simp only[a0x,e,Option.map_some] at q
 cases hc:cap[i]? with
 | none=>rw[hc] at q;cases q
 | some j=>rw[hc] at q;exact ⟨j,rfl,by simpa using q⟩
theorem e2f {cap:List Nat} {h':Heap} {m:Str->Option Value} (I:Inv X pins σ Z.H Z.s) (B:Bk X.env scope own capN) (hcap:d8g X capN cap)
  (kc:∀x c,X.env.cells.lookup x=some c->∀v,Z.s.heap.IsCell c v->h'.IsCell c v) {i:Nat} {x:Str} {v:V} (e1:(own++capN)[i]?=some x) (e2:(st0 own.length cap σ)[i]?=some (some v)) :
  ∃u,RelV v u∧Look (d2x X.env scope Z.C) h' m x u:=by
 have hi:own.length<=i:=by
  by_cases hi:own.length<=i
  ·exact hi
  ·exfalso
   unfold st0 at e2
   rw[a1p (by simpa using hi),a3h] at e2
   split at e2 <;> cases e2
 rw[a1e hi] at e1
 unfold st0 at e2
 rw[a1e (by simpa using hi),a0o,a0x] at e2
 obtain ⟨j,hj,hN⟩:=hcap.get e1
 rw[hj] at e2
 have e3:(σ[j]?).join=some v:=by simpa using e2
 have e4:σ[j]?=some (some v):=by
  cases q:σ[j]? with
  | none=>rw[q] at e3;cases e3
  | some o=>rw[q] at e3;simp at e3;rw[e3]
 have hx:x∈capN:=a0j e1
 have hk:=B.caps x hx
 obtain ⟨m0,_,hl⟩:=I.loc
 obtain ⟨u,r,l⟩:=hl j x v hN e4 (.inr hk)
 refine ⟨u,r,.inr ⟨d9c (B.capf x hx),?_⟩⟩
 rcases l with ⟨hk2,_⟩ | ⟨_,c,hc,z⟩
 ·rcases hk with hk | hk
  ·rw[hk] at hk2;cases hk2
  ·rw[hk] at hk2;cases hk2
 ·exact ⟨c,f6b B I hx hc,kc x c hc _ z⟩
theorem g1y (I:Inv X pins σ Z.H Z.s) {b:Addr} (h:b∈frs X.stack):@LT.lt Nat instLTNat b Z.s.heap.objs.size:=by
 obtain ⟨_,o,ho,_⟩:=I.stack.mem h
 exact Heap.lt_size ho
theorem f5z {cap:List Nat} {h1:Heap} {D:Addr} {oD:Obj} {t1:Nat} (I:Inv X pins σ Z.H Z.s) (hc:X.calm=true) (B:Bk X.env scope own capN) (hcap:d8g X capN cap) (hC:Z.s.heap.objs.size<=Z.C)
  (hcl:CellsOk h1 (Z.C+1) (cellsFrom (Z.C+1) scope.names [])) (hf:∀b∈Z.fp,c7e X pins Z.H b∧@LT.lt Nat instLTNat b Z.s.heap.objs.size)
  (hk:∀b o,Z.s.heap.get? b=some o->h1.get? b=some o) (hn:h1.Ns Z.C fun _=>none) (hD:Z.s.heap.objs.size<=D) (hDC:D≠Z.C) (hoD:h1.get? D=some oD) (hdD:∀v,oD.data≠.cell v) :
  Inv (blk X own capN scope Z) [(D,oD)] (st0 own.length cap σ) Z.H { Z.s with heap:=h1,toks:=t1 }:=by
 refine ⟨g0i I hc B hC hcl hf,rfl,I.bare,Un.kept hk,⟨_,hn,fun i x v e1 e2 _=>e2f I B hcap (fun x c _ v z=>z.keeps hk) e1 e2⟩,fun x c h=>?_,I.hok.fresh hC,fun x c h=>?_,fun p hp=>?_,I.hok.kept hk,?_⟩
 ·rcases b1y B I h with ⟨_,m⟩ | ⟨_,_,m⟩
  ·exact ⟨none,(hcl.empty _ _ m).1⟩
  ·obtain ⟨v,q⟩:=I.cell x c m
   exact ⟨v,q.keeps hk⟩
 ·rcases b1y B I h with ⟨_,m⟩ | ⟨_,_,m⟩
  ·exact I.hok.fresh (by have:=(hcl.empty _ _ m).2;omega)
  ·exact I.freeC x c m
 ·have e:p=(D,oD):=by simpa [blk] using hp
  subst e
  exact ⟨hoD,I.hok.fresh hD,hDC,fun z=>a5f _ (a1u (g1y I z) hD),hdD⟩
 ·show (st0 own.length cap σ).length=(own++capN).length
  have:=congrArg List.length hcap
  simp only[a0e] at this
  unfold st0
  simp [this]
theorem f1r {cap:List Nat} {pins':List (Addr×Obj)} {σ':St} {H':Hp} {s':Shared} (I:Inv X pins σ Z.H Z.s) (B:Bk X.env scope own capN) (hcap:d8g X capN cap) (hf:∀b∈Z.fp,c7e X pins Z.H b∧@LT.lt Nat instLTNat b Z.s.heap.objs.size)
  (J:Inv (blk X own capN scope Z) pins' σ' H' s'):Inv (blk X own capN scope Z) pins' (st0 own.length cap σ) H' s':=by
 refine ⟨J.ok,J.os,J.bare,J.base,?_,J.cell,J.free,J.freeC,J.pin,J.hok,?_⟩
 ·obtain ⟨m,hn,_⟩:=J.loc
  refine ⟨m,hn,fun i x v e1 e2 _=>e2f I B hcap (fun x c hx v z=>?_) e1 e2⟩
  obtain ⟨o,ho,hd⟩:=z
  obtain ⟨sl,e⟩:=J.base.any ho (I.freeC x c hx) fun z=>(hf c z).1.2.2.2.2.1 x c hx rfl
  exact ⟨_,e,hd⟩
 ·show (st0 own.length cap σ).length=(own++capN).length
  have:=congrArg List.length hcap
  simp only[a0e] at this
  unfold st0
  simp [this]
theorem f6a {σ':St} {H':Hp} {s':Shared} {D:Addr} {its:List Value} {n:Nat} {ys:List V} (I:Inv X pins σ Z.H Z.s) (hf:∀b∈Z.fp,c7e X pins Z.H b∧@LT.lt Nat instLTNat b Z.s.heap.objs.size) (hD:Z.s.heap.objs.size<=D)
  (J:Inv (blk X own capN scope Z) [(D,{ cls:=.type "list",data:=.seq its.toArray n })] σ' H' s') (r:a6a ys its) (hz:ys.length<=sizeLine) :
  Inv X pins σ (upd H' D (.lst ys)) s':=by
 have pD:=J.pin (D,{ cls:=.type "list",data:=.seq its.toArray n }) (by simp)
 have ne:∀{b:Addr} {o:Obj},Z.s.heap.get? b=some o->b≠D:=fun e z=>by subst z;exact a5f _ (a1u (Heap.lt_size e) hD)
 have nt:∀{b:Addr} {u:HO},H' b=some u->b≠D:=fun e z=>by rw[z,pD.2.1] at e;cases e
 refine I.call' (ch:=Z.fp) J.os ⟨J.base.keep,J.base.slot,fun b o e h hx=>?_,J.base.there,fun b xs e=>?_,fun b o u e=>?_,fun b ps e=>?_⟩ (fun b u e=>?_) J.bare fun b hb=>?_
 ·rw[a2d (ne e)];exact J.base.free b o e h hx
 ·have q:=J.base.tups b xs e
  rw[a2d (nt q)];exact q
 ·have q:=J.base.frzs b o u e
  rw[a2d (nt q)];exact q
 ·obtain ⟨more,q⟩:=J.base.tbls b ps e
  exact ⟨more,by rw[a2d (nt q)];exact q⟩
 ·by_cases hb:b=D
  ·subst hb
   rw[a0y] at e
   cases e
   exact ⟨hz,its,n,r,pD.1⟩
  ·rw[a2d hb] at e
   exact (J.hok b u e).stay (fun c v _ q=>q) (fun c q=>by rw[a2d (nt q)];exact q) fun c xs q=>by rw[a2d (nt q)];exact q
 ·obtain ⟨_,f1,_,f3,f4,f5⟩:=(hf b hb).1
  exact ⟨f3,f1,f4,f5⟩
end
end L2
namespace L2
open PySem PySem.Spec PyProof.Rows
theorem g0x {α:Type} {t:Sem α} {Q Q':α->Shared->Prop} {M:Model} {A:Around} {E:Value->Shared->Prop} {s:Shared} (h:wpAny M A t Q (fun _ _=>False) s) (hQ:∀a s,Q a s->Q' a s):wpAny M A t Q' E s :=
 wpAny_mono h hQ fun _ _ z=>False.elim z
theorem d7p {prog : Program} {w : World} {A : Around} {R : Result → Shared → Prop} {s : Shared} {elt target iter : Expr} {ifs : List Expr} {scope : Scope} {pos : Pos} {it acc : Value} {env : Env} (I : Nat → Shared → Prop)
    (turn : ∀ (E : Value → Shared → Prop) n s, I n s → wpAny (model prog w) A (pyNext it) (fun r s₁ => match r with
      | none => R (.ok .next) s₁
      | some v => wpAny (model prog w) A (letOwnedTupleGo target it v) (fun _ s₂ => wpAny (model prog w) A (assign target env v) (fun _ s₃ =>
          wpAny (model prog w) A (forIn ifs true fun c r => if r = true then do let ok ← isTrue c env (eval c env); pure (ForInStep.yield ok) else pure (ForInStep.yield r)) (fun ok s₄ =>
            if ok = true then wpAny (model prog w) A (eval elt env) (fun x s₅ => wpAny (model prog w) A (call (.builtin "list.append") [acc, x]) (fun _ s₆ => ∃ m, m < n ∧ I m s₆) E s₅) E s₄
            else ∃ m, m < n ∧ I m s₄) E s₃) E s₂) E s₁) E s)
    (n : Nat) (h : I n s) : codeAny (model prog w) A (.compLoop (.ListComp elt [⟨target, iter, ifs, 0⟩] scope pos) 0 it acc env) R s := by
  refine codeAny_loop rfl I (fun n s hI => ?_) n h
  show wpAny _ A ((compTurn (.ListComp elt [⟨target, iter, ifs, 0⟩] scope pos) 0 it acc env).onRaise (fun x => do noteFrame x env; theTreesLotGoes x)) _ _ s
  refine wpAny_noted ?_
  rw [compTurn_list]
  refine wpAny_bind (wpAny_standAt (wpAny_bind (wpAny_mono (turn _ n s hI) (fun r s₁ h₁ => ?_) fun _ _ h' => h')))
  cases r with
  | none => exact wpAny_pure h₁
  | some v =>
    refine wpAny_bind (wpAny_mono h₁ (fun _ s₂ h₂ => wpAny_bind (wpAny_mono h₂ (fun _ s₃ h₃ => wpAny_bind (wpAny_mono h₃ (fun ok s₄ h₄ => ?_) fun _ _ h' => h')) fun _ _ h' => h')) fun _ _ h' => h')
    cases ok with
    | false => exact wpAny_pure ⟨rfl, h₄⟩
    | true =>
      exact wpAny_bind (wpAny_bind (wpAny_mono h₄ (fun x s₅ h₅ => wpAny_bind (wpAny_mono h₅ (fun _ s₆ h₆ => wpAny_pure (wpAny_pure ⟨rfl, h₆⟩)) fun _ _ h' => h')) fun _ _ h' => h'))

def PF (X : Cx) (ifs : List Expr) (t : TT) : Prop :=
  ∀ (pins : List (Addr × Obj)) (s : Shared) (σ : St) (H : Hp) (Q : Bool → Hp → Prop), Inv X pins σ H s → t σ H Q →
    wpAny (model X.prog X.w) X.A (forIn ifs true fun c r => if r = true then do let ok ← isTrue c X.env (eval c X.env); pure (ForInStep.yield ok) else pure (ForInStep.yield r)) (TP X pins σ Q) X.xe s
def tYes:TT:=fun _ H Q=>Q true H
theorem a4j {X:Cx}:PF X [] tYes:=fun _ _ _ H _ I h=>wpAny_tests_nil ⟨H,I,h⟩
theorem f2j {X:Cx} {c:Expr} {t:TT} (h:PT X c t):PF X [c] t:=fun pins s σ H Q I hw=>wpAny_tests_one (h pins s σ H Q I hw)
def d1b (σ₀:St) (g:TG) (tf:TT) (te:TE) (x:V) (H:Hp) (NY:V->Hp->Prop) (NN:Hp->Prop):Prop :=
 g x σ₀ H fun σ2 H2=>tf σ2 H2 fun b H3=>if b=true then te σ2 H3 NY else NN H3
def d1q (J:It) (σ₀:St) (g:TG) (tf:TT) (te:TE) (Q:VK) (H1:Hp):Prop :=
 ∃W:Nat->Nat->List V->Hp->Prop,(∃m,W 0 m [] H1)∧∀i m ys H,W i m ys H →
  (J.stop i H∧ys.length<=sizeLine∧∀p,H p=none->Q (.ref p) (upd H p (.lst ys))) ∨
  (J.go i H∧ys.length < sizeLine∧∃(NY:V->Hp->Prop) (NN:Hp->Prop),(∀y H',NY y H'->∃m',m' < m∧W (i+1) m' (ys++[y]) H')∧(∀H',NN H'->∃m',m' < m∧W (i+1) m' ys H') ∧
   ∀x H',J.yld i H x H'->d1b σ₀ g tf te x H' NY NN)
def e4s (wi:TI) (k:Nat) (cap:List Nat) (g:TG) (tf:TT) (te:TE):TE:=fun σ H Q=>wi σ H fun J H1=>d1q J (st0 k cap σ) g tf te Q H1
abbrev lobj (its:List Value) (n:Nat):Obj:={ cls:=.type "list",data:=.seq its.toArray n }
section
variable {X:Cx} {own capN:List Str} {cap:List Nat} {scope:Scope} {elt tg iter:Expr} {ifs:List Expr} {pos:Pos} {wi:TI} {g:TG} {tf:TT} {te:TE}
theorem d7n {use:Option (Value->Sem Unit)} {Qe:Value->Shared->Prop} {fpos:Pos} (hc:X.calm=true) (B:Bk X.env scope own capN) (hcap:d8g X capN cap)
  (hi:PI X tg iter wi) (hg:∀Z,PG (blk X own capN scope Z) tg g) (hf:∀Z,PF (blk X own capN scope Z) ifs tf) (he:∀Z,PE (blk X own capN scope Z) elt te)
  (hs:∀x,foldedSetIterable iter X.env x=pure x) {pins:List (Addr×Obj)} {s:Shared} {σ:St} {H:Hp} {Q:VK} (I:Inv X pins σ H s) (h:e4s wi own.length cap g tf te σ H Q)
  (fin:∀(D C:Addr) (s':Shared) (H':Hp),Inv X pins σ H' s'->c7e X pins H' C->(∃m,s'.heap.Ns C m)->Q (.ref D) H'->compPost (model X.prog X.w) X.A X.xe use Qe (.ref D) C (.ok .next) s') :
  wpAny (model X.prog X.w) X.A (comprehension (.ListComp elt [⟨tg,iter,ifs,0⟩] scope pos) scope X.env fpos (newList []) false (eval iter X.env) use) Qe X.xe s:=by
 refine wpAny_comprehension_free (use:=use) rfl hs (d1n fun y hy hk=>I.ok.has y.1 (B.caps _ (B.frees y hy hk).1)) B.kind B.locs ?_
 refine thn (hi pins s σ H _ I h) fun v s1 h1=>thn h1 fun itv s2 h2=>?_
 obtain ⟨it,fp,tn,J,H2,e,I2,T,st2,f2,W,⟨m0,w0⟩,turn⟩:=h2
 subst e
 have hfp:∀b∈fp,c7e X pins H2 b∧@LT.lt Nat instLTNat b s2.heap.objs.size:=fun b hb=>⟨f2 b hb,let ⟨_,e,_⟩:=T.obj _ _ st2 b hb;Heap.lt_size e⟩
 refine wpAny_newObj_type (d9j ?_) (a1f _)
 have es:(s2.heap.push { cls:=.type "list",data:=.seq ([]:List Value).toArray }).objs.size=s2.heap.objs.size+1:=Heap.size_push ..
 show codeAny _ _ (.compStart _ 0 (.ref it) (.ref s2.heap.objs.size) { newEnv scope (s2.heap.push { cls:=.type "list",data:=.seq ([]:List Value).toArray }).objs.size X.env.globals (cellsFrom ((s2.heap.push { cls:=.type "list",data:=.seq ([]:List Value).toArray }).objs.size+1) scope.names (a5q X.env scope.names [])) X.env.qual none .none (some X.env) builtinsNs with scope:=relabel scope X.env })
  (compPost (model X.prog X.w) X.A X.xe use Qe (.ref s2.heap.objs.size) (s2.heap.push { cls:=.type "list",data:=.seq ([]:List Value).toArray }).objs.size)
  { s2 with heap:=pushCells ((s2.heap.push { cls:=.type "list",data:=.seq ([]:List Value).toArray }).push { cls:=.type "dict",data:=.dict #[] }) scope.names }
 have hk1:∀b o,(s2.heap.push { cls:=.type "list",data:=.seq ([]:List Value).toArray }).get? b=some o->(pushCells ((s2.heap.push { cls:=.type "list",data:=.seq ([]:List Value).toArray }).push { cls:=.type "dict",data:=.dict #[] }) scope.names).get? b=some o :=
  fun b o e=>pushCells_keeps _ _ _ _ (Heap.get?_push_of_some _ e)
 have hk:∀b o,s2.heap.get? b=some o->(pushCells ((s2.heap.push { cls:=.type "list",data:=.seq ([]:List Value).toArray }).push { cls:=.type "dict",data:=.dict #[] }) scope.names).get? b=some o:=fun b o e=>hk1 b o (Heap.get?_push_of_some _ e)
 have hoD:=hk1 s2.heap.objs.size _ (Heap.get?_push_size s2.heap (o:={ cls:=.type "list",data:=.seq ([]:List Value).toArray }) rfl)
 have hn:=(Heap.Ns.new (s2.heap.push { cls:=.type "list",data:=.seq ([]:List Value).toArray }) (.type "dict")).keeps (pushCells_keeps scope.names _)
 have hcl:=e6s ((s2.heap.push { cls:=.type "list",data:=.seq ([]:List Value).toArray }).push { cls:=.type "dict",data:=.dict #[] }) (s2.heap.objs.size+1) (by rw[Heap.size_push,es]) scope.names
 rw[es] at hn ⊢
 generalize pushCells ((s2.heap.push { cls:=.type "list",data:=.seq ([]:List Value).toArray }).push { cls:=.type "dict",data:=.dict #[] }) scope.names=h3 at hk hoD hn hcl ⊢
 have Z:Bz:=⟨s2,H2,fp,s2.heap.objs.size+1⟩
 have I3:Inv (blk X own capN scope ⟨s2,H2,fp,s2.heap.objs.size+1⟩) [(s2.heap.objs.size,lobj [] 0)] (st0 own.length cap σ) H2 { s2 with heap:=h3 } :=
  f5z (Z:=⟨s2,H2,fp,s2.heap.objs.size+1⟩) (t1:=s2.toks) I2 hc B hcap (c3t _) hcl hfp hk hn (a0h _) (a2q (a9n _)) hoD (fun v z=>nomatch z)
 have st3:tn 0 h3:=T.keep _ _ _ st2 fun b _ o e=>hk b o e
 have loop:codeAny (model X.prog X.w) X.A (.compLoop (.ListComp elt [⟨tg,iter,ifs,0⟩] scope pos) 0 (.ref it) (.ref s2.heap.objs.size) (d2x X.env scope (s2.heap.objs.size+1))) (compPost (model X.prog X.w) X.A X.xe use Qe (.ref s2.heap.objs.size) (s2.heap.objs.size+1)) { s2 with heap:=h3 }:=by
  refine d7p (fun m s'=>∃i ys σ' H' its n,Inv (blk X own capN scope ⟨s2,H2,fp,s2.heap.objs.size+1⟩) [(s2.heap.objs.size,lobj its n)] σ' H' s'∧tn i s'.heap∧(∀b∈fp,H' b=none)∧a6a ys its∧W i m ys H') ?_ m0
   ⟨0,[],_,H2,[],0,I3,st3,fun b hb=>(f2 b hb).1,.nil,w0⟩
  rintro E n s4 ⟨i,ys,σ4,H4,its,k,I4,st4,fr4,rv,w4⟩
  have fpo:∀{pp:List (Addr×Obj)} {H':Hp},(∀p∈pp,p.1=s2.heap.objs.size)->(∀b∈fp,H' b=none)->∀b∈fp,c7e (blk X own capN scope ⟨s2,H2,fp,s2.heap.objs.size+1⟩) pp H' b:=fun {pp H'} hpp hn b hb=>by
   obtain ⟨e1,e2⟩:=I4.ok.exf b hb
   refine ⟨hn b hb,e1,I4.ok.exfs b hb,.inl hb,e2,fun p hp=>?_⟩
   have hp':p∈pp:=by simpa [blk] using hp
   have l:=(hfp b hb).2
   rw[hpp p hp']
   exact fun z=>a5f _ (by rw[← z] at l;exact l)
  have pinD:∀{its:List Value} {n:Nat},∀p∈[(s2.heap.objs.size,lobj its n)],p.1=s2.heap.objs.size:=fun p hp=>by simp at hp;rw[hp]
  rcases turn i n ys H4 w4 with ⟨stop,hz,q⟩ | ⟨go,hlt,NY,NN,hNY,hNN,step⟩
  ·refine thn (T.done (blk X own capN scope ⟨s2,H2,fp,s2.heap.objs.size+1⟩) rfl rfl rfl rfl i _ s4 σ4 H4 E I4 (fpo pinD fr4) st4 stop) fun r s5 ⟨hr,I5⟩=>?_
   subst hr
   have pD:=I5.pin (s2.heap.objs.size,lobj its k) (by simp)
   have I6:=f6a (Z:=⟨s2,H2,fp,s2.heap.objs.size+1⟩) I2 hfp (a0h _) I5 rv hz
   have hC:upd H4 s2.heap.objs.size (.lst ys) (s2.heap.objs.size+1)=none:=by
    rw[a2d (f1y (a9n _))];exact I5.free
   obtain ⟨m,hm,_⟩:=I5.loc
   exact fin _ _ s5 _ I6 (I2.fpOk (c3t _) hC) ⟨m,hm⟩ (q _ pD.2.1)
  ·refine thn (T.item (blk X own capN scope ⟨s2,H2,fp,s2.heap.objs.size+1⟩) rfl rfl rfl rfl i _ s4 σ4 H4 E I4 (fpo pinD fr4) st4 go) fun r s5 ⟨u,hr,h5⟩=>?_
   subst hr
   refine thn h5 fun _ s6 ⟨x,H6,I6,r6,y6,st6,fr6⟩=>?_
   have I6':=(f1r (Z:=⟨s2,H2,fp,s2.heap.objs.size+1⟩) I2 B hcap hfp I6).pinned (fpo pinD fr6) (T.obj _ _ st6)
   have back:∀{σ7:St} {H7:Hp} {s7:Shared},Inv (blk X own capN scope ⟨s2,H2,fp,s2.heap.objs.size+1⟩) ([(s2.heap.objs.size,lobj its k)]++d6m fp s6.heap) σ7 H7 s7 →
     Inv (blk X own capN scope ⟨s2,H2,fp,s2.heap.objs.size+1⟩) [(s2.heap.objs.size,lobj its k)] σ7 H7 s7∧tn (i+1) s7.heap∧∀b∈fp,H7 b=none:=fun {σ7 H7 s7} I7=>by
    refine ⟨I7.unpinned,T.keep _ _ _ st6 fun b hb o e=>(I7.pin (b,o) (a2e _ (a2e _ (c1c hb e)))).1,fun b hb=>?_⟩
    obtain ⟨o,e,d⟩:=T.obj _ _ st6 b hb
    exact (I7.pin (b,o) (a2e _ (a2e _ (c1c hb e)))).2.1
   refine g0x (hg _ _ s6 _ H6 x u _ I6' r6 (step x H6 y6)) fun _ s7 ⟨σ7,H7,I7,q7⟩=>?_
   refine g0x (hf _ _ s7 σ7 H7 _ I7 q7) fun ok s8 ⟨H8,I8,q8⟩=>?_
   cases ok with
   | false =>
    rw[if_neg a1g] at q8 ⊢
    obtain ⟨m',hm,w8⟩:=hNN H8 q8
    obtain ⟨J1,J2,J3⟩:=back I8
    exact ⟨m',hm,i+1,ys,σ7,H8,its,k,J1,J2,J3,rv,w8⟩
   | true =>
    rw[if_pos rfl] at q8 ⊢
    refine g0x (he _ _ s8 σ7 H8 _ I8 q8) fun z s9 ⟨y,H9,I9,r9,q9⟩=>?_
    obtain ⟨J1,J2,J3⟩:=back I9
    obtain ⟨m',hm,w9⟩:=hNY y H9 q9
    have pD:=J1.pin (s2.heap.objs.size,lobj its k) (by simp)
    have hl:=rv.length
    refine call_meets F.slot_list_append ⟨_,pD.1,rfl⟩ F.entry_list_append (F.args_list_append_2 _ _) (PySem.list_append s2.heap.objs.size its.toArray k z (by rw[a1a];omega)) ⟨pD.1,?_⟩
    have e9:=b4p pD.1 (fun a=>a.push z)
    have e9':(its.toArray.push z)=(its++[z]).toArray:=by simp
    rw[e9'] at e9
    obtain ⟨n',e9⟩:∃n',(s9.heap.update s2.heap.objs.size (Obj.mapSeq fun a=>a.push z)).get? s2.heap.objs.size=some (lobj (its++[z]) n'):=⟨_,e9⟩
    have J4:Inv (blk X own capN scope ⟨s2,H2,fp,s2.heap.objs.size+1⟩) [] σ7 H9 { s9 with heap:=s9.heap.update s2.heap.objs.size (Obj.mapSeq fun a=>a.push z),toks:=s9.toks } :=
     (J1.pins_of (pins':=[]) fun p hp=>nomatch hp).turned (fun b o hb e=>(Heap.get?_update_other s9.heap _ (Ne.symm hb)).trans e) pD.2.1 pD.2.2.1 (.inr (a0h _)) (fun x c hx z=>by
      rcases b1y (Z:=⟨s2,H2,fp,s2.heap.objs.size+1⟩) B I2 hx with ⟨_,m⟩ | ⟨_,_,m⟩
      ·have:=(hcl.empty _ _ m).2
       have z':@Eq Nat c s2.heap.objs.size:=z
       omega
      ·have:=d9v (Z:=⟨s2,H2,fp,s2.heap.objs.size+1⟩) I2 m
       rw[z] at this
       exact a5f _ this) fun p hp=>by simp [blk] at hp
    have nfp:∀b∈fp,b≠s2.heap.objs.size:=fun b hb z=>by have:=(hfp b hb).2;rw[z] at this;exact a5f _ this
    refine ⟨m',hm,i+1,ys++[y],σ7,H9,its++[z],n',J4.pins_of fun p hp=>?_,T.keep _ _ _ J2 fun b hb o e=>(Heap.get?_update_other s9.heap _ (Ne.symm (nfp b hb))).trans e,J3,rv.append (.cons r9 .nil),w9⟩
    have ep:p=(s2.heap.objs.size,lobj (its++[z]) n'):=by simpa using hp
    rw[ep]
    exact ⟨e9,pD.2.1,pD.2.2.1,pD.2.2.2.1,fun v z=>nomatch z⟩
 exact codeAny_compStart_list loop (T.self _ _ _ _ _ st3 loop)
theorem a3v (own capN:List Str) (cap:List Nat) (hi:PI X tg iter wi) (hg:∀Z,PG (blk X own capN scope Z) tg g) (hf:∀Z,PF (blk X own capN scope Z) ifs tf) (he:∀Z,PE (blk X own capN scope Z) elt te)
  (h1:bkS scope own capN=true:=by decide +kernel) (h2:e4a X.env capN=true:=by rfl) (hcap:d8g X capN cap:=by rfl) (hc:X.calm=true:=by rfl) (hs:∀x,foldedSetIterable iter X.env x=pure x:=by intro _;rfl) :
  PE X (.ListComp elt [⟨tg,iter,ifs,0⟩] scope pos) (e4s wi own.length cap g tf te):=by
 intro pins s σ H Q I h
 rw[eval_ListComp]
 refine d7n (use:=none) hc (Bk.of h1 h2) hcap hi hg hf he hs I h fun D C s' H' I' fC hm q=>?_
 obtain ⟨m,hm⟩:=hm
 refine ⟨m,hm,fun h' hs'=>?_⟩
 obtain ⟨f0,f1,f2,f3,f4,f5⟩:=fC
 exact ⟨.ref D,H',I'.turned (t':=s'.toks) (fun b o hb e=>(hs'.2 b hb).trans e) f0 f1 f3 f4 f5,rfl,q⟩
theorem c6l (i:Nat) (own capN:List Str) (cap:List Nat) {x:Str} {pos' spos:Pos} (hN:X.N.Nodup) (hi':X.N[i]?=some x) (hx:X.env.scope.names.lookup x=some .local) (hi:PI X tg iter wi) (hg:∀Z,PG (blk X own capN scope Z) tg g) (hf:∀Z,PF (blk X own capN scope Z) ifs tf) (he:∀Z,PE (blk X own capN scope Z) elt te)
  (h1:bkS scope own capN=true:=by decide +kernel) (h2:e4a X.env capN=true:=by rfl) (hcap:d8g X capN cap:=by rfl) (hc:X.calm=true:=by rfl) (hs:∀x,foldedSetIterable iter X.env x=pure x:=by intro _;rfl)
  (hsw:swapsWith (.ListComp elt [⟨tg,iter,ifs,0⟩] scope pos) (some (.Name x pos')) spos.line X.env=pure true:=by rfl) :
  PS X (.Assign [.Name x pos'] (.ListComp elt [⟨tg,iter,ifs,0⟩] scope pos) spos) (g0r (e4s wi own.length cap g tf te) (f1h i)):=by
 intro pins s σ H D I h
 rw[exec_Assign_Name_used _ _ _ _ hsw]
 refine wpAny_bind (wpAny_standAt (wpAny_bind ?_))
 rw[arm_evalThenUse_ListComp]
 refine wpAny_bind (d7n (Q:=fun v H1=>D.nx (σ.set i (some v)) H1) (use:=some _) hc (Bk.of h1 h2) hcap hi hg hf he hs I h fun L C s' H' I' fC hm q=>?_)
 obtain ⟨m,hm⟩:=hm
 obtain ⟨f0,f1,f2,f3,f4,f5⟩:=fC
 refine wpAny_assign_Name (d5z I' hN hi' (.inl hx) (v:=.ref L) rfl (fun s'' I'' ⟨a,sb,ha⟩=>?_) (.inr hx))
 have hCa:C≠a:=by
  rcases ha with e | e
  ·rw[e];exact f1
  ·exact (f4 x a e).symm
 refine ⟨m,hm.at' fun o e=>(sb.2 C hCa).trans e,fun h' hs'=>?_⟩
 have I3:=I''.turned (h':=h') (t':=s''.toks) (fun b o hb e=>(hs'.2 b hb).trans e) f0 f1 f3 f4 f5
 exact wpAny_pure (wpAny_pure ⟨_,H',I3,q⟩)
end
section
variable {K:PySem.W.Frag} {a:Addr} {xs:List V} {g:TG} {tf:TT} {te:TE} {Q:VK} {σ₀:St} {H:Hp}
theorem a6j (Pv:Nat->List V->Hp->Prop) (hz:xs.length<=sizeLine) (h0:Pv 0 [] H) (hl:∀i ys H,i<=xs.length->Pv i ys H->SqL K H a xs)
  (hs:∀i x ys H,xs[i]?=some x->ys.length<=i->Pv i ys H->d1b σ₀ g tf te x H (fun y H'=>Pv (i+1) (ys++[y]) H') (fun H'=>Pv (i+1) ys H'))
  (hd:∀ys H,ys.length<=xs.length->Pv xs.length ys H->∀p,H p=none->Q (.ref p) (upd H p (.lst ys))):d1q (Itl K a) σ₀ g tf te Q H:=by
 refine ⟨fun i m ys H=>m=xs.length - i∧i<=xs.length∧ys.length<=i∧Pv i ys H,⟨xs.length,by simp,a1f _,a1f _,h0⟩,?_⟩
 rintro i m ys H ⟨rfl,hi,hy,p⟩
 have q:=hl i ys H hi p
 by_cases hlt:i < xs.length
 ·refine .inr ⟨⟨xs,xs[i],q,by simp [hlt]⟩,by omega,fun y H'=>Pv (i+1) (ys++[y]) H',fun H'=>Pv (i+1) ys H',fun y H' p'=>⟨xs.length - (i+1),by omega,rfl,hlt,by rw[a0i,a1q];omega,p'⟩,fun H' p'=>⟨xs.length - (i+1),by omega,rfl,hlt,by omega,p'⟩,fun x H' y=>?_⟩
  obtain ⟨e,y⟩:=y
  subst e
  exact hs i x ys _ (y xs q) hy p
 ·have e:i=xs.length:=by omega
  subst e
  exact .inl ⟨⟨xs,q,a0h _⟩,by omega,hd ys H hy p⟩
theorem c1l {lo:Int} {n:Nat} (Pv:Nat->List V->Hp->Prop) (hz:n<=sizeLine) (h0:Pv 0 [] H)
  (hs:∀i ys H,i < n->ys.length<=i->Pv i ys H->d1b σ₀ g tf te (.int (lo+i)) H (fun y H'=>Pv (i+1) (ys++[y]) H') (fun H'=>Pv (i+1) ys H'))
  (hd:∀ys H,ys.length<=n->Pv n ys H->∀p,H p=none->Q (.ref p) (upd H p (.lst ys))):d1q (Itr lo n) σ₀ g tf te Q H:=by
 refine ⟨fun i m ys H=>m=n - i∧i<=n∧ys.length<=i∧Pv i ys H,⟨n,by simp,a1f _,a1f _,h0⟩,?_⟩
 rintro i m ys H ⟨rfl,hi,hy,p⟩
 by_cases hlt:i < n
 ·refine .inr ⟨hlt,by omega,fun y H'=>Pv (i+1) (ys++[y]) H',fun H'=>Pv (i+1) ys H',fun y H' p'=>⟨n - (i+1),by omega,rfl,hlt,by rw[a0i,a1q];omega,p'⟩,fun H' p'=>⟨n - (i+1),by omega,rfl,hlt,by omega,p'⟩,fun x H' y=>?_⟩
  obtain ⟨e,y⟩:=y
  subst e y
  exact hs i ys _ hlt hy p
 ·have e:i=n:=by omega
  subst e
  exact .inl ⟨a0h _,by omega,hd ys H hy p⟩
end
end L2
namespace L2
open PySem PySem.Spec PyProof.Rows Nm
def b9d (i j:Int):Prop:=g2f i j∨∃m n,Sz m i∧Sz n j∧m+n<=1000000
def c8j (i j:Int):Prop:=j≠0∧Sz 8999 j
theorem d2y {k:Nat} {i:Int} (h:Sz k i):Builtin.Int.intBits i<=k:=by
 unfold Builtin.Int.intBits
 by_cases e:i=0
 ·subst e;simp
 ·have e':(i == 0)=false:=by simpa using e
  rw[e']
  have hn:i.natAbs≠0:=by omega
  have:=(Nat.log2_lt hn).mpr h
  simp only[b0i,if_false]
  omega
theorem b9d.ok {i j:Int} (h:b9d i j):IntMulOk i j:=by
 rcases h with h | ⟨m,n,h1,h2,h3⟩
 ·exact h.ok
 ·have e:(2:Nat)^20=1048576:=by decide
  exact .of_bits (by have:=d2y h1;omega) (by have:=d2y h2;omega)
section
variable {X:Cx} {a b:Expr} {ta tb:TE} {pos:Pos}
theorem a5h:OpR X (binaryOp .Mult) (rI b9d fun i j=>.int (i*j)):=opI fun _ _ _ _ _ _ _ hc q=>mul_int q hc.ok
theorem b2j:OpR X (binaryOp .FloorDiv) (rI c8j fun i j=>.int (i.fdiv j)):=opI fun i j _ _ _ _ _ hc q=>by
 refine floordiv_int hc.1 q (.inl (PyProof.noPylong_of_log2 ?_))
 have hn:j.natAbs≠0:=by have:=hc.1;omega
 have:=(Nat.log2_lt hn).mpr hc.2
 omega
def g0z (t u:TS):TS:=fun D σ H=>∃N:St->Hp->Prop,t { D with nx:=N } σ H∧∀σ' H',N σ' H'->u D σ' H'
theorem a8k {st:Stmt} {rest:List Stmt} {t u:TS} (h1:PS X st t) (h2:PSs X rest u):PSs X (st :: rest) (g0z t u):=by
 intro pins s σ H D I h
 obtain ⟨N,h,k⟩:=h
 refine wpAny_execs_cons (thn (h1 pins s σ H { D with nx:=N } I h) fun f s1 q=>?_)
 cases f with
 | next =>
  obtain ⟨σ',H',I',q⟩:=q
  exact h2 pins s1 σ' H' D I' (k _ _ q)
 | ret v=>exact q
 | brk=>exact q
 | cont=>exact q
def f8q (K:PySem.W.Frag):V->V->Hp->VK->Prop:=fun o i H Q=>∃p xs k v,o=.ref p∧i=.int k∧SqL K H p xs∧atI xs k=some v∧Q v H
theorem f1e:PGet X (f8q X.K):=by
 intro pins s σ H o i ov iv Q I ro ri h
 obtain ⟨p,xs,k,z,rfl,rfl,hq,he,q⟩:=h
 cases ro
 obtain ⟨t,rfl⟩:=ri
 obtain ⟨its,r,pl,hz⟩:=I.list hq
 obtain ⟨j,h1,h2,h3,h4,h5⟩:=d9z he
 obtain ⟨w,ew,rw'⟩:=r.get h2
 have hl:=r.length
 have hn:=d7a
 have fin:EP X pins σ Q w s:=⟨z,H,I,rw',q⟩
 by_cases h0:0<=k
 ·have hj:k.toNat=j:=by
   rw[seqIndex_of h0 h5] at h1
   exact a2v h1
  exact wpAny_getItem_list pl.isList h0 (by omega) (by rw[hj];simpa using ew) fin
 ·have hj:(k+(its.toArray.size:Int)).toNat=j:=by
   rw[seqIndex_neg (by omega) h4] at h1
   rw[a1a,← hl]
   exact a2v h1
  exact wpAny_getItem_list_neg pl.isList (by omega) (by rw[a1a] <;> omega) (by omega) (by rw[hj];simpa using ew) fin
def f6q (K:PySem.W.Frag) (T:String):V->Hp->VK->Prop:=fun x H Q=>∃t b,e4c K H x t∧PySem.W.kitOne K t (.type T)=some b∧Q (.bl b) H
theorem d2e {c:Str} {T:String} {p p2:Pos} (hg:Gl X "isinstance") (hm:X.mg "isinstance"=none) (hb:bootBuiltins c=some (.type T)) (hmc:X.mg c=none) (ha:PE X a ta) (hgc:Gl X c:=by rfl) (hn:c≠"__name__":=by decide)
  (hd:(c == ("__debug__":Str))=false:=by decide) (he:starEach [a,.Name c p2] X.env=[(false,eval a X.env),(false,eval (.Name c p2) X.env)]:=by rfl)
  (hpl:(backTo pos (starEach [.Name c p2] X.env)).any (·.1)=false:=by rfl) (he2:starEach [.Name c p2] X.env=[(false,eval (.Name c p2) X.env)]:=by rfl):PE X (.Call (.Name "isinstance" p) [a,.Name c p2] [] pos) (tUn (f6q X.K T) ta):=by
 intro pins s σ H Q I h
 refine wpAny_Call_Name_kw (b7e I hg hm PyProof.Rows.boot_isinstance ?_)
 have hA:PA X [a,.Name c p2] (c9b ta (c9b (tC (.ty T)) f3f)):=a0b ha (a0b (e6q hgc hmc hb rfl hn hd) a0g he2) (by rw[he,he2])
 have hq:c9b ta (c9b (tC (.ty T)) f3f) σ H (fun vs H1=>∃x,vs=[x,.ty T]∧f6q X.K T x H1 Q):=by
  show ta σ H fun x H1=>∃x',[x,V.ty T]=[x',V.ty T]∧f6q X.K T x' H1 Q
  have e:(fun x H1=>∃x',[x,V.ty T]=[x',V.ty T]∧f6q X.K T x' H1 Q)=fun x H1=>f6q X.K T x H1 Q:=by
   funext x H1
   apply propext
   constructor
   ·rintro ⟨x',e,q⟩;cases e;exact q
   ·intro q;exact ⟨x,rfl,q⟩
  rw[e]
  exact h
 refine PyProof.Rows.callWith_builtin1 (thn (hA pos pins s σ H _ I hq) fun us s1 ⟨vs,H1,I1,r1,x,e,q1⟩=>?_) (by rw[he,he2]) hpl
 subst e
 obtain ⟨u,w',rfl,ru,rt⟩:=vals2 r1
 cases rt
 obtain ⟨t,bb,ty,ek,q⟩:=q1
 exact d7f I1 ru ty ek fun tk=>⟨.bl bb,H1,I1.tok tk,rfl,q⟩
end
structure Kind (α:Type) [DecidableEq α] where
 R:PySem.W.Frag->Hp->V->α->Prop
 d:Nat
 inj:∀{X:Cx} {pins:List (Addr×Obj)} {σ:St} {H:Hp} {s:Shared} {x:V} {a b:α},Inv X pins σ H s->R X.K H x a->R X.K H x b->a=b
 rc:∀{X:Cx} {pins:List (Addr×Obj)} {σ:St} {H:Hp} {s:Shared} {x y:V} {v u:Value} {a b:α} {A:Around},Inv X pins σ H s->RelV x v->RelV y u->R X.K H x a->R X.K H y b->A.units+d < cLine->SeqAt.RcAt A s v u (decide (a=b))
 ne:∀{X:Cx} {pins:List (Addr×Obj)} {σ:St} {H:Hp} {s:Shared} {x y:V} {v u:Value} {a b:α} {A:Around},Inv X pins σ H s->RelV x v->RelV y u->R X.K H x a->R X.K H y b->A.units+d < cLine->SeqAt.RcNeAt A s v u (!decide (a=b))
 eq:∀{X:Cx} {pins:List (Addr×Obj)} {σ:St} {H:Hp} {s:Shared} {x y:V} {v u:Value} {a b:α} {A:Around},Inv X pins σ H s->RelV x v->RelV y u->R X.K H x a->R X.K H y b->A.units+d < cLine->SeqAt.EqAt A s v u (decide (a=b))
def kInt:Kind Int where
 R:=fun _ _ x i=>x=.int i
 d:=0
 inj:=fun _ h1 h2=>by rw[h1] at h2;cases h2;rfl
 rc:=fun {X pins σ H s x y v u a b A} I rx ry h1 h2 _=>by
  subst h1 h2
  obtain ⟨t,rfl⟩:=rx
  obtain ⟨t',rfl⟩:=ry
  have q:=SeqAt.RcAt.int_int (A:=A) (s:=s) a t b t'
  rwa [a7b] at q
 ne:=fun {X pins σ H s x y v u a b A} I rx ry h1 h2 _=>by
  subst h1 h2
  obtain ⟨t,rfl⟩:=rx
  obtain ⟨t',rfl⟩:=ry
  have q:=SeqAt.RcNeAt.int_int (A:=A) (s:=s) a t b t'
  rwa [a7b] at q
 eq:=fun {X pins σ H s x y v u a b A} I rx ry h1 h2 _=>by
  subst h1 h2
  obtain ⟨t,rfl⟩:=rx
  obtain ⟨t',rfl⟩:=ry
  have q:=SeqAt.EqAt.int_int (A:=A) (s:=s) a t b t'
  rwa [a7b] at q
theorem b3w {α β:Type} {F:α->β->Prop}:∀{l1:List α} {l2:List β} {i:Nat} (_:Paired F l1 l2) (h1:i < l1.length) (h2:i < l2.length),F l1[i] l2[i]
 | _,_,_,.nil,h1,_=>absurd h1 (a6h _)
 | _,_,0,.cons r _,_,_=>r
 | _,_,i+1,.cons _ t,h1,h2=>b3w (i:=i) t (Nat.lt_of_succ_lt_succ h1) (Nat.lt_of_succ_lt_succ h2)
theorem c6n {α β:Type} {F:α->β->Prop} (hF:∀a b x,F a x->F b x->a=b):∀{l1 l2:List α} {l:List β},Paired F l1 l->Paired F l2 l->l1=l2
 | _,_,_,.nil,.nil=>rfl
 | _,_,_,.cons r t,.cons r' t'=>by rw[hF _ _ _ r r',c6n hF t t']
theorem d7l {α:Type} [DecidableEq α] (as bs:List α) (h:as.length=bs.length):(List.range as.length).all (fun j=>decide (as[j]?=bs[j]?))=decide (as=bs):=by
 rw[b6n,c1x,decide_eq_true_iff]
 constructor
 ·intro q
  apply e8z
  intro i
  by_cases hi:i < as.length
  ·exact of_decide_eq_true (q i (b9i.mpr hi))
  ·rw[a1d (by omega),a1d (by omega)]
 ·rintro rfl i _
  simp
section
variable {α:Type} [DecidableEq α] (k:Kind α)
theorem Kind.items {X:Cx} {pins:List (Addr×Obj)} {σ:St} {H:Hp} {s:Shared} {A:Around} (I:Inv X pins σ H s) (hA:A.units+k.d < cLine) {xs ys:List V} {us ws:List Value} {as bs:List α}
  (rx:a6a xs us) (ry:a6a ys ws) (ha:Paired (fun a x=>k.R X.K H x a) as xs) (hb:Paired (fun a x=>k.R X.K H x a) bs ys) :
  ∀j (h1:j < us.toArray.size) (h2:j < ws.toArray.size),SeqAt.EqAt A s us.toArray[j] ws.toArray[j] (decide (as[j]?=bs[j]?)):=fun j h1 h2=>by
 have l1:j < us.length:=by simpa using h1
 have l2:j < ws.length:=by simpa using h2
 have e1:=rx.length
 have e2:=ry.length
 have e3:=ha.length
 have e4:=hb.length
 obtain ⟨u,hu,ru⟩:=rx.get (i:=j) (x:=xs[j]'(by omega)) (by simp)
 obtain ⟨w,hw,rw'⟩:=ry.get (i:=j) (x:=ys[j]'(by omega)) (by simp)
 have q:=k.eq (A:=A) I ru rw' (b3w ha (by omega) (by omega)) (b3w hb (by omega) (by omega)) hA
 have eu:us.toArray[j]=u:=by
  have:=hu
  rw[a0c l1] at this
  simpa using this
 have ew:ws.toArray[j]=w:=by
  have:=hw
  rw[a0c l2] at this
  simpa using this
 rw[eu,ew,a0c (show j < as.length by omega),a0c (show j < bs.length by omega)]
 have e5:decide (some as[j]=some bs[j])=decide (as[j]=bs[j]):=by simp
 rw[e5]
 exact q
theorem d8n {α:Type} [DecidableEq α] (as bs:List α) {n m:Nat} (h1:as.length=n) (h2:bs.length=m):((List.range (min n m)).all (fun j=>decide (as[j]?=bs[j]?)) && n == m)=decide (as=bs):=by
 subst h1 h2
 by_cases e:as.length=bs.length
 ·rw[show min as.length bs.length=as.length by omega,d7l as bs e]
  simp [e]
 ·have h1:(as.length == bs.length)=false:=by simpa using e
  rw[h1,Bool.and_false]
  exact (decide_eq_false fun z=>e (by rw[z])).symm
def f9o:Kind (List α) where
 R:=fun K H x as=>∃p xs,x=.ref p∧SqT K H p xs∧Paired (fun a x=>k.R K H x a) as xs
 d:=k.d+1
 inj:=fun {X pins σ H s x a b} I h1 h2=>by
  obtain ⟨p,xs,rfl,hp,pa⟩:=h1
  obtain ⟨q,ys,e,hq,pb⟩:=h2
  cases e
  have e:=I.tuple_inj hp hq
  subst e
  exact c6n (F:=fun a x=>k.R X.K H x a) (fun a b x=>k.inj I) pa pb
 rc:=fun {X pins σ H s x y v u a b A} I rx ry h1 h2 hA=>by
  obtain ⟨p,xs,rfl,hp,pa⟩:=h1
  obtain ⟨q,ys,rfl,hq,pb⟩:=h2
  cases rx
  cases ry
  obtain ⟨us,r1,t1,_⟩:=I.tuple hp
  obtain ⟨ws,r2,t2,_⟩:=I.tuple hq
  have z:=SeqAt.RcAt.tuples (A:=A) (e:=fun j=>decide (a[j]?=b[j]?)) (show s.heap.IsTuple p us.toArray from t1) (show s.heap.IsTuple q ws.toArray from t2) (by omega) (k.items (A:=A.in1) I (by show A.units+1+k.d < cLine;omega) r1 r2 pa pb)
  rwa [d8n a b (by rw[pa.length,r1.length];simp) (by rw[pb.length,r2.length];simp)] at z
 ne:=fun {X pins σ H s x y v u a b A} I rx ry h1 h2 hA=>by
  obtain ⟨p,xs,rfl,hp,pa⟩:=h1
  obtain ⟨q,ys,rfl,hq,pb⟩:=h2
  cases rx
  cases ry
  obtain ⟨us,r1,t1,_⟩:=I.tuple hp
  obtain ⟨ws,r2,t2,_⟩:=I.tuple hq
  have z:=SeqAt.RcNeAt.tuples (A:=A) (e:=fun j=>decide (a[j]?=b[j]?)) (show s.heap.IsTuple p us.toArray from t1) (show s.heap.IsTuple q ws.toArray from t2) (by omega) (k.items (A:=A.in1) I (by show A.units+1+k.d < cLine;omega) r1 r2 pa pb)
  rwa [d8n a b (by rw[pa.length,r1.length];simp) (by rw[pb.length,r2.length];simp)] at z
 eq:=fun {X pins σ H s x y v u a b A} I rx ry h1 h2 hA=>by
  obtain ⟨p,xs,rfl,hp,pa⟩:=h1
  obtain ⟨q,ys,rfl,hq,pb⟩:=h2
  cases rx
  cases ry
  by_cases e:p=q
  ·subst e
   have e:=I.tuple_inj hp hq
   subst e
   rw[c6n (F:=fun a x=>k.R X.K H x a) (fun a b x=>k.inj I) pa pb,decide_eq_true rfl]
   exact SeqAt.EqAt.same _
  ·obtain ⟨us,r1,t1,_⟩:=I.tuple hp
   obtain ⟨ws,r2,t2,_⟩:=I.tuple hq
   have z:=SeqAt.RcAt.tuples (A:=A) (e:=fun j=>decide (a[j]?=b[j]?)) (show s.heap.IsTuple p us.toArray from t1) (show s.heap.IsTuple q ws.toArray from t2) (by omega) (k.items (A:=A.in1) I (by show A.units+1+k.d < cLine;omega) r1 r2 pa pb)
   rw[d8n a b (by rw[pa.length,r1.length];simp) (by rw[pb.length,r2.length];simp)] at z
   exact .of_refs e z
def Kind.via {β:Type} [DecidableEq β] (f:β->α) (fi:∀a b,f a=f b->a=b) (R':PySem.W.Frag->Hp->V->β->Prop) (im:∀{K H x b},R' K H x b->k.R K H x (f b)):Kind β where
 R:=R'
 d:=k.d
 inj:=fun I h1 h2=>fi _ _ (k.inj I (im h1) (im h2))
 rc:=fun {X pins σ H s x y v u a b A} I rx ry h1 h2 hA=>by
  have z:=k.rc (A:=A) I rx ry (im h1) (im h2) hA
  rwa [decide_eq_decide.mpr (show f a=f b↔a=b from ⟨fi a b,fun e=>by rw[e]⟩)] at z
 ne:=fun {X pins σ H s x y v u a b A} I rx ry h1 h2 hA=>by
  have z:=k.ne (A:=A) I rx ry (im h1) (im h2) hA
  rwa [decide_eq_decide.mpr (show f a=f b↔a=b from ⟨fi a b,fun e=>by rw[e]⟩)] at z
 eq:=fun {X pins σ H s x y v u a b A} I rx ry h1 h2 hA=>by
  have z:=k.eq (A:=A) I rx ry (im h1) (im h2) hA
  rwa [decide_eq_decide.mpr (show f a=f b↔a=b from ⟨fi a b,fun e=>by rw[e]⟩)] at z
end
def f2y (K:PySem.W.Frag) (H:Hp) (x:V) (n:Int×Int):Prop:=∃p,x=.ref p∧SqT K H p [.int n.1,.int n.2]
def kNum:Kind (Int×Int):=(f9o kInt).via (fun n=>[n.1,n.2]) (fun a b e=>by cases a;cases b;simp at e;rw[e.1,e.2]) f2y fun ⟨p,e,h⟩=>⟨p,_,e,h,.cons rfl (.cons rfl .nil)⟩
def rEqD (K:PySem.W.Frag):R2:=fun x y H Q=>∃(α:Type) (_:DecidableEq α) (k:Kind α) (a b:α),k.d<=50∧k.R K H x a∧k.R K H y b∧Q (.bl (decide (a=b))) H
def rNeD (K:PySem.W.Frag):R2:=fun x y H Q=>∃(α:Type) (_:DecidableEq α) (k:Kind α) (a b:α),k.d<=50∧k.R K H x a∧k.R K H y b∧Q (.bl (!decide (a=b))) H
theorem f8w {X:Cx} (hu:X.A.units+50 < cLine):OpR X (compareOp .Eq) (rEqD X.K):=by
 intro pins s σ H x y v u Q I rx ry h
 obtain ⟨α,_,k,a,b,hd,ha,hb,q⟩:=h
 exact k.rc (A:=X.A) I rx ry ha hb (by omega) _ _ _ _ ⟨.bl (decide (a=b)),H,I,rfl,q⟩
theorem e1a {X:Cx} (hu:X.A.units+50 < cLine):OpR X (compareOp .NotEq) (rNeD X.K):=by
 intro pins s σ H x y v u Q I rx ry h
 obtain ⟨α,_,k,a,b,hd,ha,hb,q⟩:=h
 exact k.ne (A:=X.A) I rx ry ha hb (by omega) _ _ _ _ ⟨.bl (!decide (a=b)),H,I,rfl,q⟩
theorem f9v {A:Around} {k:Nat} (hr:c8g k A):A.units+50 < cLine:=by have:=hr.units;omega
def Inner (H:Hp) (p q:Addr):Prop:=∃a b c:Int,H p=some (.lst [.int a,.int b,.int c,.ref q])
def a7g (p:Addr) (H H':Hp):Prop:=(∀b o,H b=some o->b≠p->H' b=some o)∧∀q,Inner H p q->Inner H' p q
theorem a7g.refl {p:Addr} (H:Hp):a7g p H H:=⟨fun _ _ h _=>h,fun _ h=>h⟩
theorem a7g.trans {p:Addr} {H H1 H2:Hp} (a:a7g p H H1) (b:a7g p H1 H2):a7g p H H2:=⟨fun c o h n=>b.1 c o (a.1 c o h n) n,fun q h=>b.2 q (a.2 q h)⟩
theorem Inner.inj {H:Hp} {p q q':Addr} (h:Inner H p q) (h':Inner H p q'):q=q':=by
 obtain ⟨a,b,c,e⟩:=h
 obtain ⟨a',b',c',e'⟩:=h'
 rw[e] at e'
 have:=HO.lst.inj (a2v e')
 simp at this
 exact this.2.2.2
theorem a7g.set {p q:Addr} {H:Hp} {a b c a' b' c':Int} (h:H p=some (.lst [.int a,.int b,.int c,.ref q])):a7g p H (upd H p (.lst [.int a',.int b',.int c',.ref q])) :=
 ⟨fun b u h n=>by rw[a2d n];exact h,fun q' h'=>by
  rw[(Inner.inj ⟨a,b,c,h⟩ h').symm]
  exact ⟨a',b',c',a0y⟩⟩
theorem a1w.upto {p:Addr} {H H':Hp} (h:a1w H H'):a7g p H H':=⟨fun b o e _=>h b o e,fun q ⟨a,b,c,e⟩=>⟨a,b,c,h _ _ e⟩⟩
theorem a1w.new {H:Hp} {p:Addr} {o:HO} (h:H p=Option.none):a1w H (upd H p o):=fun b u e=>by rw[a2d (a6p e h)];exact e
theorem a1w.sqt {K:PySem.W.Frag} {H H':Hp} {a:Addr} {xs:List V} (e:a1w H H') (h:SqT K H a xs):SqT K H' a xs:=by
 rcases h with (h | ⟨o,h⟩) | h
 ·exact .inl (.inl (e _ _ h))
 ·exact .inl (.inr ⟨o,e _ _ h⟩)
 ·exact .inr h
theorem a1w.num {K:PySem.W.Frag} {H H':Hp} {x:V} {n:Int×Int} (e:a1w H H') (h:f2y K H x n):f2y K H' x n:=let ⟨p,q,r⟩:=h;⟨p,q,e.sqt r⟩
section
variable {σ:St} {H:Hp} {D:Ends}
theorem a1h {t:TS} {σ0 σ:St} {D:Ends} {H:Hp} (e:σ0=σ) (h:t D σ H):t D σ0 H:=by rw[e];exact h
theorem f7x {t u:TS} (h:t { D with nx:=u D } σ H):tSeq t u D σ H:=h
theorem f4f (h:D.nx σ H):f7a D σ H:=h
theorem f8n {te:TE} {g:TG} (h:te σ H fun x H1=>g x σ H1 D.nx):g0r te g D σ H:=h
theorem f0j {i:Nat} {v:V} {Q:St->Hp->Prop} (h:Q (σ.set i (some v)) H):f1h i v σ H Q:=h
theorem f7y {te:TE} (h:te σ H D.rt):tRet te D σ H:=h
theorem f8h {c:TT} {t u:TS} (h:c σ H fun b H1=>if b=true then t D σ H1 else u D σ H1):tIfS c t u D σ H:=h
theorem f4o {te:TE} (h:te σ H fun _ H1=>D.nx σ H1):f7c te D σ H:=h
theorem f8a {i j:Nat} {ta:TA} (h:ta σ H fun vs H1=>∃v w,vs=[v,w]∧D.nx ((σ.set i (some v)).set j (some w)) H1):tPar i j ta D σ H:=h
theorem f4s {to ti te:TE} {tget:V->V->Hp->VK->Prop} {tip:TIp} {tset:f6f}
  (h:to σ H fun o H1=>ti σ H1 fun i H2=>tget o i H2 fun x H3=>te σ H3 fun y H4=>tip x y H4 fun z H5=>tset o i z H5 fun H6=>D.nx σ H6):f7e to ti te tget tip tset D σ H:=h
theorem f8g {f:Int->Int->Int} {i j:Int} {Q:VK} (h:Q (.int (f i j)) H):ipI f (.int i) (.int j) H Q:=⟨i,j,rfl,rfl,h⟩
theorem f8j {wi:TI} {g:TG} {tb:TS} (h:wi σ H fun J H1=>∃W:Nat->Nat->St->Hp->Prop,(∃m,W 0 m σ H1)∧∀i m σ H,W i m σ H →
  (J.stop i H∧D.nx σ H)∨(J.go i H∧∃N:St->Hp->Prop,(∀σ' H',N σ' H'->∃m',m' < m∧W (i+1) m' σ' H')∧∀x H',J.yld i H x H'->g x σ H' fun σ2 H2=>tb { D with nx:=N,ct:=N,bk:=D.nx } σ2 H2)):tFor wi g tb D σ H:=h
variable {Q:VK} {QA:List V->Hp->Prop} {QB:Bool->Hp->Prop}
theorem f7u {i:Nat} {v:V} (e:σ[i]?=some (some v)) (h:Q v H):g0y i σ H Q:=⟨v,e,h⟩
theorem rd_c {v:V} (h:Q v H):tC v σ H Q:=h
theorem g1j {r:R2} {ta tb:TE} (h:ta σ H fun x H1=>tb σ H1 fun y H2=>r x y H2 Q):tOp r ta tb σ H Q:=h
theorem g1f {r:V->Hp->VK->Prop} {ta:TE} (h:ta σ H fun x H1=>r x H1 Q):tUn r ta σ H Q:=h
theorem g1m {g:Int->Int->V} {i j:Int} (h:Q (g i j) H):rI0 g (.int i) (.int j) H Q:=⟨i,j,rfl,rfl,h⟩
theorem b9s {C:Int->Int->Prop} {g:Int->Int->V} {i j:Int} (hc:C i j) (h:Q (g i j) H):rI C g (.int i) (.int j) H Q:=⟨i,j,rfl,rfl,hc,h⟩
theorem rd_U {g:Int->V} {i:Int} (h:Q (g i) H):rU g (.int i) H Q:=⟨i,rfl,h⟩
theorem f8m {i j:Int} (h:Q (.bl (decide (i=j))) H):rEq (.int i) (.int j) H Q:=⟨rfl,by
 have e:decide (V.int i=V.int j)=decide (i=j):=by simp
 rw[e];exact h⟩
theorem f8d {i j:Int} (h:Q (.bl (!decide (i=j))) H):rNe (.int i) (.int j) H Q:=⟨rfl,by
 have e:decide (V.int i=V.int j)=decide (i=j):=by simp
 rw[e];exact h⟩
theorem f8l {i j:Str} (h:Q (.bl (decide (i=j))) H):rEq (.str i) (.str j) H Q:=⟨rfl,by
 have e:decide (V.str i=V.str j)=decide (i=j):=by simp
 rw[e];exact h⟩
theorem f4b {t:TE} (h:t σ H fun x H'=>∃k,x=.bl k∧QB k H'):f6x t σ H QB:=h
theorem g1g {t:TE} (h:t σ H fun x H'=>∃k,x=.bl k∧QB k H'):tB t σ H QB:=h
theorem f8o {t u:TT} (h:t σ H fun c H1=>if c=true then u σ H1 QB else QB false H1):tAnd t u σ H QB:=h
theorem g1i {t u:TT} (h:t σ H fun c H1=>if c=true then QB true H1 else u σ H1 QB):tOr t u σ H QB:=h
theorem f8b {t:TT} (h:t σ H fun c H1=>QB (!c) H1):tNot t σ H QB:=h
theorem f4t {t u:TE} (h:t σ H fun x H1=>∃c,x=.bl c∧if c=true then u σ H1 Q else Q (.bl false) H1):f7f t u σ H Q:=h
theorem f4e {t:TE} (h:t σ H fun x H1=>∃c,x=.bl c∧Q (.bl (!c)) H1):f6z t σ H Q:=h
theorem f8i {c:TT} {ta tb:TE} (h:c σ H fun b H1=>if b=true then ta σ H1 Q else tb σ H1 Q):tIf c ta tb σ H Q:=h
theorem f7s (h:QB true H):tYes σ H QB:=h
theorem f8c (h:QA [] H):f3f σ H QA:=h
theorem f4p {ta:TE} {tr:TA} (h:ta σ H fun x H1=>tr σ H1 fun xs H2=>QA (x :: xs) H2):c9b ta tr σ H QA:=h
theorem f4r {sp:Sp} {E:XK} {t:TA} (h:t σ H fun vs H1=>sp vs H1 Q E):f7d sp [] E t σ H Q:=by
 have e:(fun vs H1=>sp (vs++[]) H1 Q E)=fun vs H1=>sp vs H1 Q E:=by funext vs H1;rw[c3x]
 show t σ H fun vs H1=>sp (vs++[]) H1 Q E
 rw[e];exact h
theorem g1k {r:List V->Hp->VK->Prop} {t:TA} (h:t σ H fun vs H1=>r vs H1 Q):tCB r t σ H Q:=h
theorem f8f {K:PySem.W.Frag} {p:Addr} {xs:List V} {i:Int} {v:V} (hx:SqT K H p xs) (e:atI xs i=some v) (h:Q v H):g1o K (.ref p) (.int i) H Q:=⟨p,xs,i,v,rfl,rfl,hx,e,h⟩
theorem a4b {K:PySem.W.Frag} {p:Addr} {xs:List V} {i:Int} (hx:SqL K H p xs) {v:V} (e:atI xs i=some v) (h:Q v H):g1p K (.ref p) (.int i) H Q:=⟨p,xs,i,v,rfl,rfl,hx,e,h⟩
theorem f4n {K:PySem.W.Frag} {p:Addr} {xs:List V} {i:Int} (hx:SqL K H p xs) {v:V} (e:atI xs i=some v) (h:Q v H):f8q K (.ref p) (.int i) H Q:=⟨p,xs,i,v,rfl,rfl,hx,e,h⟩
theorem a6q {QH:Hp->Prop} {p:Addr} {xs:List V} {i:Int} {v:V} {j:Nat} {ys:List V} (hx:H p=some (.lst xs)) (e:ixN xs.length i=some j) (ey:xs.set j v=ys) (h:QH (upd H p (.lst ys))):f8p (.ref p) (.int i) v H QH:=⟨p,xs,i,j,rfl,rfl,hx,e,by rw[ey];exact h⟩
theorem f4l {to ti:TE} {t:f6f} {v:V} {QS:St->Hp->Prop} (h:to σ H fun o H1=>ti σ H1 fun i H2=>t o i v H2 fun H3=>QS σ H3):gSub to ti t v σ H QS:=h
theorem f0k {t:TG} {u:TGs} {v:V} {r:List V} {QS:St->Hp->Prop} (h:t v σ H fun σ' H'=>u r σ' H' QS):f9y t u (v :: r) σ H QS:=⟨v,r,rfl,h⟩
theorem f4m {QS:St->Hp->Prop} (h:QS σ H):gNil [] σ H QS:=⟨rfl,h⟩
theorem f4k {K:PySem.W.Frag} {n:Nat} {t:TGs} {a:Addr} {xs:List V} {QS:St->Hp->Prop} (hx:SqT K H a xs) (hl:xs.length=n) (h:t xs σ H QS):g1x K n t (.ref a) σ H QS:=⟨a,xs,rfl,hx,hl,h⟩
theorem g1h {r:V->Option Int->Option Int->Hp->VK->Prop} {te:TE} {tl th:TO} (h:te σ H fun x H1=>tl σ H1 fun l H2=>th σ H2 fun u H3=>r x l u H3 Q):tSl r te tl th σ H Q:=h
theorem e6a {QO:Option Int->Hp->Prop} (h:QO none H):e4r σ H QO:=h
theorem f4d {t:TE} {QO:Option Int->Hp->Prop} (h:t σ H fun x H1=>∃i,x=.int i∧QO (some i) H1):f6y t σ H QO:=h
variable {R:It->Hp->Prop} {K:PySem.W.Frag}
theorem f0h {tl:TE} (h:tl σ H fun x H1=>∃a,x=.ref a∧(∃xs,SqL K H1 a xs)∧R (Itl K a) H1):f5m K tl σ H R:=h
theorem f4j {tl:TE} (h:tl σ H fun x H1=>∃a,x=.ref a∧(∃xs,SqT K H1 a xs)∧R (Itt K a) H1):iTup K tl σ H R:=h
theorem f0g {ta:TA} (h:ta σ H fun vs H1=>∃j:Int,vs=[.int j]∧-(2^62)<=j∧j < 2^62∧R (Itr 0 j.toNat) H1):f9t ta σ H R:=h
theorem f0f {ta:TA} (h:ta σ H fun vs H1=>∃i j:Int,vs=[.int i,.int j]∧(-(2^62)<=i∧i < 2^62∧-(2^62)<=j∧j < 2^62)∧R (Itr i (j - i).toNat) H1):f9s ta σ H R:=h
theorem f4q {wi:TI} {k:Nat} {cap:List Nat} {g:TG} {tf:TT} {te:TE} {σ₀:St} (e:st0 k cap σ=σ₀) (h:wi σ H fun J H1=>d1q J σ₀ g tf te Q H1):e4s wi k cap g tf te σ H Q:=by
 unfold e4s;rw[e];exact h
theorem f4a {g:TG} {tf:TT} {te:TE} {x:V} {NY:V->Hp->Prop} {NN:Hp->Prop} (h:g x σ H fun σ2 H2=>tf σ2 H2 fun b H3=>if b=true then te σ2 H3 NY else NN H3):d1b σ g tf te x H NY NN:=h
theorem g1l {T:String} {r:V->List V->Hp->VK->Prop} {to:TE} {t:TA} (h:to σ H fun x H1=>tyV K T x H1∧t σ H1 fun xs H2=>r x xs H2 Q):tBM K T r to t σ H Q:=h
def NewT (Q:VK) (xs:List V) (H:Hp):Prop:=xs.length<=sizeLine∧∀p,H p=none->Q (.ref p) (upd H p (.tup xs))
def NewL (Q:VK) (xs:List V) (H:Hp):Prop:=xs.length<=sizeLine∧∀p,H p=none->Q (.ref p) (upd H p (.lst xs))
theorem f7v {t:TA} (h:t σ H (NewT Q)):tTup t σ H Q:=h
theorem f8e {t:TA} (h:t σ H (NewL Q)):tLst t σ H Q:=h
theorem b2g {n:Nat} (h:Nat.ble n 1000=true):n<=sizeLine:=a1j (a2f (Nat.le_of_ble_eq_true h))
theorem a3l {xs:List V} (h:∀p H',a1w H H'->H' p=some (.tup xs)->Q (.ref p) H') (hl:Nat.ble xs.length 1000=true:=by rfl):NewT Q xs H :=
 ⟨b2g hl,fun p hp=>h p _ (a1w.new hp) a0y⟩
theorem a6r {xs:List V} (h:∀p H',a1w H H'->H p=none->H' p=some (.lst xs)->Q (.ref p) H') (hl:Nat.ble xs.length 1000=true:=by rfl):NewL Q xs H :=
 ⟨b2g hl,fun p hp=>h p _ (a1w.new hp) hp a0y⟩
theorem g1s {A B:Prop} (h:B):if (!true)=true then A else B:=g0u h
theorem g1t {A B:Prop} (h:A):if (!false)=true then A else B:=iteT h
def WB (tb:TS) (D:Ends) (Pv:St->Hp->Prop) (μ:St->Hp->Nat) (n:Nat) (σ:St) (H:Hp):Prop:=∃N:St->Hp->Prop,(∀σ' H',N σ' H'->∃m',m' < n∧(m'=μ σ' H'∧Pv σ' H'))∧tb { D with nx:=N,ct:=N,bk:=D.nx } σ H
theorem f7t {tb:TS} {Pv:St->Hp->Prop} {μ:St->Hp->Nat} {n:Nat} (h:tb { D with nx:=fun σ' H'=>Pv σ' H'∧μ σ' H' < n,ct:=fun σ' H'=>Pv σ' H'∧μ σ' H' < n,bk:=D.nx } σ H):WB tb D Pv μ n σ H :=
 ⟨_,fun σ' H' ⟨p,l⟩=>⟨_,l,rfl,p⟩,h⟩
theorem d8m {c:TT} {tb:TS} (Pv:St->Hp->Prop) (μ:St->Hp->Nat) (h0:Pv σ H) (hs:∀σ H,Pv σ H->c σ H fun b H1=>if b=true then WB tb D Pv μ (μ σ H) σ H1 else D.nx σ H1):f2b c tb D σ H:=by
 refine ⟨fun m σ H=>m=μ σ H∧Pv σ H,⟨_,rfl,h0⟩,?_⟩
 rintro m σ H ⟨rfl,p⟩
 exact hs σ H p
end
end L2
namespace L2
open PySem PySem.Spec PyProof.Rows Nm
def Bag (H:Hp) (p:Addr):Prop:=∃(q:Addr) (a b c:Int) (cs:List Int),H p=some (.lst [.int a,.int b,.int c,.ref q])∧H q=some (.lst (cs.map V.int))∧0<=a∧0<=c∧c<=(cs.length:Int)∧∀x∈cs,(0:Int)<=x
theorem e8j {H:Hp} {p q:Addr} {a b c:Int} {cs:List Int} (hp:H p=some (.lst [.int a,.int b,.int c,.ref q])) (hq:H q=some (.lst (cs.map V.int))):q≠p:=fun e=>by
 rw[e,hp] at hq
 have h:=HO.lst.inj (a2v hq)
 cases cs with
 | nil=>cases h
 | cons x1 cs=>cases cs with
  | nil=>cases h
  | cons x2 cs=>cases cs with
   | nil=>cases h
   | cons x3 cs=>cases cs with
    | nil=>cases h
    | cons x4 cs=>simp at h
theorem Bag.same {H H':Hp} {p:Addr} (h:Bag H p) (e:a1w H H'):Bag H' p:=let ⟨q,a,b,c,cs,h1,h2,r⟩:=h;⟨q,a,b,c,cs,e _ _ h1,e _ _ h2,r⟩
theorem a7g.tup {H H':Hp} {p r:Addr} {xs:List V} (u:a7g p H H') (B:Bag H p) (h:H r=some (.tup xs)):H' r=some (.tup xs):=by
 obtain ⟨q,a,b,c,cs,h1,_⟩:=B
 exact u.1 r _ h fun e=>by rw[e,h1] at h;cases h
theorem a7g.other {H H':Hp} {p r:Addr} {o:HO} (u:a7g p H H') (n:r≠p) (h:H r=some o):H' r=some o:=u.1 r _ h n
theorem Bag.inner {H:Hp} {p:Addr} (h:Bag H p):∃q,Inner H p q∧∃xs,H q=some (.lst xs):=let ⟨q,a,b,c,cs,h1,h2,_⟩:=h;⟨q,⟨a,b,c,h1⟩,_,h2⟩
theorem Bag.upd {H:Hp} {p q r:Addr} {o:HO} (h:Bag H p) (hi:Inner H p q) (n1:r≠p) (n2:r≠q):Bag (L2.upd H r o) p:=by
 obtain ⟨q',a,b,c,cs,h1,h2,z⟩:=h
 have e:q'=q:=Inner.inj ⟨a,b,c,h1⟩ hi
 subst e
 exact ⟨q',a,b,c,cs,by rw[a2d n1.symm];exact h1,by rw[a2d n2.symm];exact h2,z⟩
theorem Inner.upd {H:Hp} {p q r:Addr} {o:HO} (hi:Inner H p q) (n1:r≠p):Inner (L2.upd H r o) p q:=let ⟨a,b,c,h⟩:=hi;⟨a,b,c,by rw[a2d n1.symm];exact h⟩
def f3j:Sp:=fun vs H Q _=>∃p n,vs=[.ref p,.int n]∧Bag H p∧0 < n∧n < 2^64∧∀v H',0<=v->v < n->Bag H' p->a7g p H H'->Q (.int v) H'
def f7n (K:PySem.W.Frag):Sp:=fun vs H Q _=>∃(a:Addr) (ns:List Int),vs=[.ref a]∧SqL K H a (ns.map V.int)∧ns.length<=63∧∀p H',H p=none->Bag H' p->a1w H H'->Q (.ref p) H'
def sp_law (K:PySem.W.Frag):Sp:=fun vs H Q _=>∃(a:Addr) (ns:List Int),vs=[.ref a]∧SqL K H a (ns.map V.int)∧ns.length<=63∧∀H',Q (.bl true) H'
def f7j:Sp:=fun vs H Q _=>∃t b,vs=[.int t,.int b]∧0 < b∧Sz 8999 b∧∀r H',a1w H H'->H' r=some (.tup [.int (lo t b),.int (hi t b)])->Q (.ref r) H'
def g1c:Sp:=fun vs H Q _=>∃a b,vs=[.int a,.int b]∧Q (.int (g a b)) H
def e5k:Sp:=fun vs H Q _=>∃t b,vs=[.int t,.int b]∧b≠0∧Sz 8999 b∧∀r H',a1w H H'->H' r=some (.tup [.int (lo (if b < 0 then -t else t) (if b < 0 then -b else b)),.int (hi (if b < 0 then -t else t) (if b < 0 then -b else b))])->Q (.ref r) H'
def g0b (a b c d:Int):Int:=a*d+c*b
def f2q (a b c d:Int):Int:=a*d - c*b
def f2p (a _b c _d:Int):Int:=a*c
def e9x (K:PySem.W.Frag) (f:Int->Int->Int->Int->Int):Sp:=fun vs H Q _=>∃p q a b c d,vs=[.ref p,.ref q]∧SqT K H p [.int a,.int b]∧SqT K H q [.int c,.int d]∧0 < b∧0 < d∧Sz 4000 a∧Sz 4000 b∧Sz 4000 c∧Sz 4000 d ∧
 ∀r H',a1w H H'->H' r=some (.tup [.int (lo (f a b c d) (b*d)),.int (hi (f a b c d) (b*d))])->Q (.ref r) H'
theorem a2t {α β:Type} {F:α->β->Prop}:∀{l1 l1':List α} {l2 l2':List β},Paired F l1 l2->Paired F l1' l2'->Paired F (l1++l1') (l2++l2')
 | _,_,_,_,.nil,h=>h
 | _,_,_,_,.cons r t,h=>.cons r (a2t t h)
end L2
namespace L2
open PySem PySem.Spec PyProof.Rows Nm
theorem a4z {h:Heap} {a b:Addr} {o u:Obj} (ha:h.get? a=some o) (hb:h.get? b=some u) (hc:o.cls≠u.cls):a≠b:=fun e=>by
 subst e
 rw[ha] at hb
 cases hb
 exact hc rfl
theorem c2v {a b:String} (h:a≠b):Value.type a≠Value.type b:=fun e=>h (by injection e)
theorem d5v {h:Heap} {z TI TO i1 i2 l1 l2:Addr} {f0 a b:Value} {k1 k2:Nat} {xs ys:Array Value} (hz:IsZip h z TI TO f0) (hTI:IsPair h TI (.ref i1) (.ref i2)) (hTO:IsPair h TO a b)
  (h1:h.IsListIter i1 l1 k1) (h2:h.IsListIter i2 l2 k2) (hl1:h.IsList l1 xs) (hl2:h.IsList l2 ys) (hT:TI≠TO) (hi:i1≠i2):ZipApart z TI TO i1 i2 l1 l2:=by
 obtain ⟨o1,g1,c1,_⟩:=h1
 obtain ⟨o2,g2,c2,_⟩:=h2
 obtain ⟨p1,q1,d1,_⟩:=hl1
 obtain ⟨p2,q2,d2,_⟩:=hl2
 refine ⟨a4z hTI hz ?_,a4z hTO hz ?_,a4z g1 hz ?_,a4z g2 hz ?_,hT,a4z hTI g1 ?_,a4z hTI g2 ?_,a4z hTO g1 ?_,a4z hTO g2 ?_,hi,a4z q1 hz ?_,a4z q1 hTO ?_,a4z q1 g1 ?_,a4z q1 g2 ?_,a4z q2 hz ?_,a4z q2 hTO ?_,a4z q2 g1 ?_,a4z q2 g2 ?_⟩
 all_goals first
  | (rw[d1];first | (rw[c1];exact c2v (by decide)) | (rw[c2];exact c2v (by decide)) | exact c2v (by decide))
  | (rw[d2];first | (rw[c1];exact c2v (by decide)) | (rw[c2];exact c2v (by decide)) | exact c2v (by decide))
  | (rw[c1];exact c2v (by decide))
  | (rw[c2];exact c2v (by decide))
  | exact c2v (by decide)
def Itz (K : PySem.W.Frag) (l1 l2 : Addr) : It :=
  ⟨fun i H => ∃ xs ys x y, SqL K H l1 xs ∧ SqL K H l2 ys ∧ xs[i]? = some x ∧ ys[i]? = some y,
   fun i H v H' => ∃ p x y, v = .ref p ∧ H p = none ∧ H' = upd H p (.tup [x, y]) ∧ (∀ xs, SqL K H l1 xs → xs[i]? = some x) ∧ ∀ ys, SqL K H l2 ys → ys[i]? = some y,
   fun i H => ∃ xs ys, SqL K H l1 xs ∧ SqL K H l2 ys ∧ (xs.length ≤ i ∨ ys.length ≤ i)⟩
def tnZ (z TI TO i1 i2 l1 l2:Addr) (i:Nat) (h:Heap):Prop:=IsZip h z TI TO .none∧IsPair h TI (.ref i1) (.ref i2)∧(∃a b,IsPair h TO a b)∧h.IsListIter i1 l1 i∧h.IsListIter i2 l2 i
theorem e9e {P:Program} {w:World} {K:PySem.W.Frag} {elts:List Expr} {kk:Nat} {tpos:Pos} (z TI TO i1 i2 l1 l2:Addr) (hT:TI≠TO) (hi:i1≠i2):Turn P w K (.Tuple elts kk tpos) (Itz K l1 l2) [z,TI,TO,i1,i2] z (tnZ z TI TO i1 i2 l1 l2) where
 mem:=by simp
 obj:=fun i h st b hb=>by
  obtain ⟨hz,hTI,⟨a,c,hTO⟩,⟨o1,g1,c1,d1⟩,⟨o2,g2,c2,d2⟩⟩:=st
  simp only[a0u,a1k,or_false] at hb
  rcases hb with rfl | rfl | rfl | rfl | rfl
  ·exact ⟨_,hz,fun v q=>nomatch q⟩
  ·exact ⟨_,hTI,fun v q=>nomatch q⟩
  ·exact ⟨_,hTO,fun v q=>nomatch q⟩
  ·exact ⟨o1,g1,fun v q=>by rw[d1] at q;cases q⟩
  ·exact ⟨o2,g2,fun v q=>by rw[d2] at q;cases q⟩
 keep:=fun i h h' st k=>by
  obtain ⟨hz,hTI,⟨a,c,hTO⟩,h1,h2⟩:=st
  exact ⟨k z (by simp) _ hz,k TI (by simp) _ hTI,⟨a,c,k TO (by simp) _ hTO⟩,h1.at fun o e=>k i1 (by simp) o e,h2.at fun o e=>k i2 (by simp) o e⟩
 item:=by
  intro X hP hw hK hc i pins s σ H E I hf st hg
  subst hP hw hK
  obtain ⟨hz,hTI,⟨a,c,hTO⟩,h1,h2⟩:=st
  obtain ⟨xs,ys,x,y,qx,qy,ex,ey⟩:=hg
  obtain ⟨us,rx,px,_⟩:=I.list qx
  obtain ⟨ws,ry,py,_⟩:=I.list qy
  obtain ⟨u,eu,ru⟩:=rx.get ex
  obtain ⟨v,ev,rv⟩:=ry.get ey
  have D:=d5v hz hTI hTO h1 h2 px.isList py.isList hT hi
  refine wpAny_pyNext_zip_item D hz hTI hTO h1 h2 px.isList py.isList (x:=u) (y:=v) (by simpa using eu) (by simpa using ev) fun h' a1 a2 a3 a4 a5 a6 hk=>?_
  refine ⟨_,rfl,wpAny_letOwnedTupleGo_zip a1 fun h'' hz'' hs=>?_⟩
  have hT0:H s.heap.objs.size=none:=I.hok.fresh (a0h _)
  have zne:s.heap.objs.size≠z:=f1y (Heap.lt_size hz)
  have up:∀b o,b∉[z,TO,i1,i2]->s.heap.get? b=some o->h''.get? b=some o:=fun b o hb e=>by
   simp only[a0u,a1k,or_false,not_or] at hb
   exact (hs.2 b hb.1).trans (hk b o hb.1 hb.2.1 hb.2.2.1 hb.2.2.2 e)
  have fx:∀b∈[z,TO,i1,i2],c7e X pins H b:=fun b hb=>hf b (by
   simp only[a0u,a1k,or_false] at hb ⊢
   rcases hb with rfl | rfl | rfl | rfl <;> simp)
  have nx:∀b o,H b=some o->b∉[z,TO,i1,i2]:=fun b o e hb=>by
   have:=(fx b hb).1
   rw[this] at e;cases e
  have nT:∀{b:Addr} {o:HO},H b=some o->b≠s.heap.objs.size:=fun e q=>by rw[q,hT0] at e;cases e
  have tup:h''.get? s.heap.objs.size=some { cls:=.type "tuple",data:=.seq #[u,v] }:=(hs.2 _ zne).trans a5
  have I2:Inv X pins σ (upd H s.heap.objs.size (.tup [x,y])) { s with heap:=h'' }:=by
   refine I.step (g':=s.gens) (d':=s.drawn) (t':=s.toks) (ch:=[z,TO,i1,i2]) (fun b hb=>?_) (fun b o _ _ hb e _=>up b o hb e) (fun b o _ _ hb e _=>⟨o.slots,up b o hb e⟩) (fun b o hb e n=>?_)
    (fun b o hb e=>⟨o,up b o hb e⟩) (fun b q e=>by rw[a2d (nT e)];exact e) (fun b o q e=>by rw[a2d (nT e)];exact e) (fun b q e=>⟨#[],by rw[a2d (nT e),e];simp⟩) (fun m hm=>?_) (fun b o e=>?_) I.bare
   ·obtain ⟨_,f1,_,f3,f4,f5⟩:=fx b hb
    exact ⟨f3,f1,f4,f5⟩
   ·rw[a2d (a2q (Heap.lt_size e))];exact n
   ·obtain ⟨o,es,ep,ho,r⟩:=hm
    exact ⟨o,es,ep,up _ o (fun z=>(fx _ z).2.1 rfl) ho,r⟩
   ·by_cases hb:b=s.heap.objs.size
    ·subst hb
     rw[a0y] at e
     cases e
     exact ⟨b2g rfl,[u,v],.cons ru (.cons rv .nil),⟨_,tup,rfl,_,rfl⟩⟩
    ·rw[a2d hb] at e
     refine (I.hok b o e).stay (fun c v' hc q=>up c v' ?_ q) (fun c q=>by rw[a2d (nT q)];exact q) fun c xs q=>by rw[a2d (nT q)];exact q
     rcases hc with rfl | hc
     ·exact nx _ _ e
     ·exact nx _ _ hc
  refine ⟨.ref s.heap.objs.size,_,I2,rfl,⟨_,x,y,rfl,hT0,rfl,fun xs' q=>by rw[I.list_inj q qx];exact ex,fun ys' q=>by rw[I.list_inj q qy];exact ey⟩,?_,fun b hb=>?_⟩
  ·refine ⟨hz'',(hs.2 _ D.TIz).trans (hk _ _ D.TIz D.TITO D.TIi1 D.TIi2 hTI),⟨_,_,(hs.2 _ D.TOz).trans a2⟩,a3.at fun o e=>(hs.2 _ D.i1z).trans e,a4.at fun o e=>(hs.2 _ D.i2z).trans e⟩
  ·obtain ⟨o,e,_⟩:∃o,s.heap.get? b=some o∧True:=by
    obtain ⟨o1,g1,_⟩:=h1
    obtain ⟨o2,g2,_⟩:=h2
    simp only[a0u,a1k,or_false] at hb
    rcases hb with rfl | rfl | rfl | rfl | rfl
    ·exact ⟨_,hz,trivial⟩
    ·exact ⟨_,hTI,trivial⟩
    ·exact ⟨_,hTO,trivial⟩
    ·exact ⟨_,g1,trivial⟩
    ·exact ⟨_,g2,trivial⟩
   rw[a2d (a2q (Heap.lt_size e))]
   exact (hf b hb).1
 done:=by
  intro X hP hw hK hc i pins s σ H E I hf st hg
  subst hP hw hK
  obtain ⟨hz,hTI,⟨a,c,hTO⟩,h1,h2⟩:=st
  obtain ⟨xs,ys,qx,qy,hend⟩:=hg
  obtain ⟨us,rx,px,_⟩:=I.list qx
  obtain ⟨ws,ry,py,_⟩:=I.list qy
  have lx:=rx.length
  have ly:=ry.length
  have D:=d5v hz hTI hTO h1 h2 px.isList py.isList hT hi
  refine wpAny_pyNext_zip_end (I.ok.hd hc) D hz hTI hTO h1 h2 px.isList py.isList (by
   rcases hend with q | q
   ·exact .inl (by simp;omega)
   ·exact .inr (by simp;omega)) fun h' hk=>⟨rfl,?_⟩
  have up:∀b o,b∉[z,TO,i1,i2]->s.heap.get? b=some o->h'.get? b=some o:=fun b o hb e=>by
   simp only[a0u,a1k,or_false,not_or] at hb
   exact hk b o hb.1 hb.2.1 hb.2.2.1 hb.2.2.2 e
  have fx:∀b∈[z,TO,i1,i2],c7e X pins H b:=fun b hb=>hf b (by
   simp only[a0u,a1k,or_false] at hb ⊢
   rcases hb with rfl | rfl | rfl | rfl <;> simp)
  have nx:∀b o,H b=some o->b∉[z,TO,i1,i2]:=fun b o e hb=>by
   have:=(fx b hb).1
   rw[this] at e;cases e
  refine I.step (g':=s.gens) (d':=s.drawn) (t':=s.toks) (ch:=[z,TO,i1,i2]) (fun b hb=>?_) (fun b o _ _ hb e _=>up b o hb e) (fun b o _ _ hb e _=>⟨o.slots,up b o hb e⟩) (fun b o hb e n=>n)
   (fun b o hb e=>⟨o,up b o hb e⟩) (fun b q e=>e) (fun b o q e=>e) (fun b q e=>⟨#[],by rw[e];simp⟩) (fun m hm=>?_) (fun b o e=>?_) I.bare
  ·obtain ⟨_,f1,_,f3,f4,f5⟩:=fx b hb
   exact ⟨f3,f1,f4,f5⟩
  ·obtain ⟨o,es,ep,ho,r⟩:=hm
   exact ⟨o,es,ep,up _ o (fun z=>(fx _ z).2.1 rfl) ho,r⟩
  ·refine (I.hok b o e).stay (fun c v' hc q=>up c v' ?_ q) (fun c q=>q) fun c xs q=>q
   rcases hc with rfl | hc
   ·exact nx _ _ e
   ·exact nx _ _ hc
 self:=fun _ _ _ _ _ st h=>wpAny_pyIter_zip st.1 h
section
variable {X:Cx}
def g1u (K:PySem.W.Frag) (ta:TA):TI:=fun σ H R=>ta σ H fun vs H1=>∃l1 l2,vs=[.ref l1,.ref l2]∧(∃xs,SqL K H1 l1 xs)∧(∃ys,SqL K H1 l2 ys)∧R (Itz K l1 l2) H1
theorem c2z {a b:Expr} {ta:TA} {p pos tpos:Pos} {elts:List Expr} {kk:Nat} (hg:Gl X "zip") (hm:X.mg "zip"=none) (ha:PA X [a,b] ta) (hs:starEach [a,b] X.env=[(false,eval a X.env),(false,eval b X.env)]:=by rfl) (hs2:starEach [b] X.env=[(false,eval b X.env)]:=by rfl) :
  PI X (.Tuple elts kk tpos) (.Call (.Name "zip" p) [a,b] [] pos) (g1u X.K ta):=by
 intro pins s σ H R I h
 refine Call_ (b7e I hg hm boot_zip (PyProof.Rows.callWith_type1 (thn (ha pos pins s σ H _ I h) fun us s1 ⟨vs,H1,I1,r1,q1⟩=>?_) (by rw[hs,hs2]) (by rw[hs2];rfl)))
 obtain ⟨l1,l2,e,⟨xs,qx⟩,⟨ys,qy⟩,q⟩:=q1
 subst e
 obtain ⟨u,v,rfl,ru,rv⟩:=vals2 r1
 cases ru
 cases rv
 obtain ⟨us,rx,px,_⟩:=I1.list qx
 obtain ⟨ws,ry,py,_⟩:=I1.list qy
 refine call_zip_2 px.isList py.isList fun h' a1 a2 a3 a4 a5 a6 hk=>wpAny_pyIter_zip a1 ?_
 have I2:Inv X pins σ H1 { s1 with heap:=h' }:=I1.kept (t':=s1.toks) hk
 refine ⟨_,[s1.heap.objs.size+4,s1.heap.objs.size+2,s1.heap.objs.size+3,s1.heap.objs.size,s1.heap.objs.size+1],_,_,H1,rfl,I2,e9e (s1.heap.objs.size+4) (s1.heap.objs.size+2) (s1.heap.objs.size+3) s1.heap.objs.size (s1.heap.objs.size+1) l1 l2 (a2q (a9n _)) (a2q (a9n _)),⟨a1,a2,⟨_,_,a3⟩,a4,a5⟩,fun b hb=>?_,q⟩
 have hb':s1.heap.objs.size<=b:=by
  simp only[a0u,a1k,or_false] at hb
  rcases hb with rfl | rfl | rfl | rfl | rfl <;> first | exact d1s _ _ | exact a0h _
 exact I1.fpOk hb' (I1.hok.fresh hb')
theorem d4x (hc:X.calm=true):d0v X (.builtin "all") (fun xs H Q=>∃(p:Addr) (bs:List Bool),xs=[.ref p]∧SqL X.K H p (bs.map V.bl)∧Q (.bl (bs.all id)) H):=by
 intro pins s σ H xs us Q I r h
 obtain ⟨p,bs,rfl,hp,q⟩:=h
 obtain ⟨u,rfl,ru⟩:=vals1 r
 cases ru
 obtain ⟨vs,rv,pl,hz⟩:=I.list hp
 have hb:PyProof.Rows.LSm.BoolsAre vs bs:=by
  clear q hp pl hz
  induction bs generalizing vs with
  | nil=>cases rv;exact .nil
  | cons b bs ih =>
   rw[a6y] at rv
   cases rv with
   | cons r1 r2=>cases r1;exact .cons b (ih _ r2)
 have hlt:p < s.heap.objs.size:=by obtain ⟨_,e,_⟩:=pl.isList;exact Heap.lt_size e
 refine call_all_walk (wpAny_pyIter_list pl.isList ?_)
 refine ⟨s.heap.objs.size,[s.heap.objs.size,p],[s.heap.objs.size],vs.toArray.size,_,_,fun i=>(bs[i]?).getD true,rfl,Walks.list (A:=X.A.in1) (I.ok.hd hc) _ p (a2q hlt) vs.toArray,
  ⟨⟨_,Heap.get?_push_size _ rfl,rfl,rfl⟩,pl.isList.push _⟩,fun i v s' Q' E' hP hQ=>?_,fun h' tk hk=>?_⟩
 ·obtain ⟨b,e,rfl⟩:=hb.get i v (by simpa using hP)
  simp only[e,Option.getD_some] at hQ
  exact wpAny_truthy_bool hQ
 ·have e:((List.range vs.toArray.size).all fun i=>(bs[i]?).getD true)=bs.all id:=by
   rw[a1a,hb.length];exact PyProof.Rows.LSm.range_all bs
  rw[e]
  exact ⟨.bl _,H,I.kept (t':=tk) (PyProof.Rows.LSm.kept_iter hk),rfl,q⟩
theorem f1q (hc:X.calm=true):d0v X (.builtin "sum") (fun xs H Q=>∃(p:Addr) (ns:List Int),xs=[.ref p]∧SqL X.K H p (ns.map V.int)∧Q (.int ns.sum) H):=by
 intro pins s σ H xs us Q I r h
 obtain ⟨p,ns,rfl,hp,q⟩:=h
 obtain ⟨u,rfl,ru⟩:=vals1 r
 cases ru
 obtain ⟨vs,rv,pl,_⟩:=I.list hp
 have hi:IntsAre vs ns:=intsAre_of rv
 obtain ⟨xs,hx⟩:=hi.allInts.items
 have hl':s.heap.IsList p (intItems xs):=hx ▸ pl.isList
 refine sum_intListG (I.ok.hd hc) hl' fun h' tk t' hk=>?_
 have e1:ns=xs.toList.map (·.1):=by
  rw[← nums_intItems,← hx]
  exact (show numsOf vs.toArray.toList=ns from hi.numsOf).symm
 have e2:preSum (numAt xs) xs.size=ns.sum:=by
  rw[preSum_eq,a0r (by simp),e1]
 rw[e2]
 exact ⟨.int _,H,I.kept (t':=tk) hk,⟨_,rfl⟩,q⟩
end
section
variable {K:PySem.W.Frag} {l1 l2:Addr} {xs ws:List V} {g:TG} {tf:TT} {te:TE} {Q:VK} {σ₀:St} {H:Hp}
theorem c5i (Pv:Nat->List V->Hp->Prop) (hz:xs.length<=sizeLine) (hw:ws.length=xs.length) (h0:Pv 0 [] H) (hl:∀i ys H,i<=xs.length->Pv i ys H->SqL K H l1 xs∧SqL K H l2 ws)
  (hs:∀i x y ys H p,xs[i]?=some x->ws[i]?=some y->ys.length<=i->Pv i ys H->H p=none->d1b σ₀ g tf te (.ref p) (upd H p (.tup [x,y])) (fun y H'=>Pv (i+1) (ys++[y]) H') (fun H'=>Pv (i+1) ys H'))
  (hd:∀ys H,ys.length<=xs.length->Pv xs.length ys H->∀p,H p=none->Q (.ref p) (upd H p (.lst ys))):d1q (Itz K l1 l2) σ₀ g tf te Q H:=by
 refine ⟨fun i m ys H=>m=xs.length - i∧i<=xs.length∧ys.length<=i∧Pv i ys H,⟨xs.length,by simp,a1f _,a1f _,h0⟩,?_⟩
 rintro i m ys H ⟨rfl,hi,hy,p⟩
 obtain ⟨q1,q2⟩:=hl i ys H hi p
 by_cases hlt:i < xs.length
 ·refine .inr ⟨⟨xs,ws,xs[i],ws[i]'(by omega),q1,q2,by simp [hlt],by simp⟩,by omega,fun y H'=>Pv (i+1) (ys++[y]) H',fun H'=>Pv (i+1) ys H',fun y H' p'=>⟨xs.length - (i+1),by omega,rfl,hlt,by rw[a0i,a1q];omega,p'⟩,fun H' p'=>⟨xs.length - (i+1),by omega,rfl,hlt,by omega,p'⟩,fun x H' y=>?_⟩
  obtain ⟨r,x',y',rfl,hr,rfl,e1,e2⟩:=y
  exact hs i x' y' ys _ r (e1 xs q1) (e2 ws q2) hy p hr
 ·have e:i=xs.length:=by omega
  subst e
  exact .inl ⟨⟨xs,ws,q1,q2,.inl (a0h _)⟩,by omega,hd ys H hy p⟩
theorem e7x {tb:TS} {D:Ends} {σ:St} (Pv:Nat->St->Hp->Prop) (hw:ws.length=xs.length) (h0:Pv 0 σ H) (hl:∀i σ H,i<=xs.length->Pv i σ H->SqL K H l1 xs∧SqL K H l2 ws)
  (hs:∀i x y σ H p,xs[i]?=some x->ws[i]?=some y->Pv i σ H->H p=none->g (.ref p) σ (upd H p (.tup [x,y])) fun σ2 H2=>tb { D with nx:=Pv (i+1),ct:=Pv (i+1),bk:=D.nx } σ2 H2) (hd:∀σ H,Pv xs.length σ H->D.nx σ H) :
  ∃W:Nat->Nat->St->Hp->Prop,(∃m,W 0 m σ H)∧∀i m σ H,W i m σ H →
   ((Itz K l1 l2).stop i H∧D.nx σ H)∨((Itz K l1 l2).go i H∧∃N:St->Hp->Prop,(∀σ' H',N σ' H'->∃m',m' < m∧W (i+1) m' σ' H')∧∀x H',(Itz K l1 l2).yld i H x H'->g x σ H' fun σ2 H2=>tb { D with nx:=N,ct:=N,bk:=D.nx } σ2 H2):=by
 refine ⟨fun i m σ H=>m=xs.length - i∧i<=xs.length∧Pv i σ H,⟨xs.length,by simp,a1f _,h0⟩,?_⟩
 rintro i m σ H ⟨rfl,hi,p⟩
 obtain ⟨q1,q2⟩:=hl i σ H hi p
 by_cases hlt:i < xs.length
 ·refine .inr ⟨⟨xs,ws,xs[i],ws[i]'(by omega),q1,q2,by simp [hlt],by simp⟩,Pv (i+1),fun σ' H' p'=>⟨xs.length - (i+1),by omega,rfl,hlt,p'⟩,fun x H' y=>?_⟩
  obtain ⟨r,x',y',rfl,hr,rfl,e1,e2⟩:=y
  exact hs i x' y' σ _ r (e1 xs q1) (e2 ws q2) p hr
 ·have e:i=xs.length:=by omega
  subst e
  exact .inl ⟨⟨xs,ws,q1,q2,.inl (a0h _)⟩,hd σ H p⟩
end
section
variable {X:Cx}
theorem c3a (K:PySem.W.Frag) (n:Nat) {es:List Expr} {k:Nat} {pos:Pos} {t:TGs} (h:PGs X es t) (hK:X.K=K:=by rfl) (hc:X.calm=true:=by rfl)
  (hn:(assignEach es X.env).length=n:=by rfl) (hst:(assignEach es X.env).findIdx? (·.1)=none:=by rfl):PG X (.Tuple es k pos) (g1x K n t):=by subst hK;exact c9j hc h hn hst
theorem d9o (K:PySem.W.Frag) (hK:X.K=K):IxR X (g1o K):=by subst hK;exact a4a
theorem b7s (K:PySem.W.Frag) (hK:X.K=K):IxR X (g1p K):=by subst hK;exact a3a
theorem f5b (K:PySem.W.Frag) (hK:X.K=K) (hu:X.A.units+50 < cLine):OpR X (compareOp .NotEq) (rNeD K):=by subst hK;exact e1a hu
theorem e0x (K:PySem.W.Frag) {tg l:Expr} {tl:TE} (hl:PE X l tl) (hK:X.K=K:=by rfl):PI X tg l (f5m K tl):=by subst hK;exact a4c hl
theorem e9z (K:PySem.W.Frag) (hK:X.K=K):SlR X (g1n K):=by subst hK;exact d8t
end
theorem a4f {X:Cx} {e e':Expr} {es:List Expr} {te:TE} {t:TA} (h:e=e') (ha:PE X e' te) (hr:PA X es t) (hs:∀l,starEach (e' :: l) X.env=(false,eval e' X.env) :: starEach l X.env:=by intro _;rfl):PA X (e :: es) (c9b te t):=by subst h;exact a0b ha hr (hs _)
section
variable {σ:St} {H:Hp} {D:Ends} {Q:VK}
theorem b9r {l:Addr} {xs:List V} {y:V} (hl:H l=some (.lst xs)) (hz:xs.length < sizeLine) (h:Q .non (upd H l (.lst (xs++[y])))):e6d (.ref l) [y] H Q:=⟨l,xs,y,rfl,rfl,hl,hz,h⟩
theorem f4i {K:PySem.W.Frag} {ta:TA} {R:It->Hp->Prop} (h:ta σ H fun vs H1=>∃l1 l2,vs=[.ref l1,.ref l2]∧(∃xs,SqL K H1 l1 xs)∧(∃ys,SqL K H1 l2 ys)∧R (Itz K l1 l2) H1):g1u K ta σ H R:=h
theorem c7i {l b:Addr} {xs zs:List V} (h1:H l=some (.lst xs)) (h2:H b=some (.lst zs)) (hz:xs.length+zs.length<=sizeLine) (h:∀p H',a1w H H'->H p=none->H' p=some (.lst (xs++zs))->Q (.ref p) H'):rCat (.ref l) (.ref b) H Q :=
 ⟨l,b,xs,zs,rfl,rfl,h1,h2,hz,fun p hp=>h p _ (a1w.new hp) hp a0y⟩
theorem f7w {K:PySem.W.Frag} {a:Addr} {xs:List V} {lo hi:Option Int} (h1:SqL K H a xs) (h:∀p H',a1w H H'->H p=none->H' p=some (.lst (d8h xs lo hi))->Q (.ref p) H'):g1n K (.ref a) lo hi H Q :=
 ⟨a,xs,rfl,h1,fun p hp=>h p _ (a1w.new hp) hp a0y⟩
theorem c1m {α:Type} {xs:List α} {i:Int} (h0:0<=i) (h1:i < xs.length):∃v,atI xs i=some v∧v∈xs∧xs[i.toNat]?=some v:=by
 have hj:i.toNat < xs.length:=by omega
 refine ⟨xs[i.toNat],?_,a0z hj,by simp [hj]⟩
 have:=b2c (xs:=xs) (j:=i.toNat) (v:=xs[i.toNat]) (by simp [hj])
 rwa [Int.toNat_of_nonneg h0] at this
end
inductive Kn (H:Hp):V->Prop where
 | non:Kn H .non
 | bl (b:Bool):Kn H (.bl b)
 | int (i:Int):Kn H (.int i)
 | str (x:Str):Kn H (.str x)
 | lst {a:Addr} {xs:List V} (e:H a=some (.lst xs)):Kn H (.ref a)
 | tup {a:Addr} {xs:List V} (e:H a=some (.tup xs)):Kn H (.ref a)
 | dic {a:Addr} {kvs:List (Key×V)} (e:H a=some (.dK kvs)):Kn H (.ref a)
theorem a5l {α β:Type} {F:α->β->Prop}:∀{l1:List α} {l2:List β} {y:β},Paired F l1 l2->y∈l2->∃x∈l1,F x y
 | _,_,_,.nil,h=>nomatch h
 | _,_,_,.cons r t,h=>by
  rcases a0u.mp h with rfl | h
  ·exact ⟨_,a4e,r⟩
  ·obtain ⟨x,hx,q⟩:=a5l t h
   exact ⟨x,a2j _ hx,q⟩
theorem a2z {α β:Type} {F:α->β->Prop} {l1:List α} {l2:List β} {i:Nat} {y:β} (h:Paired F l1 l2) (e:l2[i]?=some y):∃x,l1[i]?=some x∧F x y:=by
 have hl:=h.length
 have hi:i < l2.length:=(a0s.mp e).1
 refine ⟨l1[i]'(by omega),by simp,?_⟩
 have:=b3w h (i:=i) (by omega) hi
 have e2:l2[i]=y:=(a0s.mp e).2
 rwa [e2] at this
def d8a (n:Int×Int):Prop:=0 < n.2∧Int.gcd n.1 n.2=1∧Sz 8000 n.1∧Sz 8000 n.2
end L2
namespace L2
open PySem PySem.Spec PyProof.Rows Nm
theorem take_snoc {α:Type} {l:List α} {i:Nat} {v:α} (h:l[i]?=some v):l.take (i+1)=l.take i++[v]:=by rw[List.take_add_one,h];rfl
theorem a1w.after {H H':Hp} {r:Addr} {o:HO} (s:a1w H H') (h:H r=Option.none):a1w H (upd H' r o):=fun b u e=>by rw[a2d (a6p e h)];exact s b u e
theorem a7g.after {H H':Hp} {b r:Addr} {o:HO} (s:a7g b H H') (h:H r=Option.none):a7g b H (upd H' r o):=⟨fun c u e n=>by rw[a2d (a6p e h)];exact s.1 c u e n,fun q hi=>(s.2 q hi).upd fun z=>by obtain ⟨_,_,_,e⟩:=hi;rw[← z,h] at e;cases e⟩
theorem a7g.same {H H' H'':Hp} {b:Addr} (s:a7g b H H') (e:a1w H' H''):a7g b H H'':=s.trans e.upto
end L2
namespace L2
open PySem PySem.Spec PyProof.Rows Nm
end L2
namespace L2
open PySem PySem.Spec PyProof.Rows Nm
theorem e8n {α:Type} {Pr:α->Prop} {l:List α} {a:α} (h:∀n∈l,Pr n) (ha:Pr a):∀n∈l++[a],Pr n:=fun n hn=>by
 rcases a0w.mp hn with hn | hn
 ·exact h n hn
 ·have e:n=a:=by simpa using hn
  rw[e];exact ha
end L2
namespace L2
open PySem PySem.Spec PyProof.Rows Nm
abbrev e8p (h:Heap) (z TI TO:Addr) (f0 f1:Value):Prop:=h.get? z=some { cls:=.type "zip",dict:=none,data:=.fields #[f0,f1,.bool false,.ref TI,.ref TO],slots:=#[] }
section
variable {prog:Program} {w:World} {A:Around} {E:Value->Shared->Prop} {s:Shared}
theorem e4b {a:Addr} {o:Obj} {Q:Option Obj->Shared->Prop} (e:s.heap.get? a=some o) (h:Q (some o) s):wpAny (model prog w) A (loadIfAlive a) Q E s:=by
 intro Γ p hp
 show Sem.wp _ _ (.loadIfAlive a .pure) _ _ _ _
 simp only[Sem.wp_loadIfAlive,e]
 exact wpAny_pure h Γ p hp
theorem d2h {z TI TO T:Addr} {b1:Bool} {o:Obj} {Q:Bool->Shared->Prop} (zr:e8p s.heap z TI TO (rawInt T) (.bool b1)) (al:s.heap.get? T=some o)
  (h:∀h',e8p h' z TI TO (rawInt T) (.bool true)->Heap.SameBut z s.heap h'->Q false { s with heap:=h' }):wpAny (model prog w) A (Builtin.SmallTypes.ownedTupleIsFree (.ref z)) Q E s:=by
 unfold Builtin.SmallTypes.ownedTupleIsFree
 refine wpAny_bind (wpAny_field zr rfl (x:=rawInt T) rfl ?_)
 refine wpAny_bind (e4b (a:=T) al ?_)
 refine wpAny_bind (wpAny_field zr rfl (x:=.bool b1) rfl ?_)
 cases b1 with
 | true=>exact wpAny_pure (h _ zr (.refl ..))
 | false=>exact wpAny_bind (wpAny_setField_rec zr (by simp) fun h' zr' sb=>wpAny_pure (h h' zr' sb))
theorem e7h {z TI TO T i1 i2 l1 l2:Addr} {k1 k2:Nat} {us ws:Array Value} {u v:Value} {b1:Bool} {o:Obj} {Q:Value->Shared->Prop} (D:ZipApart z TI TO i1 i2 l1 l2) (zr:e8p s.heap z TI TO (rawInt T) (.bool b1)) (al:s.heap.get? T=some o)
  (pt:IsPair s.heap TI (.ref i1) (.ref i2)) (j1:s.heap.IsListIter i1 l1 k1) (j2:s.heap.IsListIter i2 l2 k2) (m1:s.heap.IsList l1 us) (m2:s.heap.IsList l2 ws) (eu:us[k1]?=some u) (ev:ws[k2]?=some v)
  (hQ:∀h',e8p h' z TI TO (rawInt T) (.bool true)->h'.IsListIter i1 l1 (k1+1)->h'.IsListIter i2 l2 (k2+1)->IsPair h' s.heap.objs.size u v->(∀c o,c≠z->c≠i1->c≠i2->s.heap.get? c=some o->h'.get? c=some o)->Q (.ref s.heap.objs.size) { s with heap:=h' }) :
  wpAny (model prog w) A (Builtin.«zip.__next__» ⟨[.ref z],[]⟩) (fun fin s'=>∃v,fin=.done (.ret v)∧Q v s') E s:=by
 change wpAny _ _ (field (Value.ref z) 2 >>= _) _ _ s
 refine wpAny_bind (wpAny_field zr rfl (x:=.bool false) rfl ?_)
 change wpAny _ _ (field (Value.ref z) 3 >>= _) _ _ s
 refine wpAny_bind (wpAny_field zr rfl (x:=.ref TI) rfl (wpAny_bind (wpAny_seqItems pt rfl ?_)))
 change wpAny _ _ (Builtin.SmallTypes.ownedTupleIsFree (Value.ref z) >>= _) _ _ s
 refine wpAny_bind (d2h zr al fun g1 zr1 sb1=>?_)
 simp only[b0i,if_false]
 refine wpAny_bind ?_
 rw[← Array.forIn_toList]
 simp only[List.forIn_cons,e0k]
 have j1':=j1.extBut sb1.extBut D.i1z
 have m1':=m1.extBut sb1.extBut D.l1z
 refine wpAny_bind (wpAny_bind (wpAny_holding ?_))
 change wpAny _ _ (Builtin.SmallTypes.nextOf (Value.ref i1) >>= _) _ _ _
 refine wpAny_bind (wpAny_nextOf_list_item j1' m1' eu fun g2 j1a sb2=>wpAny_pure ?_)
 refine wpAny_pure ?_
 have j2':=(j2.extBut sb1.extBut D.i2z).extBut sb2.extBut D.i12.symm
 have m2':=(m2.extBut sb1.extBut D.l2z).extBut sb2.extBut D.l2i1
 refine wpAny_bind (wpAny_bind (wpAny_holding ?_))
 change wpAny _ _ (Builtin.SmallTypes.nextOf (Value.ref i2) >>= _) _ _ _
 refine wpAny_bind (wpAny_nextOf_list_item j2' m2' ev fun g3 j2a sb3=>wpAny_pure ?_)
 refine wpAny_pure (wpAny_pure ?_)
 refine wpAny_bind (wpAny_newTuple (hsz:=b2g rfl) ?_)
 have sz:g3.objs.size=s.heap.objs.size:=by rw[sb3.1,sb2.1,sb1.1]
 have up:∀c o,c≠z->c≠i1->c≠i2->s.heap.get? c=some o->g3.get? c=some o:=fun c o c1 c2 c3 e=>sb3.extBut _ _ c3 (sb2.extBut _ _ c2 (sb1.extBut _ _ c1 e))
 have zr3:e8p g3 z TI TO (rawInt T) (.bool true):=sb3.extBut _ _ D.i2z.symm (sb2.extBut _ _ D.i1z.symm zr1)
 refine wpAny_pure ⟨_,rfl,?_⟩
 change Q (.ref g3.objs.size) { s with heap:=g3.push { cls:=.type "tuple",data:=.seq #[u,v] } }
 have last:=hQ (g3.push { cls:=.type "tuple",data:=.seq #[u,v] }) (Heap.get?_push_of_some _ zr3) ((j1a.extBut sb3.extBut D.i12).at fun o e=>Heap.get?_push_of_some _ e) (j2a.at fun o e=>Heap.get?_push_of_some _ e)
  (by rw[← sz];exact Heap.get?_push_size _ rfl) fun c o c1 c2 c3 e=>Heap.get?_push_of_some _ (up c o c1 c2 c3 e)
 rw[sz]
 exact last
theorem f0s {z TI TO T i1 i2 l1 l2:Addr} {k1:Nat} {us:Array Value} {b1:Bool} {o:Obj} {Q:PySem.Fin->Shared->Prop} (hh:A.handled=none) (D:ZipApart z TI TO i1 i2 l1 l2) (zr:e8p s.heap z TI TO (rawInt T) (.bool b1)) (al:s.heap.get? T=some o)
  (pt:IsPair s.heap TI (.ref i1) (.ref i2)) (j1:s.heap.IsListIter i1 l1 k1) (m1:s.heap.IsList l1 us) (eu:us[k1]?=none)
  (hE:∀h' e,(∀c o,c≠z->c≠i1->c≠i2->s.heap.get? c=some o->h'.get? c=some o)->(∃o,h'.get? e=some o∧o.cls=.type "StopIteration")->E (.ref e) { s with heap:=h' }) :
  wpAny (model prog w) A (Builtin.«zip.__next__» ⟨[.ref z],[]⟩) Q E s:=by
 change wpAny _ _ (field (Value.ref z) 2 >>= _) _ _ s
 refine wpAny_bind (wpAny_field zr rfl (x:=.bool false) rfl ?_)
 change wpAny _ _ (field (Value.ref z) 3 >>= _) _ _ s
 refine wpAny_bind (wpAny_field zr rfl (x:=.ref TI) rfl (wpAny_bind (wpAny_seqItems pt rfl ?_)))
 change wpAny _ _ (Builtin.SmallTypes.ownedTupleIsFree (Value.ref z) >>= _) _ _ s
 refine wpAny_bind (d2h zr al fun g1 zr1 sb1=>?_)
 simp only[b0i,if_false]
 refine wpAny_bind ?_
 rw[← Array.forIn_toList]
 simp only[List.forIn_cons,e0k]
 refine wpAny_bind (wpAny_bind (wpAny_holding ?_))
 change wpAny _ _ (Builtin.SmallTypes.nextOf (Value.ref i1) >>= _) _ _ _
 exact wpAny_bind (wpAny_nextOf_list_end hh (j1.extBut sb1.extBut D.i1z) (m1.extBut sb1.extBut D.l1z) eu fun g2 e xb he=>hE g2 e (fun c o c1 c2 _ q=>xb _ _ c2 (sb1.extBut _ _ c1 q)) he)
theorem e7d {z TI TO T i1 i2 l1 l2:Addr} {k1 k2:Nat} {us ws:Array Value} {u v:Value} {b1:Bool} {o:Obj} {Q:Option Value->Shared->Prop} (D:ZipApart z TI TO i1 i2 l1 l2) (zr:e8p s.heap z TI TO (rawInt T) (.bool b1)) (al:s.heap.get? T=some o)
  (pt:IsPair s.heap TI (.ref i1) (.ref i2)) (j1:s.heap.IsListIter i1 l1 k1) (j2:s.heap.IsListIter i2 l2 k2) (m1:s.heap.IsList l1 us) (m2:s.heap.IsList l2 ws) (eu:us[k1]?=some u) (ev:ws[k2]?=some v)
  (hQ:∀h',e8p h' z TI TO (rawInt T) (.bool true)->h'.IsListIter i1 l1 (k1+1)->h'.IsListIter i2 l2 (k2+1)->IsPair h' s.heap.objs.size u v->(∀c o,c≠z->c≠i1->c≠i2->s.heap.get? c=some o->h'.get? c=some o)->Q (some (.ref s.heap.objs.size)) { s with heap:=h' }) :
  wpAny (model prog w) A (pyNext (.ref z)) Q E s:=by
 have ty:s.TypeIs (.ref z) "zip":=⟨_,zr,rfl⟩
 unfold pyNext
 refine wpAny_bind (wpAny_attempt (wpAny_callSpecial?_slot (name:=Str.ofString "__next__") ty b9l (wpAny_call_entry b9l ty PySem.F.entry_zip_next ?_ (PySem.F.args_zip_next_1 _))))
 exact e7h D zr al pt j1 j2 m1 m2 eu ev fun h' a1 a2 a3 a4 a5=>wpAny_pure (hQ h' a1 a2 a3 a4 a5)
theorem e7c {z TI TO T i1 i2 l1 l2:Addr} {k1:Nat} {us:Array Value} {b1:Bool} {o:Obj} {Q:Option Value->Shared->Prop} (hh:A.handled=none) (D:ZipApart z TI TO i1 i2 l1 l2) (zr:e8p s.heap z TI TO (rawInt T) (.bool b1)) (al:s.heap.get? T=some o)
  (pt:IsPair s.heap TI (.ref i1) (.ref i2)) (j1:s.heap.IsListIter i1 l1 k1) (m1:s.heap.IsList l1 us) (eu:us[k1]?=none)
  (hQ:∀h',(∀c o,c≠z->c≠i1->c≠i2->s.heap.get? c=some o->h'.get? c=some o)->Q none { s with heap:=h' }):wpAny (model prog w) A (pyNext (.ref z)) Q E s:=by
 have ty:s.TypeIs (.ref z) "zip":=⟨_,zr,rfl⟩
 unfold pyNext
 refine wpAny_bind (wpAny_attempt (wpAny_callSpecial?_slot (name:=Str.ofString "__next__") ty b9l (wpAny_call_entry b9l ty PySem.F.entry_zip_next ?_ (PySem.F.args_zip_next_1 _))))
 refine f0s hh D zr al pt j1 m1 eu fun h' e kk ⟨oe,he,hc⟩=>?_
 exact wpAny_bind (wpAny_isInstance (T:="StopIteration") (b:=true) ⟨oe,he,hc⟩ isSubtype_stop (wpAny_pure (hQ _ kk)))
end
section
variable {X:Cx} {pins:List (Addr×Obj)} {σ:St} {H:Hp} {s:Shared}
theorem Inv.moved {h':Heap} {ch:List Addr} {g':Array GenState} {d':Drawn} {t':Nat} (I:Inv X pins σ H s) (fx:∀b∈ch,c7e X pins H b) (up:∀b o,b∉ch->s.heap.get? b=some o->h'.get? b=some o) (hg:AllBare g') :
  Inv X pins σ H { s with heap:=h',gens:=g',drawn:=d',toks:=t' }:=by
 have nx:∀b o,H b=some o->b∉ch:=fun b o e hb=>by have:=(fx b hb).1;rw[this] at e;cases e
 refine I.step (ch:=ch) (fun b hb=>?_) (fun b o _ _ hb e _=>up b o hb e) (fun b o _ _ hb e _=>⟨o.slots,up b o hb e⟩) (fun b o hb e n=>n) (fun b o hb e=>⟨o,up b o hb e⟩) (fun b q e=>e) (fun b o q e=>e) (fun b q e=>⟨#[],by rw[e];simp⟩) (fun m hm=>?_) (fun b o e=>?_) hg
 ·obtain ⟨_,f1,_,f3,f4,f5⟩:=fx b hb
  exact ⟨f3,f1,f4,f5⟩
 ·obtain ⟨o,es,ep,ho,r⟩:=hm
  exact ⟨o,es,ep,up _ o (fun z=>(fx _ z).2.1 rfl) ho,r⟩
 ·refine (I.hok b o e).stay (fun c v' hc q=>up c v' ?_ q) (fun c q=>q) fun c xs q=>q
  rcases hc with rfl | hc
  ·exact nx _ _ e
  ·exact nx _ _ hc
theorem Inv.track {p:Addr} {o:HO} (I:Inv X pins σ H s) (fp:c7e X pins H p) (new:b7h X.prog X.w (upd H p o) s.heap p o):Inv X pins σ (upd H p o) s:=by
 have nt:∀{b:Addr} {u:HO},H b=some u->b≠p:=fun e z=>by rw[z,fp.1] at e;cases e
 refine I.step (h':=s.heap) (g':=s.gens) (d':=s.drawn) (t':=s.toks) (ch:=[p]) (fun b hb=>?_) (fun b o _ _ _ e _=>e) (fun b o _ _ _ e _=>⟨o.slots,e⟩) (fun b o hb e n=>?_) (fun b o _ e=>⟨o,e⟩) (fun b q e=>by rw[a2d (nt e)];exact e) (fun b o q e=>by rw[a2d (nt e)];exact e)
  (fun b q e=>⟨#[],by rw[a2d (nt e),e];simp⟩) (fun m hm=>hm) (fun b u e=>?_) I.bare
 ·have e:b=p:=by simpa using hb
  subst e
  obtain ⟨_,f1,_,f3,f4,f5⟩:=fp
  exact ⟨f3,f1,f4,f5⟩
 ·rw[a2d fun z=>hb (by simp [z])];exact n
 ·by_cases hb:b=p
  ·subst hb;rw[a0y] at e;cases e;exact new
  ·rw[a2d hb] at e
   exact (I.hok b u e).stay (fun c v _ q=>q) (fun c q=>by rw[a2d (nt q)];exact q) fun c xs q=>by rw[a2d (nt q)];exact q
end
def PrR (H:Hp) (p:V×V) (x:V):Prop:=∃T,x=.ref T∧H T=some (.tup [p.1,p.2])
theorem PrR.same {H H':Hp} {p:V×V} {x:V} (h:PrR H p x) (e:a1w H H'):PrR H' p x:=let ⟨T,q,g⟩:=h;⟨T,q,e _ _ g⟩
def Zst (h:Heap) (z TI TO:Addr) (base:Nat):Prop:=(∃a b,IsPair h TO a b)∧(IsZip h z TI TO .none∨∃(T:Addr) (b1:Bool) (o:Obj),e8p h z TI TO (rawInt T) (.bool b1)∧h.get? T=some o∧@LE.le Nat instLENat base T)
theorem e0l {h:Heap} {z TI TO i1 i2 l1 l2:Addr} {f0 f1 a b:Value} {k1 k2:Nat} {xs ys:Array Value} (hz:e8p h z TI TO f0 f1) (hTI:IsPair h TI (.ref i1) (.ref i2)) (hTO:IsPair h TO a b) (h1:h.IsListIter i1 l1 k1) (h2:h.IsListIter i2 l2 k2) (hl1:h.IsList l1 xs) (hl2:h.IsList l2 ys) (hT:TI≠TO) (hi:i1≠i2):ZipApart z TI TO i1 i2 l1 l2:=by
 obtain ⟨o1,g1,c1,_⟩:=h1
 obtain ⟨o2,g2,c2,_⟩:=h2
 obtain ⟨p1,q1,d1,_⟩:=hl1
 obtain ⟨p2,q2,d2,_⟩:=hl2
 have zt:Value.type "zip"≠.type "tuple":=c2v (by decide)
 have it:Value.type "list_iterator"≠.type "tuple":=c2v (by decide)
 have iz:Value.type "list_iterator"≠.type "zip":=c2v (by decide)
 have lz:Value.type "list"≠.type "zip":=c2v (by decide)
 have lt:Value.type "list"≠.type "tuple":=c2v (by decide)
 have li:Value.type "list"≠.type "list_iterator":=c2v (by decide)
 exact ⟨a4z hTI hz zt.symm,a4z hTO hz zt.symm,a4z g1 hz (by rw[c1];exact iz),a4z g2 hz (by rw[c2];exact iz),hT,a4z hTI g1 (by rw[c1];exact it.symm),a4z hTI g2 (by rw[c2];exact it.symm),a4z hTO g1 (by rw[c1];exact it.symm),a4z hTO g2 (by rw[c2];exact it.symm),hi,
  a4z q1 hz (by rw[d1];exact lz),a4z q1 hTO (by rw[d1];exact lt),a4z q1 g1 (by rw[d1,c1];exact li),a4z q1 g2 (by rw[d1,c2];exact li),a4z q2 hz (by rw[d2];exact lz),a4z q2 hTO (by rw[d2];exact lt),a4z q2 g1 (by rw[d2,c1];exact li),a4z q2 g2 (by rw[d2,c2];exact li)⟩
section
variable {X:Cx} {pins:List (Addr×Obj)} {σ:St}
theorem c7e.heap {H H':Hp} {b:Addr} (f:c7e X pins H b) (e:H' b=none):c7e X pins H' b:=⟨e,f.2⟩
structure Zad where
 z:Addr
 TI:Addr
 TO:Addr
 i1:Addr
 i2:Addr
 S:Addr
 base:Nat
def Zad.all (a:Zad):List Addr:=[a.z,a.TI,a.TO,a.i1,a.i2,a.S]
structure Zad.Ok (a:Zad):Prop where
 tt:a.TI≠a.TO
 ii:a.i1≠a.i2
 Sz:a.S≠a.z
 STI:a.S≠a.TI
 STO:a.S≠a.TO
 Si1:a.S≠a.i1
 Si2:a.S≠a.i2
 lt:∀b∈a.all,@LT.lt Nat instLTNat b a.base
structure LzI (X:Cx) (pins:List (Addr×Obj)) (σ:St) (H1:Hp) (a:Zad) (l1 l2:Addr) (i:Nat) (H:Hp) (s:Shared):Prop where
 inv:Inv X pins σ H s
 same:a1w H1 H
 fps:∀b∈a.all,c7e X pins H b
 sz:a.base<=s.heap.objs.size
 zst:Zst s.heap a.z a.TI a.TO a.base
 pt:IsPair s.heap a.TI (.ref a.i1) (.ref a.i2)
 j1:s.heap.IsListIter a.i1 l1 i
 j2:s.heap.IsListIter a.i2 l2 i
variable {a:Zad} {l1 l2:Addr} {H1 H:Hp} {s:Shared} {i:Nat} {xs ys:List V}
theorem LzI.push {h':Heap} (L:LzI X pins σ H1 a l1 l2 i H s) (O:a.Ok) (k:∀b o,b≠a.S->s.heap.get? b=some o->h'.get? b=some o) (hz:h'.objs.size=s.heap.objs.size):LzI X pins σ H1 a l1 l2 i H { s with heap:=h' }:=by
 refine ⟨L.inv.moved (g':=s.gens) (d':=s.drawn) (t':=s.toks) (ch:=[a.S]) (fun b hb=>?_) (fun b o hb e=>k b o (fun z=>hb (by simp [z])) e) L.inv.bare,L.same,L.fps,by show a.base<=h'.objs.size;rw[hz];exact L.sz,?_,k _ _ O.STI.symm L.pt,L.j1.at fun o e=>k _ o O.Si1.symm e,L.j2.at fun o e=>k _ o O.Si2.symm e⟩
 ·have e:b=a.S:=by simpa using hb
  rw[e];exact L.fps _ (by simp [Zad.all])
 ·obtain ⟨⟨c,d,z0⟩,z4⟩:=L.zst
  refine ⟨⟨c,d,k _ _ O.STO.symm z0⟩,?_⟩
  rcases z4 with z1 | ⟨T,b1,o,z1,z2,z3⟩
  ·exact .inl (k _ _ O.Sz.symm z1)
  ·refine .inr ⟨T,b1,o,k _ _ O.Sz.symm z1,k _ _ (fun e=>?_) z2,z3⟩
   have:=O.lt a.S (by simp [Zad.all])
   rw[← e] at this
   exact absurd this (Nat.not_lt.mpr z3)
theorem e9b {A':Around} {E:Value->Shared->Prop} {Q:Option Value->Shared->Prop} (O:a.Ok) (q1:SqL X.K H1 l1 xs) (q2:SqL X.K H1 l2 ys) {x y:V} (ex:xs[i]?=some x) (ey:ys[i]?=some y) (L:LzI X pins σ H1 a l1 l2 i H s)
  (hQ:∀s',LzI X pins σ H1 a l1 l2 (i+1) (upd H s.heap.objs.size (.tup [x,y])) s'->(∀c o,c∉[a.z,a.TO,a.i1,a.i2]->s.heap.get? c=some o->s'.heap.get? c=some o)->H s.heap.objs.size=none->Q (some (.ref s.heap.objs.size)) s'):wpAny (model X.prog X.w) A' (pyNext (.ref a.z)) Q E s:=by
 obtain ⟨I,sm,fps,sz,zst,pt,j1,j2⟩:=id L
 obtain ⟨us,ru,pu,_⟩:=I.list (sm.seq q1)
 obtain ⟨ws,rw',pw,_⟩:=I.list (sm.seq q2)
 obtain ⟨u,eu,r1⟩:=ru.get ex
 obtain ⟨v,ev,r2⟩:=rw'.get ey
 have fx:∀b∈[a.z,a.TO,a.i1,a.i2],c7e X pins H b:=fun b hb=>fps b (by simp only[Zad.all,a0u,a1k,or_false] at hb ⊢;rcases hb with e | e | e | e <;> simp [e])
 have hT0:H s.heap.objs.size=none:=I.hok.fresh (a0h _)
 have fT:c7e X pins H s.heap.objs.size:=I.fpOk (a0h _) hT0
 have lt:∀b∈a.all,b≠s.heap.objs.size:=fun b hb e=>by have:=O.lt b hb;rw[e] at this;exact absurd this (Nat.not_lt.mpr sz)
 have fin:∀h',(∀c o,c∉[a.z,a.TO,a.i1,a.i2]->s.heap.get? c=some o->h'.get? c=some o)->IsPair h' s.heap.objs.size u v->IsPair h' a.TI (.ref a.i1) (.ref a.i2)->h'.IsListIter a.i1 l1 (i+1)->h'.IsListIter a.i2 l2 (i+1)->Zst h' a.z a.TI a.TO a.base →
   Q (some (.ref s.heap.objs.size)) { s with heap:=h' }:=fun h' up pr pt' j1' j2' zst'=>by
  have I2:Inv X pins σ H { s with heap:=h' }:=I.moved (g':=s.gens) (d':=s.drawn) (t':=s.toks) fx up I.bare
  have I3:Inv X pins σ (upd H s.heap.objs.size (.tup [x,y])) { s with heap:=h' }:=I2.track fT ⟨b2g rfl,[u,v],.cons r1 (.cons r2 .nil),⟨_,pr,rfl,_,rfl⟩⟩
  refine hQ _ ⟨I3,sm.trans (a1w.new hT0),fun b hb=>(fps b hb).heap (by rw[a2d (lt b hb)];exact (fps b hb).1),?_,zst',pt',j1',j2'⟩ up hT0
  exact a0d sz (a1j (Heap.lt_size pr))
 obtain ⟨⟨c,d,z0⟩,z4⟩:=zst
 rcases z4 with z1 | ⟨T,b1,o,z1,z2,z3⟩
 ·have D:=e0l z1 pt z0 j1 j2 pu.isList pw.isList O.tt O.ii
  refine wpAny_pyNext_zip_item D z1 pt z0 j1 j2 pu.isList pw.isList (x:=u) (y:=v) (by simpa using eu) (by simpa using ev) fun h' a1 a2 a3 a4 a5 a6 hk=>?_
  have up:∀c o,c∉[a.z,a.TO,a.i1,a.i2]->s.heap.get? c=some o->h'.get? c=some o:=fun c o hc e=>by
   simp only[a0u,a1k,or_false,not_or] at hc
   exact hk c o hc.1 hc.2.1 hc.2.2.1 hc.2.2.2 e
  exact fin h' up a5 (hk _ _ D.TIz D.TITO D.TIi1 D.TIi2 pt) a3 a4 ⟨⟨_,_,a2⟩,.inr ⟨s.heap.objs.size,false,_,a1,a5,sz⟩⟩
 ·have D:=e0l z1 pt z0 j1 j2 pu.isList pw.isList O.tt O.ii
  refine e7d D z1 z2 pt j1 j2 pu.isList pw.isList (u:=u) (v:=v) (by simpa using eu) (by simpa using ev) fun h' a1 a3 a4 a5 hk=>?_
  have up:∀c o,c∉[a.z,a.TO,a.i1,a.i2]->s.heap.get? c=some o->h'.get? c=some o:=fun c o hc e=>by
   simp only[a0u,a1k,or_false,not_or] at hc
   exact hk c o hc.1 hc.2.2.1 hc.2.2.2 e
  have Tn:∀b∈a.all,T≠b:=fun b hb e=>by have:=O.lt b hb;rw[← e] at this;exact absurd this (Nat.not_lt.mpr z3)
  exact fin h' up a5 (hk _ _ D.TIz D.TIi1 D.TIi2 pt) a3 a4 ⟨⟨_,_,hk _ _ D.TOz D.TOi1 D.TOi2 z0⟩,.inr ⟨T,true,o,a1,hk _ _ (Tn _ (by simp [Zad.all])) (Tn _ (by simp [Zad.all])) (Tn _ (by simp [Zad.all])) z2,z3⟩⟩
theorem e9a {A':Around} {E:Value->Shared->Prop} {Q:Option Value->Shared->Prop} (hh:A'.handled=none) (O:a.Ok) (q1:SqL X.K H1 l1 xs) (q2:SqL X.K H1 l2 ys) (hi:xs.length<=i) (L:LzI X pins σ H1 a l1 l2 i H s)
  (hQ:∀s',Inv X pins σ H s'->(∀c o,c∉[a.z,a.TO,a.i1,a.i2]->s.heap.get? c=some o->s'.heap.get? c=some o)->Q none s'):wpAny (model X.prog X.w) A' (pyNext (.ref a.z)) Q E s:=by
 obtain ⟨I,sm,fps,sz,zst,pt,j1,j2⟩:=id L
 obtain ⟨us,ru,pu,_⟩:=I.list (sm.seq q1)
 obtain ⟨ws,rw',pw,_⟩:=I.list (sm.seq q2)
 have lx:=ru.length
 have none1:us.toArray[i]?=none:=by simp;omega
 have fx:∀b∈[a.z,a.TO,a.i1,a.i2],c7e X pins H b:=fun b hb=>fps b (by simp only[Zad.all,a0u,a1k,or_false] at hb ⊢;rcases hb with e | e | e | e <;> simp [e])
 have fin:∀h',(∀c o,c∉[a.z,a.TO,a.i1,a.i2]->s.heap.get? c=some o->h'.get? c=some o)->Q none { s with heap:=h' }:=fun h' up=>hQ _ (I.moved (g':=s.gens) (d':=s.drawn) (t':=s.toks) fx up I.bare) up
 obtain ⟨⟨c,d,z0⟩,z4⟩:=zst
 rcases z4 with z1 | ⟨T,b1,o,z1,z2,z3⟩
 ·have D:=e0l z1 pt z0 j1 j2 pu.isList pw.isList O.tt O.ii
  refine wpAny_pyNext_zip_end hh D z1 pt z0 j1 j2 pu.isList pw.isList (.inl none1) fun h' hk=>fin h' fun c o hc e=>?_
  simp only[a0u,a1k,or_false,not_or] at hc
  exact hk c o hc.1 hc.2.1 hc.2.2.1 hc.2.2.2 e
 ·have D:=e0l z1 pt z0 j1 j2 pu.isList pw.isList O.tt O.ii
  refine e7c hh D z1 z2 pt j1 pu.isList none1 fun h' hk=>fin h' fun c o hc e=>?_
  simp only[a0u,a1k,or_false,not_or] at hc
  exact hk c o hc.1 hc.2.2.1 hc.2.2.2 e
theorem e9d {A':Around} {R:Result->Shared->Prop} (hh:A'.handled=none) (O:a.Ok) (hz:xs.length<=sizeLine) (hl:ys.length=xs.length) (q1:SqL X.K H1 l1 xs) (q2:SqL X.K H1 l2 ys)
  (fin:∀s' H' ts acc c,Inv X pins σ H' s'->a1w H1 H'->c7e X pins H' a.S->s'.heap.get? a.S=some (lobj acc c)->a6a ts acc->Paired (PrR H') (xs.zip ys) ts->R (.ok (.ret .none)) s') :
  ∀(k i:Nat) (s:Shared) (H:Hp) (ts:List V) (acc:List Value) (c:Nat),xs.length - i=k->i<=xs.length->LzI X pins σ H1 a l1 l2 i H s->s.heap.get? a.S=some (lobj acc c)->a6a ts acc->Paired (PrR H) ((xs.zip ys).take i) ts →
   codeAny (model X.prog X.w) A' (.builtin "list.extend.loop" ⟨[.ref a.S,.ref a.z,.none],[]⟩) R s:=by
 have Sn:a.S∉[a.z,a.TO,a.i1,a.i2]:=fun h=>by
  simp only[a0u,a1k,or_false] at h
  rcases h with e | e | e | e
  ·exact O.Sz e
  ·exact O.STO e
  ·exact O.Si1 e
  ·exact O.Si2 e
 intro k
 induction k with
 | zero =>
  intro i s H ts acc c hk hi L gS rv prs
  have e:i=xs.length:=by omega
  refine codeAny_builtin PySem.F.entry_extend_loop ?_
  rw[Around.under_plainId b4c _]
  change wpAny _ A'.in1 (pyNext (Value.ref a.z) >>= _) _ _ s
  refine wpAny_bind (e9a hh O q1 q2 (by omega) L fun s' I' up=>wpAny_pure (fin s' H ts acc c I' L.same (L.fps _ (by simp [Zad.all])) (up _ _ Sn gS) rv ?_))
  rwa [a0r (by rw[d5t];omega)] at prs
 | succ k ih =>
  intro i s H ts acc c hk hi L gS rv prs
  have hlt:i < xs.length:=by omega
  have lt:=prs.length
  have la:=rv.length
  refine codeAny_builtin PySem.F.entry_extend_loop ?_
  rw[Around.under_plainId b4c _]
  change wpAny _ A'.in1 (pyNext (Value.ref a.z) >>= _) _ _ s
  refine wpAny_bind (e9b O q1 q2 (x:=xs[i]) (y:=ys[i]'(by omega)) (by simp [hlt]) (by simp) L fun s' L' up hT=>?_)
  have gS':=up _ _ Sn gS
  change wpAny _ A'.in1 (updateSeq a.S (·.push (Value.ref s.heap.objs.size)) >>= _) _ _ s'
  have small:acc.length<=sizeLine:=by
   rw[a4h,d5t] at lt
   omega
  refine wpAny_bind (wpAny_updateSeq gS' rfl (wpAny_pure ⟨plainId_quiet b4c _,?_⟩) (by rw[a1a];exact small) (by
   show (acc.toArray.push (Value.ref s.heap.objs.size)).size<=sizeLine+1
   rw[Array.size_push,a1a]
   omega))
  have gS2:=b4p gS' (fun b=>b.push (Value.ref s.heap.objs.size))
  have e2:(acc.toArray.push (Value.ref s.heap.objs.size))=(acc++[Value.ref s.heap.objs.size]).toArray:=by simp
  rw[e2] at gS2
  refine ih (i+1) _ (upd H s.heap.objs.size (.tup [xs[i],ys[i]'(by omega)])) (ts++[.ref s.heap.objs.size]) (acc++[.ref s.heap.objs.size]) _ (by omega) hlt (L'.push O (fun b o hb e=>(Heap.get?_update_other _ _ (Ne.symm hb)).trans e) (Heap.size_update ..)) gS2 (rv.append (show a6a [V.ref s.heap.objs.size] [Value.ref s.heap.objs.size] from .cons rfl .nil)) ?_
  have zp:(xs.zip ys)[i]?=some (xs[i],ys[i]'(by omega)):=by simp [List.getElem?_zip_eq_some,hlt]
  rw[take_snoc zp]
  exact (Paired.imp' (fun _ _ z=>z.same (a1w.new hT)) prs).snoc ⟨_,rfl,a0y⟩
theorem e2p:typeLookup (.type "zip") "__len__"=pure Option.none:=by rw[typeLookup_type,builtinLookup_eq_fast];kernel_rfl
theorem d8l:typeLookup (.type "zip") "__length_hint__"=pure Option.none:=by rw[typeLookup_type,builtinLookup_eq_fast];kernel_rfl
theorem e9c {A' : Around} {R : Result → Shared → Prop} (hh : A'.handled = none) (O : a.Ok) (hz : xs.length ≤ sizeLine) (hl : ys.length = xs.length) (q1 : SqL X.K H1 l1 xs) (q2 : SqL X.K H1 l2 ys) (L : LzI X pins σ H1 a l1 l2 0 H s) (gS : s.heap.get? a.S = some (lobj [] 0)) (z0 : IsZip s.heap a.z a.TI a.TO .none)
    (fin : ∀ s' H' ts acc c, Inv X pins σ H' s' → a1w H1 H' → c7e X pins H' a.S → s'.heap.get? a.S = some (lobj acc c) → a6a ts acc → Paired (PrR H') (xs.zip ys) ts → R (.ok (.ret .none)) s') :
    wpAny (model X.prog X.w) A'.in1 (Builtin.«list.__init__» ⟨[.ref a.S, .ref a.z], []⟩) (fun fl s' => match fl with | .done f => R (.ok f) s' | .again c' => c'.quiet = true ∧ codeAny (model X.prog X.w) A' c' R s') (fun e s' => R (.error e) s') s := by
  change wpAny _ A'.in1 (do let old ← Builtin.List.listItems (Value.ref a.S); Builtin.List.listUpdate (Value.ref a.S) (fun _ => #[]); letGo old.toList.reverse; Builtin.List.listExtendWith (Value.ref a.S) (Value.ref a.z) Value.none) _ _ s
  refine wpAny_bind ?_
  unfold Builtin.List.listItems
  refine wpAny_bind (wpAny_seqItems gS rfl (wpAny_pure ?_))
  change wpAny _ A'.in1 (updateSeq a.S (fun _ => #[]) >>= fun _ => letGo (#[] : Array Value).toList.reverse >>= fun _ => Builtin.List.listExtendWith (Value.ref a.S) (Value.ref a.z) Value.none) _ _ s
  refine wpAny_bind (wpAny_updateSeq gS rfl ?_)
  have g1 := b4p gS (fun _ => (#[] : Array Value))
  obtain ⟨n1, g1⟩ : ∃ n1, (s.heap.update a.S (Obj.mapSeq fun _ => (#[] : Array Value))).get? a.S = some (lobj [] n1) := ⟨_, g1⟩
  have L1 := L.push (h' := s.heap.update a.S (Obj.mapSeq fun _ => (#[] : Array Value))) O (fun b o hb e => (Heap.get?_update_other _ _ (Ne.symm hb)).trans e) (Heap.size_update ..)
  have z1 : IsZip (s.heap.update a.S (Obj.mapSeq fun _ => (#[] : Array Value))) a.z a.TI a.TO .none := (Heap.get?_update_other _ _ O.Sz).trans z0
  refine wpAny_bind (wpAny_letGo ?_)
  unfold Builtin.List.listExtendWith
  have ty : Shared.TypeIs { s with heap := s.heap.update a.S (Obj.mapSeq fun _ => (#[] : Array Value)) } (.ref a.z) "zip" := ⟨_, z1, rfl⟩
  refine wpAny_bind (wpAny_typeOf ty ?_)
  have h1 : Builtin.List.listSameRef (.ref a.S) (.ref a.z) = false := by simp [Builtin.List.listSameRef, O.Sz]
  have h2 : (Value.type "zip" == Value.type "list") = false := by decide
  have h3 : (Value.type "zip" == Value.type "tuple") = false := by decide
  simp only [h1, h2, h3, Bool.or_false, b0i, if_false]
  refine wpAny_bind (wpAny_pyIter_zip z1 (wpAny_bind (wpAny_holding ?_)))
  unfold Builtin.List.listLengthHint
  refine wpAny_bind (wpAny_specialOf ty e2p ?_)
  change wpAny _ A'.in1 (specialOf (Value.ref a.z) (Str.ofString "__length_hint__") >>= _) _ _ _
  refine wpAny_bind (wpAny_specialOf ty d8l (wpAny_pure ?_))
  change wpAny _ A'.in1 (rule "list.extend.makes-room" >>= fun _ => Builtin.List.listTouch (Value.ref a.S) >>= fun _ => again (.builtin "list.extend.loop" ⟨[Value.ref a.S, Value.ref a.z, Value.none], []⟩)) _ _ _
  refine wpAny_bind (wpAny_rule (wpAny_bind ?_))
  change wpAny _ A'.in1 (updateSeq a.S (·.push Value.none) >>= fun _ => updateSeq a.S (·.pop)) _ _ _
  refine wpAny_bind (wpAny_updateSeq g1 rfl ?_)
  have g2 := b4p g1 (fun b => b.push Value.none)
  obtain ⟨n2, g2⟩ : ∃ n2, ((s.heap.update a.S (Obj.mapSeq fun _ => (#[] : Array Value))).update a.S (Obj.mapSeq fun b => b.push Value.none)).get? a.S = some (lobj [Value.none] n2) := ⟨_, g2⟩
  have L2 := L1.push (h' := (s.heap.update a.S (Obj.mapSeq fun _ => (#[] : Array Value))).update a.S (Obj.mapSeq fun b => b.push Value.none)) O (fun b o hb e => (Heap.get?_update_other _ _ (Ne.symm hb)).trans e) (Heap.size_update ..)
  refine wpAny_updateSeq g2 rfl ?_ (b2g rfl)
  have g3 := b4p g2 (fun b => b.pop)
  have L3 := L2.push (h' := ((s.heap.update a.S (Obj.mapSeq fun _ => (#[] : Array Value))).update a.S (Obj.mapSeq fun b => b.push Value.none)).update a.S (Obj.mapSeq fun b => b.pop)) O (fun b o hb e => (Heap.get?_update_other _ _ (Ne.symm hb)).trans e) (Heap.size_update ..)
  exact wpAny_pure ⟨plainId_quiet b4c _, e9d hh O hz hl q1 q2 fin _ 0 _ H [] [] _ rfl (a1f _) L3 g3 .nil .nil⟩
end
section
variable {X:Cx}
theorem f6s (n:Nat):Zad.Ok ⟨n+4,n+2,n+3,n,n+1,n+5,n+5+1⟩:=by
 have ne:∀p q:Nat,p≠q->@Ne Addr p q:=fun _ _ h=>h
 refine ⟨ne (n+2) (n+3) (by omega),ne n (n+1) (by omega),ne (n+5) (n+4) (by omega),ne (n+5) (n+2) (by omega),ne (n+5) (n+3) (by omega),ne (n+5) n (by omega),ne (n+5) (n+1) (by omega),fun b hb=>?_⟩
 have hb':b∈[n+4,n+2,n+3,n,n+1,n+5]:=hb
 show @LT.lt Nat instLTNat b (n+5+1)
 simp only[a0u,a1k,or_false] at hb'
 rcases hb' with e | e | e | e | e | e <;> (rw[e];exact a1u (a9n _) (by omega))
def e0p (K:PySem.W.Frag) (ta:TA):TE:=fun σ H Q=>ta σ H fun vs H1=>∃(l1 l2:Addr) (xs ys:List V),vs=[.ref l1,.ref l2]∧SqL K H1 l1 xs∧SqL K H1 l2 ys∧ys.length=xs.length ∧
 ∀L ts H',a1w H1 H'->H1 L=none->H' L=some (.lst ts)->Paired (PrR H') (xs.zip ys) ts->Q (.ref L) H'
theorem e3k {e1 e2:Expr} {ta:TA} {p p2 pos pos2:Pos} (hg:Gl X "list") (hm:X.mg "list"=none) (hg2:Gl X "zip") (hm2:X.mg "zip"=none) (ha:PA X [e1,e2] ta) (hc:X.calm=true:=by rfl)
  (hs:starEach [e1,e2] X.env=[(false,eval e1 X.env),(false,eval e2 X.env)]:=by rfl) (hs2:starEach [e2] X.env=[(false,eval e2 X.env)]:=by rfl)
  (hs3:starEach [Expr.Call (.Name "zip" p2) [e1,e2] [] pos2] X.env=[(false,eval (.Call (.Name "zip" p2) [e1,e2] [] pos2) X.env)]:=by rfl) :
  PE X (.Call (.Name "list" p) [.Call (.Name "zip" p2) [e1,e2] [] pos2] [] pos) (e0p X.K ta):=by
 intro pins s σ H Q I h
 refine wpAny_Call_Name_kw (b7e I hg hm boot_list ?_)
 refine PyProof.Rows.callWith_type1 ?_ (by rw[hs3];rfl) rfl
 rw[hs3]
 show wpAny _ _ (spliced ((false,eval (.Call (.Name "zip" p2) [e1,e2] [] pos2) X.env) :: [])) _ _ s
 refine Calls.spliced_cons ?_
 refine Call_ (b7e I hg2 hm2 boot_zip (PyProof.Rows.callWith_type1 (thn (ha pos2 pins s σ H _ I h) fun us s1 ⟨vs,H1,I1,r1,q1⟩=>?_) (by rw[hs,hs2]) (by rw[hs2];rfl)))
 obtain ⟨l1,l2,xs,ys,e,qx,qy,hl,q⟩:=q1
 subst e
 obtain ⟨u,v,rfl,ru,rv⟩:=vals2 r1
 cases ru
 cases rv
 obtain ⟨us,rx,px,hz⟩:=I1.list qx
 obtain ⟨ws,ry,py,_⟩:=I1.list qy
 refine call_zip_2 px.isList py.isList fun h' a1 a2 a3 a4 a5 a6 hk=>?_
 refine Calls.spliced_nil ?_
 have I2:Inv X pins σ H1 { s1 with heap:=h' }:=I1.kept (t':=s1.toks) hk
 have up:∀b o,h'.get? b=some o->(h'.push { cls:=.type "list",data:=.seq #[] }).get? b=some o:=fun b o e=>Heap.get?_push_of_some _ e
 have O:Zad.Ok ⟨s1.heap.objs.size+4,s1.heap.objs.size+2,s1.heap.objs.size+3,s1.heap.objs.size,s1.heap.objs.size+1,h'.objs.size,h'.objs.size+1⟩:=by
  rw[a6]
  exact f6s s1.heap.objs.size
 have old:∀b∈(Zad.mk (s1.heap.objs.size+4) (s1.heap.objs.size+2) (s1.heap.objs.size+3) s1.heap.objs.size (s1.heap.objs.size+1) h'.objs.size (h'.objs.size+1)).all,s1.heap.objs.size<=b:=fun b hb=>by
  rw[a6] at hb
  simp only[Zad.all,a0u,a1k,or_false] at hb
  rcases hb with rfl | rfl | rfl | rfl | rfl | rfl <;> first | exact d1s _ _ | exact a0h _
 have gS:(h'.push { cls:=.type "list",data:=.seq #[] }).get? h'.objs.size=some (lobj [] 0):=Heap.get?_push_size _ rfl
 refine callType_codes (Q₁:=fun ob t=>ob=.ref h'.objs.size∧t={ s1 with heap:=h'.push { cls:=.type "list",data:=.seq #[] } }) PySem.F.called_list (PySem.F.typeCall_list_1 _) PySem.F.entry_list_init (code_list_new _ ⟨rfl,rfl⟩) fun ob t ht=>?_
 obtain ⟨rfl,rfl⟩:=ht
 refine ⟨⟨_,gS,rfl⟩,PySem.F.args_list_init_2 _ _,?_⟩
 have L:LzI X pins σ H1 ⟨s1.heap.objs.size+4,s1.heap.objs.size+2,s1.heap.objs.size+3,s1.heap.objs.size,s1.heap.objs.size+1,h'.objs.size,h'.objs.size+1⟩ l1 l2 0 H1 { s1 with heap:=h'.push { cls:=.type "list",data:=.seq #[] } } :=
  ⟨I2.kept (t':=s1.toks) up,a1w.refl _,fun b hb=>I1.fpOk (old b hb) (I1.hok.fresh (old b hb)),by rw[Heap.size_push];exact a0h _,⟨⟨_,_,up _ _ a3⟩,.inl (up _ _ a1)⟩,up _ _ a2,a4.at fun o e=>up _ o e,a5.at fun o e=>up _ o e⟩
 refine e9c (A':=X.A.in1) (I.ok.hd hc) O hz hl qx qy L gS (up _ _ a1) fun s' H' ts acc c I' sm fS gS' vs' prs=>⟨rfl,?_⟩
 have nS:H1 h'.objs.size=none:=I1.hok.fresh (old _ (by simp [Zad.all]))
 have lt:=prs.length
 rw[d5t] at lt
 exact ⟨.ref h'.objs.size,_,I'.track (o:=.lst ts) fS ⟨by omega,acc,c,vs',gS'⟩,rfl,q _ ts _ (sm.trans (a1w.new fS.1)) nS a0y (Paired.imp' (fun _ _ z=>z.same (a1w.new fS.1)) prs)⟩
end
end L2
namespace Nm
def e3v:List Int->Int->Int
 | [],m=>m
 | b :: r,m=>e3v r (m*(b / g m b))
theorem c7r {m b:Int} (hm:0 < m) (hb:0 < b):0 < m*(b / g m b):=c3y hm (e1p (t:=m) hb)
theorem d7b {m b : Int} : b ∣ m * (b / g m b) := by
  have h1 := d6z m b
  refine ⟨lo m b, ?_⟩
  have h2 : b / g m b * g m b = b := d2u m b
  calc m * (b / g m b) = lo m b * g m b * (b / g m b) := by rw [h1]
    _ = lo m b * (b / g m b * g m b) := by rw [a4r, a7a (g m b)]
    _ = b * lo m b := by rw [h2, a7a]
theorem d4n:∀{bs:List Int} {m:Int},0 < m->(∀b∈bs,0 < b)->0 < e3v bs m
 | [],_,hm,_=>hm
 | b :: r,m,hm,h=>d4n (bs:=r) (c7r hm (h b a4e)) fun c hc=>h c (a2j _ hc)
theorem e1l:∀{bs:List Int} {m:Int},m∣e3v bs m
 | [],_=>Int.dvd_refl _
 | b :: r,m=>Int.dvd_trans (Int.dvd_mul_right m _) (e1l (bs:=r))
theorem e1k:∀{bs:List Int} {m b:Int},b∈bs->b∣e3v bs m
 | c :: r,m,b,h=>by
  rcases a0u.mp h with rfl | h
  ·exact Int.dvd_trans d7b (e1l (bs:=r))
  ·exact e1k (bs:=r) h
end Nm
namespace L2
open PySem PySem.Spec PyProof.Rows Nm
def f1t (K:PySem.W.Frag) (H:Hp) (p:Addr) (ns:List (Int×Int)):Prop:=∃xs,H p=some (.lst xs)∧Paired (fun n x=>f2y K H x n) ns xs
theorem f1t.same {K:PySem.W.Frag} {H H':Hp} {p:Addr} {ns:List (Int×Int)} (h:f1t K H p ns) (e:a1w H H'):f1t K H' p ns:=let ⟨xs,g,q⟩:=h;⟨xs,e _ _ g,Paired.imp' (fun _ _ z=>e.num z) q⟩
def e6c (K:PySem.W.Frag) (T:String):V->Hp->VK->Prop:=fun x H Q=>f6q K T x H Q∨∃a xs b,x=.ref a∧SqT K H a xs∧PySem.W.kitOne K (.type "tuple") (.type T)=some b∧Q (.bl b) H
theorem d7c:∀{bs:List Int} {m b:Int},e3v (bs++[b]) m=e3v bs m*(b / g (e3v bs m) b)
 | [],_,_=>rfl
 | c :: r,m,b=>d7c (bs:=r)
def b0g (ns:List (Int×Int)) (B:Int):List Int:=ns.map fun n=>n.1*(B / n.2)
def c0d (ns:List (Int×Int)):Int:=e3v (ns.map (·.2)) 1
def g0g (ns ms:List (Int×Int)):Int:=(List.zipWith (·*·) (b0g ns (c0d ns)) (b0g ms (c0d ms))).sum
theorem c5j {ns:List (Int×Int)} {n:Int×Int} (h:n∈ns):n.2∣c0d ns:=e1k (a0t.mpr ⟨n,h,rfl⟩)
theorem e3i {σ:St} {H:Hp} {Q:VK} {K:PySem.W.Frag} {ta:TA} (h:ta σ H fun vs H1=>∃(l1 l2:Addr) (xs ys:List V),vs=[.ref l1,.ref l2]∧SqL K H1 l1 xs∧SqL K H1 l2 ys∧ys.length=xs.length ∧
 ∀L ts H',a1w H1 H'->H1 L=none->H' L=some (.lst ts)->Paired (PrR H') (xs.zip ys) ts->Q (.ref L) H'):e0p K ta σ H Q:=h
theorem g_le {m b:Int} (hb:0 < b) {k:Nat} (h:Sz k b):Sz k (g m b):=h.le (by
 have h1:(g m b).natAbs=Int.gcd m b:=by unfold g;simp
 rw[h1]
 exact c2u (by omega) (by have:=a6c (a:=m) (b:=b);exact a6z.mpr this |> fun z=>by simpa using z))
theorem f3c {ts us:List Int} {i:Nat} {pq:V×V} (h:((ts.map V.int).zip (us.map V.int))[i]?=some pq):∃t u,ts[i]?=some t∧us[i]?=some u∧pq=(.int t,.int u):=by
 rw[List.getElem?_zip_eq_some,a0x,a0x] at h
 obtain ⟨h1,h2⟩:=h
 cases e1:ts[i]? with
 | none=>rw[e1] at h1;cases h1
 | some t =>
  cases e2:us[i]? with
  | none=>rw[e2] at h2;cases h2
  | some u =>
   rw[e1] at h1
   rw[e2] at h2
   refine ⟨t,u,rfl,rfl,?_⟩
   cases pq
   simp at h1 h2
   rw[h1,h2]
def e5m (K:PySem.W.Frag):Sp:=fun vs H Q _=>∃x n,vs=[x]∧f2y K H x n∧d8a n∧∀H',a1w H H'->Q (.bl true) H'
def d6b (K:PySem.W.Frag):Sp:=fun vs H Q _=>∃(p:Addr) (ns:List (Int×Int)),vs=[.ref p,.int ns.length]∧f1t K H p ns∧ns.length<=1000∧(∀n∈ns,d8a n)∧∀H',a1w H H'->Q (.bl true) H'
theorem d3z {X:Cx} {a:Expr} {ta:TE} {pos:Pos} {c:Str} {T:String} {p p2:Pos} (hg:Gl X "isinstance") (hm:X.mg "isinstance"=none) (hb:bootBuiltins c=some (.type T)) (hmc:X.mg c=none) (ha:PE X a ta) (hgc:Gl X c:=by rfl) (hn:c≠"__name__":=by decide)
  (hd:(c == ("__debug__":Str))=false:=by decide) (he:starEach [a,.Name c p2] X.env=[(false,eval a X.env),(false,eval (.Name c p2) X.env)]:=by rfl)
  (hpl:(backTo pos (starEach [.Name c p2] X.env)).any (·.1)=false:=by rfl) (he2:starEach [.Name c p2] X.env=[(false,eval (.Name c p2) X.env)]:=by rfl):PE X (.Call (.Name "isinstance" p) [a,.Name c p2] [] pos) (tUn (e6c X.K T) ta):=by
 intro pins s σ H Q I h
 refine wpAny_Call_Name_kw (b7e I hg hm PyProof.Rows.boot_isinstance ?_)
 have hA:PA X [a,.Name c p2] (c9b ta (c9b (tC (.ty T)) f3f)):=a0b ha (a0b (e6q hgc hmc hb rfl hn hd) a0g he2) (by rw[he,he2])
 have hq:c9b ta (c9b (tC (.ty T)) f3f) σ H (fun vs H1=>∃x,vs=[x,.ty T]∧e6c X.K T x H1 Q):=by
  show ta σ H fun x H1=>∃x',[x,V.ty T]=[x',V.ty T]∧e6c X.K T x' H1 Q
  have e:(fun x H1=>∃x',[x,V.ty T]=[x',V.ty T]∧e6c X.K T x' H1 Q)=fun x H1=>e6c X.K T x H1 Q:=by
   funext x H1
   apply propext
   constructor
   ·rintro ⟨x',e,q⟩;cases e;exact q
   ·intro q;exact ⟨x,rfl,q⟩
  rw[e]
  exact h
 refine PyProof.Rows.callWith_builtin1 (thn (hA pos pins s σ H _ I hq) fun us s1 ⟨vs,H1,I1,r1,x,e,q1⟩=>?_) (by rw[he,he2]) hpl
 subst e
 obtain ⟨u,w',rfl,ru,rt⟩:=vals2 r1
 cases rt
 rcases q1 with ⟨t,bb,ty,ek,q⟩ | ⟨ad,xs,bb,rfl,hs,ek,q⟩
 ·exact d7f I1 ru ty ek fun tk=>⟨.bl bb,H1,I1.tok tk,rfl,q⟩
 ·cases ru
  obtain ⟨its,_,⟨o,g1,g2,_⟩,_⟩:=I1.tuple hs
  exact a4g PySem.W.kitx_tuple I1.kIn ⟨o,g1,g2⟩ ek (fun z=>nomatch z) fun tk=>⟨.bl bb,H1,I1.tok tk,rfl,q⟩
end L2
namespace L2
open PySem PySem.Spec PyProof.Rows Nm
theorem f7z {H:Hp} {Q:VK} {l:Addr} {k:Nat} {x:V} (h:H l=some (.lst [x])) (hk:k<=1000) (q:∀p H',a1w H H'->H p=none->H' p=some (.lst (List.replicate k x))->Q (.ref p) H'):rRep (.ref l) (.int k) H Q :=
 ⟨l,k,[x],rfl,rfl,h,by omega,by omega,a1j (a2f (by simp;omega)),fun p hp=>q p _ (a1w.new hp) hp (by rw[a0y];simp)⟩
theorem g0h {xs:List V} {k:Nat} (h:k<=xs.length):d8h xs none (some (k:Int))=xs.take k:=by
 unfold d8h
 rw[HT.e0t,HT.d3t,b6i h]
 simp
theorem d2g {α β:Type} {F:α->β->Prop} {x:α} {y:β} (h:F x y):∀m:Nat,Paired F (List.replicate m x) (List.replicate m y)
 | 0=>.nil
 | m+1=>.cons h (d2g h m)
theorem a7f {n a:Nat} (h:a < n):ixN n (a:Int)=some a:=by
 unfold ixN
 rw[if_pos (by omega),if_pos (by omega),Int.toNat_natCast]
theorem f1o {xs:List V} {k:Nat}:d8h xs none (some (k:Int))=xs.take k:=by
 by_cases h:k<=xs.length
 ·exact g0h h
 ·unfold d8h
  rw[HT.e0t,HT.d3t,Nat.min_eq_right (by omega),a0r (by simp),a0r (by omega)]
  rfl
theorem c3c {α β:Type} {F:α->β->Prop}:∀{l1:List α} {l2:List β} (_:Paired F l1 l2) (k:Nat),Paired F (l1.take k) (l2.take k)
 | _,_,.nil,k=>by simp;exact .nil
 | _,_,.cons h r,0=>.nil
 | _,_,.cons h r,k+1=>.cons h (c3c r k)
end L2
namespace L2
open PySem PySem.Spec PyProof.Rows Nm
def f4u (K:PySem.W.Frag):List V->Hp->VK->Prop:=fun xs H Q=>∃p ys,xs=[.ref p]∧(SqL K H p ys∨SqT K H p ys)∧∀l,H l=none->Q (.ref l) (upd H l (.lst ys))
theorem b2x {X:Cx} (K:PySem.W.Frag) (hK:X.K=K):d0v X (.type "list") (f4u K):=by subst hK;exact c0c
theorem a1w.none {H H':Hp} {l:Addr} (s:a1w H H') (h:H' l=Option.none):H l=Option.none:=by
 cases e:H l with
 | none=>rfl
 | some o=>have:=s _ _ e;rw[h] at this;cases this
def g0o (K:PySem.W.Frag) (H:Hp) (p:Addr) (rows:List (List (Int×Int))):Prop:=∃xs,H p=some (.lst xs)∧Paired (fun ns x=>∃q,x=V.ref q∧f1t K H q ns) rows xs
theorem f2d {b:Int} (h:b.natAbs<=1000000):Sz 20 b:=a1m h (by decide)
theorem a7g.none {H H':Hp} {b l:Addr} (u:a7g b H H') (B:Bag H' b) (h:H' l=Option.none):H l=Option.none:=by
 cases e:H l with
 | none=>rfl
 | some o =>
  by_cases z:l=b
  ·obtain ⟨_,_,_,_,_,e2,_⟩:=B
   rw[← z,h] at e2
   cases e2
  ·have:=u.1 l o e z
   rw[h] at this
   cases this
def e2y (K:PySem.W.Frag):Sp:=fun vs H Q _=>∃(p:Addr) (rows:List (List (Int×Int))) (m:Nat),vs=[.ref p,.int rows.length,.int m]∧g0o K H p rows∧rows.length<=1000∧m<=1000∧(∀ns∈rows,ns.length=m∧∀n∈ns,d8a n)∧∀H',a1w H H'->Q (.bl true) H'
end L2
namespace Nm
def nm (q:Rat):Int×Int:=(q.num,(q.den:Int))
theorem b4y (q:Rat):0 < (nm q).2:=by have:=q.den_pos;show 0 < (q.den:Int);omega
theorem e1g (q:Rat):Int.gcd (nm q).1 (nm q).2=1:=q.reduced
theorem f9d {p q:Rat} (h:nm p=nm q):p=q:=by
 have h1:p.num=q.num:=congrArg Prod.fst h
 have h2:(p.den:Int)=q.den:=congrArg Prod.snd h
 exact Rat.ext h1 (by omega)
theorem c3f (q : Rat) : (q.num : Rat) = q * (q.den : Rat) := by
  have h := Rat.num_divInt_den q
  rw [Rat.divInt_eq_div] at h
  have hd : ((q.den : Int) : Rat) ≠ 0 := by
    intro z
    have z := d0y.mp z
    have := q.den_pos
    omega
  have e : ((q.den : Int) : Rat) = (q.den : Rat) := a0v _
  calc (q.num : Rat) = (q.num : Rat) / ((q.den : Int) : Rat) * ((q.den : Int) : Rat) := (Rat.div_mul_cancel hd).symm
    _ = q * (q.den : Rat) := by rw [h, e]
theorem g1r {a b:Int} {q:Rat} (hb:0 < b) (hg:Int.gcd a b=1) (e:q*(b:Rat)=(a:Rat)):(a,b)=nm q:=by
 have h1:a*(q.den:Int)=q.num*b:=by
  apply a4m.mp
  rw[a1b,a1b,← e,c3f,a0v]
  grind
 obtain ⟨e1,e2⟩:=uniq hb (b4y q) hg (e1g q) h1
 exact Prod.ext e1 e2
theorem c3i {t b:Int} {q:Rat} (hb:0 < b) (e:q*(b:Rat)=(t:Rat)):(lo t b,hi t b)=nm q:=by
 refine g1r (e1p hb) (d4l (by omega)) ?_
 have h:=d2r t b
 have hb':(b:Rat)≠0:=fun z=>by have:=d0y.mp z;omega
 have h2:((lo t b:Int):Rat)*(b:Rat)=(t:Rat)*((hi t b:Int):Rat):=by rw[← a1b,h,a1b]
 rw[← e] at h2
 have h3:(q*((hi t b:Int):Rat) - ((lo t b:Int):Rat))*(b:Rat)=0:=by grind
 rcases b6h.mp h3 with h4 | h4
 ·grind
 ·exact absurd h4 hb'
def Fr (M V:Nat) (q:Rat):Prop:=∃z:Int,q*(M:Rat)=(z:Rat)∧z.natAbs<=V*M
theorem Fr.mono {M V V':Nat} {q:Rat} (h:Fr M V q) (l:V<=V'):Fr M V' q:=let ⟨z,e,b⟩:=h;⟨z,e,a0d b (a0n _ l)⟩
theorem Fr.scale {M V:Nat} {q:Rat} (h:Fr M V q) (k:Nat):Fr (M*k) V q:=by
 obtain ⟨z,e,b⟩:=h
 refine ⟨z*k,?_,?_⟩
 ·rw[a5m,a1b,← e,a0v,Rat.mul_assoc]
 ·rw[a3t,a2m,← a6x]
  exact a0n _ b
theorem Fr.scaleL {M V:Nat} {q:Rat} (h:Fr M V q) (k:Nat):Fr (k*M) V q:=by rw[a3d];exact h.scale k
theorem Fr.dvd {M N V:Nat} {q:Rat} (h:Fr M V q) (d:M∣N):Fr N V q:=by obtain ⟨k,rfl⟩:=d;exact h.scale k
theorem Fr.add {M V W:Nat} {p q:Rat} (h:Fr M V p) (h':Fr M W q):Fr M (V+W) (p+q):=by
 obtain ⟨z,e,b⟩:=h
 obtain ⟨z',e',b'⟩:=h'
 refine ⟨z+z',by rw[d5p,← e,← e',Rat.add_mul],?_⟩
 rw[Nat.add_mul]
 have:=Int.natAbs_add_le z z'
 omega
theorem Fr.neg {M V:Nat} {q:Rat} (h:Fr M V q):Fr M V (-q):=by
 obtain ⟨z,e,b⟩:=h
 exact ⟨-z,by rw[a3q,← e,Rat.neg_mul],by rw[b4d];exact b⟩
theorem Fr.mul {M N V W : Nat} {p q : Rat} (h : Fr M V p) (h' : Fr N W q) : Fr (M * N) (V * W) (p * q) := by
  obtain ⟨z, e, b⟩ := h
  obtain ⟨z', e', b'⟩ := h'
  refine ⟨z * z', ?_, ?_⟩
  · rw [a5m, a1b, ← e, ← e']; grind
  · rw [a3t]
    calc z.natAbs * z'.natAbs ≤ (V * M) * (W * N) := a2a b b'
      _ = V * W * (M * N) := by rw [a6x, Nat.mul_left_comm M, ← a6x]
theorem Fr.zero {M V:Nat}:Fr M V 0:=⟨0,by simp,by simp⟩
theorem Fr.int {M V:Nat} {i:Int} (h:i.natAbs<=V):Fr M V (i:Rat):=⟨i*M,by rw[a1b,a0v],by rw[a3t,a2m];exact a0n _ h⟩
theorem Fr.one {M V:Nat} (h:1<=V):Fr M V 1:=Fr.int (i:=1) h
theorem Fr.den {M V:Nat} {q:Rat} (h:Fr M V q):(q.den:Int)∣(M:Int):=by
 obtain ⟨z,e,b⟩:=h
 have h1:q.num*(M:Int)=z*(q.den:Int):=by
  apply a4m.mp
  rw[a1b,a1b,← e,c3f,a0v,a0v]
  grind
 have h2:(q.den:Int)∣q.num*(M:Int):=⟨z,by rw[h1,a7a]⟩
 exact c1d (by rw[b4u];exact e1g q) h2
theorem Fr.den_le {M V:Nat} {q:Rat} (h:Fr M V q) (hM:0 < M):q.den<=M:=c2u hM (d1a.mp h.den)
theorem Fr.num_le {M V:Nat} {q:Rat} (h:Fr M V q) (hM:0 < M):q.num.natAbs<=V*M:=by
 have hd:=h.den
 obtain ⟨z,e,b⟩:=h
 obtain ⟨k,hk⟩:=d1a.mp hd
 have hk0:k≠0:=fun z=>by rw[z,Nat.mul_zero] at hk;omega
 have h1:z=q.num*(k:Int):=by
  apply a4m.mp
  rw[a1b,← e,c3f,a0v,hk,a5m]
  grind
 rw[h1] at b
 exact a0d (b7o (by omega)) b
theorem Fr.own (q:Rat) {V:Nat} (h:q.num.natAbs<=V):Fr q.den V q:=⟨q.num,(c3f q).symm,a0d h (a4o _ q.den_pos)⟩
theorem Fr.sz {M V k j:Nat} {q:Rat} (h:Fr M V q) (hM:0 < M) (h1:M<=2^k) (h2:V<=2^j):Sz (j+k+1) (nm q).1∧Sz (k+1) (nm q).2:=by
 constructor
 ·show q.num.natAbs < 2^(j+k+1)
  have h3:=h.num_le hM
  have h4:V*M<=2^j*2^k:=a2a h2 h1
  rw[b1q,a4k]
  have:=Nat.two_pow_pos (j+k)
  rw[a4k] at this
  omega
 ·show (q.den:Int).natAbs < 2^(k+1)
  have h3:=h.den_le hM
  rw[a2m,b1q]
  have:=Nat.two_pow_pos k
  omega
theorem Fr.sum {M V:Nat}:∀{l:List Rat},(∀x∈l,Fr M V x)->Fr M (l.length*V) l.sum
 | [],_=>by simp;exact Fr.zero
 | x :: r,h=>by
  rw[List.sum_cons,a1n,a4d,b9m]
  exact (h x (.head _)).add (Fr.sum fun y hy=>h y (.tail _ hy))
def b4j (xs ys:List Rat):Rat:=(List.zipWith (·*·) xs ys).sum
theorem Fr.dot {M N V W : Nat} {xs ys : List Rat} (h : ∀ x ∈ xs, Fr M V x) (h' : ∀ y ∈ ys, Fr N W y) : Fr (M * N) (xs.length * (V * W)) (b4j xs ys) := by
  have q := Fr.sum (M := M * N) (V := V * W) (l := List.zipWith (· * ·) xs ys) fun z hz => by
    obtain ⟨i, hi, e⟩ := a2c hz
    rw [b2f] at e
    rw [← e]
    exact (h _ (a0z _)).mul (h' _ (a0z _))
  exact q.mono (a0n _ (by rw [a2i]; omega))
theorem d4m : ∀ {bs : List Int} {m M : Int}, 0 < m → m ∣ M → (∀ b ∈ bs, 0 < b ∧ b ∣ M) → e3v bs m ∣ M
  | [], _, _, _, h, _ => h
  | b :: r, m, M, hm, h, hb => by
    have b1 := hb b a4e
    refine d4m (bs := r) (c7r hm b1.1) ?_ fun c hc => hb c (a2j _ hc)
    -- m * (b / gcd) divides M
    have gp : 0 < g m b := d9p (by omega)
    have e1 := d6z m b
    have e2 := d2u m b
    obtain ⟨u, hu⟩ := h
    obtain ⟨v, hv⟩ := b1.2
    have h3 : lo m b * u = hi m b * v := by
      apply c6e (show g m b ≠ 0 by omega)
      calc lo m b * u * g m b = lo m b * g m b * u := by rw [a4r, a7a u, ← a4r]
        _ = m * u := by rw [e1]
        _ = M := hu.symm
        _ = b * v := hv
        _ = hi m b * g m b * v := by rw [e2]
        _ = hi m b * v * g m b := by rw [a4r, a7a (g m b), ← a4r]
    have h4 : hi m b ∣ lo m b * u := ⟨v, h3⟩
    have h5 : hi m b ∣ u := c1d (by rw [b4u]; exact d4l (by omega)) h4
    obtain ⟨w, hw⟩ := h5
    refine ⟨w, ?_⟩
    show M = m * hi m b * w
    rw [hu, hw, a4r]
theorem e1t {a b:Int} {k:Nat} (hb:0 < b) (d:a∣b) (h:Sz k b):Sz k a:=h.le (c2u (by omega) (a6z.mpr d))
end Nm
namespace Nm
def Dr (W:Nat) (x:Rat):Prop:=x.num.natAbs<=W∧x.den<=W
def e3j:List Nat->Nat
 | []=>1
 | a :: r=>a*e3j r
theorem d6k:∀{l:List Nat},(∀a∈l,0 < a)->0 < e3j l
 | [],_=>Nat.one_pos
 | a :: r,h=>a7k (h a (.head _)) (d6k fun b hb=>h b (.tail _ hb))
theorem d6l:∀{l:List Nat} {a:Nat},a∈l->a∣e3j l
 | b :: r,a,h=>by
  rcases a0u.mp h with rfl | h
  ·exact Nat.dvd_mul_right ..
  ·exact Nat.dvd_trans (d6l h) (Nat.dvd_mul_left ..)
theorem e0w {k:Nat}:∀{l:List Nat},(∀a∈l,a<=2^k)->e3j l<=2^(k*l.length)
 | [],_=>by simp [e3j]
 | a :: r,h=>by
  rw[a1n,Nat.mul_succ,a4k,a3d (2^(k*r.length))]
  exact a2a (h a (.head _)) (e0w fun b hb=>h b (.tail _ hb))
def GF (M V:Nat) (rows:List (List Rat)):Prop:=∀xs∈rows,∀x∈xs,Fr M V x
def a2s (rows:List (List Rat)) (w:Nat):List (List Rat):=(List.range w).map fun j=>rows.map fun xs=>xs.getD j 0
theorem a3b {rows:List (List Rat)} {w:Nat}:(a2s rows w).length=w:=by simp [a2s]
theorem b4e {rows:List (List Rat)} {w:Nat}:∀ys∈a2s rows w,ys.length=rows.length:=fun ys hy=>by
 obtain ⟨j,_,rfl⟩:=a0t.mp hy
 exact a0e ..
theorem getD_map {α:Type} {l:List α} {f:α->Rat} {i:Nat} (h:i < l.length):(l.map f).getD i 0=f l[i]:=by
 rw[a0a,a0x,a0c h];rfl
theorem d5x {rows:List (List Rat)} {w:Nat} (h:∀xs∈rows,xs.length=w):a2s (a2s rows w) rows.length=rows:=by
 apply a4i
 ·exact a3b
 ·intro i h1 h2
  have e:(a2s (a2s rows w) rows.length)[i]=(a2s rows w).map fun xs=>xs.getD i 0:=by simp [a2s]
  rw[e]
  have hw:=h rows[i] (a0z h2)
  apply a4i
  ·rw[a0e,a3b,hw]
  ·intro j h3 h4
   rw[a5r]
   have e2:(a2s rows w)[j]'(by rw[a3b];omega)=rows.map fun xs=>xs.getD j 0:=by simp [a2s]
   rw[e2,getD_map h2,a0a,a0c h4]
   rfl
end Nm
namespace L2
open PySem PySem.Spec PyProof.Rows Nm
theorem a7g.sqt {K:PySem.W.Frag} {H H':Hp} {b a:Addr} {xs:List V} (u:a7g b H H') (B:Bag H b) (h:SqT K H a xs):SqT K H' a xs:=by
 rcases h with (h | ⟨o,h⟩) | h
 ·exact .inl (.inl (u.tup B h))
 ·exact .inl (.inr ⟨o,u.other (fun z=>by obtain ⟨_,_,_,_,_,e,_⟩:=B;rw[z,e] at h;cases h) h⟩)
 ·exact .inr h
theorem e9h {K:PySem.W.Frag} {H:Hp} {a l:Addr} {xs ys:List V} {o:HO} (h:SqT K H a xs) (hl:H l=some (.lst ys)):SqT K (upd H l o) a xs:=by
 rcases h with (h | ⟨o,h⟩) | h
 ·exact .inl (.inl (by rw[a2d fun z=>by rw[z,hl] at h;cases h];exact h))
 ·exact .inl (.inr ⟨o,by rw[a2d fun z=>by rw[z,hl] at h;cases h];exact h⟩)
 ·exact .inr h
def a5w (K:PySem.W.Frag) (H:Hp) (q:Rat) (x:V):Prop:=f2y K H x (nm q)
section
variable {K:PySem.W.Frag} {H H':Hp} {q:Rat} {x:V} {b l p:Addr} {qs:List Rat}
theorem a5w.same (h:a5w K H q x) (e:a1w H H'):a5w K H' q x:=e.num h
theorem a5w.upto (h:a5w K H q x) (u:a7g b H H') (B:Bag H b):a5w K H' q x:=let ⟨p,e,s⟩:=h;⟨p,e,u.sqt B s⟩
theorem a5w.updL {ys:List V} {o:HO} (h:a5w K H q x) (hl:H l=some (.lst ys)):a5w K (upd H l o) q x:=let ⟨p,e,s⟩:=h;⟨p,e,e9h s hl⟩
theorem a5w.mk {r:Addr} {a c:Int} (h:H r=some (.tup [.int a,.int c])) (e:(a,c)=nm q):a5w K H q (.ref r):=⟨r,rfl,by rw[← e];exact SqT.of h⟩
def a6v (K:PySem.W.Frag) (H:Hp) (p:Addr) (qs:List Rat):Prop:=∃xs,H p=some (.lst xs)∧Paired (a5w K H) qs xs
theorem a6v.same (h:a6v K H p qs) (e:a1w H H'):a6v K H' p qs:=let ⟨xs,g,r⟩:=h;⟨xs,e _ _ g,Paired.imp' (fun _ _ z=>z.same e) r⟩
theorem a6v.upto (h:a6v K H p qs) (u:a7g b H H') (B:Bag H b) (n:p≠b):a6v K H' p qs:=let ⟨xs,g,r⟩:=h;⟨xs,u.other n g,Paired.imp' (fun _ _ z=>z.upto u B) r⟩
theorem a6v.updL {ys:List V} {o:HO} (h:a6v K H p qs) (hl:H l=some (.lst ys)) (n:p≠l):a6v K (upd H l o) p qs:=let ⟨xs,g,r⟩:=h;⟨xs,by rw[a2d n];exact g,Paired.imp' (fun _ _ z=>z.updL hl) r⟩
theorem c3d {α β γ:Type} {F:α->β->Prop} {f:γ->α}:∀{l:List γ} {l2:List β},Paired (fun c x=>F (f c) x) l l2->Paired F (l.map f) l2
 | _,_,.nil=>.nil
 | _,_,.cons r t=>.cons r (c3d t)
theorem a6v.rowK (h:a6v K H p qs):f1t K H p (qs.map nm):=let ⟨xs,g,r⟩:=h;⟨xs,g,c3d (F:=fun n x=>f2y K H x n) r⟩
def a8x (K:PySem.W.Frag) (H0 H:Hp) (qs:List Rat) (x:V):Prop:=∃q,x=V.ref q∧H0 q=none∧a6v K H q qs
def a3e (K:PySem.W.Frag) (H0 H:Hp) (p:Addr) (rows:List (List Rat)):Prop:=∃xs,H p=some (.lst xs)∧Paired (a8x K H0 H) rows xs∧V.ref p∉xs
theorem c4p {H0:Hp} {K:PySem.W.Frag} {p:Addr} {rows:List (List Rat)} {ys:List V} (h:∃H2,H2 p=none∧Paired (a8x K H0 H2) rows ys):V.ref p∉ys:=fun hm=>by
 obtain ⟨H2,e,pr⟩:=h
 obtain ⟨qs,_,q,z,_,xs,g,_⟩:=a5l pr hm
 cases z
 rw[e] at g;cases g
variable {H0:Hp} {rows:List (List Rat)}
theorem a8x.same (h:a8x K H0 H qs x) (e:a1w H H'):a8x K H0 H' qs x:=let ⟨q,a,b,c⟩:=h;⟨q,a,b,c.same e⟩
theorem a8x.upto (h:a8x K H0 H qs x) (u:a7g b H H') (B:Bag H b) (nb:H0 b≠none):a8x K H0 H' qs x:=let ⟨q,a,c,d⟩:=h;⟨q,a,c,d.upto u B fun z=>nb (by rw[← z];exact c)⟩
theorem a8x.weak (h:a8x K H0 H qs x) {H1:Hp} (e:a1w H1 H0):a8x K H1 H qs x:=let ⟨q,a,b,c⟩:=h;⟨q,a,e.none b,c⟩
theorem a3e.same (h:a3e K H0 H p rows) (e:a1w H H'):a3e K H0 H' p rows:=let ⟨xs,g,r,n⟩:=h;⟨xs,e _ _ g,Paired.imp' (fun _ _ z=>z.same e) r,n⟩
theorem a3e.upto (h:a3e K H0 H p rows) (u:a7g b H H') (B:Bag H b) (n:p≠b) (nb:H0 b≠none):a3e K H0 H' p rows:=let ⟨xs,g,r,nn⟩:=h;⟨xs,u.other n g,Paired.imp' (fun _ _ z=>z.upto u B nb) r,nn⟩
theorem a3e.weak (h:a3e K H0 H p rows) {H1:Hp} (e:a1w H1 H0):a3e K H1 H p rows:=let ⟨xs,g,r,n⟩:=h;⟨xs,g,Paired.imp' (fun _ _ z=>z.weak e) r,n⟩
theorem a3e.gridK (h:a3e K H0 H p rows):g0o K H p (rows.map (List.map nm)):=let ⟨xs,g,r,_⟩:=h;⟨xs,g,c3d (F:=fun ns x=>∃q,x=V.ref q∧f1t K H q ns) (Paired.imp' (fun _ _ ⟨q,a,_,c⟩=>⟨q,a,c.rowK⟩) r)⟩
end
def f9p:Kind Rat:=kNum.via nm (fun _ _ e=>f9d e) (fun K H x q=>a5w K H q x) id
def SzN (x:Rat):Prop:=Sz 4000 (nm x).1∧Sz 4000 (nm x).2
def Fits (l:List Rat):Prop:=∃M V:Nat,0 < M∧M<=2^900∧V<=2^900∧∀x∈l,Fr M V x
theorem Fits.szn {l:List Rat} (h:Fits l) {x:Rat} (hx:x∈l):SzN x:=by
 obtain ⟨M,V,h0,h1,h2,h3⟩:=h
 obtain ⟨a,b⟩:=(h3 x hx).sz h0 h1 h2
 exact ⟨a.mono (by decide),b.mono (by decide)⟩
theorem Fits.ok {l:List Rat} (h:Fits l) {x:Rat} (hx:x∈l):d8a (nm x):=⟨b4y x,e1g x,(h.szn hx).1.mono (by decide),(h.szn hx).2.mono (by decide)⟩
theorem e7v {M V:Nat} {x:Rat} (h0:0 < M) (h1:M<=2^1800) (h2:V<=2^1810) (h:Fr M V x):SzN x:=by
 obtain ⟨a,b⟩:=h.sz h0 h1 h2
 exact ⟨a.mono (by decide),b.mono (by decide)⟩
theorem f2c {x:Rat} (h:SzN x):d8a (nm x):=⟨b4y x,e1g x,h.1.mono (by decide),h.2.mono (by decide)⟩
def c9e (K:PySem.W.Frag) (f:Rat->Rat->Rat):Sp:=fun vs H Q _=>∃(u v:V) (x y:Rat),vs=[u,v]∧a5w K H x u∧a5w K H y v∧SzN x∧SzN y∧∀r H',a1w H H'->a5w K H' (f x y) (.ref r)->Q (.ref r) H'
section
variable {K:PySem.W.Frag} {vs:List V} {H:Hp} {Q:VK} {E:XK}
theorem e6v {f:Rat->Rat->Rat} {F:Int->Int->Int->Int->Int} (hf:∀x y:Rat,(f x y)*(((nm x).2*(nm y).2:Int):Rat)=((F (nm x).1 (nm x).2 (nm y).1 (nm y).2:Int):Rat)) (h:c9e K f vs H Q E):e9x K F vs H Q E:=by
 obtain ⟨u,v,x,y,rfl,⟨p,rfl,hp⟩,⟨q,rfl,hq⟩,⟨s1,s2⟩,⟨s3,s4⟩,k⟩:=h
 refine ⟨p,q,_,_,_,_,rfl,hp,hq,b4y x,b4y y,s1,s2,s3,s4,fun r H' s g=>k r H' s (a5w.mk g ?_)⟩
 exact c3i (c3y (b4y x) (b4y y)) (hf x y)
theorem c9o (x:Rat):(((nm x).1:Int):Rat)=x*(((nm x).2:Int):Rat):=by
 show (x.num:Rat)=x*(((x.den:Nat):Int):Rat)
 rw[c3f,a0v]
theorem e8o (h:c9e K (fun x y=>x+y) vs H Q E):e9x K g0b vs H Q E:=e6v (fun x y=>by
 unfold g0b
 rw[d5p,a1b,a1b,a1b,c9o,c9o]
 grind) h
theorem e4w (h:c9e K (fun x y=>x - y) vs H Q E):e9x K f2q vs H Q E:=e6v (fun x y=>by
 unfold f2q
 rw[Rat.intCast_sub,a1b,a1b,a1b,c9o,c9o]
 grind) h
theorem e7f (h:c9e K (fun x y=>x*y) vs H Q E):e9x K f2p vs H Q E:=e6v (fun x y=>by
 unfold f2p
 rw[a1b,a1b,c9o,c9o]
 grind) h
end
def f6g (M:Int) (ns:List (Int×Int)):Prop:=0 < M∧Sz 4400 M∧∀n∈ns,0 < n.2∧n.2∣M∧Sz 4400 n.1
theorem f6g.bot {M:Int} {ns:List (Int×Int)} (h:f6g M ns):0 < c0d ns∧Sz 4400 (c0d ns):=by
 have hb:∀b∈ns.map (·.2),0 < b∧b∣M:=fun b hb=>by
  obtain ⟨n,hn,rfl⟩:=a0t.mp hb
  exact ⟨(h.2.2 n hn).1,(h.2.2 n hn).2.1⟩
 exact ⟨d4n (by decide) fun b q=>(hb b q).1,e1t h.1 (d4m (by decide) (Int.one_dvd _) hb) h.2.1⟩
def f7k (K:PySem.W.Frag):Sp:=fun vs H Q _=>∃(p:Addr) (bs:List Int) (M:Int),vs=[.ref p]∧SqL K H p (bs.map V.int)∧0 < M∧Sz 4400 M∧(∀b∈bs,0 < b∧b∣M)∧Q (.int (e3v bs 1)) H
def f7l (K:PySem.W.Frag):Sp:=fun vs H Q _=>∃(p:Addr) (ns:List (Int×Int)) (M:Int),vs=[.ref p]∧f1t K H p ns∧ns.length<=1000∧f6g M ns∧∀H',a1w H H'->Q (.int (c0d ns)) H'
def e9k (K:PySem.W.Frag):Sp:=fun vs H Q _=>∃(p:Addr) (ns:List (Int×Int)) (M:Int) (B:Int),vs=[.ref p,.int B]∧f1t K H p ns∧ns.length<=1000∧f6g M ns∧0 < B∧Sz 4400 B ∧
 ∀r H',H r=none->a1w H H'->H' r=some (.lst ((b0g ns B).map V.int))->Q (.ref r) H'
theorem e0o {M:Int} {ns:List (Int×Int)} {B t:Int} (h:f6g M ns) (hB:0 < B) (sB:Sz 4400 B) (ht:t∈b0g ns B):Sz 8800 t:=by
 obtain ⟨n,hn,rfl⟩:=a0t.mp ht
 have hp:=h.2.2 n hn
 have sq:Sz 4400 (B / n.2):=sB.le (by
  rw[Int.natAbs_ediv_of_nonneg (by omega)]
  exact Nat.div_le_self ..)
 exact (hp.2.2.mul sq).mono (by omega)
theorem c4a {x:Rat} {B:Int} (h:(nm x).2∣B):(((nm x).1*(B / (nm x).2):Int):Rat)=x*(B:Rat):=by
 obtain ⟨k,rfl⟩:=h
 have hp:=b4y x
 rw[Int.mul_ediv_cancel_left _ (by omega),a1b,a1b,c9o]
 grind
theorem e1z {B C : Int} : ∀ {xs ys : List Rat}, (∀ x ∈ xs, (nm x).2 ∣ B) → (∀ y ∈ ys, (nm y).2 ∣ C) → (((List.zipWith (· * ·) (b0g (xs.map nm) B) (b0g (ys.map nm) C)).sum : Int) : Rat) = b4j xs ys * ((B : Rat) * (C : Rat))
  | [], ys, _, _ => by simp [b0g, b4j]
  | x :: xs, [], _, _ => by simp [b0g, b4j]
  | x :: xs, y :: ys, h1, h2 => by
    have ih := e1z (B := B) (C := C) (xs := xs) (ys := ys) (fun z hz => h1 z (.tail _ hz)) (fun z hz => h2 z (.tail _ hz))
    have e1 := c4a (h1 x (.head _))
    have e2 := c4a (h2 y (.head _))
    have e3 : (List.zipWith (· * ·) (b0g ((x :: xs).map nm) B) (b0g ((y :: ys).map nm) C)).sum = ((nm x).1 * (B / (nm x).2)) * ((nm y).1 * (C / (nm y).2)) + (List.zipWith (· * ·) (b0g (xs.map nm) B) (b0g (ys.map nm) C)).sum := rfl
    have e4 : b4j (x :: xs) (y :: ys) = x * y + b4j xs ys := rfl
    rw [e3, e4, d5p, a1b, ih, e1, e2]
    grind
theorem f5t {xs ys:List Rat} (h1:0 < c0d (xs.map nm)) (h2:0 < c0d (ys.map nm)):(lo (g0g (xs.map nm) (ys.map nm)) (c0d (xs.map nm)*c0d (ys.map nm)),hi (g0g (xs.map nm) (ys.map nm)) (c0d (xs.map nm)*c0d (ys.map nm)))=nm (b4j xs ys):=by
 refine c3i (c3y h1 h2) ?_
 unfold g0g
 rw[e1z (fun x hx=>c5j (a0t.mpr ⟨x,hx,rfl⟩)) (fun x hx=>c5j (a0t.mpr ⟨x,hx,rfl⟩)),a1b]
def e9j (K:PySem.W.Frag):Sp:=fun vs H Q _=>∃(p:Addr) (w:Nat) (H0:Hp) (rows:List (List Rat)),vs=[.ref p,.int w]∧a3e K H0 H p rows∧rows.length<=1000∧w<=1000∧(∀xs∈rows,xs.length=w) ∧
 ∀r H',H r=none->a1w H H'->a3e K H H' r (a2s rows w)->Q (.ref r) H'
def g0w (m:Nat) (a:Int):List Rat:=(List.range m).map fun (i:Nat)=>if ((i:Nat):Int)=a then 1 else 0
def e9i (K:PySem.W.Frag):Sp:=fun vs H Q _=>∃(m:Nat) (a:Int),vs=[.int m,.int a]∧m<=1000∧∀r H',H r=none->a1w H H'->a6v K H' r (g0w m a)->Q (.ref r) H'
def e2x (K:PySem.W.Frag):Sp:=fun vs H Q _=>∃(b:Addr) (w:Nat),vs=[.ref b,.int w]∧Bag H b∧1<=w∧w<=1000000∧∀r x H',Dr (max w 6) x->a5w K H' x (.ref r)->Bag H' b->a7g b H H'->Q (.ref r) H'
def e9v (K:PySem.W.Frag):Sp:=fun vs H Q _=>∃(b:Addr) (m w:Nat),vs=[.ref b,.int m,.int w]∧Bag H b∧m<=1000∧1<=w∧w<=1000000 ∧
 ∀r xs H',H r=none->a6v K H' r xs->xs.length=m->(∀x∈xs,Dr (max w 6) x)->Bag H' b->a7g b H H'->Q (.ref r) H'
def e9m (K:PySem.W.Frag):Sp:=fun vs H Q _=>∃(p q:Addr) (xs ys:List Rat),vs=[.ref p,.ref q]∧a6v K H p xs∧a6v K H q ys∧ys.length=xs.length∧xs.length<=1000∧(∀x∈xs,SzN x)∧(∀y∈ys,SzN y) ∧
 ∀r H',H r=none->a1w H H'->a6v K H' r (List.zipWith (fun x y=>x+y) xs ys)->Q (.ref r) H'
def f7m (K:PySem.W.Frag):Sp:=fun vs H Q _=>∃(u:V) (q:Addr) (c:Rat) (ys:List Rat),vs=[u,.ref q]∧a5w K H c u∧SzN c∧a6v K H q ys∧ys.length<=1000∧(∀y∈ys,SzN y) ∧
 ∀r H',H r=none->a1w H H'->a6v K H' r (ys.map fun y=>c*y)->Q (.ref r) H'
def e3a (K:PySem.W.Frag):Sp:=fun vs H Q _=>∃(p:Addr) (H0:Hp) (rows:List (List Rat)),vs=[.ref p]∧a3e K H0 H p rows∧rows.length<=1000∧(∀xs∈rows,xs.length<=1000)∧∀r H',H r=none->a1w H H'->a3e K H H' r rows->Q (.ref r) H'
section
variable {K:PySem.W.Frag} {a:Addr} {xs:List V} {g:TG} {tf:TT} {te:TE} {Q:VK} {σ₀:St} {H:Hp} {α β:Type}
theorem a9w {as:List α} {F:Hp->α->V->Prop} (G:Hp->β->V->Prop) (f:α->β) (hx:H a=some (.lst xs)) (pf:Paired (F H) as xs) (hl:as.length<=1000)
  (hF:∀{H H' c x},F H c x->a1w H H'->F H' c x) (hG:∀{H H' c x},G H c x->a1w H H'->G H' c x)
  (hs:∀(i:Nat) c x H' NY NN,as[i]?=some c->a1w H H'->F H' c x->(∀y H2,a1w H' H2->G H2 (f c) y->NY y H2)->d1b σ₀ g tf te x H' NY NN)
  (hd:∀ys H' p,H p=none->a1w H H'->H' p=some (.lst ys)->Paired (G H') (as.map f) ys->(∃H2,H2 p=none∧Paired (G H2) (as.map f) ys)->Q (.ref p) H'):d1q (Itl K a) σ₀ g tf te Q H:=by
 have lx:=pf.length
 refine a6j (K:=K) (xs:=xs) (fun i ys H'=>a1w H H'∧Paired (G H') ((as.take i).map f) ys) (a1j (a2f (by omega))) ⟨a1w.refl _,.nil⟩ (fun i ys H' _ ⟨s,_⟩=>SqL.of (s _ _ hx)) ?_ ?_
 ·rintro i x ys H' hx' hlen ⟨s,pr⟩
  obtain ⟨c,ec,hc⟩:=a2z pf hx'
  refine hs i c x H' _ _ ec s (hF hc s) fun y H2 s2 gy=>⟨s.trans s2,?_⟩
  rw[take_snoc ec,a3y]
  exact a2t (Paired.imp' (fun _ _ z=>hG z s2) pr) (.cons gy .nil)
 ·rintro ys H' hy ⟨s,pr⟩ p hp
  rw[a0r (by omega)] at pr
  exact hd ys _ p (s.none hp) (s.trans (a1w.new hp)) a0y (Paired.imp' (fun _ _ z=>hG z (a1w.new hp)) pr) ⟨H',hp,pr⟩
theorem b1x {n:Nat} (G:Hp->β->V->Prop) (f:Nat->β) (hl:n<=1000) (hG:∀{H H' c x},G H c x->a1w H H'->G H' c x)
  (hs:∀(i:Nat) H' NY NN,i < n->a1w H H'->(∀y H2,a1w H' H2->G H2 (f i) y->NY y H2)->d1b σ₀ g tf te (.int i) H' NY NN)
  (hd:∀ys H' p,H p=none->a1w H H'->H' p=some (.lst ys)->Paired (G H') ((List.range n).map f) ys->(∃H2,H2 p=none∧Paired (G H2) ((List.range n).map f) ys)->Q (.ref p) H'):d1q (Itr 0 n) σ₀ g tf te Q H:=by
 refine c1l (fun i ys H'=>a1w H H'∧Paired (G H') ((List.range i).map f) ys) (a1j (a2f (by omega))) ⟨a1w.refl _,.nil⟩ ?_ ?_
 ·rintro i ys H' hi hlen ⟨s,pr⟩
  rw[d5u]
  refine hs i H' _ _ hi s fun y H2 s2 gy=>⟨s.trans s2,?_⟩
  rw[c3u,a3y]
  exact a2t (Paired.imp' (fun _ _ z=>hG z s2) pr) (.cons gy .nil)
 ·rintro ys H' hy ⟨s,pr⟩ p hp
  exact hd ys _ p (s.none hp) (s.trans (a1w.new hp)) a0y (Paired.imp' (fun _ _ z=>hG z (a1w.new hp)) pr) ⟨H',hp,pr⟩
theorem e8e {n:Nat} {b:Addr} (G:Hp->β->V->Prop) (C:β->Prop) (hB:Bag H b) (hl:n<=1000) (hG:∀{H' H'' c x},G H' c x->a7g b H' H''->Bag H' b->G H'' c x)
  (hs:∀(i:Nat) H' NY NN,i < n->a7g b H H'->Bag H' b->(∀y c H2,a7g b H' H2->Bag H2 b->C c->G H2 c y->NY y H2)->d1b σ₀ g tf te (.int i) H' NY NN)
  (hd:∀ys cs H' p,H p=none->a7g b H H'->Bag H' b->H' p=some (.lst ys)->cs.length=n->(∀c∈cs,C c)->Paired (G H') cs ys->(∃H2,H2 p=none∧Paired (G H2) cs ys)->Q (.ref p) H'):d1q (Itr 0 n) σ₀ g tf te Q H:=by
 refine c1l (fun i ys H'=>a7g b H H'∧Bag H' b∧∃cs,cs.length=i∧(∀c∈cs,C c)∧Paired (G H') cs ys) (a1j (a2f (by omega))) ⟨(a1w.refl _).upto,hB,[],rfl,(fun _ z=>nomatch z),.nil⟩ ?_ ?_
 ·rintro i ys H' hi hlen ⟨u,B,cs,lc,hc,pr⟩
  rw[d5u]
  refine hs i H' _ _ hi u B fun y c H2 u2 B2 cc gy=>⟨u.trans u2,B2,cs++[c],by simp [lc],e8n hc cc,a2t (Paired.imp' (fun _ _ z=>hG z u2 B) pr) (.cons gy .nil)⟩
 ·rintro ys H' hy ⟨u,B,cs,lc,hc,pr⟩ p hp
  have s:a1w H' (upd H' p (.lst ys)):=a1w.new hp
  exact hd ys cs _ p (u.none B hp) (u.same s) (B.same s) a0y lc hc (Paired.imp' (fun _ _ z=>hG z s.upto B) pr) ⟨H',hp,pr⟩
end
section
variable {X:Cx}
theorem a7z {n:Nat} {g:TG} {tb:TS} {D:Ends} {σ:St} {H:Hp} (Pv:Nat->St->Hp->Prop) (h0:Pv 0 σ H)
  (hs:∀(i:Nat) σ H,i < n->Pv i σ H->g (.int i) σ H fun σ2 H2=>tb { D with nx:=Pv (i+1),ct:=Pv (i+1),bk:=D.nx } σ2 H2) (hd:∀σ H,Pv n σ H->D.nx σ H) :
  ∃W:Nat->Nat->St->Hp->Prop,(∃m,W 0 m σ H)∧∀i m σ H,W i m σ H →
   ((Itr 0 n).stop i H∧D.nx σ H)∨((Itr 0 n).go i H∧∃N:St->Hp->Prop,(∀σ' H',N σ' H'->∃m',m' < m∧W (i+1) m' σ' H')∧∀x H',(Itr 0 n).yld i H x H'->g x σ H' fun σ2 H2=>tb { D with nx:=N,ct:=N,bk:=D.nx } σ2 H2) :=
 d7g (lo:=0) Pv h0 (fun i σ H hi p=>by rw[d5u];exact hs i σ H hi p) hd
theorem d7q:d0v X (.type "int") (fun xs H Q=>∃b:Bool,xs=[.bl b]∧Q (.int (if b=true then 1 else 0)) H):=by
 intro pins s σ H xs us Q I r h
 obtain ⟨b,rfl,q⟩:=h
 obtain ⟨u,rfl,ru⟩:=vals1 r
 cases ru
 exact call_int_bool ⟨.int _,H,I.tok _,⟨_,rfl⟩,q⟩
theorem f4x {st:Stmt}:PS X st (fun _ _ _=>False):=fun _ _ _ _ _ _ h=>h.elim
end
theorem f2m {t b:Int} {W:Nat} (hb:0 < b) (h1:t.natAbs<=W) (h2:b.natAbs<=W):∃q:Rat,(lo t b,hi t b)=nm q∧Dr W q∧q*(b:Rat)=(t:Rat):=by
 have hb':(b:Rat)≠0:=fun z=>by have:=d0y.mp z;omega
 have e:(t:Rat) / (b:Rat)*(b:Rat)=t:=Rat.div_mul_cancel hb'
 have h:=c3i hb e
 refine ⟨_,h,⟨?_,?_⟩,e⟩
 ·have:=congrArg Prod.fst h
  have z:=lo_le (t:=t) (b:=b) (by omega)
  show ((nm ((t:Rat) / (b:Rat))).1).natAbs<=W
  rw[← this]
  exact a0d z h1
 ·have:=congrArg Prod.snd h
  have z:=f9w (t:=t) (b:=b) (by omega)
  have hd:(((t:Rat) / (b:Rat)).den:Int)=hi t b:=this.symm
  have hp:=e1p (t:=t) hb
  omega
theorem ixQ {K:PySem.W.Frag} {H:Hp} {qs:List Rat} {xs:List V} (h:Paired (a5w K H) qs xs) {j:Nat} (hj:j < qs.length):∃v,atI xs (j:Int)=some v∧a5w K H (qs.getD j 0) v:=by
 have hl:=h.length
 refine ⟨xs[j]'(by omega),b2c (by simp),?_⟩
 have:=b3w h (i:=j) hj (by omega)
 rwa [a0a,a0c hj]
theorem d7k {xs ys:List Rat} {i:Nat} (h1:i < xs.length) (h2:i < ys.length):b4j (xs.take (i+1)) (ys.take (i+1))=b4j (xs.take i) (ys.take i)+xs.getD i 0*ys.getD i 0:=by
 have e1:xs[i]?=some (xs.getD i 0):=by rw[a0a,a0c h1];rfl
 have e2:ys[i]?=some (ys.getD i 0):=by rw[a0a,a0c h2];rfl
 unfold b4j
 rw[take_snoc e1,take_snoc e2,List.zipWith_append (by simp;omega),List.sum_append]
 simp [b9k]
theorem getD_mem {xs:List Rat} {i:Nat} (h:i < xs.length):xs.getD i 0∈xs:=by
 rw[a0a,a0c h];exact a0z h
theorem e4k {xs ys:List Rat} (h:ys.length=xs.length):List.zipWith (fun x y=>x+y) xs ys=(List.range xs.length).map fun i=>xs.getD i 0+ys.getD i 0:=by
 apply e8z
 intro i
 rw[a3z,a0x]
 by_cases hi:i < xs.length
 ·rw[a6i hi,a0c hi,a0c (show i < ys.length by omega)]
  simp [a0a,a0c hi,a0c (show i < ys.length by omega)]
 ·rw[a1d (show (List.range xs.length).length<=i by simp;omega),a1d (show xs.length<=i by omega)]
  rfl
theorem a8x.updL {K:PySem.W.Frag} {H0 H:Hp} {qs:List Rat} {x:V} {l:Addr} {ys:List V} {o:HO} (h:a8x K H0 H qs x) (hl:H l=some (.lst ys)) (nl:H0 l≠none):a8x K H0 (upd H l o) qs x:=let ⟨q,a,b,c⟩:=h;⟨q,a,b,c.updL hl fun z=>nl (by rw[← z];exact b)⟩
theorem Bag.at {H:Hp} {b:Addr} (B:Bag H b):H b≠none:=by obtain ⟨_,_,_,_,_,e,_⟩:=B;rw[e];simp
theorem Inner.at {H:Hp} {b q:Addr} (B:Bag H b) (i:Inner H b q):H q≠none:=by
 obtain ⟨q',i',xs,e⟩:=B.inner
 rw[← Inner.inj i' i,e];simp
theorem b3x {α β:Type} {F:α->β->Prop} {l1:List α} {l2:List β} {i:Nat} (h:Paired F l1 l2) (hi:i < l1.length):∃x y,l1[i]?=some x∧l2[i]?=some y∧x∈l1∧F x y:=by
 have hl:=h.length
 exact ⟨l1[i],l2[i]'(by omega),by simp,by simp,a0z _,b3w h hi (by omega)⟩
theorem d9u {i j:Int} (h1:-(2^64) < i) (h2:i < 2^64):b9d i j:=.inl (.inl ⟨h1,h2⟩)
theorem e8f {i j:Int} (h1:-(2^64) < j) (h2:j < 2^64):b9d i j:=.inl (.inr ⟨h1,h2⟩)
end L2
namespace L2
open PySem PySem.Spec PyProof.Rows Nm
def Ite (K : PySem.W.Frag) (l : Addr) : It :=
  ⟨fun i H => ∃ xs x, SqL K H l xs ∧ xs[i]? = some x,
   fun i H v H' => ∃ p x, v = .ref p ∧ H p = none ∧ H' = upd H p (.tup [.int i, x]) ∧ ∀ xs, SqL K H l xs → xs[i]? = some x,
   fun i H => ∃ xs, SqL K H l xs ∧ xs.length ≤ i⟩
def tnE (e it l:Addr) (i:Nat) (h:Heap):Prop:=(∃old,IsEnum h e it i old)∧h.IsListIter it l i
theorem e4p {P:Program} {w:World} {K:PySem.W.Frag} {elts:List Expr} {kk:Nat} {tpos:Pos} (e it l:Addr) (hei:e≠it):Turn P w K (.Tuple elts kk tpos) (Ite K l) [e,it] e (tnE e it l) where
 mem:=by simp
 obj:=fun i h st b hb=>by
  obtain ⟨⟨old,he⟩,⟨o1,g1,c1,d1⟩⟩:=st
  simp only[a0u,a1k,or_false] at hb
  rcases hb with rfl | rfl
  ·exact ⟨_,he,fun v q=>nomatch q⟩
  ·exact ⟨o1,g1,fun v q=>by rw[d1] at q;cases q⟩
 keep:=fun i h h' st k=>by
  obtain ⟨⟨old,he⟩,h1⟩:=st
  exact ⟨⟨old,k e (by simp) _ he⟩,h1.at fun o q=>k it (by simp) o q⟩
 item:=by
  intro X hP hw hK hc i pins s σ H E I hf st hg
  subst hP hw hK
  obtain ⟨⟨old,he⟩,h1⟩:=st
  obtain ⟨xs,x,qx,ex⟩:=hg
  obtain ⟨us,rx,px,_⟩:=I.list qx
  obtain ⟨u,eu,ru⟩:=rx.get ex
  refine wpAny_pyNext_enum_item he h1 px.isList (x:=u) (by simpa using eu) hei fun h' a1 a2 a3 a4 hk=>?_
  refine ⟨_,rfl,wpAny_letOwnedTupleGo_enum a1 fun h'' he'' hs=>?_⟩
  have hT0:H s.heap.objs.size=none:=I.hok.fresh (a0h _)
  have ene:s.heap.objs.size≠e:=f1y (Heap.lt_size he)
  have up:∀b o,b∉[e,it]->s.heap.get? b=some o->h''.get? b=some o:=fun b o hb q=>by
   simp only[a0u,a1k,or_false,not_or] at hb
   exact (hs.2 b hb.1).trans (hk b o hb.1 hb.2 q)
  have tup:h''.get? s.heap.objs.size=some { cls:=.type "tuple",data:=.seq #[.int i s.toks,u] }:=(hs.2 _ ene).trans a3
  have I1:Inv X pins σ H { s with heap:=h'',toks:=s.toks+1 }:=I.moved (g':=s.gens) (d':=s.drawn) (t':=s.toks+1) (ch:=[e,it]) hf up I.bare
  have fT:c7e X pins H s.heap.objs.size:=I.fpOk (a0h _) hT0
  have I2:=I1.track (o:=.tup [.int i,x]) fT ⟨b2g rfl,[.int i s.toks,u],.cons ⟨_,rfl⟩ (.cons ru .nil),⟨_,tup,rfl,_,rfl⟩⟩
  refine ⟨.ref s.heap.objs.size,_,I2,rfl,⟨_,x,rfl,hT0,rfl,fun xs' q=>by rw[I.list_inj q qx];exact ex⟩,?_,fun b hb=>?_⟩
  ·exact ⟨⟨_,by simpa using he''⟩,a2.at fun o q=>(hs.2 _ hei.symm).trans q⟩
  ·rw[a2d]
   ·exact (hf b hb).1
   ·obtain ⟨o1,g1,_⟩:=h1
    simp only[a0u,a1k,or_false] at hb
    rcases hb with rfl | rfl
    ·exact ene.symm
    ·exact a2q (Heap.lt_size g1)
 done:=by
  intro X hP hw hK hc i pins s σ H E I hf st hg
  subst hP hw hK
  obtain ⟨⟨old,he⟩,h1⟩:=st
  obtain ⟨xs,qx,hend⟩:=hg
  obtain ⟨us,rx,px,_⟩:=I.list qx
  have lx:=rx.length
  refine wpAny_pyNext_enum_end (I.ok.hd hc) he h1 px.isList (by simp;omega) fun h' hk=>⟨rfl,?_⟩
  exact I.moved (g':=s.gens) (d':=s.drawn) (t':=s.toks) (ch:=[e,it]) hf (fun b o hb q=>hk b o (fun z=>hb (by simp [z])) q) I.bare
 self:=fun _ _ _ _ _ st h=>let ⟨⟨_,he⟩,_⟩:=st;wpAny_pyIter_enum he h
section
variable {X:Cx}
def f9u (K:PySem.W.Frag) (ta:TA):TI:=fun σ H R=>ta σ H fun vs H1=>∃l,vs=[.ref l]∧(∃xs,SqL K H1 l xs)∧R (Ite K l) H1
theorem e6m {a:Expr} {ta:TA} {p pos tpos:Pos} {elts:List Expr} {kk:Nat} (hg:Gl X "enumerate") (hm:X.mg "enumerate"=none) (ha:PA X [a] ta) (hs:starEach [a] X.env=[(false,eval a X.env)]:=by rfl) :
  PI X (.Tuple elts kk tpos) (.Call (.Name "enumerate" p) [a] [] pos) (f9u X.K ta):=by
 intro pins s σ H R I h
 refine Call_ (b7e I hg hm boot_enumerate (PyProof.Rows.callWith_type1 (thn (ha pos pins s σ H _ I h) fun us s1 ⟨vs,H1,I1,r1,q1⟩=>?_) (by rw[hs];rfl) rfl))
 obtain ⟨l,e,⟨xs,qx⟩,q⟩:=q1
 subst e
 obtain ⟨u,rfl,ru⟩:=vals1 r1
 cases ru
 obtain ⟨us,rx,px,_⟩:=I1.list qx
 refine call_enumerate_list px.isList fun h' a1 a2 a3 hk=>wpAny_pyIter_enum a1 ?_
 have I2:Inv X pins σ H1 { s1 with heap:=h' }:=I1.kept (t':=s1.toks) hk
 refine ⟨_,[s1.heap.objs.size+1,s1.heap.objs.size],_,_,H1,rfl,I2,e4p (s1.heap.objs.size+1) s1.heap.objs.size l (Nat.succ_ne_self _),⟨⟨_,a1⟩,a2⟩,fun b hb=>?_,q⟩
 have hb':s1.heap.objs.size<=b:=by
  simp only[a0u,a1k,or_false] at hb
  rcases hb with rfl | rfl <;> first | exact c3t _ | exact a0h _
 exact I1.fpOk hb' (I1.hok.fresh hb')
end
theorem f0i {K:PySem.W.Frag} {ta:TA} {R:It->Hp->Prop} {σ:St} {H:Hp} (h:ta σ H fun vs H1=>∃l,vs=[.ref l]∧(∃xs,SqL K H1 l xs)∧R (Ite K l) H1):f9u K ta σ H R:=h
theorem f1i {K:PySem.W.Frag} {l:Addr} {xs:List V} {g:TG} {tb:TS} {D:Ends} {σ:St} {H:Hp} (Pv:Nat->St->Hp->Prop) (h0:Pv 0 σ H) (hl:∀i σ H,i<=xs.length->Pv i σ H->SqL K H l xs)
  (hs:∀i x σ H p,xs[i]?=some x->Pv i σ H->H p=none->g (.ref p) σ (upd H p (.tup [.int i,x])) fun σ2 H2=>tb { D with nx:=Pv (i+1),ct:=Pv (i+1),bk:=D.nx } σ2 H2) (hd:∀σ H,Pv xs.length σ H->D.nx σ H) :
  ∃W:Nat->Nat->St->Hp->Prop,(∃m,W 0 m σ H)∧∀i m σ H,W i m σ H →
   ((Ite K l).stop i H∧D.nx σ H)∨((Ite K l).go i H∧∃N:St->Hp->Prop,(∀σ' H',N σ' H'->∃m',m' < m∧W (i+1) m' σ' H')∧∀x H',(Ite K l).yld i H x H'->g x σ H' fun σ2 H2=>tb { D with nx:=N,ct:=N,bk:=D.nx } σ2 H2):=by
 refine ⟨fun i m σ H=>m=xs.length - i∧i<=xs.length∧Pv i σ H,⟨xs.length,by simp,a1f _,h0⟩,?_⟩
 rintro i m σ H ⟨rfl,hi,p⟩
 have q1:=hl i σ H hi p
 by_cases hlt:i < xs.length
 ·refine .inr ⟨⟨xs,xs[i],q1,by simp [hlt]⟩,Pv (i+1),fun σ' H' p'=>⟨xs.length - (i+1),by omega,rfl,hlt,p'⟩,fun x H' y=>?_⟩
  obtain ⟨r,x',rfl,hr,rfl,e1⟩:=y
  exact hs i x' σ _ r (e1 xs q1) p hr
 ·have e:i=xs.length:=by omega
  subst e
  exact .inl ⟨⟨xs,q1,a0h _⟩,hd σ H p⟩
section
variable {X:Cx}
theorem e6p (K:PySem.W.Frag) {e:Expr} {f:Str} {pos:Pos} {ta:TE} (he:PE X e ta) (hb:attributeBase e f X.env (eval e X.env)=eval e X.env) (hK:X.K=K:=by rfl):PE X (.Attribute e f pos) (g1a K ta f):=by subst hK;exact a8m he hb
end
theorem f8k {K:PySem.W.Frag} {ta:TE} {f:Str} {σ:St} {H:Hp} {Q:VK} (h:ta σ H fun x H1=>∃a C dx fs v,x=.ref a∧H1 a=some (.ins C dx fs)∧Cls K C∧b5u K C f∧fs.lookup f=some v∧Q v H1):g1a K ta f σ H Q:=h
theorem f4c {K:PySem.W.Frag} {ta tv:TE} {f:Str} {D:Ends} {σ:St} {H:Hp} (h:tv σ H fun y H1=>ta σ H1 fun x H2=>∃a C dx fs,x=.ref a∧H2 a=some (.ins C dx fs)∧Cls K C∧b5u K C f∧fs.length < 1000 ∧
 D.nx σ (upd H2 a (.ins C dx (a4t f y fs)))):sFld K ta tv f D σ H:=h
theorem f4g {C:Addr} {m:Str} {sp:Sp} {E:XK} {ta:TE} {t:TA} {σ:St} {H:Hp} {Q:VK} (h:ta σ H fun x H1=>∃a dx fs,x=.ref a∧H1 a=some (.ins C dx fs)∧fs.lookup m=none ∧
 t σ H1 fun vs H2=>sp (x :: vs) H2 Q E):f3g C m sp [] E ta t σ H Q:=by
 have e:(fun (x:V) H1=>∃a dx fs,x=.ref a∧H1 a=some (.ins C dx fs)∧fs.lookup m=none∧t σ H1 fun vs H2=>sp (x :: (vs++[])) H2 Q E)=fun x H1=>∃a dx fs,x=.ref a∧H1 a=some (.ins C dx fs)∧fs.lookup m=none∧t σ H1 fun vs H2=>sp (x :: vs) H2 Q E:=by
  funext x H1
  simp only[c3x]
 show ta σ H (fun (x:V) H1=>∃a dx fs,x=.ref a∧H1 a=some (.ins C dx fs)∧fs.lookup m=none∧t σ H1 fun vs H2=>sp (x :: (vs++[])) H2 Q E)
 rw[e];exact h
theorem f4h {C:Addr} {sp:Sp} {E:XK} {t:TA} {σ:St} {H:Hp} {Q:VK} (h:t σ H fun vs H1=>∀x dx,H1 x=none->H1 dx=none->dx≠x →
 sp (.ref x :: vs) (upd (upd H1 dx (.own x)) x (.ins C dx [])) (fun v H2=>v=.non∧Q (.ref x) H2) E):f7b C sp [] E t σ H Q:=by
 have e:(fun vs (H1:Hp)=>∀x dx,H1 x=none->H1 dx=none->dx≠x->sp (.ref x :: (vs++[])) (upd (upd H1 dx (.own x)) x (.ins C dx [])) (fun v H2=>v=.non∧Q (.ref x) H2) E)=fun vs H1=>∀x dx,H1 x=none->H1 dx=none->dx≠x->sp (.ref x :: vs) (upd (upd H1 dx (.own x)) x (.ins C dx [])) (fun v H2=>v=.non∧Q (.ref x) H2) E:=by
  funext vs H1
  simp only[c3x]
 show t σ H (fun vs (H1:Hp)=>∀x dx,H1 x=none->H1 dx=none->dx≠x->sp (.ref x :: (vs++[])) (upd (upd H1 dx (.own x)) x (.ins C dx [])) (fun v H2=>v=.non∧Q (.ref x) H2) E)
 rw[e];exact h
end L2
namespace L2
open PySem PySem.Spec PyProof.Rows Nm
def Exc (x:Addr) (H H':Hp):Prop:=∀b o,H b=some o->b≠x->H' b=some o
theorem Exc.upd {x:Addr} {H:Hp} {o:HO}:Exc x H (L2.upd H x o):=fun b u h n=>by rw[a2d n];exact h
def d1o (H:Hp) (x:Addr):Prop:=∃C dx fs,H x=some (.ins C dx fs)
section
variable {K:PySem.W.Frag} {H H' H0:Hp} {q:Rat} {v:V} {x p:Addr} {qs:List Rat} {rows:List (List Rat)}
theorem a5w.exc (h:a5w K H q v) (e:Exc x H H') (hx:d1o H x):a5w K H' q v:=by
 obtain ⟨C,dx,fs,hx⟩:=hx
 obtain ⟨r,er,s⟩:=h
 refine ⟨r,er,?_⟩
 rcases s with (h | ⟨o,h⟩) | h
 ·exact .inl (.inl (e _ _ h fun z=>by rw[z,hx] at h;cases h))
 ·exact .inl (.inr ⟨o,e _ _ h fun z=>by rw[z,hx] at h;cases h⟩)
 ·exact .inr h
theorem a6v.exc (h:a6v K H p qs) (e:Exc x H H') (hx:d1o H x):a6v K H' p qs:=by
 obtain ⟨xs,g,r⟩:=h
 have hx':=hx
 obtain ⟨C,dx,fs,hx⟩:=hx
 exact ⟨xs,e _ _ g (fun z=>by rw[z,hx] at g;cases g),Paired.imp' (fun _ _ z=>z.exc e hx') r⟩
theorem a8x.exc (h:a8x K H0 H qs v) (e:Exc x H H') (hx:d1o H x):a8x K H0 H' qs v:=let ⟨q,a,b,c⟩:=h;⟨q,a,b,c.exc e hx⟩
theorem a3e.exc (h:a3e K H0 H p rows) (e:Exc x H H') (hx:d1o H x):a3e K H0 H' p rows:=by
 obtain ⟨xs,g,r,n⟩:=h
 have hx':=hx
 obtain ⟨C,dx,fs,hx⟩:=hx
 exact ⟨xs,e _ _ g (fun z=>by rw[z,hx] at g;cases g),Paired.imp' (fun _ _ z=>z.exc e hx') r,n⟩
end
def c2x (a b c:Addr) (n i o:Nat):List (Str×V):=a4t "outs" (.int o) (a4t "look" (.ref c) (a4t "ins" (.int i) (a4t "put" (.ref b) (a4t "states" (.int n) (a4t "move" (.ref a) [])))))
section
variable {a b c:Addr} {n i o:Nat}
theorem e9g:(c2x a b c n i o).lookup ("look":Str)=some (.ref c):=by
 unfold c2x
 rw[a1r,if_neg (by decide +kernel),a1r,if_pos rfl]
theorem e4u:(c2x a b c n i o).lookup ("ins":Str)=some (.int i):=by
 unfold c2x
 rw[a1r,if_neg (by decide +kernel),a1r,if_neg (by decide +kernel),a1r,if_pos rfl]
theorem d3i:(c2x a b c n i o).lookup ("put":Str)=some (.ref b):=by
 unfold c2x
 rw[a1r,if_neg (by decide +kernel),a1r,if_neg (by decide +kernel),a1r,if_neg (by decide +kernel),a1r,if_pos rfl]
theorem b0k:(c2x a b c n i o).lookup ("states":Str)=some (.int n):=by
 unfold c2x
 rw[a1r,if_neg (by decide +kernel),a1r,if_neg (by decide +kernel),a1r,if_neg (by decide +kernel),a1r,if_neg (by decide +kernel),a1r,if_pos rfl]
theorem d3j:(c2x a b c n i o).lookup ("move":Str)=some (.ref a):=by
 unfold c2x
 rw[a1r,if_neg (by decide +kernel),a1r,if_neg (by decide +kernel),a1r,if_neg (by decide +kernel),a1r,if_neg (by decide +kernel),a1r,if_neg (by decide +kernel),a1r,if_pos rfl]
theorem f2e {m:Str} (h1:¬m="outs") (h2:¬m="look") (h3:¬m="ins") (h4:¬m="put") (h5:¬m="states") (h6:¬m="move"):(c2x a b c n i o).lookup m=none:=by
 unfold c2x
 rw[a1r,if_neg h1,a1r,if_neg h2,a1r,if_neg h3,a1r,if_neg h4,a1r,if_neg h5,a1r,if_neg h6]
 rfl
theorem e4t:(c2x a b c n i o).lookup ("moved":Str)=none:=f2e (by decide +kernel) (by decide +kernel) (by decide +kernel) (by decide +kernel) (by decide +kernel) (by decide +kernel)
theorem c6f:(c2x a b c n i o).lookup ("turned":Str)=none:=f2e (by decide +kernel) (by decide +kernel) (by decide +kernel) (by decide +kernel) (by decide +kernel) (by decide +kernel)
end
theorem a5v {k:Str} {v:V}:∀{l:List (Str×V)},(a4t k v l).length<=l.length+1
 | []=>a0h _
 | (x,y) :: r=>by
  unfold a4t
  split
  ·simp
  ·have:=a5v (k:=k) (v:=v) (l:=r)
   simp only[a1n]
   omega
structure c8x (mv pt lk:List (List Rat)):Prop where
 n8:mv.length<=8
 i4:pt.length<=4
 o4:lk.length<=4
 mw:∀xs∈mv,xs.length=mv.length
 pw:∀xs∈pt,xs.length=mv.length
 lw:∀xs∈lk,xs.length=mv.length
def d0j (mv pt lk:List (List Rat)):Prop:=∃M V:Nat,0 < M∧M<=2^800∧V<=2^400∧GF M V mv∧GF M V pt∧GF M V lk
def c7a (K:PySem.W.Frag) (H0 H:Hp) (C p:Addr) (mv pt lk:List (List Rat)):Prop:=∃dx a b c,H p=some (.ins C dx (c2x a b c mv.length pt.length lk.length))∧H0 a=none∧H0 b=none∧H0 c=none∧a3e K H0 H a mv∧a3e K H0 H b pt∧a3e K H0 H c lk
section
variable {K:PySem.W.Frag} {H H' H0 H1:Hp} {C p b:Addr} {mv pt lk:List (List Rat)}
theorem c7a.same (h:c7a K H0 H C p mv pt lk) (e:a1w H H'):c7a K H0 H' C p mv pt lk:=let ⟨dx,a,b,c,g,n1,n2,n3,g1,g2,g3⟩:=h;⟨dx,a,b,c,e _ _ g,n1,n2,n3,g1.same e,g2.same e,g3.same e⟩
theorem c7a.upto (h:c7a K H0 H C p mv pt lk) (u:a7g b H H') (B:Bag H b) (nb:H0 b≠none):c7a K H0 H' C p mv pt lk:=by
 obtain ⟨dx,a,b',c,g,n1,n2,n3,g1,g2,g3⟩:=h
 refine ⟨dx,a,b',c,u.other (fun z=>by obtain ⟨_,_,_,_,_,e,_⟩:=B;rw[z,e] at g;cases g) g,n1,n2,n3,g1.upto u B (fun z=>nb (by rw[← z];exact n1)) nb,g2.upto u B (fun z=>nb (by rw[← z];exact n2)) nb,g3.upto u B (fun z=>nb (by rw[← z];exact n3)) nb⟩
theorem c7a.weak (h:c7a K H0 H C p mv pt lk) (e:a1w H1 H0):c7a K H1 H C p mv pt lk:=let ⟨dx,a,b,c,g,n1,n2,n3,g1,g2,g3⟩:=h;⟨dx,a,b,c,g,e.none n1,e.none n2,e.none n3,g1.weak e,g2.weak e,g3.weak e⟩
theorem d0j.fits (h:d0j mv pt lk) {l:List Rat} (hl:∀x∈l,(∃xs∈mv,x∈xs)∨(∃xs∈pt,x∈xs)∨(∃xs∈lk,x∈xs)∨x=0):Fits l:=by
 obtain ⟨M,V,h0,h1,h2,h3,h4,h5⟩:=h
 refine ⟨M,V,h0,a0d h1 (a0f (by decide) (by decide)),a0d h2 (a0f (by decide) (by decide)),fun x hx=>?_⟩
 rcases hl x hx with ⟨xs,a,b⟩ | ⟨xs,a,b⟩ | ⟨xs,a,b⟩ | rfl
 ·exact h3 xs a x b
 ·exact h4 xs a x b
 ·exact h5 xs a x b
 ·exact Fr.zero
theorem d0j.turn (h:d0j mv pt lk):d0j (a2s mv mv.length) lk pt:=by
 obtain ⟨M,V,h0,h1,h2,h3,h4,h5⟩:=h
 refine ⟨M,V,h0,h1,h2,fun ys hy y hy'=>?_,h5,h4⟩
 obtain ⟨j,_,rfl⟩:=a0t.mp hy
 obtain ⟨xs,hx,rfl⟩:=a0t.mp hy'
 by_cases hj:j < xs.length
 ·rw[a0a,a0c hj]
  exact h3 xs hx _ (a0z hj)
 ·rw[a0a,a1d (by omega)]
  exact Fr.zero
theorem c8x.turn (h:c8x mv pt lk):c8x (a2s mv mv.length) lk pt:=⟨by rw[a3b];exact h.n8,h.o4,h.i4,fun xs hx=>by rw[b4e xs hx,a3b],fun xs hx=>by rw[a3b];exact h.lw xs hx,fun xs hx=>by rw[a3b];exact h.pw xs hx⟩
end
def e4y:Sp:=fun vs H Q _=>∃i:Int,vs=[.int i]∧Q (.bl true) H
def e5l (K:PySem.W.Frag):Sp:=fun vs H Q _=>∃x n,vs=[x]∧f2y K H x n∧d8a n∧∀H',a1w H H'->Q (.bl true) H'
def f3i:Sp:=fun vs H Q _=>∃(p:Addr) (xs:List V) (a m:Int),vs=[.ref p,.int a,.int m]∧H p=some (.lst xs)∧(xs.length:Int)<=m∧Q .non H
def f3n (K:PySem.W.Frag):Sp:=fun vs H Q _=>∃(p:Addr) (H0:Hp) (rows:List (List Rat)) (w:Nat),vs=[.ref p,.int w]∧a3e K H0 H p rows∧rows.length<=1000∧w<=1000∧(∀xs∈rows,xs.length=w∧∀x∈xs,d8a (nm x))∧∀r H',H r=none->a1w H H'->a3e K H H' r rows->Q (.ref r) H'
def GOk (rows:List (List Rat)):Prop:=∀xs∈rows,∀x∈xs,d8a (nm x)
def f3k (K:PySem.W.Frag) (C:Addr):Sp:=fun vs H Q _=>∃(x dx p q r:Addr) (Hb H0 H1 H2:Hp) (mv pt lk:List (List Rat)),vs=[.ref x,.ref p,.ref q,.ref r]∧Hb x=none∧Hb dx=none∧dx≠x∧H=upd (upd Hb dx (.own x)) x (.ins C dx []) ∧
 a3e K H0 Hb p mv∧a3e K H1 Hb q pt∧a3e K H2 Hb r lk∧c8x mv pt lk∧GOk mv∧GOk pt∧GOk lk∧∀H',a1w Hb H'->c7a K Hb H' C x mv pt lk->Q .non H'
def b7b (mv pt:List (List Rat)) (st pu:List Rat):List Rat:=List.zipWith (fun line col=>b4j (line++col) (st++pu)) mv (a2s pt mv.length)
def e2u (K:PySem.W.Frag) (C:Addr):Sp:=fun vs H Q _=>∃(x:Addr) (H0:Hp) (mv pt lk:List (List Rat)),vs=[.ref x]∧c7a K H0 H C x mv pt lk∧c8x mv pt lk∧d0j mv pt lk ∧
 ∀r H',H r=none->a1w H H'->c7a K H H' C r (a2s mv mv.length) lk pt->Q (.ref r) H'
theorem d0j.ok {mv pt lk:List (List Rat)} (h:d0j mv pt lk):GOk mv∧GOk pt∧GOk lk :=
 ⟨fun xs hx x hx'=>(h.fits (l:=xs) fun y hy=>.inl ⟨xs,hx,hy⟩).ok hx',fun xs hx x hx'=>(h.fits (l:=xs) fun y hy=>.inr (.inl ⟨xs,hx,hy⟩)).ok hx',fun xs hx x hx'=>(h.fits (l:=xs) fun y hy=>.inr (.inr (.inl ⟨xs,hx,hy⟩))).ok hx'⟩
end L2
namespace L2
open PySem PySem.Spec PyProof.Rows Nm
def c2q (K:PySem.W.Frag) (A:Addr->Prop) (H:Hp) (n:Nat) (C:Rat->Prop) (x:V):Prop:=∃q qs,x=V.ref q∧A q∧a6v K H q qs∧qs.length=n∧∀y∈qs,C y
section
variable {K:PySem.W.Frag} {A A':Addr->Prop} {H H' H0:Hp} {n:Nat} {C C':Rat->Prop} {x v:V} {q b l p:Addr} {xs zs:List V} {y:Rat} {o:HO}
theorem c2q.same (h:c2q K A H n C x) (e:a1w H H'):c2q K A H' n C x:=let ⟨q,qs,a,c,r,z⟩:=h;⟨q,qs,a,c,r.same e,z⟩
theorem c2q.upto (h:c2q K A H n C x) (u:a7g b H H') (B:Bag H b) (nb:¬A b):c2q K A H' n C x:=let ⟨q,qs,a,c,r,z⟩:=h;⟨q,qs,a,c,r.upto u B (fun e=>nb (by rw[← e];exact c)),z⟩
theorem c2q.other (h:c2q K A H n C x) (hl:H l=some (.lst zs)) (nl:¬A l):c2q K A (upd H l o) n C x:=let ⟨q,qs,a,c,r,z⟩:=h;⟨q,qs,a,c,r.updL hl (fun e=>nl (by rw[← e];exact c)),z⟩
theorem c2q.weak (h:c2q K A H n C x) (w:∀q,A q->A' q) (wc:∀y,C y->C' y):c2q K A' H n C' x:=let ⟨q,qs,a,c,r,l,z⟩:=h;⟨q,qs,a,w q c,r,l,fun y hy=>wc y (z y hy)⟩
theorem c6m {α β:Type} {F:α->β->Prop} {a:α} {b:β} (h:F a b):∀{l1:List α} {l2:List β} (j:Nat),Paired F l1 l2->Paired F (l1.set j a) (l2.set j b)
 | _,_,_,.nil=>.nil
 | _,_,0,.cons _ t=>.cons h t
 | _,_,j+1,.cons r t=>.cons r (c6m h j t)
theorem c2q.put (h:c2q K A H n C x) (hq:H q=some (.lst zs)) (hv:a5w K H y v) (hc:C y) (j:Nat):c2q K A (upd H q (.lst (zs.set j v))) n C x:=by
 obtain ⟨q1,qs,rfl,a,⟨zs1,g1,pr⟩,l1,c1⟩:=h
 by_cases e:q1=q
 ·subst e
  rw[hq] at g1
  cases g1
  refine ⟨q1,qs.set j y,rfl,a,⟨_,a0y,c6m (hv.updL hq) j (Paired.imp' (fun _ _ z=>z.updL hq) pr)⟩,by rw[a4q];exact l1,fun z hz=>?_⟩
  rcases a2y hz with hz | rfl
  ·exact c1 z hz
  ·exact hc
 ·exact ⟨q1,qs,rfl,a,⟨zs1,by rw[a2d e];exact g1,Paired.imp' (fun _ _ z=>z.updL hq) pr⟩,l1,c1⟩
theorem c2q.at (h:c2q K A H n C x):∃q zs qs,x=V.ref q∧A q∧H q=some (.lst zs)∧zs.length=n∧Paired (a5w K H) qs zs∧qs.length=n∧∀y∈qs,C y:=let ⟨q,qs,a,c,⟨zs,g,pr⟩,l,z⟩:=h;⟨q,zs,qs,a,c,g,by rw[← pr.length];exact l,pr,l,z⟩
end
theorem c7t {W:Nat} {i:Int} (h:i.natAbs<=W) (hW:1<=W):Dr W (i:Rat):=⟨h,hW⟩
def f1u (K:PySem.W.Frag) (A:Addr->Prop) (H:Hp) (n:Nat) (C:Rat->Prop) (p:Addr) (m:Nat):Prop:=∃us,H p=some (.lst us)∧us.length=m∧¬A p∧∀x∈us,c2q K A H n C x
structure Mix (K:PySem.W.Frag) (A:Addr->Prop) (H:Hp) (n:Nat) (C:Rat->Prop) (m p l b q0:Addr) (i o:Nat):Prop where
 bag:Bag H b
 inn:Inner H b q0
 gm:f1u K A H n C m n
 gp:f1u K A H n C p i
 gl:f1u K A H n C l o
structure f6j (A:Addr->Prop) (m p l b q0:Addr):Prop where
 am:¬A m
 ap:¬A p
 al:¬A l
 ab:¬A b
 aq:¬A q0
 mb:m≠b
 pb:p≠b
 lb:l≠b
 mp:m≠p
 ml:m≠l
 mq:m≠q0
theorem e7w {M:Nat} {z:Int} (h:z.natAbs<=2):Fr 1 2 (z:Rat):=Fr.int h
theorem d9q {M W:Nat} {a c:Rat} {z:Int} (hz:z.natAbs<=2) (ha:Fr M W a) (hc:Fr M W c):Fr M (3*W) (a+(z:Rat)*c):=by
 have h:=(e7w (M:=M) hz).mul hc
 rw[Nat.one_mul] at h
 exact (ha.add h).mono (by omega)
theorem d8o {z:Int} (h:z.natAbs<=1000):SzN (z:Rat):=e7v (M:=1) (V:=1000) (by decide) (a2r) (a0d (show 1000<=2^10 by decide) (a0f (by decide) (by decide))) (Fr.int h)
theorem d3h {M W:Nat} {c:Rat} {z:Int} (hz:z.natAbs<=2) (hc:Fr M W c) (h0:0 < M) (h1:M<=2^800) (hW:W<=2^140):SzN ((z:Rat)*c):=by
 have h:=(e7w (M:=M) hz).mul hc
 rw[Nat.one_mul] at h
 refine e7v h0 (a0d h1 (a0f (by decide) (by decide))) (a0d (a3x 2 hW) ?_) h
 rw[show 2*2^140=2^141 by rw[b1q,a3d]]
 exact a0f (by decide) (by decide)
def b4l (A:Addr->Prop) (b m:Addr) (H H':Hp):Prop:=∀c u,H c=some u->c≠b->¬A c->c≠m->H' c=some u
theorem b4l.same {A:Addr->Prop} {b m:Addr} {H H1 H2:Hp} (h:b4l A b m H H1) (s:a1w H1 H2):b4l A b m H H2:=fun c u e n1 n2 n3=>s _ _ (h c u e n1 n2 n3)
theorem b4l.upto {A:Addr->Prop} {b m:Addr} {H H1 H2:Hp} (h:b4l A b m H H1) (s:a7g b H1 H2):b4l A b m H H2:=fun c u e n1 n2 n3=>s.1 _ _ (h c u e n1 n2 n3) n1
theorem b4l.upd {A:Addr->Prop} {b m q:Addr} {H H1:Hp} {o:HO} (h:b4l A b m H H1) (hq:A q∨q=m):b4l A b m H (L2.upd H1 q o):=fun c u e n1 n2 n3=>by
 rw[a2d]
 ·exact h c u e n1 n2 n3
 ·rintro rfl
  rcases hq with hq | hq
  ·exact n2 hq
  ·exact n3 hq
theorem b4l.new {A:Addr->Prop} {b m r:Addr} {H H1:Hp} (h:b4l A b m H H1) (hA:∀q,H q=none->A q) (B:Bag H1 b) (hm:H1 m≠none) (hr:H1 r=none):A r:=by
 by_cases z:A r
 ·exact z
 ·cases e:H r with
  | none=>exact hA r e
  | some u =>
   have:=h r u e (fun y=>B.at (by rw[← y];exact hr)) z (fun y=>hm (by rw[← y];exact hr))
   rw[hr] at this;cases this
structure MvJ (K:PySem.W.Frag) (A:Addr->Prop) (n:Nat) (C:Rat->Prop) (r p b q0:Addr) (us:List V) (H0 H:Hp):Prop where
 gr:H r=some (.lst us)
 ru:∀x∈us,c2q K A H n C x
 rp:c2q K A H n C (.ref p)
 bag:Bag H b
 inn:Inner H b q0
 up:a7g b H0 H
section
variable {K:PySem.W.Frag} {A:Addr->Prop} {n:Nat} {C:Rat->Prop} {r p b q0:Addr} {us:List V} {H0 H H':Hp} {y:Rat} {v:V}
theorem MvJ.same (h:MvJ K A n C r p b q0 us H0 H) (e:a1w H H'):MvJ K A n C r p b q0 us H0 H':=⟨e _ _ h.gr,fun x hx=>(h.ru x hx).same e,h.rp.same e,h.bag.same e,(e.upto (p:=b)).2 _ h.inn,h.up.same e⟩
theorem MvJ.upto (h:MvJ K A n C r p b q0 us H0 H) (u:a7g b H H') (B:Bag H' b) (nb:¬A b) (rb:r≠b):MvJ K A n C r p b q0 us H0 H':=⟨u.other rb h.gr,fun x hx=>(h.ru x hx).upto u h.bag nb,h.rp.upto u h.bag nb,B,u.2 _ h.inn,h.up.trans u⟩
theorem MvJ.put (h:MvJ K A n C r p b q0 us H0 H) (ap:A p) (nr:¬A r) (nb:¬A b) (nq:¬A q0) (hp:H0 p=none) (hv:a5w K H y v) (hc:C y) (j:Nat):∃zs,H p=some (.lst zs)∧zs.length=n∧MvJ K A n C r p b q0 us H0 (upd H p (.lst (zs.set j v))):=by
 obtain ⟨q,zs,qs,e,a,g,l,_⟩:=h.rp.at
 cases e
 have ne:∀{z},¬A z->z≠p:=fun h e=>h (by rw[e];exact ap)
 exact ⟨zs,g,l,by rw[a2d (ne nr)];exact h.gr,fun x hx=>(h.ru x hx).put g hv hc j,h.rp.put g hv hc j,h.bag.upd h.inn (ne nb).symm (ne nq).symm,h.inn.upd (ne nb).symm,h.up.after hp⟩
end
theorem d2a {K:PySem.W.Frag} {A:Addr->Prop} {H:Hp} {n:Nat} {C:Rat->Prop} {us:List V} (h:∀x∈us,c2q K A H n C x):∃rows:List (List Rat),Paired (fun qs x=>∃q,x=V.ref q∧A q∧a6v K H q qs) rows us∧rows.length=us.length∧∀qs∈rows,qs.length=n∧∀y∈qs,C y:=by
 induction us with
 | nil=>exact ⟨[],.nil,rfl,fun _ z=>nomatch z⟩
 | cons u us ih =>
  obtain ⟨rows,pr,l,hr⟩:=ih fun x hx=>h x (.tail _ hx)
  obtain ⟨q,qs,e,a,r,l1,c⟩:=h u (.head _)
  refine ⟨qs :: rows,.cons ⟨q,e,a,r⟩ pr,by simp [l],fun zs hz=>?_⟩
  rcases a0u.mp hz with rfl | hz
  ·exact ⟨l1,c⟩
  ·exact hr zs hz
theorem e3h {K:PySem.W.Frag} {A:Addr->Prop} {H:Hp} {n:Nat} {C:Rat->Prop} {us:List V} {rows:List (List Rat)} (pr:Paired (fun qs x=>∃q,x=V.ref q∧A q∧a6v K H q qs) rows us) (h:∀qs∈rows,qs.length=n∧∀y∈qs,C y):∀x∈us,c2q K A H n C x:=fun x hx=>by
 obtain ⟨qs,hq,q,e,a,r⟩:=a5l pr hx
 exact ⟨q,qs,e,a,r,(h qs hq).1,(h qs hq).2⟩
theorem d7h {n:Nat}:∀{rows:List (List Rat)},(∀xs∈rows,xs.length=n)->rows.flatten.length=rows.length*n
 | [],_=>by simp
 | xs :: rows,h=>by
  rw[a8i,a0i,h xs (.head _),d7h fun ys hy=>h ys (.tail _ hy),a1n,a4d,b9m]
theorem f3y {c n:Nat} {rows:List (List Rat)} (h:∀qs∈rows,qs.length=n∧∀y∈qs,Dr (2^c) y):∃M:Nat,0 < M∧M<=2^(c*(rows.length*n))∧∀qs∈rows,∀y∈qs,Fr M (2^c) y:=by
 have fl:rows.flatten.length=rows.length*n:=d7h fun ys hy=>(h ys hy).1
 have hm:∀a∈rows.flatten.map (·.den),0 < a∧a<=2^c:=fun a ha=>by
  obtain ⟨y,hy,rfl⟩:=a0t.mp ha
  obtain ⟨qs,hq,hy⟩:=f3a.mp hy
  exact ⟨y.den_pos,((h qs hq).2 y hy).2⟩
 refine ⟨e3j (rows.flatten.map (·.den)),d6k fun a ha=>(hm a ha).1,?_,fun qs hq y hy=>?_⟩
 ·have:=e0w (k:=c) (l:=rows.flatten.map (·.den)) fun a ha=>(hm a ha).2
  rwa [a0e,fl] at this
 ·exact (Fr.own y ((h qs hq).2 y hy).1).dvd (d6l (a0t.mpr ⟨y,f3a.mpr ⟨qs,hq,hy⟩,rfl⟩))
theorem c6v {K:PySem.W.Frag} {A:Addr->Prop} {H H0:Hp} {n m:Nat} {C:Rat->Prop} {p:Addr} (h:f1u K A H n C p m) (w:∀q,A q->H0 q=none):∃rows,a3e K H0 H p rows∧rows.length=m∧∀qs∈rows,qs.length=n∧∀y∈qs,C y:=by
 obtain ⟨us,g,l,a,r⟩:=h
 obtain ⟨rows,pr,lr,hr⟩:=d2a r
 refine ⟨rows,⟨us,g,Paired.imp' (fun _ _ ⟨q,e,aq,rq⟩=>⟨q,e,w q aq,rq⟩) pr,fun hm=>?_⟩,by rw[lr,l],hr⟩
 obtain ⟨q,_,e,aq,_⟩:=r _ hm
 cases e
 exact a aq
theorem b4l.trans {A:Addr->Prop} {b m:Addr} {H H1 H2:Hp} (h:b4l A b m H H1) (h':b4l A b m H1 H2):b4l A b m H H2:=fun c u e n1 n2 n3=>h' c u (h c u e n1 n2 n3) n1 n2 n3
structure PtI (K:PySem.W.Frag) (A:Addr->Prop) (n:Nat) (C:Rat->Prop) (m p l b q0:Addr) (i o:Nat) (ws vs:List V) (H0 H:Hp):Prop where
 mix:Mix K A H n C m p l b q0 i o
 gp:H p=some (.lst ws)
 gl:H l=some (.lst vs)
 kp:b4l A b m H0 H
theorem f2f {K:PySem.W.Frag} {A:Addr->Prop} {H0 H:Hp} {n:Nat} {C:Rat->Prop} {us:List V} {rows:List (List Rat)} (pr:Paired (a8x K H0 H) rows us) (h:∀qs∈rows,qs.length=n∧∀y∈qs,C y) (w:∀q,V.ref q∈us->H0 q=none->H q≠none->A q):∀x∈us,c2q K A H n C x:=fun x hx=>by
 obtain ⟨qs,hq,q,e,a,r⟩:=a5l pr hx
 subst e
 exact ⟨q,qs,rfl,w q hx a (by obtain ⟨_,g,_⟩:=r;rw[g];simp),r,(h qs hq).1,(h qs hq).2⟩
def e5b:Sp:=fun vs H Q _=>∃b,vs=[.ref b]∧Bag H b∧∀r (n i o w:Nat) H',H' r=some (.tup [.int n,.int i,.int o,.int w])->n<=5->i<=4->o<=4->(w=4∨w=9∨(w=1000000∧n<=2))->(n=5->i<=2∧o<=2)->Bag H' b->a7g b H H'->Q (.ref r) H'
end L2
namespace L2
open PySem PySem.Spec PyProof.Rows Nm
def c2r (K:PySem.W.Frag) (H0 H:Hp) (r:Addr) (mv pt lk:List (List Rat)):Prop:=∃m p l,H r=some (.tup [.ref m,.ref p,.ref l])∧H0 m=none∧H0 p=none∧H0 l=none∧a3e K H0 H m mv∧a3e K H0 H p pt∧a3e K H0 H l lk
section
variable {K:PySem.W.Frag} {H H' H0 H1:Hp} {r b:Addr} {mv pt lk:List (List Rat)}
theorem c2r.same (h:c2r K H0 H r mv pt lk) (e:a1w H H'):c2r K H0 H' r mv pt lk:=let ⟨m,p,l,g,n1,n2,n3,g1,g2,g3⟩:=h;⟨m,p,l,e _ _ g,n1,n2,n3,g1.same e,g2.same e,g3.same e⟩
theorem c2r.upto (h:c2r K H0 H r mv pt lk) (u:a7g b H H') (B:Bag H b) (nb:H0 b≠none):c2r K H0 H' r mv pt lk:=by
 obtain ⟨m,p,l,g,n1,n2,n3,g1,g2,g3⟩:=h
 exact ⟨m,p,l,u.tup B g,n1,n2,n3,g1.upto u B (fun z=>nb (by rw[← z];exact n1)) nb,g2.upto u B (fun z=>nb (by rw[← z];exact n2)) nb,g3.upto u B (fun z=>nb (by rw[← z];exact n3)) nb⟩
end
def e2v (K:PySem.W.Frag) (C:Addr):Sp:=fun vs H Q _=>∃(r:Addr) (H0:Hp) (mv pt lk:List (List Rat)),vs=[.ref r]∧c2r K H0 H r mv pt lk∧c8x mv pt lk∧d0j mv pt lk∧∀x H',H x=none->a1w H H'->c7a K H H' C x mv pt lk->Q (.ref x) H'
theorem f1m {as bs xs ys:List Rat} (h:as.length=xs.length):b4j (as++bs) (xs++ys)=b4j as xs+b4j bs ys:=by
 unfold b4j
 rw[List.zipWith_append h,List.sum_append]
end L2
namespace L2
open PySem PySem.Spec PyProof.Rows Nm
theorem e7g {mv pt:List (List Rat)} {st pu:List Rat}:(b7b mv pt st pu).length=mv.length:=by unfold b7b;rw[a2i,a3b];omega
structure Both (K:PySem.W.Frag) (C:Addr) (H0 H:Hp) (x r:Addr) (mv pt lk:List (List Rat)):Prop where
 sys:c7a K H0 H C x mv pt lk
 par:c2r K H0 H r mv pt lk
 dim:c8x mv pt lk
 fit:d0j mv pt lk
end L2
namespace L2
open PySem PySem.Spec PyProof.Rows Nm
def d5k (k j:Nat) (l:List Rat):Prop:=∃M V:Nat,0 < M∧M<=2^k∧V<=2^j∧∀x∈l,Fr M V x
section
variable {k j k' j':Nat} {l xs ys:List Rat} {x y:Rat}
theorem d5k.szn (h:d5k k j l) (hx:x∈l) (hk:k+j<=3950:=by decide):SzN x:=by
 obtain ⟨M,V,h0,h1,h2,h3⟩:=h
 obtain ⟨a,b⟩:=(h3 x hx).sz h0 h1 h2
 exact ⟨a.mono (by omega),b.mono (by omega)⟩
theorem d5k.rowM (h:d5k k j l) (hk:k+j<=4200:=by decide):∃M,f6g M (l.map nm):=by
 obtain ⟨M,V,h0,h1,h2,h3⟩:=h
 refine ⟨M,by omega,?_,fun n hn=>?_⟩
 ·show ((M:Nat):Int).natAbs < 2^4400
  rw[a2m]
  exact a1m h1 (a4s (by decide) (by omega))
 ·obtain ⟨x,hx,rfl⟩:=a0t.mp hn
  obtain ⟨a,_⟩:=(h3 x hx).sz h0 h1 h2
  exact ⟨b4y x,(h3 x hx).den,a.mono (by omega)⟩
theorem d5k.one (h:d5k k j l) (hx:x∈l):d5k k j [x]:=by
 obtain ⟨M,V,h0,h1,h2,h3⟩:=h
 exact ⟨M,V,h0,h1,h2,fun y hy=>by rw[a4p.mp hy];exact h3 x hx⟩
theorem f1l (h:d5k k j xs) (h':d5k k' j' ys) (hl:xs.length<=1000) (i:Nat) (hk:(k+k')+(j+j')<=3930:=by decide):SzN (b4j (xs.take i) (ys.take i)):=by
 obtain ⟨M,V,h0,h1,h2,h3⟩:=h
 obtain ⟨N,W,k0,k1,k2,k3⟩:=h'
 have e:1000*(V*W)<=2^(10+(j+j')):=by
  rw[a4k 2 10]
  exact a2a (by decide) (a0d (a2a h2 k2) (by rw[← a4k];exact a0h _))
 obtain ⟨a,b⟩:=((Fr.dot (fun x hx=>h3 x (a3k hx)) (fun y hy=>k3 y (a3k hy))).mono (a0n _ (show (xs.take i).length<=1000 by rw[a4h];omega))).sz (a7k h0 k0) (a0d (a2a h1 k1) (by rw[← a4k];exact a0h _)) e
 exact ⟨a.mono (by omega),b.mono (by omega)⟩
theorem f0q (hx:d5k k j [x]) (hy:d5k k' j' [y]) (hk:(k+k')+(j+j')<=3930:=by decide):SzN (x*y):=by
 obtain ⟨M,V,h0,h1,h2,h3⟩:=hx
 obtain ⟨N,W,k0,k1,k2,k3⟩:=hy
 obtain ⟨a,b⟩:=((h3 x (.head _)).mul (k3 y (.head _))).sz (a7k h0 k0) (a0d (a2a h1 k1) (by rw[← a4k];exact a0h _)) (a0d (a2a h2 k2) (by rw[← a4k];exact a0h _))
 exact ⟨a.mono (by omega),b.mono (by omega)⟩
def f6m (xs ys:List Rat):Prop:=∃k j k' j':Nat,d5k k j xs∧d5k k' j' ys∧(k+k')+(j+j')<=3930
theorem f6m.sys (h:d5k 400 120 xs) (h':d5k 1500 1800 ys):f6m xs ys:=⟨_,_,_,_,h,h',by decide⟩
end
def SFc (mv pt lk:List (List Rat)):Prop:=∃M V:Nat,0 < M∧M<=2^400∧V<=2^120∧GF M V mv∧GF M V pt∧GF M V lk
section
variable {mv pt lk:List (List Rat)}
theorem SFc.fits (h:SFc mv pt lk) {l:List Rat} (hl:∀x∈l,(∃xs∈mv,x∈xs)∨(∃xs∈pt,x∈xs)∨(∃xs∈lk,x∈xs)∨x=0):d5k 400 120 l:=by
 obtain ⟨M,V,h0,h1,h2,g1,g2,g3⟩:=h
 refine ⟨M,V,h0,h1,h2,fun x hx=>?_⟩
 rcases hl x hx with ⟨xs,a,b⟩ | ⟨xs,a,b⟩ | ⟨xs,a,b⟩ | rfl
 ·exact g1 xs a x b
 ·exact g2 xs a x b
 ·exact g3 xs a x b
 ·exact Fr.zero
theorem SFc.sf (h:SFc mv pt lk):d0j mv pt lk:=let ⟨M,V,a,b,c,d⟩:=h;⟨M,V,a,a0d b (a0f (by decide) (by decide)),a0d c (a0f (by decide) (by decide)),d⟩
end
def e5p (K:PySem.W.Frag):Sp:=fun vs H Q _=>∃(p q:Addr) (xs ys:List Rat),vs=[.ref p,.ref q]∧a6v K H p xs∧a6v K H q ys∧ys.length=xs.length∧xs.length<=1000∧f6m xs ys ∧
 ∀r H',a1w H H'->a5w K H' (b4j xs ys) (.ref r)->Q (.ref r) H'
def f3l (K:PySem.W.Frag):Sp:=fun vs H Q _=>∃(p q:Addr) (H0:Hp) (rows:List (List Rat)) (ys:List Rat),vs=[.ref p,.ref q]∧a3e K H0 H p rows∧a6v K H q ys∧rows.length<=1000∧ys.length<=1000∧(∀xs∈rows,xs.length=ys.length∧f6m xs ys) ∧
 ∀r H',H r=none->a1w H H'->a6v K H' r (rows.map fun xs=>b4j xs ys)->Q (.ref r) H'
def e5h (K:PySem.W.Frag) (C:Addr):Sp:=fun vs H Q _=>∃(x p q:Addr) (H0:Hp) (mv pt lk:List (List Rat)) (st pu:List Rat),vs=[.ref x,.ref p,.ref q]∧c7a K H0 H C x mv pt lk∧c8x mv pt lk∧SFc mv pt lk∧a6v K H p st∧a6v K H q pu∧st.length=mv.length∧pu.length=pt.length∧d5k 1500 1800 (st++pu) ∧
 ∀r H',H r=none->a1w H H'->a6v K H' r (b7b mv pt st pu)->Q (.ref r) H'
end L2
namespace L2
open PySem PySem.Spec PyProof.Rows Nm
def stQ (mv pt:List (List Rat)) (st:List Rat) (pus:List (List Rat)) (k:Nat):List Rat:=(pus.take k).foldl (b7b mv pt) st
def b9y (mv pt:List (List Rat)) (st:List Rat) (pus:List (List Rat)):List (List Rat):=(List.range (pus.length+1)).map (stQ mv pt st pus)
section
variable {mv pt lk pus:List (List Rat)} {st:List Rat} {k:Nat}
theorem d3m {pu:List Rat} (h:pus[k]?=some pu):stQ mv pt st pus (k+1)=b7b mv pt (stQ mv pt st pus k) pu:=by
 unfold stQ
 rw[take_snoc h,List.foldl_append]
 rfl
theorem d3n (h:st.length=mv.length):∀{k:Nat},k<=pus.length->(stQ mv pt st pus k).length=mv.length
 | 0,_=>h
 | k+1,hk=>by rw[d3m (a0c (show k < pus.length by omega)),e7g]
theorem c6w:(b9y mv pt st pus).length=pus.length+1:=by unfold b9y;rw[a0e,a3s]
theorem c5h (h:k<=pus.length):(b9y mv pt st pus)[k]?=some (stQ mv pt st pus k):=by
 unfold b9y
 rw[a0x,a6i (by omega)]
 rfl
def f2z (mv pt:List (List Rat)) (st:List Rat) (pus:List (List Rat)):Prop:=∀k,k<=pus.length->∃N W:Nat,0 < N∧N<=2^1500∧W<=2^1800∧(∀x∈stQ mv pt st pus k,Fr N W x)∧∀xs∈pus,∀x∈xs,Fr N W x
theorem f2z.both (h:f2z mv pt st pus) (hk:k<=pus.length) {pu:List Rat} (hp:pu∈pus):d5k 1500 1800 (stQ mv pt st pus k++pu):=by
 obtain ⟨N,W,a,b,c,d,e⟩:=h k hk
 exact ⟨N,W,a,b,c,fun x hx=>(a0w.mp hx).elim (d x) (e pu hp x)⟩
theorem f2z.state (h:f2z mv pt st pus) (hk:k<=pus.length):d5k 1500 1800 (stQ mv pt st pus k):=by
 obtain ⟨N,W,a,b,c,d,e⟩:=h k hk
 exact ⟨N,W,a,b,c,d⟩
theorem f3d {M W:Nat} {rows:List (List Rat)} {w:Nat} (h:GF M W rows):GF M W (a2s rows w):=fun ys hy y hy'=>by
 obtain ⟨j,_,rfl⟩:=a0t.mp hy
 obtain ⟨xs,hx,rfl⟩:=a0t.mp hy'
 rw[a0a]
 cases e:xs[j]? with
 | none=>exact Fr.zero
 | some z=>exact h xs hx z (a0j e)
end
def e4d (K:PySem.W.Frag) (H:Hp) (l:Addr) (H':Hp) (xs:List Rat) (x:V):Prop:=∃q,x=.ref q∧H q=none∧q≠l∧a6v K H' q xs
section
variable {K:PySem.W.Frag} {H H' H2:Hp} {l:Addr} {xs:List Rat} {x:V}
theorem e4d.same (h:e4d K H l H' xs x) (e:a1w H' H2):e4d K H l H2 xs x:=let ⟨q,a,b,c,d⟩:=h;⟨q,a,b,c,d.same e⟩
theorem e4d.upd {ys:List V} {o:HO} (h:e4d K H l H' xs x) (hl:H' l=some (.lst ys)):e4d K H l (upd H' l o) xs x:=let ⟨q,a,b,c,d⟩:=h;⟨q,a,b,c,d.updL hl c⟩
theorem e4d.rowF (h:e4d K H l H' xs x):a8x K H H' xs x:=let ⟨q,a,b,_,d⟩:=h;⟨q,a,b,d⟩
theorem e5w {o:HO} (e:a1w H H') (n:H l=none):a1w H (upd H' l o):=fun b u h=>by
 rw[a2d (fun z=>by rw[z,n] at h;cases h)]
 exact e b u h
theorem d2b:∀{rows:List (List Rat)} {ys:List V},Paired (e4d K H l H') rows ys->V.ref l∉ys
 | _,_,.nil=>by simp
 | _,_,.cons ⟨q,a,_,c,_⟩ r=>by
  intro hm
  rcases a0u.mp hm with e | hm
  ·rw[a] at e
   cases e
   exact c rfl
  ·exact d2b r hm
end
def e2z (K:PySem.W.Frag) (C:Addr):Sp:=fun vs H Q _=>∃(x s p:Addr) (H0 H1:Hp) (mv pt lk pus:List (List Rat)) (st:List Rat),vs=[.ref x,.ref s,.ref p]∧c7a K H0 H C x mv pt lk∧c8x mv pt lk∧SFc mv pt lk∧a6v K H s st∧st.length=mv.length∧a3e K H1 H p pus∧pus.length<=100∧(∀xs∈pus,xs.length=pt.length)∧f2z mv pt st pus ∧
 ∀r H',H r=none->a1w H H'->a3e K H H' r (b9y mv pt st pus)->Q (.ref r) H'
end L2
namespace L2
open PySem PySem.Spec PyProof.Rows Nm
theorem e1s {i:Nat}:∀{pus:List (List Rat)},(∀xs∈pus,xs.length=i)->pus.flatten.length=pus.length*i
 | [],_=>by simp
 | x :: r,h=>by
  rw[a8i,a0i,h x (.head _),e1s (fun xs hx=>h xs (.tail _ hx)),a1n,a4d]
  omega
end L2
namespace L2
open PySem PySem.Spec PyProof.Rows Nm
end L2
namespace L2
open PySem PySem.Spec PyProof.Rows Nm
end L2
namespace L2
open PySem PySem.Spec PyProof.Rows Nm
end L2
namespace L2
open PySem PySem.Spec PyProof.Rows Nm
theorem c4i {α β:Type} {F:α->β->Prop}:∀{l1:List α} {l2:List β} (_:Paired F l1 l2) (k:Nat),Paired F (l1.drop k) (l2.drop k)
 | _,_,h,0=>h
 | _,_,.nil,_+1=>.nil
 | _,_,.cons _ r,k+1=>c4i r k
end L2
namespace L2
open PySem PySem.Spec PyProof.Rows Nm
theorem f5w {xs:List V} {t n:Nat} (h:t+n<=xs.length):d8h xs (some (t:Int)) (some ((t:Int)+(n:Int)))=(xs.drop t).take n:=by
 unfold d8h
 rw[show ((t:Int)+(n:Int))=((t+n:Nat):Int) by omega,HT.d3t,HT.d3t,b6i (show t<=xs.length by omega),b6i h,Nat.add_sub_cancel_left]
end L2
namespace L2
abbrev Vec:=Nat->Rat
def lpD (F:List Vec->Rat) (r:Nat):List Vec->List Vec->Rat->Rat
 | _,[],_=>0
 | pre,v :: post,s=>s*v r*F (pre++post)+lpD F r (pre++[v]) post (-s)
def dtD:List Nat->List Vec->Rat
 | [],[]=>1
 | [],_ :: _=>0
 | r :: rs,vs=>lpD (fun ws=>dtD rs ws) r [] vs 1
theorem e1v {a b:List Vec} {x:Vec}:dtD [] (a++x :: b)=0:=by
 cases a <;> rfl
theorem d9m {F:List Vec->Rat} {r:Nat} {f g h:Vec} {x y:Rat} (hF:∀a b,F (a++h :: b)=x*F (a++f :: b)+y*F (a++g :: b)):∀(b p q:List Vec) (s:Rat),lpD F r (p++h :: q) b s=x*lpD F r (p++f :: q) b s+y*lpD F r (p++g :: q) b s
 | [],p,q,s=>by simp only[lpD,a6b,b9k]
 | v :: b,p,q,s=>by
  have i1:=hF p (q++b)
  have i2:=d9m (r:=r) hF b p (q++[v]) (-s)
  simp only[lpD,a3g,a5s] at i1 i2 ⊢
  rw[i1,i2]
  grind
theorem e7k {F:List Vec->Rat} {r:Nat} {f g h:Vec} {x y:Rat} (hF:∀a b,F (a++h :: b)=x*F (a++f :: b)+y*F (a++g :: b)) (hr:h r=x*f r+y*g r):∀(a pre b:List Vec) (s:Rat),lpD F r pre (a++h :: b) s=x*lpD F r pre (a++f :: b) s+y*lpD F r pre (a++g :: b) s
 | [],pre,b,s=>by
  have i2:=d9m (r:=r) hF b pre [] (-s)
  simp only[lpD,a3r] at i2 ⊢
  rw[i2,hr]
  grind
 | v :: a,pre,b,s=>by
  have i1:=hF (pre++a) b
  have i2:=e7k hF hr a (pre++[v]) b (-s)
  simp only[lpD,a3g,a5s] at i1 i2 ⊢
  rw[i1,i2]
  grind
theorem c7s {f g h:Vec} {x y:Rat}:∀{rs:List Nat},(∀r∈rs,h r=x*f r+y*g r)->∀a b,dtD rs (a++h :: b)=x*dtD rs (a++f :: b)+y*dtD rs (a++g :: b)
 | [],_,a,b=>by rw[e1v,e1v,e1v];grind
 | r :: rs,hr,a,b=>e7k (fun a b=>c7s (fun r' h'=>hr r' (.tail _ h')) a b) (hr r (.head _)) a [] b 1
theorem f1k {f h:Vec} {rs:List Nat} (hr:∀r∈rs,h r=f r) (a b:List Vec):dtD rs (a++h :: b)=dtD rs (a++f :: b):=by
 rw[c7s (f:=f) (g:=f) (x:=1) (y:=0) (fun r h'=>by rw[hr r h'];grind) a b]
 grind
theorem d9s {h:Vec} {rs:List Nat} (hr:∀r∈rs,h r=0) (a b:List Vec):dtD rs (a++h :: b)=0:=by
 rw[c7s (f:=h) (g:=h) (x:=0) (y:=0) (fun r h'=>by rw[hr r h'];grind) a b]
 grind
theorem e7l {F:List Vec->Rat} {r:Nat} {x:Vec} (hF:∀a b,F (a++x :: x :: b)=0):∀(b p q:List Vec) (s:Rat),lpD F r (p++x :: x :: q) b s=0
 | [],p,q,s=>rfl
 | v :: b,p,q,s=>by
  have i1:=hF p (q++b)
  have i2:=e7l (r:=r) hF b p (q++[v]) (-s)
  simp only[lpD,a3g,a5s] at i1 i2 ⊢
  rw[i1,i2]
  grind
theorem e7m {F:List Vec->Rat} {r:Nat} {x:Vec} (hF:∀a b,F (a++x :: x :: b)=0):∀(a pre b:List Vec) (s:Rat),lpD F r pre (a++x :: x :: b) s=0
 | [],pre,b,s=>by
  have i2:=e7l (r:=r) hF b pre [] (- -s)
  simp only[lpD,a3r,a3g,a5s] at i2 ⊢
  rw[i2]
  grind
 | v :: a,pre,b,s=>by
  have i1:=hF (pre++a) b
  have i2:=e7m (r:=r) hF a (pre++[v]) b (-s)
  simp only[lpD,a3g,a5s] at i1 i2 ⊢
  rw[i1,i2]
  grind
theorem d7i {x:Vec}:∀{rs:List Nat} (a b:List Vec),dtD rs (a++x :: x :: b)=0
 | [],a,b=>e1v
 | r :: rs,a,b=>e7m (fun a b=>d7i a b) a [] b 1
theorem f5r {x y:Vec} {rs:List Nat} (a b:List Vec):dtD rs (a++x :: y :: b)=- dtD rs (a++y :: x :: b):=by
 have hr:∀r∈rs,(fun r=>1*x r+1*y r) r=1*x r+1*y r:=fun _ _=>rfl
 have h0:=d7i (x:=fun r=>1*x r+1*y r) (rs:=rs) a b
 have h1:=c7s hr a ((fun r=>1*x r+1*y r) :: b)
 have h2:=c7s hr (a++[x]) b
 have h3:=c7s hr (a++[y]) b
 have h4:=d7i (x:=x) (rs:=rs) a b
 have h5:=d7i (x:=y) (rs:=rs) a b
 simp only[a3g,a5s,a3r] at h0 h1 h2 h3 h4 h5
 rw[h1,h2,h3,h4,h5] at h0
 grind
theorem e1x {x:Vec} {rs:List Nat}:∀(b a c:List Vec),dtD rs (a++x :: (b++x :: c))=0
 | [],a,c=>d7i a c
 | y :: b,a,c=>by
  have:=e1x (x:=x) (rs:=rs) b (a++[y]) c
  simp only[a3g,a5s,a3r] at this
  rw[a5s,f5r,this]
  rfl
def a3n:Nat->(Nat->Rat)->Rat
 | 0,_=>0
 | k+1,f=>a3n k f+f k
theorem a1c {f g:Nat->Rat}:∀{k:Nat},(∀j,j < k->f j=g j)->a3n k f=a3n k g
 | 0,_=>rfl
 | k+1,h=>by
  show a3n k f+f k=a3n k g+g k
  rw[a1c fun j hj=>h j (by omega),h k (by omega)]
theorem c0t {f g:Nat->Rat}:∀{k:Nat},a3n k (fun j=>f j+g j)=a3n k f+a3n k g
 | 0=>by show (0:Rat)=0+0;grind
 | k+1=>by
  show a3n k (fun j=>f j+g j)+_=(a3n k f+f k)+(a3n k g+g k)
  rw[c0t]
  grind
theorem a3w {f:Nat->Rat} {c:Rat}:∀{k:Nat},a3n k (fun j=>c*f j)=c*a3n k f
 | 0=>by show (0:Rat)=c*0;grind
 | k+1=>by
  show a3n k (fun j=>c*f j)+_=c*(a3n k f+f k)
  rw[a3w]
  grind
theorem a3o {f:Nat->Rat}:∀{k:Nat},(∀j,j < k->f j=0)->a3n k f=0
 | 0,_=>rfl
 | k+1,h=>by
  show a3n k f+f k=0
  rw[a3o fun j hj=>h j (by omega),h k (by omega)]
  grind
theorem a7l {f:Nat->Rat} {i:Nat}:∀{k:Nat},i < k->(∀j,j < k->j≠i->f j=0)->a3n k f=f i
 | k+1,hi,h=>by
  show a3n k f+f k=f i
  by_cases e:i=k
  ·subst e
   rw[a3o fun j hj=>h j (by omega) (by omega)]
   grind
  ·rw[a7l (by omega) fun j hj=>h j (by omega),h k (by omega) (fun z=>e z.symm)]
   grind
theorem a8j {f:Nat->Nat->Rat} {m:Nat}:∀{k:Nat},a3n k (fun i=>a3n m (f i))=a3n m (fun j=>a3n k fun i=>f i j)
 | 0=>(a3o fun _ _=>rfl).symm
 | k+1=>by
  show a3n k (fun i=>a3n m (f i))+a3n m (f k)=a3n m (fun j=>a3n k (fun i=>f i j)+f k j)
  rw[a8j,c0t]
theorem e1u {rs:List Nat} {W:Vec} {v:Nat->Vec} {c:Nat->Rat} (a b:List Vec):∀{k:Nat} {W:Vec},(∀r∈rs,W r=a3n k fun j=>c j*v j r)->dtD rs (a++W :: b)=a3n k fun j=>c j*dtD rs (a++v j :: b)
 | 0,W,h=>d9s h a b
 | k+1,W,h=>by
  rw[c7s (f:=fun r=>a3n k fun j=>c j*v j r) (g:=v k) (x:=1) (y:=c k) (fun r hr=>by rw[h r hr];show a3n k _+_=_;grind) a b,e1u a b (k:=k) (W:=fun r=>a3n k fun j=>c j*v j r) fun r _=>rfl]
  show _=a3n k _+_
  grind
end L2
namespace L2
open Nm
def rlN (f:Nat->Nat):Nat->List Nat
 | 0=>[]
 | k+1=>f k :: rlN f k
def cwN (v:Nat->Vec):Nat->List Vec
 | 0=>[]
 | k+1=>v k :: cwN v k
def cvN (v:Nat->Vec) (i:Nat):Nat->List Vec
 | 0=>[]
 | k+1=>if k<=i then [] else v k :: cvN v i k
theorem c4g {f:Nat->Nat}:∀{k:Nat},(rlN f k).length=k
 | 0=>rfl
 | k+1=>by show (rlN f k).length+1=_;rw[c4g]
theorem cw_len {v:Nat->Vec}:∀{k:Nat},(cwN v k).length=k
 | 0=>rfl
 | k+1=>by show (cwN v k).length+1=_;rw[cw_len]
theorem b6z {f:Nat->Nat} {r:Nat}:∀{k:Nat},r∈rlN f k->∃t,t < k∧r=f t
 | k+1,h=>by
  rcases a0u.mp h with h | h
  ·exact ⟨k,by omega,h⟩
  ·obtain ⟨t,a,b⟩:=b6z h
   exact ⟨t,by omega,b⟩
theorem e0u {f g:Nat->Nat}:∀{k:Nat},(∀j,j < k->f j=g j)->rlN f k=rlN g k
 | 0,_=>rfl
 | k+1,h=>by
  show f k :: rlN f k=g k :: rlN g k
  rw[h k (by omega),e0u fun j hj=>h j (by omega)]
theorem cw_congr {f g:Nat->Vec}:∀{k:Nat},(∀j,j < k->f j=g j)->cwN f k=cwN g k
 | 0,_=>rfl
 | k+1,h=>by
  show f k :: cwN f k=g k :: cwN g k
  rw[h k (by omega),cw_congr fun j hj=>h j (by omega)]
theorem cw_mem {v:Nat->Vec} {j:Nat}:∀{k:Nat},j < k->v j∈cwN v k
 | k+1,h=>by
  by_cases e:j=k
  ·subst e
   exact .head _
  ·exact .tail _ (cw_mem (by omega))
theorem cw_in {v:Nat->Vec} {x:Vec}:∀{k:Nat},x∈cwN v k->∃t,t < k∧x=v t
 | k+1,h=>by
  rcases a0u.mp h with h | h
  ·exact ⟨k,by omega,h⟩
  ·obtain ⟨t,a,b⟩:=cw_in h
   exact ⟨t,by omega,b⟩
theorem f2u {v:Nat->Vec} {i j:Nat} (h1:i < j):∀{k:Nat},j < k->v j∈cvN v i k
 | k+1,h=>by
  show v j∈if k<=i then [] else v k :: cvN v i k
  rw[if_neg (by omega)]
  by_cases e:j=k
  ·subst e
   exact .head _
  ·exact .tail _ (f2u h1 (by omega))
theorem e3y {v:Nat->Vec} {i:Nat} {x:Vec}:∀{k:Nat},x∈cvN v i k->∃t,t < k∧x=v t
 | k+1,h=>by
  have h:x∈if k<=i then [] else v k :: cvN v i k:=h
  split at h
  ·cases h
  ·rcases a0u.mp h with h | h
   ·exact ⟨k,by omega,h⟩
   ·obtain ⟨t,a,b⟩:=e3y h
    exact ⟨t,by omega,b⟩
theorem cw_split {v:Nat->Vec} {i:Nat}:∀{k:Nat},i < k->cwN v k=cvN v i k++v i :: cwN v i
 | k+1,h=>by
  show v k :: cwN v k=(if k<=i then [] else v k :: cvN v i k)++_
  by_cases e:i=k
  ·subst e
   rw[if_pos (a0h _)]
   rfl
  ·rw[if_neg (by omega),cw_split (k:=k) (i:=i) (by omega)]
   rfl
theorem c4x {rs:List Nat} {v:Nat->Vec} {c:Nat->Rat} {W:Vec} {k i:Nat} (hi:i < k) (hW:∀r∈rs,W r=a3n k fun j=>c j*v j r):dtD rs (cvN v i k++W :: cwN v i)=c i*dtD rs (cwN v k):=by
 rw[e1u (v:=v) (c:=c) (W:=W) _ _ hW,a7l hi fun j hj ne=>?_,cw_split hi]
 rcases a2x j i with h | h
 ·obtain ⟨s,t,e⟩:=e4i (cw_mem (v:=v) h)
  rw[e,e1x]
  grind
 ·obtain ⟨s,t,e⟩:=e4i (f2u (v:=v) (show i < j by omega) hj)
  have:=e1x (x:=v j) (rs:=rs) t s (cwN v i)
  rw[e,a3g,a5s,this]
  grind
theorem g0f {rs:List Nat} {v:Nat->Vec} {c:Nat->Rat} {W:Vec} {k:Nat} (hW:∀r∈rs,W r=a3n k fun j=>c j*v j r):dtD rs (W :: cwN v k)=0:=by
 have:=e1u (v:=v) (c:=c) (W:=W) [] (cwN v k) hW
 rw[a3r] at this
 rw[this]
 refine a3o fun j hj=>?_
 obtain ⟨s,t,e⟩:=e4i (cw_mem (v:=v) hj)
 have:=e1x (x:=v j) (rs:=rs) s [] t
 rw[a3r] at this
 rw[e,a3r,this]
 grind
theorem e7z {rs:List Nat} {v:Nat->Vec} {c:Nat->Rat} {W:Vec} {k i:Nat} {s:Rat} (hi:i∉rs) (h1:W i=a3n k (fun j=>c j*v j i)+s) (hW:∀r∈rs,W r=a3n k fun j=>c j*v j r):dtD (i :: rs) (W :: cwN v k)=s*dtD rs (cwN v k):=by
 have e:=c7s (rs:=i :: rs) (h:=W) (f:=fun r=>a3n k fun j=>c j*v j r) (g:=fun r=>if r=i then 1 else 0) (x:=1) (y:=s) (fun r hr=>by
  rcases a0u.mp hr with rfl | hr
  ·rw[h1,if_pos rfl];grind
  ·rw[hW r hr,if_neg (fun z=>hi (by rw[← z];exact hr))];grind) [] (cwN v k)
 rw[a3r,a3r,a3r,g0f (c:=c) fun r _=>rfl] at e
 have e2:dtD (i :: rs) ((fun r=>if r=i then (1:Rat) else 0) :: cwN v k)=dtD rs (cwN v k):=by
  show 1*(if i=i then (1:Rat) else 0)*dtD rs ([]++cwN v k)+lpD (fun ws=>dtD rs ws) i ([]++[fun r=>if r=i then (1:Rat) else 0]) (cwN v k) (-1)=_
  have hF:∀a b,(fun ws=>dtD rs ws) (a++(fun r=>if r=i then (1:Rat) else 0) :: b)=0*(fun ws=>dtD rs ws) (a++(fun r=>if r=i then (1:Rat) else 0) :: b)+0*(fun ws=>dtD rs ws) (a++(fun r=>if r=i then (1:Rat) else 0) :: b):=fun a b=>by
   have:=d9s (h:=fun r=>if r=i then (1:Rat) else 0) (rs:=rs) (fun r hr=>if_neg fun z=>hi (by rw[← z];exact hr)) a b
   dsimp only
   rw[this]
   grind
  have:=d9m (r:=i) hF (cwN v k) [] [] (-1)
  rw[this,if_pos rfl,a3r]
  grind
 rw[e2] at e
 rw[e]
 grind
theorem f5j {F:List Vec->Rat} {r B W:Nat}:∀{post pre:List Vec} {s:Rat},(∀ws,(∀w∈ws,w∈pre++post)->ws.length+1=(pre++post).length->Fr 1 B (F ws))->(∀w∈post,Fr 1 W (w r))->Fr 1 1 s->Fr 1 (post.length*(W*B)) (lpD F r pre post s)
 | [],pre,s,_,_,_=>by show Fr 1 _ 0;exact Fr.zero
 | v :: post,pre,s,hF,hw,hs=>by
  have t1:Fr 1 (W*B) (s*v r*F (pre++post)):=by
   have:=(hs.mul (hw v (.head _))).mul (hF (pre++post) (fun w h=>by
    rcases a0w.mp h with h | h
    ·exact c1z _ h
    ·exact a2e _ (.tail _ h)) (by simp only[a0i,a1n];omega))
   simpa using this
  have t2:=f5j (F:=F) (r:=r) (B:=B) (W:=W) (post:=post) (pre:=pre++[v]) (s:=-s) (fun ws h h'=>hF ws (fun w hw=>by simpa using h w hw) (by simpa using h')) (fun w h=>hw w (.tail _ h)) (by simpa using hs.neg)
  exact (t1.add t2).mono (by rw[a1n,a4d];omega)
theorem d9t {W N:Nat}:∀{rs:List Nat} {vs:List Vec},vs.length<=N->(∀v∈vs,∀r∈rs,Fr 1 W (v r))->Fr 1 ((N*W)^rs.length) (dtD rs vs)
 | [],[],_,_=>by show Fr 1 1 1;exact (Fr.int (i:=1) (by decide))
 | [],_ :: _,_,_=>by show Fr 1 _ 0;exact Fr.zero
 | r :: rs,vs,hl,h=>by
  have:=f5j (F:=fun ws=>dtD rs ws) (r:=r) (B:=(N*W)^rs.length) (W:=W) (post:=vs) (pre:=[]) (s:=1) (fun ws h1 h2=>d9t (by rw[a3r] at h2;omega) fun v hv r' hr'=>h v (by simpa using h1 v hv) r' (.tail _ hr')) (fun w hw=>h w hw r (.head _)) (Fr.int (i:=1) (by decide))
  refine this.mono ?_
  rw[a1n,b1q,a3d ((N*W)^rs.length),a6x N]
  exact a0n _ hl
end L2
namespace L2
open Nm
structure Bar (a:Nat->Nat->Rat) (m k:Nat) (pm p:Nat->Nat) (l:Nat->Nat->Rat) (d:Rat):Prop where
 inj:∀i j,i < m->j < m->pm i=pm j->i=j
 rng:∀i,i < m->pm i < m
 km:k<=m
 d0:d≠0
 det:d=dtD (rlN pm k) (cwN (fun j r=>a r (p j)) k)
 eqs:∀i,i < m->∀c,d*a (pm i) c=a3n k (fun j=>a (pm i) (p j)*l j c)+if i < k then 0 else l i c
 unit:∀i,i < m->∀j,j < k->l i (p j)=if i=j then d else 0
section
variable {a l:Nat->Nat->Rat} {m k:Nat} {pm p:Nat->Nat} {d:Rat}
theorem Bar.start (h:∀i,i < m->pm i=i):Bar a m 0 pm p a 1 where
 inj i j hi hj e:=by rw[h i hi,h j hj] at e;exact e
 rng i hi:=by rw[h i hi];exact hi
 km:=a1f _
 d0:=by decide
 det:=rfl
 eqs i hi c:=by
  rw[h i hi,if_neg (by omega)]
  show 1*a i c=0+a i c
  grind
 unit i _ j hj:=absurd hj (by omega)
theorem Bar.coef (B:Bar a m k pm p l d) {i c:Nat} (hi:i < m):a (pm i) c=a3n k (fun j=>(l j c / d)*a (pm i) (p j))+if i < k then 0 else l i c / d:=by
 have h:=B.eqs i hi c
 have d0:=B.d0
 have e:a3n k (fun j=>(l j c / d)*a (pm i) (p j))=(1 / d)*a3n k (fun j=>a (pm i) (p j)*l j c):=by
  rw[← a3w]
  exact a1c fun j _=>by grind
 rw[e]
 split at h
 ·rw[if_pos (by assumption)]
  grind
 ·rw[if_neg (by assumption)]
  grind
theorem Bar.old (B:Bar a m k pm p l d) {i c:Nat} (hi:i < k):l i c=dtD (rlN pm k) (cvN (fun j r=>a r (p j)) i k++(fun r=>a r c) :: cwN (fun j r=>a r (p j)) i):=by
 have km:=B.km
 have d0:=B.d0
 rw[c4x (v:=fun j r=>a r (p j)) (c:=fun j=>l j c / d) hi fun r hr=>?_,← B.det]
 ·grind
 ·obtain ⟨t,ht,rfl⟩:=b6z hr
  have:=B.coef (i:=t) (c:=c) (by omega)
  rw[if_pos ht] at this
  rw[this]
  grind
theorem Bar.new (B:Bar a m k pm p l d) {i c:Nat} (h1:k<=i) (hi:i < m):l i c=dtD (pm i :: rlN pm k) ((fun r=>a r c) :: cwN (fun j r=>a r (p j)) k):=by
 have km:=B.km
 have d0:=B.d0
 have hn:pm i∉rlN pm k:=fun hm=>by
  obtain ⟨t,ht,e⟩:=b6z hm
  have:=B.inj i t hi (by omega) e
  omega
 have e1:a (pm i) c=a3n k (fun j=>(l j c / d)*a (pm i) (p j))+l i c / d:=by
  have:=B.coef (i:=i) (c:=c) hi
  rwa [if_neg (by omega)] at this
 have e2:∀r∈rlN pm k,a r c=a3n k (fun j=>(l j c / d)*a r (p j)):=fun r hr=>by
  obtain ⟨t,ht,rfl⟩:=b6z hr
  have:=B.coef (i:=t) (c:=c) (by omega)
  rw[if_pos ht] at this
  rw[this]
  grind
 rw[e7z (v:=fun j r=>a r (p j)) (c:=fun j=>l j c / d) (W:=fun r=>a r c) (s:=l i c / d) hn e1 e2,← B.det]
 grind
theorem Bar.fr {W N:Nat} (B:Bar a m k pm p l d) (hN:k < N) (hW:1<=W) (ha:∀i,i < m->∀c,Fr 1 W (a i c)) {i c:Nat} (hi:i < m):Fr 1 ((N*W)^(k+1)) (l i c):=by
 have km:=B.km
 have mono:∀t,t<=k+1->(N*W)^t<=(N*W)^(k+1):=fun t ht=>a0f (a7k (by omega) hW) ht
 have ha':∀r∈rlN pm k,∀c,Fr 1 W (a r c):=fun r hr c=>by
  obtain ⟨t,ht,rfl⟩:=b6z hr
  exact ha _ (B.rng t (by omega)) c
 by_cases h:i < k
 ·rw[B.old h]
  refine (d9t (W:=W) (N:=N) ?_ ?_).mono (mono _ (by rw[c4g];omega))
  ·have:=congrArg List.length (cw_split (v:=fun j r=>a r (p j)) h)
   rw[a0i,a1n,cw_len] at this
   rw[a0i,a1n]
   omega
  ·intro v hv r hr
   rcases a0w.mp hv with hv | hv
   ·obtain ⟨t,_,rfl⟩:=e3y hv
    exact ha' r hr _
   ·rcases a0u.mp hv with rfl | hv
    ·exact ha' r hr _
    ·obtain ⟨t,_,rfl⟩:=cw_in hv
     exact ha' r hr _
 ·rw[B.new (by omega) hi]
  refine (d9t (W:=W) (N:=N) ?_ ?_).mono (mono _ (by rw[a1n,c4g];omega))
  ·rw[a1n,cw_len]
   omega
  ·intro v hv r hr
   have hr':∀c,Fr 1 W (a r c):=fun c=>by
    rcases a0u.mp hr with rfl | hr
    ·exact ha _ (B.rng i hi) c
    ·exact ha' r hr c
   rcases a0u.mp hv with rfl | hv
   ·exact hr' _
   ·obtain ⟨t,_,rfl⟩:=cw_in hv
    exact hr' _
theorem Bar.dfr {W N:Nat} (B:Bar a m k pm p l d) (hN:k<=N) (ha:∀i,i < m->∀c,Fr 1 W (a i c)):Fr 1 ((N*W)^k) d:=by
 have km:=B.km
 rw[B.det]
 have:=d9t (W:=W) (N:=N) (rs:=rlN pm k) (vs:=cwN (fun j r=>a r (p j)) k) (by rw[cw_len];exact hN) fun v hv r hr=>by
  obtain ⟨t,ht,rfl⟩:=b6z hr
  obtain ⟨t',_,rfl⟩:=cw_in hv
  exact ha _ (B.rng t (by omega)) _
 rwa [c4g] at this
def swN (k t i:Nat):Nat:=if i=k then t else if i=t then k else i
theorem d3k {k t m i:Nat} (hk:k < m) (ht:t < m) (hi:i < m):swN k t i < m:=by
 unfold swN
 split
 ·exact ht
 ·split
  ·exact hk
  ·exact hi
theorem f7h {k t i j:Nat} (h:swN k t i=swN k t j):i=j:=by
 unfold swN at h
 split at h <;> split at h <;> (try split at h) <;> (try split at h) <;> omega
theorem d1u {k t i:Nat} (h:k<=t) (hi:i < k):swN k t i=i:=by
 unfold swN
 rw[if_neg (by omega),if_neg (by omega)]
theorem d3l {k t i:Nat} (h:k<=t) (hi:k<=i):k<=swN k t i:=by
 unfold swN
 split
 ·exact h
 ·split <;> omega
theorem Bar.swap (B:Bar a m k pm p l d) {t:Nat} (h:k<=t) (ht:t < m):Bar a m k (fun i=>pm (swN k t i)) p (fun i=>l (swN k t i)) d where
 inj i j hi hj e:=f7h (B.inj _ _ (d3k (by omega) ht hi) (d3k (by omega) ht hj) e)
 rng i hi:=B.rng _ (d3k (by omega) ht hi)
 km:=B.km
 d0:=B.d0
 det:=by rw[B.det,e0u (f:=pm) (g:=fun i=>pm (swN k t i)) fun j hj=>by rw[d1u h hj]]
 eqs i hi c:=by
  have e:=B.eqs (swN k t i) (d3k (by omega) ht hi) c
  have e1:a3n k (fun j=>a (pm (swN k t i)) (p j)*l (swN k t j) c)=a3n k (fun j=>a (pm (swN k t i)) (p j)*l j c):=a1c fun j hj=>by rw[d1u h hj]
  rw[e1]
  by_cases hk:i < k
  ·rw[d1u h hk] at e ⊢
   exact e
  ·rw[if_neg hk]
   rw[if_neg (by have:=d3l h (show k<=i by omega);omega)] at e
   exact e
 unit i hi j hj:=by
  rw[B.unit _ (d3k (by omega) ht hi) j hj]
  by_cases hk:i < k
  ·rw[d1u h hk]
  ·have:=d3l h (show k<=i by omega)
   rw[if_neg (by omega),if_neg (by omega)]
theorem Bar.step (B:Bar a m k pm p l d) {c0:Nat} (hk:k < m) (h0:l k c0≠0):Bar a m (k+1) pm (fun j=>if j=k then c0 else p j) (fun i c=>if i=k then l k c else (l k c0*l i c - l i c0*l k c) / d) (l k c0) where
 inj:=B.inj
 rng:=B.rng
 km:=hk
 d0:=h0
 det:=by
  rw[B.new (a0h _) hk]
  show _=dtD (pm k :: rlN pm k) ((fun r=>a r (if k=k then c0 else p k)) :: cwN _ k)
  rw[if_pos rfl]
  congr 2
  exact cw_congr fun j hj=>by rw[if_neg (show j≠k by omega)]
 eqs i hi c:=by
  have d0:=B.d0
  have e1:=B.eqs i hi c
  have e2:=B.eqs i hi c0
  show l k c0*a (pm i) c=(a3n k _+_)+_
  have s1:a3n k (fun j=>a (pm i) (if j=k then c0 else p j)*(if j=k then l k c else (l k c0*l j c - l j c0*l k c) / d))=(l k c0 / d)*a3n k (fun j=>a (pm i) (p j)*l j c)+(- l k c / d)*a3n k (fun j=>a (pm i) (p j)*l j c0):=by
   rw[← a3w,← a3w,← c0t]
   refine a1c fun j hj=>?_
   rw[if_neg (show j≠k by omega),if_neg (show j≠k by omega)]
   grind
  rw[s1]
  simp only[if_true]
  generalize a3n k (fun j=>a (pm i) (p j)*l j c)=S1 at e1 ⊢
  generalize a3n k (fun j=>a (pm i) (p j)*l j c0)=S2 at e2 ⊢
  rcases a8h i k with h | h | h
  ·rw[if_pos h] at e1 e2
   rw[if_pos (by omega)]
   grind
  ·subst h
   rw[if_neg (by omega)] at e1 e2
   rw[if_pos (by omega)]
   grind
  ·rw[if_neg (by omega)] at e1 e2
   rw[if_neg (by omega),if_neg (by omega)]
   grind
 unit i hi j hj:=by
  have d0:=B.d0
  by_cases e:j=k
  ·subst e
   simp only[if_true]
   by_cases ei:i=j
   ·rw[if_pos ei,if_pos ei]
   ·rw[if_neg ei,if_neg ei]
    grind
  ·have hj':j < k:=by omega
   rw[if_neg e]
   by_cases ei:i=k
   ·rw[if_pos ei,B.unit k hk j hj',if_neg (by omega),if_neg (by omega)]
   ·rw[if_neg ei,B.unit i hi j hj',B.unit k hk j hj',if_neg (show k≠j by omega)]
    split
    ·grind
    ·grind
end
end L2
namespace L2
open Nm
def Spn (m:Nat) (a:Nat->Nat->Rat) (x:Nat->Rat):Prop:=∃w:Nat->Rat,∀c,x c=a3n m fun t=>w t*a t c
section
variable {m m' k n:Nat} {a b:Nat->Nat->Rat} {x y:Nat->Rat}
theorem Spn.row {i:Nat} (hi:i < m):Spn m a (a i):=⟨fun t=>if t=i then 1 else 0,fun c=>by
 rw[a7l hi fun j _ ne=>by dsimp only;rw[if_neg ne];grind]
 dsimp only
 rw[if_pos rfl]
 grind⟩
theorem Spn.lin (α β:Rat) (hx:Spn m a x) (hy:Spn m a y):Spn m a fun c=>α*x c+β*y c:=by
 obtain ⟨w,hw⟩:=hx
 obtain ⟨v,hv⟩:=hy
 refine ⟨fun t=>α*w t+β*v t,fun c=>?_⟩
 dsimp only
 rw[hw c,hv c,← a3w,← a3w,← c0t]
 exact a1c fun j _=>by grind
theorem Spn.congr (h:∀c,x c=y c) (hx:Spn m a x):Spn m a y:=let ⟨w,hw⟩:=hx;⟨w,fun c=>by rw[← h c];exact hw c⟩
theorem Spn.trans (h:∀t,t < m'->Spn m a (b t)) (hx:Spn m' b x):Spn m a x:=by
 obtain ⟨v,hv⟩:=hx
 have h2:∀t,∃w:Nat->Rat,t < m'->∀c,b t c=a3n m fun s=>w s*a s c:=fun t=>by
  by_cases ht:t < m'
  ·obtain ⟨w,hw⟩:=h t ht
   exact ⟨w,fun _=>hw⟩
  ·exact ⟨fun _=>0,fun z=>absurd z ht⟩
 have hc:=Classical.axiomOfChoice h2
 obtain ⟨w,hw⟩:=hc
 refine ⟨fun s=>a3n m' fun t=>v t*w t s,fun c=>?_⟩
 rw[hv c]
 have e1:a3n m' (fun t=>v t*b t c)=a3n m' (fun t=>a3n m fun s=>v t*(w t s*a s c)):=a1c fun t ht=>by rw[hw t ht c,← a3w]
 rw[e1,a8j]
 refine a1c fun s _=>?_
 have:a3n m' (fun t=>v t*w t s)*a s c=a s c*a3n m' (fun t=>v t*w t s):=a4l ..
 rw[this,← a3w]
 exact a1c fun t _=>by grind
theorem Spn.zero (h:∀c,x c=0):Spn m a x:=⟨fun _=>0,fun c=>by rw[h c,a3o fun _ _=>by grind]⟩
end
structure Rrf (m n:Nat) (a:Nat->Nat->Rat) (k:Nat) (p:Nat->Nat) (R:Nat->Nat->Rat):Prop where
 inc:∀i j,i < j->j < k->p i < p j
 low:∀j,j < k->p j < n
 unit:∀i,i < k->∀j,j < k->R i (p j)=if i=j then 1 else 0
 lead:∀i,i < k->∀c,c < p i->R i c=0
 span:∀i,i < m->Spn k R (a i)
 back:∀i,i < k->Spn m a (R i)
section
variable {m m' k k' n:Nat} {a a' R R':Nat->Nat->Rat} {p p':Nat->Nat} {x:Nat->Rat}
theorem Rrf.coef (h:Rrf m n a k p R) (hx:Spn k R x) (c:Nat):x c=a3n k fun j=>x (p j)*R j c:=by
 obtain ⟨w,hw⟩:=hx
 rw[hw c]
 refine a1c fun j hj=>?_
 rw[hw (p j),a7l hj fun t ht ne=>by rw[h.unit t ht j hj,if_neg ne];grind,h.unit j hj j hj,if_pos rfl]
 grind
theorem Rrf.lead_in (h:Rrf m n a k p R) (hx:Spn k R x) {c:Nat} (h1:x c≠0) (h0:∀c',c' < c->x c'=0):∃j,j < k∧p j=c:=by
 refine Classical.byContradiction fun hn=>h1 ?_
 rw[h.coef hx c]
 refine a3o fun j hj=>?_
 rcases a8h (p j) c with z | z | z
 ·rw[h0 _ z];grind
 ·exact absurd ⟨j,hj,z⟩ hn
 ·rw[h.lead j hj c z];grind
theorem inc_le (h1:∀i j,i < j->j < k->p i < p j) (h2:∀i j,i < j->j < k'->p' i < p' j) (hs:∀j,j < k'->∃i,i < k∧p i=p' j):∀{j:Nat},j < k'->∀{i:Nat},i < k->p i=p' j->j<=i
 | 0,_,_,_,_=>a1f _
 | j+1,hj,i,hi,e=>by
  obtain ⟨i0,hi0,e0⟩:=hs j (by omega)
  have:=inc_le h1 h2 hs (j:=j) (by omega) hi0 e0
  have lt:=h2 j (j+1) (by omega) hj
  rcases a8h i0 i with z | z | z
  ·omega
  ·subst z;omega
  ·have:=h1 i i0 z hi0;omega
theorem f1a (h1:∀i j,i < j->j < k->p i < p j) {i j:Nat} (h:i<=j) (hj:j < k):p i<=p j:=by
 rcases a2x i j with z | z
 ·exact a1j (h1 i j z hj)
 ·have:i=j:=by omega
  rw[this];exact a0h _
theorem e7r (h1:∀i j,i < j->j < k->p i < p j) (h2:∀i j,i < j->j < k'->p' i < p' j) (hs:∀j,j < k'->∃i,i < k∧p i=p' j):k'<=k∧∀j,j < k'->p j<=p' j:=by
 refine ⟨?_,fun j hj=>?_⟩
 ·rcases b6j k' with z | z
  ·omega
  ·obtain ⟨i,hi,e⟩:=hs (k' - 1) (by omega)
   have:=inc_le h1 h2 hs (j:=k' - 1) (by omega) hi e
   omega
 ·obtain ⟨i,hi,e⟩:=hs j hj
  rw[← e]
  exact f1a h1 (inc_le h1 h2 hs hj hi e) hi
theorem Rrf.uniq (h:Rrf m n a k p R) (h':Rrf m' n a' k' p' R') (s1:∀i,i < m->Spn m' a' (a i)) (s2:∀i,i < m'->Spn m a (a' i)):k=k'∧(∀j,j < k->p j=p' j)∧∀i,i < k->∀c,R i c=R' i c:=by
 have x1:∀i,i < k->Spn k' R' (R i):=fun i hi=>Spn.trans (fun t ht=>h'.span t ht) (Spn.trans s1 (h.back i hi))
 have x2:∀i,i < k'->Spn k R (R' i):=fun i hi=>Spn.trans (fun t ht=>h.span t ht) (Spn.trans s2 (h'.back i hi))
 have y1:∀j,j < k->∃i,i < k'∧p' i=p j:=fun j hj=>h'.lead_in (x1 j hj) (by rw[h.unit j hj j hj,if_pos rfl];decide) (h.lead j hj)
 have y2:∀j,j < k'->∃i,i < k∧p i=p' j:=fun j hj=>h.lead_in (x2 j hj) (by rw[h'.unit j hj j hj,if_pos rfl];decide) (h'.lead j hj)
 obtain ⟨z1,w1⟩:=e7r h'.inc h.inc y1
 obtain ⟨z2,w2⟩:=e7r h.inc h'.inc y2
 have ek:k=k':=Nat.le_antisymm z1 z2
 subst ek
 have ep:∀j,j < k->p j=p' j:=fun j hj=>Nat.le_antisymm (w2 j hj) (w1 j hj)
 refine ⟨rfl,ep,fun i hi c=>?_⟩
 rw[h.coef (x2 i hi) c,a7l hi fun j hj ne=>by rw[ep j hj,h'.unit i hi j hj,if_neg (fun z=>ne z.symm)];grind,ep i hi,h'.unit i hi i hi,if_pos rfl]
 grind
end
structure d0x (a:Nat->Nat->Rat) (m k P:Nat) (p:Nat->Nat) (l:Nat->Nat->Rat) (d:Rat):Prop where
 km:k<=m
 d0:d≠0
 unit:∀i,i < m->∀j,j < k->l i (p j)=if i=j then d else 0
 inc:∀i j,i < j->j < k->p i < p j
 low:∀j,j < k->p j < P
 zero:∀i,k<=i->i < m->∀c,c < P->l i c=0
 lead:∀j,j < k->∀c,c < p j->l j c=0
 there:∀i,i < m->Spn m l (a i)
 back:∀i,i < m->Spn m a (l i)
section
variable {m k n P:Nat} {a l l':Nat->Nat->Rat} {p:Nat->Nat} {d d':Rat}
theorem d0x.start:d0x a m 0 0 p a 1 where
 km:=a1f _
 d0:=by decide
 unit _ _ j hj:=absurd hj (by omega)
 inc _ j _ hj:=absurd hj (by omega)
 low j hj:=absurd hj (by omega)
 zero _ _ _ c hc:=absurd hc (by omega)
 lead j hj:=absurd hj (by omega)
 there i hi:=Spn.row hi
 back i hi:=Spn.row hi
theorem d0x.skip (E:d0x a m k P p l d) (h:∀i,k<=i->i < m->l i P=0):d0x a m k (P+1) p l d :=
 ⟨E.km,E.d0,E.unit,E.inc,fun j hj=>Nat.lt_succ_of_lt (E.low j hj),fun i h1 h2 c hc=>by
  by_cases e:c=P
  ·rw[e];exact h i h1 h2
  ·exact E.zero i h1 h2 c (by omega),E.lead,E.there,E.back⟩
theorem g1b {k t i:Nat}:swN k t (swN k t i)=i:=by
 unfold swN
 split
 ·split <;> (try split) <;> omega
 ·split
  ·rw[if_pos rfl];omega
  ·rfl
theorem d0x.swap (E:d0x a m k P p l d) {t:Nat} (h:k<=t) (ht:t < m):d0x a m k P p (fun i=>l (swN k t i)) d where
 km:=E.km
 d0:=E.d0
 unit i hi j hj:=by
  rw[E.unit _ (d3k (by omega) ht hi) j hj]
  by_cases hk:i < k
  ·rw[d1u h hk]
  ·have:=d3l h (show k<=i by omega)
   rw[if_neg (by omega),if_neg (by omega)]
 inc:=E.inc
 low:=E.low
 zero i h1 h2 c hc:=E.zero _ (d3l h h1) (d3k (by omega) ht h2) c hc
 lead j hj c hc:=by rw[d1u h hj];exact E.lead j hj c hc
 there i hi:=Spn.trans (fun s hs=>Spn.congr (fun c=>by rw[g1b]) (Spn.row (a:=fun i=>l (swN k t i)) (i:=swN k t s) (d3k (by omega) ht hs))) (E.there i hi)
 back i hi:=E.back _ (d3k (by omega) ht hi)
theorem d0x.step (E : d0x a m k P p l d) (hk : k < m) (h0 : d' ≠ 0) (unit' : ∀ i, i < m → ∀ j, j < k + 1 → l' i (if j = k then P else p j) = if i = j then d' else 0)
    (hl : ∀ i, i < m → ∃ β γ : Rat, β ≠ 0 ∧ (i = k → γ = 0) ∧ ∀ c, l' i c = β * l i c + γ * l k c) : d0x a m (k + 1) (P + 1) (fun j => if j = k then P else p j) l' d' where
  km := hk
  d0 := h0
  unit := unit'
  inc i j hij hj := by
    by_cases e : j = k
    · rw [if_pos e, if_neg (by omega)]
      exact E.low i (by omega)
    · rw [if_neg e, if_neg (by omega)]
      exact E.inc i j hij (by omega)
  low j hj := by
    by_cases e : j = k
    · rw [if_pos e]; omega
    · rw [if_neg e]
      exact Nat.lt_succ_of_lt (E.low j (by omega))
  zero i h1 h2 c hc := by
    by_cases e : c = P
    · have := unit' i h2 k (by omega)
      rw [if_pos rfl, if_neg (by omega)] at this
      rw [e]; exact this
    · obtain ⟨β, γ, _, _, q⟩ := hl i h2
      rw [q c, E.zero i (by omega) h2 c (by omega), E.zero k (a0h _) hk c (by omega)]
      grind
  lead j hj c hc := by
    have km := E.km
    obtain ⟨β, γ, _, _, q⟩ := hl j (by omega)
    by_cases e : j = k
    · rw [if_pos e] at hc
      rw [q c, e, E.zero k (a0h _) hk c hc]
      grind
    · rw [if_neg e] at hc
      have := E.low j (by omega)
      rw [q c, E.lead j (by omega) c hc, E.zero k (a0h _) hk c (by omega)]
      grind
  there i hi := by
    refine Spn.trans (fun s hs => ?_) (E.there i hi)
    obtain ⟨β, γ, b0, _, q⟩ := hl s hs
    obtain ⟨βk, γk, bk0, gk, qk⟩ := hl k hk
    have g0 := gk rfl
    refine Spn.congr (fun c => ?_) (Spn.lin (1 / β) (-(γ / β) / βk) (Spn.row (a := l') hs) (Spn.row (a := l') hk))
    rw [q c, qk c, g0]
    grind
  back i hi := by
    obtain ⟨β, γ, _, _, q⟩ := hl i hi
    exact Spn.congr (fun c => (q c).symm) (Spn.lin β γ (E.back i hi) (E.back k hk))
theorem d0x.done (E:d0x a m k n p l d) (ha:∀i,i < m->∀c,n<=c->a i c=0):Rrf m n a k p (fun i c=>l i c / d) where
 inc:=E.inc
 low:=E.low
 unit i hi j hj:=by
  have d0:=E.d0
  have km:=E.km
  rw[E.unit i (by omega) j hj]
  split
  ·grind
  ·grind
 lead i hi c hc:=by
  rw[E.lead i hi c hc]
  grind
 span i hi:=by
  have d0:=E.d0
  refine Spn.trans (fun s hs=>?_) (E.there i hi)
  by_cases z:s < k
  ·refine Spn.congr (fun c=>?_) (Spn.lin d 0 (Spn.row (a:=fun i c=>l i c / d) z) (Spn.row (a:=fun i c=>l i c / d) z))
   grind
  ·refine Spn.zero fun c=>?_
   by_cases hc:c < n
   ·exact E.zero s (by omega) hs c hc
   ·obtain ⟨w,hw⟩:=E.back s hs
    rw[hw c,a3o fun t ht=>by rw[ha t ht c (by omega)];grind]
 back i hi:=by
  have km:=E.km
  have d0:=E.d0
  refine Spn.congr (fun c=>?_) (Spn.lin (1 / d) 0 (E.back i (by omega)) (E.back i (by omega)))
  grind
end
end L2
namespace L2
open Nm
def fnZ (ls:List (List Int)) (i c:Nat):Rat:=(((ls.getD i []).getD c 0:Int):Rat)
def fnQ (rows:List (List Rat)) (i c:Nat):Rat:=(rows.getD i []).getD c 0
def swZ (ls:List (List Int)) (k t:Nat):List (List Int):=(ls.set k (ls.getD t [])).set t (ls.getD k [])
def clZ (ls:List (List Int)) (k c:Nat) (b:Int):List (List Int):=(ls.map fun zs=>List.zipWith (fun x y=>((ls.getD k []).getD c 0*x - zs.getD c 0*y).fdiv b) zs (ls.getD k [])).set k (ls.getD k [])
section
variable {ls ls0:List (List Int)} {k t n P c:Nat} {b d:Int} {ps:List Nat}
theorem c4w {α:Type} {l:List α} {i j:Nat} {x e:α} (hi:i < l.length):(l.set i x).getD j e=if j=i then x else l.getD j e:=by
 rw[a0a,a0a,List.getElem?_set]
 by_cases h:j=i
 ·subst h
  rw[if_pos rfl,if_pos hi,if_pos rfl]
  rfl
 ·rw[if_neg (fun z=>h z.symm),if_neg h]
theorem d1v:(swZ ls k t).length=ls.length:=by unfold swZ;rw[a4q,a4q]
theorem f2v:(clZ ls k c b).length=ls.length:=by unfold clZ;rw[a4q,a0e]
theorem getD_in {α:Type} {l:List α} {i:Nat} {e:α} (h:i < l.length):l.getD i e∈l:=by
 rw[a0a,a0c h]
 exact a0z h
theorem e4v (w:∀zs∈ls,zs.length=n) (hk:k < ls.length) (ht:t < ls.length):∀zs∈swZ ls k t,zs.length=n:=fun zs hz=>by
 unfold swZ at hz
 rcases a2y hz with h | h
 ·rcases a2y h with h | h
  ·exact w zs h
  ·rw[h];exact w _ (getD_in ht)
 ·rw[h];exact w _ (getD_in hk)
theorem e8g (w:∀zs∈ls,zs.length=n) (hk:k < ls.length):∀zs∈clZ ls k c b,zs.length=n:=fun zs hz=>by
 unfold clZ at hz
 rcases a2y hz with h | h
 ·obtain ⟨y,hy,rfl⟩:=a0t.mp h
  rw[a2i,w y hy,w _ (getD_in hk)]
  omega
 ·rw[h];exact w _ (getD_in hk)
theorem c9y (hk:k < ls.length) (ht:t < ls.length) (i c:Nat):fnZ (swZ ls k t) i c=fnZ ls (swN k t i) c:=by
 unfold fnZ swZ swN
 rw[c4w (by rw[a4q];exact ht),c4w hk]
 by_cases h1:i=t
 ·rw[if_pos h1]
  by_cases h2:i=k
  ·rw[if_pos h2,← h1,← h2]
  ·rw[if_neg h2,if_pos h1]
 ·rw[if_neg h1]
  by_cases h2:i=k
  ·rw[if_pos h2,if_pos h2]
  ·rw[if_neg h2,if_neg h2,if_neg h1]
theorem c9z (w:∀zs∈ls,zs.length=n) {i c:Nat} (hc:n<=c):fnZ ls i c=0:=by
 unfold fnZ
 by_cases h:i < ls.length
 ·have:=w _ (getD_in (e:=[]) h)
  rw[a0a (l:=ls.getD i []),a1d (by omega)]
  rfl
 ·rw[a0a (l:=ls),a1d (by omega)]
  rfl
theorem c8f {x:Int} (h:(x:Rat)=0):x=0:=by
 have:(x:Rat)=((0:Int):Rat):=h
 exact a4m.mp this
theorem e3x {x b:Int} {q:Rat} (hb:b≠0) (hq:∃z:Int,q=(z:Rat)) (e:(x:Rat)=(b:Rat)*q):((x.fdiv b:Int):Rat)=q:=by
 obtain ⟨z,rfl⟩:=hq
 rw[← a1b] at e
 have:=a4m.mp e
 rw[this,Int.mul_fdiv_cancel_left _ hb]
theorem d4q {W:Nat} {q:Rat} (h:Fr 1 W q):∃z:Int,q=(z:Rat):=by
 obtain ⟨z,e,_⟩:=h
 exact ⟨z,by rw[← e];simp⟩
theorem d2w {W:Nat} {z:Int} (h:Fr 1 W (z:Rat)):z.natAbs<=W:=by
 obtain ⟨y,e,b⟩:=h
 have:(z:Rat)=(y:Rat):=by rw[← e];simp
 rw[a4m.mp this]
 simpa using b
theorem f1j (w:∀zs∈ls,zs.length=n) (hk:k < ls.length) (hb:b≠0) {i:Nat} (hi:i < ls.length) (hz:∀c,∃z:Int,(fnZ ls k P*fnZ ls i c - fnZ ls i P*fnZ ls k c) / (b:Rat)=(z:Rat)) (c:Nat) :
  fnZ (clZ ls k P b) i c=if i=k then fnZ ls k c else (fnZ ls k P*fnZ ls i c - fnZ ls i P*fnZ ls k c) / (b:Rat):=by
 by_cases e:i=k
 ·rw[if_pos e]
  unfold fnZ clZ
  rw[c4w (by rw[a0e];exact hk),if_pos e]
 ·rw[if_neg e]
  by_cases hc:c < n
  ·have hb':(b:Rat)≠0:=fun z=>hb (c8f z)
   have lk:=w _ (getD_in (e:=[]) hk)
   have li:=w _ (getD_in (e:=[]) hi)
   have e1:fnZ (clZ ls k P b) i c=(((((ls.getD k []).getD P 0*(ls.getD i []).getD c 0 - (ls.getD i []).getD P 0*(ls.getD k []).getD c 0).fdiv b:Int)):Rat):=by
    unfold clZ
    rw[fnZ,c4w (by rw[a0e];exact hk),if_neg e]
    rw[a0a (l:=List.map _ ls),a0x,a0c hi]
    show ((((List.zipWith _ ls[i] (ls.getD k [])).getD c 0:Int)):Rat)=_
    have ei:ls.getD i []=ls[i]:=by rw[a0a,a0c hi];rfl
    rw[← ei]
    rw[a0a (l:=List.zipWith _ _ _),a3z,a0a (l:=ls.getD i []) (i:=c),a0a (l:=ls.getD k []) (i:=c),a0c (show c < (ls.getD i []).length by omega),a0c (show c < (ls.getD k []).length by omega)]
    rfl
   rw[e1]
   refine e3x hb (hz c) ?_
   rw[Rat.intCast_sub,a1b,a1b]
   show _=(b:Rat)*((fnZ ls k P*fnZ ls i c - fnZ ls i P*fnZ ls k c) / (b:Rat))
   show fnZ ls k P*fnZ ls i c - fnZ ls i P*fnZ ls k c=_
   grind
  ·rw[c9z (e8g w hk) (show n<=c by omega),c9z w (i:=i) (show n<=c by omega),c9z w (i:=k) (show n<=c by omega)]
   grind
end
section
variable {m k n P:Nat} {a l l2:Nat->Nat->Rat} {pm p p2:Nat->Nat} {d:Rat}
theorem Bar.congr (B:Bar a m k pm p l d) (hp:∀j,j < k->p2 j=p j) (hl:∀i,i < m->∀c,l2 i c=l i c):Bar a m k pm p2 l2 d where
 inj:=B.inj
 rng:=B.rng
 km:=B.km
 d0:=B.d0
 det:=by rw[B.det,cw_congr (f:=fun j r=>a r (p j)) (g:=fun j r=>a r (p2 j)) fun j hj=>by rw[hp j hj]]
 eqs i hi c:=by
  have km:=B.km
  rw[B.eqs i hi c,hl i hi c]
  congr 1
  exact a1c fun j hj=>by rw[hp j hj,hl j (by omega) c]
 unit i hi j hj:=by rw[hp j hj,hl i hi];exact B.unit i hi j hj
theorem Spn.rows {x:Nat->Rat} (h:∀i,i < m->∀c,l2 i c=l i c) (hx:Spn m l x):Spn m l2 x:=let ⟨w,hw⟩:=hx;⟨w,fun c=>by rw[hw c];exact a1c fun t ht=>by rw[h t ht c]⟩
theorem d0x.congr (E:d0x a m k P p l d) (hp:∀j,j < k->p2 j=p j) (hl:∀i,i < m->∀c,l2 i c=l i c):d0x a m k P p2 l2 d where
 km:=E.km
 d0:=E.d0
 unit i hi j hj:=by rw[hp j hj,hl i hi];exact E.unit i hi j hj
 inc i j hij hj:=by rw[hp i (by omega),hp j hj];exact E.inc i j hij hj
 low j hj:=by rw[hp j hj];exact E.low j hj
 zero i h1 h2 c hc:=by rw[hl i h2];exact E.zero i h1 h2 c hc
 lead j hj c hc:=by
  have km:=E.km
  rw[hp j hj] at hc
  rw[hl j (by omega)]
  exact E.lead j hj c hc
 there i hi:=(E.there i hi).rows hl
 back i hi:=(E.back i hi).congr fun c=>(hl i hi c).symm
theorem d0x.kP (E:d0x a m k P p l d):k<=P:=by
 have:∀j,j < k->j<=p j:=by
  intro j
  induction j with
  | zero=>intro _;exact a1f _
  | succ j ih =>
   intro hj
   have:=ih (by omega)
   have:=E.inc j (j+1) (by omega) hj
   omega
 rcases b6j k with z | z
 ·omega
 ·have h1:=this (k - 1) (by omega)
  have h2:=E.low (k - 1) (by omega)
  omega
end
structure SwI (ls0:List (List Int)) (n P:Nat) (ls:List (List Int)) (ps:List Nat) (d:Int):Prop where
 len:ls.length=ls0.length
 wide:∀zs∈ls,zs.length=n
 bar:∃pm,Bar (fnZ ls0) ls0.length ps.length pm (fun j=>ps.getD j 0) (fnZ ls) d
 el:d0x (fnZ ls0) ls0.length ps.length P (fun j=>ps.getD j 0) (fnZ ls) d
section
variable {ls0 ls:List (List Int)} {n P:Nat} {ps:List Nat} {d:Int}
theorem SwI.start (w:∀zs∈ls0,zs.length=n):SwI ls0 n 0 ls0 [] 1:=⟨rfl,w,⟨fun i=>i,Bar.start fun _ _=>rfl⟩,d0x.start⟩
theorem SwI.d0 (h:SwI ls0 n P ls ps d):d≠0:=fun z=>h.el.d0 (by rw[z];rfl)
theorem SwI.skip (h:SwI ls0 n P ls ps d) (hz:∀i,ps.length<=i->i < ls.length->fnZ ls i P=0):SwI ls0 n (P+1) ls ps d:=⟨h.len,h.wide,h.bar,h.el.skip fun i h1 h2=>hz i h1 (by rw[h.len];exact h2)⟩
theorem getD_snoc {l:List Nat} {x j:Nat} (hj:j < l.length+1):(l++[x]).getD j 0=if j=l.length then x else l.getD j 0:=by
 rw[a0a,a0a]
 by_cases e:j=l.length
 ·rw[if_pos e,e,a1e (a0h _),a6w]
  rfl
 ·rw[if_neg e,a1p (by omega)]
theorem SwI.int {W:Nat} (h:SwI ls0 n P ls ps d) (hW:1<=W) (h0:∀i,i < ls0.length->∀c,Fr 1 W (fnZ ls0 i c)) {t:Nat} (ht:ps.length<=t) (ht2:t < ls.length) (hne:fnZ ls t P≠0) :
  ∀i,i < ls.length->i≠ps.length->∀c,∃z:Int,(fnZ (swZ ls ps.length t) ps.length P*fnZ (swZ ls ps.length t) i c - fnZ (swZ ls ps.length t) i P*fnZ (swZ ls ps.length t) ps.length c) / (d:Rat)=(z:Rat):=fun i hi ne c=>by
 obtain ⟨pm,B⟩:=h.bar
 have hl:=h.len
 have hk:ps.length < ls.length:=by omega
 have B1:=(B.swap ht (by omega)).congr (p2:=fun j=>ps.getD j 0) (l2:=fnZ (swZ ls ps.length t)) (fun _ _=>rfl) (fun i _ c=>c9y hk ht2 i c)
 have h1:fnZ (swZ ls ps.length t) ps.length P≠0:=by
  rw[c9y hk ht2]
  unfold swN
  rw[if_pos rfl]
  exact hne
 have B2:=B1.step (c0:=P) (by omega) h1
 have:=B2.fr (W:=W) (N:=ps.length+2) (by omega) hW h0 (i:=i) (c:=c) (by omega)
 rw[if_neg ne] at this
 exact d4q this
theorem SwI.step {W:Nat} (h:SwI ls0 n P ls ps d) (hW:1<=W) (h0:∀i,i < ls0.length->∀c,Fr 1 W (fnZ ls0 i c)) {t:Nat} (ht:ps.length<=t) (ht2:t < ls.length) (hne:fnZ ls t P≠0) :
  SwI ls0 n (P+1) (clZ (swZ ls ps.length t) ps.length P d) (ps++[P]) (((clZ (swZ ls ps.length t) ps.length P d).getD ps.length []).getD P 0):=by
 obtain ⟨pm,B⟩:=h.bar
 have hl:=h.len
 have hk:ps.length < ls.length:=by omega
 have hz:=h.int hW h0 ht ht2 hne
 have w1:=e4v h.wide hk ht2
 have k1:ps.length < (swZ ls ps.length t).length:=by rw[d1v];exact hk
 have B1:=(B.swap ht (by omega)).congr (p2:=fun j=>ps.getD j 0) (l2:=fnZ (swZ ls ps.length t)) (fun _ _=>rfl) (fun i _ c=>c9y hk ht2 i c)
 have E1:=(h.el.swap ht (by omega)).congr (p2:=fun j=>ps.getD j 0) (l2:=fnZ (swZ ls ps.length t)) (fun _ _=>rfl) (fun i _ c=>c9y hk ht2 i c)
 have h1:fnZ (swZ ls ps.length t) ps.length P≠0:=by
  rw[c9y hk ht2]
  unfold swN
  rw[if_pos rfl]
  exact hne
 have B2:=B1.step (c0:=P) (by omega) h1
 have fc:∀i,i < ls0.length->∀c,fnZ (clZ (swZ ls ps.length t) ps.length P d) i c=if i=ps.length then fnZ (swZ ls ps.length t) ps.length c else (fnZ (swZ ls ps.length t) ps.length P*fnZ (swZ ls ps.length t) i c - fnZ (swZ ls ps.length t) i P*fnZ (swZ ls ps.length t) ps.length c) / (d:Rat):=fun i hi c=>by
  by_cases e:i=ps.length
  ·rw[if_pos e]
   unfold fnZ clZ
   rw[c4w (by rw[a0e];exact k1),if_pos e]
  ·have:=f1j w1 k1 h.d0 (i:=i) (by rw[d1v];omega) (hz i (by omega) e) c
   rw[this]
 have ed:(((((clZ (swZ ls ps.length t) ps.length P d).getD ps.length []).getD P 0:Int)):Rat)=fnZ (swZ ls ps.length t) ps.length P:=by
  have:=fc ps.length (by omega) P
  rw[if_pos rfl] at this
  exact this
 have lp:(ps++[P]).length=ps.length+1:=by rw[a0i];rfl
 have hp:∀j,j < ps.length+1->(ps++[P]).getD j 0=if j=ps.length then P else ps.getD j 0:=fun j hj=>getD_snoc hj
 refine ⟨by rw[f2v,d1v];exact hl,e8g w1 k1,⟨fun i=>pm (swN ps.length t i),?_⟩,?_⟩
 ·rw[ed,lp]
  exact B2.congr hp fc
 ·rw[ed,lp]
  refine d0x.congr (E1.step (d':=fnZ (swZ ls ps.length t) ps.length P) (l':=fun i c=>if i=ps.length then fnZ (swZ ls ps.length t) ps.length c else (fnZ (swZ ls ps.length t) ps.length P*fnZ (swZ ls ps.length t) i c - fnZ (swZ ls ps.length t) i P*fnZ (swZ ls ps.length t) ps.length c) / (d:Rat)) (by omega) h1 B2.unit fun i hi=>?_) hp fc
  have d0:=h.el.d0
  by_cases e:i=ps.length
  ·refine ⟨1,0,by decide,fun _=>rfl,fun c=>?_⟩
   rw[if_pos e,e]
   grind
  ·refine ⟨fnZ (swZ ls ps.length t) ps.length P / (d:Rat),-(fnZ (swZ ls ps.length t) i P) / (d:Rat),?_,fun z=>absurd z e,fun c=>?_⟩
   ·intro z
    apply h1
    grind
   ·rw[if_neg e]
    grind
theorem SwI.sz {W r:Nat} (h:SwI ls0 n P ls ps d) (hW:1<=W) (h0:∀i,i < ls0.length->∀c,Fr 1 W (fnZ ls0 i c)) (hP:P<=n) (hr:min ls0.length n<=r) (r15:r<=15):(d.natAbs<=(16*W)^r)∧∀zs∈ls,∀z∈zs,z.natAbs<=(16*W)^r:=by
 obtain ⟨pm,B⟩:=h.bar
 have kP:=h.el.kP
 have km:=B.km
 have hl:=h.len
 have mono:∀{s t:Nat},s<=t->(16*W)^s<=(16*W)^t:=fun hs=>a0f (a7k (by decide) hW) hs
 refine ⟨a0d (d2w (B.dfr (W:=W) (N:=16) (by omega) h0)) (mono (by omega)),fun zs hz z hz'=>?_⟩
 obtain ⟨i,hi,rfl⟩:=a2c hz
 obtain ⟨c,hc,rfl⟩:=a2c hz'
 have hw:=h.wide _ (a0z hi)
 have ez:fnZ ls i c=(((ls[i])[c]:Int):Rat):=by
  unfold fnZ
  rw[a0a (l:=ls),a0c hi]
  show ((ls[i].getD c 0:Int):Rat)=_
  rw[a0a,a0c hc]
  rfl
 by_cases hk:i < ps.length
 ·have:Fr 1 ((16*W)^ps.length) (fnZ ls i c):=by
   have hd:=B.d0
   rw[B.old hk]
   have:=d9t (W:=W) (N:=16) (rs:=rlN pm ps.length) (vs:=cvN (fun j r=>fnZ ls0 r (ps.getD j 0)) i ps.length++(fun r=>fnZ ls0 r c) :: cwN (fun j r=>fnZ ls0 r (ps.getD j 0)) i) (by
    have:=congrArg List.length (cw_split (v:=fun j r=>fnZ ls0 r (ps.getD j 0)) hk)
    rw[a0i,a1n,cw_len] at this
    rw[a0i,a1n]
    omega) (by
    intro v hv r hr
    have hr':∀c,Fr 1 W (fnZ ls0 r c):=fun c=>by
     obtain ⟨t,ht,rfl⟩:=b6z hr
     exact h0 _ (B.rng t (by omega)) c
    rcases a0w.mp hv with hv | hv
    ·obtain ⟨t,_,rfl⟩:=e3y hv
     exact hr' _
    ·rcases a0u.mp hv with rfl | hv
     ·exact hr' _
     ·obtain ⟨t,_,rfl⟩:=cw_in hv
      exact hr' _)
   rwa [c4g] at this
  rw[ez] at this
  exact a0d (d2w this) (mono (by omega))
 ·by_cases hn:ps.length < n
  ·have:=B.fr (W:=W) (N:=16) (by omega) hW h0 (i:=i) (c:=c) (by omega)
   rw[ez] at this
   exact a0d (d2w this) (mono (by omega))
  ·have:=h.el.zero i (by omega) (by omega) c (by omega)
   rw[ez] at this
   rw[c8f this]
   exact a1f _
end
end L2
namespace L2
open Nm
def Tp (M W:Nat) (q:Rat):Prop:=∃z:Int,q*(M:Rat)=(z:Rat)∧z.natAbs<=W
theorem Tp.of {M V W:Nat} {q:Rat} (h:Fr M V q) (hW:V*M<=W):Tp M W q:=let ⟨z,a,b⟩:=h;⟨z,a,a0d b hW⟩
theorem Tp.mono {M W W':Nat} {q:Rat} (h:Tp M W q) (hW:W<=W'):Tp M W' q:=let ⟨z,a,b⟩:=h;⟨z,a,a0d b hW⟩
theorem Tp.fr {M W:Nat} {q:Rat} (h:Tp M W q) (h0:0 < M):Fr M W q:=let ⟨z,a,b⟩:=h;⟨z,a,a0d b (a4o _ h0)⟩
def SwF (rows:List (List Rat)) (n w:Nat):Prop:=∃M W:Nat,0 < M∧M<=2^4300∧1<=W∧W<=2^w∧(∀xs∈rows,∀x∈xs,Tp M W x)∧w<=4300∧min rows.length n<=15∧min rows.length n*(w+4)<=8900
def c2w (xs:List Rat):List Int:=b0g (xs.map nm) (c0d (xs.map nm))
theorem c0s {xs:List Rat}:(c2w xs).length=xs.length:=by unfold c2w b0g;rw[a0e,a0e]
theorem c8s {xs:List Rat}:0 < c0d (xs.map nm):=d4n (by decide) fun b hb=>by
 obtain ⟨n,hn,rfl⟩:=a0t.mp hb
 obtain ⟨x,_,rfl⟩:=a0t.mp hn
 exact b4y x
theorem f3e {xs:List Rat} {c:Nat}:(((c2w xs).getD c 0:Int):Rat)=xs.getD c 0*((c0d (xs.map nm):Int):Rat):=by
 unfold c2w b0g
 rw[a0a,a0a,a0x,a0x]
 cases e:xs[c]? with
 | none=>show ((0:Int):Rat)=0*_;rw[b1p];rfl
 | some x=>exact c4a (c5j (a0t.mpr ⟨x,a0j e,rfl⟩))
section
variable {rows:List (List Rat)} {n w i c:Nat} {xs:List Rat}
theorem d8k (hi:i < rows.length):fnZ (rows.map c2w) i c=((c0d ((rows.getD i []).map nm):Int):Rat)*fnQ rows i c:=by
 unfold fnZ fnQ
 have e:(rows.map c2w).getD i []=c2w (rows.getD i []):=by
  rw[a0a,a0a,a0x,a0c hi]
  rfl
 rw[e,f3e,a4l]
theorem e1r (hw:∀xs∈rows,xs.length=n) (hc:n<=c):fnQ rows i c=0:=by
 unfold fnQ
 by_cases h:i < rows.length
 ·have:=hw _ (getD_in (e:=[]) h)
  rw[a0a (l:=rows.getD i []),a1d (by omega)]
  rfl
 ·rw[a0a (l:=rows),a1d (by omega)]
  rfl
theorem d3e (i:Nat) (hi:i < rows.length):Spn rows.length (fnZ (rows.map c2w)) (fnQ rows i):=by
 have h0:((c0d ((rows.getD i []).map nm):Int):Rat)≠0:=fun z=>by
  have:=c8s (xs:=rows.getD i [])
  have:=c8f z
  omega
 refine Spn.congr (fun c=>?_) (Spn.lin (1 / ((c0d ((rows.getD i []).map nm):Int):Rat)) 0 (Spn.row (a:=fnZ (rows.map c2w)) hi) (Spn.row (a:=fnZ (rows.map c2w)) hi))
 rw[d8k hi]
 grind
theorem d3d (i:Nat) (hi:i < rows.length):Spn rows.length (fnQ rows) (fnZ (rows.map c2w) i):=by
 refine Spn.congr (fun c=>?_) (Spn.lin ((c0d ((rows.getD i []).map nm):Int):Rat) 0 (Spn.row (a:=fnQ rows) hi) (Spn.row (a:=fnQ rows) hi))
 rw[d8k hi]
 grind
theorem d5y {M W:Nat} {x:Rat} (h:Tp M W x):(nm x).2∣(M:Int):=by
 obtain ⟨z,e,b⟩:=h
 exact Fr.den (V:=z.natAbs) (M:=M) ⟨z,e,by
  rcases b6j M with h | h
  ·subst h
   have:(z:Rat)=0:=by rw[← e];simp
   rw[c8f this]
   simp
  ·exact a4o _ h⟩
theorem e0n {M W:Nat} {x:Rat} (h:Tp M W x) (h0:0 < M) {B:Int} (hB:0 < B) (d1:(nm x).2∣B) (d2:B∣(M:Int)):∃t:Int,x*(B:Rat)=(t:Rat)∧t.natAbs<=W:=by
 obtain ⟨z,e,b⟩:=h
 obtain ⟨s,es⟩:=d2
 refine ⟨(nm x).1*(B / (nm x).2),(c4a d1).symm,?_⟩
 have s0:0 < s:=by
  rcases Int.lt_trichotomy s 0 with h | h | h
  ·have:=Int.mul_neg_of_pos_of_neg hB h
   omega
  ·rw[h] at es;omega
  ·exact h
 have e2:(((nm x).1*(B / (nm x).2)*s:Int):Rat)=(z:Rat):=by
  rw[a1b,c4a d1,← e,← a0v,es,a1b]
  grind
 have e3:=a4m.mp e2
 have:((nm x).1*(B / (nm x).2)).natAbs*s.natAbs=z.natAbs:=by rw[← a3t,e3]
 have h1:1<=s.natAbs:=by omega
 have:=a4o ((nm x).1*(B / (nm x).2)).natAbs h1
 omega
theorem e8i {M W:Nat} (h0:0 < M) (h:∀x∈xs,Tp M W x):c0d (xs.map nm)∣(M:Int):=d4m (by decide) (Int.one_dvd _) fun b hb=>by
 obtain ⟨n,hn,rfl⟩:=a0t.mp hb
 obtain ⟨x,hx,rfl⟩:=a0t.mp hn
 exact ⟨b4y x,d5y (h x hx)⟩
theorem SwF.rowM (F:SwF rows n w) (hx:xs∈rows):∃M,f6g M (xs.map nm):=by
 obtain ⟨M,W,h0,h1,hW,h2,h3,h4,_⟩:=F
 refine ⟨M,by omega,?_,fun y hy=>?_⟩
 ·show ((M:Nat):Int).natAbs < 2^4400
  rw[a2m]
  exact a1m h1 (a4s (by decide) (by decide))
 ·obtain ⟨x,hx',rfl⟩:=a0t.mp hy
  have t:=h3 xs hx x hx'
  refine ⟨b4y x,d5y t,?_⟩
  obtain ⟨s,e,b⟩:=e0n t h0 (b4y x) (Int.dvd_refl _) (d5y t)
  have e2:(((nm x).1:Int):Rat)=(s:Rat):=by rw[← e];exact c3f x
  rw[a4m.mp e2]
  exact a1m (a0d b h2) (a4s (by decide) (by omega))
theorem SwF.ent (F:SwF rows n w):∃W:Nat,1<=W∧W<=2^w∧∀i,i < (rows.map c2w).length->∀c,Fr 1 W (fnZ (rows.map c2w) i c):=by
 obtain ⟨M,W,h0,h1,hW,h2,h3,h4,_⟩:=F
 refine ⟨W,hW,h2,fun i hi c=>?_⟩
 rw[a0e] at hi
 have hx:=getD_in (e:=[]) hi
 rw[d8k hi]
 unfold fnQ
 generalize rows.getD i []=xs at hx ⊢
 by_cases hc:c < xs.length
 ·have t:=h3 xs hx _ (getD_in (e:=0) hc)
  obtain ⟨s,e,b⟩:=e0n t h0 (c8s (xs:=xs)) (c5j (a0t.mpr ⟨_,getD_in (e:=0) hc,rfl⟩)) (e8i h0 (h3 xs hx))
  rw[a4l,e]
  exact Fr.int b
 ·rw[a0a,a1d (by omega)]
  show Fr 1 W (_*0)
  rw[a6b]
  exact Fr.zero
end
def a2u (rows:List (List Rat)) (n:Nat) (R:List (List Rat)) (ps:List Nat):Prop:=R.length=ps.length∧(∀xs∈R,xs.length=n)∧Rrf rows.length n (fnQ rows) ps.length (fun j=>ps.getD j 0) (fnQ R)
structure SwR (rows:List (List Rat)) (n w:Nat) (R:List (List Rat)) (ps:List Nat) (d:Int) (ls:List (List Int)):Prop where
 rr:a2u rows n R ps
 d0:d≠0
 len:ls.length=ps.length
 wide:∀zs∈ls,zs.length=n
 val:∀i c,fnZ ls i c=(d:Rat)*fnQ R i c
 dsz:d.natAbs<=2^(min rows.length n*(w+4))
 zsz:∀zs∈ls,∀z∈zs,z.natAbs<=2^(min rows.length n*(w+4))
 tp:∀xs∈R,∀x∈xs,Tp d.natAbs (2^(min rows.length n*(w+4))) x
 km:ps.length<=rows.length
theorem Rrf.congrR {m n k:Nat} {a R R2:Nat->Nat->Rat} {p:Nat->Nat} (h:Rrf m n a k p R) (hr:∀i,i < k->∀c,R2 i c=R i c):Rrf m n a k p R2 :=
 ⟨h.inc,h.low,fun i hi j hj=>by rw[hr i hi];exact h.unit i hi j hj,fun i hi c hc=>by rw[hr i hi];exact h.lead i hi c hc,fun i hi=>(h.span i hi).rows hr,fun i hi=>(h.back i hi).congr fun c=>(hr i hi c).symm⟩
theorem Rrf.other {m m' n k:Nat} {a a' R:Nat->Nat->Rat} {p:Nat->Nat} (h:Rrf m n a k p R) (s1:∀i,i < m->Spn m' a' (a i)) (s2:∀i,i < m'->Spn m a (a' i)):Rrf m' n a' k p R :=
 ⟨h.inc,h.low,h.unit,h.lead,fun i hi=>Spn.trans h.span (s2 i hi),fun i hi=>Spn.trans s1 (h.back i hi)⟩
theorem e6i {W w r : Nat} (h : W ≤ 2 ^ w) : (16 * W) ^ r ≤ 2 ^ (r * (w + 4)) := by
  calc (16 * W) ^ r ≤ (2 ^ (w + 4)) ^ r := c3s (by rw [a4k]; omega) _
    _ = 2 ^ (r * (w + 4)) := by rw [← e2n, a3d]
theorem SwI.done {rows:List (List Rat)} {n w:Nat} {ls:List (List Int)} {ps:List Nat} {d:Int} (h:SwI (rows.map c2w) n n ls ps d) (hw:∀xs∈rows,xs.length=n) (F:SwF rows n w) :
  ∃R,SwR rows n w R ps d (ls.take ps.length):=by
 obtain ⟨W,hW,W2,ent⟩:=F.ent
 obtain ⟨_,_,_,_,_,_,_,_,r15,_⟩:=F
 have hl:=h.len
 have d0:=h.d0
 have d0':(d:Rat)≠0:=fun z=>d0 (c8f z)
 have km:=h.el.km
 have hm:(rows.map c2w).length=rows.length:=a0e ..
 obtain ⟨s1,s2⟩:=h.sz (r:=min rows.length n) hW ent (a0h _) (by rw[hm];exact a0h _) r15
 have s2':∀zs∈ls,∀z∈zs,z.natAbs<=2^(min rows.length n*(w+4)):=fun zs hz z hz'=>a0d (s2 zs hz z hz') (e6i W2)
 have er:∀i c,fnQ ((ls.take ps.length).map fun zs=>zs.map fun (z:Int)=>(z:Rat) / (d:Rat)) i c=fnZ (ls.take ps.length) i c / (d:Rat):=fun i c=>by
  unfold fnQ fnZ
  rw[a0a (l:=List.map _ _),a0x,a0a (l:=List.take _ _)]
  cases e:(ls.take ps.length)[i]? with
  | none=>show (0:Rat)=((0:Int):Rat) / _;grind
  | some zs =>
   show (zs.map fun (z:Int)=>(z:Rat) / (d:Rat)).getD c 0=((zs.getD c 0:Int):Rat) / (d:Rat)
   rw[a0a,a0a,a0x]
   cases e2:zs[c]? with
   | none=>show (0:Rat)=((0:Int):Rat) / _;grind
   | some z=>rfl
 have et:∀i,i < ps.length->∀c,fnZ (ls.take ps.length) i c=fnZ ls i c:=fun i hi c=>by
  unfold fnZ
  rw[a0a (l:=List.take _ _),c9a hi,← a0a]
 have RR:=(h.el.done fun i hi c hc=>c9z (n:=n) (fun zs hz=>by
  obtain ⟨xs,hx,rfl⟩:=a0t.mp hz
  rw[c0s]
  exact hw xs hx) hc).congrR (R2:=fnQ ((ls.take ps.length).map fun zs=>zs.map fun (z:Int)=>(z:Rat) / (d:Rat))) fun i hi c=>by rw[er,et i hi]
 rw[hm] at RR
 refine ⟨(ls.take ps.length).map fun zs=>zs.map fun (z:Int)=>(z:Rat) / (d:Rat),⟨by rw[a0e,a4h];omega,fun xs hx=>?_,RR.other d3d d3e⟩,d0,by rw[a4h];omega,fun zs hz=>h.wide zs (a3k hz),fun i c=>?_,a0d s1 (e6i W2),fun zs hz=>s2' zs (a3k hz),fun xs hx x hx'=>?_,by omega⟩
 ·obtain ⟨zs,hz,rfl⟩:=a0t.mp hx
  rw[a0e]
  exact h.wide zs (a3k hz)
 ·rw[er]
  grind
 ·obtain ⟨zs,hz,rfl⟩:=a0t.mp hx
  obtain ⟨z,hz',rfl⟩:=a0t.mp hx'
  have b:=s2' zs (a3k hz) z hz'
  rcases e4j d with e | e
  ·refine ⟨z,?_,b⟩
   have:((d.natAbs:Nat):Rat)=(d:Rat):=by rw[← a0v,← e]
   rw[this]
   grind
  ·refine ⟨-z,?_,by rw[b4d];exact b⟩
   have:((d.natAbs:Nat):Rat)=-(d:Rat):=by rw[← a0v,← a3q];congr 1;omega
   rw[this,a3q]
   grind
theorem f2o {R R':List (List Rat)} {n:Nat} (hl:R.length=R'.length) (w1:∀xs∈R,xs.length=n) (w2:∀xs∈R',xs.length=n) (h:∀i,i < R.length->∀c,fnQ R i c=fnQ R' i c):R=R':=by
 apply a4i hl
 intro i h1 h2
 apply a4i (by rw[w1 _ (a0z h1),w2 _ (a0z h2)])
 intro c h3 h4
 have:=h i h1 c
 unfold fnQ at this
 rw[a0a (l:=R),a0a (l:=R'),a0c h1,a0c h2] at this
 have this:(R[i]).getD c 0=(R'[i]).getD c 0:=this
 rw[a0a,a0a,a0c h3,a0c h4] at this
 exact this
theorem a2u.uniq {rows rows' R R':List (List Rat)} {n:Nat} {ps ps':List Nat} (h:a2u rows n R ps) (h':a2u rows' n R' ps') (s1:∀i,i < rows.length->Spn rows'.length (fnQ rows') (fnQ rows i)) (s2:∀i,i < rows'.length->Spn rows.length (fnQ rows) (fnQ rows' i)):R=R'∧ps=ps':=by
 obtain ⟨l1,w1,r1⟩:=h
 obtain ⟨l2,w2,r2⟩:=h'
 obtain ⟨ek,ep,eR⟩:=r1.uniq r2 s1 s2
 refine ⟨f2o (by omega) w1 w2 fun i hi c=>eR i (by omega) c,?_⟩
 apply a4i ek
 intro j h1 h2
 have:=ep j h1
 rw[a0a,a0a,a0c h1,a0c h2] at this
 exact this
theorem a2u.same {rows R R':List (List Rat)} {n:Nat} {ps ps':List Nat} (h:a2u rows n R ps) (h':a2u rows n R' ps'):R=R'∧ps=ps':=h.uniq h' (fun _ hi=>Spn.row hi) (fun _ hi=>Spn.row hi)
end L2
namespace L2
open PySem PySem.Spec PyProof.Rows Nm
def RzR (l:Addr) (H:Hp) (zs:List Int) (v:V):Prop:=∃q,v=V.ref q∧q≠l∧H q=some (.lst (zs.map V.int))
def d0l (l:Addr) (H:Hp) (p:Addr) (ls:List (List Int)):Prop:=p≠l∧∃xs,H p=some (.lst xs)∧Paired (RzR l H) ls xs
theorem RzR.same {l:Addr} {H H':Hp} {zs:List Int} {v:V} (h:RzR l H zs v) (e:a1w H H'):RzR l H' zs v:=let ⟨q,a,n,b⟩:=h;⟨q,a,n,e _ _ b⟩
theorem RzR.upd {l:Addr} {H:Hp} {zs:List Int} {v:V} {o:HO} (h:RzR l H zs v):RzR l (upd H l o) zs v:=let ⟨q,a,n,b⟩:=h;⟨q,a,n,by rw[a2d n];exact b⟩
theorem d0l.upd {l:Addr} {H:Hp} {p:Addr} {ls:List (List Int)} {o:HO} (h:d0l l H p ls):d0l l (upd H l o) p ls:=let ⟨n,xs,a,b⟩:=h;⟨n,xs,by rw[a2d n];exact a,Paired.imp' (fun _ _ z=>z.upd) b⟩
theorem ne_old {H:Hp} {l r:Addr} (h:H l≠none) (n:H r=none):r≠l:=fun z=>h (by rw[← z];exact n)
theorem b3v {α β:Type} {F:α->β->Prop}:∀{l1:List α} {l2:List β} (_:Paired F l1 l2) (i:Nat) {x:α} {y:β},F x y->Paired F (l1.set i x) (l2.set i y)
 | _,_,.nil,_,_,_,_=>.nil
 | _,_,.cons _ r,0,_,_,h=>.cons h r
 | _,_,.cons a r,i+1,_,_,h=>.cons a (b3v r i h)
theorem f6t {ls:List (List Int)} {i c:Nat} {zs:List Int} (h:ls[i]?=some zs):fnZ ls i c=((zs.getD c 0:Int):Rat):=by
 unfold fnZ
 rw[a0a (l:=ls),h]
 rfl
theorem z_ne {z:Int}:((z:Int):Rat)≠0↔z≠0:=⟨fun h e=>h (by rw[e];rfl),fun h e=>h (c8f e)⟩
theorem d8j {zs:List Int} {c:Nat} (h:c < zs.length):atI (zs.map V.int) (c:Int)=some (V.int (zs.getD c 0)):=b2c (by rw[a0x,a0a,a0c h];rfl)
def e5o:Sp:=fun vs H Q _=>∃(l p:Addr) (ls:List (List Int)) (b c:Nat),vs=[.ref p,.int b,.int c]∧d0l l H p ls∧ls.length<=1000∧b<=1000∧(∀zs∈ls,c < zs.length)∧(∀t:Nat,b<=t->t < ls.length->fnZ ls t c≠0->Q (.int t) H)∧((∀t,b<=t->t < ls.length->fnZ ls t c=0)->Q .non H)
def d8s:Sp:=fun vs H Q _=>∃(l p:Addr) (ls:List (List Int)) (t k:Nat),vs=[.ref p,.int t,.int k]∧H l≠none∧d0l l H p ls∧ls.length<=1000∧t < ls.length∧k < ls.length∧∀r H',H r=none->a1w H H'->d0l l H' r (swZ ls k t)->Q (.ref r) H'
def e5q:Sp:=fun vs H Q _=>∃(l p:Addr) (ls:List (List Int)) (k c n:Nat) (b:Int),vs=[.ref p,.int k,.int c,.int b]∧H l≠none∧d0l l H p ls∧ls.length<=1000∧k < ls.length∧(∀zs∈ls,zs.length=n)∧n<=1000∧c < n∧b≠0∧Sz 8999 b∧(∀zs∈ls,∀z∈zs,Sz 8999 z)∧∀r H',H r=none->a1w H H'->d0l l H' r (clZ ls k c b)->Q (.ref r) H'
theorem f0n (K:PySem.W.Frag) {X:Cx} {a b:Expr} {ta:TA} {p pos tpos:Pos} {elts:List Expr} {kk:Nat} (hg:Gl X "zip") (hm:X.mg "zip"=none) (ha:PA X [a,b] ta) (hK:X.K=K:=by rfl) (hs:starEach [a,b] X.env=[(false,eval a X.env),(false,eval b X.env)]:=by rfl) (hs2:starEach [b] X.env=[(false,eval b X.env)]:=by rfl) :
  PI X (.Tuple elts kk tpos) (.Call (.Name "zip" p) [a,b] [] pos) (g1u K ta):=by subst hK;exact c2z hg hm ha hs hs2
def a7e (ps:List Nat):List V:=ps.map fun (j:Nat)=>V.int (j:Int)
def e4z (K:PySem.W.Frag):Sp:=fun vs H Q _=>∃(p:Addr) (n w:Nat) (H0:Hp) (rows:List (List Rat)),vs=[.ref p,.int n]∧a3e K H0 H p rows∧rows.length<=100∧n<=100∧(∀xs∈rows,xs.length=n)∧SwF rows n w ∧
 ∀t lp qp R ps d ls H',H' t=some (.tup [.ref lp,.ref qp])->H' qp=some (.lst (a7e ps))->d0l qp H' lp ls->a1w H H'->SwR rows n w R ps d ls->Q (.ref t) H'
def d8r (K:PySem.W.Frag):Sp:=fun vs H Q _=>∃(p:Addr) (n w:Nat) (H0:Hp) (rows:List (List Rat)),vs=[.ref p,.int n]∧a3e K H0 H p rows∧rows.length<=100∧n<=100∧(∀xs∈rows,xs.length=n)∧SwF rows n w ∧
 ∀r R ps M H',H r=none->a1w H H'->a3e K H H' r R->a2u rows n R ps->ps.length<=rows.length->0 < M->M<=2^(min rows.length n*(w+4))->(∀xs∈R,∀x∈xs,Tp M (2^(min rows.length n*(w+4))) x)->Q (.ref r) H'
end L2
namespace L2
open Nm
def f5y (rows:List (List Rat)) (i:Nat):Rat:=((c0d ((rows.getD i []).map nm):Int):Rat)
theorem f5x {rows:List (List Rat)} {i:Nat}:f5y rows i≠0:=fun z=>by
 have:=c8s (xs:=rows.getD i [])
 have:=c8f z
 omega
structure LwI (rows:List (List Rat)) (n P:Nat) (rs:List (List Rat)) (ps:List Nat):Prop where
 len:rs.length=rows.length
 wide:∀xs∈rs,xs.length=n
 ex:∃pm l d,Bar (fnZ (rows.map c2w)) rows.length ps.length pm (fun j=>ps.getD j 0) l d∧d0x (fnZ (rows.map c2w)) rows.length ps.length P (fun j=>ps.getD j 0) l d∧∀i,i < rows.length->∀c,fnQ rs i c=l i c / (d*if i < ps.length then 1 else f5y rows (pm i))
section
variable {rows rs rs':List (List Rat)} {n P w a:Nat} {ps:List Nat}
end
theorem c2a {M W:Nat} {x:Rat} (h:Tp M W x) (h0:0 < M) (h1:M<=2^3995) (h2:W<=2^3995):SzN x:=by
 refine ⟨?_,?_⟩
 ·obtain ⟨s,e,b⟩:=e0n h h0 (b4y x) (Int.dvd_refl _) (d5y h)
  have e2:(((nm x).1:Int):Rat)=(s:Rat):=by rw[← e];exact c3f x
  rw[a4m.mp e2]
  exact a1m (a0d b h2) (a4s (by decide) (by decide))
 ·have:=c2u h0 (d1a.mp (d5y h))
  show ((x.den:Nat):Int).natAbs < _
  rw[a2m]
  exact a1m (a0d this h1) (a4s (by decide) (by decide))
theorem Tp.mul {M W M' W':Nat} {x y:Rat} (h:Tp M W x) (h':Tp M' W' y):Tp (M*M') (W*W') (x*y):=by
 obtain ⟨z,e,b⟩:=h
 obtain ⟨z',e',b'⟩:=h'
 refine ⟨z*z',?_,by rw[a3t];exact a2a b b'⟩
 rw[a1b,← e,← e',a5m]
 grind
end L2
namespace L2
open PySem PySem.Spec PyProof.Rows Nm
def e5j (K:PySem.W.Frag):Sp:=fun vs H Q _=>∃(p q:Addr) (xs ys:List Rat),vs=[.ref p,.ref q]∧a6v K H p xs∧a6v K H q ys∧ys.length=xs.length∧xs.length<=1000∧(∀x∈xs,SzN x)∧(∀y∈ys,SzN y) ∧
 ∀r H',H r=none->a1w H H'->a6v K H' r (List.zipWith (fun x y=>x - y) xs ys)->Q (.ref r) H'
def e9r (K:PySem.W.Frag):Sp:=fun vs H Q _=>∃(p:Addr) (n:Nat) (H0:Hp) (R:List (List Rat)) (ps:List Nat),vs=[.ref p]∧a3e K H0 H p R∧R.length<=100∧n<=100∧(∃rows,a2u rows n R ps) ∧
 ∀r H',H r=none->a1w H H'->H' r=some (.lst (a7e ps))->Q (.ref r) H'
theorem c9x {K:PySem.W.Frag} {H0 H H':Hp} {q:Addr} {rows:List (List Rat)} {vs:List V} (pr:Paired (a8x K H0 H) rows vs) (s:a1w H H') (n:H q=none) (g:H' q=some (.lst vs)):a3e K H0 H' q rows :=
 ⟨vs,g,Paired.imp' (fun _ _ z=>z.same s) pr,fun z=>by
  obtain ⟨_,_,q',e,_,_,g',_⟩:=a5l pr z
  cases e
  rw[n] at g'
  cases g'⟩
theorem f3h:SzN 1:=c2a (M:=1) (W:=1) ⟨1,by simp,by decide⟩ (by decide) a2r a2r
theorem a2u.le {rows R:List (List Rat)} {n:Nat} {ps:List Nat} (h:a2u rows n R ps):ps.length<=n:=by
 obtain ⟨_,_,rr⟩:=h
 rcases a2x n ps.length with z | z
 ·have inc:∀j,j < ps.length->j<=ps.getD j 0:=by
   intro j
   induction j with
   | zero=>intro _;exact a1f _
   | succ j ih =>
    intro hj
    have:=ih (by omega)
    have:=rr.inc j (j+1) (by omega) hj
    omega
  have h1:=inc (ps.length - 1) (by omega)
  have h2:=rr.low (ps.length - 1) (by omega)
  omega
 ·exact z
theorem Tp.zero {M W:Nat}:Tp M W 0:=⟨0,by simp,by simp⟩
theorem Tp.add {M W W':Nat} {x y:Rat} (h:Tp M W x) (h':Tp M W' y):Tp M (W+W') (x+y):=by
 obtain ⟨z,e,b⟩:=h
 obtain ⟨z',e',b'⟩:=h'
 refine ⟨z+z',?_,a0d (Int.natAbs_add_le _ _) (Nat.add_le_add b b')⟩
 rw[d5p,← e,← e']
 grind
theorem Tp.sum {M W:Nat} {f:Nat->Rat}:∀{k:Nat},(∀j,j < k->Tp M W (f j))->Tp M (k*W) (a3n k f)
 | 0,_=>Tp.zero
 | k+1,h=>by
  have:=(Tp.sum (k:=k) fun j hj=>h j (by omega)).add (h k (by omega))
  exact this.mono (by rw[a4d];exact a0h _)
theorem b5y {M W:Nat} {xs:List Rat} (h:∀x∈xs,Tp M W x) (c:Nat):Tp M W (xs.getD c 0):=by
 by_cases hc:c < xs.length
 ·exact h _ (getD_in hc)
 ·rw[a0a,a1d (by omega)]
  exact Tp.zero
theorem f6w {M W:Nat} {R:List (List Rat)} (h:∀xs∈R,∀x∈xs,Tp M W x) (i c:Nat):Tp M W (fnQ R i c):=by
 unfold fnQ
 by_cases hi:i < R.length
 ·exact b5y (h _ (getD_in hi)) c
 ·rw[a0a (l:=R),a1d (by omega)]
  exact Tp.zero
theorem d2f {α β:Type} {F:α->β->Prop}:∀{l1:List α} {l2:List β},Paired F l1 l2->Paired F l1.reverse l2.reverse
 | _,_,.nil=>.nil
 | _,_,.cons a r=>by rw[c8z,c8z];exact a2t (d2f r) (.cons a .nil)
end L2
namespace L2
open PySem PySem.Spec PyProof.Rows Nm
theorem e8d {K:PySem.W.Frag} {l:Addr} {xs:List V} {g:TG} {tf:TT} {te:TE} {Q:VK} {σ₀:St} {H:Hp} (Pv:Nat->List V->Hp->Prop) (hz:xs.length<=sizeLine) (h0:Pv 0 [] H) (hl:∀i ys H,i<=xs.length->Pv i ys H->SqL K H l xs)
  (hs:∀i x ys H p,xs[i]?=some x->ys.length<=i->Pv i ys H->H p=none->d1b σ₀ g tf te (.ref p) (upd H p (.tup [.int i,x])) (fun y H'=>Pv (i+1) (ys++[y]) H') (fun H'=>Pv (i+1) ys H'))
  (hd:∀ys H,ys.length<=xs.length->Pv xs.length ys H->∀p,H p=none->Q (.ref p) (upd H p (.lst ys))):d1q (Ite K l) σ₀ g tf te Q H:=by
 refine ⟨fun i m ys H=>m=xs.length - i∧i<=xs.length∧ys.length<=i∧Pv i ys H,⟨xs.length,by simp,a1f _,a1f _,h0⟩,?_⟩
 rintro i m ys H ⟨rfl,hi,hy,p⟩
 have q1:=hl i ys H hi p
 by_cases hlt:i < xs.length
 ·refine .inr ⟨⟨xs,xs[i],q1,by simp [hlt]⟩,by omega,fun y H'=>Pv (i+1) (ys++[y]) H',fun H'=>Pv (i+1) ys H',fun y H' p'=>⟨xs.length - (i+1),by omega,rfl,hlt,by rw[a0i,a1q];omega,p'⟩,fun H' p'=>⟨xs.length - (i+1),by omega,rfl,hlt,by omega,p'⟩,fun x H' y=>?_⟩
  obtain ⟨r,x',rfl,hr,rfl,e1⟩:=y
  exact hs i x' ys _ r (e1 xs q1) hy p hr
 ·have e:i=xs.length:=by omega
  subst e
  exact .inl ⟨⟨xs,q1,a0h _⟩,by omega,hd ys H hy p⟩
section
variable {X:Cx}
theorem e8h (hc:X.calm=true):d0v X (.builtin "min") (fun xs H Q=>∃(p:Addr) (ns:List Int),xs=[.ref p]∧SqL X.K H p (ns.map V.int)∧0 < ns.length∧∀M,M∈ns->(∀a,a∈ns->M<=a)->Q (.int M) H):=by
 intro pins s σ H xs us Q I r h
 obtain ⟨p,ns,rfl,hp,hne,q⟩:=h
 obtain ⟨u,rfl,ru⟩:=vals1 r
 cases ru
 obtain ⟨its,r2,pl,_⟩:=I.list hp
 have hi:=intsAre_of r2
 have hl:=pl.isList
 obtain ⟨xs,e⟩:=hi.allInts.items
 have hns:ns=xs.toList.map (·.1):=by
  rw[← hi.numsOf,← nums_intItems,← e]
 have hsz:0 < xs.size:=by
  have h3:=hne;rw[hns,a0e,Array.length_toList] at h3;exact h3
 rw[e] at hl
 refine min_intList (I.ok.hd hc) hl hsz fun v h' tk hv hk=>?_
 obtain ⟨t,rfl⟩:=intItems_at hv
 obtain ⟨h1,h2⟩:=argBest_lt (numAt xs) (xs.size - 1)
 refine ⟨.int _,H,I.kept hk,⟨_,rfl⟩,q _ ?_ fun a ha=>?_⟩
 ·rw[hns,numAt_eq];exact getD_in (by rw[a0e,Array.length_toList];omega)
 ·rw[hns] at ha
  obtain ⟨j,hj,rfl⟩:=mem_getD ha
  rw[a0e,Array.length_toList] at hj
  rw[← numAt_eq];exact h2 j (by omega)
theorem d4a (K:PySem.W.Frag) (hK:X.K=K):OpR X (compareOp .NotIn) (rIn K true):=by subst hK;exact d6n
end
theorem e1o {j:Nat} {ps:List Nat}:inV (.int (j:Int)) (a7e ps)=decide (j∈ps):=by
 unfold inV a7e
 rw[List.any_map,b6n,List.any_eq_true,decide_eq_true_iff]
 constructor
 ·rintro ⟨x,hx,e⟩
  have e:((x:Int) == (j:Int))=true:=e
  have:(x:Int)=j:=by simpa using e
  have:x=j:=by omega
  rw[← this];exact hx
 ·intro h
  exact ⟨j,h,by show ((j:Int) == (j:Int))=true;simp⟩
theorem d6v {ps:List Nat}:(a7e ps).all d4s=true:=by
 unfold a7e
 rw[List.all_map]
 exact c1x.mpr fun _ _=>rfl
theorem c8l {ps:List Nat}:(a7e ps).length=ps.length:=a0e ..
def f0z (ps:List Nat):List Int:=ps.map fun (j:Nat)=>(j:Int)
theorem e7e {ps:List Nat}:a7e ps=(f0z ps).map V.int:=by unfold a7e f0z;rw[b9n];rfl
theorem d9k {ps:List Nat} {i:Nat} {v:V} (h:(a7e ps)[i]?=some v):∃j,ps[i]?=some j∧v=V.int (j:Int):=by
 unfold a7e at h
 rw[a0x] at h
 cases e:ps[i]? with
 | none=>rw[e] at h;cases h
 | some x=>rw[e] at h;exact ⟨x,rfl,(a2v h).symm⟩
def nzN (xs:List Rat) (i:Nat):List Nat:=(List.range i).filter fun c=>decide (xs.getD c 0≠0)
theorem e7b {xs:List Rat} {i:Nat}:nzN xs (i+1)=if xs.getD i 0≠0 then nzN xs i++[i] else nzN xs i:=by
 unfold nzN
 rw[c3u,List.filter_append]
 by_cases h:xs.getD i 0≠0
 ·rw[if_pos h,List.filter_cons_of_pos (by simpa using h)]
  rfl
 ·rw[if_neg h,List.filter_cons_of_neg (by simpa using h)]
  simp
def frN (ps:List Nat) (i:Nat):List Nat:=(List.range i).filter fun c=>decide (c∉ps)
theorem d4p {ps:List Nat} {i:Nat}:frN ps (i+1)=if i∉ps then frN ps i++[i] else frN ps i:=by
 unfold frN
 rw[c3u,List.filter_append]
 by_cases h:i∉ps
 ·rw[if_pos h,List.filter_cons_of_pos (by simpa using h)]
  rfl
 ·rw[if_neg h,List.filter_cons_of_neg (by simpa using h)]
  simp
theorem g0a {ps:List Nat} {i:Nat}:(frN ps i).length<=i:=by
 unfold frN
 exact a0d (List.length_filter_le ..) (by rw[a3s];exact a0h _)
def e9q (K:PySem.W.Frag):Sp:=fun vs H Q _=>∃(p:Addr) (xs:List Rat) (j:Nat),vs=[.ref p]∧a6v K H p xs∧xs.length<=1000∧j < xs.length∧xs.getD j 0≠0∧(∀c,c < j->xs.getD c 0=0)∧∀H',a1w H H'->Q (.int (j:Int)) H'
def e9t (K:PySem.W.Frag):Sp:=fun vs H Q _=>∃(p:Addr) (n:Nat) (H0:Hp) (R:List (List Rat)) (ps:List Nat),vs=[.ref p,.int n]∧a3e K H0 H p R∧R.length<=100∧n<=100∧(∃rows,a2u rows n R ps) ∧
 ∀r H',H r=none->a1w H H'->H' r=some (.lst (a7e (frN ps n)))->Q (.ref r) H'
end L2
namespace L2
open PySem PySem.Spec PyProof.Rows Nm
def nuJ (R:List (List Rat)) (ps:List Nat) (n at_ j:Nat):List Rat:=(List.range n).map fun c=>if c=at_ then 1 else a3n j fun i=>if ps.getD i 0=c then -(fnQ R i at_) else 0
def nuQ (R:List (List Rat)) (ps:List Nat) (n at_:Nat):List Rat:=nuJ R ps n at_ ps.length
def a4y (R:List (List Rat)) (ps:List Nat) (n:Nat):List (List Rat):=(frN ps n).map (nuQ R ps n)
section
variable {R rows:List (List Rat)} {ps:List Nat} {n a j:Nat}
theorem c7m:(nuJ R ps n a j).length=n:=by unfold nuJ;rw[a0e,a3s]
theorem f9c {c:Nat} (h:c < n):(nuJ R ps n a j).getD c 0=if c=a then 1 else a3n j fun i=>if ps.getD i 0=c then -(fnQ R i a) else 0:=by
 unfold nuJ
 rw[a0a,a0x,a6i h]
 rfl
theorem f5g:nuJ R ps n a 0=g0w n a:=by
 unfold nuJ g0w
 refine c3w fun c _=>?_
 by_cases e:c=a
 ·subst e
  simp
 ·rw[if_neg e]
  show (0:Rat)=_
  have:¬(c:Int)=(a:Int):=by omega
  simp [this]
theorem f5h (RR:a2u rows n R ps) (hj:j < ps.length) (ha:a∉ps):(nuJ R ps n a j).set (ps.getD j 0) (-(fnQ R j a))=nuJ R ps n a (j+1):=by
 obtain ⟨_,_,rr⟩:=RR
 have low:=rr.low j hj
 have pm:ps.getD j 0∈ps:=getD_in hj
 apply a4i (by rw[a4q,c7m,c7m])
 intro c h1 h2
 rw[c7m] at h2
 have e1:(nuJ R ps n a j)[c]'(by rw[c7m];exact h2)=if c=a then 1 else a3n j fun i=>if ps.getD i 0=c then -(fnQ R i a) else 0:=by simp only[nuJ,a5r,b6k]
 have e2:(nuJ R ps n a (j+1))[c]'(by rw[c7m];exact h2)=if c=a then 1 else a3n (j+1) fun i=>if ps.getD i 0=c then -(fnQ R i a) else 0:=by simp only[nuJ,a5r,b6k]
 rw[List.getElem_set,e2]
 have es:a3n (j+1) (fun i=>if ps.getD i 0=c then -(fnQ R i a) else 0)=a3n j (fun i=>if ps.getD i 0=c then -(fnQ R i a) else 0)+if ps.getD j 0=c then -(fnQ R j a) else 0:=rfl
 by_cases q:ps.getD j 0=c
 ·rw[if_pos q,if_neg (fun z=>ha (by rw[← z,← q];exact pm)),es,if_pos q,a3o fun i hi=>?_,f1x]
  rw[if_neg]
  intro z
  have:=rr.inc i j hi hj
  omega
 ·rw[if_neg q,e1]
  by_cases z:c=a
  ·rw[if_pos z,if_pos z]
  ·rw[if_neg z,if_neg z,es,if_neg q,b9k]
theorem f5i {c:Nat} (hc:c < n) (hp:c∉ps):(nuQ R ps n a).getD c 0=if c=a then 1 else 0:=by
 unfold nuQ
 rw[f9c hc]
 by_cases e:c=a
 ·rw[if_pos e,if_pos e]
 ·rw[if_neg e,if_neg e,a3o fun i hi=>?_]
  rw[if_neg (fun z=>hp (by rw[← z];exact getD_in hi))]
theorem a5p:∀{xs ys:List Rat},xs.length=ys.length->b4j xs ys=a3n xs.length fun c=>xs.getD c 0*ys.getD c 0:=by
 intro xs ys h
 have key:∀k,k<=xs.length->b4j (xs.take k) (ys.take k)=a3n k fun c=>xs.getD c 0*ys.getD c 0:=by
  intro k
  induction k with
  | zero=>intro _;rfl
  | succ k ih =>
   intro hk
   rw[d7k (by omega) (by omega),ih (by omega)]
   rfl
 have:=key xs.length (a0h _)
 rwa [a0r (a0h _),a0r (by omega)] at this
theorem f9b (RR:a2u rows n R ps) (ha:a < n) (hp:a∉ps) {i:Nat} {row:List Rat} (hr:rows[i]?=some row) (hw:row.length=n):b4j row (nuQ R ps n a)=0:=by
 obtain ⟨_,_,rr⟩:=RR
 have hi:=(a0s.mp hr).1
 have ef:∀c,fnQ rows i c=row.getD c 0:=fun c=>by unfold fnQ;rw[a0a (l:=rows),hr];rfl
 have co:=rr.coef (rr.span i hi) a
 rw[ef] at co
 rw[a5p (by unfold nuQ;rw[c7m,hw]),hw]
 have e1:a3n n (fun c=>row.getD c 0*(nuQ R ps n a).getD c 0)=a3n n (fun c=>(if c=a then row.getD a 0 else 0)+a3n ps.length fun j=>if ps.getD j 0=c then row.getD (ps.getD j 0) 0*-(fnQ R j a) else 0):=by
  refine a1c fun c hc=>?_
  unfold nuQ
  rw[f9c hc]
  by_cases e:c=a
  ·rw[if_pos e,if_pos e,e,a3o fun j hj=>?_]
   ·grind
   ·rw[if_neg (fun z=>hp (by rw[← z];exact getD_in hj))]
  ·rw[if_neg e,if_neg e,← a3w,f1x]
   refine a1c fun j _=>?_
   split
   ·rename_i q;rw[q]
   ·grind
 rw[e1,c0t,a7l (i:=a) ha (fun j _ ne=>if_neg ne),if_pos rfl,← a8j]
 have e2:a3n ps.length (fun j=>a3n n fun c=>if ps.getD j 0=c then row.getD (ps.getD j 0) 0*-(fnQ R j a) else 0)=a3n ps.length fun j=>-1*(fnQ rows i (ps.getD j 0)*fnQ R j a):=by
  refine a1c fun j hj=>?_
  rw[a7l (i:=ps.getD j 0) (rr.low j hj) fun c _ ne=>if_neg fun z=>ne z.symm,if_pos rfl,ef]
  grind
 rw[e2,a3w,co]
 grind
theorem f9a {M W:Nat} (h0:0 < M) (hW:M<=W) (tp:∀xs∈R,∀x∈xs,Tp M W x) (RR:a2u rows n R ps):∀x∈nuQ R ps n a,Tp M W x:=fun x hx=>by
 obtain ⟨_,_,rr⟩:=RR
 obtain ⟨c,hc,rfl⟩:=a0t.mp hx
 split
 ·exact ⟨M,by rw[Rat.one_mul,a0v],by simpa using hW⟩
 ·by_cases hp:∃j,j < ps.length∧ps.getD j 0=c
  ·obtain ⟨j,hj,e⟩:=hp
   rw[a7l hj fun i hi ne=>if_neg fun z=>?_,if_pos e]
   ·obtain ⟨z,ez,b⟩:=f6w tp j a
    exact ⟨-z,by rw[a3q,← ez];grind,by rw[b4d];exact b⟩
   ·rcases a8h i j with q | q | q
    ·have:=rr.inc i j q hj;omega
    ·exact ne q
    ·have:=rr.inc j i q hi;omega
  ·rw[a3o fun j hj=>if_neg fun z=>hp ⟨j,hj,z⟩]
   exact Tp.zero
theorem d9r {c:Nat}:c∈frN ps n↔c < n∧c∉ps:=by
 unfold frN
 rw[c3v,b9i,decide_eq_true_iff]
end
def e5f (K:PySem.W.Frag):Sp:=fun vs H Q _=>∃(p:Addr) (n a:Nat) (H0:Hp) (R:List (List Rat)) (ps:List Nat),vs=[.ref p,.int n,.int a]∧a3e K H0 H p R∧R.length<=100∧n<=100∧(∃rows,a2u rows n R ps)∧a < n∧a∉ps∧(∀xs∈R,∀x∈xs,SzN x) ∧
 ∀r H',H r=none->a1w H H'->a6v K H' r (nuQ R ps n a)->Q (.ref r) H'
def e5e (K:PySem.W.Frag):Sp:=fun vs H Q _=>∃(p:Addr) (n w:Nat) (H0:Hp) (rows:List (List Rat)),vs=[.ref p,.int n]∧a3e K H0 H p rows∧rows.length<=100∧n<=100∧(∀xs∈rows,xs.length=n)∧SwF rows n w∧min rows.length n*(w+4)<=3990 ∧
 ∀r R ps M H',H r=none->a1w H H'->a3e K H H' r (a4y R ps n)->a2u rows n R ps->ps.length<=rows.length->0 < M->M<=2^(min rows.length n*(w+4))->(∀xs∈a4y R ps n,∀x∈xs,Tp M (2^(min rows.length n*(w+4))) x)->Q (.ref r) H'
theorem e9f:SzN 0:=c2a (M:=1) (W:=1) Tp.zero (by decide) a2r a2r
theorem c4o {R:List (List Rat)} {ps:List Nat} {n:Nat} {xs:List Rat} (h:xs∈a4y R ps n):∃a,a < n∧a∉ps∧xs=nuQ R ps n a:=by
 obtain ⟨a,ha,rfl⟩:=a0t.mp h
 obtain ⟨h1,h2⟩:=d9r.mp ha
 exact ⟨a,h1,h2,rfl⟩
end L2
namespace L2
open PySem PySem.Spec PyProof.Rows Nm
def g0t:Kind Str where
 R:=fun _ _ x i=>x=.str i
 d:=0
 inj:=fun _ h1 h2=>by rw[h1] at h2;cases h2;rfl
 rc:=fun {X pins σ H s x y v u a b A} I rx ry h1 h2 _=>by
  subst h1 h2
  obtain ⟨t,rfl⟩:=rx
  obtain ⟨t',rfl⟩:=ry
  have q:=SeqAt.RcAt.str_str (A:=A) (s:=s) a t b t'
  rwa [a7b] at q
 ne:=fun {X pins σ H s x y v u a b A} I rx ry h1 h2 _=>by
  subst h1 h2
  obtain ⟨t,rfl⟩:=rx
  obtain ⟨t',rfl⟩:=ry
  have q:=SeqAt.RcNeAt.str_str (A:=A) (s:=s) a t b t'
  rwa [a7b] at q
 eq:=fun {X pins σ H s x y v u a b A} I rx ry h1 h2 _=>by
  subst h1 h2
  obtain ⟨t,rfl⟩:=rx
  obtain ⟨t',rfl⟩:=ry
  have q:=SeqAt.EqAt.str_str (A:=A) (s:=s) a t b t'
  rwa [a7b] at q
theorem f5u {q:Rat} (h:q.den<=9):q.den∣2520:=by
 have:=q.den_pos
 generalize q.den=d at h this
 have:d=1∨d=2∨d=3∨d=4∨d=5∨d=6∨d=7∨d=8∨d=9:=by omega
 rcases this with rfl | rfl | rfl | rfl | rfl | rfl | rfl | rfl | rfl <;> decide
theorem d7j {q:Rat} {M:Nat} (h:Dr 9 q) (hM:2520∣M):Fr M 9 q:=(Fr.own q h.1).dvd (Nat.dvd_trans (f5u h.2) hM)
end L2
namespace L2
open PySem PySem.Spec PyProof.Rows Nm
def a5d (rows:List (List Rat)) (due:List Rat):List (List Rat):=List.zipWith (fun row d=>row++[d]) rows due
def e0q (R:List (List Rat)) (ps:List Nat) (n j:Nat):List Rat:=(List.range n).map fun c=>a3n j fun i=>if ps.getD i 0=c then fnQ R i n else 0
def b9j (R:List (List Rat)) (ps:List Nat) (n:Nat):List Rat:=e0q R ps n ps.length
section
variable {rows R:List (List Rat)} {due xs:List Rat} {ps:List Nat} {n j:Nat}
theorem c2o (h:due.length=rows.length):(a5d rows due).length=rows.length:=by unfold a5d;rw[a2i];omega
theorem c9v (h:∀xs∈rows,xs.length=n):∀xs∈a5d rows due,xs.length=n+1:=fun xs hx=>by
 unfold a5d at hx
 obtain ⟨i,hi,rfl⟩:=a2c hx
 rw[b2f,a0i,h _ (a0z _)]
 rfl
theorem f9q {i:Nat} {row:List Rat} {d:Rat} (h1:rows[i]?=some row) (h2:due[i]?=some d):(a5d rows due)[i]?=some (row++[d]):=by
 unfold a5d
 rw[a3z,h1,h2]
theorem d7e (hd:due.length=rows.length) (hw:∀xs∈rows,xs.length=n) {i:Nat} (hi:i < rows.length):(∀c,c < n->fnQ (a5d rows due) i c=fnQ rows i c)∧fnQ (a5d rows due) i n=due.getD i 0:=by
 have e1:=a0c hi
 have e2:=a0c (show i < due.length by omega)
 have ej:=f9q e1 e2
 have wi:=hw _ (a0z hi)
 refine ⟨fun c hc=>?_,?_⟩
 ·unfold fnQ
  rw[a0a (l:=a5d rows due),ej,a0a (l:=rows),e1]
  show (rows[i]++[due[i]]).getD c 0=(rows[i]).getD c 0
  rw[a0a,a0a,a1p (by omega)]
 ·unfold fnQ
  rw[a0a (l:=a5d rows due),ej,a0a (l:=due),e2]
  show (rows[i]++[due[i]]).getD n 0=due[i]
  rw[a0a,a1e (by omega),wi,a6w]
  rfl
theorem b6o:(e0q R ps n j).length=n:=by unfold e0q;rw[a0e,a3s]
theorem f3r {c:Nat} (h:c < n):(e0q R ps n j).getD c 0=a3n j fun i=>if ps.getD i 0=c then fnQ R i n else 0:=by
 unfold e0q
 rw[a0a,a0x,a6i h]
 rfl
theorem f3o:e0q R ps n 0=List.replicate n 0:=by
 unfold e0q
 show (List.range n).map (fun _=>(0:Rat))=_
 rw[List.map_const',a3s]
theorem f3p {J:List (List Rat)} (RR:a2u J (n+1) R ps) (hj:j < ps.length):(e0q R ps n j).set (ps.getD j 0) (fnQ R j n)=e0q R ps n (j+1):=by
 obtain ⟨_,_,rr⟩:=RR
 apply a4i (by rw[a4q,b6o,b6o])
 intro c h1 h2
 rw[b6o] at h2
 have e1:(e0q R ps n j)[c]'(by rw[b6o];exact h2)=a3n j fun i=>if ps.getD i 0=c then fnQ R i n else 0:=by simp only[e0q,a5r,b6k]
 have e2:(e0q R ps n (j+1))[c]'(by rw[b6o];exact h2)=a3n j (fun i=>if ps.getD i 0=c then fnQ R i n else 0)+if ps.getD j 0=c then fnQ R j n else 0:=by simp only[e0q,a5r,b6k];rfl
 rw[List.getElem_set,e2]
 by_cases q:ps.getD j 0=c
 ·rw[if_pos q,if_pos q,a3o fun i hi=>?_,f1x]
  rw[if_neg]
  intro z
  have:=rr.inc i j hi hj
  omega
 ·rw[if_neg q,if_neg q,e1,b9k]
theorem f3q {c:Nat} (hp:c∉ps):(b9j R ps n).getD c 0=0:=by
 by_cases hc:c < n
 ·unfold b9j
  rw[f3r hc,a3o fun i hi=>?_]
  rw[if_neg (fun z=>hp (by rw[← z];exact getD_in hi))]
 ·rw[a0a,a1d (by unfold b9j;rw[b6o];omega)]
  rfl
theorem e5t (hd:due.length=rows.length) (hw:∀xs∈rows,xs.length=n) (RR:a2u (a5d rows due) (n+1) R ps) (hn:n∉ps) {i:Nat} {row:List Rat} (hr:rows[i]?=some row):b4j row (b9j R ps n)=due.getD i 0:=by
 obtain ⟨_,_,rr⟩:=RR
 have hi:=(a0s.mp hr).1
 have wr:=hw row (a0j hr)
 have ef:∀c,fnQ rows i c=row.getD c 0:=fun c=>by unfold fnQ;rw[a0a (l:=rows),hr];rfl
 obtain ⟨f1,f2⟩:=d7e hd hw hi
 have low:∀j,j < ps.length->ps.getD j 0 < n:=fun j hj=>by
  have:=rr.low j hj
  have:ps.getD j 0≠n:=fun z=>hn (by rw[← z];exact getD_in hj)
  omega
 have co:=rr.coef (rr.span i (by rw[c2o hd];exact hi)) n
 rw[f2] at co
 rw[co,a5p (by unfold b9j;rw[b6o,wr]),wr]
 have e1:a3n n (fun c=>row.getD c 0*(b9j R ps n).getD c 0)=a3n n (fun c=>a3n ps.length fun j=>if ps.getD j 0=c then row.getD (ps.getD j 0) 0*fnQ R j n else 0):=by
  refine a1c fun c hc=>?_
  unfold b9j
  rw[f3r hc,← a3w]
  refine a1c fun j _=>?_
  split
  ·rename_i q;rw[q]
  ·grind
 rw[e1,← a8j]
 refine a1c fun j hj=>?_
 rw[a7l (i:=ps.getD j 0) (low j hj) fun c _ ne=>if_neg fun z=>ne z.symm,if_pos rfl,f1 _ (low j hj),ef]
theorem e0r (hd:due.length=rows.length) (hw:∀xs∈rows,xs.length=n) (RR:a2u (a5d rows due) (n+1) R ps) (hn:n∈ps):∃w:Nat->Rat,(∀c,c < n->a3n rows.length (fun i=>w i*fnQ rows i c)=0)∧a3n rows.length (fun i=>w i*due.getD i 0)=1:=by
 obtain ⟨_,_,rr⟩:=RR
 obtain ⟨j,hj,ej⟩:=a2c hn
 have ejD:ps.getD j 0=n:=by rw[a0a,a0c hj];exact ej
 obtain ⟨w,hw'⟩:=rr.back j hj
 rw[c2o hd] at hw'
 refine ⟨w,fun c hc=>?_,?_⟩
 ·have z:=rr.lead j hj c (by rw[ejD];exact hc)
  rw[hw' c] at z
  rw[← z]
  exact a1c fun i hi=>by rw[(d7e hd hw hi).1 c hc]
 ·have u:=rr.unit j hj j hj
  rw[if_pos rfl,ejD,hw' n] at u
  rw[← u]
  exact a1c fun i hi=>by rw[(d7e hd hw hi).2]
theorem f7q (hd:due.length=rows.length) (hw:∀xs∈rows,xs.length=n) (RR:a2u (a5d rows due) (n+1) R ps) {x:Nat->Rat} (hx:∀i,i < rows.length->a3n n (fun c=>fnQ rows i c*x c)=due.getD i 0):n∉ps:=fun hn=>by
 obtain ⟨w,h1,h2⟩:=e0r hd hw RR hn
 have e1:a3n rows.length (fun i=>w i*due.getD i 0)=a3n rows.length (fun i=>a3n n fun c=>x c*(w i*fnQ rows i c)):=a1c fun i hi=>by
  rw[← hx i hi,← a3w]
  exact a1c fun c _=>by grind
 have e2:a3n n (fun c=>a3n rows.length fun i=>x c*(w i*fnQ rows i c))=0:=a3o fun c hc=>by
  rw[a3w,h1 c hc]
  grind
 rw[e1,a8j,e2] at h2
 exact absurd h2 (by decide)
theorem g1d {M W:Nat} (h0:0 < M) (tp:∀xs∈R,∀x∈xs,Tp M W x) {J:List (List Rat)} (RR:a2u J (n+1) R ps):∀x∈b9j R ps n,Tp M W x:=fun x hx=>by
 obtain ⟨_,_,rr⟩:=RR
 obtain ⟨c,hc,rfl⟩:=a0t.mp hx
 by_cases hp:∃j,j < ps.length∧ps.getD j 0=c
 ·obtain ⟨j,hj,e⟩:=hp
  rw[a7l hj fun i hi ne=>if_neg fun z=>?_,if_pos e]
  ·exact f6w tp j n
  ·rcases a8h i j with q | q | q
   ·have:=rr.inc i j q hj;omega
   ·exact ne q
   ·have:=rr.inc j i q hi;omega
 ·rw[a3o fun j hj=>if_neg fun z=>hp ⟨j,hj,z⟩]
  exact Tp.zero
end
def e2w (K:PySem.W.Frag):Sp:=fun vs H Q _=>∃(p q:Addr) (n w:Nat) (H0:Hp) (rows:List (List Rat)) (due:List Rat),vs=[.ref p,.int n,.ref q]∧a3e K H0 H p rows∧a6v K H q due∧due.length=rows.length∧rows.length<=99∧n<=99∧(∀xs∈rows,xs.length=n)∧SwF (a5d rows due) (n+1) w ∧
 (∀x R ps M H',a2u (a5d rows due) (n+1) R ps->n∉ps->H x=none->a1w H H'->a6v K H' x (b9j R ps n)->0 < M->M<=2^(min rows.length (n+1)*(w+4))->(∀y∈b9j R ps n,Tp M (2^(min rows.length (n+1)*(w+4))) y)->Q (.ref x) H') ∧
 (∀R ps H',a2u (a5d rows due) (n+1) R ps->n∈ps->a1w H H'->Q .non H')
def f7g (rows:List (List Rat)) (n:Nat) (due:List Rat):List (List Rat):=a5d (a2s rows n++[due]) (List.replicate n 0++[1])
def e5a (K:PySem.W.Frag):Sp:=fun vs H Q _=>∃(p q:Addr) (n w w':Nat) (H0:Hp) (rows:List (List Rat)) (due:List Rat),vs=[.ref p,.int n,.ref q]∧a3e K H0 H p rows∧a6v K H q due∧due.length=rows.length∧rows.length<=90∧n<=90∧(∀xs∈rows,xs.length=n)∧SwF (a5d rows due) (n+1) w∧SwF (f7g rows n due) (rows.length+1) w' ∧
 (∀t x R ps M H',a2u (a5d rows due) (n+1) R ps->n∉ps->H' t=some (.tup [.str (Str.ofString "yes"),.ref x])->H x=none->a1w H H'->a6v K H' x (b9j R ps n)->0 < M->M<=2^(min rows.length (n+1)*(w+4))->(∀y∈b9j R ps n,Tp M (2^(min rows.length (n+1)*(w+4))) y)->Q (.ref t) H') ∧
 (∀t x R ps R' ps' M H',a2u (a5d rows due) (n+1) R ps->n∈ps->a2u (f7g rows n due) (rows.length+1) R' ps'->rows.length∉ps'->H' t=some (.tup [.str (Str.ofString "no"),.ref x])->H x=none->a1w H H'->a6v K H' x (b9j R' ps' rows.length)->0 < M->M<=2^(min (n+1) (rows.length+1)*(w'+4))->(∀y∈b9j R' ps' rows.length,Tp M (2^(min (n+1) (rows.length+1)*(w'+4))) y)->Q (.ref t) H')
theorem e6g {rows R R':List (List Rat)} {due:List Rat} {ps ps':List Nat} {n:Nat} (hd:due.length=rows.length) (hw:∀xs∈rows,xs.length=n) (RR:a2u (a5d rows due) (n+1) R ps) (hn:n∈ps) (RR':a2u (f7g rows n due) (rows.length+1) R' ps'):rows.length∉ps':=by
 obtain ⟨w,h1,h2⟩:=e0r hd hw RR hn
 have l1:(a2s rows n++[due]).length=n+1:=by rw[a0i,a3b];rfl
 have w1:∀xs∈a2s rows n++[due],xs.length=rows.length:=fun xs hx=>by
  rcases a0w.mp hx with hx | hx
  ·exact b4e xs hx
  ·rw[a4p.mp hx];exact hd
 refine f7q (x:=w) (by rw[l1,a0i,a0o];rfl) w1 RR' fun i hi=>?_
 rw[l1] at hi
 by_cases e:i < n
 ·have e1:∀c,fnQ (a2s rows n++[due]) i c=fnQ rows c i:=fun c=>by
   unfold fnQ
   rw[a0a (l:=a2s rows n++[due]),a1p (by rw[a3b];exact e)]
   unfold a2s
   rw[a0x,a6i e]
   show (rows.map fun xs=>xs.getD i 0).getD c 0=_
   rw[a0a,a0x,a0a (l:=rows)]
   cases rows[c]? with
   | none=>rfl
   | some y=>rfl
  have e2:(List.replicate n (0:Rat)++[1]).getD i 0=0:=by
   rw[a0a,a1p (by rw[a0o];exact e),a3h,if_pos e]
   rfl
  rw[e2,← h1 i e]
  exact a1c fun c _=>by rw[e1];grind
 ·have ei:i=n:=by omega
  subst ei
  have e1:∀c,fnQ (a2s rows i++[due]) i c=due.getD c 0:=fun c=>by
   unfold fnQ
   rw[a0a (l:=a2s rows i++[due]),a1e (by rw[a3b];exact a0h _),a3b,a6w]
   rfl
  have e2:(List.replicate i (0:Rat)++[1]).getD i 0=1:=by
   rw[a0a,a1e (by rw[a0o];exact a0h _),a0o,a6w]
   rfl
  rw[e2,← h2]
  exact a1c fun c _=>by rw[e1];grind
theorem f0t {n:Nat}:((List.range n).map fun _=>(0:Rat))=List.replicate n 0:=by rw[List.map_const',a3s]
def f7i (K:PySem.W.Frag):Sp:=fun vs H Q _=>∃m:Nat,vs=[.int m]∧m<=100∧∀r H',H r=none->a1w H H'->a6v K H' r (List.replicate m 0)->Q (.ref r) H'
def d8q (K:PySem.W.Frag):Sp:=fun vs H Q _=>∃(p q:Addr) (n w w':Nat) (H0:Hp) (rows:List (List Rat)) (row:List Rat),vs=[.ref p,.int n,.ref q]∧a3e K H0 H p rows∧a6v K H q row∧row.length=n∧rows.length<=90∧n<=90∧(∀xs∈rows,xs.length=n)∧SwF (a5d (a2s rows n) row) (rows.length+1) w∧SwF (a5d (rows++[row]) (List.replicate rows.length 0++[1])) (n+1) w' ∧
 (∀t x R ps M H',a2u (a5d (a2s rows n) row) (rows.length+1) R ps->rows.length∉ps->H' t=some (.tup [.str (Str.ofString "in"),.ref x])->H x=none->a1w H H'->a6v K H' x (b9j R ps rows.length)->0 < M->M<=2^(min n (rows.length+1)*(w+4))->(∀y∈b9j R ps rows.length,Tp M (2^(min n (rows.length+1)*(w+4))) y)->Q (.ref t) H') ∧
 (∀t x R ps R' ps' M H',a2u (a5d (a2s rows n) row) (rows.length+1) R ps->rows.length∈ps->a2u (a5d (rows++[row]) (List.replicate rows.length 0++[1])) (n+1) R' ps'->n∉ps'->H' t=some (.tup [.str (Str.ofString "out"),.ref x])->H x=none->a1w H H'->a6v K H' x (b9j R' ps' n)->0 < M->M<=2^(min (rows.length+1) (n+1)*(w'+4))->(∀y∈b9j R' ps' n,Tp M (2^(min (rows.length+1) (n+1)*(w'+4))) y)->Q (.ref t) H')
end L2
namespace L2
open PySem PySem.Spec PyProof.Rows Nm
def wtJ (rows:List (List Rat)) (ws:List Rat) (n j:Nat):List Rat:=(List.range n).map fun c=>a3n j fun i=>ws.getD i 0*fnQ rows i c
def wtQ (rows:List (List Rat)) (ws:List Rat) (n:Nat):List Rat:=wtJ rows ws n ws.length
section
variable {rows:List (List Rat)} {ws xs row:List Rat} {n j:Nat}
theorem f6u:(wtJ rows ws n j).length=n:=by unfold wtJ;rw[a0e,a3s]
theorem e4m {c:Nat} (hc:c < n):(wtQ rows ws n).getD c 0=a3n ws.length fun i=>ws.getD i 0*fnQ rows i c:=by
 unfold wtQ wtJ
 rw[a0a,a0x,a6i hc]
 rfl
theorem e1y (h:xs.length=ws.length):b4j xs ws=b4j ws xs:=by
 rw[a5p h,a5p h.symm,h]
 exact a1c fun c _=>a4l ..
theorem d3f {c:Nat} (hc:c < n):(a2s rows n)[c]?=some (rows.map fun xs=>xs.getD c 0):=by
 unfold a2s
 rw[a0x,a6i hc]
 rfl
theorem f9e {c i:Nat}:(rows.map fun xs=>xs.getD c 0).getD i 0=fnQ rows i c:=by
 unfold fnQ
 rw[a0a,a0x,a0a (l:=rows)]
 cases rows[i]? with
 | none=>rfl
 | some y=>rfl
theorem e4l {R:List (List Rat)} {ps:List Nat} (hl:row.length=n) (RR:a2u (a5d (a2s rows n) row) (rows.length+1) R ps) (hn:rows.length∉ps):wtQ rows (b9j R ps rows.length) n=row:=by
 have ls:(b9j R ps rows.length).length=rows.length:=b6o
 apply a4i (by unfold wtQ;rw[f6u,hl])
 intro c h1 h2
 have hc:c < n:=by omega
 have d:=e5t (rows:=a2s rows n) (by rw[a3b,hl]) (fun xs hx=>b4e xs hx) RR hn (d3f hc)
 have e:=e4m (rows:=rows) (ws:=b9j R ps rows.length) hc
 have e1:(wtQ rows (b9j R ps rows.length) n).getD c 0=(wtQ rows (b9j R ps rows.length) n)[c]:=by rw[a0a,a0c h1];rfl
 have e2:row.getD c 0=row[c]:=by rw[a0a,a0c h2];rfl
 rw[← e1,← e2,e,← d,a5p (by rw[a0e,ls]),a0e,ls]
 exact a1c fun i _=>by rw[f9e];grind
theorem e6f {R:List (List Rat)} {ps:List Nat} (hw:∀xs∈rows,xs.length=n) (hl:row.length=n) (RR:a2u (a5d (rows++[row]) (List.replicate rows.length 0++[1])) (n+1) R ps) (hn:n∉ps):b4j (b9j R ps n) row=1∧∀xs∈rows,b4j xs (b9j R ps n)=0:=by
 have l1:(List.replicate rows.length (0:Rat)++[1]).length=(rows++[row]).length:=by rw[a0i,a0i,a0o];rfl
 have w1:∀xs∈rows++[row],xs.length=n:=fun xs hx=>by
  rcases a0w.mp hx with hx | hx
  ·exact hw xs hx
  ·rw[a4p.mp hx];exact hl
 have ls:(b9j R ps n).length=n:=b6o
 refine ⟨?_,fun xs hx=>?_⟩
 ·have:=e5t l1 w1 RR hn (i:=rows.length) (row:=row) (by rw[a1e (a0h _),a6w];rfl)
  rw[e1y (by rw[ls,hl]),this,a0a,a1e (by rw[a0o];exact a0h _),a0o,a6w]
  rfl
 ·obtain ⟨i,hi,rfl⟩:=a2c hx
  have:=e5t l1 w1 RR hn (i:=i) (row:=rows[i]) (by rw[a1p hi,a0c hi])
  rw[this,a0a,a1p (by rw[a0o];exact hi),a3h,if_pos hi]
  rfl
end
theorem Fr.up {M V M' V':Nat} {x:Rat} (h:Fr M V x) (hd:M∣M') (hv:V<=V'):Fr M' V' x:=(h.dvd hd).mono hv
end L2
namespace L2
open PySem PySem.Spec PyProof.Rows Nm
section
variable {rows R:List (List Rat)} {due:List Rat} {ps:List Nat} {n:Nat}
theorem f5s {xs ys:List Rat} {M V D B:Nat} (h:ys.length=xs.length) (hx:∀x∈xs,Fr M V x) (hy:∀y∈ys,Fr D B y):Fr (M*D) (xs.length*(V*B)) (b4j xs ys):=by
 rw[a5p h.symm]
 have key:∀j,j<=xs.length->Fr (M*D) (j*(V*B)) (a3n j fun c=>xs.getD c 0*ys.getD c 0):=by
  intro j
  induction j with
  | zero=>intro _;exact Fr.zero
  | succ j ih =>
   intro hj
   exact ((ih (by omega)).add ((hx _ (getD_in (by omega))).mul (hy _ (getD_in (by omega))))).mono (Nat.le_of_eq (a4d j (V*B)).symm)
 exact key _ (a0h _)
end
end L2
namespace L2
open PySem PySem.Spec PyProof.Rows Nm
end L2
namespace L2
open PySem PySem.Spec PyProof.Rows Nm
end L2
namespace L2
open PySem PySem.Spec PyProof.Rows Nm
end L2
namespace L2
open PySem PySem.Spec PyProof.Rows Nm
end L2
namespace L2
open PySem PySem.Spec PyProof.Rows Nm
end L2
namespace L2
open PySem PySem.Spec PyProof.Rows Nm
section
variable {rows rows' R R':List (List Rat)} {n w W:Nat} {ps ps':List Nat}
theorem c4b (hw:∀xs∈rows,xs.length=n) (hW:1<=W) (ent:∀i,i < (rows.map c2w).length->∀c,Fr 1 W (fnZ (rows.map c2w) i c)):∀P,P<=n->∃ls ps d,SwI (rows.map c2w) n P ls ps d:=by
 intro P
 induction P with
 | zero=>intro _;exact ⟨_,_,_,SwI.start fun zs hz=>by obtain ⟨x,hx,rfl⟩:=a0t.mp hz;rw[c0s];exact hw x hx⟩
 | succ P ih =>
  intro hP
  obtain ⟨ls,ps,d,I⟩:=ih (by omega)
  by_cases e:∃t,ps.length<=t∧t < ls.length∧fnZ ls t P≠0
  ·obtain ⟨t,h1,h2,h3⟩:=e
   exact ⟨_,_,_,I.step hW ent h1 h2 h3⟩
  ·exact ⟨_,_,_,I.skip fun i h1 h2=>by
    by_cases z:fnZ ls i P=0
    ·exact z
    ·exact absurd ⟨i,h1,h2,z⟩ e⟩
theorem d6j (hw:∀xs∈rows,xs.length=n) (F:SwF rows n w):∃R ps d ls,SwR rows n w R ps d ls:=by
 obtain ⟨W,hW,W2,ent⟩:=F.ent
 obtain ⟨ls,ps,d,I⟩:=c4b hw hW ent n (a0h _)
 obtain ⟨R,S⟩:=I.done hw F
 exact ⟨R,ps,d,_,S⟩
theorem g1e (hw:∀xs∈rows,xs.length=n) (F:SwF rows n w) (RR:a2u rows n R ps):ps.length<=rows.length∧∃M,0 < M∧M<=2^(min rows.length n*(w+4))∧∀xs∈R,∀x∈xs,Tp M (2^(min rows.length n*(w+4))) x:=by
 obtain ⟨R2,ps2,d,ls,S⟩:=d6j hw F
 obtain ⟨rfl,rfl⟩:=S.rr.same RR
 exact ⟨S.km,d.natAbs,Int.natAbs_pos.mpr S.d0,S.dsz,S.tp⟩
theorem e7s {k:Nat} {p q:Nat->Nat} (hp:∀i j,i < j->j < k->p i < p j) (hq:∀i j,i < j->j < k->q i < q j) (hs:∀i,i < k->∃j,j < k∧q j=p i):∀i,i < k->p i=q i:=by
 have hqm:∀i j,i<=j->j < k->q i<=q j:=fun i j h hj=>by
  rcases a2x i j with z | z
  ·exact a1j (hq i j z hj)
  ·have:i=j:=by omega
   rw[this];exact a0h _
 have hqi:∀i j,i < k->j < k->q i < q j->i < j:=fun i j hi hj h=>by
  rcases a2x i j with z | z
  ·exact z
  ·have:=hqm j i z hi
   omega
 have key:∀i,i < k->∀j,j < k->q j=p i->i<=j:=by
  intro i
  induction i with
  | zero=>intro _ j _ _;exact a1f _
  | succ i ih =>
   intro hi j hj e
   obtain ⟨j',hj',e'⟩:=hs i (by omega)
   have h1:=ih (by omega) j' hj' e'
   have h2:=hp i (i+1) (by omega) hi
   have:=hqi j' j hj' hj (by omega)
   omega
 have key2:∀t i,i+t+1=k->∀j,j < k->q j=p i->j<=i:=by
  intro t
  induction t with
  | zero=>intro i e j hj _;omega
  | succ t ih =>
   intro i e j hj ej
   obtain ⟨j',hj',e'⟩:=hs (i+1) (by omega)
   have h1:=ih (i+1) (by omega) j' hj' e'
   have h2:=hp i (i+1) (by omega) (by omega)
   have:=hqi j j' hj hj' (by omega)
   omega
 intro i hi
 obtain ⟨j,hj,e⟩:=hs i hi
 have h1:=key i hi j hj e
 have h2:=key2 (k - 1 - i) i (by omega) j hj e
 have:j=i:=by omega
 rw[← e,this]
theorem e5y (h:a2u rows n R ps) (h':a2u rows' n R' ps') (hl:ps.length=ps'.length) (hs:∀i,i < ps.length->Spn ps'.length (fnQ R') (fnQ R i)):R=R'∧ps=ps':=by
 obtain ⟨l1,w1,r1⟩:=h
 obtain ⟨l2,w2,r2⟩:=h'
 have ep:∀i,i < ps.length->ps.getD i 0=ps'.getD i 0:=e7s r1.inc (by rw[hl];exact r2.inc) fun i hi=>by
  have u:=r1.unit i hi i hi
  rw[if_pos rfl] at u
  obtain ⟨j,hj,e⟩:=r2.lead_in (hs i hi) (c:=ps.getD i 0) (by rw[u];decide) (fun c hc=>r1.lead i hi c hc)
  exact ⟨j,by omega,e⟩
 have eps:ps=ps':=by
  apply a4i hl
  intro i a b
  have:=ep i a
  rw[a0a,a0a,a0c a,a0c b] at this
  exact this
 refine ⟨f2o (n:=n) (by omega) w1 w2 fun i hi c=>?_,eps⟩
 rw[l1] at hi
 rw[r2.coef (hs i hi) c,← hl,a7l hi fun j hj hj'=>?_]
 ·rw[← ep i hi]
  have u:=r1.unit i hi i hi
  rw[if_pos rfl] at u
  rw[u];grind
 ·rw[← ep j hj]
  have u:=r1.unit i hi j hj
  rw[if_neg (Ne.symm hj')] at u
  rw[u];grind
end
end L2
namespace L2
open PySem PySem.Spec PyProof.Rows Nm
def onQ (mv:List (List Rat)) (x:List Rat):List Rat:=mv.map fun xs=>b4j xs x
def kry (mv pt:List (List Rat)):Nat->List (List Rat)
 | 0=>[]
 | t+1=>pt++(kry mv pt t).map (onQ mv)
section
variable {mv pt R R' S X Y:List (List Rat)} {n t m i c:Nat} {ps ps':List Nat} {a:Nat->Nat->Rat}
theorem c9k {x:List Rat}:(onQ mv x).length=mv.length:=a0e ..
theorem f5d (lm:mv.length=n) (wm:∀xs∈mv,xs.length=n) (wR:∀xs∈R,xs.length=n) (hi:i < R.length) (c:Nat):fnQ (R.map (onQ mv)) i c=a3n n fun j=>fnQ mv c j*fnQ R i j:=by
 have wi:=wR _ (a0z hi)
 have e1:(R.map (onQ mv)).getD i []=onQ mv R[i]:=by rw[a0a,a0x,a0c hi];rfl
 have e2:R.getD i []=R[i]:=by rw[a0a,a0c hi];rfl
 by_cases hc:c < n
 ·have wc:=wm _ (a0z (show c < mv.length by omega))
  have e3:mv.getD c []=mv[c]'(by omega):=by rw[a0a,a0c (by omega)];rfl
  have e4:(onQ mv R[i]).getD c 0=b4j (mv[c]'(by omega)) R[i]:=by
   unfold onQ
   rw[a0a,a0x,a0c (by omega)];rfl
  unfold fnQ
  rw[e1,e2,e3,e4,a5p (by omega),wc]
 ·have e3:mv.getD c []=[]:=by rw[a0a,a1d (by omega)];rfl
  unfold fnQ
  rw[e1,e3,a0a,a1d (by rw[c9k];omega),a3o fun j _=>by
   show ([]:List Rat).getD j 0*_=0
   rw[a0a]
   show (0:Rat)*_=0
   grind]
  rfl
theorem d6a (lm:mv.length=n) (wm:∀xs∈mv,xs.length=n) (wR:∀xs∈R,xs.length=n) (wS:∀xs∈S,xs.length=n) (hi:i < R.length) (h:Spn S.length (fnQ S) (fnQ R i)):Spn (S.map (onQ mv)).length (fnQ (S.map (onQ mv))) (fnQ (R.map (onQ mv)) i):=by
 obtain ⟨w,hw⟩:=h
 refine ⟨w,fun c=>?_⟩
 rw[f5d lm wm wR hi,a0e]
 have e1:a3n n (fun j=>fnQ mv c j*fnQ R i j)=a3n n (fun j=>a3n S.length fun s=>w s*(fnQ mv c j*fnQ S s j)):=a1c fun j _=>by
  rw[hw j,← a3w]
  exact a1c fun s _=>by grind
 rw[e1,a8j]
 exact a1c fun s hs=>by rw[a3w,f5d lm wm wS hs]
theorem g0m (h:i < X.length):fnQ (X++Y) i=fnQ X i:=by
 funext c
 unfold fnQ
 rw[a0a (l:=X++Y),a1p h,← a0a]
theorem g0v:fnQ (X++Y) (X.length+i)=fnQ Y i:=by
 funext c
 unfold fnQ
 rw[a0a (l:=X++Y),a1e (by omega),show X.length+i - X.length=i by omega,← a0a]
theorem c9d (h1:∀i,i < X.length->Spn m a (fnQ X i)) (h2:∀i,i < Y.length->Spn m a (fnQ Y i)):∀i,i < (X++Y).length->Spn m a (fnQ (X++Y) i):=fun i hi=>by
 rw[a0i] at hi
 by_cases h:i < X.length
 ·rw[g0m h];exact h1 i h
 ·obtain ⟨j,rfl⟩:∃j,i=X.length+j:=⟨i - X.length,by omega⟩
  rw[g0v];exact h2 j (by omega)
theorem c4c (h:i < X.length):Spn (X++Y).length (fnQ (X++Y)) (fnQ X i):=by
 have:=Spn.row (a:=fnQ (X++Y)) (m:=(X++Y).length) (i:=i) (by rw[a0i];omega)
 rwa [g0m h] at this
theorem b9o {x:Nat->Rat} (h:Spn Y.length (fnQ Y) x):Spn (X++Y).length (fnQ (X++Y)) x:=Spn.trans (fun s hs=>by
 have:=Spn.row (a:=fnQ (X++Y)) (m:=(X++Y).length) (i:=X.length+s) (by rw[a0i];omega)
 rwa [g0v] at this) h
theorem a6u (lm:mv.length=n) (wp:∀xs∈pt,xs.length=n):∀t,∀xs∈kry mv pt t,xs.length=n:=by
 intro t
 induction t with
 | zero=>intro xs hx;cases hx
 | succ t ih =>
  intro xs hx
  rcases a0w.mp hx with hx | hx
  ·exact wp xs hx
  ·obtain ⟨y,_,rfl⟩:=a0t.mp hx
   rw[c9k,lm]
theorem c8m (lm:mv.length=n) (wm:∀xs∈mv,xs.length=n) (wp:∀xs∈pt,xs.length=n) (RR:a2u (kry mv pt t) n R ps) (RR':a2u (pt++R.map (onQ mv)) n R' ps'):a2u (kry mv pt (t+1)) n R' ps':=by
 have wk:=a6u (mv:=mv) lm wp t
 refine ⟨RR'.1,RR'.2.1,RR'.2.2.other ?_ ?_⟩
 ·refine c9d (fun i hi=>c4c hi) fun i hi=>b9o ?_
  rw[a0e] at hi
  exact d6a lm wm RR.2.1 wk hi (RR.2.2.back i (by rw[← RR.1];exact hi))
 ·refine c9d (fun i hi=>c4c hi) fun i hi=>b9o ?_
  rw[a0e] at hi
  have:=RR.2.2.span i hi
  rw[← RR.1] at this
  exact d6a lm wm wk RR.2.1 hi this
theorem f0x (lm:mv.length=n) (wm:∀xs∈mv,xs.length=n) (wp:∀xs∈pt,xs.length=n):∀t i,i < (kry mv pt t).length->Spn (kry mv pt (t+1)).length (fnQ (kry mv pt (t+1))) (fnQ (kry mv pt t) i):=by
 intro t
 induction t with
 | zero=>intro i hi;cases hi
 | succ t ih =>
  refine c9d (fun i hi=>c4c hi) fun i hi=>b9o ?_
  rw[a0e] at hi
  exact d6a lm wm (a6u lm wp t) (a6u lm wp (t+1)) hi (ih i hi)
theorem d2s (lm:mv.length=n) (wm:∀xs∈mv,xs.length=n) (wp:∀xs∈pt,xs.length=n) (RR:a2u (kry mv pt t) n R ps) (RR':a2u (kry mv pt (t+1)) n R' ps'):∀i,i < ps.length->Spn ps'.length (fnQ R') (fnQ R i):=fun i hi =>
 Spn.trans (fun s hs=>RR'.2.2.span s hs) (Spn.trans (f0x lm wm wp t) (RR.2.2.back i hi))
theorem d7d (lm:mv.length=n) (wm:∀xs∈mv,xs.length=n) (wp:∀xs∈pt,xs.length=n) (RR:a2u (kry mv pt t) n R ps) (RR':a2u (pt++R.map (onQ mv)) n R' ps') (hl:ps'.length=ps.length):∀s,a2u (kry mv pt (t+s)) n R ps:=by
 have K1:=c8m lm wm wp RR RR'
 obtain ⟨e1,e2⟩:=e5y RR K1 hl.symm (d2s lm wm wp RR K1)
 subst e1 e2
 intro s
 induction s with
 | zero=>exact RR
 | succ s ih=>exact c8m lm wm wp ih RR'
theorem e1n (lm:mv.length=n) (wm:∀xs∈mv,xs.length=n) (wp:∀xs∈pt,xs.length=n) (RR:a2u (kry mv pt t) n R ps) (RR':a2u (kry mv pt (t+1)) n R' ps'):ps.length<=ps'.length:=by
 have h:=d2s lm wm wp RR RR'
 have hs:∀i,i < ps.length->∃j,j < ps'.length∧ps'.getD j 0=ps.getD i 0:=fun i hi=>by
  have u:=RR.2.2.unit i hi i hi
  rw[if_pos rfl] at u
  exact RR'.2.2.lead_in (h i hi) (c:=ps.getD i 0) (by rw[u];decide) (fun c hc=>RR.2.2.lead i hi c hc)
 rcases a2x ps'.length ps.length with z | z
 ·exfalso
  have key:∀i,i < ps.length->∀j,j < ps'.length->ps'.getD j 0=ps.getD i 0->i<=j:=by
   intro i
   induction i with
   | zero=>intro _ j _ _;exact a1f _
   | succ i ih =>
    intro hi j hj e
    obtain ⟨j',hj',e'⟩:=hs i (by omega)
    have h1:=ih (by omega) j' hj' e'
    have h2:=RR.2.2.inc i (i+1) (by omega) hi
    rcases a2x j' j with y | y
    ·omega
    ·rcases a2x j j' with x | x
     ·have:=RR'.2.2.inc j j' x hj'
      omega
     ·have:j=j':=by omega
      rw[this] at e
      omega
  obtain ⟨j,hj,e⟩:=hs (ps.length - 1) (by omega)
  have:=key (ps.length - 1) (by omega) j hj e
  omega
 ·exact z
theorem d2t {M V c:Nat} (lm:mv.length=n) (wm:∀xs∈mv,xs.length=n) (wp:∀xs∈pt,xs.length=n) (hc:(n+1)*V<=2^c) (fm:GF M V mv) (fp:GF M V pt):∀t,∀xs∈kry mv pt t,∀x∈xs,Fr (M^t) (2^(c*t)) x:=by
 intro t
 induction t with
 | zero=>intro xs hx;cases hx
 | succ t ih =>
  intro xs hx x hx'
  have hV:V<=2^c:=a0d (a6m _ (by omega)) hc
  rcases a0w.mp hx with hx | hx
  ·refine Fr.up (fp xs hx x hx') (by rw[b1q];exact Nat.dvd_mul_left _ _) (a0d hV (a0f (by decide) (a4o _ (by omega))))
  ·obtain ⟨y,hy,rfl⟩:=a0t.mp hx
   unfold onQ at hx'
   obtain ⟨r,hr,rfl⟩:=a0t.mp hx'
   have wr:=wm r hr
   have wy:=a6u (mv:=mv) lm wp t y hy
   have f:=f5s (by omega) (fm r hr) (ih y hy)
   rw[b1q,a3d (M^t)]
   refine f.mono ?_
   rw[Nat.mul_add,Nat.mul_one,a4k,a3d (2^(c*t)),← a6x,wr]
   exact a0n _ (a0d (a0n _ (by omega)) hc)
def d0w (mv pt:List (List Rat)) (a c:Nat):Prop:=∃M V:Nat,0 < M∧M<=2^a∧(mv.length+1)*V<=2^c∧GF M V mv∧GF M V pt∧a<=400∧c<=40∧mv.length*(mv.length*(a+c)+4)<=1740∧mv.length*(mv.length*(mv.length*(a+c)+4)+a+c+4)<=8900
theorem d0w.swf {a c:Nat} (F:d0w mv pt a c) (D:mv.length<=8) (wm:∀xs∈mv,xs.length=mv.length) (wp:∀xs∈pt,xs.length=mv.length) (ht:t<=mv.length):SwF (kry mv pt t) mv.length (mv.length*(a+c)):=by
 obtain ⟨M,V,M0,Ma,hV,fm,fp,a3,c3,e14,e89⟩:=F
 have f:=d2t rfl wm wp hV fm fp t
 have h1:mv.length*(a+c)<=8*440:=a2a D (by omega)
 have hM:M^t<=2^(a*mv.length):=a0d (c3s Ma _) (by rw[← e2n];exact a0f (by decide) (a3x _ ht))
 have h2:a*mv.length<=mv.length*(a+c):=by rw[a3d];exact a3x _ (by omega)
 have h3:mv.length=0∨mv.length*(a+c)<=1740:=by
  rcases b6j mv.length with z | z
  ·exact .inl z
  ·right
   have:=a6m (mv.length*(a+c)+4) z
   omega
 have h4:mv.length*(a+c)<=1740:=by
  rcases h3 with z | z
  ·rw[z];omega
  ·exact z
 refine ⟨M^t,2^(mv.length*(a+c)),Nat.pow_pos M0,a0d hM (a0f (by decide) (by omega)),a2r,a0h _,fun xs hx x hx'=>Tp.of (f xs hx x hx') ?_,by omega,by omega,?_⟩
 ·refine a0d (a2a (a0f (by decide) (a3x c ht)) hM) ?_
  rw[← a4k]
  refine a0f (by decide) ?_
  rw[a3d c,a3d a,← Nat.mul_add,b9m c]
  exact a0h _
 ·exact a0d (a0n _ (d1r _ _)) (by omega)
theorem d0w.tp {a c:Nat} (F:d0w mv pt a c) (D:mv.length<=8) (wm:∀xs∈mv,xs.length=mv.length) (wp:∀xs∈pt,xs.length=mv.length) (ht:t<=mv.length) (RR:a2u (kry mv pt t) mv.length R ps):∃M,0 < M∧M<=2^(mv.length*(mv.length*(a+c)+4))∧∀xs∈R,∀x∈xs,Tp M (2^(mv.length*(mv.length*(a+c)+4))) x:=by
 obtain ⟨_,M,h0,h1,h2⟩:=g1e (a6u rfl wp t) (F.swf D wm wp ht) RR
 have le:2^(min (kry mv pt t).length mv.length*(mv.length*(a+c)+4))<=2^(mv.length*(mv.length*(a+c)+4)):=a0f (by decide) (a0n _ (d1r _ _))
 exact ⟨M,h0,a0d h1 le,fun xs hx x hx'=>(h2 xs hx x hx').mono le⟩
theorem d0w.step {a c:Nat} (F:d0w mv pt a c) (D:mv.length<=8) (wm:∀xs∈mv,xs.length=mv.length) (wp:∀xs∈pt,xs.length=mv.length) (ht:t<=mv.length) (RR:a2u (kry mv pt t) mv.length R ps):SwF (pt++R.map (onQ mv)) mv.length (mv.length*(mv.length*(a+c)+4)+a+c):=by
 obtain ⟨N,N0,N1,tN⟩:=F.tp D wm wp ht RR
 obtain ⟨M,V,M0,Ma,hV,fm,fp,a3,c3,e14,e89⟩:=F
 generalize mv.length*(mv.length*(a+c)+4)=e at *
 have V1:V<=2^c:=a0d (a6m _ (by omega)) hV
 have eW:(2:Nat)^(e+a+c)=2^c*(2^a*2^e):=by rw[← a4k,← a4k];congr 1;omega
 refine ⟨N*M,2^(e+a+c),a7k N0 M0,?_,a2r,a0h _,fun xs hx x hx'=>?_,by omega,by omega,?_⟩
 ·exact a0d (a2a N1 Ma) (by rw[← a4k];exact a0f (by decide) (by omega))
 ·rcases a0w.mp hx with hx | hx
  ·refine Tp.of ((fp xs hx x hx').scaleL N) ?_
   rw[eW,a3d N]
   exact a2a V1 (a2a Ma N1)
  ·obtain ⟨y,hy,rfl⟩:=a0t.mp hx
   unfold onQ at hx'
   obtain ⟨r,hr,rfl⟩:=a0t.mp hx'
   have wr:=wm r hr
   have wy:=RR.2.1 y hy
   rw[a5p (by omega),wr]
   have t1:∀j,Tp M (V*M) (r.getD j 0):=fun j=>b5y (fun x hx=>Tp.of (fm r hr x hx) (a0h _)) j
   have t2:∀j,Tp N (2^e) (y.getD j 0):=fun j=>b5y (tN y hy) j
   have:=Tp.sum (k:=mv.length) (M:=N*M) (W:=V*M*2^e) (f:=fun j=>r.getD j 0*y.getD j 0) fun j _=>by
    have:=(t1 j).mul (t2 j)
    rwa [a3d M N] at this
   refine this.mono ?_
   rw[eW,a6x V,← a6x mv.length]
   exact a2a (a0d (a0n _ (by omega)) hV) (a0n _ Ma)
 ·exact a0d (a0n _ (d1r _ _)) (by rw[show e+a+c+4=e+a+c+4 from rfl];exact e89)
theorem d0w.fit {a c:Nat} (F:d0w mv pt a c) (D:mv.length<=8) (wm:∀xs∈mv,xs.length=mv.length) (wp:∀xs∈pt,xs.length=mv.length) (ht:t<=mv.length) (RR:a2u (kry mv pt t) mv.length R ps):∀xs∈mv,∀r∈R,f6m xs r:=fun xs hx r hr=>by
 obtain ⟨N,N0,N1,tN⟩:=F.tp D wm wp ht RR
 obtain ⟨M,V,M0,Ma,hV,fm,fp,a3,c3,e14,e89⟩:=F
 have V1:V<=2^c:=a0d (a6m _ (by omega)) hV
 have p14:=a0f (show 0 < 2 by decide) e14
 exact ⟨400,40,1740,1740,⟨M,V,M0,a0d Ma (a0f (by decide) a3),a0d V1 (a0f (by decide) c3),fm xs hx⟩,⟨N,2^1740,N0,a0d N1 p14,a0h _,fun x hx=>((tN r hr x hx).mono p14).fr N0⟩,by decide⟩
end
def e5g (K:PySem.W.Frag) (C:Addr):Sp:=fun vs H Q _=>∃(x p:Addr) (H0 H1:Hp) (mv pt lk R:List (List Rat)),vs=[.ref x,.ref p]∧c7a K H0 H C x mv pt lk∧c8x mv pt lk∧a3e K H1 H p R∧R.length<=100∧(∀r∈R,r.length=mv.length)∧(∀xs∈mv,∀r∈R,f6m xs r) ∧
 ∀r H',H r=none->a1w H H'->a3e K H H' r (R.map (onQ mv))->Q (.ref r) H'
structure e0b (mv pt:List (List Rat)) (Rs:List (List (List Rat))):Prop where
 ne:Rs≠[]
 rr:∀t R,Rs[t]?=some R->∃ps,a2u (kry mv pt t) mv.length R ps
 up:∀t R R',Rs[t]?=some R->Rs[t+1]?=some R'->R.length < R'.length
def GrL (K:PySem.W.Frag) (H0 H:Hp) (l:Addr) (Rs:List (List (List Rat))):Prop:=∃us,H l=some (.lst us)∧Paired (fun R v=>∃q,v=V.ref q∧H0 q=none∧q≠l∧a3e K H0 H q R) Rs us
def e5n (K:PySem.W.Frag) (C:Addr):Sp:=fun vs H Q _=>∃(x:Addr) (a c st:Nat) (H0:Hp) (mv pt lk:List (List Rat)),vs=[.ref x,.int st]∧st<=1000∧c7a K H0 H C x mv pt lk∧c8x mv pt lk∧d0w mv pt a c ∧
 ∀r Rs H',H r=none->a1w H H'->GrL K H H' r Rs->e0b mv pt Rs->Rs.length<=st+1->(∀R,Rs.getLast?=some R->∀s,(Rs.length - 1=st∧s=st∨Rs.length - 1 < st∧Rs.length - 1<=s)->∃ps,a2u (kry mv pt s) mv.length R ps)->Q (.ref r) H'
def e5c (K:PySem.W.Frag) (C:Addr):Sp:=fun vs H Q _=>∃(x:Addr) (a c st:Nat) (H0:Hp) (mv pt lk:List (List Rat)),vs=[.ref x,.int st]∧st<=1000∧c7a K H0 H C x mv pt lk∧c8x mv pt lk∧d0w mv pt a c ∧
 ∀r R ps H',H r=none->a1w H H'->a3e K H H' r R->a2u (kry mv pt st) mv.length R ps->Q (.ref r) H'
end L2
namespace L2
open PySem PySem.Spec PyProof.Rows Nm
section
variable {K:PySem.W.Frag} {H0 H1 H H':Hp} {p l:Addr} {rows mv pt R R':List (List Rat)} {Rs:List (List (List Rat))} {t:Nat}
theorem a3e.weakN (h:a3e K H0 H p rows) (hn:∀q,H0 q=none->H1 q=none):a3e K H1 H p rows:=let ⟨xs,g,r,n⟩:=h;⟨xs,g,Paired.imp' (fun _ _ ⟨q,a,b,c⟩=>⟨q,a,hn q b,c⟩) r,n⟩
theorem a3e.updL {ys:List V} {o:HO} (h:a3e K H0 H p rows) (hl:H l=some (.lst ys)) (nl:H0 l≠none) (pl:p≠l):a3e K H0 (upd H l o) p rows:=let ⟨xs,g,r,n⟩:=h;⟨xs,by rw[a2d pl];exact g,Paired.imp' (fun _ _ z=>a8x.updL z hl nl) r,n⟩
theorem e5z {n:Nat}:a2u [] n [] []:=⟨rfl,(fun _ h=>by cases h),(fun _ _ _ h=>absurd h (a6h _)),(fun _ h=>absurd h (a6h _)),(fun _ h=>absurd h (a6h _)),(fun _ h=>absurd h (a6h _)),(fun _ h=>absurd h (a6h _)),(fun _ h=>absurd h (a6h _))⟩
theorem e0b.len (h:e0b mv pt Rs):∀(t:Nat) (R:List (List Rat)),Rs[t]?=some R->t<=R.length:=by
 intro t
 induction t with
 | zero=>intro R _;exact a1f _
 | succ t ih =>
  intro R e
  have ht:=(a0s.mp e).1
  have e0:=a0c (show t < Rs.length by omega)
  have:=ih _ e0
  have:=h.up t _ R e0 e
  omega
theorem e0b.snoc {ps':List Nat} (h:e0b mv pt (Rs++[R])) (h1:a2u (kry mv pt (Rs.length+1)) mv.length R' ps') (h2:R.length < R'.length):e0b mv pt ((Rs++[R])++[R']):=by
 have l1:(Rs++[R]).length=Rs.length+1:=by rw[a0i];rfl
 refine ⟨by simp,fun t S e=>?_,fun t S S' e e'=>?_⟩
 ·rcases a2x t (Rs.length+1) with z | z
  ·rw[a1p (by omega)] at e
   exact h.rr t S e
  ·have ht:=(a0s.mp e).1
   rw[a0i,a1q] at ht
   have:t=Rs.length+1:=by omega
   subst this
   rw[a1e (by omega),l1,a6w] at e
   cases e
   exact ⟨ps',h1⟩
 ·have ht:=(a0s.mp e').1
  rw[a0i,a1q] at ht
  rw[a1p (by omega)] at e
  rcases a2x (t+1) (Rs.length+1) with z | z
  ·rw[a1p (by omega)] at e'
   exact h.up t S S' e e'
  ·have:t=Rs.length:=by omega
   subst this
   rw[a1e (by omega),l1,a6w] at e'
   cases e'
   rw[a1e (a0h _),a6w] at e
   cases e
   exact h2
end
end L2
namespace L2
open PySem PySem.Spec PyProof.Rows Nm
end L2
namespace L2
open PySem PySem.Spec PyProof.Rows Nm
end L2
namespace L2
open PySem PySem.Spec PyProof.Rows Nm
theorem d6u {α:Type} {v:α}:∀{l:List α},l.Nodup->v∉l->∀j,(l.set j v).Nodup
 | [],_,_,_=>List.nodup_nil
 | a :: l,h,hn,0=>by
  rw[a5n] at h
  rw[List.set_cons_zero,a5n]
  exact ⟨fun z=>hn (.tail _ z),h.2⟩
 | a :: l,h,hn,j+1=>by
  rw[a5n] at h
  rw[List.set_cons_succ,a5n]
  refine ⟨fun z=>?_,d6u h.2 (fun z=>hn (.tail _ z)) j⟩
  rcases a2y z with z | z
  ·exact h.1 z
  ·exact hn (by rw[z];exact .head _)
structure c7b (K:PySem.W.Frag) (A:Addr->Prop) (H:Hp) (n:Nat) (C:V->Rat->Prop) (m p l b q0:Addr) (us ws vs:List V):Prop where
 bag:Bag H b
 inn:Inner H b q0
 gm:H m=some (.lst us)
 gp:H p=some (.lst ws)
 gl:H l=some (.lst vs)
 lm:us.length=n
 row:∀x∈us++vs++ws,c2q K A H n (C x) x
 nd:(us++vs++ws).Nodup
section
variable {K:PySem.W.Frag} {A:Addr->Prop} {H H':Hp} {n:Nat} {C C':V->Rat->Prop} {m p l b q0 q:Addr} {us ws vs zs:List V} {y:Rat} {v:V}
theorem c7b.same (h:c7b K A H n C m p l b q0 us ws vs) (e:a1w H H'):c7b K A H' n C m p l b q0 us ws vs :=
 ⟨h.bag.same e,(e.upto (p:=b)).2 _ h.inn,e _ _ h.gm,e _ _ h.gp,e _ _ h.gl,h.lm,fun x hx=>(h.row x hx).same e,h.nd⟩
theorem c7b.upto (h:c7b K A H n C m p l b q0 us ws vs) (M:f6j A m p l b q0) (u:a7g b H H') (B':Bag H' b):c7b K A H' n C m p l b q0 us ws vs :=
 ⟨B',u.2 _ h.inn,u.other M.mb h.gm,u.other M.pb h.gp,u.other M.lb h.gl,h.lm,fun x hx=>(h.row x hx).upto u h.bag M.ab,h.nd⟩
theorem c7b.weak (h:c7b K A H n C m p l b q0 us ws vs) (w:∀x∈us++vs++ws,∀y,C x y->C' x y):c7b K A H n C' m p l b q0 us ws vs :=
 ⟨h.bag,h.inn,h.gm,h.gp,h.gl,h.lm,fun x hx=>(h.row x hx).weak (fun _ z=>z) (w x hx),h.nd⟩
theorem c7b.put (h:c7b K A H n C m p l b q0 us ws vs) (M:f6j A m p l b q0) (aq:A q) (hq:H q=some (.lst zs)) (hv:a5w K H y v) (hc:C (.ref q) y) (j:Nat):c7b K A (upd H q (.lst (zs.set j v))) n C m p l b q0 us ws vs:=by
 have ne:∀{z},¬A z->z≠q:=fun h e=>h (by rw[e];exact aq)
 refine ⟨h.bag.upd h.inn (ne M.ab).symm (ne M.aq).symm,h.inn.upd (ne M.ab).symm,by rw[a2d (ne M.am)];exact h.gm,by rw[a2d (ne M.ap)];exact h.gp,by rw[a2d (ne M.al)];exact h.gl,h.lm,fun x hx=>?_,h.nd⟩
 by_cases e:x=.ref q
 ·subst e
  exact (h.row _ hx).put hq hv hc j
 ·obtain ⟨q1,qs,rfl,a1,r1,l1,c1⟩:=h.row x hx
  exact ⟨q1,qs,rfl,a1,r1.updL hq (fun z=>e (by rw[z])),l1,c1⟩
theorem c7b.set (h:c7b K A H n C m p l b q0 us ws vs) (M:f6j A m p l b q0) (hx:c2q K A H n (C v) v) (hn:v∉us++vs++ws) (j:Nat):c7b K A (upd H m (.lst (us.set j v))) n C m p l b q0 (us.set j v) ws vs:=by
 have mem:∀x∈us.set j v++vs++ws,x=v∨x∈us++vs++ws:=fun x hx=>by
  rcases a0w.mp hx with hx | hx
  ·rcases a0w.mp hx with hx | hx
   ·rcases a2y hx with hx | hx
    ·exact .inr (by simp [hx])
    ·exact .inl hx
   ·exact .inr (by simp [hx])
  ·exact .inr (by simp [hx])
 refine ⟨h.bag.upd h.inn M.mb M.mq,h.inn.upd M.mb,a0y,by rw[a2d M.mp.symm];exact h.gp,by rw[a2d M.ml.symm];exact h.gl,by rw[a4q];exact h.lm,fun x hx'=>?_,?_⟩
 ·rcases mem x hx' with rfl | hx'
  ·exact hx.other h.gm M.am
  ·exact (h.row x hx').other h.gm M.am
 ·have nd:=h.nd
  rw[a3g] at nd hn ⊢
  obtain ⟨n1,n2,n3⟩:=b2a.mp nd
  refine b2a.mpr ⟨?_,n2,fun a ha c hc=>?_⟩
  ·rcases a2x j us.length with z | z
   ·exact d6u n1 (fun z'=>hn (a0w.mpr (.inl z'))) j
   ·rw[List.set_eq_of_length_le z];exact n1
  ·rcases a2y ha with ha | rfl
   ·exact n3 a ha c hc
   ·exact fun z=>hn (a0w.mpr (.inr (by rw[z];exact hc)))
end
theorem f5o {M W:Nat} {x:Rat} (h0:0 < M) (h1:M<=2^800) (hW:W<=2^140) (h:Fr M W x):SzN x :=
 e7v h0 (a0d h1 (a0f (by decide) (by decide))) (a0d hW (a0f (by decide) (by decide))) h
theorem f4z {t V c:Nat} (ht:t<=3) (hV:V<=2^20) (hc:c<=9):c*(9^t*V)<=2^140:=by
 have h1:9^t<=9^3:=a0f (by decide) ht
 have h2:c*(9^t*V)<=9*(9^3*2^20):=a2a hc (a2a h1 hV)
 exact a0d h2 (a0d (show 9*(9^3*2^20)<=2^40 by decide) (a0f (by decide) (by decide)))
def e5i (K:PySem.W.Frag):Sp:=fun xs H Q _=>∃(b m p l q0:Addr) (n M V1:Nat) (A:Addr->Prop) (us ws vs:List V),xs=[.ref b,.ref m,.ref p,.ref l]∧f6j A m p l b q0∧c7b K A H n (fun _=>Fr M V1) m p l b q0 us ws vs∧n<=8∧ws.length<=4∧vs.length<=4∧0 < M∧M<=2^800∧V1<=2^20∧(∀q,H q=none->A q) ∧
 ∀r us' H',H' r=some (.tup [.ref m,.ref p,.ref l])->c7b K A H' n (fun _=>Fr M (9^3*V1)) m p l b q0 us' ws vs->b4l A b m H H'->Q (.ref r) H'
end L2
namespace L2
open PySem PySem.Spec PyProof.Rows Nm
theorem d2l {α:Type} {l:List α} {v:α} (h:l.Nodup) (hn:v∉l):(l++[v]).Nodup:=b2a.mpr ⟨h,by simp,fun a ha c hc=>by rw[a4p.mp hc];exact fun z=>hn (by rw[← z];exact ha)⟩
section
variable {K:PySem.W.Frag} {a:Addr} {xs:List V} {g:TG} {tf:TT} {te:TE} {Q:VK} {σ₀:St} {H:Hp} {α β:Type}
theorem d7o {n:Nat} {b:Addr} (G:Hp->β->V->Prop) (C:β->Prop) (hB:Bag H b) (hl:n<=1000) (hG:∀{H' H'' c x},G H' c x->a7g b H' H''->Bag H' b->G H'' c x)
  (hA:∀{H' c x},G H' c x->∃q,x=V.ref q∧H' q≠none)
  (hs:∀(i:Nat) H' NY NN,i < n->a7g b H H'->Bag H' b->(∀y c H2,a7g b H' H2->Bag H2 b->C c->G H2 c y->(∃q,y=V.ref q∧H' q=none)->NY y H2)->d1b σ₀ g tf te (.int i) H' NY NN)
  (hd:∀ys cs H' p,H p=none->a7g b H H'->Bag H' b->H' p=some (.lst ys)->cs.length=n->ys.Nodup->(∀c∈cs,C c)->Paired (G H') cs ys->(∃H2,H2 p=none∧Paired (G H2) cs ys)->Q (.ref p) H'):d1q (Itr 0 n) σ₀ g tf te Q H:=by
 refine c1l (fun i ys H'=>a7g b H H'∧Bag H' b∧∃cs,cs.length=i∧ys.Nodup∧(∀c∈cs,C c)∧Paired (G H') cs ys) (a1j (a2f (by omega))) ⟨(a1w.refl _).upto,hB,[],rfl,List.nodup_nil,(fun _ z=>nomatch z),.nil⟩ ?_ ?_
 ·rintro i ys H' hi hlen ⟨u,B,cs,lc,nd,hc,pr⟩
  rw[d5u]
  refine hs i H' _ _ hi u B fun y c H2 u2 B2 cc gy ⟨q,ey,nq⟩=>⟨u.trans u2,B2,cs++[c],by simp [lc],d2l nd (fun z=>by obtain ⟨c',_,gc⟩:=a5l pr z;obtain ⟨q',e',h'⟩:=hA gc;rw[ey] at e';cases e';exact h' nq),e8n hc cc,a2t (Paired.imp' (fun _ _ z=>hG z u2 B) pr) (.cons gy .nil)⟩
 ·rintro ys H' hy ⟨u,B,cs,lc,nd,hc,pr⟩ p hp
  have s:a1w H' (upd H' p (.lst ys)):=a1w.new hp
  exact hd ys cs _ p (u.none B hp) (u.same s) (B.same s) a0y lc nd hc (Paired.imp' (fun _ _ z=>hG z s.upto B) pr) ⟨H',hp,pr⟩
end
theorem c7b.fr {K:PySem.W.Frag} {A:Addr->Prop} {H:Hp} {n c:Nat} {m p l b q0:Addr} {us ws vs:List V} (h:c7b K A H n (fun _=>Dr (2^c)) m p l b q0 us ws vs):∃M,0 < M∧M<=2^(c*((n+ws.length+vs.length)*n))∧c7b K A H n (fun _=>Fr M (2^c)) m p l b q0 us ws vs:=by
 obtain ⟨ra,pa,la,ha⟩:=d2a h.row
 obtain ⟨M,m0,m1,m2⟩:=f3y (c:=c) (n:=n) (rows:=ra) ha
 refine ⟨M,m0,?_,h.bag,h.inn,h.gm,h.gp,h.gl,h.lm,e3h pa fun qs hq=>⟨(ha qs hq).1,m2 qs hq⟩,h.nd⟩
 rw[la,a0i,a0i,h.lm] at m1
 rw[show n+ws.length+vs.length=n+vs.length+ws.length by omega]
 exact m1
structure PtN (K:PySem.W.Frag) (A:Addr->Prop) (n:Nat) (C:Rat->Prop) (m p l b q0:Addr) (us ws vs:List V) (H0 H:Hp):Prop where
 mix:c7b K A H n (fun _=>C) m p l b q0 us ws vs
 gp:H p=some (.lst ws)
 gl:H l=some (.lst vs)
 kp:b4l A b m H0 H
section
variable {K:PySem.W.Frag} {A:Addr->Prop} {n:Nat} {C:Rat->Prop} {m p l b q0 q:Addr} {us ws vs:List V} {H0 H H':Hp} {y:Rat} {v:V}
theorem PtN.same (h:PtN K A n C m p l b q0 us ws vs H0 H) (e:a1w H H'):PtN K A n C m p l b q0 us ws vs H0 H':=⟨h.mix.same e,e _ _ h.gp,e _ _ h.gl,h.kp.same e⟩
theorem PtN.upto (h:PtN K A n C m p l b q0 us ws vs H0 H) (M:f6j A m p l b q0) (u:a7g b H H') (B:Bag H' b):PtN K A n C m p l b q0 us ws vs H0 H':=⟨h.mix.upto M u B,u.other M.pb h.gp,u.other M.lb h.gl,h.kp.upto u⟩
theorem PtN.row (h:PtN K A n C m p l b q0 us ws vs H0 H) {x:V} (hx:x∈ws∨x∈vs):c2q K A H n C x:=h.mix.row x (by rcases hx with hx | hx <;> simp [hx])
theorem PtN.put (h:PtN K A n C m p l b q0 us ws vs H0 H) (M:f6j A m p l b q0) (hx:V.ref q∈ws∨V.ref q∈vs) (hv:a5w K H y v) (hc:C y) (j:Nat):∃zs,H q=some (.lst zs)∧zs.length=n∧PtN K A n C m p l b q0 us ws vs H0 (upd H q (.lst (zs.set j v))):=by
 obtain ⟨q',zs,qs,e,a,g,lz,_⟩:=(h.row hx).at
 cases e
 have ne:∀{z},¬A z->z≠q:=fun h e=>h (by rw[e];exact a)
 exact ⟨zs,g,lz,h.mix.put M a g hv hc j,by rw[a2d (ne M.ap)];exact h.gp,by rw[a2d (ne M.al)];exact h.gl,h.kp.upd (.inl a)⟩
end
def e9o (K:PySem.W.Frag):Sp:=fun vs H Q _=>∃(b:Addr) (n w:Nat) (way first:Int),vs=[.ref b,.int n,.int way,.int first,.int w]∧Bag H b∧n<=8∧1<=w∧w<=1000000 ∧
 ∀r us H',H r=none->H' r=some (.lst us)->us.length=n->us.Nodup->(∀x∈us,c2q K (fun q=>H q=none∧q≠r) H' n (Dr (max w 6)) x)->Bag H' b->a7g b H H'->Q (.ref r) H'
def PtF (n i o w c:Nat) (mv pt lk:List (List Rat)):Prop:=∃M V1:Nat,0 < M∧GF M V1 mv∧GF M V1 pt∧GF M V1 lk∧((w<=9∧M=2520∧V1=9^3*9)∨(9 < w∧M<=2^(c*((n+i+o)*n))∧V1=9^3*2^c))
def e5d (K:PySem.W.Frag):Sp:=fun vs H Q _=>∃(b:Addr) (n i o w c:Nat),vs=[.ref b,.int n,.int i,.int o,.int w]∧Bag H b∧n<=8∧i<=4∧o<=4∧1<=w∧w<=1000000∧max w 6<=2^c∧c<=20∧c*((n+i+o)*n)<=800 ∧
 ∀r mv pt lk H',c2r K H H' r mv pt lk->mv.length=n->pt.length=i->lk.length=o->c8x mv pt lk->PtF n i o w c mv pt lk->Bag H' b->a7g b H H'->Q (.ref r) H'
end L2
namespace L2
open PySem PySem.Spec PyProof.Rows Nm
end L2
namespace L2
open PySem PySem.Spec PyProof.Rows Nm
theorem f5l {mv pt:List (List Rat)} {M V1 a c n0:Nat} (M0:0 < M) (hM:M<=2^a) (hn:mv.length<=n0) (hV:(n0+1)*V1<=2^c) (fm:GF M V1 mv) (fp:GF M V1 pt) (h4:a<=400∧c<=40∧n0*(n0*(a+c)+4)<=1740∧n0*(n0*(n0*(a+c)+4)+a+c+4)<=8900):d0w mv pt a c:=by
 obtain ⟨h1,h2,h3,h5⟩:=h4
 have e1:mv.length*(a+c)<=n0*(a+c):=a0n _ hn
 have e2:mv.length*(mv.length*(a+c)+4)<=n0*(n0*(a+c)+4):=a2a hn (by omega)
 have e3:mv.length*(mv.length*(mv.length*(a+c)+4)+a+c+4)<=n0*(n0*(n0*(a+c)+4)+a+c+4):=a2a hn (by omega)
 exact ⟨M,V1,M0,hM,a0d (a0n _ (by omega)) hV,fm,fp,h1,h2,by omega,by omega⟩
end L2
namespace L2
open PySem PySem.Spec PyProof.Rows Nm
theorem f0y {mv pt R R':List (List Rat)} {n t:Nat} {ps ps':List Nat} (lm:mv.length=n) (wm:∀xs∈mv,xs.length=n) (wp:∀xs∈pt,xs.length=n) (RR:a2u (kry mv pt t) n R ps) (RR':a2u (kry mv pt (t+1)) n R' ps'):a2u (pt++R.map (onQ mv)) n R' ps':=by
 have wk:=a6u (mv:=mv) lm wp t
 refine ⟨RR'.1,RR'.2.1,RR'.2.2.other ?_ ?_⟩
 ·refine c9d (fun i hi=>c4c hi) fun i hi=>b9o ?_
  rw[a0e] at hi
  have:=RR.2.2.span i hi
  rw[← RR.1] at this
  exact d6a lm wm wk RR.2.1 hi this
 ·refine c9d (fun i hi=>c4c hi) fun i hi=>b9o ?_
  rw[a0e] at hi
  exact d6a lm wm RR.2.1 wk hi (RR.2.2.back i (by rw[← RR.1];exact hi))
end L2
namespace L2
open PySem PySem.Spec PyProof.Rows Nm
theorem e1w {rs:List Nat} {v v':Nat->Vec}:∀{k:Nat} (pre:List Vec),(∀j,j < k->∀r∈rs,v j r=v' j r)->dtD rs (pre++cwN v k)=dtD rs (pre++cwN v' k)
 | 0,_,_=>rfl
 | k+1,pre,h=>by
  show dtD rs (pre++v k :: cwN v k)=dtD rs (pre++v' k :: cwN v' k)
  rw[f1k (h k (by omega))]
  have:=e1w (k:=k) (pre++[v' k]) fun j hj=>h j (by omega)
  simpa using this
theorem f9f {F G:List Vec->Rat} {r:Nat} {σ:Nat->Nat} (hF:∀ws:List Vec,F (ws.map fun v i=>v (σ i))=G ws):∀(post pre:List Vec) (s:Rat),lpD F r (pre.map fun v i=>v (σ i)) (post.map fun v i=>v (σ i)) s=lpD G (σ r) pre post s
 | [],_,_=>rfl
 | v :: post,pre,s=>by
  have i1:=hF (pre++post)
  have i2:=f9f (r:=r) hF post (pre++[v]) (-s)
  simp only[a3y,a6y,f1z,lpD] at i1 i2 ⊢
  rw[i1,i2]
theorem g0e {σ:Nat->Nat}:∀(rs:List Nat) (vs:List Vec),dtD rs (vs.map fun v i=>v (σ i))=dtD (rs.map σ) vs
 | [],[]=>rfl
 | [],_ :: _=>rfl
 | r :: rs,vs=>f9f (fun ws=>g0e rs ws) vs [] 1
theorem f2h {σ:Nat->Nat}:∀{k:Nat},(rlN (fun i=>i) k).map σ=rlN σ k
 | 0=>rfl
 | k+1=>by show σ k :: _=_;rw[f2h];rfl
theorem cw_map {τ:Vec->Vec} {v:Nat->Vec}:∀{k:Nat},(cwN v k).map τ=cwN (fun j=>τ (v j)) k
 | 0=>rfl
 | k+1=>by show τ (v k) :: _=_;rw[cw_map];rfl
theorem g0d {σ:Nat->Nat} {v:Nat->Vec} {k:Nat}:dtD (rlN σ k) (cwN v k)=dtD (rlN (fun i=>i) k) (cwN (fun j i=>v j (σ i)) k):=by
 rw[← f2h,← g0e,cw_map]
theorem f2s {N : Nat} {W : Nat → Nat} : ∀ {rs : List Nat} {vs : List Vec}, vs.length ≤ N → (∀ v ∈ vs, ∀ r ∈ rs, Fr 1 (W r) (v r)) → Fr 1 ((rs.map fun r => N * W r).foldr (· * ·) 1) (dtD rs vs)
  | [], [], _, _ => by show Fr 1 1 1; exact (Fr.int (i := 1) (by decide))
  | [], _ :: _, _, _ => by show Fr 1 _ 0; exact Fr.zero
  | r :: rs, vs, hl, h => by
    have := f5j (F := fun ws => dtD rs ws) (r := r) (B := (rs.map fun r => N * W r).foldr (· * ·) 1) (W := W r) (post := vs) (pre := []) (s := 1) (fun ws h1 h2 => f2s (by rw [a3r] at h2; omega) fun v hv r' hr' => h v (by simpa using h1 v hv) r' (.tail _ hr')) (fun w hw => h w hw r (.head _)) (Fr.int (i := 1) (by decide))
    refine this.mono ?_
    show _ ≤ N * W r * _
    rw [a6x N]
    exact a0n _ hl
end L2
namespace L2
open PySem PySem.Spec PyProof.Rows Nm
structure Vb (r n:Nat) (Pm Y Z:Nat->Nat->Rat) (d:Rat) (W:Nat):Prop where
 d0:d≠0
 det:d=dtD (rlN (fun i=>i) r) (cwN (fun j i=>Pm i j) r)
 eq:∀i,i < r->∀c,c < n->Z i c=a3n r fun s=>Pm i s*Y s c
 pf:∀i,i < r->∀s,s < r->Fr 1 W (Pm i s)
 zf:∀i,i < r->∀c,c < n->Fr 1 W (Z i c)
end L2
namespace L2
open PySem PySem.Spec PyProof.Rows Nm
section
variable {rows fs ls:List (List Rat)} {n r M W Wv Wb k P:Nat} {Pm Y Z B E a:Nat->Nat->Rat} {d:Rat} {ps:List Nat} {rs:List (List Rat)}
end
end L2
namespace L2
open PySem PySem.Spec PyProof.Rows Nm
section
variable {rows R R1 R2 mv pt:List (List Rat)} {n r M V1 W W' Wv Wb k P:Nat} {Pm Y Z B E a:Nat->Nat->Rat} {d:Rat} {ps ps1 ps2:List Nat} {rs:List (List Rat)}
theorem e4q (h0:0 < M) (h3:∀xs∈rows,∀x∈xs,Tp M W x):∀i,i < rows.length->∀c,Fr 1 W (fnZ (rows.map c2w) i c):=fun i hi c=>by
 have hx:=getD_in (e:=[]) hi
 rw[d8k hi]
 unfold fnQ
 generalize rows.getD i []=xs at hx ⊢
 by_cases hc:c < xs.length
 ·have t:=h3 xs hx _ (getD_in (e:=0) hc)
  obtain ⟨s,e,b⟩:=e0n t h0 (c8s (xs:=xs)) (c5j (a0t.mpr ⟨_,getD_in (e:=0) hc,rfl⟩)) (e8i h0 (h3 xs hx))
  rw[a4l,e]
  exact Fr.int b
 ·rw[a0a,a1d (by omega)]
  show Fr 1 W (_*0)
  rw[a6b]
  exact Fr.zero
theorem Vb.of (hw:∀xs∈rows,xs.length=n) (hW:1<=W) (h0:0 < M) (h3:∀xs∈rows,∀x∈xs,Tp M W x) (RR:a2u rows n R ps):∃Pm Z d,Vb ps.length n Pm (fnQ R) Z d W:=by
 have ent:=e4q h0 h3
 obtain ⟨ls,ps2,d,I⟩:=c4b hw hW (by rw[a0e];exact ent) n (a0h _)
 obtain ⟨_,_,⟨pm,B⟩,E⟩:=I
 rw[a0e] at B E
 have RF:Rrf rows.length n (fnQ rows) ps2.length (fun j=>ps2.getD j 0) (fun i c=>fnZ ls i c / d):=Rrf.other (E.done fun i hi c hc=>c9z (n:=n) (fun zs hz=>by
  obtain ⟨xs,hx,rfl⟩:=a0t.mp hz
  rw[c0s]
  exact hw xs hx) hc) d3d d3e
 obtain ⟨e1,e2,e3⟩:=RF.uniq RR.2.2 (fun _ hi=>Spn.row hi) (fun _ hi=>Spn.row hi)
 refine ⟨fun i s=>fnZ (rows.map c2w) (pm i) (ps2.getD s 0),fun i c=>fnZ (rows.map c2w) (pm i) c,d,?_⟩
 rw[← e1]
 have km:=B.km
 refine ⟨B.d0,?_,fun i hi c hc=>?_,fun i hi s hs=>ent _ (B.rng i (by omega)) _,fun i hi c hc=>ent _ (B.rng i (by omega)) _⟩
 ·rw[B.det]
  exact g0d
 ·have:=B.coef (i:=i) (c:=c) (by omega)
  rw[if_pos hi,b9k] at this
  rw[this]
  exact a1c fun s hs=>by rw[← e3 s hs c];exact a4l _ _
theorem f2n {V:Nat} {f:Nat->Rat}:∀{k:Nat},(∀j,j < k->Fr 1 V (f j))->Fr 1 (k*V) (a3n k f)
 | 0,_=>Fr.zero
 | k+1,h=>by
  rw[a4d]
  exact (f2n fun j hj=>h j (by omega)).add (h k (by omega))
theorem g1v {V:Nat} (h:GF M V rows) (i c:Nat):Fr M V (fnQ rows i c):=by
 unfold fnQ
 rw[a0a (l:=rows)]
 by_cases hi:i < rows.length
 ·rw[a0c hi]
  show Fr M V (rows[i].getD c 0)
  rw[a0a]
  by_cases hc:c < rows[i].length
  ·rw[a0c hc]
   exact h _ (a0z hi) _ (a0z hc)
  ·rw[a1d (by omega)]
   exact Fr.zero
 ·rw[a1d (by omega)]
  exact Fr.zero
theorem c9c {f:Nat->Rat} {a:Nat}:∀{b:Nat},a3n (a+b) f=a3n a f+a3n b fun t=>f (a+t)
 | 0=>by show a3n a f=a3n a f+0;grind
 | b+1=>by
  show a3n (a+b) f+f (a+b)=_+(a3n b _+f (a+b))
  rw[c9c]
  grind
end
end L2
namespace L2
open PySem PySem.Spec PyProof.Rows Nm
section
variable {rows R R1 R2 mv pt:List (List Rat)} {n t t2 a c:Nat} {ps ps1 ps2:List Nat}
theorem d9b (RR:a2u rows n R ps):a2u R n R ps:=⟨RR.1,RR.2.1,RR.2.2.other (fun i hi=>by rw[RR.1];exact RR.2.2.span i hi) (fun i hi=>RR.2.2.back i (by rw[← RR.1];exact hi))⟩
theorem f3x (RR:a2u rows n R ps) (e:ps.length=n) {i:Nat} (hi:i < n) (c:Nat):fnQ R i c=if c=i then 1 else 0:=by
 have lo:∀j,j < n->j<=ps.getD j 0:=by
  intro j
  induction j with
  | zero=>intro _;exact a1f _
  | succ j ih =>
   intro hj
   have:=ih (by omega)
   have:=RR.2.2.inc j (j+1) (by omega) (by omega)
   omega
 have hi2:∀s j,j+s+1=n->ps.getD j 0<=j:=by
  intro s
  induction s with
  | zero =>
   intro j hj
   have:=RR.2.2.low j (by omega)
   omega
  | succ s ih =>
   intro j hj
   have:=ih (j+1) (by omega)
   have:=RR.2.2.inc j (j+1) (by omega) (by omega)
   omega
 have ep:∀j,j < n->ps.getD j 0=j:=fun j hj=>Nat.le_antisymm (hi2 (n - 1 - j) j (by omega)) (lo j hj)
 by_cases hc:c < n
 ·have:=RR.2.2.unit i (by omega) c (by omega)
  rw[ep c hc] at this
  rw[this]
  by_cases z:i=c
  ·rw[if_pos z,if_pos z.symm]
  ·rw[if_neg z,if_neg (Ne.symm z)]
 ·rw[e1r RR.2.1 (by omega),if_neg (by omega)]
theorem d4r {M W:Nat} (h:∀i,i < rows.length->∀c,Tp M W (fnQ rows i c)):∀xs∈rows,∀x∈xs,Tp M W x:=fun xs hx x hx'=>by
 obtain ⟨i,hi,rfl⟩:=a2c hx
 obtain ⟨c,hc,rfl⟩:=a2c hx'
 have:=h i hi c
 unfold fnQ at this
 rw[a0a (l:=rows),a0c hi] at this
 have e:(some rows[i]).getD []=rows[i]:=rfl
 rw[e,a0a,a0c hc] at this
 exact this
theorem d0w.vb (F:d0w mv pt a c) (wm:∀xs∈mv,xs.length=mv.length) (wp:∀xs∈pt,xs.length=mv.length) (ht:t<=ps.length) (RR:a2u (kry mv pt t) mv.length R ps):∃Pm Z d w,Vb ps.length mv.length Pm (fnQ R) Z d (2^w)∧(ps.length < mv.length∧w=(mv.length - 1)*(a+c)∨ps.length=mv.length∧w=0):=by
 have le:=RR.le
 rcases a2x ps.length mv.length with z | z
 ·obtain ⟨M,V,M0,Ma,hV,fm,fp,_⟩:=F
  have f:=d2t rfl wm wp hV fm fp t
  obtain ⟨Pm,Z,d,vb⟩:=Vb.of (a6u rfl wp t) (a2r (n:=(mv.length - 1)*(a+c))) (Nat.pow_pos M0 (n:=t)) (fun xs hx x hx'=>Tp.of (f xs hx x hx') (by
   refine a0d (a3x _ (c3s Ma t)) ?_
   rw[← e2n,← a4k]
   refine a0f (by decide) ?_
   rw[← Nat.add_mul,a3d,b9m c]
   exact a0n _ (by omega))) RR
  exact ⟨Pm,Z,d,_,vb,.inl ⟨z,rfl⟩⟩
 ·have e:ps.length=mv.length:=by omega
  obtain ⟨Pm,Z,d,vb⟩:=Vb.of (W:=2^0) (M:=1) RR.2.1 (by decide) (by decide) (d4r fun i hi c=>by
   rw[RR.1,e] at hi
   rw[f3x RR e hi c]
   split
   ·exact ⟨1,by rw[Rat.one_mul];rfl,by decide⟩
   ·exact ⟨0,by rw[b1p];rfl,by decide⟩) (d9b RR)
  exact ⟨Pm,Z,d,0,vb,.inr ⟨e,rfl⟩⟩
end
end L2
namespace L2
open PySem PySem.Spec PyProof.Rows Nm
end L2
namespace L2
open PySem PySem.Spec PyProof.Rows Nm
structure TwI (K:PySem.W.Frag) (H0 H:Hp) (n:Nat) (fd:Addr) (L:List (Addr×List V)):Prop where
 gf:H fd=some (.lst (L.map fun e=>V.ref e.1))
 nf:H0 fd=none
 ls:∀e∈L,H0 e.1=none∧e.1≠fd∧H e.1=some (.lst e.2)
 nd:(L.map fun e=>e.1).Nodup
 rows:∀e∈L,∀x∈e.2,c2q K (fun q=>(H0 q=none∧q≠fd)∧q∉L.map fun e=>e.1) H n (Fr 1 1) x
 rd:(L.flatMap fun e=>e.2).Nodup
end L2
namespace L2
open PySem PySem.Spec PyProof.Rows Nm
def Gd (mv pt:List (List Rat)) (i:Nat) (R:List (List Rat)) (ps:List Nat):Prop:=a2u (kry mv pt i) mv.length R ps∧∃t,t<=ps.length∧t<=i∧a2u (kry mv pt t) mv.length R ps∧(t=i∨∀s,a2u (kry mv pt (t+s)) mv.length R ps)
section
variable {mv pt R R':List (List Rat)} {i:Nat} {ps ps':List Nat}
theorem Gd.start:Gd mv pt 0 [] []:=⟨e5z,0,a0h _,a0h _,e5z,.inl rfl⟩
theorem f0d (wm:∀xs∈mv,xs.length=mv.length) (wp:∀xs∈pt,xs.length=mv.length) (h:a2u (kry mv pt i) mv.length R ps) (h':a2u (kry mv pt (i+1)) mv.length R' ps') (e:ps'.length=ps.length):∀s,a2u (kry mv pt (i+s)) mv.length R ps:=d7d rfl wm wp h (f0y rfl wm wp h h') e
theorem Gd.step (wm:∀xs∈mv,xs.length=mv.length) (wp:∀xs∈pt,xs.length=mv.length) (h:Gd mv pt i R ps) (h':a2u (kry mv pt (i+1)) mv.length R' ps'):Gd mv pt (i+1) R' ps'∧(mv.length<=i->R'=R):=by
 obtain ⟨h0,t,t1,t2,ht,hs⟩:=h
 have st:(∀s,a2u (kry mv pt (t+s)) mv.length R ps)->Gd mv pt (i+1) R' ps'∧(mv.length<=i->R'=R):=fun hs=>by
  have:=hs (i+1 - t)
  rw[show t+(i+1 - t)=i+1 by omega] at this
  obtain ⟨rfl,rfl⟩:=this.same h'
  exact ⟨⟨h',t,t1,by omega,ht,.inr hs⟩,fun _=>rfl⟩
 rcases hs with rfl | hs
 ·have gr:=e1n rfl wm wp h0 h'
  by_cases e:ps'.length=ps.length
  ·exact st (f0d wm wp h0 h' e)
  ·refine ⟨⟨h',t+1,by omega,a0h _,h',.inl rfl⟩,fun hn=>?_⟩
   have:=h'.le
   omega
 ·exact st hs
end
end L2
namespace L2
open PySem PySem.Spec PyProof.Rows Nm
theorem f0b:typeLookup (.type "list_reverseiterator") "__len__"=pure none:=by
 rw[typeLookup_type,builtinLookup_eq_fast]
 kernel_rfl
theorem f3v:typeLookup (.type "list_reverseiterator") "__length_hint__"=pure (some (.builtin "list_reverseiterator.__length_hint__")):=by
 rw[typeLookup_type,builtinLookup_eq_fast]
 kernel_rfl
section
variable {prog:Program} {w:World} {A:Around} {E:Value->Shared->Prop} {s:Shared}
theorem f3t {it l:Addr} {i:Int} {Q:Bool->Shared->Prop} (hit:s.heap.IsRevIter it l i) (q:Q false s):wpAny (model prog w) A (Builtin.List.listLengthHint (.ref it)) Q E s:=by
 unfold Builtin.List.listLengthHint
 refine wpAny_bind (wpAny_specialOf hit.typeIs f0b ?_)
 show wpAny _ A (specialOf (Value.ref it) (Str.ofString "__length_hint__") >>= _) Q E s
 refine wpAny_bind (wpAny_specialOf hit.typeIs f3v ?_)
 generalize hid:("list_reverseiterator.__length_hint__":String)=id0
 dsimp only
 rw[show splitId id0=some ("list_reverseiterator","__length_hint__") from by subst hid;decide +kernel]
 subst hid
 refine wpAny_bind (wpAny_isInstance (T:="list_reverseiterator") (b:=true) hit.typeIs (by rw[isSubtype_type];kernel_rfl) ?_)
 refine wpAny_ite_split (fun z=>absurd z (by decide)) (fun _=>?_)
 refine wpAny_ite_split (fun _=>?_) (fun z=>absurd (by decide +kernel) z)
 exact wpAny_ite_split (fun z=>absurd z (by decide +kernel)) (fun _=>wpAny_pure q)
theorem f3w {R:Result->Shared->Prop} {I l S:Addr} {items:Array Value} {res:Value} {c0:Nat} (hh:A.handled=none) (hit:s.heap.IsRevIter I l ((items.size:Int) - 1)) (hl:s.heap.IsList l items) (nI:l≠I) (nS:S≠I) (nL:S≠l) (hn:items.size<=sizeLine) (hS:s.heap.get? S=some { cls:=.type "list",data:=.seq #[] c0 })
  (hR:∀h' tk acc c,(∀b o,b≠S->b≠I->s.heap.get? b=some o->h'.get? b=some o)->h'.get? S=some { cls:=.type "list",data:=.seq acc c }->ItemsOf (fun i v=>items[items.size - 1 - i]?=some v) acc items.size->R (.ok (.ret res)) { s with heap:=h',toks:=tk }) :
  wpAny (model prog w) A.in1 (Builtin.List.listExtendWith (.ref S) (.ref I) res) (fun fin s2=>match fin with | .done f=>R (.ok f) s2 | .again c=>c.quiet=true∧codeAny (model prog w) A c R s2) (fun e s2=>R (.error e) s2) s:=by
 have W:=(Walks.listRev (prog:=prog) (w:=w) (A:=A.in1) hh I l nI items).toS
 unfold Builtin.List.listExtendWith
 refine wpAny_bind (wpAny_typeOf hit.typeIs ?_)
 rw[if_neg (by simp [Builtin.List.listSameRef,nS])]
 refine wpAny_bind (wpAny_pyIter_revIter hit ?_)
 refine wpAny_bind (wpAny_holding (f3t hit ?_))
 refine wpAny_ite_split (fun z=>absurd z (by decide +kernel)) (fun _=>?_)
 have h0:s.heap.IsRevIter I l ((items.size:Int) - 1 - ((0:Nat):Int)):=by simpa using hit
 refine wpAny_pure ⟨plainId_quiet F.plain_extend_loop _,codeAny_extend_loopS W hn S (by simp [nS,nL]) res items.size 0 s #[] c0 rfl (a1f _) ⟨a1f _,h0,hl⟩ hS (ItemsOf.nil _) fun s2 acc c hm h2 hi=>?_⟩
 rw[Moved.eq_with hm]
 exact hR s2.heap s2.toks acc c (fun b o n1 n2 e=>hm.heap b o (by simp [n1,n2]) e) h2 hi
theorem f3u {Q : Value → Shared → Prop} {I l : Addr} {items : Array Value} (hh : A.handled = none) (hit : s.heap.IsRevIter I l ((items.size : Int) - 1)) (hl : s.heap.IsList l items) (nI : l ≠ I) (hn : items.size ≤ sizeLine)
    (hQ : ∀ h' tk acc c, (∀ b o, b ≠ I → s.heap.get? b = some o → h'.get? b = some o) → h'.get? s.heap.objs.size = some { cls := .type "list", data := .seq acc c } → ItemsOf (fun i v => items[items.size - 1 - i]? = some v) acc items.size → Q (.ref s.heap.objs.size) { s with heap := h', toks := tk }) :
    wpAny (model prog w) A (call (.type "list") [.ref I]) Q E s := by
  refine callType_codes (Q₁ := fun x s2 => x = .ref s.heap.objs.size ∧ s2 = { s with heap := s.heap.push { cls := .type "list", data := .seq #[] } }) F.called_list (F.typeCall_list_1 _) F.entry_list_init (code_list_new _ ⟨rfl, rfl⟩) fun x s2 hx => ?_
  obtain ⟨rfl, rfl⟩ := hx
  have up : ∀ b o, s.heap.get? b = some o → (s.heap.push { cls := .type "list", data := .seq #[] }).get? b = some o := fun b o e => Heap.get?_push_of_some _ e
  have hS : (s.heap.push { cls := .type "list", data := .seq #[] }).get? s.heap.objs.size = some { cls := .type "list", data := .seq #[] } := Heap.get?_push_size _ rfl
  have lI : I ≠ s.heap.objs.size := by
    obtain ⟨o, ho, _⟩ := hit
    exact a2q (Heap.lt_size ho)
  have lL : l ≠ s.heap.objs.size := by
    obtain ⟨o, ho, _⟩ := hl
    exact a2q (Heap.lt_size ho)
  refine ⟨⟨_, hS, rfl⟩, F.args_list_init_2 _ _, ?_⟩
  show wpAny _ A.in1.in1 (do let old ← Builtin.List.listItems (.ref s.heap.objs.size); Builtin.List.listUpdate (.ref s.heap.objs.size) (fun _ => #[]); letGo old.toList.reverse; Builtin.List.listExtendWith (.ref s.heap.objs.size) (.ref I) .none) _ _ _
  refine wpAny_bind ?_
  unfold Builtin.List.listItems
  refine wpAny_bind (wpAny_seqItems hS rfl (wpAny_pure ?_))
  refine wpAny_bind (m := Builtin.List.listUpdate (.ref s.heap.objs.size) (fun _ => #[])) (wpAny_updateSeq hS rfl ?_)
  have h3 := Heap.get?_update_self (Obj.mapSeq (fun _ => (#[] : Array Value))) hS rfl
  have o3 : ∀ b o, b ≠ s.heap.objs.size → (s.heap.push { cls := .type "list", data := .seq #[] }).get? b = some o → ((s.heap.push { cls := .type "list", data := .seq #[] }).update s.heap.objs.size (Obj.mapSeq (fun _ => (#[] : Array Value)))).get? b = some o := fun b o nb e => (Heap.get?_update_other _ _ (Ne.symm nb)).trans e
  refine wpAny_bind (wpAny_letGo ?_)
  refine f3w (A := A.in1) hh (hit.at fun o e => o3 _ _ lI (up _ _ e)) (hl.at fun o e => o3 _ _ lL (up _ _ e)) nI lI.symm lL.symm hn h3 fun h' tk acc c hk h2 hi => ?_
  exact ⟨rfl, hQ h' tk acc c (fun b o nb e => hk b o (a2q (Heap.lt_size e)) nb (o3 _ _ (a2q (Heap.lt_size e)) (up _ _ e))) h2 hi⟩
end
end L2
namespace L2
open PySem PySem.Spec PyProof.Rows Nm
section
variable {X:Cx}
def d3g (K:PySem.W.Frag) (ta:TA):TE:=fun σ H Q=>ta σ H fun vs H1=>∃l xs,vs=[.ref l]∧SqL K H1 l xs∧xs.length<=1000∧∀L H',a1w H1 H'->H1 L=none->H' L=some (.lst xs.reverse)->Q (.ref L) H'
theorem e0m:∀{xs:List V} {us:List Value},a6a xs us->a6a xs.reverse us.reverse
 | _,_,.nil=>.nil
 | _,_,.cons h r=>by
  rw[c8z,c8z]
  exact a6a.append (e0m r) (.cons h .nil)
theorem d2d (K:PySem.W.Frag) {e1:Expr} {ta:TA} {p p2 pos pos2:Pos} (hg:Gl X "list") (hm:X.mg "list"=none) (hg2:Gl X "reversed") (hm2:X.mg "reversed"=none) (ha:PA X [e1] ta) (hK:X.K=K:=by rfl) (hc:X.calm=true:=by rfl)
  (hs:starEach [e1] X.env=[(false,eval e1 X.env)]:=by rfl)
  (hs3:starEach [Expr.Call (.Name "reversed" p2) [e1] [] pos2] X.env=[(false,eval (.Call (.Name "reversed" p2) [e1] [] pos2) X.env)]:=by rfl) :
  PE X (.Call (.Name "list" p) [.Call (.Name "reversed" p2) [e1] [] pos2] [] pos) (d3g K ta):=by
 subst hK
 intro pins s σ H Q I h
 refine wpAny_Call_Name_kw (b7e I hg hm boot_list ?_)
 refine PyProof.Rows.callWith_type1 ?_ (by rw[hs3];rfl) rfl
 rw[hs3]
 show wpAny _ _ (spliced ((false,eval (.Call (.Name "reversed" p2) [e1] [] pos2) X.env) :: [])) _ _ s
 refine Calls.spliced_cons ?_
 refine Call_ (b7e I hg2 hm2 boot_reversed (PyProof.Rows.callWith_type1 (thn (ha pos2 pins s σ H _ I h) fun us s1 ⟨vs,H1,I1,r1,q1⟩=>?_) hs rfl))
 obtain ⟨l,xs,e,hl,hn,q⟩:=q1
 subst e
 obtain ⟨u,rfl,ru⟩:=vals1 r1
 cases ru
 obtain ⟨its,rv,pl,hz⟩:=I1.list hl
 have hlen:=rv.length
 have pI:=pl.isList
 refine call_reversed_list pI ?_
 refine Calls.spliced_nil ?_
 have kp:∀b o,s1.heap.get? b=some o->(s1.heap.push (revObj l ((its.toArray.size:Int) - 1))).get? b=some o:=fun b o e=>Heap.get?_push_of_some _ e
 have nI:l≠s1.heap.objs.size:=by
  obtain ⟨o,ho,_⟩:=pI
  exact a2q (Heap.lt_size ho)
 refine f3u (I.ok.hd hc) (I:=s1.heap.objs.size) (l:=l) (items:=its.toArray) ⟨_,Heap.get?_push_size _ rfl,rfl,rfl⟩ (pI.at fun o e=>kp _ _ e) nI (by rw[a1a];omega) fun h' tk acc c hk hS hacc=>?_
 have sz:s1.heap.objs.size<=(s1.heap.push (revObj l ((its.toArray.size:Int) - 1))).objs.size:=by rw[Heap.size_push];exact c3t _
 have nS:=I1.hok.fresh sz
 have ea:acc.toList=its.reverse:=by
  apply e8z
  intro j
  rcases a2x j its.length with z | z
  ·have hj:j < acc.toList.length:=by rw[Array.length_toList,hacc.1,a1a];exact z
   have:=hacc.2 j acc.toList[j] (by rw[← Array.getElem?_toList];exact a0c hj)
   rw[a0c hj,List.getElem?_reverse z]
   simpa using this.symm
  ·rw[a1d (by rw[Array.length_toList,hacc.1,a1a];exact z),a1d (by rw[b4t];exact z)]
 have vs':a6a xs.reverse acc.toList:=by rw[ea];exact e0m rv
 have sl:xs.reverse.length<=sizeLine:=by rw[b4t];exact hz
 refine ⟨.ref _,_,I1.laid (o:=.lst xs.reverse) (fun b o e=>hk b o (a2q (Heap.lt_size e)) (kp b o e)) sz ?_,rfl,q _ _ (a1w.new nS) nS a0y⟩
 exact ⟨sl,acc.toList,c,vs',by simpa using hS⟩
end
end L2
namespace L2
open PySem PySem.Spec PyProof.Rows Nm
theorem e1j {F G:List Vec->Rat} {r:Nat} {g:Nat->Rat} {c:Rat} (hF:∀ws:List Vec,F (ws.map fun v i=>g i*v i)=c*G ws):∀(post pre:List Vec) (s:Rat),lpD F r (pre.map fun v i=>g i*v i) (post.map fun v i=>g i*v i) s=g r*c*lpD G r pre post s
 | [],_,_=>by show (0:Rat)=_*0;grind
 | v :: post,pre,s=>by
  have i1:=hF (pre++post)
  have i2:=e1j (r:=r) hF post (pre++[v]) (-s)
  simp only[a3y,a6y,f1z,lpD] at i1 i2 ⊢
  rw[i1,i2]
  grind
theorem c8n {g : Nat → Rat} : ∀ (rs : List Nat) (vs : List Vec), dtD rs (vs.map fun v i => g i * v i) = (rs.map g).foldr (· * ·) 1 * dtD rs vs
  | [], [] => by show (1 : Rat) = 1 * 1; grind
  | [], _ :: _ => by show (0 : Rat) = 1 * 0; grind
  | r :: rs, vs => by
    have := e1j (r := r) (F := fun ws => dtD rs ws) (G := fun ws => dtD rs ws) (c := (rs.map g).foldr (· * ·) 1) (fun ws => c8n rs ws) vs [] 1
    exact this
theorem d9d {g:Nat->Rat}:∀{rs:List Nat},(∀r∈rs,g r≠0)->(rs.map g).foldr (·*·) 1≠0
 | [],_=>by show (1:Rat)≠0;decide
 | r :: rs,h=>by
  show g r*_≠0
  have h1:=h r (.head _)
  have h2:=d9d fun r' hr'=>h r' (.tail _ hr')
  intro z
  rcases b6h.mp z with z | z
  ·exact h1 z
  ·exact h2 z
section
variable {rows R X K0:List (List Rat)} {due L:List Rat} {n m M W D E W0 W1:Nat} {ps:List Nat}
theorem d7m (hw:∀xs∈rows,xs.length=n) (hW:1<=W) (h0:0 < M) (h3:∀xs∈rows,∀x∈xs,Tp M W x) (RR:a2u rows n R ps):∃pm:Nat->Nat,(∀i j,i < ps.length->j < ps.length->pm i=pm j->i=j)∧(∀t,t < ps.length->pm t < rows.length)∧ps.length<=rows.length∧dtD (rlN pm ps.length) (cwN (fun j i=>fnQ rows i (ps.getD j 0)) ps.length)≠0:=by
 have ent:=e4q h0 h3
 obtain ⟨ls,ps2,d,I⟩:=c4b hw hW (by rw[a0e];exact ent) n (a0h _)
 obtain ⟨_,_,⟨pm,B⟩,E⟩:=I
 rw[a0e] at B E
 have RF:Rrf rows.length n (fnQ rows) ps2.length (fun j=>ps2.getD j 0) (fun i c=>fnZ ls i c / d):=Rrf.other (E.done fun i hi c hc=>c9z (n:=n) (fun zs hz=>by
  obtain ⟨xs,hx,rfl⟩:=a0t.mp hz
  rw[c0s]
  exact hw xs hx) hc) d3d d3e
 obtain ⟨e1,e2,e3⟩:=RF.uniq RR.2.2 (fun _ hi=>Spn.row hi) (fun _ hi=>Spn.row hi)
 have km:=B.km
 have dt:=B.det
 have d0:=B.d0
 have e4:dtD (rlN pm ps2.length) ([]++cwN (fun j r=>fnZ (rows.map c2w) r (ps2.getD j 0)) ps2.length)=dtD (rlN pm ps2.length) ([]++cwN (fun j i=>f5y rows i*fnQ rows i (ps.getD j 0)) ps2.length):=e1w [] fun j hj r hr=>by
  obtain ⟨t,ht,rfl⟩:=b6z hr
  rw[d8k (B.rng t (by omega)),e2 j hj]
  rfl
 have e5:cwN (fun j i=>f5y rows i*fnQ rows i (ps.getD j 0)) ps2.length=(cwN (fun j i=>fnQ rows i (ps.getD j 0)) ps2.length).map fun v i=>f5y rows i*v i:=(cw_map (τ:=fun v i=>f5y rows i*v i)).symm
 refine ⟨pm,fun i j hi hj e=>B.inj i j (by omega) (by omega) e,fun t ht=>B.rng t (by omega),by omega,?_⟩
 rw[← e1]
 intro z
 apply d0
 rw[dt]
 have e4:dtD (rlN pm ps2.length) (cwN (fun j r=>fnZ (rows.map c2w) r (ps2.getD j 0)) ps2.length)=dtD (rlN pm ps2.length) (cwN (fun j i=>f5y rows i*fnQ rows i (ps.getD j 0)) ps2.length):=e4
 rw[e4,e5,c8n,z,a6b]
theorem f7p (hd:due.length=X.length) (hw:∀xs∈X,xs.length=n) (RR:a2u (a5d X due) (n+1) R ps) (hn:n∉ps) {i:Nat} (hi:i < X.length):due.getD i 0=a3n ps.length fun j=>fnQ R j n*fnQ X i (ps.getD j 0):=by
 obtain ⟨j1,j2⟩:=d7e hd hw hi
 have sp:=RR.2.2.span i (by rw[c2o hd];exact hi)
 have:=RR.2.2.coef sp n
 rw[← j2,this]
 refine a1c fun j hj=>?_
 have lo:=RR.2.2.low j hj
 have ne:ps.getD j 0≠n:=fun z=>hn (by rw[← z];exact getD_in hj)
 rw[j1 _ (by omega)]
 exact a4l _ _
theorem e5s (RR:a2u X (n+1) R ps) {y:Rat} (hy:y∈b9j R ps n):y=0∨∃j,j < ps.length∧y=fnQ R j n:=by
 obtain ⟨c,hc,rfl⟩:=a2c hy
 have lc:(b9j R ps n).length=n:=b6o
 have e:(b9j R ps n)[c]=(b9j R ps n).getD c 0:=by rw[a0a,a0c hc];rfl
 rw[e]
 by_cases hp:c∈ps
 ·obtain ⟨j,hj,ej⟩:=a2c hp
  right
  refine ⟨j,hj,?_⟩
  have ej':ps.getD j 0=c:=by rw[a0a,a0c hj];exact ej
  have:=f3r (R:=R) (ps:=ps) (n:=n) (j:=ps.length) (c:=c) (by omega)
  unfold b9j
  rw[this,a7l hj fun i hi ne=>if_neg fun z=>?_,if_pos ej']
  rcases a2x i j with y | y
  ·have:=RR.2.2.inc i j y hj
   omega
  ·have:=RR.2.2.inc j i (by omega) hi
   omega
 ·exact .inl (f3q hp)
theorem e7y {N Wx:Nat} {rs:List Nat} {vs:List Vec} (hl:vs.length<=N) (h:∀v∈vs,∀r∈rs,Fr 1 Wx (v r)):∃z:Int,dtD rs vs=(z:Rat)∧z.natAbs<=(N*Wx)^rs.length:=by
 have f:=d9t hl h
 obtain ⟨z,ez⟩:=d4q f
 rw[ez] at f
 exact ⟨z,ez,d2w f⟩
theorem f7o (hK:∀xs∈K0,xs.length=n) (hL:L.length=n) (n15:n<=15) (D0:0 < D) (E0:0 < E) (w0:1<=W0) (w1:1<=W1) (tk:∀xs∈K0,∀x∈xs,Tp D W0 x) (tl:∀x∈L,Tp E W1 x) (RR:a2u (a5d (a2s K0 n) L) (K0.length+1) R ps) (hn:K0.length∉ps) :
  ∃q:Nat,0 < q∧q<=(16*W0)^n∧∀y∈b9j R ps K0.length,Tp (E*q) (D*(n*(W1*(16*W0)^n))) y:=by
 have lt:(a2s K0 n).length=n:=a3b
 have wt:∀xs∈a2s K0 n,xs.length=K0.length:=b4e
 have hd:L.length=(a2s K0 n).length:=by rw[lt];exact hL
 have tfn:∀i,i < n->∀j,fnQ (a2s K0 n) i j=fnQ K0 j i:=fun i hi j=>by
  unfold fnQ
  rw[a0a (l:=a2s K0 n),d3f hi]
  show (K0.map fun xs=>xs.getD i 0).getD j 0=_
  rw[a0a,a0x,a0a (l:=K0)]
  cases K0[j]? with
  | none=>show (0:Rat)=([]:List Rat).getD i 0;rw[a0a];rfl
  | some xs=>rfl
 have tkf:∀j i,Tp D W0 (fnQ K0 j i):=fun j i=>by
  unfold fnQ
  rw[a0a (l:=K0)]
  by_cases hj:j < K0.length
  ·rw[a0c hj]
   exact b5y (tk _ (a0z hj)) i
  ·rw[a1d (by omega)]
   show Tp D W0 (([]:List Rat).getD i 0)
   exact b5y (by intro x z;cases z) i
 have tlf:∀i,Tp E W1 (L.getD i 0):=fun i=>b5y tl i
 have tj:∀xs∈a5d (a2s K0 n) L,∀x∈xs,Tp (D*E) (W0*E+W1*D) x:=d4r fun i hi c=>by
  rw[c2o hd,lt] at hi
  obtain ⟨j1,j2⟩:=d7e hd wt (by rw[lt];exact hi)
  by_cases hc:c < K0.length
  ·rw[j1 c hc,tfn i hi]
   obtain ⟨z,e,b⟩:=tkf c i
   exact ⟨z*E,by rw[a5m,a1b,← e,a0v];grind,by rw[a3t,a2m];exact a0d (a0n _ b) (d1s _ _)⟩
  ·by_cases hc2:c=K0.length
   ·rw[hc2,j2]
    obtain ⟨z,e,b⟩:=tlf i
    exact ⟨z*D,by rw[a5m,a1b,← e,a0v];grind,by rw[a3t,a2m];exact a0d (a0n _ b) (Nat.le_add_left _ _)⟩
   ·rw[e1r (c9v wt) (by omega)]
    exact ⟨0,by rw[b1p];rfl,a1f _⟩
 obtain ⟨pm,pinj,plt,kn,dne⟩:=d7m (c9v wt) (W:=W0*E+W1*D) (a0d (a7k w0 E0) (d1s _ _)) (a7k D0 E0) tj RR
 rw[c2o hd,lt] at plt kn
 have pl:∀j,j < ps.length->ps.getD j 0 < K0.length:=fun j hj=>by
  have lo:=RR.2.2.low j hj
  have ne:ps.getD j 0≠K0.length:=fun z=>hn (by rw[← z];exact getD_in hj)
  omega
 have Dne:(D:Rat)≠0:=fun z=>by
  have:((D:Int):Rat)=0:=by rw[a0v];exact z
  have:=c8f this
  omega
 have Ene:(E:Rat)≠0:=fun z=>by
  have:((E:Int):Rat)=0:=by rw[a0v];exact z
  have:=c8f this
  omega
 have rlt:∀r∈rlN pm ps.length,r < n:=fun r hr=>by
  obtain ⟨t,ht,rfl⟩:=b6z hr
  exact plt t ht
 obtain ⟨v,ev⟩:∃v:Nat->Vec,v=fun j i=>(D:Rat)*fnQ K0 (ps.getD j 0) i:=⟨_,rfl⟩
 have vint:∀j r,Fr 1 W0 (v j r):=fun j r=>by
  obtain ⟨z,e,b⟩:=tkf (ps.getD j 0) r
  rw[ev]
  show Fr 1 W0 ((D:Rat)*_)
  rw[a4l,e]
  exact Fr.int b
 have den:dtD (rlN pm ps.length) (cwN v ps.length)≠0:=by
  have e1:dtD (rlN pm ps.length) ([]++cwN v ps.length)=dtD (rlN pm ps.length) ([]++cwN (fun j i=>(D:Rat)*fnQ (a5d (a2s K0 n) L) i (ps.getD j 0)) ps.length):=e1w [] fun j hj r hr=>by
   have hr:=rlt r hr
   obtain ⟨j1,_⟩:=d7e hd wt (i:=r) (by rw[lt];exact hr)
   rw[j1 _ (pl j hj),tfn r hr,ev]
  have e2:cwN (fun j i=>(D:Rat)*fnQ (a5d (a2s K0 n) L) i (ps.getD j 0)) ps.length=(cwN (fun j i=>fnQ (a5d (a2s K0 n) L) i (ps.getD j 0)) ps.length).map fun v i=>(fun _=>(D:Rat)) i*v i:=(cw_map (τ:=fun v i=>(D:Rat)*v i)).symm
  have e1:dtD (rlN pm ps.length) (cwN v ps.length)=dtD (rlN pm ps.length) (cwN (fun j i=>(D:Rat)*fnQ (a5d (a2s K0 n) L) i (ps.getD j 0)) ps.length):=e1
  rw[e1,e2,c8n]
  intro z
  rcases b6h.mp z with z | z
  ·exact d9d (g:=fun _=>(D:Rat)) (fun _ _=>Dne) z
  ·exact dne z
 obtain ⟨q,eq,bq⟩:=e7y (N:=16) (Wx:=W0) (rs:=rlN pm ps.length) (vs:=cwN v ps.length) (by rw[cw_len];omega) fun w hw r _=>by
  obtain ⟨t,_,rfl⟩:=cw_in hw
  exact vint t r
 rw[c4g] at bq
 have up:(16*W0)^ps.length<=(16*W0)^n:=a0f (by omega) kn
 have q0:q≠0:=fun z=>den (by rw[eq,z];rfl)
 refine ⟨q.natAbs,by omega,a0d bq up,fun y hy=>?_⟩
 rcases e5s RR hy with rfl | ⟨i,hi,rfl⟩
 ·exact ⟨0,by rw[b1p];rfl,a1f _⟩
 ·have hW:∀r∈rlN pm ps.length,(E:Rat)*L.getD r 0=a3n ps.length fun j=>((E:Rat)*fnQ R j K0.length / D)*v j r:=fun r hr=>by
   have hr:=rlt r hr
   rw[f7p hd wt RR hn (i:=r) (by rw[lt];exact hr),← a3w]
   refine a1c fun j hj=>?_
   rw[tfn r hr,ev]
   dsimp only
   grind
  have cr:=c4x (v:=v) (c:=fun j=>(E:Rat)*fnQ R j K0.length / D) (W:=fun r=>(E:Rat)*L.getD r 0) hi hW
  have ex:dtD (rlN pm ps.length) (cvN v i ps.length++(fun r=>(E:Rat)*L.getD r 0) :: cwN v i)=a3n ps.length fun t=>((E:Rat)*L.getD (pm t) 0)*dtD (rlN pm ps.length) (cvN v i ps.length++(fun r=>if r=pm t then 1 else 0) :: cwN v i):=e1u (W:=fun _=>0) (v:=fun t r=>if r=pm t then 1 else 0) (c:=fun t=>(E:Rat)*L.getD (pm t) 0) _ _ (fun r hr=>by
   obtain ⟨t,ht,rfl⟩:=b6z hr
   rw[a7l ht fun j hj ne=>by rw[if_neg fun z=>ne (pinj j t hj ht z.symm),a6b],if_pos rfl,Rat.mul_one])
  have hlen:∀x:Vec,(cvN v i ps.length++x :: cwN v i).length<=16:=fun x=>by
   have:=congrArg List.length (cw_split (v:=v) hi)
   rw[a0i,a1n,cw_len] at this
   rw[a0i,a1n]
   omega
  have nf:Fr 1 (n*(W1*(16*W0)^n)) (dtD (rlN pm ps.length) (cvN v i ps.length++(fun r=>(E:Rat)*L.getD r 0) :: cwN v i)):=by
   rw[ex]
   refine (f2n (V:=W1*(16*W0)^n) fun t ht=>?_).mono (a0n _ kn)
   obtain ⟨z,e,b⟩:=tlf (pm t)
   have f1:Fr 1 W1 ((E:Rat)*L.getD (pm t) 0):=by
    rw[a4l,e]
    exact Fr.int b
   have f2:=d9t (W:=W0) (N:=16) (rs:=rlN pm ps.length) (hlen fun r=>if r=pm t then 1 else 0) fun w hw r _=>by
    rcases a0w.mp hw with hw | hw
    ·obtain ⟨s,_,rfl⟩:=e3y hw
     exact vint s r
    ·rcases a0u.mp hw with rfl | hw
     ·dsimp only
      split
      ·exact Fr.one w0
      ·exact Fr.zero
     ·obtain ⟨s,_,rfl⟩:=cw_in hw
      exact vint s r
   rw[c4g] at f2
   have:=f1.mul f2
   rw[Nat.one_mul] at this
   exact this.mono (a3x _ up)
  obtain ⟨z,ez⟩:=d4q nf
  rw[ez] at nf cr
  have bz:=d2w nf
  rw[eq] at cr
  have key:fnQ R i K0.length*((E:Rat)*(q:Rat))=(D:Rat)*(z:Rat):=by
   rw[cr]
   grind
  have kq:(((E*q.natAbs:Nat):Rat))=(E:Rat)*((q.natAbs:Nat):Rat):=a5m ..
  rcases e4j q with h | h
  ·have hq:((q.natAbs:Nat):Rat)=(q:Rat):=by rw[← a0v,← h]
   refine ⟨D*z,?_,by rw[a3t,a2m];exact a3x _ bz⟩
   rw[kq,hq,key,a1b,a0v]
  ·have hq:((q.natAbs:Nat):Rat)=-(q:Rat):=by rw[← a0v,← a3q];congr 1;omega
   refine ⟨-(D*z),?_,by rw[b4d,a3t,a2m];exact a3x _ bz⟩
   rw[kq,hq,a3q,a1b,a0v,← key]
   grind
theorem f2g {pm w : Nat → Nat} {X Y s : Nat} (hX : 1 ≤ X) (hY : 1 ≤ Y) (h1 : ∀ r, r ≠ s → w r ≤ X) (h2 : w s ≤ Y) : ∀ k, (∀ i j, i < k → j < k → pm i = pm j → i = j) → ((∃ t, t < k ∧ pm t = s) → ((rlN pm k).map w).foldr (· * ·) 1 ≤ X ^ k * Y) ∧ ((∀ t, t < k → pm t ≠ s) → ((rlN pm k).map w).foldr (· * ·) 1 ≤ X ^ k)
  | 0, _ => ⟨fun ⟨t, h, _⟩ => absurd h (a6h _), fun _ => a0h _⟩
  | k + 1, inj => by
    obtain ⟨i1, i2⟩ := f2g (pm := pm) (w := w) hX hY h1 h2 k fun i j hi hj => inj i j (by omega) (by omega)
    have mul : ((rlN pm (k + 1)).map w).foldr (· * ·) 1 = w (pm k) * ((rlN pm k).map w).foldr (· * ·) 1 := rfl
    refine ⟨fun ⟨t, ht, et⟩ => ?_, fun h => ?_⟩
    · rw [mul]
      by_cases e : pm k = s
      · have := i2 fun t' ht' z => by
          have := inj t' k (by omega) (by omega) (z.trans e.symm)
          omega
        rw [e]
        calc w s * _ ≤ Y * X ^ k := a2a h2 this
          _ = X ^ k * Y := a3d _ _
          _ ≤ X ^ (k + 1) * Y := a0n _ (a0f hX (c3t _))
      · have := i1 ⟨t, by rcases a2x t k with z | z; exact z; exact absurd (by rw [show k = t by omega]; exact et) e, et⟩
        calc w (pm k) * _ ≤ X * (X ^ k * Y) := a2a (h1 _ e) this
          _ = X ^ (k + 1) * Y := by rw [b1q, ← a6x, a3d X]
    · rw [mul, b1q, a3d (X ^ k)]
      exact a2a (h1 _ (h k (by omega))) (i2 fun t ht => h t (by omega))
theorem f3z {pm w:Nat->Nat} {X Y s:Nat} (hX:1<=X) (hY:1<=Y) (h1:∀r,r≠s->w r<=X) (h2:w s<=Y) {k n:Nat} (hk:k<=n) (inj:∀i j,i < k->j < k->pm i=pm j->i=j):((rlN pm k).map w).foldr (·*·) 1<=X^n*Y:=by
 obtain ⟨a,b⟩:=f2g (pm:=pm) (w:=w) hX hY h1 h2 k inj
 have up:X^k<=X^n:=a0f hX hk
 by_cases e:∃t,t < k∧pm t=s
 ·exact a0d (a e) (a0n _ up)
 ·exact a0d (b fun t ht z=>e ⟨t,ht,z⟩) (a0d up (a4o _ hY))
theorem f0m (hK:∀xs∈K0,xs.length=n) (hL:L.length=n) (n15:n<=15) (D0:0 < D) (E0:0 < E) (w0:1<=W0) (tk:∀xs∈K0,∀x∈xs,Tp D W0 x) (tl:∀x∈L,Tp E W1 x) (RR:a2u (a5d (K0++[L]) (List.replicate K0.length 0++[1])) (n+1) R ps) (hn:n∉ps) :
  ∃q:Nat,0 < q∧q<=(16*W0)^n*(16*(W1+E))∧∀y∈b9j R ps n,Tp q ((16*W0)^n*(16*(W1+E))) y:=by
 have hw:∀xs∈K0++[L],xs.length=n:=fun xs hx=>by
  rcases a0w.mp hx with hx | hx
  ·exact hK xs hx
  ·rw[a4p.mp hx];exact hL
 have hd:(List.replicate K0.length (0:Rat)++[1]).length=(K0++[L]).length:=by simp
 have lX:(K0++[L]).length=K0.length+1:=by simp
 have due:∀i,i < K0.length+1->(List.replicate K0.length (0:Rat)++[1]).getD i 0=if i=K0.length then 1 else 0:=fun i hi=>by
  rw[a0a]
  by_cases e:i=K0.length
  ·rw[a1e (by simp;omega),if_pos e]
   simp [e]
  ·rw[a1p (by simp;omega),if_neg e,a3h,if_pos (by omega)]
   rfl
 have tX:∀i c,Tp (if i=K0.length then E else D) (if i=K0.length then W1 else W0) (fnQ (K0++[L]) i c):=fun i c=>by
  by_cases e:i=K0.length
  ·rw[if_pos e,if_pos e,e]
   have:=g0v (X:=K0) (Y:=[L]) (i:=0)
   rw[Nat.add_zero] at this
   rw[this]
   exact b5y tl c
  ·rw[if_neg e,if_neg e]
   by_cases h:i < K0.length
   ·rw[g0m h]
    unfold fnQ
    rw[a0a (l:=K0),a0c h]
    exact b5y (tk _ (a0z h)) c
   ·unfold fnQ
    rw[a0a (l:=K0++[L]),a1d (by rw[lX];omega)]
    exact b5y (by intro x z;cases z) c
 have tj:∀xs∈a5d (K0++[L]) (List.replicate K0.length 0++[1]),∀x∈xs,Tp (D*E) (W0*E+W1*D+D*E) x:=d4r fun i hi c=>by
  rw[c2o hd] at hi
  obtain ⟨j1,j2⟩:=d7e hd hw hi
  by_cases hc:c < n
  ·rw[j1 c hc]
   obtain ⟨z,e,b⟩:=tX i c
   by_cases h:i=K0.length
   ·rw[if_pos h] at e b
    exact ⟨z*D,by rw[a5m,a1b,← e,a0v];grind,by rw[a3t,a2m];have:=a0n D b;omega⟩
   ·rw[if_neg h] at e b
    exact ⟨z*E,by rw[a5m,a1b,← e,a0v];grind,by rw[a3t,a2m];have:=a0n E b;omega⟩
  ·by_cases hc2:c=n
   ·rw[hc2,j2,due i (by omega)]
    split
    ·exact ⟨(D*E:Nat),by rw[Rat.one_mul,a0v],by rw[a2m];omega⟩
    ·exact ⟨0,by rw[b1p];rfl,a1f _⟩
   ·rw[e1r (c9v hw) (by omega)]
    exact ⟨0,by rw[b1p];rfl,a1f _⟩
 obtain ⟨pm,pinj,plt,_,dne⟩:=d7m (c9v hw) (W:=W0*E+W1*D+D*E) (by have:=a7k D0 E0;omega) (a7k D0 E0) tj RR
 rw[c2o hd,lX] at plt
 have pl:∀j,j < ps.length->ps.getD j 0 < n:=fun j hj=>by
  have lo:=RR.2.2.low j hj
  have ne:ps.getD j 0≠n:=fun z=>hn (by rw[← z];exact getD_in hj)
  omega
 have kn:ps.length<=n:=by
  have inc:∀j,j < ps.length->j<=ps.getD j 0:=by
   intro j
   induction j with
   | zero=>intro _;exact a1f _
   | succ j ih =>
    intro hj
    have:=ih (by omega)
    have:=RR.2.2.inc j (j+1) (by omega) hj
    omega
  rcases b6j ps.length with z | z
  ·omega
  ·have:=inc (ps.length - 1) (by omega)
   have:=pl (ps.length - 1) (by omega)
   omega
 obtain ⟨g,eg⟩:∃g:Nat->Rat,g=fun i=>((if i=K0.length then E else D:Nat):Rat):=⟨_,rfl⟩
 have gne:∀i,g i≠0:=fun i z=>by
  rw[eg] at z
  have z:(((if i=K0.length then E else D:Nat):Int):Rat)=0:=by rw[a0v];exact z
  have:=c8f z
  split at this <;> omega
 have rlt:∀r∈rlN pm ps.length,r < K0.length+1:=fun r hr=>by
  obtain ⟨t,ht,rfl⟩:=b6z hr
  exact plt t ht
 obtain ⟨v,ev⟩:∃v:Nat->Vec,v=fun j i=>g i*fnQ (K0++[L]) i (ps.getD j 0):=⟨_,rfl⟩
 obtain ⟨wt,ew⟩:∃wt:Nat->Nat,wt=fun i=>if i=K0.length then W1+E else W0:=⟨_,rfl⟩
 have vint:∀j r,Fr 1 (wt r) (v j r):=fun j r=>by
  obtain ⟨z,e,b⟩:=tX r (ps.getD j 0)
  rw[ev,eg,ew]
  show Fr 1 _ (_*_)
  rw[a4l,e]
  refine (Fr.int b).mono ?_
  dsimp only
  split <;> omega
 have bnd:∀{vs:List Vec},vs.length<=16->(∀w∈vs,∀r∈rlN pm ps.length,Fr 1 (wt r) (w r))->∃z:Int,dtD (rlN pm ps.length) vs=(z:Rat)∧z.natAbs<=(16*W0)^n*(16*(W1+E)):=fun {vs} hl h=>by
  have f:=f2s hl h
  obtain ⟨z,ez⟩:=d4q f
  rw[ez] at f
  refine ⟨z,ez,a0d (d2w f) (f3z (s:=K0.length) (by omega) (by omega) (fun r hr=>?_) ?_ kn pinj)⟩
  ·rw[ew];dsimp only;rw[if_neg hr];exact a0h _
  ·rw[ew];dsimp only;rw[if_pos rfl];exact a0h _
 have den:dtD (rlN pm ps.length) (cwN v ps.length)≠0:=by
  have e1:dtD (rlN pm ps.length) ([]++cwN v ps.length)=dtD (rlN pm ps.length) ([]++cwN (fun j i=>g i*fnQ (a5d (K0++[L]) (List.replicate K0.length 0++[1])) i (ps.getD j 0)) ps.length):=e1w [] fun j hj r hr=>by
   have hr:=rlt r hr
   obtain ⟨j1,_⟩:=d7e hd hw (i:=r) (by rw[lX];exact hr)
   rw[j1 _ (pl j hj),ev]
  have e2:cwN (fun j i=>g i*fnQ (a5d (K0++[L]) (List.replicate K0.length 0++[1])) i (ps.getD j 0)) ps.length=(cwN (fun j i=>fnQ (a5d (K0++[L]) (List.replicate K0.length 0++[1])) i (ps.getD j 0)) ps.length).map fun v i=>g i*v i:=(cw_map (τ:=fun v i=>g i*v i)).symm
  have e1:dtD (rlN pm ps.length) (cwN v ps.length)=dtD (rlN pm ps.length) (cwN (fun j i=>g i*fnQ (a5d (K0++[L]) (List.replicate K0.length 0++[1])) i (ps.getD j 0)) ps.length):=e1
  rw[e1,e2,c8n]
  intro z
  rcases b6h.mp z with z | z
  ·exact d9d (fun r _=>gne r) z
  ·exact dne z
 obtain ⟨q,eq,bq⟩:=bnd (vs:=cwN v ps.length) (by rw[cw_len];omega) fun w hw r _=>by
  obtain ⟨t,_,rfl⟩:=cw_in hw
  exact vint t r
 have q0:q≠0:=fun z=>den (by rw[eq,z];rfl)
 refine ⟨q.natAbs,by omega,bq,fun y hy=>?_⟩
 rcases e5s RR hy with rfl | ⟨i,hi,rfl⟩
 ·exact ⟨0,by rw[b1p];rfl,a1f _⟩
 ·have hW:∀r∈rlN pm ps.length,g r*(if r=K0.length then 1 else 0)=a3n ps.length fun j=>fnQ R j n*v j r:=fun r hr=>by
   have hr:=rlt r hr
   rw[← due r hr,f7p hd hw RR hn (i:=r) (by rw[lX];exact hr),← a3w]
   refine a1c fun j hj=>?_
   rw[ev]
   dsimp only
   grind
  have cr:=c4x (v:=v) (c:=fun j=>fnQ R j n) (W:=fun r=>g r*(if r=K0.length then 1 else 0)) hi hW
  obtain ⟨z,ez,bz⟩:=bnd (vs:=cvN v i ps.length++(fun r=>g r*(if r=K0.length then 1 else 0)) :: cwN v i) (by
   have:=congrArg List.length (cw_split (v:=v) hi)
   rw[a0i,a1n,cw_len] at this
   rw[a0i,a1n]
   omega) fun w hw r _=>by
    rcases a0w.mp hw with hw | hw
    ·obtain ⟨s,_,rfl⟩:=e3y hw
     exact vint s r
    ·rcases a0u.mp hw with rfl | hw
     ·dsimp only
      by_cases e:r=K0.length
      ·rw[if_pos e,Rat.mul_one,eg,ew]
       dsimp only
       rw[if_pos e,if_pos e,← a0v]
       exact Fr.int (by rw[a2m];omega)
      ·rw[if_neg e,a6b]
       exact Fr.zero
     ·obtain ⟨s,_,rfl⟩:=cw_in hw
      exact vint s r
  rw[ez,eq] at cr
  have key:fnQ R i n*(q:Rat)=(z:Rat):=cr.symm
  rcases e4j q with h | h
  ·have hq:((q.natAbs:Nat):Rat)=(q:Rat):=by rw[← a0v,← h]
   exact ⟨z,by rw[hq,key],bz⟩
  ·have hq:((q.natAbs:Nat):Rat)=-(q:Rat):=by rw[← a0v,← a3q];congr 1;omega
   exact ⟨-z,by rw[hq,a3q,← key];grind,by rw[b4d];exact bz⟩
end
end L2
namespace L2
open PySem PySem.Spec PyProof.Rows Nm
def c3r (mv:List (List Rat)):Nat->List Rat->List Rat
 | 0,x=>x
 | t+1,x=>onQ mv (c3r mv t x)
section
variable {mv pt lk pus:List (List Rat)} {st pu go:List Rat} {n t T c:Nat}
theorem c2y (h:st.length=mv.length):∀t,(c3r mv t st).length=mv.length
 | 0=>h
 | _+1=>c9k
theorem e1q {x y:List Rat} (h:x.length=y.length) (e:∀c,c < x.length->x.getD c 0=y.getD c 0):x=y:=by
 apply a4i h
 intro c h1 h2
 have:=e c h1
 rwa [a0a,a0a,a0c h1,a0c h2] at this
theorem f8x (wm:∀xs∈mv,xs.length=mv.length) (h:st.length=mv.length) (hc:c < mv.length):(onQ mv st).getD c 0=a3n mv.length fun j=>fnQ mv c j*st.getD j 0:=by
 have e:(onQ mv st).getD c 0=b4j mv[c] st:=by
  unfold onQ
  rw[a0a,a0x,a0c hc]
  rfl
 have wc:=wm _ (a0z hc)
 rw[e,a5p (by omega),wc]
 refine a1c fun j _=>?_
 unfold fnQ
 rw[a0a (l:=mv),a0c hc]
 rfl
theorem f0r (D:c8x mv pt lk) (h:st.length=mv.length) (hp:pu.length=pt.length) (hc:c < mv.length):(b7b mv pt st pu).getD c 0=a3n mv.length (fun j=>fnQ mv c j*st.getD j 0)+a3n pt.length fun i=>pu.getD i 0*fnQ pt i c:=by
 have wc:=D.mw _ (a0z hc)
 have e:(b7b mv pt st pu).getD c 0=b4j (mv[c]++pt.map fun xs=>xs.getD c 0) (st++pu):=by
  unfold b7b
  rw[a0a,a3z,a0c hc,d3f hc]
  rfl
 rw[e,f1m (by omega),a5p (by omega),a5p (by rw[a0e];omega),wc,a0e]
 congr 1
 ·refine a1c fun j _=>?_
  unfold fnQ
  rw[a0a (l:=mv),a0c hc]
  rfl
 ·refine a1c fun i hi=>?_
  rw[a4l]
  congr 1
  unfold fnQ
  rw[a0a,a0x,a0a (l:=pt),a0c hi]
  rfl
theorem c6u:∀t,(kry mv pt t).length=t*pt.length
 | 0=>by rw[Nat.zero_mul];rfl
 | t+1=>by
  show (pt++(kry mv pt t).map (onQ mv)).length=_
  rw[a0i,a0e,c6u t,a4d,b9m]
theorem d8p (D:c8x mv pt lk) (ls:st.length=mv.length):∀k,k<=pus.length->(∀xs∈pus,xs.length=pt.length)->∀c,c < mv.length->(stQ mv pt st pus k).getD c 0=(c3r mv k st).getD c 0+a3n (kry mv pt k).length fun i=>((pus.take k).reverse.flatten).getD i 0*fnQ (kry mv pt k) i c:=by
 intro k
 induction k with
 | zero =>
  intro _ _ c _
  show st.getD c 0=st.getD c 0+0
  grind
 | succ k ih =>
  intro hk hp c hc
  have hk':k < pus.length:=hk
  have e:=a0c hk'
  have hl:=hp _ (a0z hk')
  have ls':=d3n (pt:=pt) (pus:=pus) ls (k:=k) (by omega)
  have lf:((pus.take k).reverse.flatten).length=(kry mv pt k).length:=by
   rw[c6u,e1s (i:=pt.length) fun xs hx=>hp xs (a3k (d1t.mp hx)),b4t,a4h,b6i (by omega)]
  rw[d3m e,f0r D ls' hl hc]
  have er:(pus.take (k+1)).reverse.flatten=pus[k]++(pus.take k).reverse.flatten:=by
   rw[take_snoc e,List.reverse_append]
   simp
  have ek:kry mv pt (k+1)=pt++(kry mv pt k).map (onQ mv):=rfl
  rw[er,ek,a0i,a0e,c9c]
  have p1:(a3n pt.length fun i=>(pus[k]++(pus.take k).reverse.flatten).getD i 0*fnQ (pt++(kry mv pt k).map (onQ mv)) i c)=a3n pt.length fun i=>pus[k].getD i 0*fnQ pt i c:=a1c fun i hi=>by
   rw[g0m hi,a0a,a1p (by omega),a0a]
  have p2:(a3n (kry mv pt k).length fun i=>(pus[k]++(pus.take k).reverse.flatten).getD (pt.length+i) 0*fnQ (pt++(kry mv pt k).map (onQ mv)) (pt.length+i) c)=a3n mv.length fun j=>fnQ mv c j*a3n (kry mv pt k).length fun i=>((pus.take k).reverse.flatten).getD i 0*fnQ (kry mv pt k) i j:=by
   have q1:∀i,i < (kry mv pt k).length->(pus[k]++(pus.take k).reverse.flatten).getD (pt.length+i) 0*fnQ (pt++(kry mv pt k).map (onQ mv)) (pt.length+i) c=a3n mv.length fun j=>fnQ mv c j*(((pus.take k).reverse.flatten).getD i 0*fnQ (kry mv pt k) i j):=fun i hi=>by
    rw[g0v,f5d rfl D.mw (a6u rfl D.pw k) hi,a0a,a1e (by omega),hl,Nat.add_sub_cancel_left,← a0a,← a3w]
    exact a1c fun j _=>by grind
   rw[a1c q1,a8j]
   exact a1c fun j _=>a3w
  rw[p1,p2]
  have p3:(c3r mv (k+1) st).getD c 0=a3n mv.length fun j=>fnQ mv c j*(c3r mv k st).getD j 0:=f8x D.mw (c2y ls k) hc
  rw[p3]
  have p4:(a3n mv.length fun j=>fnQ mv c j*(stQ mv pt st pus k).getD j 0)=(a3n mv.length fun j=>fnQ mv c j*(c3r mv k st).getD j 0)+a3n mv.length fun j=>fnQ mv c j*a3n (kry mv pt k).length fun i=>((pus.take k).reverse.flatten).getD i 0*fnQ (kry mv pt k) i j:=by
   rw[← c0t]
   refine a1c fun j hj=>?_
   rw[ih (by omega) hp j hj]
   grind
  rw[p4]
  grind
end
end L2
namespace L2
open PySem PySem.Spec PyProof.Rows Nm
section
variable {mv pt lk pus R:List (List Rat)} {st pu go w pr L:List Rat} {n t T c u k:Nat} {ps:List Nat}
theorem e4x (D:c8x mv pt lk) (ls:st.length=mv.length):stQ mv pt st (List.replicate T (List.replicate pt.length 0)) T=c3r mv T st:=by
 have l1:=d3n (pt:=pt) (pus:=List.replicate T (List.replicate pt.length 0)) ls (k:=T) (by rw[a0o];exact a0h _)
 refine e1q (by rw[l1,c2y ls]) fun c hc=>?_
 rw[l1] at hc
 rw[d8p D ls T (by rw[a0o];exact a0h _) (fun xs hx=>by rw[(a3m.mp hx).2,a0o]) c hc,a3o fun i _=>?_,b9k]
 have z:(((List.replicate T (List.replicate pt.length (0:Rat))).take T).reverse.flatten).getD i 0=0:=by
  rw[a0a]
  cases e:(((List.replicate T (List.replicate pt.length (0:Rat))).take T).reverse.flatten)[i]? with
  | none=>rfl
  | some y =>
   have:=a0j e
   obtain ⟨l,hl,hy⟩:=f3a.mp this
   have hl:=a3k (d1t.mp hl)
   rw[(a3m.mp hl).2] at hy
   exact (a3m.mp hy).2
 rw[z,b1p]
def c1y (mv:List (List Rat)) (T:Nat) (st go:List Rat):List Rat:=List.zipWith (fun x y=>x - y) go (c3r mv T st)
theorem f0w (ls:st.length=mv.length) (lg:go.length=mv.length):(c1y mv T st go).length=mv.length:=by
 unfold c1y
 rw[a2i,c2y ls,lg,d5r]
theorem f2a {x y:List Rat} (h:x.length=y.length) (hc:c < x.length):(List.zipWith (fun x y=>x - y) x y).getD c 0=x.getD c 0 - y.getD c 0:=by
 rw[a0a,a3z,a0a (l:=x),a0a (l:=y),a0c hc,a0c (by omega)]
 rfl
theorem e7o:∀u,∃Z,kry mv pt (u+1)=kry mv pt u++Z
 | 0=>⟨pt++[],rfl⟩
 | u+1=>by
  obtain ⟨Z,e⟩:=e7o u
  refine ⟨Z.map (onQ mv),?_⟩
  show pt++(kry mv pt (u+1)).map (onQ mv)=(pt++(kry mv pt u).map (onQ mv))++_
  rw[e,a3y,a3g]
theorem e1m {u:Nat}:∀s,∃Z,kry mv pt (u+s)=kry mv pt u++Z
 | 0=>⟨[],by rw[c3x];rfl⟩
 | s+1=>by
  obtain ⟨Z,e⟩:=e1m (u:=u) s
  obtain ⟨Y,e'⟩:=e7o (mv:=mv) (pt:=pt) (u+s)
  exact ⟨Z++Y,by rw[← Nat.add_assoc,e',e,a3g]⟩
def e4g (w:List Rat) (u k:Nat):List (List Rat):=(List.range u).map fun t=>(w.drop (t*k)).take k
theorem e2c:∀{u:Nat} {w:List Rat},w.length=u*k->(e4g w u k).flatten=w
 | 0,w,h=>by
  rw[Nat.zero_mul] at h
  rw[List.length_eq_zero_iff.mp h]
  rfl
 | u+1,w,h=>by
  have e:e4g w (u+1) k=e4g (w.take (u*k)) u k++[w.drop (u*k)]:=by
   unfold e4g
   rw[c3u,a3y]
   congr 1
   ·refine c3w fun t ht=>?_
    have ht:=b9i.mp ht
    have:t*k+k<=u*k:=by rw[← a4d];exact a0n _ ht
    rw[List.drop_take,List.take_take,b6i (by omega)]
   ·show [(w.drop (u*k)).take k]=_
    rw[a0r (by rw[f3b,h,a4d];omega)]
  rw[e,a9l,e2c (by rw[a4h,h,a4d];omega)]
  simp
theorem g2a (h:w.length=u*k):∀xs∈e4g w u k,xs.length=k:=fun xs hx=>by
 obtain ⟨t,ht,rfl⟩:=a0t.mp hx
 have ht:=b9i.mp ht
 have:t*k+k<=u*k:=by rw[← a4d];exact a0n _ ht
 rw[a4h,f3b]
 omega
theorem f1p {x:Rat} {xs:List Rat} (hx:xs∈e4g w u k) (hx':x∈xs):x∈w:=by
 obtain ⟨t,_,rfl⟩:=a0t.mp hx
 exact List.mem_of_mem_drop (a3k hx')
def f0l (w:List Rat) (T u k:Nat):List (List Rat):=List.replicate (T - u) (List.replicate k 0)++(e4g w u k).reverse
theorem e6e (hu:u<=T):(f0l w T u k).length=T:=by
 unfold f0l e4g
 rw[a0i,a0o,b4t,a0e,a3s]
 omega
theorem f8r (h:w.length=u*k):∀xs∈f0l w T u k,xs.length=k:=fun xs hx=>by
 rcases a0w.mp hx with hx | hx
 ·rw[(a3m.mp hx).2,a0o]
 ·exact g2a h xs (d1t.mp hx)
theorem f4w {P:Rat->Prop} (h0:P 0) (h:∀x∈w,P x):∀xs∈f0l w T u k,∀x∈xs,P x:=fun xs hx x hx'=>by
 rcases a0w.mp hx with hx | hx
 ·rw[(a3m.mp hx).2] at hx'
  rw[(a3m.mp hx').2]
  exact h0
 ·exact h x (f1p (d1t.mp hx) hx')
theorem f0e {T k:Nat}:(List.replicate T (List.replicate k (0:Rat))).flatten=List.replicate (T*k) 0:=by
 rw[List.flatten_replicate_replicate]
theorem e3z (D:c8x mv pt lk) (ls:st.length=mv.length) (lg:go.length=mv.length) (hu:u<=T) (hw:w.length=(kry mv pt u).length) (e:wtQ (kry mv pt u) w mv.length=c1y mv T st go):stQ mv pt st (f0l w T u pt.length) T=go:=by
 have hw':w.length=u*pt.length:=by rw[hw,c6u]
 have lp:=e6e (w:=w) (k:=pt.length) hu
 have l1:=d3n (pt:=pt) (pus:=f0l w T u pt.length) ls (k:=T) (by omega)
 refine e1q (by rw[l1,lg]) fun c hc=>?_
 rw[l1] at hc
 rw[d8p D ls T (by omega) (f8r hw') c hc,a0r (by omega)]
 have er:(f0l w T u pt.length).reverse.flatten=w++List.replicate ((T - u)*pt.length) 0:=by
  unfold f0l
  rw[List.reverse_append,List.reverse_reverse,a9l,e2c hw',List.reverse_replicate,f0e]
 obtain ⟨Z,eZ⟩:=e1m (mv:=mv) (pt:=pt) (u:=u) (T - u)
 rw[show u+(T - u)=T by omega] at eZ
 rw[er,eZ,a0i,c9c]
 have p1:(a3n (kry mv pt u).length fun i=>(w++List.replicate ((T - u)*pt.length) 0).getD i 0*fnQ (kry mv pt u++Z) i c)=(c1y mv T st go).getD c 0:=by
  rw[← e,e4m hc,hw]
  exact a1c fun i hi=>by rw[g0m hi,a0a,a1p (by omega),a0a]
 have p2:(a3n Z.length fun i=>(w++List.replicate ((T - u)*pt.length) 0).getD ((kry mv pt u).length+i) 0*fnQ (kry mv pt u++Z) ((kry mv pt u).length+i) c)=0:=a3o fun i _=>by
  have z:(w++List.replicate ((T - u)*pt.length) (0:Rat)).getD ((kry mv pt u).length+i) 0=0:=by
   rw[a0a,a1e (by omega),a3h]
   split <;> rfl
  rw[z,b1p]
 rw[p1,p2,b9k]
 unfold c1y
 rw[f2a (by rw[lg,c2y ls]) (by omega)]
 grind
theorem e6h {ps':List Nat} (wp:∀xs∈pt,xs.length=mv.length) (RRu:a2u (kry mv pt u) mv.length R ps) (RRT:a2u (kry mv pt T) mv.length R ps') (lp:pr.length=mv.length) (h:∀xs∈kry mv pt u,b4j xs pr=0):∀xs∈kry mv pt T,b4j xs pr=0:=fun xs hx=>by
 have wu:=a6u (mv:=mv) rfl wp u
 have wT:=a6u (mv:=mv) rfl wp T
 obtain ⟨i,hi,rfl⟩:=a2c hx
 have s1:Spn (kry mv pt u).length (fnQ (kry mv pt u)) (fnQ (kry mv pt T) i):=Spn.trans (fun t ht=>RRu.2.2.back t (by rw[← RRu.1,RRT.1];exact ht)) (RRT.2.2.span i hi)
 obtain ⟨v,hv⟩:=s1
 have fn:∀{X:List (List Rat)} {i:Nat} (h:i < X.length) (c:Nat),X[i].getD c 0=fnQ X i c:=fun {X i} h c=>by
  unfold fnQ
  rw[a0a (l:=X),a0c h]
  rfl
 have w1:=wT _ (a0z hi)
 rw[a5p (by omega),w1]
 have e1:(a3n mv.length fun c=>(kry mv pt T)[i].getD c 0*pr.getD c 0)=a3n (kry mv pt u).length fun t=>v t*a3n mv.length fun c=>fnQ (kry mv pt u) t c*pr.getD c 0:=by
  have q:∀c,c < mv.length->(kry mv pt T)[i].getD c 0*pr.getD c 0=a3n (kry mv pt u).length fun t=>v t*(fnQ (kry mv pt u) t c*pr.getD c 0):=fun c _=>by
   rw[fn hi c,hv c,a4l,← a3w]
   exact a1c fun t _=>by grind
  rw[a1c q,a8j]
  exact a1c fun t _=>a3w
 rw[e1]
 refine a3o fun t ht=>?_
 have w2:=wu _ (a0z ht)
 have:=h _ (a0z ht)
 rw[a5p (by omega),w2] at this
 have q:(a3n mv.length fun c=>fnQ (kry mv pt u) t c*pr.getD c 0)=0:=by
  refine Eq.trans ?_ this
  exact a1c fun c _=>by rw[fn ht c]
 rw[q,a6b]
end
end L2
namespace L2
open PySem PySem.Spec PyProof.Rows Nm
def e8x (l:Addr):Hp:=fun q=>if q=l then some (.lst []) else none
theorem off_ne {l:Addr}:e8x l l≠none:=by unfold e8x;rw[if_pos rfl];exact fun z=>nomatch z
theorem f2k {l q:Addr} (h:q≠l):e8x l q=none:=by unfold e8x;rw[if_neg h]
def GdL (K:PySem.W.Frag) (l:Addr) (H:Hp) (R:List (List Rat)) (v:V):Prop:=∃q,v=V.ref q∧q≠l∧a3e K (e8x l) H q R
section
variable {K:PySem.W.Frag} {H0 H H':Hp} {l p q:Addr} {R:List (List Rat)} {v:V} {mv pt:List (List Rat)} {u T:Nat}
theorem a3e.off (h:a3e K H0 H p R) (hl:H l=none):p≠l∧a3e K (e8x l) H p R:=by
 obtain ⟨xs,g,r,n⟩:=h
 refine ⟨fun z=>(by rw[z,hl] at g;cases g),xs,g,Paired.imp' (fun _ _ ⟨q,a,b,c⟩=>⟨q,a,f2k fun z=>?_,c⟩) r,n⟩
 obtain ⟨_,gg,_⟩:=c
 rw[z,hl] at gg
 cases gg
theorem GdL.same (h:GdL K l H R v) (s:a1w H H'):GdL K l H' R v:=let ⟨q,a,b,c⟩:=h;⟨q,a,b,c.same s⟩
theorem GdL.upd {ys zs:List V} (h:GdL K l H R v) (g:H l=some (.lst ys)):GdL K l (upd H l (.lst zs)) R v:=let ⟨q,a,b,c⟩:=h;⟨q,a,b,c.updL g off_ne b⟩
def adL (mv pt:List (List Rat)) (u:Nat):List (List (List Rat)):=(List.range u).map fun s=>pt.map (c3r mv s)
theorem e0a:adL mv pt (u+1)=adL mv pt u++[pt.map (c3r mv u)]:=by unfold adL;rw[c3u,a3y];rfl
theorem c6z:∀u,(adL mv pt u).flatten=kry mv pt u
 | 0=>rfl
 | u+1=>by
  have e:adL mv pt (u+1)=pt :: (adL mv pt u).map (List.map (onQ mv)):=by
   unfold adL
   rw[List.range_succ_eq_map,a6y,b9n]
   congr 1
   ·exact d0z pt
   ·rw[b9n]
    refine c3w fun s _=>?_
    show pt.map (c3r mv (s+1))=(pt.map (c3r mv s)).map (onQ mv)
    rw[b9n]
    rfl
  rw[e,a8i,← List.map_flatten,c6z u]
  rfl
theorem f2x {s:Nat} {xs:List Rat} (h:xs∈pt.map (c3r mv s)):xs∈kry mv pt (s+1):=by
 rw[← c6z,e0a,a9l]
 exact a2e _ (by simpa using h)
theorem d0w.fitP {a c s:Nat} (F:d0w mv pt a c) (wm:∀xs∈mv,xs.length=mv.length) (wp:∀xs∈pt,xs.length=mv.length) (hs:s+1<=mv.length):∀xs∈mv,∀r∈pt.map (c3r mv s),f6m xs r:=fun xs hx r hr=>by
 obtain ⟨M,V,M0,Ma,hV,fm,fp,a3,c3,e14,_⟩:=F
 have f:=d2t rfl wm wp hV fm fp (s+1) r (f2x hr)
 have V1:V<=2^c:=a0d (a6m _ (by omega)) hV
 have e1:(s+1)*(a+c)<=mv.length*(a+c):=a0n _ hs
 have e2:mv.length*(a+c)+4<=mv.length*(mv.length*(a+c)+4):=a6m _ (by omega)
 have e3:(s+1)*(a+c)=a*(s+1)+c*(s+1):=by rw[Nat.mul_add,a3d,a3d c]
 refine ⟨a,c,a*(s+1),c*(s+1),⟨M,V,M0,Ma,V1,fm xs hx⟩,⟨M^(s+1),2^(c*(s+1)),Nat.pow_pos M0,?_,a0h _,f⟩,by omega⟩
 exact a0d (c3s Ma _) (by rw[← e2n];exact a0h _)
end
def e9y (K:PySem.W.Frag) (C:Addr):Sp:=fun vs H Q _=>∃(x:Addr) (u a c:Nat) (H0:Hp) (mv pt lk:List (List Rat)),vs=[.ref x,.int u]∧u<=mv.length∧c7a K H0 H C x mv pt lk∧c8x mv pt lk∧d0w mv pt a c ∧
 ∀r us H',H r=none->a1w H H'->H' r=some (.lst us)->Paired (GdL K r H') (adL mv pt u) us->Q (.ref r) H'
def e9u (K:PySem.W.Frag):Sp:=fun vs H Q _=>∃(p:Addr) (xs:List V) (Rs:List (List (List Rat))),vs=[.ref p]∧H p=some (.lst xs)∧Paired (GdL K p H) Rs xs∧Rs.flatten.length<=1000 ∧
 ∀r H0 H',H r=none->a1w H H'->a3e K H0 H' r Rs.flatten->Q (.ref r) H'
def f3m (K:PySem.W.Frag):Sp:=fun vs H Q _=>∃(p:Addr) (u k:Nat) (w:List Rat),vs=[.ref p,.int u,.int k]∧a6v K H p w∧w.length=u*k∧u*k<=1000∧u<=1000∧k<=1000 ∧
 ∀r H',H r=none->a1w H H'->a3e K H H' r (e4g w u k)->Q (.ref r) H'
def e9n (K:PySem.W.Frag) (C:Addr):Sp:=fun vs H Q _=>∃(x:Addr) (T:Nat) (H0:Hp) (mv pt lk:List (List Rat)),vs=[.ref x,.int T]∧T<=100∧c7a K H0 H C x mv pt lk∧c8x mv pt lk ∧
 ∀r H',H r=none->a1w H H'->a3e K H H' r (List.replicate T (List.replicate pt.length 0))->Q (.ref r) H'
def e9s (K:PySem.W.Frag) (C:Addr):Sp:=fun vs H Q _=>∃(x s g:Addr) (T:Nat) (H0:Hp) (mv pt lk:List (List Rat)) (st go:List Rat),vs=[.ref x,.ref s,.ref g,.int T]∧T<=99∧c7a K H0 H C x mv pt lk∧c8x mv pt lk∧SFc mv pt lk∧a6v K H s st∧st.length=mv.length∧a6v K H g go∧go.length=mv.length∧f2z mv pt st (List.replicate T (List.replicate pt.length 0))∧(∀x∈go,SzN x) ∧
 ∀r H',H r=none->a1w H H'->a6v K H' r (c1y mv T st go)->Q (.ref r) H'
structure CoF (mv pt:List (List Rat)) (L:List Rat) (D W0 E W1:Nat):Prop where
 d0:0 < D
 e0:0 < E
 w0:1<=W0
 w1:1<=W1
 tk:∀u,u<=mv.length->∀xs∈kry mv pt u,∀x∈xs,Tp D W0 x
 tl:∀x∈L,Tp E W1 x
 de:D*E<=2^4300
 sw:∃w,W0*E+W1*D+D*E<=2^w∧w<=4300∧(mv.length+1)*(w+4)<=8900
def e9w (K:PySem.W.Frag) (C:Addr):Sp:=fun vs H Q _=>∃(x s g:Addr) (T a c D W0 E W1:Nat) (H0:Hp) (mv pt lk:List (List Rat)) (st go:List Rat),vs=[.ref x,.ref s,.ref g,.int T]∧T<=99∧c7a K H0 H C x mv pt lk∧c8x mv pt lk∧SFc mv pt lk∧d0w mv pt a c∧a6v K H s st∧st.length=mv.length∧a6v K H g go∧go.length=mv.length∧f2z mv pt st (List.replicate T (List.replicate pt.length 0))∧(∀x∈go,SzN x)∧CoF mv pt (c1y mv T st go) D W0 E W1 ∧
 (∀t p pus q H',H' t=some (.tup [.str (Str.ofString "puts"),.ref p])->H p=none->a1w H H'->a3e K H H' p pus->pus.length=T->(∀xs∈pus,xs.length=pt.length)->stQ mv pt st pus T=go->0 < q->q<=(16*W0)^mv.length->(∀xs∈pus,∀x∈xs,Tp (E*q) (D*(mv.length*(W1*(16*W0)^mv.length))) x)->Q (.ref t) H') ∧
 (∀t p pr q H',H' t=some (.tup [.str (Str.ofString "never"),.ref p])->H p=none->a1w H H'->a6v K H' p pr->pr.length=mv.length->(∀xs∈kry mv pt T,b4j xs pr=0)->b4j pr (c1y mv T st go)=1->0 < q->q<=(16*W0)^mv.length*(16*(W1+E))->(∀y∈pr,Tp q ((16*W0)^mv.length*(16*(W1+E))) y)->Q (.ref t) H')
theorem CoF.join {mv pt:List (List Rat)} {L:List Rat} {D W0 E W1:Nat} (F:CoF mv pt L D W0 E W1) {rows:List (List Rat)} {due:List Rat} {n':Nat} (hd:due.length=rows.length) (h1:∀xs∈rows,∀x∈xs,Tp (D*E) (W0*E+W1*D+D*E) x) (h2:∀x∈due,Tp (D*E) (W0*E+W1*D+D*E) x) (n8:mv.length<=8) (hm:min rows.length n'<=mv.length+1):∃w,SwF (a5d rows due) n' w:=by
 obtain ⟨w,b1,b2,b3⟩:=F.sw
 have:=a7k F.d0 F.e0
 refine ⟨w,D*E,W0*E+W1*D+D*E,a7k F.d0 F.e0,F.de,by omega,b1,fun xs hx x hx'=>?_,b2,by rw[c2o hd];omega,by rw[c2o hd];exact a0d (a0n _ hm) b3⟩
 unfold a5d at hx
 obtain ⟨i,hi,rfl⟩:=a2c hx
 rw[b2f] at hx'
 rcases a0w.mp hx' with z | z
 ·exact h1 _ (a0z _) x z
 ·rw[a4p.mp z]
  exact h2 _ (a0z _)
theorem Tp.up {M W x:Nat} {q:Rat} (h:Tp M W q) (k:Nat) (hx:W*k<=x):Tp (M*k) x q:=by
 obtain ⟨z,e,b⟩:=h
 exact ⟨z*k,by rw[a5m,a1b,← e,a0v];grind,by rw[a3t,a2m];exact a0d (a0n _ b) hx⟩
end L2
namespace L2
open PySem PySem.Spec PyProof.Rows Nm
section
variable {mv pt lk rows R N Hd:List (List Rat)} {st pr go:List Rat} {n r t T a c W B:Nat} {ps psd:List Nat} {Pm Y Z:Nat->Nat->Rat} {d:Rat}
theorem Vb.tp (V:Vb r n Pm Y Z d W) (r15:r<=15) (w1:1<=W):∃q:Nat,0 < q∧q<=(16*W)^r∧∀s,s < r->∀c,c < n->Tp q ((16*W)^r) (Y s c):=by
 have rlt:∀i∈rlN (fun i=>i) r,i < r:=fun i hi=>by
  obtain ⟨t,ht,e⟩:=b6z hi
  have e:i=t:=e
  omega
 obtain ⟨q,eq,bq⟩:=e7y (N:=16) (Wx:=W) (rs:=rlN (fun i=>i) r) (vs:=cwN (fun j i=>Pm i j) r) (by rw[cw_len];omega) fun w hw i hi=>by
  obtain ⟨s,hs,rfl⟩:=cw_in hw
  exact V.pf i (rlt i hi) s hs
 rw[c4g] at bq
 rw[← V.det] at eq
 have q0:q≠0:=fun z=>V.d0 (by rw[eq,z];rfl)
 refine ⟨q.natAbs,by omega,bq,fun s hs c hc=>?_⟩
 have cr:=c4x (rs:=rlN (fun i=>i) r) (v:=fun j i=>Pm i j) (c:=fun j=>Y j c) (W:=fun i=>Z i c) hs (fun i hi=>by
  rw[V.eq i (rlt i hi) c hc]
  exact a1c fun j _=>a4l _ _)
 obtain ⟨z,ez,bz⟩:=e7y (N:=16) (Wx:=W) (rs:=rlN (fun i=>i) r) (vs:=cvN (fun j i=>Pm i j) s r++(fun i=>Z i c) :: cwN (fun j i=>Pm i j) s) (by
  have:=congrArg List.length (cw_split (v:=fun j i=>Pm i j) hs)
  rw[a0i,a1n,cw_len] at this
  rw[a0i,a1n]
  omega) fun w hw i hi=>by
   rcases a0w.mp hw with hw | hw
   ·obtain ⟨s',hs',rfl⟩:=e3y hw
    exact V.pf i (rlt i hi) s' hs'
   ·rcases a0u.mp hw with rfl | hw
    ·exact V.zf i (rlt i hi) c hc
    ·obtain ⟨s',hs',rfl⟩:=cw_in hw
     exact V.pf i (rlt i hi) s' (by omega)
 rw[c4g] at bz
 rw[ez,← V.det,eq] at cr
 have key:Y s c*(q:Rat)=(z:Rat):=cr.symm
 rcases e4j q with h | h
 ·have hq:((q.natAbs:Nat):Rat)=(q:Rat):=by rw[← a0v,← h]
  exact ⟨z,by rw[hq,key],bz⟩
 ·have hq:((q.natAbs:Nat):Rat)=-(q:Rat):=by rw[← a0v,← a3q];congr 1;omega
  exact ⟨-z,by rw[hq,a3q,← key];grind,by rw[b4d];exact bz⟩
theorem f9x (F:d0w mv pt a c) (D8:mv.length<=8) (wm:∀xs∈mv,xs.length=mv.length) (wp:∀xs∈pt,xs.length=mv.length):∀T,∃R ps,Gd mv pt T R ps:=by
 intro T
 induction T with
 | zero=>exact ⟨_,_,Gd.start⟩
 | succ T ih =>
  obtain ⟨R,ps,G⟩:=ih
  obtain ⟨RR,t,t1,t2,RRt,hs⟩:=id G
  have le:=RR.le
  obtain ⟨R',ps',d,ls,S⟩:=d6j (n:=mv.length) (rows:=pt++R.map (onQ mv)) (fun xs hx=>by
   rcases a0w.mp hx with hx | hx
   ·exact wp xs hx
   ·obtain ⟨y,_,rfl⟩:=a0t.mp hx
    exact c9k) (F.step D8 wm wp (t:=t) (by omega) RRt)
  have RR':=c8m rfl wm wp RR S.rr
  exact ⟨R',ps',(G.step wm wp RR').1⟩
theorem g1w (F:d0w mv pt a c) (D8:mv.length<=8) (wm:∀xs∈mv,xs.length=mv.length) (wp:∀xs∈pt,xs.length=mv.length) (RR:a2u (kry mv pt T) mv.length R ps):Gd mv pt T R ps:=by
 obtain ⟨R',ps',G⟩:=f9x F D8 wm wp T
 obtain ⟨rfl,rfl⟩:=RR.same G.1
 exact G
theorem d0w.rtp (F:d0w mv pt a c) (D8:mv.length<=8) (wm:∀xs∈mv,xs.length=mv.length) (wp:∀xs∈pt,xs.length=mv.length) (RR:a2u (kry mv pt T) mv.length R ps):∃q,0 < q∧q<=2^(ps.length*((mv.length - 1)*(a+c)+4))∧∀xs∈R,∀x∈xs,Tp q (2^(ps.length*((mv.length - 1)*(a+c)+4))) x:=by
 obtain ⟨_,t,t1,_,RRt,_⟩:=g1w F D8 wm wp RR
 obtain ⟨Pm,Z,d,w,vb,hw⟩:=F.vb wm wp t1 RRt
 have le:=RR.le
 obtain ⟨q,q0,q1,q2⟩:=vb.tp (by omega) a2r
 have up:(16*2^w)^ps.length<=2^(ps.length*((mv.length - 1)*(a+c)+4)):=by
  have e:(16*2^w)^ps.length=2^(ps.length*(w+4)):=by rw[show (16:Nat)=2^4 from rfl,← a4k,← e2n,a3d ps.length,b9m w]
  rw[e]
  refine a0f (by decide) (a3x _ ?_)
  rcases hw with ⟨_,rfl⟩ | ⟨_,rfl⟩ <;> omega
 refine ⟨q,q0,a0d q1 up,d4r fun i hi e=>?_⟩
 by_cases he:e < mv.length
 ·exact (q2 i (by rw[← RR.1];exact hi) e he).mono up
 ·rw[e1r RR.2.1 (by omega)]
  exact Tp.zero
theorem e6b {M:Nat} (hw:∀xs∈N,xs.length=n) (hW:1<=W) (h0:0 < M) (h3:∀xs∈N,∀x∈xs,Tp M W x) (f:Nat->Nat) (hf:∀i,i < N.length->fnQ N i (f i)≠0∧∀j,j < N.length->j≠i->fnQ N j (f i)=0) (hn:∀i,i < N.length->f i < n) (RR:a2u N n Hd psd):psd.length=N.length:=by
 have ent:=e4q h0 h3
 obtain ⟨ls,ps2,d,I⟩:=c4b hw hW (by rw[a0e];exact ent) n (a0h _)
 obtain ⟨_,_,⟨pm,B⟩,E⟩:=I
 rw[a0e] at B E
 have RF:Rrf N.length n (fnQ N) ps2.length (fun j=>ps2.getD j 0) (fun i c=>fnZ ls i c / d):=Rrf.other (E.done fun i hi c hc=>c9z (n:=n) (fun zs hz=>by
  obtain ⟨xs,hx,rfl⟩:=a0t.mp hz
  rw[c0s]
  exact hw xs hx) hc) d3d d3e
 obtain ⟨e1,_,_⟩:=RF.uniq RR.2.2 (fun _ hi=>Spn.row hi) (fun _ hi=>Spn.row hi)
 rw[← e1]
 have km:=B.km
 rcases a2x ps2.length N.length with z | z
 ·exfalso
  have hk:=B.rng ps2.length z
  obtain ⟨f1,f2⟩:=hf _ hk
  have low:∀i,i < ps2.length->fnZ (N.map c2w) (pm i) (f (pm ps2.length))=0:=fun i hi=>by
   rw[d8k (B.rng i (by omega)),f2 _ (B.rng i (by omega)) (fun e=>by have:=B.inj i ps2.length (by omega) z e;omega),a6b]
  have lz:∀j,j < ps2.length->fnZ ls j (f (pm ps2.length))=0:=fun j hj=>by
   rw[B.old hj]
   exact d9s (fun r hr=>by
    obtain ⟨t,ht,rfl⟩:=b6z hr
    exact low t ht) _ _
  have:=B.eqs ps2.length z (f (pm ps2.length))
  rw[if_neg (a5f _),E.zero ps2.length (a0h _) z _ (hn _ hk),a3o fun j hj=>by rw[lz j hj,a6b],d8k hk] at this
  have bne:=f5x (rows:=N) (i:=pm ps2.length)
  have d0:=B.d0
  rcases b6h.mp (this.trans (by grind)) with q | q
  ·exact d0 q
  ·rcases b6h.mp q with q | q
   ·exact bne q
   ·exact f1 q
 ·omega
theorem f9z (h1:∀i j,i < j->j < ps.length->ps.getD i 0 < ps.getD j 0) (h2:∀j,j < ps.length->ps.getD j 0 < n):(frN ps n).length+ps.length=n:=by
 have key:∀i,∃k,k<=ps.length∧(frN ps i).length+k=i∧(∀j,j < k->ps.getD j 0 < i)∧∀j,k<=j->j < ps.length->i<=ps.getD j 0:=by
  intro i
  induction i with
  | zero=>exact ⟨0,a1f _,rfl,fun j hj=>absurd hj (a6h _),fun j _ _=>a1f _⟩
  | succ i ih =>
   obtain ⟨k,k1,k2,k3,k4⟩:=ih
   rw[d4p]
   by_cases hk:k < ps.length∧ps.getD k 0=i
   ·have hm:i∈ps:=by rw[← hk.2];exact getD_in hk.1
    rw[if_neg (fun z=>z hm)]
    refine ⟨k+1,hk.1,by omega,fun j hj=>?_,fun j hj hl=>?_⟩
    ·rcases a2x j k with z | z
     ·have:=k3 j z;omega
     ·rw[show j=k by omega,hk.2];omega
    ·have:=h1 k j (by omega) hl
     omega
   ·have hm:i∉ps:=fun z=>by
     obtain ⟨j,hj,ej⟩:=a2c z
     have ej':ps.getD j 0=i:=by rw[a0a,a0c hj];exact ej
     rcases a2x j k with y | y
     ·have:=k3 j y;omega
     ·rcases a2x k j with x | x
      ·have:=h1 k j x hj
       have:=k4 k (a0h _) (by omega)
       omega
      ·exact hk ⟨by omega,by rw[show k=j by omega];exact ej'⟩
    rw[if_pos hm]
    refine ⟨k,k1,by rw[a0i,a1q];omega,fun j hj=>by have:=k3 j hj;omega,fun j hj hl=>?_⟩
    have:=k4 j hj hl
    rcases a2x i (ps.getD j 0) with y | y
    ·exact y
    ·exact absurd (by rw[show i=ps.getD j 0 by omega];exact getD_in hl) hm
 obtain ⟨k,k1,k2,k3,k4⟩:=key n
 rcases a2x k ps.length with z | z
 ·have:=k4 k (a0h _) z
  have:=h2 k z
  omega
 ·omega
theorem d9i:∀xs∈a4y R ps n,xs.length=n:=fun xs hx=>by
 obtain ⟨_,_,_,rfl⟩:=c4o hx
 exact c7m
theorem c9p (RR:a2u rows n R ps):(a4y R ps n).length+ps.length=n:=by
 unfold a4y
 rw[a0e]
 exact f9z RR.2.2.inc RR.2.2.low
theorem e3r {M:Nat} (RR:a2u rows n R ps) (hW:1<=W) (h0:0 < M) (h3:∀xs∈a4y R ps n,∀x∈xs,Tp M W x) (RN:a2u (a4y R ps n) n Hd psd):psd.length+ps.length=n:=by
 have fn:∀i,i < (a4y R ps n).length->∀c,c < n->c∉ps->fnQ (a4y R ps n) i c=if c=(frN ps n).getD i 0 then 1 else 0:=fun i hi c hc hp=>by
  unfold a4y at hi ⊢
  rw[a0e] at hi
  unfold fnQ
  rw[a0a (l:=List.map _ _),a0x,a0c hi]
  show (nuQ R ps n (frN ps n)[i]).getD c 0=_
  rw[f5i hc hp,a0a,a0c hi]
  rfl
 have fm:∀i,i < (a4y R ps n).length->(frN ps n).getD i 0 < n∧(frN ps n).getD i 0∉ps:=fun i hi=>by
  unfold a4y at hi
  rw[a0e] at hi
  exact d9r.mp (getD_in hi)
 have nd:(frN ps n).Nodup:=by
  unfold frN
  exact List.Nodup.sublist List.filter_sublist List.nodup_range
 rw[e6b d9i hW h0 h3 (fun i=>(frN ps n).getD i 0) (fun i hi=>⟨?_,fun j hj ne=>?_⟩) (fun i hi=>(fm i hi).1) RN,c9p RR]
 ·rw[fn i hi _ (fm i hi).1 (fm i hi).2,if_pos rfl]
  decide
 ·rw[fn j hj _ (fm i hi).1 (fm i hi).2,if_neg fun z=>ne ?_]
  unfold a4y at hi hj
  rw[a0e] at hi hj
  rw[a0a,a0a,a0c hi,a0c hj] at z
  have z:(frN ps n)[i]=(frN ps n)[j]:=z
  have pw:=List.pairwise_iff_getElem.mp nd
  rcases a8h i j with y | y | y
  ·exact absurd z (pw i j hi hj y)
  ·exact y.symm
  ·exact absurd z.symm (pw j i hj hi y)
theorem e2q (RR:a2u rows n R ps) (RN:a2u (a4y R ps n) n Hd psd):∀h∈Hd,∀r∈R,b4j h r=0:=fun h hh r hr=>by
 obtain ⟨i,hi,rfl⟩:=a2c hh
 have wr:=RR.2.1 r hr
 have wh:=RN.2.1 _ (a0z hi)
 obtain ⟨v,hv⟩:=RN.2.2.back i (by rw[← RN.1];exact hi)
 rw[a5p (by omega),wh]
 have fnh:∀c,Hd[i].getD c 0=fnQ Hd i c:=fun c=>by
  unfold fnQ
  rw[a0a (l:=Hd),a0c hi]
  rfl
 have e1:(a3n n fun c=>Hd[i].getD c 0*r.getD c 0)=a3n (a4y R ps n).length fun t=>v t*a3n n fun c=>fnQ (a4y R ps n) t c*r.getD c 0:=by
  have q:∀c,c < n->Hd[i].getD c 0*r.getD c 0=a3n (a4y R ps n).length fun t=>v t*(fnQ (a4y R ps n) t c*r.getD c 0):=fun c _=>by
   rw[fnh c,hv c,a4l,← a3w]
   exact a1c fun t _=>by grind
  rw[a1c q,a8j]
  exact a1c fun t _=>a3w
 rw[e1]
 refine a3o fun t ht=>?_
 have mt:=a0z ht
 obtain ⟨at_,ha,hp,en⟩:=c4o mt
 obtain ⟨j,hj,rfl⟩:=a2c hr
 have dz:=f9b (d9b RR) ha hp (a0c hj) wr
 rw[← en] at dz
 have wn:(a4y R ps n)[t].length=n:=d9i _ mt
 rw[a5p (by omega),wr] at dz
 have q:(a3n n fun c=>fnQ (a4y R ps n) t c*R[j].getD c 0)=0:=by
  refine Eq.trans (a1c fun c _=>?_) dz
  have:fnQ (a4y R ps n) t c=(a4y R ps n)[t].getD c 0:=by
   unfold fnQ
   rw[a0a (l:=a4y R ps n),a0c ht]
   rfl
  rw[this]
  exact a4l _ _
 rw[q,a6b]
end
end L2
namespace L2
open PySem PySem.Spec PyProof.Rows Nm
structure Sml (mv pt lk:List (List Rat)):Prop where
 D:c8x mv pt lk
 n5:mv.length<=5
 gm:GF 2520 6561 mv
 gp:GF 2520 6561 pt
 gl:GF 2520 6561 lk
section
variable {mv pt lk R Hd:List (List Rat)} {st pr go:List Rat} {n T:Nat} {ps psd:List Nat}
theorem Sml.turn (h:Sml mv pt lk):Sml (a2s mv mv.length) lk pt:=⟨h.D.turn,by rw[a3b];exact h.n5,f3d h.gm,h.gl,h.gp⟩
theorem Sml.kfit (h:Sml mv pt lk):d0w mv pt 12 16:=f5l (n0:=5) (by decide) (by decide) h.n5 (by decide) h.gm h.gp (by decide)
theorem Sml.sfc (h:Sml mv pt lk):SFc mv pt lk:=⟨2520,6561,by decide,a0d (show 2520<=2^12 by decide) (a0f (by decide) (by decide)),a0d (show 6561<=2^13 by decide) (a0f (by decide) (by decide)),h.gm,h.gp,h.gl⟩
theorem Sml.rtp (h:Sml mv pt lk) (RR:a2u (kry mv pt T) mv.length R ps):∃q,0 < q∧q<=2^(ps.length*116)∧∀xs∈R,∀x∈xs,Tp q (2^(ps.length*116)) x:=by
 obtain ⟨q,q0,q1,q2⟩:=h.kfit.rtp h.D.n8 h.D.mw h.D.pw RR
 have n5:=h.n5
 have up:2^(ps.length*((mv.length - 1)*(12+16)+4))<=2^(ps.length*116):=a0f (by decide) (a3x _ (by omega))
 exact ⟨q,q0,a0d q1 up,fun xs hx x hx'=>(q2 xs hx x hx').mono up⟩
theorem Sml.swR (h:Sml mv pt lk) (RR:a2u (kry mv pt T) mv.length R ps):SwF R mv.length 580∧min R.length mv.length*(580+4)<=3990:=by
 obtain ⟨q,q0,q1,q2⟩:=h.rtp RR
 have n5:=h.n5
 have le:=RR.le
 have up:2^(ps.length*116)<=2^580:=a0f (by decide) (by omega)
 have m5:min R.length mv.length*(580+4)<=5*(580+4):=a0n _ (by omega)
 exact ⟨⟨q,2^580,q0,a0d q1 (a0d up (a0f (by decide) (by decide))),a2r,a0h _,fun xs hx x hx'=>(q2 xs hx x hx').mono up,by decide,by omega,by omega⟩,by omega⟩
theorem Sml.swN (h:Sml mv pt lk) (RR:a2u (kry mv pt T) mv.length R ps):SwF (a4y R ps mv.length) mv.length (ps.length*116)∧min (a4y R ps mv.length).length mv.length*(ps.length*116+4)<=720∧∃q,0 < q∧∀xs∈a4y R ps mv.length,∀x∈xs,Tp q (2^(ps.length*116)) x:=by
 obtain ⟨q,q0,q1,q2⟩:=h.rtp RR
 have n5:=h.n5
 have le:=RR.le
 have cnt:=c9p RR
 have tn:∀xs∈a4y R ps mv.length,∀x∈xs,Tp q (2^(ps.length*116)) x:=fun xs hx x hx'=>by
  obtain ⟨a,_,_,rfl⟩:=c4o hx
  exact f9a q0 q1 q2 RR x hx'
 have b:min (a4y R ps mv.length).length mv.length*(ps.length*116+4)<=720:=by
  have e:min (a4y R ps mv.length).length mv.length<=5 - ps.length:=by omega
  refine a0d (a0n _ e) ?_
  rcases (show ps.length=0∨ps.length=1∨ps.length=2∨ps.length=3∨ps.length=4∨ps.length=5 by omega) with z | z | z | z | z | z <;> rw[z] <;> decide
 exact ⟨⟨q,2^(ps.length*116),q0,a0d q1 (a0f (by decide) (by omega)),a2r,a0h _,tn,by omega,by omega,by omega⟩,b,q,q0,tn⟩
end
def e2t (K:PySem.W.Frag) (C:Addr):Sp:=fun vs H Q _=>∃(x:Addr) (T:Nat) (H0:Hp) (mv pt lk:List (List Rat)),vs=[.ref x,.int T]∧T<=99∧c7a K H0 H C x mv pt lk∧Sml mv pt lk ∧
 ∀r R ps Hd psd M H',H r=none->a1w H H'->a3e K H H' r Hd->a2u (kry (a2s mv mv.length) lk T) mv.length R ps->a2u (a4y R ps mv.length) mv.length Hd psd->psd.length+ps.length=mv.length->0 < M->M<=2^720->(∀xs∈Hd,∀x∈xs,Tp M (2^720) x)->Q (.ref r) H'
def e5r (K:PySem.W.Frag) (C:Addr):Sp:=fun vs H Q _=>∃(x y:Addr) (T:Nat) (H0 H1:Hp) (mv pt lk:List (List Rat)),vs=[.ref x,.ref y,.int T,.int mv.length]∧T<=99∧c7a K H0 H C x mv pt lk∧c7a K H1 H C y (a2s mv mv.length) lk pt∧Sml mv pt lk∧∀H',a1w H H'->Q (.bl true) H'
structure Ask (mv pt:List (List Rat)) (T:Nat) (go:List Rat):Prop where
 lg:go.length=mv.length
 fr:∀x∈go,Fr (2520^5) (2^100) x
theorem c4h {mv:List (List Rat)} (wm:∀xs∈mv,xs.length=mv.length):∀t,c3r mv t (List.replicate mv.length 0)=List.replicate mv.length 0
 | 0=>rfl
 | t+1=>by
  show onQ mv (c3r mv t _)=_
  rw[c4h wm t]
  refine e1q (by rw[c9k,a0o]) fun c hc=>?_
  rw[c9k] at hc
  rw[f8x wm (by rw[a0o]) hc,a3o fun j _=>?_]
  ·rw[a0a,a3h,if_pos hc]
   rfl
  ·rw[a0a,a3h]
   split <;> exact a6b _
section
variable {mv pt lk pus:List (List Rat)} {pr go:List Rat} {T:Nat}
theorem f9i (wm:∀xs∈mv,xs.length=mv.length) (lg:go.length=mv.length):c1y mv T (List.replicate mv.length 0) go=go:=by
 unfold c1y
 rw[c4h wm]
 refine e1q (by rw[a2i,a0o,lg,d5r]) fun c hc=>?_
 rw[a2i,a0o,lg,d5r] at hc
 rw[f2a (by rw[a0o,lg]) (by omega)]
 have:(List.replicate mv.length (0:Rat)).getD c 0=0:=by rw[a0a,a3h];split <;> rfl
 rw[this]
 grind
theorem cf0 (D:c8x mv pt lk):f2z mv pt (List.replicate mv.length 0) (List.replicate T (List.replicate pt.length 0)):=fun k hk=>by
 rw[a0o] at hk
 have e:stQ mv pt (List.replicate mv.length 0) (List.replicate T (List.replicate pt.length 0)) k=List.replicate mv.length 0:=by
  have:=e4x (T:=k) D (st:=List.replicate mv.length 0) (by rw[a0o])
  rw[c4h D.mw] at this
  refine Eq.trans ?_ this
  unfold stQ
  rw[List.take_replicate,List.take_replicate,b6i hk,d5r]
 refine ⟨1,1,by decide,a2r,a2r,fun x hx=>?_,fun xs hx x hx'=>?_⟩
 ·rw[e] at hx
  rw[(a3m.mp hx).2]
  exact Fr.zero
 ·rw[(a3m.mp hx).2] at hx'
  rw[(a3m.mp hx').2]
  exact Fr.zero
theorem Sml.cof (h:Sml mv pt lk) (A:Ask mv pt T go):CoF mv pt (c1y mv T (List.replicate mv.length 0) go) (2520^5) (2^140) (2520^5) (2^160):=by
 have n5:=h.n5
 have p5:2520^5<=2^60:=by decide
 refine ⟨by decide,by decide,by decide,by decide,fun u hu xs hx x hx'=>?_,fun x hx=>?_,?_,240,by decide,by decide,by omega⟩
 ·have f:=d2t (c:=16) rfl h.D.mw h.D.pw (a0d (a0n 6561 (show mv.length+1<=6 by omega)) (by decide)) h.gm h.gp u xs hx x hx'
  have f2:Fr (2520^5) (2^(16*5)) x:=Fr.up f (d5q _ (by omega)) (a0f (by decide) (by omega))
  exact Tp.of f2 (by decide)
 ·rw[f9i h.D.mw A.lg] at hx
  exact Tp.of (A.fr x hx) (by decide)
 ·exact a0d (show 2520^5*2520^5<=2^120 by decide) (a0f (by decide) (by decide))
theorem Ask.szn (A:Ask mv pt T go):∀x∈go,SzN x:=fun x hx=>c2a (Tp.of (A.fr x hx) (a0h _)) (by decide) (a0d (show 2520^5<=2^60 by decide) (a0f (by decide) (by decide))) (a0d (show 2^100*2520^5<=2^160 by decide) (a0f (by decide) (by decide)))
theorem e1d (D:c8x mv pt lk) (lg:go.length=mv.length) (lp:pus.length=T) (wp:∀xs∈pus,xs.length=pt.length) (h1:stQ mv pt (List.replicate mv.length 0) pus T=go) (lpr:pr.length=mv.length) (h2:∀xs∈kry mv pt T,b4j xs pr=0) (h3:b4j pr (c1y mv T (List.replicate mv.length 0) go)=1):False:=by
 rw[f9i D.mw lg,a5p (by omega),lpr] at h3
 have f:=d8p (pus:=pus) (st:=List.replicate mv.length 0) D (by rw[a0o]) T (by omega) wp
 rw[h1] at f
 have wT:=a6u (mv:=mv) rfl D.pw T
 have e1:(a3n mv.length fun c=>pr.getD c 0*go.getD c 0)=a3n (kry mv pt T).length fun i=>((pus.take T).reverse.flatten).getD i 0*a3n mv.length fun c=>fnQ (kry mv pt T) i c*pr.getD c 0:=by
  have q:∀c,c < mv.length->pr.getD c 0*go.getD c 0=a3n (kry mv pt T).length fun i=>((pus.take T).reverse.flatten).getD i 0*(fnQ (kry mv pt T) i c*pr.getD c 0):=fun c hc=>by
   rw[f c hc,c4h D.mw]
   have z:(List.replicate mv.length (0:Rat)).getD c 0=0:=by rw[a0a,a3h];split <;> rfl
   rw[z,f1x,← a3w]
   exact a1c fun i _=>by grind
  rw[a1c q,a8j]
  exact a1c fun i _=>a3w
 rw[e1,a3o fun i hi=>?_] at h3
 ·exact absurd h3 (by decide)
 ·have w1:=wT _ (a0z hi)
  have:=h2 _ (a0z hi)
  rw[a5p (by omega),w1] at this
  have q:(a3n mv.length fun c=>fnQ (kry mv pt T) i c*pr.getD c 0)=0:=by
   refine Eq.trans (a1c fun c _=>?_) this
   unfold fnQ
   rw[a0a (l:=kry mv pt T),a0c hi]
   rfl
  rw[q,a6b]
end
def e9l (K:PySem.W.Frag) (C:Addr):Sp:=fun vs H Q _=>∃(x g:Addr) (T:Nat) (H0:Hp) (mv pt lk:List (List Rat)) (go:List Rat),vs=[.ref x,.ref g,.int T]∧T<=99∧c7a K H0 H C x mv pt lk∧Sml mv pt lk∧a6v K H g go∧Ask (a2s mv mv.length) lk T go ∧
 (∀t p pus H',H' t=some (.tup [.str (Str.ofString "from"),.ref p])->a1w H H'->pus.length=T->(∀xs∈pus,xs.length=lk.length)->stQ (a2s mv mv.length) lk (List.replicate mv.length 0) pus T=go->Q (.ref t) H') ∧
 (∀t p pr H',H' t=some (.tup [.str (Str.ofString "alike"),.ref p])->a1w H H'->pr.length=mv.length->(∀xs∈kry (a2s mv mv.length) lk T,b4j xs pr=0)->b4j pr (c1y (a2s mv mv.length) T (List.replicate mv.length 0) go)=1->Q (.ref t) H')
def e9p (K:PySem.W.Frag):Sp:=fun vs H Q _=>∃(r:Addr) (T:Nat) (H0:Hp) (mv pt lk:List (List Rat)),vs=[.ref r,.int T]∧T<=3∧c2r K H0 H r mv pt lk∧Sml mv pt lk ∧
 ∀q H',H q=none->a1w H H'->a3e K H H' q (kry (a2s mv mv.length) lk T)->Q (.ref q) H'
end L2
namespace L2
open PySem PySem.Spec PyProof.Rows Nm
structure AsR (K:PySem.W.Frag) (H:Hp) (q:Addr) (n k:Nat) (as:List Rat):Prop where
 row:a6v K H q as
 len:as.length=n
 fr:∀x∈as,Fr (2520^5) (k*2^80) x
section
variable {K:PySem.W.Frag} {H H':Hp} {q b:Addr} {n k:Nat} {as:List Rat}
theorem AsR.same (h:AsR K H q n k as) (s:a1w H H'):AsR K H' q n k as:=⟨h.row.same s,h.len,h.fr⟩
theorem AsR.szn (h:AsR K H q n k as) (hk:k<=100):∀x∈as,SzN x:=fun x hx=>by
 have b:k*2^80<=2^87:=a0d (a0n _ hk) (by decide)
 exact c2a (Tp.of ((h.fr x hx).mono b) (a0h _)) (by decide) (a0d (show 2520^5<=2^60 by decide) (a0f (by decide) (by decide))) (a0d (show 2^87*2520^5<=2^150 by decide) (a0f (by decide) (by decide)))
theorem AsR.ask {mv pt:List (List Rat)} {T:Nat} (h:AsR K H q mv.length k as) (hk:k<=100):Ask mv pt T as:=⟨h.len,fun x hx=>(h.fr x hx).mono (a0d (a0n _ hk) (by decide))⟩
theorem f6d (r:a6v K H q as) (l:as.length=n) (h:∀x∈as,Dr 6 x):AsR K H q n 1 as:=⟨r,l,fun x hx=>(d7j ⟨a0d (h x hx).1 (by decide),a0d (h x hx).2 (by decide)⟩ (Nat.dvd_trans (show 2520∣2520^1 from d5s _) (d5q 2520 (by decide)))).mono (by decide)⟩
theorem f5k {mv pt lk:List (List Rat)} {T:Nat} (h:Sml mv pt lk) (hT:T<=3):∀xs∈kry (a2s mv mv.length) lk T,xs.length=mv.length∧(∀x∈xs,Fr (2520^4) (2^64) x)∧∀x∈xs,SzN x:=fun xs hx=>by
 have SMt:=h.turn
 have et:(a2s mv mv.length).length=mv.length:=a3b
 have n5:=h.n5
 have f:∀x∈xs,Fr (2520^4) (2^64) x:=fun x hx'=>by
  have f:=d2t (c:=16) rfl SMt.D.mw SMt.D.pw (a0d (a0n 6561 (show (a2s mv mv.length).length+1<=6 by omega)) (by decide)) SMt.gm SMt.gp T xs hx x hx'
  exact Fr.up f (d5q _ (by omega)) (a0f (by decide) (by omega))
 refine ⟨by have:=a6u (mv:=a2s mv mv.length) rfl SMt.D.pw T xs hx;rw[this,et],f,fun x hx'=>?_⟩
 exact c2a (Tp.of (f x hx') (a0h _)) (by decide) (a0d (show 2520^4<=2^60 by decide) (a0f (by decide) (by decide))) (a0d (show 2^64*2520^4<=2^150 by decide) (a0f (by decide) (by decide)))
theorem g0l {c:Rat} {ys:List Rat} {H2:Hp} {q2:Addr} (h:AsR K H q n k as) (hc:Dr 6 c) (ly:ys.length=n) (hy:∀y∈ys,Fr (2520^4) (2^64) y) (r:a6v K H2 q2 (List.zipWith (fun x y=>x+y) as (ys.map fun y=>c*y))):AsR K H2 q2 n (k+1) (List.zipWith (fun x y=>x+y) as (ys.map fun y=>c*y)):=by
 refine ⟨r,by rw[a2i,a0e,h.len,ly,d5r],fun x hx=>?_⟩
 obtain ⟨i,hi,rfl⟩:=a2c hx
 rw[b2f,a5r]
 have f1:=h.fr _ (a0z (l:=as) (n:=i) (by rw[a2i] at hi;omega))
 have fc:Fr 2520 9 c:=d7j ⟨a0d hc.1 (by decide),a0d hc.2 (by decide)⟩ (d5s _)
 have f2:=fc.mul (hy _ (a0z (l:=ys) (n:=i) (by rw[a2i,a0e] at hi;omega)))
 have f2':Fr (2520^5) (2^80) (c*ys[i]'(by rw[a2i,a0e] at hi;omega)):=Fr.up f2 (by decide) (by decide)
 exact (f1.add f2').mono (by rw[a4d];exact a0h _)
end
end L2
open L2
local macro_rules | `(tactic| walk_at "hl") => `(tactic| first | (show _ ≤ sizeLine; with_unfolding_all decide) | (with_unfolding_all exact (by decide)))
local macro_rules | `(tactic| walk_at "sq") => `(tactic| first | with_reducible assumption | with_reducible exact SqT.of (by assumption) | with_reducible exact SqL.of (by assumption) | with_reducible exact SqT.of a0y | with_reducible exact SqL.of a0y | assumption)
local macro_rules | `(tactic| walk_at "sc") => `(tactic| first | (with_reducible show (0 : Int) < _; decide) | with_reducible exact e8f (by decide) (by decide) | with_reducible exact d9u (by decide) (by decide) | with_reducible exact cpow_of (by decide) (by decide) (by decide))
local macro_rules | `(tactic| walk_at "rd") => `(tactic| first
  | with_reducible refine f7x ?_
  | with_reducible refine f4f ?_
  | with_reducible refine f8n ?_
  | with_reducible refine f0j ?_
  | ((with_reducible refine' f7u ?hx1 ?_); (case hx1 => with_unfolding_all rfl))
  | with_reducible refine rd_c ?_
  | with_reducible refine g1j ?_
  | with_reducible refine g1m ?_
  | with_reducible refine g1f ?_
  | with_reducible refine rd_U ?_
  | with_reducible refine f8m ?_
  | with_reducible refine f8d ?_
  | with_reducible refine f8l ?_
  | with_reducible refine rd_neS ?_
  | with_reducible refine rd_eqB ?_
  | with_reducible refine rd_neB ?_
  | with_reducible refine f4i ?_
  | with_reducible refine e3i ?_
  | with_reducible refine f8k ?_
  | with_reducible refine f4c ?_
  | with_reducible refine f4g ?_
  | with_reducible refine f4h ?_
  | with_reducible refine f0i ?_
  | with_reducible refine f4b ?_
  | with_reducible refine g1g ?_
  | with_reducible refine f7y ?_
  | with_reducible refine rd_retN ?_
  | with_reducible refine f8h ?_
  | with_reducible refine f8o ?_
  | with_reducible refine g1i ?_
  | with_reducible refine f8b ?_
  | with_reducible refine f4t ?_
  | with_reducible refine rd_orV ?_
  | with_reducible refine f4e ?_
  | with_reducible refine f8i ?_
  | with_reducible refine f7s ?_
  | with_reducible refine g0u ?_
  | with_reducible refine iteT ?_
  | with_reducible refine g1s ?_
  | with_reducible refine g1t ?_
  | with_reducible refine f7t ?_
  | with_reducible refine f8c ?_
  | with_reducible refine f4p ?_
  | with_reducible refine f7v ?_
  | with_reducible refine f8e ?_
  | with_reducible refine f4r ?_
  | with_reducible refine g1k ?_
  | with_reducible refine f4o ?_
  | with_reducible refine f8a ?_
  | with_reducible refine f4s ?_
  | ((with_reducible refine' rd_aug ?hx1 ?_); (case hx1 => with_unfolding_all rfl))
  | with_reducible refine f8g ?_
  | with_reducible refine f4l ?_
  | with_reducible refine f0k ?_
  | with_reducible refine f4m ?_
  | with_reducible refine g1h ?_
  | with_reducible refine e6a ?_
  | with_reducible refine f4d ?_
  | with_reducible refine f8j ?_
  | with_reducible refine f0h ?_
  | with_reducible refine f4j ?_
  | with_reducible refine f0g ?_
  | with_reducible refine f0f ?_
  | ((with_reducible refine' f4q ?hx1 ?_); (case hx1 => with_unfolding_all rfl))
  | with_reducible refine f4a ?_
  | with_reducible refine g1l ?_
  | with_reducible refine rd_bm0 ?_
  | with_reducible refine rd_brk ?_
  | ((with_reducible refine' f4k ?hx1 ?hx2 ?_); (case hx1 => walk_at "sq"); (case hx2 => with_unfolding_all rfl))
  | with_reducible refine rd_cont ?_
  | ((with_reducible refine' b9s ?hx1 ?_); (case hx1 => walk_at "sc"))
  | ((with_reducible refine' f8f ?hx1 ?hx2 ?_); (case hx1 => walk_at "sq"); (case hx2 => with_unfolding_all rfl))
  | ((with_reducible refine' a4b ?hx1 ?hx2 ?_); (case hx1 => walk_at "sq"); (case hx2 => with_unfolding_all rfl))
  | ((with_reducible refine' f4n ?hx1 ?hx2 ?_); (case hx1 => walk_at "sq"); (case hx2 => with_unfolding_all rfl))
  | ((with_reducible refine' a6q ?hx1 ?hx2 ?hx3 ?_); (case hx1 => with_reducible first | assumption | exact a0y); (case hx2 => with_unfolding_all rfl); (case hx3 => with_unfolding_all rfl))
  | with_reducible refine ⟨_, rfl, ?_⟩
  | with_reducible refine ⟨_, _, rfl, ?_⟩)
local macro_rules | `(tactic| walk_at "w") => `(tactic| repeat walk_at "rd")
local macro_rules | `(tactic| walk_at "d") => `(tactic| exact ⟨rfl,rfl,rfl,by decide +kernel,rfl,by decide +kernel,by decide +kernel⟩)
namespace Lw
open PySem PySem.Spec PyProof.Rows L2 Nm
set_option maxHeartbeats 4000000
def top (i:Nat):Stmt:=PySem.Challenge.pw_helmsum_k56_whole_turned.main.body.getD i (.Pass ⟨0,0,0,0⟩)
abbrev b3u:Stmt:=top 65
abbrev b0q:Stmt:=top 66
abbrev a7d:Stmt:=top 79
abbrev b3s:Stmt:=top 67
abbrev a7v:Stmt:=top 70
abbrev b3r:Stmt:=top 71
abbrev b0t:Stmt:=top 75
abbrev b3q:Stmt:=top 68
abbrev b0s:Stmt:=top 73
abbrev b0r:Stmt:=top 69
abbrev b6y:Stmt:=top 74
abbrev a9e:Stmt:=top 76
abbrev a9d:Stmt:=top 77
abbrev b0l:Stmt:=top 61
abbrev b3p:Stmt:=top 9
abbrev a5i:Stmt:=top 10
abbrev b0o:Stmt:=top 12
abbrev c0z:Stmt:=top 16
abbrev a7t:Stmt:=top 62
abbrev a5b:Stmt:=inClass (top 63) 0
abbrev a7x:Stmt:=top 78
abbrev a7u:Stmt:=top 83
abbrev a7r:Stmt:=top 25
abbrev a5z:Stmt:=inClass (top 63) 3
abbrev b0m:Stmt:=top 19
abbrev a5a:Stmt:=top 11
abbrev a5y:Stmt:=top 18
abbrev a9b:Stmt:=top 34
abbrev b6x:Stmt:=top 36
abbrev a9c:Stmt:=top 35
abbrev c6g:Stmt:=top 37
abbrev c0y:Stmt:=top 13
abbrev b6s:Stmt:=top 38
abbrev b6r:Stmt:=top 20
abbrev b6w:Stmt:=top 24
abbrev a9a:Stmt:=top 46
abbrev a7p:Stmt:=top 48
abbrev a8y:Stmt:=top 49
abbrev b3o:Stmt:=top 22
abbrev a5x:Stmt:=top 31
abbrev b6u:Stmt:=top 32
abbrev c6j:Stmt:=top 14
abbrev b6t:Stmt:=top 42
abbrev a7s:Stmt:=top 33
abbrev c6i:Stmt:=top 43
abbrev a7o:Stmt:=top 54
abbrev a5k:Stmt:=top 80
abbrev a7w:Stmt:=top 81
abbrev a6n:Stmt:=top 82
abbrev b3t:Stmt:=top 72
abbrev a9f:Stmt:=top 85
abbrev a5j:Stmt:=top 84
abbrev d1y:Stmt:=top 26
abbrev b0p:Stmt:=top 47
abbrev a8z:Stmt:=top 21
abbrev c0x:Stmt:=top 40
abbrev c6h:Stmt:=top 41
abbrev a7n:Stmt:=top 44
abbrev b0n:Stmt:=top 17
abbrev a6o:Stmt:=inClass (top 63) 1
abbrev c1a:Stmt:=top 29
abbrev a7q:Stmt:=top 50
abbrev b6v:Stmt:=top 51
abbrev e3g:Stmt:=top 27
abbrev d1z:Stmt:=top 52
abbrev b6q:Stmt:=top 56
abbrev d9a:Stmt:=top 86
structure Ads where
 c1t:Addr
 c1k:FuncData
 b8m:Addr
 b7y:FuncData
 b5q:Addr
 b5h:FuncData
 c1r:Addr
 c1i:FuncData
 b3i:Addr
 b2t:FuncData
 c1q:Addr
 c1h:FuncData
 b8p:Addr
 b8b:FuncData
 c1p:Addr
 c1g:FuncData
 b8o:Addr
 b8a:FuncData
 b8n:Addr
 b7z:FuncData
 c6a:Addr
 c5g:FuncData
 b5s:Addr
 b5j:FuncData
 b5r:Addr
 b5i:FuncData
 b8h:Addr
 b7t:FuncData
 c1o:Addr
 c1f:FuncData
 a8u:Addr
 a8q:FuncData
 b8k:Addr
 b7w:FuncData
 c8v:Addr
 c8q:FuncData
 b3g:Addr
 b2r:FuncData
 a8d:Addr
 a8b:FuncData
 b3k:Addr
 b2v:FuncData
 b3h:Addr
 b2s:FuncData
 b3e:Addr
 b2p:FuncData
 b0c:Addr
 a9v:FuncData
 b8i:Addr
 b7u:FuncData
 a8c:Addr
 a8a:FuncData
 b0b:Addr
 a9u:FuncData
 b5o:Addr
 b5f:FuncData
 c5z:Addr
 c5f:FuncData
 b5p:Addr
 b5g:FuncData
 d5b:Addr
 d4t:FuncData
 c8u:Addr
 c8p:FuncData
 c5u:Addr
 c5a:FuncData
 c5t:Addr
 c4z:FuncData
 c5y:Addr
 c5e:FuncData
 b5n:Addr
 b5e:FuncData
 b3c:Addr
 b2n:FuncData
 b5l:Addr
 b5c:FuncData
 c1n:Addr
 c1e:FuncData
 b0a:Addr
 a9t:FuncData
 c5w:Addr
 c5c:FuncData
 d5e:Addr
 d4w:FuncData
 c5v:Addr
 c5b:FuncData
 b3f:Addr
 b2q:FuncData
 d5d:Addr
 d4v:FuncData
 b3b:Addr
 b2m:FuncData
 a8w:Addr
 a8s:FuncData
 b3j:Addr
 b2u:FuncData
 b1m:Addr
 b1k:FuncData
 c1s:Addr
 c1j:FuncData
 b5t:Addr
 b5k:FuncData
 a8v:Addr
 a8r:FuncData
 e2i:Addr
 e2a:FuncData
 b8l:Addr
 b7x:FuncData
 b5m:Addr
 b5d:FuncData
 c8t:Addr
 c8o:FuncData
 d5c:Addr
 d4u:FuncData
 b3a:Addr
 b2l:FuncData
 b8j:Addr
 b7v:FuncData
 b1n:Addr
 b1l:FuncData
 c8w:Addr
 c8r:FuncData
 b3d:Addr
 b2o:FuncData
 c5x:Addr
 c5d:FuncData
 f1s:Addr
 f1n:FuncData
 e2j:Addr
 e2b:FuncData
 c5s:Addr
 c4y:FuncData
 f6e:Addr
 f5v:FuncData
 a_NOUGHT:Addr
 a_ONE:Addr
 t_MOST_STATES:Tok
 t_MOST_PUTS:Tok
 t_MOST_LOOKS:Tok
 a_System:Addr
structure Txt (K:W.Frag) (mg:Str->Option Value) (Z:Ads):Prop where
 c9s:mg "_law_bag"=some (.ref Z.c1t)
 d3a:Binds K Z.c1k ["_law_script"] []
 c7g:Fun K "_law_bag" "_law_bag" b3u Z.c1t Z.c1k
 a2h:mg "_law_take"=some (.ref Z.b8m)
 a2p:Binds K Z.b7y ["_law_bag_here","_law_many"] []
 a2l:Fun K "_law_take" "_law_take" b0q Z.b8m Z.b7y
 c4s:mg "_law_sizes"=some (.ref Z.b5q)
 c7w:Binds K Z.b5h ["_law_bag_here"] []
 c0o:Fun K "_law_sizes" "_law_sizes" a7d Z.b5q Z.b5h
 b0x:mg "_law_low"=some (.ref Z.c1r)
 b3z:Binds K Z.c1i ["_law_top","_law_bottom"] []
 b1e:Fun K "_law_low" "_law_low" b3s Z.c1r Z.c1i
 b6f:mg "_law_number"=some (.ref Z.b3i)
 b8g:Binds K Z.b2t ["_law_bag_here","_law_wide"] []
 b3n:Fun K "_law_number" "_law_number" a7v Z.b3i Z.b2t
 b4h:mg "_law_row"=some (.ref Z.c1q)
 b7g:Binds K Z.c1h ["_law_bag_here","_law_many","_law_wide"] []
 b4b:Fun K "_law_row" "_law_row" b3r Z.c1q Z.c1h
 c7q:mg "_law_move"=some (.ref Z.b8p)
 d0g:Binds K Z.b8b ["_law_bag_here","_law_n","_law_way","_law_first","_law_wide"] []
 c3q:Fun K "_law_move" "_law_move" b0t Z.b8p Z.b8b
 b0w:mg "_law_sum"=some (.ref Z.c1p)
 b3y:Binds K Z.c1g ["_law_one","_law_other"] []
 b1c:Fun K "_law_sum" "_law_sum" b3q Z.c1p Z.c1g
 b9w:mg "_law_plus"=some (.ref Z.b8o)
 c3k:Binds K Z.b8a ["_law_one","_law_other"] []
 b9b:Fun K "_law_plus" "_law_plus" b0s Z.b8o Z.b8a
 b1w:mg "_law_prod"=some (.ref Z.b8n)
 b4k:Binds K Z.b7z ["_law_one","_law_other"] []
 b1d:Fun K "_law_prod" "_law_prod" b0r Z.b8n Z.b7z
 c6t:mg "_law_by"=some (.ref Z.c6a)
 d0h:Binds K Z.c5g ["_law_factor","_law_row_here"] []
 c6d:Fun K "_law_by" "_law_by" b6y Z.c6a Z.c5g
 c4u:mg "_law_mixed"=some (.ref Z.b5s)
 c7y:Binds K Z.b5j ["_law_bag_here","_law_move_here","_law_put","_law_look"] []
 c0q:Fun K "_law_mixed" "_law_mixed" a9e Z.b5s Z.b5j
 c4t:mg "_law_parts"=some (.ref Z.b5r)
 c7x:Binds K Z.b5i ["_law_bag_here","_law_n","_law_ins","_law_outs","_law_wide"] []
 c0p:Fun K "_law_parts" "_law_parts" a9d Z.b5r Z.b5i
 b4z:mg "want_list"=some (.ref Z.b8h)
 b8c:Binds K Z.b7t ["thing","at","most"] []
 b4m:Fun K "want_list" "want_list" b0l Z.b8h Z.b7t
 c3g:mg "is_whole"=some (.ref Z.c1o)
 c6x:Binds K Z.c1f ["thing"] []
 c1v:Fun K "is_whole" "is_whole" b3p Z.c1o Z.c1f
 a7y:mg "common_divisor"=some (.ref Z.a8u)
 a8t:Binds K Z.a8q ["one","other"] []
 a6l:Fun K "common_divisor" "common_divisor" a5i Z.a8u Z.a8q
 c7o:mg "is_number"=some (.ref Z.b8k)
 d0e:Binds K Z.b7w ["thing"] []
 c3o:Fun K "is_number" "is_number" b0o Z.b8k Z.b7w
 d6x:mg "is_row"=some (.ref Z.c8v)
 e2g:Binds K Z.c8q ["thing","many"] []
 d5n:Fun K "is_row" "is_row" c0z Z.c8v Z.c8q
 b1h:mg "copied_rows"=some (.ref Z.b3g)
 b2y:Binds K Z.b2r ["things","wide"] []
 b0e:Fun K "copied_rows" "copied_rows" a7t Z.b3g Z.b2r
 b0y:Binds K Z.a8b ["self","move","put","look"] []
 b7i:Fun K "__init__" "System.__init__" a5b Z.a8d Z.a8b
 b1i:mg "_law_copied"=some (.ref Z.b3k)
 b2z:Binds K Z.b2v ["_law_grid"] []
 b0f:Fun K "_law_copied" "_law_copied" a7x Z.b3k Z.b2v
 c2m:mg "_law_system"=some (.ref Z.b3h)
 c5p:Binds K Z.b2s ["_law_parts_here"] []
 b9a:Fun K "_law_system" "_law_system" a7u Z.b3h Z.b2s
 a8n:mg "grid_turned"=some (.ref Z.b3e)
 a9x:Binds K Z.b2p ["grid","wide"] []
 a8e:Fun K "grid_turned" "grid_turned" a7r Z.b3e Z.b2p
 a8p:g0n K Z.a_System "turned" Z.b0c
 a9z:Binds K Z.a9v ["self"] []
 c0r:Fun K "turned" "System.turned" a5z Z.b0c Z.a9v
 b5a:mg "tops_over"=some (.ref Z.b8i)
 b8d:Binds K Z.b7u ["row","bottom"] []
 b4n:Fun K "tops_over" "tops_over" b0m Z.b8i Z.b7u
 b5b:mg "common_multiple"=some (.ref Z.a8c)
 b7f:Binds K Z.a8a ["wholes"] []
 b1b:Fun K "common_multiple" "common_multiple" a5a Z.a8c Z.a8a
 a8o:mg "common_bottom"=some (.ref Z.b0b)
 a9y:Binds K Z.a9u ["row"] []
 a7j:Fun K "common_bottom" "common_bottom" a5y Z.b0b Z.a9u
 c4q:mg "first_with"=some (.ref Z.b5o)
 c7u:Binds K Z.b5f ["lines","begin","place"] []
 c0m:Fun K "first_with" "first_with" a9b Z.b5o Z.b5f
 d2q:mg "cleared"=some (.ref Z.c5z)
 d7z:Binds K Z.c5f ["lines","at","place","before"] []
 d0u:Fun K "cleared" "cleared" b6x Z.c5z Z.c5f
 c4r:mg "brought_up"=some (.ref Z.b5p)
 c7v:Binds K Z.b5g ["lines","at","to"] []
 c0n:Fun K "brought_up" "brought_up" a9c Z.b5p Z.b5g
 d4j:mg "swept"=some (.ref Z.d5b)
 d9w:Binds K Z.d4t ["rows","wide"] []
 d5l:Fun K "swept" "swept" c6g Z.d5b Z.d4t
 b9v:mg "lowest"=some (.ref Z.c8u)
 c5n:Binds K Z.c8p ["top","bottom"] []
 c1u:Fun K "lowest" "lowest" c0y Z.c8u Z.c8p
 c1b:mg "reduced"=some (.ref Z.c5u)
 c5m:Binds K Z.c5a ["rows","wide"] []
 c0l:Fun K "reduced" "reduced" b6s Z.c5u Z.c5a
 c6r:mg "row_dot"=some (.ref Z.c5t)
 d0c:Binds K Z.c4z ["one","other"] []
 c6b:Fun K "row_dot" "row_dot" b6r Z.c5t Z.c4z
 d2p:mg "grid_on"=some (.ref Z.c5y)
 d7y:Binds K Z.c5e ["grid","row"] []
 d0t:Fun K "grid_on" "grid_on" b6w Z.c5y Z.c5e
 b7q:mg "moved_rows"=some (.ref Z.b5n)
 c0f:Binds K Z.b5e ["system","rows"] []
 b5w:Fun K "moved_rows" "moved_rows" a9a Z.b5n Z.b5e
 b6d:mg "reach_grown"=some (.ref Z.b3c)
 b8e:Binds K Z.b2n ["system","steps"] []
 b3l:Fun K "reach_grown" "reach_grown" a7p Z.b3c Z.b2n
 b7p:mg "reach_rows"=some (.ref Z.b5l)
 c0e:Binds K Z.b5c ["system","steps"] []
 b5v:Fun K "reach_rows" "reach_rows" a8y Z.b5l Z.b5c
 c9q:mg "unit_row"=some (.ref Z.c1n)
 d2z:Binds K Z.c1e ["many","at"] []
 c7f:Fun K "unit_row" "unit_row" b3o Z.c1n Z.c1e
 b9f:mg "leading_place"=some (.ref Z.b0a)
 c0g:Binds K Z.a9t ["row"] []
 b4o:Fun K "leading_place" "leading_place" a5x Z.b0a Z.a9t
 c6s:mg "leading"=some (.ref Z.c5w)
 d0d:Binds K Z.c5c ["rows"] []
 c6c:Fun K "leading" "leading" b6u Z.c5w Z.c5c
 d4k:mg "minus"=some (.ref Z.d5e)
 d9x:Binds K Z.d4w ["one","other"] []
 d5m:Fun K "minus" "minus" c6j Z.d5e Z.d4w
 d2n:mg "null_at"=some (.ref Z.c5v)
 d7w:Binds K Z.c5b ["rows","wide","at"] []
 d0r:Fun K "null_at" "null_at" b6t Z.c5v Z.c5b
 c2l:mg "free_places"=some (.ref Z.b3f)
 c5o:Binds K Z.b2q ["rows","wide"] []
 b8z:Fun K "free_places" "free_places" a7s Z.b3f Z.b2q
 e1i:mg "nulls"=some (.ref Z.d5d)
 e8l:Binds K Z.d4v ["rows","wide"] []
 e0j:Fun K "nulls" "nulls" c6i Z.d5d Z.d4v
 c2k:mg "unseen_rows"=some (.ref Z.b3b)
 c5l:Binds K Z.b2m ["system","steps"] []
 b8y:Fun K "unseen_rows" "unseen_rows" a7o Z.b3b Z.b2m
 b7d:mg "_law_is_number"=some (.ref Z.a8w)
 b9h:Binds K Z.a8s ["_law_thing"] []
 b2e:Fun K "_law_is_number" "_law_is_number" a5k Z.a8w Z.a8s
 c2n:mg "_law_is_row"=some (.ref Z.b3j)
 c5q:Binds K Z.b2u ["_law_thing","_law_many"] []
 b9c:Fun K "_law_is_row" "_law_is_row" a7w Z.b3j Z.b2u
 b4i:mg "_law_is_grid"=some (.ref Z.b1m)
 b6g:Binds K Z.b1k ["_law_thing","_law_many","_law_wide"] []
 b1o:Fun K "_law_is_grid" "_law_is_grid" a6n Z.b1m Z.b1k
 c3h:mg "_law_dot"=some (.ref Z.c1s)
 c6y:Binds K Z.c1j ["_law_one","_law_other"] []
 c1w:Fun K "_law_dot" "_law_dot" b3t Z.c1s Z.c1j
 b7r:mg "_law_apart"=some (.ref Z.b5t)
 c0h:Binds K Z.b5k ["_law_system_here","_law_other","_law_steps","_law_n"] []
 b5x:Fun K "_law_apart" "_law_apart" a9f Z.b5t Z.b5k
 b7c:mg "_law_look_rows"=some (.ref Z.a8v)
 b9g:Binds K Z.a8r ["_law_parts_here","_law_steps"] []
 b2d:Fun K "_law_look_rows" "_law_look_rows" a5j Z.a8v Z.a8r
 e7j:mg "flat"=some (.ref Z.e2i)
 f2w:Binds K Z.e2a ["lists"] []
 e8w:Fun K "flat" "flat" d1y Z.e2i Z.e2a
 c7p:mg "additions"=some (.ref Z.b8l)
 d0f:Binds K Z.b7x ["system","steps"] []
 c3p:Fun K "additions" "additions" b0p Z.b8l Z.b7x
 a9r:mg "nought_row"=some (.ref Z.b5m)
 b1z:Binds K Z.b5d ["many"] []
 a9k:Fun K "nought_row" "nought_row" a8z Z.b5m Z.b5d
 c9r:mg "solved"=some (.ref Z.c8t)
 d5a:Binds K Z.c8o ["rows","wide","due"] []
 c8y:Fun K "solved" "solved" c0x Z.c8t Z.c8o
 e1h:mg "solve"=some (.ref Z.d5c)
 e8k:Binds K Z.d4u ["rows","wide","due"] []
 e0i:Fun K "solve" "solve" c6h Z.d5c Z.d4u
 c2j:mg "weights_for"=some (.ref Z.b3a)
 c5k:Binds K Z.b2l ["rows","wide","row"] []
 b8x:Fun K "weights_for" "weights_for" a7n Z.b3a Z.b2l
 c7n:mg "row_minus"=some (.ref Z.b8j)
 d0b:Binds K Z.b7v ["one","other"] []
 c3n:Fun K "row_minus" "row_minus" b0n Z.b8j Z.b7v
 b9x:g0n K Z.a_System "moved" Z.b1n
 c2p:Binds K Z.b1l ["self","state","puts"] []
 c2t:Fun K "moved" "System.moved" a6o Z.b1n Z.b1l
 d6y:mg "course"=some (.ref Z.c8w)
 e2h:Binds K Z.c8r ["system","start","puts"] []
 d5o:Fun K "course" "course" c1a Z.c8w Z.c8r
 b6e:mg "nothing_for"=some (.ref Z.b3d)
 b8f:Binds K Z.b2o ["system","steps"] []
 b3m:Fun K "nothing_for" "nothing_for" a7q Z.b3d Z.b2o
 d2o:mg "lacking"=some (.ref Z.c5x)
 d7x:Binds K Z.c5d ["system","start","goal","steps"] []
 d0s:Fun K "lacking" "lacking" b6v Z.c5x Z.c5d
 f2l:mg "cut"=some (.ref Z.f1s)
 g0k:Binds K Z.f1n ["row","many","wide"] []
 f6n:Fun K "cut" "cut" e3g Z.f1s Z.f1n
 d9l:mg "come"=some (.ref Z.e2j)
 e8m:Binds K Z.e2b ["system","start","goal","steps"] []
 e2l:Fun K "come" "come" d1z Z.e2j Z.e2b
 d2m:mg "told_by"=some (.ref Z.c5s)
 d7v:Binds K Z.c4y ["system","asked","steps"] []
 d0q:Fun K "told_by" "told_by" b6q Z.c5s Z.c4y
 g0q:Fun K "law" "law" d9a Z.f6e Z.f5v
 abs:mg "abs"=none
 len:mg "len"=none
 min:mg "min"=none
 range:mg "range"=none
 int:mg "int"=none
 isinstance:mg "isinstance"=none
 list:mg "list"=none
 bool:mg "bool"=none
 tuple:mg "tuple"=none
 all:mg "all"=none
 enumerate:mg "enumerate"=none
 zip:mg "zip"=none
 sum:mg "sum"=none
 reversed:mg "reversed"=none
 mg_NOUGHT:mg "NOUGHT"=some (.ref Z.a_NOUGHT)
 sq_NOUGHT:∀H,SqT K H Z.a_NOUGHT [.int 0,.int 1]
 mg_ONE:mg "ONE"=some (.ref Z.a_ONE)
 sq_ONE:∀H,SqT K H Z.a_ONE [.int 1,.int 1]
 mg_MOST_STATES:mg "MOST_STATES"=some (.int 8 Z.t_MOST_STATES)
 mg_MOST_PUTS:mg "MOST_PUTS"=some (.int 4 Z.t_MOST_PUTS)
 mg_MOST_LOOKS:mg "MOST_LOOKS"=some (.int 4 Z.t_MOST_LOOKS)
 mg_System:mg "System"=some (.ref Z.a_System)
 cl_System:Cls K Z.a_System
 na_move:b5u K Z.a_System "move"
 na_states:b5u K Z.a_System "states"
 na_put:b5u K Z.a_System "put"
 na_ins:b5u K Z.a_System "ins"
 na_look:b5u K Z.a_System "look"
 na_outs:b5u K Z.a_System "outs"
 mk_System:Mk K Z.a_System Z.a8d
section
variable {P:Program} {w:World} {K:W.Frag} {mg:Str->Option Value} {base:Heap} {Z:Ads}
theorem d8z:a1t ["_law_script"] ["_law_script"] (a0l b3u):=by walk_at "d"
theorem d9h (T:Txt K mg Z):a6g P w K mg base CX0 1 Z.c1t Z.c1k ["_law_script"] (f7n K):=by
 refine T.c7g.ok d8z (fun vs H Q E h=>?_) (fun cdv A outer s H vs Q E hr h=>?_)
 ·obtain ⟨a,ns,rfl,hS,hlen,k⟩:=h
  rfl
 ·obtain ⟨a,ns,rfl,hS,hlen,k⟩:=h
  refine ⟨_,(a0q (a1x (a9q (a0b a0m (a0b a0m (a0b a0m (a0b (a3v ["_law_cell"] [] [] (a4c (d3x d8t (pv 0) e6k (d3v a0m))) (fun _=>(a1i (i:=0) (show List.Nodup (α:=PySem.Str) ["_law_cell"] by decide +kernel) rfl (Or.inl rfl) (Or.inl rfl))) (fun _=>a4j) (fun _=>(a2k d4y (by rfl) T.abs PyProof.Rows.boot_abs (a0b (pv 0) a0g)))) a0g))))))),?_⟩
  refine a1h (σ:=[some (.ref a)]) rfl ?_
  walk_at "w"
  refine ⟨a,_,rfl,hS,fun l hl=>?_⟩
  have hcl:(d8h (ns.map V.int) none (some 63)).length<=63:=a0d (d0a _ _ _) (by simpa using hlen)
  refine ⟨l,rfl,⟨_,SqL.of a0y⟩,?_⟩
  refine a6j (K:=K) (a:=l) (xs:=d8h (ns.map V.int) none (some 63)) (fun i ys H'=>H'=upd H l (.lst (d8h (ns.map V.int) none (some 63)))∧∃cs:List Int,ys=cs.map V.int∧∀x∈cs,0<=x) (a0d hcl (by decide)) ⟨rfl,[],rfl,fun _ z=>nomatch z⟩ (fun i ys H' _ ⟨e,_⟩=>by subst e;exact SqL.of a0y) ?_ ?_
  ·rintro i x ys H' hx hi ⟨rfl,cs,rfl,hcs⟩
   obtain ⟨z,rfl⟩:∃z,x=V.int z:=by
    have hm:x∈ns.map V.int:=List.mem_of_mem_drop (a3k (a0j hx))
    obtain ⟨z,_,e⟩:=a0t.mp hm
    exact ⟨z,e.symm⟩
   walk_at "w"
   refine ⟨rfl,cs++[if z < 0 then -z else z],by simp,fun x hx=>?_⟩
   rcases a0w.mp hx with hx | hx
   ·exact hcs x hx
   ·have e:x=if z < 0 then -z else z:=by simpa using hx
    subst e
    split <;> omega
  ·rintro ys H' hy ⟨rfl,cs,rfl,hcs⟩ p hp
   walk_at "w"
   refine ⟨by show 4<=sizeLine;decide,fun b hb=>?_⟩
   have n1:b≠p:=fun z=>by rw[z,a0y] at hb;cases hb
   have hb1:(upd H l (.lst (d8h (ns.map V.int) none (some 63)))) b=none:=by rw[a2d n1] at hb;exact hb
   have s1:a1w H (upd H l (.lst (d8h (ns.map V.int) none (some 63)))):=a1w.new hl
   refine k b _ (s1.free hb1) ⟨p,0,1234567891,0,cs,a0y,by rw[a2d n1.symm];exact a0y,by decide,by decide,by omega,hcs⟩ ((s1.trans (a1w.new hp)).trans (a1w.new hb))
theorem a7c:a1t ["_law_bag_here","_law_many","_law_more","_law_cell","_law_value","_law_first","_law_second"] ["_law_bag_here","_law_many"] (a0l b0q):=by walk_at "d"
theorem a9g (T:Txt K mg Z):a6g P w K mg base CX0 1 Z.b8m Z.b7y ["_law_bag_here","_law_many"] f3j:=by
 refine T.a2l.ok a7c (fun vs H Q E h=>?_) (fun cdv A outer s H vs Q E hr h=>?_)
 ·obtain ⟨p,n,rfl,⟨q,a,b,c,cs,hp,hq,ha,hc,hcl,hcs⟩,hn,hn2,k⟩:=h
  rfl
 ·obtain ⟨p,n,rfl,⟨q,a,b,c,cs,hp,hq,ha,hc,hcl,hcs⟩,hn,hn2,k⟩:=h
  have nqp:q≠p:=e8j hp hq
  refine ⟨_,(a8k (a5u (a2b b1u (a2w a3a (pv 0) a0m (by intro _ _;rfl)) a0m (a2o _)) (a0k (a1z (i:=2) a7c.nd rfl (Or.inl rfl) a0m)
   (a8k (a5u (a2b d4b (a2w a3a (pv 0) a0m (by intro _ _;rfl)) (a2k a1y (by rfl) T.len a1v (a0b (a2w a3a (pv 0) a0m (by intro _ _;rfl)) a0g)) (a2o _)) (a0k (a1z (i:=3) a7c.nd rfl (Or.inl rfl) (a2w a3a (a2w a3a (pv 0) a0m (by intro _ _;rfl)) (a2w a3a (pv 0) a0m (by intro _ _;rfl)) (by intro _ _;rfl)))
   (a0k (f4y (pv 0) a0m f1e a0m f9r set_list)
   (a0k (a5u (a2b e3l (pv 3) a0m (a2o _)) (a0q (a8l (pv 3) (b0j (pv 0) a0m set_list))) a3c)
   (a0q (a1z (i:=2) a7c.nd rfl (Or.inl rfl) (a3i b1v (a3i c2f (pv 3) a0m) a0m)))))) a3c)
   (a0q (a8l (a3i c2f (a3i b1v (a3i a5h (a2w a3a (pv 0) a0m (by intro _ _;rfl)) a0m) (pv 2)) a0m) (b0j (pv 0) a0m set_list))))) a3c)
   (a0k (a5u (a2b d4c (a2w a3a (pv 0) a0m (by intro _ _;rfl)) a0m (a2o _)) (a0k (a1z (i:=4) a7c.nd rfl (Or.inl rfl) (a3i c2f (a2w a3a (pv 0) a0m (by intro _ _;rfl)) (pv 1)))
   (a0k (a8l (a3i b2j (a2w a3a (pv 0) a0m (by intro _ _;rfl)) (pv 1)) (b0j (pv 0) a0m set_list))
   (a0q (a1x (pv 4))))) a3c)
   (a0k (a1z (i:=5) a7c.nd rfl (Or.inl rfl) (a3i c2f (a3i a5h (a2w a3a (pv 0) a0m (by intro _ _;rfl)) a0m) a0m))
   (a0k (a1z (i:=6) a7c.nd rfl (Or.inl rfl) (a3i c2f (a3i a5h (pv 5) a0m) a0m))
   (a0k (a5u (a2b d4c (pv 1) a0m (a2o _)) (a0q (a1x (a3i c2f (a3i b1v (a3i a5h (pv 6) a0m) (pv 5)) (pv 1)))) a3c)
   (a0q (a1x (a3i c2f (a3i b2j (pv 6) a0m) (pv 1))))))))),?_⟩
  refine a1h (σ:=[some (.ref p),some (.int n),none,none,none,none,none]) rfl ?_
  refine ⟨fun σ' H'=>∃(x y:Option V) (a' b' c':Int),σ'=[some (.ref p),some (.int n),x,y,none,none,none]∧H' p=some (.lst [.int a',.int b',.int c',.ref q])∧0<=a'∧0<=c'∧c'<=cs.length∧a7g p H H',?_,?_⟩
  ·walk_at "w"
   refine c3j (fun h0=>?_) (fun h0=>?_)
   ·walk_at "w"
    refine ⟨fun σ' H'=>∃(m:Int) (y:Option V) (a' c':Int),σ'=[some (.ref p),some (.int n),some (.int m),y,none,none,none]∧H' p=some (.lst [.int a',.int b,.int c',.ref q])∧0<=a'∧0<=c'∧c'<=cs.length∧a7g p H H',?_,?_⟩
    ·walk_at "w"
     refine ⟨_,_,rfl,.inl (SqL.of hq),?_⟩
     walk_at "w"
     refine c3j (fun h1=>?_) (fun h1=>?_)
     ·have h1':c < cs.length:=by simpa using of_decide_eq_true h1
      obtain ⟨z,hz⟩:∃z,cs[c.toNat]?=some z:=⟨_,a0c (by omega)⟩
      have hz0:0<=z:=hcs z (a0j hz)
      walk_at "w"
      refine a4b (SqL.of hq) (v:=.int z) ?_ ?_
      ·have:=b2c (xs:=cs.map V.int) (j:=c.toNat) (v:=.int z) (by rw[a0x,hz];rfl)
       rwa [Int.toNat_of_nonneg hc] at this
      walk_at "w"
      refine c3j (fun h2=>?_) (fun h2=>?_)
      ·walk_at "w"
       exact ⟨_,_,z,c+1,rfl,a0y,hz0,by omega,by omega,(a7g.set hp).trans (a7g.set a0y)⟩
      ·walk_at "w"
       exact ⟨_,_,a,c+1,rfl,a0y,ha,by omega,by omega,a7g.set hp⟩
     ·walk_at "w"
      exact ⟨_,_,a,c,rfl,hp,ha,hc,hcl,a7g.refl _⟩
    ·rintro σ' H' ⟨m,y,a',c',rfl,hp',ha',hc',hcl',u'⟩
     walk_at "w"
     exact ⟨_,_,a',_,c',rfl,a0y,ha',hc',hcl',u'.trans (a7g.set hp')⟩
   ·walk_at "w"
    exact ⟨_,_,a,b,c,rfl,hp,ha,hc,hcl,a7g.refl _⟩
  ·rintro σ' H' ⟨x,y,a',b',c',rfl,hp',ha',hc',hcl',u'⟩
   have hq':H' q=some (.lst (cs.map V.int)):=u'.1 q _ hq nqp
   have sn:Sz 8999 n:=by
    show n.natAbs < 2^8999
    exact a1u (show n.natAbs < 2^64 by omega) (a0f (by decide) (by decide))
   walk_at "w"
   refine c3j (fun h0=>?_) (fun h0=>?_)
   ·walk_at "w"
    refine b9s (show (0:Int) < n from hn) ?_
    walk_at "w"
    refine b9s (show c8j _ _ from ⟨by omega,sn⟩) ?_
    walk_at "w"
    refine k _ _ (b6l _ (by omega)) (b0h _ hn) ⟨q,_,b',c',cs,a0y,by rw[a2d nqp];exact hq',?_,hc',hcl',hcs⟩ (u'.trans (a7g.set hp'))
    rw[a3f _ (by omega)]
    exact Int.ediv_nonneg ha' (by omega)
   ·walk_at "w"
    refine c3j (fun h1=>?_) (fun h1=>?_)
    ·walk_at "w"
     refine b9s (show (0:Int) < n from hn) ?_
     exact k _ _ (b6l _ (by omega)) (b0h _ hn) ⟨q,a',b',c',cs,hp',hq',ha',hc',hcl',hcs⟩ u'
    ·walk_at "w"
     refine b9s (show c8j _ _ from ⟨by decide,by show (3:Nat) < 2^8999;exact a1u (show 3 < 2^2 by decide) (a0f (by decide) (by decide))⟩) ?_
     walk_at "w"
     refine b9s (show (0:Int) < n from hn) ?_
     exact k _ _ (b6l _ (by omega)) (b0h _ hn) ⟨q,a',b',c',cs,hp',hq',ha',hc',hcl',hcs⟩ u'
theorem d4z:∃x1 x2 x3 x4 x5 x6 x7 x8 x9 x10 x11 x12 x13 x14 x15 x16:Expr,x1=(Expr.Constant (Const.int 0) 0 ⟨331,16,331,17⟩)∧x2=(Expr.Constant (Const.int 1) 0 ⟨331,19,331,20⟩)∧x3=(Expr.Constant (Const.int 1) 0 ⟨331,22,331,23⟩)∧x4=(Expr.Constant (Const.int 1) 0 ⟨331,25,331,26⟩)∧x5=(Expr.Constant (Const.int 2) 0 ⟨331,28,331,29⟩)∧x6=(Expr.Constant (Const.int 2) 0 ⟨331,31,331,32⟩)∧x7=(Expr.Constant (Const.int 3) 0 ⟨331,34,331,35⟩)∧x8=(Expr.Constant (Const.int 4) 0 ⟨331,37,331,38⟩)∧x9=(Expr.Constant (Const.int 0) 0 ⟨332,17,332,18⟩)∧x10=(Expr.Constant (Const.int 1) 0 ⟨332,20,332,21⟩)∧x11=(Expr.Constant (Const.int 1) 0 ⟨332,23,332,24⟩)∧x12=(Expr.Constant (Const.int 1) 0 ⟨332,26,332,27⟩)∧x13=(Expr.Constant (Const.int 2) 0 ⟨332,29,332,30⟩)∧x14=(Expr.Constant (Const.int 2) 0 ⟨332,32,332,33⟩)∧x15=(Expr.Constant (Const.int 3) 0 ⟨332,35,332,36⟩)∧x16=(Expr.Constant (Const.int 4) 0 ⟨332,38,332,39⟩)∧a1l a7d=[ (Stmt.Assign (targets:=[(Expr.Name "_law_n" ⟨328,4,328,10⟩)]) (value:=(Expr.Call (func:=(Expr.Name "_law_take" ⟨328,13,328,22⟩)) (args:=[ (Expr.Name "_law_bag_here" ⟨328,23,328,36⟩),(Expr.Constant (Const.int 5) 0 ⟨328,38,328,39⟩)]) (keywords:=[]) (pos:=⟨328,13,328,40⟩))) (pos:=⟨328,4,328,40⟩)),(Stmt.If (test:=(Expr.Compare (left:=(Expr.Call (func:=(Expr.Name "_law_take" ⟨329,7,329,16⟩)) (args:=[ (Expr.Name "_law_bag_here" ⟨329,17,329,30⟩),(Expr.Constant (Const.int 8) 0 ⟨329,32,329,33⟩)]) (keywords:=[]) (pos:=⟨329,7,329,34⟩))) (ops:=[PySem.CmpOp.Eq]) (comparators:=[(Expr.Constant (Const.int 7) 0 ⟨329,38,329,39⟩)]) (pos:=⟨329,7,329,39⟩))) (body:=[ (Stmt.Assign (targets:=[(Expr.Name "_law_n" ⟨330,8,330,14⟩)]) (value:=(Expr.Constant (Const.int 5) 0 ⟨330,17,330,18⟩)) (pos:=⟨330,8,330,18⟩))]) (orelse:=[]) (pos:=⟨329,4,330,18⟩)),(Stmt.Assign (targets:=[(Expr.Name "_law_ins" ⟨331,4,331,12⟩)]) (value:=(Expr.Subscript (value:=(Expr.List (elts:=[x1,x2,x3,x4,x5,x6,x7,x8]) (pos:=⟨331,15,331,39⟩))) (slice:=(Expr.Call (func:=(Expr.Name "_law_take" ⟨331,40,331,49⟩)) (args:=[ (Expr.Name "_law_bag_here" ⟨331,50,331,63⟩),(Expr.Constant (Const.int 8) 0 ⟨331,65,331,66⟩)]) (keywords:=[]) (pos:=⟨331,40,331,67⟩))) (pos:=⟨331,15,331,68⟩))) (pos:=⟨331,4,331,68⟩)),(Stmt.Assign (targets:=[(Expr.Name "_law_outs" ⟨332,4,332,13⟩)]) (value:=(Expr.Subscript (value:=(Expr.List (elts:=[x9,x10,x11,x12,x13,x14,x15,x16]) (pos:=⟨332,16,332,40⟩))) (slice:=(Expr.Call (func:=(Expr.Name "_law_take" ⟨332,41,332,50⟩)) (args:=[ (Expr.Name "_law_bag_here" ⟨332,51,332,64⟩),(Expr.Constant (Const.int 8) 0 ⟨332,66,332,67⟩)]) (keywords:=[]) (pos:=⟨332,41,332,68⟩))) (pos:=⟨332,16,332,69⟩))) (pos:=⟨332,4,332,69⟩)),(Stmt.If (test:=(Expr.Compare (left:=(Expr.Name "_law_n" ⟨333,7,333,13⟩)) (ops:=[PySem.CmpOp.Eq]) (comparators:=[(Expr.Constant (Const.int 5) 0 ⟨333,17,333,18⟩)]) (pos:=⟨333,7,333,18⟩))) (body:=[ (Stmt.Assign (targets:=[ (Expr.Tuple (elts:=[(Expr.Name "_law_ins" ⟨334,8,334,16⟩),(Expr.Name "_law_outs" ⟨334,18,334,27⟩)]) (k:=0) (pos:=⟨334,8,334,27⟩))]) (value:=(Expr.Tuple (elts:=[ (Expr.Call (func:=(Expr.Name "min" ⟨334,31,334,34⟩)) (args:=[ (Expr.Name "_law_ins" ⟨334,35,334,43⟩),(Expr.Constant (Const.int 2) 0 ⟨334,45,334,46⟩)]) (keywords:=[]) (pos:=⟨334,31,334,47⟩)),(Expr.Call (func:=(Expr.Name "min" ⟨334,49,334,52⟩)) (args:=[ (Expr.Name "_law_outs" ⟨334,53,334,62⟩),(Expr.Constant (Const.int 2) 0 ⟨334,64,334,65⟩)]) (keywords:=[]) (pos:=⟨334,49,334,66⟩))]) (k:=0) (pos:=⟨334,30,334,67⟩))) (pos:=⟨334,8,334,67⟩))]) (orelse:=[]) (pos:=⟨333,4,334,67⟩)),(Stmt.Assign (targets:=[(Expr.Name "_law_wide" ⟨335,4,335,13⟩)]) (value:=(Expr.Subscript (value:=(Expr.List (elts:=[ (Expr.Constant (Const.int 4) 0 ⟨335,17,335,18⟩),(Expr.Constant (Const.int 4) 0 ⟨335,20,335,21⟩),(Expr.Constant (Const.int 9) 0 ⟨335,23,335,24⟩),(Expr.Constant (Const.int 1000000) 0 ⟨335,26,335,33⟩)]) (pos:=⟨335,16,335,34⟩))) (slice:=(Expr.Call (func:=(Expr.Name "_law_take" ⟨335,35,335,44⟩)) (args:=[ (Expr.Name "_law_bag_here" ⟨335,45,335,58⟩),(Expr.Constant (Const.int 4) 0 ⟨335,60,335,61⟩)]) (keywords:=[]) (pos:=⟨335,35,335,62⟩))) (pos:=⟨335,16,335,63⟩))) (pos:=⟨335,4,335,63⟩)),(Stmt.If (test:=(Expr.Compare (left:=(Expr.Name "_law_wide" ⟨336,7,336,16⟩)) (ops:=[PySem.CmpOp.Gt]) (comparators:=[(Expr.Constant (Const.int 9) 0 ⟨336,19,336,20⟩)]) (pos:=⟨336,7,336,20⟩))) (body:=[ (Stmt.Assign (targets:=[(Expr.Name "_law_n" ⟨337,8,337,14⟩)]) (value:=(Expr.Call (func:=(Expr.Name "min" ⟨337,17,337,20⟩)) (args:=[ (Expr.Name "_law_n" ⟨337,21,337,27⟩),(Expr.Constant (Const.int 2) 0 ⟨337,29,337,30⟩)]) (keywords:=[]) (pos:=⟨337,17,337,31⟩))) (pos:=⟨337,8,337,31⟩))]) (orelse:=[]) (pos:=⟨336,4,337,31⟩)),(Stmt.Return (value:=(some (Expr.Tuple (elts:=[ (Expr.Name "_law_n" ⟨338,12,338,18⟩),(Expr.Name "_law_ins" ⟨338,20,338,28⟩),(Expr.Name "_law_outs" ⟨338,30,338,39⟩),(Expr.Name "_law_wide" ⟨338,41,338,50⟩)]) (k:=0) (pos:=⟨338,11,338,51⟩)))) (pos:=⟨338,4,338,51⟩))]:=⟨_,_,_,_,_,_,_,_,_,_,_,_,_,_,_,_,rfl,rfl,rfl,rfl,rfl,rfl,rfl,rfl,rfl,rfl,rfl,rfl,rfl,rfl,rfl,rfl,by with_unfolding_all rfl⟩
theorem a5o:a1t ["_law_bag_here","_law_n","_law_ins","_law_outs","_law_wide"] ["_law_bag_here"] (a0l a7d):=by walk_at "d"
theorem d4f (T:Txt K mg Z):a6g P w K mg base CX0 2 Z.b5q Z.b5h ["_law_bag_here"] e5b:=by
 have a2g:=a9g (P:=P) (w:=w) (base:=base) T
 refine T.c0o.ok a5o (fun vs H Q E h=>?_) (fun cdv A outer s H vs Q E hr h=>?_)
 ·obtain ⟨b,rfl,hB,k⟩:=h
  rfl
 ·obtain ⟨b,rfl,hB,k⟩:=h
  obtain ⟨x1,x2,x3,x4,x5,x6,x7,x8,x9,x10,x11,x12,x13,x14,x15,x16,hx1,hx2,hx3,hx4,hx5,hx6,hx7,hx8,hx9,hx10,hx11,hx12,hx13,hx14,hx15,hx16,hbd⟩:=d4z
  rw[hbd]
  refine ⟨_,(a0k (a1z (i:=1) a5o.nd rfl (Or.inl rfl) (a0p a2g (hr.mono (by decide)) rfl T.a2h T.a2l.kp T.a2p .nil a1o (a0b (pv 0) (a0b a0m a0g))))
   (a8k (a5u (a2b b1u (a0p a2g (hr.mono (by decide)) rfl T.a2h T.a2l.kp T.a2p .nil a1o (a0b (pv 0) (a0b a0m a0g))) a0m (a2o _)) (a0q (a1z (i:=1) a5o.nd rfl (Or.inl rfl) a0m)) a3c)
   (a0k (a1z (i:=2) a5o.nd rfl (Or.inl rfl) (a2w a3a (a9q (a4f hx1 a0m (a4f hx2 a0m (a4f hx3 a0m (a4f hx4 a0m (a4f hx5 a0m (a4f hx6 a0m (a4f hx7 a0m (a4f hx8 a0m a0g))))))))) (a0p a2g (hr.mono (by decide)) rfl T.a2h T.a2l.kp T.a2p .nil a1o (a0b (pv 0) (a0b a0m a0g))) (by intro _ _;rfl)))
   (a0k (a1z (i:=3) a5o.nd rfl (Or.inl rfl) (a2w a3a (a9q (a4f hx9 a0m (a4f hx10 a0m (a4f hx11 a0m (a4f hx12 a0m (a4f hx13 a0m (a4f hx14 a0m (a4f hx15 a0m (a4f hx16 a0m a0g))))))))) (a0p a2g (hr.mono (by decide)) rfl T.a2h T.a2l.kp T.a2p .nil a1o (a0b (pv 0) (a0b a0m a0g))) (by intro _ _;rfl)))
   (a8k (a5u (a2b b1u (pv 1) a0m (a2o _)) (a0q (f2i (i:=2) (j:=3) rfl a5o.nd rfl rfl (by decide) rfl rfl (a0b (a2k (c0b rfl) (by rfl) T.min PyProof.Rows.boot_min (a0b (pv 2) (a0b a0m a0g))) (a0b (a2k (c0b rfl) (by rfl) T.min PyProof.Rows.boot_min (a0b (pv 3) (a0b a0m a0g))) a0g)) rfl)) a3c)
   (a0k (a1z (i:=4) a5o.nd rfl (Or.inl rfl) (a2w a3a (a9q (a0b a0m (a0b a0m (a0b a0m (a0b a0m a0g))))) (a0p a2g (hr.mono (by decide)) rfl T.a2h T.a2l.kp T.a2p .nil a1o (a0b (pv 0) (a0b a0m a0g))) (by intro _ _;rfl)))
   (a8k (a5u (a2b d4c (pv 4) a0m (a2o _)) (a0q (a1z (i:=1) a5o.nd rfl (Or.inl rfl) (a2k (c0b rfl) (by rfl) T.min PyProof.Rows.boot_min (a0b (pv 1) (a0b a0m a0g))))) a3c)
   (a0q (a1x (a5e (a0b (pv 1) (a0b (pv 2) (a0b (pv 3) (a0b (pv 4) a0g)))))))))))))),?_⟩
  refine a1h (σ:=[some (.ref b),none,none,none,none]) rfl ?_
  walk_at "w"
  refine ⟨b,5,rfl,hB,by decide,by decide,fun n H1 n0 n1 B1 u1=>?_⟩
  obtain ⟨n,rfl⟩:=a9m n0
  walk_at "w"
  refine ⟨fun σ' H'=>(∃n:Nat,σ'=[some (.ref b),some (.int n),none,none,none]∧n<=5)∧Bag H' b∧a7g b H H',?_,?_⟩
  ·walk_at "w"
   refine ⟨b,8,rfl,B1,by decide,by decide,fun v H2 v0 v1 B2 u2=>?_⟩
   walk_at "w"
   refine c3j (fun _=>?_) (fun _=>?_)
   ·walk_at "w"
    exact ⟨⟨5,rfl,by decide⟩,B2,u1.trans u2⟩
   ·walk_at "w"
    exact ⟨⟨n,rfl,by omega⟩,B2,u1.trans u2⟩
  clear n0 n1 u1 B1
  rintro σ' H1 ⟨⟨n,rfl,n5⟩,B1,u1⟩
  walk_at "w"
  refine a6r fun l0 H2 s2 n2 g2=>?_
  walk_at "w"
  refine ⟨b,8,rfl,B1.same s2,by decide,by decide,fun v H3 v0 v1 B3 u3=>?_⟩
  have g3:=u3.other (fun z=>B1.at (by rw[← z];exact n2)) g2
  obtain ⟨x,ex,mx,_⟩:=c1m (xs:=[V.int 0,V.int 1,V.int 1,V.int 1,V.int 2,V.int 2,V.int 3,V.int 4]) v0 (by simpa using v1)
  obtain ⟨i,rfl,hi⟩:∃z:Nat,x=.int z∧z<=4:=by
   simp only[a0u,a1k,or_false] at mx
   rcases mx with rfl | rfl | rfl | rfl | rfl | rfl | rfl | rfl
   ·exact ⟨0,rfl,by decide⟩
   ·exact ⟨1,rfl,by decide⟩
   ·exact ⟨1,rfl,by decide⟩
   ·exact ⟨1,rfl,by decide⟩
   ·exact ⟨2,rfl,by decide⟩
   ·exact ⟨2,rfl,by decide⟩
   ·exact ⟨3,rfl,by decide⟩
   ·exact ⟨4,rfl,by decide⟩
  walk_at "w"
  refine a4b (SqL.of g3) ex ?_
  clear ex mx g3 g2
  walk_at "w"
  refine a6r fun l1 H4 s4 n4 g4=>?_
  walk_at "w"
  refine ⟨b,8,rfl,B3.same s4,by decide,by decide,fun t H5 t0 t1 B5 u5=>?_⟩
  have g5:=u5.other (fun z=>B3.at (by rw[← z];exact n4)) g4
  obtain ⟨x,ex,mx,_⟩:=c1m (xs:=[V.int 0,V.int 1,V.int 1,V.int 1,V.int 2,V.int 2,V.int 3,V.int 4]) t0 (by simpa using t1)
  obtain ⟨o,rfl,ho⟩:∃z:Nat,x=.int z∧z<=4:=by
   simp only[a0u,a1k,or_false] at mx
   rcases mx with rfl | rfl | rfl | rfl | rfl | rfl | rfl | rfl
   ·exact ⟨0,rfl,by decide⟩
   ·exact ⟨1,rfl,by decide⟩
   ·exact ⟨1,rfl,by decide⟩
   ·exact ⟨1,rfl,by decide⟩
   ·exact ⟨2,rfl,by decide⟩
   ·exact ⟨2,rfl,by decide⟩
   ·exact ⟨3,rfl,by decide⟩
   ·exact ⟨4,rfl,by decide⟩
  walk_at "w"
  refine a4b (SqL.of g5) ex ?_
  clear ex mx g5 g4
  have u15:=(((u1.same s2).trans u3).same s4).trans u5
  walk_at "w"
  refine ⟨fun σ' H'=>(∃i o:Nat,σ'=[some (.ref b),some (.int n),some (.int i),some (.int o),none]∧i<=4∧o<=4∧(n=5->i<=2∧o<=2))∧Bag H' b∧a7g b H H',?_,?_⟩
  ·walk_at "w"
   refine c3j (fun h0=>?_) (fun h0=>?_)
   ·walk_at "w"
    refine ⟨⟨min i 2,min o 2,?_,by omega,by omega,fun _=>⟨by omega,by omega⟩⟩,B5,u15⟩
    have e1:(if (2:Int) < (i:Int) then (2:Int) else (i:Int))=((min i 2:Nat):Int):=by split <;> omega
    have e2:(if (2:Int) < (o:Int) then (2:Int) else (o:Int))=((min o 2:Nat):Int):=by split <;> omega
    rw[← e1,← e2]
    rfl
   ·walk_at "w"
    exact ⟨⟨i,o,rfl,hi,ho,fun z=>absurd (decide_eq_true (show (n:Int)=5 by omega)) h0⟩,B5,u15⟩
  clear hi ho u15 B5 u5 u3 u1
  rintro σ' H5 ⟨⟨i,o,rfl,hi,ho,h5⟩,B5,u5⟩
  walk_at "w"
  refine a6r fun l2 H6 s6 n6 g6=>?_
  walk_at "w"
  refine ⟨b,4,rfl,B5.same s6,by decide,by decide,fun v H7 v0 v1 B7 u7=>?_⟩
  have g7:=u7.other (fun z=>B5.at (by rw[← z];exact n6)) g6
  obtain ⟨x,ex,mx,_⟩:=c1m (xs:=[V.int 4,V.int 4,V.int 9,V.int 1000000]) v0 (by simpa using v1)
  obtain ⟨w,rfl,hw⟩:∃w:Nat,x=.int w∧(w=4∨w=9∨w=1000000):=by
   simp only[a0u,a1k,or_false] at mx
   rcases mx with rfl | rfl | rfl | rfl
   ·exact ⟨4,rfl,.inl rfl⟩
   ·exact ⟨4,rfl,.inl rfl⟩
   ·exact ⟨9,rfl,.inr (.inl rfl)⟩
   ·exact ⟨1000000,rfl,.inr (.inr rfl)⟩
  walk_at "w"
  refine a4b (SqL.of g7) ex ?_
  have u07:=(u5.same s6).trans u7
  walk_at "w"
  refine ⟨fun σ' H'=>(∃n:Nat,σ'=[some (.ref b),some (.int n),some (.int i),some (.int o),some (.int w)]∧n<=5∧(w=4∨w=9∨(w=1000000∧n<=2))∧(n=5->i<=2∧o<=2))∧Bag H' b∧a7g b H H',?_,?_⟩
  ·walk_at "w"
   refine c3j (fun h0=>?_) (fun h0=>?_)
   ·walk_at "w"
    refine ⟨⟨min n 2,?_,by omega,by omega,fun z=>by omega⟩,B7,u07⟩
    have e1:(if (2:Int) < (n:Int) then (2:Int) else (n:Int))=((min n 2:Nat):Int):=by split <;> omega
    rw[← e1]
    rfl
   ·walk_at "w"
    refine ⟨⟨n,rfl,n5,?_,h5⟩,B7,u07⟩
    rcases hw with z | z | z
    ·exact .inl z
    ·exact .inr (.inl z)
    ·exact absurd (decide_eq_true (show (9:Int) < (w:Int) by omega)) h0
  ·clear h5 n5
   rintro σ' H8 ⟨⟨n',rfl,n5,hwn,h5⟩,B8,u8⟩
   walk_at "w"
   refine a3l fun r H9 s9 g9=>?_
   exact k r n' i o w H9 g9 n5 hi ho hwn h5 (B8.same s9) (u8.same s9)
theorem b7j:a1t ["_law_top","_law_bottom","_law_one","_law_other"] ["_law_top","_law_bottom"] (a0l b3s):=by walk_at "d"
theorem b7n (T:Txt K mg Z):a6g P w K mg base CX0 1 Z.c1r Z.c1i ["_law_top","_law_bottom"] f7j:=by
 refine T.b1e.ok b7j (fun vs H Q E h=>?_) (fun cdv A outer s H vs Q E hr h=>?_)
 ·obtain ⟨t,b,rfl,hb,hs,k⟩:=h
  rfl
 ·obtain ⟨t,b,rfl,hb,hs,k⟩:=h
  refine ⟨_,(a0k (a1z (i:=2) b7j.nd rfl (Or.inl rfl) (a2k d4y (by rfl) T.abs PyProof.Rows.boot_abs (a0b (pv 0) a0g)))
   (a0k (a1z (i:=3) b7j.nd rfl (Or.inl rfl) (pv 1))
   (a0k (d3u PassesOwn.never (a2b d6o (pv 2) a0m (a2o _))
    (a0q (f2i (i:=2) (j:=3) rfl b7j.nd rfl rfl (by decide) rfl rfl (a0b (a3i c2f (pv 3) (pv 2)) (a0b (pv 2) a0g)) rfl)))
   (a0q (a1x (a5e (a0b (a3i b2j (pv 0) (pv 3)) (a0b (a3i b2j (pv 1) (pv 3)) a0g)))))))),?_⟩
  refine a1h (σ:=[some (.int t),some (.int b),none,none]) rfl ?_
  walk_at "w"
  refine d8m (fun σ' H'=>∃(u v:Int),σ'=[some (.int t),some (.int b),some (.int u),some (.int v)]∧H'=H∧0<=u∧0 < v∧Int.gcd u v=Int.gcd t b) (fun σ' _=>match σ' with | [_,_,some (.int u),_]=>u.natAbs | _=>0) ⟨_,b,rfl,rfl,by split <;> omega,hb,by
   split
   ·rw[Int.neg_gcd]
   ·rfl⟩ ?_
  rintro σ' H' ⟨u,v,rfl,rfl,hu,hv,hg⟩
  walk_at "w"
  refine c3j (fun h=>?_) (fun h=>?_)
  ·have hu0:u≠0:=fun z=>by subst z;simp at h
   walk_at "w"
   refine b9s (show (0:Int) < u by omega) ?_
   walk_at "w"
   have h1:=b6l v hu0
   have h2:=b0h v (show 0 < u by omega)
   exact ⟨⟨v % u,u,rfl,rfl,h1,by omega,by rw[b4u,f1g,b4u];exact hg⟩,by show (v % u).natAbs < u.natAbs;omega⟩
  ·have hu0:u=0:=by
    by_cases z:u=0
    ·exact z
    ·exfalso;apply h;simp [z]
   subst hu0
   have e:v=g t b:=by
    unfold g
    rw[← hg,Int.gcd_zero_left]
    omega
   have hgs:Sz 8999 v:=hs.le (by
    rw[e]
    have h1:(g t b).natAbs=Int.gcd t b:=by unfold g;simp
    rw[h1]
    exact c2u (by omega) (by have:=a6c (a:=t) (b:=b);exact a6z.mpr this |> fun z=>by simpa using z))
   walk_at "w"
   refine b9s (show c8j _ _ from ⟨by omega,hgs⟩) ?_
   walk_at "w"
   refine b9s (show c8j _ _ from ⟨by omega,hgs⟩) ?_
   walk_at "w"
   refine a3l fun r H' s' h'=>?_
   rw[a3f _ (by omega),a3f _ (by omega),e] at h'
   exact k r H' s' h'
theorem c2e:a1t ["_law_bag_here","_law_wide","_law_way"] ["_law_bag_here","_law_wide"] (a0l a7v):=by walk_at "d"
theorem c2i (T:Txt K mg Z):a6g P w K mg base CX0 2 Z.b3i Z.b2t ["_law_bag_here","_law_wide"] (e2x K):=by
 have a2g:=a9g (P:=P) (w:=w) (base:=base) T
 have a9j:=b7n (P:=P) (w:=w) (base:=base) T
 refine T.b3n.ok c2e (fun vs H Q E h=>?_) (fun cdv A outer s H vs Q E hr h=>?_)
 ·obtain ⟨b,w,rfl,hB,w0,w1,k⟩:=h
  rfl
 ·obtain ⟨b,w,rfl,hB,w0,w1,k⟩:=h
  refine ⟨_,(a0k (a1z (i:=2) c2e.nd rfl (Or.inl rfl) (a0p a2g (hr.mono (by decide)) rfl T.a2h T.a2l.kp T.a2p .nil a1o (a0b (pv 0) (a0b a0m a0g))))
   (a0k (a5u (a2b d4b (pv 2) a0m (a2o _)) (a0q (a1x (a5e (a0b a0m (a0b a0m a0g))))) a3c)
   (a0k (a5u (a2b d4b (pv 2) a0m (a2o _)) (a0q (a1x (a5e (a0b (a3i c4j (a0p a2g (hr.mono (by decide)) rfl T.a2h T.a2l.kp T.a2p .nil a1o (a0b (pv 0) (a0b a0m a0g))) a0m) (a0b a0m a0g))))) a3c)
   (a0k (a5u (a2b b1u (pv 2) a0m (a2o _)) (a0q (a1x (a0p a9j (hr.mono (by decide)) rfl T.b0x T.b1e.kp T.b3z .nil a1o (a0b (a3i c4j (a0p a2g (hr.mono (by decide)) rfl T.a2h T.a2l.kp T.a2p .nil a1o (a0b (pv 0) (a0b a0m a0g))) a0m) (a0b (a3i b1v a0m (a0p a2g (hr.mono (by decide)) rfl T.a2h T.a2l.kp T.a2p .nil a1o (a0b (pv 0) (a0b a0m a0g)))) a0g))))) a3c)
   (a0q (a1x (a0p a9j (hr.mono (by decide)) rfl T.b0x T.b1e.kp T.b3z .nil a1o (a0b (a3i c4j (a0p a2g (hr.mono (by decide)) rfl T.a2h T.a2l.kp T.a2p .nil a1o (a0b (pv 0) (a0b (a3i b1v (a3i a5h a0m (pv 1)) a0m) a0g))) (pv 1)) (a0b (a3i b1v a0m (a0p a2g (hr.mono (by decide)) rfl T.a2h T.a2l.kp T.a2p .nil a1o (a0b (pv 0) (a0b (pv 1) a0g)))) a0g))))))))),?_⟩
  refine a1h (σ:=[some (.ref b),some (.int w),none]) rfl ?_
  walk_at "w"
  refine ⟨b,8,rfl,hB,by decide,by decide,fun v H1 v0 v1 B1 u1=>?_⟩
  walk_at "w"
  refine c3j (fun h0=>?_) (fun h0=>?_)
  ·walk_at "w"
   refine a3l fun r H2 s2 g2=>?_
   exact k r 0 _ ⟨a1f _,by show 1<=_;omega⟩ (a5w.mk g2 rfl) (B1.same s2) (u1.same s2)
  walk_at "w"
  refine c3j (fun h1=>?_) (fun h1=>?_)
  ·walk_at "w"
   refine ⟨b,7,rfl,B1,by decide,by decide,fun a H2 a0 a1 B2 u2=>?_⟩
   walk_at "w"
   refine a3l fun r H3 s3 g3=>?_
   exact k r ((a - 3:Int):Rat) _ ⟨by show (a - 3).natAbs<=_;omega,by show 1<=_;omega⟩ (a5w.mk g3 rfl) (B2.same s3) ((u1.trans u2).same s3)
  walk_at "w"
  refine c3j (fun h2=>?_) (fun h2=>?_)
  ·walk_at "w"
   refine ⟨b,13,rfl,B1,by decide,by decide,fun a H2 a0 a1 B2 u2=>?_⟩
   walk_at "w"
   refine ⟨b,6,rfl,B2,by decide,by decide,fun c H3 c0 c1 B3 u3=>?_⟩
   walk_at "w"
   refine ⟨_,_,rfl,by omega,(f2d (by omega)).mono (by decide),fun r H4 s4 g4=>?_⟩
   obtain ⟨q,e,d,_⟩:=f2m (t:=a - 6) (b:=1+c) (W:=max w 6) (by omega) (by omega) (by omega)
   exact k r q _ d (a5w.mk g4 e) (B3.same s4) (((u1.trans u2).trans u3).same s4)
  walk_at "w"
  refine ⟨b,_,rfl,B1,by omega,by omega,fun a H2 a0 a1 B2 u2=>?_⟩
  walk_at "w"
  refine ⟨b,_,rfl,B2,by omega,by omega,fun c H3 c0 c1 B3 u3=>?_⟩
  walk_at "w"
  refine ⟨_,_,rfl,by omega,(f2d (by omega)).mono (by decide),fun r H4 s4 g4=>?_⟩
  obtain ⟨q,e,d,_⟩:=f2m (t:=a - w) (b:=1+c) (W:=max w 6) (by omega) (by omega) (by omega)
  exact k r q _ d (a5w.mk g4 e) (B3.same s4) (((u1.trans u2).trans u3).same s4)
theorem d8y:a1t ["_law_bag_here","_law_many","_law_wide"] ["_law_bag_here","_law_many","_law_wide"] (a0l b3r):=by walk_at "d"
theorem c3e (T:Txt K mg Z):a6g P w K mg base CX0 3 Z.c1q Z.c1h ["_law_bag_here","_law_many","_law_wide"] (e9v K):=by
 have b8v:=c2i (P:=P) (w:=w) (base:=base) T
 refine T.b4b.ok d8y (fun vs H Q E h=>?_) (fun cdv A outer s H vs Q E hr h=>?_)
 ·obtain ⟨b,m,w,rfl,hB,hm,w0,w1,k⟩:=h
  rfl
 ·obtain ⟨b,m,w,rfl,hB,hm,w0,w1,k⟩:=h
  refine ⟨_,(a0q (a1x (a3v ["_law_k"] ["_law_bag_here","_law_wide"] [0,2] (a3u rfl T.range (a0b (pv 1) a0g)) (fun _=>(a1i (i:=0) (show List.Nodup (α:=PySem.Str) ["_law_k","_law_bag_here","_law_wide"] by decide +kernel) rfl (Or.inl rfl) (Or.inl rfl))) (fun _=>a4j) (fun _=>(a0p b8v (hr.mono (by decide)) rfl T.b6f T.b3n.kp T.b8g .nil a1o (a0b (pv 1) (a0b (pv 2) a0g))))))),?_⟩
  refine a1h (σ:=[some (.ref b),some (.int m),some (.int w)]) rfl ?_
  walk_at "w"
  refine ⟨by omega,by omega,?_⟩
  refine e8e (n:=m) (a5w K) (Dr (max w 6)) hB hm (fun a u B=>a.upto u B) ?_ ?_
  ·rintro i H' NY NN hi u B k1
   walk_at "w"
   exact ⟨b,w,rfl,B,w0,w1,fun r x H2 hx h2 B2 u2=>k1 _ x _ u2 B2 hx h2⟩
  ·rintro ys cs H' p hp u B g lc hc pr nx
   exact k p cs H' hp ⟨ys,g,pr⟩ lc hc B u
theorem b1s:a1t ["_law_bag_here","_law_n","_law_way","_law_first","_law_wide","_law_move_here","_law_i","_law_row_here","_law_j"] ["_law_bag_here","_law_n","_law_way","_law_first","_law_wide"] (a0l b0t):=by walk_at "d"
theorem d6t (T : Txt K mg Z) : a6g P w K mg base CX0 4 Z.b8p Z.b8b ["_law_bag_here", "_law_n", "_law_way", "_law_first", "_law_wide"] (e9o K) := by
  have b4a := c3e (P := P) (w := w) (base := base) T
  have a2g := a9g (P := P) (w := w) (base := base) T
  refine T.c3q.ok b1s (fun vs H Q E h => ?_) (fun cdv A outer s H vs Q E hr h => ?_)
  · obtain ⟨b, n, w, way, first, rfl, hB, n8, w0, w1, k⟩ := h
    rfl
  · obtain ⟨b, n, w, way, first, rfl, hB, n8, w0, w1, k⟩ := h
    refine ⟨_, (a0k (a1z (i := 5) b1s.nd rfl (Or.inl rfl) (a9q a0g))
      (a0k (a6t PassesOwn.never rfl (a3u rfl T.range (a0b (pv 1) a0g)) (a1i (i := 6) b1s.nd rfl (Or.inl rfl) (Or.inl rfl))
        (a0k (a1z (i := 7) b1s.nd rfl (Or.inl rfl) (a0p b4a (hr.mono (by decide)) rfl T.b4h T.b4b.kp T.b7g .nil a1o (a0b (pv 0) (a0b (pv 1) (a0b (pv 4) a0g)))))
      (a0k (a6t PassesOwn.never rfl (a3u rfl T.range (a0b (pv 1) a0g)) (a1i (i := 8) b1s.nd rfl (Or.inl rfl) (Or.inl rfl))
        (a8k (a5u (PW.pt (b4v (a2b b1u (pv 2) a0m (a2o _)) (b6b (a2b d4c (a0p a2g (hr.mono (by decide)) rfl T.a2h T.a2l.kp T.a2p .nil a1o (a0b (pv 0) (a0b a0m a0g))) a0m (a2o _))))) (a0q (a8l (a5e (a0b a0m (a0b a0m a0g))) (b0j (pv 7) (pv 8) set_list))) a3c)
      (a8k (a5u (PW.pt (b4v (a2b b1u (pv 2) a0m (a2o _)) (b6b (a2b d4b (a3i b1v (pv 6) a0m) (pv 1) (a2o _))))) (a0q (a8l (a5e (a0b (b1t d7q (by rfl) T.int PyProof.Rows.boot_int (a0b (c3b b1u (pv 8) (a3i b1v (pv 6) a0m) (a2o _)) a0g)) (a0b a0m a0g))) (b0j (pv 7) (pv 8) set_list))) a3c)
      (a8k (a5u (PW.pt (c6k (PW.pt (b4v (a2b b1u (pv 2) a0m (a2o _)) (b4v (a2b e3l (pv 6) (pv 3) (a2o _)) (b6b (a2b d4b (pv 8) (pv 3) (a2o _)))))) (b7a (PW.pt (b4v (a2b b1u (pv 2) a0m (a2o _)) (b4v (a2b d4b (pv 6) (pv 3) (a2o _)) (b6b (a2b e3l (pv 8) (pv 3) (a2o _))))))))) (a0q (a8l (a5e (a0b a0m (a0b a0m a0g))) (b0j (pv 7) (pv 8) set_list))) a3c)
      (a0q (a5u (a2b b1u (pv 2) a0m (a2o _)) (a0q (a8l (a5e (a0b (a3i a5h (a2w a3a (a9q (a0b a0m (a0b a0m (a0b (d3w c3z a0m) (a0b a0m a0g))))) (a3i c2f (pv 3) a0m) (by intro _ _; rfl)) (b1t d7q (by rfl) T.int PyProof.Rows.boot_int (a0b (c3b b1u (pv 6) (pv 8) (a2o _)) a0g))) (a0b a0m a0g))) (b0j (pv 7) (pv 8) set_list))) a3c))))))
      (a0q (b6c (d9e a4n a8g a8f b9u (pv 5) (a0b (pv 7) a0g)))))))
      (a0q (a1x (pv 5))))), ?_⟩
    refine a1h (σ := [some (.ref b), some (.int n), some (.int way), some (.int first), some (.int w), none, none, none, none]) rfl ?_
    have W1 : 1 ≤ max w 6 := by omega
    walk_at "w"
    refine a6r fun r H1 s1 n1 g1 => ?_
    have rb : r ≠ b := fun z => hB.at (by rw [← z]; exact n1)
    obtain ⟨q0, I0, xs0, gq0⟩ := hB.inner
    have I1 : Inner H1 b q0 := (s1.upto (p := b)).2 _ I0
    obtain ⟨A, eA⟩ : ∃ A : Addr → Prop, A = fun q => H q = none ∧ q ≠ r := ⟨_, rfl⟩
    have nb : ¬ A b := by rw [eA]; exact fun z => hB.at z.1
    have nr : ¬ A r := by rw [eA]; exact fun z => z.2 rfl
    have nq : ¬ A q0 := by rw [eA]; exact fun z => by have z1 := z.1; rw [gq0] at z1; cases z1
    have rq : r ≠ q0 := fun z => by rw [← z, n1] at gq0; cases gq0
    walk_at "w"
    refine ⟨by omega, by omega, ?_⟩
    refine a7z (n := n) (fun i σ' H' => ∃ (x1 x2 x3 : Option V) (us : List V), σ' = [some (.ref b), some (.int n), some (.int way), some (.int first), some (.int w), some (.ref r), x1, x2, x3] ∧ H' r = some (.lst us) ∧ us.length = i ∧ us.Nodup ∧ (∀ x ∈ us, c2q K A H' n (Dr (max w 6)) x) ∧ Bag H' b ∧ Inner H' b q0 ∧ a7g b H H') ⟨none, none, none, [], rfl, g1, rfl, List.nodup_nil, (fun _ z => nomatch z), hB.same s1, I1, s1.upto⟩ ?_ ?_
    · rintro i σ' H' hi ⟨x1, x2, x3, us, rfl, gu, lu, nd, ru, B', I', u'⟩
      walk_at "w"
      refine ⟨b, n, w, rfl, B', by omega, w0, w1, fun p xs Ha np Ra la da Ba ua => ?_⟩
      have hp0 : H p = none := u'.none B' np
      have pn : V.ref p ∉ us := fun z => by
        obtain ⟨q', _, _, e', _, g', _⟩ := (ru _ z).at
        cases e'
        rw [np] at g'
        cases g'
      have ap' : H p = none ∧ p ≠ r := ⟨hp0, fun z => by rw [z, gu] at np; cases np⟩
      have ap : A p := by rw [eA]; exact ap'
      have X0 : MvJ K A n (Dr (max w 6)) r p b q0 us H Ha := ⟨ua.other rb gu, fun x hx => (ru x hx).upto ua B' nb, ⟨p, xs, rfl, ap, Ra, la, da⟩, Ba, ua.2 _ I', u'.trans ua⟩
      clear ru Ra gu
      walk_at "w"
      refine ⟨by omega, by omega, ?_⟩
      refine a7z (n := n) (fun j σ' H' => (∃ x3, σ' = [some (.ref b), some (.int n), some (.int way), some (.int first), some (.int w), some (.ref r), some (.int i), some (.ref p), x3]) ∧ MvJ K A n (Dr (max w 6)) r p b q0 us H H') ⟨⟨_, rfl⟩, X0⟩ ?_ ?_
      · rintro j σ' Hj hj ⟨⟨x3, rfl⟩, X⟩
        walk_at "w"
        refine ⟨fun σ' H' => σ' = [some (.ref b), some (.int n), some (.int way), some (.int first), some (.int w), some (.ref r), some (.int i), some (.ref p), some (.int j)] ∧ MvJ K A n (Dr (max w 6)) r p b q0 us H H', ?_, ?_⟩
        · walk_at "w"
          refine c3j (fun _ => ?_) (fun _ => ?_)
          · walk_at "w"
            refine ⟨b, 3, rfl, X.bag, by decide, by decide, fun d Hd d0 d1 Bd ud => ?_⟩
            replace X := X.upto ud Bd nb rb
            repeat' (first | walk_at "rd" | refine c3j (fun _ => ?_) (fun _ => ?_))
            all_goals first
              | exact ⟨rfl, X⟩
              | (refine a3l fun t Hb sb gb => ?_
                 walk_at "w"
                 obtain ⟨zs, gz, lz, Xz⟩ := (X.same sb).put ap nr nb nq hp0 (a5w.mk (q := 0) gb rfl) (c7t (i := 0) (a1f _) W1) j
                 refine a6q gz (a7f (by omega)) rfl ?_
                 exact ⟨rfl, Xz⟩)
          · walk_at "w"
            exact ⟨rfl, X⟩
        clear X
        rintro σ' Hj ⟨rfl, X⟩
        refine ⟨fun σ' H' => σ' = [some (.ref b), some (.int n), some (.int way), some (.int first), some (.int w), some (.ref r), some (.int i), some (.ref p), some (.int j)] ∧ MvJ K A n (Dr (max w 6)) r p b q0 us H H', ?_, ?_⟩
        · repeat' (first | walk_at "rd" | refine c3j (fun _ => ?_) (fun _ => ?_))
          all_goals first
            | exact ⟨rfl, X⟩
            | (refine a3l fun t Hb sb gb => ?_
               walk_at "w"
               obtain ⟨zs, gz, lz, Xz⟩ := (X.same sb).put ap nr nb nq hp0 (a5w.mk (q := ((if decide ((j : Int) = (i : Int) + 1) = true then (1 : Int) else 0 : Int) : Rat)) gb rfl) (c7t (by split <;> omega) W1) j
               refine a6q gz (a7f (by omega)) rfl ?_
               exact ⟨rfl, Xz⟩)
        clear X
        rintro σ' Hj ⟨rfl, X⟩
        refine ⟨fun σ' H' => σ' = [some (.ref b), some (.int n), some (.int way), some (.int first), some (.int w), some (.ref r), some (.int i), some (.ref p), some (.int j)] ∧ MvJ K A n (Dr (max w 6)) r p b q0 us H H', ?_, ?_⟩
        · repeat' (first | walk_at "rd" | refine c3j (fun _ => ?_) (fun _ => ?_))
          all_goals first
            | exact ⟨rfl, X⟩
            | (refine a3l fun t Hb sb gb => ?_
               walk_at "w"
               obtain ⟨zs, gz, lz, Xz⟩ := (X.same sb).put ap nr nb nq hp0 (a5w.mk (q := 0) gb rfl) (c7t (i := 0) (a1f _) W1) j
               refine a6q gz (a7f (by omega)) rfl ?_
               exact ⟨rfl, Xz⟩)
        clear X
        rintro σ' Hj ⟨rfl, X⟩
        walk_at "w"
        refine c3j (fun _ => ?_) (fun _ => ?_)
        · walk_at "w"
          refine a6r fun l0 Hc sc nc gc => ?_
          walk_at "w"
          obtain ⟨x, ex, mx, _⟩ := c1m (xs := [V.int 2, V.int 1, V.int (-1), V.int 0]) (i := first % 4) (b6l _ (by decide)) (by have := b0h first (show (0 : Int) < 4 by decide); simpa using this)
          obtain ⟨z, rfl, hz⟩ : ∃ z : Int, x = .int z ∧ z.natAbs ≤ 2 := by
            simp only [a0u, a1k, or_false] at mx
            rcases mx with rfl | rfl | rfl | rfl
            · exact ⟨2, rfl, by decide⟩
            · exact ⟨1, rfl, by decide⟩
            · exact ⟨-1, rfl, by decide⟩
            · exact ⟨0, rfl, by decide⟩
          refine a4b (SqL.of gc) ex ?_
          walk_at "w"
          refine b9s (d9u (by omega) (by omega)) ?_
          walk_at "w"
          refine a3l fun t Hb sb gb => ?_
          walk_at "w"
          obtain ⟨zs, gz, lz, Xz⟩ := ((X.same sc).same sb).put ap nr nb nq hp0 (a5w.mk (q := ((z * (if decide ((i : Int) = (j : Int)) = true then (1 : Int) else 0) : Int) : Rat)) gb rfl) (c7t (by split <;> omega) W1) j
          refine a6q gz (a7f (by omega)) rfl ?_
          exact ⟨⟨_, rfl⟩, Xz⟩
        · walk_at "w"
          exact ⟨⟨_, rfl⟩, X⟩
      · rintro σ' Hj ⟨⟨x3, rfl⟩, X⟩
        walk_at "w"
        refine ⟨.inl ⟨rfl, _, SqL.of X.gr⟩, ?_⟩
        walk_at "w"
        refine b9r X.gr (a2f (by omega)) ?_
        refine ⟨_, _, _, us ++ [.ref p], rfl, a0y, by simp [lu], d2l nd pn, fun x hx => ?_, X.bag.upd X.inn rb rq, X.inn.upd rb, X.up.after n1⟩
        rcases a0w.mp hx with hx | hx
        · exact (X.ru x hx).other X.gr nr
        · have e : x = V.ref p := by simpa using hx
          rw [e]; exact X.rp.other X.gr nr
    · rintro σ' H' ⟨x1, x2, x3, us, rfl, gu, lu, nd, ru, B', I', u'⟩
      walk_at "w"
      exact k r us H' n1 gu lu nd (by rw [eA] at ru; exact ru) B' u'
theorem d8x:a1t ["_law_one","_law_other"] ["_law_one","_law_other"] (a0l b3q):=by walk_at "d"
theorem b7m (T:Txt K mg Z):a6g P w K mg base CX0 2 Z.c1p Z.c1g ["_law_one","_law_other"] (c9e K (fun x y=>x+y)):=by
 have a9j:=b7n (P:=P) (w:=w) (base:=base) T
 refine T.b1c.ok d8x (fun vs H Q E h=>?_) (fun cdv A outer s H vs Q E hr h=>?_)
 ·obtain ⟨p,q,a,b,c,d,rfl,hp,hq,hb,hd,sa,sb,sc,sd,k⟩:=e8o h
  rfl
 ·obtain ⟨p,q,a,b,c,d,rfl,hp,hq,hb,hd,sa,sb,sc,sd,k⟩:=e8o h
  refine ⟨_,(a0q (a1x (a0p a9j (hr.mono (by decide)) rfl T.b0x T.b1e.kp T.b3z .nil a1o (a0b (a3i b1v (a3i a5h (a2w a4a (pv 0) a0m (by intro _ _;rfl)) (a2w a4a (pv 1) a0m (by intro _ _;rfl))) (a3i a5h (a2w a4a (pv 1) a0m (by intro _ _;rfl)) (a2w a4a (pv 0) a0m (by intro _ _;rfl)))) (a0b (a3i a5h (a2w a4a (pv 0) a0m (by intro _ _;rfl)) (a2w a4a (pv 1) a0m (by intro _ _;rfl))) a0g))))),?_⟩
  refine a1h (σ:=[some (.ref p),some (.ref q)]) rfl ?_
  have hbd:0 < b*d:=c3y hb hd
  have sbd:Sz 8999 (b*d):=(sb.mul sd).mono (by decide)
  walk_at "w"
  refine b9s (show b9d _ _ from .inr ⟨_,_,sa,sd,by decide⟩) ?_
  walk_at "w"
  refine b9s (show b9d _ _ from .inr ⟨_,_,sc,sb,by decide⟩) ?_
  walk_at "w"
  refine b9s (show b9d _ _ from .inr ⟨_,_,sb,sd,by decide⟩) ?_
  walk_at "w"
  walk_at "w"
  refine ⟨_,_,rfl,hbd,sbd,k⟩
theorem d6i:a1t ["_law_one","_law_other"] ["_law_one","_law_other"] (a0l b0s):=by walk_at "d"
theorem c7l (T:Txt K mg Z):a6g P w K mg base CX0 3 Z.b8o Z.b8a ["_law_one","_law_other"] (e9m K):=by
 have a9i:=b7m (P:=P) (w:=w) (base:=base) T
 refine T.b9b.ok d6i (fun vs H Q E h=>?_) (fun cdv A outer s H vs Q E hr h=>?_)
 ·obtain ⟨p,q,xs,ys,rfl,hp,hq,hl,hz,h1,h2,kk⟩:=h
  rfl
 ·obtain ⟨p,q,xs,ys,rfl,hp,hq,hl,hz,h1,h2,kk⟩:=h
  refine ⟨_,(a0q (a1x (a3v ["_law_k"] ["_law_one","_law_other"] [0,1] (a3u rfl T.range (a0b (a2k a1y (by rfl) T.len a1v (a0b (pv 0) a0g)) a0g)) (fun _=>(a1i (i:=0) (show List.Nodup (α:=PySem.Str) ["_law_k","_law_one","_law_other"] by decide +kernel) rfl (Or.inl rfl) (Or.inl rfl))) (fun _=>a4j) (fun _=>(a0p a9i (hr.mono (by decide)) rfl T.b0w T.b1c.kp T.b3y .nil a1o (a0b (a2w (b7s K (by rfl)) (pv 1) (pv 0) (by intro _ _;rfl)) (a0b (a2w (b7s K (by rfl)) (pv 2) (pv 0) (by intro _ _;rfl)) a0g))))))),?_⟩
  refine a1h (σ:=[some (.ref p),some (.ref q)]) rfl ?_
  obtain ⟨us,gu,qu⟩:=id hp
  obtain ⟨ws,gw,qw⟩:=id hq
  have lu:=qu.length
  walk_at "w"
  refine ⟨_,_,rfl,.inl (SqL.of gu),?_⟩
  walk_at "w"
  refine ⟨by omega,by omega,?_⟩
  refine b1x (n:=us.length) (a5w K) (fun i=>xs.getD i 0+ys.getD i 0) (by omega) (fun a b=>a.same b) ?_ ?_
  ·rintro i H' NY NN hi s k1
   have ix:i < xs.length:=by omega
   have iy:i < ys.length:=by omega
   obtain ⟨vx,ex,nx⟩:=ixQ (Paired.imp' (fun _ _ z=>z.same s) qu) ix
   obtain ⟨vy,ey,ny⟩:=ixQ (Paired.imp' (fun _ _ z=>z.same s) qw) iy
   walk_at "w"
   refine a4b (SqL.of (s _ _ gu)) ex ?_
   walk_at "w"
   refine a4b (SqL.of (s _ _ gw)) ey ?_
   walk_at "w"
   exact ⟨_,_,_,_,rfl,nx,ny,h1 _ (getD_mem ix),h2 _ (getD_mem iy),fun r3 H3 s3 n3=>k1 _ _ s3 n3⟩
  ·rintro ys' H' l hl' s g pr nx
   exact kk l H' hl' s ⟨ys',g,by rw[e4k (by omega)];rw[← lu] at pr;exact pr⟩
theorem d6h:a1t ["_law_one","_law_other"] ["_law_one","_law_other"] (a0l b0r):=by walk_at "d"
theorem b9t (T:Txt K mg Z):a6g P w K mg base CX0 2 Z.b8n Z.b7z ["_law_one","_law_other"] (c9e K (fun x y=>x*y)):=by
 have a9j:=b7n (P:=P) (w:=w) (base:=base) T
 refine T.b1d.ok d6h (fun vs H Q E h=>?_) (fun cdv A outer s H vs Q E hr h=>?_)
 ·obtain ⟨p,q,a,b,c,d,rfl,hp,hq,hb,hd,sa,sb,sc,sd,k⟩:=e7f h
  rfl
 ·obtain ⟨p,q,a,b,c,d,rfl,hp,hq,hb,hd,sa,sb,sc,sd,k⟩:=e7f h
  refine ⟨_,(a0q (a1x (a0p a9j (hr.mono (by decide)) rfl T.b0x T.b1e.kp T.b3z .nil a1o (a0b (a3i a5h (a2w a4a (pv 0) a0m (by intro _ _;rfl)) (a2w a4a (pv 1) a0m (by intro _ _;rfl))) (a0b (a3i a5h (a2w a4a (pv 0) a0m (by intro _ _;rfl)) (a2w a4a (pv 1) a0m (by intro _ _;rfl))) a0g))))),?_⟩
  refine a1h (σ:=[some (.ref p),some (.ref q)]) rfl ?_
  have hbd:0 < b*d:=c3y hb hd
  have sbd:Sz 8999 (b*d):=(sb.mul sd).mono (by decide)
  walk_at "w"
  refine b9s (show b9d _ _ from .inr ⟨_,_,sa,sc,by decide⟩) ?_
  walk_at "w"
  refine b9s (show b9d _ _ from .inr ⟨_,_,sb,sd,by decide⟩) ?_
  walk_at "w"
  walk_at "w"
  refine ⟨_,_,rfl,hbd,sbd,k⟩
theorem e3f:a1t ["_law_factor","_law_row_here"] ["_law_factor","_law_row_here"] (a0l b6y):=by walk_at "d"
theorem d2k (T:Txt K mg Z):a6g P w K mg base CX0 3 Z.c6a Z.c5g ["_law_factor","_law_row_here"] (f7m K):=by
 have b0z:=b9t (P:=P) (w:=w) (base:=base) T
 refine T.c6d.ok e3f (fun vs H Q E h=>?_) (fun cdv A outer s H vs Q E hr h=>?_)
 ·obtain ⟨u,q,c,ys,rfl,hc,sc,hq,hz,h2,kk⟩:=h
  rfl
 ·obtain ⟨u,q,c,ys,rfl,hc,sc,hq,hz,h2,kk⟩:=h
  refine ⟨_,(a0q (a1x (a3v ["_law_one"] ["_law_factor"] [0] (a4c (pv 1)) (fun _=>(a1i (i:=0) (show List.Nodup (α:=PySem.Str) ["_law_one","_law_factor"] by decide +kernel) rfl (Or.inl rfl) (Or.inl rfl))) (fun _=>a4j) (fun _=>(a0p b0z (hr.mono (by decide)) rfl T.b1w T.b1d.kp T.b4k .nil a1o (a0b (pv 1) (a0b (pv 0) a0g))))))),?_⟩
  refine a1h (σ:=[some u,some (.ref q)]) rfl ?_
  obtain ⟨us,gu,qu⟩:=id hq
  walk_at "w"
  refine ⟨⟨_,SqL.of gu⟩,?_⟩
  refine a9w (K:=K) (F:=a5w K) (a5w K) (fun y=>c*y) gu qu hz (fun a b=>a.same b) (fun a b=>a.same b) ?_ ?_
  ·rintro i y x H' NY NN en s hx k
   walk_at "w"
   exact ⟨_,_,_,_,rfl,hc.same s,hx,sc,h2 y (a0j en),fun r H2 s2 h2'=>k _ _ s2 h2'⟩
  ·rintro ys' H' r hr s g pr nx
   exact kk r H' hr s ⟨ys',g,pr⟩
theorem a4v:a1t ["_law_bag_here","_law_move_here","_law_put","_law_look","_law_n","_law_turn","_law_i","_law_j","_law_by_here","_law_less","_law_row_here"] ["_law_bag_here","_law_move_here","_law_put","_law_look"] (a0l a9e):=by walk_at "d"
theorem d4h (T:Txt K mg Z):a6g P w K mg base CX0 4 Z.b5s Z.b5j ["_law_bag_here","_law_move_here","_law_put","_law_look"] (e5i K):=by
 have a2g:=a9g (P:=P) (w:=w) (base:=base) T
 have c3m:=c7l (P:=P) (w:=w) (base:=base) T
 have d0p:=d2k (P:=P) (w:=w) (base:=base) T
 have a9i:=b7m (P:=P) (w:=w) (base:=base) T
 have b0z:=b9t (P:=P) (w:=w) (base:=base) T
 refine T.c0q.ok a4v (fun vs H Q E h=>?_) (fun cdv A outer s H vs Q E hr h=>?_)
 ·obtain ⟨b,m,p,l,q0,n,M,WV,A,us,ws,vs,rfl,MA,X,n8,i4,o4,M0,M1,V1,hA,k⟩:=h
  rfl
 ·obtain ⟨b,m,p,l,q0,n,M,WV,A,us,ws,vs,rfl,MA,X,n8,i4,o4,M0,M1,V1,hA,k⟩:=h
  refine ⟨_,(a0k (a1z (i:=4) a4v.nd rfl (Or.inl rfl) (a2k a1y (by rfl) T.len a1v (a0b (pv 1) a0g)))
   (a0k (a5u (PW.pt (c6k (a2b d4b (pv 4) a0m (a2o _)) (b7a (a2b b1u (a0p a2g (hr.mono (by decide)) rfl T.a2h T.a2l.kp T.a2p .nil a1o (a0b (pv 0) (a0b a0m a0g))) a0m (a2o _))))) (a0q (a1x (a5e (a0b (pv 1) (a0b (pv 2) (a0b (pv 3) a0g)))))) a3c)
   (a0k (a6t PassesOwn.never rfl (a3u rfl T.range (a0b (a3i b1v a0m (a0p a2g (hr.mono (by decide)) rfl T.a2h T.a2l.kp T.a2p .nil a1o (a0b (pv 0) (a0b a0m a0g)))) a0g)) (a1i (i:=5) a4v.nd rfl (Or.inl rfl) (Or.inl rfl))
    (a0k (a1z (i:=6) a4v.nd rfl (Or.inl rfl) (a0p a2g (hr.mono (by decide)) rfl T.a2h T.a2l.kp T.a2p .nil a1o (a0b (pv 0) (a0b (pv 4) a0g))))
   (a0k (a1z (i:=7) a4v.nd rfl (Or.inl rfl) (a3i c2f (a3i b1v (a3i b1v (pv 6) a0m) (a0p a2g (hr.mono (by decide)) rfl T.a2h T.a2l.kp T.a2p .nil a1o (a0b (pv 0) (a0b (a3i c4j (pv 4) a0m) a0g)))) (pv 4)))
   (a0k (a1z (i:=8) a4v.nd rfl (Or.inl rfl) (a5e (a0b (a2w a3a (a9q (a0b a0m (a0b (d3w c3z a0m) (a0b a0m (a0b (d3w c3z a0m) a0g))))) (a0p a2g (hr.mono (by decide)) rfl T.a2h T.a2l.kp T.a2p .nil a1o (a0b (pv 0) (a0b a0m a0g))) (by intro _ _;rfl)) (a0b a0m a0g))))
   (a0k (a1z (i:=9) a4v.nd rfl (Or.inl rfl) (a5e (a0b (a3i c4j a0m (a2w a4a (pv 8) a0m (by intro _ _;rfl))) (a0b a0m a0g))))
   (a0k (a8l (a0p c3m (hr.mono (by decide)) rfl T.b9w T.b9b.kp T.c3k .nil a1o (a0b (a2w a3a (pv 1) (pv 6) (by intro _ _;rfl)) (a0b (a0p d0p (hr.mono (by decide)) rfl T.c6t T.c6d.kp T.d0h .nil a1o (a0b (pv 8) (a0b (a2w a3a (pv 1) (pv 7) (by intro _ _;rfl)) a0g))) a0g))) (b0j (pv 1) (pv 6) set_list))
   (a0k (a6t PassesOwn.never rfl (a4c (a3i c7j (pv 1) (pv 3))) (a1i (i:=10) a4v.nd rfl (Or.inl rfl) (Or.inl rfl))
    (a0q (a8l (a0p a9i (hr.mono (by decide)) rfl T.b0w T.b1c.kp T.b3y .nil a1o (a0b (a2w a3a (pv 10) (pv 7) (by intro _ _;rfl)) (a0b (a0p b0z (hr.mono (by decide)) rfl T.b1w T.b1d.kp T.b4k .nil a1o (a0b (pv 9) (a0b (a2w a3a (pv 10) (pv 6) (by intro _ _;rfl)) a0g))) a0g))) (b0j (pv 10) (pv 7) set_list))))
   (a0q (a6t PassesOwn.never rfl (a4c (pv 2)) (a1i (i:=10) a4v.nd rfl (Or.inl rfl) (Or.inl rfl))
    (a0q (a8l (a0p a9i (hr.mono (by decide)) rfl T.b0w T.b1c.kp T.b3y .nil a1o (a0b (a2w a3a (pv 10) (pv 6) (by intro _ _;rfl)) (a0b (a0p b0z (hr.mono (by decide)) rfl T.b1w T.b1d.kp T.b4k .nil a1o (a0b (pv 8) (a0b (a2w a3a (pv 10) (pv 7) (by intro _ _;rfl)) a0g))) a0g))) (b0j (pv 10) (pv 6) set_list))))))))))))
   (a0q (a1x (a5e (a0b (pv 1) (a0b (pv 2) (a0b (pv 3) a0g))))))))),?_⟩
  refine a1h (σ:=[some (.ref b),some (.ref m),some (.ref p),some (.ref l),none,none,none,none,none,none,none]) rfl ?_
  have done:∀r us' H' t,t<=3->H' r=some (.tup [.ref m,.ref p,.ref l])->c7b K A H' n (fun _=>Fr M (9^t*WV)) m p l b q0 us' ws vs->b4l A b m H H'->Q (.ref r) H':=fun r us' H' t ht g x kp=>k r us' H' g (x.weak fun _ _ y h=>h.mono (a0n _ (a0f (by decide) ht))) kp
  have X0:c7b K A H n (fun _=>Fr M (9^0*WV)) m p l b q0 us ws vs:=X.weak fun _ _ y h=>h.mono (by simp)
  clear X k
  have gu:=X0.gm
  have lu:=X0.lm
  walk_at "w"
  refine ⟨_,_,rfl,.inl (SqL.of gu),?_⟩
  rw[lu]
  clear gu lu
  have kp0:b4l A b m H H:=fun _ _ h _ _ _=>h
  walk_at "w"
  refine c3j (fun h0=>?_) (fun h0=>?_)
  ·walk_at "w"
   refine a3l fun r H' s' g'=>?_
   exact done r us H' 0 (by decide) g' (X0.same s') (kp0.same s')
  have n2:2<=n:=by
   rcases a2x n 2 with z | z
   ·exact absurd (decide_eq_true (show (n:Int) < 2 by omega)) h0
   ·exact z
  walk_at "w"
  refine ⟨b,2,rfl,X0.bag,by decide,by decide,fun v H1 v0 v1 B1 u1=>?_⟩
  have X1:=X0.upto MA u1 B1
  have kp1:=kp0.upto u1
  walk_at "w"
  refine c3j (fun h1=>?_) (fun h1=>?_)
  ·walk_at "w"
   refine a3l fun r H' s' g'=>?_
   exact done r us H' 0 (by decide) g' (X1.same s') (kp1.same s')
  walk_at "w"
  refine ⟨b,3,rfl,B1,by decide,by decide,fun c H2 c0 c1 B2 u2=>?_⟩
  have X2:=X1.upto MA u2 B2
  have kp2:=kp1.upto u2
  clear X0 X1 kp0 kp1 u1 u2 B1
  walk_at "w"
  refine ⟨by omega,by omega,?_⟩
  refine a7z (n:=(1+c).toNat) (fun t σ' H'=>∃(x1 x2 x3 x4 x5 x6:Option V) (us:List V),σ'=[some (.ref b),some (.ref m),some (.ref p),some (.ref l),some (.int n),x1,x2,x3,x4,x5,x6]∧c7b K A H' n (fun _=>Fr M (9^t*WV)) m p l b q0 us ws vs∧b4l A b m H H') ⟨none,none,none,none,none,none,us,rfl,X2,kp2⟩ ?_ ?_
  ·rintro t σ' H' ht ⟨x1,x2,x3,x4,x5,x6,us,rfl,X,kp⟩
   have t3:t<=2:=by omega
   walk_at "w"
   refine ⟨b,n,rfl,X.bag,by omega,by omega,fun ii Ha i0 i1 Ba ua=>?_⟩
   obtain ⟨ii,rfl⟩:=a9m i0
   have Xa:=X.upto MA ua Ba
   have kpa:=kp.upto ua
   walk_at "w"
   refine ⟨b,_,rfl,Ba,by omega,by omega,fun d Hb d0 d1 Bb ub=>?_⟩
   have Xb:=Xa.upto MA ub Bb
   have kpb:=kpa.upto ub
   walk_at "w"
   refine b9s (show (0:Int) < n by omega) ?_
   have j0:=b6l ((ii:Int)+1+d) (show (n:Int)≠0 by omega)
   have j1:=b0h ((ii:Int)+1+d) (show (0:Int) < n by omega)
   generalize ((ii:Int)+1+d) % (n:Int)=jj at j0 j1 ⊢
   obtain ⟨jj,rfl⟩:=a9m j0
   walk_at "w"
   refine a6r fun l0 Hc sc nc gc=>?_
   walk_at "w"
   refine ⟨b,4,rfl,Bb.same sc,by decide,by decide,fun v' Hd v0' v1' Bd ud=>?_⟩
   have gd:=ud.other (fun z=>Bb.at (by rw[← z];exact nc)) gc
   obtain ⟨x,ex,mx,_⟩:=c1m (xs:=[V.int 1,V.int (-1),V.int 2,V.int (-2)]) v0' (by simpa using v1')
   obtain ⟨z,rfl,hz⟩:∃z:Int,x=.int z∧z.natAbs<=2:=by
    simp only[a0u,a1k,or_false] at mx
    rcases mx with rfl | rfl | rfl | rfl
    ·exact ⟨1,rfl,by decide⟩
    ·exact ⟨-1,rfl,by decide⟩
    ·exact ⟨2,rfl,by decide⟩
    ·exact ⟨-2,rfl,by decide⟩
   have Xd:=(Xb.same sc).upto MA ud Bd
   have kpd:=(kpb.same sc).upto ud
   walk_at "w"
   refine a4b (SqL.of gd) ex ?_
   walk_at "w"
   refine a3l fun bt He se ge=>?_
   walk_at "w"
   refine a3l fun lt Hf sf gf=>?_
   have Xf:=(Xd.same se).same sf
   have kpf:=(kpd.same se).same sf
   have nb:a5w K Hf ((z:Int):Rat) (.ref bt):=a5w.mk (sf _ _ ge) rfl
   have nl:a5w K Hf ((0 - z:Int):Rat) (.ref lt):=a5w.mk gf rfl
   clear X Xa Xb Xd kp kpa kpb kpd ua ub ud sc gc gd ex mx ge gf se sf Ba Bb Bd nc
   have gu:=Xf.gm
   have lu:=Xf.lm
   have ru:∀x∈us,c2q K A Hf n (Fr M (9^t*WV)) x:=fun x hx=>Xf.row x (by simp [hx])
   have e1:us[ii]?=some (us[ii]'(by omega)):=by simp
   have e2:us[jj]?=some (us[jj]'(by omega)):=by simp
   obtain ⟨q1,z1,qs1,w1,a1,g1,k1,p1,l1,c1⟩:=(ru _ (a0j e1)).at
   obtain ⟨q2,z2,qs2,w2,a2,g2,k2,p2,l2,c2⟩:=(ru _ (a0j e2)).at
   rw[w1] at e1
   rw[w2] at e2
   generalize eW:9^t*WV=W at *
   have W9:9*W<=2^140:=by rw[← eW];exact f4z (by omega) V1 (by decide)
   have sz9:∀{x:Rat} {U:Nat},U<=9*W->Fr M U x->SzN x:=fun hU h=>f5o M0 M1 (a0d hU W9) h
   walk_at "w"
   refine a4b (SqL.of gu) (b2c e1) ?_
   walk_at "w"
   refine a4b (SqL.of gu) (b2c e2) ?_
   walk_at "w"
   refine ⟨_,q2,_,qs2,rfl,nb,d8o (by omega),⟨z2,g2,p2⟩,by omega,fun y hy=>sz9 (by omega) (c2 y hy),fun r1 Hg n1 sg R1=>?_⟩
   walk_at "w"
   refine ⟨q1,r1,qs1,_,rfl,⟨z1,sg _ _ g1,Paired.imp' (fun _ _ y=>y.same sg) p1⟩,R1,by rw[a0e,l1,l2],by omega,fun y hy=>sz9 (by omega) (c1 y hy),fun y hy=>?_,fun r2 Hh n2' sh R2=>?_⟩
   ·obtain ⟨y',hy',rfl⟩:=a0t.mp hy
    exact d3h hz (c2 y' hy') M0 M1 (by omega)
   have sfh:=sg.trans sh
   have new:V.ref r2∉us++vs++ws:=fun z=>by
    obtain ⟨q',_,_,e',_,g',_⟩:=((Xf.same sg).row _ z).at
    cases e'
    rw[n2'] at g'
    cases g'
   have Xh:=(Xf.same sfh).weak (C':=fun x y=>(x∈ws->Fr M W y)∧Fr M (3*W) y) fun x _ y h=>⟨fun _=>h,h.mono (by omega)⟩
   have kph:=kpf.same sfh
   have guh:=sfh _ _ gu
   have ar2:A r2:=(kpf.same sg).new hA (Xf.same sg).bag (by rw[sg _ _ gu];simp) n2'
   have rp2:c2q K A Hh n (fun y=>(V.ref r2∈ws->Fr M W y)∧Fr M (3*W) y) (.ref r2):=by
    refine ⟨r2,_,rfl,ar2,R2,by rw[a2i,a0e];omega,fun y hy=>⟨fun z=>absurd (a0w.mpr (.inr z)) new,?_⟩⟩
    obtain ⟨j',hj',e⟩:=a2c hy
    rw[b2f,a5r] at e
    rw[← e]
    exact d9q hz (c1 _ (a0z _)) (c2 _ (a0z _))
   walk_at "w"
   refine a6q guh (a7f (by omega)) rfl ?_
   have Xi:=Xh.set MA rp2 new ii
   have kpi:=kph.upd (o:=.lst (us.set ii (.ref r2))) (q:=m) (.inr rfl)
   have nli:a5w K (upd Hh m (.lst (us.set ii (.ref r2)))) ((0 - z:Int):Rat) (.ref lt):=(nl.same sfh).updL guh
   have nbi:a5w K (upd Hh m (.lst (us.set ii (.ref r2)))) ((z:Int):Rat) (.ref bt):=(nb.same sfh).updL guh
   generalize upd Hh m (.lst (us.set ii (.ref r2)))=Hi at Xi kpi nli nbi ⊢
   generalize us.set ii (.ref r2)=um at Xi
   clear nb nl Xf kpf gu ru e1 e2 g1 p1 g2 p2 R1 R2 Xh kph guh rp2 sg sh sfh new
   have gm:=Xi.gm
   have lm:=Xi.lm
   have gl:=Xi.gl
   have nd:=Xi.nd
   obtain ⟨nd1,nd2,nd3⟩:=b2a.mp nd
   walk_at "w"
   refine c7i gm gl (a1j (a2f (by omega))) fun cl Hj sj nj gj=>?_
   have kpj:=kpi.same sj
   have rows:∀x∈um++vs,∀q,x=V.ref q->q≠cl:=fun x hx q e y=>by
    obtain ⟨q',zs,_,e',_,g',_⟩:=(Xi.row x (a0w.mpr (.inl hx))).at
    rw[e] at e'
    cases e'
    rw[y,nj] at g'
    cases g'
   have Xj:=(Xi.same sj).weak (C':=fun x y=>(x∈ws->Fr M W y)∧(x∈(um++vs).drop 0->Fr M (3*W) y)∧Fr M (9*W) y) fun x _ y h=>⟨h.1,fun _=>h.2,h.2.mono (by omega)⟩
   have lj:a5w K Hj ((0 - z:Int):Rat) (.ref lt):=nli.same sj
   have bj:a5w K Hj ((z:Int):Rat) (.ref bt):=nbi.same sj
   clear Xi kpi nli nbi
   refine ⟨_,rfl,⟨_,SqL.of gj⟩,?_⟩
   refine b1j (K:=K) (a:=cl) (xs:=um++vs) (fun s σ' H'=>∃x6:Option V,σ'=[some (.ref b),some (.ref m),some (.ref p),some (.ref l),some (.int n),some (.int t),some (.int ii),some (.int jj),some (.ref bt),some (.ref lt),x6]∧c7b K A H' n (fun x y=>(x∈ws->Fr M W y)∧(x∈(um++vs).drop s->Fr M (3*W) y)∧Fr M (9*W) y) m p l b q0 um ws vs∧b4l A b m H H'∧H' cl=some (.lst (um++vs))∧a5w K H' ((0 - z:Int):Rat) (.ref lt)∧a5w K H' ((z:Int):Rat) (.ref bt)) ⟨_,rfl,Xj,kpj,gj,lj,bj⟩ (fun s σ' H' _ ⟨_,_,_,_,e,_⟩=>SqL.of e) ?_ ?_
   ·rintro s x σ' Hk hx ⟨y6,rfl,Xk,kpk,gk,lk,bk⟩
    have hs:s < (um++vs).length:=(a0s.mp hx).1
    have mx:=a0j hx
    have xd:x∈(um++vs).drop s:=by
     rw[a5g hs,(a0s.mp hx).2]
     exact .head _
    have xd2:x∉(um++vs).drop (s+1):=fun z=>by
     have:=nd1.sublist (List.drop_sublist s _)
     rw[a5g hs,a5n,(a0s.mp hx).2] at this
     exact this.1 z
    have xw:x∉ws:=fun z=>nd3 x mx x z rfl
    have rx:=Xk.row x (a0w.mpr (.inl mx))
    obtain ⟨q,zs,qs,rfl,aq,gq,lq,pq,lq2,cq⟩:=rx.at
    have qcl:=rows _ mx q rfl
    obtain ⟨vj,ej,nj'⟩:=ixQ pq (j:=jj) (by omega)
    obtain ⟨vi,ei,ni'⟩:=ixQ pq (j:=ii) (by omega)
    have cj:=(cq _ (getD_mem (xs:=qs) (i:=jj) (by omega))).2.1 xd
    have ci:=(cq _ (getD_mem (xs:=qs) (i:=ii) (by omega))).2.1 xd
    walk_at "w"
    refine a4b (SqL.of gq) ej ?_
    walk_at "w"
    refine a4b (SqL.of gq) ei ?_
    walk_at "w"
    refine ⟨_,_,_,_,rfl,lk,ni',d8o (by omega),sz9 (by omega) ci,fun r3 Hl sl n3=>?_⟩
    walk_at "w"
    refine ⟨_,_,_,_,rfl,nj'.same sl,n3,sz9 (by omega) cj,d3h (by omega) ci M0 M1 (by omega),fun r4 Hm sm n4=>?_⟩
    have slm:=sl.trans sm
    walk_at "w"
    refine a6q (slm _ _ gq) (a7f (by omega)) rfl ?_
    refine ⟨_,rfl,?_,(kpk.same slm).upd (.inl aq),by rw[a2d qcl.symm];exact slm _ _ gk,(lk.same slm).updL (slm _ _ gq),(bk.same slm).updL (slm _ _ gq)⟩
    refine ((Xk.same slm).weak fun x' _ y h=>⟨h.1,fun z=>h.2.1 ?_,h.2.2⟩).put MA aq (slm _ _ gq) n4 ⟨fun z=>absurd z xw,fun z=>absurd z xd2,?_⟩ jj
    ·rw[a5g hs]
     exact .tail _ z
    ·exact (d9q (by omega) cj ci).mono (by omega)
   ·rintro σ' Hk ⟨y6,rfl,Xk,kpk,gk,lk,bk⟩
    have gp:=Xk.gp
    have Xk2:=Xk.weak (C':=fun x y=>(x∈ws.drop 0->Fr M W y)∧Fr M (9*W) y) fun x _ y h=>⟨fun z=>h.1 (by simpa using z),h.2.2⟩
    clear Xk
    walk_at "w"
    refine ⟨⟨_,SqL.of gp⟩,?_⟩
    refine b1j (K:=K) (a:=p) (xs:=ws) (fun s σ' H'=>∃x6:Option V,σ'=[some (.ref b),some (.ref m),some (.ref p),some (.ref l),some (.int n),some (.int t),some (.int ii),some (.int jj),some (.ref bt),some (.ref lt),x6]∧c7b K A H' n (fun x y=>(x∈ws.drop s->Fr M W y)∧Fr M (9*W) y) m p l b q0 um ws vs∧b4l A b m H H'∧a5w K H' ((z:Int):Rat) (.ref bt)) ⟨_,rfl,Xk2,kpk,bk⟩ (fun s σ' H' _ ⟨_,_,X,_⟩=>SqL.of X.gp) ?_ ?_
    ·rintro s x σ' Hl hx ⟨w6,rfl,Xl,kpl,bl⟩
     have hs:s < ws.length:=(a0s.mp hx).1
     have mx:=a0j hx
     have xd:x∈ws.drop s:=by
      rw[a5g hs,(a0s.mp hx).2]
      exact .head _
     have xd2:x∉ws.drop (s+1):=fun z=>by
      have:=nd2.sublist (List.drop_sublist s _)
      rw[a5g hs,a5n,(a0s.mp hx).2] at this
      exact this.1 z
     have rx:=Xl.row x (a0w.mpr (.inr mx))
     obtain ⟨q,zs,qs,rfl,aq,gq,lq,pq,lq2,cq⟩:=rx.at
     obtain ⟨vj,ej,nj'⟩:=ixQ pq (j:=jj) (by omega)
     obtain ⟨vi,ei,ni'⟩:=ixQ pq (j:=ii) (by omega)
     have cj:=(cq _ (getD_mem (xs:=qs) (i:=jj) (by omega))).1 xd
     have ci:=(cq _ (getD_mem (xs:=qs) (i:=ii) (by omega))).1 xd
     walk_at "w"
     refine a4b (SqL.of gq) ei ?_
     walk_at "w"
     refine a4b (SqL.of gq) ej ?_
     walk_at "w"
     refine ⟨_,_,_,_,rfl,bl,nj',d8o (by omega),sz9 (by omega) cj,fun r3 Hm sm n3=>?_⟩
     walk_at "w"
     refine ⟨_,_,_,_,rfl,ni'.same sm,n3,sz9 (by omega) ci,d3h (by omega) cj M0 M1 (by omega),fun r4 Hn sn n4=>?_⟩
     have smn:=sm.trans sn
     walk_at "w"
     refine a6q (smn _ _ gq) (a7f (by omega)) rfl ?_
     refine ⟨_,rfl,?_,(kpl.same smn).upd (.inl aq),(bl.same smn).updL (smn _ _ gq)⟩
     refine ((Xl.same smn).weak fun x' _ y h=>⟨fun z=>h.1 ?_,h.2⟩).put MA aq (smn _ _ gq) n4 ⟨fun z=>absurd z xd2,?_⟩ ii
     ·rw[a5g hs]
      exact .tail _ z
     ·exact (d9q (by omega) ci cj).mono (by omega)
    ·rintro σ' Hl ⟨w6,rfl,Xl,kpl,bl⟩
     refine ⟨_,_,_,_,_,_,um,rfl,Xl.weak fun _ _ y h=>h.2.mono ?_,kpl⟩
     rw[← eW,b1q,a3d (9^t) 9,a6x]
     exact a0h _
  ·rintro σ' H' ⟨x1,x2,x3,x4,x5,x6,us',rfl,X,kp⟩
   walk_at "w"
   refine a3l fun r H2' s' g'=>?_
   exact done r us' H2' _ (by omega) g' (X.same s') (kp.same s')
theorem a4u:a1t ["_law_bag_here","_law_n","_law_ins","_law_outs","_law_wide","_law_way","_law_first","_law_move_here","_law_put","_law_look","_law_k","_law_row_here"] ["_law_bag_here","_law_n","_law_ins","_law_outs","_law_wide"] (a0l a9d):=by walk_at "d"
theorem d4g (T : Txt K mg Z) : a6g P w K mg base CX0 5 Z.b5r Z.b5i ["_law_bag_here", "_law_n", "_law_ins", "_law_outs", "_law_wide"] (e5d K) := by
  have a2g := a9g (P := P) (w := w) (base := base) T
  have e0h := d6t (P := P) (w := w) (base := base) T
  have b4a := c3e (P := P) (w := w) (base := base) T
  have d8f := d4h (P := P) (w := w) (base := base) T
  refine T.c0p.ok a4u (fun vs H Q E h => ?_) (fun cdv A outer s H vs Q E hr h => ?_)
  · obtain ⟨b, n, i, o, w, c, rfl, hB, n8, i4, o4, w0, w1, hc, hc20, hcM, k⟩ := h
    rfl
  · obtain ⟨b, n, i, o, w, c, rfl, hB, n8, i4, o4, w0, w1, hc, hc20, hcM, k⟩ := h
    refine ⟨_, (a0k (a1z (i := 5) a4u.nd rfl (Or.inl rfl) (a0p a2g (hr.mono (by decide)) rfl T.a2h T.a2l.kp T.a2p .nil a1o (a0b (pv 0) (a0b a0m a0g))))
      (a0k (a1z (i := 6) a4u.nd rfl (Or.inl rfl) (a0p a2g (hr.mono (by decide)) rfl T.a2h T.a2l.kp T.a2p .nil a1o (a0b (pv 0) (a0b (a3i b1v (pv 1) a0m) a0g))))
      (a0k (a1z (i := 7) a4u.nd rfl (Or.inl rfl) (a0p e0h (hr.mono (by decide)) rfl T.c7q T.c3q.kp T.d0g .nil a1o (a0b (pv 0) (a0b (pv 1) (a0b (pv 5) (a0b (pv 6) (a0b (pv 4) a0g)))))))
      (a0k (c6l 8 ["_law_k"] ["_law_bag_here", "_law_n", "_law_wide"] [0, 1, 4] a4u.nd rfl rfl (a3u rfl T.range (a0b (pv 2) a0g)) (fun _ => (a1i (i := 0) (show List.Nodup (α := PySem.Str) ["_law_k", "_law_bag_here", "_law_n", "_law_wide"] by decide +kernel) rfl (Or.inl rfl) (Or.inl rfl))) (fun _ => a4j) (fun _ => (a0p b4a (hr.mono (by decide)) rfl T.b4h T.b4b.kp T.b7g .nil a1o (a0b (pv 1) (a0b (pv 2) (a0b (pv 3) a0g))))))
      (a0k (c6l 9 ["_law_k"] ["_law_bag_here", "_law_n", "_law_wide"] [0, 1, 4] a4u.nd rfl rfl (a3u rfl T.range (a0b (pv 3) a0g)) (fun _ => (a1i (i := 0) (show List.Nodup (α := PySem.Str) ["_law_k", "_law_bag_here", "_law_n", "_law_wide"] by decide +kernel) rfl (Or.inl rfl) (Or.inl rfl))) (fun _ => a4j) (fun _ => (a0p b4a (hr.mono (by decide)) rfl T.b4h T.b4b.kp T.b7g .nil a1o (a0b (pv 1) (a0b (pv 2) (a0b (pv 3) a0g))))))
      (a0k (a6t PassesOwn.never rfl (a3u rfl T.range (a0b (pv 1) a0g)) (a1i (i := 10) a4u.nd rfl (Or.inl rfl) (Or.inl rfl))
        (a0k (a6t PassesOwn.never rfl (a4c (pv 8)) (a1i (i := 11) a4u.nd rfl (Or.inl rfl) (Or.inl rfl))
        (a0q (a5u (PW.pt (c6k (PW.pt (b4v (a2b b1u (pv 5) a0m (a2o _)) (b6b (a2b e3l (pv 10) (pv 6) (a2o _))))) (b7a (PW.pt (b4v (a2b b1u (pv 5) a0m (a2o _)) (b4v (a2b d4b (a3i b1v (pv 10) a0m) (pv 1) (a2o _)) (b6b (a2b b1u (a0p a2g (hr.mono (by decide)) rfl T.a2h T.a2l.kp T.a2p .nil a1o (a0b (pv 0) (a0b a0m a0g))) a0m (a2o _))))))))) (a0q (a8l (a5e (a0b a0m (a0b a0m a0g))) (b0j (pv 11) (pv 10) set_list))) a3c)))
      (a0q (a6t PassesOwn.never rfl (a4c (pv 9)) (a1i (i := 11) a4u.nd rfl (Or.inl rfl) (Or.inl rfl))
        (a0q (a5u (PW.pt (c6k (PW.pt (b4v (a2b b1u (pv 5) a0m (a2o _)) (b6b (a2b e3l (pv 10) (pv 6) (a2o _))))) (b7a (PW.pt (b4v (a2b b1u (pv 5) a0m (a2o _)) (b4v (a2b d4c (pv 10) a0m (a2o _)) (b6b (a2b b1u (a0p a2g (hr.mono (by decide)) rfl T.a2h T.a2l.kp T.a2p .nil a1o (a0b (pv 0) (a0b a0m a0g))) a0m (a2o _))))))))) (a0q (a8l (a5e (a0b a0m (a0b a0m a0g))) (b0j (pv 11) (pv 10) set_list))) a3c))))))
      (a0q (a1x (a0p d8f (hr.mono (by decide)) rfl T.c4u T.c0q.kp T.c7y .nil a1o (a0b (pv 0) (a0b (pv 7) (a0b (pv 8) (a0b (pv 9) a0g))))))))))))), ?_⟩
    refine a1h (σ := [some (.ref b), some (.int n), some (.int i), some (.int o), some (.int w), none, none, none, none, none, none, none]) rfl ?_
    have W1 : 1 ≤ max w 6 := by omega
    obtain ⟨q0, I0, xs0, gq0⟩ := hB.inner
    walk_at "w"
    refine ⟨b, 6, rfl, hB, by decide, by decide, fun way H1 a0 a1 B1 u1 => ?_⟩
    walk_at "w"
    refine ⟨b, _, rfl, B1, by omega, by omega, fun first H2 f0 f1 B2 u2 => ?_⟩
    have u02 := u1.trans u2
    walk_at "w"
    refine ⟨b, n, w, way, first, rfl, B2, n8, w0, w1, fun m us H3 nm0 gm lm ndm rm B3 u3 => ?_⟩
    have u03 := u02.trans u3
    walk_at "w"
    refine ⟨by omega, by omega, ?_⟩
    refine d7o (n := i) (b := b) (a8x K H3) (fun xs => xs.length = n ∧ ∀ x ∈ xs, Dr (max w 6) x) B3 (by omega) (fun a u B => a.upto u B B3.at) (fun ⟨q, e, _, _, g, _⟩ => ⟨q, e, by rw [g]; exact fun z => nomatch z⟩) ?_ ?_
    · rintro s H' NY NN hi u B k1
      walk_at "w"
      exact ⟨b, n, w, rfl, B, by omega, w0, w1, fun r xs H2 nr R lx dx B2 u2 => k1 _ xs _ u2 B2 ⟨lx, dx⟩ ⟨r, rfl, u.none B nr, R⟩ ⟨r, rfl, nr⟩⟩
    rintro ws puts H4 p np u4 B4 gp lp ndp hp pr4 nx4
    have u04 := u03.trans u4
    walk_at "w"
    refine ⟨by omega, by omega, ?_⟩
    refine d7o (n := o) (b := b) (a8x K H4) (fun xs => xs.length = n ∧ ∀ x ∈ xs, Dr (max w 6) x) B4 (by omega) (fun a u B => a.upto u B B4.at) (fun ⟨q, e, _, _, g, _⟩ => ⟨q, e, by rw [g]; exact fun z => nomatch z⟩) ?_ ?_
    · rintro s H' NY NN hi u B k1
      walk_at "w"
      exact ⟨b, n, w, rfl, B, by omega, w0, w1, fun r xs H2 nr R lx dx B2 u2 => k1 _ xs _ u2 B2 ⟨lx, dx⟩ ⟨r, rfl, u.none B nr, R⟩ ⟨r, rfl, nr⟩⟩
    rintro vs looks H5 l nl u5 B5 gl ll ndl hl pr5 nx5
    have u05 := u04.trans u5
    have hm0 : H m = none := u02.none B2 nm0
    have hp0 : H p = none := u03.none B3 np
    have hl0 : H l = none := u04.none B4 nl
    have mb : m ≠ b := fun z => B2.at (by rw [← z]; exact nm0)
    have pb : p ≠ b := fun z => B3.at (by rw [← z]; exact np)
    have lb : l ≠ b := fun z => B4.at (by rw [← z]; exact nl)
    have gm4 := u4.other mb gm
    have gm5 := u5.other mb gm4
    have gp5 := u5.other pb gp
    have mp : m ≠ p := fun z => by rw [z, np] at gm; cases gm
    have ml : m ≠ l := fun z => by rw [z, nl] at gm4; cases gm4
    have pl : p ≠ l := fun z => by rw [z, nl] at gp; cases gp
    have mq : m ≠ q0 := fun z => Inner.at B2 (u02.2 _ I0) (by rw [← z]; exact nm0)
    obtain ⟨A, eA⟩ : ∃ A : Addr → Prop, A = fun q => H q = none ∧ q ≠ m ∧ q ≠ p ∧ q ≠ l := ⟨_, rfl⟩
    have mkA : ∀ {q}, H q = none → q ≠ m → q ≠ p → q ≠ l → A q := fun h1 h2 h3 h4 => by rw [eA]; exact ⟨h1, h2, h3, h4⟩
    have unA : ∀ {q}, A q → H q = none ∧ q ≠ m ∧ q ≠ p ∧ q ≠ l := fun h => by rw [eA] at h; exact h
    have MA : f6j A m p l b q0 := ⟨fun z => (unA z).2.1 rfl, fun z => (unA z).2.2.1 rfl, fun z => (unA z).2.2.2 rfl, fun z => hB.at (unA z).1, (fun z => by have z1 := (unA z).1; rw [gq0] at z1; cases z1), mb, pb, lb, mp, ml, mq⟩
    clear eA
    have lws : ws.length = i := by rw [← pr4.length]; exact lp
    have lvs : vs.length = o := by rw [← pr5.length]; exact ll
    have alM : ∀ q, V.ref q ∈ us → H3 q ≠ none ∧ q ≠ b ∧ H4 q ≠ none := fun q hq => by
      obtain ⟨q', qs, e, ⟨a1, a2⟩, r, z⟩ := rm _ hq
      cases e
      have qb : q ≠ b := fun y => B2.at (by rw [← y]; exact a1)
      obtain ⟨xq, gq, _⟩ := id r
      obtain ⟨xq4, gq4, _⟩ := r.upto u4 B3 qb
      exact ⟨(by rw [gq]; exact fun z => nomatch z), qb, (by rw [gq4]; exact fun z => nomatch z)⟩
    have alP : ∀ q, V.ref q ∈ ws → H3 q = none ∧ H4 q ≠ none := fun q hq => by
      obtain ⟨_, _, q', e, a, _, g, _⟩ := a5l pr4 hq
      cases e
      exact ⟨a, by rw [g]; exact fun z => nomatch z⟩
    have alL : ∀ q, V.ref q ∈ vs → H4 q = none := fun q hq => by
      obtain ⟨_, _, q', e, a, _⟩ := a5l pr5 hq
      cases e
      exact a
    have isR : ∀ x, x ∈ us ∨ x ∈ ws ∨ x ∈ vs → ∃ q, x = V.ref q := fun x hx => by
      rcases hx with hx | hx | hx
      · obtain ⟨q, _, e, _⟩ := rm x hx; exact ⟨q, e⟩
      · obtain ⟨_, _, q, e, _⟩ := a5l pr4 hx; exact ⟨q, e⟩
      · obtain ⟨_, _, q, e, _⟩ := a5l pr5 hx; exact ⟨q, e⟩
    have nd : (us ++ vs ++ ws).Nodup := by
      refine b2a.mpr ⟨b2a.mpr ⟨ndm, ndl, fun x hx y hy e => ?_⟩, ndp, fun x hx y hy e => ?_⟩
      · subst e
        obtain ⟨q, rfl⟩ := isR x (.inl hx)
        exact (alM q hx).2.2 (alL q hy)
      · subst e
        obtain ⟨q, rfl⟩ := isR x (.inr (.inl hy))
        rcases a0w.mp hx with hx | hx
        · exact (alM q hx).1 (alP q hy).1
        · exact (alP q hy).2 (alL q hx)
    have X5 : PtN K A n (Dr (max w 6)) m p l b q0 us ws vs H H5 := by
      refine ⟨⟨B5, u05.2 _ I0, gm5, gp5, gl, lm, fun x hx => ?_, nd⟩, gp5, gl, fun c u e n1 _ _ => u05.1 c u e n1⟩
      rcases a0w.mp hx with hx | hx
      · rcases a0w.mp hx with hx | hx
        · obtain ⟨q, qs, e, ⟨a1, a2⟩, r, z⟩ := rm x hx
          obtain ⟨xq, gq, _⟩ := id r
          have qb : q ≠ b := fun y => B2.at (by rw [← y]; exact a1)
          have r4 := r.upto u4 B3 qb
          obtain ⟨xq4, gq4, _⟩ := id r4
          exact ⟨q, qs, e, mkA (u02.none B2 a1) a2 (fun y => by rw [y, np] at gq; cases gq) (fun y => by rw [y, nl] at gq4; cases gq4), r4.upto u5 B4 qb, z⟩
        · refine f2f (A := A) pr5 hl (fun q hq a b' => ?_) x hx
          exact mkA (u04.none B4 a) (fun y => by rw [y, gm4] at a; cases a) (fun y => by rw [y, gp] at a; cases a) (fun y => c4p nx5 (by rw [← y]; exact hq))
      · refine c2q.upto (f2f (A := A) pr4 hp (fun q hq a b' => ?_) x hx) u5 B4 MA.ab
        exact mkA (u03.none B3 a) (fun y => by rw [y, gm] at a; cases a) (fun y => c4p nx4 (by rw [← y]; exact hq)) (fun y => b' (by rw [y]; exact nl))
    clear alM alP alL isR rm pr4 pr5 nx4 nx5 gm gm4 gm5 gp gp5 gl hp hl
    walk_at "w"
    refine ⟨by omega, by omega, ?_⟩
    refine a7z (n := n) (fun kk σ' H' => (∃ x1 x2, σ' = [some (.ref b), some (.int n), some (.int i), some (.int o), some (.int w), some (.int way), some (.int first), some (.ref m), some (.ref p), some (.ref l), x1, x2]) ∧ PtN K A n (Dr (max w 6)) m p l b q0 us ws vs H H') ⟨⟨_, _, rfl⟩, X5⟩ ?_ ?_
    · rintro kk σ' Hj hk ⟨⟨x1, x2, rfl⟩, X⟩
      walk_at "w"
      refine ⟨⟨_, SqL.of X.gp⟩, ?_⟩
      refine b1j (K := K) (a := p) (xs := ws) (fun s σ' H' => (∃ x2, σ' = [some (.ref b), some (.int n), some (.int i), some (.int o), some (.int w), some (.int way), some (.int first), some (.ref m), some (.ref p), some (.ref l), some (.int kk), x2]) ∧ PtN K A n (Dr (max w 6)) m p l b q0 us ws vs H H') ⟨⟨_, rfl⟩, X⟩ (fun s σ' H' _ ⟨_, e⟩ => SqL.of e.gp) ?_ ?_
      · rintro s x σ' Hk hx ⟨⟨y2, rfl⟩, X⟩
        have mx := a0j hx
        obtain ⟨q, _, rfl, _⟩ := X.row (.inl mx)
        repeat' (first | walk_at "rd" | refine c3j (fun _ => ?_) (fun _ => ?_))
        all_goals first
          | exact ⟨⟨_, rfl⟩, X⟩
          | (refine a3l fun t Hb sb gb => ?_
             walk_at "w"
             obtain ⟨zs, gz, lz, Xz⟩ := (X.same sb).put MA (.inl mx) (a5w.mk (q := 0) gb rfl) (c7t (i := 0) (a1f _) W1) kk
             refine a6q gz (a7f (by omega)) rfl ?_
             exact ⟨⟨_, rfl⟩, Xz⟩)
          | (refine ⟨b, 2, rfl, X.mix.bag, by decide, by decide, fun d Hd d0 d1 Bd ud => ?_⟩
             replace X := X.upto MA ud Bd
             repeat' (first | walk_at "rd" | refine c3j (fun _ => ?_) (fun _ => ?_))
             all_goals first
               | exact ⟨⟨_, rfl⟩, X⟩
               | (refine a3l fun t Hb sb gb => ?_
                  walk_at "w"
                  obtain ⟨zs, gz, lz, Xz⟩ := (X.same sb).put MA (.inl mx) (a5w.mk (q := 0) gb rfl) (c7t (i := 0) (a1f _) W1) kk
                  refine a6q gz (a7f (by omega)) rfl ?_
                  exact ⟨⟨_, rfl⟩, Xz⟩))
      · rintro σ' Hk ⟨⟨y2, rfl⟩, X⟩
        walk_at "w"
        refine ⟨⟨_, SqL.of X.gl⟩, ?_⟩
        refine b1j (K := K) (a := l) (xs := vs) (fun s σ' H' => (∃ x2, σ' = [some (.ref b), some (.int n), some (.int i), some (.int o), some (.int w), some (.int way), some (.int first), some (.ref m), some (.ref p), some (.ref l), some (.int kk), x2]) ∧ PtN K A n (Dr (max w 6)) m p l b q0 us ws vs H H') ⟨⟨_, rfl⟩, X⟩ (fun s σ' H' _ ⟨_, e⟩ => SqL.of e.gl) ?_ ?_
        · rintro s x σ' Hk hx ⟨⟨y2, rfl⟩, X⟩
          have mx := a0j hx
          obtain ⟨q, _, rfl, _⟩ := X.row (.inr mx)
          repeat' (first | walk_at "rd" | refine c3j (fun _ => ?_) (fun _ => ?_))
          all_goals first
            | exact ⟨⟨_, rfl⟩, X⟩
            | (refine a3l fun t Hb sb gb => ?_
               walk_at "w"
               obtain ⟨zs, gz, lz, Xz⟩ := (X.same sb).put MA (.inr mx) (a5w.mk (q := 0) gb rfl) (c7t (i := 0) (a1f _) W1) kk
               refine a6q gz (a7f (by omega)) rfl ?_
               exact ⟨⟨_, rfl⟩, Xz⟩)
            | (refine ⟨b, 2, rfl, X.mix.bag, by decide, by decide, fun d Hd d0 d1 Bd ud => ?_⟩
               replace X := X.upto MA ud Bd
               repeat' (first | walk_at "rd" | refine c3j (fun _ => ?_) (fun _ => ?_))
               all_goals first
                 | exact ⟨⟨_, rfl⟩, X⟩
                 | (refine a3l fun t Hb sb gb => ?_
                    walk_at "w"
                    obtain ⟨zs, gz, lz, Xz⟩ := (X.same sb).put MA (.inr mx) (a5w.mk (q := 0) gb rfl) (c7t (i := 0) (a1f _) W1) kk
                    refine a6q gz (a7f (by omega)) rfl ?_
                    exact ⟨⟨_, rfl⟩, Xz⟩))
        · rintro σ' Hk ⟨⟨y2, rfl⟩, X⟩
          exact ⟨⟨_, _, rfl⟩, X⟩
    · rintro σ' Hj ⟨⟨x1, x2, rfl⟩, X⟩
      obtain ⟨M, V0, M0, M8, V2, hcs, XM⟩ : ∃ M V0 : Nat, 0 < M ∧ M ≤ 2 ^ 800 ∧ V0 ≤ 2 ^ 20 ∧ ((w ≤ 9 ∧ M = 2520 ∧ V0 = 9) ∨ (9 < w ∧ M ≤ 2 ^ (c * ((n + i + o) * n)) ∧ V0 = 2 ^ c)) ∧ c7b K A Hj n (fun _ => Fr M V0) m p l b q0 us ws vs := by
        by_cases w9 : w ≤ 9
        · exact ⟨2520, 9, by decide, a0d (show 2520 ≤ 2 ^ 12 by decide) (a0f (by decide) (by decide)), by decide, .inl ⟨w9, rfl, rfl⟩, X.mix.weak fun _ _ y h => d7j ⟨a0d h.1 (by omega), a0d h.2 (by omega)⟩ (d5s _)⟩
        · obtain ⟨M, M0, M1, XM⟩ := (X.mix.weak (C' := fun _ => Dr (2 ^ c)) fun _ _ y h => ⟨a0d h.1 hc, a0d h.2 hc⟩).fr
          rw [lws, lvs] at M1
          exact ⟨M, 2 ^ c, M0, a0d M1 (a0f (by decide) hcM), a0f (by decide) hc20, .inr ⟨by omega, M1, rfl⟩, XM⟩
      have gmj := X.mix.gm
      walk_at "w"
      refine ⟨b, m, p, l, q0, n, M, V0, A, us, ws, vs, rfl, MA, XM, n8, by omega, by omega, M0, M8, V2, fun q hq => ?_, fun r us' H' g Y kp => ?_⟩
      · refine mkA ?_ (fun z => by rw [z, gmj] at hq; cases hq) (fun z => by rw [z, X.gp] at hq; cases hq) (fun z => by rw [z, X.gl] at hq; cases hq)
        cases e : H q with
        | none => rfl
        | some u =>
          have := X.kp q u e (fun z => X.mix.bag.at (by rw [← z]; exact hq)) (fun z => by have := (unA z).1; rw [e] at this; cases this) (fun z => by rw [z, hm0] at e; cases e)
          rw [hq] at this; cases this
      · obtain ⟨mv, Gm, lmv, hmv⟩ := c6v (H0 := H) (n := n) (C := Fr M (9 ^ 3 * V0)) (m := n) ⟨us', Y.gm, Y.lm, MA.am, fun x hx => Y.row x (by simp [hx])⟩ fun q h => (unA h).1
        obtain ⟨pt, Gp, lpt, hpt⟩ := c6v (H0 := H) (n := n) (C := Fr M (9 ^ 3 * V0)) (m := i) ⟨ws, Y.gp, lws, MA.ap, fun x hx => Y.row x (by simp [hx])⟩ fun q h => (unA h).1
        obtain ⟨lk, Gl, llk, hlk⟩ := c6v (H0 := H) (n := n) (C := Fr M (9 ^ 3 * V0)) (m := o) ⟨vs, Y.gl, lvs, MA.al, fun x hx => Y.row x (by simp [hx])⟩ fun q h => (unA h).1
        refine k r mv pt lk H' ⟨m, p, l, g, hm0, hp0, hl0, Gm, Gp, Gl⟩ lmv lpt llk ⟨by omega, by omega, by omega, fun xs hx => by rw [(hmv xs hx).1, lmv], fun xs hx => by rw [(hpt xs hx).1, lmv], fun xs hx => by rw [(hlk xs hx).1, lmv]⟩ ⟨M, 9 ^ 3 * V0, M0, fun xs hx => (hmv xs hx).2, fun xs hx => (hpt xs hx).2, fun xs hx => (hlk xs hx).2, ?_⟩ Y.bag ⟨fun c' u e n1 => (X.kp.trans kp) c' u e n1 (fun z => by have := (unA z).1; rw [e] at this; cases this) (fun z => by rw [z, hm0] at e; cases e), fun q h => by rw [← Inner.inj I0 h]; exact Y.inn⟩
        rcases hcs with ⟨a1, a2, a3⟩ | ⟨a1, a2, a3⟩
        · exact .inl ⟨a1, a2, by rw [a3]⟩
        · exact .inr ⟨a1, a2, by rw [a3]⟩
theorem d6d:a1t ["thing","at","most"] ["thing","at","most"] (a0l b0l):=by walk_at "d"
theorem d6p (T:Txt K mg Z):a6g P w K mg base CX0 1 Z.b8h Z.b7t ["thing","at","most"] f3i:=by
 refine T.b4m.ok d6d (fun vs H Q E h=>?_) (fun cdv A outer s H vs Q E hr h=>?_)
 ·obtain ⟨p,xs,a,m,rfl,gx,hm,k⟩:=h
  rfl
 ·obtain ⟨p,xs,a,m,rfl,gx,hm,k⟩:=h
  refine ⟨_,(a0k (a5u (b4w (b4f (d2e rfl T.isinstance PyProof.Rows.boot_list T.list (pv 0)))) (a0q f4x) a3c)
   (a0q (a5u (a2b d4c (a2k a1y (by rfl) T.len a1v (a0b (pv 0) a0g)) (pv 2) (a2o _)) (a0q f4x) a3c))),?_⟩
  refine a1h (σ:=[some (.ref p),some (.int a),some (.int m)]) rfl ?_
  walk_at "w"
  refine ⟨_,_,.lst gx,rfl,?_⟩
  walk_at "w"
  refine ⟨_,_,rfl,.inl (SqL.of gx),?_⟩
  walk_at "w"
  rw[decide_eq_false (show ¬m < (xs.length:Int) by omega)]
  walk_at "w"
  exact k
theorem d8v:a1t ["thing"] ["thing"] (a0l b3p):=by walk_at "d"
theorem d9g (T:Txt K mg Z):a6g P w K mg base CX0 1 Z.c1o Z.c1f ["thing"] e4y:=by
 refine T.c1v.ok d8v (fun vs H Q E h=>?_) (fun cdv A outer s H vs Q E hr h=>?_)
 ·obtain ⟨i,rfl,k⟩:=h
  rfl
 ·obtain ⟨i,rfl,k⟩:=h
  refine ⟨_,(a0q (a1x (e6r (d2e rfl T.isinstance PyProof.Rows.boot_int T.int (pv 0)) (e6n (f8u (d2e rfl T.isinstance PyProof.Rows.boot_bool T.bool (pv 0))))))),?_⟩
  refine a1h (σ:=[some (.int i)]) rfl ?_
  walk_at "w"
  refine ⟨_,_,.int i,rfl,?_⟩
  walk_at "w"
  refine ⟨_,_,.int i,rfl,?_⟩
  walk_at "w"
  exact k
theorem a7m:a1t ["one","other","rest"] ["one","other"] (a0l a5i):=by walk_at "d"
theorem b0v (T:Txt K mg Z):a6g P w K mg base CX0 1 Z.a8u Z.a8q ["one","other"] g1c:=by
 refine T.a6l.ok a7m (fun vs H Q E h=>?_) (fun cdv A outer s H vs Q E hr h=>?_)
 ·obtain ⟨a,b,rfl,k⟩:=h
  rfl
 ·obtain ⟨a,b,rfl,k⟩:=h
  refine ⟨_,(a0k (d3u PassesOwn.never (a2b d6o (pv 1) a0m (a2o _))
    (a0k (a1z (i:=2) a7m.nd rfl (Or.inl rfl) (a3i f5c (pv 0) (pv 1)))
   (a0k (a1z (i:=0) a7m.nd rfl (Or.inl rfl) (pv 1))
   (a0q (a1z (i:=1) a7m.nd rfl (Or.inl rfl) (pv 2))))))
   (a0q (a1x (a2k d4y (by rfl) T.abs PyProof.Rows.boot_abs (a0b (pv 0) a0g))))),?_⟩
  refine a1h (σ:=[some (.int a),some (.int b),none]) rfl ?_
  walk_at "w"
  refine d8m (fun σ' H'=>∃(u v:Int) (r:Option V),σ'=[some (.int u),some (.int v),r]∧H'=H∧Int.gcd u v=Int.gcd a b) (fun σ' _=>match σ' with | [_,some (.int v),_]=>v.natAbs | _=>0) ⟨a,b,none,rfl,rfl,rfl⟩ ?_
  rintro σ' H' ⟨u,v,r,rfl,rfl,hg⟩
  walk_at "w"
  refine c3j (fun h=>?_) (fun h=>?_)
  ·have hv:v≠0:=fun z=>by subst z;simp at h
   walk_at "w"
   refine b9s (show v≠0 from hv) ?_
   walk_at "w"
   exact ⟨⟨v,u.fmod v,_,rfl,rfl,(f1f u v).trans hg⟩,f5q u v hv⟩
  ·have hv:v=0:=by
    by_cases z:v=0
    ·exact z
    ·exfalso;apply h;simp [z]
   subst hv
   walk_at "w"
   have e:(if u < 0 then -u else u)=g a b:=by
    unfold g
    rw[← hg,Int.gcd_zero_right]
    split <;> omega
   rw[e]
   exact k
theorem d6g:a1t ["thing"] ["thing"] (a0l b0o):=by walk_at "d"
theorem d6r (T:Txt K mg Z):a6g P w K mg base CX0 2 Z.b8k Z.b7w ["thing"] (e5l K):=by
 have d3b:=d9g (P:=P) (w:=w) (base:=base) T
 have a6k:=b0v (P:=P) (w:=w) (base:=base) T
 refine T.c3o.ok d6g (fun vs H Q E h=>?_) (fun cdv A outer s H vs Q E hr h=>?_)
 ·obtain ⟨x,n,rfl,⟨p,rfl,hp⟩,hn,k⟩:=h
  rfl
 ·obtain ⟨x,n,rfl,⟨p,rfl,hp⟩,hn,k⟩:=h
  refine ⟨_,(a0k (a5u (PW.pt (c6k (b4w (b4f (d3z rfl T.isinstance PyProof.Rows.boot_tuple T.tuple (pv 0)))) (b7a (a2b d6o (a2k a1y (by rfl) T.len a1v (a0b (pv 0) a0g)) a0m (a2o _))))) (a0q (a1x c8d)) a3c)
   (a0k (a5u (PW.pt (c6k (b4w (b4f (a0p d3b (hr.mono (by decide)) rfl T.c3g T.c1v.kp T.c6x .nil a1o (a0b (a2w a4a (pv 0) a0m (by intro _ _;rfl)) a0g)))) (b7a (b4w (b4f (a0p d3b (hr.mono (by decide)) rfl T.c3g T.c1v.kp T.c6x .nil a1o (a0b (a2w a4a (pv 0) a0m (by intro _ _;rfl)) a0g))))))) (a0q (a1x c8d)) a3c)
   (a0q (a1x (e6r (c3b e3l (a2w a4a (pv 0) a0m (by intro _ _;rfl)) a0m (a2o _)) (e6n (c3b b1u (a0p a6k (hr.mono (by decide)) rfl T.a7y T.a6l.kp T.a8t .nil a1o (a0b (a2w a4a (pv 0) a0m (by intro _ _;rfl)) (a0b (a2w a4a (pv 0) a0m (by intro _ _;rfl)) a0g))) a0m (a2o _)))))))),?_⟩
  refine a1h (σ:=[some (.ref p)]) rfl ?_
  obtain ⟨hb,hg,s1,s2⟩:=hn
  walk_at "w"
  refine .inr ⟨p,_,_,rfl,hp,rfl,?_⟩
  walk_at "w"
  refine ⟨_,_,rfl,.inr hp,?_⟩
  walk_at "w"
  try refine g0u ?_
  walk_at "w"
  refine ⟨n.1,rfl,?_⟩
  walk_at "w"
  refine ⟨n.2,rfl,?_⟩
  walk_at "w"
  rw[decide_eq_true (show (1:Int)<=n.2 by omega)]
  walk_at "w"
  refine ⟨n.1,n.2,rfl,?_⟩
  walk_at "w"
  have e:g n.1 n.2=1:=by unfold g;rw[hg];rfl
  rw[e,decide_eq_true rfl]
  exact k _ (a1w.refl _)
theorem e5v:a1t ["thing","many"] ["thing","many"] (a0l c0z):=by walk_at "d"
theorem e6x (T:Txt K mg Z):a6g P w K mg base CX0 3 Z.c8v Z.c8q ["thing","many"] (d6b K):=by
 have e0f:=d6r (P:=P) (w:=w) (base:=base) T
 refine T.d5n.ok e5v (fun vs H Q E h=>?_) (fun cdv A outer s H vs Q E hr h=>?_)
 ·obtain ⟨p,ns,rfl,hp,hl,hn,k⟩:=h
  rfl
 ·obtain ⟨p,ns,rfl,hp,hl,hn,k⟩:=h
  refine ⟨_,(a0k (a5u (PW.pt (c6k (b4w (b4f (d2e rfl T.isinstance PyProof.Rows.boot_list T.list (pv 0)))) (b7a (a2b d6o (a2k a1y (by rfl) T.len a1v (a0b (pv 0) a0g)) (pv 1) (a2o _))))) (a0q (a1x c8d)) a3c)
   (a0q (a1x (a2k (d4x rfl) (by rfl) T.all PyProof.Rows.boot_all (a0b (a3v ["value"] [] [] (a4c (pv 0)) (fun _=>(a1i (i:=0) (show List.Nodup (α:=PySem.Str) ["value"] by decide +kernel) rfl (Or.inl rfl) (Or.inl rfl))) (fun _=>a4j) (fun _=>(a0p e0f (hr.mono (by decide)) rfl T.c7o T.c3o.kp T.d0e .nil a1o (a0b (pv 0) a0g)))) a0g))))),?_⟩
  refine a1h (σ:=[some (.ref p),some (.int ns.length)]) rfl ?_
  obtain ⟨xs,gx,qx⟩:=id hp
  have lx:=qx.length
  walk_at "w"
  refine ⟨_,_,.lst gx,rfl,?_⟩
  walk_at "w"
  refine ⟨_,_,rfl,.inl (SqL.of gx),?_⟩
  walk_at "w"
  rw[show ((xs.length:Nat):Int)=(ns.length:Nat) by rw[lx],decide_eq_true rfl]
  walk_at "w"
  refine ⟨⟨_,SqL.of gx⟩,?_⟩
  refine a6j (K:=K) (xs:=xs) (fun i ys H'=>a1w H H'∧ys=List.replicate i (.bl true)) (a1j (a2f (by omega))) ⟨a1w.refl _,rfl⟩ (fun i ys H' _ ⟨s,_⟩=>SqL.of (s _ _ gx)) ?_ ?_
  ·rintro i x ys H' hx hlen ⟨s,rfl⟩
   obtain ⟨n,en,z⟩:=a2z qx hx
   walk_at "w"
   exact ⟨x,n,rfl,s.num z,hn n (a0j en),fun H2 s2=>⟨s.trans s2,by rw[d8i]⟩⟩
  ·rintro ys H' hy ⟨s,rfl⟩ l hl'
   walk_at "w"
   refine ⟨l,List.replicate xs.length true,rfl,SqL.of (by rw[a0y];simp),?_⟩
   have e4:(List.replicate xs.length true).all id=true:=by simp
   rw[e4]
   exact k _ (s.trans (a1w.new hl'))
theorem b6a:a1t ["things","wide","place","thing"] ["things","wide"] (a0l a7t):=by walk_at "d"
theorem d1j (T:Txt K mg Z):a6g P w K mg base CX0 4 Z.b3g Z.b2r ["things","wide"] (f3n K):=by
 have f1v:=e6x (P:=P) (w:=w) (base:=base) T
 refine T.b0e.ok b6a (fun vs H Q E h=>?_) (fun cdv A outer s H vs Q E hr h=>?_)
 ·obtain ⟨p,H0,rows,w,rfl,hp,hl,hw,hn,k⟩:=h
  rfl
 ·obtain ⟨p,H0,rows,w,rfl,hp,hl,hw,hn,k⟩:=h
  refine ⟨_,(a0k (a6t PassesOwn.never rfl (e6m rfl T.enumerate (a0b (pv 0) a0g)) (c9j rfl (a3j (a1i (i:=2) b6a.nd rfl (Or.inl rfl) (Or.inl rfl)) (a3j (a1i (i:=3) b6a.nd rfl (Or.inl rfl) (Or.inl rfl)) b0u)))
    (a0q (a5u (b4w (b4f (a0p f1v (hr.mono (by decide)) rfl T.d6x T.d5n.kp T.e2g .nil a1o (a0b (pv 3) (a0b (pv 1) a0g))))) (a0q f4x) a3c)))
   (a0q (a1x (a3v ["row"] [] [] (a4c (pv 0)) (fun _=>(a1i (i:=0) (show List.Nodup (α:=PySem.Str) ["row"] by decide +kernel) rfl (Or.inl rfl) (Or.inl rfl))) (fun _=>a4j) (fun _=>(b1t (b2x K (by rfl)) (by rfl) T.list PyProof.Rows.boot_list (a0b (pv 0) a0g))))))),?_⟩
  refine a1h (σ:=[some (.ref p),some (.int w),none,none]) rfl ?_
  obtain ⟨xs,gx,qx,_⟩:=id hp
  walk_at "w"
  refine ⟨⟨_,SqL.of gx⟩,?_⟩
  refine f1i (K:=K) (l:=p) (xs:=xs) (fun i σ' H'=>a1w H H'∧∃x y,σ'=[some (.ref p),some (.int w),x,y]) ⟨a1w.refl _,none,none,rfl⟩ (fun i σ' H' _ ⟨s,_⟩=>SqL.of (s _ _ gx)) ?_ ?_
  ·rintro i x σ' H' t hx ⟨s,x1,y1,rfl⟩ ht
   obtain ⟨qs,eq,q,rfl,_,Rq⟩:=a2z qx hx
   have hm:=a0j eq
   have st:a1w H' (upd H' t (.tup [.int i,.ref q])):=a1w.new ht
   have gt:(upd H' t (.tup [.int i,.ref q])) t=some (.tup [.int i,.ref q]):=a0y
   have s2:=s.trans st
   generalize upd H' t (.tup [.int i,.ref q])=H2 at st gt s2 ⊢
   have lq:(qs.map nm).length=w:=by rw[a0e];exact (hn qs hm).1
   walk_at "w"
   refine ⟨q,_,by rw[lq],(Rq.same s2).rowK,by rw[lq];exact hw,fun n hn'=>?_,fun H3 s3=>?_⟩
   ·obtain ⟨y,hy,rfl⟩:=a0t.mp hn'
    exact (hn qs hm).2 y hy
   walk_at "w"
   exact ⟨s2.trans s3,_,_,rfl⟩
  ·rintro σ' H' ⟨s,x1,y1,rfl⟩
   walk_at "w"
   refine ⟨⟨_,SqL.of (s _ _ gx)⟩,?_⟩
   refine a9w (K:=K) (F:=a8x K H0) (a8x K H) id (s _ _ gx) (Paired.imp' (fun _ _ z=>z.same s) qx) hl (fun a b=>a.same b) (fun a b=>a.same b) ?_ ?_
   ·rintro i ns x H2 NY NN en s2 ⟨u,rfl,_,zs,gz,qz⟩ k1
    walk_at "w"
    refine ⟨u,zs,rfl,.inl (SqL.of gz),fun l1 hl1=>?_⟩
    exact k1 _ _ (a1w.new hl1) ⟨l1,rfl,s.none (s2.none hl1),zs,a0y,Paired.imp' (fun _ _ z=>z.same (a1w.new hl1)) qz⟩
   ·rintro ys' H2 r hr s2 g pr nx
    rw[d0z] at pr nx
    exact k r H2 (s.none hr) (s.trans s2) ⟨ys',g,pr,c4p nx⟩
theorem c4f:a1t ["self","move","put","look"] ["self","move","put","look"] (a0l a5b):=by walk_at "d"
theorem b4x (T:Txt K mg Z):a6g P w K mg base CX0 5 Z.a8d Z.a8b ["self","move","put","look"] (f3k K Z.a_System):=by
 have c3l:=d6p (P:=P) (w:=w) (base:=base) T
 have b8u:=d1j (P:=P) (w:=w) (base:=base) T
 refine T.b7i.ok c4f (fun vs H Q E h=>?_) (fun cdv A outer s H vs Q E hr h=>?_)
 ·obtain ⟨x,dx,p,q,r,Hb,H0,H1,H2,mv,pt,lk,rfl,nx,ndx,nex,rfl,gp,gq,gr,D,om,op,ol,k⟩:=h
  rfl
 ·obtain ⟨x,dx,p,q,r,Hb,H0,H1,H2,mv,pt,lk,rfl,nx,ndx,nex,rfl,gp,gq,gr,D,om,op,ol,k⟩:=h
  refine ⟨_,(a0k (b6c (a0p c3l (hr.mono (by decide)) rfl T.b4z T.b4m.kp T.b8c .nil a1o (a0b (pv 1) (a0b a0m (a0b (b7l (v:=.int 8) rfl T.mg_MOST_STATES ⟨_,rfl⟩) a0g)))))
   (a0k (d2c (pv 0) (a0p b8u (hr.mono (by decide)) rfl T.b1h T.b0e.kp T.b2y .nil a1o (a0b (pv 1) (a0b (a2k a1y (by rfl) T.len a1v (a0b (pv 1) a0g)) a0g))) rfl)
   (a0k (d2c (pv 0) (a2k a1y (by rfl) T.len a1v (a0b (a8m (pv 0) rfl) a0g)) rfl)
   (a0k (b6c (a0p c3l (hr.mono (by decide)) rfl T.b4z T.b4m.kp T.b8c .nil a1o (a0b (pv 2) (a0b a0m (a0b (b7l (v:=.int 4) rfl T.mg_MOST_PUTS ⟨_,rfl⟩) a0g)))))
   (a0k (d2c (pv 0) (a0p b8u (hr.mono (by decide)) rfl T.b1h T.b0e.kp T.b2y .nil a1o (a0b (pv 2) (a0b (a8m (pv 0) rfl) a0g))) rfl)
   (a0k (d2c (pv 0) (a2k a1y (by rfl) T.len a1v (a0b (a8m (pv 0) rfl) a0g)) rfl)
   (a0k (b6c (a0p c3l (hr.mono (by decide)) rfl T.b4z T.b4m.kp T.b8c .nil a1o (a0b (pv 3) (a0b a0m (a0b (b7l (v:=.int 4) rfl T.mg_MOST_LOOKS ⟨_,rfl⟩) a0g)))))
   (a0k (d2c (pv 0) (a0p b8u (hr.mono (by decide)) rfl T.b1h T.b0e.kp T.b2y .nil a1o (a0b (pv 3) (a0b (a8m (pv 0) rfl) a0g))) rfl)
   (a0q (d2c (pv 0) (a2k a1y (by rfl) T.len a1v (a0b (a8m (pv 0) rfl) a0g)) rfl)))))))))),?_⟩
  refine a1h (σ:=[some (.ref x),some (.ref p),some (.ref q),some (.ref r)]) rfl ?_
  have s0:a1w Hb (upd (upd Hb dx (.own x)) x (.ins Z.a_System dx [])):=fun b o e=>by
   rw[a2d (a6p e nx),a2d (a6p e ndx)]
   exact e
  have hx:(upd (upd Hb dx (.own x)) x (.ins Z.a_System dx [])) x=some (.ins Z.a_System dx []):=a0y
  have back:∀{b},(upd (upd Hb dx (.own x)) x (.ins Z.a_System dx [])) b=none->Hb b=none:=fun h=>s0.none h
  generalize upd (upd Hb dx (.own x)) x (.ins Z.a_System dx [])=Ha at s0 hx back ⊢
  obtain ⟨xs,gx,qx,_⟩:=id gp
  obtain ⟨ys,gy,qy,_⟩:=id gq
  obtain ⟨zs,gz,qz,_⟩:=id gr
  have lx:=qx.length
  have ly:=qy.length
  have lz:=qz.length
  have d1:=D.n8
  have d2:=D.i4
  have d3:=D.o4
  walk_at "w"
  refine ⟨p,xs,0,8,rfl,s0 _ _ gx,by omega,?_⟩
  walk_at "w"
  refine ⟨_,_,rfl,.inl (SqL.of (s0 _ _ gx)),?_⟩
  walk_at "w"
  refine ⟨p,H0,mv,mv.length,by rw[lx],gp.same s0,by omega,by omega,fun ws hw=>⟨D.mw ws hw,om ws hw⟩,fun a H3 na s3 Ga=>?_⟩
  have hx3:=s3 _ _ hx
  walk_at "w"
  refine ⟨x,Z.a_System,dx,_,rfl,hx3,T.cl_System,T.na_move,(by show 0 < 1000;decide),?_⟩
  have e3:Exc x H3 (upd H3 x (.ins Z.a_System dx (a4t "move" (.ref a) []))):=Exc.upd
  have i3:d1o H3 x:=⟨_,_,_,hx3⟩
  have hx4:(upd H3 x (.ins Z.a_System dx (a4t "move" (.ref a) []))) x=some (.ins Z.a_System dx (a4t "move" (.ref a) [])):=a0y
  have Ga4:=Ga.exc e3 i3
  have k4:a1w Hb (upd H3 x (.ins Z.a_System dx (a4t "move" (.ref a) []))):=(s0.trans s3).after nx
  generalize upd H3 x (.ins Z.a_System dx (a4t "move" (.ref a) []))=H4 at e3 hx4 Ga4 k4 ⊢
  walk_at "w"
  refine ⟨x,Z.a_System,dx,_,_,rfl,hx4,T.cl_System,T.na_move,(by rw[a1r,if_pos rfl]),?_⟩
  obtain ⟨as,ga,qa,_⟩:=id Ga4
  have la:=qa.length
  walk_at "w"
  refine ⟨_,_,rfl,.inl (SqL.of ga),?_⟩
  walk_at "w"
  refine ⟨x,Z.a_System,dx,_,rfl,hx4,T.cl_System,T.na_states,a1m a5v (by show 1 < 1000;decide),?_⟩
  rw[show ((as.length:Nat):Int)=((mv.length:Nat):Int) by rw[la]]
  have e4:Exc x H4 (upd H4 x (.ins Z.a_System dx (a4t "states" (.int mv.length) (a4t "move" (.ref a) [])))):=Exc.upd
  have i4:d1o H4 x:=⟨_,_,_,hx4⟩
  have hx5:(upd H4 x (.ins Z.a_System dx (a4t "states" (.int mv.length) (a4t "move" (.ref a) [])))) x=some (.ins Z.a_System dx (a4t "states" (.int mv.length) (a4t "move" (.ref a) []))):=a0y
  have Ga5:=Ga4.exc e4 i4
  have k5:a1w Hb (upd H4 x (.ins Z.a_System dx (a4t "states" (.int mv.length) (a4t "move" (.ref a) [])))):=k4.after nx
  generalize upd H4 x (.ins Z.a_System dx (a4t "states" (.int mv.length) (a4t "move" (.ref a) [])))=H5 at e4 hx5 Ga5 k5 ⊢
  clear e3 e4 i3 i4 hx4 Ga4 ga qa
  walk_at "w"
  refine ⟨q,ys,1,4,rfl,k5 _ _ gy,by omega,?_⟩
  walk_at "w"
  refine ⟨x,Z.a_System,dx,_,_,rfl,hx5,T.cl_System,T.na_states,(by rw[a1r,if_pos rfl]),?_⟩
  walk_at "w"
  refine ⟨q,H1,pt,mv.length,rfl,gq.same k5,by omega,by omega,fun ws hw=>⟨D.pw ws hw,op ws hw⟩,fun b H6 nb s6 Gb=>?_⟩
  have hx6:=s6 _ _ hx5
  have i6:d1o H6 x:=⟨_,_,_,hx6⟩
  walk_at "w"
  refine ⟨x,Z.a_System,dx,_,rfl,hx6,T.cl_System,T.na_put,a1m a5v (a1m (a4w a5v) (by show 2 < 1000;decide)),?_⟩
  have e6:Exc x H6 (upd H6 x (.ins Z.a_System dx (a4t "put" (.ref b) (a4t "states" (.int mv.length) (a4t "move" (.ref a) []))))):=Exc.upd
  have hx7:(upd H6 x (.ins Z.a_System dx (a4t "put" (.ref b) (a4t "states" (.int mv.length) (a4t "move" (.ref a) []))))) x=some (.ins Z.a_System dx (a4t "put" (.ref b) (a4t "states" (.int mv.length) (a4t "move" (.ref a) [])))):=a0y
  have Ga7:=(Ga5.same s6).exc e6 i6
  have Gb7:=(Gb.weak k5).exc e6 i6
  have k7:a1w Hb (upd H6 x (.ins Z.a_System dx (a4t "put" (.ref b) (a4t "states" (.int mv.length) (a4t "move" (.ref a) []))))):=(k5.trans s6).after nx
  generalize upd H6 x (.ins Z.a_System dx (a4t "put" (.ref b) (a4t "states" (.int mv.length) (a4t "move" (.ref a) []))))=H7 at e6 hx7 Ga7 Gb7 k7 ⊢
  obtain ⟨bs,gb,qb,_⟩:=id Gb7
  have lb:=qb.length
  walk_at "w"
  refine ⟨x,Z.a_System,dx,_,_,rfl,hx7,T.cl_System,T.na_put,(by rw[a1r,if_pos rfl]),?_⟩
  walk_at "w"
  refine ⟨_,_,rfl,.inl (SqL.of gb),?_⟩
  walk_at "w"
  refine ⟨x,Z.a_System,dx,_,rfl,hx7,T.cl_System,T.na_ins,a1m a5v (a1m (a4w (a0d a5v (a4w a5v))) (by show 3 < 1000;decide)),?_⟩
  rw[show ((bs.length:Nat):Int)=((pt.length:Nat):Int) by rw[lb]]
  have i7:d1o H7 x:=⟨_,_,_,hx7⟩
  have e7:Exc x H7 (upd H7 x (.ins Z.a_System dx (a4t "ins" (.int pt.length) (a4t "put" (.ref b) (a4t "states" (.int mv.length) (a4t "move" (.ref a) [])))))):=Exc.upd
  have hx8:(upd H7 x (.ins Z.a_System dx (a4t "ins" (.int pt.length) (a4t "put" (.ref b) (a4t "states" (.int mv.length) (a4t "move" (.ref a) [])))))) x=some (.ins Z.a_System dx (a4t "ins" (.int pt.length) (a4t "put" (.ref b) (a4t "states" (.int mv.length) (a4t "move" (.ref a) []))))):=a0y
  have Ga8:=Ga7.exc e7 i7
  have Gb8:=Gb7.exc e7 i7
  have k8:a1w Hb (upd H7 x (.ins Z.a_System dx (a4t "ins" (.int pt.length) (a4t "put" (.ref b) (a4t "states" (.int mv.length) (a4t "move" (.ref a) [])))))):=k7.after nx
  generalize upd H7 x (.ins Z.a_System dx (a4t "ins" (.int pt.length) (a4t "put" (.ref b) (a4t "states" (.int mv.length) (a4t "move" (.ref a) [])))))=H8 at e7 hx8 Ga8 Gb8 k8 ⊢
  clear e6 e7 i6 i7 hx7 Ga7 Gb7 gb qb
  walk_at "w"
  refine ⟨r,zs,2,4,rfl,k8 _ _ gz,by omega,?_⟩
  walk_at "w"
  refine ⟨x,Z.a_System,dx,_,_,rfl,hx8,T.cl_System,T.na_states,(by rw[a1r,if_neg (by decide +kernel),a1r,if_neg (by decide +kernel),a1r,if_pos rfl]),?_⟩
  walk_at "w"
  refine ⟨r,H2,lk,mv.length,rfl,gr.same k8,by omega,by omega,fun ws hw=>⟨D.lw ws hw,ol ws hw⟩,fun c H9 nc s9 Gc=>?_⟩
  have hx9:=s9 _ _ hx8
  have i9:d1o H9 x:=⟨_,_,_,hx9⟩
  walk_at "w"
  refine ⟨x,Z.a_System,dx,_,rfl,hx9,T.cl_System,T.na_look,a1m a5v (a1m (a4w (a0d a5v (a4w (a0d a5v (a4w a5v))))) (by show 4 < 1000;decide)),?_⟩
  have e9:Exc x H9 (upd H9 x (.ins Z.a_System dx (a4t "look" (.ref c) (a4t "ins" (.int pt.length) (a4t "put" (.ref b) (a4t "states" (.int mv.length) (a4t "move" (.ref a) []))))))):=Exc.upd
  have hxA:(upd H9 x (.ins Z.a_System dx (a4t "look" (.ref c) (a4t "ins" (.int pt.length) (a4t "put" (.ref b) (a4t "states" (.int mv.length) (a4t "move" (.ref a) []))))))) x=some (.ins Z.a_System dx (a4t "look" (.ref c) (a4t "ins" (.int pt.length) (a4t "put" (.ref b) (a4t "states" (.int mv.length) (a4t "move" (.ref a) [])))))):=a0y
  have GaA:=(Ga8.same s9).exc e9 i9
  have GbA:=(Gb8.same s9).exc e9 i9
  have GcA:=(Gc.weak k8).exc e9 i9
  have kA:a1w Hb (upd H9 x (.ins Z.a_System dx (a4t "look" (.ref c) (a4t "ins" (.int pt.length) (a4t "put" (.ref b) (a4t "states" (.int mv.length) (a4t "move" (.ref a) []))))))):=(k8.trans s9).after nx
  generalize upd H9 x (.ins Z.a_System dx (a4t "look" (.ref c) (a4t "ins" (.int pt.length) (a4t "put" (.ref b) (a4t "states" (.int mv.length) (a4t "move" (.ref a) []))))))=HA at e9 hxA GaA GbA GcA kA ⊢
  obtain ⟨cs,gc,qc,_⟩:=id GcA
  have lc:=qc.length
  walk_at "w"
  refine ⟨x,Z.a_System,dx,_,_,rfl,hxA,T.cl_System,T.na_look,(by rw[a1r,if_pos rfl]),?_⟩
  walk_at "w"
  refine ⟨_,_,rfl,.inl (SqL.of gc),?_⟩
  walk_at "w"
  refine ⟨x,Z.a_System,dx,_,rfl,hxA,T.cl_System,T.na_outs,a1m a5v (a1m (a4w (a0d a5v (a4w (a0d a5v (a4w (a0d a5v (a4w a5v))))))) (by show 5 < 1000;decide)),?_⟩
  rw[show ((cs.length:Nat):Int)=((lk.length:Nat):Int) by rw[lc]]
  have iA:d1o HA x:=⟨_,_,_,hxA⟩
  exact k _ (kA.after nx) ⟨dx,a,b,c,a0y,back na,k5.none nb,k8.none nc,(GaA.exc Exc.upd iA).weak s0,GbA.exc Exc.upd iA,GcA.exc Exc.upd iA⟩
theorem d1f:a1t ["_law_grid"] ["_law_grid"] (a0l a7x):=by walk_at "d"
theorem d1m (T:Txt K mg Z):a6g P w K mg base CX0 1 Z.b3k Z.b2v ["_law_grid"] (e3a K):=by
 refine T.b0f.ok d1f (fun vs H Q E h=>?_) (fun cdv A outer s H vs Q E hr h=>?_)
 ·obtain ⟨p,H0,rows,rfl,hp,hl,hm,k⟩:=h
  rfl
 ·obtain ⟨p,H0,rows,rfl,hp,hl,hm,k⟩:=h
  refine ⟨_,(a0q (a1x (a3v ["_law_row_here"] [] [] (a4c (pv 0)) (fun _=>(a1i (i:=0) (show List.Nodup (α:=PySem.Str) ["_law_row_here"] by decide +kernel) rfl (Or.inl rfl) (Or.inl rfl))) (fun _=>a4j) (fun _=>(b1t (b2x K (by rfl)) (by rfl) T.list PyProof.Rows.boot_list (a0b (pv 0) a0g)))))),?_⟩
  refine a1h (σ:=[some (.ref p)]) rfl ?_
  obtain ⟨xs,gx,qx,_⟩:=id hp
  walk_at "w"
  refine ⟨⟨_,SqL.of gx⟩,?_⟩
  refine a9w (K:=K) (F:=a8x K H0) (a8x K H) id gx qx hl (fun a b=>a.same b) (fun a b=>a.same b) ?_ ?_
  ·rintro i ns x H' NY NN en s ⟨u,rfl,_,zs,gz,qz⟩ k1
   walk_at "w"
   refine ⟨u,zs,rfl,.inl (SqL.of gz),fun l1 hl1=>?_⟩
   exact k1 _ _ (a1w.new hl1) ⟨l1,rfl,s.none hl1,zs,a0y,Paired.imp' (fun _ _ z=>z.same (a1w.new hl1)) qz⟩
  ·rintro ys' H' r hr s g pr nx
   rw[d0z] at pr nx
   exact k r H' hr s ⟨ys',g,pr,c4p nx⟩
theorem b1f:a1t ["_law_parts_here","_law_move_here","_law_put","_law_look"] ["_law_parts_here"] (a0l a7u):=by walk_at "d"
theorem d1k (T:Txt K mg Z):a6g P w K mg base CX0 7 Z.b3h Z.b2s ["_law_parts_here"] (e2v K Z.a_System):=by
 have b1a:=b4x (P:=P) (w:=w) (base:=base) T
 have b8w:=d1m (P:=P) (w:=w) (base:=base) T
 refine T.b9a.ok b1f (fun vs H Q E h=>?_) (fun cdv A outer s H vs Q E hr h=>?_)
 ·obtain ⟨r,H0,mv,pt,lk,rfl,PQ,D,F,k⟩:=h
  rfl
 ·obtain ⟨r,H0,mv,pt,lk,rfl,PQ,D,F,k⟩:=h
  refine ⟨_,(a0k (a8l (pv 0) (c9j rfl (a3j (a1i (i:=1) b1f.nd rfl (Or.inl rfl) (Or.inl rfl)) (a3j (a1i (i:=2) b1f.nd rfl (Or.inl rfl) (Or.inl rfl)) (a3j (a1i (i:=3) b1f.nd rfl (Or.inl rfl) (Or.inl rfl)) b0u)))))
   (a0q (a1x (e6o T.mk_System b1a (hr.mono (by decide)) rfl T.mg_System T.b0y .nil a1o (a0b (a0p b8w (hr.mono (by decide)) rfl T.b1i T.b0f.kp T.b2z .nil a1o (a0b (pv 1) a0g)) (a0b (a0p b8w (hr.mono (by decide)) rfl T.b1i T.b0f.kp T.b2z .nil a1o (a0b (pv 2) a0g)) (a0b (a0p b8w (hr.mono (by decide)) rfl T.b1i T.b0f.kp T.b2z .nil a1o (a0b (pv 3) a0g)) a0g))))))),?_⟩
  refine a1h (σ:=[some (.ref r),none,none,none]) rfl ?_
  obtain ⟨m,p,l,g,n1,n2,n3,Gm,Gp,Gl⟩:=id PQ
  have d1:=D.n8
  have d2:=D.i4
  have d3:=D.o4
  walk_at "w"
  refine ⟨m,H0,mv,rfl,Gm,by omega,fun xs hx=>by rw[D.mw xs hx];omega,fun a H1 na s1 Ga=>?_⟩
  walk_at "w"
  refine ⟨p,H0,pt,rfl,Gp.same s1,by omega,fun xs hx=>by rw[D.pw xs hx];omega,fun b H2 nb s2 Gb=>?_⟩
  have s12:=s1.trans s2
  walk_at "w"
  refine ⟨l,H0,lk,rfl,Gl.same s12,by omega,fun xs hx=>by rw[D.lw xs hx];omega,fun c H3 nc s3 Gc=>?_⟩
  have s13:=s12.trans s3
  walk_at "w"
  intro x dx nx ndx nex
  exact ⟨x,dx,a,b,c,H3,H,H1,H2,mv,pt,lk,rfl,nx,ndx,nex,rfl,(Ga.same s2).same s3,Gb.same s3,Gc,D,F.ok.1,F.ok.2.1,F.ok.2.2,fun H' s' S'=>⟨rfl,k x H' (s13.none nx) (s13.trans s') (S'.weak s13)⟩⟩
theorem d1d:a1t ["grid","wide"] ["grid","wide"] (a0l a7r):=by walk_at "d"
theorem b1g (T:Txt K mg Z):a6g P w K mg base CX0 1 Z.b3e Z.b2p ["grid","wide"] (e9j K):=by
 refine T.a8e.ok d1d (fun vs H Q E h=>?_) (fun cdv A outer s H vs Q E hr h=>?_)
 ·obtain ⟨p,w,H0,rows,rfl,hp,hz,hw,hl,kk⟩:=h
  rfl
 ·obtain ⟨p,w,H0,rows,rfl,hp,hz,hw,hl,kk⟩:=h
  refine ⟨_,(a0q (a1x (a3v ["place"] ["grid"] [0] (a3u rfl T.range (a0b (pv 1) a0g)) (fun _=>(a1i (i:=0) (show List.Nodup (α:=PySem.Str) ["place","grid"] by decide +kernel) rfl (Or.inr rfl) (Or.inl rfl))) (fun _=>a4j) (fun _=>(a3v ["line"] ["place"] [0] (e0x K (pv 1)) (fun _=>(a1i (i:=0) (show List.Nodup (α:=PySem.Str) ["line","place"] by decide +kernel) rfl (Or.inl rfl) (Or.inl rfl))) (fun _=>a4j) (fun _=>(a2w (b7s K (by rfl)) (pv 0) (pv 1) (by intro _ _;rfl)))))))),?_⟩
  refine a1h (σ:=[some (.ref p),some (.int w)]) rfl ?_
  walk_at "w"
  refine ⟨by omega,by omega,?_⟩
  refine b1x (n:=w) (a8x K H) (fun j=>rows.map fun xs=>xs.getD j 0) hw (fun a b=>a.same b) ?_ ?_
  ·rintro j H1 NY NN hj s1 k1
   obtain ⟨xs,gx,qx,_⟩:=hp.same s1
   walk_at "w"
   refine ⟨⟨_,SqL.of gx⟩,?_⟩
   refine a9w (K:=K) (F:=a8x K H0) (a5w K) (fun xs=>xs.getD j 0) gx qx hz (fun a b=>a.same b) (fun a b=>a.same b) ?_ ?_
   ·rintro i ns x H2 NY2 NN2 en s2 ⟨u,rfl,_,zs,gz,qz⟩ k2
    obtain ⟨v,ev,hv⟩:=ixQ qz (j:=j) (by rw[hl ns (a0j en)];exact hj)
    walk_at "w"
    refine a4b (SqL.of gz) ev ?_
    exact k2 _ _ (a1w.refl _) hv
   ·rintro ys' H2 r hr s2 g pr nx
    exact k1 _ _ s2 ⟨r,rfl,s1.none hr,ys',g,pr⟩
  ·rintro ys' H1 r hr s1 g pr nx
   exact kk r H1 hr s1 ⟨ys',g,pr,c4p nx⟩
theorem c8c:a1t ["self"] ["self"] (a0l a5z):=by walk_at "d"
theorem b2b (T:Txt K mg Z):a6g P w K mg base CX0 7 Z.b0c Z.a9v ["self"] (e2u K Z.a_System):=by
 have b1a:=b4x (P:=P) (w:=w) (base:=base) T
 have a6f:=b1g (P:=P) (w:=w) (base:=base) T
 refine T.c0r.ok c8c (fun vs H Q E h=>?_) (fun cdv A outer s H vs Q E hr h=>?_)
 ·obtain ⟨x,H0,mv,pt,lk,rfl,S,D,F,k⟩:=h
  rfl
 ·obtain ⟨x,H0,mv,pt,lk,rfl,S,D,F,k⟩:=h
  refine ⟨_,(a0q (a1x (e6o T.mk_System b1a (hr.mono (by decide)) rfl T.mg_System T.b0y .nil a1o (a0b (a0p a6f (hr.mono (by decide)) rfl T.a8n T.a8e.kp T.a9x .nil a1o (a0b (a8m (pv 0) rfl) (a0b (a8m (pv 0) rfl) a0g))) (a0b (a8m (pv 0) rfl) (a0b (a8m (pv 0) rfl) a0g)))))),?_⟩
  refine a1h (σ:=[some (.ref x)]) rfl ?_
  obtain ⟨dx,a,b,c,gx,n1,n2,n3,Ga,Gb,Gc⟩:=id S
  have d1:=D.n8
  walk_at "w"
  refine ⟨x,Z.a_System,dx,_,_,rfl,gx,T.cl_System,T.na_move,d3j,?_⟩
  walk_at "w"
  refine ⟨x,Z.a_System,dx,_,_,rfl,gx,T.cl_System,T.na_states,b0k,?_⟩
  walk_at "w"
  refine ⟨a,mv.length,H0,mv,rfl,Ga,by omega,by omega,D.mw,fun t H1 nt s1 Gt=>?_⟩
  have gx1:=s1 _ _ gx
  walk_at "w"
  refine ⟨x,Z.a_System,dx,_,_,rfl,gx1,T.cl_System,T.na_look,e9g,?_⟩
  walk_at "w"
  refine ⟨x,Z.a_System,dx,_,_,rfl,gx1,T.cl_System,T.na_put,d3i,?_⟩
  walk_at "w"
  intro x' dx' nx ndx nex
  have F':=F.turn
  exact ⟨x',dx',t,c,b,H1,H,H0,H0,_,_,_,rfl,nx,ndx,nex,rfl,Gt,Gc.same s1,Gb.same s1,D.turn,F'.ok.1,F'.ok.2.1,F'.ok.2.2,fun H' s' S'=>⟨rfl,k x' H' (s1.none nx) (s1.trans s') (S'.weak s1)⟩⟩
theorem d6e:a1t ["row","bottom"] ["row","bottom"] (a0l b0m):=by walk_at "d"
theorem c7k (T:Txt K mg Z):a6g P w K mg base CX0 1 Z.b8i Z.b7u ["row","bottom"] (e9k K):=by
 refine T.b4n.ok d6e (fun vs H Q E h=>?_) (fun cdv A outer s H vs Q E hr h=>?_)
 ·obtain ⟨p,ns,M,B,rfl,hp,hl,hz,hB,sB,q⟩:=h
  rfl
 ·obtain ⟨p,ns,M,B,rfl,hp,hl,hz,hB,sB,q⟩:=h
  refine ⟨_,(a0q (a1x (a3v ["value"] ["bottom"] [1] (a4c (pv 0)) (fun _=>(a1i (i:=0) (show List.Nodup (α:=PySem.Str) ["value","bottom"] by decide +kernel) rfl (Or.inl rfl) (Or.inl rfl))) (fun _=>a4j) (fun _=>(a3i a5h (a2w (d9o K (by rfl)) (pv 0) a0m (by intro _ _;rfl)) (a3i b2j (pv 1) (a2w (d9o K (by rfl)) (pv 0) a0m (by intro _ _;rfl)))))))),?_⟩
  refine a1h (σ:=[some (.ref p),some (.int B)]) rfl ?_
  obtain ⟨xs,gx,qx⟩:=id hp
  have lx:=qx.length
  walk_at "w"
  refine ⟨⟨_,SqL.of gx⟩,?_⟩
  refine a6j (K:=K) (xs:=xs) (fun i ys H'=>H'=H∧ys=(b0g (ns.take i) B).map V.int) (a1j (a2f (by omega))) ⟨rfl,rfl⟩ (fun i ys H' _ ⟨e,_⟩=>by subst e;exact SqL.of gx) ?_ ?_
  ·rintro i x ys H' hx hlen ⟨rfl,rfl⟩
   obtain ⟨n,en,r,rfl,hr1⟩:=a2z qx hx
   have nz:=hz.2.2 n (a0j en)
   have sn:Sz 4400 n.2:=e1t hz.1 nz.2.1 hz.2.1
   walk_at "w"
   refine b9s (show c8j _ _ from ⟨by omega,sn.mono (by decide)⟩) ?_
   rw[a3f _ (by omega)]
   have sq:Sz 4400 (B / n.2):=sB.le (by
    rw[Int.natAbs_ediv_of_nonneg (by omega)]
    exact Nat.div_le_self ..)
   walk_at "w"
   refine b9s (show b9d _ _ from .inr ⟨_,_,nz.2.2,sq,by decide⟩) ?_
   exact ⟨rfl,by rw[take_snoc en];simp [b0g]⟩
  ·rintro ys H' hy ⟨rfl,rfl⟩ l hl'
   exact q l _ hl' (a1w.new hl') (by rw[a0y,a0r (by omega)])
theorem a6s:a1t ["wholes","multiple","whole"] ["wholes"] (a0l a5a):=by walk_at "d"
theorem c4n (T:Txt K mg Z):a6g P w K mg base CX0 2 Z.a8c Z.a8a ["wholes"] (f7k K):=by
 have a6k:=b0v (P:=P) (w:=w) (base:=base) T
 refine T.b1b.ok a6s (fun vs H Q E h=>?_) (fun cdv A outer s H vs Q E hr h=>?_)
 ·obtain ⟨p,bs,M,rfl,hp,hM,sM,hb,q⟩:=h
  rfl
 ·obtain ⟨p,bs,M,rfl,hp,hM,sM,hb,q⟩:=h
  refine ⟨_,(a0k (a1z (i:=1) a6s.nd rfl (Or.inl rfl) a0m)
   (a0k (a6t PassesOwn.never rfl (a4c (pv 0)) (a1i (i:=2) a6s.nd rfl (Or.inl rfl) (Or.inl rfl))
    (a0q (a1z (i:=1) a6s.nd rfl (Or.inl rfl) (a3i a5h (pv 1) (a3i b2j (pv 2) (a0p a6k (hr.mono (by decide)) rfl T.a7y T.a6l.kp T.a8t .nil a1o (a0b (pv 1) (a0b (pv 2) a0g))))))))
   (a0q (a1x (pv 1))))),?_⟩
  refine a1h (σ:=[some (.ref p),none,none]) rfl ?_
  walk_at "w"
  refine ⟨⟨_,hp⟩,?_⟩
  refine b1j (K:=K) (a:=p) (xs:=bs.map V.int) (fun i σ' H'=>H'=H∧∃x,σ'=[some (.ref p),some (.int (e3v (bs.take i) 1)),x]) ⟨rfl,none,rfl⟩ (fun i σ' H' _ ⟨e,_⟩=>by subst e;exact hp) ?_ ?_
  ·rintro i x σ' H' hx ⟨rfl,y,rfl⟩
   rw[a0x] at hx
   obtain ⟨b,eb,rfl⟩:∃b,bs[i]?=some b∧x=.int b:=by
    cases e:bs[i]? with
    | none=>rw[e] at hx;cases hx
    | some b=>rw[e] at hx;cases hx;exact ⟨b,rfl,rfl⟩
   have b1:=hb b (a0j eb)
   have sb:Sz 4400 b:=e1t hM b1.2 sM
   have ht:∀c∈bs.take i,0 < c∧c∣M:=fun c hc=>hb c (a3k hc)
   have msz:Sz 4400 (e3v (bs.take i) 1):=e1t hM (d4m (by decide) (Int.one_dvd _) ht) sM
   generalize hm:e3v (bs.take i) 1=m at msz ⊢
   have gp:0 < g m b:=d9p (by omega)
   walk_at "w"
   refine ⟨m,b,rfl,?_⟩
   walk_at "w"
   refine b9s (show c8j _ _ from ⟨by omega,(g_le b1.1 sb).mono (by decide)⟩) ?_
   rw[a3f _ (by omega)]
   walk_at "w"
   refine b9s (show b9d _ _ from .inr ⟨_,_,msz,sb.hi (t:=m) (by omega),by decide⟩) ?_
   walk_at "w"
   exact ⟨rfl,_,by rw[take_snoc eb,d7c,hm];rfl⟩
  ·rintro σ' H' ⟨rfl,y,rfl⟩
   walk_at "w"
   rw[a0r (by simp)]
   exact q
theorem c8b:a1t ["row"] ["row"] (a0l a5y):=by walk_at "d"
theorem b9e (T:Txt K mg Z):a6g P w K mg base CX0 3 Z.b0b Z.a9u ["row"] (f7l K):=by
 have c7c:=c4n (P:=P) (w:=w) (base:=base) T
 refine T.a7j.ok c8b (fun vs H Q E h=>?_) (fun cdv A outer s H vs Q E hr h=>?_)
 ·obtain ⟨p,ns,M,rfl,hp,hl,hz,q⟩:=h
  rfl
 ·obtain ⟨p,ns,M,rfl,hp,hl,hz,q⟩:=h
  refine ⟨_,(a0q (a1x (a0p c7c (hr.mono (by decide)) rfl T.b5b T.b1b.kp T.b7f .nil a1o (a0b (a3v ["value"] [] [] (a4c (pv 0)) (fun _=>(a1i (i:=0) (show List.Nodup (α:=PySem.Str) ["value"] by decide +kernel) rfl (Or.inl rfl) (Or.inl rfl))) (fun _=>a4j) (fun _=>(a2w (d9o K (by rfl)) (pv 0) a0m (by intro _ _;rfl)))) a0g)))),?_⟩
  refine a1h (σ:=[some (.ref p)]) rfl ?_
  obtain ⟨xs,gx,qx⟩:=id hp
  have lx:=qx.length
  walk_at "w"
  refine ⟨⟨_,SqL.of gx⟩,?_⟩
  refine a6j (K:=K) (xs:=xs) (fun i ys H'=>H'=H∧ys=((ns.take i).map (·.2)).map V.int) (a1j (a2f (by omega))) ⟨rfl,rfl⟩ (fun i ys H' _ ⟨e,_⟩=>by subst e;exact SqL.of gx) ?_ ?_
  ·rintro i x ys H' hx hlen ⟨rfl,rfl⟩
   obtain ⟨n,en,r,rfl,hr1⟩:=a2z qx hx
   walk_at "w"
   exact ⟨rfl,by rw[take_snoc en];simp⟩
  ·rintro ys H' hy ⟨rfl,rfl⟩ l hl'
   walk_at "w"
   refine ⟨l,ns.map (·.2),M,rfl,SqL.of (by rw[a0y,a0r (by omega)]),hz.1,hz.2.1,fun b hb=>?_,?_⟩
   ·obtain ⟨n,hn,rfl⟩:=a0t.mp hb
    exact ⟨(hz.2.2 n hn).1,(hz.2.2 n hn).2.1⟩
   ·exact q _ (a1w.new hl')
theorem c4d:a1t ["lines","begin","place","at"] ["lines","begin","place"] (a0l a9b):=by walk_at "d"
theorem d4d (T:Txt K mg Z):a6g P w K mg base CX0 1 Z.b5o Z.b5f ["lines","begin","place"] e5o:=by
 refine T.c0m.ok c4d (fun vs H Q E h=>?_) (fun cdv A outer s H vs Q E hr h=>?_)
 ·obtain ⟨l,p,ls,b,c,rfl,G,l1000,b1000,hc,k1,k2⟩:=h
  rfl
 ·obtain ⟨l,p,ls,b,c,rfl,G,l1000,b1000,hc,k1,k2⟩:=h
  refine ⟨_,(a0k (a6t PassesOwn.never rfl (e6l rfl T.range (a0b (pv 1) (a0b (a2k a1y (by rfl) T.len a1v (a0b (pv 0) a0g)) a0g))) (a1i (i:=3) c4d.nd rfl (Or.inl rfl) (Or.inl rfl))
    (a0q (a5u (a2b d6o (a2w a3a (a2w a3a (pv 0) (pv 3) (by intro _ _;rfl)) (pv 2) (by intro _ _;rfl)) a0m (a2o _)) (a0q (a1x (pv 3))) a3c)))
   (a0q (a1x e0y))),?_⟩
  refine a1h (σ:=[some (.ref p),some (.int b),some (.int c),none]) rfl ?_
  obtain ⟨_,xs,gx,qx⟩:=id G
  have lx:=qx.length
  walk_at "w"
  refine ⟨_,_,rfl,.inl (SqL.of gx),?_⟩
  rw[← lx]
  walk_at "w"
  refine ⟨⟨by omega,by omega,by omega,by omega⟩,?_⟩
  refine d7g (lo:=(b:Int)) (n:=((ls.length:Int) - (b:Int)).toNat) (fun i σ' H'=>H'=H∧(∃y,σ'=[some (.ref p),some (.int b),some (.int c),y])∧∀s,b<=s->s < b+i->fnZ ls s c=0) ⟨rfl,⟨_,rfl⟩,fun s h1 h2=>absurd h2 (by omega)⟩ ?_ ?_
  ·rintro i σ' H' hi ⟨rfl,⟨y,rfl⟩,hz⟩
   rw[show ((b:Int)+(i:Int))=((b+i:Nat):Int) by omega]
   obtain ⟨zs,v,ez,ev,mz,q,rfl,_,gq⟩:=b3x qx (i:=b+i) (by omega)
   walk_at "w"
   refine a4b (SqL.of gx) (b2c ev) ?_
   walk_at "w"
   refine a4b (SqL.of gq) (d8j (hc zs mz)) ?_
   walk_at "w"
   have ef:=f6t (c:=c) ez
   by_cases e:zs.getD c 0=0
   ·rw[decide_eq_true e]
    walk_at "w"
    refine ⟨rfl,⟨_,rfl⟩,fun s h1 h2=>?_⟩
    by_cases e2:s=b+i
    ·rw[e2,ef,e]
     rfl
    ·exact hz s h1 (by omega)
   ·rw[decide_eq_false e]
    walk_at "w"
    exact k1 (b+i) (by omega) (by omega) (by rw[ef];exact z_ne.mpr e)
  ·rintro σ' H' ⟨rfl,⟨y,rfl⟩,hz⟩
   walk_at "w"
   exact k2 fun t h1 h2=>hz t h1 (by omega)
theorem c0w:a1t ["lines","at","place","before","used","by","swept"] ["lines","at","place","before"] (a0l b6x):=by walk_at "d"
theorem e3q (T:Txt K mg Z):a6g P w K mg base CX0 1 Z.c5z Z.c5f ["lines","at","place","before"] e5q:=by
 refine T.d0u.ok c0w (fun vs H Q E h=>?_) (fun cdv A outer s H vs Q E hr h=>?_)
 ·obtain ⟨l,p,ls,kk,c,n,b,rfl,hl,G,l1000,hk,hw,n1000,hc,b0,sb,hs,k⟩:=h
  rfl
 ·obtain ⟨l,p,ls,kk,c,n,b,rfl,hl,G,l1000,hk,hw,n1000,hc,b0,sb,hs,k⟩:=h
  refine ⟨_,(a0k (a1z (i:=4) c0w.nd rfl (Or.inr rfl) (a2w a3a (pv 0) (pv 1) (by intro _ _;rfl)))
   (a0k (a1z (i:=5) c0w.nd rfl (Or.inr rfl) (a2w a3a (pv 4) (pv 2) (by intro _ _;rfl)))
   (a0k (c6l 6 ["line"] ["used","by","place","before"] [4,5,2,3] c0w.nd rfl rfl (a4c (pv 0)) (fun _=>(a1i (i:=0) (show List.Nodup (α:=PySem.Str) ["line","used","by","place","before"] by decide +kernel) rfl (Or.inr rfl) (Or.inl rfl))) (fun _=>a4j) (fun _=>(a3v ["mine","yours"] ["by","line","place","before"] [2,0,3,4] (f0n K rfl T.zip (a0b (pv 0) (a0b (pv 1) a0g))) (fun _=>(c3a K 2 (a3j (a1i (i:=0) (show List.Nodup (α:=PySem.Str) ["mine","yours","by","line","place","before"] by decide +kernel) rfl (Or.inl rfl) (Or.inl rfl)) (a3j (a1i (i:=1) (show List.Nodup (α:=PySem.Str) ["mine","yours","by","line","place","before"] by decide +kernel) rfl (Or.inl rfl) (Or.inl rfl)) b0u)))) (fun _=>a4j) (fun _=>(a3i b2j (a3i c4j (a3i a5h (pv 2) (pv 0)) (a3i a5h (a2w (b7s K (by rfl)) (pv 3) (pv 4) (by intro _ _;rfl)) (pv 1))) (pv 5))))))
   (a0k (a8l (pv 4) (b0j (pv 6) (pv 1) set_list))
   (a0q (a1x (pv 6))))))),?_⟩
  refine a1h (σ:=[some (.ref p),some (.int kk),some (.int c),some (.int b),none,none,none]) rfl ?_
  obtain ⟨pl,xs,gx,qx⟩:=id G
  have lx:=qx.length
  obtain ⟨zk,vk,ek,evk,mk,qk,rfl,qkl,gk⟩:=b3x qx hk
  have wk:=hw zk mk
  have ek':ls.getD kk []=zk:=by rw[a0a,ek];rfl
  walk_at "w"
  refine a4b (SqL.of gx) (b2c evk) ?_
  walk_at "w"
  refine a4b (SqL.of gk) (d8j (by omega)) ?_
  walk_at "w"
  refine ⟨⟨_,SqL.of gx⟩,?_⟩
  refine a6j (K:=K) (xs:=xs) (fun i ys H'=>a1w H H'∧Paired (RzR l H') ((ls.take i).map fun zs=>List.zipWith (fun x y=>(zk.getD c 0*x - zs.getD c 0*y).fdiv b) zs zk) ys) (a1j (a2f (by omega))) ⟨a1w.refl _,.nil⟩ (fun i ys H' _ ⟨s,_⟩=>SqL.of (s _ _ gx)) ?_ ?_
  ·rintro i v ys0 H' hx hlen ⟨s',pr⟩
   obtain ⟨zs,ec,q,rfl,ql,gq⟩:=a2z qx hx
   have mz:=a0j ec
   have wz:=hw zs mz
   have gq':=s' _ _ gq
   have gk':=s' _ _ gk
   walk_at "w"
   refine ⟨⟨_,SqL.of gq'⟩,⟨_,SqL.of gk'⟩,?_⟩
   refine c5i (K:=K) (xs:=zs.map V.int) (ws:=zk.map V.int) (fun j ys H2=>a1w H' H2∧ys=((List.zipWith (fun x y=>(zk.getD c 0*x - zs.getD c 0*y).fdiv b) zs zk).take j).map V.int) (a1j (a2f (by rw[a0e];omega))) (by rw[a0e,a0e];omega) ⟨a1w.refl _,rfl⟩ (fun j ys H2 _ ⟨s2,_⟩=>⟨SqL.of (s2 _ _ gq'),SqL.of (s2 _ _ gk')⟩) ?_ ?_
   ·rintro j v1 v2 ys H2 r h1 h2 hy ⟨s2,rfl⟩ hr
    obtain ⟨x,ex,rfl⟩:∃x,zs[j]?=some x∧V.int x=v1:=by
     rw[a0x] at h1
     cases e:zs[j]? with
     | none=>rw[e] at h1;cases h1
     | some x=>rw[e] at h1;exact ⟨x,rfl,a2v h1⟩
    obtain ⟨y,ey,rfl⟩:∃y,zk[j]?=some y∧V.int y=v2:=by
     rw[a0x] at h2
     cases e:zk[j]? with
     | none=>rw[e] at h2;cases h2
     | some x=>rw[e] at h2;exact ⟨x,rfl,a2v h2⟩
    have sr:a1w H2 (upd H2 r (.tup [.int x,.int y])):=a1w.new hr
    have gr:(upd H2 r (.tup [.int x,.int y])) r=some (.tup [.int x,.int y]):=a0y
    generalize upd H2 r (.tup [.int x,.int y])=H3 at sr gr ⊢
    have gq3:=sr _ _ (s2 _ _ gq')
    have sx:=hs zs mz x (a0j ex)
    have sy:=hs zk mk y (a0j ey)
    have s1:=hs zk mk _ (getD_in (e:=0) (show c < zk.length by omega))
    have s3:=hs zs mz _ (getD_in (e:=0) (show c < zs.length by omega))
    walk_at "w"
    refine b9s (show b9d _ _ from .inr ⟨_,_,s1,sx,by decide⟩) ?_
    walk_at "w"
    refine a4b (SqL.of gq3) (d8j (by omega)) ?_
    walk_at "w"
    refine b9s (show b9d _ _ from .inr ⟨_,_,s3,sy,by decide⟩) ?_
    walk_at "w"
    refine b9s (show c8j _ _ from ⟨b0,sb⟩) ?_
    have ez:(List.zipWith (fun x y=>(zk.getD c 0*x - zs.getD c 0*y).fdiv b) zs zk)[j]?=some ((zk.getD c 0*x - zs.getD c 0*y).fdiv b):=by rw[a3z,ex,ey]
    exact ⟨s2.trans sr,by rw[take_snoc ez];simp⟩
   ·rintro ys H2 hy ⟨s2,rfl⟩ r hr
    have sn:a1w H2 (upd H2 r (.lst (((List.zipWith (fun x y=>(zk.getD c 0*x - zs.getD c 0*y).fdiv b) zs zk).take (zs.map V.int).length).map V.int))):=a1w.new hr
    refine ⟨(s'.trans s2).trans sn,?_⟩
    rw[take_snoc ec,a3y]
    refine a2t (Paired.imp' (fun _ _ z=>(RzR.same z s2).same sn) pr) (.cons ⟨r,rfl,ne_old (fun z=>hl (s'.none (s2.none z))) hr,?_⟩ .nil)
    rw[a0y,a0r (by rw[a2i,a0e];omega)]
  ·rintro ys H1 hy ⟨s1,pr⟩ r hr
   have sn:a1w H1 (upd H1 r (.lst ys)):=a1w.new hr
   have gn:(upd H1 r (.lst ys)) r=some (.lst ys):=a0y
   have ly:=pr.length
   rw[a0e,a4h] at ly
   generalize upd H1 r (.lst ys)=H2 at sn gn ⊢
   walk_at "w"
   refine a6q gn (a7f (by omega)) rfl ?_
   have s2:a1w H1 (upd H2 r (.lst (ys.set kk (.ref qk)))):=sn.after hr
   walk_at "w"
   refine k r _ (s1.none hr) (s1.trans s2) ⟨ne_old (fun z=>hl (s1.none z)) hr,_,a0y,?_⟩
   unfold clZ
   rw[ek']
   rw[a0r (by omega)] at pr
   exact b3v (Paired.imp' (fun _ _ z=>RzR.same z s2) pr) kk ⟨qk,rfl,qkl,(s1.trans s2) _ _ gk⟩
theorem c4e:a1t ["lines","at","to","swapped"] ["lines","at","to"] (a0l a9c):=by walk_at "d"
theorem d4e (T:Txt K mg Z):a6g P w K mg base CX0 1 Z.b5p Z.b5g ["lines","at","to"] d8s:=by
 refine T.c0n.ok c4e (fun vs H Q E h=>?_) (fun cdv A outer s H vs Q E hr h=>?_)
 ·obtain ⟨l,p,ls,t,kk,rfl,hl,G,l1000,ht,hk,k⟩:=h
  rfl
 ·obtain ⟨l,p,ls,t,kk,rfl,hl,G,l1000,ht,hk,k⟩:=h
  refine ⟨_,(a0k (a1z (i:=3) c4e.nd rfl (Or.inl rfl) (b1t c0c (by rfl) T.list PyProof.Rows.boot_list (a0b (pv 0) a0g)))
   (a0k (a8l (a2w a3a (pv 0) (pv 1) (by intro _ _;rfl)) (b0j (pv 3) (pv 2) set_list))
   (a0k (a8l (a2w a3a (pv 0) (pv 2) (by intro _ _;rfl)) (b0j (pv 3) (pv 1) set_list))
   (a0q (a1x (pv 3)))))),?_⟩
  refine a1h (σ:=[some (.ref p),some (.int t),some (.int kk),none]) rfl ?_
  obtain ⟨pl,xs,gx,qx⟩:=id G
  have lx:=qx.length
  obtain ⟨zt,vt,et,evt,_,Ft⟩:=b3x qx ht
  obtain ⟨zk,vk,ek,evk,_,Fk⟩:=b3x qx hk
  walk_at "w"
  refine ⟨p,xs,rfl,.inl (SqL.of gx),fun c hc=>?_⟩
  have sc:a1w H (upd H c (.lst xs)):=a1w.new hc
  have gc:(upd H c (.lst xs)) c=some (.lst xs):=a0y
  generalize upd H c (.lst xs)=Hc at sc gc ⊢
  walk_at "w"
  refine a4b (SqL.of (sc _ _ gx)) (b2c evt) ?_
  walk_at "w"
  refine a6q gc (a7f (by omega)) rfl ?_
  have s1:a1w H (upd Hc c (.lst (xs.set kk vt))):=sc.after hc
  have g1:(upd Hc c (.lst (xs.set kk vt))) c=some (.lst (xs.set kk vt)):=a0y
  generalize upd Hc c (.lst (xs.set kk vt))=H1 at s1 g1 ⊢
  walk_at "w"
  refine a4b (SqL.of (s1 _ _ gx)) (b2c evk) ?_
  walk_at "w"
  refine a6q g1 (a7f (by rw[a4q];omega)) rfl ?_
  have s2:a1w H (upd H1 c (.lst ((xs.set kk vt).set t vk))):=s1.after hc
  walk_at "w"
  refine k c _ hc s2 ⟨ne_old hl hc,_,a0y,?_⟩
  have et':ls.getD t []=zt:=by rw[a0a,et];rfl
  have ek':ls.getD kk []=zk:=by rw[a0a,ek];rfl
  unfold swZ
  rw[et',ek']
  exact b3v (b3v (Paired.imp' (fun _ _ z=>RzR.same z s2) qx) kk (RzR.same Ft s2)) t (RzR.same Fk s2)
theorem b2h:a1t ["rows","wide","lines","leads","before","place","many","at"] ["rows","wide"] (a0l c6g):=by walk_at "d"
theorem e1b (T:Txt K mg Z):a6g P w K mg base CX0 4 Z.d5b Z.d4t ["rows","wide"] (e4z K):=by
 have b8q:=c7k (P:=P) (w:=w) (base:=base) T
 have b0d:=b9e (P:=P) (w:=w) (base:=base) T
 have d8b:=d4d (P:=P) (w:=w) (base:=base) T
 have e8v:=e3q (P:=P) (w:=w) (base:=base) T
 have d8c:=d4e (P:=P) (w:=w) (base:=base) T
 refine T.d5l.ok b2h (fun vs H Q E h=>?_) (fun cdv A outer s H vs Q E hr h=>?_)
 ·obtain ⟨p,n,w,H0,rows,rfl,G,r100,n100,hw,F,k⟩:=h
  rfl
 ·obtain ⟨p,n,w,H0,rows,rfl,G,r100,n100,hw,F,k⟩:=h
  refine ⟨_,(a0k (c6l 2 ["row"] [] [] b2h.nd rfl rfl (a4c (pv 0)) (fun _=>(a1i (i:=0) (show List.Nodup (α:=PySem.Str) ["row"] by decide +kernel) rfl (Or.inl rfl) (Or.inl rfl))) (fun _=>a4j) (fun _=>(a0p b8q (hr.mono (by decide)) rfl T.b5a T.b4n.kp T.b8d .nil a1o (a0b (pv 0) (a0b (a0p b0d (hr.mono (by decide)) rfl T.a8o T.a7j.kp T.a9y .nil a1o (a0b (pv 0) a0g)) a0g)))))
   (a0k (a1z (i:=3) b2h.nd rfl (Or.inl rfl) (a9q a0g))
   (a0k (a1z (i:=4) b2h.nd rfl (Or.inl rfl) a0m)
   (a0k (a6t PassesOwn.never rfl (a3u rfl T.range (a0b (pv 1) a0g)) (a1i (i:=5) b2h.nd rfl (Or.inl rfl) (Or.inl rfl))
    (a0k (a1z (i:=6) b2h.nd rfl (Or.inl rfl) (a2k a1y (by rfl) T.len a1v (a0b (pv 3) a0g)))
   (a0k (a1z (i:=7) b2h.nd rfl (Or.inl rfl) (a0p d8b (hr.mono (by decide)) rfl T.c4q T.c0m.kp T.c7u .nil a1o (a0b (pv 2) (a0b (pv 6) (a0b (pv 5) a0g)))))
   (a0q (a5u (a2b e6t (pv 7) e0y (a2o _)) (a0k (a1z (i:=2) b2h.nd rfl (Or.inl rfl) (a0p e8v (hr.mono (by decide)) rfl T.d2q T.d0u.kp T.d7z .nil a1o (a0b (a0p d8c (hr.mono (by decide)) rfl T.c4r T.c0n.kp T.c7v .nil a1o (a0b (pv 2) (a0b (pv 7) (a0b (pv 6) a0g)))) (a0b (pv 6) (a0b (pv 5) (a0b (pv 4) a0g))))))
   (a0k (a1z (i:=4) b2h.nd rfl (Or.inl rfl) (a2w a3a (a2w a3a (pv 2) (pv 6) (by intro _ _;rfl)) (pv 5) (by intro _ _;rfl)))
   (a0q (b6c (d9e a4n a8g a8f b9u (pv 3) (a0b (pv 5) a0g)))))) a3c)))))
   (a0q (a1x (a5e (a0b (d3x d8t (pv 2) e6k (d3v (a2k a1y (by rfl) T.len a1v (a0b (pv 3) a0g)))) (a0b (pv 3) a0g))))))))),?_⟩
  refine a1h (σ:=[some (.ref p),some (.int n),none,none,none,none,none,none]) rfl ?_
  obtain ⟨xs,gx,qx,_⟩:=id G
  obtain ⟨W,hW,W2,ent⟩:=F.ent
  obtain ⟨_,_,_,_,_,_,_,_,r15,r89⟩:=id F
  walk_at "w"
  refine ⟨⟨_,SqL.of gx⟩,?_⟩
  refine a9w (K:=K) (as:=rows) (F:=a8x K H0) (fun (H:Hp) (zs:List Int) (v:V)=>∃q,v=V.ref q∧H q=some (.lst (zs.map V.int))) c2w gx qx (by omega) (fun a b=>a.same b) (fun ⟨q,a,b⟩ s=>⟨q,a,s _ _ b⟩) ?_ ?_
  ·rintro i qs v H' NY NN ec s' ⟨u,rfl,_,R⟩ k1
   have mx:=a0j ec
   obtain ⟨M,hM⟩:=F.rowM mx
   obtain ⟨b1,sb⟩:=hM.bot
   have lq:(qs.map nm).length<=1000:=by rw[a0e,hw qs mx];omega
   walk_at "w"
   refine ⟨u,_,M,rfl,R.rowK,lq,hM,fun H2 s2=>?_⟩
   walk_at "w"
   exact ⟨u,_,M,_,rfl,(R.same s2).rowK,lq,hM,b1,sb,fun r H3 n3 s3 g3=>k1 _ _ (s2.trans s3) ⟨r,rfl,g3⟩⟩
  rintro ys H1 lp0 hlp s1 g1 pr1 nx1
  walk_at "w"
  refine a6r fun qp H2 s2 nq gq=>?_
  have G2:d0l qp H2 lp0 (rows.map c2w):=⟨(fun z=>by rw[z,nq] at g1;cases g1),ys,s2 _ _ g1,Paired.imp' (fun _ _ ⟨q,a,b⟩=>⟨q,a,(fun z=>by rw[z,nq] at b;cases b),s2 _ _ b⟩) pr1⟩
  have hq0:H qp=none:=s1.none nq
  have s02:=s1.trans s2
  have hm:(rows.map c2w).length=rows.length:=a0e ..
  clear g1 pr1 nx1
  walk_at "w"
  refine ⟨by omega,by omega,?_⟩
  refine a7z (n:=n) (fun P σ' H'=>a1w H H'∧∃lp ls ps d y1 y2 y3,σ'=[some (.ref p),some (.int n),some (.ref lp),some (.ref qp),some (.int d),y1,y2,y3]∧H' qp=some (.lst (a7e ps))∧d0l qp H' lp ls∧SwI (rows.map c2w) n P ls ps d) ⟨s02,lp0,rows.map c2w,[],1,_,_,_,rfl,gq,G2,SwI.start fun zs hz=>by obtain ⟨x,hx,rfl⟩:=a0t.mp hz;rw[c0s];exact hw x hx⟩ ?_ ?_
  ·rintro P σ' H' hP ⟨s',lp,ls,ps,d,y1,y2,y3,rfl,gq',G',I⟩
   have hl:=I.len
   have kP:=I.el.kP
   have km:=I.el.km
   have lps:(a7e ps).length=ps.length:=a0e ..
   have hqp:H' qp≠none:=by rw[gq'];exact fun z=>nomatch z
   obtain ⟨z1,z2⟩:=I.sz (r:=min rows.length n) hW ent (by omega) (by rw[hm];exact a0h _) r15
   have big:(16*W)^min rows.length n < 2^8999:=a1m (e6i W2) (a4s (by decide) (by omega))
   walk_at "w"
   refine ⟨_,_,rfl,.inl (SqL.of gq'),?_⟩
   rw[lps]
   walk_at "w"
   refine ⟨qp,lp,ls,ps.length,P,rfl,G',by omega,by omega,fun zs hz=>by rw[I.wide zs hz];exact hP,fun t h1 h2 h3=>?_,fun hz=>?_⟩
   ·walk_at "w"
    refine ⟨rfl,_,rfl,?_⟩
    rw[show decide (V.int (t:Int)=V.non)=false from decide_eq_false (fun z=>nomatch z)]
    walk_at "w"
    refine ⟨qp,lp,ls,t,ps.length,rfl,hqp,G',by omega,h2,by omega,fun l1 Ha na sa Ga=>?_⟩
    walk_at "w"
    refine ⟨qp,l1,_,ps.length,P,n,d,rfl,fun z=>hqp (sa.none z),Ga,by rw[d1v];omega,by rw[d1v];omega,e4v I.wide (by omega) h2,by omega,hP,I.d0,a1m z1 big,fun zs hz z hz'=>?_,fun l2 Hb nb sb Gb=>?_⟩
    ·unfold swZ at hz
     have key:∀ys,ys∈ls->∀z∈ys,Sz 8999 z:=fun ys hy z hz=>a1m (z2 ys hy z hz) big
     rcases a2y hz with h | h
     ·rcases a2y h with h | h
      ·exact key zs h z hz'
      ·rw[h] at hz';exact key _ (getD_in h2) z hz'
     ·rw[h] at hz';exact key _ (getD_in (by omega)) z hz'
    have sab:=sa.trans sb
    have I2:=I.step hW ent h1 h2 h3
    have hk2:ps.length < (clZ (swZ ls ps.length t) ps.length P d).length:=by rw[f2v,d1v];omega
    obtain ⟨n2,xs2,gx2,qx2⟩:=id Gb
    obtain ⟨zk,vk,ek,evk,mk,qk,rfl,_,gk⟩:=b3x qx2 hk2
    have wk:=I2.wide zk mk
    walk_at "w"
    refine a4b (SqL.of gx2) (b2c evk) ?_
    walk_at "w"
    refine a4b (SqL.of gk) (d8j (by omega)) ?_
    have gqb:=sab _ _ gq'
    walk_at "w"
    refine ⟨.inl ⟨rfl,_,SqL.of gqb⟩,?_⟩
    walk_at "w"
    refine b9r gqb (a2f (by omega)) ?_
    refine ⟨(s'.trans sab).after hq0,l2,_,ps++[P],_,_,_,_,rfl,?_,Gb.upd,?_⟩
    ·rw[a0y]
     unfold a7e
     rw[a3y]
     rfl
    ·have e:(clZ (swZ ls ps.length t) ps.length P d).getD ps.length []=zk:=by rw[a0a,ek];rfl
     rw[e] at I2
     exact I2
   ·walk_at "w"
    refine ⟨rfl,_,rfl,?_⟩
    rw[show decide (V.non=V.non)=true from decide_eq_true rfl]
    walk_at "w"
    exact ⟨s',lp,ls,ps,d,_,_,_,rfl,gq',G',I.skip hz⟩
  rintro σ' H' ⟨s',lp,ls,ps,d,y1,y2,y3,rfl,gq',G',I⟩
  obtain ⟨R,hR⟩:=I.done hw F
  have lps:(a7e ps).length=ps.length:=a0e ..
  obtain ⟨nl,xs',gx',qx'⟩:=id G'
  walk_at "w"
  refine ⟨_,_,rfl,.inl (SqL.of gq'),?_⟩
  rw[lps]
  walk_at "w"
  refine f7w (SqL.of gx') fun sl H3 s3 n3 g3=>?_
  rw[f1o] at g3
  walk_at "w"
  refine a3l fun t H4 s4 g4=>?_
  have s34:=s3.trans s4
  exact k t sl qp R ps d _ H4 g4 (s34 _ _ gq') ⟨(fun z=>by rw[z,gq'] at n3;cases n3),_,s4 _ _ g3,Paired.imp' (fun _ _ z=>RzR.same z s34) (c3c qx' ps.length)⟩ (s'.trans s34) hR
theorem c9f:a1t ["top","bottom","divisor"] ["top","bottom"] (a0l c0y):=by walk_at "d"
theorem c4m (T:Txt K mg Z):a6g P w K mg base CX0 2 Z.c8u Z.c8p ["top","bottom"] e5k:=by
 have a6k:=b0v (P:=P) (w:=w) (base:=base) T
 refine T.c1u.ok c9f (fun vs H Q E h=>?_) (fun cdv A outer s H vs Q E hr h=>?_)
 ·obtain ⟨t,b,rfl,hb,hs,k⟩:=h
  rfl
 ·obtain ⟨t,b,rfl,hb,hs,k⟩:=h
  refine ⟨_,(a0k (a1z (i:=2) c9f.nd rfl (Or.inl rfl) (a0p a6k (hr.mono (by decide)) rfl T.a7y T.a6l.kp T.a8t .nil a1o (a0b (pv 0) (a0b (pv 1) a0g))))
   (a0k (a5u (a2b d4b (pv 1) a0m (a2o _)) (a0q (a1z (i:=2) c9f.nd rfl (Or.inl rfl) (d3w c3z (pv 2)))) a3c)
   (a0q (a1x (a5e (a0b (a3i b2j (pv 0) (pv 2)) (a0b (a3i b2j (pv 1) (pv 2)) a0g))))))),?_⟩
  refine a1h (σ:=[some (.int t),some (.int b),none]) rfl ?_
  walk_at "w"
  refine ⟨t,b,rfl,?_⟩
  have hg:=d9p (t:=t) hb
  have hgs:Sz 8999 (g t b):=hs.le (by
   have h1:(g t b).natAbs=Int.gcd t b:=by unfold g;simp
   rw[h1]
   exact c2u (by omega) (by have:=a6c (a:=t) (b:=b);exact a6z.mpr this |> fun z=>by simpa using z))
  have hgn:g (-t) (-b)=g t b:=by unfold g;rw[Int.gcd_neg,Int.neg_gcd]
  walk_at "w"
  refine c3j (fun h=>?_) (fun h=>?_)
  ·have hb0:b < 0:=of_decide_eq_true h
   walk_at "w"
   refine b9s (show c8j _ _ from ⟨by omega,hgs.neg⟩) ?_
   walk_at "w"
   refine b9s (show c8j _ _ from ⟨by omega,hgs.neg⟩) ?_
   walk_at "w"
   refine a3l fun r H' s' h'=>?_
   have e1:t.fdiv (-g t b)=lo (-t) (-b):=by
    unfold Nm.lo;rw[hgn,← a3f _ (by omega),← Int.neg_fdiv_neg (-t),Int.neg_neg]
   have e2:b.fdiv (-g t b)=hi (-t) (-b):=by
    unfold Nm.hi;rw[hgn,← a3f _ (by omega),← Int.neg_fdiv_neg (-b),Int.neg_neg]
   exact k r H' s' (by rw[if_pos hb0,if_pos hb0,← e1,← e2];exact h')
  ·have hb0:¬b < 0:=fun z=>h (decide_eq_true z)
   walk_at "w"
   refine b9s (show c8j _ _ from ⟨by omega,hgs⟩) ?_
   walk_at "w"
   refine b9s (show c8j _ _ from ⟨by omega,hgs⟩) ?_
   walk_at "w"
   refine a3l fun r H' s' h'=>?_
   rw[a3f _ (by omega),a3f _ (by omega)] at h'
   exact k r H' s' (by rw[if_neg hb0,if_neg hb0];exact h')
theorem d1x:a1t ["rows","wide","found"] ["rows","wide"] (a0l b6s):=by walk_at "d"
theorem c6o (T:Txt K mg Z):a6g P w K mg base CX0 5 Z.c5u Z.c5a ["rows","wide"] (d8r K):=by
 have e0c:=e1b (P:=P) (w:=w) (base:=base) T
 have b8t:=c4m (P:=P) (w:=w) (base:=base) T
 refine T.c0l.ok d1x (fun vs H Q E h=>?_) (fun cdv A outer s H vs Q E hr h=>?_)
 ·obtain ⟨p,n,w,H0,rows,rfl,G,r100,n100,hw,F,k⟩:=h
  rfl
 ·obtain ⟨p,n,w,H0,rows,rfl,G,r100,n100,hw,F,k⟩:=h
  refine ⟨_,(a0k (a1z (i:=2) d1x.nd rfl (Or.inl rfl) (a0p e0c (hr.mono (by decide)) rfl T.d4j T.d5l.kp T.d9w .nil a1o (a0b (pv 0) (a0b (pv 1) a0g))))
   (a0q (a1x (a3v ["line","lead"] [] [] (c2z rfl T.zip (a0b (a2w a4a (pv 2) a0m (by intro _ _;rfl)) (a0b (a2w a4a (pv 2) a0m (by intro _ _;rfl)) a0g))) (fun _=>(c3a K 2 (a3j (a1i (i:=0) (show List.Nodup (α:=PySem.Str) ["line","lead"] by decide +kernel) rfl (Or.inr rfl) (Or.inl rfl)) (a3j (a1i (i:=1) (show List.Nodup (α:=PySem.Str) ["line","lead"] by decide +kernel) rfl (Or.inr rfl) (Or.inl rfl)) b0u)))) (fun _=>a4j) (fun _=>(a3v ["top"] ["line","lead"] [0,1] (e0x K (pv 0)) (fun _=>(a1i (i:=0) (show List.Nodup (α:=PySem.Str) ["top","line","lead"] by decide +kernel) rfl (Or.inl rfl) (Or.inl rfl))) (fun _=>a4j) (fun _=>(a0p b8t (hr.mono (by decide)) rfl T.b9v T.c1u.kp T.c5n .nil a1o (a0b (pv 0) (a0b (a2w (b7s K (by rfl)) (pv 1) (pv 2) (by intro _ _;rfl)) a0g)))))))))),?_⟩
  refine a1h (σ:=[some (.ref p),some (.int n),none]) rfl ?_
  obtain ⟨_,_,_,_,_,_,_,_,r15,r89⟩:=id F
  walk_at "w"
  refine ⟨p,n,w,H0,rows,rfl,G,r100,n100,hw,F,fun t lp qp R ps d ls H1 gt gq G1 s1 S=>?_⟩
  obtain ⟨lR,wR,RR⟩:=id S.rr
  have hl:=S.len
  obtain ⟨_,xs,gx,qx⟩:=id G1
  have lx:=qx.length
  have lps:(a7e ps).length=ps.length:=a0e ..
  have d0:(d:Rat)≠0:=fun z=>S.d0 (c8f z)
  have dsz:Sz 8999 d:=a1m S.dsz (a4s (by decide) (by omega))
  have km:ps.length<=n:=by
   rcases a2x n ps.length with z | z
   ·have inc:∀j,j < ps.length->j<=ps.getD j 0:=by
     intro j
     induction j with
     | zero=>intro _;exact a1f _
     | succ j ih =>
      intro hj
      have:=ih (by omega)
      have:=RR.inc j (j+1) (by omega) hj
      omega
    have h1:=inc (ps.length - 1) (by omega)
    have h2:=RR.low (ps.length - 1) (by omega)
    omega
   ·exact z
  walk_at "w"
  refine ⟨⟨_,SqL.of gx⟩,⟨_,SqL.of gq⟩,?_⟩
  refine c5i (K:=K) (xs:=xs) (ws:=a7e ps) (fun i ys H'=>a1w H1 H'∧Paired (a8x K H1 H') (R.take i) ys) (a1j (a2f (by omega))) (by omega) ⟨a1w.refl _,.nil⟩ (fun i ys H' _ ⟨s,_⟩=>⟨SqL.of (s _ _ gx),SqL.of (s _ _ gq)⟩) ?_ ?_
  ·rintro i v1 v2 ys H' r h1 h2 hy ⟨s,pr⟩ hr
   obtain ⟨zs,ez,q,rfl,_,gq1⟩:=a2z qx h1
   have hi:i < ls.length:=(a0s.mp ez).1
   have mz:=a0j ez
   have wz:=S.wide zs mz
   obtain ⟨j,ej,rfl⟩:∃j:Nat,ps[i]?=some j∧V.int (j:Int)=v2:=by
    unfold a7e at h2
    rw[a0x] at h2
    cases e:ps[i]? with
    | none=>rw[e] at h2;cases h2
    | some x=>rw[e] at h2;exact ⟨x,rfl,a2v h2⟩
   have ej':ps.getD i 0=j:=by rw[a0a,ej];rfl
   have jn:j < n:=by have:=RR.low i (by omega);rw[ej'] at this;exact this
   have sr:a1w H' (upd H' r (.tup [.ref q,.int j])):=a1w.new hr
   have gr:(upd H' r (.tup [.ref q,.int j])) r=some (.tup [.ref q,.int j]):=a0y
   generalize upd H' r (.tup [.ref q,.int j])=H2 at sr gr ⊢
   have s2:=s.trans sr
   have iR:i < R.length:=by omega
   have eR:=a0c iR
   have wRi:=wR _ (a0z iR)
   have ed:zs.getD j 0=d:=by
    have h:=S.val i j
    rw[f6t ez] at h
    have u:=RR.unit i (by omega) i (by omega)
    rw[if_pos rfl,ej'] at u
    rw[u,Rat.mul_one] at h
    exact a4m.mp h
   have val:∀c,((zs.getD c 0:Int):Rat)=(d:Rat)*(R[i]).getD c 0:=fun c=>by
    have h:=S.val i c
    rw[f6t ez] at h
    rw[h]
    unfold fnQ
    rw[a0a (l:=R),eR]
    rfl
   walk_at "w"
   refine ⟨⟨_,SqL.of (s2 _ _ gq1)⟩,?_⟩
   refine a6j (K:=K) (xs:=zs.map V.int) (fun c ys' H3=>a1w H2 H3∧Paired (a5w K H3) ((R[i]).take c) ys') (a1j (a2f (by rw[a0e];omega))) ⟨a1w.refl _,.nil⟩ (fun c ys' H3 _ ⟨s3,_⟩=>SqL.of ((s2.trans s3) _ _ gq1)) ?_ ?_
   ·rintro c x ys' H3 hx hlen ⟨s3,pr3⟩
    obtain ⟨z,ec,rfl⟩:∃z,zs[c]?=some z∧V.int z=x:=by
     rw[a0x] at hx
     cases e:zs[c]? with
     | none=>rw[e] at hx;cases hx
     | some x=>rw[e] at hx;exact ⟨x,rfl,a2v hx⟩
    have hc:c < zs.length:=(a0s.mp ec).1
    have vc:=val c
    have e1:zs.getD c 0=z:=by rw[a0a,ec];rfl
    rw[e1] at vc
    walk_at "w"
    refine a4b (SqL.of ((s2.trans s3) _ _ gq1)) (d8j (by omega)) ?_
    rw[ed]
    walk_at "w"
    refine ⟨z,d,rfl,S.d0,dsz,fun r4 H4 s4 g4=>?_⟩
    have ec':(R[i])[c]?=some ((R[i]).getD c 0):=by rw[a0a,a0c (show c < (R[i]).length by omega)];rfl
    refine ⟨s3.trans s4,?_⟩
    rw[take_snoc ec']
    refine a2t (Paired.imp' (fun _ _ z=>a5w.same z s4) pr3) (.cons (a5w.mk g4 ?_) .nil)
    rcases Int.lt_or_lt_of_ne S.d0 with hd | hd
    ·rw[if_pos hd,if_pos hd]
     refine c3i (by omega) ?_
     rw[a3q,a3q,vc]
     grind
    ·rw[if_neg (by omega),if_neg (by omega)]
     refine c3i hd ?_
     rw[vc]
     grind
   ·rintro ys' H3 hy' ⟨s3,pr3⟩ l4 hl4
    have sn:a1w H3 (upd H3 l4 (.lst ys')):=a1w.new hl4
    refine ⟨(s2.trans s3).trans sn,?_⟩
    rw[take_snoc eR]
    rw[a0r (by rw[a0e];omega)] at pr3
    exact a2t (Paired.imp' (fun _ _ z=>a8x.same z ((sr.trans s3).trans sn)) pr) (.cons ⟨l4,rfl,(s2.trans s3).none hl4,ys',a0y,Paired.imp' (fun _ _ z=>a5w.same z sn) pr3⟩ .nil)
  ·rintro ys H' hy ⟨s,pr⟩ r hr
   have sn:a1w H' (upd H' r (.lst ys)):=a1w.new hr
   rw[a0r (by omega)] at pr
   refine k r R ps d.natAbs _ (s1.none (s.none hr)) ((s1.trans s).trans sn) ⟨ys,a0y,Paired.imp' (fun _ _ z=>(a8x.weak z s1).same sn) pr,c4p (H0:=H1) (rows:=R) ⟨H',hr,pr⟩⟩ S.rr S.km ?_ S.dsz S.tp
   have:=S.d0
   omega
theorem c0u:a1t ["one","other","one_bottom","other_bottom","pairs"] ["one","other"] (a0l b6r):=by walk_at "d"
theorem d2i (T : Txt K mg Z) : a6g P w K mg base CX0 4 Z.c5t Z.c4z ["one", "other"] (e5p K) := by
  have b0d := b9e (P := P) (w := w) (base := base) T
  have b8q := c7k (P := P) (w := w) (base := base) T
  have b8t := c4m (P := P) (w := w) (base := base) T
  refine T.c6b.ok c0u (fun vs H Q E h => ?_) (fun cdv A outer s H vs Q E hr h => ?_)
  · obtain ⟨p, q, xs, ys, rfl, hp, hq, hl, hz, ⟨k1, j1, k2, j2, h1, h2, hkj⟩, kk⟩ := h
    rfl
  · obtain ⟨p, q, xs, ys, rfl, hp, hq, hl, hz, ⟨k1, j1, k2, j2, h1, h2, hkj⟩, kk⟩ := h
    refine ⟨_, (a0k (a1z (i := 2) c0u.nd rfl (Or.inl rfl) (a0p b0d (hr.mono (by decide)) rfl T.a8o T.a7j.kp T.a9y .nil a1o (a0b (pv 0) a0g)))
      (a0k (a1z (i := 3) c0u.nd rfl (Or.inl rfl) (a0p b0d (hr.mono (by decide)) rfl T.a8o T.a7j.kp T.a9y .nil a1o (a0b (pv 1) a0g)))
      (a0k (a1z (i := 4) c0u.nd rfl (Or.inl rfl) (e3k rfl T.list rfl T.zip (a0b (a0p b8q (hr.mono (by decide)) rfl T.b5a T.b4n.kp T.b8d .nil a1o (a0b (pv 0) (a0b (pv 2) a0g))) (a0b (a0p b8q (hr.mono (by decide)) rfl T.b5a T.b4n.kp T.b8d .nil a1o (a0b (pv 1) (a0b (pv 3) a0g))) a0g))))
      (a0q (a1x (a0p b8t (hr.mono (by decide)) rfl T.b9v T.c1u.kp T.c5n .nil a1o (a0b (a2k (f1q rfl) (by rfl) T.sum PyProof.Rows.boot_sum (a0b (a3v ["mine", "yours"] [] [] (a4c (pv 4)) (fun _ => (c3a K 2 (a3j (a1i (i := 0) (show List.Nodup (α := PySem.Str) ["mine", "yours"] by decide +kernel) rfl (Or.inl rfl) (Or.inl rfl)) (a3j (a1i (i := 1) (show List.Nodup (α := PySem.Str) ["mine", "yours"] by decide +kernel) rfl (Or.inl rfl) (Or.inl rfl)) b0u)))) (fun _ => a4j) (fun _ => (a3i a5h (pv 0) (pv 1)))) a0g)) (a0b (a3i a5h (pv 2) (pv 3)) a0g)))))))), ?_⟩
    refine a1h (σ := [some (.ref p), some (.ref q), none, none, none]) rfl ?_
    obtain ⟨M, h1⟩ := h1.rowM (by omega)
    obtain ⟨N, h2⟩ := h2.rowM (by omega)
    replace hp := hp.rowK
    replace hq := hq.rowK
    replace hl : (ys.map nm).length = (xs.map nm).length := by simpa using hl
    replace hz : (xs.map nm).length ≤ 1000 := by simpa using hz
    obtain ⟨b1, s1⟩ := h1.bot
    obtain ⟨b2, s2⟩ := h2.bot
    have k2 : ∀ r H', a1w H H' → H' r = some (.tup [.int (lo (g0g (xs.map nm) (ys.map nm)) (c0d (xs.map nm) * c0d (ys.map nm))), .int (hi (g0g (xs.map nm) (ys.map nm)) (c0d (xs.map nm) * c0d (ys.map nm)))]) → Q (.ref r) H' := fun r H' s g => kk r H' s (a5w.mk g (f5t b1 b2))
    clear kk
    generalize xs.map nm = ns at hp hq hl hz h1 h2 b1 b2 s1 s2 k2
    generalize ys.map nm = ms at hp hq hl hz h1 h2 b1 b2 s1 s2 k2
    have hb : 0 < c0d ns * c0d ms := c3y b1 b2
    walk_at "w"
    refine ⟨p, ns, M, rfl, hp, hz, h1, fun H1 t1 => ?_⟩
    walk_at "w"
    refine ⟨q, ms, N, rfl, hq.same t1, by omega, h2, fun H2 t2 => ?_⟩
    have u2 := t1.trans t2
    walk_at "w"
    refine ⟨p, ns, M, _, rfl, hp.same u2, hz, h1, b1, s1, fun r1 H3 n3 t3 g3 => ?_⟩
    walk_at "w"
    refine ⟨q, ms, N, _, rfl, (hq.same u2).same t3, by omega, h2, b2, s2, fun r2 H4 n4 t4 g4 => ?_⟩
    walk_at "w"
    refine ⟨r1, r2, _, _, rfl, SqL.of (t4 _ _ g3), SqL.of g4, by simp [b0g, hl], fun L ts H5 t5 n5 g5 pr => ?_⟩
    have lt := pr.length
    have ll : (b0g ns (c0d ns)).length = ns.length := by simp [b0g]
    have lm : (b0g ms (c0d ms)).length = ns.length := by simp [b0g, hl]
    rw [d5t, a0e, a0e, ll, lm] at lt
    walk_at "w"
    refine ⟨⟨_, SqL.of g5⟩, ?_⟩
    refine a6j (K := K) (xs := ts) (fun i ys H' => H' = H5 ∧ ys = ((List.zipWith (· * ·) (b0g ns (c0d ns)) (b0g ms (c0d ms))).take i).map V.int) (a1j (a2f (by omega))) ⟨rfl, rfl⟩ (fun i ys H' _ ⟨e, _⟩ => by subst e; exact SqL.of g5) ?_ ?_
    · rintro i x ys H' hx hlen ⟨rfl, rfl⟩
      obtain ⟨pq, epq, T, rfl, gT⟩ := a2z pr hx
      obtain ⟨t, u, et, eu, rfl⟩ := f3c epq
      walk_at "w"
      refine b9s (show b9d _ _ from .inr ⟨_, _, e0o h1 b1 s1 (a0j et), e0o h2 b2 s2 (a0j eu), by decide⟩) ?_
      have ez : (List.zipWith (· * ·) (b0g ns (c0d ns)) (b0g ms (c0d ms)))[i]? = some (t * u) := by rw [a3z, et, eu]
      exact ⟨rfl, by rw [take_snoc ez]; simp⟩
    · rintro ys H' hy ⟨rfl, rfl⟩ l hl'
      walk_at "w"
      refine ⟨l, List.zipWith (· * ·) (b0g ns (c0d ns)) (b0g ms (c0d ms)), rfl, SqL.of (by rw [a0y, a0r (by rw [a2i]; omega)]), ?_⟩
      walk_at "w"
      refine b9s (show b9d _ _ from .inr ⟨_, _, s1, s2, by decide⟩) ?_
      walk_at "w"
      refine ⟨_, _, rfl, by omega, (s1.mul s2).mono (by decide), fun r H6 t6 g6 => ?_⟩
      rw [if_neg (by omega), if_neg (by omega)] at g6
      exact k2 r H6 ((((u2.trans t3).trans t4).trans t5).trans ((a1w.new hl').trans t6)) g6
theorem e3e:a1t ["grid","row"] ["grid","row"] (a0l b6w):=by walk_at "d"
theorem e3p (T:Txt K mg Z):a6g P w K mg base CX0 5 Z.c5y Z.c5e ["grid","row"] (f3l K):=by
 have d0m:=d2i (P:=P) (w:=w) (base:=base) T
 refine T.d0t.ok e3e (fun vs H Q E h=>?_) (fun cdv A outer s H vs Q E hr h=>?_)
 ·obtain ⟨p,q,H0,rows,ys,rfl,hp,hq,hz,hl,hr1,kk⟩:=h
  rfl
 ·obtain ⟨p,q,H0,rows,ys,rfl,hp,hq,hz,hl,hr1,kk⟩:=h
  refine ⟨_,(a0q (a1x (a3v ["line"] ["row"] [1] (a4c (pv 0)) (fun _=>(a1i (i:=0) (show List.Nodup (α:=PySem.Str) ["line","row"] by decide +kernel) rfl (Or.inl rfl) (Or.inl rfl))) (fun _=>a4j) (fun _=>(a0p d0m (hr.mono (by decide)) rfl T.c6r T.c6b.kp T.d0c .nil a1o (a0b (pv 0) (a0b (pv 1) a0g))))))),?_⟩
  refine a1h (σ:=[some (.ref p),some (.ref q)]) rfl ?_
  obtain ⟨xs,gx,qx,_⟩:=id hp
  walk_at "w"
  refine ⟨⟨_,SqL.of gx⟩,?_⟩
  refine a9w (K:=K) (F:=a8x K H0) (a5w K) (fun xs=>b4j xs ys) gx qx hz (fun a b=>a.same b) (fun a b=>a.same b) ?_ ?_
  ·rintro i ns x H' NY NN en s ⟨u,rfl,_,hu⟩ k
   obtain ⟨e1,e2⟩:=hr1 ns (a0j en)
   walk_at "w"
   exact ⟨u,q,ns,ys,rfl,hu,hq.same s,e1.symm,by omega,e2,fun r H2 s2 h2'=>k _ _ s2 h2'⟩
  ·rintro ys' H' r hr s g pr nx
   exact kk r H' hr s ⟨ys',g,pr⟩
theorem d3s:a1t ["system","rows"] ["system","rows"] (a0l a9a):=by walk_at "d"
theorem c4l (T:Txt K mg Z):a6g P w K mg base CX0 6 Z.b5n Z.b5e ["system","rows"] (e5g K Z.a_System):=by
 have e8t:=e3p (P:=P) (w:=w) (base:=base) T
 refine T.b5w.ok d3s (fun vs H Q E h=>?_) (fun cdv A outer s H vs Q E hr h=>?_)
 ·obtain ⟨x,p,H0,H1,mv,pt,lk,R,rfl,S,D,G,l100,wR,hf,k⟩:=h
  rfl
 ·obtain ⟨x,p,H0,H1,mv,pt,lk,R,rfl,S,D,G,l100,wR,hf,k⟩:=h
  refine ⟨_,(a0q (a1x (a3v ["row"] ["system"] [0] (a4c (pv 1)) (fun _=>(a1i (i:=0) (show List.Nodup (α:=PySem.Str) ["row","system"] by decide +kernel) rfl (Or.inl rfl) (Or.inl rfl))) (fun _=>a4j) (fun _=>(a0p e8t (hr.mono (by decide)) rfl T.d2p T.d0t.kp T.d7y .nil a1o (a0b (e6p K (pv 1) rfl) (a0b (pv 0) a0g))))))),?_⟩
  refine a1h (σ:=[some (.ref x),some (.ref p)]) rfl ?_
  obtain ⟨dx,a',b',c',gx,_,_,_,Ga,Gb,Gc⟩:=id S
  have d8:=D.n8
  obtain ⟨xs,gxs,qx,_⟩:=id G
  walk_at "w"
  refine ⟨⟨_,SqL.of gxs⟩,?_⟩
  refine a9w (K:=K) (F:=a8x K H1) (a8x K H) (onQ mv) gxs qx (by omega) (fun a b=>a.same b) (fun a b=>a.same b) ?_ ?_
  ·rintro i ns v H' NY NN en s ⟨u,rfl,_,hu⟩ k1
   have mn:=a0j en
   walk_at "w"
   refine ⟨x,Z.a_System,dx,_,_,rfl,s _ _ gx,T.cl_System,T.na_move,d3j,?_⟩
   walk_at "w"
   exact ⟨a',u,H0,mv,ns,rfl,Ga.same s,hu,by omega,by rw[wR ns mn];omega,fun xs hx=>⟨by rw[D.mw xs hx,wR ns mn],hf xs hx ns mn⟩,fun r H2 nr s2 R2=>k1 _ _ s2 ⟨r,rfl,s.none nr,R2⟩⟩
  ·rintro ys H' r hr s g pr nx
   exact k r H' hr s ⟨ys,g,pr,c4p nx⟩
theorem b5z:a1t ["system","steps","lists","rows"] ["system","steps"] (a0l a7p):=by walk_at "d"
theorem c2g (T:Txt K mg Z):a6g P w K mg base CX0 7 Z.b3c Z.b2n ["system","steps"] (e5n K Z.a_System):=by
 have c0i:=c6o (P:=P) (w:=w) (base:=base) T
 have c0k:=c4l (P:=P) (w:=w) (base:=base) T
 refine T.b3l.ok b5z (fun vs H Q E h=>?_) (fun cdv A outer s H vs Q E hr h=>?_)
 ·obtain ⟨x,a,c,st,H0,mv,pt,lk,rfl,s1000,S,D,F,k⟩:=h
  rfl
 ·obtain ⟨x,a,c,st,H0,mv,pt,lk,rfl,s1000,S,D,F,k⟩:=h
  refine ⟨_,(a0k (a1z (i:=2) b5z.nd rfl (Or.inl rfl) (a9q (a0b (a9q a0g) a0g)))
   (a0k (d3u PassesOwn.never (a2b g1q (a2k a1y (by rfl) T.len a1v (a0b (pv 2) a0g)) (pv 1) (a2o _))
    (a0k (a1z (i:=3) b5z.nd rfl (Or.inl rfl) (a0p c0i (hr.mono (by decide)) rfl T.c1b T.c0l.kp T.c5m .nil a1o (a0b (a3i c7j (a8m (pv 0) rfl) (a0p c0k (hr.mono (by decide)) rfl T.b7q T.b5w.kp T.c0f .nil a1o (a0b (pv 0) (a0b (a2w a3a (pv 2) (d3w c3z a0m) (by intro _ _;rfl)) a0g)))) (a0b (a8m (pv 0) rfl) a0g))))
   (a0k (a5u (a2b b1u (a2k a1y (by rfl) T.len a1v (a0b (pv 3) a0g)) (a2k a1y (by rfl) T.len a1v (a0b (a2w a3a (pv 2) (d3w c3z a0m) (by intro _ _;rfl)) a0g)) (a2o _)) (a0q (a1x (pv 2))) a3c)
   (a0q (b6c (d9e a4n a8g a8f b9u (pv 2) (a0b (pv 3) a0g)))))))
   (a0q (a1x (pv 2))))),?_⟩
  refine a1h (σ:=[some (.ref x),some (.int st),none,none]) rfl ?_
  obtain ⟨dx,a',b',c',gx,_,_,_,Ga,Gb,Gc⟩:=id S
  have d8:=D.n8
  have i4:=D.i4
  have lP:=a6u (mv:=mv) (pt:=pt) rfl D.pw
  walk_at "w"
  refine a6r fun q0 H1 s1 nq0 g1=>?_
  walk_at "w"
  refine a6r fun l H2 s2 nl g2=>?_
  have s02:=s1.trans s2
  have nl0:H l=none:=s1.none nl
  obtain ⟨Hz,eHz⟩:∃Hz,Hz=upd H l (.lst []):=⟨_,rfl⟩
  have zl:Hz l≠none:=by rw[eHz,a0y];exact fun z=>nomatch z
  have zn:∀q,Hz q=none->H q=none∧q≠l:=fun q h=>by
   have ne:q≠l:=fun z=>zl (by rw[← z];exact h)
   rw[eHz,a2d ne] at h
   exact ⟨h,ne⟩
  have nz:∀q,H q=none->q≠l->Hz q=none:=fun q h ne=>by rw[eHz,a2d ne];exact h
  clear eHz
  have q0l:q0≠l:=fun z=>by rw[z,nl] at g1;cases g1
  have G0:a3e K Hz H2 q0 []:=⟨[],s2 _ _ g1,.nil,fun z=>nomatch z⟩
  walk_at "w"
  refine d8m (fun σ' H'=>a1w H H'∧∃Rs R us y,σ'=[some (.ref x),some (.int st),some (.ref l),y]∧H' l=some (.lst us)∧Paired (fun R v=>∃q,v=V.ref q∧Hz q=none∧a3e K Hz H' q R) (Rs++[R]) us∧e0b mv pt (Rs++[R])∧Rs.length<=st) (fun _ H'=>match H' l with | some (.lst us)=>st+1 - us.length | _=>0) ⟨s02,[],[],_,_,rfl,g2,.cons ⟨q0,rfl,nz q0 nq0 q0l,G0⟩ .nil,⟨by simp,fun t R e=>?_,fun t R R' e e'=>?_⟩,a1f _⟩ ?_
  ·have ht:=(a0s.mp e).1
   have:t=0:=by simpa using ht
   subst this
   cases e
   exact ⟨[],e5z⟩
  ·have ht:=(a0s.mp e').1
   simp at ht
  rintro σ' Ha ⟨sa,Rs,R,us,y,rfl,gu,pa,Gw,hst⟩
  have lu:=pa.length
  rw[a0i,a1q] at lu
  have eR:(Rs++[R])[Rs.length]?=some R:=by rw[a1e (a0h _),a6w];rfl
  obtain ⟨ps,RR⟩:=Gw.rr _ _ eR
  have tn:Rs.length<=mv.length:=by have:=Gw.len _ _ eR;have:=RR.le;have:=RR.1;omega
  have fin:∀(Hx:Hp) (sx:a1w Ha Hx) (hh:∀s,(Rs.length=st∧s=st∨Rs.length < st∧Rs.length<=s)->∃ps,a2u (kry mv pt s) mv.length R ps),Q (.ref l) Hx:=fun Hx sx hh=>by
   refine k l (Rs++[R]) Hx nl0 (sa.trans sx) ⟨us,sx _ _ gu,Paired.imp' (fun _ _ ⟨q,e1,e2,e3⟩=>⟨q,e1,(zn q e2).1,(zn q e2).2,a3e.weakN (a3e.same e3 sx) fun q h=>(zn q h).1⟩) pa⟩ Gw (by rw[a0i,a1q];omega) fun R2 e2 s hs=>?_
   rw[List.getLast?_concat] at e2
   cases e2
   rw[a0i,a1q,Nat.add_sub_cancel] at hs
   exact hh s hs
  walk_at "w"
  refine ⟨_,_,rfl,.inl (SqL.of gu),?_⟩
  walk_at "w"
  refine c3j (fun h0=>?_) (fun h0=>?_)
  ·have h0:=of_decide_eq_true h0
   refine f7t ?_
   obtain ⟨zs,gS⟩:∃zs q,us=zs++[V.ref q]∧Hz q=none∧a3e K Hz Ha q R:=by
    obtain ⟨v,ev,q,rfl,e2,e3⟩:∃v,us[Rs.length]?=some v∧∃q,v=V.ref q∧Hz q=none∧a3e K Hz Ha q R:=by
     have ev:=a0c (show Rs.length < us.length by omega)
     obtain ⟨R2,e2,w⟩:=a2z pa ev
     rw[eR] at e2
     cases e2
     exact ⟨_,ev,w⟩
    refine ⟨us.take Rs.length,q,?_,e2,e3⟩
    rw[← take_snoc ev,a0r (by omega)]
   obtain ⟨q,rfl,zq,Gq⟩:=gS
   have gxa:=sa _ _ gx
   walk_at "w"
   refine ⟨x,Z.a_System,dx,_,_,rfl,gxa,T.cl_System,T.na_put,d3i,?_⟩
   walk_at "w"
   refine a4b (SqL.of gu) (c5r _ _) ?_
   have wR:=RR.2.1
   have lR:=RR.1
   have pn:=RR.le
   walk_at "w"
   refine ⟨x,q,H0,Hz,mv,pt,lk,R,rfl,S.same sa,D,Gq,by omega,wR,F.fit d8 D.mw D.pw tn RR,fun mr Hb nmr sb Gm=>?_⟩
   obtain ⟨pv,gpv,qpv,_⟩:=Gb.same (sa.trans sb)
   obtain ⟨mvs,gmv,qmv,_⟩:=id Gm
   have lpv:=qpv.length
   have lmv:=qmv.length
   rw[a0e] at lmv
   walk_at "w"
   refine c7i gpv gmv (a1j (a2f (by omega))) fun cr Hc sc nc gc=>?_
   have sab:=sa.trans (sb.trans sc)
   have Gc':a3e K (fun _=>none) Hc cr (pt++R.map (onQ mv)):=c9x (H:=Hb) (a2t (Paired.imp' (fun _ _ ⟨q,e1,e2,e3⟩=>⟨q,e1,rfl,e3⟩) qpv) (Paired.imp' (fun _ _ ⟨q,e1,e2,e3⟩=>⟨q,e1,rfl,e3⟩) qmv)) sc nc gc
   walk_at "w"
   refine ⟨x,Z.a_System,dx,_,_,rfl,sab _ _ gx,T.cl_System,T.na_states,b0k,?_⟩
   walk_at "w"
   refine ⟨cr,mv.length,_,_,_,rfl,Gc',by rw[a0i,a0e];omega,by omega,fun xs hx=>?_,F.step d8 D.mw D.pw tn RR,fun rr R' ps' M' Hd nrr sd G' RR' pm' _ _ _=>?_⟩
   ·rcases a0w.mp hx with hx | hx
    ·exact D.pw xs hx
    ·obtain ⟨y,_,rfl⟩:=a0t.mp hx
     exact c9k
   have sbd:=sb.trans (sc.trans sd)
   have sad:=sa.trans sbd
   have K1:=c8m rfl D.mw D.pw RR RR'
   have gud:=sbd _ _ gu
   obtain ⟨rv,grv,qrv,_⟩:=id G'
   have lrv:=qrv.length
   have lR':=RR'.1
   have pn':=RR'.le
   walk_at "w"
   refine ⟨_,_,rfl,.inl (SqL.of grv),?_⟩
   walk_at "w"
   refine a4b (SqL.of gud) (c5r _ _) ?_
   obtain ⟨ov,gov,qov,_⟩:=Gq.same sbd
   have lov:=qov.length
   walk_at "w"
   refine ⟨_,_,rfl,.inl (SqL.of gov),?_⟩
   walk_at "w"
   refine c3j (fun h1=>?_) (fun h1=>?_)
   ·have h1:=of_decide_eq_true h1
    walk_at "w"
    refine fin Hd sbd fun s hs=>⟨ps,?_⟩
    obtain ⟨s',rfl⟩:∃s',s=Rs.length+s':=⟨s - Rs.length,by omega⟩
    exact d7d rfl D.mw D.pw RR RR' (by omega) s'
   ·have h1:¬((rv.length:Int)=ov.length):=fun z=>h1 (decide_eq_true z)
    have gr:=e1n rfl D.mw D.pw RR K1
    have rl:rr≠l:=fun z=>by rw[z,(sb.trans sc) _ _ gu] at nrr;cases nrr
    have zc:∀q,Hc q=none->Hz q=none:=fun q h=>nz q (sab.none h) (fun z=>by rw[z,(sb.trans sc) _ _ gu] at h;cases h)
    walk_at "w"
    refine ⟨.inl ⟨rfl,_,SqL.of gud⟩,?_⟩
    walk_at "w"
    refine b9r gud (a2f (by omega)) ?_
    refine ⟨⟨sad.after nl0,Rs++[R],R',_,_,rfl,a0y,a2t (Paired.imp' (fun _ _ ⟨q,e1,e2,e3⟩=>⟨q,e1,e2,a3e.updL (a3e.same e3 sbd) gud zl (zn q e2).2⟩) pa) (.cons ⟨rr,rfl,zc rr nrr,a3e.updL (G'.weakN zc) gud zl rl⟩ .nil),Gw.snoc K1 (by omega),by rw[a0i,a1q];omega⟩,?_⟩
    simp only[gu,a0y,a0i,a1q] at lu h0 ⊢
    omega
  ·have h0:¬((us.length:Int)<=st):=fun z=>h0 (decide_eq_true z)
   walk_at "w"
   exact fin Ha (a1w.refl _) fun s hs=>⟨ps,by
    have:s=Rs.length:=by omega
    rw[this];exact RR⟩
theorem d3q:a1t ["system","steps"] ["system","steps"] (a0l a8y):=by walk_at "d"
theorem c4k (T:Txt K mg Z):a6g P w K mg base CX0 8 Z.b5l Z.b5c ["system","steps"] (e5c K Z.a_System):=by
 have b8r:=c2g (P:=P) (w:=w) (base:=base) T
 refine T.b5v.ok d3q (fun vs H Q E h=>?_) (fun cdv A outer s H vs Q E hr h=>?_)
 ·obtain ⟨x,a,c,st,H0,mv,pt,lk,rfl,s1000,S,D,F,k⟩:=h
  rfl
 ·obtain ⟨x,a,c,st,H0,mv,pt,lk,rfl,s1000,S,D,F,k⟩:=h
  refine ⟨_,(a0q (a1x (a2w a3a (a0p b8r (hr.mono (by decide)) rfl T.b6d T.b3l.kp T.b8e .nil a1o (a0b (pv 0) (a0b (pv 1) a0g))) (d3w c3z a0m) (by intro _ _;rfl)))),?_⟩
  refine a1h (σ:=[some (.ref x),some (.int st)]) rfl ?_
  walk_at "w"
  refine ⟨x,a,c,st,H0,mv,pt,lk,rfl,s1000,S,D,F,fun r Rs H1 nr s1 ⟨us,gu,pa⟩ Gw hl hh=>?_⟩
  have lu:=pa.length
  obtain ⟨Rs',R,rfl⟩:∃Rs' R,Rs=Rs'++[R]:=⟨Rs.dropLast,Rs.getLast Gw.ne,(List.dropLast_concat_getLast Gw.ne).symm⟩
  rw[a0i,a1q] at lu hl
  have eR:(Rs'++[R])[Rs'.length]?=some R:=by rw[a1e (a0h _),a6w];rfl
  obtain ⟨zs,q,rfl,zq,ql,Gq⟩:∃zs q,us=zs++[V.ref q]∧H q=none∧q≠r∧a3e K H H1 q R:=by
   have ev:=a0c (show Rs'.length < us.length by omega)
   obtain ⟨R2,e2,q,e3,e4,e5,e6⟩:=a2z pa ev
   rw[eR] at e2
   cases e2
   rw[e3] at ev
   refine ⟨us.take Rs'.length,q,?_,e4,e5,e6⟩
   rw[← take_snoc ev,a0r (by omega)]
  obtain ⟨ps,RR⟩:=hh R (by rw[List.getLast?_concat]) st (by rw[a0i,a1q,Nat.add_sub_cancel];omega)
  walk_at "w"
  refine a4b (SqL.of gu) (c5r _ _) ?_
  exact k q R ps H1 zq s1 Gq RR
theorem d8u:a1t ["many","at"] ["many","at"] (a0l b3o):=by walk_at "d"
theorem d9f (T:Txt K mg Z):a6g P w K mg base CX0 1 Z.c1n Z.c1e ["many","at"] (e9i K):=by
 refine T.c7f.ok d8u (fun vs H Q E h=>?_) (fun cdv A outer s H vs Q E hr h=>?_)
 ·obtain ⟨m,a',rfl,hm,k⟩:=h
  rfl
 ·obtain ⟨m,a',rfl,hm,k⟩:=h
  refine ⟨_,(a0q (a1x (a3v ["place"] ["at"] [1] (a3u rfl T.range (a0b (pv 0) a0g)) (fun _=>(a1i (i:=0) (show List.Nodup (α:=PySem.Str) ["place","at"] by decide +kernel) rfl (Or.inl rfl) (Or.inl rfl))) (fun _=>a4j) (fun _=>(e0z (a2b b1u (pv 0) (pv 1) (a2o _)) (b7l (v:=.ref Z.a_ONE) rfl T.mg_ONE rfl) (b7l (v:=.ref Z.a_NOUGHT) rfl T.mg_NOUGHT rfl)))))),?_⟩
  refine a1h (σ:=[some (.int m),some (.int a')]) rfl ?_
  walk_at "w"
  refine ⟨by omega,by omega,?_⟩
  refine b1x (n:=m) (a5w K) (fun i=>if ((i:Nat):Int)=a' then 1 else 0) hm (fun a b=>a.same b) ?_ ?_
  ·rintro i H' NY NN hi s k1
   walk_at "w"
   refine c3j (fun h0=>?_) (fun h0=>?_)
   ·walk_at "w"
    exact k1 _ _ (a1w.refl _) (by rw[if_pos (of_decide_eq_true h0)];exact ⟨_,rfl,T.sq_ONE _⟩)
   ·walk_at "w"
    exact k1 _ _ (a1w.refl _) (by rw[if_neg (fun z=>h0 (decide_eq_true z))];exact ⟨_,rfl,T.sq_NOUGHT _⟩)
  ·rintro ys H' l hl s g pr nx
   exact k l _ hl s ⟨ys,g,pr⟩
theorem c8a:a1t ["row"] ["row"] (a0l a5x):=by walk_at "d"
theorem c8e (T:Txt K mg Z):a6g P w K mg base CX0 1 Z.b0a Z.a9t ["row"] (e9q K):=by
 refine T.b4o.ok c8a (fun vs H Q E h=>?_) (fun cdv A outer s H vs Q E hr h=>?_)
 ·obtain ⟨p,xs,j,rfl,R,x1000,hj,hne,hz,k⟩:=h
  rfl
 ·obtain ⟨p,xs,j,rfl,R,x1000,hj,hne,hz,k⟩:=h
  refine ⟨_,(a0q (a1x (a2k (e8h rfl) (by rfl) T.min PyProof.Rows.boot_min (a0b (a3v ["place","value"] [] [] (e6m rfl T.enumerate (a0b (pv 0) a0g)) (fun _=>(c3a K 2 (a3j (a1i (i:=0) (show List.Nodup (α:=PySem.Str) ["place","value"] by decide +kernel) rfl (Or.inl rfl) (Or.inl rfl)) (a3j (a1i (i:=1) (show List.Nodup (α:=PySem.Str) ["place","value"] by decide +kernel) rfl (Or.inl rfl) (Or.inl rfl)) b0u)))) (fun _=>f2j (a2b (f5b K (by rfl) (f9v hr)) (pv 1) (b7l (v:=.ref Z.a_NOUGHT) rfl T.mg_NOUGHT rfl) (a2o _))) (fun _=>(pv 0))) a0g)))),?_⟩
  refine a1h (σ:=[some (.ref p)]) rfl ?_
  obtain ⟨zs,gz,qz⟩:=id R
  have lz:=qz.length
  walk_at "w"
  refine ⟨⟨_,SqL.of gz⟩,?_⟩
  refine e8d (K:=K) (xs:=zs) (fun i ys H'=>a1w H H'∧ys=a7e (nzN xs i)) (a1j (a2f (by omega))) ⟨a1w.refl _,rfl⟩ (fun i ys H' _ ⟨s,_⟩=>SqL.of (s _ _ gz)) ?_ ?_
  ·rintro i v ys H' r hx hlen ⟨s',rfl⟩ hr
   obtain ⟨y,ey,ny⟩:=a2z qz hx
   have ey':xs.getD i 0=y:=by rw[a0a,ey];rfl
   have sr:a1w H' (upd H' r (.tup [.int i,v])):=a1w.new hr
   have gr:(upd H' r (.tup [.int i,v])) r=some (.tup [.int i,v]):=a0y
   generalize upd H' r (.tup [.int i,v])=H2 at sr gr ⊢
   walk_at "w"
   refine ⟨_,_,f9p,y,0,by decide,(ny.same s').same sr,⟨_,rfl,T.sq_NOUGHT _⟩,?_⟩
   by_cases e:y=0
   ·rw[decide_eq_true e]
    walk_at "w"
    refine ⟨s'.trans sr,?_⟩
    rw[e7b,ey',if_neg (by simpa using e)]
   ·rw[decide_eq_false e]
    walk_at "w"
    refine ⟨s'.trans sr,?_⟩
    rw[e7b,ey',if_pos e]
    unfold a7e
    rw[a3y]
    rfl
  ·rintro ys H1 hy ⟨s1,rfl⟩ l hl
   have sn:a1w H1 (upd H1 l (.lst (a7e (nzN xs zs.length)))):=a1w.new hl
   have gn:(upd H1 l (.lst (a7e (nzN xs zs.length)))) l=some (.lst (a7e (nzN xs zs.length))):=a0y
   generalize upd H1 l (.lst (a7e (nzN xs zs.length)))=H2 at sn gn ⊢
   have mj:j∈nzN xs zs.length:=by
    unfold nzN
    exact c3v.mpr ⟨b9i.mpr (by omega),by simpa using hne⟩
   walk_at "w"
   refine ⟨l,f0z (nzN xs zs.length),rfl,SqL.of (by rw[← e7e];exact gn),?_,fun M hM hle=>?_⟩
   ·unfold f0z
    rw[a0e]
    exact List.length_pos_of_mem mj
   ·obtain ⟨c,hc,rfl⟩:=a0t.mp hM
    have h1:=hle j (a0t.mpr ⟨j,mj,rfl⟩)
    have h2:=(c3v.mp hc).2
    have e:c=j:=by
     rcases a8h c j with z | z | z
     ·exact absurd (hz c z) (of_decide_eq_true h2)
     ·exact z
     ·omega
    rw[e]
    exact k _ (s1.trans sn)
theorem e3c:a1t ["rows"] ["rows"] (a0l b6u):=by walk_at "d"
theorem d2j (T:Txt K mg Z):a6g P w K mg base CX0 2 Z.c5w Z.c5c ["rows"] (e9r K):=by
 have d0n:=c8e (P:=P) (w:=w) (base:=base) T
 refine T.c6c.ok e3c (fun vs H Q E h=>?_) (fun cdv A outer s H vs Q E hr h=>?_)
 ·obtain ⟨p,n,H0,R,ps,rfl,G,r100,n100,⟨rows,RR⟩,k⟩:=h
  rfl
 ·obtain ⟨p,n,H0,R,ps,rfl,G,r100,n100,⟨rows,RR⟩,k⟩:=h
  refine ⟨_,(a0q (a1x (a3v ["row"] [] [] (a4c (pv 0)) (fun _=>(a1i (i:=0) (show List.Nodup (α:=PySem.Str) ["row"] by decide +kernel) rfl (Or.inl rfl) (Or.inl rfl))) (fun _=>a4j) (fun _=>(a0p d0n (hr.mono (by decide)) rfl T.b9f T.b4o.kp T.c0g .nil a1o (a0b (pv 0) a0g)))))),?_⟩
  refine a1h (σ:=[some (.ref p)]) rfl ?_
  obtain ⟨lR,wR,rr⟩:=id RR
  obtain ⟨xs,gx,qx,_⟩:=id G
  have lx:=qx.length
  walk_at "w"
  refine ⟨⟨_,SqL.of gx⟩,?_⟩
  refine a6j (K:=K) (xs:=xs) (fun i ys H'=>a1w H H'∧ys=a7e (ps.take i)) (a1j (a2f (by omega))) ⟨a1w.refl _,rfl⟩ (fun i ys H' _ ⟨s,_⟩=>SqL.of (s _ _ gx)) ?_ ?_
  ·rintro i v ys H' hx hlen ⟨s',rfl⟩
   obtain ⟨row,er,q,rfl,_,Rr⟩:=a2z qx hx
   have wr:=wR row (a0j er)
   have hi:i < ps.length:=by have:=(a0s.mp er).1;omega
   have ef:∀c,fnQ R i c=row.getD c 0:=fun c=>by unfold fnQ;rw[a0a (l:=R),er];rfl
   have ep:ps[i]?=some (ps.getD i 0):=by rw[a0a,a0c hi];rfl
   have lowp:=rr.low i hi
   have u:=rr.unit i hi i hi
   rw[if_pos rfl,ef] at u
   walk_at "w"
   refine ⟨q,row,ps.getD i 0,rfl,Rr.same s',by omega,by omega,by rw[u];decide,fun c hc=>by rw[← ef];exact rr.lead i hi c hc,fun H2 s2=>?_⟩
   refine ⟨s'.trans s2,?_⟩
   unfold a7e
   rw[take_snoc ep,a3y]
   rfl
  ·rintro ys H1 hy ⟨s1,rfl⟩ r hr
   refine k r _ (s1.none hr) (s1.trans (a1w.new hr)) ?_
   rw[a0y,a0r (by omega)]
theorem f0a:a1t ["one","other"] ["one","other"] (a0l c6j):=by walk_at "d"
theorem e1c (T:Txt K mg Z):a6g P w K mg base CX0 3 Z.d5e Z.d4w ["one","other"] (c9e K (fun x y=>x - y)):=by
 have b8t:=c4m (P:=P) (w:=w) (base:=base) T
 refine T.d5m.ok f0a (fun vs H Q E h=>?_) (fun cdv A outer s H vs Q E hr h=>?_)
 ·obtain ⟨p,q,a,b,c,d,rfl,hp,hq,hb,hd,sa,sb,sc,sd,k⟩:=e4w h
  rfl
 ·obtain ⟨p,q,a,b,c,d,rfl,hp,hq,hb,hd,sa,sb,sc,sd,k⟩:=e4w h
  refine ⟨_,(a0q (a1x (a0p b8t (hr.mono (by decide)) rfl T.b9v T.c1u.kp T.c5n .nil a1o (a0b (a3i c4j (a3i a5h (a2w a4a (pv 0) a0m (by intro _ _;rfl)) (a2w a4a (pv 1) a0m (by intro _ _;rfl))) (a3i a5h (a2w a4a (pv 1) a0m (by intro _ _;rfl)) (a2w a4a (pv 0) a0m (by intro _ _;rfl)))) (a0b (a3i a5h (a2w a4a (pv 0) a0m (by intro _ _;rfl)) (a2w a4a (pv 1) a0m (by intro _ _;rfl))) a0g))))),?_⟩
  refine a1h (σ:=[some (.ref p),some (.ref q)]) rfl ?_
  have hbd:0 < b*d:=c3y hb hd
  have sbd:Sz 8999 (b*d):=(sb.mul sd).mono (by decide)
  walk_at "w"
  refine b9s (show b9d _ _ from .inr ⟨_,_,sa,sd,by decide⟩) ?_
  walk_at "w"
  refine b9s (show b9d _ _ from .inr ⟨_,_,sc,sb,by decide⟩) ?_
  walk_at "w"
  refine b9s (show b9d _ _ from .inr ⟨_,_,sb,sd,by decide⟩) ?_
  walk_at "w"
  walk_at "w"
  refine ⟨_,_,rfl,by omega,sbd,fun r H' s' h'=>?_⟩
  rw[if_neg (by omega),if_neg (by omega)] at h'
  exact k r H' s' h'
theorem c0v:a1t ["rows","wide","at","answer","lead","row"] ["rows","wide","at"] (a0l b6t):=by walk_at "d"
theorem e3n (T:Txt K mg Z):a6g P w K mg base CX0 4 Z.c5v Z.c5b ["rows","wide","at"] (e5f K):=by
 have e4e:=d9f (P:=P) (w:=w) (base:=base) T
 have d0o:=d2j (P:=P) (w:=w) (base:=base) T
 have e0e:=e1c (P:=P) (w:=w) (base:=base) T
 refine T.d0r.ok c0v (fun vs H Q E h=>?_) (fun cdv A outer s H vs Q E hr h=>?_)
 ·obtain ⟨p,n,a,H0,R,ps,rfl,G,r100,n100,⟨rows,RR⟩,ha,hp,hz,k⟩:=h
  rfl
 ·obtain ⟨p,n,a,H0,R,ps,rfl,G,r100,n100,⟨rows,RR⟩,ha,hp,hz,k⟩:=h
  refine ⟨_,(a0k (a1z (i:=3) c0v.nd rfl (Or.inl rfl) (a0p e4e (hr.mono (by decide)) rfl T.c9q T.c7f.kp T.d2z .nil a1o (a0b (pv 1) (a0b (pv 2) a0g))))
   (a0k (a6t PassesOwn.never rfl (c2z rfl T.zip (a0b (a0p d0o (hr.mono (by decide)) rfl T.c6s T.c6c.kp T.d0d .nil a1o (a0b (pv 0) a0g)) (a0b (pv 0) a0g))) (c9j rfl (a3j (a1i (i:=4) c0v.nd rfl (Or.inl rfl) (Or.inl rfl)) (a3j (a1i (i:=5) c0v.nd rfl (Or.inl rfl) (Or.inl rfl)) b0u)))
    (a0q (a8l (a0p e0e (hr.mono (by decide)) rfl T.d4k T.d5m.kp T.d9x .nil a1o (a0b (b7l (v:=.ref Z.a_NOUGHT) rfl T.mg_NOUGHT rfl) (a0b (a2w a3a (pv 5) (pv 2) (by intro _ _;rfl)) a0g))) (b0j (pv 3) (pv 4) set_list))))
   (a0q (a1x (pv 3))))),?_⟩
  refine a1h (σ:=[some (.ref p),some (.int n),some (.int a),none,none,none]) rfl ?_
  obtain ⟨lR,wR,rr⟩:=id RR
  walk_at "w"
  refine ⟨n,a,rfl,by omega,fun an H1 na s1 R1=>?_⟩
  rw[← f5g (R:=R) (ps:=ps)] at R1
  obtain ⟨vs0,g0,q0⟩:=id R1
  walk_at "w"
  refine ⟨p,n,H0,R,ps,rfl,G.same s1,r100,n100,⟨rows,RR⟩,fun le H2 nl s2 g2=>?_⟩
  have anl:le≠an:=fun z=>by rw[z,g0] at nl;cases nl
  obtain ⟨rs,grs,qrs,_⟩:=id G
  have lrs:=qrs.length
  have lps:=c8l (ps:=ps)
  walk_at "w"
  refine ⟨⟨_,SqL.of g2⟩,⟨_,SqL.of ((s1.trans s2) _ _ grs)⟩,?_⟩
  refine e7x (K:=K) (xs:=a7e ps) (ws:=rs) (fun j σ' H'=>a1w H H'∧H' le=some (.lst (a7e ps))∧∃y1 y2 vs,σ'=[some (.ref p),some (.int n),some (.int a),some (.ref an),y1,y2]∧H' an=some (.lst vs)∧Paired (a5w K H') (nuJ R ps n a j) vs) (by omega) ⟨s1.trans s2,g2,_,_,vs0,rfl,s2 _ _ g0,Paired.imp' (fun _ _ z=>a5w.same z s2) q0⟩ (fun j σ' H' _ ⟨e,e2,_⟩=>⟨SqL.of e2,SqL.of (e _ _ grs)⟩) ?_ ?_
  ·rintro j v1 v2 σ' H' r h1 h2 ⟨s',gl,y1,y2,vs,rfl,ga,qa⟩ hr
   obtain ⟨row,er,q,rfl,_,Rr⟩:=a2z qrs h2
   have mr:=a0j er
   have wr:=wR row mr
   obtain ⟨pj,ej,rfl⟩:=d9k h1
   have hj:j < ps.length:=(a0s.mp ej).1
   have ejD:ps.getD j 0=pj:=by rw[a0a,ej];rfl
   have pjn:pj < n:=by have:=rr.low j hj;rw[ejD] at this;exact this
   have fr:fnQ R j a=row.getD a 0:=by unfold fnQ;rw[a0a (l:=R),er];rfl
   have sr:a1w H' (upd H' r (.tup [.int pj,.ref q])):=a1w.new hr
   have gr:(upd H' r (.tup [.int pj,.ref q])) r=some (.tup [.int pj,.ref q]):=a0y
   generalize upd H' r (.tup [.int pj,.ref q])=H3 at sr gr ⊢
   have s03:=s'.trans sr
   obtain ⟨us,gu,qu⟩:=Rr.same s03
   obtain ⟨vx,ex,nx⟩:=ixQ qu (j:=a) (by omega)
   walk_at "w"
   refine a4b (SqL.of gu) ex ?_
   walk_at "w"
   refine ⟨_,_,0,row.getD a 0,rfl,⟨_,rfl,T.sq_NOUGHT _⟩,nx,e9f,hz row mr _ (getD_in (by omega)),fun r4 H4 s4 n4=>?_⟩
   have ga4:=(sr.trans s4) _ _ ga
   have gl4:=(sr.trans s4) _ _ gl
   have la:=qa.length
   rw[c7m] at la
   walk_at "w"
   refine a6q ga4 (a7f (by omega)) rfl ?_
   refine ⟨(s03.trans s4).after na,by rw[a2d anl];exact gl4,_,_,_,rfl,a0y,?_⟩
   rw[← f5h RR hj hp,ejD,fr,show -(row.getD a 0)=0 - row.getD a 0 by grind]
   exact b3v (Paired.imp' (fun _ _ z=>(a5w.same z (sr.trans s4)).updL ga4) qa) pj (n4.updL ga4)
  ·rintro σ' H' ⟨s',gl,y1,y2,vs,rfl,ga,qa⟩
   rw[lps] at qa
   walk_at "w"
   exact k an H' na s' ⟨vs,ga,qa⟩
theorem c2d:a1t ["rows","wide","leads"] ["rows","wide"] (a0l a7s):=by walk_at "d"
theorem d1i (T:Txt K mg Z):a6g P w K mg base CX0 3 Z.b3f Z.b2q ["rows","wide"] (e9t K):=by
 have d0o:=d2j (P:=P) (w:=w) (base:=base) T
 refine T.b8z.ok c2d (fun vs H Q E h=>?_) (fun cdv A outer s H vs Q E hr h=>?_)
 ·obtain ⟨p,n,H0,R,ps,rfl,G,r100,n100,RR,k⟩:=h
  rfl
 ·obtain ⟨p,n,H0,R,ps,rfl,G,r100,n100,RR,k⟩:=h
  refine ⟨_,(a0k (a1z (i:=2) c2d.nd rfl (Or.inr rfl) (a0p d0o (hr.mono (by decide)) rfl T.c6s T.c6c.kp T.d0d .nil a1o (a0b (pv 0) a0g)))
   (a0q (a1x (a3v ["place"] ["leads"] [2] (a3u rfl T.range (a0b (pv 1) a0g)) (fun _=>(a1i (i:=0) (show List.Nodup (α:=PySem.Str) ["place","leads"] by decide +kernel) rfl (Or.inl rfl) (Or.inl rfl))) (fun _=>f2j (a2b (d4a K (by rfl)) (pv 0) (pv 1) (by with_unfolding_all rfl))) (fun _=>(pv 0)))))),?_⟩
  refine a1h (σ:=[some (.ref p),some (.int n),none]) rfl ?_
  walk_at "w"
  refine ⟨p,n,H0,R,ps,rfl,G,r100,n100,RR,fun l H1 nl s1 g1=>?_⟩
  walk_at "w"
  refine ⟨by omega,by omega,?_⟩
  refine c1l (n:=n) (fun i ys H'=>a1w H1 H'∧ys=a7e (frN ps i)) (a1j (a2f (by omega))) ⟨a1w.refl _,rfl⟩ ?_ ?_
  ·rintro i ys H' hi hlen ⟨s',rfl⟩
   rw[d5u]
   walk_at "w"
   refine ⟨l,a7e ps,rfl,.inl (SqL.of (s' _ _ g1)),rfl,d6v,?_⟩
   rw[e1o]
   by_cases e:i∈ps
   ·rw[decide_eq_true e]
    walk_at "w"
    refine ⟨s',?_⟩
    rw[d4p,if_neg (by simpa using e)]
   ·rw[decide_eq_false e,show (if true=true then !false else false)=true from rfl]
    walk_at "w"
    refine ⟨s',?_⟩
    rw[d4p,if_pos e]
    unfold a7e
    rw[a3y]
    rfl
  ·rintro ys H2 hy ⟨s2,rfl⟩ r hr
   exact k r _ (s1.none (s2.none hr)) ((s1.trans s2).trans (a1w.new hr)) a0y
theorem e0s:a1t ["rows","wide","basis"] ["rows","wide"] (a0l c6i):=by walk_at "d"
theorem f0p (T:Txt K mg Z):a6g P w K mg base CX0 6 Z.d5d Z.d4v ["rows","wide"] (e5e K):=by
 have c0i:=c6o (P:=P) (w:=w) (base:=base) T
 have e8r:=e3n (P:=P) (w:=w) (base:=base) T
 have d5h:=d1i (P:=P) (w:=w) (base:=base) T
 refine T.e0j.ok e0s (fun vs H Q E h=>?_) (fun cdv A outer s H vs Q E hr h=>?_)
 ·obtain ⟨p,n,w,H0,rows,rfl,G,r100,n100,hw,F,e39,k⟩:=h
  rfl
 ·obtain ⟨p,n,w,H0,rows,rfl,G,r100,n100,hw,F,e39,k⟩:=h
  refine ⟨_,(a0k (a1z (i:=2) e0s.nd rfl (Or.inr rfl) (a0p c0i (hr.mono (by decide)) rfl T.c1b T.c0l.kp T.c5m .nil a1o (a0b (pv 0) (a0b (pv 1) a0g))))
   (a0q (a1x (a3v ["at"] ["basis","wide"] [2,1] (a4c (a0p d5h (hr.mono (by decide)) rfl T.c2l T.b8z.kp T.c5o .nil a1o (a0b (pv 2) (a0b (pv 1) a0g)))) (fun _=>(a1i (i:=0) (show List.Nodup (α:=PySem.Str) ["at","basis","wide"] by decide +kernel) rfl (Or.inl rfl) (Or.inl rfl))) (fun _=>a4j) (fun _=>(a0p e8r (hr.mono (by decide)) rfl T.d2n T.d0r.kp T.d7w .nil a1o (a0b (pv 1) (a0b (pv 2) (a0b (pv 0) a0g))))))))),?_⟩
  refine a1h (σ:=[some (.ref p),some (.int n),none]) rfl ?_
  walk_at "w"
  refine ⟨p,n,w,H0,rows,rfl,G,r100,n100,hw,F,fun ba R ps M H1 nb s1 G1 RR pm M0 M1 tM=>?_⟩
  obtain ⟨lR,wR,rr⟩:=id RR
  have pn:=RR.le
  have p39:(2:Nat)^(min rows.length n*(w+4))<=2^3995:=a0f (by decide) (by omega)
  have szR:∀xs∈R,∀x∈xs,SzN x:=fun xs hx x hx'=>c2a (tM xs hx x hx') M0 (a0d M1 p39) p39
  have fl:=g0a (ps:=ps) (i:=n)
  walk_at "w"
  refine ⟨ba,n,H,R,ps,rfl,G1,by omega,by omega,⟨rows,RR⟩,fun fr H2 nf s2 g2=>?_⟩
  walk_at "w"
  refine ⟨⟨_,SqL.of g2⟩,?_⟩
  refine a6j (K:=K) (xs:=a7e (frN ps n)) (fun i ys H'=>a1w H2 H'∧Paired (a8x K H H') ((frN ps n).take i |>.map (nuQ R ps n)) ys) (a1j (a2f (by rw[c8l];omega))) ⟨a1w.refl _,.nil⟩ (fun i ys H' _ ⟨s,_⟩=>SqL.of (s _ _ g2)) ?_ ?_
  ·rintro i v ys H' hx hlen ⟨s',pr⟩
   obtain ⟨a,ea,rfl⟩:=d9k hx
   obtain ⟨an,ap⟩:=d9r.mp (a0j ea)
   have s02:=(s1.trans s2).trans s'
   walk_at "w"
   refine ⟨ba,n,a,H,R,ps,rfl,(G1.same s2).same s',by omega,by omega,⟨rows,RR⟩,an,ap,szR,fun r H3 nr s3 R3=>?_⟩
   refine ⟨s'.trans s3,?_⟩
   rw[take_snoc ea,a3y]
   exact a2t (Paired.imp' (fun _ _ z=>a8x.same z s3) pr) (.cons ⟨r,rfl,s02.none nr,R3⟩ .nil)
  ·rintro ys H3 hy ⟨s3,pr⟩ r hr
   rw[a0r (by rw[c8l];exact a0h _)] at pr
   have sn:a1w H3 (upd H3 r (.lst ys)):=a1w.new hr
   have s03:=(s1.trans s2).trans s3
   exact k r R ps M _ (s03.none hr) (s03.trans sn) ⟨ys,a0y,Paired.imp' (fun _ _ z=>a8x.same z sn) pr,c4p (H0:=H) (rows:=a4y R ps n) ⟨H3,hr,pr⟩⟩ RR pm M0 M1 fun xs hx x hx'=>by obtain ⟨a,_,_,rfl⟩:=c4o hx;exact f9a M0 M1 tM RR x hx'
theorem c2c:a1t ["system","steps","told"] ["system","steps"] (a0l a7o):=by walk_at "d"
theorem d1h (T:Txt K mg Z):a6g P w K mg base CX0 9 Z.b3b Z.b2m ["system","steps"] (e2t K Z.a_System):=by
 have c0j:=c4k (P:=P) (w:=w) (base:=base) T
 have a7i:=b2b (P:=P) (w:=w) (base:=base) T
 have c0i:=c6o (P:=P) (w:=w) (base:=base) T
 have f6l:=f0p (P:=P) (w:=w) (base:=base) T
 refine T.b8y.ok c2c (fun vs H Q E h=>?_) (fun cdv A outer s H vs Q E hr h=>?_)
 ·obtain ⟨x,tt,H0,mv,pt,lk,rfl,hT,S,SM,k⟩:=h
  rfl
 ·obtain ⟨x,tt,H0,mv,pt,lk,rfl,hT,S,SM,k⟩:=h
  refine ⟨_,(a0k (a1z (i:=2) c2c.nd rfl (Or.inl rfl) (a0p c0j (hr.mono (by decide)) rfl T.b7p T.b5v.kp T.c0e .nil a1o (a0b (d3y (pv 0) T.cl_System T.a8p a7i (hr.mono (by decide)) T.a9z .nil a1o) (a0b (pv 1) a0g))))
   (a0q (a1x (a0p c0i (hr.mono (by decide)) rfl T.c1b T.c0l.kp T.c5m .nil a1o (a0b (a0p f6l (hr.mono (by decide)) rfl T.e1i T.e0j.kp T.e8l .nil a1o (a0b (pv 2) (a0b (a8m (pv 0) rfl) a0g))) (a0b (a8m (pv 0) rfl) a0g)))))),?_⟩
  refine a1h (σ:=[some (.ref x),some (.int tt),none]) rfl ?_
  have D:=SM.D
  have d8:=D.n8
  have n5:=SM.n5
  have et:(a2s mv mv.length).length=mv.length:=a3b
  obtain ⟨dx,a',b',c',gx,_⟩:=id S
  walk_at "w"
  refine ⟨x,dx,_,rfl,gx,c6f,?_⟩
  walk_at "w"
  refine ⟨x,H0,mv,pt,lk,rfl,S,D,SM.sfc.sf,fun y H1 ny s1 S1=>?_⟩
  walk_at "w"
  refine ⟨y,12,16,tt,H,_,lk,pt,rfl,by omega,S1,D.turn,SM.turn.kfit,fun q R ps H2 nq s2 G2 RR=>?_⟩
  have s02:=s1.trans s2
  obtain ⟨sw,b39⟩:=SM.turn.swR RR
  obtain ⟨swn,bn,q1,q10,tn⟩:=SM.turn.swN RR
  rw[et] at RR sw b39 swn bn tn
  have le:=RR.le
  have lR:=RR.1
  have cnt:=c9p RR
  walk_at "w"
  refine ⟨x,Z.a_System,dx,_,_,rfl,s02 _ _ gx,T.cl_System,T.na_states,b0k,?_⟩
  walk_at "w"
  refine ⟨q,mv.length,580,H1,R,rfl,G2,by omega,by omega,RR.2.1,sw,b39,fun r3 R3 ps3 M3 H3 n3 s3 G3 RR3 _ _ _ _=>?_⟩
  obtain ⟨rfl,rfl⟩:=RR3.same (d9b RR)
  have s03:=s02.trans s3
  walk_at "w"
  refine ⟨x,Z.a_System,dx,_,_,rfl,s03 _ _ gx,T.cl_System,T.na_states,b0k,?_⟩
  walk_at "w"
  refine ⟨r3,mv.length,ps3.length*116,H2,_,rfl,G3,by omega,by omega,d9i,swn,fun r4 Hd psd M4 H4 n4 s4 G4 RN _ M0 M1 tp=>?_⟩
  have up:=a0f (show 0 < 2 by decide) bn
  exact k r4 R3 ps3 Hd psd M4 H4 (s03.none n4) (s03.trans s4) (G4.weakN fun q h=>s03.none h) RR RN (e3r RR a2r q10 tn RN) M0 (a0d M1 up) (fun xs hx x hx'=>(tp xs hx x hx').mono up)
theorem b6p:a1t ["_law_thing","_law_part"] ["_law_thing"] (a0l a5k):=by walk_at "d"
theorem c6q (T:Txt K mg Z):a6g P w K mg base CX0 2 Z.a8w Z.a8s ["_law_thing"] (e5m K):=by
 have a9j:=b7n (P:=P) (w:=w) (base:=base) T
 refine T.b2e.ok b6p (fun vs H Q E h=>?_) (fun cdv A outer s H vs Q E hr h=>?_)
 ·obtain ⟨x,n,rfl,⟨p,rfl,hp⟩,hn,k⟩:=h
  rfl
 ·obtain ⟨x,n,rfl,⟨p,rfl,hp⟩,hn,k⟩:=h
  refine ⟨_,(a0k (a5u (PW.pt (c6k (b4w (b4f (d3z rfl T.isinstance PyProof.Rows.boot_tuple T.tuple (pv 0)))) (b7a (a2b d6o (a2k a1y (by rfl) T.len a1v (a0b (pv 0) a0g)) a0m (a2o _))))) (a0q (a1x c8d)) a3c)
   (a0k (a6t PassesOwn.never rfl (f8s (pv 0)) (a1i (i:=1) b6p.nd rfl (Or.inl rfl) (Or.inl rfl))
    (a0q (a5u (PW.pt (c6k (b4w (b4f (d3z rfl T.isinstance PyProof.Rows.boot_int T.int (pv 1)))) (b7a (b4f (d3z rfl T.isinstance PyProof.Rows.boot_bool T.bool (pv 1)))))) (a0q (a1x c8d)) a3c)))
   (a0q (a1x (e6r (c3b d4c (a2w a4a (pv 0) a0m (by intro _ _;rfl)) a0m (a2o _)) (e6n (c3b (f8w (f9v hr)) (a0p a9j (hr.mono (by decide)) rfl T.b0x T.b1e.kp T.b3z .nil a1o (a0b (a2w a4a (pv 0) a0m (by intro _ _;rfl)) (a0b (a2w a4a (pv 0) a0m (by intro _ _;rfl)) a0g))) (pv 0) (a2o _)))))))),?_⟩
  refine a1h (σ:=[some (.ref p),none]) rfl ?_
  obtain ⟨hb,hg,_,hs⟩:=hn
  walk_at "w"
  refine .inr ⟨p,_,_,rfl,hp,rfl,?_⟩
  walk_at "w"
  refine ⟨_,_,rfl,.inr hp,?_⟩
  walk_at "w"
  try refine g0u ?_
  walk_at "w"
  refine ⟨⟨_,hp⟩,?_⟩
  refine f5p (K:=K) (a:=p) (xs:=[.int n.1,.int n.2]) (fun i σ' H'=>H'=H∧∃x,σ'=[some (.ref p),x]) ⟨rfl,none,rfl⟩ (fun i σ' H' _ ⟨e,_⟩=>by subst e;exact hp) ?_ ?_
  ·rintro i x σ' H' hx ⟨rfl,y,rfl⟩
   obtain ⟨z,rfl⟩:∃z,x=V.int z:=by
    have hm:x∈[V.int n.1,V.int n.2]:=a0j hx
    simp only[a0u,a1k,or_false] at hm
    rcases hm with e | e
    ·exact ⟨_,e⟩
    ·exact ⟨_,e⟩
   walk_at "w"
   refine .inl ⟨_,_,.int z,rfl,?_⟩
   walk_at "w"
   refine .inl ⟨_,_,.int z,rfl,?_⟩
   walk_at "w"
   exact ⟨rfl,_,rfl⟩
  ·rintro σ' H' ⟨rfl,x,rfl⟩
   walk_at "w"
   rw[decide_eq_true hb]
   walk_at "w"
   refine ⟨n.1,n.2,rfl,hb,hs.mono (by decide),fun r H' s1 h'=>?_⟩
   obtain ⟨e1,e2⟩:=f9h hb hg
   walk_at "w"
   refine ⟨_,_,kNum,(lo n.1 n.2,hi n.1 n.2),n,by decide,⟨r,rfl,SqT.of h'⟩,⟨p,rfl,s1.sqt hp⟩,?_⟩
   rw[e1,e2,decide_eq_true rfl]
   exact k _ s1
theorem d1e:a1t ["_law_thing","_law_many"] ["_law_thing","_law_many"] (a0l a7w):=by walk_at "d"
theorem d1l (T:Txt K mg Z):a6g P w K mg base CX0 3 Z.b3j Z.b2u ["_law_thing","_law_many"] (d6b K):=by
 have c8i:=c6q (P:=P) (w:=w) (base:=base) T
 refine T.b9c.ok d1e (fun vs H Q E h=>?_) (fun cdv A outer s H vs Q E hr h=>?_)
 ·obtain ⟨p,ns,rfl,hp,hl,hn,k⟩:=h
  rfl
 ·obtain ⟨p,ns,rfl,hp,hl,hn,k⟩:=h
  refine ⟨_,(a0k (a5u (PW.pt (c6k (b4w (b4f (d2e rfl T.isinstance PyProof.Rows.boot_list T.list (pv 0)))) (b7a (a2b d6o (a2k a1y (by rfl) T.len a1v (a0b (pv 0) a0g)) (pv 1) (a2o _))))) (a0q (a1x c8d)) a3c)
   (a0q (a1x (a2k (d4x rfl) (by rfl) T.all PyProof.Rows.boot_all (a0b (a3v ["_law_one"] [] [] (a4c (pv 0)) (fun _=>(a1i (i:=0) (show List.Nodup (α:=PySem.Str) ["_law_one"] by decide +kernel) rfl (Or.inl rfl) (Or.inl rfl))) (fun _=>a4j) (fun _=>(a0p c8i (hr.mono (by decide)) rfl T.b7d T.b2e.kp T.b9h .nil a1o (a0b (pv 0) a0g)))) a0g))))),?_⟩
  refine a1h (σ:=[some (.ref p),some (.int ns.length)]) rfl ?_
  obtain ⟨xs,gx,qx⟩:=id hp
  have lx:=qx.length
  walk_at "w"
  refine ⟨_,_,.lst gx,rfl,?_⟩
  walk_at "w"
  refine ⟨_,_,rfl,.inl (SqL.of gx),?_⟩
  walk_at "w"
  rw[show ((xs.length:Nat):Int)=(ns.length:Nat) by rw[lx],decide_eq_true rfl]
  walk_at "w"
  refine ⟨⟨_,SqL.of gx⟩,?_⟩
  refine a6j (K:=K) (xs:=xs) (fun i ys H'=>a1w H H'∧ys=List.replicate i (.bl true)) (a1j (a2f (by omega))) ⟨a1w.refl _,rfl⟩ (fun i ys H' _ ⟨s,_⟩=>SqL.of (s _ _ gx)) ?_ ?_
  ·rintro i x ys H' hx hlen ⟨s,rfl⟩
   obtain ⟨n,en,z⟩:=a2z qx hx
   walk_at "w"
   exact ⟨x,n,rfl,s.num z,hn n (a0j en),fun H2 s2=>⟨s.trans s2,by rw[d8i]⟩⟩
  ·rintro ys H' hy ⟨s,rfl⟩ l hl'
   walk_at "w"
   refine ⟨l,List.replicate xs.length true,rfl,SqL.of (by rw[a0y];simp),?_⟩
   have e4:(List.replicate xs.length true).all id=true:=by simp
   rw[e4]
   exact k _ (s.trans (a1w.new hl'))
theorem c9i:a1t ["_law_thing","_law_many","_law_wide"] ["_law_thing","_law_many","_law_wide"] (a0l a6n):=by walk_at "d"
theorem c9l (T:Txt K mg Z):a6g P w K mg base CX0 4 Z.b1m Z.b1k ["_law_thing","_law_many","_law_wide"] (e2y K):=by
 have d5j:=d1l (P:=P) (w:=w) (base:=base) T
 refine T.b1o.ok c9i (fun vs H Q E h=>?_) (fun cdv A outer s H vs Q E hr h=>?_)
 ·obtain ⟨p,rows,m,rfl,hp,hl,hm,hn,k⟩:=h
  rfl
 ·obtain ⟨p,rows,m,rfl,hp,hl,hm,hn,k⟩:=h
  refine ⟨_,(a0k (a5u (PW.pt (c6k (b4w (b4f (d2e rfl T.isinstance PyProof.Rows.boot_list T.list (pv 0)))) (b7a (a2b d6o (a2k a1y (by rfl) T.len a1v (a0b (pv 0) a0g)) (pv 1) (a2o _))))) (a0q (a1x c8d)) a3c)
   (a0q (a1x (a2k (d4x rfl) (by rfl) T.all PyProof.Rows.boot_all (a0b (a3v ["_law_row_here"] ["_law_wide"] [2] (a4c (pv 0)) (fun _=>(a1i (i:=0) (show List.Nodup (α:=PySem.Str) ["_law_row_here","_law_wide"] by decide +kernel) rfl (Or.inl rfl) (Or.inl rfl))) (fun _=>a4j) (fun _=>(a0p d5j (hr.mono (by decide)) rfl T.c2n T.b9c.kp T.c5q .nil a1o (a0b (pv 0) (a0b (pv 1) a0g))))) a0g))))),?_⟩
  refine a1h (σ:=[some (.ref p),some (.int rows.length),some (.int m)]) rfl ?_
  obtain ⟨xs,gx,qx⟩:=id hp
  have lx:=qx.length
  walk_at "w"
  refine ⟨_,_,.lst gx,rfl,?_⟩
  walk_at "w"
  refine ⟨_,_,rfl,.inl (SqL.of gx),?_⟩
  walk_at "w"
  rw[show ((xs.length:Nat):Int)=(rows.length:Nat) by rw[lx],decide_eq_true rfl]
  walk_at "w"
  refine ⟨⟨_,SqL.of gx⟩,?_⟩
  refine a6j (K:=K) (xs:=xs) (fun i ys H'=>a1w H H'∧ys=List.replicate i (.bl true)) (a1j (a2f (by omega))) ⟨a1w.refl _,rfl⟩ (fun i ys H' _ ⟨s,_⟩=>SqL.of (s _ _ gx)) ?_ ?_
  ·rintro i x ys H' hx hlen ⟨s,rfl⟩
   obtain ⟨ns,en,q,rfl,z⟩:=a2z qx hx
   obtain ⟨e1,e2⟩:=hn ns (a0j en)
   walk_at "w"
   exact ⟨q,ns,by rw[e1],z.same s,by omega,e2,fun H2 s2=>⟨s.trans s2,by rw[d8i]⟩⟩
  ·rintro ys H' hy ⟨s,rfl⟩ l hl'
   walk_at "w"
   refine ⟨l,List.replicate xs.length true,rfl,SqL.of (by rw[a0y];simp),?_⟩
   have e4:(List.replicate xs.length true).all id=true:=by simp
   rw[e4]
   exact k _ (s.trans (a1w.new hl'))
theorem b7k:a1t ["_law_one","_law_other","_law_total","_law_k"] ["_law_one","_law_other"] (a0l b3t):=by walk_at "d"
theorem c9m (T:Txt K mg Z):a6g P w K mg base CX0 3 Z.c1s Z.c1j ["_law_one","_law_other"] (e5p K):=by
 have a9i:=b7m (P:=P) (w:=w) (base:=base) T
 have b0z:=b9t (P:=P) (w:=w) (base:=base) T
 refine T.c1w.ok b7k (fun vs H Q E h=>?_) (fun cdv A outer s H vs Q E hr h=>?_)
 ·obtain ⟨p,q,xs,ys,rfl,hp,hq,hl,hz,⟨k1,j1,k2,j2,h1,h2,hkj⟩,kk⟩:=h
  rfl
 ·obtain ⟨p,q,xs,ys,rfl,hp,hq,hl,hz,⟨k1,j1,k2,j2,h1,h2,hkj⟩,kk⟩:=h
  refine ⟨_,(a0k (a1z (i:=2) b7k.nd rfl (Or.inl rfl) (a5e (a0b a0m (a0b a0m a0g))))
   (a0k (a6t PassesOwn.never rfl (a3u rfl T.range (a0b (a2k a1y (by rfl) T.len a1v (a0b (pv 0) a0g)) a0g)) (a1i (i:=3) b7k.nd rfl (Or.inl rfl) (Or.inl rfl))
    (a0q (a1z (i:=2) b7k.nd rfl (Or.inl rfl) (a0p a9i (hr.mono (by decide)) rfl T.b0w T.b1c.kp T.b3y .nil a1o (a0b (pv 2) (a0b (a0p b0z (hr.mono (by decide)) rfl T.b1w T.b1d.kp T.b4k .nil a1o (a0b (a2w a3a (pv 0) (pv 3) (by intro _ _;rfl)) (a0b (a2w a3a (pv 1) (pv 3) (by intro _ _;rfl)) a0g))) a0g))))))
   (a0q (a1x (pv 2))))),?_⟩
  refine a1h (σ:=[some (.ref p),some (.ref q),none,none]) rfl ?_
  obtain ⟨us,gu,qu⟩:=id hp
  obtain ⟨ws,gw,qw⟩:=id hq
  have lu:=qu.length
  have lw:=qw.length
  walk_at "w"
  refine a3l fun r0 H0 s0 g0=>?_
  walk_at "w"
  refine ⟨_,_,rfl,.inl (SqL.of (s0 _ _ gu)),?_⟩
  walk_at "w"
  refine ⟨by omega,by omega,?_⟩
  refine a7z (n:=us.length) (fun i σ' H'=>a1w H H'∧∃(r:V) (v:Option V),σ'=[some (.ref p),some (.ref q),some r,v]∧a5w K H' (b4j (xs.take i) (ys.take i)) r) ⟨s0,_,none,rfl,a5w.mk g0 rfl⟩ ?_ ?_
  ·rintro i σ' H' hi ⟨s,r,v,rfl,hr⟩
   have ix:i < xs.length:=by omega
   have iy:i < ys.length:=by omega
   obtain ⟨vx,ex,nx⟩:=ixQ (Paired.imp' (fun _ _ z=>z.same s) qu) ix
   obtain ⟨vy,ey,ny⟩:=ixQ (Paired.imp' (fun _ _ z=>z.same s) qw) iy
   walk_at "w"
   refine a4b (SqL.of (s _ _ gu)) ex ?_
   walk_at "w"
   refine a4b (SqL.of (s _ _ gw)) ey ?_
   walk_at "w"
   refine ⟨_,_,_,_,rfl,nx,ny,h1.szn (getD_mem ix) (by omega),h2.szn (getD_mem iy) (by omega),fun r3 H3 s3 n3=>?_⟩
   walk_at "w"
   refine ⟨_,_,_,_,rfl,hr.same s3,n3,f1l h1 h2 hz i hkj,f0q (h1.one (getD_mem ix)) (h2.one (getD_mem iy)) hkj,fun r4 H4 s4 n4=>?_⟩
   walk_at "w"
   exact ⟨(s.trans s3).trans s4,_,_,rfl,by rw[d7k ix iy];exact n4⟩
  ·rintro σ' H' ⟨s,r,v,rfl,hr⟩
   rw[a0r (by omega),a0r (by omega)] at hr
   obtain ⟨t,rfl,ht⟩:=hr
   walk_at "w"
   exact kk _ H' s ⟨t,rfl,ht⟩
theorem a9p:a1t ["_law_system_here","_law_other","_law_steps","_law_n","_law_hidden","_law_reached","_law_row_here","_law_one"] ["_law_system_here","_law_other","_law_steps","_law_n"] (a0l a9f):=by walk_at "d"
theorem d4i (T:Txt K mg Z):a6g P w K mg base CX0 10 Z.b5t Z.b5k ["_law_system_here","_law_other","_law_steps","_law_n"] (e5r K Z.a_System):=by
 have d5g:=d1h (P:=P) (w:=w) (base:=base) T
 have c0j:=c4k (P:=P) (w:=w) (base:=base) T
 have c2s:=c9l (P:=P) (w:=w) (base:=base) T
 have c7d:=c9m (P:=P) (w:=w) (base:=base) T
 refine T.b5x.ok a9p (fun vs H Q E h=>?_) (fun cdv A outer s H vs Q E hr h=>?_)
 ·obtain ⟨x,y,tt,H0,H1,mv,pt,lk,rfl,hT,S,Sy,SM,k⟩:=h
  rfl
 ·obtain ⟨x,y,tt,H0,H1,mv,pt,lk,rfl,hT,S,Sy,SM,k⟩:=h
  refine ⟨_,(a0k (a1z (i:=4) a9p.nd rfl (Or.inl rfl) (a0p d5g (hr.mono (by decide)) rfl T.c2k T.b8y.kp T.c5l .nil a1o (a0b (pv 0) (a0b (pv 2) a0g))))
   (a0k (a1z (i:=5) a9p.nd rfl (Or.inl rfl) (a0p c0j (hr.mono (by decide)) rfl T.b7p T.b5v.kp T.c0e .nil a1o (a0b (pv 1) (a0b (pv 2) a0g))))
   (a0k (a5u (PW.pt (c6k (b4w (b4f (a0p c2s (hr.mono (by decide)) rfl T.b4i T.b1o.kp T.b6g .nil a1o (a0b (pv 4) (a0b (a2k a1y (by rfl) T.len a1v (a0b (pv 4) a0g)) (a0b (pv 3) a0g)))))) (b7a (b4w (b4f (a0p c2s (hr.mono (by decide)) rfl T.b4i T.b1o.kp T.b6g .nil a1o (a0b (pv 5) (a0b (a2k a1y (by rfl) T.len a1v (a0b (pv 5) a0g)) (a0b (pv 3) a0g))))))))) (a0q (a1x c8d)) a3c)
   (a0k (a6t PassesOwn.never rfl (a4c (pv 4)) (a1i (i:=6) a9p.nd rfl (Or.inl rfl) (Or.inl rfl))
    (a0q (a6t PassesOwn.never rfl (a4c (pv 5)) (a1i (i:=7) a9p.nd rfl (Or.inl rfl) (Or.inl rfl))
    (a0q (a5u (a2b (e1a (f9v hr)) (a0p c7d (hr.mono (by decide)) rfl T.c3h T.c1w.kp T.c6y .nil a1o (a0b (pv 6) (a0b (pv 7) a0g))) (a5e (a0b a0m (a0b a0m a0g))) (a2o _)) (a0q (a1x c8d)) a3c)))))
   (a0q (a1x (c3b b1u (a3i b1v (a2k a1y (by rfl) T.len a1v (a0b (pv 4) a0g)) (a2k a1y (by rfl) T.len a1v (a0b (pv 5) a0g))) (pv 3) (a2o _)))))))),?_⟩
  refine a1h (σ:=[some (.ref x),some (.ref y),some (.int tt),some (.int mv.length),none,none,none,none]) rfl ?_
  have D:=SM.D
  have d8:=D.n8
  have n5:=SM.n5
  have et:(a2s mv mv.length).length=mv.length:=a3b
  walk_at "w"
  refine ⟨x,tt,H0,mv,pt,lk,rfl,hT,S,SM,fun hd R ps Hd psd M Ha nh sa Gh RR RN cnt M0 M1 tp=>?_⟩
  walk_at "w"
  refine ⟨y,12,16,tt,H1,_,lk,pt,rfl,by omega,Sy.same sa,D.turn,SM.turn.kfit,fun q R' ps' Hb nq sb Gq RR'=>?_⟩
  obtain ⟨q1,q10,q11,q12⟩:=SM.turn.rtp RR'
  rw[et] at RR'
  obtain ⟨rfl,rfl⟩:=RR'.same RR
  have le:=RR.le
  have lR:=RR.1
  have lH:=RN.1
  have p5:2^(ps'.length*116)<=2^580:=a0f (by decide) (by omega)
  have szh:∀xs∈Hd,∀v∈xs,SzN v:=fun xs hx v hv=>c2a (tp xs hx v hv) M0 (a0d M1 (a0f (by decide) (by decide))) (a0f (by decide) (by decide))
  have szr:∀xs∈R',∀v∈xs,SzN v:=fun xs hx v hv=>c2a (q12 xs hx v hv) q10 (a0d q11 (a0d p5 (a0f (by decide) (by decide)))) (a0d p5 (a0f (by decide) (by decide)))
  have Ghb:=Gh.same sb
  obtain ⟨uh,guh,quh,_⟩:=id Ghb
  obtain ⟨ur,gur,qur,_⟩:=id Gq
  have luh:=quh.length
  have lur:=qur.length
  have lm1:(Hd.map (List.map nm)).length=Hd.length:=a0e ..
  have lm2:(R'.map (List.map nm)).length=R'.length:=a0e ..
  walk_at "w"
  refine ⟨_,_,rfl,.inl (SqL.of guh),?_⟩
  rw[← luh]
  walk_at "w"
  refine ⟨hd,_,mv.length,by rw[lm1],Ghb.gridK,by rw[lm1];omega,by omega,fun ns' hx=>?_,fun H2 s2=>?_⟩
  ·obtain ⟨xs,mx,rfl⟩:=a0t.mp hx
   refine ⟨by rw[a0e];exact RN.2.1 xs mx,fun v hv=>?_⟩
   obtain ⟨v,mv',rfl⟩:=a0t.mp hv
   exact f2c (szh xs mx v mv')
  walk_at "w"
  refine ⟨_,_,rfl,.inl (SqL.of (s2 _ _ gur)),?_⟩
  rw[← lur]
  walk_at "w"
  refine ⟨q,_,mv.length,by rw[lm2],(Gq.same s2).gridK,by rw[lm2];omega,by omega,fun ns' hx=>?_,fun H3 s3=>?_⟩
  ·obtain ⟨xs,mx,rfl⟩:=a0t.mp hx
   refine ⟨by rw[a0e];exact RR.2.1 xs mx,fun v hv=>?_⟩
   obtain ⟨v,mv',rfl⟩:=a0t.mp hv
   exact f2c (szr xs mx v mv')
  have sb3:=s2.trans s3
  have s03:=(sa.trans sb).trans sb3
  walk_at "w"
  refine ⟨⟨_,SqL.of (sb3 _ _ guh)⟩,?_⟩
  refine b1j (K:=K) (a:=hd) (xs:=uh) (fun i σ' H'=>a1w H3 H'∧∃x1 x2,σ'=[some (.ref x),some (.ref y),some (.int tt),some (.int mv.length),some (.ref hd),some (.ref q),x1,x2]) ⟨a1w.refl _,_,_,rfl⟩ (fun i σ' H' _ ⟨e,_⟩=>SqL.of (e _ _ (sb3 _ _ guh))) ?_ ?_
  ·rintro i v σ' H' hv ⟨e,x1,x2,rfl⟩
   obtain ⟨hrow,ehr,u,rfl,_,Ru⟩:=a2z quh hv
   have mh:=a0j ehr
   have wh:=RN.2.1 _ mh
   have e3:=sb3.trans e
   walk_at "w"
   refine ⟨⟨_,SqL.of (e3 _ _ gur)⟩,?_⟩
   refine b1j (K:=K) (a:=q) (xs:=ur) (fun j σ' H2=>a1w H' H2∧∃x2,σ'=[some (.ref x),some (.ref y),some (.int tt),some (.int mv.length),some (.ref hd),some (.ref q),some (.ref u),x2]) ⟨a1w.refl _,_,rfl⟩ (fun j σ' H2 _ ⟨e',_⟩=>SqL.of (e' _ _ (e3 _ _ gur))) ?_ ?_
   ·rintro j w σ' H2 hw ⟨e',x2,rfl⟩
    obtain ⟨rrow,err,u2,rfl,_,Ru2⟩:=a2z qur hw
    have mr:=a0j err
    have wr:=RR.2.1 _ mr
    have ee:=e3.trans e'
    have dz:=e2q RR RN _ mh _ mr
    walk_at "w"
    refine ⟨u,u2,hrow,rrow,rfl,a6v.same Ru ee,a6v.same Ru2 ee,by omega,by omega,⟨720,720,580,580,⟨M,2^720,M0,M1,a0h _,fun v hv=>(tp hrow mh v hv).fr M0⟩,⟨q1,2^580,q10,a0d q11 p5,a0h _,fun v hv=>((q12 rrow mr v hv).mono p5).fr q10⟩,by decide⟩,fun d1 H4 s4 N4=>?_⟩
    rw[dz] at N4
    walk_at "w"
    refine a3l fun t5 H5 s5 g5=>?_
    walk_at "w"
    refine ⟨_,_,f9p,0,0,by decide,N4.same s5,a5w.mk (q:=0) g5 rfl,?_⟩
    rw[decide_eq_true rfl]
    walk_at "w"
    exact ⟨(e'.trans s4).trans s5,_,rfl⟩
   ·rintro σ' H2 ⟨e',x2,rfl⟩
    exact ⟨e.trans e',_,_,rfl⟩
  ·rintro σ' H' ⟨e,x1,x2,rfl⟩
   have e3:=sb3.trans e
   walk_at "w"
   refine ⟨_,_,rfl,.inl (SqL.of (e3 _ _ guh)),?_⟩
   rw[← luh]
   walk_at "w"
   refine ⟨_,_,rfl,.inl (SqL.of (e3 _ _ gur)),?_⟩
   rw[← lur]
   walk_at "w"
   rw[decide_eq_true (show ((Hd.length:Int)+(R'.length:Int))=(mv.length:Int) by omega)]
   exact k _ (s03.trans e)
theorem a3p:a1t ["_law_parts_here","_law_steps","_law_move_here","_law_put","_law_look","_law_n","_law_rows","_law_found","_law_t"] ["_law_parts_here","_law_steps"] (a0l a5j):=by walk_at "d"
theorem c6p (T:Txt K mg Z):a6g P w K mg base CX0 4 Z.a8v Z.a8r ["_law_parts_here","_law_steps"] (e9p K):=by
 have c7d:=c9m (P:=P) (w:=w) (base:=base) T
 refine T.b2d.ok a3p (fun vs H Q E h=>?_) (fun cdv A outer s H vs Q E hr h=>?_)
 ·obtain ⟨r,tt,H0,mv,pt,lk,rfl,hT,PQ,SM,k⟩:=h
  rfl
 ·obtain ⟨r,tt,H0,mv,pt,lk,rfl,hT,PQ,SM,k⟩:=h
  refine ⟨_,(a0k (a8l (pv 0) (c9j rfl (a3j (a1i (i:=2) a3p.nd rfl (Or.inr rfl) (Or.inl rfl)) (a3j (a1i (i:=3) a3p.nd rfl (Or.inl rfl) (Or.inl rfl)) (a3j (a1i (i:=4) a3p.nd rfl (Or.inl rfl) (Or.inl rfl)) b0u)))))
   (a0k (a1z (i:=5) a3p.nd rfl (Or.inr rfl) (a2k a1y (by rfl) T.len a1v (a0b (pv 2) a0g)))
   (a0k (c6l 6 ["_law_row_here"] [] [] a3p.nd rfl rfl (a4c (pv 4)) (fun _=>(a1i (i:=0) (show List.Nodup (α:=PySem.Str) ["_law_row_here"] by decide +kernel) rfl (Or.inl rfl) (Or.inl rfl))) (fun _=>a4j) (fun _=>(b1t (b2x K (by rfl)) (by rfl) T.list PyProof.Rows.boot_list (a0b (pv 0) a0g))))
   (a0k (a1z (i:=7) a3p.nd rfl (Or.inl rfl) (a9q a0g))
   (a0k (a6t PassesOwn.never rfl (a3u rfl T.range (a0b (pv 1) a0g)) (a1i (i:=8) a3p.nd rfl (Or.inl rfl) (Or.inl rfl))
    (a0k (b6c (d9e a4n PySem.F.slot_list_extend PySem.F.type_list_extend d6w (pv 7) (a0b (pv 6) a0g)))
   (a0q (c6l 6 ["_law_row_here"] ["_law_n","_law_move_here"] [5,2] a3p.nd rfl rfl (a4c (pv 6)) (fun _=>(a1i (i:=0) (show List.Nodup (α:=PySem.Str) ["_law_row_here","_law_n","_law_move_here"] by decide +kernel) rfl (Or.inr rfl) (Or.inl rfl))) (fun _=>a4j) (fun _=>(a3v ["_law_j"] ["_law_row_here","_law_n","_law_move_here"] [0,1,2] (a3u rfl T.range (a0b (pv 1) a0g)) (fun _=>(a1i (i:=0) (show List.Nodup (α:=PySem.Str) ["_law_j","_law_row_here","_law_n","_law_move_here"] by decide +kernel) rfl (Or.inr rfl) (Or.inl rfl))) (fun _=>a4j) (fun _=>(a0p c7d (hr.mono (by decide)) rfl T.c3h T.c1w.kp T.c6y .nil a1o (a0b (pv 1) (a0b (a3v ["_law_i"] ["_law_move_here","_law_j"] [3,0] (a3u rfl T.range (a0b (pv 2) a0g)) (fun _=>(a1i (i:=0) (show List.Nodup (α:=PySem.Str) ["_law_i","_law_move_here","_law_j"] by decide +kernel) rfl (Or.inl rfl) (Or.inl rfl))) (fun _=>a4j) (fun _=>(a2w (b7s K (by rfl)) (a2w (b7s K (by rfl)) (pv 1) (pv 0) (by intro _ _;rfl)) (pv 2) (by intro _ _;rfl)))) a0g))))))))))
   (a0q (a1x (pv 7)))))))),?_⟩
  refine a1h (σ:=[some (.ref r),some (.int tt),none,none,none,none,none,none,none]) rfl ?_
  have D:=SM.D
  have d8:=D.n8
  have n5:=SM.n5
  have o4:=D.o4
  have et:(a2s mv mv.length).length=mv.length:=a3b
  obtain ⟨m,p,l,g,n1,n2,n3,Gm,Gp,Gl⟩:=id PQ
  obtain ⟨um,gm,qm,_⟩:=id Gm
  obtain ⟨ul,gl,ql,_⟩:=id Gl
  have lum:=qm.length
  have lul:=ql.length
  walk_at "w"
  refine ⟨_,_,rfl,.inl (SqL.of gm),?_⟩
  rw[← lum]
  walk_at "w"
  refine ⟨⟨_,SqL.of gl⟩,?_⟩
  refine a9w (K:=K) (F:=a8x K H0) (a8x K H) id gl ql (by omega) (fun a b=>a.same b) (fun a b=>a.same b) ?_ ?_
  ·rintro i ns x H' NY NN en s ⟨u,rfl,_,zs,gz,qz⟩ k1
   walk_at "w"
   refine ⟨u,zs,rfl,.inl (SqL.of gz),fun l1 hl1=>?_⟩
   exact k1 _ _ (a1w.new hl1) ⟨l1,rfl,s.none hl1,zs,a0y,Paired.imp' (fun _ _ z=>z.same (a1w.new hl1)) qz⟩
  rintro ys1 H1 rq1 hr1 s1 g1 pr1 nx1
  rw[d0z] at pr1 nx1
  have G1:a3e K H H1 rq1 lk:=⟨ys1,g1,pr1,c4p nx1⟩
  walk_at "w"
  refine a6r fun fd H2 s2 nf gf=>?_
  have s02:=s1.trans s2
  have nf0:H fd=none:=s1.none nf
  obtain ⟨Hz,eHz⟩:∃Hz,Hz=upd H fd (.lst []):=⟨_,rfl⟩
  have zl:Hz fd≠none:=by rw[eHz,a0y];exact fun z=>nomatch z
  have zn:∀q,Hz q=none->H q=none∧q≠fd:=fun q h=>by
   have ne:q≠fd:=fun z=>zl (by rw[← z];exact h)
   rw[eHz,a2d ne] at h
   exact ⟨h,ne⟩
  have nz:∀q,H q=none->q≠fd->Hz q=none:=fun q h ne=>by rw[eHz,a2d ne];exact h
  clear eHz
  have rf1:rq1≠fd:=fun z=>by rw[z,nf] at g1;cases g1
  have G2:a3e K Hz H2 rq1 lk:=⟨ys1,s2 _ _ g1,Paired.imp' (fun _ _ ⟨q,a,b,c⟩=>⟨q,a,nz q b (fun z=>by obtain ⟨_,gg,_⟩:=c;rw[z,nf] at gg;cases gg),a6v.same c s2⟩) pr1,c4p nx1⟩
  have powl:∀t,∀ns∈lk.map (c3r (a2s mv mv.length) t),ns.length=mv.length:=fun t ns hn=>by
   obtain ⟨y,hy,rfl⟩:=a0t.mp hn
   have:=c2y (mv:=a2s mv mv.length) (st:=y) (by rw[et];exact D.lw y hy) t
   rw[this,et]
  walk_at "w"
  refine ⟨by omega,by omega,?_⟩
  refine a7z (n:=tt) (fun t σ' H'=>a1w H H'∧∃rq us y,σ'=[some (.ref r),some (.int tt),some (.ref m),some (.ref p),some (.ref l),some (.int mv.length),some (.ref rq),some (.ref fd),y]∧rq≠fd∧H' fd=some (.lst us)∧Paired (a8x K Hz H') (kry (a2s mv mv.length) lk t) us∧a3e K Hz H' rq (lk.map (c3r (a2s mv mv.length) t))) ⟨s02,rq1,[],_,rfl,rf1,gf,.nil,by rw[show lk.map (c3r (a2s mv mv.length) 0)=lk from d0z lk];exact G2⟩ ?_ ?_
  ·rintro t σ' H' ht ⟨s',rq,us,y,rfl,rf,gu,pu,Gq⟩
   obtain ⟨zs,gz,qz,_⟩:=id Gq
   have lz:=qz.length
   rw[a0e] at lz
   have lu:=pu.length
   rw[c6u] at lu
   have lb:t*lk.length<=3*4:=a2a (by omega) o4
   walk_at "w"
   refine ⟨.inl ⟨rfl,_,SqL.of gu⟩,?_⟩
   walk_at "w"
   refine ⟨fd,rq,us,zs,rfl,rfl,gu,gz,a1j (a2f (by omega)),?_⟩
   have s2':a1w H (upd H' fd (.lst (us++zs))):=s'.after nf0
   have g2':(upd H' fd (.lst (us++zs))) fd=some (.lst (us++zs)):=a0y
   have p2':Paired (a8x K Hz (upd H' fd (.lst (us++zs)))) (kry (a2s mv mv.length) lk (t+1)) (us++zs):=by
    rw[← c6z,e0a,a9l,c6z]
    have:[lk.map (c3r (a2s mv mv.length) t)].flatten=lk.map (c3r (a2s mv mv.length) t):=by simp
    rw[this]
    exact a2t (Paired.imp' (fun _ _ z=>a8x.updL z gu zl) pu) (Paired.imp' (fun _ _ z=>a8x.updL z gu zl) qz)
   have gz2:(upd H' fd (.lst (us++zs))) rq=some (.lst zs):=by rw[a2d rf];exact gz
   have qz2:Paired (a8x K Hz (upd H' fd (.lst (us++zs)))) (lk.map (c3r (a2s mv mv.length) t)) zs:=Paired.imp' (fun _ _ z=>a8x.updL z gu zl) qz
   generalize upd H' fd (.lst (us++zs))=H3 at s2' g2' p2' gz2 qz2 ⊢
   have gm3:=s2' _ _ gm
   have qm3:Paired (a8x K H0 H3) mv um:=Paired.imp' (fun _ _ z=>a8x.same z s2') qm
   walk_at "w"
   refine ⟨⟨_,SqL.of gz2⟩,?_⟩
   refine a9w (K:=K) (F:=a8x K Hz) (a8x K Hz) (onQ (a2s mv mv.length)) gz2 qz2 (by rw[a0e];omega) (fun a b=>a.same b) (fun a b=>a.same b) ?_ ?_
   ·rintro i ns v Ha NY NN en sa ⟨u,rfl,_,Ru⟩ k1
    have mn:=a0j en
    have wn:=powl t ns mn
    walk_at "w"
    refine ⟨by omega,by omega,?_⟩
    refine b1x (n:=mv.length) (a5w K) (fun j=>b4j ns (mv.map fun xs=>xs.getD j 0)) (by omega) (fun a b=>a.same b) ?_ ?_
    ·rintro j Hb NY2 NN2 hj sb k2
     have sab:=sa.trans sb
     walk_at "w"
     refine ⟨by omega,by omega,?_⟩
     refine b1x (n:=mv.length) (a5w K) (fun i=>(mv.getD i []).getD j 0) (by omega) (fun a b=>a.same b) ?_ ?_
     ·rintro i2 Hc NY3 NN3 hi2 sc k3
      have sac:=sab.trans sc
      obtain ⟨xr,vr,er,evr,mr,qr,rfl,_,Rr⟩:=b3x (Paired.imp' (fun _ _ z=>a8x.same z sac) qm3) hi2
      have wr:=D.mw xr mr
      obtain ⟨ws,gw,qw⟩:=id Rr
      obtain ⟨vx,ex,nx⟩:=ixQ qw (j:=j) (by omega)
      have e:(mv.getD i2 []).getD j 0=xr.getD j 0:=by rw[a0a (l:=mv),er];rfl
      walk_at "w"
      refine a4b (SqL.of (sac _ _ gm3)) (b2c evr) ?_
      walk_at "w"
      refine a4b (SqL.of gw) ex ?_
      exact k3 _ _ (a1w.refl _) (by rw[e];exact nx)
     ·rintro ys Hc cq hcq sc gc prc _
      have ecol:(List.range mv.length).map (fun i=>(mv.getD i []).getD j 0)=mv.map fun xs=>xs.getD j 0:=by
       apply a4i (by rw[a0e,a0e,a3s])
       intro i h1 h2
       rw[a5r,a5r,b6k]
       rw[a0e] at h2
       rw[a0a (l:=mv),a0c h2]
       rfl
      rw[ecol] at prc
      have Rc:a6v K Hc cq (mv.map fun xs=>xs.getD j 0):=⟨ys,gc,prc⟩
      walk_at "w"
      refine ⟨u,cq,ns,_,rfl,a6v.same Ru (sb.trans sc),Rc,by rw[a0e,wn],by omega,?_,fun d1 Hd sd Nd=>?_⟩
      ·have fn:∀x∈ns,Fr (2520^4) (2^(16*4)) x:=fun x hx=>by
        have SMt:=SM.turn
        have f:=d2t (c:=16) rfl SMt.D.mw SMt.D.pw (a0d (a0n 6561 (show (a2s mv mv.length).length+1<=6 by omega)) (by decide)) SMt.gm SMt.gp (t+1) ns (f2x mn) x hx
        exact Fr.up f (d5q _ (by omega)) (a0f (by decide) (by omega))
       have fc:∀x∈mv.map fun xs=>xs.getD j 0,Fr 2520 6561 x:=fun x hx=>by
        obtain ⟨xs,hxs,rfl⟩:=a0t.mp hx
        have:=g1v SM.gm
        rw[a0a]
        cases e:xs[j]? with
        | none=>exact Fr.zero
        | some z=>exact SM.gm xs hxs z (a0j e)
       exact ⟨48,64,12,13,⟨_,_,by decide,by decide,a0h _,fn⟩,⟨_,_,by decide,by decide,by decide,fc⟩,by decide⟩
      ·exact k2 _ _ (sc.trans sd) Nd
    ·rintro ys Hb rr hrr sb gb prb _
     have eo:(List.range mv.length).map (fun j=>b4j ns (mv.map fun xs=>xs.getD j 0))=onQ (a2s mv mv.length) ns:=by
      unfold onQ a2s
      rw[b9n]
      refine c3w fun j _=>?_
      show b4j ns _=b4j _ ns
      exact e1y (by rw[a0e,wn])
     rw[eo] at prb
     exact k1 _ _ sb ⟨rr,rfl,nz rr (s2'.none (sa.none hrr)) (fun z=>by have:=sa _ _ g2';rw[z,this] at hrr;cases hrr),ys,gb,prb⟩
   ·rintro ys Hb rr hrr sb gb prb nxb
    have e:(lk.map (c3r (a2s mv mv.length) t)).map (onQ (a2s mv mv.length))=lk.map (c3r (a2s mv mv.length) (t+1)):=by rw[b9n];rfl
    rw[e] at prb nxb
    exact ⟨s2'.trans sb,rr,_,_,rfl,fun z=>(by rw[z,g2'] at hrr;cases hrr),sb _ _ g2',Paired.imp' (fun _ _ z=>a8x.same z sb) p2',ys,gb,prb,c4p nxb⟩
  ·rintro σ' H' ⟨s',rq,us,y,rfl,rf,gu,pu,Gq⟩
   walk_at "w"
   refine k fd H' nf0 s' ⟨us,gu,Paired.imp' (fun _ _ ⟨q,a,b,c⟩=>⟨q,a,(zn q b).1,c⟩) pu,fun z=>?_⟩
   obtain ⟨_,_,q,e,h,_⟩:=a5l pu z
   cases e
   exact zl h
theorem d8w:a1t ["lists","joined","each"] ["lists"] (a0l d1y):=by walk_at "d"
theorem f5e (T:Txt K mg Z):a6g P w K mg base CX0 1 Z.e2i Z.e2a ["lists"] (e9u K):=by
 refine T.e8w.ok d8w (fun vs H Q E h=>?_) (fun cdv A outer s H vs Q E hr h=>?_)
 ·obtain ⟨p,xs,Rs,rfl,gx,qx,hl,k⟩:=h
  rfl
 ·obtain ⟨p,xs,Rs,rfl,gx,qx,hl,k⟩:=h
  refine ⟨_,(a0k (a1z (i:=1) d8w.nd rfl (Or.inl rfl) (a9q a0g))
   (a0k (a6t PassesOwn.never rfl (a4c (pv 0)) (a1i (i:=2) d8w.nd rfl (Or.inl rfl) (Or.inl rfl))
    (a0q (b6c (d9e a4n PySem.F.slot_list_extend PySem.F.type_list_extend d6w (pv 1) (a0b (pv 2) a0g)))))
   (a0q (a1x (pv 1))))),?_⟩
  refine a1h (σ:=[some (.ref p),none,none]) rfl ?_
  have lx:=qx.length
  walk_at "w"
  refine a6r fun j H1 s1 n1 g1=>?_
  walk_at "w"
  refine ⟨⟨_,SqL.of (s1 _ _ gx)⟩,?_⟩
  refine b1j (K:=K) (a:=p) (xs:=xs) (fun i σ' H'=>a1w H H'∧∃(us:List V) (x:Option V),σ'=[some (.ref p),some (.ref j),x]∧H' j=some (.lst us)∧Paired (a8x K (e8x j) H') (Rs.take i).flatten us) ⟨s1,[],none,rfl,g1,.nil⟩ (fun i σ' H' _ ⟨s,_⟩=>SqL.of (s _ _ gx)) ?_ ?_
  ·rintro i x σ' H' hx ⟨s,us,y,rfl,gj,pr⟩
   obtain ⟨qs,eq,q,rfl,_,Gq⟩:=a2z qx hx
   obtain ⟨qj,zs,gz,qz,_⟩:=Gq.off n1
   have lz:=qz.length
   have lu:=pr.length
   have tl:(Rs.take (i+1)).flatten=(Rs.take i).flatten++qs:=by rw[take_snoc eq,a9l];simp
   have bl:(Rs.take i).flatten.length+qs.length<=1000:=by
    have e:Rs.flatten=(Rs.take (i+1)).flatten++(Rs.drop (i+1)).flatten:=by rw[← a9l,List.take_append_drop]
    rw[e,tl,a0i,a0i] at hl
    omega
   walk_at "w"
   refine ⟨.inl ⟨rfl,_,SqL.of gj⟩,?_⟩
   walk_at "w"
   refine ⟨j,q,us,zs,rfl,rfl,gj,s _ _ gz,a1j (a2f (by omega)),?_⟩
   refine ⟨s.after n1,_,_,rfl,a0y,?_⟩
   rw[tl]
   exact a2t (Paired.imp' (fun _ _ z=>a8x.updL z gj off_ne) pr) (Paired.imp' (fun _ _ z=>a8x.updL (a8x.same z s) gj off_ne) qz)
  ·rintro σ' H' ⟨s,us,y,rfl,gj,pr⟩
   rw[a0r (by omega)] at pr
   walk_at "w"
   refine k j (e8x j) H' n1 s ⟨us,gj,pr,fun z=>?_⟩
   obtain ⟨_,_,q,e,h,_⟩:=a5l pr z
   cases e
   exact off_ne h
theorem b1r:a1t ["system","steps","lists","rows","step"] ["system","steps"] (a0l b0p):=by walk_at "d"
theorem d6s (T:Txt K mg Z):a6g P w K mg base CX0 7 Z.b8l Z.b7x ["system","steps"] (e9y K Z.a_System):=by
 have c0k:=c4l (P:=P) (w:=w) (base:=base) T
 refine T.c3p.ok b1r (fun vs H Q E h=>?_) (fun cdv A outer s H vs Q E hr h=>?_)
 ·obtain ⟨x,u,a,c,H0,mv,pt,lk,rfl,hu,S,D,F,k⟩:=h
  rfl
 ·obtain ⟨x,u,a,c,H0,mv,pt,lk,rfl,hu,S,D,F,k⟩:=h
  refine ⟨_,(a0k (a1z (i:=2) b1r.nd rfl (Or.inl rfl) (a9q a0g))
   (a0k (a1z (i:=3) b1r.nd rfl (Or.inl rfl) (a8m (pv 0) rfl))
   (a0k (a6t PassesOwn.never rfl (a3u rfl T.range (a0b (pv 1) a0g)) (a1i (i:=4) b1r.nd rfl (Or.inl rfl) (Or.inl rfl))
    (a0k (b6c (d9e a4n a8g a8f b9u (pv 2) (a0b (pv 3) a0g)))
   (a0q (a1z (i:=3) b1r.nd rfl (Or.inl rfl) (a0p c0k (hr.mono (by decide)) rfl T.b7q T.b5w.kp T.c0f .nil a1o (a0b (pv 0) (a0b (pv 3) a0g)))))))
   (a0q (a1x (pv 2)))))),?_⟩
  refine a1h (σ:=[some (.ref x),some (.int u),none,none,none]) rfl ?_
  obtain ⟨dx,a',b',c',gx,_,_,_,Ga,Gb,Gc⟩:=id S
  have d8:=D.n8
  have i4:=D.i4
  walk_at "w"
  refine a6r fun l H1 s1 n1 g1=>?_
  walk_at "w"
  refine ⟨x,Z.a_System,dx,_,_,rfl,s1 _ _ gx,T.cl_System,T.na_put,d3i,?_⟩
  walk_at "w"
  obtain ⟨bl,G0⟩:=Gb.off n1
  have G1:=G0.same s1
  refine ⟨by omega,by omega,?_⟩
  refine a7z (n:=u) (fun i σ' H'=>a1w H H'∧∃q us y,σ'=[some (.ref x),some (.int u),some (.ref l),some (.ref q),y]∧q≠l∧H' l=some (.lst us)∧Paired (GdL K l H') (adL mv pt i) us∧a3e K (e8x l) H' q (pt.map (c3r mv i))) ⟨s1,b',[],_,rfl,bl,g1,.nil,by rw[show pt.map (c3r mv 0)=pt from d0z pt];exact G1⟩ ?_ ?_
  ·rintro i σ' H' hi ⟨s',q,us,y,rfl,ql,gu,pu,Gq⟩
   have lu:=pu.length
   have la:(adL mv pt i).length=i:=by unfold adL;rw[a0e,a3s]
   walk_at "w"
   refine ⟨.inl ⟨rfl,_,SqL.of gu⟩,?_⟩
   walk_at "w"
   refine b9r gu (a2f (by omega)) ?_
   have s2:a1w H (upd H' l (.lst (us++[V.ref q]))):=s'.after n1
   have g2:(upd H' l (.lst (us++[V.ref q]))) l=some (.lst (us++[V.ref q])):=a0y
   have p2:Paired (GdL K l (upd H' l (.lst (us++[V.ref q])))) (adL mv pt (i+1)) (us++[V.ref q]):=by
    rw[e0a]
    exact a2t (Paired.imp' (fun _ _ z=>GdL.upd z gu) pu) (.cons ⟨q,rfl,ql,Gq.updL gu off_ne ql⟩ .nil)
   have Gq2:=Gq.updL (o:=.lst (us++[V.ref q])) gu off_ne ql
   generalize upd H' l (.lst (us++[V.ref q]))=H2 at s2 g2 p2 Gq2 ⊢
   walk_at "w"
   refine ⟨x,q,H0,e8x l,mv,pt,lk,_,rfl,S.same s2,D,Gq2,by rw[a0e];omega,fun r hr=>?_,F.fitP D.mw D.pw (by omega),fun r H3 nr s3 G3=>?_⟩
   ·obtain ⟨y,hy,rfl⟩:=a0t.mp hr
    exact c2y (D.pw y hy) i
   ·have e:(pt.map (c3r mv i)).map (onQ mv)=pt.map (c3r mv (i+1)):=by rw[b9n];rfl
    rw[e] at G3
    exact ⟨s2.trans s3,r,_,_,rfl,fun z=>(by rw[z,g2] at nr;cases nr),s3 _ _ g2,Paired.imp' (fun _ _ z=>GdL.same z s3) p2,G3.weakN fun q h=>f2k fun z=>by rw[z,g2] at h;cases h⟩
  ·rintro σ' H' ⟨s',q,us,y,rfl,ql,gu,pu,Gq⟩
   walk_at "w"
   exact k l us H' n1 s' gu pu
theorem d3r:a1t ["many"] ["many"] (a0l a8z):=by walk_at "d"
theorem b2k (T:Txt K mg Z):a6g P w K mg base CX0 1 Z.b5m Z.b5d ["many"] (f7i K):=by
 refine T.a9k.ok d3r (fun vs H Q E h=>?_) (fun cdv A outer s H vs Q E hr h=>?_)
 ·obtain ⟨m,rfl,hm,k⟩:=h
  rfl
 ·obtain ⟨m,rfl,hm,k⟩:=h
  refine ⟨_,(a0q (a1x (a3v ["place"] [] [] (a3u rfl T.range (a0b (pv 0) a0g)) (fun _=>(a1i (i:=0) (show List.Nodup (α:=PySem.Str) ["place"] by decide +kernel) rfl (Or.inl rfl) (Or.inl rfl))) (fun _=>a4j) (fun _=>(b7l (v:=.ref Z.a_NOUGHT) rfl T.mg_NOUGHT rfl))))),?_⟩
  refine a1h (σ:=[some (.int m)]) rfl ?_
  walk_at "w"
  refine ⟨by omega,by omega,?_⟩
  refine b1x (n:=m) (a5w K) (fun _=>0) (by omega) (fun a b=>a.same b) ?_ ?_
  ·rintro i Ha NY NN hi sa k1
   walk_at "w"
   exact k1 _ _ (a1w.refl _) ⟨_,rfl,T.sq_NOUGHT _⟩
  ·rintro ys H1 t ht s1 g1 pr _
   exact k t H1 ht s1 ⟨ys,g1,by rw[← f0t];exact pr⟩
theorem b9p:a1t ["rows","wide","due","found","answer","line","lead"] ["rows","wide","due"] (a0l c0x):=by walk_at "d"
theorem e6w (T:Txt K mg Z):a6g P w K mg base CX0 5 Z.c8t Z.c8o ["rows","wide","due"] (e2w K):=by
 have e0c:=e1b (P:=P) (w:=w) (base:=base) T
 have a7h:=b2k (P:=P) (w:=w) (base:=base) T
 have b8t:=c4m (P:=P) (w:=w) (base:=base) T
 refine T.c8y.ok b9p (fun vs H Q E h=>?_) (fun cdv A outer s H vs Q E hr h=>?_)
 ·obtain ⟨p,q,n,w,H0,rows,due,rfl,G,Rd,hd,m99,n99,hw,F,k1,k2⟩:=h
  rfl
 ·obtain ⟨p,q,n,w,H0,rows,due,rfl,G,Rd,hd,m99,n99,hw,F,k1,k2⟩:=h
  refine ⟨_,(a0k (a1z (i:=3) b9p.nd rfl (Or.inl rfl) (a0p e0c (hr.mono (by decide)) rfl T.d4j T.d5l.kp T.d9w .nil a1o (a0b (a3v ["row","wanted"] [] [] (c2z rfl T.zip (a0b (pv 0) (a0b (pv 2) a0g))) (fun _=>(c3a K 2 (a3j (a1i (i:=0) (show List.Nodup (α:=PySem.Str) ["row","wanted"] by decide +kernel) rfl (Or.inl rfl) (Or.inl rfl)) (a3j (a1i (i:=1) (show List.Nodup (α:=PySem.Str) ["row","wanted"] by decide +kernel) rfl (Or.inl rfl) (Or.inl rfl)) b0u)))) (fun _=>a4j) (fun _=>(a3i c7j (pv 0) (a9q (a0b (pv 1) a0g))))) (a0b (a3i b1v (pv 1) a0m) a0g))))
   (a0k (a5u (a2b e6u (pv 1) (a2w a4a (pv 3) a0m (by intro _ _;rfl)) (by with_unfolding_all rfl)) (a0q (a1x e0y)) a3c)
   (a0k (a1z (i:=4) b9p.nd rfl (Or.inl rfl) (a0p a7h (hr.mono (by decide)) rfl T.a9r T.a9k.kp T.b1z .nil a1o (a0b (pv 1) a0g)))
   (a0k (a6t PassesOwn.never rfl (c2z rfl T.zip (a0b (a2w a4a (pv 3) a0m (by intro _ _;rfl)) (a0b (a2w a4a (pv 3) a0m (by intro _ _;rfl)) a0g))) (c9j rfl (a3j (a1i (i:=5) b9p.nd rfl (Or.inl rfl) (Or.inl rfl)) (a3j (a1i (i:=6) b9p.nd rfl (Or.inl rfl) (Or.inl rfl)) b0u)))
    (a0q (a8l (a0p b8t (hr.mono (by decide)) rfl T.b9v T.c1u.kp T.c5n .nil a1o (a0b (a2w a3a (pv 5) (pv 1) (by intro _ _;rfl)) (a0b (a2w a3a (pv 5) (pv 6) (by intro _ _;rfl)) a0g))) (b0j (pv 4) (pv 6) set_list))))
   (a0q (a1x (pv 4))))))),?_⟩
  refine a1h (σ:=[some (.ref p),some (.int n),some (.ref q),none,none,none,none]) rfl ?_
  obtain ⟨xs,gx,qx,_⟩:=id G
  obtain ⟨ds,gd,qd⟩:=id Rd
  have lx:=qx.length
  have ld:=qd.length
  have lj:=c2o hd
  walk_at "w"
  refine ⟨⟨_,SqL.of gx⟩,⟨_,SqL.of gd⟩,?_⟩
  refine c5i (K:=K) (xs:=xs) (ws:=ds) (fun i ys H'=>a1w H H'∧Paired (a8x K H H') ((a5d rows due).take i) ys) (a1j (a2f (by omega))) (by omega) ⟨a1w.refl _,.nil⟩ (fun i ys H' _ ⟨s,_⟩=>⟨SqL.of (s _ _ gx),SqL.of (s _ _ gd)⟩) ?_ ?_
  ·rintro i v1 v2 ys H' r h1 h2 hy ⟨s,pr⟩ hr
   obtain ⟨row,er,u,rfl,_,Ru⟩:=a2z qx h1
   obtain ⟨d,ed,nd⟩:=a2z qd h2
   have wr:=hw row (a0j er)
   have sr:a1w H' (upd H' r (.tup [.ref u,v2])):=a1w.new hr
   have gr:(upd H' r (.tup [.ref u,v2])) r=some (.tup [.ref u,v2]):=a0y
   generalize upd H' r (.tup [.ref u,v2])=H2 at sr gr ⊢
   have s2:=s.trans sr
   walk_at "w"
   refine a6r fun l1 H3 s3 n3 g3=>?_
   have s23:=s2.trans s3
   obtain ⟨zs,gz,qz⟩:=Ru.same s23
   have lz:=qz.length
   walk_at "w"
   refine c7i gz g3 (a1j (a2f (by rw[a1q];omega))) fun l2 H4 s4 n4 g4=>?_
   refine ⟨s23.trans s4,?_⟩
   rw[take_snoc (f9q er ed)]
   exact a2t (Paired.imp' (fun _ _ z=>a8x.same z ((sr.trans s3).trans s4)) pr) (.cons ⟨l2,rfl,s23.none n4,_,g4,Paired.imp' (fun _ _ z=>a5w.same z s4) (a2t qz (.cons (nd.same s23) .nil))⟩ .nil)
  rintro ys H1 hy ⟨s1,pr⟩ l hl
  have sn:a1w H1 (upd H1 l (.lst ys)):=a1w.new hl
  have gn:(upd H1 l (.lst ys)) l=some (.lst ys):=a0y
  rw[a0r (by omega)] at pr
  generalize upd H1 l (.lst ys)=H2 at sn gn ⊢
  have GJ:a3e K H H2 l (a5d rows due):=c9x pr sn hl gn
  have s02:=s1.trans sn
  walk_at "w"
  rw[show ((n:Int)+1)=((n+1:Nat):Int) by omega]
  refine ⟨l,n+1,w,H,_,rfl,GJ,by omega,by omega,c9v hw,F,fun t lp qp R ps d ls H3 gt gq GZ s3 S=>?_⟩
  have s03:=s02.trans s3
  have pn:=S.rr.le
  walk_at "w"
  refine ⟨qp,a7e ps,rfl,.inl (SqL.of gq),rfl,d6v,?_⟩
  rw[e1o]
  by_cases hn:n∈ps
  ·rw[decide_eq_true hn,show (if false=true then !true else true)=true from rfl]
   walk_at "w"
   exact k2 R ps H3 S.rr hn s03
  ·rw[decide_eq_false hn,show (if false=true then !false else false)=false from rfl]
   obtain ⟨lR,wR,rr⟩:=id S.rr
   obtain ⟨_,zs,gz,qz⟩:=id GZ
   have lz:=qz.length
   have hl':=S.len
   have low:∀j,j < ps.length->ps.getD j 0 < n:=fun j hj=>by
    have:=rr.low j hj
    have:ps.getD j 0≠n:=fun z=>hn (by rw[← z];exact getD_in hj)
    omega
   obtain ⟨_,_,_,_,_,_,_,_,_,e89⟩:=id F
   rw[lj] at e89
   have dsz:Sz 8999 d:=a1m S.dsz (a4s (by decide) (by rw[lj];omega))
   have lps:=c8l (ps:=ps)
   walk_at "w"
   refine ⟨n,rfl,by omega,fun an H4 na s4 R4=>?_⟩
   rw[← f3o (R:=R) (ps:=ps)] at R4
   obtain ⟨vs0,g0,q0⟩:=id R4
   have gt4:=s4 _ _ gt
   walk_at "w"
   refine ⟨⟨_,SqL.of (s4 _ _ gz)⟩,⟨_,SqL.of (s4 _ _ gq)⟩,?_⟩
   refine e7x (K:=K) (xs:=zs) (ws:=a7e ps) (fun j σ' H'=>a1w H3 H'∧∃y1 y2 vs,σ'=[some (.ref p),some (.int n),some (.ref q),some (.ref t),some (.ref an),y1,y2]∧H' an=some (.lst vs)∧Paired (a5w K H') (e0q R ps n j) vs) (by omega) ⟨s4,_,_,vs0,rfl,g0,q0⟩ (fun j σ' H' _ ⟨e,_⟩=>⟨SqL.of (e _ _ gz),SqL.of (e _ _ gq)⟩) ?_ ?_
   ·rintro j v1 v2 σ' H' r h1 h2 ⟨s',y1,y2,vs,rfl,ga,qa⟩ hr
    obtain ⟨line,el,u,rfl,_,gu⟩:=a2z qz h1
    have wl:=S.wide line (a0j el)
    obtain ⟨pj,ej,rfl⟩:=d9k h2
    have hj:j < ps.length:=(a0s.mp ej).1
    have ejD:ps.getD j 0=pj:=by rw[a0a,ej];rfl
    have pjn:=low j hj
    rw[ejD] at pjn
    have v0:=S.val j n
    rw[f6t el] at v0
    have ed:line.getD pj 0=d:=by
     have h:=S.val j pj
     rw[f6t el] at h
     have u:=rr.unit j hj j hj
     rw[if_pos rfl,ejD] at u
     rw[u,Rat.mul_one] at h
     exact a4m.mp h
    have sr:a1w H' (upd H' r (.tup [.ref u,.int pj])):=a1w.new hr
    have gr:(upd H' r (.tup [.ref u,.int pj])) r=some (.tup [.ref u,.int pj]):=a0y
    generalize upd H' r (.tup [.ref u,.int pj])=H5 at sr gr ⊢
    have gu5:=(s'.trans sr) _ _ gu
    walk_at "w"
    refine a4b (SqL.of gu5) (d8j (by omega)) ?_
    walk_at "w"
    refine a4b (SqL.of gu5) (d8j (by omega)) ?_
    rw[ed]
    walk_at "w"
    refine ⟨_,d,rfl,S.d0,dsz,fun r6 H6 s6 g6=>?_⟩
    have d0:(d:Rat)≠0:=fun z=>S.d0 (c8f z)
    have n6:a5w K H6 (fnQ R j n) (.ref r6):=by
     refine a5w.mk g6 ?_
     rcases Int.lt_or_lt_of_ne S.d0 with hd' | hd'
     ·rw[if_pos hd',if_pos hd']
      refine c3i (by omega) ?_
      rw[a3q,a3q,v0]
      grind
     ·rw[if_neg (by omega),if_neg (by omega)]
      refine c3i hd' ?_
      rw[v0]
      grind
    have ga6:=(sr.trans s6) _ _ ga
    have la:=qa.length
    rw[b6o] at la
    walk_at "w"
    refine a6q ga6 (a7f (by omega)) rfl ?_
    refine ⟨((s'.trans sr).trans s6).after na,_,_,_,rfl,a0y,?_⟩
    rw[← f3p S.rr hj,ejD]
    exact b3v (Paired.imp' (fun _ _ z=>(a5w.same z (sr.trans s6)).updL ga6) qa) pj (n6.updL ga6)
   ·rintro σ' H' ⟨s',y1,y2,vs,rfl,ga,qa⟩
    rw[show zs.length=ps.length by omega] at qa
    walk_at "w"
    refine k1 an R ps d.natAbs H' S.rr hn (s03.none na) (s03.trans s') ⟨vs,ga,qa⟩ (by have:=S.d0;omega) (by rw[← lj];exact S.dsz) ?_
    rw[← lj]
    exact g1d (by have:=S.d0;omega) S.tp S.rr
theorem d3p:a1t ["rows","wide","due","answer","columns"] ["rows","wide","due"] (a0l c6h):=by walk_at "d"
theorem f0o (T:Txt K mg Z):a6g P w K mg base CX0 6 Z.d5c Z.d4u ["rows","wide","due"] (e5a K):=by
 have e2k:=e6w (P:=P) (w:=w) (base:=base) T
 have a6f:=b1g (P:=P) (w:=w) (base:=base) T
 have a7h:=b2k (P:=P) (w:=w) (base:=base) T
 refine T.e0i.ok d3p (fun vs H Q E h=>?_) (fun cdv A outer s H vs Q E hr h=>?_)
 ·obtain ⟨p,q,n,w,w1,H0,rows,due,rfl,G,Rd,hd,m90,n90,hw,F,F1,k1,k2⟩:=h
  rfl
 ·obtain ⟨p,q,n,w,w1,H0,rows,due,rfl,G,Rd,hd,m90,n90,hw,F,F1,k1,k2⟩:=h
  refine ⟨_,(a0k (a1z (i:=3) d3p.nd rfl (Or.inl rfl) (a0p e2k (hr.mono (by decide)) rfl T.c9r T.c8y.kp T.d5a .nil a1o (a0b (pv 0) (a0b (pv 1) (a0b (pv 2) a0g)))))
   (a0k (a5u (a2b e6t (pv 3) e0y (a2o _)) (a0q (a1x (a5e (a0b b4g (a0b (pv 3) a0g))))) a3c)
   (a0k (a1z (i:=4) d3p.nd rfl (Or.inl rfl) (a0p a6f (hr.mono (by decide)) rfl T.a8n T.a8e.kp T.a9x .nil a1o (a0b (pv 0) (a0b (pv 1) a0g))))
   (a0q (a1x (a5e (a0b b4g (a0b (a0p e2k (hr.mono (by decide)) rfl T.c9r T.c8y.kp T.d5a .nil a1o (a0b (a3i c7j (pv 4) (a9q (a0b (pv 2) a0g))) (a0b (a2k a1y (by rfl) T.len a1v (a0b (pv 0) a0g)) (a0b (a3i c7j (a0p a7h (hr.mono (by decide)) rfl T.a9r T.a9k.kp T.b1z .nil a1o (a0b (pv 1) a0g)) (a9q (a0b (b7l (v:=.ref Z.a_ONE) rfl T.mg_ONE rfl) a0g))) a0g)))) a0g)))))))),?_⟩
  refine a1h (σ:=[some (.ref p),some (.int n),some (.ref q),none,none]) rfl ?_
  walk_at "w"
  refine ⟨p,q,n,w,H0,rows,due,rfl,G,Rd,hd,by omega,by omega,hw,F,fun x R ps M H1 RR hn nx s1 Rx M0 M1 tM=>?_,fun R ps H1 RR hn s1=>?_⟩
  ·walk_at "w"
   refine ⟨rfl,_,rfl,?_⟩
   rw[show decide (V.ref x=V.non)=false from decide_eq_false (fun z=>nomatch z)]
   walk_at "w"
   refine a3l fun t H2 s2 g2=>?_
   exact k1 t x R ps M H2 RR hn g2 nx (s1.trans s2) (Rx.same s2) M0 M1 tM
  ·walk_at "w"
   refine ⟨rfl,_,rfl,?_⟩
   rw[show decide (V.non=V.non)=true from decide_eq_true rfl]
   walk_at "w"
   refine ⟨p,n,H0,rows,rfl,G.same s1,by omega,by omega,hw,fun co H2 nc s2 G2=>?_⟩
   have s02:=s1.trans s2
   walk_at "w"
   refine a6r fun l3 H3 s3 n3 g3=>?_
   obtain ⟨cs,gc,qc,_⟩:=G2.same s3
   have lc:=qc.length
   rw[a3b] at lc
   walk_at "w"
   refine c7i gc g3 (a1j (a2f (by rw[a1q];omega))) fun l4 H4 s4 n4 g4=>?_
   have s03:=s02.trans s3
   have s04:=s03.trans s4
   have G4:a3e K (fun _=>none) H4 l4 (a2s rows n++[due]):=c9x (H:=H3) (a2t (Paired.imp' (fun _ _ ⟨q',a,_,c⟩=>⟨q',a,rfl,c⟩) qc) (.cons ⟨q,rfl,rfl,Rd.same s03⟩ .nil)) s4 n4 g4
   obtain ⟨xs,gx,qx,_⟩:=G.same s04
   have lx:=qx.length
   walk_at "w"
   refine ⟨_,_,rfl,.inl (SqL.of gx),?_⟩
   rw[← lx]
   walk_at "w"
   refine ⟨n,rfl,by omega,fun l5 H5 n5 s5 R5=>?_⟩
   walk_at "w"
   refine a6r fun l6 H6 s6 n6 g6=>?_
   obtain ⟨zs,gz,qz⟩:=R5.same s6
   have lz:=qz.length
   rw[a0o] at lz
   walk_at "w"
   refine c7i gz g6 (a1j (a2f (by rw[a1q];omega))) fun l7 H7 s7 n7 g7=>?_
   have s47:=(s5.trans s6).trans s7
   have s07:=s04.trans s47
   have R7:a6v K H7 l7 (List.replicate n 0++[1]):=⟨_,g7,Paired.imp' (fun _ _ z=>a5w.same z s7) (a2t qz (.cons ⟨_,rfl,T.sq_ONE _⟩ .nil))⟩
   have l1:(a2s rows n++[due]).length=n+1:=by rw[a0i,a3b];rfl
   have w1':∀xs∈a2s rows n++[due],xs.length=rows.length:=fun xs hx=>by
    rcases a0w.mp hx with hx | hx
    ·exact b4e xs hx
    ·rw[a4p.mp hx];exact hd
   walk_at "w"
   refine ⟨l4,l7,rows.length,w1,_,_,_,rfl,G4.same s47,R7,by rw[l1,a0i,a0o];rfl,by omega,by omega,w1',F1,fun x R1 p1 M H8 RR1 hn1 nx s8 Rx M0 M1 tM=>?_,fun R1 p1 H8 RR1 hn1 s8=>?_⟩
   ·walk_at "w"
    refine a3l fun t H9 s9 g9=>?_
    rw[l1] at M1 tM
    exact k2 t x R ps R1 p1 M H9 RR hn RR1 hn1 g9 (s07.none nx) ((s07.trans s8).trans s9) (Rx.same s9) M0 M1 tM
   ·exact absurd hn1 (e6g hd hw RR hn RR1)
theorem c2b:a1t ["rows","wide","row","answer"] ["rows","wide","row"] (a0l a7n):=by walk_at "d"
theorem d1g (T:Txt K mg Z):a6g P w K mg base CX0 7 Z.b3a Z.b2l ["rows","wide","row"] (d8q K):=by
 have f6k:=f0o (P:=P) (w:=w) (base:=base) T
 have a6f:=b1g (P:=P) (w:=w) (base:=base) T
 refine T.b8x.ok c2b (fun vs H Q E h=>?_) (fun cdv A outer s H vs Q E hr h=>?_)
 ·obtain ⟨p,q,n,w,w1,H0,rows,row,rfl,G,Rr,hl,m90,n90,hw,F,F1,k1,k2⟩:=h
  rfl
 ·obtain ⟨p,q,n,w,w1,H0,rows,row,rfl,G,Rr,hl,m90,n90,hw,F,F1,k1,k2⟩:=h
  refine ⟨_,(a0k (a1z (i:=3) c2b.nd rfl (Or.inl rfl) (a0p f6k (hr.mono (by decide)) rfl T.e1h T.e0i.kp T.e8k .nil a1o (a0b (a0p a6f (hr.mono (by decide)) rfl T.a8n T.a8e.kp T.a9x .nil a1o (a0b (pv 0) (a0b (pv 1) a0g))) (a0b (a2k a1y (by rfl) T.len a1v (a0b (pv 0) a0g)) (a0b (pv 2) a0g)))))
   (a0q (a1x (a5e (a0b (e0z (a2b b1u (a2w a4a (pv 3) a0m (by intro _ _;rfl)) b4g (a2o _)) b4g b4g) (a0b (a2w a4a (pv 3) a0m (by intro _ _;rfl)) a0g)))))),?_⟩
  refine a1h (σ:=[some (.ref p),some (.int n),some (.ref q),none]) rfl ?_
  walk_at "w"
  refine ⟨p,n,H0,rows,rfl,G,by omega,by omega,hw,fun co H1 nc s1 G1=>?_⟩
  obtain ⟨xs,gx,qx,_⟩:=G.same s1
  have lx:=qx.length
  walk_at "w"
  refine ⟨_,_,rfl,.inl (SqL.of gx),?_⟩
  rw[← lx]
  have lT:(a2s rows n).length=n:=a3b
  have eS:f7g (a2s rows n) rows.length row=a5d (rows++[row]) (List.replicate rows.length 0++[1]):=by unfold f7g;rw[d5x hw]
  walk_at "w"
  refine ⟨co,q,rows.length,w,w1,_,a2s rows n,row,rfl,G1,Rr.same s1,by omega,by omega,by omega,fun xs hx=>b4e xs hx,F,by rw[eS,lT];exact F1,fun t x R ps M H2 RR hn g2 nx s2 Rx M0 M1 tM=>?_,fun t x R ps R1 p1 M H2 RR hn RR1 hn1 g2 nx s2 Rx M0 M1 tM=>?_⟩
  ·rw[lT] at M1 tM
   walk_at "w"
   rw[decide_eq_true rfl]
   walk_at "w"
   refine a3l fun t2 H3 s3 g3=>?_
   exact k1 t2 x R ps M H3 RR hn g3 (s1.none nx) ((s1.trans s2).trans s3) (Rx.same s3) M0 M1 tM
  ·rw[lT] at M1 tM RR1 hn1 Rx
   rw[eS] at RR1
   walk_at "w"
   rw[decide_eq_false (show ¬(Str.ofString "no"=Str.ofString "yes") by decide)]
   walk_at "w"
   refine a3l fun t2 H3 s3 g3=>?_
   exact k2 t2 x R ps R1 p1 M H3 RR hn RR1 hn1 g3 (s1.none nx) ((s1.trans s2).trans s3) (Rx.same s3) M0 M1 tM
theorem d6f:a1t ["one","other"] ["one","other"] (a0l b0n):=by walk_at "d"
theorem d6q (T:Txt K mg Z):a6g P w K mg base CX0 4 Z.b8j Z.b7v ["one","other"] (e5j K):=by
 have e0e:=e1c (P:=P) (w:=w) (base:=base) T
 refine T.c3n.ok d6f (fun vs H Q E h=>?_) (fun cdv A outer s H vs Q E hr h=>?_)
 ·obtain ⟨p,q,xq,yq,rfl,hp,hq,hl,hz,hn,hm,k⟩:=h
  rfl
 ·obtain ⟨p,q,xq,yq,rfl,hp,hq,hl,hz,hn,hm,k⟩:=h
  refine ⟨_,(a0q (a1x (a3v ["mine","yours"] [] [] (c2z rfl T.zip (a0b (pv 0) (a0b (pv 1) a0g))) (fun _=>(c3a K 2 (a3j (a1i (i:=0) (show List.Nodup (α:=PySem.Str) ["mine","yours"] by decide +kernel) rfl (Or.inl rfl) (Or.inl rfl)) (a3j (a1i (i:=1) (show List.Nodup (α:=PySem.Str) ["mine","yours"] by decide +kernel) rfl (Or.inl rfl) (Or.inl rfl)) b0u)))) (fun _=>a4j) (fun _=>(a0p e0e (hr.mono (by decide)) rfl T.d4k T.d5m.kp T.d9x .nil a1o (a0b (pv 0) (a0b (pv 1) a0g))))))),?_⟩
  refine a1h (σ:=[some (.ref p),some (.ref q)]) rfl ?_
  obtain ⟨xs,gx,qx⟩:=id hp
  obtain ⟨ys,gy,qy⟩:=id hq
  have lx:=qx.length
  have ly:=qy.length
  walk_at "w"
  refine ⟨⟨_,SqL.of gx⟩,⟨_,SqL.of gy⟩,?_⟩
  refine c5i (K:=K) (xs:=xs) (ws:=ys) (fun i zs H'=>a1w H H'∧Paired (a5w K H') ((List.zipWith (fun x y=>x - y) xq yq).take i) zs) (a1j (a2f (by omega))) (by omega) ⟨a1w.refl _,.nil⟩ (fun i zs H' _ ⟨s,_⟩=>⟨SqL.of (s _ _ gx),SqL.of (s _ _ gy)⟩) ?_ ?_
  ·rintro i x y zs H' r hx hy hlen ⟨s,hP⟩ hr
   obtain ⟨n,en,hn1⟩:=a2z qx hx
   obtain ⟨m,em,hm1⟩:=a2z qy hy
   have s1:=a1w.new (o:=.tup [x,y]) hr
   have s01:=s.trans s1
   have gr:(upd H' r (.tup [x,y])) r=some (.tup [x,y]):=a0y
   generalize upd H' r (.tup [x,y])=Hr at s1 s01 gr ⊢
   walk_at "w"
   refine ⟨_,_,n,m,rfl,hn1.same s01,hm1.same s01,hn n (a0j en),hm m (a0j em),fun r3 H3 s3 h3=>?_⟩
   refine ⟨s01.trans s3,?_⟩
   have ez:(List.zipWith (fun x y=>x - y) xq yq)[i]?=some (n - m):=by rw[a3z,en,em]
   rw[take_snoc ez]
   exact a2t (Paired.imp' (fun _ _ z=>z.same (s1.trans s3)) hP) (.cons h3 .nil)
  ·rintro zs H' hy ⟨s,hP⟩ l hl'
   rw[a0r (by rw[a2i];omega)] at hP
   exact k l _ (s.none hl') (s.trans (a1w.new hl')) ⟨zs,a0y,Paired.imp' (fun _ _ z=>z.same (a1w.new hl')) hP⟩
theorem b9q:a1t ["self","state","puts","columns"] ["self","state","puts"] (a0l a6o):=by walk_at "d"
theorem c9n (T:Txt K mg Z):a6g P w K mg base CX0 5 Z.b1n Z.b1l ["self","state","puts"] (e5h K Z.a_System):=by
 have a6f:=b1g (P:=P) (w:=w) (base:=base) T
 have d0m:=d2i (P:=P) (w:=w) (base:=base) T
 refine T.c2t.ok b9q (fun vs H Q E h=>?_) (fun cdv A outer s H vs Q E hr h=>?_)
 ·obtain ⟨x,p,q,H0,mv,pt,lk,st,pu,rfl,S,D,F,hp,hq,l1,l2,fs,k⟩:=h
  rfl
 ·obtain ⟨x,p,q,H0,mv,pt,lk,st,pu,rfl,S,D,F,hp,hq,l1,l2,fs,k⟩:=h
  refine ⟨_,(a0k (a1z (i:=3) b9q.nd rfl (Or.inl rfl) (a0p a6f (hr.mono (by decide)) rfl T.a8n T.a8e.kp T.a9x .nil a1o (a0b (a8m (pv 0) rfl) (a0b (a8m (pv 0) rfl) a0g))))
   (a0q (a1x (a3v ["line","column"] ["state","puts"] [1,2] (c2z rfl T.zip (a0b (a8m (pv 0) rfl) (a0b (pv 3) a0g))) (fun _=>(c3a K 2 (a3j (a1i (i:=0) (show List.Nodup (α:=PySem.Str) ["line","column","state","puts"] by decide +kernel) rfl (Or.inl rfl) (Or.inl rfl)) (a3j (a1i (i:=1) (show List.Nodup (α:=PySem.Str) ["line","column","state","puts"] by decide +kernel) rfl (Or.inl rfl) (Or.inl rfl)) b0u)))) (fun _=>a4j) (fun _=>(a0p d0m (hr.mono (by decide)) rfl T.c6r T.c6b.kp T.d0c .nil a1o (a0b (a3i c7j (pv 0) (pv 1)) (a0b (a3i c7j (pv 2) (pv 3)) a0g)))))))),?_⟩
  refine a1h (σ:=[some (.ref x),some (.ref p),some (.ref q),none]) rfl ?_
  obtain ⟨dx,a,b,c,gx,n1,n2,n3,Ga,Gb,Gc⟩:=id S
  have d1:=D.n8
  have d2:=D.i4
  walk_at "w"
  refine ⟨x,Z.a_System,dx,_,_,rfl,gx,T.cl_System,T.na_put,d3i,?_⟩
  walk_at "w"
  refine ⟨x,Z.a_System,dx,_,_,rfl,gx,T.cl_System,T.na_states,b0k,?_⟩
  walk_at "w"
  refine ⟨b,mv.length,H0,pt,rfl,Gb,by omega,by omega,D.pw,fun t H1 nt s1 Gt=>?_⟩
  obtain ⟨as,ga,qa,_⟩:=Ga.same s1
  obtain ⟨ts,gt,qt,_⟩:=id Gt
  have la:=qa.length
  have lt:=qt.length
  rw[a3b] at lt
  have gx1:=s1 _ _ gx
  walk_at "w"
  refine ⟨x,Z.a_System,dx,_,_,rfl,gx1,T.cl_System,T.na_move,d3j,?_⟩
  walk_at "w"
  refine ⟨⟨_,SqL.of ga⟩,⟨_,SqL.of gt⟩,?_⟩
  refine c5i (K:=K) (xs:=as) (ws:=ts) (fun i ys H'=>a1w H1 H'∧Paired (a5w K H') ((b7b mv pt st pu).take i) ys) (a1j (a2f (by omega))) (by omega) ⟨a1w.refl _,.nil⟩ (fun i ys H' _ ⟨s,_⟩=>⟨SqL.of (s _ _ ga),SqL.of (s _ _ gt)⟩) ?_ ?_
  ·rintro i v1 v2 ys H' r h1 h2 hy ⟨s,pr⟩ hr
   obtain ⟨line,el,u1,rfl,_,R1⟩:=a2z qa h1
   obtain ⟨col,ec,u2,rfl,_,R2⟩:=a2z qt h2
   have ml:=a0j el
   have mc:=a0j ec
   have sr:a1w H' (upd H' r (.tup [.ref u1,.ref u2])):=a1w.new hr
   have gr:(upd H' r (.tup [.ref u1,.ref u2])) r=some (.tup [.ref u1,.ref u2]):=a0y
   have s2:=s.trans sr
   generalize upd H' r (.tup [.ref u1,.ref u2])=H2 at sr gr s2 ⊢
   have lc:col.length=pt.length:=b4e col mc
   have ll:line.length=mv.length:=D.mw line ml
   obtain ⟨z1,g1,q1⟩:=R1.same s2
   obtain ⟨z2,g2,q2⟩:=R2.same s2
   have y1:=q1.length
   have y2:=q2.length
   walk_at "w"
   refine c7i g1 g2 (a1j (a2f (by omega))) fun c1 H3 s3 n3' g3=>?_
   have s13:=s2.trans s3
   obtain ⟨z3,g4,q3⟩:=(hp.same s1).same s13
   obtain ⟨z4,g5,q4⟩:=(hq.same s1).same s13
   have y3:=q3.length
   have y4:=q4.length
   walk_at "w"
   refine c7i g4 g5 (a1j (a2f (by omega))) fun c2 H4 s4 n4 g6=>?_
   have s34:=s3.trans s4
   walk_at "w"
   refine ⟨c1,c2,line++col,st++pu,rfl,⟨_,s4 _ _ g3,Paired.imp' (fun _ _ z=>z.same s34) (a2t q1 q2)⟩,⟨_,g6,Paired.imp' (fun _ _ z=>z.same s4) (a2t q3 q4)⟩,by rw[a0i,a0i];omega,by rw[a0i];omega,.sys ?_ fs,fun r2 H5 s5 h5=>?_⟩
   ·refine F.fits fun y hy=>?_
    rcases a0w.mp hy with hy | hy
    ·exact .inl ⟨line,ml,hy⟩
    ·obtain ⟨j,_,rfl⟩:=a0t.mp mc
     obtain ⟨xs,hx,rfl⟩:=a0t.mp hy
     by_cases hj:j < xs.length
     ·refine .inr (.inl ⟨xs,hx,?_⟩)
      rw[a0a,a0c hj]
      exact a0z hj
     ·exact .inr (.inr (.inr (by rw[a0a,a1d (by omega)];rfl)))
   ·have em:(b7b mv pt st pu)[i]?=some (b4j (line++col) (st++pu)):=by
     unfold b7b
     rw[a3z,el,ec]
    refine ⟨((s2.trans s34).trans s5),?_⟩
    rw[take_snoc em]
    exact a2t (Paired.imp' (fun _ _ z=>(z.same (sr.trans s34)).same s5) pr) (.cons h5 .nil)
  ·rintro ys H' hy ⟨s,pr⟩ l hl
   have lm:(b7b mv pt st pu).length=mv.length:=by unfold b7b;rw[a2i,a3b];omega
   rw[a0r (by omega)] at pr
   exact k l _ (s1.none (s.none hl)) ((s1.trans s).trans (a1w.new hl)) ⟨ys,a0y,Paired.imp' (fun _ _ z=>z.same (a1w.new hl)) pr⟩
theorem c9g:a1t ["system","start","puts","states","row"] ["system","start","puts"] (a0l c1a):=by walk_at "d"
theorem e6y (T:Txt K mg Z):a6g P w K mg base CX0 6 Z.c8w Z.c8r ["system","start","puts"] (e2z K Z.a_System):=by
 have d1p:=c9n (P:=P) (w:=w) (base:=base) T
 refine T.d5o.ok c9g (fun vs H Q E h=>?_) (fun cdv A outer s H vs Q E hr h=>?_)
 ·obtain ⟨x,s,p,H0,H1,mv,pt,lk,pus,st,rfl,S,D,F,Rs,ls,Gp,lp,wp,cf,k⟩:=h
  rfl
 ·obtain ⟨x,s,p,H0,H1,mv,pt,lk,pus,st,rfl,S,D,F,Rs,ls,Gp,lp,wp,cf,k⟩:=h
  refine ⟨_,(a0k (a1z (i:=3) c9g.nd rfl (Or.inl rfl) (a9q (a0b (b1t c0c (by rfl) T.list PyProof.Rows.boot_list (a0b (pv 1) a0g)) a0g)))
   (a0k (a6t PassesOwn.never rfl (a4c (pv 2)) (a1i (i:=4) c9g.nd rfl (Or.inl rfl) (Or.inl rfl))
    (a0q (b6c (d9e a4n a8g a8f b9u (pv 3) (a0b (f5a (pv 0) T.cl_System T.b9x d1p (hr.mono (by decide)) T.c2p .nil a1o (a0b (a2w a3a (pv 3) (d3w c3z a0m) (by intro _ _;rfl)) (a0b (pv 4) a0g))) a0g)))))
   (a0q (a1x (pv 3))))),?_⟩
  refine a1h (σ:=[some (.ref x),some (.ref s),some (.ref p),none,none]) rfl ?_
  have d1:=D.n8
  obtain ⟨ss,gs,qs⟩:=id Rs
  obtain ⟨ps,gp,qp,_⟩:=id Gp
  have lps:=qp.length
  walk_at "w"
  refine ⟨s,ss,rfl,.inl (SqL.of gs),fun c hc=>?_⟩
  have sc:a1w H (upd H c (.lst ss)):=a1w.new hc
  have Rc:a6v K (upd H c (.lst ss)) c st:=⟨ss,a0y,Paired.imp' (fun _ _ z=>z.same sc) qs⟩
  generalize upd H c (.lst ss)=Hc at sc Rc ⊢
  walk_at "w"
  refine a6r fun l Hl sl nl gl=>?_
  have hl0:=sc.none nl
  have s0:=sc.trans sl
  have cl:c≠l:=fun z=>by obtain ⟨_,g,_⟩:=Rc;rw[z,nl] at g;cases g
  have pr0:Paired (e4d K H l Hl) ((b9y mv pt st pus).take 1) [V.ref c]:=by
   have:(b9y mv pt st pus).take 1=[st]:=by
    have e:=take_snoc (c5h (mv:=mv) (pt:=pt) (st:=st) (pus:=pus) (k:=0) (a1f _))
    rw[e];rfl
   rw[this]
   exact .cons ⟨c,rfl,hc,cl,Rc.same sl⟩ .nil
  walk_at "w"
  refine ⟨⟨_,SqL.of (s0 _ _ gp)⟩,?_⟩
  refine b1j (K:=K) (a:=p) (xs:=ps) (fun i σ' H'=>a1w H H'∧(∃y ys,σ'=[some (.ref x),some (.ref s),some (.ref p),some (.ref l),y]∧H' l=some (.lst ys)∧Paired (e4d K H l H') ((b9y mv pt st pus).take (i+1)) ys)) ⟨s0,_,_,rfl,gl,pr0⟩ (fun i σ' H' _ ⟨e,_⟩=>SqL.of (e _ _ gp)) ?_ ?_
  ·rintro i v σ' H' hv ⟨e,y,ys,rfl,g,pr⟩
   obtain ⟨pu,epu,u,rfl,_,Ru⟩:=a2z qp hv
   have hi:i < pus.length:=(a0s.mp epu).1
   have mp:=a0j epu
   have ly:=pr.length
   rw[a4h,c6w] at ly
   have ec:=c5h (mv:=mv) (pt:=pt) (st:=st) (pus:=pus) (k:=i) (by omega)
   have el:ys[i]?=some (ys[i]'(by omega)):=a0c (by omega)
   obtain ⟨vl,evl,q,hq1,hq2,hq3,Rq⟩:∃vl,ys[i]?=some vl∧∃q,vl=V.ref q∧H q=none∧q≠l∧a6v K H' q (stQ mv pt st pus i):=by
    obtain ⟨xs,ex,w⟩:=a2z pr el
    rw[c9a (by omega),ec] at ex
    cases ex
    exact ⟨_,el,w⟩
   subst hq1
   have ey:∃zs,ys=zs++[V.ref q]:=by
    refine ⟨ys.take i,?_⟩
    rw[← take_snoc evl,a0r (by omega)]
   obtain ⟨zs,rfl⟩:=ey
   walk_at "w"
   refine ⟨.inl ⟨rfl,_,SqL.of g⟩,?_⟩
   walk_at "w"
   obtain ⟨dx,_,_,_,gx,_⟩:=S.same e
   refine ⟨x,dx,_,rfl,gx,e4t,?_⟩
   walk_at "w"
   refine a4b (SqL.of g) (c5r _ _) ?_
   walk_at "w"
   refine ⟨x,q,u,H0,mv,pt,lk,_,pu,rfl,S.same e,D,F,Rq,Ru.same e,d3n ls (by omega),wp pu mp,cf.both (by omega) mp,fun r1 H2 n2 s2 R2=>?_⟩
   have gn:=s2 _ _ g
   walk_at "w"
   refine b9r gn (a2f (by omega)) ?_
   refine ⟨e5w (e.trans s2) hl0,_,_,rfl,a0y,?_⟩
   rw[take_snoc (c5h (by omega)),d3m epu]
   have rl:r1≠l:=fun z=>by rw[z,g] at n2;cases n2
   exact a2t (Paired.imp' (fun _ _ z=>(e4d.same z s2).upd gn) pr) (.cons ⟨r1,rfl,e.none n2,rl,R2.updL gn rl⟩ .nil)
  ·rintro σ' H' ⟨e,y,ys,rfl,g,pr⟩
   walk_at "w"
   rw[a0r (by rw[c6w];omega)] at pr
   exact k l H' hl0 e ⟨ys,g,Paired.imp' (fun _ _ z=>e4d.rowF z) pr,d2b pr⟩
theorem d1c:a1t ["system","steps"] ["system","steps"] (a0l a7q):=by walk_at "d"
theorem c2h (T:Txt K mg Z):a6g P w K mg base CX0 2 Z.b3d Z.b2o ["system","steps"] (e9n K Z.a_System):=by
 have a7h:=b2k (P:=P) (w:=w) (base:=base) T
 refine T.b3m.ok d1c (fun vs H Q E h=>?_) (fun cdv A outer s H vs Q E hr h=>?_)
 ·obtain ⟨x,tt,H0,mv,pt,lk,rfl,hT,S,D,k⟩:=h
  rfl
 ·obtain ⟨x,tt,H0,mv,pt,lk,rfl,hT,S,D,k⟩:=h
  refine ⟨_,(a0q (a1x (a3v ["step"] ["system"] [0] (a3u rfl T.range (a0b (pv 1) a0g)) (fun _=>(a1i (i:=0) (show List.Nodup (α:=PySem.Str) ["step","system"] by decide +kernel) rfl (Or.inl rfl) (Or.inl rfl))) (fun _=>a4j) (fun _=>(a0p a7h (hr.mono (by decide)) rfl T.a9r T.a9k.kp T.b1z .nil a1o (a0b (e6p K (pv 1) rfl) a0g)))))),?_⟩
  refine a1h (σ:=[some (.ref x),some (.int tt)]) rfl ?_
  obtain ⟨dx,a',b',c',gx,_,_,_,Ga,Gb,Gc⟩:=id S
  have i4:=D.i4
  walk_at "w"
  refine ⟨by omega,by omega,?_⟩
  refine b1x (n:=tt) (a8x K H) (fun (_:Nat)=>List.replicate pt.length (0:Rat)) (by omega) (fun a b=>a.same b) ?_ ?_
  ·rintro i Hb NY NN hi sa k1
   walk_at "w"
   refine ⟨x,Z.a_System,dx,_,_,rfl,sa _ _ gx,T.cl_System,T.na_ins,e4u,?_⟩
   walk_at "w"
   exact ⟨pt.length,rfl,by omega,fun r H2 nr s2 R2=>k1 _ _ s2 ⟨r,rfl,sa.none nr,R2⟩⟩
  rintro ys Hz t ht sz g pr nx
  have e:(List.range tt).map (fun (_:Nat)=>List.replicate pt.length (0:Rat))=List.replicate tt (List.replicate pt.length 0):=by rw[List.map_const',a3s]
  rw[e] at pr nx
  exact k t Hz ht sz ⟨ys,g,pr,c4p nx⟩
theorem e3d:a1t ["system","start","goal","steps"] ["system","start","goal","steps"] (a0l b6v):=by walk_at "d"
theorem e3o (T:Txt K mg Z):a6g P w K mg base CX0 7 Z.c5x Z.c5d ["system","start","goal","steps"] (e9s K Z.a_System):=by
 have e0d:=d6q (P:=P) (w:=w) (base:=base) T
 have f1w:=e6y (P:=P) (w:=w) (base:=base) T
 have b8s:=c2h (P:=P) (w:=w) (base:=base) T
 refine T.d0s.ok e3d (fun vs H Q E h=>?_) (fun cdv A outer s H vs Q E hr h=>?_)
 ·obtain ⟨x,s,g,tt,H0,mv,pt,lk,st,go,rfl,hT,S,D,F,Rs,ls,Rg,lg,cf,sg,k⟩:=h
  rfl
 ·obtain ⟨x,s,g,tt,H0,mv,pt,lk,st,go,rfl,hT,S,D,F,Rs,ls,Rg,lg,cf,sg,k⟩:=h
  refine ⟨_,(a0q (a1x (a0p e0d (hr.mono (by decide)) rfl T.c7n T.c3n.kp T.d0b .nil a1o (a0b (pv 2) (a0b (a2w a3a (a0p f1w (hr.mono (by decide)) rfl T.d6y T.d5o.kp T.e2h .nil a1o (a0b (pv 0) (a0b (pv 1) (a0b (a0p b8s (hr.mono (by decide)) rfl T.b6e T.b3m.kp T.b8f .nil a1o (a0b (pv 0) (a0b (pv 3) a0g))) a0g)))) (d3w c3z a0m) (by intro _ _;rfl)) a0g))))),?_⟩
  refine a1h (σ:=[some (.ref x),some (.ref s),some (.ref g),some (.int tt)]) rfl ?_
  have d8:=D.n8
  have i4:=D.i4
  walk_at "w"
  refine ⟨x,tt,H0,mv,pt,lk,rfl,by omega,S,D,fun p1 H1 n1 s1 G1=>?_⟩
  walk_at "w"
  refine ⟨x,s,p1,H0,H,mv,pt,lk,_,st,rfl,S.same s1,D,F,Rs.same s1,ls,G1,by rw[a0o];omega,fun xs hx=>by rw[(a3m.mp hx).2,a0o],cf,fun p2 H2 n2 s2 G2=>?_⟩
  obtain ⟨us,gu,qu,_⟩:=id G2
  have lu:=qu.length
  rw[c6w,a0o] at lu
  have ec:=c5h (mv:=mv) (pt:=pt) (st:=st) (pus:=List.replicate tt (List.replicate pt.length 0)) (k:=tt) (by rw[a0o];exact a0h _)
  have el:us[tt]?=some (us[tt]'(by omega)):=a0c (by omega)
  obtain ⟨q,eq,Rq⟩:∃q,us[tt]?=some (V.ref q)∧a6v K H2 q (c3r mv tt st):=by
   obtain ⟨xs,ex,q,e,_,w⟩:=a2z qu el
   rw[ec] at ex
   cases ex
   rw[e4x D ls] at w
   exact ⟨q,by rw[el,e],w⟩
  have ey:∃zs,us=zs++[V.ref q]:=by
   refine ⟨us.take tt,?_⟩
   rw[← take_snoc eq,a0r (by omega)]
  obtain ⟨zs,rfl⟩:=ey
  have szp:∀y∈c3r mv tt st,SzN y:=fun y hy=>by
   have:=(cf.state (k:=tt) (by rw[a0o];exact a0h _)).szn (x:=y)
   rw[e4x D ls] at this
   exact this hy
  walk_at "w"
  refine a4b (SqL.of gu) (c5r _ _) ?_
  walk_at "w"
  exact ⟨g,q,go,_,rfl,(Rg.same s1).same s2,Rq,by rw[lg,c2y ls],by omega,sg,szp,fun r H3 n3 s3 R3=>k r H3 ((s1.trans s2).none n3) ((s1.trans s2).trans s3) R3⟩
theorem f7r:a1t ["row","many","wide"] ["row","many","wide"] (a0l e3g):=by walk_at "d"
theorem f8z (T:Txt K mg Z):a6g P w K mg base CX0 1 Z.f1s Z.f1n ["row","many","wide"] (f3m K):=by
 refine T.f6n.ok f7r (fun vs H Q E h=>?_) (fun cdv A outer s H vs Q E hr h=>?_)
 ·obtain ⟨p,u,kk,w,rfl,Rw,lw,uk,u1,k1,k⟩:=h
  rfl
 ·obtain ⟨p,u,kk,w,rfl,Rw,lw,uk,u1,k1,k⟩:=h
  refine ⟨_,(a0q (a1x (a3v ["turn"] ["row","wide"] [0,2] (a3u rfl T.range (a0b (pv 1) a0g)) (fun _=>(a1i (i:=0) (show List.Nodup (α:=PySem.Str) ["turn","row","wide"] by decide +kernel) rfl (Or.inl rfl) (Or.inl rfl))) (fun _=>a4j) (fun _=>(d3x (e9z K (by rfl)) (pv 1) (d3v (a3i a5h (pv 0) (pv 2))) (d3v (a3i a5h (a3i b1v (pv 0) a0m) (pv 2)))))))),?_⟩
  refine a1h (σ:=[some (.ref p),some (.int u),some (.int kk)]) rfl ?_
  obtain ⟨xs,gx,qx⟩:=id Rw
  have lx:=qx.length
  walk_at "w"
  refine ⟨by omega,by omega,?_⟩
  refine b1x (n:=u) (a8x K H) (fun t=>(w.drop (t*kk)).take kk) (by omega) (fun a b=>a.same b) ?_ ?_
  ·rintro i Hb NY NN hi sa k2
   have b1:i*kk+kk<=u*kk:=by rw[← a4d];exact a0n _ hi
   walk_at "w"
   refine b9s (d9u (by omega) (by omega)) ?_
   walk_at "w"
   refine b9s (e8f (by omega) (by omega)) ?_
   walk_at "w"
   rw[show ((i:Int)*(kk:Int))=((i*kk:Nat):Int) by omega,show (((i:Int)+1)*(kk:Int))=((i*kk:Nat):Int)+(kk:Int) by rw[Int.add_mul,Int.one_mul];omega]
   refine ⟨p,xs,rfl,SqL.of (sa _ _ gx),fun r hr=>?_⟩
   rw[f5w (by omega)]
   have sn:=a1w.new (o:=.lst ((xs.drop (i*kk)).take kk)) hr
   exact k2 _ _ sn ⟨r,rfl,sa.none hr,_,a0y,Paired.imp' (fun _ _ z=>(z.same sa).same sn) (c3c (c4i qx _) _)⟩
  rintro ys Hz t ht sz g pr nx
  exact k t Hz ht sz ⟨ys,g,pr,c4p nx⟩
theorem c9h:a1t ["system","start","goal","steps","used","rows","answer","latest_first"] ["system","start","goal","steps"] (a0l d1z):=by walk_at "d"
theorem e6z (T:Txt K mg Z):a6g P w K mg base CX0 8 Z.e2j Z.e2b ["system","start","goal","steps"] (e9w K Z.a_System):=by
 have b8r:=c2g (P:=P) (w:=w) (base:=base) T
 have g0p:=f5e (P:=P) (w:=w) (base:=base) T
 have e0g:=d6s (P:=P) (w:=w) (base:=base) T
 have d5f:=d1g (P:=P) (w:=w) (base:=base) T
 have e8s:=e3o (P:=P) (w:=w) (base:=base) T
 have g2e:=f8z (P:=P) (w:=w) (base:=base) T
 have b8s:=c2h (P:=P) (w:=w) (base:=base) T
 refine T.e2l.ok c9h (fun vs H Q E h=>?_) (fun cdv A outer s H vs Q E hr h=>?_)
 ·obtain ⟨x,s,g,tt,a,c,D0,W0,E0,W1,H0,mv,pt,lk,st,go,rfl,hT,S,D,SF,F,Rs,ls,Rg,lg,cf,sg,CF,k1,k2⟩:=h
  rfl
 ·obtain ⟨x,s,g,tt,a,c,D0,W0,E0,W1,H0,mv,pt,lk,st,go,rfl,hT,S,D,SF,F,Rs,ls,Rg,lg,cf,sg,CF,k1,k2⟩:=h
  refine ⟨_,(a0k (a1z (i:=4) c9h.nd rfl (Or.inl rfl) (a3i c4j (a2k a1y (by rfl) T.len a1v (a0b (a0p b8r (hr.mono (by decide)) rfl T.b6d T.b3l.kp T.b8e .nil a1o (a0b (pv 0) (a0b (pv 3) a0g))) a0g)) a0m))
   (a0k (a1z (i:=5) c9h.nd rfl (Or.inl rfl) (a0p g0p (hr.mono (by decide)) rfl T.e7j T.e8w.kp T.f2w .nil a1o (a0b (a0p e0g (hr.mono (by decide)) rfl T.c7p T.c3p.kp T.d0f .nil a1o (a0b (pv 0) (a0b (pv 4) a0g))) a0g)))
   (a0k (a1z (i:=6) c9h.nd rfl (Or.inl rfl) (a0p d5f (hr.mono (by decide)) rfl T.c2j T.b8x.kp T.c5k .nil a1o (a0b (pv 5) (a0b (a8m (pv 0) rfl) (a0b (a0p e8s (hr.mono (by decide)) rfl T.d2o T.d0s.kp T.d7x .nil a1o (a0b (pv 0) (a0b (pv 1) (a0b (pv 2) (a0b (pv 3) a0g))))) a0g)))))
   (a0k (a5u (a2b b1u (a2w a4a (pv 6) a0m (by intro _ _;rfl)) b4g (a2o _)) (a0q (a1x (a5e (a0b b4g (a0b (a2w a4a (pv 6) a0m (by intro _ _;rfl)) a0g))))) a3c)
   (a0k (a1z (i:=7) c9h.nd rfl (Or.inl rfl) (a0p g2e (hr.mono (by decide)) rfl T.f2l T.f6n.kp T.g0k .nil a1o (a0b (a2w a4a (pv 6) a0m (by intro _ _;rfl)) (a0b (pv 4) (a0b (a8m (pv 0) rfl) a0g)))))
   (a0q (a1x (a5e (a0b b4g (a0b (a3i c7j (a0p b8s (hr.mono (by decide)) rfl T.b6e T.b3m.kp T.b8f .nil a1o (a0b (pv 0) (a0b (a3i c4j (pv 3) (pv 4)) a0g))) (d2d K rfl T.list rfl T.reversed (a0b (pv 7) a0g))) a0g)))))))))),?_⟩
  refine a1h (σ:=[some (.ref x),some (.ref s),some (.ref g),some (.int tt),none,none,none,none]) rfl ?_
  have d8:=D.n8
  have i4:=D.i4
  obtain ⟨dx,a',b',c',gx,_⟩:=id S
  walk_at "w"
  refine ⟨x,a,c,tt,H0,mv,pt,lk,rfl,by omega,S,D,F,fun r1 Rs1 H1 n1 s1 GL Gw ln hlast=>?_⟩
  obtain ⟨us,gus,pus1⟩:=id GL
  have lus:=pus1.length
  have rne:=Gw.ne
  have lpos:0 < Rs1.length:=List.length_pos_iff.mpr rne
  walk_at "w"
  refine ⟨_,_,rfl,.inl (SqL.of gus),?_⟩
  rw[← lus]
  obtain ⟨u,eu⟩:∃u,Rs1.length=u+1:=⟨Rs1.length - 1,by omega⟩
  rw[eu]
  have eL:Rs1[u]?=some (Rs1[u]'(by omega)):=a0c (by omega)
  obtain ⟨R,eR⟩:∃R,Rs1[u]?=some R:=⟨_,eL⟩
  obtain ⟨ps,RRu⟩:=Gw.rr u R eR
  have ul:=Gw.len u R eR
  have un:u<=mv.length:=by have:=RRu.le;have:=RRu.1;omega
  have uT:u<=tt:=by omega
  obtain ⟨psT,RRT⟩:∃ps,a2u (kry mv pt tt) mv.length R ps:=by
   refine hlast R ?_ tt (by omega)
   rw[List.getLast?_eq_getElem?,eu]
   exact eR
  walk_at "w"
  rw[show ((((u+1:Nat):Int)) - 1)=(u:Int) by omega]
  refine ⟨x,u,a,c,H0,mv,pt,lk,rfl,un,S.same s1,D,F,fun r2 us2 H2 n2 s2 g2 p2=>?_⟩
  have s02:=s1.trans s2
  have kl:=c6u (mv:=mv) (pt:=pt) u
  have kl2:u*pt.length<=8*4:=a2a (by omega) i4
  walk_at "w"
  refine ⟨r2,us2,adL mv pt u,rfl,g2,p2,by rw[c6z];omega,fun r3 H9 H3 n3 s3 G3=>?_⟩
  rw[c6z] at G3
  have s03:=s02.trans s3
  walk_at "w"
  refine ⟨x,Z.a_System,dx,_,_,rfl,s03 _ _ gx,T.cl_System,T.na_states,b0k,?_⟩
  walk_at "w"
  refine ⟨x,s,g,tt,H0,mv,pt,lk,st,go,rfl,hT,S.same s03,D,SF,Rs.same s03,ls,Rg.same s03,lg,cf,sg,fun r4 H4 n4 s4 R4=>?_⟩
  have s04:=s03.trans s4
  have lL:=f0w (T:=tt) ls lg
  have wk:=a6u (mv:=mv) (pt:=pt) rfl D.pw u
  have tk:=CF.tk u un
  have up0:∀y,Tp D0 W0 y->Tp (D0*E0) (W0*E0+W1*D0+D0*E0) y:=fun y h=>h.up E0 (by omega)
  have up1:∀y,Tp E0 W1 y->Tp (D0*E0) (W0*E0+W1*D0+D0*E0) y:=fun y h=>by
   rw[a3d D0 E0]
   exact h.up D0 (by omega)
  have up2:∀y,y=0∨y=1->Tp (D0*E0) (W0*E0+W1*D0+D0*E0) y:=fun y h=>by
   rcases h with rfl | rfl
   ·exact Tp.zero
   ·exact ⟨((D0*E0:Nat):Int),by rw[Rat.one_mul,a0v],by rw[a2m];omega⟩
  obtain ⟨wa,sw1⟩:=CF.join (rows:=a2s (kry mv pt u) mv.length) (due:=c1y mv tt st go) (n':=(kry mv pt u).length+1) (by rw[a3b];exact lL) (fun ys hy y hy'=>by
   obtain ⟨j,_,rfl⟩:=a0t.mp hy
   obtain ⟨zs,hz,rfl⟩:=a0t.mp hy'
   exact up0 _ (b5y (tk zs hz) j)) (fun y hy=>up1 y (CF.tl y hy)) d8 (by rw[a3b];omega)
  obtain ⟨wb,sw2⟩:=CF.join (rows:=kry mv pt u++[c1y mv tt st go]) (due:=List.replicate (kry mv pt u).length 0++[1]) (n':=mv.length+1) (by simp) (fun ys hy y hy'=>by
   rcases a0w.mp hy with hy | hy
   ·exact up0 _ (tk ys hy y hy')
   ·rw[a4p.mp hy] at hy'
    exact up1 _ (CF.tl y hy')) (fun y hy=>by
   rcases a0w.mp hy with hy | hy
   ·exact up2 _ (.inl (a3m.mp hy).2)
   ·exact up2 _ (.inr (a4p.mp hy))) d8 (d1r _ _)
  walk_at "w"
  refine ⟨r3,r4,mv.length,wa,wb,H9,kry mv pt u,c1y mv tt st go,rfl,G3.same s4,R4,lL,by omega,by omega,wk,sw1,sw2,⟨fun t5 x5 R5 ps5 M5 H5 RR5 hn5 g5 n5 s5 R5' M50 M51 tp5=>?_,fun t5 x5 R5 ps5 R6 ps6 M5 H5 RR5 hn5 RR6 hn6 g5 n5 s5 R5' M50 M51 tp5=>?_⟩⟩
  ·have s05:=s04.trans s5
   have x50:=s04.none n5
   have ew:=e4l lL RR5 hn5
   have lw:(b9j R5 ps5 (kry mv pt u).length).length=(kry mv pt u).length:=b6o
   obtain ⟨q,q0,q1,q2⟩:=f7o wk lL (by omega) CF.d0 CF.e0 CF.w0 CF.w1 tk CF.tl RR5 hn5
   generalize b9j R5 ps5 (kry mv pt u).length=ws at ew lw q2 R5' tp5
   have lead:=e3z D ls lg uT lw ew
   have lw2:ws.length=u*pt.length:=by rw[lw,kl]
   walk_at "w"
   rw[decide_eq_false (show ¬(Str.ofString "in"=Str.ofString "out") by decide)]
   walk_at "w"
   refine ⟨x,Z.a_System,dx,_,_,rfl,s05 _ _ gx,T.cl_System,T.na_ins,e4u,?_⟩
   walk_at "w"
   refine ⟨x5,u,pt.length,ws,rfl,R5',lw2,by omega,by omega,by omega,fun r6 H6 n6 s6 G6=>?_⟩
   have s06:=s05.trans s6
   walk_at "w"
   rw[show ((tt:Int) - (u:Int))=((tt - u:Nat):Int) by omega]
   refine ⟨x,tt - u,H0,mv,pt,lk,rfl,by omega,S.same s06,D,fun r7 H7 n7 s7 G7=>?_⟩
   obtain ⟨vs,gv,qv,_⟩:=id (G6.same s7)
   have lv:=qv.length
   have lc:(e4g ws u pt.length).length=u:=by unfold e4g;rw[a0e,a3s]
   unfold d3g
   walk_at "w"
   refine ⟨r6,vs,rfl,SqL.of gv,by omega,fun r8 H8 s8 n8 g8=>?_⟩
   have s67:=s7.trans s8
   obtain ⟨zs,gz,qz,_⟩:=id (G7.same s8)
   have lz:=qz.length
   rw[a0o] at lz
   walk_at "w"
   refine c7i gz g8 (a1j (a2f (by rw[b4t];omega))) fun r9 H9 s9 n9 g9=>?_
   have s09:=(s06.trans s67).trans s9
   have qz0:Paired (a8x K H H8) (List.replicate (tt - u) (List.replicate pt.length 0)) zs:=Paired.imp' (fun _ _ ⟨q,a,b,c⟩=>⟨q,a,s06.none b,c⟩) qz
   have qv0:Paired (a8x K H H8) (e4g ws u pt.length).reverse vs.reverse:=d2f (Paired.imp' (fun _ _ ⟨q,a,b,c⟩=>⟨q,a,s05.none b,a6v.same c s8⟩) qv)
   have G9:a3e K H H9 r9 (f0l ws tt u pt.length):=⟨_,g9,Paired.imp' (fun _ _ z=>a8x.same z s9) (a2t qz0 qv0),c4p ⟨H8,n9,a2t qz0 qv0⟩⟩
   walk_at "w"
   refine a3l fun t10 H10 s10 g10=>?_
   exact k1 t10 r9 _ q H10 g10 ((s06.trans s67).none n9) (s09.trans s10) (G9.same s10) (e6e uT) (f8r lw2) lead q0 q1 (f4w Tp.zero q2)
  ·have s05:=s04.trans s5
   have x50:=s04.none n5
   have lw:(b9j R6 ps6 mv.length).length=mv.length:=b6o
   obtain ⟨pr1,pr2⟩:=e6f wk lL RR6 hn6
   obtain ⟨q,q0,q1,q2⟩:=f0m wk lL (by omega) CF.d0 CF.e0 CF.w0 tk CF.tl RR6 hn6
   walk_at "w"
   rw[decide_eq_true rfl]
   walk_at "w"
   refine a3l fun t10 H10 s10 g10=>?_
   exact k2 t10 x5 _ q H10 g10 x50 (s05.trans s10) (R5'.same s10) lw (e6h D.pw RRu RRT lw pr2) pr1 q0 q1 q2
theorem d1w:a1t ["system","asked","steps","answer"] ["system","asked","steps"] (a0l b6q):=by walk_at "d"
theorem e3m (T:Txt K mg Z):a6g P w K mg base CX0 9 Z.c5s Z.c4y ["system","asked","steps"] (e9l K Z.a_System):=by
 have e8u:=e6z (P:=P) (w:=w) (base:=base) T
 have a7i:=b2b (P:=P) (w:=w) (base:=base) T
 have a7h:=b2k (P:=P) (w:=w) (base:=base) T
 refine T.d0q.ok d1w (fun vs H Q E h=>?_) (fun cdv A outer s H vs Q E hr h=>?_)
 ·obtain ⟨x,g,tt,H0,mv,pt,lk,go,rfl,hT,S,SM,Rg,AK,k1,k2⟩:=h
  rfl
 ·obtain ⟨x,g,tt,H0,mv,pt,lk,go,rfl,hT,S,SM,Rg,AK,k1,k2⟩:=h
  refine ⟨_,(a0k (a1z (i:=3) d1w.nd rfl (Or.inl rfl) (a0p e8u (hr.mono (by decide)) rfl T.d9l T.e2l.kp T.e8m .nil a1o (a0b (d3y (pv 0) T.cl_System T.a8p a7i (hr.mono (by decide)) T.a9z .nil a1o) (a0b (a0p a7h (hr.mono (by decide)) rfl T.a9r T.a9k.kp T.b1z .nil a1o (a0b (a8m (pv 0) rfl) a0g)) (a0b (pv 1) (a0b (pv 2) a0g))))))
   (a0k (a5u (a2b b1u (a2w a4a (pv 3) a0m (by intro _ _;rfl)) b4g (a2o _)) (a0q (a1x (a5e (a0b b4g (a0b (a2w a4a (pv 3) a0m (by intro _ _;rfl)) a0g))))) a3c)
   (a0q (a1x (a5e (a0b b4g (a0b (d2d K rfl T.list rfl T.reversed (a0b (a2w a4a (pv 3) a0m (by intro _ _;rfl)) a0g)) a0g))))))),?_⟩
  refine a1h (σ:=[some (.ref x),some (.ref g),some (.int tt),none]) rfl ?_
  have D:=SM.D
  have d8:=D.n8
  have et:(a2s mv mv.length).length=mv.length:=a3b
  obtain ⟨dx,a',b',c',gx,_⟩:=id S
  walk_at "w"
  refine ⟨x,dx,_,rfl,gx,c6f,?_⟩
  walk_at "w"
  refine ⟨x,H0,mv,pt,lk,rfl,S,D,SM.sfc.sf,fun y H1 ny s1 S1=>?_⟩
  walk_at "w"
  refine ⟨x,Z.a_System,dx,_,_,rfl,s1 _ _ gx,T.cl_System,T.na_states,b0k,?_⟩
  walk_at "w"
  refine ⟨mv.length,rfl,by omega,fun z H2 nz s2 Rz=>?_⟩
  have s02:=s1.trans s2
  have cf:=cf0 (T:=tt) D.turn
  have CF:=SM.turn.cof AK
  rw[← et] at Rz
  walk_at "w"
  refine ⟨y,z,g,tt,12,16,2520^5,2^140,2520^5,2^160,H,a2s mv mv.length,lk,pt,_,go,rfl,hT,S1.same s2,D.turn,SM.turn.sfc,SM.turn.kfit,Rz,by rw[a0o],Rg.same s02,AK.lg,cf,AK.szn,CF,⟨fun t3 p3 pus q3 H3 g3 n3 s3 G3 l3 w3 st3 _ _ _=>?_,fun t3 p3 pr q3 H3 g3 n3 s3 R3 l3 w3 d3 _ _ _=>?_⟩⟩
  ·have s03:=s02.trans s3
   obtain ⟨vs,gv,qv,_⟩:=id G3
   have lv:=qv.length
   walk_at "w"
   rw[decide_eq_false (show ¬(Str.ofString "puts"=Str.ofString "never") by decide)]
   unfold d3g
   walk_at "w"
   refine ⟨p3,vs,rfl,SqL.of gv,by omega,fun r4 H4 s4 n4 g4=>?_⟩
   walk_at "w"
   refine a3l fun t5 H5 s5 g5=>?_
   rw[et] at st3
   exact k1 t5 _ pus H5 g5 ((s03.trans s4).trans s5) l3 w3 st3
  ·have s03:=s02.trans s3
   walk_at "w"
   rw[decide_eq_true rfl]
   walk_at "w"
   refine a3l fun t5 H5 s5 g5=>?_
   rw[et] at l3 d3
   exact k2 t5 _ pr H5 g5 (s03.trans s5) l3 w3 d3
theorem g0j:∃x1 x2 x3 x4 x5 x6:Expr,x1=(Expr.Constant (Const.int 7) 0 ⟨383,43,383,44⟩)∧x2=(Expr.Constant (Const.int 7) 0 ⟨383,46,383,47⟩)∧x3=(Expr.Constant (Const.int 7) 0 ⟨383,49,383,50⟩)∧x4=(Expr.Constant (Const.int 7) 0 ⟨383,52,383,53⟩)∧x5=(Expr.Constant (Const.int 5) 0 ⟨383,55,383,56⟩)∧x6=(Expr.Constant (Const.int 6) 0 ⟨383,58,383,59⟩)∧a1l d9a=[ (Stmt.Assign (targets:=[(Expr.Name "_law_bag_here" ⟨377,4,377,17⟩)]) (value:=(Expr.Call (func:=(Expr.Name "_law_bag" ⟨377,20,377,28⟩)) (args:=[(Expr.Name "_law_script" ⟨377,29,377,40⟩)]) (keywords:=[]) (pos:=⟨377,20,377,41⟩))) (pos:=⟨377,4,377,41⟩)),(Stmt.Assign (targets:=[ (Expr.Tuple (elts:=[ (Expr.Name "_law_n" ⟨378,4,378,10⟩),(Expr.Name "_law_ins" ⟨378,12,378,20⟩),(Expr.Name "_law_outs" ⟨378,22,378,31⟩),(Expr.Name "_law_wide" ⟨378,33,378,42⟩)]) (k:=0) (pos:=⟨378,4,378,42⟩))]) (value:=(Expr.Call (func:=(Expr.Name "_law_sizes" ⟨378,45,378,55⟩)) (args:=[(Expr.Name "_law_bag_here" ⟨378,56,378,69⟩)]) (keywords:=[]) (pos:=⟨378,45,378,70⟩))) (pos:=⟨378,4,378,70⟩)),(Stmt.Assign (targets:=[(Expr.Name "_law_wide" ⟨379,4,379,13⟩)]) (value:=(Expr.Call (func:=(Expr.Name "min" ⟨379,16,379,19⟩)) (args:=[ (Expr.Name "_law_wide" ⟨379,20,379,29⟩),(Expr.Constant (Const.int 4) 0 ⟨379,31,379,32⟩)]) (keywords:=[]) (pos:=⟨379,16,379,33⟩))) (pos:=⟨379,4,379,33⟩)),(Stmt.Assign (targets:=[(Expr.Name "_law_parts_here" ⟨380,4,380,19⟩)]) (value:=(Expr.Call (func:=(Expr.Name "_law_parts" ⟨380,22,380,32⟩)) (args:=[ (Expr.Name "_law_bag_here" ⟨380,33,380,46⟩),(Expr.Name "_law_n" ⟨380,48,380,54⟩),(Expr.Name "_law_ins" ⟨380,56,380,64⟩),(Expr.Name "_law_outs" ⟨380,66,380,75⟩),(Expr.Name "_law_wide" ⟨380,77,380,86⟩)]) (keywords:=[]) (pos:=⟨380,22,380,87⟩))) (pos:=⟨380,4,380,87⟩)),(Stmt.Assign (targets:=[(Expr.Name "_law_system_here" ⟨381,4,381,20⟩)]) (value:=(Expr.Call (func:=(Expr.Name "_law_system" ⟨381,23,381,34⟩)) (args:=[(Expr.Name "_law_parts_here" ⟨381,35,381,50⟩)]) (keywords:=[]) (pos:=⟨381,23,381,51⟩))) (pos:=⟨381,4,381,51⟩)),(Stmt.Assign (targets:=[(Expr.Name "_law_other" ⟨382,4,382,14⟩)]) (value:=(Expr.Call (func:=(Expr.Attribute (Expr.Name "_law_system_here" ⟨382,17,382,33⟩) "turned" ⟨382,17,382,40⟩)) (args:=[]) (keywords:=[]) (pos:=⟨382,17,382,42⟩))) (pos:=⟨382,4,382,42⟩)),(Stmt.Assign (targets:=[(Expr.Name "_law_steps" ⟨383,4,383,14⟩)]) (value:=(Expr.Call (func:=(Expr.Name "_law_take" ⟨383,17,383,26⟩)) (args:=[ (Expr.Name "_law_bag_here" ⟨383,27,383,40⟩),(Expr.Subscript (value:=(Expr.List (elts:=[x1,x2,x3,x4,x5,x6]) (pos:=⟨383,42,383,60⟩))) (slice:=(Expr.Name "_law_n" ⟨383,61,383,67⟩)) (pos:=⟨383,42,383,68⟩))]) (keywords:=[]) (pos:=⟨383,17,383,69⟩))) (pos:=⟨383,4,383,69⟩)),(Stmt.If (test:=(Expr.BoolOp (op:=PySem.BoolOp.Or) (values:=[ (Expr.UnaryOp (op:=PySem.UnaryOp.Not) (operand:=(Expr.Call (func:=(Expr.Name "_law_apart" ⟨384,11,384,21⟩)) (args:=[ (Expr.Name "_law_system_here" ⟨384,22,384,38⟩),(Expr.Name "_law_other" ⟨384,40,384,50⟩),(Expr.Name "_law_steps" ⟨384,52,384,62⟩),(Expr.Name "_law_n" ⟨384,64,384,70⟩)]) (keywords:=[]) (pos:=⟨384,11,384,71⟩))) (pos:=⟨384,7,384,71⟩)),(Expr.UnaryOp (op:=PySem.UnaryOp.Not) (operand:=(Expr.Call (func:=(Expr.Name "_law_apart" ⟨384,79,384,89⟩)) (args:=[ (Expr.Name "_law_other" ⟨384,90,384,100⟩),(Expr.Name "_law_system_here" ⟨384,102,384,118⟩),(Expr.Name "_law_steps" ⟨384,120,384,130⟩),(Expr.Name "_law_n" ⟨384,132,384,138⟩)]) (keywords:=[]) (pos:=⟨384,79,384,139⟩))) (pos:=⟨384,75,384,139⟩))]) (pos:=⟨384,7,384,139⟩))) (body:=[ (Stmt.Return (value:=(some (Expr.Constant (Const.bool false) 0 ⟨385,15,385,20⟩))) (pos:=⟨385,8,385,20⟩))]) (orelse:=[]) (pos:=⟨384,4,385,20⟩)),(Stmt.Assign (targets:=[(Expr.Name "_law_rest" ⟨386,4,386,13⟩)]) (value:=(Expr.BinOp (left:=(Expr.List (elts:=[ (Expr.Tuple (elts:=[ (Expr.Constant (Const.int 0) 0 ⟨386,18,386,19⟩),(Expr.Constant (Const.int 1) 0 ⟨386,21,386,22⟩)]) (k:=0) (pos:=⟨386,17,386,23⟩))]) (pos:=⟨386,16,386,24⟩))) (op:=PySem.Operator.Mult) (right:=(Expr.Name "_law_n" ⟨386,27,386,33⟩)) (pos:=⟨386,16,386,33⟩))) (pos:=⟨386,4,386,33⟩)),(Stmt.For (target:=(Expr.Name "_law_turn" ⟨387,8,387,17⟩)) (iter:=(Expr.Call (func:=(Expr.Name "range" ⟨387,21,387,26⟩)) (args:=[(Expr.Constant (Const.int 3) 0 ⟨387,27,387,28⟩)]) (keywords:=[]) (pos:=⟨387,21,387,29⟩))) (body:=[ (Stmt.Assign (targets:=[(Expr.Name "_law_asked" ⟨388,8,388,18⟩)]) (value:=(Expr.Call (func:=(Expr.Name "_law_row" ⟨388,21,388,29⟩)) (args:=[ (Expr.Name "_law_bag_here" ⟨388,30,388,43⟩),(Expr.Name "_law_n" ⟨388,45,388,51⟩),(Expr.Name "_law_wide" ⟨388,53,388,62⟩)]) (keywords:=[]) (pos:=⟨388,21,388,63⟩))) (pos:=⟨388,8,388,63⟩)),(Stmt.If (test:=(Expr.Compare (left:=(Expr.Name "_law_turn" ⟨389,11,389,20⟩)) (ops:=[PySem.CmpOp.Gt]) (comparators:=[(Expr.Constant (Const.int 0) 0 ⟨389,23,389,24⟩)]) (pos:=⟨389,11,389,24⟩))) (body:=[ (Stmt.Assign (targets:=[(Expr.Name "_law_asked" ⟨390,12,390,22⟩)]) (value:=(Expr.Call (func:=(Expr.Name "list" ⟨390,25,390,29⟩)) (args:=[(Expr.Name "_law_rest" ⟨390,30,390,39⟩)]) (keywords:=[]) (pos:=⟨390,25,390,40⟩))) (pos:=⟨390,12,390,40⟩)),(Stmt.For (target:=(Expr.Name "_law_row_here" ⟨391,16,391,29⟩)) (iter:=(Expr.Call (func:=(Expr.Name "_law_look_rows" ⟨391,33,391,47⟩)) (args:=[ (Expr.Name "_law_parts_here" ⟨391,48,391,63⟩),(Expr.Call (func:=(Expr.Name "min" ⟨391,65,391,68⟩)) (args:=[ (Expr.Name "_law_steps" ⟨391,69,391,79⟩),(Expr.Constant (Const.int 3) 0 ⟨391,81,391,82⟩)]) (keywords:=[]) (pos:=⟨391,65,391,83⟩))]) (keywords:=[]) (pos:=⟨391,33,391,84⟩))) (body:=[ (Stmt.Assign (targets:=[(Expr.Name "_law_asked" ⟨392,16,392,26⟩)]) (value:=(Expr.Call (func:=(Expr.Name "_law_plus" ⟨392,29,392,38⟩)) (args:=[ (Expr.Name "_law_asked" ⟨392,39,392,49⟩),(Expr.Call (func:=(Expr.Name "_law_by" ⟨392,51,392,58⟩)) (args:=[ (Expr.Call (func:=(Expr.Name "_law_number" ⟨392,59,392,70⟩)) (args:=[ (Expr.Name "_law_bag_here" ⟨392,71,392,84⟩),(Expr.Constant (Const.int 4) 0 ⟨392,86,392,87⟩)]) (keywords:=[]) (pos:=⟨392,59,392,88⟩)),(Expr.Name "_law_row_here" ⟨392,90,392,103⟩)]) (keywords:=[]) (pos:=⟨392,51,392,104⟩))]) (keywords:=[]) (pos:=⟨392,29,392,105⟩))) (pos:=⟨392,16,392,105⟩))]) (orelse:=[]) (pos:=⟨391,12,392,105⟩))]) (orelse:=[]) (pos:=⟨389,8,392,105⟩)),(Stmt.If (test:=(Expr.BoolOp (op:=PySem.BoolOp.And) (values:=[ (Expr.Compare (left:=(Expr.Name "_law_turn" ⟨393,11,393,20⟩)) (ops:=[PySem.CmpOp.Eq]) (comparators:=[(Expr.Constant (Const.int 2) 0 ⟨393,24,393,25⟩)]) (pos:=⟨393,11,393,25⟩)),(Expr.Compare (left:=(Expr.Name "_law_n" ⟨393,30,393,36⟩)) (ops:=[PySem.CmpOp.Gt]) (comparators:=[(Expr.Constant (Const.int 0) 0 ⟨393,39,393,40⟩)]) (pos:=⟨393,30,393,40⟩))]) (pos:=⟨393,11,393,40⟩))) (body:=[ (Stmt.Assign (targets:=[(Expr.Name "_law_at" ⟨394,12,394,19⟩)]) (value:=(Expr.Call (func:=(Expr.Name "_law_take" ⟨394,22,394,31⟩)) (args:=[(Expr.Name "_law_bag_here" ⟨394,32,394,45⟩),(Expr.Name "_law_n" ⟨394,47,394,53⟩)]) (keywords:=[]) (pos:=⟨394,22,394,54⟩))) (pos:=⟨394,12,394,54⟩)),(Stmt.Assign (targets:=[ (Expr.Subscript (value:=(Expr.Name "_law_asked" ⟨395,12,395,22⟩)) (slice:=(Expr.Name "_law_at" ⟨395,23,395,30⟩)) (pos:=⟨395,12,395,31⟩))]) (value:=(Expr.Call (func:=(Expr.Name "_law_sum" ⟨395,34,395,42⟩)) (args:=[ (Expr.Subscript (value:=(Expr.Name "_law_asked" ⟨395,43,395,53⟩)) (slice:=(Expr.Name "_law_at" ⟨395,54,395,61⟩)) (pos:=⟨395,43,395,62⟩)),(Expr.Tuple (elts:=[ (Expr.Constant (Const.int 1) 0 ⟨395,65,395,66⟩),(Expr.Constant (Const.int 1) 0 ⟨395,68,395,69⟩)]) (k:=0) (pos:=⟨395,64,395,70⟩))]) (keywords:=[]) (pos:=⟨395,34,395,71⟩))) (pos:=⟨395,12,395,71⟩))]) (orelse:=[]) (pos:=⟨393,8,395,71⟩)),(Stmt.Assign (targets:=[(Expr.Name "_law_words" ⟨396,8,396,18⟩)]) (value:=(Expr.Tuple (elts:=[ (Expr.Subscript (value:=(Expr.Call (func:=(Expr.Name "told_by" ⟨396,22,396,29⟩)) (args:=[ (Expr.Name "_law_system_here" ⟨396,30,396,46⟩),(Expr.Name "_law_asked" ⟨396,48,396,58⟩),(Expr.Name "_law_steps" ⟨396,60,396,70⟩)]) (keywords:=[]) (pos:=⟨396,22,396,71⟩))) (slice:=(Expr.Constant (Const.int 0) 0 ⟨396,72,396,73⟩)) (pos:=⟨396,22,396,74⟩)),(Expr.Subscript (value:=(Expr.Call (func:=(Expr.Name "come" ⟨396,76,396,80⟩)) (args:=[ (Expr.Name "_law_other" ⟨396,81,396,91⟩),(Expr.Name "_law_rest" ⟨396,93,396,102⟩),(Expr.Name "_law_asked" ⟨396,104,396,114⟩),(Expr.Name "_law_steps" ⟨396,116,396,126⟩)]) (keywords:=[]) (pos:=⟨396,76,396,127⟩))) (slice:=(Expr.Constant (Const.int 0) 0 ⟨396,128,396,129⟩)) (pos:=⟨396,76,396,130⟩))]) (k:=0) (pos:=⟨396,21,396,131⟩))) (pos:=⟨396,8,396,131⟩)),(Stmt.If (test:=(Expr.BoolOp (op:=PySem.BoolOp.And) (values:=[ (Expr.Compare (left:=(Expr.Name "_law_words" ⟨397,11,397,21⟩)) (ops:=[PySem.CmpOp.NotEq]) (comparators:=[ (Expr.Tuple (elts:=[ (Expr.Constant (Const.str "from") 0 ⟨397,26,397,32⟩),(Expr.Constant (Const.str "puts") 0 ⟨397,34,397,40⟩)]) (k:=0) (pos:=⟨397,25,397,41⟩))]) (pos:=⟨397,11,397,41⟩)),(Expr.Compare (left:=(Expr.Name "_law_words" ⟨397,46,397,56⟩)) (ops:=[PySem.CmpOp.NotEq]) (comparators:=[ (Expr.Tuple (elts:=[ (Expr.Constant (Const.str "alike") 0 ⟨397,61,397,68⟩),(Expr.Constant (Const.str "never") 0 ⟨397,70,397,77⟩)]) (k:=0) (pos:=⟨397,60,397,78⟩))]) (pos:=⟨397,46,397,78⟩))]) (pos:=⟨397,11,397,78⟩))) (body:=[ (Stmt.Return (value:=(some (Expr.Constant (Const.bool false) 0 ⟨398,19,398,24⟩))) (pos:=⟨398,12,398,24⟩))]) (orelse:=[]) (pos:=⟨397,8,398,24⟩))]) (orelse:=[]) (pos:=⟨387,4,398,24⟩)),(Stmt.Return (value:=(some (Expr.Constant (Const.bool true) 0 ⟨399,11,399,15⟩))) (pos:=⟨399,4,399,15⟩))]:=⟨_,_,_,_,_,_,rfl,rfl,rfl,rfl,rfl,rfl,by with_unfolding_all rfl⟩
theorem a9o:a1t ["_law_script","_law_bag_here","_law_n","_law_ins","_law_outs","_law_wide","_law_parts_here","_law_system_here","_law_other","_law_steps","_law_rest","_law_turn","_law_asked","_law_row_here","_law_at","_law_words"] ["_law_script"] (a0l d9a):=by walk_at "d"
theorem f8y (T:Txt K mg Z):a6g P w K mg base CX0 11 Z.f6e Z.f5v ["_law_script"] (sp_law K):=by
 have e4f:=d9h (P:=P) (w:=w) (base:=base) T
 have d8d:=d4f (P:=P) (w:=w) (base:=base) T
 have d8e:=d4g (P:=P) (w:=w) (base:=base) T
 have d5i:=d1k (P:=P) (w:=w) (base:=base) T
 have a7i:=b2b (P:=P) (w:=w) (base:=base) T
 have a2g:=a9g (P:=P) (w:=w) (base:=base) T
 have c7z:=d4i (P:=P) (w:=w) (base:=base) T
 have b4a:=c3e (P:=P) (w:=w) (base:=base) T
 have c8h:=c6p (P:=P) (w:=w) (base:=base) T
 have c3m:=c7l (P:=P) (w:=w) (base:=base) T
 have d0p:=d2k (P:=P) (w:=w) (base:=base) T
 have b8v:=c2i (P:=P) (w:=w) (base:=base) T
 have a9i:=b7m (P:=P) (w:=w) (base:=base) T
 have e8q:=e3m (P:=P) (w:=w) (base:=base) T
 have e8u:=e6z (P:=P) (w:=w) (base:=base) T
 refine T.g0q.ok a9o (fun vs H Q E h=>?_) (fun cdv A outer s H vs Q E hr h=>?_)
 ·obtain ⟨a,ns,rfl,hS,hlen,k⟩:=h
  rfl
 ·obtain ⟨a,ns,rfl,hS,hlen,k⟩:=h
  obtain ⟨x1,x2,x3,x4,x5,x6,hx1,hx2,hx3,hx4,hx5,hx6,hbd⟩:=g0j
  rw[hbd]
  refine ⟨_,(a0k (a1z (i:=1) a9o.nd rfl (Or.inl rfl) (a0p e4f (hr.mono (by decide)) rfl T.c9s T.c7g.kp T.d3a .nil a1o (a0b (pv 0) a0g)))
   (a0k (a8l (a0p d8d (hr.mono (by decide)) rfl T.c4s T.c0o.kp T.c7w .nil a1o (a0b (pv 1) a0g)) (c9j rfl (a3j (a1i (i:=2) a9o.nd rfl (Or.inl rfl) (Or.inl rfl)) (a3j (a1i (i:=3) a9o.nd rfl (Or.inl rfl) (Or.inl rfl)) (a3j (a1i (i:=4) a9o.nd rfl (Or.inl rfl) (Or.inl rfl)) (a3j (a1i (i:=5) a9o.nd rfl (Or.inl rfl) (Or.inl rfl)) b0u))))))
   (a0k (a1z (i:=5) a9o.nd rfl (Or.inl rfl) (a2k (c0b rfl) (by rfl) T.min PyProof.Rows.boot_min (a0b (pv 5) (a0b a0m a0g))))
   (a0k (a1z (i:=6) a9o.nd rfl (Or.inl rfl) (a0p d8e (hr.mono (by decide)) rfl T.c4t T.c0p.kp T.c7x .nil a1o (a0b (pv 1) (a0b (pv 2) (a0b (pv 3) (a0b (pv 4) (a0b (pv 5) a0g)))))))
   (a0k (a1z (i:=7) a9o.nd rfl (Or.inl rfl) (a0p d5i (hr.mono (by decide)) rfl T.c2m T.b9a.kp T.c5p .nil a1o (a0b (pv 6) a0g)))
   (a0k (a1z (i:=8) a9o.nd rfl (Or.inl rfl) (d3y (pv 7) T.cl_System T.a8p a7i (hr.mono (by decide)) T.a9z .nil a1o))
   (a0k (a1z (i:=9) a9o.nd rfl (Or.inl rfl) (a0p a2g (hr.mono (by decide)) rfl T.a2h T.a2l.kp T.a2p .nil a1o (a0b (pv 1) (a0b (a2w a3a (a9q (a4f hx1 a0m (a4f hx2 a0m (a4f hx3 a0m (a4f hx4 a0m (a4f hx5 a0m (a4f hx6 a0m a0g))))))) (pv 2) (by intro _ _;rfl)) a0g))))
   (a0k (a5u (PW.pt (c6k (b4w (b4f (a0p c7z (hr.mono (by decide)) rfl T.b7r T.b5x.kp T.c0h .nil a1o (a0b (pv 7) (a0b (pv 8) (a0b (pv 9) (a0b (pv 2) a0g))))))) (b7a (b4w (b4f (a0p c7z (hr.mono (by decide)) rfl T.b7r T.b5x.kp T.c0h .nil a1o (a0b (pv 8) (a0b (pv 7) (a0b (pv 9) (a0b (pv 2) a0g)))))))))) (a0q (a1x c8d)) a3c)
   (a0k (a1z (i:=10) a9o.nd rfl (Or.inl rfl) (a3i f8v (a9q (a0b (a5e (a0b a0m (a0b a0m a0g))) a0g)) (pv 2)))
   (a0k (a6t PassesOwn.never rfl (a3u rfl T.range (a0b a0m a0g)) (a1i (i:=11) a9o.nd rfl (Or.inl rfl) (Or.inl rfl))
    (a0k (a1z (i:=12) a9o.nd rfl (Or.inl rfl) (a0p b4a (hr.mono (by decide)) rfl T.b4h T.b4b.kp T.b7g .nil a1o (a0b (pv 1) (a0b (pv 2) (a0b (pv 5) a0g)))))
   (a8k (a5u (a2b d4c (pv 11) a0m (a2o _)) (a0k (a1z (i:=12) a9o.nd rfl (Or.inl rfl) (b1t (b2x K (by rfl)) (by rfl) T.list PyProof.Rows.boot_list (a0b (pv 10) a0g)))
   (a0q (a6t PassesOwn.never rfl (a4c (a0p c8h (hr.mono (by decide)) rfl T.b7c T.b2d.kp T.b9g .nil a1o (a0b (pv 6) (a0b (a2k (c0b rfl) (by rfl) T.min PyProof.Rows.boot_min (a0b (pv 9) (a0b a0m a0g))) a0g)))) (a1i (i:=13) a9o.nd rfl (Or.inl rfl) (Or.inl rfl))
    (a0q (a1z (i:=12) a9o.nd rfl (Or.inl rfl) (a0p c3m (hr.mono (by decide)) rfl T.b9w T.b9b.kp T.c3k .nil a1o (a0b (pv 12) (a0b (a0p d0p (hr.mono (by decide)) rfl T.c6t T.c6d.kp T.d0h .nil a1o (a0b (a0p b8v (hr.mono (by decide)) rfl T.b6f T.b3n.kp T.b8g .nil a1o (a0b (pv 1) (a0b a0m a0g))) (a0b (pv 13) a0g))) a0g)))))))) a3c)
   (a8k (a5u (PW.pt (b4v (a2b b1u (pv 11) a0m (a2o _)) (b6b (a2b d4c (pv 2) a0m (a2o _))))) (a0k (a1z (i:=14) a9o.nd rfl (Or.inl rfl) (a0p a2g (hr.mono (by decide)) rfl T.a2h T.a2l.kp T.a2p .nil a1o (a0b (pv 1) (a0b (pv 2) a0g))))
   (a0q (a8l (a0p a9i (hr.mono (by decide)) rfl T.b0w T.b1c.kp T.b3y .nil a1o (a0b (a2w a3a (pv 12) (pv 14) (by intro _ _;rfl)) (a0b (a5e (a0b a0m (a0b a0m a0g))) a0g))) (b0j (pv 12) (pv 14) set_list)))) a3c)
   (a0k (a1z (i:=15) a9o.nd rfl (Or.inl rfl) (a5e (a0b (a2w a4a (a0p e8q (hr.mono (by decide)) rfl T.d2m T.d0q.kp T.d7v .nil a1o (a0b (pv 7) (a0b (pv 12) (a0b (pv 9) a0g)))) a0m (by intro _ _;rfl)) (a0b (a2w a4a (a0p e8u (hr.mono (by decide)) rfl T.d9l T.e2l.kp T.e8m .nil a1o (a0b (pv 8) (a0b (pv 10) (a0b (pv 12) (a0b (pv 9) a0g))))) a0m (by intro _ _;rfl)) a0g))))
   (a0q (a5u (PW.pt (b4v (a2b (e1a (f9v hr)) (pv 15) (a5e (a0b b4g (a0b b4g a0g))) (a2o _)) (b6b (a2b (e1a (f9v hr)) (pv 15) (a5e (a0b b4g (a0b b4g a0g))) (a2o _))))) (a0q (a1x c8d)) a3c)))))))
   (a0q (a1x c8d)))))))))))),?_⟩
  refine a1h (σ:=[some (.ref a),none,none,none,none,none,none,none,none,none,none,none,none,none,none,none]) rfl ?_
  walk_at "w"
  refine ⟨a,ns,rfl,hS,hlen,fun b H0 hb0 B0 s0=>?_⟩
  walk_at "w"
  refine ⟨b,rfl,B0,fun t0 n i o w H1 g1 n5 i4 o4 hw h5 B1 u1=>?_⟩
  walk_at "w"
  have hmin:(if (4:Int) < (w:Int) then (4:Int) else (w:Int))=((4:Nat):Int):=by split <;> omega
  rw[hmin]
  have m1:(n+i+o)*n<=13*5:=a2a (by omega) n5
  walk_at "w"
  refine ⟨b,n,i,o,4,4,rfl,B1,by omega,i4,o4,by decide,by decide,by decide,by decide,by omega,fun r mv pt lk H2 PQ lm lp ll D PF B2 u2=>?_⟩
  subst lm
  obtain ⟨M,V1,M0,fm,fp,fl,hcs⟩:=PF
  obtain ⟨rfl,rfl⟩:M=2520∧V1=9^3*9:=by
   rcases hcs with ⟨_,z1,z2⟩ | ⟨z,_⟩
   ·exact ⟨z1,z2⟩
   ·exact absurd z (by decide)
  have SM:Sml mv pt lk:=⟨D,n5,fm,fp,fl⟩
  have et:(a2s mv mv.length).length=mv.length:=a3b
  have ett:a2s (a2s mv mv.length) (a2s mv mv.length).length=mv:=by rw[et];exact d5x D.mw
  have u02:=u1.trans u2
  walk_at "w"
  refine ⟨r,H1,mv,pt,lk,rfl,PQ,D,SM.sfc.sf,fun x H3 nx s3 S3=>?_⟩
  obtain ⟨dx,_,_,_,gx,_⟩:=id S3
  walk_at "w"
  refine ⟨x,dx,_,rfl,gx,c6f,?_⟩
  walk_at "w"
  refine ⟨x,H2,mv,pt,lk,rfl,S3,D,SM.sfc.sf,fun y H4 ny s4 S4=>?_⟩
  have s24:=s3.trans s4
  have B4:=B2.same s24
  walk_at "w"
  refine a6r fun l5 H5 s5 n5' g5=>?_
  walk_at "w"
  obtain ⟨v5,ex,mx,_⟩:=c1m (xs:=[V.int 7,V.int 7,V.int 7,V.int 7,V.int 5,V.int 6]) (i:=(mv.length:Int)) (by omega) (by simp;omega)
  obtain ⟨kk,rfl,kk1,kk2⟩:∃kk:Nat,v5=.int kk∧1<=kk∧kk<=7:=by
   simp only[a0u,a1k,or_false] at mx
   rcases mx with rfl | rfl | rfl | rfl | rfl | rfl
   ·exact ⟨7,rfl,by decide,by decide⟩
   ·exact ⟨7,rfl,by decide,by decide⟩
   ·exact ⟨7,rfl,by decide,by decide⟩
   ·exact ⟨7,rfl,by decide,by decide⟩
   ·exact ⟨5,rfl,by decide,by decide⟩
   ·exact ⟨6,rfl,by decide,by decide⟩
  refine a4b (SqL.of g5) ex ?_
  have B5:=B4.same s5
  walk_at "w"
  refine ⟨b,kk,rfl,B5,by omega,by omega,fun v H6 v0 v1 B6 u6=>?_⟩
  obtain ⟨v,rfl⟩:=a9m v0
  have nb2:H2 b≠none:=B2.at
  have nb3:H3 b≠none:=(B2.same s3).at
  have Sx:=((S3.same s4).same s5).upto u6 B5 nb2
  have Sy:=(S4.same s5).upto u6 B5 nb3
  have P6:=((PQ.same s24).same s5).upto u6 B5 B1.at
  walk_at "w"
  refine ⟨x,y,v,H2,H3,mv,pt,lk,rfl,by omega,Sx,Sy,SM,fun H7 s7=>?_⟩
  walk_at "w"
  refine ⟨y,x,v,H3,H2,a2s mv mv.length,lk,pt,by rw[et],by omega,Sy.same s7,by rw[ett];exact Sx.same s7,SM.turn,fun H8 s8=>?_⟩
  have s68:=s7.trans s8
  walk_at "w"
  refine a3l fun t9 H9 s9 g9=>?_
  walk_at "w"
  refine a6r fun l9 H10 s10 n10 g10=>?_
  walk_at "w"
  refine f7z (k:=mv.length) g10 (by omega) fun rs H11 s11 n11 g11=>?_
  have s611:=((s68.trans s9).trans s10).trans s11
  have B11:=B6.same s611
  have Sx:=Sx.same s611
  have Sy:=Sy.same s611
  have P11:=P6.same s611
  have Rr:a6v K H11 rs (List.replicate mv.length 0):=⟨_,g11,d2g (a5w.mk (q:=0) ((s10.trans s11) _ _ g9) rfl) _⟩
  have rb:rs≠b:=fun z=>by
   have:=(((B6.same s68).same s9).same s10).at
   exact this (by rw[← z];exact n11)
  walk_at "w"
  refine ⟨by decide,by decide,?_⟩
  refine a7z (n:=3) (fun t σ' H'=>Bag H' b∧a7g b H11 H'∧∃x1 x2 x3 x4 x5,σ'=[some (.ref a),some (.ref b),some (.int mv.length),some (.int i),some (.int o),some (.int 4),some (.ref r),some (.ref x),some (.ref y),some (.int v),some (.ref rs),x1,x2,x3,x4,x5]) ⟨B11,(a1w.refl _).upto,_,_,_,_,_,rfl⟩ ?_ ?_
  ·rintro t σ' H' ht ⟨B',u',x1,x2,x3,x4,x5,rfl⟩
   have Sx':=Sx.upto u' B11 nb2
   have Sy':=Sy.upto u' B11 nb3
   have P':=P11.upto u' B11 B1.at
   have Rr':=Rr.upto u' B11 rb
   walk_at "w"
   refine ⟨b,mv.length,4,rfl,B',by omega,by decide,by decide,fun q1 as1 H12 nq1 R1 l1 d1 B12 u12=>?_⟩
   have A1:AsR K H12 q1 mv.length 1 as1:=f6d R1 l1 (fun x hx=>d1 x hx)
   have q1b:q1≠b:=fun z=>B'.at (by rw[← z];exact nq1)
   walk_at "w"
   refine ⟨fun σ2 H2'=>Bag H2' b∧a7g b H' H2'∧∃q as kq x3 x4 x5,σ2=[some (.ref a),some (.ref b),some (.int mv.length),some (.int i),some (.int o),some (.int 4),some (.ref r),some (.ref x),some (.ref y),some (.int v),some (.ref rs),some (.int t),some (.ref q),x3,x4,x5]∧q≠b∧H' q=none∧kq<=50∧AsR K H2' q mv.length kq as,?_,?_⟩
   ·walk_at "w"
    refine c3j (fun h=>?_) (fun h=>?_)
    ·obtain ⟨zs,gz,qz⟩:=Rr'.upto u12 B' rb
     have P12:=P'.upto u12 B' B1.at
     walk_at "w"
     refine ⟨rs,zs,rfl,.inl (SqL.of gz),fun q2 hq2=>?_⟩
     have sn:=a1w.new (o:=.lst zs) hq2
     have A2:AsR K (upd H12 q2 (.lst zs)) q2 mv.length 0 (List.replicate mv.length 0):=⟨⟨zs,a0y,Paired.imp' (fun _ _ z=>z.same sn) qz⟩,a0o,fun x hx=>by rw[(a3m.mp hx).2];exact Fr.zero⟩
     have q2b:q2≠b:=fun z=>B12.at (by rw[← z];exact hq2)
     have nq2:H' q2=none:=u12.none B12 hq2
     generalize upd H12 q2 (.lst zs)=H13 at sn A2 ⊢
     have B13:=B12.same sn
     have hm3:(if (3:Int) < (v:Int) then (3:Int) else (v:Int))=((min v 3:Nat):Int):=by split <;> omega
     walk_at "w"
     rw[hm3]
     refine ⟨r,min v 3,H1,mv,pt,lk,rfl,by omega,P12.same sn,SM,fun lq H14 nlq s14 GL=>?_⟩
     have lf:=f5k SM (T:=min v 3) (by omega)
     obtain ⟨ul,gul,pul,_⟩:=id GL
     have lul:=pul.length
     rw[c6u] at lul
     have lb:min v 3*lk.length<=3*4:=a2a (by omega) D.o4
     have B14:=B13.same s14
     have lqb:lq≠b:=fun z=>B13.at (by rw[← z];exact nlq)
     have u14:a7g b H' H14:=(u12.same sn).same s14
     walk_at "w"
     refine ⟨⟨_,SqL.of gul⟩,?_⟩
     refine b1j (K:=K) (a:=lq) (xs:=ul) (fun j σ2 H2'=>Bag H2' b∧a7g b H14 H2'∧∃q as x3 x4 x5,σ2=[some (.ref a),some (.ref b),some (.int mv.length),some (.int i),some (.int o),some (.int 4),some (.ref r),some (.ref x),some (.ref y),some (.int v),some (.ref rs),some (.int t),some (.ref q),x3,x4,x5]∧q≠b∧H' q=none∧AsR K H2' q mv.length j as) ⟨B14,(a1w.refl _).upto,q2,_,_,_,_,rfl,q2b,nq2,A2.same s14⟩ (fun j σ2 H2' _ ⟨_,u,_⟩=>SqL.of (u.other lqb gul)) ?_ ?_
     ·rintro j vv σ2 Ha hv ⟨Ba,ua,q,as,x3,x4,x5,rfl,qb,nq,A⟩
      have hj:j < ul.length:=(a0s.mp hv).1
      obtain ⟨ys,ey,uq,rfl,nuq,Ruq⟩:=a2z pul hv
      obtain ⟨ly,fy,sy⟩:=lf ys (a0j ey)
      have uqb:uq≠b:=fun z=>B13.at (by rw[← z];exact nuq)
      walk_at "w"
      refine ⟨b,4,rfl,Ba,by decide,by decide,fun c1 cx Hb dc Nc Bb ub=>?_⟩
      have A3:AsR K Hb q mv.length j as:=⟨A.row.upto ub Ba qb,A.len,A.fr⟩
      have szc:SzN cx:=c2a (Tp.of (d7j (M:=2520) ⟨a0d dc.1 (by decide),a0d dc.2 (by decide)⟩ (d5s _)) (a0h _)) (by decide) (a0d (show 2520<=2^12 by decide) (a0f (by decide) (by decide))) (a0d (show 9*2520<=2^20 by decide) (a0f (by decide) (by decide)))
      walk_at "w"
      refine ⟨_,uq,cx,ys,rfl,Nc,szc,a6v.upto (a6v.upto Ruq ua B14 uqb) ub Ba uqb,by omega,sy,fun r1 Hc nr1 sc Rc=>?_⟩
      have Bc:=Bb.same sc
      have mulsz:∀y∈ys.map (fun y=>cx*y),SzN y:=fun y hy=>by
       obtain ⟨y',hy',rfl⟩:=a0t.mp hy
       have f:=(d7j (M:=2520) (q:=cx) ⟨a0d dc.1 (by decide),a0d dc.2 (by decide)⟩ (d5s _)).mul (fy y' hy')
       exact c2a (Tp.of f (a0h _)) (by decide) (a0d (show 2520*2520^4<=2^60 by decide) (a0f (by decide) (by decide))) (a0d (show 9*2^64*(2520*2520^4)<=2^150 by decide) (a0f (by decide) (by decide)))
      walk_at "w"
      refine ⟨q,r1,as,_,rfl,(A3.same sc).row,Rc,by rw[a0e,ly,A.len],by rw[A.len];omega,A.szn (by omega),mulsz,fun q3 Hd nq3 sd Rd=>?_⟩
      have A4:=g0l A3 dc ly fy Rd
      have nb4:q3≠b:=fun z=>Bc.at (by rw[← z];exact nq3)
      have ud:a7g b H14 Hd:=((ua.trans ub).same sc).same sd
      exact ⟨Bc.same sd,ud,q3,_,_,_,_,rfl,nb4,(u14.trans ((ua.trans ub).same sc)).none Bc nq3,A4⟩
     ·rintro σ2 Ha ⟨Ba,ua,q,as,x3,x4,x5,rfl,qb,nq,A⟩
      exact ⟨Ba,u14.trans ua,q,as,ul.length,_,_,_,rfl,qb,nq,by omega,A⟩
    ·exact ⟨B12,u12,q1,as1,1,_,_,_,rfl,q1b,nq1,by decide,A1⟩
   rintro σ2 H13 ⟨B13,u13,q,as,kq,x3,x4,x5,rfl,qb,nq,hk,A⟩
   clear A1 R1 d1 q1b nq1 B12 u12 l1
   walk_at "w"
   refine ⟨fun σ2 H2'=>Bag H2' b∧a7g b H' H2'∧∃q as kq x3 x4 x5,σ2=[some (.ref a),some (.ref b),some (.int mv.length),some (.int i),some (.int o),some (.int 4),some (.ref r),some (.ref x),some (.ref y),some (.int v),some (.ref rs),some (.int t),some (.ref q),x3,x4,x5]∧q≠b∧H' q=none∧kq<=51∧AsR K H2' q mv.length kq as,?_,?_⟩
   ·walk_at "w"
    refine c3j (fun h=>?_) (fun h=>?_)
    ·walk_at "w"
     refine c3j (fun h2=>?_) (fun h2=>?_)
     ·have np:0 < mv.length:=by have:=of_decide_eq_true h2;omega
      walk_at "w"
      refine ⟨b,mv.length,rfl,B13,by omega,by omega,fun at' H14 a0 a1 B14 u14=>?_⟩
      obtain ⟨at',rfl⟩:=a9m a0
      have A3:AsR K H14 q mv.length kq as:=⟨A.row.upto u14 B13 qb,A.len,A.fr⟩
      obtain ⟨zs,gz,qz⟩:=id A3.row
      have lz:=qz.length
      rw[A3.len] at lz
      obtain ⟨vx,ex,nx⟩:=ixQ qz (j:=at') (by rw[A3.len];omega)
      have mx:as.getD at' 0∈as:=getD_in (by rw[A3.len];omega)
      walk_at "w"
      refine a4b (SqL.of gz) ex ?_
      walk_at "w"
      refine a3l fun t15 H15 s15 g15=>?_
      walk_at "w"
      refine ⟨_,_,as.getD at' 0,1,rfl,nx.same s15,a5w.mk (q:=1) g15 rfl,A.szn (by omega) _ mx,f3h,fun r16 H16 s16 N16=>?_⟩
      have s146:=s15.trans s16
      have gz6:=s146 _ _ gz
      have B16:=B14.same s146
      obtain ⟨q0,I0,xq0,gq0⟩:=B'.inner
      have qq0:q≠q0:=fun z=>by rw[← z,nq] at gq0;cases gq0
      have u16:a7g b H' H16:=(u13.trans u14).same s146
      have I16:=u16.2 _ I0
      walk_at "w"
      refine a6q gz6 (a7f (by omega)) rfl ?_
      refine ⟨B16.upd I16 qb qq0,u16.after nq,q,as.set at' (as.getD at' 0+1),kq+1,_,_,_,rfl,qb,nq,by omega,⟨_,a0y,c6m (N16.updL gz6) at' (Paired.imp' (fun _ _ z=>(z.same s146).updL gz6) qz)⟩,by rw[a4q];exact A3.len,fun x hx=>?_⟩
      rcases a2y hx with hx | rfl
      ·exact (A.fr x hx).mono (a0n _ (c3t _))
      ·exact ((A.fr _ mx).add (Fr.one (V:=2^80) a2r)).mono (by rw[a4d];exact a0h _)
     ·exact ⟨B13,u13,q,as,kq,_,_,_,rfl,qb,nq,by omega,A⟩
    ·exact ⟨B13,u13,q,as,kq,_,_,_,rfl,qb,nq,by omega,A⟩
   rintro σ2 H14 ⟨B14,u14,q,as,kq,x3,x4,x5,rfl,qb,nq,hk,A⟩
   clear u13
   have cf:=cf0 (T:=v) D.turn
   have lk0:(a2s mv mv.length).length=mv.length:=et
   have A':AsR K H14 q (a2s mv mv.length).length kq as:=by rw[et];exact A
   have AK:Ask (a2s mv mv.length) lk v as:=A'.ask (by omega)
   have u'14:=u'.trans u14
   have Sx4:=Sx.upto u'14 B11 nb2
   have Sy4:=Sy.upto u'14 B11 nb3
   have Rr4:a6v K H14 rs (List.replicate (a2s mv mv.length).length 0):=by rw[et];exact Rr.upto u'14 B11 rb
   have wd:∀{Hq:Hp} {tq:Addr} {z1 z2:Str},Hq tq=some (.tup [.str z1,.str z2])->(f9o g0t).R K Hq (.ref tq) [z1,z2]:=fun g=>⟨_,_,rfl,SqT.of g,.cons rfl (.cons rfl .nil)⟩
   walk_at "w"
   refine ⟨x,q,v,H2,mv,pt,lk,as,rfl,by omega,Sx4,SM,A.row,AK,⟨fun t15 p15 pus H15 g15 s15 l15 w15 st15=>?_,fun t15 p15 pr H15 g15 s15 l15 k15 d15=>?_⟩⟩
   ·walk_at "w"
    refine ⟨y,rs,q,v,12,16,2520^5,2^140,2520^5,2^160,H3,a2s mv mv.length,lk,pt,_,as,rfl,by omega,Sy4.same s15,D.turn,SM.turn.sfc,SM.turn.kfit,Rr4.same s15,by rw[a0o],A.row.same s15,AK.lg,cf,AK.szn,SM.turn.cof AK,⟨fun t16 p16 pus2 q16 H16 g16 n16 s16 G16 l16 w16 st16 _ _ _=>?_,fun t16 p16 pr q16 H16 g16 n16 s16 R16 l16 k16 d16 _ _ _=>?_⟩⟩
    ·walk_at "w"
     refine a3l fun t17 H17 s17 g17=>?_
     walk_at "w"
     refine a3l fun t18 H18 s18 g18=>?_
     walk_at "w"
     refine ⟨_,_,f9o g0t,[Str.ofString "from",Str.ofString "puts"],[Str.ofString "from",Str.ofString "puts"],by decide,wd (s18 _ _ g17),wd g18,?_⟩
     rw[decide_eq_true rfl]
     walk_at "w"
     have sE:=((s15.trans s16).trans s17).trans s18
     exact ⟨B14.same sE,(u'14.same sE),_,_,_,_,_,rfl⟩
    ·exact absurd (e1d D.turn AK.lg l15 w15 (by rw[et];exact st15) l16 k16 d16) id
   ·walk_at "w"
    refine ⟨y,rs,q,v,12,16,2520^5,2^140,2520^5,2^160,H3,a2s mv mv.length,lk,pt,_,as,rfl,by omega,Sy4.same s15,D.turn,SM.turn.sfc,SM.turn.kfit,Rr4.same s15,by rw[a0o],A.row.same s15,AK.lg,cf,AK.szn,SM.turn.cof AK,⟨fun t16 p16 pus2 q16 H16 g16 n16 s16 G16 l16 w16 st16 _ _ _=>?_,fun t16 p16 pr q16 H16 g16 n16 s16 R16 l16 k16 d16 _ _ _=>?_⟩⟩
    ·exact absurd (e1d D.turn AK.lg l16 w16 st16 (by rw[et];exact l15) k15 (by rw[et];exact d15)) id
    ·walk_at "w"
     refine a3l fun t17 H17 s17 g17=>?_
     walk_at "w"
     refine a3l fun t18 H18 s18 g18=>?_
     walk_at "w"
     refine ⟨_,_,f9o g0t,[Str.ofString "alike",Str.ofString "never"],[Str.ofString "from",Str.ofString "puts"],by decide,wd (s18 _ _ g17),wd g18,?_⟩
     rw[decide_eq_false (by decide)]
     walk_at "w"
     refine a3l fun t19 H19 s19 g19=>?_
     walk_at "w"
     refine ⟨_,_,f9o g0t,[Str.ofString "alike",Str.ofString "never"],[Str.ofString "alike",Str.ofString "never"],by decide,wd ((s18.trans s19) _ _ g17),wd g19,?_⟩
     rw[decide_eq_true rfl]
     walk_at "w"
     have sE:=(((s15.trans s16).trans s17).trans s18).trans s19
     exact ⟨B14.same sE,(u'14.same sE),_,_,_,_,_,rfl⟩
  ·rintro σ' H' ⟨B',u',x1,x2,x3,x4,x5,rfl⟩
   walk_at "w"
   exact k _
end
theorem all_mk {l:W.OpenLaw} {w:World} {K:W.Frag} {h:Heap} {mg:Str->Option Value} {fa:Addr}
  {f0 f1 f2 f3 f4 f5 f6 f7 f8 f9 f10 f11 f12 f13 f14 f15 f16 f17 f18 f19 f20 f21 f22 f23 f24 f25 f26 f27 f28 f29 f30 f31 f32 f33 f34 f35 f36 f37 f38 f39 f40 f41 f42 f43 f44 f45 f46 f47 f48 f49 f50 f51 f52 f53 f54 f55 f56 f57 f58 f59 f60 f61 f62 f63 f64 f65 f66:Addr} {od0 od1 od2 od3 od4 od5 od6 od7 od8 od9 od10 od11 od12 od13 od14 od15 od16 od17 od18 od19 od20 od21 od22 od23 od24 od25 od26 od27 od28 od29 od30 od31 od32 od33 od34 od35 od36 od37 od38 od39 od40 od41 od42 od43 od44 od45 od46 od47 od48 od49 od50 od51 od52 od53 od54 od55 od56 od57 od58 od59 od60 od61 od62 od63 od64 od65 od66 an0 an1 an2 an3 an4 an5 an6 an7 an8 an9 an10 an11 an12 an13 an14 an15 an16 an17 an18 an19 an20 an21 an22 an23 an24 an25 an26 an27 an28 an29 an30 an31 an32 an33 an34 an35 an36 an37 an38 an39 an40 an41 an42 an43 an44 an45 an46 an47 an48 an49 an50 an51 an52 an53 an54 an55 an56 an57 an58 an59 an60 an61 an62 an63 an64 an65 an66:Option Addr} {sl0 sl1 sl2 sl3 sl4 sl5 sl6 sl7 sl8 sl9 sl10 sl11 sl12 sl13 sl14 sl15 sl16 sl17 sl18 sl19 sl20 sl21 sl22 sl23 sl24 sl25 sl26 sl27 sl28 sl29 sl30 sl31 sl32 sl33 sl34 sl35 sl36 sl37 sl38 sl39 sl40 sl41 sl42 sl43 sl44 sl45 sl46 sl47 sl48 sl49 sl50 sl51 sl52 sl53 sl54 sl55 sl56 sl57 sl58 sl59 sl60 sl61 sl62 sl63 sl64 sl65 sl66:Array (Option Value)} {oc0 oc1 oc2 oc3 oc4 oc5 oc6 oc7 oc8 oc9 oc10 oc11 oc12 oc13 oc14 oc15 oc16 oc17 oc18 oc19 oc20 oc21 oc22 oc23 oc24 oc25 oc26 oc27 oc28 oc29 oc30 oc31 oc32 oc33 oc34 oc35 oc36 oc37 oc38 oc39 oc40 oc41 oc42 oc43 oc44 oc45 oc46 oc47 oc48 oc49 oc50 oc51 oc52 oc53 oc54 oc55 oc56 oc57 oc58 oc59 oc60 oc61 oc62 oc63 oc64 oc65 oc66 kV0 kV1 kV2 kV3 kV4 kV5 kV6 kV7 kV8 kV9 kV10 kV11 kV12 kV13 kV14 kV15 kV16 kV17 kV18 kV19 kV20 kV21 kV22 kV23 kV24 kV25 kV26 kV27 kV28 kV29 kV30 kV31 kV32 kV33 kV34 kV35 kV36 kV37 kV38 kV39 kV40 kV41 kV42 kV43 kV44 kV45 kV46 kV47 kV48 kV49 kV50 kV51 kV52 kV53 kV54 kV55 kV56 kV57 kV58 kV59 kV60 kV61 kV62 kV63 kV64 kV65 kV66 dc0 dc1 dc2 dc3 dc4 dc5 dc6 dc7 dc8 dc9 dc10 dc11 dc12 dc13 dc14 dc15 dc16 dc17 dc18 dc19 dc20 dc21 dc22 dc23 dc24 dc25 dc26 dc27 dc28 dc29 dc30 dc31 dc32 dc33 dc34 dc35 dc36 dc37 dc38 dc39 dc40 dc41 dc42 dc43 dc44 dc45 dc46 dc47 dc48 dc49 dc50 dc51 dc52 dc53 dc54 dc55 dc56 dc57 dc58 dc59 dc60 dc61 dc62 dc63 dc64 dc65 dc66 pm0 pm1 pm2 pm3 pm4 pm5 pm6 pm7 pm8 pm9 pm10 pm11 pm12 pm13 pm14 pm15 pm16 pm17 pm18 pm19 pm20 pm21 pm22 pm23 pm24 pm25 pm26 pm27 pm28 pm29 pm30 pm31 pm32 pm33 pm34 pm35 pm36 pm37 pm38 pm39 pm40 pm41 pm42 pm43 pm44 pm45 pm46 pm47 pm48 pm49 pm50 pm51 pm52 pm53 pm54 pm55 pm56 pm57 pm58 pm59 pm60 pm61 pm62 pm63 pm64 pm65 pm66 cd0 cd1 cd2 cd3 cd4 cd5 cd6 cd7 cd8 cd9 cd10 cd11 cd12 cd13 cd14 cd15 cd16 cd17 cd18 cd19 cd20 cd21 cd22 cd23 cd24 cd25 cd26 cd27 cd28 cd29 cd30 cd31 cd32 cd33 cd34 cd35 cd36 cd37 cd38 cd39 cd40 cd41 cd42 cd43 cd44 cd45 cd46 cd47 cd48 cd49 cd50 cd51 cd52 cd53 cd54 cd55 cd56 cd57 cd58 cd59 cd60 cd61 cd62 cd63 cd64 cd65 cd66 ct0 ct1 ct2 ct3 ct4 ct5 ct6 ct7 ct8 ct9 ct10 ct11 ct12 ct13 ct14 ct15 ct16 ct17 ct18 ct19 ct20 ct21 ct22 ct23 ct24 ct25 ct26 ct27 ct28 ct29 ct30 ct31 ct32 ct33 ct34 ct35 ct36 ct37 ct38 ct39 ct40 ct41 ct42 ct43 ct44 ct45 ct46 ct47 ct48 ct49 ct50 ct51 ct52 ct53 ct54 ct55 ct56 ct57 ct58 ct59 ct60 ct61 ct62 ct63 ct64 ct65 ct66:Value}
  (X:K.In h) (G:h.Ns mainGlobals mg) (hfa:mg "law"=some (.ref fa))
  {C:Addr} (aC:W.nsIn K mainGlobals "System"=some (some (.ref C)))
  (a0:W.nsIn K mainGlobals "_law_bag"=some (some (.ref f0))) (l0:K.lookup f0=some ⟨oc0,od0,.func (W.fnOf "_law_bag" "_law_bag" (a1s b3u) (a1l b3u) (a0l b3u) .none kV0 dc0 pm0 an0 cd0 ct0),sl0⟩) (c0:W.codeIn K cd0 "_law_bag"=true) (k0:W.keepIn K (.ref f0)=true)
  (a1:W.nsIn K mainGlobals "_law_take"=some (some (.ref f1))) (l1:K.lookup f1=some ⟨oc1,od1,.func (W.fnOf "_law_take" "_law_take" (a1s b0q) (a1l b0q) (a0l b0q) .none kV1 dc1 pm1 an1 cd1 ct1),sl1⟩) (c1:W.codeIn K cd1 "_law_take"=true) (k1:W.keepIn K (.ref f1)=true)
  (a2:W.nsIn K mainGlobals "_law_sizes"=some (some (.ref f2))) (l2:K.lookup f2=some ⟨oc2,od2,.func (W.fnOf "_law_sizes" "_law_sizes" (a1s a7d) (a1l a7d) (a0l a7d) .none kV2 dc2 pm2 an2 cd2 ct2),sl2⟩) (c2:W.codeIn K cd2 "_law_sizes"=true) (k2:W.keepIn K (.ref f2)=true)
  (a3:W.nsIn K mainGlobals "_law_low"=some (some (.ref f3))) (l3:K.lookup f3=some ⟨oc3,od3,.func (W.fnOf "_law_low" "_law_low" (a1s b3s) (a1l b3s) (a0l b3s) .none kV3 dc3 pm3 an3 cd3 ct3),sl3⟩) (c3:W.codeIn K cd3 "_law_low"=true) (k3:W.keepIn K (.ref f3)=true)
  (a4:W.nsIn K mainGlobals "_law_number"=some (some (.ref f4))) (l4:K.lookup f4=some ⟨oc4,od4,.func (W.fnOf "_law_number" "_law_number" (a1s a7v) (a1l a7v) (a0l a7v) .none kV4 dc4 pm4 an4 cd4 ct4),sl4⟩) (c4:W.codeIn K cd4 "_law_number"=true) (k4:W.keepIn K (.ref f4)=true)
  (a5:W.nsIn K mainGlobals "_law_row"=some (some (.ref f5))) (l5:K.lookup f5=some ⟨oc5,od5,.func (W.fnOf "_law_row" "_law_row" (a1s b3r) (a1l b3r) (a0l b3r) .none kV5 dc5 pm5 an5 cd5 ct5),sl5⟩) (c5:W.codeIn K cd5 "_law_row"=true) (k5:W.keepIn K (.ref f5)=true)
  (a6:W.nsIn K mainGlobals "_law_move"=some (some (.ref f6))) (l6:K.lookup f6=some ⟨oc6,od6,.func (W.fnOf "_law_move" "_law_move" (a1s b0t) (a1l b0t) (a0l b0t) .none kV6 dc6 pm6 an6 cd6 ct6),sl6⟩) (c6:W.codeIn K cd6 "_law_move"=true) (k6:W.keepIn K (.ref f6)=true)
  (a7:W.nsIn K mainGlobals "_law_sum"=some (some (.ref f7))) (l7:K.lookup f7=some ⟨oc7,od7,.func (W.fnOf "_law_sum" "_law_sum" (a1s b3q) (a1l b3q) (a0l b3q) .none kV7 dc7 pm7 an7 cd7 ct7),sl7⟩) (c7:W.codeIn K cd7 "_law_sum"=true) (k7:W.keepIn K (.ref f7)=true)
  (a8:W.nsIn K mainGlobals "_law_plus"=some (some (.ref f8))) (l8:K.lookup f8=some ⟨oc8,od8,.func (W.fnOf "_law_plus" "_law_plus" (a1s b0s) (a1l b0s) (a0l b0s) .none kV8 dc8 pm8 an8 cd8 ct8),sl8⟩) (c8:W.codeIn K cd8 "_law_plus"=true) (k8:W.keepIn K (.ref f8)=true)
  (a9:W.nsIn K mainGlobals "_law_prod"=some (some (.ref f9))) (l9:K.lookup f9=some ⟨oc9,od9,.func (W.fnOf "_law_prod" "_law_prod" (a1s b0r) (a1l b0r) (a0l b0r) .none kV9 dc9 pm9 an9 cd9 ct9),sl9⟩) (c9:W.codeIn K cd9 "_law_prod"=true) (k9:W.keepIn K (.ref f9)=true)
  (a10:W.nsIn K mainGlobals "_law_by"=some (some (.ref f10))) (l10:K.lookup f10=some ⟨oc10,od10,.func (W.fnOf "_law_by" "_law_by" (a1s b6y) (a1l b6y) (a0l b6y) .none kV10 dc10 pm10 an10 cd10 ct10),sl10⟩) (c10:W.codeIn K cd10 "_law_by"=true) (k10:W.keepIn K (.ref f10)=true)
  (a11:W.nsIn K mainGlobals "_law_mixed"=some (some (.ref f11))) (l11:K.lookup f11=some ⟨oc11,od11,.func (W.fnOf "_law_mixed" "_law_mixed" (a1s a9e) (a1l a9e) (a0l a9e) .none kV11 dc11 pm11 an11 cd11 ct11),sl11⟩) (c11:W.codeIn K cd11 "_law_mixed"=true) (k11:W.keepIn K (.ref f11)=true)
  (a12:W.nsIn K mainGlobals "_law_parts"=some (some (.ref f12))) (l12:K.lookup f12=some ⟨oc12,od12,.func (W.fnOf "_law_parts" "_law_parts" (a1s a9d) (a1l a9d) (a0l a9d) .none kV12 dc12 pm12 an12 cd12 ct12),sl12⟩) (c12:W.codeIn K cd12 "_law_parts"=true) (k12:W.keepIn K (.ref f12)=true)
  (a13:W.nsIn K mainGlobals "want_list"=some (some (.ref f13))) (l13:K.lookup f13=some ⟨oc13,od13,.func (W.fnOf "want_list" "want_list" (a1s b0l) (a1l b0l) (a0l b0l) .none kV13 dc13 pm13 an13 cd13 ct13),sl13⟩) (c13:W.codeIn K cd13 "want_list"=true) (k13:W.keepIn K (.ref f13)=true)
  (a14:W.nsIn K mainGlobals "is_whole"=some (some (.ref f14))) (l14:K.lookup f14=some ⟨oc14,od14,.func (W.fnOf "is_whole" "is_whole" (a1s b3p) (a1l b3p) (a0l b3p) .none kV14 dc14 pm14 an14 cd14 ct14),sl14⟩) (c14:W.codeIn K cd14 "is_whole"=true) (k14:W.keepIn K (.ref f14)=true)
  (a15:W.nsIn K mainGlobals "common_divisor"=some (some (.ref f15))) (l15:K.lookup f15=some ⟨oc15,od15,.func (W.fnOf "common_divisor" "common_divisor" (a1s a5i) (a1l a5i) (a0l a5i) .none kV15 dc15 pm15 an15 cd15 ct15),sl15⟩) (c15:W.codeIn K cd15 "common_divisor"=true) (k15:W.keepIn K (.ref f15)=true)
  (a16:W.nsIn K mainGlobals "is_number"=some (some (.ref f16))) (l16:K.lookup f16=some ⟨oc16,od16,.func (W.fnOf "is_number" "is_number" (a1s b0o) (a1l b0o) (a0l b0o) .none kV16 dc16 pm16 an16 cd16 ct16),sl16⟩) (c16:W.codeIn K cd16 "is_number"=true) (k16:W.keepIn K (.ref f16)=true)
  (a17:W.nsIn K mainGlobals "is_row"=some (some (.ref f17))) (l17:K.lookup f17=some ⟨oc17,od17,.func (W.fnOf "is_row" "is_row" (a1s c0z) (a1l c0z) (a0l c0z) .none kV17 dc17 pm17 an17 cd17 ct17),sl17⟩) (c17:W.codeIn K cd17 "is_row"=true) (k17:W.keepIn K (.ref f17)=true)
  (a18:W.nsIn K mainGlobals "copied_rows"=some (some (.ref f18))) (l18:K.lookup f18=some ⟨oc18,od18,.func (W.fnOf "copied_rows" "copied_rows" (a1s a7t) (a1l a7t) (a0l a7t) .none kV18 dc18 pm18 an18 cd18 ct18),sl18⟩) (c18:W.codeIn K cd18 "copied_rows"=true) (k18:W.keepIn K (.ref f18)=true)
  (a19:W.findIn K (.ref C) "__init__"=some (some (.ref f19))) (i19:W.isFn K (.ref f19)=true) (l19:K.lookup f19=some ⟨oc19,od19,.func (W.fnOf "__init__" "System.__init__" (a1s a5b) (a1l a5b) (a0l a5b) .none kV19 dc19 pm19 an19 cd19 ct19),sl19⟩) (c19:W.codeIn K cd19 "System.__init__"=true) (k19:W.keepIn K (.ref f19)=true)
  (a20:W.nsIn K mainGlobals "_law_copied"=some (some (.ref f20))) (l20:K.lookup f20=some ⟨oc20,od20,.func (W.fnOf "_law_copied" "_law_copied" (a1s a7x) (a1l a7x) (a0l a7x) .none kV20 dc20 pm20 an20 cd20 ct20),sl20⟩) (c20:W.codeIn K cd20 "_law_copied"=true) (k20:W.keepIn K (.ref f20)=true)
  (a21:W.nsIn K mainGlobals "_law_system"=some (some (.ref f21))) (l21:K.lookup f21=some ⟨oc21,od21,.func (W.fnOf "_law_system" "_law_system" (a1s a7u) (a1l a7u) (a0l a7u) .none kV21 dc21 pm21 an21 cd21 ct21),sl21⟩) (c21:W.codeIn K cd21 "_law_system"=true) (k21:W.keepIn K (.ref f21)=true)
  (a22:W.nsIn K mainGlobals "grid_turned"=some (some (.ref f22))) (l22:K.lookup f22=some ⟨oc22,od22,.func (W.fnOf "grid_turned" "grid_turned" (a1s a7r) (a1l a7r) (a0l a7r) .none kV22 dc22 pm22 an22 cd22 ct22),sl22⟩) (c22:W.codeIn K cd22 "grid_turned"=true) (k22:W.keepIn K (.ref f22)=true)
  (a23:W.findIn K (.ref C) "turned"=some (some (.ref f23))) (i23:W.isFn K (.ref f23)=true) (l23:K.lookup f23=some ⟨oc23,od23,.func (W.fnOf "turned" "System.turned" (a1s a5z) (a1l a5z) (a0l a5z) .none kV23 dc23 pm23 an23 cd23 ct23),sl23⟩) (c23:W.codeIn K cd23 "System.turned"=true) (k23:W.keepIn K (.ref f23)=true)
  (a24:W.nsIn K mainGlobals "tops_over"=some (some (.ref f24))) (l24:K.lookup f24=some ⟨oc24,od24,.func (W.fnOf "tops_over" "tops_over" (a1s b0m) (a1l b0m) (a0l b0m) .none kV24 dc24 pm24 an24 cd24 ct24),sl24⟩) (c24:W.codeIn K cd24 "tops_over"=true) (k24:W.keepIn K (.ref f24)=true)
  (a25:W.nsIn K mainGlobals "common_multiple"=some (some (.ref f25))) (l25:K.lookup f25=some ⟨oc25,od25,.func (W.fnOf "common_multiple" "common_multiple" (a1s a5a) (a1l a5a) (a0l a5a) .none kV25 dc25 pm25 an25 cd25 ct25),sl25⟩) (c25:W.codeIn K cd25 "common_multiple"=true) (k25:W.keepIn K (.ref f25)=true)
  (a26:W.nsIn K mainGlobals "common_bottom"=some (some (.ref f26))) (l26:K.lookup f26=some ⟨oc26,od26,.func (W.fnOf "common_bottom" "common_bottom" (a1s a5y) (a1l a5y) (a0l a5y) .none kV26 dc26 pm26 an26 cd26 ct26),sl26⟩) (c26:W.codeIn K cd26 "common_bottom"=true) (k26:W.keepIn K (.ref f26)=true)
  (a27:W.nsIn K mainGlobals "first_with"=some (some (.ref f27))) (l27:K.lookup f27=some ⟨oc27,od27,.func (W.fnOf "first_with" "first_with" (a1s a9b) (a1l a9b) (a0l a9b) .none kV27 dc27 pm27 an27 cd27 ct27),sl27⟩) (c27:W.codeIn K cd27 "first_with"=true) (k27:W.keepIn K (.ref f27)=true)
  (a28:W.nsIn K mainGlobals "cleared"=some (some (.ref f28))) (l28:K.lookup f28=some ⟨oc28,od28,.func (W.fnOf "cleared" "cleared" (a1s b6x) (a1l b6x) (a0l b6x) .none kV28 dc28 pm28 an28 cd28 ct28),sl28⟩) (c28:W.codeIn K cd28 "cleared"=true) (k28:W.keepIn K (.ref f28)=true)
  (a29:W.nsIn K mainGlobals "brought_up"=some (some (.ref f29))) (l29:K.lookup f29=some ⟨oc29,od29,.func (W.fnOf "brought_up" "brought_up" (a1s a9c) (a1l a9c) (a0l a9c) .none kV29 dc29 pm29 an29 cd29 ct29),sl29⟩) (c29:W.codeIn K cd29 "brought_up"=true) (k29:W.keepIn K (.ref f29)=true)
  (a30:W.nsIn K mainGlobals "swept"=some (some (.ref f30))) (l30:K.lookup f30=some ⟨oc30,od30,.func (W.fnOf "swept" "swept" (a1s c6g) (a1l c6g) (a0l c6g) .none kV30 dc30 pm30 an30 cd30 ct30),sl30⟩) (c30:W.codeIn K cd30 "swept"=true) (k30:W.keepIn K (.ref f30)=true)
  (a31:W.nsIn K mainGlobals "lowest"=some (some (.ref f31))) (l31:K.lookup f31=some ⟨oc31,od31,.func (W.fnOf "lowest" "lowest" (a1s c0y) (a1l c0y) (a0l c0y) .none kV31 dc31 pm31 an31 cd31 ct31),sl31⟩) (c31:W.codeIn K cd31 "lowest"=true) (k31:W.keepIn K (.ref f31)=true)
  (a32:W.nsIn K mainGlobals "reduced"=some (some (.ref f32))) (l32:K.lookup f32=some ⟨oc32,od32,.func (W.fnOf "reduced" "reduced" (a1s b6s) (a1l b6s) (a0l b6s) .none kV32 dc32 pm32 an32 cd32 ct32),sl32⟩) (c32:W.codeIn K cd32 "reduced"=true) (k32:W.keepIn K (.ref f32)=true)
  (a33:W.nsIn K mainGlobals "row_dot"=some (some (.ref f33))) (l33:K.lookup f33=some ⟨oc33,od33,.func (W.fnOf "row_dot" "row_dot" (a1s b6r) (a1l b6r) (a0l b6r) .none kV33 dc33 pm33 an33 cd33 ct33),sl33⟩) (c33:W.codeIn K cd33 "row_dot"=true) (k33:W.keepIn K (.ref f33)=true)
  (a34:W.nsIn K mainGlobals "grid_on"=some (some (.ref f34))) (l34:K.lookup f34=some ⟨oc34,od34,.func (W.fnOf "grid_on" "grid_on" (a1s b6w) (a1l b6w) (a0l b6w) .none kV34 dc34 pm34 an34 cd34 ct34),sl34⟩) (c34:W.codeIn K cd34 "grid_on"=true) (k34:W.keepIn K (.ref f34)=true)
  (a35:W.nsIn K mainGlobals "moved_rows"=some (some (.ref f35))) (l35:K.lookup f35=some ⟨oc35,od35,.func (W.fnOf "moved_rows" "moved_rows" (a1s a9a) (a1l a9a) (a0l a9a) .none kV35 dc35 pm35 an35 cd35 ct35),sl35⟩) (c35:W.codeIn K cd35 "moved_rows"=true) (k35:W.keepIn K (.ref f35)=true)
  (a36:W.nsIn K mainGlobals "reach_grown"=some (some (.ref f36))) (l36:K.lookup f36=some ⟨oc36,od36,.func (W.fnOf "reach_grown" "reach_grown" (a1s a7p) (a1l a7p) (a0l a7p) .none kV36 dc36 pm36 an36 cd36 ct36),sl36⟩) (c36:W.codeIn K cd36 "reach_grown"=true) (k36:W.keepIn K (.ref f36)=true)
  (a37:W.nsIn K mainGlobals "reach_rows"=some (some (.ref f37))) (l37:K.lookup f37=some ⟨oc37,od37,.func (W.fnOf "reach_rows" "reach_rows" (a1s a8y) (a1l a8y) (a0l a8y) .none kV37 dc37 pm37 an37 cd37 ct37),sl37⟩) (c37:W.codeIn K cd37 "reach_rows"=true) (k37:W.keepIn K (.ref f37)=true)
  (a38:W.nsIn K mainGlobals "unit_row"=some (some (.ref f38))) (l38:K.lookup f38=some ⟨oc38,od38,.func (W.fnOf "unit_row" "unit_row" (a1s b3o) (a1l b3o) (a0l b3o) .none kV38 dc38 pm38 an38 cd38 ct38),sl38⟩) (c38:W.codeIn K cd38 "unit_row"=true) (k38:W.keepIn K (.ref f38)=true)
  (a39:W.nsIn K mainGlobals "leading_place"=some (some (.ref f39))) (l39:K.lookup f39=some ⟨oc39,od39,.func (W.fnOf "leading_place" "leading_place" (a1s a5x) (a1l a5x) (a0l a5x) .none kV39 dc39 pm39 an39 cd39 ct39),sl39⟩) (c39:W.codeIn K cd39 "leading_place"=true) (k39:W.keepIn K (.ref f39)=true)
  (a40:W.nsIn K mainGlobals "leading"=some (some (.ref f40))) (l40:K.lookup f40=some ⟨oc40,od40,.func (W.fnOf "leading" "leading" (a1s b6u) (a1l b6u) (a0l b6u) .none kV40 dc40 pm40 an40 cd40 ct40),sl40⟩) (c40:W.codeIn K cd40 "leading"=true) (k40:W.keepIn K (.ref f40)=true)
  (a41:W.nsIn K mainGlobals "minus"=some (some (.ref f41))) (l41:K.lookup f41=some ⟨oc41,od41,.func (W.fnOf "minus" "minus" (a1s c6j) (a1l c6j) (a0l c6j) .none kV41 dc41 pm41 an41 cd41 ct41),sl41⟩) (c41:W.codeIn K cd41 "minus"=true) (k41:W.keepIn K (.ref f41)=true)
  (a42:W.nsIn K mainGlobals "null_at"=some (some (.ref f42))) (l42:K.lookup f42=some ⟨oc42,od42,.func (W.fnOf "null_at" "null_at" (a1s b6t) (a1l b6t) (a0l b6t) .none kV42 dc42 pm42 an42 cd42 ct42),sl42⟩) (c42:W.codeIn K cd42 "null_at"=true) (k42:W.keepIn K (.ref f42)=true)
  (a43:W.nsIn K mainGlobals "free_places"=some (some (.ref f43))) (l43:K.lookup f43=some ⟨oc43,od43,.func (W.fnOf "free_places" "free_places" (a1s a7s) (a1l a7s) (a0l a7s) .none kV43 dc43 pm43 an43 cd43 ct43),sl43⟩) (c43:W.codeIn K cd43 "free_places"=true) (k43:W.keepIn K (.ref f43)=true)
  (a44:W.nsIn K mainGlobals "nulls"=some (some (.ref f44))) (l44:K.lookup f44=some ⟨oc44,od44,.func (W.fnOf "nulls" "nulls" (a1s c6i) (a1l c6i) (a0l c6i) .none kV44 dc44 pm44 an44 cd44 ct44),sl44⟩) (c44:W.codeIn K cd44 "nulls"=true) (k44:W.keepIn K (.ref f44)=true)
  (a45:W.nsIn K mainGlobals "unseen_rows"=some (some (.ref f45))) (l45:K.lookup f45=some ⟨oc45,od45,.func (W.fnOf "unseen_rows" "unseen_rows" (a1s a7o) (a1l a7o) (a0l a7o) .none kV45 dc45 pm45 an45 cd45 ct45),sl45⟩) (c45:W.codeIn K cd45 "unseen_rows"=true) (k45:W.keepIn K (.ref f45)=true)
  (a46:W.nsIn K mainGlobals "_law_is_number"=some (some (.ref f46))) (l46:K.lookup f46=some ⟨oc46,od46,.func (W.fnOf "_law_is_number" "_law_is_number" (a1s a5k) (a1l a5k) (a0l a5k) .none kV46 dc46 pm46 an46 cd46 ct46),sl46⟩) (c46:W.codeIn K cd46 "_law_is_number"=true) (k46:W.keepIn K (.ref f46)=true)
  (a47:W.nsIn K mainGlobals "_law_is_row"=some (some (.ref f47))) (l47:K.lookup f47=some ⟨oc47,od47,.func (W.fnOf "_law_is_row" "_law_is_row" (a1s a7w) (a1l a7w) (a0l a7w) .none kV47 dc47 pm47 an47 cd47 ct47),sl47⟩) (c47:W.codeIn K cd47 "_law_is_row"=true) (k47:W.keepIn K (.ref f47)=true)
  (a48:W.nsIn K mainGlobals "_law_is_grid"=some (some (.ref f48))) (l48:K.lookup f48=some ⟨oc48,od48,.func (W.fnOf "_law_is_grid" "_law_is_grid" (a1s a6n) (a1l a6n) (a0l a6n) .none kV48 dc48 pm48 an48 cd48 ct48),sl48⟩) (c48:W.codeIn K cd48 "_law_is_grid"=true) (k48:W.keepIn K (.ref f48)=true)
  (a49:W.nsIn K mainGlobals "_law_dot"=some (some (.ref f49))) (l49:K.lookup f49=some ⟨oc49,od49,.func (W.fnOf "_law_dot" "_law_dot" (a1s b3t) (a1l b3t) (a0l b3t) .none kV49 dc49 pm49 an49 cd49 ct49),sl49⟩) (c49:W.codeIn K cd49 "_law_dot"=true) (k49:W.keepIn K (.ref f49)=true)
  (a50:W.nsIn K mainGlobals "_law_apart"=some (some (.ref f50))) (l50:K.lookup f50=some ⟨oc50,od50,.func (W.fnOf "_law_apart" "_law_apart" (a1s a9f) (a1l a9f) (a0l a9f) .none kV50 dc50 pm50 an50 cd50 ct50),sl50⟩) (c50:W.codeIn K cd50 "_law_apart"=true) (k50:W.keepIn K (.ref f50)=true)
  (a51:W.nsIn K mainGlobals "_law_look_rows"=some (some (.ref f51))) (l51:K.lookup f51=some ⟨oc51,od51,.func (W.fnOf "_law_look_rows" "_law_look_rows" (a1s a5j) (a1l a5j) (a0l a5j) .none kV51 dc51 pm51 an51 cd51 ct51),sl51⟩) (c51:W.codeIn K cd51 "_law_look_rows"=true) (k51:W.keepIn K (.ref f51)=true)
  (a52:W.nsIn K mainGlobals "flat"=some (some (.ref f52))) (l52:K.lookup f52=some ⟨oc52,od52,.func (W.fnOf "flat" "flat" (a1s d1y) (a1l d1y) (a0l d1y) .none kV52 dc52 pm52 an52 cd52 ct52),sl52⟩) (c52:W.codeIn K cd52 "flat"=true) (k52:W.keepIn K (.ref f52)=true)
  (a53:W.nsIn K mainGlobals "additions"=some (some (.ref f53))) (l53:K.lookup f53=some ⟨oc53,od53,.func (W.fnOf "additions" "additions" (a1s b0p) (a1l b0p) (a0l b0p) .none kV53 dc53 pm53 an53 cd53 ct53),sl53⟩) (c53:W.codeIn K cd53 "additions"=true) (k53:W.keepIn K (.ref f53)=true)
  (a54:W.nsIn K mainGlobals "nought_row"=some (some (.ref f54))) (l54:K.lookup f54=some ⟨oc54,od54,.func (W.fnOf "nought_row" "nought_row" (a1s a8z) (a1l a8z) (a0l a8z) .none kV54 dc54 pm54 an54 cd54 ct54),sl54⟩) (c54:W.codeIn K cd54 "nought_row"=true) (k54:W.keepIn K (.ref f54)=true)
  (a55:W.nsIn K mainGlobals "solved"=some (some (.ref f55))) (l55:K.lookup f55=some ⟨oc55,od55,.func (W.fnOf "solved" "solved" (a1s c0x) (a1l c0x) (a0l c0x) .none kV55 dc55 pm55 an55 cd55 ct55),sl55⟩) (c55:W.codeIn K cd55 "solved"=true) (k55:W.keepIn K (.ref f55)=true)
  (a56:W.nsIn K mainGlobals "solve"=some (some (.ref f56))) (l56:K.lookup f56=some ⟨oc56,od56,.func (W.fnOf "solve" "solve" (a1s c6h) (a1l c6h) (a0l c6h) .none kV56 dc56 pm56 an56 cd56 ct56),sl56⟩) (c56:W.codeIn K cd56 "solve"=true) (k56:W.keepIn K (.ref f56)=true)
  (a57:W.nsIn K mainGlobals "weights_for"=some (some (.ref f57))) (l57:K.lookup f57=some ⟨oc57,od57,.func (W.fnOf "weights_for" "weights_for" (a1s a7n) (a1l a7n) (a0l a7n) .none kV57 dc57 pm57 an57 cd57 ct57),sl57⟩) (c57:W.codeIn K cd57 "weights_for"=true) (k57:W.keepIn K (.ref f57)=true)
  (a58:W.nsIn K mainGlobals "row_minus"=some (some (.ref f58))) (l58:K.lookup f58=some ⟨oc58,od58,.func (W.fnOf "row_minus" "row_minus" (a1s b0n) (a1l b0n) (a0l b0n) .none kV58 dc58 pm58 an58 cd58 ct58),sl58⟩) (c58:W.codeIn K cd58 "row_minus"=true) (k58:W.keepIn K (.ref f58)=true)
  (a59:W.findIn K (.ref C) "moved"=some (some (.ref f59))) (i59:W.isFn K (.ref f59)=true) (l59:K.lookup f59=some ⟨oc59,od59,.func (W.fnOf "moved" "System.moved" (a1s a6o) (a1l a6o) (a0l a6o) .none kV59 dc59 pm59 an59 cd59 ct59),sl59⟩) (c59:W.codeIn K cd59 "System.moved"=true) (k59:W.keepIn K (.ref f59)=true)
  (a60:W.nsIn K mainGlobals "course"=some (some (.ref f60))) (l60:K.lookup f60=some ⟨oc60,od60,.func (W.fnOf "course" "course" (a1s c1a) (a1l c1a) (a0l c1a) .none kV60 dc60 pm60 an60 cd60 ct60),sl60⟩) (c60:W.codeIn K cd60 "course"=true) (k60:W.keepIn K (.ref f60)=true)
  (a61:W.nsIn K mainGlobals "nothing_for"=some (some (.ref f61))) (l61:K.lookup f61=some ⟨oc61,od61,.func (W.fnOf "nothing_for" "nothing_for" (a1s a7q) (a1l a7q) (a0l a7q) .none kV61 dc61 pm61 an61 cd61 ct61),sl61⟩) (c61:W.codeIn K cd61 "nothing_for"=true) (k61:W.keepIn K (.ref f61)=true)
  (a62:W.nsIn K mainGlobals "lacking"=some (some (.ref f62))) (l62:K.lookup f62=some ⟨oc62,od62,.func (W.fnOf "lacking" "lacking" (a1s b6v) (a1l b6v) (a0l b6v) .none kV62 dc62 pm62 an62 cd62 ct62),sl62⟩) (c62:W.codeIn K cd62 "lacking"=true) (k62:W.keepIn K (.ref f62)=true)
  (a63:W.nsIn K mainGlobals "cut"=some (some (.ref f63))) (l63:K.lookup f63=some ⟨oc63,od63,.func (W.fnOf "cut" "cut" (a1s e3g) (a1l e3g) (a0l e3g) .none kV63 dc63 pm63 an63 cd63 ct63),sl63⟩) (c63:W.codeIn K cd63 "cut"=true) (k63:W.keepIn K (.ref f63)=true)
  (a64:W.nsIn K mainGlobals "come"=some (some (.ref f64))) (l64:K.lookup f64=some ⟨oc64,od64,.func (W.fnOf "come" "come" (a1s d1z) (a1l d1z) (a0l d1z) .none kV64 dc64 pm64 an64 cd64 ct64),sl64⟩) (c64:W.codeIn K cd64 "come"=true) (k64:W.keepIn K (.ref f64)=true)
  (a65:W.nsIn K mainGlobals "told_by"=some (some (.ref f65))) (l65:K.lookup f65=some ⟨oc65,od65,.func (W.fnOf "told_by" "told_by" (a1s b6q) (a1l b6q) (a0l b6q) .none kV65 dc65 pm65 an65 cd65 ct65),sl65⟩) (c65:W.codeIn K cd65 "told_by"=true) (k65:W.keepIn K (.ref f65)=true)
  (a66:W.nsIn K mainGlobals "law"=some (some (.ref f66))) (l66:K.lookup f66=some ⟨oc66,od66,.func (W.fnOf "law" "law" (a1s d9a) (a1l d9a) (a0l d9a) .none kV66 dc66 pm66 an66 cd66 ct66),sl66⟩) (c66:W.codeIn K cd66 "law"=true) (k66:W.keepIn K (.ref f66)=true)
  {m0:Addr} {mo0:Option Addr} {mn0:Nat} {ms0:Array (Option Value)} {mt0_0 mt0_1:Tok} (ca0:W.nsIn K mainGlobals "NOUGHT"=some (some (.ref m0))) (cl0:K.lookup m0=some ⟨.type "tuple",mo0,.seq #[.int 0 mt0_0,.int 1 mt0_1] mn0,ms0⟩)
  {m1:Addr} {mo1:Option Addr} {mn1:Nat} {ms1:Array (Option Value)} {mt1_0 mt1_1:Tok} (ca1:W.nsIn K mainGlobals "ONE"=some (some (.ref m1))) (cl1:K.lookup m1=some ⟨.type "tuple",mo1,.seq #[.int 1 mt1_0,.int 1 mt1_1] mn1,ms1⟩)
  {it0:Tok} (ci0:W.nsIn K mainGlobals "MOST_STATES"=some (some (.int 8 it0)))
  {it1:Tok} (ci1:W.nsIn K mainGlobals "MOST_PUTS"=some (some (.int 4 it1)))
  {it2:Tok} (ci2:W.nsIn K mainGlobals "MOST_LOOKS"=some (some (.int 4 it2)))
  (pg:W.plainGet K C Str.empty=true) (hd:W.hasDictIn K C=true) (po:W.plainOver K C=true) (sa:W.findIn K (.ref C) "__setattr__"=some (some (.builtin "object.__setattr__"))) (mk:W.makesIn K C=true) (kc:W.keepIn K (.ref C)=true)
  (n_move:W.findIn K (.ref C) "move"=some none)
  (n_states:W.findIn K (.ref C) "states"=some none)
  (n_put:W.findIn K (.ref C) "put"=some none)
  (n_ins:W.findIn K (.ref C) "ins"=some none)
  (n_look:W.findIn K (.ref C) "look"=some none)
  (n_outs:W.findIn K (.ref C) "outs"=some none)
  (z_abs:W.nsIn K mainGlobals "abs"=some none)
  (z_len:W.nsIn K mainGlobals "len"=some none)
  (z_min:W.nsIn K mainGlobals "min"=some none)
  (z_range:W.nsIn K mainGlobals "range"=some none)
  (z_int:W.nsIn K mainGlobals "int"=some none)
  (z_isinstance:W.nsIn K mainGlobals "isinstance"=some none)
  (z_list:W.nsIn K mainGlobals "list"=some none)
  (z_bool:W.nsIn K mainGlobals "bool"=some none)
  (z_tuple:W.nsIn K mainGlobals "tuple"=some none)
  (z_all:W.nsIn K mainGlobals "all"=some none)
  (z_enumerate:W.nsIn K mainGlobals "enumerate"=some none)
  (z_zip:W.nsIn K mainGlobals "zip"=some none)
  (z_sum:W.nsIn K mainGlobals "sum"=some none)
  (z_reversed:W.nsIn K mainGlobals "reversed"=some none)
  : ∃fd:FuncData,(∀(s:Shared) (v:Value),BindsTo s fd ⟨[v],[]⟩ [("_law_script",v)])∧∀base:Heap,K.In base->base.Ns mainGlobals mg->a6g l.prog w K mg base CX0 11 fa fd ["_law_script"] (sp_law K):=by
 have e:=hfa.symm.trans (W.mg_of X G a66)
 cases e
 have F0:=a2n (st:=b3u) l0 c0 k0
 have F1:=a2n (st:=b0q) l1 c1 k1
 have F2:=a2n (st:=a7d) l2 c2 k2
 have F3:=a2n (st:=b3s) l3 c3 k3
 have F4:=a2n (st:=a7v) l4 c4 k4
 have F5:=a2n (st:=b3r) l5 c5 k5
 have F6:=a2n (st:=b0t) l6 c6 k6
 have F7:=a2n (st:=b3q) l7 c7 k7
 have F8:=a2n (st:=b0s) l8 c8 k8
 have F9:=a2n (st:=b0r) l9 c9 k9
 have F10:=a2n (st:=b6y) l10 c10 k10
 have F11:=a2n (st:=a9e) l11 c11 k11
 have F12:=a2n (st:=a9d) l12 c12 k12
 have F13:=a2n (st:=b0l) l13 c13 k13
 have F14:=a2n (st:=b3p) l14 c14 k14
 have F15:=a2n (st:=a5i) l15 c15 k15
 have F16:=a2n (st:=b0o) l16 c16 k16
 have F17:=a2n (st:=c0z) l17 c17 k17
 have F18:=a2n (st:=a7t) l18 c18 k18
 have F19:=a2n (st:=a5b) l19 c19 k19
 have F20:=a2n (st:=a7x) l20 c20 k20
 have F21:=a2n (st:=a7u) l21 c21 k21
 have F22:=a2n (st:=a7r) l22 c22 k22
 have F23:=a2n (st:=a5z) l23 c23 k23
 have F24:=a2n (st:=b0m) l24 c24 k24
 have F25:=a2n (st:=a5a) l25 c25 k25
 have F26:=a2n (st:=a5y) l26 c26 k26
 have F27:=a2n (st:=a9b) l27 c27 k27
 have F28:=a2n (st:=b6x) l28 c28 k28
 have F29:=a2n (st:=a9c) l29 c29 k29
 have F30:=a2n (st:=c6g) l30 c30 k30
 have F31:=a2n (st:=c0y) l31 c31 k31
 have F32:=a2n (st:=b6s) l32 c32 k32
 have F33:=a2n (st:=b6r) l33 c33 k33
 have F34:=a2n (st:=b6w) l34 c34 k34
 have F35:=a2n (st:=a9a) l35 c35 k35
 have F36:=a2n (st:=a7p) l36 c36 k36
 have F37:=a2n (st:=a8y) l37 c37 k37
 have F38:=a2n (st:=b3o) l38 c38 k38
 have F39:=a2n (st:=a5x) l39 c39 k39
 have F40:=a2n (st:=b6u) l40 c40 k40
 have F41:=a2n (st:=c6j) l41 c41 k41
 have F42:=a2n (st:=b6t) l42 c42 k42
 have F43:=a2n (st:=a7s) l43 c43 k43
 have F44:=a2n (st:=c6i) l44 c44 k44
 have F45:=a2n (st:=a7o) l45 c45 k45
 have F46:=a2n (st:=a5k) l46 c46 k46
 have F47:=a2n (st:=a7w) l47 c47 k47
 have F48:=a2n (st:=a6n) l48 c48 k48
 have F49:=a2n (st:=b3t) l49 c49 k49
 have F50:=a2n (st:=a9f) l50 c50 k50
 have F51:=a2n (st:=a5j) l51 c51 k51
 have F52:=a2n (st:=d1y) l52 c52 k52
 have F53:=a2n (st:=b0p) l53 c53 k53
 have F54:=a2n (st:=a8z) l54 c54 k54
 have F55:=a2n (st:=c0x) l55 c55 k55
 have F56:=a2n (st:=c6h) l56 c56 k56
 have F57:=a2n (st:=a7n) l57 c57 k57
 have F58:=a2n (st:=b0n) l58 c58 k58
 have F59:=a2n (st:=a6o) l59 c59 k59
 have F60:=a2n (st:=c1a) l60 c60 k60
 have F61:=a2n (st:=a7q) l61 c61 k61
 have F62:=a2n (st:=b6v) l62 c62 k62
 have F63:=a2n (st:=e3g) l63 c63 k63
 have F64:=a2n (st:=d1z) l64 c64 k64
 have F65:=a2n (st:=b6q) l65 c65 k65
 have F66:=a2n (st:=d9a) l66 c66 k66
 have T:Txt K mg { c1t:=f0,c1k:=_,b8m:=f1,b7y:=_,b5q:=f2,b5h:=_,c1r:=f3,c1i:=_,b3i:=f4,b2t:=_,c1q:=f5,c1h:=_,b8p:=f6,b8b:=_,c1p:=f7,c1g:=_,b8o:=f8,b8a:=_,b8n:=f9,b7z:=_,c6a:=f10,c5g:=_,b5s:=f11,b5j:=_,b5r:=f12,b5i:=_,b8h:=f13,b7t:=_,c1o:=f14,c1f:=_,a8u:=f15,a8q:=_,b8k:=f16,b7w:=_,c8v:=f17,c8q:=_,b3g:=f18,b2r:=_,a8d:=f19,a8b:=_,b3k:=f20,b2v:=_,b3h:=f21,b2s:=_,b3e:=f22,b2p:=_,b0c:=f23,a9v:=_,b8i:=f24,b7u:=_,a8c:=f25,a8a:=_,b0b:=f26,a9u:=_,b5o:=f27,b5f:=_,c5z:=f28,c5f:=_,b5p:=f29,b5g:=_,d5b:=f30,d4t:=_,c8u:=f31,c8p:=_,c5u:=f32,c5a:=_,c5t:=f33,c4z:=_,c5y:=f34,c5e:=_,b5n:=f35,b5e:=_,b3c:=f36,b2n:=_,b5l:=f37,b5c:=_,c1n:=f38,c1e:=_,b0a:=f39,a9t:=_,c5w:=f40,c5c:=_,d5e:=f41,d4w:=_,c5v:=f42,c5b:=_,b3f:=f43,b2q:=_,d5d:=f44,d4v:=_,b3b:=f45,b2m:=_,a8w:=f46,a8s:=_,b3j:=f47,b2u:=_,b1m:=f48,b1k:=_,c1s:=f49,c1j:=_,b5t:=f50,b5k:=_,a8v:=f51,a8r:=_,e2i:=f52,e2a:=_,b8l:=f53,b7x:=_,b5m:=f54,b5d:=_,c8t:=f55,c8o:=_,d5c:=f56,d4u:=_,b3a:=f57,b2l:=_,b8j:=f58,b7v:=_,b1n:=f59,b1l:=_,c8w:=f60,c8r:=_,b3d:=f61,b2o:=_,c5x:=f62,c5d:=_,f1s:=f63,f1n:=_,e2j:=f64,e2b:=_,c5s:=f65,c4y:=_,f6e:=fa,f5v:=_,a_NOUGHT:=m0,a_ONE:=m1,t_MOST_STATES:=it0,t_MOST_PUTS:=it1,t_MOST_LOOKS:=it2,a_System:=C }:={
  c9s:=W.mg_of X G a0
  d3a:=F0.binds (ps:=["_law_script"]) fun _ _ _ _ _ _ us hl=>match us,hl with | [_],_=>rfl
  c7g:=F0
  a2h:=W.mg_of X G a1
  a2p:=F1.binds (ps:=["_law_bag_here","_law_many"]) fun _ _ _ _ _ _ us hl=>match us,hl with | [_,_],_=>rfl
  a2l:=F1
  c4s:=W.mg_of X G a2
  c7w:=F2.binds (ps:=["_law_bag_here"]) fun _ _ _ _ _ _ us hl=>match us,hl with | [_],_=>rfl
  c0o:=F2
  b0x:=W.mg_of X G a3
  b3z:=F3.binds (ps:=["_law_top","_law_bottom"]) fun _ _ _ _ _ _ us hl=>match us,hl with | [_,_],_=>rfl
  b1e:=F3
  b6f:=W.mg_of X G a4
  b8g:=F4.binds (ps:=["_law_bag_here","_law_wide"]) fun _ _ _ _ _ _ us hl=>match us,hl with | [_,_],_=>rfl
  b3n:=F4
  b4h:=W.mg_of X G a5
  b7g:=F5.binds (ps:=["_law_bag_here","_law_many","_law_wide"]) fun _ _ _ _ _ _ us hl=>match us,hl with | [_,_,_],_=>rfl
  b4b:=F5
  c7q:=W.mg_of X G a6
  d0g:=F6.binds (ps:=["_law_bag_here","_law_n","_law_way","_law_first","_law_wide"]) fun _ _ _ _ _ _ us hl=>match us,hl with | [_,_,_,_,_],_=>rfl
  c3q:=F6
  b0w:=W.mg_of X G a7
  b3y:=F7.binds (ps:=["_law_one","_law_other"]) fun _ _ _ _ _ _ us hl=>match us,hl with | [_,_],_=>rfl
  b1c:=F7
  b9w:=W.mg_of X G a8
  c3k:=F8.binds (ps:=["_law_one","_law_other"]) fun _ _ _ _ _ _ us hl=>match us,hl with | [_,_],_=>rfl
  b9b:=F8
  b1w:=W.mg_of X G a9
  b4k:=F9.binds (ps:=["_law_one","_law_other"]) fun _ _ _ _ _ _ us hl=>match us,hl with | [_,_],_=>rfl
  b1d:=F9
  c6t:=W.mg_of X G a10
  d0h:=F10.binds (ps:=["_law_factor","_law_row_here"]) fun _ _ _ _ _ _ us hl=>match us,hl with | [_,_],_=>rfl
  c6d:=F10
  c4u:=W.mg_of X G a11
  c7y:=F11.binds (ps:=["_law_bag_here","_law_move_here","_law_put","_law_look"]) fun _ _ _ _ _ _ us hl=>match us,hl with | [_,_,_,_],_=>rfl
  c0q:=F11
  c4t:=W.mg_of X G a12
  c7x:=F12.binds (ps:=["_law_bag_here","_law_n","_law_ins","_law_outs","_law_wide"]) fun _ _ _ _ _ _ us hl=>match us,hl with | [_,_,_,_,_],_=>rfl
  c0p:=F12
  b4z:=W.mg_of X G a13
  b8c:=F13.binds (ps:=["thing","at","most"]) fun _ _ _ _ _ _ us hl=>match us,hl with | [_,_,_],_=>rfl
  b4m:=F13
  c3g:=W.mg_of X G a14
  c6x:=F14.binds (ps:=["thing"]) fun _ _ _ _ _ _ us hl=>match us,hl with | [_],_=>rfl
  c1v:=F14
  a7y:=W.mg_of X G a15
  a8t:=F15.binds (ps:=["one","other"]) fun _ _ _ _ _ _ us hl=>match us,hl with | [_,_],_=>rfl
  a6l:=F15
  c7o:=W.mg_of X G a16
  d0e:=F16.binds (ps:=["thing"]) fun _ _ _ _ _ _ us hl=>match us,hl with | [_],_=>rfl
  c3o:=F16
  d6x:=W.mg_of X G a17
  e2g:=F17.binds (ps:=["thing","many"]) fun _ _ _ _ _ _ us hl=>match us,hl with | [_,_],_=>rfl
  d5n:=F17
  b1h:=W.mg_of X G a18
  b2y:=F18.binds (ps:=["things","wide"]) fun _ _ _ _ _ _ us hl=>match us,hl with | [_,_],_=>rfl
  b0e:=F18
  b0y:=F19.binds (ps:=["self","move","put","look"]) fun _ _ _ _ _ _ us hl=>match us,hl with | [_,_,_,_],_=>rfl
  b7i:=F19
  b1i:=W.mg_of X G a20
  b2z:=F20.binds (ps:=["_law_grid"]) fun _ _ _ _ _ _ us hl=>match us,hl with | [_],_=>rfl
  b0f:=F20
  c2m:=W.mg_of X G a21
  c5p:=F21.binds (ps:=["_law_parts_here"]) fun _ _ _ _ _ _ us hl=>match us,hl with | [_],_=>rfl
  b9a:=F21
  a8n:=W.mg_of X G a22
  a9x:=F22.binds (ps:=["grid","wide"]) fun _ _ _ _ _ _ us hl=>match us,hl with | [_,_],_=>rfl
  a8e:=F22
  a8p:=⟨a23,i23,k23⟩
  a9z:=F23.binds (ps:=["self"]) fun _ _ _ _ _ _ us hl=>match us,hl with | [_],_=>rfl
  c0r:=F23
  b5a:=W.mg_of X G a24
  b8d:=F24.binds (ps:=["row","bottom"]) fun _ _ _ _ _ _ us hl=>match us,hl with | [_,_],_=>rfl
  b4n:=F24
  b5b:=W.mg_of X G a25
  b7f:=F25.binds (ps:=["wholes"]) fun _ _ _ _ _ _ us hl=>match us,hl with | [_],_=>rfl
  b1b:=F25
  a8o:=W.mg_of X G a26
  a9y:=F26.binds (ps:=["row"]) fun _ _ _ _ _ _ us hl=>match us,hl with | [_],_=>rfl
  a7j:=F26
  c4q:=W.mg_of X G a27
  c7u:=F27.binds (ps:=["lines","begin","place"]) fun _ _ _ _ _ _ us hl=>match us,hl with | [_,_,_],_=>rfl
  c0m:=F27
  d2q:=W.mg_of X G a28
  d7z:=F28.binds (ps:=["lines","at","place","before"]) fun _ _ _ _ _ _ us hl=>match us,hl with | [_,_,_,_],_=>rfl
  d0u:=F28
  c4r:=W.mg_of X G a29
  c7v:=F29.binds (ps:=["lines","at","to"]) fun _ _ _ _ _ _ us hl=>match us,hl with | [_,_,_],_=>rfl
  c0n:=F29
  d4j:=W.mg_of X G a30
  d9w:=F30.binds (ps:=["rows","wide"]) fun _ _ _ _ _ _ us hl=>match us,hl with | [_,_],_=>rfl
  d5l:=F30
  b9v:=W.mg_of X G a31
  c5n:=F31.binds (ps:=["top","bottom"]) fun _ _ _ _ _ _ us hl=>match us,hl with | [_,_],_=>rfl
  c1u:=F31
  c1b:=W.mg_of X G a32
  c5m:=F32.binds (ps:=["rows","wide"]) fun _ _ _ _ _ _ us hl=>match us,hl with | [_,_],_=>rfl
  c0l:=F32
  c6r:=W.mg_of X G a33
  d0c:=F33.binds (ps:=["one","other"]) fun _ _ _ _ _ _ us hl=>match us,hl with | [_,_],_=>rfl
  c6b:=F33
  d2p:=W.mg_of X G a34
  d7y:=F34.binds (ps:=["grid","row"]) fun _ _ _ _ _ _ us hl=>match us,hl with | [_,_],_=>rfl
  d0t:=F34
  b7q:=W.mg_of X G a35
  c0f:=F35.binds (ps:=["system","rows"]) fun _ _ _ _ _ _ us hl=>match us,hl with | [_,_],_=>rfl
  b5w:=F35
  b6d:=W.mg_of X G a36
  b8e:=F36.binds (ps:=["system","steps"]) fun _ _ _ _ _ _ us hl=>match us,hl with | [_,_],_=>rfl
  b3l:=F36
  b7p:=W.mg_of X G a37
  c0e:=F37.binds (ps:=["system","steps"]) fun _ _ _ _ _ _ us hl=>match us,hl with | [_,_],_=>rfl
  b5v:=F37
  c9q:=W.mg_of X G a38
  d2z:=F38.binds (ps:=["many","at"]) fun _ _ _ _ _ _ us hl=>match us,hl with | [_,_],_=>rfl
  c7f:=F38
  b9f:=W.mg_of X G a39
  c0g:=F39.binds (ps:=["row"]) fun _ _ _ _ _ _ us hl=>match us,hl with | [_],_=>rfl
  b4o:=F39
  c6s:=W.mg_of X G a40
  d0d:=F40.binds (ps:=["rows"]) fun _ _ _ _ _ _ us hl=>match us,hl with | [_],_=>rfl
  c6c:=F40
  d4k:=W.mg_of X G a41
  d9x:=F41.binds (ps:=["one","other"]) fun _ _ _ _ _ _ us hl=>match us,hl with | [_,_],_=>rfl
  d5m:=F41
  d2n:=W.mg_of X G a42
  d7w:=F42.binds (ps:=["rows","wide","at"]) fun _ _ _ _ _ _ us hl=>match us,hl with | [_,_,_],_=>rfl
  d0r:=F42
  c2l:=W.mg_of X G a43
  c5o:=F43.binds (ps:=["rows","wide"]) fun _ _ _ _ _ _ us hl=>match us,hl with | [_,_],_=>rfl
  b8z:=F43
  e1i:=W.mg_of X G a44
  e8l:=F44.binds (ps:=["rows","wide"]) fun _ _ _ _ _ _ us hl=>match us,hl with | [_,_],_=>rfl
  e0j:=F44
  c2k:=W.mg_of X G a45
  c5l:=F45.binds (ps:=["system","steps"]) fun _ _ _ _ _ _ us hl=>match us,hl with | [_,_],_=>rfl
  b8y:=F45
  b7d:=W.mg_of X G a46
  b9h:=F46.binds (ps:=["_law_thing"]) fun _ _ _ _ _ _ us hl=>match us,hl with | [_],_=>rfl
  b2e:=F46
  c2n:=W.mg_of X G a47
  c5q:=F47.binds (ps:=["_law_thing","_law_many"]) fun _ _ _ _ _ _ us hl=>match us,hl with | [_,_],_=>rfl
  b9c:=F47
  b4i:=W.mg_of X G a48
  b6g:=F48.binds (ps:=["_law_thing","_law_many","_law_wide"]) fun _ _ _ _ _ _ us hl=>match us,hl with | [_,_,_],_=>rfl
  b1o:=F48
  c3h:=W.mg_of X G a49
  c6y:=F49.binds (ps:=["_law_one","_law_other"]) fun _ _ _ _ _ _ us hl=>match us,hl with | [_,_],_=>rfl
  c1w:=F49
  b7r:=W.mg_of X G a50
  c0h:=F50.binds (ps:=["_law_system_here","_law_other","_law_steps","_law_n"]) fun _ _ _ _ _ _ us hl=>match us,hl with | [_,_,_,_],_=>rfl
  b5x:=F50
  b7c:=W.mg_of X G a51
  b9g:=F51.binds (ps:=["_law_parts_here","_law_steps"]) fun _ _ _ _ _ _ us hl=>match us,hl with | [_,_],_=>rfl
  b2d:=F51
  e7j:=W.mg_of X G a52
  f2w:=F52.binds (ps:=["lists"]) fun _ _ _ _ _ _ us hl=>match us,hl with | [_],_=>rfl
  e8w:=F52
  c7p:=W.mg_of X G a53
  d0f:=F53.binds (ps:=["system","steps"]) fun _ _ _ _ _ _ us hl=>match us,hl with | [_,_],_=>rfl
  c3p:=F53
  a9r:=W.mg_of X G a54
  b1z:=F54.binds (ps:=["many"]) fun _ _ _ _ _ _ us hl=>match us,hl with | [_],_=>rfl
  a9k:=F54
  c9r:=W.mg_of X G a55
  d5a:=F55.binds (ps:=["rows","wide","due"]) fun _ _ _ _ _ _ us hl=>match us,hl with | [_,_,_],_=>rfl
  c8y:=F55
  e1h:=W.mg_of X G a56
  e8k:=F56.binds (ps:=["rows","wide","due"]) fun _ _ _ _ _ _ us hl=>match us,hl with | [_,_,_],_=>rfl
  e0i:=F56
  c2j:=W.mg_of X G a57
  c5k:=F57.binds (ps:=["rows","wide","row"]) fun _ _ _ _ _ _ us hl=>match us,hl with | [_,_,_],_=>rfl
  b8x:=F57
  c7n:=W.mg_of X G a58
  d0b:=F58.binds (ps:=["one","other"]) fun _ _ _ _ _ _ us hl=>match us,hl with | [_,_],_=>rfl
  c3n:=F58
  b9x:=⟨a59,i59,k59⟩
  c2p:=F59.binds (ps:=["self","state","puts"]) fun _ _ _ _ _ _ us hl=>match us,hl with | [_,_,_],_=>rfl
  c2t:=F59
  d6y:=W.mg_of X G a60
  e2h:=F60.binds (ps:=["system","start","puts"]) fun _ _ _ _ _ _ us hl=>match us,hl with | [_,_,_],_=>rfl
  d5o:=F60
  b6e:=W.mg_of X G a61
  b8f:=F61.binds (ps:=["system","steps"]) fun _ _ _ _ _ _ us hl=>match us,hl with | [_,_],_=>rfl
  b3m:=F61
  d2o:=W.mg_of X G a62
  d7x:=F62.binds (ps:=["system","start","goal","steps"]) fun _ _ _ _ _ _ us hl=>match us,hl with | [_,_,_,_],_=>rfl
  d0s:=F62
  f2l:=W.mg_of X G a63
  g0k:=F63.binds (ps:=["row","many","wide"]) fun _ _ _ _ _ _ us hl=>match us,hl with | [_,_,_],_=>rfl
  f6n:=F63
  d9l:=W.mg_of X G a64
  e8m:=F64.binds (ps:=["system","start","goal","steps"]) fun _ _ _ _ _ _ us hl=>match us,hl with | [_,_,_,_],_=>rfl
  e2l:=F64
  d2m:=W.mg_of X G a65
  d7v:=F65.binds (ps:=["system","asked","steps"]) fun _ _ _ _ _ _ us hl=>match us,hl with | [_,_,_],_=>rfl
  d0q:=F65
  g0q:=F66
  abs:=W.mg_none_of X G z_abs
  len:=W.mg_none_of X G z_len
  min:=W.mg_none_of X G z_min
  range:=W.mg_none_of X G z_range
  int:=W.mg_none_of X G z_int
  isinstance:=W.mg_none_of X G z_isinstance
  list:=W.mg_none_of X G z_list
  bool:=W.mg_none_of X G z_bool
  tuple:=W.mg_none_of X G z_tuple
  all:=W.mg_none_of X G z_all
  enumerate:=W.mg_none_of X G z_enumerate
  zip:=W.mg_none_of X G z_zip
  sum:=W.mg_none_of X G z_sum
  reversed:=W.mg_none_of X G z_reversed
  mg_NOUGHT:=W.mg_of X G ca0
  sq_NOUGHT:=fun H=>.inr ⟨_,_,_,cl0,rfl,rfl,b2g rfl,.cons ⟨_,rfl⟩ (.cons ⟨_,rfl⟩ (.nil))⟩
  mg_ONE:=W.mg_of X G ca1
  sq_ONE:=fun H=>.inr ⟨_,_,_,cl1,rfl,rfl,b2g rfl,.cons ⟨_,rfl⟩ (.cons ⟨_,rfl⟩ (.nil))⟩
  mg_MOST_STATES:=W.mg_of X G ci0
  mg_MOST_PUTS:=W.mg_of X G ci1
  mg_MOST_LOOKS:=W.mg_of X G ci2
  mg_System:=W.mg_of X G aC
  cl_System:=⟨pg,hd,po,sa⟩
  na_move:=n_move
  na_states:=n_states
  na_put:=n_put
  na_ins:=n_ins
  na_look:=n_look
  na_outs:=n_outs
  mk_System:=⟨mk,a19,i19,kc⟩ }
 exact ⟨_,fun s v=>.of_eq rfl,fun base _ _=>f8y T⟩
theorem walk {l:W.OpenLaw} {q:Program} {loose:List Str} {XP:(Str->Option Value)->Heap->Prop} {YP:World->Heap->Prop} {d:DefRec} {K:Params->W.Frag} (hn:l.most=some 63) (hdf:d.params.defaults=[])
  (hY:∀(w:World) (h:Heap),YP w h->(K w.params).In h)
  (F:∀(w:World) (mg:Str->Option Value) (fa:Addr) (h:Heap),(K w.params).In h->h.Ns mainGlobals mg->mg d.name=some (.ref fa) →
   ∃fd:FuncData,(∀(s:Shared) (u:Value),BindsTo s fd ⟨[u],[]⟩ [("_law_script",u)])∧∀base:Heap,(K w.params).In base->base.Ns mainGlobals mg->a6g l.prog w (K w.params) mg base CX0 11 fa fd ["_law_script"] (sp_law (K w.params))) :
  W.WalkO q loose XP YP l.row.toRowW d [] (fun f vs=>PySem.call f vs) :=
 L2.e4n (n:=63) (k:=11) (x:="_law_script") (CX:=fun _=>CX0) (sp:=fun w=>sp_law (K w.params)) hn (by decide) hdf ⟨rfl,by decide,by decide⟩ hY F (fun _ _ a ns hl _ hS=>⟨a,ns,rfl,hS,hl,fun _=>rfl⟩) fun _ _ _ _ _ z=>z
end Lw
namespace PySem.W.Fast
def tw6597172245117409842:=()
def tw14664733910607885030:=()
def tw16516438339264221673:=()
def tw17896163990217317751:=()
def tw16061717445247437488:=()
def tw11390479955654768814:=()
def tw15402138071050518958:=()
def tw12991926092474750983:=()
def tw1879166835549046414:=()
def tw9260321589080993115:=()
def tw2756606391794383770:=()
def tw10489027493485419656:=()
def tw7794697421300582521:=()
def tw16812849994590174062:=()
def tw6188188618722912564:=()
def tw16133613604885547882:=()
def tw10014365933943732368:=()
def tw3322355092221582619:=()
def tw9944323476626958427:=()
def tw11439699027562928512:=()
def tw14878829338412725224:=()
def tw14729201080345452871:=()
def tw166687899940266786:=()
def tw17522701677003917380:=()
def tw115944246685978743:=()
def tw9455391464916347506:=()
def tw7506433686926392848:=()
def tw6711472649649825900:=()
def tw8649655929470967530:=()
def tw4105711235147351921:=()
def tw3609822997646166054:=()
def tw16638787625023454758:=()
def tw16041409275151046127:=()
def tw14951825810977520249:=()
def tw4639681308342107692:=()
def tw1432294559879111689:=()
def tw2796531040363599868:=()
def tw12643727429094132453:=()
def tw9434128982320427803:=()
def tw7787322053554352737:=()
def tw1376808782181961548:=()
def tw16051476207328645482:=()
def tw1981572791283125335:=()
def tw16117333349224950093:=()
def tw10527138760928884611:=()
def tw9689962642086843216:=()
def tw18438959450631993243:=()
def tw17576772986163537624:=()
def tw2303490831373902621:=()
def tw15409659643281818940:=()
def tw11517299838765253695:=()
def tw17780374144816948571:=()
def tw4799243304735012988:=()
def tw5428772685325155422:=()
def tw17849302178165968111:=()
def tw8678779250724252258:=()
def tw27478540697866771:=()
def tw4823411252203548564:=()
def tw3241764032063474426:=()
def tw1048630765145775786:=()
def tw9118947829777076665:=()
def tw14171554528363834749:=()
def tw2796413036118875457:=()
def tw12596882114001250850:=()
def tw11038799608546333273:=()
def tw17865064094657791:=()
def tw3405188250154157029:=()
def tw17365024478182502251:=()
def tw13472752596423174425:=()
def tw4530590352658825133:=()
def tw12825772504253672780:=()
def tw7428211407341814899:=()
def tw16020405113895712448:=()
def tw16320723216346489527:=()
def tw4083009685726224246:=()
def tw7132449782473843611:=()
def tw9959375453083047052:=()
def tw4188068519900011561:=()
def tw6047935047599445703:=()
def tw8771804853335104475:=()
def tw10535330286868790909:=()
def tw7162447874795348504:=()
def tw7691213261244490675:=()
def tw4610464860226226467:=()
def tw4229275187965105001:=()
def tw10218722353959810718:=()
def tw14159056408920547367:=()
def tw12715604751308651662:=()
def tw3900910810700360886:=()
def tw9059402727183266165:=()
def tw6635648626600258475:=()
def tw327156605796404286:=()
def tw7333899203811853816:=()
def tw7613780583329183717:=()
def tw928039063390737607:=()
def tw16686050903790152358:=()
def tw6702939210226641371:=()
def tw9463191914146231078:=()
def tw10635392648712678887:=()
def tw14981474703082927848:=()
def tw3914596295792298908:=()
def tw18433043078732328135:=()
def tw743603524882400156:=()
def tw16529689105047000720:=()
def tw16496891793727285334:=()
def tw4389210286475346558:=()
def tw3826707063372231394:=()
def tw8219865136360208058:=()
def tw8990780983548418935:=()
def tw7568604375956984807:=()
def tw18389081949009398554:=()
def tw9150380054837247064:=()
def tw16873520415049948233:=()
def tw15304982917930526054:=()
def tw1741112299288022270:=()
def tw12842977964971884845:=()
def tw9147489987660770848:=()
def tw6874630024783755151:=()
def tw5958999045798264487:=()
def tw3886769228050101483:=()
def tw17377457501721083648:=()
def tw9688603240776526862:=()
def tw2817645593016748308:=()
def tw12882254511156388720:=()
def tw7732411220232422625:=()
def tw8454419336355473447:=()
def tw12288458292322613315:=()
def tw16166966747861555357:=()
def tw6261011433415639874:=()
def tw5125084266382181621:=()
def tw12070675484818931471:=()
def tw6330058628187050347:=()
def tw2401635547851497520:=()
def tw16211361504026222773:=()
def tw18155582332842800616:=()
def tw3234346699877466072:=()
def tw18285491078866690042:=()
def tw7612605970586693577:=()
def tw6550604671022565914:=()
def tw7459770830876317936:=()
def tw12176512298022048703:=()
def tw5522721927657608635:=()
def tw2110581919449729215:=()
def tw15763962415506615408:=()
def tw1226379487956291481:=()
def tw4489781166638645594:=()
def tw15039903063483908030:=()
def tw8182009340694891471:=()
def tw11706359354653890627:=()
def tw3444492362214545148:=()
def tw14480215592459745907:=()
def tw16221648449603254647:=()
def tw2976368849926307172:=()
def tw2758812799436905058:=()
def tw13817929966530020807:=()
def tw10029980150893295869:=()
def tw6538080348479027687:=()
def tw6622376839474228134:=()
def tw6118183641708643515:=()
def tw8020016168487058388:=()
def tw6149821517646758149:=()
def tw17477646022503233360:=()
def tw5793924393188442573:=()
def tw7194999339869694783:=()
def tw10239396936222573410:=()
def tw9400692489608453400:=()
def tw9379504386544033409:=()
def tw6467089052763213079:=()
def tw5239200992657549761:=()
def tw14467189597374905268:=()
def tw655361908870379550:=()
def tw1389986315690894955:=()
def tw7538399365668128640:=()
def tw7152131238466479073:=()
def tw12020703199021617495:=()
def tw15391068367976177549:=()
def tw13652013263288038165:=()
def tw8779300480497845846:=()
def tw17652634409667234383:=()
def tw11668057623664689724:=()
def tw3860607424559318193:=()
def tw16718159543411912773:=()
def tw13839315192049818353:=()
def tw6521764332027875862:=()
def tw13527463817868735087:=()
def tw16045171233697432988:=()
def tw16584735226338191886:=()
def tw17351088996588564339:=()
def tw14861158618088216939:=()
def tw3840451164859433604:=()
def tw10906097526015414439:=()
def tw3765357009852608220:=()
def tw13862665925064879463:=()
def tw1999793747699115718:=()
def tw15912771874506492379:=()
def tw10458008571987041536:=()
def tw15950605639111008383:=()
def tw14382875310176969230:=()
def tw16076934490169581234:=()
def tw18165512611526564718:=()
def tw10876635941043673351:=()
def tw6626091645594876716:=()
def tw11700316593803786353:=()
def tw11239934667411077495:=()
def tw13832978135924044070:=()
def tw13908206144851896056:=()
def tw9017643542095887206:=()
def tw4272212203275430473:=()
def tw1855508350844412420:=()
def tw18418884191197317713:=()
def tw7336311135148978022:=()
def tw18024881766810453934:=()
def tw13117164861333652108:=()
def tw4783169045957284475:=()
def tw15501350290949191788:=()
def tw8352679594176638913:=()
def tw13582499434687024933:=()
def tw59525541414424291:=()
def tw2017665209477796161:=()
def tw15778216092337521695:=()
def tw8768893646753037604:=()
def tw15305331241596489691:=()
def tw10415062573582803488:=()
def tw320659333814764858:=()
def tw13283520749804089097:=()
def tw9163263936922721622:=()
def tw6896346760961619221:=()
def tw15416116986286764654:=()
def tw2393371440824871764:=()
def tw1929222048731355231:=()
def tw2785887470289927300:=()
def tw2222157665396206482:=()
def tw4232925649164773878:=()
def tw4763435326952192282:=()
def tw5985127613603659392:=()
def tw8548786596838839891:=()
def tw14885703628126917525:=()
def tw17534459122476610488:=()
def tw8084159962875715649:=()
def tw18303581902301948079:=()
def tw1102750536248533536:=()
def tw7594233153899360612:=()
def tw13315771867635577245:=()
def tw8519181545750670447:=()
def tw4017301934302533916:=()
def tw15753805916583870674:=()
def tw3029180292557626513:=()
def tw8281874556755794519:=()
def tw12993008407785641829:=()
def tw4811839086396588838:=()
def tw10524571818127520159:=()
def tw7955412727243624841:=()
def tw13516709080005054328:=()
def tw13141070519483954660:=()
def tw9823001971436236104:=()
def tw9210119280984991434:=()
def tw15592840587100251737:=()
def tw13381066823020919239:=()
def tw15274486433391746712:=()
def tw5932743993245872210:=()
def tw6150247212834212611:=()
def tw4121361330346204418:=()
def tw7050023310324319867:=()
def tw9802309078219355704:=()
def tw766826044946310132:=()
def tw7629586269421713744:=()
def tw8292278213278325549:=()
def tw2116172444896811537:=()
def tw10859909950518056308:=()
def tw7144123180126799710:=()
def tw13349158729037500067:=()
def tw10655359141578808185:=()
def tw13636796779183737928:=()
def tw5195939346692161573:=()
def tw13911698313691178203:=()
def tw6633836504595126388:=()
def tw1123143602154477039:=()
def tw8777709708042814147:=()
def tw519175734124098805:=()
def tw12989067669844330767:=()
def tw7508463032205396781:=()
def tw12988126612072385793:=()
def tw2192368298284417988:=()
def tw12127549026079285271:=()
def tw15380237893644960349:=()
def tw18435898442424317255:=()
def tw11482740409711771142:=()
def tw2969554001470859380:=()
def tw10505406405496516990:=()
def tw12344650746979019813:=()
def tw13302206783632588079:=()
def tw2997902109718945756:=()
def tw13667393879142955121:=()
def tw11636164760677933119:=()
def tw5520447464773213794:=()
def tw9464915720276238086:=()
def tw6634673737691084106:=()
def tw15802818973471747586:=()
def tw358077441163176538:=()
def tw8873904234091927342:=()
def tw14143350174525103904:=()
def tw3041479489039369180:=()
def tw3877012172585370289:=()
def tw5232236066729237889:=()
def tw1138537268658225950:=()
def tw10575838506857838270:=()
def tw6330927639124805979:=()
def tw16643592949580801089:=()
def tw16362491884362885066:=()
def tw1700945037458152569:=()
def tw7870997242638639839:=()
def tw11951334269260819311:=()
def tw5754832040036356940:=()
def tw1890853099197444660:=()
def tw5151476822039544263:=()
def tw9255757401822757057:=()
def tw2071257671216910386:=()
def tw740892177542647633:=()
def tw7864174368951323885:=()
def tw3490705223943026951:=()
def tw14191238444946258562:=()
def tw6097366633809530247:=()
def tw10604675530337880814:=()
def tw3846917722681258246:=()
def tw17927977847532053807:=()
def tw6954490723133989889:=()
def tw3432450649334895199:=()
def tw8916490082770816754:=()
def tw11151400043448706431:=()
def tw7075165467845257724:=()
def tw15518463488246642606:=()
def tw12857189259838371635:=()
def tw4953623516918985447:=()
def tw10829820674393304374:=()
def tw2275076256132106418:=()
def tw6853122676614643088:=()
def tw8024151965023339548:=()
def tw7777799854938474014:=()
def tw15311757684469452228:=()
def tw126484303465542507:=()
def tw8052082645082711522:=()
def tw7559163514090002054:=()
def tw691364949886230259:=()
def tw11404210991296054671:=()
def tw13476047139577870154:=()
def tw15835217105467680930:=()
def tw13523372528965626570:=()
def tw8844437351196463235:=()
def tw2272527469441121868:=()
def tw5816208797833011971:=()
def tw16455369537596769138:=()
def tw5883457257047838697:=()
def tw1061731298114642660:=()
def tw9498816083029502959:=()
def tw17697037920765624334:=()
def tw768423147503596502:=()
def tw2763211614571915752:=()
def tw2798354345207959044:=()
def tw5058989933334393407:=()
def tw5384697963268710427:=()
def tw11600078389465437057:=()
def tw6271246343747460753:=()
def tw1609284156934088463:=()
def tw7998838017345877985:=()
def tw17618927704033366544:=()
def tw2802381349178644281:=()
def tw920430575572611131:=()
def tw14058776437064587186:=()
def tw2099287738309924292:=()
def tw5111162213222675690:=()
def tw3109370554070842418:=()
def tw3689446061353986237:=()
def tw2993429102013458192:=()
def tw643551625185984594:=()
def tw10235990566789616799:=()
def tw4528484556702406121:=()
def tw11691398556792173097:=()
def tw18216131602949386311:=()
def tw13248406511921709175:=()
def tw9921678696558160258:=()
def tw6152923644878073641:=()
def tw1349482700529926487:=()
def tw10688683935452074067:=()
def tw15874632070913051026:=()
def tw11056170548276385080:=()
def tw10604748533598866737:=()
def tw14112262396299182454:=()
def tw2456772683190369701:=()
def tw9746349732079830521:=()
def tw8929317486921669482:=()
def tw5794545223257560976:=()
def tw13570115020609514311:=()
def tw14413101317454125650:=()
def tw6284330621901680768:=()
def tw5228514549024427271:=()
def tw2448963389569300027:=()
def tw14697733543939246912:=()
def tw1325679584885602678:=()
def tw1831463571729456678:=()
def tw13198131875197269121:=()
def tw15280321313097926819:=()
def tw2679857002251335517:=()
def tw1520139822276986424:=()
def tw14712322025724746246:=()
def tw10717532318796353998:=()
def tw15400183359071995735:=()
def tw16236863024247805994:=()
def tw10899277372118228182:=()
def tw11058338261636013982:=()
def tw10153067006944105364:=()
def tw12085513702320585221:=()
def tw18148596313920983774:=()
def tw17959757824917974414:=()
def tw6219479016877263858:=()
def tw15471370085283889500:=()
def tw3367009584324773851:=()
def tw1898501552545701110:=()
def tw12789265442867256577:=()
def tw10913597890152336270:=()
def tw4973414849825413209:=()
def tw14517427152662280415:=()
def tw10379406703923692524:=()
def tw13573039053400473101:=()
def tw14561623455567873992:=()
def tw16082908111750703582:=()
def tw16167806974879925382:=()
def tw15422147555701751617:=()
def tw8631161473649970621:=()
def tw17638298470273321093:=()
def tw16949327757224629522:=()
def tw13913315098014025061:=()
def tw12873196352613374232:=()
def tw13870686306607993088:=()
def tw14210048139995387114:=()
def tw7294927007437581816:=()
def tw2382767320472202990:=()
def tw8585851691246342533:=()
def tw7151845053003449997:=()
def tw11436447460046490236:=()
def tw113538694382358789:=()
def tw13916262010079555160:=()
def tw904449023781997495:=()
def tw3342909188789750869:=()
def tw12495094057764660969:=()
def tw10171037894854658493:=()
def tw938151152486932377:=()
def tw16917071781429805833:=()
def tw3780123804218505022:=()
def tw6352325799234930379:=()
def tw2500500059464927355:=()
def tw5185535070573106475:=()
def tw11436124342133785012:=()
def tw6141080174667518149:=()
def tw14468503875243011564:=()
def tw18193197455781117546:=()
def tw13323395394705626575:=()
def tw1729228562309112415:=()
def tw2983048698536672282:=()
def tw3535439375113692906:=()
def tw9252537506600553610:=()
theorem te6597172245117409842:True:=trivial
end PySem.W.Fast
open PySem PySem.W PyProof.Rows
set_option maxRecDepth 100000 in
set_option maxHeartbeats 0 in
theorem PySem.Challenge.cw_helmsum_k56_whole_turned_holds : PySem.Challenge.rw_helmsum_k56_whole_turned.Holds := by
 w_on;o_law;k_head;(case hw=>w_witness2)
 k_fill
 refine Lw.walk (l:=PySem.Challenge.rw_helmsum_k56_whole_turned) rfl rfl (fun w h Y=>PySem.W.kIn_of Y) ?F
 case F =>
  intro w mg fa h KX G hmg
  refine' Lw.all_mk KX G hmg ?aC ?a0 ?l0 ?c0 ?k0 ?a1 ?l1 ?c1 ?k1 ?a2 ?l2 ?c2 ?k2 ?a3 ?l3 ?c3 ?k3 ?a4 ?l4 ?c4 ?k4 ?a5 ?l5 ?c5 ?k5 ?a6 ?l6 ?c6 ?k6 ?a7 ?l7 ?c7 ?k7 ?a8 ?l8 ?c8 ?k8 ?a9 ?l9 ?c9 ?k9 ?a10 ?l10 ?c10 ?k10 ?a11 ?l11 ?c11 ?k11 ?a12 ?l12 ?c12 ?k12 ?a13 ?l13 ?c13 ?k13 ?a14 ?l14 ?c14 ?k14 ?a15 ?l15 ?c15 ?k15 ?a16 ?l16 ?c16 ?k16 ?a17 ?l17 ?c17 ?k17 ?a18 ?l18 ?c18 ?k18 ?a19 ?i19 ?l19 ?c19 ?k19 ?a20 ?l20 ?c20 ?k20 ?a21 ?l21 ?c21 ?k21 ?a22 ?l22 ?c22 ?k22 ?a23 ?i23 ?l23 ?c23 ?k23 ?a24 ?l24 ?c24 ?k24 ?a25 ?l25 ?c25 ?k25 ?a26 ?l26 ?c26 ?k26 ?a27 ?l27 ?c27 ?k27 ?a28 ?l28 ?c28 ?k28 ?a29 ?l29 ?c29 ?k29 ?a30 ?l30 ?c30 ?k30 ?a31 ?l31 ?c31 ?k31 ?a32 ?l32 ?c32 ?k32 ?a33 ?l33 ?c33 ?k33 ?a34 ?l34 ?c34 ?k34 ?a35 ?l35 ?c35 ?k35 ?a36 ?l36 ?c36 ?k36 ?a37 ?l37 ?c37 ?k37 ?a38 ?l38 ?c38 ?k38 ?a39 ?l39 ?c39 ?k39 ?a40 ?l40 ?c40 ?k40 ?a41 ?l41 ?c41 ?k41 ?a42 ?l42 ?c42 ?k42 ?a43 ?l43 ?c43 ?k43 ?a44 ?l44 ?c44 ?k44 ?a45 ?l45 ?c45 ?k45 ?a46 ?l46 ?c46 ?k46 ?a47 ?l47 ?c47 ?k47 ?a48 ?l48 ?c48 ?k48 ?a49 ?l49 ?c49 ?k49 ?a50 ?l50 ?c50 ?k50 ?a51 ?l51 ?c51 ?k51 ?a52 ?l52 ?c52 ?k52 ?a53 ?l53 ?c53 ?k53 ?a54 ?l54 ?c54 ?k54 ?a55 ?l55 ?c55 ?k55 ?a56 ?l56 ?c56 ?k56 ?a57 ?l57 ?c57 ?k57 ?a58 ?l58 ?c58 ?k58 ?a59 ?i59 ?l59 ?c59 ?k59 ?a60 ?l60 ?c60 ?k60 ?a61 ?l61 ?c61 ?k61 ?a62 ?l62 ?c62 ?k62 ?a63 ?l63 ?c63 ?k63 ?a64 ?l64 ?c64 ?k64 ?a65 ?l65 ?c65 ?k65 ?a66 ?l66 ?c66 ?k66 ?ca0 ?cl0 ?ca1 ?cl1 ?ci0 ?ci1 ?ci2 ?pg ?hd ?po ?sa ?mk ?kc ?n_move ?n_states ?n_put ?n_ins ?n_look ?n_outs ?z_abs ?z_len ?z_min ?z_range ?z_int ?z_isinstance ?z_list ?z_bool ?z_tuple ?z_all ?z_enumerate ?z_zip ?z_sum ?z_reversed
  (case aC=>k_is)
  (case a0=>k_is)
  (case l0=>k_is)
  (case c0=>k_is)
  (case k0=>k_is)
  (case a1=>k_is)
  (case l1=>k_is)
  (case c1=>k_is)
  (case k1=>k_is)
  (case a2=>k_is)
  (case l2=>k_is)
  (case c2=>k_is)
  (case k2=>k_is)
  (case a3=>k_is)
  (case l3=>k_is)
  (case c3=>k_is)
  (case k3=>k_is)
  (case a4=>k_is)
  (case l4=>k_is)
  (case c4=>k_is)
  (case k4=>k_is)
  (case a5=>k_is)
  (case l5=>k_is)
  (case c5=>k_is)
  (case k5=>k_is)
  (case a6=>k_is)
  (case l6=>k_is)
  (case c6=>k_is)
  (case k6=>k_is)
  (case a7=>k_is)
  (case l7=>k_is)
  (case c7=>k_is)
  (case k7=>k_is)
  (case a8=>k_is)
  (case l8=>k_is)
  (case c8=>k_is)
  (case k8=>k_is)
  (case a9=>k_is)
  (case l9=>k_is)
  (case c9=>k_is)
  (case k9=>k_is)
  (case a10=>k_is)
  (case l10=>k_is)
  (case c10=>k_is)
  (case k10=>k_is)
  (case a11=>k_is)
  (case l11=>k_is)
  (case c11=>k_is)
  (case k11=>k_is)
  (case a12=>k_is)
  (case l12=>k_is)
  (case c12=>k_is)
  (case k12=>k_is)
  (case a13=>k_is)
  (case l13=>k_is)
  (case c13=>k_is)
  (case k13=>k_is)
  (case a14=>k_is)
  (case l14=>k_is)
  (case c14=>k_is)
  (case k14=>k_is)
  (case a15=>k_is)
  (case l15=>k_is)
  (case c15=>k_is)
  (case k15=>k_is)
  (case a16=>k_is)
  (case l16=>k_is)
  (case c16=>k_is)
  (case k16=>k_is)
  (case a17=>k_is)
  (case l17=>k_is)
  (case c17=>k_is)
  (case k17=>k_is)
  (case a18=>k_is)
  (case l18=>k_is)
  (case c18=>k_is)
  (case k18=>k_is)
  (case a19=>k_is)
  (case i19=>k_is)
  (case l19=>k_is)
  (case c19=>k_is)
  (case k19=>k_is)
  (case a20=>k_is)
  (case l20=>k_is)
  (case c20=>k_is)
  (case k20=>k_is)
  (case a21=>k_is)
  (case l21=>k_is)
  (case c21=>k_is)
  (case k21=>k_is)
  (case a22=>k_is)
  (case l22=>k_is)
  (case c22=>k_is)
  (case k22=>k_is)
  (case a23=>k_is)
  (case i23=>k_is)
  (case l23=>k_is)
  (case c23=>k_is)
  (case k23=>k_is)
  (case a24=>k_is)
  (case l24=>k_is)
  (case c24=>k_is)
  (case k24=>k_is)
  (case a25=>k_is)
  (case l25=>k_is)
  (case c25=>k_is)
  (case k25=>k_is)
  (case a26=>k_is)
  (case l26=>k_is)
  (case c26=>k_is)
  (case k26=>k_is)
  (case a27=>k_is)
  (case l27=>k_is)
  (case c27=>k_is)
  (case k27=>k_is)
  (case a28=>k_is)
  (case l28=>k_is)
  (case c28=>k_is)
  (case k28=>k_is)
  (case a29=>k_is)
  (case l29=>k_is)
  (case c29=>k_is)
  (case k29=>k_is)
  (case a30=>k_is)
  (case l30=>k_is)
  (case c30=>k_is)
  (case k30=>k_is)
  (case a31=>k_is)
  (case l31=>k_is)
  (case c31=>k_is)
  (case k31=>k_is)
  (case a32=>k_is)
  (case l32=>k_is)
  (case c32=>k_is)
  (case k32=>k_is)
  (case a33=>k_is)
  (case l33=>k_is)
  (case c33=>k_is)
  (case k33=>k_is)
  (case a34=>k_is)
  (case l34=>k_is)
  (case c34=>k_is)
  (case k34=>k_is)
  (case a35=>k_is)
  (case l35=>k_is)
  (case c35=>k_is)
  (case k35=>k_is)
  (case a36=>k_is)
  (case l36=>k_is)
  (case c36=>k_is)
  (case k36=>k_is)
  (case a37=>k_is)
  (case l37=>k_is)
  (case c37=>k_is)
  (case k37=>k_is)
  (case a38=>k_is)
  (case l38=>k_is)
  (case c38=>k_is)
  (case k38=>k_is)
  (case a39=>k_is)
  (case l39=>k_is)
  (case c39=>k_is)
  (case k39=>k_is)
  (case a40=>k_is)
  (case l40=>k_is)
  (case c40=>k_is)
  (case k40=>k_is)
  (case a41=>k_is)
  (case l41=>k_is)
  (case c41=>k_is)
  (case k41=>k_is)
  (case a42=>k_is)
  (case l42=>k_is)
  (case c42=>k_is)
  (case k42=>k_is)
  (case a43=>k_is)
  (case l43=>k_is)
  (case c43=>k_is)
  (case k43=>k_is)
  (case a44=>k_is)
  (case l44=>k_is)
  (case c44=>k_is)
  (case k44=>k_is)
  (case a45=>k_is)
  (case l45=>k_is)
  (case c45=>k_is)
  (case k45=>k_is)
  (case a46=>k_is)
  (case l46=>k_is)
  (case c46=>k_is)
  (case k46=>k_is)
  (case a47=>k_is)
  (case l47=>k_is)
  (case c47=>k_is)
  (case k47=>k_is)
  (case a48=>k_is)
  (case l48=>k_is)
  (case c48=>k_is)
  (case k48=>k_is)
  (case a49=>k_is)
  (case l49=>k_is)
  (case c49=>k_is)
  (case k49=>k_is)
  (case a50=>k_is)
  (case l50=>k_is)
  (case c50=>k_is)
  (case k50=>k_is)
  (case a51=>k_is)
  (case l51=>k_is)
  (case c51=>k_is)
  (case k51=>k_is)
  (case a52=>k_is)
  (case l52=>k_is)
  (case c52=>k_is)
  (case k52=>k_is)
  (case a53=>k_is)
  (case l53=>k_is)
  (case c53=>k_is)
  (case k53=>k_is)
  (case a54=>k_is)
  (case l54=>k_is)
  (case c54=>k_is)
  (case k54=>k_is)
  (case a55=>k_is)
  (case l55=>k_is)
  (case c55=>k_is)
  (case k55=>k_is)
  (case a56=>k_is)
  (case l56=>k_is)
  (case c56=>k_is)
  (case k56=>k_is)
  (case a57=>k_is)
  (case l57=>k_is)
  (case c57=>k_is)
  (case k57=>k_is)
  (case a58=>k_is)
  (case l58=>k_is)
  (case c58=>k_is)
  (case k58=>k_is)
  (case a59=>k_is)
  (case i59=>k_is)
  (case l59=>k_is)
  (case c59=>k_is)
  (case k59=>k_is)
  (case a60=>k_is)
  (case l60=>k_is)
  (case c60=>k_is)
  (case k60=>k_is)
  (case a61=>k_is)
  (case l61=>k_is)
  (case c61=>k_is)
  (case k61=>k_is)
  (case a62=>k_is)
  (case l62=>k_is)
  (case c62=>k_is)
  (case k62=>k_is)
  (case a63=>k_is)
  (case l63=>k_is)
  (case c63=>k_is)
  (case k63=>k_is)
  (case a64=>k_is)
  (case l64=>k_is)
  (case c64=>k_is)
  (case k64=>k_is)
  (case a65=>k_is)
  (case l65=>k_is)
  (case c65=>k_is)
  (case k65=>k_is)
  (case a66=>k_is)
  (case l66=>k_is)
  (case c66=>k_is)
  (case k66=>k_is)
  (case ca0=>k_is)
  (case cl0=>k_is)
  (case ca1=>k_is)
  (case cl1=>k_is)
  (case ci0=>k_is)
  (case ci1=>k_is)
  (case ci2=>k_is)
  (case pg=>k_is)
  (case hd=>k_is)
  (case po=>k_is)
  (case sa=>k_is)
  (case mk=>k_is)
  (case kc=>k_is)
  (case n_move=>k_is)
  (case n_states=>k_is)
  (case n_put=>k_is)
  (case n_ins=>k_is)
  (case n_look=>k_is)
  (case n_outs=>k_is)
  (case z_abs=>k_is)
  (case z_len=>k_is)
  (case z_min=>k_is)
  (case z_range=>k_is)
  (case z_int=>k_is)
  (case z_isinstance=>k_is)
  (case z_list=>k_is)
  (case z_bool=>k_is)
  (case z_tuple=>k_is)
  (case z_all=>k_is)
  (case z_enumerate=>k_is)
  (case z_zip=>k_is)
  (case z_sum=>k_is)
  (case z_reversed=>k_is)