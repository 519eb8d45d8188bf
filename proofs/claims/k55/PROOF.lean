import PyProof.Rows.All
import Wide.All
import OpenK.AllK
import Wide.FinOn
import Lean
import PyProof.EqAt
import PyProof.EqKinds
import PyProof.TupleCall
import PyProof.NeKinds
import PySem.Challenge.RW_helmsum_k55_whole_none_more_than_n
set_option Elab.async false
set_option linter.all false
set_option maxRecDepth 100000
abbrev aa:=@List.getD_eq_getElem?_getD
abbrev af:=@List.getElem?_eq_getElem
abbrev ag:=@List.length_map
abbrev ah:=@Nat.le_trans
abbrev ai:=@List.length_append
abbrev ak:=@Nat.pow_le_pow_right
abbrev ar:=@Nat.le_refl
abbrev aw:=@List.mem_of_getElem?
abbrev ax:=@List.mem_append
abbrev az:=@List.getElem_mem
abbrev aA:=@List.getElem?_eq_some_iff
abbrev aB:=@List.mem_map
abbrev aD:=@List.getElem?_map
abbrev aG:=@List.length_replicate
abbrev aH:=@List.take_of_length_le
abbrev aI:=@List.mem_cons
abbrev aJ:=@Nat.mul_le_mul_right
abbrev aL:=@List.size_toArray
abbrev aN:=@List.getElem?_eq_none
abbrev aP:=@Rat.intCast_mul
abbrev aR:=@Nat.le_of_lt
abbrev aS:=@Bool.false_ne_true
abbrev aU:=@List.length_singleton
abbrev aX:=@Nat.zero_le
abbrev aY:=@Nat.lt_of_le_of_lt
abbrev bc:=@List.getElem?_append_right
abbrev be:=@List.getElem_of_mem
abbrev bg:=@List.length_cons
abbrev bp:=@List.not_mem_nil
abbrev bx:=@Rat.intCast_natCast
abbrev bA:=@Nat.lt_of_lt_of_le
abbrev bG:=@PySem.boot_len
abbrev bH:=@Nat.mul_le_mul
abbrev bJ:=@List.getElem?_append_left
abbrev bN:=@List.length_zipWith
abbrev bP:=@List.append_assoc
abbrev bQ:=@List.mem_append_right
abbrev bT:=@List.mem_cons_of_mem
abbrev bW:=@Nat.ne_of_lt
abbrev bX:=@Nat.lt_or_ge
abbrev b7:=@Option.some.inj
abbrev cg:=@Nat.one_le_two_pow
abbrev cy:=@List.length_range
abbrev cz:=@Int.fdiv_eq_ediv_of_nonneg
abbrev cB:=@List.getElem?_zipWith
abbrev cC:=@List.mem_or_eq_of_mem_set
abbrev cF:=@Nat.pow_add
abbrev cG:=@Nat.mul_comm
abbrev cH:=@List.mem_of_mem_take
abbrev cP:=@Rat.intCast_neg
abbrev cQ:=@List.nil_append
abbrev cT:=@List.length_take
abbrev cW:=@PySem.F.plainAttrs_list
abbrev cX:=@List.mem_cons_self
abbrev cY:=@Int.natAbs_natCast
abbrev dd:=@Rat.intCast_inj
abbrev df:=@PySem.W.kia_one
abbrev dg:=@List.map_append
abbrev dh:=@Nat.succ_le_succ
abbrev di:=@List.ext_getElem
abbrev dj:=@List.getElem?_range
abbrev dn:=@Nat.lt_trichotomy
abbrev dt:=@Rat.mul_comm
abbrev du:=@Nat.not_lt_zero
abbrev dv:=@List.mem_singleton
abbrev dw:=@List.mem_replicate
abbrev dC:=@Nat.pow_lt_pow_right
abbrev dD:=@List.getElem?_replicate
abbrev dE:=@Bool.and_eq_true
abbrev dM:=@Nat.lt_irrefl
abbrev dR:=@Nat.mul_le_mul_left
abbrev dX:=@List.nodup_cons
abbrev dZ:=@List.length_set
abbrev d6:=@List.drop_eq_getElem_cons
abbrev eB:=@Nat.lt_succ_self
abbrev eC:=@List.getElem_map
abbrev eD:=@List.cons_append
abbrev eE:=@Int.gcd_dvd_left
abbrev eT:=@Nat.le_mul_of_pos_right
abbrev eU:=@Int.gcd_dvd_right
abbrev fg:=@Nat.sub_self
abbrev fh:=@Nat.le_mul_of_pos_left
abbrev fv:=@List.map_cons
abbrev fB:=@Int.natAbs_mul
abbrev fJ:=@Int.natAbs_dvd_natAbs
abbrev fK:=@Bool.beq_eq_decide_eq
abbrev gM:=@Nat.succ_mul
abbrev gN:=@List.flatten_cons
abbrev gP:=@PySem.F.type_list_append
abbrev gQ:=@PySem.F.slot_list_append
abbrev iM:=@Nat.mul_pos
abbrev iN:=@Int.mul_pos
abbrev iW:=@Rat.mul_zero
abbrev iX:=@Int.emod_lt_of_pos
abbrev iY:=@Bool.false_eq_true
abbrev jy:=@Nat.mul_assoc
abbrev jW:=@List.nodup_append
abbrev jX:=@List.mem_append_left
abbrev jY:=@List.getElem_zipWith
abbrev lF:=@PySem.IsL.update
abbrev lG:=@List.lookup_cons
abbrev lJ:=@Int.mul_comm
abbrev lK:=@Int.gcd_comm
abbrev lY:=@PySem.F.plain_extend_loop
abbrev lZ:=@PySem.mem_of_lookup
abbrev ma:=@List.replicate_succ
abbrev md:=@List.length_reverse
abbrev my:=@Nat.le_of_dvd
abbrev mB:=@List.getElem?_take_of_lt
abbrev mC:=@Int.mul_assoc
abbrev m8:=@List.mem_filter
abbrev m9:=@List.append_nil
abbrev ng:=@Int.emod_nonneg
abbrev nh:=@Bool.eq_iff_iff
abbrev nJ:=@Nat.eq_zero_or_pos
abbrev nK:=@List.getElem_range
abbrev ou:=@Int.natCast_dvd_natCast
abbrev ow:=@Int.eq_ofNat_of_zero_le
abbrev ox:=@Int.dvd_mul_of_dvd_left
abbrev pA:=@Nat.pow_succ
abbrev pB:=@Nat.add_comm
abbrev pC:=@List.map_map
abbrev pE:=@Int.natAbs_neg
abbrev qC:=@PySem.F.slot_zip_next
abbrev qF:=@List.all_eq_true
abbrev sF:=@Nat.le_succ
abbrev sG:=@List.map_id
abbrev sI:=@Rat.natCast_mul
abbrev sJ:=@Nat.min_eq_left
abbrev tZ:=@Nat.pow_le_pow_left
abbrev t7:=@List.flatten_append
abbrev uQ:=@Rat.add_zero
abbrev vA:=@List.mem_range
abbrev v3:=@Int.mul_neg_of_pos_of_neg
abbrev xx:=@Nat.lt_succ_of_lt
abbrev xy:=@List.ext_getElem?
abbrev yE:=@Rat.intCast_eq_zero_iff
abbrev yF:=@Nat.min_le_right
abbrev zh:=@PySem.W.cellsFrom_some
abbrev zi:=@Nat.min_self
abbrev zj:=@Nat.dvd_refl
abbrev zm:=@Int.zero_add
abbrev AB:=@Rat.intCast_sub
abbrev AD:=@Rat.intCast_add
abbrev AE:=@Nat.pow_dvd_pow
abbrev AF:=@List.range_succ
abbrev AG:=@List.length_zip
abbrev BX:=@Nat.pow_mul
abbrev BY:=@Nat.one_mul
abbrev BZ:=@List.forIn_nil
abbrev Dd:=@PySem.W.plainGet_of
abbrev De:=@List.map_congr_left
abbrev Df:=@List.filterMap_cons
abbrev Es:=@PySem.W.callWith_K
abbrev Et:=@List.append_of_mem
abbrev GV:=@Nat.ne_of_gt
abbrev GW:=@Int.dvd_refl
abbrev IM:=@List.mem_flatten
abbrev KU:=@Int.dvd_gcd
abbrev KY:=@Rat.mul_eq_zero
abbrev KZ:=@Nat.le_antisymm
abbrev K2:=@List.of_mem_zip
abbrev K3:=@List.map_const'
abbrev K4:=@List.forIn_cons
abbrev K5:=@Int.gcd_pos_of_ne_zero_right
abbrev Nf:=@List.nodup_nil
abbrev Ng:=@List.length_eraseIdx_of_lt
abbrev Nh:=@Int.eq_of_mul_eq_mul_right
abbrev OF:=@PySem.F.entry_extend_loop
abbrev OG:=@List.pairwise_iff_getElem
abbrev OH:=@List.getElem?_zip_eq_some
abbrev OI:=@Int.natAbs_ediv_of_nonneg
abbrev OL:=@PySem.F.type_list_extend
abbrev OM:=@PySem.F.slot_list_extend
abbrev ON:=@Option.isSome_iff_exists
abbrev OO:=@Nat.dvd_trans
abbrev OP:=@List.mem_of_mem_eraseIdx
abbrev OQ:=@Int.natAbs_eq
abbrev PZ:=@PySem.F.args_zip_next_1
abbrev P0:=@Nat.add_sub_cancel_left
abbrev P1:=@List.filter_cons_of_pos
abbrev P2:=@List.filter_cons_of_neg
namespace L2
open PySem PySem.Spec PyProof.Rows
abbrev Key:=Sum Int Str
def MQ:Key->Value->Bool
 | .inl k,v=>Value.isInt k v
 | .inr x,v=>Value.isStrOf x v
def Qp (w:World):Key->Int
 | .inl k=>hashInt k
 | .inr x=>hashStr w x
theorem eQ:∀{k:Key} {v:Value},MQ k v=true->(∃i t,k=Sum.inl i/\v=Value.int i t)\/(∃x t,k=Sum.inr x/\v=Value.str x t)
 | .inl i,v,h=>by
  obtain ⟨t,e⟩:=Value.isInt_shape (k:=i) (v:=v) h;exact .inl ⟨i,t,rfl,e⟩
 | .inr x,v,h=>by
  obtain ⟨t,e⟩:=Value.isStrOf_shape (x:=x) (v:=v) h;exact .inr ⟨x,t,rfl,e⟩
theorem Oh (a b:Int):decide ((Sum.inl a:Key)=Sum.inl b)=(a == b):=by
 by_cases e:a=b
 ·subst e;simp
 ·have h:¬(Sum.inl a:Key)=Sum.inl b:=fun q=>e (Sum.inl.inj q)
  rw[decide_eq_false h];exact (beq_eq_false_iff_ne.mpr e).symm
theorem Oe (a b:Str):decide ((Sum.inr a:Key)=Sum.inr b)=decide (a=b):=by
 by_cases e:a=b
 ·subst e;simp
 ·have h:¬(Sum.inr a:Key)=Sum.inr b:=fun q=>e (Sum.inr.inj q)
  rw[decide_eq_false h,decide_eq_false e]
theorem Og (a:Int) (b:Str):decide ((Sum.inl a:Key)=Sum.inr b)=false:=decide_eq_false (fun q=>nomatch q)
theorem Of (a:Str) (b:Int):decide ((Sum.inr a:Key)=Sum.inl b)=false:=decide_eq_false (fun q=>nomatch q)
def FX (prog:Program) (w:World):PySem.KeyKind prog w Key where
 is:=MQ
 hash:=Qp w
 inj:=fun v a b ha hb=>by
  rcases eQ ha with ⟨i,t,rfl,rfl⟩ | ⟨x,t,rfl,rfl⟩
  ·rcases eQ hb with ⟨j,u,rfl,e⟩ | ⟨y,u,rfl,e⟩
   ·injection e with e1 _;rw[e1]
   ·exact nomatch e
  ·rcases eQ hb with ⟨j,u,rfl,e⟩ | ⟨y,u,rfl,e⟩
   ·exact nomatch e
   ·injection e with e1 _;rw[e1]
 byValue:=fun k v h=>by
  rcases eQ h with ⟨i,t,rfl,rfl⟩ | ⟨x,t,rfl,rfl⟩ <;> rfl
 pyHash:=fun hv h=>by
  rcases eQ hv with ⟨i,t,rfl,rfl⟩ | ⟨x,t,rfl,rfl⟩
  ·exact wpAny_pyHash_int h
  ·exact wpAny_pyHash_str h
 eqBool:=fun hu hv h=>by
  rcases eQ hu with ⟨i,t,rfl,rfl⟩ | ⟨x,t,rfl,rfl⟩
  ·rcases eQ hv with ⟨j,u,rfl,rfl⟩ | ⟨y,u,rfl,rfl⟩
   ·rw[Oh] at h;exact wpAny_eqBool_int h
   ·rw[Og] at h;exact SeqAt.EqAt.int_str i t y u _ _ _ _ h
  ·rcases eQ hv with ⟨j,u,rfl,rfl⟩ | ⟨y,u,rfl,rfl⟩
   ·rw[Of] at h;exact SeqAt.EqAt.str_int x t j u _ _ _ _ h
   ·rw[Oe] at h;exact wpAny_eqBool_str h
 «strs»:=fun k x t v h=>by
  rcases eQ h with ⟨i,u,rfl,e⟩ | ⟨y,u,rfl,e⟩
  ·exact nomatch e
  ·injection e with e1 _
   subst e1;cases v <;> rfl
inductive V where
  | non | bl (b : Bool) | int (i : Int) | str (x : Str) | byt (b : Array UInt8) | flt (b : UInt64) | ref (a : Addr) | ty (n : String)
  deriving DecidableEq

def RelV:V->Value->Prop
 | .non,u=>u=Value.none
 | .bl b,u=>u=Value.bool b
 | .int i,u=>∃t,u=Value.int i t
 | .str x,u=>∃t,u=Value.str x t
 | .byt b,u=>∃t,u=Value.bytes b t
 | .flt b,u=>∃t,u=Value.float b t
 | .ref a,u=>u=Value.ref a
 | .ty n,u=>u=Value.type n
abbrev cA:List V->List Value->Prop:=Paired RelV
theorem cA.length {xs:List V} {us:List Value} (r:cA xs us):xs.length=us.length:=Paired.length r
theorem cA.get:∀{xs:List V} {us:List Value} {i:Nat} {x:V},cA xs us->xs[i]?=some x->∃u,us[i]?=some u/\RelV x u
 | _,_,_,_,.nil,e=>by simp at e
 | _,_,0,_,.cons r _,e=>by simp at e;subst e;exact ⟨_,rfl,r⟩
 | _,_,i+1,x,.cons _ t,e=>by
  obtain ⟨u,h1,h2⟩:=cA.get (i:=i) (x:=x) t (by simpa using e);exact ⟨u,by simpa using h1,h2⟩
theorem cA.set {x:V} {u:Value} (r:RelV x u):∀{xs:List V} {us:List Value} (i:Nat),cA xs us->cA (xs.set i x) (us.set i u)
 | _,_,_,.nil=>.nil
 | _,_,0,.cons _ t=>.cons r t
 | _,_,i+1,.cons q t=>.cons q (cA.set r i t)
theorem cA.append:∀{xs ys:List V} {us ws:List Value},cA xs us->cA ys ws->cA (xs++ys) (us++ws)
 | _,_,_,_,.nil,s=>s
 | _,_,_,_,.cons r t,s=>.cons r (cA.append t s)
theorem cA.take:∀{xs:List V} {us:List Value} (n:Nat),cA xs us->cA (xs.take n) (us.take n)
 | _,_,0,_=>.nil
 | _,_,_+1,.nil=>.nil
 | _,_,n+1,.cons r t=>.cons r (cA.take n t)
theorem cA.drop:∀{xs:List V} {us:List Value} (n:Nat),cA xs us->cA (xs.drop n) (us.drop n)
 | _,_,0,r=>r
 | _,_,_+1,.nil=>.nil
 | _,_,n+1,.cons _ t=>cA.drop n t
def A0:Option V->Option Value->Prop
 | some v,some u=>RelV v u
 | none,none=>True
 | _,_=>False
def KV {κ:Type}:List (κ×V)->List (κ×Value)->Prop:=Paired fun (p:κ×V) (q:κ×Value)=>p.1=q.1/\RelV p.2 q.2
def kV:Key->V
 | .inl i=>.int i
 | .inr x=>.str x
inductive HO where
 | lst (xs:List V)
 | tup (xs:List V)
 | dK (kvs:List (Key×V)) | dT (kvs:List (List Key×V))
 | set (S:Int->Bool) (n:Nat)
 | ins (C dx:Addr) (fs:List (Str×V))
 | own (x:Addr)
 | xd (fs:List (Str×V))
 | met (f x:Addr)
 | rng (lo hi:Int)
 | frz (o:Obj) (u:HO)
 | tbl (ps:Array Value)
 | ext (φ:Heap->Prop)
abbrev Hp:=Addr->Option HO
def upd (H:Hp) (a:Addr) (o:HO):Hp:=fun b=>if b=a then some o else H b
theorem aF {H:Hp} {a:Addr} {o:HO}:upd H a o a=some o:=by unfold upd;rw[if_pos rfl]
theorem br {H:Hp} {a b:Addr} {o:HO} (h:b≠a):upd H a o b=H b:=by unfold upd;rw[if_neg h]
theorem eY {H:Hp} {a b:Addr} {o:HO} (h:H a=some o) (h':H b=none):a≠b:=by
 intro e;subst e;rw[h] at h';cases h'
section
variable (P:Program) (w:World)
def js (H:Hp) (h:Heap) (a:Addr):HO->Prop
 | .lst xs=>xs.length<=sizeLine/\∃(its:List Value) (n:Nat),cA xs its/\h.get? a=some { cls:=.type "list",data:=.seq its.toArray n }
 | .tup xs=>xs.length<=sizeLine/\∃its:List Value,cA xs its/\IsTup h a its.toArray
 | .dK kvs=>kvs.length<=sizeLine/\(a == sysModules)=false/\∃vs,KV kvs vs/\h.DictOf (FX P w) a vs
 | .dT kvs=>kvs.length<=sizeLine/\(a == sysModules)=false/\∃xs:List (List Key×Addr×Value),
   Paired (fun (p:List Key×V) (q:List Key×Addr×Value)=>p.1=q.1/\H q.2.1=some (.tup (p.1.map kV))/\RelV p.2 q.2.2) kvs xs /\
   ∃o es ep,h.get? a=some o/\o.ExactDict/\o.data=.dict es ep/\es.toList=xs.map (entryOfKey (tupleKind (FX P w)))/\(xs.map (·.1)).Nodup
 | .set S n=>h.SetOf (intKind P w) a S n
 | .ins C dx fs=>H dx=some (.own a)/\fs.length<=1000/\dx≠a/\h.get? a=some (PySem.W.instObj C dx) /\
   ∃mA,h.Ns1 dx mA/\(∀f,A0 (fs.lookup f) (mA f))/\PySem.Within mA (fs.map (·.1))
 | .own _=>∃o,h.get? a=some o
 | .xd fs=>∃mA,h.Ns1 a mA/\∀f,A0 (fs.lookup f) (mA f)
 | .rng lo hi=>∃t u v,h.get? a=some { cls:=.type "range",data:=.fields #[.int lo t,.int hi u,.int 1 v] }
 | .frz o u=>h.get? a=some o/\js H h a u
 | .tbl ps=>h.get? a=some { cls:=.none,data:=.fields ps }
 | .met f x=>h.get? a=some (PySem.W.methodObj (.ref f) (.ref x))
 | .ext φ=>φ h/\(∃o,h.get? a=some o)/\∀h1 h2:Heap,φ h1->(∀o,h1.get? a=some o->h2.get? a=some o)->φ h2
def zd (H:Hp) (h:Heap):Prop:=∀a o,H a=some o->js P w H h a o
end
section
variable {P:Program} {w:World} {H H':Hp} {h h':Heap} {a:Addr} {o:HO}
theorem js.lt (x:js P w H h a o):a < h.objs.size:=by
 cases o with
 | lst xs=>obtain ⟨_,_,_,_,e⟩:=x;exact Heap.lt_size e
 | tup xs=>obtain ⟨_,_,_,p⟩:=x;exact p.lt
 | dK kvs=>obtain ⟨_,_,_,_,o,_,_,e,_⟩:=x;exact Heap.lt_size e
 | dT kvs=>obtain ⟨_,_,_,_,o,_,_,e,_⟩:=x;exact Heap.lt_size e
 | set S n=>obtain ⟨o,_,_,_,e,_⟩:=x;exact Heap.lt_size e
 | ins C dx fs=>obtain ⟨_,_,_,e,_⟩:=x;exact Heap.lt_size e
 | own y=>obtain ⟨_,e⟩:=x;exact Heap.lt_size e
 | xd fs=>obtain ⟨_,⟨_,_,_,e,_⟩,_⟩:=x;exact Heap.lt_size e
 | rng lo hi=>obtain ⟨_,_,_,e⟩:=x;exact Heap.lt_size e
 | frz ob u=>obtain ⟨e,_⟩:=x;exact Heap.lt_size e
 | tbl ps=>exact Heap.lt_size (show h.get? a=some _ from x)
 | met f y=>exact Heap.lt_size (show h.get? a=some _ from x)
 | ext φ=>obtain ⟨_,⟨_,e⟩,_⟩:=x;exact Heap.lt_size e
theorem Paired.mapP {α β:Type} {F G:α->β->Prop}:∀{l₁:List α} {l₂:List β},Paired F l₁ l₂->(∀a b,F a b->G a b)->Paired G l₁ l₂
 | _,_,.nil,_=>.nil
 | _,_,.cons r t,f=>.cons (f _ _ r) (Paired.mapP t f)
theorem Paired.imp' {α β:Type} {F G:α->β->Prop} (f:∀a b,F a b->G a b) {l₁:List α} {l₂:List β} (r:Paired F l₁ l₂):Paired G l₁ l₂:=Paired.mapP r f
theorem js.stay (x:js P w H h a o) (k:∀b u,(b=a\/H b=some (.own a))->h.get? b=some u->h'.get? b=some u)
  (ho:∀b,H b=some (.own a)->H' b=some (.own a)) (ht:∀b xs,H b=some (.tup xs)->H' b=some (.tup xs)):js P w H' h' a o:=by
 induction o with
 | lst xs=>obtain ⟨z,its,n,r,e⟩:=x;exact ⟨z,its,n,r,k _ _ (.inl rfl) e⟩
 | tup xs=>obtain ⟨z,its,r,ob,e,c⟩:=x;exact ⟨z,its,r,ob,k _ _ (.inl rfl) e,c⟩
 | dK kvs=>obtain ⟨z,y,vs,r,ob,es,ep,e,c⟩:=x;exact ⟨z,y,vs,r,ob,es,ep,k _ _ (.inl rfl) e,c⟩
 | dT kvs =>
  obtain ⟨z,y,xs,r,ob,es,ep,e,c⟩:=x;exact ⟨z,y,xs,Paired.mapP r fun p q z=>⟨z.1,ht _ _ z.2.1,z.2.2⟩,ob,es,ep,k _ _ (.inl rfl) e,c⟩
 | set S n=>obtain ⟨ob,es,ep,t,e,c⟩:=x;exact ⟨ob,es,ep,t,k _ _ (.inl rfl) e,c⟩
 | ins C dx fs =>
  obtain ⟨d,z,ne,e,mA,⟨od,es,ep,e2,c⟩,r⟩:=x;exact ⟨ho _ d,z,ne,k _ _ (.inl rfl) e,mA,⟨od,es,ep,k _ _ (.inr d) e2,c⟩,r⟩
 | own y=>obtain ⟨ob,e⟩:=x;exact ⟨ob,k _ _ (.inl rfl) e⟩
 | xd fs=>obtain ⟨mA,⟨od,es,ep,e,c⟩,r⟩:=x;exact ⟨mA,⟨od,es,ep,k _ _ (.inl rfl) e,c⟩,r⟩
 | rng lo hi=>obtain ⟨t,u,v,e⟩:=x;exact ⟨t,u,v,k _ _ (.inl rfl) e⟩
 | frz ob u ih=>obtain ⟨e,q⟩:=x;exact ⟨k _ _ (.inl rfl) e,ih q⟩
 | tbl ps =>
  have e:h.get? a=some { cls:=.none,data:=.fields ps }:=x;show h'.get? a=some { cls:=.none,data:=.fields ps }
  exact k a _ (.inl rfl) e
 | met f y =>
  have e:h.get? a=some (PySem.W.methodObj (.ref f) (.ref y)):=x;show h'.get? a=some (PySem.W.methodObj (.ref f) (.ref y))
  exact k a _ (.inl rfl) e
 | ext φ=>obtain ⟨p,⟨o,e⟩,st⟩:=x;exact ⟨st _ _ p fun o q=>k _ _ (.inl rfl) q,⟨o,k _ _ (.inl rfl) e⟩,st⟩
theorem zd.lt (x:zd P w H h) (e:H a=some o):a < h.objs.size:=(x a o e).lt
theorem zd.fresh (x:zd P w H h) (e:h.objs.size<=a):H a=none:=by
 cases q:H a with
 | none=>rfl
 | some u=>exact absurd (bA (x.lt q) e) (dM _)
theorem zd.kept (x:zd P w H h) (k:∀b u,h.get? b=some u->h'.get? b=some u):zd P w H h':=fun a o e =>
 (x a o e).stay (fun b u _ q=>k b u q) (fun _ q=>q) fun _ _ q=>q
theorem zd.laid (x:zd P w H h) (k:∀b u,h.get? b=some u->h'.get? b=some u) (hp:h.objs.size<=a) (new:js P w (upd H a o) h' a o):zd P w (upd H a o) h':=fun b u e=>by
 have hn:=x.fresh hp;by_cases hb:b=a
 ·subst hb;rw[aF] at e;cases e;exact new
 ·rw[br hb] at e;exact (x b u e).stay (fun c v _ q=>k c v q) (fun c q=>by rw[br (eY q hn)];exact q) fun c xs q=>by rw[br (eY q hn)];exact q
end
def Rd (H:Hp) (a:Addr) (u:HO):Prop:=H a=some u\/∃o,H a=some (.frz o u)
theorem Rd.ok {P:Program} {w:World} {H:Hp} {h:Heap} {a:Addr} {u:HO} (r:Rd H a u) (x:zd P w H h):js P w H h a u:=by
 rcases r with r | ⟨o,r⟩
 ·exact x a u r
 ·obtain ⟨_,q⟩:=x a _ r;exact q
def Qd:Option HO->Prop
 | some (.lst _)=>True
 | some (.dK _)=>True
 | some (.dT _)=>True
 | some (.set _ _)=>True
 | some (.ins _ _ _)=>True
 | some (.ext _)=>True
 | _=>False
section
variable {P:Program} {w:World} {H:Hp} {h h':Heap} {x e:Addr} {o':HO}
theorem zd.write (ok:zd P w H h) (mu:Qd (H x)) (he:e=x\/H e=some (.own x)) (k:∀b u,b≠e->h.get? b=some u->h'.get? b=some u) (heo:∃u,h'.get? e=some u)
  (new:js P w (upd H x o') h' x o'):zd P w (upd H x o') h':=fun b u q=>by
 have nown:∀c y,H c=some (.own y)->c≠x:=fun c y r z=>by subst z;rw[r] at mu;exact mu
 have ntup:∀c xs,H c=some (.tup xs)->c≠x:=fun c xs r z=>by subst z;rw[r] at mu;exact mu
 by_cases hb:b=x
 ·subst hb;rw[aF] at q;cases q;exact new
 ·rw[br hb] at q;by_cases hbe:b=e
  ·have q':H b=some (.own x):=by
    rcases he with z | z
    ·exact absurd (hbe.trans z) hb
    ·rw[hbe];exact z
   rw[q] at q';cases q';obtain ⟨v,hv⟩:=heo;exact ⟨v,by rw[hbe];exact hv⟩
  ·refine (ok b u q).stay (fun c v hc r=>k c v ?_ r) (fun c r=>by rw[br (nown c b r)];exact r) fun c xs r=>by rw[br (ntup c xs r)];exact r
   rcases hc with rfl | hc
   ·exact hbe
   ·rintro rfl;rcases he with z | z
    ·exact nown c b hc z
    ·rw[hc] at z;cases z;exact hb rfl
end
structure Un (fs ex:List Addr) (H H':Hp) (h h':Heap):Prop where
 keep:∀b o,h.get? b=some o->H b=none->b∉fs->b∉ex->h'.get? b=some o
 slot:∀b o,h.get? b=some o->H b=none->b∈fs->b∉ex->∃sl,h'.get? b=some { o with slots:=sl }
 free:∀b o,h.get? b=some o->H b=none->b∉ex->H' b=none
 there:∀b o,h.get? b=some o->b∉ex->∃o',h'.get? b=some o'
 tups:∀b xs,H b=some (.tup xs)->H' b=some (.tup xs)
 frzs:∀b o u,H b=some (.frz o u)->H' b=some (.frz o u)
 tbls:∀b ps,H b=some (.tbl ps)->∃more,H' b=some (.tbl (ps++more))
section
variable {fs fs' ex ex':List Addr} {H H1 H2:Hp} {h h1 h2 h':Heap} {a x e:Addr} {o:HO}
theorem Un.any (u:Un fs ex H H1 h h1) {b:Addr} {ob:Obj} (q:h.get? b=some ob) (n:H b=none) (hx:b∉ex):∃sl,h1.get? b=some { ob with slots:=sl }:=by
 by_cases hb:b∈fs
 ·exact u.slot b ob q n hb hx
 ·exact ⟨ob.slots,u.keep b ob q n hb hx⟩
theorem Un.kept (k:∀b u,h.get? b=some u->h'.get? b=some u):Un fs ex H H h h' :=
 ⟨fun b ob q _ _ _=>k b ob q,fun b ob q _ _ _=>⟨ob.slots,k b ob q⟩,fun _ _ _ n _=>n,fun b ob q _=>⟨ob,k b ob q⟩,fun _ _ q=>q,fun _ _ _ q=>q,fun _ ps q=>⟨#[],by rw[q];simp⟩⟩
theorem Un.refl:Un fs ex H H h h:=Un.kept fun _ _ q=>q
theorem Un.laid (k:∀b u,h.get? b=some u->h'.get? b=some u) (hp:h.objs.size<=a) (hn:H a=none):Un fs ex H (upd H a o) h h' where
 keep:=fun b u q _ _ _=>k b u q
 slot:=fun b u q _ _ _=>⟨u.slots,k b u q⟩
 free:=fun b u q n _=>by rw[br (bW (bA (Heap.lt_size q) hp))];exact n
 there:=fun b u q _=>⟨u,k b u q⟩
 tups:=fun b xs q=>by rw[br (eY q hn)];exact q
 frzs:=fun b u xs q=>by rw[br (eY q hn)];exact q
 tbls:=fun b ps q=>⟨#[],by rw[br (eY q hn),q];simp⟩
theorem Un.write (mu:Qd (H x)) (he:e=x\/H e=some (.own x)) (k:∀b u,b≠e->h.get? b=some u->h'.get? b=some u) (heo:∃u,h'.get? e=some u):Un fs ex H (upd H x o) h h':=by
 have hx:∀b,H b=none->b≠x:=fun b n z=>by subst z;rw[n] at mu;exact mu
 have hb:∀b,H b=none->b≠e:=fun b n z=>by
  subst z;rcases he with r | r
  ·exact hx b n r
  ·rw[n] at r;cases r
 have hm:∀b u,H b=some u->¬Qd (some u)->b≠x:=fun b u q nm z=>by subst z;rw[q] at mu;exact nm mu
 refine ⟨fun b u q n _ _=>k b u (hb b n) q,fun b u q n _ _=>⟨u.slots,k b u (hb b n) q⟩,fun b u q n _=>by rw[br (hx b n)];exact n,fun b u q _=>?_,
  fun b xs q=>by rw[br (hm b _ q fun z=>z)];exact q,fun b u xs q=>by rw[br (hm b _ q fun z=>z)];exact q,fun b ps q=>⟨#[],by rw[br (hm b _ q fun z=>z),q];simp⟩⟩
 by_cases hbe:b=e
 ·subst hbe;exact heo
 ·exact ⟨u,k b u hbe q⟩
end
def P6 (h:Heap) (H:Hp):List Addr:=(List.range h.objs.size).filter fun a=>(H a).isSome
def CK (h:Heap) (H:Hp):Heap:=PySem.W.hideAll h (P6 h H)
theorem Iy (h:Heap) (H:Hp):(CK h H).objs.size=h.objs.size:=PySem.W.hideAll_size _ _
theorem Kg {h:Heap} {H:Hp} {b:Addr} {o:Obj} (e:h.get? b=some o) (n:H b=none):(CK h H).get? b=some o :=
 PySem.W.hideAll_get _ e fun hm=>by
  have q:(H b).isSome=true:=(m8.mp hm).2;rw[n] at q;simp at q
theorem L8 {h:Heap} {H:Hp} {b:Addr} {o:Obj} (e:(CK h H).get? b=some o):h.get? b=some o/\H b=none:=by
 have e':h.get? b=some o:=PySem.W.of_hideAll (P6 h H) e;refine ⟨e',?_⟩;cases q:H b with
 | none=>rfl
 | some x =>
  have hm:b∈P6 h H:=m8.mpr ⟨vA.mpr (Heap.lt_size e'),by simp [q]⟩;have z:(CK h H).get? b=none:=PySem.W.hideAll_none (P6 h H) hm;rw[z] at e;cases e
structure Mod (K:PySem.W.Frag) (mg:Str->Option Value) (base:Heap):Prop where
 kin:K.In base
 glob:base.Ns mainGlobals mg
 blt:∃mb,base.Ns builtinsNs mb/\∀x:Str,x≠"__name__"->mb x=bootBuiltins x
 nolimit:base.NoLimit
structure Cx where
 prog:Program
 w:World
 K:PySem.W.Frag
 mg:Str->Option Value
 base:Heap
 A:Around
 N:List Str
 s₀:Shared
 H₀:Hp
 env:Env
 outer:List Env
 stack:List Env
 ex:List Addr
 fn:Str->Bool
 calm:Bool
 pn:List (Addr×Obj)
 xe:Value->Shared->Prop
def IK (l:List Env):List Addr:=l.filterMap (·.frame)
abbrev Cx.fs (X:Cx):List Addr:=IK X.outer
def Qv (sc:Scope) (x:Str):Prop:=sc.names.lookup x=some .local\/sc.names.lookup x=some .cell\/sc.names.lookup x=some .free
def Loc (sc:Scope) (x:Str):Prop:=sc.names.lookup x=some .local\/sc.names.lookup x=some .cell
def Look (env:Env) (h:Heap) (m:Str->Option Value) (x:Str) (u:Value):Prop :=
 (env.kindOf x=some .local/\m x=some u)\/((env.kindOf x=some .cell\/env.kindOf x=some .free)/\∃c,env.cells.lookup x=some c/\h.IsCell c (some u))
structure Cx.Ok (X:Cx):Prop where
 mod:Mod X.K X.mg X.base
 kind:X.env.scope.kind=.function
 glob:X.env.globals=mainGlobals
 blt:X.env.builtins=builtinsNs
 above:X.s₀.heap.objs.size<=X.env.locals
 inj:∀x y c,X.env.cells.lookup x=some c->X.env.cells.lookup y=some c->x=y
 has:∀x,(X.env.kindOf x=some .cell\/X.env.kindOf x=some .free)->∃c,X.env.cells.lookup x=some c
 cab:∀x c,X.fn x=true->X.env.cells.lookup x=some c->X.s₀.heap.objs.size<=c
 hd:X.calm=true->X.A.handled=none
 frames:X.A.frames=some X.stack
 stk:X.stack=X.outer\/(X.stack=X.env :: X.outer/\X.env.frame=some X.env.locals)
 exf:∀b∈X.ex,b≠X.env.locals/\∀x c,X.env.cells.lookup x=some c->c≠b
 bs:∀b o,X.base.get? b=some o->X.s₀.heap.get? b=some o/\X.H₀ b=none
 bsz:X.base.objs.size<=X.s₀.heap.objs.size
 noex:∀b o,X.base.get? b=some o->b∉X.ex
 exfs:∀b∈X.ex,b∉X.fs
 funs:X.s₀.heap.FunFrames X.base X.outer
 frf:∀b∈X.fs,X.H₀ b=none
structure Inv (X:Cx) (pins:List (Addr×Obj)) (σ:List (Option V)) (H:Hp) (s:Shared):Prop where
 ok:X.Ok
 os:s.os=X.s₀.os
 bare:AllBare s.gens
 base:Un X.fs X.ex X.H₀ H X.s₀.heap s.heap
 loc:∃m,s.heap.Ns X.env.locals m/\∀(i:Nat) (x:Str) (v:V),X.N[i]?=some x->σ[i]?=some (some v)->Qv X.env.scope x->∃u,RelV v u/\Look X.env s.heap m x u
 cell:∀x c,X.env.cells.lookup x=some c->∃v,s.heap.IsCell c v
 free:H X.env.locals=none
 freeC:∀x c,X.env.cells.lookup x=some c->H c=none
 pin:∀p∈X.pn++pins,s.heap.get? p.1=some p.2/\H p.1=none/\p.1≠X.env.locals/\p.1∉X.fs/\∀v,p.2.data≠.cell v
 hok:zd X.prog X.w H s.heap
 len:σ.length=X.N.length
section
variable {X:Cx} {pins:List (Addr×Obj)} {σ:List (Option V)} {H H':Hp} {s:Shared} {h':Heap}
theorem Cx.Ok.nofr (ok:X.Ok) {b:Addr} {o:Obj} (e:X.base.get? b=some o):b∉X.fs:=fun hb=>by
 have:=(ok.funs.mem hb).1;rw[e] at this;cases this
theorem Inv.bs (I:Inv X pins σ H s):∀b o,X.base.get? b=some o->s.heap.get? b=some o/\H b=none:=fun b o e =>
 ⟨I.base.keep b o (I.ok.bs b o e).1 (I.ok.bs b o e).2 (I.ok.nofr e) (I.ok.noex b o e),I.base.free b o (I.ok.bs b o e).1 (I.ok.bs b o e).2 (I.ok.noex b o e)⟩
theorem Inv.bk (I:Inv X pins σ H s):∀b o,X.base.get? b=some o->s.heap.get? b=some o:=fun b o e=>(I.bs b o e).1
theorem Inv.mod (I:Inv X pins σ H s):Mod X.K X.mg X.base:=I.ok.mod
theorem Inv.kIn (I:Inv X pins σ H s):X.K.In s.heap:=I.ok.mod.kin.keeps I.bk
theorem Inv.lt (I:Inv X pins σ H s):X.env.locals < s.heap.objs.size:=let ⟨_,hn,_⟩:=I.loc;hn.lt
theorem Inv.sz (I:Inv X pins σ H s):X.s₀.heap.objs.size<=s.heap.objs.size:=ah I.ok.above (aR I.lt)
theorem Inv.nofs (I:Inv X pins σ H s) {a:Addr} (h:s.heap.objs.size<=a):a∉X.fs:=fun hb=>by
 obtain ⟨_,o,ho,_⟩:=I.ok.funs.mem hb;exact absurd (bA (Heap.lt_size ho) (ah I.sz h)) (dM _)
theorem Inv.cne (I:Inv X pins σ H s):∀x c,X.env.cells.lookup x=some c->c≠X.env.locals:=fun x c e z=>by
 obtain ⟨v,o,ho,hd⟩:=I.cell x c e;obtain ⟨m,⟨o',es,ep,ho',hd',_⟩,_⟩:=I.loc;rw[z,ho'] at ho;cases ho;rw[hd'] at hd;cases hd
theorem Inv.funs (I:Inv X pins σ H s):s.heap.FunFrames X.base X.outer:=by
 have all:∀(l:List Env),(∀b∈IK l,b∈X.fs)->X.s₀.heap.FunFrames X.base l->s.heap.FunFrames X.base l:=by
  intro l
  induction l with
  | nil=>intro _ _;trivial
  | cons env r ih =>
   intro hs hl;obtain ⟨hk,⟨L,o,hf,hn,ho,hd⟩,hr⟩:=hl;have hL:L∈X.fs:=hs L (by unfold IK;rw[Df,hf];exact cX);obtain ⟨sl,e⟩:=I.base.slot L o ho (I.ok.frf L hL) hL fun z=>I.ok.exfs L z hL
   exact ⟨hk,⟨L,_,hf,hn,e,hd⟩,ih (fun b hb=>hs b (by unfold IK;rw[Df,hf];exact bT _ hb)) hr⟩
 exact all X.outer (fun _ hb=>hb) I.ok.funs
theorem Inv.stack (I:Inv X pins σ H s):s.heap.FunFrames X.base X.stack:=by
 rcases I.ok.stk with e | ⟨e,hf⟩
 ·rw[e];exact I.funs
 ·rw[e];obtain ⟨m,hn,_⟩:=I.loc;refine .cons (by rw[I.ok.kind];decide) hf hn ?_ I.funs;exact Heap.get?_none_of_le (ah I.ok.bsz I.ok.above)
theorem Inv.stkSub (I:Inv X pins σ H s):∀b∈IK X.stack,b∈X.env.locals :: X.fs:=fun b hb=>by
 rcases I.ok.stk with e | ⟨e,hf⟩
 ·rw[e] at hb;exact bT _ hb
 ·rw[e] at hb;unfold IK at hb;rw[Df,hf] at hb;exact hb
theorem Inv.stkFree (I:Inv X pins σ H s):∀b∈IK X.stack,H b=none:=fun b hb=>by
 rcases aI.mp (I.stkSub b hb) with e | hb
 ·rw[e];exact I.free
 ·obtain ⟨_,o,ho,_⟩:=I.ok.funs.mem hb;exact I.base.free b o ho (I.ok.frf b hb) fun z=>I.ok.exfs b z hb
theorem Inv.step {g':Array GenState} {t':Nat} {d':Drawn} {ch:List Addr} (I:Inv X pins σ H s)
  (hch:∀b∈ch,(b∈X.ex\/X.s₀.heap.objs.size<=b)/\b≠X.env.locals/\(∀x c,X.env.cells.lookup x=some c->c≠b)/\∀p∈X.pn++pins,p.1≠b)
  (keep:∀b o,b≠X.env.locals->b∉X.fs->b∉ch->s.heap.get? b=some o->H b=none->h'.get? b=some o)
  (slot:∀b o,b≠X.env.locals->b∈X.fs->b∉ch->s.heap.get? b=some o->H b=none->∃sl,h'.get? b=some { o with slots:=sl }) (free:∀b o,b∉ch->s.heap.get? b=some o->H b=none->H' b=none)
  (there:∀b o,b∉ch->s.heap.get? b=some o->∃o',h'.get? b=some o')
  (tups:∀b xs,H b=some (.tup xs)->H' b=some (.tup xs)) (frzs:∀b o u,H b=some (.frz o u)->H' b=some (.frz o u)) (tbls:∀b ps,H b=some (.tbl ps)->∃more,H' b=some (.tbl (ps++more)))
  (ns:∀m,s.heap.Ns X.env.locals m->h'.Ns X.env.locals m) (hok:zd X.prog X.w H' h') (hg:AllBare g') :
  Inv X pins σ H' { s with heap:=h',gens:=g',drawn:=d',toks:=t' }:=by
 have neL:∀b o,X.s₀.heap.get? b=some o->b≠X.env.locals:=fun b o e=>bW (bA (Heap.lt_size e) I.ok.above)
 have neC:∀b o,X.s₀.heap.get? b=some o->b∉X.ex->b∉ch:=fun b o e hx hb=>by
  rcases (hch b hb).1 with z | z
  ·exact hx z
  ·exact absurd (bA (Heap.lt_size e) z) (dM _)
 have cellK:∀x c,X.env.cells.lookup x=some c->∀v,s.heap.IsCell c v->h'.IsCell c v:=fun x c e v ⟨o,ho,hd⟩=>by
  have nch:c∉ch:=fun z=>(hch c z).2.2.1 x c e rfl
  by_cases hc:c∈X.fs
  ·obtain ⟨sl,q⟩:=slot c o (I.cne x c e) hc nch ho (I.freeC x c e);exact ⟨_,q,hd⟩
  ·exact ⟨o,keep c o (I.cne x c e) hc nch ho (I.freeC x c e),hd⟩
 refine ⟨I.ok,I.os,hg,⟨fun b o e n hb hx=>?_,fun b o e n hb hx=>?_,fun b o e n hx=>?_,fun b o e hx=>?_,fun b xs e=>tups b xs (I.base.tups b xs e),fun b o xs e=>frzs b o xs (I.base.frzs b o xs e),fun b ps e=>?_⟩,?_,fun x c e=>?_,?_,fun x c e=>?_,fun p hp=>?_,hok,I.len⟩
 ·exact keep b o (neL b o e) hb (neC b o e hx) (I.base.keep b o e n hb hx) (I.base.free b o e n hx)
 ·obtain ⟨sl,e1⟩:=I.base.slot b o e n hb hx;obtain ⟨sl',e2⟩:=slot b _ (neL b o e) hb (neC b o e hx) e1 (I.base.free b o e n hx);exact ⟨sl',e2⟩
 ·obtain ⟨o',e1⟩:=I.base.there b o e hx;exact free b o' (neC b o e hx) e1 (I.base.free b o e n hx)
 ·obtain ⟨o',e1⟩:=I.base.there b o e hx;exact there b o' (neC b o e hx) e1
 ·obtain ⟨m1,e1⟩:=I.base.tbls b ps e;obtain ⟨m2,e2⟩:=tbls b _ e1;exact ⟨m1++m2,by rw[e2,Array.append_assoc]⟩
 ·obtain ⟨m,hn,hl⟩:=I.loc;refine ⟨m,ns m hn,fun i x v e1 e2 e3=>?_⟩;obtain ⟨u,r,l⟩:=hl i x v e1 e2 e3;refine ⟨u,r,?_⟩;rcases l with l | ⟨k,c,e,z⟩
  ·exact .inl l
  ·exact .inr ⟨k,c,e,cellK x c e _ z⟩
 ·obtain ⟨v,z⟩:=I.cell x c e;exact ⟨v,cellK x c e v z⟩
 ·obtain ⟨m,⟨o,_,_,ho,_⟩,_⟩:=I.loc;exact free _ o (fun z=>(hch _ z).2.1 rfl) ho I.free
 ·obtain ⟨v,o,ho,hd⟩:=I.cell x c e;exact free c o (fun z=>(hch c z).2.2.1 x c e rfl) ho (I.freeC x c e)
 ·obtain ⟨e,n,ne,nf,d⟩:=I.pin p hp;have nch:p.1∉ch:=fun z=>(hch p.1 z).2.2.2 p hp rfl
  exact ⟨keep p.1 p.2 ne nf nch e n,free p.1 p.2 nch e n,ne,nf,d⟩
theorem Inv.un {t':Nat} (I:Inv X pins σ H s) (u:Un X.fs [] H H' s.heap h') (hok:zd X.prog X.w H' h'):Inv X pins σ H' { s with heap:=h',toks:=t' }:=by
 obtain ⟨m,⟨o,es,ep,ho,r⟩,_⟩:=id I.loc;obtain ⟨sl,hL⟩:=u.any ho I.free (by simp)
 exact I.step (g':=s.gens) (d':=s.drawn) (ch:=[]) (fun _ z=>nomatch z) (fun b o _ hb _ e n=>u.keep b o e n hb (by simp)) (fun b o _ hb _ e n=>u.slot b o e n hb (by simp)) (fun b o _ e n=>u.free b o e n (by simp)) (fun b o _ e=>u.there b o e (by simp)) u.tups u.frzs u.tbls (fun m' hm=>by
  obtain ⟨o',es',ep',ho',r'⟩:=hm;rw[ho] at ho';cases ho';exact ⟨_,es',ep',hL,r'⟩) hok I.bare
theorem Inv.call {g':Array GenState} {t':Nat} {d':Drawn} {ch:List Addr} (I:Inv X pins σ H s) (u:Un (IK X.stack) ch H H' s.heap h') (hok:zd X.prog X.w H' h') (hg:AllBare g')
  (hch:∀b∈ch,(b∈X.ex\/X.s₀.heap.objs.size<=b)/\b≠X.env.locals/\(∀x c,X.env.cells.lookup x=some c->c≠b)/\∀p∈X.pn++pins,p.1≠b) :
  Inv X pins σ H' { s with heap:=h',gens:=g',drawn:=d',toks:=t' }:=by
 obtain ⟨m,⟨o,es,ep,ho,r⟩,_⟩:=id I.loc;obtain ⟨sl,hL⟩:=u.any ho I.free fun z=>(hch _ z).2.1 rfl
 exact I.step (ch:=ch) hch (fun b o hL hb hc e n=>u.keep b o e n (fun z=>(aI.mp (I.stkSub b z)).elim hL hb) hc) (fun b o _ _ hc e n=>u.any e n hc) (fun b o hc e n=>u.free b o e n hc) (fun b o hc e=>u.there b o e hc) u.tups u.frzs u.tbls (fun m' hm=>by
  obtain ⟨o',es',ep',ho',r'⟩:=hm;rw[ho] at ho';cases ho';exact ⟨_,es',ep',hL,r'⟩) hok hg
theorem Inv.turned {t':Nat} {it:Addr} (I:Inv X pins σ H s) (k:∀b o,b≠it->s.heap.get? b=some o->h'.get? b=some o) (hn:H it=none) (hL:it≠X.env.locals)
  (h1:it∈X.ex\/X.s₀.heap.objs.size<=it) (h2:∀x c,X.env.cells.lookup x=some c->c≠it) (h3:∀p∈X.pn++pins,p.1≠it):Inv X pins σ H { s with heap:=h',toks:=t' }:=by
 have nit:∀b u,H b=some u->b≠it:=fun b u e z=>by rw[z,hn] at e;cases e
 refine I.step (g':=s.gens) (d':=s.drawn) (ch:=[it]) (fun b hb=>?_) (fun b o _ _ hc e _=>k b o (fun z=>hc (by simp [z])) e) (fun b o _ _ hc e _=>⟨o.slots,k b o (fun z=>hc (by simp [z])) e⟩) (fun _ _ _ _ n=>n)
  (fun b o hc e=>⟨o,k b o (fun z=>hc (by simp [z])) e⟩) (fun _ _ e=>e) (fun _ _ _ e=>e) (fun b ps e=>⟨#[],by rw[e];simp⟩) (fun m hm=>?_) (fun b u e=>?_) I.bare
 ·have e:b=it:=by simpa using hb
  subst e;exact ⟨h1,hL,h2,h3⟩
 ·obtain ⟨o,es,ep,ho,r⟩:=hm;exact ⟨o,es,ep,k _ o (Ne.symm hL) ho,r⟩
 ·refine (I.hok b u e).stay (fun c v hc q=>k c v ?_ q) (fun _ q=>q) fun _ _ q=>q
  rcases hc with z | z
  ·rw[z];exact nit b u e
  ·exact nit c _ z
theorem Inv.tok (I:Inv X pins σ H s) (t:Nat):Inv X pins σ H { s with toks:=t }:=I.un (h':=s.heap) (t':=t) Un.refl I.hok
theorem Inv.kept {t':Nat} (I:Inv X pins σ H s) (k:∀b u,s.heap.get? b=some u->h'.get? b=some u):Inv X pins σ H { s with heap:=h',toks:=t' }:=I.un (Un.kept k) (I.hok.kept k)
theorem Inv.laid {a:Addr} {o:HO} {t':Nat} (I:Inv X pins σ H s) (k:∀b u,s.heap.get? b=some u->h'.get? b=some u) (hp:s.heap.objs.size<=a) (new:js X.prog X.w (upd H a o) h' a o) :
  Inv X pins σ (upd H a o) { s with heap:=h',toks:=t' }:=I.un (Un.laid k hp (I.hok.fresh hp)) (I.hok.laid k hp new)
theorem Inv.write {x e:Addr} {o:HO} {t':Nat} (I:Inv X pins σ H s) (mu:Qd (H x)) (he:e=x\/H e=some (.own x)) (k:∀b u,b≠e->s.heap.get? b=some u->h'.get? b=some u) (heo:∃u,h'.get? e=some u)
  (new:js X.prog X.w (upd H x o) h' x o):Inv X pins σ (upd H x o) { s with heap:=h',toks:=t' }:=I.un (Un.write mu he k heo) (I.hok.write mu he k heo new)
theorem Inv.pins_of {pins':List (Addr×Obj)} (I:Inv X pins σ H s) (h:∀p∈pins',s.heap.get? p.1=some p.2/\H p.1=none/\p.1≠X.env.locals/\p.1∉X.fs/\∀v,p.2.data≠.cell v):Inv X pins' σ H s :=
 ⟨I.ok,I.os,I.bare,I.base,I.loc,I.cell,I.free,I.freeC,fun p hp=>(ax.mp hp).elim (fun z=>I.pin p (jX _ z)) (h p),I.hok,I.len⟩
theorem DU {N:List Str} (hN:N.Nodup) {i j:Nat} {x:Str} (a:N[i]?=some x) (b:N[j]?=some x):i=j:=by
 obtain ⟨h1,e1⟩:=aA.mp a;obtain ⟨h2,e2⟩:=aA.mp b;exact (List.getElem_inj hN).mp (e1.trans e2.symm)
theorem Be {M:Model} {A:Around} {E:Value->Shared->Prop} {i:Nat} {x:Str} {v:V} {u:Value} {Q:Unit->Shared->Prop} (I:Inv X pins σ H s) (hN:X.N.Nodup) (hi:X.N[i]?=some x) (hx:Loc X.env.scope x) (r:RelV v u)
  (h:∀s',Inv X pins (σ.set i (some v)) H s'->(∃a,Heap.SameBut a s.heap s'.heap/\(a=X.env.locals\/X.env.cells.lookup x=some a))->Q () s') (hf:X.fn x=true\/X.env.scope.names.lookup x=some .local:=by first | exact .inl rfl | exact .inr rfl | assumption):wpAny M A (storeName X.env x u) Q E s:=by
 obtain ⟨m,hn,hl⟩:=id I.loc;have hcls:(X.env.scope.kind == .class || (X.env.scope.kind == .module && X.env.locals != X.env.globals))=false:=by rw[I.ok.kind];rfl
 have hiσ:i < σ.length:=by rw[I.len];exact (aA.mp hi).1
 have cne:=I.cne
 have tracked:∀{a:Addr} {h':Heap},(∃o,s.heap.get? a=some o/\H a=none)->Heap.SameBut a s.heap h'->zd X.prog X.w H h':=fun {a h'} ha hs b ob e=>by
  obtain ⟨_,_,hfree⟩:=ha;refine (I.hok b ob e).stay (fun c w' hc q=>(hs.2 c ?_).trans q) (fun _ q=>q) fun _ _ q=>q
  rintro rfl;rcases hc with rfl | hc
  ·rw[hfree] at e;cases e
  ·rw[hfree] at hc;cases hc
 rcases hx with hk | hk
 ·refine wpAny_storeName_local hk hn (fun h' hn' hs=>?_) hcls;obtain ⟨oL,_,_,hoL,_⟩:=id hn;refine h _ ⟨I.ok,I.os,I.bare,⟨fun b o e n hb hx=>?_,fun b o e n hb hx=>?_,I.base.free,fun b o e hx=>?_,I.base.tups,I.base.frzs,I.base.tbls⟩,⟨_,hn',fun j y v' e1 e2 e3=>?_⟩,fun y c e=>?_,I.free,I.freeC,fun p hp=>?_,tracked ⟨oL,hoL,I.free⟩ hs,by simpa using I.len⟩ ⟨_,hs,.inl rfl⟩
  ·exact (hs.2 b (bW (bA (Heap.lt_size e) I.ok.above))).trans (I.base.keep b o e n hb hx)
  ·obtain ⟨sl,e1⟩:=I.base.slot b o e n hb hx;exact ⟨sl,(hs.2 b (bW (bA (Heap.lt_size e) I.ok.above))).trans e1⟩
  ·obtain ⟨o',e1⟩:=I.base.there b o e hx;exact ⟨o',(hs.2 b (bW (bA (Heap.lt_size e) I.ok.above))).trans e1⟩
  ·by_cases hj:j=i
   ·subst hj;rw[hi] at e1;cases e1;rw[List.getElem?_set_self hiσ] at e2;cases e2;exact ⟨u,r,.inl ⟨hk,by simp⟩⟩
   ·rw[List.getElem?_set_ne (Ne.symm hj)] at e2;obtain ⟨u',r',q⟩:=hl j y v' e1 e2 e3;refine ⟨u',r',?_⟩;rcases q with ⟨k,e⟩ | ⟨k,c,e,z⟩
    ·refine .inl ⟨k,?_⟩;have:y≠x:=fun e=>hj (DU hN e1 (e ▸ hi))
     simp [this,e]
    ·exact .inr ⟨k,c,e,z.sameBut hs (cne y c e)⟩
  ·obtain ⟨w',z⟩:=I.cell y c e;exact ⟨w',z.sameBut hs (cne y c e)⟩
  ·obtain ⟨e,n,ne,nf,d⟩:=I.pin p hp;exact ⟨(hs.2 p.1 ne).trans e,n,ne,nf,d⟩
 ·have hfn:X.fn x=true:=by
   rcases hf with z | z
   ·exact z
   ·rw[z] at hk;cases hk
  obtain ⟨c,hc⟩:=I.ok.has x (.inl hk);obtain ⟨w',z⟩:=I.cell x c hc;refine wpAny_storeName_cell I.ok.kind hk hc z (fun h' hc' hs=>?_);obtain ⟨oc,hoc,hocd⟩:=id z;refine h { s with heap:=h' } ⟨I.ok,I.os,I.bare,⟨fun b o e n hb hx=>?_,fun b o e n hb hx=>?_,I.base.free,fun b o e hx=>?_,I.base.tups,I.base.frzs,I.base.tbls⟩,⟨m,hn.sameBut hs (Ne.symm (cne x c hc)),fun j y v' e1 e2 e3=>?_⟩,fun y c' e=>?_,I.free,I.freeC,fun p hp=>?_,tracked ⟨oc,hoc,I.freeC x c hc⟩ hs,by simpa using I.len⟩ ⟨c,hs,.inr hc⟩
  ·exact (hs.2 b (bW (bA (Heap.lt_size e) (I.ok.cab x c hfn hc)))).trans (I.base.keep b o e n hb hx)
  ·obtain ⟨sl,e1⟩:=I.base.slot b o e n hb hx;exact ⟨sl,(hs.2 b (bW (bA (Heap.lt_size e) (I.ok.cab x c hfn hc)))).trans e1⟩
  ·obtain ⟨o',e1⟩:=I.base.there b o e hx;exact ⟨o',(hs.2 b (bW (bA (Heap.lt_size e) (I.ok.cab x c hfn hc)))).trans e1⟩
  ·by_cases hj:j=i
   ·subst hj;rw[hi] at e1;cases e1;rw[List.getElem?_set_self hiσ] at e2;cases e2;exact ⟨u,r,.inr ⟨.inl hk,c,hc,hc'⟩⟩
   ·rw[List.getElem?_set_ne (Ne.symm hj)] at e2;obtain ⟨u',r',q⟩:=hl j y v' e1 e2 e3;refine ⟨u',r',?_⟩;rcases q with q | ⟨k,c',e,z'⟩
    ·exact .inl q
    ·refine .inr ⟨k,c',e,z'.sameBut hs ?_⟩;rintro rfl;exact hj (DU hN e1 (I.ok.inj _ _ _ e hc ▸ hi))
  ·by_cases hcc:c'=c
   ·subst hcc;exact ⟨_,hc'⟩
   ·obtain ⟨w2,z2⟩:=I.cell y c' e;exact ⟨w2,z2.sameBut hs hcc⟩
  ·obtain ⟨e,n,ne,nf,d⟩:=I.pin p hp;refine ⟨(hs.2 p.1 ?_).trans e,n,ne,nf,d⟩;intro q;rw[q,hoc] at e;have q':oc=p.2:=b7 e;exact d w' (by rw[<- q'];exact hocd)
theorem v7 {M:Model} {A:Around} {E:Value->Shared->Prop} {i:Nat} {x:Str} {v:V} {u:Value} {Q:Unit->Shared->Prop} (I:Inv X pins σ H s) (hN:X.N.Nodup) (hi:X.N[i]?=some x) (hx:Loc X.env.scope x) (r:RelV v u)
  (h:∀s',Inv X pins (σ.set i (some v)) H s'->Q () s') (hf:X.fn x=true\/X.env.scope.names.lookup x=some .local:=by first | exact .inl rfl | exact .inr rfl | assumption):wpAny M A (storeName X.env x u) Q E s :=
 Be I hN hi hx r (fun s' I' _=>h s' I') hf
theorem Inv.call' {s':Shared} {ch:List Addr} (I:Inv X pins σ H s) (ho:s'.os=s.os) (u:Un (IK X.stack) ch H H' s.heap s'.heap) (hok:zd X.prog X.w H' s'.heap) (hg:AllBare s'.gens)
  (hch:∀b∈ch,(b∈X.ex\/X.s₀.heap.objs.size<=b)/\b≠X.env.locals/\(∀x c,X.env.cells.lookup x=some c->c≠b)/\∀p∈X.pn++pins,p.1≠b):Inv X pins σ H' s':=by
 obtain ⟨h',g',d',t',o'⟩:=s';have e:o'=s.os:=ho;subst e;exact I.call (g':=g') (t':=t') (d':=d') u hok hg hch
end
abbrev XK:=Value->Option Addr->Hp->Prop
abbrev St:=List (Option V)
abbrev VK:=V->Hp->Prop
abbrev TE:=St->Hp->VK->Prop
abbrev TT:=St->Hp->(Bool->Hp->Prop)->Prop
abbrev TA:=St->Hp->(List V->Hp->Prop)->Prop
structure Ends where
 nx:St->Hp->Prop
 rt:VK
 bk:St->Hp->Prop:=fun _ _=>False
 ct:St->Hp->Prop:=fun _ _=>False
abbrev TS:=Ends->St->Hp->Prop
def EP (X:Cx) (pins:List (Addr×Obj)) (σ:St) (Q:VK) (u:Value) (s':Shared):Prop:=∃v H',Inv X pins σ H' s'/\RelV v u/\Q v H'
def TP (X:Cx) (pins:List (Addr×Obj)) (σ:St) (Q:Bool->Hp->Prop) (b:Bool) (s':Shared):Prop:=∃H',Inv X pins σ H' s'/\Q b H'
def AP (X:Cx) (pins:List (Addr×Obj)) (σ:St) (Q:List V->Hp->Prop) (us:List Value) (s':Shared):Prop:=∃vs H',Inv X pins σ H' s'/\cA vs us/\Q vs H'
def SP (X:Cx) (pins:List (Addr×Obj)) (D:Ends) (f:Flow) (s':Shared):Prop :=
 match f with
 | .next=>∃σ' H',Inv X pins σ' H' s'/\D.nx σ' H'
 | .brk=>∃σ' H',Inv X pins σ' H' s'/\D.bk σ' H'
 | .cont=>∃σ' H',Inv X pins σ' H' s'/\D.ct σ' H'
 | .ret u=>∃v σ' H',Inv X pins σ' H' s'/\RelV v u/\D.rt v H'
def PE (X:Cx) (e:Expr) (t:TE):Prop :=
 ∀(pins:List (Addr×Obj)) (s:Shared) (σ:St) (H:Hp) (Q:VK),Inv X pins σ H s->t σ H Q->wpAny (model X.prog X.w) X.A (eval e X.env) (EP X pins σ Q) X.xe s
def PT (X:Cx) (e:Expr) (t:TT):Prop :=
 ∀(pins:List (Addr×Obj)) (s:Shared) (σ:St) (H:Hp) (Q:Bool->Hp->Prop),Inv X pins σ H s->t σ H Q->wpAny (model X.prog X.w) X.A (isTrue e X.env (eval e X.env)) (TP X pins σ Q) X.xe s
def PW (X:Cx) (e:Expr) (t:TT):Prop :=
 ∀(whole:Sem Value) (pins:List (Addr×Obj)) (s:Shared) (σ:St) (H:Hp) (Q:Bool->Hp->Prop),Inv X pins σ H s->t σ H Q->wpAny (model X.prog X.w) X.A (isTrue e X.env whole) (TP X pins σ Q) X.xe s
theorem PW.pt {X:Cx} {e:Expr} {t:TT} (h:PW X e t):PT X e t:=h _
def PA (X:Cx) (es:List Expr) (t:TA):Prop :=
 ∀(pos:Pos) (pins:List (Addr×Obj)) (s:Shared) (σ:St) (H:Hp) (Q:List V->Hp->Prop),Inv X pins σ H s->t σ H Q->wpAny (model X.prog X.w) X.A (spliced (backTo pos (starEach es X.env))) (AP X pins σ Q) X.xe s
def PS (X:Cx) (st:Stmt) (t:TS):Prop :=
 ∀(pins:List (Addr×Obj)) (s:Shared) (σ:St) (H:Hp) (D:Ends),Inv X pins σ H s->t D σ H->wpAny (model X.prog X.w) X.A (exec st X.env) (SP X pins D) X.xe s
def Fw (X:Cx) (st:List Stmt) (t:TS):Prop :=
 ∀(pins:List (Addr×Obj)) (s:Shared) (σ:St) (H:Hp) (D:Ends),Inv X pins σ H s->t D σ H->wpAny (model X.prog X.w) X.A (execs st X.env) (SP X pins D) X.xe s
theorem fL {α:Type} {t:Sem α} {Q Q':α->Shared->Prop} {M:Model} {A:Around} {E:Value->Shared->Prop} {s:Shared} (h:wpAny M A t Q E s) (hQ:∀a s,Q a s->Q' a s):wpAny M A t Q' E s:=wpAny_mono h hQ fun _ _ x=>x
section
variable {X:Cx}
def Nr (i:Nat):TE:=fun σ H Q=>∃v,σ[i]?=some (some v)/\Q v H
def tC (v:V):TE:=fun _ H Q=>Q v H
theorem N7 {i:Nat} {x:Str} {pos:Pos} (hN:X.N[i]?=some x) (hv:Qv X.env.scope x) (hd:(x == ("__debug__":Str))=false:=by decide) (hcd:(x == ("__classdict__":Str))=false:=by decide):PE X (.Name x pos) (Nr i):=by
 intro pins s σ H Q I h;obtain ⟨v,e,h⟩:=h;obtain ⟨m,hn,hl⟩:=I.loc;obtain ⟨u,r,l⟩:=hl i x v hN e hv;have fin:EP X pins σ Q u s:=⟨v,H,I,r,h⟩;rcases l with ⟨hk,hm⟩ | ⟨hk,c,hc,hcell⟩
 ·exact wpAny_Name (wpAny_loadName_local I.ok.kind hk hn hm fin) hd
 ·rcases hk with hk | hk
  ·exact wpAny_Name (wpAny_loadName_cell I.ok.kind hk hc hcell fin) hd
  ·exact wpAny_Name (wpAny_loadName_free I.ok.kind hk hc hcell fin hcd) hd
theorem ao {i j pos}:PE X (.Constant (.int i) j pos) (tC (.int i)):=fun _ _ _ H _ I h=>wpAny_Constant_int ⟨.int i,H,I.tok _,⟨_,rfl⟩,h⟩
theorem yk {b j pos}:PE X (.Constant (.bool b) j pos) (tC (.bl b)):=fun _ _ _ H _ I h=>Constant_bool ⟨.bl b,H,I,rfl,h⟩
theorem Cs {j pos}:PE X (.Constant .none j pos) (tC .non):=fun _ _ _ H _ I h=>Constant_none ⟨.non,H,I,rfl,h⟩
theorem ka {x j pos}:PE X (.Constant (.str x) j pos) (tC (.str x)):=fun _ _ _ H _ I h=>Calls.Constant_str ⟨.str x,H,I.tok _,⟨_,rfl⟩,h⟩
def Gl (X:Cx) (x:Str):Prop:=X.env.kindOf x=some .globalImplicit
theorem CH {E:Value->Shared->Prop} {pins:List (Addr×Obj)} {s:Shared} {σ:St} {H:Hp} {x:Str} {u:Value} {pos:Pos} {Q:Value->Shared->Prop} (I:Inv X pins σ H s) (hg:Gl X x) (hm:X.mg x=some u) (h:Q u s)
  (hd:(x == ("__debug__":Str))=false:=by decide):wpAny (model X.prog X.w) X.A (eval (.Name x pos) X.env) Q E s :=
 Calls.Name_function_global I.ok.kind hg (Calls.loadGlobal_global (by rw[I.ok.glob];exact I.mod.glob.keeps I.bk) hm h) hd
theorem ki {E:Value->Shared->Prop} {pins:List (Addr×Obj)} {s:Shared} {σ:St} {H:Hp} {x:Str} {u:Value} {pos:Pos} {Q:Value->Shared->Prop} (I:Inv X pins σ H s) (hg:Gl X x) (hm:X.mg x=none) (hv:bootBuiltins x=some u) (h:Q u s)
  (hn:x≠"__name__":=by decide) (hd:(x == ("__debug__":Str))=false:=by decide):wpAny (model X.prog X.w) X.A (eval (.Name x pos) X.env) Q E s:=by
 obtain ⟨mb,h1,h2⟩:=I.mod.blt;exact Calls.Name_function_global I.ok.kind hg (Calls.loadGlobal_builtin (by rw[I.ok.glob];exact I.mod.glob.keeps I.bk) hm (by rw[I.ok.blt];exact h1.keeps I.bk) ((h2 x hn).trans hv) h) hd
theorem mE {x:Str} {v:V} {u:Value} {pos:Pos} (hg:Gl X x) (hm:X.mg x=some u) (r:RelV v u) (hd:(x == ("__debug__":Str))=false:=by decide):PE X (.Name x pos) (tC v) :=
 fun _ _ _ H _ I h=>CH I hg hm ⟨v,H,I,r,h⟩ hd
theorem FR {x:Str} {v:V} {u:Value} {pos:Pos} (hg:Gl X x) (hm:X.mg x=none) (hv:bootBuiltins x=some u) (r:RelV v u) (hn:x≠"__name__":=by decide) (hd:(x == ("__debug__":Str))=false:=by decide):PE X (.Name x pos) (tC v) :=
 fun _ _ _ H _ I h=>ki I hg hm hv ⟨v,H,I,r,h⟩ hn hd
variable {a b:Expr} {ta tb:TE} {pos:Pos}
def tB (t:TE):TT:=fun σ H Q=>t σ H fun x H1=>∃c,x=.bl c/\Q c H1
theorem vF {e : Expr} {t : TE} (h : PE X e t) (he : ∀ whole, isTrue e X.env whole = (do let v <- whole; standAt e.pos; holding [v] (truthy v)) := by intro _; rfl) : PT X e (tB t) := by
  intro pins s σ H Q I hw;refine isTrue_plain (fL (h pins s σ H _ I hw) fun v s1 ⟨x, H1, I1, r1, q1⟩ => ?_) (he _);obtain ⟨d, rfl, q⟩ := q1;cases r1;exact wpAny_truthy_bool ⟨H1, I1, q⟩

variable {tA tB':TT} {rest:List Expr}
def O2 (t u:TT):TT:=fun σ H Q=>t σ H fun c H1=>if c=true then u σ H1 Q else Q false H1
def tOr (t u:TT):TT:=fun σ H Q=>t σ H fun c H1=>if c=true then Q true H1 else u σ H1 Q
def OY (t:TT):TT:=fun σ H Q=>t σ H fun c H1=>Q (!c) H1
theorem mD (ha:PT X a tA):PW X (.BoolOp .And [a] pos) tA:=by
 intro wh pins s σ H Q I h;refine isTrue_and (fL (ha pins s σ H Q I h) fun c s1 e=>?_);cases c with
 | true=>exact isTrue_and_nil e
 | false=>exact e
theorem qM (ha:PT X a tA):PW X (.BoolOp .Or [a] pos) tA:=by
 intro wh pins s σ H Q I h;refine isTrue_or (fL (ha pins s σ H Q I h) fun c s1 e=>?_);cases c with
 | false=>exact isTrue_or_nil e
 | true=>exact e
theorem j9 (ha:PT X a tA) (hb:PW X (.BoolOp .And (b :: rest) pos) tB'):PW X (.BoolOp .And (a :: b :: rest) pos) (O2 tA tB'):=by
 intro wh pins s σ H Q I h;refine isTrue_and (fL (ha pins s σ H _ I h) fun c s1 ⟨H1,I1,q1⟩=>?_);cases c with
 | true=>exact hb wh pins s1 σ H1 Q I1 q1
 | false=>exact ⟨H1,I1,q1⟩
theorem wo (ha:PT X a tA) (hb:PW X (.BoolOp .Or (b :: rest) pos) tB'):PW X (.BoolOp .Or (a :: b :: rest) pos) (tOr tA tB'):=by
 intro wh pins s σ H Q I h;refine isTrue_or (fL (ha pins s σ H _ I h) fun c s1 ⟨H1,I1,q1⟩=>?_);cases c with
 | true=>exact ⟨H1,I1,q1⟩
 | false=>exact hb wh pins s1 σ H1 Q I1 q1
theorem vG (ha:PT X a tA):PT X (.UnaryOp .Not a pos) (OY tA):=by
 intro pins s σ H Q I h;exact isTrue_not (ha pins s σ H (fun c H1=>Q (!c) H1) I h)
def ME (ta tb:TE):TE:=fun σ H Q=>ta σ H fun x H1=>∃c,x=.bl c/\if c=true then tb σ H1 Q else Q (.bl false) H1
def My (ta:TE):TE:=fun σ H Q=>ta σ H fun x H1=>∃c,x=.bl c/\Q (.bl (!c)) H1
theorem JM {op} {t:TE} (h:PE X a t):PE X (.BoolOp op [a] pos) t:=fun pins s σ H Q I hw=>BoolOp_one (h pins s σ H Q I hw)
theorem JN (ha:PE X a ta) (hb:PE X (.BoolOp .And (b :: rest) pos) tb):PE X (.BoolOp .And (a :: b :: rest) pos) (ME ta tb):=by
 intro pins s σ H Q I h;refine BoolOp_and (fL (ha pins s σ H _ I h) fun v s1 ⟨x,H1,I1,r1,q1⟩=>?_);obtain ⟨c,rfl,q1⟩:=q1;cases r1;refine wpAny_truthy_bool ?_;cases c with
 | true=>exact hb pins s1 σ H1 Q I1 q1
 | false=>exact ⟨.bl false,H1,I1,rfl,q1⟩
theorem N8 (ha:PE X a ta):PE X (.UnaryOp .Not a pos) (My ta):=by
 intro pins s σ H Q I h;refine UnaryOp_ (fL (ha pins s σ H _ I h) fun v s1 ⟨x,H1,I1,r1,q1⟩=>?_);obtain ⟨c,rfl,q1⟩:=q1;cases r1;exact not_of (wpAny_truthy_bool ⟨.bl (!c),H1,I1,rfl,q1⟩)
def tIf (t:TT) (ta tb:TE):TE:=fun σ H Q=>t σ H fun c H1=>if c=true then ta σ H1 Q else tb σ H1 Q
theorem DM {c:Expr} (hc:PT X c tA) (ha:PE X a ta) (hb:PE X b tb):PE X (.IfExp c a b pos) (tIf tA ta tb):=by
 intro pins s σ H Q I h;refine wpAny_IfExp (fL (hc pins s σ H _ I h) fun d s1 ⟨H1,I1,q1⟩=>?_);cases d with
 | true=>exact ha pins s1 σ H1 Q I1 q1
 | false=>exact hb pins s1 σ H1 Q I1 q1
end
def bM (K:PySem.W.Frag) (H:Hp) (a:Addr) (xs:List V):Prop :=
 Rd H a (.lst xs) \/
  ∃(o:Obj) (its:Array Value) (n:Nat),K.lookup a=some o/\o.cls=.type "list"/\o.dict=none/\o.data=.seq its n/\its.size<=sizeLine/\cA xs its.toList
def vV (K:PySem.W.Frag) (H:Hp) (a:Addr) (xs:List V):Prop :=
 Rd H a (.tup xs) \/
  ∃(o:Obj) (its:Array Value) (n:Nat),K.lookup a=some o/\o.cls=.type "tuple"/\o.data=.seq its n/\its.size<=sizeLine/\cA xs its.toList
def Qu:Value->Option V
 | .none=>some .non
 | .bool b=>some (.bl b)
 | .int i _=>some (.int i)
 | .str x _=>some (.str x)
 | .bytes b _=>some (.byt b)
 | .float b _=>some (.flt b)
 | .ref a=>some (.ref a)
 | .type n=>some (.ty n)
 | _=>none
theorem RelV.abs {x:V} {u:Value} (r:RelV x u):Qu u=some x:=by
 cases x with
 | non=>cases r;rfl
 | bl _=>cases r;rfl
 | int _=>obtain ⟨t,rfl⟩:=r;rfl
 | str _=>obtain ⟨t,rfl⟩:=r;rfl
 | byt _=>obtain ⟨t,rfl⟩:=r;rfl
 | flt _=>obtain ⟨t,rfl⟩:=r;rfl
 | ref _=>cases r;rfl
 | ty _=>cases r;rfl
theorem RelV.inj {x y:V} {u:Value} (r:RelV x u) (q:RelV y u):x=y:=b7 (r.abs.symm.trans q.abs)
theorem cA.inj:∀{xs ys:List V} {us:List Value},cA xs us->cA ys us->xs=ys
 | _,_,_,.nil,.nil=>rfl
 | _,_,_,.cons r t,.cons r' t'=>by rw[r.inj r',cA.inj t t']
section
variable {X:Cx} {pins:List (Addr×Obj)} {σ:St} {H:Hp} {s:Shared} {a:Addr} {xs ys:List V}
theorem bM.of {K:PySem.W.Frag} (h:H a=some (.lst xs)):bM K H a xs:=.inl (.inl h)
theorem vV.of {K:PySem.W.Frag} (h:H a=some (.tup xs)):vV K H a xs:=.inl (.inl h)
theorem Inv.list (I:Inv X pins σ H s) (h:bM X.K H a xs):∃its:List Value,cA xs its/\PlainL s.heap a its.toArray/\xs.length<=sizeLine:=by
 rcases h with h | ⟨o,its,n,hk,hc,hd,hs,hz,r⟩
 ·obtain ⟨z,its,n,r,e⟩:=h.ok I.hok;exact ⟨its,r,⟨_,n,e,rfl,rfl,rfl⟩,z⟩
 ·refine ⟨its.toList,r,⟨o,n,I.kIn a o hk,hc,hd,by simpa using hs⟩,?_⟩;have e:=r.length;simp only[Array.length_toList] at e
  lia
theorem Inv.tuple (I:Inv X pins σ H s) (h:vV X.K H a xs):∃its:List Value,cA xs its/\IsTup s.heap a its.toArray/\xs.length<=sizeLine:=by
 rcases h with h | ⟨o,its,n,hk,hc,hs,hz,r⟩
 ·obtain ⟨z,its,r,p⟩:=h.ok I.hok;exact ⟨its,r,p,z⟩
 ·refine ⟨its.toList,r,⟨o,I.kIn a o hk,hc,n,by simpa using hs⟩,?_⟩;have e:=r.length;simp only[Array.length_toList] at e
  lia
theorem Inv.list_inj (I:Inv X pins σ H s) (h:bM X.K H a xs) (h':bM X.K H a ys):xs=ys:=by
 obtain ⟨its,r,⟨o,n,e,_,_,d⟩,_⟩:=I.list h;obtain ⟨its',r',⟨o',n',e',_,_,d'⟩,_⟩:=I.list h';rw[e] at e';cases e';rw[d] at d';injection d' with d1 _
 have:its=its':=by simpa using congrArg Array.toList d1
 subst this;exact r.inj r'
theorem Inv.tuple_inj (I:Inv X pins σ H s) (h:vV X.K H a xs) (h':vV X.K H a ys):xs=ys:=by
 obtain ⟨its,r,⟨o,e,_,n,d⟩,_⟩:=I.tuple h;obtain ⟨its',r',⟨o',e',_,n',d'⟩,_⟩:=I.tuple h';rw[e] at e';cases e';rw[d] at d';injection d' with d1 _
 have:its=its':=by simpa using congrArg Array.toList d1
 subst this;exact r.inj r'
end
abbrev Cx.wish (X:Cx) (E:Value->Shared->Prop):Cx:={ X with xe:=E }
abbrev Cx.nox (X:Cx):Cx:=X.wish fun _ _=>False
theorem Cx.Ok.wish {X:Cx} (ok:X.Ok) (E:Value->Shared->Prop):(X.wish E).Ok :=
 ⟨ok.mod,ok.kind,ok.glob,ok.blt,ok.above,ok.inj,ok.has,ok.cab,ok.hd,ok.frames,ok.stk,ok.exf,ok.bs,ok.bsz,ok.noex,ok.exfs,ok.funs,ok.frf⟩
theorem Cx.Ok.unwish {X:Cx} {E:Value->Shared->Prop} (ok:(X.wish E).Ok):X.Ok :=
 ⟨ok.mod,ok.kind,ok.glob,ok.blt,ok.above,ok.inj,ok.has,ok.cab,ok.hd,ok.frames,ok.stk,ok.exf,ok.bs,ok.bsz,ok.noex,ok.exfs,ok.funs,ok.frf⟩
section
variable {X:Cx} {pins:List (Addr×Obj)} {σ:St} {H:Hp} {s:Shared} {E:Value->Shared->Prop}
theorem Inv.wish (I:Inv X pins σ H s) (E:Value->Shared->Prop):Inv (X.wish E) pins σ H s:=⟨I.ok.wish E,I.os,I.bare,I.base,I.loc,I.cell,I.free,I.freeC,I.pin,I.hok,I.len⟩
theorem Inv.unwish (I:Inv (X.wish E) pins σ H s):Inv X pins σ H s:=⟨I.ok.unwish,I.os,I.bare,I.base,I.loc,I.cell,I.free,I.freeC,I.pin,I.hok,I.len⟩
theorem SP.unwish {D:Ends} {f:Flow} {s':Shared} (h:SP (X.wish E) pins D f s'):SP X pins D f s':=by
 cases f with
 | next=>obtain ⟨σ',H',I,q⟩:=h;exact ⟨σ',H',I.unwish,q⟩
 | brk=>obtain ⟨σ',H',I,q⟩:=h;exact ⟨σ',H',I.unwish,q⟩
 | cont=>obtain ⟨σ',H',I,q⟩:=h;exact ⟨σ',H',I.unwish,q⟩
 | ret u=>obtain ⟨v,σ',H',I,r,q⟩:=h;exact ⟨v,σ',H',I.unwish,r,q⟩
theorem Fw.nox {st:List Stmt} {t:TS} (h:Fw X.nox st t):Fw X st t:=fun pins s σ H D I hw =>
 wpAny_mono (h pins s σ H D (I.wish _) hw) (fun _ _ q=>q.unwish) fun _ _ z=>False.elim z
end
section
variable {X:Cx} {st:Stmt} {rest:List Stmt} {t u:TS} {e:Expr} {te:TE} {pos:Pos}
def Mz:TS:=fun D σ H=>D.nx σ H
def OU (t u:TS):TS:=fun D σ H=>t { D with nx:=u D } σ H
theorem b9:Fw X [] Mz:=fun _ _ σ H _ I h=>wpAny_execs_nil ⟨σ,H,I,h⟩
theorem au (h1:PS X st t) (h2:Fw X rest u):Fw X (st :: rest) (OU t u):=by
 intro pins s σ H D I h;refine wpAny_execs_cons (fL (h1 pins s σ H { D with nx:=u D } I h) fun f s1 q=>?_);cases f with
 | next =>
  obtain ⟨σ',H',I',q⟩:=q;exact h2 pins s1 σ' H' D I' q
 | ret v=>exact q
 | brk=>exact q
 | cont=>exact q
theorem ay (h1:PS X st t):Fw X [st] t:=by
 intro pins s σ H D I h;refine wpAny_execs_cons (fL (h1 pins s σ H D I h) fun f s1 q=>?_);cases f with
 | next=>exact wpAny_execs_nil q
 | ret v=>exact q
 | brk=>exact q
 | cont=>exact q
theorem Inv.quiet {pins:List (Addr×Obj)} {σ:St} {H:Hp} {s:Shared} (I:Inv X pins σ H s):interactive X.env=false:=by simp [interactive,I.ok.kind]
def MC (te:TE):TS:=fun D σ H=>te σ H fun _ H1=>D.nx σ H1
theorem jF (he:PE X e te) (hs:swapsWith e none pos.line X.env=pure false:=by rfl):PS X (.Expr e pos) (MC te):=by
 intro pins s σ H D I h;exact wpAny_Expr_any (fL (he pins s σ H _ I h) fun v s1 ⟨x,H1,I1,r1,q1⟩=>⟨σ,H1,I1,q1⟩) I.quiet hs
def OV (te:TE):TS:=fun D σ H=>te σ H D.rt
theorem aZ (he:PE X e te):PS X (.Return (some e) pos) (OV te):=by
 intro pins s σ H D I h;exact wpAny_Return_some (fL (he pins s σ H _ I h) fun v s1 ⟨x,H1,I1,r1,q1⟩=>⟨x,σ,H1,I1,r1,q1⟩)
def O0 (c:TT) (t u:TS):TS:=fun D σ H=>c σ H fun b H1=>if b=true then t D σ H1 else u D σ H1
theorem dm {c:Expr} {a b:List Stmt} {tc:TT} (hc:PT X c tc) (ha:Fw X a t) (hb:Fw X b u):PS X (.If c a b pos) (O0 tc t u):=by
 intro pins s σ H D I h;refine wpAny_If (fL (hc pins s σ H _ I h) fun d s1 ⟨H1,I1,q1⟩=>?_);cases d with
 | true=>exact ha pins s1 σ H1 D I1 q1
 | false=>exact hb pins s1 σ H1 D I1 q1
end
abbrev TG:=V->St->Hp->(St->Hp->Prop)->Prop
abbrev KW:=List V->St->Hp->(St->Hp->Prop)->Prop
def PG (X:Cx) (target:Expr) (t:TG):Prop :=
 ∀(pins:List (Addr×Obj)) (s:Shared) (σ:St) (H:Hp) (v:V) (u:Value) (Q:St->Hp->Prop),Inv X pins σ H s->RelV v u->t v σ H Q →
  wpAny (model X.prog X.w) X.A (assign target X.env u) (fun _ s'=>∃σ' H',Inv X pins σ' H' s'/\Q σ' H') X.xe s
def PR (X:Cx) (ts:List Expr) (t:KW):Prop :=
 ∀(pins:List (Addr×Obj)) (s:Shared) (σ:St) (H:Hp) (vs:List V) (us:List Value) (Q:St->Hp->Prop),Inv X pins σ H s->cA vs us->t vs σ H Q →
  wpAny (model X.prog X.w) X.A (assignInOrder ((assignEach ts X.env).map (·.2)) us) (fun _ s'=>∃σ' H',Inv X pins σ' H' s'/\Q σ' H') X.xe s
abbrev Fq:=V->V->V->Hp->(Hp->Prop)->Prop
def OA (X:Cx) (t:Fq):Prop :=
 ∀(pins:List (Addr×Obj)) (s:Shared) (σ:St) (H:Hp) (o i v:V) (ov iv u:Value) (Q:Hp->Prop),Inv X pins σ H s->RelV o ov->RelV i iv->RelV v u->t o i v H Q →
  wpAny (model X.prog X.w) X.A (setItem ov iv u) (fun _ s'=>∃H',Inv X pins σ H' s'/\Q H') X.xe s
abbrev PN:=V->V->Hp->VK->Prop
def PIp (X:Cx) (op:Operator) (t:PN):Prop :=
 ∀(pins:List (Addr×Obj)) (s:Shared) (σ:St) (H:Hp) (x y:V) (v u:Value) (Q:VK),Inv X pins σ H s->RelV x v->RelV y u->t x y H Q →
  wpAny (model X.prog X.w) X.A (inplaceOp op v u) (EP X pins σ Q) X.xe s
section
variable {X:Cx} {pos:Pos}
def Gr (i:Nat):TG:=fun v σ H Q=>Q (σ.set i (some v)) H
theorem aM {i:Nat} {x:Str} (hN:X.N.Nodup) (hi:X.N[i]?=some x:=by exact rfl) (hx:Loc X.env.scope x:=by exact Or.inl rfl) (hf:X.fn x=true\/X.env.scope.names.lookup x=some .local:=by first | exact .inl rfl | exact .inr rfl | assumption):PG X (.Name x pos) (Gr i):=by
 intro pins s σ H v u Q I r h;exact wpAny_assign_Name (v7 I hN hi hx r (fun s' I'=>⟨_,H,I',h⟩) hf)
def PK:KW:=fun vs σ H Q=>vs=[]/\Q σ H
def MX (t:TG) (u:KW):KW:=fun vs σ H Q=>∃v r,vs=v :: r/\t v σ H fun σ' H'=>u r σ' H' Q
theorem ik:PR X [] PK:=by
 intro pins s σ H vs us Q I r h;obtain ⟨e,h⟩:=h;subst e;cases r;exact assignInOrder_nil ⟨σ,H,I,h⟩
theorem cu {e:Expr} {es:List Expr} {t:TG} {u:KW} (h1:PG X e t) (h2:PR X es u)
  (hs:(assignEach (e :: es) X.env).map (·.2)=assign e X.env :: (assignEach es X.env).map (·.2):=by rfl):PR X (e :: es) (MX t u):=by
 intro pins s σ H vs us Q I r h;obtain ⟨v,vr,e1,h⟩:=h;subst e1;cases r with
 | cons r rr =>
  rw[hs];refine assignInOrder_cons (fL (h1 pins s σ H _ _ _ I r h) fun _ s1 ⟨σ1,H1,I1,q1⟩=>?_);exact h2 pins s1 σ1 H1 _ _ Q I1 rr q1
def Ol (K:PySem.W.Frag) (n:Nat) (t:KW):TG:=fun v σ H Q=>∃a xs,v=.ref a/\vV K H a xs/\xs.length=n/\t xs σ H Q
theorem vH {es:List Expr} {k:Nat} {t:KW} {n:Nat} (hc:X.calm=true) (h:PR X es t)
  (hn:(assignEach es X.env).length=n:=by rfl) (hst:(assignEach es X.env).findIdx? (·.1)=none:=by rfl):PG X (.Tuple es k pos) (Ol X.K n t):=by
 intro pins s σ H v u Q I r hw;obtain ⟨a,xs,e1,hq,hl,hw⟩:=hw;subst e1;cases r;obtain ⟨its,rv,ht,hz⟩:=I.tuple hq;refine assign_Tuple_tuple (I.ok.hd hc) ht (by simp [hn,<- hl,rv.length]) hst fun h' hx=>?_
 have I1:Inv X pins σ H { s with heap:=h' }:=I.kept (t':=s.toks) fun b o e=>hx b o (bW (Heap.lt_size e)) e
 exact h pins _ σ H xs _ Q I1 (by simpa using rv) hw
def PJ (to ti:TE) (t:Fq):TG:=fun v σ H Q=>to σ H fun o H1=>ti σ H1 fun i H2=>t o i v H2 fun H3=>Q σ H3
theorem gR {o i : Expr} {to ti : TE} {t : Fq} (ho : PE X o to) (hi : PE X i ti) (hs : OA X t)
    (ha : ∀ v, assign (.Subscript o i pos) X.env v = (do
      let ov <- holding [v] (eval o X.env)
      let iv <- holding [v, ov] (eval i X.env)
      standAt pos
      holding [v, ov, iv] (setItem ov iv v)
      release [v, ov, iv] []) := by intro _; rfl) : PG X (.Subscript o i pos) (PJ to ti t) := by
  intro pins s σ H v u Q I r h;rw [ha];refine wpAny_bind (wpAny_holding (fL (ho pins s σ H _ I h) fun ov s1 ⟨x, H1, I1, r1, q1⟩ => ?_));refine wpAny_bind (wpAny_holding (fL (hi pins s1 σ H1 _ I1 q1) fun iv s2 ⟨y, H2, I2, r2, q2⟩ => ?_));refine wpAny_bind (wpAny_standAt (wpAny_bind (wpAny_holding (fL (hs pins s2 σ H2 x y v ov iv u _ I2 r1 r2 r q2) fun _ s3 ⟨H3, I3, q3⟩ => ?_))));exact wpAny_release ⟨σ, H3, I3, q3⟩
def La (te:TE) (g:TG):TS:=fun D σ H=>te σ H fun x H1=>g x σ H1 D.nx
theorem fq {tg e:Expr} {te:TE} {g:TG} (he:PE X e te) (hg:PG X tg g) (hs:swapsWithSole [tg] e pos.line X.env=pure false:=by rfl) (hw:swappedStores [tg] e X.env=pure none:=by rfl)
  (h1:(assignEach [tg] X.env).map (·.2)=[assign tg X.env]:=by rfl):PS X (.Assign [tg] e pos) (La te g):=by
 intro pins s σ H D I h;refine wpAny_Assign_stores (fL (he pins s σ H _ I h) fun v s1 ⟨x,H1,I1,r1,q1⟩=>?_) hs hw;rw[h1];exact fL (hg pins s1 σ H1 x v _ I1 r1 q1) fun _ s2 q=>q
theorem bf {i:Nat} {x:Str} {e:Expr} {te:TE} {pos':Pos} (hN:X.N.Nodup) (hi:X.N[i]?=some x) (hx:Loc X.env.scope x) (he:PE X e te) (hs:swapsWith e (some (.Name x pos')) pos.line X.env=pure false:=by rfl) (hf:X.fn x=true\/X.env.scope.names.lookup x=some .local:=by first | exact .inl rfl | exact .inr rfl | assumption) :
  PS X (.Assign [.Name x pos'] e pos) (La te (Gr i)):=by
 intro pins s σ H D I h;refine wpAny_Assign_Name (fL (he pins s σ H _ I h) fun v s1 ⟨y,H1,I1,r1,q1⟩=>?_) hs;exact v7 I1 hN hi hx r1 (fun s2 I2=>⟨_,H1,I2,q1⟩) hf
def OW (i j:Nat) (ta:TA):TS:=fun D σ H=>ta σ H fun vs H1=>∃v w,vs=[v,w]/\D.nx ((σ.set i (some v)).set j (some w)) H1
theorem JJ {i j : Nat} {x y : Str} {a b : Expr} {ta : TA} {px py pt : Pos} {kt k2 pt2} (hc : X.calm = true) (hN : X.N.Nodup) (hi : X.N[i]? = some x) (hj : X.N[j]? = some y) (hij : i ≠ j)
    (hx : X.env.scope.names.lookup x = some .local) (hy : X.env.scope.names.lookup y = some .local) (ha : PA X [a, b] ta)
    (hw : swappedStores [.Tuple [.Name x px, .Name y py] kt pt] (.Tuple [a, b] k2 pt2) X.env = pure (some [x, y]))
    (hs : swapsWithSole [.Tuple [.Name x px, .Name y py] kt pt] (.Tuple [a, b] k2 pt2) pos.line X.env = pure false := by rfl) :
    PS X (.Assign [.Tuple [.Name x px, .Name y py] kt pt] (.Tuple [a, b] k2 pt2) pos) (OW i j ta) := by
  intro pins s σ H D I h;rw [exec_Assign_arm];refine wpAny_bind (wpAny_standAt ?_);rw [hs];refine wpAny_bind (wpAny_pure ?_);rw [if_neg (by decide)];refine wpAny_bind (Tuple_ (fL (ha _ pins s σ H _ I h) fun us s1 ⟨vs, H1, I1, r1, q1⟩ => ?_));obtain ⟨v, w, e1, q1⟩ := q1;subst e1
  obtain ⟨u1, u2, rfl, rv, rw'⟩ : ∃ u1 u2, us = [u1, u2] /\ RelV v u1 /\ RelV w u2 := by
    cases r1 with
    | cons p q =>
      cases q with
      | cons p' q' =>
        cases q';exact ⟨_, _, rfl, p, p'⟩
  refine wpAny_newObj_type ?_ (by show 2 ≤ sizeLine; decide);have I2 : Inv X pins σ H1 { s1 with heap := s1.heap.push { cls := .type "tuple", data := .seq [u1, u2].toArray } } := I1.kept (t' := s1.toks) fun b o e => Heap.get?_push_of_some _ e
  rw [hw];refine wpAny_bind (wpAny_pure ?_);show wpAny (model X.prog X.w) X.A (do rule "assign.swapped-stores"; let items <- unpackItems (.ref s1.heap.objs.size) 2 none; assignInOrder [fun v => bindName X.env y v, fun v => bindName X.env x v] items.reverse; pure Flow.next) _ _ _
  refine wpAny_bind (wpAny_rule (wpAny_bind (unpackItems_tuple (items := #[u1, u2]) (I.ok.hd hc) (IsTup.new s1.heap _) fun h' hx' => ?_)));have I3 := I2.kept (h' := h') (t' := s1.toks) fun b o e => hx' b o (bW (Heap.lt_size e)) e
  show wpAny _ _ (assignInOrder [fun v => bindName X.env y v, fun v => bindName X.env x v] [u2, u1] >>= fun _ => pure Flow.next) _ _ _
  refine wpAny_bind (assignInOrder_cons (wpAny_bindName (v7 I3 hN hj (.inl hy) rw' (fun s2 I4 => ?_) (.inr hy))));refine assignInOrder_cons (wpAny_bindName (v7 I4 hN hi (.inl hx) rv (fun s3 I5 => assignInOrder_nil (wpAny_pure ?_)) (.inr hx)));rw [List.set_comm _ _ (Ne.symm hij)] at I5;exact ⟨_, H1, I5, q1⟩
def MD (to ti te:TE) (tget:V->V->Hp->VK->Prop) (tip:PN) (tset:Fq):TS:=fun D σ H=>to σ H fun o H1=>ti σ H1 fun i H2=>tget o i H2 fun x H3=>te σ H3 fun y H4=>tip x y H4 fun z H5=>tset o i z H5 fun H6=>D.nx σ H6
def PU (X:Cx) (t:V->V->Hp->VK->Prop):Prop :=
 ∀(pins:List (Addr×Obj)) (s:Shared) (σ:St) (H:Hp) (o i:V) (ov iv:Value) (Q:VK),Inv X pins σ H s->RelV o ov->RelV i iv->t o i H Q →
  wpAny (model X.prog X.w) X.A (getItem ov iv) (EP X pins σ Q) X.xe s
theorem LV {o i e : Expr} {to ti te : TE} {tget : V → V → Hp → VK → Prop} {tip : PN} {tset : Fq} {op : Operator} {tpos : Pos} (ho : PE X o to) (hi : PE X i ti) (hg : PU X tget) (he : PE X e te) (hp : PIp X op tip) (hs : OA X tset)
    (ha : ∀ ov iv new, augStore i ov iv new = (do holding [new, ov, iv] (setItem ov iv new); release [new, ov, iv] []; pure .next) := by intros; rfl) : PS X (.AugAssign (.Subscript o i tpos) op e pos) (MD to ti te tget tip tset) := by
  intro pins s σ H D I h;refine wpAny_AugAssign_SubscriptAny (fL (ho pins s σ H _ I h) fun ov s1 ⟨x1, H1, I1, r1, q1⟩ => ?_) ha;refine fL (hi pins s1 σ H1 _ I1 q1) fun iv s2 ⟨x2, H2, I2, r2, q2⟩ => ?_
  refine fL (hg pins s2 σ H2 x1 x2 ov iv _ I2 r1 r2 q2) fun old s3 ⟨x3, H3, I3, r3, q3⟩ => ?_
  refine fL (he pins s3 σ H3 _ I3 q3) fun v s4 ⟨x4, H4, I4, r4, q4⟩ => ?_
  refine fL (hp pins s4 σ H4 x3 x4 old v _ I4 r3 r4 q4) fun new s5 ⟨x5, H5, I5, r5, q5⟩ => ?_
  exact fL (hs pins s5 σ H5 x1 x2 x5 ov iv new _ I5 r1 r2 r5 q5) fun _ s6 ⟨H6, I6, q6⟩ => ⟨σ, H6, I6, q6⟩
def ipI (f:Int->Int->Int):PN:=fun x y H Q=>∃i j,x=.int i/\y=.int j/\Q (.int (f i j)) H
theorem Oi:PIp X .Add (ipI fun i j=>i+j):=by
 intro pins s σ H x y v u Q I r1 r2 h;obtain ⟨i,j,e1,e2,q⟩:=h;subst e1;subst e2;obtain ⟨t,rfl⟩:=r1;obtain ⟨t',rfl⟩:=r2;exact iadd_int ⟨.int _,H,I.tok _,⟨_,rfl⟩,q⟩
end
section
variable {X:Cx} {pos:Pos}
def IX (c:TT) (tb:TS):TS:=fun D σ H=>∃W:Nat->St->Hp->Prop,(∃m,W m σ H)/\∀m σ H,W m σ H →
 c σ H fun b H1=>if b=true then ∃N:St->Hp->Prop,(∀σ' H',N σ' H'->∃m',m' < m/\W m' σ' H')/\tb { D with nx:=N,ct:=N,bk:=D.nx } σ H1 else D.nx σ H1
theorem zM {c:Expr} {body:List Stmt} {tc:TT} {tb:TS} (hp:PassesOwn (model X.prog X.w) X.A X.env X.xe) (hc:PT X c tc) (hb:Fw X body tb):PS X (.While c body [] pos) (IX tc tb):=by
 intro pins s σ H D I h;obtain ⟨W,⟨m0,w0⟩,turn⟩:=h;refine wpAny_While (codeAny_whileLoop (fun n s'=>∃σ' H',Inv X pins σ' H' s'/\W n σ' H') ?_ m0 ⟨σ,H,I,w0⟩);rintro n s1 ⟨σ1,H1,I1,w1⟩;refine wpAny_passesOwn hp (fL (hc pins s1 σ1 H1 _ I1 (turn n σ1 H1 w1)) fun b s2 ⟨H2,I2,q2⟩=>?_);cases b with
 | true =>
  obtain ⟨N,hN,q2⟩:=q2;rw[if_pos rfl];refine wpAny_passesOwn hp (fL (hb pins s2 σ1 H2 _ I2 q2) fun f s3 q3=>?_);cases f with
  | next =>
   obtain ⟨σ3,H3,I3,n3⟩:=q3;obtain ⟨m',hm,w3⟩:=hN σ3 H3 n3;exact ⟨m',hm,σ3,H3,I3,w3⟩
  | cont =>
   obtain ⟨σ3,H3,I3,n3⟩:=q3;obtain ⟨m',hm,w3⟩:=hN σ3 H3 n3;exact ⟨m',hm,σ3,H3,I3,w3⟩
  | brk=>exact q3
  | ret v=>exact q3
 | false =>
  rw[if_neg aS];exact wpAny_execs_nil ⟨σ1,H2,I2,q2⟩
end
structure It where
 go:Nat->Hp->Prop
 yld:Nat->Hp->V->Hp->Prop
 stop:Nat->Hp->Prop
def kn (X:Cx) (pins:List (Addr×Obj)) (H:Hp) (b:Addr):Prop :=
 H b=none/\b≠X.env.locals/\b∉X.fs/\(b∈X.ex\/X.s₀.heap.objs.size<=b)/\(∀x c,X.env.cells.lookup x=some c->c≠b)/\∀p∈X.pn++pins,p.1≠b
theorem Inv.fpOk {X:Cx} {pins:List (Addr×Obj)} {σ:St} {H H':Hp} {s:Shared} {b:Addr} (I:Inv X pins σ H s) (hb:s.heap.objs.size<=b) (hn:H' b=none):kn X pins H' b:=by
 refine ⟨hn,GV (bA I.lt hb),I.nofs hb,.inr (ah I.sz hb),fun x c e z=>?_,fun p hp z=>?_⟩
 ·obtain ⟨v,q⟩:=I.cell x c e;exact absurd (bA q.lt (by rw[z];exact hb)) (dM _)
 ·exact absurd (bA (Heap.lt_size (I.pin p hp).1) (by rw[z];exact hb)) (dM _)
structure Turn (P:Program) (w:World) (K:PySem.W.Frag) (tg:Expr) (J:It) (fp:List Addr) (it:Addr) (tn:Nat->Heap->Prop):Prop where
 mem:it∈fp
 obj:∀i h,tn i h->∀b∈fp,∃o,h.get? b=some o/\∀v,o.data≠.cell v
 keep:∀i h h',tn i h->(∀b∈fp,∀o,h.get? b=some o->h'.get? b=some o)->tn i h'
 item:∀(X:Cx),X.prog=P->X.w=w->X.K=K->X.calm=true->∀(i:Nat) (pins:List (Addr×Obj)) (s:Shared) (σ:St) (H:Hp) (E:Value->Shared->Prop),Inv X pins σ H s->(∀b∈fp,kn X pins H b)->tn i s.heap->J.go i H →
  wpAny (model P w) X.A (pyNext (.ref it)) (fun r s1=>∃u,r=some u /\
   wpAny (model P w) X.A (letOwnedTupleGo tg (.ref it) u) (fun _ s2=>∃x H',Inv X pins σ H' s2/\RelV x u/\J.yld i H x H'/\tn (i+1) s2.heap/\∀b∈fp,H' b=none) E s1) E s
 done:∀(X:Cx),X.prog=P->X.w=w->X.K=K->X.calm=true->∀(i:Nat) (pins:List (Addr×Obj)) (s:Shared) (σ:St) (H:Hp) (E:Value->Shared->Prop),Inv X pins σ H s->(∀b∈fp,kn X pins H b)->tn i s.heap->J.stop i H →
  wpAny (model P w) X.A (pyNext (.ref it)) (fun r s1=>r=none/\Inv X pins σ H s1) E s
 self:∀(A:Around) (i:Nat) (s:Shared) (Q:Value->Shared->Prop) (E:Value->Shared->Prop),tn i s.heap->Q (.ref it) s->wpAny (model P w) A (pyIter (.ref it)) Q E s
abbrev TI:=St->Hp->(It->Hp->Prop)->Prop
def PIE (X:Cx) (pins:List (Addr×Obj)) (σ:St) (tg:Expr) (R:It->Hp->Prop) (itv:Value) (s2:Shared):Prop :=
 ∃(it:Addr) (fp:List Addr) (tn:Nat->Heap->Prop) (J:It) (H':Hp),itv=.ref it/\Inv X pins σ H' s2/\Turn X.prog X.w X.K tg J fp it tn/\tn 0 s2.heap/\(∀b∈fp,kn X pins H' b)/\R J H'
def PI (X:Cx) (tg iter:Expr) (wi:TI):Prop :=
 ∀(pins:List (Addr×Obj)) (s:Shared) (σ:St) (H:Hp) (R:It->Hp->Prop),Inv X pins σ H s->wi σ H R →
  wpAny (model X.prog X.w) X.A (eval iter X.env) (fun v s1=>wpAny (model X.prog X.w) X.A (pyIter v) (PIE X pins σ tg R) X.xe s1) X.xe s
theorem MW {M : Model} {A : Around} {E : Value → Shared → Prop} {s : Shared} {tg : Expr} {it : Addr} {u : Value} {o : Obj} {n : String} {vs : Array Value} {Q : Unit → Shared → Prop} (ho : s.heap.get? it = some o) (hc : o.cls = .type n) (hd : o.data = .fields vs)
    (hn : ["enumerate", "zip", "dict_itemiterator", "dict_reverseitemiterator", "odict_iterator", "itertools.zip_longest", "itertools.pairwise"].contains n = false) (hQ : Q () s) : wpAny M A (letOwnedTupleGo tg (.ref it) u) Q E s := by
  unfold letOwnedTupleGo
  cases tg <;> first
    | exact wpAny_pure hQ
    | (cases u <;> first
        | exact wpAny_pure hQ
        | (refine wpAny_bind (wpAny_load ho ?_)
           rw [hc, hd];show wpAny M A (if (["enumerate", "zip", "dict_itemiterator", "dict_reverseitemiterator", "odict_iterator", "itertools.zip_longest", "itertools.pairwise"].contains n && vs[0]? == some (rawInt _)) = true then _ else _) Q E s
           rw [if_neg (by intro h; rw [hn, Bool.false_and] at h; cases h)];exact wpAny_pure hQ))

def Na (K:PySem.W.Frag) (a:Addr):It :=
 ⟨fun i H=>∃xs x,bM K H a xs/\xs[i]?=some x,fun i H x H'=>H'=H/\∀xs,bM K H a xs->xs[i]?=some x,fun i H=>∃xs,bM K H a xs/\xs.length<=i⟩
def Ep (lo:Int) (n:Nat):It:=⟨fun i _=>i < n,fun i H x H'=>H'=H/\x=.int (lo+i),fun i _=>n<=i⟩
theorem G8 {P:Program} {w:World} {K:PySem.W.Frag} {tg:Expr} (a it:Addr):Turn P w K tg (Na K a) [it] it (fun i h=>h.IsListIter it a i) where
 mem:=by simp
 obj:=fun i h st b hb=>by
  have e:b=it:=by simpa using hb
  subst e;obtain ⟨o,e,c,d⟩:=st;exact ⟨o,e,fun v z=>by rw[d] at z;cases z⟩
 keep:=fun i h h' st k=>st.at fun o e=>k it (by simp) o e
 item:=by
  intro X hP hw hK hc i pins s σ H E I hf st hg;subst hP hw hK;obtain ⟨xs,x,hq,hx⟩:=hg;obtain ⟨its,rv,p,hz⟩:=I.list hq;obtain ⟨u,hu,ru⟩:=rv.get hx;obtain ⟨f0,f1,f2,f3,f4,f5⟩:=hf it (by simp);refine wpAny_pyNext_list_item st p.isList (x:=u) (by simpa using hu) fun h' st' sb=>?_
  have I1:Inv X pins σ H { s with heap:=h' }:=I.turned (t':=s.toks) (fun b o hb e=>(sb.2 b hb).trans e) f0 f1 f3 f4 f5;obtain ⟨o,e,c,d⟩:=id st';exact ⟨u,rfl,MW (s:={ s with heap:=h' }) e c d (by decide) ⟨x,H,I1,ru,⟨rfl,fun ys hy=>by rw[I.list_inj hy hq];exact hx⟩,st',fun b hb=>(hf b hb).1⟩⟩
 done:=by
  intro X hP hw hK hc i pins s σ H E I hf st hg;subst hP hw hK;obtain ⟨xs,hq,hx⟩:=hg;obtain ⟨its,rv,p,hz⟩:=I.list hq;obtain ⟨f0,f1,f2,f3,f4,f5⟩:=hf it (by simp);have hl:=rv.length;exact wpAny_pyNext_list_end (I.ok.hd hc) st p.isList (by simp;lia) fun h' eb=>⟨rfl,I.turned (t':=s.toks) (fun b o hb e=>eb b o hb e) f0 f1 f3 f4 f5⟩
 self:=fun _ _ _ _ _ st h=>wpAny_pyIter_listiter st h
theorem Ey {P:Program} {w:World} {K:PySem.W.Frag} {tg:Expr} (it:Addr) (lo:Int) (n:Nat):Turn P w K tg (Ep lo n) [it] it (fun i h=>IsRangeIter h it (lo+(i:Nat)*1) ((n:Int) - (i:Nat)) 1) where
 mem:=by simp
 obj:=fun i h st b hb=>by
  have e:b=it:=by simpa using hb
  subst e
  exact ⟨_,st,fun v z=>by
   have z':Data.fields _=Data.cell v:=z;cases z'⟩
 keep:=fun i h h' st k=>k it (by simp) _ st
 item:=by
  intro X hP hw hK hc i pins s σ H E I hf st hg;subst hP hw hK;obtain ⟨f0,f1,f2,f3,f4,f5⟩:=hf it (by simp);have W:=Walks.range (prog:=X.prog) (w:=X.w) (I.ok.hd hc) it lo 1 n;refine W.item i s _ _ hg st fun v h' tk hv st' kk=>?_
  obtain ⟨t,rfl⟩:=hv;have I1:Inv X pins σ H { s with heap:=h',toks:=tk }:=I.turned (fun b o hb e=>kk b o (by simpa using hb) e) f0 f1 f3 f4 f5;refine ⟨_,rfl,MW (s:={ s with heap:=h',toks:=tk }) (n:="range_iterator") st' rfl rfl (by decide) ⟨.int (lo+i),H,I1,⟨t,?_⟩,⟨rfl,rfl⟩,st',fun b hb=>(hf b hb).1⟩⟩;rw[Int.mul_one]
 done:=by
  intro X hP hw hK hc i pins s σ H E I hf st hg;subst hP hw hK;obtain ⟨f0,f1,f2,f3,f4,f5⟩:=hf it (by simp);exact wpAny_pyNext_range_end (I.ok.hd hc) st (by have:n<=i:=hg;lia) fun h' eb=>⟨rfl,I.turned (t':=s.toks) (fun b o hb e=>eb b o hb e) f0 f1 f3 f4 f5⟩
 self:=fun _ _ _ _ _ st h=>wpAny_pyIter_rangeiter st h
section
variable {X:Cx} {tg:Expr}
def Kf (K:PySem.W.Frag) (tl:TE):TI:=fun σ H R=>tl σ H fun x H1=>∃a,x=.ref a/\(∃xs,bM K H1 a xs)/\R (Na K a) H1
theorem cM {l:Expr} {tl:TE} (hl:PE X l tl):PI X tg l (Kf X.K tl):=by
 intro pins s σ H R I h;refine fL (hl pins s σ H _ I h) fun v s1 ⟨x,H1,I1,r1,q1⟩=>?_
 obtain ⟨a,e,⟨xs,hq⟩,q⟩:=q1;subst e;cases r1;obtain ⟨its,rv,p,hz⟩:=I1.list hq;refine wpAny_pyIter_list p.isList ?_;refine ⟨s1.heap.objs.size,[s1.heap.objs.size],_,_,H1,rfl,I1.kept (t':=s1.toks) fun b o e=>Heap.get?_push_of_some _ e,G8 a _,⟨_,Heap.get?_push_size _ rfl,rfl,rfl⟩,fun b hb=>?_,q⟩;have e:b=s1.heap.objs.size:=by simpa using hb
 subst e;exact I1.fpOk (ar _) (I1.hok.fresh (ar _))
theorem DG {pins:List (Addr×Obj)} {σ:St} {H:Hp} {s:Shared} {R:It->Hp->Prop} {E:Value->Shared->Prop} {lo hi:Int} {t u v:Tok} {tk:Nat} (I:Inv X pins σ H s) (h1:-(2^62)<=lo) (h2:lo < 2^62) (h3:-(2^62)<=hi) (h4:hi < 2^62)
  (q:R (Ep lo (hi - lo).toNat) H):wpAny (model X.prog X.w) X.A (pyIter (.ref s.heap.objs.size)) (PIE X pins σ tg R) E { s with heap:=s.heap.push { cls:=.type "range",data:=.fields #[.int lo t,.int hi u,.int 1 v] },toks:=tk }:=by
 refine wpAny_pyIter_range (IsRange.new ..) (small_one h1 h2 h3 h4) ?_;have I1:Inv X pins σ H { s with heap:=s.heap.push { cls:=.type "range",data:=.fields #[.int lo t,.int hi u,.int 1 v] },toks:=tk }:=I.kept fun b o e=>Heap.get?_push_of_some _ e
 refine ⟨(s.heap.push { cls:=.type "range",data:=.fields #[.int lo t,.int hi u,.int 1 v] }).objs.size,[(s.heap.push { cls:=.type "range",data:=.fields #[.int lo t,.int hi u,.int 1 v] }).objs.size],_,_,H,rfl,
  I1.kept (t':=tk) fun b o e=>Heap.get?_push_of_some _ e,Ey _ lo (hi - lo).toNat,?_,fun b hb=>?_,q⟩
 ·have e1:lo+((0:Nat):Int)*1=lo:=by simp
  have e2:(((hi - lo).toNat:Nat):Int) - ((0:Nat):Int)=Builtin.Range.rangeSize lo hi 1:=by rw[rangeSize_one];split <;> lia
  show IsRangeIter _ _ (lo+((0:Nat):Int)*1) ((((hi - lo).toNat:Nat):Int) - ((0:Nat):Int)) 1
  rw[e1,e2];exact Heap.get?_push_size _ rfl
 ·have e:b=(s.heap.push { cls:=.type "range",data:=.fields #[.int lo t,.int hi u,.int 1 v] }).objs.size:=by simpa using hb
  subst e;exact I1.fpOk (ar _) (I1.hok.fresh (ar _))
def MT (ta:TA):TI:=fun σ H R=>ta σ H fun vs H1=>∃j:Int,vs=[.int j]/\-(2^62)<=j/\j < 2^62/\R (Ep 0 j.toNat) H1
def MS (ta:TA):TI:=fun σ H R=>ta σ H fun vs H1=>∃i j:Int,vs=[.int i,.int j]/\(-(2^62)<=i/\i < 2^62/\-(2^62)<=j/\j < 2^62)/\R (Ep i (j - i).toNat) H1
theorem cv {a:Expr} {ta:TA} {p pos:Pos} (hg:Gl X "range") (hm:X.mg "range"=none) (ha:PA X [a] ta) (hs:starEach [a] X.env=[(false,eval a X.env)]:=by rfl):PI X tg (.Call (.Name "range" p) [a] [] pos) (MT ta):=by
 intro pins s σ H R I h;refine Call_ (ki I hg hm boot_range (PyProof.Rows.callWith_type1 (fL (ha pos pins s σ H _ I h) fun us s1 ⟨vs,H1,I1,r1,q1⟩=>?_) hs rfl));obtain ⟨j,e,q1,q2,q⟩:=q1;subst e;cases r1 with
 | cons r rr =>
  cases rr;obtain ⟨t,rfl⟩:=r;exact call_range_1 (DG I1 (by lia) (by lia) q1 q2 (by simpa using q))
theorem HY {a b:Expr} {ta:TA} {p pos:Pos} (hg:Gl X "range") (hm:X.mg "range"=none) (ha:PA X [a,b] ta) (hs:starEach [a,b] X.env=[(false,eval a X.env),(false,eval b X.env)]:=by rfl) (hs2:starEach [b] X.env=[(false,eval b X.env)]:=by rfl) :
  PI X tg (.Call (.Name "range" p) [a,b] [] pos) (MS ta):=by
 intro pins s σ H R I h;refine Call_ (ki I hg hm boot_range (PyProof.Rows.callWith_type1 (fL (ha pos pins s σ H _ I h) fun us s1 ⟨vs,H1,I1,r1,q1⟩=>?_) (by rw[hs,hs2]) (by rw[hs2];rfl)));obtain ⟨i,j,e,⟨q1,q2,q3,q4⟩,q⟩:=q1;subst e;cases r1 with
 | cons r rr =>
  cases rr with
  | cons r' rr =>
   cases rr;obtain ⟨t,rfl⟩:=r;obtain ⟨t',rfl⟩:=r';exact call_range_2 (DG I1 q1 q2 q3 q4 q)
def O1 (wi:TI) (g:TG) (tb:TS):TS:=fun D σ H=>wi σ H fun J H1=>∃W:Nat->Nat->St->Hp->Prop,(∃m,W 0 m σ H1)/\∀i m σ H,W i m σ H →
 (J.stop i H/\D.nx σ H)\/(J.go i H/\∃N:St->Hp->Prop,(∀σ' H',N σ' H'->∃m',m' < m/\W (i+1) m' σ' H')/\∀x H',J.yld i H x H'->g x σ H' fun σ2 H2=>tb { D with nx:=N,ct:=N,bk:=D.nx } σ2 H2)
def zN (fp:List Addr) (h:Heap):List (Addr×Obj):=fp.filterMap fun b=>(h.get? b).map fun o=>(b,o)
theorem qU {fp:List Addr} {h:Heap} {b:Addr} {o:Obj} (hb:b∈fp) (e:h.get? b=some o):(b,o)∈zN fp h:=List.mem_filterMap.mpr ⟨b,hb,by rw[e];rfl⟩
theorem Ie {fp:List Addr} {h:Heap} {p:Addr×Obj} (hp:p∈zN fp h):p.1∈fp/\h.get? p.1=some p.2:=by
 obtain ⟨b,hb,e⟩:=List.mem_filterMap.mp hp;cases q:h.get? b with
 | none=>rw[q] at e;cases e
 | some o =>
  rw[q] at e;have e':(b,o)=p:=b7 e;subst e';exact ⟨hb,q⟩
theorem Inv.pinned {pins:List (Addr×Obj)} {σ:St} {H:Hp} {s:Shared} {fp:List Addr} (I:Inv X pins σ H s) (hf:∀b∈fp,kn X pins H b) (ho:∀b∈fp,∃o,s.heap.get? b=some o/\∀v,o.data≠.cell v):Inv X (pins++zN fp s.heap) σ H s :=
 I.pins_of fun p hp=>(ax.mp hp).elim (fun z=>I.pin p (bQ _ z)) fun z=>by
  obtain ⟨hb,e⟩:=Ie z;obtain ⟨f0,f1,f2,_⟩:=hf p.1 hb;obtain ⟨o,e',d⟩:=ho p.1 hb;rw[e] at e';cases e';exact ⟨e,f0,f1,f2,d⟩
theorem Inv.unpinned {pins pl:List (Addr×Obj)} {σ:St} {H:Hp} {s:Shared} (I:Inv X (pins++pl) σ H s):Inv X pins σ H s:=I.pins_of fun p hp=>I.pin p (bQ _ (jX _ hp))
theorem eF {iter : Expr} {body : List Stmt} {wi : TI} {g : TG} {tb : TS} {pos : Pos} (hp : PassesOwn (model X.prog X.w) X.A X.env X.xe) (hc : X.calm = true) (hi : PI X tg iter wi) (hg : PG X tg g) (hb : Fw X body tb)
    (hs : ∀ x, foldedSetIterable iter X.env x = pure x := by intro _; rfl) : PS X (.For tg iter body [] pos) (O1 wi g tb) := by
  intro pins s σ H D I h;refine wpAny_For (fL (hi pins s σ H _ I h) fun v s1 h1 => fL h1 fun itv s2 h2 => ?_) hs;obtain ⟨it, fp, tn, J, H2, e, I2, T, st2, f2, W, ⟨m0, w0⟩, turn⟩ := h2;subst e;have stat : ∀ {H' : Hp}, (∀ b ∈ fp, H' b = none) → ∀ b ∈ fp, kn X pins H' b := fun hn b hb => ⟨hn b hb, (f2 b hb).2⟩
  refine codeAny_forLoop_any (fun n s' => ∃ i σ' H', Inv X pins σ' H' s' /\ tn i s'.heap /\ (∀ b ∈ fp, H' b = none) /\ W i n σ' H') ?_ m0 ⟨0, σ, H2, I2, st2, fun b hb => (f2 b hb).1, w0⟩;rintro n s3 ⟨i, σ3, H3, I3, st3, fr3, w3⟩;rcases turn i n σ3 H3 w3 with ⟨stop, qn⟩ | ⟨go, N, hN, step⟩
  · refine wpAny_passesOwn hp (fL (T.done X rfl rfl rfl hc i pins s3 σ3 H3 X.xe I3 (stat fr3) st3 stop) fun r s4 ⟨hr, I4⟩ => ?_);subst hr;exact wpAny_execs_nil ⟨σ3, H3, I4, qn⟩
  · refine wpAny_passesOwn hp (fL (T.item X rfl rfl rfl hc i pins s3 σ3 H3 X.xe I3 (stat fr3) st3 go) fun r s4 ⟨u, hr, h4⟩ => ?_);subst hr;refine wpAny_passesOwn hp (fL h4 fun _ s5 ⟨x, H5, I5, r5, y5, st5, fr5⟩ => ?_);have I5' := I5.pinned (stat fr5) (T.obj _ _ st5);refine wpAny_passesOwn hp (fL (hg _ s5 σ3 H5 x u _ I5' r5 (step x H5 y5)) fun _ s6 ⟨σ6, H6, I6, q6⟩ => ?_);refine wpAny_passesOwn hp (fL (hb _ s6 σ6 H6 _ I6 q6) fun f s7 q7 => ?_)
    have again : ∀ {σ7 : St} {H7 : Hp}, Inv X (pins ++ zN fp s5.heap) σ7 H7 s7 → N σ7 H7 → ∃ m, m < n /\ ∃ i σ' H', Inv X pins σ' H' s7 /\ tn i s7.heap /\ (∀ b ∈ fp, H' b = none) /\ W i m σ' H' := fun {σ7 H7} I7 n7 => by
      obtain ⟨m', hm, w7⟩ := hN σ7 H7 n7;refine ⟨m', hm, i + 1, σ7, H7, I7.unpinned, T.keep _ _ _ st5 fun b hb o e => (I7.pin (b, o) (bQ _ (bQ _ (qU hb e)))).1, fun b hb => ?_, w7⟩;obtain ⟨o, e, d⟩ := T.obj _ _ st5 b hb;exact (I7.pin (b, o) (bQ _ (bQ _ (qU hb e)))).2.1
    cases f with
    | next => obtain ⟨σ7, H7, I7, n7⟩ := q7; exact again I7 n7
    | cont => obtain ⟨σ7, H7, I7, n7⟩ := q7; exact again I7 n7
    | brk => obtain ⟨σ7, H7, I7, q7⟩ := q7; exact ⟨σ7, H7, I7.unpinned, q7⟩
    | ret v => obtain ⟨x7, σ7, H7, I7, r7, q7⟩ := q7; exact ⟨x7, σ7, H7, I7.unpinned, r7, q7⟩
end
theorem lS {K:PySem.W.Frag} {a:Addr} {xs:List V} {g:TG} {tb:TS} {D:Ends} {σ:St} {H:Hp} (Pv:Nat->St->Hp->Prop) (h0:Pv 0 σ H) (hl:∀i σ H,i<=xs.length->Pv i σ H->bM K H a xs)
  (hs:∀i x σ H,xs[i]?=some x->Pv i σ H->g x σ H fun σ2 H2=>tb { D with nx:=Pv (i+1),ct:=Pv (i+1),bk:=D.nx } σ2 H2) (hd:∀σ H,Pv xs.length σ H->D.nx σ H) :
  ∃W:Nat->Nat->St->Hp->Prop,(∃m,W 0 m σ H)/\∀i m σ H,W i m σ H →
   ((Na K a).stop i H/\D.nx σ H)\/((Na K a).go i H/\∃N:St->Hp->Prop,(∀σ' H',N σ' H'->∃m',m' < m/\W (i+1) m' σ' H')/\∀x H',(Na K a).yld i H x H'->g x σ H' fun σ2 H2=>tb { D with nx:=N,ct:=N,bk:=D.nx } σ2 H2):=by
 refine ⟨fun i m σ H=>m=xs.length - i/\i<=xs.length/\Pv i σ H,⟨xs.length,by simp,aX _,h0⟩,?_⟩;rintro i m σ H ⟨rfl,hi,p⟩;have q:=hl i σ H hi p;by_cases hlt:i < xs.length
 ·refine .inr ⟨⟨xs,xs[i],q,by simp [hlt]⟩,Pv (i+1),fun σ' H' p'=>⟨xs.length - (i+1),by lia,rfl,hlt,p'⟩,fun x H' y=>?_⟩;obtain ⟨e,y⟩:=y;subst e;exact hs i x σ _ (y xs q) p
 ·have e:i=xs.length:=by lia
  subst e;exact .inl ⟨⟨xs,q,ar _⟩,hd σ H p⟩
theorem BC {lo:Int} {n:Nat} {g:TG} {tb:TS} {D:Ends} {σ:St} {H:Hp} (Pv:Nat->St->Hp->Prop) (h0:Pv 0 σ H)
  (hs:∀i σ H,i < n->Pv i σ H->g (.int (lo+i)) σ H fun σ2 H2=>tb { D with nx:=Pv (i+1),ct:=Pv (i+1),bk:=D.nx } σ2 H2) (hd:∀σ H,Pv n σ H->D.nx σ H) :
  ∃W:Nat->Nat->St->Hp->Prop,(∃m,W 0 m σ H)/\∀i m σ H,W i m σ H →
   ((Ep lo n).stop i H/\D.nx σ H)\/((Ep lo n).go i H/\∃N:St->Hp->Prop,(∀σ' H',N σ' H'->∃m',m' < m/\W (i+1) m' σ' H')/\∀x H',(Ep lo n).yld i H x H'->g x σ H' fun σ2 H2=>tb { D with nx:=N,ct:=N,bk:=D.nx } σ2 H2):=by
 refine ⟨fun i m σ H=>m=n - i/\i<=n/\Pv i σ H,⟨n,by simp,aX _,h0⟩,?_⟩;rintro i m σ H ⟨rfl,hi,p⟩;by_cases hlt:i < n
 ·refine .inr ⟨hlt,Pv (i+1),fun σ' H' p'=>⟨n - (i+1),by lia,rfl,hlt,p'⟩,fun x H' y=>?_⟩;obtain ⟨e,y⟩:=y;subst e y;exact hs i σ _ hlt p
 ·have e:i=n:=by lia
  subst e;exact .inl ⟨ar _,hd σ H p⟩
abbrev R2:=V->V->Hp->VK->Prop
def yc (X:Cx) (f:Value->Value->Sem Value) (r:R2):Prop :=
 ∀(pins:List (Addr×Obj)) (s:Shared) (σ:St) (H:Hp) (x y:V) (v u:Value) (Q:VK),Inv X pins σ H s->RelV x v->RelV y u->r x y H Q →
  wpAny (model X.prog X.w) X.A (f v u) (EP X pins σ Q) X.xe s
def Qw (X:Cx) (f:Value->Sem Value) (r:V->Hp->VK->Prop):Prop :=
 ∀(pins:List (Addr×Obj)) (s:Shared) (σ:St) (H:Hp) (x:V) (v:Value) (Q:VK),Inv X pins σ H s->RelV x v->r x H Q →
  wpAny (model X.prog X.w) X.A (f v) (EP X pins σ Q) X.xe s
def tY (X:Cx) (f:Value) (r:List V->Hp->VK->Prop):Prop :=
 ∀(pins:List (Addr×Obj)) (s:Shared) (σ:St) (H:Hp) (xs:List V) (us:List Value) (Q:VK),Inv X pins σ H s->cA xs us->r xs H Q →
  wpAny (model X.prog X.w) X.A (call f us) (EP X pins σ Q) X.xe s
def OX (r:R2) (ta tb:TE):TE:=fun σ H Q=>ta σ H fun x H1=>tb σ H1 fun y H2=>r x y H2 Q
def P8 (r:V->Hp->VK->Prop) (ta:TE):TE:=fun σ H Q=>ta σ H fun x H1=>r x H1 Q
def rI (C:Int->Int->Prop) (g:Int->Int->V):R2:=fun x y H Q=>∃i j,x=.int i/\y=.int j/\C i j/\Q (g i j) H
def LS (g:Int->Int->V):R2:=fun x y H Q=>∃i j,x=.int i/\y=.int j/\Q (g i j) H
def rU (g:Int->V):V->Hp->VK->Prop:=fun x H Q=>∃i,x=.int i/\Q (g i) H
section
variable {X:Cx} {a b c:Expr} {ta tb tc:TE} {pos:Pos}
theorem Oy (ha:PE X a ta) (hb:PE X b tb) {pins:List (Addr×Obj)} {s:Shared} {σ:St} {H:Hp} {R:V->V->Hp->Prop} (I:Inv X pins σ H s)
  (h:ta σ H fun x H1=>tb σ H1 fun y H2=>R x y H2) {Q:Value->Shared->Prop} {f:Value->Value->Sem Value}
  (hf:∀v u s2 x y H2,Inv X pins σ H2 s2->RelV x v->RelV y u->R x y H2->wpAny (model X.prog X.w) X.A (f v u) Q X.xe s2) :
  wpAny (model X.prog X.w) X.A (eval a X.env) (fun v s₁=>wpAny (model X.prog X.w) X.A (eval b X.env) (fun u s₂=>wpAny (model X.prog X.w) X.A (f v u) Q X.xe s₂) X.xe s₁) X.xe s:=by
 refine fL (ha pins s σ H _ I h) fun v s1 ⟨x,H1,I1,r1,q1⟩=>?_
 refine fL (hb pins s1 σ H1 _ I1 q1) fun u s2 ⟨y,H2,I2,r2,q2⟩=>?_
 exact hf v u s2 x y H2 I2 r1 r2 q2
theorem bC {op:Operator} {r:R2} (ho:yc X (binaryOp op) r) (ha:PE X a ta) (hb:PE X b tb):PE X (.BinOp a op b pos) (OX r ta tb):=by
 intro pins s σ H Q I h;exact wpAny_BinOp (Oy ha hb I h fun v u s2 x y H2 I2 rx ry q=>ho pins s2 σ H2 x y v u Q I2 rx ry q)
theorem wq {op:UnaryOp} {r:V->Hp->VK->Prop} (ho:Qw X (unaryOp op) r) (ha:PE X a ta):PE X (.UnaryOp op a pos) (P8 r ta):=by
 intro pins s σ H Q I h;exact UnaryOp_ (fL (ha pins s σ H _ I h) fun v s1 ⟨x,H1,I1,r1,q1⟩=>ho pins s1 σ H1 x v Q I1 r1 q1)
theorem Qa {f:Value->Value->Sem Value} {C:Int->Int->Prop} {g:Int->Int->Int}
  (rule:∀(i j:Int) (t u:Tok) (s:Shared) (Q:Value->Shared->Prop) (E:Value->Shared->Prop),C i j->Q (.int (g i j) s.toks) { s with toks:=s.toks+1 }->wpAny (model X.prog X.w) X.A (f (.int i t) (.int j u)) Q E s) :
  yc X f (rI C fun i j=>.int (g i j)):=by
 intro pins s σ H x y v u Q I rx ry h;obtain ⟨i,j,rfl,rfl,hc,q⟩:=h;obtain ⟨t,rfl⟩:=rx;obtain ⟨t',rfl⟩:=ry;exact rule i j t t' s _ _ hc ⟨.int (g i j),H,I.tok _,⟨_,rfl⟩,q⟩
theorem Pt {f:Value->Value->Sem Value} {g:Int->Int->Int}
  (rule:∀(i j:Int) (t u:Tok) (s:Shared) (Q:Value->Shared->Prop) (E:Value->Shared->Prop),Q (.int (g i j) s.toks) { s with toks:=s.toks+1 }->wpAny (model X.prog X.w) X.A (f (.int i t) (.int j u)) Q E s) :
  yc X f (LS fun i j=>.int (g i j)):=by
 intro pins s σ H x y v u Q I rx ry h;obtain ⟨i,j,rfl,rfl,q⟩:=h;obtain ⟨t,rfl⟩:=rx;obtain ⟨t',rfl⟩:=ry;exact rule i j t t' s _ _ ⟨.int (g i j),H,I.tok _,⟨_,rfl⟩,q⟩
theorem L5 {f:Value->Value->Sem Value} {g:Int->Int->Bool}
  (rule:∀(i j:Int) (t u:Tok) (s:Shared) (Q:Value->Shared->Prop) (E:Value->Shared->Prop),Q (.bool (g i j)) s->wpAny (model X.prog X.w) X.A (f (.int i t) (.int j u)) Q E s) :
  yc X f (LS fun i j=>.bl (g i j)):=by
 intro pins s σ H x y v u Q I rx ry h;obtain ⟨i,j,rfl,rfl,q⟩:=h;obtain ⟨t,rfl⟩:=rx;obtain ⟨t',rfl⟩:=ry;exact rule i j t t' s _ _ ⟨.bl (g i j),H,I,rfl,q⟩
def OE (i j:Int):Prop:=(-(2^64) < i/\i < 2^64)\/(-(2^64) < j/\j < 2^64)
theorem OE.ok {i j:Int} (h:OE i j):IntMulOk i j:=by
 rcases h with ⟨h1,h2⟩ | ⟨h1,h2⟩
 ·exact .of_left (intBits_le_64 h1 h2)
 ·exact .of_right (intBits_le_64 h1 h2)
theorem eX:yc X (binaryOp .Add) (LS fun i j=>.int (i+j)):=Pt fun _ _ _ _ _ _ _ q=>add_int q
theorem ke:yc X (binaryOp .Sub) (LS fun i j=>.int (i - j)):=Pt fun _ _ _ _ _ _ _ q=>sub_int q
theorem pH:yc X (binaryOp .Mod) (rI (fun _ j=>0 < j) fun i j=>.int (i % j)):=Qa fun i j _ _ _ _ _ hc q=>by
 have h1:(0:Int) < j:=hc;exact mod_int' (by lia) (by rw[Int.fmod_eq_emod_of_nonneg i (by lia)];exact q)
theorem L4:yc X (binaryOp .Mod) (rI (fun _ j=>j≠0) fun i j=>.int (i.fmod j)):=Qa fun _ _ _ _ _ _ _ hc q=>mod_int' hc q
theorem unI {f:Value->Sem Value} {g:Int->Int}
  (rule:∀(i:Int) (t:Tok) (s:Shared) (Q:Value->Shared->Prop) (E:Value->Shared->Prop),Q (.int (g i) s.toks) { s with toks:=s.toks+1 }->wpAny (model X.prog X.w) X.A (f (.int i t)) Q E s) :
  Qw X f (rU fun i=>.int (g i)):=by
 intro pins s σ H x v Q I rx h;obtain ⟨i,rfl,q⟩:=h;obtain ⟨t,rfl⟩:=rx;exact rule i t s _ _ ⟨.int (g i),H,I.tok _,⟨_,rfl⟩,q⟩
theorem qG:Qw X (unaryOp .USub) (rU fun i=>.int (-i)):=unI fun _ _ _ _ _ q=>neg_int q
end
def O7:V->V->Bool
 | .non,.non=>true | .non,.int _=>true | .int _,.non=>true | .non,.bl _=>true | .bl _,.non=>true | .non,.str _=>true | .str _,.non=>true
 | .int _,.int _=>true | .bl _,.bl _=>true | .str _,.str _=>true | .byt _,.byt _=>true
 | .int _,.str _=>true | .str _,.int _=>true | .bl _,.str _=>true | .str _,.bl _=>true
 | _,_=>false
def Qo:R2:=fun x y H Q=>O7 x y=true/\Q (.bl (decide (x=y))) H
def rNe:R2:=fun x y H Q=>O7 x y=true/\Q (.bl (!decide (x=y))) H
theorem Gz {i j:Int}:decide (V.int i=V.int j)=(i == j):=by
 rw[nh];simp
theorem Kx {i j:Bool}:decide (V.bl i=V.bl j)=(i == j):=by
 rw[nh];simp
theorem Gy {i j:Str}:decide (V.str i=V.str j)=(i == j):=by
 rw[nh];simp
theorem GA {i j:Array UInt8}:decide (V.byt i=V.byt j)=(i.toList == j.toList):=by
 rw[nh];cases i;cases j;simp
section
variable {X:Cx} {a b c:Expr} {ta tb tc:TE} {pos:Pos}
theorem cZ {pins:List (Addr×Obj)} {σ:St} {H:Hp} {s:Shared} {Q:VK} {k k':Bool} (I:Inv X pins σ H s) (q:Q (.bl k) H) (e:k=k'):EP X pins σ Q (.bool k') s:=by
 subst e;exact ⟨.bl k,H,I,rfl,q⟩
theorem fw:yc X (compareOp .Eq) Qo:=by
 intro pins s σ H x y v u Q I rx ry h;obtain ⟨hs,q⟩:=h;cases x with
 | non =>
  cases rx;cases y with
  | non=>cases ry;exact PySem.EqNone.eq_none_none (cZ I q (by simp))
  | bl j=>cases ry;exact PySem.EqNone.eq_none_bool (cZ I q (by simp))
  | int j=>obtain ⟨t',rfl⟩:=ry;exact PySem.EqNone.eq_none_int (cZ I q (by simp))
  | str j=>obtain ⟨t',rfl⟩:=ry;exact PySem.EqNone.eq_none_str (cZ I q (by simp))
  | _=>exact absurd (show false=true from hs) aS
 | bl i =>
  cases rx;cases y with
  | non=>cases ry;exact PySem.EqNone.eq_bool_none (cZ I q (by simp))
  | bl j=>cases ry;exact eq_bool (cZ I q Kx)
  | str j=>obtain ⟨t',rfl⟩:=ry;exact PySem.EqMixed.eq_bool_str (cZ I q (by simp))
  | _=>exact absurd (show false=true from hs) aS
 | int i =>
  obtain ⟨t,rfl⟩:=rx;cases y with
  | non=>cases ry;exact PySem.EqNone.eq_int_none (cZ I q (by simp))
  | int j=>obtain ⟨t',rfl⟩:=ry;exact eq_int (cZ I q Gz)
  | str j=>obtain ⟨t',rfl⟩:=ry;exact PySem.EqMixed.eq_int_str (cZ I q (by simp))
  | _=>exact absurd (show false=true from hs) aS
 | str i =>
  obtain ⟨t,rfl⟩:=rx;cases y with
  | non=>cases ry;exact PySem.EqNone.eq_str_none (cZ I q (by simp))
  | bl j=>cases ry;exact PySem.EqMixed.eq_str_bool (cZ I q (by simp))
  | int j=>obtain ⟨t',rfl⟩:=ry;exact PySem.EqMixed.eq_str_int (cZ I q (by simp))
  | str j=>obtain ⟨t',rfl⟩:=ry;exact eq_str (cZ I q Gy)
  | _=>exact absurd (show false=true from hs) aS
 | byt i =>
  obtain ⟨t,rfl⟩:=rx;cases y with
  | byt j=>obtain ⟨t',rfl⟩:=ry;exact PySem.W.eq_bytes (cZ I q GA)
  | _=>exact absurd (show false=true from hs) aS
 | _=>cases y <;> exact absurd (show false=true from hs) aS
theorem DN:yc X (compareOp .NotEq) rNe:=by
 intro pins s σ H x y v u Q I rx ry h;obtain ⟨hs,q⟩:=h;cases x with
 | non =>
  cases rx;cases y with
  | non=>cases ry;exact PySem.EqNone.ne_none_none (cZ I q (by simp))
  | bl j=>cases ry;exact PySem.EqNone.ne_none_bool (cZ I q (by simp))
  | int j=>obtain ⟨t',rfl⟩:=ry;exact PySem.EqNone.ne_none_int (cZ I q (by simp))
  | str j=>obtain ⟨t',rfl⟩:=ry;exact PySem.EqNone.ne_none_str (cZ I q (by simp))
  | _=>exact absurd (show false=true from hs) aS
 | bl i =>
  cases rx;cases y with
  | non=>cases ry;exact PySem.EqNone.ne_bool_none (cZ I q (by simp))
  | bl j=>cases ry;exact ne_bool (cZ I q (congrArg not Kx))
  | str j=>obtain ⟨t',rfl⟩:=ry;exact PySem.EqMixed.ne_bool_str (cZ I q (by simp))
  | _=>exact absurd (show false=true from hs) aS
 | int i =>
  obtain ⟨t,rfl⟩:=rx;cases y with
  | non=>cases ry;exact PySem.EqNone.ne_int_none (cZ I q (by simp))
  | int j=>obtain ⟨t',rfl⟩:=ry;exact ne_int (cZ I q (congrArg not Gz))
  | str j=>obtain ⟨t',rfl⟩:=ry;exact PySem.EqMixed.ne_int_str (cZ I q (by simp))
  | _=>exact absurd (show false=true from hs) aS
 | str i =>
  obtain ⟨t,rfl⟩:=rx;cases y with
  | non=>cases ry;exact PySem.EqNone.ne_str_none (cZ I q (by simp))
  | bl j=>cases ry;exact PySem.EqMixed.ne_str_bool (cZ I q (by simp))
  | int j=>obtain ⟨t',rfl⟩:=ry;exact PySem.EqMixed.ne_str_int (cZ I q (by simp))
  | str j=>obtain ⟨t',rfl⟩:=ry;exact ne_str (cZ I q (congrArg not Gy))
  | _=>exact absurd (show false=true from hs) aS
 | byt i =>
  obtain ⟨t,rfl⟩:=rx;cases y with
  | byt j=>obtain ⟨t',rfl⟩:=ry;exact PySem.W.ne_bytes (cZ I q (congrArg not GA))
  | _=>exact absurd (show false=true from hs) aS
 | _=>cases y <;> exact absurd (show false=true from hs) aS
theorem uZ:yc X (compareOp .Lt) (LS fun i j=>.bl (decide (i < j))):=L5 fun _ _ _ _ _ _ _ q=>lt_int q
theorem Pq:yc X (compareOp .LtE) (LS fun i j=>.bl (decide (i<=j))):=L5 fun _ _ _ _ _ _ _ q=>le_int q
theorem zU:yc X (compareOp .Gt) (LS fun i j=>.bl (decide (j < i))):=L5 fun _ _ _ _ _ _ _ q=>gt_int q
theorem Bo:yc X (compareOp .GtE) (LS fun i j=>.bl (decide (j<=i))):=L5 fun _ _ _ _ _ _ _ q=>ge_int q
theorem FT:yc X (compareOp .IsNot) (fun x y H Q=>y=.non/\Q (.bl (!decide (x=.non))) H):=by
 intro pins s σ H x y v u Q I rx ry h;obtain ⟨rfl,q⟩:=h;cases ry;refine isnot_none_gen (cZ I q ?_)
 cases x <;> first
  | (cases rx;rfl)
  | (obtain ⟨t,rfl⟩:=rx;rfl)
theorem bK (b:Expr) {op:CmpOp} (h:op≠.In:=by decide) (h2:op≠.NotIn:=by decide):behindInMarks op b=false:=by
 have e1:(op == CmpOp.In)=false:=by cases op <;> first | rfl | exact absurd rfl h
 have e2:(op == CmpOp.NotIn)=false:=by cases op <;> first | rfl | exact absurd rfl h2
 cases b <;> simp [behindInMarks,e1,e2]
theorem wx {op:CmpOp} {r:R2} (ho:yc X (compareOp op) r) (ha:PE X a ta) (hb:PE X b tb) (hm:behindInMarks op b=false):PE X (.Compare a [op] [b] pos) (OX r ta tb):=by
 intro pins s σ H Q I h;exact wpAny_Compare1 (Oy ha hb I h fun v u s2 x y H2 I2 rx ry q=>ho pins s2 σ H2 x y v u Q I2 rx ry q) hm
def Mw (t:TE):TT:=fun σ H Q=>t σ H fun x H'=>∃k,x=.bl k/\Q k H'
theorem bw {op:CmpOp} {r:R2} (ho:yc X (compareOp op) r) (ha:PE X a ta) (hb:PE X b tb) (hm:behindInMarks op b=false):PT X (.Compare a [op] [b] pos) (Mw (OX r ta tb)):=by
 intro pins s σ H Q I h
 refine wpAny_isTrue_Compare1 (fL (ha pins s σ H _ I h) fun v s1 ⟨x,H1,I1,r1,q1⟩=>fL (hb pins s1 σ H1 _ I1 q1) fun u s2 ⟨y,H2,I2,r2,q2⟩ =>
  fL (ho pins s2 σ H2 x y v u _ I2 r1 r2 q2) fun c s3 ⟨z,H3,I3,r3,k,e,q3⟩=>?_) hm
 subst e;cases r3;exact wpAny_truthy_bool ⟨H3,I3,q3⟩
theorem Ag:(sizeLine:Nat) < 2^63:=by rw[sizeLine_eq];decide
theorem vals1 {x:V} {us:List Value} (r:cA [x] us):∃u,us=[u]/\RelV x u:=by
 cases r with
 | cons r1 r2=>cases r2;exact ⟨_,rfl,r1⟩
theorem vals2 {x y:V} {us:List Value} (r:cA [x,y] us):∃u w',us=[u,w']/\RelV x u/\RelV y w':=by
 cases r with
 | cons r1 r2 =>
  cases r2 with
  | cons r3 r4=>cases r4;exact ⟨_,_,rfl,r1,r3⟩
theorem Aq:tY X (.builtin "abs") (fun xs H Q=>∃i,xs=[.int i]/\Q (.int (if i < 0 then -i else i)) H):=by
 intro pins s σ H xs us Q I r h;obtain ⟨i,rfl,q⟩:=h;obtain ⟨u,rfl,t,rfl⟩:=vals1 r;exact call_abs_int fun u tk=>⟨.int (if i < 0 then -i else i),H,I.tok _,⟨_,rfl⟩,q⟩
theorem qo (hc:X.calm=true):tY X (.builtin "min") (fun xs H Q=>∃i j,xs=[.int i,.int j]/\Q (.int (if j < i then j else i)) H):=by
 intro pins s σ H xs us Q I r h;obtain ⟨i,j,rfl,q⟩:=h;obtain ⟨u,w',rfl,⟨t,rfl⟩,⟨t',rfl⟩⟩:=vals2 r;refine min_two_ints (I.ok.hd hc) fun h' tk k=>⟨_,H,I.kept k,?_,q⟩
 by_cases hj:j < i
 ·rw[if_pos hj,if_pos hj];exact ⟨_,rfl⟩
 ·rw[if_neg hj,if_neg hj];exact ⟨_,rfl⟩
end
structure Fx (h:Heap) (x dx C:Addr) (mA:Str->Option Value):Prop where
 obj:h.get? x=some (PySem.W.instObj C dx)
 ns:h.Ns1 dx mA
 ne:dx≠x
theorem Ip {h:Heap} {dx:Addr} {mA:Str->Option Value} (n:h.Ns1 dx mA):∃od,h.get? dx=some od/\∀name,PySem.W.lookIn name od=some (mA name):=by
 obtain ⟨o,es,ep,ho,hd,hk,_,hm⟩:=n;refine ⟨o,ho,fun name=>?_⟩;have e:=hm name;unfold nsFind findBy at e;rw[<- Array.find?_toList] at e;unfold PySem.W.lookIn;rw[hd]
 dsimp only
 split
 ·rename_i y q
  rw[q] at e;exact congrArg some e
 ·rename_i q
  rw[q] at e
  have a:es.toList.any (·.refKey)=false:=by
   rw[List.any_eq_false];intro y hy;obtain ⟨z,t,hkey⟩:=hk y (Array.mem_toList_iff.mp hy);simp [DictEntry.refKey,hkey]
  have a':¬es.toList.any (·.refKey)=true:=by rw[a];exact aS
  rw[if_neg a'];exact congrArg some e
theorem Fx.look {h:Heap} {x dx C:Addr} {mA:Str->Option Value} (I:Fx h x dx C mA):∃od,PySem.W.InstAt h x (PySem.W.instObj C dx) C (some od)/\∀name,PySem.W.lookIn name od=some (mA name) :=
 let ⟨od,ho,hl⟩:=Ip I.ns
 ⟨od,⟨I.obj,rfl,rfl,ho⟩,hl⟩
section
variable {prog:Program} {w:World} {A:Around} {E:Value->Shared->Prop} {s:Shared} {K:PySem.W.Frag} {x dx C f:Addr} {mA:Str->Option Value} {name:Str} {v:Value}
theorem get_map {expr:Bool} {Q:Value->Shared->Prop} (X:K.In s.heap) (I:Fx s.heap x dx C mA) (hg:PySem.W.plainGet K C name=true) (hh:PySem.W.hasDictIn K C=true)
  (ha:PySem.W.findIn K (.ref C) name=some none) (hv:mA name=some v) (hv':PySem.W.handedIn v=true) (h:Q v { s with toks:=s.toks+1 }) :
  wpAny (model prog w) A (getAttr (.ref x) name expr) Q E s:=by
 obtain ⟨od,J,hl⟩:=I.look;exact PySem.W.get_value X J (Dd hg).1 (PySem.W.findObj_own hh ha rfl (by rw[hl,hv])) hv' h
theorem Kh {pl:Sem Bool} {Q:Value×List Value->Shared->Prop} (X:K.In s.heap) (I:Fx s.heap x dx C mA) (hg:PySem.W.plainGet K C name=true)
  (hf:PySem.W.findIn K (.ref C) name=some (some (.ref f))) (ht:PySem.W.isFn K (.ref f)=true) (hv:mA name=none) (h:Q (.ref f,[.ref x]) s) :
  wpAny (model prog w) A (getMethod (.ref x) name pl) Q E s:=by
 obtain ⟨od,J,hl⟩:=I.look;exact PySem.W.method_fn X J (Dd hg).1 (Dd hg).2 hf (beq_iff_eq.mp ht) (by show (PySem.W.lookIn name od).map (·.isSome)=some false;rw[hl,hv];rfl) h
theorem Lo {ns:List Str} {Q:Unit->Shared->Prop} (X:K.In s.heap) (I:Fx s.heap x dx C mA)
  (hs:PySem.W.findIn K (.ref C) "__setattr__"=some (some (.builtin "object.__setattr__"))) (hp:PySem.W.plainOver K C=true) (ht:PySem.W.takerIn K C name=some none) (hh:PySem.W.hasDictIn K C=true)
  (hw:PySem.Within mA ns) (hsz:ns.length<=sizeLine)
  (h:∀h',Fx h' x dx C (fun y=>if y=name then some v else mA y)->Heap.SameBut dx s.heap h'->Q () { s with heap:=h',toks:=s.toks+2 }) :
  wpAny (model prog w) A (setAttr (.ref x) name v) Q E s:=by
 obtain ⟨od,J,hl⟩:=I.look;refine PySem.W.set_plain X J hs (PySem.W.osa_open (s:={ s with toks:=s.toks+1 }) (r:=none) X J hp ht fun b=>?_);obtain ⟨cd,hc,hd'⟩:=PySem.W.any_some hh;have hx:s.heap.get? x=some ⟨.ref C,some dx,.plain,#[]⟩:=I.obj;refine wpAny_bind (wpAny_pure (wpAny_bind (wpAny_bind (wpAny_loadPart hx (wpAny_bind (PySem.W.Looks.here (s:={ s with toks:=s.toks+1 }) (PySem.W.looks_clsIn X hc) ?_))))));rw[hd'];refine wpAny_pure (a:=some dx) (wpAny_bind (wpAny_pure (wpAny_bind ?_)));refine wpAny_nsSet1 (s:={ s with toks:=s.toks+1 }) I.ns fun h' hn2 hs2=>?_
 obtain ⟨oD,esD,epD,hoD,hdD,hcD⟩:=hn2.count (PySem.Within.cons name v hw);refine wpAny_bind (wpAny_lookBehind hoD (by rw[hdD];exact pastItsLine_dict (ah hcD (by rw[bg];lia))) ?_);exact wpAny_pure (h _ ⟨(hs2.2 _ (Ne.symm I.ne)).trans I.obj,hn2,I.ne⟩ hs2)
theorem J0 {R:Result->Shared->Prop} {vs:List Value} {kw:List (Str×Value)} (X:K.In s.heap) (hm:PySem.W.makesIn K C=true)
  (hi:PySem.W.findIn K (.ref C) "__init__"=some (some (.ref f))) (hf:PySem.W.typeIn K (.ref f)=some (.type "function"))
  (h:codeAny (model prog w) (A.under (.builtin "type.__call__" ⟨.ref C :: vs,kw⟩)) (.call (.ref f) ⟨.ref (s.heap.objs.size+1) :: vs,kw⟩) (PySem.W.InitBack (s.heap.objs.size+1) R)
   { s with heap:=(s.heap.push PySem.W.emptyDict).push (PySem.W.instObj C s.heap.objs.size) }) :
  codeAny (model prog w) A (.call (.ref C) ⟨vs,kw⟩) R s:=by
 obtain ⟨hh,g,d,t,os⟩:=s;exact PySem.W.make_core (PySem.W.makes_of X hm) (PySem.W.looks_findIn X hi) (fun self=>PySem.W.bind_fn X self hf) (.inl rfl) h
end
def b8 (f:Str) (v:V):List (Str×V)->List (Str×V)
 | []=>[(f,v)]
 | (g,x) :: r=>if g=f then (g,v) :: r else (g,x) :: b8 f v r
theorem bh (f g:Str) (v:V):∀fs:List (Str×V),(b8 f v fs).lookup g=if g=f then some v else fs.lookup g
 | []=>by
  show List.lookup g [(f,v)]=_
  by_cases h:g=f
  ·have hb:(g == f)=true:=beq_iff_eq.mpr h;simp only[List.lookup,hb,if_pos h]
  ·have hb:(g == f)=false:=beq_eq_false_iff_ne.mpr h;simp only[List.lookup,hb,if_neg h]
 | (k,x) :: r=>by
  have ih:=bh f g v r;rw[show b8 f v ((k,x) :: r)=(if k=f then (k,v) :: r else (k,x) :: b8 f v r) from rfl];by_cases hk:k=f
  ·rw[if_pos hk];by_cases h:g=k
   ·have hb:(g == k)=true:=beq_iff_eq.mpr h;simp only[List.lookup,hb,if_pos (h.trans hk)]
   ·have hb:(g == k)=false:=beq_eq_false_iff_ne.mpr h;simp only[List.lookup,hb,if_neg (fun e:g=f=>h (e.trans hk.symm))]
  ·rw[if_neg hk];by_cases h:g=k
   ·have hb:(g == k)=true:=beq_iff_eq.mpr h;simp only[List.lookup,hb,if_neg (fun e:g=f=>hk (h.symm.trans e))]
   ·have hb:(g == k)=false:=beq_eq_false_iff_ne.mpr h;simp only[List.lookup,hb];exact ih
theorem xT (f:Str) (v:V):∀fs:List (Str×V),f∈(b8 f v fs).map (·.1)/\∀g,g∈fs.map (·.1)->g∈(b8 f v fs).map (·.1)
 | []=>⟨by simp [b8],fun g h=>by simp at h⟩
 | (k,x) :: r=>by
  obtain ⟨i1,i2⟩:=xT f v r;rw[show b8 f v ((k,x) :: r)=(if k=f then (k,v) :: r else (k,x) :: b8 f v r) from rfl];by_cases hk:k=f
  ·rw[if_pos hk];subst hk;exact ⟨by simp,fun g h=>by simpa using h⟩
  ·rw[if_neg hk];refine ⟨?_,fun g h=>?_⟩
   ·rw[fv];exact bT _ i1
   ·rw[fv] at h ⊢;rcases aI.mp h with e | e
    ·exact aI.mpr (.inl e)
    ·exact bT _ (i2 g e)
theorem yu (f:Str) (v:V):∀fs:List (Str×V),(b8 f v fs).length<=fs.length+1
 | []=>by simp [b8]
 | (k,x) :: r=>by
  have ih:=yu f v r;rw[show b8 f v ((k,x) :: r)=(if k=f then (k,v) :: r else (k,x) :: b8 f v r) from rfl];by_cases hk:k=f
  ·rw[if_pos hk,bg,bg];lia
  ·rw[if_neg hk,bg,bg];lia
theorem A0.some_of {v:V} {o:Option Value} (r:A0 (some v) o):∃u,o=some u/\RelV v u:=by
 cases o with
 | none=>exact (show False from r).elim
 | some u=>exact ⟨u,rfl,r⟩
theorem A0.none_of {o:Option Value} (r:A0 none o):o=none:=by
 cases o with
 | none=>rfl
 | some u=>exact (show False from r).elim
theorem Iz {v:V} {u:Value} (r:RelV v u):PySem.W.handedIn u=true:=by
 cases v with
 | non=>cases (show u=Value.none from r);rfl
 | bl b=>cases (show u=Value.bool b from r);rfl
 | int i=>obtain ⟨t,e⟩:=(show ∃t,u=Value.int i t from r);cases e;rfl
 | str x=>obtain ⟨t,e⟩:=(show ∃t,u=Value.str x t from r);cases e;rfl
 | byt b=>obtain ⟨t,e⟩:=(show ∃t,u=Value.bytes b t from r);cases e;rfl
 | flt b=>obtain ⟨t,e⟩:=(show ∃t,u=Value.float b t from r);cases e;rfl
 | ref a=>cases (show u=Value.ref a from r);rfl
 | ty n=>cases (show u=Value.type n from r);rfl
section
variable {P:Program} {w:World} {H H':Hp} {h h':Heap} {a C dx:Addr} {fs fs':List (Str×V)}
theorem yW (hok:zd P w H h) (e:H a=some (.ins C dx fs)):∃mA,Fx h a dx C mA/\(∀f,A0 (fs.lookup f) (mA f))/\PySem.Within mA (fs.map (·.1))/\fs.length<=1000/\H dx=some (.own a):=by
 obtain ⟨d,z,ne,ob,mA,n,r,q⟩:=(show js P w H h a (.ins C dx fs) from hok a _ e);exact ⟨mA,⟨ob,n,ne⟩,r,q,z,d⟩
end
structure IH (K:PySem.W.Frag) (C:Addr):Prop where
 pg:PySem.W.plainGet K C Str.empty=true
 hd:PySem.W.hasDictIn K C=true
 po:PySem.W.plainOver K C=true
 sa:PySem.W.findIn K (.ref C) "__setattr__"=some (some (.builtin "object.__setattr__"))
theorem IH.get {K:PySem.W.Frag} {C:Addr} (c:IH K C) (f:Str):PySem.W.plainGet K C f=true:=c.pg
def jT (K:PySem.W.Frag) (C:Addr) (f:Str):Prop:=PySem.W.findIn K (.ref C) f=some none
theorem jT.taker {K:PySem.W.Frag} {C:Addr} {f:Str} (n:jT K C f):PySem.W.takerIn K C f=some none:=by
 unfold PySem.W.takerIn;rw[show PySem.W.findIn K (.ref C) f=some none from n];rfl
structure Con (K:PySem.W.Frag) (C:Addr) (f:Str) (v:V) (u:Value):Prop where
 at_:PySem.W.findIn K (.ref C) f=some (some u)
 rel:RelV v u
 get:PySem.W.specialIn K u "__get__"=some none
 cp:PySem.W.copiedNames.contains f=false
structure KP (K:PySem.W.Frag) (C:Addr) (m:Str) (f:Addr):Prop where
 at_:PySem.W.findIn K (.ref C) m=some (some (.ref f))
 fn:PySem.W.isFn K (.ref f)=true
 kp:PySem.W.keepIn K (.ref f)=true
section
variable {X:Cx} {pins:List (Addr×Obj)} {σ:St} {H:Hp} {s:Shared} {a C dx:Addr} {fs:List (Str×V)} {f:Str} {v:V} {A:Around} {E:Value->Shared->Prop}
theorem Fh {b:Bool} {Q:Value->Shared->Prop} (I:Inv X pins σ H s) (e:H a=some (.ins C dx fs)) (c:IH X.K C) (n:jT X.K C f) (l:fs.lookup f=some v)
  (h:∀u s',Inv X pins σ H s'->RelV v u->Q u s'):wpAny (model X.prog X.w) A (getAttr (.ref a) f b) Q E s:=by
 obtain ⟨mA,O,r,_,_,_⟩:=yW I.hok e;obtain ⟨u,hu,ru⟩:=A0.some_of (v:=v) (o:=mA f) (by rw[<- l];exact r f);exact get_map I.kIn O (c.get f) c.hd n hu (Iz ru) (h u _ (I.tok _) ru)
theorem Ak {m:Str} {g:Addr} {pl:Sem Bool} {Q:Value×List Value->Shared->Prop} (I:Inv X pins σ H s) (e:H a=some (.ins C dx fs)) (c:IH X.K C) (k:KP X.K C m g) (l:fs.lookup m=none)
  (h:Q (.ref g,[.ref a]) s):wpAny (model X.prog X.w) A (getMethod (.ref a) m pl) Q E s:=by
 obtain ⟨mA,O,r,_,_,_⟩:=yW I.hok e;have hn:mA m=none:=A0.none_of (by rw[<- l];exact r m);exact Kh I.kIn O (c.get m) k.at_ k.fn hn h
theorem EL {y:V} {u:Value} {Q:Unit->Shared->Prop} (I:Inv X pins σ H s) (e:H a=some (.ins C dx fs)) (c:IH X.K C) (n:jT X.K C f) (hl:fs.length < 1000) (ry:RelV y u)
  (h:∀s',Inv X pins σ (upd H a (.ins C dx (b8 f y fs))) s'->Q () s'):wpAny (model X.prog X.w) A (setAttr (.ref a) f u) Q E s:=by
 obtain ⟨mA,O,r,wi,_,ho⟩:=yW I.hok e;have hz:(fs.map (·.1)).length<=sizeLine:=by rw[ag,sizeLine_eq];lia
 refine Lo I.kIn O c.sa c.po n.taker c.hd wi hz fun h' O' sb=>h _ ?_
 have hd:∃o,h'.get? dx=some o:=let ⟨o,_,_,e',_⟩:=O'.ns;⟨o,e'⟩
 refine I.write (x:=a) (e:=dx) (by rw[e];exact True.intro) (.inr ho) (fun b q hb z=>(sb.2 b hb).trans z) hd ?_;refine ⟨by rw[br O.ne];exact ho,?_,O.ne,O'.obj,_,O'.ns,fun g=>?_,fun g hg=>?_⟩
 ·have:=yu f y fs;lia
 ·show A0 ((b8 f y fs).lookup g) (if g=f then some u else mA g)
  rw[bh];by_cases q:g=f
  ·rw[if_pos q,if_pos q];exact ry
  ·rw[if_neg q,if_neg q];exact r g
 ·by_cases q:g=f
  ·rw[q];exact (xT f y fs).1
  ·refine (xT f y fs).2 g (wi g fun z=>hg ?_);show (if g=f then some u else mA g)=none
   rw[if_neg q];exact z
theorem Inv.made (I:Inv X pins σ H s):Inv X pins σ (upd (upd H s.heap.objs.size (.own (s.heap.objs.size+1))) (s.heap.objs.size+1) (.ins C s.heap.objs.size []))
  { s with heap:=(s.heap.push PySem.W.emptyDict).push (PySem.W.instObj C s.heap.objs.size) }:=by
 have e1:(s.heap.push PySem.W.emptyDict).get? s.heap.objs.size=some PySem.W.emptyDict:=Heap.get?_push_size s.heap rfl
 have e2:((s.heap.push PySem.W.emptyDict).push (PySem.W.instObj C s.heap.objs.size)).get? (s.heap.objs.size+1)=some (PySem.W.instObj C s.heap.objs.size):=by
  have:=Heap.get?_push_size (s.heap.push PySem.W.emptyDict) (o:=PySem.W.instObj C s.heap.objs.size) rfl;rwa [Heap.size_push] at this
 have e3:(s.heap.push PySem.W.emptyDict).Ns s.heap.objs.size (fun _=>none):=⟨PySem.W.emptyDict,#[],_,e1,rfl,(fun e he=>absurd he (by simp)),fun _=>rfl⟩;have I1:=I.laid (a:=s.heap.objs.size) (o:=.own (s.heap.objs.size+1)) (h':=s.heap.push PySem.W.emptyDict) (t':=s.toks) (fun b u q=>Heap.get?_push_of_some _ q) (ar _) ⟨_,e1⟩;refine I1.laid (a:=s.heap.objs.size+1) (o:=.ins C s.heap.objs.size []) (t':=s.toks) (fun b u q=>Heap.get?_push_of_some _ q) (Nat.le_of_eq (Heap.size_push _ _)) ?_;have ne:s.heap.objs.size≠s.heap.objs.size+1:=bW (eB _);refine ⟨by rw[br ne,aF],aX _,ne,e2,fun _=>none,(Heap.Ns1.of_empty e3).at fun o q=>Heap.get?_push_of_some _ q,fun _=>True.intro,fun y hy=>absurd rfl hy⟩
theorem Mr {prog:Program} {w:World} {env:Env} {e:Expr} {f:Str} {pos:Pos} {s:Shared} {Q:Value->Shared->Prop} (hb:attributeBase e f env (eval e env)=eval e env)
  (h:wpAny (model prog w) A (eval e env) (fun o s₁=>wpAny (model prog w) A (getAttr o f true) Q E s₁) E s):wpAny (model prog w) A (eval (.Attribute e f pos) env) Q E s :=
 Attribute_any_ h (by rw[arm_eval_Attribute,hb])
end
def Nt (K:PySem.W.Frag) (ta:TE) (f:Str):TE:=fun σ H Q=>ta σ H fun x H1=>∃a C dx fs v,x=.ref a/\H1 a=some (.ins C dx fs)/\IH K C/\jT K C f/\fs.lookup f=some v/\Q v H1
def O8 (K:PySem.W.Frag) (ta tv:TE) (f:Str):TS:=fun D σ H=>tv σ H fun y H1=>ta σ H1 fun x H2=>∃a C dx fs,x=.ref a/\H2 a=some (.ins C dx fs)/\IH K C/\jT K C f/\fs.length < 1000 /\
 D.nx σ (upd H2 a (.ins C dx (b8 f y fs)))
section
variable {X:Cx} {o e value:Expr} {f:Str} {pos pos' tpos:Pos} {ta tv:TE}
theorem eV (he:PE X e ta) (hb:attributeBase e f X.env (eval e X.env)=eval e X.env):PE X (.Attribute e f pos) (Nt X.K ta f):=by
 intro pins s σ H Q I h;refine Mr hb (fL (he pins s σ H _ I h) fun u s1 ⟨x,H1,I1,rx,a,C,dx,fs,v,ex,ea,c,n,l,q⟩=>?_);subst ex;obtain rfl:u=Value.ref a:=rx;exact Fh I1 ea c n l fun u' s2 I2 ru=>⟨v,H1,I2,ru,q⟩
theorem xM (ha:PE X o ta) (hv:PE X value tv) (hs:swapsWith value (some (.Attribute o f pos')) pos.line X.env=pure false):PS X (.Assign [.Attribute o f pos'] value pos) (O8 X.K ta tv f):=by
 intro pins s σ H D I h;refine plainObj_wpAny_Assign_Attribute (fL (hv pins s σ H _ I h) fun u s1 ⟨y,H1,I1,ry,q⟩=>fL (ha pins s1 σ H1 _ I1 q) fun ov s2 ⟨x,H2,I2,rx,a,C,dx,fs,ex,ea,c,n,l,q2⟩=>?_) hs;subst ex;obtain rfl:ov=Value.ref a:=rx;exact EL I2 ea c n l ry fun s3 I3=>⟨σ,_,I3,q2⟩
end
section
variable {X:Cx} {pins:List (Addr×Obj)} {σ:St} {H:Hp} {s:Shared} {A:Around} {E:Value->Shared->Prop} {Q:Value->Shared->Prop} {c:Value} {b:Bool}
inductive ya (K:PySem.W.Frag) (H:Hp):V->Value->Prop where
 | non:ya K H .non (.type "NoneType")
 | bl (x:Bool):ya K H (.bl x) (.type "bool")
 | int (i:Int):ya K H (.int i) (.type "int")
 | str (x:Str):ya K H (.str x) (.type "str")
 | flt (x:UInt64):ya K H (.flt x) (.type "float")
 | lst {a:Addr} {xs:List V} (e:H a=some (.lst xs)):ya K H (.ref a) (.type "list")
 | frz {a:Addr} {o:Obj} {xs:List V} (e:H a=some (.frz o (.lst xs))):ya K H (.ref a) (.type "list")
 | tup {a:Addr} {xs:List V} (e:H a=some (.tup xs)):ya K H (.ref a) (.type "tuple")
 | dK {a:Addr} {kvs:List (Key×V)} (e:H a=some (.dK kvs)):ya K H (.ref a) (.type "dict")
 | dT {a:Addr} {kvs:List (List Key×V)} (e:H a=some (.dT kvs)):ya K H (.ref a) (.type "dict")
 | ins {a C dx:Addr} {fs:List (Str×V)} (e:H a=some (.ins C dx fs)) (cl:IH K C) (ha:PySem.W.findIn K (.ref C) "__class__"=some (some (.builtin "object.__class__")))
   (hn:PySem.W.specialIn K (.builtin "object.__class__") "__get__"=some (some (.builtin "getset_descriptor.__get__"))) (htk:PySem.W.takesIn K (.builtin "object.__class__")=some true)
   (hm:PySem.W.mroIn K C (.type "object")=some true):ya K H (.ref a) (.ref C)
theorem BA {x:V} {u t:Value} (I:Inv X pins σ H s) (rx:RelV x u) (ty:ya X.K H x t) (e:PySem.W.kitOne X.K t c=some b) (h:∀tk,Q (.bool b) { s with toks:=tk }) :
  wpAny (model X.prog X.w) A (call (.builtin "isinstance") [u,c]) Q E s:=by
 cases ty with
 | non=>cases (show u=Value.none from rx);exact df PySem.W.kitx_none I.kIn True.intro e (fun z=>nomatch z) h
 | bl y=>cases (show u=Value.bool y from rx);exact df PySem.W.kitx_bool I.kIn True.intro e (fun z=>nomatch z) h
 | int i=>obtain ⟨t,q⟩:=(show ∃t,u=Value.int i t from rx);cases q;exact df PySem.W.kitx_int I.kIn True.intro e (fun z=>nomatch z) h
 | str y=>obtain ⟨t,q⟩:=(show ∃t,u=Value.str y t from rx);cases q;exact df PySem.W.kitx_str I.kIn True.intro e (fun z=>nomatch z) h
 | flt y=>obtain ⟨t,q⟩:=(show ∃t,u=Value.float y t from rx);cases q;exact df PySem.W.kitx_float I.kIn True.intro e (fun z=>nomatch z) h
 | @lst a xs ea =>
  cases (show u=Value.ref a from rx);obtain ⟨_,_,n,_,h1⟩:=(show js X.prog X.w H s.heap a (.lst xs) from I.hok a _ ea);exact df PySem.W.kitx_list I.kIn ⟨_,h1,rfl⟩ e (fun z=>nomatch z) h
 | @frz a ob xs ea =>
  cases (show u=Value.ref a from rx);obtain ⟨_,_,_,n,_,h1⟩:=(show js X.prog X.w H s.heap a (.frz ob (.lst xs)) from I.hok a _ ea);exact df PySem.W.kitx_list I.kIn ⟨_,h1,rfl⟩ e (fun z=>nomatch z) h
 | @tup a xs ea =>
  cases (show u=Value.ref a from rx);obtain ⟨_,_,_,p⟩:=(show js X.prog X.w H s.heap a (.tup xs) from I.hok a _ ea);obtain ⟨o,h1,h2,_⟩:=p;exact df PySem.W.kitx_tuple I.kIn ⟨o,h1,h2⟩ e (fun z=>nomatch z) h
 | @dK a kvs ea =>
  cases (show u=Value.ref a from rx);obtain ⟨_,_,vs,_,p⟩:=(show js X.prog X.w H s.heap a (.dK kvs) from I.hok a _ ea);obtain ⟨o,es,ep,h1,h2,_⟩:=p;exact df PySem.W.kitx_dict I.kIn ⟨o,h1,h2.1⟩ e (fun z=>nomatch z) h
 | @dT a kvs ea =>
  cases (show u=Value.ref a from rx);obtain ⟨_,_,xs,_,o,es,ep,h1,h2,_⟩:=(show js X.prog X.w H s.heap a (.dT kvs) from I.hok a _ ea);exact df PySem.W.kitx_dict I.kIn ⟨o,h1,h2.1⟩ e (fun z=>nomatch z) h
 | @ins a C dx fs ea cl ha hn htk hm =>
  cases (show u=Value.ref a from rx);obtain ⟨mA,O,_⟩:=yW I.hok ea;obtain ⟨od,J,_⟩:=O.look;exact df (PySem.W.kitx_own (cl.get _) cl.hd ha hn htk hm) I.kIn J e (fun z=>nomatch z) h
end
structure lV (k:Nat) (A:Around):Prop where
 hd:A.handled=none
 dp:A.depth+3*k+5 < recursionLimit
 un:A.units+16*k+200 < cLine
theorem lV.mono {j k:Nat} {A:Around} (r:lV k A) (h:j<=k):lV j A:=⟨r.hd,by have:=r.dp;lia,by have:=r.un;lia⟩
theorem lV.deeper {k:Nat} {A:Around} (r:lV (k+1) A) (env:Env):lV k (A.deeper env) :=
 ⟨r.hd,by have:=r.dp;show A.depth+1+3*k+5 < _;lia,by have:=r.un;show A.units+3+16*k+200 < _;lia⟩
theorem Fd {A:Around} {C:Addr} {us:List Value} {kw:List (Str×Value)}:(A.under (.builtin "type.__call__" ⟨.ref C :: us,kw⟩)).depth=A.depth+1:=by
 first | rfl | simp [Around.under,Code.weight,Code.isCreation,Code.isGuard,Code.isCaller,Code.frames,Code.isFrame,guardIds]
theorem Fc {A:Around} {C:Addr} {us:List Value} {kw:List (Str×Value)}:(A.under (.builtin "type.__call__" ⟨.ref C :: us,kw⟩)).units=A.units+1:=by
 first | rfl | simp [Around.under,Code.cUnits,Code.frames,Code.isFrame]
theorem lV.make {k:Nat} {A:Around} (r:lV (k+1) A) (C:Addr) (us:List Value) (kw:List (Str×Value)):lV k (A.under (.builtin "type.__call__" ⟨.ref C :: us,kw⟩)) :=
 ⟨r.hd,by have:=r.dp;rw[Fd];lia,by have:=r.un;rw[Fc];lia⟩
theorem lV.depth {k:Nat} {A:Around} (r:lV k A):A.depth < recursionLimit:=by have:=r.dp;lia
theorem lV.units {k:Nat} {A:Around} (r:lV k A):A.units+64 < cLine:=by have:=r.un;lia
def Ez:TA:=fun _ H Q=>Q [] H
def sN (ta:TE) (tr:TA):TA:=fun σ H Q=>ta σ H fun x H1=>tr σ H1 fun xs H2=>Q (x :: xs) H2
section
variable {X:Cx} {e:Expr} {es:List Expr} {te:TE} {t:TA} {pos:Pos}
theorem aj:PA X [] Ez:=fun _ _ _ _ H Q I h=>Calls.spliced_nil ⟨[],H,I,.nil,h⟩
theorem ae (ha:PE X e te) (hr:PA X es t) (hs:starEach (e :: es) X.env=(false,eval e X.env) :: starEach es X.env:=by rfl):PA X (e :: es) (sN te t):=by
 intro pos pins s σ H Q I h;rw[hs];show wpAny _ _ (spliced ((false,eval e X.env) :: backTo pos (starEach es X.env))) _ _ s
 refine Calls.spliced_cons (fL (ha pins s σ H _ I h) fun u s1 ⟨x,H1,I1,r1,q1⟩=>?_);exact fL (hr pos pins s1 σ H1 _ I1 q1) fun us s2 ⟨xs,H2,I2,r2,q2⟩=>⟨x :: xs,H2,I2,.cons r1 r2,q2⟩
def OS (t:TA):TE:=fun σ H Q=>t σ H fun xs H1=>xs.length<=sizeLine/\∀p,H1 p=none->Q (.ref p) (upd H1 p (.tup xs))
def OZ (t:TA):TE:=fun σ H Q=>t σ H fun xs H1=>xs.length<=sizeLine/\∀p,H1 p=none->Q (.ref p) (upd H1 p (.lst xs))
theorem dA {x1} (h:PA X es t):PE X (.Tuple es x1 pos) (OS t):=by
 intro pins s σ H Q I hq;refine wpAny_Tuple_spliced (fL (h pos pins s σ H _ I hq) fun us s1 ⟨xs,H1,I1,r,z,q⟩=>⟨by rw[<- r.length];exact z,?_⟩);have hf:H1 s1.heap.objs.size=none:=I1.hok.fresh (ar _);refine ⟨.ref s1.heap.objs.size,upd H1 s1.heap.objs.size (.tup xs),I1.laid (t':=s1.toks) (fun b u e=>Heap.get?_push_of_some _ e) (ar _) ?_,rfl,q _ hf⟩;exact ⟨z,us,r,⟨_,Heap.get?_push_size _ rfl,rfl,_,rfl⟩⟩
theorem eI (h:PA X es t):PE X (.List es pos) (OZ t):=by
 intro pins s σ H Q I hq;refine wpAny_List_spliced (fL (h pos pins s σ H _ I hq) fun us s1 ⟨xs,H1,I1,r,z,q⟩=>⟨by rw[<- r.length];exact z,?_⟩);have hf:H1 s1.heap.objs.size=none:=I1.hok.fresh (ar _);refine ⟨.ref s1.heap.objs.size,upd H1 s1.heap.objs.size (.lst xs),I1.laid (t':=s1.toks) (fun b u e=>Heap.get?_push_of_some _ e) (ar _) ?_,rfl,q _ hf⟩;exact ⟨z,us,0,r,Heap.get?_push_size _ rfl⟩
end
abbrev Sp:=List V->Hp->VK->XK->Prop
abbrev KS:=List Env->Hp->Shared->XK->Value->Shared->Prop
structure FE (P:Program) (w:World) (K:PySem.W.Frag) (mg:Str->Option Value) (base:Heap) (A:Around) (outer:List Env) (s:Shared) (H:Hp):Prop where
 frames:A.frames=some outer
 mod:Mod K mg base
 bs:∀b o,base.get? b=some o->s.heap.get? b=some o/\H b=none
 bsz:base.objs.size<=s.heap.objs.size
 funs:s.heap.FunFrames base outer
 frf:∀b∈IK outer,H b=none
 hok:zd P w H s.heap
 bare:AllBare s.gens
def CE (outer:List Env) (P:Program) (w:World) (H:Hp) (s:Shared) (Q:VK) (u:Value) (s':Shared):Prop :=
 ∃v H',s'.os=s.os/\AllBare s'.gens/\Un (IK outer) [] H H' s.heap s'.heap/\zd P w H' s'.heap/\RelV v u/\Q v H'
def CR (CX:KS) (outer:List Env) (P:Program) (w:World) (H:Hp) (s:Shared) (Q:VK) (E:XK) (r:Result) (s':Shared):Prop :=
 match r with
 | .ok (.ret u)=>CE outer P w H s Q u s'
 | .ok _=>False
 | .error e=>CX outer H s E e s'
structure cI (P:Program) (w:World) (K:PySem.W.Frag) (mg:Str->Option Value) (base:Heap) (CX:KS) (k:Nat) (f:Addr) (fd:FuncData) (ps:List Str) (sp:Sp):Prop where
 len:∀vs H Q E,sp vs H Q E->vs.length=ps.length
 run:∀(A:Around) (outer:List Env) (s:Shared) (H:Hp) (args:Args) (us:List Value) (vs:List V) (Q:VK) (E:XK),lV k A->FE P w K mg base A outer s H->BindsTo s fd args (ps.zip us)->cA vs us->sp vs H Q E →
  codeAny (model P w) A (.call (.ref f) args) (CR CX outer P w H s Q E) s
theorem FE.make {P:Program} {w:World} {K:PySem.W.Frag} {mg:Str->Option Value} {base:Heap} {A:Around} {outer:List Env} {s:Shared} {H:Hp} (e:FE P w K mg base A outer s H) (C:Addr) (us:List Value) (kw:List (Str×Value)) :
  FE P w K mg base (A.under (.builtin "type.__call__" ⟨.ref C :: us,kw⟩)) outer s H:=⟨by first | exact e.frames | (simpa [Around.under,Code.envs,Code.isFrame,pushEnvs] using e.frames),e.mod,e.bs,e.bsz,e.funs,e.frf,e.hok,e.bare⟩
section
variable {X:Cx} {pins:List (Addr×Obj)} {σ:St} {H:Hp} {s s':Shared}
theorem Inv.env0 (I:Inv X pins σ H s):FE X.prog X.w X.K X.mg X.base X.A X.stack s H :=
 ⟨I.ok.frames,I.ok.mod,I.bs,ah I.ok.bsz I.sz,I.stack,I.stkFree,I.hok,I.bare⟩
theorem Inv.after {Q:VK} {u:Value} (I:Inv X pins σ H s) (h:CE X.stack X.prog X.w H s Q u s'):EP X pins σ Q u s':=by
 obtain ⟨v,H',os,bare,un,hok,r,q⟩:=h;obtain ⟨hh,g,d,t,os'⟩:=s';obtain rfl:os'=s.os:=os;exact ⟨v,H',I.call (h':=hh) (g':=g) (d':=d) (t':=t) (ch:=[]) un hok bare (fun b z=>absurd z (by simp)),r,q⟩
end
def IZ (sp:Sp) (dvs:List V) (E:XK) (t:TA):TE:=fun σ H Q=>t σ H fun vs H1=>sp (vs++dvs) H1 Q E
def IY (C:Addr) (m:Str) (sp:Sp) (dvs:List V) (E:XK) (ta:TE) (t:TA):TE:=fun σ H Q=>ta σ H fun x H1=>∃a dx fs,x=.ref a/\H1 a=some (.ins C dx fs)/\fs.lookup m=none /\
 t σ H1 fun vs H2=>sp (x :: (vs++dvs)) H2 Q E
def MB (C:Addr) (sp:Sp) (dvs:List V) (E:XK) (t:TA):TE:=fun σ H Q=>t σ H fun vs H1=>∀x dx,H1 x=none->H1 dx=none->dx≠x →
 sp (.ref x :: (vs++dvs)) (upd (upd H1 dx (.own x)) x (.ins C dx [])) (fun v H2=>v=.non/\Q (.ref x) H2) E
def Binds (K:PySem.W.Frag) (fd:FuncData) (ps:List Str) (ds:List Value):Prop :=
 ∀(s:Shared) (us:List Value),K.In s.heap->(us++ds).length=ps.length->BindsTo s fd ⟨us,[]⟩ (ps.zip (us++ds))
theorem Binds.all {K:PySem.W.Frag} {fd:FuncData} {ps:List Str} (h:∀us:List Value,us.length=ps.length->bindArgs fd ⟨us,[]⟩=pure (ps.zip us)):Binds K fd ps []:=fun s us _ hl=>by
 rw[m9] at hl ⊢;exact .of_eq (h us hl)
def vW (CX:KS) (X:Cx) (E:XK):Prop:=∀(pins:List (Addr×Obj)) (σ:St) (H:Hp) (s:Shared) (e:Value) (s':Shared),Inv X pins σ H s->CX X.stack H s E e s'->X.xe e s'
section
variable {X:Cx} {CX:KS} {k:Nat} {f C:Addr} {fd:FuncData} {ps:List Str} {sp:Sp} {dvs:List V} {ds:List Value} {E:XK} {x m:Str} {p pos apos:Pos} {e o:Expr} {es:List Expr} {ta:TE} {t:TA}
theorem ES {pins:List (Addr×Obj)} {σ:St} {H:Hp} {s:Shared} {Q:VK} {us:List Value} {vs:List V} (F:cI X.prog X.w X.K X.mg X.base CX k f fd ps sp) (hr:lV k X.A) (hb:Binds X.K fd ps ds) (hd:cA dvs ds) (hx:vW CX X E)
  (I:Inv X pins σ H s) (r:cA vs us) (h:sp (vs++dvs) H Q E):wpAny (model X.prog X.w) X.A (call (.ref f) us) (EP X pins σ Q) X.xe s:=by
 have r2:cA (vs++dvs) (us++ds):=r.append hd;have hl:(us++ds).length=ps.length:=by rw[<- r2.length];exact F.len _ _ _ _ h
 refine wpAny_call (codeAny_mono (F.run X.A X.stack s H ⟨us,[]⟩ (us++ds) (vs++dvs) Q E hr I.env0 (hb s us I.kIn hl) r2 h) fun r s' hq=>?_);cases r with
 | error e=>exact hx pins σ H s e s' I hq
 | ok fl =>
  cases fl with
  | ret u=>exact I.after hq
  | next=>exact False.elim hq
  | brk=>exact False.elim hq
  | cont=>exact False.elim hq
theorem LZ (F:cI X.prog X.w X.K X.mg X.base CX k f fd ps sp) (hr:lV k X.A) (hg:Gl X x) (hm:X.mg x=some (.ref f)) (hk:PySem.W.keepIn X.K (.ref f)=true) (hb:Binds X.K fd ps ds) (hd:cA dvs ds) (hx:vW CX X E)
  (ha:PA X (e :: es) t) (hdb:(x == ("__debug__":Str))=false:=by decide) (he:starEach (e :: es) X.env=(false,eval e X.env) :: starEach es X.env:=by rfl) (hpl:(backTo pos (starEach es X.env)).any (·.1)=false:=by rfl) :
  PE X (.Call (.Name x p) (e :: es) [] pos) (IZ sp dvs E t):=by
 intro pins s σ H Q I h;refine wpAny_Call_Name_kw (CH I hg hm ?_ hdb);refine Es (h₀:=X.base) I.ok.mod.kin hk (fL (ha pos pins s σ H _ I h) fun us s1 ⟨vs,H1,I1,r,q⟩=>⟨I1.kIn,?_⟩) he hpl;exact ES F hr hb hd hx I1 r q
theorem LX {pl : Sem Bool} (he : PE X o ta) (c : IH X.K C) (hm : KP X.K C m f) (F : cI X.prog X.w X.K X.mg X.base CX k f fd ps sp) (hr : lV k X.A) (hb : Binds X.K fd ps ds) (hd : cA dvs ds) (hx : vW CX X E) (ha : PA X (e :: es) t)
    (hst : starEach (e :: es) X.env = (false, eval e X.env) :: starEach es X.env := by rfl) (hpl : (backTo pos (starEach es X.env)).any (·.1) = false := by rfl)
    (ht : eval (.Call (.Attribute o m apos) (e :: es) [] pos) X.env = (do
      let ov <- eval o X.env
      standAt apos.atName
      let (f, first) <- holding [ov] (getMethod ov m pl)
      callWith pos f first (backTo pos (starEach (e :: es) X.env)) (backToKw pos (keywordEach [] X.env))) := by rfl) :
    PE X (.Call (.Attribute o m apos) (e :: es) [] pos) (IY C m sp dvs E ta t) := by
  intro pins s σ H Q I h;refine PySem.W.methodCall_KW (pl := pl) (fL (he pins s σ H _ I h) fun u s1 ⟨x, H1, I1, rx, a, dx, fs, ex, ea, l, q⟩ => ?_) ht;subst ex;obtain rfl : u = Value.ref a := rx;refine Ak I1 ea c hm l ?_;refine Es (first := [.ref a]) (h₀ := X.base) I.ok.mod.kin hm.kp (fL (ha pos pins s1 σ H1 _ I1 q) fun us s2 ⟨vs, H2, I2, r, q2⟩ => ⟨I2.kIn, ?_⟩) hst hpl;exact ES (us := .ref a :: us) (vs := .ref a :: vs) F hr hb hd hx I2 (.cons rfl r) q2
theorem DL {pl : Sem Bool} (he : PE X o ta) (c : IH X.K C) (hm : KP X.K C m f) (F : cI X.prog X.w X.K X.mg X.base CX k f fd ps sp) (hr : lV k X.A) (hb : Binds X.K fd ps ds) (hd : cA dvs ds) (hx : vW CX X E)
    (ht : eval (.Call (.Attribute o m apos) [] [] pos) X.env = (do
      let ov <- eval o X.env
      standAt apos.atName
      let (f, first) <- holding [ov] (getMethod ov m pl)
      callWith pos f first (backTo pos (starEach [] X.env)) (backToKw pos (keywordEach [] X.env))) := by rfl) :
    PE X (.Call (.Attribute o m apos) [] [] pos) (IY C m sp dvs E ta Ez) := by
  intro pins s σ H Q I h;refine PySem.W.methodCall_KW (pl := pl) (fL (he pins s σ H _ I h) fun u s1 ⟨x, H1, I1, rx, a, dx, fs, ex, ea, l, q⟩ => ?_) ht;subst ex;obtain rfl : u = Value.ref a := rx;refine Ak I1 ea c hm l ?_;exact PySem.W.callWith_K0 (first := [.ref a]) I1.kIn hm.kp (ES (us := [.ref a]) (vs := [.ref a]) F hr hb hd hx I1 (.cons rfl .nil) q)

structure Mk (K:PySem.W.Frag) (C f:Addr):Prop where
 makes:PySem.W.makesIn K C=true
 init:PySem.W.findIn K (.ref C) "__init__"=some (some (.ref f))
 fn:PySem.W.isFn K (.ref f)=true
 kp:PySem.W.keepIn K (.ref C)=true
theorem Jz {pins:List (Addr×Obj)} {σ:St} {H:Hp} {s:Shared} {Q:VK} {us:List Value} {vs:List V} (M:Mk X.K C f) (F:cI X.prog X.w X.K X.mg X.base CX k f fd ps sp) (hr:lV (k+1) X.A) (hb:Binds X.K fd ps ds) (hd:cA dvs ds)
  (hx:vW CX X E) (I:Inv X pins σ H s) (r:cA vs us)
  (h:∀x dx,H x=none->H dx=none->dx≠x->sp (.ref x :: (vs++dvs)) (upd (upd H dx (.own x)) x (.ins C dx [])) (fun v H2=>v=.non/\Q (.ref x) H2) E) :
  wpAny (model X.prog X.w) X.A (call (.ref C) us) (EP X pins σ Q) X.xe s:=by
 have hq:=h (s.heap.objs.size+1) s.heap.objs.size (I.hok.fresh (sF _)) (I.hok.fresh (ar _)) (bW (eB _));have I2:=Inv.made (C:=C) I;have r2:cA (V.ref (s.heap.objs.size+1) :: (vs++dvs)) (Value.ref (s.heap.objs.size+1) :: (us++ds)):=.cons rfl (r.append hd)
 have hl:(Value.ref (s.heap.objs.size+1) :: us++ds).length=ps.length:=by
  have e:=r2.length;rw[F.len _ _ _ _ hq] at e;exact e.symm
 refine wpAny_call (J0 (f:=f) I.kIn M.makes M.init (beq_iff_eq.mp M.fn) (codeAny_mono (F.run _ X.stack _ _ ⟨Value.ref (s.heap.objs.size+1) :: us,[]⟩ (Value.ref (s.heap.objs.size+1) :: (us++ds)) _ _ E (hr.make C us [])
  (I2.env0.make C us []) (hb _ (Value.ref (s.heap.objs.size+1) :: us) I2.kIn hl) r2 hq) fun r s' hq'=>?_))
 cases r with
 | error e=>exact hx pins σ _ _ e s' I2 hq'
 | ok fl =>
  cases fl with
  | ret u =>
   obtain ⟨v,H',I3,rv,ev,q3⟩:=I2.after hq';subst ev;exact ⟨rv,⟨V.ref (s.heap.objs.size+1),H',I3,rfl,q3⟩⟩
  | next=>exact False.elim hq'
  | brk=>exact False.elim hq'
  | cont=>exact False.elim hq'
theorem FP (M:Mk X.K C f) (F:cI X.prog X.w X.K X.mg X.base CX k f fd ps sp) (hr:lV (k+1) X.A) (hg:Gl X x) (hm:X.mg x=some (.ref C)) (hb:Binds X.K fd ps ds) (hd:cA dvs ds) (hx:vW CX X E)
  (ha:PA X (e :: es) t) (hdb:(x == ("__debug__":Str))=false:=by decide) (he:starEach (e :: es) X.env=(false,eval e X.env) :: starEach es X.env:=by rfl) (hpl:(backTo pos (starEach es X.env)).any (·.1)=false:=by rfl) :
  PE X (.Call (.Name x p) (e :: es) [] pos) (MB C sp dvs E t):=by
 intro pins s σ H Q I h;refine wpAny_Call_Name_kw (CH I hg hm ?_ hdb);refine Es (h₀:=X.base) I.ok.mod.kin M.kp (fL (ha pos pins s σ H _ I h) fun us s1 ⟨vs,H1,I1,r,q⟩=>⟨I1.kIn,?_⟩) he hpl;exact Jz M F hr hb hd hx I1 r q
end
section
variable {X:Cx} {CX:KS} {k:Nat} {f C:Addr} {fd:FuncData} {ps ks:List Str} {sp:Sp} {E:XK} {x m:Str} {p pos apos kpos:Pos} {e o:Expr} {es:List Expr} {kws:List Keyword} {te ta:TE} {t tk:TA} {nm:Option Str}
structure QC (K:PySem.W.Frag) (fd:FuncData) (ps ks:List Str) (g:List Value->List Value->List Value) (gV:List V->List V->List V):Prop where
 to:∀(s:Shared) (us ws:List Value),K.In s.heap->(g us ws).length=ps.length->BindsTo s fd ⟨us,ks.zip ws⟩ (ps.zip (g us ws))
 rel:∀{vs:List V} {us:List Value} {zs:List V} {ws:List Value},cA vs us->cA zs ws->cA (gV vs zs) (g us ws)
variable {g:List Value->List Value->List Value} {gV:List V->List V->List V}
end
structure aW (N P:List Str) (sc:Scope):Prop where
 kind:sc.kind=.function
 co:sc.isCoroutine=false
 gen:sc.isGenerator=false
 nd:N.Nodup
 pre:N.take P.length=P
 par:∀x∈P,sc.names.lookup x=some .local\/sc.names.lookup x=some .cell
 nofree:∀y∈sc.names,y.2≠.free
theorem BL {kindOf:Str->Option NameKind} {x:Str}:∀{binds:List (Str×Value)} {m:Str->Option Value},(∀v,(x,v)∉binds)->bindL kindOf binds m x=m x
 | [],_,_=>rfl
 | (n,v) :: r,m,h=>by
  unfold bindL;rw[BL fun w hw=>h w (bT _ hw)]
  split
  ·have:x≠n:=by rintro rfl;exact h v cX
   simp [this]
  ·rfl
theorem BN {kindOf:Str->Option NameKind} {x:Str}:∀{binds:List (Str×Value)} {m:Str->Option Value},(∀v,(x,v)∉binds)->bindC kindOf binds m x=m x
 | [],_,_=>rfl
 | (n,v) :: r,m,h=>by
  unfold bindC;rw[BN fun w hw=>h w (bT _ hw)]
  split
  ·rfl
  ·have:x≠n:=by rintro rfl;exact h v cX
   simp [this]
theorem BM {kindOf:Str->Option NameKind} {x:Str} {v:Value}:∀{P:List Str} {vs:List Value} {i:Nat} {m:Str->Option Value},P.Nodup->P[i]?=some x->vs[i]?=some v->kindOf x=some .local →
  bindL kindOf (P.zip vs) m x=some v
 | [],_,_,_,_,h,_,_=>by simp at h
 | _ :: _,[],_,_,_,_,h,_=>by simp at h
 | p :: P,w :: vs,0,m,nd,h1,h2,hk=>by
  simp at h1 h2;subst h1;subst h2;show bindL kindOf ((p,w) :: P.zip vs) m p=_
  unfold bindL;rw[BL fun v hv=>(dX.mp nd).1 (K2 hv).1,if_pos hk];simp
 | p :: P,w :: vs,i+1,m,nd,h1,h2,hk=>by
  show bindL kindOf ((p,w) :: P.zip vs) m x=_
  unfold bindL;exact BM (i:=i) (dX.mp nd).2 (by simpa using h1) (by simpa using h2) hk
theorem BO {kindOf:Str->Option NameKind} {x:Str} {v:Value}:∀{P:List Str} {vs:List Value} {i:Nat} {m:Str->Option Value},P.Nodup->P[i]?=some x->vs[i]?=some v->kindOf x≠some .local →
  bindC kindOf (P.zip vs) m x=some v
 | [],_,_,_,_,h,_,_=>by simp at h
 | _ :: _,[],_,_,_,_,h,_=>by simp at h
 | p :: P,w :: vs,0,m,nd,h1,h2,hk=>by
  simp at h1 h2;subst h1;subst h2;show bindC kindOf ((p,w) :: P.zip vs) m p=_
  unfold bindC;rw[BN fun v hv=>(dX.mp nd).1 (K2 hv).1,if_neg hk];simp
 | p :: P,w :: vs,i+1,m,nd,h1,h2,hk=>by
  show bindC kindOf ((p,w) :: P.zip vs) m x=_
  unfold bindC;exact BO (i:=i) (dX.mp nd).2 (by simpa using h1) (by simpa using h2) hk
def start (N:List Str) (vs:List V):St:=vs.map some++List.replicate (N.length - vs.length) none
def IB (CX:KS) (P:Program) (w:World) (K:PySem.W.Frag) (mg:Str->Option Value) (base:Heap) (N:List Str) (qual:Str) (scope:Scope) (f:Addr) (cd:Value) (A:Around) (outer:List Env) (s:Shared) (H:Hp) (E:XK):Cx where
 prog:=P
 w:=w
 K:=K
 mg:=mg
 base:=base
 A:=A.deeper (envOfC qual scope s.heap.objs.size f cd)
 N:=N
 s₀:=s
 H₀:=H
 env:=envOfC qual scope s.heap.objs.size f cd
 outer:=outer
 stack:=envOfC qual scope s.heap.objs.size f cd :: outer
 ex:=[]
 calm:=true
 fn:=fun _=>true
 pn:=[]
 xe:=fun e s'=>wpAny (model P w) (A.deeper (envOfC qual scope s.heap.objs.size f cd)) (leaving (envOfC qual scope s.heap.objs.size f cd) e) (fun _ s''=>CX outer H s E e s'') (fun e' s''=>CX outer H s E e' s'') s'
theorem Ef {sc:Scope} {n:Nat} {x:Str} (h:sc.names.lookup x=some .cell):∃c,(cellsFrom n sc.names []).lookup x=some c:=by
 have q:=zh sc.names n [] (.inl h);exact ON.mp q
theorem Iv {CX:KS} {P:Program} {w:World} {K:PySem.W.Frag} {mg:Str->Option Value} {base:Heap} {N ps:List Str} {qual:Str} {scope:Scope} {f:Addr} {cd:Value} {A:Around} {outer:List Env} {s s1:Shared} {H:Hp} {E:XK} {us:List Value} {vs:List V}
  (S:aW N ps scope) (hd:A.handled=none) (e0:FE P w K mg base A outer s H) (hl:vs.length=ps.length) (r:cA vs us)
  (x:InCallC s s.heap.objs.size (bindL (envOfC qual scope s.heap.objs.size f cd).kindOf (ps.zip us) fun _=>none) (cellsFrom (s.heap.objs.size+1) scope.names []) (bindC (envOfC qual scope s.heap.objs.size f cd).kindOf (ps.zip us) fun _=>none) s1) :
  Inv (IB CX P w K mg base N qual scope f cd A outer s H E) [] (start N vs) H s1:=by
 have hpl:ps.length<=N.length:=by have:=congrArg List.length S.pre;rw[cT] at this;lia
 obtain ⟨h1,tk,rfl,hk⟩:=x.done;have noA:∀b:Addr,b∉(IB CX P w K mg base N qual scope f cd A outer s H E).ex:=fun b z=>absurd (show b∈([]:List Addr) from z) (by simp)
 refine ⟨⟨e0.mod,S.kind,rfl,rfl,ar _,fun y z c h1 h2=>?_,fun y hy=>?_,fun y c _ h=>?_,fun _=>hd,Around.frames_deeper e0.frames,.inr ⟨rfl,rfl⟩,fun b z=>absurd z (noA b),e0.bs,e0.bsz,fun b _ _=>noA b,fun b z=>absurd z (noA b),e0.funs,e0.frf⟩,
  rfl,e0.bare,Un.kept hk,⟨_,x.toInCall.ns,fun i y v h1 h2 h3=>?_⟩,fun y c h=>⟨_,x.cell y c h⟩,e0.hok.fresh (ar _),fun y c h=>?_,fun p hp=>absurd (show p∈([]:List (Addr×Obj)) from hp) (by simp),e0.hok.kept hk,?_⟩
 ·exact name_of_addr x.apart (lZ h1) (lZ h2)
 ·have hy:scope.names.lookup y=some .cell\/scope.names.lookup y=some .free:=hy;rcases hy with hy | hy
  ·exact Ef hy
  ·exact absurd rfl (S.nofree _ (lZ hy))
 ·exact aR (x.above y c (lZ h))
 ·have hi:i < vs.length:=by
   unfold start at h2;by_cases hi:i < vs.length
   ·exact hi
   ·rw[bc (by simpa using hi)] at h2;rw[dD] at h2
    split at h2 <;> cases h2
  have ha:vs[i]?=some v:=by
   unfold start at h2;rw[bJ (by simpa using hi),aD] at h2;cases e:vs[i]? with
   | none=>rw[e] at h2;cases h2
   | some a=>rw[e] at h2;cases h2;rfl
  obtain ⟨u,hu,rv⟩:=r.get ha
  have hp:ps[i]?=some y:=by
   rw[<- S.pre,mB (by lia)];exact h1
  have ndP:ps.Nodup:=by rw[<- S.pre];exact S.nd.sublist (List.take_sublist _ _)
  refine ⟨u,rv,?_⟩;rcases S.par y (aw hp) with k | k
  ·exact .inl ⟨k,BM ndP hp hu k⟩
  ·obtain ⟨c,e⟩:=Ef (n:=s.heap.objs.size+1) k;refine .inr ⟨.inl k,c,e,?_⟩;have q:=x.cell y c e;rw[BO ndP hp hu (by show scope.names.lookup y≠_;rw[k];decide)] at q;exact q
 ·exact e0.hok.fresh (aR (x.above y c (lZ h)))
 ·unfold start;show _=N.length
  rw[ai,ag,aG]
  lia
theorem PM {CX:KS} {P:Program} {w:World} {K:PySem.W.Frag} {mg:Str->Option Value} {base:Heap} {k:Nat} {f:Addr} {name qual:Str} {params:Arguments} {body:List Stmt} {scope:Scope} {dV kV doc pm cdv ct oc:Value} {an od:Option Addr}
  {osl:Array (Option Value)} {N ps:List Str} {sp:Sp} (lk:K.lookup f=some ⟨oc,od,.func (PySem.W.fnOf name qual params body scope dV kV doc pm an cdv ct),osl⟩) (hcd:PySem.W.codeIn K cdv qual=true) (S:aW N ps scope)
  (len:∀vs H Q E,sp vs H Q E->vs.length=ps.length)
  (hbody:∀(A:Around) (outer:List Env) (s:Shared) (H:Hp) (vs:List V) (Q:VK) (E:XK),lV k (A.deeper (envOfC qual scope s.heap.objs.size f cdv))->sp vs H Q E →
   ∃t,Fw (IB CX P w K mg base N qual scope f cdv A outer s H E) body t/\t { nx:=fun _ H'=>Q .non H',rt:=Q } (start N vs) H) :
  cI P w K mg base CX (k+1) f (PySem.W.fnOf name qual params body scope dV kV doc pm an cdv ct) ps sp:=by
 refine ⟨len,fun A outer s H args us vs Q E hr e0 hb r hsp=>?_⟩;have hl:=len _ _ _ _ hsp;have KX:K.In s.heap:=e0.mod.kin.keeps fun b o e=>(e0.bs b o e).1
 have lim:s.heap.NoLimit:=e0.mod.nolimit.keeps fun b o e=>(e0.bs b o e).1
 have hkind:∀y∈ps.zip us,scope.names.lookup y.1=some .local\/(scope.names.lookup y.1=some .cell/\((cellsFrom (s.heap.objs.size+1) scope.names []).lookup y.1).isSome=true):=fun ⟨n,v⟩ hy=>by
  rcases S.par n (K2 hy).1 with q | q
  ·exact .inl q
  ·exact .inr ⟨q,zh _ _ _ (.inl q)⟩
 refine codeAny_call_function hr.depth (KX _ _ lk) rfl S.co S.gen rfl (PySem.W.codeRec_of KX hcd) (hb _ _ _ _ ?_);refine wpAny_newFunctionEnv_cells S.kind hkind fun env he s1 x=>?_
 subst he;refine ⟨lim.keeps x.toInCall.keep,codeAny_func ?_⟩;obtain ⟨t,ht,hq⟩:=hbody A outer s H vs Q E (hr.deeper _) hsp;have I:Inv (IB CX P w K mg base N qual scope f cdv A outer s H E) [] (start N vs) H s1:=Iv S hr.hd e0 hl r x;refine wpAny_mono (ht [] s1 (start N vs) H _ I hq) (fun fl s' hs=>?_) fun e s' hs=>hs
 have fin:∀{σ':St} {H':Hp} {v:V} {u:Value},Inv (IB CX P w K mg base N qual scope f cdv A outer s H E) [] σ' H' s'->RelV v u->Q v H'->CE outer P w H s Q u s' :=
  fun {σ' H' v u} J rv q=>⟨v,H',J.os,J.bare,J.base,J.hok,rv,q⟩
 cases fl with
 | ret u =>
  obtain ⟨v,σ',H',J,rv,q⟩:=hs;exact fin J rv q
 | next =>
  obtain ⟨σ',H',J,q⟩:=hs;exact fin (v:=V.non) (u:=Value.none) J rfl q
 | brk =>
  obtain ⟨_,_,_,q⟩:=hs;exact False.elim q
 | cont =>
  obtain ⟨_,_,_,q⟩:=hs;exact False.elim q
section
variable {X:Cx} {x:Str} {p pos:Pos} {e:Expr} {es:List Expr} {t:TA} {id T:String} {r:List V->Hp->VK->Prop}
def Qi (r:List V->Hp->VK->Prop) (t:TA):TE:=fun σ H Q=>t σ H fun vs H1=>r vs H1 Q
theorem bY (hc:tY X (.builtin id) r) (hg:Gl X x) (hm:X.mg x=none) (hv:bootBuiltins x=some (.builtin id)) (ha:PA X (e :: es) t) (hn:x≠"__name__":=by decide) (hdb:(x == ("__debug__":Str))=false:=by decide)
  (he:starEach (e :: es) X.env=(false,eval e X.env) :: starEach es X.env:=by rfl) (hpl:(backTo pos (starEach es X.env)).any (·.1)=false:=by rfl):PE X (.Call (.Name x p) (e :: es) [] pos) (Qi r t):=by
 intro pins s σ H Q I h;refine wpAny_Call_Name_kw (ki I hg hm hv ?_ hn hdb);exact PyProof.Rows.callWith_builtin1 (fL (ha pos pins s σ H _ I h) fun us s1 ⟨vs,H1,I1,r1,q1⟩=>hc pins s1 σ H1 vs us Q I1 r1 q1) he hpl
theorem jo (hc:tY X (.type T) r) (hg:Gl X x) (hm:X.mg x=none) (hv:bootBuiltins x=some (.type T)) (ha:PA X (e :: es) t) (hn:x≠"__name__":=by decide) (hdb:(x == ("__debug__":Str))=false:=by decide)
  (he:starEach (e :: es) X.env=(false,eval e X.env) :: starEach es X.env:=by rfl) (hpl:(backTo pos (starEach es X.env)).any (·.1)=false:=by rfl):PE X (.Call (.Name x p) (e :: es) [] pos) (Qi r t):=by
 intro pins s σ H Q I h;refine wpAny_Call_Name_kw (ki I hg hm hv ?_ hn hdb);exact PyProof.Rows.callWith_type1 (fL (ha pos pins s σ H _ I h) fun us s1 ⟨vs,H1,I1,r1,q1⟩=>hc pins s1 σ H1 vs us Q I1 r1 q1) he hpl
end
end L2
namespace HT
open PySem PyProof.Rows
section
open PySem.SeqAt
open PySem.AutoSeq1 (wpAny_loadPart')
open PySem.MeetsSeq PySem.MeetsSeq2 PySem.MeetsSeq3
end
section
variable {prog:Program} {w:World} {A:Around} {E:Value->Shared->Prop} {s:Shared}
def DC (n d:Nat):Option Int->Nat
 | none=>d
 | some v=>if v < 0 then (v+(n:Int)).toNat else min v.toNat n
theorem DB (n d:Nat):DC n d none=d:=rfl
theorem yQ (n d k:Nat):DC n d (some (k:Int))=min k n:=by
 show (if (k:Int) < 0 then ((k:Int)+(n:Int)).toNat else min (k:Int).toNat n)=min k n
 rw[if_neg (by lia),Int.toNat_natCast]
end
end HT
namespace L2
open PySem PySem.Spec PyProof.Rows
abbrev TO:=St->Hp->(Option Int->Hp->Prop)->Prop
def PO (X:Cx) (e:Option Expr) (t:TO):Prop :=
 ∀(pins:List (Addr×Obj)) (s:Shared) (σ:St) (H:Hp) (Q:Option Int->Hp->Prop),Inv X pins σ H s->t σ H Q →
  wpAny (model X.prog X.w) X.A (evalPart e X.env) (fun u s'=>∃o H',Inv X pins σ H' s'/\IsPart u o/\Q o H') X.xe s
def FG:TO:=fun _ H Q=>Q none H
def Mx (t:TE):TO:=fun σ H Q=>t σ H fun x H1=>∃i,x=.int i/\Q (some i) H1
theorem intsAre_of {ns:List Int}:∀{us:List Value},cA (ns.map V.int) us->IntsAre us ns:=by
 induction ns with
 | nil=>intro us r;rw[List.map_nil] at r;cases r;exact .nil
 | cons n ns ih =>
  intro us r;rw[fv] at r;cases r with
  | cons r1 r2 =>
   obtain ⟨t,e⟩:=r1;subst e;exact .cons n t (ih r2)
section
variable {X:Cx} {e:Expr} {te:TE} {lo hi:Option Expr} {tl th:TO} {pos p2:Pos}
theorem FN:PO X none FG:=by
 intro pins s σ H Q I h;rw[evalPart_none];exact wpAny_pure ⟨none,H,I,.none,h⟩
theorem yS (h:PE X e te):PO X (some e) (Mx te):=by
 intro pins s σ H Q I hw;rw[evalPart_some];refine fL (h pins s σ H _ I hw) fun u s1 ⟨x,H1,I1,r1,q1⟩=>?_
 obtain ⟨i,rfl,q⟩:=q1;obtain ⟨t,rfl⟩:=r1;exact ⟨some i,H1,I1,.int i t,q⟩
def Qy (X:Cx) (r:V->Option Int->Option Int->Hp->VK->Prop):Prop :=
 ∀(pins:List (Addr×Obj)) (s:Shared) (σ:St) (H:Hp) (x:V) (v vl vu:Value) (lo hi:Option Int) (sl:Addr) (Q:VK),Inv X pins σ H s->RelV x v->s.heap.IsSliceOf sl vl vu .none->IsPart vl lo->IsPart vu hi->r x lo hi H Q →
  ∃T id,typeLookup (.type T) "__getitem__"=pure (some (.builtin id))/\s.TypeIs v T/\wpAny (model X.prog X.w) X.A (getItem v (.ref sl)) (EP X pins σ Q) X.xe s
def tSl (r:V->Option Int->Option Int->Hp->VK->Prop) (te:TE) (tl th:TO):TE:=fun σ H Q=>te σ H fun x H1=>tl σ H1 fun l H2=>th σ H2 fun u H3=>r x l u H3 Q
theorem zO {r:V->Option Int->Option Int->Hp->VK->Prop} (hr:Qy X r) (he:PE X e te) (hl:PO X lo tl) (hu:PO X hi th):PE X (.Subscript e (.Slice lo hi none p2) pos) (tSl r te tl th):=by
 intro pins s σ H Q I h;refine Subscript_ (fL (he pins s σ H _ I h) fun v s1 ⟨x,H1,I1,r1,q1⟩=>?_);refine wpAny_Slice (fL (hl pins s1 σ H1 _ I1 q1) fun vl s2 ⟨l,H2,I2,pl,q2⟩=>fL (hu pins s2 σ H2 _ I2 q2) fun vu s3 ⟨u,H3,I3,pu,q3⟩=>?_);rw[evalPart_none];refine wpAny_pure ?_;have I4:Inv X pins σ H3 { s3 with heap:=s3.heap.push { cls:=.type "slice",data:=.fields #[vl,vu,.none] } }:=I3.kept (t':=s3.toks) fun b ob q=>Heap.get?_push_of_some _ q
 obtain ⟨T,id,hT,ht,hg⟩:=hr pins { s3 with heap:=s3.heap.push { cls:=.type "slice",data:=.fields #[vl,vu,.none] } } σ H3 x v vl vu l u s3.heap.objs.size Q I4 r1 (Heap.IsSliceOf.new ..) pl pu q3;show wpAny (model X.prog X.w) X.A (subscriptTail e (.Slice lo hi none p2) v (.ref s3.heap.objs.size)) (EP X pins σ Q) X.xe { s3 with heap:=s3.heap.push { cls:=.type "slice",data:=.fields #[vl,vu,.none] } }
 exact tail_any (ops:=[.ref s3.heap.objs.size,v]) ht hT hg (by with_unfolding_all rfl)
def uR (xs:List V) (lo hi:Option Int):List V:=(xs.drop (HT.DC xs.length 0 lo)).take (HT.DC xs.length xs.length hi - HT.DC xs.length 0 lo)
theorem yv (xs:List V) (lo hi:Option Int):(uR xs lo hi).length<=xs.length:=by
 unfold uR;rw[cT,List.length_drop]
 lia
end
def IJ (n:Nat) (i:Int):Option Nat:=if 0<=i then (if i < n then some i.toNat else none) else if -(n:Int)<=i then some (i+n).toNat else none
def Fo {α:Type} (xs:List α) (i:Int):Option α:=(IJ xs.length i).bind fun j=>xs[j]?
theorem Gi {n:Nat} {i:Int} {j:Nat} (h:IJ n i=some j):seqIndex? i n=some j/\j < n/\-(n:Int)<=i/\i < n:=by
 unfold IJ at h;by_cases h0:0<=i
 ·rw[if_pos h0] at h;by_cases h1:i < n
  ·rw[if_pos h1] at h;have e:i.toNat=j:=b7 h;exact ⟨by rw[seqIndex_of h0 h1,e],by lia,by lia,h1⟩
  ·rw[if_neg h1] at h;cases h
 ·rw[if_neg h0] at h;by_cases h1:-(n:Int)<=i
  ·rw[if_pos h1] at h;have e:(i+n).toNat=j:=b7 h;exact ⟨by rw[seqIndex_neg (by lia) h1,e],by lia,h1,by lia⟩
  ·rw[if_neg h1] at h;cases h
theorem C2 {α:Type} {xs:List α} {i:Int} {v:α} (h:Fo xs i=some v):∃j,seqIndex? i xs.length=some j/\xs[j]?=some v/\j < xs.length/\-(xs.length:Int)<=i/\i < xs.length:=by
 unfold Fo at h;cases e:IJ xs.length i with
 | none=>rw[e] at h;cases h
 | some j =>
  rw[e] at h;obtain ⟨h1,h2,h3,h4⟩:=Gi e;exact ⟨j,h1,h,h2,h3,h4⟩
theorem dQ {α:Type} {xs:List α} {j:Nat} {v:α} (h:xs[j]?=some v):Fo xs (j:Int)=some v:=by
 have hj:j < xs.length:=(aA.mp h).1
 have e:IJ xs.length (j:Int)=some j:=by
  unfold IJ;rw[if_pos (by lia),if_pos (by lia)];simp
 unfold Fo;rw[e];exact h
theorem tO {α:Type} (xs:List α) (v:α):Fo (xs++[v]) (-1)=some v:=by
 have hl:(xs++[v]).length=xs.length+1:=by simp
 have e:IJ (xs++[v]).length (-1)=some xs.length:=by
  unfold IJ;rw[hl,if_neg (by decide),if_pos (by lia)];congr 1
  lia
 unfold Fo;rw[e];show (xs++[v])[xs.length]?=some v
 simp
def Mu (b:Expr):Prop:=∀o i,subscripted b false o i=operate [o,i] (getItem o i)
def PY (X:Cx) (r:R2):Prop :=
 ∀(value slice:Expr) (pins:List (Addr×Obj)) (s:Shared) (σ:St) (H:Hp) (x y:V) (v u:Value) (Q:VK),Inv X pins σ H s->RelV x v->RelV y u->r x y H Q →
  subscripted slice false v u=operate [v,u] (getItem v u)->wpAny (model X.prog X.w) X.A (subscriptTail value slice v u) (EP X pins σ Q) X.xe s
def MtR (X:Cx) (id:String) (r:V->List V->Hp->VK->Prop):Prop :=
 ∀(pins:List (Addr×Obj)) (s:Shared) (σ:St) (H:Hp) (x:V) (xs:List V) (v:Value) (us:List Value) (Q:VK),Inv X pins σ H s->RelV x v->cA xs us->r x xs H Q →
  wpAny (model X.prog X.w) X.A (call (.builtin id) (v :: us)) (EP X pins σ Q) X.xe s
section
variable {X:Cx} {a b:Expr} {ta tb:TE} {pos:Pos}
theorem aV {r:R2} (hr:PY X r) (ha:PE X a ta) (hb:PE X b tb) (hs:Mu b:=by intro _ _;rfl):PE X (.Subscript a b pos) (OX r ta tb):=by
 intro pins s σ H Q I h;exact Subscript_ (Oy ha hb I h fun v u s2 x y H2 I2 rx ry q=>hr a b pins s2 σ H2 x y v u Q I2 rx ry q (hs _ _))
def N6 (K:PySem.W.Frag):R2:=fun x y H Q=>∃p xs i v,x=.ref p/\y=.int i/\bM K H p xs/\Fo xs i=some v/\Q v H
def N5 (K:PySem.W.Frag):R2:=fun x y H Q=>∃p xs i v,x=.ref p/\y=.int i/\vV K H p xs/\Fo xs i=some v/\Q v H
theorem bI:PY X (N6 X.K):=by
 intro value slice pins s σ H x y v u Q I rx ry h hs;obtain ⟨p,xs,i,z,rfl,rfl,hq,he,q⟩:=h;cases rx;obtain ⟨t,rfl⟩:=ry;obtain ⟨its,r,pl,hz⟩:=I.list hq;obtain ⟨j,h1,h2,h3,h4,h5⟩:=C2 he;obtain ⟨w,ew,rw'⟩:=r.get h2;have hl:=r.length;have hn:=Ag;have fin:EP X pins σ Q w s:=⟨z,H,I,rw',q⟩;by_cases h0:0<=i
 ·have hj:i.toNat=j:=by
   rw[seqIndex_of h0 h5] at h1;exact b7 h1
  exact item_listR pl.isList h0 (by lia) (by rw[hj];simpa using ew) fin hs
 ·have hj:(i+(its.toArray.size:Int)).toNat=j:=by
   rw[seqIndex_neg (by lia) h4] at h1;rw[aL,<- hl];exact b7 h1
  exact subscriptTail_builtinR (x:=w) pl.isList.typeIs slot_list_getitem.lookup
   (wpAny_getItem_list_neg (Q:=fun r s'=>r=w/\EP X pins σ Q r s') pl.isList (by lia) (by rw[aL] <;> lia) (by lia) (by rw[hj];simpa using ew) ⟨rfl,fin⟩) hs
theorem b4:PY X (N5 X.K):=by
 intro value slice pins s σ H x y v u Q I rx ry h hs;obtain ⟨p,xs,i,z,rfl,rfl,hq,he,q⟩:=h;cases rx;obtain ⟨t,rfl⟩:=ry;obtain ⟨its,r,pl,hz⟩:=I.tuple hq;obtain ⟨j,h1,h2,h3,h4,h5⟩:=C2 he;obtain ⟨w,ew,rw'⟩:=r.get h2;have hl:=r.length;have hn:=Ag;have fin:EP X pins σ Q w s:=⟨z,H,I,rw',q⟩
 exact subscriptTail_builtinR (x:=w) pl.typeIs slot_tuple_getitem.lookup
  (getItem_tuple (j:=j) (Q:=fun r s'=>r=w/\EP X pins σ Q r s') pl (by lia) (by lia) (by rw[aL,<- hl];exact h1) (by simpa using ew) ⟨rfl,fin⟩) hs
theorem Fb (its:List Value) (n j:Nat) (u:Value):Obj.mapSeq (·.setIfInBounds j u) { cls:=.type "list",data:=.seq its.toArray n }={ cls:=.type "list",data:=.seq (its.set j u).toArray n }:=by
 simp [Obj.mapSeq]
theorem Inv.lst {pins:List (Addr×Obj)} {σ:St} {H:Hp} {s:Shared} {p:Addr} {xs:List V} (I:Inv X pins σ H s) (h:H p=some (.lst xs)) :
  ∃(its:List Value) (n:Nat),cA xs its/\s.heap.get? p=some { cls:=.type "list",data:=.seq its.toArray n }/\xs.length<=sizeLine:=by
 obtain ⟨z,its,n,r,e⟩:=I.hok p _ h;exact ⟨its,n,r,e,z⟩
theorem Inv.lstUpd {pins:List (Addr×Obj)} {σ:St} {H:Hp} {s:Shared} {p:Addr} {xs ys:List V} {its its':List Value} {n n':Nat} {f:Obj->Obj} (I:Inv X pins σ H s) (h:H p=some (.lst xs))
  (ho:s.heap.get? p=some { cls:=.type "list",data:=.seq its.toArray n }) (hf:f { cls:=.type "list",data:=.seq its.toArray n }={ cls:=.type "list",data:=.seq its'.toArray n' }) (r:cA ys its') (hz:ys.length<=sizeLine) (t:Nat) :
  Inv X pins σ (upd H p (.lst ys)) { s with heap:=s.heap.update p f,toks:=t }:=by
 have e:(s.heap.update p f).get? p=some { cls:=.type "list",data:=.seq its'.toArray n' }:=by
  rw[Heap.get?_update_self f ho (by rw[hf] <;> rfl),hf]
 refine I.write (x:=p) (e:=p) (by rw[h];trivial) (.inl rfl) (fun b u hb q=>(Heap.get?_update_other _ _ (Ne.symm hb)).trans q) ⟨_,e⟩ ?_;exact ⟨hz,its',n',r,e⟩
def MH:V->V->V->Hp->(Hp->Prop)->Prop:=fun o i v H Q=>∃p xs k j,o=.ref p/\i=.int k/\H p=some (.lst xs)/\IJ xs.length k=some j/\Q (upd H p (.lst (xs.set j v)))
theorem set_list:OA X MH:=by
 intro pins s σ H o i v ov iv u Q I ro ri rv h;obtain ⟨p,xs,k,j,rfl,rfl,hp,hj,q⟩:=h;cases ro;obtain ⟨t,rfl⟩:=ri;obtain ⟨its,n,r,ho,hz⟩:=I.lst hp;obtain ⟨h1,h2,h3,h4⟩:=Gi hj;have hl:=r.length;have hn:=Ag
 have I':Inv X pins σ (upd H p (.lst (xs.set j v))) { s with heap:=s.heap.update p (Obj.mapSeq (·.setIfInBounds j u)) } :=
  I.lstUpd hp ho (Fb its n j u) (r.set rv j) (by rw[dZ];exact hz) s.toks
 by_cases h0:0<=k
 ·have hk:k.toNat=j:=by
   rw[seqIndex_of h0 h4] at h1;exact b7 h1
  exact PySem.W.ki_setAt ho h0 (by lia) (by rw[aL,<- hl];exact h4) (by rw[hk];exact ⟨_,I',q⟩)
 ·have hk:(k+(its.toArray.size:Int)).toNat=j:=by
   rw[seqIndex_neg (by lia) h3] at h1;rw[aL,<- hl];exact b7 h1
  exact PySem.W.ki_setBack ho (by lia) (by rw[aL,<- hl];exact h3) (by lia) (by rw[hk];exact ⟨_,I',q⟩)
theorem Cf (lo hi:Option Int) (n:Nat):(sliceBounds lo hi none n).1=((HT.DC n 0 lo:Nat):Int)/\(sliceBounds lo hi none n).2.1=((HT.DC n n hi:Nat):Int)/\(sliceBounds lo hi none n).2.2=1:=by
 refine ⟨?_,?_,rfl⟩
 ·cases lo with
  | none=>simp [sliceBounds,HT.DC]
  | some i =>
   simp only[sliceBounds,HT.DC,Option.getD_none,show (1:Int) > 0 by decide,if_true];by_cases h:i < 0
   ·simp only[h,if_true] <;> lia
   ·simp only[h,if_false] <;> lia
 ·cases hi with
  | none=>simp [sliceBounds,HT.DC]
  | some i =>
   simp only[sliceBounds,HT.DC,Option.getD_none,show (1:Int) > 0 by decide,if_true];by_cases h:i < 0
   ·simp only[h,if_true] <;> lia
   ·simp only[h,if_false] <;> lia
theorem AI (its:List Value) (lo hi:Option Int):slicePick its.toArray lo hi none=((its.drop (HT.DC its.length 0 lo)).take (HT.DC its.length its.length hi - HT.DC its.length 0 lo)).toArray:=by
 obtain ⟨h1,h2,h3⟩:=Cf lo hi its.toArray.size;unfold slicePick;rw[h1,h2,h3];simp only[sliceRange_one,pick_run,aL] <;> rfl
def N4 (K:PySem.W.Frag):V->Option Int->Option Int->Hp->VK->Prop:=fun x lo hi H Q=>∃a xs,x=.ref a/\bM K H a xs/\∀p,H p=none->Q (.ref p) (upd H p (.lst (uR xs lo hi)))
theorem Cg:Qy X (N4 X.K):=by
 intro pins s σ H x v vl vu lo hi sl Q I rx hs pl pu h;obtain ⟨a,xs,rfl,hx,q⟩:=h;cases rx;obtain ⟨its,r,ht,hz⟩:=I.list hx;have hlen:=r.length;refine ⟨"list",_,slot_list_getitem.lookup,ht.isList.typeIs,?_⟩;refine wpAny_getItem_list_slice ht.isList hs pl pu .none (by simp) ?_ (by rw[aL] <;> lia);rw[AI,<- hlen];refine ⟨.ref s.heap.objs.size,_,I.laid (t':=s.toks) (o:=.lst (uR xs lo hi)) (fun b ob q=>Heap.get?_push_of_some _ q) (ar _) ?_,rfl,q _ (I.hok.fresh (ar _))⟩;exact ⟨ah (yv xs lo hi) hz,_,0,(r.drop (HT.DC xs.length 0 lo)).take (HT.DC xs.length xs.length hi - HT.DC xs.length 0 lo),Heap.get?_push_size _ rfl⟩
def wW:V->Bool
 | .non=>true
 | .bl _=>true
 | .int _=>true
 | .str _=>true
 | _=>false
def MZ:V->V->Bool
 | .non,.non=>true
 | .bl a,.bl b=>a == b
 | .bl a,.int b=>(if a then 1 else 0) == b
 | .int a,.bl b=>a == (if b then 1 else 0)
 | .int a,.int b=>a == b
 | .str a,.str b=>a == b
 | _,_=>false
theorem Oq {A:Around} {s:Shared} {y x:V} {u v:Value} (ry:RelV y u) (rx:RelV x v) (fy:wW y=true) (fx:wW x=true):SeqAt.EqAt A s u v (MZ y x):=by
 cases y with
 | non =>
  cases ry;cases x with
  | non=>cases rx;exact SeqAt.EqAt.same _
  | bl b=>cases rx;exact SeqAt.EqAt.none_bool b
  | int b=>obtain ⟨t,rfl⟩:=rx;exact SeqAt.EqAt.none_int b t
  | str b=>obtain ⟨t,rfl⟩:=rx;exact SeqAt.EqAt.none_str b t
  | _=>exact absurd (show false=true from fx) aS
 | bl a =>
  cases ry;cases x with
  | non=>cases rx;exact SeqAt.EqAt.bool_none a
  | bl b=>cases rx;exact SeqAt.EqAt.bool_bool a b
  | int b=>obtain ⟨t,rfl⟩:=rx;exact SeqAt.EqAt.bool_int a b t
  | str b=>obtain ⟨t,rfl⟩:=rx;exact SeqAt.EqAt.bool_str a b t
  | _=>exact absurd (show false=true from fx) aS
 | int a =>
  obtain ⟨t',rfl⟩:=ry;cases x with
  | non=>cases rx;exact SeqAt.EqAt.int_none a t'
  | bl b=>cases rx;exact SeqAt.EqAt.int_bool a t' b
  | int b=>obtain ⟨t,rfl⟩:=rx;exact SeqAt.EqAt.int_int a t' b t
  | str b=>obtain ⟨t,rfl⟩:=rx;exact SeqAt.EqAt.int_str a t' b t
  | _=>exact absurd (show false=true from fx) aS
 | str a =>
  obtain ⟨t',rfl⟩:=ry;cases x with
  | non=>cases rx;exact SeqAt.EqAt.str_none a t'
  | bl b=>cases rx;exact SeqAt.EqAt.str_bool a t' b
  | int b=>obtain ⟨t,rfl⟩:=rx;exact SeqAt.EqAt.str_int a t' b t
  | str b=>obtain ⟨t,rfl⟩:=rx;exact SeqAt.EqAt.str_str a t' b t
  | _=>exact absurd (show false=true from fx) aS
 | _=>exact absurd (show false=true from fy) aS
def Fm (x:V) (u:Value):Bool:=match u with
 | .none=>MZ .non x
 | .bool b=>MZ (.bl b) x
 | .int i _=>MZ (.int i) x
 | .str z _=>MZ (.str z) x
 | _=>false
theorem Ks {x y:V} {u:Value} (r:RelV y u) (f:wW y=true):Fm x u=MZ y x:=by
 cases y with
 | non=>cases r;rfl
 | bl b=>cases r;rfl
 | int i=>obtain ⟨t,rfl⟩:=r;rfl
 | str z=>obtain ⟨t,rfl⟩:=r;rfl
 | _=>exact absurd (show false=true from f) aS
theorem xm {x:V}:∀{xs:List V} {us:List Value},cA xs us->xs.all wW=true->us.any (Fm x)=xs.any fun y=>MZ y x
 | _,_,.nil,_=>rfl
 | y :: xs,u :: us,.cons r t,f=>by
  rw[List.all_cons,dE] at f;rw[List.any_cons,List.any_cons,Ks r f.1,xm t f.2]
theorem tz {A:Around} {s:Shared} {x:V} {v:Value} (rx:RelV x v) (fx:wW x=true):∀{xs:List V} {us:List Value},cA xs us->xs.all wW=true->∀u∈us,SeqAt.EqAt A s u v (Fm x u)
 | _,_,.nil,_=>fun u hu=>by cases hu
 | y :: xs,u :: us,.cons r t,f=>fun u' hu=>by
  rw[List.all_cons,dE] at f;rcases aI.mp hu with rfl | hu
  ·rw[Ks r f.1];exact Oq r rx f.1 fx
  ·exact tz rx fx t f.2 u' hu
def Qb (x:V) (xs:List V):Bool:=xs.any fun y=>MZ y x
def Qm (K:PySem.W.Frag) (neg:Bool):R2:=fun x y H Q=>∃p xs,y=.ref p/\(bM K H p xs\/vV K H p xs)/\wW x=true/\xs.all wW=true/\Q (.bl (if neg then !Qb x xs else Qb x xs)) H
theorem Ia:yc X (compareOp .In) (Qm X.K false):=by
 intro pins s σ H x y v u Q I rx ry h;obtain ⟨p,xs,rfl,hq,fx,fs,q⟩:=h;cases ry;rcases hq with hq | hq
 ·obtain ⟨its,r,pl,hz⟩:=I.list hq;refine SeqAt.in_listAt (Fm x) pl.isList (fun w hw=>tz rx fx r fs w (by simpa using hw)) ⟨.bl _,H,I,rfl,?_⟩;rw[show its.toArray.any (Fm x)=its.any (Fm x) by simp,xm r fs];exact q
 ·obtain ⟨its,r,pl,hz⟩:=I.tuple hq;refine SeqAt.in_tupleAt (Fm x) pl (fun w hw=>tz rx fx r fs w (by simpa using hw)) ⟨.bl _,H,I,rfl,?_⟩;rw[show its.toArray.any (Fm x)=its.any (Fm x) by simp,xm r fs];exact q
theorem Cu:yc X (compareOp .NotIn) (Qm X.K true):=by
 intro pins s σ H x y v u Q I rx ry h;obtain ⟨p,xs,rfl,hq,fx,fs,q⟩:=h;cases ry;rcases hq with hq | hq
 ·obtain ⟨its,r,pl,hz⟩:=I.list hq;refine SeqAt.notIn_listAt (Fm x) pl.isList (fun w hw=>tz rx fx r fs w (by simpa using hw)) ⟨.bl _,H,I,rfl,?_⟩;rw[show its.toArray.any (Fm x)=its.any (Fm x) by simp,xm r fs];exact q
 ·obtain ⟨its,r,pl,hz⟩:=I.tuple hq;refine SeqAt.notIn_tupleAt (Fm x) pl (fun w hw=>tz rx fx r fs w (by simpa using hw)) ⟨.bl _,H,I,rfl,?_⟩;rw[show its.toArray.any (Fm x)=its.any (Fm x) by simp,xm r fs];exact q
theorem bL:tY X (.builtin "len") (fun xs H Q=>∃p ys,xs=[.ref p]/\(bM X.K H p ys\/vV X.K H p ys)/\Q (.int ys.length) H):=by
 intro pins s σ H xs us Q I r h;obtain ⟨p,ys,rfl,hq,q⟩:=h;obtain ⟨u,rfl,rx⟩:=vals1 r;cases rx;have hn:=Ag;rcases hq with hq | hq
 ·obtain ⟨its,r',pl,hz⟩:=I.list hq;have hlen:=r'.length;exact Calls.call_len_list pl.isList (by simp only[aL] <;> lia) ⟨.int ys.length,H,I.tok _,⟨s.toks+1,by rw[aL,hlen]⟩,q⟩
 ·obtain ⟨its,r',pl,hz⟩:=I.tuple hq;have hlen:=r'.length;exact len_tuple pl (by simp only[aL] <;> lia) ⟨.int ys.length,H,I.tok _,⟨s.toks+1,by rw[aL,hlen]⟩,q⟩
theorem rB:tY X (.type "list") (fun xs H Q=>∃p ys,xs=[.ref p]/\(bM X.K H p ys\/vV X.K H p ys)/\∀l,H l=none->Q (.ref l) (upd H l (.lst ys))):=by
 intro pins s σ H xs us Q I r h;obtain ⟨p,ys,rfl,hq,q⟩:=h;obtain ⟨u,rfl,rx⟩:=vals1 r;cases rx
 have fin:∀(its:List Value),cA ys its->ys.length<=sizeLine->∀(h':Heap) (c':Nat),(∀b o',s.heap.get? b=some o'->h'.get? b=some o') →
   h'.get? s.heap.objs.size=some { cls:=.type "list",dict:=none,data:=.seq its.toArray c',slots:=#[] }->EP X pins σ Q (.ref s.heap.objs.size) { s with heap:=h' }:=fun its r' hz h' c' kp e =>
  ⟨.ref s.heap.objs.size,_,I.laid (t':=s.toks) kp (ar _) (show js X.prog X.w _ h' _ (.lst ys) from ⟨hz,its,c',r',e⟩),rfl,q _ (I.hok.fresh (ar _))⟩
 rcases hq with hq | hq
 ·obtain ⟨its,r',pl,hz⟩:=I.list hq;have hlen:=r'.length;obtain ⟨o,ho,hc,n,hd⟩:=pl.isList;exact call_list_seq p (.inl rfl) ho hc hd (fun h' c' kp e=>fin its r' hz h' c' kp e) (by simp only[aL] <;> lia)
 ·obtain ⟨its,r',pl,hz⟩:=I.tuple hq;have hlen:=r'.length;obtain ⟨o,ho,hc,n,hd⟩:=pl;exact call_list_seq p (.inr rfl) ho hc hd (fun h' c' kp e=>fin its r' hz h' c' kp e) (by simp only[aL] <;> lia)
def Qh (K:PySem.W.Frag) (T:String) (x:V) (H:Hp):Prop:=match x with
 | .str _=>T="str"
 | .int _=>T="int"
 | .ref p=>(T="list"/\∃xs,bM K H p xs)\/(T="tuple"/\∃o,K.lookup p=some o/\o.cls=.type "tuple"/\o.dict=none) \/
   (T="dict"/\((∃kvs,H p=some (.dK kvs))\/∃kvs,H p=some (.dT kvs)))\/(T="set"/\∃S n,H p=some (.set S n))
 | _=>False
theorem Np {pins:List (Addr×Obj)} {σ:St} {H:Hp} {s:Shared} {T:String} {x:V} {v:Value} (I:Inv X pins σ H s) (r:RelV x v) (ty:Qh X.K T x H) :
  s.TypeIs v T/\∀a,v=.ref a->∃ob,s.heap.get? a=some ob/\ob.dict=none:=by
 cases x with
 | str z =>
  obtain ⟨t,rfl⟩:=r;cases (show T="str" from ty);exact ⟨typeIs_str s z t,fun _ e=>nomatch e⟩
 | int i =>
  obtain ⟨t,rfl⟩:=r;cases (show T="int" from ty);exact ⟨typeIs_int s i t,fun _ e=>nomatch e⟩
 | ref p =>
  cases r;rcases ty with ⟨rfl,xs,hq⟩ | ⟨rfl,o,hk,hc,hd⟩ | ⟨rfl,hk⟩ | ⟨rfl,S,n,hk⟩
  ·obtain ⟨its,_,pl,_⟩:=I.list hq;refine ⟨pl.isList.typeIs,fun a e=>?_⟩;cases e;obtain ⟨o,n,e,c,hd,_⟩:=pl;exact ⟨o,e,hd⟩
  ·refine ⟨⟨o,I.kIn p o hk,hc⟩,fun a e=>?_⟩;cases e;exact ⟨o,I.kIn _ o hk,hd⟩
  ·have z:∃o,s.heap.get? p=some o/\o.ExactDict:=by
    rcases hk with ⟨kvs,hk⟩ | ⟨kvs,hk⟩
    ·obtain ⟨_,_,_,_,o,_,_,e,ex,_⟩:=I.hok p _ hk;exact ⟨o,e,ex⟩
    ·obtain ⟨_,_,_,_,o,_,_,e,ex,_⟩:=I.hok p _ hk;exact ⟨o,e,ex⟩
   obtain ⟨o,e,ex⟩:=z;refine ⟨⟨o,e,ex.1⟩,fun a e2=>?_⟩;cases e2;exact ⟨o,e,ex.2.1⟩
  ·obtain ⟨o,_,_,_,e,ex,_⟩:=I.hok p _ hk;refine ⟨⟨o,e,ex.1⟩,fun a e2=>?_⟩;cases e2;exact ⟨o,e,ex.2.1⟩
 | _=>exact False.elim ty
def tBM (K:PySem.W.Frag) (T:String) (r:V->List V->Hp->VK->Prop) (to:TE) (t:TA):TE:=fun σ H Q=>to σ H fun x H1=>Qh K T x H1/\t σ H1 fun xs H2=>r x xs H2 Q
variable {o e:Expr} {es:List Expr} {to:TE} {t:TA} {name:Str} {apos cpos:Pos} {T id:String} {r:V->List V->Hp->VK->Prop}
theorem yj (pa:PlainAttrs T) (slot:Slot T name id) (hty:typeOf (.builtin id)=pure (.type "method_descriptor")) (hm:MtR X id r) (ho:PE X o to) (ha:PA X (e :: es) t)
  (hbase:attributeBase o name X.env (eval o X.env)=eval o X.env:=by rfl)
  (hfew:((backTo cpos (starEach (e :: es) X.env)).all (fun x=>!x.1) && (backToKw cpos (keywordEach [] X.env)).all (fun x=>x.1.isSome)
   && decide ((e :: es).length+([]:List Keyword).length+(if ([]:List Keyword).isEmpty then 0 else 1) < 30))=true:=by rfl)
  (hline:(apos.endLine == cpos.line)=true:=by rfl) (hs:starEach (e :: es) X.env=(false,eval e X.env) :: starEach es X.env:=by rfl) (hplain:(backTo cpos (starEach es X.env)).any (·.1)=false:=by rfl) :
  PE X (.Call (.Attribute o name apos) (e :: es) [] cpos) (tBM X.K T r to t):=by
 intro pins s σ H Q I h;refine wpAny_Call_method_late hbase hfew hline rfl (fL (ho pins s σ H _ I h) fun v s1 ⟨x,H1,I1,r1,ty,q1⟩=>?_);obtain ⟨h1,h2⟩:=Np I1 r1 ty;refine ⟨T,id,pa,slot,hty,h1,h2,?_⟩;have hA:=ha cpos pins s1 σ H1 _ I1 q1;rw[hs] at hA ⊢;refine Calls.callWith_builtin (by show (false || (backTo cpos (starEach es X.env)).any (·.1))=false;rw[hplain] <;> rfl) (Calls.evalArgs_plain ?_);exact fL hA fun us s2 ⟨vs,H2,I2,r2,q2⟩=>hm pins s2 σ H2 x vs v us Q I2 r1 r2 q2
end
def Qz (X:Cx) (id:String) (r:V->List V->Hp->VK->Prop):Prop :=
 ∀(pins:List (Addr×Obj)) (s:Shared) (σ:St) (H:Hp) (x:V) (xs:List V) (v:Value) (us:List Value) (Q:VK),Inv X pins σ H s->RelV x v->cA xs us->r x xs H Q →
  wpAny (model X.prog X.w) X.A (call (.builtin id) (v :: us)) (EP X pins σ Q) X.xe s
theorem cA.one:∀{x:V} {us:List Value},cA [x] us->∃u,us=[u]/\RelV x u
 | _,_,.cons r .nil=>⟨_,rfl,r⟩
theorem cA.eraseIdx:∀{xs:List V} {us:List Value} (i:Nat),cA xs us->cA (xs.eraseIdx i) (us.eraseIdx i)
 | _,_,_,.nil=>.nil
 | _,_,0,.cons _ t=>t
 | _,_,i+1,.cons r t=>.cons r (cA.eraseIdx i t)
theorem cA.rep {xs:List V} {us:List Value} (h:cA xs us):∀k:Nat,cA (List.replicate k xs).flatten (List.replicate k us).flatten
 | 0=>.nil
 | k+1=>by
  rw[ma,ma,gN,gN];exact cA.append h (cA.rep h k)
theorem Bw {α:Type}:∀(l:List α) (i:Nat),(l.eraseIdx i).length<=l.length
 | [],_=>ar _
 | _ :: _,0=>sF _
 | _ :: r,i+1=>dh (Bw r i)
theorem foldl_rep (its:List Value):∀(k:Nat) (acc:List Value),
  List.foldl (fun x1 x2=>x1++x2) acc.toArray (List.replicate k its.toArray)=(acc++(List.replicate k its).flatten).toArray
 | 0,acc=>by simp
 | k+1,acc=>by
  have e:acc.toArray++its.toArray=(acc++its).toArray:=by simp
  have e2:(acc++its)++(List.replicate k its).flatten=acc++(List.replicate (k+1) its).flatten:=by
   rw[ma,gN,bP]
  rw[<- e2,<- foldl_rep its k (acc++its),<- e,ma,List.foldl_cons]
section
variable {X:Cx} {pins:List (Addr×Obj)} {σ:St} {H:Hp} {s:Shared} {l b:Addr} {xs ys zs:List V}
theorem Inv.lset {its its':List Value} {n:Nat} {f:Array Value->Array Value} {t':Nat} (I:Inv X pins σ H s) (hH:H l=some (.lst xs))
  (e:s.heap.get? l=some { cls:=.type "list",data:=.seq its.toArray n }) (hf:f its.toArray=its'.toArray) (hv:cA ys its') (hz:ys.length<=sizeLine) :
  Inv X pins σ (upd H l (.lst ys)) { s with heap:=s.heap.update l (Obj.mapSeq f),toks:=t' }:=by
 have q:=lF e f;rw[hf] at q;refine I.write (x:=l) (e:=l) (by rw[hH];exact trivial) (.inl rfl) (fun b' u hb hu=>(Heap.get?_update_other s.heap (Obj.mapSeq f) (Ne.symm hb)).trans hu) ⟨_,q⟩ ?_;exact ⟨hz,its',_,hv,q⟩
theorem Inv.lnew {its:List Value} {t':Nat} (I:Inv X pins σ H s) (hv:cA ys its) (hz:ys.length<=sizeLine) :
  Inv X pins σ (upd H s.heap.objs.size (.lst ys)) { s with heap:=s.heap.push { cls:=.type "list",data:=.seq its.toArray },toks:=t' } :=
 I.laid (fun _ _ q=>Heap.get?_push_of_some _ q) (ar _) ⟨hz,its,0,hv,Heap.get?_push_size _ rfl⟩
theorem Inv.fresh (I:Inv X pins σ H s):H s.heap.objs.size=none:=I.hok.fresh (ar _)
theorem Inv.lstM (I:Inv X pins σ H s) (hH:H l=some (.lst xs)):xs.length<=sizeLine/\∃(its:List Value) (n:Nat),cA xs its/\xs.length=its.length/\s.heap.get? l=some { cls:=.type "list",data:=.seq its.toArray n }:=by
 obtain ⟨z,its,n,r,e⟩:=I.hok l _ hH;exact ⟨z,its,n,r,r.length,e⟩
theorem DT {n:Nat} (h:n<=sizeLine):Builtin.List.listTooLong n=false:=by
 unfold Builtin.List.listTooLong;exact decide_eq_false (by lia)
end
section
variable {X:Cx}
def FL:V->List V->Hp->VK->Prop:=fun x vs H Q=>∃l xs y,x=.ref l/\vs=[y]/\H l=some (.lst xs)/\xs.length < sizeLine/\Q .non (upd H l (.lst (xs++[y])))
theorem qf:Qz X "list.append" FL:=by
 intro pins s σ H x vs v us Q I rx rv h;obtain ⟨l,xs,y,rfl,rfl,hH,hz,q⟩:=h;cases rx;obtain ⟨u,rfl,ru⟩:=rv.one;obtain ⟨z,its,n,r,hl,e⟩:=I.lstM hH;refine call_meets F.slot_list_append ⟨_,e,rfl⟩ F.entry_list_append (F.args_list_append_2 _ _) (PySem.list_append l its.toArray n u (by rw[aL];lia)) ⟨e,?_⟩;refine ⟨.non,_,I.lset (its':=its++[u]) hH e (by simp) (r.append (.cons ru .nil)) ?_,rfl,q⟩;rw[ai,aU]
 lia
def LU:V->List V->Hp->VK->Prop:=fun x vs H Q=>∃l b xs zs,x=.ref l/\vs=[.ref b]/\H l=some (.lst xs)/\H b=some (.lst zs)/\xs.length+zs.length<=sizeLine/\Q .non (upd H l (.lst (xs++zs)))
theorem Bt:Qz X "list.extend" LU:=by
 intro pins s σ H x vs v us Q I rx rv h;obtain ⟨l,b,xs,zs,rfl,rfl,hH,hB,hz,q⟩:=h;cases rx;obtain ⟨u,rfl,ru⟩:=rv.one;cases ru;obtain ⟨z,its,n,r,hl,e⟩:=I.lstM hH;obtain ⟨z2,its2,n2,r2,hl2,e2⟩:=I.lstM hB;have hsz:its.toArray.size+its2.toArray.size<=sizeLine:=by rw[aL,aL];lia
 have hlong:¬(!its.toArray.isEmpty && Builtin.List.listTooLong (its.toArray.size+its2.toArray.size))=true:=by
  rw[DT hsz,Bool.and_false];exact aS
 refine call_meets F.slot_list_extend ⟨_,e,rfl⟩ F.entry_list_extend (F.args_list_extend_2 _ _)
  (AutoSeq1.list_extend_list_list_0 l its.toArray n b its2.toArray n2 hlong (by rw[aL];lia) (by lia)) ⟨e,e2,?_⟩
 refine ⟨.non,_,I.lset (its':=its++its2) hH e (by simp) (r.append r2) ?_,rfl,q⟩;rw[ai]
 lia
def Pp:R2:=fun x y H Q=>∃l b xs zs,x=.ref l/\y=.ref b/\H l=some (.lst xs)/\H b=some (.lst zs)/\xs.length+zs.length<=sizeLine/\∀p,H p=none->Q (.ref p) (upd H p (.lst (xs++zs)))
theorem pJ:yc X (binaryOp .Add) Pp:=by
 intro pins s σ H x y v u Q I rx ry h;obtain ⟨l,b,xs,zs,rfl,rfl,hH,hB,hz,q⟩:=h;cases rx;cases ry;obtain ⟨z,its,n,r,hl,e⟩:=I.lstM hH;obtain ⟨z2,its2,n2,r2,hl2,e2⟩:=I.lstM hB;refine PySem.P.add_list e e2 ?_ (by rw[aL,aL];lia);have ea:its.toArray++its2.toArray=(its++its2).toArray:=by simp
 rw[ea];exact ⟨.ref _,_,I.lnew (t':=s.toks) (r.append r2) (by rw[ai];lia),rfl,q _ I.fresh⟩
def Pn:R2:=fun x y H Q=>∃l k xs,x=.ref l/\y=.int k/\H l=some (.lst xs)/\-(2^63)<=k/\k < 2^63/\xs.length*k.toNat<=sizeLine /\
 ∀p,H p=none->Q (.ref p) (upd H p (.lst (List.replicate k.toNat xs).flatten))
theorem len_rep {α:Type} (xs:List α) (k:Nat):(List.replicate k xs).flatten.length=k*xs.length:=by
 induction k with
 | zero=>simp
 | succ k ih=>rw[ma,gN,ai,ih,gM,pB]
theorem N9:yc X (binaryOp .Mult) Pn:=by
 intro pins s σ H x y v u Q I rx ry h;obtain ⟨l,k,xs,rfl,rfl,hH,h1,h2,hz,q⟩:=h;cases rx;obtain ⟨t,rfl⟩:=ry;obtain ⟨z,its,n,r,hl,e⟩:=I.lstM hH;have hlen:its.toArray.size*k.toNat<=sizeLine:=by rw[aL,<- hl];exact hz
 have hcap:¬its.toArray.size*k.toNat > (2^63 - 1) / 8:=by
  have:(sizeLine:Nat)<=(2^63 - 1) / 8:=by decide
  lia
 have hfit:¬(!Builtin.List.listFitsIndex k)=true:=by
  rw[fitsIndex_both h1 h2];exact aS
 have hlong:¬Builtin.List.listTooLong (its.toArray.size*k.toNat)=true:=by
  rw[DT hlen];exact aS
 have hnew:List.foldl (fun x1 x2=>x1++x2) #[] (List.replicate (if its.toArray.isEmpty=true then 0 else k.toNat) its.toArray)=(List.replicate k.toNat its).flatten.toArray:=by
  have f0:∀m:Nat,List.foldl (fun x1 x2=>x1++x2) #[] (List.replicate m its.toArray)=(List.replicate m its).flatten.toArray:=fun m=>by
   have:=foldl_rep its m [];rw[cQ] at this;exact this
  rw[f0];cases its with
  | nil=>simp
  | cons a r'=>rw[if_neg (by simp)]
 refine wpAny_binaryOp_repeat_ref (T:="list") (U:="int") (by decide) ⟨_,e,rfl⟩ (fun s'=>typeIs_int s' k t) noFill_list_mul F.fills_int_mul F.slot_int_rmul repeat_list F.slot_int_index.lookup
  (call_meets F.slot_int_rmul (typeIs_int s k t) F.entry_int_rmul (F.args_int_rmul_2 _ _) (int___rmul___int_list k t l its.toArray n)
   ⟨e,rfl,⟨_,e,rfl⟩,call_meets F.slot_list_mul ⟨_,e,rfl⟩ F.entry_list_mul (F.args_list_mul_2 _ _) (AutoListH.list___mul___list_int_3 l its.toArray n k t hfit hcap hlong) ⟨e,?_⟩⟩)
 rw[hnew];exact ⟨.ref _,_,I.lnew (t':=s.toks) (r.rep k.toNat) (by rw[len_rep,cG];exact hz),rfl,q _ I.fresh⟩
end
end L2
namespace Att
open PySem PySem.W PySem.Calls PyProof.Rows
theorem yH {P:Params} {h:Heap}:∀(ns:List Int) (vs:List Value),WellAll P h vs (ns.map WData.int)->IntsAre vs ns:=by
 intro ns
 induction ns with
 | nil =>
  intro vs w;rw[List.map_nil] at w;cases w;exact .nil
 | cons n ns ih =>
  intro vs w;rw[fv] at w;cases w with
  | cons a b =>
   cases a;exact .cons _ _ (ih _ b)
theorem HL {l:OpenLaw} {n:Nat} (hn:l.most=some n) {P:Params} {h:Heap} {args:List WData} {vals:List Value}
  (hpre:l.row.toRowW.claim.pre args=true) (hwl:WellAll P h vals args) :
  ∃a vs ns,vals=[Value.ref a]/\args=[WData.list (ns.map WData.int)]/\h.get? a=some { cls:=.type "list",data:=.seq vs.toArray }/\IntsAre vs ns/\ns.length<=n:=by
 have hsh:WShape.hasAll [] args [.list .int]=true:=(pre_splitW hpre).1;have hc:l.pre.holds [] { args:=args }=true:=(pre_splitW hpre).2;obtain ⟨d,r,rfl,h1,h2⟩:=hasAllW_cons hsh;obtain rfl:=hasAllW_nil h2;obtain ⟨xs,rfl,h3⟩:=hasW_list h1;obtain ⟨ns,rfl⟩:=items_int h3
 have hlen:ns.length<=n:=by
  unfold OpenLaw.pre at hc
  have h4:(WTm.not (.lt (.lit (.int (n:Int))) (.len (.arg 0)))).holds [] { args:=[.list (ns.map .int)] }=true:=by
   have h4:=(holds_andW hc).1;rw[hn] at h4;exact h4
  have h5:=condW_of h4 (w_not (w_lt w_lit (w_len_list (w_arg rfl))));rw[ag] at h5;refine Nat.le_of_not_lt fun q=>?_
  have q':(n:Int) < ((ns.length:Nat):Int):=by lia
  first
   | (rw[decide_eq_true q'] at h5;exact absurd h5 (by decide))
   | (simp at h5;lia)
 cases hwl with
 | cons w1 w2 =>
  cases w2;cases w1 with
  | list ho hall=>exact ⟨_,_,ns,rfl,rfl,ho,yH ns _ hall,hlen⟩
theorem HX (l:OpenLaw) (args:List WData):l.row.toRowW.claim.post args (.bool true) args=true :=
 postW_of (r:=l.row.toRowW) (X:=(true == true))
  (show WShape.has [] (.bool true) .bool=true by first | rfl | decide | simp [WShape.has,WShape.arms,WShape.armsAll])
  (show (WTm.eq .res (.lit (.bool true))).value [] { args:=args,res:=some (.bool true),after:=args }=some (.bool (true == true)) from w_eq_bool (w_res rfl) w_lit) rfl
theorem El {l:OpenLaw} {n:Nat} {q:Program} {loose:List Str} {XP:(Str->Option Value)->Heap->Prop} {YP:World->Heap->Prop} {d:DefRec}
  (hn:l.most=some n) (hdf:d.params.defaults=[])
  (call:∀(w:World) (s₀ s₁:Shared) (mg mb:Str->Option Value) (fa:Addr) (o:Obj) (pm cd doc:Value) (a:Addr) (vs:List Value) (ns:List Int),
   Ground q loose [] XP w s₀ mg mb s₁.heap->YP w s₁.heap →
   s₁.heap.get? fa=some o->o.data=.func (docDef d.name d.params d.body d.scope pm cd doc)->s₁.heap.CodeRec cd d.name->mg d.name=some (.ref fa) →
   s₁.heap.get? a=some { cls:=.type "list",data:=.seq vs.toArray }->IntsAre vs ns->ns.length<=n->s₁.gens=#[] →
   codeAny (model l.prog w) callerA (.call (.ref fa) ⟨[.ref a],[]⟩) (fun r s'=>r=.ok (.ret (.bool true))/\OldK s₁.heap s'.heap/\s'.os=s₁.os/\AllBare s'.gens) s₁) :
  WalkO q loose XP YP l.row.toRowW d [] (fun f vs=>PySem.call f vs):=by
 intro w s₀ s₁ mg mb G Y fa o pm cd doc dV kV ho hd hcd hD hmg hg args vals as hpre hlay hrd hwl hlo;obtain rfl:dV=.none:=Dflts.none hD hdf;obtain rfl:kV=.none:=Dflts.noKw hD;obtain ⟨a,vs,ns,rfl,rfl,hobj,hints,hlen⟩:=HL hn hpre hwl;refine enter_call (codeAny_mono (call w s₀ s₁ mg mb fa o pm cd doc a vs ns G Y ho (fd_plain hd) hcd hmg hobj hints hlen hg) fun r s' hq=>?_);obtain ⟨rfl,h2,h3,h4⟩:=hq;exact ⟨.inl ⟨.bool true,.bool true,[],rfl,fun _=>rfl,.bool true,HX l _,fun _=>⟨List.Pairwise.nil,fun _ hm=>(nomatch hm)⟩⟩,h2,h3,h4⟩
section
variable {prog:Program} {w:World} {A:Around} {E:Value->Shared->Prop} {s:Shared} {K:Frag}
end
end Att
namespace L2
open PySem PySem.Spec PyProof.Rows
theorem A7:∀{vs:List Value} {ns:List Int},IntsAre vs ns->cA (ns.map V.int) vs
 | _,_,.nil=>.nil
 | _,_,.cons n t h=>.cons ⟨t,rfl⟩ (A7 h)
def OB (H:Hp):Prop:=∀b,H b=none\/∃o xs,H b=some (.frz o (.lst xs))
theorem J7 {P : Program} {w : World} {K : PySem.W.Frag} {mg mb : Str → Option Value} {CX : KS} {k : Nat} {fa a : Addr} {fd : FuncData} {x : Str} {sp : Sp} {s₁ : Shared} {vs : List Value} {ns : List Int}
    (KX : K.In s₁.heap) (hns : s₁.heap.Ns mainGlobals mg) (hb : s₁.heap.Ns builtinsNs mb) (hbb : ∀ x : Str, x ≠ "__name__" → mb x = bootBuiltins x) (hlim : s₁.heap.NoLimit) (hg : s₁.gens = #[])
    (ha : s₁.heap.get? a = some { cls := .type "list", data := .seq vs.toArray }) (hi : IntsAre vs ns) (hl : ns.length ≤ sizeLine) (hr : lV k callerA)
    (F : ∀ base : Heap, K.In base → base.Ns mainGlobals mg → cI P w K mg base CX k fa fd [x] sp) (hbind : ∀ (s : Shared) (u : Value), BindsTo s fd ⟨[u], []⟩ [(x, u)])
    (hsp : ∀ H : Hp, OB H → bM K H a (ns.map V.int) → sp [.ref a] H (fun v _ => v = .bl true) fun _ _ _ => False)
    (hCX : ∀ H e s', CX [] H s₁ (fun _ _ _ => False) e s' → False) :
    codeAny (model P w) callerA (.call (.ref fa) ⟨[.ref a], []⟩) (fun r s' => r = .ok (.ret (.bool true)) /\ OldK s₁.heap s'.heap /\ s'.os = s₁.os /\ AllBare s'.gens) s₁ := by
  have rv := A7 hi;have lenV := hi.length
  have core : ∀ H : Hp, OB H → bM K H a (ns.map V.int) → zd P w H s₁.heap → (∀ b, H b ≠ none → b = a) → (H a ≠ none → K.lookup a = none) →
      codeAny (model P w) callerA (.call (.ref fa) ⟨[.ref a], []⟩) (fun r s' => r = .ok (.ret (.bool true)) /\ OldK s₁.heap s'.heap /\ s'.os = s₁.os /\ AllBare s'.gens) s₁ := by
    intro H hO hS hok hA hK;have base_of : ∀ {b : Addr} {o : Obj}, s₁.heap.get? b = some o → H b = none → (CK s₁.heap H).get? b = some o := fun e n => Kg e n
    have noA : ∀ {b : Addr} {o : Obj} {es : Array DictEntry} {ep : Nat}, s₁.heap.get? b = some o → o.data = .dict es ep → H b = none := fun {b o es ep} e d => by
      cases q : H b with
      | none => rfl
      | some u =>
        have e' : b = a := hA b (by rw [q]; simp);subst e';rw [ha] at e; cases e;have d' : Data.seq vs.toArray _ = Data.dict es ep := d;cases d'
    have nsK : ∀ {b : Addr} {m : Str → Option Value}, s₁.heap.Ns b m → (CK s₁.heap H).Ns b m := fun {b m} ⟨o, es, ep, e, d, r⟩ => ⟨o, es, ep, base_of e (noA e d), d, r⟩
    have hKb : K.In (CK s₁.heap H) := fun b o e => base_of (KX b o e) (by
      cases q : H b with
      | none => rfl
      | some u =>
        have e' : b = a := hA b (by rw [q]; simp);subst e';rw [hK (by rw [q]; simp)] at e; cases e)
    have hM : Mod K mg (CK s₁.heap H) := ⟨hKb, nsK hns, ⟨mb, nsK hb, hbb⟩, let ⟨mc, h1, h2⟩ := hlim; ⟨mc, nsK h1, h2⟩⟩;have e0 : FE P w K mg (CK s₁.heap H) callerA [] s₁ H := ⟨rfl, hM, fun b o e => L8 e, Nat.le_of_eq (Iy _ _), trivial, fun b hb => absurd (show b ∈ ([] : List Addr) from hb) (by simp), hok, .of_eq hg⟩;refine codeAny_mono ((F _ hKb (nsK hns)).run callerA [] s₁ H ⟨[.ref a], []⟩ [.ref a] [.ref a] _ _ hr e0 (hbind s₁ (.ref a)) (.cons rfl .nil) (hsp H hO hS)) fun r s' h => ?_
    cases r with
    | error e => exact (hCX H e s' h).elim
    | ok fl =>
      cases fl with
      | next => exact False.elim h
      | brk => exact False.elim h
      | cont => exact False.elim h
      | ret u =>
        obtain ⟨v, H', os, bare, un, hok', r', q⟩ := h;have q' : v = .bl true := q;subst q';obtain rfl : u = Value.bool true := r';refine ⟨rfl, OldK.of_keep fun b o e => ?_, os, bare⟩;cases q : H b with
        | none => exact un.keep b o e q (by intro z; exact absurd (show b ∈ ([] : List Addr) from z) (by simp)) (by simp)
        | some u =>
          rcases hO b with z | ⟨ob, xs, z⟩
          · rw [q] at z; cases z
          · have z2 := un.frzs b ob _ z;obtain ⟨e1, _⟩ := hok b _ z;obtain ⟨e2, _⟩ := hok' b _ z2;rw [e] at e1; cases e1;exact e2
  cases hk : K.lookup a with
  | some o =>
    have e := KX a o hk;rw [ha] at e;cases e;refine core (fun _ => none) (fun _ => .inl rfl) (.inr ⟨_, vs.toArray, _, hk, rfl, rfl, rfl, by rw [aL, lenV]; exact hl, by simpa using rv⟩) (fun b u z => by have z' : (none : Option HO) = some u := z; cases z') (fun b z => absurd rfl z) fun z => absurd rfl z
  | none =>
    refine core (fun b => if b = a then some (.frz { cls := .type "list", data := .seq vs.toArray } (.lst (ns.map V.int))) else none) (fun b => ?_) (.inl (.inr ⟨{ cls := .type "list", data := .seq vs.toArray }, if_pos rfl⟩)) (fun b u z => ?_) (fun b z => ?_) fun _ => hk
    · by_cases hb : b = a
      · exact .inr ⟨_, _, if_pos hb⟩
      · exact .inl (if_neg hb)
    · by_cases hb : b = a
      · have z' := (if_pos hb).symm.trans z;cases z';subst hb;exact ⟨ha, by rw [ag]; exact hl, vs, _, rv, ha⟩
      · have z' := (if_neg hb).symm.trans z;cases z'
    · by_cases hb : b = a
      · exact hb
      · exact absurd (if_neg hb) z
theorem K7 {l:PySem.W.OpenLaw} {n k:Nat} {q:Program} {loose:List Str} {XP:(Str->Option Value)->Heap->Prop} {YP:World->Heap->Prop} {d:DefRec} {K:Params->PySem.W.Frag} {CX:World->KS} {sp:World->Sp} {x:Str}
  (hn:l.most=some n) (hn2:n<=sizeLine) (hdf:d.params.defaults=[]) (hr:lV k callerA)
  (hY:∀(w:World) (h:Heap),YP w h->(K w.params).In h)
  (F:∀(w:World) (mg:Str->Option Value) (fa:Addr) (h:Heap),(K w.params).In h->h.Ns mainGlobals mg->mg d.name=some (.ref fa) →
   ∃fd:FuncData,(∀(s:Shared) (u:Value),BindsTo s fd ⟨[u],[]⟩ [(x,u)]) /\
    ∀base:Heap,(K w.params).In base->base.Ns mainGlobals mg->cI l.prog w (K w.params) mg base (CX w) k fa fd [x] (sp w))
  (hsp:∀(w:World) (H:Hp) (a:Addr) (ns:List Int),ns.length<=n->OB H->bM (K w.params) H a (ns.map V.int)->sp w [.ref a] H (fun v _=>v=.bl true) fun _ _ _=>False)
  (hCX:∀(w:World) (H:Hp) (s:Shared) (e:Value) (s':Shared),CX w [] H s (fun _ _ _=>False) e s'->False) :
  PySem.W.WalkO q loose XP YP l.row.toRowW d [] (fun f vs=>PySem.call f vs):=by
 refine Att.El hn hdf fun w s₀ s₁ mg mb fa o pm cd doc a vs ns G Y ho hd hcd hmg hobj hints hlen hg=>?_
 have KX:=hY w _ Y;obtain ⟨fd,hb,hF⟩:=F w mg fa _ KX G.T.g hmg;exact J7 KX G.T.g G.T.b G.T.builtins G.T.nolimit hg hobj hints (ah hlen hn2) hr hF hb (fun H hO hS=>hsp w H a ns hlen hO hS) fun H e s'=>hCX w H s₁ e s'
end L2


namespace L2
open PySem PySem.Spec PyProof.Rows
def inClass (s:Stmt) (j:Nat):Stmt:=match s with
 | .ClassDef _ _ _ body _ _ _ _ _ _ _=>body.getD j (.Pass ⟨0,0,0,0⟩)
 | _=>.Pass ⟨0,0,0,0⟩
def aT (s:Stmt):Arguments:=match s with
 | .FunctionDef _ a _ _ _ _ _ _ _ _=>a
 | _=>{ posonlyargs:=[],args:=[],vararg:=none,kwonlyargs:=[],kw_defaults:=[],kwarg:=none,defaults:=[] }
def aQ (s:Stmt):List Stmt:=match s with
 | .FunctionDef _ _ b _ _ _ _ _ _ _=>b
 | _=>[]
def av (s:Stmt):Scope:=match s with
 | .FunctionDef _ _ _ _ _ _ sc _ _ _=>sc
 | _=>{ kind:=.function,names:=[],isGenerator:=false,isCoroutine:=false }
abbrev gF:KS:=fun _ _ _ _ _ _=>False
abbrev E0:XK:=fun _ _ _=>False
theorem Bn {X:Cx}:vW gF X E0:=fun _ _ _ _ _ _ _ h=>h.elim
theorem cO {X:Cx} {k k':Nat} {f:Addr} {fd:FuncData} {ps:List Str} {sp:Sp} {x:Str} {p pos:Pos} {e:Expr} {es:List Expr} {t:TA} (F:cI X.prog X.w X.K X.mg X.base gF k f fd ps sp) (hr:lV k' X.A) (hm:X.mg x=some (.ref f)) (hk:PySem.W.keepIn X.K (.ref f)=true) (hb:Binds X.K fd ps []) (ha:PA X (e::es) t) (hle:k<=k':=by decide) (hg:Gl X x:=by exact rfl) (hdb:(x==("__debug__":Str))=false:=by decide) (he:starEach (e::es) X.env=(false,eval e X.env)::starEach es X.env:=by rfl) (hpl:(backTo pos (starEach es X.env)).any (·.1)=false:=by rfl):PE X (.Call (.Name x p) (e::es) [] pos) (IZ sp [] E0 t):=LZ F (hr.mono hle) hg hm hk hb .nil Bn ha hdb he hpl
structure gO (K:PySem.W.Frag) (x qual:Str) (st:Stmt) (f:Addr) (fd:FuncData):Prop where
 ex:∃(oc:Value) (od:Option Addr) (kV doc pm:Value) (an:Option Addr) (cdv ct:Value) (osl:Array (Option Value)),
  fd=PySem.W.fnOf x qual (aT st) (aQ st) (av st) .none kV doc pm an cdv ct/\K.lookup f=some ⟨oc,od,.func fd,osl⟩/\PySem.W.codeIn K cdv qual=true
 kp:PySem.W.keepIn K (.ref f)=true
section
variable {P:Program} {w:World} {K:PySem.W.Frag} {mg:Str->Option Value} {base:Heap}
theorem gO.ok {x qual:Str} {st:Stmt} {f:Addr} {fd:FuncData} {N ps:List Str} {k:Nat} {sp:Sp} (F:gO K x qual st f fd) (S:aW N ps (av st)) (len:∀vs H Q E,sp vs H Q E->vs.length=ps.length)
  (hbody:∀(cdv:Value) (A:Around) (outer:List Env) (s:Shared) (H:Hp) (vs:List V) (Q:VK) (E:XK),lV k (A.deeper (envOfC qual (av st) s.heap.objs.size f cdv))->sp vs H Q E →
   ∃t,Fw (IB gF P w K mg base N qual (av st) f cdv A outer s H E).nox (aQ st) t/\t { nx:=fun _ H'=>Q .non H',rt:=Q } (start N vs) H):cI P w K mg base gF (k+1) f fd ps sp:=by
 obtain ⟨oc,od,kV,doc,pm,an,cdv,ct,osl,rfl,lk,hcd⟩:=F.ex;refine PM lk hcd S len fun A outer s H vs Q E hr hsp=>?_
 obtain ⟨t,h,q⟩:=hbody cdv A outer s H vs Q E hr hsp;exact ⟨t,h.nox,q⟩
theorem gO.binds {x qual:Str} {st:Stmt} {f:Addr} {fd:FuncData} {ps:List Str} (F:gO K x qual st f fd)
  (h:∀(kV doc pm:Value) (an:Option Addr) (cdv ct:Value) (us:List Value),us.length=ps.length->bindArgs (PySem.W.fnOf x qual (aT st) (aQ st) (av st) .none kV doc pm an cdv ct) ⟨us,[]⟩=pure (ps.zip us)):Binds K fd ps []:=by
 obtain ⟨oc,od,kV,doc,pm,an,cdv,ct,osl,rfl,lk,hcd⟩:=F.ex;exact .all (h kV doc pm an cdv ct)
theorem bF {x qual:Str} {st:Stmt} {f:Addr} {oc:Value} {od an:Option Addr} {osl:Array (Option Value)} {kV doc pm cdv ct:Value} (l:K.lookup f=some ⟨oc,od,.func (PySem.W.fnOf x qual (aT st) (aQ st) (av st) .none kV doc pm an cdv ct),osl⟩)
  (c:PySem.W.codeIn K cdv qual=true) (k:PySem.W.keepIn K (.ref f)=true):gO K x qual st f (PySem.W.fnOf x qual (aT st) (aQ st) (av st) .none kV doc pm an cdv ct):=⟨⟨oc,od,kV,doc,pm,an,cdv,ct,osl,rfl,l,c⟩,k⟩
end
theorem bE {n:Nat} (h:n<=1000):n < sizeLine:=aY h (by decide)
section
variable {X:Cx}
theorem pv (i:Nat) {x:Str} {pos:Pos} (hN:X.N[i]?=some x:=by rfl) (hv:Qv X.env.scope x:=by first | exact Or.inl rfl | exact Or.inr (Or.inl rfl) | exact Or.inr (Or.inr rfl)) (hd:(x == ("__debug__":Str))=false:=by decide)
  (hcd:(x == ("__classdict__":Str))=false:=by decide):PE X (.Name x pos) (Nr i):=N7 hN hv hd hcd
end
theorem Iu {A B:Prop} (h:B):if false=true then A else B:=by
 rw[if_neg aS];exact h
theorem Pz {A B:Prop} (h:A):if true=true then A else B:=by
 rw[if_pos rfl];exact h
theorem jx {c A B:Prop} [Decidable c] (h1:c->A) (h2:¬c->B):if c then A else B:=by
 by_cases h:c
 ·rw[if_pos h];exact h1 h
 ·rw[if_neg h];exact h2 h
def aE (H H':Hp):Prop:=∀b o,H b=some o->H' b=some o
theorem aE.refl (H:Hp):aE H H:=fun _ _ h=>h
theorem aE.trans {H H1 H2:Hp} (a:aE H H1) (b:aE H1 H2):aE H H2:=fun c o h=>b c o (a c o h)
theorem aE.free {H H':Hp} (e:aE H H') {l:Addr} (h:H' l=Option.none):H l=Option.none:=by
 cases q:H l with
 | none=>rfl
 | some o =>
  rw[e l o q] at h;cases h
theorem aE.seq {K:PySem.W.Frag} {H H':Hp} {a:Addr} {xs:List V} (e:aE H H') (h:bM K H a xs):bM K H' a xs:=by
 rcases h with (h | ⟨o,h⟩) | h
 ·exact .inl (.inl (e _ _ h))
 ·exact .inl (.inr ⟨o,e _ _ h⟩)
 ·exact .inr h
end L2
namespace Nm
theorem Kk (a b:Int):Int.gcd b (a.fmod b)=Int.gcd a b:=by
 rw[Int.fmod_def,lK a b];apply Nat.dvd_antisymm
 ·apply KU
  ·exact eE ..
  ·have h1:=eE (a:=b) (b:=a - b*a.fdiv b);have h2:=eU (a:=b) (b:=a - b*a.fdiv b);have h3:=Int.dvd_add h2 (ox (c:=a.fdiv b) h1);rwa [Int.sub_add_cancel] at h3
 ·apply KU
  ·exact eE ..
  ·exact Int.dvd_sub (eU ..) (ox (eE ..))
theorem Kl (a b:Int):Int.gcd b (a % b)=Int.gcd a b:=by
 rw[Int.emod_def,lK a b];apply Nat.dvd_antisymm
 ·apply KU
  ·exact eE ..
  ·have h1:=eE (a:=b) (b:=a - b*(a / b));have h2:=eU (a:=b) (b:=a - b*(a / b));have h3:=Int.dvd_add h2 (ox (c:=a / b) h1);rwa [Int.sub_add_cancel] at h3
 ·apply KU
  ·exact eE ..
  ·exact Int.dvd_sub (eU ..) (ox (eE ..))
theorem Mg (a b:Int) (h:b≠0):(a.fmod b).natAbs < b.natAbs:=by
 rcases Int.lt_or_gt_of_ne h with h | h
 ·have e:a.fmod b=-((-a).fmod (-b)):=by
   have:=Int.neg_fmod_neg (-a) (-b);simp only[Int.neg_neg] at this;exact this
  have h1:=Int.fmod_nonneg_of_pos (-a) (b:=-b) (by lia);have h2:=Int.fmod_lt_of_pos (-a) (b:=-b) (by lia)
  lia
 ·have h1:=Int.fmod_nonneg_of_pos a h;have h2:=Int.fmod_lt_of_pos a h
  lia
def g (t b:Int):Int:=(Int.gcd t b:Int)
def lo (t b:Int):Int:=t / g t b
def hi (t b:Int):Int:=b / g t b
theorem Al {t b:Int} (h:b≠0):0 < g t b:=by
 unfold g;have:0 < Int.gcd t b:=K5 _ h
 lia
theorem Af (t b:Int):lo t b*g t b=t:=Int.ediv_mul_cancel (eE ..)
theorem xU (t b:Int):hi t b*g t b=b:=Int.ediv_mul_cancel (eU ..)
theorem Fg {t b:Int} (h:0 < b):0 < hi t b:=by
 have h1:=Al (t:=t) (b:=b) (by lia);have h2:=xU t b;by_cases h3:0 < hi t b
 ·exact h3
 ·have:hi t b*g t b<=0:=Int.mul_nonpos_of_nonpos_of_nonneg (by lia) (by lia)
  lia
theorem DY {t b:Int} (h:b≠0):Int.gcd (lo t b) (hi t b)=1:=by
 have h1:=Al (t:=t) h;have e:=Int.gcd_mul_right (lo t b) (g t b) (hi t b);rw[Af,xU] at e;have e2:(g t b).natAbs=Int.gcd t b:=by unfold g;simp
 rw[e2] at e;have h2:0 < Int.gcd t b:=K5 _ h;exact Nat.eq_of_mul_eq_mul_right h2 (by rw[<- e,BY])
theorem Ff (t b : Int) : lo t b * b = t * hi t b := by
  have h1 := Af t b;have h2 := xU t b
  calc lo t b * b = lo t b * (hi t b * g t b) := by rw [h2]
    _ = (lo t b * g t b) * hi t b := by rw [lJ (hi t b), <- mC]
    _ = t * hi t b := by rw [h1]
theorem qV {a b c:Int} (h:Int.gcd a b=1) (hd:a∣b*c):a∣c:=by
 have h1:a.natAbs∣b.natAbs*c.natAbs:=by rw[<- fB];exact fJ.mpr hd
 have h2:Nat.Coprime a.natAbs b.natAbs:=h;exact fJ.mp (h2.dvd_of_dvd_mul_left h1)
theorem uniq {a b c d:Int} (hb:0 < b) (hd:0 < d) (h1:Int.gcd a b=1) (h2:Int.gcd c d=1) (e:a*d=c*b):a=c/\b=d:=by
 have e1:b∣d:=by
  have:b∣a*d:=⟨c,by rw[e,lJ]⟩;exact qV (by rw[lK];exact h1) this
 have e2:d∣b:=by
  have:d∣c*b:=⟨a,by rw[<- e,lJ]⟩;exact qV (by rw[lK];exact h2) this
 have e3:b=d:=Int.dvd_antisymm (by lia) (by lia) e1 e2;subst e3;exact ⟨Nh (by lia) e,rfl⟩
theorem pK {a b:Int} (h:b≠0):a.natAbs<=(a*b).natAbs:=by
 rw[fB];exact eT _ (Int.natAbs_pos.mpr h)
theorem lo_le {t b:Int} (h:b≠0):(lo t b).natAbs<=t.natAbs:=by
 have:=pK (a:=lo t b) (b:=g t b) (by have:=Al (t:=t) h;lia);rwa [Af] at this
theorem MV {t b:Int} (h:b≠0):(hi t b).natAbs<=b.natAbs:=by
 have:=pK (a:=hi t b) (b:=g t b) (by have:=Al (t:=t) h;lia);rwa [xU] at this
def Sz (k:Nat) (x:Int):Prop:=x.natAbs < 2^k
theorem Sz.mono {j k:Nat} {x:Int} (h:Sz j x) (l:j<=k):Sz k x:=bA h (ak (by decide) l)
theorem Sz.mul {j k:Nat} {x y:Int} (h1:Sz j x) (h2:Sz k y):Sz (j+k) (x*y):=by
 unfold Sz at *
 rw[fB,cF];exact Nat.mul_lt_mul'' h1 h2
theorem Sz.neg {k:Nat} {x:Int} (h:Sz k x):Sz k (-x):=by unfold Sz at *;rw[pE];exact h
theorem Sz.le {k:Nat} {x y:Int} (h:Sz k y) (l:x.natAbs<=y.natAbs):Sz k x:=aY l h
theorem Sz.hi {k:Nat} {t b:Int} (h:Sz k b) (hb:b≠0):Sz k (hi t b):=h.le (MV hb)
end Nm
namespace L2
open PySem PySem.Spec PyProof.Rows
structure Bk (env:Env) (scope:Scope) (own capN:List Str):Prop where
 kind:scope.kind=.function
 locs:∀y∈scope.names,y.2=.local->scope.names.lookup y.1=some .local
 ownk:∀x∈own,scope.names.lookup x=some .local\/scope.names.lookup x=some .cell
 cells:∀y∈scope.names,y.2=.cell->y.1∈own/\y.1∉capN
 frees:∀y∈scope.names,y.2=.free->y.1∈capN/\y.1∉own
 capf:∀x∈capN,scope.names.lookup x=some .free
 caps:∀x∈capN,env.kindOf x=some .cell\/env.kindOf x=some .free
def Qc (scope:Scope) (own capN:List Str):Bool :=
 decide (scope.kind=.function) && scope.names.all (fun y=>decide (y.2=.local->scope.names.lookup y.1=some .local) && decide (y.2=.cell->y.1∈own/\y.1∉capN) && decide (y.2=.free->y.1∈capN/\y.1∉own)) &&
 own.all (fun x=>decide (scope.names.lookup x=some .local\/scope.names.lookup x=some .cell)) && capN.all fun x=>decide (scope.names.lookup x=some .free)
def BJ (env:Env):List Str->Bool
 | []=>true
 | x :: r=>(match env.kindOf x with | some .cell=>true | some .free=>true | _=>false) && BJ env r
theorem Eg {env:Env}:∀{capN:List Str},BJ env capN=true->∀x∈capN,env.kindOf x=some .cell\/env.kindOf x=some .free
 | [],_,_,h=>nomatch h
 | y :: r,h,x,hx=>by
  unfold BJ at h;rw[dE] at h;rcases aI.mp hx with e | hx
  ·subst e;have h1:=h.1
   split at h1
   ·rename_i e;exact .inl e
   ·rename_i e;exact .inr e
   ·cases h1
  ·exact Eg h.2 x hx
theorem Bk.of {env:Env} {scope:Scope} {own capN:List Str} (h1:Qc scope own capN=true) (h2:BJ env capN=true):Bk env scope own capN:=by
 unfold Qc at h1;rw[dE,dE,dE,qF,qF,qF] at h1;obtain ⟨⟨⟨a1,a2⟩,a3⟩,a4⟩:=h1
 have a2':∀y∈scope.names,(y.2=.local->scope.names.lookup y.1=some .local)/\(y.2=.cell->y.1∈own/\y.1∉capN)/\(y.2=.free->y.1∈capN/\y.1∉own):=fun y hy=>by
  have q:=a2 y hy;rw[dE,dE] at q;exact ⟨of_decide_eq_true q.1.1,of_decide_eq_true q.1.2,of_decide_eq_true q.2⟩
 exact ⟨of_decide_eq_true a1,fun y hy=>(a2' y hy).1,fun x hx=>of_decide_eq_true (a3 x hx),fun y hy=>(a2' y hy).2.1,fun y hy=>(a2' y hy).2.2,fun x hx=>of_decide_eq_true (a4 x hx),Eg h2⟩
def dI (env:Env):List (Str×NameKind)->List (Str×Addr)->List (Str×Addr)
 | [],acc=>acc
 | (n,k) :: r,acc=>if k == .free then dI env r ((n,(env.cells.lookup n).getD 0) :: acc) else dI env r acc
theorem iw (env:Env):∀(names:List (Str×NameKind)) (acc:List (Str×Addr)),dI env names acc=dI env names []++acc
 | [],_=>rfl
 | (n,k) :: r,acc=>by
  unfold dI
  split
  ·rw[iw env r (_ :: acc),iw env r [_],bP];rfl
  ·exact iw env r acc
theorem rz (env:Env):∀(names:List (Str×NameKind)) {x:Str} {c:Addr},(x,c)∈dI env names []->(x,NameKind.free)∈names/\c=(env.cells.lookup x).getD 0
 | [],_,_,h=>nomatch h
 | (n,k) :: r,x,c,h=>by
  unfold dI at h
  split at h
  ·rename_i hk
   have ek:k=.free:=by simpa using hk
   subst ek;rw[iw] at h;rcases ax.mp h with h | h
   ·have q:=rz env r h;exact ⟨bT _ q.1,q.2⟩
   ·have e:(x,c)=(n,(env.cells.lookup n).getD 0):=by simpa using h
    cases e;exact ⟨cX,rfl⟩
  ·have q:=rz env r h;exact ⟨bT _ q.1,q.2⟩
theorem i8 {α:Type}:∀{l:List (Str×α)} {x:Str} {c:α},(x,c)∈l->∃d,l.lookup x=some d
 | (k,v) :: r,x,c,h=>by
  rw[lG];cases hb:x == k with
  | true=>exact ⟨v,rfl⟩
  | false =>
   rcases aI.mp h with e | h
   ·cases e;simp at hb
   ·exact i8 h
theorem rA (env:Env):∀(names:List (Str×NameKind)) {x:Str},(x,NameKind.free)∈names->∃c,(x,c)∈dI env names []
 | (n,k) :: r,x,h=>by
  unfold dI;rcases aI.mp h with e | h
  ·cases e;rw[if_pos (by decide),iw];exact ⟨_,bQ _ cX⟩
  ·obtain ⟨c,q⟩:=rA env r h
   split
   ·rw[iw];exact ⟨c,jX _ q⟩
   ·exact ⟨c,q⟩
theorem Ap {scope : Scope} {env : Env} (h : ∀ y ∈ scope.names, y.2 = .free → ∃ c, env.cells.lookup y.1 = some c) : closureFor scope env = pure (dI env scope.names []) := by
  have gen : ∀ (names : List (Str × NameKind)) (acc : List (Str × Addr)) (f : Str × NameKind → List (Str × Addr) → Sem (ForInStep (List (Str × Addr)))),
      (∀ name kind cells, f (name, kind) cells = if kind == .free then (do let a <- cellOf env name; pure (.yield ((name, a) :: cells))) else pure (.yield cells)) →
      (∀ y ∈ names, y.2 = .free → ∃ c, env.cells.lookup y.1 = some c) → forIn names acc f = pure (dI env names acc) := by
    intro names
    induction names with
    | nil => intro acc f hf _; rw [BZ]; rfl
    | cons y r ih =>
      intro acc f hf hh;obtain ⟨n, k⟩ := y;rw [K4, hf];unfold dI;by_cases hk : (k == NameKind.free) = true
      · obtain ⟨c, hc⟩ := hh (n, k) cX (by simpa using hk);have hc' : env.cells.lookup n = some c := hc;have e : cellOf env n = pure c := by unfold cellOf; rw [hc']
        rw [if_pos hk, if_pos hk, e, hc'];simp only [pure_bind, Option.getD_some];exact ih _ f hf fun y hy => hh y (bT _ hy)
      · rw [if_neg hk, if_neg hk];simp only [pure_bind];exact ih _ f hf fun y hy => hh y (bT _ hy)
  simp only [closureFor];rw [gen scope.names [] _ (fun name kind cells => by cases hkc : kind == NameKind.free <;> simp [hkc]) h];rfl

theorem e8:∀(names:List (Str×NameKind)) (n:Nat) (acc:List (Str×Addr)),cellsFrom n names acc=cellsFrom n names []++acc
 | [],_,_=>rfl
 | (x,k) :: r,n,acc=>by
  unfold cellsFrom
  split
  ·rw[e8 r (n+1) (_ :: acc),e8 r (n+1) [_],bP];rfl
  ·exact e8 r n acc
theorem kM:∀(names:List (Str×NameKind)) (n:Nat) {x:Str} {c:Addr},(x,c)∈cellsFrom n names []->(x,NameKind.cell)∈names
 | [],_,_,_,h=>nomatch h
 | (y,k) :: r,n,x,c,h=>by
  unfold cellsFrom at h
  split at h
  ·rename_i hk
   have ek:k=.cell:=by simpa using hk
   subst ek;rw[e8] at h;rcases ax.mp h with h | h
   ·exact bT _ (kM r _ h)
   ·have e:(x,c)=(y,n):=by simpa using h
    cases e;exact cX
  ·exact bT _ (kM r _ h)
def xW (env:Env) (scope:Scope) (C:Addr):Env :=
 { scope:=relabel scope env,locals:=C,globals:=env.globals,cells:=cellsFrom (C+1) scope.names (dI env scope.names []),qual:=env.qual,func:=none,code:=env.code,frame:=env.frame,builtins:=env.builtins }
theorem DV {M:Model} {A:Around} {E:Value->Shared->Prop} {s:Shared} {scope:Scope} {g:Addr} {cl:List (Str×Addr)} {qual:Str} {env:Env} {Q:Env->Shared->Prop}
  (h:Q (newEnv scope s.heap.objs.size g (cellsFrom (s.heap.objs.size+1) scope.names cl) qual none .none (some env) builtinsNs) { s with heap:=pushCells (s.heap.push { cls:=.type "dict",data:=.dict #[] }) scope.names }) :
  wpAny M A (newFunctionEnv scope g cl [] qual none .none (some env)) Q E s:=by
 simp only[newFunctionEnv,Option.isSome_some,if_true];refine wpAny_bind (wpAny_alloc ?_);refine wpAny_bind (wpAny_layCells _ (fun name kind cells=>by cases hkc:kind == NameKind.cell <;> simp [hkc]) _ _ _ _ ?_);rw[show ({ s with heap:=s.heap.push { cls:=.type "dict",data:=.dict #[] } }:Shared).heap.objs.size=s.heap.objs.size+1 from Heap.size_push ..];rw[BZ];exact wpAny_bind (wpAny_pure (wpAny_pure h))
theorem wj {scope:Scope} {env:Env} {x:Str}:∀{k:NameKind},(relabel scope env).names.lookup x=some k->∃k0,scope.names.lookup x=some k0/\(k=k0\/(k0=.free/\k=.cell)):=by
 unfold relabel;show ∀{k:NameKind},(scope.names.map fun (n,k)=>if (k == NameKind.free && env.scope.kind == .function && env.kindOf n == some .cell) then (n,NameKind.cell) else (n,k)).lookup x=some k->_
 induction scope.names with
 | nil=>intro k h;cases h
 | cons y r ih =>
  intro k h;obtain ⟨n,k1⟩:=y;rw[fv,lG] at h;rw[lG];by_cases hc:(k1 == NameKind.free && env.scope.kind == .function && env.kindOf n == some .cell)=true
  ·simp only[hc,if_true] at h;cases hb:x == n with
   | true =>
    simp only[hb] at h
    have e1:k1=.free:=by
     rw[dE,dE] at hc;simpa using hc.1.1
    cases h;exact ⟨k1,rfl,.inr ⟨e1,rfl⟩⟩
   | false=>simp only[hb] at h;exact ih h
  ·have hc':(k1 == NameKind.free && env.scope.kind == .function && env.kindOf n == some .cell)=false:=by simpa using hc
   simp only[hc',iY,if_false] at h;cases hb:x == n with
   | true=>simp only[hb] at h;cases h;exact ⟨_,rfl,.inl rfl⟩
   | false=>simp only[hb] at h;exact ih h
theorem DF {scope:Scope} {env:Env} {x:Str}:scope.names.lookup x=some .free->(relabel scope env).names.lookup x=some .cell\/(relabel scope env).names.lookup x=some .free:=by
 unfold relabel;show _->(scope.names.map fun (n,k)=>if (k == NameKind.free && env.scope.kind == .function && env.kindOf n == some .cell) then (n,NameKind.cell) else (n,k)).lookup x=some .cell\/(scope.names.map fun (n,k)=>if (k == NameKind.free && env.scope.kind == .function && env.kindOf n == some .cell) then (n,NameKind.cell) else (n,k)).lookup x=some .free
 induction scope.names with
 | nil=>intro h;cases h
 | cons y r ih =>
  intro h;obtain ⟨n,k1⟩:=y;rw[lG] at h;rw[fv];by_cases hc:(k1 == NameKind.free && env.scope.kind == .function && env.kindOf n == some .cell)=true
  ·simp only[hc,if_true,lG];cases hb:x == n with
   | true=>exact .inl rfl
   | false=>rw[hb] at h;exact ih h
  ·have hc':(k1 == NameKind.free && env.scope.kind == .function && env.kindOf n == some .cell)=false:=by simpa using hc
   simp only[hc',iY,if_false,lG];cases hb:x == n with
   | true=>rw[hb] at h;cases h;exact .inr rfl
   | false=>rw[hb] at h;exact ih h
structure Bz where
 s:Shared
 H:Hp
 fp:List Addr
 C:Addr
def yI (X:Cx) (own capN:List Str) (scope:Scope) (Z:Bz):Cx where
 prog:=X.prog
 w:=X.w
 K:=X.K
 mg:=X.mg
 base:=X.base
 A:=X.A
 N:=own++capN
 s₀:=Z.s
 H₀:=Z.H
 env:=xW X.env scope Z.C
 outer:=X.stack
 stack:=X.stack
 ex:=Z.fp
 fn:=fun x=>own.contains x
 calm:=true
 pn:=[]
 xe:=fun _ _=>False
section
variable {X:Cx} {pins:List (Addr×Obj)} {σ:St} {own capN:List Str} {scope:Scope} {Z:Bz}
theorem jq (B:Bk X.env scope own capN) (I:Inv X pins σ Z.H Z.s) {x:Str} {c:Addr} (h:(xW X.env scope Z.C).cells.lookup x=some c) :
  (x∈own/\(x,c)∈cellsFrom (Z.C+1) scope.names [])\/(x∈capN/\x∉own/\X.env.cells.lookup x=some c):=by
 have h':(cellsFrom (Z.C+1) scope.names (dI X.env scope.names [])).lookup x=some c:=h;rw[e8] at h';rcases ax.mp (mem_of_lookup h') with m | m
 ·exact .inl ⟨(B.cells _ (kM _ _ m) rfl).1,m⟩
 ·obtain ⟨m1,e⟩:=rz _ _ m;obtain ⟨q1,q2⟩:=B.frees _ m1 rfl;obtain ⟨d,hd⟩:=I.ok.has x (B.caps x q1);rw[hd] at e;exact .inr ⟨q1,q2,by rw[hd,e];rfl⟩
theorem Mq (B:Bk X.env scope own capN) (I:Inv X pins σ Z.H Z.s) {x:Str} {c:Addr} (hx:x∈capN) (h:X.env.cells.lookup x=some c):(xW X.env scope Z.C).cells.lookup x=some c:=by
 have hm:(x,NameKind.free)∈scope.names:=mem_of_lookup (B.capf x hx);obtain ⟨c1,m1⟩:=rA X.env scope.names hm
 have hs:∃d,(xW X.env scope Z.C).cells.lookup x=some d:=by
  show ∃d,(cellsFrom (Z.C+1) scope.names (dI X.env scope.names [])).lookup x=some d
  rw[e8];exact i8 (bQ _ m1)
 obtain ⟨d,hd⟩:=hs;rcases jq B I hd with ⟨q,m⟩ | ⟨_,_,q⟩
 ·exact absurd hx (B.cells _ (kM _ _ m) rfl).2
 ·rw[h] at q;cases q;exact hd
theorem HZ (h:Heap) (C:Addr) (hC:h.objs.size=C+1) (names:List (Str×NameKind)):CellsOk (pushCells h names) (C+1) (cellsFrom (C+1) names []):=by
 have q:=cellsFrom_ok names h (C+1) [] ⟨fun _ _ hm=>(nomatch hm),List.Pairwise.nil⟩ (by rw[hC];exact ar _);rwa [hC] at q
theorem CZ (I:Inv X pins σ Z.H Z.s) {x:Str} {c:Addr} (h:X.env.cells.lookup x=some c):@LT.lt Nat instLTNat c Z.s.heap.objs.size:=by
 obtain ⟨v,q⟩:=I.cell x c h;exact q.lt
theorem Ox {h1:Heap} (I:Inv X pins σ Z.H Z.s) (hc:X.calm=true) (B:Bk X.env scope own capN) (hC:Z.s.heap.objs.size<=Z.C) (hcl:CellsOk h1 (Z.C+1) (cellsFrom (Z.C+1) scope.names []))
  (hf:∀b∈Z.fp,kn X pins Z.H b/\@LT.lt Nat instLTNat b Z.s.heap.objs.size):(yI X own capN scope Z).Ok:=by
 refine ⟨I.ok.mod,B.kind,I.ok.glob,I.ok.blt,hC,fun x y c h1 h2=>?_,fun x hx=>?_,fun x c hx h=>?_,fun _=>I.ok.hd hc,I.ok.frames,.inl rfl,fun b hb=>⟨?_,fun x c h=>?_⟩,I.bs,ah I.ok.bsz I.sz,fun b o e hb=>?_,fun b hb hz=>?_,I.stack,I.stkFree⟩
 ·rcases jq B I h1 with ⟨q1,m1⟩ | ⟨q1,n1,m1⟩ <;> rcases jq B I h2 with ⟨q2,m2⟩ | ⟨q2,n2,m2⟩
  ·exact name_of_addr hcl.apart m1 m2
  ·have l1:=(hcl.empty _ _ m1).2;have l2:=CZ I m2
   lia
  ·have l1:=(hcl.empty _ _ m2).2;have l2:=CZ I m1
   lia
  ·exact I.ok.inj x y c m1 m2
 ·have hx':(relabel scope X.env).names.lookup x=some .cell\/(relabel scope X.env).names.lookup x=some .free:=hx
  have hk:scope.names.lookup x=some .cell\/scope.names.lookup x=some .free:=by
   rcases hx' with h | h
   ·obtain ⟨k0,e,q | ⟨q,_⟩⟩:=wj h
    ·exact .inl (by rw[e,<- q])
    ·exact .inr (by rw[e,q])
   ·obtain ⟨k0,e,q | ⟨_,q⟩⟩:=wj h
    ·exact .inr (by rw[e,<- q])
    ·cases q
  show ∃c,(cellsFrom (Z.C+1) scope.names (dI X.env scope.names [])).lookup x=some c
  rcases hk with h | h
  ·exact ON.mp (zh scope.names (Z.C+1) _ (.inl h))
  ·obtain ⟨c,m⟩:=rA X.env scope.names (mem_of_lookup h);rw[e8];exact i8 (bQ _ m)
 ·have ho:x∈own:=by have hx':own.contains x=true:=hx;simpa using hx'
  rcases jq B I h with ⟨_,m⟩ | ⟨_,n,_⟩
  ·have:=(hcl.empty _ _ m).2;have hC':Z.s.heap.objs.size<=Z.C:=hC;show Z.s.heap.objs.size<=c
   lia
  ·exact absurd ho n
 ·intro e;have e':@Eq Nat b Z.C:=e;have:=(hf b hb).2
  lia
 ·have l:=(hf b hb).2;rcases jq B I h with ⟨_,m⟩ | ⟨_,_,m⟩
  ·intro e;have e':@Eq Nat c b:=e;have:=(hcl.empty _ _ m).2
   lia
  ·exact (hf b hb).1.2.2.2.2.1 x c m
 ·obtain ⟨_,_,_,f3,_⟩:=(hf b hb).1;rcases f3 with f3 | f3
  ·exact I.ok.noex b o e f3
  ·exact absurd (bA (Heap.lt_size e) (ah I.ok.bsz f3)) (dM _)
 ·obtain ⟨_,f1,f2,_⟩:=(hf b hb).1;rcases aI.mp (I.stkSub b hz) with e | e
  ·exact f1 e
  ·exact f2 e
def II (k:Nat) (cap:List Nat) (σ:St):St:=List.replicate k none++cap.map fun j=>(σ[j]?).join
def yD (X:Cx) (capN:List Str) (cap:List Nat):Prop:=cap.map (fun j=>X.N[j]?)=capN.map some
theorem yD.get {cap:List Nat} (h:yD X capN cap) {i:Nat} {x:Str} (e:capN[i]?=some x):∃j,cap[i]?=some j/\X.N[j]?=some x:=by
 have q:=congrArg (fun l=>l[i]?) h;simp only[aD,e,Option.map_some] at q;cases hc:cap[i]? with
 | none=>rw[hc] at q;cases q
 | some j=>rw[hc] at q;exact ⟨j,rfl,by simpa using q⟩
theorem Eh {cap:List Nat} {h':Heap} {m:Str->Option Value} (I:Inv X pins σ Z.H Z.s) (B:Bk X.env scope own capN) (hcap:yD X capN cap)
  (kc:∀x c,X.env.cells.lookup x=some c->∀v,Z.s.heap.IsCell c v->h'.IsCell c v) {i:Nat} {x:Str} {v:V} (e1:(own++capN)[i]?=some x) (e2:(II own.length cap σ)[i]?=some (some v)) :
  ∃u,RelV v u/\Look (xW X.env scope Z.C) h' m x u:=by
 have hi:own.length<=i:=by
  by_cases hi:own.length<=i
  ·exact hi
  ·exfalso
   unfold II at e2;rw[bJ (by simpa using hi),dD] at e2
   split at e2 <;> cases e2
 rw[bc hi] at e1;unfold II at e2;rw[bc (by simpa using hi),aG,aD] at e2;obtain ⟨j,hj,hN⟩:=hcap.get e1;rw[hj] at e2;have e3:(σ[j]?).join=some v:=by simpa using e2
 have e4:σ[j]?=some (some v):=by
  cases q:σ[j]? with
  | none=>rw[q] at e3;cases e3
  | some o=>rw[q] at e3;simp at e3;rw[e3]
 have hx:x∈capN:=aw e1;have hk:=B.caps x hx;obtain ⟨m0,_,hl⟩:=I.loc;obtain ⟨u,r,l⟩:=hl j x v hN e4 (.inr hk);refine ⟨u,r,.inr ⟨DF (B.capf x hx),?_⟩⟩;rcases l with ⟨hk2,_⟩ | ⟨_,c,hc,z⟩
 ·rcases hk with hk | hk
  ·rw[hk] at hk2;cases hk2
  ·rw[hk] at hk2;cases hk2
 ·exact ⟨c,Mq B I hx hc,kc x c hc _ z⟩
theorem PL (I:Inv X pins σ Z.H Z.s) {b:Addr} (h:b∈IK X.stack):@LT.lt Nat instLTNat b Z.s.heap.objs.size:=by
 obtain ⟨_,o,ho,_⟩:=I.stack.mem h;exact Heap.lt_size ho
theorem Mo {cap:List Nat} {h1:Heap} {D:Addr} {oD:Obj} {t1:Nat} (I:Inv X pins σ Z.H Z.s) (hc:X.calm=true) (B:Bk X.env scope own capN) (hcap:yD X capN cap) (hC:Z.s.heap.objs.size<=Z.C)
  (hcl:CellsOk h1 (Z.C+1) (cellsFrom (Z.C+1) scope.names [])) (hf:∀b∈Z.fp,kn X pins Z.H b/\@LT.lt Nat instLTNat b Z.s.heap.objs.size)
  (hk:∀b o,Z.s.heap.get? b=some o->h1.get? b=some o) (hn:h1.Ns Z.C fun _=>none) (hD:Z.s.heap.objs.size<=D) (hDC:D≠Z.C) (hoD:h1.get? D=some oD) (hdD:∀v,oD.data≠.cell v) :
  Inv (yI X own capN scope Z) [(D,oD)] (II own.length cap σ) Z.H { Z.s with heap:=h1,toks:=t1 }:=by
 refine ⟨Ox I hc B hC hcl hf,rfl,I.bare,Un.kept hk,⟨_,hn,fun i x v e1 e2 _=>Eh I B hcap (fun x c _ v z=>z.keeps hk) e1 e2⟩,fun x c h=>?_,I.hok.fresh hC,fun x c h=>?_,fun p hp=>?_,I.hok.kept hk,?_⟩
 ·rcases jq B I h with ⟨_,m⟩ | ⟨_,_,m⟩
  ·exact ⟨none,(hcl.empty _ _ m).1⟩
  ·obtain ⟨v,q⟩:=I.cell x c m;exact ⟨v,q.keeps hk⟩
 ·rcases jq B I h with ⟨_,m⟩ | ⟨_,_,m⟩
  ·exact I.hok.fresh (by have:=(hcl.empty _ _ m).2;lia)
  ·exact I.freeC x c m
 ·have e:p=(D,oD):=by simpa [yI] using hp
  subst e;exact ⟨hoD,I.hok.fresh hD,hDC,fun z=>dM _ (bA (PL I z) hD),hdD⟩
 ·show (II own.length cap σ).length=(own++capN).length
  have:=congrArg List.length hcap;simp only[ag] at this;unfold II;simp [this]
theorem KH {cap:List Nat} {pins':List (Addr×Obj)} {σ':St} {H':Hp} {s':Shared} (I:Inv X pins σ Z.H Z.s) (B:Bk X.env scope own capN) (hcap:yD X capN cap) (hf:∀b∈Z.fp,kn X pins Z.H b/\@LT.lt Nat instLTNat b Z.s.heap.objs.size)
  (J:Inv (yI X own capN scope Z) pins' σ' H' s'):Inv (yI X own capN scope Z) pins' (II own.length cap σ) H' s':=by
 refine ⟨J.ok,J.os,J.bare,J.base,?_,J.cell,J.free,J.freeC,J.pin,J.hok,?_⟩
 ·obtain ⟨m,hn,_⟩:=J.loc;refine ⟨m,hn,fun i x v e1 e2 _=>Eh I B hcap (fun x c hx v z=>?_) e1 e2⟩;obtain ⟨o,ho,hd⟩:=z;obtain ⟨sl,e⟩:=J.base.any ho (I.freeC x c hx) fun z=>(hf c z).1.2.2.2.2.1 x c hx rfl
  exact ⟨_,e,hd⟩
 ·show (II own.length cap σ).length=(own++capN).length
  have:=congrArg List.length hcap;simp only[ag] at this;unfold II;simp [this]
theorem Mp {σ':St} {H':Hp} {s':Shared} {D:Addr} {its:List Value} {n:Nat} {ys:List V} (I:Inv X pins σ Z.H Z.s) (hf:∀b∈Z.fp,kn X pins Z.H b/\@LT.lt Nat instLTNat b Z.s.heap.objs.size) (hD:Z.s.heap.objs.size<=D)
  (J:Inv (yI X own capN scope Z) [(D,{ cls:=.type "list",data:=.seq its.toArray n })] σ' H' s') (r:cA ys its) (hz:ys.length<=sizeLine) :
  Inv X pins σ (upd H' D (.lst ys)) s':=by
 have pD:=J.pin (D,{ cls:=.type "list",data:=.seq its.toArray n }) (by simp);have ne:∀{b:Addr} {o:Obj},Z.s.heap.get? b=some o->b≠D:=fun e z=>by subst z;exact dM _ (bA (Heap.lt_size e) hD)
 have nt:∀{b:Addr} {u:HO},H' b=some u->b≠D:=fun e z=>by rw[z,pD.2.1] at e;cases e
 refine I.call' (ch:=Z.fp) J.os ⟨J.base.keep,J.base.slot,fun b o e h hx=>?_,J.base.there,fun b xs e=>?_,fun b o u e=>?_,fun b ps e=>?_⟩ (fun b u e=>?_) J.bare fun b hb=>?_
 ·rw[br (ne e)];exact J.base.free b o e h hx
 ·have q:=J.base.tups b xs e;rw[br (nt q)];exact q
 ·have q:=J.base.frzs b o u e;rw[br (nt q)];exact q
 ·obtain ⟨more,q⟩:=J.base.tbls b ps e;exact ⟨more,by rw[br (nt q)];exact q⟩
 ·by_cases hb:b=D
  ·subst hb;rw[aF] at e;cases e;exact ⟨hz,its,n,r,pD.1⟩
  ·rw[br hb] at e;exact (J.hok b u e).stay (fun c v _ q=>q) (fun c q=>by rw[br (nt q)];exact q) fun c xs q=>by rw[br (nt q)];exact q
 ·obtain ⟨_,f1,_,f3,f4,f5⟩:=(hf b hb).1;exact ⟨f3,f1,f4,f5⟩
end
theorem Nq {α:Type} {t:Sem α} {Q Q':α->Shared->Prop} {M:Model} {A:Around} {E:Value->Shared->Prop} {s:Shared} (h:wpAny M A t Q (fun _ _=>False) s) (hQ:∀a s,Q a s->Q' a s):wpAny M A t Q' E s :=
 wpAny_mono h hQ fun _ _ z=>False.elim z
theorem CW {prog : Program} {w : World} {A : Around} {R : Result → Shared → Prop} {s : Shared} {elt target iter : Expr} {ifs : List Expr} {scope : Scope} {pos : Pos} {it acc : Value} {env : Env} (I : Nat → Shared → Prop)
    (turn : ∀ (E : Value → Shared → Prop) n s, I n s → wpAny (model prog w) A (pyNext it) (fun r s₁ => match r with
      | none => R (.ok .next) s₁
      | some v => wpAny (model prog w) A (letOwnedTupleGo target it v) (fun _ s₂ => wpAny (model prog w) A (assign target env v) (fun _ s₃ =>
          wpAny (model prog w) A (forIn ifs true fun c r => if r = true then do let ok <- isTrue c env (eval c env); pure (ForInStep.yield ok) else pure (ForInStep.yield r)) (fun ok s₄ =>
            if ok = true then wpAny (model prog w) A (eval elt env) (fun x s₅ => wpAny (model prog w) A (call (.builtin "list.append") [acc, x]) (fun _ s₆ => ∃ m, m < n /\ I m s₆) E s₅) E s₄
            else ∃ m, m < n /\ I m s₄) E s₃) E s₂) E s₁) E s)
    (n : Nat) (h : I n s) : codeAny (model prog w) A (.compLoop (.ListComp elt [⟨target, iter, ifs, 0⟩] scope pos) 0 it acc env) R s := by
  refine codeAny_loop rfl I (fun n s hI => ?_) n h;show wpAny _ A ((compTurn (.ListComp elt [⟨target, iter, ifs, 0⟩] scope pos) 0 it acc env).onRaise (fun x => do noteFrame x env; theTreesLotGoes x)) _ _ s
  refine wpAny_noted ?_;rw [compTurn_list];refine wpAny_bind (wpAny_standAt (wpAny_bind (wpAny_mono (turn _ n s hI) (fun r s₁ h₁ => ?_) fun _ _ h' => h')));cases r with
  | none => exact wpAny_pure h₁
  | some v =>
    refine wpAny_bind (wpAny_mono h₁ (fun _ s₂ h₂ => wpAny_bind (wpAny_mono h₂ (fun _ s₃ h₃ => wpAny_bind (wpAny_mono h₃ (fun ok s₄ h₄ => ?_) fun _ _ h' => h')) fun _ _ h' => h')) fun _ _ h' => h');cases ok with
    | false => exact wpAny_pure ⟨rfl, h₄⟩
    | true =>
      exact wpAny_bind (wpAny_bind (wpAny_mono h₄ (fun x s₅ h₅ => wpAny_bind (wpAny_mono h₅ (fun _ s₆ h₆ => wpAny_pure (wpAny_pure ⟨rfl, h₆⟩)) fun _ _ h' => h')) fun _ _ h' => h'))

def PF (X : Cx) (ifs : List Expr) (t : TT) : Prop :=
  ∀ (pins : List (Addr × Obj)) (s : Shared) (σ : St) (H : Hp) (Q : Bool → Hp → Prop), Inv X pins σ H s → t σ H Q →
    wpAny (model X.prog X.w) X.A (forIn ifs true fun c r => if r = true then do let ok <- isTrue c X.env (eval c X.env); pure (ForInStep.yield ok) else pure (ForInStep.yield r)) (TP X pins σ Q) X.xe s
def OR:TT:=fun _ H Q=>Q true H
theorem cJ {X:Cx}:PF X [] OR:=fun _ _ _ H _ I h=>wpAny_tests_nil ⟨H,I,h⟩
theorem EY {X:Cx} {c:Expr} {t:TT} (h:PT X c t):PF X [c] t:=fun pins s σ H Q I hw=>wpAny_tests_one (h pins s σ H Q I hw)
def uS (σ₀:St) (g:TG) (tf:TT) (te:TE) (x:V) (H:Hp) (NY:V->Hp->Prop) (NN:Hp->Prop):Prop :=
 g x σ₀ H fun σ2 H2=>tf σ2 H2 fun b H3=>if b=true then te σ2 H3 NY else NN H3
def vz (J:It) (σ₀:St) (g:TG) (tf:TT) (te:TE) (Q:VK) (H1:Hp):Prop :=
 ∃W:Nat->Nat->List V->Hp->Prop,(∃m,W 0 m [] H1)/\∀i m ys H,W i m ys H →
  (J.stop i H/\ys.length<=sizeLine/\∀p,H p=none->Q (.ref p) (upd H p (.lst ys))) \/
  (J.go i H/\ys.length < sizeLine/\∃(NY:V->Hp->Prop) (NN:Hp->Prop),(∀y H',NY y H'->∃m',m' < m/\W (i+1) m' (ys++[y]) H')/\(∀H',NN H'->∃m',m' < m/\W (i+1) m' ys H') /\
   ∀x H',J.yld i H x H'->uS σ₀ g tf te x H' NY NN)
def Dl (wi:TI) (k:Nat) (cap:List Nat) (g:TG) (tf:TT) (te:TE):TE:=fun σ H Q=>wi σ H fun J H1=>vz J (II k cap σ) g tf te Q H1
abbrev lobj (its:List Value) (n:Nat):Obj:={ cls:=.type "list",data:=.seq its.toArray n }
section
variable {X:Cx} {own capN:List Str} {cap:List Nat} {scope:Scope} {elt tg iter:Expr} {ifs:List Expr} {pos:Pos} {wi:TI} {g:TG} {tf:TT} {te:TE}
theorem BH {use:Option (Value->Sem Unit)} {Qe:Value->Shared->Prop} {fpos:Pos} (hc:X.calm=true) (B:Bk X.env scope own capN) (hcap:yD X capN cap)
  (hi:PI X tg iter wi) (hg:∀Z,PG (yI X own capN scope Z) tg g) (hf:∀Z,PF (yI X own capN scope Z) ifs tf) (he:∀Z,PE (yI X own capN scope Z) elt te)
  (hs:∀x,foldedSetIterable iter X.env x=pure x) {pins:List (Addr×Obj)} {s:Shared} {σ:St} {H:Hp} {Q:VK} (I:Inv X pins σ H s) (h:Dl wi own.length cap g tf te σ H Q)
  (fin:∀(D C:Addr) (s':Shared) (H':Hp),Inv X pins σ H' s'->kn X pins H' C->(∃m,s'.heap.Ns C m)->Q (.ref D) H'->compPost (model X.prog X.w) X.A X.xe use Qe (.ref D) C (.ok .next) s') :
  wpAny (model X.prog X.w) X.A (comprehension (.ListComp elt [⟨tg,iter,ifs,0⟩] scope pos) scope X.env fpos (newList []) false (eval iter X.env) use) Qe X.xe s:=by
 refine wpAny_comprehension_free (use:=use) rfl hs (Ap fun y hy hk=>I.ok.has y.1 (B.caps _ (B.frees y hy hk).1)) B.kind B.locs ?_;refine fL (hi pins s σ H _ I h) fun v s1 h1=>fL h1 fun itv s2 h2=>?_
 obtain ⟨it,fp,tn,J,H2,e,I2,T,st2,f2,W,⟨m0,w0⟩,turn⟩:=h2;subst e;have hfp:∀b∈fp,kn X pins H2 b/\@LT.lt Nat instLTNat b s2.heap.objs.size:=fun b hb=>⟨f2 b hb,let ⟨_,e,_⟩:=T.obj _ _ st2 b hb;Heap.lt_size e⟩
 refine wpAny_newObj_type (DV ?_) (aX _);have es:(s2.heap.push { cls:=.type "list",data:=.seq ([]:List Value).toArray }).objs.size=s2.heap.objs.size+1:=Heap.size_push ..
 show codeAny _ _ (.compStart _ 0 (.ref it) (.ref s2.heap.objs.size) { newEnv scope (s2.heap.push { cls:=.type "list",data:=.seq ([]:List Value).toArray }).objs.size X.env.globals (cellsFrom ((s2.heap.push { cls:=.type "list",data:=.seq ([]:List Value).toArray }).objs.size+1) scope.names (dI X.env scope.names [])) X.env.qual none .none (some X.env) builtinsNs with scope:=relabel scope X.env })
  (compPost (model X.prog X.w) X.A X.xe use Qe (.ref s2.heap.objs.size) (s2.heap.push { cls:=.type "list",data:=.seq ([]:List Value).toArray }).objs.size)
  { s2 with heap:=pushCells ((s2.heap.push { cls:=.type "list",data:=.seq ([]:List Value).toArray }).push { cls:=.type "dict",data:=.dict #[] }) scope.names }
 have hk1:∀b o,(s2.heap.push { cls:=.type "list",data:=.seq ([]:List Value).toArray }).get? b=some o->(pushCells ((s2.heap.push { cls:=.type "list",data:=.seq ([]:List Value).toArray }).push { cls:=.type "dict",data:=.dict #[] }) scope.names).get? b=some o :=
  fun b o e=>pushCells_keeps _ _ _ _ (Heap.get?_push_of_some _ e)
 have hk:∀b o,s2.heap.get? b=some o->(pushCells ((s2.heap.push { cls:=.type "list",data:=.seq ([]:List Value).toArray }).push { cls:=.type "dict",data:=.dict #[] }) scope.names).get? b=some o:=fun b o e=>hk1 b o (Heap.get?_push_of_some _ e)
 have hoD:=hk1 s2.heap.objs.size _ (Heap.get?_push_size s2.heap (o:={ cls:=.type "list",data:=.seq ([]:List Value).toArray }) rfl);have hn:=(Heap.Ns.new (s2.heap.push { cls:=.type "list",data:=.seq ([]:List Value).toArray }) (.type "dict")).keeps (pushCells_keeps scope.names _);have hcl:=HZ ((s2.heap.push { cls:=.type "list",data:=.seq ([]:List Value).toArray }).push { cls:=.type "dict",data:=.dict #[] }) (s2.heap.objs.size+1) (by rw[Heap.size_push,es]) scope.names;rw[es] at hn ⊢;generalize pushCells ((s2.heap.push { cls:=.type "list",data:=.seq ([]:List Value).toArray }).push { cls:=.type "dict",data:=.dict #[] }) scope.names=h3 at hk hoD hn hcl ⊢;have Z:Bz:=⟨s2,H2,fp,s2.heap.objs.size+1⟩
 have I3:Inv (yI X own capN scope ⟨s2,H2,fp,s2.heap.objs.size+1⟩) [(s2.heap.objs.size,lobj [] 0)] (II own.length cap σ) H2 { s2 with heap:=h3 } :=
  Mo (Z:=⟨s2,H2,fp,s2.heap.objs.size+1⟩) (t1:=s2.toks) I2 hc B hcap (sF _) hcl hfp hk hn (ar _) (bW (eB _)) hoD (fun v z=>nomatch z)
 have st3:tn 0 h3:=T.keep _ _ _ st2 fun b _ o e=>hk b o e
 have loop:codeAny (model X.prog X.w) X.A (.compLoop (.ListComp elt [⟨tg,iter,ifs,0⟩] scope pos) 0 (.ref it) (.ref s2.heap.objs.size) (xW X.env scope (s2.heap.objs.size+1))) (compPost (model X.prog X.w) X.A X.xe use Qe (.ref s2.heap.objs.size) (s2.heap.objs.size+1)) { s2 with heap:=h3 }:=by
  refine CW (fun m s'=>∃i ys σ' H' its n,Inv (yI X own capN scope ⟨s2,H2,fp,s2.heap.objs.size+1⟩) [(s2.heap.objs.size,lobj its n)] σ' H' s'/\tn i s'.heap/\(∀b∈fp,H' b=none)/\cA ys its/\W i m ys H') ?_ m0
   ⟨0,[],_,H2,[],0,I3,st3,fun b hb=>(f2 b hb).1,.nil,w0⟩
  rintro E n s4 ⟨i,ys,σ4,H4,its,k,I4,st4,fr4,rv,w4⟩
  have fpo:∀{pp:List (Addr×Obj)} {H':Hp},(∀p∈pp,p.1=s2.heap.objs.size)->(∀b∈fp,H' b=none)->∀b∈fp,kn (yI X own capN scope ⟨s2,H2,fp,s2.heap.objs.size+1⟩) pp H' b:=fun {pp H'} hpp hn b hb=>by
   obtain ⟨e1,e2⟩:=I4.ok.exf b hb;refine ⟨hn b hb,e1,I4.ok.exfs b hb,.inl hb,e2,fun p hp=>?_⟩;have hp':p∈pp:=by simpa [yI] using hp
   have l:=(hfp b hb).2;rw[hpp p hp'];exact fun z=>dM _ (by rw[<- z] at l;exact l)
  have pinD:∀{its:List Value} {n:Nat},∀p∈[(s2.heap.objs.size,lobj its n)],p.1=s2.heap.objs.size:=fun p hp=>by simp at hp;rw[hp]
  rcases turn i n ys H4 w4 with ⟨stop,hz,q⟩ | ⟨go,hlt,NY,NN,hNY,hNN,step⟩
  ·refine fL (T.done (yI X own capN scope ⟨s2,H2,fp,s2.heap.objs.size+1⟩) rfl rfl rfl rfl i _ s4 σ4 H4 E I4 (fpo pinD fr4) st4 stop) fun r s5 ⟨hr,I5⟩=>?_
   subst hr;have pD:=I5.pin (s2.heap.objs.size,lobj its k) (by simp);have I6:=Mp (Z:=⟨s2,H2,fp,s2.heap.objs.size+1⟩) I2 hfp (ar _) I5 rv hz
   have hC:upd H4 s2.heap.objs.size (.lst ys) (s2.heap.objs.size+1)=none:=by
    rw[br (GV (eB _))];exact I5.free
   obtain ⟨m,hm,_⟩:=I5.loc;exact fin _ _ s5 _ I6 (I2.fpOk (sF _) hC) ⟨m,hm⟩ (q _ pD.2.1)
  ·refine fL (T.item (yI X own capN scope ⟨s2,H2,fp,s2.heap.objs.size+1⟩) rfl rfl rfl rfl i _ s4 σ4 H4 E I4 (fpo pinD fr4) st4 go) fun r s5 ⟨u,hr,h5⟩=>?_
   subst hr;refine fL h5 fun _ s6 ⟨x,H6,I6,r6,y6,st6,fr6⟩=>?_
   have I6':=(KH (Z:=⟨s2,H2,fp,s2.heap.objs.size+1⟩) I2 B hcap hfp I6).pinned (fpo pinD fr6) (T.obj _ _ st6)
   have back:∀{σ7:St} {H7:Hp} {s7:Shared},Inv (yI X own capN scope ⟨s2,H2,fp,s2.heap.objs.size+1⟩) ([(s2.heap.objs.size,lobj its k)]++zN fp s6.heap) σ7 H7 s7 →
     Inv (yI X own capN scope ⟨s2,H2,fp,s2.heap.objs.size+1⟩) [(s2.heap.objs.size,lobj its k)] σ7 H7 s7/\tn (i+1) s7.heap/\∀b∈fp,H7 b=none:=fun {σ7 H7 s7} I7=>by
    refine ⟨I7.unpinned,T.keep _ _ _ st6 fun b hb o e=>(I7.pin (b,o) (bQ _ (bQ _ (qU hb e)))).1,fun b hb=>?_⟩;obtain ⟨o,e,d⟩:=T.obj _ _ st6 b hb;exact (I7.pin (b,o) (bQ _ (bQ _ (qU hb e)))).2.1
   refine Nq (hg _ _ s6 _ H6 x u _ I6' r6 (step x H6 y6)) fun _ s7 ⟨σ7,H7,I7,q7⟩=>?_
   refine Nq (hf _ _ s7 σ7 H7 _ I7 q7) fun ok s8 ⟨H8,I8,q8⟩=>?_
   cases ok with
   | false =>
    rw[if_neg aS] at q8 ⊢;obtain ⟨m',hm,w8⟩:=hNN H8 q8;obtain ⟨J1,J2,J3⟩:=back I8;exact ⟨m',hm,i+1,ys,σ7,H8,its,k,J1,J2,J3,rv,w8⟩
   | true =>
    rw[if_pos rfl] at q8 ⊢;refine Nq (he _ _ s8 σ7 H8 _ I8 q8) fun z s9 ⟨y,H9,I9,r9,q9⟩=>?_
    obtain ⟨J1,J2,J3⟩:=back I9;obtain ⟨m',hm,w9⟩:=hNY y H9 q9;have pD:=J1.pin (s2.heap.objs.size,lobj its k) (by simp);have hl:=rv.length;refine call_meets F.slot_list_append ⟨_,pD.1,rfl⟩ F.entry_list_append (F.args_list_append_2 _ _) (PySem.list_append s2.heap.objs.size its.toArray k z (by rw[aL];lia)) ⟨pD.1,?_⟩;have e9:=lF pD.1 (fun a=>a.push z);have e9':(its.toArray.push z)=(its++[z]).toArray:=by simp
    rw[e9'] at e9;obtain ⟨n',e9⟩:∃n',(s9.heap.update s2.heap.objs.size (Obj.mapSeq fun a=>a.push z)).get? s2.heap.objs.size=some (lobj (its++[z]) n'):=⟨_,e9⟩
    have J4:Inv (yI X own capN scope ⟨s2,H2,fp,s2.heap.objs.size+1⟩) [] σ7 H9 { s9 with heap:=s9.heap.update s2.heap.objs.size (Obj.mapSeq fun a=>a.push z),toks:=s9.toks } :=
     (J1.pins_of (pins':=[]) fun p hp=>nomatch hp).turned (fun b o hb e=>(Heap.get?_update_other s9.heap _ (Ne.symm hb)).trans e) pD.2.1 pD.2.2.1 (.inr (ar _)) (fun x c hx z=>by
      rcases jq (Z:=⟨s2,H2,fp,s2.heap.objs.size+1⟩) B I2 hx with ⟨_,m⟩ | ⟨_,_,m⟩
      ·have:=(hcl.empty _ _ m).2;have z':@Eq Nat c s2.heap.objs.size:=z
       lia
      ·have:=CZ (Z:=⟨s2,H2,fp,s2.heap.objs.size+1⟩) I2 m;rw[z] at this;exact dM _ this) fun p hp=>by simp [yI] at hp
    have nfp:∀b∈fp,b≠s2.heap.objs.size:=fun b hb z=>by have:=(hfp b hb).2;rw[z] at this;exact dM _ this
    refine ⟨m',hm,i+1,ys++[y],σ7,H9,its++[z],n',J4.pins_of fun p hp=>?_,T.keep _ _ _ J2 fun b hb o e=>(Heap.get?_update_other s9.heap _ (Ne.symm (nfp b hb))).trans e,J3,rv.append (.cons r9 .nil),w9⟩;have ep:p=(s2.heap.objs.size,lobj (its++[z]) n'):=by simpa using hp
    rw[ep];exact ⟨e9,pD.2.1,pD.2.2.1,pD.2.2.2.1,fun v z=>nomatch z⟩
 exact codeAny_compStart_list loop (T.self _ _ _ _ _ st3 loop)
theorem cE (own capN:List Str) (cap:List Nat) (hi:PI X tg iter wi) (hg:∀Z,PG (yI X own capN scope Z) tg g) (hf:∀Z,PF (yI X own capN scope Z) ifs tf) (he:∀Z,PE (yI X own capN scope Z) elt te)
  (h1:Qc scope own capN=true:=by decide +kernel) (h2:BJ X.env capN=true:=by rfl) (hcap:yD X capN cap:=by rfl) (hc:X.calm=true:=by rfl) (hs:∀x,foldedSetIterable iter X.env x=pure x:=by intro _;rfl) :
  PE X (.ListComp elt [⟨tg,iter,ifs,0⟩] scope pos) (Dl wi own.length cap g tf te):=by
 intro pins s σ H Q I h;rw[eval_ListComp];refine BH (use:=none) hc (Bk.of h1 h2) hcap hi hg hf he hs I h fun D C s' H' I' fC hm q=>?_
 obtain ⟨m,hm⟩:=hm;refine ⟨m,hm,fun h' hs'=>?_⟩;obtain ⟨f0,f1,f2,f3,f4,f5⟩:=fC;exact ⟨.ref D,H',I'.turned (t':=s'.toks) (fun b o hb e=>(hs'.2 b hb).trans e) f0 f1 f3 f4 f5,rfl,q⟩
theorem ky (i:Nat) (own capN:List Str) (cap:List Nat) {x:Str} {pos' spos:Pos} (hN:X.N.Nodup) (hi':X.N[i]?=some x) (hx:X.env.scope.names.lookup x=some .local) (hi:PI X tg iter wi) (hg:∀Z,PG (yI X own capN scope Z) tg g) (hf:∀Z,PF (yI X own capN scope Z) ifs tf) (he:∀Z,PE (yI X own capN scope Z) elt te)
  (h1:Qc scope own capN=true:=by decide +kernel) (h2:BJ X.env capN=true:=by rfl) (hcap:yD X capN cap:=by rfl) (hc:X.calm=true:=by rfl) (hs:∀x,foldedSetIterable iter X.env x=pure x:=by intro _;rfl)
  (hsw:swapsWith (.ListComp elt [⟨tg,iter,ifs,0⟩] scope pos) (some (.Name x pos')) spos.line X.env=pure true:=by rfl) :
  PS X (.Assign [.Name x pos'] (.ListComp elt [⟨tg,iter,ifs,0⟩] scope pos) spos) (La (Dl wi own.length cap g tf te) (Gr i)):=by
 intro pins s σ H D I h;rw[exec_Assign_Name_used _ _ _ _ hsw];refine wpAny_bind (wpAny_standAt (wpAny_bind ?_));rw[arm_evalThenUse_ListComp];refine wpAny_bind (BH (Q:=fun v H1=>D.nx (σ.set i (some v)) H1) (use:=some _) hc (Bk.of h1 h2) hcap hi hg hf he hs I h fun L C s' H' I' fC hm q=>?_);obtain ⟨m,hm⟩:=hm;obtain ⟨f0,f1,f2,f3,f4,f5⟩:=fC;refine wpAny_assign_Name (Be I' hN hi' (.inl hx) (v:=.ref L) rfl (fun s'' I'' ⟨a,sb,ha⟩=>?_) (.inr hx))
 have hCa:C≠a:=by
  rcases ha with e | e
  ·rw[e];exact f1
  ·exact (f4 x a e).symm
 refine ⟨m,hm.at' fun o e=>(sb.2 C hCa).trans e,fun h' hs'=>?_⟩;have I3:=I''.turned (h':=h') (t':=s''.toks) (fun b o hb e=>(hs'.2 b hb).trans e) f0 f1 f3 f4 f5;exact wpAny_pure (wpAny_pure ⟨_,H',I3,q⟩)
end
section
variable {K:PySem.W.Frag} {a:Addr} {xs:List V} {g:TG} {tf:TT} {te:TE} {Q:VK} {σ₀:St} {H:Hp}
theorem ft (Pv:Nat->List V->Hp->Prop) (hz:xs.length<=sizeLine) (h0:Pv 0 [] H) (hl:∀i ys H,i<=xs.length->Pv i ys H->bM K H a xs)
  (hs:∀i x ys H,xs[i]?=some x->ys.length<=i->Pv i ys H->uS σ₀ g tf te x H (fun y H'=>Pv (i+1) (ys++[y]) H') (fun H'=>Pv (i+1) ys H'))
  (hd:∀ys H,ys.length<=xs.length->Pv xs.length ys H->∀p,H p=none->Q (.ref p) (upd H p (.lst ys))):vz (Na K a) σ₀ g tf te Q H:=by
 refine ⟨fun i m ys H=>m=xs.length - i/\i<=xs.length/\ys.length<=i/\Pv i ys H,⟨xs.length,by simp,aX _,aX _,h0⟩,?_⟩;rintro i m ys H ⟨rfl,hi,hy,p⟩;have q:=hl i ys H hi p;by_cases hlt:i < xs.length
 ·refine .inr ⟨⟨xs,xs[i],q,by simp [hlt]⟩,by lia,fun y H'=>Pv (i+1) (ys++[y]) H',fun H'=>Pv (i+1) ys H',fun y H' p'=>⟨xs.length - (i+1),by lia,rfl,hlt,by rw[ai,aU];lia,p'⟩,fun H' p'=>⟨xs.length - (i+1),by lia,rfl,hlt,by lia,p'⟩,fun x H' y=>?_⟩;obtain ⟨e,y⟩:=y;subst e;exact hs i x ys _ (y xs q) hy p
 ·have e:i=xs.length:=by lia
  subst e;exact .inl ⟨⟨xs,q,ar _⟩,by lia,hd ys H hy p⟩
theorem rn {lo:Int} {n:Nat} (Pv:Nat->List V->Hp->Prop) (hz:n<=sizeLine) (h0:Pv 0 [] H)
  (hs:∀i ys H,i < n->ys.length<=i->Pv i ys H->uS σ₀ g tf te (.int (lo+i)) H (fun y H'=>Pv (i+1) (ys++[y]) H') (fun H'=>Pv (i+1) ys H'))
  (hd:∀ys H,ys.length<=n->Pv n ys H->∀p,H p=none->Q (.ref p) (upd H p (.lst ys))):vz (Ep lo n) σ₀ g tf te Q H:=by
 refine ⟨fun i m ys H=>m=n - i/\i<=n/\ys.length<=i/\Pv i ys H,⟨n,by simp,aX _,aX _,h0⟩,?_⟩;rintro i m ys H ⟨rfl,hi,hy,p⟩;by_cases hlt:i < n
 ·refine .inr ⟨hlt,by lia,fun y H'=>Pv (i+1) (ys++[y]) H',fun H'=>Pv (i+1) ys H',fun y H' p'=>⟨n - (i+1),by lia,rfl,hlt,by rw[ai,aU];lia,p'⟩,fun H' p'=>⟨n - (i+1),by lia,rfl,hlt,by lia,p'⟩,fun x H' y=>?_⟩;obtain ⟨e,y⟩:=y;subst e y;exact hs i ys _ hlt hy p
 ·have e:i=n:=by lia
  subst e;exact .inl ⟨ar _,by lia,hd ys H hy p⟩
end
open Nm
def fA (i j:Int):Prop:=OE i j\/∃m n,Sz m i/\Sz n j/\m+n<=1000000
def sD (i j:Int):Prop:=j≠0/\Sz 8999 j
theorem Ar {k:Nat} {i:Int} (h:Sz k i):Builtin.Int.intBits i<=k:=by
 unfold Builtin.Int.intBits;by_cases e:i=0
 ·subst e;simp
 ·have e':(i == 0)=false:=by simpa using e
  rw[e'];have hn:i.natAbs≠0:=by lia
  have:=(Nat.log2_lt hn).mpr h;simp only[iY,if_false]
  lia
theorem fA.ok {i j:Int} (h:fA i j):IntMulOk i j:=by
 rcases h with h | ⟨m,n,h1,h2,h3⟩
 ·exact h.ok
 ·have e:(2:Nat)^20=1048576:=by decide
  exact .of_bits (by have:=Ar h1;lia) (by have:=Ar h2;lia)
section
variable {X:Cx} {a b:Expr} {ta tb:TE} {pos:Pos}
theorem cN:yc X (binaryOp .Mult) (rI fA fun i j=>.int (i*j)):=Qa fun _ _ _ _ _ _ _ hc q=>mul_int q hc.ok
theorem jG:yc X (binaryOp .FloorDiv) (rI sD fun i j=>.int (i.fdiv j)):=Qa fun i j _ _ _ _ _ hc q=>by
 refine floordiv_int hc.1 q (.inl (PyProof.noPylong_of_log2 ?_));have hn:j.natAbs≠0:=by have:=hc.1;lia
 have:=(Nat.log2_lt hn).mpr hc.2
 lia
def OT (t u:TS):TS:=fun D σ H=>∃N:St->Hp->Prop,t { D with nx:=N } σ H/\∀σ' H',N σ' H'->u D σ' H'
theorem ij {st:Stmt} {rest:List Stmt} {t u:TS} (h1:PS X st t) (h2:Fw X rest u):Fw X (st :: rest) (OT t u):=by
 intro pins s σ H D I h;obtain ⟨N,h,k⟩:=h;refine wpAny_execs_cons (fL (h1 pins s σ H { D with nx:=N } I h) fun f s1 q=>?_);cases f with
 | next =>
  obtain ⟨σ',H',I',q⟩:=q;exact h2 pins s1 σ' H' D I' (k _ _ q)
 | ret v=>exact q
 | brk=>exact q
 | cont=>exact q
def MI (K:PySem.W.Frag):V->V->Hp->VK->Prop:=fun o i H Q=>∃p xs k v,o=.ref p/\i=.int k/\bM K H p xs/\Fo xs k=some v/\Q v H
theorem Ki:PU X (MI X.K):=by
 intro pins s σ H o i ov iv Q I ro ri h;obtain ⟨p,xs,k,z,rfl,rfl,hq,he,q⟩:=h;cases ro;obtain ⟨t,rfl⟩:=ri;obtain ⟨its,r,pl,hz⟩:=I.list hq;obtain ⟨j,h1,h2,h3,h4,h5⟩:=C2 he;obtain ⟨w,ew,rw'⟩:=r.get h2;have hl:=r.length;have hn:=Ag;have fin:EP X pins σ Q w s:=⟨z,H,I,rw',q⟩;by_cases h0:0<=k
 ·have hj:k.toNat=j:=by
   rw[seqIndex_of h0 h5] at h1;exact b7 h1
  exact wpAny_getItem_list pl.isList h0 (by lia) (by rw[hj];simpa using ew) fin
 ·have hj:(k+(its.toArray.size:Int)).toNat=j:=by
   rw[seqIndex_neg (by lia) h4] at h1;rw[aL,<- hl];exact b7 h1
  exact wpAny_getItem_list_neg pl.isList (by lia) (by rw[aL] <;> lia) (by lia) (by rw[hj];simpa using ew) fin
def HS (K:PySem.W.Frag) (T:String):V->Hp->VK->Prop:=fun x H Q=>∃t b,ya K H x t/\PySem.W.kitOne K t (.type T)=some b/\Q (.bl b) H
theorem Ct {c:Str} {T:String} {p p2:Pos} (hg:Gl X "isinstance") (hm:X.mg "isinstance"=none) (hb:bootBuiltins c=some (.type T)) (hmc:X.mg c=none) (ha:PE X a ta) (hgc:Gl X c:=by rfl) (hn:c≠"__name__":=by decide)
  (hd:(c == ("__debug__":Str))=false:=by decide) (he:starEach [a,.Name c p2] X.env=[(false,eval a X.env),(false,eval (.Name c p2) X.env)]:=by rfl)
  (hpl:(backTo pos (starEach [.Name c p2] X.env)).any (·.1)=false:=by rfl) (he2:starEach [.Name c p2] X.env=[(false,eval (.Name c p2) X.env)]:=by rfl):PE X (.Call (.Name "isinstance" p) [a,.Name c p2] [] pos) (P8 (HS X.K T) ta):=by
 intro pins s σ H Q I h;refine wpAny_Call_Name_kw (ki I hg hm PyProof.Rows.boot_isinstance ?_);have hA:PA X [a,.Name c p2] (sN ta (sN (tC (.ty T)) Ez)):=ae ha (ae (FR hgc hmc hb rfl hn hd) aj he2) (by rw[he,he2])
 have hq:sN ta (sN (tC (.ty T)) Ez) σ H (fun vs H1=>∃x,vs=[x,.ty T]/\HS X.K T x H1 Q):=by
  show ta σ H fun x H1=>∃x',[x,V.ty T]=[x',V.ty T]/\HS X.K T x' H1 Q
  have e:(fun x H1=>∃x',[x,V.ty T]=[x',V.ty T]/\HS X.K T x' H1 Q)=fun x H1=>HS X.K T x H1 Q:=by
   funext x H1;apply propext;constructor
   ·rintro ⟨x',e,q⟩;cases e;exact q
   ·intro q;exact ⟨x,rfl,q⟩
  rw[e];exact h
 refine PyProof.Rows.callWith_builtin1 (fL (hA pos pins s σ H _ I hq) fun us s1 ⟨vs,H1,I1,r1,x,e,q1⟩=>?_) (by rw[he,he2]) hpl;subst e;obtain ⟨u,w',rfl,ru,rt⟩:=vals2 r1;cases rt;obtain ⟨t,bb,ty,ek,q⟩:=q1;exact BA I1 ru ty ek fun tk=>⟨.bl bb,H1,I1.tok tk,rfl,q⟩
end
structure Kind (α:Type) [DecidableEq α] where
 R:PySem.W.Frag->Hp->V->α->Prop
 d:Nat
 inj:∀{X:Cx} {pins:List (Addr×Obj)} {σ:St} {H:Hp} {s:Shared} {x:V} {a b:α},Inv X pins σ H s->R X.K H x a->R X.K H x b->a=b
 rc:∀{X:Cx} {pins:List (Addr×Obj)} {σ:St} {H:Hp} {s:Shared} {x y:V} {v u:Value} {a b:α} {A:Around},Inv X pins σ H s->RelV x v->RelV y u->R X.K H x a->R X.K H y b->A.units+d < cLine->SeqAt.RcAt A s v u (decide (a=b))
 ne:∀{X:Cx} {pins:List (Addr×Obj)} {σ:St} {H:Hp} {s:Shared} {x y:V} {v u:Value} {a b:α} {A:Around},Inv X pins σ H s->RelV x v->RelV y u->R X.K H x a->R X.K H y b->A.units+d < cLine->SeqAt.RcNeAt A s v u (!decide (a=b))
 eq:∀{X:Cx} {pins:List (Addr×Obj)} {σ:St} {H:Hp} {s:Shared} {x y:V} {v u:Value} {a b:α} {A:Around},Inv X pins σ H s->RelV x v->RelV y u->R X.K H x a->R X.K H y b->A.units+d < cLine->SeqAt.EqAt A s v u (decide (a=b))
def Qs:Kind Int where
 R:=fun _ _ x i=>x=.int i
 d:=0
 inj:=fun _ h1 h2=>by rw[h1] at h2;cases h2;rfl
 rc:=fun {X pins σ H s x y v u a b A} I rx ry h1 h2 _=>by
  subst h1 h2;obtain ⟨t,rfl⟩:=rx;obtain ⟨t',rfl⟩:=ry;have q:=SeqAt.RcAt.int_int (A:=A) (s:=s) a t b t';rwa [fK] at q
 ne:=fun {X pins σ H s x y v u a b A} I rx ry h1 h2 _=>by
  subst h1 h2;obtain ⟨t,rfl⟩:=rx;obtain ⟨t',rfl⟩:=ry;have q:=SeqAt.RcNeAt.int_int (A:=A) (s:=s) a t b t';rwa [fK] at q
 eq:=fun {X pins σ H s x y v u a b A} I rx ry h1 h2 _=>by
  subst h1 h2;obtain ⟨t,rfl⟩:=rx;obtain ⟨t',rfl⟩:=ry;have q:=SeqAt.EqAt.int_int (A:=A) (s:=s) a t b t';rwa [fK] at q
theorem i5 {α β:Type} {F:α->β->Prop}:∀{l1:List α} {l2:List β} {i:Nat} (_:Paired F l1 l2) (h1:i < l1.length) (h2:i < l2.length),F l1[i] l2[i]
 | _,_,_,.nil,h1,_=>absurd h1 (du _)
 | _,_,0,.cons r _,_,_=>r
 | _,_,i+1,.cons _ t,h1,h2=>i5 (i:=i) t (Nat.lt_of_succ_lt_succ h1) (Nat.lt_of_succ_lt_succ h2)
theorem nU {α β:Type} {F:α->β->Prop} (hF:∀a b x,F a x->F b x->a=b):∀{l1 l2:List α} {l:List β},Paired F l1 l->Paired F l2 l->l1=l2
 | _,_,_,.nil,.nil=>rfl
 | _,_,_,.cons r t,.cons r' t'=>by rw[hF _ _ _ r r',nU hF t t']
theorem wX {α:Type} [DecidableEq α] (as bs:List α) (h:as.length=bs.length):(List.range as.length).all (fun j=>decide (as[j]?=bs[j]?))=decide (as=bs):=by
 rw[nh,qF,decide_eq_true_iff];constructor
 ·intro q;apply xy;intro i;by_cases hi:i < as.length
  ·exact of_decide_eq_true (q i (vA.mpr hi))
  ·rw[aN (by lia),aN (by lia)]
 ·rintro rfl i _;simp
section
variable {α:Type} [DecidableEq α] (k:Kind α)
theorem Kind.items {X:Cx} {pins:List (Addr×Obj)} {σ:St} {H:Hp} {s:Shared} {A:Around} (I:Inv X pins σ H s) (hA:A.units+k.d < cLine) {xs ys:List V} {us ws:List Value} {as bs:List α}
  (rx:cA xs us) (ry:cA ys ws) (ha:Paired (fun a x=>k.R X.K H x a) as xs) (hb:Paired (fun a x=>k.R X.K H x a) bs ys) :
  ∀j (h1:j < us.toArray.size) (h2:j < ws.toArray.size),SeqAt.EqAt A s us.toArray[j] ws.toArray[j] (decide (as[j]?=bs[j]?)):=fun j h1 h2=>by
 have l1:j < us.length:=by simpa using h1
 have l2:j < ws.length:=by simpa using h2
 have e1:=rx.length;have e2:=ry.length;have e3:=ha.length;have e4:=hb.length;obtain ⟨u,hu,ru⟩:=rx.get (i:=j) (x:=xs[j]'(by lia)) (by simp);obtain ⟨w,hw,rw'⟩:=ry.get (i:=j) (x:=ys[j]'(by lia)) (by simp);have q:=k.eq (A:=A) I ru rw' (i5 ha (by lia) (by lia)) (i5 hb (by lia) (by lia)) hA
 have eu:us.toArray[j]=u:=by
  have:=hu;rw[af l1] at this;simpa using this
 have ew:ws.toArray[j]=w:=by
  have:=hw;rw[af l2] at this;simpa using this
 rw[eu,ew,af (show j < as.length by lia),af (show j < bs.length by lia)];have e5:decide (some as[j]=some bs[j])=decide (as[j]=bs[j]):=by simp
 rw[e5];exact q
theorem Cb {α:Type} [DecidableEq α] (as bs:List α) {n m:Nat} (h1:as.length=n) (h2:bs.length=m):((List.range (min n m)).all (fun j=>decide (as[j]?=bs[j]?)) && n == m)=decide (as=bs):=by
 subst h1 h2;by_cases e:as.length=bs.length
 ·rw[show min as.length bs.length=as.length by lia,wX as bs e];simp [e]
 ·have h1:(as.length == bs.length)=false:=by simpa using e
  rw[h1,Bool.and_false];exact (decide_eq_false fun z=>e (by rw[z])).symm
def Qq:Kind (List α) where
 R:=fun K H x as=>∃p xs,x=.ref p/\vV K H p xs/\Paired (fun a x=>k.R K H x a) as xs
 d:=k.d+1
 inj:=fun {X pins σ H s x a b} I h1 h2=>by
  obtain ⟨p,xs,rfl,hp,pa⟩:=h1;obtain ⟨q,ys,e,hq,pb⟩:=h2;cases e;have e:=I.tuple_inj hp hq;subst e;exact nU (F:=fun a x=>k.R X.K H x a) (fun a b x=>k.inj I) pa pb
 rc:=fun {X pins σ H s x y v u a b A} I rx ry h1 h2 hA=>by
  obtain ⟨p,xs,rfl,hp,pa⟩:=h1;obtain ⟨q,ys,rfl,hq,pb⟩:=h2;cases rx;cases ry;obtain ⟨us,r1,t1,_⟩:=I.tuple hp;obtain ⟨ws,r2,t2,_⟩:=I.tuple hq;have z:=SeqAt.RcAt.tuples (A:=A) (e:=fun j=>decide (a[j]?=b[j]?)) (show s.heap.IsTuple p us.toArray from t1) (show s.heap.IsTuple q ws.toArray from t2) (by lia) (k.items (A:=A.in1) I (by show A.units+1+k.d < cLine;lia) r1 r2 pa pb);rwa [Cb a b (by rw[pa.length,r1.length];simp) (by rw[pb.length,r2.length];simp)] at z
 ne:=fun {X pins σ H s x y v u a b A} I rx ry h1 h2 hA=>by
  obtain ⟨p,xs,rfl,hp,pa⟩:=h1;obtain ⟨q,ys,rfl,hq,pb⟩:=h2;cases rx;cases ry;obtain ⟨us,r1,t1,_⟩:=I.tuple hp;obtain ⟨ws,r2,t2,_⟩:=I.tuple hq;have z:=SeqAt.RcNeAt.tuples (A:=A) (e:=fun j=>decide (a[j]?=b[j]?)) (show s.heap.IsTuple p us.toArray from t1) (show s.heap.IsTuple q ws.toArray from t2) (by lia) (k.items (A:=A.in1) I (by show A.units+1+k.d < cLine;lia) r1 r2 pa pb);rwa [Cb a b (by rw[pa.length,r1.length];simp) (by rw[pb.length,r2.length];simp)] at z
 eq:=fun {X pins σ H s x y v u a b A} I rx ry h1 h2 hA=>by
  obtain ⟨p,xs,rfl,hp,pa⟩:=h1;obtain ⟨q,ys,rfl,hq,pb⟩:=h2;cases rx;cases ry;by_cases e:p=q
  ·subst e;have e:=I.tuple_inj hp hq;subst e;rw[nU (F:=fun a x=>k.R X.K H x a) (fun a b x=>k.inj I) pa pb,decide_eq_true rfl];exact SeqAt.EqAt.same _
  ·obtain ⟨us,r1,t1,_⟩:=I.tuple hp;obtain ⟨ws,r2,t2,_⟩:=I.tuple hq;have z:=SeqAt.RcAt.tuples (A:=A) (e:=fun j=>decide (a[j]?=b[j]?)) (show s.heap.IsTuple p us.toArray from t1) (show s.heap.IsTuple q ws.toArray from t2) (by lia) (k.items (A:=A.in1) I (by show A.units+1+k.d < cLine;lia) r1 r2 pa pb);rw[Cb a b (by rw[pa.length,r1.length];simp) (by rw[pb.length,r2.length];simp)] at z;exact .of_refs e z
theorem Fe {X:Cx} {pins:List (Addr×Obj)} {σ:St} {H:Hp} {s:Shared} {p q:Addr} {xs ys:List V} {a b:List α} {A:Around} (I:Inv X pins σ H s) (hp:bM X.K H p xs) (hq:bM X.K H q ys)
  (pa:Paired (fun a x=>k.R X.K H x a) a xs) (pb:Paired (fun a x=>k.R X.K H x a) b ys) (hA:A.units+(k.d+1) < cLine) :
  SeqAt.RcAt A s (.ref p) (.ref q) (decide (a=b))/\SeqAt.RcNeAt A s (.ref p) (.ref q) (!decide (a=b)):=by
 obtain ⟨us,r1,t1,_⟩:=I.list hp;obtain ⟨ws,r2,t2,_⟩:=I.list hq;have l1:=r1.length;have l2:=r2.length;have l3:=pa.length;have l4:=pb.length;by_cases e:us.length=ws.length
 ·have it:=k.items (A:=A.in1) I (by show A.units+1+k.d < cLine;lia) r1 r2 pa pb;have z:=SeqAt.RcAt.lists (A:=A) (e:=fun j=>decide (a[j]?=b[j]?)) t1.isList t2.isList (by simpa using e) (by lia) it;have z2:=SeqAt.RcNeAt.lists (A:=A) (e:=fun j=>decide (a[j]?=b[j]?)) t1.isList t2.isList (by simpa using e) (by lia) it;have e1:us.toArray.size=a.length:=by rw[aL];lia
  rw[e1,wX a b (by lia)] at z z2;exact ⟨z,z2⟩
 ·have hne:¬a=b:=fun z=>e (by have:=congrArg List.length z;lia)
  rw[decide_eq_false hne];exact ⟨SeqAt.RcAt.lists_lengths t1.isList t2.isList (by simpa using e) (by lia),SeqAt.RcNeAt.lists_lengths t1.isList t2.isList (by simpa using e) (by lia)⟩
def Py:Kind (List α) where
 R:=fun K H x as=>∃p xs,x=.ref p/\bM K H p xs/\Paired (fun a x=>k.R K H x a) as xs
 d:=k.d+1
 inj:=fun {X pins σ H s x a b} I h1 h2=>by
  obtain ⟨p,xs,rfl,hp,pa⟩:=h1;obtain ⟨q,ys,e,hq,pb⟩:=h2;cases e;have e:=I.list_inj hp hq;subst e;exact nU (F:=fun a x=>k.R X.K H x a) (fun a b x=>k.inj I) pa pb
 rc:=fun {X pins σ H s x y v u a b A} I rx ry h1 h2 hA=>by
  obtain ⟨p,xs,rfl,hp,pa⟩:=h1;obtain ⟨q,ys,rfl,hq,pb⟩:=h2;cases rx;cases ry;exact (Fe k I hp hq pa pb hA).1
 ne:=fun {X pins σ H s x y v u a b A} I rx ry h1 h2 hA=>by
  obtain ⟨p,xs,rfl,hp,pa⟩:=h1;obtain ⟨q,ys,rfl,hq,pb⟩:=h2;cases rx;cases ry;exact (Fe k I hp hq pa pb hA).2
 eq:=fun {X pins σ H s x y v u a b A} I rx ry h1 h2 hA=>by
  obtain ⟨p,xs,rfl,hp,pa⟩:=h1;obtain ⟨q,ys,rfl,hq,pb⟩:=h2;cases rx;cases ry;by_cases e:p=q
  ·subst e;have e:=I.list_inj hp hq;subst e;rw[nU (F:=fun a x=>k.R X.K H x a) (fun a b x=>k.inj I) pa pb,decide_eq_true rfl];exact SeqAt.EqAt.same _
  ·exact .of_refs e (Fe k I hp hq pa pb hA).1
def Kind.via {β:Type} [DecidableEq β] (f:β->α) (fi:∀a b,f a=f b->a=b) (R':PySem.W.Frag->Hp->V->β->Prop) (im:∀{K H x b},R' K H x b->k.R K H x (f b)):Kind β where
 R:=R'
 d:=k.d
 inj:=fun I h1 h2=>fi _ _ (k.inj I (im h1) (im h2))
 rc:=fun {X pins σ H s x y v u a b A} I rx ry h1 h2 hA=>by
  have z:=k.rc (A:=A) I rx ry (im h1) (im h2) hA;rwa [decide_eq_decide.mpr (show f a=f b↔a=b from ⟨fi a b,fun e=>by rw[e]⟩)] at z
 ne:=fun {X pins σ H s x y v u a b A} I rx ry h1 h2 hA=>by
  have z:=k.ne (A:=A) I rx ry (im h1) (im h2) hA;rwa [decide_eq_decide.mpr (show f a=f b↔a=b from ⟨fi a b,fun e=>by rw[e]⟩)] at z
 eq:=fun {X pins σ H s x y v u a b A} I rx ry h1 h2 hA=>by
  have z:=k.eq (A:=A) I rx ry (im h1) (im h2) hA;rwa [decide_eq_decide.mpr (show f a=f b↔a=b from ⟨fi a b,fun e=>by rw[e]⟩)] at z
end
def Fy (K:PySem.W.Frag) (H:Hp) (x:V) (n:Int×Int):Prop:=∃p,x=.ref p/\vV K H p [.int n.1,.int n.2]
def Qr:Kind (Int×Int):=(Qq Qs).via (fun n=>[n.1,n.2]) (fun a b e=>by cases a;cases b;simp at e;rw[e.1,e.2]) Fy fun ⟨p,e,h⟩=>⟨p,_,e,h,.cons rfl (.cons rfl .nil)⟩
def Qn (K:PySem.W.Frag):R2:=fun x y H Q=>∃(α:Type) (_:DecidableEq α) (k:Kind α) (a b:α),k.d<=50/\k.R K H x a/\k.R K H y b/\Q (.bl (decide (a=b))) H
def Po (K:PySem.W.Frag):R2:=fun x y H Q=>∃(α:Type) (_:DecidableEq α) (k:Kind α) (a b:α),k.d<=50/\k.R K H x a/\k.R K H y b/\Q (.bl (!decide (a=b))) H
theorem Oa {X:Cx} (hu:X.A.units+50 < cLine):yc X (compareOp .Eq) (Qn X.K):=by
 intro pins s σ H x y v u Q I rx ry h;obtain ⟨α,_,k,a,b,hd,ha,hb,q⟩:=h;exact k.rc (A:=X.A) I rx ry ha hb (by lia) _ _ _ _ ⟨.bl (decide (a=b)),H,I,rfl,q⟩
theorem zT {X:Cx} (hu:X.A.units+50 < cLine):yc X (compareOp .NotEq) (Po X.K):=by
 intro pins s σ H x y v u Q I rx ry h;obtain ⟨α,_,k,a,b,hd,ha,hb,q⟩:=h;exact k.ne (A:=X.A) I rx ry ha hb (by lia) _ _ _ _ ⟨.bl (!decide (a=b)),H,I,rfl,q⟩
theorem Ea {A:Around} {k:Nat} (hr:lV k A):A.units+50 < cLine:=by have:=hr.units;lia
def Inner (H:Hp) (p q:Addr):Prop:=∃a b c:Int,H p=some (.lst [.int a,.int b,.int c,.ref q])
def cR (p:Addr) (H H':Hp):Prop:=(∀b o,H b=some o->b≠p->H' b=some o)/\∀q,Inner H p q->Inner H' p q
theorem cR.refl {p:Addr} (H:Hp):cR p H H:=⟨fun _ _ h _=>h,fun _ h=>h⟩
theorem cR.trans {p:Addr} {H H1 H2:Hp} (a:cR p H H1) (b:cR p H1 H2):cR p H H2:=⟨fun c o h n=>b.1 c o (a.1 c o h n) n,fun q h=>b.2 q (a.2 q h)⟩
theorem Inner.inj {H:Hp} {p q q':Addr} (h:Inner H p q) (h':Inner H p q'):q=q':=by
 obtain ⟨a,b,c,e⟩:=h;obtain ⟨a',b',c',e'⟩:=h';rw[e] at e';have:=HO.lst.inj (b7 e');simp at this;exact this.2.2.2
theorem cR.set {p q:Addr} {H:Hp} {a b c a' b' c':Int} (h:H p=some (.lst [.int a,.int b,.int c,.ref q])):cR p H (upd H p (.lst [.int a',.int b',.int c',.ref q])) :=
 ⟨fun b u h n=>by rw[br n];exact h,fun q' h'=>by
  rw[(Inner.inj ⟨a,b,c,h⟩ h').symm];exact ⟨a',b',c',aF⟩⟩
theorem aE.upto {p:Addr} {H H':Hp} (h:aE H H'):cR p H H':=⟨fun b o e _=>h b o e,fun q ⟨a,b,c,e⟩=>⟨a,b,c,h _ _ e⟩⟩
theorem aE.new {H:Hp} {p:Addr} {o:HO} (h:H p=Option.none):aE H (upd H p o):=fun b u e=>by rw[br (eY e h)];exact e
theorem aE.sqt {K:PySem.W.Frag} {H H':Hp} {a:Addr} {xs:List V} (e:aE H H') (h:vV K H a xs):vV K H' a xs:=by
 rcases h with (h | ⟨o,h⟩) | h
 ·exact .inl (.inl (e _ _ h))
 ·exact .inl (.inr ⟨o,e _ _ h⟩)
 ·exact .inr h
theorem aE.num {K:PySem.W.Frag} {H H':Hp} {x:V} {n:Int×Int} (e:aE H H') (h:Fy K H x n):Fy K H' x n:=by obtain ⟨p,q,r⟩:=h;exact ⟨p,q,e.sqt r⟩
section
variable {σ:St} {H:Hp} {D:Ends}
theorem aO {t:TS} {σ0 σ:St} {D:Ends} {H:Hp} (e:σ0=σ) (h:t D σ H):t D σ0 H:=by rw[e];exact h
theorem NI {t u:TS} (h:t { D with nx:=u D } σ H):OU t u D σ H:=h
theorem LC (h:D.nx σ H):Mz D σ H:=h
theorem N2 {te:TE} {g:TG} (h:te σ H fun x H1=>g x σ H1 D.nx):La te g D σ H:=h
theorem JG {i:Nat} {v:V} {Q:St->Hp->Prop} (h:Q (σ.set i (some v)) H):Gr i v σ H Q:=h
theorem NJ {te:TE} (h:te σ H D.rt):OV te D σ H:=h
theorem NT {c:TT} {t u:TS} (h:c σ H fun b H1=>if b=true then t D σ H1 else u D σ H1):O0 c t u D σ H:=h
theorem LL {te:TE} (h:te σ H fun _ H1=>D.nx σ H1):MC te D σ H:=h
theorem NL {i j:Nat} {ta:TA} (h:ta σ H fun vs H1=>∃v w,vs=[v,w]/\D.nx ((σ.set i (some v)).set j (some w)) H1):OW i j ta D σ H:=h
theorem LP {to ti te:TE} {tget:V->V->Hp->VK->Prop} {tip:PN} {tset:Fq}
  (h:to σ H fun o H1=>ti σ H1 fun i H2=>tget o i H2 fun x H3=>te σ H3 fun y H4=>tip x y H4 fun z H5=>tset o i z H5 fun H6=>D.nx σ H6):MD to ti te tget tip tset D σ H:=h
theorem NS {f:Int->Int->Int} {i j:Int} {Q:VK} (h:Q (.int (f i j)) H):ipI f (.int i) (.int j) H Q:=⟨i,j,rfl,rfl,h⟩
theorem NV {wi:TI} {g:TG} {tb:TS} (h:wi σ H fun J H1=>∃W:Nat->Nat->St->Hp->Prop,(∃m,W 0 m σ H1)/\∀i m σ H,W i m σ H →
  (J.stop i H/\D.nx σ H)\/(J.go i H/\∃N:St->Hp->Prop,(∀σ' H',N σ' H'->∃m',m' < m/\W (i+1) m' σ' H')/\∀x H',J.yld i H x H'->g x σ H' fun σ2 H2=>tb { D with nx:=N,ct:=N,bk:=D.nx } σ2 H2)):O1 wi g tb D σ H:=h
variable {Q:VK} {QA:List V->Hp->Prop} {QB:Bool->Hp->Prop}
theorem NF {i:Nat} {v:V} (e:σ[i]?=some (some v)) (h:Q v H):Nr i σ H Q:=⟨v,e,h⟩
theorem Qj {v:V} (h:Q v H):tC v σ H Q:=h
theorem Ph {r:R2} {ta tb:TE} (h:ta σ H fun x H1=>tb σ H1 fun y H2=>r x y H2 Q):OX r ta tb σ H Q:=h
theorem Pd {r:V->Hp->VK->Prop} {ta:TE} (h:ta σ H fun x H1=>r x H1 Q):P8 r ta σ H Q:=h
theorem Pl {g:Int->Int->V} {i j:Int} (h:Q (g i j) H):LS g (.int i) (.int j) H Q:=⟨i,j,rfl,rfl,h⟩
theorem fe {C:Int->Int->Prop} {g:Int->Int->V} {i j:Int} (hc:C i j) (h:Q (g i j) H):rI C g (.int i) (.int j) H Q:=⟨i,j,rfl,rfl,hc,h⟩
theorem Qk {g:Int->V} {i:Int} (h:Q (g i) H):rU g (.int i) H Q:=⟨i,rfl,h⟩
theorem NZ {i j:Int} (h:Q (.bl (decide (i=j))) H):Qo (.int i) (.int j) H Q:=⟨rfl,by
 have e:decide (V.int i=V.int j)=decide (i=j):=by simp
 rw[e];exact h⟩
theorem NP {i j:Int} (h:Q (.bl (!decide (i=j))) H):rNe (.int i) (.int j) H Q:=⟨rfl,by
 have e:decide (V.int i=V.int j)=decide (i=j):=by simp
 rw[e];exact h⟩
theorem NX {i j:Str} (h:Q (.bl (decide (i=j))) H):Qo (.str i) (.str j) H Q:=⟨rfl,by
 have e:decide (V.str i=V.str j)=decide (i=j):=by simp
 rw[e];exact h⟩
theorem Ly {t:TE} (h:t σ H fun x H'=>∃k,x=.bl k/\QB k H'):Mw t σ H QB:=h
theorem Pe {t:TE} (h:t σ H fun x H'=>∃k,x=.bl k/\QB k H'):tB t σ H QB:=h
theorem N3 {t u:TT} (h:t σ H fun c H1=>if c=true then u σ H1 QB else QB false H1):O2 t u σ H QB:=h
theorem Pg {t u:TT} (h:t σ H fun c H1=>if c=true then QB true H1 else u σ H1 QB):tOr t u σ H QB:=h
theorem NM {t:TT} (h:t σ H fun c H1=>QB (!c) H1):OY t σ H QB:=h
theorem LQ {t u:TE} (h:t σ H fun x H1=>∃c,x=.bl c/\if c=true then u σ H1 Q else Q (.bl false) H1):ME t u σ H Q:=h
theorem LB {t:TE} (h:t σ H fun x H1=>∃c,x=.bl c/\Q (.bl (!c)) H1):My t σ H Q:=h
theorem NU {c:TT} {ta tb:TE} (h:c σ H fun b H1=>if b=true then ta σ H1 Q else tb σ H1 Q):tIf c ta tb σ H Q:=h
theorem ND (h:QB true H):OR σ H QB:=h
theorem NO (h:QA [] H):Ez σ H QA:=h
theorem LM {ta:TE} {tr:TA} (h:ta σ H fun x H1=>tr σ H1 fun xs H2=>QA (x :: xs) H2):sN ta tr σ H QA:=h
theorem LO {sp:Sp} {E:XK} {t:TA} (h:t σ H fun vs H1=>sp vs H1 Q E):IZ sp [] E t σ H Q:=by
 have e:(fun vs H1=>sp (vs++[]) H1 Q E)=fun vs H1=>sp vs H1 Q E:=by funext vs H1;rw[m9]
 show t σ H fun vs H1=>sp (vs++[]) H1 Q E
 rw[e];exact h
theorem Pj {r:List V->Hp->VK->Prop} {t:TA} (h:t σ H fun vs H1=>r vs H1 Q):Qi r t σ H Q:=h
theorem NR {K:PySem.W.Frag} {p:Addr} {xs:List V} {i:Int} {v:V} (hx:vV K H p xs) (e:Fo xs i=some v) (h:Q v H):N5 K (.ref p) (.int i) H Q:=⟨p,xs,i,v,rfl,rfl,hx,e,h⟩
theorem b5 {K:PySem.W.Frag} {p:Addr} {xs:List V} {i:Int} (hx:bM K H p xs) {v:V} (e:Fo xs i=some v) (h:Q v H):N6 K (.ref p) (.int i) H Q:=⟨p,xs,i,v,rfl,rfl,hx,e,h⟩
theorem LK {K:PySem.W.Frag} {p:Addr} {xs:List V} {i:Int} (hx:bM K H p xs) {v:V} (e:Fo xs i=some v) (h:Q v H):MI K (.ref p) (.int i) H Q:=⟨p,xs,i,v,rfl,rfl,hx,e,h⟩
theorem eO {QH:Hp->Prop} {p:Addr} {xs:List V} {i:Int} {v:V} {j:Nat} {ys:List V} (hx:H p=some (.lst xs)) (e:IJ xs.length i=some j) (ey:xs.set j v=ys) (h:QH (upd H p (.lst ys))):MH (.ref p) (.int i) v H QH:=⟨p,xs,i,j,rfl,rfl,hx,e,by rw[ey];exact h⟩
theorem LI {to ti:TE} {t:Fq} {v:V} {QS:St->Hp->Prop} (h:to σ H fun o H1=>ti σ H1 fun i H2=>t o i v H2 fun H3=>QS σ H3):PJ to ti t v σ H QS:=h
theorem JH {t:TG} {u:KW} {v:V} {r:List V} {QS:St->Hp->Prop} (h:t v σ H fun σ' H'=>u r σ' H' QS):MX t u (v :: r) σ H QS:=⟨v,r,rfl,h⟩
theorem LJ {QS:St->Hp->Prop} (h:QS σ H):PK [] σ H QS:=⟨rfl,h⟩
theorem LH {K:PySem.W.Frag} {n:Nat} {t:KW} {a:Addr} {xs:List V} {QS:St->Hp->Prop} (hx:vV K H a xs) (hl:xs.length=n) (h:t xs σ H QS):Ol K n t (.ref a) σ H QS:=⟨a,xs,rfl,hx,hl,h⟩
theorem Pf {r:V->Option Int->Option Int->Hp->VK->Prop} {te:TE} {tl th:TO} (h:te σ H fun x H1=>tl σ H1 fun l H2=>th σ H2 fun u H3=>r x l u H3 Q):tSl r te tl th σ H Q:=h
theorem HQ {QO:Option Int->Hp->Prop} (h:QO none H):FG σ H QO:=h
theorem LA {t:TE} {QO:Option Int->Hp->Prop} (h:t σ H fun x H1=>∃i,x=.int i/\QO (some i) H1):Mx t σ H QO:=h
variable {R:It->Hp->Prop} {K:PySem.W.Frag}
theorem JE {tl:TE} (h:tl σ H fun x H1=>∃a,x=.ref a/\(∃xs,bM K H1 a xs)/\R (Na K a) H1):Kf K tl σ H R:=h
theorem JD {ta:TA} (h:ta σ H fun vs H1=>∃j:Int,vs=[.int j]/\-(2^62)<=j/\j < 2^62/\R (Ep 0 j.toNat) H1):MT ta σ H R:=h
theorem JC {ta:TA} (h:ta σ H fun vs H1=>∃i j:Int,vs=[.int i,.int j]/\(-(2^62)<=i/\i < 2^62/\-(2^62)<=j/\j < 2^62)/\R (Ep i (j - i).toNat) H1):MS ta σ H R:=h
theorem LN {wi:TI} {k:Nat} {cap:List Nat} {g:TG} {tf:TT} {te:TE} {σ₀:St} (e:II k cap σ=σ₀) (h:wi σ H fun J H1=>vz J σ₀ g tf te Q H1):Dl wi k cap g tf te σ H Q:=by
 unfold Dl;rw[e];exact h
theorem Lx {g:TG} {tf:TT} {te:TE} {x:V} {NY:V->Hp->Prop} {NN:Hp->Prop} (h:g x σ H fun σ2 H2=>tf σ2 H2 fun b H3=>if b=true then te σ2 H3 NY else NN H3):uS σ g tf te x H NY NN:=h
theorem Pk {T:String} {r:V->List V->Hp->VK->Prop} {to:TE} {t:TA} (h:to σ H fun x H1=>Qh K T x H1/\t σ H1 fun xs H2=>r x xs H2 Q):tBM K T r to t σ H Q:=h
def PV (Q:VK) (xs:List V) (H:Hp):Prop:=xs.length<=sizeLine/\∀p,H p=none->Q (.ref p) (upd H p (.tup xs))
def PX (Q:VK) (xs:List V) (H:Hp):Prop:=xs.length<=sizeLine/\∀p,H p=none->Q (.ref p) (upd H p (.lst xs))
theorem NG {t:TA} (h:t σ H (PV Q)):OS t σ H Q:=h
theorem NQ {t:TA} (h:t σ H (PX Q)):OZ t σ H Q:=h
theorem jA {n:Nat} (h:Nat.ble n 1000=true):n<=sizeLine:=aR (bE (Nat.le_of_ble_eq_true h))
theorem cD {xs:List V} (h:∀p H',aE H H'->H' p=some (.tup xs)->Q (.ref p) H') (hl:Nat.ble xs.length 1000=true:=by rfl):PV Q xs H :=
 ⟨jA hl,fun p hp=>h p _ (aE.new hp) aF⟩
theorem dk {xs:List V} (h:∀p H',aE H H'->H p=none->H' p=some (.lst xs)->Q (.ref p) H') (hl:Nat.ble xs.length 1000=true:=by rfl):PX Q xs H :=
 ⟨jA hl,fun p hp=>h p _ (aE.new hp) hp aF⟩
theorem PB {A B:Prop} (h:B):if (!true)=true then A else B:=Iu h
theorem PC {A B:Prop} (h:A):if (!false)=true then A else B:=Pz h
def WB (tb:TS) (D:Ends) (Pv:St->Hp->Prop) (μ:St->Hp->Nat) (n:Nat) (σ:St) (H:Hp):Prop:=∃N:St->Hp->Prop,(∀σ' H',N σ' H'->∃m',m' < n/\(m'=μ σ' H'/\Pv σ' H'))/\tb { D with nx:=N,ct:=N,bk:=D.nx } σ H
theorem MG {tb:TS} {Pv:St->Hp->Prop} {μ:St->Hp->Nat} {n:Nat} (h:tb { D with nx:=fun σ' H'=>Pv σ' H'/\μ σ' H' < n,ct:=fun σ' H'=>Pv σ' H'/\μ σ' H' < n,bk:=D.nx } σ H):WB tb D Pv μ n σ H :=
 ⟨_,fun σ' H' ⟨p,l⟩=>⟨_,l,rfl,p⟩,h⟩
theorem Ca {c:TT} {tb:TS} (Pv:St->Hp->Prop) (μ:St->Hp->Nat) (h0:Pv σ H) (hs:∀σ H,Pv σ H->c σ H fun b H1=>if b=true then WB tb D Pv μ (μ σ H) σ H1 else D.nx σ H1):IX c tb D σ H:=by
 refine ⟨fun m σ H=>m=μ σ H/\Pv σ H,⟨_,rfl,h0⟩,?_⟩;rintro m σ H ⟨rfl,p⟩;exact hs σ H p
end
def jz (H:Hp) (p:Addr):Prop:=∃(q:Addr) (a b c:Int) (cs:List Int),H p=some (.lst [.int a,.int b,.int c,.ref q])/\H q=some (.lst (cs.map V.int))/\0<=a/\0<=c/\c<=(cs.length:Int)/\∀x∈cs,(0:Int)<=x
theorem IF {H:Hp} {p q:Addr} {a b c:Int} {cs:List Int} (hp:H p=some (.lst [.int a,.int b,.int c,.ref q])) (hq:H q=some (.lst (cs.map V.int))):q≠p:=fun e=>by
 rw[e,hp] at hq;have h:=HO.lst.inj (b7 hq);cases cs with
 | nil=>cases h
 | cons x1 cs=>cases cs with
  | nil=>cases h
  | cons x2 cs=>cases cs with
   | nil=>cases h
   | cons x3 cs=>cases cs with
    | nil=>cases h
    | cons x4 cs=>simp at h
theorem jz.same {H H':Hp} {p:Addr} (h:jz H p) (e:aE H H'):jz H' p:=by obtain ⟨q,a,b,c,cs,h1,h2,r⟩:=h;exact ⟨q,a,b,c,cs,e _ _ h1,e _ _ h2,r⟩
theorem cR.tup {H H':Hp} {p r:Addr} {xs:List V} (u:cR p H H') (B:jz H p) (h:H r=some (.tup xs)):H' r=some (.tup xs):=by
 obtain ⟨q,a,b,c,cs,h1,_⟩:=B;exact u.1 r _ h fun e=>by rw[e,h1] at h;cases h
theorem cR.other {H H':Hp} {p r:Addr} {o:HO} (u:cR p H H') (n:r≠p) (h:H r=some o):H' r=some o:=u.1 r _ h n
theorem jz.inner {H:Hp} {p:Addr} (h:jz H p):∃q,Inner H p q/\∃xs,H q=some (.lst xs):=by obtain ⟨q,a,b,c,cs,h1,h2,_⟩:=h;exact ⟨q,⟨a,b,c,h1⟩,_,h2⟩
theorem jz.upd {H:Hp} {p q r:Addr} {o:HO} (h:jz H p) (hi:Inner H p q) (n1:r≠p) (n2:r≠q):jz (L2.upd H r o) p:=by
 obtain ⟨q',a,b,c,cs,h1,h2,z⟩:=h;have e:q'=q:=Inner.inj ⟨a,b,c,h1⟩ hi;subst e;exact ⟨q',a,b,c,cs,by rw[br n1.symm];exact h1,by rw[br n2.symm];exact h2,z⟩
theorem Inner.upd {H:Hp} {p q r:Addr} {o:HO} (hi:Inner H p q) (n1:r≠p):Inner (L2.upd H r o) p q:=by obtain ⟨a,b,c,h⟩:=hi;exact ⟨a,b,c,by rw[br n1.symm];exact h⟩
def Lg:Sp:=fun vs H Q _=>∃p n,vs=[.ref p,.int n]/\jz H p/\0 < n/\n < 2^64/\∀v H',0<=v->v < n->jz H' p->cR p H H'->Q (.int v) H'
def NA (K:PySem.W.Frag):Sp:=fun vs H Q _=>∃(a:Addr) (ns:List Int),vs=[.ref a]/\bM K H a (ns.map V.int)/\ns.length<=63/\∀p H',H p=none->jz H' p->aE H H'->Q (.ref p) H'
def Ce (K:PySem.W.Frag):Sp:=fun vs H Q _=>∃(a:Addr) (ns:List Int),vs=[.ref a]/\bM K H a (ns.map V.int)/\ns.length<=63/\∀H',Q (.bl true) H'
def Nw:Sp:=fun vs H Q _=>∃t b,vs=[.int t,.int b]/\0 < b/\Sz 8999 b/\∀r H',aE H H'->H' r=some (.tup [.int (lo t b),.int (hi t b)])->Q (.ref r) H'
def O4:Sp:=fun vs H Q _=>∃a b,vs=[.int a,.int b]/\Q (.int (g a b)) H
def HF:Sp:=fun vs H Q _=>∃t b,vs=[.int t,.int b]/\b≠0/\Sz 8999 b/\∀r H',aE H H'->H' r=some (.tup [.int (lo (if b < 0 then -t else t) (if b < 0 then -b else b)),.int (hi (if b < 0 then -t else t) (if b < 0 then -b else b))])->Q (.ref r) H'
def MY (a b c d:Int):Int:=a*d+c*b
def Kr (a b c d:Int):Int:=a*d - c*b
def Kq (a _b c _d:Int):Int:=a*c
def FK (K:PySem.W.Frag) (f:Int->Int->Int->Int->Int):Sp:=fun vs H Q _=>∃p q a b c d,vs=[.ref p,.ref q]/\vV K H p [.int a,.int b]/\vV K H q [.int c,.int d]/\0 < b/\0 < d/\Sz 4000 a/\Sz 4000 b/\Sz 4000 c/\Sz 4000 d /\
 ∀r H',aE H H'->H' r=some (.tup [.int (lo (f a b c d) (b*d)),.int (hi (f a b c d) (b*d))])->Q (.ref r) H'
def Lh (K:PySem.W.Frag):Sp:=fun vs H Q _=>∃p q a b c d,vs=[.ref p,.ref q]/\vV K H p [.int a,.int b]/\vV K H q [.int c,.int d]/\0 < b/\0 < d/\c≠0/\Sz 4000 a/\Sz 4000 b/\Sz 4000 c/\Sz 4000 d /\
 ∀r H',aE H H'->H' r=some (.tup [.int (lo (if c < 0 then 0 - a*d else a*d) (if c < 0 then 0 - b*c else b*c)),.int (hi (if c < 0 then 0 - a*d else a*d) (if c < 0 then 0 - b*c else b*c))])->Q (.ref r) H'
theorem bZ {α β:Type} {F:α->β->Prop}:∀{l1 l1':List α} {l2 l2':List β},Paired F l1 l2->Paired F l1' l2'->Paired F (l1++l1') (l2++l2')
 | _,_,_,_,.nil,h=>h
 | _,_,_,_,.cons r t,h=>.cons r (bZ t h)
theorem cU {h:Heap} {a b:Addr} {o u:Obj} (ha:h.get? a=some o) (hb:h.get? b=some u) (hc:o.cls≠u.cls):a≠b:=fun e=>by
 subst e;rw[ha] at hb;cases hb;exact hc rfl
theorem nM {a b:String} (h:a≠b):Value.type a≠Value.type b:=fun e=>h (by injection e)
theorem A6 {h:Heap} {z TI TO i1 i2 l1 l2:Addr} {f0 a b:Value} {k1 k2:Nat} {xs ys:Array Value} (hz:IsZip h z TI TO f0) (hTI:IsPair h TI (.ref i1) (.ref i2)) (hTO:IsPair h TO a b)
  (h1:h.IsListIter i1 l1 k1) (h2:h.IsListIter i2 l2 k2) (hl1:h.IsList l1 xs) (hl2:h.IsList l2 ys) (hT:TI≠TO) (hi:i1≠i2):ZipApart z TI TO i1 i2 l1 l2:=by
 obtain ⟨o1,g1,c1,_⟩:=h1;obtain ⟨o2,g2,c2,_⟩:=h2;obtain ⟨p1,q1,d1,_⟩:=hl1;obtain ⟨p2,q2,d2,_⟩:=hl2;refine ⟨cU hTI hz ?_,cU hTO hz ?_,cU g1 hz ?_,cU g2 hz ?_,hT,cU hTI g1 ?_,cU hTI g2 ?_,cU hTO g1 ?_,cU hTO g2 ?_,hi,cU q1 hz ?_,cU q1 hTO ?_,cU q1 g1 ?_,cU q1 g2 ?_,cU q2 hz ?_,cU q2 hTO ?_,cU q2 g1 ?_,cU q2 g2 ?_⟩
 all_goals first
  | (rw[d1];first | (rw[c1];exact nM (by decide)) | (rw[c2];exact nM (by decide)) | exact nM (by decide))
  | (rw[d2];first | (rw[c1];exact nM (by decide)) | (rw[c2];exact nM (by decide)) | exact nM (by decide))
  | (rw[c1];exact nM (by decide))
  | (rw[c2];exact nM (by decide))
  | exact nM (by decide)
def OC (K : PySem.W.Frag) (l1 l2 : Addr) : It :=
  ⟨fun i H => ∃ xs ys x y, bM K H l1 xs /\ bM K H l2 ys /\ xs[i]? = some x /\ ys[i]? = some y,
   fun i H v H' => ∃ p x y, v = .ref p /\ H p = none /\ H' = upd H p (.tup [x, y]) /\ (∀ xs, bM K H l1 xs → xs[i]? = some x) /\ ∀ ys, bM K H l2 ys → ys[i]? = some y,
   fun i H => ∃ xs ys, bM K H l1 xs /\ bM K H l2 ys /\ (xs.length ≤ i \/ ys.length ≤ i)⟩
def tnZ (z TI TO i1 i2 l1 l2:Addr) (i:Nat) (h:Heap):Prop:=IsZip h z TI TO .none/\IsPair h TI (.ref i1) (.ref i2)/\(∃a b,IsPair h TO a b)/\h.IsListIter i1 l1 i/\h.IsListIter i2 l2 i
theorem IV {P:Program} {w:World} {K:PySem.W.Frag} {elts:List Expr} {kk:Nat} {tpos:Pos} (z TI TO i1 i2 l1 l2:Addr) (hT:TI≠TO) (hi:i1≠i2):Turn P w K (.Tuple elts kk tpos) (OC K l1 l2) [z,TI,TO,i1,i2] z (tnZ z TI TO i1 i2 l1 l2) where
 mem:=by simp
 obj:=fun i h st b hb=>by
  obtain ⟨hz,hTI,⟨a,c,hTO⟩,⟨o1,g1,c1,d1⟩,⟨o2,g2,c2,d2⟩⟩:=st;simp only[aI,bp,or_false] at hb;rcases hb with rfl | rfl | rfl | rfl | rfl
  ·exact ⟨_,hz,fun v q=>nomatch q⟩
  ·exact ⟨_,hTI,fun v q=>nomatch q⟩
  ·exact ⟨_,hTO,fun v q=>nomatch q⟩
  ·exact ⟨o1,g1,fun v q=>by rw[d1] at q;cases q⟩
  ·exact ⟨o2,g2,fun v q=>by rw[d2] at q;cases q⟩
 keep:=fun i h h' st k=>by
  obtain ⟨hz,hTI,⟨a,c,hTO⟩,h1,h2⟩:=st;exact ⟨k z (by simp) _ hz,k TI (by simp) _ hTI,⟨a,c,k TO (by simp) _ hTO⟩,h1.at fun o e=>k i1 (by simp) o e,h2.at fun o e=>k i2 (by simp) o e⟩
 item:=by
  intro X hP hw hK hc i pins s σ H E I hf st hg;subst hP hw hK;obtain ⟨hz,hTI,⟨a,c,hTO⟩,h1,h2⟩:=st;obtain ⟨xs,ys,x,y,qx,qy,ex,ey⟩:=hg;obtain ⟨us,rx,px,_⟩:=I.list qx;obtain ⟨ws,ry,py,_⟩:=I.list qy;obtain ⟨u,eu,ru⟩:=rx.get ex;obtain ⟨v,ev,rv⟩:=ry.get ey;have D:=A6 hz hTI hTO h1 h2 px.isList py.isList hT hi;refine wpAny_pyNext_zip_item D hz hTI hTO h1 h2 px.isList py.isList (x:=u) (y:=v) (by simpa using eu) (by simpa using ev) fun h' a1 a2 a3 a4 a5 a6 hk=>?_
  refine ⟨_,rfl,wpAny_letOwnedTupleGo_zip a1 fun h'' hz'' hs=>?_⟩;have hT0:H s.heap.objs.size=none:=I.hok.fresh (ar _);have zne:s.heap.objs.size≠z:=GV (Heap.lt_size hz)
  have up:∀b o,b∉[z,TO,i1,i2]->s.heap.get? b=some o->h''.get? b=some o:=fun b o hb e=>by
   simp only[aI,bp,or_false,not_or] at hb;exact (hs.2 b hb.1).trans (hk b o hb.1 hb.2.1 hb.2.2.1 hb.2.2.2 e)
  have fx:∀b∈[z,TO,i1,i2],kn X pins H b:=fun b hb=>hf b (by
   simp only[aI,bp,or_false] at hb ⊢;rcases hb with rfl | rfl | rfl | rfl <;> simp)
  have nx:∀b o,H b=some o->b∉[z,TO,i1,i2]:=fun b o e hb=>by
   have:=(fx b hb).1;rw[this] at e;cases e
  have nT:∀{b:Addr} {o:HO},H b=some o->b≠s.heap.objs.size:=fun e q=>by rw[q,hT0] at e;cases e
  have tup:h''.get? s.heap.objs.size=some { cls:=.type "tuple",data:=.seq #[u,v] }:=(hs.2 _ zne).trans a5
  have I2:Inv X pins σ (upd H s.heap.objs.size (.tup [x,y])) { s with heap:=h'' }:=by
   refine I.step (g':=s.gens) (d':=s.drawn) (t':=s.toks) (ch:=[z,TO,i1,i2]) (fun b hb=>?_) (fun b o _ _ hb e _=>up b o hb e) (fun b o _ _ hb e _=>⟨o.slots,up b o hb e⟩) (fun b o hb e n=>?_)
    (fun b o hb e=>⟨o,up b o hb e⟩) (fun b q e=>by rw[br (nT e)];exact e) (fun b o q e=>by rw[br (nT e)];exact e) (fun b q e=>⟨#[],by rw[br (nT e),e];simp⟩) (fun m hm=>?_) (fun b o e=>?_) I.bare
   ·obtain ⟨_,f1,_,f3,f4,f5⟩:=fx b hb;exact ⟨f3,f1,f4,f5⟩
   ·rw[br (bW (Heap.lt_size e))];exact n
   ·obtain ⟨o,es,ep,ho,r⟩:=hm;exact ⟨o,es,ep,up _ o (fun z=>(fx _ z).2.1 rfl) ho,r⟩
   ·by_cases hb:b=s.heap.objs.size
    ·subst hb;rw[aF] at e;cases e;exact ⟨jA rfl,[u,v],.cons ru (.cons rv .nil),⟨_,tup,rfl,_,rfl⟩⟩
    ·rw[br hb] at e;refine (I.hok b o e).stay (fun c v' hc q=>up c v' ?_ q) (fun c q=>by rw[br (nT q)];exact q) fun c xs q=>by rw[br (nT q)];exact q
     rcases hc with rfl | hc
     ·exact nx _ _ e
     ·exact nx _ _ hc
  refine ⟨.ref s.heap.objs.size,_,I2,rfl,⟨_,x,y,rfl,hT0,rfl,fun xs' q=>by rw[I.list_inj q qx];exact ex,fun ys' q=>by rw[I.list_inj q qy];exact ey⟩,?_,fun b hb=>?_⟩
  ·refine ⟨hz'',(hs.2 _ D.TIz).trans (hk _ _ D.TIz D.TITO D.TIi1 D.TIi2 hTI),⟨_,_,(hs.2 _ D.TOz).trans a2⟩,a3.at fun o e=>(hs.2 _ D.i1z).trans e,a4.at fun o e=>(hs.2 _ D.i2z).trans e⟩
  ·obtain ⟨o,e,_⟩:∃o,s.heap.get? b=some o/\True:=by
    obtain ⟨o1,g1,_⟩:=h1;obtain ⟨o2,g2,_⟩:=h2;simp only[aI,bp,or_false] at hb;rcases hb with rfl | rfl | rfl | rfl | rfl
    ·exact ⟨_,hz,trivial⟩
    ·exact ⟨_,hTI,trivial⟩
    ·exact ⟨_,hTO,trivial⟩
    ·exact ⟨_,g1,trivial⟩
    ·exact ⟨_,g2,trivial⟩
   rw[br (bW (Heap.lt_size e))];exact (hf b hb).1
 done:=by
  intro X hP hw hK hc i pins s σ H E I hf st hg;subst hP hw hK;obtain ⟨hz,hTI,⟨a,c,hTO⟩,h1,h2⟩:=st;obtain ⟨xs,ys,qx,qy,hend⟩:=hg;obtain ⟨us,rx,px,_⟩:=I.list qx;obtain ⟨ws,ry,py,_⟩:=I.list qy;have lx:=rx.length;have ly:=ry.length;have D:=A6 hz hTI hTO h1 h2 px.isList py.isList hT hi
  refine wpAny_pyNext_zip_end (I.ok.hd hc) D hz hTI hTO h1 h2 px.isList py.isList (by
   rcases hend with q | q
   ·exact .inl (by simp;lia)
   ·exact .inr (by simp;lia)) fun h' hk=>⟨rfl,?_⟩
  have up:∀b o,b∉[z,TO,i1,i2]->s.heap.get? b=some o->h'.get? b=some o:=fun b o hb e=>by
   simp only[aI,bp,or_false,not_or] at hb;exact hk b o hb.1 hb.2.1 hb.2.2.1 hb.2.2.2 e
  have fx:∀b∈[z,TO,i1,i2],kn X pins H b:=fun b hb=>hf b (by
   simp only[aI,bp,or_false] at hb ⊢;rcases hb with rfl | rfl | rfl | rfl <;> simp)
  have nx:∀b o,H b=some o->b∉[z,TO,i1,i2]:=fun b o e hb=>by
   have:=(fx b hb).1;rw[this] at e;cases e
  refine I.step (g':=s.gens) (d':=s.drawn) (t':=s.toks) (ch:=[z,TO,i1,i2]) (fun b hb=>?_) (fun b o _ _ hb e _=>up b o hb e) (fun b o _ _ hb e _=>⟨o.slots,up b o hb e⟩) (fun b o hb e n=>n)
   (fun b o hb e=>⟨o,up b o hb e⟩) (fun b q e=>e) (fun b o q e=>e) (fun b q e=>⟨#[],by rw[e];simp⟩) (fun m hm=>?_) (fun b o e=>?_) I.bare
  ·obtain ⟨_,f1,_,f3,f4,f5⟩:=fx b hb;exact ⟨f3,f1,f4,f5⟩
  ·obtain ⟨o,es,ep,ho,r⟩:=hm;exact ⟨o,es,ep,up _ o (fun z=>(fx _ z).2.1 rfl) ho,r⟩
  ·refine (I.hok b o e).stay (fun c v' hc q=>up c v' ?_ q) (fun c q=>q) fun c xs q=>q
   rcases hc with rfl | hc
   ·exact nx _ _ e
   ·exact nx _ _ hc
 self:=fun _ _ _ _ _ st h=>wpAny_pyIter_zip st.1 h
section
variable {X:Cx}
def Oj (K:PySem.W.Frag) (ta:TA):TI:=fun σ H R=>ta σ H fun vs H1=>∃l1 l2,vs=[.ref l1,.ref l2]/\(∃xs,bM K H1 l1 xs)/\(∃ys,bM K H1 l2 ys)/\R (OC K l1 l2) H1
theorem qN {a b:Expr} {ta:TA} {p pos tpos:Pos} {elts:List Expr} {kk:Nat} (hg:Gl X "zip") (hm:X.mg "zip"=none) (ha:PA X [a,b] ta) (hs:starEach [a,b] X.env=[(false,eval a X.env),(false,eval b X.env)]:=by rfl) (hs2:starEach [b] X.env=[(false,eval b X.env)]:=by rfl) :
  PI X (.Tuple elts kk tpos) (.Call (.Name "zip" p) [a,b] [] pos) (Oj X.K ta):=by
 intro pins s σ H R I h;refine Call_ (ki I hg hm boot_zip (PyProof.Rows.callWith_type1 (fL (ha pos pins s σ H _ I h) fun us s1 ⟨vs,H1,I1,r1,q1⟩=>?_) (by rw[hs,hs2]) (by rw[hs2];rfl)));obtain ⟨l1,l2,e,⟨xs,qx⟩,⟨ys,qy⟩,q⟩:=q1;subst e;obtain ⟨u,v,rfl,ru,rv⟩:=vals2 r1;cases ru;cases rv;obtain ⟨us,rx,px,_⟩:=I1.list qx;obtain ⟨ws,ry,py,_⟩:=I1.list qy;refine call_zip_2 px.isList py.isList fun h' a1 a2 a3 a4 a5 a6 hk=>wpAny_pyIter_zip a1 ?_
 have I2:Inv X pins σ H1 { s1 with heap:=h' }:=I1.kept (t':=s1.toks) hk;refine ⟨_,[s1.heap.objs.size+4,s1.heap.objs.size+2,s1.heap.objs.size+3,s1.heap.objs.size,s1.heap.objs.size+1],_,_,H1,rfl,I2,IV (s1.heap.objs.size+4) (s1.heap.objs.size+2) (s1.heap.objs.size+3) s1.heap.objs.size (s1.heap.objs.size+1) l1 l2 (bW (eB _)) (bW (eB _)),⟨a1,a2,⟨_,_,a3⟩,a4,a5⟩,fun b hb=>?_,q⟩
 have hb':s1.heap.objs.size<=b:=by
  simp only[aI,bp,or_false] at hb;rcases hb with rfl | rfl | rfl | rfl | rfl <;> first | exact Nat.le_add_right _ _ | exact ar _
 exact I1.fpOk hb' (I1.hok.fresh hb')
theorem KG (hc:X.calm=true):tY X (.builtin "all") (fun xs H Q=>∃(p:Addr) (bs:List Bool),xs=[.ref p]/\bM X.K H p (bs.map V.bl)/\Q (.bl (bs.all id)) H):=by
 intro pins s σ H xs us Q I r h;obtain ⟨p,bs,rfl,hp,q⟩:=h;obtain ⟨u,rfl,ru⟩:=vals1 r;cases ru;obtain ⟨vs,rv,pl,hz⟩:=I.list hp
 have hb:PyProof.Rows.LSm.BoolsAre vs bs:=by
  clear q hp pl hz
  induction bs generalizing vs with
  | nil=>cases rv;exact .nil
  | cons b bs ih =>
   rw[fv] at rv;cases rv with
   | cons r1 r2=>cases r1;exact .cons b (ih _ r2)
 have hlt:p < s.heap.objs.size:=by obtain ⟨_,e,_⟩:=pl.isList;exact Heap.lt_size e
 refine call_all_walk (wpAny_pyIter_list pl.isList ?_)
 refine ⟨s.heap.objs.size,[s.heap.objs.size,p],[s.heap.objs.size],vs.toArray.size,_,_,fun i=>(bs[i]?).getD true,rfl,Walks.list (A:=X.A.in1) (I.ok.hd hc) _ p (bW hlt) vs.toArray,
  ⟨⟨_,Heap.get?_push_size _ rfl,rfl,rfl⟩,pl.isList.push _⟩,fun i v s' Q' E' hP hQ=>?_,fun h' tk hk=>?_⟩
 ·obtain ⟨b,e,rfl⟩:=hb.get i v (by simpa using hP);simp only[e,Option.getD_some] at hQ;exact wpAny_truthy_bool hQ
 ·have e:((List.range vs.toArray.size).all fun i=>(bs[i]?).getD true)=bs.all id:=by
   rw[aL,hb.length];exact PyProof.Rows.LSm.range_all bs
  rw[e];exact ⟨.bl _,H,I.kept (t':=tk) (PyProof.Rows.LSm.kept_iter hk),rfl,q⟩
theorem KE (hc:X.calm=true):tY X (.builtin "sum") (fun xs H Q=>∃(p:Addr) (ns:List Int),xs=[.ref p]/\bM X.K H p (ns.map V.int)/\Q (.int ns.sum) H):=by
 intro pins s σ H xs us Q I r h;obtain ⟨p,ns,rfl,hp,q⟩:=h;obtain ⟨u,rfl,ru⟩:=vals1 r;cases ru;obtain ⟨vs,rv,pl,_⟩:=I.list hp;have hi:IntsAre vs ns:=intsAre_of rv;obtain ⟨xs,hx⟩:=hi.allInts.items;have hl':s.heap.IsList p (intItems xs):=hx ▸ pl.isList;refine sum_intListG (I.ok.hd hc) hl' fun h' tk t' hk=>?_
 have e1:ns=xs.toList.map (·.1):=by
  rw[<- nums_intItems,<- hx];exact (show numsOf vs.toArray.toList=ns from hi.numsOf).symm
 have e2:preSum (numAt xs) xs.size=ns.sum:=by
  rw[preSum_eq,aH (by simp),e1]
 rw[e2];exact ⟨.int _,H,I.kept (t':=tk) hk,⟨_,rfl⟩,q⟩
end
section
variable {K:PySem.W.Frag} {l1 l2:Addr} {xs ws:List V} {g:TG} {tf:TT} {te:TE} {Q:VK} {σ₀:St} {H:Hp}
theorem tF (Pv:Nat->List V->Hp->Prop) (hz:xs.length<=sizeLine) (hw:ws.length=xs.length) (h0:Pv 0 [] H) (hl:∀i ys H,i<=xs.length->Pv i ys H->bM K H l1 xs/\bM K H l2 ws)
  (hs:∀i x y ys H p,xs[i]?=some x->ws[i]?=some y->ys.length<=i->Pv i ys H->H p=none->uS σ₀ g tf te (.ref p) (upd H p (.tup [x,y])) (fun y H'=>Pv (i+1) (ys++[y]) H') (fun H'=>Pv (i+1) ys H'))
  (hd:∀ys H,ys.length<=xs.length->Pv xs.length ys H->∀p,H p=none->Q (.ref p) (upd H p (.lst ys))):vz (OC K l1 l2) σ₀ g tf te Q H:=by
 refine ⟨fun i m ys H=>m=xs.length - i/\i<=xs.length/\ys.length<=i/\Pv i ys H,⟨xs.length,by simp,aX _,aX _,h0⟩,?_⟩;rintro i m ys H ⟨rfl,hi,hy,p⟩;obtain ⟨q1,q2⟩:=hl i ys H hi p;by_cases hlt:i < xs.length
 ·refine .inr ⟨⟨xs,ws,xs[i],ws[i]'(by lia),q1,q2,by simp [hlt],by simp⟩,by lia,fun y H'=>Pv (i+1) (ys++[y]) H',fun H'=>Pv (i+1) ys H',fun y H' p'=>⟨xs.length - (i+1),by lia,rfl,hlt,by rw[ai,aU];lia,p'⟩,fun H' p'=>⟨xs.length - (i+1),by lia,rfl,hlt,by lia,p'⟩,fun x H' y=>?_⟩;obtain ⟨r,x',y',rfl,hr,rfl,e1,e2⟩:=y;exact hs i x' y' ys _ r (e1 xs q1) (e2 ws q2) hy p hr
 ·have e:i=xs.length:=by lia
  subst e;exact .inl ⟨⟨xs,ws,q1,q2,.inl (ar _)⟩,by lia,hd ys H hy p⟩
theorem Gx {tb:TS} {D:Ends} {σ:St} (Pv:Nat->St->Hp->Prop) (hw:ws.length=xs.length) (h0:Pv 0 σ H) (hl:∀i σ H,i<=xs.length->Pv i σ H->bM K H l1 xs/\bM K H l2 ws)
  (hs:∀i x y σ H p,xs[i]?=some x->ws[i]?=some y->Pv i σ H->H p=none->g (.ref p) σ (upd H p (.tup [x,y])) fun σ2 H2=>tb { D with nx:=Pv (i+1),ct:=Pv (i+1),bk:=D.nx } σ2 H2) (hd:∀σ H,Pv xs.length σ H->D.nx σ H) :
  ∃W:Nat->Nat->St->Hp->Prop,(∃m,W 0 m σ H)/\∀i m σ H,W i m σ H →
   ((OC K l1 l2).stop i H/\D.nx σ H)\/((OC K l1 l2).go i H/\∃N:St->Hp->Prop,(∀σ' H',N σ' H'->∃m',m' < m/\W (i+1) m' σ' H')/\∀x H',(OC K l1 l2).yld i H x H'->g x σ H' fun σ2 H2=>tb { D with nx:=N,ct:=N,bk:=D.nx } σ2 H2):=by
 refine ⟨fun i m σ H=>m=xs.length - i/\i<=xs.length/\Pv i σ H,⟨xs.length,by simp,aX _,h0⟩,?_⟩;rintro i m σ H ⟨rfl,hi,p⟩;obtain ⟨q1,q2⟩:=hl i σ H hi p;by_cases hlt:i < xs.length
 ·refine .inr ⟨⟨xs,ws,xs[i],ws[i]'(by lia),q1,q2,by simp [hlt],by simp⟩,Pv (i+1),fun σ' H' p'=>⟨xs.length - (i+1),by lia,rfl,hlt,p'⟩,fun x H' y=>?_⟩;obtain ⟨r,x',y',rfl,hr,rfl,e1,e2⟩:=y;exact hs i x' y' σ _ r (e1 xs q1) (e2 ws q2) p hr
 ·have e:i=xs.length:=by lia
  subst e;exact .inl ⟨⟨xs,ws,q1,q2,.inl (ar _)⟩,hd σ H p⟩
end
section
variable {X:Cx}
theorem qO (K:PySem.W.Frag) (n:Nat) {es:List Expr} {k:Nat} {pos:Pos} {t:KW} (h:PR X es t) (hK:X.K=K:=by rfl) (hc:X.calm=true:=by rfl)
  (hn:(assignEach es X.env).length=n:=by rfl) (hst:(assignEach es X.env).findIdx? (·.1)=none:=by rfl):PG X (.Tuple es k pos) (Ol K n t):=by subst hK;exact vH hc h hn hst
theorem CJ (K:PySem.W.Frag) (hK:X.K=K):PY X (N5 K):=by subst hK;exact b4
theorem fM (K:PySem.W.Frag) (hK:X.K=K):PY X (N6 K):=by subst hK;exact bI
theorem FU (K:PySem.W.Frag) (hK:X.K=K) (hu:X.A.units+50 < cLine):yc X (compareOp .NotEq) (Po K):=by subst hK;exact zT hu
theorem DK (K:PySem.W.Frag) {tg l:Expr} {tl:TE} (hl:PE X l tl) (hK:X.K=K:=by rfl):PI X tg l (Kf K tl):=by subst hK;exact cM hl
theorem Jw (K:PySem.W.Frag) (hK:X.K=K):Qy X (N4 K):=by subst hK;exact Cg
end
theorem dU {X:Cx} {e e':Expr} {es:List Expr} {te:TE} {t:TA} (h:e=e') (ha:PE X e' te) (hr:PA X es t) (hs:∀l,starEach (e' :: l) X.env=(false,eval e' X.env) :: starEach l X.env:=by intro _;rfl):PA X (e :: es) (sN te t):=by subst h;exact ae ha hr (hs _)
section
variable {σ:St} {H:Hp} {D:Ends} {Q:VK}
theorem p8 {l:Addr} {xs:List V} {y:V} (hl:H l=some (.lst xs)) (hz:xs.length < sizeLine) (h:Q .non (upd H l (.lst (xs++[y])))):FL (.ref l) [y] H Q:=⟨l,xs,y,rfl,rfl,hl,hz,h⟩
theorem LG {K:PySem.W.Frag} {ta:TA} {R:It->Hp->Prop} (h:ta σ H fun vs H1=>∃l1 l2,vs=[.ref l1,.ref l2]/\(∃xs,bM K H1 l1 xs)/\(∃ys,bM K H1 l2 ys)/\R (OC K l1 l2) H1):Oj K ta σ H R:=h
theorem pG {l b:Addr} {xs zs:List V} (h1:H l=some (.lst xs)) (h2:H b=some (.lst zs)) (hz:xs.length+zs.length<=sizeLine) (h:∀p H',aE H H'->H p=none->H' p=some (.lst (xs++zs))->Q (.ref p) H'):Pp (.ref l) (.ref b) H Q :=
 ⟨l,b,xs,zs,rfl,rfl,h1,h2,hz,fun p hp=>h p _ (aE.new hp) hp aF⟩
theorem NH {K:PySem.W.Frag} {a:Addr} {xs:List V} {lo hi:Option Int} (h1:bM K H a xs) (h:∀p H',aE H H'->H p=none->H' p=some (.lst (uR xs lo hi))->Q (.ref p) H'):N4 K (.ref a) lo hi H Q :=
 ⟨a,xs,rfl,h1,fun p hp=>h p _ (aE.new hp) hp aF⟩
theorem tL {α:Type} {xs:List α} {i:Int} (h0:0<=i) (h1:i < xs.length):∃v,Fo xs i=some v/\v∈xs/\xs[i.toNat]?=some v:=by
 have hj:i.toNat < xs.length:=by lia
 refine ⟨xs[i.toNat],?_,az hj,by simp [hj]⟩;have:=dQ (xs:=xs) (j:=i.toNat) (v:=xs[i.toNat]) (by simp [hj]);rwa [Int.toNat_of_nonneg h0] at this
end
inductive Kn (H:Hp):V->Prop where
 | non:Kn H .non
 | bl (b:Bool):Kn H (.bl b)
 | int (i:Int):Kn H (.int i)
 | str (x:Str):Kn H (.str x)
 | lst {a:Addr} {xs:List V} (e:H a=some (.lst xs)):Kn H (.ref a)
 | tup {a:Addr} {xs:List V} (e:H a=some (.tup xs)):Kn H (.ref a)
 | dic {a:Addr} {kvs:List (Key×V)} (e:H a=some (.dK kvs)):Kn H (.ref a)
theorem dB {α β:Type} {F:α->β->Prop}:∀{l1:List α} {l2:List β} {y:β},Paired F l1 l2->y∈l2->∃x∈l1,F x y
 | _,_,_,.nil,h=>nomatch h
 | _,_,_,.cons r t,h=>by
  rcases aI.mp h with rfl | h
  ·exact ⟨_,cX,r⟩
  ·obtain ⟨x,hx,q⟩:=dB t h;exact ⟨x,bT _ hx,q⟩
theorem cm {α β:Type} {F:α->β->Prop} {l1:List α} {l2:List β} {i:Nat} {y:β} (h:Paired F l1 l2) (e:l2[i]?=some y):∃x,l1[i]?=some x/\F x y:=by
 have hl:=h.length;have hi:i < l2.length:=(aA.mp e).1;refine ⟨l1[i]'(by lia),by simp,?_⟩;have:=i5 h (i:=i) (by lia) hi;have e2:l2[i]=y:=(aA.mp e).2;rwa [e2] at this
def Em (n:Int×Int):Prop:=0 < n.2/\Int.gcd n.1 n.2=1/\Sz 8000 n.1/\Sz 8000 n.2
theorem take_snoc {α:Type} {l:List α} {i:Nat} {v:α} (h:l[i]?=some v):l.take (i+1)=l.take i++[v]:=by rw[List.take_add_one,h];rfl
theorem aE.after {H H':Hp} {r:Addr} {o:HO} (s:aE H H') (h:H r=Option.none):aE H (upd H' r o):=fun b u e=>by rw[br (eY e h)];exact s b u e
theorem cR.after {H H':Hp} {b r:Addr} {o:HO} (s:cR b H H') (h:H r=Option.none):cR b H (upd H' r o):=⟨fun c u e n=>by rw[br (eY e h)];exact s.1 c u e n,fun q hi=>(s.2 q hi).upd fun z=>by obtain ⟨_,_,_,e⟩:=hi;rw[<- z,h] at e;cases e⟩
theorem cR.same {H H' H'':Hp} {b:Addr} (s:cR b H H') (e:aE H' H''):cR b H H'':=s.trans e.upto
theorem GN {α:Type} {Pr:α->Prop} {l:List α} {a:α} (h:∀n∈l,Pr n) (ha:Pr a):∀n∈l++[a],Pr n:=fun n hn=>by
 rcases ax.mp hn with hn | hn
 ·exact h n hn
 ·have e:n=a:=by simpa using hn
  rw[e];exact ha
abbrev Ax (h:Heap) (z TI TO:Addr) (f0 f1:Value):Prop:=h.get? z=some { cls:=.type "zip",dict:=none,data:=.fields #[f0,f1,.bool false,.ref TI,.ref TO],slots:=#[] }
section
variable {prog:Program} {w:World} {A:Around} {E:Value->Shared->Prop} {s:Shared}
theorem Fp {a:Addr} {o:Obj} {Q:Option Obj->Shared->Prop} (e:s.heap.get? a=some o) (h:Q (some o) s):wpAny (model prog w) A (loadIfAlive a) Q E s:=by
 intro Γ p hp;show Sem.wp _ _ (.loadIfAlive a .pure) _ _ _ _
 simp only[Sem.wp_loadIfAlive,e];exact wpAny_pure h Γ p hp
theorem zS {z TI TO T:Addr} {b1:Bool} {o:Obj} {Q:Bool->Shared->Prop} (zr:Ax s.heap z TI TO (rawInt T) (.bool b1)) (al:s.heap.get? T=some o)
  (h:∀h',Ax h' z TI TO (rawInt T) (.bool true)->Heap.SameBut z s.heap h'->Q false { s with heap:=h' }):wpAny (model prog w) A (Builtin.SmallTypes.ownedTupleIsFree (.ref z)) Q E s:=by
 unfold Builtin.SmallTypes.ownedTupleIsFree;refine wpAny_bind (wpAny_field zr rfl (x:=rawInt T) rfl ?_);refine wpAny_bind (Fp (a:=T) al ?_);refine wpAny_bind (wpAny_field zr rfl (x:=.bool b1) rfl ?_);cases b1 with
 | true=>exact wpAny_pure (h _ zr (.refl ..))
 | false=>exact wpAny_bind (wpAny_setField_rec zr (by simp) fun h' zr' sb=>wpAny_pure (h h' zr' sb))
theorem Io {z TI TO T i1 i2 l1 l2:Addr} {k1 k2:Nat} {us ws:Array Value} {u v:Value} {b1:Bool} {o:Obj} {Q:Value->Shared->Prop} (D:ZipApart z TI TO i1 i2 l1 l2) (zr:Ax s.heap z TI TO (rawInt T) (.bool b1)) (al:s.heap.get? T=some o)
  (pt:IsPair s.heap TI (.ref i1) (.ref i2)) (j1:s.heap.IsListIter i1 l1 k1) (j2:s.heap.IsListIter i2 l2 k2) (m1:s.heap.IsList l1 us) (m2:s.heap.IsList l2 ws) (eu:us[k1]?=some u) (ev:ws[k2]?=some v)
  (hQ:∀h',Ax h' z TI TO (rawInt T) (.bool true)->h'.IsListIter i1 l1 (k1+1)->h'.IsListIter i2 l2 (k2+1)->IsPair h' s.heap.objs.size u v->(∀c o,c≠z->c≠i1->c≠i2->s.heap.get? c=some o->h'.get? c=some o)->Q (.ref s.heap.objs.size) { s with heap:=h' }) :
  wpAny (model prog w) A (Builtin.«zip.__next__» ⟨[.ref z],[]⟩) (fun fin s'=>∃v,fin=.done (.ret v)/\Q v s') E s:=by
 change wpAny _ _ (field (Value.ref z) 2 >>= _) _ _ s
 refine wpAny_bind (wpAny_field zr rfl (x:=.bool false) rfl ?_)
 change wpAny _ _ (field (Value.ref z) 3 >>= _) _ _ s
 refine wpAny_bind (wpAny_field zr rfl (x:=.ref TI) rfl (wpAny_bind (wpAny_seqItems pt rfl ?_)))
 change wpAny _ _ (Builtin.SmallTypes.ownedTupleIsFree (Value.ref z) >>= _) _ _ s
 refine wpAny_bind (zS zr al fun g1 zr1 sb1=>?_);simp only[iY,if_false];refine wpAny_bind ?_;rw[<- Array.forIn_toList];simp only[K4,BZ];have j1':=j1.extBut sb1.extBut D.i1z;have m1':=m1.extBut sb1.extBut D.l1z;refine wpAny_bind (wpAny_bind (wpAny_holding ?_))
 change wpAny _ _ (Builtin.SmallTypes.nextOf (Value.ref i1) >>= _) _ _ _
 refine wpAny_bind (wpAny_nextOf_list_item j1' m1' eu fun g2 j1a sb2=>wpAny_pure ?_);refine wpAny_pure ?_;have j2':=(j2.extBut sb1.extBut D.i2z).extBut sb2.extBut D.i12.symm;have m2':=(m2.extBut sb1.extBut D.l2z).extBut sb2.extBut D.l2i1;refine wpAny_bind (wpAny_bind (wpAny_holding ?_))
 change wpAny _ _ (Builtin.SmallTypes.nextOf (Value.ref i2) >>= _) _ _ _
 refine wpAny_bind (wpAny_nextOf_list_item j2' m2' ev fun g3 j2a sb3=>wpAny_pure ?_);refine wpAny_pure (wpAny_pure ?_);refine wpAny_bind (wpAny_newTuple (hsz:=jA rfl) ?_);have sz:g3.objs.size=s.heap.objs.size:=by rw[sb3.1,sb2.1,sb1.1]
 have up:∀c o,c≠z->c≠i1->c≠i2->s.heap.get? c=some o->g3.get? c=some o:=fun c o c1 c2 c3 e=>sb3.extBut _ _ c3 (sb2.extBut _ _ c2 (sb1.extBut _ _ c1 e))
 have zr3:Ax g3 z TI TO (rawInt T) (.bool true):=sb3.extBut _ _ D.i2z.symm (sb2.extBut _ _ D.i1z.symm zr1);refine wpAny_pure ⟨_,rfl,?_⟩
 change Q (.ref g3.objs.size) { s with heap:=g3.push { cls:=.type "tuple",data:=.seq #[u,v] } }
 have last:=hQ (g3.push { cls:=.type "tuple",data:=.seq #[u,v] }) (Heap.get?_push_of_some _ zr3) ((j1a.extBut sb3.extBut D.i12).at fun o e=>Heap.get?_push_of_some _ e) (j2a.at fun o e=>Heap.get?_push_of_some _ e)
  (by rw[<- sz];exact Heap.get?_push_size _ rfl) fun c o c1 c2 c3 e=>Heap.get?_push_of_some _ (up c o c1 c2 c3 e)
 rw[sz];exact last
theorem JW {z TI TO T i1 i2 l1 l2:Addr} {k1:Nat} {us:Array Value} {b1:Bool} {o:Obj} {Q:PySem.Fin->Shared->Prop} (hh:A.handled=none) (D:ZipApart z TI TO i1 i2 l1 l2) (zr:Ax s.heap z TI TO (rawInt T) (.bool b1)) (al:s.heap.get? T=some o)
  (pt:IsPair s.heap TI (.ref i1) (.ref i2)) (j1:s.heap.IsListIter i1 l1 k1) (m1:s.heap.IsList l1 us) (eu:us[k1]?=none)
  (hE:∀h' e,(∀c o,c≠z->c≠i1->c≠i2->s.heap.get? c=some o->h'.get? c=some o)->(∃o,h'.get? e=some o/\o.cls=.type "StopIteration")->E (.ref e) { s with heap:=h' }) :
  wpAny (model prog w) A (Builtin.«zip.__next__» ⟨[.ref z],[]⟩) Q E s:=by
 change wpAny _ _ (field (Value.ref z) 2 >>= _) _ _ s
 refine wpAny_bind (wpAny_field zr rfl (x:=.bool false) rfl ?_)
 change wpAny _ _ (field (Value.ref z) 3 >>= _) _ _ s
 refine wpAny_bind (wpAny_field zr rfl (x:=.ref TI) rfl (wpAny_bind (wpAny_seqItems pt rfl ?_)))
 change wpAny _ _ (Builtin.SmallTypes.ownedTupleIsFree (Value.ref z) >>= _) _ _ s
 refine wpAny_bind (zS zr al fun g1 zr1 sb1=>?_);simp only[iY,if_false];refine wpAny_bind ?_;rw[<- Array.forIn_toList];simp only[K4,BZ];refine wpAny_bind (wpAny_bind (wpAny_holding ?_))
 change wpAny _ _ (Builtin.SmallTypes.nextOf (Value.ref i1) >>= _) _ _ _
 exact wpAny_bind (wpAny_nextOf_list_end hh (j1.extBut sb1.extBut D.i1z) (m1.extBut sb1.extBut D.l1z) eu fun g2 e xb he=>hE g2 e (fun c o c1 c2 _ q=>xb _ _ c2 (sb1.extBut _ _ c1 q)) he)
theorem Ij {z TI TO T i1 i2 l1 l2:Addr} {k1 k2:Nat} {us ws:Array Value} {u v:Value} {b1:Bool} {o:Obj} {Q:Option Value->Shared->Prop} (D:ZipApart z TI TO i1 i2 l1 l2) (zr:Ax s.heap z TI TO (rawInt T) (.bool b1)) (al:s.heap.get? T=some o)
  (pt:IsPair s.heap TI (.ref i1) (.ref i2)) (j1:s.heap.IsListIter i1 l1 k1) (j2:s.heap.IsListIter i2 l2 k2) (m1:s.heap.IsList l1 us) (m2:s.heap.IsList l2 ws) (eu:us[k1]?=some u) (ev:ws[k2]?=some v)
  (hQ:∀h',Ax h' z TI TO (rawInt T) (.bool true)->h'.IsListIter i1 l1 (k1+1)->h'.IsListIter i2 l2 (k2+1)->IsPair h' s.heap.objs.size u v->(∀c o,c≠z->c≠i1->c≠i2->s.heap.get? c=some o->h'.get? c=some o)->Q (some (.ref s.heap.objs.size)) { s with heap:=h' }) :
  wpAny (model prog w) A (pyNext (.ref z)) Q E s:=by
 have ty:s.TypeIs (.ref z) "zip":=⟨_,zr,rfl⟩;unfold pyNext;refine wpAny_bind (wpAny_attempt (wpAny_callSpecial?_slot (name:=Str.ofString "__next__") ty qC (wpAny_call_entry qC ty PySem.F.entry_zip_next ?_ (PZ _))));exact Io D zr al pt j1 j2 m1 m2 eu ev fun h' a1 a2 a3 a4 a5=>wpAny_pure (hQ h' a1 a2 a3 a4 a5)
theorem Ii {z TI TO T i1 i2 l1 l2:Addr} {k1:Nat} {us:Array Value} {b1:Bool} {o:Obj} {Q:Option Value->Shared->Prop} (hh:A.handled=none) (D:ZipApart z TI TO i1 i2 l1 l2) (zr:Ax s.heap z TI TO (rawInt T) (.bool b1)) (al:s.heap.get? T=some o)
  (pt:IsPair s.heap TI (.ref i1) (.ref i2)) (j1:s.heap.IsListIter i1 l1 k1) (m1:s.heap.IsList l1 us) (eu:us[k1]?=none)
  (hQ:∀h',(∀c o,c≠z->c≠i1->c≠i2->s.heap.get? c=some o->h'.get? c=some o)->Q none { s with heap:=h' }):wpAny (model prog w) A (pyNext (.ref z)) Q E s:=by
 have ty:s.TypeIs (.ref z) "zip":=⟨_,zr,rfl⟩;unfold pyNext;refine wpAny_bind (wpAny_attempt (wpAny_callSpecial?_slot (name:=Str.ofString "__next__") ty qC (wpAny_call_entry qC ty PySem.F.entry_zip_next ?_ (PZ _))));refine JW hh D zr al pt j1 m1 eu fun h' e kk ⟨oe,he,hc⟩=>?_
 exact wpAny_bind (wpAny_isInstance (T:="StopIteration") (b:=true) ⟨oe,he,hc⟩ isSubtype_stop (wpAny_pure (hQ _ kk)))
end
section
variable {X:Cx} {pins:List (Addr×Obj)} {σ:St} {H:Hp} {s:Shared}
theorem Inv.moved {h':Heap} {ch:List Addr} {g':Array GenState} {d':Drawn} {t':Nat} (I:Inv X pins σ H s) (fx:∀b∈ch,kn X pins H b) (up:∀b o,b∉ch->s.heap.get? b=some o->h'.get? b=some o) (hg:AllBare g') :
  Inv X pins σ H { s with heap:=h',gens:=g',drawn:=d',toks:=t' }:=by
 have nx:∀b o,H b=some o->b∉ch:=fun b o e hb=>by have:=(fx b hb).1;rw[this] at e;cases e
 refine I.step (ch:=ch) (fun b hb=>?_) (fun b o _ _ hb e _=>up b o hb e) (fun b o _ _ hb e _=>⟨o.slots,up b o hb e⟩) (fun b o hb e n=>n) (fun b o hb e=>⟨o,up b o hb e⟩) (fun b q e=>e) (fun b o q e=>e) (fun b q e=>⟨#[],by rw[e];simp⟩) (fun m hm=>?_) (fun b o e=>?_) hg
 ·obtain ⟨_,f1,_,f3,f4,f5⟩:=fx b hb;exact ⟨f3,f1,f4,f5⟩
 ·obtain ⟨o,es,ep,ho,r⟩:=hm;exact ⟨o,es,ep,up _ o (fun z=>(fx _ z).2.1 rfl) ho,r⟩
 ·refine (I.hok b o e).stay (fun c v' hc q=>up c v' ?_ q) (fun c q=>q) fun c xs q=>q
  rcases hc with rfl | hc
  ·exact nx _ _ e
  ·exact nx _ _ hc
theorem Inv.track {p:Addr} {o:HO} (I:Inv X pins σ H s) (fp:kn X pins H p) (new:js X.prog X.w (upd H p o) s.heap p o):Inv X pins σ (upd H p o) s:=by
 have nt:∀{b:Addr} {u:HO},H b=some u->b≠p:=fun e z=>by rw[z,fp.1] at e;cases e
 refine I.step (h':=s.heap) (g':=s.gens) (d':=s.drawn) (t':=s.toks) (ch:=[p]) (fun b hb=>?_) (fun b o _ _ _ e _=>e) (fun b o _ _ _ e _=>⟨o.slots,e⟩) (fun b o hb e n=>?_) (fun b o _ e=>⟨o,e⟩) (fun b q e=>by rw[br (nt e)];exact e) (fun b o q e=>by rw[br (nt e)];exact e)
  (fun b q e=>⟨#[],by rw[br (nt e),e];simp⟩) (fun m hm=>hm) (fun b u e=>?_) I.bare
 ·have e:b=p:=by simpa using hb
  subst e;obtain ⟨_,f1,_,f3,f4,f5⟩:=fp;exact ⟨f3,f1,f4,f5⟩
 ·rw[br fun z=>hb (by simp [z])];exact n
 ·by_cases hb:b=p
  ·subst hb;rw[aF] at e;cases e;exact new
  ·rw[br hb] at e;exact (I.hok b u e).stay (fun c v _ q=>q) (fun c q=>by rw[br (nt q)];exact q) fun c xs q=>by rw[br (nt q)];exact q
end
def M7 (H:Hp) (p:V×V) (x:V):Prop:=∃T,x=.ref T/\H T=some (.tup [p.1,p.2])
theorem M7.same {H H':Hp} {p:V×V} {x:V} (h:M7 H p x) (e:aE H H'):M7 H' p x:=by obtain ⟨T,q,g⟩:=h;exact ⟨T,q,e _ _ g⟩
def Zst (h:Heap) (z TI TO:Addr) (base:Nat):Prop:=(∃a b,IsPair h TO a b)/\(IsZip h z TI TO .none\/∃(T:Addr) (b1:Bool) (o:Obj),Ax h z TI TO (rawInt T) (.bool b1)/\h.get? T=some o/\@LE.le Nat instLENat base T)
theorem B6 {h:Heap} {z TI TO i1 i2 l1 l2:Addr} {f0 f1 a b:Value} {k1 k2:Nat} {xs ys:Array Value} (hz:Ax h z TI TO f0 f1) (hTI:IsPair h TI (.ref i1) (.ref i2)) (hTO:IsPair h TO a b) (h1:h.IsListIter i1 l1 k1) (h2:h.IsListIter i2 l2 k2) (hl1:h.IsList l1 xs) (hl2:h.IsList l2 ys) (hT:TI≠TO) (hi:i1≠i2):ZipApart z TI TO i1 i2 l1 l2:=by
 obtain ⟨o1,g1,c1,_⟩:=h1;obtain ⟨o2,g2,c2,_⟩:=h2;obtain ⟨p1,q1,d1,_⟩:=hl1;obtain ⟨p2,q2,d2,_⟩:=hl2;have zt:Value.type "zip"≠.type "tuple":=nM (by decide);have it:Value.type "list_iterator"≠.type "tuple":=nM (by decide);have iz:Value.type "list_iterator"≠.type "zip":=nM (by decide);have lz:Value.type "list"≠.type "zip":=nM (by decide);have lt:Value.type "list"≠.type "tuple":=nM (by decide);have li:Value.type "list"≠.type "list_iterator":=nM (by decide)
 exact ⟨cU hTI hz zt.symm,cU hTO hz zt.symm,cU g1 hz (by rw[c1];exact iz),cU g2 hz (by rw[c2];exact iz),hT,cU hTI g1 (by rw[c1];exact it.symm),cU hTI g2 (by rw[c2];exact it.symm),cU hTO g1 (by rw[c1];exact it.symm),cU hTO g2 (by rw[c2];exact it.symm),hi,
  cU q1 hz (by rw[d1];exact lz),cU q1 hTO (by rw[d1];exact lt),cU q1 g1 (by rw[d1,c1];exact li),cU q1 g2 (by rw[d1,c2];exact li),cU q2 hz (by rw[d2];exact lz),cU q2 hTO (by rw[d2];exact lt),cU q2 g1 (by rw[d2,c1];exact li),cU q2 g2 (by rw[d2,c2];exact li)⟩
section
variable {X:Cx} {pins:List (Addr×Obj)} {σ:St}
theorem kn.heap {H H':Hp} {b:Addr} (f:kn X pins H b) (e:H' b=none):kn X pins H' b:=⟨e,f.2⟩
structure C6 where
 z:Addr
 TI:Addr
 TO:Addr
 i1:Addr
 i2:Addr
 S:Addr
 base:Nat
def C6.all (a:C6):List Addr:=[a.z,a.TI,a.TO,a.i1,a.i2,a.S]
structure C6.Ok (a:C6):Prop where
 tt:a.TI≠a.TO
 ii:a.i1≠a.i2
 Sz:a.S≠a.z
 STI:a.S≠a.TI
 STO:a.S≠a.TO
 Si1:a.S≠a.i1
 Si2:a.S≠a.i2
 lt:∀b∈a.all,@LT.lt Nat instLTNat b a.base
structure Mv (X:Cx) (pins:List (Addr×Obj)) (σ:St) (H1:Hp) (a:C6) (l1 l2:Addr) (i:Nat) (H:Hp) (s:Shared):Prop where
 inv:Inv X pins σ H s
 same:aE H1 H
 fps:∀b∈a.all,kn X pins H b
 sz:a.base<=s.heap.objs.size
 zst:Zst s.heap a.z a.TI a.TO a.base
 pt:IsPair s.heap a.TI (.ref a.i1) (.ref a.i2)
 j1:s.heap.IsListIter a.i1 l1 i
 j2:s.heap.IsListIter a.i2 l2 i
variable {a:C6} {l1 l2:Addr} {H1 H:Hp} {s:Shared} {i:Nat} {xs ys:List V}
theorem Mv.push {h':Heap} (L:Mv X pins σ H1 a l1 l2 i H s) (O:a.Ok) (k:∀b o,b≠a.S->s.heap.get? b=some o->h'.get? b=some o) (hz:h'.objs.size=s.heap.objs.size):Mv X pins σ H1 a l1 l2 i H { s with heap:=h' }:=by
 refine ⟨L.inv.moved (g':=s.gens) (d':=s.drawn) (t':=s.toks) (ch:=[a.S]) (fun b hb=>?_) (fun b o hb e=>k b o (fun z=>hb (by simp [z])) e) L.inv.bare,L.same,L.fps,by show a.base<=h'.objs.size;rw[hz];exact L.sz,?_,k _ _ O.STI.symm L.pt,L.j1.at fun o e=>k _ o O.Si1.symm e,L.j2.at fun o e=>k _ o O.Si2.symm e⟩
 ·have e:b=a.S:=by simpa using hb
  rw[e];exact L.fps _ (by simp [C6.all])
 ·obtain ⟨⟨c,d,z0⟩,z4⟩:=L.zst;refine ⟨⟨c,d,k _ _ O.STO.symm z0⟩,?_⟩;rcases z4 with z1 | ⟨T,b1,o,z1,z2,z3⟩
  ·exact .inl (k _ _ O.Sz.symm z1)
  ·refine .inr ⟨T,b1,o,k _ _ O.Sz.symm z1,k _ _ (fun e=>?_) z2,z3⟩;have:=O.lt a.S (by simp [C6.all]);rw[<- e] at this;exact absurd this (Nat.not_lt.mpr z3)
theorem IQ {A':Around} {E:Value->Shared->Prop} {Q:Option Value->Shared->Prop} (O:a.Ok) (q1:bM X.K H1 l1 xs) (q2:bM X.K H1 l2 ys) {x y:V} (ex:xs[i]?=some x) (ey:ys[i]?=some y) (L:Mv X pins σ H1 a l1 l2 i H s)
  (hQ:∀s',Mv X pins σ H1 a l1 l2 (i+1) (upd H s.heap.objs.size (.tup [x,y])) s'->(∀c o,c∉[a.z,a.TO,a.i1,a.i2]->s.heap.get? c=some o->s'.heap.get? c=some o)->H s.heap.objs.size=none->Q (some (.ref s.heap.objs.size)) s'):wpAny (model X.prog X.w) A' (pyNext (.ref a.z)) Q E s:=by
 obtain ⟨I,sm,fps,sz,zst,pt,j1,j2⟩:=id L;obtain ⟨us,ru,pu,_⟩:=I.list (sm.seq q1);obtain ⟨ws,rw',pw,_⟩:=I.list (sm.seq q2);obtain ⟨u,eu,r1⟩:=ru.get ex;obtain ⟨v,ev,r2⟩:=rw'.get ey;have fx:∀b∈[a.z,a.TO,a.i1,a.i2],kn X pins H b:=fun b hb=>fps b (by simp only[C6.all,aI,bp,or_false] at hb ⊢;rcases hb with e | e | e | e <;> simp [e])
 have hT0:H s.heap.objs.size=none:=I.hok.fresh (ar _);have fT:kn X pins H s.heap.objs.size:=I.fpOk (ar _) hT0;have lt:∀b∈a.all,b≠s.heap.objs.size:=fun b hb e=>by have:=O.lt b hb;rw[e] at this;exact absurd this (Nat.not_lt.mpr sz)
 have fin:∀h',(∀c o,c∉[a.z,a.TO,a.i1,a.i2]->s.heap.get? c=some o->h'.get? c=some o)->IsPair h' s.heap.objs.size u v->IsPair h' a.TI (.ref a.i1) (.ref a.i2)->h'.IsListIter a.i1 l1 (i+1)->h'.IsListIter a.i2 l2 (i+1)->Zst h' a.z a.TI a.TO a.base →
   Q (some (.ref s.heap.objs.size)) { s with heap:=h' }:=fun h' up pr pt' j1' j2' zst'=>by
  have I2:Inv X pins σ H { s with heap:=h' }:=I.moved (g':=s.gens) (d':=s.drawn) (t':=s.toks) fx up I.bare;have I3:Inv X pins σ (upd H s.heap.objs.size (.tup [x,y])) { s with heap:=h' }:=I2.track fT ⟨jA rfl,[u,v],.cons r1 (.cons r2 .nil),⟨_,pr,rfl,_,rfl⟩⟩;refine hQ _ ⟨I3,sm.trans (aE.new hT0),fun b hb=>(fps b hb).heap (by rw[br (lt b hb)];exact (fps b hb).1),?_,zst',pt',j1',j2'⟩ up hT0;exact ah sz (aR (Heap.lt_size pr))
 obtain ⟨⟨c,d,z0⟩,z4⟩:=zst;rcases z4 with z1 | ⟨T,b1,o,z1,z2,z3⟩
 ·have D:=B6 z1 pt z0 j1 j2 pu.isList pw.isList O.tt O.ii;refine wpAny_pyNext_zip_item D z1 pt z0 j1 j2 pu.isList pw.isList (x:=u) (y:=v) (by simpa using eu) (by simpa using ev) fun h' a1 a2 a3 a4 a5 a6 hk=>?_
  have up:∀c o,c∉[a.z,a.TO,a.i1,a.i2]->s.heap.get? c=some o->h'.get? c=some o:=fun c o hc e=>by
   simp only[aI,bp,or_false,not_or] at hc;exact hk c o hc.1 hc.2.1 hc.2.2.1 hc.2.2.2 e
  exact fin h' up a5 (hk _ _ D.TIz D.TITO D.TIi1 D.TIi2 pt) a3 a4 ⟨⟨_,_,a2⟩,.inr ⟨s.heap.objs.size,false,_,a1,a5,sz⟩⟩
 ·have D:=B6 z1 pt z0 j1 j2 pu.isList pw.isList O.tt O.ii;refine Ij D z1 z2 pt j1 j2 pu.isList pw.isList (u:=u) (v:=v) (by simpa using eu) (by simpa using ev) fun h' a1 a3 a4 a5 hk=>?_
  have up:∀c o,c∉[a.z,a.TO,a.i1,a.i2]->s.heap.get? c=some o->h'.get? c=some o:=fun c o hc e=>by
   simp only[aI,bp,or_false,not_or] at hc;exact hk c o hc.1 hc.2.2.1 hc.2.2.2 e
  have Tn:∀b∈a.all,T≠b:=fun b hb e=>by have:=O.lt b hb;rw[<- e] at this;exact absurd this (Nat.not_lt.mpr z3)
  exact fin h' up a5 (hk _ _ D.TIz D.TIi1 D.TIi2 pt) a3 a4 ⟨⟨_,_,hk _ _ D.TOz D.TOi1 D.TOi2 z0⟩,.inr ⟨T,true,o,a1,hk _ _ (Tn _ (by simp [C6.all])) (Tn _ (by simp [C6.all])) (Tn _ (by simp [C6.all])) z2,z3⟩⟩
theorem IP {A':Around} {E:Value->Shared->Prop} {Q:Option Value->Shared->Prop} (hh:A'.handled=none) (O:a.Ok) (q1:bM X.K H1 l1 xs) (q2:bM X.K H1 l2 ys) (hi:xs.length<=i) (L:Mv X pins σ H1 a l1 l2 i H s)
  (hQ:∀s',Inv X pins σ H s'->(∀c o,c∉[a.z,a.TO,a.i1,a.i2]->s.heap.get? c=some o->s'.heap.get? c=some o)->Q none s'):wpAny (model X.prog X.w) A' (pyNext (.ref a.z)) Q E s:=by
 obtain ⟨I,sm,fps,sz,zst,pt,j1,j2⟩:=id L;obtain ⟨us,ru,pu,_⟩:=I.list (sm.seq q1);obtain ⟨ws,rw',pw,_⟩:=I.list (sm.seq q2);have lx:=ru.length;have none1:us.toArray[i]?=none:=by simp;lia
 have fx:∀b∈[a.z,a.TO,a.i1,a.i2],kn X pins H b:=fun b hb=>fps b (by simp only[C6.all,aI,bp,or_false] at hb ⊢;rcases hb with e | e | e | e <;> simp [e])
 have fin:∀h',(∀c o,c∉[a.z,a.TO,a.i1,a.i2]->s.heap.get? c=some o->h'.get? c=some o)->Q none { s with heap:=h' }:=fun h' up=>hQ _ (I.moved (g':=s.gens) (d':=s.drawn) (t':=s.toks) fx up I.bare) up
 obtain ⟨⟨c,d,z0⟩,z4⟩:=zst;rcases z4 with z1 | ⟨T,b1,o,z1,z2,z3⟩
 ·have D:=B6 z1 pt z0 j1 j2 pu.isList pw.isList O.tt O.ii;refine wpAny_pyNext_zip_end hh D z1 pt z0 j1 j2 pu.isList pw.isList (.inl none1) fun h' hk=>fin h' fun c o hc e=>?_
  simp only[aI,bp,or_false,not_or] at hc;exact hk c o hc.1 hc.2.1 hc.2.2.1 hc.2.2.2 e
 ·have D:=B6 z1 pt z0 j1 j2 pu.isList pw.isList O.tt O.ii;refine Ii hh D z1 z2 pt j1 pu.isList none1 fun h' hk=>fin h' fun c o hc e=>?_
  simp only[aI,bp,or_false,not_or] at hc;exact hk c o hc.1 hc.2.2.1 hc.2.2.2 e
theorem IT {A':Around} {R:Result->Shared->Prop} (hh:A'.handled=none) (O:a.Ok) (hz:xs.length<=sizeLine) (hl:ys.length=xs.length) (q1:bM X.K H1 l1 xs) (q2:bM X.K H1 l2 ys)
  (fin:∀s' H' ts acc c,Inv X pins σ H' s'->aE H1 H'->kn X pins H' a.S->s'.heap.get? a.S=some (lobj acc c)->cA ts acc->Paired (M7 H') (xs.zip ys) ts->R (.ok (.ret .none)) s') :
  ∀(k i:Nat) (s:Shared) (H:Hp) (ts:List V) (acc:List Value) (c:Nat),xs.length - i=k->i<=xs.length->Mv X pins σ H1 a l1 l2 i H s->s.heap.get? a.S=some (lobj acc c)->cA ts acc->Paired (M7 H) ((xs.zip ys).take i) ts →
   codeAny (model X.prog X.w) A' (.builtin "list.extend.loop" ⟨[.ref a.S,.ref a.z,.none],[]⟩) R s:=by
 have Sn:a.S∉[a.z,a.TO,a.i1,a.i2]:=fun h=>by
  simp only[aI,bp,or_false] at h;rcases h with e | e | e | e
  ·exact O.Sz e
  ·exact O.STO e
  ·exact O.Si1 e
  ·exact O.Si2 e
 intro k
 induction k with
 | zero =>
  intro i s H ts acc c hk hi L gS rv prs;have e:i=xs.length:=by lia
  refine codeAny_builtin OF ?_;rw[Around.under_plainId lY _]
  change wpAny _ A'.in1 (pyNext (Value.ref a.z) >>= _) _ _ s
  refine wpAny_bind (IP hh O q1 q2 (by lia) L fun s' I' up=>wpAny_pure (fin s' H ts acc c I' L.same (L.fps _ (by simp [C6.all])) (up _ _ Sn gS) rv ?_));rwa [aH (by rw[AG];lia)] at prs
 | succ k ih =>
  intro i s H ts acc c hk hi L gS rv prs;have hlt:i < xs.length:=by lia
  have lt:=prs.length;have la:=rv.length;refine codeAny_builtin OF ?_;rw[Around.under_plainId lY _]
  change wpAny _ A'.in1 (pyNext (Value.ref a.z) >>= _) _ _ s
  refine wpAny_bind (IQ O q1 q2 (x:=xs[i]) (y:=ys[i]'(by lia)) (by simp [hlt]) (by simp) L fun s' L' up hT=>?_);have gS':=up _ _ Sn gS
  change wpAny _ A'.in1 (updateSeq a.S (·.push (Value.ref s.heap.objs.size)) >>= _) _ _ s'
  have small:acc.length<=sizeLine:=by
   rw[cT,AG] at lt
   lia
  refine wpAny_bind (wpAny_updateSeq gS' rfl (wpAny_pure ⟨plainId_quiet lY _,?_⟩) (by rw[aL];exact small) (by
   show (acc.toArray.push (Value.ref s.heap.objs.size)).size<=sizeLine+1
   rw[Array.size_push,aL]
   lia))
  have gS2:=lF gS' (fun b=>b.push (Value.ref s.heap.objs.size));have e2:(acc.toArray.push (Value.ref s.heap.objs.size))=(acc++[Value.ref s.heap.objs.size]).toArray:=by simp
  rw[e2] at gS2;refine ih (i+1) _ (upd H s.heap.objs.size (.tup [xs[i],ys[i]'(by lia)])) (ts++[.ref s.heap.objs.size]) (acc++[.ref s.heap.objs.size]) _ (by lia) hlt (L'.push O (fun b o hb e=>(Heap.get?_update_other _ _ (Ne.symm hb)).trans e) (Heap.size_update ..)) gS2 (rv.append (show cA [V.ref s.heap.objs.size] [Value.ref s.heap.objs.size] from .cons rfl .nil)) ?_;have zp:(xs.zip ys)[i]?=some (xs[i],ys[i]'(by lia)):=by simp [OH,hlt]
  rw[take_snoc zp];exact (Paired.imp' (fun _ _ z=>z.same (aE.new hT)) prs).snoc ⟨_,rfl,aF⟩
theorem Ew:typeLookup (.type "zip") "__len__"=pure Option.none:=by rw[typeLookup_type,builtinLookup_eq_fast];kernel_rfl
theorem Dg:typeLookup (.type "zip") "__length_hint__"=pure Option.none:=by rw[typeLookup_type,builtinLookup_eq_fast];kernel_rfl
theorem IS {A' : Around} {R : Result → Shared → Prop} (hh : A'.handled = none) (O : a.Ok) (hz : xs.length ≤ sizeLine) (hl : ys.length = xs.length) (q1 : bM X.K H1 l1 xs) (q2 : bM X.K H1 l2 ys) (L : Mv X pins σ H1 a l1 l2 0 H s) (gS : s.heap.get? a.S = some (lobj [] 0)) (z0 : IsZip s.heap a.z a.TI a.TO .none)
    (fin : ∀ s' H' ts acc c, Inv X pins σ H' s' → aE H1 H' → kn X pins H' a.S → s'.heap.get? a.S = some (lobj acc c) → cA ts acc → Paired (M7 H') (xs.zip ys) ts → R (.ok (.ret .none)) s') :
    wpAny (model X.prog X.w) A'.in1 (Builtin.«list.__init__» ⟨[.ref a.S, .ref a.z], []⟩) (fun fl s' => match fl with | .done f => R (.ok f) s' | .again c' => c'.quiet = true /\ codeAny (model X.prog X.w) A' c' R s') (fun e s' => R (.error e) s') s := by
  change wpAny _ A'.in1 (do let old <- Builtin.List.listItems (Value.ref a.S); Builtin.List.listUpdate (Value.ref a.S) (fun _ => #[]); letGo old.toList.reverse; Builtin.List.listExtendWith (Value.ref a.S) (Value.ref a.z) Value.none) _ _ s
  refine wpAny_bind ?_;unfold Builtin.List.listItems;refine wpAny_bind (wpAny_seqItems gS rfl (wpAny_pure ?_))
  change wpAny _ A'.in1 (updateSeq a.S (fun _ => #[]) >>= fun _ => letGo (#[] : Array Value).toList.reverse >>= fun _ => Builtin.List.listExtendWith (Value.ref a.S) (Value.ref a.z) Value.none) _ _ s
  refine wpAny_bind (wpAny_updateSeq gS rfl ?_);have g1 := lF gS (fun _ => (#[] : Array Value));obtain ⟨n1, g1⟩ : ∃ n1, (s.heap.update a.S (Obj.mapSeq fun _ => (#[] : Array Value))).get? a.S = some (lobj [] n1) := ⟨_, g1⟩;have L1 := L.push (h' := s.heap.update a.S (Obj.mapSeq fun _ => (#[] : Array Value))) O (fun b o hb e => (Heap.get?_update_other _ _ (Ne.symm hb)).trans e) (Heap.size_update ..);have z1 : IsZip (s.heap.update a.S (Obj.mapSeq fun _ => (#[] : Array Value))) a.z a.TI a.TO .none := (Heap.get?_update_other _ _ O.Sz).trans z0;refine wpAny_bind (wpAny_letGo ?_);unfold Builtin.List.listExtendWith;have ty : Shared.TypeIs { s with heap := s.heap.update a.S (Obj.mapSeq fun _ => (#[] : Array Value)) } (.ref a.z) "zip" := ⟨_, z1, rfl⟩;refine wpAny_bind (wpAny_typeOf ty ?_);have h1 : Builtin.List.listSameRef (.ref a.S) (.ref a.z) = false := by simp [Builtin.List.listSameRef, O.Sz]
  have h2 : (Value.type "zip" == Value.type "list") = false := by decide
  have h3 : (Value.type "zip" == Value.type "tuple") = false := by decide
  simp only [h1, h2, h3, Bool.or_false, iY, if_false];refine wpAny_bind (wpAny_pyIter_zip z1 (wpAny_bind (wpAny_holding ?_)));unfold Builtin.List.listLengthHint;refine wpAny_bind (wpAny_specialOf ty Ew ?_)
  change wpAny _ A'.in1 (specialOf (Value.ref a.z) (Str.ofString "__length_hint__") >>= _) _ _ _
  refine wpAny_bind (wpAny_specialOf ty Dg (wpAny_pure ?_))
  change wpAny _ A'.in1 (rule "list.extend.makes-room" >>= fun _ => Builtin.List.listTouch (Value.ref a.S) >>= fun _ => again (.builtin "list.extend.loop" ⟨[Value.ref a.S, Value.ref a.z, Value.none], []⟩)) _ _ _
  refine wpAny_bind (wpAny_rule (wpAny_bind ?_))
  change wpAny _ A'.in1 (updateSeq a.S (·.push Value.none) >>= fun _ => updateSeq a.S (·.pop)) _ _ _
  refine wpAny_bind (wpAny_updateSeq g1 rfl ?_);have g2 := lF g1 (fun b => b.push Value.none);obtain ⟨n2, g2⟩ : ∃ n2, ((s.heap.update a.S (Obj.mapSeq fun _ => (#[] : Array Value))).update a.S (Obj.mapSeq fun b => b.push Value.none)).get? a.S = some (lobj [Value.none] n2) := ⟨_, g2⟩;have L2 := L1.push (h' := (s.heap.update a.S (Obj.mapSeq fun _ => (#[] : Array Value))).update a.S (Obj.mapSeq fun b => b.push Value.none)) O (fun b o hb e => (Heap.get?_update_other _ _ (Ne.symm hb)).trans e) (Heap.size_update ..);refine wpAny_updateSeq g2 rfl ?_ (jA rfl);have g3 := lF g2 (fun b => b.pop);have L3 := L2.push (h' := ((s.heap.update a.S (Obj.mapSeq fun _ => (#[] : Array Value))).update a.S (Obj.mapSeq fun b => b.push Value.none)).update a.S (Obj.mapSeq fun b => b.pop)) O (fun b o hb e => (Heap.get?_update_other _ _ (Ne.symm hb)).trans e) (Heap.size_update ..);exact wpAny_pure ⟨plainId_quiet lY _, IT hh O hz hl q1 q2 fin _ 0 _ H [] [] _ rfl (aX _) L3 g3 .nil .nil⟩
end
section
variable {X:Cx}
theorem Nj (n:Nat):C6.Ok ⟨n+4,n+2,n+3,n,n+1,n+5,n+5+1⟩:=by
 have ne:∀p q:Nat,p≠q->@Ne Addr p q:=fun _ _ h=>h
 refine ⟨ne (n+2) (n+3) (by lia),ne n (n+1) (by lia),ne (n+5) (n+4) (by lia),ne (n+5) (n+2) (by lia),ne (n+5) (n+3) (by lia),ne (n+5) n (by lia),ne (n+5) (n+1) (by lia),fun b hb=>?_⟩;have hb':b∈[n+4,n+2,n+3,n,n+1,n+5]:=hb;show @LT.lt Nat instLTNat b (n+5+1)
 simp only[aI,bp,or_false] at hb';rcases hb' with e | e | e | e | e | e <;> (rw[e];exact bA (eB _) (by lia))
def Dk (K:PySem.W.Frag) (ta:TA):TE:=fun σ H Q=>ta σ H fun vs H1=>∃(l1 l2:Addr) (xs ys:List V),vs=[.ref l1,.ref l2]/\bM K H1 l1 xs/\bM K H1 l2 ys/\ys.length=xs.length /\
 ∀L ts H',aE H1 H'->H1 L=none->H' L=some (.lst ts)->Paired (M7 H') (xs.zip ys) ts->Q (.ref L) H'
theorem EZ {e1 e2:Expr} {ta:TA} {p p2 pos pos2:Pos} (hg:Gl X "list") (hm:X.mg "list"=none) (hg2:Gl X "zip") (hm2:X.mg "zip"=none) (ha:PA X [e1,e2] ta) (hc:X.calm=true:=by rfl)
  (hs:starEach [e1,e2] X.env=[(false,eval e1 X.env),(false,eval e2 X.env)]:=by rfl) (hs2:starEach [e2] X.env=[(false,eval e2 X.env)]:=by rfl)
  (hs3:starEach [Expr.Call (.Name "zip" p2) [e1,e2] [] pos2] X.env=[(false,eval (.Call (.Name "zip" p2) [e1,e2] [] pos2) X.env)]:=by rfl) :
  PE X (.Call (.Name "list" p) [.Call (.Name "zip" p2) [e1,e2] [] pos2] [] pos) (Dk X.K ta):=by
 intro pins s σ H Q I h;refine wpAny_Call_Name_kw (ki I hg hm boot_list ?_);refine PyProof.Rows.callWith_type1 ?_ (by rw[hs3];rfl) rfl;rw[hs3];show wpAny _ _ (spliced ((false,eval (.Call (.Name "zip" p2) [e1,e2] [] pos2) X.env) :: [])) _ _ s
 refine Calls.spliced_cons ?_;refine Call_ (ki I hg2 hm2 boot_zip (PyProof.Rows.callWith_type1 (fL (ha pos2 pins s σ H _ I h) fun us s1 ⟨vs,H1,I1,r1,q1⟩=>?_) (by rw[hs,hs2]) (by rw[hs2];rfl)));obtain ⟨l1,l2,xs,ys,e,qx,qy,hl,q⟩:=q1;subst e;obtain ⟨u,v,rfl,ru,rv⟩:=vals2 r1;cases ru;cases rv;obtain ⟨us,rx,px,hz⟩:=I1.list qx;obtain ⟨ws,ry,py,_⟩:=I1.list qy;refine call_zip_2 px.isList py.isList fun h' a1 a2 a3 a4 a5 a6 hk=>?_
 refine Calls.spliced_nil ?_;have I2:Inv X pins σ H1 { s1 with heap:=h' }:=I1.kept (t':=s1.toks) hk;have up:∀b o,h'.get? b=some o->(h'.push { cls:=.type "list",data:=.seq #[] }).get? b=some o:=fun b o e=>Heap.get?_push_of_some _ e
 have O:C6.Ok ⟨s1.heap.objs.size+4,s1.heap.objs.size+2,s1.heap.objs.size+3,s1.heap.objs.size,s1.heap.objs.size+1,h'.objs.size,h'.objs.size+1⟩:=by
  rw[a6];exact Nj s1.heap.objs.size
 have old:∀b∈(C6.mk (s1.heap.objs.size+4) (s1.heap.objs.size+2) (s1.heap.objs.size+3) s1.heap.objs.size (s1.heap.objs.size+1) h'.objs.size (h'.objs.size+1)).all,s1.heap.objs.size<=b:=fun b hb=>by
  rw[a6] at hb;simp only[C6.all,aI,bp,or_false] at hb;rcases hb with rfl | rfl | rfl | rfl | rfl | rfl <;> first | exact Nat.le_add_right _ _ | exact ar _
 have gS:(h'.push { cls:=.type "list",data:=.seq #[] }).get? h'.objs.size=some (lobj [] 0):=Heap.get?_push_size _ rfl;refine callType_codes (Q₁:=fun ob t=>ob=.ref h'.objs.size/\t={ s1 with heap:=h'.push { cls:=.type "list",data:=.seq #[] } }) PySem.F.called_list (PySem.F.typeCall_list_1 _) PySem.F.entry_list_init (code_list_new _ ⟨rfl,rfl⟩) fun ob t ht=>?_
 obtain ⟨rfl,rfl⟩:=ht;refine ⟨⟨_,gS,rfl⟩,PySem.F.args_list_init_2 _ _,?_⟩
 have L:Mv X pins σ H1 ⟨s1.heap.objs.size+4,s1.heap.objs.size+2,s1.heap.objs.size+3,s1.heap.objs.size,s1.heap.objs.size+1,h'.objs.size,h'.objs.size+1⟩ l1 l2 0 H1 { s1 with heap:=h'.push { cls:=.type "list",data:=.seq #[] } } :=
  ⟨I2.kept (t':=s1.toks) up,aE.refl _,fun b hb=>I1.fpOk (old b hb) (I1.hok.fresh (old b hb)),by rw[Heap.size_push];exact ar _,⟨⟨_,_,up _ _ a3⟩,.inl (up _ _ a1)⟩,up _ _ a2,a4.at fun o e=>up _ o e,a5.at fun o e=>up _ o e⟩
 refine IS (A':=X.A.in1) (I.ok.hd hc) O hz hl qx qy L gS (up _ _ a1) fun s' H' ts acc c I' sm fS gS' vs' prs=>⟨rfl,?_⟩
 have nS:H1 h'.objs.size=none:=I1.hok.fresh (old _ (by simp [C6.all]));have lt:=prs.length;rw[AG] at lt;exact ⟨.ref h'.objs.size,_,I'.track (o:=.lst ts) fS ⟨by lia,acc,c,vs',gS'⟩,rfl,q _ ts _ (sm.trans (aE.new fS.1)) nS aF (Paired.imp' (fun _ _ z=>z.same (aE.new fS.1)) prs)⟩
end
end L2
namespace Nm
def xR:List Int->Int->Int
 | [],m=>m
 | b :: r,m=>xR r (m*(b / g m b))
theorem wN {m b:Int} (hm:0 < m) (hb:0 < b):0 < m*(b / g m b):=iN hm (Fg (t:=m) hb)
theorem CI {m b : Int} : b ∣ m * (b / g m b) := by
  have h1 := Af m b;refine ⟨lo m b, ?_⟩;have h2 : b / g m b * g m b = b := xU m b
  calc m * (b / g m b) = lo m b * g m b * (b / g m b) := by rw [h1]
    _ = lo m b * (b / g m b * g m b) := by rw [mC, lJ (g m b)]
    _ = b * lo m b := by rw [h2, lJ]
theorem Ah:∀{bs:List Int} {m:Int},0 < m->(∀b∈bs,0 < b)->0 < xR bs m
 | [],_,hm,_=>hm
 | b :: r,m,hm,h=>Ah (bs:=r) (wN hm (h b cX)) fun c hc=>h c (bT _ hc)
theorem D3:∀{bs:List Int} {m:Int},m∣xR bs m
 | [],_=>GW _
 | b :: r,m=>Int.dvd_trans (Int.dvd_mul_right m _) (D3 (bs:=r))
theorem DZ:∀{bs:List Int} {m b:Int},b∈bs->b∣xR bs m
 | c :: r,m,b,h=>by
  rcases aI.mp h with rfl | h
  ·exact Int.dvd_trans CI (D3 (bs:=r))
  ·exact DZ (bs:=r) h
end Nm
namespace L2
open PySem PySem.Spec PyProof.Rows Nm
def Fu (K:PySem.W.Frag) (H:Hp) (p:Addr) (ns:List (Int×Int)):Prop:=∃xs,H p=some (.lst xs)/\Paired (fun n x=>Fy K H x n) ns xs
theorem Fu.same {K:PySem.W.Frag} {H H':Hp} {p:Addr} {ns:List (Int×Int)} (h:Fu K H p ns) (e:aE H H'):Fu K H' p ns:=by obtain ⟨xs,g,q⟩:=h;exact ⟨xs,e _ _ g,Paired.imp' (fun _ _ z=>e.num z) q⟩
def DH (K:PySem.W.Frag) (T:String):V->Hp->VK->Prop:=fun x H Q=>HS K T x H Q\/∃a xs b,x=.ref a/\vV K H a xs/\PySem.W.kitOne K (.type "tuple") (.type T)=some b/\Q (.bl b) H
theorem Bx:∀{bs:List Int} {m b:Int},xR (bs++[b]) m=xR bs m*(b / g (xR bs m) b)
 | [],_,_=>rfl
 | c :: r,m,b=>Bx (bs:=r)
def fb (ns:List (Int×Int)) (B:Int):List Int:=ns.map fun n=>n.1*(B / n.2)
def gY (ns:List (Int×Int)):Int:=xR (ns.map (·.2)) 1
def Kw (ns ms:List (Int×Int)):Int:=(List.zipWith (·*·) (fb ns (gY ns)) (fb ms (gY ms))).sum
theorem tH {ns:List (Int×Int)} {n:Int×Int} (h:n∈ns):n.2∣gY ns:=DZ (aB.mpr ⟨n,h,rfl⟩)
theorem EV {σ:St} {H:Hp} {Q:VK} {K:PySem.W.Frag} {ta:TA} (h:ta σ H fun vs H1=>∃(l1 l2:Addr) (xs ys:List V),vs=[.ref l1,.ref l2]/\bM K H1 l1 xs/\bM K H1 l2 ys/\ys.length=xs.length /\
 ∀L ts H',aE H1 H'->H1 L=none->H' L=some (.lst ts)->Paired (M7 H') (xs.zip ys) ts->Q (.ref L) H'):Dk K ta σ H Q:=h
theorem Qt {m b:Int} (hb:0 < b) {k:Nat} (h:Sz k b):Sz k (g m b):=h.le (by
 have h1:(g m b).natAbs=Int.gcd m b:=by unfold g;simp
 rw[h1];exact my (by lia) (by have:=eU (a:=m) (b:=b);exact fJ.mpr this |> fun z=>by simpa using z))
theorem K6 {ts us:List Int} {i:Nat} {pq:V×V} (h:((ts.map V.int).zip (us.map V.int))[i]?=some pq):∃t u,ts[i]?=some t/\us[i]?=some u/\pq=(.int t,.int u):=by
 rw[OH,aD,aD] at h;obtain ⟨h1,h2⟩:=h;cases e1:ts[i]? with
 | none=>rw[e1] at h1;cases h1
 | some t =>
  cases e2:us[i]? with
  | none=>rw[e2] at h2;cases h2
  | some u =>
   rw[e1] at h1;rw[e2] at h2;refine ⟨t,u,rfl,rfl,?_⟩;cases pq;simp at h1 h2;rw[h1,h2]
def HG (K:PySem.W.Frag):Sp:=fun vs H Q _=>∃(p:Addr) (ns:List (Int×Int)),vs=[.ref p,.int ns.length]/\Fu K H p ns/\ns.length<=1000/\(∀n∈ns,Em n)/\∀H',aE H H'->Q (.bl true) H'
theorem LY {X:Cx} {a:Expr} {ta:TE} {pos:Pos} {c:Str} {T:String} {p p2:Pos} (hg:Gl X "isinstance") (hm:X.mg "isinstance"=none) (hb:bootBuiltins c=some (.type T)) (hmc:X.mg c=none) (ha:PE X a ta) (hgc:Gl X c:=by rfl) (hn:c≠"__name__":=by decide)
  (hd:(c == ("__debug__":Str))=false:=by decide) (he:starEach [a,.Name c p2] X.env=[(false,eval a X.env),(false,eval (.Name c p2) X.env)]:=by rfl)
  (hpl:(backTo pos (starEach [.Name c p2] X.env)).any (·.1)=false:=by rfl) (he2:starEach [.Name c p2] X.env=[(false,eval (.Name c p2) X.env)]:=by rfl):PE X (.Call (.Name "isinstance" p) [a,.Name c p2] [] pos) (P8 (DH X.K T) ta):=by
 intro pins s σ H Q I h;refine wpAny_Call_Name_kw (ki I hg hm PyProof.Rows.boot_isinstance ?_);have hA:PA X [a,.Name c p2] (sN ta (sN (tC (.ty T)) Ez)):=ae ha (ae (FR hgc hmc hb rfl hn hd) aj he2) (by rw[he,he2])
 have hq:sN ta (sN (tC (.ty T)) Ez) σ H (fun vs H1=>∃x,vs=[x,.ty T]/\DH X.K T x H1 Q):=by
  show ta σ H fun x H1=>∃x',[x,V.ty T]=[x',V.ty T]/\DH X.K T x' H1 Q
  have e:(fun x H1=>∃x',[x,V.ty T]=[x',V.ty T]/\DH X.K T x' H1 Q)=fun x H1=>DH X.K T x H1 Q:=by
   funext x H1;apply propext;constructor
   ·rintro ⟨x',e,q⟩;cases e;exact q
   ·intro q;exact ⟨x,rfl,q⟩
  rw[e];exact h
 refine PyProof.Rows.callWith_builtin1 (fL (hA pos pins s σ H _ I hq) fun us s1 ⟨vs,H1,I1,r1,x,e,q1⟩=>?_) (by rw[he,he2]) hpl;subst e;obtain ⟨u,w',rfl,ru,rt⟩:=vals2 r1;cases rt;rcases q1 with ⟨t,bb,ty,ek,q⟩ | ⟨ad,xs,bb,rfl,hs,ek,q⟩
 ·exact BA I1 ru ty ek fun tk=>⟨.bl bb,H1,I1.tok tk,rfl,q⟩
 ·cases ru;obtain ⟨its,_,⟨o,g1,g2,_⟩,_⟩:=I1.tuple hs;exact df PySem.W.kitx_tuple I1.kIn ⟨o,g1,g2⟩ ek (fun z=>nomatch z) fun tk=>⟨.bl bb,H1,I1.tok tk,rfl,q⟩
theorem NK {H:Hp} {Q:VK} {l:Addr} {k:Nat} {x:V} (h:H l=some (.lst [x])) (hk:k<=1000) (q:∀p H',aE H H'->H p=none->H' p=some (.lst (List.replicate k x))->Q (.ref p) H'):Pn (.ref l) (.int k) H Q :=
 ⟨l,k,[x],rfl,rfl,h,by lia,by lia,aR (bE (by simp;lia)),fun p hp=>q p _ (aE.new hp) hp (by rw[aF];simp)⟩
theorem Ov {xs:List V} {k:Nat} (h:k<=xs.length):uR xs none (some (k:Int))=xs.take k:=by
 unfold uR;rw[HT.DB,HT.yQ,sJ h];simp
theorem zR {α β:Type} {F:α->β->Prop} {x:α} {y:β} (h:F x y):∀m:Nat,Paired F (List.replicate m x) (List.replicate m y)
 | 0=>.nil
 | m+1=>.cons h (zR h m)
theorem ff {n a:Nat} (h:a < n):IJ n (a:Int)=some a:=by
 unfold IJ;rw[if_pos (by lia),if_pos (by lia),Int.toNat_natCast]
theorem KC {xs:List V} {k:Nat}:uR xs none (some (k:Int))=xs.take k:=by
 by_cases h:k<=xs.length
 ·exact Ov h
 ·unfold uR;rw[HT.DB,HT.yQ,Nat.min_eq_right (by lia),aH (by simp),aH (by lia)];rfl
theorem sV {α β:Type} {F:α->β->Prop}:∀{l1:List α} {l2:List β} (_:Paired F l1 l2) (k:Nat),Paired F (l1.take k) (l2.take k)
 | _,_,.nil,k=>by simp;exact .nil
 | _,_,.cons h r,0=>.nil
 | _,_,.cons h r,k+1=>.cons h (sV r k)
def LR (K:PySem.W.Frag):List V->Hp->VK->Prop:=fun xs H Q=>∃p ys,xs=[.ref p]/\(bM K H p ys\/vV K H p ys)/\∀l,H l=none->Q (.ref l) (upd H l (.lst ys))
theorem kN {X:Cx} (K:PySem.W.Frag) (hK:X.K=K):tY X (.type "list") (LR K):=by subst hK;exact rB
theorem aE.none {H H':Hp} {l:Addr} (s:aE H H') (h:H' l=Option.none):H l=Option.none:=by
 cases e:H l with
 | none=>rfl
 | some o=>have:=s _ _ e;rw[h] at this;cases this
theorem Jb {b:Int} (h:b.natAbs<=1000000):Sz 20 b:=aY h (by decide)
theorem cR.none {H H':Hp} {b l:Addr} (u:cR b H H') (B:jz H' b) (h:H' l=Option.none):H l=Option.none:=by
 cases e:H l with
 | none=>rfl
 | some o =>
  by_cases z:l=b
  ·obtain ⟨_,_,_,_,_,e2,_⟩:=B;rw[<- z,h] at e2;cases e2
  ·have:=u.1 l o e z;rw[h] at this;cases this
end L2
namespace Nm
def nm (q:Rat):Int×Int:=(q.num,(q.den:Int))
theorem iF (q:Rat):0 < (nm q).2:=by have:=q.den_pos;show 0 < (q.den:Int);lia
theorem E9 (q:Rat):Int.gcd (nm q).1 (nm q).2=1:=q.reduced
theorem Od {p q:Rat} (h:nm p=nm q):p=q:=by
 have h1:p.num=q.num:=congrArg Prod.fst h;have h2:(p.den:Int)=q.den:=congrArg Prod.snd h;exact Rat.ext h1 (by lia)
theorem mG (q : Rat) : (q.num : Rat) = q * (q.den : Rat) := by
  have h := Rat.num_divInt_den q;rw [Rat.divInt_eq_div] at h
  have hd : ((q.den : Int) : Rat) ≠ 0 := by
    intro z;have z := yE.mp z;have := q.den_pos
    lia
  have e : ((q.den : Int) : Rat) = (q.den : Rat) := bx _
  calc (q.num : Rat) = (q.num : Rat) / ((q.den : Int) : Rat) * ((q.den : Int) : Rat) := (Rat.div_mul_cancel hd).symm
    _ = q * (q.den : Rat) := by rw [h, e]
theorem Pu {a b:Int} {q:Rat} (hb:0 < b) (hg:Int.gcd a b=1) (e:q*(b:Rat)=(a:Rat)):(a,b)=nm q:=by
 have h1:a*(q.den:Int)=q.num*b:=by
  apply dd.mp;rw[aP,aP,<- e,mG,bx];grind
 obtain ⟨e1,e2⟩:=uniq hb (iF q) hg (E9 q) h1;exact Prod.ext e1 e2
theorem mJ {t b:Int} {q:Rat} (hb:0 < b) (e:q*(b:Rat)=(t:Rat)):(lo t b,hi t b)=nm q:=by
 refine Pu (Fg hb) (DY (by lia)) ?_;have h:=Ff t b;have hb':(b:Rat)≠0:=fun z=>by have:=yE.mp z;lia
 have h2:((lo t b:Int):Rat)*(b:Rat)=(t:Rat)*((hi t b:Int):Rat):=by rw[<- aP,h,aP]
 rw[<- e] at h2;have h3:(q*((hi t b:Int):Rat) - ((lo t b:Int):Rat))*(b:Rat)=0:=by grind
 rcases KY.mp h3 with h4 | h4
 ·grind
 ·exact absurd h4 hb'
def Fr (M V:Nat) (q:Rat):Prop:=∃z:Int,q*(M:Rat)=(z:Rat)/\z.natAbs<=V*M
theorem Fr.mono {M V V':Nat} {q:Rat} (h:Fr M V q) (l:V<=V'):Fr M V' q:=by obtain ⟨z,e,b⟩:=h;exact ⟨z,e,ah b (aJ _ l)⟩
theorem Fr.scale {M V:Nat} {q:Rat} (h:Fr M V q) (k:Nat):Fr (M*k) V q:=by
 obtain ⟨z,e,b⟩:=h;refine ⟨z*k,?_,?_⟩
 ·rw[sI,aP,<- e,bx,Rat.mul_assoc]
 ·rw[fB,cY,<- jy];exact aJ _ b
theorem Fr.scaleL {M V:Nat} {q:Rat} (h:Fr M V q) (k:Nat):Fr (k*M) V q:=by rw[cG];exact h.scale k
theorem Fr.dvd {M N V:Nat} {q:Rat} (h:Fr M V q) (d:M∣N):Fr N V q:=by obtain ⟨k,rfl⟩:=d;exact h.scale k
theorem Fr.add {M V W:Nat} {p q:Rat} (h:Fr M V p) (h':Fr M W q):Fr M (V+W) (p+q):=by
 obtain ⟨z,e,b⟩:=h;obtain ⟨z',e',b'⟩:=h';refine ⟨z+z',by rw[AD,<- e,<- e',Rat.add_mul],?_⟩;rw[Nat.add_mul];have:=Int.natAbs_add_le z z'
 lia
theorem Fr.neg {M V:Nat} {q:Rat} (h:Fr M V q):Fr M V (-q):=by
 obtain ⟨z,e,b⟩:=h;exact ⟨-z,by rw[cP,<- e,Rat.neg_mul],by rw[pE];exact b⟩
theorem Fr.mul {M N V W : Nat} {p q : Rat} (h : Fr M V p) (h' : Fr N W q) : Fr (M * N) (V * W) (p * q) := by
  obtain ⟨z, e, b⟩ := h;obtain ⟨z', e', b'⟩ := h';refine ⟨z * z', ?_, ?_⟩
  · rw [sI, aP, <- e, <- e']; grind
  · rw [fB]
    calc z.natAbs * z'.natAbs ≤ (V * M) * (W * N) := bH b b'
      _ = V * W * (M * N) := by rw [jy, Nat.mul_left_comm M, <- jy]
theorem Fr.zero {M V:Nat}:Fr M V 0:=⟨0,by simp,by simp⟩
theorem Fr.int {M V:Nat} {i:Int} (h:i.natAbs<=V):Fr M V (i:Rat):=⟨i*M,by rw[aP,bx],by rw[fB,cY];exact aJ _ h⟩
theorem Fr.den {M V:Nat} {q:Rat} (h:Fr M V q):(q.den:Int)∣(M:Int):=by
 obtain ⟨z,e,b⟩:=h
 have h1:q.num*(M:Int)=z*(q.den:Int):=by
  apply dd.mp;rw[aP,aP,<- e,mG,bx,bx];grind
 have h2:(q.den:Int)∣q.num*(M:Int):=⟨z,by rw[h1,lJ]⟩;exact qV (by rw[lK];exact E9 q) h2
theorem Fr.den_le {M V:Nat} {q:Rat} (h:Fr M V q) (hM:0 < M):q.den<=M:=my hM (ou.mp h.den)
theorem Fr.num_le {M V:Nat} {q:Rat} (h:Fr M V q) (hM:0 < M):q.num.natAbs<=V*M:=by
 have hd:=h.den;obtain ⟨z,e,b⟩:=h;obtain ⟨k,hk⟩:=ou.mp hd;have hk0:k≠0:=fun z=>by rw[z,Nat.mul_zero] at hk;lia
 have h1:z=q.num*(k:Int):=by
  apply dd.mp;rw[aP,<- e,mG,bx,hk,sI];grind
 rw[h1] at b;exact ah (pK (by lia)) b
theorem Fr.own (q:Rat) {V:Nat} (h:q.num.natAbs<=V):Fr q.den V q:=⟨q.num,(mG q).symm,ah h (eT _ q.den_pos)⟩
theorem Fr.sz {M V k j:Nat} {q:Rat} (h:Fr M V q) (hM:0 < M) (h1:M<=2^k) (h2:V<=2^j):Sz (j+k+1) (nm q).1/\Sz (k+1) (nm q).2:=by
 constructor
 ·show q.num.natAbs < 2^(j+k+1)
  have h3:=h.num_le hM;have h4:V*M<=2^j*2^k:=bH h2 h1;rw[pA,cF];have:=Nat.two_pow_pos (j+k);rw[cF] at this
  lia
 ·show (q.den:Int).natAbs < 2^(k+1)
  have h3:=h.den_le hM;rw[cY,pA];have:=Nat.two_pow_pos k
  lia
theorem Fr.sum {M V:Nat}:∀{l:List Rat},(∀x∈l,Fr M V x)->Fr M (l.length*V) l.sum
 | [],_=>by simp;exact Fr.zero
 | x :: r,h=>by
  rw[List.sum_cons,bg,gM,pB];exact (h x (.head _)).add (Fr.sum fun y hy=>h y (.tail _ hy))
def d5 (xs ys:List Rat):Rat:=(List.zipWith (·*·) xs ys).sum
theorem Fr.dot {M N V W : Nat} {xs ys : List Rat} (h : ∀ x ∈ xs, Fr M V x) (h' : ∀ y ∈ ys, Fr N W y) : Fr (M * N) (xs.length * (V * W)) (d5 xs ys) := by
  have q := Fr.sum (M := M * N) (V := V * W) (l := List.zipWith (· * ·) xs ys) fun z hz => by
    obtain ⟨i, hi, e⟩ := be hz;rw [jY] at e;rw [<- e];exact (h _ (az _)).mul (h' _ (az _))
  exact q.mono (aJ _ (by rw [bN]; lia))
theorem yV : ∀ {bs : List Int} {m M : Int}, 0 < m → m ∣ M → (∀ b ∈ bs, 0 < b /\ b ∣ M) → xR bs m ∣ M
  | [], _, _, _, h, _ => h
  | b :: r, m, M, hm, h, hb => by
    have b1 := hb b cX;refine yV (bs := r) (wN hm b1.1) ?_ fun c hc => hb c (bT _ hc)
    have gp : 0 < g m b := Al (by lia);have e1 := Af m b;have e2 := xU m b;obtain ⟨u, hu⟩ := h;obtain ⟨v, hv⟩ := b1.2
    have h3 : lo m b * u = hi m b * v := by
      apply Nh (show g m b ≠ 0 by lia)
      calc lo m b * u * g m b = lo m b * g m b * u := by rw [mC, lJ u, <- mC]
        _ = m * u := by rw [e1]
        _ = M := hu.symm
        _ = b * v := hv
        _ = hi m b * g m b * v := by rw [e2]
        _ = hi m b * v * g m b := by rw [mC, lJ (g m b), <- mC]
    have h4 : hi m b ∣ lo m b * u := ⟨v, h3⟩;have h5 : hi m b ∣ u := qV (by rw [lK]; exact DY (by lia)) h4;obtain ⟨w, hw⟩ := h5;refine ⟨w, ?_⟩;show M = m * hi m b * w
    rw [hu, hw, mC]
theorem CP {a b:Int} {k:Nat} (hb:0 < b) (d:a∣b) (h:Sz k b):Sz k a:=h.le (my (by lia) (fJ.mpr d))
end Nm
namespace Nm
def Dr (W:Nat) (x:Rat):Prop:=x.num.natAbs<=W/\x.den<=W
def Bm:List Nat->Nat
 | []=>1
 | a :: r=>a*Bm r
theorem Bj:∀{l:List Nat},(∀a∈l,0 < a)->0 < Bm l
 | [],_=>Nat.one_pos
 | a :: r,h=>iM (h a (.head _)) (Bj fun b hb=>h b (.tail _ hb))
theorem Bl:∀{l:List Nat} {a:Nat},a∈l->a∣Bm l
 | b :: r,a,h=>by
  rcases aI.mp h with rfl | h
  ·exact Nat.dvd_mul_right ..
  ·exact OO (Bl h) (Nat.dvd_mul_left ..)
theorem DJ {k:Nat}:∀{l:List Nat},(∀a∈l,a<=2^k)->Bm l<=2^(k*l.length)
 | [],_=>by simp [Bm]
 | a :: r,h=>by
  rw[bg,Nat.mul_succ,cF,cG (2^(k*r.length))];exact bH (h a (.head _)) (DJ fun b hb=>h b (.tail _ hb))
def GF (M V:Nat) (rows:List (List Rat)):Prop:=∀xs∈rows,∀x∈xs,Fr M V x
def bO (rows:List (List Rat)) (w:Nat):List (List Rat):=(List.range w).map fun j=>rows.map fun xs=>xs.getD j 0
theorem ck {rows:List (List Rat)} {w:Nat}:(bO rows w).length=w:=by simp [bO]
theorem ni {rows:List (List Rat)} {w:Nat}:∀ys∈bO rows w,ys.length=rows.length:=fun ys hy=>by
 obtain ⟨j,_,rfl⟩:=aB.mp hy;exact ag ..
theorem getD_map {α:Type} {l:List α} {f:α->Rat} {i:Nat} (h:i < l.length):(l.map f).getD i 0=f l[i]:=by
 rw[aa,aD,af h];rfl
theorem A8 {rows:List (List Rat)} {w:Nat} (h:∀xs∈rows,xs.length=w):bO (bO rows w) rows.length=rows:=by
 apply di
 ·exact ck
 ·intro i h1 h2;have e:(bO (bO rows w) rows.length)[i]=(bO rows w).map fun xs=>xs.getD i 0:=by simp [bO]
  rw[e];have hw:=h rows[i] (az h2);apply di
  ·rw[ag,ck,hw]
  ·intro j h3 h4;rw[eC];have e2:(bO rows w)[j]'(by rw[ck];lia)=rows.map fun xs=>xs.getD j 0:=by simp [bO]
   rw[e2,getD_map h2,aa,af h4];rfl
end Nm
namespace L2
open PySem PySem.Spec PyProof.Rows Nm
theorem cR.sqt {K:PySem.W.Frag} {H H':Hp} {b a:Addr} {xs:List V} (u:cR b H H') (B:jz H b) (h:vV K H a xs):vV K H' a xs:=by
 rcases h with (h | ⟨o,h⟩) | h
 ·exact .inl (.inl (u.tup B h))
 ·exact .inl (.inr ⟨o,u.other (fun z=>by obtain ⟨_,_,_,_,_,e,_⟩:=B;rw[z,e] at h;cases h) h⟩)
 ·exact .inr h
theorem Jf {K:PySem.W.Frag} {H:Hp} {a l:Addr} {xs ys:List V} {o:HO} (h:vV K H a xs) (hl:H l=some (.lst ys)):vV K (upd H l o) a xs:=by
 rcases h with (h | ⟨o,h⟩) | h
 ·exact .inl (.inl (by rw[br fun z=>by rw[z,hl] at h;cases h];exact h))
 ·exact .inl (.inr ⟨o,by rw[br fun z=>by rw[z,hl] at h;cases h];exact h⟩)
 ·exact .inr h
def cw (K:PySem.W.Frag) (H:Hp) (q:Rat) (x:V):Prop:=Fy K H x (nm q)
section
variable {K:PySem.W.Frag} {H H':Hp} {q:Rat} {x:V} {b l p:Addr} {qs:List Rat}
theorem cw.same (h:cw K H q x) (e:aE H H'):cw K H' q x:=e.num h
theorem cw.upto (h:cw K H q x) (u:cR b H H') (B:jz H b):cw K H' q x:=by obtain ⟨p,e,s⟩:=h;exact ⟨p,e,u.sqt B s⟩
theorem cw.updL {ys:List V} {o:HO} (h:cw K H q x) (hl:H l=some (.lst ys)):cw K (upd H l o) q x:=by obtain ⟨p,e,s⟩:=h;exact ⟨p,e,Jf s hl⟩
theorem cw.mk {r:Addr} {a c:Int} (h:H r=some (.tup [.int a,.int c])) (e:(a,c)=nm q):cw K H q (.ref r):=⟨r,rfl,by rw[<- e];exact vV.of h⟩
def cK (K:PySem.W.Frag) (H:Hp) (p:Addr) (qs:List Rat):Prop:=∃xs,H p=some (.lst xs)/\Paired (cw K H) qs xs
theorem cK.same (h:cK K H p qs) (e:aE H H'):cK K H' p qs:=by obtain ⟨xs,g,r⟩:=h;exact ⟨xs,e _ _ g,Paired.imp' (fun _ _ z=>z.same e) r⟩
theorem cK.upto (h:cK K H p qs) (u:cR b H H') (B:jz H b) (n:p≠b):cK K H' p qs:=by obtain ⟨xs,g,r⟩:=h;exact ⟨xs,u.other n g,Paired.imp' (fun _ _ z=>z.upto u B) r⟩
theorem cK.updL {ys:List V} {o:HO} (h:cK K H p qs) (hl:H l=some (.lst ys)) (n:p≠l):cK K (upd H l o) p qs:=by obtain ⟨xs,g,r⟩:=h;exact ⟨xs,by rw[br n];exact g,Paired.imp' (fun _ _ z=>z.updL hl) r⟩
theorem ym {α β γ:Type} {F:α->β->Prop} {f:γ->α}:∀{l:List γ} {l2:List β},Paired (fun c x=>F (f c) x) l l2->Paired F (l.map f) l2
 | _,_,.nil=>.nil
 | _,_,.cons r t=>.cons r (ym t)
theorem cK.rowK (h:cK K H p qs):Fu K H p (qs.map nm):=by obtain ⟨xs,g,r⟩:=h;exact ⟨xs,g,ym (F:=fun n x=>Fy K H x n) r⟩
def cS (K:PySem.W.Frag) (H0 H:Hp) (qs:List Rat) (x:V):Prop:=∃q,x=V.ref q/\H0 q=none/\cK K H q qs
def bB (K:PySem.W.Frag) (H0 H:Hp) (p:Addr) (rows:List (List Rat)):Prop:=∃xs,H p=some (.lst xs)/\Paired (cS K H0 H) rows xs/\V.ref p∉xs
theorem mo {H0:Hp} {K:PySem.W.Frag} {p:Addr} {rows:List (List Rat)} {ys:List V} (h:∃H2,H2 p=none/\Paired (cS K H0 H2) rows ys):V.ref p∉ys:=fun hm=>by
 obtain ⟨H2,e,pr⟩:=h;obtain ⟨qs,_,q,z,_,xs,g,_⟩:=dB pr hm;cases z;rw[e] at g;cases g
variable {H0:Hp} {rows:List (List Rat)}
theorem cS.same (h:cS K H0 H qs x) (e:aE H H'):cS K H0 H' qs x:=by obtain ⟨q,a,b,c⟩:=h;exact ⟨q,a,b,c.same e⟩
theorem cS.upto (h:cS K H0 H qs x) (u:cR b H H') (B:jz H b) (nb:H0 b≠none):cS K H0 H' qs x:=by obtain ⟨q,a,c,d⟩:=h;exact ⟨q,a,c,d.upto u B fun z=>nb (by rw[<- z];exact c)⟩
theorem cS.weak (h:cS K H0 H qs x) {H1:Hp} (e:aE H1 H0):cS K H1 H qs x:=by obtain ⟨q,a,b,c⟩:=h;exact ⟨q,a,e.none b,c⟩
theorem bB.same (h:bB K H0 H p rows) (e:aE H H'):bB K H0 H' p rows:=by obtain ⟨xs,g,r,n⟩:=h;exact ⟨xs,e _ _ g,Paired.imp' (fun _ _ z=>z.same e) r,n⟩
theorem bB.upto (h:bB K H0 H p rows) (u:cR b H H') (B:jz H b) (n:p≠b) (nb:H0 b≠none):bB K H0 H' p rows:=by obtain ⟨xs,g,r,nn⟩:=h;exact ⟨xs,u.other n g,Paired.imp' (fun _ _ z=>z.upto u B nb) r,nn⟩
theorem bB.weak (h:bB K H0 H p rows) {H1:Hp} (e:aE H1 H0):bB K H1 H p rows:=by obtain ⟨xs,g,r,n⟩:=h;exact ⟨xs,g,Paired.imp' (fun _ _ z=>z.weak e) r,n⟩
end
def Kc:Kind Rat:=Qr.via nm (fun _ _ e=>Od e) (fun K H x q=>cw K H q x) id
def Kb:Kind (List Rat):=Py Kc
def Ai:Kind (List (List Rat)):=Py Kb
theorem cK.kind {K:PySem.W.Frag} {H:Hp} {p:Addr} {qs:List Rat} (h:cK K H p qs):Kb.R K H (.ref p) qs:=by obtain ⟨xs,g,q⟩:=h;exact ⟨p,xs,rfl,bM.of g,q⟩
theorem bB.kind {K:PySem.W.Frag} {H0 H:Hp} {p:Addr} {rows:List (List Rat)} (h:bB K H0 H p rows):Ai.R K H (.ref p) rows:=by obtain ⟨xs,g,q,_⟩:=h;exact ⟨p,xs,rfl,bM.of g,Paired.imp' (fun _ _ ⟨q,a,_,c⟩=>by rw[a];exact c.kind) q⟩
def qE (x:Rat):Prop:=Sz 4000 (nm x).1/\Sz 4000 (nm x).2
def Fits (l:List Rat):Prop:=∃M V:Nat,0 < M/\M<=2^900/\V<=2^900/\∀x∈l,Fr M V x
theorem Fits.szn {l:List Rat} (h:Fits l) {x:Rat} (hx:x∈l):qE x:=by
 obtain ⟨M,V,h0,h1,h2,h3⟩:=h;obtain ⟨a,b⟩:=(h3 x hx).sz h0 h1 h2;exact ⟨a.mono (by decide),b.mono (by decide)⟩
theorem Fits.ok {l:List Rat} (h:Fits l) {x:Rat} (hx:x∈l):Em (nm x):=⟨iF x,E9 x,(h.szn hx).1.mono (by decide),(h.szn hx).2.mono (by decide)⟩
theorem Fj {M V:Nat} {x:Rat} (h0:0 < M) (h1:M<=2^1800) (h2:V<=2^1810) (h:Fr M V x):qE x:=by
 obtain ⟨a,b⟩:=h.sz h0 h1 h2;exact ⟨a.mono (by decide),b.mono (by decide)⟩
def sP (K:PySem.W.Frag) (f:Rat->Rat->Rat):Sp:=fun vs H Q _=>∃(u v:V) (x y:Rat),vs=[u,v]/\cw K H x u/\cw K H y v/\qE x/\qE y/\∀r H',aE H H'->cw K H' (f x y) (.ref r)->Q (.ref r) H'
section
variable {K:PySem.W.Frag} {vs:List V} {H:Hp} {Q:VK} {E:XK}
theorem E2 {f:Rat->Rat->Rat} {F:Int->Int->Int->Int->Int} (hf:∀x y:Rat,(f x y)*(((nm x).2*(nm y).2:Int):Rat)=((F (nm x).1 (nm x).2 (nm y).1 (nm y).2:Int):Rat)) (h:sP K f vs H Q E):FK K F vs H Q E:=by
 obtain ⟨u,v,x,y,rfl,⟨p,rfl,hp⟩,⟨q,rfl,hq⟩,⟨s1,s2⟩,⟨s3,s4⟩,k⟩:=h;refine ⟨p,q,_,_,_,_,rfl,hp,hq,iF x,iF y,s1,s2,s3,s4,fun r H' s g=>k r H' s (cw.mk g ?_)⟩;exact mJ (iN (iF x) (iF y)) (hf x y)
theorem qQ (x:Rat):(((nm x).1:Int):Rat)=x*(((nm x).2:Int):Rat):=by
 show (x.num:Rat)=x*(((x.den:Nat):Int):Rat)
 rw[mG,bx]
theorem GO (h:sP K (fun x y=>x+y) vs H Q E):FK K MY vs H Q E:=E2 (fun x y=>by
 unfold MY;rw[AD,aP,aP,aP,qQ,qQ];grind) h
theorem yP (h:sP K (fun x y=>x - y) vs H Q E):FK K Kr vs H Q E:=E2 (fun x y=>by
 unfold Kr;rw[AB,aP,aP,aP,qQ,qQ];grind) h
theorem FW (h:sP K (fun x y=>x*y) vs H Q E):FK K Kq vs H Q E:=E2 (fun x y=>by
 unfold Kq;rw[aP,aP,qQ,qQ];grind) h
end
def Fs (M:Int) (ns:List (Int×Int)):Prop:=0 < M/\Sz 4400 M/\∀n∈ns,0 < n.2/\n.2∣M/\Sz 4400 n.1
theorem Fs.bot {M:Int} {ns:List (Int×Int)} (h:Fs M ns):0 < gY ns/\Sz 4400 (gY ns):=by
 have hb:∀b∈ns.map (·.2),0 < b/\b∣M:=fun b hb=>by
  obtain ⟨n,hn,rfl⟩:=aB.mp hb;exact ⟨(h.2.2 n hn).1,(h.2.2 n hn).2.1⟩
 exact ⟨Ah (by decide) fun b q=>(hb b q).1,CP h.1 (yV (by decide) (Int.one_dvd _) hb) h.2.1⟩
def Nx (K:PySem.W.Frag):Sp:=fun vs H Q _=>∃(p:Addr) (bs:List Int) (M:Int),vs=[.ref p]/\bM K H p (bs.map V.int)/\0 < M/\Sz 4400 M/\(∀b∈bs,0 < b/\b∣M)/\Q (.int (xR bs 1)) H
def Ny (K:PySem.W.Frag):Sp:=fun vs H Q _=>∃(p:Addr) (ns:List (Int×Int)) (M:Int),vs=[.ref p]/\Fu K H p ns/\ns.length<=1000/\Fs M ns/\∀H',aE H H'->Q (.int (gY ns)) H'
def Ji (K:PySem.W.Frag):Sp:=fun vs H Q _=>∃(p:Addr) (ns:List (Int×Int)) (M:Int) (B:Int),vs=[.ref p,.int B]/\Fu K H p ns/\ns.length<=1000/\Fs M ns/\0 < B/\Sz 4400 B /\
 ∀r H',H r=none->aE H H'->H' r=some (.lst ((fb ns B).map V.int))->Q (.ref r) H'
theorem Dj {M:Int} {ns:List (Int×Int)} {B t:Int} (h:Fs M ns) (hB:0 < B) (sB:Sz 4400 B) (ht:t∈fb ns B):Sz 8800 t:=by
 obtain ⟨n,hn,rfl⟩:=aB.mp ht;have hp:=h.2.2 n hn
 have sq:Sz 4400 (B / n.2):=sB.le (by
  rw[OI (by lia)];exact Nat.div_le_self ..)
 exact (hp.2.2.mul sq).mono (by lia)
theorem sL {x:Rat} {B:Int} (h:(nm x).2∣B):(((nm x).1*(B / (nm x).2):Int):Rat)=x*(B:Rat):=by
 obtain ⟨k,rfl⟩:=h;have hp:=iF x;rw[Int.mul_ediv_cancel_left _ (by lia),aP,aP,qQ];grind
theorem Ed {B C : Int} : ∀ {xs ys : List Rat}, (∀ x ∈ xs, (nm x).2 ∣ B) → (∀ y ∈ ys, (nm y).2 ∣ C) → (((List.zipWith (· * ·) (fb (xs.map nm) B) (fb (ys.map nm) C)).sum : Int) : Rat) = d5 xs ys * ((B : Rat) * (C : Rat))
  | [], ys, _, _ => by simp [fb, d5]
  | x :: xs, [], _, _ => by simp [fb, d5]
  | x :: xs, y :: ys, h1, h2 => by
    have ih := Ed (B := B) (C := C) (xs := xs) (ys := ys) (fun z hz => h1 z (.tail _ hz)) (fun z hz => h2 z (.tail _ hz));have e1 := sL (h1 x (.head _));have e2 := sL (h2 y (.head _));have e3 : (List.zipWith (· * ·) (fb ((x :: xs).map nm) B) (fb ((y :: ys).map nm) C)).sum = ((nm x).1 * (B / (nm x).2)) * ((nm y).1 * (C / (nm y).2)) + (List.zipWith (· * ·) (fb (xs.map nm) B) (fb (ys.map nm) C)).sum := rfl;have e4 : d5 (x :: xs) (y :: ys) = x * y + d5 xs ys := rfl;rw [e3, e4, AD, aP, ih, e1, e2];grind
theorem Mj {xs ys:List Rat} (h1:0 < gY (xs.map nm)) (h2:0 < gY (ys.map nm)):(lo (Kw (xs.map nm) (ys.map nm)) (gY (xs.map nm)*gY (ys.map nm)),hi (Kw (xs.map nm) (ys.map nm)) (gY (xs.map nm)*gY (ys.map nm)))=nm (d5 xs ys):=by
 refine mJ (iN h1 h2) ?_;unfold Kw;rw[Ed (fun x hx=>tH (aB.mpr ⟨x,hx,rfl⟩)) (fun x hx=>tH (aB.mpr ⟨x,hx,rfl⟩)),aP]
def Jh (K:PySem.W.Frag):Sp:=fun vs H Q _=>∃(p:Addr) (w:Nat) (H0:Hp) (rows:List (List Rat)),vs=[.ref p,.int w]/\bB K H0 H p rows/\rows.length<=1000/\w<=1000/\(∀xs∈rows,xs.length=w) /\
 ∀r H',H r=none->aE H H'->bB K H H' r (bO rows w)->Q (.ref r) H'
def Nn (m:Nat) (a:Int):List Rat:=(List.range m).map fun (i:Nat)=>if ((i:Nat):Int)=a then 1 else 0
def Jg (K:PySem.W.Frag):Sp:=fun vs H Q _=>∃(m:Nat) (a:Int),vs=[.int m,.int a]/\m<=1000/\∀r H',H r=none->aE H H'->cK K H' r (Nn m a)->Q (.ref r) H'
def EG (K:PySem.W.Frag):Sp:=fun vs H Q _=>∃(b:Addr) (w:Nat),vs=[.ref b,.int w]/\jz H b/\1<=w/\w<=1000000/\∀r x H',Dr (max w 6) x->cw K H' x (.ref r)->jz H' b->cR b H H'->Q (.ref r) H'
def Jt (K:PySem.W.Frag):Sp:=fun vs H Q _=>∃(b:Addr) (m w:Nat),vs=[.ref b,.int m,.int w]/\jz H b/\m<=1000/\1<=w/\w<=1000000 /\
 ∀r xs H',H r=none->cK K H' r xs->xs.length=m->(∀x∈xs,Dr (max w 6) x)->jz H' b->cR b H H'->Q (.ref r) H'
def Jk (K:PySem.W.Frag):Sp:=fun vs H Q _=>∃(p q:Addr) (xs ys:List Rat),vs=[.ref p,.ref q]/\cK K H p xs/\cK K H q ys/\ys.length=xs.length/\xs.length<=1000/\(∀x∈xs,qE x)/\(∀y∈ys,qE y) /\
 ∀r H',H r=none->aE H H'->cK K H' r (List.zipWith (fun x y=>x+y) xs ys)->Q (.ref r) H'
def Nz (K:PySem.W.Frag):Sp:=fun vs H Q _=>∃(u:V) (q:Addr) (c:Rat) (ys:List Rat),vs=[u,.ref q]/\cw K H c u/\qE c/\cK K H q ys/\ys.length<=1000/\(∀y∈ys,qE y) /\
 ∀r H',H r=none->aE H H'->cK K H' r (ys.map fun y=>c*y)->Q (.ref r) H'
def EJ (K:PySem.W.Frag):Sp:=fun vs H Q _=>∃(p:Addr) (H0:Hp) (rows:List (List Rat)),vs=[.ref p]/\bB K H0 H p rows/\rows.length<=1000/\(∀xs∈rows,xs.length<=1000)/\∀r H',H r=none->aE H H'->bB K H H' r rows->Q (.ref r) H'
section
variable {K:PySem.W.Frag} {a:Addr} {xs:List V} {g:TG} {tf:TT} {te:TE} {Q:VK} {σ₀:St} {H:Hp} {α β:Type}
theorem eN {as:List α} {F:Hp->α->V->Prop} (G:Hp->β->V->Prop) (f:α->β) (hx:H a=some (.lst xs)) (pf:Paired (F H) as xs) (hl:as.length<=1000)
  (hF:∀{H H' c x},F H c x->aE H H'->F H' c x) (hG:∀{H H' c x},G H c x->aE H H'->G H' c x)
  (hs:∀(i:Nat) c x H' NY NN,as[i]?=some c->aE H H'->F H' c x->(∀y H2,aE H' H2->G H2 (f c) y->NY y H2)->uS σ₀ g tf te x H' NY NN)
  (hd:∀ys H' p,H p=none->aE H H'->H' p=some (.lst ys)->Paired (G H') (as.map f) ys->(∃H2,H2 p=none/\Paired (G H2) (as.map f) ys)->Q (.ref p) H'):vz (Na K a) σ₀ g tf te Q H:=by
 have lx:=pf.length;refine ft (K:=K) (xs:=xs) (fun i ys H'=>aE H H'/\Paired (G H') ((as.take i).map f) ys) (aR (bE (by lia))) ⟨aE.refl _,.nil⟩ (fun i ys H' _ ⟨s,_⟩=>bM.of (s _ _ hx)) ?_ ?_
 ·rintro i x ys H' hx' hlen ⟨s,pr⟩;obtain ⟨c,ec,hc⟩:=cm pf hx';refine hs i c x H' _ _ ec s (hF hc s) fun y H2 s2 gy=>⟨s.trans s2,?_⟩
  rw[take_snoc ec,dg];exact bZ (Paired.imp' (fun _ _ z=>hG z s2) pr) (.cons gy .nil)
 ·rintro ys H' hy ⟨s,pr⟩ p hp;rw[aH (by lia)] at pr;exact hd ys _ p (s.none hp) (s.trans (aE.new hp)) aF (Paired.imp' (fun _ _ z=>hG z (aE.new hp)) pr) ⟨H',hp,pr⟩
theorem gC {n:Nat} (G:Hp->β->V->Prop) (f:Nat->β) (hl:n<=1000) (hG:∀{H H' c x},G H c x->aE H H'->G H' c x)
  (hs:∀(i:Nat) H' NY NN,i < n->aE H H'->(∀y H2,aE H' H2->G H2 (f i) y->NY y H2)->uS σ₀ g tf te (.int i) H' NY NN)
  (hd:∀ys H' p,H p=none->aE H H'->H' p=some (.lst ys)->Paired (G H') ((List.range n).map f) ys->(∃H2,H2 p=none/\Paired (G H2) ((List.range n).map f) ys)->Q (.ref p) H'):vz (Ep 0 n) σ₀ g tf te Q H:=by
 refine rn (fun i ys H'=>aE H H'/\Paired (G H') ((List.range i).map f) ys) (aR (bE (by lia))) ⟨aE.refl _,.nil⟩ ?_ ?_
 ·rintro i ys H' hi hlen ⟨s,pr⟩;rw[zm];refine hs i H' _ _ hi s fun y H2 s2 gy=>⟨s.trans s2,?_⟩
  rw[AF,dg];exact bZ (Paired.imp' (fun _ _ z=>hG z s2) pr) (.cons gy .nil)
 ·rintro ys H' hy ⟨s,pr⟩ p hp;exact hd ys _ p (s.none hp) (s.trans (aE.new hp)) aF (Paired.imp' (fun _ _ z=>hG z (aE.new hp)) pr) ⟨H',hp,pr⟩
theorem ID {n:Nat} {b:Addr} (G:Hp->β->V->Prop) (C:β->Prop) (hB:jz H b) (hl:n<=1000) (hG:∀{H' H'' c x},G H' c x->cR b H' H''->jz H' b->G H'' c x)
  (hs:∀(i:Nat) H' NY NN,i < n->cR b H H'->jz H' b->(∀y c H2,cR b H' H2->jz H2 b->C c->G H2 c y->NY y H2)->uS σ₀ g tf te (.int i) H' NY NN)
  (hd:∀ys cs H' p,H p=none->cR b H H'->jz H' b->H' p=some (.lst ys)->cs.length=n->(∀c∈cs,C c)->Paired (G H') cs ys->(∃H2,H2 p=none/\Paired (G H2) cs ys)->Q (.ref p) H'):vz (Ep 0 n) σ₀ g tf te Q H:=by
 refine rn (fun i ys H'=>cR b H H'/\jz H' b/\∃cs,cs.length=i/\(∀c∈cs,C c)/\Paired (G H') cs ys) (aR (bE (by lia))) ⟨(aE.refl _).upto,hB,[],rfl,(fun _ z=>nomatch z),.nil⟩ ?_ ?_
 ·rintro i ys H' hi hlen ⟨u,B,cs,lc,hc,pr⟩;rw[zm];refine hs i H' _ _ hi u B fun y c H2 u2 B2 cc gy=>⟨u.trans u2,B2,cs++[c],by simp [lc],GN hc cc,bZ (Paired.imp' (fun _ _ z=>hG z u2 B) pr) (.cons gy .nil)⟩
 ·rintro ys H' hy ⟨u,B,cs,lc,hc,pr⟩ p hp;have s:aE H' (upd H' p (.lst ys)):=aE.new hp;exact hd ys cs _ p (u.none B hp) (u.same s) (B.same s) aF lc hc (Paired.imp' (fun _ _ z=>hG z s.upto B) pr) ⟨H',hp,pr⟩
end
section
variable {X:Cx}
theorem eH {n:Nat} {g:TG} {tb:TS} {D:Ends} {σ:St} {H:Hp} (Pv:Nat->St->Hp->Prop) (h0:Pv 0 σ H)
  (hs:∀(i:Nat) σ H,i < n->Pv i σ H->g (.int i) σ H fun σ2 H2=>tb { D with nx:=Pv (i+1),ct:=Pv (i+1),bk:=D.nx } σ2 H2) (hd:∀σ H,Pv n σ H->D.nx σ H) :
  ∃W:Nat->Nat->St->Hp->Prop,(∃m,W 0 m σ H)/\∀i m σ H,W i m σ H →
   ((Ep 0 n).stop i H/\D.nx σ H)\/((Ep 0 n).go i H/\∃N:St->Hp->Prop,(∀σ' H',N σ' H'->∃m',m' < m/\W (i+1) m' σ' H')/\∀x H',(Ep 0 n).yld i H x H'->g x σ H' fun σ2 H2=>tb { D with nx:=N,ct:=N,bk:=D.nx } σ2 H2) :=
 BC (lo:=0) Pv h0 (fun i σ H hi p=>by rw[zm];exact hs i σ H hi p) hd
theorem BK:tY X (.type "int") (fun xs H Q=>∃b:Bool,xs=[.bl b]/\Q (.int (if b=true then 1 else 0)) H):=by
 intro pins s σ H xs us Q I r h;obtain ⟨b,rfl,q⟩:=h;obtain ⟨u,rfl,ru⟩:=vals1 r;cases ru;exact call_int_bool ⟨.int _,H,I.tok _,⟨_,rfl⟩,q⟩
theorem JK {st:Stmt}:PS X st (fun _ _ _=>False):=fun _ _ _ _ _ _ h=>h.elim
end
theorem J5 {t b:Int} {W:Nat} (hb:0 < b) (h1:t.natAbs<=W) (h2:b.natAbs<=W):∃q:Rat,(lo t b,hi t b)=nm q/\Dr W q/\q*(b:Rat)=(t:Rat):=by
 have hb':(b:Rat)≠0:=fun z=>by have:=yE.mp z;lia
 have e:(t:Rat) / (b:Rat)*(b:Rat)=t:=Rat.div_mul_cancel hb';have h:=mJ hb e;refine ⟨_,h,⟨?_,?_⟩,e⟩
 ·have:=congrArg Prod.fst h;have z:=lo_le (t:=t) (b:=b) (by lia);show ((nm ((t:Rat) / (b:Rat))).1).natAbs<=W
  rw[<- this];exact ah z h1
 ·have:=congrArg Prod.snd h;have z:=MV (t:=t) (b:=b) (by lia);have hd:(((t:Rat) / (b:Rat)).den:Int)=hi t b:=this.symm;have hp:=Fg (t:=t) hb
  lia
theorem D7 {K:PySem.W.Frag} {H:Hp} {qs:List Rat} {xs:List V} (h:Paired (cw K H) qs xs) {j:Nat} (hj:j < qs.length):∃v,Fo xs (j:Int)=some v/\cw K H (qs.getD j 0) v:=by
 have hl:=h.length;refine ⟨xs[j]'(by lia),dQ (by simp),?_⟩;have:=i5 h (i:=j) hj (by lia);rwa [aa,af hj]
theorem BG {xs ys:List Rat} {i:Nat} (h1:i < xs.length) (h2:i < ys.length):d5 (xs.take (i+1)) (ys.take (i+1))=d5 (xs.take i) (ys.take i)+xs.getD i 0*ys.getD i 0:=by
 have e1:xs[i]?=some (xs.getD i 0):=by rw[aa,af h1];rfl
 have e2:ys[i]?=some (ys.getD i 0):=by rw[aa,af h2];rfl
 unfold d5;rw[take_snoc e1,take_snoc e2,List.zipWith_append (by simp;lia),List.sum_append];simp [uQ]
theorem getD_mem {xs:List Rat} {i:Nat} (h:i < xs.length):xs.getD i 0∈xs:=by
 rw[aa,af h];exact az h
theorem GX {xs ys:List Rat} (h:ys.length=xs.length):List.zipWith (fun x y=>x+y) xs ys=(List.range xs.length).map fun i=>xs.getD i 0+ys.getD i 0:=by
 apply xy;intro i;rw[cB,aD];by_cases hi:i < xs.length
 ·rw[dj hi,af hi,af (show i < ys.length by lia)];simp [aa,af hi,af (show i < ys.length by lia)]
 ·rw[aN (show (List.range xs.length).length<=i by simp;lia),aN (show xs.length<=i by lia)];rfl
theorem cS.updL {K:PySem.W.Frag} {H0 H:Hp} {qs:List Rat} {x:V} {l:Addr} {ys:List V} {o:HO} (h:cS K H0 H qs x) (hl:H l=some (.lst ys)) (nl:H0 l≠none):cS K H0 (upd H l o) qs x:=by obtain ⟨q,a,b,c⟩:=h;exact ⟨q,a,b,c.updL hl fun z=>nl (by rw[<- z];exact b)⟩
theorem jz.at {H:Hp} {b:Addr} (B:jz H b):H b≠none:=by obtain ⟨_,_,_,_,_,e,_⟩:=B;rw[e];simp
theorem Inner.at {H:Hp} {b q:Addr} (B:jz H b) (i:Inner H b q):H q≠none:=by
 obtain ⟨q',i',xs,e⟩:=B.inner;rw[<- Inner.inj i' i,e];simp
theorem fH {α β:Type} {F:α->β->Prop} {l1:List α} {l2:List β} {i:Nat} (h:Paired F l1 l2) (hi:i < l1.length):∃x y,l1[i]?=some x/\l2[i]?=some y/\x∈l1/\F x y:=by
 have hl:=h.length;exact ⟨l1[i],l2[i]'(by lia),by simp,by simp,az _,i5 h hi (by lia)⟩
theorem CY {i j:Int} (h1:-(2^64) < i) (h2:i < 2^64):fA i j:=.inl (.inl ⟨h1,h2⟩)
theorem GD {i j:Int} (h1:-(2^64) < j) (h2:j < 2^64):fA i j:=.inl (.inr ⟨h1,h2⟩)
def OD (K : PySem.W.Frag) (l : Addr) : It :=
  ⟨fun i H => ∃ xs x, bM K H l xs /\ xs[i]? = some x,
   fun i H v H' => ∃ p x, v = .ref p /\ H p = none /\ H' = upd H p (.tup [.int i, x]) /\ ∀ xs, bM K H l xs → xs[i]? = some x,
   fun i H => ∃ xs, bM K H l xs /\ xs.length ≤ i⟩
def tnE (e it l:Addr) (i:Nat) (h:Heap):Prop:=(∃old,IsEnum h e it i old)/\h.IsListIter it l i
theorem G9 {P:Program} {w:World} {K:PySem.W.Frag} {elts:List Expr} {kk:Nat} {tpos:Pos} (e it l:Addr) (hei:e≠it):Turn P w K (.Tuple elts kk tpos) (OD K l) [e,it] e (tnE e it l) where
 mem:=by simp
 obj:=fun i h st b hb=>by
  obtain ⟨⟨old,he⟩,⟨o1,g1,c1,d1⟩⟩:=st;simp only[aI,bp,or_false] at hb;rcases hb with rfl | rfl
  ·exact ⟨_,he,fun v q=>nomatch q⟩
  ·exact ⟨o1,g1,fun v q=>by rw[d1] at q;cases q⟩
 keep:=fun i h h' st k=>by
  obtain ⟨⟨old,he⟩,h1⟩:=st;exact ⟨⟨old,k e (by simp) _ he⟩,h1.at fun o q=>k it (by simp) o q⟩
 item:=by
  intro X hP hw hK hc i pins s σ H E I hf st hg;subst hP hw hK;obtain ⟨⟨old,he⟩,h1⟩:=st;obtain ⟨xs,x,qx,ex⟩:=hg;obtain ⟨us,rx,px,_⟩:=I.list qx;obtain ⟨u,eu,ru⟩:=rx.get ex;refine wpAny_pyNext_enum_item he h1 px.isList (x:=u) (by simpa using eu) hei fun h' a1 a2 a3 a4 hk=>?_
  refine ⟨_,rfl,wpAny_letOwnedTupleGo_enum a1 fun h'' he'' hs=>?_⟩;have hT0:H s.heap.objs.size=none:=I.hok.fresh (ar _);have ene:s.heap.objs.size≠e:=GV (Heap.lt_size he)
  have up:∀b o,b∉[e,it]->s.heap.get? b=some o->h''.get? b=some o:=fun b o hb q=>by
   simp only[aI,bp,or_false,not_or] at hb;exact (hs.2 b hb.1).trans (hk b o hb.1 hb.2 q)
  have tup:h''.get? s.heap.objs.size=some { cls:=.type "tuple",data:=.seq #[.int i s.toks,u] }:=(hs.2 _ ene).trans a3;have I1:Inv X pins σ H { s with heap:=h'',toks:=s.toks+1 }:=I.moved (g':=s.gens) (d':=s.drawn) (t':=s.toks+1) (ch:=[e,it]) hf up I.bare;have fT:kn X pins H s.heap.objs.size:=I.fpOk (ar _) hT0;have I2:=I1.track (o:=.tup [.int i,x]) fT ⟨jA rfl,[.int i s.toks,u],.cons ⟨_,rfl⟩ (.cons ru .nil),⟨_,tup,rfl,_,rfl⟩⟩;refine ⟨.ref s.heap.objs.size,_,I2,rfl,⟨_,x,rfl,hT0,rfl,fun xs' q=>by rw[I.list_inj q qx];exact ex⟩,?_,fun b hb=>?_⟩
  ·exact ⟨⟨_,by simpa using he''⟩,a2.at fun o q=>(hs.2 _ hei.symm).trans q⟩
  ·rw[br]
   ·exact (hf b hb).1
   ·obtain ⟨o1,g1,_⟩:=h1;simp only[aI,bp,or_false] at hb;rcases hb with rfl | rfl
    ·exact ene.symm
    ·exact bW (Heap.lt_size g1)
 done:=by
  intro X hP hw hK hc i pins s σ H E I hf st hg;subst hP hw hK;obtain ⟨⟨old,he⟩,h1⟩:=st;obtain ⟨xs,qx,hend⟩:=hg;obtain ⟨us,rx,px,_⟩:=I.list qx;have lx:=rx.length;refine wpAny_pyNext_enum_end (I.ok.hd hc) he h1 px.isList (by simp;lia) fun h' hk=>⟨rfl,?_⟩
  exact I.moved (g':=s.gens) (d':=s.drawn) (t':=s.toks) (ch:=[e,it]) hf (fun b o hb q=>hk b o (fun z=>hb (by simp [z])) q) I.bare
 self:=fun _ _ _ _ _ st h=>let ⟨⟨_,he⟩,_⟩:=st;wpAny_pyIter_enum he h
section
variable {X:Cx}
def MU (K:PySem.W.Frag) (ta:TA):TI:=fun σ H R=>ta σ H fun vs H1=>∃l,vs=[.ref l]/\(∃xs,bM K H1 l xs)/\R (OD K l) H1
theorem FO {a:Expr} {ta:TA} {p pos tpos:Pos} {elts:List Expr} {kk:Nat} (hg:Gl X "enumerate") (hm:X.mg "enumerate"=none) (ha:PA X [a] ta) (hs:starEach [a] X.env=[(false,eval a X.env)]:=by rfl) :
  PI X (.Tuple elts kk tpos) (.Call (.Name "enumerate" p) [a] [] pos) (MU X.K ta):=by
 intro pins s σ H R I h;refine Call_ (ki I hg hm boot_enumerate (PyProof.Rows.callWith_type1 (fL (ha pos pins s σ H _ I h) fun us s1 ⟨vs,H1,I1,r1,q1⟩=>?_) (by rw[hs];rfl) rfl));obtain ⟨l,e,⟨xs,qx⟩,q⟩:=q1;subst e;obtain ⟨u,rfl,ru⟩:=vals1 r1;cases ru;obtain ⟨us,rx,px,_⟩:=I1.list qx;refine call_enumerate_list px.isList fun h' a1 a2 a3 hk=>wpAny_pyIter_enum a1 ?_
 have I2:Inv X pins σ H1 { s1 with heap:=h' }:=I1.kept (t':=s1.toks) hk;refine ⟨_,[s1.heap.objs.size+1,s1.heap.objs.size],_,_,H1,rfl,I2,G9 (s1.heap.objs.size+1) s1.heap.objs.size l (Nat.succ_ne_self _),⟨⟨_,a1⟩,a2⟩,fun b hb=>?_,q⟩
 have hb':s1.heap.objs.size<=b:=by
  simp only[aI,bp,or_false] at hb;rcases hb with rfl | rfl <;> first | exact sF _ | exact ar _
 exact I1.fpOk hb' (I1.hok.fresh hb')
end
theorem JF {K:PySem.W.Frag} {ta:TA} {R:It->Hp->Prop} {σ:St} {H:Hp} (h:ta σ H fun vs H1=>∃l,vs=[.ref l]/\(∃xs,bM K H1 l xs)/\R (OD K l) H1):MU K ta σ H R:=h
theorem Ko {K:PySem.W.Frag} {l:Addr} {xs:List V} {g:TG} {tb:TS} {D:Ends} {σ:St} {H:Hp} (Pv:Nat->St->Hp->Prop) (h0:Pv 0 σ H) (hl:∀i σ H,i<=xs.length->Pv i σ H->bM K H l xs)
  (hs:∀i x σ H p,xs[i]?=some x->Pv i σ H->H p=none->g (.ref p) σ (upd H p (.tup [.int i,x])) fun σ2 H2=>tb { D with nx:=Pv (i+1),ct:=Pv (i+1),bk:=D.nx } σ2 H2) (hd:∀σ H,Pv xs.length σ H->D.nx σ H) :
  ∃W:Nat->Nat->St->Hp->Prop,(∃m,W 0 m σ H)/\∀i m σ H,W i m σ H →
   ((OD K l).stop i H/\D.nx σ H)\/((OD K l).go i H/\∃N:St->Hp->Prop,(∀σ' H',N σ' H'->∃m',m' < m/\W (i+1) m' σ' H')/\∀x H',(OD K l).yld i H x H'->g x σ H' fun σ2 H2=>tb { D with nx:=N,ct:=N,bk:=D.nx } σ2 H2):=by
 refine ⟨fun i m σ H=>m=xs.length - i/\i<=xs.length/\Pv i σ H,⟨xs.length,by simp,aX _,h0⟩,?_⟩;rintro i m σ H ⟨rfl,hi,p⟩;have q1:=hl i σ H hi p;by_cases hlt:i < xs.length
 ·refine .inr ⟨⟨xs,xs[i],q1,by simp [hlt]⟩,Pv (i+1),fun σ' H' p'=>⟨xs.length - (i+1),by lia,rfl,hlt,p'⟩,fun x H' y=>?_⟩;obtain ⟨r,x',rfl,hr,rfl,e1⟩:=y;exact hs i x' σ _ r (e1 xs q1) p hr
 ·have e:i=xs.length:=by lia
  subst e;exact .inl ⟨⟨xs,q1,ar _⟩,hd σ H p⟩
section
variable {X:Cx}
theorem FQ (K:PySem.W.Frag) {e:Expr} {f:Str} {pos:Pos} {ta:TE} (he:PE X e ta) (hb:attributeBase e f X.env (eval e X.env)=eval e X.env) (hK:X.K=K:=by rfl):PE X (.Attribute e f pos) (Nt K ta f):=by subst hK;exact eV he hb
end
theorem NW {K:PySem.W.Frag} {ta:TE} {f:Str} {σ:St} {H:Hp} {Q:VK} (h:ta σ H fun x H1=>∃a C dx fs v,x=.ref a/\H1 a=some (.ins C dx fs)/\IH K C/\jT K C f/\fs.lookup f=some v/\Q v H1):Nt K ta f σ H Q:=h
theorem Lz {K:PySem.W.Frag} {ta tv:TE} {f:Str} {D:Ends} {σ:St} {H:Hp} (h:tv σ H fun y H1=>ta σ H1 fun x H2=>∃a C dx fs,x=.ref a/\H2 a=some (.ins C dx fs)/\IH K C/\jT K C f/\fs.length < 1000 /\
 D.nx σ (upd H2 a (.ins C dx (b8 f y fs)))):O8 K ta tv f D σ H:=h
theorem LD {C:Addr} {m:Str} {sp:Sp} {E:XK} {ta:TE} {t:TA} {σ:St} {H:Hp} {Q:VK} (h:ta σ H fun x H1=>∃a dx fs,x=.ref a/\H1 a=some (.ins C dx fs)/\fs.lookup m=none /\
 t σ H1 fun vs H2=>sp (x :: vs) H2 Q E):IY C m sp [] E ta t σ H Q:=by
 have e:(fun (x:V) H1=>∃a dx fs,x=.ref a/\H1 a=some (.ins C dx fs)/\fs.lookup m=none/\t σ H1 fun vs H2=>sp (x :: (vs++[])) H2 Q E)=fun x H1=>∃a dx fs,x=.ref a/\H1 a=some (.ins C dx fs)/\fs.lookup m=none/\t σ H1 fun vs H2=>sp (x :: vs) H2 Q E:=by
  funext x H1;simp only[m9]
 show ta σ H (fun (x:V) H1=>∃a dx fs,x=.ref a/\H1 a=some (.ins C dx fs)/\fs.lookup m=none/\t σ H1 fun vs H2=>sp (x :: (vs++[])) H2 Q E)
 rw[e];exact h
theorem LF {C:Addr} {sp:Sp} {E:XK} {t:TA} {σ:St} {H:Hp} {Q:VK} (h:t σ H fun vs H1=>∀x dx,H1 x=none->H1 dx=none->dx≠x →
 sp (.ref x :: vs) (upd (upd H1 dx (.own x)) x (.ins C dx [])) (fun v H2=>v=.non/\Q (.ref x) H2) E):MB C sp [] E t σ H Q:=by
 have e:(fun vs (H1:Hp)=>∀x dx,H1 x=none->H1 dx=none->dx≠x->sp (.ref x :: (vs++[])) (upd (upd H1 dx (.own x)) x (.ins C dx [])) (fun v H2=>v=.non/\Q (.ref x) H2) E)=fun vs H1=>∀x dx,H1 x=none->H1 dx=none->dx≠x->sp (.ref x :: vs) (upd (upd H1 dx (.own x)) x (.ins C dx [])) (fun v H2=>v=.non/\Q (.ref x) H2) E:=by
  funext vs H1;simp only[m9]
 show t σ H (fun vs (H1:Hp)=>∀x dx,H1 x=none->H1 dx=none->dx≠x->sp (.ref x :: (vs++[])) (upd (upd H1 dx (.own x)) x (.ins C dx [])) (fun v H2=>v=.non/\Q (.ref x) H2) E)
 rw[e];exact h
def Dc (x:Addr) (H H':Hp):Prop:=∀b o,H b=some o->b≠x->H' b=some o
theorem Dc.upd {x:Addr} {H:Hp} {o:HO}:Dc x H (L2.upd H x o):=fun b u h n=>by rw[br n];exact h
def vw (H:Hp) (x:Addr):Prop:=∃C dx fs,H x=some (.ins C dx fs)
section
variable {K:PySem.W.Frag} {H H' H0:Hp} {q:Rat} {v:V} {x p:Addr} {qs:List Rat} {rows:List (List Rat)}
theorem cw.exc (h:cw K H q v) (e:Dc x H H') (hx:vw H x):cw K H' q v:=by
 obtain ⟨C,dx,fs,hx⟩:=hx;obtain ⟨r,er,s⟩:=h;refine ⟨r,er,?_⟩;rcases s with (h | ⟨o,h⟩) | h
 ·exact .inl (.inl (e _ _ h fun z=>by rw[z,hx] at h;cases h))
 ·exact .inl (.inr ⟨o,e _ _ h fun z=>by rw[z,hx] at h;cases h⟩)
 ·exact .inr h
theorem cK.exc (h:cK K H p qs) (e:Dc x H H') (hx:vw H x):cK K H' p qs:=by
 obtain ⟨xs,g,r⟩:=h;have hx':=hx;obtain ⟨C,dx,fs,hx⟩:=hx;exact ⟨xs,e _ _ g (fun z=>by rw[z,hx] at g;cases g),Paired.imp' (fun _ _ z=>z.exc e hx') r⟩
theorem cS.exc (h:cS K H0 H qs v) (e:Dc x H H') (hx:vw H x):cS K H0 H' qs v:=by obtain ⟨q,a,b,c⟩:=h;exact ⟨q,a,b,c.exc e hx⟩
theorem bB.exc (h:bB K H0 H p rows) (e:Dc x H H') (hx:vw H x):bB K H0 H' p rows:=by
 obtain ⟨xs,g,r,n⟩:=h;have hx':=hx;obtain ⟨C,dx,fs,hx⟩:=hx;exact ⟨xs,e _ _ g (fun z=>by rw[z,hx] at g;cases g),Paired.imp' (fun _ _ z=>z.exc e hx') r,n⟩
end
def nN (a b c:Addr) (n i o:Nat):List (Str×V):=b8 "outs" (.int o) (b8 "look" (.ref c) (b8 "ins" (.int i) (b8 "put" (.ref b) (b8 "states" (.int n) (b8 "move" (.ref a) [])))))
section
variable {a b c:Addr} {n i o:Nat}
theorem Jd:(nN a b c n i o).lookup ("look":Str)=some (.ref c):=by
 unfold nN;rw[bh,if_neg (by decide +kernel),bh,if_pos rfl]
theorem FH:(nN a b c n i o).lookup ("ins":Str)=some (.int i):=by
 unfold nN;rw[bh,if_neg (by decide +kernel),bh,if_neg (by decide +kernel),bh,if_pos rfl]
theorem yO:(nN a b c n i o).lookup ("put":Str)=some (.ref b):=by
 unfold nN;rw[bh,if_neg (by decide +kernel),bh,if_neg (by decide +kernel),bh,if_neg (by decide +kernel),bh,if_pos rfl]
theorem iZ:(nN a b c n i o).lookup ("states":Str)=some (.int n):=by
 unfold nN;rw[bh,if_neg (by decide +kernel),bh,if_neg (by decide +kernel),bh,if_neg (by decide +kernel),bh,if_neg (by decide +kernel),bh,if_pos rfl]
theorem zz:(nN a b c n i o).lookup ("move":Str)=some (.ref a):=by
 unfold nN;rw[bh,if_neg (by decide +kernel),bh,if_neg (by decide +kernel),bh,if_neg (by decide +kernel),bh,if_neg (by decide +kernel),bh,if_neg (by decide +kernel),bh,if_pos rfl]
theorem Jc {m:Str} (h1:¬m="outs") (h2:¬m="look") (h3:¬m="ins") (h4:¬m="put") (h5:¬m="states") (h6:¬m="move"):(nN a b c n i o).lookup m=none:=by
 unfold nN;rw[bh,if_neg h1,bh,if_neg h2,bh,if_neg h3,bh,if_neg h4,bh,if_neg h5,bh,if_neg h6];rfl
theorem Ho:(nN a b c n i o).lookup ("moved":Str)=none:=Jc (by decide +kernel) (by decide +kernel) (by decide +kernel) (by decide +kernel) (by decide +kernel) (by decide +kernel)
theorem zy:(nN a b c n i o).lookup ("turned":Str)=none:=Jc (by decide +kernel) (by decide +kernel) (by decide +kernel) (by decide +kernel) (by decide +kernel) (by decide +kernel)
end
theorem dS {k:Str} {v:V}:∀{l:List (Str×V)},(b8 k v l).length<=l.length+1
 | []=>ar _
 | (x,y) :: r=>by
  unfold b8
  split
  ·simp
  ·have:=dS (k:=k) (v:=v) (l:=r);simp only[bg]
   lia
structure oy (mv pt lk:List (List Rat)):Prop where
 n8:mv.length<=8
 i4:pt.length<=4
 o4:lk.length<=4
 mw:∀xs∈mv,xs.length=mv.length
 pw:∀xs∈pt,xs.length=mv.length
 lw:∀xs∈lk,xs.length=mv.length
def tP (mv pt lk:List (List Rat)):Prop:=∃M V:Nat,0 < M/\M<=2^800/\V<=2^400/\GF M V mv/\GF M V pt/\GF M V lk
def mh (K:PySem.W.Frag) (H0 H:Hp) (C p:Addr) (mv pt lk:List (List Rat)):Prop:=∃dx a b c,H p=some (.ins C dx (nN a b c mv.length pt.length lk.length))/\H0 a=none/\H0 b=none/\H0 c=none/\bB K H0 H a mv/\bB K H0 H b pt/\bB K H0 H c lk
section
variable {K:PySem.W.Frag} {H H' H0 H1:Hp} {C p b:Addr} {mv pt lk:List (List Rat)}
theorem mh.same (h:mh K H0 H C p mv pt lk) (e:aE H H'):mh K H0 H' C p mv pt lk:=by obtain ⟨dx,a,b,c,g,n1,n2,n3,g1,g2,g3⟩:=h;exact ⟨dx,a,b,c,e _ _ g,n1,n2,n3,g1.same e,g2.same e,g3.same e⟩
theorem mh.upto (h:mh K H0 H C p mv pt lk) (u:cR b H H') (B:jz H b) (nb:H0 b≠none):mh K H0 H' C p mv pt lk:=by
 obtain ⟨dx,a,b',c,g,n1,n2,n3,g1,g2,g3⟩:=h;refine ⟨dx,a,b',c,u.other (fun z=>by obtain ⟨_,_,_,_,_,e,_⟩:=B;rw[z,e] at g;cases g) g,n1,n2,n3,g1.upto u B (fun z=>nb (by rw[<- z];exact n1)) nb,g2.upto u B (fun z=>nb (by rw[<- z];exact n2)) nb,g3.upto u B (fun z=>nb (by rw[<- z];exact n3)) nb⟩
theorem mh.weak (h:mh K H0 H C p mv pt lk) (e:aE H1 H0):mh K H1 H C p mv pt lk:=by obtain ⟨dx,a,b,c,g,n1,n2,n3,g1,g2,g3⟩:=h;exact ⟨dx,a,b,c,g,e.none n1,e.none n2,e.none n3,g1.weak e,g2.weak e,g3.weak e⟩
theorem tP.fits (h:tP mv pt lk) {l:List Rat} (hl:∀x∈l,(∃xs∈mv,x∈xs)\/(∃xs∈pt,x∈xs)\/(∃xs∈lk,x∈xs)\/x=0):Fits l:=by
 obtain ⟨M,V,h0,h1,h2,h3,h4,h5⟩:=h;refine ⟨M,V,h0,ah h1 (ak (by decide) (by decide)),ah h2 (ak (by decide) (by decide)),fun x hx=>?_⟩;rcases hl x hx with ⟨xs,a,b⟩ | ⟨xs,a,b⟩ | ⟨xs,a,b⟩ | rfl
 ·exact h3 xs a x b
 ·exact h4 xs a x b
 ·exact h5 xs a x b
 ·exact Fr.zero
theorem tP.turn (h:tP mv pt lk):tP (bO mv mv.length) lk pt:=by
 obtain ⟨M,V,h0,h1,h2,h3,h4,h5⟩:=h;refine ⟨M,V,h0,h1,h2,fun ys hy y hy'=>?_,h5,h4⟩;obtain ⟨j,_,rfl⟩:=aB.mp hy;obtain ⟨xs,hx,rfl⟩:=aB.mp hy';by_cases hj:j < xs.length
 ·rw[aa,af hj];exact h3 xs hx _ (az hj)
 ·rw[aa,aN (by lia)];exact Fr.zero
theorem oy.turn (h:oy mv pt lk):oy (bO mv mv.length) lk pt:=⟨by rw[ck];exact h.n8,h.o4,h.i4,fun xs hx=>by rw[ni xs hx,ck],fun xs hx=>by rw[ck];exact h.lw xs hx,fun xs hx=>by rw[ck];exact h.pw xs hx⟩
end
def Hq:Sp:=fun vs H Q _=>∃i:Int,vs=[.int i]/\Q (.bl true) H
def HH (K:PySem.W.Frag):Sp:=fun vs H Q _=>∃x n,vs=[x]/\Fy K H x n/\Em n/\∀H',aE H H'->Q (.bl true) H'
def Lf:Sp:=fun vs H Q _=>∃(p:Addr) (xs:List V) (a m:Int),vs=[.ref p,.int a,.int m]/\H p=some (.lst xs)/\(xs.length:Int)<=m/\Q .non H
def Ll (K:PySem.W.Frag):Sp:=fun vs H Q _=>∃(p:Addr) (H0:Hp) (rows:List (List Rat)) (w:Nat),vs=[.ref p,.int w]/\bB K H0 H p rows/\rows.length<=1000/\w<=1000/\(∀xs∈rows,xs.length=w/\∀x∈xs,Em (nm x))/\∀r H',H r=none->aE H H'->bB K H H' r rows->Q (.ref r) H'
def OK (rows:List (List Rat)):Prop:=∀xs∈rows,∀x∈xs,Em (nm x)
def Li (K:PySem.W.Frag) (C:Addr):Sp:=fun vs H Q _=>∃(x dx p q r:Addr) (Hb H0 H1 H2:Hp) (mv pt lk:List (List Rat)),vs=[.ref x,.ref p,.ref q,.ref r]/\Hb x=none/\Hb dx=none/\dx≠x/\H=upd (upd Hb dx (.own x)) x (.ins C dx []) /\
 bB K H0 Hb p mv/\bB K H1 Hb q pt/\bB K H2 Hb r lk/\oy mv pt lk/\OK mv/\OK pt/\OK lk/\∀H',aE Hb H'->mh K Hb H' C x mv pt lk->Q .non H'
def kf (mv pt:List (List Rat)) (st pu:List Rat):List Rat:=List.zipWith (fun line col=>d5 (line++col) (st++pu)) mv (bO pt mv.length)
def ED (K:PySem.W.Frag) (C:Addr):Sp:=fun vs H Q _=>∃(x:Addr) (H0:Hp) (mv pt lk:List (List Rat)),vs=[.ref x]/\mh K H0 H C x mv pt lk/\oy mv pt lk/\tP mv pt lk /\
 ∀r H',H r=none->aE H H'->mh K H H' C r (bO mv mv.length) lk pt->Q (.ref r) H'
theorem tP.ok {mv pt lk:List (List Rat)} (h:tP mv pt lk):OK mv/\OK pt/\OK lk :=
 ⟨fun xs hx x hx'=>(h.fits (l:=xs) fun y hy=>.inl ⟨xs,hx,hy⟩).ok hx',fun xs hx x hx'=>(h.fits (l:=xs) fun y hy=>.inr (.inl ⟨xs,hx,hy⟩)).ok hx',fun xs hx x hx'=>(h.fits (l:=xs) fun y hy=>.inr (.inr (.inl ⟨xs,hx,hy⟩))).ok hx'⟩
def iJ (K:PySem.W.Frag) (A:Addr->Prop) (H:Hp) (n:Nat) (C:Rat->Prop) (x:V):Prop:=∃q qs,x=V.ref q/\A q/\cK K H q qs/\qs.length=n/\∀y∈qs,C y
section
variable {K:PySem.W.Frag} {A A':Addr->Prop} {H H' H0:Hp} {n:Nat} {C C':Rat->Prop} {x v:V} {q b l p:Addr} {xs zs:List V} {y:Rat} {o:HO}
theorem iJ.same (h:iJ K A H n C x) (e:aE H H'):iJ K A H' n C x:=by obtain ⟨q,qs,a,c,r,z⟩:=h;exact ⟨q,qs,a,c,r.same e,z⟩
theorem iJ.upto (h:iJ K A H n C x) (u:cR b H H') (B:jz H b) (nb:¬A b):iJ K A H' n C x:=by obtain ⟨q,qs,a,c,r,z⟩:=h;exact ⟨q,qs,a,c,r.upto u B (fun e=>nb (by rw[<- e];exact c)),z⟩
theorem iJ.other (h:iJ K A H n C x) (hl:H l=some (.lst zs)) (nl:¬A l):iJ K A (upd H l o) n C x:=by obtain ⟨q,qs,a,c,r,z⟩:=h;exact ⟨q,qs,a,c,r.updL hl (fun e=>nl (by rw[<- e];exact c)),z⟩
theorem iJ.weak (h:iJ K A H n C x) (w:∀q,A q->A' q) (wc:∀y,C y->C' y):iJ K A' H n C' x:=by obtain ⟨q,qs,a,c,r,l,z⟩:=h;exact ⟨q,qs,a,w q c,r,l,fun y hy=>wc y (z y hy)⟩
theorem zQ {α β:Type} {F:α->β->Prop} {a:α} {b:β} (h:F a b):∀{l1:List α} {l2:List β} (j:Nat),Paired F l1 l2->Paired F (l1.set j a) (l2.set j b)
 | _,_,_,.nil=>.nil
 | _,_,0,.cons _ t=>.cons h t
 | _,_,j+1,.cons r t=>.cons r (zQ h j t)
theorem iJ.put (h:iJ K A H n C x) (hq:H q=some (.lst zs)) (hv:cw K H y v) (hc:C y) (j:Nat):iJ K A (upd H q (.lst (zs.set j v))) n C x:=by
 obtain ⟨q1,qs,rfl,a,⟨zs1,g1,pr⟩,l1,c1⟩:=h;by_cases e:q1=q
 ·subst e;rw[hq] at g1;cases g1;refine ⟨q1,qs.set j y,rfl,a,⟨_,aF,zQ (hv.updL hq) j (Paired.imp' (fun _ _ z=>z.updL hq) pr)⟩,by rw[dZ];exact l1,fun z hz=>?_⟩;rcases cC hz with hz | rfl
  ·exact c1 z hz
  ·exact hc
 ·exact ⟨q1,qs,rfl,a,⟨zs1,by rw[br e];exact g1,Paired.imp' (fun _ _ z=>z.updL hq) pr⟩,l1,c1⟩
theorem iJ.at (h:iJ K A H n C x):∃q zs qs,x=V.ref q/\A q/\H q=some (.lst zs)/\zs.length=n/\Paired (cw K H) qs zs/\qs.length=n/\∀y∈qs,C y:=by obtain ⟨q,qs,a,c,⟨zs,g,pr⟩,l,z⟩:=h;exact ⟨q,zs,qs,a,c,g,by rw[<- pr.length];exact l,pr,l,z⟩
end
theorem tE {W:Nat} {i:Int} (h:i.natAbs<=W) (hW:1<=W):Dr W (i:Rat):=⟨h,hW⟩
def GU (K:PySem.W.Frag) (A:Addr->Prop) (H:Hp) (n:Nat) (C:Rat->Prop) (p:Addr) (m:Nat):Prop:=∃us,H p=some (.lst us)/\us.length=m/\¬A p/\∀x∈us,iJ K A H n C x
structure Mix (K:PySem.W.Frag) (A:Addr->Prop) (H:Hp) (n:Nat) (C:Rat->Prop) (m p l b q0:Addr) (i o:Nat):Prop where
 bag:jz H b
 inn:Inner H b q0
 gm:GU K A H n C m n
 gp:GU K A H n C p i
 gl:GU K A H n C l o
structure Fz (A:Addr->Prop) (m p l b q0:Addr):Prop where
 am:¬A m
 ap:¬A p
 al:¬A l
 ab:¬A b
 aq:¬A q0
 mb:m≠b
 pb:p≠b
 lb:l≠b
 mp:m≠p
 ml:m≠l
 mq:m≠q0
theorem Gs {M:Nat} {z:Int} (h:z.natAbs<=2):Fr 1 2 (z:Rat):=Fr.int h
theorem CM {M W:Nat} {a c:Rat} {z:Int} (hz:z.natAbs<=2) (ha:Fr M W a) (hc:Fr M W c):Fr M (3*W) (a+(z:Rat)*c):=by
 have h:=(Gs (M:=M) hz).mul hc;rw[BY] at h;exact (ha.add h).mono (by lia)
theorem Cc {z:Int} (h:z.natAbs<=1000):qE (z:Rat):=Fj (M:=1) (V:=1000) (by decide) (cg) (ah (show 1000<=2^10 by decide) (ak (by decide) (by decide))) (Fr.int h)
theorem zx {M W:Nat} {c:Rat} {z:Int} (hz:z.natAbs<=2) (hc:Fr M W c) (h0:0 < M) (h1:M<=2^800) (hW:W<=2^140):qE ((z:Rat)*c):=by
 have h:=(Gs (M:=M) hz).mul hc;rw[BY] at h;refine Fj h0 (ah h1 (ak (by decide) (by decide))) (ah (dR 2 hW) ?_) h;rw[show 2*2^140=2^141 by rw[pA,cG]];exact ak (by decide) (by decide)
def hJ (A:Addr->Prop) (b m:Addr) (H H':Hp):Prop:=∀c u,H c=some u->c≠b->¬A c->c≠m->H' c=some u
theorem hJ.same {A:Addr->Prop} {b m:Addr} {H H1 H2:Hp} (h:hJ A b m H H1) (s:aE H1 H2):hJ A b m H H2:=fun c u e n1 n2 n3=>s _ _ (h c u e n1 n2 n3)
theorem hJ.upto {A:Addr->Prop} {b m:Addr} {H H1 H2:Hp} (h:hJ A b m H H1) (s:cR b H1 H2):hJ A b m H H2:=fun c u e n1 n2 n3=>s.1 _ _ (h c u e n1 n2 n3) n1
theorem hJ.upd {A:Addr->Prop} {b m q:Addr} {H H1:Hp} {o:HO} (h:hJ A b m H H1) (hq:A q\/q=m):hJ A b m H (L2.upd H1 q o):=fun c u e n1 n2 n3=>by
 rw[br]
 ·exact h c u e n1 n2 n3
 ·rintro rfl;rcases hq with hq | hq
  ·exact n2 hq
  ·exact n3 hq
theorem hJ.new {A:Addr->Prop} {b m r:Addr} {H H1:Hp} (h:hJ A b m H H1) (hA:∀q,H q=none->A q) (B:jz H1 b) (hm:H1 m≠none) (hr:H1 r=none):A r:=by
 by_cases z:A r
 ·exact z
 ·cases e:H r with
  | none=>exact hA r e
  | some u =>
   have:=h r u e (fun y=>B.at (by rw[<- y];exact hr)) z (fun y=>hm (by rw[<- y];exact hr));rw[hr] at this;cases this
structure GS (K:PySem.W.Frag) (A:Addr->Prop) (n:Nat) (C:Rat->Prop) (r p b q0:Addr) (us:List V) (H0 H:Hp):Prop where
 gr:H r=some (.lst us)
 ru:∀x∈us,iJ K A H n C x
 rp:iJ K A H n C (.ref p)
 bag:jz H b
 inn:Inner H b q0
 up:cR b H0 H
section
variable {K:PySem.W.Frag} {A:Addr->Prop} {n:Nat} {C:Rat->Prop} {r p b q0:Addr} {us:List V} {H0 H H':Hp} {y:Rat} {v:V}
theorem GS.same (h:GS K A n C r p b q0 us H0 H) (e:aE H H'):GS K A n C r p b q0 us H0 H':=⟨e _ _ h.gr,fun x hx=>(h.ru x hx).same e,h.rp.same e,h.bag.same e,(e.upto (p:=b)).2 _ h.inn,h.up.same e⟩
theorem GS.upto (h:GS K A n C r p b q0 us H0 H) (u:cR b H H') (B:jz H' b) (nb:¬A b) (rb:r≠b):GS K A n C r p b q0 us H0 H':=⟨u.other rb h.gr,fun x hx=>(h.ru x hx).upto u h.bag nb,h.rp.upto u h.bag nb,B,u.2 _ h.inn,h.up.trans u⟩
theorem GS.put (h:GS K A n C r p b q0 us H0 H) (ap:A p) (nr:¬A r) (nb:¬A b) (nq:¬A q0) (hp:H0 p=none) (hv:cw K H y v) (hc:C y) (j:Nat):∃zs,H p=some (.lst zs)/\zs.length=n/\GS K A n C r p b q0 us H0 (upd H p (.lst (zs.set j v))):=by
 obtain ⟨q,zs,qs,e,a,g,l,_⟩:=h.rp.at;cases e;have ne:∀{z},¬A z->z≠p:=fun h e=>h (by rw[e];exact ap)
 exact ⟨zs,g,l,by rw[br (ne nr)];exact h.gr,fun x hx=>(h.ru x hx).put g hv hc j,h.rp.put g hv hc j,h.bag.upd h.inn (ne nb).symm (ne nq).symm,h.inn.upd (ne nb).symm,h.up.after hp⟩
end
theorem zJ {K:PySem.W.Frag} {A:Addr->Prop} {H:Hp} {n:Nat} {C:Rat->Prop} {us:List V} (h:∀x∈us,iJ K A H n C x):∃rows:List (List Rat),Paired (fun qs x=>∃q,x=V.ref q/\A q/\cK K H q qs) rows us/\rows.length=us.length/\∀qs∈rows,qs.length=n/\∀y∈qs,C y:=by
 induction us with
 | nil=>exact ⟨[],.nil,rfl,fun _ z=>nomatch z⟩
 | cons u us ih =>
  obtain ⟨rows,pr,l,hr⟩:=ih fun x hx=>h x (.tail _ hx)
  obtain ⟨q,qs,e,a,r,l1,c⟩:=h u (.head _);refine ⟨qs :: rows,.cons ⟨q,e,a,r⟩ pr,by simp [l],fun zs hz=>?_⟩;rcases aI.mp hz with rfl | hz
  ·exact ⟨l1,c⟩
  ·exact hr zs hz
theorem EU {K:PySem.W.Frag} {A:Addr->Prop} {H:Hp} {n:Nat} {C:Rat->Prop} {us:List V} {rows:List (List Rat)} (pr:Paired (fun qs x=>∃q,x=V.ref q/\A q/\cK K H q qs) rows us) (h:∀qs∈rows,qs.length=n/\∀y∈qs,C y):∀x∈us,iJ K A H n C x:=fun x hx=>by
 obtain ⟨qs,hq,q,e,a,r⟩:=dB pr hx;exact ⟨q,qs,e,a,r,(h qs hq).1,(h qs hq).2⟩
theorem BD {n:Nat}:∀{rows:List (List Rat)},(∀xs∈rows,xs.length=n)->rows.flatten.length=rows.length*n
 | [],_=>by simp
 | xs :: rows,h=>by
  rw[gN,ai,h xs (.head _),BD fun ys hy=>h ys (.tail _ hy),bg,gM,pB]
theorem Lv {c n:Nat} {rows:List (List Rat)} (h:∀qs∈rows,qs.length=n/\∀y∈qs,Dr (2^c) y):∃M:Nat,0 < M/\M<=2^(c*(rows.length*n))/\∀qs∈rows,∀y∈qs,Fr M (2^c) y:=by
 have fl:rows.flatten.length=rows.length*n:=BD fun ys hy=>(h ys hy).1
 have hm:∀a∈rows.flatten.map (·.den),0 < a/\a<=2^c:=fun a ha=>by
  obtain ⟨y,hy,rfl⟩:=aB.mp ha;obtain ⟨qs,hq,hy⟩:=IM.mp hy;exact ⟨y.den_pos,((h qs hq).2 y hy).2⟩
 refine ⟨Bm (rows.flatten.map (·.den)),Bj fun a ha=>(hm a ha).1,?_,fun qs hq y hy=>?_⟩
 ·have:=DJ (k:=c) (l:=rows.flatten.map (·.den)) fun a ha=>(hm a ha).2
  rwa [ag,fl] at this
 ·exact (Fr.own y ((h qs hq).2 y hy).1).dvd (Bl (aB.mpr ⟨y,IM.mpr ⟨qs,hq,hy⟩,rfl⟩))
theorem vQ {K:PySem.W.Frag} {A:Addr->Prop} {H H0:Hp} {n m:Nat} {C:Rat->Prop} {p:Addr} (h:GU K A H n C p m) (w:∀q,A q->H0 q=none):∃rows,bB K H0 H p rows/\rows.length=m/\∀qs∈rows,qs.length=n/\∀y∈qs,C y:=by
 obtain ⟨us,g,l,a,r⟩:=h;obtain ⟨rows,pr,lr,hr⟩:=zJ r;refine ⟨rows,⟨us,g,Paired.imp' (fun _ _ ⟨q,e,aq,rq⟩=>⟨q,e,w q aq,rq⟩) pr,fun hm=>?_⟩,by rw[lr,l],hr⟩;obtain ⟨q,_,e,aq,_⟩:=r _ hm;cases e;exact a aq
theorem hJ.trans {A:Addr->Prop} {b m:Addr} {H H1 H2:Hp} (h:hJ A b m H H1) (h':hJ A b m H1 H2):hJ A b m H H2:=fun c u e n1 n2 n3=>h' c u (h c u e n1 n2 n3) n1 n2 n3
structure PtI (K:PySem.W.Frag) (A:Addr->Prop) (n:Nat) (C:Rat->Prop) (m p l b q0:Addr) (i o:Nat) (ws vs:List V) (H0 H:Hp):Prop where
 mix:Mix K A H n C m p l b q0 i o
 gp:H p=some (.lst ws)
 gl:H l=some (.lst vs)
 kp:hJ A b m H0 H
theorem JA {K:PySem.W.Frag} {A:Addr->Prop} {H0 H:Hp} {n:Nat} {C:Rat->Prop} {us:List V} {rows:List (List Rat)} (pr:Paired (cS K H0 H) rows us) (h:∀qs∈rows,qs.length=n/\∀y∈qs,C y) (w:∀q,V.ref q∈us->H0 q=none->H q≠none->A q):∀x∈us,iJ K A H n C x:=fun x hx=>by
 obtain ⟨qs,hq,q,e,a,r⟩:=dB pr hx;subst e;exact ⟨q,qs,rfl,w q hx a (by obtain ⟨_,g,_⟩:=r;rw[g];simp),r,(h qs hq).1,(h qs hq).2⟩
def Hu:Sp:=fun vs H Q _=>∃b,vs=[.ref b]/\jz H b/\∀r (n i o w:Nat) H',H' r=some (.tup [.int n,.int i,.int o,.int w])->n<=5->i<=4->o<=4->(w=4\/w=9\/(w=1000000/\n<=2))->(n=5->i<=2/\o<=2)->jz H' b->cR b H H'->Q (.ref r) H'
def pR (K:PySem.W.Frag) (H0 H:Hp) (r:Addr) (mv pt lk:List (List Rat)):Prop:=∃m p l,H r=some (.tup [.ref m,.ref p,.ref l])/\H0 m=none/\H0 p=none/\H0 l=none/\bB K H0 H m mv/\bB K H0 H p pt/\bB K H0 H l lk
section
variable {K:PySem.W.Frag} {H H' H0 H1:Hp} {r b:Addr} {mv pt lk:List (List Rat)}
theorem pR.same (h:pR K H0 H r mv pt lk) (e:aE H H'):pR K H0 H' r mv pt lk:=by obtain ⟨m,p,l,g,n1,n2,n3,g1,g2,g3⟩:=h;exact ⟨m,p,l,e _ _ g,n1,n2,n3,g1.same e,g2.same e,g3.same e⟩
theorem pR.upto (h:pR K H0 H r mv pt lk) (u:cR b H H') (B:jz H b) (nb:H0 b≠none):pR K H0 H' r mv pt lk:=by
 obtain ⟨m,p,l,g,n1,n2,n3,g1,g2,g3⟩:=h;exact ⟨m,p,l,u.tup B g,n1,n2,n3,g1.upto u B (fun z=>nb (by rw[<- z];exact n1)) nb,g2.upto u B (fun z=>nb (by rw[<- z];exact n2)) nb,g3.upto u B (fun z=>nb (by rw[<- z];exact n3)) nb⟩
end
def EE (K:PySem.W.Frag) (C:Addr):Sp:=fun vs H Q _=>∃(r:Addr) (H0:Hp) (mv pt lk:List (List Rat)),vs=[.ref r]/\pR K H0 H r mv pt lk/\oy mv pt lk/\tP mv pt lk/\∀x H',H x=none->aE H H'->mh K H H' C x mv pt lk->Q (.ref x) H'
theorem Kv {as bs xs ys:List Rat} (h:as.length=xs.length):d5 (as++bs) (xs++ys)=d5 as xs+d5 bs ys:=by
 unfold d5;rw[List.zipWith_append h,List.sum_append]
theorem Im {mv pt:List (List Rat)} {st pu:List Rat}:(kf mv pt st pu).length=mv.length:=by unfold kf;rw[bN,ck];lia
structure Both (K:PySem.W.Frag) (C:Addr) (H0 H:Hp) (x r:Addr) (mv pt lk:List (List Rat)):Prop where
 sys:mh K H0 H C x mv pt lk
 par:pR K H0 H r mv pt lk
 dim:oy mv pt lk
 fit:tP mv pt lk
def rO (k j:Nat) (l:List Rat):Prop:=∃M V:Nat,0 < M/\M<=2^k/\V<=2^j/\∀x∈l,Fr M V x
section
variable {k j k' j':Nat} {l xs ys:List Rat} {x y:Rat}
theorem rO.szn (h:rO k j l) (hx:x∈l) (hk:k+j<=3950:=by decide):qE x:=by
 obtain ⟨M,V,h0,h1,h2,h3⟩:=h;obtain ⟨a,b⟩:=(h3 x hx).sz h0 h1 h2;exact ⟨a.mono (by lia),b.mono (by lia)⟩
theorem rO.rowM (h:rO k j l) (hk:k+j<=4200:=by decide):∃M,Fs M (l.map nm):=by
 obtain ⟨M,V,h0,h1,h2,h3⟩:=h;refine ⟨M,by lia,?_,fun n hn=>?_⟩
 ·show ((M:Nat):Int).natAbs < 2^4400
  rw[cY];exact aY h1 (dC (by decide) (by lia))
 ·obtain ⟨x,hx,rfl⟩:=aB.mp hn;obtain ⟨a,_⟩:=(h3 x hx).sz h0 h1 h2;exact ⟨iF x,(h3 x hx).den,a.mono (by lia)⟩
theorem rO.one (h:rO k j l) (hx:x∈l):rO k j [x]:=by
 obtain ⟨M,V,h0,h1,h2,h3⟩:=h;exact ⟨M,V,h0,h1,h2,fun y hy=>by rw[dv.mp hy];exact h3 x hx⟩
theorem Ku (h:rO k j xs) (h':rO k' j' ys) (hl:xs.length<=1000) (i:Nat) (hk:(k+k')+(j+j')<=3930:=by decide):qE (d5 (xs.take i) (ys.take i)):=by
 obtain ⟨M,V,h0,h1,h2,h3⟩:=h;obtain ⟨N,W,k0,k1,k2,k3⟩:=h'
 have e:1000*(V*W)<=2^(10+(j+j')):=by
  rw[cF 2 10];exact bH (by decide) (ah (bH h2 k2) (by rw[<- cF];exact ar _))
 obtain ⟨a,b⟩:=((Fr.dot (fun x hx=>h3 x (cH hx)) (fun y hy=>k3 y (cH hy))).mono (aJ _ (show (xs.take i).length<=1000 by rw[cT];lia))).sz (iM h0 k0) (ah (bH h1 k1) (by rw[<- cF];exact ar _)) e;exact ⟨a.mono (by lia),b.mono (by lia)⟩
theorem JU (hx:rO k j [x]) (hy:rO k' j' [y]) (hk:(k+k')+(j+j')<=3930:=by decide):qE (x*y):=by
 obtain ⟨M,V,h0,h1,h2,h3⟩:=hx;obtain ⟨N,W,k0,k1,k2,k3⟩:=hy;obtain ⟨a,b⟩:=((h3 x (.head _)).mul (k3 y (.head _))).sz (iM h0 k0) (ah (bH h1 k1) (by rw[<- cF];exact ar _)) (ah (bH h2 k2) (by rw[<- cF];exact ar _));exact ⟨a.mono (by lia),b.mono (by lia)⟩
def FA (xs ys:List Rat):Prop:=∃k j k' j':Nat,rO k j xs/\rO k' j' ys/\(k+k')+(j+j')<=3930
theorem FA.sys (h:rO 400 120 xs) (h':rO 1500 1800 ys):FA xs ys:=⟨_,_,_,_,h,h',by decide⟩
end
def Mt (mv pt lk:List (List Rat)):Prop:=∃M V:Nat,0 < M/\M<=2^400/\V<=2^120/\GF M V mv/\GF M V pt/\GF M V lk
section
variable {mv pt lk:List (List Rat)}
theorem Mt.fits (h:Mt mv pt lk) {l:List Rat} (hl:∀x∈l,(∃xs∈mv,x∈xs)\/(∃xs∈pt,x∈xs)\/(∃xs∈lk,x∈xs)\/x=0):rO 400 120 l:=by
 obtain ⟨M,V,h0,h1,h2,g1,g2,g3⟩:=h;refine ⟨M,V,h0,h1,h2,fun x hx=>?_⟩;rcases hl x hx with ⟨xs,a,b⟩ | ⟨xs,a,b⟩ | ⟨xs,a,b⟩ | rfl
 ·exact g1 xs a x b
 ·exact g2 xs a x b
 ·exact g3 xs a x b
 ·exact Fr.zero
theorem Mt.sf (h:Mt mv pt lk):tP mv pt lk:=by obtain ⟨M,V,a,b,c,d⟩:=h;exact ⟨M,V,a,ah b (ak (by decide) (by decide)),ah c (ak (by decide) (by decide)),d⟩
end
def FJ (K:PySem.W.Frag):Sp:=fun vs H Q _=>∃(p q:Addr) (xs ys:List Rat),vs=[.ref p,.ref q]/\cK K H p xs/\cK K H q ys/\ys.length=xs.length/\xs.length<=1000/\FA xs ys /\
 ∀r H',aE H H'->cw K H' (d5 xs ys) (.ref r)->Q (.ref r) H'
def Lj (K:PySem.W.Frag):Sp:=fun vs H Q _=>∃(p q:Addr) (H0:Hp) (rows:List (List Rat)) (ys:List Rat),vs=[.ref p,.ref q]/\bB K H0 H p rows/\cK K H q ys/\rows.length<=1000/\ys.length<=1000/\(∀xs∈rows,xs.length=ys.length/\FA xs ys) /\
 ∀r H',H r=none->aE H H'->cK K H' r (rows.map fun xs=>d5 xs ys)->Q (.ref r) H'
def HD (K:PySem.W.Frag) (C:Addr):Sp:=fun vs H Q _=>∃(x p q:Addr) (H0:Hp) (mv pt lk:List (List Rat)) (st pu:List Rat),vs=[.ref x,.ref p,.ref q]/\mh K H0 H C x mv pt lk/\oy mv pt lk/\Mt mv pt lk/\cK K H p st/\cK K H q pu/\st.length=mv.length/\pu.length=pt.length/\rO 1500 1800 (st++pu) /\
 ∀r H',H r=none->aE H H'->cK K H' r (kf mv pt st pu)->Q (.ref r) H'
def EB (mv pt:List (List Rat)) (st:List Rat) (pus:List (List Rat)) (k:Nat):List Rat:=(pus.take k).foldl (kf mv pt) st
def oR (mv pt:List (List Rat)) (st:List Rat) (pus:List (List Rat)):List (List Rat):=(List.range (pus.length+1)).map (EB mv pt st pus)
section
variable {mv pt lk pus:List (List Rat)} {st:List Rat} {k:Nat}
theorem zA {pu:List Rat} (h:pus[k]?=some pu):EB mv pt st pus (k+1)=kf mv pt (EB mv pt st pus k) pu:=by
 unfold EB;rw[take_snoc h,List.foldl_append];rfl
theorem Cd (h:st.length=mv.length):∀{k:Nat},k<=pus.length->(EB mv pt st pus k).length=mv.length
 | 0,_=>h
 | k+1,hk=>by rw[zA (af (show k < pus.length by lia)),Im]
theorem vT:(oR mv pt st pus).length=pus.length+1:=by unfold oR;rw[ag,cy]
theorem uB (h:k<=pus.length):(oR mv pt st pus)[k]?=some (EB mv pt st pus k):=by
 unfold oR;rw[aD,dj (by lia)];rfl
def Eo (mv pt:List (List Rat)) (st:List Rat) (pus:List (List Rat)):Prop:=∀k,k<=pus.length->∃N W:Nat,0 < N/\N<=2^1500/\W<=2^1800/\(∀x∈EB mv pt st pus k,Fr N W x)/\∀xs∈pus,∀x∈xs,Fr N W x
theorem Eo.both (h:Eo mv pt st pus) (hk:k<=pus.length) {pu:List Rat} (hp:pu∈pus):rO 1500 1800 (EB mv pt st pus k++pu):=by
 obtain ⟨N,W,a,b,c,d,e⟩:=h k hk;exact ⟨N,W,a,b,c,fun x hx=>(ax.mp hx).elim (d x) (e pu hp x)⟩
theorem Eo.state (h:Eo mv pt st pus) (hk:k<=pus.length):rO 1500 1800 (EB mv pt st pus k):=by
 obtain ⟨N,W,a,b,c,d,e⟩:=h k hk;exact ⟨N,W,a,b,c,d⟩
theorem K8 {M W:Nat} {rows:List (List Rat)} {w:Nat} (h:GF M W rows):GF M W (bO rows w):=fun ys hy y hy'=>by
 obtain ⟨j,_,rfl⟩:=aB.mp hy;obtain ⟨xs,hx,rfl⟩:=aB.mp hy';rw[aa];cases e:xs[j]? with
 | none=>exact Fr.zero
 | some z=>exact h xs hx z (aw e)
end
def yb (K:PySem.W.Frag) (H:Hp) (l:Addr) (H':Hp) (xs:List Rat) (x:V):Prop:=∃q,x=.ref q/\H q=none/\q≠l/\cK K H' q xs
section
variable {K:PySem.W.Frag} {H H' H2:Hp} {l:Addr} {xs:List Rat} {x:V}
theorem yb.same (h:yb K H l H' xs x) (e:aE H' H2):yb K H l H2 xs x:=by obtain ⟨q,a,b,c,d⟩:=h;exact ⟨q,a,b,c,d.same e⟩
theorem yb.upd {ys:List V} {o:HO} (h:yb K H l H' xs x) (hl:H' l=some (.lst ys)):yb K H l (upd H' l o) xs x:=by obtain ⟨q,a,b,c,d⟩:=h;exact ⟨q,a,b,c,d.updL hl c⟩
theorem yb.rowF (h:yb K H l H' xs x):cS K H H' xs x:=by obtain ⟨q,a,b,_,d⟩:=h;exact ⟨q,a,b,d⟩
theorem HN {o:HO} (e:aE H H') (n:H l=none):aE H (upd H' l o):=fun b u h=>by
 rw[br (fun z=>by rw[z,n] at h;cases h)];exact e b u h
theorem zK:∀{rows:List (List Rat)} {ys:List V},Paired (yb K H l H') rows ys->V.ref l∉ys
 | _,_,.nil=>by simp
 | _,_,.cons ⟨q,a,_,c,_⟩ r=>by
  intro hm;rcases aI.mp hm with e | hm
  ·rw[a] at e;cases e;exact c rfl
  ·exact zK r hm
end
def EI (K:PySem.W.Frag) (C:Addr):Sp:=fun vs H Q _=>∃(x s p:Addr) (H0 H1:Hp) (mv pt lk pus:List (List Rat)) (st:List Rat),vs=[.ref x,.ref s,.ref p]/\mh K H0 H C x mv pt lk/\oy mv pt lk/\Mt mv pt lk/\cK K H s st/\st.length=mv.length/\bB K H1 H p pus/\pus.length<=100/\(∀xs∈pus,xs.length=pt.length)/\Eo mv pt st pus /\
 ∀r H',H r=none->aE H H'->bB K H H' r (oR mv pt st pus)->Q (.ref r) H'
theorem Eb {i:Nat}:∀{pus:List (List Rat)},(∀xs∈pus,xs.length=i)->pus.flatten.length=pus.length*i
 | [],_=>by simp
 | x :: r,h=>by
  rw[gN,ai,h x (.head _),Eb (fun xs hx=>h xs (.tail _ hx)),bg,gM]
  lia
theorem uX {α β:Type} {F:α->β->Prop}:∀{l1:List α} {l2:List β} (_:Paired F l1 l2) (k:Nat),Paired F (l1.drop k) (l2.drop k)
 | _,_,h,0=>h
 | _,_,.nil,_+1=>.nil
 | _,_,.cons _ r,k+1=>uX r k
theorem Mn {xs:List V} {t n:Nat} (h:t+n<=xs.length):uR xs (some (t:Int)) (some ((t:Int)+(n:Int)))=(xs.drop t).take n:=by
 unfold uR;rw[show ((t:Int)+(n:Int))=((t+n:Nat):Int) by lia,HT.yQ,HT.yQ,sJ (show t<=xs.length by lia),sJ h,P0]
end L2
namespace L2
abbrev jr:=Nat->Rat
def AH (F:List jr->Rat) (r:Nat):List jr->List jr->Rat->Rat
 | _,[],_=>0
 | pre,v :: post,s=>s*v r*F (pre++post)+AH F r (pre++[v]) post (-s)
def sH:List Nat->List jr->Rat
 | [],[]=>1
 | [],_ :: _=>0
 | r :: rs,vs=>AH (fun ws=>sH rs ws) r [] vs 1
theorem CS {a b:List jr} {x:jr}:sH [] (a++x :: b)=0:=by
 cases a <;> rfl
theorem CG {F:List jr->Rat} {r:Nat} {f g h:jr} {x y:Rat} (hF:∀a b,F (a++h :: b)=x*F (a++f :: b)+y*F (a++g :: b)):∀(b p q:List jr) (s:Rat),AH F r (p++h :: q) b s=x*AH F r (p++f :: q) b s+y*AH F r (p++g :: q) b s
 | [],p,q,s=>by simp only[AH,iW,uQ]
 | v :: b,p,q,s=>by
  have i1:=hF p (q++b);have i2:=CG (r:=r) hF b p (q++[v]) (-s);simp only[AH,bP,eD] at i1 i2 ⊢;rw[i1,i2];grind
theorem Ge {F:List jr->Rat} {r:Nat} {f g h:jr} {x y:Rat} (hF:∀a b,F (a++h :: b)=x*F (a++f :: b)+y*F (a++g :: b)) (hr:h r=x*f r+y*g r):∀(a pre b:List jr) (s:Rat),AH F r pre (a++h :: b) s=x*AH F r pre (a++f :: b) s+y*AH F r pre (a++g :: b) s
 | [],pre,b,s=>by
  have i2:=CG (r:=r) hF b pre [] (-s);simp only[AH,cQ] at i2 ⊢;rw[i2,hr];grind
 | v :: a,pre,b,s=>by
  have i1:=hF (pre++a) b;have i2:=Ge hF hr a (pre++[v]) b (-s);simp only[AH,bP,eD] at i1 i2 ⊢;rw[i1,i2];grind
theorem vS {f g h:jr} {x y:Rat}:∀{rs:List Nat},(∀r∈rs,h r=x*f r+y*g r)->∀a b,sH rs (a++h :: b)=x*sH rs (a++f :: b)+y*sH rs (a++g :: b)
 | [],_,a,b=>by rw[CS,CS,CS];grind
 | r :: rs,hr,a,b=>Ge (fun a b=>vS (fun r' h'=>hr r' (.tail _ h')) a b) (hr r (.head _)) a [] b 1
theorem CQ {h:jr} {rs:List Nat} (hr:∀r∈rs,h r=0) (a b:List jr):sH rs (a++h :: b)=0:=by
 rw[vS (f:=h) (g:=h) (x:=0) (y:=0) (fun r h'=>by rw[hr r h'];grind) a b];grind
theorem Gf {F:List jr->Rat} {r:Nat} {x:jr} (hF:∀a b,F (a++x :: x :: b)=0):∀(b p q:List jr) (s:Rat),AH F r (p++x :: x :: q) b s=0
 | [],p,q,s=>rfl
 | v :: b,p,q,s=>by
  have i1:=hF p (q++b);have i2:=Gf (r:=r) hF b p (q++[v]) (-s);simp only[AH,bP,eD] at i1 i2 ⊢;rw[i1,i2];grind
theorem Gg {F:List jr->Rat} {r:Nat} {x:jr} (hF:∀a b,F (a++x :: x :: b)=0):∀(a pre b:List jr) (s:Rat),AH F r pre (a++x :: x :: b) s=0
 | [],pre,b,s=>by
  have i2:=Gf (r:=r) hF b pre [] (- -s);simp only[AH,cQ,bP,eD] at i2 ⊢;rw[i2];grind
 | v :: a,pre,b,s=>by
  have i1:=hF (pre++a) b;have i2:=Gg (r:=r) hF a (pre++[v]) b (-s);simp only[AH,bP,eD] at i1 i2 ⊢;rw[i1,i2];grind
theorem An {x:jr}:∀{rs:List Nat} (a b:List jr),sH rs (a++x :: x :: b)=0
 | [],a,b=>CS
 | r :: rs,a,b=>Gg (fun a b=>An a b) a [] b 1
theorem Mh {x y:jr} {rs:List Nat} (a b:List jr):sH rs (a++x :: y :: b)=- sH rs (a++y :: x :: b):=by
 have hr:∀r∈rs,(fun r=>1*x r+1*y r) r=1*x r+1*y r:=fun _ _=>rfl
 have h0:=An (x:=fun r=>1*x r+1*y r) (rs:=rs) a b;have h1:=vS hr a ((fun r=>1*x r+1*y r) :: b);have h2:=vS hr (a++[x]) b;have h3:=vS hr (a++[y]) b;have h4:=An (x:=x) (rs:=rs) a b;have h5:=An (x:=y) (rs:=rs) a b;simp only[bP,eD,cQ] at h0 h1 h2 h3 h4 h5;rw[h1,h2,h3,h4,h5] at h0;grind
theorem CT {x:jr} {rs:List Nat}:∀(b a c:List jr),sH rs (a++x :: (b++x :: c))=0
 | [],a,c=>An a c
 | y :: b,a,c=>by
  have:=CT (x:=x) (rs:=rs) b (a++[y]) c;simp only[bP,eD,cQ] at this;rw[eD,Mh,this];rfl
def bu:Nat->(Nat->Rat)->Rat
 | 0,_=>0
 | k+1,f=>bu k f+f k
theorem aK {f g:Nat->Rat}:∀{k:Nat},(∀j,j < k->f j=g j)->bu k f=bu k g
 | 0,_=>rfl
 | k+1,h=>by
  show bu k f+f k=bu k g+g k
  rw[aK fun j hj=>h j (by lia),h k (by lia)]
theorem nO {f g:Nat->Rat}:∀{k:Nat},bu k (fun j=>f j+g j)=bu k f+bu k g
 | 0=>by show (0:Rat)=0+0;grind
 | k+1=>by
  show bu k (fun j=>f j+g j)+_=(bu k f+f k)+(bu k g+g k)
  rw[nO];grind
theorem cn {f:Nat->Rat} {c:Rat}:∀{k:Nat},bu k (fun j=>c*f j)=c*bu k f
 | 0=>by show (0:Rat)=c*0;grind
 | k+1=>by
  show bu k (fun j=>c*f j)+_=c*(bu k f+f k)
  rw[cn];grind
theorem cb {f:Nat->Rat}:∀{k:Nat},(∀j,j < k->f j=0)->bu k f=0
 | 0,_=>rfl
 | k+1,h=>by
  show bu k f+f k=0
  rw[cb fun j hj=>h j (by lia),h k (by lia)];grind
theorem fj {f:Nat->Rat} {i:Nat}:∀{k:Nat},i < k->(∀j,j < k->j≠i->f j=0)->bu k f=f i
 | k+1,hi,h=>by
  show bu k f+f k=f i
  by_cases e:i=k
  ·subst e;rw[cb fun j hj=>h j (by lia) (by lia)];grind
  ·rw[fj (by lia) fun j hj=>h j (by lia),h k (by lia) (fun z=>e z.symm)];grind
theorem d9 {f:Nat->Nat->Rat} {m:Nat}:∀{k:Nat},bu k (fun i=>bu m (f i))=bu m (fun j=>bu k fun i=>f i j)
 | 0=>(cb fun _ _=>rfl).symm
 | k+1=>by
  show bu k (fun i=>bu m (f i))+bu m (f k)=bu m (fun j=>bu k (fun i=>f i j)+f k j)
  rw[d9,nO]
theorem Fn {rs:List Nat} {W:jr} {v:Nat->jr} {c:Nat->Rat} (a b:List jr):∀{k:Nat} {W:jr},(∀r∈rs,W r=bu k fun j=>c j*v j r)->sH rs (a++W :: b)=bu k fun j=>c j*sH rs (a++v j :: b)
 | 0,W,h=>CQ h a b
 | k+1,W,h=>by
  rw[vS (f:=fun r=>bu k fun j=>c j*v j r) (g:=v k) (x:=1) (y:=c k) (fun r hr=>by rw[h r hr];show bu k _+_=_;grind) a b,Fn a b (k:=k) (W:=fun r=>bu k fun j=>c j*v j r) fun r _=>rfl];show _=bu k _+_
  grind
end L2
namespace L2
open Nm
def yi (f:Nat->Nat):Nat->List Nat
 | 0=>[]
 | k+1=>f k :: yi f k
def su (v:Nat->jr):Nat->List jr
 | 0=>[]
 | k+1=>v k :: su v k
def KA (v:Nat->jr) (i:Nat):Nat->List jr
 | 0=>[]
 | k+1=>if k<=i then [] else v k :: KA v i k
theorem vE {f:Nat->Nat}:∀{k:Nat},(yi f k).length=k
 | 0=>rfl
 | k+1=>by show (yi f k).length+1=_;rw[vE]
theorem cw_len {v:Nat->jr}:∀{k:Nat},(su v k).length=k
 | 0=>rfl
 | k+1=>by show (su v k).length+1=_;rw[cw_len]
theorem qL {f:Nat->Nat} {r:Nat}:∀{k:Nat},r∈yi f k->∃t,t < k/\r=f t
 | k+1,h=>by
  rcases aI.mp h with h | h
  ·exact ⟨k,by lia,h⟩
  ·obtain ⟨t,a,b⟩:=qL h;exact ⟨t,by lia,b⟩
theorem zL {f g:Nat->Nat}:∀{k:Nat},(∀j,j < k->f j=g j)->yi f k=yi g k
 | 0,_=>rfl
 | k+1,h=>by
  show f k :: yi f k=g k :: yi g k
  rw[h k (by lia),zL fun j hj=>h j (by lia)]
theorem cw_congr {f g:Nat->jr}:∀{k:Nat},(∀j,j < k->f j=g j)->su f k=su g k
 | 0,_=>rfl
 | k+1,h=>by
  show f k :: su f k=g k :: su g k
  rw[h k (by lia),cw_congr fun j hj=>h j (by lia)]
theorem cw_mem {v:Nat->jr} {j:Nat}:∀{k:Nat},j < k->v j∈su v k
 | k+1,h=>by
  by_cases e:j=k
  ·subst e;exact .head _
  ·exact .tail _ (cw_mem (by lia))
theorem cw_in {v:Nat->jr} {x:jr}:∀{k:Nat},x∈su v k->∃t,t < k/\x=v t
 | k+1,h=>by
  rcases aI.mp h with h | h
  ·exact ⟨k,by lia,h⟩
  ·obtain ⟨t,a,b⟩:=cw_in h;exact ⟨t,by lia,b⟩
theorem Kz {v:Nat->jr} {i j:Nat} (h1:i < j):∀{k:Nat},j < k->v j∈KA v i k
 | k+1,h=>by
  show v j∈if k<=i then [] else v k :: KA v i k
  rw[if_neg (by lia)];by_cases e:j=k
  ·subst e;exact .head _
  ·exact .tail _ (Kz h1 (by lia))
theorem GC {v:Nat->jr} {i:Nat} {x:jr}:∀{k:Nat},x∈KA v i k->∃t,t < k/\x=v t
 | k+1,h=>by
  have h:x∈if k<=i then [] else v k :: KA v i k:=h
  split at h
  ·cases h
  ·rcases aI.mp h with h | h
   ·exact ⟨k,by lia,h⟩
   ·obtain ⟨t,a,b⟩:=GC h;exact ⟨t,by lia,b⟩
theorem cw_split {v:Nat->jr} {i:Nat}:∀{k:Nat},i < k->su v k=KA v i k++v i :: su v i
 | k+1,h=>by
  show v k :: su v k=(if k<=i then [] else v k :: KA v i k)++_
  by_cases e:i=k
  ·subst e;rw[if_pos (ar _)];rfl
  ·rw[if_neg (by lia),cw_split (k:=k) (i:=i) (by lia)];rfl
theorem BF {rs:List Nat} {v:Nat->jr} {c:Nat->Rat} {W:jr} {k i:Nat} (hi:i < k) (hW:∀r∈rs,W r=bu k fun j=>c j*v j r):sH rs (KA v i k++W :: su v i)=c i*sH rs (su v k):=by
 rw[Fn (v:=v) (c:=c) (W:=W) _ _ hW,fj hi fun j hj ne=>?_,cw_split hi];rcases bX j i with h | h
 ·obtain ⟨s,t,e⟩:=Et (cw_mem (v:=v) h);rw[e,CT];grind
 ·obtain ⟨s,t,e⟩:=Et (Kz (v:=v) (show i < j by lia) hj);have:=CT (x:=v j) (rs:=rs) t s (su v i);rw[e,bP,eD,this];grind
theorem Ou {rs:List Nat} {v:Nat->jr} {c:Nat->Rat} {W:jr} {k:Nat} (hW:∀r∈rs,W r=bu k fun j=>c j*v j r):sH rs (W :: su v k)=0:=by
 have:=Fn (v:=v) (c:=c) (W:=W) [] (su v k) hW;rw[cQ] at this;rw[this];refine cb fun j hj=>?_
 obtain ⟨s,t,e⟩:=Et (cw_mem (v:=v) hj);have:=CT (x:=v j) (rs:=rs) s [] t;rw[cQ] at this;rw[e,cQ,this];grind
theorem IA {rs:List Nat} {v:Nat->jr} {c:Nat->Rat} {W:jr} {k i:Nat} {s:Rat} (hi:i∉rs) (h1:W i=bu k (fun j=>c j*v j i)+s) (hW:∀r∈rs,W r=bu k fun j=>c j*v j r):sH (i :: rs) (W :: su v k)=s*sH rs (su v k):=by
 have e:=vS (rs:=i :: rs) (h:=W) (f:=fun r=>bu k fun j=>c j*v j r) (g:=fun r=>if r=i then 1 else 0) (x:=1) (y:=s) (fun r hr=>by
  rcases aI.mp hr with rfl | hr
  ·rw[h1,if_pos rfl];grind
  ·rw[hW r hr,if_neg (fun z=>hi (by rw[<- z];exact hr))];grind) [] (su v k)
 rw[cQ,cQ,cQ,Ou (c:=c) fun r _=>rfl] at e
 have e2:sH (i :: rs) ((fun r=>if r=i then (1:Rat) else 0) :: su v k)=sH rs (su v k):=by
  show 1*(if i=i then (1:Rat) else 0)*sH rs ([]++su v k)+AH (fun ws=>sH rs ws) i ([]++[fun r=>if r=i then (1:Rat) else 0]) (su v k) (-1)=_
  have hF:∀a b,(fun ws=>sH rs ws) (a++(fun r=>if r=i then (1:Rat) else 0) :: b)=0*(fun ws=>sH rs ws) (a++(fun r=>if r=i then (1:Rat) else 0) :: b)+0*(fun ws=>sH rs ws) (a++(fun r=>if r=i then (1:Rat) else 0) :: b):=fun a b=>by
   have:=CQ (h:=fun r=>if r=i then (1:Rat) else 0) (rs:=rs) (fun r hr=>if_neg fun z=>hi (by rw[<- z];exact hr)) a b
   dsimp only
   rw[this];grind
  have:=CG (r:=i) hF (su v k) [] [] (-1);rw[this,if_pos rfl,cQ];grind
 rw[e2] at e;rw[e];grind
theorem MO {F:List jr->Rat} {r B W:Nat}:∀{post pre:List jr} {s:Rat},(∀ws,(∀w∈ws,w∈pre++post)->ws.length+1=(pre++post).length->Fr 1 B (F ws))->(∀w∈post,Fr 1 W (w r))->Fr 1 1 s->Fr 1 (post.length*(W*B)) (AH F r pre post s)
 | [],pre,s,_,_,_=>by show Fr 1 _ 0;exact Fr.zero
 | v :: post,pre,s,hF,hw,hs=>by
  have t1:Fr 1 (W*B) (s*v r*F (pre++post)):=by
   have:=(hs.mul (hw v (.head _))).mul (hF (pre++post) (fun w h=>by
    rcases ax.mp h with h | h
    ·exact jX _ h
    ·exact bQ _ (.tail _ h)) (by simp only[ai,bg];lia))
   simpa using this
  have t2:=MO (F:=F) (r:=r) (B:=B) (W:=W) (post:=post) (pre:=pre++[v]) (s:=-s) (fun ws h h'=>hF ws (fun w hw=>by simpa using h w hw) (by simpa using h')) (fun w h=>hw w (.tail _ h)) (by simpa using hs.neg);exact (t1.add t2).mono (by rw[bg,gM];lia)
theorem BE {W N:Nat}:∀{rs:List Nat} {vs:List jr},vs.length<=N->(∀v∈vs,∀r∈rs,Fr 1 W (v r))->Fr 1 ((N*W)^rs.length) (sH rs vs)
 | [],[],_,_=>by show Fr 1 1 1;exact (Fr.int (i:=1) (by decide))
 | [],_ :: _,_,_=>by show Fr 1 _ 0;exact Fr.zero
 | r :: rs,vs,hl,h=>by
  have:=MO (F:=fun ws=>sH rs ws) (r:=r) (B:=(N*W)^rs.length) (W:=W) (post:=vs) (pre:=[]) (s:=1) (fun ws h1 h2=>BE (by rw[cQ] at h2;lia) fun v hv r' hr'=>h v (by simpa using h1 v hv) r' (.tail _ hr')) (fun w hw=>h w hw r (.head _)) (Fr.int (i:=1) (by decide));refine this.mono ?_;rw[bg,pA,cG ((N*W)^rs.length),jy N];exact aJ _ hl
structure xA (a:Nat->Nat->Rat) (m k:Nat) (pm p:Nat->Nat) (l:Nat->Nat->Rat) (d:Rat):Prop where
 inj:∀i j,i < m->j < m->pm i=pm j->i=j
 rng:∀i,i < m->pm i < m
 km:k<=m
 d0:d≠0
 det:d=sH (yi pm k) (su (fun j r=>a r (p j)) k)
 eqs:∀i,i < m->∀c,d*a (pm i) c=bu k (fun j=>a (pm i) (p j)*l j c)+if i < k then 0 else l i c
 unit:∀i,i < m->∀j,j < k->l i (p j)=if i=j then d else 0
section
variable {a l:Nat->Nat->Rat} {m k:Nat} {pm p:Nat->Nat} {d:Rat}
theorem xA.start (h:∀i,i < m->pm i=i):xA a m 0 pm p a 1 where
 inj i j hi hj e:=by rw[h i hi,h j hj] at e;exact e
 rng i hi:=by rw[h i hi];exact hi
 km:=aX _
 d0:=by decide
 det:=rfl
 eqs i hi c:=by
  rw[h i hi,if_neg (by lia)];show 1*a i c=0+a i c
  grind
 unit i _ j hj:=absurd hj (by lia)
theorem xA.coef (B:xA a m k pm p l d) {i c:Nat} (hi:i < m):a (pm i) c=bu k (fun j=>(l j c / d)*a (pm i) (p j))+if i < k then 0 else l i c / d:=by
 have h:=B.eqs i hi c;have d0:=B.d0
 have e:bu k (fun j=>(l j c / d)*a (pm i) (p j))=(1 / d)*bu k (fun j=>a (pm i) (p j)*l j c):=by
  rw[<- cn];exact aK fun j _=>by grind
 rw[e]
 split at h
 ·rw[if_pos (by assumption)];grind
 ·rw[if_neg (by assumption)];grind
theorem xA.old (B:xA a m k pm p l d) {i c:Nat} (hi:i < k):l i c=sH (yi pm k) (KA (fun j r=>a r (p j)) i k++(fun r=>a r c) :: su (fun j r=>a r (p j)) i):=by
 have km:=B.km;have d0:=B.d0;rw[BF (v:=fun j r=>a r (p j)) (c:=fun j=>l j c / d) hi fun r hr=>?_,<- B.det]
 ·grind
 ·obtain ⟨t,ht,rfl⟩:=qL hr;have:=B.coef (i:=t) (c:=c) (by lia);rw[if_pos ht] at this;rw[this];grind
theorem xA.new (B:xA a m k pm p l d) {i c:Nat} (h1:k<=i) (hi:i < m):l i c=sH (pm i :: yi pm k) ((fun r=>a r c) :: su (fun j r=>a r (p j)) k):=by
 have km:=B.km;have d0:=B.d0
 have hn:pm i∉yi pm k:=fun hm=>by
  obtain ⟨t,ht,e⟩:=qL hm;have:=B.inj i t hi (by lia) e
  lia
 have e1:a (pm i) c=bu k (fun j=>(l j c / d)*a (pm i) (p j))+l i c / d:=by
  have:=B.coef (i:=i) (c:=c) hi;rwa [if_neg (by lia)] at this
 have e2:∀r∈yi pm k,a r c=bu k (fun j=>(l j c / d)*a r (p j)):=fun r hr=>by
  obtain ⟨t,ht,rfl⟩:=qL hr;have:=B.coef (i:=t) (c:=c) (by lia);rw[if_pos ht] at this;rw[this];grind
 rw[IA (v:=fun j r=>a r (p j)) (c:=fun j=>l j c / d) (W:=fun r=>a r c) (s:=l i c / d) hn e1 e2,<- B.det];grind
theorem xA.fr {W N:Nat} (B:xA a m k pm p l d) (hN:k < N) (hW:1<=W) (ha:∀i,i < m->∀c,Fr 1 W (a i c)) {i c:Nat} (hi:i < m):Fr 1 ((N*W)^(k+1)) (l i c):=by
 have km:=B.km;have mono:∀t,t<=k+1->(N*W)^t<=(N*W)^(k+1):=fun t ht=>ak (iM (by lia) hW) ht
 have ha':∀r∈yi pm k,∀c,Fr 1 W (a r c):=fun r hr c=>by
  obtain ⟨t,ht,rfl⟩:=qL hr;exact ha _ (B.rng t (by lia)) c
 by_cases h:i < k
 ·rw[B.old h];refine (BE (W:=W) (N:=N) ?_ ?_).mono (mono _ (by rw[vE];lia))
  ·have:=congrArg List.length (cw_split (v:=fun j r=>a r (p j)) h);rw[ai,bg,cw_len] at this;rw[ai,bg]
   lia
  ·intro v hv r hr;rcases ax.mp hv with hv | hv
   ·obtain ⟨t,_,rfl⟩:=GC hv;exact ha' r hr _
   ·rcases aI.mp hv with rfl | hv
    ·exact ha' r hr _
    ·obtain ⟨t,_,rfl⟩:=cw_in hv;exact ha' r hr _
 ·rw[B.new (by lia) hi];refine (BE (W:=W) (N:=N) ?_ ?_).mono (mono _ (by rw[bg,vE];lia))
  ·rw[bg,cw_len]
   lia
  ·intro v hv r hr
   have hr':∀c,Fr 1 W (a r c):=fun c=>by
    rcases aI.mp hr with rfl | hr
    ·exact ha _ (B.rng i hi) c
    ·exact ha' r hr c
   rcases aI.mp hv with rfl | hv
   ·exact hr' _
   ·obtain ⟨t,_,rfl⟩:=cw_in hv;exact hr' _
theorem xA.dfr {W N:Nat} (B:xA a m k pm p l d) (hN:k<=N) (ha:∀i,i < m->∀c,Fr 1 W (a i c)):Fr 1 ((N*W)^k) d:=by
 have km:=B.km;rw[B.det]
 have:=BE (W:=W) (N:=N) (rs:=yi pm k) (vs:=su (fun j r=>a r (p j)) k) (by rw[cw_len];exact hN) fun v hv r hr=>by
  obtain ⟨t,ht,rfl⟩:=qL hr;obtain ⟨t',_,rfl⟩:=cw_in hv;exact ha _ (B.rng t (by lia)) _
 rwa [vE] at this
def swN (k t i:Nat):Nat:=if i=k then t else if i=t then k else i
theorem uU {k t m i:Nat} (hk:k < m) (ht:t < m) (hi:i < m):swN k t i < m:=by
 unfold swN
 split
 ·exact ht
 ·split
  ·exact hk
  ·exact hi
theorem Nu {k t i j:Nat} (h:swN k t i=swN k t j):i=j:=by
 unfold swN at h
 split at h <;> split at h <;> (try split at h) <;> (try split at h) <;> lia
theorem vC {k t i:Nat} (h:k<=t) (hi:i < k):swN k t i=i:=by
 unfold swN;rw[if_neg (by lia),if_neg (by lia)]
theorem v5 {k t i:Nat} (h:k<=t) (hi:k<=i):k<=swN k t i:=by
 unfold swN
 split
 ·exact h
 ·split <;> lia
theorem xA.swap (B:xA a m k pm p l d) {t:Nat} (h:k<=t) (ht:t < m):xA a m k (fun i=>pm (swN k t i)) p (fun i=>l (swN k t i)) d where
 inj i j hi hj e:=Nu (B.inj _ _ (uU (by lia) ht hi) (uU (by lia) ht hj) e)
 rng i hi:=B.rng _ (uU (by lia) ht hi)
 km:=B.km
 d0:=B.d0
 det:=by rw[B.det,zL (f:=pm) (g:=fun i=>pm (swN k t i)) fun j hj=>by rw[vC h hj]]
 eqs i hi c:=by
  have e:=B.eqs (swN k t i) (uU (by lia) ht hi) c;have e1:bu k (fun j=>a (pm (swN k t i)) (p j)*l (swN k t j) c)=bu k (fun j=>a (pm (swN k t i)) (p j)*l j c):=aK fun j hj=>by rw[vC h hj]
  rw[e1];by_cases hk:i < k
  ·rw[vC h hk] at e ⊢;exact e
  ·rw[if_neg hk];rw[if_neg (by have:=v5 h (show k<=i by lia);lia)] at e;exact e
 unit i hi j hj:=by
  rw[B.unit _ (uU (by lia) ht hi) j hj];by_cases hk:i < k
  ·rw[vC h hk]
  ·have:=v5 h (show k<=i by lia);rw[if_neg (by lia),if_neg (by lia)]
theorem xA.step (B:xA a m k pm p l d) {c0:Nat} (hk:k < m) (h0:l k c0≠0):xA a m (k+1) pm (fun j=>if j=k then c0 else p j) (fun i c=>if i=k then l k c else (l k c0*l i c - l i c0*l k c) / d) (l k c0) where
 inj:=B.inj
 rng:=B.rng
 km:=hk
 d0:=h0
 det:=by
  rw[B.new (ar _) hk];show _=sH (pm k :: yi pm k) ((fun r=>a r (if k=k then c0 else p k)) :: su _ k)
  rw[if_pos rfl];congr 2;exact cw_congr fun j hj=>by rw[if_neg (show j≠k by lia)]
 eqs i hi c:=by
  have d0:=B.d0;have e1:=B.eqs i hi c;have e2:=B.eqs i hi c0;show l k c0*a (pm i) c=(bu k _+_)+_
  have s1:bu k (fun j=>a (pm i) (if j=k then c0 else p j)*(if j=k then l k c else (l k c0*l j c - l j c0*l k c) / d))=(l k c0 / d)*bu k (fun j=>a (pm i) (p j)*l j c)+(- l k c / d)*bu k (fun j=>a (pm i) (p j)*l j c0):=by
   rw[<- cn,<- cn,<- nO];refine aK fun j hj=>?_
   rw[if_neg (show j≠k by lia),if_neg (show j≠k by lia)];grind
  rw[s1];simp only[if_true];generalize bu k (fun j=>a (pm i) (p j)*l j c)=S1 at e1 ⊢;generalize bu k (fun j=>a (pm i) (p j)*l j c0)=S2 at e2 ⊢;rcases dn i k with h | h | h
  ·rw[if_pos h] at e1 e2;rw[if_pos (by lia)];grind
  ·subst h;rw[if_neg (by lia)] at e1 e2;rw[if_pos (by lia)];grind
  ·rw[if_neg (by lia)] at e1 e2;rw[if_neg (by lia),if_neg (by lia)];grind
 unit i hi j hj:=by
  have d0:=B.d0;by_cases e:j=k
  ·subst e;simp only[if_true];by_cases ei:i=j
   ·rw[if_pos ei,if_pos ei]
   ·rw[if_neg ei,if_neg ei];grind
  ·have hj':j < k:=by lia
   rw[if_neg e];by_cases ei:i=k
   ·rw[if_pos ei,B.unit k hk j hj',if_neg (by lia),if_neg (by lia)]
   ·rw[if_neg ei,B.unit i hi j hj',B.unit k hk j hj',if_neg (show k≠j by lia)]
    split
    ·grind
    ·grind
end
def dJ (m:Nat) (a:Nat->Nat->Rat) (x:Nat->Rat):Prop:=∃w:Nat->Rat,∀c,x c=bu m fun t=>w t*a t c
section
variable {m m' k n:Nat} {a b:Nat->Nat->Rat} {x y:Nat->Rat}
theorem dJ.row {i:Nat} (hi:i < m):dJ m a (a i):=⟨fun t=>if t=i then 1 else 0,fun c=>by
 rw[fj hi fun j _ ne=>by dsimp only;rw[if_neg ne];grind]
 dsimp only
 rw[if_pos rfl];grind⟩
theorem dJ.lin (α β:Rat) (hx:dJ m a x) (hy:dJ m a y):dJ m a fun c=>α*x c+β*y c:=by
 obtain ⟨w,hw⟩:=hx;obtain ⟨v,hv⟩:=hy;refine ⟨fun t=>α*w t+β*v t,fun c=>?_⟩
 dsimp only
 rw[hw c,hv c,<- cn,<- cn,<- nO];exact aK fun j _=>by grind
theorem dJ.congr (h:∀c,x c=y c) (hx:dJ m a x):dJ m a y:=by obtain ⟨w,hw⟩:=hx;exact ⟨w,fun c=>by rw[<- h c];exact hw c⟩
theorem dJ.trans (h:∀t,t < m'->dJ m a (b t)) (hx:dJ m' b x):dJ m a x:=by
 obtain ⟨v,hv⟩:=hx
 have h2:∀t,∃w:Nat->Rat,t < m'->∀c,b t c=bu m fun s=>w s*a s c:=fun t=>by
  by_cases ht:t < m'
  ·obtain ⟨w,hw⟩:=h t ht;exact ⟨w,fun _=>hw⟩
  ·exact ⟨fun _=>0,fun z=>absurd z ht⟩
 have hc:=Classical.axiomOfChoice h2;obtain ⟨w,hw⟩:=hc;refine ⟨fun s=>bu m' fun t=>v t*w t s,fun c=>?_⟩;rw[hv c];have e1:bu m' (fun t=>v t*b t c)=bu m' (fun t=>bu m fun s=>v t*(w t s*a s c)):=aK fun t ht=>by rw[hw t ht c,<- cn]
 rw[e1,d9];refine aK fun s _=>?_
 have:bu m' (fun t=>v t*w t s)*a s c=a s c*bu m' (fun t=>v t*w t s):=dt ..;rw[this,<- cn];exact aK fun t _=>by grind
theorem dJ.zero (h:∀c,x c=0):dJ m a x:=⟨fun _=>0,fun c=>by rw[h c,cb fun _ _=>by grind]⟩
end
structure BW (m n:Nat) (a:Nat->Nat->Rat) (k:Nat) (p:Nat->Nat) (R:Nat->Nat->Rat):Prop where
 inc:∀i j,i < j->j < k->p i < p j
 low:∀j,j < k->p j < n
 unit:∀i,i < k->∀j,j < k->R i (p j)=if i=j then 1 else 0
 lead:∀i,i < k->∀c,c < p i->R i c=0
 span:∀i,i < m->dJ k R (a i)
 back:∀i,i < k->dJ m a (R i)
section
variable {m m' k k' n:Nat} {a a' R R':Nat->Nat->Rat} {p p':Nat->Nat} {x:Nat->Rat}
theorem BW.coef (h:BW m n a k p R) (hx:dJ k R x) (c:Nat):x c=bu k fun j=>x (p j)*R j c:=by
 obtain ⟨w,hw⟩:=hx;rw[hw c];refine aK fun j hj=>?_
 rw[hw (p j),fj hj fun t ht ne=>by rw[h.unit t ht j hj,if_neg ne];grind,h.unit j hj j hj,if_pos rfl];grind
theorem BW.lead_in (h:BW m n a k p R) (hx:dJ k R x) {c:Nat} (h1:x c≠0) (h0:∀c',c' < c->x c'=0):∃j,j < k/\p j=c:=by
 refine Classical.byContradiction fun hn=>h1 ?_
 rw[h.coef hx c];refine cb fun j hj=>?_
 rcases dn (p j) c with z | z | z
 ·rw[h0 _ z];grind
 ·exact absurd ⟨j,hj,z⟩ hn
 ·rw[h.lead j hj c z];grind
theorem inc_le (h1:∀i j,i < j->j < k->p i < p j) (h2:∀i j,i < j->j < k'->p' i < p' j) (hs:∀j,j < k'->∃i,i < k/\p i=p' j):∀{j:Nat},j < k'->∀{i:Nat},i < k->p i=p' j->j<=i
 | 0,_,_,_,_=>aX _
 | j+1,hj,i,hi,e=>by
  obtain ⟨i0,hi0,e0⟩:=hs j (by lia);have:=inc_le h1 h2 hs (j:=j) (by lia) hi0 e0;have lt:=h2 j (j+1) (by lia) hj;rcases dn i0 i with z | z | z
  ·lia
  ·subst z;lia
  ·have:=h1 i i0 z hi0;lia
theorem Ke (h1:∀i j,i < j->j < k->p i < p j) {i j:Nat} (h:i<=j) (hj:j < k):p i<=p j:=by
 rcases bX i j with z | z
 ·exact aR (h1 i j z hj)
 ·have:i=j:=by lia
  rw[this];exact ar _
theorem Gn (h1:∀i j,i < j->j < k->p i < p j) (h2:∀i j,i < j->j < k'->p' i < p' j) (hs:∀j,j < k'->∃i,i < k/\p i=p' j):k'<=k/\∀j,j < k'->p j<=p' j:=by
 refine ⟨?_,fun j hj=>?_⟩
 ·rcases nJ k' with z | z
  ·lia
  ·obtain ⟨i,hi,e⟩:=hs (k' - 1) (by lia);have:=inc_le h1 h2 hs (j:=k' - 1) (by lia) hi e
   lia
 ·obtain ⟨i,hi,e⟩:=hs j hj;rw[<- e];exact Ke h1 (inc_le h1 h2 hs hj hi e) hi
theorem BW.uniq (h:BW m n a k p R) (h':BW m' n a' k' p' R') (s1:∀i,i < m->dJ m' a' (a i)) (s2:∀i,i < m'->dJ m a (a' i)):k=k'/\(∀j,j < k->p j=p' j)/\∀i,i < k->∀c,R i c=R' i c:=by
 have x1:∀i,i < k->dJ k' R' (R i):=fun i hi=>dJ.trans (fun t ht=>h'.span t ht) (dJ.trans s1 (h.back i hi))
 have x2:∀i,i < k'->dJ k R (R' i):=fun i hi=>dJ.trans (fun t ht=>h.span t ht) (dJ.trans s2 (h'.back i hi))
 have y1:∀j,j < k->∃i,i < k'/\p' i=p j:=fun j hj=>h'.lead_in (x1 j hj) (by rw[h.unit j hj j hj,if_pos rfl];decide) (h.lead j hj)
 have y2:∀j,j < k'->∃i,i < k/\p i=p' j:=fun j hj=>h.lead_in (x2 j hj) (by rw[h'.unit j hj j hj,if_pos rfl];decide) (h'.lead j hj)
 obtain ⟨z1,w1⟩:=Gn h'.inc h.inc y1;obtain ⟨z2,w2⟩:=Gn h.inc h'.inc y2;have ek:k=k':=KZ z1 z2;subst ek;have ep:∀j,j < k->p j=p' j:=fun j hj=>KZ (w2 j hj) (w1 j hj)
 refine ⟨rfl,ep,fun i hi c=>?_⟩;rw[h.coef (x2 i hi) c,fj hi fun j hj ne=>by rw[ep j hj,h'.unit i hi j hj,if_neg (fun z=>ne z.symm)];grind,ep i hi,h'.unit i hi i hi,if_pos rfl];grind
end
structure kx (a:Nat->Nat->Rat) (m k P:Nat) (p:Nat->Nat) (l:Nat->Nat->Rat) (d:Rat):Prop where
 km:k<=m
 d0:d≠0
 unit:∀i,i < m->∀j,j < k->l i (p j)=if i=j then d else 0
 inc:∀i j,i < j->j < k->p i < p j
 low:∀j,j < k->p j < P
 zero:∀i,k<=i->i < m->∀c,c < P->l i c=0
 lead:∀j,j < k->∀c,c < p j->l j c=0
 there:∀i,i < m->dJ m l (a i)
 back:∀i,i < m->dJ m a (l i)
section
variable {m k n P:Nat} {a l l':Nat->Nat->Rat} {p:Nat->Nat} {d d':Rat}
theorem kx.start:kx a m 0 0 p a 1 where
 km:=aX _
 d0:=by decide
 unit _ _ j hj:=absurd hj (by lia)
 inc _ j _ hj:=absurd hj (by lia)
 low j hj:=absurd hj (by lia)
 zero _ _ _ c hc:=absurd hc (by lia)
 lead j hj:=absurd hj (by lia)
 there i hi:=dJ.row hi
 back i hi:=dJ.row hi
theorem kx.skip (E:kx a m k P p l d) (h:∀i,k<=i->i < m->l i P=0):kx a m k (P+1) p l d :=
 ⟨E.km,E.d0,E.unit,E.inc,fun j hj=>xx (E.low j hj),fun i h1 h2 c hc=>by
  by_cases e:c=P
  ·rw[e];exact h i h1 h2
  ·exact E.zero i h1 h2 c (by lia),E.lead,E.there,E.back⟩
theorem O3 {k t i:Nat}:swN k t (swN k t i)=i:=by
 unfold swN
 split
 ·split <;> (try split) <;> lia
 ·split
  ·rw[if_pos rfl];lia
  ·rfl
theorem kx.swap (E:kx a m k P p l d) {t:Nat} (h:k<=t) (ht:t < m):kx a m k P p (fun i=>l (swN k t i)) d where
 km:=E.km
 d0:=E.d0
 unit i hi j hj:=by
  rw[E.unit _ (uU (by lia) ht hi) j hj];by_cases hk:i < k
  ·rw[vC h hk]
  ·have:=v5 h (show k<=i by lia);rw[if_neg (by lia),if_neg (by lia)]
 inc:=E.inc
 low:=E.low
 zero i h1 h2 c hc:=E.zero _ (v5 h h1) (uU (by lia) ht h2) c hc
 lead j hj c hc:=by rw[vC h hj];exact E.lead j hj c hc
 there i hi:=dJ.trans (fun s hs=>dJ.congr (fun c=>by rw[O3]) (dJ.row (a:=fun i=>l (swN k t i)) (i:=swN k t s) (uU (by lia) ht hs))) (E.there i hi)
 back i hi:=E.back _ (uU (by lia) ht hi)
theorem kx.step (E : kx a m k P p l d) (hk : k < m) (h0 : d' ≠ 0) (unit' : ∀ i, i < m → ∀ j, j < k + 1 → l' i (if j = k then P else p j) = if i = j then d' else 0)
    (hl : ∀ i, i < m → ∃ β γ : Rat, β ≠ 0 /\ (i = k → γ = 0) /\ ∀ c, l' i c = β * l i c + γ * l k c) : kx a m (k + 1) (P + 1) (fun j => if j = k then P else p j) l' d' where
  km := hk
  d0 := h0
  unit := unit'
  inc i j hij hj := by
    by_cases e : j = k
    · rw [if_pos e, if_neg (by lia)];exact E.low i (by lia)
    · rw [if_neg e, if_neg (by lia)];exact E.inc i j hij (by lia)
  low j hj := by
    by_cases e : j = k
    · rw [if_pos e]; lia
    · rw [if_neg e];exact xx (E.low j (by lia))
  zero i h1 h2 c hc := by
    by_cases e : c = P
    · have := unit' i h2 k (by lia);rw [if_pos rfl, if_neg (by lia)] at this;rw [e]; exact this
    · obtain ⟨β, γ, _, _, q⟩ := hl i h2;rw [q c, E.zero i (by lia) h2 c (by lia), E.zero k (ar _) hk c (by lia)];grind
  lead j hj c hc := by
    have km := E.km;obtain ⟨β, γ, _, _, q⟩ := hl j (by lia);by_cases e : j = k
    · rw [if_pos e] at hc;rw [q c, e, E.zero k (ar _) hk c hc];grind
    · rw [if_neg e] at hc;have := E.low j (by lia);rw [q c, E.lead j (by lia) c hc, E.zero k (ar _) hk c (by lia)];grind
  there i hi := by
    refine dJ.trans (fun s hs => ?_) (E.there i hi);obtain ⟨β, γ, b0, _, q⟩ := hl s hs;obtain ⟨βk, γk, bk0, gk, qk⟩ := hl k hk;have g0 := gk rfl;refine dJ.congr (fun c => ?_) (dJ.lin (1 / β) (-(γ / β) / βk) (dJ.row (a := l') hs) (dJ.row (a := l') hk));rw [q c, qk c, g0];grind
  back i hi := by
    obtain ⟨β, γ, _, _, q⟩ := hl i hi;exact dJ.congr (fun c => (q c).symm) (dJ.lin β γ (E.back i hi) (E.back k hk))
theorem kx.done (E:kx a m k n p l d) (ha:∀i,i < m->∀c,n<=c->a i c=0):BW m n a k p (fun i c=>l i c / d) where
 inc:=E.inc
 low:=E.low
 unit i hi j hj:=by
  have d0:=E.d0;have km:=E.km;rw[E.unit i (by lia) j hj]
  split
  ·grind
  ·grind
 lead i hi c hc:=by
  rw[E.lead i hi c hc];grind
 span i hi:=by
  have d0:=E.d0;refine dJ.trans (fun s hs=>?_) (E.there i hi);by_cases z:s < k
  ·refine dJ.congr (fun c=>?_) (dJ.lin d 0 (dJ.row (a:=fun i c=>l i c / d) z) (dJ.row (a:=fun i c=>l i c / d) z));grind
  ·refine dJ.zero fun c=>?_
   by_cases hc:c < n
   ·exact E.zero s (by lia) hs c hc
   ·obtain ⟨w,hw⟩:=E.back s hs;rw[hw c,cb fun t ht=>by rw[ha t ht c (by lia)];grind]
 back i hi:=by
  have km:=E.km;have d0:=E.d0;refine dJ.congr (fun c=>?_) (dJ.lin (1 / d) 0 (E.back i (by lia)) (E.back i (by lia)));grind
end
def d4 (ls:List (List Int)) (i c:Nat):Rat:=(((ls.getD i []).getD c 0:Int):Rat)
def bD (rows:List (List Rat)) (i c:Nat):Rat:=(rows.getD i []).getD c 0
def qH (ls:List (List Int)) (k t:Nat):List (List Int):=(ls.set k (ls.getD t [])).set t (ls.getD k [])
def Ee (ls:List (List Int)) (k c:Nat) (b:Int):List (List Int):=(ls.map fun zs=>List.zipWith (fun x y=>((ls.getD k []).getD c 0*x - zs.getD c 0*y).fdiv b) zs (ls.getD k [])).set k (ls.getD k [])
section
variable {ls ls0:List (List Int)} {k t n P c:Nat} {b d:Int} {ps:List Nat}
theorem tD {α:Type} {l:List α} {i j:Nat} {x e:α} (hi:i < l.length):(l.set i x).getD j e=if j=i then x else l.getD j e:=by
 rw[aa,aa,List.getElem?_set];by_cases h:j=i
 ·subst h;rw[if_pos rfl,if_pos hi,if_pos rfl];rfl
 ·rw[if_neg (fun z=>h z.symm),if_neg h]
theorem xB:(qH ls k t).length=ls.length:=by unfold qH;rw[dZ,dZ]
theorem KD:(Ee ls k c b).length=ls.length:=by unfold Ee;rw[dZ,ag]
theorem getD_in {α:Type} {l:List α} {i:Nat} {e:α} (h:i < l.length):l.getD i e∈l:=by
 rw[aa,af h];exact az h
theorem FI (w:∀zs∈ls,zs.length=n) (hk:k < ls.length) (ht:t < ls.length):∀zs∈qH ls k t,zs.length=n:=fun zs hz=>by
 unfold qH at hz;rcases cC hz with h | h
 ·rcases cC h with h | h
  ·exact w zs h
  ·rw[h];exact w _ (getD_in ht)
 ·rw[h];exact w _ (getD_in hk)
theorem GG (w:∀zs∈ls,zs.length=n) (hk:k < ls.length):∀zs∈Ee ls k c b,zs.length=n:=fun zs hz=>by
 unfold Ee at hz;rcases cC hz with h | h
 ·obtain ⟨y,hy,rfl⟩:=aB.mp h;rw[bN,w y hy,w _ (getD_in hk)]
  lia
 ·rw[h];exact w _ (getD_in hk)
theorem wV (hk:k < ls.length) (ht:t < ls.length) (i c:Nat):d4 (qH ls k t) i c=d4 ls (swN k t i) c:=by
 unfold d4 qH swN;rw[tD (by rw[dZ];exact ht),tD hk];by_cases h1:i=t
 ·rw[if_pos h1];by_cases h2:i=k
  ·rw[if_pos h2,<- h1,<- h2]
  ·rw[if_neg h2,if_pos h1]
 ·rw[if_neg h1];by_cases h2:i=k
  ·rw[if_pos h2,if_pos h2]
  ·rw[if_neg h2,if_neg h2,if_neg h1]
theorem vR (w:∀zs∈ls,zs.length=n) {i c:Nat} (hc:n<=c):d4 ls i c=0:=by
 unfold d4;by_cases h:i < ls.length
 ·have:=w _ (getD_in (e:=[]) h);rw[aa (l:=ls.getD i []),aN (by lia)];rfl
 ·rw[aa (l:=ls),aN (by lia)];rfl
theorem tG {x:Int} (h:(x:Rat)=0):x=0:=by
 have:(x:Rat)=((0:Int):Rat):=h;exact dd.mp this
theorem Fl {x b:Int} {q:Rat} (hb:b≠0) (hq:∃z:Int,q=(z:Rat)) (e:(x:Rat)=(b:Rat)*q):((x.fdiv b:Int):Rat)=q:=by
 obtain ⟨z,rfl⟩:=hq;rw[<- aP] at e;have:=dd.mp e;rw[this,Int.mul_fdiv_cancel_left _ hb]
theorem Gu {W:Nat} {q:Rat} (h:Fr 1 W q):∃z:Int,q=(z:Rat):=by
 obtain ⟨z,e,_⟩:=h;exact ⟨z,by rw[<- e];simp⟩
theorem CN {W:Nat} {z:Int} (h:Fr 1 W (z:Rat)):z.natAbs<=W:=by
 obtain ⟨y,e,b⟩:=h;have:(z:Rat)=(y:Rat):=by rw[<- e];simp
 rw[dd.mp this];simpa using b
theorem Kp (w:∀zs∈ls,zs.length=n) (hk:k < ls.length) (hb:b≠0) {i:Nat} (hi:i < ls.length) (hz:∀c,∃z:Int,(d4 ls k P*d4 ls i c - d4 ls i P*d4 ls k c) / (b:Rat)=(z:Rat)) (c:Nat) :
  d4 (Ee ls k P b) i c=if i=k then d4 ls k c else (d4 ls k P*d4 ls i c - d4 ls i P*d4 ls k c) / (b:Rat):=by
 by_cases e:i=k
 ·rw[if_pos e];unfold d4 Ee;rw[tD (by rw[ag];exact hk),if_pos e]
 ·rw[if_neg e];by_cases hc:c < n
  ·have hb':(b:Rat)≠0:=fun z=>hb (tG z)
   have lk:=w _ (getD_in (e:=[]) hk);have li:=w _ (getD_in (e:=[]) hi)
   have e1:d4 (Ee ls k P b) i c=(((((ls.getD k []).getD P 0*(ls.getD i []).getD c 0 - (ls.getD i []).getD P 0*(ls.getD k []).getD c 0).fdiv b:Int)):Rat):=by
    unfold Ee;rw[d4,tD (by rw[ag];exact hk),if_neg e];rw[aa (l:=List.map _ ls),aD,af hi];show ((((List.zipWith _ ls[i] (ls.getD k [])).getD c 0:Int)):Rat)=_
    have ei:ls.getD i []=ls[i]:=by rw[aa,af hi];rfl
    rw[<- ei];rw[aa (l:=List.zipWith _ _ _),cB,aa (l:=ls.getD i []) (i:=c),aa (l:=ls.getD k []) (i:=c),af (show c < (ls.getD i []).length by lia),af (show c < (ls.getD k []).length by lia)];rfl
   rw[e1];refine Fl hb (hz c) ?_;rw[AB,aP,aP];show _=(b:Rat)*((d4 ls k P*d4 ls i c - d4 ls i P*d4 ls k c) / (b:Rat))
   show d4 ls k P*d4 ls i c - d4 ls i P*d4 ls k c=_
   grind
  ·rw[vR (GG w hk) (show n<=c by lia),vR w (i:=i) (show n<=c by lia),vR w (i:=k) (show n<=c by lia)];grind
end
section
variable {m k n P:Nat} {a l l2:Nat->Nat->Rat} {pm p p2:Nat->Nat} {d:Rat}
theorem xA.congr (B:xA a m k pm p l d) (hp:∀j,j < k->p2 j=p j) (hl:∀i,i < m->∀c,l2 i c=l i c):xA a m k pm p2 l2 d where
 inj:=B.inj
 rng:=B.rng
 km:=B.km
 d0:=B.d0
 det:=by rw[B.det,cw_congr (f:=fun j r=>a r (p j)) (g:=fun j r=>a r (p2 j)) fun j hj=>by rw[hp j hj]]
 eqs i hi c:=by
  have km:=B.km;rw[B.eqs i hi c,hl i hi c];congr 1;exact aK fun j hj=>by rw[hp j hj,hl j (by lia) c]
 unit i hi j hj:=by rw[hp j hj,hl i hi];exact B.unit i hi j hj
theorem dJ.rows {x:Nat->Rat} (h:∀i,i < m->∀c,l2 i c=l i c) (hx:dJ m l x):dJ m l2 x:=by obtain ⟨w,hw⟩:=hx;exact ⟨w,fun c=>by rw[hw c];exact aK fun t ht=>by rw[h t ht c]⟩
theorem kx.congr (E:kx a m k P p l d) (hp:∀j,j < k->p2 j=p j) (hl:∀i,i < m->∀c,l2 i c=l i c):kx a m k P p2 l2 d where
 km:=E.km
 d0:=E.d0
 unit i hi j hj:=by rw[hp j hj,hl i hi];exact E.unit i hi j hj
 inc i j hij hj:=by rw[hp i (by lia),hp j hj];exact E.inc i j hij hj
 low j hj:=by rw[hp j hj];exact E.low j hj
 zero i h1 h2 c hc:=by rw[hl i h2];exact E.zero i h1 h2 c hc
 lead j hj c hc:=by
  have km:=E.km;rw[hp j hj] at hc;rw[hl j (by lia)];exact E.lead j hj c hc
 there i hi:=(E.there i hi).rows hl
 back i hi:=(E.back i hi).congr fun c=>(hl i hi c).symm
theorem kx.kP (E:kx a m k P p l d):k<=P:=by
 have:∀j,j < k->j<=p j:=by
  intro j
  induction j with
  | zero=>intro _;exact aX _
  | succ j ih =>
   intro hj;have:=ih (by lia);have:=E.inc j (j+1) (by lia) hj
   lia
 rcases nJ k with z | z
 ·lia
 ·have h1:=this (k - 1) (by lia);have h2:=E.low (k - 1) (by lia)
  lia
end
structure BU (ls0:List (List Int)) (n P:Nat) (ls:List (List Int)) (ps:List Nat) (d:Int):Prop where
 len:ls.length=ls0.length
 wide:∀zs∈ls,zs.length=n
 bar:∃pm,xA (d4 ls0) ls0.length ps.length pm (fun j=>ps.getD j 0) (d4 ls) d
 el:kx (d4 ls0) ls0.length ps.length P (fun j=>ps.getD j 0) (d4 ls) d
section
variable {ls0 ls:List (List Int)} {n P:Nat} {ps:List Nat} {d:Int}
theorem BU.start (w:∀zs∈ls0,zs.length=n):BU ls0 n 0 ls0 [] 1:=⟨rfl,w,⟨fun i=>i,xA.start fun _ _=>rfl⟩,kx.start⟩
theorem BU.d0 (h:BU ls0 n P ls ps d):d≠0:=fun z=>h.el.d0 (by rw[z];rfl)
theorem BU.skip (h:BU ls0 n P ls ps d) (hz:∀i,ps.length<=i->i < ls.length->d4 ls i P=0):BU ls0 n (P+1) ls ps d:=⟨h.len,h.wide,h.bar,h.el.skip fun i h1 h2=>hz i h1 (by rw[h.len];exact h2)⟩
theorem getD_snoc {l:List Nat} {x j:Nat} (hj:j < l.length+1):(l++[x]).getD j 0=if j=l.length then x else l.getD j 0:=by
 rw[aa,aa];by_cases e:j=l.length
 ·rw[if_pos e,e,bc (ar _),fg];rfl
 ·rw[if_neg e,bJ (by lia)]
theorem BU.int {W:Nat} (h:BU ls0 n P ls ps d) (hW:1<=W) (h0:∀i,i < ls0.length->∀c,Fr 1 W (d4 ls0 i c)) {t:Nat} (ht:ps.length<=t) (ht2:t < ls.length) (hne:d4 ls t P≠0) :
  ∀i,i < ls.length->i≠ps.length->∀c,∃z:Int,(d4 (qH ls ps.length t) ps.length P*d4 (qH ls ps.length t) i c - d4 (qH ls ps.length t) i P*d4 (qH ls ps.length t) ps.length c) / (d:Rat)=(z:Rat):=fun i hi ne c=>by
 obtain ⟨pm,B⟩:=h.bar;have hl:=h.len;have hk:ps.length < ls.length:=by lia
 have B1:=(B.swap ht (by lia)).congr (p2:=fun j=>ps.getD j 0) (l2:=d4 (qH ls ps.length t)) (fun _ _=>rfl) (fun i _ c=>wV hk ht2 i c)
 have h1:d4 (qH ls ps.length t) ps.length P≠0:=by
  rw[wV hk ht2];unfold swN;rw[if_pos rfl];exact hne
 have B2:=B1.step (c0:=P) (by lia) h1;have:=B2.fr (W:=W) (N:=ps.length+2) (by lia) hW h0 (i:=i) (c:=c) (by lia);rw[if_neg ne] at this;exact Gu this
theorem BU.step {W:Nat} (h:BU ls0 n P ls ps d) (hW:1<=W) (h0:∀i,i < ls0.length->∀c,Fr 1 W (d4 ls0 i c)) {t:Nat} (ht:ps.length<=t) (ht2:t < ls.length) (hne:d4 ls t P≠0) :
  BU ls0 n (P+1) (Ee (qH ls ps.length t) ps.length P d) (ps++[P]) (((Ee (qH ls ps.length t) ps.length P d).getD ps.length []).getD P 0):=by
 obtain ⟨pm,B⟩:=h.bar;have hl:=h.len;have hk:ps.length < ls.length:=by lia
 have hz:=h.int hW h0 ht ht2 hne;have w1:=FI h.wide hk ht2;have k1:ps.length < (qH ls ps.length t).length:=by rw[xB];exact hk
 have B1:=(B.swap ht (by lia)).congr (p2:=fun j=>ps.getD j 0) (l2:=d4 (qH ls ps.length t)) (fun _ _=>rfl) (fun i _ c=>wV hk ht2 i c);have E1:=(h.el.swap ht (by lia)).congr (p2:=fun j=>ps.getD j 0) (l2:=d4 (qH ls ps.length t)) (fun _ _=>rfl) (fun i _ c=>wV hk ht2 i c)
 have h1:d4 (qH ls ps.length t) ps.length P≠0:=by
  rw[wV hk ht2];unfold swN;rw[if_pos rfl];exact hne
 have B2:=B1.step (c0:=P) (by lia) h1
 have fc:∀i,i < ls0.length->∀c,d4 (Ee (qH ls ps.length t) ps.length P d) i c=if i=ps.length then d4 (qH ls ps.length t) ps.length c else (d4 (qH ls ps.length t) ps.length P*d4 (qH ls ps.length t) i c - d4 (qH ls ps.length t) i P*d4 (qH ls ps.length t) ps.length c) / (d:Rat):=fun i hi c=>by
  by_cases e:i=ps.length
  ·rw[if_pos e];unfold d4 Ee;rw[tD (by rw[ag];exact k1),if_pos e]
  ·have:=Kp w1 k1 h.d0 (i:=i) (by rw[xB];lia) (hz i (by lia) e) c;rw[this]
 have ed:(((((Ee (qH ls ps.length t) ps.length P d).getD ps.length []).getD P 0:Int)):Rat)=d4 (qH ls ps.length t) ps.length P:=by
  have:=fc ps.length (by lia) P;rw[if_pos rfl] at this;exact this
 have lp:(ps++[P]).length=ps.length+1:=by rw[ai];rfl
 have hp:∀j,j < ps.length+1->(ps++[P]).getD j 0=if j=ps.length then P else ps.getD j 0:=fun j hj=>getD_snoc hj
 refine ⟨by rw[KD,xB];exact hl,GG w1 k1,⟨fun i=>pm (swN ps.length t i),?_⟩,?_⟩
 ·rw[ed,lp];exact B2.congr hp fc
 ·rw[ed,lp];refine kx.congr (E1.step (d':=d4 (qH ls ps.length t) ps.length P) (l':=fun i c=>if i=ps.length then d4 (qH ls ps.length t) ps.length c else (d4 (qH ls ps.length t) ps.length P*d4 (qH ls ps.length t) i c - d4 (qH ls ps.length t) i P*d4 (qH ls ps.length t) ps.length c) / (d:Rat)) (by lia) h1 B2.unit fun i hi=>?_) hp fc;have d0:=h.el.d0;by_cases e:i=ps.length
  ·refine ⟨1,0,by decide,fun _=>rfl,fun c=>?_⟩;rw[if_pos e,e];grind
  ·refine ⟨d4 (qH ls ps.length t) ps.length P / (d:Rat),-(d4 (qH ls ps.length t) i P) / (d:Rat),?_,fun z=>absurd z e,fun c=>?_⟩
   ·intro z;apply h1;grind
   ·rw[if_neg e];grind
theorem BU.sz {W r:Nat} (h:BU ls0 n P ls ps d) (hW:1<=W) (h0:∀i,i < ls0.length->∀c,Fr 1 W (d4 ls0 i c)) (hP:P<=n) (hr:min ls0.length n<=r) (r15:r<=15):(d.natAbs<=(16*W)^r)/\∀zs∈ls,∀z∈zs,z.natAbs<=(16*W)^r:=by
 obtain ⟨pm,B⟩:=h.bar;have kP:=h.el.kP;have km:=B.km;have hl:=h.len;have mono:∀{s t:Nat},s<=t->(16*W)^s<=(16*W)^t:=fun hs=>ak (iM (by decide) hW) hs
 refine ⟨ah (CN (B.dfr (W:=W) (N:=16) (by lia) h0)) (mono (by lia)),fun zs hz z hz'=>?_⟩;obtain ⟨i,hi,rfl⟩:=be hz;obtain ⟨c,hc,rfl⟩:=be hz';have hw:=h.wide _ (az hi)
 have ez:d4 ls i c=(((ls[i])[c]:Int):Rat):=by
  unfold d4;rw[aa (l:=ls),af hi];show ((ls[i].getD c 0:Int):Rat)=_
  rw[aa,af hc];rfl
 by_cases hk:i < ps.length
 ·have:Fr 1 ((16*W)^ps.length) (d4 ls i c):=by
   have hd:=B.d0;rw[B.old hk]
   have:=BE (W:=W) (N:=16) (rs:=yi pm ps.length) (vs:=KA (fun j r=>d4 ls0 r (ps.getD j 0)) i ps.length++(fun r=>d4 ls0 r c) :: su (fun j r=>d4 ls0 r (ps.getD j 0)) i) (by
    have:=congrArg List.length (cw_split (v:=fun j r=>d4 ls0 r (ps.getD j 0)) hk);rw[ai,bg,cw_len] at this;rw[ai,bg]
    lia) (by
    intro v hv r hr
    have hr':∀c,Fr 1 W (d4 ls0 r c):=fun c=>by
     obtain ⟨t,ht,rfl⟩:=qL hr;exact h0 _ (B.rng t (by lia)) c
    rcases ax.mp hv with hv | hv
    ·obtain ⟨t,_,rfl⟩:=GC hv;exact hr' _
    ·rcases aI.mp hv with rfl | hv
     ·exact hr' _
     ·obtain ⟨t,_,rfl⟩:=cw_in hv;exact hr' _)
   rwa [vE] at this
  rw[ez] at this;exact ah (CN this) (mono (by lia))
 ·by_cases hn:ps.length < n
  ·have:=B.fr (W:=W) (N:=16) (by lia) hW h0 (i:=i) (c:=c) (by lia);rw[ez] at this;exact ah (CN this) (mono (by lia))
  ·have:=h.el.zero i (by lia) (by lia) c (by lia);rw[ez] at this;rw[tG this];exact aX _
end
def Tp (M W:Nat) (q:Rat):Prop:=∃z:Int,q*(M:Rat)=(z:Rat)/\z.natAbs<=W
theorem Tp.of {M V W:Nat} {q:Rat} (h:Fr M V q) (hW:V*M<=W):Tp M W q:=by obtain ⟨z,a,b⟩:=h;exact ⟨z,a,ah b hW⟩
theorem Tp.mono {M W W':Nat} {q:Rat} (h:Tp M W q) (hW:W<=W'):Tp M W' q:=by obtain ⟨z,a,b⟩:=h;exact ⟨z,a,ah b hW⟩
theorem Tp.fr {M W:Nat} {q:Rat} (h:Tp M W q) (h0:0 < M):Fr M W q:=by obtain ⟨z,a,b⟩:=h;exact ⟨z,a,ah b (eT _ h0)⟩
def BV (rows:List (List Rat)) (n w:Nat):Prop:=∃M W:Nat,0 < M/\M<=2^4300/\1<=W/\W<=2^w/\(∀xs∈rows,∀x∈xs,Tp M W x)/\w<=4300/\min rows.length n<=15/\min rows.length n*(w+4)<=8900
def jv (xs:List Rat):List Int:=fb (xs.map nm) (gY (xs.map nm))
theorem pW {xs:List Rat}:(jv xs).length=xs.length:=by unfold jv fb;rw[ag,ag]
theorem xf {xs:List Rat}:0 < gY (xs.map nm):=Ah (by decide) fun b hb=>by
 obtain ⟨n,hn,rfl⟩:=aB.mp hb;obtain ⟨x,_,rfl⟩:=aB.mp hn;exact iF x
theorem K9 {xs:List Rat} {c:Nat}:(((jv xs).getD c 0:Int):Rat)=xs.getD c 0*((gY (xs.map nm):Int):Rat):=by
 unfold jv fb;rw[aa,aa,aD,aD];cases e:xs[c]? with
 | none=>show ((0:Int):Rat)=0*_;rw[Rat.zero_mul];rfl
 | some x=>exact sL (tH (aB.mpr ⟨x,aw e,rfl⟩))
section
variable {rows:List (List Rat)} {n w i c:Nat} {xs:List Rat}
theorem zu (hi:i < rows.length):d4 (rows.map jv) i c=((gY ((rows.getD i []).map nm):Int):Rat)*bD rows i c:=by
 unfold d4 bD
 have e:(rows.map jv).getD i []=jv (rows.getD i []):=by
  rw[aa,aa,aD,af hi];rfl
 rw[e,K9,dt]
theorem CO (hw:∀xs∈rows,xs.length=n) (hc:n<=c):bD rows i c=0:=by
 unfold bD;by_cases h:i < rows.length
 ·have:=hw _ (getD_in (e:=[]) h);rw[aa (l:=rows.getD i []),aN (by lia)];rfl
 ·rw[aa (l:=rows),aN (by lia)];rfl
theorem yM (i:Nat) (hi:i < rows.length):dJ rows.length (d4 (rows.map jv)) (bD rows i):=by
 have h0:((gY ((rows.getD i []).map nm):Int):Rat)≠0:=fun z=>by
  have:=xf (xs:=rows.getD i []);have:=tG z
  lia
 refine dJ.congr (fun c=>?_) (dJ.lin (1 / ((gY ((rows.getD i []).map nm):Int):Rat)) 0 (dJ.row (a:=d4 (rows.map jv)) hi) (dJ.row (a:=d4 (rows.map jv)) hi));rw[zu hi];grind
theorem yL (i:Nat) (hi:i < rows.length):dJ rows.length (bD rows) (d4 (rows.map jv) i):=by
 refine dJ.congr (fun c=>?_) (dJ.lin ((gY ((rows.getD i []).map nm):Int):Rat) 0 (dJ.row (a:=bD rows) hi) (dJ.row (a:=bD rows) hi));rw[zu hi];grind
theorem vB {M W:Nat} {x:Rat} (h:Tp M W x):(nm x).2∣(M:Int):=by
 obtain ⟨z,e,b⟩:=h
 exact Fr.den (V:=z.natAbs) (M:=M) ⟨z,e,by
  rcases nJ M with h | h
  ·subst h;have:(z:Rat)=0:=by rw[<- e];simp
   rw[tG this];simp
  ·exact eT _ h⟩
theorem zv {M W:Nat} {x:Rat} (h:Tp M W x) (h0:0 < M) {B:Int} (hB:0 < B) (d1:(nm x).2∣B) (d2:B∣(M:Int)):∃t:Int,x*(B:Rat)=(t:Rat)/\t.natAbs<=W:=by
 obtain ⟨z,e,b⟩:=h;obtain ⟨s,es⟩:=d2;refine ⟨(nm x).1*(B / (nm x).2),(sL d1).symm,?_⟩
 have s0:0 < s:=by
  rcases Int.lt_trichotomy s 0 with h | h | h
  ·have:=v3 hB h
   lia
  ·rw[h] at es;lia
  ·exact h
 have e2:(((nm x).1*(B / (nm x).2)*s:Int):Rat)=(z:Rat):=by
  rw[aP,sL d1,<- e,<- bx,es,aP];grind
 have e3:=dd.mp e2;have:((nm x).1*(B / (nm x).2)).natAbs*s.natAbs=z.natAbs:=by rw[<- fB,e3]
 have h1:1<=s.natAbs:=by lia
 have:=eT ((nm x).1*(B / (nm x).2)).natAbs h1
 lia
theorem GH {M W:Nat} (h0:0 < M) (h:∀x∈xs,Tp M W x):gY (xs.map nm)∣(M:Int):=yV (by decide) (Int.one_dvd _) fun b hb=>by
 obtain ⟨n,hn,rfl⟩:=aB.mp hb;obtain ⟨x,hx,rfl⟩:=aB.mp hn;exact ⟨iF x,vB (h x hx)⟩
theorem BV.rowM (F:BV rows n w) (hx:xs∈rows):∃M,Fs M (xs.map nm):=by
 obtain ⟨M,W,h0,h1,hW,h2,h3,h4,_⟩:=F;refine ⟨M,by lia,?_,fun y hy=>?_⟩
 ·show ((M:Nat):Int).natAbs < 2^4400
  rw[cY];exact aY h1 (dC (by decide) (by decide))
 ·obtain ⟨x,hx',rfl⟩:=aB.mp hy;have t:=h3 xs hx x hx';refine ⟨iF x,vB t,?_⟩;obtain ⟨s,e,b⟩:=zv t h0 (iF x) (GW _) (vB t);have e2:(((nm x).1:Int):Rat)=(s:Rat):=by rw[<- e];exact mG x
  rw[dd.mp e2];exact aY (ah b h2) (dC (by decide) (by lia))
theorem BV.ent (F:BV rows n w):∃W:Nat,1<=W/\W<=2^w/\∀i,i < (rows.map jv).length->∀c,Fr 1 W (d4 (rows.map jv) i c):=by
 obtain ⟨M,W,h0,h1,hW,h2,h3,h4,_⟩:=F;refine ⟨W,hW,h2,fun i hi c=>?_⟩;rw[ag] at hi;have hx:=getD_in (e:=[]) hi;rw[zu hi];unfold bD;generalize rows.getD i []=xs at hx ⊢;by_cases hc:c < xs.length
 ·have t:=h3 xs hx _ (getD_in (e:=0) hc);obtain ⟨s,e,b⟩:=zv t h0 (xf (xs:=xs)) (tH (aB.mpr ⟨_,getD_in (e:=0) hc,rfl⟩)) (GH h0 (h3 xs hx));rw[dt,e];exact Fr.int b
 ·rw[aa,aN (by lia)];show Fr 1 W (_*0)
  rw[iW];exact Fr.zero
end
def bo (rows:List (List Rat)) (n:Nat) (R:List (List Rat)) (ps:List Nat):Prop:=R.length=ps.length/\(∀xs∈R,xs.length=n)/\BW rows.length n (bD rows) ps.length (fun j=>ps.getD j 0) (bD R)
structure Qx (rows:List (List Rat)) (n w:Nat) (R:List (List Rat)) (ps:List Nat) (d:Int) (ls:List (List Int)):Prop where
 rr:bo rows n R ps
 d0:d≠0
 len:ls.length=ps.length
 wide:∀zs∈ls,zs.length=n
 val:∀i c,d4 ls i c=(d:Rat)*bD R i c
 dsz:d.natAbs<=2^(min rows.length n*(w+4))
 zsz:∀zs∈ls,∀z∈zs,z.natAbs<=2^(min rows.length n*(w+4))
 tp:∀xs∈R,∀x∈xs,Tp d.natAbs (2^(min rows.length n*(w+4))) x
 km:ps.length<=rows.length
theorem BW.congrR {m n k:Nat} {a R R2:Nat->Nat->Rat} {p:Nat->Nat} (h:BW m n a k p R) (hr:∀i,i < k->∀c,R2 i c=R i c):BW m n a k p R2 :=
 ⟨h.inc,h.low,fun i hi j hj=>by rw[hr i hi];exact h.unit i hi j hj,fun i hi c hc=>by rw[hr i hi];exact h.lead i hi c hc,fun i hi=>(h.span i hi).rows hr,fun i hi=>(h.back i hi).congr fun c=>(hr i hi c).symm⟩
theorem BW.other {m m' n k:Nat} {a a' R:Nat->Nat->Rat} {p:Nat->Nat} (h:BW m n a k p R) (s1:∀i,i < m->dJ m' a' (a i)) (s2:∀i,i < m'->dJ m a (a' i)):BW m' n a' k p R :=
 ⟨h.inc,h.low,h.unit,h.lead,fun i hi=>dJ.trans h.span (s2 i hi),fun i hi=>dJ.trans s1 (h.back i hi)⟩
theorem EX {W w r : Nat} (h : W ≤ 2 ^ w) : (16 * W) ^ r ≤ 2 ^ (r * (w + 4)) := by
  calc (16 * W) ^ r ≤ (2 ^ (w + 4)) ^ r := tZ (by rw [cF]; lia) _
    _ = 2 ^ (r * (w + 4)) := by rw [<- BX, cG]
theorem BU.done {rows:List (List Rat)} {n w:Nat} {ls:List (List Int)} {ps:List Nat} {d:Int} (h:BU (rows.map jv) n n ls ps d) (hw:∀xs∈rows,xs.length=n) (F:BV rows n w) :
  ∃R,Qx rows n w R ps d (ls.take ps.length):=by
 obtain ⟨W,hW,W2,ent⟩:=F.ent;obtain ⟨_,_,_,_,_,_,_,_,r15,_⟩:=F;have hl:=h.len;have d0:=h.d0;have d0':(d:Rat)≠0:=fun z=>d0 (tG z)
 have km:=h.el.km;have hm:(rows.map jv).length=rows.length:=ag ..;obtain ⟨s1,s2⟩:=h.sz (r:=min rows.length n) hW ent (ar _) (by rw[hm];exact ar _) r15;have s2':∀zs∈ls,∀z∈zs,z.natAbs<=2^(min rows.length n*(w+4)):=fun zs hz z hz'=>ah (s2 zs hz z hz') (EX W2)
 have er:∀i c,bD ((ls.take ps.length).map fun zs=>zs.map fun (z:Int)=>(z:Rat) / (d:Rat)) i c=d4 (ls.take ps.length) i c / (d:Rat):=fun i c=>by
  unfold bD d4;rw[aa (l:=List.map _ _),aD,aa (l:=List.take _ _)];cases e:(ls.take ps.length)[i]? with
  | none=>show (0:Rat)=((0:Int):Rat) / _;grind
  | some zs =>
   show (zs.map fun (z:Int)=>(z:Rat) / (d:Rat)).getD c 0=((zs.getD c 0:Int):Rat) / (d:Rat)
   rw[aa,aa,aD];cases e2:zs[c]? with
   | none=>show (0:Rat)=((0:Int):Rat) / _;grind
   | some z=>rfl
 have et:∀i,i < ps.length->∀c,d4 (ls.take ps.length) i c=d4 ls i c:=fun i hi c=>by
  unfold d4;rw[aa (l:=List.take _ _),mB hi,<- aa]
 have RR:=(h.el.done fun i hi c hc=>vR (n:=n) (fun zs hz=>by
  obtain ⟨xs,hx,rfl⟩:=aB.mp hz;rw[pW];exact hw xs hx) hc).congrR (R2:=bD ((ls.take ps.length).map fun zs=>zs.map fun (z:Int)=>(z:Rat) / (d:Rat))) fun i hi c=>by rw[er,et i hi]
 rw[hm] at RR;refine ⟨(ls.take ps.length).map fun zs=>zs.map fun (z:Int)=>(z:Rat) / (d:Rat),⟨by rw[ag,cT];lia,fun xs hx=>?_,RR.other yL yM⟩,d0,by rw[cT];lia,fun zs hz=>h.wide zs (cH hz),fun i c=>?_,ah s1 (EX W2),fun zs hz=>s2' zs (cH hz),fun xs hx x hx'=>?_,by lia⟩
 ·obtain ⟨zs,hz,rfl⟩:=aB.mp hx;rw[ag];exact h.wide zs (cH hz)
 ·rw[er];grind
 ·obtain ⟨zs,hz,rfl⟩:=aB.mp hx;obtain ⟨z,hz',rfl⟩:=aB.mp hx';have b:=s2' zs (cH hz) z hz';rcases OQ d with e | e
  ·refine ⟨z,?_,b⟩;have:((d.natAbs:Nat):Rat)=(d:Rat):=by rw[<- bx,<- e]
   rw[this];grind
  ·refine ⟨-z,?_,by rw[pE];exact b⟩;have:((d.natAbs:Nat):Rat)=-(d:Rat):=by rw[<- bx,<- cP];congr 1;lia
   rw[this,cP];grind
theorem Km {R R':List (List Rat)} {n:Nat} (hl:R.length=R'.length) (w1:∀xs∈R,xs.length=n) (w2:∀xs∈R',xs.length=n) (h:∀i,i < R.length->∀c,bD R i c=bD R' i c):R=R':=by
 apply di hl;intro i h1 h2;apply di (by rw[w1 _ (az h1),w2 _ (az h2)]);intro c h3 h4;have:=h i h1 c;unfold bD at this;rw[aa (l:=R),aa (l:=R'),af h1,af h2] at this;have this:(R[i]).getD c 0=(R'[i]).getD c 0:=this;rw[aa,aa,af h3,af h4] at this;exact this
theorem bo.uniq {rows rows' R R':List (List Rat)} {n:Nat} {ps ps':List Nat} (h:bo rows n R ps) (h':bo rows' n R' ps') (s1:∀i,i < rows.length->dJ rows'.length (bD rows') (bD rows i)) (s2:∀i,i < rows'.length->dJ rows.length (bD rows) (bD rows' i)):R=R'/\ps=ps':=by
 obtain ⟨l1,w1,r1⟩:=h;obtain ⟨l2,w2,r2⟩:=h';obtain ⟨ek,ep,eR⟩:=r1.uniq r2 s1 s2;refine ⟨Km (by lia) w1 w2 fun i hi c=>eR i (by lia) c,?_⟩;apply di ek;intro j h1 h2;have:=ep j h1;rw[aa,aa,af h1,af h2] at this;exact this
theorem bo.same {rows R R':List (List Rat)} {n:Nat} {ps ps':List Nat} (h:bo rows n R ps) (h':bo rows n R' ps'):R=R'/\ps=ps':=h.uniq h' (fun _ hi=>dJ.row hi) (fun _ hi=>dJ.row hi)
open PySem PySem.Spec PyProof.Rows
def GR (l:Addr) (H:Hp) (zs:List Int) (v:V):Prop:=∃q,v=V.ref q/\q≠l/\H q=some (.lst (zs.map V.int))
def tQ (l:Addr) (H:Hp) (p:Addr) (ls:List (List Int)):Prop:=p≠l/\∃xs,H p=some (.lst xs)/\Paired (GR l H) ls xs
theorem GR.same {l:Addr} {H H':Hp} {zs:List Int} {v:V} (h:GR l H zs v) (e:aE H H'):GR l H' zs v:=by obtain ⟨q,a,n,b⟩:=h;exact ⟨q,a,n,e _ _ b⟩
theorem GR.upd {l:Addr} {H:Hp} {zs:List Int} {v:V} {o:HO} (h:GR l H zs v):GR l (upd H l o) zs v:=by obtain ⟨q,a,n,b⟩:=h;exact ⟨q,a,n,by rw[br n];exact b⟩
theorem tQ.upd {l:Addr} {H:Hp} {p:Addr} {ls:List (List Int)} {o:HO} (h:tQ l H p ls):tQ l (upd H l o) p ls:=by obtain ⟨n,xs,a,b⟩:=h;exact ⟨n,xs,by rw[br n];exact a,Paired.imp' (fun _ _ z=>z.upd) b⟩
theorem ne_old {H:Hp} {l r:Addr} (h:H l≠none) (n:H r=none):r≠l:=fun z=>h (by rw[<- z];exact n)
theorem kb {α β:Type} {F:α->β->Prop}:∀{l1:List α} {l2:List β} (_:Paired F l1 l2) (i:Nat) {x:α} {y:β},F x y->Paired F (l1.set i x) (l2.set i y)
 | _,_,.nil,_,_,_,_=>.nil
 | _,_,.cons _ r,0,_,_,h=>.cons h r
 | _,_,.cons a r,i+1,_,_,h=>.cons a (kb r i h)
theorem IU {ls:List (List Int)} {i c:Nat} {zs:List Int} (h:ls[i]?=some zs):d4 ls i c=((zs.getD c 0:Int):Rat):=by
 unfold d4;rw[aa (l:=ls),h];rfl
theorem Qg {z:Int}:((z:Int):Rat)≠0↔z≠0:=⟨fun h e=>h (by rw[e];rfl),fun h e=>h (tG e)⟩
theorem zo {zs:List Int} {c:Nat} (h:c < zs.length):Fo (zs.map V.int) (c:Int)=some (V.int (zs.getD c 0)):=dQ (by rw[aD,aa,af h];rfl)
def HJ:Sp:=fun vs H Q _=>∃(l p:Addr) (ls:List (List Int)) (b c:Nat),vs=[.ref p,.int b,.int c]/\tQ l H p ls/\ls.length<=1000/\b<=1000/\(∀zs∈ls,c < zs.length)/\(∀t:Nat,b<=t->t < ls.length->d4 ls t c≠0->Q (.int t) H)/\((∀t,b<=t->t < ls.length->d4 ls t c=0)->Q .non H)
def Ds:Sp:=fun vs H Q _=>∃(l p:Addr) (ls:List (List Int)) (t k:Nat),vs=[.ref p,.int t,.int k]/\H l≠none/\tQ l H p ls/\ls.length<=1000/\t < ls.length/\k < ls.length/\∀r H',H r=none->aE H H'->tQ l H' r (qH ls k t)->Q (.ref r) H'
def HK:Sp:=fun vs H Q _=>∃(l p:Addr) (ls:List (List Int)) (k c n:Nat) (b:Int),vs=[.ref p,.int k,.int c,.int b]/\H l≠none/\tQ l H p ls/\ls.length<=1000/\k < ls.length/\(∀zs∈ls,zs.length=n)/\n<=1000/\c < n/\b≠0/\Sz 8999 b/\(∀zs∈ls,∀z∈zs,Sz 8999 z)/\∀r H',H r=none->aE H H'->tQ l H' r (Ee ls k c b)->Q (.ref r) H'
theorem JL (K:PySem.W.Frag) {X:Cx} {a b:Expr} {ta:TA} {p pos tpos:Pos} {elts:List Expr} {kk:Nat} (hg:Gl X "zip") (hm:X.mg "zip"=none) (ha:PA X [a,b] ta) (hK:X.K=K:=by rfl) (hs:starEach [a,b] X.env=[(false,eval a X.env),(false,eval b X.env)]:=by rfl) (hs2:starEach [b] X.env=[(false,eval b X.env)]:=by rfl) :
  PI X (.Tuple elts kk tpos) (.Call (.Name "zip" p) [a,b] [] pos) (Oj K ta):=by subst hK;exact qN hg hm ha hs hs2
def dH (ps:List Nat):List V:=ps.map fun (j:Nat)=>V.int (j:Int)
def Hs (K:PySem.W.Frag):Sp:=fun vs H Q _=>∃(p:Addr) (n w:Nat) (H0:Hp) (rows:List (List Rat)),vs=[.ref p,.int n]/\bB K H0 H p rows/\rows.length<=100/\n<=100/\(∀xs∈rows,xs.length=n)/\BV rows n w /\
 ∀t lp qp R ps d ls H',H' t=some (.tup [.ref lp,.ref qp])->H' qp=some (.lst (dH ps))->tQ qp H' lp ls->aE H H'->Qx rows n w R ps d ls->Q (.ref t) H'
def Dp (K:PySem.W.Frag):Sp:=fun vs H Q _=>∃(p:Addr) (n w:Nat) (H0:Hp) (rows:List (List Rat)),vs=[.ref p,.int n]/\bB K H0 H p rows/\rows.length<=100/\n<=100/\(∀xs∈rows,xs.length=n)/\BV rows n w /\
 ∀r R ps M H',H r=none->aE H H'->bB K H H' r R->bo rows n R ps->ps.length<=rows.length->0 < M->M<=2^(min rows.length n*(w+4))->(∀xs∈R,∀x∈xs,Tp M (2^(min rows.length n*(w+4))) x)->Q (.ref r) H'
def Ei (rows:List (List Rat)) (i:Nat):Rat:=((gY ((rows.getD i []).map nm):Int):Rat)
theorem xc {rows:List (List Rat)} {i:Nat}:Ei rows i≠0:=fun z=>by
 have:=xf (xs:=rows.getD i []);have:=tG z
 lia
structure A5 (rows:List (List Rat)) (n P:Nat) (rs:List (List Rat)) (ps:List Nat):Prop where
 len:rs.length=rows.length
 wide:∀xs∈rs,xs.length=n
 ex:∃pm l d,xA (d4 (rows.map jv)) rows.length ps.length pm (fun j=>ps.getD j 0) l d/\kx (d4 (rows.map jv)) rows.length ps.length P (fun j=>ps.getD j 0) l d/\∀i,i < rows.length->∀c,bD rs i c=l i c / (d*if i < ps.length then 1 else Ei rows (pm i))
section
variable {rows rs rs':List (List Rat)} {n P w a:Nat} {ps:List Nat}
theorem MM {d:Rat} {k i j:Nat} (h:d≠0):d*(if i < k then 1 else Ei rows j)≠0:=by
 have:=xc (rows:=rows) (i:=j)
 split <;> grind
theorem A5.start (hw:∀xs∈rows,xs.length=n):A5 rows n 0 rows []:=⟨rfl,hw,fun i=>i,d4 (rows.map jv),1,xA.start fun _ _=>rfl,kx.start,fun i hi c=>by
 rw[zu hi,if_neg (by show ¬i < 0;lia)];have:=xc (rows:=rows) (i:=i);show bD rows i c=Ei rows i*bD rows i c / (1*Ei rows i)
 grind⟩
theorem A5.skip (h:A5 rows n P rs ps) (hz:∀i,ps.length<=i->i < rs.length->bD rs i P=0):A5 rows n (P+1) rs ps:=by
 obtain ⟨len,wide,pm,l,d,B,E,v⟩:=h;refine ⟨len,wide,pm,l,d,B,E.skip fun i h1 h2=>?_,v⟩;have:=v i h2 P;rw[hz i h1 (by lia)] at this;have ne:=MM (rows:=rows) (i:=i) (j:=pm i) (k:=ps.length) B.d0;generalize d*(if i < ps.length then 1 else Ei rows (pm i))=D at this ne;grind
theorem A5.km (h:A5 rows n P rs ps):ps.length<=rows.length/\ps.length<=P:=by obtain ⟨_,_,_,_,_,_,E,_⟩:=h;exact ⟨E.km,E.kP⟩
theorem A5.step (h:A5 rows n P rs ps) {t:Nat} (ht:ps.length<=t) (ht2:t < rs.length) (hne:bD rs t P≠0) (l':rs'.length=rows.length) (w':∀xs∈rs',xs.length=n)
  (hv:∀i,i < rows.length->∀c,bD rs' i c=if i=ps.length then 1 / bD rs t P*bD rs t c else bD rs (swN ps.length t i) c - bD rs (swN ps.length t i) P*(1 / bD rs t P*bD rs t c)):A5 rows n (P+1) rs' (ps++[P]):=by
 obtain ⟨len,wide,pm,l,d,B,E,v⟩:=h;have hk:ps.length < rows.length:=by lia
 have B1:=B.swap ht (by lia);have E1:=E.swap ht (by lia);have d0:=B.d0
 have v1:∀i,i < rows.length->∀c,bD rs (swN ps.length t i) c=l (swN ps.length t i) c / (d*if i < ps.length then 1 else Ei rows (pm (swN ps.length t i))):=fun i hi c=>by
  rw[v _ (uU hk (by lia) hi) c];by_cases z:i < ps.length
  ·rw[vC ht z,if_pos z]
  ·rw[if_neg z,if_neg (by have:=v5 ht (show ps.length<=i by lia);lia)]
 have sk:swN ps.length t ps.length=t:=by unfold swN;rw[if_pos rfl]
 have vt:∀c,bD rs t c=l (swN ps.length t ps.length) c / (d*Ei rows (pm (swN ps.length t ps.length))):=fun c=>by
  have:=v1 ps.length hk c;rw[if_neg (by lia),sk] at this;rw[sk];exact this
 have bt:=xc (rows:=rows) (i:=pm (swN ps.length t ps.length));have h1:l (swN ps.length t ps.length) P≠0:=fun z=>hne (by rw[vt P,z];grind)
 have B2:=B1.step (c0:=P) hk h1;have lp:(ps++[P]).length=ps.length+1:=by rw[ai];rfl
 have hp:∀j,j < ps.length+1->(ps++[P]).getD j 0=if j=ps.length then P else ps.getD j 0:=fun j hj=>getD_snoc hj
 refine ⟨l',w',fun i=>pm (swN ps.length t i),_,_,by rw[lp];exact B2.congr (l2:=fun i c=>if i=ps.length then l (swN ps.length t ps.length) c else (l (swN ps.length t ps.length) P*l (swN ps.length t i) c - l (swN ps.length t i) P*l (swN ps.length t ps.length) c) / d) hp (fun _ _ _=>rfl),?_,fun i hi c=>?_⟩
 ·rw[lp];refine kx.congr (E1.step (d':=l (swN ps.length t ps.length) P) (l':=fun i c=>if i=ps.length then l (swN ps.length t ps.length) c else (l (swN ps.length t ps.length) P*l (swN ps.length t i) c - l (swN ps.length t i) P*l (swN ps.length t ps.length) c) / d) hk h1 B2.unit fun i hi=>?_) hp (fun _ _ _=>rfl);by_cases e:i=ps.length
  ·refine ⟨1,0,by decide,fun _=>rfl,fun c=>?_⟩;rw[if_pos e,e];grind
  ·refine ⟨l (swN ps.length t ps.length) P / d,-(l (swN ps.length t i) P) / d,?_,fun z=>absurd z e,fun c=>?_⟩
   ·intro z;apply h1;grind
   ·rw[if_neg e];grind
 ·rw[hv i hi c,lp,vt c,vt P];by_cases e:i=ps.length
  ·rw[if_pos e,if_pos e,if_pos (by lia)];grind
  ·rw[if_neg e,if_neg e,v1 i hi c,v1 i hi P];have ne:=MM (rows:=rows) (i:=i) (j:=pm (swN ps.length t i)) (k:=ps.length) d0;by_cases z:i < ps.length
   ·rw[if_pos z,if_pos (by lia)];grind
   ·have bi:=xc (rows:=rows) (i:=pm (swN ps.length t i));rw[if_neg z,if_neg (by lia)];grind
theorem A5.done (h:A5 rows n n rs ps) (hw:∀xs∈rows,xs.length=n):bo rows n (rs.take ps.length) ps:=by
 obtain ⟨len,wide,pm,l,d,B,E,v⟩:=h;have km:=E.km;refine ⟨by rw[cT];lia,fun xs hx=>wide xs (cH hx),BW.other ((E.done fun i hi c hc=>?_).congrR fun i hi c=>?_) yL yM⟩
 ·exact vR (n:=n) (fun zs hz=>by
   obtain ⟨xs,hx,rfl⟩:=aB.mp hz;rw[pW];exact hw xs hx) hc
 ·have e:bD (rs.take ps.length) i c=bD rs i c:=by
   unfold bD;rw[aa (l:=List.take _ _),mB hi,<- aa]
  rw[e,v i (by lia) c,if_pos hi,Rat.mul_one]
end
theorem pF {M W:Nat} {x:Rat} (h:Tp M W x) (h0:0 < M) (h1:M<=2^3995) (h2:W<=2^3995):qE x:=by
 refine ⟨?_,?_⟩
 ·obtain ⟨s,e,b⟩:=zv h h0 (iF x) (GW _) (vB h);have e2:(((nm x).1:Int):Rat)=(s:Rat):=by rw[<- e];exact mG x
  rw[dd.mp e2];exact aY (ah b h2) (dC (by decide) (by decide))
 ·have:=my h0 (ou.mp (vB h));show ((x.den:Nat):Int).natAbs < _
  rw[cY];exact aY (ah this h1) (dC (by decide) (by decide))
theorem Tp.mul {M W M' W':Nat} {x y:Rat} (h:Tp M W x) (h':Tp M' W' y):Tp (M*M') (W*W') (x*y):=by
 obtain ⟨z,e,b⟩:=h;obtain ⟨z',e',b'⟩:=h';refine ⟨z*z',?_,by rw[fB];exact bH b b'⟩;rw[aP,<- e,<- e',sI];grind
theorem Lc {x:Rat} (h:qE x) (h0:x≠0):qE (1 / x):=by
 have n0:x.num≠0:=fun z=>h0 (Rat.num_eq_zero.mp z)
 have e:=mG x;have e1:(1 / x)*(x.num:Rat)=(x.den:Rat):=by rw[e];grind
 have t:Tp x.num.natAbs x.den (1 / x):=by
  rcases OQ x.num with q | q
  ·refine ⟨x.den,?_,by simp⟩;have:((x.num.natAbs:Nat):Rat)=(x.num:Rat):=by rw[<- bx,<- q]
   rw[this,e1,bx]
  ·refine ⟨-(x.den:Int),?_,by simp⟩;have:((x.num.natAbs:Nat):Rat)=-(x.num:Rat):=by rw[<- bx,<- cP];congr 1;lia
   rw[this,cP,bx,<- e1];grind
 obtain ⟨h1,h2⟩:=h;have h1:x.num.natAbs < 2^4000:=h1;have h2:((x.den:Nat):Int).natAbs < 2^4000:=h2;rw[cY] at h2;refine ⟨?_,?_⟩
 ·obtain ⟨s,e,b⟩:=zv t (by lia) (iF (1 / x)) (GW _) (vB t);have e2:(((nm (1 / x)).1:Int):Rat)=(s:Rat):=by rw[<- e];exact mG (1 / x)
  rw[dd.mp e2];exact aY b h2
 ·have:=my (show 0 < x.num.natAbs by lia) (ou.mp (vB t));show (((1 / x).den:Nat):Int).natAbs < _
  rw[cY];exact aY this h1
def Dq (K:PySem.W.Frag):Sp:=fun vs H Q _=>∃(u v:V) (x y:Rat),vs=[u,v]/\cw K H x u/\cw K H y v/\qE x/\qE y/\y≠0/\∀r H',aE H H'->cw K H' (x / y) (.ref r)->Q (.ref r) H'
theorem DI {K:PySem.W.Frag} {vs:List V} {H:Hp} {Q:VK} {E:XK} (h:Dq K vs H Q E):Lh K vs H Q E:=by
 obtain ⟨u,v,x,y,rfl,⟨p,rfl,hp⟩,⟨q,rfl,hq⟩,⟨s1,s2⟩,⟨s3,s4⟩,y0,k⟩:=h;have n0:(nm y).1≠0:=fun z=>y0 (Rat.num_eq_zero.mp z)
 have px:=iF x;have py:=iF y;have e1:=qQ x;have e2:=qQ y;have dx:(((nm x).2:Int):Rat)≠0:=fun z=>by have:=tG z;lia
 have dy:(((nm y).2:Int):Rat)≠0:=fun z=>by have:=tG z;lia
 refine ⟨p,q,_,_,_,_,rfl,hp,hq,px,py,n0,s1,s2,s3,s4,fun r H' s g=>k r H' s (cw.mk g ?_)⟩;by_cases hc:(nm y).1 < 0
 ·rw[if_pos hc,if_pos hc];refine mJ (by have:=v3 px hc;lia) ?_;rw[AB,AB,aP,aP,e1,e2];show x / y*(((0:Int):Rat) - _)=((0:Int):Rat) - _
  grind
 ·rw[if_neg hc,if_neg hc];refine mJ (iN px (by lia)) ?_;rw[aP,aP,e1,e2];grind
def Bf (K:PySem.W.Frag):Sp:=fun vs H Q _=>∃(p q:Addr) (xs ys:List Rat),vs=[.ref p,.ref q]/\cK K H p xs/\cK K H q ys/\ys.length=xs.length/\xs.length<=1000/\(∀x∈xs,qE x)/\(∀y∈ys,qE y) /\
 ∀r H',H r=none->aE H H'->cK K H' r (List.zipWith (fun x y=>x - y) xs ys)->Q (.ref r) H'
theorem Kj {xs ys:List Rat} {c:Nat} (h:xs.length=ys.length):(List.zipWith (fun x y=>x - y) xs ys).getD c 0=xs.getD c 0 - ys.getD c 0:=by
 rw[aa,aa,aa,cB];by_cases hc:c < xs.length
 ·rw[af hc,af (show c < ys.length by lia)];rfl
 ·rw[aN (by lia),aN (by lia)];show (0:Rat)=0 - 0
  grind
theorem BB {xs:List Rat} {c:Nat} {q:Rat}:(xs.map fun y=>q*y).getD c 0=q*xs.getD c 0:=by
 rw[aa,aa,aD];cases xs[c]? with
 | none=>show (0:Rat)=q*0;grind
 | some x=>rfl
def Jp (K:PySem.W.Frag):Sp:=fun vs H Q _=>∃(p:Addr) (n:Nat) (H0:Hp) (R:List (List Rat)) (ps:List Nat),vs=[.ref p]/\bB K H0 H p R/\R.length<=100/\n<=100/\(∃rows,bo rows n R ps) /\
 ∀r H',H r=none->aE H H'->H' r=some (.lst (dH ps))->Q (.ref r) H'
theorem Eu {xs ys:List Rat} (h:ys.length=xs.length):List.zipWith (fun x y=>x - y) xs ys=(List.range xs.length).map fun i=>xs.getD i 0 - ys.getD i 0:=by
 apply xy;intro i;rw[cB,aD];by_cases hi:i < xs.length
 ·rw[dj hi,af hi,af (show i < ys.length by lia)];simp [aa,af hi,af (show i < ys.length by lia)]
 ·rw[aN (show (List.range xs.length).length<=i by simp;lia),aN (show xs.length<=i by lia)];rfl
theorem xV {K:PySem.W.Frag} {H0 H H':Hp} {q:Addr} {rows:List (List Rat)} {vs:List V} (pr:Paired (cS K H0 H) rows vs) (s:aE H H') (n:H q=none) (g:H' q=some (.lst vs)):bB K H0 H' q rows :=
 ⟨vs,g,Paired.imp' (fun _ _ z=>z.same s) pr,fun z=>by
  obtain ⟨_,_,q',e,_,_,g',_⟩:=dB pr z;cases e;rw[n] at g';cases g'⟩
theorem Lb:qE 1:=pF (M:=1) (W:=1) ⟨1,by simp,by decide⟩ (by decide) cg cg
theorem bo.le {rows R:List (List Rat)} {n:Nat} {ps:List Nat} (h:bo rows n R ps):ps.length<=n:=by
 obtain ⟨_,_,rr⟩:=h;rcases bX n ps.length with z | z
 ·have inc:∀j,j < ps.length->j<=ps.getD j 0:=by
   intro j
   induction j with
   | zero=>intro _;exact aX _
   | succ j ih =>
    intro hj;have:=ih (by lia);have:=rr.inc j (j+1) (by lia) hj
    lia
  have h1:=inc (ps.length - 1) (by lia);have h2:=rr.low (ps.length - 1) (by lia)
  lia
 ·exact z
theorem Tp.zero {M W:Nat}:Tp M W 0:=⟨0,by simp,by simp⟩
theorem Tp.add {M W W':Nat} {x y:Rat} (h:Tp M W x) (h':Tp M W' y):Tp M (W+W') (x+y):=by
 obtain ⟨z,e,b⟩:=h;obtain ⟨z',e',b'⟩:=h';refine ⟨z+z',?_,ah (Int.natAbs_add_le _ _) (Nat.add_le_add b b')⟩;rw[AD,<- e,<- e'];grind
theorem Tp.sum {M W:Nat} {f:Nat->Rat}:∀{k:Nat},(∀j,j < k->Tp M W (f j))->Tp M (k*W) (bu k f)
 | 0,_=>Tp.zero
 | k+1,h=>by
  have:=(Tp.sum (k:=k) fun j hj=>h j (by lia)).add (h k (by lia));exact this.mono (by rw[gM];exact ar _)
theorem yN {M W:Nat} {xs:List Rat} (h:∀x∈xs,Tp M W x) (c:Nat):Tp M W (xs.getD c 0):=by
 by_cases hc:c < xs.length
 ·exact h _ (getD_in hc)
 ·rw[aa,aN (by lia)];exact Tp.zero
theorem A9 {M W:Nat} {R:List (List Rat)} (h:∀xs∈R,∀x∈xs,Tp M W x) (i c:Nat):Tp M W (bD R i c):=by
 unfold bD;by_cases hi:i < R.length
 ·exact yN (h _ (getD_in hi)) c
 ·rw[aa (l:=R),aN (by lia)];exact Tp.zero
theorem IC {K:PySem.W.Frag} {l:Addr} {xs:List V} {g:TG} {tf:TT} {te:TE} {Q:VK} {σ₀:St} {H:Hp} (Pv:Nat->List V->Hp->Prop) (hz:xs.length<=sizeLine) (h0:Pv 0 [] H) (hl:∀i ys H,i<=xs.length->Pv i ys H->bM K H l xs)
  (hs:∀i x ys H p,xs[i]?=some x->ys.length<=i->Pv i ys H->H p=none->uS σ₀ g tf te (.ref p) (upd H p (.tup [.int i,x])) (fun y H'=>Pv (i+1) (ys++[y]) H') (fun H'=>Pv (i+1) ys H'))
  (hd:∀ys H,ys.length<=xs.length->Pv xs.length ys H->∀p,H p=none->Q (.ref p) (upd H p (.lst ys))):vz (OD K l) σ₀ g tf te Q H:=by
 refine ⟨fun i m ys H=>m=xs.length - i/\i<=xs.length/\ys.length<=i/\Pv i ys H,⟨xs.length,by simp,aX _,aX _,h0⟩,?_⟩;rintro i m ys H ⟨rfl,hi,hy,p⟩;have q1:=hl i ys H hi p;by_cases hlt:i < xs.length
 ·refine .inr ⟨⟨xs,xs[i],q1,by simp [hlt]⟩,by lia,fun y H'=>Pv (i+1) (ys++[y]) H',fun H'=>Pv (i+1) ys H',fun y H' p'=>⟨xs.length - (i+1),by lia,rfl,hlt,by rw[ai,aU];lia,p'⟩,fun H' p'=>⟨xs.length - (i+1),by lia,rfl,hlt,by lia,p'⟩,fun x H' y=>?_⟩;obtain ⟨r,x',rfl,hr,rfl,e1⟩:=y;exact hs i x' ys _ r (e1 xs q1) hy p hr
 ·have e:i=xs.length:=by lia
  subst e;exact .inl ⟨⟨xs,q1,ar _⟩,by lia,hd ys H hy p⟩
section
variable {X:Cx}
theorem IE (hc:X.calm=true):tY X (.builtin "min") (fun xs H Q=>∃(p:Addr) (ns:List Int),xs=[.ref p]/\bM X.K H p (ns.map V.int)/\0 < ns.length/\∀M,M∈ns->(∀a,a∈ns->M<=a)->Q (.int M) H):=by
 intro pins s σ H xs us Q I r h;obtain ⟨p,ns,rfl,hp,hne,q⟩:=h;obtain ⟨u,rfl,ru⟩:=vals1 r;cases ru;obtain ⟨its,r2,pl,_⟩:=I.list hp;have hi:=intsAre_of r2;have hl:=pl.isList;obtain ⟨xs,e⟩:=hi.allInts.items
 have hns:ns=xs.toList.map (·.1):=by
  rw[<- hi.numsOf,<- nums_intItems,<- e]
 have hsz:0 < xs.size:=by
  have h3:=hne;rw[hns,ag,Array.length_toList] at h3;exact h3
 rw[e] at hl;refine min_intList (I.ok.hd hc) hl hsz fun v h' tk hv hk=>?_
 obtain ⟨t,rfl⟩:=intItems_at hv;obtain ⟨h1,h2⟩:=argBest_lt (numAt xs) (xs.size - 1);refine ⟨.int _,H,I.kept hk,⟨_,rfl⟩,q _ ?_ fun a ha=>?_⟩
 ·rw[hns,numAt_eq];exact getD_in (by rw[ag,Array.length_toList];lia)
 ·rw[hns] at ha;obtain ⟨j,hj,rfl⟩:=mem_getD ha;rw[ag,Array.length_toList] at hj;rw[<- numAt_eq];exact h2 j (by lia)
theorem uY (K:PySem.W.Frag) (hK:X.K=K):yc X (compareOp .NotIn) (Qm K true):=by subst hK;exact Cu
end
theorem D9 {j:Nat} {ps:List Nat}:Qb (.int (j:Int)) (dH ps)=decide (j∈ps):=by
 unfold Qb dH;rw[List.any_map,nh,List.any_eq_true,decide_eq_true_iff];constructor
 ·rintro ⟨x,hx,e⟩;have e:((x:Int) == (j:Int))=true:=e;have:(x:Int)=j:=by simpa using e
  have:x=j:=by lia
  rw[<- this];exact hx
 ·intro h;exact ⟨j,h,by show ((j:Int) == (j:Int))=true;simp⟩
theorem Bs {ps:List Nat}:(dH ps).all wW=true:=by
 unfold dH;rw[List.all_map];exact qF.mpr fun _ _=>rfl
theorem wG {ps:List Nat}:(dH ps).length=ps.length:=ag ..
def Gj (ps:List Nat):List Int:=ps.map fun (j:Nat)=>(j:Int)
theorem Ik {ps:List Nat}:dH ps=(Gj ps).map V.int:=by unfold dH Gj;rw[pC];rfl
theorem CD {ps:List Nat} {i:Nat} {v:V} (h:(dH ps)[i]?=some v):∃j,ps[i]?=some j/\v=V.int (j:Int):=by
 unfold dH at h;rw[aD] at h;cases e:ps[i]? with
 | none=>rw[e] at h;cases h
 | some x=>rw[e] at h;exact ⟨x,rfl,(b7 h).symm⟩
def z7 (xs:List Rat) (i:Nat):List Nat:=(List.range i).filter fun c=>decide (xs.getD c 0≠0)
theorem yT {xs:List Rat} {i:Nat}:z7 xs (i+1)=if xs.getD i 0≠0 then z7 xs i++[i] else z7 xs i:=by
 unfold z7;rw[AF,List.filter_append];by_cases h:xs.getD i 0≠0
 ·rw[if_pos h,P1 (by simpa using h)];rfl
 ·rw[if_neg h,P2 (by simpa using h)];simp
def oE (ps:List Nat) (i:Nat):List Nat:=(List.range i).filter fun c=>decide (c∉ps)
theorem Am {ps:List Nat} {i:Nat}:oE ps (i+1)=if i∉ps then oE ps i++[i] else oE ps i:=by
 unfold oE;rw[AF,List.filter_append];by_cases h:i∉ps
 ·rw[if_pos h,P1 (by simpa using h)];rfl
 ·rw[if_neg h,P2 (by simpa using h)];simp
theorem Oo {ps:List Nat} {i:Nat}:(oE ps i).length<=i:=by
 unfold oE;exact ah (List.length_filter_le ..) (by rw[cy];exact ar _)
def Jo (K:PySem.W.Frag):Sp:=fun vs H Q _=>∃(p:Addr) (xs:List Rat) (j:Nat),vs=[.ref p]/\cK K H p xs/\xs.length<=1000/\j < xs.length/\xs.getD j 0≠0/\(∀c,c < j->xs.getD c 0=0)/\∀H',aE H H'->Q (.int (j:Int)) H'
def Jr (K:PySem.W.Frag):Sp:=fun vs H Q _=>∃(p:Addr) (n:Nat) (H0:Hp) (R:List (List Rat)) (ps:List Nat),vs=[.ref p,.int n]/\bB K H0 H p R/\R.length<=100/\n<=100/\(∃rows,bo rows n R ps) /\
 ∀r H',H r=none->aE H H'->H' r=some (.lst (dH (oE ps n)))->Q (.ref r) H'
def FV (R:List (List Rat)) (ps:List Nat) (n at_ j:Nat):List Rat:=(List.range n).map fun c=>if c=at_ then 1 else bu j fun i=>if ps.getD i 0=c then -(bD R i at_) else 0
def Ih (R:List (List Rat)) (ps:List Nat) (n at_:Nat):List Rat:=FV R ps n at_ ps.length
def bS (R:List (List Rat)) (ps:List Nat) (n:Nat):List (List Rat):=(oE ps n).map (Ih R ps n)
section
variable {R rows:List (List Rat)} {ps:List Nat} {n a j:Nat}
theorem qR:(FV R ps n a j).length=n:=by unfold FV;rw[ag,cy]
theorem ML {c:Nat} (h:c < n):(FV R ps n a j).getD c 0=if c=a then 1 else bu j fun i=>if ps.getD i 0=c then -(bD R i a) else 0:=by
 unfold FV;rw[aa,aD,dj h];rfl
theorem L9:FV R ps n a 0=Nn n a:=by
 unfold FV Nn;refine De fun c _=>?_
 by_cases e:c=a
 ·subst e;simp
 ·rw[if_neg e];show (0:Rat)=_
  have:¬(c:Int)=(a:Int):=by lia
  simp [this]
theorem Mb (RR:bo rows n R ps) (hj:j < ps.length) (ha:a∉ps):(FV R ps n a j).set (ps.getD j 0) (-(bD R j a))=FV R ps n a (j+1):=by
 obtain ⟨_,_,rr⟩:=RR;have low:=rr.low j hj;have pm:ps.getD j 0∈ps:=getD_in hj;apply di (by rw[dZ,qR,qR]);intro c h1 h2;rw[qR] at h2;have e1:(FV R ps n a j)[c]'(by rw[qR];exact h2)=if c=a then 1 else bu j fun i=>if ps.getD i 0=c then -(bD R i a) else 0:=by simp only[FV,eC,nK]
 have e2:(FV R ps n a (j+1))[c]'(by rw[qR];exact h2)=if c=a then 1 else bu (j+1) fun i=>if ps.getD i 0=c then -(bD R i a) else 0:=by simp only[FV,eC,nK]
 rw[List.getElem_set,e2];have es:bu (j+1) (fun i=>if ps.getD i 0=c then -(bD R i a) else 0)=bu j (fun i=>if ps.getD i 0=c then -(bD R i a) else 0)+if ps.getD j 0=c then -(bD R j a) else 0:=rfl
 by_cases q:ps.getD j 0=c
 ·rw[if_pos q,if_neg (fun z=>ha (by rw[<- z,<- q];exact pm)),es,if_pos q,cb fun i hi=>?_,Rat.zero_add];rw[if_neg];intro z;have:=rr.inc i j hi hj
  lia
 ·rw[if_neg q,e1];by_cases z:c=a
  ·rw[if_pos z,if_pos z]
  ·rw[if_neg z,if_neg z,es,if_neg q,uQ]
theorem CC {c:Nat} (hc:c < n) (hp:c∉ps):(Ih R ps n a).getD c 0=if c=a then 1 else 0:=by
 unfold Ih;rw[ML hc];by_cases e:c=a
 ·rw[if_pos e,if_pos e]
 ·rw[if_neg e,if_neg e,cb fun i hi=>?_];rw[if_neg (fun z=>hp (by rw[<- z];exact getD_in hi))]
theorem cV:∀{xs ys:List Rat},xs.length=ys.length->d5 xs ys=bu xs.length fun c=>xs.getD c 0*ys.getD c 0:=by
 intro xs ys h
 have key:∀k,k<=xs.length->d5 (xs.take k) (ys.take k)=bu k fun c=>xs.getD c 0*ys.getD c 0:=by
  intro k
  induction k with
  | zero=>intro _;rfl
  | succ k ih =>
   intro hk;rw[BG (by lia) (by lia),ih (by lia)];rfl
 have:=key xs.length (ar _);rwa [aH (ar _),aH (by lia)] at this
theorem JT (RR:bo rows n R ps) (ha:a < n) (hp:a∉ps) {i:Nat} {row:List Rat} (hr:rows[i]?=some row) (hw:row.length=n):d5 row (Ih R ps n a)=0:=by
 obtain ⟨_,_,rr⟩:=RR;have hi:=(aA.mp hr).1;have ef:∀c,bD rows i c=row.getD c 0:=fun c=>by unfold bD;rw[aa (l:=rows),hr];rfl
 have co:=rr.coef (rr.span i hi) a;rw[ef] at co;rw[cV (by unfold Ih;rw[qR,hw]),hw]
 have e1:bu n (fun c=>row.getD c 0*(Ih R ps n a).getD c 0)=bu n (fun c=>(if c=a then row.getD a 0 else 0)+bu ps.length fun j=>if ps.getD j 0=c then row.getD (ps.getD j 0) 0*-(bD R j a) else 0):=by
  refine aK fun c hc=>?_
  unfold Ih;rw[ML hc];by_cases e:c=a
  ·rw[if_pos e,if_pos e,e,cb fun j hj=>?_]
   ·grind
   ·rw[if_neg (fun z=>hp (by rw[<- z];exact getD_in hj))]
  ·rw[if_neg e,if_neg e,<- cn,Rat.zero_add];refine aK fun j _=>?_
   split
   ·rename_i q;rw[q]
   ·grind
 rw[e1,nO,fj (i:=a) ha (fun j _ ne=>if_neg ne),if_pos rfl,<- d9]
 have e2:bu ps.length (fun j=>bu n fun c=>if ps.getD j 0=c then row.getD (ps.getD j 0) 0*-(bD R j a) else 0)=bu ps.length fun j=>-1*(bD rows i (ps.getD j 0)*bD R j a):=by
  refine aK fun j hj=>?_
  rw[fj (i:=ps.getD j 0) (rr.low j hj) fun c _ ne=>if_neg fun z=>ne z.symm,if_pos rfl,ef];grind
 rw[e2,cn,co];grind
theorem MK {M W:Nat} (h0:0 < M) (hW:M<=W) (tp:∀xs∈R,∀x∈xs,Tp M W x) (RR:bo rows n R ps):∀x∈Ih R ps n a,Tp M W x:=fun x hx=>by
 obtain ⟨_,_,rr⟩:=RR;obtain ⟨c,hc,rfl⟩:=aB.mp hx
 split
 ·exact ⟨M,by rw[Rat.one_mul,bx],by simpa using hW⟩
 ·by_cases hp:∃j,j < ps.length/\ps.getD j 0=c
  ·obtain ⟨j,hj,e⟩:=hp;rw[fj hj fun i hi ne=>if_neg fun z=>?_,if_pos e]
   ·obtain ⟨z,ez,b⟩:=A9 tp j a;exact ⟨-z,by rw[cP,<- ez];grind,by rw[pE];exact b⟩
   ·rcases dn i j with q | q | q
    ·have:=rr.inc i j q hj;lia
    ·exact ne q
    ·have:=rr.inc j i q hi;lia
  ·rw[cb fun j hj=>if_neg fun z=>hp ⟨j,hj,z⟩];exact Tp.zero
theorem wU {c:Nat}:c∈oE ps n↔c < n/\c∉ps:=by
 unfold oE;rw[m8,vA,decide_eq_true_iff]
end
def HB (K:PySem.W.Frag):Sp:=fun vs H Q _=>∃(p:Addr) (n a:Nat) (H0:Hp) (R:List (List Rat)) (ps:List Nat),vs=[.ref p,.int n,.int a]/\bB K H0 H p R/\R.length<=100/\n<=100/\(∃rows,bo rows n R ps)/\a < n/\a∉ps/\(∀xs∈R,∀x∈xs,qE x) /\
 ∀r H',H r=none->aE H H'->cK K H' r (Ih R ps n a)->Q (.ref r) H'
def Hy (K:PySem.W.Frag):Sp:=fun vs H Q _=>∃(p:Addr) (n w:Nat) (H0:Hp) (rows:List (List Rat)),vs=[.ref p,.int n]/\bB K H0 H p rows/\rows.length<=100/\n<=100/\(∀xs∈rows,xs.length=n)/\BV rows n w/\min rows.length n*(w+4)<=3990 /\
 ∀r R ps M H',H r=none->aE H H'->bB K H H' r (bS R ps n)->bo rows n R ps->ps.length<=rows.length->0 < M->M<=2^(min rows.length n*(w+4))->(∀xs∈bS R ps n,∀x∈xs,Tp M (2^(min rows.length n*(w+4))) x)->Q (.ref r) H'
theorem Ja:qE 0:=pF (M:=1) (W:=1) Tp.zero (by decide) cg cg
theorem ui {R:List (List Rat)} {ps:List Nat} {n:Nat} {xs:List Rat} (h:xs∈bS R ps n):∃a,a < n/\a∉ps/\xs=Ih R ps n a:=by
 obtain ⟨a,ha,rfl⟩:=aB.mp h;obtain ⟨h1,h2⟩:=wU.mp ha;exact ⟨a,h1,h2,rfl⟩
def Px:Kind Str where
 R:=fun _ _ x i=>x=.str i
 d:=0
 inj:=fun _ h1 h2=>by rw[h1] at h2;cases h2;rfl
 rc:=fun {X pins σ H s x y v u a b A} I rx ry h1 h2 _=>by
  subst h1 h2;obtain ⟨t,rfl⟩:=rx;obtain ⟨t',rfl⟩:=ry;have q:=SeqAt.RcAt.str_str (A:=A) (s:=s) a t b t';rwa [fK] at q
 ne:=fun {X pins σ H s x y v u a b A} I rx ry h1 h2 _=>by
  subst h1 h2;obtain ⟨t,rfl⟩:=rx;obtain ⟨t',rfl⟩:=ry;have q:=SeqAt.RcNeAt.str_str (A:=A) (s:=s) a t b t';rwa [fK] at q
 eq:=fun {X pins σ H s x y v u a b A} I rx ry h1 h2 _=>by
  subst h1 h2;obtain ⟨t,rfl⟩:=rx;obtain ⟨t',rfl⟩:=ry;have q:=SeqAt.EqAt.str_str (A:=A) (s:=s) a t b t';rwa [fK] at q
theorem Mm {q:Rat} (h:q.den<=9):q.den∣2520:=by
 have:=q.den_pos;generalize q.den=d at h this;have:d=1\/d=2\/d=3\/d=4\/d=5\/d=6\/d=7\/d=8\/d=9:=by lia
 rcases this with rfl | rfl | rfl | rfl | rfl | rfl | rfl | rfl | rfl <;> decide
theorem Ao {q:Rat} {M:Nat} (h:Dr 9 q) (hM:2520∣M):Fr M 9 q:=(Fr.own q h.1).dvd (OO (Mm h.2) hM)
def dW (rows:List (List Rat)) (due:List Rat):List (List Rat):=List.zipWith (fun row d=>row++[d]) rows due
def v9 (R:List (List Rat)) (ps:List Nat) (n j:Nat):List Rat:=(List.range n).map fun c=>bu j fun i=>if ps.getD i 0=c then bD R i n else 0
def lM (R:List (List Rat)) (ps:List Nat) (n:Nat):List Rat:=v9 R ps n ps.length
section
variable {rows R:List (List Rat)} {due xs:List Rat} {ps:List Nat} {n j:Nat}
theorem Aj (h:due.length=rows.length):(dW rows due).length=rows.length:=by unfold dW;rw[bN];lia
theorem Me (h:∀xs∈rows,xs.length=n):∀xs∈dW rows due,xs.length=n+1:=fun xs hx=>by
 unfold dW at hx;obtain ⟨i,hi,rfl⟩:=be hx;rw[jY,ai,h _ (az _)];rfl
theorem MR {i:Nat} {row:List Rat} {d:Rat} (h1:rows[i]?=some row) (h2:due[i]?=some d):(dW rows due)[i]?=some (row++[d]):=by
 unfold dW;rw[cB,h1,h2]
theorem Kd (hd:due.length=rows.length) (hw:∀xs∈rows,xs.length=n) {i:Nat} (hi:i < rows.length):(∀c,c < n->bD (dW rows due) i c=bD rows i c)/\bD (dW rows due) i n=due.getD i 0:=by
 have e1:=af hi;have e2:=af (show i < due.length by lia);have ej:=MR e1 e2;have wi:=hw _ (az hi);refine ⟨fun c hc=>?_,?_⟩
 ·unfold bD;rw[aa (l:=dW rows due),ej,aa (l:=rows),e1];show (rows[i]++[due[i]]).getD c 0=(rows[i]).getD c 0
  rw[aa,aa,bJ (by lia)]
 ·unfold bD;rw[aa (l:=dW rows due),ej,aa (l:=due),e2];show (rows[i]++[due[i]]).getD n 0=due[i]
  rw[aa,bc (by lia),wi,fg];rfl
theorem nP:(v9 R ps n j).length=n:=by unfold v9;rw[ag,cy]
theorem O6 {c:Nat} (h:c < n):(v9 R ps n j).getD c 0=bu j fun i=>if ps.getD i 0=c then bD R i n else 0:=by
 unfold v9;rw[aa,aD,dj h];rfl
theorem Lm:v9 R ps n 0=List.replicate n 0:=by
 unfold v9;show (List.range n).map (fun _=>(0:Rat))=_
 rw[K3,cy]
theorem Ln {J:List (List Rat)} (RR:bo J (n+1) R ps) (hj:j < ps.length):(v9 R ps n j).set (ps.getD j 0) (bD R j n)=v9 R ps n (j+1):=by
 obtain ⟨_,_,rr⟩:=RR;apply di (by rw[dZ,nP,nP]);intro c h1 h2;rw[nP] at h2;have e1:(v9 R ps n j)[c]'(by rw[nP];exact h2)=bu j fun i=>if ps.getD i 0=c then bD R i n else 0:=by simp only[v9,eC,nK]
 have e2:(v9 R ps n (j+1))[c]'(by rw[nP];exact h2)=bu j (fun i=>if ps.getD i 0=c then bD R i n else 0)+if ps.getD j 0=c then bD R j n else 0:=by simp only[v9,eC,nK];rfl
 rw[List.getElem_set,e2];by_cases q:ps.getD j 0=c
 ·rw[if_pos q,if_pos q,cb fun i hi=>?_,Rat.zero_add];rw[if_neg];intro z;have:=rr.inc i j hi hj
  lia
 ·rw[if_neg q,if_neg q,e1,uQ]
theorem EK (hd:due.length=rows.length) (hw:∀xs∈rows,xs.length=n) (RR:bo (dW rows due) (n+1) R ps) (hn:n∉ps) {i:Nat} {row:List Rat} (hr:rows[i]?=some row):d5 row (lM R ps n)=due.getD i 0:=by
 obtain ⟨_,_,rr⟩:=RR;have hi:=(aA.mp hr).1;have wr:=hw row (aw hr);have ef:∀c,bD rows i c=row.getD c 0:=fun c=>by unfold bD;rw[aa (l:=rows),hr];rfl
 obtain ⟨f1,f2⟩:=Kd hd hw hi
 have low:∀j,j < ps.length->ps.getD j 0 < n:=fun j hj=>by
  have:=rr.low j hj;have:ps.getD j 0≠n:=fun z=>hn (by rw[<- z];exact getD_in hj)
  lia
 have co:=rr.coef (rr.span i (by rw[Aj hd];exact hi)) n;rw[f2] at co;rw[co,cV (by unfold lM;rw[nP,wr]),wr]
 have e1:bu n (fun c=>row.getD c 0*(lM R ps n).getD c 0)=bu n (fun c=>bu ps.length fun j=>if ps.getD j 0=c then row.getD (ps.getD j 0) 0*bD R j n else 0):=by
  refine aK fun c hc=>?_
  unfold lM;rw[O6 hc,<- cn];refine aK fun j _=>?_
  split
  ·rename_i q;rw[q]
  ·grind
 rw[e1,<- d9];refine aK fun j hj=>?_
 rw[fj (i:=ps.getD j 0) (low j hj) fun c _ ne=>if_neg fun z=>ne z.symm,if_pos rfl,f1 _ (low j hj),ef]
theorem Dt (hd:due.length=rows.length) (hw:∀xs∈rows,xs.length=n) (RR:bo (dW rows due) (n+1) R ps) (hn:n∈ps):∃w:Nat->Rat,(∀c,c < n->bu rows.length (fun i=>w i*bD rows i c)=0)/\bu rows.length (fun i=>w i*due.getD i 0)=1:=by
 obtain ⟨_,_,rr⟩:=RR;obtain ⟨j,hj,ej⟩:=be hn;have ejD:ps.getD j 0=n:=by rw[aa,af hj];exact ej
 obtain ⟨w,hw'⟩:=rr.back j hj;rw[Aj hd] at hw';refine ⟨w,fun c hc=>?_,?_⟩
 ·have z:=rr.lead j hj c (by rw[ejD];exact hc);rw[hw' c] at z;rw[<- z];exact aK fun i hi=>by rw[(Kd hd hw hi).1 c hc]
 ·have u:=rr.unit j hj j hj;rw[if_pos rfl,ejD,hw' n] at u;rw[<- u];exact aK fun i hi=>by rw[(Kd hd hw hi).2]
theorem NB (hd:due.length=rows.length) (hw:∀xs∈rows,xs.length=n) (RR:bo (dW rows due) (n+1) R ps) {x:Nat->Rat} (hx:∀i,i < rows.length->bu n (fun c=>bD rows i c*x c)=due.getD i 0):n∉ps:=fun hn=>by
 obtain ⟨w,h1,h2⟩:=Dt hd hw RR hn
 have e1:bu rows.length (fun i=>w i*due.getD i 0)=bu rows.length (fun i=>bu n fun c=>x c*(w i*bD rows i c)):=aK fun i hi=>by
  rw[<- hx i hi,<- cn];exact aK fun c _=>by grind
 have e2:bu n (fun c=>bu rows.length fun i=>x c*(w i*bD rows i c))=0:=cb fun c hc=>by
  rw[cn,h1 c hc];grind
 rw[e1,d9,e2] at h2;exact absurd h2 (by decide)
theorem O5 {M W:Nat} (h0:0 < M) (tp:∀xs∈R,∀x∈xs,Tp M W x) {J:List (List Rat)} (RR:bo J (n+1) R ps):∀x∈lM R ps n,Tp M W x:=fun x hx=>by
 obtain ⟨_,_,rr⟩:=RR;obtain ⟨c,hc,rfl⟩:=aB.mp hx;by_cases hp:∃j,j < ps.length/\ps.getD j 0=c
 ·obtain ⟨j,hj,e⟩:=hp;rw[fj hj fun i hi ne=>if_neg fun z=>?_,if_pos e]
  ·exact A9 tp j n
  ·rcases dn i j with q | q | q
   ·have:=rr.inc i j q hj;lia
   ·exact ne q
   ·have:=rr.inc j i q hi;lia
 ·rw[cb fun j hj=>if_neg fun z=>hp ⟨j,hj,z⟩];exact Tp.zero
end
def EF (K:PySem.W.Frag):Sp:=fun vs H Q _=>∃(p q:Addr) (n w:Nat) (H0:Hp) (rows:List (List Rat)) (due:List Rat),vs=[.ref p,.int n,.ref q]/\bB K H0 H p rows/\cK K H q due/\due.length=rows.length/\rows.length<=99/\n<=99/\(∀xs∈rows,xs.length=n)/\BV (dW rows due) (n+1) w /\
 (∀x R ps M H',bo (dW rows due) (n+1) R ps->n∉ps->H x=none->aE H H'->cK K H' x (lM R ps n)->0 < M->M<=2^(min rows.length (n+1)*(w+4))->(∀y∈lM R ps n,Tp M (2^(min rows.length (n+1)*(w+4))) y)->Q (.ref x) H') /\
 (∀R ps H',bo (dW rows due) (n+1) R ps->n∈ps->aE H H'->Q .non H')
def Je (rows:List (List Rat)) (n:Nat) (due:List Rat):List (List Rat):=dW (bO rows n++[due]) (List.replicate n 0++[1])
def Ht (K:PySem.W.Frag):Sp:=fun vs H Q _=>∃(p q:Addr) (n w w':Nat) (H0:Hp) (rows:List (List Rat)) (due:List Rat),vs=[.ref p,.int n,.ref q]/\bB K H0 H p rows/\cK K H q due/\due.length=rows.length/\rows.length<=90/\n<=90/\(∀xs∈rows,xs.length=n)/\BV (dW rows due) (n+1) w/\BV (Je rows n due) (rows.length+1) w' /\
 (∀t x R ps M H',bo (dW rows due) (n+1) R ps->n∉ps->H' t=some (.tup [.str (Str.ofString "yes"),.ref x])->H x=none->aE H H'->cK K H' x (lM R ps n)->0 < M->M<=2^(min rows.length (n+1)*(w+4))->(∀y∈lM R ps n,Tp M (2^(min rows.length (n+1)*(w+4))) y)->Q (.ref t) H') /\
 (∀t x R ps R' ps' M H',bo (dW rows due) (n+1) R ps->n∈ps->bo (Je rows n due) (rows.length+1) R' ps'->rows.length∉ps'->H' t=some (.tup [.str (Str.ofString "no"),.ref x])->H x=none->aE H H'->cK K H' x (lM R' ps' rows.length)->0 < M->M<=2^(min (n+1) (rows.length+1)*(w'+4))->(∀y∈lM R' ps' rows.length,Tp M (2^(min (n+1) (rows.length+1)*(w'+4))) y)->Q (.ref t) H')
theorem HV {rows R R':List (List Rat)} {due:List Rat} {ps ps':List Nat} {n:Nat} (hd:due.length=rows.length) (hw:∀xs∈rows,xs.length=n) (RR:bo (dW rows due) (n+1) R ps) (hn:n∈ps) (RR':bo (Je rows n due) (rows.length+1) R' ps'):rows.length∉ps':=by
 obtain ⟨w,h1,h2⟩:=Dt hd hw RR hn;have l1:(bO rows n++[due]).length=n+1:=by rw[ai,ck];rfl
 have w1:∀xs∈bO rows n++[due],xs.length=rows.length:=fun xs hx=>by
  rcases ax.mp hx with hx | hx
  ·exact ni xs hx
  ·rw[dv.mp hx];exact hd
 refine NB (x:=w) (by rw[l1,ai,aG];rfl) w1 RR' fun i hi=>?_
 rw[l1] at hi;by_cases e:i < n
 ·have e1:∀c,bD (bO rows n++[due]) i c=bD rows c i:=fun c=>by
   unfold bD;rw[aa (l:=bO rows n++[due]),bJ (by rw[ck];exact e)];unfold bO;rw[aD,dj e];show (rows.map fun xs=>xs.getD i 0).getD c 0=_
   rw[aa,aD,aa (l:=rows)];cases rows[c]? with
   | none=>rfl
   | some y=>rfl
  have e2:(List.replicate n (0:Rat)++[1]).getD i 0=0:=by
   rw[aa,bJ (by rw[aG];exact e),dD,if_pos e];rfl
  rw[e2,<- h1 i e];exact aK fun c _=>by rw[e1];grind
 ·have ei:i=n:=by lia
  subst ei
  have e1:∀c,bD (bO rows i++[due]) i c=due.getD c 0:=fun c=>by
   unfold bD;rw[aa (l:=bO rows i++[due]),bc (by rw[ck];exact ar _),ck,fg];rfl
  have e2:(List.replicate i (0:Rat)++[1]).getD i 0=1:=by
   rw[aa,bc (by rw[aG];exact ar _),aG,fg];rfl
  rw[e2,<- h2];exact aK fun c _=>by rw[e1];grind
theorem JY {n:Nat}:((List.range n).map fun _=>(0:Rat))=List.replicate n 0:=by rw[K3,cy]
def Nv (K:PySem.W.Frag):Sp:=fun vs H Q _=>∃m:Nat,vs=[.int m]/\m<=100/\∀r H',H r=none->aE H H'->cK K H' r (List.replicate m 0)->Q (.ref r) H'
def Dn (K:PySem.W.Frag):Sp:=fun vs H Q _=>∃(p q:Addr) (n w w':Nat) (H0:Hp) (rows:List (List Rat)) (row:List Rat),vs=[.ref p,.int n,.ref q]/\bB K H0 H p rows/\cK K H q row/\row.length=n/\rows.length<=90/\n<=90/\(∀xs∈rows,xs.length=n)/\BV (dW (bO rows n) row) (rows.length+1) w/\BV (dW (rows++[row]) (List.replicate rows.length 0++[1])) (n+1) w' /\
 (∀t x R ps M H',bo (dW (bO rows n) row) (rows.length+1) R ps->rows.length∉ps->H' t=some (.tup [.str (Str.ofString "in"),.ref x])->H x=none->aE H H'->cK K H' x (lM R ps rows.length)->0 < M->M<=2^(min n (rows.length+1)*(w+4))->(∀y∈lM R ps rows.length,Tp M (2^(min n (rows.length+1)*(w+4))) y)->Q (.ref t) H') /\
 (∀t x R ps R' ps' M H',bo (dW (bO rows n) row) (rows.length+1) R ps->rows.length∈ps->bo (dW (rows++[row]) (List.replicate rows.length 0++[1])) (n+1) R' ps'->n∉ps'->H' t=some (.tup [.str (Str.ofString "out"),.ref x])->H x=none->aE H H'->cK K H' x (lM R' ps' n)->0 < M->M<=2^(min (rows.length+1) (n+1)*(w'+4))->(∀y∈lM R' ps' n,Tp M (2^(min (rows.length+1) (n+1)*(w'+4))) y)->Q (.ref t) H')
def P4 (rows:List (List Rat)) (ws:List Rat) (n j:Nat):List Rat:=(List.range n).map fun c=>bu j fun i=>ws.getD i 0*bD rows i c
def Nl (rows:List (List Rat)) (ws:List Rat) (n:Nat):List Rat:=P4 rows ws n ws.length
section
variable {rows:List (List Rat)} {ws xs row:List Rat} {n j:Nat}
theorem Nk:(P4 rows ws n j).length=n:=by unfold P4;rw[ag,cy]
theorem FF {c:Nat} (hc:c < n):(Nl rows ws n).getD c 0=bu ws.length fun i=>ws.getD i 0*bD rows i c:=by
 unfold Nl P4;rw[aa,aD,dj hc];rfl
theorem Ec (h:xs.length=ws.length):d5 xs ws=d5 ws xs:=by
 rw[cV h,cV h.symm,h];exact aK fun c _=>dt ..
theorem Di {c:Nat} (hc:c < n):(bO rows n)[c]?=some (rows.map fun xs=>xs.getD c 0):=by
 unfold bO;rw[aD,dj hc];rfl
theorem JZ {c i:Nat}:(rows.map fun xs=>xs.getD c 0).getD i 0=bD rows i c:=by
 unfold bD;rw[aa,aD,aa (l:=rows)];cases rows[i]? with
 | none=>rfl
 | some y=>rfl
theorem GY {R:List (List Rat)} {ps:List Nat} (hl:row.length=n) (RR:bo (dW (bO rows n) row) (rows.length+1) R ps) (hn:rows.length∉ps):Nl rows (lM R ps rows.length) n=row:=by
 have ls:(lM R ps rows.length).length=rows.length:=nP;apply di (by unfold Nl;rw[Nk,hl]);intro c h1 h2;have hc:c < n:=by lia
 have d:=EK (rows:=bO rows n) (by rw[ck,hl]) (fun xs hx=>ni xs hx) RR hn (Di hc);have e:=FF (rows:=rows) (ws:=lM R ps rows.length) hc;have e1:(Nl rows (lM R ps rows.length) n).getD c 0=(Nl rows (lM R ps rows.length) n)[c]:=by rw[aa,af h1];rfl
 have e2:row.getD c 0=row[c]:=by rw[aa,af h2];rfl
 rw[<- e1,<- e2,e,<- d,cV (by rw[ag,ls]),ag,ls];exact aK fun i _=>by rw[JZ];grind
theorem HU {R:List (List Rat)} {ps:List Nat} (hw:∀xs∈rows,xs.length=n) (hl:row.length=n) (RR:bo (dW (rows++[row]) (List.replicate rows.length 0++[1])) (n+1) R ps) (hn:n∉ps):d5 (lM R ps n) row=1/\∀xs∈rows,d5 xs (lM R ps n)=0:=by
 have l1:(List.replicate rows.length (0:Rat)++[1]).length=(rows++[row]).length:=by rw[ai,ai,aG];rfl
 have w1:∀xs∈rows++[row],xs.length=n:=fun xs hx=>by
  rcases ax.mp hx with hx | hx
  ·exact hw xs hx
  ·rw[dv.mp hx];exact hl
 have ls:(lM R ps n).length=n:=nP;refine ⟨?_,fun xs hx=>?_⟩
 ·have:=EK l1 w1 RR hn (i:=rows.length) (row:=row) (by rw[bc (ar _),fg];rfl);rw[Ec (by rw[ls,hl]),this,aa,bc (by rw[aG];exact ar _),aG,fg];rfl
 ·obtain ⟨i,hi,rfl⟩:=be hx;have:=EK l1 w1 RR hn (i:=i) (row:=rows[i]) (by rw[bJ hi,af hi]);rw[this,aa,bJ (by rw[aG];exact hi),dD,if_pos hi];rfl
end
theorem Fr.up {M V M' V':Nat} {x:Rat} (h:Fr M V x) (hd:M∣M') (hv:V<=V'):Fr M' V' x:=(h.dvd hd).mono hv
section
variable {rows R:List (List Rat)} {due:List Rat} {ps:List Nat} {n:Nat}
theorem Mi {xs ys:List Rat} {M V D B:Nat} (h:ys.length=xs.length) (hx:∀x∈xs,Fr M V x) (hy:∀y∈ys,Fr D B y):Fr (M*D) (xs.length*(V*B)) (d5 xs ys):=by
 rw[cV h.symm]
 have key:∀j,j<=xs.length->Fr (M*D) (j*(V*B)) (bu j fun c=>xs.getD c 0*ys.getD c 0):=by
  intro j
  induction j with
  | zero=>intro _;exact Fr.zero
  | succ j ih =>
   intro hj;exact ((ih (by lia)).add ((hx _ (getD_in (by lia))).mul (hy _ (getD_in (by lia))))).mono (Nat.le_of_eq (gM j (V*B)).symm)
 exact key _ (ar _)
end
def rM (K:PySem.W.Frag) (P:Addr->Prop) (H:Hp) (xs:List Rat) (v:V):Prop:=∃q,v=.ref q/\P q/\cK K H q xs
section
variable {K:PySem.W.Frag} {P:Addr->Prop} {H H':Hp} {xs:List Rat} {v:V} {b l:Addr}
theorem rM.same (h:rM K P H xs v) (s:aE H H'):rM K P H' xs v:=by obtain ⟨q,a,c,d⟩:=h;exact ⟨q,a,c,d.same s⟩
theorem rM.updL {ys:List V} {o:HO} (h:rM K P H xs v) (hl:H l=some (.lst ys)) (nb:∀q,P q->q≠l):rM K P (upd H l o) xs v:=by obtain ⟨q,a,c,d⟩:=h;exact ⟨q,a,c,d.updL hl (nb q c)⟩
theorem bB.ofE {H0:Hp} {rows:List (List Rat)} {us:List V} (g:H l=some (.lst us)) (h:Paired (rM K P H) rows us) (h0:∀q,P q->H0 q=none) (hn:∀q,P q->q≠l):bB K H0 H l rows :=
 ⟨us,g,Paired.imp' (fun _ _ ⟨q,a,c,d⟩=>⟨q,a,h0 q c,d⟩) h,fun z=>by
  obtain ⟨_,_,q,e,c,_⟩:=dB h z;cases e;exact hn _ c rfl⟩
end
theorem yn {α β:Type} {F G:α->β->Prop}:∀{l1:List α} {l2:List β},(∀a b,b∈l2->F a b->G a b)->Paired F l1 l2->Paired G l1 l2
 | _,_,_,.nil=>.nil
 | _,_,h,.cons a r=>.cons (h _ _ (by simp) a) (yn (fun x y hy=>h x y (by simp [hy])) r)
section
variable {rows rows' R R':List (List Rat)} {n w W:Nat} {ps ps':List Nat}
theorem xC (hw:∀xs∈rows,xs.length=n) (hW:1<=W) (ent:∀i,i < (rows.map jv).length->∀c,Fr 1 W (d4 (rows.map jv) i c)):∀P,P<=n->∃ls ps d,BU (rows.map jv) n P ls ps d:=by
 intro P
 induction P with
 | zero=>intro _;exact ⟨_,_,_,BU.start fun zs hz=>by obtain ⟨x,hx,rfl⟩:=aB.mp hz;rw[pW];exact hw x hx⟩
 | succ P ih =>
  intro hP;obtain ⟨ls,ps,d,I⟩:=ih (by lia);by_cases e:∃t,ps.length<=t/\t < ls.length/\d4 ls t P≠0
  ·obtain ⟨t,h1,h2,h3⟩:=e;exact ⟨_,_,_,I.step hW ent h1 h2 h3⟩
  ·exact ⟨_,_,_,I.skip fun i h1 h2=>by
    by_cases z:d4 ls i P=0
    ·exact z
    ·exact absurd ⟨i,h1,h2,z⟩ e⟩
theorem Bi (hw:∀xs∈rows,xs.length=n) (F:BV rows n w):∃R ps d ls,Qx rows n w R ps d ls:=by
 obtain ⟨W,hW,W2,ent⟩:=F.ent;obtain ⟨ls,ps,d,I⟩:=xC hw hW ent n (ar _);obtain ⟨R,S⟩:=I.done hw F;exact ⟨R,ps,d,_,S⟩
theorem Pa (hw:∀xs∈rows,xs.length=n) (F:BV rows n w) (RR:bo rows n R ps):ps.length<=rows.length/\∃M,0 < M/\M<=2^(min rows.length n*(w+4))/\∀xs∈R,∀x∈xs,Tp M (2^(min rows.length n*(w+4))) x:=by
 obtain ⟨R2,ps2,d,ls,S⟩:=Bi hw F;obtain ⟨rfl,rfl⟩:=S.rr.same RR;exact ⟨S.km,d.natAbs,Int.natAbs_pos.mpr S.d0,S.dsz,S.tp⟩
theorem Iw {k:Nat} {p q:Nat->Nat} (hp:∀i j,i < j->j < k->p i < p j) (hq:∀i j,i < j->j < k->q i < q j) (hs:∀i,i < k->∃j,j < k/\q j=p i):∀i,i < k->p i=q i:=by
 have hqm:∀i j,i<=j->j < k->q i<=q j:=fun i j h hj=>by
  rcases bX i j with z | z
  ·exact aR (hq i j z hj)
  ·have:i=j:=by lia
   rw[this];exact ar _
 have hqi:∀i j,i < k->j < k->q i < q j->i < j:=fun i j hi hj h=>by
  rcases bX i j with z | z
  ·exact z
  ·have:=hqm j i z hi
   lia
 have key:∀i,i < k->∀j,j < k->q j=p i->i<=j:=by
  intro i
  induction i with
  | zero=>intro _ j _ _;exact aX _
  | succ i ih =>
   intro hi j hj e;obtain ⟨j',hj',e'⟩:=hs i (by lia);have h1:=ih (by lia) j' hj' e';have h2:=hp i (i+1) (by lia) hi;have:=hqi j' j hj' hj (by lia)
   lia
 have key2:∀t i,i+t+1=k->∀j,j < k->q j=p i->j<=i:=by
  intro t
  induction t with
  | zero=>intro i e j hj _;lia
  | succ t ih =>
   intro i e j hj ej;obtain ⟨j',hj',e'⟩:=hs (i+1) (by lia);have h1:=ih (i+1) (by lia) j' hj' e';have h2:=hp i (i+1) (by lia) (by lia);have:=hqi j j' hj hj' (by lia)
   lia
 intro i hi;obtain ⟨j,hj,e⟩:=hs i hi;have h1:=key i hi j hj e;have h2:=key2 (k - 1 - i) i (by lia) j hj e;have:j=i:=by lia
 rw[<- e,this]
theorem HP (h:bo rows n R ps) (h':bo rows' n R' ps') (hl:ps.length=ps'.length) (hs:∀i,i < ps.length->dJ ps'.length (bD R') (bD R i)):R=R'/\ps=ps':=by
 obtain ⟨l1,w1,r1⟩:=h;obtain ⟨l2,w2,r2⟩:=h'
 have ep:∀i,i < ps.length->ps.getD i 0=ps'.getD i 0:=Iw r1.inc (by rw[hl];exact r2.inc) fun i hi=>by
  have u:=r1.unit i hi i hi;rw[if_pos rfl] at u;obtain ⟨j,hj,e⟩:=r2.lead_in (hs i hi) (c:=ps.getD i 0) (by rw[u];decide) (fun c hc=>r1.lead i hi c hc);exact ⟨j,by lia,e⟩
 have eps:ps=ps':=by
  apply di hl;intro i a b;have:=ep i a;rw[aa,aa,af a,af b] at this;exact this
 refine ⟨Km (n:=n) (by lia) w1 w2 fun i hi c=>?_,eps⟩;rw[l1] at hi;rw[r2.coef (hs i hi) c,<- hl,fj hi fun j hj hj'=>?_]
 ·rw[<- ep i hi];have u:=r1.unit i hi i hi;rw[if_pos rfl] at u;rw[u];grind
 ·rw[<- ep j hj];have u:=r1.unit i hi j hj;rw[if_neg (Ne.symm hj')] at u;rw[u];grind
end
def qD (mv:List (List Rat)) (x:List Rat):List Rat:=mv.map fun xs=>d5 xs x
def dq (mv pt:List (List Rat)):Nat->List (List Rat)
 | 0=>[]
 | t+1=>pt++(dq mv pt t).map (qD mv)
section
variable {mv pt R R' S X Y:List (List Rat)} {n t m i c:Nat} {ps ps':List Nat} {a:Nat->Nat->Rat}
theorem vI {x:List Rat}:(qD mv x).length=mv.length:=ag ..
theorem JO (lm:mv.length=n) (wm:∀xs∈mv,xs.length=n) (wR:∀xs∈R,xs.length=n) (hi:i < R.length) (c:Nat):bD (R.map (qD mv)) i c=bu n fun j=>bD mv c j*bD R i j:=by
 have wi:=wR _ (az hi);have e1:(R.map (qD mv)).getD i []=qD mv R[i]:=by rw[aa,aD,af hi];rfl
 have e2:R.getD i []=R[i]:=by rw[aa,af hi];rfl
 by_cases hc:c < n
 ·have wc:=wm _ (az (show c < mv.length by lia));have e3:mv.getD c []=mv[c]'(by lia):=by rw[aa,af (by lia)];rfl
  have e4:(qD mv R[i]).getD c 0=d5 (mv[c]'(by lia)) R[i]:=by
   unfold qD;rw[aa,aD,af (by lia)];rfl
  unfold bD;rw[e1,e2,e3,e4,cV (by lia),wc]
 ·have e3:mv.getD c []=[]:=by rw[aa,aN (by lia)];rfl
  unfold bD
  rw[e1,e3,aa,aN (by rw[vI];lia),cb fun j _=>by
   show ([]:List Rat).getD j 0*_=0
   rw[aa];show (0:Rat)*_=0
   grind]
  rfl
theorem zB (lm:mv.length=n) (wm:∀xs∈mv,xs.length=n) (wR:∀xs∈R,xs.length=n) (wS:∀xs∈S,xs.length=n) (hi:i < R.length) (h:dJ S.length (bD S) (bD R i)):dJ (S.map (qD mv)).length (bD (S.map (qD mv))) (bD (R.map (qD mv)) i):=by
 obtain ⟨w,hw⟩:=h;refine ⟨w,fun c=>?_⟩;rw[JO lm wm wR hi,ag]
 have e1:bu n (fun j=>bD mv c j*bD R i j)=bu n (fun j=>bu S.length fun s=>w s*(bD mv c j*bD S s j)):=aK fun j _=>by
  rw[hw j,<- cn];exact aK fun s _=>by grind
 rw[e1,d9];exact aK fun s hs=>by rw[cn,JO lm wm wS hs]
theorem yJ (h:i < X.length):bD (X++Y) i=bD X i:=by
 funext c;unfold bD;rw[aa (l:=X++Y),bJ h,<- aa]
theorem pQ:bD (X++Y) (X.length+i)=bD Y i:=by
 funext c;unfold bD;rw[aa (l:=X++Y),bc (by lia),show X.length+i - X.length=i by lia,<- aa]
theorem v8 (h1:∀i,i < X.length->dJ m a (bD X i)) (h2:∀i,i < Y.length->dJ m a (bD Y i)):∀i,i < (X++Y).length->dJ m a (bD (X++Y) i):=fun i hi=>by
 rw[ai] at hi;by_cases h:i < X.length
 ·rw[yJ h];exact h1 i h
 ·obtain ⟨j,rfl⟩:∃j,i=X.length+j:=⟨i - X.length,by lia⟩;rw[pQ];exact h2 j (by lia)
theorem sO (h:i < X.length):dJ (X++Y).length (bD (X++Y)) (bD X i):=by
 have:=dJ.row (a:=bD (X++Y)) (m:=(X++Y).length) (i:=i) (by rw[ai];lia);rwa [yJ h] at this
theorem pX {x:Nat->Rat} (h:dJ Y.length (bD Y) x):dJ (X++Y).length (bD (X++Y)) x:=dJ.trans (fun s hs=>by
 have:=dJ.row (a:=bD (X++Y)) (m:=(X++Y).length) (i:=X.length+s) (by rw[ai];lia);rwa [pQ] at this) h
theorem eG (lm:mv.length=n) (wp:∀xs∈pt,xs.length=n):∀t,∀xs∈dq mv pt t,xs.length=n:=by
 intro t
 induction t with
 | zero=>intro xs hx;cases hx
 | succ t ih =>
  intro xs hx;rcases ax.mp hx with hx | hx
  ·exact wp xs hx
  ·obtain ⟨y,_,rfl⟩:=aB.mp hx;rw[vI,lm]
theorem wO (lm:mv.length=n) (wm:∀xs∈mv,xs.length=n) (wp:∀xs∈pt,xs.length=n) (RR:bo (dq mv pt t) n R ps) (RR':bo (pt++R.map (qD mv)) n R' ps'):bo (dq mv pt (t+1)) n R' ps':=by
 have wk:=eG (mv:=mv) lm wp t;refine ⟨RR'.1,RR'.2.1,RR'.2.2.other ?_ ?_⟩
 ·refine v8 (fun i hi=>sO hi) fun i hi=>pX ?_
  rw[ag] at hi;exact zB lm wm RR.2.1 wk hi (RR.2.2.back i (by rw[<- RR.1];exact hi))
 ·refine v8 (fun i hi=>sO hi) fun i hi=>pX ?_
  rw[ag] at hi;have:=RR.2.2.span i hi;rw[<- RR.1] at this;exact zB lm wm wk RR.2.1 hi this
theorem J9 (lm:mv.length=n) (wm:∀xs∈mv,xs.length=n) (wp:∀xs∈pt,xs.length=n):∀t i,i < (dq mv pt t).length->dJ (dq mv pt (t+1)).length (bD (dq mv pt (t+1))) (bD (dq mv pt t) i):=by
 intro t
 induction t with
 | zero=>intro i hi;cases hi
 | succ t ih =>
  refine v8 (fun i hi=>sO hi) fun i hi=>pX ?_
  rw[ag] at hi;exact zB lm wm (eG lm wp t) (eG lm wp (t+1)) hi (ih i hi)
theorem vP (lm:mv.length=n) (wm:∀xs∈mv,xs.length=n) (wp:∀xs∈pt,xs.length=n) (RR:bo (dq mv pt t) n R ps) (RR':bo (dq mv pt (t+1)) n R' ps'):∀i,i < ps.length->dJ ps'.length (bD R') (bD R i):=fun i hi =>
 dJ.trans (fun s hs=>RR'.2.2.span s hs) (dJ.trans (J9 lm wm wp t) (RR.2.2.back i hi))
theorem By (lm:mv.length=n) (wm:∀xs∈mv,xs.length=n) (wp:∀xs∈pt,xs.length=n) (RR:bo (dq mv pt t) n R ps) (RR':bo (pt++R.map (qD mv)) n R' ps') (hl:ps'.length=ps.length):∀s,bo (dq mv pt (t+s)) n R ps:=by
 have K1:=wO lm wm wp RR RR';obtain ⟨e1,e2⟩:=HP RR K1 hl.symm (vP lm wm wp RR K1);subst e1 e2;intro s
 induction s with
 | zero=>exact RR
 | succ s ih=>exact wO lm wm wp ih RR'
theorem D6 (lm:mv.length=n) (wm:∀xs∈mv,xs.length=n) (wp:∀xs∈pt,xs.length=n) (RR:bo (dq mv pt t) n R ps) (RR':bo (dq mv pt (t+1)) n R' ps'):ps.length<=ps'.length:=by
 have h:=vP lm wm wp RR RR'
 have hs:∀i,i < ps.length->∃j,j < ps'.length/\ps'.getD j 0=ps.getD i 0:=fun i hi=>by
  have u:=RR.2.2.unit i hi i hi;rw[if_pos rfl] at u;exact RR'.2.2.lead_in (h i hi) (c:=ps.getD i 0) (by rw[u];decide) (fun c hc=>RR.2.2.lead i hi c hc)
 rcases bX ps'.length ps.length with z | z
 ·exfalso
  have key:∀i,i < ps.length->∀j,j < ps'.length->ps'.getD j 0=ps.getD i 0->i<=j:=by
   intro i
   induction i with
   | zero=>intro _ j _ _;exact aX _
   | succ i ih =>
    intro hi j hj e;obtain ⟨j',hj',e'⟩:=hs i (by lia);have h1:=ih (by lia) j' hj' e';have h2:=RR.2.2.inc i (i+1) (by lia) hi;rcases bX j' j with y | y
    ·lia
    ·rcases bX j j' with x | x
     ·have:=RR'.2.2.inc j j' x hj'
      lia
     ·have:j=j':=by lia
      rw[this] at e
      lia
  obtain ⟨j,hj,e⟩:=hs (ps.length - 1) (by lia);have:=key (ps.length - 1) (by lia) j hj e
  lia
 ·exact z
theorem xS {M V c:Nat} (lm:mv.length=n) (wm:∀xs∈mv,xs.length=n) (wp:∀xs∈pt,xs.length=n) (hc:(n+1)*V<=2^c) (fm:GF M V mv) (fp:GF M V pt):∀t,∀xs∈dq mv pt t,∀x∈xs,Fr (M^t) (2^(c*t)) x:=by
 intro t
 induction t with
 | zero=>intro xs hx;cases hx
 | succ t ih =>
  intro xs hx x hx';have hV:V<=2^c:=ah (fh _ (by lia)) hc;rcases ax.mp hx with hx | hx
  ·refine Fr.up (fp xs hx x hx') (by rw[pA];exact Nat.dvd_mul_left _ _) (ah hV (ak (by decide) (eT _ (by lia))))
  ·obtain ⟨y,hy,rfl⟩:=aB.mp hx;unfold qD at hx';obtain ⟨r,hr,rfl⟩:=aB.mp hx';have wr:=wm r hr;have wy:=eG (mv:=mv) lm wp t y hy;have f:=Mi (by lia) (fm r hr) (ih y hy);rw[pA,cG (M^t)];refine f.mono ?_;rw[Nat.mul_add,Nat.mul_one,cF,cG (2^(c*t)),<- jy,wr];exact aJ _ (ah (aJ _ (by lia)) hc)
def ot (mv pt:List (List Rat)) (a c:Nat):Prop:=∃M V:Nat,0 < M/\M<=2^a/\(mv.length+1)*V<=2^c/\GF M V mv/\GF M V pt/\a<=400/\c<=40/\mv.length*(mv.length*(a+c)+4)<=1740/\mv.length*(mv.length*(mv.length*(a+c)+4)+a+c+4)<=8900
theorem ot.swf {a c:Nat} (F:ot mv pt a c) (D:mv.length<=8) (wm:∀xs∈mv,xs.length=mv.length) (wp:∀xs∈pt,xs.length=mv.length) (ht:t<=mv.length):BV (dq mv pt t) mv.length (mv.length*(a+c)):=by
 obtain ⟨M,V,M0,Ma,hV,fm,fp,a3,c3,e14,e89⟩:=F;have f:=xS rfl wm wp hV fm fp t;have h1:mv.length*(a+c)<=8*440:=bH D (by lia);have hM:M^t<=2^(a*mv.length):=ah (tZ Ma _) (by rw[<- BX];exact ak (by decide) (dR _ ht));have h2:a*mv.length<=mv.length*(a+c):=by rw[cG];exact dR _ (by lia)
 have h3:mv.length=0\/mv.length*(a+c)<=1740:=by
  rcases nJ mv.length with z | z
  ·exact .inl z
  ·right
   have:=fh (mv.length*(a+c)+4) z
   lia
 have h4:mv.length*(a+c)<=1740:=by
  rcases h3 with z | z
  ·rw[z];lia
  ·exact z
 refine ⟨M^t,2^(mv.length*(a+c)),Nat.pow_pos M0,ah hM (ak (by decide) (by lia)),cg,ar _,fun xs hx x hx'=>Tp.of (f xs hx x hx') ?_,by lia,by lia,?_⟩
 ·refine ah (bH (ak (by decide) (dR c ht)) hM) ?_;rw[<- cF];refine ak (by decide) ?_;rw[cG c,cG a,<- Nat.mul_add,pB c];exact ar _
 ·exact ah (aJ _ (yF _ _)) (by lia)
theorem ot.tp {a c:Nat} (F:ot mv pt a c) (D:mv.length<=8) (wm:∀xs∈mv,xs.length=mv.length) (wp:∀xs∈pt,xs.length=mv.length) (ht:t<=mv.length) (RR:bo (dq mv pt t) mv.length R ps):∃M,0 < M/\M<=2^(mv.length*(mv.length*(a+c)+4))/\∀xs∈R,∀x∈xs,Tp M (2^(mv.length*(mv.length*(a+c)+4))) x:=by
 obtain ⟨_,M,h0,h1,h2⟩:=Pa (eG rfl wp t) (F.swf D wm wp ht) RR;have le:2^(min (dq mv pt t).length mv.length*(mv.length*(a+c)+4))<=2^(mv.length*(mv.length*(a+c)+4)):=ak (by decide) (aJ _ (yF _ _));exact ⟨M,h0,ah h1 le,fun xs hx x hx'=>(h2 xs hx x hx').mono le⟩
theorem ot.step {a c:Nat} (F:ot mv pt a c) (D:mv.length<=8) (wm:∀xs∈mv,xs.length=mv.length) (wp:∀xs∈pt,xs.length=mv.length) (ht:t<=mv.length) (RR:bo (dq mv pt t) mv.length R ps):BV (pt++R.map (qD mv)) mv.length (mv.length*(mv.length*(a+c)+4)+a+c):=by
 obtain ⟨N,N0,N1,tN⟩:=F.tp D wm wp ht RR;obtain ⟨M,V,M0,Ma,hV,fm,fp,a3,c3,e14,e89⟩:=F;generalize mv.length*(mv.length*(a+c)+4)=e at *
 have V1:V<=2^c:=ah (fh _ (by lia)) hV;have eW:(2:Nat)^(e+a+c)=2^c*(2^a*2^e):=by rw[<- cF,<- cF];congr 1;lia
 refine ⟨N*M,2^(e+a+c),iM N0 M0,?_,cg,ar _,fun xs hx x hx'=>?_,by lia,by lia,?_⟩
 ·exact ah (bH N1 Ma) (by rw[<- cF];exact ak (by decide) (by lia))
 ·rcases ax.mp hx with hx | hx
  ·refine Tp.of ((fp xs hx x hx').scaleL N) ?_;rw[eW,cG N];exact bH V1 (bH Ma N1)
  ·obtain ⟨y,hy,rfl⟩:=aB.mp hx;unfold qD at hx';obtain ⟨r,hr,rfl⟩:=aB.mp hx';have wr:=wm r hr;have wy:=RR.2.1 y hy;rw[cV (by lia),wr];have t1:∀j,Tp M (V*M) (r.getD j 0):=fun j=>yN (fun x hx=>Tp.of (fm r hr x hx) (ar _)) j
   have t2:∀j,Tp N (2^e) (y.getD j 0):=fun j=>yN (tN y hy) j
   have:=Tp.sum (k:=mv.length) (M:=N*M) (W:=V*M*2^e) (f:=fun j=>r.getD j 0*y.getD j 0) fun j _=>by
    have:=(t1 j).mul (t2 j);rwa [cG M N] at this
   refine this.mono ?_;rw[eW,jy V,<- jy mv.length];exact bH (ah (aJ _ (by lia)) hV) (aJ _ Ma)
 ·exact ah (aJ _ (yF _ _)) (by rw[show e+a+c+4=e+a+c+4 from rfl];exact e89)
theorem ot.fit {a c:Nat} (F:ot mv pt a c) (D:mv.length<=8) (wm:∀xs∈mv,xs.length=mv.length) (wp:∀xs∈pt,xs.length=mv.length) (ht:t<=mv.length) (RR:bo (dq mv pt t) mv.length R ps):∀xs∈mv,∀r∈R,FA xs r:=fun xs hx r hr=>by
 obtain ⟨N,N0,N1,tN⟩:=F.tp D wm wp ht RR;obtain ⟨M,V,M0,Ma,hV,fm,fp,a3,c3,e14,e89⟩:=F;have V1:V<=2^c:=ah (fh _ (by lia)) hV;have p14:=ak (show 0 < 2 by decide) e14;exact ⟨400,40,1740,1740,⟨M,V,M0,ah Ma (ak (by decide) a3),ah V1 (ak (by decide) c3),fm xs hx⟩,⟨N,2^1740,N0,ah N1 p14,ar _,fun x hx=>((tN r hr x hx).mono p14).fr N0⟩,by decide⟩
end
def HC (K:PySem.W.Frag) (C:Addr):Sp:=fun vs H Q _=>∃(x p:Addr) (H0 H1:Hp) (mv pt lk R:List (List Rat)),vs=[.ref x,.ref p]/\mh K H0 H C x mv pt lk/\oy mv pt lk/\bB K H1 H p R/\R.length<=100/\(∀r∈R,r.length=mv.length)/\(∀xs∈mv,∀r∈R,FA xs r) /\
 ∀r H',H r=none->aE H H'->bB K H H' r (R.map (qD mv))->Q (.ref r) H'
structure Ay (mv pt:List (List Rat)) (Rs:List (List (List Rat))):Prop where
 ne:Rs≠[]
 rr:∀t R,Rs[t]?=some R->∃ps,bo (dq mv pt t) mv.length R ps
 up:∀t R R',Rs[t]?=some R->Rs[t+1]?=some R'->R.length < R'.length
def GrL (K:PySem.W.Frag) (H0 H:Hp) (l:Addr) (Rs:List (List (List Rat))):Prop:=∃us,H l=some (.lst us)/\Paired (fun R v=>∃q,v=V.ref q/\H0 q=none/\q≠l/\bB K H0 H q R) Rs us
def HI (K:PySem.W.Frag) (C:Addr):Sp:=fun vs H Q _=>∃(x:Addr) (a c st:Nat) (H0:Hp) (mv pt lk:List (List Rat)),vs=[.ref x,.int st]/\st<=1000/\mh K H0 H C x mv pt lk/\oy mv pt lk/\ot mv pt a c /\
 ∀r Rs H',H r=none->aE H H'->GrL K H H' r Rs->Ay mv pt Rs->Rs.length<=st+1->(∀R,Rs.getLast?=some R->∀s,(Rs.length - 1=st/\s=st\/Rs.length - 1 < st/\Rs.length - 1<=s)->∃ps,bo (dq mv pt s) mv.length R ps)->Q (.ref r) H'
def Hv (K:PySem.W.Frag) (C:Addr):Sp:=fun vs H Q _=>∃(x:Addr) (a c st:Nat) (H0:Hp) (mv pt lk:List (List Rat)),vs=[.ref x,.int st]/\st<=1000/\mh K H0 H C x mv pt lk/\oy mv pt lk/\ot mv pt a c /\
 ∀r R ps H',H r=none->aE H H'->bB K H H' r R->bo (dq mv pt st) mv.length R ps->Q (.ref r) H'
section
variable {K:PySem.W.Frag} {H0 H1 H H':Hp} {p l:Addr} {rows mv pt R R':List (List Rat)} {Rs:List (List (List Rat))} {t:Nat}
theorem bB.weakN (h:bB K H0 H p rows) (hn:∀q,H0 q=none->H1 q=none):bB K H1 H p rows:=by obtain ⟨xs,g,r,n⟩:=h;exact ⟨xs,g,Paired.imp' (fun _ _ ⟨q,a,b,c⟩=>⟨q,a,hn q b,c⟩) r,n⟩
theorem bB.updL {ys:List V} {o:HO} (h:bB K H0 H p rows) (hl:H l=some (.lst ys)) (nl:H0 l≠none) (pl:p≠l):bB K H0 (upd H l o) p rows:=by obtain ⟨xs,g,r,n⟩:=h;exact ⟨xs,by rw[br pl];exact g,Paired.imp' (fun _ _ z=>cS.updL z hl nl) r,n⟩
theorem ET {n:Nat}:bo [] n [] []:=⟨rfl,(fun _ h=>by cases h),(fun _ _ _ h=>absurd h (du _)),(fun _ h=>absurd h (du _)),(fun _ h=>absurd h (du _)),(fun _ h=>absurd h (du _)),(fun _ h=>absurd h (du _)),(fun _ h=>absurd h (du _))⟩
theorem Ay.len (h:Ay mv pt Rs):∀(t:Nat) (R:List (List Rat)),Rs[t]?=some R->t<=R.length:=by
 intro t
 induction t with
 | zero=>intro R _;exact aX _
 | succ t ih =>
  intro R e;have ht:=(aA.mp e).1;have e0:=af (show t < Rs.length by lia);have:=ih _ e0;have:=h.up t _ R e0 e
  lia
theorem Ay.snoc {ps':List Nat} (h:Ay mv pt (Rs++[R])) (h1:bo (dq mv pt (Rs.length+1)) mv.length R' ps') (h2:R.length < R'.length):Ay mv pt ((Rs++[R])++[R']):=by
 have l1:(Rs++[R]).length=Rs.length+1:=by rw[ai];rfl
 refine ⟨by simp,fun t S e=>?_,fun t S S' e e'=>?_⟩
 ·rcases bX t (Rs.length+1) with z | z
  ·rw[bJ (by lia)] at e;exact h.rr t S e
  ·have ht:=(aA.mp e).1;rw[ai,aU] at ht;have:t=Rs.length+1:=by lia
   subst this;rw[bc (by lia),l1,fg] at e;cases e;exact ⟨ps',h1⟩
 ·have ht:=(aA.mp e').1;rw[ai,aU] at ht;rw[bJ (by lia)] at e;rcases bX (t+1) (Rs.length+1) with z | z
  ·rw[bJ (by lia)] at e';exact h.up t S S' e e'
  ·have:t=Rs.length:=by lia
   subst this;rw[bc (by lia),l1,fg] at e';cases e';rw[bc (ar _),fg] at e;cases e;exact h2
end
def rY (k t i:Nat):Nat:=if i < k then i else if i=k then t else if i<=t then i - 1 else i
def DD (k t i:Nat):Nat:=if i < k then i else if i=t then k else if i < t then i+1 else i
section
variable {k t m i j:Nat}
theorem we (h : k ≤ t) (ht : t < m) (hi : i < m) : rY k t i < m := by     unfold rY; split; · exact hi
                                                                          · split; · exact ht
                                                                            · split <;> lia
theorem Pb (h : k ≤ t) (ht : t < m) (hi : i < m) : DD k t i < m := by     unfold DD; split; · exact hi
                                                                          · split; · lia
                                                                            · split <;> lia
theorem O9 (h:k<=t):rY k t (DD k t i)=i:=by
 by_cases h1:i < k
 ·rw[show DD k t i=i by unfold DD;rw[if_pos h1]];unfold rY;rw[if_pos h1]
 ·by_cases h2:i=t
  ·rw[show DD k t i=k by unfold DD;rw[if_neg h1,if_pos h2]];unfold rY;rw[if_neg (by lia),if_pos rfl,h2]
  ·by_cases h3:i < t
   ·rw[show DD k t i=i+1 by unfold DD;rw[if_neg h1,if_neg h2,if_pos h3]];unfold rY;rw[if_neg (by lia),if_neg (by lia),if_pos (by lia)];lia
   ·rw[show DD k t i=i by unfold DD;rw[if_neg h1,if_neg h2,if_neg h3]];unfold rY;rw[if_neg h1,if_neg (by lia),if_neg (by lia)]
theorem MF (h:k<=t):DD k t (rY k t i)=i:=by
 by_cases h1:i < k
 ·rw[show rY k t i=i by unfold rY;rw[if_pos h1]];unfold DD;rw[if_pos h1]
 ·by_cases h2:i=k
  ·rw[show rY k t i=t by unfold rY;rw[if_neg h1,if_pos h2]];unfold DD;rw[if_neg (by lia),if_pos rfl,h2]
  ·by_cases h3:i<=t
   ·rw[show rY k t i=i - 1 by unfold rY;rw[if_neg h1,if_neg h2,if_pos h3]];unfold DD;rw[if_neg (by lia),if_neg (by lia),if_pos (by lia)];lia
   ·rw[show rY k t i=i by unfold rY;rw[if_neg h1,if_neg h2,if_neg h3]];unfold DD;rw[if_neg h1,if_neg (by lia),if_neg (by lia)]
theorem sU (hi:i < k):rY k t i=i:=by unfold rY;rw[if_pos hi]
theorem wg (h:k<=t) (hi:k<=i):k<=rY k t i:=by
 unfold rY;rw[if_neg (by lia)]
 split
 ·exact h
 ·split <;> lia
variable {a l:Nat->Nat->Rat} {pm p:Nat->Nat} {d:Rat} {P:Nat}
theorem xA.rot (B:xA a m k pm p l d) (h:k<=t) (ht:t < m):xA a m k (fun i=>pm (rY k t i)) p (fun i=>l (rY k t i)) d where
 inj i j hi hj e:=by
  have:=B.inj _ _ (we h ht hi) (we h ht hj) e;rw[<- MF (i:=i) h,this,MF h]
 rng i hi:=B.rng _ (we h ht hi)
 km:=B.km
 d0:=B.d0
 det:=by rw[B.det,zL (f:=pm) (g:=fun i=>pm (rY k t i)) fun j hj=>by rw[sU hj]]
 eqs i hi c:=by
  have e:=B.eqs (rY k t i) (we h ht hi) c;have e1:bu k (fun j=>a (pm (rY k t i)) (p j)*l (rY k t j) c)=bu k (fun j=>a (pm (rY k t i)) (p j)*l j c):=aK fun j hj=>by rw[sU hj]
  rw[e1];by_cases hk:i < k
  ·rw[sU hk] at e ⊢;exact e
  ·rw[if_neg hk];rw[if_neg (by have:=wg h (show k<=i by lia);lia)] at e;exact e
 unit i hi j hj:=by
  rw[B.unit _ (we h ht hi) j hj];by_cases hk:i < k
  ·rw[sU hk]
  ·have:=wg h (show k<=i by lia);rw[if_neg (by lia),if_neg (by lia)]
theorem kx.rot (E:kx a m k P p l d) (h:k<=t) (ht:t < m):kx a m k P p (fun i=>l (rY k t i)) d where
 km:=E.km
 d0:=E.d0
 unit i hi j hj:=by
  rw[E.unit _ (we h ht hi) j hj];by_cases hk:i < k
  ·rw[sU hk]
  ·have:=wg h (show k<=i by lia);rw[if_neg (by lia),if_neg (by lia)]
 inc:=E.inc
 low:=E.low
 zero i h1 h2 c hc:=E.zero _ (wg h h1) (we h ht h2) c hc
 lead j hj c hc:=by rw[sU hj];exact E.lead j hj c hc
 there i hi:=dJ.trans (fun s hs=>dJ.congr (fun c=>by rw[O9 h]) (dJ.row (a:=fun i=>l (rY k t i)) (i:=DD k t s) (Pb h ht hs))) (E.there i hi)
 back i hi:=E.back _ (we h ht hi)
end
section
variable {rows fs ls:List (List Rat)} {n P w a:Nat} {ps:List Nat}
theorem Ld {k i:Nat}:swN k k i=i:=by unfold swN;split <;> (try split) <;> lia
theorem A5.rot (h:A5 rows n P (fs++ls) ps) (hf:fs.length=ps.length) {t:Nat} (ht:t < ls.length):A5 rows n P (fs++ls.getD t [] :: ls.eraseIdx t) ps:=by
 obtain ⟨len,wide,pm,l,d,B,E,v⟩:=h;rw[ai] at len;have h1:ps.length<=ps.length+t:=by lia
 have h2:ps.length+t < rows.length:=by lia
 have ef:∀i,i < rows.length->∀c,bD (fs++ls.getD t [] :: ls.eraseIdx t) i c=bD (fs++ls) (rY ps.length (ps.length+t) i) c:=fun i hi c=>by
  by_cases z:i < ps.length
  ·rw[sU z,yJ (by lia),yJ (by lia)]
  ·obtain ⟨j,rfl⟩:∃j,i=fs.length+j:=⟨i - fs.length,by lia⟩;rw[pQ];cases j with
   | zero =>
    rw[show rY ps.length (ps.length+t) (fs.length+0)=fs.length+t by unfold rY;rw[if_neg (by lia),if_pos (by lia)];lia,pQ];rfl
   | succ j =>
    by_cases y:j < t
    ·rw[show rY ps.length (ps.length+t) (fs.length+(j+1))=fs.length+j by unfold rY;rw[if_neg (by lia),if_neg (by lia),if_pos (by lia)];lia,pQ];show bD (ls.eraseIdx t) j c=_
     unfold bD;rw[aa (l:=ls.eraseIdx t),List.getElem?_eraseIdx_of_lt y,<- aa]
    ·rw[show rY ps.length (ps.length+t) (fs.length+(j+1))=fs.length+(j+1) by unfold rY;rw[if_neg (by lia),if_neg (by lia),if_neg (by lia)],pQ];show bD (ls.eraseIdx t) j c=_
     unfold bD;rw[aa (l:=ls.eraseIdx t),List.getElem?_eraseIdx_of_ge (by lia),<- aa]
 refine ⟨?_,fun xs hx=>?_,fun i=>pm (rY ps.length (ps.length+t) i),fun i=>l (rY ps.length (ps.length+t) i),d,B.rot h1 h2,E.rot h1 h2,fun i hi c=>?_⟩
 ·rw[ai,bg,Ng ht];lia
 ·rcases ax.mp hx with hx | hx
  ·exact wide xs (ax.mpr (.inl hx))
  ·rcases aI.mp hx with rfl | hx
   ·exact wide _ (ax.mpr (.inr (getD_in ht)))
   ·exact wide xs (ax.mpr (.inr (OP hx)))
 ·rw[ef i hi c,v _ (we h1 h2 hi) c];by_cases z:i < ps.length
  ·dsimp only
   rw[sU z]
  ·rw[if_neg z,if_neg (by have:=wg h1 (show ps.length<=i by lia);lia)]
def iq (P:Nat) (h:List Rat):List Rat:=h.map fun y=>1 / h.getD P 0*y
def qi (P:Nat) (u r:List Rat):List Rat:=List.zipWith (fun x y=>x - y) r (u.map fun y=>r.getD P 0*y)
theorem A5.lean (h:A5 rows n P (fs++ls) ps) (hf:fs.length=ps.length) {t:Nat} (ht:t < ls.length) (hP:P < n) (hne:(ls.getD t []).getD P 0≠0):A5 rows n (P+1) ((fs.map (qi P (iq P (ls.getD t [])) )++[iq P (ls.getD t [])])++(ls.eraseIdx t).map (qi P (iq P (ls.getD t [])))) (ps++[P]):=by
 have R:=h.rot hf ht;have len:=R.len;have wide:=R.wide;generalize ls.getD t []=hd at *
 generalize ls.eraseIdx t=l2 at *
 rw[ai,bg] at len;have whd:hd.length=n:=wide _ (ax.mpr (.inr (.head _)));have wu:(iq P hd).length=n:=by unfold iq;rw[ag];exact whd
 have ek:bD (fs++hd :: l2) ps.length=fun c=>hd.getD c 0:=by
  have:=pQ (X:=fs) (Y:=hd :: l2) (i:=0);rw[show fs.length+0=ps.length by lia] at this;rw[this];rfl
 have wl:∀r,r.length=n->(qi P (iq P hd) r).length=n:=fun r hr=>by unfold qi;rw[bN,ag,wu,hr];lia
 have vl:∀r,r.length=n->∀c,(qi P (iq P hd) r).getD c 0=r.getD c 0 - r.getD P 0*(1 / hd.getD P 0*hd.getD c 0):=fun r hr c=>by
  unfold qi;rw[Kj (by rw[ag,wu,hr]),BB];unfold iq;rw[BB]
 refine R.step (t:=ps.length) (ar _) (by rw[ai,bg];lia) (by rw[ek];exact hne) ?_ ?_ fun i hi c=>?_
 ·rw[ai,ai,ag,ag,aU];lia
 ·intro xs hx;rcases ax.mp hx with hx | hx
  ·rcases ax.mp hx with hx | hx
   ·obtain ⟨r,hr,rfl⟩:=aB.mp hx;exact wl r (wide r (ax.mpr (.inl hr)))
   ·rw[dv.mp hx];exact wu
  ·obtain ⟨r,hr,rfl⟩:=aB.mp hx;exact wl r (wide r (ax.mpr (.inr (.tail _ hr))))
 ·rw[Ld,ek]
  dsimp only
  have lf:(fs.map (qi P (iq P hd))).length=ps.length:=by rw[ag];exact hf
  have key:∀{X:List (List Rat)} {s:Nat} (hs:s < X.length) (_:∀r∈X,r.length=n),bD (X.map (qi P (iq P hd))) s c=bD X s c - bD X s P*(1 / hd.getD P 0*hd.getD c 0):=fun {X s} hs hX=>by
   unfold bD;have e1:(X.map (qi P (iq P hd))).getD s []=qi P (iq P hd) X[s]:=by rw[aa,aD,af hs];rfl
   have e2:X.getD s []=X[s]:=by rw[aa,af hs];rfl
   rw[e1,e2];exact vl _ (hX _ (az hs)) c
  rcases dn i ps.length with z | z | z
  ·rw[if_neg (by lia),bP,yJ (by lia),yJ (by lia),key (by lia) fun r hr=>wide r (ax.mpr (.inl hr))]
  ·rw[if_pos z,bP,show i=(fs.map (qi P (iq P hd))).length+0 by lia,pQ];show (iq P hd).getD c 0=_
   unfold iq;rw[BB]
  ·rw[if_neg (by lia)];obtain ⟨j,rfl⟩:∃j,i=ps.length+1+j:=⟨i - ps.length - 1,by lia⟩
   have e1:bD (fs++hd :: l2) (ps.length+1+j)=bD l2 j:=by
    have:=pQ (X:=fs) (Y:=hd :: l2) (i:=j+1);rw[show fs.length+(j+1)=ps.length+1+j by lia] at this;rw[this];rfl
   have e2:bD ((fs.map (qi P (iq P hd))++[iq P hd])++l2.map (qi P (iq P hd))) (ps.length+1+j)=bD (l2.map (qi P (iq P hd))) j:=by
    have:=pQ (X:=fs.map (qi P (iq P hd))++[iq P hd]) (Y:=l2.map (qi P (iq P hd))) (i:=j);rw[ai,lf,aU] at this;exact this
   rw[e1,e2,key (by lia) fun r hr=>wide r (ax.mpr (.inr (.tail _ hr)))]
end
theorem wB {α β:Type} {F:α->β->Prop}:∀{l1:List α} {l2:List β} (_:Paired F l1 l2) (i:Nat),Paired F (l1.eraseIdx i) (l2.eraseIdx i)
 | _,_,.nil,_=>.nil
 | _,_,.cons _ r,0=>r
 | _,_,.cons h r,i+1=>.cons h (wB r i)
theorem E7 {xs:List Rat} {i c:Nat}:c∈z7 xs i↔c < i/\xs.getD c 0≠0:=by
 unfold z7;rw[m8,vA];simp
theorem bB.toE {K:PySem.W.Frag} {H0 H:Hp} {l:Addr} {rows:List (List Rat)} (h:bB K H0 H l rows):∃us,H l=some (.lst us)/\Paired (rM K (fun q=>H0 q=none/\q≠l) H) rows us:=by
 obtain ⟨us,g,pr,nn⟩:=h;exact ⟨us,g,yn (fun xs v hv ⟨q,e,a,b⟩=>⟨q,e,⟨a,fun z=>nn (by rw[<- z,<- e];exact hv)⟩,b⟩) pr⟩
theorem Br {α:Type} {v:α}:∀{l:List α},l.Nodup->v∉l->∀j,(l.set j v).Nodup
 | [],_,_,_=>Nf
 | a :: l,h,hn,0=>by
  rw[dX] at h;rw[List.set_cons_zero,dX];exact ⟨fun z=>hn (.tail _ z),h.2⟩
 | a :: l,h,hn,j+1=>by
  rw[dX] at h;rw[List.set_cons_succ,dX];refine ⟨fun z=>?_,Br h.2 (fun z=>hn (.tail _ z)) j⟩;rcases cC z with z | z
  ·exact h.1 z
  ·exact hn (by rw[z];exact .head _)
structure kj (K:PySem.W.Frag) (A:Addr->Prop) (H:Hp) (n:Nat) (C:V->Rat->Prop) (m p l b q0:Addr) (us ws vs:List V):Prop where
 bag:jz H b
 inn:Inner H b q0
 gm:H m=some (.lst us)
 gp:H p=some (.lst ws)
 gl:H l=some (.lst vs)
 lm:us.length=n
 row:∀x∈us++vs++ws,iJ K A H n (C x) x
 nd:(us++vs++ws).Nodup
section
variable {K:PySem.W.Frag} {A:Addr->Prop} {H H':Hp} {n:Nat} {C C':V->Rat->Prop} {m p l b q0 q:Addr} {us ws vs zs:List V} {y:Rat} {v:V}
theorem kj.same (h:kj K A H n C m p l b q0 us ws vs) (e:aE H H'):kj K A H' n C m p l b q0 us ws vs :=
 ⟨h.bag.same e,(e.upto (p:=b)).2 _ h.inn,e _ _ h.gm,e _ _ h.gp,e _ _ h.gl,h.lm,fun x hx=>(h.row x hx).same e,h.nd⟩
theorem kj.upto (h:kj K A H n C m p l b q0 us ws vs) (M:Fz A m p l b q0) (u:cR b H H') (B':jz H' b):kj K A H' n C m p l b q0 us ws vs :=
 ⟨B',u.2 _ h.inn,u.other M.mb h.gm,u.other M.pb h.gp,u.other M.lb h.gl,h.lm,fun x hx=>(h.row x hx).upto u h.bag M.ab,h.nd⟩
theorem kj.weak (h:kj K A H n C m p l b q0 us ws vs) (w:∀x∈us++vs++ws,∀y,C x y->C' x y):kj K A H n C' m p l b q0 us ws vs :=
 ⟨h.bag,h.inn,h.gm,h.gp,h.gl,h.lm,fun x hx=>(h.row x hx).weak (fun _ z=>z) (w x hx),h.nd⟩
theorem kj.put (h:kj K A H n C m p l b q0 us ws vs) (M:Fz A m p l b q0) (aq:A q) (hq:H q=some (.lst zs)) (hv:cw K H y v) (hc:C (.ref q) y) (j:Nat):kj K A (upd H q (.lst (zs.set j v))) n C m p l b q0 us ws vs:=by
 have ne:∀{z},¬A z->z≠q:=fun h e=>h (by rw[e];exact aq)
 refine ⟨h.bag.upd h.inn (ne M.ab).symm (ne M.aq).symm,h.inn.upd (ne M.ab).symm,by rw[br (ne M.am)];exact h.gm,by rw[br (ne M.ap)];exact h.gp,by rw[br (ne M.al)];exact h.gl,h.lm,fun x hx=>?_,h.nd⟩;by_cases e:x=.ref q
 ·subst e;exact (h.row _ hx).put hq hv hc j
 ·obtain ⟨q1,qs,rfl,a1,r1,l1,c1⟩:=h.row x hx;exact ⟨q1,qs,rfl,a1,r1.updL hq (fun z=>e (by rw[z])),l1,c1⟩
theorem kj.set (h:kj K A H n C m p l b q0 us ws vs) (M:Fz A m p l b q0) (hx:iJ K A H n (C v) v) (hn:v∉us++vs++ws) (j:Nat):kj K A (upd H m (.lst (us.set j v))) n C m p l b q0 (us.set j v) ws vs:=by
 have mem:∀x∈us.set j v++vs++ws,x=v\/x∈us++vs++ws:=fun x hx=>by
  rcases ax.mp hx with hx | hx
  ·rcases ax.mp hx with hx | hx
   ·rcases cC hx with hx | hx
    ·exact .inr (by simp [hx])
    ·exact .inl hx
   ·exact .inr (by simp [hx])
  ·exact .inr (by simp [hx])
 refine ⟨h.bag.upd h.inn M.mb M.mq,h.inn.upd M.mb,aF,by rw[br M.mp.symm];exact h.gp,by rw[br M.ml.symm];exact h.gl,by rw[dZ];exact h.lm,fun x hx'=>?_,?_⟩
 ·rcases mem x hx' with rfl | hx'
  ·exact hx.other h.gm M.am
  ·exact (h.row x hx').other h.gm M.am
 ·have nd:=h.nd;rw[bP] at nd hn ⊢;obtain ⟨n1,n2,n3⟩:=jW.mp nd;refine jW.mpr ⟨?_,n2,fun a ha c hc=>?_⟩
  ·rcases bX j us.length with z | z
   ·exact Br n1 (fun z'=>hn (ax.mpr (.inl z'))) j
   ·rw[List.set_eq_of_length_le z];exact n1
  ·rcases cC ha with ha | rfl
   ·exact n3 a ha c hc
   ·exact fun z=>hn (ax.mpr (.inr (by rw[z];exact hc)))
end
theorem Mf {M W:Nat} {x:Rat} (h0:0 < M) (h1:M<=2^800) (hW:W<=2^140) (h:Fr M W x):qE x :=
 Fj h0 (ah h1 (ak (by decide) (by decide))) (ah hW (ak (by decide) (by decide))) h
theorem LW {t V c:Nat} (ht:t<=3) (hV:V<=2^20) (hc:c<=9):c*(9^t*V)<=2^140:=by
 have h1:9^t<=9^3:=ak (by decide) ht;have h2:c*(9^t*V)<=9*(9^3*2^20):=bH hc (bH h1 hV);exact ah h2 (ah (show 9*(9^3*2^20)<=2^40 by decide) (ak (by decide) (by decide)))
def HE (K:PySem.W.Frag):Sp:=fun xs H Q _=>∃(b m p l q0:Addr) (n M V1:Nat) (A:Addr->Prop) (us ws vs:List V),xs=[.ref b,.ref m,.ref p,.ref l]/\Fz A m p l b q0/\kj K A H n (fun _=>Fr M V1) m p l b q0 us ws vs/\n<=8/\ws.length<=4/\vs.length<=4/\0 < M/\M<=2^800/\V1<=2^20/\(∀q,H q=none->A q) /\
 ∀r us' H',H' r=some (.tup [.ref m,.ref p,.ref l])->kj K A H' n (fun _=>Fr M (9^3*V1)) m p l b q0 us' ws vs->hJ A b m H H'->Q (.ref r) H'
theorem z8 {α:Type} {l:List α} {v:α} (h:l.Nodup) (hn:v∉l):(l++[v]).Nodup:=jW.mpr ⟨h,by simp,fun a ha c hc=>by rw[dv.mp hc];exact fun z=>hn (by rw[<- z];exact ha)⟩
section
variable {K:PySem.W.Frag} {a:Addr} {xs:List V} {g:TG} {tf:TT} {te:TE} {Q:VK} {σ₀:St} {H:Hp} {α β:Type}
theorem BI {n:Nat} {b:Addr} (G:Hp->β->V->Prop) (C:β->Prop) (hB:jz H b) (hl:n<=1000) (hG:∀{H' H'' c x},G H' c x->cR b H' H''->jz H' b->G H'' c x)
  (hA:∀{H' c x},G H' c x->∃q,x=V.ref q/\H' q≠none)
  (hs:∀(i:Nat) H' NY NN,i < n->cR b H H'->jz H' b->(∀y c H2,cR b H' H2->jz H2 b->C c->G H2 c y->(∃q,y=V.ref q/\H' q=none)->NY y H2)->uS σ₀ g tf te (.int i) H' NY NN)
  (hd:∀ys cs H' p,H p=none->cR b H H'->jz H' b->H' p=some (.lst ys)->cs.length=n->ys.Nodup->(∀c∈cs,C c)->Paired (G H') cs ys->(∃H2,H2 p=none/\Paired (G H2) cs ys)->Q (.ref p) H'):vz (Ep 0 n) σ₀ g tf te Q H:=by
 refine rn (fun i ys H'=>cR b H H'/\jz H' b/\∃cs,cs.length=i/\ys.Nodup/\(∀c∈cs,C c)/\Paired (G H') cs ys) (aR (bE (by lia))) ⟨(aE.refl _).upto,hB,[],rfl,Nf,(fun _ z=>nomatch z),.nil⟩ ?_ ?_
 ·rintro i ys H' hi hlen ⟨u,B,cs,lc,nd,hc,pr⟩;rw[zm];refine hs i H' _ _ hi u B fun y c H2 u2 B2 cc gy ⟨q,ey,nq⟩=>⟨u.trans u2,B2,cs++[c],by simp [lc],z8 nd (fun z=>by obtain ⟨c',_,gc⟩:=dB pr z;obtain ⟨q',e',h'⟩:=hA gc;rw[ey] at e';cases e';exact h' nq),GN hc cc,bZ (Paired.imp' (fun _ _ z=>hG z u2 B) pr) (.cons gy .nil)⟩
 ·rintro ys H' hy ⟨u,B,cs,lc,nd,hc,pr⟩ p hp;have s:aE H' (upd H' p (.lst ys)):=aE.new hp;exact hd ys cs _ p (u.none B hp) (u.same s) (B.same s) aF lc nd hc (Paired.imp' (fun _ _ z=>hG z s.upto B) pr) ⟨H',hp,pr⟩
end
theorem kj.fr {K:PySem.W.Frag} {A:Addr->Prop} {H:Hp} {n c:Nat} {m p l b q0:Addr} {us ws vs:List V} (h:kj K A H n (fun _=>Dr (2^c)) m p l b q0 us ws vs):∃M,0 < M/\M<=2^(c*((n+ws.length+vs.length)*n))/\kj K A H n (fun _=>Fr M (2^c)) m p l b q0 us ws vs:=by
 obtain ⟨ra,pa,la,ha⟩:=zJ h.row;obtain ⟨M,m0,m1,m2⟩:=Lv (c:=c) (n:=n) (rows:=ra) ha;refine ⟨M,m0,?_,h.bag,h.inn,h.gm,h.gp,h.gl,h.lm,EU pa fun qs hq=>⟨(ha qs hq).1,m2 qs hq⟩,h.nd⟩;rw[la,ai,ai,h.lm] at m1;rw[show n+ws.length+vs.length=n+vs.length+ws.length by lia];exact m1
structure Fv (K:PySem.W.Frag) (A:Addr->Prop) (n:Nat) (C:Rat->Prop) (m p l b q0:Addr) (us ws vs:List V) (H0 H:Hp):Prop where
 mix:kj K A H n (fun _=>C) m p l b q0 us ws vs
 gp:H p=some (.lst ws)
 gl:H l=some (.lst vs)
 kp:hJ A b m H0 H
section
variable {K:PySem.W.Frag} {A:Addr->Prop} {n:Nat} {C:Rat->Prop} {m p l b q0 q:Addr} {us ws vs:List V} {H0 H H':Hp} {y:Rat} {v:V}
theorem Fv.same (h:Fv K A n C m p l b q0 us ws vs H0 H) (e:aE H H'):Fv K A n C m p l b q0 us ws vs H0 H':=⟨h.mix.same e,e _ _ h.gp,e _ _ h.gl,h.kp.same e⟩
theorem Fv.upto (h:Fv K A n C m p l b q0 us ws vs H0 H) (M:Fz A m p l b q0) (u:cR b H H') (B:jz H' b):Fv K A n C m p l b q0 us ws vs H0 H':=⟨h.mix.upto M u B,u.other M.pb h.gp,u.other M.lb h.gl,h.kp.upto u⟩
theorem Fv.row (h:Fv K A n C m p l b q0 us ws vs H0 H) {x:V} (hx:x∈ws\/x∈vs):iJ K A H n C x:=h.mix.row x (by rcases hx with hx | hx <;> simp [hx])
theorem Fv.put (h:Fv K A n C m p l b q0 us ws vs H0 H) (M:Fz A m p l b q0) (hx:V.ref q∈ws\/V.ref q∈vs) (hv:cw K H y v) (hc:C y) (j:Nat):∃zs,H q=some (.lst zs)/\zs.length=n/\Fv K A n C m p l b q0 us ws vs H0 (upd H q (.lst (zs.set j v))):=by
 obtain ⟨q',zs,qs,e,a,g,lz,_⟩:=(h.row hx).at;cases e;have ne:∀{z},¬A z->z≠q:=fun h e=>h (by rw[e];exact a)
 exact ⟨zs,g,lz,h.mix.put M a g hv hc j,by rw[br (ne M.ap)];exact h.gp,by rw[br (ne M.al)];exact h.gl,h.kp.upd (.inl a)⟩
end
def Jm (K:PySem.W.Frag):Sp:=fun vs H Q _=>∃(b:Addr) (n w:Nat) (way first:Int),vs=[.ref b,.int n,.int way,.int first,.int w]/\jz H b/\n<=8/\1<=w/\w<=1000000 /\
 ∀r us H',H r=none->H' r=some (.lst us)->us.length=n->us.Nodup->(∀x∈us,iJ K (fun q=>H q=none/\q≠r) H' n (Dr (max w 6)) x)->jz H' b->cR b H H'->Q (.ref r) H'
def PtF (n i o w c:Nat) (mv pt lk:List (List Rat)):Prop:=∃M V1:Nat,0 < M/\GF M V1 mv/\GF M V1 pt/\GF M V1 lk/\((w<=9/\M=2520/\V1=9^3*9)\/(9 < w/\M<=2^(c*((n+i+o)*n))/\V1=9^3*2^c))
def Hw (K:PySem.W.Frag):Sp:=fun vs H Q _=>∃(b:Addr) (n i o w c:Nat),vs=[.ref b,.int n,.int i,.int o,.int w]/\jz H b/\n<=8/\i<=4/\o<=4/\1<=w/\w<=1000000/\max w 6<=2^c/\c<=20/\c*((n+i+o)*n)<=800 /\
 ∀r mv pt lk H',pR K H H' r mv pt lk->mv.length=n->pt.length=i->lk.length=o->oy mv pt lk->PtF n i o w c mv pt lk->jz H' b->cR b H H'->Q (.ref r) H'
theorem Md {mv pt:List (List Rat)} {M V1 a c n0:Nat} (M0:0 < M) (hM:M<=2^a) (hn:mv.length<=n0) (hV:(n0+1)*V1<=2^c) (fm:GF M V1 mv) (fp:GF M V1 pt) (h4:a<=400/\c<=40/\n0*(n0*(a+c)+4)<=1740/\n0*(n0*(n0*(a+c)+4)+a+c+4)<=8900):ot mv pt a c:=by
 obtain ⟨h1,h2,h3,h5⟩:=h4;have e1:mv.length*(a+c)<=n0*(a+c):=aJ _ hn;have e2:mv.length*(mv.length*(a+c)+4)<=n0*(n0*(a+c)+4):=bH hn (by lia);have e3:mv.length*(mv.length*(mv.length*(a+c)+4)+a+c+4)<=n0*(n0*(n0*(a+c)+4)+a+c+4):=bH hn (by lia);exact ⟨M,V1,M0,hM,ah (aJ _ (by lia)) hV,fm,fp,h1,h2,by lia,by lia⟩
theorem Ka {mv pt R R':List (List Rat)} {n t:Nat} {ps ps':List Nat} (lm:mv.length=n) (wm:∀xs∈mv,xs.length=n) (wp:∀xs∈pt,xs.length=n) (RR:bo (dq mv pt t) n R ps) (RR':bo (dq mv pt (t+1)) n R' ps'):bo (pt++R.map (qD mv)) n R' ps':=by
 have wk:=eG (mv:=mv) lm wp t;refine ⟨RR'.1,RR'.2.1,RR'.2.2.other ?_ ?_⟩
 ·refine v8 (fun i hi=>sO hi) fun i hi=>pX ?_
  rw[ag] at hi;have:=RR.2.2.span i hi;rw[<- RR.1] at this;exact zB lm wm wk RR.2.1 hi this
 ·refine v8 (fun i hi=>sO hi) fun i hi=>pX ?_
  rw[ag] at hi;exact zB lm wm RR.2.1 wk hi (RR.2.2.back i (by rw[<- RR.1];exact hi))
theorem MN {F G:List jr->Rat} {r:Nat} {σ:Nat->Nat} (hF:∀ws:List jr,F (ws.map fun v i=>v (σ i))=G ws):∀(post pre:List jr) (s:Rat),AH F r (pre.map fun v i=>v (σ i)) (post.map fun v i=>v (σ i)) s=AH G (σ r) pre post s
 | [],_,_=>rfl
 | v :: post,pre,s=>by
  have i1:=hF (pre++post);have i2:=MN (r:=r) hF post (pre++[v]) (-s);simp only[dg,fv,List.map_nil,AH] at i1 i2 ⊢;rw[i1,i2]
theorem M2 {σ:Nat->Nat}:∀(rs:List Nat) (vs:List jr),sH rs (vs.map fun v i=>v (σ i))=sH (rs.map σ) vs
 | [],[]=>rfl
 | [],_ :: _=>rfl
 | r :: rs,vs=>MN (fun ws=>M2 rs ws) vs [] 1
theorem JB {σ:Nat->Nat}:∀{k:Nat},(yi (fun i=>i) k).map σ=yi σ k
 | 0=>rfl
 | k+1=>by show σ k :: _=_;rw[JB];rfl
theorem cw_map {τ:jr->jr} {v:Nat->jr}:∀{k:Nat},(su v k).map τ=su (fun j=>τ (v j)) k
 | 0=>rfl
 | k+1=>by show τ (v k) :: _=_;rw[cw_map];rfl
theorem Ot {σ:Nat->Nat} {v:Nat->jr} {k:Nat}:sH (yi σ k) (su v k)=sH (yi (fun i=>i) k) (su (fun j i=>v j (σ i)) k):=by
 rw[<- JB,<- M2,cw_map]
structure Vb (r n:Nat) (Pm Y Z:Nat->Nat->Rat) (d:Rat) (W:Nat):Prop where
 d0:d≠0
 det:d=sH (yi (fun i=>i) r) (su (fun j i=>Pm i j) r)
 eq:∀i,i < r->∀c,c < n->Z i c=bu r fun s=>Pm i s*Y s c
 pf:∀i,i < r->∀s,s < r->Fr 1 W (Pm i s)
 zf:∀i,i < r->∀c,c < n->Fr 1 W (Z i c)
section
variable {rows fs ls:List (List Rat)} {n r M W Wv Wb k P:Nat} {Pm Y Z B E a:Nat->Nat->Rat} {d:Rat} {ps:List Nat} {rs:List (List Rat)}
end
section
variable {rows R R1 R2 mv pt:List (List Rat)} {n r M V1 W W' Wv Wb k P:Nat} {Pm Y Z B E a:Nat->Nat->Rat} {d:Rat} {ps ps1 ps2:List Nat} {rs:List (List Rat)}
theorem IW (h0:0 < M) (h3:∀xs∈rows,∀x∈xs,Tp M W x):∀i,i < rows.length->∀c,Fr 1 W (d4 (rows.map jv) i c):=fun i hi c=>by
 have hx:=getD_in (e:=[]) hi;rw[zu hi];unfold bD;generalize rows.getD i []=xs at hx ⊢;by_cases hc:c < xs.length
 ·have t:=h3 xs hx _ (getD_in (e:=0) hc);obtain ⟨s,e,b⟩:=zv t h0 (xf (xs:=xs)) (tH (aB.mpr ⟨_,getD_in (e:=0) hc,rfl⟩)) (GH h0 (h3 xs hx));rw[dt,e];exact Fr.int b
 ·rw[aa,aN (by lia)];show Fr 1 W (_*0)
  rw[iW];exact Fr.zero
theorem Vb.of (hw:∀xs∈rows,xs.length=n) (hW:1<=W) (h0:0 < M) (h3:∀xs∈rows,∀x∈xs,Tp M W x) (RR:bo rows n R ps):∃Pm Z d,Vb ps.length n Pm (bD R) Z d W:=by
 have ent:=IW h0 h3;obtain ⟨ls,ps2,d,I⟩:=xC hw hW (by rw[ag];exact ent) n (ar _);obtain ⟨_,_,⟨pm,B⟩,E⟩:=I;rw[ag] at B E
 have RF:BW rows.length n (bD rows) ps2.length (fun j=>ps2.getD j 0) (fun i c=>d4 ls i c / d):=BW.other (E.done fun i hi c hc=>vR (n:=n) (fun zs hz=>by
  obtain ⟨xs,hx,rfl⟩:=aB.mp hz;rw[pW];exact hw xs hx) hc) yL yM
 obtain ⟨e1,e2,e3⟩:=RF.uniq RR.2.2 (fun _ hi=>dJ.row hi) (fun _ hi=>dJ.row hi);refine ⟨fun i s=>d4 (rows.map jv) (pm i) (ps2.getD s 0),fun i c=>d4 (rows.map jv) (pm i) c,d,?_⟩;rw[<- e1];have km:=B.km;refine ⟨B.d0,?_,fun i hi c hc=>?_,fun i hi s hs=>ent _ (B.rng i (by lia)) _,fun i hi c hc=>ent _ (B.rng i (by lia)) _⟩
 ·rw[B.det];exact Ot
 ·have:=B.coef (i:=i) (c:=c) (by lia);rw[if_pos hi,uQ] at this;rw[this];exact aK fun s hs=>by rw[<- e3 s hs c];exact dt _ _
theorem PD {V:Nat} (h:GF M V rows) (i c:Nat):Fr M V (bD rows i c):=by
 unfold bD;rw[aa (l:=rows)];by_cases hi:i < rows.length
 ·rw[af hi];show Fr M V (rows[i].getD c 0)
  rw[aa];by_cases hc:c < rows[i].length
  ·rw[af hc];exact h _ (az hi) _ (az hc)
  ·rw[aN (by lia)];exact Fr.zero
 ·rw[aN (by lia)];exact Fr.zero
theorem xD {f:Nat->Rat} {a:Nat}:∀{b:Nat},bu (a+b) f=bu a f+bu b fun t=>f (a+t)
 | 0=>by show bu a f=bu a f+0;grind
 | b+1=>by
  show bu (a+b) f+f (a+b)=_+(bu b _+f (a+b))
  rw[xD];grind
end
section
variable {rows R R1 R2 mv pt:List (List Rat)} {n t t2 a c:Nat} {ps ps1 ps2:List Nat}
theorem yR (RR:bo rows n R ps):bo R n R ps:=⟨RR.1,RR.2.1,RR.2.2.other (fun i hi=>by rw[RR.1];exact RR.2.2.span i hi) (fun i hi=>RR.2.2.back i (by rw[<- RR.1];exact hi))⟩
theorem Lu (RR:bo rows n R ps) (e:ps.length=n) {i:Nat} (hi:i < n) (c:Nat):bD R i c=if c=i then 1 else 0:=by
 have lo:∀j,j < n->j<=ps.getD j 0:=by
  intro j
  induction j with
  | zero=>intro _;exact aX _
  | succ j ih =>
   intro hj;have:=ih (by lia);have:=RR.2.2.inc j (j+1) (by lia) (by lia)
   lia
 have hi2:∀s j,j+s+1=n->ps.getD j 0<=j:=by
  intro s
  induction s with
  | zero =>
   intro j hj;have:=RR.2.2.low j (by lia)
   lia
  | succ s ih =>
   intro j hj;have:=ih (j+1) (by lia);have:=RR.2.2.inc j (j+1) (by lia) (by lia)
   lia
 have ep:∀j,j < n->ps.getD j 0=j:=fun j hj=>KZ (hi2 (n - 1 - j) j (by lia)) (lo j hj)
 by_cases hc:c < n
 ·have:=RR.2.2.unit i (by lia) c (by lia);rw[ep c hc] at this;rw[this];by_cases z:i=c
  ·rw[if_pos z,if_pos z.symm]
  ·rw[if_neg z,if_neg (Ne.symm z)]
 ·rw[CO RR.2.1 (by lia),if_neg (by lia)]
theorem Gv {M W:Nat} (h:∀i,i < rows.length->∀c,Tp M W (bD rows i c)):∀xs∈rows,∀x∈xs,Tp M W x:=fun xs hx x hx'=>by
 obtain ⟨i,hi,rfl⟩:=be hx;obtain ⟨c,hc,rfl⟩:=be hx';have:=h i hi c;unfold bD at this;rw[aa (l:=rows),af hi] at this;have e:(some rows[i]).getD []=rows[i]:=rfl;rw[e,aa,af hc] at this;exact this
theorem ot.vb (F:ot mv pt a c) (wm:∀xs∈mv,xs.length=mv.length) (wp:∀xs∈pt,xs.length=mv.length) (ht:t<=ps.length) (RR:bo (dq mv pt t) mv.length R ps):∃Pm Z d w,Vb ps.length mv.length Pm (bD R) Z d (2^w)/\(ps.length < mv.length/\w=(mv.length - 1)*(a+c)\/ps.length=mv.length/\w=0):=by
 have le:=RR.le;rcases bX ps.length mv.length with z | z
 ·obtain ⟨M,V,M0,Ma,hV,fm,fp,_⟩:=F;have f:=xS rfl wm wp hV fm fp t
  obtain ⟨Pm,Z,d,vb⟩:=Vb.of (eG rfl wp t) (cg (n:=(mv.length - 1)*(a+c))) (Nat.pow_pos M0 (n:=t)) (fun xs hx x hx'=>Tp.of (f xs hx x hx') (by
   refine ah (dR _ (tZ Ma t)) ?_;rw[<- BX,<- cF];refine ak (by decide) ?_;rw[<- Nat.add_mul,cG,pB c];exact aJ _ (by lia))) RR
  exact ⟨Pm,Z,d,_,vb,.inl ⟨z,rfl⟩⟩
 ·have e:ps.length=mv.length:=by lia
  obtain ⟨Pm,Z,d,vb⟩:=Vb.of (W:=2^0) (M:=1) RR.2.1 (by decide) (by decide) (Gv fun i hi c=>by
   rw[RR.1,e] at hi;rw[Lu RR e hi c]
   split
   ·exact ⟨1,by rw[Rat.one_mul];rfl,by decide⟩
   ·exact ⟨0,by rw[Rat.zero_mul];rfl,by decide⟩) (yR RR)
  exact ⟨Pm,Z,d,0,vb,.inr ⟨e,rfl⟩⟩
end
structure TwI (K:PySem.W.Frag) (H0 H:Hp) (n:Nat) (fd:Addr) (L:List (Addr×List V)):Prop where
 gf:H fd=some (.lst (L.map fun e=>V.ref e.1))
 nf:H0 fd=none
 ls:∀e∈L,H0 e.1=none/\e.1≠fd/\H e.1=some (.lst e.2)
 nd:(L.map fun e=>e.1).Nodup
 rows:∀e∈L,∀x∈e.2,iJ K (fun q=>(H0 q=none/\q≠fd)/\q∉L.map fun e=>e.1) H n (Fr 1 1) x
 rd:(L.flatMap fun e=>e.2).Nodup
def Gd (mv pt:List (List Rat)) (i:Nat) (R:List (List Rat)) (ps:List Nat):Prop:=bo (dq mv pt i) mv.length R ps/\∃t,t<=ps.length/\t<=i/\bo (dq mv pt t) mv.length R ps/\(t=i\/∀s,bo (dq mv pt (t+s)) mv.length R ps)
section
variable {mv pt R R':List (List Rat)} {i:Nat} {ps ps':List Nat}
theorem Gd.start:Gd mv pt 0 [] []:=⟨ET,0,ar _,ar _,ET,.inl rfl⟩
theorem DE (wm:∀xs∈mv,xs.length=mv.length) (wp:∀xs∈pt,xs.length=mv.length) (h:bo (dq mv pt i) mv.length R ps) (h':bo (dq mv pt (i+1)) mv.length R' ps') (e:ps'.length=ps.length):∀s,bo (dq mv pt (i+s)) mv.length R ps:=By rfl wm wp h (Ka rfl wm wp h h') e
theorem Gd.step (wm:∀xs∈mv,xs.length=mv.length) (wp:∀xs∈pt,xs.length=mv.length) (h:Gd mv pt i R ps) (h':bo (dq mv pt (i+1)) mv.length R' ps'):Gd mv pt (i+1) R' ps'/\(mv.length<=i->R'=R):=by
 obtain ⟨h0,t,t1,t2,ht,hs⟩:=h
 have st:(∀s,bo (dq mv pt (t+s)) mv.length R ps)->Gd mv pt (i+1) R' ps'/\(mv.length<=i->R'=R):=fun hs=>by
  have:=hs (i+1 - t);rw[show t+(i+1 - t)=i+1 by lia] at this;obtain ⟨rfl,rfl⟩:=this.same h';exact ⟨⟨h',t,t1,by lia,ht,.inr hs⟩,fun _=>rfl⟩
 rcases hs with rfl | hs
 ·have gr:=D6 rfl wm wp h0 h';by_cases e:ps'.length=ps.length
  ·exact st (DE wm wp h0 h' e)
  ·refine ⟨⟨h',t+1,by lia,ar _,h',.inl rfl⟩,fun hn=>?_⟩;have:=h'.le
   lia
 ·exact st hs
theorem Gd.late (h:Gd mv pt i R ps) (hi:mv.length < i) {j:Nat} (hj:mv.length<=j):bo (dq mv pt j) mv.length R ps:=by
 obtain ⟨h0,t,t1,t2,ht,hs⟩:=h;have le:=h0.le;rcases hs with rfl | hs
 ·lia
 ·have:=hs (j - t);rwa [show t+(j - t)=j by lia] at this
end
theorem Jy:typeLookup (.type "list_reverseiterator") "__len__"=pure none:=by
 rw[typeLookup_type,builtinLookup_eq_fast]
 kernel_rfl
theorem Lr:typeLookup (.type "list_reverseiterator") "__length_hint__"=pure (some (.builtin "list_reverseiterator.__length_hint__")):=by
 rw[typeLookup_type,builtinLookup_eq_fast]
 kernel_rfl
section
variable {prog:Program} {w:World} {A:Around} {E:Value->Shared->Prop} {s:Shared}
theorem Lp {it l:Addr} {i:Int} {Q:Bool->Shared->Prop} (hit:s.heap.IsRevIter it l i) (q:Q false s):wpAny (model prog w) A (Builtin.List.listLengthHint (.ref it)) Q E s:=by
 unfold Builtin.List.listLengthHint;refine wpAny_bind (wpAny_specialOf hit.typeIs Jy ?_);show wpAny _ A (specialOf (Value.ref it) (Str.ofString "__length_hint__") >>= _) Q E s
 refine wpAny_bind (wpAny_specialOf hit.typeIs Lr ?_);generalize hid:("list_reverseiterator.__length_hint__":String)=id0
 dsimp only
 rw[show splitId id0=some ("list_reverseiterator","__length_hint__") from by subst hid;decide +kernel];subst hid;refine wpAny_bind (wpAny_isInstance (T:="list_reverseiterator") (b:=true) hit.typeIs (by rw[isSubtype_type];kernel_rfl) ?_);refine wpAny_ite_split (fun z=>absurd z (by decide)) (fun _=>?_);refine wpAny_ite_split (fun _=>?_) (fun z=>absurd (by decide +kernel) z);exact wpAny_ite_split (fun z=>absurd z (by decide +kernel)) (fun _=>wpAny_pure q)
theorem Ls {R:Result->Shared->Prop} {I l S:Addr} {items:Array Value} {res:Value} {c0:Nat} (hh:A.handled=none) (hit:s.heap.IsRevIter I l ((items.size:Int) - 1)) (hl:s.heap.IsList l items) (nI:l≠I) (nS:S≠I) (nL:S≠l) (hn:items.size<=sizeLine) (hS:s.heap.get? S=some { cls:=.type "list",data:=.seq #[] c0 })
  (hR:∀h' tk acc c,(∀b o,b≠S->b≠I->s.heap.get? b=some o->h'.get? b=some o)->h'.get? S=some { cls:=.type "list",data:=.seq acc c }->ItemsOf (fun i v=>items[items.size - 1 - i]?=some v) acc items.size->R (.ok (.ret res)) { s with heap:=h',toks:=tk }) :
  wpAny (model prog w) A.in1 (Builtin.List.listExtendWith (.ref S) (.ref I) res) (fun fin s2=>match fin with | .done f=>R (.ok f) s2 | .again c=>c.quiet=true/\codeAny (model prog w) A c R s2) (fun e s2=>R (.error e) s2) s:=by
 have W:=(Walks.listRev (prog:=prog) (w:=w) (A:=A.in1) hh I l nI items).toS;unfold Builtin.List.listExtendWith;refine wpAny_bind (wpAny_typeOf hit.typeIs ?_);rw[if_neg (by simp [Builtin.List.listSameRef,nS])];refine wpAny_bind (wpAny_pyIter_revIter hit ?_);refine wpAny_bind (wpAny_holding (Lp hit ?_));refine wpAny_ite_split (fun z=>absurd z (by decide +kernel)) (fun _=>?_);have h0:s.heap.IsRevIter I l ((items.size:Int) - 1 - ((0:Nat):Int)):=by simpa using hit
 refine wpAny_pure ⟨plainId_quiet F.plain_extend_loop _,codeAny_extend_loopS W hn S (by simp [nS,nL]) res items.size 0 s #[] c0 rfl (aX _) ⟨aX _,h0,hl⟩ hS (ItemsOf.nil _) fun s2 acc c hm h2 hi=>?_⟩;rw[Moved.eq_with hm];exact hR s2.heap s2.toks acc c (fun b o n1 n2 e=>hm.heap b o (by simp [n1,n2]) e) h2 hi
theorem Lq {Q : Value → Shared → Prop} {I l : Addr} {items : Array Value} (hh : A.handled = none) (hit : s.heap.IsRevIter I l ((items.size : Int) - 1)) (hl : s.heap.IsList l items) (nI : l ≠ I) (hn : items.size ≤ sizeLine)
    (hQ : ∀ h' tk acc c, (∀ b o, b ≠ I → s.heap.get? b = some o → h'.get? b = some o) → h'.get? s.heap.objs.size = some { cls := .type "list", data := .seq acc c } → ItemsOf (fun i v => items[items.size - 1 - i]? = some v) acc items.size → Q (.ref s.heap.objs.size) { s with heap := h', toks := tk }) :
    wpAny (model prog w) A (call (.type "list") [.ref I]) Q E s := by
  refine callType_codes (Q₁ := fun x s2 => x = .ref s.heap.objs.size /\ s2 = { s with heap := s.heap.push { cls := .type "list", data := .seq #[] } }) F.called_list (F.typeCall_list_1 _) F.entry_list_init (code_list_new _ ⟨rfl, rfl⟩) fun x s2 hx => ?_
  obtain ⟨rfl, rfl⟩ := hx;have up : ∀ b o, s.heap.get? b = some o → (s.heap.push { cls := .type "list", data := .seq #[] }).get? b = some o := fun b o e => Heap.get?_push_of_some _ e
  have hS : (s.heap.push { cls := .type "list", data := .seq #[] }).get? s.heap.objs.size = some { cls := .type "list", data := .seq #[] } := Heap.get?_push_size _ rfl
  have lI : I ≠ s.heap.objs.size := by
    obtain ⟨o, ho, _⟩ := hit;exact bW (Heap.lt_size ho)
  have lL : l ≠ s.heap.objs.size := by
    obtain ⟨o, ho, _⟩ := hl;exact bW (Heap.lt_size ho)
  refine ⟨⟨_, hS, rfl⟩, F.args_list_init_2 _ _, ?_⟩;show wpAny _ A.in1.in1 (do let old <- Builtin.List.listItems (.ref s.heap.objs.size); Builtin.List.listUpdate (.ref s.heap.objs.size) (fun _ => #[]); letGo old.toList.reverse; Builtin.List.listExtendWith (.ref s.heap.objs.size) (.ref I) .none) _ _ _
  refine wpAny_bind ?_;unfold Builtin.List.listItems;refine wpAny_bind (wpAny_seqItems hS rfl (wpAny_pure ?_));refine wpAny_bind (m := Builtin.List.listUpdate (.ref s.heap.objs.size) (fun _ => #[])) (wpAny_updateSeq hS rfl ?_);have h3 := Heap.get?_update_self (Obj.mapSeq (fun _ => (#[] : Array Value))) hS rfl;have o3 : ∀ b o, b ≠ s.heap.objs.size → (s.heap.push { cls := .type "list", data := .seq #[] }).get? b = some o → ((s.heap.push { cls := .type "list", data := .seq #[] }).update s.heap.objs.size (Obj.mapSeq (fun _ => (#[] : Array Value)))).get? b = some o := fun b o nb e => (Heap.get?_update_other _ _ (Ne.symm nb)).trans e
  refine wpAny_bind (wpAny_letGo ?_);refine Ls (A := A.in1) hh (hit.at fun o e => o3 _ _ lI (up _ _ e)) (hl.at fun o e => o3 _ _ lL (up _ _ e)) nI lI.symm lL.symm hn h3 fun h' tk acc c hk h2 hi => ?_
  exact ⟨rfl, hQ h' tk acc c (fun b o nb e => hk b o (bW (Heap.lt_size e)) nb (o3 _ _ (bW (Heap.lt_size e)) (up _ _ e))) h2 hi⟩
end
section
variable {X:Cx}
def zw (K:PySem.W.Frag) (ta:TA):TE:=fun σ H Q=>ta σ H fun vs H1=>∃l xs,vs=[.ref l]/\bM K H1 l xs/\xs.length<=1000/\∀L H',aE H1 H'->H1 L=none->H' L=some (.lst xs.reverse)->Q (.ref L) H'
theorem Dh:∀{xs:List V} {us:List Value},cA xs us->cA xs.reverse us.reverse
 | _,_,.nil=>.nil
 | _,_,.cons h r=>by
  rw[List.reverse_cons,List.reverse_cons];exact cA.append (Dh r) (.cons h .nil)
theorem zP (K:PySem.W.Frag) {e1:Expr} {ta:TA} {p p2 pos pos2:Pos} (hg:Gl X "list") (hm:X.mg "list"=none) (hg2:Gl X "reversed") (hm2:X.mg "reversed"=none) (ha:PA X [e1] ta) (hK:X.K=K:=by rfl) (hc:X.calm=true:=by rfl)
  (hs:starEach [e1] X.env=[(false,eval e1 X.env)]:=by rfl)
  (hs3:starEach [Expr.Call (.Name "reversed" p2) [e1] [] pos2] X.env=[(false,eval (.Call (.Name "reversed" p2) [e1] [] pos2) X.env)]:=by rfl) :
  PE X (.Call (.Name "list" p) [.Call (.Name "reversed" p2) [e1] [] pos2] [] pos) (zw K ta):=by
 subst hK;intro pins s σ H Q I h;refine wpAny_Call_Name_kw (ki I hg hm boot_list ?_);refine PyProof.Rows.callWith_type1 ?_ (by rw[hs3];rfl) rfl;rw[hs3];show wpAny _ _ (spliced ((false,eval (.Call (.Name "reversed" p2) [e1] [] pos2) X.env) :: [])) _ _ s
 refine Calls.spliced_cons ?_;refine Call_ (ki I hg2 hm2 boot_reversed (PyProof.Rows.callWith_type1 (fL (ha pos2 pins s σ H _ I h) fun us s1 ⟨vs,H1,I1,r1,q1⟩=>?_) hs rfl));obtain ⟨l,xs,e,hl,hn,q⟩:=q1;subst e;obtain ⟨u,rfl,ru⟩:=vals1 r1;cases ru;obtain ⟨its,rv,pl,hz⟩:=I1.list hl;have hlen:=rv.length;have pI:=pl.isList;refine call_reversed_list pI ?_;refine Calls.spliced_nil ?_;have kp:∀b o,s1.heap.get? b=some o->(s1.heap.push (revObj l ((its.toArray.size:Int) - 1))).get? b=some o:=fun b o e=>Heap.get?_push_of_some _ e
 have nI:l≠s1.heap.objs.size:=by
  obtain ⟨o,ho,_⟩:=pI;exact bW (Heap.lt_size ho)
 refine Lq (I.ok.hd hc) (I:=s1.heap.objs.size) (l:=l) (items:=its.toArray) ⟨_,Heap.get?_push_size _ rfl,rfl,rfl⟩ (pI.at fun o e=>kp _ _ e) nI (by rw[aL];lia) fun h' tk acc c hk hS hacc=>?_
 have sz:s1.heap.objs.size<=(s1.heap.push (revObj l ((its.toArray.size:Int) - 1))).objs.size:=by rw[Heap.size_push];exact sF _
 have nS:=I1.hok.fresh sz
 have ea:acc.toList=its.reverse:=by
  apply xy;intro j;rcases bX j its.length with z | z
  ·have hj:j < acc.toList.length:=by rw[Array.length_toList,hacc.1,aL];exact z
   have:=hacc.2 j acc.toList[j] (by rw[<- Array.getElem?_toList];exact af hj);rw[af hj,List.getElem?_reverse z];simpa using this.symm
  ·rw[aN (by rw[Array.length_toList,hacc.1,aL];exact z),aN (by rw[md];exact z)]
 have vs':cA xs.reverse acc.toList:=by rw[ea];exact Dh rv
 have sl:xs.reverse.length<=sizeLine:=by rw[md];exact hz
 refine ⟨.ref _,_,I1.laid (o:=.lst xs.reverse) (fun b o e=>hk b o (bW (Heap.lt_size e)) (kp b o e)) sz ?_,rfl,q _ _ (aE.new nS) nS aF⟩;exact ⟨sl,acc.toList,c,vs',by simpa using hS⟩
end
section
variable {rows R X K0:List (List Rat)} {due L:List Rat} {n m M W D E W0 W1:Nat} {ps:List Nat}
theorem Kt {N Wx:Nat} {rs:List Nat} {vs:List jr} (hl:vs.length<=N) (h:∀v∈vs,∀r∈rs,Fr 1 Wx (v r)):∃z:Int,sH rs vs=(z:Rat)/\z.natAbs<=(N*Wx)^rs.length:=by
 have f:=BE hl h;obtain ⟨z,ez⟩:=Gu f;rw[ez] at f;exact ⟨z,ez,CN f⟩
end
def jw (mv:List (List Rat)):Nat->List Rat->List Rat
 | 0,x=>x
 | t+1,x=>qD mv (jw mv t x)
section
variable {mv pt lk pus:List (List Rat)} {st pu go:List Rat} {n t T c:Nat}
theorem ug (h:st.length=mv.length):∀t,(jw mv t st).length=mv.length
 | 0=>h
 | _+1=>vI
theorem Fi {x y:List Rat} (h:x.length=y.length) (e:∀c,c < x.length->x.getD c 0=y.getD c 0):x=y:=by
 apply di h;intro c h1 h2;have:=e c h1;rwa [aa,aa,af h1,af h2] at this
theorem MJ (wm:∀xs∈mv,xs.length=mv.length) (h:st.length=mv.length) (hc:c < mv.length):(qD mv st).getD c 0=bu mv.length fun j=>bD mv c j*st.getD j 0:=by
 have e:(qD mv st).getD c 0=d5 mv[c] st:=by
  unfold qD;rw[aa,aD,af hc];rfl
 have wc:=wm _ (az hc);rw[e,cV (by lia),wc];refine aK fun j _=>?_
 unfold bD;rw[aa (l:=mv),af hc];rfl
theorem JV (D:oy mv pt lk) (h:st.length=mv.length) (hp:pu.length=pt.length) (hc:c < mv.length):(kf mv pt st pu).getD c 0=bu mv.length (fun j=>bD mv c j*st.getD j 0)+bu pt.length fun i=>pu.getD i 0*bD pt i c:=by
 have wc:=D.mw _ (az hc)
 have e:(kf mv pt st pu).getD c 0=d5 (mv[c]++pt.map fun xs=>xs.getD c 0) (st++pu):=by
  unfold kf;rw[aa,cB,af hc,Di hc];rfl
 rw[e,Kv (by lia),cV (by lia),cV (by rw[ag];lia),wc,ag];congr 1
 ·refine aK fun j _=>?_
  unfold bD;rw[aa (l:=mv),af hc];rfl
 ·refine aK fun i hi=>?_
  rw[dt];congr 1;unfold bD;rw[aa,aD,aa (l:=pt),af hi];rfl
theorem wQ:∀t,(dq mv pt t).length=t*pt.length
 | 0=>by rw[Nat.zero_mul];rfl
 | t+1=>by
  show (pt++(dq mv pt t).map (qD mv)).length=_
  rw[ai,ag,wQ t,gM,pB]
theorem Le (D:oy mv pt lk) (ls:st.length=mv.length):∀k,k<=pus.length->(∀xs∈pus,xs.length=pt.length)->∀c,c < mv.length->(EB mv pt st pus k).getD c 0=(jw mv k st).getD c 0+bu (dq mv pt k).length fun i=>((pus.take k).reverse.flatten).getD i 0*bD (dq mv pt k) i c:=by
 intro k
 induction k with
 | zero =>
  intro _ _ c _;show st.getD c 0=st.getD c 0+0
  grind
 | succ k ih =>
  intro hk hp c hc;have hk':k < pus.length:=hk;have e:=af hk';have hl:=hp _ (az hk');have ls':=Cd (pt:=pt) (pus:=pus) ls (k:=k) (by lia)
  have lf:((pus.take k).reverse.flatten).length=(dq mv pt k).length:=by
   rw[wQ,Eb (i:=pt.length) fun xs hx=>hp xs (cH (List.mem_reverse.mp hx)),md,cT,sJ (by lia)]
  rw[zA e,JV D ls' hl hc]
  have er:(pus.take (k+1)).reverse.flatten=pus[k]++(pus.take k).reverse.flatten:=by
   rw[take_snoc e,List.reverse_append];simp
  have ek:dq mv pt (k+1)=pt++(dq mv pt k).map (qD mv):=rfl;rw[er,ek,ai,ag,xD]
  have p1:(bu pt.length fun i=>(pus[k]++(pus.take k).reverse.flatten).getD i 0*bD (pt++(dq mv pt k).map (qD mv)) i c)=bu pt.length fun i=>pus[k].getD i 0*bD pt i c:=aK fun i hi=>by
   rw[yJ hi,aa,bJ (by lia),aa]
  have p2:(bu (dq mv pt k).length fun i=>(pus[k]++(pus.take k).reverse.flatten).getD (pt.length+i) 0*bD (pt++(dq mv pt k).map (qD mv)) (pt.length+i) c)=bu mv.length fun j=>bD mv c j*bu (dq mv pt k).length fun i=>((pus.take k).reverse.flatten).getD i 0*bD (dq mv pt k) i j:=by
   have q1:∀i,i < (dq mv pt k).length->(pus[k]++(pus.take k).reverse.flatten).getD (pt.length+i) 0*bD (pt++(dq mv pt k).map (qD mv)) (pt.length+i) c=bu mv.length fun j=>bD mv c j*(((pus.take k).reverse.flatten).getD i 0*bD (dq mv pt k) i j):=fun i hi=>by
    rw[pQ,JO rfl D.mw (eG rfl D.pw k) hi,aa,bc (by lia),hl,P0,<- aa,<- cn];exact aK fun j _=>by grind
   rw[aK q1,d9];exact aK fun j _=>cn
  rw[p1,p2];have p3:(jw mv (k+1) st).getD c 0=bu mv.length fun j=>bD mv c j*(jw mv k st).getD j 0:=MJ D.mw (ug ls k) hc
  rw[p3]
  have p4:(bu mv.length fun j=>bD mv c j*(EB mv pt st pus k).getD j 0)=(bu mv.length fun j=>bD mv c j*(jw mv k st).getD j 0)+bu mv.length fun j=>bD mv c j*bu (dq mv pt k).length fun i=>((pus.take k).reverse.flatten).getD i 0*bD (dq mv pt k) i j:=by
   rw[<- nO];refine aK fun j hj=>?_
   rw[ih (by lia) hp j hj];grind
  rw[p4];grind
end
section
variable {mv pt lk pus R:List (List Rat)} {st pu go w pr L:List Rat} {n t T c u k:Nat} {ps:List Nat}
theorem EA (D:oy mv pt lk) (ls:st.length=mv.length):EB mv pt st (List.replicate T (List.replicate pt.length 0)) T=jw mv T st:=by
 have l1:=Cd (pt:=pt) (pus:=List.replicate T (List.replicate pt.length 0)) ls (k:=T) (by rw[aG];exact ar _);refine Fi (by rw[l1,ug ls]) fun c hc=>?_
 rw[l1] at hc;rw[Le D ls T (by rw[aG];exact ar _) (fun xs hx=>by rw[(dw.mp hx).2,aG]) c hc,cb fun i _=>?_,uQ]
 have z:(((List.replicate T (List.replicate pt.length (0:Rat))).take T).reverse.flatten).getD i 0=0:=by
  rw[aa];cases e:(((List.replicate T (List.replicate pt.length (0:Rat))).take T).reverse.flatten)[i]? with
  | none=>rfl
  | some y =>
   have:=aw e;obtain ⟨l,hl,hy⟩:=IM.mp this;have hl:=cH (List.mem_reverse.mp hl);rw[(dw.mp hl).2] at hy;exact (dw.mp hy).2
 rw[z,Rat.zero_mul]
def oi (mv:List (List Rat)) (T:Nat) (st go:List Rat):List Rat:=List.zipWith (fun x y=>x - y) go (jw mv T st)
theorem J8 (ls:st.length=mv.length) (lg:go.length=mv.length):(oi mv T st go).length=mv.length:=by
 unfold oi;rw[bN,ug ls,lg,zi]
theorem Ni {x y:List Rat} (h:x.length=y.length) (hc:c < x.length):(List.zipWith (fun x y=>x - y) x y).getD c 0=x.getD c 0 - y.getD c 0:=by
 rw[aa,cB,aa (l:=x),aa (l:=y),af hc,af (by lia)];rfl
theorem Gh:∀u,∃Z,dq mv pt (u+1)=dq mv pt u++Z
 | 0=>⟨pt++[],rfl⟩
 | u+1=>by
  obtain ⟨Z,e⟩:=Gh u;refine ⟨Z.map (qD mv),?_⟩;show pt++(dq mv pt (u+1)).map (qD mv)=(pt++(dq mv pt u).map (qD mv))++_
  rw[e,dg,bP]
theorem D4 {u:Nat}:∀s,∃Z,dq mv pt (u+s)=dq mv pt u++Z
 | 0=>⟨[],by rw[m9];rfl⟩
 | s+1=>by
  obtain ⟨Z,e⟩:=D4 (u:=u) s;obtain ⟨Y,e'⟩:=Gh (mv:=mv) (pt:=pt) (u+s);exact ⟨Z++Y,by rw[<- Nat.add_assoc,e',e,bP]⟩
def Ow (w:List Rat) (u k:Nat):List (List Rat):=(List.range u).map fun t=>(w.drop (t*k)).take k
theorem HW {ps':List Nat} (wp:∀xs∈pt,xs.length=mv.length) (RRu:bo (dq mv pt u) mv.length R ps) (RRT:bo (dq mv pt T) mv.length R ps') (lp:pr.length=mv.length) (h:∀xs∈dq mv pt u,d5 xs pr=0):∀xs∈dq mv pt T,d5 xs pr=0:=fun xs hx=>by
 have wu:=eG (mv:=mv) rfl wp u;have wT:=eG (mv:=mv) rfl wp T;obtain ⟨i,hi,rfl⟩:=be hx;have s1:dJ (dq mv pt u).length (bD (dq mv pt u)) (bD (dq mv pt T) i):=dJ.trans (fun t ht=>RRu.2.2.back t (by rw[<- RRu.1,RRT.1];exact ht)) (RRT.2.2.span i hi);obtain ⟨v,hv⟩:=s1
 have fn:∀{X:List (List Rat)} {i:Nat} (h:i < X.length) (c:Nat),X[i].getD c 0=bD X i c:=fun {X i} h c=>by
  unfold bD;rw[aa (l:=X),af h];rfl
 have w1:=wT _ (az hi);rw[cV (by lia),w1]
 have e1:(bu mv.length fun c=>(dq mv pt T)[i].getD c 0*pr.getD c 0)=bu (dq mv pt u).length fun t=>v t*bu mv.length fun c=>bD (dq mv pt u) t c*pr.getD c 0:=by
  have q:∀c,c < mv.length->(dq mv pt T)[i].getD c 0*pr.getD c 0=bu (dq mv pt u).length fun t=>v t*(bD (dq mv pt u) t c*pr.getD c 0):=fun c _=>by
   rw[fn hi c,hv c,dt,<- cn];exact aK fun t _=>by grind
  rw[aK q,d9];exact aK fun t _=>cn
 rw[e1];refine cb fun t ht=>?_
 have w2:=wu _ (az ht);have:=h _ (az ht);rw[cV (by lia),w2] at this
 have q:(bu mv.length fun c=>bD (dq mv pt u) t c*pr.getD c 0)=0:=by
  refine Eq.trans ?_ this;exact aK fun c _=>by rw[fn ht c]
 rw[q,iW]
end
def AX (l:Addr):Hp:=fun q=>if q=l then some (.lst []) else none
theorem off_ne {l:Addr}:AX l l≠none:=by unfold AX;rw[if_pos rfl];exact fun z=>nomatch z
theorem JR {l q:Addr} (h:q≠l):AX l q=none:=by unfold AX;rw[if_neg h]
def IL (K:PySem.W.Frag) (l:Addr) (H:Hp) (R:List (List Rat)) (v:V):Prop:=∃q,v=V.ref q/\q≠l/\bB K (AX l) H q R
section
variable {K:PySem.W.Frag} {H0 H H':Hp} {l p q:Addr} {R:List (List Rat)} {v:V} {mv pt:List (List Rat)} {u T:Nat}
theorem bB.off (h:bB K H0 H p R) (hl:H l=none):p≠l/\bB K (AX l) H p R:=by
 obtain ⟨xs,g,r,n⟩:=h;refine ⟨fun z=>(by rw[z,hl] at g;cases g),xs,g,Paired.imp' (fun _ _ ⟨q,a,b,c⟩=>⟨q,a,JR fun z=>?_,c⟩) r,n⟩;obtain ⟨_,gg,_⟩:=c;rw[z,hl] at gg;cases gg
theorem IL.same (h:IL K l H R v) (s:aE H H'):IL K l H' R v:=by obtain ⟨q,a,b,c⟩:=h;exact ⟨q,a,b,c.same s⟩
theorem IL.upd {ys zs:List V} (h:IL K l H R v) (g:H l=some (.lst ys)):IL K l (upd H l (.lst zs)) R v:=by obtain ⟨q,a,b,c⟩:=h;exact ⟨q,a,b,c.updL g off_ne b⟩
def IG (mv pt:List (List Rat)) (u:Nat):List (List (List Rat)):=(List.range u).map fun s=>pt.map (jw mv s)
theorem C3:IG mv pt (u+1)=IG mv pt u++[pt.map (jw mv u)]:=by unfold IG;rw[AF,dg];rfl
theorem uD:∀u,(IG mv pt u).flatten=dq mv pt u
 | 0=>rfl
 | u+1=>by
  have e:IG mv pt (u+1)=pt :: (IG mv pt u).map (List.map (qD mv)):=by
   unfold IG;rw[List.range_succ_eq_map,fv,pC];congr 1
   ·exact sG pt
   ·rw[pC];refine De fun s _=>?_
    show pt.map (jw mv (s+1))=(pt.map (jw mv s)).map (qD mv)
    rw[pC];rfl
  rw[e,gN,<- List.map_flatten,uD u];rfl
theorem KN {s:Nat} {xs:List Rat} (h:xs∈pt.map (jw mv s)):xs∈dq mv pt (s+1):=by
 rw[<- uD,C3,t7];exact bQ _ (by simpa using h)
theorem ot.fitP {a c s:Nat} (F:ot mv pt a c) (wm:∀xs∈mv,xs.length=mv.length) (wp:∀xs∈pt,xs.length=mv.length) (hs:s+1<=mv.length):∀xs∈mv,∀r∈pt.map (jw mv s),FA xs r:=fun xs hx r hr=>by
 obtain ⟨M,V,M0,Ma,hV,fm,fp,a3,c3,e14,_⟩:=F;have f:=xS rfl wm wp hV fm fp (s+1) r (KN hr);have V1:V<=2^c:=ah (fh _ (by lia)) hV;have e1:(s+1)*(a+c)<=mv.length*(a+c):=aJ _ hs;have e2:mv.length*(a+c)+4<=mv.length*(mv.length*(a+c)+4):=fh _ (by lia);have e3:(s+1)*(a+c)=a*(s+1)+c*(s+1):=by rw[Nat.mul_add,cG,cG c]
 refine ⟨a,c,a*(s+1),c*(s+1),⟨M,V,M0,Ma,V1,fm xs hx⟩,⟨M^(s+1),2^(c*(s+1)),Nat.pow_pos M0,?_,ar _,f⟩,by lia⟩;exact ah (tZ Ma _) (by rw[<- BX];exact ar _)
end
def Jv (K:PySem.W.Frag) (C:Addr):Sp:=fun vs H Q _=>∃(x:Addr) (u a c:Nat) (H0:Hp) (mv pt lk:List (List Rat)),vs=[.ref x,.int u]/\u<=mv.length/\mh K H0 H C x mv pt lk/\oy mv pt lk/\ot mv pt a c /\
 ∀r us H',H r=none->aE H H'->H' r=some (.lst us)->Paired (IL K r H') (IG mv pt u) us->Q (.ref r) H'
def Js (K:PySem.W.Frag):Sp:=fun vs H Q _=>∃(p:Addr) (xs:List V) (Rs:List (List (List Rat))),vs=[.ref p]/\H p=some (.lst xs)/\Paired (IL K p H) Rs xs/\Rs.flatten.length<=1000 /\
 ∀r H0 H',H r=none->aE H H'->bB K H0 H' r Rs.flatten->Q (.ref r) H'
def Lk (K:PySem.W.Frag):Sp:=fun vs H Q _=>∃(p:Addr) (u k:Nat) (w:List Rat),vs=[.ref p,.int u,.int k]/\cK K H p w/\w.length=u*k/\u*k<=1000/\u<=1000/\k<=1000 /\
 ∀r H',H r=none->aE H H'->bB K H H' r (Ow w u k)->Q (.ref r) H'
def Jl (K:PySem.W.Frag) (C:Addr):Sp:=fun vs H Q _=>∃(x:Addr) (T:Nat) (H0:Hp) (mv pt lk:List (List Rat)),vs=[.ref x,.int T]/\T<=100/\mh K H0 H C x mv pt lk/\oy mv pt lk /\
 ∀r H',H r=none->aE H H'->bB K H H' r (List.replicate T (List.replicate pt.length 0))->Q (.ref r) H'
def Jq (K:PySem.W.Frag) (C:Addr):Sp:=fun vs H Q _=>∃(x s g:Addr) (T:Nat) (H0:Hp) (mv pt lk:List (List Rat)) (st go:List Rat),vs=[.ref x,.ref s,.ref g,.int T]/\T<=99/\mh K H0 H C x mv pt lk/\oy mv pt lk/\Mt mv pt lk/\cK K H s st/\st.length=mv.length/\cK K H g go/\go.length=mv.length/\Eo mv pt st (List.replicate T (List.replicate pt.length 0))/\(∀x∈go,qE x) /\
 ∀r H',H r=none->aE H H'->cK K H' r (oi mv T st go)->Q (.ref r) H'
structure Qf (mv pt:List (List Rat)) (L:List Rat) (D W0 E W1:Nat):Prop where
 d0:0 < D
 e0:0 < E
 w0:1<=W0
 w1:1<=W1
 tk:∀u,u<=mv.length->∀xs∈dq mv pt u,∀x∈xs,Tp D W0 x
 tl:∀x∈L,Tp E W1 x
 de:D*E<=2^4300
 sw:∃w,W0*E+W1*D+D*E<=2^w/\w<=4300/\(mv.length+1)*(w+4)<=8900
theorem Qf.join {mv pt:List (List Rat)} {L:List Rat} {D W0 E W1:Nat} (F:Qf mv pt L D W0 E W1) {rows:List (List Rat)} {due:List Rat} {n':Nat} (hd:due.length=rows.length) (h1:∀xs∈rows,∀x∈xs,Tp (D*E) (W0*E+W1*D+D*E) x) (h2:∀x∈due,Tp (D*E) (W0*E+W1*D+D*E) x) (n8:mv.length<=8) (hm:min rows.length n'<=mv.length+1):∃w,BV (dW rows due) n' w:=by
 obtain ⟨w,b1,b2,b3⟩:=F.sw;have:=iM F.d0 F.e0;refine ⟨w,D*E,W0*E+W1*D+D*E,iM F.d0 F.e0,F.de,by lia,b1,fun xs hx x hx'=>?_,b2,by rw[Aj hd];lia,by rw[Aj hd];exact ah (aJ _ hm) b3⟩;unfold dW at hx;obtain ⟨i,hi,rfl⟩:=be hx;rw[jY] at hx';rcases ax.mp hx' with z | z
 ·exact h1 _ (az _) x z
 ·rw[dv.mp z];exact h2 _ (az _)
theorem Tp.up {M W x:Nat} {q:Rat} (h:Tp M W q) (k:Nat) (hx:W*k<=x):Tp (M*k) x q:=by
 obtain ⟨z,e,b⟩:=h;exact ⟨z*k,by rw[sI,aP,<- e,bx];grind,by rw[fB,cY];exact ah (aJ _ b) hx⟩
section
variable {mv pt lk rows R N Hd:List (List Rat)} {st pr go:List Rat} {n r t T a c W B:Nat} {ps psd:List Nat} {Pm Y Z:Nat->Nat->Rat} {d:Rat}
theorem Vb.tp (V:Vb r n Pm Y Z d W) (r15:r<=15) (w1:1<=W):∃q:Nat,0 < q/\q<=(16*W)^r/\∀s,s < r->∀c,c < n->Tp q ((16*W)^r) (Y s c):=by
 have rlt:∀i∈yi (fun i=>i) r,i < r:=fun i hi=>by
  obtain ⟨t,ht,e⟩:=qL hi;have e:i=t:=e
  lia
 obtain ⟨q,eq,bq⟩:=Kt (N:=16) (Wx:=W) (rs:=yi (fun i=>i) r) (vs:=su (fun j i=>Pm i j) r) (by rw[cw_len];lia) fun w hw i hi=>by
  obtain ⟨s,hs,rfl⟩:=cw_in hw;exact V.pf i (rlt i hi) s hs
 rw[vE] at bq;rw[<- V.det] at eq;have q0:q≠0:=fun z=>V.d0 (by rw[eq,z];rfl)
 refine ⟨q.natAbs,by lia,bq,fun s hs c hc=>?_⟩
 have cr:=BF (rs:=yi (fun i=>i) r) (v:=fun j i=>Pm i j) (c:=fun j=>Y j c) (W:=fun i=>Z i c) hs (fun i hi=>by
  rw[V.eq i (rlt i hi) c hc];exact aK fun j _=>dt _ _)
 obtain ⟨z,ez,bz⟩:=Kt (N:=16) (Wx:=W) (rs:=yi (fun i=>i) r) (vs:=KA (fun j i=>Pm i j) s r++(fun i=>Z i c) :: su (fun j i=>Pm i j) s) (by
  have:=congrArg List.length (cw_split (v:=fun j i=>Pm i j) hs);rw[ai,bg,cw_len] at this;rw[ai,bg]
  lia) fun w hw i hi=>by
   rcases ax.mp hw with hw | hw
   ·obtain ⟨s',hs',rfl⟩:=GC hw;exact V.pf i (rlt i hi) s' hs'
   ·rcases aI.mp hw with rfl | hw
    ·exact V.zf i (rlt i hi) c hc
    ·obtain ⟨s',hs',rfl⟩:=cw_in hw;exact V.pf i (rlt i hi) s' (by lia)
 rw[vE] at bz;rw[ez,<- V.det,eq] at cr;have key:Y s c*(q:Rat)=(z:Rat):=cr.symm;rcases OQ q with h | h
 ·have hq:((q.natAbs:Nat):Rat)=(q:Rat):=by rw[<- bx,<- h]
  exact ⟨z,by rw[hq,key],bz⟩
 ·have hq:((q.natAbs:Nat):Rat)=-(q:Rat):=by rw[<- bx,<- cP];congr 1;lia
  exact ⟨-z,by rw[hq,cP,<- key];grind,by rw[pE];exact bz⟩
theorem CL (F:ot mv pt a c) (D8:mv.length<=8) (wm:∀xs∈mv,xs.length=mv.length) (wp:∀xs∈pt,xs.length=mv.length):∀T,∃R ps,Gd mv pt T R ps:=by
 intro T
 induction T with
 | zero=>exact ⟨_,_,Gd.start⟩
 | succ T ih =>
  obtain ⟨R,ps,G⟩:=ih;obtain ⟨RR,t,t1,t2,RRt,hs⟩:=id G;have le:=RR.le
  obtain ⟨R',ps',d,ls,S⟩:=Bi (n:=mv.length) (rows:=pt++R.map (qD mv)) (fun xs hx=>by
   rcases ax.mp hx with hx | hx
   ·exact wp xs hx
   ·obtain ⟨y,_,rfl⟩:=aB.mp hx;exact vI) (F.step D8 wm wp (t:=t) (by lia) RRt)
  have RR':=wO rfl wm wp RR S.rr;exact ⟨R',ps',(G.step wm wp RR').1⟩
theorem PH (F:ot mv pt a c) (D8:mv.length<=8) (wm:∀xs∈mv,xs.length=mv.length) (wp:∀xs∈pt,xs.length=mv.length) (RR:bo (dq mv pt T) mv.length R ps):Gd mv pt T R ps:=by
 obtain ⟨R',ps',G⟩:=CL F D8 wm wp T;obtain ⟨rfl,rfl⟩:=RR.same G.1;exact G
theorem ot.rtp (F:ot mv pt a c) (D8:mv.length<=8) (wm:∀xs∈mv,xs.length=mv.length) (wp:∀xs∈pt,xs.length=mv.length) (RR:bo (dq mv pt T) mv.length R ps):∃q,0 < q/\q<=2^(ps.length*((mv.length - 1)*(a+c)+4))/\∀xs∈R,∀x∈xs,Tp q (2^(ps.length*((mv.length - 1)*(a+c)+4))) x:=by
 obtain ⟨_,t,t1,_,RRt,_⟩:=PH F D8 wm wp RR;obtain ⟨Pm,Z,d,w,vb,hw⟩:=F.vb wm wp t1 RRt;have le:=RR.le;obtain ⟨q,q0,q1,q2⟩:=vb.tp (by lia) cg
 have up:(16*2^w)^ps.length<=2^(ps.length*((mv.length - 1)*(a+c)+4)):=by
  have e:(16*2^w)^ps.length=2^(ps.length*(w+4)):=by rw[show (16:Nat)=2^4 from rfl,<- cF,<- BX,cG ps.length,pB w]
  rw[e];refine ak (by decide) (dR _ ?_);rcases hw with ⟨_,rfl⟩ | ⟨_,rfl⟩ <;> lia
 refine ⟨q,q0,ah q1 up,Gv fun i hi e=>?_⟩;by_cases he:e < mv.length
 ·exact (q2 i (by rw[<- RR.1];exact hi) e he).mono up
 ·rw[CO RR.2.1 (by lia)];exact Tp.zero
theorem HR {M:Nat} (hw:∀xs∈N,xs.length=n) (hW:1<=W) (h0:0 < M) (h3:∀xs∈N,∀x∈xs,Tp M W x) (f:Nat->Nat) (hf:∀i,i < N.length->bD N i (f i)≠0/\∀j,j < N.length->j≠i->bD N j (f i)=0) (hn:∀i,i < N.length->f i < n) (RR:bo N n Hd psd):psd.length=N.length:=by
 have ent:=IW h0 h3;obtain ⟨ls,ps2,d,I⟩:=xC hw hW (by rw[ag];exact ent) n (ar _);obtain ⟨_,_,⟨pm,B⟩,E⟩:=I;rw[ag] at B E
 have RF:BW N.length n (bD N) ps2.length (fun j=>ps2.getD j 0) (fun i c=>d4 ls i c / d):=BW.other (E.done fun i hi c hc=>vR (n:=n) (fun zs hz=>by
  obtain ⟨xs,hx,rfl⟩:=aB.mp hz;rw[pW];exact hw xs hx) hc) yL yM
 obtain ⟨e1,_,_⟩:=RF.uniq RR.2.2 (fun _ hi=>dJ.row hi) (fun _ hi=>dJ.row hi);rw[<- e1];have km:=B.km;rcases bX ps2.length N.length with z | z
 ·exfalso
  have hk:=B.rng ps2.length z;obtain ⟨f1,f2⟩:=hf _ hk
  have low:∀i,i < ps2.length->d4 (N.map jv) (pm i) (f (pm ps2.length))=0:=fun i hi=>by
   rw[zu (B.rng i (by lia)),f2 _ (B.rng i (by lia)) (fun e=>by have:=B.inj i ps2.length (by lia) z e;lia),iW]
  have lz:∀j,j < ps2.length->d4 ls j (f (pm ps2.length))=0:=fun j hj=>by
   rw[B.old hj]
   exact CQ (fun r hr=>by
    obtain ⟨t,ht,rfl⟩:=qL hr;exact low t ht) _ _
  have:=B.eqs ps2.length z (f (pm ps2.length));rw[if_neg (dM _),E.zero ps2.length (ar _) z _ (hn _ hk),cb fun j hj=>by rw[lz j hj,iW],zu hk] at this;have bne:=xc (rows:=N) (i:=pm ps2.length);have d0:=B.d0;rcases KY.mp (this.trans (by grind)) with q | q
  ·exact d0 q
  ·rcases KY.mp q with q | q
   ·exact bne q
   ·exact f1 q
 ·lia
theorem Om (h1:∀i j,i < j->j < ps.length->ps.getD i 0 < ps.getD j 0) (h2:∀j,j < ps.length->ps.getD j 0 < n):(oE ps n).length+ps.length=n:=by
 have key:∀i,∃k,k<=ps.length/\(oE ps i).length+k=i/\(∀j,j < k->ps.getD j 0 < i)/\∀j,k<=j->j < ps.length->i<=ps.getD j 0:=by
  intro i
  induction i with
  | zero=>exact ⟨0,aX _,rfl,fun j hj=>absurd hj (du _),fun j _ _=>aX _⟩
  | succ i ih =>
   obtain ⟨k,k1,k2,k3,k4⟩:=ih;rw[Am];by_cases hk:k < ps.length/\ps.getD k 0=i
   ·have hm:i∈ps:=by rw[<- hk.2];exact getD_in hk.1
    rw[if_neg (fun z=>z hm)];refine ⟨k+1,hk.1,by lia,fun j hj=>?_,fun j hj hl=>?_⟩
    ·rcases bX j k with z | z
     ·have:=k3 j z;lia
     ·rw[show j=k by lia,hk.2];lia
    ·have:=h1 k j (by lia) hl
     lia
   ·have hm:i∉ps:=fun z=>by
     obtain ⟨j,hj,ej⟩:=be z;have ej':ps.getD j 0=i:=by rw[aa,af hj];exact ej
     rcases bX j k with y | y
     ·have:=k3 j y;lia
     ·rcases bX k j with x | x
      ·have:=h1 k j x hj;have:=k4 k (ar _) (by lia)
       lia
      ·exact hk ⟨by lia,by rw[show k=j by lia];exact ej'⟩
    rw[if_pos hm];refine ⟨k,k1,by rw[ai,aU];lia,fun j hj=>by have:=k3 j hj;lia,fun j hj hl=>?_⟩;have:=k4 j hj hl;rcases bX i (ps.getD j 0) with y | y
    ·exact y
    ·exact absurd (by rw[show i=ps.getD j 0 by lia];exact getD_in hl) hm
 obtain ⟨k,k1,k2,k3,k4⟩:=key n;rcases bX k ps.length with z | z
 ·have:=k4 k (ar _) z;have:=h2 k z
  lia
 ·lia
theorem yU:∀xs∈bS R ps n,xs.length=n:=fun xs hx=>by
 obtain ⟨_,_,_,rfl⟩:=ui hx;exact qR
theorem xP (RR:bo rows n R ps):(bS R ps n).length+ps.length=n:=by
 unfold bS;rw[ag];exact Om RR.2.2.inc RR.2.2.low
theorem E8 {M:Nat} (RR:bo rows n R ps) (hW:1<=W) (h0:0 < M) (h3:∀xs∈bS R ps n,∀x∈xs,Tp M W x) (RN:bo (bS R ps n) n Hd psd):psd.length+ps.length=n:=by
 have fn:∀i,i < (bS R ps n).length->∀c,c < n->c∉ps->bD (bS R ps n) i c=if c=(oE ps n).getD i 0 then 1 else 0:=fun i hi c hc hp=>by
  unfold bS at hi ⊢;rw[ag] at hi;unfold bD;rw[aa (l:=List.map _ _),aD,af hi];show (Ih R ps n (oE ps n)[i]).getD c 0=_
  rw[CC hc hp,aa,af hi];rfl
 have fm:∀i,i < (bS R ps n).length->(oE ps n).getD i 0 < n/\(oE ps n).getD i 0∉ps:=fun i hi=>by
  unfold bS at hi;rw[ag] at hi;exact wU.mp (getD_in hi)
 have nd:(oE ps n).Nodup:=by
  unfold oE;exact List.Nodup.sublist List.filter_sublist List.nodup_range
 rw[HR yU hW h0 h3 (fun i=>(oE ps n).getD i 0) (fun i hi=>⟨?_,fun j hj ne=>?_⟩) (fun i hi=>(fm i hi).1) RN,xP RR]
 ·rw[fn i hi _ (fm i hi).1 (fm i hi).2,if_pos rfl];decide
 ·rw[fn j hj _ (fm i hi).1 (fm i hi).2,if_neg fun z=>ne ?_];unfold bS at hi hj;rw[ag] at hi hj;rw[aa,aa,af hi,af hj] at z;have z:(oE ps n)[i]=(oE ps n)[j]:=z;have pw:=OG.mp nd;rcases dn i j with y | y | y
  ·exact absurd z (pw i j hi hj y)
  ·exact y.symm
  ·exact absurd z.symm (pw j i hj hi y)
theorem Ex (RR:bo rows n R ps) (RN:bo (bS R ps n) n Hd psd):∀h∈Hd,∀r∈R,d5 h r=0:=fun h hh r hr=>by
 obtain ⟨i,hi,rfl⟩:=be hh;have wr:=RR.2.1 r hr;have wh:=RN.2.1 _ (az hi);obtain ⟨v,hv⟩:=RN.2.2.back i (by rw[<- RN.1];exact hi);rw[cV (by lia),wh]
 have fnh:∀c,Hd[i].getD c 0=bD Hd i c:=fun c=>by
  unfold bD;rw[aa (l:=Hd),af hi];rfl
 have e1:(bu n fun c=>Hd[i].getD c 0*r.getD c 0)=bu (bS R ps n).length fun t=>v t*bu n fun c=>bD (bS R ps n) t c*r.getD c 0:=by
  have q:∀c,c < n->Hd[i].getD c 0*r.getD c 0=bu (bS R ps n).length fun t=>v t*(bD (bS R ps n) t c*r.getD c 0):=fun c _=>by
   rw[fnh c,hv c,dt,<- cn];exact aK fun t _=>by grind
  rw[aK q,d9];exact aK fun t _=>cn
 rw[e1];refine cb fun t ht=>?_
 have mt:=az ht;obtain ⟨at_,ha,hp,en⟩:=ui mt;obtain ⟨j,hj,rfl⟩:=be hr;have dz:=JT (yR RR) ha hp (af hj) wr;rw[<- en] at dz;have wn:(bS R ps n)[t].length=n:=yU _ mt;rw[cV (by lia),wr] at dz
 have q:(bu n fun c=>bD (bS R ps n) t c*R[j].getD c 0)=0:=by
  refine Eq.trans (aK fun c _=>?_) dz
  have:bD (bS R ps n) t c=(bS R ps n)[t].getD c 0:=by
   unfold bD;rw[aa (l:=bS R ps n),af ht];rfl
  rw[this];exact dt _ _
 rw[q,iW]
end
structure yK (mv pt lk:List (List Rat)):Prop where
 D:oy mv pt lk
 n5:mv.length<=5
 gm:GF 2520 6561 mv
 gp:GF 2520 6561 pt
 gl:GF 2520 6561 lk
section
variable {mv pt lk R Hd:List (List Rat)} {st pr go:List Rat} {n T:Nat} {ps psd:List Nat}
theorem yK.turn (h:yK mv pt lk):yK (bO mv mv.length) lk pt:=⟨h.D.turn,by rw[ck];exact h.n5,K8 h.gm,h.gl,h.gp⟩
theorem yK.kfit (h:yK mv pt lk):ot mv pt 12 16:=Md (n0:=5) (by decide) (by decide) h.n5 (by decide) h.gm h.gp (by decide)
theorem yK.sfc (h:yK mv pt lk):Mt mv pt lk:=⟨2520,6561,by decide,ah (show 2520<=2^12 by decide) (ak (by decide) (by decide)),ah (show 6561<=2^13 by decide) (ak (by decide) (by decide)),h.gm,h.gp,h.gl⟩
theorem yK.rtp (h:yK mv pt lk) (RR:bo (dq mv pt T) mv.length R ps):∃q,0 < q/\q<=2^(ps.length*116)/\∀xs∈R,∀x∈xs,Tp q (2^(ps.length*116)) x:=by
 obtain ⟨q,q0,q1,q2⟩:=h.kfit.rtp h.D.n8 h.D.mw h.D.pw RR;have n5:=h.n5;have up:2^(ps.length*((mv.length - 1)*(12+16)+4))<=2^(ps.length*116):=ak (by decide) (dR _ (by lia));exact ⟨q,q0,ah q1 up,fun xs hx x hx'=>(q2 xs hx x hx').mono up⟩
theorem yK.swR (h:yK mv pt lk) (RR:bo (dq mv pt T) mv.length R ps):BV R mv.length 580/\min R.length mv.length*(580+4)<=3990:=by
 obtain ⟨q,q0,q1,q2⟩:=h.rtp RR;have n5:=h.n5;have le:=RR.le;have up:2^(ps.length*116)<=2^580:=ak (by decide) (by lia);have m5:min R.length mv.length*(580+4)<=5*(580+4):=aJ _ (by lia);exact ⟨⟨q,2^580,q0,ah q1 (ah up (ak (by decide) (by decide))),cg,ar _,fun xs hx x hx'=>(q2 xs hx x hx').mono up,by decide,by lia,by lia⟩,by lia⟩
theorem yK.swN (h:yK mv pt lk) (RR:bo (dq mv pt T) mv.length R ps):BV (bS R ps mv.length) mv.length (ps.length*116)/\min (bS R ps mv.length).length mv.length*(ps.length*116+4)<=720/\∃q,0 < q/\∀xs∈bS R ps mv.length,∀x∈xs,Tp q (2^(ps.length*116)) x:=by
 obtain ⟨q,q0,q1,q2⟩:=h.rtp RR;have n5:=h.n5;have le:=RR.le;have cnt:=xP RR
 have tn:∀xs∈bS R ps mv.length,∀x∈xs,Tp q (2^(ps.length*116)) x:=fun xs hx x hx'=>by
  obtain ⟨a,_,_,rfl⟩:=ui hx;exact MK q0 q1 q2 RR x hx'
 have b:min (bS R ps mv.length).length mv.length*(ps.length*116+4)<=720:=by
  have e:min (bS R ps mv.length).length mv.length<=5 - ps.length:=by lia
  refine ah (aJ _ e) ?_;rcases (show ps.length=0\/ps.length=1\/ps.length=2\/ps.length=3\/ps.length=4\/ps.length=5 by lia) with z | z | z | z | z | z <;> rw[z] <;> decide
 exact ⟨⟨q,2^(ps.length*116),q0,ah q1 (ak (by decide) (by lia)),cg,ar _,tn,by lia,by lia,by lia⟩,b,q,q0,tn⟩
end
def EC (K:PySem.W.Frag) (C:Addr):Sp:=fun vs H Q _=>∃(x:Addr) (T:Nat) (H0:Hp) (mv pt lk:List (List Rat)),vs=[.ref x,.int T]/\T<=99/\mh K H0 H C x mv pt lk/\yK mv pt lk /\
 ∀r R ps Hd psd M H',H r=none->aE H H'->bB K H H' r Hd->bo (dq (bO mv mv.length) lk T) mv.length R ps->bo (bS R ps mv.length) mv.length Hd psd->psd.length+ps.length=mv.length->0 < M->M<=2^720->(∀xs∈Hd,∀x∈xs,Tp M (2^720) x)->Q (.ref r) H'
structure Ask (mv pt:List (List Rat)) (T:Nat) (go:List Rat):Prop where
 lg:go.length=mv.length
 fr:∀x∈go,Fr (2520^5) (2^100) x
theorem xN {mv:List (List Rat)} (wm:∀xs∈mv,xs.length=mv.length):∀t,jw mv t (List.replicate mv.length 0)=List.replicate mv.length 0
 | 0=>rfl
 | t+1=>by
  show qD mv (jw mv t _)=_
  rw[xN wm t];refine Fi (by rw[vI,aG]) fun c hc=>?_
  rw[vI] at hc;rw[MJ wm (by rw[aG]) hc,cb fun j _=>?_]
  ·rw[aa,dD,if_pos hc];rfl
  ·rw[aa,dD]
   split <;> exact iW _
section
variable {mv pt lk pus:List (List Rat)} {pr go:List Rat} {T:Nat}
theorem MP (wm:∀xs∈mv,xs.length=mv.length) (lg:go.length=mv.length):oi mv T (List.replicate mv.length 0) go=go:=by
 unfold oi;rw[xN wm];refine Fi (by rw[bN,aG,lg,zi]) fun c hc=>?_
 rw[bN,aG,lg,zi] at hc;rw[Ni (by rw[aG,lg]) (by lia)];have:(List.replicate mv.length (0:Rat)).getD c 0=0:=by rw[aa,dD];split <;> rfl
 rw[this];grind
theorem cf0 (D:oy mv pt lk):Eo mv pt (List.replicate mv.length 0) (List.replicate T (List.replicate pt.length 0)):=fun k hk=>by
 rw[aG] at hk
 have e:EB mv pt (List.replicate mv.length 0) (List.replicate T (List.replicate pt.length 0)) k=List.replicate mv.length 0:=by
  have:=EA (T:=k) D (st:=List.replicate mv.length 0) (by rw[aG]);rw[xN D.mw] at this;refine Eq.trans ?_ this;unfold EB;rw[List.take_replicate,List.take_replicate,sJ hk,zi]
 refine ⟨1,1,by decide,cg,cg,fun x hx=>?_,fun xs hx x hx'=>?_⟩
 ·rw[e] at hx;rw[(dw.mp hx).2];exact Fr.zero
 ·rw[(dw.mp hx).2] at hx';rw[(dw.mp hx').2];exact Fr.zero
theorem yK.cof (h:yK mv pt lk) (A:Ask mv pt T go):Qf mv pt (oi mv T (List.replicate mv.length 0) go) (2520^5) (2^140) (2520^5) (2^160):=by
 have n5:=h.n5;have p5:2520^5<=2^60:=by decide
 refine ⟨by decide,by decide,by decide,by decide,fun u hu xs hx x hx'=>?_,fun x hx=>?_,?_,240,by decide,by decide,by lia⟩
 ·have f:=xS (c:=16) rfl h.D.mw h.D.pw (ah (aJ 6561 (show mv.length+1<=6 by lia)) (by decide)) h.gm h.gp u xs hx x hx';have f2:Fr (2520^5) (2^(16*5)) x:=Fr.up f (AE _ (by lia)) (ak (by decide) (by lia));exact Tp.of f2 (by decide)
 ·rw[MP h.D.mw A.lg] at hx;exact Tp.of (A.fr x hx) (by decide)
 ·exact ah (show 2520^5*2520^5<=2^120 by decide) (ak (by decide) (by decide))
theorem Ask.szn (A:Ask mv pt T go):∀x∈go,qE x:=fun x hx=>pF (Tp.of (A.fr x hx) (ar _)) (by decide) (ah (show 2520^5<=2^60 by decide) (ak (by decide) (by decide))) (ah (show 2^100*2520^5<=2^160 by decide) (ak (by decide) (by decide)))
end
def Jn (K:PySem.W.Frag):Sp:=fun vs H Q _=>∃(r:Addr) (T:Nat) (H0:Hp) (mv pt lk:List (List Rat)),vs=[.ref r,.int T]/\T<=3/\pR K H0 H r mv pt lk/\yK mv pt lk /\
 ∀q H',H q=none->aE H H'->bB K H H' q (dq (bO mv mv.length) lk T)->Q (.ref q) H'
structure Er (K:PySem.W.Frag) (H:Hp) (q:Addr) (n k:Nat) (as:List Rat):Prop where
 row:cK K H q as
 len:as.length=n
 fr:∀x∈as,Fr (2520^5) (k*2^80) x
section
variable {K:PySem.W.Frag} {H H':Hp} {q b:Addr} {n k:Nat} {as:List Rat}
theorem Er.same (h:Er K H q n k as) (s:aE H H'):Er K H' q n k as:=⟨h.row.same s,h.len,h.fr⟩
theorem Er.szn (h:Er K H q n k as) (hk:k<=100):∀x∈as,qE x:=fun x hx=>by
 have b:k*2^80<=2^87:=ah (aJ _ hk) (by decide);exact pF (Tp.of ((h.fr x hx).mono b) (ar _)) (by decide) (ah (show 2520^5<=2^60 by decide) (ak (by decide) (by decide))) (ah (show 2^87*2520^5<=2^150 by decide) (ak (by decide) (by decide)))
theorem Er.ask {mv pt:List (List Rat)} {T:Nat} (h:Er K H q mv.length k as) (hk:k<=100):Ask mv pt T as:=⟨h.len,fun x hx=>(h.fr x hx).mono (ah (aJ _ hk) (by decide))⟩
theorem Ms (r:cK K H q as) (l:as.length=n) (h:∀x∈as,Dr 6 x):Er K H q n 1 as:=⟨r,l,fun x hx=>(Ao ⟨ah (h x hx).1 (by decide),ah (h x hx).2 (by decide)⟩ (OO (show 2520∣2520^1 from zj _) (AE 2520 (by decide)))).mono (by decide)⟩
theorem Mc {mv pt lk:List (List Rat)} {T:Nat} (h:yK mv pt lk) (hT:T<=3):∀xs∈dq (bO mv mv.length) lk T,xs.length=mv.length/\(∀x∈xs,Fr (2520^4) (2^64) x)/\∀x∈xs,qE x:=fun xs hx=>by
 have SMt:=h.turn;have et:(bO mv mv.length).length=mv.length:=ck;have n5:=h.n5
 have f:∀x∈xs,Fr (2520^4) (2^64) x:=fun x hx'=>by
  have f:=xS (c:=16) rfl SMt.D.mw SMt.D.pw (ah (aJ 6561 (show (bO mv mv.length).length+1<=6 by lia)) (by decide)) SMt.gm SMt.gp T xs hx x hx';exact Fr.up f (AE _ (by lia)) (ak (by decide) (by lia))
 refine ⟨by have:=eG (mv:=bO mv mv.length) rfl SMt.D.pw T xs hx;rw[this,et],f,fun x hx'=>?_⟩;exact pF (Tp.of (f x hx') (ar _)) (by decide) (ah (show 2520^4<=2^60 by decide) (ak (by decide) (by decide))) (ah (show 2^64*2520^4<=2^150 by decide) (ak (by decide) (by decide)))
theorem Oz {c:Rat} {ys:List Rat} {H2:Hp} {q2:Addr} (h:Er K H q n k as) (hc:Dr 6 c) (ly:ys.length=n) (hy:∀y∈ys,Fr (2520^4) (2^64) y) (r:cK K H2 q2 (List.zipWith (fun x y=>x+y) as (ys.map fun y=>c*y))):Er K H2 q2 n (k+1) (List.zipWith (fun x y=>x+y) as (ys.map fun y=>c*y)):=by
 refine ⟨r,by rw[bN,ag,h.len,ly,zi],fun x hx=>?_⟩;obtain ⟨i,hi,rfl⟩:=be hx;rw[jY,eC];have f1:=h.fr _ (az (l:=as) (n:=i) (by rw[bN] at hi;lia));have fc:Fr 2520 9 c:=Ao ⟨ah hc.1 (by decide),ah hc.2 (by decide)⟩ (zj _);have f2:=fc.mul (hy _ (az (l:=ys) (n:=i) (by rw[bN,ag] at hi;lia)));have f2':Fr (2520^5) (2^80) (c*ys[i]'(by rw[bN,ag] at hi;lia)):=Fr.up f2 (by decide) (by decide);exact (f1.add f2').mono (by rw[gM];exact ar _)
end
def OJ (mv pt:List (List Rat)) (T:Nat) (L:List Rat):Prop:=∃(u:Nat) (ws:List Rat),u<=T/\ws.length=(dq mv pt u).length/\Nl (dq mv pt u) ws mv.length=L
def Ju (K:PySem.W.Frag) (C:Addr):Sp:=fun vs H Q _=>∃(x s g:Addr) (T a c D W0 E W1:Nat) (H0:Hp) (mv pt lk:List (List Rat)) (st go:List Rat),vs=[.ref x,.ref s,.ref g,.int T]/\T<=99/\mh K H0 H C x mv pt lk/\oy mv pt lk/\Mt mv pt lk/\ot mv pt a c/\cK K H s st/\st.length=mv.length/\cK K H g go/\go.length=mv.length/\Eo mv pt st (List.replicate T (List.replicate pt.length 0))/\(∀x∈go,qE x)/\Qf mv pt (oi mv T st go) D W0 E W1 /\
 (∀t p us H',H' t=some (.tup [.str (Str.ofString "puts"),.ref p])->aE H H'->H' p=some (.lst us)->us.length<=500->OJ mv pt T (oi mv T st go)->Q (.ref t) H') /\
 (∀t p pr H',H' t=some (.tup [.str (Str.ofString "never"),.ref p])->aE H H'->pr.length=mv.length->(∀xs∈dq mv pt T,d5 xs pr=0)->d5 pr (oi mv T st go)=1->Q (.ref t) H')
theorem Bq {mv pt:List (List Rat)} {L pr:List Rat} {T:Nat} (wp:∀xs∈pt,xs.length=mv.length) (lL:L.length=mv.length) (h:OJ mv pt T L) (lpr:pr.length=mv.length) (h2:∀xs∈dq mv pt T,d5 xs pr=0) (h3:d5 pr L=1):False:=by
 obtain ⟨u,ws,hu,lw,e⟩:=h;obtain ⟨Z,eZ⟩:=D4 (mv:=mv) (pt:=pt) (u:=u) (T - u);rw[show u+(T - u)=T by lia] at eZ;rw[cV (by lia),lpr] at h3;have wu:=eG (mv:=mv) rfl wp u
 have e1:(bu mv.length fun c=>pr.getD c 0*L.getD c 0)=bu ws.length fun i=>ws.getD i 0*bu mv.length fun c=>bD (dq mv pt u) i c*pr.getD c 0:=by
  have q:∀c,c < mv.length->pr.getD c 0*L.getD c 0=bu ws.length fun i=>ws.getD i 0*(bD (dq mv pt u) i c*pr.getD c 0):=fun c hc=>by
   rw[<- e,FF hc,<- cn];exact aK fun i _=>by grind
  rw[aK q,d9];exact aK fun i _=>cn
 rw[e1,cb fun i hi=>?_] at h3
 ·exact absurd h3 (by decide)
 ·rw[lw] at hi;have w1:=wu _ (az hi);have:=h2 _ (by rw[eZ];exact jX _ (az hi));rw[cV (by lia),w1] at this
  have q:(bu mv.length fun c=>bD (dq mv pt u) i c*pr.getD c 0)=0:=by
   refine Eq.trans (aK fun c _=>?_) this;unfold bD;rw[aa (l:=dq mv pt u),af hi];rfl
  rw[q,iW]
def Jj (K:PySem.W.Frag) (C:Addr):Sp:=fun vs H Q _=>∃(x g:Addr) (T:Nat) (H0:Hp) (mv pt lk:List (List Rat)) (go:List Rat),vs=[.ref x,.ref g,.int T]/\T<=99/\mh K H0 H C x mv pt lk/\yK mv pt lk/\cK K H g go/\Ask (bO mv mv.length) lk T go /\
 (∀t p H',H' t=some (.tup [.str (Str.ofString "from"),.ref p])->aE H H'->OJ (bO mv mv.length) lk T (oi (bO mv mv.length) T (List.replicate mv.length 0) go)->Q (.ref t) H') /\
 (∀t p pr H',H' t=some (.tup [.str (Str.ofString "alike"),.ref p])->aE H H'->pr.length=mv.length->(∀xs∈dq (bO mv mv.length) lk T,d5 xs pr=0)->d5 pr (oi (bO mv mv.length) T (List.replicate mv.length 0) go)=1->Q (.ref t) H')
open PySem.MeetsSeq
theorem AO (l:Addr) (items:Array Value) (n:Nat) (x:Value) (e:Nat->Bool) (j:Nat) (hj:j < items.size) (hit:e j=true) (k:Nat) (hs1:items.size<=sizeLine) :
  ∀i:Nat,j - i=k->i<=j->(∀m,i<=m->m < j->e m=false)->Meets (Builtin.«list.remove.loop» ⟨[.ref l,x,rawInt i],[]⟩)
   (fun A R s=>s.heap.get? l=some { cls:=.type "list",dict:=none,data:=.seq items n,slots:=#[] }/\(∀m (hm:m < items.size),SeqAt.EqAt A.in1 s items[m] x (e m))/\R (.ok (.ret .none)) { s with heap:=s.heap.update l (Obj.mapSeq fun xs=>xs.eraseIdxIfInBounds j) }):=by
 induction k with
 | zero =>
  intro i hk hij hno prog w A R s h;obtain ⟨hp,g,d,tk,os⟩:=s;obtain ⟨hl,he,h⟩:=h;have hij':i=j:=by lia
  subst hij'
  wp_walk using wpAny_loadPart' hl
  have hi:items[((i:Nat):Int).toNat]?=some items[i]:=by simp [hj]
  rw[hi];refine wpAny_bind (he _ hj prog w _ _ ?_);rw[hit];have hz':(items.eraseIdxIfInBounds i).size<=sizeLine+1:=ah (size_erased items _) (Nat.le_succ_of_le hs1)
  wp_walk using (wpAny_updateSeq hl rfl (hz:=hs1) (_hz':=hz')),wpAny_loadPart' hl
  simpa using h
 | succ k ih =>
  intro i hk hij hno prog w A R s h;obtain ⟨hp,g,d,tk,os⟩:=s;obtain ⟨hl,he,h⟩:=h;have hlt:i < items.size:=by lia
  wp_walk using wpAny_loadPart' hl
  have hi:items[((i:Nat):Int).toNat]?=some items[i]:=by simp [hlt]
  have hc:((i:Int)+1)=((i+1:Nat):Int):=by push_cast;rfl
  rw[hi];refine wpAny_bind (he _ hlt prog w _ _ ?_);rw[hno i (ar _) (by lia)]
  wp_walk
  rw[hc]
  exact ⟨plainId_quiet plain_remove_loop _,codeAny_builtin entry_remove_loop (by
   rw[Around.under_plainId plain_remove_loop _];exact ih (i+1) (by lia) (by lia) (fun m h1 h2=>hno m (by lia) h2) prog w A R _ ⟨hl,he,h⟩)⟩
theorem AY (l:Addr) (items:Array Value) (n:Nat) (x:Value) (e:Nat->Bool) (j:Nat) (hj:j < items.size)
  (hit:e j=true) (hno:∀m,m < j->e m=false) (hs1:items.size<=sizeLine) :
  Meets (Builtin.«list.remove» ⟨[.ref l,x],[]⟩)
   (fun A R s=>s.heap.get? l=some { cls:=.type "list",dict:=none,data:=.seq items n,slots:=#[] }/\(∀m (hm:m < items.size),SeqAt.EqAt A.in1 s items[m] x (e m))/\R (.ok (.ret .none)) { s with heap:=s.heap.update l (Obj.mapSeq fun xs=>xs.eraseIdxIfInBounds j) }):=by
 intro prog w A R s h;obtain ⟨hp,g,d,tk,os⟩:=s;obtain ⟨hl,he,h⟩:=h
 wp_walk using wpAny_loadPart' hl
 exact ⟨plainId_quiet plain_remove_loop _,codeAny_builtin entry_remove_loop (by
  rw[Around.under_plainId plain_remove_loop _];exact AO l items n x e j hj hit _ hs1 0 rfl (aX _) (fun m _ h2=>hno m h2) prog w A R _ ⟨hl,he,h⟩)⟩
def Ql (K:PySem.W.Frag):V->List V->Hp->VK->Prop:=fun x vs H Q=>∃(l:Addr) (xs:List V) (y:V) (α:Type) (_:DecidableEq α) (k:Kind α) (as:List α) (a:α) (j:Nat),x=.ref l/\vs=[y]/\H l=some (.lst xs)/\k.d<=40/\Paired (fun a x=>k.R K H x a) as xs/\k.R K H y a/\as[j]?=some a/\(∀i,i < j->as[i]?≠some a)/\Q .non (upd H l (.lst (xs.eraseIdx j)))
theorem Il {X:Cx} (hu:X.A.units+50 < cLine):Qz X "list.remove" (Ql X.K):=by
 intro pins s σ H x vs v us Q I rx rv h;obtain ⟨l,xs,y,α,dα,k,as,a,j,rfl,rfl,hH,hd,pa,ha,hj,hno,q⟩:=h;cases rx;obtain ⟨u,rfl,ru⟩:=rv.one;obtain ⟨z,its,n,r,hl,e⟩:=I.lstM hH;have l1:=pa.length;have l2:=r.length;have jl:j < as.length:=(aA.mp hj).1
 refine call_meets F.slot_list_remove ⟨_,e,rfl⟩ F.entry_list_remove (F.args_list_remove_2 _ _)
  (AY l its.toArray n u (fun m=>decide (as[m]?=some a)) j (by rw[aL];lia) (decide_eq_true hj) (fun m hm=>decide_eq_false (hno m hm)) (by rw[aL];lia)) ⟨e,fun m hm=>?_,?_⟩
 ·have ml:m < its.length:=by simpa using hm
  obtain ⟨w,hw,rw'⟩:=r.get (i:=m) (x:=xs[m]'(by lia)) (by simp)
  have ew:its.toArray[m]=w:=by
   rw[af ml] at hw;simpa using hw
  have q:=k.eq (A:=X.A.in1) I rw' ru (i5 pa (i:=m) (by lia) (by lia)) ha (by show X.A.units+1+k.d < cLine;lia);rw[ew,af (show m < as.length by lia)];have e5:decide (some as[m]=some a)=decide (as[m]=a):=by simp
  rw[e5];exact q
 ·refine ⟨.non,_,I.lset (its':=its.eraseIdx j) hH e ?_ (r.eraseIdx j) ?_,rfl,q⟩
  ·show its.toArray.eraseIdxIfInBounds j=(its.eraseIdx j).toArray
   rw[List.eraseIdxIfInBounds_toArray]
  ·have:=Bw xs j
   lia
section
variable {rows rows0 fs l2 R Hd:List (List Rat)} {hd:List Rat} {n P:Nat} {ps psd:List Nat}
theorem J6 (wide:∀r∈fs++hd :: l2,r.length=n) {i:Nat} (hi:i < (fs++hd :: l2).length) (c:Nat) :
  bD ((fs.map (qi P (iq P hd))++[iq P hd])++l2.map (qi P (iq P hd))) i c=if i=fs.length then 1 / hd.getD P 0*hd.getD c 0 else bD (fs++hd :: l2) i c - bD (fs++hd :: l2) i P*(1 / hd.getD P 0*hd.getD c 0):=by
 rw[ai,bg] at hi;have whd:hd.length=n:=wide _ (ax.mpr (.inr (.head _)));have wu:(iq P hd).length=n:=by unfold iq;rw[ag];exact whd
 have vl:∀r,r.length=n->∀c,(qi P (iq P hd) r).getD c 0=r.getD c 0 - r.getD P 0*(1 / hd.getD P 0*hd.getD c 0):=fun r hr c=>by
  unfold qi;rw[Kj (by rw[ag,wu,hr]),BB];unfold iq;rw[BB]
 have lf:(fs.map (qi P (iq P hd))).length=fs.length:=ag _
 have key:∀{X:List (List Rat)} {s:Nat} (hs:s < X.length) (_:∀r∈X,r.length=n),bD (X.map (qi P (iq P hd))) s c=bD X s c - bD X s P*(1 / hd.getD P 0*hd.getD c 0):=fun {X s} hs hX=>by
  unfold bD;have e1:(X.map (qi P (iq P hd))).getD s []=qi P (iq P hd) X[s]:=by rw[aa,aD,af hs];rfl
  have e2:X.getD s []=X[s]:=by rw[aa,af hs];rfl
  rw[e1,e2];exact vl _ (hX _ (az hs)) c
 rcases dn i fs.length with z | z | z
 ·rw[if_neg (by lia),bP,yJ (by lia),yJ (by lia),key (by lia) fun r hr=>wide r (ax.mpr (.inl hr))]
 ·rw[if_pos z,bP,show i=(fs.map (qi P (iq P hd))).length+0 by lia,pQ];show (iq P hd).getD c 0=_
  unfold iq;rw[BB]
 ·rw[if_neg (by lia)];obtain ⟨j,rfl⟩:∃j,i=fs.length+1+j:=⟨i - fs.length - 1,by lia⟩
  have e1:bD (fs++hd :: l2) (fs.length+1+j)=bD l2 j:=by
   have:=pQ (X:=fs) (Y:=hd :: l2) (i:=j+1);rw[show fs.length+(j+1)=fs.length+1+j by lia] at this;rw[this];rfl
  have e2:bD ((fs.map (qi P (iq P hd))++[iq P hd])++l2.map (qi P (iq P hd))) (fs.length+1+j)=bD (l2.map (qi P (iq P hd))) j:=by
   have:=pQ (X:=fs.map (qi P (iq P hd))++[iq P hd]) (Y:=l2.map (qi P (iq P hd))) (i:=j);rw[ai,lf,aU] at this;exact this
  rw[e1,e2,key (by lia) fun r hr=>wide r (ax.mpr (.inr (.tail _ hr)))]
def M9 (rows:List (List Rat)) (n S:Nat):Prop:=2*S<=3990/\∃J:Nat->List (List Rat)->List Nat->Prop,J 0 rows []/\(∀P rs ps,J P rs ps->(∀i,ps.length<=i->i < rs.length->bD rs i P=0)->J (P+1) rs ps) /\
 (∀P fs ls ps t,J P (fs++ls) ps->fs.length=ps.length->t < ls.length->P < n->(ls.getD t []).getD P 0≠0->(∀j,j < t->bD ls j P=0)->J (P+1) ((fs.map (qi P (iq P (ls.getD t [])) )++[iq P (ls.getD t [])])++(ls.eraseIdx t).map (qi P (iq P (ls.getD t [])))) (ps++[P])) /\
 (∀P rs ps,J P rs ps->A5 rows n P rs ps)/\∀P rs ps,J P rs ps->P<=n->∀i,i < rows.length->∃D:Nat,0 < D/\D<=2^S/\∀c,Tp D (2^S) (bD rs i c)
theorem Tp.neg {M W:Nat} {x:Rat} (h:Tp M W x):Tp M W (-x):=by
 obtain ⟨z,e,b⟩:=h;exact ⟨-z,by rw[Rat.neg_mul,e];exact (cP z).symm,by rw[pE];exact b⟩
theorem M9.red {M M':Nat} (RR:bo rows0 n Hd psd) (hx:∀i,i < rows.length->dJ psd.length (bD Hd) (bD rows i)) (hwr:∀xs∈rows,xs.length=n) (M0:0 < M) (hM:M<=2^720) (th:∀xs∈Hd,∀x∈xs,Tp M (2^720) x) (M0':0 < M') (hM':M'<=2^720) (tr:∀xs∈rows,∀x∈xs,Tp M' (2^720) x) (h5:psd.length<=5):M9 (Hd++rows) n 1450:=by
 have lH:=RR.1;have Rf:=RR.2.2;have wA:∀xs∈Hd++rows,xs.length=n:=fun xs h=>(ax.mp h).elim (RR.2.1 xs) (hwr xs)
 refine ⟨by decide,fun P rs ps=>A5 (Hd++rows) n P rs ps/\∃k,k<=psd.length/\ps=psd.take k/\(∀j,j < k->psd.getD j 0 < P)/\(∀j,k<=j->j < psd.length->P<=psd.getD j 0)/\(∀i,i < psd.length->∀c,bD rs i c=bD Hd i c)/\∀i,i < rows.length->∀c,bD rs (psd.length+i) c=bD rows i c - bu k fun j=>bD rows i (psd.getD j 0)*bD Hd j c,?_,?_,?_,fun _ _ _ h=>h.1,?_⟩
 ·refine ⟨A5.start wA,0,aX _,rfl,(fun _ h=>absurd h (du _)),(fun _ _ _=>aX _),fun i hi c=>by rw[yJ (by lia)],fun i hi c=>?_⟩;rw[<- lH,pQ];show _=_ - (0:Rat)
  grind
 ·rintro P rs ps ⟨L,k,hk,rfl,h1,h2,h3,h4⟩ hz;refine ⟨L.skip hz,k,hk,rfl,fun j hj=>xx (h1 j hj),fun j hj hj'=>?_,h3,h4⟩;have:=h2 j hj hj';rcases bX P (psd.getD j 0) with q | q
  ·exact q
  ·have e:psd.getD j 0=P:=by lia
   have len:=L.len;rw[ai] at len;have z:=hz j (by rw[cT];lia) (by lia);rw[h3 j hj',<- e,Rf.unit j hj' j hj',if_pos rfl] at z;exact absurd z (by decide)
 ·rintro P fs ls ps t ⟨L,k,hk,rfl,h1,h2,h3,h4⟩ hf ht hP hne hfst;have hfk:fs.length=k:=by rw[hf,cT];lia
  have L2:=L.lean hf ht hP hne;have len:=L.len;have wide:=L.wide;rw[ai,ai] at len
  have at0:bD (fs++ls) (k+t) P≠0:=by
   rw[<- hfk,pQ];exact hne
  have kd:k < psd.length/\psd.getD k 0=P:=by
   by_cases z:k < psd.length/\psd.getD k 0=P
   ·exact z
   ·exfalso
    have lt:∀j,k<=j->j < psd.length->P < psd.getD j 0:=fun j hj hj'=>by
     have:=h2 j hj hj';rcases bX P (psd.getD j 0) with q | q
     ·exact q
     ·have e:psd.getD j 0=P:=by lia
      rcases bX k j with y | y
      ·have a:=Rf.inc k j y hj';have b:=h2 k (ar _) (by lia)
       lia
      ·have:j=k:=by lia
       subst this;exact absurd ⟨hj',e⟩ z
    have zr:∀j,k<=j->j < psd.length->bD Hd j P=0:=fun j hj hj'=>Rf.lead j hj' P (lt j hj hj')
    apply at0;by_cases y:k+t < psd.length
    ·rw[h3 _ y];exact zr _ (by lia) y
    ·obtain ⟨i,hi⟩:∃i,k+t=psd.length+i:=⟨k+t - psd.length,by lia⟩;have il:i < rows.length:=by lia
     rw[hi,h4 i il,Rf.coef (hx i il) P];obtain ⟨b,hb⟩:∃b,psd.length=k+b:=⟨psd.length - k,by lia⟩;rw[hb,xD,cb (k:=b) fun j hj=>by rw[zr (k+j) (by lia) (by lia)];grind];grind
  obtain ⟨kd,eP⟩:=kd;have one:bD (fs++ls) k P=1:=by rw[h3 k kd,<- eP,Rf.unit k kd k kd,if_pos rfl]
  have t0:t=0:=by
   rcases nJ t with z | z
   ·exact z
   ·have:=hfst 0 z;have e:=pQ (X:=fs) (Y:=ls) (i:=0);rw[Nat.add_zero,hfk] at e;rw[e,this] at one;exact absurd one (by decide)
  subst t0
  obtain ⟨hd,l2,rfl⟩:∃hd l2,ls=hd :: l2:=by
   cases ls with
   | nil=>exact absurd ht (du _)
   | cons a b=>exact ⟨a,b,rfl⟩
  have ehd:∀c,hd.getD c 0=bD Hd k c:=fun c=>by
   rw[<- h3 k kd c];have e:=pQ (X:=fs) (Y:=hd :: l2) (i:=0);rw[Nat.add_zero,hfk] at e;rw[e];rfl
  have hP1:hd.getD P 0=1:=by rw[ehd,<- h3 k kd];exact one
  refine ⟨L2,k+1,kd,?_,fun j hj=>?_,fun j hj hj'=>?_,fun i hi c=>?_,fun i hi c=>?_⟩
  ·rw[List.take_succ,af kd];have:psd[k]=P:=by rw[<- eP,aa,af kd];rfl
   rw[this];rfl
  ·rcases bX j k with y | y
   ·exact xx (h1 j y)
   ·have:j=k:=by lia
    subst this
    lia
  ·have:=Rf.inc k j (by lia) hj'
   lia
  ·show bD ((fs.map (qi P (iq P hd))++[iq P hd])++l2.map (qi P (iq P hd))) i c=_
   rw[J6 wide (by rw[ai];lia),hP1,ehd];by_cases y:i=fs.length
   ·rw[if_pos y,y,hfk];grind
   ·rw[if_neg y,h3 i hi,h3 i hi,<- eP,Rf.unit i hi k kd,if_neg (by lia)];grind
  ·show bD ((fs.map (qi P (iq P hd))++[iq P hd])++l2.map (qi P (iq P hd))) (psd.length+i) c=_
   rw[J6 wide (by rw[ai];lia),hP1,ehd,if_neg (by lia),h4 i hi,h4 i hi];rw[show (bu k fun j=>bD rows i (psd.getD j 0)*bD Hd j P)=0 from cb fun j hj=>by rw[<- eP,Rf.unit j (by lia) k kd,if_neg (by lia)];grind];show _=bD rows i c - (bu k (fun j=>bD rows i (psd.getD j 0)*bD Hd j c)+bD rows i (psd.getD k 0)*bD Hd k c)
   rw[eP];grind
 ·rintro P rs ps ⟨L,k,hk,rfl,h1,h2,h3,h4⟩ hP i hi;rw[ai] at hi;by_cases y:i < psd.length
  ·exact ⟨M,M0,ah hM (ak (by decide) (by decide)),fun c=>by rw[h3 i y];exact (A9 th i c).mono (ak (by decide) (by decide))⟩
  ·obtain ⟨j,rfl⟩:∃j,i=psd.length+j:=⟨i - psd.length,by lia⟩
   have up:∀m,m<=8->m*(2^720*2^720)<=2^1450:=fun m hm=>by
    rw[<- cF];exact ah (aJ _ (show m<=2^3 from hm)) (by rw[<- cF];exact ak (by decide) (by decide))
   have mm:M'*M<=2^720*2^720:=bH hM' hM;refine ⟨M'*M,iM M0' M0,ah mm (by have:=up 1 (by decide);rwa [BY] at this),fun c=>?_⟩;rw[h4 j (by lia)];have a:Tp (M'*M) (2^720*2^720) (bD rows j c):=Tp.up (A9 tr j c) M (dR _ hM);have b:Tp (M'*M) (k*(2^720*2^720)) (bu k fun s=>bD rows j (psd.getD s 0)*bD Hd s c):=Tp.sum fun s _=>(A9 tr j _).mul (A9 th s c)
   have q:=(a.add b.neg).mono (W':=2^1450) (by have:=up (k+1) (by lia);rw[Nat.add_mul,BY] at this;lia);rwa [show bD rows j c+-(bu k fun s=>bD rows j (psd.getD s 0)*bD Hd s c)=bD rows j c - bu k fun s=>bD rows j (psd.getD s 0)*bD Hd s c by grind] at q
end
def EH (K:PySem.W.Frag):Sp:=fun vs H Q _=>∃(p:Addr) (n S:Nat) (H0:Hp) (rows:List (List Rat)),vs=[.ref p,.int n]/\bB K H0 H p rows/\rows.length<=100/\n<=100/\(∀xs∈rows,xs.length=n)/\M9 rows n S /\
 ∀r R ps H',H r=none->aE H H'->bB K H H' r R->bo rows n R ps->ps.length<=rows.length->Q (.ref r) H'
theorem JS {xs : List Rat} {n t : Nat} {r : List Nat} (h : z7 xs n = t :: r) : ∀ i, i < t → xs.getD i 0 = 0 := fun i hi => by
  by_cases z : xs.getD i 0 = 0
  · exact z
  · exfalso
    have pw : (z7 xs n).Pairwise (· < ·) := by unfold z7; exact List.Pairwise.filter _ List.pairwise_lt_range
    have tm : t ∈ z7 xs n := by rw [h]; exact .head _
    have tn : t < n := (E7.mp tm).1;have im : i ∈ z7 xs n := E7.mpr ⟨by lia, z⟩;rw [h] at pw im;rcases aI.mp im with e | e
    · lia
    · have := (List.pairwise_cons.mp pw).1 i e
      lia
section
variable {rows rows' R R' Hd Hd':List (List Rat)} {n:Nat} {ps ps' psd psd':List Nat}
theorem Ig (RR:bo rows n R ps) {x:Nat->Rat} (far:∀c,n<=c->x c=0) (hx:∀j,j < ps.length->(bu n fun c=>bD R j c*x c)=0):dJ (bS R ps n).length (bD (bS R ps n)) x:=by
 have Rf:=RR.2.2;have lN:(bS R ps n).length=(oE ps n).length:=by unfold bS;rw[ag]
 have fN:∀t,t < (bS R ps n).length->(oE ps n).getD t 0 < n/\(oE ps n).getD t 0∉ps:=fun t ht=>wU.mp (getD_in (by lia))
 have vN:∀t,t < (bS R ps n).length->∀c,bD (bS R ps n) t c=(Ih R ps n ((oE ps n).getD t 0)).getD c 0:=fun t ht c=>by
  have h:t < (oE ps n).length:=by lia
  unfold bD bS;rw[aa (l:=List.map _ _),aD,af h,aa (l:=oE ps n),af h];rfl
 have nd:(oE ps n).Nodup:=by
  unfold oE;exact List.Nodup.sublist List.filter_sublist List.nodup_range
 refine ⟨fun t=>x ((oE ps n).getD t 0),fun c=>?_⟩
 suffices y0:∀c,x c - (bu (bS R ps n).length fun t=>x ((oE ps n).getD t 0)*bD (bS R ps n) t c)=0 by
  have:=y0 c;grind
 have free:∀c,c < n->c∉ps->x c - (bu (bS R ps n).length fun t=>x ((oE ps n).getD t 0)*bD (bS R ps n) t c)=0:=fun c hc hp=>by
  obtain ⟨t0,h0,e0⟩:=be (wU.mpr ⟨hc,hp⟩);have g0:(oE ps n).getD t0 0=c:=by rw[aa,af h0];exact e0
  rw[fj (i:=t0) (by lia) fun t ht ne=>?_,vN t0 (by lia),CC hc hp,g0,if_pos rfl]
  ·grind
  ·rw[vN t ht,CC hc hp,if_neg fun z=>ne ?_]
   ·grind
   ·have ht':t < (oE ps n).length:=by lia
    have z:(oE ps n)[t]=(oE ps n)[t0]:=by
     rw[aa,af ht'] at z;rw[e0];exact z.symm
    have pw:=OG.mp nd;rcases dn t t0 with y | y | y
    ·exact absurd z (pw t t0 ht' h0 y)
    ·exact y
    ·exact absurd z.symm (pw t0 t h0 ht' y)
 have dN:∀j,j < ps.length->∀t,t < (bS R ps n).length->(bu n fun c=>bD R j c*bD (bS R ps n) t c)=0:=fun j hj t ht=>by
  have hj':j < R.length:=by rw[RR.1];exact hj
  have wr:=RR.2.1 _ (az hj');have dz:=JT (yR RR) (fN t ht).1 (fN t ht).2 (af hj') wr;rw[cV (by rw[wr];exact qR.symm),wr] at dz;refine Eq.trans (aK fun c _=>?_) dz;rw[vN t ht];unfold bD;rw[aa (l:=R),af hj'];rfl
 have dY:∀j,j < ps.length->(bu n fun c=>bD R j c*(x c - (bu (bS R ps n).length fun t=>x ((oE ps n).getD t 0)*bD (bS R ps n) t c)))=0:=fun j hj=>by
  have e:∀c,c < n->bD R j c*(x c - (bu (bS R ps n).length fun t=>x ((oE ps n).getD t 0)*bD (bS R ps n) t c))=bD R j c*x c+(-1)*(bu (bS R ps n).length fun t=>x ((oE ps n).getD t 0)*(bD R j c*bD (bS R ps n) t c)):=fun c _=>by
   have:(bu (bS R ps n).length fun t=>x ((oE ps n).getD t 0)*(bD R j c*bD (bS R ps n) t c))=bD R j c*bu (bS R ps n).length fun t=>x ((oE ps n).getD t 0)*bD (bS R ps n) t c:=by
    rw[<- cn];exact aK fun t _=>by grind
   rw[this];grind
  rw[aK e,nO,hx j hj,cn,d9,cb (k:=(bS R ps n).length) fun t ht=>?_]
  ·grind
  ·rw[cn,dN j hj t ht];grind
 intro c;by_cases hc:c < n
 ·by_cases hp:c∈ps
  ·obtain ⟨j,hj,ej⟩:=be hp;have g:ps.getD j 0=c:=by rw[aa,af hj];exact ej
   have:=dY j hj;rw[fj (i:=c) hc fun c' hc' ne=>?_] at this
   ·have u:=Rf.unit j hj j hj;rw[g,if_pos rfl] at u;rw[u] at this;grind
   ·by_cases hp':c'∈ps
    ·obtain ⟨i,hi,ei⟩:=be hp';have gi:ps.getD i 0=c':=by rw[aa,af hi];exact ei
     have u:=Rf.unit j hj i hi;rw[gi,if_neg (fun z=>ne (by rw[<- gi,<- g,z]))] at u;rw[u];grind
    ·rw[free c' hc' hp'];grind
  ·exact free c hc hp
 ·rw[far c (by lia),cb fun t _=>by rw[CO yU (by lia)];grind];grind
theorem G5 (RR:bo rows n R ps) (RR':bo rows' n R' ps') (hw:∀i,i < ps.length->dJ ps'.length (bD R') (bD R i)) (RN:bo (bS R ps n) n Hd psd) (RN':bo (bS R' ps' n) n Hd' psd'):∀i,i < Hd'.length->dJ psd.length (bD Hd) (bD Hd' i):=fun i hi=>by
 refine dJ.trans (fun t ht=>RN.2.2.span t ht) (Ig RR (fun c hc=>CO RN'.2.1 hc) fun j hj=>?_);have wh:=RN'.2.1 _ (az hi);obtain ⟨v,hv⟩:=hw j hj
 have d':∀s,s < ps'.length->(bu n fun c=>bD R' s c*bD Hd' i c)=0:=fun s hs=>by
  have hs':s < R'.length:=by rw[RR'.1];exact hs
  have wr:=RR'.2.1 _ (az hs');have dz:=Ex RR' RN' _ (az hi) _ (az hs');rw[cV (by lia),wh] at dz;refine Eq.trans (aK fun c _=>?_) dz;unfold bD;rw[aa (l:=R'),af hs',aa (l:=Hd'),af hi];exact dt _ _
 have e:∀c,c < n->bD R j c*bD Hd' i c=bu ps'.length fun s=>v s*(bD R' s c*bD Hd' i c):=fun c _=>by
  rw[hv c,dt,<- cn];exact aK fun s _=>by grind
 rw[aK e,d9,cb fun s hs=>?_];rw[cn,d' s hs];grind
theorem D5 {mv pt:List (List Rat)} {a c T T':Nat} (F:ot mv pt a c) (D8:mv.length<=8) (wm:∀xs∈mv,xs.length=mv.length) (wp:∀xs∈pt,xs.length=mv.length) (h:mv.length<=T) (h':mv.length<=T') (RR:bo (dq mv pt T) mv.length R ps) (RR':bo (dq mv pt T') mv.length R' ps'):R=R'/\ps=ps':=by
 obtain ⟨R0,ps0,G⟩:=CL F D8 wm wp (mv.length+1);obtain ⟨rfl,rfl⟩:=RR.same (G.late (eB _) h);obtain ⟨rfl,rfl⟩:=RR'.same (G.late (eB _) h');exact ⟨rfl,rfl⟩
theorem KL {rows0 Ra Rb:List (List Rat)} {pa pb:List Nat} (RR:bo rows0 n Hd psd) (hx:∀i,i < Hd'.length->dJ psd.length (bD Hd) (bD Hd' i)) (A:bo (Hd++Hd') n Ra pa) (B:bo Hd n Rb pb):Ra=Rb/\pa=pb:=by
 refine A.uniq B (fun i hi=>?_) (fun i hi=>?_)
 ·rw[ai] at hi;by_cases y:i < Hd.length
  ·rw[yJ y];exact dJ.row y
  ·obtain ⟨j,rfl⟩:∃j,i=Hd.length+j:=⟨i - Hd.length,by lia⟩;rw[pQ,RR.1];exact hx j (by lia)
 ·rw[show bD Hd i=bD (Hd++Hd') i from (yJ hi).symm];exact dJ.row (by rw[ai];lia)
end
def GQ (A lk:List (List Rat)) (n t:Nat) (Hd:List (List Rat)):Prop:=∃R ps psd M,bo (dq A lk t) n R ps/\bo (bS R ps n) n Hd psd/\psd.length+ps.length=n/\0 < M/\M<=2^720/\∀xs∈Hd,∀x∈xs,Tp M (2^720) x
structure W55 (Hd Hd':List (List Rat)) (n:Nat):Prop where
 t1:M9 (Hd++Hd') n 1450
 t2:M9 Hd n 1450
 rk:∀Ra pa Rb pb,bo (Hd++Hd') n Ra pa->bo Hd n Rb pb->Ra=Rb
 w1:∀xs∈Hd,xs.length=n
 w2:∀xs∈Hd',xs.length=n
 l1:Hd.length<=5
 l2:Hd'.length<=5
section
variable {A lk pk Hd Hd' Hl:List (List Rat)} {n t t':Nat}
theorem GQ.late (S:yK A lk pk) (hA:A.length=n) (h:GQ A lk n t Hd) (h':GQ A lk n t' Hd') (ht:n<=t) (ht':n<=t'):Hd=Hd':=by
 subst hA;obtain ⟨R,ps,psd,M,RR,RN,_⟩:=h;obtain ⟨R',ps',psd',M',RR',RN',_⟩:=h';obtain ⟨rfl,rfl⟩:=D5 S.kfit S.D.n8 S.D.mw S.D.pw ht ht' RR RR';exact (RN.same RN').1
theorem GQ.stand (S:yK A lk pk) (hA:A.length=n) (h:GQ A lk n t Hd) (h':GQ A lk n (t+1) Hd) (hl:GQ A lk n n Hl) (ht:t<=n):Hd=Hl:=by
 subst hA;obtain ⟨R,ps,psd,M,RR,RN,e,_⟩:=h;obtain ⟨R',ps',psd',M',RR',RN',e',_⟩:=h';obtain ⟨Rl,pl,pdl,Ml,RRl,RNl,_⟩:=hl;have:=DE S.D.mw S.D.pw RR RR' (by have a:=RN.1;have b:=RN'.1;lia) (A.length - t);rw[show t+(A.length - t)=A.length by lia] at this;obtain ⟨rfl,rfl⟩:=this.same RRl;exact (RN.same RNl).1
theorem GQ.inn (S:yK A lk pk) (hA:A.length=n) (h:GQ A lk n t Hd) (h':GQ A lk n (t+1) Hd'):W55 Hd Hd' n:=by
 subst hA;obtain ⟨R,ps,psd,M,RR,RN,e,M0,hM,th⟩:=h;obtain ⟨R',ps',psd',M',RR',RN',e',M0',hM',th'⟩:=h';have n5:=S.n5;have a:=RN.1;have b:=RN'.1;have sp:=G5 RR RR' (vP rfl S.D.mw S.D.pw RR RR') RN RN';have q:M9 (Hd++[]) A.length 1450:=M9.red (rows:=[]) RN (fun i hi=>absurd hi (du _)) (fun _ h=>nomatch h) M0 hM th M0 hM (fun _ h=>nomatch h) (by lia);rw[m9] at q;exact ⟨M9.red RN sp RN'.2.1 M0 hM th M0' hM' th' (by lia),q,fun Ra pa Rb pb x y=>(KL RN sp x y).1,RN.2.1,RN'.2.1,by lia,by lia⟩
theorem EW {pr:List Rat} (S:yK A lk pk) (ht:A.length<=t) (ht':A.length<=t') (lp:pr.length=A.length) (h:∀xs∈dq A lk t,d5 xs pr=0):∀xs∈dq A lk t',d5 xs pr=0:=by
 obtain ⟨R,ps,G⟩:=CL S.kfit S.D.n8 S.D.mw S.D.pw t;obtain ⟨R',ps',G'⟩:=CL S.kfit S.D.n8 S.D.mw S.D.pw t';obtain ⟨rfl,rfl⟩:=D5 S.kfit S.D.n8 S.D.mw S.D.pw ht ht' G.1 G'.1;intro xs hx;obtain ⟨i,hi,rfl⟩:=be hx;have wk:=eG (mv:=A) rfl S.D.pw;have w1:=wk t' _ hx
 have vf:∀{L:List (List Rat)} {i:Nat} (hi:i < L.length) (c:Nat),bD L i c=L[i].getD c 0:=fun {L i} hi c=>by
  unfold bD;rw[aa (l:=L),af hi];rfl
 have dz:∀s,s < (dq A lk t).length->(bu A.length fun c=>bD (dq A lk t) s c*pr.getD c 0)=0:=fun s hs=>by
  have w2:=wk t _ (az hs);have:=h _ (az hs);rw[cV (by lia),w2] at this;exact Eq.trans (aK fun c _=>by rw[vf hs]) this
 obtain ⟨v,hv⟩:dJ (dq A lk t).length (bD (dq A lk t)) (bD (dq A lk t') i):=dJ.trans (fun s hs=>G.1.2.2.back s hs) (G'.1.2.2.span i hi);rw[cV (by lia),w1]
 have e:∀c,c < A.length->(dq A lk t')[i].getD c 0*pr.getD c 0=bu (dq A lk t).length fun s=>v s*(bD (dq A lk t) s c*pr.getD c 0):=fun c _=>by
  rw[<- vf hi,hv c,dt,<- cn];exact aK fun s _=>by grind
 rw[aK e,d9,cb fun s hs=>?_];rw[cn,dz s hs];grind
theorem OJ.late {L:List Rat} (S:yK A lk pk) (h:OJ A lk t L) (ht:t<=t'):OJ A lk t' L:=by
 obtain ⟨u,ws,a,b⟩:=h;exact ⟨u,ws,by lia,b⟩
end
def Dm (K:PySem.W.Frag):Sp:=fun vs H Q _=>∃(a b:Addr) (n:Nat) (H0:Hp) (Hd Hd':List (List Rat)),vs=[.ref a,.ref b,.int n]/\n<=5/\bB K H0 H a Hd'/\bB K H0 H b Hd/\W55 Hd Hd' n/\∀H',aE H H'->Q (.bl true) H'
end L2
open L2
local macro_rules | `(tactic| walk_at "hl") => `(tactic| first | (show _ ≤ sizeLine; with_unfolding_all decide) | (with_unfolding_all exact (by decide)))
local macro_rules | `(tactic| walk_at "sq") => `(tactic| first | with_reducible assumption | with_reducible exact vV.of (by assumption) | with_reducible exact bM.of (by assumption) | with_reducible exact vV.of aF | with_reducible exact bM.of aF | assumption)
local macro_rules | `(tactic| walk_at "sc") => `(tactic| first | (with_reducible show (0 : Int) < _; decide) | with_reducible exact GD (by decide) (by decide) | with_reducible exact CY (by decide) (by decide) | with_reducible exact cpow_of (by decide) (by decide) (by decide))
local macro_rules | `(tactic| walk_at "rd") => `(tactic| first
  | with_reducible refine NI ?_
  | with_reducible refine LC ?_
  | with_reducible refine N2 ?_
  | with_reducible refine JG ?_
  | ((with_reducible refine' NF ?hx1 ?_); (case hx1 => with_unfolding_all rfl))
  | with_reducible refine Qj ?_
  | with_reducible refine Ph ?_
  | with_reducible refine Pl ?_
  | with_reducible refine Pd ?_
  | with_reducible refine Qk ?_
  | with_reducible refine NZ ?_
  | with_reducible refine NP ?_
  | with_reducible refine NX ?_
  | with_reducible refine rd_neS ?_
  | with_reducible refine rd_eqB ?_
  | with_reducible refine rd_neB ?_
  | with_reducible refine LG ?_
  | with_reducible refine EV ?_
  | with_reducible refine NW ?_
  | with_reducible refine Lz ?_
  | with_reducible refine LD ?_
  | with_reducible refine LF ?_
  | with_reducible refine JF ?_
  | with_reducible refine Ly ?_
  | with_reducible refine Pe ?_
  | with_reducible refine NJ ?_
  | with_reducible refine rd_retN ?_
  | with_reducible refine NT ?_
  | with_reducible refine N3 ?_
  | with_reducible refine Pg ?_
  | with_reducible refine NM ?_
  | with_reducible refine LQ ?_
  | with_reducible refine rd_orV ?_
  | with_reducible refine LB ?_
  | with_reducible refine NU ?_
  | with_reducible refine ND ?_
  | with_reducible refine Iu ?_
  | with_reducible refine Pz ?_
  | with_reducible refine PB ?_
  | with_reducible refine PC ?_
  | with_reducible refine MG ?_
  | with_reducible refine NO ?_
  | with_reducible refine LM ?_
  | with_reducible refine NG ?_
  | with_reducible refine NQ ?_
  | with_reducible refine LO ?_
  | with_reducible refine Pj ?_
  | with_reducible refine LL ?_
  | with_reducible refine NL ?_
  | with_reducible refine LP ?_
  | ((with_reducible refine' rd_aug ?hx1 ?_); (case hx1 => with_unfolding_all rfl))
  | with_reducible refine NS ?_
  | with_reducible refine LI ?_
  | with_reducible refine JH ?_
  | with_reducible refine LJ ?_
  | with_reducible refine Pf ?_
  | with_reducible refine HQ ?_
  | with_reducible refine LA ?_
  | with_reducible refine NV ?_
  | with_reducible refine JE ?_
  | with_reducible refine rd_iTup ?_
  | with_reducible refine JD ?_
  | with_reducible refine JC ?_
  | ((with_reducible refine' LN ?hx1 ?_); (case hx1 => with_unfolding_all rfl))
  | with_reducible refine Lx ?_
  | with_reducible refine Pk ?_
  | with_reducible refine rd_bm0 ?_
  | with_reducible refine rd_brk ?_
  | ((with_reducible refine' LH ?hx1 ?hx2 ?_); (case hx1 => walk_at "sq"); (case hx2 => with_unfolding_all rfl))
  | with_reducible refine rd_cont ?_
  | ((with_reducible refine' fe ?hx1 ?_); (case hx1 => walk_at "sc"))
  | ((with_reducible refine' NR ?hx1 ?hx2 ?_); (case hx1 => walk_at "sq"); (case hx2 => with_unfolding_all rfl))
  | ((with_reducible refine' b5 ?hx1 ?hx2 ?_); (case hx1 => walk_at "sq"); (case hx2 => with_unfolding_all rfl))
  | ((with_reducible refine' LK ?hx1 ?hx2 ?_); (case hx1 => walk_at "sq"); (case hx2 => with_unfolding_all rfl))
  | ((with_reducible refine' eO ?hx1 ?hx2 ?hx3 ?_); (case hx1 => with_reducible first | assumption | exact aF); (case hx2 => with_unfolding_all rfl); (case hx3 => with_unfolding_all rfl))
  | with_reducible refine ⟨_, rfl, ?_⟩
  | with_reducible refine ⟨_, _, rfl, ?_⟩)
local macro_rules | `(tactic| walk_at "w") => `(tactic| repeat walk_at "rd")
local macro_rules | `(tactic| walk_at "d") => `(tactic| exact ⟨rfl,rfl,rfl,by decide +kernel,rfl,by decide +kernel,by decide +kernel⟩)
namespace Lw
open PySem PySem.Spec PyProof.Rows L2 Nm
set_option maxHeartbeats 4000000
def top (i:Nat):Stmt:=PySem.Challenge.pw_helmsum_k55_whole_none_more_than_n.main.body.getD i (.Pass ⟨0,0,0,0⟩)
abbrev j8:Stmt:=top 65
abbrev jf:Stmt:=top 66
abbrev fG:Stmt:=top 82
abbrev j6:Stmt:=top 67
abbrev gA:Stmt:=top 72
abbrev j5:Stmt:=top 73
abbrev jk:Stmt:=top 78
abbrev j4:Stmt:=top 68
abbrev ji:Stmt:=top 75
abbrev jh:Stmt:=top 70
abbrev nG:Stmt:=top 77
abbrev ie:Stmt:=top 79
abbrev ic:Stmt:=top 80
abbrev ja:Stmt:=top 59
abbrev j3:Stmt:=top 9
abbrev ee:Stmt:=top 10
abbrev jd:Stmt:=top 12
abbrev p6:Stmt:=top 16
abbrev fX:Stmt:=top 60
abbrev dP:Stmt:=inClass (top 61) 0
abbrev gB:Stmt:=top 81
abbrev fZ:Stmt:=top 83
abbrev jb:Stmt:=top 19
abbrev dO:Stmt:=top 11
abbrev eK:Stmt:=top 18
abbrev ia:Stmt:=top 32
abbrev nF:Stmt:=top 34
abbrev ib:Stmt:=top 33
abbrev t8:Stmt:=top 35
abbrev p0:Stmt:=top 13
abbrev nA:Stmt:=top 36
abbrev nv:Stmt:=top 20
abbrev nE:Stmt:=top 24
abbrev h9:Stmt:=top 46
abbrev fR:Stmt:=top 48
abbrev hZ:Stmt:=top 49
abbrev fV:Stmt:=top 25
abbrev eM:Stmt:=inClass (top 61) 3
abbrev jZ:Stmt:=top 22
abbrev eJ:Stmt:=top 29
abbrev nC:Stmt:=top 30
abbrev uf:Stmt:=top 14
abbrev nB:Stmt:=top 40
abbrev fW:Stmt:=top 31
abbrev ue:Stmt:=top 41
abbrev fQ:Stmt:=top 54
abbrev jg:Stmt:=top 71
abbrev jm:Stmt:=top 69
abbrev ig:Stmt:=top 76
abbrev fk:Stmt:=top 85
abbrev fY:Stmt:=top 86
abbrev j7:Stmt:=top 74
abbrev eh:Stmt:=top 84
abbrev xJ:Stmt:=top 26
abbrev je:Stmt:=top 47
abbrev h8:Stmt:=top 21
abbrev pZ:Stmt:=top 38
abbrev t9:Stmt:=top 39
abbrev fP:Stmt:=top 42
abbrev jc:Stmt:=top 17
abbrev fo:Stmt:=inClass (top 61) 1
abbrev p7:Stmt:=top 44
abbrev fU:Stmt:=top 50
abbrev nD:Stmt:=top 51
abbrev Bh:Stmt:=top 27
abbrev xK:Stmt:=top 52
abbrev nk:Stmt:=top 63
abbrev Bg:Stmt:=top 87
set_option genInjectivity false in
set_option genSizeOf false in
structure Ads where
 rL:Addr
 rj:FuncData
 o5:Addr
 oK:FuncData
 mY:Addr
 mP:FuncData
 rJ:Addr
 rg:FuncData
 lA:Addr
 kK:FuncData
 rH:Addr
 qZ:FuncData
 o9:Addr
 oP:FuncData
 rG:Addr
 qY:FuncData
 o8:Addr
 oO:FuncData
 o7:Addr
 oN:FuncData
 uM:Addr
 uA:FuncData
 m3:Addr
 mR:FuncData
 mZ:Addr
 mQ:FuncData
 oV:Addr
 oF:FuncData
 rF:Addr
 qX:FuncData
 iC:Addr
 ir:FuncData
 oY:Addr
 oI:FuncData
 xp:Addr
 w5:FuncData
 kY:Addr
 kH:FuncData
 gL:Addr
 gJ:FuncData
 lB:Addr
 kL:FuncData
 lh:Addr
 kJ:FuncData
 oW:Addr
 oG:FuncData
 gK:Addr
 gI:FuncData
 iU:Addr
 iP:FuncData
 mW:Addr
 mN:FuncData
 uL:Addr
 uz:FuncData
 mX:Addr
 mO:FuncData
 y8:Addr
 yX:FuncData
 xo:Addr
 wZ:FuncData
 uG:Addr
 uu:FuncData
 uF:Addr
 uo:FuncData
 uK:Addr
 uy:FuncData
 mV:Addr
 mM:FuncData
 kT:Addr
 kD:FuncData
 mT:Addr
 mK:FuncData
 kW:Addr
 kF:FuncData
 iV:Addr
 iQ:FuncData
 rE:Addr
 qW:FuncData
 iT:Addr
 iO:FuncData
 uI:Addr
 uw:FuncData
 zb:Addr
 y7:FuncData
 uH:Addr
 uv:FuncData
 kX:Addr
 kG:FuncData
 za:Addr
 yZ:FuncData
 kS:Addr
 kC:FuncData
 o6:Addr
 oM:FuncData
 pe:Addr
 oQ:FuncData
 m4:Addr
 mS:FuncData
 jR:Addr
 jN:FuncData
 kZ:Addr
 kI:FuncData
 rK:Addr
 rh:FuncData
 iD:Addr
 iu:FuncData
 C4:Addr
 CU:FuncData
 oZ:Addr
 oJ:FuncData
 mU:Addr
 mL:FuncData
 xn:Addr
 wY:FuncData
 y9:Addr
 yY:FuncData
 kR:Addr
 kB:FuncData
 oX:Addr
 oH:FuncData
 jS:Addr
 jO:FuncData
 xu:Addr
 xa:FuncData
 kU:Addr
 kE:FuncData
 uJ:Addr
 ux:FuncData
 GP:Addr
 GB:FuncData
 C5:Addr
 CV:FuncData
 uE:Addr
 uj:FuncData
 KO:Addr
 Ky:FuncData
 a_NOUGHT:Addr
 a_ONE:Addr
 t_MOST_STATES:Tok
 t_MOST_PUTS:Tok
 t_MOST_LOOKS:Tok
 a_System:Addr
structure Txt (K:W.Frag) (mg:Str->Option Value) (Z:Ads):Prop where
 yt:mg "_law_bag"=some (.ref Z.rL)
 Aw:Binds K Z.rj ["_law_script"] []
 vZ:gO K "_law_bag" "_law_bag" j8 Z.rL Z.rj
 bR:mg "_law_take"=some (.ref Z.o5)
 bV:Binds K Z.oK ["_law_bag_here","_law_many"] []
 bU:gO K "_law_take" "_law_take" jf Z.o5 Z.oK
 vg:mg "_law_sizes"=some (.ref Z.mY)
 xj:Binds K Z.mP ["_law_bag_here"] []
 rT:gO K "_law_sizes" "_law_sizes" fG Z.mY Z.mP
 fz:mg "_law_low"=some (.ref Z.rJ)
 gZ:Binds K Z.rg ["_law_top","_law_bottom"] []
 fI:gO K "_law_low" "_law_low" j6 Z.rJ Z.rg
 oh:mg "_law_number"=some (.ref Z.lA)
 pP:Binds K Z.kK ["_law_bag_here","_law_wide"] []
 lE:gO K "_law_number" "_law_number" gA Z.lA Z.kK
 lQ:mg "_law_row"=some (.ref Z.rH)
 oo:Binds K Z.qZ ["_law_bag_here","_law_many","_law_wide"] []
 kr:gO K "_law_row" "_law_row" j5 Z.rH Z.qZ
 wL:mg "_law_move"=some (.ref Z.o9)
 yA:Binds K Z.oP ["_law_bag_here","_law_n","_law_way","_law_first","_law_wide"] []
 tV:gO K "_law_move" "_law_move" jk Z.o9 Z.oP
 lO:mg "_law_sum"=some (.ref Z.rG)
 oj:Binds K Z.qY ["_law_one","_law_other"] []
 ko:gO K "_law_sum" "_law_sum" j4 Z.rG Z.qY
 qT:mg "_law_plus"=some (.ref Z.o8)
 tJ:Binds K Z.oO ["_law_one","_law_other"] []
 ph:gO K "_law_plus" "_law_plus" ji Z.o8 Z.oO
 jL:mg "_law_prod"=some (.ref Z.o7)
 lU:Binds K Z.oN ["_law_one","_law_other"] []
 ju:gO K "_law_prod" "_law_prod" jh Z.o7 Z.oN
 kg:mg "_law_by"=some (.ref Z.uM)
 nH:Binds K Z.uA ["_law_factor","_law_row_here"] []
 kv:gO K "_law_by" "_law_by" nG Z.uM Z.uA
 vm:mg "_law_mixed"=some (.ref Z.m3)
 xl:Binds K Z.mR ["_law_bag_here","_law_move_here","_law_put","_law_look"] []
 rW:gO K "_law_mixed" "_law_mixed" ie Z.m3 Z.mR
 vh:mg "_law_parts"=some (.ref Z.mZ)
 xk:Binds K Z.mQ ["_law_bag_here","_law_n","_law_ins","_law_outs","_law_wide"] []
 rV:gO K "_law_parts" "_law_parts" ic Z.mZ Z.mQ
 mH:mg "want_list"=some (.ref Z.oV)
 oS:Binds K Z.oF ["thing","at","most"] []
 lW:gO K "want_list" "want_list" ja Z.oV Z.oF
 tj:mg "is_whole"=some (.ref Z.rF)
 vU:Binds K Z.qX ["thing"] []
 rQ:gO K "is_whole" "is_whole" j3 Z.rF Z.qX
 gH:mg "common_divisor"=some (.ref Z.iC)
 iB:Binds K Z.ir ["one","other"] []
 fu:gO K "common_divisor" "common_divisor" ee Z.iC Z.ir
 wI:mg "is_number"=some (.ref Z.oY)
 yx:Binds K Z.oI ["thing"] []
 tS:gO K "is_number" "is_number" jd Z.oY Z.oI
 Bu:mg "is_row"=some (.ref Z.xp)
 Ej:Binds K Z.w5 ["thing","many"] []
 Az:gO K "is_row" "is_row" p6 Z.xp Z.w5
 jK:mg "copied_rows"=some (.ref Z.kY)
 kO:Binds K Z.kH ["things","wide"] []
 iK:gO K "copied_rows" "copied_rows" fX Z.kY Z.kH
 jQ:Binds K Z.gJ ["self","move","put","look"] []
 pz:gO K "__init__" "System.__init__" dP Z.gL Z.gJ
 jM:mg "_law_copied"=some (.ref Z.lB)
 kQ:Binds K Z.kL ["_law_grid"] []
 iL:gO K "_law_copied" "_law_copied" gB Z.lB Z.kL
 tx:mg "_law_system"=some (.ref Z.lh)
 vq:Binds K Z.kJ ["_law_parts_here"] []
 pV:gO K "_law_system" "_law_system" fZ Z.lh Z.kJ
 mI:mg "tops_over"=some (.ref Z.oW)
 oT:Binds K Z.oG ["row","bottom"] []
 lX:gO K "tops_over" "tops_over" jb Z.oW Z.oG
 og:mg "common_multiple"=some (.ref Z.gK)
 oU:Binds K Z.gI ["wholes"] []
 jU:gO K "common_multiple" "common_multiple" dO Z.gK Z.gI
 ip:mg "common_bottom"=some (.ref Z.iU)
 iS:Binds K Z.iP ["row"] []
 fO:gO K "common_bottom" "common_bottom" eK Z.iU Z.iP
 vd:mg "first_with"=some (.ref Z.mW)
 xh:Binds K Z.mN ["lines","begin","place"] []
 rR:gO K "first_with" "first_with" ia Z.mW Z.mN
 Ae:mg "cleared"=some (.ref Z.uL)
 BS:Binds K Z.uz ["lines","at","place","before"] []
 yh:gO K "cleared" "cleared" nF Z.uL Z.uz
 ve:mg "brought_up"=some (.ref Z.mX)
 xi:Binds K Z.mO ["lines","at","to"] []
 rS:gO K "brought_up" "brought_up" ib Z.mX Z.mO
 z9:mg "swept"=some (.ref Z.y8)
 C0:Binds K Z.yX ["rows","wide"] []
 ze:gO K "swept" "swept" t8 Z.y8 Z.yX
 qg:mg "lowest"=some (.ref Z.xo)
 tI:Binds K Z.wZ ["top","bottom"] []
 qB:gO K "lowest" "lowest" p0 Z.xo Z.wZ
 qS:mg "reduced"=some (.ref Z.uG)
 uC:Binds K Z.uu ["rows","wide"] []
 qA:gO K "reduced" "reduced" nA Z.uG Z.uu
 vM:mg "row_dot"=some (.ref Z.uF)
 xY:Binds K Z.uo ["one","other"] []
 uO:gO K "row_dot" "row_dot" nv Z.uF Z.uo
 Ad:mg "grid_on"=some (.ref Z.uK)
 BR:Binds K Z.uy ["grid","row"] []
 yg:gO K "grid_on" "grid_on" nE Z.uK Z.uy
 pL:mg "moved_rows"=some (.ref Z.mV)
 rC:Binds K Z.mM ["system","rows"] []
 m6:gO K "moved_rows" "moved_rows" h9 Z.mV Z.mM
 nZ:mg "reach_grown"=some (.ref Z.kT)
 pN:Binds K Z.kD ["system","steps"] []
 lC:gO K "reach_grown" "reach_grown" fR Z.kT Z.kD
 u9:mg "reach_rows"=some (.ref Z.mT)
 xg:Binds K Z.mK ["system","steps"] []
 rP:gO K "reach_rows" "reach_rows" hZ Z.mT Z.mK
 gX:mg "grid_turned"=some (.ref Z.kW)
 iI:Binds K Z.kF ["grid","wide"] []
 gE:gO K "grid_turned" "grid_turned" fV Z.kW Z.kF
 kh:KP K Z.a_System "turned" Z.iV
 mf:Binds K Z.iQ ["self"] []
 sC:gO K "turned" "System.turned" eM Z.iV Z.iQ
 yp:mg "unit_row"=some (.ref Z.rE)
 As:Binds K Z.qW ["many","at"] []
 vX:gO K "unit_row" "unit_row" jZ Z.rE Z.qW
 qh:mg "leading_place"=some (.ref Z.iT)
 sv:Binds K Z.iO ["row"] []
 mi:gO K "leading_place" "leading_place" eJ Z.iT Z.iO
 vO:mg "leading"=some (.ref Z.uI)
 xZ:Binds K Z.uw ["rows"] []
 uP:gO K "leading" "leading" nC Z.uI Z.uw
 Ab:mg "minus"=some (.ref Z.zb)
 C1:Binds K Z.y7 ["one","other"] []
 zg:gO K "minus" "minus" uf Z.zb Z.y7
 Aa:mg "null_at"=some (.ref Z.uH)
 BP:Binds K Z.uv ["rows","wide","at"] []
 yd:gO K "null_at" "null_at" nB Z.uH Z.uv
 tu:mg "free_places"=some (.ref Z.kX)
 vo:Binds K Z.kG ["rows","wide"] []
 pT:gO K "free_places" "free_places" fW Z.kX Z.kG
 DX:mg "nulls"=some (.ref Z.za)
 GK:Binds K Z.yZ ["rows","wide"] []
 C9:gO K "nulls" "nulls" ue Z.za Z.yZ
 gW:mg "unseen_rows"=some (.ref Z.kS)
 iH:Binds K Z.kC ["system","steps"] []
 gD:gO K "unseen_rows" "unseen_rows" fQ Z.kS Z.kC
 wK:mg "_law_quot"=some (.ref Z.o6)
 yz:Binds K Z.oM ["_law_one","_law_other"] []
 tU:gO K "_law_quot" "_law_quot" jg Z.o6 Z.oM
 wM:mg "_law_less"=some (.ref Z.pe)
 yB:Binds K Z.oQ ["_law_one","_law_other"] []
 tW:gO K "_law_less" "_law_less" jm Z.pe Z.oQ
 pM:mg "_law_minus"=some (.ref Z.m4)
 rD:Binds K Z.mS ["_law_one","_law_other"] []
 m7:gO K "_law_minus" "_law_minus" ig Z.m4 Z.mS
 me:mg "_law_reduced"=some (.ref Z.jR)
 oq:Binds K Z.jN ["_law_rows","_law_wide"] []
 jV:gO K "_law_reduced" "_law_reduced" fk Z.jR Z.jN
 tw:mg "_law_within"=some (.ref Z.kZ)
 vp:Binds K Z.kI ["_law_rows","_law_others","_law_n"] []
 pU:gO K "_law_within" "_law_within" fY Z.kZ Z.kI
 yr:mg "_law_dot"=some (.ref Z.rK)
 Av:Binds K Z.rh ["_law_one","_law_other"] []
 vY:gO K "_law_dot" "_law_dot" j7 Z.rK Z.rh
 oC:mg "_law_look_rows"=some (.ref Z.iD)
 qq:Binds K Z.iu ["_law_parts_here","_law_steps"] []
 ku:gO K "_law_look_rows" "_law_look_rows" eh Z.iD Z.iu
 FY:mg "flat"=some (.ref Z.C4)
 KI:Binds K Z.CU ["lists"] []
 FC:gO K "flat" "flat" xJ Z.C4 Z.CU
 wJ:mg "additions"=some (.ref Z.oZ)
 yy:Binds K Z.oJ ["system","steps"] []
 tT:gO K "additions" "additions" je Z.oZ Z.oJ
 iG:mg "nought_row"=some (.ref Z.mU)
 jP:Binds K Z.mL ["many"] []
 iE:gO K "nought_row" "nought_row" h8 Z.mU Z.mL
 xQ:mg "solved"=some (.ref Z.xn)
 Au:Binds K Z.wY ["rows","wide","due"] []
 xv:gO K "solved" "solved" pZ Z.xn Z.wY
 DW:mg "solve"=some (.ref Z.y9)
 GI:Binds K Z.yY ["rows","wide","due"] []
 C8:gO K "solve" "solve" t9 Z.y9 Z.yY
 td:mg "weights_for"=some (.ref Z.kR)
 vn:Binds K Z.kB ["rows","wide","row"] []
 pS:gO K "weights_for" "weights_for" fP Z.kR Z.kB
 wH:mg "row_minus"=some (.ref Z.oX)
 yw:Binds K Z.oH ["one","other"] []
 tR:gO K "row_minus" "row_minus" jc Z.oX Z.oH
 so:KP K Z.a_System "moved" Z.jS
 tK:Binds K Z.jO ["self","state","puts"] []
 tX:gO K "moved" "System.moved" fo Z.jS Z.jO
 Bv:mg "course"=some (.ref Z.xu)
 Ek:Binds K Z.xa ["system","start","puts"] []
 AA:gO K "course" "course" p7 Z.xu Z.xa
 oa:mg "nothing_for"=some (.ref Z.kU)
 pO:Binds K Z.kE ["system","steps"] []
 lD:gO K "nothing_for" "nothing_for" fU Z.kU Z.kE
 Ac:mg "lacking"=some (.ref Z.uJ)
 BQ:Binds K Z.ux ["system","start","goal","steps"] []
 ye:gO K "lacking" "lacking" nD Z.uJ Z.ux
 JX:mg "cut"=some (.ref Z.GP)
 M6:Binds K Z.GB ["row","many","wide"] []
 KR:gO K "cut" "cut" Bh Z.GP Z.GB
 FZ:mg "come"=some (.ref Z.C5)
 KJ:Binds K Z.CV ["system","start","goal","steps"] []
 FD:gO K "come" "come" xK Z.C5 Z.CV
 vL:mg "told_by"=some (.ref Z.uE)
 xX:Binds K Z.uj ["system","asked","steps"] []
 uN:gO K "told_by" "told_by" nk Z.uE Z.uj
 Nb:gO K "law" "law" Bg Z.KO Z.Ky
 abs:mg "abs"=none
 len:mg "len"=none
 min:mg "min"=none
 range:mg "range"=none
 int:mg "int"=none
 isinstance:mg "isinstance"=none
 list:mg "list"=none
 bool:mg "bool"=none
 tuple:mg "tuple"=none
 all:mg "all"=none
 enumerate:mg "enumerate"=none
 zip:mg "zip"=none
 sum:mg "sum"=none
 reversed:mg "reversed"=none
 mg_NOUGHT:mg "NOUGHT"=some (.ref Z.a_NOUGHT)
 sq_NOUGHT:∀H,vV K H Z.a_NOUGHT [.int 0,.int 1]
 mg_ONE:mg "ONE"=some (.ref Z.a_ONE)
 sq_ONE:∀H,vV K H Z.a_ONE [.int 1,.int 1]
 mg_MOST_STATES:mg "MOST_STATES"=some (.int 8 Z.t_MOST_STATES)
 mg_MOST_PUTS:mg "MOST_PUTS"=some (.int 4 Z.t_MOST_PUTS)
 mg_MOST_LOOKS:mg "MOST_LOOKS"=some (.int 4 Z.t_MOST_LOOKS)
 mg_System:mg "System"=some (.ref Z.a_System)
 cl_System:IH K Z.a_System
 na_move:jT K Z.a_System "move"
 na_states:jT K Z.a_System "states"
 na_put:jT K Z.a_System "put"
 na_ins:jT K Z.a_System "ins"
 na_look:jT K Z.a_System "look"
 na_outs:jT K Z.a_System "outs"
 mk_System:Mk K Z.a_System Z.gL
section
variable {P:Program} {w:World} {K:W.Frag} {mg:Str->Option Value} {base:Heap} {Z:Ads}
theorem DA:aW ["_law_script"] ["_law_script"] (av j8):=by walk_at "d"
theorem DS (T:Txt K mg Z):cI P w K mg base gF 1 Z.rL Z.rj ["_law_script"] (NA K):=by
 refine T.vZ.ok DA (fun vs H Q E h=>?_) (fun cdv A outer s H vs Q E hr h=>?_)
 ·obtain ⟨a,ns,rfl,hS,hlen,k⟩:=h;rfl
 ·obtain ⟨a,ns,rfl,hS,hlen,k⟩:=h;refine ⟨_,(ay (aZ (eI (ae ao (ae ao (ae ao (ae (cE ["_law_cell"] [] [] (cM (zO Cg (pv 0) FN (yS ao))) (fun _=>(aM (i:=0) (show List.Nodup (α:=PySem.Str) ["_law_cell"] by decide +kernel))) (fun _=>cJ) (fun _=>(bY Aq (by rfl) T.abs PyProof.Rows.boot_abs (ae (pv 0) aj)))) aj))))))),?_⟩;refine aO (σ:=[some (.ref a)]) rfl ?_;walk_at "w";refine ⟨a,_,rfl,hS,fun l hl=>?_⟩;have hcl:(uR (ns.map V.int) none (some 63)).length<=63:=ah (yv _ _ _) (by simpa using hlen);refine ⟨l,rfl,⟨_,bM.of aF⟩,?_⟩;refine ft (K:=K) (a:=l) (xs:=uR (ns.map V.int) none (some 63)) (fun i ys H'=>H'=upd H l (.lst (uR (ns.map V.int) none (some 63)))/\∃cs:List Int,ys=cs.map V.int/\∀x∈cs,0<=x) (ah hcl (by decide)) ⟨rfl,[],rfl,fun _ z=>nomatch z⟩ (fun i ys H' _ ⟨e,_⟩=>by subst e;exact bM.of aF) ?_ ?_
  ·rintro i x ys H' hx hi ⟨rfl,cs,rfl,hcs⟩
   obtain ⟨z,rfl⟩:∃z,x=V.int z:=by
    have hm:x∈ns.map V.int:=List.mem_of_mem_drop (cH (aw hx));obtain ⟨z,_,e⟩:=aB.mp hm;exact ⟨z,e.symm⟩
   walk_at "w";refine ⟨rfl,cs++[if z < 0 then -z else z],by simp,fun x hx=>?_⟩;rcases ax.mp hx with hx | hx
   ·exact hcs x hx
   ·have e:x=if z < 0 then -z else z:=by simpa using hx
    subst e
    split <;> lia
  ·rintro ys H' hy ⟨rfl,cs,rfl,hcs⟩ p hp;walk_at "w";refine ⟨by show 4<=sizeLine;decide,fun b hb=>?_⟩;have n1:b≠p:=fun z=>by rw[z,aF] at hb;cases hb
   have hb1:(upd H l (.lst (uR (ns.map V.int) none (some 63)))) b=none:=by rw[br n1] at hb;exact hb
   have s1:aE H (upd H l (.lst (uR (ns.map V.int) none (some 63)))):=aE.new hl;refine k b _ (s1.free hb1) ⟨p,0,1234567891,0,cs,aF,by rw[br n1.symm];exact aF,by decide,by decide,by lia,hcs⟩ ((s1.trans (aE.new hp)).trans (aE.new hb))
theorem fF:aW ["_law_bag_here","_law_many","_law_more","_law_cell","_law_value","_law_first","_law_second"] ["_law_bag_here","_law_many"] (av jf):=by walk_at "d"
theorem b6 (T:Txt K mg Z):cI P w K mg base gF 1 Z.o5 Z.oK ["_law_bag_here","_law_many"] Lg:=by
 refine T.bU.ok fF (fun vs H Q E h=>?_) (fun cdv A outer s H vs Q E hr h=>?_)
 ·obtain ⟨p,n,rfl,⟨q,a,b,c,cs,hp,hq,ha,hc,hcl,hcs⟩,hn,hn2,k⟩:=h;rfl
 ·obtain ⟨p,n,rfl,⟨q,a,b,c,cs,hp,hq,ha,hc,hcl,hcs⟩,hn,hn2,k⟩:=h;have nqp:q≠p:=IF hp hq
  refine ⟨_,(ij (dm (bw fw (aV bI (pv 0) ao) ao (bK _)) (au (bf (i:=2) fF.nd rfl (Or.inl rfl) ao)
   (ij (dm (bw uZ (aV bI (pv 0) ao) (bY bL (by rfl) T.len bG (ae (aV bI (pv 0) ao) aj)) (bK _)) (au (bf (i:=3) fF.nd rfl (Or.inl rfl) (aV bI (aV bI (pv 0) ao) (aV bI (pv 0) ao)))
   (au (LV (pv 0) ao Ki ao Oi set_list)
   (au (dm (bw Bo (pv 3) ao (bK _)) (ay (fq (pv 3) (gR (pv 0) ao set_list))) b9)
   (ay (bf (i:=2) fF.nd rfl (Or.inl rfl) (bC eX (bC pH (pv 3) ao) ao)))))) b9)
   (ay (fq (bC pH (bC eX (bC cN (aV bI (pv 0) ao) ao) (pv 2)) ao) (gR (pv 0) ao set_list))))) b9)
   (au (dm (bw zU (aV bI (pv 0) ao) ao (bK _)) (au (bf (i:=4) fF.nd rfl (Or.inl rfl) (bC pH (aV bI (pv 0) ao) (pv 1)))
   (au (fq (bC jG (aV bI (pv 0) ao) (pv 1)) (gR (pv 0) ao set_list))
   (ay (aZ (pv 4))))) b9)
   (au (bf (i:=5) fF.nd rfl (Or.inl rfl) (bC pH (bC cN (aV bI (pv 0) ao) ao) ao))
   (au (bf (i:=6) fF.nd rfl (Or.inl rfl) (bC pH (bC cN (pv 5) ao) ao))
   (au (dm (bw zU (pv 1) ao (bK _)) (ay (aZ (bC pH (bC eX (bC cN (pv 6) ao) (pv 5)) (pv 1)))) b9)
   (ay (aZ (bC pH (bC jG (pv 6) ao) (pv 1))))))))),?_⟩
  refine aO (σ:=[some (.ref p),some (.int n),none,none,none,none,none]) rfl ?_;refine ⟨fun σ' H'=>∃(x y:Option V) (a' b' c':Int),σ'=[some (.ref p),some (.int n),x,y,none,none,none]/\H' p=some (.lst [.int a',.int b',.int c',.ref q])/\0<=a'/\0<=c'/\c'<=cs.length/\cR p H H',?_,?_⟩
  ·walk_at "w";refine jx (fun h0=>?_) (fun h0=>?_)
   ·walk_at "w";refine ⟨fun σ' H'=>∃(m:Int) (y:Option V) (a' c':Int),σ'=[some (.ref p),some (.int n),some (.int m),y,none,none,none]/\H' p=some (.lst [.int a',.int b,.int c',.ref q])/\0<=a'/\0<=c'/\c'<=cs.length/\cR p H H',?_,?_⟩
    ·walk_at "w";refine ⟨_,_,rfl,.inl (bM.of hq),?_⟩;walk_at "w";refine jx (fun h1=>?_) (fun h1=>?_)
     ·have h1':c < cs.length:=by simpa using of_decide_eq_true h1
      obtain ⟨z,hz⟩:∃z,cs[c.toNat]?=some z:=⟨_,af (by lia)⟩;have hz0:0<=z:=hcs z (aw hz);walk_at "w";refine b5 (bM.of hq) (v:=.int z) ?_ ?_
      ·have:=dQ (xs:=cs.map V.int) (j:=c.toNat) (v:=.int z) (by rw[aD,hz];rfl);rwa [Int.toNat_of_nonneg hc] at this
      walk_at "w";refine jx (fun h2=>?_) (fun h2=>?_)
      ·walk_at "w";exact ⟨_,_,z,c+1,rfl,aF,hz0,by lia,by lia,(cR.set hp).trans (cR.set aF)⟩
      ·walk_at "w";exact ⟨_,_,a,c+1,rfl,aF,ha,by lia,by lia,cR.set hp⟩
     ·walk_at "w";exact ⟨_,_,a,c,rfl,hp,ha,hc,hcl,cR.refl _⟩
    ·rintro σ' H' ⟨m,y,a',c',rfl,hp',ha',hc',hcl',u'⟩;walk_at "w";exact ⟨_,_,a',_,c',rfl,aF,ha',hc',hcl',u'.trans (cR.set hp')⟩
   ·walk_at "w";exact ⟨_,_,a,b,c,rfl,hp,ha,hc,hcl,cR.refl _⟩
  ·rintro σ' H' ⟨x,y,a',b',c',rfl,hp',ha',hc',hcl',u'⟩;have hq':H' q=some (.lst (cs.map V.int)):=u'.1 q _ hq nqp
   have sn:Sz 8999 n:=by
    show n.natAbs < 2^8999
    exact bA (show n.natAbs < 2^64 by lia) (ak (by decide) (by decide))
   walk_at "w";refine jx (fun h0=>?_) (fun h0=>?_)
   ·walk_at "w";refine fe (show (0:Int) < n from hn) ?_;walk_at "w";refine fe (show sD _ _ from ⟨by lia,sn⟩) ?_;walk_at "w";refine k _ _ (ng _ (by lia)) (iX _ hn) ⟨q,_,b',c',cs,aF,by rw[br nqp];exact hq',?_,hc',hcl',hcs⟩ (u'.trans (cR.set hp'));rw[cz _ (by lia)];exact Int.ediv_nonneg ha' (by lia)
   ·walk_at "w";refine jx (fun h1=>?_) (fun h1=>?_)
    ·walk_at "w";refine fe (show (0:Int) < n from hn) ?_;exact k _ _ (ng _ (by lia)) (iX _ hn) ⟨q,a',b',c',cs,hp',hq',ha',hc',hcl',hcs⟩ u'
    ·walk_at "w";refine fe (show sD _ _ from ⟨by decide,by show (3:Nat) < 2^8999;exact bA (show 3 < 2^2 by decide) (ak (by decide) (by decide))⟩) ?_;walk_at "w";refine fe (show (0:Int) < n from hn) ?_;exact k _ _ (ng _ (by lia)) (iX _ hn) ⟨q,a',b',c',cs,hp',hq',ha',hc',hcl',hcs⟩ u'
theorem AZ:∃x1 x2 x3 x4 x5 x6 x7 x8 x9 x10 x11 x12 x13 x14 x15 x16:Expr,x1=(Expr.Constant (Const.int 0) 0 ⟨339,16,339,17⟩)/\x2=(Expr.Constant (Const.int 1) 0 ⟨339,19,339,20⟩)/\x3=(Expr.Constant (Const.int 1) 0 ⟨339,22,339,23⟩)/\x4=(Expr.Constant (Const.int 1) 0 ⟨339,25,339,26⟩)/\x5=(Expr.Constant (Const.int 2) 0 ⟨339,28,339,29⟩)/\x6=(Expr.Constant (Const.int 2) 0 ⟨339,31,339,32⟩)/\x7=(Expr.Constant (Const.int 3) 0 ⟨339,34,339,35⟩)/\x8=(Expr.Constant (Const.int 4) 0 ⟨339,37,339,38⟩)/\x9=(Expr.Constant (Const.int 0) 0 ⟨340,17,340,18⟩)/\x10=(Expr.Constant (Const.int 1) 0 ⟨340,20,340,21⟩)/\x11=(Expr.Constant (Const.int 1) 0 ⟨340,23,340,24⟩)/\x12=(Expr.Constant (Const.int 1) 0 ⟨340,26,340,27⟩)/\x13=(Expr.Constant (Const.int 2) 0 ⟨340,29,340,30⟩)/\x14=(Expr.Constant (Const.int 2) 0 ⟨340,32,340,33⟩)/\x15=(Expr.Constant (Const.int 3) 0 ⟨340,35,340,36⟩)/\x16=(Expr.Constant (Const.int 4) 0 ⟨340,38,340,39⟩)/\aQ fG=[ (Stmt.Assign (targets:=[(Expr.Name "_law_n" ⟨336,4,336,10⟩)]) (value:=(Expr.Call (func:=(Expr.Name "_law_take" ⟨336,13,336,22⟩)) (args:=[ (Expr.Name "_law_bag_here" ⟨336,23,336,36⟩),(Expr.Constant (Const.int 5) 0 ⟨336,38,336,39⟩)]) (keywords:=[]) (pos:=⟨336,13,336,40⟩))) (pos:=⟨336,4,336,40⟩)),(Stmt.If (test:=(Expr.Compare (left:=(Expr.Call (func:=(Expr.Name "_law_take" ⟨337,7,337,16⟩)) (args:=[ (Expr.Name "_law_bag_here" ⟨337,17,337,30⟩),(Expr.Constant (Const.int 8) 0 ⟨337,32,337,33⟩)]) (keywords:=[]) (pos:=⟨337,7,337,34⟩))) (ops:=[PySem.CmpOp.Eq]) (comparators:=[(Expr.Constant (Const.int 7) 0 ⟨337,38,337,39⟩)]) (pos:=⟨337,7,337,39⟩))) (body:=[ (Stmt.Assign (targets:=[(Expr.Name "_law_n" ⟨338,8,338,14⟩)]) (value:=(Expr.Constant (Const.int 5) 0 ⟨338,17,338,18⟩)) (pos:=⟨338,8,338,18⟩))]) (orelse:=[]) (pos:=⟨337,4,338,18⟩)),(Stmt.Assign (targets:=[(Expr.Name "_law_ins" ⟨339,4,339,12⟩)]) (value:=(Expr.Subscript (value:=(Expr.List (elts:=[x1,x2,x3,x4,x5,x6,x7,x8]) (pos:=⟨339,15,339,39⟩))) (slice:=(Expr.Call (func:=(Expr.Name "_law_take" ⟨339,40,339,49⟩)) (args:=[ (Expr.Name "_law_bag_here" ⟨339,50,339,63⟩),(Expr.Constant (Const.int 8) 0 ⟨339,65,339,66⟩)]) (keywords:=[]) (pos:=⟨339,40,339,67⟩))) (pos:=⟨339,15,339,68⟩))) (pos:=⟨339,4,339,68⟩)),(Stmt.Assign (targets:=[(Expr.Name "_law_outs" ⟨340,4,340,13⟩)]) (value:=(Expr.Subscript (value:=(Expr.List (elts:=[x9,x10,x11,x12,x13,x14,x15,x16]) (pos:=⟨340,16,340,40⟩))) (slice:=(Expr.Call (func:=(Expr.Name "_law_take" ⟨340,41,340,50⟩)) (args:=[ (Expr.Name "_law_bag_here" ⟨340,51,340,64⟩),(Expr.Constant (Const.int 8) 0 ⟨340,66,340,67⟩)]) (keywords:=[]) (pos:=⟨340,41,340,68⟩))) (pos:=⟨340,16,340,69⟩))) (pos:=⟨340,4,340,69⟩)),(Stmt.If (test:=(Expr.Compare (left:=(Expr.Name "_law_n" ⟨341,7,341,13⟩)) (ops:=[PySem.CmpOp.Eq]) (comparators:=[(Expr.Constant (Const.int 5) 0 ⟨341,17,341,18⟩)]) (pos:=⟨341,7,341,18⟩))) (body:=[ (Stmt.Assign (targets:=[ (Expr.Tuple (elts:=[(Expr.Name "_law_ins" ⟨342,8,342,16⟩),(Expr.Name "_law_outs" ⟨342,18,342,27⟩)]) (k:=0) (pos:=⟨342,8,342,27⟩))]) (value:=(Expr.Tuple (elts:=[ (Expr.Call (func:=(Expr.Name "min" ⟨342,31,342,34⟩)) (args:=[ (Expr.Name "_law_ins" ⟨342,35,342,43⟩),(Expr.Constant (Const.int 2) 0 ⟨342,45,342,46⟩)]) (keywords:=[]) (pos:=⟨342,31,342,47⟩)),(Expr.Call (func:=(Expr.Name "min" ⟨342,49,342,52⟩)) (args:=[ (Expr.Name "_law_outs" ⟨342,53,342,62⟩),(Expr.Constant (Const.int 2) 0 ⟨342,64,342,65⟩)]) (keywords:=[]) (pos:=⟨342,49,342,66⟩))]) (k:=0) (pos:=⟨342,30,342,67⟩))) (pos:=⟨342,8,342,67⟩))]) (orelse:=[]) (pos:=⟨341,4,342,67⟩)),(Stmt.Assign (targets:=[(Expr.Name "_law_wide" ⟨343,4,343,13⟩)]) (value:=(Expr.Subscript (value:=(Expr.List (elts:=[ (Expr.Constant (Const.int 4) 0 ⟨343,17,343,18⟩),(Expr.Constant (Const.int 4) 0 ⟨343,20,343,21⟩),(Expr.Constant (Const.int 9) 0 ⟨343,23,343,24⟩),(Expr.Constant (Const.int 1000000) 0 ⟨343,26,343,33⟩)]) (pos:=⟨343,16,343,34⟩))) (slice:=(Expr.Call (func:=(Expr.Name "_law_take" ⟨343,35,343,44⟩)) (args:=[ (Expr.Name "_law_bag_here" ⟨343,45,343,58⟩),(Expr.Constant (Const.int 4) 0 ⟨343,60,343,61⟩)]) (keywords:=[]) (pos:=⟨343,35,343,62⟩))) (pos:=⟨343,16,343,63⟩))) (pos:=⟨343,4,343,63⟩)),(Stmt.If (test:=(Expr.Compare (left:=(Expr.Name "_law_wide" ⟨344,7,344,16⟩)) (ops:=[PySem.CmpOp.Gt]) (comparators:=[(Expr.Constant (Const.int 9) 0 ⟨344,19,344,20⟩)]) (pos:=⟨344,7,344,20⟩))) (body:=[ (Stmt.Assign (targets:=[(Expr.Name "_law_n" ⟨345,8,345,14⟩)]) (value:=(Expr.Call (func:=(Expr.Name "min" ⟨345,17,345,20⟩)) (args:=[ (Expr.Name "_law_n" ⟨345,21,345,27⟩),(Expr.Constant (Const.int 2) 0 ⟨345,29,345,30⟩)]) (keywords:=[]) (pos:=⟨345,17,345,31⟩))) (pos:=⟨345,8,345,31⟩))]) (orelse:=[]) (pos:=⟨344,4,345,31⟩)),(Stmt.Return (value:=(some (Expr.Tuple (elts:=[ (Expr.Name "_law_n" ⟨346,12,346,18⟩),(Expr.Name "_law_ins" ⟨346,20,346,28⟩),(Expr.Name "_law_outs" ⟨346,30,346,39⟩),(Expr.Name "_law_wide" ⟨346,41,346,50⟩)]) (k:=0) (pos:=⟨346,11,346,51⟩)))) (pos:=⟨346,4,346,51⟩))]:=⟨_,_,_,_,_,_,_,_,_,_,_,_,_,_,_,_,rfl,rfl,rfl,rfl,rfl,rfl,rfl,rfl,rfl,rfl,rfl,rfl,rfl,rfl,rfl,rfl,by with_unfolding_all rfl⟩
theorem d7:aW ["_law_bag_here","_law_n","_law_ins","_law_outs","_law_wide"] ["_law_bag_here"] (av fG):=by walk_at "d"
theorem AU (T:Txt K mg Z):cI P w K mg base gF 2 Z.mY Z.mP ["_law_bag_here"] Hu:=by
 refine T.rT.ok d7 (fun vs H Q E h=>?_) (fun cdv A outer s H vs Q E hr h=>?_)
 ·obtain ⟨b,rfl,hB,k⟩:=h;rfl
 ·obtain ⟨b,rfl,hB,k⟩:=h;obtain ⟨x1,x2,x3,x4,x5,x6,x7,x8,x9,x10,x11,x12,x13,x14,x15,x16,hx1,hx2,hx3,hx4,hx5,hx6,hx7,hx8,hx9,hx10,hx11,hx12,hx13,hx14,hx15,hx16,hbd⟩:=AZ;rw[hbd]
  refine ⟨_,(au (bf (i:=1) d7.nd rfl (Or.inl rfl) (cO (b6 T) hr T.bR T.bU.kp T.bV (ae (pv 0) (ae ao aj))))
   (ij (dm (bw fw (cO (b6 T) hr T.bR T.bU.kp T.bV (ae (pv 0) (ae ao aj))) ao (bK _)) (ay (bf (i:=1) d7.nd rfl (Or.inl rfl) ao)) b9)
   (au (bf (i:=2) d7.nd rfl (Or.inl rfl) (aV bI (eI (dU hx1 ao (dU hx2 ao (dU hx3 ao (dU hx4 ao (dU hx5 ao (dU hx6 ao (dU hx7 ao (dU hx8 ao aj))))))))) (cO (b6 T) hr T.bR T.bU.kp T.bV (ae (pv 0) (ae ao aj)))))
   (au (bf (i:=3) d7.nd rfl (Or.inl rfl) (aV bI (eI (dU hx9 ao (dU hx10 ao (dU hx11 ao (dU hx12 ao (dU hx13 ao (dU hx14 ao (dU hx15 ao (dU hx16 ao aj))))))))) (cO (b6 T) hr T.bR T.bU.kp T.bV (ae (pv 0) (ae ao aj)))))
   (ij (dm (bw fw (pv 1) ao (bK _)) (ay (JJ (i:=2) (j:=3) rfl d7.nd rfl rfl (by decide) rfl rfl (ae (bY (qo rfl) (by rfl) T.min PyProof.Rows.boot_min (ae (pv 2) (ae ao aj))) (ae (bY (qo rfl) (by rfl) T.min PyProof.Rows.boot_min (ae (pv 3) (ae ao aj))) aj)) rfl)) b9)
   (au (bf (i:=4) d7.nd rfl (Or.inl rfl) (aV bI (eI (ae ao (ae ao (ae ao (ae ao aj))))) (cO (b6 T) hr T.bR T.bU.kp T.bV (ae (pv 0) (ae ao aj)))))
   (ij (dm (bw zU (pv 4) ao (bK _)) (ay (bf (i:=1) d7.nd rfl (Or.inl rfl) (bY (qo rfl) (by rfl) T.min PyProof.Rows.boot_min (ae (pv 1) (ae ao aj))))) b9)
   (ay (aZ (dA (ae (pv 1) (ae (pv 2) (ae (pv 3) (ae (pv 4) aj)))))))))))))),?_⟩
  refine aO (σ:=[some (.ref b),none,none,none,none]) rfl ?_;walk_at "w";refine ⟨b,5,rfl,hB,by decide,by decide,fun n H1 n0 n1 B1 u1=>?_⟩;obtain ⟨n,rfl⟩:=ow n0;walk_at "w";refine ⟨fun σ' H'=>(∃n:Nat,σ'=[some (.ref b),some (.int n),none,none,none]/\n<=5)/\jz H' b/\cR b H H',?_,?_⟩
  ·walk_at "w";refine ⟨b,8,rfl,B1,by decide,by decide,fun v H2 v0 v1 B2 u2=>?_⟩;walk_at "w";refine jx (fun _=>?_) (fun _=>?_)
   ·walk_at "w";exact ⟨⟨5,rfl,by decide⟩,B2,u1.trans u2⟩
   ·walk_at "w";exact ⟨⟨n,rfl,by lia⟩,B2,u1.trans u2⟩
  clear n0 n1 u1 B1;rintro σ' H1 ⟨⟨n,rfl,n5⟩,B1,u1⟩;walk_at "w";refine dk fun l0 H2 s2 n2 g2=>?_
  walk_at "w";refine ⟨b,8,rfl,B1.same s2,by decide,by decide,fun v H3 v0 v1 B3 u3=>?_⟩;have g3:=u3.other (fun z=>B1.at (by rw[<- z];exact n2)) g2;obtain ⟨x,ex,mx,_⟩:=tL (xs:=[V.int 0,V.int 1,V.int 1,V.int 1,V.int 2,V.int 2,V.int 3,V.int 4]) v0 (by simpa using v1)
  obtain ⟨i,rfl,hi⟩:∃z:Nat,x=.int z/\z<=4:=by
   simp only[aI,bp,or_false] at mx;rcases mx with rfl | rfl | rfl | rfl | rfl | rfl | rfl | rfl
   ·exact ⟨0,rfl,by decide⟩
   ·exact ⟨1,rfl,by decide⟩
   ·exact ⟨1,rfl,by decide⟩
   ·exact ⟨1,rfl,by decide⟩
   ·exact ⟨2,rfl,by decide⟩
   ·exact ⟨2,rfl,by decide⟩
   ·exact ⟨3,rfl,by decide⟩
   ·exact ⟨4,rfl,by decide⟩
  walk_at "w";refine b5 (bM.of g3) ex ?_;clear ex mx g3 g2;walk_at "w";refine dk fun l1 H4 s4 n4 g4=>?_
  walk_at "w";refine ⟨b,8,rfl,B3.same s4,by decide,by decide,fun t H5 t0 t1 B5 u5=>?_⟩;have g5:=u5.other (fun z=>B3.at (by rw[<- z];exact n4)) g4;obtain ⟨x,ex,mx,_⟩:=tL (xs:=[V.int 0,V.int 1,V.int 1,V.int 1,V.int 2,V.int 2,V.int 3,V.int 4]) t0 (by simpa using t1)
  obtain ⟨o,rfl,ho⟩:∃z:Nat,x=.int z/\z<=4:=by
   simp only[aI,bp,or_false] at mx;rcases mx with rfl | rfl | rfl | rfl | rfl | rfl | rfl | rfl
   ·exact ⟨0,rfl,by decide⟩
   ·exact ⟨1,rfl,by decide⟩
   ·exact ⟨1,rfl,by decide⟩
   ·exact ⟨1,rfl,by decide⟩
   ·exact ⟨2,rfl,by decide⟩
   ·exact ⟨2,rfl,by decide⟩
   ·exact ⟨3,rfl,by decide⟩
   ·exact ⟨4,rfl,by decide⟩
  walk_at "w";refine b5 (bM.of g5) ex ?_;clear ex mx g5 g4;have u15:=(((u1.same s2).trans u3).same s4).trans u5;walk_at "w";refine ⟨fun σ' H'=>(∃i o:Nat,σ'=[some (.ref b),some (.int n),some (.int i),some (.int o),none]/\i<=4/\o<=4/\(n=5->i<=2/\o<=2))/\jz H' b/\cR b H H',?_,?_⟩
  ·walk_at "w";refine jx (fun h0=>?_) (fun h0=>?_)
   ·walk_at "w";refine ⟨⟨min i 2,min o 2,?_,by lia,by lia,fun _=>⟨by lia,by lia⟩⟩,B5,u15⟩;have e1:(if (2:Int) < (i:Int) then (2:Int) else (i:Int))=((min i 2:Nat):Int):=by split <;> lia
    have e2:(if (2:Int) < (o:Int) then (2:Int) else (o:Int))=((min o 2:Nat):Int):=by split <;> lia
    rw[<- e1,<- e2];rfl
   ·walk_at "w";exact ⟨⟨i,o,rfl,hi,ho,fun z=>absurd (decide_eq_true (show (n:Int)=5 by lia)) h0⟩,B5,u15⟩
  clear hi ho u15 B5 u5 u3 u1;rintro σ' H5 ⟨⟨i,o,rfl,hi,ho,h5⟩,B5,u5⟩;walk_at "w";refine dk fun l2 H6 s6 n6 g6=>?_
  walk_at "w";refine ⟨b,4,rfl,B5.same s6,by decide,by decide,fun v H7 v0 v1 B7 u7=>?_⟩;have g7:=u7.other (fun z=>B5.at (by rw[<- z];exact n6)) g6;obtain ⟨x,ex,mx,_⟩:=tL (xs:=[V.int 4,V.int 4,V.int 9,V.int 1000000]) v0 (by simpa using v1)
  obtain ⟨w,rfl,hw⟩:∃w:Nat,x=.int w/\(w=4\/w=9\/w=1000000):=by
   simp only[aI,bp,or_false] at mx;rcases mx with rfl | rfl | rfl | rfl
   ·exact ⟨4,rfl,.inl rfl⟩
   ·exact ⟨4,rfl,.inl rfl⟩
   ·exact ⟨9,rfl,.inr (.inl rfl)⟩
   ·exact ⟨1000000,rfl,.inr (.inr rfl)⟩
  walk_at "w";refine b5 (bM.of g7) ex ?_;have u07:=(u5.same s6).trans u7;walk_at "w";refine ⟨fun σ' H'=>(∃n:Nat,σ'=[some (.ref b),some (.int n),some (.int i),some (.int o),some (.int w)]/\n<=5/\(w=4\/w=9\/(w=1000000/\n<=2))/\(n=5->i<=2/\o<=2))/\jz H' b/\cR b H H',?_,?_⟩
  ·walk_at "w";refine jx (fun h0=>?_) (fun h0=>?_)
   ·walk_at "w";refine ⟨⟨min n 2,?_,by lia,by lia,fun z=>by lia⟩,B7,u07⟩;have e1:(if (2:Int) < (n:Int) then (2:Int) else (n:Int))=((min n 2:Nat):Int):=by split <;> lia
    rw[<- e1];rfl
   ·walk_at "w";refine ⟨⟨n,rfl,n5,?_,h5⟩,B7,u07⟩;rcases hw with z | z | z
    ·exact .inl z
    ·exact .inr (.inl z)
    ·exact absurd (decide_eq_true (show (9:Int) < (w:Int) by lia)) h0
  ·clear h5 n5;rintro σ' H8 ⟨⟨n',rfl,n5,hwn,h5⟩,B8,u8⟩;walk_at "w";refine cD fun r H9 s9 g9=>?_
   exact k r n' i o w H9 g9 n5 hi ho hwn h5 (B8.same s9) (u8.same s9)
theorem oz:aW ["_law_top","_law_bottom","_law_one","_law_other"] ["_law_top","_law_bottom"] (av j6):=by walk_at "d"
theorem gU (T:Txt K mg Z):cI P w K mg base gF 1 Z.rJ Z.rg ["_law_top","_law_bottom"] Nw:=by
 refine T.fI.ok oz (fun vs H Q E h=>?_) (fun cdv A outer s H vs Q E hr h=>?_)
 ·obtain ⟨t,b,rfl,hb,hs,k⟩:=h;rfl
 ·obtain ⟨t,b,rfl,hb,hs,k⟩:=h
  refine ⟨_,(au (bf (i:=2) oz.nd rfl (Or.inl rfl) (bY Aq (by rfl) T.abs PyProof.Rows.boot_abs (ae (pv 0) aj)))
   (au (bf (i:=3) oz.nd rfl (Or.inl rfl) (pv 1))
   (au (zM PassesOwn.never (bw DN (pv 2) ao (bK _))
    (ay (JJ (i:=2) (j:=3) rfl oz.nd rfl rfl (by decide) rfl rfl (ae (bC pH (pv 3) (pv 2)) (ae (pv 2) aj)) rfl)))
   (ay (aZ (dA (ae (bC jG (pv 0) (pv 3)) (ae (bC jG (pv 1) (pv 3)) aj)))))))),?_⟩
  refine aO (σ:=[some (.int t),some (.int b),none,none]) rfl ?_;walk_at "w"
  refine Ca (fun σ' H'=>∃(u v:Int),σ'=[some (.int t),some (.int b),some (.int u),some (.int v)]/\H'=H/\0<=u/\0 < v/\Int.gcd u v=Int.gcd t b) (fun σ' _=>match σ' with | [_,_,some (.int u),_]=>u.natAbs | _=>0) ⟨_,b,rfl,rfl,by split <;> lia,hb,by
   split
   ·rw[Int.neg_gcd]
   ·rfl⟩ ?_
  rintro σ' H' ⟨u,v,rfl,rfl,hu,hv,hg⟩;walk_at "w";refine jx (fun h=>?_) (fun h=>?_)
  ·have hu0:u≠0:=fun z=>by subst z;simp at h
   walk_at "w";refine fe (show (0:Int) < u by lia) ?_;walk_at "w";have h1:=ng v hu0;have h2:=iX v (show 0 < u by lia);exact ⟨⟨v % u,u,rfl,rfl,h1,by lia,by rw[lK,Kl,lK];exact hg⟩,by show (v % u).natAbs < u.natAbs;lia⟩
  ·have hu0:u=0:=by
    by_cases z:u=0
    ·exact z
    ·exfalso;apply h;simp [z]
   subst hu0
   have e:v=g t b:=by
    unfold g;rw[<- hg,Int.gcd_zero_left]
    lia
   have hgs:Sz 8999 v:=hs.le (by
    rw[e];have h1:(g t b).natAbs=Int.gcd t b:=by unfold g;simp
    rw[h1];exact my (by lia) (by have:=eU (a:=t) (b:=b);exact fJ.mpr this |> fun z=>by simpa using z))
   walk_at "w";refine fe (show sD _ _ from ⟨by lia,hgs⟩) ?_;walk_at "w";refine fe (show sD _ _ from ⟨by lia,hgs⟩) ?_;walk_at "w";refine cD fun r H' s' h'=>?_
   rw[cz _ (by lia),cz _ (by lia),e] at h';exact k r H' s' h'
theorem sT:aW ["_law_bag_here","_law_wide","_law_way"] ["_law_bag_here","_law_wide"] (av gA):=by walk_at "d"
theorem sZ (T:Txt K mg Z):cI P w K mg base gF 2 Z.lA Z.kK ["_law_bag_here","_law_wide"] (EG K):=by
 refine T.lE.ok sT (fun vs H Q E h=>?_) (fun cdv A outer s H vs Q E hr h=>?_)
 ·obtain ⟨b,w,rfl,hB,w0,w1,k⟩:=h;rfl
 ·obtain ⟨b,w,rfl,hB,w0,w1,k⟩:=h
  refine ⟨_,(au (bf (i:=2) sT.nd rfl (Or.inl rfl) (cO (b6 T) hr T.bR T.bU.kp T.bV (ae (pv 0) (ae ao aj))))
   (au (dm (bw uZ (pv 2) ao (bK _)) (ay (aZ (dA (ae ao (ae ao aj))))) b9)
   (au (dm (bw uZ (pv 2) ao (bK _)) (ay (aZ (dA (ae (bC ke (cO (b6 T) hr T.bR T.bU.kp T.bV (ae (pv 0) (ae ao aj))) ao) (ae ao aj))))) b9)
   (au (dm (bw fw (pv 2) ao (bK _)) (ay (aZ (cO (gU T) hr T.fz T.fI.kp T.gZ (ae (bC ke (cO (b6 T) hr T.bR T.bU.kp T.bV (ae (pv 0) (ae ao aj))) ao) (ae (bC eX ao (cO (b6 T) hr T.bR T.bU.kp T.bV (ae (pv 0) (ae ao aj)))) aj))))) b9)
   (ay (aZ (cO (gU T) hr T.fz T.fI.kp T.gZ (ae (bC ke (cO (b6 T) hr T.bR T.bU.kp T.bV (ae (pv 0) (ae (bC eX (bC cN ao (pv 1)) ao) aj))) (pv 1)) (ae (bC eX ao (cO (b6 T) hr T.bR T.bU.kp T.bV (ae (pv 0) (ae (pv 1) aj)))) aj))))))))),?_⟩
  refine aO (σ:=[some (.ref b),some (.int w),none]) rfl ?_;walk_at "w";refine ⟨b,8,rfl,hB,by decide,by decide,fun v H1 v0 v1 B1 u1=>?_⟩;walk_at "w";refine jx (fun h0=>?_) (fun h0=>?_)
  ·walk_at "w";refine cD fun r H2 s2 g2=>?_
   exact k r 0 _ ⟨aX _,by show 1<=_;lia⟩ (cw.mk g2 rfl) (B1.same s2) (u1.same s2)
  walk_at "w";refine jx (fun h1=>?_) (fun h1=>?_)
  ·walk_at "w";refine ⟨b,7,rfl,B1,by decide,by decide,fun a H2 a0 a1 B2 u2=>?_⟩;walk_at "w";refine cD fun r H3 s3 g3=>?_
   exact k r ((a - 3:Int):Rat) _ ⟨by show (a - 3).natAbs<=_;lia,by show 1<=_;lia⟩ (cw.mk g3 rfl) (B2.same s3) ((u1.trans u2).same s3)
  walk_at "w";refine jx (fun h2=>?_) (fun h2=>?_)
  ·walk_at "w";refine ⟨b,13,rfl,B1,by decide,by decide,fun a H2 a0 a1 B2 u2=>?_⟩;walk_at "w";refine ⟨b,6,rfl,B2,by decide,by decide,fun c H3 c0 c1 B3 u3=>?_⟩;walk_at "w";refine ⟨_,_,rfl,by lia,(Jb (by lia)).mono (by decide),fun r H4 s4 g4=>?_⟩;obtain ⟨q,e,d,_⟩:=J5 (t:=a - 6) (b:=1+c) (W:=max w 6) (by lia) (by lia) (by lia);exact k r q _ d (cw.mk g4 e) (B3.same s4) (((u1.trans u2).trans u3).same s4)
  walk_at "w";refine ⟨b,_,rfl,B1,by lia,by lia,fun a H2 a0 a1 B2 u2=>?_⟩;walk_at "w";refine ⟨b,_,rfl,B2,by lia,by lia,fun c H3 c0 c1 B3 u3=>?_⟩;walk_at "w";refine ⟨_,_,rfl,by lia,(Jb (by lia)).mono (by decide),fun r H4 s4 g4=>?_⟩;obtain ⟨q,e,d,_⟩:=J5 (t:=a - w) (b:=1+c) (W:=max w 6) (by lia) (by lia) (by lia);exact k r q _ d (cw.mk g4 e) (B3.same s4) (((u1.trans u2).trans u3).same s4)
theorem Dz:aW ["_law_bag_here","_law_many","_law_wide"] ["_law_bag_here","_law_many","_law_wide"] (av j5):=by walk_at "d"
theorem sY (T:Txt K mg Z):cI P w K mg base gF 3 Z.rH Z.qZ ["_law_bag_here","_law_many","_law_wide"] (Jt K):=by
 refine T.kr.ok Dz (fun vs H Q E h=>?_) (fun cdv A outer s H vs Q E hr h=>?_)
 ·obtain ⟨b,m,w,rfl,hB,hm,w0,w1,k⟩:=h;rfl
 ·obtain ⟨b,m,w,rfl,hB,hm,w0,w1,k⟩:=h;refine ⟨_,(ay (aZ (cE ["_law_k"] ["_law_bag_here","_law_wide"] [0,2] (cv rfl T.range (ae (pv 1) aj)) (fun _=>(aM (i:=0) (show List.Nodup (α:=PySem.Str) ["_law_k","_law_bag_here","_law_wide"] by decide +kernel))) (fun _=>cJ) (fun _=>(cO (sZ T) hr T.oh T.lE.kp T.pP (ae (pv 1) (ae (pv 2) aj))))))),?_⟩;refine aO (σ:=[some (.ref b),some (.int m),some (.int w)]) rfl ?_;walk_at "w";refine ⟨by lia,by lia,?_⟩;refine ID (n:=m) (cw K) (Dr (max w 6)) hB hm (fun a u B=>a.upto u B) ?_ ?_
  ·rintro i H' NY NN hi u B k1;walk_at "w";exact ⟨b,w,rfl,B,w0,w1,fun r x H2 hx h2 B2 u2=>k1 _ x _ u2 B2 hx h2⟩
  ·rintro ys cs H' p hp u B g lc hc pr nx;exact k p cs H' hp ⟨ys,g,pr⟩ lc hc B u
theorem jE:aW ["_law_bag_here","_law_n","_law_way","_law_first","_law_wide","_law_move_here","_law_i","_law_row_here","_law_j"] ["_law_bag_here","_law_n","_law_way","_law_first","_law_wide"] (av jk):=by walk_at "d"
theorem CA (T : Txt K mg Z) : cI P w K mg base gF 4 Z.o9 Z.oP ["_law_bag_here", "_law_n", "_law_way", "_law_first", "_law_wide"] (Jm K) := by
  have rN := sY (P := P) (w := w) (base := base) T;have jt := b6 (P := P) (w := w) (base := base) T;refine T.tV.ok jE (fun vs H Q E h => ?_) (fun cdv A outer s H vs Q E hr h => ?_)
  · obtain ⟨b, n, w, way, first, rfl, hB, n8, w0, w1, k⟩ := h;rfl
  · obtain ⟨b, n, w, way, first, rfl, hB, n8, w0, w1, k⟩ := h
    refine ⟨_, (au (bf (i := 5) jE.nd rfl (Or.inl rfl) (eI aj))
      (au (eF PassesOwn.never rfl (cv rfl T.range (ae (pv 1) aj)) (aM (i := 6) jE.nd)
        (au (bf (i := 7) jE.nd rfl (Or.inl rfl) (cO rN hr T.lQ T.kr.kp T.oo (ae (pv 0) (ae (pv 1) (ae (pv 4) aj)))))
      (au (eF PassesOwn.never rfl (cv rfl T.range (ae (pv 1) aj)) (aM (i := 8) jE.nd)
        (ij (dm (PW.pt (j9 (bw fw (pv 2) ao (bK _)) (mD (bw zU (cO jt hr T.bR T.bU.kp T.bV (ae (pv 0) (ae ao aj))) ao (bK _))))) (ay (fq (dA (ae ao (ae ao aj))) (gR (pv 7) (pv 8) set_list))) b9)
      (ij (dm (PW.pt (j9 (bw fw (pv 2) ao (bK _)) (mD (bw uZ (bC eX (pv 6) ao) (pv 1) (bK _))))) (ay (fq (dA (ae (jo BK (by rfl) T.int PyProof.Rows.boot_int (ae (wx fw (pv 8) (bC eX (pv 6) ao) (bK _)) aj)) (ae ao aj))) (gR (pv 7) (pv 8) set_list))) b9)
      (ij (dm (PW.pt (wo (PW.pt (j9 (bw fw (pv 2) ao (bK _)) (j9 (bw Bo (pv 6) (pv 3) (bK _)) (mD (bw uZ (pv 8) (pv 3) (bK _)))))) (qM (PW.pt (j9 (bw fw (pv 2) ao (bK _)) (j9 (bw uZ (pv 6) (pv 3) (bK _)) (mD (bw Bo (pv 8) (pv 3) (bK _))))))))) (ay (fq (dA (ae ao (ae ao aj))) (gR (pv 7) (pv 8) set_list))) b9)
      (ay (dm (bw fw (pv 2) ao (bK _)) (ay (fq (dA (ae (bC cN (aV bI (eI (ae ao (ae ao (ae (wq qG ao) (ae ao aj))))) (bC pH (pv 3) ao)) (jo BK (by rfl) T.int PyProof.Rows.boot_int (ae (wx fw (pv 6) (pv 8) (bK _)) aj))) (ae ao aj))) (gR (pv 7) (pv 8) set_list))) b9))))))
      (ay (jF (yj cW gQ gP qf (pv 5) (ae (pv 7) aj)))))))
      (ay (aZ (pv 5))))), ?_⟩
    refine aO (σ := [some (.ref b), some (.int n), some (.int way), some (.int first), some (.int w), none, none, none, none]) rfl ?_;have W1 : 1 ≤ max w 6 := by lia
    walk_at "w";refine dk fun r H1 s1 n1 g1 => ?_
    have rb : r ≠ b := fun z => hB.at (by rw [<- z]; exact n1)
    obtain ⟨q0, I0, xs0, gq0⟩ := hB.inner;have I1 : Inner H1 b q0 := (s1.upto (p := b)).2 _ I0;obtain ⟨A, eA⟩ : ∃ A : Addr → Prop, A = fun q => H q = none /\ q ≠ r := ⟨_, rfl⟩
    have nb : ¬ A b := by rw [eA]; exact fun z => hB.at z.1
    have nr : ¬ A r := by rw [eA]; exact fun z => z.2 rfl
    have nq : ¬ A q0 := by rw [eA]; exact fun z => by have z1 := z.1; rw [gq0] at z1; cases z1
    have rq : r ≠ q0 := fun z => by rw [<- z, n1] at gq0; cases gq0
    walk_at "w";refine ⟨by lia, by lia, ?_⟩;refine eH (n := n) (fun i σ' H' => ∃ (x1 x2 x3 : Option V) (us : List V), σ' = [some (.ref b), some (.int n), some (.int way), some (.int first), some (.int w), some (.ref r), x1, x2, x3] /\ H' r = some (.lst us) /\ us.length = i /\ us.Nodup /\ (∀ x ∈ us, iJ K A H' n (Dr (max w 6)) x) /\ jz H' b /\ Inner H' b q0 /\ cR b H H') ⟨none, none, none, [], rfl, g1, rfl, Nf, (fun _ z => nomatch z), hB.same s1, I1, s1.upto⟩ ?_ ?_
    · rintro i σ' H' hi ⟨x1, x2, x3, us, rfl, gu, lu, nd, ru, B', I', u'⟩;walk_at "w";refine ⟨b, n, w, rfl, B', by lia, w0, w1, fun p xs Ha np Ra la da Ba ua => ?_⟩;have hp0 : H p = none := u'.none B' np
      have pn : V.ref p ∉ us := fun z => by
        obtain ⟨q', _, _, e', _, g', _⟩ := (ru _ z).at;cases e';rw [np] at g';cases g'
      have ap' : H p = none /\ p ≠ r := ⟨hp0, fun z => by rw [z, gu] at np; cases np⟩;have ap : A p := by rw [eA]; exact ap'
      have X0 : GS K A n (Dr (max w 6)) r p b q0 us H Ha := ⟨ua.other rb gu, fun x hx => (ru x hx).upto ua B' nb, ⟨p, xs, rfl, ap, Ra, la, da⟩, Ba, ua.2 _ I', u'.trans ua⟩;clear ru Ra gu;walk_at "w";refine ⟨by lia, by lia, ?_⟩;refine eH (n := n) (fun j σ' H' => (∃ x3, σ' = [some (.ref b), some (.int n), some (.int way), some (.int first), some (.int w), some (.ref r), some (.int i), some (.ref p), x3]) /\ GS K A n (Dr (max w 6)) r p b q0 us H H') ⟨⟨_, rfl⟩, X0⟩ ?_ ?_
      · rintro j σ' Hj hj ⟨⟨x3, rfl⟩, X⟩;walk_at "w";refine ⟨fun σ' H' => σ' = [some (.ref b), some (.int n), some (.int way), some (.int first), some (.int w), some (.ref r), some (.int i), some (.ref p), some (.int j)] /\ GS K A n (Dr (max w 6)) r p b q0 us H H', ?_, ?_⟩
        · walk_at "w";refine jx (fun _ => ?_) (fun _ => ?_)
          · walk_at "w";refine ⟨b, 3, rfl, X.bag, by decide, by decide, fun d Hd d0 d1 Bd ud => ?_⟩;replace X := X.upto ud Bd nb rb
            repeat' (first | walk_at "rd" | refine jx (fun _ => ?_) (fun _ => ?_))
            all_goals first
              | exact ⟨rfl, X⟩
              | (refine cD fun t Hb sb gb => ?_
                 walk_at "w";obtain ⟨zs, gz, lz, Xz⟩ := (X.same sb).put ap nr nb nq hp0 (cw.mk (q := 0) gb rfl) (tE (i := 0) (aX _) W1) j;refine eO gz (ff (by lia)) rfl ?_;exact ⟨rfl, Xz⟩)
          · walk_at "w";exact ⟨rfl, X⟩
        clear X;rintro σ' Hj ⟨rfl, X⟩;refine ⟨fun σ' H' => σ' = [some (.ref b), some (.int n), some (.int way), some (.int first), some (.int w), some (.ref r), some (.int i), some (.ref p), some (.int j)] /\ GS K A n (Dr (max w 6)) r p b q0 us H H', ?_, ?_⟩
        · repeat' (first | walk_at "rd" | refine jx (fun _ => ?_) (fun _ => ?_))
          all_goals first
            | exact ⟨rfl, X⟩
            | (refine cD fun t Hb sb gb => ?_
               walk_at "w";obtain ⟨zs, gz, lz, Xz⟩ := (X.same sb).put ap nr nb nq hp0 (cw.mk (q := ((if decide ((j : Int) = (i : Int) + 1) = true then (1 : Int) else 0 : Int) : Rat)) gb rfl) (tE (by split <;> lia) W1) j;refine eO gz (ff (by lia)) rfl ?_;exact ⟨rfl, Xz⟩)
        clear X;rintro σ' Hj ⟨rfl, X⟩;refine ⟨fun σ' H' => σ' = [some (.ref b), some (.int n), some (.int way), some (.int first), some (.int w), some (.ref r), some (.int i), some (.ref p), some (.int j)] /\ GS K A n (Dr (max w 6)) r p b q0 us H H', ?_, ?_⟩
        · repeat' (first | walk_at "rd" | refine jx (fun _ => ?_) (fun _ => ?_))
          all_goals first
            | exact ⟨rfl, X⟩
            | (refine cD fun t Hb sb gb => ?_
               walk_at "w";obtain ⟨zs, gz, lz, Xz⟩ := (X.same sb).put ap nr nb nq hp0 (cw.mk (q := 0) gb rfl) (tE (i := 0) (aX _) W1) j;refine eO gz (ff (by lia)) rfl ?_;exact ⟨rfl, Xz⟩)
        clear X;rintro σ' Hj ⟨rfl, X⟩;walk_at "w";refine jx (fun _ => ?_) (fun _ => ?_)
        · walk_at "w";refine dk fun l0 Hc sc nc gc => ?_
          walk_at "w";obtain ⟨x, ex, mx, _⟩ := tL (xs := [V.int 2, V.int 1, V.int (-1), V.int 0]) (i := first % 4) (ng _ (by decide)) (by have := iX first (show (0 : Int) < 4 by decide); simpa using this)
          obtain ⟨z, rfl, hz⟩ : ∃ z : Int, x = .int z /\ z.natAbs ≤ 2 := by
            simp only [aI, bp, or_false] at mx;rcases mx with rfl | rfl | rfl | rfl
            · exact ⟨2, rfl, by decide⟩
            · exact ⟨1, rfl, by decide⟩
            · exact ⟨-1, rfl, by decide⟩
            · exact ⟨0, rfl, by decide⟩
          refine b5 (bM.of gc) ex ?_;walk_at "w";refine fe (CY (by lia) (by lia)) ?_;walk_at "w";refine cD fun t Hb sb gb => ?_
          walk_at "w";obtain ⟨zs, gz, lz, Xz⟩ := ((X.same sc).same sb).put ap nr nb nq hp0 (cw.mk (q := ((z * (if decide ((i : Int) = (j : Int)) = true then (1 : Int) else 0) : Int) : Rat)) gb rfl) (tE (by split <;> lia) W1) j;refine eO gz (ff (by lia)) rfl ?_;exact ⟨⟨_, rfl⟩, Xz⟩
        · walk_at "w";exact ⟨⟨_, rfl⟩, X⟩
      · rintro σ' Hj ⟨⟨x3, rfl⟩, X⟩;walk_at "w";refine ⟨.inl ⟨rfl, _, bM.of X.gr⟩, ?_⟩;walk_at "w";refine p8 X.gr (bE (by lia)) ?_;refine ⟨_, _, _, us ++ [.ref p], rfl, aF, by simp [lu], z8 nd pn, fun x hx => ?_, X.bag.upd X.inn rb rq, X.inn.upd rb, X.up.after n1⟩;rcases ax.mp hx with hx | hx
        · exact (X.ru x hx).other X.gr nr
        · have e : x = V.ref p := by simpa using hx
          rw [e]; exact X.rp.other X.gr nr
    · rintro σ' H' ⟨x1, x2, x3, us, rfl, gu, lu, nd, ru, B', I', u'⟩;walk_at "w";exact k r us H' n1 gu lu nd (by rw [eA] at ru; exact ru) B' u'
theorem Dy:aW ["_law_one","_law_other"] ["_law_one","_law_other"] (av j4):=by walk_at "d"
theorem oB (T:Txt K mg Z):cI P w K mg base gF 2 Z.rG Z.qY ["_law_one","_law_other"] (sP K (fun x y=>x+y)):=by
 refine T.ko.ok Dy (fun vs H Q E h=>?_) (fun cdv A outer s H vs Q E hr h=>?_)
 ·obtain ⟨p,q,a,b,c,d,rfl,hp,hq,hb,hd,sa,sb,sc,sd,k⟩:=GO h;rfl
 ·obtain ⟨p,q,a,b,c,d,rfl,hp,hq,hb,hd,sa,sb,sc,sd,k⟩:=GO h;refine ⟨_,(ay (aZ (cO (gU T) hr T.fz T.fI.kp T.gZ (ae (bC eX (bC cN (aV b4 (pv 0) ao) (aV b4 (pv 1) ao)) (bC cN (aV b4 (pv 1) ao) (aV b4 (pv 0) ao))) (ae (bC cN (aV b4 (pv 0) ao) (aV b4 (pv 1) ao)) aj))))),?_⟩;refine aO (σ:=[some (.ref p),some (.ref q)]) rfl ?_;have hbd:0 < b*d:=iN hb hd;have sbd:Sz 8999 (b*d):=(sb.mul sd).mono (by decide);walk_at "w";refine fe (show fA _ _ from .inr ⟨_,_,sa,sd,by decide⟩) ?_;walk_at "w";refine fe (show fA _ _ from .inr ⟨_,_,sc,sb,by decide⟩) ?_;walk_at "w";refine fe (show fA _ _ from .inr ⟨_,_,sb,sd,by decide⟩) ?_;walk_at "w";walk_at "w";refine ⟨_,_,rfl,hbd,sbd,k⟩
theorem Cq:aW ["_law_one","_law_other"] ["_law_one","_law_other"] (av ji):=by walk_at "d"
theorem wD (T:Txt K mg Z):cI P w K mg base gF 3 Z.o8 Z.oO ["_law_one","_law_other"] (Jk K):=by
 refine T.ph.ok Cq (fun vs H Q E h=>?_) (fun cdv A outer s H vs Q E hr h=>?_)
 ·obtain ⟨p,q,xs,ys,rfl,hp,hq,hl,hz,h1,h2,kk⟩:=h;rfl
 ·obtain ⟨p,q,xs,ys,rfl,hp,hq,hl,hz,h1,h2,kk⟩:=h;refine ⟨_,(ay (aZ (cE ["_law_k"] ["_law_one","_law_other"] [0,1] (cv rfl T.range (ae (bY bL (by rfl) T.len bG (ae (pv 0) aj)) aj)) (fun _=>(aM (i:=0) (show List.Nodup (α:=PySem.Str) ["_law_k","_law_one","_law_other"] by decide +kernel))) (fun _=>cJ) (fun _=>(cO (oB T) hr T.lO T.ko.kp T.oj (ae (aV (fM K (by rfl)) (pv 1) (pv 0)) (ae (aV (fM K (by rfl)) (pv 2) (pv 0)) aj))))))),?_⟩;refine aO (σ:=[some (.ref p),some (.ref q)]) rfl ?_;obtain ⟨us,gu,qu⟩:=id hp;obtain ⟨ws,gw,qw⟩:=id hq;have lu:=qu.length;walk_at "w";refine ⟨_,_,rfl,.inl (bM.of gu),?_⟩;walk_at "w";refine ⟨by lia,by lia,?_⟩;refine gC (n:=us.length) (cw K) (fun i=>xs.getD i 0+ys.getD i 0) (by lia) (fun a b=>a.same b) ?_ ?_
  ·rintro i H' NY NN hi s k1;have ix:i < xs.length:=by lia
   have iy:i < ys.length:=by lia
   obtain ⟨vx,ex,nx⟩:=D7 (Paired.imp' (fun _ _ z=>z.same s) qu) ix;obtain ⟨vy,ey,ny⟩:=D7 (Paired.imp' (fun _ _ z=>z.same s) qw) iy;walk_at "w";refine b5 (bM.of (s _ _ gu)) ex ?_;walk_at "w";refine b5 (bM.of (s _ _ gw)) ey ?_;walk_at "w";exact ⟨_,_,_,_,rfl,nx,ny,h1 _ (getD_mem ix),h2 _ (getD_mem iy),fun r3 H3 s3 n3=>k1 _ _ s3 n3⟩
  ·rintro ys' H' l hl' s g pr nx;exact kk l H' hl' s ⟨ys',g,by rw[GX (by lia)];rw[<- lu] at pr;exact pr⟩
theorem Cp:aW ["_law_one","_law_other"] ["_law_one","_law_other"] (av jh):=by walk_at "d"
theorem mF (T:Txt K mg Z):cI P w K mg base gF 2 Z.o7 Z.oN ["_law_one","_law_other"] (sP K (fun x y=>x*y)):=by
 refine T.ju.ok Cp (fun vs H Q E h=>?_) (fun cdv A outer s H vs Q E hr h=>?_)
 ·obtain ⟨p,q,a,b,c,d,rfl,hp,hq,hb,hd,sa,sb,sc,sd,k⟩:=FW h;rfl
 ·obtain ⟨p,q,a,b,c,d,rfl,hp,hq,hb,hd,sa,sb,sc,sd,k⟩:=FW h;refine ⟨_,(ay (aZ (cO (gU T) hr T.fz T.fI.kp T.gZ (ae (bC cN (aV b4 (pv 0) ao) (aV b4 (pv 1) ao)) (ae (bC cN (aV b4 (pv 0) ao) (aV b4 (pv 1) ao)) aj))))),?_⟩;refine aO (σ:=[some (.ref p),some (.ref q)]) rfl ?_;have hbd:0 < b*d:=iN hb hd;have sbd:Sz 8999 (b*d):=(sb.mul sd).mono (by decide);walk_at "w";refine fe (show fA _ _ from .inr ⟨_,_,sa,sc,by decide⟩) ?_;walk_at "w";refine fe (show fA _ _ from .inr ⟨_,_,sb,sd,by decide⟩) ?_;walk_at "w";walk_at "w";refine ⟨_,_,rfl,hbd,sbd,k⟩
theorem ER:aW ["_law_factor","_law_row_here"] ["_law_factor","_law_row_here"] (av nG):=by walk_at "d"
theorem nX (T:Txt K mg Z):cI P w K mg base gF 3 Z.uM Z.uA ["_law_factor","_law_row_here"] (Nz K):=by
 refine T.kv.ok ER (fun vs H Q E h=>?_) (fun cdv A outer s H vs Q E hr h=>?_)
 ·obtain ⟨u,q,c,ys,rfl,hc,sc,hq,hz,h2,kk⟩:=h;rfl
 ·obtain ⟨u,q,c,ys,rfl,hc,sc,hq,hz,h2,kk⟩:=h;refine ⟨_,(ay (aZ (cE ["_law_one"] ["_law_factor"] [0] (cM (pv 1)) (fun _=>(aM (i:=0) (show List.Nodup (α:=PySem.Str) ["_law_one","_law_factor"] by decide +kernel))) (fun _=>cJ) (fun _=>(cO (mF T) hr T.jL T.ju.kp T.lU (ae (pv 1) (ae (pv 0) aj))))))),?_⟩;refine aO (σ:=[some u,some (.ref q)]) rfl ?_;obtain ⟨us,gu,qu⟩:=id hq;walk_at "w";refine ⟨⟨_,bM.of gu⟩,?_⟩;refine eN (K:=K) (F:=cw K) (cw K) (fun y=>c*y) gu qu hz (fun a b=>a.same b) (fun a b=>a.same b) ?_ ?_
  ·rintro i y x H' NY NN en s hx k;walk_at "w";exact ⟨_,_,_,_,rfl,hc.same s,hx,sc,h2 y (aw en),fun r H2 s2 h2'=>k _ _ s2 h2'⟩
  ·rintro ys' H' r hr s g pr nx;exact kk r H' hr s ⟨ys',g,pr⟩
theorem dG:aW ["_law_bag_here","_law_move_here","_law_put","_law_look","_law_n","_law_turn","_law_i","_law_j","_law_by_here","_law_less_here","_law_row_here"] ["_law_bag_here","_law_move_here","_law_put","_law_look"] (av ie):=by walk_at "d"
theorem AW (T:Txt K mg Z):cI P w K mg base gF 4 Z.m3 Z.mR ["_law_bag_here","_law_move_here","_law_put","_law_look"] (HE K):=by
 refine T.rW.ok dG (fun vs H Q E h=>?_) (fun cdv A outer s H vs Q E hr h=>?_)
 ·obtain ⟨b,m,p,l,q0,n,M,WV,A,us,ws,vs,rfl,MA,X,n8,i4,o4,M0,M1,V1,hA,k⟩:=h;rfl
 ·obtain ⟨b,m,p,l,q0,n,M,WV,A,us,ws,vs,rfl,MA,X,n8,i4,o4,M0,M1,V1,hA,k⟩:=h
  refine ⟨_,(au (bf (i:=4) dG.nd rfl (Or.inl rfl) (bY bL (by rfl) T.len bG (ae (pv 1) aj)))
   (au (dm (PW.pt (wo (bw uZ (pv 4) ao (bK _)) (qM (bw fw (cO (b6 T) hr T.bR T.bU.kp T.bV (ae (pv 0) (ae ao aj))) ao (bK _))))) (ay (aZ (dA (ae (pv 1) (ae (pv 2) (ae (pv 3) aj)))))) b9)
   (au (eF PassesOwn.never rfl (cv rfl T.range (ae (bC eX ao (cO (b6 T) hr T.bR T.bU.kp T.bV (ae (pv 0) (ae ao aj)))) aj)) (aM (i:=5) dG.nd)
    (au (bf (i:=6) dG.nd rfl (Or.inl rfl) (cO (b6 T) hr T.bR T.bU.kp T.bV (ae (pv 0) (ae (pv 4) aj))))
   (au (bf (i:=7) dG.nd rfl (Or.inl rfl) (bC pH (bC eX (bC eX (pv 6) ao) (cO (b6 T) hr T.bR T.bU.kp T.bV (ae (pv 0) (ae (bC ke (pv 4) ao) aj)))) (pv 4)))
   (au (bf (i:=8) dG.nd rfl (Or.inl rfl) (dA (ae (aV bI (eI (ae ao (ae (wq qG ao) (ae ao (ae (wq qG ao) aj))))) (cO (b6 T) hr T.bR T.bU.kp T.bV (ae (pv 0) (ae ao aj)))) (ae ao aj))))
   (au (bf (i:=9) dG.nd rfl (Or.inl rfl) (dA (ae (bC ke ao (aV b4 (pv 8) ao)) (ae ao aj))))
   (au (fq (cO (wD T) hr T.qT T.ph.kp T.tJ (ae (aV bI (pv 1) (pv 6)) (ae (cO (nX T) hr T.kg T.kv.kp T.nH (ae (pv 8) (ae (aV bI (pv 1) (pv 7)) aj))) aj))) (gR (pv 1) (pv 6) set_list))
   (au (eF PassesOwn.never rfl (cM (bC pJ (pv 1) (pv 3))) (aM (i:=10) dG.nd)
    (ay (fq (cO (oB T) hr T.lO T.ko.kp T.oj (ae (aV bI (pv 10) (pv 7)) (ae (cO (mF T) hr T.jL T.ju.kp T.lU (ae (pv 9) (ae (aV bI (pv 10) (pv 6)) aj))) aj))) (gR (pv 10) (pv 7) set_list))))
   (ay (eF PassesOwn.never rfl (cM (pv 2)) (aM (i:=10) dG.nd)
    (ay (fq (cO (oB T) hr T.lO T.ko.kp T.oj (ae (aV bI (pv 10) (pv 6)) (ae (cO (mF T) hr T.jL T.ju.kp T.lU (ae (pv 8) (ae (aV bI (pv 10) (pv 7)) aj))) aj))) (gR (pv 10) (pv 6) set_list))))))))))))
   (ay (aZ (dA (ae (pv 1) (ae (pv 2) (ae (pv 3) aj))))))))),?_⟩
  refine aO (σ:=[some (.ref b),some (.ref m),some (.ref p),some (.ref l),none,none,none,none,none,none,none]) rfl ?_;have done:∀r us' H' t,t<=3->H' r=some (.tup [.ref m,.ref p,.ref l])->kj K A H' n (fun _=>Fr M (9^t*WV)) m p l b q0 us' ws vs->hJ A b m H H'->Q (.ref r) H':=fun r us' H' t ht g x kp=>k r us' H' g (x.weak fun _ _ y h=>h.mono (aJ _ (ak (by decide) ht))) kp
  have X0:kj K A H n (fun _=>Fr M (9^0*WV)) m p l b q0 us ws vs:=X.weak fun _ _ y h=>h.mono (by simp)
  clear X k;have gu:=X0.gm;have lu:=X0.lm;walk_at "w";refine ⟨_,_,rfl,.inl (bM.of gu),?_⟩;rw[lu];clear gu lu;have kp0:hJ A b m H H:=fun _ _ h _ _ _=>h
  walk_at "w";refine jx (fun h0=>?_) (fun h0=>?_)
  ·walk_at "w";refine cD fun r H' s' g'=>?_
   exact done r us H' 0 (by decide) g' (X0.same s') (kp0.same s')
  have n2:2<=n:=by
   rcases bX n 2 with z | z
   ·exact absurd (decide_eq_true (show (n:Int) < 2 by lia)) h0
   ·exact z
  walk_at "w";refine ⟨b,2,rfl,X0.bag,by decide,by decide,fun v H1 v0 v1 B1 u1=>?_⟩;have X1:=X0.upto MA u1 B1;have kp1:=kp0.upto u1;walk_at "w";refine jx (fun h1=>?_) (fun h1=>?_)
  ·walk_at "w";refine cD fun r H' s' g'=>?_
   exact done r us H' 0 (by decide) g' (X1.same s') (kp1.same s')
  walk_at "w";refine ⟨b,3,rfl,B1,by decide,by decide,fun c H2 c0 c1 B2 u2=>?_⟩;have X2:=X1.upto MA u2 B2;have kp2:=kp1.upto u2;clear X0 X1 kp0 kp1 u1 u2 B1;walk_at "w";refine ⟨by lia,by lia,?_⟩;refine eH (n:=(1+c).toNat) (fun t σ' H'=>∃(x1 x2 x3 x4 x5 x6:Option V) (us:List V),σ'=[some (.ref b),some (.ref m),some (.ref p),some (.ref l),some (.int n),x1,x2,x3,x4,x5,x6]/\kj K A H' n (fun _=>Fr M (9^t*WV)) m p l b q0 us ws vs/\hJ A b m H H') ⟨none,none,none,none,none,none,us,rfl,X2,kp2⟩ ?_ ?_
  ·rintro t σ' H' ht ⟨x1,x2,x3,x4,x5,x6,us,rfl,X,kp⟩;have t3:t<=2:=by lia
   walk_at "w";refine ⟨b,n,rfl,X.bag,by lia,by lia,fun ii Ha i0 i1 Ba ua=>?_⟩;obtain ⟨ii,rfl⟩:=ow i0;have Xa:=X.upto MA ua Ba;have kpa:=kp.upto ua;walk_at "w";refine ⟨b,_,rfl,Ba,by lia,by lia,fun d Hb d0 d1 Bb ub=>?_⟩;have Xb:=Xa.upto MA ub Bb;have kpb:=kpa.upto ub;walk_at "w";refine fe (show (0:Int) < n by lia) ?_;have j0:=ng ((ii:Int)+1+d) (show (n:Int)≠0 by lia);have j1:=iX ((ii:Int)+1+d) (show (0:Int) < n by lia);generalize ((ii:Int)+1+d) % (n:Int)=jj at j0 j1 ⊢;obtain ⟨jj,rfl⟩:=ow j0;walk_at "w";refine dk fun l0 Hc sc nc gc=>?_
   walk_at "w";refine ⟨b,4,rfl,Bb.same sc,by decide,by decide,fun v' Hd v0' v1' Bd ud=>?_⟩;have gd:=ud.other (fun z=>Bb.at (by rw[<- z];exact nc)) gc;obtain ⟨x,ex,mx,_⟩:=tL (xs:=[V.int 1,V.int (-1),V.int 2,V.int (-2)]) v0' (by simpa using v1')
   obtain ⟨z,rfl,hz⟩:∃z:Int,x=.int z/\z.natAbs<=2:=by
    simp only[aI,bp,or_false] at mx;rcases mx with rfl | rfl | rfl | rfl
    ·exact ⟨1,rfl,by decide⟩
    ·exact ⟨-1,rfl,by decide⟩
    ·exact ⟨2,rfl,by decide⟩
    ·exact ⟨-2,rfl,by decide⟩
   have Xd:=(Xb.same sc).upto MA ud Bd;have kpd:=(kpb.same sc).upto ud;walk_at "w";refine b5 (bM.of gd) ex ?_;walk_at "w";refine cD fun bt He se ge=>?_
   walk_at "w";refine cD fun lt Hf sf gf=>?_
   have Xf:=(Xd.same se).same sf;have kpf:=(kpd.same se).same sf;have nb:cw K Hf ((z:Int):Rat) (.ref bt):=cw.mk (sf _ _ ge) rfl;have nl:cw K Hf ((0 - z:Int):Rat) (.ref lt):=cw.mk gf rfl;clear X Xa Xb Xd kp kpa kpb kpd ua ub ud sc gc gd ex mx ge gf se sf Ba Bb Bd nc;have gu:=Xf.gm;have lu:=Xf.lm;have ru:∀x∈us,iJ K A Hf n (Fr M (9^t*WV)) x:=fun x hx=>Xf.row x (by simp [hx])
   have e1:us[ii]?=some (us[ii]'(by lia)):=by simp
   have e2:us[jj]?=some (us[jj]'(by lia)):=by simp
   obtain ⟨q1,z1,qs1,w1,a1,g1,k1,p1,l1,c1⟩:=(ru _ (aw e1)).at;obtain ⟨q2,z2,qs2,w2,a2,g2,k2,p2,l2,c2⟩:=(ru _ (aw e2)).at;rw[w1] at e1;rw[w2] at e2;generalize eW:9^t*WV=W at *
   have W9:9*W<=2^140:=by rw[<- eW];exact LW (by lia) V1 (by decide)
   have sz9:∀{x:Rat} {U:Nat},U<=9*W->Fr M U x->qE x:=fun hU h=>Mf M0 M1 (ah hU W9) h
   walk_at "w";refine b5 (bM.of gu) (dQ e1) ?_;walk_at "w";refine b5 (bM.of gu) (dQ e2) ?_;walk_at "w";refine ⟨_,q2,_,qs2,rfl,nb,Cc (by lia),⟨z2,g2,p2⟩,by lia,fun y hy=>sz9 (by lia) (c2 y hy),fun r1 Hg n1 sg R1=>?_⟩;walk_at "w";refine ⟨q1,r1,qs1,_,rfl,⟨z1,sg _ _ g1,Paired.imp' (fun _ _ y=>y.same sg) p1⟩,R1,by rw[ag,l1,l2],by lia,fun y hy=>sz9 (by lia) (c1 y hy),fun y hy=>?_,fun r2 Hh n2' sh R2=>?_⟩
   ·obtain ⟨y',hy',rfl⟩:=aB.mp hy;exact zx hz (c2 y' hy') M0 M1 (by lia)
   have sfh:=sg.trans sh
   have new:V.ref r2∉us++vs++ws:=fun z=>by
    obtain ⟨q',_,_,e',_,g',_⟩:=((Xf.same sg).row _ z).at;cases e';rw[n2'] at g';cases g'
   have Xh:=(Xf.same sfh).weak (C':=fun x y=>(x∈ws->Fr M W y)/\Fr M (3*W) y) fun x _ y h=>⟨fun _=>h,h.mono (by lia)⟩
   have kph:=kpf.same sfh;have guh:=sfh _ _ gu;have ar2:A r2:=(kpf.same sg).new hA (Xf.same sg).bag (by rw[sg _ _ gu];simp) n2'
   have rp2:iJ K A Hh n (fun y=>(V.ref r2∈ws->Fr M W y)/\Fr M (3*W) y) (.ref r2):=by
    refine ⟨r2,_,rfl,ar2,R2,by rw[bN,ag];lia,fun y hy=>⟨fun z=>absurd (ax.mpr (.inr z)) new,?_⟩⟩;obtain ⟨j',hj',e⟩:=be hy;rw[jY,eC] at e;rw[<- e];exact CM hz (c1 _ (az _)) (c2 _ (az _))
   walk_at "w";refine eO guh (ff (by lia)) rfl ?_;have Xi:=Xh.set MA rp2 new ii;have kpi:=kph.upd (o:=.lst (us.set ii (.ref r2))) (q:=m) (.inr rfl);have nli:cw K (upd Hh m (.lst (us.set ii (.ref r2)))) ((0 - z:Int):Rat) (.ref lt):=(nl.same sfh).updL guh;have nbi:cw K (upd Hh m (.lst (us.set ii (.ref r2)))) ((z:Int):Rat) (.ref bt):=(nb.same sfh).updL guh;generalize upd Hh m (.lst (us.set ii (.ref r2)))=Hi at Xi kpi nli nbi ⊢;generalize us.set ii (.ref r2)=um at Xi;clear nb nl Xf kpf gu ru e1 e2 g1 p1 g2 p2 R1 R2 Xh kph guh rp2 sg sh sfh new;have gm:=Xi.gm;have lm:=Xi.lm;have gl:=Xi.gl;have nd:=Xi.nd;obtain ⟨nd1,nd2,nd3⟩:=jW.mp nd;walk_at "w";refine pG gm gl (aR (bE (by lia))) fun cl Hj sj nj gj=>?_
   have kpj:=kpi.same sj
   have rows:∀x∈um++vs,∀q,x=V.ref q->q≠cl:=fun x hx q e y=>by
    obtain ⟨q',zs,_,e',_,g',_⟩:=(Xi.row x (ax.mpr (.inl hx))).at;rw[e] at e';cases e';rw[y,nj] at g';cases g'
   have Xj:=(Xi.same sj).weak (C':=fun x y=>(x∈ws->Fr M W y)/\(x∈(um++vs).drop 0->Fr M (3*W) y)/\Fr M (9*W) y) fun x _ y h=>⟨h.1,fun _=>h.2,h.2.mono (by lia)⟩
   have lj:cw K Hj ((0 - z:Int):Rat) (.ref lt):=nli.same sj;have bj:cw K Hj ((z:Int):Rat) (.ref bt):=nbi.same sj;clear Xi kpi nli nbi;refine ⟨_,rfl,⟨_,bM.of gj⟩,?_⟩;refine lS (K:=K) (a:=cl) (xs:=um++vs) (fun s σ' H'=>∃x6:Option V,σ'=[some (.ref b),some (.ref m),some (.ref p),some (.ref l),some (.int n),some (.int t),some (.int ii),some (.int jj),some (.ref bt),some (.ref lt),x6]/\kj K A H' n (fun x y=>(x∈ws->Fr M W y)/\(x∈(um++vs).drop s->Fr M (3*W) y)/\Fr M (9*W) y) m p l b q0 um ws vs/\hJ A b m H H'/\H' cl=some (.lst (um++vs))/\cw K H' ((0 - z:Int):Rat) (.ref lt)/\cw K H' ((z:Int):Rat) (.ref bt)) ⟨_,rfl,Xj,kpj,gj,lj,bj⟩ (fun s σ' H' _ ⟨_,_,_,_,e,_⟩=>bM.of e) ?_ ?_
   ·rintro s x σ' Hk hx ⟨y6,rfl,Xk,kpk,gk,lk,bk⟩;have hs:s < (um++vs).length:=(aA.mp hx).1;have mx:=aw hx
    have xd:x∈(um++vs).drop s:=by
     rw[d6 hs,(aA.mp hx).2];exact .head _
    have xd2:x∉(um++vs).drop (s+1):=fun z=>by
     have:=nd1.sublist (List.drop_sublist s _);rw[d6 hs,dX,(aA.mp hx).2] at this;exact this.1 z
    have xw:x∉ws:=fun z=>nd3 x mx x z rfl
    have rx:=Xk.row x (ax.mpr (.inl mx));obtain ⟨q,zs,qs,rfl,aq,gq,lq,pq,lq2,cq⟩:=rx.at;have qcl:=rows _ mx q rfl;obtain ⟨vj,ej,nj'⟩:=D7 pq (j:=jj) (by lia);obtain ⟨vi,ei,ni'⟩:=D7 pq (j:=ii) (by lia);have cj:=(cq _ (getD_mem (xs:=qs) (i:=jj) (by lia))).2.1 xd;have ci:=(cq _ (getD_mem (xs:=qs) (i:=ii) (by lia))).2.1 xd;walk_at "w";refine b5 (bM.of gq) ej ?_;walk_at "w";refine b5 (bM.of gq) ei ?_;walk_at "w";refine ⟨_,_,_,_,rfl,lk,ni',Cc (by lia),sz9 (by lia) ci,fun r3 Hl sl n3=>?_⟩;walk_at "w";refine ⟨_,_,_,_,rfl,nj'.same sl,n3,sz9 (by lia) cj,zx (by lia) ci M0 M1 (by lia),fun r4 Hm sm n4=>?_⟩;have slm:=sl.trans sm;walk_at "w";refine eO (slm _ _ gq) (ff (by lia)) rfl ?_;refine ⟨_,rfl,?_,(kpk.same slm).upd (.inl aq),by rw[br qcl.symm];exact slm _ _ gk,(lk.same slm).updL (slm _ _ gq),(bk.same slm).updL (slm _ _ gq)⟩;refine ((Xk.same slm).weak fun x' _ y h=>⟨h.1,fun z=>h.2.1 ?_,h.2.2⟩).put MA aq (slm _ _ gq) n4 ⟨fun z=>absurd z xw,fun z=>absurd z xd2,?_⟩ jj
    ·rw[d6 hs];exact .tail _ z
    ·exact (CM (by lia) cj ci).mono (by lia)
   ·rintro σ' Hk ⟨y6,rfl,Xk,kpk,gk,lk,bk⟩;have gp:=Xk.gp;have Xk2:=Xk.weak (C':=fun x y=>(x∈ws.drop 0->Fr M W y)/\Fr M (9*W) y) fun x _ y h=>⟨fun z=>h.1 (by simpa using z),h.2.2⟩
    clear Xk;walk_at "w";refine ⟨⟨_,bM.of gp⟩,?_⟩;refine lS (K:=K) (a:=p) (xs:=ws) (fun s σ' H'=>∃x6:Option V,σ'=[some (.ref b),some (.ref m),some (.ref p),some (.ref l),some (.int n),some (.int t),some (.int ii),some (.int jj),some (.ref bt),some (.ref lt),x6]/\kj K A H' n (fun x y=>(x∈ws.drop s->Fr M W y)/\Fr M (9*W) y) m p l b q0 um ws vs/\hJ A b m H H'/\cw K H' ((z:Int):Rat) (.ref bt)) ⟨_,rfl,Xk2,kpk,bk⟩ (fun s σ' H' _ ⟨_,_,X,_⟩=>bM.of X.gp) ?_ ?_
    ·rintro s x σ' Hl hx ⟨w6,rfl,Xl,kpl,bl⟩;have hs:s < ws.length:=(aA.mp hx).1;have mx:=aw hx
     have xd:x∈ws.drop s:=by
      rw[d6 hs,(aA.mp hx).2];exact .head _
     have xd2:x∉ws.drop (s+1):=fun z=>by
      have:=nd2.sublist (List.drop_sublist s _);rw[d6 hs,dX,(aA.mp hx).2] at this;exact this.1 z
     have rx:=Xl.row x (ax.mpr (.inr mx));obtain ⟨q,zs,qs,rfl,aq,gq,lq,pq,lq2,cq⟩:=rx.at;obtain ⟨vj,ej,nj'⟩:=D7 pq (j:=jj) (by lia);obtain ⟨vi,ei,ni'⟩:=D7 pq (j:=ii) (by lia);have cj:=(cq _ (getD_mem (xs:=qs) (i:=jj) (by lia))).1 xd;have ci:=(cq _ (getD_mem (xs:=qs) (i:=ii) (by lia))).1 xd;walk_at "w";refine b5 (bM.of gq) ei ?_;walk_at "w";refine b5 (bM.of gq) ej ?_;walk_at "w";refine ⟨_,_,_,_,rfl,bl,nj',Cc (by lia),sz9 (by lia) cj,fun r3 Hm sm n3=>?_⟩;walk_at "w";refine ⟨_,_,_,_,rfl,ni'.same sm,n3,sz9 (by lia) ci,zx (by lia) cj M0 M1 (by lia),fun r4 Hn sn n4=>?_⟩;have smn:=sm.trans sn;walk_at "w";refine eO (smn _ _ gq) (ff (by lia)) rfl ?_;refine ⟨_,rfl,?_,(kpl.same smn).upd (.inl aq),(bl.same smn).updL (smn _ _ gq)⟩;refine ((Xl.same smn).weak fun x' _ y h=>⟨fun z=>h.1 ?_,h.2⟩).put MA aq (smn _ _ gq) n4 ⟨fun z=>absurd z xd2,?_⟩ ii
     ·rw[d6 hs];exact .tail _ z
     ·exact (CM (by lia) ci cj).mono (by lia)
    ·rintro σ' Hl ⟨w6,rfl,Xl,kpl,bl⟩;refine ⟨_,_,_,_,_,_,um,rfl,Xl.weak fun _ _ y h=>h.2.mono ?_,kpl⟩;rw[<- eW,pA,cG (9^t) 9,jy];exact ar _
  ·rintro σ' H' ⟨x1,x2,x3,x4,x5,x6,us',rfl,X,kp⟩;walk_at "w";refine cD fun r H2' s' g'=>?_
   exact done r us' H2' _ (by lia) g' (X.same s') (kp.same s')
theorem dF:aW ["_law_bag_here","_law_n","_law_ins","_law_outs","_law_wide","_law_way","_law_first","_law_move_here","_law_put","_law_look","_law_k","_law_row_here"] ["_law_bag_here","_law_n","_law_ins","_law_outs","_law_wide"] (av ic):=by walk_at "d"
theorem AV (T : Txt K mg Z) : cI P w K mg base gF 5 Z.mZ Z.mQ ["_law_bag_here", "_law_n", "_law_ins", "_law_outs", "_law_wide"] (Hw K) := by
  have jt := b6 (P := P) (w := w) (base := base) T;have En := CA (P := P) (w := w) (base := base) T;have rN := sY (P := P) (w := w) (base := base) T;have C7 := AW (P := P) (w := w) (base := base) T;refine T.rV.ok dF (fun vs H Q E h => ?_) (fun cdv A outer s H vs Q E hr h => ?_)
  · obtain ⟨b, n, i, o, w, c, rfl, hB, n8, i4, o4, w0, w1, hc, hc20, hcM, k⟩ := h;rfl
  · obtain ⟨b, n, i, o, w, c, rfl, hB, n8, i4, o4, w0, w1, hc, hc20, hcM, k⟩ := h
    refine ⟨_, (au (bf (i := 5) dF.nd rfl (Or.inl rfl) (cO jt hr T.bR T.bU.kp T.bV (ae (pv 0) (ae ao aj))))
      (au (bf (i := 6) dF.nd rfl (Or.inl rfl) (cO jt hr T.bR T.bU.kp T.bV (ae (pv 0) (ae (bC eX (pv 1) ao) aj))))
      (au (bf (i := 7) dF.nd rfl (Or.inl rfl) (cO En hr T.wL T.tV.kp T.yA (ae (pv 0) (ae (pv 1) (ae (pv 5) (ae (pv 6) (ae (pv 4) aj)))))))
      (au (ky 8 ["_law_k"] ["_law_bag_here", "_law_n", "_law_wide"] [0, 1, 4] dF.nd rfl rfl (cv rfl T.range (ae (pv 2) aj)) (fun _ => (aM (i := 0) (show List.Nodup (α := PySem.Str) ["_law_k", "_law_bag_here", "_law_n", "_law_wide"] by decide +kernel))) (fun _ => cJ) (fun _ => (cO rN hr T.lQ T.kr.kp T.oo (ae (pv 1) (ae (pv 2) (ae (pv 3) aj))))))
      (au (ky 9 ["_law_k"] ["_law_bag_here", "_law_n", "_law_wide"] [0, 1, 4] dF.nd rfl rfl (cv rfl T.range (ae (pv 3) aj)) (fun _ => (aM (i := 0) (show List.Nodup (α := PySem.Str) ["_law_k", "_law_bag_here", "_law_n", "_law_wide"] by decide +kernel))) (fun _ => cJ) (fun _ => (cO rN hr T.lQ T.kr.kp T.oo (ae (pv 1) (ae (pv 2) (ae (pv 3) aj))))))
      (au (eF PassesOwn.never rfl (cv rfl T.range (ae (pv 1) aj)) (aM (i := 10) dF.nd)
        (au (eF PassesOwn.never rfl (cM (pv 8)) (aM (i := 11) dF.nd)
        (ay (dm (PW.pt (wo (PW.pt (j9 (bw fw (pv 5) ao (bK _)) (mD (bw Bo (pv 10) (pv 6) (bK _))))) (qM (PW.pt (j9 (bw fw (pv 5) ao (bK _)) (j9 (bw uZ (bC eX (pv 10) ao) (pv 1) (bK _)) (mD (bw fw (cO jt hr T.bR T.bU.kp T.bV (ae (pv 0) (ae ao aj))) ao (bK _))))))))) (ay (fq (dA (ae ao (ae ao aj))) (gR (pv 11) (pv 10) set_list))) b9)))
      (ay (eF PassesOwn.never rfl (cM (pv 9)) (aM (i := 11) dF.nd)
        (ay (dm (PW.pt (wo (PW.pt (j9 (bw fw (pv 5) ao (bK _)) (mD (bw Bo (pv 10) (pv 6) (bK _))))) (qM (PW.pt (j9 (bw fw (pv 5) ao (bK _)) (j9 (bw zU (pv 10) ao (bK _)) (mD (bw fw (cO jt hr T.bR T.bU.kp T.bV (ae (pv 0) (ae ao aj))) ao (bK _))))))))) (ay (fq (dA (ae ao (ae ao aj))) (gR (pv 11) (pv 10) set_list))) b9))))))
      (ay (aZ (cO C7 hr T.vm T.rW.kp T.xl (ae (pv 0) (ae (pv 7) (ae (pv 8) (ae (pv 9) aj))))))))))))), ?_⟩
    refine aO (σ := [some (.ref b), some (.int n), some (.int i), some (.int o), some (.int w), none, none, none, none, none, none, none]) rfl ?_;have W1 : 1 ≤ max w 6 := by lia
    obtain ⟨q0, I0, xs0, gq0⟩ := hB.inner;walk_at "w";refine ⟨b, 6, rfl, hB, by decide, by decide, fun way H1 a0 a1 B1 u1 => ?_⟩;walk_at "w";refine ⟨b, _, rfl, B1, by lia, by lia, fun first H2 f0 f1 B2 u2 => ?_⟩;have u02 := u1.trans u2;walk_at "w";refine ⟨b, n, w, way, first, rfl, B2, n8, w0, w1, fun m us H3 nm0 gm lm ndm rm B3 u3 => ?_⟩;have u03 := u02.trans u3;walk_at "w";refine ⟨by lia, by lia, ?_⟩;refine BI (n := i) (b := b) (cS K H3) (fun xs => xs.length = n /\ ∀ x ∈ xs, Dr (max w 6) x) B3 (by lia) (fun a u B => a.upto u B B3.at) (fun ⟨q, e, _, _, g, _⟩ => ⟨q, e, by rw [g]; exact fun z => nomatch z⟩) ?_ ?_
    · rintro s H' NY NN hi u B k1;walk_at "w";exact ⟨b, n, w, rfl, B, by lia, w0, w1, fun r xs H2 nr R lx dx B2 u2 => k1 _ xs _ u2 B2 ⟨lx, dx⟩ ⟨r, rfl, u.none B nr, R⟩ ⟨r, rfl, nr⟩⟩
    rintro ws puts H4 p np u4 B4 gp lp ndp hp pr4 nx4;have u04 := u03.trans u4;walk_at "w";refine ⟨by lia, by lia, ?_⟩;refine BI (n := o) (b := b) (cS K H4) (fun xs => xs.length = n /\ ∀ x ∈ xs, Dr (max w 6) x) B4 (by lia) (fun a u B => a.upto u B B4.at) (fun ⟨q, e, _, _, g, _⟩ => ⟨q, e, by rw [g]; exact fun z => nomatch z⟩) ?_ ?_
    · rintro s H' NY NN hi u B k1;walk_at "w";exact ⟨b, n, w, rfl, B, by lia, w0, w1, fun r xs H2 nr R lx dx B2 u2 => k1 _ xs _ u2 B2 ⟨lx, dx⟩ ⟨r, rfl, u.none B nr, R⟩ ⟨r, rfl, nr⟩⟩
    rintro vs looks H5 l nl u5 B5 gl ll ndl hl pr5 nx5;have u05 := u04.trans u5;have hm0 : H m = none := u02.none B2 nm0;have hp0 : H p = none := u03.none B3 np;have hl0 : H l = none := u04.none B4 nl;have mb : m ≠ b := fun z => B2.at (by rw [<- z]; exact nm0)
    have pb : p ≠ b := fun z => B3.at (by rw [<- z]; exact np)
    have lb : l ≠ b := fun z => B4.at (by rw [<- z]; exact nl)
    have gm4 := u4.other mb gm;have gm5 := u5.other mb gm4;have gp5 := u5.other pb gp;have mp : m ≠ p := fun z => by rw [z, np] at gm; cases gm
    have ml : m ≠ l := fun z => by rw [z, nl] at gm4; cases gm4
    have pl : p ≠ l := fun z => by rw [z, nl] at gp; cases gp
    have mq : m ≠ q0 := fun z => Inner.at B2 (u02.2 _ I0) (by rw [<- z]; exact nm0)
    obtain ⟨A, eA⟩ : ∃ A : Addr → Prop, A = fun q => H q = none /\ q ≠ m /\ q ≠ p /\ q ≠ l := ⟨_, rfl⟩
    have mkA : ∀ {q}, H q = none → q ≠ m → q ≠ p → q ≠ l → A q := fun h1 h2 h3 h4 => by rw [eA]; exact ⟨h1, h2, h3, h4⟩
    have unA : ∀ {q}, A q → H q = none /\ q ≠ m /\ q ≠ p /\ q ≠ l := fun h => by rw [eA] at h; exact h
    have MA : Fz A m p l b q0 := ⟨fun z => (unA z).2.1 rfl, fun z => (unA z).2.2.1 rfl, fun z => (unA z).2.2.2 rfl, fun z => hB.at (unA z).1, (fun z => by have z1 := (unA z).1; rw [gq0] at z1; cases z1), mb, pb, lb, mp, ml, mq⟩;clear eA;have lws : ws.length = i := by rw [<- pr4.length]; exact lp
    have lvs : vs.length = o := by rw [<- pr5.length]; exact ll
    have alM : ∀ q, V.ref q ∈ us → H3 q ≠ none /\ q ≠ b /\ H4 q ≠ none := fun q hq => by
      obtain ⟨q', qs, e, ⟨a1, a2⟩, r, z⟩ := rm _ hq;cases e;have qb : q ≠ b := fun y => B2.at (by rw [<- y]; exact a1)
      obtain ⟨xq, gq, _⟩ := id r;obtain ⟨xq4, gq4, _⟩ := r.upto u4 B3 qb;exact ⟨(by rw [gq]; exact fun z => nomatch z), qb, (by rw [gq4]; exact fun z => nomatch z)⟩
    have alP : ∀ q, V.ref q ∈ ws → H3 q = none /\ H4 q ≠ none := fun q hq => by
      obtain ⟨_, _, q', e, a, _, g, _⟩ := dB pr4 hq;cases e;exact ⟨a, by rw [g]; exact fun z => nomatch z⟩
    have alL : ∀ q, V.ref q ∈ vs → H4 q = none := fun q hq => by
      obtain ⟨_, _, q', e, a, _⟩ := dB pr5 hq;cases e;exact a
    have isR : ∀ x, x ∈ us \/ x ∈ ws \/ x ∈ vs → ∃ q, x = V.ref q := fun x hx => by
      rcases hx with hx | hx | hx
      · obtain ⟨q, _, e, _⟩ := rm x hx; exact ⟨q, e⟩
      · obtain ⟨_, _, q, e, _⟩ := dB pr4 hx; exact ⟨q, e⟩
      · obtain ⟨_, _, q, e, _⟩ := dB pr5 hx; exact ⟨q, e⟩
    have nd : (us ++ vs ++ ws).Nodup := by
      refine jW.mpr ⟨jW.mpr ⟨ndm, ndl, fun x hx y hy e => ?_⟩, ndp, fun x hx y hy e => ?_⟩
      · subst e;obtain ⟨q, rfl⟩ := isR x (.inl hx);exact (alM q hx).2.2 (alL q hy)
      · subst e;obtain ⟨q, rfl⟩ := isR x (.inr (.inl hy));rcases ax.mp hx with hx | hx
        · exact (alM q hx).1 (alP q hy).1
        · exact (alP q hy).2 (alL q hx)
    have X5 : Fv K A n (Dr (max w 6)) m p l b q0 us ws vs H H5 := by
      refine ⟨⟨B5, u05.2 _ I0, gm5, gp5, gl, lm, fun x hx => ?_, nd⟩, gp5, gl, fun c u e n1 _ _ => u05.1 c u e n1⟩;rcases ax.mp hx with hx | hx
      · rcases ax.mp hx with hx | hx
        · obtain ⟨q, qs, e, ⟨a1, a2⟩, r, z⟩ := rm x hx;obtain ⟨xq, gq, _⟩ := id r;have qb : q ≠ b := fun y => B2.at (by rw [<- y]; exact a1)
          have r4 := r.upto u4 B3 qb;obtain ⟨xq4, gq4, _⟩ := id r4;exact ⟨q, qs, e, mkA (u02.none B2 a1) a2 (fun y => by rw [y, np] at gq; cases gq) (fun y => by rw [y, nl] at gq4; cases gq4), r4.upto u5 B4 qb, z⟩
        · refine JA (A := A) pr5 hl (fun q hq a b' => ?_) x hx;exact mkA (u04.none B4 a) (fun y => by rw [y, gm4] at a; cases a) (fun y => by rw [y, gp] at a; cases a) (fun y => mo nx5 (by rw [<- y]; exact hq))
      · refine iJ.upto (JA (A := A) pr4 hp (fun q hq a b' => ?_) x hx) u5 B4 MA.ab;exact mkA (u03.none B3 a) (fun y => by rw [y, gm] at a; cases a) (fun y => mo nx4 (by rw [<- y]; exact hq)) (fun y => b' (by rw [y]; exact nl))
    clear alM alP alL isR rm pr4 pr5 nx4 nx5 gm gm4 gm5 gp gp5 gl hp hl;walk_at "w";refine ⟨by lia, by lia, ?_⟩;refine eH (n := n) (fun kk σ' H' => (∃ x1 x2, σ' = [some (.ref b), some (.int n), some (.int i), some (.int o), some (.int w), some (.int way), some (.int first), some (.ref m), some (.ref p), some (.ref l), x1, x2]) /\ Fv K A n (Dr (max w 6)) m p l b q0 us ws vs H H') ⟨⟨_, _, rfl⟩, X5⟩ ?_ ?_
    · rintro kk σ' Hj hk ⟨⟨x1, x2, rfl⟩, X⟩;walk_at "w";refine ⟨⟨_, bM.of X.gp⟩, ?_⟩;refine lS (K := K) (a := p) (xs := ws) (fun s σ' H' => (∃ x2, σ' = [some (.ref b), some (.int n), some (.int i), some (.int o), some (.int w), some (.int way), some (.int first), some (.ref m), some (.ref p), some (.ref l), some (.int kk), x2]) /\ Fv K A n (Dr (max w 6)) m p l b q0 us ws vs H H') ⟨⟨_, rfl⟩, X⟩ (fun s σ' H' _ ⟨_, e⟩ => bM.of e.gp) ?_ ?_
      · rintro s x σ' Hk hx ⟨⟨y2, rfl⟩, X⟩;have mx := aw hx;obtain ⟨q, _, rfl, _⟩ := X.row (.inl mx)
        repeat' (first | walk_at "rd" | refine jx (fun _ => ?_) (fun _ => ?_))
        all_goals first
          | exact ⟨⟨_, rfl⟩, X⟩
          | (refine cD fun t Hb sb gb => ?_
             walk_at "w";obtain ⟨zs, gz, lz, Xz⟩ := (X.same sb).put MA (.inl mx) (cw.mk (q := 0) gb rfl) (tE (i := 0) (aX _) W1) kk;refine eO gz (ff (by lia)) rfl ?_;exact ⟨⟨_, rfl⟩, Xz⟩)
          | (refine ⟨b, 2, rfl, X.mix.bag, by decide, by decide, fun d Hd d0 d1 Bd ud => ?_⟩
             replace X := X.upto MA ud Bd
             repeat' (first | walk_at "rd" | refine jx (fun _ => ?_) (fun _ => ?_))
             all_goals first
               | exact ⟨⟨_, rfl⟩, X⟩
               | (refine cD fun t Hb sb gb => ?_
                  walk_at "w";obtain ⟨zs, gz, lz, Xz⟩ := (X.same sb).put MA (.inl mx) (cw.mk (q := 0) gb rfl) (tE (i := 0) (aX _) W1) kk;refine eO gz (ff (by lia)) rfl ?_;exact ⟨⟨_, rfl⟩, Xz⟩))
      · rintro σ' Hk ⟨⟨y2, rfl⟩, X⟩;walk_at "w";refine ⟨⟨_, bM.of X.gl⟩, ?_⟩;refine lS (K := K) (a := l) (xs := vs) (fun s σ' H' => (∃ x2, σ' = [some (.ref b), some (.int n), some (.int i), some (.int o), some (.int w), some (.int way), some (.int first), some (.ref m), some (.ref p), some (.ref l), some (.int kk), x2]) /\ Fv K A n (Dr (max w 6)) m p l b q0 us ws vs H H') ⟨⟨_, rfl⟩, X⟩ (fun s σ' H' _ ⟨_, e⟩ => bM.of e.gl) ?_ ?_
        · rintro s x σ' Hk hx ⟨⟨y2, rfl⟩, X⟩;have mx := aw hx;obtain ⟨q, _, rfl, _⟩ := X.row (.inr mx)
          repeat' (first | walk_at "rd" | refine jx (fun _ => ?_) (fun _ => ?_))
          all_goals first
            | exact ⟨⟨_, rfl⟩, X⟩
            | (refine cD fun t Hb sb gb => ?_
               walk_at "w";obtain ⟨zs, gz, lz, Xz⟩ := (X.same sb).put MA (.inr mx) (cw.mk (q := 0) gb rfl) (tE (i := 0) (aX _) W1) kk;refine eO gz (ff (by lia)) rfl ?_;exact ⟨⟨_, rfl⟩, Xz⟩)
            | (refine ⟨b, 2, rfl, X.mix.bag, by decide, by decide, fun d Hd d0 d1 Bd ud => ?_⟩
               replace X := X.upto MA ud Bd
               repeat' (first | walk_at "rd" | refine jx (fun _ => ?_) (fun _ => ?_))
               all_goals first
                 | exact ⟨⟨_, rfl⟩, X⟩
                 | (refine cD fun t Hb sb gb => ?_
                    walk_at "w";obtain ⟨zs, gz, lz, Xz⟩ := (X.same sb).put MA (.inr mx) (cw.mk (q := 0) gb rfl) (tE (i := 0) (aX _) W1) kk;refine eO gz (ff (by lia)) rfl ?_;exact ⟨⟨_, rfl⟩, Xz⟩))
        · rintro σ' Hk ⟨⟨y2, rfl⟩, X⟩;exact ⟨⟨_, _, rfl⟩, X⟩
    · rintro σ' Hj ⟨⟨x1, x2, rfl⟩, X⟩
      obtain ⟨M, V0, M0, M8, V2, hcs, XM⟩ : ∃ M V0 : Nat, 0 < M /\ M ≤ 2 ^ 800 /\ V0 ≤ 2 ^ 20 /\ ((w ≤ 9 /\ M = 2520 /\ V0 = 9) \/ (9 < w /\ M ≤ 2 ^ (c * ((n + i + o) * n)) /\ V0 = 2 ^ c)) /\ kj K A Hj n (fun _ => Fr M V0) m p l b q0 us ws vs := by
        by_cases w9 : w ≤ 9
        · exact ⟨2520, 9, by decide, ah (show 2520 ≤ 2 ^ 12 by decide) (ak (by decide) (by decide)), by decide, .inl ⟨w9, rfl, rfl⟩, X.mix.weak fun _ _ y h => Ao ⟨ah h.1 (by lia), ah h.2 (by lia)⟩ (zj _)⟩
        · obtain ⟨M, M0, M1, XM⟩ := (X.mix.weak (C' := fun _ => Dr (2 ^ c)) fun _ _ y h => ⟨ah h.1 hc, ah h.2 hc⟩).fr;rw [lws, lvs] at M1;exact ⟨M, 2 ^ c, M0, ah M1 (ak (by decide) hcM), ak (by decide) hc20, .inr ⟨by lia, M1, rfl⟩, XM⟩
      have gmj := X.mix.gm;walk_at "w";refine ⟨b, m, p, l, q0, n, M, V0, A, us, ws, vs, rfl, MA, XM, n8, by lia, by lia, M0, M8, V2, fun q hq => ?_, fun r us' H' g Y kp => ?_⟩
      · refine mkA ?_ (fun z => by rw [z, gmj] at hq; cases hq) (fun z => by rw [z, X.gp] at hq; cases hq) (fun z => by rw [z, X.gl] at hq; cases hq);cases e : H q with
        | none => rfl
        | some u =>
          have := X.kp q u e (fun z => X.mix.bag.at (by rw [<- z]; exact hq)) (fun z => by have := (unA z).1; rw [e] at this; cases this) (fun z => by rw [z, hm0] at e; cases e);rw [hq] at this; cases this
      · obtain ⟨mv, Gm, lmv, hmv⟩ := vQ (H0 := H) (n := n) (C := Fr M (9 ^ 3 * V0)) (m := n) ⟨us', Y.gm, Y.lm, MA.am, fun x hx => Y.row x (by simp [hx])⟩ fun q h => (unA h).1
        obtain ⟨pt, Gp, lpt, hpt⟩ := vQ (H0 := H) (n := n) (C := Fr M (9 ^ 3 * V0)) (m := i) ⟨ws, Y.gp, lws, MA.ap, fun x hx => Y.row x (by simp [hx])⟩ fun q h => (unA h).1
        obtain ⟨lk, Gl, llk, hlk⟩ := vQ (H0 := H) (n := n) (C := Fr M (9 ^ 3 * V0)) (m := o) ⟨vs, Y.gl, lvs, MA.al, fun x hx => Y.row x (by simp [hx])⟩ fun q h => (unA h).1
        refine k r mv pt lk H' ⟨m, p, l, g, hm0, hp0, hl0, Gm, Gp, Gl⟩ lmv lpt llk ⟨by lia, by lia, by lia, fun xs hx => by rw [(hmv xs hx).1, lmv], fun xs hx => by rw [(hpt xs hx).1, lmv], fun xs hx => by rw [(hlk xs hx).1, lmv]⟩ ⟨M, 9 ^ 3 * V0, M0, fun xs hx => (hmv xs hx).2, fun xs hx => (hpt xs hx).2, fun xs hx => (hlk xs hx).2, ?_⟩ Y.bag ⟨fun c' u e n1 => (X.kp.trans kp) c' u e n1 (fun z => by have := (unA z).1; rw [e] at this; cases this) (fun z => by rw [z, hm0] at e; cases e), fun q h => by rw [<- Inner.inj I0 h]; exact Y.inn⟩;rcases hcs with ⟨a1, a2, a3⟩ | ⟨a1, a2, a3⟩
        · exact .inl ⟨a1, a2, by rw [a3]⟩
        · exact .inr ⟨a1, a2, by rw [a3]⟩
theorem Ci:aW ["thing","at","most"] ["thing","at","most"] (av ja):=by walk_at "d"
theorem qP (T:Txt K mg Z):cI P w K mg base gF 1 Z.oV Z.oF ["thing","at","most"] Lf:=by
 refine T.lW.ok Ci (fun vs H Q E h=>?_) (fun cdv A outer s H vs Q E hr h=>?_)
 ·obtain ⟨p,xs,a,m,rfl,gx,hm,k⟩:=h;rfl
 ·obtain ⟨p,xs,a,m,rfl,gx,hm,k⟩:=h
  refine ⟨_,(au (dm (vG (vF (Ct rfl T.isinstance PyProof.Rows.boot_list T.list (pv 0)))) (ay JK) b9)
   (ay (dm (bw zU (bY bL (by rfl) T.len bG (ae (pv 0) aj)) (pv 2) (bK _)) (ay JK) b9))),?_⟩
  refine aO (σ:=[some (.ref p),some (.int a),some (.int m)]) rfl ?_;walk_at "w";refine ⟨_,_,.lst gx,rfl,?_⟩;walk_at "w";refine ⟨_,_,rfl,.inl (bM.of gx),?_⟩;walk_at "w";rw[decide_eq_false (show ¬m < (xs.length:Int) by lia)];walk_at "w";exact k
theorem Dx:aW ["thing"] ["thing"] (av j3):=by walk_at "d"
theorem yo (T:Txt K mg Z):cI P w K mg base gF 1 Z.rF Z.qX ["thing"] Hq:=by
 refine T.rQ.ok Dx (fun vs H Q E h=>?_) (fun cdv A outer s H vs Q E hr h=>?_)
 ·obtain ⟨i,rfl,k⟩:=h;rfl
 ·obtain ⟨i,rfl,k⟩:=h;refine ⟨_,(ay (aZ (JN (Ct rfl T.isinstance PyProof.Rows.boot_int T.int (pv 0)) (JM (N8 (Ct rfl T.isinstance PyProof.Rows.boot_bool T.bool (pv 0))))))),?_⟩;refine aO (σ:=[some (.int i)]) rfl ?_;walk_at "w";refine ⟨_,_,.int i,rfl,?_⟩;walk_at "w";refine ⟨_,_,.int i,rfl,?_⟩;walk_at "w";exact k
theorem gG:aW ["one","other","rest"] ["one","other"] (av ee):=by walk_at "d"
theorem jJ (T:Txt K mg Z):cI P w K mg base gF 1 Z.iC Z.ir ["one","other"] O4:=by
 refine T.fu.ok gG (fun vs H Q E h=>?_) (fun cdv A outer s H vs Q E hr h=>?_)
 ·obtain ⟨a,b,rfl,k⟩:=h;rfl
 ·obtain ⟨a,b,rfl,k⟩:=h
  refine ⟨_,(au (zM PassesOwn.never (bw DN (pv 1) ao (bK _))
    (au (bf (i:=2) gG.nd rfl (Or.inl rfl) (bC L4 (pv 0) (pv 1)))
   (au (bf (i:=0) gG.nd rfl (Or.inl rfl) (pv 1))
   (ay (bf (i:=1) gG.nd rfl (Or.inl rfl) (pv 2))))))
   (ay (aZ (bY Aq (by rfl) T.abs PyProof.Rows.boot_abs (ae (pv 0) aj))))),?_⟩
  refine aO (σ:=[some (.int a),some (.int b),none]) rfl ?_;walk_at "w";refine Ca (fun σ' H'=>∃(u v:Int) (r:Option V),σ'=[some (.int u),some (.int v),r]/\H'=H/\Int.gcd u v=Int.gcd a b) (fun σ' _=>match σ' with | [_,some (.int v),_]=>v.natAbs | _=>0) ⟨a,b,none,rfl,rfl,rfl⟩ ?_;rintro σ' H' ⟨u,v,r,rfl,rfl,hg⟩;walk_at "w";refine jx (fun h=>?_) (fun h=>?_)
  ·have hv:v≠0:=fun z=>by subst z;simp at h
   walk_at "w";refine fe (show v≠0 from hv) ?_;walk_at "w";exact ⟨⟨v,u.fmod v,_,rfl,rfl,(Kk u v).trans hg⟩,Mg u v hv⟩
  ·have hv:v=0:=by
    by_cases z:v=0
    ·exact z
    ·exfalso;apply h;simp [z]
   subst hv;walk_at "w"
   have e:(if u < 0 then -u else u)=g a b:=by
    unfold g;rw[<- hg,Int.gcd_zero_right]
    split <;> lia
   rw[e];exact k
theorem Cm:aW ["thing"] ["thing"] (av jd):=by walk_at "d"
theorem Cw (T:Txt K mg Z):cI P w K mg base gF 2 Z.oY Z.oI ["thing"] (HH K):=by
 refine T.tS.ok Cm (fun vs H Q E h=>?_) (fun cdv A outer s H vs Q E hr h=>?_)
 ·obtain ⟨x,n,rfl,⟨p,rfl,hp⟩,hn,k⟩:=h;rfl
 ·obtain ⟨x,n,rfl,⟨p,rfl,hp⟩,hn,k⟩:=h
  refine ⟨_,(au (dm (PW.pt (wo (vG (vF (LY rfl T.isinstance PyProof.Rows.boot_tuple T.tuple (pv 0)))) (qM (bw DN (bY bL (by rfl) T.len bG (ae (pv 0) aj)) ao (bK _))))) (ay (aZ yk)) b9)
   (au (dm (PW.pt (wo (vG (vF (cO (yo T) hr T.tj T.rQ.kp T.vU (ae (aV b4 (pv 0) ao) aj)))) (qM (vG (vF (cO (yo T) hr T.tj T.rQ.kp T.vU (ae (aV b4 (pv 0) ao) aj))))))) (ay (aZ yk)) b9)
   (ay (aZ (JN (wx Bo (aV b4 (pv 0) ao) ao (bK _)) (JM (wx fw (cO (jJ T) hr T.gH T.fu.kp T.iB (ae (aV b4 (pv 0) ao) (ae (aV b4 (pv 0) ao) aj))) ao (bK _)))))))),?_⟩
  refine aO (σ:=[some (.ref p)]) rfl ?_;obtain ⟨hb,hg,s1,s2⟩:=hn;walk_at "w";refine .inr ⟨p,_,_,rfl,hp,rfl,?_⟩;walk_at "w";refine ⟨_,_,rfl,.inr hp,?_⟩;walk_at "w"
  try refine Iu ?_
  walk_at "w";refine ⟨n.1,rfl,?_⟩;walk_at "w";refine ⟨n.2,rfl,?_⟩;walk_at "w";rw[decide_eq_true (show (1:Int)<=n.2 by lia)];walk_at "w";refine ⟨n.1,n.2,rfl,?_⟩;walk_at "w";have e:g n.1 n.2=1:=by unfold g;rw[hg];rfl
  rw[e,decide_eq_true rfl];exact k _ (aE.refl _)
theorem HM:aW ["thing","many"] ["thing","many"] (av p6):=by walk_at "d"
theorem Ib (T:Txt K mg Z):cI P w K mg base gF 3 Z.xp Z.w5 ["thing","many"] (HG K):=by
 refine T.Az.ok HM (fun vs H Q E h=>?_) (fun cdv A outer s H vs Q E hr h=>?_)
 ·obtain ⟨p,ns,rfl,hp,hl,hn,k⟩:=h;rfl
 ·obtain ⟨p,ns,rfl,hp,hl,hn,k⟩:=h
  refine ⟨_,(au (dm (PW.pt (wo (vG (vF (Ct rfl T.isinstance PyProof.Rows.boot_list T.list (pv 0)))) (qM (bw DN (bY bL (by rfl) T.len bG (ae (pv 0) aj)) (pv 1) (bK _))))) (ay (aZ yk)) b9)
   (ay (aZ (bY (KG rfl) (by rfl) T.all PyProof.Rows.boot_all (ae (cE ["value"] [] [] (cM (pv 0)) (fun _=>(aM (i:=0) (show List.Nodup (α:=PySem.Str) ["value"] by decide +kernel))) (fun _=>cJ) (fun _=>(cO (Cw T) hr T.wI T.tS.kp T.yx (ae (pv 0) aj)))) aj))))),?_⟩
  refine aO (σ:=[some (.ref p),some (.int ns.length)]) rfl ?_;obtain ⟨xs,gx,qx⟩:=id hp;have lx:=qx.length;walk_at "w";refine ⟨_,_,.lst gx,rfl,?_⟩;walk_at "w";refine ⟨_,_,rfl,.inl (bM.of gx),?_⟩;walk_at "w";rw[show ((xs.length:Nat):Int)=(ns.length:Nat) by rw[lx],decide_eq_true rfl];walk_at "w";refine ⟨⟨_,bM.of gx⟩,?_⟩;refine ft (K:=K) (xs:=xs) (fun i ys H'=>aE H H'/\ys=List.replicate i (.bl true)) (aR (bE (by lia))) ⟨aE.refl _,rfl⟩ (fun i ys H' _ ⟨s,_⟩=>bM.of (s _ _ gx)) ?_ ?_
  ·rintro i x ys H' hx hlen ⟨s,rfl⟩;obtain ⟨n,en,z⟩:=cm qx hx;walk_at "w";exact ⟨x,n,rfl,s.num z,hn n (aw en),fun H2 s2=>⟨s.trans s2,by rw[List.replicate_succ']⟩⟩
  ·rintro ys H' hy ⟨s,rfl⟩ l hl';walk_at "w";refine ⟨l,List.replicate xs.length true,rfl,bM.of (by rw[aF];simp),?_⟩;have e4:(List.replicate xs.length true).all id=true:=by simp
   rw[e4];exact k _ (s.trans (aE.new hl'))
theorem nR:aW ["things","wide","place","thing"] ["things","wide"] (av fX):=by walk_at "d"
theorem nV (T:Txt K mg Z):cI P w K mg base gF 4 Z.kY Z.kH ["things","wide"] (Ll K):=by
 refine T.iK.ok nR (fun vs H Q E h=>?_) (fun cdv A outer s H vs Q E hr h=>?_)
 ·obtain ⟨p,H0,rows,w,rfl,hp,hl,hw,hn,k⟩:=h;rfl
 ·obtain ⟨p,H0,rows,w,rfl,hp,hl,hw,hn,k⟩:=h
  refine ⟨_,(au (eF PassesOwn.never rfl (FO rfl T.enumerate (ae (pv 0) aj)) (vH rfl (cu (aM (i:=2) nR.nd) (cu (aM (i:=3) nR.nd) ik)))
    (ay (dm (vG (vF (cO (Ib T) hr T.Bu T.Az.kp T.Ej (ae (pv 3) (ae (pv 1) aj))))) (ay JK) b9)))
   (ay (aZ (cE ["row"] [] [] (cM (pv 0)) (fun _=>(aM (i:=0) (show List.Nodup (α:=PySem.Str) ["row"] by decide +kernel))) (fun _=>cJ) (fun _=>(jo (kN K (by rfl)) (by rfl) T.list PyProof.Rows.boot_list (ae (pv 0) aj))))))),?_⟩
  refine aO (σ:=[some (.ref p),some (.int w),none,none]) rfl ?_;obtain ⟨xs,gx,qx,_⟩:=id hp;walk_at "w";refine ⟨⟨_,bM.of gx⟩,?_⟩;refine Ko (K:=K) (l:=p) (xs:=xs) (fun i σ' H'=>aE H H'/\∃x y,σ'=[some (.ref p),some (.int w),x,y]) ⟨aE.refl _,none,none,rfl⟩ (fun i σ' H' _ ⟨s,_⟩=>bM.of (s _ _ gx)) ?_ ?_
  ·rintro i x σ' H' t hx ⟨s,x1,y1,rfl⟩ ht;obtain ⟨qs,eq,q,rfl,_,Rq⟩:=cm qx hx;have hm:=aw eq;have st:aE H' (upd H' t (.tup [.int i,.ref q])):=aE.new ht;have gt:(upd H' t (.tup [.int i,.ref q])) t=some (.tup [.int i,.ref q]):=aF;have s2:=s.trans st;generalize upd H' t (.tup [.int i,.ref q])=H2 at st gt s2 ⊢;have lq:(qs.map nm).length=w:=by rw[ag];exact (hn qs hm).1
   walk_at "w";refine ⟨q,_,by rw[lq],(Rq.same s2).rowK,by rw[lq];exact hw,fun n hn'=>?_,fun H3 s3=>?_⟩
   ·obtain ⟨y,hy,rfl⟩:=aB.mp hn';exact (hn qs hm).2 y hy
   walk_at "w";exact ⟨s2.trans s3,_,_,rfl⟩
  ·rintro σ' H' ⟨s,x1,y1,rfl⟩;walk_at "w";refine ⟨⟨_,bM.of (s _ _ gx)⟩,?_⟩;refine eN (K:=K) (F:=cS K H0) (cS K H) id (s _ _ gx) (Paired.imp' (fun _ _ z=>z.same s) qx) hl (fun a b=>a.same b) (fun a b=>a.same b) ?_ ?_
   ·rintro i ns x H2 NY NN en s2 ⟨u,rfl,_,zs,gz,qz⟩ k1;walk_at "w";refine ⟨u,zs,rfl,.inl (bM.of gz),fun l1 hl1=>?_⟩;exact k1 _ _ (aE.new hl1) ⟨l1,rfl,s.none (s2.none hl1),zs,aF,Paired.imp' (fun _ _ z=>z.same (aE.new hl1)) qz⟩
   ·rintro ys' H2 r hr s2 g pr nx;rw[sG] at pr nx;exact k r H2 (s.none hr) (s.trans s2) ⟨ys',g,pr,mo nx⟩
theorem vD:aW ["self","move","put","look"] ["self","move","put","look"] (av dP):=by walk_at "d"
theorem nY (T:Txt K mg Z):cI P w K mg base gF 5 Z.gL Z.gJ ["self","move","put","look"] (Li K Z.a_System):=by
 refine T.pz.ok vD (fun vs H Q E h=>?_) (fun cdv A outer s H vs Q E hr h=>?_)
 ·obtain ⟨x,dx,p,q,r,Hb,H0,H1,H2,mv,pt,lk,rfl,nx,ndx,nex,rfl,gp,gq,gr,D,om,op,ol,k⟩:=h;rfl
 ·obtain ⟨x,dx,p,q,r,Hb,H0,H1,H2,mv,pt,lk,rfl,nx,ndx,nex,rfl,gp,gq,gr,D,om,op,ol,k⟩:=h
  refine ⟨_,(au (jF (cO (qP T) hr T.mH T.lW.kp T.oS (ae (pv 1) (ae ao (ae (mE (v:=.int 8) rfl T.mg_MOST_STATES ⟨_,rfl⟩) aj)))))
   (au (xM (pv 0) (cO (nV T) hr T.jK T.iK.kp T.kO (ae (pv 1) (ae (bY bL (by rfl) T.len bG (ae (pv 1) aj)) aj))) rfl)
   (au (xM (pv 0) (bY bL (by rfl) T.len bG (ae (eV (pv 0) rfl) aj)) rfl)
   (au (jF (cO (qP T) hr T.mH T.lW.kp T.oS (ae (pv 2) (ae ao (ae (mE (v:=.int 4) rfl T.mg_MOST_PUTS ⟨_,rfl⟩) aj)))))
   (au (xM (pv 0) (cO (nV T) hr T.jK T.iK.kp T.kO (ae (pv 2) (ae (eV (pv 0) rfl) aj))) rfl)
   (au (xM (pv 0) (bY bL (by rfl) T.len bG (ae (eV (pv 0) rfl) aj)) rfl)
   (au (jF (cO (qP T) hr T.mH T.lW.kp T.oS (ae (pv 3) (ae ao (ae (mE (v:=.int 4) rfl T.mg_MOST_LOOKS ⟨_,rfl⟩) aj)))))
   (au (xM (pv 0) (cO (nV T) hr T.jK T.iK.kp T.kO (ae (pv 3) (ae (eV (pv 0) rfl) aj))) rfl)
   (ay (xM (pv 0) (bY bL (by rfl) T.len bG (ae (eV (pv 0) rfl) aj)) rfl)))))))))),?_⟩
  refine aO (σ:=[some (.ref x),some (.ref p),some (.ref q),some (.ref r)]) rfl ?_
  have s0:aE Hb (upd (upd Hb dx (.own x)) x (.ins Z.a_System dx [])):=fun b o e=>by
   rw[br (eY e nx),br (eY e ndx)];exact e
  have hx:(upd (upd Hb dx (.own x)) x (.ins Z.a_System dx [])) x=some (.ins Z.a_System dx []):=aF;have back:∀{b},(upd (upd Hb dx (.own x)) x (.ins Z.a_System dx [])) b=none->Hb b=none:=fun h=>s0.none h
  generalize upd (upd Hb dx (.own x)) x (.ins Z.a_System dx [])=Ha at s0 hx back ⊢;obtain ⟨xs,gx,qx,_⟩:=id gp;obtain ⟨ys,gy,qy,_⟩:=id gq;obtain ⟨zs,gz,qz,_⟩:=id gr;have lx:=qx.length;have ly:=qy.length;have lz:=qz.length;have d1:=D.n8;have d2:=D.i4;have d3:=D.o4;walk_at "w";refine ⟨p,xs,0,8,rfl,s0 _ _ gx,by lia,?_⟩;walk_at "w";refine ⟨_,_,rfl,.inl (bM.of (s0 _ _ gx)),?_⟩;walk_at "w";refine ⟨p,H0,mv,mv.length,by rw[lx],gp.same s0,by lia,by lia,fun ws hw=>⟨D.mw ws hw,om ws hw⟩,fun a H3 na s3 Ga=>?_⟩;have hx3:=s3 _ _ hx;walk_at "w";refine ⟨x,Z.a_System,dx,_,rfl,hx3,T.cl_System,T.na_move,(by show 0 < 1000;decide),?_⟩;have e3:Dc x H3 (upd H3 x (.ins Z.a_System dx (b8 "move" (.ref a) []))):=Dc.upd;have i3:vw H3 x:=⟨_,_,_,hx3⟩;have hx4:(upd H3 x (.ins Z.a_System dx (b8 "move" (.ref a) []))) x=some (.ins Z.a_System dx (b8 "move" (.ref a) [])):=aF;have Ga4:=Ga.exc e3 i3;have k4:aE Hb (upd H3 x (.ins Z.a_System dx (b8 "move" (.ref a) []))):=(s0.trans s3).after nx;generalize upd H3 x (.ins Z.a_System dx (b8 "move" (.ref a) []))=H4 at e3 hx4 Ga4 k4 ⊢;walk_at "w";refine ⟨x,Z.a_System,dx,_,_,rfl,hx4,T.cl_System,T.na_move,(by rw[bh,if_pos rfl]),?_⟩;obtain ⟨as,ga,qa,_⟩:=id Ga4;have la:=qa.length;walk_at "w";refine ⟨_,_,rfl,.inl (bM.of ga),?_⟩;walk_at "w";refine ⟨x,Z.a_System,dx,_,rfl,hx4,T.cl_System,T.na_states,aY dS (by show 1 < 1000;decide),?_⟩;rw[show ((as.length:Nat):Int)=((mv.length:Nat):Int) by rw[la]];have e4:Dc x H4 (upd H4 x (.ins Z.a_System dx (b8 "states" (.int mv.length) (b8 "move" (.ref a) [])))):=Dc.upd;have i4:vw H4 x:=⟨_,_,_,hx4⟩;have hx5:(upd H4 x (.ins Z.a_System dx (b8 "states" (.int mv.length) (b8 "move" (.ref a) [])))) x=some (.ins Z.a_System dx (b8 "states" (.int mv.length) (b8 "move" (.ref a) []))):=aF;have Ga5:=Ga4.exc e4 i4;have k5:aE Hb (upd H4 x (.ins Z.a_System dx (b8 "states" (.int mv.length) (b8 "move" (.ref a) [])))):=k4.after nx;generalize upd H4 x (.ins Z.a_System dx (b8 "states" (.int mv.length) (b8 "move" (.ref a) [])))=H5 at e4 hx5 Ga5 k5 ⊢;clear e3 e4 i3 i4 hx4 Ga4 ga qa;walk_at "w";refine ⟨q,ys,1,4,rfl,k5 _ _ gy,by lia,?_⟩;walk_at "w";refine ⟨x,Z.a_System,dx,_,_,rfl,hx5,T.cl_System,T.na_states,(by rw[bh,if_pos rfl]),?_⟩;walk_at "w";refine ⟨q,H1,pt,mv.length,rfl,gq.same k5,by lia,by lia,fun ws hw=>⟨D.pw ws hw,op ws hw⟩,fun b H6 nb s6 Gb=>?_⟩;have hx6:=s6 _ _ hx5;have i6:vw H6 x:=⟨_,_,_,hx6⟩;walk_at "w";refine ⟨x,Z.a_System,dx,_,rfl,hx6,T.cl_System,T.na_put,aY dS (aY (dh dS) (by show 2 < 1000;decide)),?_⟩;have e6:Dc x H6 (upd H6 x (.ins Z.a_System dx (b8 "put" (.ref b) (b8 "states" (.int mv.length) (b8 "move" (.ref a) []))))):=Dc.upd;have hx7:(upd H6 x (.ins Z.a_System dx (b8 "put" (.ref b) (b8 "states" (.int mv.length) (b8 "move" (.ref a) []))))) x=some (.ins Z.a_System dx (b8 "put" (.ref b) (b8 "states" (.int mv.length) (b8 "move" (.ref a) [])))):=aF;have Ga7:=(Ga5.same s6).exc e6 i6;have Gb7:=(Gb.weak k5).exc e6 i6;have k7:aE Hb (upd H6 x (.ins Z.a_System dx (b8 "put" (.ref b) (b8 "states" (.int mv.length) (b8 "move" (.ref a) []))))):=(k5.trans s6).after nx;generalize upd H6 x (.ins Z.a_System dx (b8 "put" (.ref b) (b8 "states" (.int mv.length) (b8 "move" (.ref a) []))))=H7 at e6 hx7 Ga7 Gb7 k7 ⊢;obtain ⟨bs,gb,qb,_⟩:=id Gb7;have lb:=qb.length;walk_at "w";refine ⟨x,Z.a_System,dx,_,_,rfl,hx7,T.cl_System,T.na_put,(by rw[bh,if_pos rfl]),?_⟩;walk_at "w";refine ⟨_,_,rfl,.inl (bM.of gb),?_⟩;walk_at "w";refine ⟨x,Z.a_System,dx,_,rfl,hx7,T.cl_System,T.na_ins,aY dS (aY (dh (ah dS (dh dS))) (by show 3 < 1000;decide)),?_⟩;rw[show ((bs.length:Nat):Int)=((pt.length:Nat):Int) by rw[lb]];have i7:vw H7 x:=⟨_,_,_,hx7⟩;have e7:Dc x H7 (upd H7 x (.ins Z.a_System dx (b8 "ins" (.int pt.length) (b8 "put" (.ref b) (b8 "states" (.int mv.length) (b8 "move" (.ref a) [])))))):=Dc.upd;have hx8:(upd H7 x (.ins Z.a_System dx (b8 "ins" (.int pt.length) (b8 "put" (.ref b) (b8 "states" (.int mv.length) (b8 "move" (.ref a) [])))))) x=some (.ins Z.a_System dx (b8 "ins" (.int pt.length) (b8 "put" (.ref b) (b8 "states" (.int mv.length) (b8 "move" (.ref a) []))))):=aF;have Ga8:=Ga7.exc e7 i7;have Gb8:=Gb7.exc e7 i7;have k8:aE Hb (upd H7 x (.ins Z.a_System dx (b8 "ins" (.int pt.length) (b8 "put" (.ref b) (b8 "states" (.int mv.length) (b8 "move" (.ref a) [])))))):=k7.after nx;generalize upd H7 x (.ins Z.a_System dx (b8 "ins" (.int pt.length) (b8 "put" (.ref b) (b8 "states" (.int mv.length) (b8 "move" (.ref a) [])))))=H8 at e7 hx8 Ga8 Gb8 k8 ⊢;clear e6 e7 i6 i7 hx7 Ga7 Gb7 gb qb;walk_at "w";refine ⟨r,zs,2,4,rfl,k8 _ _ gz,by lia,?_⟩;walk_at "w";refine ⟨x,Z.a_System,dx,_,_,rfl,hx8,T.cl_System,T.na_states,(by rw[bh,if_neg (by decide +kernel),bh,if_neg (by decide +kernel),bh,if_pos rfl]),?_⟩;walk_at "w";refine ⟨r,H2,lk,mv.length,rfl,gr.same k8,by lia,by lia,fun ws hw=>⟨D.lw ws hw,ol ws hw⟩,fun c H9 nc s9 Gc=>?_⟩;have hx9:=s9 _ _ hx8;have i9:vw H9 x:=⟨_,_,_,hx9⟩;walk_at "w";refine ⟨x,Z.a_System,dx,_,rfl,hx9,T.cl_System,T.na_look,aY dS (aY (dh (ah dS (dh (ah dS (dh dS))))) (by show 4 < 1000;decide)),?_⟩;have e9:Dc x H9 (upd H9 x (.ins Z.a_System dx (b8 "look" (.ref c) (b8 "ins" (.int pt.length) (b8 "put" (.ref b) (b8 "states" (.int mv.length) (b8 "move" (.ref a) []))))))):=Dc.upd;have hxA:(upd H9 x (.ins Z.a_System dx (b8 "look" (.ref c) (b8 "ins" (.int pt.length) (b8 "put" (.ref b) (b8 "states" (.int mv.length) (b8 "move" (.ref a) []))))))) x=some (.ins Z.a_System dx (b8 "look" (.ref c) (b8 "ins" (.int pt.length) (b8 "put" (.ref b) (b8 "states" (.int mv.length) (b8 "move" (.ref a) [])))))):=aF;have GaA:=(Ga8.same s9).exc e9 i9;have GbA:=(Gb8.same s9).exc e9 i9;have GcA:=(Gc.weak k8).exc e9 i9;have kA:aE Hb (upd H9 x (.ins Z.a_System dx (b8 "look" (.ref c) (b8 "ins" (.int pt.length) (b8 "put" (.ref b) (b8 "states" (.int mv.length) (b8 "move" (.ref a) []))))))):=(k8.trans s9).after nx;generalize upd H9 x (.ins Z.a_System dx (b8 "look" (.ref c) (b8 "ins" (.int pt.length) (b8 "put" (.ref b) (b8 "states" (.int mv.length) (b8 "move" (.ref a) []))))))=HA at e9 hxA GaA GbA GcA kA ⊢;obtain ⟨cs,gc,qc,_⟩:=id GcA;have lc:=qc.length;walk_at "w";refine ⟨x,Z.a_System,dx,_,_,rfl,hxA,T.cl_System,T.na_look,(by rw[bh,if_pos rfl]),?_⟩;walk_at "w";refine ⟨_,_,rfl,.inl (bM.of gc),?_⟩;walk_at "w";refine ⟨x,Z.a_System,dx,_,rfl,hxA,T.cl_System,T.na_outs,aY dS (aY (dh (ah dS (dh (ah dS (dh (ah dS (dh dS))))))) (by show 5 < 1000;decide)),?_⟩;rw[show ((cs.length:Nat):Int)=((lk.length:Nat):Int) by rw[lc]];have iA:vw HA x:=⟨_,_,_,hxA⟩;exact k _ (kA.after nx) ⟨dx,a,b,c,aF,back na,k5.none nb,k8.none nc,(GaA.exc Dc.upd iA).weak s0,GbA.exc Dc.upd iA,GcA.exc Dc.upd iA⟩
theorem zI:aW ["_law_grid"] ["_law_grid"] (av gB):=by walk_at "d"
theorem nW (T:Txt K mg Z):cI P w K mg base gF 1 Z.lB Z.kL ["_law_grid"] (EJ K):=by
 refine T.iL.ok zI (fun vs H Q E h=>?_) (fun cdv A outer s H vs Q E hr h=>?_)
 ·obtain ⟨p,H0,rows,rfl,hp,hl,hm,k⟩:=h;rfl
 ·obtain ⟨p,H0,rows,rfl,hp,hl,hm,k⟩:=h;refine ⟨_,(ay (aZ (cE ["_law_row_here"] [] [] (cM (pv 0)) (fun _=>(aM (i:=0) (show List.Nodup (α:=PySem.Str) ["_law_row_here"] by decide +kernel))) (fun _=>cJ) (fun _=>(jo (kN K (by rfl)) (by rfl) T.list PyProof.Rows.boot_list (ae (pv 0) aj)))))),?_⟩;refine aO (σ:=[some (.ref p)]) rfl ?_;obtain ⟨xs,gx,qx,_⟩:=id hp;walk_at "w";refine ⟨⟨_,bM.of gx⟩,?_⟩;refine eN (K:=K) (F:=cS K H0) (cS K H) id gx qx hl (fun a b=>a.same b) (fun a b=>a.same b) ?_ ?_
  ·rintro i ns x H' NY NN en s ⟨u,rfl,_,zs,gz,qz⟩ k1;walk_at "w";refine ⟨u,zs,rfl,.inl (bM.of gz),fun l1 hl1=>?_⟩;exact k1 _ _ (aE.new hl1) ⟨l1,rfl,s.none hl1,zs,aF,Paired.imp' (fun _ _ z=>z.same (aE.new hl1)) qz⟩
  ·rintro ys' H' r hr s g pr nx;rw[sG] at pr nx;exact k r H' hr s ⟨ys',g,pr,mo nx⟩
theorem jD:aW ["_law_parts_here","_law_move_here","_law_put","_law_look"] ["_law_parts_here"] (av fZ):=by walk_at "d"
theorem z6 (T:Txt K mg Z):cI P w K mg base gF 7 Z.lh Z.kJ ["_law_parts_here"] (EE K Z.a_System):=by
 refine T.pV.ok jD (fun vs H Q E h=>?_) (fun cdv A outer s H vs Q E hr h=>?_)
 ·obtain ⟨r,H0,mv,pt,lk,rfl,PQ,D,F,k⟩:=h;rfl
 ·obtain ⟨r,H0,mv,pt,lk,rfl,PQ,D,F,k⟩:=h
  refine ⟨_,(au (fq (pv 0) (vH rfl (cu (aM (i:=1) jD.nd) (cu (aM (i:=2) jD.nd) (cu (aM (i:=3) jD.nd) ik)))))
   (ay (aZ (FP T.mk_System (nY T) (hr.mono (by decide)) rfl T.mg_System T.jQ .nil Bn (ae (cO (nW T) hr T.jM T.iL.kp T.kQ (ae (pv 1) aj)) (ae (cO (nW T) hr T.jM T.iL.kp T.kQ (ae (pv 2) aj)) (ae (cO (nW T) hr T.jM T.iL.kp T.kQ (ae (pv 3) aj)) aj))))))),?_⟩
  refine aO (σ:=[some (.ref r),none,none,none]) rfl ?_;obtain ⟨m,p,l,g,n1,n2,n3,Gm,Gp,Gl⟩:=id PQ;have d1:=D.n8;have d2:=D.i4;have d3:=D.o4;walk_at "w";refine ⟨m,H0,mv,rfl,Gm,by lia,fun xs hx=>by rw[D.mw xs hx];lia,fun a H1 na s1 Ga=>?_⟩;walk_at "w";refine ⟨p,H0,pt,rfl,Gp.same s1,by lia,fun xs hx=>by rw[D.pw xs hx];lia,fun b H2 nb s2 Gb=>?_⟩;have s12:=s1.trans s2;walk_at "w";refine ⟨l,H0,lk,rfl,Gl.same s12,by lia,fun xs hx=>by rw[D.lw xs hx];lia,fun c H3 nc s3 Gc=>?_⟩;have s13:=s12.trans s3;walk_at "w";intro x dx nx ndx nex;exact ⟨x,dx,a,b,c,H3,H,H1,H2,mv,pt,lk,rfl,nx,ndx,nex,rfl,(Ga.same s2).same s3,Gb.same s3,Gc,D,F.ok.1,F.ok.2.1,F.ok.2.2,fun H' s' S'=>⟨rfl,k x H' (s13.none nx) (s13.trans s') (S'.weak s13)⟩⟩
theorem Cj:aW ["row","bottom"] ["row","bottom"] (av jb):=by walk_at "d"
theorem wC (T:Txt K mg Z):cI P w K mg base gF 1 Z.oW Z.oG ["row","bottom"] (Ji K):=by
 refine T.lX.ok Cj (fun vs H Q E h=>?_) (fun cdv A outer s H vs Q E hr h=>?_)
 ·obtain ⟨p,ns,M,B,rfl,hp,hl,hz,hB,sB,q⟩:=h;rfl
 ·obtain ⟨p,ns,M,B,rfl,hp,hl,hz,hB,sB,q⟩:=h;refine ⟨_,(ay (aZ (cE ["value"] ["bottom"] [1] (cM (pv 0)) (fun _=>(aM (i:=0) (show List.Nodup (α:=PySem.Str) ["value","bottom"] by decide +kernel))) (fun _=>cJ) (fun _=>(bC cN (aV (CJ K (by rfl)) (pv 0) ao) (bC jG (pv 1) (aV (CJ K (by rfl)) (pv 0) ao))))))),?_⟩;refine aO (σ:=[some (.ref p),some (.int B)]) rfl ?_;obtain ⟨xs,gx,qx⟩:=id hp;have lx:=qx.length;walk_at "w";refine ⟨⟨_,bM.of gx⟩,?_⟩;refine ft (K:=K) (xs:=xs) (fun i ys H'=>H'=H/\ys=(fb (ns.take i) B).map V.int) (aR (bE (by lia))) ⟨rfl,rfl⟩ (fun i ys H' _ ⟨e,_⟩=>by subst e;exact bM.of gx) ?_ ?_
  ·rintro i x ys H' hx hlen ⟨rfl,rfl⟩;obtain ⟨n,en,r,rfl,hr1⟩:=cm qx hx;have nz:=hz.2.2 n (aw en);have sn:Sz 4400 n.2:=CP hz.1 nz.2.1 hz.2.1;walk_at "w";refine fe (show sD _ _ from ⟨by lia,sn.mono (by decide)⟩) ?_;rw[cz _ (by lia)]
   have sq:Sz 4400 (B / n.2):=sB.le (by
    rw[OI (by lia)];exact Nat.div_le_self ..)
   walk_at "w";refine fe (show fA _ _ from .inr ⟨_,_,nz.2.2,sq,by decide⟩) ?_;exact ⟨rfl,by rw[take_snoc en];simp [fb]⟩
  ·rintro ys H' hy ⟨rfl,rfl⟩ l hl';exact q l _ hl' (aE.new hl') (by rw[aF,aH (by lia)])
theorem fE:aW ["wholes","multiple","whole"] ["wholes"] (av dO):=by walk_at "d"
theorem vK (T:Txt K mg Z):cI P w K mg base gF 2 Z.gK Z.gI ["wholes"] (Nx K):=by
 refine T.jU.ok fE (fun vs H Q E h=>?_) (fun cdv A outer s H vs Q E hr h=>?_)
 ·obtain ⟨p,bs,M,rfl,hp,hM,sM,hb,q⟩:=h;rfl
 ·obtain ⟨p,bs,M,rfl,hp,hM,sM,hb,q⟩:=h
  refine ⟨_,(au (bf (i:=1) fE.nd rfl (Or.inl rfl) ao)
   (au (eF PassesOwn.never rfl (cM (pv 0)) (aM (i:=2) fE.nd)
    (ay (bf (i:=1) fE.nd rfl (Or.inl rfl) (bC cN (pv 1) (bC jG (pv 2) (cO (jJ T) hr T.gH T.fu.kp T.iB (ae (pv 1) (ae (pv 2) aj))))))))
   (ay (aZ (pv 1))))),?_⟩
  refine aO (σ:=[some (.ref p),none,none]) rfl ?_;walk_at "w";refine ⟨⟨_,hp⟩,?_⟩;refine lS (K:=K) (a:=p) (xs:=bs.map V.int) (fun i σ' H'=>H'=H/\∃x,σ'=[some (.ref p),some (.int (xR (bs.take i) 1)),x]) ⟨rfl,none,rfl⟩ (fun i σ' H' _ ⟨e,_⟩=>by subst e;exact hp) ?_ ?_
  ·rintro i x σ' H' hx ⟨rfl,y,rfl⟩;rw[aD] at hx
   obtain ⟨b,eb,rfl⟩:∃b,bs[i]?=some b/\x=.int b:=by
    cases e:bs[i]? with
    | none=>rw[e] at hx;cases hx
    | some b=>rw[e] at hx;cases hx;exact ⟨b,rfl,rfl⟩
   have b1:=hb b (aw eb);have sb:Sz 4400 b:=CP hM b1.2 sM;have ht:∀c∈bs.take i,0 < c/\c∣M:=fun c hc=>hb c (cH hc)
   have msz:Sz 4400 (xR (bs.take i) 1):=CP hM (yV (by decide) (Int.one_dvd _) ht) sM;generalize hm:xR (bs.take i) 1=m at msz ⊢;have gp:0 < g m b:=Al (by lia);walk_at "w";refine ⟨m,b,rfl,?_⟩;walk_at "w";refine fe (show sD _ _ from ⟨by lia,(Qt b1.1 sb).mono (by decide)⟩) ?_;rw[cz _ (by lia)];walk_at "w";refine fe (show fA _ _ from .inr ⟨_,_,msz,sb.hi (t:=m) (by lia),by decide⟩) ?_;walk_at "w";exact ⟨rfl,_,by rw[take_snoc eb,Bx,hm];rfl⟩
  ·rintro σ' H' ⟨rfl,y,rfl⟩;walk_at "w";rw[aH (by simp)];exact q
theorem xH:aW ["row"] ["row"] (av eK):=by walk_at "d"
theorem p9 (T:Txt K mg Z):cI P w K mg base gF 3 Z.iU Z.iP ["row"] (Ny K):=by
 refine T.fO.ok xH (fun vs H Q E h=>?_) (fun cdv A outer s H vs Q E hr h=>?_)
 ·obtain ⟨p,ns,M,rfl,hp,hl,hz,q⟩:=h;rfl
 ·obtain ⟨p,ns,M,rfl,hp,hl,hz,q⟩:=h;refine ⟨_,(ay (aZ (cO (vK T) hr T.og T.jU.kp T.oU (ae (cE ["value"] [] [] (cM (pv 0)) (fun _=>(aM (i:=0) (show List.Nodup (α:=PySem.Str) ["value"] by decide +kernel))) (fun _=>cJ) (fun _=>(aV (CJ K (by rfl)) (pv 0) ao))) aj)))),?_⟩;refine aO (σ:=[some (.ref p)]) rfl ?_;obtain ⟨xs,gx,qx⟩:=id hp;have lx:=qx.length;walk_at "w";refine ⟨⟨_,bM.of gx⟩,?_⟩;refine ft (K:=K) (xs:=xs) (fun i ys H'=>H'=H/\ys=((ns.take i).map (·.2)).map V.int) (aR (bE (by lia))) ⟨rfl,rfl⟩ (fun i ys H' _ ⟨e,_⟩=>by subst e;exact bM.of gx) ?_ ?_
  ·rintro i x ys H' hx hlen ⟨rfl,rfl⟩;obtain ⟨n,en,r,rfl,hr1⟩:=cm qx hx;walk_at "w";exact ⟨rfl,by rw[take_snoc en];simp⟩
  ·rintro ys H' hy ⟨rfl,rfl⟩ l hl';walk_at "w";refine ⟨l,ns.map (·.2),M,rfl,bM.of (by rw[aF,aH (by lia)]),hz.1,hz.2.1,fun b hb=>?_,?_⟩
   ·obtain ⟨n,hn,rfl⟩:=aB.mp hb;exact ⟨(hz.2.2 n hn).1,(hz.2.2 n hn).2.1⟩
   ·exact q _ (aE.new hl')
theorem uV:aW ["lines","begin","place","at"] ["lines","begin","place"] (av ia):=by walk_at "d"
theorem AR (T:Txt K mg Z):cI P w K mg base gF 1 Z.mW Z.mN ["lines","begin","place"] HJ:=by
 refine T.rR.ok uV (fun vs H Q E h=>?_) (fun cdv A outer s H vs Q E hr h=>?_)
 ·obtain ⟨l,p,ls,b,c,rfl,G,l1000,b1000,hc,k1,k2⟩:=h;rfl
 ·obtain ⟨l,p,ls,b,c,rfl,G,l1000,b1000,hc,k1,k2⟩:=h
  refine ⟨_,(au (eF PassesOwn.never rfl (HY rfl T.range (ae (pv 1) (ae (bY bL (by rfl) T.len bG (ae (pv 0) aj)) aj))) (aM (i:=3) uV.nd)
    (ay (dm (bw DN (aV bI (aV bI (pv 0) (pv 3)) (pv 2)) ao (bK _)) (ay (aZ (pv 3))) b9)))
   (ay (aZ Cs))),?_⟩
  refine aO (σ:=[some (.ref p),some (.int b),some (.int c),none]) rfl ?_;obtain ⟨_,xs,gx,qx⟩:=id G;have lx:=qx.length;walk_at "w";refine ⟨_,_,rfl,.inl (bM.of gx),?_⟩;rw[<- lx];walk_at "w";refine ⟨⟨by lia,by lia,by lia,by lia⟩,?_⟩;refine BC (lo:=(b:Int)) (n:=((ls.length:Int) - (b:Int)).toNat) (fun i σ' H'=>H'=H/\(∃y,σ'=[some (.ref p),some (.int b),some (.int c),y])/\∀s,b<=s->s < b+i->d4 ls s c=0) ⟨rfl,⟨_,rfl⟩,fun s h1 h2=>absurd h2 (by lia)⟩ ?_ ?_
  ·rintro i σ' H' hi ⟨rfl,⟨y,rfl⟩,hz⟩;rw[show ((b:Int)+(i:Int))=((b+i:Nat):Int) by lia];obtain ⟨zs,v,ez,ev,mz,q,rfl,_,gq⟩:=fH qx (i:=b+i) (by lia);walk_at "w";refine b5 (bM.of gx) (dQ ev) ?_;walk_at "w";refine b5 (bM.of gq) (zo (hc zs mz)) ?_;walk_at "w";have ef:=IU (c:=c) ez;by_cases e:zs.getD c 0=0
   ·rw[decide_eq_true e];walk_at "w";refine ⟨rfl,⟨_,rfl⟩,fun s h1 h2=>?_⟩;by_cases e2:s=b+i
    ·rw[e2,ef,e];rfl
    ·exact hz s h1 (by lia)
   ·rw[decide_eq_false e];walk_at "w";exact k1 (b+i) (by lia) (by lia) (by rw[ef];exact Qg.mpr e)
  ·rintro σ' H' ⟨rfl,⟨y,rfl⟩,hz⟩;walk_at "w";exact k2 fun t h1 h2=>hz t h1 (by lia)
theorem qK:aW ["lines","at","place","before","used","by","swept"] ["lines","at","place","before"] (av nF):=by walk_at "d"
theorem E6 (T:Txt K mg Z):cI P w K mg base gF 1 Z.uL Z.uz ["lines","at","place","before"] HK:=by
 refine T.yh.ok qK (fun vs H Q E h=>?_) (fun cdv A outer s H vs Q E hr h=>?_)
 ·obtain ⟨l,p,ls,kk,c,n,b,rfl,hl,G,l1000,hk,hw,n1000,hc,b0,sb,hs,k⟩:=h;rfl
 ·obtain ⟨l,p,ls,kk,c,n,b,rfl,hl,G,l1000,hk,hw,n1000,hc,b0,sb,hs,k⟩:=h
  refine ⟨_,(au (bf (i:=4) qK.nd rfl (Or.inr rfl) (aV bI (pv 0) (pv 1)))
   (au (bf (i:=5) qK.nd rfl (Or.inr rfl) (aV bI (pv 4) (pv 2)))
   (au (ky 6 ["line"] ["used","by","place","before"] [4,5,2,3] qK.nd rfl rfl (cM (pv 0)) (fun _=>(aM (i:=0) (show List.Nodup (α:=PySem.Str) ["line","used","by","place","before"] by decide +kernel) rfl (Or.inr rfl) (Or.inl rfl))) (fun _=>cJ) (fun _=>(cE ["mine","yours"] ["by","line","place","before"] [2,0,3,4] (JL K rfl T.zip (ae (pv 0) (ae (pv 1) aj))) (fun _=>(qO K 2 (cu (aM (i:=0) (show List.Nodup (α:=PySem.Str) ["mine","yours","by","line","place","before"] by decide +kernel)) (cu (aM (i:=1) (show List.Nodup (α:=PySem.Str) ["mine","yours","by","line","place","before"] by decide +kernel)) ik)))) (fun _=>cJ) (fun _=>(bC jG (bC ke (bC cN (pv 2) (pv 0)) (bC cN (aV (fM K (by rfl)) (pv 3) (pv 4)) (pv 1))) (pv 5))))))
   (au (fq (pv 4) (gR (pv 6) (pv 1) set_list))
   (ay (aZ (pv 6))))))),?_⟩
  refine aO (σ:=[some (.ref p),some (.int kk),some (.int c),some (.int b),none,none,none]) rfl ?_;obtain ⟨pl,xs,gx,qx⟩:=id G;have lx:=qx.length;obtain ⟨zk,vk,ek,evk,mk,qk,rfl,qkl,gk⟩:=fH qx hk;have wk:=hw zk mk;have ek':ls.getD kk []=zk:=by rw[aa,ek];rfl
  walk_at "w";refine b5 (bM.of gx) (dQ evk) ?_;walk_at "w";refine b5 (bM.of gk) (zo (by lia)) ?_;walk_at "w";refine ⟨⟨_,bM.of gx⟩,?_⟩;refine ft (K:=K) (xs:=xs) (fun i ys H'=>aE H H'/\Paired (GR l H') ((ls.take i).map fun zs=>List.zipWith (fun x y=>(zk.getD c 0*x - zs.getD c 0*y).fdiv b) zs zk) ys) (aR (bE (by lia))) ⟨aE.refl _,.nil⟩ (fun i ys H' _ ⟨s,_⟩=>bM.of (s _ _ gx)) ?_ ?_
  ·rintro i v ys0 H' hx hlen ⟨s',pr⟩;obtain ⟨zs,ec,q,rfl,ql,gq⟩:=cm qx hx;have mz:=aw ec;have wz:=hw zs mz;have gq':=s' _ _ gq;have gk':=s' _ _ gk;walk_at "w";refine ⟨⟨_,bM.of gq'⟩,⟨_,bM.of gk'⟩,?_⟩;refine tF (K:=K) (xs:=zs.map V.int) (ws:=zk.map V.int) (fun j ys H2=>aE H' H2/\ys=((List.zipWith (fun x y=>(zk.getD c 0*x - zs.getD c 0*y).fdiv b) zs zk).take j).map V.int) (aR (bE (by rw[ag];lia))) (by rw[ag,ag];lia) ⟨aE.refl _,rfl⟩ (fun j ys H2 _ ⟨s2,_⟩=>⟨bM.of (s2 _ _ gq'),bM.of (s2 _ _ gk')⟩) ?_ ?_
   ·rintro j v1 v2 ys H2 r h1 h2 hy ⟨s2,rfl⟩ hr
    obtain ⟨x,ex,rfl⟩:∃x,zs[j]?=some x/\V.int x=v1:=by
     rw[aD] at h1;cases e:zs[j]? with
     | none=>rw[e] at h1;cases h1
     | some x=>rw[e] at h1;exact ⟨x,rfl,b7 h1⟩
    obtain ⟨y,ey,rfl⟩:∃y,zk[j]?=some y/\V.int y=v2:=by
     rw[aD] at h2;cases e:zk[j]? with
     | none=>rw[e] at h2;cases h2
     | some x=>rw[e] at h2;exact ⟨x,rfl,b7 h2⟩
    have sr:aE H2 (upd H2 r (.tup [.int x,.int y])):=aE.new hr;have gr:(upd H2 r (.tup [.int x,.int y])) r=some (.tup [.int x,.int y]):=aF;generalize upd H2 r (.tup [.int x,.int y])=H3 at sr gr ⊢;have gq3:=sr _ _ (s2 _ _ gq');have sx:=hs zs mz x (aw ex);have sy:=hs zk mk y (aw ey);have s1:=hs zk mk _ (getD_in (e:=0) (show c < zk.length by lia));have s3:=hs zs mz _ (getD_in (e:=0) (show c < zs.length by lia));walk_at "w";refine fe (show fA _ _ from .inr ⟨_,_,s1,sx,by decide⟩) ?_;walk_at "w";refine b5 (bM.of gq3) (zo (by lia)) ?_;walk_at "w";refine fe (show fA _ _ from .inr ⟨_,_,s3,sy,by decide⟩) ?_;walk_at "w";refine fe (show sD _ _ from ⟨b0,sb⟩) ?_;have ez:(List.zipWith (fun x y=>(zk.getD c 0*x - zs.getD c 0*y).fdiv b) zs zk)[j]?=some ((zk.getD c 0*x - zs.getD c 0*y).fdiv b):=by rw[cB,ex,ey]
    exact ⟨s2.trans sr,by rw[take_snoc ez];simp⟩
   ·rintro ys H2 hy ⟨s2,rfl⟩ r hr;have sn:aE H2 (upd H2 r (.lst (((List.zipWith (fun x y=>(zk.getD c 0*x - zs.getD c 0*y).fdiv b) zs zk).take (zs.map V.int).length).map V.int))):=aE.new hr;refine ⟨(s'.trans s2).trans sn,?_⟩;rw[take_snoc ec,dg];refine bZ (Paired.imp' (fun _ _ z=>(GR.same z s2).same sn) pr) (.cons ⟨r,rfl,ne_old (fun z=>hl (s'.none (s2.none z))) hr,?_⟩ .nil);rw[aF,aH (by rw[bN,ag];lia)]
  ·rintro ys H1 hy ⟨s1,pr⟩ r hr;have sn:aE H1 (upd H1 r (.lst ys)):=aE.new hr;have gn:(upd H1 r (.lst ys)) r=some (.lst ys):=aF;have ly:=pr.length;rw[ag,cT] at ly;generalize upd H1 r (.lst ys)=H2 at sn gn ⊢;walk_at "w";refine eO gn (ff (by lia)) rfl ?_;have s2:aE H1 (upd H2 r (.lst (ys.set kk (.ref qk)))):=sn.after hr;walk_at "w";refine k r _ (s1.none hr) (s1.trans s2) ⟨ne_old (fun z=>hl (s1.none z)) hr,_,aF,?_⟩;unfold Ee;rw[ek'];rw[aH (by lia)] at pr;exact kb (Paired.imp' (fun _ _ z=>GR.same z s2) pr) kk ⟨qk,rfl,qkl,(s1.trans s2) _ _ gk⟩
theorem uW:aW ["lines","at","to","swapped"] ["lines","at","to"] (av ib):=by walk_at "d"
theorem AS (T:Txt K mg Z):cI P w K mg base gF 1 Z.mX Z.mO ["lines","at","to"] Ds:=by
 refine T.rS.ok uW (fun vs H Q E h=>?_) (fun cdv A outer s H vs Q E hr h=>?_)
 ·obtain ⟨l,p,ls,t,kk,rfl,hl,G,l1000,ht,hk,k⟩:=h;rfl
 ·obtain ⟨l,p,ls,t,kk,rfl,hl,G,l1000,ht,hk,k⟩:=h
  refine ⟨_,(au (bf (i:=3) uW.nd rfl (Or.inl rfl) (jo rB (by rfl) T.list PyProof.Rows.boot_list (ae (pv 0) aj)))
   (au (fq (aV bI (pv 0) (pv 1)) (gR (pv 3) (pv 2) set_list))
   (au (fq (aV bI (pv 0) (pv 2)) (gR (pv 3) (pv 1) set_list))
   (ay (aZ (pv 3)))))),?_⟩
  refine aO (σ:=[some (.ref p),some (.int t),some (.int kk),none]) rfl ?_;obtain ⟨pl,xs,gx,qx⟩:=id G;have lx:=qx.length;obtain ⟨zt,vt,et,evt,_,Ft⟩:=fH qx ht;obtain ⟨zk,vk,ek,evk,_,Fk⟩:=fH qx hk;walk_at "w";refine ⟨p,xs,rfl,.inl (bM.of gx),fun c hc=>?_⟩;have sc:aE H (upd H c (.lst xs)):=aE.new hc;have gc:(upd H c (.lst xs)) c=some (.lst xs):=aF;generalize upd H c (.lst xs)=Hc at sc gc ⊢;walk_at "w";refine b5 (bM.of (sc _ _ gx)) (dQ evt) ?_;walk_at "w";refine eO gc (ff (by lia)) rfl ?_;have s1:aE H (upd Hc c (.lst (xs.set kk vt))):=sc.after hc;have g1:(upd Hc c (.lst (xs.set kk vt))) c=some (.lst (xs.set kk vt)):=aF;generalize upd Hc c (.lst (xs.set kk vt))=H1 at s1 g1 ⊢;walk_at "w";refine b5 (bM.of (s1 _ _ gx)) (dQ evk) ?_;walk_at "w";refine eO g1 (ff (by rw[dZ];lia)) rfl ?_;have s2:aE H (upd H1 c (.lst ((xs.set kk vt).set t vk))):=s1.after hc;walk_at "w";refine k c _ hc s2 ⟨ne_old hl hc,_,aF,?_⟩;have et':ls.getD t []=zt:=by rw[aa,et];rfl
  have ek':ls.getD kk []=zk:=by rw[aa,ek];rfl
  unfold qH;rw[et',ek'];exact kb (kb (Paired.imp' (fun _ _ z=>GR.same z s2) qx) kk (GR.same Ft s2)) t (GR.same Fk s2)
theorem jB:aW ["rows","wide","lines","leads","before","place","many","at"] ["rows","wide"] (av t8):=by walk_at "d"
theorem DP (T:Txt K mg Z):cI P w K mg base gF 4 Z.y8 Z.yX ["rows","wide"] (Hs K):=by
 refine T.ze.ok jB (fun vs H Q E h=>?_) (fun cdv A outer s H vs Q E hr h=>?_)
 ·obtain ⟨p,n,w,H0,rows,rfl,G,r100,n100,hw,F,k⟩:=h;rfl
 ·obtain ⟨p,n,w,H0,rows,rfl,G,r100,n100,hw,F,k⟩:=h
  refine ⟨_,(au (ky 2 ["row"] [] [] jB.nd rfl rfl (cM (pv 0)) (fun _=>(aM (i:=0) (show List.Nodup (α:=PySem.Str) ["row"] by decide +kernel))) (fun _=>cJ) (fun _=>(cO (wC T) hr T.mI T.lX.kp T.oT (ae (pv 0) (ae (cO (p9 T) hr T.ip T.fO.kp T.iS (ae (pv 0) aj)) aj)))))
   (au (bf (i:=3) jB.nd rfl (Or.inl rfl) (eI aj))
   (au (bf (i:=4) jB.nd rfl (Or.inl rfl) ao)
   (au (eF PassesOwn.never rfl (cv rfl T.range (ae (pv 1) aj)) (aM (i:=5) jB.nd)
    (au (bf (i:=6) jB.nd rfl (Or.inl rfl) (bY bL (by rfl) T.len bG (ae (pv 3) aj)))
   (au (bf (i:=7) jB.nd rfl (Or.inl rfl) (cO (AR T) hr T.vd T.rR.kp T.xh (ae (pv 2) (ae (pv 6) (ae (pv 5) aj)))))
   (ay (dm (bw FT (pv 7) Cs (bK _)) (au (bf (i:=2) jB.nd rfl (Or.inl rfl) (cO (E6 T) hr T.Ae T.yh.kp T.BS (ae (cO (AS T) hr T.ve T.rS.kp T.xi (ae (pv 2) (ae (pv 7) (ae (pv 6) aj)))) (ae (pv 6) (ae (pv 5) (ae (pv 4) aj))))))
   (au (bf (i:=4) jB.nd rfl (Or.inl rfl) (aV bI (aV bI (pv 2) (pv 6)) (pv 5)))
   (ay (jF (yj cW gQ gP qf (pv 3) (ae (pv 5) aj)))))) b9)))))
   (ay (aZ (dA (ae (zO Cg (pv 2) FN (yS (bY bL (by rfl) T.len bG (ae (pv 3) aj)))) (ae (pv 3) aj))))))))),?_⟩
  refine aO (σ:=[some (.ref p),some (.int n),none,none,none,none,none,none]) rfl ?_;obtain ⟨xs,gx,qx,_⟩:=id G;obtain ⟨W,hW,W2,ent⟩:=F.ent;obtain ⟨_,_,_,_,_,_,_,_,r15,r89⟩:=id F;walk_at "w";refine ⟨⟨_,bM.of gx⟩,?_⟩;refine eN (K:=K) (as:=rows) (F:=cS K H0) (fun (H:Hp) (zs:List Int) (v:V)=>∃q,v=V.ref q/\H q=some (.lst (zs.map V.int))) jv gx qx (by lia) (fun a b=>a.same b) (fun ⟨q,a,b⟩ s=>⟨q,a,s _ _ b⟩) ?_ ?_
  ·rintro i qs v H' NY NN ec s' ⟨u,rfl,_,R⟩ k1;have mx:=aw ec;obtain ⟨M,hM⟩:=F.rowM mx;obtain ⟨b1,sb⟩:=hM.bot;have lq:(qs.map nm).length<=1000:=by rw[ag,hw qs mx];lia
   walk_at "w";refine ⟨u,_,M,rfl,R.rowK,lq,hM,fun H2 s2=>?_⟩;walk_at "w";exact ⟨u,_,M,_,rfl,(R.same s2).rowK,lq,hM,b1,sb,fun r H3 n3 s3 g3=>k1 _ _ (s2.trans s3) ⟨r,rfl,g3⟩⟩
  rintro ys H1 lp0 hlp s1 g1 pr1 nx1;walk_at "w";refine dk fun qp H2 s2 nq gq=>?_
  have G2:tQ qp H2 lp0 (rows.map jv):=⟨(fun z=>by rw[z,nq] at g1;cases g1),ys,s2 _ _ g1,Paired.imp' (fun _ _ ⟨q,a,b⟩=>⟨q,a,(fun z=>by rw[z,nq] at b;cases b),s2 _ _ b⟩) pr1⟩;have hq0:H qp=none:=s1.none nq;have s02:=s1.trans s2;have hm:(rows.map jv).length=rows.length:=ag ..;clear g1 pr1 nx1;walk_at "w";refine ⟨by lia,by lia,?_⟩;refine eH (n:=n) (fun P σ' H'=>aE H H'/\∃lp ls ps d y1 y2 y3,σ'=[some (.ref p),some (.int n),some (.ref lp),some (.ref qp),some (.int d),y1,y2,y3]/\H' qp=some (.lst (dH ps))/\tQ qp H' lp ls/\BU (rows.map jv) n P ls ps d) ⟨s02,lp0,rows.map jv,[],1,_,_,_,rfl,gq,G2,BU.start fun zs hz=>by obtain ⟨x,hx,rfl⟩:=aB.mp hz;rw[pW];exact hw x hx⟩ ?_ ?_
  ·rintro P σ' H' hP ⟨s',lp,ls,ps,d,y1,y2,y3,rfl,gq',G',I⟩;have hl:=I.len;have kP:=I.el.kP;have km:=I.el.km;have lps:(dH ps).length=ps.length:=ag ..;have hqp:H' qp≠none:=by rw[gq'];exact fun z=>nomatch z
   obtain ⟨z1,z2⟩:=I.sz (r:=min rows.length n) hW ent (by lia) (by rw[hm];exact ar _) r15;have big:(16*W)^min rows.length n < 2^8999:=aY (EX W2) (dC (by decide) (by lia));walk_at "w";refine ⟨_,_,rfl,.inl (bM.of gq'),?_⟩;rw[lps];walk_at "w";refine ⟨qp,lp,ls,ps.length,P,rfl,G',by lia,by lia,fun zs hz=>by rw[I.wide zs hz];exact hP,fun t h1 h2 h3=>?_,fun hz=>?_⟩
   ·walk_at "w";refine ⟨rfl,_,rfl,?_⟩;rw[show decide (V.int (t:Int)=V.non)=false from decide_eq_false (fun z=>nomatch z)];walk_at "w";refine ⟨qp,lp,ls,t,ps.length,rfl,hqp,G',by lia,h2,by lia,fun l1 Ha na sa Ga=>?_⟩;walk_at "w";refine ⟨qp,l1,_,ps.length,P,n,d,rfl,fun z=>hqp (sa.none z),Ga,by rw[xB];lia,by rw[xB];lia,FI I.wide (by lia) h2,by lia,hP,I.d0,aY z1 big,fun zs hz z hz'=>?_,fun l2 Hb nb sb Gb=>?_⟩
    ·unfold qH at hz;have key:∀ys,ys∈ls->∀z∈ys,Sz 8999 z:=fun ys hy z hz=>aY (z2 ys hy z hz) big
     rcases cC hz with h | h
     ·rcases cC h with h | h
      ·exact key zs h z hz'
      ·rw[h] at hz';exact key _ (getD_in h2) z hz'
     ·rw[h] at hz';exact key _ (getD_in (by lia)) z hz'
    have sab:=sa.trans sb;have I2:=I.step hW ent h1 h2 h3;have hk2:ps.length < (Ee (qH ls ps.length t) ps.length P d).length:=by rw[KD,xB];lia
    obtain ⟨n2,xs2,gx2,qx2⟩:=id Gb;obtain ⟨zk,vk,ek,evk,mk,qk,rfl,_,gk⟩:=fH qx2 hk2;have wk:=I2.wide zk mk;walk_at "w";refine b5 (bM.of gx2) (dQ evk) ?_;walk_at "w";refine b5 (bM.of gk) (zo (by lia)) ?_;have gqb:=sab _ _ gq';walk_at "w";refine ⟨.inl ⟨rfl,_,bM.of gqb⟩,?_⟩;walk_at "w";refine p8 gqb (bE (by lia)) ?_;refine ⟨(s'.trans sab).after hq0,l2,_,ps++[P],_,_,_,_,rfl,?_,Gb.upd,?_⟩
    ·rw[aF];unfold dH;rw[dg];rfl
    ·have e:(Ee (qH ls ps.length t) ps.length P d).getD ps.length []=zk:=by rw[aa,ek];rfl
     rw[e] at I2;exact I2
   ·walk_at "w";refine ⟨rfl,_,rfl,?_⟩;rw[show decide (V.non=V.non)=true from decide_eq_true rfl];walk_at "w";exact ⟨s',lp,ls,ps,d,_,_,_,rfl,gq',G',I.skip hz⟩
  rintro σ' H' ⟨s',lp,ls,ps,d,y1,y2,y3,rfl,gq',G',I⟩;obtain ⟨R,hR⟩:=I.done hw F;have lps:(dH ps).length=ps.length:=ag ..;obtain ⟨nl,xs',gx',qx'⟩:=id G';walk_at "w";refine ⟨_,_,rfl,.inl (bM.of gq'),?_⟩;rw[lps];walk_at "w";refine NH (bM.of gx') fun sl H3 s3 n3 g3=>?_
  rw[KC] at g3;walk_at "w";refine cD fun t H4 s4 g4=>?_
  have s34:=s3.trans s4;exact k t sl qp R ps d _ H4 g4 (s34 _ _ gq') ⟨(fun z=>by rw[z,gq'] at n3;cases n3),_,s4 _ _ g3,Paired.imp' (fun _ _ z=>GR.same z s34) (sV qx' ps.length)⟩ (s'.trans s34) hR
theorem xE:aW ["top","bottom","divisor"] ["top","bottom"] (av p0):=by walk_at "d"
theorem uh (T:Txt K mg Z):cI P w K mg base gF 2 Z.xo Z.wZ ["top","bottom"] HF:=by
 refine T.qB.ok xE (fun vs H Q E h=>?_) (fun cdv A outer s H vs Q E hr h=>?_)
 ·obtain ⟨t,b,rfl,hb,hs,k⟩:=h;rfl
 ·obtain ⟨t,b,rfl,hb,hs,k⟩:=h
  refine ⟨_,(au (bf (i:=2) xE.nd rfl (Or.inl rfl) (cO (jJ T) hr T.gH T.fu.kp T.iB (ae (pv 0) (ae (pv 1) aj))))
   (au (dm (bw uZ (pv 1) ao (bK _)) (ay (bf (i:=2) xE.nd rfl (Or.inl rfl) (wq qG (pv 2)))) b9)
   (ay (aZ (dA (ae (bC jG (pv 0) (pv 2)) (ae (bC jG (pv 1) (pv 2)) aj))))))),?_⟩
  refine aO (σ:=[some (.int t),some (.int b),none]) rfl ?_;walk_at "w";refine ⟨t,b,rfl,?_⟩;have hg:=Al (t:=t) hb
  have hgs:Sz 8999 (g t b):=hs.le (by
   have h1:(g t b).natAbs=Int.gcd t b:=by unfold g;simp
   rw[h1];exact my (by lia) (by have:=eU (a:=t) (b:=b);exact fJ.mpr this |> fun z=>by simpa using z))
  have hgn:g (-t) (-b)=g t b:=by unfold g;rw[Int.gcd_neg,Int.neg_gcd]
  walk_at "w";refine jx (fun h=>?_) (fun h=>?_)
  ·have hb0:b < 0:=of_decide_eq_true h;walk_at "w";refine fe (show sD _ _ from ⟨by lia,hgs.neg⟩) ?_;walk_at "w";refine fe (show sD _ _ from ⟨by lia,hgs.neg⟩) ?_;walk_at "w";refine cD fun r H' s' h'=>?_
   have e1:t.fdiv (-g t b)=lo (-t) (-b):=by
    unfold Nm.lo;rw[hgn,<- cz _ (by lia),<- Int.neg_fdiv_neg (-t),Int.neg_neg]
   have e2:b.fdiv (-g t b)=hi (-t) (-b):=by
    unfold Nm.hi;rw[hgn,<- cz _ (by lia),<- Int.neg_fdiv_neg (-b),Int.neg_neg]
   exact k r H' s' (by rw[if_pos hb0,if_pos hb0,<- e1,<- e2];exact h')
  ·have hb0:¬b < 0:=fun z=>h (decide_eq_true z)
   walk_at "w";refine fe (show sD _ _ from ⟨by lia,hgs⟩) ?_;walk_at "w";refine fe (show sD _ _ from ⟨by lia,hgs⟩) ?_;walk_at "w";refine cD fun r H' s' h'=>?_
   rw[cz _ (by lia),cz _ (by lia)] at h';exact k r H' s' (by rw[if_neg hb0,if_neg hb0];exact h')
theorem zE:aW ["rows","wide","found"] ["rows","wide"] (av nA):=by walk_at "d"
theorem vJ (T:Txt K mg Z):cI P w K mg base gF 5 Z.uG Z.uu ["rows","wide"] (Dp K):=by
 refine T.qA.ok zE (fun vs H Q E h=>?_) (fun cdv A outer s H vs Q E hr h=>?_)
 ·obtain ⟨p,n,w,H0,rows,rfl,G,r100,n100,hw,F,k⟩:=h;rfl
 ·obtain ⟨p,n,w,H0,rows,rfl,G,r100,n100,hw,F,k⟩:=h
  refine ⟨_,(au (bf (i:=2) zE.nd rfl (Or.inl rfl) (cO (DP T) hr T.z9 T.ze.kp T.C0 (ae (pv 0) (ae (pv 1) aj))))
   (ay (aZ (cE ["line","lead"] [] [] (qN rfl T.zip (ae (aV b4 (pv 2) ao) (ae (aV b4 (pv 2) ao) aj))) (fun _=>(qO K 2 (cu (aM (i:=0) (show List.Nodup (α:=PySem.Str) ["line","lead"] by decide +kernel) rfl (Or.inr rfl) (Or.inl rfl)) (cu (aM (i:=1) (show List.Nodup (α:=PySem.Str) ["line","lead"] by decide +kernel) rfl (Or.inr rfl) (Or.inl rfl)) ik)))) (fun _=>cJ) (fun _=>(cE ["top"] ["line","lead"] [0,1] (DK K (pv 0)) (fun _=>(aM (i:=0) (show List.Nodup (α:=PySem.Str) ["top","line","lead"] by decide +kernel))) (fun _=>cJ) (fun _=>(cO (uh T) hr T.qg T.qB.kp T.tI (ae (pv 0) (ae (aV (fM K (by rfl)) (pv 1) (pv 2)) aj)))))))))),?_⟩
  refine aO (σ:=[some (.ref p),some (.int n),none]) rfl ?_;obtain ⟨_,_,_,_,_,_,_,_,r15,r89⟩:=id F;walk_at "w";refine ⟨p,n,w,H0,rows,rfl,G,r100,n100,hw,F,fun t lp qp R ps d ls H1 gt gq G1 s1 S=>?_⟩;obtain ⟨lR,wR,RR⟩:=id S.rr;have hl:=S.len;obtain ⟨_,xs,gx,qx⟩:=id G1;have lx:=qx.length;have lps:(dH ps).length=ps.length:=ag ..;have d0:(d:Rat)≠0:=fun z=>S.d0 (tG z)
  have dsz:Sz 8999 d:=aY S.dsz (dC (by decide) (by lia))
  have km:ps.length<=n:=by
   rcases bX n ps.length with z | z
   ·have inc:∀j,j < ps.length->j<=ps.getD j 0:=by
     intro j
     induction j with
     | zero=>intro _;exact aX _
     | succ j ih =>
      intro hj;have:=ih (by lia);have:=RR.inc j (j+1) (by lia) hj
      lia
    have h1:=inc (ps.length - 1) (by lia);have h2:=RR.low (ps.length - 1) (by lia)
    lia
   ·exact z
  walk_at "w";refine ⟨⟨_,bM.of gx⟩,⟨_,bM.of gq⟩,?_⟩;refine tF (K:=K) (xs:=xs) (ws:=dH ps) (fun i ys H'=>aE H1 H'/\Paired (cS K H1 H') (R.take i) ys) (aR (bE (by lia))) (by lia) ⟨aE.refl _,.nil⟩ (fun i ys H' _ ⟨s,_⟩=>⟨bM.of (s _ _ gx),bM.of (s _ _ gq)⟩) ?_ ?_
  ·rintro i v1 v2 ys H' r h1 h2 hy ⟨s,pr⟩ hr;obtain ⟨zs,ez,q,rfl,_,gq1⟩:=cm qx h1;have hi:i < ls.length:=(aA.mp ez).1;have mz:=aw ez;have wz:=S.wide zs mz
   obtain ⟨j,ej,rfl⟩:∃j:Nat,ps[i]?=some j/\V.int (j:Int)=v2:=by
    unfold dH at h2;rw[aD] at h2;cases e:ps[i]? with
    | none=>rw[e] at h2;cases h2
    | some x=>rw[e] at h2;exact ⟨x,rfl,b7 h2⟩
   have ej':ps.getD i 0=j:=by rw[aa,ej];rfl
   have jn:j < n:=by have:=RR.low i (by lia);rw[ej'] at this;exact this
   have sr:aE H' (upd H' r (.tup [.ref q,.int j])):=aE.new hr;have gr:(upd H' r (.tup [.ref q,.int j])) r=some (.tup [.ref q,.int j]):=aF;generalize upd H' r (.tup [.ref q,.int j])=H2 at sr gr ⊢;have s2:=s.trans sr;have iR:i < R.length:=by lia
   have eR:=af iR;have wRi:=wR _ (az iR)
   have ed:zs.getD j 0=d:=by
    have h:=S.val i j;rw[IU ez] at h;have u:=RR.unit i (by lia) i (by lia);rw[if_pos rfl,ej'] at u;rw[u,Rat.mul_one] at h;exact dd.mp h
   have val:∀c,((zs.getD c 0:Int):Rat)=(d:Rat)*(R[i]).getD c 0:=fun c=>by
    have h:=S.val i c;rw[IU ez] at h;rw[h];unfold bD;rw[aa (l:=R),eR];rfl
   walk_at "w";refine ⟨⟨_,bM.of (s2 _ _ gq1)⟩,?_⟩;refine ft (K:=K) (xs:=zs.map V.int) (fun c ys' H3=>aE H2 H3/\Paired (cw K H3) ((R[i]).take c) ys') (aR (bE (by rw[ag];lia))) ⟨aE.refl _,.nil⟩ (fun c ys' H3 _ ⟨s3,_⟩=>bM.of ((s2.trans s3) _ _ gq1)) ?_ ?_
   ·rintro c x ys' H3 hx hlen ⟨s3,pr3⟩
    obtain ⟨z,ec,rfl⟩:∃z,zs[c]?=some z/\V.int z=x:=by
     rw[aD] at hx;cases e:zs[c]? with
     | none=>rw[e] at hx;cases hx
     | some x=>rw[e] at hx;exact ⟨x,rfl,b7 hx⟩
    have hc:c < zs.length:=(aA.mp ec).1;have vc:=val c;have e1:zs.getD c 0=z:=by rw[aa,ec];rfl
    rw[e1] at vc;walk_at "w";refine b5 (bM.of ((s2.trans s3) _ _ gq1)) (zo (by lia)) ?_;rw[ed];walk_at "w";refine ⟨z,d,rfl,S.d0,dsz,fun r4 H4 s4 g4=>?_⟩;have ec':(R[i])[c]?=some ((R[i]).getD c 0):=by rw[aa,af (show c < (R[i]).length by lia)];rfl
    refine ⟨s3.trans s4,?_⟩;rw[take_snoc ec'];refine bZ (Paired.imp' (fun _ _ z=>cw.same z s4) pr3) (.cons (cw.mk g4 ?_) .nil);rcases Int.lt_or_lt_of_ne S.d0 with hd | hd
    ·rw[if_pos hd,if_pos hd];refine mJ (by lia) ?_;rw[cP,cP,vc];grind
    ·rw[if_neg (by lia),if_neg (by lia)];refine mJ hd ?_;rw[vc];grind
   ·rintro ys' H3 hy' ⟨s3,pr3⟩ l4 hl4;have sn:aE H3 (upd H3 l4 (.lst ys')):=aE.new hl4;refine ⟨(s2.trans s3).trans sn,?_⟩;rw[take_snoc eR];rw[aH (by rw[ag];lia)] at pr3;exact bZ (Paired.imp' (fun _ _ z=>cS.same z ((sr.trans s3).trans sn)) pr) (.cons ⟨l4,rfl,(s2.trans s3).none hl4,ys',aF,Paired.imp' (fun _ _ z=>cw.same z sn) pr3⟩ .nil)
  ·rintro ys H' hy ⟨s,pr⟩ r hr;have sn:aE H' (upd H' r (.lst ys)):=aE.new hr;rw[aH (by lia)] at pr;refine k r R ps d.natAbs _ (s1.none (s.none hr)) ((s1.trans s).trans sn) ⟨ys,aF,Paired.imp' (fun _ _ z=>(cS.weak z s1).same sn) pr,mo (H0:=H1) (rows:=R) ⟨H',hr,pr⟩⟩ S.rr S.km ?_ S.dsz S.tp;have:=S.d0
   lia
theorem qI:aW ["one","other","one_bottom","other_bottom","pairs"] ["one","other"] (av nv):=by walk_at "d"
theorem zX (T : Txt K mg Z) : cI P w K mg base gF 4 Z.uF Z.uo ["one", "other"] (FJ K) := by
  have sA := p9 (P := P) (w := w) (base := base) T;have yC := wC (P := P) (w := w) (base := base) T;have KQ := uh (P := P) (w := w) (base := base) T;refine T.uO.ok qI (fun vs H Q E h => ?_) (fun cdv A outer s H vs Q E hr h => ?_)
  · obtain ⟨p, q, xs, ys, rfl, hp, hq, hl, hz, ⟨k1, j1, k2, j2, h1, h2, hkj⟩, kk⟩ := h;rfl
  · obtain ⟨p, q, xs, ys, rfl, hp, hq, hl, hz, ⟨k1, j1, k2, j2, h1, h2, hkj⟩, kk⟩ := h
    refine ⟨_, (au (bf (i := 2) qI.nd rfl (Or.inl rfl) (cO sA hr T.ip T.fO.kp T.iS (ae (pv 0) aj)))
      (au (bf (i := 3) qI.nd rfl (Or.inl rfl) (cO sA hr T.ip T.fO.kp T.iS (ae (pv 1) aj)))
      (au (bf (i := 4) qI.nd rfl (Or.inl rfl) (EZ rfl T.list rfl T.zip (ae (cO yC hr T.mI T.lX.kp T.oT (ae (pv 0) (ae (pv 2) aj))) (ae (cO yC hr T.mI T.lX.kp T.oT (ae (pv 1) (ae (pv 3) aj))) aj))))
      (ay (aZ (cO KQ hr T.qg T.qB.kp T.tI (ae (bY (KE rfl) (by rfl) T.sum PyProof.Rows.boot_sum (ae (cE ["mine", "yours"] [] [] (cM (pv 4)) (fun _ => (qO K 2 (cu (aM (i := 0) (show List.Nodup (α := PySem.Str) ["mine", "yours"] by decide +kernel)) (cu (aM (i := 1) (show List.Nodup (α := PySem.Str) ["mine", "yours"] by decide +kernel)) ik)))) (fun _ => cJ) (fun _ => (bC cN (pv 0) (pv 1)))) aj)) (ae (bC cN (pv 2) (pv 3)) aj)))))))), ?_⟩
    refine aO (σ := [some (.ref p), some (.ref q), none, none, none]) rfl ?_;obtain ⟨M, h1⟩ := h1.rowM (by lia);obtain ⟨N, h2⟩ := h2.rowM (by lia);replace hp := hp.rowK;replace hq := hq.rowK;replace hl : (ys.map nm).length = (xs.map nm).length := by simpa using hl
    replace hz : (xs.map nm).length ≤ 1000 := by simpa using hz
    obtain ⟨b1, s1⟩ := h1.bot;obtain ⟨b2, s2⟩ := h2.bot;have k2 : ∀ r H', aE H H' → H' r = some (.tup [.int (lo (Kw (xs.map nm) (ys.map nm)) (gY (xs.map nm) * gY (ys.map nm))), .int (hi (Kw (xs.map nm) (ys.map nm)) (gY (xs.map nm) * gY (ys.map nm)))]) → Q (.ref r) H' := fun r H' s g => kk r H' s (cw.mk g (Mj b1 b2))
    clear kk;generalize xs.map nm = ns at hp hq hl hz h1 h2 b1 b2 s1 s2 k2;generalize ys.map nm = ms at hp hq hl hz h1 h2 b1 b2 s1 s2 k2;have hb : 0 < gY ns * gY ms := iN b1 b2;walk_at "w";refine ⟨p, ns, M, rfl, hp, hz, h1, fun H1 t1 => ?_⟩;walk_at "w";refine ⟨q, ms, N, rfl, hq.same t1, by lia, h2, fun H2 t2 => ?_⟩;have u2 := t1.trans t2;walk_at "w";refine ⟨p, ns, M, _, rfl, hp.same u2, hz, h1, b1, s1, fun r1 H3 n3 t3 g3 => ?_⟩;walk_at "w";refine ⟨q, ms, N, _, rfl, (hq.same u2).same t3, by lia, h2, b2, s2, fun r2 H4 n4 t4 g4 => ?_⟩;walk_at "w";refine ⟨r1, r2, _, _, rfl, bM.of (t4 _ _ g3), bM.of g4, by simp [fb, hl], fun L ts H5 t5 n5 g5 pr => ?_⟩;have lt := pr.length;have ll : (fb ns (gY ns)).length = ns.length := by simp [fb]
    have lm : (fb ms (gY ms)).length = ns.length := by simp [fb, hl]
    rw [AG, ag, ag, ll, lm] at lt;walk_at "w";refine ⟨⟨_, bM.of g5⟩, ?_⟩;refine ft (K := K) (xs := ts) (fun i ys H' => H' = H5 /\ ys = ((List.zipWith (· * ·) (fb ns (gY ns)) (fb ms (gY ms))).take i).map V.int) (aR (bE (by lia))) ⟨rfl, rfl⟩ (fun i ys H' _ ⟨e, _⟩ => by subst e; exact bM.of g5) ?_ ?_
    · rintro i x ys H' hx hlen ⟨rfl, rfl⟩;obtain ⟨pq, epq, T, rfl, gT⟩ := cm pr hx;obtain ⟨t, u, et, eu, rfl⟩ := K6 epq;walk_at "w";refine fe (show fA _ _ from .inr ⟨_, _, Dj h1 b1 s1 (aw et), Dj h2 b2 s2 (aw eu), by decide⟩) ?_;have ez : (List.zipWith (· * ·) (fb ns (gY ns)) (fb ms (gY ms)))[i]? = some (t * u) := by rw [cB, et, eu]
      exact ⟨rfl, by rw [take_snoc ez]; simp⟩
    · rintro ys H' hy ⟨rfl, rfl⟩ l hl';walk_at "w";refine ⟨l, List.zipWith (· * ·) (fb ns (gY ns)) (fb ms (gY ms)), rfl, bM.of (by rw [aF, aH (by rw [bN]; lia)]), ?_⟩;walk_at "w";refine fe (show fA _ _ from .inr ⟨_, _, s1, s2, by decide⟩) ?_;walk_at "w";refine ⟨_, _, rfl, by lia, (s1.mul s2).mono (by decide), fun r H6 t6 g6 => ?_⟩;rw [if_neg (by lia), if_neg (by lia)] at g6;exact k2 r H6 ((((u2.trans t3).trans t4).trans t5).trans ((aE.new hl').trans t6)) g6
theorem EO:aW ["grid","row"] ["grid","row"] (av nE):=by walk_at "d"
theorem E5 (T:Txt K mg Z):cI P w K mg base gF 5 Z.uK Z.uy ["grid","row"] (Lj K):=by
 refine T.yg.ok EO (fun vs H Q E h=>?_) (fun cdv A outer s H vs Q E hr h=>?_)
 ·obtain ⟨p,q,H0,rows,ys,rfl,hp,hq,hz,hl,hr1,kk⟩:=h;rfl
 ·obtain ⟨p,q,H0,rows,ys,rfl,hp,hq,hz,hl,hr1,kk⟩:=h;refine ⟨_,(ay (aZ (cE ["line"] ["row"] [1] (cM (pv 0)) (fun _=>(aM (i:=0) (show List.Nodup (α:=PySem.Str) ["line","row"] by decide +kernel))) (fun _=>cJ) (fun _=>(cO (zX T) hr T.vM T.uO.kp T.xY (ae (pv 0) (ae (pv 1) aj))))))),?_⟩;refine aO (σ:=[some (.ref p),some (.ref q)]) rfl ?_;obtain ⟨xs,gx,qx,_⟩:=id hp;walk_at "w";refine ⟨⟨_,bM.of gx⟩,?_⟩;refine eN (K:=K) (F:=cS K H0) (cw K) (fun xs=>d5 xs ys) gx qx hz (fun a b=>a.same b) (fun a b=>a.same b) ?_ ?_
  ·rintro i ns x H' NY NN en s ⟨u,rfl,_,hu⟩ k;obtain ⟨e1,e2⟩:=hr1 ns (aw en);walk_at "w";exact ⟨u,q,ns,ys,rfl,hu,hq.same s,e1.symm,by lia,e2,fun r H2 s2 h2'=>k _ _ s2 h2'⟩
  ·rintro ys' H' r hr s g pr nx;exact kk r H' hr s ⟨ys',g,pr⟩
theorem AM:aW ["system","rows"] ["system","rows"] (av h9):=by walk_at "d"
theorem u0 (T:Txt K mg Z):cI P w K mg base gF 6 Z.mV Z.mM ["system","rows"] (HC K Z.a_System):=by
 refine T.m6.ok AM (fun vs H Q E h=>?_) (fun cdv A outer s H vs Q E hr h=>?_)
 ·obtain ⟨x,p,H0,H1,mv,pt,lk,R,rfl,S,D,G,l100,wR,hf,k⟩:=h;rfl
 ·obtain ⟨x,p,H0,H1,mv,pt,lk,R,rfl,S,D,G,l100,wR,hf,k⟩:=h;refine ⟨_,(ay (aZ (cE ["row"] ["system"] [0] (cM (pv 1)) (fun _=>(aM (i:=0) (show List.Nodup (α:=PySem.Str) ["row","system"] by decide +kernel))) (fun _=>cJ) (fun _=>(cO (E5 T) hr T.Ad T.yg.kp T.BR (ae (FQ K (pv 1) rfl) (ae (pv 0) aj))))))),?_⟩;refine aO (σ:=[some (.ref x),some (.ref p)]) rfl ?_;obtain ⟨dx,a',b',c',gx,_,_,_,Ga,Gb,Gc⟩:=id S;have d8:=D.n8;obtain ⟨xs,gxs,qx,_⟩:=id G;walk_at "w";refine ⟨⟨_,bM.of gxs⟩,?_⟩;refine eN (K:=K) (F:=cS K H1) (cS K H) (qD mv) gxs qx (by lia) (fun a b=>a.same b) (fun a b=>a.same b) ?_ ?_
  ·rintro i ns v H' NY NN en s ⟨u,rfl,_,hu⟩ k1;have mn:=aw en;walk_at "w";refine ⟨x,Z.a_System,dx,_,_,rfl,s _ _ gx,T.cl_System,T.na_move,zz,?_⟩;walk_at "w";exact ⟨a',u,H0,mv,ns,rfl,Ga.same s,hu,by lia,by rw[wR ns mn];lia,fun xs hx=>⟨by rw[D.mw xs hx,wR ns mn],hf xs hx ns mn⟩,fun r H2 nr s2 R2=>k1 _ _ s2 ⟨r,rfl,s.none nr,R2⟩⟩
  ·rintro ys H' r hr s g pr nx;exact k r H' hr s ⟨ys,g,pr,mo nx⟩
theorem nQ:aW ["system","steps","lists","rows"] ["system","steps"] (av fR):=by walk_at "d"
theorem sW (T:Txt K mg Z):cI P w K mg base gF 7 Z.kT Z.kD ["system","steps"] (HI K Z.a_System):=by
 refine T.lC.ok nQ (fun vs H Q E h=>?_) (fun cdv A outer s H vs Q E hr h=>?_)
 ·obtain ⟨x,a,c,st,H0,mv,pt,lk,rfl,s1000,S,D,F,k⟩:=h;rfl
 ·obtain ⟨x,a,c,st,H0,mv,pt,lk,rfl,s1000,S,D,F,k⟩:=h
  refine ⟨_,(au (bf (i:=2) nQ.nd rfl (Or.inl rfl) (eI (ae (eI aj) aj)))
   (au (zM PassesOwn.never (bw Pq (bY bL (by rfl) T.len bG (ae (pv 2) aj)) (pv 1) (bK _))
    (au (bf (i:=3) nQ.nd rfl (Or.inl rfl) (cO (vJ T) hr T.qS T.qA.kp T.uC (ae (bC pJ (eV (pv 0) rfl) (cO (u0 T) hr T.pL T.m6.kp T.rC (ae (pv 0) (ae (aV bI (pv 2) (wq qG ao)) aj)))) (ae (eV (pv 0) rfl) aj))))
   (au (dm (bw fw (bY bL (by rfl) T.len bG (ae (pv 3) aj)) (bY bL (by rfl) T.len bG (ae (aV bI (pv 2) (wq qG ao)) aj)) (bK _)) (ay (aZ (pv 2))) b9)
   (ay (jF (yj cW gQ gP qf (pv 2) (ae (pv 3) aj)))))))
   (ay (aZ (pv 2))))),?_⟩
  refine aO (σ:=[some (.ref x),some (.int st),none,none]) rfl ?_;obtain ⟨dx,a',b',c',gx,_,_,_,Ga,Gb,Gc⟩:=id S;have d8:=D.n8;have i4:=D.i4;have lP:=eG (mv:=mv) (pt:=pt) rfl D.pw;walk_at "w";refine dk fun q0 H1 s1 nq0 g1=>?_
  walk_at "w";refine dk fun l H2 s2 nl g2=>?_
  have s02:=s1.trans s2;have nl0:H l=none:=s1.none nl;obtain ⟨Hz,eHz⟩:∃Hz,Hz=upd H l (.lst []):=⟨_,rfl⟩;have zl:Hz l≠none:=by rw[eHz,aF];exact fun z=>nomatch z
  have zn:∀q,Hz q=none->H q=none/\q≠l:=fun q h=>by
   have ne:q≠l:=fun z=>zl (by rw[<- z];exact h)
   rw[eHz,br ne] at h;exact ⟨h,ne⟩
  have nz:∀q,H q=none->q≠l->Hz q=none:=fun q h ne=>by rw[eHz,br ne];exact h
  clear eHz;have q0l:q0≠l:=fun z=>by rw[z,nl] at g1;cases g1
  have G0:bB K Hz H2 q0 []:=⟨[],s2 _ _ g1,.nil,fun z=>nomatch z⟩;walk_at "w";refine Ca (fun σ' H'=>aE H H'/\∃Rs R us y,σ'=[some (.ref x),some (.int st),some (.ref l),y]/\H' l=some (.lst us)/\Paired (fun R v=>∃q,v=V.ref q/\Hz q=none/\bB K Hz H' q R) (Rs++[R]) us/\Ay mv pt (Rs++[R])/\Rs.length<=st) (fun _ H'=>match H' l with | some (.lst us)=>st+1 - us.length | _=>0) ⟨s02,[],[],_,_,rfl,g2,.cons ⟨q0,rfl,nz q0 nq0 q0l,G0⟩ .nil,⟨by simp,fun t R e=>?_,fun t R R' e e'=>?_⟩,aX _⟩ ?_
  ·have ht:=(aA.mp e).1;have:t=0:=by simpa using ht
   subst this;cases e;exact ⟨[],ET⟩
  ·have ht:=(aA.mp e').1;simp at ht
  rintro σ' Ha ⟨sa,Rs,R,us,y,rfl,gu,pa,Gw,hst⟩;have lu:=pa.length;rw[ai,aU] at lu;have eR:(Rs++[R])[Rs.length]?=some R:=by rw[bc (ar _),fg];rfl
  obtain ⟨ps,RR⟩:=Gw.rr _ _ eR;have tn:Rs.length<=mv.length:=by have:=Gw.len _ _ eR;have:=RR.le;have:=RR.1;lia
  have fin:∀(Hx:Hp) (sx:aE Ha Hx) (hh:∀s,(Rs.length=st/\s=st\/Rs.length < st/\Rs.length<=s)->∃ps,bo (dq mv pt s) mv.length R ps),Q (.ref l) Hx:=fun Hx sx hh=>by
   refine k l (Rs++[R]) Hx nl0 (sa.trans sx) ⟨us,sx _ _ gu,Paired.imp' (fun _ _ ⟨q,e1,e2,e3⟩=>⟨q,e1,(zn q e2).1,(zn q e2).2,bB.weakN (bB.same e3 sx) fun q h=>(zn q h).1⟩) pa⟩ Gw (by rw[ai,aU];lia) fun R2 e2 s hs=>?_
   rw[List.getLast?_concat] at e2;cases e2;rw[ai,aU,Nat.add_sub_cancel] at hs;exact hh s hs
  walk_at "w";refine ⟨_,_,rfl,.inl (bM.of gu),?_⟩;walk_at "w";refine jx (fun h0=>?_) (fun h0=>?_)
  ·have h0:=of_decide_eq_true h0;refine MG ?_
   obtain ⟨zs,gS⟩:∃zs q,us=zs++[V.ref q]/\Hz q=none/\bB K Hz Ha q R:=by
    obtain ⟨v,ev,q,rfl,e2,e3⟩:∃v,us[Rs.length]?=some v/\∃q,v=V.ref q/\Hz q=none/\bB K Hz Ha q R:=by
     have ev:=af (show Rs.length < us.length by lia);obtain ⟨R2,e2,w⟩:=cm pa ev;rw[eR] at e2;cases e2;exact ⟨_,ev,w⟩
    refine ⟨us.take Rs.length,q,?_,e2,e3⟩;rw[<- take_snoc ev,aH (by lia)]
   obtain ⟨q,rfl,zq,Gq⟩:=gS;have gxa:=sa _ _ gx;walk_at "w";refine ⟨x,Z.a_System,dx,_,_,rfl,gxa,T.cl_System,T.na_put,yO,?_⟩;walk_at "w";refine b5 (bM.of gu) (tO _ _) ?_;have wR:=RR.2.1;have lR:=RR.1;have pn:=RR.le;walk_at "w";refine ⟨x,q,H0,Hz,mv,pt,lk,R,rfl,S.same sa,D,Gq,by lia,wR,F.fit d8 D.mw D.pw tn RR,fun mr Hb nmr sb Gm=>?_⟩;obtain ⟨pv,gpv,qpv,_⟩:=Gb.same (sa.trans sb);obtain ⟨mvs,gmv,qmv,_⟩:=id Gm;have lpv:=qpv.length;have lmv:=qmv.length;rw[ag] at lmv;walk_at "w";refine pG gpv gmv (aR (bE (by lia))) fun cr Hc sc nc gc=>?_
   have sab:=sa.trans (sb.trans sc);have Gc':bB K (fun _=>none) Hc cr (pt++R.map (qD mv)):=xV (H:=Hb) (bZ (Paired.imp' (fun _ _ ⟨q,e1,e2,e3⟩=>⟨q,e1,rfl,e3⟩) qpv) (Paired.imp' (fun _ _ ⟨q,e1,e2,e3⟩=>⟨q,e1,rfl,e3⟩) qmv)) sc nc gc;walk_at "w";refine ⟨x,Z.a_System,dx,_,_,rfl,sab _ _ gx,T.cl_System,T.na_states,iZ,?_⟩;walk_at "w";refine ⟨cr,mv.length,_,_,_,rfl,Gc',by rw[ai,ag];lia,by lia,fun xs hx=>?_,F.step d8 D.mw D.pw tn RR,fun rr R' ps' M' Hd nrr sd G' RR' pm' _ _ _=>?_⟩
   ·rcases ax.mp hx with hx | hx
    ·exact D.pw xs hx
    ·obtain ⟨y,_,rfl⟩:=aB.mp hx;exact vI
   have sbd:=sb.trans (sc.trans sd);have sad:=sa.trans sbd;have K1:=wO rfl D.mw D.pw RR RR';have gud:=sbd _ _ gu;obtain ⟨rv,grv,qrv,_⟩:=id G';have lrv:=qrv.length;have lR':=RR'.1;have pn':=RR'.le;walk_at "w";refine ⟨_,_,rfl,.inl (bM.of grv),?_⟩;walk_at "w";refine b5 (bM.of gud) (tO _ _) ?_;obtain ⟨ov,gov,qov,_⟩:=Gq.same sbd;have lov:=qov.length;walk_at "w";refine ⟨_,_,rfl,.inl (bM.of gov),?_⟩;walk_at "w";refine jx (fun h1=>?_) (fun h1=>?_)
   ·have h1:=of_decide_eq_true h1;walk_at "w";refine fin Hd sbd fun s hs=>⟨ps,?_⟩
    obtain ⟨s',rfl⟩:∃s',s=Rs.length+s':=⟨s - Rs.length,by lia⟩;exact By rfl D.mw D.pw RR RR' (by lia) s'
   ·have h1:¬((rv.length:Int)=ov.length):=fun z=>h1 (decide_eq_true z)
    have gr:=D6 rfl D.mw D.pw RR K1;have rl:rr≠l:=fun z=>by rw[z,(sb.trans sc) _ _ gu] at nrr;cases nrr
    have zc:∀q,Hc q=none->Hz q=none:=fun q h=>nz q (sab.none h) (fun z=>by rw[z,(sb.trans sc) _ _ gu] at h;cases h)
    walk_at "w";refine ⟨.inl ⟨rfl,_,bM.of gud⟩,?_⟩;walk_at "w";refine p8 gud (bE (by lia)) ?_;refine ⟨⟨sad.after nl0,Rs++[R],R',_,_,rfl,aF,bZ (Paired.imp' (fun _ _ ⟨q,e1,e2,e3⟩=>⟨q,e1,e2,bB.updL (bB.same e3 sbd) gud zl (zn q e2).2⟩) pa) (.cons ⟨rr,rfl,zc rr nrr,bB.updL (G'.weakN zc) gud zl rl⟩ .nil),Gw.snoc K1 (by lia),by rw[ai,aU];lia⟩,?_⟩;simp only[gu,aF,ai,aU] at lu h0 ⊢
    lia
  ·have h0:¬((us.length:Int)<=st):=fun z=>h0 (decide_eq_true z)
   walk_at "w"
   exact fin Ha (aE.refl _) fun s hs=>⟨ps,by
    have:s=Rs.length:=by lia
    rw[this];exact RR⟩
theorem AJ:aW ["system","steps"] ["system","steps"] (av hZ):=by walk_at "d"
theorem AQ (T:Txt K mg Z):cI P w K mg base gF 8 Z.mT Z.mK ["system","steps"] (Hv K Z.a_System):=by
 refine T.rP.ok AJ (fun vs H Q E h=>?_) (fun cdv A outer s H vs Q E hr h=>?_)
 ·obtain ⟨x,a,c,st,H0,mv,pt,lk,rfl,s1000,S,D,F,k⟩:=h;rfl
 ·obtain ⟨x,a,c,st,H0,mv,pt,lk,rfl,s1000,S,D,F,k⟩:=h;refine ⟨_,(ay (aZ (aV bI (cO (sW T) hr T.nZ T.lC.kp T.pN (ae (pv 0) (ae (pv 1) aj))) (wq qG ao)))),?_⟩;refine aO (σ:=[some (.ref x),some (.int st)]) rfl ?_;walk_at "w";refine ⟨x,a,c,st,H0,mv,pt,lk,rfl,s1000,S,D,F,fun r Rs H1 nr s1 ⟨us,gu,pa⟩ Gw hl hh=>?_⟩;have lu:=pa.length;obtain ⟨Rs',R,rfl⟩:∃Rs' R,Rs=Rs'++[R]:=⟨Rs.dropLast,Rs.getLast Gw.ne,(List.dropLast_concat_getLast Gw.ne).symm⟩;rw[ai,aU] at lu hl;have eR:(Rs'++[R])[Rs'.length]?=some R:=by rw[bc (ar _),fg];rfl
  obtain ⟨zs,q,rfl,zq,ql,Gq⟩:∃zs q,us=zs++[V.ref q]/\H q=none/\q≠r/\bB K H H1 q R:=by
   have ev:=af (show Rs'.length < us.length by lia);obtain ⟨R2,e2,q,e3,e4,e5,e6⟩:=cm pa ev;rw[eR] at e2;cases e2;rw[e3] at ev;refine ⟨us.take Rs'.length,q,?_,e4,e5,e6⟩;rw[<- take_snoc ev,aH (by lia)]
  obtain ⟨ps,RR⟩:=hh R (by rw[List.getLast?_concat]) st (by rw[ai,aU,Nat.add_sub_cancel];lia);walk_at "w";refine b5 (bM.of gu) (tO _ _) ?_;exact k q R ps H1 zq s1 Gq RR
theorem zG:aW ["grid","wide"] ["grid","wide"] (av fV):=by walk_at "d"
theorem jI (T:Txt K mg Z):cI P w K mg base gF 1 Z.kW Z.kF ["grid","wide"] (Jh K):=by
 refine T.gE.ok zG (fun vs H Q E h=>?_) (fun cdv A outer s H vs Q E hr h=>?_)
 ·obtain ⟨p,w,H0,rows,rfl,hp,hz,hw,hl,kk⟩:=h;rfl
 ·obtain ⟨p,w,H0,rows,rfl,hp,hz,hw,hl,kk⟩:=h;refine ⟨_,(ay (aZ (cE ["place"] ["grid"] [0] (cv rfl T.range (ae (pv 1) aj)) (fun _=>(aM (i:=0) (show List.Nodup (α:=PySem.Str) ["place","grid"] by decide +kernel) rfl (Or.inr rfl) (Or.inl rfl))) (fun _=>cJ) (fun _=>(cE ["line"] ["place"] [0] (DK K (pv 1)) (fun _=>(aM (i:=0) (show List.Nodup (α:=PySem.Str) ["line","place"] by decide +kernel))) (fun _=>cJ) (fun _=>(aV (fM K (by rfl)) (pv 0) (pv 1)))))))),?_⟩;refine aO (σ:=[some (.ref p),some (.int w)]) rfl ?_;walk_at "w";refine ⟨by lia,by lia,?_⟩;refine gC (n:=w) (cS K H) (fun j=>rows.map fun xs=>xs.getD j 0) hw (fun a b=>a.same b) ?_ ?_
  ·rintro j H1 NY NN hj s1 k1;obtain ⟨xs,gx,qx,_⟩:=hp.same s1;walk_at "w";refine ⟨⟨_,bM.of gx⟩,?_⟩;refine eN (K:=K) (F:=cS K H0) (cw K) (fun xs=>xs.getD j 0) gx qx hz (fun a b=>a.same b) (fun a b=>a.same b) ?_ ?_
   ·rintro i ns x H2 NY2 NN2 en s2 ⟨u,rfl,_,zs,gz,qz⟩ k2;obtain ⟨v,ev,hv⟩:=D7 qz (j:=j) (by rw[hl ns (aw en)];exact hj);walk_at "w";refine b5 (bM.of gz) ev ?_;exact k2 _ _ (aE.refl _) hv
   ·rintro ys' H2 r hr s2 g pr nx;exact k1 _ _ s2 ⟨r,rfl,s1.none hr,ys',g,pr⟩
  ·rintro ys' H1 r hr s1 g pr nx;exact kk r H1 hr s1 ⟨ys',g,pr,mo nx⟩
theorem xI:aW ["self"] ["self"] (av eM):=by walk_at "d"
theorem qe (T:Txt K mg Z):cI P w K mg base gF 7 Z.iV Z.iQ ["self"] (ED K Z.a_System):=by
 refine T.sC.ok xI (fun vs H Q E h=>?_) (fun cdv A outer s H vs Q E hr h=>?_)
 ·obtain ⟨x,H0,mv,pt,lk,rfl,S,D,F,k⟩:=h;rfl
 ·obtain ⟨x,H0,mv,pt,lk,rfl,S,D,F,k⟩:=h;refine ⟨_,(ay (aZ (FP T.mk_System (nY T) (hr.mono (by decide)) rfl T.mg_System T.jQ .nil Bn (ae (cO (jI T) hr T.gX T.gE.kp T.iI (ae (eV (pv 0) rfl) (ae (eV (pv 0) rfl) aj))) (ae (eV (pv 0) rfl) (ae (eV (pv 0) rfl) aj)))))),?_⟩;refine aO (σ:=[some (.ref x)]) rfl ?_;obtain ⟨dx,a,b,c,gx,n1,n2,n3,Ga,Gb,Gc⟩:=id S;have d1:=D.n8;walk_at "w";refine ⟨x,Z.a_System,dx,_,_,rfl,gx,T.cl_System,T.na_move,zz,?_⟩;walk_at "w";refine ⟨x,Z.a_System,dx,_,_,rfl,gx,T.cl_System,T.na_states,iZ,?_⟩;walk_at "w";refine ⟨a,mv.length,H0,mv,rfl,Ga,by lia,by lia,D.mw,fun t H1 nt s1 Gt=>?_⟩;have gx1:=s1 _ _ gx;walk_at "w";refine ⟨x,Z.a_System,dx,_,_,rfl,gx1,T.cl_System,T.na_look,Jd,?_⟩;walk_at "w";refine ⟨x,Z.a_System,dx,_,_,rfl,gx1,T.cl_System,T.na_put,yO,?_⟩;walk_at "w";intro x' dx' nx ndx nex;have F':=F.turn;exact ⟨x',dx',t,c,b,H1,H,H0,H0,_,_,_,rfl,nx,ndx,nex,rfl,Gt,Gc.same s1,Gb.same s1,D.turn,F'.ok.1,F'.ok.2.1,F'.ok.2.2,fun H' s' S'=>⟨rfl,k x' H' (s1.none nx) (s1.trans s') (S'.weak s1)⟩⟩
theorem Dv:aW ["many","at"] ["many","at"] (av jZ):=by walk_at "d"
theorem DO (T:Txt K mg Z):cI P w K mg base gF 1 Z.rE Z.qW ["many","at"] (Jg K):=by
 refine T.vX.ok Dv (fun vs H Q E h=>?_) (fun cdv A outer s H vs Q E hr h=>?_)
 ·obtain ⟨m,a',rfl,hm,k⟩:=h;rfl
 ·obtain ⟨m,a',rfl,hm,k⟩:=h;refine ⟨_,(ay (aZ (cE ["place"] ["at"] [1] (cv rfl T.range (ae (pv 0) aj)) (fun _=>(aM (i:=0) (show List.Nodup (α:=PySem.Str) ["place","at"] by decide +kernel))) (fun _=>cJ) (fun _=>(DM (bw fw (pv 0) (pv 1) (bK _)) (mE (v:=.ref Z.a_ONE) rfl T.mg_ONE rfl) (mE (v:=.ref Z.a_NOUGHT) rfl T.mg_NOUGHT rfl)))))),?_⟩;refine aO (σ:=[some (.int m),some (.int a')]) rfl ?_;walk_at "w";refine ⟨by lia,by lia,?_⟩;refine gC (n:=m) (cw K) (fun i=>if ((i:Nat):Int)=a' then 1 else 0) hm (fun a b=>a.same b) ?_ ?_
  ·rintro i H' NY NN hi s k1;walk_at "w";refine jx (fun h0=>?_) (fun h0=>?_)
   ·walk_at "w";exact k1 _ _ (aE.refl _) (by rw[if_pos (of_decide_eq_true h0)];exact ⟨_,rfl,T.sq_ONE _⟩)
   ·walk_at "w";exact k1 _ _ (aE.refl _) (by rw[if_neg (fun z=>h0 (decide_eq_true z))];exact ⟨_,rfl,T.sq_NOUGHT _⟩)
  ·rintro ys H' l hl s g pr nx;exact k l _ hl s ⟨ys,g,pr⟩
theorem xF:aW ["row"] ["row"] (av eJ):=by walk_at "d"
theorem xO (T:Txt K mg Z):cI P w K mg base gF 1 Z.iT Z.iO ["row"] (Jo K):=by
 refine T.mi.ok xF (fun vs H Q E h=>?_) (fun cdv A outer s H vs Q E hr h=>?_)
 ·obtain ⟨p,xs,j,rfl,R,x1000,hj,hne,hz,k⟩:=h;rfl
 ·obtain ⟨p,xs,j,rfl,R,x1000,hj,hne,hz,k⟩:=h;refine ⟨_,(ay (aZ (bY (IE rfl) (by rfl) T.min PyProof.Rows.boot_min (ae (cE ["place","value"] [] [] (FO rfl T.enumerate (ae (pv 0) aj)) (fun _=>(qO K 2 (cu (aM (i:=0) (show List.Nodup (α:=PySem.Str) ["place","value"] by decide +kernel)) (cu (aM (i:=1) (show List.Nodup (α:=PySem.Str) ["place","value"] by decide +kernel)) ik)))) (fun _=>EY (bw (FU K (by rfl) (Ea hr)) (pv 1) (mE (v:=.ref Z.a_NOUGHT) rfl T.mg_NOUGHT rfl) (bK _))) (fun _=>(pv 0))) aj)))),?_⟩;refine aO (σ:=[some (.ref p)]) rfl ?_;obtain ⟨zs,gz,qz⟩:=id R;have lz:=qz.length;walk_at "w";refine ⟨⟨_,bM.of gz⟩,?_⟩;refine IC (K:=K) (xs:=zs) (fun i ys H'=>aE H H'/\ys=dH (z7 xs i)) (aR (bE (by lia))) ⟨aE.refl _,rfl⟩ (fun i ys H' _ ⟨s,_⟩=>bM.of (s _ _ gz)) ?_ ?_
  ·rintro i v ys H' r hx hlen ⟨s',rfl⟩ hr;obtain ⟨y,ey,ny⟩:=cm qz hx;have ey':xs.getD i 0=y:=by rw[aa,ey];rfl
   have sr:aE H' (upd H' r (.tup [.int i,v])):=aE.new hr;have gr:(upd H' r (.tup [.int i,v])) r=some (.tup [.int i,v]):=aF;generalize upd H' r (.tup [.int i,v])=H2 at sr gr ⊢;walk_at "w";refine ⟨_,_,Kc,y,0,by decide,(ny.same s').same sr,⟨_,rfl,T.sq_NOUGHT _⟩,?_⟩;by_cases e:y=0
   ·rw[decide_eq_true e];walk_at "w";refine ⟨s'.trans sr,?_⟩;rw[yT,ey',if_neg (by simpa using e)]
   ·rw[decide_eq_false e];walk_at "w";refine ⟨s'.trans sr,?_⟩;rw[yT,ey',if_pos e];unfold dH;rw[dg];rfl
  ·rintro ys H1 hy ⟨s1,rfl⟩ l hl;have sn:aE H1 (upd H1 l (.lst (dH (z7 xs zs.length)))):=aE.new hl;have gn:(upd H1 l (.lst (dH (z7 xs zs.length)))) l=some (.lst (dH (z7 xs zs.length))):=aF;generalize upd H1 l (.lst (dH (z7 xs zs.length)))=H2 at sn gn ⊢
   have mj:j∈z7 xs zs.length:=by
    unfold z7;exact m8.mpr ⟨vA.mpr (by lia),by simpa using hne⟩
   walk_at "w";refine ⟨l,Gj (z7 xs zs.length),rfl,bM.of (by rw[<- Ik];exact gn),?_,fun M hM hle=>?_⟩
   ·unfold Gj;rw[ag];exact List.length_pos_of_mem mj
   ·obtain ⟨c,hc,rfl⟩:=aB.mp hM;have h1:=hle j (aB.mpr ⟨j,mj,rfl⟩);have h2:=(m8.mp hc).2
    have e:c=j:=by
     rcases dn c j with z | z | z
     ·exact absurd (hz c z) (of_decide_eq_true h2)
     ·exact z
     ·lia
    rw[e];exact k _ (s1.trans sn)
theorem EM:aW ["rows"] ["rows"] (av nC):=by walk_at "d"
theorem zY (T:Txt K mg Z):cI P w K mg base gF 2 Z.uI Z.uw ["rows"] (Jp K):=by
 refine T.uP.ok EM (fun vs H Q E h=>?_) (fun cdv A outer s H vs Q E hr h=>?_)
 ·obtain ⟨p,n,H0,R,ps,rfl,G,r100,n100,⟨rows,RR⟩,k⟩:=h;rfl
 ·obtain ⟨p,n,H0,R,ps,rfl,G,r100,n100,⟨rows,RR⟩,k⟩:=h;refine ⟨_,(ay (aZ (cE ["row"] [] [] (cM (pv 0)) (fun _=>(aM (i:=0) (show List.Nodup (α:=PySem.Str) ["row"] by decide +kernel))) (fun _=>cJ) (fun _=>(cO (xO T) hr T.qh T.mi.kp T.sv (ae (pv 0) aj)))))),?_⟩;refine aO (σ:=[some (.ref p)]) rfl ?_;obtain ⟨lR,wR,rr⟩:=id RR;obtain ⟨xs,gx,qx,_⟩:=id G;have lx:=qx.length;walk_at "w";refine ⟨⟨_,bM.of gx⟩,?_⟩;refine ft (K:=K) (xs:=xs) (fun i ys H'=>aE H H'/\ys=dH (ps.take i)) (aR (bE (by lia))) ⟨aE.refl _,rfl⟩ (fun i ys H' _ ⟨s,_⟩=>bM.of (s _ _ gx)) ?_ ?_
  ·rintro i v ys H' hx hlen ⟨s',rfl⟩;obtain ⟨row,er,q,rfl,_,Rr⟩:=cm qx hx;have wr:=wR row (aw er);have hi:i < ps.length:=by have:=(aA.mp er).1;lia
   have ef:∀c,bD R i c=row.getD c 0:=fun c=>by unfold bD;rw[aa (l:=R),er];rfl
   have ep:ps[i]?=some (ps.getD i 0):=by rw[aa,af hi];rfl
   have lowp:=rr.low i hi;have u:=rr.unit i hi i hi;rw[if_pos rfl,ef] at u;walk_at "w";refine ⟨q,row,ps.getD i 0,rfl,Rr.same s',by lia,by lia,by rw[u];decide,fun c hc=>by rw[<- ef];exact rr.lead i hi c hc,fun H2 s2=>?_⟩;refine ⟨s'.trans s2,?_⟩;unfold dH;rw[take_snoc ep,dg];rfl
  ·rintro ys H1 hy ⟨s1,rfl⟩ r hr;refine k r _ (s1.none hr) (s1.trans (aE.new hr)) ?_;rw[aF,aH (by lia)]
theorem Jx:aW ["one","other"] ["one","other"] (av uf):=by walk_at "d"
theorem DQ (T:Txt K mg Z):cI P w K mg base gF 3 Z.zb Z.y7 ["one","other"] (sP K (fun x y=>x - y)):=by
 refine T.zg.ok Jx (fun vs H Q E h=>?_) (fun cdv A outer s H vs Q E hr h=>?_)
 ·obtain ⟨p,q,a,b,c,d,rfl,hp,hq,hb,hd,sa,sb,sc,sd,k⟩:=yP h;rfl
 ·obtain ⟨p,q,a,b,c,d,rfl,hp,hq,hb,hd,sa,sb,sc,sd,k⟩:=yP h;refine ⟨_,(ay (aZ (cO (uh T) hr T.qg T.qB.kp T.tI (ae (bC ke (bC cN (aV b4 (pv 0) ao) (aV b4 (pv 1) ao)) (bC cN (aV b4 (pv 1) ao) (aV b4 (pv 0) ao))) (ae (bC cN (aV b4 (pv 0) ao) (aV b4 (pv 1) ao)) aj))))),?_⟩;refine aO (σ:=[some (.ref p),some (.ref q)]) rfl ?_;have hbd:0 < b*d:=iN hb hd;have sbd:Sz 8999 (b*d):=(sb.mul sd).mono (by decide);walk_at "w";refine fe (show fA _ _ from .inr ⟨_,_,sa,sd,by decide⟩) ?_;walk_at "w";refine fe (show fA _ _ from .inr ⟨_,_,sc,sb,by decide⟩) ?_;walk_at "w";refine fe (show fA _ _ from .inr ⟨_,_,sb,sd,by decide⟩) ?_;walk_at "w";walk_at "w";refine ⟨_,_,rfl,by lia,sbd,fun r H' s' h'=>?_⟩;rw[if_neg (by lia),if_neg (by lia)] at h';exact k r H' s' h'
theorem qJ:aW ["rows","wide","at","answer","lead","row"] ["rows","wide","at"] (av nB):=by walk_at "d"
theorem E3 (T:Txt K mg Z):cI P w K mg base gF 4 Z.uH Z.uv ["rows","wide","at"] (HB K):=by
 refine T.yd.ok qJ (fun vs H Q E h=>?_) (fun cdv A outer s H vs Q E hr h=>?_)
 ·obtain ⟨p,n,a,H0,R,ps,rfl,G,r100,n100,⟨rows,RR⟩,ha,hp,hz,k⟩:=h;rfl
 ·obtain ⟨p,n,a,H0,R,ps,rfl,G,r100,n100,⟨rows,RR⟩,ha,hp,hz,k⟩:=h
  refine ⟨_,(au (bf (i:=3) qJ.nd rfl (Or.inl rfl) (cO (DO T) hr T.yp T.vX.kp T.As (ae (pv 1) (ae (pv 2) aj))))
   (au (eF PassesOwn.never rfl (qN rfl T.zip (ae (cO (zY T) hr T.vO T.uP.kp T.xZ (ae (pv 0) aj)) (ae (pv 0) aj))) (vH rfl (cu (aM (i:=4) qJ.nd) (cu (aM (i:=5) qJ.nd) ik)))
    (ay (fq (cO (DQ T) hr T.Ab T.zg.kp T.C1 (ae (mE (v:=.ref Z.a_NOUGHT) rfl T.mg_NOUGHT rfl) (ae (aV bI (pv 5) (pv 2)) aj))) (gR (pv 3) (pv 4) set_list))))
   (ay (aZ (pv 3))))),?_⟩
  refine aO (σ:=[some (.ref p),some (.int n),some (.int a),none,none,none]) rfl ?_;obtain ⟨lR,wR,rr⟩:=id RR;walk_at "w";refine ⟨n,a,rfl,by lia,fun an H1 na s1 R1=>?_⟩;rw[<- L9 (R:=R) (ps:=ps)] at R1;obtain ⟨vs0,g0,q0⟩:=id R1;walk_at "w";refine ⟨p,n,H0,R,ps,rfl,G.same s1,r100,n100,⟨rows,RR⟩,fun le H2 nl s2 g2=>?_⟩;have anl:le≠an:=fun z=>by rw[z,g0] at nl;cases nl
  obtain ⟨rs,grs,qrs,_⟩:=id G;have lrs:=qrs.length;have lps:=wG (ps:=ps);walk_at "w";refine ⟨⟨_,bM.of g2⟩,⟨_,bM.of ((s1.trans s2) _ _ grs)⟩,?_⟩;refine Gx (K:=K) (xs:=dH ps) (ws:=rs) (fun j σ' H'=>aE H H'/\H' le=some (.lst (dH ps))/\∃y1 y2 vs,σ'=[some (.ref p),some (.int n),some (.int a),some (.ref an),y1,y2]/\H' an=some (.lst vs)/\Paired (cw K H') (FV R ps n a j) vs) (by lia) ⟨s1.trans s2,g2,_,_,vs0,rfl,s2 _ _ g0,Paired.imp' (fun _ _ z=>cw.same z s2) q0⟩ (fun j σ' H' _ ⟨e,e2,_⟩=>⟨bM.of e2,bM.of (e _ _ grs)⟩) ?_ ?_
  ·rintro j v1 v2 σ' H' r h1 h2 ⟨s',gl,y1,y2,vs,rfl,ga,qa⟩ hr;obtain ⟨row,er,q,rfl,_,Rr⟩:=cm qrs h2;have mr:=aw er;have wr:=wR row mr;obtain ⟨pj,ej,rfl⟩:=CD h1;have hj:j < ps.length:=(aA.mp ej).1;have ejD:ps.getD j 0=pj:=by rw[aa,ej];rfl
   have pjn:pj < n:=by have:=rr.low j hj;rw[ejD] at this;exact this
   have fr:bD R j a=row.getD a 0:=by unfold bD;rw[aa (l:=R),er];rfl
   have sr:aE H' (upd H' r (.tup [.int pj,.ref q])):=aE.new hr;have gr:(upd H' r (.tup [.int pj,.ref q])) r=some (.tup [.int pj,.ref q]):=aF;generalize upd H' r (.tup [.int pj,.ref q])=H3 at sr gr ⊢;have s03:=s'.trans sr;obtain ⟨us,gu,qu⟩:=Rr.same s03;obtain ⟨vx,ex,nx⟩:=D7 qu (j:=a) (by lia);walk_at "w";refine b5 (bM.of gu) ex ?_;walk_at "w";refine ⟨_,_,0,row.getD a 0,rfl,⟨_,rfl,T.sq_NOUGHT _⟩,nx,Ja,hz row mr _ (getD_in (by lia)),fun r4 H4 s4 n4=>?_⟩;have ga4:=(sr.trans s4) _ _ ga;have gl4:=(sr.trans s4) _ _ gl;have la:=qa.length;rw[qR] at la;walk_at "w";refine eO ga4 (ff (by lia)) rfl ?_;refine ⟨(s03.trans s4).after na,by rw[br anl];exact gl4,_,_,_,rfl,aF,?_⟩;rw[<- Mb RR hj hp,ejD,fr,show -(row.getD a 0)=0 - row.getD a 0 by grind];exact kb (Paired.imp' (fun _ _ z=>(cw.same z (sr.trans s4)).updL ga4) qa) pj (n4.updL ga4)
  ·rintro σ' H' ⟨s',gl,y1,y2,vs,rfl,ga,qa⟩;rw[lps] at qa;walk_at "w";exact k an H' na s' ⟨vs,ga,qa⟩
theorem sS:aW ["rows","wide","leads"] ["rows","wide"] (av fW):=by walk_at "d"
theorem zZ (T:Txt K mg Z):cI P w K mg base gF 3 Z.kX Z.kG ["rows","wide"] (Jr K):=by
 refine T.pT.ok sS (fun vs H Q E h=>?_) (fun cdv A outer s H vs Q E hr h=>?_)
 ·obtain ⟨p,n,H0,R,ps,rfl,G,r100,n100,RR,k⟩:=h;rfl
 ·obtain ⟨p,n,H0,R,ps,rfl,G,r100,n100,RR,k⟩:=h
  refine ⟨_,(au (bf (i:=2) sS.nd rfl (Or.inr rfl) (cO (zY T) hr T.vO T.uP.kp T.xZ (ae (pv 0) aj)))
   (ay (aZ (cE ["place"] ["leads"] [2] (cv rfl T.range (ae (pv 1) aj)) (fun _=>(aM (i:=0) (show List.Nodup (α:=PySem.Str) ["place","leads"] by decide +kernel))) (fun _=>EY (bw (uY K (by rfl)) (pv 0) (pv 1) (by with_unfolding_all rfl))) (fun _=>(pv 0)))))),?_⟩
  refine aO (σ:=[some (.ref p),some (.int n),none]) rfl ?_;walk_at "w";refine ⟨p,n,H0,R,ps,rfl,G,r100,n100,RR,fun l H1 nl s1 g1=>?_⟩;walk_at "w";refine ⟨by lia,by lia,?_⟩;refine rn (n:=n) (fun i ys H'=>aE H1 H'/\ys=dH (oE ps i)) (aR (bE (by lia))) ⟨aE.refl _,rfl⟩ ?_ ?_
  ·rintro i ys H' hi hlen ⟨s',rfl⟩;rw[zm];walk_at "w";refine ⟨l,dH ps,rfl,.inl (bM.of (s' _ _ g1)),rfl,Bs,?_⟩;rw[D9];by_cases e:i∈ps
   ·rw[decide_eq_true e];walk_at "w";refine ⟨s',?_⟩;rw[Am,if_neg (by simpa using e)]
   ·rw[decide_eq_false e,show (if true=true then !false else false)=true from rfl];walk_at "w";refine ⟨s',?_⟩;rw[Am,if_pos e];unfold dH;rw[dg];rfl
  ·rintro ys H2 hy ⟨s2,rfl⟩ r hr;exact k r _ (s1.none (s2.none hr)) ((s1.trans s2).trans (aE.new hr)) aF
theorem Dw:aW ["rows","wide","basis"] ["rows","wide"] (av ue):=by walk_at "d"
theorem JQ (T:Txt K mg Z):cI P w K mg base gF 6 Z.za Z.yZ ["rows","wide"] (Hy K):=by
 refine T.C9.ok Dw (fun vs H Q E h=>?_) (fun cdv A outer s H vs Q E hr h=>?_)
 ·obtain ⟨p,n,w,H0,rows,rfl,G,r100,n100,hw,F,e39,k⟩:=h;rfl
 ·obtain ⟨p,n,w,H0,rows,rfl,G,r100,n100,hw,F,e39,k⟩:=h
  refine ⟨_,(au (bf (i:=2) Dw.nd rfl (Or.inr rfl) (cO (vJ T) hr T.qS T.qA.kp T.uC (ae (pv 0) (ae (pv 1) aj))))
   (ay (aZ (cE ["at"] ["basis","wide"] [2,1] (cM (cO (zZ T) hr T.tu T.pT.kp T.vo (ae (pv 2) (ae (pv 1) aj)))) (fun _=>(aM (i:=0) (show List.Nodup (α:=PySem.Str) ["at","basis","wide"] by decide +kernel))) (fun _=>cJ) (fun _=>(cO (E3 T) hr T.Aa T.yd.kp T.BP (ae (pv 1) (ae (pv 2) (ae (pv 0) aj))))))))),?_⟩
  refine aO (σ:=[some (.ref p),some (.int n),none]) rfl ?_;walk_at "w";refine ⟨p,n,w,H0,rows,rfl,G,r100,n100,hw,F,fun ba R ps M H1 nb s1 G1 RR pm M0 M1 tM=>?_⟩;obtain ⟨lR,wR,rr⟩:=id RR;have pn:=RR.le;have p39:(2:Nat)^(min rows.length n*(w+4))<=2^3995:=ak (by decide) (by lia);have szR:∀xs∈R,∀x∈xs,qE x:=fun xs hx x hx'=>pF (tM xs hx x hx') M0 (ah M1 p39) p39
  have fl:=Oo (ps:=ps) (i:=n);walk_at "w";refine ⟨ba,n,H,R,ps,rfl,G1,by lia,by lia,⟨rows,RR⟩,fun fr H2 nf s2 g2=>?_⟩;walk_at "w";refine ⟨⟨_,bM.of g2⟩,?_⟩;refine ft (K:=K) (xs:=dH (oE ps n)) (fun i ys H'=>aE H2 H'/\Paired (cS K H H') ((oE ps n).take i |>.map (Ih R ps n)) ys) (aR (bE (by rw[wG];lia))) ⟨aE.refl _,.nil⟩ (fun i ys H' _ ⟨s,_⟩=>bM.of (s _ _ g2)) ?_ ?_
  ·rintro i v ys H' hx hlen ⟨s',pr⟩;obtain ⟨a,ea,rfl⟩:=CD hx;obtain ⟨an,ap⟩:=wU.mp (aw ea);have s02:=(s1.trans s2).trans s';walk_at "w";refine ⟨ba,n,a,H,R,ps,rfl,(G1.same s2).same s',by lia,by lia,⟨rows,RR⟩,an,ap,szR,fun r H3 nr s3 R3=>?_⟩;refine ⟨s'.trans s3,?_⟩;rw[take_snoc ea,dg];exact bZ (Paired.imp' (fun _ _ z=>cS.same z s3) pr) (.cons ⟨r,rfl,s02.none nr,R3⟩ .nil)
  ·rintro ys H3 hy ⟨s3,pr⟩ r hr;rw[aH (by rw[wG];exact ar _)] at pr;have sn:aE H3 (upd H3 r (.lst ys)):=aE.new hr;have s03:=(s1.trans s2).trans s3;exact k r R ps M _ (s03.none hr) (s03.trans sn) ⟨ys,aF,Paired.imp' (fun _ _ z=>cS.same z sn) pr,mo (H0:=H) (rows:=bS R ps n) ⟨H3,hr,pr⟩⟩ RR pm M0 M1 fun xs hx x hx'=>by obtain ⟨a,_,_,rfl⟩:=ui hx;exact MK M0 M1 tM RR x hx'
theorem sR:aW ["system","steps","told"] ["system","steps"] (av fQ):=by walk_at "d"
theorem jH (T:Txt K mg Z):cI P w K mg base gF 9 Z.kS Z.kC ["system","steps"] (EC K Z.a_System):=by
 refine T.gD.ok sR (fun vs H Q E h=>?_) (fun cdv A outer s H vs Q E hr h=>?_)
 ·obtain ⟨x,tt,H0,mv,pt,lk,rfl,hT,S,SM,k⟩:=h;rfl
 ·obtain ⟨x,tt,H0,mv,pt,lk,rfl,hT,S,SM,k⟩:=h
  refine ⟨_,(au (bf (i:=2) sR.nd rfl (Or.inl rfl) (cO (AQ T) hr T.u9 T.rP.kp T.xg (ae (DL (pv 0) T.cl_System T.kh (qe T) (hr.mono (by decide)) T.mf .nil Bn) (ae (pv 1) aj))))
   (ay (aZ (cO (vJ T) hr T.qS T.qA.kp T.uC (ae (cO (JQ T) hr T.DX T.C9.kp T.GK (ae (pv 2) (ae (eV (pv 0) rfl) aj))) (ae (eV (pv 0) rfl) aj)))))),?_⟩
  refine aO (σ:=[some (.ref x),some (.int tt),none]) rfl ?_;have D:=SM.D;have d8:=D.n8;have n5:=SM.n5;have et:(bO mv mv.length).length=mv.length:=ck;obtain ⟨dx,a',b',c',gx,_⟩:=id S;walk_at "w";refine ⟨x,dx,_,rfl,gx,zy,?_⟩;walk_at "w";refine ⟨x,H0,mv,pt,lk,rfl,S,D,SM.sfc.sf,fun y H1 ny s1 S1=>?_⟩;walk_at "w";refine ⟨y,12,16,tt,H,_,lk,pt,rfl,by lia,S1,D.turn,SM.turn.kfit,fun q R ps H2 nq s2 G2 RR=>?_⟩;have s02:=s1.trans s2;obtain ⟨sw,b39⟩:=SM.turn.swR RR;obtain ⟨swn,bn,q1,q10,tn⟩:=SM.turn.swN RR;rw[et] at RR sw b39 swn bn tn;have le:=RR.le;have lR:=RR.1;have cnt:=xP RR;walk_at "w";refine ⟨x,Z.a_System,dx,_,_,rfl,s02 _ _ gx,T.cl_System,T.na_states,iZ,?_⟩;walk_at "w";refine ⟨q,mv.length,580,H1,R,rfl,G2,by lia,by lia,RR.2.1,sw,b39,fun r3 R3 ps3 M3 H3 n3 s3 G3 RR3 _ _ _ _=>?_⟩;obtain ⟨rfl,rfl⟩:=RR3.same (yR RR);have s03:=s02.trans s3;walk_at "w";refine ⟨x,Z.a_System,dx,_,_,rfl,s03 _ _ gx,T.cl_System,T.na_states,iZ,?_⟩;walk_at "w";refine ⟨r3,mv.length,ps3.length*116,H2,_,rfl,G3,by lia,by lia,yU,swn,fun r4 Hd psd M4 H4 n4 s4 G4 RN _ M0 M1 tp=>?_⟩;have up:=ak (show 0 < 2 by decide) bn;exact k r4 R3 ps3 Hd psd M4 H4 (s03.none n4) (s03.trans s4) (G4.weakN fun q h=>s03.none h) RR RN (E8 RR cg q10 tn RN) M0 (ah M1 up) (fun xs hx x hx'=>(tp xs hx x hx').mono up)
theorem Co:aW ["_law_one","_law_other"] ["_law_one","_law_other"] (av jg):=by walk_at "d"
theorem Cz (T:Txt K mg Z):cI P w K mg base gF 2 Z.o6 Z.oM ["_law_one","_law_other"] (Dq K):=by
 refine T.tU.ok Co (fun vs H Q E h=>?_) (fun cdv A outer s H vs Q E hr h=>?_)
 ·obtain ⟨p,q,a,b,c,d,rfl,hp,hq,hb,hd,hc,sa,sb,sc,sd,k⟩:=DI h;rfl
 ·obtain ⟨p,q,a,b,c,d,rfl,hp,hq,hb,hd,hc,sa,sb,sc,sd,k⟩:=DI h
  refine ⟨_,(au (dm (bw uZ (aV b4 (pv 1) ao) ao (bK _)) (ay (aZ (cO (gU T) hr T.fz T.fI.kp T.gZ (ae (bC ke ao (bC cN (aV b4 (pv 0) ao) (aV b4 (pv 1) ao))) (ae (bC ke ao (bC cN (aV b4 (pv 0) ao) (aV b4 (pv 1) ao))) aj))))) b9)
   (ay (aZ (cO (gU T) hr T.fz T.fI.kp T.gZ (ae (bC cN (aV b4 (pv 0) ao) (aV b4 (pv 1) ao)) (ae (bC cN (aV b4 (pv 0) ao) (aV b4 (pv 1) ao)) aj)))))),?_⟩
  refine aO (σ:=[some (.ref p),some (.ref q)]) rfl ?_;have sbc:Sz 8999 (b*c):=(sb.mul sc).mono (by decide);walk_at "w";refine jx (fun h=>?_) (fun h=>?_)
  ·have h0:c < 0:=of_decide_eq_true h;have hbc:b*c < 0:=v3 hb h0;walk_at "w";refine fe (show fA _ _ from .inr ⟨_,_,sa,sd,by decide⟩) ?_;walk_at "w";refine fe (show fA _ _ from .inr ⟨_,_,sb,sc,by decide⟩) ?_;walk_at "w";refine ⟨_,_,rfl,by lia,by rw[Int.zero_sub];exact sbc.neg,fun r H' s' h'=>?_⟩;exact k r H' s' (by rw[if_pos h0,if_pos h0];exact h')
  ·have h0:¬c < 0:=fun z=>h (decide_eq_true z)
   have hbc:0 < b*c:=iN hb (by lia);walk_at "w";refine fe (show fA _ _ from .inr ⟨_,_,sa,sd,by decide⟩) ?_;walk_at "w";refine fe (show fA _ _ from .inr ⟨_,_,sb,sc,by decide⟩) ?_;walk_at "w";refine ⟨_,_,rfl,hbc,sbc,fun r H' s' h'=>?_⟩;exact k r H' s' (by rw[if_neg h0,if_neg h0];exact h')
theorem Cr:aW ["_law_one","_law_other"] ["_law_one","_law_other"] (av jm):=by walk_at "d"
theorem CB (T:Txt K mg Z):cI P w K mg base gF 2 Z.pe Z.oQ ["_law_one","_law_other"] (sP K (fun x y=>x - y)):=by
 refine T.tW.ok Cr (fun vs H Q E h=>?_) (fun cdv A outer s H vs Q E hr h=>?_)
 ·obtain ⟨p,q,a,b,c,d,rfl,hp,hq,hb,hd,sa,sb,sc,sd,k⟩:=yP h;rfl
 ·obtain ⟨p,q,a,b,c,d,rfl,hp,hq,hb,hd,sa,sb,sc,sd,k⟩:=yP h;refine ⟨_,(ay (aZ (cO (gU T) hr T.fz T.fI.kp T.gZ (ae (bC ke (bC cN (aV b4 (pv 0) ao) (aV b4 (pv 1) ao)) (bC cN (aV b4 (pv 1) ao) (aV b4 (pv 0) ao))) (ae (bC cN (aV b4 (pv 0) ao) (aV b4 (pv 1) ao)) aj))))),?_⟩;refine aO (σ:=[some (.ref p),some (.ref q)]) rfl ?_;have hbd:0 < b*d:=iN hb hd;have sbd:Sz 8999 (b*d):=(sb.mul sd).mono (by decide);walk_at "w";refine fe (show fA _ _ from .inr ⟨_,_,sa,sd,by decide⟩) ?_;walk_at "w";refine fe (show fA _ _ from .inr ⟨_,_,sc,sb,by decide⟩) ?_;walk_at "w";refine fe (show fA _ _ from .inr ⟨_,_,sb,sd,by decide⟩) ?_;walk_at "w";walk_at "w";refine ⟨_,_,rfl,hbd,sbd,k⟩
theorem AN:aW ["_law_one","_law_other"] ["_law_one","_law_other"] (av ig):=by walk_at "d"
theorem u6 (T:Txt K mg Z):cI P w K mg base gF 3 Z.m4 Z.mS ["_law_one","_law_other"] (Bf K):=by
 refine T.m7.ok AN (fun vs H Q E h=>?_) (fun cdv A outer s H vs Q E hr h=>?_)
 ·obtain ⟨p,q,xs,ys,rfl,hp,hq,hl,hz,h1,h2,kk⟩:=h;rfl
 ·obtain ⟨p,q,xs,ys,rfl,hp,hq,hl,hz,h1,h2,kk⟩:=h;refine ⟨_,(ay (aZ (cE ["_law_k"] ["_law_one","_law_other"] [0,1] (cv rfl T.range (ae (bY bL (by rfl) T.len bG (ae (pv 0) aj)) aj)) (fun _=>(aM (i:=0) (show List.Nodup (α:=PySem.Str) ["_law_k","_law_one","_law_other"] by decide +kernel))) (fun _=>cJ) (fun _=>(cO (CB T) hr T.wM T.tW.kp T.yB (ae (aV (fM K (by rfl)) (pv 1) (pv 0)) (ae (aV (fM K (by rfl)) (pv 2) (pv 0)) aj))))))),?_⟩;refine aO (σ:=[some (.ref p),some (.ref q)]) rfl ?_;obtain ⟨us,gu,qu⟩:=id hp;obtain ⟨ws,gw,qw⟩:=id hq;have lu:=qu.length;walk_at "w";refine ⟨_,_,rfl,.inl (bM.of gu),?_⟩;walk_at "w";refine ⟨by lia,by lia,?_⟩;refine gC (n:=us.length) (cw K) (fun i=>xs.getD i 0 - ys.getD i 0) (by lia) (fun a b=>a.same b) ?_ ?_
  ·rintro i H' NY NN hi s k1;have ix:i < xs.length:=by lia
   have iy:i < ys.length:=by lia
   obtain ⟨vx,ex,nx⟩:=D7 (Paired.imp' (fun _ _ z=>z.same s) qu) ix;obtain ⟨vy,ey,ny⟩:=D7 (Paired.imp' (fun _ _ z=>z.same s) qw) iy;walk_at "w";refine b5 (bM.of (s _ _ gu)) ex ?_;walk_at "w";refine b5 (bM.of (s _ _ gw)) ey ?_;walk_at "w";exact ⟨_,_,_,_,rfl,nx,ny,h1 _ (getD_mem ix),h2 _ (getD_mem iy),fun r3 H3 s3 n3=>k1 _ _ s3 n3⟩
  ·rintro ys' H' l hl' s g pr nx;exact kk l H' hl' s ⟨ys',g,by rw[Eu (by lia)];rw[<- lu] at pr;exact pr⟩
theorem dr:aW ["_law_rows","_law_wide","_law_found","_law_left","_law_at","_law_first","_law_lead"] ["_law_rows","_law_wide"] (av fk):=by walk_at "d"
theorem rZ (T:Txt K mg Z):cI P w K mg base gF 4 Z.jR Z.jN ["_law_rows","_law_wide"] (EH K):=by
 refine T.jV.ok dr (fun vs H Q E h=>?_) (fun cdv A outer s H vs Q E hr h=>?_)
 ·obtain ⟨p,n,S,H0,rows,rfl,G,r100,n100,hw,⟨e39,J,j0,jskip,jlean,jlw,jsz⟩,k⟩:=h;rfl
 ·obtain ⟨p,n,S,H0,rows,rfl,G,r100,n100,hw,⟨e39,J,j0,jskip,jlean,jlw,jsz⟩,k⟩:=h
  refine ⟨_,(au (bf (i:=2) dr.nd rfl (Or.inl rfl) (eI aj))
   (au (ky 3 ["_law_row_here"] [] [] dr.nd rfl rfl (cM (pv 0)) (fun _=>(aM (i:=0) (show List.Nodup (α:=PySem.Str) ["_law_row_here"] by decide +kernel))) (fun _=>cJ) (fun _=>(jo (kN K (by rfl)) (by rfl) T.list PyProof.Rows.boot_list (ae (pv 0) aj))))
   (au (eF PassesOwn.never rfl (cv rfl T.range (ae (pv 1) aj)) (aM (i:=4) dr.nd rfl (Or.inr rfl) (Or.inl rfl))
    (au (ky 5 ["_law_row_here"] ["_law_at"] [4] dr.nd rfl rfl (cM (pv 3)) (fun _=>(aM (i:=0) (show List.Nodup (α:=PySem.Str) ["_law_row_here","_law_at"] by decide +kernel))) (fun _=>EY (bw (FU K (by rfl) (Ea hr)) (aV (fM K (by rfl)) (pv 0) (pv 1)) (dA (ae ao (ae ao aj))) (bK _))) (fun _=>(pv 0)))
   (ay (dm (bw zU (bY bL (by rfl) T.len bG (ae (pv 5) aj)) ao (bK _)) (au (bf (i:=6) dr.nd rfl (Or.inr rfl) (cO (nX T) hr T.kg T.kv.kp T.nH (ae (cO (Cz T) hr T.wK T.tU.kp T.yz (ae (dA (ae ao (ae ao aj))) (ae (aV bI (aV bI (pv 5) ao) (pv 4)) aj))) (ae (aV bI (pv 5) ao) aj))))
   (au (jF (yj cW PySem.F.slot_list_remove PySem.F.type_list_remove (Il (Ea hr)) (pv 3) (ae (aV bI (pv 5) ao) aj)))
   (au (ky 3 ["_law_row_here"] ["_law_at","_law_lead"] [4,6] dr.nd rfl rfl (cM (pv 3)) (fun _=>(aM (i:=0) (show List.Nodup (α:=PySem.Str) ["_law_row_here","_law_at","_law_lead"] by decide +kernel))) (fun _=>cJ) (fun _=>(cO (u6 T) hr T.pM T.m7.kp T.rD (ae (pv 0) (ae (cO (nX T) hr T.kg T.kv.kp T.nH (ae (aV (fM K (by rfl)) (pv 0) (pv 1)) (ae (pv 2) aj))) aj)))))
   (ay (bf (i:=2) dr.nd rfl (Or.inl rfl) (bC pJ (cE ["_law_row_here"] ["_law_at","_law_lead"] [4,6] (cM (pv 2)) (fun _=>(aM (i:=0) (show List.Nodup (α:=PySem.Str) ["_law_row_here","_law_at","_law_lead"] by decide +kernel))) (fun _=>cJ) (fun _=>(cO (u6 T) hr T.pM T.m7.kp T.rD (ae (pv 0) (ae (cO (nX T) hr T.kg T.kv.kp T.nH (ae (aV (fM K (by rfl)) (pv 0) (pv 1)) (ae (pv 2) aj))) aj))))) (eI (ae (pv 6) aj)))))))) b9))))
   (ay (aZ (pv 2)))))),?_⟩
  refine aO (σ:=[some (.ref p),some (.int n),none,none,none,none,none]) rfl ?_;obtain ⟨xs,gx,qx,_⟩:=id G;have szT:∀{D:Nat} {x:Rat},0 < D->D<=2^S->Tp D (2^S) x->qE x:=fun h0 h1 t=>pF t h0 (ah h1 (ak (by decide) (by lia))) (ak (by decide) (by lia))
  have szP:∀{D D':Nat} {x y:Rat},0 < D->0 < D'->D<=2^S->D'<=2^S->Tp D (2^S) x->Tp D' (2^S) y->qE (x*y):=fun h0 h0' h1 h1' t t'=>pF (t.mul t') (iM h0 h0') (ah (bH h1 h1') (by rw[<- cF];exact ak (by decide) (by lia))) (by rw[<- cF];exact ak (by decide) (by lia))
  walk_at "w";refine dk fun fd Hz sz nf gf=>?_
  walk_at "w";refine ⟨⟨_,bM.of (sz _ _ gx)⟩,?_⟩;refine eN (K:=K) (F:=cS K H0) (cS K Hz) id (sz _ _ gx) (Paired.imp' (fun _ _ z=>cS.same z sz) qx) (by lia) (fun a b=>a.same b) (fun a b=>a.same b) ?_ ?_
  ·rintro i ns x H' NY NN en s ⟨u,rfl,_,zs,gz,qz⟩ k1;walk_at "w";refine ⟨u,zs,rfl,.inl (bM.of gz),fun l1 hl1=>?_⟩;exact k1 _ _ (aE.new hl1) ⟨l1,rfl,s.none hl1,zs,aF,Paired.imp' (fun _ _ z=>z.same (aE.new hl1)) qz⟩
  rintro ys1 H1 L hL s1 g1 pr1 nx1;rw[sG] at pr1 nx1;have GL1:bB K Hz H1 L rows:=⟨ys1,g1,pr1,mo nx1⟩;have GL1:=GL1.weak sz;have fdL:fd≠L:=fun z=>by rw[<- z,gf] at hL;cases hL
  clear g1 pr1 nx1;walk_at "w";refine ⟨by lia,by lia,?_⟩;refine eH (n:=n) (fun P σ' H'=>aE H H'/\∃lp fp ls fs ps vs y1 y2 y3,σ'=[some (.ref p),some (.int n),some (.ref fp),some (.ref lp),y1,y2,y3]/\H lp=none/\H fp=none/\fp≠lp/\bB K H H' lp ls/\H' fp=some (.lst vs)/\Paired (rM K (fun q=>(H q=none/\q≠fp)/\q≠lp) H') fs vs/\fs.length=ps.length/\J P (fs++ls) ps) ⟨sz.trans s1,L,fd,rows,[],[],[],_,_,_,rfl,sz.none hL,nf,fdL,GL1,s1 _ _ gf,.nil,rfl,j0⟩ ?_ ?_
  ·rintro P σ' H' hP ⟨s',lp,fp,ls,fs,ps,vs,y1,y2,y3,rfl,nlp,nfp,fl,GL,gv,pv,hf,JI⟩;have I:=jlw _ _ _ JI;have len:=I.len;rw[ai] at len;have wide:=I.wide;obtain ⟨us,gu,qu,nu⟩:=id GL;have lu:=qu.length;have lv:=pv.length;have ez:∀i,(ls.map fun r=>r.getD P 0).getD i 0=bD ls i P:=fun i=>JZ
   walk_at "w";refine ⟨⟨_,bM.of gu⟩,?_⟩;refine ft (K:=K) (a:=lp) (xs:=us) (fun i ys H''=>aE H' H''/\ys=(z7 (ls.map fun r=>r.getD P 0) i).map fun j=>us.getD j .non) (aR (bE (by lia))) ⟨aE.refl _,rfl⟩ (fun i ys H'' _ ⟨s,_⟩=>bM.of (s _ _ gu)) ?_ ?_
   ·rintro i v ys Hb hv hlen ⟨sb,rfl⟩;obtain ⟨xt,et,qt,rfl,nqt,Rt⟩:=cm (Paired.imp' (fun _ _ z=>cS.same z sb) qu) hv;have mt:=aw et;have wt:=wide xt (ax.mpr (.inr mt));obtain ⟨zs,gz,qz⟩:=id Rt;obtain ⟨vx,ex,nx⟩:=D7 qz (j:=P) (by lia);have fx:(ls.map fun r=>r.getD P 0).getD i 0=xt.getD P 0:=by rw[ez];unfold bD;rw[aa (l:=ls),et];rfl
    walk_at "w";refine b5 (bM.of gz) ex ?_;walk_at "w";refine cD fun t0 Hc sc gc=>?_
    walk_at "w";refine ⟨_,_,Kc,xt.getD P 0,0,by decide,nx.same sc,cw.mk (q:=0) gc rfl,?_⟩;by_cases e:xt.getD P 0=0
    ·rw[decide_eq_true e];walk_at "w";refine ⟨sb.trans sc,?_⟩;rw[yT,fx,if_neg (by simpa using e)]
    ·rw[decide_eq_false e];walk_at "w";refine ⟨sb.trans sc,?_⟩;rw[yT,fx,if_pos e,dg,List.map_singleton,aa,hv];rfl
   rw[<- lu];rintro ys Hb hy ⟨sb,rfl⟩ hd hhd;have nzm:∀c,c∈z7 (ls.map fun r=>r.getD P 0) ls.length↔c < ls.length/\bD ls c P≠0:=fun c=>by rw[E7,ez]
   have nzf:∀t r,z7 (ls.map fun r=>r.getD P 0) ls.length=t :: r->∀i,i < t->bD ls i P=0:=fun t r e i hi=>by rw[<- ez];exact JS e i hi
   generalize z7 (ls.map fun r=>r.getD P 0) ls.length=hs at hy hhd nzm nzf;have sn:aE Hb (upd Hb hd (.lst (hs.map fun j=>us.getD j .non))):=aE.new hhd;have gh:(upd Hb hd (.lst (hs.map fun j=>us.getD j .non))) hd=some (.lst (hs.map fun j=>us.getD j .non)):=aF;generalize upd Hb hd (.lst (hs.map fun j=>us.getD j .non))=Hd at sn gh ⊢;have sbd:=sb.trans sn;walk_at "w";refine ⟨_,_,rfl,.inl (bM.of gh),?_⟩;rw[ag];walk_at "w";cases hs with
   | nil =>
    refine Iu ?_;walk_at "w";refine ⟨s'.trans sbd,lp,fp,ls,fs,ps,vs,_,_,_,rfl,nlp,nfp,fl,GL.same sbd,sbd _ _ gv,Paired.imp' (fun _ _ z=>rM.same z sbd) pv,hf,jskip _ _ _ JI fun i h1 h2=>?_⟩;rw[ai] at h2;obtain ⟨j,rfl⟩:∃j,i=fs.length+j:=⟨i - fs.length,by lia⟩;rw[pQ];by_cases z:bD ls j P=0
    ·exact z
    ·exact absurd ((nzm j).mpr ⟨by lia,z⟩) (by simp)
   | cons t hs' =>
    rw[decide_eq_true (show (0:Int) < ((t :: hs').length:Nat) by rw[bg];lia)];obtain ⟨tl,hne⟩:=(nzm t).mp (.head _);have tfst:=nzf t hs' rfl;have gud:=sbd _ _ gu;obtain ⟨xt,vt,et,evt,mt,qt,rfl,nqt,Rt⟩:=fH (Paired.imp' (fun _ _ z=>cS.same z sbd) qu) tl;have ext:ls.getD t []=xt:=by rw[aa,et];rfl
    have hne':xt.getD P 0≠0:=by unfold bD at hne;rw[ext] at hne;exact hne
    have wt:=wide xt (ax.mpr (.inr mt));have qtl:qt≠lp:=fun z=>nu (by rw[<- z];exact aw evt)
    rw[fv,show us.getD t .non=.ref qt by rw[aa,evt];rfl] at gh;generalize hs'.map (fun j=>us.getD j .non)=hv at gh;have I2:=jlean _ _ _ _ _ JI hf tl hP (by rw[ext];exact hne') tfst;rw[ext] at I2
    have rowD:∀r∈fs++ls,∃D:Nat,0 < D/\D<=2^S/\∀c,Tp D (2^S) (r.getD c 0):=fun r hr=>by
     obtain ⟨i,hi,rfl⟩:=be hr;obtain ⟨D,D0,D1,D2⟩:=jsz _ _ _ JI (by lia) i (by rw[ai] at hi;lia);refine ⟨D,D0,D1,fun c=>?_⟩;have:=D2 c;unfold bD at this;rw[aa (l:=fs++ls),af hi] at this;exact this
    have szr:∀r∈fs++ls,∀y∈r,qE y:=fun r hr y hy=>by
     obtain ⟨D,D0,D1,D2⟩:=rowD r hr;obtain ⟨c,hc,rfl⟩:=be hy;have:=D2 c;rw[aa,af hc] at this;exact szT D0 D1 this
    have mxt:xt∈fs++ls:=ax.mpr (.inr mt);have lu2:(iq P xt).length=n:=by unfold iq;rw[ag];exact wt
    obtain ⟨Du,Du0,Du1,Du2⟩:∃D:Nat,0 < D/\D<=2^S/\∀y∈iq P xt,Tp D (2^S) y:=by
     obtain ⟨D,D0,D1,D2⟩:=jsz _ _ _ I2 (by lia) ps.length (by lia);refine ⟨D,D0,D1,fun y hy=>?_⟩;obtain ⟨c,hc,rfl⟩:=be hy;have:=D2 c;rw[bP,show ps.length=(fs.map (qi P (iq P xt))).length+0 by rw[ag];lia,pQ] at this
     have e:bD ([iq P xt]++(ls.eraseIdx t).map (qi P (iq P xt))) 0 c=(iq P xt)[c]:=by
      show (iq P xt).getD c 0=_
      rw[aa,af hc];rfl
     rw[e] at this;exact this
    have szu:∀y∈iq P xt,qE y:=fun y hy=>szT Du0 Du1 (Du2 y hy)
    have szp:∀r∈fs++ls,∀y∈iq P xt,qE (r.getD P 0*y):=fun r hr y hy=>by
     obtain ⟨D,D0,D1,D2⟩:=rowD r hr;exact szP D0 Du0 D1 Du1 (D2 P) (Du2 y hy)
    obtain ⟨zs,gz,qz⟩:=id Rt;obtain ⟨vx,ex,nx⟩:=D7 qz (j:=P) (by lia);have szx:qE (xt.getD P 0):=szr xt mxt _ (getD_in (by lia));walk_at "w";refine cD fun tq Hf sf gf=>?_
    have ghf:=sf _ _ gh;walk_at "w";refine b5 (bM.of ghf) (dQ (j:=0) rfl) ?_;walk_at "w";refine b5 (bM.of (sf _ _ gz)) ex ?_;walk_at "w";refine ⟨_,_,1,xt.getD P 0,rfl,cw.mk (q:=1) gf rfl,nx.same sf,Lb,szx,hne',fun qr Hg sg nq=>?_⟩;have sfg:=sf.trans sg;have ghg:=sg _ _ ghf;walk_at "w";refine b5 (bM.of ghg) (dQ (j:=0) rfl) ?_;walk_at "w";refine ⟨_,qt,1 / xt.getD P 0,xt,rfl,nq,Lc szx hne',Rt.same sfg,by lia,szr xt mxt,fun ur Hh nur sh Rur=>?_⟩;have Rur:cK K Hh ur (iq P xt):=Rur;have seh:=sfg.trans sh;have ghh:=sh _ _ ghg;have guh:=seh _ _ gud;have s0h:=(s'.trans sbd).trans seh;have nur0:H ur=none:=((s'.trans sbd).trans sfg).none nur;have url0:ur≠lp:=fun z=>by have:=sfg _ _ gud;rw[<- z,nur] at this;cases this
    walk_at "w";refine ⟨.inl ⟨rfl,_,bM.of guh⟩,?_⟩;walk_at "w";refine b5 (bM.of ghh) (dQ (j:=0) rfl) ?_;walk_at "w";refine ⟨lp,us,.ref qt,_,_,Kb,ls,xt,t,rfl,rfl,guh,by decide,Paired.imp' (fun _ _ ⟨q,e1,_,e3⟩=>by rw[e1];exact (cK.kind (cK.same (cK.same e3 sbd) seh))) qu,(Rt.same seh).kind,et,fun i hi z=>?_,?_⟩
    ·have:=tfst i hi;unfold bD at this;rw[aa (l:=ls),z] at this;exact hne' this
    have s0e:aE H (upd Hh lp (.lst (us.eraseIdx t))):=s0h.after nlp;obtain ⟨us',gu',pu'⟩:=((GL.same sbd).same seh).toE;have eus:us'=us:=by rw[guh] at gu';cases gu';rfl
    subst eus;have ple:Paired (rM K (fun q=>H q=none/\q≠lp) (upd Hh lp (.lst (us'.eraseIdx t)))) (ls.eraseIdx t) (us'.eraseIdx t):=wB (Paired.imp' (fun _ _ z=>rM.updL z guh (fun q h=>h.2)) pu') t;have gle:(upd Hh lp (.lst (us'.eraseIdx t))) lp=some (.lst (us'.eraseIdx t)):=aF;have gve:(upd Hh lp (.lst (us'.eraseIdx t))) fp=some (.lst vs):=by rw[br fl];exact seh _ _ (sbd _ _ gv)
    have pve:Paired (rM K (fun q=>(H q=none/\q≠fp)/\q≠lp) (upd Hh lp (.lst (us'.eraseIdx t)))) fs vs:=Paired.imp' (fun _ _ z=>rM.updL (rM.same (rM.same z sbd) seh) guh (fun q h=>h.2)) pv;have Rur:cK K (upd Hh lp (.lst (us'.eraseIdx t))) ur (iq P xt):=Rur.updL guh url0;generalize upd Hh lp (.lst (us'.eraseIdx t))=He at s0e ple gle gve pve Rur ⊢;clear pu' gu' gud guh gh ghf ghg ghh;walk_at "w";refine ⟨⟨_,bM.of gle⟩,?_⟩;refine eN (K:=K) (F:=rM K (fun q=>H q=none/\q≠lp)) (cS K H) (qi P (iq P xt)) gle ple (by rw[Ng tl];lia) (fun a b=>a.same b) (fun a b=>a.same b) ?_ ?_
    ·rintro i ns x Hi NY NN en si ⟨q,rfl,nq0,Rq⟩ k1;have mn:ns∈fs++ls:=ax.mpr (.inr (OP (aw en)));have wn:=wide ns mn;obtain ⟨zs2,gz2,qz2⟩:=id Rq;obtain ⟨vx2,ex2,nx2⟩:=D7 qz2 (j:=P) (by lia);walk_at "w";refine b5 (bM.of gz2) ex2 ?_;walk_at "w";refine ⟨_,ur,ns.getD P 0,iq P xt,rfl,nx2,szr ns mn _ (getD_in (by lia)),Rur.same si,by lia,szu,fun b1 Hj nb1 sj Rb=>?_⟩;walk_at "w";refine ⟨q,b1,ns,_,rfl,Rq.same sj,Rb,by rw[ag];lia,by lia,szr ns mn,fun y hy=>?_,fun r2 Hk nr2 sk Rk=>?_⟩
     ·obtain ⟨y',hy',rfl⟩:=aB.mp hy;exact szp ns mn y' hy'
     ·exact k1 _ _ (sj.trans sk) ⟨r2,rfl,s0e.none (si.none (sj.none nr2)),Rk⟩
    rintro yl Hk lp2 hlp2 sk gk prk nxk;have s0k:=s0e.trans sk;have Gk:bB K H Hk lp2 ((ls.eraseIdx t).map (qi P (iq P xt))):=⟨yl,gk,prk,mo nxk⟩;have Ruk:=Rur.same sk;walk_at "w";refine ⟨⟨_,bM.of (sk _ _ gve)⟩,?_⟩;refine eN (K:=K) (F:=rM K (fun q=>(H q=none/\q≠fp)/\q≠lp)) (cS K Hk) (qi P (iq P xt)) (sk _ _ gve) (Paired.imp' (fun _ _ z=>rM.same z sk) pve) (by lia) (fun a b=>a.same b) (fun a b=>a.same b) ?_ ?_
    ·rintro i ns x Hi NY NN en si ⟨q,rfl,nq0,Rq⟩ k1;have mn:ns∈fs++ls:=ax.mpr (.inl (aw en));have wn:=wide ns mn;obtain ⟨zs2,gz2,qz2⟩:=id Rq;obtain ⟨vx2,ex2,nx2⟩:=D7 qz2 (j:=P) (by lia);walk_at "w";refine b5 (bM.of gz2) ex2 ?_;walk_at "w";refine ⟨_,ur,ns.getD P 0,iq P xt,rfl,nx2,szr ns mn _ (getD_in (by lia)),Ruk.same si,by lia,szu,fun b1 Hj nb1 sj Rb=>?_⟩;walk_at "w";refine ⟨q,b1,ns,_,rfl,Rq.same sj,Rb,by rw[ag];lia,by lia,szr ns mn,fun y hy=>?_,fun r2 Hl nr2 sl Rl=>?_⟩
     ·obtain ⟨y',hy',rfl⟩:=aB.mp hy;exact szp ns mn y' hy'
     ·exact k1 _ _ (sj.trans sl) ⟨r2,rfl,si.none (sj.none nr2),Rl⟩
    rintro yf Hl f1 hf1 sl gl prl nxl;have lyf:=prl.length;rw[ag] at lyf;walk_at "w";refine dk fun sg1 Hm sm nm gm=>?_
    walk_at "w";refine pG (sm _ _ gl) gm (aR (bE (by show yf.length+1<=1000;lia))) fun fp2 Hn sn2 nfn gn=>?_
    have slm:=sm.trans sn2;have s0n:=(s0k.trans sl).trans slm;have nlp2:H lp2=none:=s0e.none hlp2;have gkm:=sm _ _ (sl _ _ gk);have fl2:fp2≠lp2:=fun z=>by rw[z,gkm] at nfn;cases nfn
    have urm:=(Ruk.same sl).same sm;have urf:ur≠fp2:=fun z=>by obtain ⟨_,gg,_⟩:=urm;rw[z,nfn] at gg;cases gg
    have url:ur≠lp2:=fun z=>by obtain ⟨_,gg,_⟩:=Rur;rw[z,hlp2] at gg;cases gg
    refine ⟨s0n,lp2,fp2,_,_,ps++[P],_,_,_,_,rfl,nlp2,s0k.none (sl.none (sm.none nfn)),fl2,(Gk.same sl).same slm,gn,?_,by rw[ai,ai,ag];show fs.length+1=ps.length+1;lia,I2⟩;refine bZ (Paired.imp' (fun _ _ ⟨q,e1,e2,e3⟩=>⟨q,e1,⟨⟨s0k.none e2,fun z=>?_⟩,fun z=>?_⟩,cK.same e3 slm⟩) prl) (.cons ⟨ur,rfl,⟨⟨nur0,urf⟩,url⟩,urm.same sn2⟩ .nil)
    ·obtain ⟨_,gg,_⟩:=cK.same e3 sm;rw[z,nfn] at gg;cases gg
    ·rw[z,gk] at e2;cases e2
  ·rintro σ' H' ⟨s',lp,fp,ls,fs,ps,vs,y1,y2,y3,rfl,nlp,nfp,fl,GL,gv,pv,hf,JI⟩;have I:=jlw _ _ _ JI;have D:=I.done hw;rw[List.take_left' hf] at D;obtain ⟨km,_⟩:=I.km;walk_at "w";exact k fp fs ps H' nfp s' (bB.ofE gv pv (fun q h=>h.1.1) (fun q h=>h.1.2)) D km
theorem zH:aW ["_law_rows","_law_others","_law_n"] ["_law_rows","_law_others","_law_n"] (av fY):=by walk_at "d"
theorem z5 (T:Txt K mg Z):cI P w K mg base gF 5 Z.kZ Z.kI ["_law_rows","_law_others","_law_n"] (Dm K):=by
 refine T.pU.ok zH (fun vs H Q E h=>?_) (fun cdv A outer s H vs Q E hr h=>?_)
 ·obtain ⟨a,b,n,H0,Hd,Hd1,rfl,n5,Ga,Gb,W,k⟩:=h;rfl
 ·obtain ⟨a,b,n,H0,Hd,Hd1,rfl,n5,Ga,Gb,W,k⟩:=h;refine ⟨_,(ay (aZ (wx fw (bY bL (by rfl) T.len bG (ae (cO (rZ T) hr T.me T.jV.kp T.oq (ae (bC pJ (pv 1) (pv 0)) (ae (pv 2) aj))) aj)) (bY bL (by rfl) T.len bG (ae (cO (rZ T) hr T.me T.jV.kp T.oq (ae (pv 1) (ae (pv 2) aj))) aj)) (bK _)))),?_⟩;refine aO (σ:=[some (.ref a),some (.ref b),some (.int n)]) rfl ?_;obtain ⟨xs,ga,qa,_⟩:=id Ga;obtain ⟨ys,gb,qb,_⟩:=id Gb;have la:=qa.length;have lb:=qb.length;have l1:=W.l1;have l2:=W.l2;walk_at "w";refine pG gb ga (aR (bE (by lia))) fun c H1 s1 n1 g1=>?_
  have Gc:bB K H0 H1 c (Hd++Hd1):=⟨_,g1,Paired.imp' (fun _ _ z=>cS.same z s1) (bZ qb qa),mo ⟨H,n1,bZ qb qa⟩⟩;walk_at "w";refine ⟨c,n,1450,H0,_,rfl,Gc,by rw[ai];lia,by lia,fun zs hz=>(ax.mp hz).elim (W.w1 zs) (W.w2 zs),W.t1,fun r1 R1 p1 H2 nr1 s2 G2 RR1 _=>?_⟩;obtain ⟨us,gu,qu,_⟩:=id G2;have lu:=qu.length;walk_at "w";refine ⟨_,_,rfl,.inl (bM.of gu),?_⟩;rw[<- lu];walk_at "w";refine ⟨b,n,1450,H0,_,rfl,(Gb.same s1).same s2,by lia,by lia,W.w1,W.t2,fun r2 R2 p2 H3 nr2 s3 G3 RR2 _=>?_⟩;obtain ⟨ws,gw,qw,_⟩:=id G3;have lw:=qw.length;walk_at "w";refine ⟨_,_,rfl,.inl (bM.of gw),?_⟩;rw[<- lw,W.rk _ _ _ _ RR1 RR2];walk_at "w";rw[decide_eq_true rfl];exact k H3 ((s1.trans s2).trans s3)
theorem oA:aW ["_law_one","_law_other","_law_total","_law_k"] ["_law_one","_law_other"] (av j7):=by walk_at "d"
theorem DR (T:Txt K mg Z):cI P w K mg base gF 3 Z.rK Z.rh ["_law_one","_law_other"] (FJ K):=by
 refine T.vY.ok oA (fun vs H Q E h=>?_) (fun cdv A outer s H vs Q E hr h=>?_)
 ·obtain ⟨p,q,xs,ys,rfl,hp,hq,hl,hz,⟨k1,j1,k2,j2,h1,h2,hkj⟩,kk⟩:=h;rfl
 ·obtain ⟨p,q,xs,ys,rfl,hp,hq,hl,hz,⟨k1,j1,k2,j2,h1,h2,hkj⟩,kk⟩:=h
  refine ⟨_,(au (bf (i:=2) oA.nd rfl (Or.inl rfl) (dA (ae ao (ae ao aj))))
   (au (eF PassesOwn.never rfl (cv rfl T.range (ae (bY bL (by rfl) T.len bG (ae (pv 0) aj)) aj)) (aM (i:=3) oA.nd)
    (ay (bf (i:=2) oA.nd rfl (Or.inl rfl) (cO (oB T) hr T.lO T.ko.kp T.oj (ae (pv 2) (ae (cO (mF T) hr T.jL T.ju.kp T.lU (ae (aV bI (pv 0) (pv 3)) (ae (aV bI (pv 1) (pv 3)) aj))) aj))))))
   (ay (aZ (pv 2))))),?_⟩
  refine aO (σ:=[some (.ref p),some (.ref q),none,none]) rfl ?_;obtain ⟨us,gu,qu⟩:=id hp;obtain ⟨ws,gw,qw⟩:=id hq;have lu:=qu.length;have lw:=qw.length;walk_at "w";refine cD fun r0 H0 s0 g0=>?_
  walk_at "w";refine ⟨_,_,rfl,.inl (bM.of (s0 _ _ gu)),?_⟩;walk_at "w";refine ⟨by lia,by lia,?_⟩;refine eH (n:=us.length) (fun i σ' H'=>aE H H'/\∃(r:V) (v:Option V),σ'=[some (.ref p),some (.ref q),some r,v]/\cw K H' (d5 (xs.take i) (ys.take i)) r) ⟨s0,_,none,rfl,cw.mk g0 rfl⟩ ?_ ?_
  ·rintro i σ' H' hi ⟨s,r,v,rfl,hr⟩;have ix:i < xs.length:=by lia
   have iy:i < ys.length:=by lia
   obtain ⟨vx,ex,nx⟩:=D7 (Paired.imp' (fun _ _ z=>z.same s) qu) ix;obtain ⟨vy,ey,ny⟩:=D7 (Paired.imp' (fun _ _ z=>z.same s) qw) iy;walk_at "w";refine b5 (bM.of (s _ _ gu)) ex ?_;walk_at "w";refine b5 (bM.of (s _ _ gw)) ey ?_;walk_at "w";refine ⟨_,_,_,_,rfl,nx,ny,h1.szn (getD_mem ix) (by lia),h2.szn (getD_mem iy) (by lia),fun r3 H3 s3 n3=>?_⟩;walk_at "w";refine ⟨_,_,_,_,rfl,hr.same s3,n3,Ku h1 h2 hz i hkj,JU (h1.one (getD_mem ix)) (h2.one (getD_mem iy)) hkj,fun r4 H4 s4 n4=>?_⟩;walk_at "w";exact ⟨(s.trans s3).trans s4,_,_,rfl,by rw[BG ix iy];exact n4⟩
  ·rintro σ' H' ⟨s,r,v,rfl,hr⟩;rw[aH (by lia),aH (by lia)] at hr;obtain ⟨t,rfl,ht⟩:=hr;walk_at "w";exact kk _ H' s ⟨t,rfl,ht⟩
theorem cL:aW ["_law_parts_here","_law_steps","_law_move_here","_law_put","_law_look","_law_n","_law_rows","_law_found","_law_t"] ["_law_parts_here","_law_steps"] (av eh):=by walk_at "d"
theorem wF (T:Txt K mg Z):cI P w K mg base gF 4 Z.iD Z.iu ["_law_parts_here","_law_steps"] (Jn K):=by
 refine T.ku.ok cL (fun vs H Q E h=>?_) (fun cdv A outer s H vs Q E hr h=>?_)
 ·obtain ⟨r,tt,H0,mv,pt,lk,rfl,hT,PQ,SM,k⟩:=h;rfl
 ·obtain ⟨r,tt,H0,mv,pt,lk,rfl,hT,PQ,SM,k⟩:=h
  refine ⟨_,(au (fq (pv 0) (vH rfl (cu (aM (i:=2) cL.nd rfl (Or.inr rfl) (Or.inl rfl)) (cu (aM (i:=3) cL.nd) (cu (aM (i:=4) cL.nd) ik)))))
   (au (bf (i:=5) cL.nd rfl (Or.inr rfl) (bY bL (by rfl) T.len bG (ae (pv 2) aj)))
   (au (ky 6 ["_law_row_here"] [] [] cL.nd rfl rfl (cM (pv 4)) (fun _=>(aM (i:=0) (show List.Nodup (α:=PySem.Str) ["_law_row_here"] by decide +kernel))) (fun _=>cJ) (fun _=>(jo (kN K (by rfl)) (by rfl) T.list PyProof.Rows.boot_list (ae (pv 0) aj))))
   (au (bf (i:=7) cL.nd rfl (Or.inl rfl) (eI aj))
   (au (eF PassesOwn.never rfl (cv rfl T.range (ae (pv 1) aj)) (aM (i:=8) cL.nd)
    (au (jF (yj cW OM OL Bt (pv 7) (ae (pv 6) aj)))
   (ay (ky 6 ["_law_row_here"] ["_law_n","_law_move_here"] [5,2] cL.nd rfl rfl (cM (pv 6)) (fun _=>(aM (i:=0) (show List.Nodup (α:=PySem.Str) ["_law_row_here","_law_n","_law_move_here"] by decide +kernel) rfl (Or.inr rfl) (Or.inl rfl))) (fun _=>cJ) (fun _=>(cE ["_law_j"] ["_law_row_here","_law_n","_law_move_here"] [0,1,2] (cv rfl T.range (ae (pv 1) aj)) (fun _=>(aM (i:=0) (show List.Nodup (α:=PySem.Str) ["_law_j","_law_row_here","_law_n","_law_move_here"] by decide +kernel) rfl (Or.inr rfl) (Or.inl rfl))) (fun _=>cJ) (fun _=>(cO (DR T) hr T.yr T.vY.kp T.Av (ae (pv 1) (ae (cE ["_law_i"] ["_law_move_here","_law_j"] [3,0] (cv rfl T.range (ae (pv 2) aj)) (fun _=>(aM (i:=0) (show List.Nodup (α:=PySem.Str) ["_law_i","_law_move_here","_law_j"] by decide +kernel))) (fun _=>cJ) (fun _=>(aV (fM K (by rfl)) (aV (fM K (by rfl)) (pv 1) (pv 0)) (pv 2)))) aj))))))))))
   (ay (aZ (pv 7)))))))),?_⟩
  refine aO (σ:=[some (.ref r),some (.int tt),none,none,none,none,none,none,none]) rfl ?_;have D:=SM.D;have d8:=D.n8;have n5:=SM.n5;have o4:=D.o4;have et:(bO mv mv.length).length=mv.length:=ck;obtain ⟨m,p,l,g,n1,n2,n3,Gm,Gp,Gl⟩:=id PQ;obtain ⟨um,gm,qm,_⟩:=id Gm;obtain ⟨ul,gl,ql,_⟩:=id Gl;have lum:=qm.length;have lul:=ql.length;walk_at "w";refine ⟨_,_,rfl,.inl (bM.of gm),?_⟩;rw[<- lum];walk_at "w";refine ⟨⟨_,bM.of gl⟩,?_⟩;refine eN (K:=K) (F:=cS K H0) (cS K H) id gl ql (by lia) (fun a b=>a.same b) (fun a b=>a.same b) ?_ ?_
  ·rintro i ns x H' NY NN en s ⟨u,rfl,_,zs,gz,qz⟩ k1;walk_at "w";refine ⟨u,zs,rfl,.inl (bM.of gz),fun l1 hl1=>?_⟩;exact k1 _ _ (aE.new hl1) ⟨l1,rfl,s.none hl1,zs,aF,Paired.imp' (fun _ _ z=>z.same (aE.new hl1)) qz⟩
  rintro ys1 H1 rq1 hr1 s1 g1 pr1 nx1;rw[sG] at pr1 nx1;have G1:bB K H H1 rq1 lk:=⟨ys1,g1,pr1,mo nx1⟩;walk_at "w";refine dk fun fd H2 s2 nf gf=>?_
  have s02:=s1.trans s2;have nf0:H fd=none:=s1.none nf;obtain ⟨Hz,eHz⟩:∃Hz,Hz=upd H fd (.lst []):=⟨_,rfl⟩;have zl:Hz fd≠none:=by rw[eHz,aF];exact fun z=>nomatch z
  have zn:∀q,Hz q=none->H q=none/\q≠fd:=fun q h=>by
   have ne:q≠fd:=fun z=>zl (by rw[<- z];exact h)
   rw[eHz,br ne] at h;exact ⟨h,ne⟩
  have nz:∀q,H q=none->q≠fd->Hz q=none:=fun q h ne=>by rw[eHz,br ne];exact h
  clear eHz;have rf1:rq1≠fd:=fun z=>by rw[z,nf] at g1;cases g1
  have G2:bB K Hz H2 rq1 lk:=⟨ys1,s2 _ _ g1,Paired.imp' (fun _ _ ⟨q,a,b,c⟩=>⟨q,a,nz q b (fun z=>by obtain ⟨_,gg,_⟩:=c;rw[z,nf] at gg;cases gg),cK.same c s2⟩) pr1,mo nx1⟩
  have powl:∀t,∀ns∈lk.map (jw (bO mv mv.length) t),ns.length=mv.length:=fun t ns hn=>by
   obtain ⟨y,hy,rfl⟩:=aB.mp hn;have:=ug (mv:=bO mv mv.length) (st:=y) (by rw[et];exact D.lw y hy) t;rw[this,et]
  walk_at "w";refine ⟨by lia,by lia,?_⟩;refine eH (n:=tt) (fun t σ' H'=>aE H H'/\∃rq us y,σ'=[some (.ref r),some (.int tt),some (.ref m),some (.ref p),some (.ref l),some (.int mv.length),some (.ref rq),some (.ref fd),y]/\rq≠fd/\H' fd=some (.lst us)/\Paired (cS K Hz H') (dq (bO mv mv.length) lk t) us/\bB K Hz H' rq (lk.map (jw (bO mv mv.length) t))) ⟨s02,rq1,[],_,rfl,rf1,gf,.nil,by rw[show lk.map (jw (bO mv mv.length) 0)=lk from sG lk];exact G2⟩ ?_ ?_
  ·rintro t σ' H' ht ⟨s',rq,us,y,rfl,rf,gu,pu,Gq⟩;obtain ⟨zs,gz,qz,_⟩:=id Gq;have lz:=qz.length;rw[ag] at lz;have lu:=pu.length;rw[wQ] at lu;have lb:t*lk.length<=3*4:=bH (by lia) o4;walk_at "w";refine ⟨.inl ⟨rfl,_,bM.of gu⟩,?_⟩;walk_at "w";refine ⟨fd,rq,us,zs,rfl,rfl,gu,gz,aR (bE (by lia)),?_⟩;have s2':aE H (upd H' fd (.lst (us++zs))):=s'.after nf0;have g2':(upd H' fd (.lst (us++zs))) fd=some (.lst (us++zs)):=aF
   have p2':Paired (cS K Hz (upd H' fd (.lst (us++zs)))) (dq (bO mv mv.length) lk (t+1)) (us++zs):=by
    rw[<- uD,C3,t7,uD];have:[lk.map (jw (bO mv mv.length) t)].flatten=lk.map (jw (bO mv mv.length) t):=by simp
    rw[this];exact bZ (Paired.imp' (fun _ _ z=>cS.updL z gu zl) pu) (Paired.imp' (fun _ _ z=>cS.updL z gu zl) qz)
   have gz2:(upd H' fd (.lst (us++zs))) rq=some (.lst zs):=by rw[br rf];exact gz
   have qz2:Paired (cS K Hz (upd H' fd (.lst (us++zs)))) (lk.map (jw (bO mv mv.length) t)) zs:=Paired.imp' (fun _ _ z=>cS.updL z gu zl) qz;generalize upd H' fd (.lst (us++zs))=H3 at s2' g2' p2' gz2 qz2 ⊢;have gm3:=s2' _ _ gm;have qm3:Paired (cS K H0 H3) mv um:=Paired.imp' (fun _ _ z=>cS.same z s2') qm;walk_at "w";refine ⟨⟨_,bM.of gz2⟩,?_⟩;refine eN (K:=K) (F:=cS K Hz) (cS K Hz) (qD (bO mv mv.length)) gz2 qz2 (by rw[ag];lia) (fun a b=>a.same b) (fun a b=>a.same b) ?_ ?_
   ·rintro i ns v Ha NY NN en sa ⟨u,rfl,_,Ru⟩ k1;have mn:=aw en;have wn:=powl t ns mn;walk_at "w";refine ⟨by lia,by lia,?_⟩;refine gC (n:=mv.length) (cw K) (fun j=>d5 ns (mv.map fun xs=>xs.getD j 0)) (by lia) (fun a b=>a.same b) ?_ ?_
    ·rintro j Hb NY2 NN2 hj sb k2;have sab:=sa.trans sb;walk_at "w";refine ⟨by lia,by lia,?_⟩;refine gC (n:=mv.length) (cw K) (fun i=>(mv.getD i []).getD j 0) (by lia) (fun a b=>a.same b) ?_ ?_
     ·rintro i2 Hc NY3 NN3 hi2 sc k3;have sac:=sab.trans sc;obtain ⟨xr,vr,er,evr,mr,qr,rfl,_,Rr⟩:=fH (Paired.imp' (fun _ _ z=>cS.same z sac) qm3) hi2;have wr:=D.mw xr mr;obtain ⟨ws,gw,qw⟩:=id Rr;obtain ⟨vx,ex,nx⟩:=D7 qw (j:=j) (by lia);have e:(mv.getD i2 []).getD j 0=xr.getD j 0:=by rw[aa (l:=mv),er];rfl
      walk_at "w";refine b5 (bM.of (sac _ _ gm3)) (dQ evr) ?_;walk_at "w";refine b5 (bM.of gw) ex ?_;exact k3 _ _ (aE.refl _) (by rw[e];exact nx)
     ·rintro ys Hc cq hcq sc gc prc _
      have ecol:(List.range mv.length).map (fun i=>(mv.getD i []).getD j 0)=mv.map fun xs=>xs.getD j 0:=by
       apply di (by rw[ag,ag,cy]);intro i h1 h2;rw[eC,eC,nK];rw[ag] at h2;rw[aa (l:=mv),af h2];rfl
      rw[ecol] at prc;have Rc:cK K Hc cq (mv.map fun xs=>xs.getD j 0):=⟨ys,gc,prc⟩;walk_at "w";refine ⟨u,cq,ns,_,rfl,cK.same Ru (sb.trans sc),Rc,by rw[ag,wn],by lia,?_,fun d1 Hd sd Nd=>?_⟩
      ·have fn:∀x∈ns,Fr (2520^4) (2^(16*4)) x:=fun x hx=>by
        have SMt:=SM.turn;have f:=xS (c:=16) rfl SMt.D.mw SMt.D.pw (ah (aJ 6561 (show (bO mv mv.length).length+1<=6 by lia)) (by decide)) SMt.gm SMt.gp (t+1) ns (KN mn) x hx;exact Fr.up f (AE _ (by lia)) (ak (by decide) (by lia))
       have fc:∀x∈mv.map fun xs=>xs.getD j 0,Fr 2520 6561 x:=fun x hx=>by
        obtain ⟨xs,hxs,rfl⟩:=aB.mp hx;have:=PD SM.gm;rw[aa];cases e:xs[j]? with
        | none=>exact Fr.zero
        | some z=>exact SM.gm xs hxs z (aw e)
       exact ⟨48,64,12,13,⟨_,_,by decide,by decide,ar _,fn⟩,⟨_,_,by decide,by decide,by decide,fc⟩,by decide⟩
      ·exact k2 _ _ (sc.trans sd) Nd
    ·rintro ys Hb rr hrr sb gb prb _
     have eo:(List.range mv.length).map (fun j=>d5 ns (mv.map fun xs=>xs.getD j 0))=qD (bO mv mv.length) ns:=by
      unfold qD bO;rw[pC];refine De fun j _=>?_
      show d5 ns _=d5 _ ns
      exact Ec (by rw[ag,wn])
     rw[eo] at prb;exact k1 _ _ sb ⟨rr,rfl,nz rr (s2'.none (sa.none hrr)) (fun z=>by have:=sa _ _ g2';rw[z,this] at hrr;cases hrr),ys,gb,prb⟩
   ·rintro ys Hb rr hrr sb gb prb nxb;have e:(lk.map (jw (bO mv mv.length) t)).map (qD (bO mv mv.length))=lk.map (jw (bO mv mv.length) (t+1)):=by rw[pC];rfl
    rw[e] at prb nxb;exact ⟨s2'.trans sb,rr,_,_,rfl,fun z=>(by rw[z,g2'] at hrr;cases hrr),sb _ _ g2',Paired.imp' (fun _ _ z=>cS.same z sb) p2',ys,gb,prb,mo nxb⟩
  ·rintro σ' H' ⟨s',rq,us,y,rfl,rf,gu,pu,Gq⟩;walk_at "w";refine k fd H' nf0 s' ⟨us,gu,Paired.imp' (fun _ _ ⟨q,a,b,c⟩=>⟨q,a,(zn q b).1,c⟩) pu,fun z=>?_⟩;obtain ⟨_,_,q,e,h,_⟩:=dB pu z;cases e;exact zl h
theorem Cn:aW ["lists","joined","each"] ["lists"] (av xJ):=by walk_at "d"
theorem L6 (T:Txt K mg Z):cI P w K mg base gF 1 Z.C4 Z.CU ["lists"] (Js K):=by
 refine T.FC.ok Cn (fun vs H Q E h=>?_) (fun cdv A outer s H vs Q E hr h=>?_)
 ·obtain ⟨p,xs,Rs,rfl,gx,qx,hl,k⟩:=h;rfl
 ·obtain ⟨p,xs,Rs,rfl,gx,qx,hl,k⟩:=h
  refine ⟨_,(au (bf (i:=1) Cn.nd rfl (Or.inl rfl) (eI aj))
   (au (eF PassesOwn.never rfl (cM (pv 0)) (aM (i:=2) Cn.nd)
    (ay (jF (yj cW OM OL Bt (pv 1) (ae (pv 2) aj)))))
   (ay (aZ (pv 1))))),?_⟩
  refine aO (σ:=[some (.ref p),none,none]) rfl ?_;have lx:=qx.length;walk_at "w";refine dk fun j H1 s1 n1 g1=>?_
  walk_at "w";refine ⟨⟨_,bM.of (s1 _ _ gx)⟩,?_⟩;refine lS (K:=K) (a:=p) (xs:=xs) (fun i σ' H'=>aE H H'/\∃(us:List V) (x:Option V),σ'=[some (.ref p),some (.ref j),x]/\H' j=some (.lst us)/\Paired (cS K (AX j) H') (Rs.take i).flatten us) ⟨s1,[],none,rfl,g1,.nil⟩ (fun i σ' H' _ ⟨s,_⟩=>bM.of (s _ _ gx)) ?_ ?_
  ·rintro i x σ' H' hx ⟨s,us,y,rfl,gj,pr⟩;obtain ⟨qs,eq,q,rfl,_,Gq⟩:=cm qx hx;obtain ⟨qj,zs,gz,qz,_⟩:=Gq.off n1;have lz:=qz.length;have lu:=pr.length;have tl:(Rs.take (i+1)).flatten=(Rs.take i).flatten++qs:=by rw[take_snoc eq,t7];simp
   have bl:(Rs.take i).flatten.length+qs.length<=1000:=by
    have e:Rs.flatten=(Rs.take (i+1)).flatten++(Rs.drop (i+1)).flatten:=by rw[<- t7,List.take_append_drop]
    rw[e,tl,ai,ai] at hl
    lia
   walk_at "w";refine ⟨.inl ⟨rfl,_,bM.of gj⟩,?_⟩;walk_at "w";refine ⟨j,q,us,zs,rfl,rfl,gj,s _ _ gz,aR (bE (by lia)),?_⟩;refine ⟨s.after n1,_,_,rfl,aF,?_⟩;rw[tl];exact bZ (Paired.imp' (fun _ _ z=>cS.updL z gj off_ne) pr) (Paired.imp' (fun _ _ z=>cS.updL (cS.same z s) gj off_ne) qz)
  ·rintro σ' H' ⟨s,us,y,rfl,gj,pr⟩;rw[aH (by lia)] at pr;walk_at "w";refine k j (AX j) H' n1 s ⟨us,gj,pr,fun z=>?_⟩;obtain ⟨_,_,q,e,h,_⟩:=dB pr z;cases e;exact off_ne h
theorem jC:aW ["system","steps","lists","rows","step"] ["system","steps"] (av je):=by walk_at "d"
theorem Cy (T:Txt K mg Z):cI P w K mg base gF 7 Z.oZ Z.oJ ["system","steps"] (Jv K Z.a_System):=by
 refine T.tT.ok jC (fun vs H Q E h=>?_) (fun cdv A outer s H vs Q E hr h=>?_)
 ·obtain ⟨x,u,a,c,H0,mv,pt,lk,rfl,hu,S,D,F,k⟩:=h;rfl
 ·obtain ⟨x,u,a,c,H0,mv,pt,lk,rfl,hu,S,D,F,k⟩:=h
  refine ⟨_,(au (bf (i:=2) jC.nd rfl (Or.inl rfl) (eI aj))
   (au (bf (i:=3) jC.nd rfl (Or.inl rfl) (eV (pv 0) rfl))
   (au (eF PassesOwn.never rfl (cv rfl T.range (ae (pv 1) aj)) (aM (i:=4) jC.nd)
    (au (jF (yj cW gQ gP qf (pv 2) (ae (pv 3) aj)))
   (ay (bf (i:=3) jC.nd rfl (Or.inl rfl) (cO (u0 T) hr T.pL T.m6.kp T.rC (ae (pv 0) (ae (pv 3) aj)))))))
   (ay (aZ (pv 2)))))),?_⟩
  refine aO (σ:=[some (.ref x),some (.int u),none,none,none]) rfl ?_;obtain ⟨dx,a',b',c',gx,_,_,_,Ga,Gb,Gc⟩:=id S;have d8:=D.n8;have i4:=D.i4;walk_at "w";refine dk fun l H1 s1 n1 g1=>?_
  walk_at "w";refine ⟨x,Z.a_System,dx,_,_,rfl,s1 _ _ gx,T.cl_System,T.na_put,yO,?_⟩;walk_at "w";obtain ⟨bl,G0⟩:=Gb.off n1;have G1:=G0.same s1;refine ⟨by lia,by lia,?_⟩;refine eH (n:=u) (fun i σ' H'=>aE H H'/\∃q us y,σ'=[some (.ref x),some (.int u),some (.ref l),some (.ref q),y]/\q≠l/\H' l=some (.lst us)/\Paired (IL K l H') (IG mv pt i) us/\bB K (AX l) H' q (pt.map (jw mv i))) ⟨s1,b',[],_,rfl,bl,g1,.nil,by rw[show pt.map (jw mv 0)=pt from sG pt];exact G1⟩ ?_ ?_
  ·rintro i σ' H' hi ⟨s',q,us,y,rfl,ql,gu,pu,Gq⟩;have lu:=pu.length;have la:(IG mv pt i).length=i:=by unfold IG;rw[ag,cy]
   walk_at "w";refine ⟨.inl ⟨rfl,_,bM.of gu⟩,?_⟩;walk_at "w";refine p8 gu (bE (by lia)) ?_;have s2:aE H (upd H' l (.lst (us++[V.ref q]))):=s'.after n1;have g2:(upd H' l (.lst (us++[V.ref q]))) l=some (.lst (us++[V.ref q])):=aF
   have p2:Paired (IL K l (upd H' l (.lst (us++[V.ref q])))) (IG mv pt (i+1)) (us++[V.ref q]):=by
    rw[C3];exact bZ (Paired.imp' (fun _ _ z=>IL.upd z gu) pu) (.cons ⟨q,rfl,ql,Gq.updL gu off_ne ql⟩ .nil)
   have Gq2:=Gq.updL (o:=.lst (us++[V.ref q])) gu off_ne ql;generalize upd H' l (.lst (us++[V.ref q]))=H2 at s2 g2 p2 Gq2 ⊢;walk_at "w";refine ⟨x,q,H0,AX l,mv,pt,lk,_,rfl,S.same s2,D,Gq2,by rw[ag];lia,fun r hr=>?_,F.fitP D.mw D.pw (by lia),fun r H3 nr s3 G3=>?_⟩
   ·obtain ⟨y,hy,rfl⟩:=aB.mp hr;exact ug (D.pw y hy) i
   ·have e:(pt.map (jw mv i)).map (qD mv)=pt.map (jw mv (i+1)):=by rw[pC];rfl
    rw[e] at G3;exact ⟨s2.trans s3,r,_,_,rfl,fun z=>(by rw[z,g2] at nr;cases nr),s3 _ _ g2,Paired.imp' (fun _ _ z=>IL.same z s3) p2,G3.weakN fun q h=>JR fun z=>by rw[z,g2] at h;cases h⟩
  ·rintro σ' H' ⟨s',q,us,y,rfl,ql,gu,pu,Gq⟩;walk_at "w";exact k l us H' n1 s' gu pu
theorem AL:aW ["many"] ["many"] (av h8):=by walk_at "d"
theorem kz (T:Txt K mg Z):cI P w K mg base gF 1 Z.mU Z.mL ["many"] (Nv K):=by
 refine T.iE.ok AL (fun vs H Q E h=>?_) (fun cdv A outer s H vs Q E hr h=>?_)
 ·obtain ⟨m,rfl,hm,k⟩:=h;rfl
 ·obtain ⟨m,rfl,hm,k⟩:=h;refine ⟨_,(ay (aZ (cE ["place"] [] [] (cv rfl T.range (ae (pv 0) aj)) (fun _=>(aM (i:=0) (show List.Nodup (α:=PySem.Str) ["place"] by decide +kernel))) (fun _=>cJ) (fun _=>(mE (v:=.ref Z.a_NOUGHT) rfl T.mg_NOUGHT rfl))))),?_⟩;refine aO (σ:=[some (.int m)]) rfl ?_;walk_at "w";refine ⟨by lia,by lia,?_⟩;refine gC (n:=m) (cw K) (fun _=>0) (by lia) (fun a b=>a.same b) ?_ ?_
  ·rintro i Ha NY NN hi sa k1;walk_at "w";exact k1 _ _ (aE.refl _) ⟨_,rfl,T.sq_NOUGHT _⟩
  ·rintro ys H1 t ht s1 g1 pr _;exact k t H1 ht s1 ⟨ys,g1,by rw[<- JY];exact pr⟩
theorem pY:aW ["rows","wide","due","found","answer","line","lead"] ["rows","wide","due"] (av pZ):=by walk_at "d"
theorem Bp (T:Txt K mg Z):cI P w K mg base gF 5 Z.xn Z.wY ["rows","wide","due"] (EF K):=by
 refine T.xv.ok pY (fun vs H Q E h=>?_) (fun cdv A outer s H vs Q E hr h=>?_)
 ·obtain ⟨p,q,n,w,H0,rows,due,rfl,G,Rd,hd,m99,n99,hw,F,k1,k2⟩:=h;rfl
 ·obtain ⟨p,q,n,w,H0,rows,due,rfl,G,Rd,hd,m99,n99,hw,F,k1,k2⟩:=h
  refine ⟨_,(au (bf (i:=3) pY.nd rfl (Or.inl rfl) (cO (DP T) hr T.z9 T.ze.kp T.C0 (ae (cE ["row","wanted"] [] [] (qN rfl T.zip (ae (pv 0) (ae (pv 2) aj))) (fun _=>(qO K 2 (cu (aM (i:=0) (show List.Nodup (α:=PySem.Str) ["row","wanted"] by decide +kernel)) (cu (aM (i:=1) (show List.Nodup (α:=PySem.Str) ["row","wanted"] by decide +kernel)) ik)))) (fun _=>cJ) (fun _=>(bC pJ (pv 0) (eI (ae (pv 1) aj))))) (ae (bC eX (pv 1) ao) aj))))
   (au (dm (bw Ia (pv 1) (aV b4 (pv 3) ao) (by with_unfolding_all rfl)) (ay (aZ Cs)) b9)
   (au (bf (i:=4) pY.nd rfl (Or.inl rfl) (cO (kz T) hr T.iG T.iE.kp T.jP (ae (pv 1) aj)))
   (au (eF PassesOwn.never rfl (qN rfl T.zip (ae (aV b4 (pv 3) ao) (ae (aV b4 (pv 3) ao) aj))) (vH rfl (cu (aM (i:=5) pY.nd) (cu (aM (i:=6) pY.nd) ik)))
    (ay (fq (cO (uh T) hr T.qg T.qB.kp T.tI (ae (aV bI (pv 5) (pv 1)) (ae (aV bI (pv 5) (pv 6)) aj))) (gR (pv 4) (pv 6) set_list))))
   (ay (aZ (pv 4))))))),?_⟩
  refine aO (σ:=[some (.ref p),some (.int n),some (.ref q),none,none,none,none]) rfl ?_;obtain ⟨xs,gx,qx,_⟩:=id G;obtain ⟨ds,gd,qd⟩:=id Rd;have lx:=qx.length;have ld:=qd.length;have lj:=Aj hd;walk_at "w";refine ⟨⟨_,bM.of gx⟩,⟨_,bM.of gd⟩,?_⟩;refine tF (K:=K) (xs:=xs) (ws:=ds) (fun i ys H'=>aE H H'/\Paired (cS K H H') ((dW rows due).take i) ys) (aR (bE (by lia))) (by lia) ⟨aE.refl _,.nil⟩ (fun i ys H' _ ⟨s,_⟩=>⟨bM.of (s _ _ gx),bM.of (s _ _ gd)⟩) ?_ ?_
  ·rintro i v1 v2 ys H' r h1 h2 hy ⟨s,pr⟩ hr;obtain ⟨row,er,u,rfl,_,Ru⟩:=cm qx h1;obtain ⟨d,ed,nd⟩:=cm qd h2;have wr:=hw row (aw er);have sr:aE H' (upd H' r (.tup [.ref u,v2])):=aE.new hr;have gr:(upd H' r (.tup [.ref u,v2])) r=some (.tup [.ref u,v2]):=aF;generalize upd H' r (.tup [.ref u,v2])=H2 at sr gr ⊢;have s2:=s.trans sr;walk_at "w";refine dk fun l1 H3 s3 n3 g3=>?_
   have s23:=s2.trans s3;obtain ⟨zs,gz,qz⟩:=Ru.same s23;have lz:=qz.length;walk_at "w";refine pG gz g3 (aR (bE (by rw[aU];lia))) fun l2 H4 s4 n4 g4=>?_
   refine ⟨s23.trans s4,?_⟩;rw[take_snoc (MR er ed)];exact bZ (Paired.imp' (fun _ _ z=>cS.same z ((sr.trans s3).trans s4)) pr) (.cons ⟨l2,rfl,s23.none n4,_,g4,Paired.imp' (fun _ _ z=>cw.same z s4) (bZ qz (.cons (nd.same s23) .nil))⟩ .nil)
  rintro ys H1 hy ⟨s1,pr⟩ l hl;have sn:aE H1 (upd H1 l (.lst ys)):=aE.new hl;have gn:(upd H1 l (.lst ys)) l=some (.lst ys):=aF;rw[aH (by lia)] at pr;generalize upd H1 l (.lst ys)=H2 at sn gn ⊢;have GJ:bB K H H2 l (dW rows due):=xV pr sn hl gn;have s02:=s1.trans sn;walk_at "w";rw[show ((n:Int)+1)=((n+1:Nat):Int) by lia];refine ⟨l,n+1,w,H,_,rfl,GJ,by lia,by lia,Me hw,F,fun t lp qp R ps d ls H3 gt gq GZ s3 S=>?_⟩;have s03:=s02.trans s3;have pn:=S.rr.le;walk_at "w";refine ⟨qp,dH ps,rfl,.inl (bM.of gq),rfl,Bs,?_⟩;rw[D9];by_cases hn:n∈ps
  ·rw[decide_eq_true hn,show (if false=true then !true else true)=true from rfl];walk_at "w";exact k2 R ps H3 S.rr hn s03
  ·rw[decide_eq_false hn,show (if false=true then !false else false)=false from rfl];obtain ⟨lR,wR,rr⟩:=id S.rr;obtain ⟨_,zs,gz,qz⟩:=id GZ;have lz:=qz.length;have hl':=S.len
   have low:∀j,j < ps.length->ps.getD j 0 < n:=fun j hj=>by
    have:=rr.low j hj;have:ps.getD j 0≠n:=fun z=>hn (by rw[<- z];exact getD_in hj)
    lia
   obtain ⟨_,_,_,_,_,_,_,_,_,e89⟩:=id F;rw[lj] at e89;have dsz:Sz 8999 d:=aY S.dsz (dC (by decide) (by rw[lj];lia));have lps:=wG (ps:=ps);walk_at "w";refine ⟨n,rfl,by lia,fun an H4 na s4 R4=>?_⟩;rw[<- Lm (R:=R) (ps:=ps)] at R4;obtain ⟨vs0,g0,q0⟩:=id R4;have gt4:=s4 _ _ gt;walk_at "w";refine ⟨⟨_,bM.of (s4 _ _ gz)⟩,⟨_,bM.of (s4 _ _ gq)⟩,?_⟩;refine Gx (K:=K) (xs:=zs) (ws:=dH ps) (fun j σ' H'=>aE H3 H'/\∃y1 y2 vs,σ'=[some (.ref p),some (.int n),some (.ref q),some (.ref t),some (.ref an),y1,y2]/\H' an=some (.lst vs)/\Paired (cw K H') (v9 R ps n j) vs) (by lia) ⟨s4,_,_,vs0,rfl,g0,q0⟩ (fun j σ' H' _ ⟨e,_⟩=>⟨bM.of (e _ _ gz),bM.of (e _ _ gq)⟩) ?_ ?_
   ·rintro j v1 v2 σ' H' r h1 h2 ⟨s',y1,y2,vs,rfl,ga,qa⟩ hr;obtain ⟨line,el,u,rfl,_,gu⟩:=cm qz h1;have wl:=S.wide line (aw el);obtain ⟨pj,ej,rfl⟩:=CD h2;have hj:j < ps.length:=(aA.mp ej).1;have ejD:ps.getD j 0=pj:=by rw[aa,ej];rfl
    have pjn:=low j hj;rw[ejD] at pjn;have v0:=S.val j n;rw[IU el] at v0
    have ed:line.getD pj 0=d:=by
     have h:=S.val j pj;rw[IU el] at h;have u:=rr.unit j hj j hj;rw[if_pos rfl,ejD] at u;rw[u,Rat.mul_one] at h;exact dd.mp h
    have sr:aE H' (upd H' r (.tup [.ref u,.int pj])):=aE.new hr;have gr:(upd H' r (.tup [.ref u,.int pj])) r=some (.tup [.ref u,.int pj]):=aF;generalize upd H' r (.tup [.ref u,.int pj])=H5 at sr gr ⊢;have gu5:=(s'.trans sr) _ _ gu;walk_at "w";refine b5 (bM.of gu5) (zo (by lia)) ?_;walk_at "w";refine b5 (bM.of gu5) (zo (by lia)) ?_;rw[ed];walk_at "w";refine ⟨_,d,rfl,S.d0,dsz,fun r6 H6 s6 g6=>?_⟩;have d0:(d:Rat)≠0:=fun z=>S.d0 (tG z)
    have n6:cw K H6 (bD R j n) (.ref r6):=by
     refine cw.mk g6 ?_;rcases Int.lt_or_lt_of_ne S.d0 with hd' | hd'
     ·rw[if_pos hd',if_pos hd'];refine mJ (by lia) ?_;rw[cP,cP,v0];grind
     ·rw[if_neg (by lia),if_neg (by lia)];refine mJ hd' ?_;rw[v0];grind
    have ga6:=(sr.trans s6) _ _ ga;have la:=qa.length;rw[nP] at la;walk_at "w";refine eO ga6 (ff (by lia)) rfl ?_;refine ⟨((s'.trans sr).trans s6).after na,_,_,_,rfl,aF,?_⟩;rw[<- Ln S.rr hj,ejD];exact kb (Paired.imp' (fun _ _ z=>(cw.same z (sr.trans s6)).updL ga6) qa) pj (n6.updL ga6)
   ·rintro σ' H' ⟨s',y1,y2,vs,rfl,ga,qa⟩;rw[show zs.length=ps.length by lia] at qa;walk_at "w";refine k1 an R ps d.natAbs H' S.rr hn (s03.none na) (s03.trans s') ⟨vs,ga,qa⟩ (by have:=S.d0;lia) (by rw[<- lj];exact S.dsz) ?_;rw[<- lj];exact O5 (by have:=S.d0;lia) S.tp S.rr
theorem zD:aW ["rows","wide","due","answer","columns"] ["rows","wide","due"] (av t9):=by walk_at "d"
theorem JP (T:Txt K mg Z):cI P w K mg base gF 6 Z.y9 Z.yY ["rows","wide","due"] (Ht K):=by
 refine T.C8.ok zD (fun vs H Q E h=>?_) (fun cdv A outer s H vs Q E hr h=>?_)
 ·obtain ⟨p,q,n,w,w1,H0,rows,due,rfl,G,Rd,hd,m90,n90,hw,F,F1,k1,k2⟩:=h;rfl
 ·obtain ⟨p,q,n,w,w1,H0,rows,due,rfl,G,Rd,hd,m90,n90,hw,F,F1,k1,k2⟩:=h
  refine ⟨_,(au (bf (i:=3) zD.nd rfl (Or.inl rfl) (cO (Bp T) hr T.xQ T.xv.kp T.Au (ae (pv 0) (ae (pv 1) (ae (pv 2) aj)))))
   (au (dm (bw FT (pv 3) Cs (bK _)) (ay (aZ (dA (ae ka (ae (pv 3) aj))))) b9)
   (au (bf (i:=4) zD.nd rfl (Or.inl rfl) (cO (jI T) hr T.gX T.gE.kp T.iI (ae (pv 0) (ae (pv 1) aj))))
   (ay (aZ (dA (ae ka (ae (cO (Bp T) hr T.xQ T.xv.kp T.Au (ae (bC pJ (pv 4) (eI (ae (pv 2) aj))) (ae (bY bL (by rfl) T.len bG (ae (pv 0) aj)) (ae (bC pJ (cO (kz T) hr T.iG T.iE.kp T.jP (ae (pv 1) aj)) (eI (ae (mE (v:=.ref Z.a_ONE) rfl T.mg_ONE rfl) aj))) aj)))) aj)))))))),?_⟩
  refine aO (σ:=[some (.ref p),some (.int n),some (.ref q),none,none]) rfl ?_;walk_at "w";refine ⟨p,q,n,w,H0,rows,due,rfl,G,Rd,hd,by lia,by lia,hw,F,fun x R ps M H1 RR hn nx s1 Rx M0 M1 tM=>?_,fun R ps H1 RR hn s1=>?_⟩
  ·walk_at "w";refine ⟨rfl,_,rfl,?_⟩;rw[show decide (V.ref x=V.non)=false from decide_eq_false (fun z=>nomatch z)];walk_at "w";refine cD fun t H2 s2 g2=>?_
   exact k1 t x R ps M H2 RR hn g2 nx (s1.trans s2) (Rx.same s2) M0 M1 tM
  ·walk_at "w";refine ⟨rfl,_,rfl,?_⟩;rw[show decide (V.non=V.non)=true from decide_eq_true rfl];walk_at "w";refine ⟨p,n,H0,rows,rfl,G.same s1,by lia,by lia,hw,fun co H2 nc s2 G2=>?_⟩;have s02:=s1.trans s2;walk_at "w";refine dk fun l3 H3 s3 n3 g3=>?_
   obtain ⟨cs,gc,qc,_⟩:=G2.same s3;have lc:=qc.length;rw[ck] at lc;walk_at "w";refine pG gc g3 (aR (bE (by rw[aU];lia))) fun l4 H4 s4 n4 g4=>?_
   have s03:=s02.trans s3;have s04:=s03.trans s4;have G4:bB K (fun _=>none) H4 l4 (bO rows n++[due]):=xV (H:=H3) (bZ (Paired.imp' (fun _ _ ⟨q',a,_,c⟩=>⟨q',a,rfl,c⟩) qc) (.cons ⟨q,rfl,rfl,Rd.same s03⟩ .nil)) s4 n4 g4;obtain ⟨xs,gx,qx,_⟩:=G.same s04;have lx:=qx.length;walk_at "w";refine ⟨_,_,rfl,.inl (bM.of gx),?_⟩;rw[<- lx];walk_at "w";refine ⟨n,rfl,by lia,fun l5 H5 n5 s5 R5=>?_⟩;walk_at "w";refine dk fun l6 H6 s6 n6 g6=>?_
   obtain ⟨zs,gz,qz⟩:=R5.same s6;have lz:=qz.length;rw[aG] at lz;walk_at "w";refine pG gz g6 (aR (bE (by rw[aU];lia))) fun l7 H7 s7 n7 g7=>?_
   have s47:=(s5.trans s6).trans s7;have s07:=s04.trans s47;have R7:cK K H7 l7 (List.replicate n 0++[1]):=⟨_,g7,Paired.imp' (fun _ _ z=>cw.same z s7) (bZ qz (.cons ⟨_,rfl,T.sq_ONE _⟩ .nil))⟩;have l1:(bO rows n++[due]).length=n+1:=by rw[ai,ck];rfl
   have w1':∀xs∈bO rows n++[due],xs.length=rows.length:=fun xs hx=>by
    rcases ax.mp hx with hx | hx
    ·exact ni xs hx
    ·rw[dv.mp hx];exact hd
   walk_at "w";refine ⟨l4,l7,rows.length,w1,_,_,_,rfl,G4.same s47,R7,by rw[l1,ai,aG];rfl,by lia,by lia,w1',F1,fun x R1 p1 M H8 RR1 hn1 nx s8 Rx M0 M1 tM=>?_,fun R1 p1 H8 RR1 hn1 s8=>?_⟩
   ·walk_at "w";refine cD fun t H9 s9 g9=>?_
    rw[l1] at M1 tM;exact k2 t x R ps R1 p1 M H9 RR hn RR1 hn1 g9 (s07.none nx) ((s07.trans s8).trans s9) (Rx.same s9) M0 M1 tM
   ·exact absurd hn1 (HV hd hw RR hn RR1)
theorem sQ:aW ["rows","wide","row","answer"] ["rows","wide","row"] (av fP):=by walk_at "d"
theorem zV (T:Txt K mg Z):cI P w K mg base gF 7 Z.kR Z.kB ["rows","wide","row"] (Dn K):=by
 refine T.pS.ok sQ (fun vs H Q E h=>?_) (fun cdv A outer s H vs Q E hr h=>?_)
 ·obtain ⟨p,q,n,w,w1,H0,rows,row,rfl,G,Rr,hl,m90,n90,hw,F,F1,k1,k2⟩:=h;rfl
 ·obtain ⟨p,q,n,w,w1,H0,rows,row,rfl,G,Rr,hl,m90,n90,hw,F,F1,k1,k2⟩:=h
  refine ⟨_,(au (bf (i:=3) sQ.nd rfl (Or.inl rfl) (cO (JP T) hr T.DW T.C8.kp T.GI (ae (cO (jI T) hr T.gX T.gE.kp T.iI (ae (pv 0) (ae (pv 1) aj))) (ae (bY bL (by rfl) T.len bG (ae (pv 0) aj)) (ae (pv 2) aj)))))
   (ay (aZ (dA (ae (DM (bw fw (aV b4 (pv 3) ao) ka (bK _)) ka ka) (ae (aV b4 (pv 3) ao) aj)))))),?_⟩
  refine aO (σ:=[some (.ref p),some (.int n),some (.ref q),none]) rfl ?_;walk_at "w";refine ⟨p,n,H0,rows,rfl,G,by lia,by lia,hw,fun co H1 nc s1 G1=>?_⟩;obtain ⟨xs,gx,qx,_⟩:=G.same s1;have lx:=qx.length;walk_at "w";refine ⟨_,_,rfl,.inl (bM.of gx),?_⟩;rw[<- lx];have lT:(bO rows n).length=n:=ck;have eS:Je (bO rows n) rows.length row=dW (rows++[row]) (List.replicate rows.length 0++[1]):=by unfold Je;rw[A8 hw]
  walk_at "w";refine ⟨co,q,rows.length,w,w1,_,bO rows n,row,rfl,G1,Rr.same s1,by lia,by lia,by lia,fun xs hx=>ni xs hx,F,by rw[eS,lT];exact F1,fun t x R ps M H2 RR hn g2 nx s2 Rx M0 M1 tM=>?_,fun t x R ps R1 p1 M H2 RR hn RR1 hn1 g2 nx s2 Rx M0 M1 tM=>?_⟩
  ·rw[lT] at M1 tM;walk_at "w";rw[decide_eq_true rfl];walk_at "w";refine cD fun t2 H3 s3 g3=>?_
   exact k1 t2 x R ps M H3 RR hn g3 (s1.none nx) ((s1.trans s2).trans s3) (Rx.same s3) M0 M1 tM
  ·rw[lT] at M1 tM RR1 hn1 Rx;rw[eS] at RR1;walk_at "w";rw[decide_eq_false (show ¬(Str.ofString "no"=Str.ofString "yes") by decide)];walk_at "w";refine cD fun t2 H3 s3 g3=>?_
   exact k2 t2 x R ps R1 p1 M H3 RR hn RR1 hn1 g3 (s1.none nx) ((s1.trans s2).trans s3) (Rx.same s3) M0 M1 tM
theorem Ck:aW ["one","other"] ["one","other"] (av jc):=by walk_at "d"
theorem Cv (T:Txt K mg Z):cI P w K mg base gF 4 Z.oX Z.oH ["one","other"] (Bf K):=by
 refine T.tR.ok Ck (fun vs H Q E h=>?_) (fun cdv A outer s H vs Q E hr h=>?_)
 ·obtain ⟨p,q,xq,yq,rfl,hp,hq,hl,hz,hn,hm,k⟩:=h;rfl
 ·obtain ⟨p,q,xq,yq,rfl,hp,hq,hl,hz,hn,hm,k⟩:=h;refine ⟨_,(ay (aZ (cE ["mine","yours"] [] [] (qN rfl T.zip (ae (pv 0) (ae (pv 1) aj))) (fun _=>(qO K 2 (cu (aM (i:=0) (show List.Nodup (α:=PySem.Str) ["mine","yours"] by decide +kernel)) (cu (aM (i:=1) (show List.Nodup (α:=PySem.Str) ["mine","yours"] by decide +kernel)) ik)))) (fun _=>cJ) (fun _=>(cO (DQ T) hr T.Ab T.zg.kp T.C1 (ae (pv 0) (ae (pv 1) aj))))))),?_⟩;refine aO (σ:=[some (.ref p),some (.ref q)]) rfl ?_;obtain ⟨xs,gx,qx⟩:=id hp;obtain ⟨ys,gy,qy⟩:=id hq;have lx:=qx.length;have ly:=qy.length;walk_at "w";refine ⟨⟨_,bM.of gx⟩,⟨_,bM.of gy⟩,?_⟩;refine tF (K:=K) (xs:=xs) (ws:=ys) (fun i zs H'=>aE H H'/\Paired (cw K H') ((List.zipWith (fun x y=>x - y) xq yq).take i) zs) (aR (bE (by lia))) (by lia) ⟨aE.refl _,.nil⟩ (fun i zs H' _ ⟨s,_⟩=>⟨bM.of (s _ _ gx),bM.of (s _ _ gy)⟩) ?_ ?_
  ·rintro i x y zs H' r hx hy hlen ⟨s,hP⟩ hr;obtain ⟨n,en,hn1⟩:=cm qx hx;obtain ⟨m,em,hm1⟩:=cm qy hy;have s1:=aE.new (o:=.tup [x,y]) hr;have s01:=s.trans s1;have gr:(upd H' r (.tup [x,y])) r=some (.tup [x,y]):=aF;generalize upd H' r (.tup [x,y])=Hr at s1 s01 gr ⊢;walk_at "w";refine ⟨_,_,n,m,rfl,hn1.same s01,hm1.same s01,hn n (aw en),hm m (aw em),fun r3 H3 s3 h3=>?_⟩;refine ⟨s01.trans s3,?_⟩;have ez:(List.zipWith (fun x y=>x - y) xq yq)[i]?=some (n - m):=by rw[cB,en,em]
   rw[take_snoc ez];exact bZ (Paired.imp' (fun _ _ z=>z.same (s1.trans s3)) hP) (.cons h3 .nil)
  ·rintro zs H' hy ⟨s,hP⟩ l hl';rw[aH (by rw[bN];lia)] at hP;exact k l _ (s.none hl') (s.trans (aE.new hl')) ⟨zs,aF,Paired.imp' (fun _ _ z=>z.same (aE.new hl')) hP⟩
theorem rX:aW ["self","state","puts","columns"] ["self","state","puts"] (av fo):=by walk_at "d"
theorem yG (T:Txt K mg Z):cI P w K mg base gF 5 Z.jS Z.jO ["self","state","puts"] (HD K Z.a_System):=by
 refine T.tX.ok rX (fun vs H Q E h=>?_) (fun cdv A outer s H vs Q E hr h=>?_)
 ·obtain ⟨x,p,q,H0,mv,pt,lk,st,pu,rfl,S,D,F,hp,hq,l1,l2,fs,k⟩:=h;rfl
 ·obtain ⟨x,p,q,H0,mv,pt,lk,st,pu,rfl,S,D,F,hp,hq,l1,l2,fs,k⟩:=h
  refine ⟨_,(au (bf (i:=3) rX.nd rfl (Or.inl rfl) (cO (jI T) hr T.gX T.gE.kp T.iI (ae (eV (pv 0) rfl) (ae (eV (pv 0) rfl) aj))))
   (ay (aZ (cE ["line","column"] ["state","puts"] [1,2] (qN rfl T.zip (ae (eV (pv 0) rfl) (ae (pv 3) aj))) (fun _=>(qO K 2 (cu (aM (i:=0) (show List.Nodup (α:=PySem.Str) ["line","column","state","puts"] by decide +kernel)) (cu (aM (i:=1) (show List.Nodup (α:=PySem.Str) ["line","column","state","puts"] by decide +kernel)) ik)))) (fun _=>cJ) (fun _=>(cO (zX T) hr T.vM T.uO.kp T.xY (ae (bC pJ (pv 0) (pv 1)) (ae (bC pJ (pv 2) (pv 3)) aj)))))))),?_⟩
  refine aO (σ:=[some (.ref x),some (.ref p),some (.ref q),none]) rfl ?_;obtain ⟨dx,a,b,c,gx,n1,n2,n3,Ga,Gb,Gc⟩:=id S;have d1:=D.n8;have d2:=D.i4;walk_at "w";refine ⟨x,Z.a_System,dx,_,_,rfl,gx,T.cl_System,T.na_put,yO,?_⟩;walk_at "w";refine ⟨x,Z.a_System,dx,_,_,rfl,gx,T.cl_System,T.na_states,iZ,?_⟩;walk_at "w";refine ⟨b,mv.length,H0,pt,rfl,Gb,by lia,by lia,D.pw,fun t H1 nt s1 Gt=>?_⟩;obtain ⟨as,ga,qa,_⟩:=Ga.same s1;obtain ⟨ts,gt,qt,_⟩:=id Gt;have la:=qa.length;have lt:=qt.length;rw[ck] at lt;have gx1:=s1 _ _ gx;walk_at "w";refine ⟨x,Z.a_System,dx,_,_,rfl,gx1,T.cl_System,T.na_move,zz,?_⟩;walk_at "w";refine ⟨⟨_,bM.of ga⟩,⟨_,bM.of gt⟩,?_⟩;refine tF (K:=K) (xs:=as) (ws:=ts) (fun i ys H'=>aE H1 H'/\Paired (cw K H') ((kf mv pt st pu).take i) ys) (aR (bE (by lia))) (by lia) ⟨aE.refl _,.nil⟩ (fun i ys H' _ ⟨s,_⟩=>⟨bM.of (s _ _ ga),bM.of (s _ _ gt)⟩) ?_ ?_
  ·rintro i v1 v2 ys H' r h1 h2 hy ⟨s,pr⟩ hr;obtain ⟨line,el,u1,rfl,_,R1⟩:=cm qa h1;obtain ⟨col,ec,u2,rfl,_,R2⟩:=cm qt h2;have ml:=aw el;have mc:=aw ec;have sr:aE H' (upd H' r (.tup [.ref u1,.ref u2])):=aE.new hr;have gr:(upd H' r (.tup [.ref u1,.ref u2])) r=some (.tup [.ref u1,.ref u2]):=aF;have s2:=s.trans sr;generalize upd H' r (.tup [.ref u1,.ref u2])=H2 at sr gr s2 ⊢;have lc:col.length=pt.length:=ni col mc;have ll:line.length=mv.length:=D.mw line ml;obtain ⟨z1,g1,q1⟩:=R1.same s2;obtain ⟨z2,g2,q2⟩:=R2.same s2;have y1:=q1.length;have y2:=q2.length;walk_at "w";refine pG g1 g2 (aR (bE (by lia))) fun c1 H3 s3 n3' g3=>?_
   have s13:=s2.trans s3;obtain ⟨z3,g4,q3⟩:=(hp.same s1).same s13;obtain ⟨z4,g5,q4⟩:=(hq.same s1).same s13;have y3:=q3.length;have y4:=q4.length;walk_at "w";refine pG g4 g5 (aR (bE (by lia))) fun c2 H4 s4 n4 g6=>?_
   have s34:=s3.trans s4;walk_at "w";refine ⟨c1,c2,line++col,st++pu,rfl,⟨_,s4 _ _ g3,Paired.imp' (fun _ _ z=>z.same s34) (bZ q1 q2)⟩,⟨_,g6,Paired.imp' (fun _ _ z=>z.same s4) (bZ q3 q4)⟩,by rw[ai,ai];lia,by rw[ai];lia,.sys ?_ fs,fun r2 H5 s5 h5=>?_⟩
   ·refine F.fits fun y hy=>?_
    rcases ax.mp hy with hy | hy
    ·exact .inl ⟨line,ml,hy⟩
    ·obtain ⟨j,_,rfl⟩:=aB.mp mc;obtain ⟨xs,hx,rfl⟩:=aB.mp hy;by_cases hj:j < xs.length
     ·refine .inr (.inl ⟨xs,hx,?_⟩);rw[aa,af hj];exact az hj
     ·exact .inr (.inr (.inr (by rw[aa,aN (by lia)];rfl)))
   ·have em:(kf mv pt st pu)[i]?=some (d5 (line++col) (st++pu)):=by
     unfold kf;rw[cB,el,ec]
    refine ⟨((s2.trans s34).trans s5),?_⟩;rw[take_snoc em];exact bZ (Paired.imp' (fun _ _ z=>(z.same (sr.trans s34)).same s5) pr) (.cons h5 .nil)
  ·rintro ys H' hy ⟨s,pr⟩ l hl;have lm:(kf mv pt st pu).length=mv.length:=by unfold kf;rw[bN,ck];lia
   rw[aH (by lia)] at pr;exact k l _ (s1.none (s.none hl)) ((s1.trans s).trans (aE.new hl)) ⟨ys,aF,Paired.imp' (fun _ _ z=>z.same (aE.new hl)) pr⟩
theorem xG:aW ["system","start","puts","states","row"] ["system","start","puts"] (av p7):=by walk_at "d"
theorem Ic (T:Txt K mg Z):cI P w K mg base gF 6 Z.xu Z.xa ["system","start","puts"] (EI K Z.a_System):=by
 refine T.AA.ok xG (fun vs H Q E h=>?_) (fun cdv A outer s H vs Q E hr h=>?_)
 ·obtain ⟨x,s,p,H0,H1,mv,pt,lk,pus,st,rfl,S,D,F,Rs,ls,Gp,lp,wp,cf,k⟩:=h;rfl
 ·obtain ⟨x,s,p,H0,H1,mv,pt,lk,pus,st,rfl,S,D,F,Rs,ls,Gp,lp,wp,cf,k⟩:=h
  refine ⟨_,(au (bf (i:=3) xG.nd rfl (Or.inl rfl) (eI (ae (jo rB (by rfl) T.list PyProof.Rows.boot_list (ae (pv 1) aj)) aj)))
   (au (eF PassesOwn.never rfl (cM (pv 2)) (aM (i:=4) xG.nd)
    (ay (jF (yj cW gQ gP qf (pv 3) (ae (LX (pv 0) T.cl_System T.so (yG T) (hr.mono (by decide)) T.tK .nil Bn (ae (aV bI (pv 3) (wq qG ao)) (ae (pv 4) aj))) aj)))))
   (ay (aZ (pv 3))))),?_⟩
  refine aO (σ:=[some (.ref x),some (.ref s),some (.ref p),none,none]) rfl ?_;have d1:=D.n8;obtain ⟨ss,gs,qs⟩:=id Rs;obtain ⟨ps,gp,qp,_⟩:=id Gp;have lps:=qp.length;walk_at "w";refine ⟨s,ss,rfl,.inl (bM.of gs),fun c hc=>?_⟩;have sc:aE H (upd H c (.lst ss)):=aE.new hc;have Rc:cK K (upd H c (.lst ss)) c st:=⟨ss,aF,Paired.imp' (fun _ _ z=>z.same sc) qs⟩;generalize upd H c (.lst ss)=Hc at sc Rc ⊢;walk_at "w";refine dk fun l Hl sl nl gl=>?_
  have hl0:=sc.none nl;have s0:=sc.trans sl;have cl:c≠l:=fun z=>by obtain ⟨_,g,_⟩:=Rc;rw[z,nl] at g;cases g
  have pr0:Paired (yb K H l Hl) ((oR mv pt st pus).take 1) [V.ref c]:=by
   have:(oR mv pt st pus).take 1=[st]:=by
    have e:=take_snoc (uB (mv:=mv) (pt:=pt) (st:=st) (pus:=pus) (k:=0) (aX _));rw[e];rfl
   rw[this];exact .cons ⟨c,rfl,hc,cl,Rc.same sl⟩ .nil
  walk_at "w";refine ⟨⟨_,bM.of (s0 _ _ gp)⟩,?_⟩;refine lS (K:=K) (a:=p) (xs:=ps) (fun i σ' H'=>aE H H'/\(∃y ys,σ'=[some (.ref x),some (.ref s),some (.ref p),some (.ref l),y]/\H' l=some (.lst ys)/\Paired (yb K H l H') ((oR mv pt st pus).take (i+1)) ys)) ⟨s0,_,_,rfl,gl,pr0⟩ (fun i σ' H' _ ⟨e,_⟩=>bM.of (e _ _ gp)) ?_ ?_
  ·rintro i v σ' H' hv ⟨e,y,ys,rfl,g,pr⟩;obtain ⟨pu,epu,u,rfl,_,Ru⟩:=cm qp hv;have hi:i < pus.length:=(aA.mp epu).1;have mp:=aw epu;have ly:=pr.length;rw[cT,vT] at ly;have ec:=uB (mv:=mv) (pt:=pt) (st:=st) (pus:=pus) (k:=i) (by lia);have el:ys[i]?=some (ys[i]'(by lia)):=af (by lia)
   obtain ⟨vl,evl,q,hq1,hq2,hq3,Rq⟩:∃vl,ys[i]?=some vl/\∃q,vl=V.ref q/\H q=none/\q≠l/\cK K H' q (EB mv pt st pus i):=by
    obtain ⟨xs,ex,w⟩:=cm pr el;rw[mB (by lia),ec] at ex;cases ex;exact ⟨_,el,w⟩
   subst hq1
   have ey:∃zs,ys=zs++[V.ref q]:=by
    refine ⟨ys.take i,?_⟩;rw[<- take_snoc evl,aH (by lia)]
   obtain ⟨zs,rfl⟩:=ey;walk_at "w";refine ⟨.inl ⟨rfl,_,bM.of g⟩,?_⟩;walk_at "w";obtain ⟨dx,_,_,_,gx,_⟩:=S.same e;refine ⟨x,dx,_,rfl,gx,Ho,?_⟩;walk_at "w";refine b5 (bM.of g) (tO _ _) ?_;walk_at "w";refine ⟨x,q,u,H0,mv,pt,lk,_,pu,rfl,S.same e,D,F,Rq,Ru.same e,Cd ls (by lia),wp pu mp,cf.both (by lia) mp,fun r1 H2 n2 s2 R2=>?_⟩;have gn:=s2 _ _ g;walk_at "w";refine p8 gn (bE (by lia)) ?_;refine ⟨HN (e.trans s2) hl0,_,_,rfl,aF,?_⟩;rw[take_snoc (uB (by lia)),zA epu];have rl:r1≠l:=fun z=>by rw[z,g] at n2;cases n2
   exact bZ (Paired.imp' (fun _ _ z=>(yb.same z s2).upd gn) pr) (.cons ⟨r1,rfl,e.none n2,rl,R2.updL gn rl⟩ .nil)
  ·rintro σ' H' ⟨e,y,ys,rfl,g,pr⟩;walk_at "w";rw[aH (by rw[vT];lia)] at pr;exact k l H' hl0 e ⟨ys,g,Paired.imp' (fun _ _ z=>yb.rowF z) pr,zK pr⟩
theorem zF:aW ["system","steps"] ["system","steps"] (av fU):=by walk_at "d"
theorem sX (T:Txt K mg Z):cI P w K mg base gF 2 Z.kU Z.kE ["system","steps"] (Jl K Z.a_System):=by
 refine T.lD.ok zF (fun vs H Q E h=>?_) (fun cdv A outer s H vs Q E hr h=>?_)
 ·obtain ⟨x,tt,H0,mv,pt,lk,rfl,hT,S,D,k⟩:=h;rfl
 ·obtain ⟨x,tt,H0,mv,pt,lk,rfl,hT,S,D,k⟩:=h;refine ⟨_,(ay (aZ (cE ["step"] ["system"] [0] (cv rfl T.range (ae (pv 1) aj)) (fun _=>(aM (i:=0) (show List.Nodup (α:=PySem.Str) ["step","system"] by decide +kernel))) (fun _=>cJ) (fun _=>(cO (kz T) hr T.iG T.iE.kp T.jP (ae (FQ K (pv 1) rfl) aj)))))),?_⟩;refine aO (σ:=[some (.ref x),some (.int tt)]) rfl ?_;obtain ⟨dx,a',b',c',gx,_,_,_,Ga,Gb,Gc⟩:=id S;have i4:=D.i4;walk_at "w";refine ⟨by lia,by lia,?_⟩;refine gC (n:=tt) (cS K H) (fun (_:Nat)=>List.replicate pt.length (0:Rat)) (by lia) (fun a b=>a.same b) ?_ ?_
  ·rintro i Hb NY NN hi sa k1;walk_at "w";refine ⟨x,Z.a_System,dx,_,_,rfl,sa _ _ gx,T.cl_System,T.na_ins,FH,?_⟩;walk_at "w";exact ⟨pt.length,rfl,by lia,fun r H2 nr s2 R2=>k1 _ _ s2 ⟨r,rfl,sa.none nr,R2⟩⟩
  rintro ys Hz t ht sz g pr nx;have e:(List.range tt).map (fun (_:Nat)=>List.replicate pt.length (0:Rat))=List.replicate tt (List.replicate pt.length 0):=by rw[K3,cy]
  rw[e] at pr nx;exact k t Hz ht sz ⟨ys,g,pr,mo nx⟩
theorem EN:aW ["system","start","goal","steps"] ["system","start","goal","steps"] (av nD):=by walk_at "d"
theorem E4 (T:Txt K mg Z):cI P w K mg base gF 7 Z.uJ Z.ux ["system","start","goal","steps"] (Jq K Z.a_System):=by
 refine T.ye.ok EN (fun vs H Q E h=>?_) (fun cdv A outer s H vs Q E hr h=>?_)
 ·obtain ⟨x,s,g,tt,H0,mv,pt,lk,st,go,rfl,hT,S,D,F,Rs,ls,Rg,lg,cf,sg,k⟩:=h;rfl
 ·obtain ⟨x,s,g,tt,H0,mv,pt,lk,st,go,rfl,hT,S,D,F,Rs,ls,Rg,lg,cf,sg,k⟩:=h;refine ⟨_,(ay (aZ (cO (Cv T) hr T.wH T.tR.kp T.yw (ae (pv 2) (ae (aV bI (cO (Ic T) hr T.Bv T.AA.kp T.Ek (ae (pv 0) (ae (pv 1) (ae (cO (sX T) hr T.oa T.lD.kp T.pO (ae (pv 0) (ae (pv 3) aj))) aj)))) (wq qG ao)) aj))))),?_⟩;refine aO (σ:=[some (.ref x),some (.ref s),some (.ref g),some (.int tt)]) rfl ?_;have d8:=D.n8;have i4:=D.i4;walk_at "w";refine ⟨x,tt,H0,mv,pt,lk,rfl,by lia,S,D,fun p1 H1 n1 s1 G1=>?_⟩;walk_at "w";refine ⟨x,s,p1,H0,H,mv,pt,lk,_,st,rfl,S.same s1,D,F,Rs.same s1,ls,G1,by rw[aG];lia,fun xs hx=>by rw[(dw.mp hx).2,aG],cf,fun p2 H2 n2 s2 G2=>?_⟩;obtain ⟨us,gu,qu,_⟩:=id G2;have lu:=qu.length;rw[vT,aG] at lu;have ec:=uB (mv:=mv) (pt:=pt) (st:=st) (pus:=List.replicate tt (List.replicate pt.length 0)) (k:=tt) (by rw[aG];exact ar _);have el:us[tt]?=some (us[tt]'(by lia)):=af (by lia)
  obtain ⟨q,eq,Rq⟩:∃q,us[tt]?=some (V.ref q)/\cK K H2 q (jw mv tt st):=by
   obtain ⟨xs,ex,q,e,_,w⟩:=cm qu el;rw[ec] at ex;cases ex;rw[EA D ls] at w;exact ⟨q,by rw[el,e],w⟩
  have ey:∃zs,us=zs++[V.ref q]:=by
   refine ⟨us.take tt,?_⟩;rw[<- take_snoc eq,aH (by lia)]
  obtain ⟨zs,rfl⟩:=ey
  have szp:∀y∈jw mv tt st,qE y:=fun y hy=>by
   have:=(cf.state (k:=tt) (by rw[aG];exact ar _)).szn (x:=y);rw[EA D ls] at this;exact this hy
  walk_at "w";refine b5 (bM.of gu) (tO _ _) ?_;walk_at "w";exact ⟨g,q,go,_,rfl,(Rg.same s1).same s2,Rq,by rw[lg,ug ls],by lia,sg,szp,fun r H3 n3 s3 R3=>k r H3 ((s1.trans s2).none n3) ((s1.trans s2).trans s3) R3⟩
theorem NC:aW ["row","many","wide"] ["row","many","wide"] (av Bh):=by walk_at "d"
theorem Oc (T:Txt K mg Z):cI P w K mg base gF 1 Z.GP Z.GB ["row","many","wide"] (Lk K):=by
 refine T.KR.ok NC (fun vs H Q E h=>?_) (fun cdv A outer s H vs Q E hr h=>?_)
 ·obtain ⟨p,u,kk,w,rfl,Rw,lw,uk,u1,k1,k⟩:=h;rfl
 ·obtain ⟨p,u,kk,w,rfl,Rw,lw,uk,u1,k1,k⟩:=h;refine ⟨_,(ay (aZ (cE ["turn"] ["row","wide"] [0,2] (cv rfl T.range (ae (pv 1) aj)) (fun _=>(aM (i:=0) (show List.Nodup (α:=PySem.Str) ["turn","row","wide"] by decide +kernel))) (fun _=>cJ) (fun _=>(zO (Jw K (by rfl)) (pv 1) (yS (bC cN (pv 0) (pv 2))) (yS (bC cN (bC eX (pv 0) ao) (pv 2)))))))),?_⟩;refine aO (σ:=[some (.ref p),some (.int u),some (.int kk)]) rfl ?_;obtain ⟨xs,gx,qx⟩:=id Rw;have lx:=qx.length;walk_at "w";refine ⟨by lia,by lia,?_⟩;refine gC (n:=u) (cS K H) (fun t=>(w.drop (t*kk)).take kk) (by lia) (fun a b=>a.same b) ?_ ?_
  ·rintro i Hb NY NN hi sa k2;have b1:i*kk+kk<=u*kk:=by rw[<- gM];exact aJ _ hi
   walk_at "w";refine fe (CY (by lia) (by lia)) ?_;walk_at "w";refine fe (GD (by lia) (by lia)) ?_;walk_at "w";rw[show ((i:Int)*(kk:Int))=((i*kk:Nat):Int) by lia,show (((i:Int)+1)*(kk:Int))=((i*kk:Nat):Int)+(kk:Int) by rw[Int.add_mul,Int.one_mul];lia];refine ⟨p,xs,rfl,bM.of (sa _ _ gx),fun r hr=>?_⟩;rw[Mn (by lia)];have sn:=aE.new (o:=.lst ((xs.drop (i*kk)).take kk)) hr;exact k2 _ _ sn ⟨r,rfl,sa.none hr,_,aF,Paired.imp' (fun _ _ z=>(z.same sa).same sn) (sV (uX qx _) _)⟩
  rintro ys Hz t ht sz g pr nx;exact k t Hz ht sz ⟨ys,g,pr,mo nx⟩
theorem wd:aW ["system","start","goal","steps","used","rows","answer","latest_first"] ["system","start","goal","steps"] (av xK):=by walk_at "d"
theorem L7 (T:Txt K mg Z):cI P w K mg base gF 8 Z.C5 Z.CV ["system","start","goal","steps"] (Ju K Z.a_System):=by
 refine T.FD.ok wd (fun vs H Q E h=>?_) (fun cdv A outer s H vs Q E hr h=>?_)
 ·obtain ⟨x,s,g,tt,a,c,D0,W0,E0,W1,H0,mv,pt,lk,st,go,rfl,hT,S,D,SF,F,Rs,ls,Rg,lg,cf,sg,CF,k1,k2⟩:=h;rfl
 ·obtain ⟨x,s,g,tt,a,c,D0,W0,E0,W1,H0,mv,pt,lk,st,go,rfl,hT,S,D,SF,F,Rs,ls,Rg,lg,cf,sg,CF,k1,k2⟩:=h
  refine ⟨_,(au (bf (i:=4) wd.nd rfl (Or.inl rfl) (bC ke (bY bL (by rfl) T.len bG (ae (cO (sW T) hr T.nZ T.lC.kp T.pN (ae (pv 0) (ae (pv 3) aj))) aj)) ao))
   (au (bf (i:=5) wd.nd rfl (Or.inl rfl) (cO (L6 T) hr T.FY T.FC.kp T.KI (ae (cO (Cy T) hr T.wJ T.tT.kp T.yy (ae (pv 0) (ae (pv 4) aj))) aj)))
   (au (bf (i:=6) wd.nd rfl (Or.inl rfl) (cO (zV T) hr T.td T.pS.kp T.vn (ae (pv 5) (ae (eV (pv 0) rfl) (ae (cO (E4 T) hr T.Ac T.ye.kp T.BQ (ae (pv 0) (ae (pv 1) (ae (pv 2) (ae (pv 3) aj))))) aj)))))
   (au (dm (bw fw (aV b4 (pv 6) ao) ka (bK _)) (ay (aZ (dA (ae ka (ae (aV b4 (pv 6) ao) aj))))) b9)
   (au (bf (i:=7) wd.nd rfl (Or.inl rfl) (cO (Oc T) hr T.JX T.KR.kp T.M6 (ae (aV b4 (pv 6) ao) (ae (pv 4) (ae (eV (pv 0) rfl) aj)))))
   (ay (aZ (dA (ae ka (ae (bC pJ (cO (sX T) hr T.oa T.lD.kp T.pO (ae (pv 0) (ae (bC ke (pv 3) (pv 4)) aj))) (zP K rfl T.list rfl T.reversed (ae (pv 7) aj))) aj)))))))))),?_⟩
  refine aO (σ:=[some (.ref x),some (.ref s),some (.ref g),some (.int tt),none,none,none,none]) rfl ?_;have d8:=D.n8;have i4:=D.i4;obtain ⟨dx,a',b',c',gx,_⟩:=id S;walk_at "w";refine ⟨x,a,c,tt,H0,mv,pt,lk,rfl,by lia,S,D,F,fun r1 Rs1 H1 n1 s1 GL Gw ln hlast=>?_⟩;obtain ⟨us,gus,pus1⟩:=id GL;have lus:=pus1.length;have rne:=Gw.ne;have lpos:0 < Rs1.length:=List.length_pos_iff.mpr rne;walk_at "w";refine ⟨_,_,rfl,.inl (bM.of gus),?_⟩;rw[<- lus];obtain ⟨u,eu⟩:∃u,Rs1.length=u+1:=⟨Rs1.length - 1,by lia⟩;rw[eu];have eL:Rs1[u]?=some (Rs1[u]'(by lia)):=af (by lia);obtain ⟨R,eR⟩:∃R,Rs1[u]?=some R:=⟨_,eL⟩;obtain ⟨ps,RRu⟩:=Gw.rr u R eR;have ul:=Gw.len u R eR;have un:u<=mv.length:=by have:=RRu.le;have:=RRu.1;lia
  have uT:u<=tt:=by lia
  obtain ⟨psT,RRT⟩:∃ps,bo (dq mv pt tt) mv.length R ps:=by
   refine hlast R ?_ tt (by lia);rw[List.getLast?_eq_getElem?,eu];exact eR
  walk_at "w";rw[show ((((u+1:Nat):Int)) - 1)=(u:Int) by lia];refine ⟨x,u,a,c,H0,mv,pt,lk,rfl,un,S.same s1,D,F,fun r2 us2 H2 n2 s2 g2 p2=>?_⟩;have s02:=s1.trans s2;have kl:=wQ (mv:=mv) (pt:=pt) u;have kl2:u*pt.length<=8*4:=bH (by lia) i4;walk_at "w";refine ⟨r2,us2,IG mv pt u,rfl,g2,p2,by rw[uD];lia,fun r3 H9 H3 n3 s3 G3=>?_⟩;rw[uD] at G3;have s03:=s02.trans s3;walk_at "w";refine ⟨x,Z.a_System,dx,_,_,rfl,s03 _ _ gx,T.cl_System,T.na_states,iZ,?_⟩;walk_at "w";refine ⟨x,s,g,tt,H0,mv,pt,lk,st,go,rfl,hT,S.same s03,D,SF,Rs.same s03,ls,Rg.same s03,lg,cf,sg,fun r4 H4 n4 s4 R4=>?_⟩;have s04:=s03.trans s4;have lL:=J8 (T:=tt) ls lg;have wk:=eG (mv:=mv) (pt:=pt) rfl D.pw u;have tk:=CF.tk u un;have up0:∀y,Tp D0 W0 y->Tp (D0*E0) (W0*E0+W1*D0+D0*E0) y:=fun y h=>h.up E0 (by lia)
  have up1:∀y,Tp E0 W1 y->Tp (D0*E0) (W0*E0+W1*D0+D0*E0) y:=fun y h=>by
   rw[cG D0 E0];exact h.up D0 (by lia)
  have up2:∀y,y=0\/y=1->Tp (D0*E0) (W0*E0+W1*D0+D0*E0) y:=fun y h=>by
   rcases h with rfl | rfl
   ·exact Tp.zero
   ·exact ⟨((D0*E0:Nat):Int),by rw[Rat.one_mul,bx],by rw[cY];lia⟩
  obtain ⟨wa,sw1⟩:=CF.join (rows:=bO (dq mv pt u) mv.length) (due:=oi mv tt st go) (n':=(dq mv pt u).length+1) (by rw[ck];exact lL) (fun ys hy y hy'=>by
   obtain ⟨j,_,rfl⟩:=aB.mp hy;obtain ⟨zs,hz,rfl⟩:=aB.mp hy';exact up0 _ (yN (tk zs hz) j)) (fun y hy=>up1 y (CF.tl y hy)) d8 (by rw[ck];lia)
  obtain ⟨wb,sw2⟩:=CF.join (rows:=dq mv pt u++[oi mv tt st go]) (due:=List.replicate (dq mv pt u).length 0++[1]) (n':=mv.length+1) (by simp) (fun ys hy y hy'=>by
   rcases ax.mp hy with hy | hy
   ·exact up0 _ (tk ys hy y hy')
   ·rw[dv.mp hy] at hy';exact up1 _ (CF.tl y hy')) (fun y hy=>by
   rcases ax.mp hy with hy | hy
   ·exact up2 _ (.inl (dw.mp hy).2)
   ·exact up2 _ (.inr (dv.mp hy))) d8 (yF _ _)
  walk_at "w";refine ⟨r3,r4,mv.length,wa,wb,H9,dq mv pt u,oi mv tt st go,rfl,G3.same s4,R4,lL,by lia,by lia,wk,sw1,sw2,⟨fun t5 x5 R5 ps5 M5 H5 RR5 hn5 g5 n5 s5 R5' M50 M51 tp5=>?_,fun t5 x5 R5 ps5 R6 ps6 M5 H5 RR5 hn5 RR6 hn6 g5 n5 s5 R5' M50 M51 tp5=>?_⟩⟩
  ·have s05:=s04.trans s5;have x50:=s04.none n5;have ew:=GY lL RR5 hn5;have lw:(lM R5 ps5 (dq mv pt u).length).length=(dq mv pt u).length:=nP;generalize lM R5 ps5 (dq mv pt u).length=ws at ew lw R5' tp5;have lw2:ws.length=u*pt.length:=by rw[lw,kl]
   walk_at "w";rw[decide_eq_false (show ¬(Str.ofString "in"=Str.ofString "out") by decide)];walk_at "w";refine ⟨x,Z.a_System,dx,_,_,rfl,s05 _ _ gx,T.cl_System,T.na_ins,FH,?_⟩;walk_at "w";refine ⟨x5,u,pt.length,ws,rfl,R5',lw2,by lia,by lia,by lia,fun r6 H6 n6 s6 G6=>?_⟩;have s06:=s05.trans s6;walk_at "w";rw[show ((tt:Int) - (u:Int))=((tt - u:Nat):Int) by lia];refine ⟨x,tt - u,H0,mv,pt,lk,rfl,by lia,S.same s06,D,fun r7 H7 n7 s7 G7=>?_⟩;obtain ⟨vs,gv,qv,_⟩:=id (G6.same s7);have lv:=qv.length;have lc:(Ow ws u pt.length).length=u:=by unfold Ow;rw[ag,cy]
   unfold zw;walk_at "w";refine ⟨r6,vs,rfl,bM.of gv,by lia,fun r8 H8 s8 n8 g8=>?_⟩;have s67:=s7.trans s8;obtain ⟨zs,gz,qz,_⟩:=id (G7.same s8);have lz:=qz.length;rw[aG] at lz;walk_at "w";refine pG gz g8 (aR (bE (by rw[md];lia))) fun r9 H9 s9 n9 g9=>?_
   have s09:=(s06.trans s67).trans s9;walk_at "w";refine cD fun t10 H10 s10 g10=>?_
   exact k1 t10 r9 _ H10 g10 (s09.trans s10) (s10 _ _ g9) (by rw[ai,md];lia) ⟨u,ws,uT,lw,ew⟩
  ·have s05:=s04.trans s5;have x50:=s04.none n5;have lw:(lM R6 ps6 mv.length).length=mv.length:=nP;obtain ⟨pr1,pr2⟩:=HU wk lL RR6 hn6;walk_at "w";rw[decide_eq_true rfl];walk_at "w";refine cD fun t10 H10 s10 g10=>?_
   exact k2 t10 x5 _ H10 g10 (s05.trans s10) lw (HW D.pw RRu RRT lw pr2) pr1
theorem zC:aW ["system","asked","steps","answer"] ["system","asked","steps"] (av nk):=by walk_at "d"
theorem zW (T:Txt K mg Z):cI P w K mg base gF 9 Z.uE Z.uj ["system","asked","steps"] (Jj K Z.a_System):=by
 refine T.uN.ok zC (fun vs H Q E h=>?_) (fun cdv A outer s H vs Q E hr h=>?_)
 ·obtain ⟨x,g,tt,H0,mv,pt,lk,go,rfl,hT,S,SM,Rg,AK,k1,k2⟩:=h;rfl
 ·obtain ⟨x,g,tt,H0,mv,pt,lk,go,rfl,hT,S,SM,Rg,AK,k1,k2⟩:=h
  refine ⟨_,(au (bf (i:=3) zC.nd rfl (Or.inl rfl) (cO (L7 T) hr T.FZ T.FD.kp T.KJ (ae (DL (pv 0) T.cl_System T.kh (qe T) (hr.mono (by decide)) T.mf .nil Bn) (ae (cO (kz T) hr T.iG T.iE.kp T.jP (ae (eV (pv 0) rfl) aj)) (ae (pv 1) (ae (pv 2) aj))))))
   (au (dm (bw fw (aV b4 (pv 3) ao) ka (bK _)) (ay (aZ (dA (ae ka (ae (aV b4 (pv 3) ao) aj))))) b9)
   (ay (aZ (dA (ae ka (ae (zP K rfl T.list rfl T.reversed (ae (aV b4 (pv 3) ao) aj)) aj))))))),?_⟩
  refine aO (σ:=[some (.ref x),some (.ref g),some (.int tt),none]) rfl ?_;have D:=SM.D;have d8:=D.n8;have et:(bO mv mv.length).length=mv.length:=ck;obtain ⟨dx,a',b',c',gx,_⟩:=id S;walk_at "w";refine ⟨x,dx,_,rfl,gx,zy,?_⟩;walk_at "w";refine ⟨x,H0,mv,pt,lk,rfl,S,D,SM.sfc.sf,fun y H1 ny s1 S1=>?_⟩;walk_at "w";refine ⟨x,Z.a_System,dx,_,_,rfl,s1 _ _ gx,T.cl_System,T.na_states,iZ,?_⟩;walk_at "w";refine ⟨mv.length,rfl,by lia,fun z H2 nz s2 Rz=>?_⟩;have s02:=s1.trans s2;have cf:=cf0 (T:=tt) D.turn;have CF:=SM.turn.cof AK;rw[<- et] at Rz;walk_at "w";refine ⟨y,z,g,tt,12,16,2520^5,2^140,2520^5,2^160,H,bO mv mv.length,lk,pt,_,go,rfl,hT,S1.same s2,D.turn,SM.turn.sfc,SM.turn.kfit,Rz,by rw[aG],Rg.same s02,AK.lg,cf,AK.szn,CF,⟨fun t3 p3 vs H3 g3 s3 gv lv inn=>?_,fun t3 p3 pr H3 g3 s3 l3 w3 d3=>?_⟩⟩
  ·have s03:=s02.trans s3;walk_at "w";rw[decide_eq_false (show ¬(Str.ofString "puts"=Str.ofString "never") by decide)];unfold zw;walk_at "w";refine ⟨p3,vs,rfl,bM.of gv,by lia,fun r4 H4 s4 n4 g4=>?_⟩;walk_at "w";refine cD fun t5 H5 s5 g5=>?_
   rw[show List.replicate (bO mv mv.length).length (0:Rat)=List.replicate mv.length 0 by rw[et]] at inn;exact k1 t5 _ H5 g5 ((s03.trans s4).trans s5) inn
  ·have s03:=s02.trans s3;walk_at "w";rw[decide_eq_true rfl];walk_at "w";refine cD fun t5 H5 s5 g5=>?_
   rw[et] at l3 d3;exact k2 t5 _ pr H5 g5 (s03.trans s5) l3 w3 d3
theorem fD:aW ["_law_script","_law_bag_here","_law_n","_law_ins","_law_outs","_law_wide","_law_parts_here","_law_system_here","_law_last","_law_steps","_law_rows","_law_t","_law_turn","_law_asked","_law_row_here","_law_words"] ["_law_script"] (av Bg):=by walk_at "d"
theorem Ob (T:Txt K mg Z):cI P w K mg base gF 10 Z.KO Z.Ky ["_law_script"] (Ce K):=by
 refine T.Nb.ok fD (fun vs H Q E h=>?_) (fun cdv A outer s H vs Q E hr h=>?_)
 ·obtain ⟨a,ns,rfl,hS,hlen,k⟩:=h;rfl
 ·obtain ⟨a,ns,rfl,hS,hlen,k⟩:=h
  refine ⟨_,(au (bf (i:=1) fD.nd rfl (Or.inl rfl) (cO (DS T) hr T.yt T.vZ.kp T.Aw (ae (pv 0) aj)))
   (au (fq (cO (AU T) hr T.vg T.rT.kp T.xj (ae (pv 1) aj)) (vH rfl (cu (aM (i:=2) fD.nd) (cu (aM (i:=3) fD.nd) (cu (aM (i:=4) fD.nd) (cu (aM (i:=5) fD.nd) ik))))))
   (au (bf (i:=5) fD.nd rfl (Or.inl rfl) (bY (qo rfl) (by rfl) T.min PyProof.Rows.boot_min (ae (pv 5) (ae ao aj))))
   (au (bf (i:=6) fD.nd rfl (Or.inl rfl) (cO (AV T) hr T.vh T.rV.kp T.xk (ae (pv 1) (ae (pv 2) (ae (pv 3) (ae (pv 4) (ae (pv 5) aj)))))))
   (au (bf (i:=7) fD.nd rfl (Or.inr rfl) (cO (z6 T) hr T.tx T.pV.kp T.vq (ae (pv 6) aj)))
   (au (bf (i:=8) fD.nd rfl (Or.inl rfl) (cO (jH T) hr T.gW T.gD.kp T.iH (ae (pv 7) (ae (pv 2) aj))))
   (au (bf (i:=9) fD.nd rfl (Or.inl rfl) (bC eX (pv 2) (cO (b6 T) hr T.bR T.bU.kp T.bV (ae (pv 1) (ae (bC ke ao (pv 2)) aj)))))
   (au (dm (PW.pt (wo (bw (zT (Ea hr)) (cO (jH T) hr T.gW T.gD.kp T.iH (ae (pv 7) (ae (pv 9) aj))) (pv 8) (bK _)) (qM (bw (zT (Ea hr)) (cO (jH T) hr T.gW T.gD.kp T.iH (ae (pv 7) (ae (bC eX (pv 2) ao) aj))) (pv 8) (bK _))))) (ay (aZ yk)) b9)
   (au (ky 10 ["_law_t"] ["_law_system_here"] [7] fD.nd rfl rfl (cv rfl T.range (ae (bC eX (pv 2) ao) aj)) (fun _=>(aM (i:=0) (show List.Nodup (α:=PySem.Str) ["_law_t","_law_system_here"] by decide +kernel))) (fun _=>cJ) (fun _=>(cO (jH T) hr T.gW T.gD.kp T.iH (ae (pv 1) (ae (pv 0) aj)))))
   (au (eF PassesOwn.never rfl (cv rfl T.range (ae (pv 2) aj)) (aM (i:=11) fD.nd)
    (au (dm (vG (vF (cO (z5 T) hr T.tw T.pU.kp T.vp (ae (aV bI (pv 10) (bC eX (pv 11) ao)) (ae (aV bI (pv 10) (pv 11)) (ae (pv 2) aj)))))) (ay (aZ yk)) b9)
   (ay (dm (PW.pt (j9 (bw (Oa (Ea hr)) (aV bI (pv 10) (bC eX (pv 11) ao)) (aV bI (pv 10) (pv 11)) (bK _)) (mD (bw (zT (Ea hr)) (aV bI (pv 10) (pv 11)) (pv 8) (bK _))))) (ay (aZ yk)) b9))))
   (au (eF PassesOwn.never rfl (cv rfl T.range (ae ao aj)) (aM (i:=12) fD.nd)
    (au (bf (i:=13) fD.nd rfl (Or.inl rfl) (cO (sY T) hr T.lQ T.kr.kp T.oo (ae (pv 1) (ae (pv 2) (ae (pv 5) aj)))))
   (ij (dm (bw fw (cO (b6 T) hr T.bR T.bU.kp T.bV (ae (pv 1) (ae ao aj))) ao (bK _)) (au (bf (i:=13) fD.nd rfl (Or.inl rfl) (bC N9 (eI (ae (dA (ae ao (ae ao aj))) aj)) (pv 2)))
   (ay (eF PassesOwn.never rfl (cM (cO (wF T) hr T.oC T.ku.kp T.qq (ae (pv 6) (ae (bY (qo rfl) (by rfl) T.min PyProof.Rows.boot_min (ae (pv 2) (ae ao aj))) aj)))) (aM (i:=14) fD.nd)
    (ay (bf (i:=13) fD.nd rfl (Or.inl rfl) (cO (wD T) hr T.qT T.ph.kp T.tJ (ae (pv 13) (ae (cO (nX T) hr T.kg T.kv.kp T.nH (ae (cO (sZ T) hr T.oh T.lE.kp T.pP (ae (pv 1) (ae ao aj))) (ae (pv 14) aj))) aj)))))))) b9)
   (au (bf (i:=15) fD.nd rfl (Or.inl rfl) (eI (ae (aV b4 (cO (zW T) hr T.vL T.uN.kp T.xX (ae (pv 7) (ae (pv 13) (ae (pv 9) aj)))) ao) (ae (aV b4 (cO (zW T) hr T.vL T.uN.kp T.xX (ae (pv 7) (ae (pv 13) (ae (pv 2) aj)))) ao) aj))))
   (ay (dm (PW.pt (wo (bw (zT (Ea hr)) (aV bI (pv 15) ao) (aV bI (pv 15) ao) (bK _)) (qM (bw (uY K (by rfl)) (aV bI (pv 15) ao) (eI (ae ka (ae ka aj))) (by with_unfolding_all rfl))))) (ay (aZ yk)) b9))))))
   (ay (aZ yk))))))))))))),?_⟩
  refine aO (σ:=[some (.ref a),none,none,none,none,none,none,none,none,none,none,none,none,none,none,none]) rfl ?_;walk_at "w";refine ⟨a,ns,rfl,hS,hlen,fun b H0 hb0 B0 s0=>?_⟩;walk_at "w";refine ⟨b,rfl,B0,fun t0 n i o w H1 g1 n5 i4 o4 hw h5 B1 u1=>?_⟩;walk_at "w";have hmin:(if (4:Int) < (w:Int) then (4:Int) else (w:Int))=((4:Nat):Int):=by split <;> lia
  rw[hmin];have m1:(n+i+o)*n<=13*5:=bH (by lia) n5;walk_at "w";refine ⟨b,n,i,o,4,4,rfl,B1,by lia,i4,o4,by decide,by decide,by decide,by decide,by lia,fun r mv pt lk H2 PQ lm lp ll D PF B2 u2=>?_⟩;subst lm;obtain ⟨M,V1,M0,fm,fp,fl,hcs⟩:=PF
  obtain ⟨rfl,rfl⟩:M=2520/\V1=9^3*9:=by
   rcases hcs with ⟨_,z1,z2⟩ | ⟨z,_⟩
   ·exact ⟨z1,z2⟩
   ·exact absurd z (by decide)
  have SM:yK mv pt lk:=⟨D,n5,fm,fp,fl⟩;have et:(bO mv mv.length).length=mv.length:=ck;have ett:bO (bO mv mv.length) (bO mv mv.length).length=mv:=by rw[et];exact A8 D.mw
  have u02:=u1.trans u2;walk_at "w";refine ⟨r,H1,mv,pt,lk,rfl,PQ,D,SM.sfc.sf,fun x H3 nx s3 S3=>?_⟩;have nb2:H2 b≠none:=B2.at;have B3:=B2.same s3;have P3:=PQ.same s3;walk_at "w";refine ⟨x,mv.length,H2,mv,pt,lk,rfl,by lia,S3,SM,fun hl Rhl phl Hdhl pdhl Mhl H4 nhl s4 Ghl RRhl RNhl ehl m0hl m1hl tphl=>?_⟩;have Uhl:GQ (bO mv mv.length) lk mv.length (mv.length) Hdhl:=⟨_,_,_,_,RRhl,RNhl,ehl,m0hl,m1hl,tphl⟩;walk_at "w";have B4:=B3.same s4;have S4:=S3.same s4;refine ⟨b,13 - (mv.length:Int),rfl,B4,by lia,by lia,fun v H5 v0 v1 B5 u5=>?_⟩;obtain ⟨v,rfl⟩:=ow v0;have hlb:hl≠b:=fun z=>B3.at (by rw[<- z];exact nhl)
  have Gl5:=Ghl.upto u5 B4 hlb B3.at;have S5:=S4.upto u5 B4 nb2;have P5:=(P3.same s4).upto u5 B4 B1.at;obtain ⟨tt,hT,tn,t13⟩:∃tt:Nat,(mv.length:Int)+v=tt/\mv.length<=tt/\tt<=13:=⟨mv.length+v,by lia,by lia,by lia⟩;walk_at "w";rw[hT];refine ⟨x,tt,H2,mv,pt,lk,rfl,by lia,S5,SM,fun h6 Rh6 ph6 Hdh6 pdh6 Mh6 H6 nh6 s6 Gh6 RRh6 RNh6 eh6 m0h6 m1h6 tph6=>?_⟩;have Uh6:GQ (bO mv mv.length) lk mv.length (tt) Hdh6:=⟨_,_,_,_,RRh6,RNh6,eh6,m0h6,m1h6,tph6⟩;walk_at "w";have e6:Hdh6=Hdhl:=Uh6.late SM.turn et Uhl tn (ar _);refine ⟨_,_,Ai,Hdh6,Hdhl,by decide,Gh6.kind,(Gl5.same s6).kind,?_⟩;rw[decide_eq_true e6];walk_at "w";refine ⟨x,(mv.length+1),H2,mv,pt,lk,rfl,by lia,S5.same s6,SM,fun h7 Rh7 ph7 Hdh7 pdh7 Mh7 H7 nh7 s7 Gh7 RRh7 RNh7 eh7 m0h7 m1h7 tph7=>?_⟩;have Uh7:GQ (bO mv mv.length) lk mv.length ((mv.length+1)) Hdh7:=⟨_,_,_,_,RRh7,RNh7,eh7,m0h7,m1h7,tph7⟩;walk_at "w";have e7:Hdh7=Hdhl:=Uh7.late SM.turn et Uhl (sF _) (ar _);have s57:=s6.trans s7;refine ⟨_,_,Ai,Hdh7,Hdhl,by decide,Gh7.kind,(Gl5.same s57).kind,?_⟩;rw[decide_eq_true e7];have Gl7:=Gl5.same s57;have S7:=S5.same s57;have P7:=P5.same s57;have B7:=B5.same s57;clear Gh6 Gh7 Uh6 Uh7 RRh6 RNh6 RRh7 RNh7 tph6 tph7 Gl5 S5 P5;walk_at "w";refine ⟨by lia,by lia,?_⟩;rw[show ((mv.length:Int)+1).toNat=mv.length+1 by lia];refine gC (n:=mv.length+1) (fun H' t v=>∃q Hd,v=.ref q/\bB K H7 H' q Hd/\GQ (bO mv mv.length) lk mv.length t Hd) (fun t=>t) (by lia) (fun ⟨q,Hd,e,g,u⟩ s=>⟨q,Hd,e,g.same s,u⟩) ?_ ?_
  ·rintro t Ha NY NN ht sa k1;walk_at "w";exact ⟨x,t,H2,mv,pt,lk,rfl,by lia,S7.same sa,SM,fun q R ps Hd pd M Hb nq sb G RR RN e m0 m1 tp=>k1 _ _ sb ⟨q,Hd,rfl,G.weak sa,⟨_,_,_,_,RR,RN,e,m0,m1,tp⟩⟩⟩
  rintro ys H8 rw nrw s8 g8 pr8 _;rw[List.map_id'] at pr8;have B8:=B7.same s8;have ly:=pr8.length;rw[cy] at ly;walk_at "w";refine ⟨by lia,by lia,?_⟩;refine eH (n:=mv.length) (fun t σ' H'=>aE H8 H'/\∃y1,σ'=[some (.ref a),some (.ref b),some (.int mv.length),some (.int i),some (.int o),some (.int 4),some (.ref r),some (.ref x),some (.ref hl),some (.int tt),some (.ref rw),y1,none,none,none,none]) ⟨aE.refl _,_,rfl⟩ ?_ ?_
  ·rintro t σ' H9 ht ⟨s9,y1,rfl⟩;obtain ⟨ta,va,eta,eva,_,qa,Hda,rfl,Ga,Ua⟩:=fH pr8 (i:=t+1) (by rw[cy];lia);obtain ⟨tb,vb,etb,evb,_,qb,Hdb,rfl,Gb,Ub⟩:=fH pr8 (i:=t) (by rw[cy];lia);rw[dj (by lia)] at eta etb;cases eta;cases etb;have g9:=s9 _ _ g8;walk_at "w";refine b5 (bM.of g9) (dQ (j:=t+1) eva) ?_;walk_at "w";refine b5 (bM.of g9) (dQ evb) ?_;walk_at "w";refine ⟨qa,qb,mv.length,H7,Hdb,Hda,rfl,n5,Ga.same s9,Gb.same s9,Ub.inn SM.turn et Ua,fun H10 s10=>?_⟩;have s810:=s9.trans s10;have g10:=s10 _ _ g9;walk_at "w";refine b5 (bM.of g10) (dQ (j:=t+1) eva) ?_;walk_at "w";refine b5 (bM.of g10) (dQ evb) ?_;walk_at "w";refine ⟨_,_,Ai,Hda,Hdb,by decide,(Ga.same s810).kind,(Gb.same s810).kind,?_⟩;by_cases e:Hda=Hdb
   ·rw[decide_eq_true e];subst e;walk_at "w";refine b5 (bM.of g10) (dQ evb) ?_;walk_at "w";refine ⟨_,_,Ai,Hda,Hdhl,by decide,(Gb.same s810).kind,((Gl7.same s8).same s810).kind,?_⟩;rw[decide_eq_true (Ub.stand SM.turn et Ua Uhl (by lia))];walk_at "w";exact ⟨s810,_,rfl⟩
   ·rw[decide_eq_false e];walk_at "w";exact ⟨s810,_,rfl⟩
  rintro σ' H9 ⟨s9,y1,rfl⟩;have s79:=s8.trans s9;have B9:=B7.same s79;have S9:=S7.same s79;have P9:=P7.same s79;clear Gl7 pr8 g8 S7 P7;walk_at "w";refine ⟨by decide,by decide,?_⟩;refine eH (n:=2) (fun t σ' H'=>jz H' b/\cR b H9 H'/\∃x1 x2 x3 x4,σ'=[some (.ref a),some (.ref b),some (.int mv.length),some (.int i),some (.int o),some (.int 4),some (.ref r),some (.ref x),some (.ref hl),some (.int tt),some (.ref rw),y1,x1,x2,x3,x4]) ⟨B9,(aE.refl _).upto,_,_,_,_,rfl⟩ ?_ ?_
  ·rintro t σ' H' ht ⟨B',u',x1,x2,x3,x4,rfl⟩;have Sx':=S9.upto u' B9 nb2;have P':=P9.upto u' B9 B1.at;walk_at "w";refine ⟨b,mv.length,4,rfl,B',by lia,by decide,by decide,fun q1 as1 H12 nq1 R1 l1 d1 B12 u12=>?_⟩;have A1:Er K H12 q1 mv.length 1 as1:=Ms R1 l1 (fun x hx=>d1 x hx);have q1b:q1≠b:=fun z=>B'.at (by rw[<- z];exact nq1)
   walk_at "w";refine ⟨fun σ2 H2'=>jz H2' b/\cR b H' H2'/\∃q as kq x3 x4,σ2=[some (.ref a),some (.ref b),some (.int mv.length),some (.int i),some (.int o),some (.int 4),some (.ref r),some (.ref x),some (.ref hl),some (.int tt),some (.ref rw),y1,some (.int t),some (.ref q),x3,x4]/\q≠b/\kq<=50/\Er K H2' q mv.length kq as,?_,?_⟩
   ·walk_at "w";refine ⟨b,2,rfl,B12,by decide,by decide,fun c1 Hc c10 c11 Bc uc=>?_⟩;have u1c:=u12.trans uc;walk_at "w";refine jx (fun h=>?_) (fun h=>?_)
    ·have Pc:=P'.upto u1c B' B1.at;walk_at "w";refine cD fun t1 Hd sd gd=>?_
     walk_at "w";refine dk fun l2 He se ne ge=>?_
     walk_at "w";refine NK (k:=mv.length) ge (by lia) fun q2 H13 s13 n13 g13=>?_
     have sn:=(sd.trans se).trans s13;have A2:Er K H13 q2 mv.length 0 (List.replicate mv.length 0):=⟨⟨_,g13,zR (cw.mk (q:=0) ((se.trans s13) _ _ gd) rfl) _⟩,aG,fun x hx=>by rw[(dw.mp hx).2];exact Fr.zero⟩;have q2b:q2≠b:=fun z=>((Bc.same sd).same se).at (by rw[<- z];exact n13)
     have B13:=Bc.same sn;have hm3:(if (3:Int) < (mv.length:Int) then (3:Int) else (mv.length:Int))=((min mv.length 3:Nat):Int):=by split <;> lia
     walk_at "w";rw[hm3];refine ⟨r,min mv.length 3,H1,mv,pt,lk,rfl,by lia,Pc.same sn,SM,fun lq H14 nlq s14 GL=>?_⟩;have lf:=Mc SM (T:=min mv.length 3) (by lia);obtain ⟨ul,gul,pul,_⟩:=id GL;have lul:=pul.length;rw[wQ] at lul;have lb:min mv.length 3*lk.length<=3*4:=bH (by lia) D.o4;have B14:=B13.same s14;have lqb:lq≠b:=fun z=>B13.at (by rw[<- z];exact nlq)
     have u14:cR b H' H14:=(u1c.same sn).same s14;walk_at "w";refine ⟨⟨_,bM.of gul⟩,?_⟩;refine lS (K:=K) (a:=lq) (xs:=ul) (fun j σ2 H2'=>jz H2' b/\cR b H14 H2'/\∃q as x3 x4,σ2=[some (.ref a),some (.ref b),some (.int mv.length),some (.int i),some (.int o),some (.int 4),some (.ref r),some (.ref x),some (.ref hl),some (.int tt),some (.ref rw),y1,some (.int t),some (.ref q),x3,x4]/\q≠b/\Er K H2' q mv.length j as) ⟨B14,(aE.refl _).upto,q2,_,_,_,rfl,q2b,A2.same s14⟩ (fun j σ2 H2' _ ⟨_,u,_⟩=>bM.of (u.other lqb gul)) ?_ ?_
     ·rintro j vv σ2 Ha hv ⟨Ba,ua,q,as,x3,x4,rfl,qb,A⟩;have hj:j < ul.length:=(aA.mp hv).1;obtain ⟨ys,ey,uq,rfl,nuq,Ruq⟩:=cm pul hv;obtain ⟨ly,fy,sy⟩:=lf ys (aw ey);have uqb:uq≠b:=fun z=>B13.at (by rw[<- z];exact nuq)
      walk_at "w";refine ⟨b,4,rfl,Ba,by decide,by decide,fun c1 cx Hb dc Nc Bb ub=>?_⟩;have A3:Er K Hb q mv.length j as:=⟨A.row.upto ub Ba qb,A.len,A.fr⟩;have szc:qE cx:=pF (Tp.of (Ao (M:=2520) ⟨ah dc.1 (by decide),ah dc.2 (by decide)⟩ (zj _)) (ar _)) (by decide) (ah (show 2520<=2^12 by decide) (ak (by decide) (by decide))) (ah (show 9*2520<=2^20 by decide) (ak (by decide) (by decide)));walk_at "w";refine ⟨_,uq,cx,ys,rfl,Nc,szc,cK.upto (cK.upto Ruq ua B14 uqb) ub Ba uqb,by lia,sy,fun r1 Hc nr1 sc Rc=>?_⟩;have Bc:=Bb.same sc
      have mulsz:∀y∈ys.map (fun y=>cx*y),qE y:=fun y hy=>by
       obtain ⟨y',hy',rfl⟩:=aB.mp hy;have f:=(Ao (M:=2520) (q:=cx) ⟨ah dc.1 (by decide),ah dc.2 (by decide)⟩ (zj _)).mul (fy y' hy');exact pF (Tp.of f (ar _)) (by decide) (ah (show 2520*2520^4<=2^60 by decide) (ak (by decide) (by decide))) (ah (show 9*2^64*(2520*2520^4)<=2^150 by decide) (ak (by decide) (by decide)))
      walk_at "w";refine ⟨q,r1,as,_,rfl,(A3.same sc).row,Rc,by rw[ag,ly,A.len],by rw[A.len];lia,A.szn (by lia),mulsz,fun q3 Hd nq3 sd Rd=>?_⟩;have A4:=Oz A3 dc ly fy Rd;have nb4:q3≠b:=fun z=>Bc.at (by rw[<- z];exact nq3)
      have ud:cR b H14 Hd:=((ua.trans ub).same sc).same sd;exact ⟨Bc.same sd,ud,q3,_,_,_,rfl,nb4,A4⟩
     ·rintro σ2 Ha ⟨Ba,ua,q,as,x3,x4,rfl,qb,A⟩;exact ⟨Ba,u14.trans ua,q,as,ul.length,_,_,rfl,qb,by lia,A⟩
    ·exact ⟨Bc,u1c,q1,as1,1,_,_,rfl,q1b,by decide,⟨A1.row.upto uc B12 q1b,A1.len,A1.fr⟩⟩
   rintro σ2 H14 ⟨B14,u14,q,as,kq,x3,x4,rfl,qb,hk,A⟩;clear A1 R1 d1 q1b nq1 B12 u12 l1;have A':Er K H14 q (bO mv mv.length).length kq as:=by rw[et];exact A
   have AK:∀T',Ask (bO mv mv.length) lk T' as:=fun T'=>A'.ask (by lia)
   have u'14:=u'.trans u14;have Sx4:=S9.upto u'14 B9 nb2
   have L0:∀T',oi (bO mv mv.length) T' (List.replicate mv.length 0) as=as:=fun T'=>by
    have:=MP (T:=T') D.turn.mw (AK T').lg;rwa [et] at this
   have la:as.length=(bO mv mv.length).length:=(AK 0).lg;walk_at "w";refine ⟨x,q,tt,H2,mv,pt,lk,as,rfl,by lia,Sx4,SM,A.row,AK tt,⟨fun t15 p15 H15 g15 s15 inn=>?_,fun t15 p15 pr H15 g15 s15 l15 k15 d15=>?_⟩⟩
   ·rw[L0] at inn;walk_at "w";refine ⟨x,q,mv.length,H2,mv,pt,lk,as,rfl,by lia,Sx4.same s15,SM,A.row.same s15,AK mv.length,⟨fun t16 p16 H16 g16 s16 inn2=>?_,fun t16 p16 pr H16 g16 s16 l16 k16 d16=>?_⟩⟩
    ·walk_at "w";refine dk fun wl H17 s17 n17 g17=>?_
     walk_at "w";refine ⟨_,_,Px,Str.ofString "from",Str.ofString "from",by decide,rfl,rfl,?_⟩;rw[decide_eq_true rfl];walk_at "w";refine dk fun w2 H18 s18 n18 g18=>?_
     have g17b:=s18 _ _ g17;walk_at "w";refine ⟨w2,_,rfl,.inl (bM.of g18),rfl,rfl,?_⟩;refine ⟨false,rfl,?_⟩;refine Iu ?_;have sE:=((s15.trans s16).trans s17).trans s18;exact ⟨B14.same sE,u'14.same sE,_,_,_,_,rfl⟩
    ·rw[L0] at d16;exact absurd (Bq D.turn.pw la inn (by rw[et];exact l16) (EW SM.turn (by rw[et];exact ar _) (by rw[et];exact tn) (by rw[et];exact l16) k16) d16) id
   ·rw[L0] at d15;walk_at "w";refine ⟨x,q,mv.length,H2,mv,pt,lk,as,rfl,by lia,Sx4.same s15,SM,A.row.same s15,AK mv.length,⟨fun t16 p16 H16 g16 s16 inn2=>?_,fun t16 p16 pr2 H16 g16 s16 l16 k16 d16=>?_⟩⟩
    ·rw[L0] at inn2;exact absurd (Bq D.turn.pw la (inn2.late SM.turn tn) (by rw[et];exact l15) k15 d15) id
    ·walk_at "w";refine dk fun wl H17 s17 n17 g17=>?_
     walk_at "w";refine ⟨_,_,Px,Str.ofString "alike",Str.ofString "alike",by decide,rfl,rfl,?_⟩;rw[decide_eq_true rfl];walk_at "w";refine dk fun w2 H18 s18 n18 g18=>?_
     have g17b:=s18 _ _ g17;walk_at "w";refine ⟨w2,_,rfl,.inl (bM.of g18),rfl,rfl,?_⟩;refine ⟨false,rfl,?_⟩;refine Iu ?_;have sE:=((s15.trans s16).trans s17).trans s18;exact ⟨B14.same sE,u'14.same sE,_,_,_,_,rfl⟩
  ·rintro σ' H' ⟨B',u',x1,x2,x3,x4,rfl⟩;walk_at "w";exact k _
end
theorem Ir {P:List Value->Prop} (h:∀x0,P [x0]):∀us:List Value,us.length=1->P us
 | [x0],_=>h x0
theorem ln2 {P:List Value->Prop} (h:∀x0 x1,P [x0,x1]):∀us:List Value,us.length=2->P us
 | [x0,x1],_=>h x0 x1
theorem Iq {P:List Value->Prop} (h:∀x0 x1 x2,P [x0,x1,x2]):∀us:List Value,us.length=3->P us
 | [x0,x1,x2],_=>h x0 x1 x2
theorem Pw {P:List Value->Prop} (h:∀x0 x1 x2 x3,P [x0,x1,x2,x3]):∀us:List Value,us.length=4->P us
 | [x0,x1,x2,x3],_=>h x0 x1 x2 x3
theorem ln5 {P:List Value->Prop} (h:∀x0 x1 x2 x3 x4,P [x0,x1,x2,x3,x4]):∀us:List Value,us.length=5->P us
 | [x0,x1,x2,x3,x4],_=>h x0 x1 x2 x3 x4
theorem all_mk {l:W.OpenLaw} {w:World} {K:W.Frag} {h:Heap} {mg:Str->Option Value} {fa:Addr}
  {f0 f1 f2 f3 f4 f5 f6 f7 f8 f9 f10 f11 f12 f13 f14 f15 f16 f17 f18 f19 f20 f21 f22 f23 f24 f25 f26 f27 f28 f29 f30 f31 f32 f33 f34 f35 f36 f37 f38 f39 f40 f41 f42 f43 f44 f45 f46 f47 f48 f49 f50 f51 f52 f53 f54 f55 f56 f57 f58 f59 f60 f61 f62 f63 f64 f65 f66 f67:Addr} {od0 od1 od2 od3 od4 od5 od6 od7 od8 od9 od10 od11 od12 od13 od14 od15 od16 od17 od18 od19 od20 od21 od22 od23 od24 od25 od26 od27 od28 od29 od30 od31 od32 od33 od34 od35 od36 od37 od38 od39 od40 od41 od42 od43 od44 od45 od46 od47 od48 od49 od50 od51 od52 od53 od54 od55 od56 od57 od58 od59 od60 od61 od62 od63 od64 od65 od66 od67 an0 an1 an2 an3 an4 an5 an6 an7 an8 an9 an10 an11 an12 an13 an14 an15 an16 an17 an18 an19 an20 an21 an22 an23 an24 an25 an26 an27 an28 an29 an30 an31 an32 an33 an34 an35 an36 an37 an38 an39 an40 an41 an42 an43 an44 an45 an46 an47 an48 an49 an50 an51 an52 an53 an54 an55 an56 an57 an58 an59 an60 an61 an62 an63 an64 an65 an66 an67:Option Addr} {sl0 sl1 sl2 sl3 sl4 sl5 sl6 sl7 sl8 sl9 sl10 sl11 sl12 sl13 sl14 sl15 sl16 sl17 sl18 sl19 sl20 sl21 sl22 sl23 sl24 sl25 sl26 sl27 sl28 sl29 sl30 sl31 sl32 sl33 sl34 sl35 sl36 sl37 sl38 sl39 sl40 sl41 sl42 sl43 sl44 sl45 sl46 sl47 sl48 sl49 sl50 sl51 sl52 sl53 sl54 sl55 sl56 sl57 sl58 sl59 sl60 sl61 sl62 sl63 sl64 sl65 sl66 sl67:Array (Option Value)} {oc0 oc1 oc2 oc3 oc4 oc5 oc6 oc7 oc8 oc9 oc10 oc11 oc12 oc13 oc14 oc15 oc16 oc17 oc18 oc19 oc20 oc21 oc22 oc23 oc24 oc25 oc26 oc27 oc28 oc29 oc30 oc31 oc32 oc33 oc34 oc35 oc36 oc37 oc38 oc39 oc40 oc41 oc42 oc43 oc44 oc45 oc46 oc47 oc48 oc49 oc50 oc51 oc52 oc53 oc54 oc55 oc56 oc57 oc58 oc59 oc60 oc61 oc62 oc63 oc64 oc65 oc66 oc67 kV0 kV1 kV2 kV3 kV4 kV5 kV6 kV7 kV8 kV9 kV10 kV11 kV12 kV13 kV14 kV15 kV16 kV17 kV18 kV19 kV20 kV21 kV22 kV23 kV24 kV25 kV26 kV27 kV28 kV29 kV30 kV31 kV32 kV33 kV34 kV35 kV36 kV37 kV38 kV39 kV40 kV41 kV42 kV43 kV44 kV45 kV46 kV47 kV48 kV49 kV50 kV51 kV52 kV53 kV54 kV55 kV56 kV57 kV58 kV59 kV60 kV61 kV62 kV63 kV64 kV65 kV66 kV67 dc0 dc1 dc2 dc3 dc4 dc5 dc6 dc7 dc8 dc9 dc10 dc11 dc12 dc13 dc14 dc15 dc16 dc17 dc18 dc19 dc20 dc21 dc22 dc23 dc24 dc25 dc26 dc27 dc28 dc29 dc30 dc31 dc32 dc33 dc34 dc35 dc36 dc37 dc38 dc39 dc40 dc41 dc42 dc43 dc44 dc45 dc46 dc47 dc48 dc49 dc50 dc51 dc52 dc53 dc54 dc55 dc56 dc57 dc58 dc59 dc60 dc61 dc62 dc63 dc64 dc65 dc66 dc67 pm0 pm1 pm2 pm3 pm4 pm5 pm6 pm7 pm8 pm9 pm10 pm11 pm12 pm13 pm14 pm15 pm16 pm17 pm18 pm19 pm20 pm21 pm22 pm23 pm24 pm25 pm26 pm27 pm28 pm29 pm30 pm31 pm32 pm33 pm34 pm35 pm36 pm37 pm38 pm39 pm40 pm41 pm42 pm43 pm44 pm45 pm46 pm47 pm48 pm49 pm50 pm51 pm52 pm53 pm54 pm55 pm56 pm57 pm58 pm59 pm60 pm61 pm62 pm63 pm64 pm65 pm66 pm67 cd0 cd1 cd2 cd3 cd4 cd5 cd6 cd7 cd8 cd9 cd10 cd11 cd12 cd13 cd14 cd15 cd16 cd17 cd18 cd19 cd20 cd21 cd22 cd23 cd24 cd25 cd26 cd27 cd28 cd29 cd30 cd31 cd32 cd33 cd34 cd35 cd36 cd37 cd38 cd39 cd40 cd41 cd42 cd43 cd44 cd45 cd46 cd47 cd48 cd49 cd50 cd51 cd52 cd53 cd54 cd55 cd56 cd57 cd58 cd59 cd60 cd61 cd62 cd63 cd64 cd65 cd66 cd67 ct0 ct1 ct2 ct3 ct4 ct5 ct6 ct7 ct8 ct9 ct10 ct11 ct12 ct13 ct14 ct15 ct16 ct17 ct18 ct19 ct20 ct21 ct22 ct23 ct24 ct25 ct26 ct27 ct28 ct29 ct30 ct31 ct32 ct33 ct34 ct35 ct36 ct37 ct38 ct39 ct40 ct41 ct42 ct43 ct44 ct45 ct46 ct47 ct48 ct49 ct50 ct51 ct52 ct53 ct54 ct55 ct56 ct57 ct58 ct59 ct60 ct61 ct62 ct63 ct64 ct65 ct66 ct67:Value}
  (X:K.In h) (G:h.Ns mainGlobals mg) (hfa:mg "law"=some (.ref fa))
  {C:Addr} (aC:W.nsIn K mainGlobals "System"=some (some (.ref C)))
  (a0:W.nsIn K mainGlobals "_law_bag"=some (some (.ref f0))) (l0:K.lookup f0=some ⟨oc0,od0,.func (W.fnOf "_law_bag" "_law_bag" (aT j8) (aQ j8) (av j8) .none kV0 dc0 pm0 an0 cd0 ct0),sl0⟩) (c0:W.codeIn K cd0 "_law_bag"=true) (k0:W.keepIn K (.ref f0)=true)
  (a1:W.nsIn K mainGlobals "_law_take"=some (some (.ref f1))) (l1:K.lookup f1=some ⟨oc1,od1,.func (W.fnOf "_law_take" "_law_take" (aT jf) (aQ jf) (av jf) .none kV1 dc1 pm1 an1 cd1 ct1),sl1⟩) (c1:W.codeIn K cd1 "_law_take"=true) (k1:W.keepIn K (.ref f1)=true)
  (a2:W.nsIn K mainGlobals "_law_sizes"=some (some (.ref f2))) (l2:K.lookup f2=some ⟨oc2,od2,.func (W.fnOf "_law_sizes" "_law_sizes" (aT fG) (aQ fG) (av fG) .none kV2 dc2 pm2 an2 cd2 ct2),sl2⟩) (c2:W.codeIn K cd2 "_law_sizes"=true) (k2:W.keepIn K (.ref f2)=true)
  (a3:W.nsIn K mainGlobals "_law_low"=some (some (.ref f3))) (l3:K.lookup f3=some ⟨oc3,od3,.func (W.fnOf "_law_low" "_law_low" (aT j6) (aQ j6) (av j6) .none kV3 dc3 pm3 an3 cd3 ct3),sl3⟩) (c3:W.codeIn K cd3 "_law_low"=true) (k3:W.keepIn K (.ref f3)=true)
  (a4:W.nsIn K mainGlobals "_law_number"=some (some (.ref f4))) (l4:K.lookup f4=some ⟨oc4,od4,.func (W.fnOf "_law_number" "_law_number" (aT gA) (aQ gA) (av gA) .none kV4 dc4 pm4 an4 cd4 ct4),sl4⟩) (c4:W.codeIn K cd4 "_law_number"=true) (k4:W.keepIn K (.ref f4)=true)
  (a5:W.nsIn K mainGlobals "_law_row"=some (some (.ref f5))) (l5:K.lookup f5=some ⟨oc5,od5,.func (W.fnOf "_law_row" "_law_row" (aT j5) (aQ j5) (av j5) .none kV5 dc5 pm5 an5 cd5 ct5),sl5⟩) (c5:W.codeIn K cd5 "_law_row"=true) (k5:W.keepIn K (.ref f5)=true)
  (a6:W.nsIn K mainGlobals "_law_move"=some (some (.ref f6))) (l6:K.lookup f6=some ⟨oc6,od6,.func (W.fnOf "_law_move" "_law_move" (aT jk) (aQ jk) (av jk) .none kV6 dc6 pm6 an6 cd6 ct6),sl6⟩) (c6:W.codeIn K cd6 "_law_move"=true) (k6:W.keepIn K (.ref f6)=true)
  (a7:W.nsIn K mainGlobals "_law_sum"=some (some (.ref f7))) (l7:K.lookup f7=some ⟨oc7,od7,.func (W.fnOf "_law_sum" "_law_sum" (aT j4) (aQ j4) (av j4) .none kV7 dc7 pm7 an7 cd7 ct7),sl7⟩) (c7:W.codeIn K cd7 "_law_sum"=true) (k7:W.keepIn K (.ref f7)=true)
  (a8:W.nsIn K mainGlobals "_law_plus"=some (some (.ref f8))) (l8:K.lookup f8=some ⟨oc8,od8,.func (W.fnOf "_law_plus" "_law_plus" (aT ji) (aQ ji) (av ji) .none kV8 dc8 pm8 an8 cd8 ct8),sl8⟩) (c8:W.codeIn K cd8 "_law_plus"=true) (k8:W.keepIn K (.ref f8)=true)
  (a9:W.nsIn K mainGlobals "_law_prod"=some (some (.ref f9))) (l9:K.lookup f9=some ⟨oc9,od9,.func (W.fnOf "_law_prod" "_law_prod" (aT jh) (aQ jh) (av jh) .none kV9 dc9 pm9 an9 cd9 ct9),sl9⟩) (c9:W.codeIn K cd9 "_law_prod"=true) (k9:W.keepIn K (.ref f9)=true)
  (a10:W.nsIn K mainGlobals "_law_by"=some (some (.ref f10))) (l10:K.lookup f10=some ⟨oc10,od10,.func (W.fnOf "_law_by" "_law_by" (aT nG) (aQ nG) (av nG) .none kV10 dc10 pm10 an10 cd10 ct10),sl10⟩) (c10:W.codeIn K cd10 "_law_by"=true) (k10:W.keepIn K (.ref f10)=true)
  (a11:W.nsIn K mainGlobals "_law_mixed"=some (some (.ref f11))) (l11:K.lookup f11=some ⟨oc11,od11,.func (W.fnOf "_law_mixed" "_law_mixed" (aT ie) (aQ ie) (av ie) .none kV11 dc11 pm11 an11 cd11 ct11),sl11⟩) (c11:W.codeIn K cd11 "_law_mixed"=true) (k11:W.keepIn K (.ref f11)=true)
  (a12:W.nsIn K mainGlobals "_law_parts"=some (some (.ref f12))) (l12:K.lookup f12=some ⟨oc12,od12,.func (W.fnOf "_law_parts" "_law_parts" (aT ic) (aQ ic) (av ic) .none kV12 dc12 pm12 an12 cd12 ct12),sl12⟩) (c12:W.codeIn K cd12 "_law_parts"=true) (k12:W.keepIn K (.ref f12)=true)
  (a13:W.nsIn K mainGlobals "want_list"=some (some (.ref f13))) (l13:K.lookup f13=some ⟨oc13,od13,.func (W.fnOf "want_list" "want_list" (aT ja) (aQ ja) (av ja) .none kV13 dc13 pm13 an13 cd13 ct13),sl13⟩) (c13:W.codeIn K cd13 "want_list"=true) (k13:W.keepIn K (.ref f13)=true)
  (a14:W.nsIn K mainGlobals "is_whole"=some (some (.ref f14))) (l14:K.lookup f14=some ⟨oc14,od14,.func (W.fnOf "is_whole" "is_whole" (aT j3) (aQ j3) (av j3) .none kV14 dc14 pm14 an14 cd14 ct14),sl14⟩) (c14:W.codeIn K cd14 "is_whole"=true) (k14:W.keepIn K (.ref f14)=true)
  (a15:W.nsIn K mainGlobals "common_divisor"=some (some (.ref f15))) (l15:K.lookup f15=some ⟨oc15,od15,.func (W.fnOf "common_divisor" "common_divisor" (aT ee) (aQ ee) (av ee) .none kV15 dc15 pm15 an15 cd15 ct15),sl15⟩) (c15:W.codeIn K cd15 "common_divisor"=true) (k15:W.keepIn K (.ref f15)=true)
  (a16:W.nsIn K mainGlobals "is_number"=some (some (.ref f16))) (l16:K.lookup f16=some ⟨oc16,od16,.func (W.fnOf "is_number" "is_number" (aT jd) (aQ jd) (av jd) .none kV16 dc16 pm16 an16 cd16 ct16),sl16⟩) (c16:W.codeIn K cd16 "is_number"=true) (k16:W.keepIn K (.ref f16)=true)
  (a17:W.nsIn K mainGlobals "is_row"=some (some (.ref f17))) (l17:K.lookup f17=some ⟨oc17,od17,.func (W.fnOf "is_row" "is_row" (aT p6) (aQ p6) (av p6) .none kV17 dc17 pm17 an17 cd17 ct17),sl17⟩) (c17:W.codeIn K cd17 "is_row"=true) (k17:W.keepIn K (.ref f17)=true)
  (a18:W.nsIn K mainGlobals "copied_rows"=some (some (.ref f18))) (l18:K.lookup f18=some ⟨oc18,od18,.func (W.fnOf "copied_rows" "copied_rows" (aT fX) (aQ fX) (av fX) .none kV18 dc18 pm18 an18 cd18 ct18),sl18⟩) (c18:W.codeIn K cd18 "copied_rows"=true) (k18:W.keepIn K (.ref f18)=true)
  (a19:W.findIn K (.ref C) "__init__"=some (some (.ref f19))) (i19:W.isFn K (.ref f19)=true) (l19:K.lookup f19=some ⟨oc19,od19,.func (W.fnOf "__init__" "System.__init__" (aT dP) (aQ dP) (av dP) .none kV19 dc19 pm19 an19 cd19 ct19),sl19⟩) (c19:W.codeIn K cd19 "System.__init__"=true) (k19:W.keepIn K (.ref f19)=true)
  (a20:W.nsIn K mainGlobals "_law_copied"=some (some (.ref f20))) (l20:K.lookup f20=some ⟨oc20,od20,.func (W.fnOf "_law_copied" "_law_copied" (aT gB) (aQ gB) (av gB) .none kV20 dc20 pm20 an20 cd20 ct20),sl20⟩) (c20:W.codeIn K cd20 "_law_copied"=true) (k20:W.keepIn K (.ref f20)=true)
  (a21:W.nsIn K mainGlobals "_law_system"=some (some (.ref f21))) (l21:K.lookup f21=some ⟨oc21,od21,.func (W.fnOf "_law_system" "_law_system" (aT fZ) (aQ fZ) (av fZ) .none kV21 dc21 pm21 an21 cd21 ct21),sl21⟩) (c21:W.codeIn K cd21 "_law_system"=true) (k21:W.keepIn K (.ref f21)=true)
  (a22:W.nsIn K mainGlobals "tops_over"=some (some (.ref f22))) (l22:K.lookup f22=some ⟨oc22,od22,.func (W.fnOf "tops_over" "tops_over" (aT jb) (aQ jb) (av jb) .none kV22 dc22 pm22 an22 cd22 ct22),sl22⟩) (c22:W.codeIn K cd22 "tops_over"=true) (k22:W.keepIn K (.ref f22)=true)
  (a23:W.nsIn K mainGlobals "common_multiple"=some (some (.ref f23))) (l23:K.lookup f23=some ⟨oc23,od23,.func (W.fnOf "common_multiple" "common_multiple" (aT dO) (aQ dO) (av dO) .none kV23 dc23 pm23 an23 cd23 ct23),sl23⟩) (c23:W.codeIn K cd23 "common_multiple"=true) (k23:W.keepIn K (.ref f23)=true)
  (a24:W.nsIn K mainGlobals "common_bottom"=some (some (.ref f24))) (l24:K.lookup f24=some ⟨oc24,od24,.func (W.fnOf "common_bottom" "common_bottom" (aT eK) (aQ eK) (av eK) .none kV24 dc24 pm24 an24 cd24 ct24),sl24⟩) (c24:W.codeIn K cd24 "common_bottom"=true) (k24:W.keepIn K (.ref f24)=true)
  (a25:W.nsIn K mainGlobals "first_with"=some (some (.ref f25))) (l25:K.lookup f25=some ⟨oc25,od25,.func (W.fnOf "first_with" "first_with" (aT ia) (aQ ia) (av ia) .none kV25 dc25 pm25 an25 cd25 ct25),sl25⟩) (c25:W.codeIn K cd25 "first_with"=true) (k25:W.keepIn K (.ref f25)=true)
  (a26:W.nsIn K mainGlobals "cleared"=some (some (.ref f26))) (l26:K.lookup f26=some ⟨oc26,od26,.func (W.fnOf "cleared" "cleared" (aT nF) (aQ nF) (av nF) .none kV26 dc26 pm26 an26 cd26 ct26),sl26⟩) (c26:W.codeIn K cd26 "cleared"=true) (k26:W.keepIn K (.ref f26)=true)
  (a27:W.nsIn K mainGlobals "brought_up"=some (some (.ref f27))) (l27:K.lookup f27=some ⟨oc27,od27,.func (W.fnOf "brought_up" "brought_up" (aT ib) (aQ ib) (av ib) .none kV27 dc27 pm27 an27 cd27 ct27),sl27⟩) (c27:W.codeIn K cd27 "brought_up"=true) (k27:W.keepIn K (.ref f27)=true)
  (a28:W.nsIn K mainGlobals "swept"=some (some (.ref f28))) (l28:K.lookup f28=some ⟨oc28,od28,.func (W.fnOf "swept" "swept" (aT t8) (aQ t8) (av t8) .none kV28 dc28 pm28 an28 cd28 ct28),sl28⟩) (c28:W.codeIn K cd28 "swept"=true) (k28:W.keepIn K (.ref f28)=true)
  (a29:W.nsIn K mainGlobals "lowest"=some (some (.ref f29))) (l29:K.lookup f29=some ⟨oc29,od29,.func (W.fnOf "lowest" "lowest" (aT p0) (aQ p0) (av p0) .none kV29 dc29 pm29 an29 cd29 ct29),sl29⟩) (c29:W.codeIn K cd29 "lowest"=true) (k29:W.keepIn K (.ref f29)=true)
  (a30:W.nsIn K mainGlobals "reduced"=some (some (.ref f30))) (l30:K.lookup f30=some ⟨oc30,od30,.func (W.fnOf "reduced" "reduced" (aT nA) (aQ nA) (av nA) .none kV30 dc30 pm30 an30 cd30 ct30),sl30⟩) (c30:W.codeIn K cd30 "reduced"=true) (k30:W.keepIn K (.ref f30)=true)
  (a31:W.nsIn K mainGlobals "row_dot"=some (some (.ref f31))) (l31:K.lookup f31=some ⟨oc31,od31,.func (W.fnOf "row_dot" "row_dot" (aT nv) (aQ nv) (av nv) .none kV31 dc31 pm31 an31 cd31 ct31),sl31⟩) (c31:W.codeIn K cd31 "row_dot"=true) (k31:W.keepIn K (.ref f31)=true)
  (a32:W.nsIn K mainGlobals "grid_on"=some (some (.ref f32))) (l32:K.lookup f32=some ⟨oc32,od32,.func (W.fnOf "grid_on" "grid_on" (aT nE) (aQ nE) (av nE) .none kV32 dc32 pm32 an32 cd32 ct32),sl32⟩) (c32:W.codeIn K cd32 "grid_on"=true) (k32:W.keepIn K (.ref f32)=true)
  (a33:W.nsIn K mainGlobals "moved_rows"=some (some (.ref f33))) (l33:K.lookup f33=some ⟨oc33,od33,.func (W.fnOf "moved_rows" "moved_rows" (aT h9) (aQ h9) (av h9) .none kV33 dc33 pm33 an33 cd33 ct33),sl33⟩) (c33:W.codeIn K cd33 "moved_rows"=true) (k33:W.keepIn K (.ref f33)=true)
  (a34:W.nsIn K mainGlobals "reach_grown"=some (some (.ref f34))) (l34:K.lookup f34=some ⟨oc34,od34,.func (W.fnOf "reach_grown" "reach_grown" (aT fR) (aQ fR) (av fR) .none kV34 dc34 pm34 an34 cd34 ct34),sl34⟩) (c34:W.codeIn K cd34 "reach_grown"=true) (k34:W.keepIn K (.ref f34)=true)
  (a35:W.nsIn K mainGlobals "reach_rows"=some (some (.ref f35))) (l35:K.lookup f35=some ⟨oc35,od35,.func (W.fnOf "reach_rows" "reach_rows" (aT hZ) (aQ hZ) (av hZ) .none kV35 dc35 pm35 an35 cd35 ct35),sl35⟩) (c35:W.codeIn K cd35 "reach_rows"=true) (k35:W.keepIn K (.ref f35)=true)
  (a36:W.nsIn K mainGlobals "grid_turned"=some (some (.ref f36))) (l36:K.lookup f36=some ⟨oc36,od36,.func (W.fnOf "grid_turned" "grid_turned" (aT fV) (aQ fV) (av fV) .none kV36 dc36 pm36 an36 cd36 ct36),sl36⟩) (c36:W.codeIn K cd36 "grid_turned"=true) (k36:W.keepIn K (.ref f36)=true)
  (a37:W.findIn K (.ref C) "turned"=some (some (.ref f37))) (i37:W.isFn K (.ref f37)=true) (l37:K.lookup f37=some ⟨oc37,od37,.func (W.fnOf "turned" "System.turned" (aT eM) (aQ eM) (av eM) .none kV37 dc37 pm37 an37 cd37 ct37),sl37⟩) (c37:W.codeIn K cd37 "System.turned"=true) (k37:W.keepIn K (.ref f37)=true)
  (a38:W.nsIn K mainGlobals "unit_row"=some (some (.ref f38))) (l38:K.lookup f38=some ⟨oc38,od38,.func (W.fnOf "unit_row" "unit_row" (aT jZ) (aQ jZ) (av jZ) .none kV38 dc38 pm38 an38 cd38 ct38),sl38⟩) (c38:W.codeIn K cd38 "unit_row"=true) (k38:W.keepIn K (.ref f38)=true)
  (a39:W.nsIn K mainGlobals "leading_place"=some (some (.ref f39))) (l39:K.lookup f39=some ⟨oc39,od39,.func (W.fnOf "leading_place" "leading_place" (aT eJ) (aQ eJ) (av eJ) .none kV39 dc39 pm39 an39 cd39 ct39),sl39⟩) (c39:W.codeIn K cd39 "leading_place"=true) (k39:W.keepIn K (.ref f39)=true)
  (a40:W.nsIn K mainGlobals "leading"=some (some (.ref f40))) (l40:K.lookup f40=some ⟨oc40,od40,.func (W.fnOf "leading" "leading" (aT nC) (aQ nC) (av nC) .none kV40 dc40 pm40 an40 cd40 ct40),sl40⟩) (c40:W.codeIn K cd40 "leading"=true) (k40:W.keepIn K (.ref f40)=true)
  (a41:W.nsIn K mainGlobals "minus"=some (some (.ref f41))) (l41:K.lookup f41=some ⟨oc41,od41,.func (W.fnOf "minus" "minus" (aT uf) (aQ uf) (av uf) .none kV41 dc41 pm41 an41 cd41 ct41),sl41⟩) (c41:W.codeIn K cd41 "minus"=true) (k41:W.keepIn K (.ref f41)=true)
  (a42:W.nsIn K mainGlobals "null_at"=some (some (.ref f42))) (l42:K.lookup f42=some ⟨oc42,od42,.func (W.fnOf "null_at" "null_at" (aT nB) (aQ nB) (av nB) .none kV42 dc42 pm42 an42 cd42 ct42),sl42⟩) (c42:W.codeIn K cd42 "null_at"=true) (k42:W.keepIn K (.ref f42)=true)
  (a43:W.nsIn K mainGlobals "free_places"=some (some (.ref f43))) (l43:K.lookup f43=some ⟨oc43,od43,.func (W.fnOf "free_places" "free_places" (aT fW) (aQ fW) (av fW) .none kV43 dc43 pm43 an43 cd43 ct43),sl43⟩) (c43:W.codeIn K cd43 "free_places"=true) (k43:W.keepIn K (.ref f43)=true)
  (a44:W.nsIn K mainGlobals "nulls"=some (some (.ref f44))) (l44:K.lookup f44=some ⟨oc44,od44,.func (W.fnOf "nulls" "nulls" (aT ue) (aQ ue) (av ue) .none kV44 dc44 pm44 an44 cd44 ct44),sl44⟩) (c44:W.codeIn K cd44 "nulls"=true) (k44:W.keepIn K (.ref f44)=true)
  (a45:W.nsIn K mainGlobals "unseen_rows"=some (some (.ref f45))) (l45:K.lookup f45=some ⟨oc45,od45,.func (W.fnOf "unseen_rows" "unseen_rows" (aT fQ) (aQ fQ) (av fQ) .none kV45 dc45 pm45 an45 cd45 ct45),sl45⟩) (c45:W.codeIn K cd45 "unseen_rows"=true) (k45:W.keepIn K (.ref f45)=true)
  (a46:W.nsIn K mainGlobals "_law_quot"=some (some (.ref f46))) (l46:K.lookup f46=some ⟨oc46,od46,.func (W.fnOf "_law_quot" "_law_quot" (aT jg) (aQ jg) (av jg) .none kV46 dc46 pm46 an46 cd46 ct46),sl46⟩) (c46:W.codeIn K cd46 "_law_quot"=true) (k46:W.keepIn K (.ref f46)=true)
  (a47:W.nsIn K mainGlobals "_law_less"=some (some (.ref f47))) (l47:K.lookup f47=some ⟨oc47,od47,.func (W.fnOf "_law_less" "_law_less" (aT jm) (aQ jm) (av jm) .none kV47 dc47 pm47 an47 cd47 ct47),sl47⟩) (c47:W.codeIn K cd47 "_law_less"=true) (k47:W.keepIn K (.ref f47)=true)
  (a48:W.nsIn K mainGlobals "_law_minus"=some (some (.ref f48))) (l48:K.lookup f48=some ⟨oc48,od48,.func (W.fnOf "_law_minus" "_law_minus" (aT ig) (aQ ig) (av ig) .none kV48 dc48 pm48 an48 cd48 ct48),sl48⟩) (c48:W.codeIn K cd48 "_law_minus"=true) (k48:W.keepIn K (.ref f48)=true)
  (a49:W.nsIn K mainGlobals "_law_reduced"=some (some (.ref f49))) (l49:K.lookup f49=some ⟨oc49,od49,.func (W.fnOf "_law_reduced" "_law_reduced" (aT fk) (aQ fk) (av fk) .none kV49 dc49 pm49 an49 cd49 ct49),sl49⟩) (c49:W.codeIn K cd49 "_law_reduced"=true) (k49:W.keepIn K (.ref f49)=true)
  (a50:W.nsIn K mainGlobals "_law_within"=some (some (.ref f50))) (l50:K.lookup f50=some ⟨oc50,od50,.func (W.fnOf "_law_within" "_law_within" (aT fY) (aQ fY) (av fY) .none kV50 dc50 pm50 an50 cd50 ct50),sl50⟩) (c50:W.codeIn K cd50 "_law_within"=true) (k50:W.keepIn K (.ref f50)=true)
  (a51:W.nsIn K mainGlobals "_law_dot"=some (some (.ref f51))) (l51:K.lookup f51=some ⟨oc51,od51,.func (W.fnOf "_law_dot" "_law_dot" (aT j7) (aQ j7) (av j7) .none kV51 dc51 pm51 an51 cd51 ct51),sl51⟩) (c51:W.codeIn K cd51 "_law_dot"=true) (k51:W.keepIn K (.ref f51)=true)
  (a52:W.nsIn K mainGlobals "_law_look_rows"=some (some (.ref f52))) (l52:K.lookup f52=some ⟨oc52,od52,.func (W.fnOf "_law_look_rows" "_law_look_rows" (aT eh) (aQ eh) (av eh) .none kV52 dc52 pm52 an52 cd52 ct52),sl52⟩) (c52:W.codeIn K cd52 "_law_look_rows"=true) (k52:W.keepIn K (.ref f52)=true)
  (a53:W.nsIn K mainGlobals "flat"=some (some (.ref f53))) (l53:K.lookup f53=some ⟨oc53,od53,.func (W.fnOf "flat" "flat" (aT xJ) (aQ xJ) (av xJ) .none kV53 dc53 pm53 an53 cd53 ct53),sl53⟩) (c53:W.codeIn K cd53 "flat"=true) (k53:W.keepIn K (.ref f53)=true)
  (a54:W.nsIn K mainGlobals "additions"=some (some (.ref f54))) (l54:K.lookup f54=some ⟨oc54,od54,.func (W.fnOf "additions" "additions" (aT je) (aQ je) (av je) .none kV54 dc54 pm54 an54 cd54 ct54),sl54⟩) (c54:W.codeIn K cd54 "additions"=true) (k54:W.keepIn K (.ref f54)=true)
  (a55:W.nsIn K mainGlobals "nought_row"=some (some (.ref f55))) (l55:K.lookup f55=some ⟨oc55,od55,.func (W.fnOf "nought_row" "nought_row" (aT h8) (aQ h8) (av h8) .none kV55 dc55 pm55 an55 cd55 ct55),sl55⟩) (c55:W.codeIn K cd55 "nought_row"=true) (k55:W.keepIn K (.ref f55)=true)
  (a56:W.nsIn K mainGlobals "solved"=some (some (.ref f56))) (l56:K.lookup f56=some ⟨oc56,od56,.func (W.fnOf "solved" "solved" (aT pZ) (aQ pZ) (av pZ) .none kV56 dc56 pm56 an56 cd56 ct56),sl56⟩) (c56:W.codeIn K cd56 "solved"=true) (k56:W.keepIn K (.ref f56)=true)
  (a57:W.nsIn K mainGlobals "solve"=some (some (.ref f57))) (l57:K.lookup f57=some ⟨oc57,od57,.func (W.fnOf "solve" "solve" (aT t9) (aQ t9) (av t9) .none kV57 dc57 pm57 an57 cd57 ct57),sl57⟩) (c57:W.codeIn K cd57 "solve"=true) (k57:W.keepIn K (.ref f57)=true)
  (a58:W.nsIn K mainGlobals "weights_for"=some (some (.ref f58))) (l58:K.lookup f58=some ⟨oc58,od58,.func (W.fnOf "weights_for" "weights_for" (aT fP) (aQ fP) (av fP) .none kV58 dc58 pm58 an58 cd58 ct58),sl58⟩) (c58:W.codeIn K cd58 "weights_for"=true) (k58:W.keepIn K (.ref f58)=true)
  (a59:W.nsIn K mainGlobals "row_minus"=some (some (.ref f59))) (l59:K.lookup f59=some ⟨oc59,od59,.func (W.fnOf "row_minus" "row_minus" (aT jc) (aQ jc) (av jc) .none kV59 dc59 pm59 an59 cd59 ct59),sl59⟩) (c59:W.codeIn K cd59 "row_minus"=true) (k59:W.keepIn K (.ref f59)=true)
  (a60:W.findIn K (.ref C) "moved"=some (some (.ref f60))) (i60:W.isFn K (.ref f60)=true) (l60:K.lookup f60=some ⟨oc60,od60,.func (W.fnOf "moved" "System.moved" (aT fo) (aQ fo) (av fo) .none kV60 dc60 pm60 an60 cd60 ct60),sl60⟩) (c60:W.codeIn K cd60 "System.moved"=true) (k60:W.keepIn K (.ref f60)=true)
  (a61:W.nsIn K mainGlobals "course"=some (some (.ref f61))) (l61:K.lookup f61=some ⟨oc61,od61,.func (W.fnOf "course" "course" (aT p7) (aQ p7) (av p7) .none kV61 dc61 pm61 an61 cd61 ct61),sl61⟩) (c61:W.codeIn K cd61 "course"=true) (k61:W.keepIn K (.ref f61)=true)
  (a62:W.nsIn K mainGlobals "nothing_for"=some (some (.ref f62))) (l62:K.lookup f62=some ⟨oc62,od62,.func (W.fnOf "nothing_for" "nothing_for" (aT fU) (aQ fU) (av fU) .none kV62 dc62 pm62 an62 cd62 ct62),sl62⟩) (c62:W.codeIn K cd62 "nothing_for"=true) (k62:W.keepIn K (.ref f62)=true)
  (a63:W.nsIn K mainGlobals "lacking"=some (some (.ref f63))) (l63:K.lookup f63=some ⟨oc63,od63,.func (W.fnOf "lacking" "lacking" (aT nD) (aQ nD) (av nD) .none kV63 dc63 pm63 an63 cd63 ct63),sl63⟩) (c63:W.codeIn K cd63 "lacking"=true) (k63:W.keepIn K (.ref f63)=true)
  (a64:W.nsIn K mainGlobals "cut"=some (some (.ref f64))) (l64:K.lookup f64=some ⟨oc64,od64,.func (W.fnOf "cut" "cut" (aT Bh) (aQ Bh) (av Bh) .none kV64 dc64 pm64 an64 cd64 ct64),sl64⟩) (c64:W.codeIn K cd64 "cut"=true) (k64:W.keepIn K (.ref f64)=true)
  (a65:W.nsIn K mainGlobals "come"=some (some (.ref f65))) (l65:K.lookup f65=some ⟨oc65,od65,.func (W.fnOf "come" "come" (aT xK) (aQ xK) (av xK) .none kV65 dc65 pm65 an65 cd65 ct65),sl65⟩) (c65:W.codeIn K cd65 "come"=true) (k65:W.keepIn K (.ref f65)=true)
  (a66:W.nsIn K mainGlobals "told_by"=some (some (.ref f66))) (l66:K.lookup f66=some ⟨oc66,od66,.func (W.fnOf "told_by" "told_by" (aT nk) (aQ nk) (av nk) .none kV66 dc66 pm66 an66 cd66 ct66),sl66⟩) (c66:W.codeIn K cd66 "told_by"=true) (k66:W.keepIn K (.ref f66)=true)
  (a67:W.nsIn K mainGlobals "law"=some (some (.ref f67))) (l67:K.lookup f67=some ⟨oc67,od67,.func (W.fnOf "law" "law" (aT Bg) (aQ Bg) (av Bg) .none kV67 dc67 pm67 an67 cd67 ct67),sl67⟩) (c67:W.codeIn K cd67 "law"=true) (k67:W.keepIn K (.ref f67)=true)
  {m0:Addr} {mo0:Option Addr} {mn0:Nat} {ms0:Array (Option Value)} {mt0_0 mt0_1:Tok} (ca0:W.nsIn K mainGlobals "NOUGHT"=some (some (.ref m0))) (cl0:K.lookup m0=some ⟨.type "tuple",mo0,.seq #[.int 0 mt0_0,.int 1 mt0_1] mn0,ms0⟩)
  {m1:Addr} {mo1:Option Addr} {mn1:Nat} {ms1:Array (Option Value)} {mt1_0 mt1_1:Tok} (ca1:W.nsIn K mainGlobals "ONE"=some (some (.ref m1))) (cl1:K.lookup m1=some ⟨.type "tuple",mo1,.seq #[.int 1 mt1_0,.int 1 mt1_1] mn1,ms1⟩)
  {it0:Tok} (ci0:W.nsIn K mainGlobals "MOST_STATES"=some (some (.int 8 it0)))
  {it1:Tok} (ci1:W.nsIn K mainGlobals "MOST_PUTS"=some (some (.int 4 it1)))
  {it2:Tok} (ci2:W.nsIn K mainGlobals "MOST_LOOKS"=some (some (.int 4 it2)))
  (pg:W.plainGet K C Str.empty=true) (hd:W.hasDictIn K C=true) (po:W.plainOver K C=true) (sa:W.findIn K (.ref C) "__setattr__"=some (some (.builtin "object.__setattr__"))) (mk:W.makesIn K C=true) (kc:W.keepIn K (.ref C)=true)
  (n_move:W.findIn K (.ref C) "move"=some none)
  (n_states:W.findIn K (.ref C) "states"=some none)
  (n_put:W.findIn K (.ref C) "put"=some none)
  (n_ins:W.findIn K (.ref C) "ins"=some none)
  (n_look:W.findIn K (.ref C) "look"=some none)
  (n_outs:W.findIn K (.ref C) "outs"=some none)
  (z_abs:W.nsIn K mainGlobals "abs"=some none)
  (z_len:W.nsIn K mainGlobals "len"=some none)
  (z_min:W.nsIn K mainGlobals "min"=some none)
  (z_range:W.nsIn K mainGlobals "range"=some none)
  (z_int:W.nsIn K mainGlobals "int"=some none)
  (z_isinstance:W.nsIn K mainGlobals "isinstance"=some none)
  (z_list:W.nsIn K mainGlobals "list"=some none)
  (z_bool:W.nsIn K mainGlobals "bool"=some none)
  (z_tuple:W.nsIn K mainGlobals "tuple"=some none)
  (z_all:W.nsIn K mainGlobals "all"=some none)
  (z_enumerate:W.nsIn K mainGlobals "enumerate"=some none)
  (z_zip:W.nsIn K mainGlobals "zip"=some none)
  (z_sum:W.nsIn K mainGlobals "sum"=some none)
  (z_reversed:W.nsIn K mainGlobals "reversed"=some none)
  : ∃fd:FuncData,(∀(s:Shared) (v:Value),BindsTo s fd ⟨[v],[]⟩ [("_law_script",v)])/\∀base:Heap,K.In base->base.Ns mainGlobals mg->cI l.prog w K mg base gF 10 fa fd ["_law_script"] (Ce K):=by
 have e:=hfa.symm.trans (W.mg_of X G a67);cases e;have F0:=bF (st:=j8) l0 c0 k0;have F1:=bF (st:=jf) l1 c1 k1;have F2:=bF (st:=fG) l2 c2 k2;have F3:=bF (st:=j6) l3 c3 k3;have F4:=bF (st:=gA) l4 c4 k4;have F5:=bF (st:=j5) l5 c5 k5;have F6:=bF (st:=jk) l6 c6 k6;have F7:=bF (st:=j4) l7 c7 k7;have F8:=bF (st:=ji) l8 c8 k8;have F9:=bF (st:=jh) l9 c9 k9;have F10:=bF (st:=nG) l10 c10 k10;have F11:=bF (st:=ie) l11 c11 k11;have F12:=bF (st:=ic) l12 c12 k12;have F13:=bF (st:=ja) l13 c13 k13;have F14:=bF (st:=j3) l14 c14 k14;have F15:=bF (st:=ee) l15 c15 k15;have F16:=bF (st:=jd) l16 c16 k16;have F17:=bF (st:=p6) l17 c17 k17;have F18:=bF (st:=fX) l18 c18 k18;have F19:=bF (st:=dP) l19 c19 k19;have F20:=bF (st:=gB) l20 c20 k20;have F21:=bF (st:=fZ) l21 c21 k21;have F22:=bF (st:=jb) l22 c22 k22;have F23:=bF (st:=dO) l23 c23 k23;have F24:=bF (st:=eK) l24 c24 k24;have F25:=bF (st:=ia) l25 c25 k25;have F26:=bF (st:=nF) l26 c26 k26;have F27:=bF (st:=ib) l27 c27 k27;have F28:=bF (st:=t8) l28 c28 k28;have F29:=bF (st:=p0) l29 c29 k29;have F30:=bF (st:=nA) l30 c30 k30;have F31:=bF (st:=nv) l31 c31 k31;have F32:=bF (st:=nE) l32 c32 k32;have F33:=bF (st:=h9) l33 c33 k33;have F34:=bF (st:=fR) l34 c34 k34;have F35:=bF (st:=hZ) l35 c35 k35;have F36:=bF (st:=fV) l36 c36 k36;have F37:=bF (st:=eM) l37 c37 k37;have F38:=bF (st:=jZ) l38 c38 k38;have F39:=bF (st:=eJ) l39 c39 k39;have F40:=bF (st:=nC) l40 c40 k40;have F41:=bF (st:=uf) l41 c41 k41;have F42:=bF (st:=nB) l42 c42 k42;have F43:=bF (st:=fW) l43 c43 k43;have F44:=bF (st:=ue) l44 c44 k44;have F45:=bF (st:=fQ) l45 c45 k45;have F46:=bF (st:=jg) l46 c46 k46;have F47:=bF (st:=jm) l47 c47 k47;have F48:=bF (st:=ig) l48 c48 k48;have F49:=bF (st:=fk) l49 c49 k49;have F50:=bF (st:=fY) l50 c50 k50;have F51:=bF (st:=j7) l51 c51 k51;have F52:=bF (st:=eh) l52 c52 k52;have F53:=bF (st:=xJ) l53 c53 k53;have F54:=bF (st:=je) l54 c54 k54;have F55:=bF (st:=h8) l55 c55 k55;have F56:=bF (st:=pZ) l56 c56 k56;have F57:=bF (st:=t9) l57 c57 k57;have F58:=bF (st:=fP) l58 c58 k58;have F59:=bF (st:=jc) l59 c59 k59;have F60:=bF (st:=fo) l60 c60 k60;have F61:=bF (st:=p7) l61 c61 k61;have F62:=bF (st:=fU) l62 c62 k62;have F63:=bF (st:=nD) l63 c63 k63;have F64:=bF (st:=Bh) l64 c64 k64;have F65:=bF (st:=xK) l65 c65 k65;have F66:=bF (st:=nk) l66 c66 k66;have F67:=bF (st:=Bg) l67 c67 k67
 have T:Txt K mg { rL:=f0,rj:=_,o5:=f1,oK:=_,mY:=f2,mP:=_,rJ:=f3,rg:=_,lA:=f4,kK:=_,rH:=f5,qZ:=_,o9:=f6,oP:=_,rG:=f7,qY:=_,o8:=f8,oO:=_,o7:=f9,oN:=_,uM:=f10,uA:=_,m3:=f11,mR:=_,mZ:=f12,mQ:=_,oV:=f13,oF:=_,rF:=f14,qX:=_,iC:=f15,ir:=_,oY:=f16,oI:=_,xp:=f17,w5:=_,kY:=f18,kH:=_,gL:=f19,gJ:=_,lB:=f20,kL:=_,lh:=f21,kJ:=_,oW:=f22,oG:=_,gK:=f23,gI:=_,iU:=f24,iP:=_,mW:=f25,mN:=_,uL:=f26,uz:=_,mX:=f27,mO:=_,y8:=f28,yX:=_,xo:=f29,wZ:=_,uG:=f30,uu:=_,uF:=f31,uo:=_,uK:=f32,uy:=_,mV:=f33,mM:=_,kT:=f34,kD:=_,mT:=f35,mK:=_,kW:=f36,kF:=_,iV:=f37,iQ:=_,rE:=f38,qW:=_,iT:=f39,iO:=_,uI:=f40,uw:=_,zb:=f41,y7:=_,uH:=f42,uv:=_,kX:=f43,kG:=_,za:=f44,yZ:=_,kS:=f45,kC:=_,o6:=f46,oM:=_,pe:=f47,oQ:=_,m4:=f48,mS:=_,jR:=f49,jN:=_,kZ:=f50,kI:=_,rK:=f51,rh:=_,iD:=f52,iu:=_,C4:=f53,CU:=_,oZ:=f54,oJ:=_,mU:=f55,mL:=_,xn:=f56,wY:=_,y9:=f57,yY:=_,kR:=f58,kB:=_,oX:=f59,oH:=_,jS:=f60,jO:=_,xu:=f61,xa:=_,kU:=f62,kE:=_,uJ:=f63,ux:=_,GP:=f64,GB:=_,C5:=f65,CV:=_,uE:=f66,uj:=_,KO:=fa,Ky:=_,a_NOUGHT:=m0,a_ONE:=m1,t_MOST_STATES:=it0,t_MOST_PUTS:=it1,t_MOST_LOOKS:=it2,a_System:=C }:={
  yt:=W.mg_of X G a0
  Aw:=F0.binds (ps:=["_law_script"]) fun _ _ _ _ _ _=>by refine Ir ?_;intros;rfl
  vZ:=F0
  bR:=W.mg_of X G a1
  bV:=F1.binds (ps:=["_law_bag_here","_law_many"]) fun _ _ _ _ _ _=>by refine ln2 ?_;intros;rfl
  bU:=F1
  vg:=W.mg_of X G a2
  xj:=F2.binds (ps:=["_law_bag_here"]) fun _ _ _ _ _ _=>by refine Ir ?_;intros;rfl
  rT:=F2
  fz:=W.mg_of X G a3
  gZ:=F3.binds (ps:=["_law_top","_law_bottom"]) fun _ _ _ _ _ _=>by refine ln2 ?_;intros;rfl
  fI:=F3
  oh:=W.mg_of X G a4
  pP:=F4.binds (ps:=["_law_bag_here","_law_wide"]) fun _ _ _ _ _ _=>by refine ln2 ?_;intros;rfl
  lE:=F4
  lQ:=W.mg_of X G a5
  oo:=F5.binds (ps:=["_law_bag_here","_law_many","_law_wide"]) fun _ _ _ _ _ _=>by refine Iq ?_;intros;rfl
  kr:=F5
  wL:=W.mg_of X G a6
  yA:=F6.binds (ps:=["_law_bag_here","_law_n","_law_way","_law_first","_law_wide"]) fun _ _ _ _ _ _=>by refine ln5 ?_;intros;rfl
  tV:=F6
  lO:=W.mg_of X G a7
  oj:=F7.binds (ps:=["_law_one","_law_other"]) fun _ _ _ _ _ _=>by refine ln2 ?_;intros;rfl
  ko:=F7
  qT:=W.mg_of X G a8
  tJ:=F8.binds (ps:=["_law_one","_law_other"]) fun _ _ _ _ _ _=>by refine ln2 ?_;intros;rfl
  ph:=F8
  jL:=W.mg_of X G a9
  lU:=F9.binds (ps:=["_law_one","_law_other"]) fun _ _ _ _ _ _=>by refine ln2 ?_;intros;rfl
  ju:=F9
  kg:=W.mg_of X G a10
  nH:=F10.binds (ps:=["_law_factor","_law_row_here"]) fun _ _ _ _ _ _=>by refine ln2 ?_;intros;rfl
  kv:=F10
  vm:=W.mg_of X G a11
  xl:=F11.binds (ps:=["_law_bag_here","_law_move_here","_law_put","_law_look"]) fun _ _ _ _ _ _=>by refine Pw ?_;intros;rfl
  rW:=F11
  vh:=W.mg_of X G a12
  xk:=F12.binds (ps:=["_law_bag_here","_law_n","_law_ins","_law_outs","_law_wide"]) fun _ _ _ _ _ _=>by refine ln5 ?_;intros;rfl
  rV:=F12
  mH:=W.mg_of X G a13
  oS:=F13.binds (ps:=["thing","at","most"]) fun _ _ _ _ _ _=>by refine Iq ?_;intros;rfl
  lW:=F13
  tj:=W.mg_of X G a14
  vU:=F14.binds (ps:=["thing"]) fun _ _ _ _ _ _=>by refine Ir ?_;intros;rfl
  rQ:=F14
  gH:=W.mg_of X G a15
  iB:=F15.binds (ps:=["one","other"]) fun _ _ _ _ _ _=>by refine ln2 ?_;intros;rfl
  fu:=F15
  wI:=W.mg_of X G a16
  yx:=F16.binds (ps:=["thing"]) fun _ _ _ _ _ _=>by refine Ir ?_;intros;rfl
  tS:=F16
  Bu:=W.mg_of X G a17
  Ej:=F17.binds (ps:=["thing","many"]) fun _ _ _ _ _ _=>by refine ln2 ?_;intros;rfl
  Az:=F17
  jK:=W.mg_of X G a18
  kO:=F18.binds (ps:=["things","wide"]) fun _ _ _ _ _ _=>by refine ln2 ?_;intros;rfl
  iK:=F18
  jQ:=F19.binds (ps:=["self","move","put","look"]) fun _ _ _ _ _ _=>by refine Pw ?_;intros;rfl
  pz:=F19
  jM:=W.mg_of X G a20
  kQ:=F20.binds (ps:=["_law_grid"]) fun _ _ _ _ _ _=>by refine Ir ?_;intros;rfl
  iL:=F20
  tx:=W.mg_of X G a21
  vq:=F21.binds (ps:=["_law_parts_here"]) fun _ _ _ _ _ _=>by refine Ir ?_;intros;rfl
  pV:=F21
  mI:=W.mg_of X G a22
  oT:=F22.binds (ps:=["row","bottom"]) fun _ _ _ _ _ _=>by refine ln2 ?_;intros;rfl
  lX:=F22
  og:=W.mg_of X G a23
  oU:=F23.binds (ps:=["wholes"]) fun _ _ _ _ _ _=>by refine Ir ?_;intros;rfl
  jU:=F23
  ip:=W.mg_of X G a24
  iS:=F24.binds (ps:=["row"]) fun _ _ _ _ _ _=>by refine Ir ?_;intros;rfl
  fO:=F24
  vd:=W.mg_of X G a25
  xh:=F25.binds (ps:=["lines","begin","place"]) fun _ _ _ _ _ _=>by refine Iq ?_;intros;rfl
  rR:=F25
  Ae:=W.mg_of X G a26
  BS:=F26.binds (ps:=["lines","at","place","before"]) fun _ _ _ _ _ _=>by refine Pw ?_;intros;rfl
  yh:=F26
  ve:=W.mg_of X G a27
  xi:=F27.binds (ps:=["lines","at","to"]) fun _ _ _ _ _ _=>by refine Iq ?_;intros;rfl
  rS:=F27
  z9:=W.mg_of X G a28
  C0:=F28.binds (ps:=["rows","wide"]) fun _ _ _ _ _ _=>by refine ln2 ?_;intros;rfl
  ze:=F28
  qg:=W.mg_of X G a29
  tI:=F29.binds (ps:=["top","bottom"]) fun _ _ _ _ _ _=>by refine ln2 ?_;intros;rfl
  qB:=F29
  qS:=W.mg_of X G a30
  uC:=F30.binds (ps:=["rows","wide"]) fun _ _ _ _ _ _=>by refine ln2 ?_;intros;rfl
  qA:=F30
  vM:=W.mg_of X G a31
  xY:=F31.binds (ps:=["one","other"]) fun _ _ _ _ _ _=>by refine ln2 ?_;intros;rfl
  uO:=F31
  Ad:=W.mg_of X G a32
  BR:=F32.binds (ps:=["grid","row"]) fun _ _ _ _ _ _=>by refine ln2 ?_;intros;rfl
  yg:=F32
  pL:=W.mg_of X G a33
  rC:=F33.binds (ps:=["system","rows"]) fun _ _ _ _ _ _=>by refine ln2 ?_;intros;rfl
  m6:=F33
  nZ:=W.mg_of X G a34
  pN:=F34.binds (ps:=["system","steps"]) fun _ _ _ _ _ _=>by refine ln2 ?_;intros;rfl
  lC:=F34
  u9:=W.mg_of X G a35
  xg:=F35.binds (ps:=["system","steps"]) fun _ _ _ _ _ _=>by refine ln2 ?_;intros;rfl
  rP:=F35
  gX:=W.mg_of X G a36
  iI:=F36.binds (ps:=["grid","wide"]) fun _ _ _ _ _ _=>by refine ln2 ?_;intros;rfl
  gE:=F36
  kh:=⟨a37,i37,k37⟩
  mf:=F37.binds (ps:=["self"]) fun _ _ _ _ _ _=>by refine Ir ?_;intros;rfl
  sC:=F37
  yp:=W.mg_of X G a38
  As:=F38.binds (ps:=["many","at"]) fun _ _ _ _ _ _=>by refine ln2 ?_;intros;rfl
  vX:=F38
  qh:=W.mg_of X G a39
  sv:=F39.binds (ps:=["row"]) fun _ _ _ _ _ _=>by refine Ir ?_;intros;rfl
  mi:=F39
  vO:=W.mg_of X G a40
  xZ:=F40.binds (ps:=["rows"]) fun _ _ _ _ _ _=>by refine Ir ?_;intros;rfl
  uP:=F40
  Ab:=W.mg_of X G a41
  C1:=F41.binds (ps:=["one","other"]) fun _ _ _ _ _ _=>by refine ln2 ?_;intros;rfl
  zg:=F41
  Aa:=W.mg_of X G a42
  BP:=F42.binds (ps:=["rows","wide","at"]) fun _ _ _ _ _ _=>by refine Iq ?_;intros;rfl
  yd:=F42
  tu:=W.mg_of X G a43
  vo:=F43.binds (ps:=["rows","wide"]) fun _ _ _ _ _ _=>by refine ln2 ?_;intros;rfl
  pT:=F43
  DX:=W.mg_of X G a44
  GK:=F44.binds (ps:=["rows","wide"]) fun _ _ _ _ _ _=>by refine ln2 ?_;intros;rfl
  C9:=F44
  gW:=W.mg_of X G a45
  iH:=F45.binds (ps:=["system","steps"]) fun _ _ _ _ _ _=>by refine ln2 ?_;intros;rfl
  gD:=F45
  wK:=W.mg_of X G a46
  yz:=F46.binds (ps:=["_law_one","_law_other"]) fun _ _ _ _ _ _=>by refine ln2 ?_;intros;rfl
  tU:=F46
  wM:=W.mg_of X G a47
  yB:=F47.binds (ps:=["_law_one","_law_other"]) fun _ _ _ _ _ _=>by refine ln2 ?_;intros;rfl
  tW:=F47
  pM:=W.mg_of X G a48
  rD:=F48.binds (ps:=["_law_one","_law_other"]) fun _ _ _ _ _ _=>by refine ln2 ?_;intros;rfl
  m7:=F48
  me:=W.mg_of X G a49
  oq:=F49.binds (ps:=["_law_rows","_law_wide"]) fun _ _ _ _ _ _=>by refine ln2 ?_;intros;rfl
  jV:=F49
  tw:=W.mg_of X G a50
  vp:=F50.binds (ps:=["_law_rows","_law_others","_law_n"]) fun _ _ _ _ _ _=>by refine Iq ?_;intros;rfl
  pU:=F50
  yr:=W.mg_of X G a51
  Av:=F51.binds (ps:=["_law_one","_law_other"]) fun _ _ _ _ _ _=>by refine ln2 ?_;intros;rfl
  vY:=F51
  oC:=W.mg_of X G a52
  qq:=F52.binds (ps:=["_law_parts_here","_law_steps"]) fun _ _ _ _ _ _=>by refine ln2 ?_;intros;rfl
  ku:=F52
  FY:=W.mg_of X G a53
  KI:=F53.binds (ps:=["lists"]) fun _ _ _ _ _ _=>by refine Ir ?_;intros;rfl
  FC:=F53
  wJ:=W.mg_of X G a54
  yy:=F54.binds (ps:=["system","steps"]) fun _ _ _ _ _ _=>by refine ln2 ?_;intros;rfl
  tT:=F54
  iG:=W.mg_of X G a55
  jP:=F55.binds (ps:=["many"]) fun _ _ _ _ _ _=>by refine Ir ?_;intros;rfl
  iE:=F55
  xQ:=W.mg_of X G a56
  Au:=F56.binds (ps:=["rows","wide","due"]) fun _ _ _ _ _ _=>by refine Iq ?_;intros;rfl
  xv:=F56
  DW:=W.mg_of X G a57
  GI:=F57.binds (ps:=["rows","wide","due"]) fun _ _ _ _ _ _=>by refine Iq ?_;intros;rfl
  C8:=F57
  td:=W.mg_of X G a58
  vn:=F58.binds (ps:=["rows","wide","row"]) fun _ _ _ _ _ _=>by refine Iq ?_;intros;rfl
  pS:=F58
  wH:=W.mg_of X G a59
  yw:=F59.binds (ps:=["one","other"]) fun _ _ _ _ _ _=>by refine ln2 ?_;intros;rfl
  tR:=F59
  so:=⟨a60,i60,k60⟩
  tK:=F60.binds (ps:=["self","state","puts"]) fun _ _ _ _ _ _=>by refine Iq ?_;intros;rfl
  tX:=F60
  Bv:=W.mg_of X G a61
  Ek:=F61.binds (ps:=["system","start","puts"]) fun _ _ _ _ _ _=>by refine Iq ?_;intros;rfl
  AA:=F61
  oa:=W.mg_of X G a62
  pO:=F62.binds (ps:=["system","steps"]) fun _ _ _ _ _ _=>by refine ln2 ?_;intros;rfl
  lD:=F62
  Ac:=W.mg_of X G a63
  BQ:=F63.binds (ps:=["system","start","goal","steps"]) fun _ _ _ _ _ _=>by refine Pw ?_;intros;rfl
  ye:=F63
  JX:=W.mg_of X G a64
  M6:=F64.binds (ps:=["row","many","wide"]) fun _ _ _ _ _ _=>by refine Iq ?_;intros;rfl
  KR:=F64
  FZ:=W.mg_of X G a65
  KJ:=F65.binds (ps:=["system","start","goal","steps"]) fun _ _ _ _ _ _=>by refine Pw ?_;intros;rfl
  FD:=F65
  vL:=W.mg_of X G a66
  xX:=F66.binds (ps:=["system","asked","steps"]) fun _ _ _ _ _ _=>by refine Iq ?_;intros;rfl
  uN:=F66
  Nb:=F67
  abs:=W.mg_none_of X G z_abs
  len:=W.mg_none_of X G z_len
  min:=W.mg_none_of X G z_min
  range:=W.mg_none_of X G z_range
  int:=W.mg_none_of X G z_int
  isinstance:=W.mg_none_of X G z_isinstance
  list:=W.mg_none_of X G z_list
  bool:=W.mg_none_of X G z_bool
  tuple:=W.mg_none_of X G z_tuple
  all:=W.mg_none_of X G z_all
  enumerate:=W.mg_none_of X G z_enumerate
  zip:=W.mg_none_of X G z_zip
  sum:=W.mg_none_of X G z_sum
  reversed:=W.mg_none_of X G z_reversed
  mg_NOUGHT:=W.mg_of X G ca0
  sq_NOUGHT:=fun H=>.inr ⟨_,_,_,cl0,rfl,rfl,jA rfl,.cons ⟨_,rfl⟩ (.cons ⟨_,rfl⟩ (.nil))⟩
  mg_ONE:=W.mg_of X G ca1
  sq_ONE:=fun H=>.inr ⟨_,_,_,cl1,rfl,rfl,jA rfl,.cons ⟨_,rfl⟩ (.cons ⟨_,rfl⟩ (.nil))⟩
  mg_MOST_STATES:=W.mg_of X G ci0
  mg_MOST_PUTS:=W.mg_of X G ci1
  mg_MOST_LOOKS:=W.mg_of X G ci2
  mg_System:=W.mg_of X G aC
  cl_System:=⟨pg,hd,po,sa⟩
  na_move:=n_move
  na_states:=n_states
  na_put:=n_put
  na_ins:=n_ins
  na_look:=n_look
  na_outs:=n_outs
  mk_System:=⟨mk,a19,i19,kc⟩ }
 exact ⟨_,fun s v=>.of_eq rfl,fun base _ _=>Ob T⟩
theorem walk {l:W.OpenLaw} {q:Program} {loose:List Str} {XP:(Str->Option Value)->Heap->Prop} {YP:World->Heap->Prop} {d:DefRec} {K:Params->W.Frag} (hn:l.most=some 63) (hdf:d.params.defaults=[])
  (hY:∀(w:World) (h:Heap),YP w h->(K w.params).In h)
  (F:∀(w:World) (mg:Str->Option Value) (fa:Addr) (h:Heap),(K w.params).In h->h.Ns mainGlobals mg->mg d.name=some (.ref fa) →
   ∃fd:FuncData,(∀(s:Shared) (u:Value),BindsTo s fd ⟨[u],[]⟩ [("_law_script",u)])/\∀base:Heap,(K w.params).In base->base.Ns mainGlobals mg->cI l.prog w (K w.params) mg base gF 10 fa fd ["_law_script"] (Ce (K w.params))) :
  W.WalkO q loose XP YP l.row.toRowW d [] (fun f vs=>PySem.call f vs) :=
 L2.K7 (n:=63) (k:=10) (x:="_law_script") (CX:=fun _=>gF) (sp:=fun w=>Ce (K w.params)) hn (by decide) hdf ⟨rfl,by decide,by decide⟩ hY F (fun _ _ a ns hl _ hS=>⟨a,ns,rfl,hS,hl,fun _=>rfl⟩) fun _ _ _ _ _ z=>z
end Lw
namespace PySem.W.Fast
def tw4746586482977016918:=()
def tw11624018058094240514:=()
def tw5843637877298850717:=()
def tw12981355352046187259:=()
def tw2284187169979085735:=()
def tw17947027584669258555:=()
def tw5723891010653503523:=()
def tw2499318235603568240:=()
def tw1725530989036652906:=()
def tw5036931002747078053:=()
def tw3496950593211399639:=()
def tw6630320631837352021:=()
def tw18307185450963174218:=()
def tw17943982602549925812:=()
def tw17611636240700488112:=()
def tw16749389575442356366:=()
def tw9949870173478235692:=()
def tw9930174174640969879:=()
def tw8168684936546829015:=()
def tw17421979562246435236:=()
def tw15278719354560976788:=()
def tw5293997017175536576:=()
def tw14024779956038559500:=()
def tw11709939156588798512:=()
def tw17637211534803074141:=()
def tw14828568937585176982:=()
def tw11959252809112322964:=()
def tw6118685068880106657:=()
def tw4387325768900913161:=()
def tw5145324840020827876:=()
def tw11084119080456946199:=()
def tw3182674971220331077:=()
def tw18075457589056831118:=()
def tw12062569455699143836:=()
def tw5451528835898546783:=()
def tw12023728449711744207:=()
def tw14164114034613092949:=()
def tw6666896202986561413:=()
def tw10118613190457260152:=()
def tw2924970790413702664:=()
def tw5468366793752464602:=()
def tw6876946527462767912:=()
def tw3303428465578841569:=()
def tw7639700528374544091:=()
def tw11384433694181666349:=()
def tw7826310979163794518:=()
def tw5093280925464855144:=()
def tw16446824928733263401:=()
def tw13807445551169423874:=()
def tw1548919822040847800:=()
def tw14729865155124668110:=()
def tw5076297379628175418:=()
def tw1490307765969048568:=()
def tw5983923599207771130:=()
def tw16931966902221144412:=()
def tw1939542531756321926:=()
def tw15438130443945230054:=()
def tw14688429086604867540:=()
def tw12478154409689920175:=()
def tw10020607714462381597:=()
def tw12537019519956495539:=()
def tw11687646821373161537:=()
def tw6604299205408732139:=()
def tw17572911981952374610:=()
def tw10445304099365318249:=()
def tw8285334180823123261:=()
def tw7050168859149056528:=()
def tw4919920839918986328:=()
def tw9582362372251008598:=()
def tw11090099108805158715:=()
def tw10354282269771835421:=()
def tw13371991605246205669:=()
def tw3675887724421645951:=()
def tw12737581191609840806:=()
def tw7556081614801332055:=()
def tw4832804777883731949:=()
def tw9618841171051219528:=()
def tw10478079656265854511:=()
def tw12139499482322872136:=()
def tw16328170302547029958:=()
def tw10099884856716325375:=()
def tw11033972049214629212:=()
def tw17251191710121107179:=()
def tw3604724451745978298:=()
def tw2462012811789500266:=()
def tw2114483741430329355:=()
def tw6550615331187753576:=()
def tw7297315298576759422:=()
def tw9965090323821122153:=()
def tw17929464507641654177:=()
def tw18128328577585012770:=()
def tw8554400473480889687:=()
def tw461734690708268966:=()
def tw17581437016716477346:=()
def tw2808105338978294250:=()
def tw11778969422869463802:=()
def tw16544967317469346749:=()
def tw5568234105214924011:=()
def tw10082134547270590792:=()
def tw16225135252731560610:=()
def tw14692380757215882776:=()
def tw9883583835423815842:=()
def tw2518177541413234226:=()
def tw17190236101030941842:=()
def tw1918836499498338379:=()
def tw788373462987770906:=()
def tw16795248595159975221:=()
def tw2268392930657509627:=()
def tw14491016847206594059:=()
def tw5615163215679744988:=()
def tw4002172078812243326:=()
def tw10662137093119653008:=()
def tw6187223615284933061:=()
def tw11701798513407026188:=()
def tw14554845702632037297:=()
def tw12786341008100749696:=()
def tw6610556961253655431:=()
def tw6823006986261971008:=()
def tw11584122836038714843:=()
def tw5296151756922808078:=()
def tw7644474023336783047:=()
def tw11145528579352874020:=()
def tw15232745078945170914:=()
def tw8859466602992888931:=()
def tw6023458446945628861:=()
def tw17047824614015528930:=()
def tw15814125160670378689:=()
def tw12384120816408058054:=()
def tw12753131387210986127:=()
def tw17310440590122917145:=()
def tw10142220641820301715:=()
def tw3517099913777030215:=()
def tw16257542978302554695:=()
def tw873909776900233908:=()
def tw13291542443884298739:=()
def tw9600089125024746764:=()
def tw13196229936359118283:=()
def tw15669981560090841120:=()
def tw11162184058471167134:=()
def tw18388247652649457826:=()
def tw5376725511873687779:=()
def tw5322945488502583351:=()
def tw17545116227225284878:=()
def tw1740551955185347572:=()
def tw10295649843173036661:=()
def tw2364382511161101278:=()
def tw3745800100955133020:=()
def tw1896006589089213267:=()
def tw14520514004115828767:=()
def tw10849264299194891750:=()
def tw813990280698782072:=()
def tw2154453054303708655:=()
def tw545827977765220117:=()
def tw60656405980435241:=()
def tw4168424786704600806:=()
def tw10661721929495536618:=()
def tw13064165175055076363:=()
def tw4978232264223475490:=()
def tw8120792688403973431:=()
def tw8644060895608846160:=()
def tw9299673733935928969:=()
def tw15802824124246211540:=()
def tw8039521247639383121:=()
def tw16133552509387599203:=()
def tw17636729910132607523:=()
def tw2166348206481237916:=()
def tw17123478225733428829:=()
def tw3655412990602456219:=()
def tw16526754146469335453:=()
def tw3066874833746487088:=()
def tw15094958277265781402:=()
def tw13456137622013087559:=()
def tw3293176280949551012:=()
def tw11996484428373518195:=()
def tw13810122795978416764:=()
def tw3383730987768644625:=()
def tw15867328575005944633:=()
def tw13886435375144694834:=()
def tw6189396170388817107:=()
def tw17978536032301739192:=()
def tw18233094603029905453:=()
def tw6119270599986087369:=()
def tw8798955618095276141:=()
def tw2596283954290215410:=()
def tw16782438364462249109:=()
def tw11132830871831851032:=()
def tw6700047510765195754:=()
def tw17784091148891409192:=()
def tw14743159739421482055:=()
def tw18405012546050460947:=()
def tw6889118582297204683:=()
def tw3765020995654763171:=()
def tw8648511229689234571:=()
def tw9518165382893914739:=()
def tw1379813631378567490:=()
def tw14506402764449277271:=()
def tw7762162618658736683:=()
def tw3807863313219490324:=()
def tw13258937663604822396:=()
def tw16410948806999586938:=()
def tw4762755487951329544:=()
def tw10354397036728915499:=()
def tw17308013906900233979:=()
def tw16724379469164741026:=()
def tw12727641767243933826:=()
def tw6226040974583291738:=()
def tw7141609890695276522:=()
def tw5750279509549246410:=()
def tw8931501599052898253:=()
def tw14424279699722385988:=()
def tw1225945566312536705:=()
def tw5765767267728279218:=()
def tw4682729462692835958:=()
def tw8700585896381054455:=()
def tw4209776176036270408:=()
def tw1070089087680693663:=()
def tw9920600121539353001:=()
def tw10617586166688669549:=()
def tw15903808446170700867:=()
def tw353649466672254283:=()
def tw10745033226037238615:=()
def tw5641451933838213344:=()
def tw17834709149060198803:=()
def tw3243397818464601394:=()
def tw17378106802479157322:=()
def tw7442770958843196928:=()
def tw15858003462459018192:=()
def tw1074550438346425069:=()
def tw13764541921241683077:=()
def tw11933589005279439456:=()
def tw9663202410526195126:=()
def tw17366538338501976511:=()
def tw3564337961255874661:=()
def tw11565518596061003880:=()
def tw17752109397755616670:=()
def tw7750801272561410212:=()
def tw13285825191622722542:=()
def tw10451398322711120569:=()
def tw15949958969888482108:=()
def tw18016174250024792861:=()
def tw2091011744483192115:=()
def tw18385662651590146628:=()
def tw3024939687307013792:=()
def tw11716799614290200729:=()
def tw16810621740803415027:=()
def tw12103123829882176664:=()
def tw4168911321273708283:=()
def tw16146281421702973197:=()
def tw14736218800030667995:=()
def tw15864113523558237929:=()
def tw17633820272934728610:=()
def tw921529086194609859:=()
def tw18048263639874073093:=()
def tw4644064111410468500:=()
def tw10888287391771265014:=()
def tw4500015817512453228:=()
def tw3991733078111290951:=()
def tw8505822269699131701:=()
def tw13097313271177185879:=()
def tw4455497193847034652:=()
def tw8678598164831495555:=()
def tw899711592847203954:=()
def tw5706196647854170889:=()
def tw16250903455899594048:=()
def tw11950455625540772028:=()
def tw16578604817078236272:=()
def tw14739828166853506973:=()
def tw17309535569274459569:=()
def tw2685987784559084941:=()
def tw13446681887874751216:=()
def tw1921014075995128282:=()
def tw14816636345273176388:=()
def tw18150629944540990198:=()
def tw2834726260363864428:=()
def tw3940524377292674217:=()
def tw2473250577332386133:=()
def tw16152598245348852720:=()
def tw7847421039876270621:=()
def tw1229298183798799895:=()
def tw1989191477366075651:=()
def tw5764153087218998333:=()
def tw11562991488548348819:=()
def tw1955208097686054321:=()
def tw752593383404802013:=()
def tw16999717839432864:=()
def tw3677783127046247835:=()
def tw7798606463765541332:=()
def tw8256343976765140075:=()
def tw15780558142423313205:=()
def tw8120513608706084388:=()
def tw11786367148606387184:=()
def tw8006686984619856041:=()
def tw12103908580394894196:=()
def tw3621429205185159256:=()
def tw9459481421951763181:=()
def tw757753104596760675:=()
def tw16555188499093578470:=()
def tw11319426193680633198:=()
def tw17298867108576649830:=()
def tw8757972787841206721:=()
def tw7043692440299763846:=()
def tw2835040484106559198:=()
def tw8517617961853651466:=()
def tw17768817555427276331:=()
def tw13127795759059151999:=()
def tw3921014492356456431:=()
def tw7160248864068463453:=()
def tw16062212648924402586:=()
def tw18329120082172768570:=()
def tw16878317657582303703:=()
def tw12290285481871041241:=()
def tw16172479081026618020:=()
def tw9666832036787041365:=()
def tw15246559232281090819:=()
def tw16936607830276042995:=()
def tw6115077534315989134:=()
def tw13581468935760957736:=()
def tw13581125879639858352:=()
def tw1925883111318572701:=()
def tw4337698748709294678:=()
def tw9160965143364328141:=()
def tw771672977312875121:=()
def tw10781702626971102958:=()
def tw3990280442020954118:=()
def tw10427618514146211243:=()
def tw16222145877300687818:=()
def tw11372219997327028610:=()
def tw16986102521697338547:=()
def tw2903902390652734685:=()
def tw6550040468901543811:=()
def tw2686294011668073084:=()
def tw4228493844473478563:=()
def tw4780156521406085752:=()
def tw10398763384825615754:=()
def tw7763860195985137566:=()
def tw12401239361402891019:=()
def tw4218643379295375378:=()
def tw7245616201040610774:=()
def tw16609127027186440212:=()
def tw13767425802572716440:=()
def tw3661725541816324250:=()
def tw16062615532673365664:=()
def tw17550245340004473814:=()
def tw16686550958558518118:=()
def tw1096309332280577026:=()
def tw7265794170087975279:=()
def tw10873017002090408723:=()
def tw930092280775434094:=()
def tw17020272969923579430:=()
def tw10936168856418228206:=()
def tw7615202808179480927:=()
def tw12539501180562875944:=()
def tw14548174720071932639:=()
def tw2956704002751545494:=()
def tw1140099677361687017:=()
def tw3032425361740872293:=()
def tw5814405910447184576:=()
def tw17606172568490783009:=()
def tw4031387541319171945:=()
def tw1774174376229897610:=()
def tw1134800877922050144:=()
def tw11196856310963026402:=()
def tw17744886032599956067:=()
def tw10054169139612800407:=()
def tw5617403821929705821:=()
def tw4091431121375424386:=()
def tw1505229621837630142:=()
def tw13227390400671941871:=()
def tw11005251856323285490:=()
def tw17482664726891903756:=()
def tw15455892421902063031:=()
def tw13633955143268978719:=()
def tw10703336307100616462:=()
def tw17449955676554857075:=()
def tw3411155867554921185:=()
def tw8431945559008186339:=()
def tw11468911002242050836:=()
def tw3402566021305097718:=()
def tw789130367574631242:=()
def tw13951325189381166332:=()
def tw14877389313517068965:=()
def tw11194900231679352171:=()
def tw8832263284584468475:=()
def tw18386390872307808518:=()
def tw11598138540549142949:=()
def tw3171019660532733403:=()
def tw15847908579400837839:=()
def tw351578759152421814:=()
def tw166662066260580796:=()
def tw9559535669575006125:=()
def tw18172947088575383890:=()
def tw18312320512721295467:=()
def tw4222547613738161949:=()
def tw14981634650796988964:=()
def tw12161451203414314709:=()
def tw6454427862897582699:=()
def tw13373541895003020406:=()
def tw9359614787726895347:=()
def tw16883356993241774424:=()
def tw504368206381874103:=()
def tw15632012102311932516:=()
def tw17260214667722707282:=()
def tw3453816508775238103:=()
def tw13918592191141306575:=()
def tw16177256026958381051:=()
def tw15427502491766094209:=()
def tw11184195640050241724:=()
def tw1304695247207838850:=()
def tw568197595812667306:=()
def tw18159484202197531611:=()
def tw8637357838145668430:=()
def tw14850142819109848498:=()
def tw10270447126140324634:=()
def tw1715969506185129488:=()
def tw7622687247703247241:=()
def tw9269169794811629146:=()
def tw17987265128771843690:=()
def tw8987128244868686870:=()
def tw1526126732294104792:=()
def tw1784943754532660055:=()
def tw8085972995541358034:=()
def tw5647740615629717469:=()
def tw71886385796924522:=()
def tw6724987743404790517:=()
def tw15510239896429902827:=()
def tw12544722816550187464:=()
def tw10184073013851442577:=()
def tw17352293689330018796:=()
def tw15909941437779461131:=()
def tw18336756248076186335:=()
def tw12946513362956594457:=()
def tw764718333380374918:=()
def tw975801028567842105:=()
def tw1105698502135835702:=()
def tw15747045528789484777:=()
def tw11035476824219768988:=()
def tw17270003424198444952:=()
def tw15013765488914932215:=()
def tw17494976357341971680:=()
def tw6924172466418646484:=()
def tw15868590688650577417:=()
def tw1382387083853705489:=()
def tw3118995087510078968:=()
def tw3429079502884669065:=()
def tw11201564136013942236:=()
def tw10604333642270238267:=()
def tw5434741353881568377:=()
def tw17963894141288527717:=()
def tw4132449901119078881:=()
def tw6407540088961827445:=()
def tw14191535044468238469:=()
def tw5743364041491180730:=()
def tw301330715607206311:=()
def tw13488804953542538231:=()
def tw4315744235504201223:=()
def tw7941702868394183984:=()
def tw13494138716991317321:=()
def tw4045163010189630408:=()
def tw5717545423028544910:=()
def tw14692230313176884563:=()
theorem te4746586482977016918:True:=trivial
end PySem.W.Fast
open PySem PySem.W PyProof.Rows
set_option maxRecDepth 100000 in
set_option maxHeartbeats 0 in
theorem PySem.Challenge.cw_helmsum_k55_whole_none_more_than_n_holds : PySem.Challenge.rw_helmsum_k55_whole_none_more_than_n.Holds := by
 w_on;o_law;k_head;(case hw=>w_witness2)
 k_fill
 refine Lw.walk (l:=PySem.Challenge.rw_helmsum_k55_whole_none_more_than_n) rfl rfl (fun w h Y=>PySem.W.kIn_of Y) ?F
 case F =>
  intro w mg fa h KX G hmg;refine' Lw.all_mk KX G hmg ?aC ?a0 ?l0 ?c0 ?k0 ?a1 ?l1 ?c1 ?k1 ?a2 ?l2 ?c2 ?k2 ?a3 ?l3 ?c3 ?k3 ?a4 ?l4 ?c4 ?k4 ?a5 ?l5 ?c5 ?k5 ?a6 ?l6 ?c6 ?k6 ?a7 ?l7 ?c7 ?k7 ?a8 ?l8 ?c8 ?k8 ?a9 ?l9 ?c9 ?k9 ?a10 ?l10 ?c10 ?k10 ?a11 ?l11 ?c11 ?k11 ?a12 ?l12 ?c12 ?k12 ?a13 ?l13 ?c13 ?k13 ?a14 ?l14 ?c14 ?k14 ?a15 ?l15 ?c15 ?k15 ?a16 ?l16 ?c16 ?k16 ?a17 ?l17 ?c17 ?k17 ?a18 ?l18 ?c18 ?k18 ?a19 ?i19 ?l19 ?c19 ?k19 ?a20 ?l20 ?c20 ?k20 ?a21 ?l21 ?c21 ?k21 ?a22 ?l22 ?c22 ?k22 ?a23 ?l23 ?c23 ?k23 ?a24 ?l24 ?c24 ?k24 ?a25 ?l25 ?c25 ?k25 ?a26 ?l26 ?c26 ?k26 ?a27 ?l27 ?c27 ?k27 ?a28 ?l28 ?c28 ?k28 ?a29 ?l29 ?c29 ?k29 ?a30 ?l30 ?c30 ?k30 ?a31 ?l31 ?c31 ?k31 ?a32 ?l32 ?c32 ?k32 ?a33 ?l33 ?c33 ?k33 ?a34 ?l34 ?c34 ?k34 ?a35 ?l35 ?c35 ?k35 ?a36 ?l36 ?c36 ?k36 ?a37 ?i37 ?l37 ?c37 ?k37 ?a38 ?l38 ?c38 ?k38 ?a39 ?l39 ?c39 ?k39 ?a40 ?l40 ?c40 ?k40 ?a41 ?l41 ?c41 ?k41 ?a42 ?l42 ?c42 ?k42 ?a43 ?l43 ?c43 ?k43 ?a44 ?l44 ?c44 ?k44 ?a45 ?l45 ?c45 ?k45 ?a46 ?l46 ?c46 ?k46 ?a47 ?l47 ?c47 ?k47 ?a48 ?l48 ?c48 ?k48 ?a49 ?l49 ?c49 ?k49 ?a50 ?l50 ?c50 ?k50 ?a51 ?l51 ?c51 ?k51 ?a52 ?l52 ?c52 ?k52 ?a53 ?l53 ?c53 ?k53 ?a54 ?l54 ?c54 ?k54 ?a55 ?l55 ?c55 ?k55 ?a56 ?l56 ?c56 ?k56 ?a57 ?l57 ?c57 ?k57 ?a58 ?l58 ?c58 ?k58 ?a59 ?l59 ?c59 ?k59 ?a60 ?i60 ?l60 ?c60 ?k60 ?a61 ?l61 ?c61 ?k61 ?a62 ?l62 ?c62 ?k62 ?a63 ?l63 ?c63 ?k63 ?a64 ?l64 ?c64 ?k64 ?a65 ?l65 ?c65 ?k65 ?a66 ?l66 ?c66 ?k66 ?a67 ?l67 ?c67 ?k67 ?ca0 ?cl0 ?ca1 ?cl1 ?ci0 ?ci1 ?ci2 ?pg ?hd ?po ?sa ?mk ?kc ?n_move ?n_states ?n_put ?n_ins ?n_look ?n_outs ?z_abs ?z_len ?z_min ?z_range ?z_int ?z_isinstance ?z_list ?z_bool ?z_tuple ?z_all ?z_enumerate ?z_zip ?z_sum ?z_reversed
  all_goals try k_is