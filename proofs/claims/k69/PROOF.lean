import PyProof.Rows.All
import Wide.All
import OpenK.AllK
import Wide.FinOn
import Lean
import PyProof.EqAt
import PyProof.EqKinds
import PyProof.TupleCall
import PyProof.NeKinds
import PySem.Challenge.RW_helmsum_k69_whole_costs_are_squares
set_option Elab.async false
set_option linter.all false
set_option maxRecDepth 100000
abbrev ND9:=@List.Nodup PySem.Str
abbrev ae:=@List.getD_eq_getElem?_getD
abbrev af:=@List.getElem?_eq_getElem
abbrev ag:=@List.length_map
abbrev ak:=@Nat.le_trans
abbrev ao:=@List.mem_of_getElem?
abbrev ar:=@Nat.le_refl
abbrev av:=@List.mem_append
abbrev aw:=@List.mem_map
abbrev ay:=@List.getElem?_map
abbrev az:=@Nat.mul_le_mul_right
abbrev aA:=@List.take_of_length_le
abbrev aD:=@Nat.pow_le_pow_right
abbrev aF:=@List.length_append
abbrev aH:=@List.mem_cons
abbrev aJ:=@Rat.intCast_mul
abbrev aL:=@Nat.mul_le_mul
abbrev aO:=@Nat.le_of_lt
abbrev aR:=@Nat.pow_add
abbrev aU:=@List.getElem?_eq_some_iff
abbrev aX:=@List.size_toArray
abbrev aY:=@List.not_mem_nil
abbrev a9:=@List.getElem?_eq_none
abbrev ba:=@Nat.mul_pos
abbrev bc:=@Nat.lt_of_lt_of_le
abbrev bf:=@Rat.div_def
abbrev bg:=@PySem.boot_len
abbrev bu:=@List.getElem_mem
abbrev bz:=@List.mem_singleton
abbrev bA:=@Rat.intCast_natCast
abbrev bC:=@List.length_zipWith
abbrev bD:=@Nat.lt_of_le_of_lt
abbrev bE:=@Bool.false_ne_true
abbrev bF:=@Int.fdiv_eq_ediv_of_nonneg
abbrev bM:=@List.mem_cons_of_mem
abbrev bP:=@List.mem_append_right
abbrev bQ:=@List.length_cons
abbrev bR:=@List.getElem?_zipWith
abbrev bT:=@List.length_range
abbrev bU:=@List.getElem_of_mem
abbrev b6:=@Option.some.inj
abbrev b7:=@List.getElem?_range
abbrev b8:=@Nat.zero_le
abbrev b9:=@List.mem_of_mem_take
abbrev ck:=@Rat.zero_mul
abbrev cm:=@Rat.le_of_lt
abbrev cn:=@List.map_append
abbrev cC:=@Rat.natCast_mul
abbrev cD:=@Int.eq_ofNat_of_zero_le
abbrev cI:=@Rat.intCast_pos
abbrev cJ:=@List.mem_flatten
abbrev cL:=@Nat.ne_of_lt
abbrev cM:=@Nat.le_mul_of_pos_left
abbrev cN:=@List.append_assoc
abbrev cT:=@Rat.mul_comm
abbrev cU:=@Nat.mul_le_mul_left
abbrev cV:=@Nat.le_mul_of_pos_right
abbrev cW:=@List.length_take
abbrev c7:=@Rat.mul_inv_cancel
abbrev c8:=@Rat.add_zero
abbrev dc:=@List.mem_cons_self
abbrev dd:=@List.nil_append
abbrev di:=@Nat.mul_assoc
abbrev dr:=@List.nodup_append
abbrev dA:=@PySem.F.plainAttrs_list
abbrev dE:=@Rat.mul_assoc
abbrev dF:=@PySem.W.kia_one
abbrev dG:=@List.nodup_cons
abbrev dJ:=@Nat.mul_comm
abbrev dM:=@Nat.dvd_mul_left
abbrev dO:=@List.mem_or_eq_of_mem_set
abbrev dP:=@List.drop_eq_getElem_cons
abbrev dU:=@List.length_replicate
abbrev dW:=@Rat.mul_nonneg
abbrev dX:=@PySem.F.type_list_append
abbrev dY:=@PySem.F.slot_list_append
abbrev d4:=@Rat.intCast_inj
abbrev d5:=@Nat.two_pow_pos
abbrev d6:=@Nat.succ_mul
abbrev eC:=@Rat.mul_pos
abbrev eF:=@Option.getD_some
abbrev eG:=@Nat.succ_le_succ
abbrev eH:=@Nat.pow_lt_pow_right
abbrev eI:=@List.length_drop
abbrev eJ:=@Int.mul_pos
abbrev eK:=@Int.gcd_dvd_left
abbrev fE:=@Rat.natCast_le_natCast
abbrev fF:=@List.getElem?_append_right
abbrev fG:=@List.flatten_cons
abbrev fH:=@Int.natAbs_mul
abbrev fI:=@Int.gcd_dvd_right
abbrev fM:=@Rat.mul_one
abbrev fP:=@List.getElem?_append_left
abbrev fR:=@List.length_singleton
abbrev fU:=@Int.natAbs_dvd_natAbs
abbrev fX:=@List.cons_append
abbrev gG:=@Nat.lt_irrefl
abbrev gH:=@Rat.one_mul
abbrev gI:=@List.mem_of_mem_drop
abbrev gU:=@List.replicate_succ
abbrev gX:=@Rat.mul_zero
abbrev gY:=@Rat.intCast_le_intCast
abbrev ib:=@Bool.and_eq_true
abbrev ij:=@Rat.inv_mul_cancel
abbrev ik:=@Rat.div_mul_cancel
abbrev iB:=@Bool.beq_eq_decide_eq
abbrev iJ:=@Rat.intCast_neg
abbrev iP:=@Rat.le_trans
abbrev iQ:=@Nat.pow_succ
abbrev iR:=@List.getElem_zipWith
abbrev jm:=@Rat.mul_le_mul_of_nonneg_right
abbrev jn:=@Nat.lt_succ_self
abbrev jv:=@Int.natAbs_natCast
abbrev jx:=@Int.emod_lt_of_pos
abbrev jy:=@Bool.false_eq_true
abbrev jO:=@Rat.intCast_add
abbrev jP:=@List.length_set
abbrev jQ:=@Nat.le_of_dvd
abbrev jR:=@Int.mul_assoc
abbrev kx:=@List.ext_getElem?
abbrev ky:=@List.nodup_nil
abbrev kz:=@List.mem_append_left
abbrev lg:=@PySem.IsL.update
abbrev lh:=@List.lookup_cons
abbrev lC:=@Int.mul_comm
abbrev lD:=@Int.gcd_comm
abbrev lN:=@PySem.F.plain_extend_loop
abbrev lP:=@PySem.mem_of_lookup
abbrev lV:=@List.map_cons
abbrev me:=@Rat.natCast_pos
abbrev mh:=@Int.emod_nonneg
abbrev mY:=@List.getElem?_replicate
abbrev mZ:=@Int.dvd_mul_of_dvd_left
abbrev nP:=@Option.map_eq_some_iff
abbrev nQ:=@Nat.lt_or_ge
abbrev pE:=@PySem.F.slot_zip_next
abbrev qC:=@Nat.dvd_trans
abbrev qN:=@Rat.mul_le_mul_of_nonneg_left
abbrev qQ:=@List.length_zip
abbrev qR:=@List.append_nil
abbrev qT:=@Int.gcd_pos_of_ne_zero_right
abbrev qU:=@Bool.eq_iff_iff
abbrev tu:=@Nat.add_comm
abbrev uh:=@Nat.one_le_two_pow
abbrev ui:=@List.mem_range
abbrev uj:=@Int.natAbs_neg
abbrev wI:=@Nat.one_mul
abbrev wJ:=@Int.natAbs_add_le
abbrev wL:=@Int.mul_ediv_cancel_left
abbrev yL:=@Rat.intCast_eq_zero_iff
abbrev yM:=@List.all_eq_true
abbrev yN:=@Int.natCast_dvd_natCast
abbrev zb:=@Rat.zero_add
abbrev zf:=@Rat.add_comm
abbrev zg:=@PySem.W.cellsFrom_some
abbrev AS:=@Rat.mul_eq_zero
abbrev AU:=@List.sum_append
abbrev AV:=@List.range_succ
abbrev Cj:=@Rat.le_refl
abbrev Ck:=@Nat.le_succ
abbrev Cm:=@List.forIn_nil
abbrev D7:=@PySem.W.plainGet_of
abbrev D8:=@List.zipWith_append
abbrev D9:=@List.filterMap_cons
abbrev Ea:=@Bool.or_eq_true_iff
abbrev Fz:=@Int.dvd_trans
abbrev FF:=@PySem.W.callWith_K
abbrev FG:=@List.getElem?_drop
abbrev FH:=@List.append_of_mem
abbrev IL:=@Nat.ne_of_gt
abbrev IM:=@Nat.mul_zero
abbrev IP:=@Nat.min_self
abbrev IQ:=@Nat.dvd_mul_right
abbrev IS:=@List.map_map
abbrev IT:=@Int.zero_add
abbrev IU:=@Int.dvd_refl
abbrev JR:=@Nat.le_add_right
abbrev LY:=@Rat.neg_mul
abbrev LZ:=@Rat.den_pos
abbrev L0:=@Nat.mul_add
abbrev L6:=@Nat.add_mul
abbrev Ma:=@List.map_id
abbrev Mc:=@Int.neg_neg
abbrev Md:=@Int.dvd_gcd
abbrev Ml:=@Rat.inv_mul_rev
abbrev Mm:=@Rat.intCast_sub
abbrev Mn:=@Nat.not_lt_zero
abbrev Mp:=@Nat.min_eq_left
abbrev Mq:=@List.of_mem_zip
abbrev Mr:=@List.forIn_cons
abbrev OZ:=@Rat.le_of_mul_le_mul_right
abbrev O0:=@Int.eq_of_mul_eq_mul_right
abbrev O1:=@Int.ediv_pos_of_pos_of_dvd
abbrev QW:=@PySem.F.entry_extend_loop
abbrev QX:=@List.getElem?_zip_eq_some
abbrev QY:=@Int.natAbs_ediv_of_nonneg
abbrev Q6:=@Rat.add_assoc
abbrev Q7:=@Option.isSome_iff_exists
abbrev Q8:=@List.sum_cons
abbrev Q9:=@List.getElem?_take_of_lt
abbrev Rb:=@List.eq_of_mem_replicate
abbrev SX:=@PySem.F.args_zip_next_1
abbrev LR9:=List (List Rat)
abbrev FG9:=PySem.W.Frag
namespace L2
open PySem PySem.Spec PyProof.Rows
abbrev Key:=Sum Int Str
def OG:Key->Value->Bool
 | .inl k,v=>Value.isInt k v
 | .inr x,v=>Value.isStrOf x v
def To (w:World):Key->Int
 | .inl k=>hashInt k
 | .inr x=>hashStr w x
theorem gK:∀{k:Key} {v:Value},OG k v=true->(∃i t,k=Sum.inl i/\v=Value.int i t)\/(∃x t,k=Sum.inr x/\v=Value.str x t)
 | .inl i,v,h=>by
  obtain ⟨t,e⟩:=Value.isInt_shape (k:=i) (v:=v) h;exact .inl ⟨i,t,rfl,e⟩
 | .inr x,v,h=>by
  obtain ⟨t,e⟩:=Value.isStrOf_shape (x:=x) (v:=v) h;exact .inr ⟨x,t,rfl,e⟩
theorem Qk (a b:Int):decide ((Sum.inl a:Key)=Sum.inl b)=(a == b):=by
 by_cases e:a=b
 ·subst e;simp
 ·have h:¬(Sum.inl a:Key)=Sum.inl b:=λq=>e (Sum.inl.inj q)
  rw[decide_eq_false h];exact (beq_eq_false_iff_ne.mpr e).symm
theorem Qh (a b:Str):decide ((Sum.inr a:Key)=Sum.inr b)=decide (a=b):=by
 by_cases e:a=b
 ·subst e;simp
 ·have h:¬(Sum.inr a:Key)=Sum.inr b:=λq=>e (Sum.inr.inj q)
  rw[decide_eq_false h,decide_eq_false e]
theorem Qj (a:Int) (b:Str):decide ((Sum.inl a:Key)=Sum.inr b)=false:=decide_eq_false (λq=>nomatch q)
theorem Qi (a:Str) (b:Int):decide ((Sum.inr a:Key)=Sum.inl b)=false:=decide_eq_false (λq=>nomatch q)
def Ie (prog:Program) (w:World):PySem.KeyKind prog w Key where
 is:=OG
 hash:=To w
 inj:=λv a b ha hb=>by
  rcases gK ha with ⟨i,t,rfl,rfl⟩ | ⟨x,t,rfl,rfl⟩
  ·rcases gK hb with ⟨j,u,rfl,e⟩ | ⟨y,u,rfl,e⟩
   ·injection e with e1 _;rw[e1]
   ·exact nomatch e
  ·rcases gK hb with ⟨j,u,rfl,e⟩ | ⟨y,u,rfl,e⟩
   ·exact nomatch e
   ·injection e with e1 _;rw[e1]
 byValue:=λk v h=>by
  rcases gK h with ⟨i,t,rfl,rfl⟩ | ⟨x,t,rfl,rfl⟩ <;> rfl
 pyHash:=λhv h=>by
  rcases gK hv with ⟨i,t,rfl,rfl⟩ | ⟨x,t,rfl,rfl⟩
  ·exact wpAny_pyHash_int h
  ·exact wpAny_pyHash_str h
 eqBool:=λhu hv h=>by
  rcases gK hu with ⟨i,t,rfl,rfl⟩ | ⟨x,t,rfl,rfl⟩
  ·rcases gK hv with ⟨j,u,rfl,rfl⟩ | ⟨y,u,rfl,rfl⟩
   ·rw[Qk] at h;exact wpAny_eqBool_int h
   ·rw[Qj] at h;exact SeqAt.EqAt.int_str i t y u _ _ _ _ h
  ·rcases gK hv with ⟨j,u,rfl,rfl⟩ | ⟨y,u,rfl,rfl⟩
   ·rw[Qi] at h;exact SeqAt.EqAt.str_int x t j u _ _ _ _ h
   ·rw[Qh] at h;exact wpAny_eqBool_str h
 «strs»:=λk x t v h=>by
  rcases gK h with ⟨i,u,rfl,e⟩ | ⟨y,u,rfl,e⟩
  ·exact nomatch e
  ·injection e with e1 _
   subst e1;cases v <;> rfl
inductive V where
  | non | bl (b : Bool) | int (i : Int) | str (x : Str) | byt (b : Array UInt8) | flt (b : UInt64) | ref (a : Addr) | ty (n : String)
  deriving DecidableEq

def RelV:V->Value->Prop
 | .non,u=>u=Value.none
 | .bl b,u=>u=Value.bool b
 | .int i,u=>∃t,u=Value.int i t
 | .str x,u=>∃t,u=Value.str x t
 | .byt b,u=>∃t,u=Value.bytes b t
 | .flt b,u=>∃t,u=Value.float b t
 | .ref a,u=>u=Value.ref a
 | .ty n,u=>u=Value.type n
abbrev cZ:List V->List Value->Prop:=Paired RelV
theorem cZ.length (r:cZ xs us):xs.length=us.length:=Paired.length r
theorem cZ.get:∀{xs:List V} {us:List Value} {i:Nat} {x:V},cZ xs us->xs[i]?=some x->∃u,us[i]?=some u/\RelV x u
 | _,_,_,_,.nil,e=>by simp at e
 | _,_,0,_,.cons r _,e=>by simp at e;subst e;exact ⟨_,rfl,r⟩
 | _,_,i+1,x,.cons _ t,e=>by
  obtain ⟨u,h1,h2⟩:=cZ.get (i:=i) (x:=x) t (by simpa using e);exact ⟨u,by simpa using h1,h2⟩
theorem cZ.set {x:V} {u:Value} (r:RelV x u):∀{xs:List V} {us:List Value} (i:Nat),cZ xs us->cZ (xs.set i x) (us.set i u)
 | _,_,_,.nil=>.nil
 | _,_,0,.cons _ t=>.cons r t
 | _,_,i+1,.cons q t=>.cons q (cZ.set r i t)
theorem cZ.append:∀{xs ys:List V} {us ws:List Value},cZ xs us->cZ ys ws->cZ (xs++ys) (us++ws)
 | _,_,_,_,.nil,s=>s
 | _,_,_,_,.cons r t,s=>.cons r (cZ.append t s)
theorem cZ.take:∀{xs:List V} {us:List Value} (n:Nat),cZ xs us->cZ (xs.take n) (us.take n)
 | _,_,0,_=>.nil
 | _,_,_+1,.nil=>.nil
 | _,_,n+1,.cons r t=>.cons r (cZ.take n t)
theorem cZ.drop:∀{xs:List V} {us:List Value} (n:Nat),cZ xs us->cZ (xs.drop n) (us.drop n)
 | _,_,0,r=>r
 | _,_,_+1,.nil=>.nil
 | _,_,n+1,.cons _ t=>cZ.drop n t
def Bh:Option V->Option Value->Prop
 | some v,some u=>RelV v u
 | none,none=>True
 | _,_=>False
def KV {κ:Type}:List (κ×V)->List (κ×Value)->Prop:=Paired λ(p:κ×V) (q:κ×Value)=>p.1=q.1/\RelV p.2 q.2
def kV:Key->V
 | .inl i=>.int i
 | .inr x=>.str x
inductive HO where
 | lst (xs:List V)
 | tup (xs:List V)
 | dK (kvs:List (Key×V)) | dT (kvs:List (List Key×V))
 | set (S:Int->Bool) (n:Nat)
 | ins (C dx:Addr) (fs:List (Str×V))
 | own (x:Addr)
 | xd (fs:List (Str×V))
 | met (f x:Addr)
 | rng (lo hi:Int)
 | frz (o:Obj) (u:HO)
 | tbl (ps:Array Value)
 | ext (φ:Heap->Prop)
abbrev Hp:=Addr->Option HO
def upd (H:Hp) (a:Addr) (o:HO):Hp:=λb=>if b=a then some o else H b
theorem aK:upd H a o a=some o:=by unfold upd;rw[if_pos rfl]
theorem aZ (h:b≠a):upd H a o b=H b:=by unfold upd;rw[if_neg h]
theorem fJ {H:Hp} (h:H a=some o) (h':H b=none):a≠b:=by
 intro e;subst e;rw[h] at h';cases h'
section
variable (P:Program) (w:World)
def jN (H:Hp) (h:Heap) (a:Addr):HO->Prop
 | .lst xs=>xs.length<=sizeLine/\∃(its:List Value) (n:Nat),cZ xs its/\h.get? a=some { cls:=.type "list",data:=.seq its.toArray n }
 | .tup xs=>xs.length<=sizeLine/\∃its:List Value,cZ xs its/\IsTup h a its.toArray
 | .dK kvs=>kvs.length<=sizeLine/\(a == sysModules)=false/\∃vs,KV kvs vs/\h.DictOf (Ie P w) a vs
 | .dT kvs=>kvs.length<=sizeLine/\(a == sysModules)=false/\∃xs:List (List Key×Addr×Value),
   Paired (λ(p:List Key×V) (q:List Key×Addr×Value)=>p.1=q.1/\H q.2.1=some (.tup (p.1.map kV))/\RelV p.2 q.2.2) kvs xs /\
   ∃o es ep,h.get? a=some o/\o.ExactDict/\o.data=.dict es ep/\es.toList=xs.map (entryOfKey (tupleKind (Ie P w)))/\(xs.map (·.1)).Nodup
 | .set S n=>h.SetOf (intKind P w) a S n
 | .ins C dx fs=>H dx=some (.own a)/\fs.length<=1000/\dx≠a/\h.get? a=some (PySem.W.instObj C dx) /\
   ∃mA,h.Ns1 dx mA/\(∀f,Bh (fs.lookup f) (mA f))/\PySem.Within mA (fs.map (·.1))
 | .own _=>∃o,h.get? a=some o
 | .xd fs=>∃mA,h.Ns1 a mA/\∀f,Bh (fs.lookup f) (mA f)
 | .rng lo hi=>∃t u v,h.get? a=some { cls:=.type "range",data:=.fields #[.int lo t,.int hi u,.int 1 v] }
 | .frz o u=>h.get? a=some o/\jN H h a u
 | .tbl ps=>h.get? a=some { cls:=.none,data:=.fields ps }
 | .met f x=>h.get? a=some (PySem.W.methodObj (.ref f) (.ref x))
 | .ext φ=>φ h/\(∃o,h.get? a=some o)/\∀h1 h2:Heap,φ h1->(∀o,h1.get? a=some o->h2.get? a=some o)->φ h2
def za (H:Hp) (h:Heap):Prop:=∀a o,H a=some o->jN P w H h a o
end
section
variable {P:Program} {w:World} {H H':Hp} {h h':Heap} {a:Addr} {o:HO}
theorem jN.lt (x:jN P w H h a o):a < h.objs.size:=by
 cases o with
 | lst xs=>obtain ⟨_,_,_,_,e⟩:=x;exact Heap.lt_size e
 | tup xs=>obtain ⟨_,_,_,p⟩:=x;exact p.lt
 | dK kvs=>obtain ⟨_,_,_,_,o,_,_,e,_⟩:=x;exact Heap.lt_size e
 | dT kvs=>obtain ⟨_,_,_,_,o,_,_,e,_⟩:=x;exact Heap.lt_size e
 | set S n=>obtain ⟨o,_,_,_,e,_⟩:=x;exact Heap.lt_size e
 | ins C dx fs=>obtain ⟨_,_,_,e,_⟩:=x;exact Heap.lt_size e
 | own y=>obtain ⟨_,e⟩:=x;exact Heap.lt_size e
 | xd fs=>obtain ⟨_,⟨_,_,_,e,_⟩,_⟩:=x;exact Heap.lt_size e
 | rng lo hi=>obtain ⟨_,_,_,e⟩:=x;exact Heap.lt_size e
 | frz ob u=>obtain ⟨e,_⟩:=x;exact Heap.lt_size e
 | tbl ps=>exact Heap.lt_size (show h.get? a=some _ from x)
 | met f y=>exact Heap.lt_size (show h.get? a=some _ from x)
 | ext φ=>obtain ⟨_,⟨_,e⟩,_⟩:=x;exact Heap.lt_size e
theorem Paired.mapP {α β:Type} {F G:α->β->Prop}:∀{l₁:List α} {l₂:List β},Paired F l₁ l₂->(∀a b,F a b->G a b)->Paired G l₁ l₂
 | _,_,.nil,_=>.nil
 | _,_,.cons r t,f=>.cons (f _ _ r) (Paired.mapP t f)
theorem Paired.imp' {F G:α->β->Prop} (f:∀a b,F a b->G a b) {l₁:List α} {l₂:List β} (r:Paired F l₁ l₂):Paired G l₁ l₂:=Paired.mapP r f
theorem jN.stay (x:jN P w H h a o) (k:∀b u,(b=a\/H b=some (.own a))->h.get? b=some u->h'.get? b=some u)
  (ho:∀b,H b=some (.own a)->H' b=some (.own a)) (ht:∀b xs,H b=some (.tup xs)->H' b=some (.tup xs)):jN P w H' h' a o:=by
 induction o with
 | lst xs=>obtain ⟨z,its,n,r,e⟩:=x;exact ⟨z,its,n,r,k _ _ (.inl rfl) e⟩
 | tup xs=>obtain ⟨z,its,r,ob,e,c⟩:=x;exact ⟨z,its,r,ob,k _ _ (.inl rfl) e,c⟩
 | dK kvs=>obtain ⟨z,y,vs,r,ob,es,ep,e,c⟩:=x;exact ⟨z,y,vs,r,ob,es,ep,k _ _ (.inl rfl) e,c⟩
 | dT kvs =>
  obtain ⟨z,y,xs,r,ob,es,ep,e,c⟩:=x;exact ⟨z,y,xs,Paired.mapP r λp q z=>⟨z.1,ht _ _ z.2.1,z.2.2⟩,ob,es,ep,k _ _ (.inl rfl) e,c⟩
 | set S n=>obtain ⟨ob,es,ep,t,e,c⟩:=x;exact ⟨ob,es,ep,t,k _ _ (.inl rfl) e,c⟩
 | ins C dx fs =>
  obtain ⟨d,z,ne,e,mA,⟨od,es,ep,e2,c⟩,r⟩:=x;exact ⟨ho _ d,z,ne,k _ _ (.inl rfl) e,mA,⟨od,es,ep,k _ _ (.inr d) e2,c⟩,r⟩
 | own y=>obtain ⟨ob,e⟩:=x;exact ⟨ob,k _ _ (.inl rfl) e⟩
 | xd fs=>obtain ⟨mA,⟨od,es,ep,e,c⟩,r⟩:=x;exact ⟨mA,⟨od,es,ep,k _ _ (.inl rfl) e,c⟩,r⟩
 | rng lo hi=>obtain ⟨t,u,v,e⟩:=x;exact ⟨t,u,v,k _ _ (.inl rfl) e⟩
 | frz ob u ih=>obtain ⟨e,q⟩:=x;exact ⟨k _ _ (.inl rfl) e,ih q⟩
 | tbl ps =>
  have e:h.get? a=some { cls:=.none,data:=.fields ps }:=x;show h'.get? a=some { cls:=.none,data:=.fields ps }
  exact k a _ (.inl rfl) e
 | met f y =>
  have e:h.get? a=some (PySem.W.methodObj (.ref f) (.ref y)):=x;show h'.get? a=some (PySem.W.methodObj (.ref f) (.ref y))
  exact k a _ (.inl rfl) e
 | ext φ=>obtain ⟨p,⟨o,e⟩,st⟩:=x;exact ⟨st _ _ p λo q=>k _ _ (.inl rfl) q,⟨o,k _ _ (.inl rfl) e⟩,st⟩
theorem za.lt (x:za P w H h) (e:H a=some o):a < h.objs.size:=(x a o e).lt
theorem za.fresh (x:za P w H h) (e:h.objs.size<=a):H a=none:=by
 cases q:H a with
 | none=>rfl
 | some u=>exact absurd (bc (x.lt q) e) (gG _)
theorem za.kept (x:za P w H h) (k:∀b u,h.get? b=some u->h'.get? b=some u):za P w H h':=λa o e =>
 (x a o e).stay (λb u _ q=>k b u q) (λ_ q=>q) λ_ _ q=>q
theorem za.laid (x:za P w H h) (k:∀b u,h.get? b=some u->h'.get? b=some u) (hp:h.objs.size<=a) (new:jN P w (upd H a o) h' a o):za P w (upd H a o) h':=λb u e=>by
 have hn:=x.fresh hp;by_cases hb:b=a
 ·subst hb;rw[aK] at e;cases e;exact new
 ·rw[aZ hb] at e;exact (x b u e).stay (λc v _ q=>k c v q) (λc q=>by rw[aZ (fJ q hn)];exact q) λc xs q=>by rw[aZ (fJ q hn)];exact q
end
def Rd (H:Hp) (a:Addr) (u:HO):Prop:=H a=some u\/∃o,H a=some (.frz o u)
theorem Rd.ok (r:Rd H a u) (x:za P w H h):jN P w H h a u:=by
 rcases r with r | ⟨o,r⟩
 ·exact x a u r
 ·obtain ⟨_,q⟩:=x a _ r;exact q
def S6:Option HO->Prop
 | some (.lst _)=>True
 | some (.dK _)=>True
 | some (.dT _)=>True
 | some (.set _ _)=>True
 | some (.ins _ _ _)=>True
 | some (.ext _)=>True
 | _=>False
section
variable {P:Program} {w:World} {H:Hp} {h h':Heap} {x e:Addr} {o':HO}
theorem za.write (ok:za P w H h) (mu:S6 (H x)) (he:e=x\/H e=some (.own x)) (k:∀b u,b≠e->h.get? b=some u->h'.get? b=some u) (heo:∃u,h'.get? e=some u)
  (new:jN P w (upd H x o') h' x o'):za P w (upd H x o') h':=λb u q=>by
 have nown:∀c y,H c=some (.own y)->c≠x:=λc y r z=>by subst z;rw[r] at mu;exact mu
 have ntup:∀c xs,H c=some (.tup xs)->c≠x:=λc xs r z=>by subst z;rw[r] at mu;exact mu
 by_cases hb:b=x
 ·subst hb;rw[aK] at q;cases q;exact new
 ·rw[aZ hb] at q;by_cases hbe:b=e
  ·have q':H b=some (.own x):=by
    rcases he with z | z
    ·exact absurd (hbe.trans z) hb
    ·rw[hbe];exact z
   rw[q] at q';cases q';obtain ⟨v,hv⟩:=heo;exact ⟨v,by rw[hbe];exact hv⟩
  ·refine (ok b u q).stay (λc v hc r=>k c v ?_ r) (λc r=>by rw[aZ (nown c b r)];exact r) λc xs r=>by rw[aZ (ntup c xs r)];exact r
   rcases hc with rfl | hc
   ·exact hbe
   ·rintro rfl;rcases he with z | z
    ·exact nown c b hc z
    ·rw[hc] at z;cases z;exact hb rfl
end
structure Un (fs ex:List Addr) (H H':Hp) (h h':Heap):Prop where
 keep:∀b o,h.get? b=some o->H b=none->b∉fs->b∉ex->h'.get? b=some o
 slot:∀b o,h.get? b=some o->H b=none->b∈fs->b∉ex->∃sl,h'.get? b=some { o with slots:=sl }
 free:∀b o,h.get? b=some o->H b=none->b∉ex->H' b=none
 there:∀b o,h.get? b=some o->b∉ex->∃o',h'.get? b=some o'
 tups:∀b xs,H b=some (.tup xs)->H' b=some (.tup xs)
 frzs:∀b o u,H b=some (.frz o u)->H' b=some (.frz o u)
 tbls:∀b ps,H b=some (.tbl ps)->∃more,H' b=some (.tbl (ps++more))
section
variable {fs fs' ex ex':List Addr} {H H1 H2:Hp} {h h1 h2 h':Heap} {a x e:Addr} {o:HO}
theorem Un.any (u:Un fs ex H H1 h h1) (q:h.get? b=some ob) (n:H b=none) (hx:b∉ex):∃sl,h1.get? b=some { ob with slots:=sl }:=by
 by_cases hb:b∈fs
 ·exact u.slot b ob q n hb hx
 ·exact ⟨ob.slots,u.keep b ob q n hb hx⟩
theorem Un.kept (k:∀b u,h.get? b=some u->h'.get? b=some u):Un fs ex H H h h' :=
 ⟨λb ob q _ _ _=>k b ob q,λb ob q _ _ _=>⟨ob.slots,k b ob q⟩,λ_ _ _ n _=>n,λb ob q _=>⟨ob,k b ob q⟩,λ_ _ q=>q,λ_ _ _ q=>q,λ_ ps q=>⟨#[],by rw[q];simp⟩⟩
theorem Un.refl:Un fs ex H H h h:=Un.kept λ_ _ q=>q
theorem Un.laid (k:∀b u,h.get? b=some u->h'.get? b=some u) (hp:h.objs.size<=a) (hn:H a=none):Un fs ex H (upd H a o) h h' where
 keep:=λb u q _ _ _=>k b u q
 slot:=λb u q _ _ _=>⟨u.slots,k b u q⟩
 free:=λb u q n _=>by rw[aZ (cL (bc (Heap.lt_size q) hp))];exact n
 there:=λb u q _=>⟨u,k b u q⟩
 tups:=λb xs q=>by rw[aZ (fJ q hn)];exact q
 frzs:=λb u xs q=>by rw[aZ (fJ q hn)];exact q
 tbls:=λb ps q=>⟨#[],by rw[aZ (fJ q hn),q];simp⟩
theorem Un.write (mu:S6 (H x)) (he:e=x\/H e=some (.own x)) (k:∀b u,b≠e->h.get? b=some u->h'.get? b=some u) (heo:∃u,h'.get? e=some u):Un fs ex H (upd H x o) h h':=by
 have hx:∀b,H b=none->b≠x:=λb n z=>by subst z;rw[n] at mu;exact mu
 have hb:∀b,H b=none->b≠e:=λb n z=>by
  subst z;rcases he with r | r
  ·exact hx b n r
  ·rw[n] at r;cases r
 have hm:∀b u,H b=some u->¬S6 (some u)->b≠x:=λb u q nm z=>by subst z;rw[q] at mu;exact nm mu
 refine ⟨λb u q n _ _=>k b u (hb b n) q,λb u q n _ _=>⟨u.slots,k b u (hb b n) q⟩,λb u q n _=>by rw[aZ (hx b n)];exact n,λb u q _=>?_,
  λb xs q=>by rw[aZ (hm b _ q λz=>z)];exact q,λb u xs q=>by rw[aZ (hm b _ q λz=>z)];exact q,λb ps q=>⟨#[],by rw[aZ (hm b _ q λz=>z),q];simp⟩⟩
 by_cases hbe:b=e
 ·subst hbe;exact heo
 ·exact ⟨u,k b u hbe q⟩
end
def SY (h:Heap) (H:Hp):List Addr:=(List.range h.objs.size).filter λa=>(H a).isSome
def Dz (h:Heap) (H:Hp):Heap:=PySem.W.hideAll h (SY h H)
theorem Jw (h:Heap) (H:Hp):(Dz h H).objs.size=h.objs.size:=PySem.W.hideAll_size _ _
theorem Lg (e:h.get? b=some o) (n:H b=none):(Dz h H).get? b=some o :=
 PySem.W.hideAll_get _ e λhm=>by
  have q:(H b).isSome=true:=(List.mem_filter.mp hm).2;rw[n] at q;simp at q
theorem Nq (e:(Dz h H).get? b=some o):h.get? b=some o/\H b=none:=by
 have e':h.get? b=some o:=PySem.W.of_hideAll (SY h H) e;refine ⟨e',?_⟩;cases q:H b with
 | none=>rfl
 | some x =>
  have hm:b∈SY h H:=List.mem_filter.mpr ⟨ui.mpr (Heap.lt_size e'),by simp [q]⟩;have z:(Dz h H).get? b=none:=PySem.W.hideAll_none (SY h H) hm;rw[z] at e;cases e
structure Mod (K:FG9) (mg:Str->Option Value) (base:Heap):Prop where
 kin:K.In base
 glob:base.Ns mainGlobals mg
 blt:∃mb,base.Ns builtinsNs mb/\∀x:Str,x≠"__name__"->mb x=bootBuiltins x
 nolimit:base.NoLimit
 seer:base.NoSeer
structure Cx where
 prog:Program
 w:World
 K:FG9
 mg:Str->Option Value
 base:Heap
 A:Around
 N:List Str
 s₀:Shared
 H₀:Hp
 env:Env
 outer:List Env
 stack:List Env
 ex:List Addr
 fn:Str->Bool
 calm:Bool
 pn:List (Addr×Obj)
 xe:Value->Shared->Prop
def JP (l:List Env):List Addr:=l.filterMap (·.frame)
abbrev Cx.fs (X:Cx):List Addr:=JP X.outer
def Tx (sc:Scope) (x:Str):Prop:=sc.names.lookup x=some .local\/sc.names.lookup x=some .cell\/sc.names.lookup x=some .free
def Loc (sc:Scope) (x:Str):Prop:=sc.names.lookup x=some .local\/sc.names.lookup x=some .cell
def Look (env:Env) (h:Heap) (m:Str->Option Value) (x:Str) (u:Value):Prop :=
 (env.kindOf x=some .local/\m x=some u)\/((env.kindOf x=some .cell\/env.kindOf x=some .free)/\∃c,env.cells.lookup x=some c/\h.IsCell c (some u))
structure Cx.Ok (X:Cx):Prop where
 mod:Mod X.K X.mg X.base
 kind:X.env.scope.kind=.function
 glob:X.env.globals=mainGlobals
 blt:X.env.builtins=builtinsNs
 above:X.s₀.heap.objs.size<=X.env.locals
 inj:∀x y c,X.env.cells.lookup x=some c->X.env.cells.lookup y=some c->x=y
 has:∀x,(X.env.kindOf x=some .cell\/X.env.kindOf x=some .free)->∃c,X.env.cells.lookup x=some c
 cab:∀x c,X.fn x=true->X.env.cells.lookup x=some c->X.s₀.heap.objs.size<=c
 hd:X.calm=true->X.A.handled=none
 frames:X.A.frames=some X.stack
 stk:X.stack=X.outer\/(X.stack=X.env :: X.outer/\X.env.frame=some X.env.locals)
 exf:∀b∈X.ex,b≠X.env.locals/\∀x c,X.env.cells.lookup x=some c->c≠b
 bs:∀b o,X.base.get? b=some o->X.s₀.heap.get? b=some o/\X.H₀ b=none
 bsz:X.base.objs.size<=X.s₀.heap.objs.size
 noex:∀b o,X.base.get? b=some o->b∉X.ex
 exfs:∀b∈X.ex,b∉X.fs
 funs:X.s₀.heap.FunFrames X.base X.outer
 frf:∀b∈X.fs,X.H₀ b=none
structure Inv (X:Cx) (pins:List (Addr×Obj)) (σ:List (Option V)) (H:Hp) (s:Shared):Prop where
 ok:X.Ok
 os:s.os=X.s₀.os
 bare:AllBare s.gens
 base:Un X.fs X.ex X.H₀ H X.s₀.heap s.heap
 loc:∃m,s.heap.Ns X.env.locals m/\∀(i:Nat) (x:Str) (v:V),X.N[i]?=some x->σ[i]?=some (some v)->Tx X.env.scope x->∃u,RelV v u/\Look X.env s.heap m x u
 cell:∀x c,X.env.cells.lookup x=some c->∃v,s.heap.IsCell c v
 free:H X.env.locals=none
 freeC:∀x c,X.env.cells.lookup x=some c->H c=none
 pin:∀p∈X.pn++pins,s.heap.get? p.1=some p.2/\H p.1=none/\p.1≠X.env.locals/\p.1∉X.fs/\∀v,p.2.data≠.cell v
 hok:za X.prog X.w H s.heap
 len:σ.length=X.N.length
section
variable {X:Cx} {pins:List (Addr×Obj)} {σ:List (Option V)} {H H':Hp} {s:Shared} {h':Heap}
theorem Cx.Ok.nofr (ok:X.Ok) (e:X.base.get? b=some o):b∉X.fs:=λhb=>by
 have:=(ok.funs.mem hb).1;rw[e] at this;cases this
theorem Inv.bs (I:Inv X pins σ H s):∀b o,X.base.get? b=some o->s.heap.get? b=some o/\H b=none:=λb o e =>
 ⟨I.base.keep b o (I.ok.bs b o e).1 (I.ok.bs b o e).2 (I.ok.nofr e) (I.ok.noex b o e),I.base.free b o (I.ok.bs b o e).1 (I.ok.bs b o e).2 (I.ok.noex b o e)⟩
theorem Inv.bk (I:Inv X pins σ H s):∀b o,X.base.get? b=some o->s.heap.get? b=some o:=λb o e=>(I.bs b o e).1
theorem Inv.mod (I:Inv X pins σ H s):Mod X.K X.mg X.base:=I.ok.mod
theorem Inv.kIn (I:Inv X pins σ H s):X.K.In s.heap:=I.ok.mod.kin.keeps I.bk
theorem Inv.nolimit (I:Inv X pins σ H s):s.heap.NoLimit:=I.ok.mod.nolimit.keeps I.bk
theorem Inv.lt (I:Inv X pins σ H s):X.env.locals < s.heap.objs.size:=let ⟨_,hn,_⟩:=I.loc;hn.lt
theorem Inv.sz (I:Inv X pins σ H s):X.s₀.heap.objs.size<=s.heap.objs.size:=ak I.ok.above (aO I.lt)
theorem Inv.nofs (I:Inv X pins σ H s) {a:Addr} (h:s.heap.objs.size<=a):a∉X.fs:=λhb=>by
 obtain ⟨_,o,ho,_⟩:=I.ok.funs.mem hb;exact absurd (bc (Heap.lt_size ho) (ak I.sz h)) (gG _)
theorem Inv.cne (I:Inv X pins σ H s):∀x c,X.env.cells.lookup x=some c->c≠X.env.locals:=λx c e z=>by
 obtain ⟨v,o,ho,hd⟩:=I.cell x c e;obtain ⟨m,⟨o',es,ep,ho',hd',_⟩,_⟩:=I.loc;rw[z,ho'] at ho;cases ho;rw[hd'] at hd;cases hd
theorem Inv.funs (I:Inv X pins σ H s):s.heap.FunFrames X.base X.outer:=by
 have all:∀(l:List Env),(∀b∈JP l,b∈X.fs)->X.s₀.heap.FunFrames X.base l->s.heap.FunFrames X.base l:=by
  intro l
  induction l with
  | nil=>intro _ _;trivial
  | cons env r ih =>
   intro hs hl;obtain ⟨hk,⟨L,o,hf,hn,ho,hd⟩,hr⟩:=hl;have hL:L∈X.fs:=hs L (by unfold JP;rw[D9,hf];exact dc);obtain ⟨sl,e⟩:=I.base.slot L o ho (I.ok.frf L hL) hL λz=>I.ok.exfs L z hL
   exact ⟨hk,⟨L,_,hf,hn,e,hd⟩,ih (λb hb=>hs b (by unfold JP;rw[D9,hf];exact bM _ hb)) hr⟩
 exact all X.outer (λ_ hb=>hb) I.ok.funs
theorem Inv.stack (I:Inv X pins σ H s):s.heap.FunFrames X.base X.stack:=by
 rcases I.ok.stk with e | ⟨e,hf⟩
 ·rw[e];exact I.funs
 ·rw[e];obtain ⟨m,hn,_⟩:=I.loc;refine .cons (by rw[I.ok.kind];decide) hf hn ?_ I.funs;exact Heap.get?_none_of_le (ak I.ok.bsz I.ok.above)
theorem Inv.stkSub (I:Inv X pins σ H s):∀b∈JP X.stack,b∈X.env.locals :: X.fs:=λb hb=>by
 rcases I.ok.stk with e | ⟨e,hf⟩
 ·rw[e] at hb;exact bM _ hb
 ·rw[e] at hb;unfold JP at hb;rw[D9,hf] at hb;exact hb
theorem Inv.stkFree (I:Inv X pins σ H s):∀b∈JP X.stack,H b=none:=λb hb=>by
 rcases aH.mp (I.stkSub b hb) with e | hb
 ·rw[e];exact I.free
 ·obtain ⟨_,o,ho,_⟩:=I.ok.funs.mem hb;exact I.base.free b o ho (I.ok.frf b hb) λz=>I.ok.exfs b z hb
theorem Inv.step {ch:List Addr} (I:Inv X pins σ H s)
  (hch:∀b∈ch,(b∈X.ex\/X.s₀.heap.objs.size<=b)/\b≠X.env.locals/\(∀x c,X.env.cells.lookup x=some c->c≠b)/\∀p∈X.pn++pins,p.1≠b)
  (keep:∀b o,b≠X.env.locals->b∉X.fs->b∉ch->s.heap.get? b=some o->H b=none->h'.get? b=some o)
  (slot:∀b o,b≠X.env.locals->b∈X.fs->b∉ch->s.heap.get? b=some o->H b=none->∃sl,h'.get? b=some { o with slots:=sl }) (free:∀b o,b∉ch->s.heap.get? b=some o->H b=none->H' b=none)
  (there:∀b o,b∉ch->s.heap.get? b=some o->∃o',h'.get? b=some o')
  (tups:∀b xs,H b=some (.tup xs)->H' b=some (.tup xs)) (frzs:∀b o u,H b=some (.frz o u)->H' b=some (.frz o u)) (tbls:∀b ps,H b=some (.tbl ps)->∃more,H' b=some (.tbl (ps++more)))
  (ns:∀m,s.heap.Ns X.env.locals m->h'.Ns X.env.locals m) (hok:za X.prog X.w H' h') (hg:AllBare g') :
  Inv X pins σ H' { s with heap:=h',gens:=g',drawn:=d',toks:=t' }:=by
 have neL:∀b o,X.s₀.heap.get? b=some o->b≠X.env.locals:=λb o e=>cL (bc (Heap.lt_size e) I.ok.above)
 have neC:∀b o,X.s₀.heap.get? b=some o->b∉X.ex->b∉ch:=λb o e hx hb=>by
  rcases (hch b hb).1 with z | z
  ·exact hx z
  ·exact absurd (bc (Heap.lt_size e) z) (gG _)
 have cellK:∀x c,X.env.cells.lookup x=some c->∀v,s.heap.IsCell c v->h'.IsCell c v:=λx c e v ⟨o,ho,hd⟩=>by
  have nch:c∉ch:=λz=>(hch c z).2.2.1 x c e rfl
  by_cases hc:c∈X.fs
  ·obtain ⟨sl,q⟩:=slot c o (I.cne x c e) hc nch ho (I.freeC x c e);exact ⟨_,q,hd⟩
  ·exact ⟨o,keep c o (I.cne x c e) hc nch ho (I.freeC x c e),hd⟩
 refine ⟨I.ok,I.os,hg,⟨λb o e n hb hx=>?_,λb o e n hb hx=>?_,λb o e n hx=>?_,λb o e hx=>?_,λb xs e=>tups b xs (I.base.tups b xs e),λb o xs e=>frzs b o xs (I.base.frzs b o xs e),λb ps e=>?_⟩,?_,λx c e=>?_,?_,λx c e=>?_,λp hp=>?_,hok,I.len⟩
 ·exact keep b o (neL b o e) hb (neC b o e hx) (I.base.keep b o e n hb hx) (I.base.free b o e n hx)
 ·obtain ⟨sl,e1⟩:=I.base.slot b o e n hb hx;obtain ⟨sl',e2⟩:=slot b _ (neL b o e) hb (neC b o e hx) e1 (I.base.free b o e n hx);exact ⟨sl',e2⟩
 ·obtain ⟨o',e1⟩:=I.base.there b o e hx;exact free b o' (neC b o e hx) e1 (I.base.free b o e n hx)
 ·obtain ⟨o',e1⟩:=I.base.there b o e hx;exact there b o' (neC b o e hx) e1
 ·obtain ⟨m1,e1⟩:=I.base.tbls b ps e;obtain ⟨m2,e2⟩:=tbls b _ e1;exact ⟨m1++m2,by rw[e2,Array.append_assoc]⟩
 ·obtain ⟨m,hn,hl⟩:=I.loc;refine ⟨m,ns m hn,λi x v e1 e2 e3=>?_⟩;obtain ⟨u,r,l⟩:=hl i x v e1 e2 e3;refine ⟨u,r,?_⟩;rcases l with l | ⟨k,c,e,z⟩
  ·exact .inl l
  ·exact .inr ⟨k,c,e,cellK x c e _ z⟩
 ·obtain ⟨v,z⟩:=I.cell x c e;exact ⟨v,cellK x c e v z⟩
 ·obtain ⟨m,⟨o,_,_,ho,_⟩,_⟩:=I.loc;exact free _ o (λz=>(hch _ z).2.1 rfl) ho I.free
 ·obtain ⟨v,o,ho,hd⟩:=I.cell x c e;exact free c o (λz=>(hch c z).2.2.1 x c e rfl) ho (I.freeC x c e)
 ·obtain ⟨e,n,ne,nf,d⟩:=I.pin p hp;have nch:p.1∉ch:=λz=>(hch p.1 z).2.2.2 p hp rfl
  exact ⟨keep p.1 p.2 ne nf nch e n,free p.1 p.2 nch e n,ne,nf,d⟩
theorem Inv.un (I:Inv X pins σ H s) (u:Un X.fs [] H H' s.heap h') (hok:za X.prog X.w H' h'):Inv X pins σ H' { s with heap:=h',toks:=t' }:=by
 obtain ⟨m,⟨o,es,ep,ho,r⟩,_⟩:=id I.loc;obtain ⟨sl,hL⟩:=u.any ho I.free (by simp)
 exact I.step (g':=s.gens) (d':=s.drawn) (ch:=[]) (λ_ z=>nomatch z) (λb o _ hb _ e n=>u.keep b o e n hb (by simp)) (λb o _ hb _ e n=>u.slot b o e n hb (by simp)) (λb o _ e n=>u.free b o e n (by simp)) (λb o _ e=>u.there b o e (by simp)) u.tups u.frzs u.tbls (λm' hm=>by
  obtain ⟨o',es',ep',ho',r'⟩:=hm;rw[ho] at ho';cases ho';exact ⟨_,es',ep',hL,r'⟩) hok I.bare
theorem Inv.call (I:Inv X pins σ H s) (u:Un (JP X.stack) ch H H' s.heap h') (hok:za X.prog X.w H' h') (hg:AllBare g')
  (hch:∀b∈ch,(b∈X.ex\/X.s₀.heap.objs.size<=b)/\b≠X.env.locals/\(∀x c,X.env.cells.lookup x=some c->c≠b)/\∀p∈X.pn++pins,p.1≠b) :
  Inv X pins σ H' { s with heap:=h',gens:=g',drawn:=d',toks:=t' }:=by
 obtain ⟨m,⟨o,es,ep,ho,r⟩,_⟩:=id I.loc;obtain ⟨sl,hL⟩:=u.any ho I.free λz=>(hch _ z).2.1 rfl
 exact I.step (ch:=ch) hch (λb o hL hb hc e n=>u.keep b o e n (λz=>(aH.mp (I.stkSub b z)).elim hL hb) hc) (λb o _ _ hc e n=>u.any e n hc) (λb o hc e n=>u.free b o e n hc) (λb o hc e=>u.there b o e hc) u.tups u.frzs u.tbls (λm' hm=>by
  obtain ⟨o',es',ep',ho',r'⟩:=hm;rw[ho] at ho';cases ho';exact ⟨_,es',ep',hL,r'⟩) hok hg
theorem Inv.turned (I:Inv X pins σ H s) (k:∀b o,b≠it->s.heap.get? b=some o->h'.get? b=some o) (hn:H it=none) (hL:it≠X.env.locals)
  (h1:it∈X.ex\/X.s₀.heap.objs.size<=it) (h2:∀x c,X.env.cells.lookup x=some c->c≠it) (h3:∀p∈X.pn++pins,p.1≠it):Inv X pins σ H { s with heap:=h',toks:=t' }:=by
 have nit:∀b u,H b=some u->b≠it:=λb u e z=>by rw[z,hn] at e;cases e
 refine I.step (g':=s.gens) (d':=s.drawn) (ch:=[it]) (λb hb=>?_) (λb o _ _ hc e _=>k b o (λz=>hc (by simp [z])) e) (λb o _ _ hc e _=>⟨o.slots,k b o (λz=>hc (by simp [z])) e⟩) (λ_ _ _ _ n=>n)
  (λb o hc e=>⟨o,k b o (λz=>hc (by simp [z])) e⟩) (λ_ _ e=>e) (λ_ _ _ e=>e) (λb ps e=>⟨#[],by rw[e];simp⟩) (λm hm=>?_) (λb u e=>?_) I.bare
 ·have e:b=it:=by simpa using hb
  subst e;exact ⟨h1,hL,h2,h3⟩
 ·obtain ⟨o,es,ep,ho,r⟩:=hm;exact ⟨o,es,ep,k _ o (Ne.symm hL) ho,r⟩
 ·refine (I.hok b u e).stay (λc v hc q=>k c v ?_ q) (λ_ q=>q) λ_ _ q=>q
  rcases hc with z | z
  ·rw[z];exact nit b u e
  ·exact nit c _ z
theorem Inv.tok (I:Inv X pins σ H s) (t:Nat):Inv X pins σ H { s with toks:=t }:=I.un (h':=s.heap) (t':=t) Un.refl I.hok
theorem Inv.kept (I:Inv X pins σ H s) (k:∀b u,s.heap.get? b=some u->h'.get? b=some u):Inv X pins σ H { s with heap:=h',toks:=t' }:=I.un (Un.kept k) (I.hok.kept k)
theorem Inv.laid {a:Addr} (I:Inv X pins σ H s) (k:∀b u,s.heap.get? b=some u->h'.get? b=some u) (hp:s.heap.objs.size<=a) (new:jN X.prog X.w (upd H a o) h' a o) :
  Inv X pins σ (upd H a o) { s with heap:=h',toks:=t' }:=I.un (Un.laid k hp (I.hok.fresh hp)) (I.hok.laid k hp new)
theorem Inv.write (I:Inv X pins σ H s) (mu:S6 (H x)) (he:e=x\/H e=some (.own x)) (k:∀b u,b≠e->s.heap.get? b=some u->h'.get? b=some u) (heo:∃u,h'.get? e=some u)
  (new:jN X.prog X.w (upd H x o) h' x o):Inv X pins σ (upd H x o) { s with heap:=h',toks:=t' }:=I.un (Un.write mu he k heo) (I.hok.write mu he k heo new)
theorem Inv.pins_of (I:Inv X pins σ H s) (h:∀p∈pins',s.heap.get? p.1=some p.2/\H p.1=none/\p.1≠X.env.locals/\p.1∉X.fs/\∀v,p.2.data≠.cell v):Inv X pins' σ H s :=
 ⟨I.ok,I.os,I.bare,I.base,I.loc,I.cell,I.free,I.freeC,λp hp=>(av.mp hp).elim (λz=>I.pin p (kz _ z)) (h p),I.hok,I.len⟩
theorem ET {N:List Str} (hN:N.Nodup) {i j:Nat} (a:N[i]?=some x) (b:N[j]?=some x):i=j:=by
 obtain ⟨h1,e1⟩:=aU.mp a;obtain ⟨h2,e2⟩:=aU.mp b;exact (List.getElem_inj hN).mp (e1.trans e2.symm)
theorem Bv {M:Model} {A:Around} {E:Value->Shared->Prop} {i:Nat} {x:Str} {v:V} {u:Value} {Q:Unit->Shared->Prop} (I:Inv X pins σ H s) (hN:X.N.Nodup) (hi:X.N[i]?=some x) (hx:Loc X.env.scope x) (r:RelV v u)
  (h:∀s',Inv X pins (σ.set i (some v)) H s'->(∃a,Heap.SameBut a s.heap s'.heap/\(a=X.env.locals\/X.env.cells.lookup x=some a))->Q () s') (hf:X.fn x=true\/X.env.scope.names.lookup x=some .local:=by first | exact .inl rfl | exact .inr rfl | assumption):wpAny M A (storeName X.env x u) Q E s:=by
 obtain ⟨m,hn,hl⟩:=id I.loc;have hcls:(X.env.scope.kind == .class || (X.env.scope.kind == .module && X.env.locals != X.env.globals))=false:=by rw[I.ok.kind];rfl
 have hiσ:i < σ.length:=by rw[I.len];exact (aU.mp hi).1
 have cne:=I.cne
 have tracked:∀{a:Addr} {h':Heap},(∃o,s.heap.get? a=some o/\H a=none)->Heap.SameBut a s.heap h'->za X.prog X.w H h':=λ{a h'} ha hs b ob e=>by
  obtain ⟨_,_,hfree⟩:=ha;refine (I.hok b ob e).stay (λc w' hc q=>(hs.2 c ?_).trans q) (λ_ q=>q) λ_ _ q=>q
  rintro rfl;rcases hc with rfl | hc
  ·rw[hfree] at e;cases e
  ·rw[hfree] at hc;cases hc
 rcases hx with hk | hk
 ·refine wpAny_storeName_local hk hn (λh' hn' hs=>?_) hcls;obtain ⟨oL,_,_,hoL,_⟩:=id hn;refine h _ ⟨I.ok,I.os,I.bare,⟨λb o e n hb hx=>?_,λb o e n hb hx=>?_,I.base.free,λb o e hx=>?_,I.base.tups,I.base.frzs,I.base.tbls⟩,⟨_,hn',λj y v' e1 e2 e3=>?_⟩,λy c e=>?_,I.free,I.freeC,λp hp=>?_,tracked ⟨oL,hoL,I.free⟩ hs,by simpa using I.len⟩ ⟨_,hs,.inl rfl⟩
  ·exact (hs.2 b (cL (bc (Heap.lt_size e) I.ok.above))).trans (I.base.keep b o e n hb hx)
  ·obtain ⟨sl,e1⟩:=I.base.slot b o e n hb hx;exact ⟨sl,(hs.2 b (cL (bc (Heap.lt_size e) I.ok.above))).trans e1⟩
  ·obtain ⟨o',e1⟩:=I.base.there b o e hx;exact ⟨o',(hs.2 b (cL (bc (Heap.lt_size e) I.ok.above))).trans e1⟩
  ·by_cases hj:j=i
   ·subst hj;rw[hi] at e1;cases e1;rw[List.getElem?_set_self hiσ] at e2;cases e2;exact ⟨u,r,.inl ⟨hk,by simp⟩⟩
   ·rw[List.getElem?_set_ne (Ne.symm hj)] at e2;obtain ⟨u',r',q⟩:=hl j y v' e1 e2 e3;refine ⟨u',r',?_⟩;rcases q with ⟨k,e⟩ | ⟨k,c,e,z⟩
    ·refine .inl ⟨k,?_⟩;have:y≠x:=λe=>hj (ET hN e1 (e ▸ hi))
     simp [this,e]
    ·exact .inr ⟨k,c,e,z.sameBut hs (cne y c e)⟩
  ·obtain ⟨w',z⟩:=I.cell y c e;exact ⟨w',z.sameBut hs (cne y c e)⟩
  ·obtain ⟨e,n,ne,nf,d⟩:=I.pin p hp;exact ⟨(hs.2 p.1 ne).trans e,n,ne,nf,d⟩
 ·have hfn:X.fn x=true:=by
   rcases hf with z | z
   ·exact z
   ·rw[z] at hk;cases hk
  obtain ⟨c,hc⟩:=I.ok.has x (.inl hk);obtain ⟨w',z⟩:=I.cell x c hc;refine wpAny_storeName_cell I.ok.kind hk hc z (λh' hc' hs=>?_);obtain ⟨oc,hoc,hocd⟩:=id z;refine h { s with heap:=h' } ⟨I.ok,I.os,I.bare,⟨λb o e n hb hx=>?_,λb o e n hb hx=>?_,I.base.free,λb o e hx=>?_,I.base.tups,I.base.frzs,I.base.tbls⟩,⟨m,hn.sameBut hs (Ne.symm (cne x c hc)),λj y v' e1 e2 e3=>?_⟩,λy c' e=>?_,I.free,I.freeC,λp hp=>?_,tracked ⟨oc,hoc,I.freeC x c hc⟩ hs,by simpa using I.len⟩ ⟨c,hs,.inr hc⟩
  ·exact (hs.2 b (cL (bc (Heap.lt_size e) (I.ok.cab x c hfn hc)))).trans (I.base.keep b o e n hb hx)
  ·obtain ⟨sl,e1⟩:=I.base.slot b o e n hb hx;exact ⟨sl,(hs.2 b (cL (bc (Heap.lt_size e) (I.ok.cab x c hfn hc)))).trans e1⟩
  ·obtain ⟨o',e1⟩:=I.base.there b o e hx;exact ⟨o',(hs.2 b (cL (bc (Heap.lt_size e) (I.ok.cab x c hfn hc)))).trans e1⟩
  ·by_cases hj:j=i
   ·subst hj;rw[hi] at e1;cases e1;rw[List.getElem?_set_self hiσ] at e2;cases e2;exact ⟨u,r,.inr ⟨.inl hk,c,hc,hc'⟩⟩
   ·rw[List.getElem?_set_ne (Ne.symm hj)] at e2;obtain ⟨u',r',q⟩:=hl j y v' e1 e2 e3;refine ⟨u',r',?_⟩;rcases q with q | ⟨k,c',e,z'⟩
    ·exact .inl q
    ·refine .inr ⟨k,c',e,z'.sameBut hs ?_⟩;rintro rfl;exact hj (ET hN e1 (I.ok.inj _ _ _ e hc ▸ hi))
  ·by_cases hcc:c'=c
   ·subst hcc;exact ⟨_,hc'⟩
   ·obtain ⟨w2,z2⟩:=I.cell y c' e;exact ⟨w2,z2.sameBut hs hcc⟩
  ·obtain ⟨e,n,ne,nf,d⟩:=I.pin p hp;refine ⟨(hs.2 p.1 ?_).trans e,n,ne,nf,d⟩;intro q;rw[q,hoc] at e;have q':oc=p.2:=b6 e;exact d w' (by rw[<- q'];exact hocd)
theorem vf {M:Model} {A:Around} {E:Value->Shared->Prop} {i:Nat} {x:Str} {v:V} {u:Value} {Q:Unit->Shared->Prop} (I:Inv X pins σ H s) (hN:X.N.Nodup) (hi:X.N[i]?=some x) (hx:Loc X.env.scope x) (r:RelV v u)
  (h:∀s',Inv X pins (σ.set i (some v)) H s'->Q () s') (hf:X.fn x=true\/X.env.scope.names.lookup x=some .local:=by first | exact .inl rfl | exact .inr rfl | assumption):wpAny M A (storeName X.env x u) Q E s :=
 Bv I hN hi hx r (λs' I' _=>h s' I') hf
theorem Inv.call' (I:Inv X pins σ H s) (ho:s'.os=s.os) (u:Un (JP X.stack) ch H H' s.heap s'.heap) (hok:za X.prog X.w H' s'.heap) (hg:AllBare s'.gens)
  (hch:∀b∈ch,(b∈X.ex\/X.s₀.heap.objs.size<=b)/\b≠X.env.locals/\(∀x c,X.env.cells.lookup x=some c->c≠b)/\∀p∈X.pn++pins,p.1≠b):Inv X pins σ H' s':=by
 obtain ⟨h',g',d',t',o'⟩:=s';have e:o'=s.os:=ho;subst e;exact I.call (g':=g') (t':=t') (d':=d') u hok hg hch
end
abbrev XK:=Value->Option Addr->Hp->Prop
abbrev St:=List (Option V)
abbrev VK:=V->Hp->Prop
abbrev TE:=St->Hp->VK->Prop
abbrev TT:=St->Hp->(Bool->Hp->Prop)->Prop
abbrev TA:=St->Hp->(List V->Hp->Prop)->Prop
structure Ends where
 nx:St->Hp->Prop
 rt:VK
 bk:St->Hp->Prop:=λ_ _=>False
 ct:St->Hp->Prop:=λ_ _=>False
abbrev TS:=Ends->St->Hp->Prop
def EP (X:Cx) (pins:List (Addr×Obj)) (σ:St) (Q:VK) (u:Value) (s':Shared):Prop:=∃v H',Inv X pins σ H' s'/\RelV v u/\Q v H'
def TP (X:Cx) (pins:List (Addr×Obj)) (σ:St) (Q:Bool->Hp->Prop) (b:Bool) (s':Shared):Prop:=∃H',Inv X pins σ H' s'/\Q b H'
def AP (X:Cx) (pins:List (Addr×Obj)) (σ:St) (Q:List V->Hp->Prop) (us:List Value) (s':Shared):Prop:=∃vs H',Inv X pins σ H' s'/\cZ vs us/\Q vs H'
def SP (X:Cx) (pins:List (Addr×Obj)) (D:Ends) (f:Flow) (s':Shared):Prop :=
 match f with
 | .next=>∃σ' H',Inv X pins σ' H' s'/\D.nx σ' H'
 | .brk=>∃σ' H',Inv X pins σ' H' s'/\D.bk σ' H'
 | .cont=>∃σ' H',Inv X pins σ' H' s'/\D.ct σ' H'
 | .ret u=>∃v σ' H',Inv X pins σ' H' s'/\RelV v u/\D.rt v H'
def PE (X:Cx) (e:Expr) (t:TE):Prop :=
 ∀(pins:List (Addr×Obj)) (s:Shared) (σ:St) (H:Hp) (Q:VK),Inv X pins σ H s->t σ H Q->wpAny (model X.prog X.w) X.A (eval e X.env) (EP X pins σ Q) X.xe s
def PT (X:Cx) (e:Expr) (t:TT):Prop :=
 ∀(pins:List (Addr×Obj)) (s:Shared) (σ:St) (H:Hp) (Q:Bool->Hp->Prop),Inv X pins σ H s->t σ H Q->wpAny (model X.prog X.w) X.A (isTrue e X.env (eval e X.env)) (TP X pins σ Q) X.xe s
def PW (X:Cx) (e:Expr) (t:TT):Prop :=
 ∀(whole:Sem Value) (pins:List (Addr×Obj)) (s:Shared) (σ:St) (H:Hp) (Q:Bool->Hp->Prop),Inv X pins σ H s->t σ H Q->wpAny (model X.prog X.w) X.A (isTrue e X.env whole) (TP X pins σ Q) X.xe s
theorem PW.pt (h:PW X e t):PT X e t:=h _
def PA (X:Cx) (es:List Expr) (t:TA):Prop :=
 ∀(pos:Pos) (pins:List (Addr×Obj)) (s:Shared) (σ:St) (H:Hp) (Q:List V->Hp->Prop),Inv X pins σ H s->t σ H Q->wpAny (model X.prog X.w) X.A (spliced (backTo pos (starEach es X.env))) (AP X pins σ Q) X.xe s
def PS (X:Cx) (st:Stmt) (t:TS):Prop :=
 ∀(pins:List (Addr×Obj)) (s:Shared) (σ:St) (H:Hp) (D:Ends),Inv X pins σ H s->t D σ H->wpAny (model X.prog X.w) X.A (exec st X.env) (SP X pins D) X.xe s
def GQ (X:Cx) (st:List Stmt) (t:TS):Prop :=
 ∀(pins:List (Addr×Obj)) (s:Shared) (σ:St) (H:Hp) (D:Ends),Inv X pins σ H s->t D σ H->wpAny (model X.prog X.w) X.A (execs st X.env) (SP X pins D) X.xe s
theorem iK {t:Sem α} {Q Q':α->Shared->Prop} (h:wpAny M A t Q E s) (hQ:∀a s,Q a s->Q' a s):wpAny M A t Q' E s:=wpAny_mono h hQ λ_ _ x=>x
section
variable {X:Cx}
def Pb (i:Nat):TE:=λσ H Q=>∃v,σ[i]?=some (some v)/\Q v H
def tC (v:V):TE:=λ_ H Q=>Q v H
theorem P9 {i:Nat} {x:Str} {pos:Pos} (hN:X.N[i]?=some x) (hv:Tx X.env.scope x) (hd:(x == ("__debug__":Str))=false:=by decide) (hcd:(x == ("__classdict__":Str))=false:=by decide):PE X (.Name x pos) (Pb i):=by
 intro pins s σ H Q I h;obtain ⟨v,e,h⟩:=h;obtain ⟨m,hn,hl⟩:=I.loc;obtain ⟨u,r,l⟩:=hl i x v hN e hv;have fin:EP X pins σ Q u s:=⟨v,H,I,r,h⟩;rcases l with ⟨hk,hm⟩ | ⟨hk,c,hc,hcell⟩
 ·exact wpAny_Name (wpAny_loadName_local I.ok.kind hk hn hm fin) hd
 ·rcases hk with hk | hk
  ·exact wpAny_Name (wpAny_loadName_cell I.ok.kind hk hc hcell fin) hd
  ·exact wpAny_Name (wpAny_loadName_free I.ok.kind hk hc hcell fin hcd) hd
theorem aj:PE X (.Constant (.int i) j pos) (tC (.int i)):=λ_ _ _ H _ I h=>wpAny_Constant_int ⟨.int i,H,I.tok _,⟨_,rfl⟩,h⟩
theorem HZ:PE X (.Constant (.bool b) j pos) (tC (.bl b)):=λ_ _ _ H _ I h=>Constant_bool ⟨.bl b,H,I,rfl,h⟩
theorem KI:PE X (.Constant .none j pos) (tC .non):=λ_ _ _ H _ I h=>Constant_none ⟨.non,H,I,rfl,h⟩
def Gl (X:Cx) (x:Str):Prop:=X.env.kindOf x=some .globalImplicit
theorem Dx {E:Value->Shared->Prop} {pins:List (Addr×Obj)} {s:Shared} {σ:St} {H:Hp} {x:Str} {u:Value} {pos:Pos} {Q:Value->Shared->Prop} (I:Inv X pins σ H s) (hg:Gl X x) (hm:X.mg x=some u) (h:Q u s)
  (hd:(x == ("__debug__":Str))=false:=by decide):wpAny (model X.prog X.w) X.A (eval (.Name x pos) X.env) Q E s :=
 Calls.Name_function_global I.ok.kind hg (Calls.loadGlobal_global (by rw[I.ok.glob];exact I.mod.glob.keeps I.bk) hm h) hd
theorem oC {E:Value->Shared->Prop} {pins:List (Addr×Obj)} {s:Shared} {σ:St} {H:Hp} {x:Str} {u:Value} {pos:Pos} {Q:Value->Shared->Prop} (I:Inv X pins σ H s) (hg:Gl X x) (hm:X.mg x=none) (hv:bootBuiltins x=some u) (h:Q u s)
  (hn:x≠"__name__":=by decide) (hd:(x == ("__debug__":Str))=false:=by decide):wpAny (model X.prog X.w) X.A (eval (.Name x pos) X.env) Q E s:=by
 obtain ⟨mb,h1,h2⟩:=I.mod.blt;exact Calls.Name_function_global I.ok.kind hg (Calls.loadGlobal_builtin (by rw[I.ok.glob];exact I.mod.glob.keeps I.bk) hm (by rw[I.ok.blt];exact h1.keeps I.bk) ((h2 x hn).trans hv) h) hd
theorem Dc {x:Str} {v:V} {u:Value} {pos:Pos} (hg:Gl X x) (hm:X.mg x=some u) (r:RelV v u) (hd:(x == ("__debug__":Str))=false:=by decide):PE X (.Name x pos) (tC v) :=
 λ_ _ _ H _ I h=>Dx I hg hm ⟨v,H,I,r,h⟩ hd
theorem HY {x:Str} {v:V} {u:Value} {pos:Pos} (hg:Gl X x) (hm:X.mg x=none) (hv:bootBuiltins x=some u) (r:RelV v u) (hn:x≠"__name__":=by decide) (hd:(x == ("__debug__":Str))=false:=by decide):PE X (.Name x pos) (tC v) :=
 λ_ _ _ H _ I h=>oC I hg hm hv ⟨v,H,I,r,h⟩ hn hd
variable {a b:Expr} {ta tb:TE} {pos:Pos}
def tB (t:TE):TT:=λσ H Q=>t σ H λx H1=>∃c,x=.bl c/\Q c H1
theorem xa {e:Expr} {t:TE} (h:PE X e t) (he:∀whole,isTrue e X.env whole=(do let v <- whole;standAt e.pos;holding [v] (truthy v)):=by intro _;rfl):PT X e (tB t):=by
 intro pins s σ H Q I hw;refine isTrue_plain (iK (h pins s σ H _ I hw) λv s1 ⟨x,H1,I1,r1,q1⟩=>?_) (he _);obtain ⟨d,rfl,q⟩:=q1;cases r1;exact wpAny_truthy_bool ⟨H1,I1,q⟩
variable {tA tB':TT} {rest:List Expr}
def RC (t u:TT):TT:=λσ H Q=>t σ H λc H1=>if c=true then u σ H1 Q else Q false H1
def tOr (t u:TT):TT:=λσ H Q=>t σ H λc H1=>if c=true then Q true H1 else u σ H1 Q
def Rx (t:TT):TT:=λσ H Q=>t σ H λc H1=>Q (!c) H1
theorem lY (ha:PT X a tA):PW X (.BoolOp .And [a] pos) tA:=by
 intro wh pins s σ H Q I h;refine isTrue_and (iK (ha pins s σ H Q I h) λc s1 e=>?_);cases c with
 | true=>exact isTrue_and_nil e
 | false=>exact e
theorem rO (ha:PT X a tA):PW X (.BoolOp .Or [a] pos) tA:=by
 intro wh pins s σ H Q I h;refine isTrue_or (iK (ha pins s σ H Q I h) λc s1 e=>?_);cases c with
 | false=>exact isTrue_or_nil e
 | true=>exact e
theorem kG (ha:PT X a tA) (hb:PW X (.BoolOp .And (b :: rest) pos) tB'):PW X (.BoolOp .And (a :: b :: rest) pos) (RC tA tB'):=by
 intro wh pins s σ H Q I h;refine isTrue_and (iK (ha pins s σ H _ I h) λc s1 ⟨H1,I1,q1⟩=>?_);cases c with
 | true=>exact hb wh pins s1 σ H1 Q I1 q1
 | false=>exact ⟨H1,I1,q1⟩
theorem xS (ha:PT X a tA) (hb:PW X (.BoolOp .Or (b :: rest) pos) tB'):PW X (.BoolOp .Or (a :: b :: rest) pos) (tOr tA tB'):=by
 intro wh pins s σ H Q I h;refine isTrue_or (iK (ha pins s σ H _ I h) λc s1 ⟨H1,I1,q1⟩=>?_);cases c with
 | true=>exact ⟨H1,I1,q1⟩
 | false=>exact hb wh pins s1 σ H1 Q I1 q1
theorem xc (ha:PT X a tA):PT X (.UnaryOp .Not a pos) (Rx tA):=by
 intro pins s σ H Q I h;exact isTrue_not (ha pins s σ H (λc H1=>Q (!c) H1) I h)
def Ou (ta tb:TE):TE:=λσ H Q=>ta σ H λx H1=>∃c,x=.bl c/\if c=true then tb σ H1 Q else Q (.bl false) H1
def Oj (ta:TE):TE:=λσ H Q=>ta σ H λx H1=>∃c,x=.bl c/\Q (.bl (!c)) H1
theorem F5 (h:PE X a t):PE X (.BoolOp op [a] pos) t:=λpins s σ H Q I hw=>BoolOp_one (h pins s σ H Q I hw)
theorem F6 (ha:PE X a ta) (hb:PE X (.BoolOp .And (b :: rest) pos) tb):PE X (.BoolOp .And (a :: b :: rest) pos) (Ou ta tb):=by
 intro pins s σ H Q I h;refine BoolOp_and (iK (ha pins s σ H _ I h) λv s1 ⟨x,H1,I1,r1,q1⟩=>?_);obtain ⟨c,rfl,q1⟩:=q1;cases r1;refine wpAny_truthy_bool ?_;cases c with
 | true=>exact hb pins s1 σ H1 Q I1 q1
 | false=>exact ⟨.bl false,H1,I1,rfl,q1⟩
theorem Qa (ha:PE X a ta):PE X (.UnaryOp .Not a pos) (Oj ta):=by
 intro pins s σ H Q I h;refine UnaryOp_ (iK (ha pins s σ H _ I h) λv s1 ⟨x,H1,I1,r1,q1⟩=>?_);obtain ⟨c,rfl,q1⟩:=q1;cases r1;exact not_of (wpAny_truthy_bool ⟨.bl (!c),H1,I1,rfl,q1⟩)
def tIf (t:TT) (ta tb:TE):TE:=λσ H Q=>t σ H λc H1=>if c=true then ta σ H1 Q else tb σ H1 Q
theorem KJ (hc:PT X c tA) (ha:PE X a ta) (hb:PE X b tb):PE X (.IfExp c a b pos) (tIf tA ta tb):=by
 intro pins s σ H Q I h;refine wpAny_IfExp (iK (hc pins s σ H _ I h) λd s1 ⟨H1,I1,q1⟩=>?_);cases d with
 | true=>exact ha pins s1 σ H1 Q I1 q1
 | false=>exact hb pins s1 σ H1 Q I1 q1
end
def bK (K:FG9) (H:Hp) (a:Addr) (xs:List V):Prop :=
 Rd H a (.lst xs) \/
  ∃(o:Obj) (its:Array Value) (n:Nat),K.lookup a=some o/\o.cls=.type "list"/\o.dict=none/\o.data=.seq its n/\its.size<=sizeLine/\cZ xs its.toList
def uR (K:FG9) (H:Hp) (a:Addr) (xs:List V):Prop :=
 Rd H a (.tup xs) \/
  ∃(o:Obj) (its:Array Value) (n:Nat),K.lookup a=some o/\o.cls=.type "tuple"/\o.data=.seq its n/\its.size<=sizeLine/\cZ xs its.toList
def Tw:Value->Option V
 | .none=>some .non
 | .bool b=>some (.bl b)
 | .int i _=>some (.int i)
 | .str x _=>some (.str x)
 | .bytes b _=>some (.byt b)
 | .float b _=>some (.flt b)
 | .ref a=>some (.ref a)
 | .type n=>some (.ty n)
 | _=>none
theorem RelV.abs (r:RelV x u):Tw u=some x:=by
 cases x with
 | non=>cases r;rfl
 | bl _=>cases r;rfl
 | int _=>obtain ⟨t,rfl⟩:=r;rfl
 | str _=>obtain ⟨t,rfl⟩:=r;rfl
 | byt _=>obtain ⟨t,rfl⟩:=r;rfl
 | flt _=>obtain ⟨t,rfl⟩:=r;rfl
 | ref _=>cases r;rfl
 | ty _=>cases r;rfl
theorem RelV.inj (r:RelV x u) (q:RelV y u):x=y:=b6 (r.abs.symm.trans q.abs)
theorem cZ.inj:∀{xs ys:List V} {us:List Value},cZ xs us->cZ ys us->xs=ys
 | _,_,_,.nil,.nil=>rfl
 | _,_,_,.cons r t,.cons r' t'=>by rw[r.inj r',cZ.inj t t']
section
variable {X:Cx} {pins:List (Addr×Obj)} {σ:St} {H:Hp} {s:Shared} {a:Addr} {xs ys:List V}
theorem bK.of {K:FG9} (h:H a=some (.lst xs)):bK K H a xs:=.inl (.inl h)
theorem uR.of {K:FG9} (h:H a=some (.tup xs)):uR K H a xs:=.inl (.inl h)
theorem Inv.list (I:Inv X pins σ H s) (h:bK X.K H a xs):∃its:List Value,cZ xs its/\PlainL s.heap a its.toArray/\xs.length<=sizeLine:=by
 rcases h with h | ⟨o,its,n,hk,hc,hd,hs,hz,r⟩
 ·obtain ⟨z,its,n,r,e⟩:=h.ok I.hok;exact ⟨its,r,⟨_,n,e,rfl,rfl,rfl⟩,z⟩
 ·refine ⟨its.toList,r,⟨o,n,I.kIn a o hk,hc,hd,by simpa using hs⟩,?_⟩;have e:=r.length;simp only[Array.length_toList] at e
  lia
theorem Inv.tuple (I:Inv X pins σ H s) (h:uR X.K H a xs):∃its:List Value,cZ xs its/\IsTup s.heap a its.toArray/\xs.length<=sizeLine:=by
 rcases h with h | ⟨o,its,n,hk,hc,hs,hz,r⟩
 ·obtain ⟨z,its,r,p⟩:=h.ok I.hok;exact ⟨its,r,p,z⟩
 ·refine ⟨its.toList,r,⟨o,I.kIn a o hk,hc,n,by simpa using hs⟩,?_⟩;have e:=r.length;simp only[Array.length_toList] at e
  lia
theorem Inv.list_inj (I:Inv X pins σ H s) (h:bK X.K H a xs) (h':bK X.K H a ys):xs=ys:=by
 obtain ⟨its,r,⟨o,n,e,_,_,d⟩,_⟩:=I.list h;obtain ⟨its',r',⟨o',n',e',_,_,d'⟩,_⟩:=I.list h';rw[e] at e';cases e';rw[d] at d';injection d' with d1 _
 have:its=its':=by simpa using congrArg Array.toList d1
 subst this;exact r.inj r'
theorem Inv.tuple_inj (I:Inv X pins σ H s) (h:uR X.K H a xs) (h':uR X.K H a ys):xs=ys:=by
 obtain ⟨its,r,⟨o,e,_,n,d⟩,_⟩:=I.tuple h;obtain ⟨its',r',⟨o',e',_,n',d'⟩,_⟩:=I.tuple h';rw[e] at e';cases e';rw[d] at d';injection d' with d1 _
 have:its=its':=by simpa using congrArg Array.toList d1
 subst this;exact r.inj r'
end
abbrev Cx.wish (X:Cx) (E:Value->Shared->Prop):Cx:={ X with xe:=E }
abbrev Cx.nox (X:Cx):Cx:=X.wish λ_ _=>False
theorem Cx.Ok.wish {X:Cx} (ok:X.Ok) (E:Value->Shared->Prop):(X.wish E).Ok :=
 ⟨ok.mod,ok.kind,ok.glob,ok.blt,ok.above,ok.inj,ok.has,ok.cab,ok.hd,ok.frames,ok.stk,ok.exf,ok.bs,ok.bsz,ok.noex,ok.exfs,ok.funs,ok.frf⟩
theorem Cx.Ok.unwish {X:Cx} (ok:(X.wish E).Ok):X.Ok :=
 ⟨ok.mod,ok.kind,ok.glob,ok.blt,ok.above,ok.inj,ok.has,ok.cab,ok.hd,ok.frames,ok.stk,ok.exf,ok.bs,ok.bsz,ok.noex,ok.exfs,ok.funs,ok.frf⟩
section
variable {X:Cx} {pins:List (Addr×Obj)} {σ:St} {H:Hp} {s:Shared} {E:Value->Shared->Prop}
theorem Inv.wish (I:Inv X pins σ H s) (E:Value->Shared->Prop):Inv (X.wish E) pins σ H s:=⟨I.ok.wish E,I.os,I.bare,I.base,I.loc,I.cell,I.free,I.freeC,I.pin,I.hok,I.len⟩
theorem Inv.unwish (I:Inv (X.wish E) pins σ H s):Inv X pins σ H s:=⟨I.ok.unwish,I.os,I.bare,I.base,I.loc,I.cell,I.free,I.freeC,I.pin,I.hok,I.len⟩
theorem SP.unwish (h:SP (X.wish E) pins D f s'):SP X pins D f s':=by
 cases f with
 | next=>obtain ⟨σ',H',I,q⟩:=h;exact ⟨σ',H',I.unwish,q⟩
 | brk=>obtain ⟨σ',H',I,q⟩:=h;exact ⟨σ',H',I.unwish,q⟩
 | cont=>obtain ⟨σ',H',I,q⟩:=h;exact ⟨σ',H',I.unwish,q⟩
 | ret u=>obtain ⟨v,σ',H',I,r,q⟩:=h;exact ⟨v,σ',H',I.unwish,r,q⟩
theorem GQ.nox {st:List Stmt} (h:GQ X.nox st t):GQ X st t:=λpins s σ H D I hw =>
 wpAny_mono (h pins s σ H D (I.wish _) hw) (λ_ _ q=>q.unwish) λ_ _ z=>False.elim z
end
section
variable {X:Cx} {st:Stmt} {rest:List Stmt} {t u:TS} {e:Expr} {te:TE} {pos:Pos}
def Ol:TS:=λD σ H=>D.nx σ H
def Rn (t u:TS):TS:=λD σ H=>t { D with nx:=u D } σ H
theorem cK:GQ X [] Ol:=λ_ _ σ H _ I h=>wpAny_execs_nil ⟨σ,H,I,h⟩
theorem au (h1:PS X st t) (h2:GQ X rest u):GQ X (st :: rest) (Rn t u):=by
 intro pins s σ H D I h;refine wpAny_execs_cons (iK (h1 pins s σ H { D with nx:=u D } I h) λf s1 q=>?_);cases f with
 | next =>
  obtain ⟨σ',H',I',q⟩:=q;exact h2 pins s1 σ' H' D I' q
 | ret v=>exact q
 | brk=>exact q
 | cont=>exact q
theorem aB (h1:PS X st t):GQ X [st] t:=by
 intro pins s σ H D I h;refine wpAny_execs_cons (iK (h1 pins s σ H D I h) λf s1 q=>?_);cases f with
 | next=>exact wpAny_execs_nil q
 | ret v=>exact q
 | brk=>exact q
 | cont=>exact q
theorem Inv.quiet {σ:St} (I:Inv X pins σ H s):interactive X.env=false:=by simp [interactive,I.ok.kind]
def Oq (te:TE):TS:=λD σ H=>te σ H λ_ H1=>D.nx σ H1
theorem jW (he:PE X e te) (hs:swapsWith e none pos.line X.env=pure false:=by rfl):PS X (.Expr e pos) (Oq te):=by
 intro pins s σ H D I h;exact wpAny_Expr_any (iK (he pins s σ H _ I h) λv s1 ⟨x,H1,I1,r1,q1⟩=>⟨σ,H1,I1,q1⟩) I.quiet hs
def Ro (te:TE):TS:=λD σ H=>te σ H D.rt
theorem bo (he:PE X e te):PS X (.Return (some e) pos) (Ro te):=by
 intro pins s σ H D I h;exact wpAny_Return_some (iK (he pins s σ H _ I h) λv s1 ⟨x,H1,I1,r1,q1⟩=>⟨x,σ,H1,I1,r1,q1⟩)
def Rz (c:TT) (t u:TS):TS:=λD σ H=>c σ H λb H1=>if b=true then t D σ H1 else u D σ H1
theorem fL (hc:PT X c tc) (ha:GQ X a t) (hb:GQ X b u):PS X (.If c a b pos) (Rz tc t u):=by
 intro pins s σ H D I h;refine wpAny_If (iK (hc pins s σ H _ I h) λd s1 ⟨H1,I1,q1⟩=>?_);cases d with
 | true=>exact ha pins s1 σ H1 D I1 q1
 | false=>exact hb pins s1 σ H1 D I1 q1
end
abbrev TG:=V->St->Hp->(St->Hp->Prop)->Prop
abbrev Mg:=List V->St->Hp->(St->Hp->Prop)->Prop
def PG (X:Cx) (target:Expr) (t:TG):Prop :=
 ∀(pins:List (Addr×Obj)) (s:Shared) (σ:St) (H:Hp) (v:V) (u:Value) (Q:St->Hp->Prop),Inv X pins σ H s->RelV v u->t v σ H Q →
  wpAny (model X.prog X.w) X.A (assign target X.env u) (λ_ s'=>∃σ' H',Inv X pins σ' H' s'/\Q σ' H') X.xe s
def SN (X:Cx) (ts:List Expr) (t:Mg):Prop :=
 ∀(pins:List (Addr×Obj)) (s:Shared) (σ:St) (H:Hp) (vs:List V) (us:List Value) (Q:St->Hp->Prop),Inv X pins σ H s->cZ vs us->t vs σ H Q →
  wpAny (model X.prog X.w) X.A (assignInOrder ((assignEach ts X.env).map (·.2)) us) (λ_ s'=>∃σ' H',Inv X pins σ' H' s'/\Q σ' H') X.xe s
abbrev GK:=V->V->V->Hp->(Hp->Prop)->Prop
def QM (X:Cx) (t:GK):Prop :=
 ∀(pins:List (Addr×Obj)) (s:Shared) (σ:St) (H:Hp) (o i v:V) (ov iv u:Value) (Q:Hp->Prop),Inv X pins σ H s->RelV o ov->RelV i iv->RelV v u->t o i v H Q →
  wpAny (model X.prog X.w) X.A (setItem ov iv u) (λ_ s'=>∃H',Inv X pins σ H' s'/\Q H') X.xe s
abbrev SJ:=V->V->Hp->VK->Prop
def PIp (X:Cx) (op:Operator) (t:SJ):Prop :=
 ∀(pins:List (Addr×Obj)) (s:Shared) (σ:St) (H:Hp) (x y:V) (v u:Value) (Q:VK),Inv X pins σ H s->RelV x v->RelV y u->t x y H Q →
  wpAny (model X.prog X.w) X.A (inplaceOp op v u) (EP X pins σ Q) X.xe s
section
variable {X:Cx} {pos:Pos}
def Ir (i:Nat):TG:=λv σ H Q=>Q (σ.set i (some v)) H
theorem aP {i:Nat} {x:Str} (hN:X.N.Nodup) (hi:X.N[i]?=some x:=by exact rfl) (hx:Loc X.env.scope x:=by exact Or.inl rfl) (hf:X.fn x=true\/X.env.scope.names.lookup x=some .local:=by first | exact .inl rfl | exact .inr rfl | assumption):PG X (.Name x pos) (Ir i):=by
 intro pins s σ H v u Q I r h;exact wpAny_assign_Name (vf I hN hi hx r (λs' I'=>⟨_,H,I',h⟩) hf)
def Sv:Mg:=λvs σ H Q=>vs=[]/\Q σ H
def OL (t:TG) (u:Mg):Mg:=λvs σ H Q=>∃v r,vs=v :: r/\t v σ H λσ' H'=>u r σ' H' Q
theorem jX:SN X [] Sv:=by
 intro pins s σ H vs us Q I r h;obtain ⟨e,h⟩:=h;subst e;cases r;exact assignInOrder_nil ⟨σ,H,I,h⟩
theorem cQ {e:Expr} {es:List Expr} {t:TG} {u:Mg} (h1:PG X e t) (h2:SN X es u)
  (hs:(assignEach (e :: es) X.env).map (·.2)=assign e X.env :: (assignEach es X.env).map (·.2):=by rfl):SN X (e :: es) (OL t u):=by
 intro pins s σ H vs us Q I r h;obtain ⟨v,vr,e1,h⟩:=h;subst e1;cases r with
 | cons r rr =>
  rw[hs];refine assignInOrder_cons (iK (h1 pins s σ H _ _ _ I r h) λ_ s1 ⟨σ1,H1,I1,q1⟩=>?_);exact h2 pins s1 σ1 H1 _ _ Q I1 rr q1
def Qq (K:FG9) (n:Nat) (t:Mg):TG:=λv σ H Q=>∃a xs,v=.ref a/\uR K H a xs/\xs.length=n/\t xs σ H Q
theorem xi {es:List Expr} {k:Nat} {t:Mg} {n:Nat} (hc:X.calm=true) (h:SN X es t)
  (hn:(assignEach es X.env).length=n:=by rfl) (hst:(assignEach es X.env).findIdx? (·.1)=none:=by rfl):PG X (.Tuple es k pos) (Qq X.K n t):=by
 intro pins s σ H v u Q I r hw;obtain ⟨a,xs,e1,hq,hl,hw⟩:=hw;subst e1;cases r;obtain ⟨its,rv,ht,hz⟩:=I.tuple hq;refine assign_Tuple_tuple (I.ok.hd hc) ht (by simp [hn,<- hl,rv.length]) hst λh' hx=>?_
 have I1:Inv X pins σ H { s with heap:=h' }:=I.kept (t':=s.toks) λb o e=>hx b o (cL (Heap.lt_size e)) e
 exact h pins _ σ H xs _ Q I1 (by simpa using rv) hw
def Su (to ti:TE) (t:GK):TG:=λv σ H Q=>to σ H λo H1=>ti σ H1 λi H2=>t o i v H2 λH3=>Q σ H3
theorem jA {o i : Expr} {to ti : TE} {t : GK} (ho : PE X o to) (hi : PE X i ti) (hs : QM X t)
    (ha : ∀ v, assign (.Subscript o i pos) X.env v = (do
      let ov <- holding [v] (eval o X.env)
      let iv <- holding [v, ov] (eval i X.env)
      standAt pos
      holding [v, ov, iv] (setItem ov iv v)
      release [v, ov, iv] []) := by intro _; rfl) : PG X (.Subscript o i pos) (Su to ti t) := by
  intro pins s σ H v u Q I r h;rw [ha];refine wpAny_bind (wpAny_holding (iK (ho pins s σ H _ I h) λov s1 ⟨x, H1, I1, r1, q1⟩ => ?_));refine wpAny_bind (wpAny_holding (iK (hi pins s1 σ H1 _ I1 q1) λiv s2 ⟨y, H2, I2, r2, q2⟩ => ?_));refine wpAny_bind (wpAny_standAt (wpAny_bind (wpAny_holding (iK (hs pins s2 σ H2 x y v ov iv u _ I2 r1 r2 r q2) λ_ s3 ⟨H3, I3, q3⟩ => ?_))));exact wpAny_release ⟨σ, H3, I3, q3⟩
def Mv (te:TE) (g:TG):TS:=λD σ H=>te σ H λx H1=>g x σ H1 D.nx
theorem iH {tg e:Expr} {te:TE} {g:TG} (he:PE X e te) (hg:PG X tg g) (hs:swapsWithSole [tg] e pos.line X.env=pure false:=by rfl) (hw:swappedStores [tg] e X.env=pure none:=by rfl)
  (h1:(assignEach [tg] X.env).map (·.2)=[assign tg X.env]:=by rfl):PS X (.Assign [tg] e pos) (Mv te g):=by
 intro pins s σ H D I h;refine wpAny_Assign_stores (iK (he pins s σ H _ I h) λv s1 ⟨x,H1,I1,r1,q1⟩=>?_) hs hw;rw[h1];exact iK (hg pins s1 σ H1 x v _ I1 r1 q1) λ_ s2 q=>q
theorem aV {i:Nat} {x:Str} {e:Expr} {te:TE} {pos':Pos} (hN:X.N.Nodup) (hi:X.N[i]?=some x) (hx:Loc X.env.scope x) (he:PE X e te) (hs:swapsWith e (some (.Name x pos')) pos.line X.env=pure false:=by rfl) (hf:X.fn x=true\/X.env.scope.names.lookup x=some .local:=by first | exact .inl rfl | exact .inr rfl | assumption) :
  PS X (.Assign [.Name x pos'] e pos) (Mv te (Ir i)):=by
 intro pins s σ H D I h;refine wpAny_Assign_Name (iK (he pins s σ H _ I h) λv s1 ⟨y,H1,I1,r1,q1⟩=>?_) hs;exact vf I1 hN hi hx r1 (λs2 I2=>⟨_,H1,I2,q1⟩) hf
def Rr (i j:Nat) (ta:TA):TS:=λD σ H=>ta σ H λvs H1=>∃v w,vs=[v,w]/\D.nx ((σ.set i (some v)).set j (some w)) H1
theorem KC {i j:Nat} {x y:Str} {a b:Expr} {ta:TA} {px py pt:Pos} {kt k2 pt2} (hc:X.calm=true) (hN:X.N.Nodup) (hi:X.N[i]?=some x) (hj:X.N[j]?=some y) (hij:i≠j)
  (hx:X.env.scope.names.lookup x=some .local) (hy:X.env.scope.names.lookup y=some .local) (ha:PA X [a,b] ta)
  (hw:swappedStores [.Tuple [.Name x px,.Name y py] kt pt] (.Tuple [a,b] k2 pt2) X.env=pure (some [x,y]))
  (hs:swapsWithSole [.Tuple [.Name x px,.Name y py] kt pt] (.Tuple [a,b] k2 pt2) pos.line X.env=pure false:=by rfl) :
  PS X (.Assign [.Tuple [.Name x px,.Name y py] kt pt] (.Tuple [a,b] k2 pt2) pos) (Rr i j ta):=by
 intro pins s σ H D I h;rw[exec_Assign_arm];refine wpAny_bind (wpAny_standAt ?_);rw[hs];refine wpAny_bind (wpAny_pure ?_);rw[if_neg (by decide)];refine wpAny_bind (Tuple_ (iK (ha _ pins s σ H _ I h) λus s1 ⟨vs,H1,I1,r1,q1⟩=>?_));obtain ⟨v,w,e1,q1⟩:=q1;subst e1
 obtain ⟨u1,u2,rfl,rv,rw'⟩:∃u1 u2,us=[u1,u2]/\RelV v u1/\RelV w u2:=by
  cases r1 with
  | cons p q =>
   cases q with
   | cons p' q' =>
    cases q';exact ⟨_,_,rfl,p,p'⟩
 refine wpAny_newObj_type ?_ (by show 2<=sizeLine;decide);have I2:Inv X pins σ H1 { s1 with heap:=s1.heap.push { cls:=.type "tuple",data:=.seq [u1,u2].toArray } }:=I1.kept (t':=s1.toks) λb o e=>Heap.get?_push_of_some _ e
 rw[hw];refine wpAny_bind (wpAny_pure ?_);show wpAny (model X.prog X.w) X.A (do rule "assign.swapped-stores";let items <- unpackItems (.ref s1.heap.objs.size) 2 none;assignInOrder [λv=>bindName X.env y v,λv=>bindName X.env x v] items.reverse;pure Flow.next) _ _ _
 refine wpAny_bind (wpAny_rule (wpAny_bind (unpackItems_tuple (items:=#[u1,u2]) (I.ok.hd hc) (IsTup.new s1.heap _) λh' hx'=>?_)));have I3:=I2.kept (h':=h') (t':=s1.toks) λb o e=>hx' b o (cL (Heap.lt_size e)) e
 show wpAny _ _ (assignInOrder [λv=>bindName X.env y v,λv=>bindName X.env x v] [u2,u1] >>= λ_=>pure Flow.next) _ _ _
 refine wpAny_bind (assignInOrder_cons (wpAny_bindName (vf I3 hN hj (.inl hy) rw' (λs2 I4=>?_) (.inr hy))));refine assignInOrder_cons (wpAny_bindName (vf I4 hN hi (.inl hx) rv (λs3 I5=>assignInOrder_nil (wpAny_pure ?_)) (.inr hx)));rw[List.set_comm _ _ (Ne.symm hij)] at I5;exact ⟨_,H1,I5,q1⟩
def Ot (to ti te:TE) (tget:V->V->Hp->VK->Prop) (tip:SJ) (tset:GK):TS:=λD σ H=>to σ H λo H1=>ti σ H1 λi H2=>tget o i H2 λx H3=>te σ H3 λy H4=>tip x y H4 λz H5=>tset o i z H5 λH6=>D.nx σ H6
def SO (X:Cx) (t:V->V->Hp->VK->Prop):Prop :=
 ∀(pins:List (Addr×Obj)) (s:Shared) (σ:St) (H:Hp) (o i:V) (ov iv:Value) (Q:VK),Inv X pins σ H s->RelV o ov->RelV i iv->t o i H Q →
  wpAny (model X.prog X.w) X.A (getItem ov iv) (EP X pins σ Q) X.xe s
theorem Ng {o i e:Expr} {to ti te:TE} {tget:V->V->Hp->VK->Prop} {tip:SJ} {tset:GK} {op:Operator} {tpos:Pos} (ho:PE X o to) (hi:PE X i ti) (hg:SO X tget) (he:PE X e te) (hp:PIp X op tip) (hs:QM X tset)
  (ha:∀ov iv new,augStore i ov iv new=(do holding [new,ov,iv] (setItem ov iv new);release [new,ov,iv] [];pure .next):=by intros;rfl):PS X (.AugAssign (.Subscript o i tpos) op e pos) (Ot to ti te tget tip tset):=by
 intro pins s σ H D I h;refine wpAny_AugAssign_SubscriptAny (iK (ho pins s σ H _ I h) λov s1 ⟨x1,H1,I1,r1,q1⟩=>?_) ha;refine iK (hi pins s1 σ H1 _ I1 q1) λiv s2 ⟨x2,H2,I2,r2,q2⟩=>?_
 refine iK (hg pins s2 σ H2 x1 x2 ov iv _ I2 r1 r2 q2) λold s3 ⟨x3,H3,I3,r3,q3⟩=>?_
 refine iK (he pins s3 σ H3 _ I3 q3) λv s4 ⟨x4,H4,I4,r4,q4⟩=>?_
 refine iK (hp pins s4 σ H4 x3 x4 old v _ I4 r3 r4 q4) λnew s5 ⟨x5,H5,I5,r5,q5⟩=>?_
 exact iK (hs pins s5 σ H5 x1 x2 x5 ov iv new _ I5 r1 r2 r5 q5) λ_ s6 ⟨H6,I6,q6⟩=>⟨σ,H6,I6,q6⟩
def ipI (f:Int->Int->Int):SJ:=λx y H Q=>∃i j,x=.int i/\y=.int j/\Q (.int (f i j)) H
theorem Qm:PIp X .Add (ipI λi j=>i+j):=by
 intro pins s σ H x y v u Q I r1 r2 h;obtain ⟨i,j,e1,e2,q⟩:=h;subst e1;subst e2;obtain ⟨t,rfl⟩:=r1;obtain ⟨t',rfl⟩:=r2;exact iadd_int ⟨.int _,H,I.tok _,⟨_,rfl⟩,q⟩
end
section
variable {X:Cx} {pos:Pos}
def J5 (c:TT) (tb:TS):TS:=λD σ H=>∃W:Nat->St->Hp->Prop,(∃m,W m σ H)/\∀m σ H,W m σ H →
 c σ H λb H1=>if b=true then ∃N:St->Hp->Prop,(∀σ' H',N σ' H'->∃m',m' < m/\W m' σ' H')/\tb { D with nx:=N,ct:=N,bk:=D.nx } σ H1 else D.nx σ H1
theorem zL (hp:PassesOwn (model X.prog X.w) X.A X.env X.xe) (hc:PT X c tc) (hb:GQ X body tb):PS X (.While c body [] pos) (J5 tc tb):=by
 intro pins s σ H D I h;obtain ⟨W,⟨m0,w0⟩,turn⟩:=h;refine wpAny_While (codeAny_whileLoop (λn s'=>∃σ' H',Inv X pins σ' H' s'/\W n σ' H') ?_ m0 ⟨σ,H,I,w0⟩);rintro n s1 ⟨σ1,H1,I1,w1⟩;refine wpAny_passesOwn hp (iK (hc pins s1 σ1 H1 _ I1 (turn n σ1 H1 w1)) λb s2 ⟨H2,I2,q2⟩=>?_);cases b with
 | true =>
  obtain ⟨N,hN,q2⟩:=q2;rw[if_pos rfl];refine wpAny_passesOwn hp (iK (hb pins s2 σ1 H2 _ I2 q2) λf s3 q3=>?_);cases f with
  | next =>
   obtain ⟨σ3,H3,I3,n3⟩:=q3;obtain ⟨m',hm,w3⟩:=hN σ3 H3 n3;exact ⟨m',hm,σ3,H3,I3,w3⟩
  | cont =>
   obtain ⟨σ3,H3,I3,n3⟩:=q3;obtain ⟨m',hm,w3⟩:=hN σ3 H3 n3;exact ⟨m',hm,σ3,H3,I3,w3⟩
  | brk=>exact q3
  | ret v=>exact q3
 | false =>
  rw[if_neg bE];exact wpAny_execs_nil ⟨σ1,H2,I2,q2⟩
end
structure It where
 go:Nat->Hp->Prop
 yld:Nat->Hp->V->Hp->Prop
 stop:Nat->Hp->Prop
def kW (X:Cx) (pins:List (Addr×Obj)) (H:Hp) (b:Addr):Prop :=
 H b=none/\b≠X.env.locals/\b∉X.fs/\(b∈X.ex\/X.s₀.heap.objs.size<=b)/\(∀x c,X.env.cells.lookup x=some c->c≠b)/\∀p∈X.pn++pins,p.1≠b
theorem Inv.fpOk {σ:St} {b:Addr} (I:Inv X pins σ H s) (hb:s.heap.objs.size<=b) (hn:H' b=none):kW X pins H' b:=by
 refine ⟨hn,IL (bc I.lt hb),I.nofs hb,.inr (ak I.sz hb),λx c e z=>?_,λp hp z=>?_⟩
 ·obtain ⟨v,q⟩:=I.cell x c e;exact absurd (bc q.lt (by rw[z];exact hb)) (gG _)
 ·exact absurd (bc (Heap.lt_size (I.pin p hp).1) (by rw[z];exact hb)) (gG _)
structure Turn (P:Program) (w:World) (K:FG9) (tg:Expr) (J:It) (fp:List Addr) (it:Addr) (tn:Nat->Heap->Prop):Prop where
 mem:it∈fp
 obj:∀i h,tn i h->∀b∈fp,∃o,h.get? b=some o/\∀v,o.data≠.cell v
 keep:∀i h h',tn i h->(∀b∈fp,∀o,h.get? b=some o->h'.get? b=some o)->tn i h'
 item:∀(X:Cx),X.prog=P->X.w=w->X.K=K->X.calm=true->∀(i:Nat) (pins:List (Addr×Obj)) (s:Shared) (σ:St) (H:Hp) (E:Value->Shared->Prop),Inv X pins σ H s->(∀b∈fp,kW X pins H b)->tn i s.heap->J.go i H →
  wpAny (model P w) X.A (pyNext (.ref it)) (λr s1=>∃u,r=some u /\
   wpAny (model P w) X.A (letOwnedTupleGo tg (.ref it) u) (λ_ s2=>∃x H',Inv X pins σ H' s2/\RelV x u/\J.yld i H x H'/\tn (i+1) s2.heap/\∀b∈fp,H' b=none) E s1) E s
 done:∀(X:Cx),X.prog=P->X.w=w->X.K=K->X.calm=true->∀(i:Nat) (pins:List (Addr×Obj)) (s:Shared) (σ:St) (H:Hp) (E:Value->Shared->Prop),Inv X pins σ H s->(∀b∈fp,kW X pins H b)->tn i s.heap->J.stop i H →
  wpAny (model P w) X.A (pyNext (.ref it)) (λr s1=>r=none/\Inv X pins σ H s1) E s
 self:∀(A:Around) (i:Nat) (s:Shared) (Q:Value->Shared->Prop) (E:Value->Shared->Prop),tn i s.heap->Q (.ref it) s->wpAny (model P w) A (pyIter (.ref it)) Q E s
abbrev TI:=St->Hp->(It->Hp->Prop)->Prop
def PIE (X:Cx) (pins:List (Addr×Obj)) (σ:St) (tg:Expr) (R:It->Hp->Prop) (itv:Value) (s2:Shared):Prop :=
 ∃(it:Addr) (fp:List Addr) (tn:Nat->Heap->Prop) (J:It) (H':Hp),itv=.ref it/\Inv X pins σ H' s2/\Turn X.prog X.w X.K tg J fp it tn/\tn 0 s2.heap/\(∀b∈fp,kW X pins H' b)/\R J H'
def PI (X:Cx) (tg iter:Expr) (wi:TI):Prop :=
 ∀(pins:List (Addr×Obj)) (s:Shared) (σ:St) (H:Hp) (R:It->Hp->Prop),Inv X pins σ H s->wi σ H R →
  wpAny (model X.prog X.w) X.A (eval iter X.env) (λv s1=>wpAny (model X.prog X.w) X.A (pyIter v) (PIE X pins σ tg R) X.xe s1) X.xe s
theorem OK (ho:s.heap.get? it=some o) (hc:o.cls=.type n) (hd:o.data=.fields vs)
  (hn:["enumerate","zip","dict_itemiterator","dict_reverseitemiterator","odict_iterator","itertools.zip_longest","itertools.pairwise"].contains n=false) (hQ:Q () s):wpAny M A (letOwnedTupleGo tg (.ref it) u) Q E s:=by
 unfold letOwnedTupleGo
 cases tg <;> first
  | exact wpAny_pure hQ
  | (cases u <;> first | exact wpAny_pure hQ | (refine wpAny_bind (wpAny_load ho ?_);rw[hc,hd];show wpAny M A (if (["enumerate","zip","dict_itemiterator","dict_reverseitemiterator","odict_iterator","itertools.zip_longest","itertools.pairwise"].contains n && vs[0]? == some (rawInt _))=true then _ else _) Q E s;rw[if_neg (by intro h;rw[hn,Bool.false_and] at h;cases h)];exact wpAny_pure hQ))
def Mi (K:FG9) (a:Addr):It :=
 ⟨λi H=>∃xs x,bK K H a xs/\xs[i]?=some x,λi H x H'=>H'=H/\∀xs,bK K H a xs->xs[i]?=some x,λi H=>∃xs,bK K H a xs/\xs.length<=i⟩
def IK (lo:Int) (n:Nat):It:=⟨λi _=>i < n,λi H x H'=>H'=H/\x=.int (lo+i),λi _=>n<=i⟩
theorem IV {P:Program} {w:World} {K:FG9} {tg:Expr} (a it:Addr):Turn P w K tg (Mi K a) [it] it (λi h=>h.IsListIter it a i) where
 mem:=by simp
 obj:=λi h st b hb=>by
  have e:b=it:=by simpa using hb
  subst e;obtain ⟨o,e,c,d⟩:=st;exact ⟨o,e,λv z=>by rw[d] at z;cases z⟩
 keep:=λi h h' st k=>st.at λo e=>k it (by simp) o e
 item:=by
  intro X hP hw hK hc i pins s σ H E I hf st hg;subst hP hw hK;obtain ⟨xs,x,hq,hx⟩:=hg;obtain ⟨its,rv,p,hz⟩:=I.list hq;obtain ⟨u,hu,ru⟩:=rv.get hx;obtain ⟨f0,f1,f2,f3,f4,f5⟩:=hf it (by simp);refine wpAny_pyNext_list_item st p.isList (x:=u) (by simpa using hu) λh' st' sb=>?_
  have I1:Inv X pins σ H { s with heap:=h' }:=I.turned (t':=s.toks) (λb o hb e=>(sb.2 b hb).trans e) f0 f1 f3 f4 f5;obtain ⟨o,e,c,d⟩:=id st';exact ⟨u,rfl,OK (s:={ s with heap:=h' }) e c d (by decide) ⟨x,H,I1,ru,⟨rfl,λys hy=>by rw[I.list_inj hy hq];exact hx⟩,st',λb hb=>(hf b hb).1⟩⟩
 done:=by
  intro X hP hw hK hc i pins s σ H E I hf st hg;subst hP hw hK;obtain ⟨xs,hq,hx⟩:=hg;obtain ⟨its,rv,p,hz⟩:=I.list hq;obtain ⟨f0,f1,f2,f3,f4,f5⟩:=hf it (by simp);have hl:=rv.length;exact wpAny_pyNext_list_end (I.ok.hd hc) st p.isList (by simp;lia) λh' eb=>⟨rfl,I.turned (t':=s.toks) (λb o hb e=>eb b o hb e) f0 f1 f3 f4 f5⟩
 self:=λ_ _ _ _ _ st h=>wpAny_pyIter_listiter st h
theorem FK {P:Program} {w:World} {K:FG9} {tg:Expr} (it:Addr) (lo:Int) (n:Nat):Turn P w K tg (IK lo n) [it] it (λi h=>IsRangeIter h it (lo+(i:Nat)*1) ((n:Int) - (i:Nat)) 1) where
 mem:=by simp
 obj:=λi h st b hb=>by
  have e:b=it:=by simpa using hb
  subst e
  exact ⟨_,st,λv z=>by
   have z':Data.fields _=Data.cell v:=z;cases z'⟩
 keep:=λi h h' st k=>k it (by simp) _ st
 item:=by
  intro X hP hw hK hc i pins s σ H E I hf st hg;subst hP hw hK;obtain ⟨f0,f1,f2,f3,f4,f5⟩:=hf it (by simp);have W:=Walks.range (prog:=X.prog) (w:=X.w) (I.ok.hd hc) it lo 1 n;refine W.item i s _ _ hg st λv h' tk hv st' kk=>?_
  obtain ⟨t,rfl⟩:=hv;have I1:Inv X pins σ H { s with heap:=h',toks:=tk }:=I.turned (λb o hb e=>kk b o (by simpa using hb) e) f0 f1 f3 f4 f5;refine ⟨_,rfl,OK (s:={ s with heap:=h',toks:=tk }) (n:="range_iterator") st' rfl rfl (by decide) ⟨.int (lo+i),H,I1,⟨t,?_⟩,⟨rfl,rfl⟩,st',λb hb=>(hf b hb).1⟩⟩;rw[Int.mul_one]
 done:=by
  intro X hP hw hK hc i pins s σ H E I hf st hg;subst hP hw hK;obtain ⟨f0,f1,f2,f3,f4,f5⟩:=hf it (by simp);exact wpAny_pyNext_range_end (I.ok.hd hc) st (by have:n<=i:=hg;lia) λh' eb=>⟨rfl,I.turned (t':=s.toks) (λb o hb e=>eb b o hb e) f0 f1 f3 f4 f5⟩
 self:=λ_ _ _ _ _ st h=>wpAny_pyIter_rangeiter st h
section
variable {X:Cx} {tg:Expr}
def Lc (K:FG9) (tl:TE):TI:=λσ H R=>tl σ H λx H1=>∃a,x=.ref a/\(∃xs,bK K H1 a xs)/\R (Mi K a) H1
theorem cg (hl:PE X l tl):PI X tg l (Lc X.K tl):=by
 intro pins s σ H R I h;refine iK (hl pins s σ H _ I h) λv s1 ⟨x,H1,I1,r1,q1⟩=>?_
 obtain ⟨a,e,⟨xs,hq⟩,q⟩:=q1;subst e;cases r1;obtain ⟨its,rv,p,hz⟩:=I1.list hq;refine wpAny_pyIter_list p.isList ?_;refine ⟨s1.heap.objs.size,[s1.heap.objs.size],_,_,H1,rfl,I1.kept (t':=s1.toks) λb o e=>Heap.get?_push_of_some _ e,IV a _,⟨_,Heap.get?_push_size _ rfl,rfl,rfl⟩,λb hb=>?_,q⟩;have e:b=s1.heap.objs.size:=by simpa using hb
 subst e;exact I1.fpOk (ar _) (I1.hok.fresh (ar _))
theorem Kz {σ:St} {lo hi:Int} (I:Inv X pins σ H s) (h1:-(2^62)<=lo) (h2:lo < 2^62) (h3:-(2^62)<=hi) (h4:hi < 2^62)
  (q:R (IK lo (hi - lo).toNat) H):wpAny (model X.prog X.w) X.A (pyIter (.ref s.heap.objs.size)) (PIE X pins σ tg R) E { s with heap:=s.heap.push { cls:=.type "range",data:=.fields #[.int lo t,.int hi u,.int 1 v] },toks:=tk }:=by
 refine wpAny_pyIter_range (IsRange.new ..) (small_one h1 h2 h3 h4) ?_;have I1:Inv X pins σ H { s with heap:=s.heap.push { cls:=.type "range",data:=.fields #[.int lo t,.int hi u,.int 1 v] },toks:=tk }:=I.kept λb o e=>Heap.get?_push_of_some _ e
 refine ⟨(s.heap.push { cls:=.type "range",data:=.fields #[.int lo t,.int hi u,.int 1 v] }).objs.size,[(s.heap.push { cls:=.type "range",data:=.fields #[.int lo t,.int hi u,.int 1 v] }).objs.size],_,_,H,rfl,
  I1.kept (t':=tk) λb o e=>Heap.get?_push_of_some _ e,FK _ lo (hi - lo).toNat,?_,λb hb=>?_,q⟩
 ·have e1:lo+((0:Nat):Int)*1=lo:=by simp
  have e2:(((hi - lo).toNat:Nat):Int) - ((0:Nat):Int)=Builtin.Range.rangeSize lo hi 1:=by rw[rangeSize_one];split <;> lia
  show IsRangeIter _ _ (lo+((0:Nat):Int)*1) ((((hi - lo).toNat:Nat):Int) - ((0:Nat):Int)) 1
  rw[e1,e2];exact Heap.get?_push_size _ rfl
 ·have e:b=(s.heap.push { cls:=.type "range",data:=.fields #[.int lo t,.int hi u,.int 1 v] }).objs.size:=by simpa using hb
  subst e;exact I1.fpOk (ar _) (I1.hok.fresh (ar _))
def OI (ta:TA):TI:=λσ H R=>ta σ H λvs H1=>∃j:Int,vs=[.int j]/\-(2^62)<=j/\j < 2^62/\R (IK 0 j.toNat) H1
theorem cv {a:Expr} {ta:TA} {p pos:Pos} (hg:Gl X "range") (hm:X.mg "range"=none) (ha:PA X [a] ta) (hs:starEach [a] X.env=[(false,eval a X.env)]:=by rfl):PI X tg (.Call (.Name "range" p) [a] [] pos) (OI ta):=by
 intro pins s σ H R I h;refine Call_ (oC I hg hm boot_range (PyProof.Rows.callWith_type1 (iK (ha pos pins s σ H _ I h) λus s1 ⟨vs,H1,I1,r1,q1⟩=>?_) hs rfl));obtain ⟨j,e,q1,q2,q⟩:=q1;subst e;cases r1 with
 | cons r rr =>
  cases rr;obtain ⟨t,rfl⟩:=r;exact call_range_1 (Kz I1 (by lia) (by lia) q1 q2 (by simpa using q))
def RA (wi:TI) (g:TG) (tb:TS):TS:=λD σ H=>wi σ H λJ H1=>∃W:Nat->Nat->St->Hp->Prop,(∃m,W 0 m σ H1)/\∀i m σ H,W i m σ H →
 (J.stop i H/\D.nx σ H)\/(J.go i H/\∃N:St->Hp->Prop,(∀σ' H',N σ' H'->∃m',m' < m/\W (i+1) m' σ' H')/\∀x H',J.yld i H x H'->g x σ H' λσ2 H2=>tb { D with nx:=N,ct:=N,bk:=D.nx } σ2 H2)
def zN (fp:List Addr) (h:Heap):List (Addr×Obj):=fp.filterMap λb=>(h.get? b).map λo=>(b,o)
theorem p5 (hb:b∈fp) (e:h.get? b=some o):(b,o)∈zN fp h:=List.mem_filterMap.mpr ⟨b,hb,by rw[e];rfl⟩
theorem Jo (hp:p∈zN fp h):p.1∈fp/\h.get? p.1=some p.2:=by
 obtain ⟨b,hb,e⟩:=List.mem_filterMap.mp hp;cases q:h.get? b with
 | none=>rw[q] at e;cases e
 | some o =>
  rw[q] at e;have e':(b,o)=p:=b6 e;subst e';exact ⟨hb,q⟩
theorem Inv.pinned {σ:St} (I:Inv X pins σ H s) (hf:∀b∈fp,kW X pins H b) (ho:∀b∈fp,∃o,s.heap.get? b=some o/\∀v,o.data≠.cell v):Inv X (pins++zN fp s.heap) σ H s :=
 I.pins_of λp hp=>(av.mp hp).elim (λz=>I.pin p (bP _ z)) λz=>by
  obtain ⟨hb,e⟩:=Jo z;obtain ⟨f0,f1,f2,_⟩:=hf p.1 hb;obtain ⟨o,e',d⟩:=ho p.1 hb;rw[e] at e';cases e';exact ⟨e,f0,f1,f2,d⟩
theorem Inv.unpinned {σ:St} (I:Inv X (pins++pl) σ H s):Inv X pins σ H s:=I.pins_of λp hp=>I.pin p (bP _ (kz _ hp))
theorem eR {iter:Expr} {body:List Stmt} {wi:TI} {g:TG} {tb:TS} {pos:Pos} (hp:PassesOwn (model X.prog X.w) X.A X.env X.xe) (hc:X.calm=true) (hi:PI X tg iter wi) (hg:PG X tg g) (hb:GQ X body tb)
  (hs:∀x,foldedSetIterable iter X.env x=pure x:=by intro _;rfl):PS X (.For tg iter body [] pos) (RA wi g tb):=by
 intro pins s σ H D I h;refine wpAny_For (iK (hi pins s σ H _ I h) λv s1 h1=>iK h1 λitv s2 h2=>?_) hs;obtain ⟨it,fp,tn,J,H2,e,I2,T,st2,f2,W,⟨m0,w0⟩,turn⟩:=h2;subst e;have stat:∀{H':Hp},(∀b∈fp,H' b=none)->∀b∈fp,kW X pins H' b:=λhn b hb=>⟨hn b hb,(f2 b hb).2⟩
 refine codeAny_forLoop_any (λn s'=>∃i σ' H',Inv X pins σ' H' s'/\tn i s'.heap/\(∀b∈fp,H' b=none)/\W i n σ' H') ?_ m0 ⟨0,σ,H2,I2,st2,λb hb=>(f2 b hb).1,w0⟩;rintro n s3 ⟨i,σ3,H3,I3,st3,fr3,w3⟩;rcases turn i n σ3 H3 w3 with ⟨stop,qn⟩ | ⟨go,N,hN,step⟩
 ·refine wpAny_passesOwn hp (iK (T.done X rfl rfl rfl hc i pins s3 σ3 H3 X.xe I3 (stat fr3) st3 stop) λr s4 ⟨hr,I4⟩=>?_);subst hr;exact wpAny_execs_nil ⟨σ3,H3,I4,qn⟩
 ·refine wpAny_passesOwn hp (iK (T.item X rfl rfl rfl hc i pins s3 σ3 H3 X.xe I3 (stat fr3) st3 go) λr s4 ⟨u,hr,h4⟩=>?_);subst hr;refine wpAny_passesOwn hp (iK h4 λ_ s5 ⟨x,H5,I5,r5,y5,st5,fr5⟩=>?_);have I5':=I5.pinned (stat fr5) (T.obj _ _ st5);refine wpAny_passesOwn hp (iK (hg _ s5 σ3 H5 x u _ I5' r5 (step x H5 y5)) λ_ s6 ⟨σ6,H6,I6,q6⟩=>?_);refine wpAny_passesOwn hp (iK (hb _ s6 σ6 H6 _ I6 q6) λf s7 q7=>?_)
  have again:∀{σ7:St} {H7:Hp},Inv X (pins++zN fp s5.heap) σ7 H7 s7->N σ7 H7->∃m,m < n/\∃i σ' H',Inv X pins σ' H' s7/\tn i s7.heap/\(∀b∈fp,H' b=none)/\W i m σ' H':=λ{σ7 H7} I7 n7=>by
   obtain ⟨m',hm,w7⟩:=hN σ7 H7 n7;refine ⟨m',hm,i+1,σ7,H7,I7.unpinned,T.keep _ _ _ st5 λb hb o e=>(I7.pin (b,o) (bP _ (bP _ (p5 hb e)))).1,λb hb=>?_,w7⟩;obtain ⟨o,e,d⟩:=T.obj _ _ st5 b hb;exact (I7.pin (b,o) (bP _ (bP _ (p5 hb e)))).2.1
  cases f with
  | next=>obtain ⟨σ7,H7,I7,n7⟩:=q7;exact again I7 n7
  | cont=>obtain ⟨σ7,H7,I7,n7⟩:=q7;exact again I7 n7
  | brk=>obtain ⟨σ7,H7,I7,q7⟩:=q7;exact ⟨σ7,H7,I7.unpinned,q7⟩
  | ret v=>obtain ⟨x7,σ7,H7,I7,r7,q7⟩:=q7;exact ⟨x7,σ7,H7,I7.unpinned,r7,q7⟩
end
theorem i5 {K:FG9} {g:TG} {tb:TS} {D:Ends} (Pv:Nat->St->Hp->Prop) (h0:Pv 0 σ H) (hl:∀i σ H,i<=xs.length->Pv i σ H->bK K H a xs)
  (hs:∀i x σ H,xs[i]?=some x->Pv i σ H->g x σ H λσ2 H2=>tb { D with nx:=Pv (i+1),ct:=Pv (i+1),bk:=D.nx } σ2 H2) (hd:∀σ H,Pv xs.length σ H->D.nx σ H) :
  ∃W:Nat->Nat->St->Hp->Prop,(∃m,W 0 m σ H)/\∀i m σ H,W i m σ H →
   ((Mi K a).stop i H/\D.nx σ H)\/((Mi K a).go i H/\∃N:St->Hp->Prop,(∀σ' H',N σ' H'->∃m',m' < m/\W (i+1) m' σ' H')/\∀x H',(Mi K a).yld i H x H'->g x σ H' λσ2 H2=>tb { D with nx:=N,ct:=N,bk:=D.nx } σ2 H2):=by
 refine ⟨λi m σ H=>m=xs.length - i/\i<=xs.length/\Pv i σ H,⟨xs.length,by simp,b8 _,h0⟩,?_⟩;rintro i m σ H ⟨rfl,hi,p⟩;have q:=hl i σ H hi p;by_cases hlt:i < xs.length
 ·refine .inr ⟨⟨xs,xs[i],q,by simp [hlt]⟩,Pv (i+1),λσ' H' p'=>⟨xs.length - (i+1),by lia,rfl,hlt,p'⟩,λx H' y=>?_⟩;obtain ⟨e,y⟩:=y;subst e;exact hs i x σ _ (y xs q) p
 ·have e:i=xs.length:=by lia
  subst e;exact .inl ⟨⟨xs,q,ar _⟩,hd σ H p⟩
theorem Jy {lo:Int} {g:TG} {tb:TS} {D:Ends} (Pv:Nat->St->Hp->Prop) (h0:Pv 0 σ H)
  (hs:∀i σ H,i < n->Pv i σ H->g (.int (lo+i)) σ H λσ2 H2=>tb { D with nx:=Pv (i+1),ct:=Pv (i+1),bk:=D.nx } σ2 H2) (hd:∀σ H,Pv n σ H->D.nx σ H) :
  ∃W:Nat->Nat->St->Hp->Prop,(∃m,W 0 m σ H)/\∀i m σ H,W i m σ H →
   ((IK lo n).stop i H/\D.nx σ H)\/((IK lo n).go i H/\∃N:St->Hp->Prop,(∀σ' H',N σ' H'->∃m',m' < m/\W (i+1) m' σ' H')/\∀x H',(IK lo n).yld i H x H'->g x σ H' λσ2 H2=>tb { D with nx:=N,ct:=N,bk:=D.nx } σ2 H2):=by
 refine ⟨λi m σ H=>m=n - i/\i<=n/\Pv i σ H,⟨n,by simp,b8 _,h0⟩,?_⟩;rintro i m σ H ⟨rfl,hi,p⟩;by_cases hlt:i < n
 ·refine .inr ⟨hlt,Pv (i+1),λσ' H' p'=>⟨n - (i+1),by lia,rfl,hlt,p'⟩,λx H' y=>?_⟩;obtain ⟨e,y⟩:=y;subst e y;exact hs i σ _ hlt p
 ·have e:i=n:=by lia
  subst e;exact .inl ⟨ar _,hd σ H p⟩
abbrev R2:=V->V->Hp->VK->Prop
def AO (X:Cx) (f:Value->Value->Sem Value) (r:R2):Prop :=
 ∀(pins:List (Addr×Obj)) (s:Shared) (σ:St) (H:Hp) (x y:V) (v u:Value) (Q:VK),Inv X pins σ H s->RelV x v->RelV y u->r x y H Q →
  wpAny (model X.prog X.w) X.A (f v u) (EP X pins σ Q) X.xe s
def Tz (X:Cx) (f:Value->Sem Value) (r:V->Hp->VK->Prop):Prop :=
 ∀(pins:List (Addr×Obj)) (s:Shared) (σ:St) (H:Hp) (x:V) (v:Value) (Q:VK),Inv X pins σ H s->RelV x v->r x H Q →
  wpAny (model X.prog X.w) X.A (f v) (EP X pins σ Q) X.xe s
def qM (X:Cx) (f:Value) (r:List V->Hp->VK->Prop):Prop :=
 ∀(pins:List (Addr×Obj)) (s:Shared) (σ:St) (H:Hp) (xs:List V) (us:List Value) (Q:VK),Inv X pins σ H s->cZ xs us->r xs H Q →
  wpAny (model X.prog X.w) X.A (call f us) (EP X pins σ Q) X.xe s
def Rw (r:R2) (ta tb:TE):TE:=λσ H Q=>ta σ H λx H1=>tb σ H1 λy H2=>r x y H2 Q
def S0 (r:V->Hp->VK->Prop) (ta:TE):TE:=λσ H Q=>ta σ H λx H1=>r x H1 Q
def rI (C:Int->Int->Prop) (g:Int->Int->V):R2:=λx y H Q=>∃i j,x=.int i/\y=.int j/\C i j/\Q (g i j) H
def Nc (g:Int->Int->V):R2:=λx y H Q=>∃i j,x=.int i/\y=.int j/\Q (g i j) H
def rU (g:Int->V):V->Hp->VK->Prop:=λx H Q=>∃i,x=.int i/\Q (g i) H
section
variable {X:Cx} {a b c:Expr} {ta tb tc:TE} {pos:Pos}
theorem QF (ha:PE X a ta) (hb:PE X b tb) {σ:St} {R:V->V->Hp->Prop} (I:Inv X pins σ H s)
  (h:ta σ H λx H1=>tb σ H1 λy H2=>R x y H2) {f:Value->Value->Sem Value}
  (hf:∀v u s2 x y H2,Inv X pins σ H2 s2->RelV x v->RelV y u->R x y H2->wpAny (model X.prog X.w) X.A (f v u) Q X.xe s2) :
  wpAny (model X.prog X.w) X.A (eval a X.env) (λv s₁=>wpAny (model X.prog X.w) X.A (eval b X.env) (λu s₂=>wpAny (model X.prog X.w) X.A (f v u) Q X.xe s₂) X.xe s₁) X.xe s:=by
 refine iK (ha pins s σ H _ I h) λv s1 ⟨x,H1,I1,r1,q1⟩=>?_
 refine iK (hb pins s1 σ H1 _ I1 q1) λu s2 ⟨y,H2,I2,r2,q2⟩=>?_
 exact hf v u s2 x y H2 I2 r1 r2 q2
theorem bq (ho:AO X (binaryOp op) r) (ha:PE X a ta) (hb:PE X b tb):PE X (.BinOp a op b pos) (Rw r ta tb):=by
 intro pins s σ H Q I h;exact wpAny_BinOp (QF ha hb I h λv u s2 x y H2 I2 rx ry q=>ho pins s2 σ H2 x y v u Q I2 rx ry q)
theorem tF (ho:Tz X (unaryOp op) r) (ha:PE X a ta):PE X (.UnaryOp op a pos) (S0 r ta):=by
 intro pins s σ H Q I h;exact UnaryOp_ (iK (ha pins s σ H _ I h) λv s1 ⟨x,H1,I1,r1,q1⟩=>ho pins s1 σ H1 x v Q I1 r1 q1)
theorem Tj {g:Int->Int->Int}
  (rule:∀(i j:Int) (t u:Tok) (s:Shared) (Q:Value->Shared->Prop) (E:Value->Shared->Prop),C i j->Q (.int (g i j) s.toks) { s with toks:=s.toks+1 }->wpAny (model X.prog X.w) X.A (f (.int i t) (.int j u)) Q E s) :
  AO X f (rI C λi j=>.int (g i j)):=by
 intro pins s σ H x y v u Q I rx ry h;obtain ⟨i,j,rfl,rfl,hc,q⟩:=h;obtain ⟨t,rfl⟩:=rx;obtain ⟨t',rfl⟩:=ry;exact rule i j t t' s _ _ hc ⟨.int (g i j),H,I.tok _,⟨_,rfl⟩,q⟩
theorem Sg {g:Int->Int->Int}
  (rule:∀(i j:Int) (t u:Tok) (s:Shared) (Q:Value->Shared->Prop) (E:Value->Shared->Prop),Q (.int (g i j) s.toks) { s with toks:=s.toks+1 }->wpAny (model X.prog X.w) X.A (f (.int i t) (.int j u)) Q E s) :
  AO X f (Nc λi j=>.int (g i j)):=by
 intro pins s σ H x y v u Q I rx ry h;obtain ⟨i,j,rfl,rfl,q⟩:=h;obtain ⟨t,rfl⟩:=rx;obtain ⟨t',rfl⟩:=ry;exact rule i j t t' s _ _ ⟨.int (g i j),H,I.tok _,⟨_,rfl⟩,q⟩
theorem Nl {g:Int->Int->Bool}
  (rule:∀(i j:Int) (t u:Tok) (s:Shared) (Q:Value->Shared->Prop) (E:Value->Shared->Prop),Q (.bool (g i j)) s->wpAny (model X.prog X.w) X.A (f (.int i t) (.int j u)) Q E s) :
  AO X f (Nc λi j=>.bl (g i j)):=by
 intro pins s σ H x y v u Q I rx ry h;obtain ⟨i,j,rfl,rfl,q⟩:=h;obtain ⟨t,rfl⟩:=rx;obtain ⟨t',rfl⟩:=ry;exact rule i j t t' s _ _ ⟨.bl (g i j),H,I,rfl,q⟩
def QV (i j:Int):Prop:=(-(2^64) < i/\i < 2^64)\/(-(2^64) < j/\j < 2^64)
theorem QV.ok (h:QV i j):IntMulOk i j:=by
 rcases h with ⟨h1,h2⟩ | ⟨h1,h2⟩
 ·exact .of_left (intBits_le_64 h1 h2)
 ·exact .of_right (intBits_le_64 h1 h2)
theorem gh:AO X (binaryOp .Add) (Nc λi j=>.int (i+j)):=Sg λ_ _ _ _ _ _ _ q=>add_int q
theorem kK:AO X (binaryOp .Sub) (Nc λi j=>.int (i - j)):=Sg λ_ _ _ _ _ _ _ q=>sub_int q
theorem oj:AO X (binaryOp .Mod) (rI (λ_ j=>0 < j) λi j=>.int (i % j)):=Tj λi j _ _ _ _ _ hc q=>by
 have h1:(0:Int) < j:=hc;exact mod_int' (by lia) (by rw[Int.fmod_eq_emod_of_nonneg i (by lia)];exact q)
theorem Nk:AO X (binaryOp .Mod) (rI (λ_ j=>j≠0) λi j=>.int (i.fmod j)):=Tj λ_ _ _ _ _ _ _ hc q=>mod_int' hc q
theorem unI {g:Int->Int}
  (rule:∀(i:Int) (t:Tok) (s:Shared) (Q:Value->Shared->Prop) (E:Value->Shared->Prop),Q (.int (g i) s.toks) { s with toks:=s.toks+1 }->wpAny (model X.prog X.w) X.A (f (.int i t)) Q E s) :
  Tz X f (rU λi=>.int (g i)):=by
 intro pins s σ H x v Q I rx h;obtain ⟨i,rfl,q⟩:=h;obtain ⟨t,rfl⟩:=rx;exact rule i t s _ _ ⟨.int (g i),H,I.tok _,⟨_,rfl⟩,q⟩
theorem nR:Tz X (unaryOp .USub) (rU λi=>.int (-i)):=unI λ_ _ _ _ _ q=>neg_int q
end
def RM:V->V->Bool
 | .non,.non=>true | .non,.int _=>true | .int _,.non=>true | .non,.bl _=>true | .bl _,.non=>true | .non,.str _=>true | .str _,.non=>true
 | .int _,.int _=>true | .bl _,.bl _=>true | .str _,.str _=>true | .byt _,.byt _=>true
 | .int _,.str _=>true | .str _,.int _=>true | .bl _,.str _=>true | .str _,.bl _=>true
 | _,_=>false
def rEq:R2:=λx y H Q=>RM x y=true/\Q (.bl (decide (x=y))) H
def rNe:R2:=λx y H Q=>RM x y=true/\Q (.bl (!decide (x=y))) H
theorem IE:decide (V.int i=V.int j)=(i == j):=by
 rw[qU];simp
theorem Lx:decide (V.bl i=V.bl j)=(i == j):=by
 rw[qU];simp
theorem ID:decide (V.str i=V.str j)=(i == j):=by
 rw[qU];simp
theorem IF:decide (V.byt i=V.byt j)=(i.toList == j.toList):=by
 rw[qU];cases i;cases j;simp
section
variable {X:Cx} {a b c:Expr} {ta tb tc:TE} {pos:Pos}
theorem dC {σ:St} (I:Inv X pins σ H s) (q:Q (.bl k) H) (e:k=k'):EP X pins σ Q (.bool k') s:=by
 subst e;exact ⟨.bl k,H,I,rfl,q⟩
theorem hR:AO X (compareOp .Eq) rEq:=by
 intro pins s σ H x y v u Q I rx ry h;obtain ⟨hs,q⟩:=h;cases x with
 | non =>
  cases rx;cases y with
  | non=>cases ry;exact PySem.EqNone.eq_none_none (dC I q (by simp))
  | bl j=>cases ry;exact PySem.EqNone.eq_none_bool (dC I q (by simp))
  | int j=>obtain ⟨t',rfl⟩:=ry;exact PySem.EqNone.eq_none_int (dC I q (by simp))
  | str j=>obtain ⟨t',rfl⟩:=ry;exact PySem.EqNone.eq_none_str (dC I q (by simp))
  | _=>exact absurd (show false=true from hs) bE
 | bl i =>
  cases rx;cases y with
  | non=>cases ry;exact PySem.EqNone.eq_bool_none (dC I q (by simp))
  | bl j=>cases ry;exact eq_bool (dC I q Lx)
  | str j=>obtain ⟨t',rfl⟩:=ry;exact PySem.EqMixed.eq_bool_str (dC I q (by simp))
  | _=>exact absurd (show false=true from hs) bE
 | int i =>
  obtain ⟨t,rfl⟩:=rx;cases y with
  | non=>cases ry;exact PySem.EqNone.eq_int_none (dC I q (by simp))
  | int j=>obtain ⟨t',rfl⟩:=ry;exact eq_int (dC I q IE)
  | str j=>obtain ⟨t',rfl⟩:=ry;exact PySem.EqMixed.eq_int_str (dC I q (by simp))
  | _=>exact absurd (show false=true from hs) bE
 | str i =>
  obtain ⟨t,rfl⟩:=rx;cases y with
  | non=>cases ry;exact PySem.EqNone.eq_str_none (dC I q (by simp))
  | bl j=>cases ry;exact PySem.EqMixed.eq_str_bool (dC I q (by simp))
  | int j=>obtain ⟨t',rfl⟩:=ry;exact PySem.EqMixed.eq_str_int (dC I q (by simp))
  | str j=>obtain ⟨t',rfl⟩:=ry;exact eq_str (dC I q ID)
  | _=>exact absurd (show false=true from hs) bE
 | byt i =>
  obtain ⟨t,rfl⟩:=rx;cases y with
  | byt j=>obtain ⟨t',rfl⟩:=ry;exact PySem.W.eq_bytes (dC I q IF)
  | _=>exact absurd (show false=true from hs) bE
 | _=>cases y <;> exact absurd (show false=true from hs) bE
theorem Ia:AO X (compareOp .NotEq) rNe:=by
 intro pins s σ H x y v u Q I rx ry h;obtain ⟨hs,q⟩:=h;cases x with
 | non =>
  cases rx;cases y with
  | non=>cases ry;exact PySem.EqNone.ne_none_none (dC I q (by simp))
  | bl j=>cases ry;exact PySem.EqNone.ne_none_bool (dC I q (by simp))
  | int j=>obtain ⟨t',rfl⟩:=ry;exact PySem.EqNone.ne_none_int (dC I q (by simp))
  | str j=>obtain ⟨t',rfl⟩:=ry;exact PySem.EqNone.ne_none_str (dC I q (by simp))
  | _=>exact absurd (show false=true from hs) bE
 | bl i =>
  cases rx;cases y with
  | non=>cases ry;exact PySem.EqNone.ne_bool_none (dC I q (by simp))
  | bl j=>cases ry;exact ne_bool (dC I q (congrArg not Lx))
  | str j=>obtain ⟨t',rfl⟩:=ry;exact PySem.EqMixed.ne_bool_str (dC I q (by simp))
  | _=>exact absurd (show false=true from hs) bE
 | int i =>
  obtain ⟨t,rfl⟩:=rx;cases y with
  | non=>cases ry;exact PySem.EqNone.ne_int_none (dC I q (by simp))
  | int j=>obtain ⟨t',rfl⟩:=ry;exact ne_int (dC I q (congrArg not IE))
  | str j=>obtain ⟨t',rfl⟩:=ry;exact PySem.EqMixed.ne_int_str (dC I q (by simp))
  | _=>exact absurd (show false=true from hs) bE
 | str i =>
  obtain ⟨t,rfl⟩:=rx;cases y with
  | non=>cases ry;exact PySem.EqNone.ne_str_none (dC I q (by simp))
  | bl j=>cases ry;exact PySem.EqMixed.ne_str_bool (dC I q (by simp))
  | int j=>obtain ⟨t',rfl⟩:=ry;exact PySem.EqMixed.ne_str_int (dC I q (by simp))
  | str j=>obtain ⟨t',rfl⟩:=ry;exact ne_str (dC I q (congrArg not ID))
  | _=>exact absurd (show false=true from hs) bE
 | byt i =>
  obtain ⟨t,rfl⟩:=rx;cases y with
  | byt j=>obtain ⟨t',rfl⟩:=ry;exact PySem.W.ne_bytes (dC I q (congrArg not IF))
  | _=>exact absurd (show false=true from hs) bE
 | _=>cases y <;> exact absurd (show false=true from hs) bE
theorem rS:AO X (compareOp .Lt) (Nc λi j=>.bl (decide (i < j))):=Nl λ_ _ _ _ _ _ _ q=>lt_int q
theorem Sf:AO X (compareOp .LtE) (Nc λi j=>.bl (decide (i<=j))):=Nl λ_ _ _ _ _ _ _ q=>le_int q
theorem xW:AO X (compareOp .Gt) (Nc λi j=>.bl (decide (j < i))):=Nl λ_ _ _ _ _ _ _ q=>gt_int q
theorem BI:AO X (compareOp .GtE) (Nc λi j=>.bl (decide (j<=i))):=Nl λ_ _ _ _ _ _ _ q=>ge_int q
theorem Qc:AO X (compareOp .Is) (λx y H Q=>y=.non/\Q (.bl (decide (x=.non))) H):=by
 intro pins s σ H x y v u Q I rx ry h;obtain ⟨rfl,q⟩:=h;cases ry;refine is_none_gen (dC I q ?_)
 cases x <;> first
  | (cases rx;rfl)
  | (obtain ⟨t,rfl⟩:=rx;rfl)
theorem bL (b:Expr) {op:CmpOp} (h:op≠.In:=by decide) (h2:op≠.NotIn:=by decide):behindInMarks op b=false:=by
 have e1:(op == CmpOp.In)=false:=by cases op <;> first | rfl | exact absurd rfl h
 have e2:(op == CmpOp.NotIn)=false:=by cases op <;> first | rfl | exact absurd rfl h2
 cases b <;> simp [behindInMarks,e1,e2]
theorem jY (ho:AO X (compareOp op) r) (ha:PE X a ta) (hb:PE X b tb) (hm:behindInMarks op b=false):PE X (.Compare a [op] [b] pos) (Rw r ta tb):=by
 intro pins s σ H Q I h;exact wpAny_Compare1 (QF ha hb I h λv u s2 x y H2 I2 rx ry q=>ho pins s2 σ H2 x y v u Q I2 rx ry q) hm
def Oh (t:TE):TT:=λσ H Q=>t σ H λx H'=>∃k,x=.bl k/\Q k H'
theorem bI (ho:AO X (compareOp op) r) (ha:PE X a ta) (hb:PE X b tb) (hm:behindInMarks op b=false):PT X (.Compare a [op] [b] pos) (Oh (Rw r ta tb)):=by
 intro pins s σ H Q I h
 refine wpAny_isTrue_Compare1 (iK (ha pins s σ H _ I h) λv s1 ⟨x,H1,I1,r1,q1⟩=>iK (hb pins s1 σ H1 _ I1 q1) λu s2 ⟨y,H2,I2,r2,q2⟩ =>
  iK (ho pins s2 σ H2 x y v u _ I2 r1 r2 q2) λc s3 ⟨z,H3,I3,r3,k,e,q3⟩=>?_) hm
 subst e;cases r3;exact wpAny_truthy_bool ⟨H3,I3,q3⟩
theorem Aa:(sizeLine:Nat) < 2^63:=by rw[sizeLine_eq];decide
theorem vals1 (r:cZ [x] us):∃u,us=[u]/\RelV x u:=by
 cases r with
 | cons r1 r2=>cases r2;exact ⟨_,rfl,r1⟩
theorem vals2 (r:cZ [x,y] us):∃u w',us=[u,w']/\RelV x u/\RelV y w':=by
 cases r with
 | cons r1 r2 =>
  cases r2 with
  | cons r3 r4=>cases r4;exact ⟨_,_,rfl,r1,r3⟩
theorem vX:qM X (.builtin "abs") (λxs H Q=>∃i,xs=[.int i]/\Q (.int (if i < 0 then -i else i)) H):=by
 intro pins s σ H xs us Q I r h;obtain ⟨i,rfl,q⟩:=h;obtain ⟨u,rfl,t,rfl⟩:=vals1 r;exact call_abs_int λu tk=>⟨.int (if i < 0 then -i else i),H,I.tok _,⟨_,rfl⟩,q⟩
theorem o5 (hc:X.calm=true):qM X (.builtin "min") (λxs H Q=>∃i j,xs=[.int i,.int j]/\Q (.int (if j < i then j else i)) H):=by
 intro pins s σ H xs us Q I r h;obtain ⟨i,j,rfl,q⟩:=h;obtain ⟨u,w',rfl,⟨t,rfl⟩,⟨t',rfl⟩⟩:=vals2 r;refine min_two_ints (I.ok.hd hc) λh' tk k=>⟨_,H,I.kept k,?_,q⟩
 by_cases hj:j < i
 ·rw[if_pos hj,if_pos hj];exact ⟨_,rfl⟩
 ·rw[if_neg hj,if_neg hj];exact ⟨_,rfl⟩
end
structure GR (h:Heap) (x dx C:Addr) (mA:Str->Option Value):Prop where
 obj:h.get? x=some (PySem.W.instObj C dx)
 ns:h.Ns1 dx mA
 ne:dx≠x
theorem Jt {h:Heap} (n:h.Ns1 dx mA):∃od,h.get? dx=some od/\∀name,PySem.W.lookIn name od=some (mA name):=by
 obtain ⟨o,es,ep,ho,hd,hk,_,hm⟩:=n;refine ⟨o,ho,λname=>?_⟩;have e:=hm name;unfold nsFind findBy at e;rw[<- Array.find?_toList] at e;unfold PySem.W.lookIn;rw[hd]
 dsimp only
 split
 ·rename_i y q
  rw[q] at e;exact congrArg some e
 ·rename_i q
  rw[q] at e
  have a:es.toList.any (·.refKey)=false:=by
   rw[List.any_eq_false];intro y hy;obtain ⟨z,t,hkey⟩:=hk y (Array.mem_toList_iff.mp hy);simp [DictEntry.refKey,hkey]
  have a':¬es.toList.any (·.refKey)=true:=by rw[a];exact bE
  rw[if_neg a'];exact congrArg some e
theorem GR.look (I:GR h x dx C mA):∃od,PySem.W.InstAt h x (PySem.W.instObj C dx) C (some od)/\∀name,PySem.W.lookIn name od=some (mA name) :=
 let ⟨od,ho,hl⟩:=Jt I.ns
 ⟨od,⟨I.obj,rfl,rfl,ho⟩,hl⟩
section
variable {prog:Program} {w:World} {A:Around} {E:Value->Shared->Prop} {s:Shared} {K:FG9} {x dx C f:Addr} {mA:Str->Option Value} {name:Str} {v:Value}
theorem get_map (X:K.In s.heap) (I:GR s.heap x dx C mA) (hg:PySem.W.plainGet K C name=true) (hh:PySem.W.hasDictIn K C=true)
  (ha:PySem.W.findIn K (.ref C) name=some none) (hv:mA name=some v) (hv':PySem.W.handedIn v=true) (h:Q v { s with toks:=s.toks+1 }) :
  wpAny (model prog w) A (getAttr (.ref x) name expr) Q E s:=by
 obtain ⟨od,J,hl⟩:=I.look;exact PySem.W.get_value X J (D7 hg).1 (PySem.W.findObj_own hh ha rfl (by rw[hl,hv])) hv' h
theorem Li (X:K.In s.heap) (I:GR s.heap x dx C mA) (hg:PySem.W.plainGet K C name=true)
  (hf:PySem.W.findIn K (.ref C) name=some (some (.ref f))) (ht:PySem.W.isFn K (.ref f)=true) (hv:mA name=none) (h:Q (.ref f,[.ref x]) s) :
  wpAny (model prog w) A (getMethod (.ref x) name pl) Q E s:=by
 obtain ⟨od,J,hl⟩:=I.look;exact PySem.W.method_fn X J (D7 hg).1 (D7 hg).2 hf (beq_iff_eq.mp ht) (by show (PySem.W.lookIn name od).map (·.isSome)=some false;rw[hl,hv];rfl) h
theorem ME (X:K.In s.heap) (I:GR s.heap x dx C mA)
  (hs:PySem.W.findIn K (.ref C) "__setattr__"=some (some (.builtin "object.__setattr__"))) (hp:PySem.W.plainOver K C=true) (ht:PySem.W.takerIn K C name=some none) (hh:PySem.W.hasDictIn K C=true)
  (hw:PySem.Within mA ns) (hsz:ns.length<=sizeLine)
  (h:∀h',GR h' x dx C (λy=>if y=name then some v else mA y)->Heap.SameBut dx s.heap h'->Q () { s with heap:=h',toks:=s.toks+2 }) :
  wpAny (model prog w) A (setAttr (.ref x) name v) Q E s:=by
 obtain ⟨od,J,hl⟩:=I.look;refine PySem.W.set_plain X J hs (PySem.W.osa_open (s:={ s with toks:=s.toks+1 }) (r:=none) X J hp ht λb=>?_);obtain ⟨cd,hc,hd'⟩:=PySem.W.any_some hh;have hx:s.heap.get? x=some ⟨.ref C,some dx,.plain,#[]⟩:=I.obj;refine wpAny_bind (wpAny_pure (wpAny_bind (wpAny_bind (wpAny_loadPart hx (wpAny_bind (PySem.W.Looks.here (s:={ s with toks:=s.toks+1 }) (PySem.W.looks_clsIn X hc) ?_))))));rw[hd'];refine wpAny_pure (a:=some dx) (wpAny_bind (wpAny_pure (wpAny_bind ?_)));refine wpAny_nsSet1 (s:={ s with toks:=s.toks+1 }) I.ns λh' hn2 hs2=>?_
 obtain ⟨oD,esD,epD,hoD,hdD,hcD⟩:=hn2.count (PySem.Within.cons name v hw);refine wpAny_bind (wpAny_lookBehind hoD (by rw[hdD];exact pastItsLine_dict (ak hcD (by rw[bQ];lia))) ?_);exact wpAny_pure (h _ ⟨(hs2.2 _ (Ne.symm I.ne)).trans I.obj,hn2,I.ne⟩ hs2)
theorem K6 (X:K.In s.heap) (hm:PySem.W.makesIn K C=true)
  (hi:PySem.W.findIn K (.ref C) "__init__"=some (some (.ref f))) (hf:PySem.W.typeIn K (.ref f)=some (.type "function"))
  (h:codeAny (model prog w) (A.under (.builtin "type.__call__" ⟨.ref C :: vs,kw⟩)) (.call (.ref f) ⟨.ref (s.heap.objs.size+1) :: vs,kw⟩) (PySem.W.InitBack (s.heap.objs.size+1) R)
   { s with heap:=(s.heap.push PySem.W.emptyDict).push (PySem.W.instObj C s.heap.objs.size) }) :
  codeAny (model prog w) A (.call (.ref C) ⟨vs,kw⟩) R s:=by
 obtain ⟨hh,g,d,t,os⟩:=s;exact PySem.W.make_core (PySem.W.makes_of X hm) (PySem.W.looks_findIn X hi) (λself=>PySem.W.bind_fn X self hf) (.inl rfl) h
end
def a8 (f:Str) (v:V):List (Str×V)->List (Str×V)
 | []=>[(f,v)]
 | (g,x) :: r=>if g=f then (g,v) :: r else (g,x) :: a8 f v r
theorem aN (f g:Str) (v:V):∀fs:List (Str×V),(a8 f v fs).lookup g=if g=f then some v else fs.lookup g
 | []=>by
  show List.lookup g [(f,v)]=_
  by_cases h:g=f
  ·have hb:(g == f)=true:=beq_iff_eq.mpr h;simp only[List.lookup,hb,if_pos h]
  ·have hb:(g == f)=false:=beq_eq_false_iff_ne.mpr h;simp only[List.lookup,hb,if_neg h]
 | (k,x) :: r=>by
  have ih:=aN f g v r;rw[show a8 f v ((k,x) :: r)=(if k=f then (k,v) :: r else (k,x) :: a8 f v r) from rfl];by_cases hk:k=f
  ·rw[if_pos hk];by_cases h:g=k
   ·have hb:(g == k)=true:=beq_iff_eq.mpr h;simp only[List.lookup,hb,if_pos (h.trans hk)]
   ·have hb:(g == k)=false:=beq_eq_false_iff_ne.mpr h;simp only[List.lookup,hb,if_neg (λe:g=f=>h (e.trans hk.symm))]
  ·rw[if_neg hk];by_cases h:g=k
   ·have hb:(g == k)=true:=beq_iff_eq.mpr h;simp only[List.lookup,hb,if_neg (λe:g=f=>hk (h.symm.trans e))]
   ·have hb:(g == k)=false:=beq_eq_false_iff_ne.mpr h;simp only[List.lookup,hb];exact ih
theorem xp (f:Str) (v:V):∀fs:List (Str×V),f∈(a8 f v fs).map (·.1)/\∀g,g∈fs.map (·.1)->g∈(a8 f v fs).map (·.1)
 | []=>⟨by simp [a8],λg h=>by simp at h⟩
 | (k,x) :: r=>by
  obtain ⟨i1,i2⟩:=xp f v r;rw[show a8 f v ((k,x) :: r)=(if k=f then (k,v) :: r else (k,x) :: a8 f v r) from rfl];by_cases hk:k=f
  ·rw[if_pos hk];subst hk;exact ⟨by simp,λg h=>by simpa using h⟩
  ·rw[if_neg hk];refine ⟨?_,λg h=>?_⟩
   ·rw[lV];exact bM _ i1
   ·rw[lV] at h ⊢;rcases aH.mp h with e | e
    ·exact aH.mpr (.inl e)
    ·exact bM _ (i2 g e)
theorem ya (f:Str) (v:V):∀fs:List (Str×V),(a8 f v fs).length<=fs.length+1
 | []=>by simp [a8]
 | (k,x) :: r=>by
  have ih:=ya f v r;rw[show a8 f v ((k,x) :: r)=(if k=f then (k,v) :: r else (k,x) :: a8 f v r) from rfl];by_cases hk:k=f
  ·rw[if_pos hk,bQ,bQ];lia
  ·rw[if_neg hk,bQ,bQ];lia
theorem Bh.some_of (r:Bh (some v) o):∃u,o=some u/\RelV v u:=by
 cases o with
 | none=>exact (show False from r).elim
 | some u=>exact ⟨u,rfl,r⟩
theorem Bh.none_of (r:Bh none o):o=none:=by
 cases o with
 | none=>rfl
 | some u=>exact (show False from r).elim
theorem Jx (r:RelV v u):PySem.W.handedIn u=true:=by
 cases v with
 | non=>cases (show u=Value.none from r);rfl
 | bl b=>cases (show u=Value.bool b from r);rfl
 | int i=>obtain ⟨t,e⟩:=(show ∃t,u=Value.int i t from r);cases e;rfl
 | str x=>obtain ⟨t,e⟩:=(show ∃t,u=Value.str x t from r);cases e;rfl
 | byt b=>obtain ⟨t,e⟩:=(show ∃t,u=Value.bytes b t from r);cases e;rfl
 | flt b=>obtain ⟨t,e⟩:=(show ∃t,u=Value.float b t from r);cases e;rfl
 | ref a=>cases (show u=Value.ref a from r);rfl
 | ty n=>cases (show u=Value.type n from r);rfl
section
variable {P:Program} {w:World} {H H':Hp} {h h':Heap} {a C dx:Addr} {fs fs':List (Str×V)}
theorem yZ (hok:za P w H h) (e:H a=some (.ins C dx fs)):∃mA,GR h a dx C mA/\(∀f,Bh (fs.lookup f) (mA f))/\PySem.Within mA (fs.map (·.1))/\fs.length<=1000/\H dx=some (.own a):=by
 obtain ⟨d,z,ne,ob,mA,n,r,q⟩:=(show jN P w H h a (.ins C dx fs) from hok a _ e);exact ⟨mA,⟨ob,n,ne⟩,r,q,z,d⟩
end
structure JK (K:FG9) (C:Addr):Prop where
 pg:PySem.W.plainGet K C Str.empty=true
 hd:PySem.W.hasDictIn K C=true
 po:PySem.W.plainOver K C=true
 sa:PySem.W.findIn K (.ref C) "__setattr__"=some (some (.builtin "object.__setattr__"))
theorem JK.get {K:FG9} (c:JK K C) (f:Str):PySem.W.plainGet K C f=true:=c.pg
def iw (K:FG9) (C:Addr) (f:Str):Prop:=PySem.W.findIn K (.ref C) f=some none
theorem iw.taker {K:FG9} (n:iw K C f):PySem.W.takerIn K C f=some none:=by
 unfold PySem.W.takerIn;rw[show PySem.W.findIn K (.ref C) f=some none from n];rfl
structure Bj (K:FG9) (C:Addr) (m:Str) (f:Addr):Prop where
 at_:PySem.W.findIn K (.ref C) m=some (some (.ref f))
 fn:PySem.W.isFn K (.ref f)=true
 kp:PySem.W.keepIn K (.ref f)=true
section
variable {X:Cx} {pins:List (Addr×Obj)} {σ:St} {H:Hp} {s:Shared} {a C dx:Addr} {fs:List (Str×V)} {f:Str} {v:V} {A:Around} {E:Value->Shared->Prop}
theorem Gw (I:Inv X pins σ H s) (e:H a=some (.ins C dx fs)) (c:JK X.K C) (n:iw X.K C f) (l:fs.lookup f=some v)
  (h:∀u s',Inv X pins σ H s'->RelV v u->Q u s'):wpAny (model X.prog X.w) A (getAttr (.ref a) f b) Q E s:=by
 obtain ⟨mA,O,r,_,_,_⟩:=yZ I.hok e;obtain ⟨u,hu,ru⟩:=Bh.some_of (v:=v) (o:=mA f) (by rw[<- l];exact r f);exact get_map I.kIn O (c.get f) c.hd n hu (Jx ru) (h u _ (I.tok _) ru)
theorem Gv (I:Inv X pins σ H s) (e:H a=some (.ins C dx fs)) (c:JK X.K C) (k:Bj X.K C m g) (l:fs.lookup m=none)
  (h:Q (.ref g,[.ref a]) s):wpAny (model X.prog X.w) A (getMethod (.ref a) m pl) Q E s:=by
 obtain ⟨mA,O,r,_,_,_⟩:=yZ I.hok e;have hn:mA m=none:=Bh.none_of (by rw[<- l];exact r m);exact Li I.kIn O (c.get m) k.at_ k.fn hn h
theorem FQ (I:Inv X pins σ H s) (e:H a=some (.ins C dx fs)) (c:JK X.K C) (n:iw X.K C f) (hl:fs.length < 1000) (ry:RelV y u)
  (h:∀s',Inv X pins σ (upd H a (.ins C dx (a8 f y fs))) s'->Q () s'):wpAny (model X.prog X.w) A (setAttr (.ref a) f u) Q E s:=by
 obtain ⟨mA,O,r,wi,_,ho⟩:=yZ I.hok e;have hz:(fs.map (·.1)).length<=sizeLine:=by rw[ag,sizeLine_eq];lia
 refine ME I.kIn O c.sa c.po n.taker c.hd wi hz λh' O' sb=>h _ ?_
 have hd:∃o,h'.get? dx=some o:=let ⟨o,_,_,e',_⟩:=O'.ns;⟨o,e'⟩
 refine I.write (x:=a) (e:=dx) (by rw[e];exact True.intro) (.inr ho) (λb q hb z=>(sb.2 b hb).trans z) hd ?_;refine ⟨by rw[aZ O.ne];exact ho,?_,O.ne,O'.obj,_,O'.ns,λg=>?_,λg hg=>?_⟩
 ·have:=ya f y fs;lia
 ·show Bh ((a8 f y fs).lookup g) (if g=f then some u else mA g)
  rw[aN];by_cases q:g=f
  ·rw[if_pos q,if_pos q];exact ry
  ·rw[if_neg q,if_neg q];exact r g
 ·by_cases q:g=f
  ·rw[q];exact (xp f y fs).1
  ·refine (xp f y fs).2 g (wi g λz=>hg ?_);show (if g=f then some u else mA g)=none
   rw[if_neg q];exact z
theorem Inv.made (I:Inv X pins σ H s):Inv X pins σ (upd (upd H s.heap.objs.size (.own (s.heap.objs.size+1))) (s.heap.objs.size+1) (.ins C s.heap.objs.size []))
  { s with heap:=(s.heap.push PySem.W.emptyDict).push (PySem.W.instObj C s.heap.objs.size) }:=by
 have e1:(s.heap.push PySem.W.emptyDict).get? s.heap.objs.size=some PySem.W.emptyDict:=Heap.get?_push_size s.heap rfl
 have e2:((s.heap.push PySem.W.emptyDict).push (PySem.W.instObj C s.heap.objs.size)).get? (s.heap.objs.size+1)=some (PySem.W.instObj C s.heap.objs.size):=by
  have:=Heap.get?_push_size (s.heap.push PySem.W.emptyDict) (o:=PySem.W.instObj C s.heap.objs.size) rfl;rwa [Heap.size_push] at this
 have e3:(s.heap.push PySem.W.emptyDict).Ns s.heap.objs.size (λ_=>none):=⟨PySem.W.emptyDict,#[],_,e1,rfl,(λe he=>absurd he (by simp)),λ_=>rfl⟩;have I1:=I.laid (a:=s.heap.objs.size) (o:=.own (s.heap.objs.size+1)) (h':=s.heap.push PySem.W.emptyDict) (t':=s.toks) (λb u q=>Heap.get?_push_of_some _ q) (ar _) ⟨_,e1⟩;refine I1.laid (a:=s.heap.objs.size+1) (o:=.ins C s.heap.objs.size []) (t':=s.toks) (λb u q=>Heap.get?_push_of_some _ q) (Nat.le_of_eq (Heap.size_push _ _)) ?_;have ne:s.heap.objs.size≠s.heap.objs.size+1:=cL (jn _);refine ⟨by rw[aZ ne,aK],b8 _,ne,e2,λ_=>none,(Heap.Ns1.of_empty e3).at λo q=>Heap.get?_push_of_some _ q,λ_=>True.intro,λy hy=>absurd rfl hy⟩
theorem Oa (hb:attributeBase e f env (eval e env)=eval e env)
  (h:wpAny (model prog w) A (eval e env) (λo s₁=>wpAny (model prog w) A (getAttr o f true) Q E s₁) E s):wpAny (model prog w) A (eval (.Attribute e f pos) env) Q E s :=
 Attribute_any_ h (by rw[arm_eval_Attribute,hb])
end
def RB (K:FG9) (ta:TE) (f:Str):TE:=λσ H Q=>ta σ H λx H1=>∃a C dx fs v,x=.ref a/\H1 a=some (.ins C dx fs)/\JK K C/\iw K C f/\fs.lookup f=some v/\Q v H1
def RN (K:FG9) (ta tv:TE) (f:Str):TS:=λD σ H=>tv σ H λy H1=>ta σ H1 λx H2=>∃a C dx fs,x=.ref a/\H2 a=some (.ins C dx fs)/\JK K C/\iw K C f/\fs.length < 1000 /\
 D.nx σ (upd H2 a (.ins C dx (a8 f y fs)))
section
variable {X:Cx} {o e value:Expr} {f:Str} {pos pos' tpos:Pos} {ta tv:TE}
theorem eS (he:PE X e ta) (hb:attributeBase e f X.env (eval e X.env)=eval e X.env):PE X (.Attribute e f pos) (RB X.K ta f):=by
 intro pins s σ H Q I h;refine Oa hb (iK (he pins s σ H _ I h) λu s1 ⟨x,H1,I1,rx,a,C,dx,fs,v,ex,ea,c,n,l,q⟩=>?_);subst ex;obtain rfl:u=Value.ref a:=rx;exact Gw I1 ea c n l λu' s2 I2 ru=>⟨v,H1,I2,ru,q⟩
theorem mG (ha:PE X o ta) (hv:PE X value tv) (hs:swapsWith value (some (.Attribute o f pos')) pos.line X.env=pure false):PS X (.Assign [.Attribute o f pos'] value pos) (RN X.K ta tv f):=by
 intro pins s σ H D I h;refine plainObj_wpAny_Assign_Attribute (iK (hv pins s σ H _ I h) λu s1 ⟨y,H1,I1,ry,q⟩=>iK (ha pins s1 σ H1 _ I1 q) λov s2 ⟨x,H2,I2,rx,a,C,dx,fs,ex,ea,c,n,l,q2⟩=>?_) hs;subst ex;obtain rfl:ov=Value.ref a:=rx;exact FQ I2 ea c n l ry λs3 I3=>⟨σ,_,I3,q2⟩
end
section
variable {X:Cx} {pins:List (Addr×Obj)} {σ:St} {H:Hp} {s:Shared} {A:Around} {E:Value->Shared->Prop} {Q:Value->Shared->Prop} {c:Value} {b:Bool}
inductive xE (K:FG9) (H:Hp):V->Value->Prop where
 | non:xE K H .non (.type "NoneType")
 | bl (x:Bool):xE K H (.bl x) (.type "bool")
 | int (i:Int):xE K H (.int i) (.type "int")
 | str (x:Str):xE K H (.str x) (.type "str")
 | flt (x:UInt64):xE K H (.flt x) (.type "float")
 | lst {a:Addr} {xs:List V} (e:H a=some (.lst xs)):xE K H (.ref a) (.type "list")
 | frz {a:Addr} {o:Obj} {xs:List V} (e:H a=some (.frz o (.lst xs))):xE K H (.ref a) (.type "list")
 | tup {a:Addr} {xs:List V} (e:H a=some (.tup xs)):xE K H (.ref a) (.type "tuple")
 | dK {a:Addr} {kvs:List (Key×V)} (e:H a=some (.dK kvs)):xE K H (.ref a) (.type "dict")
 | dT {a:Addr} {kvs:List (List Key×V)} (e:H a=some (.dT kvs)):xE K H (.ref a) (.type "dict")
 | ins {a C dx:Addr} {fs:List (Str×V)} (e:H a=some (.ins C dx fs)) (cl:JK K C) (ha:PySem.W.findIn K (.ref C) "__class__"=some (some (.builtin "object.__class__")))
   (hn:PySem.W.specialIn K (.builtin "object.__class__") "__get__"=some (some (.builtin "getset_descriptor.__get__"))) (htk:PySem.W.takesIn K (.builtin "object.__class__")=some true)
   (hm:PySem.W.mroIn K C (.type "object")=some true):xE K H (.ref a) (.ref C)
theorem BL (I:Inv X pins σ H s) (rx:RelV x u) (ty:xE X.K H x t) (e:PySem.W.kitOne X.K t c=some b) (h:∀tk,Q (.bool b) { s with toks:=tk }) :
  wpAny (model X.prog X.w) A (call (.builtin "isinstance") [u,c]) Q E s:=by
 cases ty with
 | non=>cases (show u=Value.none from rx);exact dF PySem.W.kitx_none I.kIn True.intro e (λz=>nomatch z) h
 | bl y=>cases (show u=Value.bool y from rx);exact dF PySem.W.kitx_bool I.kIn True.intro e (λz=>nomatch z) h
 | int i=>obtain ⟨t,q⟩:=(show ∃t,u=Value.int i t from rx);cases q;exact dF PySem.W.kitx_int I.kIn True.intro e (λz=>nomatch z) h
 | str y=>obtain ⟨t,q⟩:=(show ∃t,u=Value.str y t from rx);cases q;exact dF PySem.W.kitx_str I.kIn True.intro e (λz=>nomatch z) h
 | flt y=>obtain ⟨t,q⟩:=(show ∃t,u=Value.float y t from rx);cases q;exact dF PySem.W.kitx_float I.kIn True.intro e (λz=>nomatch z) h
 | @lst a xs ea =>
  cases (show u=Value.ref a from rx);obtain ⟨_,_,n,_,h1⟩:=(show jN X.prog X.w H s.heap a (.lst xs) from I.hok a _ ea);exact dF PySem.W.kitx_list I.kIn ⟨_,h1,rfl⟩ e (λz=>nomatch z) h
 | @frz a ob xs ea =>
  cases (show u=Value.ref a from rx);obtain ⟨_,_,_,n,_,h1⟩:=(show jN X.prog X.w H s.heap a (.frz ob (.lst xs)) from I.hok a _ ea);exact dF PySem.W.kitx_list I.kIn ⟨_,h1,rfl⟩ e (λz=>nomatch z) h
 | @tup a xs ea =>
  cases (show u=Value.ref a from rx);obtain ⟨_,_,_,p⟩:=(show jN X.prog X.w H s.heap a (.tup xs) from I.hok a _ ea);obtain ⟨o,h1,h2,_⟩:=p;exact dF PySem.W.kitx_tuple I.kIn ⟨o,h1,h2⟩ e (λz=>nomatch z) h
 | @dK a kvs ea =>
  cases (show u=Value.ref a from rx);obtain ⟨_,_,vs,_,p⟩:=(show jN X.prog X.w H s.heap a (.dK kvs) from I.hok a _ ea);obtain ⟨o,es,ep,h1,h2,_⟩:=p;exact dF PySem.W.kitx_dict I.kIn ⟨o,h1,h2.1⟩ e (λz=>nomatch z) h
 | @dT a kvs ea =>
  cases (show u=Value.ref a from rx);obtain ⟨_,_,xs,_,o,es,ep,h1,h2,_⟩:=(show jN X.prog X.w H s.heap a (.dT kvs) from I.hok a _ ea);exact dF PySem.W.kitx_dict I.kIn ⟨o,h1,h2.1⟩ e (λz=>nomatch z) h
 | @ins a C dx fs ea cl ha hn htk hm =>
  cases (show u=Value.ref a from rx);obtain ⟨mA,O,_⟩:=yZ I.hok ea;obtain ⟨od,J,_⟩:=O.look;exact dF (PySem.W.kitx_own (cl.get _) cl.hd ha hn htk hm) I.kIn J e (λz=>nomatch z) h
end
structure lK (k:Nat) (A:Around):Prop where
 hd:A.handled=none
 dp:A.depth+3*k+105 < recursionLimit
 un:A.units+16*k+200 < cLine
theorem lK.mono (r:lK k A) (h:j<=k):lK j A:=⟨r.hd,by have:=r.dp;lia,by have:=r.un;lia⟩
theorem lK.deeper (r:lK (k+1) A) (env:Env):lK k (A.deeper env) :=
 ⟨r.hd,by have:=r.dp;show A.depth+1+3*k+105 < _;lia,by have:=r.un;show A.units+3+16*k+200 < _;lia⟩
theorem Gh {A:Around}:(A.under (.builtin "type.__call__" ⟨.ref C :: us,kw⟩)).depth=A.depth+1:=by
 first | rfl | simp [Around.under,Code.weight,Code.isCreation,Code.isGuard,Code.isCaller,Code.frames,Code.isFrame,guardIds]
theorem Gg {A:Around}:(A.under (.builtin "type.__call__" ⟨.ref C :: us,kw⟩)).units=A.units+1:=by
 first | rfl | simp [Around.under,Code.cUnits,Code.frames,Code.isFrame]
theorem lK.make (r:lK (k+1) A) (C:Addr) (us:List Value) (kw:List (Str×Value)):lK k (A.under (.builtin "type.__call__" ⟨.ref C :: us,kw⟩)) :=
 ⟨r.hd,by have:=r.dp;rw[Gh];lia,by have:=r.un;rw[Gg];lia⟩
theorem lK.depth (r:lK k A):A.depth < recursionLimit:=by have:=r.dp;lia
theorem lK.units (r:lK k A):A.units+64 < cLine:=by have:=r.un;lia
def IY:TA:=λ_ H Q=>Q [] H
def qX (ta:TE) (tr:TA):TA:=λσ H Q=>ta σ H λx H1=>tr σ H1 λxs H2=>Q (x :: xs) H2
section
variable {X:Cx} {e:Expr} {es:List Expr} {te:TE} {t:TA} {pos:Pos}
theorem ai:PA X [] IY:=λ_ _ _ _ H Q I h=>Calls.spliced_nil ⟨[],H,I,.nil,h⟩
theorem aa (ha:PE X e te) (hr:PA X es t) (hs:starEach (e :: es) X.env=(false,eval e X.env) :: starEach es X.env:=by rfl):PA X (e :: es) (qX te t):=by
 intro pos pins s σ H Q I h;rw[hs];show wpAny _ _ (spliced ((false,eval e X.env) :: backTo pos (starEach es X.env))) _ _ s
 refine Calls.spliced_cons (iK (ha pins s σ H _ I h) λu s1 ⟨x,H1,I1,r1,q1⟩=>?_);exact iK (hr pos pins s1 σ H1 _ I1 q1) λus s2 ⟨xs,H2,I2,r2,q2⟩=>⟨x :: xs,H2,I2,.cons r1 r2,q2⟩
def Rl (t:TA):TE:=λσ H Q=>t σ H λxs H1=>xs.length<=sizeLine/\∀p,H1 p=none->Q (.ref p) (upd H1 p (.tup xs))
def Ry (t:TA):TE:=λσ H Q=>t σ H λxs H1=>xs.length<=sizeLine/\∀p,H1 p=none->Q (.ref p) (upd H1 p (.lst xs))
theorem cG (h:PA X es t):PE X (.Tuple es x1 pos) (Rl t):=by
 intro pins s σ H Q I hq;refine wpAny_Tuple_spliced (iK (h pos pins s σ H _ I hq) λus s1 ⟨xs,H1,I1,r,z,q⟩=>⟨by rw[<- r.length];exact z,?_⟩);have hf:H1 s1.heap.objs.size=none:=I1.hok.fresh (ar _);refine ⟨.ref s1.heap.objs.size,upd H1 s1.heap.objs.size (.tup xs),I1.laid (t':=s1.toks) (λb u e=>Heap.get?_push_of_some _ e) (ar _) ?_,rfl,q _ hf⟩;exact ⟨z,us,r,⟨_,Heap.get?_push_size _ rfl,rfl,_,rfl⟩⟩
theorem dZ (h:PA X es t):PE X (.List es pos) (Ry t):=by
 intro pins s σ H Q I hq;refine wpAny_List_spliced (iK (h pos pins s σ H _ I hq) λus s1 ⟨xs,H1,I1,r,z,q⟩=>⟨by rw[<- r.length];exact z,?_⟩);have hf:H1 s1.heap.objs.size=none:=I1.hok.fresh (ar _);refine ⟨.ref s1.heap.objs.size,upd H1 s1.heap.objs.size (.lst xs),I1.laid (t':=s1.toks) (λb u e=>Heap.get?_push_of_some _ e) (ar _) ?_,rfl,q _ hf⟩;exact ⟨z,us,0,r,Heap.get?_push_size _ rfl⟩
end
abbrev Sp:=List V->Hp->VK->XK->Prop
abbrev Mj:=List Env->Hp->Shared->XK->Value->Shared->Prop
structure GY (P:Program) (w:World) (K:FG9) (mg:Str->Option Value) (base:Heap) (A:Around) (outer:List Env) (s:Shared) (H:Hp):Prop where
 frames:A.frames=some outer
 mod:Mod K mg base
 bs:∀b o,base.get? b=some o->s.heap.get? b=some o/\H b=none
 bsz:base.objs.size<=s.heap.objs.size
 funs:s.heap.FunFrames base outer
 frf:∀b∈JP outer,H b=none
 hok:za P w H s.heap
 bare:AllBare s.gens
def CE (outer:List Env) (P:Program) (w:World) (H:Hp) (s:Shared) (Q:VK) (u:Value) (s':Shared):Prop :=
 ∃v H',s'.os=s.os/\AllBare s'.gens/\Un (JP outer) [] H H' s.heap s'.heap/\za P w H' s'.heap/\RelV v u/\Q v H'
def CR (CX:Mj) (outer:List Env) (P:Program) (w:World) (H:Hp) (s:Shared) (Q:VK) (E:XK) (r:Result) (s':Shared):Prop :=
 match r with
 | .ok (.ret u)=>CE outer P w H s Q u s'
 | .ok _=>False
 | .error e=>CX outer H s E e s'
structure cO (P:Program) (w:World) (K:FG9) (mg:Str->Option Value) (base:Heap) (CX:Mj) (k:Nat) (f:Addr) (fd:FuncData) (ps:List Str) (sp:Sp):Prop where
 len:∀vs H Q E,sp vs H Q E->vs.length=ps.length
 run:∀(A:Around) (outer:List Env) (s:Shared) (H:Hp) (args:Args) (us:List Value) (vs:List V) (Q:VK) (E:XK),lK k A->GY P w K mg base A outer s H->BindsTo s fd args (ps.zip us)->cZ vs us->sp vs H Q E →
  codeAny (model P w) A (.call (.ref f) args) (CR CX outer P w H s Q E) s
theorem GY.make {K:FG9} (e:GY P w K mg base A outer s H) (C:Addr) (us:List Value) (kw:List (Str×Value)) :
  GY P w K mg base (A.under (.builtin "type.__call__" ⟨.ref C :: us,kw⟩)) outer s H:=⟨by first | exact e.frames | (simpa [Around.under,Code.envs,Code.isFrame,pushEnvs] using e.frames),e.mod,e.bs,e.bsz,e.funs,e.frf,e.hok,e.bare⟩
section
variable {X:Cx} {pins:List (Addr×Obj)} {σ:St} {H:Hp} {s s':Shared}
theorem Inv.env0 (I:Inv X pins σ H s):GY X.prog X.w X.K X.mg X.base X.A X.stack s H :=
 ⟨I.ok.frames,I.ok.mod,I.bs,ak I.ok.bsz I.sz,I.stack,I.stkFree,I.hok,I.bare⟩
theorem Inv.after (I:Inv X pins σ H s) (h:CE X.stack X.prog X.w H s Q u s'):EP X pins σ Q u s':=by
 obtain ⟨v,H',os,bare,un,hok,r,q⟩:=h;obtain ⟨hh,g,d,t,os'⟩:=s';obtain rfl:os'=s.os:=os;exact ⟨v,H',I.call (h':=hh) (g':=g) (d':=d) (t':=t) (ch:=[]) un hok bare (λb z=>absurd z (by simp)),r,q⟩
end
def J6 (sp:Sp) (dvs:List V) (E:XK) (t:TA):TE:=λσ H Q=>t σ H λvs H1=>sp (vs++dvs) H1 Q E
def Om (C:Addr) (m:Str) (sp:Sp) (dvs:List V) (E:XK) (ta:TE) (t:TA):TE:=λσ H Q=>ta σ H λx H1=>∃a dx fs,x=.ref a/\H1 a=some (.ins C dx fs)/\fs.lookup m=none /\
 t σ H1 λvs H2=>sp (x :: (vs++dvs)) H2 Q E
def Oo (C:Addr) (sp:Sp) (dvs:List V) (E:XK) (t:TA):TE:=λσ H Q=>t σ H λvs H1=>∀x dx,H1 x=none->H1 dx=none->dx≠x →
 sp (.ref x :: (vs++dvs)) (upd (upd H1 dx (.own x)) x (.ins C dx [])) (λv H2=>v=.non/\Q (.ref x) H2) E
def Binds (K:FG9) (fd:FuncData) (ps:List Str) (ds:List Value):Prop :=
 ∀(s:Shared) (us:List Value),K.In s.heap->(us++ds).length=ps.length->BindsTo s fd ⟨us,[]⟩ (ps.zip (us++ds))
theorem Binds.all {K:FG9} (h:∀us:List Value,us.length=ps.length->bindArgs fd ⟨us,[]⟩=pure (ps.zip us)):Binds K fd ps []:=λs us _ hl=>by
 rw[qR] at hl ⊢;exact .of_eq (h us hl)
def xH (CX:Mj) (X:Cx) (E:XK):Prop:=∀(pins:List (Addr×Obj)) (σ:St) (H:Hp) (s:Shared) (e:Value) (s':Shared),Inv X pins σ H s->CX X.stack H s E e s'->X.xe e s'
section
variable {X:Cx} {CX:Mj} {k:Nat} {f C:Addr} {fd:FuncData} {ps:List Str} {sp:Sp} {dvs:List V} {ds:List Value} {E:XK} {x m:Str} {p pos apos:Pos} {e o:Expr} {es:List Expr} {ta:TE} {t:TA}
theorem Kq {σ:St} (F:cO X.prog X.w X.K X.mg X.base CX k f fd ps sp) (hr:lK k X.A) (hb:Binds X.K fd ps ds) (hd:cZ dvs ds) (hx:xH CX X E)
  (I:Inv X pins σ H s) (r:cZ vs us) (h:sp (vs++dvs) H Q E):wpAny (model X.prog X.w) X.A (call (.ref f) us) (EP X pins σ Q) X.xe s:=by
 have r2:cZ (vs++dvs) (us++ds):=r.append hd;have hl:(us++ds).length=ps.length:=by rw[<- r2.length];exact F.len _ _ _ _ h
 refine wpAny_call (codeAny_mono (F.run X.A X.stack s H ⟨us,[]⟩ (us++ds) (vs++dvs) Q E hr I.env0 (hb s us I.kIn hl) r2 h) λr s' hq=>?_);cases r with
 | error e=>exact hx pins σ H s e s' I hq
 | ok fl =>
  cases fl with
  | ret u=>exact I.after hq
  | next=>exact False.elim hq
  | brk=>exact False.elim hq
  | cont=>exact False.elim hq
theorem Nj (F:cO X.prog X.w X.K X.mg X.base CX k f fd ps sp) (hr:lK k X.A) (hg:Gl X x) (hm:X.mg x=some (.ref f)) (hk:PySem.W.keepIn X.K (.ref f)=true) (hb:Binds X.K fd ps ds) (hd:cZ dvs ds) (hx:xH CX X E)
  (ha:PA X (e :: es) t) (hdb:(x == ("__debug__":Str))=false:=by decide) (he:starEach (e :: es) X.env=(false,eval e X.env) :: starEach es X.env:=by rfl) (hpl:(backTo pos (starEach es X.env)).any (·.1)=false:=by rfl) :
  PE X (.Call (.Name x p) (e :: es) [] pos) (J6 sp dvs E t):=by
 intro pins s σ H Q I h;refine wpAny_Call_Name_kw (Dx I hg hm ?_ hdb);refine FF (h₀:=X.base) I.ok.mod.kin hk (iK (ha pos pins s σ H _ I h) λus s1 ⟨vs,H1,I1,r,q⟩=>⟨I1.kIn,?_⟩) he hpl;exact Kq F hr hb hd hx I1 r q
theorem ju {pl : Sem Bool} (he : PE X o ta) (c : JK X.K C) (hm : Bj X.K C m f) (F : cO X.prog X.w X.K X.mg X.base CX k f fd ps sp) (hr : lK k X.A) (hb : Binds X.K fd ps ds) (hd : cZ dvs ds) (hx : xH CX X E) (ha : PA X (e :: es) t)
    (hst : starEach (e :: es) X.env = (false, eval e X.env) :: starEach es X.env := by rfl) (hpl : (backTo pos (starEach es X.env)).any (·.1) = false := by rfl)
    (ht : eval (.Call (.Attribute o m apos) (e :: es) [] pos) X.env = (do
      let ov <- eval o X.env
      standAt apos.atName
      let (f, first) <- holding [ov] (getMethod ov m pl)
      callWith pos f first (backTo pos (starEach (e :: es) X.env)) (backToKw pos (keywordEach [] X.env))) := by rfl) :
    PE X (.Call (.Attribute o m apos) (e :: es) [] pos) (Om C m sp dvs E ta t) := by
  intro pins s σ H Q I h;refine PySem.W.methodCall_KW (pl := pl) (iK (he pins s σ H _ I h) λu s1 ⟨x, H1, I1, rx, a, dx, fs, ex, ea, l, q⟩ => ?_) ht;subst ex;obtain rfl : u = Value.ref a := rx;refine Gv I1 ea c hm l ?_;refine FF (first := [.ref a]) (h₀ := X.base) I.ok.mod.kin hm.kp (iK (ha pos pins s1 σ H1 _ I1 q) λus s2 ⟨vs, H2, I2, r, q2⟩ => ⟨I2.kIn, ?_⟩) hst hpl;exact Kq (us := .ref a :: us) (vs := .ref a :: vs) F hr hb hd hx I2 (.cons rfl r) q2
structure Mk (K:FG9) (C f:Addr):Prop where
 makes:PySem.W.makesIn K C=true
 init:PySem.W.findIn K (.ref C) "__init__"=some (some (.ref f))
 fn:PySem.W.isFn K (.ref f)=true
 kp:PySem.W.keepIn K (.ref C)=true
theorem Kp {σ:St} (M:Mk X.K C f) (F:cO X.prog X.w X.K X.mg X.base CX k f fd ps sp) (hr:lK (k+1) X.A) (hb:Binds X.K fd ps ds) (hd:cZ dvs ds)
  (hx:xH CX X E) (I:Inv X pins σ H s) (r:cZ vs us)
  (h:∀x dx,H x=none->H dx=none->dx≠x->sp (.ref x :: (vs++dvs)) (upd (upd H dx (.own x)) x (.ins C dx [])) (λv H2=>v=.non/\Q (.ref x) H2) E) :
  wpAny (model X.prog X.w) X.A (call (.ref C) us) (EP X pins σ Q) X.xe s:=by
 have hq:=h (s.heap.objs.size+1) s.heap.objs.size (I.hok.fresh (Ck _)) (I.hok.fresh (ar _)) (cL (jn _));have I2:=Inv.made (C:=C) I;have r2:cZ (V.ref (s.heap.objs.size+1) :: (vs++dvs)) (Value.ref (s.heap.objs.size+1) :: (us++ds)):=.cons rfl (r.append hd)
 have hl:(Value.ref (s.heap.objs.size+1) :: us++ds).length=ps.length:=by
  have e:=r2.length;rw[F.len _ _ _ _ hq] at e;exact e.symm
 refine wpAny_call (K6 (f:=f) I.kIn M.makes M.init (beq_iff_eq.mp M.fn) (codeAny_mono (F.run _ X.stack _ _ ⟨Value.ref (s.heap.objs.size+1) :: us,[]⟩ (Value.ref (s.heap.objs.size+1) :: (us++ds)) _ _ E (hr.make C us [])
  (I2.env0.make C us []) (hb _ (Value.ref (s.heap.objs.size+1) :: us) I2.kIn hl) r2 hq) λr s' hq'=>?_))
 cases r with
 | error e=>exact hx pins σ _ _ e s' I2 hq'
 | ok fl =>
  cases fl with
  | ret u =>
   obtain ⟨v,H',I3,rv,ev,q3⟩:=I2.after hq';subst ev;exact ⟨rv,⟨V.ref (s.heap.objs.size+1),H',I3,rfl,q3⟩⟩
  | next=>exact False.elim hq'
  | brk=>exact False.elim hq'
  | cont=>exact False.elim hq'
theorem HX (M:Mk X.K C f) (F:cO X.prog X.w X.K X.mg X.base CX k f fd ps sp) (hr:lK (k+1) X.A) (hg:Gl X x) (hm:X.mg x=some (.ref C)) (hb:Binds X.K fd ps ds) (hd:cZ dvs ds) (hx:xH CX X E)
  (ha:PA X (e :: es) t) (hdb:(x == ("__debug__":Str))=false:=by decide) (he:starEach (e :: es) X.env=(false,eval e X.env) :: starEach es X.env:=by rfl) (hpl:(backTo pos (starEach es X.env)).any (·.1)=false:=by rfl) :
  PE X (.Call (.Name x p) (e :: es) [] pos) (Oo C sp dvs E t):=by
 intro pins s σ H Q I h;refine wpAny_Call_Name_kw (Dx I hg hm ?_ hdb);refine FF (h₀:=X.base) I.ok.mod.kin M.kp (iK (ha pos pins s σ H _ I h) λus s1 ⟨vs,H1,I1,r,q⟩=>⟨I1.kIn,?_⟩) he hpl;exact Kp M F hr hb hd hx I1 r q
end
structure a7 (N P:List Str) (sc:Scope):Prop where
 kind:sc.kind=.function
 co:sc.isCoroutine=false
 gen:sc.isGenerator=false
 nd:N.Nodup
 pre:N.take P.length=P
 par:∀x∈P,sc.names.lookup x=some .local\/sc.names.lookup x=some .cell
 nofree:∀y∈sc.names,y.2≠.free
theorem BW {kindOf:Str->Option NameKind} {x:Str}:∀{binds:List (Str×Value)} {m:Str->Option Value},(∀v,(x,v)∉binds)->bindL kindOf binds m x=m x
 | [],_,_=>rfl
 | (n,v) :: r,m,h=>by
  unfold bindL;rw[BW λw hw=>h w (bM _ hw)]
  split
  ·have:x≠n:=by rintro rfl;exact h v dc
   simp [this]
  ·rfl
theorem BY {kindOf:Str->Option NameKind} {x:Str}:∀{binds:List (Str×Value)} {m:Str->Option Value},(∀v,(x,v)∉binds)->bindC kindOf binds m x=m x
 | [],_,_=>rfl
 | (n,v) :: r,m,h=>by
  unfold bindC;rw[BY λw hw=>h w (bM _ hw)]
  split
  ·rfl
  ·have:x≠n:=by rintro rfl;exact h v dc
   simp [this]
theorem BX {kindOf:Str->Option NameKind} {x:Str} {v:Value}:∀{P:List Str} {vs:List Value} {i:Nat} {m:Str->Option Value},P.Nodup->P[i]?=some x->vs[i]?=some v->kindOf x=some .local →
  bindL kindOf (P.zip vs) m x=some v
 | [],_,_,_,_,h,_,_=>by simp at h
 | _ :: _,[],_,_,_,_,h,_=>by simp at h
 | p :: P,w :: vs,0,m,nd,h1,h2,hk=>by
  simp at h1 h2;subst h1;subst h2;show bindL kindOf ((p,w) :: P.zip vs) m p=_
  unfold bindL;rw[BW λv hv=>(dG.mp nd).1 (Mq hv).1,if_pos hk];simp
 | p :: P,w :: vs,i+1,m,nd,h1,h2,hk=>by
  show bindL kindOf ((p,w) :: P.zip vs) m x=_
  unfold bindL;exact BX (i:=i) (dG.mp nd).2 (by simpa using h1) (by simpa using h2) hk
theorem BZ {kindOf:Str->Option NameKind} {x:Str} {v:Value}:∀{P:List Str} {vs:List Value} {i:Nat} {m:Str->Option Value},P.Nodup->P[i]?=some x->vs[i]?=some v->kindOf x≠some .local →
  bindC kindOf (P.zip vs) m x=some v
 | [],_,_,_,_,h,_,_=>by simp at h
 | _ :: _,[],_,_,_,_,h,_=>by simp at h
 | p :: P,w :: vs,0,m,nd,h1,h2,hk=>by
  simp at h1 h2;subst h1;subst h2;show bindC kindOf ((p,w) :: P.zip vs) m p=_
  unfold bindC;rw[BY λv hv=>(dG.mp nd).1 (Mq hv).1,if_neg hk];simp
 | p :: P,w :: vs,i+1,m,nd,h1,h2,hk=>by
  show bindC kindOf ((p,w) :: P.zip vs) m x=_
  unfold bindC;exact BZ (i:=i) (dG.mp nd).2 (by simpa using h1) (by simpa using h2) hk
def start (N:List Str) (vs:List V):St:=vs.map some++List.replicate (N.length - vs.length) none
def JC (CX:Mj) (P:Program) (w:World) (K:FG9) (mg:Str->Option Value) (base:Heap) (N:List Str) (qual:Str) (scope:Scope) (f:Addr) (cd:Value) (A:Around) (outer:List Env) (s:Shared) (H:Hp) (E:XK):Cx where
 prog:=P
 w:=w
 K:=K
 mg:=mg
 base:=base
 A:=A.deeper (envOfC qual scope s.heap.objs.size f cd)
 N:=N
 s₀:=s
 H₀:=H
 env:=envOfC qual scope s.heap.objs.size f cd
 outer:=outer
 stack:=envOfC qual scope s.heap.objs.size f cd :: outer
 ex:=[]
 calm:=true
 fn:=λ_=>true
 pn:=[]
 xe:=λe s'=>wpAny (model P w) (A.deeper (envOfC qual scope s.heap.objs.size f cd)) (leaving (envOfC qual scope s.heap.objs.size f cd) e) (λ_ s''=>CX outer H s E e s'') (λe' s''=>CX outer H s E e' s'') s'
theorem Fe {sc:Scope} (h:sc.names.lookup x=some .cell):∃c,(cellsFrom n sc.names []).lookup x=some c:=by
 have q:=zg sc.names n [] (.inl h);exact Q7.mp q
theorem Jv {K:FG9} 
  (S:a7 N ps scope) (hd:A.handled=none) (e0:GY P w K mg base A outer s H) (hl:vs.length=ps.length) (r:cZ vs us)
  (x:InCallC s s.heap.objs.size (bindL (envOfC qual scope s.heap.objs.size f cd).kindOf (ps.zip us) λ_=>none) (cellsFrom (s.heap.objs.size+1) scope.names []) (bindC (envOfC qual scope s.heap.objs.size f cd).kindOf (ps.zip us) λ_=>none) s1) :
  Inv (JC CX P w K mg base N qual scope f cd A outer s H E) [] (start N vs) H s1:=by
 have hpl:ps.length<=N.length:=by have:=congrArg List.length S.pre;rw[cW] at this;lia
 obtain ⟨h1,tk,rfl,hk⟩:=x.done;have noA:∀b:Addr,b∉(JC CX P w K mg base N qual scope f cd A outer s H E).ex:=λb z=>absurd (show b∈([]:List Addr) from z) (by simp)
 refine ⟨⟨e0.mod,S.kind,rfl,rfl,ar _,λy z c h1 h2=>?_,λy hy=>?_,λy c _ h=>?_,λ_=>hd,Around.frames_deeper e0.frames,.inr ⟨rfl,rfl⟩,λb z=>absurd z (noA b),e0.bs,e0.bsz,λb _ _=>noA b,λb z=>absurd z (noA b),e0.funs,e0.frf⟩,
  rfl,e0.bare,Un.kept hk,⟨_,x.toInCall.ns,λi y v h1 h2 h3=>?_⟩,λy c h=>⟨_,x.cell y c h⟩,e0.hok.fresh (ar _),λy c h=>?_,λp hp=>absurd (show p∈([]:List (Addr×Obj)) from hp) (by simp),e0.hok.kept hk,?_⟩
 ·exact name_of_addr x.apart (lP h1) (lP h2)
 ·have hy:scope.names.lookup y=some .cell\/scope.names.lookup y=some .free:=hy;rcases hy with hy | hy
  ·exact Fe hy
  ·exact absurd rfl (S.nofree _ (lP hy))
 ·exact aO (x.above y c (lP h))
 ·have hi:i < vs.length:=by
   unfold start at h2;by_cases hi:i < vs.length
   ·exact hi
   ·rw[fF (by simpa using hi)] at h2;rw[mY] at h2
    split at h2 <;> cases h2
  have ha:vs[i]?=some v:=by
   unfold start at h2;rw[fP (by simpa using hi),ay] at h2;cases e:vs[i]? with
   | none=>rw[e] at h2;cases h2
   | some a=>rw[e] at h2;cases h2;rfl
  obtain ⟨u,hu,rv⟩:=r.get ha
  have hp:ps[i]?=some y:=by
   rw[<- S.pre,Q9 (by lia)];exact h1
  have ndP:ps.Nodup:=by rw[<- S.pre];exact S.nd.sublist (List.take_sublist _ _)
  refine ⟨u,rv,?_⟩;rcases S.par y (ao hp) with k | k
  ·exact .inl ⟨k,BX ndP hp hu k⟩
  ·obtain ⟨c,e⟩:=Fe (n:=s.heap.objs.size+1) k;refine .inr ⟨.inl k,c,e,?_⟩;have q:=x.cell y c e;rw[BZ ndP hp hu (by show scope.names.lookup y≠_;rw[k];decide)] at q;exact q
 ·exact e0.hok.fresh (aO (x.above y c (lP h)))
 ·unfold start;show _=N.length
  rw[aF,ag,dU]
  lia
theorem Sx {K:FG9} {dV kV doc pm cdv ct oc:Value} 
 (lk:K.lookup f=some ⟨oc,od,.func (PySem.W.fnOf name qual params body scope dV kV doc pm an cdv ct),osl⟩) (hcd:PySem.W.codeIn K cdv qual=true) (S:a7 N ps scope)
  (len:∀vs H Q E,sp vs H Q E->vs.length=ps.length)
  (hbody:∀(A:Around) (outer:List Env) (s:Shared) (H:Hp) (vs:List V) (Q:VK) (E:XK),lK k (A.deeper (envOfC qual scope s.heap.objs.size f cdv))->sp vs H Q E →
   ∃t,GQ (JC CX P w K mg base N qual scope f cdv A outer s H E) body t/\t { nx:=λ_ H'=>Q .non H',rt:=Q } (start N vs) H) :
  cO P w K mg base CX (k+1) f (PySem.W.fnOf name qual params body scope dV kV doc pm an cdv ct) ps sp:=by
 refine ⟨len,λA outer s H args us vs Q E hr e0 hb r hsp=>?_⟩;have hl:=len _ _ _ _ hsp;have KX:K.In s.heap:=e0.mod.kin.keeps λb o e=>(e0.bs b o e).1
 have lim:s.heap.NoLimit:=e0.mod.nolimit.keeps λb o e=>(e0.bs b o e).1
 have hkind:∀y∈ps.zip us,scope.names.lookup y.1=some .local\/(scope.names.lookup y.1=some .cell/\((cellsFrom (s.heap.objs.size+1) scope.names []).lookup y.1).isSome=true):=λ⟨n,v⟩ hy=>by
  rcases S.par n (Mq hy).1 with q | q
  ·exact .inl q
  ·exact .inr ⟨q,zg _ _ _ (.inl q)⟩
 refine codeAny_call_function hr.depth (KX _ _ lk) rfl S.co S.gen rfl (PySem.W.codeRec_of KX hcd) (hb _ _ _ _ ?_);refine wpAny_newFunctionEnv_cells S.kind hkind λenv he s1 x=>?_
 subst he;refine ⟨lim.keeps x.toInCall.keep,codeAny_func ?_⟩;obtain ⟨t,ht,hq⟩:=hbody A outer s H vs Q E (hr.deeper _) hsp;have I:Inv (JC CX P w K mg base N qual scope f cdv A outer s H E) [] (start N vs) H s1:=Jv S hr.hd e0 hl r x;refine wpAny_mono (ht [] s1 (start N vs) H _ I hq) (λfl s' hs=>?_) λe s' hs=>hs
 have fin:∀{σ':St} {H':Hp} {v:V} {u:Value},Inv (JC CX P w K mg base N qual scope f cdv A outer s H E) [] σ' H' s'->RelV v u->Q v H'->CE outer P w H s Q u s' :=
  λ{σ' H' v u} J rv q=>⟨v,H',J.os,J.bare,J.base,J.hok,rv,q⟩
 cases fl with
 | ret u =>
  obtain ⟨v,σ',H',J,rv,q⟩:=hs;exact fin J rv q
 | next =>
  obtain ⟨σ',H',J,q⟩:=hs;exact fin (v:=V.non) (u:=Value.none) J rfl q
 | brk =>
  obtain ⟨_,_,_,q⟩:=hs;exact False.elim q
 | cont =>
  obtain ⟨_,_,_,q⟩:=hs;exact False.elim q
section
variable {X:Cx} {x:Str} {p pos:Pos} {e:Expr} {es:List Expr} {t:TA} {id T:String} {r:List V->Hp->VK->Prop}
def Td (r:List V->Hp->VK->Prop) (t:TA):TE:=λσ H Q=>t σ H λvs H1=>r vs H1 Q
theorem bG (hc:qM X (.builtin id) r) (hg:Gl X x) (hm:X.mg x=none) (hv:bootBuiltins x=some (.builtin id)) (ha:PA X (e :: es) t) (hn:x≠"__name__":=by decide) (hdb:(x == ("__debug__":Str))=false:=by decide)
  (he:starEach (e :: es) X.env=(false,eval e X.env) :: starEach es X.env:=by rfl) (hpl:(backTo pos (starEach es X.env)).any (·.1)=false:=by rfl):PE X (.Call (.Name x p) (e :: es) [] pos) (Td r t):=by
 intro pins s σ H Q I h;refine wpAny_Call_Name_kw (oC I hg hm hv ?_ hn hdb);exact PyProof.Rows.callWith_builtin1 (iK (ha pos pins s σ H _ I h) λus s1 ⟨vs,H1,I1,r1,q1⟩=>hc pins s1 σ H1 vs us Q I1 r1 q1) he hpl
theorem fv (hc:qM X (.type T) r) (hg:Gl X x) (hm:X.mg x=none) (hv:bootBuiltins x=some (.type T)) (ha:PA X (e :: es) t) (hn:x≠"__name__":=by decide) (hdb:(x == ("__debug__":Str))=false:=by decide)
  (he:starEach (e :: es) X.env=(false,eval e X.env) :: starEach es X.env:=by rfl) (hpl:(backTo pos (starEach es X.env)).any (·.1)=false:=by rfl):PE X (.Call (.Name x p) (e :: es) [] pos) (Td r t):=by
 intro pins s σ H Q I h;refine wpAny_Call_Name_kw (oC I hg hm hv ?_ hn hdb);exact PyProof.Rows.callWith_type1 (iK (ha pos pins s σ H _ I h) λus s1 ⟨vs,H1,I1,r1,q1⟩=>hc pins s1 σ H1 vs us Q I1 r1 q1) he hpl
end
end L2
namespace HT
open PySem PyProof.Rows
section
open PySem.SeqAt
open PySem.AutoSeq1 (wpAny_loadPart')
open PySem.MeetsSeq PySem.MeetsSeq2 PySem.MeetsSeq3
end
section
variable {prog:Program} {w:World} {A:Around} {E:Value->Shared->Prop} {s:Shared}
def CY (n d:Nat):Option Int->Nat
 | none=>d
 | some v=>if v < 0 then (v+(n:Int)).toNat else min v.toNat n
theorem rN (n d:Nat):CY n d none=d:=rfl
theorem CV (n d k:Nat):CY n d (some (k:Int))=min k n:=by
 show (if (k:Int) < 0 then ((k:Int)+(n:Int)).toNat else min (k:Int).toNat n)=min k n
 rw[if_neg (by lia),Int.toNat_natCast]
end
end HT
namespace L2
open PySem PySem.Spec PyProof.Rows
abbrev TO:=St->Hp->(Option Int->Hp->Prop)->Prop
def PO (X:Cx) (e:Option Expr) (t:TO):Prop :=
 ∀(pins:List (Addr×Obj)) (s:Shared) (σ:St) (H:Hp) (Q:Option Int->Hp->Prop),Inv X pins σ H s->t σ H Q →
  wpAny (model X.prog X.w) X.A (evalPart e X.env) (λu s'=>∃o H',Inv X pins σ H' s'/\IsPart u o/\Q o H') X.xe s
def Ho:TO:=λ_ H Q=>Q none H
def Oi (t:TE):TO:=λσ H Q=>t σ H λx H1=>∃i,x=.int i/\Q (some i) H1
theorem intsAre_of:∀{us:List Value},cZ (ns.map V.int) us->IntsAre us ns:=by
 induction ns with
 | nil=>intro us r;rw[List.map_nil] at r;cases r;exact .nil
 | cons n ns ih =>
  intro us r;rw[lV] at r;cases r with
  | cons r1 r2 =>
   obtain ⟨t,e⟩:=r1;subst e;exact .cons n t (ih r2)
section
variable {X:Cx} {e:Expr} {te:TE} {lo hi:Option Expr} {tl th:TO} {pos p2:Pos}
theorem sW:PO X none Ho:=by
 intro pins s σ H Q I h;rw[evalPart_none];exact wpAny_pure ⟨none,H,I,.none,h⟩
theorem sV (h:PE X e te):PO X (some e) (Oi te):=by
 intro pins s σ H Q I hw;rw[evalPart_some];refine iK (h pins s σ H _ I hw) λu s1 ⟨x,H1,I1,r1,q1⟩=>?_
 obtain ⟨i,rfl,q⟩:=q1;obtain ⟨t,rfl⟩:=r1;exact ⟨some i,H1,I1,.int i t,q⟩
def TB (X:Cx) (r:V->Option Int->Option Int->Hp->VK->Prop):Prop :=
 ∀(pins:List (Addr×Obj)) (s:Shared) (σ:St) (H:Hp) (x:V) (v vl vu:Value) (lo hi:Option Int) (sl:Addr) (Q:VK),Inv X pins σ H s->RelV x v->s.heap.IsSliceOf sl vl vu .none->IsPart vl lo->IsPart vu hi->r x lo hi H Q →
  ∃T id,typeLookup (.type T) "__getitem__"=pure (some (.builtin id))/\s.TypeIs v T/\wpAny (model X.prog X.w) X.A (getItem v (.ref sl)) (EP X pins σ Q) X.xe s
def tSl (r:V->Option Int->Option Int->Hp->VK->Prop) (te:TE) (tl th:TO):TE:=λσ H Q=>te σ H λx H1=>tl σ H1 λl H2=>th σ H2 λu H3=>r x l u H3 Q
theorem oS (hr:TB X r) (he:PE X e te) (hl:PO X lo tl) (hu:PO X hi th):PE X (.Subscript e (.Slice lo hi none p2) pos) (tSl r te tl th):=by
 intro pins s σ H Q I h;refine Subscript_ (iK (he pins s σ H _ I h) λv s1 ⟨x,H1,I1,r1,q1⟩=>?_);refine wpAny_Slice (iK (hl pins s1 σ H1 _ I1 q1) λvl s2 ⟨l,H2,I2,pl,q2⟩=>iK (hu pins s2 σ H2 _ I2 q2) λvu s3 ⟨u,H3,I3,pu,q3⟩=>?_);rw[evalPart_none];refine wpAny_pure ?_;have I4:Inv X pins σ H3 { s3 with heap:=s3.heap.push { cls:=.type "slice",data:=.fields #[vl,vu,.none] } }:=I3.kept (t':=s3.toks) λb ob q=>Heap.get?_push_of_some _ q
 obtain ⟨T,id,hT,ht,hg⟩:=hr pins { s3 with heap:=s3.heap.push { cls:=.type "slice",data:=.fields #[vl,vu,.none] } } σ H3 x v vl vu l u s3.heap.objs.size Q I4 r1 (Heap.IsSliceOf.new ..) pl pu q3;show wpAny (model X.prog X.w) X.A (subscriptTail e (.Slice lo hi none p2) v (.ref s3.heap.objs.size)) (EP X pins σ Q) X.xe { s3 with heap:=s3.heap.push { cls:=.type "slice",data:=.fields #[vl,vu,.none] } }
 exact tail_any (ops:=[.ref s3.heap.objs.size,v]) ht hT hg (by with_unfolding_all rfl)
def o3 (xs:List V) (lo hi:Option Int):List V:=(xs.drop (HT.CY xs.length 0 lo)).take (HT.CY xs.length xs.length hi - HT.CY xs.length 0 lo)
theorem yr (xs:List V) (lo hi:Option Int):(o3 xs lo hi).length<=xs.length:=by
 unfold o3;rw[cW,eI]
 lia
end
def JO (n:Nat) (i:Int):Option Nat:=if 0<=i then (if i < n then some i.toNat else none) else if -(n:Int)<=i then some (i+n).toNat else none
def GG {α:Type} (xs:List α) (i:Int):Option α:=(JO xs.length i).bind λj=>xs[j]?
theorem Io (h:JO n i=some j):seqIndex? i n=some j/\j < n/\-(n:Int)<=i/\i < n:=by
 unfold JO at h;by_cases h0:0<=i
 ·rw[if_pos h0] at h;by_cases h1:i < n
  ·rw[if_pos h1] at h;have e:i.toNat=j:=b6 h;exact ⟨by rw[seqIndex_of h0 h1,e],by lia,by lia,h1⟩
  ·rw[if_neg h1] at h;cases h
 ·rw[if_neg h0] at h;by_cases h1:-(n:Int)<=i
  ·rw[if_pos h1] at h;have e:(i+n).toNat=j:=b6 h;exact ⟨by rw[seqIndex_neg (by lia) h1,e],by lia,h1,by lia⟩
  ·rw[if_neg h1] at h;cases h
theorem DQ {xs:List α} {v:α} (h:GG xs i=some v):∃j,seqIndex? i xs.length=some j/\xs[j]?=some v/\j < xs.length/\-(xs.length:Int)<=i/\i < xs.length:=by
 unfold GG at h;cases e:JO xs.length i with
 | none=>rw[e] at h;cases h
 | some j =>
  rw[e] at h;obtain ⟨h1,h2,h3,h4⟩:=Io e;exact ⟨j,h1,h,h2,h3,h4⟩
theorem gF {xs:List α} {j:Nat} {v:α} (h:xs[j]?=some v):GG xs (j:Int)=some v:=by
 have hj:j < xs.length:=(aU.mp h).1
 have e:JO xs.length (j:Int)=some j:=by
  unfold JO;rw[if_pos (by lia),if_pos (by lia)];simp
 unfold GG;rw[e];exact h
theorem Az (xs:List α) (v:α):GG (xs++[v]) (-1)=some v:=by
 have hl:(xs++[v]).length=xs.length+1:=by simp
 have e:JO (xs++[v]).length (-1)=some xs.length:=by
  unfold JO;rw[hl,if_neg (by decide),if_pos (by lia)];congr 1
  lia
 unfold GG;rw[e];show (xs++[v])[xs.length]?=some v
 simp
def Oc (b:Expr):Prop:=∀o i,subscripted b false o i=operate [o,i] (getItem o i)
def SU (X:Cx) (r:R2):Prop :=
 ∀(value slice:Expr) (pins:List (Addr×Obj)) (s:Shared) (σ:St) (H:Hp) (x y:V) (v u:Value) (Q:VK),Inv X pins σ H s->RelV x v->RelV y u->r x y H Q →
  subscripted slice false v u=operate [v,u] (getItem v u)->wpAny (model X.prog X.w) X.A (subscriptTail value slice v u) (EP X pins σ Q) X.xe s
def MtR (X:Cx) (id:String) (r:V->List V->Hp->VK->Prop):Prop :=
 ∀(pins:List (Addr×Obj)) (s:Shared) (σ:St) (H:Hp) (x:V) (xs:List V) (v:Value) (us:List Value) (Q:VK),Inv X pins σ H s->RelV x v->cZ xs us->r x xs H Q →
  wpAny (model X.prog X.w) X.A (call (.builtin id) (v :: us)) (EP X pins σ Q) X.xe s
section
variable {X:Cx} {a b:Expr} {ta tb:TE} {pos:Pos}
theorem aT {r:R2} (hr:SU X r) (ha:PE X a ta) (hb:PE X b tb) (hs:Oc b:=by intro _ _;rfl):PE X (.Subscript a b pos) (Rw r ta tb):=by
 intro pins s σ H Q I h;exact Subscript_ (QF ha hb I h λv u s2 x y H2 I2 rx ry q=>hr a b pins s2 σ H2 x y v u Q I2 rx ry q (hs _ _))
def PZ (K:FG9):R2:=λx y H Q=>∃p xs i v,x=.ref p/\y=.int i/\bK K H p xs/\GG xs i=some v/\Q v H
def PY (K:FG9):R2:=λx y H Q=>∃p xs i v,x=.ref p/\y=.int i/\uR K H p xs/\GG xs i=some v/\Q v H
theorem bw:SU X (PZ X.K):=by
 intro value slice pins s σ H x y v u Q I rx ry h hs;obtain ⟨p,xs,i,z,rfl,rfl,hq,he,q⟩:=h;cases rx;obtain ⟨t,rfl⟩:=ry;obtain ⟨its,r,pl,hz⟩:=I.list hq;obtain ⟨j,h1,h2,h3,h4,h5⟩:=DQ he;obtain ⟨w,ew,rw'⟩:=r.get h2;have hl:=r.length;have hn:=Aa;have fin:EP X pins σ Q w s:=⟨z,H,I,rw',q⟩;by_cases h0:0<=i
 ·have hj:i.toNat=j:=by
   rw[seqIndex_of h0 h5] at h1;exact b6 h1
  exact item_listR pl.isList h0 (by lia) (by rw[hj];simpa using ew) fin hs
 ·have hj:(i+(its.toArray.size:Int)).toNat=j:=by
   rw[seqIndex_neg (by lia) h4] at h1;rw[aX,<- hl];exact b6 h1
  exact subscriptTail_builtinR (x:=w) pl.isList.typeIs slot_list_getitem.lookup
   (wpAny_getItem_list_neg (Q:=λr s'=>r=w/\EP X pins σ Q r s') pl.isList (by lia) (by rw[aX] <;> lia) (by lia) (by rw[hj];simpa using ew) ⟨rfl,fin⟩) hs
theorem bJ:SU X (PY X.K):=by
 intro value slice pins s σ H x y v u Q I rx ry h hs;obtain ⟨p,xs,i,z,rfl,rfl,hq,he,q⟩:=h;cases rx;obtain ⟨t,rfl⟩:=ry;obtain ⟨its,r,pl,hz⟩:=I.tuple hq;obtain ⟨j,h1,h2,h3,h4,h5⟩:=DQ he;obtain ⟨w,ew,rw'⟩:=r.get h2;have hl:=r.length;have hn:=Aa;have fin:EP X pins σ Q w s:=⟨z,H,I,rw',q⟩
 exact subscriptTail_builtinR (x:=w) pl.typeIs slot_tuple_getitem.lookup
  (getItem_tuple (j:=j) (Q:=λr s'=>r=w/\EP X pins σ Q r s') pl (by lia) (by lia) (by rw[aX,<- hl];exact h1) (by simpa using ew) ⟨rfl,fin⟩) hs
theorem Gf (its:List Value) (n j:Nat) (u:Value):Obj.mapSeq (·.setIfInBounds j u) { cls:=.type "list",data:=.seq its.toArray n }={ cls:=.type "list",data:=.seq (its.set j u).toArray n }:=by
 simp [Obj.mapSeq]
theorem Inv.lst {pins:List (Addr×Obj)} {σ:St} {H:Hp} {s:Shared} {p:Addr} {xs:List V} (I:Inv X pins σ H s) (h:H p=some (.lst xs)) :
  ∃(its:List Value) (n:Nat),cZ xs its/\s.heap.get? p=some { cls:=.type "list",data:=.seq its.toArray n }/\xs.length<=sizeLine:=by
 obtain ⟨z,its,n,r,e⟩:=I.hok p _ h;exact ⟨its,n,r,e,z⟩
theorem Inv.lstUpd {σ:St} {its its':List Value} (I:Inv X pins σ H s) (h:H p=some (.lst xs))
  (ho:s.heap.get? p=some { cls:=.type "list",data:=.seq its.toArray n }) (hf:f { cls:=.type "list",data:=.seq its.toArray n }={ cls:=.type "list",data:=.seq its'.toArray n' }) (r:cZ ys its') (hz:ys.length<=sizeLine) (t:Nat) :
  Inv X pins σ (upd H p (.lst ys)) { s with heap:=s.heap.update p f,toks:=t }:=by
 have e:(s.heap.update p f).get? p=some { cls:=.type "list",data:=.seq its'.toArray n' }:=by
  rw[Heap.get?_update_self f ho (by rw[hf] <;> rfl),hf]
 refine I.write (x:=p) (e:=p) (by rw[h];trivial) (.inl rfl) (λb u hb q=>(Heap.get?_update_other _ _ (Ne.symm hb)).trans q) ⟨_,e⟩ ?_;exact ⟨hz,its',n',r,e⟩
def Ox:V->V->V->Hp->(Hp->Prop)->Prop:=λo i v H Q=>∃p xs k j,o=.ref p/\i=.int k/\H p=some (.lst xs)/\JO xs.length k=some j/\Q (upd H p (.lst (xs.set j v)))
theorem set_list:QM X Ox:=by
 intro pins s σ H o i v ov iv u Q I ro ri rv h;obtain ⟨p,xs,k,j,rfl,rfl,hp,hj,q⟩:=h;cases ro;obtain ⟨t,rfl⟩:=ri;obtain ⟨its,n,r,ho,hz⟩:=I.lst hp;obtain ⟨h1,h2,h3,h4⟩:=Io hj;have hl:=r.length;have hn:=Aa
 have I':Inv X pins σ (upd H p (.lst (xs.set j v))) { s with heap:=s.heap.update p (Obj.mapSeq (·.setIfInBounds j u)) } :=
  I.lstUpd hp ho (Gf its n j u) (r.set rv j) (by rw[jP];exact hz) s.toks
 by_cases h0:0<=k
 ·have hk:k.toNat=j:=by
   rw[seqIndex_of h0 h4] at h1;exact b6 h1
  exact PySem.W.ki_setAt ho h0 (by lia) (by rw[aX,<- hl];exact h4) (by rw[hk];exact ⟨_,I',q⟩)
 ·have hk:(k+(its.toArray.size:Int)).toNat=j:=by
   rw[seqIndex_neg (by lia) h3] at h1;rw[aX,<- hl];exact b6 h1
  exact PySem.W.ki_setBack ho (by lia) (by rw[aX,<- hl];exact h3) (by lia) (by rw[hk];exact ⟨_,I',q⟩)
theorem CD (lo hi:Option Int) (n:Nat):(sliceBounds lo hi none n).1=((HT.CY n 0 lo:Nat):Int)/\(sliceBounds lo hi none n).2.1=((HT.CY n n hi:Nat):Int)/\(sliceBounds lo hi none n).2.2=1:=by
 refine ⟨?_,?_,rfl⟩
 ·cases lo with
  | none=>simp [sliceBounds,HT.CY]
  | some i =>
   simp only[sliceBounds,HT.CY,Option.getD_none,show (1:Int) > 0 by decide,if_true];by_cases h:i < 0
   ·simp only[h,if_true] <;> lia
   ·simp only[h,if_false] <;> lia
 ·cases hi with
  | none=>simp [sliceBounds,HT.CY]
  | some i =>
   simp only[sliceBounds,HT.CY,Option.getD_none,show (1:Int) > 0 by decide,if_true];by_cases h:i < 0
   ·simp only[h,if_true] <;> lia
   ·simp only[h,if_false] <;> lia
theorem AX (its:List Value) (lo hi:Option Int):slicePick its.toArray lo hi none=((its.drop (HT.CY its.length 0 lo)).take (HT.CY its.length its.length hi - HT.CY its.length 0 lo)).toArray:=by
 obtain ⟨h1,h2,h3⟩:=CD lo hi its.toArray.size;unfold slicePick;rw[h1,h2,h3];simp only[sliceRange_one,pick_run,aX] <;> rfl
def PX (K:FG9):V->Option Int->Option Int->Hp->VK->Prop:=λx lo hi H Q=>∃a xs,x=.ref a/\bK K H a xs/\∀p,H p=none->Q (.ref p) (upd H p (.lst (o3 xs lo hi)))
theorem sU:TB X (PX X.K):=by
 intro pins s σ H x v vl vu lo hi sl Q I rx hs pl pu h;obtain ⟨a,xs,rfl,hx,q⟩:=h;cases rx;obtain ⟨its,r,ht,hz⟩:=I.list hx;have hlen:=r.length;refine ⟨"list",_,slot_list_getitem.lookup,ht.isList.typeIs,?_⟩;refine wpAny_getItem_list_slice ht.isList hs pl pu .none (by simp) ?_ (by rw[aX] <;> lia);rw[AX,<- hlen];refine ⟨.ref s.heap.objs.size,_,I.laid (t':=s.toks) (o:=.lst (o3 xs lo hi)) (λb ob q=>Heap.get?_push_of_some _ q) (ar _) ?_,rfl,q _ (I.hok.fresh (ar _))⟩;exact ⟨ak (yr xs lo hi) hz,_,0,(r.drop (HT.CY xs.length 0 lo)).take (HT.CY xs.length xs.length hi - HT.CY xs.length 0 lo),Heap.get?_push_size _ rfl⟩
theorem bx:qM X (.builtin "len") (λxs H Q=>∃p ys,xs=[.ref p]/\(bK X.K H p ys\/uR X.K H p ys)/\Q (.int ys.length) H):=by
 intro pins s σ H xs us Q I r h;obtain ⟨p,ys,rfl,hq,q⟩:=h;obtain ⟨u,rfl,rx⟩:=vals1 r;cases rx;have hn:=Aa;rcases hq with hq | hq
 ·obtain ⟨its,r',pl,hz⟩:=I.list hq;have hlen:=r'.length;exact Calls.call_len_list pl.isList (by simp only[aX] <;> lia) ⟨.int ys.length,H,I.tok _,⟨s.toks+1,by rw[aX,hlen]⟩,q⟩
 ·obtain ⟨its,r',pl,hz⟩:=I.tuple hq;have hlen:=r'.length;exact len_tuple pl (by simp only[aX] <;> lia) ⟨.int ys.length,H,I.tok _,⟨s.toks+1,by rw[aX,hlen]⟩,q⟩
theorem gM:qM X (.type "list") (λxs H Q=>∃p ys,xs=[.ref p]/\(bK X.K H p ys\/uR X.K H p ys)/\∀l,H l=none->Q (.ref l) (upd H l (.lst ys))):=by
 intro pins s σ H xs us Q I r h;obtain ⟨p,ys,rfl,hq,q⟩:=h;obtain ⟨u,rfl,rx⟩:=vals1 r;cases rx
 have fin:∀(its:List Value),cZ ys its->ys.length<=sizeLine->∀(h':Heap) (c':Nat),(∀b o',s.heap.get? b=some o'->h'.get? b=some o') →
   h'.get? s.heap.objs.size=some { cls:=.type "list",dict:=none,data:=.seq its.toArray c',slots:=#[] }->EP X pins σ Q (.ref s.heap.objs.size) { s with heap:=h' }:=λits r' hz h' c' kp e =>
  ⟨.ref s.heap.objs.size,_,I.laid (t':=s.toks) kp (ar _) (show jN X.prog X.w _ h' _ (.lst ys) from ⟨hz,its,c',r',e⟩),rfl,q _ (I.hok.fresh (ar _))⟩
 rcases hq with hq | hq
 ·obtain ⟨its,r',pl,hz⟩:=I.list hq;have hlen:=r'.length;obtain ⟨o,ho,hc,n,hd⟩:=pl.isList;exact call_list_seq p (.inl rfl) ho hc hd (λh' c' kp e=>fin its r' hz h' c' kp e) (by simp only[aX] <;> lia)
 ·obtain ⟨its,r',pl,hz⟩:=I.tuple hq;have hlen:=r'.length;obtain ⟨o,ho,hc,n,hd⟩:=pl;exact call_list_seq p (.inr rfl) ho hc hd (λh' c' kp e=>fin its r' hz h' c' kp e) (by simp only[aX] <;> lia)
def Tc (K:FG9) (T:String) (x:V) (H:Hp):Prop:=match x with
 | .str _=>T="str"
 | .int _=>T="int"
 | .ref p=>(T="list"/\∃xs,bK K H p xs)\/(T="tuple"/\∃o,K.lookup p=some o/\o.cls=.type "tuple"/\o.dict=none) \/
   (T="dict"/\((∃kvs,H p=some (.dK kvs))\/∃kvs,H p=some (.dT kvs)))\/(T="set"/\∃S n,H p=some (.set S n))
 | _=>False
theorem O7 {σ:St} (I:Inv X pins σ H s) (r:RelV x v) (ty:Tc X.K T x H) :
  s.TypeIs v T/\∀a,v=.ref a->∃ob,s.heap.get? a=some ob/\ob.dict=none:=by
 cases x with
 | str z =>
  obtain ⟨t,rfl⟩:=r;cases (show T="str" from ty);exact ⟨typeIs_str s z t,λ_ e=>nomatch e⟩
 | int i =>
  obtain ⟨t,rfl⟩:=r;cases (show T="int" from ty);exact ⟨typeIs_int s i t,λ_ e=>nomatch e⟩
 | ref p =>
  cases r;rcases ty with ⟨rfl,xs,hq⟩ | ⟨rfl,o,hk,hc,hd⟩ | ⟨rfl,hk⟩ | ⟨rfl,S,n,hk⟩
  ·obtain ⟨its,_,pl,_⟩:=I.list hq;refine ⟨pl.isList.typeIs,λa e=>?_⟩;cases e;obtain ⟨o,n,e,c,hd,_⟩:=pl;exact ⟨o,e,hd⟩
  ·refine ⟨⟨o,I.kIn p o hk,hc⟩,λa e=>?_⟩;cases e;exact ⟨o,I.kIn _ o hk,hd⟩
  ·have z:∃o,s.heap.get? p=some o/\o.ExactDict:=by
    rcases hk with ⟨kvs,hk⟩ | ⟨kvs,hk⟩
    ·obtain ⟨_,_,_,_,o,_,_,e,ex,_⟩:=I.hok p _ hk;exact ⟨o,e,ex⟩
    ·obtain ⟨_,_,_,_,o,_,_,e,ex,_⟩:=I.hok p _ hk;exact ⟨o,e,ex⟩
   obtain ⟨o,e,ex⟩:=z;refine ⟨⟨o,e,ex.1⟩,λa e2=>?_⟩;cases e2;exact ⟨o,e,ex.2.1⟩
  ·obtain ⟨o,_,_,_,e,ex,_⟩:=I.hok p _ hk;refine ⟨⟨o,e,ex.1⟩,λa e2=>?_⟩;cases e2;exact ⟨o,e,ex.2.1⟩
 | _=>exact False.elim ty
def tBM (K:FG9) (T:String) (r:V->List V->Hp->VK->Prop) (to:TE) (t:TA):TE:=λσ H Q=>to σ H λx H1=>Tc K T x H1/\t σ H1 λxs H2=>r x xs H2 Q
variable {o e:Expr} {es:List Expr} {to:TE} {t:TA} {name:Str} {apos cpos:Pos} {T id:String} {r:V->List V->Hp->VK->Prop}
theorem xU (pa:PlainAttrs T) (slot:Slot T name id) (hty:typeOf (.builtin id)=pure (.type "method_descriptor")) (hm:MtR X id r) (ho:PE X o to) (ha:PA X (e :: es) t)
  (hbase:attributeBase o name X.env (eval o X.env)=eval o X.env:=by rfl)
  (hfew:((backTo cpos (starEach (e :: es) X.env)).all (λx=>!x.1) && (backToKw cpos (keywordEach [] X.env)).all (λx=>x.1.isSome)
   && decide ((e :: es).length+([]:List Keyword).length+(if ([]:List Keyword).isEmpty then 0 else 1) < 30))=true:=by rfl)
  (hline:(apos.endLine == cpos.line)=true:=by rfl) (hs:starEach (e :: es) X.env=(false,eval e X.env) :: starEach es X.env:=by rfl) (hplain:(backTo cpos (starEach es X.env)).any (·.1)=false:=by rfl) :
  PE X (.Call (.Attribute o name apos) (e :: es) [] cpos) (tBM X.K T r to t):=by
 intro pins s σ H Q I h;refine wpAny_Call_method_late hbase hfew hline rfl (iK (ho pins s σ H _ I h) λv s1 ⟨x,H1,I1,r1,ty,q1⟩=>?_);obtain ⟨h1,h2⟩:=O7 I1 r1 ty;refine ⟨T,id,pa,slot,hty,h1,h2,?_⟩;have hA:=ha cpos pins s1 σ H1 _ I1 q1;rw[hs] at hA ⊢;refine Calls.callWith_builtin (by show (false || (backTo cpos (starEach es X.env)).any (·.1))=false;rw[hplain] <;> rfl) (Calls.evalArgs_plain ?_);exact iK hA λus s2 ⟨vs,H2,I2,r2,q2⟩=>hm pins s2 σ H2 x vs v us Q I2 r1 r2 q2
end
def MtM (X:Cx) (id:String) (r:V->List V->Hp->VK->Prop):Prop :=
 ∀(pins:List (Addr×Obj)) (s:Shared) (σ:St) (H:Hp) (x:V) (xs:List V) (v:Value) (us:List Value) (Q:VK),Inv X pins σ H s->RelV x v->cZ xs us->r x xs H Q →
  wpAny (model X.prog X.w) X.A (call (.builtin id) (v :: us)) (EP X pins σ Q) X.xe s
theorem cZ.one:∀{x:V} {us:List Value},cZ [x] us->∃u,us=[u]/\RelV x u
 | _,_,.cons r .nil=>⟨_,rfl,r⟩
theorem cZ.rep {xs:List V} {us:List Value} (h:cZ xs us):∀k:Nat,cZ (List.replicate k xs).flatten (List.replicate k us).flatten
 | 0=>.nil
 | k+1=>by
  rw[gU,gU,fG,fG];exact cZ.append h (cZ.rep h k)
theorem foldl_rep (its:List Value):∀(k:Nat) (acc:List Value),
  List.foldl (λx1 x2=>x1++x2) acc.toArray (List.replicate k its.toArray)=(acc++(List.replicate k its).flatten).toArray
 | 0,acc=>by simp
 | k+1,acc=>by
  have e:acc.toArray++its.toArray=(acc++its).toArray:=by simp
  have e2:(acc++its)++(List.replicate k its).flatten=acc++(List.replicate (k+1) its).flatten:=by
   rw[gU,fG,cN]
  rw[<- e2,<- foldl_rep its k (acc++its),<- e,gU,List.foldl_cons]
section
variable {X:Cx} {pins:List (Addr×Obj)} {σ:St} {H:Hp} {s:Shared} {l b:Addr} {xs ys zs:List V}
theorem Inv.lset {its its':List Value} (I:Inv X pins σ H s) (hH:H l=some (.lst xs))
  (e:s.heap.get? l=some { cls:=.type "list",data:=.seq its.toArray n }) (hf:f its.toArray=its'.toArray) (hv:cZ ys its') (hz:ys.length<=sizeLine) :
  Inv X pins σ (upd H l (.lst ys)) { s with heap:=s.heap.update l (Obj.mapSeq f),toks:=t' }:=by
 have q:=lg e f;rw[hf] at q;refine I.write (x:=l) (e:=l) (by rw[hH];exact trivial) (.inl rfl) (λb' u hb hu=>(Heap.get?_update_other s.heap (Obj.mapSeq f) (Ne.symm hb)).trans hu) ⟨_,q⟩ ?_;exact ⟨hz,its',_,hv,q⟩
theorem Inv.lnew (I:Inv X pins σ H s) (hv:cZ ys its) (hz:ys.length<=sizeLine) :
  Inv X pins σ (upd H s.heap.objs.size (.lst ys)) { s with heap:=s.heap.push { cls:=.type "list",data:=.seq its.toArray },toks:=t' } :=
 I.laid (λ_ _ q=>Heap.get?_push_of_some _ q) (ar _) ⟨hz,its,0,hv,Heap.get?_push_size _ rfl⟩
theorem Inv.fresh (I:Inv X pins σ H s):H s.heap.objs.size=none:=I.hok.fresh (ar _)
theorem Inv.lstM (I:Inv X pins σ H s) (hH:H l=some (.lst xs)):xs.length<=sizeLine/\∃(its:List Value) (n:Nat),cZ xs its/\xs.length=its.length/\s.heap.get? l=some { cls:=.type "list",data:=.seq its.toArray n }:=by
 obtain ⟨z,its,n,r,e⟩:=I.hok l _ hH;exact ⟨z,its,n,r,r.length,e⟩
theorem ES (h:n<=sizeLine):Builtin.List.listTooLong n=false:=by
 unfold Builtin.List.listTooLong;exact decide_eq_false (by lia)
end
section
variable {X:Cx}
def HW:V->List V->Hp->VK->Prop:=λx vs H Q=>∃l xs y,x=.ref l/\vs=[y]/\H l=some (.lst xs)/\xs.length < sizeLine/\Q .non (upd H l (.lst (xs++[y])))
theorem kL:MtM X "list.append" HW:=by
 intro pins s σ H x vs v us Q I rx rv h;obtain ⟨l,xs,y,rfl,rfl,hH,hz,q⟩:=h;cases rx;obtain ⟨u,rfl,ru⟩:=rv.one;obtain ⟨z,its,n,r,hl,e⟩:=I.lstM hH;refine call_meets F.slot_list_append ⟨_,e,rfl⟩ F.entry_list_append (F.args_list_append_2 _ _) (PySem.list_append l its.toArray n u (by rw[aX];lia)) ⟨e,?_⟩;refine ⟨.non,_,I.lset (its':=its++[u]) hH e (by simp) (r.append (.cons ru .nil)) ?_,rfl,q⟩;rw[aF,fR]
 lia
def Nd:V->List V->Hp->VK->Prop:=λx vs H Q=>∃l b xs zs,x=.ref l/\vs=[.ref b]/\H l=some (.lst xs)/\H b=some (.lst zs)/\xs.length+zs.length<=sizeLine/\Q .non (upd H l (.lst (xs++zs)))
theorem Jr:MtM X "list.extend" Nd:=by
 intro pins s σ H x vs v us Q I rx rv h;obtain ⟨l,b,xs,zs,rfl,rfl,hH,hB,hz,q⟩:=h;cases rx;obtain ⟨u,rfl,ru⟩:=rv.one;cases ru;obtain ⟨z,its,n,r,hl,e⟩:=I.lstM hH;obtain ⟨z2,its2,n2,r2,hl2,e2⟩:=I.lstM hB;have hsz:its.toArray.size+its2.toArray.size<=sizeLine:=by rw[aX,aX];lia
 have hlong:¬(!its.toArray.isEmpty && Builtin.List.listTooLong (its.toArray.size+its2.toArray.size))=true:=by
  rw[ES hsz,Bool.and_false];exact bE
 refine call_meets F.slot_list_extend ⟨_,e,rfl⟩ F.entry_list_extend (F.args_list_extend_2 _ _)
  (AutoSeq1.list_extend_list_list_0 l its.toArray n b its2.toArray n2 hlong (by rw[aX];lia) (by lia)) ⟨e,e2,?_⟩
 refine ⟨.non,_,I.lset (its':=its++its2) hH e (by simp) (r.append r2) ?_,rfl,q⟩;rw[aF]
 lia
def Sb:R2:=λx y H Q=>∃l b xs zs,x=.ref l/\y=.ref b/\H l=some (.lst xs)/\H b=some (.lst zs)/\xs.length+zs.length<=sizeLine/\∀p,H p=none->Q (.ref p) (upd H p (.lst (xs++zs)))
theorem oo:AO X (binaryOp .Add) Sb:=by
 intro pins s σ H x y v u Q I rx ry h;obtain ⟨l,b,xs,zs,rfl,rfl,hH,hB,hz,q⟩:=h;cases rx;cases ry;obtain ⟨z,its,n,r,hl,e⟩:=I.lstM hH;obtain ⟨z2,its2,n2,r2,hl2,e2⟩:=I.lstM hB;refine PySem.P.add_list e e2 ?_ (by rw[aX,aX];lia);have ea:its.toArray++its2.toArray=(its++its2).toArray:=by simp
 rw[ea];exact ⟨.ref _,_,I.lnew (t':=s.toks) (r.append r2) (by rw[aF];lia),rfl,q _ I.fresh⟩
def Sa:R2:=λx y H Q=>∃l k xs,x=.ref l/\y=.int k/\H l=some (.lst xs)/\-(2^63)<=k/\k < 2^63/\xs.length*k.toNat<=sizeLine /\
 ∀p,H p=none->Q (.ref p) (upd H p (.lst (List.replicate k.toNat xs).flatten))
theorem len_rep {α:Type} (xs:List α) (k:Nat):(List.replicate k xs).flatten.length=k*xs.length:=by
 induction k with
 | zero=>simp
 | succ k ih=>rw[gU,fG,aF,ih,d6,tu]
theorem KO:AO X (binaryOp .Mult) Sa:=by
 intro pins s σ H x y v u Q I rx ry h;obtain ⟨l,k,xs,rfl,rfl,hH,h1,h2,hz,q⟩:=h;cases rx;obtain ⟨t,rfl⟩:=ry;obtain ⟨z,its,n,r,hl,e⟩:=I.lstM hH;have hlen:its.toArray.size*k.toNat<=sizeLine:=by rw[aX,<- hl];exact hz
 have hcap:¬its.toArray.size*k.toNat > (2^63 - 1) / 8:=by
  have:(sizeLine:Nat)<=(2^63 - 1) / 8:=by decide
  lia
 have hfit:¬(!Builtin.List.listFitsIndex k)=true:=by
  rw[fitsIndex_both h1 h2];exact bE
 have hlong:¬Builtin.List.listTooLong (its.toArray.size*k.toNat)=true:=by
  rw[ES hlen];exact bE
 have hnew:List.foldl (λx1 x2=>x1++x2) #[] (List.replicate (if its.toArray.isEmpty=true then 0 else k.toNat) its.toArray)=(List.replicate k.toNat its).flatten.toArray:=by
  have f0:∀m:Nat,List.foldl (λx1 x2=>x1++x2) #[] (List.replicate m its.toArray)=(List.replicate m its).flatten.toArray:=λm=>by
   have:=foldl_rep its m [];rw[dd] at this;exact this
  rw[f0];cases its with
  | nil=>simp
  | cons a r'=>rw[if_neg (by simp)]
 refine wpAny_binaryOp_repeat_ref (T:="list") (U:="int") (by decide) ⟨_,e,rfl⟩ (λs'=>typeIs_int s' k t) noFill_list_mul F.fills_int_mul F.slot_int_rmul repeat_list F.slot_int_index.lookup
  (call_meets F.slot_int_rmul (typeIs_int s k t) F.entry_int_rmul (F.args_int_rmul_2 _ _) (int___rmul___int_list k t l its.toArray n)
   ⟨e,rfl,⟨_,e,rfl⟩,call_meets F.slot_list_mul ⟨_,e,rfl⟩ F.entry_list_mul (F.args_list_mul_2 _ _) (AutoListH.list___mul___list_int_3 l its.toArray n k t hfit hcap hlong) ⟨e,?_⟩⟩)
 rw[hnew];exact ⟨.ref _,_,I.lnew (t':=s.toks) (r.rep k.toNat) (by rw[len_rep,dJ];exact hz),rfl,q _ I.fresh⟩
end
end L2
namespace Att
open PySem PySem.W PySem.Calls PyProof.Rows
theorem yP:∀(ns:List Int) (vs:List Value),WellAll P h vs (ns.map WData.int)->IntsAre vs ns:=by
 intro ns
 induction ns with
 | nil =>
  intro vs w;rw[List.map_nil] at w;cases w;exact .nil
 | cons n ns ih =>
  intro vs w;rw[lV] at w;cases w with
  | cons a b =>
   cases a;exact .cons _ _ (ih _ b)
theorem Jd {l:OpenLaw} (hn:l.most=some n) 
  (hpre:l.row.toRowW.claim.pre args=true) (hwl:WellAll P h vals args) :
  ∃a vs ns,vals=[Value.ref a]/\args=[WData.list (ns.map WData.int)]/\h.get? a=some { cls:=.type "list",data:=.seq vs.toArray }/\IntsAre vs ns/\ns.length<=n:=by
 have hsh:WShape.hasAll [] args [.list .int]=true:=(pre_splitW hpre).1;have hc:l.pre.holds [] { args:=args }=true:=(pre_splitW hpre).2;obtain ⟨d,r,rfl,h1,h2⟩:=hasAllW_cons hsh;obtain rfl:=hasAllW_nil h2;obtain ⟨xs,rfl,h3⟩:=hasW_list h1;obtain ⟨ns,rfl⟩:=items_int h3
 have hlen:ns.length<=n:=by
  unfold OpenLaw.pre at hc
  have h4:(WTm.not (.lt (.lit (.int (n:Int))) (.len (.arg 0)))).holds [] { args:=[.list (ns.map .int)] }=true:=by
   have h4:=(holds_andW hc).1;rw[hn] at h4;exact h4
  have h5:=condW_of h4 (w_not (w_lt w_lit (w_len_list (w_arg rfl))));rw[ag] at h5;refine Nat.le_of_not_lt λq=>?_
  have q':(n:Int) < ((ns.length:Nat):Int):=by lia
  first
   | (rw[decide_eq_true q'] at h5;exact absurd h5 (by decide))
   | (simp at h5;lia)
 cases hwl with
 | cons w1 w2 =>
  cases w2;cases w1 with
  | list ho hall=>exact ⟨_,_,ns,rfl,rfl,ho,yP ns _ hall,hlen⟩
theorem Jj (l:OpenLaw) (args:List WData):l.row.toRowW.claim.post args (.bool true) args=true :=
 postW_of (r:=l.row.toRowW) (X:=(true == true))
  (show WShape.has [] (.bool true) .bool=true by first | rfl | decide | simp [WShape.has,WShape.arms,WShape.armsAll])
  (show (WTm.eq .res (.lit (.bool true))).value [] { args:=args,res:=some (.bool true),after:=args }=some (.bool (true == true)) from w_eq_bool (w_res rfl) w_lit) rfl
theorem Fi {l:OpenLaw} 
  (hn:l.most=some n) (hdf:d.params.defaults=[])
  (call:∀(w:World) (s₀ s₁:Shared) (mg mb:Str->Option Value) (fa:Addr) (o:Obj) (pm cd doc:Value) (a:Addr) (vs:List Value) (ns:List Int),
   Ground q loose [] XP w s₀ mg mb s₁.heap->YP w s₁.heap →
   s₁.heap.get? fa=some o->o.data=.func (docDef d.name d.params d.body d.scope pm cd doc)->s₁.heap.CodeRec cd d.name->mg d.name=some (.ref fa) →
   s₁.heap.get? a=some { cls:=.type "list",data:=.seq vs.toArray }->IntsAre vs ns->ns.length<=n->s₁.gens=#[] →
   codeAny (model l.prog w) callerA (.call (.ref fa) ⟨[.ref a],[]⟩) (λr s'=>r=.ok (.ret (.bool true))/\OldK s₁.heap s'.heap/\s'.os=s₁.os/\AllBare s'.gens) s₁) :
  WalkO q loose XP YP l.row.toRowW d [] (λf vs=>PySem.call f vs):=by
 intro w s₀ s₁ mg mb G Y fa o pm cd doc dV kV ho hd hcd hD hmg hg args vals as hpre hlay hrd hwl hlo;obtain rfl:dV=.none:=Dflts.none hD hdf;obtain rfl:kV=.none:=Dflts.noKw hD;obtain ⟨a,vs,ns,rfl,rfl,hobj,hints,hlen⟩:=Jd hn hpre hwl;refine enter_call (codeAny_mono (call w s₀ s₁ mg mb fa o pm cd doc a vs ns G Y ho (fd_plain hd) hcd hmg hobj hints hlen hg) λr s' hq=>?_);obtain ⟨rfl,h2,h3,h4⟩:=hq;exact ⟨.inl ⟨.bool true,.bool true,[],rfl,λ_=>rfl,.bool true,Jj l _,λ_=>⟨List.Pairwise.nil,λ_ hm=>(nomatch hm)⟩⟩,h2,h3,h4⟩
section
variable {prog:Program} {w:World} {A:Around} {E:Value->Shared->Prop} {s:Shared} {K:Frag}
end
end Att
namespace L2
open PySem PySem.Spec PyProof.Rows
theorem Bt:∀{vs:List Value} {ns:List Int},IntsAre vs ns->cZ (ns.map V.int) vs
 | _,_,.nil=>.nil
 | _,_,.cons n t h=>.cons ⟨t,rfl⟩ (Bt h)
def QP (H:Hp):Prop:=∀b,H b=none\/∃o xs,H b=some (.frz o (.lst xs))
theorem K9 {K:FG9} 
  (KX:K.In s₁.heap) (hns:s₁.heap.Ns mainGlobals mg) (hb:s₁.heap.Ns builtinsNs mb) (hbb:∀x:Str,x≠"__name__"->mb x=bootBuiltins x) (hlim:s₁.heap.NoLimit) (hsr:s₁.heap.NoSeer) (hg:s₁.gens=#[])
  (ha:s₁.heap.get? a=some { cls:=.type "list",data:=.seq vs.toArray }) (hi:IntsAre vs ns) (hl:ns.length<=sizeLine) (hr:lK k callerA)
  (F:∀base:Heap,K.In base->base.Ns mainGlobals mg->cO P w K mg base CX k fa fd [x] sp) (hbind:∀(s:Shared) (u:Value),BindsTo s fd ⟨[u],[]⟩ [(x,u)])
  (hsp:∀H:Hp,QP H->bK K H a (ns.map V.int)->sp [.ref a] H (λv _=>v=.bl true) λ_ _ _=>False)
  (hCX:∀H e s',CX [] H s₁ (λ_ _ _=>False) e s'->False) :
  codeAny (model P w) callerA (.call (.ref fa) ⟨[.ref a],[]⟩) (λr s'=>r=.ok (.ret (.bool true))/\OldK s₁.heap s'.heap/\s'.os=s₁.os/\AllBare s'.gens) s₁:=by
 have rv:=Bt hi;have lenV:=hi.length
 have core:∀H:Hp,QP H->bK K H a (ns.map V.int)->za P w H s₁.heap->(∀b,H b≠none->b=a)->(H a≠none->K.lookup a=none) →
   codeAny (model P w) callerA (.call (.ref fa) ⟨[.ref a],[]⟩) (λr s'=>r=.ok (.ret (.bool true))/\OldK s₁.heap s'.heap/\s'.os=s₁.os/\AllBare s'.gens) s₁:=by
  intro H hO hS hok hA hK;have base_of:∀{b:Addr} {o:Obj},s₁.heap.get? b=some o->H b=none->(Dz s₁.heap H).get? b=some o:=λe n=>Lg e n
  have noA:∀{b:Addr} {o:Obj} {es:Array DictEntry} {ep:Nat},s₁.heap.get? b=some o->o.data=.dict es ep->H b=none:=λ{b o es ep} e d=>by
   cases q:H b with
   | none=>rfl
   | some u =>
    have e':b=a:=hA b (by rw[q];simp);subst e';rw[ha] at e;cases e;have d':Data.seq vs.toArray _=Data.dict es ep:=d;cases d'
  have nsK:∀{b:Addr} {m:Str->Option Value},s₁.heap.Ns b m->(Dz s₁.heap H).Ns b m:=λ{b m} ⟨o,es,ep,e,d,r⟩=>⟨o,es,ep,base_of e (noA e d),d,r⟩
  have hKb:K.In (Dz s₁.heap H):=λb o e=>base_of (KX b o e) (by
   cases q:H b with
   | none=>rfl
   | some u =>
    have e':b=a:=hA b (by rw[q];simp);subst e';rw[hK (by rw[q];simp)] at e;cases e)
  have hM:Mod K mg (Dz s₁.heap H):=⟨hKb,nsK hns,⟨mb,nsK hb,hbb⟩,let ⟨mc,h1,h2⟩:=hlim;⟨mc,nsK h1,h2⟩,⟨let ⟨mc,h1,h2⟩:=hsr.statics;⟨mc,nsK h1,h2⟩,let ⟨mm,h1,h2⟩:=hsr.mods;⟨mm,nsK h1,h2⟩,⟨mb,nsK hb,hbb⟩,let ⟨mg',bm,ob,h1,h2,h3,h4,h5⟩:=hsr.main;⟨mg',bm,ob,nsK h1,h2,base_of h3 (by
   cases q:H bm with
   | none=>rfl
   | some u =>
    have e':bm=a:=hA bm (by rw[q];simp);subst e';rw[ha] at h3;cases h3;injection h4 with q4
    exact absurd q4 (by decide)),h4,h5⟩⟩⟩
  have e0:GY P w K mg (Dz s₁.heap H) callerA [] s₁ H:=⟨rfl,hM,λb o e=>Nq e,Nat.le_of_eq (Jw _ _),trivial,λb hb=>absurd (show b∈([]:List Addr) from hb) (by simp),hok,.of_eq hg⟩;refine codeAny_mono ((F _ hKb (nsK hns)).run callerA [] s₁ H ⟨[.ref a],[]⟩ [.ref a] [.ref a] _ _ hr e0 (hbind s₁ (.ref a)) (.cons rfl .nil) (hsp H hO hS)) λr s' h=>?_
  cases r with
  | error e=>exact (hCX H e s' h).elim
  | ok fl =>
   cases fl with
   | next=>exact False.elim h
   | brk=>exact False.elim h
   | cont=>exact False.elim h
   | ret u =>
    obtain ⟨v,H',os,bare,un,hok',r',q⟩:=h;have q':v=.bl true:=q;subst q';obtain rfl:u=Value.bool true:=r';refine ⟨rfl,OldK.of_keep λb o e=>?_,os,bare⟩;cases q:H b with
    | none=>exact un.keep b o e q (by intro z;exact absurd (show b∈([]:List Addr) from z) (by simp)) (by simp)
    | some u =>
     rcases hO b with z | ⟨ob,xs,z⟩
     ·rw[q] at z;cases z
     ·have z2:=un.frzs b ob _ z;obtain ⟨e1,_⟩:=hok b _ z;obtain ⟨e2,_⟩:=hok' b _ z2;rw[e] at e1;cases e1;exact e2
 cases hk:K.lookup a with
 | some o =>
  have e:=KX a o hk;rw[ha] at e;cases e;refine core (λ_=>none) (λ_=>.inl rfl) (.inr ⟨_,vs.toArray,_,hk,rfl,rfl,rfl,by rw[aX,lenV];exact hl,by simpa using rv⟩) (λb u z=>by have z':(none:Option HO)=some u:=z;cases z') (λb z=>absurd rfl z) λz=>absurd rfl z
 | none =>
  refine core (λb=>if b=a then some (.frz { cls:=.type "list",data:=.seq vs.toArray } (.lst (ns.map V.int))) else none) (λb=>?_) (.inl (.inr ⟨{ cls:=.type "list",data:=.seq vs.toArray },if_pos rfl⟩)) (λb u z=>?_) (λb z=>?_) λ_=>hk
  ·by_cases hb:b=a
   ·exact .inr ⟨_,_,if_pos hb⟩
   ·exact .inl (if_neg hb)
  ·by_cases hb:b=a
   ·have z':=(if_pos hb).symm.trans z;cases z';subst hb;exact ⟨ha,by rw[ag];exact hl,vs,_,rv,ha⟩
   ·have z':=(if_neg hb).symm.trans z;cases z'
  ·by_cases hb:b=a
   ·exact hb
   ·exact absurd (if_neg hb) z
theorem Mt {l:PySem.W.OpenLaw} {K:Params->FG9} {CX:World->Mj} {sp:World->Sp} 
  (hn:l.most=some n) (hn2:n<=sizeLine) (hdf:d.params.defaults=[]) (hr:lK k callerA) (hi:importsNone q=true)
  (hY:∀(w:World) (h:Heap),YP w h->(K w.params).In h)
  (F:∀(w:World) (mg:Str->Option Value) (fa:Addr) (h:Heap),(K w.params).In h->h.Ns mainGlobals mg->mg d.name=some (.ref fa) →
   ∃fd:FuncData,(∀(s:Shared) (u:Value),BindsTo s fd ⟨[u],[]⟩ [(x,u)]) /\
    ∀base:Heap,(K w.params).In base->base.Ns mainGlobals mg->cO l.prog w (K w.params) mg base (CX w) k fa fd [x] (sp w))
  (hsp:∀(w:World) (H:Hp) (a:Addr) (ns:List Int),ns.length<=n->QP H->bK (K w.params) H a (ns.map V.int)->sp w [.ref a] H (λv _=>v=.bl true) λ_ _ _=>False)
  (hCX:∀(w:World) (H:Hp) (s:Shared) (e:Value) (s':Shared),CX w [] H s (λ_ _ _=>False) e s'->False) :
  PySem.W.WalkO q loose XP YP l.row.toRowW d [] (λf vs=>PySem.call f vs):=by
 refine Att.Fi hn hdf λw s₀ s₁ mg mb fa o pm cd doc a vs ns G Y ho hd hcd hmg hobj hints hlen hg=>?_
 have KX:=hY w _ Y;obtain ⟨fd,hb,hF⟩:=F w mg fa _ KX G.T.g hmg;exact K9 KX G.T.g G.T.b G.T.builtins G.T.nolimit (G.T.seer hi) hg hobj hints (ak hlen hn2) hr hF hb (λH hO hS=>hsp w H a ns hlen hO hS) λH e s'=>hCX w H s₁ e s'
end L2

namespace L2
open PySem PySem.Spec PyProof.Rows
def inClass (s:Stmt) (j:Nat):Stmt:=match s with
 | .ClassDef _ _ _ body _ _ _ _ _ _ _=>body.getD j (.Pass ⟨0,0,0,0⟩)
 | _=>.Pass ⟨0,0,0,0⟩
def gL (s:Stmt):Arguments:=match s with
 | .FunctionDef _ a _ _ _ _ _ _ _ _=>a
 | _=>{ posonlyargs:=[],args:=[],vararg:=none,kwonlyargs:=[],kw_defaults:=[],kwarg:=none,defaults:=[] }
def fA (s:Stmt):List Stmt:=match s with
 | .FunctionDef _ _ b _ _ _ _ _ _ _=>b
 | _=>[]
def aI (s:Stmt):Scope:=match s with
 | .FunctionDef _ _ _ _ _ _ sc _ _ _=>sc
 | _=>{ kind:=.function,names:=[],isGenerator:=false,isCoroutine:=false }
abbrev iI:Mj:=λ_ _ _ _ _ _=>False
abbrev E0:XK:=λ_ _ _=>False
theorem mH:xH iI X E0:=λ_ _ _ _ _ _ _ h=>h.elim
structure D6 (K:FG9) (x qual:Str) (st:Stmt) (f:Addr) (fd:FuncData):Prop where
 ex:∃(oc:Value) (od:Option Addr) (kV doc pm:Value) (an:Option Addr) (cdv ct:Value) (osl:Array (Option Value)),
  fd=PySem.W.fnOf x qual (gL st) (fA st) (aI st) .none kV doc pm an cdv ct/\K.lookup f=some ⟨oc,od,.func fd,osl⟩/\PySem.W.codeIn K cdv qual=true
 kp:PySem.W.keepIn K (.ref f)=true
section
variable {P:Program} {w:World} {K:FG9} {mg:Str->Option Value} {base:Heap}
theorem D6.ok {st:Stmt} (F:D6 K x qual st f fd) (S:a7 N ps (aI st)) (len:∀vs H Q E,sp vs H Q E->vs.length=ps.length)
  (hbody:∀(cdv:Value) (A:Around) (outer:List Env) (s:Shared) (H:Hp) (vs:List V) (Q:VK) (E:XK),lK k (A.deeper (envOfC qual (aI st) s.heap.objs.size f cdv))->sp vs H Q E →
   ∃t,GQ (JC iI P w K mg base N qual (aI st) f cdv A outer s H E).nox (fA st) t/\t { nx:=λ_ H'=>Q .non H',rt:=Q } (start N vs) H):cO P w K mg base iI (k+1) f fd ps sp:=by
 obtain ⟨oc,od,kV,doc,pm,an,cdv,ct,osl,rfl,lk,hcd⟩:=F.ex;refine Sx lk hcd S len λA outer s H vs Q E hr hsp=>?_
 obtain ⟨t,h,q⟩:=hbody cdv A outer s H vs Q E hr hsp;exact ⟨t,h.nox,q⟩
theorem D6.binds {st:Stmt} (F:D6 K x qual st f fd)
  (h:∀(kV doc pm:Value) (an:Option Addr) (cdv ct:Value) (us:List Value),us.length=ps.length->bindArgs (PySem.W.fnOf x qual (gL st) (fA st) (aI st) .none kV doc pm an cdv ct) ⟨us,[]⟩=pure (ps.zip us)):Binds K fd ps []:=by
 obtain ⟨oc,od,kV,doc,pm,an,cdv,ct,osl,rfl,lk,hcd⟩:=F.ex;exact .all (h kV doc pm an cdv ct)
theorem mQ {st:Stmt} {kV doc pm cdv ct:Value} (l:K.lookup f=some ⟨oc,od,.func (PySem.W.fnOf x qual (gL st) (fA st) (aI st) .none kV doc pm an cdv ct),osl⟩)
  (c:PySem.W.codeIn K cdv qual=true) (k:PySem.W.keepIn K (.ref f)=true):D6 K x qual st f (PySem.W.fnOf x qual (gL st) (fA st) (aI st) .none kV doc pm an cdv ct):=⟨⟨oc,od,kV,doc,pm,an,cdv,ct,osl,rfl,l,c⟩,k⟩
end
structure Df (K:FG9) (mg:Str->Option Value) (x:Str) (st:Stmt) (ps:List Str) (f:Addr) (fd:FuncData):Prop where
 m:mg x=some (.ref f)
 b:Binds K fd ps []
 F:D6 K x x st f fd
structure Dh (K:FG9) (x:Str) (st:Stmt) (f:Addr) (fd:FuncData):Prop where
 a:PySem.W.nsIn K mainGlobals x=some (some (.ref f))
 F:D6 K x x st f fd
theorem SD {K:FG9} {st:Stmt} {kV doc pm cdv ct:Value} (a:PySem.W.nsIn K mainGlobals x=some (some (.ref f))) (l:K.lookup f=some ⟨oc,od,.func (PySem.W.fnOf x x (gL st) (fA st) (aI st) .none kV doc pm an cdv ct),osl⟩) (c:PySem.W.codeIn K cdv x=true) (k:PySem.W.keepIn K (.ref f)=true):Dh K x st f (PySem.W.fnOf x x (gL st) (fA st) (aI st) .none kV doc pm an cdv ct):=⟨a,mQ l c k⟩
theorem Dh.D {K:FG9} {x:Str} {st:Stmt} {f:Addr} {fd:FuncData} {ps:List Str} {mg:Str->Option Value} {h:Heap} (d:Dh K x st f fd) (X:K.In h) (G:h.Ns mainGlobals mg) (hb:∀(kV doc pm:Value) (an:Option Addr) (cdv ct:Value) (us:List Value),us.length=ps.length->bindArgs (PySem.W.fnOf x x (gL st) (fA st) (aI st) .none kV doc pm an cdv ct) ⟨us,[]⟩=pure (ps.zip us):=by walk_at "b"):Df K mg x st ps f fd:=⟨PySem.W.mg_of X G d.a,d.F.binds hb,d.F⟩
theorem cE {X:Cx} {k k':Nat} {f:Addr} {fd:FuncData} {ps:List Str} {sp:Sp} {x:Str} {st:Stmt} {p pos:Pos} {e:Expr} {es:List Expr} {t:TA} (F:cO X.prog X.w X.K X.mg X.base iI k f fd ps sp) (hr:lK k' X.A) (D:Df X.K X.mg x st ps f fd) (ha:PA X (e :: es) t) (hle:k<=k':=by decide) (hg:Gl X x:=by exact rfl) (hdb:(x == ("__debug__":Str))=false:=by decide) (he:starEach (e :: es) X.env=(false,eval e X.env) :: starEach es X.env:=by rfl) (hpl:(backTo pos (starEach es X.env)).any (·.1)=false:=by rfl):PE X (.Call (.Name x p) (e :: es) [] pos) (J6 sp [] E0 t):=Nj F (hr.mono hle) hg D.m D.F.kp D.b .nil mH ha hdb he hpl
theorem bO (h:n<=1000):n < sizeLine:=bD h (by decide)
section
variable {X:Cx}
theorem pv (i:Nat) {x:Str} {pos:Pos} (hN:X.N[i]?=some x:=by rfl) (hv:Tx X.env.scope x:=by first | exact Or.inl rfl | exact Or.inr (Or.inl rfl) | exact Or.inr (Or.inr rfl)) (hd:(x == ("__debug__":Str))=false:=by decide)
  (hcd:(x == ("__classdict__":Str))=false:=by decide):PE X (.Name x pos) (Pb i):=P9 hN hv hd hcd
end
theorem Ql {A B:Prop} (h:B):if false=true then A else B:=by
 rw[if_neg bE];exact h
theorem Tu {A B:Prop} (h:A):if true=true then A else B:=by
 rw[if_pos rfl];exact h
theorem jh {c A B:Prop} [Decidable c] (h1:c->A) (h2:¬c->B):if c then A else B:=by
 by_cases h:c
 ·rw[if_pos h];exact h1 h
 ·rw[if_neg h];exact h2 h
def aG (H H':Hp):Prop:=∀b o,H b=some o->H' b=some o
theorem aG.refl (H:Hp):aG H H:=λ_ _ h=>h
theorem aG.trans (a:aG H H1) (b:aG H1 H2):aG H H2:=λc o h=>b c o (a c o h)
theorem aG.free (e:aG H H') (h:H' l=Option.none):H l=Option.none:=by
 cases q:H l with
 | none=>rfl
 | some o =>
  rw[e l o q] at h;cases h
theorem aG.seq {K:FG9} (e:aG H H') (h:bK K H a xs):bK K H' a xs:=by
 rcases h with (h | ⟨o,h⟩) | h
 ·exact .inl (.inl (e _ _ h))
 ·exact .inl (.inr ⟨o,e _ _ h⟩)
 ·exact .inr h
end L2
namespace Nm
theorem Lk (a b:Int):Int.gcd b (a.fmod b)=Int.gcd a b:=by
 rw[Int.fmod_def,lD a b];apply Nat.dvd_antisymm
 ·apply Md
  ·exact eK ..
  ·have h1:=eK (a:=b) (b:=a - b*a.fdiv b);have h2:=fI (a:=b) (b:=a - b*a.fdiv b);have h3:=Int.dvd_add h2 (mZ (c:=a.fdiv b) h1);rwa [Int.sub_add_cancel] at h3
 ·apply Md
  ·exact eK ..
  ·exact Int.dvd_sub (fI ..) (mZ (eK ..))
theorem Ll (a b:Int):Int.gcd b (a % b)=Int.gcd a b:=by
 rw[Int.emod_def,lD a b];apply Nat.dvd_antisymm
 ·apply Md
  ·exact eK ..
  ·have h1:=eK (a:=b) (b:=a - b*(a / b));have h2:=fI (a:=b) (b:=a - b*(a / b));have h3:=Int.dvd_add h2 (mZ (c:=a / b) h1);rwa [Int.sub_add_cancel] at h3
 ·apply Md
  ·exact eK ..
  ·exact Int.dvd_sub (fI ..) (mZ (eK ..))
theorem ND (a b:Int) (h:b≠0):(a.fmod b).natAbs < b.natAbs:=by
 rcases Int.lt_or_gt_of_ne h with h | h
 ·have e:a.fmod b=-((-a).fmod (-b)):=by
   have:=Int.neg_fmod_neg (-a) (-b);simp only[Mc] at this;exact this
  have h1:=Int.fmod_nonneg_of_pos (-a) (b:=-b) (by lia);have h2:=Int.fmod_lt_of_pos (-a) (b:=-b) (by lia)
  lia
 ·have h1:=Int.fmod_nonneg_of_pos a h;have h2:=Int.fmod_lt_of_pos a h
  lia
def g (t b:Int):Int:=(Int.gcd t b:Int)
def lo (t b:Int):Int:=t / g t b
def hi (t b:Int):Int:=b / g t b
theorem Ae (h:b≠0):0 < g t b:=by
 unfold g;have:0 < Int.gcd t b:=qT _ h
 lia
theorem z9 (t b:Int):lo t b*g t b=t:=Int.ediv_mul_cancel (eK ..)
theorem xr (t b:Int):hi t b*g t b=b:=Int.ediv_mul_cancel (fI ..)
theorem Gs (h:0 < b):0 < hi t b:=by
 have h1:=Ae (t:=t) (b:=b) (by lia);have h2:=xr t b;by_cases h3:0 < hi t b
 ·exact h3
 ·have:hi t b*g t b<=0:=Int.mul_nonpos_of_nonpos_of_nonneg (by lia) (by lia)
  lia
theorem EW (h:b≠0):Int.gcd (lo t b) (hi t b)=1:=by
 have h1:=Ae (t:=t) h;have e:=Int.gcd_mul_right (lo t b) (g t b) (hi t b);rw[z9,xr] at e;have e2:(g t b).natAbs=Int.gcd t b:=by unfold g;simp
 rw[e2] at e;have h2:0 < Int.gcd t b:=qT _ h;exact Nat.eq_of_mul_eq_mul_right h2 (by rw[<- e,wI])
theorem Gk (t b:Int):lo t b*b=t*hi t b:=by
 have h1:=z9 t b;have h2:=xr t b
 calc lo t b*b=lo t b*(hi t b*g t b):=by rw[h2]
  _=(lo t b*g t b)*hi t b:=by rw[lC (hi t b),<- jR]
  _=t*hi t b:=by rw[h1]
theorem p7 (h:Int.gcd a b=1) (hd:a∣b*c):a∣c:=by
 have h1:a.natAbs∣b.natAbs*c.natAbs:=by rw[<- fH];exact fU.mpr hd
 have h2:Nat.Coprime a.natAbs b.natAbs:=h;exact fU.mp (h2.dvd_of_dvd_mul_left h1)
theorem uniq (hb:0 < b) (hd:0 < d) (h1:Int.gcd a b=1) (h2:Int.gcd c d=1) (e:a*d=c*b):a=c/\b=d:=by
 have e1:b∣d:=by
  have:b∣a*d:=⟨c,by rw[e,lC]⟩;exact p7 (by rw[lD];exact h1) this
 have e2:d∣b:=by
  have:d∣c*b:=⟨a,by rw[<- e,lC]⟩;exact p7 (by rw[lD];exact h2) this
 have e3:b=d:=Int.dvd_antisymm (by lia) (by lia) e1 e2;subst e3;exact ⟨O0 (by lia) e,rfl⟩
theorem oq {a b:Int} (h:b≠0):a.natAbs<=(a*b).natAbs:=by
 rw[fH];exact cV _ (Int.natAbs_pos.mpr h)
theorem lo_le (h:b≠0):(lo t b).natAbs<=t.natAbs:=by
 have:=oq (a:=lo t b) (b:=g t b) (by have:=Ae (t:=t) h;lia);rwa [z9] at this
theorem OJ (h:b≠0):(hi t b).natAbs<=b.natAbs:=by
 have:=oq (a:=hi t b) (b:=g t b) (by have:=Ae (t:=t) h;lia);rwa [xr] at this
def Sz (k:Nat) (x:Int):Prop:=x.natAbs < 2^k
theorem Sz.mono (h:Sz j x) (l:j<=k):Sz k x:=bc h (aD (by decide) l)
theorem Sz.mul (h1:Sz j x) (h2:Sz k y):Sz (j+k) (x*y):=by
 unfold Sz at *
 rw[fH,aR];exact Nat.mul_lt_mul'' h1 h2
theorem Sz.neg (h:Sz k x):Sz k (-x):=by unfold Sz at *;rw[uj];exact h
theorem Sz.le (h:Sz k y) (l:x.natAbs<=y.natAbs):Sz k x:=bD l h
theorem Sz.hi {k:Nat} {t b:Int} (h:Sz k b) (hb:b≠0):Sz k (hi t b):=h.le (OJ hb)
end Nm
namespace L2
open PySem PySem.Spec PyProof.Rows
structure Bk (env:Env) (scope:Scope) (own capN:List Str):Prop where
 kind:scope.kind=.function
 locs:∀y∈scope.names,y.2=.local->scope.names.lookup y.1=some .local
 ownk:∀x∈own,scope.names.lookup x=some .local\/scope.names.lookup x=some .cell
 cells:∀y∈scope.names,y.2=.cell->y.1∈own/\y.1∉capN
 frees:∀y∈scope.names,y.2=.free->y.1∈capN/\y.1∉own
 capf:∀x∈capN,scope.names.lookup x=some .free
 caps:∀x∈capN,env.kindOf x=some .cell\/env.kindOf x=some .free
def S4 (scope:Scope) (own capN:List Str):Bool :=
 decide (scope.kind=.function) && scope.names.all (λy=>decide (y.2=.local->scope.names.lookup y.1=some .local) && decide (y.2=.cell->y.1∈own/\y.1∉capN) && decide (y.2=.free->y.1∈capN/\y.1∉own)) &&
 own.all (λx=>decide (scope.names.lookup x=some .local\/scope.names.lookup x=some .cell)) && capN.all λx=>decide (scope.names.lookup x=some .free)
def BV (env:Env):List Str->Bool
 | []=>true
 | x :: r=>(match env.kindOf x with | some .cell=>true | some .free=>true | _=>false) && BV env r
theorem Ff {env:Env}:∀{capN:List Str},BV env capN=true->∀x∈capN,env.kindOf x=some .cell\/env.kindOf x=some .free
 | [],_,_,h=>nomatch h
 | y :: r,h,x,hx=>by
  unfold BV at h;rw[ib] at h;rcases aH.mp hx with e | hx
  ·subst e;have h1:=h.1
   split at h1
   ·rename_i e;exact .inl e
   ·rename_i e;exact .inr e
   ·cases h1
  ·exact Ff h.2 x hx
theorem Bk.of (h1:S4 scope own capN=true) (h2:BV env capN=true):Bk env scope own capN:=by
 unfold S4 at h1;rw[ib,ib,ib,yM,yM,yM] at h1;obtain ⟨⟨⟨a1,a2⟩,a3⟩,a4⟩:=h1
 have a2':∀y∈scope.names,(y.2=.local->scope.names.lookup y.1=some .local)/\(y.2=.cell->y.1∈own/\y.1∉capN)/\(y.2=.free->y.1∈capN/\y.1∉own):=λy hy=>by
  have q:=a2 y hy;rw[ib,ib] at q;exact ⟨of_decide_eq_true q.1.1,of_decide_eq_true q.1.2,of_decide_eq_true q.2⟩
 exact ⟨of_decide_eq_true a1,λy hy=>(a2' y hy).1,λx hx=>of_decide_eq_true (a3 x hx),λy hy=>(a2' y hy).2.1,λy hy=>(a2' y hy).2.2,λx hx=>of_decide_eq_true (a4 x hx),Ff h2⟩
def eX (env:Env):List (Str×NameKind)->List (Str×Addr)->List (Str×Addr)
 | [],acc=>acc
 | (n,k) :: r,acc=>if k == .free then eX env r ((n,(env.cells.lookup n).getD 0) :: acc) else eX env r acc
theorem ji (env:Env):∀(names:List (Str×NameKind)) (acc:List (Str×Addr)),eX env names acc=eX env names []++acc
 | [],_=>rfl
 | (n,k) :: r,acc=>by
  unfold eX
  split
  ·rw[ji env r (_ :: acc),ji env r [_],cN];rfl
  ·exact ji env r acc
theorem qe (env:Env):∀(names:List (Str×NameKind)) {x:Str} {c:Addr},(x,c)∈eX env names []->(x,NameKind.free)∈names/\c=(env.cells.lookup x).getD 0
 | [],_,_,h=>nomatch h
 | (n,k) :: r,x,c,h=>by
  unfold eX at h
  split at h
  ·rename_i hk
   have ek:k=.free:=by simpa using hk
   subst ek;rw[ji] at h;rcases av.mp h with h | h
   ·have q:=qe env r h;exact ⟨bM _ q.1,q.2⟩
   ·have e:(x,c)=(n,(env.cells.lookup n).getD 0):=by simpa using h
    cases e;exact ⟨dc,rfl⟩
  ·have q:=qe env r h;exact ⟨bM _ q.1,q.2⟩
theorem jE {α:Type}:∀{l:List (Str×α)} {x:Str} {c:α},(x,c)∈l->∃d,l.lookup x=some d
 | (k,v) :: r,x,c,h=>by
  rw[lh];cases hb:x == k with
  | true=>exact ⟨v,rfl⟩
  | false =>
   rcases aH.mp h with e | h
   ·cases e;simp at hb
   ·exact jE h
theorem qg (env:Env):∀(names:List (Str×NameKind)) {x:Str},(x,NameKind.free)∈names->∃c,(x,c)∈eX env names []
 | (n,k) :: r,x,h=>by
  unfold eX;rcases aH.mp h with e | h
  ·cases e;rw[if_pos (by decide),ji];exact ⟨_,bP _ dc⟩
  ·obtain ⟨c,q⟩:=qg env r h
   split
   ·rw[ji];exact ⟨c,kz _ q⟩
   ·exact ⟨c,q⟩
theorem Aw (h:∀y∈scope.names,y.2=.free->∃c,env.cells.lookup y.1=some c):closureFor scope env=pure (eX env scope.names []):=by
 have gen:∀(names:List (Str×NameKind)) (acc:List (Str×Addr)) (f:Str×NameKind->List (Str×Addr)->Sem (ForInStep (List (Str×Addr)))),
   (∀name kind cells,f (name,kind) cells=if kind == .free then (do let a <- cellOf env name;pure (.yield ((name,a) :: cells))) else pure (.yield cells)) →
   (∀y∈names,y.2=.free->∃c,env.cells.lookup y.1=some c)->forIn names acc f=pure (eX env names acc):=by
  intro names
  induction names with
  | nil=>intro acc f hf _;rw[Cm];rfl
  | cons y r ih =>
   intro acc f hf hh;obtain ⟨n,k⟩:=y;rw[Mr,hf];unfold eX;by_cases hk:(k == NameKind.free)=true
   ·obtain ⟨c,hc⟩:=hh (n,k) dc (by simpa using hk);have hc':env.cells.lookup n=some c:=hc;have e:cellOf env n=pure c:=by unfold cellOf;rw[hc']
    rw[if_pos hk,if_pos hk,e,hc'];simp only[pure_bind,eF];exact ih _ f hf λy hy=>hh y (bM _ hy)
   ·rw[if_neg hk,if_neg hk];simp only[pure_bind];exact ih _ f hf λy hy=>hh y (bM _ hy)
 simp only[closureFor];rw[gen scope.names [] _ (λname kind cells=>by cases hkc:kind == NameKind.free <;> simp [hkc]) h];rfl
theorem gP:∀(names:List (Str×NameKind)) (n:Nat) (acc:List (Str×Addr)),cellsFrom n names acc=cellsFrom n names []++acc
 | [],_,_=>rfl
 | (x,k) :: r,n,acc=>by
  unfold cellsFrom
  split
  ·rw[gP r (n+1) (_ :: acc),gP r (n+1) [_],cN];rfl
  ·exact gP r n acc
theorem k6:∀(names:List (Str×NameKind)) (n:Nat) {x:Str} {c:Addr},(x,c)∈cellsFrom n names []->(x,NameKind.cell)∈names
 | [],_,_,_,h=>nomatch h
 | (y,k) :: r,n,x,c,h=>by
  unfold cellsFrom at h
  split at h
  ·rename_i hk
   have ek:k=.cell:=by simpa using hk
   subst ek;rw[gP] at h;rcases av.mp h with h | h
   ·exact bM _ (k6 r _ h)
   ·have e:(x,c)=(y,n):=by simpa using h
    cases e;exact dc
  ·exact bM _ (k6 r _ h)
def xC (env:Env) (scope:Scope) (C:Addr):Env :=
 { scope:=relabel scope env,locals:=C,globals:=env.globals,cells:=cellsFrom (C+1) scope.names (eX env scope.names []),qual:=env.qual,func:=none,code:=env.code,frame:=env.frame,builtins:=env.builtins }
theorem EV 
  (h:Q (newEnv scope s.heap.objs.size g (cellsFrom (s.heap.objs.size+1) scope.names cl) qual none .none (some env) builtinsNs) { s with heap:=pushCells (s.heap.push { cls:=.type "dict",data:=.dict #[] }) scope.names }) :
  wpAny M A (newFunctionEnv scope g cl [] qual none .none (some env)) Q E s:=by
 simp only[newFunctionEnv,Option.isSome_some,if_true];refine wpAny_bind (wpAny_alloc ?_);refine wpAny_bind (wpAny_layCells _ (λname kind cells=>by cases hkc:kind == NameKind.cell <;> simp [hkc]) _ _ _ _ ?_);rw[show ({ s with heap:=s.heap.push { cls:=.type "dict",data:=.dict #[] } }:Shared).heap.objs.size=s.heap.objs.size+1 from Heap.size_push ..];rw[Cm];exact wpAny_bind (wpAny_pure (wpAny_pure h))
theorem vn:∀{k:NameKind},(relabel scope env).names.lookup x=some k->∃k0,scope.names.lookup x=some k0/\(k=k0\/(k0=.free/\k=.cell)):=by
 unfold relabel;show ∀{k:NameKind},(scope.names.map λ(n,k)=>if (k == NameKind.free && env.scope.kind == .function && env.kindOf n == some .cell) then (n,NameKind.cell) else (n,k)).lookup x=some k->_
 induction scope.names with
 | nil=>intro k h;cases h
 | cons y r ih =>
  intro k h;obtain ⟨n,k1⟩:=y;rw[lV,lh] at h;rw[lh];by_cases hc:(k1 == NameKind.free && env.scope.kind == .function && env.kindOf n == some .cell)=true
  ·simp only[hc,if_true] at h;cases hb:x == n with
   | true =>
    simp only[hb] at h
    have e1:k1=.free:=by
     rw[ib,ib] at hc;simpa using hc.1.1
    cases h;exact ⟨k1,rfl,.inr ⟨e1,rfl⟩⟩
   | false=>simp only[hb] at h;exact ih h
  ·have hc':(k1 == NameKind.free && env.scope.kind == .function && env.kindOf n == some .cell)=false:=by simpa using hc
   simp only[hc',jy,if_false] at h;cases hb:x == n with
   | true=>simp only[hb] at h;cases h;exact ⟨_,rfl,.inl rfl⟩
   | false=>simp only[hb] at h;exact ih h
theorem EJ:scope.names.lookup x=some .free->(relabel scope env).names.lookup x=some .cell\/(relabel scope env).names.lookup x=some .free:=by
 unfold relabel;show _->(scope.names.map λ(n,k)=>if (k == NameKind.free && env.scope.kind == .function && env.kindOf n == some .cell) then (n,NameKind.cell) else (n,k)).lookup x=some .cell\/(scope.names.map λ(n,k)=>if (k == NameKind.free && env.scope.kind == .function && env.kindOf n == some .cell) then (n,NameKind.cell) else (n,k)).lookup x=some .free
 induction scope.names with
 | nil=>intro h;cases h
 | cons y r ih =>
  intro h;obtain ⟨n,k1⟩:=y;rw[lh] at h;rw[lV];by_cases hc:(k1 == NameKind.free && env.scope.kind == .function && env.kindOf n == some .cell)=true
  ·simp only[hc,if_true,lh];cases hb:x == n with
   | true=>exact .inl rfl
   | false=>rw[hb] at h;exact ih h
  ·have hc':(k1 == NameKind.free && env.scope.kind == .function && env.kindOf n == some .cell)=false:=by simpa using hc
   simp only[hc',jy,if_false,lh];cases hb:x == n with
   | true=>rw[hb] at h;cases h;exact .inr rfl
   | false=>rw[hb] at h;exact ih h
structure Bz where
 s:Shared
 H:Hp
 fp:List Addr
 C:Addr
def yQ (X:Cx) (own capN:List Str) (scope:Scope) (Z:Bz):Cx where
 prog:=X.prog
 w:=X.w
 K:=X.K
 mg:=X.mg
 base:=X.base
 A:=X.A
 N:=own++capN
 s₀:=Z.s
 H₀:=Z.H
 env:=xC X.env scope Z.C
 outer:=X.stack
 stack:=X.stack
 ex:=Z.fp
 fn:=λx=>own.contains x
 calm:=true
 pn:=[]
 xe:=λ_ _=>False
section
variable {X:Cx} {pins:List (Addr×Obj)} {σ:St} {own capN:List Str} {scope:Scope} {Z:Bz}
theorem jM (B:Bk X.env scope own capN) (I:Inv X pins σ Z.H Z.s) (h:(xC X.env scope Z.C).cells.lookup x=some c) :
  (x∈own/\(x,c)∈cellsFrom (Z.C+1) scope.names [])\/(x∈capN/\x∉own/\X.env.cells.lookup x=some c):=by
 have h':(cellsFrom (Z.C+1) scope.names (eX X.env scope.names [])).lookup x=some c:=h;rw[gP] at h';rcases av.mp (mem_of_lookup h') with m | m
 ·exact .inl ⟨(B.cells _ (k6 _ _ m) rfl).1,m⟩
 ·obtain ⟨m1,e⟩:=qe _ _ m;obtain ⟨q1,q2⟩:=B.frees _ m1 rfl;obtain ⟨d,hd⟩:=I.ok.has x (B.caps x q1);rw[hd] at e;exact .inr ⟨q1,q2,by rw[hd,e];rfl⟩
theorem NW (B:Bk X.env scope own capN) (I:Inv X pins σ Z.H Z.s) (hx:x∈capN) (h:X.env.cells.lookup x=some c):(xC X.env scope Z.C).cells.lookup x=some c:=by
 have hm:(x,NameKind.free)∈scope.names:=mem_of_lookup (B.capf x hx);obtain ⟨c1,m1⟩:=qg X.env scope.names hm
 have hs:∃d,(xC X.env scope Z.C).cells.lookup x=some d:=by
  show ∃d,(cellsFrom (Z.C+1) scope.names (eX X.env scope.names [])).lookup x=some d
  rw[gP];exact jE (bP _ m1)
 obtain ⟨d,hd⟩:=hs;rcases jM B I hd with ⟨q,m⟩ | ⟨_,_,q⟩
 ·exact absurd hx (B.cells _ (k6 _ _ m) rfl).2
 ·rw[h] at q;cases q;exact hd
theorem Jk (h:Heap) (C:Addr) (hC:h.objs.size=C+1) (names:List (Str×NameKind)):CellsOk (pushCells h names) (C+1) (cellsFrom (C+1) names []):=by
 have q:=cellsFrom_ok names h (C+1) [] ⟨λ_ _ hm=>(nomatch hm),List.Pairwise.nil⟩ (by rw[hC];exact ar _);rwa [hC] at q
theorem DM (I:Inv X pins σ Z.H Z.s) (h:X.env.cells.lookup x=some c):@LT.lt Nat instLTNat c Z.s.heap.objs.size:=by
 obtain ⟨v,q⟩:=I.cell x c h;exact q.lt
theorem QE (I:Inv X pins σ Z.H Z.s) (hc:X.calm=true) (B:Bk X.env scope own capN) (hC:Z.s.heap.objs.size<=Z.C) (hcl:CellsOk h1 (Z.C+1) (cellsFrom (Z.C+1) scope.names []))
  (hf:∀b∈Z.fp,kW X pins Z.H b/\@LT.lt Nat instLTNat b Z.s.heap.objs.size):(yQ X own capN scope Z).Ok:=by
 refine ⟨I.ok.mod,B.kind,I.ok.glob,I.ok.blt,hC,λx y c h1 h2=>?_,λx hx=>?_,λx c hx h=>?_,λ_=>I.ok.hd hc,I.ok.frames,.inl rfl,λb hb=>⟨?_,λx c h=>?_⟩,I.bs,ak I.ok.bsz I.sz,λb o e hb=>?_,λb hb hz=>?_,I.stack,I.stkFree⟩
 ·rcases jM B I h1 with ⟨q1,m1⟩ | ⟨q1,n1,m1⟩ <;> rcases jM B I h2 with ⟨q2,m2⟩ | ⟨q2,n2,m2⟩
  ·exact name_of_addr hcl.apart m1 m2
  ·have l1:=(hcl.empty _ _ m1).2;have l2:=DM I m2
   lia
  ·have l1:=(hcl.empty _ _ m2).2;have l2:=DM I m1
   lia
  ·exact I.ok.inj x y c m1 m2
 ·have hx':(relabel scope X.env).names.lookup x=some .cell\/(relabel scope X.env).names.lookup x=some .free:=hx
  have hk:scope.names.lookup x=some .cell\/scope.names.lookup x=some .free:=by
   rcases hx' with h | h
   ·obtain ⟨k0,e,q | ⟨q,_⟩⟩:=vn h
    ·exact .inl (by rw[e,<- q])
    ·exact .inr (by rw[e,q])
   ·obtain ⟨k0,e,q | ⟨_,q⟩⟩:=vn h
    ·exact .inr (by rw[e,<- q])
    ·cases q
  show ∃c,(cellsFrom (Z.C+1) scope.names (eX X.env scope.names [])).lookup x=some c
  rcases hk with h | h
  ·exact Q7.mp (zg scope.names (Z.C+1) _ (.inl h))
  ·obtain ⟨c,m⟩:=qg X.env scope.names (mem_of_lookup h);rw[gP];exact jE (bP _ m)
 ·have ho:x∈own:=by have hx':own.contains x=true:=hx;simpa using hx'
  rcases jM B I h with ⟨_,m⟩ | ⟨_,n,_⟩
  ·have:=(hcl.empty _ _ m).2;have hC':Z.s.heap.objs.size<=Z.C:=hC;show Z.s.heap.objs.size<=c
   lia
  ·exact absurd ho n
 ·intro e;have e':@Eq Nat b Z.C:=e;have:=(hf b hb).2
  lia
 ·have l:=(hf b hb).2;rcases jM B I h with ⟨_,m⟩ | ⟨_,_,m⟩
  ·intro e;have e':@Eq Nat c b:=e;have:=(hcl.empty _ _ m).2
   lia
  ·exact (hf b hb).1.2.2.2.2.1 x c m
 ·obtain ⟨_,_,_,f3,_⟩:=(hf b hb).1;rcases f3 with f3 | f3
  ·exact I.ok.noex b o e f3
  ·exact absurd (bc (Heap.lt_size e) (ak I.ok.bsz f3)) (gG _)
 ·obtain ⟨_,f1,f2,_⟩:=(hf b hb).1;rcases aH.mp (I.stkSub b hz) with e | e
  ·exact f1 e
  ·exact f2 e
def JM (k:Nat) (cap:List Nat) (σ:St):St:=List.replicate k none++cap.map λj=>(σ[j]?).join
def yK (X:Cx) (capN:List Str) (cap:List Nat):Prop:=cap.map (λj=>X.N[j]?)=capN.map some
theorem yK.get (h:yK X capN cap) {i:Nat} (e:capN[i]?=some x):∃j,cap[i]?=some j/\X.N[j]?=some x:=by
 have q:=congrArg (λl=>l[i]?) h;simp only[ay,e,Option.map_some] at q;cases hc:cap[i]? with
 | none=>rw[hc] at q;cases q
 | some j=>rw[hc] at q;exact ⟨j,rfl,by simpa using q⟩
theorem Fg (I:Inv X pins σ Z.H Z.s) (B:Bk X.env scope own capN) (hcap:yK X capN cap)
  (kc:∀x c,X.env.cells.lookup x=some c->∀v,Z.s.heap.IsCell c v->h'.IsCell c v) {i:Nat} (e1:(own++capN)[i]?=some x) (e2:(JM own.length cap σ)[i]?=some (some v)) :
  ∃u,RelV v u/\Look (xC X.env scope Z.C) h' m x u:=by
 have hi:own.length<=i:=by
  by_cases hi:own.length<=i
  ·exact hi
  ·exfalso
   unfold JM at e2;rw[fP (by simpa using hi),mY] at e2
   split at e2 <;> cases e2
 rw[fF hi] at e1;unfold JM at e2;rw[fF (by simpa using hi),dU,ay] at e2;obtain ⟨j,hj,hN⟩:=hcap.get e1;rw[hj] at e2;have e3:(σ[j]?).join=some v:=by simpa using e2
 have e4:σ[j]?=some (some v):=by
  cases q:σ[j]? with
  | none=>rw[q] at e3;cases e3
  | some o=>rw[q] at e3;simp at e3;rw[e3]
 have hx:x∈capN:=ao e1;have hk:=B.caps x hx;obtain ⟨m0,_,hl⟩:=I.loc;obtain ⟨u,r,l⟩:=hl j x v hN e4 (.inr hk);refine ⟨u,r,.inr ⟨EJ (B.capf x hx),?_⟩⟩;rcases l with ⟨hk2,_⟩ | ⟨_,c,hc,z⟩
 ·rcases hk with hk | hk
  ·rw[hk] at hk2;cases hk2
  ·rw[hk] at hk2;cases hk2
 ·exact ⟨c,NW B I hx hc,kc x c hc _ z⟩
theorem Sw (I:Inv X pins σ Z.H Z.s) (h:b∈JP X.stack):@LT.lt Nat instLTNat b Z.s.heap.objs.size:=by
 obtain ⟨_,o,ho,_⟩:=I.stack.mem h;exact Heap.lt_size ho
theorem NU {D:Addr} (I:Inv X pins σ Z.H Z.s) (hc:X.calm=true) (B:Bk X.env scope own capN) (hcap:yK X capN cap) (hC:Z.s.heap.objs.size<=Z.C)
  (hcl:CellsOk h1 (Z.C+1) (cellsFrom (Z.C+1) scope.names [])) (hf:∀b∈Z.fp,kW X pins Z.H b/\@LT.lt Nat instLTNat b Z.s.heap.objs.size)
  (hk:∀b o,Z.s.heap.get? b=some o->h1.get? b=some o) (hn:h1.Ns Z.C λ_=>none) (hD:Z.s.heap.objs.size<=D) (hDC:D≠Z.C) (hoD:h1.get? D=some oD) (hdD:∀v,oD.data≠.cell v) :
  Inv (yQ X own capN scope Z) [(D,oD)] (JM own.length cap σ) Z.H { Z.s with heap:=h1,toks:=t1 }:=by
 refine ⟨QE I hc B hC hcl hf,rfl,I.bare,Un.kept hk,⟨_,hn,λi x v e1 e2 _=>Fg I B hcap (λx c _ v z=>z.keeps hk) e1 e2⟩,λx c h=>?_,I.hok.fresh hC,λx c h=>?_,λp hp=>?_,I.hok.kept hk,?_⟩
 ·rcases jM B I h with ⟨_,m⟩ | ⟨_,_,m⟩
  ·exact ⟨none,(hcl.empty _ _ m).1⟩
  ·obtain ⟨v,q⟩:=I.cell x c m;exact ⟨v,q.keeps hk⟩
 ·rcases jM B I h with ⟨_,m⟩ | ⟨_,_,m⟩
  ·exact I.hok.fresh (by have:=(hcl.empty _ _ m).2;lia)
  ·exact I.freeC x c m
 ·have e:p=(D,oD):=by simpa [yQ] using hp
  subst e;exact ⟨hoD,I.hok.fresh hD,hDC,λz=>gG _ (bc (Sw I z) hD),hdD⟩
 ·show (JM own.length cap σ).length=(own++capN).length
  have:=congrArg List.length hcap;simp only[ag] at this;unfold JM;simp [this]
theorem LK {σ':St} (I:Inv X pins σ Z.H Z.s) (B:Bk X.env scope own capN) (hcap:yK X capN cap) (hf:∀b∈Z.fp,kW X pins Z.H b/\@LT.lt Nat instLTNat b Z.s.heap.objs.size)
  (J:Inv (yQ X own capN scope Z) pins' σ' H' s'):Inv (yQ X own capN scope Z) pins' (JM own.length cap σ) H' s':=by
 refine ⟨J.ok,J.os,J.bare,J.base,?_,J.cell,J.free,J.freeC,J.pin,J.hok,?_⟩
 ·obtain ⟨m,hn,_⟩:=J.loc;refine ⟨m,hn,λi x v e1 e2 _=>Fg I B hcap (λx c hx v z=>?_) e1 e2⟩;obtain ⟨o,ho,hd⟩:=z;obtain ⟨sl,e⟩:=J.base.any ho (I.freeC x c hx) λz=>(hf c z).1.2.2.2.2.1 x c hx rfl
  exact ⟨_,e,hd⟩
 ·show (JM own.length cap σ).length=(own++capN).length
  have:=congrArg List.length hcap;simp only[ag] at this;unfold JM;simp [this]
theorem NV {σ':St} {D:Addr} (I:Inv X pins σ Z.H Z.s) (hf:∀b∈Z.fp,kW X pins Z.H b/\@LT.lt Nat instLTNat b Z.s.heap.objs.size) (hD:Z.s.heap.objs.size<=D)
  (J:Inv (yQ X own capN scope Z) [(D,{ cls:=.type "list",data:=.seq its.toArray n })] σ' H' s') (r:cZ ys its) (hz:ys.length<=sizeLine) :
  Inv X pins σ (upd H' D (.lst ys)) s':=by
 have pD:=J.pin (D,{ cls:=.type "list",data:=.seq its.toArray n }) (by simp);have ne:∀{b:Addr} {o:Obj},Z.s.heap.get? b=some o->b≠D:=λe z=>by subst z;exact gG _ (bc (Heap.lt_size e) hD)
 have nt:∀{b:Addr} {u:HO},H' b=some u->b≠D:=λe z=>by rw[z,pD.2.1] at e;cases e
 refine I.call' (ch:=Z.fp) J.os ⟨J.base.keep,J.base.slot,λb o e h hx=>?_,J.base.there,λb xs e=>?_,λb o u e=>?_,λb ps e=>?_⟩ (λb u e=>?_) J.bare λb hb=>?_
 ·rw[aZ (ne e)];exact J.base.free b o e h hx
 ·have q:=J.base.tups b xs e;rw[aZ (nt q)];exact q
 ·have q:=J.base.frzs b o u e;rw[aZ (nt q)];exact q
 ·obtain ⟨more,q⟩:=J.base.tbls b ps e;exact ⟨more,by rw[aZ (nt q)];exact q⟩
 ·by_cases hb:b=D
  ·subst hb;rw[aK] at e;cases e;exact ⟨hz,its,n,r,pD.1⟩
  ·rw[aZ hb] at e;exact (J.hok b u e).stay (λc v _ q=>q) (λc q=>by rw[aZ (nt q)];exact q) λc xs q=>by rw[aZ (nt q)];exact q
 ·obtain ⟨_,f1,_,f3,f4,f5⟩:=(hf b hb).1;exact ⟨f3,f1,f4,f5⟩
end
theorem O8 {t:Sem α} {Q Q':α->Shared->Prop} (h:wpAny M A t Q (λ_ _=>False) s) (hQ:∀a s,Q a s->Q' a s):wpAny M A t Q' E s :=
 wpAny_mono h hQ λ_ _ z=>False.elim z
theorem DJ (I:Nat->Shared->Prop)
  (turn:∀(E:Value->Shared->Prop) n s,I n s->wpAny (model prog w) A (pyNext it) (λr s₁=>match r with
   | none=>R (.ok .next) s₁
   | some v=>wpAny (model prog w) A (letOwnedTupleGo target it v) (λ_ s₂=>wpAny (model prog w) A (assign target env v) (λ_ s₃ =>
     wpAny (model prog w) A (forIn ifs true λc r=>if r=true then do let ok <- isTrue c env (eval c env);pure (ForInStep.yield ok) else pure (ForInStep.yield r)) (λok s₄ =>
      if ok=true then wpAny (model prog w) A (eval elt env) (λx s₅=>wpAny (model prog w) A (call (.builtin "list.append") [acc,x]) (λ_ s₆=>∃m,m < n/\I m s₆) E s₅) E s₄
      else ∃m,m < n/\I m s₄) E s₃) E s₂) E s₁) E s)
  (n:Nat) (h:I n s):codeAny (model prog w) A (.compLoop (.ListComp elt [⟨target,iter,ifs,0⟩] scope pos) 0 it acc env) R s:=by
 refine codeAny_loop rfl I (λn s hI=>?_) n h;show wpAny _ A ((compTurn (.ListComp elt [⟨target,iter,ifs,0⟩] scope pos) 0 it acc env).onRaise (λx=>do noteFrame x env;theTreesLotGoes x)) _ _ s
 refine wpAny_noted ?_;rw[compTurn_list];refine wpAny_bind (wpAny_standAt (wpAny_bind (wpAny_mono (turn _ n s hI) (λr s₁ h₁=>?_) λ_ _ h'=>h')));cases r with
 | none=>exact wpAny_pure h₁
 | some v =>
  refine wpAny_bind (wpAny_mono h₁ (λ_ s₂ h₂=>wpAny_bind (wpAny_mono h₂ (λ_ s₃ h₃=>wpAny_bind (wpAny_mono h₃ (λok s₄ h₄=>?_) λ_ _ h'=>h')) λ_ _ h'=>h')) λ_ _ h'=>h');cases ok with
  | false=>exact wpAny_pure ⟨rfl,h₄⟩
  | true =>
   exact wpAny_bind (wpAny_bind (wpAny_mono h₄ (λx s₅ h₅=>wpAny_bind (wpAny_mono h₅ (λ_ s₆ h₆=>wpAny_pure (wpAny_pure ⟨rfl,h₆⟩)) λ_ _ h'=>h')) λ_ _ h'=>h'))
def PF (X:Cx) (ifs:List Expr) (t:TT):Prop :=
 ∀(pins:List (Addr×Obj)) (s:Shared) (σ:St) (H:Hp) (Q:Bool->Hp->Prop),Inv X pins σ H s->t σ H Q →
  wpAny (model X.prog X.w) X.A (forIn ifs true λc r=>if r=true then do let ok <- isTrue c X.env (eval c X.env);pure (ForInStep.yield ok) else pure (ForInStep.yield r)) (TP X pins σ Q) X.xe s
def Rk:TT:=λ_ H Q=>Q true H
theorem cu:PF X [] Rk:=λ_ _ _ H _ I h=>wpAny_tests_nil ⟨H,I,h⟩
def qD (σ₀:St) (g:TG) (tf:TT) (te:TE) (x:V) (H:Hp) (NY:V->Hp->Prop) (NN:Hp->Prop):Prop :=
 g x σ₀ H λσ2 H2=>tf σ2 H2 λb H3=>if b=true then te σ2 H3 NY else NN H3
def qL (J:It) (σ₀:St) (g:TG) (tf:TT) (te:TE) (Q:VK) (H1:Hp):Prop :=
 ∃W:Nat->Nat->List V->Hp->Prop,(∃m,W 0 m [] H1)/\∀i m ys H,W i m ys H →
  (J.stop i H/\ys.length<=sizeLine/\∀p,H p=none->Q (.ref p) (upd H p (.lst ys))) \/
  (J.go i H/\ys.length < sizeLine/\∃(NY:V->Hp->Prop) (NN:Hp->Prop),(∀y H',NY y H'->∃m',m' < m/\W (i+1) m' (ys++[y]) H')/\(∀H',NN H'->∃m',m' < m/\W (i+1) m' ys H') /\
   ∀x H',J.yld i H x H'->qD σ₀ g tf te x H' NY NN)
def Eh (wi:TI) (k:Nat) (cap:List Nat) (g:TG) (tf:TT) (te:TE):TE:=λσ H Q=>wi σ H λJ H1=>qL J (JM k cap σ) g tf te Q H1
abbrev lobj (its:List Value) (n:Nat):Obj:={ cls:=.type "list",data:=.seq its.toArray n }
section
variable {X:Cx} {own capN:List Str} {cap:List Nat} {scope:Scope} {elt tg iter:Expr} {ifs:List Expr} {pos:Pos} {wi:TI} {g:TG} {tf:TT} {te:TE}
theorem BS (hc:X.calm=true) (B:Bk X.env scope own capN) (hcap:yK X capN cap)
  (hi:PI X tg iter wi) (hg:∀Z,PG (yQ X own capN scope Z) tg g) (hf:∀Z,PF (yQ X own capN scope Z) ifs tf) (he:∀Z,PE (yQ X own capN scope Z) elt te)
  (hs:∀x,foldedSetIterable iter X.env x=pure x) {σ:St} (I:Inv X pins σ H s) (h:Eh wi own.length cap g tf te σ H Q)
  (fin:∀(D C:Addr) (s':Shared) (H':Hp),Inv X pins σ H' s'->kW X pins H' C->(∃m,s'.heap.Ns C m)->Q (.ref D) H'->compPost (model X.prog X.w) X.A X.xe use Qe (.ref D) C (.ok .next) s') :
  wpAny (model X.prog X.w) X.A (comprehension (.ListComp elt [⟨tg,iter,ifs,0⟩] scope pos) scope X.env fpos (newList []) false (eval iter X.env) use) Qe X.xe s:=by
 refine wpAny_comprehension_free (use:=use) rfl hs (Aw λy hy hk=>I.ok.has y.1 (B.caps _ (B.frees y hy hk).1)) B.kind B.locs ?_;refine iK (hi pins s σ H _ I h) λv s1 h1=>iK h1 λitv s2 h2=>?_
 obtain ⟨it,fp,tn,J,H2,e,I2,T,st2,f2,W,⟨m0,w0⟩,turn⟩:=h2;subst e;have hfp:∀b∈fp,kW X pins H2 b/\@LT.lt Nat instLTNat b s2.heap.objs.size:=λb hb=>⟨f2 b hb,let ⟨_,e,_⟩:=T.obj _ _ st2 b hb;Heap.lt_size e⟩
 refine wpAny_newObj_type (EV ?_) (b8 _);have es:(s2.heap.push { cls:=.type "list",data:=.seq ([]:List Value).toArray }).objs.size=s2.heap.objs.size+1:=Heap.size_push ..
 show codeAny _ _ (.compStart _ 0 (.ref it) (.ref s2.heap.objs.size) { newEnv scope (s2.heap.push { cls:=.type "list",data:=.seq ([]:List Value).toArray }).objs.size X.env.globals (cellsFrom ((s2.heap.push { cls:=.type "list",data:=.seq ([]:List Value).toArray }).objs.size+1) scope.names (eX X.env scope.names [])) X.env.qual none .none (some X.env) builtinsNs with scope:=relabel scope X.env })
  (compPost (model X.prog X.w) X.A X.xe use Qe (.ref s2.heap.objs.size) (s2.heap.push { cls:=.type "list",data:=.seq ([]:List Value).toArray }).objs.size)
  { s2 with heap:=pushCells ((s2.heap.push { cls:=.type "list",data:=.seq ([]:List Value).toArray }).push { cls:=.type "dict",data:=.dict #[] }) scope.names }
 have hk1:∀b o,(s2.heap.push { cls:=.type "list",data:=.seq ([]:List Value).toArray }).get? b=some o->(pushCells ((s2.heap.push { cls:=.type "list",data:=.seq ([]:List Value).toArray }).push { cls:=.type "dict",data:=.dict #[] }) scope.names).get? b=some o :=
  λb o e=>pushCells_keeps _ _ _ _ (Heap.get?_push_of_some _ e)
 have hk:∀b o,s2.heap.get? b=some o->(pushCells ((s2.heap.push { cls:=.type "list",data:=.seq ([]:List Value).toArray }).push { cls:=.type "dict",data:=.dict #[] }) scope.names).get? b=some o:=λb o e=>hk1 b o (Heap.get?_push_of_some _ e)
 have hoD:=hk1 s2.heap.objs.size _ (Heap.get?_push_size s2.heap (o:={ cls:=.type "list",data:=.seq ([]:List Value).toArray }) rfl);have hn:=(Heap.Ns.new (s2.heap.push { cls:=.type "list",data:=.seq ([]:List Value).toArray }) (.type "dict")).keeps (pushCells_keeps scope.names _);have hcl:=Jk ((s2.heap.push { cls:=.type "list",data:=.seq ([]:List Value).toArray }).push { cls:=.type "dict",data:=.dict #[] }) (s2.heap.objs.size+1) (by rw[Heap.size_push,es]) scope.names;rw[es] at hn ⊢;generalize pushCells ((s2.heap.push { cls:=.type "list",data:=.seq ([]:List Value).toArray }).push { cls:=.type "dict",data:=.dict #[] }) scope.names=h3 at hk hoD hn hcl ⊢;have Z:Bz:=⟨s2,H2,fp,s2.heap.objs.size+1⟩
 have I3:Inv (yQ X own capN scope ⟨s2,H2,fp,s2.heap.objs.size+1⟩) [(s2.heap.objs.size,lobj [] 0)] (JM own.length cap σ) H2 { s2 with heap:=h3 } :=
  NU (Z:=⟨s2,H2,fp,s2.heap.objs.size+1⟩) (t1:=s2.toks) I2 hc B hcap (Ck _) hcl hfp hk hn (ar _) (cL (jn _)) hoD (λv z=>nomatch z)
 have st3:tn 0 h3:=T.keep _ _ _ st2 λb _ o e=>hk b o e
 have loop:codeAny (model X.prog X.w) X.A (.compLoop (.ListComp elt [⟨tg,iter,ifs,0⟩] scope pos) 0 (.ref it) (.ref s2.heap.objs.size) (xC X.env scope (s2.heap.objs.size+1))) (compPost (model X.prog X.w) X.A X.xe use Qe (.ref s2.heap.objs.size) (s2.heap.objs.size+1)) { s2 with heap:=h3 }:=by
  refine DJ (λm s'=>∃i ys σ' H' its n,Inv (yQ X own capN scope ⟨s2,H2,fp,s2.heap.objs.size+1⟩) [(s2.heap.objs.size,lobj its n)] σ' H' s'/\tn i s'.heap/\(∀b∈fp,H' b=none)/\cZ ys its/\W i m ys H') ?_ m0
   ⟨0,[],_,H2,[],0,I3,st3,λb hb=>(f2 b hb).1,.nil,w0⟩
  rintro E n s4 ⟨i,ys,σ4,H4,its,k,I4,st4,fr4,rv,w4⟩
  have fpo:∀{pp:List (Addr×Obj)} {H':Hp},(∀p∈pp,p.1=s2.heap.objs.size)->(∀b∈fp,H' b=none)->∀b∈fp,kW (yQ X own capN scope ⟨s2,H2,fp,s2.heap.objs.size+1⟩) pp H' b:=λ{pp H'} hpp hn b hb=>by
   obtain ⟨e1,e2⟩:=I4.ok.exf b hb;refine ⟨hn b hb,e1,I4.ok.exfs b hb,.inl hb,e2,λp hp=>?_⟩;have hp':p∈pp:=by simpa [yQ] using hp
   have l:=(hfp b hb).2;rw[hpp p hp'];exact λz=>gG _ (by rw[<- z] at l;exact l)
  have pinD:∀{its:List Value} {n:Nat},∀p∈[(s2.heap.objs.size,lobj its n)],p.1=s2.heap.objs.size:=λp hp=>by simp at hp;rw[hp]
  rcases turn i n ys H4 w4 with ⟨stop,hz,q⟩ | ⟨go,hlt,NY,NN,hNY,hNN,step⟩
  ·refine iK (T.done (yQ X own capN scope ⟨s2,H2,fp,s2.heap.objs.size+1⟩) rfl rfl rfl rfl i _ s4 σ4 H4 E I4 (fpo pinD fr4) st4 stop) λr s5 ⟨hr,I5⟩=>?_
   subst hr;have pD:=I5.pin (s2.heap.objs.size,lobj its k) (by simp);have I6:=NV (Z:=⟨s2,H2,fp,s2.heap.objs.size+1⟩) I2 hfp (ar _) I5 rv hz
   have hC:upd H4 s2.heap.objs.size (.lst ys) (s2.heap.objs.size+1)=none:=by
    rw[aZ (IL (jn _))];exact I5.free
   obtain ⟨m,hm,_⟩:=I5.loc;exact fin _ _ s5 _ I6 (I2.fpOk (Ck _) hC) ⟨m,hm⟩ (q _ pD.2.1)
  ·refine iK (T.item (yQ X own capN scope ⟨s2,H2,fp,s2.heap.objs.size+1⟩) rfl rfl rfl rfl i _ s4 σ4 H4 E I4 (fpo pinD fr4) st4 go) λr s5 ⟨u,hr,h5⟩=>?_
   subst hr;refine iK h5 λ_ s6 ⟨x,H6,I6,r6,y6,st6,fr6⟩=>?_
   have I6':=(LK (Z:=⟨s2,H2,fp,s2.heap.objs.size+1⟩) I2 B hcap hfp I6).pinned (fpo pinD fr6) (T.obj _ _ st6)
   have back:∀{σ7:St} {H7:Hp} {s7:Shared},Inv (yQ X own capN scope ⟨s2,H2,fp,s2.heap.objs.size+1⟩) ([(s2.heap.objs.size,lobj its k)]++zN fp s6.heap) σ7 H7 s7 →
     Inv (yQ X own capN scope ⟨s2,H2,fp,s2.heap.objs.size+1⟩) [(s2.heap.objs.size,lobj its k)] σ7 H7 s7/\tn (i+1) s7.heap/\∀b∈fp,H7 b=none:=λ{σ7 H7 s7} I7=>by
    refine ⟨I7.unpinned,T.keep _ _ _ st6 λb hb o e=>(I7.pin (b,o) (bP _ (bP _ (p5 hb e)))).1,λb hb=>?_⟩;obtain ⟨o,e,d⟩:=T.obj _ _ st6 b hb;exact (I7.pin (b,o) (bP _ (bP _ (p5 hb e)))).2.1
   refine O8 (hg _ _ s6 _ H6 x u _ I6' r6 (step x H6 y6)) λ_ s7 ⟨σ7,H7,I7,q7⟩=>?_
   refine O8 (hf _ _ s7 σ7 H7 _ I7 q7) λok s8 ⟨H8,I8,q8⟩=>?_
   cases ok with
   | false =>
    rw[if_neg bE] at q8 ⊢;obtain ⟨m',hm,w8⟩:=hNN H8 q8;obtain ⟨J1,J2,J3⟩:=back I8;exact ⟨m',hm,i+1,ys,σ7,H8,its,k,J1,J2,J3,rv,w8⟩
   | true =>
    rw[if_pos rfl] at q8 ⊢;refine O8 (he _ _ s8 σ7 H8 _ I8 q8) λz s9 ⟨y,H9,I9,r9,q9⟩=>?_
    obtain ⟨J1,J2,J3⟩:=back I9;obtain ⟨m',hm,w9⟩:=hNY y H9 q9;have pD:=J1.pin (s2.heap.objs.size,lobj its k) (by simp);have hl:=rv.length;refine call_meets F.slot_list_append ⟨_,pD.1,rfl⟩ F.entry_list_append (F.args_list_append_2 _ _) (PySem.list_append s2.heap.objs.size its.toArray k z (by rw[aX];lia)) ⟨pD.1,?_⟩;have e9:=lg pD.1 (λa=>a.push z);have e9':(its.toArray.push z)=(its++[z]).toArray:=by simp
    rw[e9'] at e9;obtain ⟨n',e9⟩:∃n',(s9.heap.update s2.heap.objs.size (Obj.mapSeq λa=>a.push z)).get? s2.heap.objs.size=some (lobj (its++[z]) n'):=⟨_,e9⟩
    have J4:Inv (yQ X own capN scope ⟨s2,H2,fp,s2.heap.objs.size+1⟩) [] σ7 H9 { s9 with heap:=s9.heap.update s2.heap.objs.size (Obj.mapSeq λa=>a.push z),toks:=s9.toks } :=
     (J1.pins_of (pins':=[]) λp hp=>nomatch hp).turned (λb o hb e=>(Heap.get?_update_other s9.heap _ (Ne.symm hb)).trans e) pD.2.1 pD.2.2.1 (.inr (ar _)) (λx c hx z=>by
      rcases jM (Z:=⟨s2,H2,fp,s2.heap.objs.size+1⟩) B I2 hx with ⟨_,m⟩ | ⟨_,_,m⟩
      ·have:=(hcl.empty _ _ m).2;have z':@Eq Nat c s2.heap.objs.size:=z
       lia
      ·have:=DM (Z:=⟨s2,H2,fp,s2.heap.objs.size+1⟩) I2 m;rw[z] at this;exact gG _ this) λp hp=>by simp [yQ] at hp
    have nfp:∀b∈fp,b≠s2.heap.objs.size:=λb hb z=>by have:=(hfp b hb).2;rw[z] at this;exact gG _ this
    refine ⟨m',hm,i+1,ys++[y],σ7,H9,its++[z],n',J4.pins_of λp hp=>?_,T.keep _ _ _ J2 λb hb o e=>(Heap.get?_update_other s9.heap _ (Ne.symm (nfp b hb))).trans e,J3,rv.append (.cons r9 .nil),w9⟩;have ep:p=(s2.heap.objs.size,lobj (its++[z]) n'):=by simpa using hp
    rw[ep];exact ⟨e9,pD.2.1,pD.2.2.1,pD.2.2.2.1,λv z=>nomatch z⟩
 exact codeAny_compStart_list loop (T.self _ _ _ _ _ st3 loop)
theorem cb (own capN:List Str) (cap:List Nat) (hi:PI X tg iter wi) (hg:∀Z,PG (yQ X own capN scope Z) tg g) (hf:∀Z,PF (yQ X own capN scope Z) ifs tf) (he:∀Z,PE (yQ X own capN scope Z) elt te)
  (h1:S4 scope own capN=true:=by decide +kernel) (h2:BV X.env capN=true:=by rfl) (hcap:yK X capN cap:=by rfl) (hc:X.calm=true:=by rfl) (hs:∀x,foldedSetIterable iter X.env x=pure x:=by intro _;rfl) :
  PE X (.ListComp elt [⟨tg,iter,ifs,0⟩] scope pos) (Eh wi own.length cap g tf te):=by
 intro pins s σ H Q I h;rw[eval_ListComp];refine BS (use:=none) hc (Bk.of h1 h2) hcap hi hg hf he hs I h λD C s' H' I' fC hm q=>?_
 obtain ⟨m,hm⟩:=hm;refine ⟨m,hm,λh' hs'=>?_⟩;obtain ⟨f0,f1,f2,f3,f4,f5⟩:=fC;exact ⟨.ref D,H',I'.turned (t':=s'.toks) (λb o hb e=>(hs'.2 b hb).trans e) f0 f1 f3 f4 f5,rfl,q⟩
theorem nh (i:Nat) (own capN:List Str) (cap:List Nat) {x:Str} {pos' spos:Pos} (hN:X.N.Nodup) (hi':X.N[i]?=some x) (hx:X.env.scope.names.lookup x=some .local) (hi:PI X tg iter wi) (hg:∀Z,PG (yQ X own capN scope Z) tg g) (hf:∀Z,PF (yQ X own capN scope Z) ifs tf) (he:∀Z,PE (yQ X own capN scope Z) elt te)
  (h1:S4 scope own capN=true:=by decide +kernel) (h2:BV X.env capN=true:=by rfl) (hcap:yK X capN cap:=by rfl) (hc:X.calm=true:=by rfl) (hs:∀x,foldedSetIterable iter X.env x=pure x:=by intro _;rfl)
  (hsw:swapsWith (.ListComp elt [⟨tg,iter,ifs,0⟩] scope pos) (some (.Name x pos')) spos.line X.env=pure true:=by rfl) :
  PS X (.Assign [.Name x pos'] (.ListComp elt [⟨tg,iter,ifs,0⟩] scope pos) spos) (Mv (Eh wi own.length cap g tf te) (Ir i)):=by
 intro pins s σ H D I h;rw[exec_Assign_Name_used _ _ _ _ hsw];refine wpAny_bind (wpAny_standAt (wpAny_bind ?_));rw[arm_evalThenUse_ListComp];refine wpAny_bind (BS (Q:=λv H1=>D.nx (σ.set i (some v)) H1) (use:=some _) hc (Bk.of h1 h2) hcap hi hg hf he hs I h λL C s' H' I' fC hm q=>?_);obtain ⟨m,hm⟩:=hm;obtain ⟨f0,f1,f2,f3,f4,f5⟩:=fC;refine wpAny_assign_Name (Bv I' hN hi' (.inl hx) (v:=.ref L) rfl (λs'' I'' ⟨a,sb,ha⟩=>?_) (.inr hx))
 have hCa:C≠a:=by
  rcases ha with e | e
  ·rw[e];exact f1
  ·exact (f4 x a e).symm
 refine ⟨m,hm.at' λo e=>(sb.2 C hCa).trans e,λh' hs'=>?_⟩;have I3:=I''.turned (h':=h') (t':=s''.toks) (λb o hb e=>(hs'.2 b hb).trans e) f0 f1 f3 f4 f5;exact wpAny_pure (wpAny_pure ⟨_,H',I3,q⟩)
end
section
variable {K:FG9} {a:Addr} {xs:List V} {g:TG} {tf:TT} {te:TE} {Q:VK} {σ₀:St} {H:Hp}
theorem iG (Pv:Nat->List V->Hp->Prop) (hz:xs.length<=sizeLine) (h0:Pv 0 [] H) (hl:∀i ys H,i<=xs.length->Pv i ys H->bK K H a xs)
  (hs:∀i x ys H,xs[i]?=some x->ys.length<=i->Pv i ys H->qD σ₀ g tf te x H (λy H'=>Pv (i+1) (ys++[y]) H') (λH'=>Pv (i+1) ys H'))
  (hd:∀ys H,ys.length<=xs.length->Pv xs.length ys H->∀p,H p=none->Q (.ref p) (upd H p (.lst ys))):qL (Mi K a) σ₀ g tf te Q H:=by
 refine ⟨λi m ys H=>m=xs.length - i/\i<=xs.length/\ys.length<=i/\Pv i ys H,⟨xs.length,by simp,b8 _,b8 _,h0⟩,?_⟩;rintro i m ys H ⟨rfl,hi,hy,p⟩;have q:=hl i ys H hi p;by_cases hlt:i < xs.length
 ·refine .inr ⟨⟨xs,xs[i],q,by simp [hlt]⟩,by lia,λy H'=>Pv (i+1) (ys++[y]) H',λH'=>Pv (i+1) ys H',λy H' p'=>⟨xs.length - (i+1),by lia,rfl,hlt,by rw[aF,fR];lia,p'⟩,λH' p'=>⟨xs.length - (i+1),by lia,rfl,hlt,by lia,p'⟩,λx H' y=>?_⟩;obtain ⟨e,y⟩:=y;subst e;exact hs i x ys _ (y xs q) hy p
 ·have e:i=xs.length:=by lia
  subst e;exact .inl ⟨⟨xs,q,ar _⟩,by lia,hd ys H hy p⟩
theorem uP {lo:Int} (Pv:Nat->List V->Hp->Prop) (hz:n<=sizeLine) (h0:Pv 0 [] H)
  (hs:∀i ys H,i < n->ys.length<=i->Pv i ys H->qD σ₀ g tf te (.int (lo+i)) H (λy H'=>Pv (i+1) (ys++[y]) H') (λH'=>Pv (i+1) ys H'))
  (hd:∀ys H,ys.length<=n->Pv n ys H->∀p,H p=none->Q (.ref p) (upd H p (.lst ys))):qL (IK lo n) σ₀ g tf te Q H:=by
 refine ⟨λi m ys H=>m=n - i/\i<=n/\ys.length<=i/\Pv i ys H,⟨n,by simp,b8 _,b8 _,h0⟩,?_⟩;rintro i m ys H ⟨rfl,hi,hy,p⟩;by_cases hlt:i < n
 ·refine .inr ⟨hlt,by lia,λy H'=>Pv (i+1) (ys++[y]) H',λH'=>Pv (i+1) ys H',λy H' p'=>⟨n - (i+1),by lia,rfl,hlt,by rw[aF,fR];lia,p'⟩,λH' p'=>⟨n - (i+1),by lia,rfl,hlt,by lia,p'⟩,λx H' y=>?_⟩;obtain ⟨e,y⟩:=y;subst e y;exact hs i ys _ hlt hy p
 ·have e:i=n:=by lia
  subst e;exact .inl ⟨ar _,by lia,hd ys H hy p⟩
end
open Nm
def fD (i j:Int):Prop:=QV i j\/∃m n,Sz m i/\Sz n j/\m+n<=100000000
def nO (i j:Int):Prop:=j≠0/\Sz 8999000 j
theorem Ay (h:Sz k i):Builtin.Int.intBits i<=k:=by
 unfold Builtin.Int.intBits;by_cases e:i=0
 ·subst e;simp
 ·have e':(i == 0)=false:=by simpa using e
  rw[e'];have hn:i.natAbs≠0:=by lia
  have:=(Nat.log2_lt hn).mpr h;simp only[jy,if_false]
  lia
theorem fD.ok (h:fD i j):IntMulOk i j:=by
 rcases h with h | ⟨m,n,h1,h2,h3⟩
 ·exact h.ok
 ·exact .of_le (Ay h1) (Ay h2) (ak h3 (by decide))
section
variable {X:Cx} {a b:Expr} {ta tb:TE} {pos:Pos}
theorem cy:AO X (binaryOp .Mult) (rI fD λi j=>.int (i*j)):=Tj λ_ _ _ _ _ _ _ hc q=>mul_int q hc.ok
theorem hJ (hs:X.stack=env :: l) (S:a7 N ps sc) (he:env.scope=sc) (hb:env.builtins=builtinsNs) (hg:env.globals=mainGlobals) (ht:X.prog.given.tree=none) (hd:X.A.depth+Builtin.pylongFrames < recursionLimit):AO X (binaryOp .FloorDiv) (rI nO λi j=>.int (i.fdiv j)):=by
 intro pins s σ H x y v u Q I rx ry h;obtain ⟨i,j,rfl,rfl,hc,q⟩:=h;obtain ⟨t,rfl⟩:=rx;obtain ⟨t',rfl⟩:=ry;refine floordiv_int hc.1 ⟨.int _,H,I.tok _,⟨_,rfl⟩,q⟩ (.inr (PySem.PylongRoom.of I.nolimit hd (PySem.SeerAt.of (I.ok.mod.seer.keeps I.bk) ht (env:=env) (l:=l) (by rw[I.ok.frames,hs]) (by rw[he];exact S.gen) (by rw[he];exact S.co) hb hg)))
theorem oW (hr:lK k A):A.depth+Builtin.pylongFrames < recursionLimit:=by have:=hr.dp;show A.depth+100 < _;lia
def Rm (t u:TS):TS:=λD σ H=>∃N:St->Hp->Prop,t { D with nx:=N } σ H/\∀σ' H',N σ' H'->u D σ' H'
theorem jJ {st:Stmt} (h1:PS X st t) (h2:GQ X rest u):GQ X (st :: rest) (Rm t u):=by
 intro pins s σ H D I h;obtain ⟨N,h,k⟩:=h;refine wpAny_execs_cons (iK (h1 pins s σ H { D with nx:=N } I h) λf s1 q=>?_);cases f with
 | next =>
  obtain ⟨σ',H',I',q⟩:=q;exact h2 pins s1 σ' H' D I' (k _ _ q)
 | ret v=>exact q
 | brk=>exact q
 | cont=>exact q
def Oy (K:FG9):V->V->Hp->VK->Prop:=λo i H Q=>∃p xs k v,o=.ref p/\i=.int k/\bK K H p xs/\GG xs k=some v/\Q v H
theorem Lj:SO X (Oy X.K):=by
 intro pins s σ H o i ov iv Q I ro ri h;obtain ⟨p,xs,k,z,rfl,rfl,hq,he,q⟩:=h;cases ro;obtain ⟨t,rfl⟩:=ri;obtain ⟨its,r,pl,hz⟩:=I.list hq;obtain ⟨j,h1,h2,h3,h4,h5⟩:=DQ he;obtain ⟨w,ew,rw'⟩:=r.get h2;have hl:=r.length;have hn:=Aa;have fin:EP X pins σ Q w s:=⟨z,H,I,rw',q⟩;by_cases h0:0<=k
 ·have hj:k.toNat=j:=by
   rw[seqIndex_of h0 h5] at h1;exact b6 h1
  exact wpAny_getItem_list pl.isList h0 (by lia) (by rw[hj];simpa using ew) fin
 ·have hj:(k+(its.toArray.size:Int)).toNat=j:=by
   rw[seqIndex_neg (by lia) h4] at h1;rw[aX,<- hl];exact b6 h1
  exact wpAny_getItem_list_neg pl.isList (by lia) (by rw[aX] <;> lia) (by lia) (by rw[hj];simpa using ew) fin
def Ji (K:FG9) (T:String):V->Hp->VK->Prop:=λx H Q=>∃t b,xE K H x t/\PySem.W.kitOne K t (.type T)=some b/\Q (.bl b) H
theorem C6 {c:Str} {T:String} {p p2:Pos} (hg:Gl X "isinstance") (hm:X.mg "isinstance"=none) (hb:bootBuiltins c=some (.type T)) (hmc:X.mg c=none) (ha:PE X a ta) (hgc:Gl X c:=by rfl) (hn:c≠"__name__":=by decide)
  (hd:(c == ("__debug__":Str))=false:=by decide) (he:starEach [a,.Name c p2] X.env=[(false,eval a X.env),(false,eval (.Name c p2) X.env)]:=by rfl)
  (hpl:(backTo pos (starEach [.Name c p2] X.env)).any (·.1)=false:=by rfl) (he2:starEach [.Name c p2] X.env=[(false,eval (.Name c p2) X.env)]:=by rfl):PE X (.Call (.Name "isinstance" p) [a,.Name c p2] [] pos) (S0 (Ji X.K T) ta):=by
 intro pins s σ H Q I h;refine wpAny_Call_Name_kw (oC I hg hm PyProof.Rows.boot_isinstance ?_);have hA:PA X [a,.Name c p2] (qX ta (qX (tC (.ty T)) IY)):=aa ha (aa (HY hgc hmc hb rfl hn hd) ai he2) (by rw[he,he2])
 have hq:qX ta (qX (tC (.ty T)) IY) σ H (λvs H1=>∃x,vs=[x,.ty T]/\Ji X.K T x H1 Q):=by
  show ta σ H λx H1=>∃x',[x,V.ty T]=[x',V.ty T]/\Ji X.K T x' H1 Q
  have e:(λx H1=>∃x',[x,V.ty T]=[x',V.ty T]/\Ji X.K T x' H1 Q)=λx H1=>Ji X.K T x H1 Q:=by
   funext x H1;apply propext;constructor
   ·rintro ⟨x',e,q⟩;cases e;exact q
   ·intro q;exact ⟨x,rfl,q⟩
  rw[e];exact h
 refine PyProof.Rows.callWith_builtin1 (iK (hA pos pins s σ H _ I hq) λus s1 ⟨vs,H1,I1,r1,x,e,q1⟩=>?_) (by rw[he,he2]) hpl;subst e;obtain ⟨u,w',rfl,ru,rt⟩:=vals2 r1;cases rt;obtain ⟨t,bb,ty,ek,q⟩:=q1;exact BL I1 ru ty ek λtk=>⟨.bl bb,H1,I1.tok tk,rfl,q⟩
end
structure Kind (α:Type) [DecidableEq α] where
 R:FG9->Hp->V->α->Prop
 d:Nat
 inj:∀{X:Cx} {pins:List (Addr×Obj)} {σ:St} {H:Hp} {s:Shared} {x:V} {a b:α},Inv X pins σ H s->R X.K H x a->R X.K H x b->a=b
 rc:∀{X:Cx} {pins:List (Addr×Obj)} {σ:St} {H:Hp} {s:Shared} {x y:V} {v u:Value} {a b:α} {A:Around},Inv X pins σ H s->RelV x v->RelV y u->R X.K H x a->R X.K H y b->A.units+d < cLine->SeqAt.RcAt A s v u (decide (a=b))
 ne:∀{X:Cx} {pins:List (Addr×Obj)} {σ:St} {H:Hp} {s:Shared} {x y:V} {v u:Value} {a b:α} {A:Around},Inv X pins σ H s->RelV x v->RelV y u->R X.K H x a->R X.K H y b->A.units+d < cLine->SeqAt.RcNeAt A s v u (!decide (a=b))
 eq:∀{X:Cx} {pins:List (Addr×Obj)} {σ:St} {H:Hp} {s:Shared} {x y:V} {v u:Value} {a b:α} {A:Around},Inv X pins σ H s->RelV x v->RelV y u->R X.K H x a->R X.K H y b->A.units+d < cLine->SeqAt.EqAt A s v u (decide (a=b))
def Tt:Kind Int where
 R:=λ_ _ x i=>x=.int i
 d:=0
 inj:=λ_ h1 h2=>by rw[h1] at h2;cases h2;rfl
 rc:=λ{X pins σ H s x y v u a b A} I rx ry h1 h2 _=>by
  subst h1 h2;obtain ⟨t,rfl⟩:=rx;obtain ⟨t',rfl⟩:=ry;have q:=SeqAt.RcAt.int_int (A:=A) (s:=s) a t b t';rwa [iB] at q
 ne:=λ{X pins σ H s x y v u a b A} I rx ry h1 h2 _=>by
  subst h1 h2;obtain ⟨t,rfl⟩:=rx;obtain ⟨t',rfl⟩:=ry;have q:=SeqAt.RcNeAt.int_int (A:=A) (s:=s) a t b t';rwa [iB] at q
 eq:=λ{X pins σ H s x y v u a b A} I rx ry h1 h2 _=>by
  subst h1 h2;obtain ⟨t,rfl⟩:=rx;obtain ⟨t',rfl⟩:=ry;have q:=SeqAt.EqAt.int_int (A:=A) (s:=s) a t b t';rwa [iB] at q
theorem kI {α β:Type} {F:α->β->Prop}:∀{l1:List α} {l2:List β} {i:Nat} (_:Paired F l1 l2) (h1:i < l1.length) (h2:i < l2.length),F l1[i] l2[i]
 | _,_,_,.nil,h1,_=>absurd h1 (Mn _)
 | _,_,0,.cons r _,_,_=>r
 | _,_,i+1,.cons _ t,h1,h2=>kI (i:=i) t (Nat.lt_of_succ_lt_succ h1) (Nat.lt_of_succ_lt_succ h2)
theorem mI {α β:Type} {F:α->β->Prop} (hF:∀a b x,F a x->F b x->a=b):∀{l1 l2:List α} {l:List β},Paired F l1 l->Paired F l2 l->l1=l2
 | _,_,_,.nil,.nil=>rfl
 | _,_,_,.cons r t,.cons r' t'=>by rw[hF _ _ _ r r',mI hF t t']
theorem vO {α:Type} [DecidableEq α] (as bs:List α) (h:as.length=bs.length):(List.range as.length).all (λj=>decide (as[j]?=bs[j]?))=decide (as=bs):=by
 rw[qU,yM,decide_eq_true_iff];constructor
 ·intro q;apply kx;intro i;by_cases hi:i < as.length
  ·exact of_decide_eq_true (q i (ui.mpr hi))
  ·rw[a9 (by lia),a9 (by lia)]
 ·rintro rfl i _;simp
section
variable {α:Type} [DecidableEq α] (k:Kind α)
theorem Kind.items {X:Cx} {pins:List (Addr×Obj)} {σ:St} {H:Hp} {s:Shared} {A:Around} (I:Inv X pins σ H s) (hA:A.units+k.d < cLine) {xs ys:List V} {us ws:List Value} {as bs:List α}
  (rx:cZ xs us) (ry:cZ ys ws) (ha:Paired (λa x=>k.R X.K H x a) as xs) (hb:Paired (λa x=>k.R X.K H x a) bs ys) :
  ∀j (h1:j < us.toArray.size) (h2:j < ws.toArray.size),SeqAt.EqAt A s us.toArray[j] ws.toArray[j] (decide (as[j]?=bs[j]?)):=λj h1 h2=>by
 have l1:j < us.length:=by simpa using h1
 have l2:j < ws.length:=by simpa using h2
 have e1:=rx.length;have e2:=ry.length;have e3:=ha.length;have e4:=hb.length;obtain ⟨u,hu,ru⟩:=rx.get (i:=j) (x:=xs[j]'(by lia)) (by simp);obtain ⟨w,hw,rw'⟩:=ry.get (i:=j) (x:=ys[j]'(by lia)) (by simp);have q:=k.eq (A:=A) I ru rw' (kI ha (by lia) (by lia)) (kI hb (by lia) (by lia)) hA
 have eu:us.toArray[j]=u:=by
  have:=hu;rw[af l1] at this;simpa using this
 have ew:ws.toArray[j]=w:=by
  have:=hw;rw[af l2] at this;simpa using this
 rw[eu,ew,af (show j < as.length by lia),af (show j < bs.length by lia)];have e5:decide (some as[j]=some bs[j])=decide (as[j]=bs[j]):=by simp
 rw[e5];exact q
theorem Cv {α:Type} [DecidableEq α] (as bs:List α) {n m:Nat} (h1:as.length=n) (h2:bs.length=m):((List.range (min n m)).all (λj=>decide (as[j]?=bs[j]?)) && n == m)=decide (as=bs):=by
 subst h1 h2;by_cases e:as.length=bs.length
 ·rw[show min as.length bs.length=as.length by lia,vO as bs e];simp [e]
 ·have h1:(as.length == bs.length)=false:=by simpa using e
  rw[h1,Bool.and_false];exact (decide_eq_false λz=>e (by rw[z])).symm
def Tq:Kind (List α) where
 R:=λK H x as=>∃p xs,x=.ref p/\uR K H p xs/\Paired (λa x=>k.R K H x a) as xs
 d:=k.d+1
 inj:=λ{X pins σ H s x a b} I h1 h2=>by
  obtain ⟨p,xs,rfl,hp,pa⟩:=h1;obtain ⟨q,ys,e,hq,pb⟩:=h2;cases e;have e:=I.tuple_inj hp hq;subst e;exact mI (F:=λa x=>k.R X.K H x a) (λa b x=>k.inj I) pa pb
 rc:=λ{X pins σ H s x y v u a b A} I rx ry h1 h2 hA=>by
  obtain ⟨p,xs,rfl,hp,pa⟩:=h1;obtain ⟨q,ys,rfl,hq,pb⟩:=h2;cases rx;cases ry;obtain ⟨us,r1,t1,_⟩:=I.tuple hp;obtain ⟨ws,r2,t2,_⟩:=I.tuple hq;have z:=SeqAt.RcAt.tuples (A:=A) (e:=λj=>decide (a[j]?=b[j]?)) (show s.heap.IsTuple p us.toArray from t1) (show s.heap.IsTuple q ws.toArray from t2) (by lia) (k.items (A:=A.in1) I (by show A.units+1+k.d < cLine;lia) r1 r2 pa pb);rwa [Cv a b (by rw[pa.length,r1.length];simp) (by rw[pb.length,r2.length];simp)] at z
 ne:=λ{X pins σ H s x y v u a b A} I rx ry h1 h2 hA=>by
  obtain ⟨p,xs,rfl,hp,pa⟩:=h1;obtain ⟨q,ys,rfl,hq,pb⟩:=h2;cases rx;cases ry;obtain ⟨us,r1,t1,_⟩:=I.tuple hp;obtain ⟨ws,r2,t2,_⟩:=I.tuple hq;have z:=SeqAt.RcNeAt.tuples (A:=A) (e:=λj=>decide (a[j]?=b[j]?)) (show s.heap.IsTuple p us.toArray from t1) (show s.heap.IsTuple q ws.toArray from t2) (by lia) (k.items (A:=A.in1) I (by show A.units+1+k.d < cLine;lia) r1 r2 pa pb);rwa [Cv a b (by rw[pa.length,r1.length];simp) (by rw[pb.length,r2.length];simp)] at z
 eq:=λ{X pins σ H s x y v u a b A} I rx ry h1 h2 hA=>by
  obtain ⟨p,xs,rfl,hp,pa⟩:=h1;obtain ⟨q,ys,rfl,hq,pb⟩:=h2;cases rx;cases ry;by_cases e:p=q
  ·subst e;have e:=I.tuple_inj hp hq;subst e;rw[mI (F:=λa x=>k.R X.K H x a) (λa b x=>k.inj I) pa pb,decide_eq_true rfl];exact SeqAt.EqAt.same _
  ·obtain ⟨us,r1,t1,_⟩:=I.tuple hp;obtain ⟨ws,r2,t2,_⟩:=I.tuple hq;have z:=SeqAt.RcAt.tuples (A:=A) (e:=λj=>decide (a[j]?=b[j]?)) (show s.heap.IsTuple p us.toArray from t1) (show s.heap.IsTuple q ws.toArray from t2) (by lia) (k.items (A:=A.in1) I (by show A.units+1+k.d < cLine;lia) r1 r2 pa pb);rw[Cv a b (by rw[pa.length,r1.length];simp) (by rw[pb.length,r2.length];simp)] at z;exact .of_refs e z
theorem Gi {X:Cx} {pins:List (Addr×Obj)} {σ:St} {H:Hp} {s:Shared} {p q:Addr} {xs ys:List V} {a b:List α} {A:Around} (I:Inv X pins σ H s) (hp:bK X.K H p xs) (hq:bK X.K H q ys)
  (pa:Paired (λa x=>k.R X.K H x a) a xs) (pb:Paired (λa x=>k.R X.K H x a) b ys) (hA:A.units+(k.d+1) < cLine) :
  SeqAt.RcAt A s (.ref p) (.ref q) (decide (a=b))/\SeqAt.RcNeAt A s (.ref p) (.ref q) (!decide (a=b)):=by
 obtain ⟨us,r1,t1,_⟩:=I.list hp;obtain ⟨ws,r2,t2,_⟩:=I.list hq;have l1:=r1.length;have l2:=r2.length;have l3:=pa.length;have l4:=pb.length;by_cases e:us.length=ws.length
 ·have it:=k.items (A:=A.in1) I (by show A.units+1+k.d < cLine;lia) r1 r2 pa pb;have z:=SeqAt.RcAt.lists (A:=A) (e:=λj=>decide (a[j]?=b[j]?)) t1.isList t2.isList (by simpa using e) (by lia) it;have z2:=SeqAt.RcNeAt.lists (A:=A) (e:=λj=>decide (a[j]?=b[j]?)) t1.isList t2.isList (by simpa using e) (by lia) it;have e1:us.toArray.size=a.length:=by rw[aX];lia
  rw[e1,vO a b (by lia)] at z z2;exact ⟨z,z2⟩
 ·have hne:¬a=b:=λz=>e (by have:=congrArg List.length z;lia)
  rw[decide_eq_false hne];exact ⟨SeqAt.RcAt.lists_lengths t1.isList t2.isList (by simpa using e) (by lia),SeqAt.RcNeAt.lists_lengths t1.isList t2.isList (by simpa using e) (by lia)⟩
def Ts:Kind (List α) where
 R:=λK H x as=>∃p xs,x=.ref p/\bK K H p xs/\Paired (λa x=>k.R K H x a) as xs
 d:=k.d+1
 inj:=λ{X pins σ H s x a b} I h1 h2=>by
  obtain ⟨p,xs,rfl,hp,pa⟩:=h1;obtain ⟨q,ys,e,hq,pb⟩:=h2;cases e;have e:=I.list_inj hp hq;subst e;exact mI (F:=λa x=>k.R X.K H x a) (λa b x=>k.inj I) pa pb
 rc:=λ{X pins σ H s x y v u a b A} I rx ry h1 h2 hA=>by
  obtain ⟨p,xs,rfl,hp,pa⟩:=h1;obtain ⟨q,ys,rfl,hq,pb⟩:=h2;cases rx;cases ry;exact (Gi k I hp hq pa pb hA).1
 ne:=λ{X pins σ H s x y v u a b A} I rx ry h1 h2 hA=>by
  obtain ⟨p,xs,rfl,hp,pa⟩:=h1;obtain ⟨q,ys,rfl,hq,pb⟩:=h2;cases rx;cases ry;exact (Gi k I hp hq pa pb hA).2
 eq:=λ{X pins σ H s x y v u a b A} I rx ry h1 h2 hA=>by
  obtain ⟨p,xs,rfl,hp,pa⟩:=h1;obtain ⟨q,ys,rfl,hq,pb⟩:=h2;cases rx;cases ry;by_cases e:p=q
  ·subst e;have e:=I.list_inj hp hq;subst e;rw[mI (F:=λa x=>k.R X.K H x a) (λa b x=>k.inj I) pa pb,decide_eq_true rfl];exact SeqAt.EqAt.same _
  ·exact .of_refs e (Gi k I hp hq pa pb hA).1
def Kind.via {β:Type} [DecidableEq β] (f:β->α) (fi:∀a b,f a=f b->a=b) (R':FG9->Hp->V->β->Prop) (im:∀{K H x b},R' K H x b->k.R K H x (f b)):Kind β where
 R:=R'
 d:=k.d
 inj:=λI h1 h2=>fi _ _ (k.inj I (im h1) (im h2))
 rc:=λ{X pins σ H s x y v u a b A} I rx ry h1 h2 hA=>by
  have z:=k.rc (A:=A) I rx ry (im h1) (im h2) hA;rwa [decide_eq_decide.mpr (show f a=f b↔a=b from ⟨fi a b,λe=>by rw[e]⟩)] at z
 ne:=λ{X pins σ H s x y v u a b A} I rx ry h1 h2 hA=>by
  have z:=k.ne (A:=A) I rx ry (im h1) (im h2) hA;rwa [decide_eq_decide.mpr (show f a=f b↔a=b from ⟨fi a b,λe=>by rw[e]⟩)] at z
 eq:=λ{X pins σ H s x y v u a b A} I rx ry h1 h2 hA=>by
  have z:=k.eq (A:=A) I rx ry (im h1) (im h2) hA;rwa [decide_eq_decide.mpr (show f a=f b↔a=b from ⟨fi a b,λe=>by rw[e]⟩)] at z
end
def GS (K:FG9) (H:Hp) (x:V) (n:Int×Int):Prop:=∃p,x=.ref p/\uR K H p [.int n.1,.int n.2]
def Tr:Kind (Int×Int):=(Tq Tt).via (λn=>[n.1,n.2]) (λa b e=>by cases a;cases b;simp at e;rw[e.1,e.2]) GS λ⟨p,e,h⟩=>⟨p,_,e,h,.cons rfl (.cons rfl .nil)⟩
def Ti (K:FG9):R2:=λx y H Q=>∃(α:Type) (_:DecidableEq α) (k:Kind α) (a b:α),k.d<=50/\k.R K H x a/\k.R K H y b/\Q (.bl (decide (a=b))) H
def Th (K:FG9):R2:=λx y H Q=>∃(α:Type) (_:DecidableEq α) (k:Kind α) (a b:α),k.d<=50/\k.R K H x a/\k.R K H y b/\Q (.bl (!decide (a=b))) H
theorem Dd (hu:X.A.units+50 < cLine):AO X (compareOp .Eq) (Ti X.K):=by
 intro pins s σ H x y v u Q I rx ry h;obtain ⟨α,_,k,a,b,hd,ha,hb,q⟩:=h;exact k.rc (A:=X.A) I rx ry ha hb (by lia) _ _ _ _ ⟨.bl (decide (a=b)),H,I,rfl,q⟩
theorem Qb (hu:X.A.units+50 < cLine):AO X (compareOp .NotEq) (Th X.K):=by
 intro pins s σ H x y v u Q I rx ry h;obtain ⟨α,_,k,a,b,hd,ha,hb,q⟩:=h;exact k.ne (A:=X.A) I rx ry ha hb (by lia) _ _ _ _ ⟨.bl (!decide (a=b)),H,I,rfl,q⟩
theorem Lf (hr:lK k A):A.units+50 < cLine:=by have:=hr.units;lia
def Inner (H:Hp) (p q:Addr):Prop:=∃a b c:Int,H p=some (.lst [.int a,.int b,.int c,.ref q])
def cF (p:Addr) (H H':Hp):Prop:=(∀b o,H b=some o->b≠p->H' b=some o)/\∀q,Inner H p q->Inner H' p q
theorem cF.refl (H:Hp):cF p H H:=⟨λ_ _ h _=>h,λ_ h=>h⟩
theorem cF.trans (a:cF p H H1) (b:cF p H1 H2):cF p H H2:=⟨λc o h n=>b.1 c o (a.1 c o h n) n,λq h=>b.2 q (a.2 q h)⟩
theorem Inner.inj (h:Inner H p q) (h':Inner H p q'):q=q':=by
 obtain ⟨a,b,c,e⟩:=h;obtain ⟨a',b',c',e'⟩:=h';rw[e] at e';have:=HO.lst.inj (b6 e');simp at this;exact this.2.2.2
theorem cF.set (h:H p=some (.lst [.int a,.int b,.int c,.ref q])):cF p H (upd H p (.lst [.int a',.int b',.int c',.ref q])) :=
 ⟨λb u h n=>by rw[aZ n];exact h,λq' h'=>by
  rw[(Inner.inj ⟨a,b,c,h⟩ h').symm];exact ⟨a',b',c',aK⟩⟩
theorem aG.upto (h:aG H H'):cF p H H':=⟨λb o e _=>h b o e,λq ⟨a,b,c,e⟩=>⟨a,b,c,h _ _ e⟩⟩
theorem aG.new (h:H p=Option.none):aG H (upd H p o):=λb u e=>by rw[aZ (fJ e h)];exact e
theorem aG.sqt {K:FG9} (e:aG H H') (h:uR K H a xs):uR K H' a xs:=by
 rcases h with (h | ⟨o,h⟩) | h
 ·exact .inl (.inl (e _ _ h))
 ·exact .inl (.inr ⟨o,e _ _ h⟩)
 ·exact .inr h
theorem aG.num {K:FG9} (e:aG H H') (h:GS K H x n):GS K H' x n:=by obtain ⟨p,q,r⟩:=h;exact ⟨p,q,e.sqt r⟩
section
variable {σ:St} {H:Hp} {D:Ends}
theorem aW {t:TS} (e:σ0=σ) (h:t D σ H):t D σ0 H:=by rw[e];exact h
theorem Pu (h:t { D with nx:=u D } σ H):Rn t u D σ H:=h
theorem MM (h:D.nx σ H):Ol D σ H:=h
theorem PU {g:TG} (h:te σ H λx H1=>g x σ H1 D.nx):Mv te g D σ H:=h
theorem Kx (h:Q (σ.set i (some v)) H):Ir i v σ H Q:=h
theorem Pw (h:te σ H D.rt):Ro te D σ H:=h
theorem PK (h:c σ H λb H1=>if b=true then t D σ H1 else u D σ H1):Rz c t u D σ H:=h
theorem MV (h:te σ H λ_ H1=>D.nx σ H1):Oq te D σ H:=h
theorem Px (h:ta σ H λvs H1=>∃v w,vs=[v,w]/\D.nx ((σ.set i (some v)).set j (some w)) H1):Rr i j ta D σ H:=h
theorem M5 
  (h:to σ H λo H1=>ti σ H1 λi H2=>tget o i H2 λx H3=>te σ H3 λy H4=>tip x y H4 λz H5=>tset o i z H5 λH6=>D.nx σ H6):Ot to ti te tget tip tset D σ H:=h
theorem PJ (h:Q (.int (f i j)) H):ipI f (.int i) (.int j) H Q:=⟨i,j,rfl,rfl,h⟩
theorem PM {g:TG} (h:wi σ H λJ H1=>∃W:Nat->Nat->St->Hp->Prop,(∃m,W 0 m σ H1)/\∀i m σ H,W i m σ H →
  (J.stop i H/\D.nx σ H)\/(J.go i H/\∃N:St->Hp->Prop,(∀σ' H',N σ' H'->∃m',m' < m/\W (i+1) m' σ' H')/\∀x H',J.yld i H x H'->g x σ H' λσ2 H2=>tb { D with nx:=N,ct:=N,bk:=D.nx } σ2 H2)):RA wi g tb D σ H:=h
variable {Q:VK} {QA:List V->Hp->Prop} {QB:Bool->Hp->Prop}
theorem Pp (e:σ[i]?=some (some v)) (h:Q v H):Pb i σ H Q:=⟨v,e,h⟩
theorem Tf (h:Q v H):tC v σ H Q:=h
theorem RW (h:ta σ H λx H1=>tb σ H1 λy H2=>r x y H2 Q):Rw r ta tb σ H Q:=h
theorem RQ (h:ta σ H λx H1=>r x H1 Q):S0 r ta σ H Q:=h
theorem RZ {g:Int->Int->V} (h:Q (g i j) H):Nc g (.int i) (.int j) H Q:=⟨i,j,rfl,rfl,h⟩
theorem eZ {g:Int->Int->V} (hc:C i j) (h:Q (g i j) H):rI C g (.int i) (.int j) H Q:=⟨i,j,rfl,rfl,hc,h⟩
theorem Tg {g:Int->V} (h:Q (g i) H):rU g (.int i) H Q:=⟨i,rfl,h⟩
theorem PR (h:Q (.bl (decide (i=j))) H):rEq (.int i) (.int j) H Q:=⟨rfl,by
 have e:decide (V.int i=V.int j)=decide (i=j):=by simp
 rw[e];exact h⟩
theorem PC (h:Q (.bl (!decide (i=j))) H):rNe (.int i) (.int j) H Q:=⟨rfl,by
 have e:decide (V.int i=V.int j)=decide (i=j):=by simp
 rw[e];exact h⟩
theorem MI (h:t σ H λx H'=>∃k,x=.bl k/\QB k H'):Oh t σ H QB:=h
theorem RR (h:t σ H λx H'=>∃k,x=.bl k/\QB k H'):tB t σ H QB:=h
theorem PV (h:t σ H λc H1=>if c=true then u σ H1 QB else QB false H1):RC t u σ H QB:=h
theorem RV (h:t σ H λc H1=>if c=true then QB true H1 else u σ H1 QB):tOr t u σ H QB:=h
theorem Py (h:t σ H λc H1=>QB (!c) H1):Rx t σ H QB:=h
theorem M6 (h:t σ H λx H1=>∃c,x=.bl c/\if c=true then u σ H1 Q else Q (.bl false) H1):Ou t u σ H Q:=h
theorem ML (h:t σ H λx H1=>∃c,x=.bl c/\Q (.bl (!c)) H1):Oj t σ H Q:=h
theorem PL (h:c σ H λb H1=>if b=true then ta σ H1 Q else tb σ H1 Q):tIf c ta tb σ H Q:=h
theorem Po (h:QB true H):Rk σ H QB:=h
theorem Pz (h:QA [] H):IY σ H QA:=h
theorem MW (h:ta σ H λx H1=>tr σ H1 λxs H2=>QA (x :: xs) H2):qX ta tr σ H QA:=h
theorem MY (h:t σ H λvs H1=>sp vs H1 Q E):J6 sp [] E t σ H Q:=by
 have e:(λvs H1=>sp (vs++[]) H1 Q E)=λvs H1=>sp vs H1 Q E:=by funext vs H1;rw[qR]
 show t σ H λvs H1=>sp (vs++[]) H1 Q E
 rw[e];exact h
theorem RX (h:t σ H λvs H1=>r vs H1 Q):Td r t σ H Q:=h
theorem F0 {K:FG9} (hx:uR K H p xs) (e:GG xs i=some v) (h:Q v H):PY K (.ref p) (.int i) H Q:=⟨p,xs,i,v,rfl,rfl,hx,e,h⟩
theorem cp {K:FG9} (hx:bK K H p xs) (e:GG xs i=some v) (h:Q v H):PZ K (.ref p) (.int i) H Q:=⟨p,xs,i,v,rfl,rfl,hx,e,h⟩
theorem MU {K:FG9} (hx:bK K H p xs) (e:GG xs i=some v) (h:Q v H):Oy K (.ref p) (.int i) H Q:=⟨p,xs,i,v,rfl,rfl,hx,e,h⟩
theorem ir (hx:H p=some (.lst xs)) (e:JO xs.length i=some j) (ey:xs.set j v=ys) (h:QH (upd H p (.lst ys))):Ox (.ref p) (.int i) v H QH:=⟨p,xs,i,j,rfl,rfl,hx,e,by rw[ey];exact h⟩
theorem MS (h:to σ H λo H1=>ti σ H1 λi H2=>t o i v H2 λH3=>QS σ H3):Su to ti t v σ H QS:=h
theorem Ky (h:t v σ H λσ' H'=>u r σ' H' QS):OL t u (v :: r) σ H QS:=⟨v,r,rfl,h⟩
theorem MT (h:QS σ H):Sv [] σ H QS:=⟨rfl,h⟩
theorem MR {K:FG9} (hx:uR K H a xs) (hl:xs.length=n) (h:t xs σ H QS):Qq K n t (.ref a) σ H QS:=⟨a,xs,rfl,hx,hl,h⟩
theorem RS (h:te σ H λx H1=>tl σ H1 λl H2=>th σ H2 λu H3=>r x l u H3 Q):tSl r te tl th σ H Q:=h
theorem Jh (h:QO none H):Ho σ H QO:=h
theorem MK (h:t σ H λx H1=>∃i,x=.int i/\QO (some i) H1):Oi t σ H QO:=h
variable {R:It->Hp->Prop} {K:FG9}
theorem Kv (h:tl σ H λx H1=>∃a,x=.ref a/\(∃xs,bK K H1 a xs)/\R (Mi K a) H1):Lc K tl σ H R:=h
theorem Ku (h:ta σ H λvs H1=>∃j:Int,vs=[.int j]/\-(2^62)<=j/\j < 2^62/\R (IK 0 j.toNat) H1):OI ta σ H R:=h
theorem MX {g:TG} (e:JM k cap σ=σ₀) (h:wi σ H λJ H1=>qL J σ₀ g tf te Q H1):Eh wi k cap g tf te σ H Q:=by
 unfold Eh;rw[e];exact h
theorem MH {g:TG} {NY:V->Hp->Prop} (h:g x σ H λσ2 H2=>tf σ2 H2 λb H3=>if b=true then te σ2 H3 NY else NN H3):qD σ g tf te x H NY NN:=h
theorem RY (h:to σ H λx H1=>Tc K T x H1/\t σ H1 λxs H2=>r x xs H2 Q):tBM K T r to t σ H Q:=h
def SR (Q:VK) (xs:List V) (H:Hp):Prop:=xs.length<=sizeLine/\∀p,H p=none->Q (.ref p) (upd H p (.tup xs))
def SS (Q:VK) (xs:List V) (H:Hp):Prop:=xs.length<=sizeLine/\∀p,H p=none->Q (.ref p) (upd H p (.lst xs))
theorem Pq (h:t σ H (SR Q)):Rl t σ H Q:=h
theorem PH (h:t σ H (SS Q)):Ry t σ H Q:=h
theorem mC (h:Nat.ble n 1000=true):n<=sizeLine:=aO (bO (Nat.le_of_ble_eq_true h))
theorem bV {xs:List V} (h:∀p H',aG H H'->H' p=some (.tup xs)->Q (.ref p) H') (hl:Nat.ble xs.length 1000=true:=by rfl):SR Q xs H :=
 ⟨mC hl,λp hp=>h p _ (aG.new hp) aK⟩
theorem de {xs:List V} (h:∀p H',aG H H'->H p=none->H' p=some (.lst xs)->Q (.ref p) H') (hl:Nat.ble xs.length 1000=true:=by rfl):SS Q xs H :=
 ⟨mC hl,λp hp=>h p _ (aG.new hp) hp aK⟩
theorem Ss {A B:Prop} (h:B):if (!true)=true then A else B:=Ql h
def WB (tb:TS) (D:Ends) (Pv:St->Hp->Prop) (μ:St->Hp->Nat) (n:Nat) (σ:St) (H:Hp):Prop:=∃N:St->Hp->Prop,(∀σ' H',N σ' H'->∃m',m' < n/\(m'=μ σ' H'/\Pv σ' H'))/\tb { D with nx:=N,ct:=N,bk:=D.nx } σ H
theorem RO (h:tb { D with nx:=λσ' H'=>Pv σ' H'/\μ σ' H' < n,ct:=λσ' H'=>Pv σ' H'/\μ σ' H' < n,bk:=D.nx } σ H):WB tb D Pv μ n σ H :=
 ⟨_,λσ' H' ⟨p,l⟩=>⟨_,l,rfl,p⟩,h⟩
theorem Cs (Pv:St->Hp->Prop) (μ:St->Hp->Nat) (h0:Pv σ H) (hs:∀σ H,Pv σ H->c σ H λb H1=>if b=true then WB tb D Pv μ (μ σ H) σ H1 else D.nx σ H1):J5 c tb D σ H:=by
 refine ⟨λm σ H=>m=μ σ H/\Pv σ H,⟨_,rfl,h0⟩,?_⟩;rintro m σ H ⟨rfl,p⟩;exact hs σ H p
end
def ig (H:Hp) (p:Addr):Prop:=∃(q:Addr) (a b c:Int) (cs:List Int),H p=some (.lst [.int a,.int b,.int c,.ref q])/\H q=some (.lst (cs.map V.int))/\0<=a/\0<=c/\c<=(cs.length:Int)/\∀x∈cs,(0:Int)<=x
theorem JG {H:Hp} {cs:List Int} (hp:H p=some (.lst [.int a,.int b,.int c,.ref q])) (hq:H q=some (.lst (cs.map V.int))):q≠p:=λe=>by
 rw[e,hp] at hq;have h:=HO.lst.inj (b6 hq);cases cs with
 | nil=>cases h
 | cons x1 cs=>cases cs with
  | nil=>cases h
  | cons x2 cs=>cases cs with
   | nil=>cases h
   | cons x3 cs=>cases cs with
    | nil=>cases h
    | cons x4 cs=>simp at h
theorem ig.same (h:ig H p) (e:aG H H'):ig H' p:=by obtain ⟨q,a,b,c,cs,h1,h2,r⟩:=h;exact ⟨q,a,b,c,cs,e _ _ h1,e _ _ h2,r⟩
theorem cF.tup {H H':Hp} {p r:Addr} {xs:List V} (u:cF p H H') (B:ig H p) (h:H r=some (.tup xs)):H' r=some (.tup xs):=by
 obtain ⟨q,a,b,c,cs,h1,_⟩:=B;exact u.1 r _ h λe=>by rw[e,h1] at h;cases h
theorem cF.other (u:cF p H H') (n:r≠p) (h:H r=some o):H' r=some o:=u.1 r _ h n
theorem ig.inner (h:ig H p):∃q,Inner H p q/\∃xs,H q=some (.lst xs):=by obtain ⟨q,a,b,c,cs,h1,h2,_⟩:=h;exact ⟨q,⟨a,b,c,h1⟩,_,h2⟩
theorem ig.upd (h:ig H p) (hi:Inner H p q) (n1:r≠p) (n2:r≠q):ig (L2.upd H r o) p:=by
 obtain ⟨q',a,b,c,cs,h1,h2,z⟩:=h;have e:q'=q:=Inner.inj ⟨a,b,c,h1⟩ hi;subst e;exact ⟨q',a,b,c,cs,by rw[aZ n1.symm];exact h1,by rw[aZ n2.symm];exact h2,z⟩
theorem Inner.upd (hi:Inner H p q) (n1:r≠p):Inner (L2.upd H r o) p q:=by obtain ⟨a,b,c,h⟩:=hi;exact ⟨a,b,c,by rw[aZ n1.symm];exact h⟩
def MC:Sp:=λvs H Q _=>∃p n,vs=[.ref p,.int n]/\ig H p/\0 < n/\n < 2^64/\∀v H',0<=v->v < n->ig H' p->cF p H H'->Q (.int v) H'
inductive Kk (K:FG9) (vs:List V) (H:Hp) (Q:VK) (E9:XK):Prop
 | mk (a:Addr) (ns:List Int):vs=[.ref a]->bK K H a (ns.map V.int)->ns.length<=63->(∀p H',H p=none->ig H' p->aG H H'->Q (.ref p) H')->Kk K vs H Q E9
inductive zq (K:FG9) (vs:List V) (H:Hp) (Q:VK) (E9:XK):Prop
 | mk (a:Addr) (ns:List Int):vs=[.ref a]->bK K H a (ns.map V.int)->ns.length<=63->(∀H',Q (.bl true) H')->zq K vs H Q E9
def Pl:Sp:=λvs H Q _=>∃t b,vs=[.int t,.int b]/\0 < b/\Sz 8999000 b/\∀r H',aG H H'->H' r=some (.tup [.int (lo t b),.int (hi t b)])->Q (.ref r) H'
def RH:Sp:=λvs H Q _=>∃a b,vs=[.int a,.int b]/\Q (.int (g a b)) H
def Jb:Sp:=λvs H Q _=>∃t b,vs=[.int t,.int b]/\b≠0/\Sz 8999000 b/\∀r H',aG H H'->H' r=some (.tup [.int (lo (if b < 0 then -t else t) (if b < 0 then -b else b)),.int (hi (if b < 0 then -t else t) (if b < 0 then -b else b))])->Q (.ref r) H'
def ON (a b c d:Int):Int:=a*d+c*b
def Ls (a b c d:Int):Int:=a*d - c*b
def Lr (a _b c _d:Int):Int:=a*c
def HR (K:FG9) (f:Int->Int->Int->Int->Int):Sp:=λvs H Q _=>∃p q a b c d,vs=[.ref p,.ref q]/\uR K H p [.int a,.int b]/\uR K H q [.int c,.int d]/\0 < b/\0 < d/\Sz 4000000 a/\Sz 4000000 b/\Sz 4000000 c/\Sz 4000000 d /\
 ∀r H',aG H H'->H' r=some (.tup [.int (lo (f a b c d) (b*d)),.int (hi (f a b c d) (b*d))])->Q (.ref r) H'
theorem cz {α β:Type} {F:α->β->Prop}:∀{l1 l1':List α} {l2 l2':List β},Paired F l1 l2->Paired F l1' l2'->Paired F (l1++l1') (l2++l2')
 | _,_,_,_,.nil,h=>h
 | _,_,_,_,.cons r t,h=>.cons r (cz t h)
theorem du {h:Heap} (ha:h.get? a=some o) (hb:h.get? b=some u) (hc:o.cls≠u.cls):a≠b:=λe=>by
 subst e;rw[ha] at hb;cases hb;exact hc rfl
theorem mj (h:a≠b):Value.type a≠Value.type b:=λe=>h (by injection e)
theorem Bs {z TI TO i1 i2 l1 l2:Addr} (hz:IsZip h z TI TO f0) (hTI:IsPair h TI (.ref i1) (.ref i2)) (hTO:IsPair h TO a b)
  (h1:h.IsListIter i1 l1 k1) (h2:h.IsListIter i2 l2 k2) (hl1:h.IsList l1 xs) (hl2:h.IsList l2 ys) (hT:TI≠TO) (hi:i1≠i2):ZipApart z TI TO i1 i2 l1 l2:=by
 obtain ⟨o1,g1,c1,_⟩:=h1;obtain ⟨o2,g2,c2,_⟩:=h2;obtain ⟨p1,q1,d1,_⟩:=hl1;obtain ⟨p2,q2,d2,_⟩:=hl2;refine ⟨du hTI hz ?_,du hTO hz ?_,du g1 hz ?_,du g2 hz ?_,hT,du hTI g1 ?_,du hTI g2 ?_,du hTO g1 ?_,du hTO g2 ?_,hi,du q1 hz ?_,du q1 hTO ?_,du q1 g1 ?_,du q1 g2 ?_,du q2 hz ?_,du q2 hTO ?_,du q2 g1 ?_,du q2 g2 ?_⟩
 all_goals first
  | (rw[d1];first | (rw[c1];exact mj (by decide)) | (rw[c2];exact mj (by decide)) | exact mj (by decide))
  | (rw[d2];first | (rw[c1];exact mj (by decide)) | (rw[c2];exact mj (by decide)) | exact mj (by decide))
  | (rw[c1];exact mj (by decide))
  | (rw[c2];exact mj (by decide))
  | exact mj (by decide)
def S8 (K : FG9) (l1 l2 : Addr) : It :=
  ⟨λi H => ∃ xs ys x y, bK K H l1 xs /\ bK K H l2 ys /\ xs[i]? = some x /\ ys[i]? = some y,
   λi H v H' => ∃ p x y, v = .ref p /\ H p = none /\ H' = upd H p (.tup [x, y]) /\ (∀ xs, bK K H l1 xs → xs[i]? = some x) /\ ∀ ys, bK K H l2 ys → ys[i]? = some y,
   λi H => ∃ xs ys, bK K H l1 xs /\ bK K H l2 ys /\ (xs.length ≤ i \/ ys.length ≤ i)⟩
def tnZ (z TI TO i1 i2 l1 l2:Addr) (i:Nat) (h:Heap):Prop:=IsZip h z TI TO .none/\IsPair h TI (.ref i1) (.ref i2)/\(∃a b,IsPair h TO a b)/\h.IsListIter i1 l1 i/\h.IsListIter i2 l2 i
theorem JX {P:Program} {w:World} {K:FG9} {elts:List Expr} {kk:Nat} {tpos:Pos} (z TI TO i1 i2 l1 l2:Addr) (hT:TI≠TO) (hi:i1≠i2):Turn P w K (.Tuple elts kk tpos) (S8 K l1 l2) [z,TI,TO,i1,i2] z (tnZ z TI TO i1 i2 l1 l2) where
 mem:=by simp
 obj:=λi h st b hb=>by
  obtain ⟨hz,hTI,⟨a,c,hTO⟩,⟨o1,g1,c1,d1⟩,⟨o2,g2,c2,d2⟩⟩:=st;simp only[aH,aY,or_false] at hb;rcases hb with rfl | rfl | rfl | rfl | rfl
  ·exact ⟨_,hz,λv q=>nomatch q⟩
  ·exact ⟨_,hTI,λv q=>nomatch q⟩
  ·exact ⟨_,hTO,λv q=>nomatch q⟩
  ·exact ⟨o1,g1,λv q=>by rw[d1] at q;cases q⟩
  ·exact ⟨o2,g2,λv q=>by rw[d2] at q;cases q⟩
 keep:=λi h h' st k=>by
  obtain ⟨hz,hTI,⟨a,c,hTO⟩,h1,h2⟩:=st;exact ⟨k z (by simp) _ hz,k TI (by simp) _ hTI,⟨a,c,k TO (by simp) _ hTO⟩,h1.at λo e=>k i1 (by simp) o e,h2.at λo e=>k i2 (by simp) o e⟩
 item:=by
  intro X hP hw hK hc i pins s σ H E I hf st hg;subst hP hw hK;obtain ⟨hz,hTI,⟨a,c,hTO⟩,h1,h2⟩:=st;obtain ⟨xs,ys,x,y,qx,qy,ex,ey⟩:=hg;obtain ⟨us,rx,px,_⟩:=I.list qx;obtain ⟨ws,ry,py,_⟩:=I.list qy;obtain ⟨u,eu,ru⟩:=rx.get ex;obtain ⟨v,ev,rv⟩:=ry.get ey;have D:=Bs hz hTI hTO h1 h2 px.isList py.isList hT hi;refine wpAny_pyNext_zip_item D hz hTI hTO h1 h2 px.isList py.isList (x:=u) (y:=v) (by simpa using eu) (by simpa using ev) λh' a1 a2 a3 a4 a5 a6 hk=>?_
  refine ⟨_,rfl,wpAny_letOwnedTupleGo_zip a1 λh'' hz'' hs=>?_⟩;have hT0:H s.heap.objs.size=none:=I.hok.fresh (ar _);have zne:s.heap.objs.size≠z:=IL (Heap.lt_size hz)
  have up:∀b o,b∉[z,TO,i1,i2]->s.heap.get? b=some o->h''.get? b=some o:=λb o hb e=>by
   simp only[aH,aY,or_false,not_or] at hb;exact (hs.2 b hb.1).trans (hk b o hb.1 hb.2.1 hb.2.2.1 hb.2.2.2 e)
  have fx:∀b∈[z,TO,i1,i2],kW X pins H b:=λb hb=>hf b (by
   simp only[aH,aY,or_false] at hb ⊢;rcases hb with rfl | rfl | rfl | rfl <;> simp)
  have nx:∀b o,H b=some o->b∉[z,TO,i1,i2]:=λb o e hb=>by
   have:=(fx b hb).1;rw[this] at e;cases e
  have nT:∀{b:Addr} {o:HO},H b=some o->b≠s.heap.objs.size:=λe q=>by rw[q,hT0] at e;cases e
  have tup:h''.get? s.heap.objs.size=some { cls:=.type "tuple",data:=.seq #[u,v] }:=(hs.2 _ zne).trans a5
  have I2:Inv X pins σ (upd H s.heap.objs.size (.tup [x,y])) { s with heap:=h'' }:=by
   refine I.step (g':=s.gens) (d':=s.drawn) (t':=s.toks) (ch:=[z,TO,i1,i2]) (λb hb=>?_) (λb o _ _ hb e _=>up b o hb e) (λb o _ _ hb e _=>⟨o.slots,up b o hb e⟩) (λb o hb e n=>?_)
    (λb o hb e=>⟨o,up b o hb e⟩) (λb q e=>by rw[aZ (nT e)];exact e) (λb o q e=>by rw[aZ (nT e)];exact e) (λb q e=>⟨#[],by rw[aZ (nT e),e];simp⟩) (λm hm=>?_) (λb o e=>?_) I.bare
   ·obtain ⟨_,f1,_,f3,f4,f5⟩:=fx b hb;exact ⟨f3,f1,f4,f5⟩
   ·rw[aZ (cL (Heap.lt_size e))];exact n
   ·obtain ⟨o,es,ep,ho,r⟩:=hm;exact ⟨o,es,ep,up _ o (λz=>(fx _ z).2.1 rfl) ho,r⟩
   ·by_cases hb:b=s.heap.objs.size
    ·subst hb;rw[aK] at e;cases e;exact ⟨mC rfl,[u,v],.cons ru (.cons rv .nil),⟨_,tup,rfl,_,rfl⟩⟩
    ·rw[aZ hb] at e;refine (I.hok b o e).stay (λc v' hc q=>up c v' ?_ q) (λc q=>by rw[aZ (nT q)];exact q) λc xs q=>by rw[aZ (nT q)];exact q
     rcases hc with rfl | hc
     ·exact nx _ _ e
     ·exact nx _ _ hc
  refine ⟨.ref s.heap.objs.size,_,I2,rfl,⟨_,x,y,rfl,hT0,rfl,λxs' q=>by rw[I.list_inj q qx];exact ex,λys' q=>by rw[I.list_inj q qy];exact ey⟩,?_,λb hb=>?_⟩
  ·refine ⟨hz'',(hs.2 _ D.TIz).trans (hk _ _ D.TIz D.TITO D.TIi1 D.TIi2 hTI),⟨_,_,(hs.2 _ D.TOz).trans a2⟩,a3.at λo e=>(hs.2 _ D.i1z).trans e,a4.at λo e=>(hs.2 _ D.i2z).trans e⟩
  ·obtain ⟨o,e,_⟩:∃o,s.heap.get? b=some o/\True:=by
    obtain ⟨o1,g1,_⟩:=h1;obtain ⟨o2,g2,_⟩:=h2;simp only[aH,aY,or_false] at hb;rcases hb with rfl | rfl | rfl | rfl | rfl
    ·exact ⟨_,hz,trivial⟩
    ·exact ⟨_,hTI,trivial⟩
    ·exact ⟨_,hTO,trivial⟩
    ·exact ⟨_,g1,trivial⟩
    ·exact ⟨_,g2,trivial⟩
   rw[aZ (cL (Heap.lt_size e))];exact (hf b hb).1
 done:=by
  intro X hP hw hK hc i pins s σ H E I hf st hg;subst hP hw hK;obtain ⟨hz,hTI,⟨a,c,hTO⟩,h1,h2⟩:=st;obtain ⟨xs,ys,qx,qy,hend⟩:=hg;obtain ⟨us,rx,px,_⟩:=I.list qx;obtain ⟨ws,ry,py,_⟩:=I.list qy;have lx:=rx.length;have ly:=ry.length;have D:=Bs hz hTI hTO h1 h2 px.isList py.isList hT hi
  refine wpAny_pyNext_zip_end (I.ok.hd hc) D hz hTI hTO h1 h2 px.isList py.isList (by
   rcases hend with q | q
   ·exact .inl (by simp;lia)
   ·exact .inr (by simp;lia)) λh' hk=>⟨rfl,?_⟩
  have up:∀b o,b∉[z,TO,i1,i2]->s.heap.get? b=some o->h'.get? b=some o:=λb o hb e=>by
   simp only[aH,aY,or_false,not_or] at hb;exact hk b o hb.1 hb.2.1 hb.2.2.1 hb.2.2.2 e
  have fx:∀b∈[z,TO,i1,i2],kW X pins H b:=λb hb=>hf b (by
   simp only[aH,aY,or_false] at hb ⊢;rcases hb with rfl | rfl | rfl | rfl <;> simp)
  have nx:∀b o,H b=some o->b∉[z,TO,i1,i2]:=λb o e hb=>by
   have:=(fx b hb).1;rw[this] at e;cases e
  refine I.step (g':=s.gens) (d':=s.drawn) (t':=s.toks) (ch:=[z,TO,i1,i2]) (λb hb=>?_) (λb o _ _ hb e _=>up b o hb e) (λb o _ _ hb e _=>⟨o.slots,up b o hb e⟩) (λb o hb e n=>n)
   (λb o hb e=>⟨o,up b o hb e⟩) (λb q e=>e) (λb o q e=>e) (λb q e=>⟨#[],by rw[e];simp⟩) (λm hm=>?_) (λb o e=>?_) I.bare
  ·obtain ⟨_,f1,_,f3,f4,f5⟩:=fx b hb;exact ⟨f3,f1,f4,f5⟩
  ·obtain ⟨o,es,ep,ho,r⟩:=hm;exact ⟨o,es,ep,up _ o (λz=>(fx _ z).2.1 rfl) ho,r⟩
  ·refine (I.hok b o e).stay (λc v' hc q=>up c v' ?_ q) (λc q=>q) λc xs q=>q
   rcases hc with rfl | hc
   ·exact nx _ _ e
   ·exact nx _ _ hc
 self:=λ_ _ _ _ _ st h=>wpAny_pyIter_zip st.1 h
section
variable {X:Cx}
def Qn (K:FG9) (ta:TA):TI:=λσ H R=>ta σ H λvs H1=>∃l1 l2,vs=[.ref l1,.ref l2]/\(∃xs,bK K H1 l1 xs)/\(∃ys,bK K H1 l2 ys)/\R (S8 K l1 l2) H1
theorem C1 {a b:Expr} {ta:TA} {p pos tpos:Pos} {elts:List Expr} {kk:Nat} (hg:Gl X "zip") (hm:X.mg "zip"=none) (ha:PA X [a,b] ta) (hs:starEach [a,b] X.env=[(false,eval a X.env),(false,eval b X.env)]:=by rfl) (hs2:starEach [b] X.env=[(false,eval b X.env)]:=by rfl) :
  PI X (.Tuple elts kk tpos) (.Call (.Name "zip" p) [a,b] [] pos) (Qn X.K ta):=by
 intro pins s σ H R I h;refine Call_ (oC I hg hm boot_zip (PyProof.Rows.callWith_type1 (iK (ha pos pins s σ H _ I h) λus s1 ⟨vs,H1,I1,r1,q1⟩=>?_) (by rw[hs,hs2]) (by rw[hs2];rfl)));obtain ⟨l1,l2,e,⟨xs,qx⟩,⟨ys,qy⟩,q⟩:=q1;subst e;obtain ⟨u,v,rfl,ru,rv⟩:=vals2 r1;cases ru;cases rv;obtain ⟨us,rx,px,_⟩:=I1.list qx;obtain ⟨ws,ry,py,_⟩:=I1.list qy;refine call_zip_2 px.isList py.isList λh' a1 a2 a3 a4 a5 a6 hk=>wpAny_pyIter_zip a1 ?_
 have I2:Inv X pins σ H1 { s1 with heap:=h' }:=I1.kept (t':=s1.toks) hk;refine ⟨_,[s1.heap.objs.size+4,s1.heap.objs.size+2,s1.heap.objs.size+3,s1.heap.objs.size,s1.heap.objs.size+1],_,_,H1,rfl,I2,JX (s1.heap.objs.size+4) (s1.heap.objs.size+2) (s1.heap.objs.size+3) s1.heap.objs.size (s1.heap.objs.size+1) l1 l2 (cL (jn _)) (cL (jn _)),⟨a1,a2,⟨_,_,a3⟩,a4,a5⟩,λb hb=>?_,q⟩
 have hb':s1.heap.objs.size<=b:=by
  simp only[aH,aY,or_false] at hb;rcases hb with rfl | rfl | rfl | rfl | rfl <;> first | exact JR _ _ | exact ar _
 exact I1.fpOk hb' (I1.hok.fresh hb')
theorem LJ (hc:X.calm=true):qM X (.builtin "all") (λxs H Q=>∃(p:Addr) (bs:List Bool),xs=[.ref p]/\bK X.K H p (bs.map V.bl)/\Q (.bl (bs.all id)) H):=by
 intro pins s σ H xs us Q I r h;obtain ⟨p,bs,rfl,hp,q⟩:=h;obtain ⟨u,rfl,ru⟩:=vals1 r;cases ru;obtain ⟨vs,rv,pl,hz⟩:=I.list hp
 have hb:PyProof.Rows.LSm.BoolsAre vs bs:=by
  clear q hp pl hz
  induction bs generalizing vs with
  | nil=>cases rv;exact .nil
  | cons b bs ih =>
   rw[lV] at rv;cases rv with
   | cons r1 r2=>cases r1;exact .cons b (ih _ r2)
 have hlt:p < s.heap.objs.size:=by obtain ⟨_,e,_⟩:=pl.isList;exact Heap.lt_size e
 refine call_all_walk (wpAny_pyIter_list pl.isList ?_)
 refine ⟨s.heap.objs.size,[s.heap.objs.size,p],[s.heap.objs.size],vs.toArray.size,_,_,λi=>(bs[i]?).getD true,rfl,Walks.list (A:=X.A.in1) (I.ok.hd hc) _ p (cL hlt) vs.toArray,
  ⟨⟨_,Heap.get?_push_size _ rfl,rfl,rfl⟩,pl.isList.push _⟩,λi v s' Q' E' hP hQ=>?_,λh' tk hk=>?_⟩
 ·obtain ⟨b,e,rfl⟩:=hb.get i v (by simpa using hP);simp only[e,eF] at hQ;exact wpAny_truthy_bool hQ
 ·have e:((List.range vs.toArray.size).all λi=>(bs[i]?).getD true)=bs.all id:=by
   rw[aX,hb.length];exact PyProof.Rows.LSm.range_all bs
  rw[e];exact ⟨.bl _,H,I.kept (t':=tk) (PyProof.Rows.LSm.kept_iter hk),rfl,q⟩
theorem Ax (hc:X.calm=true):qM X (.builtin "sum") (λxs H Q=>∃(p:Addr) (ns:List Int),xs=[.ref p]/\bK X.K H p (ns.map V.int)/\Q (.int ns.sum) H):=by
 intro pins s σ H xs us Q I r h;obtain ⟨p,ns,rfl,hp,q⟩:=h;obtain ⟨u,rfl,ru⟩:=vals1 r;cases ru;obtain ⟨vs,rv,pl,_⟩:=I.list hp;have hi:IntsAre vs ns:=intsAre_of rv;obtain ⟨xs,hx⟩:=hi.allInts.items;have hl':s.heap.IsList p (intItems xs):=hx ▸ pl.isList;refine sum_intListG (I.ok.hd hc) hl' λh' tk t' hk=>?_
 have e1:ns=xs.toList.map (·.1):=by
  rw[<- nums_intItems,<- hx];exact (show numsOf vs.toArray.toList=ns from hi.numsOf).symm
 have e2:preSum (numAt xs) xs.size=ns.sum:=by
  rw[preSum_eq,aA (by simp),e1]
 rw[e2];exact ⟨.int _,H,I.kept (t':=tk) hk,⟨_,rfl⟩,q⟩
end
section
variable {K:FG9} {l1 l2:Addr} {xs ws:List V} {g:TG} {tf:TT} {te:TE} {Q:VK} {σ₀:St} {H:Hp}
theorem Av (Pv:Nat->List V->Hp->Prop) (hz:xs.length<=sizeLine) (hw:ws.length=xs.length) (h0:Pv 0 [] H) (hl:∀i ys H,i<=xs.length->Pv i ys H->bK K H l1 xs/\bK K H l2 ws)
  (hs:∀i x y ys H p,xs[i]?=some x->ws[i]?=some y->ys.length<=i->Pv i ys H->H p=none->qD σ₀ g tf te (.ref p) (upd H p (.tup [x,y])) (λy H'=>Pv (i+1) (ys++[y]) H') (λH'=>Pv (i+1) ys H'))
  (hd:∀ys H,ys.length<=xs.length->Pv xs.length ys H->∀p,H p=none->Q (.ref p) (upd H p (.lst ys))):qL (S8 K l1 l2) σ₀ g tf te Q H:=by
 refine ⟨λi m ys H=>m=xs.length - i/\i<=xs.length/\ys.length<=i/\Pv i ys H,⟨xs.length,by simp,b8 _,b8 _,h0⟩,?_⟩;rintro i m ys H ⟨rfl,hi,hy,p⟩;obtain ⟨q1,q2⟩:=hl i ys H hi p;by_cases hlt:i < xs.length
 ·refine .inr ⟨⟨xs,ws,xs[i],ws[i]'(by lia),q1,q2,by simp [hlt],by simp⟩,by lia,λy H'=>Pv (i+1) (ys++[y]) H',λH'=>Pv (i+1) ys H',λy H' p'=>⟨xs.length - (i+1),by lia,rfl,hlt,by rw[aF,fR];lia,p'⟩,λH' p'=>⟨xs.length - (i+1),by lia,rfl,hlt,by lia,p'⟩,λx H' y=>?_⟩;obtain ⟨r,x',y',rfl,hr,rfl,e1,e2⟩:=y;exact hs i x' y' ys _ r (e1 xs q1) (e2 ws q2) hy p hr
 ·have e:i=xs.length:=by lia
  subst e;exact .inl ⟨⟨xs,ws,q1,q2,.inl (ar _)⟩,by lia,hd ys H hy p⟩
end
section
variable {X:Cx}
theorem sX (K:FG9) (n:Nat) {es:List Expr} {k:Nat} {pos:Pos} {t:Mg} (h:SN X es t) (hK:X.K=K:=by rfl) (hc:X.calm=true:=by rfl)
  (hn:(assignEach es X.env).length=n:=by rfl) (hst:(assignEach es X.env).findIdx? (·.1)=none:=by rfl):PG X (.Tuple es k pos) (Qq K n t):=by subst hK;exact xi hc h hn hst
theorem jg (K:FG9) (hK:X.K=K):SU X (PY K):=by subst hK;exact bJ
theorem oV (K:FG9) (hK:X.K=K):SU X (PZ K):=by subst hK;exact bw
theorem vz (K:FG9) {tg l:Expr} {tl:TE} (hl:PE X l tl) (hK:X.K=K:=by rfl):PI X tg l (Lc K tl):=by subst hK;exact cg hl
theorem Kl (K:FG9) (hK:X.K=K):TB X (PX K):=by subst hK;exact sU
end
theorem cR {X:Cx} {e e':Expr} {es:List Expr} {te:TE} {t:TA} (h:e=e') (ha:PE X e' te) (hr:PA X es t) (hs:∀l,starEach (e' :: l) X.env=(false,eval e' X.env) :: starEach l X.env:=by intro _;rfl):PA X (e :: es) (qX te t):=by subst h;exact aa ha hr (hs _)
section
variable {σ:St} {H:Hp} {D:Ends} {Q:VK}
theorem kF (hl:H l=some (.lst xs)) (hz:xs.length < sizeLine) (h:Q .non (upd H l (.lst (xs++[y])))):HW (.ref l) [y] H Q:=⟨l,xs,y,rfl,rfl,hl,hz,h⟩
theorem MQ {K:FG9} (h:ta σ H λvs H1=>∃l1 l2,vs=[.ref l1,.ref l2]/\(∃xs,bK K H1 l1 xs)/\(∃ys,bK K H1 l2 ys)/\R (S8 K l1 l2) H1):Qn K ta σ H R:=h
theorem oi (h1:H l=some (.lst xs)) (h2:H b=some (.lst zs)) (hz:xs.length+zs.length<=sizeLine) (h:∀p H',aG H H'->H p=none->H' p=some (.lst (xs++zs))->Q (.ref p) H'):Sb (.ref l) (.ref b) H Q :=
 ⟨l,b,xs,zs,rfl,rfl,h1,h2,hz,λp hp=>h p _ (aG.new hp) hp aK⟩
theorem zK {K:FG9} {lo hi:Option Int} (h1:bK K H a xs) (h:∀p H',aG H H'->H p=none->H' p=some (.lst (o3 xs lo hi))->Q (.ref p) H'):PX K (.ref a) lo hi H Q :=
 ⟨a,xs,rfl,h1,λp hp=>h p _ (aG.new hp) hp aK⟩
theorem kf {xs:List α} {i:Int} (h0:0<=i) (h1:i < xs.length):∃v,GG xs i=some v/\v∈xs/\xs[i.toNat]?=some v:=by
 have hj:i.toNat < xs.length:=by lia
 refine ⟨xs[i.toNat],?_,bu hj,by simp [hj]⟩;have:=gF (xs:=xs) (j:=i.toNat) (v:=xs[i.toNat]) (by simp [hj]);rwa [Int.toNat_of_nonneg h0] at this
end
theorem dj {α β:Type} {F:α->β->Prop}:∀{l1:List α} {l2:List β} {y:β},Paired F l1 l2->y∈l2->∃x∈l1,F x y
 | _,_,_,.nil,h=>nomatch h
 | _,_,_,.cons r t,h=>by
  rcases aH.mp h with rfl | h
  ·exact ⟨_,dc,r⟩
  ·obtain ⟨x,hx,q⟩:=dj t h;exact ⟨x,bM _ hx,q⟩
theorem cH {F:α->β->Prop} {l1:List α} {l2:List β} {i:Nat} {y:β} (h:Paired F l1 l2) (e:l2[i]?=some y):∃x,l1[i]?=some x/\F x y:=by
 have hl:=h.length;have hi:i < l2.length:=(aU.mp e).1;refine ⟨l1[i]'(by lia),by simp,?_⟩;have:=kI h (i:=i) (by lia) hi;have e2:l2[i]=y:=(aU.mp e).2;rwa [e2] at this
def Fn (n:Int×Int):Prop:=0 < n.2/\Int.gcd n.1 n.2=1/\Sz 8000000 n.1/\Sz 8000000 n.2
theorem take_snoc {α:Type} {l:List α} {v:α} (h:l[i]?=some v):l.take (i+1)=l.take i++[v]:=by rw[List.take_add_one,h];rfl
theorem aG.after (s:aG H H') (h:H r=Option.none):aG H (upd H' r o):=λb u e=>by rw[aZ (fJ e h)];exact s b u e
theorem cF.after (s:cF b H H') (h:H r=Option.none):cF b H (upd H' r o):=⟨λc u e n=>by rw[aZ (fJ e h)];exact s.1 c u e n,λq hi=>(s.2 q hi).upd λz=>by obtain ⟨_,_,_,e⟩:=hi;rw[<- z,h] at e;cases e⟩
theorem cF.same (s:cF b H H') (e:aG H' H''):cF b H H'':=s.trans e.upto
theorem y8 {α:Type} {Pr:α->Prop} {l:List α} {a:α} (h:∀n∈l,Pr n) (ha:Pr a):∀n∈l++[a],Pr n:=λn hn=>by
 rcases av.mp hn with hn | hn
 ·exact h n hn
 ·have e:n=a:=by simpa using hn
  rw[e];exact ha
abbrev AN (h:Heap) (z TI TO:Addr) (f0 f1:Value):Prop:=h.get? z=some { cls:=.type "zip",dict:=none,data:=.fields #[f0,f1,.bool false,.ref TI,.ref TO],slots:=#[] }
section
variable {prog:Program} {w:World} {A:Around} {E:Value->Shared->Prop} {s:Shared}
theorem GH (e:s.heap.get? a=some o) (h:Q (some o) s):wpAny (model prog w) A (loadIfAlive a) Q E s:=by
 intro Γ p hp;show Sem.wp _ _ (.loadIfAlive a .pure) _ _ _ _
 simp only[Sem.wp_loadIfAlive,e];exact wpAny_pure h Γ p hp
theorem zQ {z TI TO T:Addr} (zr:AN s.heap z TI TO (rawInt T) (.bool b1)) (al:s.heap.get? T=some o)
  (h:∀h',AN h' z TI TO (rawInt T) (.bool true)->Heap.SameBut z s.heap h'->Q false { s with heap:=h' }):wpAny (model prog w) A (Builtin.SmallTypes.ownedTupleIsFree (.ref z)) Q E s:=by
 unfold Builtin.SmallTypes.ownedTupleIsFree;refine wpAny_bind (wpAny_field zr rfl (x:=rawInt T) rfl ?_);refine wpAny_bind (GH (a:=T) al ?_);refine wpAny_bind (wpAny_field zr rfl (x:=.bool b1) rfl ?_);cases b1 with
 | true=>exact wpAny_pure (h _ zr (.refl ..))
 | false=>exact wpAny_bind (wpAny_setField_rec zr (by simp) λh' zr' sb=>wpAny_pure (h h' zr' sb))
theorem Js {z TI TO T i1 i2 l1 l2:Addr} {Q:Value->Shared->Prop} (D:ZipApart z TI TO i1 i2 l1 l2) (zr:AN s.heap z TI TO (rawInt T) (.bool b1)) (al:s.heap.get? T=some o)
  (pt:IsPair s.heap TI (.ref i1) (.ref i2)) (j1:s.heap.IsListIter i1 l1 k1) (j2:s.heap.IsListIter i2 l2 k2) (m1:s.heap.IsList l1 us) (m2:s.heap.IsList l2 ws) (eu:us[k1]?=some u) (ev:ws[k2]?=some v)
  (hQ:∀h',AN h' z TI TO (rawInt T) (.bool true)->h'.IsListIter i1 l1 (k1+1)->h'.IsListIter i2 l2 (k2+1)->IsPair h' s.heap.objs.size u v->(∀c o,c≠z->c≠i1->c≠i2->s.heap.get? c=some o->h'.get? c=some o)->Q (.ref s.heap.objs.size) { s with heap:=h' }) :
  wpAny (model prog w) A (Builtin.«zip.__next__» ⟨[.ref z],[]⟩) (λfin s'=>∃v,fin=.done (.ret v)/\Q v s') E s:=by
 change wpAny _ _ (field (Value.ref z) 2 >>= _) _ _ s
 refine wpAny_bind (wpAny_field zr rfl (x:=.bool false) rfl ?_)
 change wpAny _ _ (field (Value.ref z) 3 >>= _) _ _ s
 refine wpAny_bind (wpAny_field zr rfl (x:=.ref TI) rfl (wpAny_bind (wpAny_seqItems pt rfl ?_)))
 change wpAny _ _ (Builtin.SmallTypes.ownedTupleIsFree (Value.ref z) >>= _) _ _ s
 refine wpAny_bind (zQ zr al λg1 zr1 sb1=>?_);simp only[jy,if_false];refine wpAny_bind ?_;rw[<- Array.forIn_toList];simp only[Mr,Cm];have j1':=j1.extBut sb1.extBut D.i1z;have m1':=m1.extBut sb1.extBut D.l1z;refine wpAny_bind (wpAny_bind (wpAny_holding ?_))
 change wpAny _ _ (Builtin.SmallTypes.nextOf (Value.ref i1) >>= _) _ _ _
 refine wpAny_bind (wpAny_nextOf_list_item j1' m1' eu λg2 j1a sb2=>wpAny_pure ?_);refine wpAny_pure ?_;have j2':=(j2.extBut sb1.extBut D.i2z).extBut sb2.extBut D.i12.symm;have m2':=(m2.extBut sb1.extBut D.l2z).extBut sb2.extBut D.l2i1;refine wpAny_bind (wpAny_bind (wpAny_holding ?_))
 change wpAny _ _ (Builtin.SmallTypes.nextOf (Value.ref i2) >>= _) _ _ _
 refine wpAny_bind (wpAny_nextOf_list_item j2' m2' ev λg3 j2a sb3=>wpAny_pure ?_);refine wpAny_pure (wpAny_pure ?_);refine wpAny_bind (wpAny_newTuple (hsz:=mC rfl) ?_);have sz:g3.objs.size=s.heap.objs.size:=by rw[sb3.1,sb2.1,sb1.1]
 have up:∀c o,c≠z->c≠i1->c≠i2->s.heap.get? c=some o->g3.get? c=some o:=λc o c1 c2 c3 e=>sb3.extBut _ _ c3 (sb2.extBut _ _ c2 (sb1.extBut _ _ c1 e))
 have zr3:AN g3 z TI TO (rawInt T) (.bool true):=sb3.extBut _ _ D.i2z.symm (sb2.extBut _ _ D.i1z.symm zr1);refine wpAny_pure ⟨_,rfl,?_⟩
 change Q (.ref g3.objs.size) { s with heap:=g3.push { cls:=.type "tuple",data:=.seq #[u,v] } }
 have last:=hQ (g3.push { cls:=.type "tuple",data:=.seq #[u,v] }) (Heap.get?_push_of_some _ zr3) ((j1a.extBut sb3.extBut D.i12).at λo e=>Heap.get?_push_of_some _ e) (j2a.at λo e=>Heap.get?_push_of_some _ e)
  (by rw[<- sz];exact Heap.get?_push_size _ rfl) λc o c1 c2 c3 e=>Heap.get?_push_of_some _ (up c o c1 c2 c3 e)
 rw[sz];exact last
theorem K2 {z TI TO T i1 i2 l1 l2:Addr} (hh:A.handled=none) (D:ZipApart z TI TO i1 i2 l1 l2) (zr:AN s.heap z TI TO (rawInt T) (.bool b1)) (al:s.heap.get? T=some o)
  (pt:IsPair s.heap TI (.ref i1) (.ref i2)) (j1:s.heap.IsListIter i1 l1 k1) (m1:s.heap.IsList l1 us) (eu:us[k1]?=none)
  (hE:∀h' e,(∀c o,c≠z->c≠i1->c≠i2->s.heap.get? c=some o->h'.get? c=some o)->(∃o,h'.get? e=some o/\o.cls=.type "StopIteration")->E (.ref e) { s with heap:=h' }) :
  wpAny (model prog w) A (Builtin.«zip.__next__» ⟨[.ref z],[]⟩) Q E s:=by
 change wpAny _ _ (field (Value.ref z) 2 >>= _) _ _ s
 refine wpAny_bind (wpAny_field zr rfl (x:=.bool false) rfl ?_)
 change wpAny _ _ (field (Value.ref z) 3 >>= _) _ _ s
 refine wpAny_bind (wpAny_field zr rfl (x:=.ref TI) rfl (wpAny_bind (wpAny_seqItems pt rfl ?_)))
 change wpAny _ _ (Builtin.SmallTypes.ownedTupleIsFree (Value.ref z) >>= _) _ _ s
 refine wpAny_bind (zQ zr al λg1 zr1 sb1=>?_);simp only[jy,if_false];refine wpAny_bind ?_;rw[<- Array.forIn_toList];simp only[Mr,Cm];refine wpAny_bind (wpAny_bind (wpAny_holding ?_))
 change wpAny _ _ (Builtin.SmallTypes.nextOf (Value.ref i1) >>= _) _ _ _
 exact wpAny_bind (wpAny_nextOf_list_end hh (j1.extBut sb1.extBut D.i1z) (m1.extBut sb1.extBut D.l1z) eu λg2 e xb he=>hE g2 e (λc o c1 c2 _ q=>xb _ _ c2 (sb1.extBut _ _ c1 q)) he)
theorem Jq {z TI TO T i1 i2 l1 l2:Addr} (D:ZipApart z TI TO i1 i2 l1 l2) (zr:AN s.heap z TI TO (rawInt T) (.bool b1)) (al:s.heap.get? T=some o)
  (pt:IsPair s.heap TI (.ref i1) (.ref i2)) (j1:s.heap.IsListIter i1 l1 k1) (j2:s.heap.IsListIter i2 l2 k2) (m1:s.heap.IsList l1 us) (m2:s.heap.IsList l2 ws) (eu:us[k1]?=some u) (ev:ws[k2]?=some v)
  (hQ:∀h',AN h' z TI TO (rawInt T) (.bool true)->h'.IsListIter i1 l1 (k1+1)->h'.IsListIter i2 l2 (k2+1)->IsPair h' s.heap.objs.size u v->(∀c o,c≠z->c≠i1->c≠i2->s.heap.get? c=some o->h'.get? c=some o)->Q (some (.ref s.heap.objs.size)) { s with heap:=h' }) :
  wpAny (model prog w) A (pyNext (.ref z)) Q E s:=by
 have ty:s.TypeIs (.ref z) "zip":=⟨_,zr,rfl⟩;unfold pyNext;refine wpAny_bind (wpAny_attempt (wpAny_callSpecial?_slot (name:=Str.ofString "__next__") ty pE (wpAny_call_entry pE ty PySem.F.entry_zip_next ?_ (SX _))));exact Js D zr al pt j1 j2 m1 m2 eu ev λh' a1 a2 a3 a4 a5=>wpAny_pure (hQ h' a1 a2 a3 a4 a5)
theorem Jp {z TI TO T i1 i2 l1 l2:Addr} (hh:A.handled=none) (D:ZipApart z TI TO i1 i2 l1 l2) (zr:AN s.heap z TI TO (rawInt T) (.bool b1)) (al:s.heap.get? T=some o)
  (pt:IsPair s.heap TI (.ref i1) (.ref i2)) (j1:s.heap.IsListIter i1 l1 k1) (m1:s.heap.IsList l1 us) (eu:us[k1]?=none)
  (hQ:∀h',(∀c o,c≠z->c≠i1->c≠i2->s.heap.get? c=some o->h'.get? c=some o)->Q none { s with heap:=h' }):wpAny (model prog w) A (pyNext (.ref z)) Q E s:=by
 have ty:s.TypeIs (.ref z) "zip":=⟨_,zr,rfl⟩;unfold pyNext;refine wpAny_bind (wpAny_attempt (wpAny_callSpecial?_slot (name:=Str.ofString "__next__") ty pE (wpAny_call_entry pE ty PySem.F.entry_zip_next ?_ (SX _))));refine K2 hh D zr al pt j1 m1 eu λh' e kk ⟨oe,he,hc⟩=>?_
 exact wpAny_bind (wpAny_isInstance (T:="StopIteration") (b:=true) ⟨oe,he,hc⟩ isSubtype_stop (wpAny_pure (hQ _ kk)))
end
section
variable {X:Cx} {pins:List (Addr×Obj)} {σ:St} {H:Hp} {s:Shared}
theorem Inv.moved {ch:List Addr} (I:Inv X pins σ H s) (fx:∀b∈ch,kW X pins H b) (up:∀b o,b∉ch->s.heap.get? b=some o->h'.get? b=some o) (hg:AllBare g') :
  Inv X pins σ H { s with heap:=h',gens:=g',drawn:=d',toks:=t' }:=by
 have nx:∀b o,H b=some o->b∉ch:=λb o e hb=>by have:=(fx b hb).1;rw[this] at e;cases e
 refine I.step (ch:=ch) (λb hb=>?_) (λb o _ _ hb e _=>up b o hb e) (λb o _ _ hb e _=>⟨o.slots,up b o hb e⟩) (λb o hb e n=>n) (λb o hb e=>⟨o,up b o hb e⟩) (λb q e=>e) (λb o q e=>e) (λb q e=>⟨#[],by rw[e];simp⟩) (λm hm=>?_) (λb o e=>?_) hg
 ·obtain ⟨_,f1,_,f3,f4,f5⟩:=fx b hb;exact ⟨f3,f1,f4,f5⟩
 ·obtain ⟨o,es,ep,ho,r⟩:=hm;exact ⟨o,es,ep,up _ o (λz=>(fx _ z).2.1 rfl) ho,r⟩
 ·refine (I.hok b o e).stay (λc v' hc q=>up c v' ?_ q) (λc q=>q) λc xs q=>q
  rcases hc with rfl | hc
  ·exact nx _ _ e
  ·exact nx _ _ hc
theorem Inv.track (I:Inv X pins σ H s) (fp:kW X pins H p) (new:jN X.prog X.w (upd H p o) s.heap p o):Inv X pins σ (upd H p o) s:=by
 have nt:∀{b:Addr} {u:HO},H b=some u->b≠p:=λe z=>by rw[z,fp.1] at e;cases e
 refine I.step (h':=s.heap) (g':=s.gens) (d':=s.drawn) (t':=s.toks) (ch:=[p]) (λb hb=>?_) (λb o _ _ _ e _=>e) (λb o _ _ _ e _=>⟨o.slots,e⟩) (λb o hb e n=>?_) (λb o _ e=>⟨o,e⟩) (λb q e=>by rw[aZ (nt e)];exact e) (λb o q e=>by rw[aZ (nt e)];exact e)
  (λb q e=>⟨#[],by rw[aZ (nt e),e];simp⟩) (λm hm=>hm) (λb u e=>?_) I.bare
 ·have e:b=p:=by simpa using hb
  subst e;obtain ⟨_,f1,_,f3,f4,f5⟩:=fp;exact ⟨f3,f1,f4,f5⟩
 ·rw[aZ λz=>hb (by simp [z])];exact n
 ·by_cases hb:b=p
  ·subst hb;rw[aK] at e;cases e;exact new
  ·rw[aZ hb] at e;exact (I.hok b u e).stay (λc v _ q=>q) (λc q=>by rw[aZ (nt q)];exact q) λc xs q=>by rw[aZ (nt q)];exact q
end
def OU (H:Hp) (p:V×V) (x:V):Prop:=∃T,x=.ref T/\H T=some (.tup [p.1,p.2])
theorem OU.same (h:OU H p x) (e:aG H H'):OU H' p x:=by obtain ⟨T,q,g⟩:=h;exact ⟨T,q,e _ _ g⟩
def Zst (h:Heap) (z TI TO:Addr) (base:Nat):Prop:=(∃a b,IsPair h TO a b)/\(IsZip h z TI TO .none\/∃(T:Addr) (b1:Bool) (o:Obj),AN h z TI TO (rawInt T) (.bool b1)/\h.get? T=some o/\@LE.le Nat instLENat base T)
theorem Cn {z TI TO i1 i2 l1 l2:Addr} (hz:AN h z TI TO f0 f1) (hTI:IsPair h TI (.ref i1) (.ref i2)) (hTO:IsPair h TO a b) (h1:h.IsListIter i1 l1 k1) (h2:h.IsListIter i2 l2 k2) (hl1:h.IsList l1 xs) (hl2:h.IsList l2 ys) (hT:TI≠TO) (hi:i1≠i2):ZipApart z TI TO i1 i2 l1 l2:=by
 obtain ⟨o1,g1,c1,_⟩:=h1;obtain ⟨o2,g2,c2,_⟩:=h2;obtain ⟨p1,q1,d1,_⟩:=hl1;obtain ⟨p2,q2,d2,_⟩:=hl2;have zt:Value.type "zip"≠.type "tuple":=mj (by decide);have it:Value.type "list_iterator"≠.type "tuple":=mj (by decide);have iz:Value.type "list_iterator"≠.type "zip":=mj (by decide);have lz:Value.type "list"≠.type "zip":=mj (by decide);have lt:Value.type "list"≠.type "tuple":=mj (by decide);have li:Value.type "list"≠.type "list_iterator":=mj (by decide)
 exact ⟨du hTI hz zt.symm,du hTO hz zt.symm,du g1 hz (by rw[c1];exact iz),du g2 hz (by rw[c2];exact iz),hT,du hTI g1 (by rw[c1];exact it.symm),du hTI g2 (by rw[c2];exact it.symm),du hTO g1 (by rw[c1];exact it.symm),du hTO g2 (by rw[c2];exact it.symm),hi,
  du q1 hz (by rw[d1];exact lz),du q1 hTO (by rw[d1];exact lt),du q1 g1 (by rw[d1,c1];exact li),du q1 g2 (by rw[d1,c2];exact li),du q2 hz (by rw[d2];exact lz),du q2 hTO (by rw[d2];exact lt),du q2 g1 (by rw[d2,c1];exact li),du q2 g2 (by rw[d2,c2];exact li)⟩
section
variable {X:Cx} {pins:List (Addr×Obj)} {σ:St}
theorem kW.heap (f:kW X pins H b) (e:H' b=none):kW X pins H' b:=⟨e,f.2⟩
structure DR where
 z:Addr
 TI:Addr
 TO:Addr
 i1:Addr
 i2:Addr
 S:Addr
 base:Nat
def DR.all (a:DR):List Addr:=[a.z,a.TI,a.TO,a.i1,a.i2,a.S]
structure DR.Ok (a:DR):Prop where
 tt:a.TI≠a.TO
 ii:a.i1≠a.i2
 Sz:a.S≠a.z
 STI:a.S≠a.TI
 STO:a.S≠a.TO
 Si1:a.S≠a.i1
 Si2:a.S≠a.i2
 lt:∀b∈a.all,@LT.lt Nat instLTNat b a.base
structure Oe (X:Cx) (pins:List (Addr×Obj)) (σ:St) (H1:Hp) (a:DR) (l1 l2:Addr) (i:Nat) (H:Hp) (s:Shared):Prop where
 inv:Inv X pins σ H s
 same:aG H1 H
 fps:∀b∈a.all,kW X pins H b
 sz:a.base<=s.heap.objs.size
 zst:Zst s.heap a.z a.TI a.TO a.base
 pt:IsPair s.heap a.TI (.ref a.i1) (.ref a.i2)
 j1:s.heap.IsListIter a.i1 l1 i
 j2:s.heap.IsListIter a.i2 l2 i
variable {a:DR} {l1 l2:Addr} {H1 H:Hp} {s:Shared} {i:Nat} {xs ys:List V}
theorem Oe.push (L:Oe X pins σ H1 a l1 l2 i H s) (O:a.Ok) (k:∀b o,b≠a.S->s.heap.get? b=some o->h'.get? b=some o) (hz:h'.objs.size=s.heap.objs.size):Oe X pins σ H1 a l1 l2 i H { s with heap:=h' }:=by
 refine ⟨L.inv.moved (g':=s.gens) (d':=s.drawn) (t':=s.toks) (ch:=[a.S]) (λb hb=>?_) (λb o hb e=>k b o (λz=>hb (by simp [z])) e) L.inv.bare,L.same,L.fps,by show a.base<=h'.objs.size;rw[hz];exact L.sz,?_,k _ _ O.STI.symm L.pt,L.j1.at λo e=>k _ o O.Si1.symm e,L.j2.at λo e=>k _ o O.Si2.symm e⟩
 ·have e:b=a.S:=by simpa using hb
  rw[e];exact L.fps _ (by simp [DR.all])
 ·obtain ⟨⟨c,d,z0⟩,z4⟩:=L.zst;refine ⟨⟨c,d,k _ _ O.STO.symm z0⟩,?_⟩;rcases z4 with z1 | ⟨T,b1,o,z1,z2,z3⟩
  ·exact .inl (k _ _ O.Sz.symm z1)
  ·refine .inr ⟨T,b1,o,k _ _ O.Sz.symm z1,k _ _ (λe=>?_) z2,z3⟩;have:=O.lt a.S (by simp [DR.all]);rw[<- e] at this;exact absurd this (Nat.not_lt.mpr z3)
theorem JT (O:a.Ok) (q1:bK X.K H1 l1 xs) (q2:bK X.K H1 l2 ys) (ex:xs[i]?=some x) (ey:ys[i]?=some y) (L:Oe X pins σ H1 a l1 l2 i H s)
  (hQ:∀s',Oe X pins σ H1 a l1 l2 (i+1) (upd H s.heap.objs.size (.tup [x,y])) s'->(∀c o,c∉[a.z,a.TO,a.i1,a.i2]->s.heap.get? c=some o->s'.heap.get? c=some o)->H s.heap.objs.size=none->Q (some (.ref s.heap.objs.size)) s'):wpAny (model X.prog X.w) A' (pyNext (.ref a.z)) Q E s:=by
 obtain ⟨I,sm,fps,sz,zst,pt,j1,j2⟩:=id L;obtain ⟨us,ru,pu,_⟩:=I.list (sm.seq q1);obtain ⟨ws,rw',pw,_⟩:=I.list (sm.seq q2);obtain ⟨u,eu,r1⟩:=ru.get ex;obtain ⟨v,ev,r2⟩:=rw'.get ey;have fx:∀b∈[a.z,a.TO,a.i1,a.i2],kW X pins H b:=λb hb=>fps b (by simp only[DR.all,aH,aY,or_false] at hb ⊢;rcases hb with e | e | e | e <;> simp [e])
 have hT0:H s.heap.objs.size=none:=I.hok.fresh (ar _);have fT:kW X pins H s.heap.objs.size:=I.fpOk (ar _) hT0;have lt:∀b∈a.all,b≠s.heap.objs.size:=λb hb e=>by have:=O.lt b hb;rw[e] at this;exact absurd this (Nat.not_lt.mpr sz)
 have fin:∀h',(∀c o,c∉[a.z,a.TO,a.i1,a.i2]->s.heap.get? c=some o->h'.get? c=some o)->IsPair h' s.heap.objs.size u v->IsPair h' a.TI (.ref a.i1) (.ref a.i2)->h'.IsListIter a.i1 l1 (i+1)->h'.IsListIter a.i2 l2 (i+1)->Zst h' a.z a.TI a.TO a.base →
   Q (some (.ref s.heap.objs.size)) { s with heap:=h' }:=λh' up pr pt' j1' j2' zst'=>by
  have I2:Inv X pins σ H { s with heap:=h' }:=I.moved (g':=s.gens) (d':=s.drawn) (t':=s.toks) fx up I.bare;have I3:Inv X pins σ (upd H s.heap.objs.size (.tup [x,y])) { s with heap:=h' }:=I2.track fT ⟨mC rfl,[u,v],.cons r1 (.cons r2 .nil),⟨_,pr,rfl,_,rfl⟩⟩;refine hQ _ ⟨I3,sm.trans (aG.new hT0),λb hb=>(fps b hb).heap (by rw[aZ (lt b hb)];exact (fps b hb).1),?_,zst',pt',j1',j2'⟩ up hT0;exact ak sz (aO (Heap.lt_size pr))
 obtain ⟨⟨c,d,z0⟩,z4⟩:=zst;rcases z4 with z1 | ⟨T,b1,o,z1,z2,z3⟩
 ·have D:=Cn z1 pt z0 j1 j2 pu.isList pw.isList O.tt O.ii;refine wpAny_pyNext_zip_item D z1 pt z0 j1 j2 pu.isList pw.isList (x:=u) (y:=v) (by simpa using eu) (by simpa using ev) λh' a1 a2 a3 a4 a5 a6 hk=>?_
  have up:∀c o,c∉[a.z,a.TO,a.i1,a.i2]->s.heap.get? c=some o->h'.get? c=some o:=λc o hc e=>by
   simp only[aH,aY,or_false,not_or] at hc;exact hk c o hc.1 hc.2.1 hc.2.2.1 hc.2.2.2 e
  exact fin h' up a5 (hk _ _ D.TIz D.TITO D.TIi1 D.TIi2 pt) a3 a4 ⟨⟨_,_,a2⟩,.inr ⟨s.heap.objs.size,false,_,a1,a5,sz⟩⟩
 ·have D:=Cn z1 pt z0 j1 j2 pu.isList pw.isList O.tt O.ii;refine Jq D z1 z2 pt j1 j2 pu.isList pw.isList (u:=u) (v:=v) (by simpa using eu) (by simpa using ev) λh' a1 a3 a4 a5 hk=>?_
  have up:∀c o,c∉[a.z,a.TO,a.i1,a.i2]->s.heap.get? c=some o->h'.get? c=some o:=λc o hc e=>by
   simp only[aH,aY,or_false,not_or] at hc;exact hk c o hc.1 hc.2.2.1 hc.2.2.2 e
  have Tn:∀b∈a.all,T≠b:=λb hb e=>by have:=O.lt b hb;rw[<- e] at this;exact absurd this (Nat.not_lt.mpr z3)
  exact fin h' up a5 (hk _ _ D.TIz D.TIi1 D.TIi2 pt) a3 a4 ⟨⟨_,_,hk _ _ D.TOz D.TOi1 D.TOi2 z0⟩,.inr ⟨T,true,o,a1,hk _ _ (Tn _ (by simp [DR.all])) (Tn _ (by simp [DR.all])) (Tn _ (by simp [DR.all])) z2,z3⟩⟩
theorem JS (hh:A'.handled=none) (O:a.Ok) (q1:bK X.K H1 l1 xs) (q2:bK X.K H1 l2 ys) (hi:xs.length<=i) (L:Oe X pins σ H1 a l1 l2 i H s)
  (hQ:∀s',Inv X pins σ H s'->(∀c o,c∉[a.z,a.TO,a.i1,a.i2]->s.heap.get? c=some o->s'.heap.get? c=some o)->Q none s'):wpAny (model X.prog X.w) A' (pyNext (.ref a.z)) Q E s:=by
 obtain ⟨I,sm,fps,sz,zst,pt,j1,j2⟩:=id L;obtain ⟨us,ru,pu,_⟩:=I.list (sm.seq q1);obtain ⟨ws,rw',pw,_⟩:=I.list (sm.seq q2);have lx:=ru.length;have none1:us.toArray[i]?=none:=by simp;lia
 have fx:∀b∈[a.z,a.TO,a.i1,a.i2],kW X pins H b:=λb hb=>fps b (by simp only[DR.all,aH,aY,or_false] at hb ⊢;rcases hb with e | e | e | e <;> simp [e])
 have fin:∀h',(∀c o,c∉[a.z,a.TO,a.i1,a.i2]->s.heap.get? c=some o->h'.get? c=some o)->Q none { s with heap:=h' }:=λh' up=>hQ _ (I.moved (g':=s.gens) (d':=s.drawn) (t':=s.toks) fx up I.bare) up
 obtain ⟨⟨c,d,z0⟩,z4⟩:=zst;rcases z4 with z1 | ⟨T,b1,o,z1,z2,z3⟩
 ·have D:=Cn z1 pt z0 j1 j2 pu.isList pw.isList O.tt O.ii;refine wpAny_pyNext_zip_end hh D z1 pt z0 j1 j2 pu.isList pw.isList (.inl none1) λh' hk=>fin h' λc o hc e=>?_
  simp only[aH,aY,or_false,not_or] at hc;exact hk c o hc.1 hc.2.1 hc.2.2.1 hc.2.2.2 e
 ·have D:=Cn z1 pt z0 j1 j2 pu.isList pw.isList O.tt O.ii;refine Jp hh D z1 z2 pt j1 pu.isList none1 λh' hk=>fin h' λc o hc e=>?_
  simp only[aH,aY,or_false,not_or] at hc;exact hk c o hc.1 hc.2.2.1 hc.2.2.2 e
theorem JV (hh:A'.handled=none) (O:a.Ok) (hz:xs.length<=sizeLine) (hl:ys.length=xs.length) (q1:bK X.K H1 l1 xs) (q2:bK X.K H1 l2 ys)
  (fin:∀s' H' ts acc c,Inv X pins σ H' s'->aG H1 H'->kW X pins H' a.S->s'.heap.get? a.S=some (lobj acc c)->cZ ts acc->Paired (OU H') (xs.zip ys) ts->R (.ok (.ret .none)) s') :
  ∀(k i:Nat) (s:Shared) (H:Hp) (ts:List V) (acc:List Value) (c:Nat),xs.length - i=k->i<=xs.length->Oe X pins σ H1 a l1 l2 i H s->s.heap.get? a.S=some (lobj acc c)->cZ ts acc->Paired (OU H) ((xs.zip ys).take i) ts →
   codeAny (model X.prog X.w) A' (.builtin "list.extend.loop" ⟨[.ref a.S,.ref a.z,.none],[]⟩) R s:=by
 have Sn:a.S∉[a.z,a.TO,a.i1,a.i2]:=λh=>by
  simp only[aH,aY,or_false] at h;rcases h with e | e | e | e
  ·exact O.Sz e
  ·exact O.STO e
  ·exact O.Si1 e
  ·exact O.Si2 e
 intro k
 induction k with
 | zero =>
  intro i s H ts acc c hk hi L gS rv prs;have e:i=xs.length:=by lia
  refine codeAny_builtin QW ?_;rw[Around.under_plainId lN _]
  change wpAny _ A'.in1 (pyNext (Value.ref a.z) >>= _) _ _ s
  refine wpAny_bind (JS hh O q1 q2 (by lia) L λs' I' up=>wpAny_pure (fin s' H ts acc c I' L.same (L.fps _ (by simp [DR.all])) (up _ _ Sn gS) rv ?_));rwa [aA (by rw[qQ];lia)] at prs
 | succ k ih =>
  intro i s H ts acc c hk hi L gS rv prs;have hlt:i < xs.length:=by lia
  have lt:=prs.length;have la:=rv.length;refine codeAny_builtin QW ?_;rw[Around.under_plainId lN _]
  change wpAny _ A'.in1 (pyNext (Value.ref a.z) >>= _) _ _ s
  refine wpAny_bind (JT O q1 q2 (x:=xs[i]) (y:=ys[i]'(by lia)) (by simp [hlt]) (by simp) L λs' L' up hT=>?_);have gS':=up _ _ Sn gS
  change wpAny _ A'.in1 (updateSeq a.S (·.push (Value.ref s.heap.objs.size)) >>= _) _ _ s'
  have small:acc.length<=sizeLine:=by
   rw[cW,qQ] at lt
   lia
  refine wpAny_bind (wpAny_updateSeq gS' rfl (wpAny_pure ⟨plainId_quiet lN _,?_⟩) (by rw[aX];exact small) (by
   show (acc.toArray.push (Value.ref s.heap.objs.size)).size<=sizeLine+1
   rw[Array.size_push,aX]
   lia))
  have gS2:=lg gS' (λb=>b.push (Value.ref s.heap.objs.size));have e2:(acc.toArray.push (Value.ref s.heap.objs.size))=(acc++[Value.ref s.heap.objs.size]).toArray:=by simp
  rw[e2] at gS2;refine ih (i+1) _ (upd H s.heap.objs.size (.tup [xs[i],ys[i]'(by lia)])) (ts++[.ref s.heap.objs.size]) (acc++[.ref s.heap.objs.size]) _ (by lia) hlt (L'.push O (λb o hb e=>(Heap.get?_update_other _ _ (Ne.symm hb)).trans e) (Heap.size_update ..)) gS2 (rv.append (show cZ [V.ref s.heap.objs.size] [Value.ref s.heap.objs.size] from .cons rfl .nil)) ?_;have zp:(xs.zip ys)[i]?=some (xs[i],ys[i]'(by lia)):=by simp [QX,hlt]
  rw[take_snoc zp];exact (Paired.imp' (λ_ _ z=>z.same (aG.new hT)) prs).snoc ⟨_,rfl,aK⟩
theorem FJ:typeLookup (.type "zip") "__len__"=pure Option.none:=by rw[typeLookup_type,builtinLookup_eq_fast];kernel_rfl
theorem Ed:typeLookup (.type "zip") "__length_hint__"=pure Option.none:=by rw[typeLookup_type,builtinLookup_eq_fast];kernel_rfl
theorem JU (hh:A'.handled=none) (O:a.Ok) (hz:xs.length<=sizeLine) (hl:ys.length=xs.length) (q1:bK X.K H1 l1 xs) (q2:bK X.K H1 l2 ys) (L:Oe X pins σ H1 a l1 l2 0 H s) (gS:s.heap.get? a.S=some (lobj [] 0)) (z0:IsZip s.heap a.z a.TI a.TO .none)
  (fin:∀s' H' ts acc c,Inv X pins σ H' s'->aG H1 H'->kW X pins H' a.S->s'.heap.get? a.S=some (lobj acc c)->cZ ts acc->Paired (OU H') (xs.zip ys) ts->R (.ok (.ret .none)) s') :
  wpAny (model X.prog X.w) A'.in1 (Builtin.«list.__init__» ⟨[.ref a.S,.ref a.z],[]⟩) (λfl s'=>match fl with | .done f=>R (.ok f) s' | .again c'=>c'.quiet=true/\codeAny (model X.prog X.w) A' c' R s') (λe s'=>R (.error e) s') s:=by
 change wpAny _ A'.in1 (do let old <- Builtin.List.listItems (Value.ref a.S);Builtin.List.listUpdate (Value.ref a.S) (λ_=>#[]);letGo old.toList.reverse;Builtin.List.listExtendWith (Value.ref a.S) (Value.ref a.z) Value.none) _ _ s
 refine wpAny_bind ?_;unfold Builtin.List.listItems;refine wpAny_bind (wpAny_seqItems gS rfl (wpAny_pure ?_))
 change wpAny _ A'.in1 (updateSeq a.S (λ_=>#[]) >>= λ_=>letGo (#[]:Array Value).toList.reverse >>= λ_=>Builtin.List.listExtendWith (Value.ref a.S) (Value.ref a.z) Value.none) _ _ s
 refine wpAny_bind (wpAny_updateSeq gS rfl ?_);have g1:=lg gS (λ_=>(#[]:Array Value));obtain ⟨n1,g1⟩:∃n1,(s.heap.update a.S (Obj.mapSeq λ_=>(#[]:Array Value))).get? a.S=some (lobj [] n1):=⟨_,g1⟩;have L1:=L.push (h':=s.heap.update a.S (Obj.mapSeq λ_=>(#[]:Array Value))) O (λb o hb e=>(Heap.get?_update_other _ _ (Ne.symm hb)).trans e) (Heap.size_update ..);have z1:IsZip (s.heap.update a.S (Obj.mapSeq λ_=>(#[]:Array Value))) a.z a.TI a.TO .none:=(Heap.get?_update_other _ _ O.Sz).trans z0;refine wpAny_bind (wpAny_letGo ?_);unfold Builtin.List.listExtendWith;have ty:Shared.TypeIs { s with heap:=s.heap.update a.S (Obj.mapSeq λ_=>(#[]:Array Value)) } (.ref a.z) "zip":=⟨_,z1,rfl⟩;refine wpAny_bind (wpAny_typeOf ty ?_);have h1:Builtin.List.listSameRef (.ref a.S) (.ref a.z)=false:=by simp [Builtin.List.listSameRef,O.Sz]
 have h2:(Value.type "zip" == Value.type "list")=false:=by decide
 have h3:(Value.type "zip" == Value.type "tuple")=false:=by decide
 simp only[h1,h2,h3,Bool.or_false,jy,if_false];refine wpAny_bind (wpAny_pyIter_zip z1 (wpAny_bind (wpAny_holding ?_)));unfold Builtin.List.listLengthHint;refine wpAny_bind (wpAny_specialOf ty FJ ?_)
 change wpAny _ A'.in1 (specialOf (Value.ref a.z) (Str.ofString "__length_hint__") >>= _) _ _ _
 refine wpAny_bind (wpAny_specialOf ty Ed (wpAny_pure ?_))
 change wpAny _ A'.in1 (rule "list.extend.makes-room" >>= λ_=>Builtin.List.listTouch (Value.ref a.S) >>= λ_=>again (.builtin "list.extend.loop" ⟨[Value.ref a.S,Value.ref a.z,Value.none],[]⟩)) _ _ _
 refine wpAny_bind (wpAny_rule (wpAny_bind ?_))
 change wpAny _ A'.in1 (updateSeq a.S (·.push Value.none) >>= λ_=>updateSeq a.S (·.pop)) _ _ _
 refine wpAny_bind (wpAny_updateSeq g1 rfl ?_);have g2:=lg g1 (λb=>b.push Value.none);obtain ⟨n2,g2⟩:∃n2,((s.heap.update a.S (Obj.mapSeq λ_=>(#[]:Array Value))).update a.S (Obj.mapSeq λb=>b.push Value.none)).get? a.S=some (lobj [Value.none] n2):=⟨_,g2⟩;have L2:=L1.push (h':=(s.heap.update a.S (Obj.mapSeq λ_=>(#[]:Array Value))).update a.S (Obj.mapSeq λb=>b.push Value.none)) O (λb o hb e=>(Heap.get?_update_other _ _ (Ne.symm hb)).trans e) (Heap.size_update ..);refine wpAny_updateSeq g2 rfl ?_ (mC rfl);have g3:=lg g2 (λb=>b.pop);have L3:=L2.push (h':=((s.heap.update a.S (Obj.mapSeq λ_=>(#[]:Array Value))).update a.S (Obj.mapSeq λb=>b.push Value.none)).update a.S (Obj.mapSeq λb=>b.pop)) O (λb o hb e=>(Heap.get?_update_other _ _ (Ne.symm hb)).trans e) (Heap.size_update ..);exact wpAny_pure ⟨plainId_quiet lN _,JV hh O hz hl q1 q2 fin _ 0 _ H [] [] _ rfl (b8 _) L3 g3 .nil .nil⟩
end
section
variable {X:Cx}
theorem O2 (n:Nat):DR.Ok ⟨n+4,n+2,n+3,n,n+1,n+5,n+5+1⟩:=by
 have ne:∀p q:Nat,p≠q->@Ne Addr p q:=λ_ _ h=>h
 refine ⟨ne (n+2) (n+3) (by lia),ne n (n+1) (by lia),ne (n+5) (n+4) (by lia),ne (n+5) (n+2) (by lia),ne (n+5) (n+3) (by lia),ne (n+5) n (by lia),ne (n+5) (n+1) (by lia),λb hb=>?_⟩;have hb':b∈[n+4,n+2,n+3,n,n+1,n+5]:=hb;show @LT.lt Nat instLTNat b (n+5+1)
 simp only[aH,aY,or_false] at hb';rcases hb' with e | e | e | e | e | e <;> (rw[e];exact bc (jn _) (by lia))
def Eg (K:FG9) (ta:TA):TE:=λσ H Q=>ta σ H λvs H1=>∃(l1 l2:Addr) (xs ys:List V),vs=[.ref l1,.ref l2]/\bK K H1 l1 xs/\bK K H1 l2 ys/\ys.length=xs.length /\
 ∀L ts H',aG H1 H'->H1 L=none->H' L=some (.lst ts)->Paired (OU H') (xs.zip ys) ts->Q (.ref L) H'
theorem zO {e1 e2:Expr} {ta:TA} {p p2 pos pos2:Pos} (hg:Gl X "list") (hm:X.mg "list"=none) (hg2:Gl X "zip") (hm2:X.mg "zip"=none) (ha:PA X [e1,e2] ta) (hc:X.calm=true:=by rfl)
  (hs:starEach [e1,e2] X.env=[(false,eval e1 X.env),(false,eval e2 X.env)]:=by rfl) (hs2:starEach [e2] X.env=[(false,eval e2 X.env)]:=by rfl)
  (hs3:starEach [Expr.Call (.Name "zip" p2) [e1,e2] [] pos2] X.env=[(false,eval (.Call (.Name "zip" p2) [e1,e2] [] pos2) X.env)]:=by rfl) :
  PE X (.Call (.Name "list" p) [.Call (.Name "zip" p2) [e1,e2] [] pos2] [] pos) (Eg X.K ta):=by
 intro pins s σ H Q I h;refine wpAny_Call_Name_kw (oC I hg hm boot_list ?_);refine PyProof.Rows.callWith_type1 ?_ (by rw[hs3];rfl) rfl;rw[hs3];show wpAny _ _ (spliced ((false,eval (.Call (.Name "zip" p2) [e1,e2] [] pos2) X.env) :: [])) _ _ s
 refine Calls.spliced_cons ?_;refine Call_ (oC I hg2 hm2 boot_zip (PyProof.Rows.callWith_type1 (iK (ha pos2 pins s σ H _ I h) λus s1 ⟨vs,H1,I1,r1,q1⟩=>?_) (by rw[hs,hs2]) (by rw[hs2];rfl)));obtain ⟨l1,l2,xs,ys,e,qx,qy,hl,q⟩:=q1;subst e;obtain ⟨u,v,rfl,ru,rv⟩:=vals2 r1;cases ru;cases rv;obtain ⟨us,rx,px,hz⟩:=I1.list qx;obtain ⟨ws,ry,py,_⟩:=I1.list qy;refine call_zip_2 px.isList py.isList λh' a1 a2 a3 a4 a5 a6 hk=>?_
 refine Calls.spliced_nil ?_;have I2:Inv X pins σ H1 { s1 with heap:=h' }:=I1.kept (t':=s1.toks) hk;have up:∀b o,h'.get? b=some o->(h'.push { cls:=.type "list",data:=.seq #[] }).get? b=some o:=λb o e=>Heap.get?_push_of_some _ e
 have O:DR.Ok ⟨s1.heap.objs.size+4,s1.heap.objs.size+2,s1.heap.objs.size+3,s1.heap.objs.size,s1.heap.objs.size+1,h'.objs.size,h'.objs.size+1⟩:=by
  rw[a6];exact O2 s1.heap.objs.size
 have old:∀b∈(DR.mk (s1.heap.objs.size+4) (s1.heap.objs.size+2) (s1.heap.objs.size+3) s1.heap.objs.size (s1.heap.objs.size+1) h'.objs.size (h'.objs.size+1)).all,s1.heap.objs.size<=b:=λb hb=>by
  rw[a6] at hb;simp only[DR.all,aH,aY,or_false] at hb;rcases hb with rfl | rfl | rfl | rfl | rfl | rfl <;> first | exact JR _ _ | exact ar _
 have gS:(h'.push { cls:=.type "list",data:=.seq #[] }).get? h'.objs.size=some (lobj [] 0):=Heap.get?_push_size _ rfl;refine callType_codes (Q₁:=λob t=>ob=.ref h'.objs.size/\t={ s1 with heap:=h'.push { cls:=.type "list",data:=.seq #[] } }) PySem.F.called_list (PySem.F.typeCall_list_1 _) PySem.F.entry_list_init (code_list_new _ ⟨rfl,rfl⟩) λob t ht=>?_
 obtain ⟨rfl,rfl⟩:=ht;refine ⟨⟨_,gS,rfl⟩,PySem.F.args_list_init_2 _ _,?_⟩
 have L:Oe X pins σ H1 ⟨s1.heap.objs.size+4,s1.heap.objs.size+2,s1.heap.objs.size+3,s1.heap.objs.size,s1.heap.objs.size+1,h'.objs.size,h'.objs.size+1⟩ l1 l2 0 H1 { s1 with heap:=h'.push { cls:=.type "list",data:=.seq #[] } } :=
  ⟨I2.kept (t':=s1.toks) up,aG.refl _,λb hb=>I1.fpOk (old b hb) (I1.hok.fresh (old b hb)),by rw[Heap.size_push];exact ar _,⟨⟨_,_,up _ _ a3⟩,.inl (up _ _ a1)⟩,up _ _ a2,a4.at λo e=>up _ o e,a5.at λo e=>up _ o e⟩
 refine JU (A':=X.A.in1) (I.ok.hd hc) O hz hl qx qy L gS (up _ _ a1) λs' H' ts acc c I' sm fS gS' vs' prs=>⟨rfl,?_⟩
 have nS:H1 h'.objs.size=none:=I1.hok.fresh (old _ (by simp [DR.all]));have lt:=prs.length;rw[qQ] at lt;exact ⟨.ref h'.objs.size,_,I'.track (o:=.lst ts) fS ⟨by lia,acc,c,vs',gS'⟩,rfl,q _ ts _ (sm.trans (aG.new fS.1)) nS aK (Paired.imp' (λ_ _ z=>z.same (aG.new fS.1)) prs)⟩
end
end L2
namespace Nm
def xo:List Int->Int->Int
 | [],m=>m
 | b :: r,m=>xo r (m*(b / g m b))
theorem vL (hm:0 < m) (hb:0 < b):0 < m*(b / g m b):=eJ hm (Gs (t:=m) hb)
theorem Dy:b∣m*(b / g m b):=by
 have h1:=z9 m b;refine ⟨lo m b,?_⟩;have h2:b / g m b*g m b=b:=xr m b
 calc m*(b / g m b)=lo m b*g m b*(b / g m b):=by rw[h1]
  _=lo m b*(b / g m b*g m b):=by rw[jR,lC (g m b)]
  _=b*lo m b:=by rw[h2,lC]
theorem Ac:∀{bs:List Int} {m:Int},0 < m->(∀b∈bs,0 < b)->0 < xo bs m
 | [],_,hm,_=>hm
 | b :: r,m,hm,h=>Ac (bs:=r) (vL hm (h b dc)) λc hc=>h c (bM _ hc)
theorem EZ:∀{bs:List Int} {m:Int},m∣xo bs m
 | [],_=>IU _
 | b :: r,m=>Fz (Int.dvd_mul_right m _) (EZ (bs:=r))
theorem EY:∀{bs:List Int} {m b:Int},b∈bs->b∣xo bs m
 | c :: r,m,b,h=>by
  rcases aH.mp h with rfl | h
  ·exact Fz Dy (EZ (bs:=r))
  ·exact EY (bs:=r) h
end Nm
namespace L2
open PySem PySem.Spec PyProof.Rows Nm
def GN (K:FG9) (H:Hp) (p:Addr) (ns:List (Int×Int)):Prop:=∃xs,H p=some (.lst xs)/\Paired (λn x=>GS K H x n) ns xs
theorem GN.same {K:FG9} (h:GN K H p ns) (e:aG H H'):GN K H' p ns:=by obtain ⟨xs,g,q⟩:=h;exact ⟨xs,e _ _ g,Paired.imp' (λ_ _ z=>e.num z) q⟩
def EK (K:FG9) (T:String):V->Hp->VK->Prop:=λx H Q=>Ji K T x H Q\/∃a xs b,x=.ref a/\uR K H a xs/\PySem.W.kitOne K (.type "tuple") (.type T)=some b/\Q (.bl b) H
theorem BK:∀{bs:List Int} {m b:Int},xo (bs++[b]) m=xo bs m*(b / g (xo bs m) b)
 | [],_,_=>rfl
 | c :: r,m,b=>BK (bs:=r)
def bW (ns:List (Int×Int)) (B:Int):List Int:=ns.map λn=>n.1*(B / n.2)
def cA (ns:List (Int×Int)):Int:=xo (ns.map (·.2)) 1
def GB (ns ms:List (Int×Int)):Int:=(List.zipWith (λx y=>x*y) (bW ns (cA ns)) (bW ms (cA ms))).sum
theorem o7 (h:n∈ns):n.2∣cA ns:=EY (aw.mpr ⟨n,h,rfl⟩)
theorem FZ {K:FG9} (h:ta σ H λvs H1=>∃(l1 l2:Addr) (xs ys:List V),vs=[.ref l1,.ref l2]/\bK K H1 l1 xs/\bK K H1 l2 ys/\ys.length=xs.length /\
 ∀L ts H',aG H1 H'->H1 L=none->H' L=some (.lst ts)->Paired (OU H') (xs.zip ys) ts->Q (.ref L) H'):Eg K ta σ H Q:=h
theorem Tv (hb:0 < b) (h:Sz k b):Sz k (g m b):=h.le (by
 have h1:(g m b).natAbs=Int.gcd m b:=by unfold g;simp
 rw[h1];exact jQ (by lia) (by have:=fI (a:=m) (b:=b);exact fU.mpr this |> λz=>by simpa using z))
theorem G0 {ts us:List Int} {i:Nat} (h:((ts.map V.int).zip (us.map V.int))[i]?=some pq):∃t u,ts[i]?=some t/\us[i]?=some u/\pq=(.int t,.int u):=by
 rw[QX,ay,ay] at h;obtain ⟨h1,h2⟩:=h;cases e1:ts[i]? with
 | none=>rw[e1] at h1;cases h1
 | some t =>
  cases e2:us[i]? with
  | none=>rw[e2] at h2;cases h2
  | some u =>
   rw[e1] at h1;rw[e2] at h2;refine ⟨t,u,rfl,rfl,?_⟩;cases pq;simp at h1 h2;rw[h1,h2]
inductive BE (K:FG9) (vs:List V) (H:Hp) (Q:VK) (E9:XK):Prop
 | mk (p:Addr) (ns:List (Int×Int)):vs=[.ref p,.int ns.length]->GN K H p ns->ns.length<=1000->(∀n∈ns,Fn n)->(∀H',aG H H'->Q (.bl true) H')->BE K vs H Q E9
theorem Ni {X:Cx} {a:Expr} {ta:TE} {pos:Pos} {c:Str} {T:String} {p p2:Pos} (hg:Gl X "isinstance") (hm:X.mg "isinstance"=none) (hb:bootBuiltins c=some (.type T)) (hmc:X.mg c=none) (ha:PE X a ta) (hgc:Gl X c:=by rfl) (hn:c≠"__name__":=by decide)
  (hd:(c == ("__debug__":Str))=false:=by decide) (he:starEach [a,.Name c p2] X.env=[(false,eval a X.env),(false,eval (.Name c p2) X.env)]:=by rfl)
  (hpl:(backTo pos (starEach [.Name c p2] X.env)).any (·.1)=false:=by rfl) (he2:starEach [.Name c p2] X.env=[(false,eval (.Name c p2) X.env)]:=by rfl):PE X (.Call (.Name "isinstance" p) [a,.Name c p2] [] pos) (S0 (EK X.K T) ta):=by
 intro pins s σ H Q I h;refine wpAny_Call_Name_kw (oC I hg hm PyProof.Rows.boot_isinstance ?_);have hA:PA X [a,.Name c p2] (qX ta (qX (tC (.ty T)) IY)):=aa ha (aa (HY hgc hmc hb rfl hn hd) ai he2) (by rw[he,he2])
 have hq:qX ta (qX (tC (.ty T)) IY) σ H (λvs H1=>∃x,vs=[x,.ty T]/\EK X.K T x H1 Q):=by
  show ta σ H λx H1=>∃x',[x,V.ty T]=[x',V.ty T]/\EK X.K T x' H1 Q
  have e:(λx H1=>∃x',[x,V.ty T]=[x',V.ty T]/\EK X.K T x' H1 Q)=λx H1=>EK X.K T x H1 Q:=by
   funext x H1;apply propext;constructor
   ·rintro ⟨x',e,q⟩;cases e;exact q
   ·intro q;exact ⟨x,rfl,q⟩
  rw[e];exact h
 refine PyProof.Rows.callWith_builtin1 (iK (hA pos pins s σ H _ I hq) λus s1 ⟨vs,H1,I1,r1,x,e,q1⟩=>?_) (by rw[he,he2]) hpl;subst e;obtain ⟨u,w',rfl,ru,rt⟩:=vals2 r1;cases rt;rcases q1 with ⟨t,bb,ty,ek,q⟩ | ⟨ad,xs,bb,rfl,hs,ek,q⟩
 ·exact BL I1 ru ty ek λtk=>⟨.bl bb,H1,I1.tok tk,rfl,q⟩
 ·cases ru;obtain ⟨its,_,⟨o,g1,g2,_⟩,_⟩:=I1.tuple hs;exact dF PySem.W.kitx_tuple I1.kIn ⟨o,g1,g2⟩ ek (λz=>nomatch z) λtk=>⟨.bl bb,H1,I1.tok tk,rfl,q⟩
theorem QJ (h1:Sz j x) (h2:Sz j y):Sz (j+1) (x+y):=by
 unfold Sz at *
 have:=wJ x y;rw[iQ]
 lia
theorem Ks (h:H l=some (.lst [x])) (hk:k<=1000) (q:∀p H',aG H H'->H p=none->H' p=some (.lst (List.replicate k x))->Q (.ref p) H'):Sa (.ref l) (.int k) H Q :=
 ⟨l,k,[x],rfl,rfl,h,by lia,by lia,aO (bO (by simp;lia)),λp hp=>q p _ (aG.new hp) hp (by rw[aK];simp)⟩
theorem Qz {k:Nat} (h:k<=xs.length):o3 xs none (some (k:Int))=xs.take k:=by
 unfold o3;rw[HT.rN,HT.CV,Mp h];simp
theorem Fd {k:Nat}:o3 xs (some (k:Int)) none=xs.drop k:=by
 unfold o3;rw[HT.rN,HT.CV];by_cases h:k<=xs.length
 ·rw[Mp h,aA (by simp)]
 ·rw[Nat.min_eq_right (by lia),List.drop_of_length_le (by lia),List.drop_of_length_le (by lia)];simp
theorem uE {α β:Type} {F:α->β->Prop} {x:α} {y:β} (h:F x y):∀m:Nat,Paired F (List.replicate m x) (List.replicate m y)
 | 0=>.nil
 | m+1=>.cons h (uE h m)
theorem iN (h:a < n):JO n (a:Int)=some a:=by
 unfold JO;rw[if_pos (by lia),if_pos (by lia),Int.toNat_natCast]
theorem LD {k:Nat}:o3 xs none (some (k:Int))=xs.take k:=by
 by_cases h:k<=xs.length
 ·exact Qz h
 ·unfold o3;rw[HT.rN,HT.CV,Nat.min_eq_right (by lia),aA (by simp),aA (by lia)];rfl
theorem rQ {α β:Type} {F:α->β->Prop}:∀{l1:List α} {l2:List β} (_:Paired F l1 l2) (k:Nat),Paired F (l1.take k) (l2.take k)
 | _,_,.nil,k=>by simp;exact .nil
 | _,_,.cons h r,0=>.nil
 | _,_,.cons h r,k+1=>.cons h (rQ r k)
theorem J7 {j:Nat}:∀{l:List Int},(∀v∈l,Sz j v)->Sz (j+l.length) l.sum
 | [],_=>d5 _
 | v :: r,h=>by
  rw[Q8,bQ];exact QJ (j:=j+r.length) ((h v (.head _)).mono (by lia)) (J7 λu hu=>h u (.tail _ hu))
def Na (K:FG9):List V->Hp->VK->Prop:=λxs H Q=>∃p ys,xs=[.ref p]/\(bK K H p ys\/uR K H p ys)/\∀l,H l=none->Q (.ref l) (upd H l (.lst ys))
theorem tS (K:FG9) (hK:X.K=K):qM X (.type "list") (Na K):=by subst hK;exact gM
theorem aG.none (s:aG H H') (h:H' l=Option.none):H l=Option.none:=by
 cases e:H l with
 | none=>rfl
 | some o=>have:=s _ _ e;rw[h] at this;cases this
theorem FO (h:b.natAbs<=1000000):Sz 20 b:=bD h (by decide)
theorem cF.none (u:cF b H H') (B:ig H' b) (h:H' l=Option.none):H l=Option.none:=by
 cases e:H l with
 | none=>rfl
 | some o =>
  by_cases z:l=b
  ·obtain ⟨_,_,_,_,_,e2,_⟩:=B;rw[<- z,h] at e2;cases e2
  ·have:=u.1 l o e z;rw[h] at this;cases this
end L2
namespace Nm
def nm (q:Rat):Int×Int:=(q.num,(q.den:Int))
theorem jC (q:Rat):0 < (nm q).2:=by have:=q.den_pos;show 0 < (q.den:Int);lia
theorem Du (q:Rat):Int.gcd (nm q).1 (nm q).2=1:=q.reduced
theorem Qf (h:nm p=nm q):p=q:=by
 have h1:p.num=q.num:=congrArg Prod.fst h;have h2:(p.den:Int)=q.den:=congrArg Prod.snd h;exact Rat.ext h1 (by lia)
theorem l7 (q:Rat):(q.num:Rat)=q*(q.den:Rat):=by
 have h:=Rat.num_divInt_den q;rw[Rat.divInt_eq_div] at h
 have hd:((q.den:Int):Rat)≠0:=by
  intro z;have z:=yL.mp z;have:=q.den_pos
  lia
 have e:((q.den:Int):Rat)=(q.den:Rat):=bA _
 calc (q.num:Rat)=(q.num:Rat) / ((q.den:Int):Rat)*((q.den:Int):Rat):=(ik hd).symm
  _=q*(q.den:Rat):=by rw[h,e]
theorem OC (hb:0 < b) (hg:Int.gcd a b=1) (e:q*(b:Rat)=(a:Rat)):(a,b)=nm q:=by
 have h1:a*(q.den:Int)=q.num*b:=by
  apply d4.mp;rw[aJ,aJ,<- e,l7,bA];grind
 obtain ⟨e1,e2⟩:=uniq hb (jC q) hg (Du q) h1;exact Prod.ext e1 e2
theorem vK {t b:Int} (hb:0 < b) (e:q*(b:Rat)=(t:Rat)):(lo t b,hi t b)=nm q:=by
 refine OC (Gs hb) (EW (by lia)) ?_;have h:=Gk t b;have hb':(b:Rat)≠0:=λz=>by have:=yL.mp z;lia
 have h2:((lo t b:Int):Rat)*(b:Rat)=(t:Rat)*((hi t b:Int):Rat):=by rw[<- aJ,h,aJ]
 rw[<- e] at h2;have h3:(q*((hi t b:Int):Rat) - ((lo t b:Int):Rat))*(b:Rat)=0:=by grind
 rcases AS.mp h3 with h4 | h4
 ·grind
 ·exact absurd h4 hb'
def Fr (M V:Nat) (q:Rat):Prop:=∃z:Int,q*(M:Rat)=(z:Rat)/\z.natAbs<=V*M
theorem Fr.mono (h:Fr M V q) (l:V<=V'):Fr M V' q:=by obtain ⟨z,e,b⟩:=h;exact ⟨z,e,ak b (az _ l)⟩
theorem Fr.scale (h:Fr M V q) (k:Nat):Fr (M*k) V q:=by
 obtain ⟨z,e,b⟩:=h;refine ⟨z*k,?_,?_⟩
 ·rw[cC,aJ,<- e,bA,dE]
 ·rw[fH,jv,<- di];exact az _ b
theorem Fr.scaleL (h:Fr M V q) (k:Nat):Fr (k*M) V q:=by rw[dJ];exact h.scale k
theorem Fr.dvd (h:Fr M V q) (d:M∣N):Fr N V q:=by obtain ⟨k,rfl⟩:=d;exact h.scale k
theorem Fr.add (h:Fr M V p) (h':Fr M W q):Fr M (V+W) (p+q):=by
 obtain ⟨z,e,b⟩:=h;obtain ⟨z',e',b'⟩:=h';refine ⟨z+z',by rw[jO,<- e,<- e',Rat.add_mul],?_⟩;rw[L6];have:=wJ z z'
 lia
theorem Fr.neg (h:Fr M V q):Fr M V (-q):=by
 obtain ⟨z,e,b⟩:=h;exact ⟨-z,by rw[iJ,<- e,LY],by rw[uj];exact b⟩
theorem Fr.sub (h:Fr M V p) (h':Fr M W q):Fr M (V+W) (p - q):=by rw[Rat.sub_eq_add_neg];exact h.add h'.neg
theorem Fr.mul (h:Fr M V p) (h':Fr N W q):Fr (M*N) (V*W) (p*q):=by
 obtain ⟨z,e,b⟩:=h;obtain ⟨z',e',b'⟩:=h';refine ⟨z*z',?_,?_⟩
 ·rw[cC,aJ,<- e,<- e'];grind
 ·rw[fH]
  calc z.natAbs*z'.natAbs<=(V*M)*(W*N):=aL b b'
   _=V*W*(M*N):=by rw[di,Nat.mul_left_comm M,<- di]
theorem Fr.zero:Fr M V 0:=⟨0,by simp,by simp⟩
theorem Fr.int {i:Int} (h:i.natAbs<=V):Fr M V (i:Rat):=⟨i*M,by rw[aJ,bA],by rw[fH,jv];exact az _ h⟩
theorem Fr.den (h:Fr M V q):(q.den:Int)∣(M:Int):=by
 obtain ⟨z,e,b⟩:=h
 have h1:q.num*(M:Int)=z*(q.den:Int):=by
  apply d4.mp;rw[aJ,aJ,<- e,l7,bA,bA];grind
 have h2:(q.den:Int)∣q.num*(M:Int):=⟨z,by rw[h1,lC]⟩;exact p7 (by rw[lD];exact Du q) h2
theorem Fr.den_le (h:Fr M V q) (hM:0 < M):q.den<=M:=jQ hM (yN.mp h.den)
theorem Fr.num_le (h:Fr M V q) (hM:0 < M):q.num.natAbs<=V*M:=by
 have hd:=h.den;obtain ⟨z,e,b⟩:=h;obtain ⟨k,hk⟩:=yN.mp hd;have hk0:k≠0:=λz=>by rw[z,IM] at hk;lia
 have h1:z=q.num*(k:Int):=by
  apply d4.mp;rw[aJ,<- e,l7,bA,hk,cC];grind
 rw[h1] at b;exact ak (oq (by lia)) b
theorem Fr.own (q:Rat) (h:q.num.natAbs<=V):Fr q.den V q:=⟨q.num,(l7 q).symm,ak h (cV _ q.den_pos)⟩
theorem Fr.sz (h:Fr M V q) (hM:0 < M) (h1:M<=2^k) (h2:V<=2^j):Sz (j+k+1) (nm q).1/\Sz (k+1) (nm q).2:=by
 constructor
 ·show q.num.natAbs < 2^(j+k+1)
  have h3:=h.num_le hM;have h4:V*M<=2^j*2^k:=aL h2 h1;rw[iQ,aR];have:=d5 (j+k);rw[aR] at this
  lia
 ·show (q.den:Int).natAbs < 2^(k+1)
  have h3:=h.den_le hM;rw[jv,iQ];have:=d5 k
  lia
theorem Fr.sum {M V:Nat}:∀{l:List Rat},(∀x∈l,Fr M V x)->Fr M (l.length*V) l.sum
 | [],_=>by simp;exact Fr.zero
 | x :: r,h=>by
  rw[Q8,bQ,d6,tu];exact (h x (.head _)).add (Fr.sum λy hy=>h y (.tail _ hy))
def dN (xs ys:List Rat):Rat:=(List.zipWith (λx y=>x*y) xs ys).sum
theorem Fr.dot (h:∀x∈xs,Fr M V x) (h':∀y∈ys,Fr N W y):Fr (M*N) (xs.length*(V*W)) (dN xs ys):=by
 have q:=Fr.sum (M:=M*N) (V:=V*W) (l:=List.zipWith (λx y=>x*y) xs ys) λz hz=>by
  obtain ⟨i,hi,e⟩:=bU hz;rw[iR] at e;rw[<- e];exact (h _ (bu _)).mul (h' _ (bu _))
 exact q.mono (az _ (by rw[bC];lia))
theorem yX:∀{bs:List Int} {m M:Int},0 < m->m∣M->(∀b∈bs,0 < b/\b∣M)->xo bs m∣M
 | [],_,_,_,h,_=>h
 | b :: r,m,M,hm,h,hb=>by
  have b1:=hb b dc;refine yX (bs:=r) (vL hm b1.1) ?_ λc hc=>hb c (bM _ hc)
  have gp:0 < g m b:=Ae (by lia);have e1:=z9 m b;have e2:=xr m b;obtain ⟨u,hu⟩:=h;obtain ⟨v,hv⟩:=b1.2
  have h3:lo m b*u=hi m b*v:=by
   apply O0 (show g m b≠0 by lia)
   calc lo m b*u*g m b=lo m b*g m b*u:=by rw[jR,lC u,<- jR]
    _=m*u:=by rw[e1]
    _=M:=hu.symm
    _=b*v:=hv
    _=hi m b*g m b*v:=by rw[e2]
    _=hi m b*v*g m b:=by rw[jR,lC (g m b),<- jR]
  have h4:hi m b∣lo m b*u:=⟨v,h3⟩;have h5:hi m b∣u:=p7 (by rw[lD];exact EW (by lia)) h4;obtain ⟨w,hw⟩:=h5;refine ⟨w,?_⟩;show M=m*hi m b*w
  rw[hu,hw,jR]
theorem DG (hb:0 < b) (d:a∣b) (h:Sz k b):Sz k a:=h.le (jQ (by lia) (fU.mpr d))
end Nm
namespace Nm
def Dr (W:Nat) (x:Rat):Prop:=x.num.natAbs<=W/\x.den<=W
def vv:List Nat->Nat
 | []=>1
 | a :: r=>a*vv r
theorem xg:∀{l:List Nat},(∀a∈l,0 < a)->0 < vv l
 | [],_=>Nat.one_pos
 | a :: r,h=>ba (h a (.head _)) (xg λb hb=>h b (.tail _ hb))
theorem xh:∀{l:List Nat} {a:Nat},a∈l->a∣vv l
 | b :: r,a,h=>by
  rcases aH.mp h with rfl | h
  ·exact IQ ..
  ·exact qC (xh h) (dM ..)
theorem zM {k:Nat}:∀{l:List Nat},(∀a∈l,a<=2^k)->vv l<=2^(k*l.length)
 | [],_=>by simp [vv]
 | a :: r,h=>by
  rw[bQ,Nat.mul_succ,aR,dJ (2^(k*r.length))];exact aL (h a (.head _)) (zM λb hb=>h b (.tail _ hb))
def GF (M V:Nat) (rows:LR9):Prop:=∀xs∈rows,∀x∈xs,Fr M V x
def QT (c n i:Nat) (rows:LR9):Prop:=∃M,0 < M/\M<=2^(i*(c*n+2))/\GF M (2^(20+2*i)) rows
theorem Qo:QT c n 0 []:=⟨1,by decide,by simp,λ_ h=>nomatch h⟩
theorem Qp (c n i:Nat):(i+1)*(c*n+2)=i*(c*n+2)+(c*n+2):=d6 ..
theorem Nx (h:QT c n i rows) (hl:xs.length=n) (hd:∀x∈xs,Dr (2^c) x) (hc:c<=20):QT c n (i+1) (rows++[xs]):=by
 obtain ⟨M,h0,h1,h2⟩:=h
 have dp:0 < vv (xs.map (·.den)):=xg λa ha=>by
  obtain ⟨x,_,rfl⟩:=aw.mp ha;exact x.den_pos
 have dl:vv (xs.map (·.den))<=2^(c*n):=by
  have:=zM (k:=c) (l:=xs.map (·.den)) λa ha=>by
   obtain ⟨x,hx,rfl⟩:=aw.mp ha;exact (hd x hx).2
  rwa [ag,hl] at this
 refine ⟨M*vv (xs.map (·.den)),ba h0 dp,?_,λys hy x hx=>?_⟩
 ·rw[Qp,aR];exact aL h1 (ak dl (aD (by decide) (by lia)))
 ·rcases av.mp hy with hy | hy
  ·exact ((h2 ys hy x hx).scale _).mono (aD (by decide) (by lia))
  ·have e:ys=xs:=by simpa using hy
   subst e;have f:Fr x.den (2^c) x:=Fr.own x (hd x hx).1;have g:=(f.dvd (xh (aw.mpr ⟨x,hx,rfl⟩))).scaleL M;exact g.mono (aD (by decide) (by lia))
def m8 (rows:LR9) (w:Nat):LR9:=(List.range w).map λj=>rows.map λxs=>xs.getD j 0
theorem mi:(m8 rows w).length=w:=by simp [m8]
theorem wM:∀ys∈m8 rows w,ys.length=rows.length:=λys hy=>by
 obtain ⟨j,_,rfl⟩:=aw.mp hy;exact ag ..
theorem getD_map {α:Type} {l:List α} {f:α->Rat} (h:i < l.length):(l.map f).getD i 0=f l[i]:=by
 rw[ae,ay,af h];rfl
end Nm
namespace L2
open PySem PySem.Spec PyProof.Rows Nm
theorem cF.sqt {K:FG9} (u:cF b H H') (B:ig H b) (h:uR K H a xs):uR K H' a xs:=by
 rcases h with (h | ⟨o,h⟩) | h
 ·exact .inl (.inl (u.tup B h))
 ·exact .inl (.inr ⟨o,u.other (λz=>by obtain ⟨_,_,_,_,_,e,_⟩:=B;rw[z,e] at h;cases h) h⟩)
 ·exact .inr h
theorem Kb {K:FG9} (h:uR K H a xs) (hl:H l=some (.lst ys)):uR K (upd H l o) a xs:=by
 rcases h with (h | ⟨o,h⟩) | h
 ·exact .inl (.inl (by rw[aZ λz=>by rw[z,hl] at h;cases h];exact h))
 ·exact .inl (.inr ⟨o,by rw[aZ λz=>by rw[z,hl] at h;cases h];exact h⟩)
 ·exact .inr h
def bS (K:FG9) (H:Hp) (q:Rat) (x:V):Prop:=GS K H x (nm q)
section
variable {K:FG9} {H H':Hp} {q:Rat} {x:V} {b l p:Addr} {qs:List Rat}
theorem bS.same (h:bS K H q x) (e:aG H H'):bS K H' q x:=e.num h
theorem bS.upto (h:bS K H q x) (u:cF b H H') (B:ig H b):bS K H' q x:=by obtain ⟨p,e,s⟩:=h;exact ⟨p,e,u.sqt B s⟩
theorem bS.updL (h:bS K H q x) (hl:H l=some (.lst ys)):bS K (upd H l o) q x:=by obtain ⟨p,e,s⟩:=h;exact ⟨p,e,Kb s hl⟩
theorem bS.mk (h:H r=some (.tup [.int a,.int c])) (e:(a,c)=nm q):bS K H q (.ref r):=⟨r,rfl,by rw[<- e];exact uR.of h⟩
def bX (K:FG9) (H:Hp) (p:Addr) (qs:List Rat):Prop:=∃xs,H p=some (.lst xs)/\Paired (bS K H) qs xs
theorem bX.same (h:bX K H p qs) (e:aG H H'):bX K H' p qs:=by obtain ⟨xs,g,r⟩:=h;exact ⟨xs,e _ _ g,Paired.imp' (λ_ _ z=>z.same e) r⟩
theorem bX.upto (h:bX K H p qs) (u:cF b H H') (B:ig H b) (n:p≠b):bX K H' p qs:=by obtain ⟨xs,g,r⟩:=h;exact ⟨xs,u.other n g,Paired.imp' (λ_ _ z=>z.upto u B) r⟩
theorem bX.updL (h:bX K H p qs) (hl:H l=some (.lst ys)) (n:p≠l):bX K (upd H l o) p qs:=by obtain ⟨xs,g,r⟩:=h;exact ⟨xs,by rw[aZ n];exact g,Paired.imp' (λ_ _ z=>z.updL hl) r⟩
theorem xV {α β γ:Type} {F:α->β->Prop} {f:γ->α}:∀{l:List γ} {l2:List β},Paired (λc x=>F (f c) x) l l2->Paired F (l.map f) l2
 | _,_,.nil=>.nil
 | _,_,.cons r t=>.cons r (xV t)
theorem bX.rowK (h:bX K H p qs):GN K H p (qs.map nm):=by obtain ⟨xs,g,r⟩:=h;exact ⟨xs,g,xV (F:=λn x=>GS K H x n) r⟩
def ia (K:FG9) (H0 H:Hp) (qs:List Rat) (x:V):Prop:=∃q,x=V.ref q/\H0 q=none/\bX K H q qs
def cx (K:FG9) (H0 H:Hp) (p:Addr) (rows:LR9):Prop:=∃xs,H p=some (.lst xs)/\Paired (ia K H0 H) rows xs/\V.ref p∉xs
theorem vI {rows:LR9} (h:∃H2,H2 p=none/\Paired (ia K H0 H2) rows ys):V.ref p∉ys:=λhm=>by
 obtain ⟨H2,e,pr⟩:=h;obtain ⟨qs,_,q,z,_,xs,g,_⟩:=dj pr hm;cases z;rw[e] at g;cases g
variable {H0:Hp} {rows:LR9}
theorem ia.same (h:ia K H0 H qs x) (e:aG H H'):ia K H0 H' qs x:=by obtain ⟨q,a,b,c⟩:=h;exact ⟨q,a,b,c.same e⟩
theorem ia.upto (h:ia K H0 H qs x) (u:cF b H H') (B:ig H b) (nb:H0 b≠none):ia K H0 H' qs x:=by obtain ⟨q,a,c,d⟩:=h;exact ⟨q,a,c,d.upto u B λz=>nb (by rw[<- z];exact c)⟩
theorem ia.weak (h:ia K H0 H qs x) (e:aG H1 H0):ia K H1 H qs x:=by obtain ⟨q,a,b,c⟩:=h;exact ⟨q,a,e.none b,c⟩
theorem cx.same (h:cx K H0 H p rows) (e:aG H H'):cx K H0 H' p rows:=by obtain ⟨xs,g,r,n⟩:=h;exact ⟨xs,e _ _ g,Paired.imp' (λ_ _ z=>z.same e) r,n⟩
theorem cx.upto (h:cx K H0 H p rows) (u:cF b H H') (B:ig H b) (n:p≠b) (nb:H0 b≠none):cx K H0 H' p rows:=by obtain ⟨xs,g,r,nn⟩:=h;exact ⟨xs,u.other n g,Paired.imp' (λ_ _ z=>z.upto u B nb) r,nn⟩
theorem cx.weak (h:cx K H0 H p rows) (e:aG H1 H0):cx K H1 H p rows:=by obtain ⟨xs,g,r,n⟩:=h;exact ⟨xs,g,Paired.imp' (λ_ _ z=>z.weak e) r,n⟩
end
def Im:Kind Rat:=Tr.via nm (λ_ _ e=>Qf e) (λK H x q=>bS K H q x) id
def OH:Kind (List Rat):=Ts Im
theorem bX.kind {K:FG9} (h:bX K H p qs):OH.R K H (.ref p) qs:=by obtain ⟨xs,g,q⟩:=h;exact ⟨p,xs,rfl,bK.of g,q⟩
def lU (x:Rat):Prop:=Sz 4000000 (nm x).1/\Sz 4000000 (nm x).2
def Fits (l:List Rat):Prop:=∃M V:Nat,0 < M/\M<=2^900/\V<=2^900/\∀x∈l,Fr M V x
theorem Fits.szn (h:Fits l) (hx:x∈l):lU x:=by
 obtain ⟨M,V,h0,h1,h2,h3⟩:=h;obtain ⟨a,b⟩:=(h3 x hx).sz h0 h1 h2;exact ⟨a.mono (by decide),b.mono (by decide)⟩
theorem Fits.ok (h:Fits l) (hx:x∈l):Fn (nm x):=⟨jC x,Du x,(h.szn hx).1.mono (by decide),(h.szn hx).2.mono (by decide)⟩
theorem Gx {M V:Nat} (h0:0 < M) (h1:M<=2^1800) (h2:V<=2^1810) (h:Fr M V x):lU x:=by
 obtain ⟨a,b⟩:=h.sz h0 h1 h2;exact ⟨a.mono (by decide),b.mono (by decide)⟩
inductive pF (K:FG9) (f:Rat->Rat->Rat) (vs:List V) (H:Hp) (Q:VK) (E9:XK):Prop
 | mk (u v:V) (x y:Rat):vs=[u,v]->bS K H x u->bS K H y v->lU x->lU y->(∀r H',aG H H'->bS K H' (f x y) (.ref r)->Q (.ref r) H')->pF K f vs H Q E9
section
variable {K:FG9} {vs:List V} {H:Hp} {Q:VK} {E:XK}
theorem F7 (hf:∀x y:Rat,(f x y)*(((nm x).2*(nm y).2:Int):Rat)=((F (nm x).1 (nm x).2 (nm y).1 (nm y).2:Int):Rat)) (h:pF K f vs H Q E):HR K F vs H Q E:=by
 obtain ⟨u,v,x,y,rfl,⟨p,rfl,hp⟩,⟨q,rfl,hq⟩,⟨s1,s2⟩,⟨s3,s4⟩,k⟩:=h;refine ⟨p,q,_,_,_,_,rfl,hp,hq,jC x,jC y,s1,s2,s3,s4,λr H' s g=>k r H' s (bS.mk g ?_)⟩;exact vK (eJ (jC x) (jC y)) (hf x y)
theorem uK (x:Rat):(((nm x).1:Int):Rat)=x*(((nm x).2:Int):Rat):=by
 show (x.num:Rat)=x*(((x.den:Nat):Int):Rat)
 rw[l7,bA]
theorem y9 (h:pF K (λx y=>x+y) vs H Q E):HR K ON vs H Q E:=F7 (λx y=>by
 unfold ON;rw[jO,aJ,aJ,aJ,uK,uK];grind) h
theorem Hr (h:pF K (λx y=>x - y) vs H Q E):HR K Ls vs H Q E:=F7 (λx y=>by
 unfold Ls;rw[Mm,aJ,aJ,aJ,uK,uK];grind) h
theorem Ic (h:pF K (λx y=>x*y) vs H Q E):HR K Lr vs H Q E:=F7 (λx y=>by
 unfold Lr;rw[aJ,aJ,uK,uK];grind) h
end
def qo (M:Int) (ns:List (Int×Int)):Prop:=0 < M/\Sz 4400000 M/\∀n∈ns,0 < n.2/\n.2∣M/\Sz 4400000 n.1
theorem qo.bot (h:qo M ns):0 < cA ns/\Sz 4400000 (cA ns):=by
 have hb:∀b∈ns.map (·.2),0 < b/\b∣M:=λb hb=>by
  obtain ⟨n,hn,rfl⟩:=aw.mp hb;exact ⟨(h.2.2 n hn).1,(h.2.2 n hn).2.1⟩
 exact ⟨Ac (by decide) λb q=>(hb b q).1,DG h.1 (yX (by decide) (Int.one_dvd _) hb) h.2.1⟩
inductive Kh (K:FG9) (vs:List V) (H:Hp) (Q:VK) (E9:XK):Prop
 | mk (p:Addr) (bs:List Int) (M:Int):vs=[.ref p]->bK K H p (bs.map V.int)->0 < M->Sz 4400000 M->((∀b∈bs,0 < b/\b∣M))->Q (.int (xo bs 1)) H->Kh K vs H Q E9
inductive Ki (K:FG9) (vs:List V) (H:Hp) (Q:VK) (E9:XK):Prop
 | mk (p:Addr) (ns:List (Int×Int)) (M:Int):vs=[.ref p]->GN K H p ns->ns.length<=1000->qo M ns->(∀H',aG H H'->Q (.int (cA ns)) H')->Ki K vs H Q E9
inductive Em (K:FG9) (vs:List V) (H:Hp) (Q:VK) (E9:XK):Prop
 | mk (p:Addr) (ns:List (Int×Int)) (M:Int) (B:Int):vs=[.ref p,.int B]->GN K H p ns->ns.length<=1000->qo M ns->0 < B->Sz 4400000 B->(∀r H',H r=none->aG H H'->H' r=some (.lst ((bW ns B).map V.int))->Q (.ref r) H')->Em K vs H Q E9
theorem qW (h:qo M ns) (hB:0 < B) (sB:Sz 4400000 B) (ht:t∈bW ns B):Sz 8800000 t:=by
 obtain ⟨n,hn,rfl⟩:=aw.mp ht;have hp:=h.2.2 n hn
 have sq:Sz 4400000 (B / n.2):=sB.le (by
  rw[QY (by lia)];exact Nat.div_le_self ..)
 exact (hp.2.2.mul sq).mono (by lia)
theorem lE (h:(nm x).2∣B):(((nm x).1*(B / (nm x).2):Int):Rat)=x*(B:Rat):=by
 obtain ⟨k,rfl⟩:=h;have hp:=jC x;rw[wL _ (by lia),aJ,aJ,uK];grind
theorem E5 {B C:Int}:∀{xs ys:List Rat},(∀x∈xs,(nm x).2∣B)->(∀y∈ys,(nm y).2∣C)->(((List.zipWith (λx y=>x*y) (bW (xs.map nm) B) (bW (ys.map nm) C)).sum:Int):Rat)=dN xs ys*((B:Rat)*(C:Rat))
 | [],ys,_,_=>by simp [bW,dN]
 | x :: xs,[],_,_=>by simp [bW,dN]
 | x :: xs,y :: ys,h1,h2=>by
  have ih:=E5 (B:=B) (C:=C) (xs:=xs) (ys:=ys) (λz hz=>h1 z (.tail _ hz)) (λz hz=>h2 z (.tail _ hz));have e1:=lE (h1 x (.head _));have e2:=lE (h2 y (.head _));have e3:(List.zipWith (λx y=>x*y) (bW ((x :: xs).map nm) B) (bW ((y :: ys).map nm) C)).sum=((nm x).1*(B / (nm x).2))*((nm y).1*(C / (nm y).2))+(List.zipWith (λx y=>x*y) (bW (xs.map nm) B) (bW (ys.map nm) C)).sum:=rfl;have e4:dN (x :: xs) (y :: ys)=x*y+dN xs ys:=rfl;rw[e3,e4,jO,aJ,ih,e1,e2];grind
theorem IB (h1:0 < cA (xs.map nm)) (h2:0 < cA (ys.map nm)):(lo (GB (xs.map nm) (ys.map nm)) (cA (xs.map nm)*cA (ys.map nm)),hi (GB (xs.map nm) (ys.map nm)) (cA (xs.map nm)*cA (ys.map nm)))=nm (dN xs ys):=by
 refine vK (eJ h1 h2) ?_;unfold GB;rw[E5 (λx hx=>o7 (aw.mpr ⟨x,hx,rfl⟩)) (λx hx=>o7 (aw.mpr ⟨x,hx,rfl⟩)),aJ]
inductive El (K:FG9) (vs:List V) (H:Hp) (Q:VK) (E9:XK):Prop
 | mk (p:Addr) (w:Nat) (H0:Hp) (rows:LR9):vs=[.ref p,.int w]->cx K H0 H p rows->rows.length<=1000->w<=1000->(∀xs∈rows,xs.length=w)->(∀r H',H r=none->aG H H'->cx K H H' r (m8 rows w)->Q (.ref r) H')->El K vs H Q E9
inductive zo (K:FG9) (vs:List V) (H:Hp) (Q:VK) (E9:XK):Prop
 | mk (b:Addr) (w:Nat):vs=[.ref b,.int w]->ig H b->1<=w->w<=1000000->(∀r x H',Dr (max w 6) x->bS K H' x (.ref r)->ig H' b->cF b H H'->Q (.ref r) H')->zo K vs H Q E9
inductive Ez (K:FG9) (vs:List V) (H:Hp) (Q:VK) (E9:XK):Prop
 | mk (b:Addr) (m w:Nat):vs=[.ref b,.int m,.int w]->ig H b->m<=1000->1<=w->w<=1000000->(∀r xs H',H r=none->bX K H' r xs->xs.length=m->(∀x∈xs,Dr (max w 6) x)->ig H' b->cF b H H'->Q (.ref r) H')->Ez K vs H Q E9
inductive Es (K:FG9) (vs:List V) (H:Hp) (Q:VK) (E9:XK):Prop
 | mk (p q:Addr) (xs ys:List Rat):vs=[.ref p,.ref q]->bX K H p xs->bX K H q ys->ys.length=xs.length->xs.length<=1000->(∀x∈xs,lU x)->(∀y∈ys,lU y)->(∀r H',H r=none->aG H H'->bX K H' r (List.zipWith (λx y=>x+y) xs ys)->Q (.ref r) H')->Es K vs H Q E9
inductive Kj (K:FG9) (vs:List V) (H:Hp) (Q:VK) (E9:XK):Prop
 | mk (u:V) (q:Addr) (c:Rat) (ys:List Rat):vs=[u,.ref q]->bS K H c u->lU c->bX K H q ys->ys.length<=1000->(∀y∈ys,lU y)->(∀r H',H r=none->aG H H'->bX K H' r (ys.map λy=>c*y)->Q (.ref r) H')->Kj K vs H Q E9
inductive zv (K:FG9) (vs:List V) (H:Hp) (Q:VK) (E9:XK):Prop
 | mk (p:Addr) (H0:Hp) (rows:LR9):vs=[.ref p]->cx K H0 H p rows->rows.length<=1000->(∀xs∈rows,xs.length<=1000)->(∀r H',H r=none->aG H H'->cx K H H' r rows->Q (.ref r) H')->zv K vs H Q E9
section
variable {K:FG9} {a:Addr} {xs:List V} {g:TG} {tf:TT} {te:TE} {Q:VK} {σ₀:St} {H:Hp} {α β:Type}
theorem c6 {F:Hp->α->V->Prop} (G:Hp->β->V->Prop) (f:α->β) (hx:H a=some (.lst xs)) (pf:Paired (F H) as xs) (hl:as.length<=1000)
  (hF:∀{H H' c x},F H c x->aG H H'->F H' c x) (hG:∀{H H' c x},G H c x->aG H H'->G H' c x)
  (hs:∀(i:Nat) c x H' NY NN,as[i]?=some c->aG H H'->F H' c x->(∀y H2,aG H' H2->G H2 (f c) y->NY y H2)->qD σ₀ g tf te x H' NY NN)
  (hd:∀ys H' p,H p=none->aG H H'->H' p=some (.lst ys)->Paired (G H') (as.map f) ys->(∃H2,H2 p=none/\Paired (G H2) (as.map f) ys)->Q (.ref p) H'):qL (Mi K a) σ₀ g tf te Q H:=by
 have lx:=pf.length;refine iG (K:=K) (xs:=xs) (λi ys H'=>aG H H'/\Paired (G H') ((as.take i).map f) ys) (aO (bO (by lia))) ⟨aG.refl _,.nil⟩ (λi ys H' _ ⟨s,_⟩=>bK.of (s _ _ hx)) ?_ ?_
 ·rintro i x ys H' hx' hlen ⟨s,pr⟩;obtain ⟨c,ec,hc⟩:=cH pf hx';refine hs i c x H' _ _ ec s (hF hc s) λy H2 s2 gy=>⟨s.trans s2,?_⟩
  rw[take_snoc ec,cn];exact cz (Paired.imp' (λ_ _ z=>hG z s2) pr) (.cons gy .nil)
 ·rintro ys H' hy ⟨s,pr⟩ p hp;rw[aA (by lia)] at pr;exact hd ys _ p (s.none hp) (s.trans (aG.new hp)) aK (Paired.imp' (λ_ _ z=>hG z (aG.new hp)) pr) ⟨H',hp,pr⟩
theorem jL (G:Hp->β->V->Prop) (f:Nat->β) (hl:n<=1000) (hG:∀{H H' c x},G H c x->aG H H'->G H' c x)
  (hs:∀(i:Nat) H' NY NN,i < n->aG H H'->(∀y H2,aG H' H2->G H2 (f i) y->NY y H2)->qD σ₀ g tf te (.int i) H' NY NN)
  (hd:∀ys H' p,H p=none->aG H H'->H' p=some (.lst ys)->Paired (G H') ((List.range n).map f) ys->(∃H2,H2 p=none/\Paired (G H2) ((List.range n).map f) ys)->Q (.ref p) H'):qL (IK 0 n) σ₀ g tf te Q H:=by
 refine uP (λi ys H'=>aG H H'/\Paired (G H') ((List.range i).map f) ys) (aO (bO (by lia))) ⟨aG.refl _,.nil⟩ ?_ ?_
 ·rintro i ys H' hi hlen ⟨s,pr⟩;rw[IT];refine hs i H' _ _ hi s λy H2 s2 gy=>⟨s.trans s2,?_⟩
  rw[AV,cn];exact cz (Paired.imp' (λ_ _ z=>hG z s2) pr) (.cons gy .nil)
 ·rintro ys H' hy ⟨s,pr⟩ p hp;exact hd ys _ p (s.none hp) (s.trans (aG.new hp)) aK (Paired.imp' (λ_ _ z=>hG z (aG.new hp)) pr) ⟨H',hp,pr⟩
theorem xB (G:Hp->β->V->Prop) (C:β->Prop) (hB:ig H b) (hl:n<=1000) (hG:∀{H' H'' c x},G H' c x->cF b H' H''->ig H' b->G H'' c x)
  (hs:∀(i:Nat) H' NY NN,i < n->cF b H H'->ig H' b->(∀y c H2,cF b H' H2->ig H2 b->C c->G H2 c y->NY y H2)->qD σ₀ g tf te (.int i) H' NY NN)
  (hd:∀ys cs H' p,H p=none->cF b H H'->ig H' b->H' p=some (.lst ys)->cs.length=n->(∀c∈cs,C c)->Paired (G H') cs ys->(∃H2,H2 p=none/\Paired (G H2) cs ys)->Q (.ref p) H'):qL (IK 0 n) σ₀ g tf te Q H:=by
 refine uP (λi ys H'=>cF b H H'/\ig H' b/\∃cs,cs.length=i/\(∀c∈cs,C c)/\Paired (G H') cs ys) (aO (bO (by lia))) ⟨(aG.refl _).upto,hB,[],rfl,(λ_ z=>nomatch z),.nil⟩ ?_ ?_
 ·rintro i ys H' hi hlen ⟨u,B,cs,lc,hc,pr⟩;rw[IT];refine hs i H' _ _ hi u B λy c H2 u2 B2 cc gy=>⟨u.trans u2,B2,cs++[c],by simp [lc],y8 hc cc,cz (Paired.imp' (λ_ _ z=>hG z u2 B) pr) (.cons gy .nil)⟩
 ·rintro ys H' hy ⟨u,B,cs,lc,hc,pr⟩ p hp;have s:aG H' (upd H' p (.lst ys)):=aG.new hp;exact hd ys cs _ p (u.none B hp) (u.same s) (B.same s) aK lc hc (Paired.imp' (λ_ _ z=>hG z s.upto B) pr) ⟨H',hp,pr⟩
end
section
variable {X:Cx}
theorem eh {g:TG} {tb:TS} {D:Ends} (Pv:Nat->St->Hp->Prop) (h0:Pv 0 σ H)
  (hs:∀(i:Nat) σ H,i < n->Pv i σ H->g (.int i) σ H λσ2 H2=>tb { D with nx:=Pv (i+1),ct:=Pv (i+1),bk:=D.nx } σ2 H2) (hd:∀σ H,Pv n σ H->D.nx σ H) :
  ∃W:Nat->Nat->St->Hp->Prop,(∃m,W 0 m σ H)/\∀i m σ H,W i m σ H →
   ((IK 0 n).stop i H/\D.nx σ H)\/((IK 0 n).go i H/\∃N:St->Hp->Prop,(∀σ' H',N σ' H'->∃m',m' < m/\W (i+1) m' σ' H')/\∀x H',(IK 0 n).yld i H x H'->g x σ H' λσ2 H2=>tb { D with nx:=N,ct:=N,bk:=D.nx } σ2 H2) :=
 Jy (lo:=0) Pv h0 (λi σ H hi p=>by rw[IT];exact hs i σ H hi p) hd
theorem o6:qM X (.type "int") (λxs H Q=>∃b:Bool,xs=[.bl b]/\Q (.int (if b=true then 1 else 0)) H):=by
 intro pins s σ H xs us Q I r h;obtain ⟨b,rfl,q⟩:=h;obtain ⟨u,rfl,ru⟩:=vals1 r;cases ru;exact call_int_bool ⟨.int _,H,I.tok _,⟨_,rfl⟩,q⟩
theorem Bf (K:FG9) (hK:X.K=K):qM X (.builtin "len") (λxs H Q=>∃p ys,xs=[.ref p]/\(bK K H p ys\/uR K H p ys)/\Q (.int ys.length) H):=by subst hK;exact bx
theorem KD {st:Stmt}:PS X st (λ_ _ _=>False):=λ_ _ _ _ _ _ h=>h.elim
end
theorem Gj {t b:Int} (hb:0 < b) (h1:t.natAbs<=W) (h2:b.natAbs<=W):∃q:Rat,(lo t b,hi t b)=nm q/\Dr W q/\q*(b:Rat)=(t:Rat):=by
 have hb':(b:Rat)≠0:=λz=>by have:=yL.mp z;lia
 have e:(t:Rat) / (b:Rat)*(b:Rat)=t:=ik hb';have h:=vK hb e;refine ⟨_,h,⟨?_,?_⟩,e⟩
 ·have:=congrArg Prod.fst h;have z:=lo_le (t:=t) (b:=b) (by lia);show ((nm ((t:Rat) / (b:Rat))).1).natAbs<=W
  rw[<- this];exact ak z h1
 ·have:=congrArg Prod.snd h;have z:=OJ (t:=t) (b:=b) (by lia);have hd:(((t:Rat) / (b:Rat)).den:Int)=hi t b:=this.symm;have hp:=Gs (t:=t) hb
  lia
theorem Gq {K:FG9} (h:Paired (bS K H) qs xs) (hj:j < qs.length):∃v,GG xs (j:Int)=some v/\bS K H (qs.getD j 0) v:=by
 have hl:=h.length;refine ⟨xs[j]'(by lia),gF (by simp),?_⟩;have:=kI h (i:=j) hj (by lia);rwa [ae,af hj]
theorem xv {xs ys:List Rat} (h1:i < xs.length) (h2:i < ys.length):dN (xs.take (i+1)) (ys.take (i+1))=dN (xs.take i) (ys.take i)+xs.getD i 0*ys.getD i 0:=by
 have e1:xs[i]?=some (xs.getD i 0):=by rw[ae,af h1];rfl
 have e2:ys[i]?=some (ys.getD i 0):=by rw[ae,af h2];rfl
 unfold dN;rw[take_snoc e1,take_snoc e2,D8 (by simp;lia),AU];simp [c8]
theorem getD_mem {xs:List Rat} (h:i < xs.length):xs.getD i 0∈xs:=by
 rw[ae,af h];exact bu h
theorem Br {xs ys:List Rat} (h:ys.length=xs.length):List.zipWith (λx y=>x+y) xs ys=(List.range xs.length).map λi=>xs.getD i 0+ys.getD i 0:=by
 apply kx;intro i;rw[bR,ay];by_cases hi:i < xs.length
 ·rw[b7 hi,af hi,af (show i < ys.length by lia)];simp [ae,af hi,af (show i < ys.length by lia)]
 ·rw[a9 (show (List.range xs.length).length<=i by simp;lia),a9 (show xs.length<=i by lia)];rfl
theorem ig.at (B:ig H b):H b≠none:=by obtain ⟨_,_,_,_,_,e,_⟩:=B;rw[e];simp
theorem Inner.at (B:ig H b) (i:Inner H b q):H q≠none:=by
 obtain ⟨q',i',xs,e⟩:=B.inner;rw[<- Inner.inj i' i,e];simp
theorem kJ {F:α->β->Prop} {l1:List α} {l2:List β} (h:Paired F l1 l2) (hi:i < l1.length):∃x y,l1[i]?=some x/\l2[i]?=some y/\x∈l1/\F x y:=by
 have hl:=h.length;exact ⟨l1[i],l2[i]'(by lia),by simp,by simp,bu _,kI h hi (by lia)⟩
theorem IG (h1:-(2^64) < i) (h2:i < 2^64):fD i j:=.inl (.inl ⟨h1,h2⟩)
theorem NQ (h1:-(2^64) < j) (h2:j < 2^64):fD i j:=.inl (.inr ⟨h1,h2⟩)
def QR (K : FG9) (l : Addr) : It :=
  ⟨λi H => ∃ xs x, bK K H l xs /\ xs[i]? = some x,
   λi H v H' => ∃ p x, v = .ref p /\ H p = none /\ H' = upd H p (.tup [.int i, x]) /\ ∀ xs, bK K H l xs → xs[i]? = some x,
   λi H => ∃ xs, bK K H l xs /\ xs.length ≤ i⟩
def tnE (e it l:Addr) (i:Nat) (h:Heap):Prop:=(∃old,IsEnum h e it i old)/\h.IsListIter it l i
theorem IW {P:Program} {w:World} {K:FG9} {elts:List Expr} {kk:Nat} {tpos:Pos} (e it l:Addr) (hei:e≠it):Turn P w K (.Tuple elts kk tpos) (QR K l) [e,it] e (tnE e it l) where
 mem:=by simp
 obj:=λi h st b hb=>by
  obtain ⟨⟨old,he⟩,⟨o1,g1,c1,d1⟩⟩:=st;simp only[aH,aY,or_false] at hb;rcases hb with rfl | rfl
  ·exact ⟨_,he,λv q=>nomatch q⟩
  ·exact ⟨o1,g1,λv q=>by rw[d1] at q;cases q⟩
 keep:=λi h h' st k=>by
  obtain ⟨⟨old,he⟩,h1⟩:=st;exact ⟨⟨old,k e (by simp) _ he⟩,h1.at λo q=>k it (by simp) o q⟩
 item:=by
  intro X hP hw hK hc i pins s σ H E I hf st hg;subst hP hw hK;obtain ⟨⟨old,he⟩,h1⟩:=st;obtain ⟨xs,x,qx,ex⟩:=hg;obtain ⟨us,rx,px,_⟩:=I.list qx;obtain ⟨u,eu,ru⟩:=rx.get ex;refine wpAny_pyNext_enum_item he h1 px.isList (x:=u) (by simpa using eu) hei λh' a1 a2 a3 a4 hk=>?_
  refine ⟨_,rfl,wpAny_letOwnedTupleGo_enum a1 λh'' he'' hs=>?_⟩;have hT0:H s.heap.objs.size=none:=I.hok.fresh (ar _);have ene:s.heap.objs.size≠e:=IL (Heap.lt_size he)
  have up:∀b o,b∉[e,it]->s.heap.get? b=some o->h''.get? b=some o:=λb o hb q=>by
   simp only[aH,aY,or_false,not_or] at hb;exact (hs.2 b hb.1).trans (hk b o hb.1 hb.2 q)
  have tup:h''.get? s.heap.objs.size=some { cls:=.type "tuple",data:=.seq #[.int i s.toks,u] }:=(hs.2 _ ene).trans a3;have I1:Inv X pins σ H { s with heap:=h'',toks:=s.toks+1 }:=I.moved (g':=s.gens) (d':=s.drawn) (t':=s.toks+1) (ch:=[e,it]) hf up I.bare;have fT:kW X pins H s.heap.objs.size:=I.fpOk (ar _) hT0;have I2:=I1.track (o:=.tup [.int i,x]) fT ⟨mC rfl,[.int i s.toks,u],.cons ⟨_,rfl⟩ (.cons ru .nil),⟨_,tup,rfl,_,rfl⟩⟩;refine ⟨.ref s.heap.objs.size,_,I2,rfl,⟨_,x,rfl,hT0,rfl,λxs' q=>by rw[I.list_inj q qx];exact ex⟩,?_,λb hb=>?_⟩
  ·exact ⟨⟨_,by simpa using he''⟩,a2.at λo q=>(hs.2 _ hei.symm).trans q⟩
  ·rw[aZ]
   ·exact (hf b hb).1
   ·obtain ⟨o1,g1,_⟩:=h1;simp only[aH,aY,or_false] at hb;rcases hb with rfl | rfl
    ·exact ene.symm
    ·exact cL (Heap.lt_size g1)
 done:=by
  intro X hP hw hK hc i pins s σ H E I hf st hg;subst hP hw hK;obtain ⟨⟨old,he⟩,h1⟩:=st;obtain ⟨xs,qx,hend⟩:=hg;obtain ⟨us,rx,px,_⟩:=I.list qx;have lx:=rx.length;refine wpAny_pyNext_enum_end (I.ok.hd hc) he h1 px.isList (by simp;lia) λh' hk=>⟨rfl,?_⟩
  exact I.moved (g':=s.gens) (d':=s.drawn) (t':=s.toks) (ch:=[e,it]) hf (λb o hb q=>hk b o (λz=>hb (by simp [z])) q) I.bare
 self:=λ_ _ _ _ _ st h=>let ⟨⟨_,he⟩,_⟩:=st;wpAny_pyIter_enum he h
section
variable {X:Cx}
def Le (K:FG9) (ta:TA):TI:=λσ H R=>ta σ H λvs H1=>∃l,vs=[.ref l]/\(∃xs,bK K H1 l xs)/\R (QR K l) H1
theorem C5 {a:Expr} {ta:TA} {p pos tpos:Pos} {elts:List Expr} {kk:Nat} (hg:Gl X "enumerate") (hm:X.mg "enumerate"=none) (ha:PA X [a] ta) (hs:starEach [a] X.env=[(false,eval a X.env)]:=by rfl) :
  PI X (.Tuple elts kk tpos) (.Call (.Name "enumerate" p) [a] [] pos) (Le X.K ta):=by
 intro pins s σ H R I h;refine Call_ (oC I hg hm boot_enumerate (PyProof.Rows.callWith_type1 (iK (ha pos pins s σ H _ I h) λus s1 ⟨vs,H1,I1,r1,q1⟩=>?_) (by rw[hs];rfl) rfl));obtain ⟨l,e,⟨xs,qx⟩,q⟩:=q1;subst e;obtain ⟨u,rfl,ru⟩:=vals1 r1;cases ru;obtain ⟨us,rx,px,_⟩:=I1.list qx;refine call_enumerate_list px.isList λh' a1 a2 a3 hk=>wpAny_pyIter_enum a1 ?_
 have I2:Inv X pins σ H1 { s1 with heap:=h' }:=I1.kept (t':=s1.toks) hk;refine ⟨_,[s1.heap.objs.size+1,s1.heap.objs.size],_,_,H1,rfl,I2,IW (s1.heap.objs.size+1) s1.heap.objs.size l (Nat.succ_ne_self _),⟨⟨_,a1⟩,a2⟩,λb hb=>?_,q⟩
 have hb':s1.heap.objs.size<=b:=by
  simp only[aH,aY,or_false] at hb;rcases hb with rfl | rfl <;> first | exact Ck _ | exact ar _
 exact I1.fpOk hb' (I1.hok.fresh hb')
end
theorem Kw {K:FG9} (h:ta σ H λvs H1=>∃l,vs=[.ref l]/\(∃xs,bK K H1 l xs)/\R (QR K l) H1):Le K ta σ H R:=h
theorem E2 {K:FG9} {g:TG} {tb:TS} {D:Ends} (Pv:Nat->St->Hp->Prop) (h0:Pv 0 σ H) (hl:∀i σ H,i<=xs.length->Pv i σ H->bK K H l xs)
  (hs:∀i x σ H p,xs[i]?=some x->Pv i σ H->H p=none->g (.ref p) σ (upd H p (.tup [.int i,x])) λσ2 H2=>tb { D with nx:=Pv (i+1),ct:=Pv (i+1),bk:=D.nx } σ2 H2) (hd:∀σ H,Pv xs.length σ H->D.nx σ H) :
  ∃W:Nat->Nat->St->Hp->Prop,(∃m,W 0 m σ H)/\∀i m σ H,W i m σ H →
   ((QR K l).stop i H/\D.nx σ H)\/((QR K l).go i H/\∃N:St->Hp->Prop,(∀σ' H',N σ' H'->∃m',m' < m/\W (i+1) m' σ' H')/\∀x H',(QR K l).yld i H x H'->g x σ H' λσ2 H2=>tb { D with nx:=N,ct:=N,bk:=D.nx } σ2 H2):=by
 refine ⟨λi m σ H=>m=xs.length - i/\i<=xs.length/\Pv i σ H,⟨xs.length,by simp,b8 _,h0⟩,?_⟩;rintro i m σ H ⟨rfl,hi,p⟩;have q1:=hl i σ H hi p;by_cases hlt:i < xs.length
 ·refine .inr ⟨⟨xs,xs[i],q1,by simp [hlt]⟩,Pv (i+1),λσ' H' p'=>⟨xs.length - (i+1),by lia,rfl,hlt,p'⟩,λx H' y=>?_⟩;obtain ⟨r,x',rfl,hr,rfl,e1⟩:=y;exact hs i x' σ _ r (e1 xs q1) p hr
 ·have e:i=xs.length:=by lia
  subst e;exact .inl ⟨⟨xs,q1,ar _⟩,hd σ H p⟩
theorem PN {K:FG9} (h:ta σ H λx H1=>∃a C dx fs v,x=.ref a/\H1 a=some (.ins C dx fs)/\JK K C/\iw K C f/\fs.lookup f=some v/\Q v H1):RB K ta f σ H Q:=h
theorem MJ {K:FG9} (h:tv σ H λy H1=>ta σ H1 λx H2=>∃a C dx fs,x=.ref a/\H2 a=some (.ins C dx fs)/\JK K C/\iw K C f/\fs.length < 1000 /\
 D.nx σ (upd H2 a (.ins C dx (a8 f y fs)))):RN K ta tv f D σ H:=h
theorem MO (h:ta σ H λx H1=>∃a dx fs,x=.ref a/\H1 a=some (.ins C dx fs)/\fs.lookup m=none /\
 t σ H1 λvs H2=>sp (x :: vs) H2 Q E):Om C m sp [] E ta t σ H Q:=by
 have e:(λ(x:V) H1=>∃a dx fs,x=.ref a/\H1 a=some (.ins C dx fs)/\fs.lookup m=none/\t σ H1 λvs H2=>sp (x :: (vs++[])) H2 Q E)=λx H1=>∃a dx fs,x=.ref a/\H1 a=some (.ins C dx fs)/\fs.lookup m=none/\t σ H1 λvs H2=>sp (x :: vs) H2 Q E:=by
  funext x H1;simp only[qR]
 show ta σ H (λ(x:V) H1=>∃a dx fs,x=.ref a/\H1 a=some (.ins C dx fs)/\fs.lookup m=none/\t σ H1 λvs H2=>sp (x :: (vs++[])) H2 Q E)
 rw[e];exact h
theorem MP (h:t σ H λvs H1=>∀x dx,H1 x=none->H1 dx=none->dx≠x →
 sp (.ref x :: vs) (upd (upd H1 dx (.own x)) x (.ins C dx [])) (λv H2=>v=.non/\Q (.ref x) H2) E):Oo C sp [] E t σ H Q:=by
 have e:(λvs (H1:Hp)=>∀x dx,H1 x=none->H1 dx=none->dx≠x->sp (.ref x :: (vs++[])) (upd (upd H1 dx (.own x)) x (.ins C dx [])) (λv H2=>v=.non/\Q (.ref x) H2) E)=λvs H1=>∀x dx,H1 x=none->H1 dx=none->dx≠x->sp (.ref x :: vs) (upd (upd H1 dx (.own x)) x (.ins C dx [])) (λv H2=>v=.non/\Q (.ref x) H2) E:=by
  funext vs H1;simp only[qR]
 show t σ H (λvs (H1:Hp)=>∀x dx,H1 x=none->H1 dx=none->dx≠x->sp (.ref x :: (vs++[])) (upd (upd H1 dx (.own x)) x (.ins C dx [])) (λv H2=>v=.non/\Q (.ref x) H2) E)
 rw[e];exact h
def D5 (x:Addr) (H H':Hp):Prop:=∀b o,H b=some o->b≠x->H' b=some o
theorem D5.upd:D5 x H (L2.upd H x o):=λb u h n=>by rw[aZ n];exact h
def uf (H:Hp) (x:Addr):Prop:=∃C dx fs,H x=some (.ins C dx fs)
section
variable {K:FG9} {H H' H0:Hp} {q:Rat} {v:V} {x p:Addr} {qs:List Rat} {rows:LR9}
theorem bS.exc (h:bS K H q v) (e:D5 x H H') (hx:uf H x):bS K H' q v:=by
 obtain ⟨C,dx,fs,hx⟩:=hx;obtain ⟨r,er,s⟩:=h;refine ⟨r,er,?_⟩;rcases s with (h | ⟨o,h⟩) | h
 ·exact .inl (.inl (e _ _ h λz=>by rw[z,hx] at h;cases h))
 ·exact .inl (.inr ⟨o,e _ _ h λz=>by rw[z,hx] at h;cases h⟩)
 ·exact .inr h
theorem bX.exc (h:bX K H p qs) (e:D5 x H H') (hx:uf H x):bX K H' p qs:=by
 obtain ⟨xs,g,r⟩:=h;have hx':=hx;obtain ⟨C,dx,fs,hx⟩:=hx;exact ⟨xs,e _ _ g (λz=>by rw[z,hx] at g;cases g),Paired.imp' (λ_ _ z=>z.exc e hx') r⟩
theorem ia.exc (h:ia K H0 H qs v) (e:D5 x H H') (hx:uf H x):ia K H0 H' qs v:=by obtain ⟨q,a,b,c⟩:=h;exact ⟨q,a,b,c.exc e hx⟩
theorem cx.exc (h:cx K H0 H p rows) (e:D5 x H H') (hx:uf H x):cx K H0 H' p rows:=by
 obtain ⟨xs,g,r,n⟩:=h;have hx':=hx;obtain ⟨C,dx,fs,hx⟩:=hx;exact ⟨xs,e _ _ g (λz=>by rw[z,hx] at g;cases g),Paired.imp' (λ_ _ z=>z.exc e hx') r,n⟩
end
def qE (a b c:Addr) (n i o:Nat):List (Str×V):=a8 "outs" (.int o) (a8 "look" (.ref c) (a8 "ins" (.int i) (a8 "put" (.ref b) (a8 "states" (.int n) (a8 "move" (.ref a) [])))))
section
variable {a b c:Addr} {n i o:Nat}
theorem Mx:(qE a b c n i o).lookup ("ins":Str)=some (.int i):=by
 unfold qE;rw[aN,if_neg (by decide +kernel),aN,if_neg (by decide +kernel),aN,if_pos rfl]
theorem Hq:(qE a b c n i o).lookup ("put":Str)=some (.ref b):=by
 unfold qE;rw[aN,if_neg (by decide +kernel),aN,if_neg (by decide +kernel),aN,if_neg (by decide +kernel),aN,if_pos rfl]
theorem zj:(qE a b c n i o).lookup ("states":Str)=some (.int n):=by
 unfold qE;rw[aN,if_neg (by decide +kernel),aN,if_neg (by decide +kernel),aN,if_neg (by decide +kernel),aN,if_neg (by decide +kernel),aN,if_pos rfl]
theorem Ei:(qE a b c n i o).lookup ("move":Str)=some (.ref a):=by
 unfold qE;rw[aN,if_neg (by decide +kernel),aN,if_neg (by decide +kernel),aN,if_neg (by decide +kernel),aN,if_neg (by decide +kernel),aN,if_neg (by decide +kernel),aN,if_pos rfl]
theorem Pd {m:Str} (h1:¬m="outs") (h2:¬m="look") (h3:¬m="ins") (h4:¬m="put") (h5:¬m="states") (h6:¬m="move"):(qE a b c n i o).lookup m=none:=by
 unfold qE;rw[aN,if_neg h1,aN,if_neg h2,aN,if_neg h3,aN,if_neg h4,aN,if_neg h5,aN,if_neg h6];rfl
theorem Bu:(qE a b c n i o).lookup ("moved":Str)=none:=Pd (by decide +kernel) (by decide +kernel) (by decide +kernel) (by decide +kernel) (by decide +kernel) (by decide +kernel)
end
theorem dH {k:Str} {v:V}:∀{l:List (Str×V)},(a8 k v l).length<=l.length+1
 | []=>ar _
 | (x,y) :: r=>by
  unfold a8
  split
  ·simp
  ·have:=dH (k:=k) (v:=v) (l:=r);simp only[bQ]
   lia
structure gQ (mv pt lk:LR9):Prop where
 n8:mv.length<=8
 i4:pt.length<=4
 o4:lk.length<=4
 mw:∀xs∈mv,xs.length=mv.length
 pw:∀xs∈pt,xs.length=mv.length
 lw:∀xs∈lk,xs.length=mv.length
def Ci (mv pt lk:LR9):Prop:=∃M V:Nat,0 < M/\M<=2^800/\V<=2^400/\GF M V mv/\GF M V pt/\GF M V lk
def mV (K:FG9) (H0 H:Hp) (C p:Addr) (mv pt lk:LR9):Prop:=∃dx a b c,H p=some (.ins C dx (qE a b c mv.length pt.length lk.length))/\H0 a=none/\H0 b=none/\H0 c=none/\cx K H0 H a mv/\cx K H0 H b pt/\cx K H0 H c lk
section
variable {K:FG9} {H H' H0 H1:Hp} {C p b:Addr} {mv pt lk:LR9}
theorem mV.same (h:mV K H0 H C p mv pt lk) (e:aG H H'):mV K H0 H' C p mv pt lk:=by obtain ⟨dx,a,b,c,g,n1,n2,n3,g1,g2,g3⟩:=h;exact ⟨dx,a,b,c,e _ _ g,n1,n2,n3,g1.same e,g2.same e,g3.same e⟩
theorem mV.upto (h:mV K H0 H C p mv pt lk) (u:cF b H H') (B:ig H b) (nb:H0 b≠none):mV K H0 H' C p mv pt lk:=by
 obtain ⟨dx,a,b',c,g,n1,n2,n3,g1,g2,g3⟩:=h;refine ⟨dx,a,b',c,u.other (λz=>by obtain ⟨_,_,_,_,_,e,_⟩:=B;rw[z,e] at g;cases g) g,n1,n2,n3,g1.upto u B (λz=>nb (by rw[<- z];exact n1)) nb,g2.upto u B (λz=>nb (by rw[<- z];exact n2)) nb,g3.upto u B (λz=>nb (by rw[<- z];exact n3)) nb⟩
theorem mV.weak (h:mV K H0 H C p mv pt lk) (e:aG H1 H0):mV K H1 H C p mv pt lk:=by obtain ⟨dx,a,b,c,g,n1,n2,n3,g1,g2,g3⟩:=h;exact ⟨dx,a,b,c,g,e.none n1,e.none n2,e.none n3,g1.weak e,g2.weak e,g3.weak e⟩
theorem Ci.fits (h:Ci mv pt lk) (hl:∀x∈l,(∃xs∈mv,x∈xs)\/(∃xs∈pt,x∈xs)\/(∃xs∈lk,x∈xs)\/x=0):Fits l:=by
 obtain ⟨M,V,h0,h1,h2,h3,h4,h5⟩:=h;refine ⟨M,V,h0,ak h1 (aD (by decide) (by decide)),ak h2 (aD (by decide) (by decide)),λx hx=>?_⟩;rcases hl x hx with ⟨xs,a,b⟩ | ⟨xs,a,b⟩ | ⟨xs,a,b⟩ | rfl
 ·exact h3 xs a x b
 ·exact h4 xs a x b
 ·exact h5 xs a x b
 ·exact Fr.zero
end
def IZ:Sp:=λvs H Q _=>∃i:Int,vs=[.int i]/\Q (.bl true) H
def Jc (K:FG9):Sp:=λvs H Q _=>∃x n,vs=[x]/\GS K H x n/\Fn n/\∀H',aG H H'->Q (.bl true) H'
inductive Hw (vs:List V) (H:Hp) (Q:VK) (E9:XK):Prop
 | mk (p:Addr) (xs:List V) (a m:Int):vs=[.ref p,.int a,.int m]->H p=some (.lst xs)->(xs.length:Int)<=m->Q .non H->Hw  vs H Q E9
inductive HN (K:FG9) (vs:List V) (H:Hp) (Q:VK) (E9:XK):Prop
 | mk (p:Addr) (H0:Hp) (rows:LR9) (w:Nat):vs=[.ref p,.int w]->cx K H0 H p rows->rows.length<=1000->w<=1000->((∀xs∈rows,xs.length=w/\∀x∈xs,Fn (nm x)))->(∀r H',H r=none->aG H H'->cx K H H' r rows->Q (.ref r) H')->HN K vs H Q E9
def Q5 (rows:LR9):Prop:=∀xs∈rows,∀x∈xs,Fn (nm x)
inductive HI (K:FG9) (C:Addr) (vs:List V) (H:Hp) (Q:VK) (E9:XK):Prop
 | mk (x dx p q r:Addr) (Hb H0 H1 H2:Hp) (mv pt lk:LR9):vs=[.ref x,.ref p,.ref q,.ref r]->Hb x=none->Hb dx=none->dx≠x->H=upd (upd Hb dx (.own x)) x (.ins C dx [])->cx K H0 Hb p mv->cx K H1 Hb q pt->cx K H2 Hb r lk->gQ mv pt lk->Q5 mv->Q5 pt->Q5 lk->(∀H',aG Hb H'->mV K Hb H' C x mv pt lk->Q .non H')->HI K C vs H Q E9
def gE (mv pt:LR9) (st pu:List Rat):List Rat:=List.zipWith (λline col=>dN (line++col) (st++pu)) mv (m8 pt mv.length)
theorem Ci.ok (h:Ci mv pt lk):Q5 mv/\Q5 pt/\Q5 lk :=
 ⟨λxs hx x hx'=>(h.fits (l:=xs) λy hy=>.inl ⟨xs,hx,hy⟩).ok hx',λxs hx x hx'=>(h.fits (l:=xs) λy hy=>.inr (.inl ⟨xs,hx,hy⟩)).ok hx',λxs hx x hx'=>(h.fits (l:=xs) λy hy=>.inr (.inr (.inl ⟨xs,hx,hy⟩))).ok hx'⟩
def gV (K:FG9) (A:Addr->Prop) (H:Hp) (n:Nat) (C:Rat->Prop) (x:V):Prop:=∃q qs,x=V.ref q/\A q/\bX K H q qs/\qs.length=n/\∀y∈qs,C y
section
variable {K:FG9} {A A':Addr->Prop} {H H' H0:Hp} {n:Nat} {C C':Rat->Prop} {x v:V} {q b l p:Addr} {xs zs:List V} {y:Rat} {o:HO}
theorem gV.same (h:gV K A H n C x) (e:aG H H'):gV K A H' n C x:=by obtain ⟨q,qs,a,c,r,z⟩:=h;exact ⟨q,qs,a,c,r.same e,z⟩
theorem gV.upto (h:gV K A H n C x) (u:cF b H H') (B:ig H b) (nb:¬A b):gV K A H' n C x:=by obtain ⟨q,qs,a,c,r,z⟩:=h;exact ⟨q,qs,a,c,r.upto u B (λe=>nb (by rw[<- e];exact c)),z⟩
theorem gV.other (h:gV K A H n C x) (hl:H l=some (.lst zs)) (nl:¬A l):gV K A (upd H l o) n C x:=by obtain ⟨q,qs,a,c,r,z⟩:=h;exact ⟨q,qs,a,c,r.updL hl (λe=>nl (by rw[<- e];exact c)),z⟩
theorem gV.weak (h:gV K A H n C x) (w:∀q,A q->A' q) (wc:∀y,C y->C' y):gV K A' H n C' x:=by obtain ⟨q,qs,a,c,r,l,z⟩:=h;exact ⟨q,qs,a,w q c,r,l,λy hy=>wc y (z y hy)⟩
theorem zP {α β:Type} {F:α->β->Prop} {a:α} {b:β} (h:F a b):∀{l1:List α} {l2:List β} (j:Nat),Paired F l1 l2->Paired F (l1.set j a) (l2.set j b)
 | _,_,_,.nil=>.nil
 | _,_,0,.cons _ t=>.cons h t
 | _,_,j+1,.cons r t=>.cons r (zP h j t)
theorem gV.put (h:gV K A H n C x) (hq:H q=some (.lst zs)) (hv:bS K H y v) (hc:C y) (j:Nat):gV K A (upd H q (.lst (zs.set j v))) n C x:=by
 obtain ⟨q1,qs,rfl,a,⟨zs1,g1,pr⟩,l1,c1⟩:=h;by_cases e:q1=q
 ·subst e;rw[hq] at g1;cases g1;refine ⟨q1,qs.set j y,rfl,a,⟨_,aK,zP (hv.updL hq) j (Paired.imp' (λ_ _ z=>z.updL hq) pr)⟩,by rw[jP];exact l1,λz hz=>?_⟩;rcases dO hz with hz | rfl
  ·exact c1 z hz
  ·exact hc
 ·exact ⟨q1,qs,rfl,a,⟨zs1,by rw[aZ e];exact g1,Paired.imp' (λ_ _ z=>z.updL hq) pr⟩,l1,c1⟩
theorem gV.at (h:gV K A H n C x):∃q zs qs,x=V.ref q/\A q/\H q=some (.lst zs)/\zs.length=n/\Paired (bS K H) qs zs/\qs.length=n/\∀y∈qs,C y:=by obtain ⟨q,qs,a,c,⟨zs,g,pr⟩,l,z⟩:=h;exact ⟨q,zs,qs,a,c,g,by rw[<- pr.length];exact l,pr,l,z⟩
end
theorem sE {i:Int} (h:i.natAbs<=W) (hW:1<=W):Dr W (i:Rat):=⟨h,hW⟩
def SV (K:FG9) (A:Addr->Prop) (H:Hp) (n:Nat) (C:Rat->Prop) (p:Addr) (m:Nat):Prop:=∃us,H p=some (.lst us)/\us.length=m/\¬A p/\∀x∈us,gV K A H n C x
structure Fo (A:Addr->Prop) (m p l b q0:Addr):Prop where
 am:¬A m
 ap:¬A p
 al:¬A l
 ab:¬A b
 aq:¬A q0
 mb:m≠b
 pb:p≠b
 lb:l≠b
 mp:m≠p
 ml:m≠l
 mq:m≠q0
theorem Iu {M:Nat} {z:Int} (h:z.natAbs<=2):Fr 1 2 (z:Rat):=Fr.int h
theorem DC {z:Int} (hz:z.natAbs<=2) (ha:Fr M W a) (hc:Fr M W c):Fr M (3*W) (a+(z:Rat)*c):=by
 have h:=(Iu (M:=M) hz).mul hc;rw[wI] at h;exact (ha.add h).mono (by lia)
theorem Cw {z:Int} (h:z.natAbs<=1000):lU (z:Rat):=Gx (M:=1) (V:=1000) (by decide) (uh) (ak (show 1000<=2^10 by decide) (aD (by decide) (by decide))) (Fr.int h)
theorem zi {z:Int} (hz:z.natAbs<=2) (hc:Fr M W c) (h0:0 < M) (h1:M<=2^800) (hW:W<=2^140):lU ((z:Rat)*c):=by
 have h:=(Iu (M:=M) hz).mul hc;rw[wI] at h;refine Gx h0 (ak h1 (aD (by decide) (by decide))) (ak (cU 2 hW) ?_) h;rw[show 2*2^140=2^141 by rw[iQ,dJ]];exact aD (by decide) (by decide)
def jk (A:Addr->Prop) (b m:Addr) (H H':Hp):Prop:=∀c u,H c=some u->c≠b->¬A c->c≠m->H' c=some u
theorem jk.same (h:jk A b m H H1) (s:aG H1 H2):jk A b m H H2:=λc u e n1 n2 n3=>s _ _ (h c u e n1 n2 n3)
theorem jk.upto (h:jk A b m H H1) (s:cF b H1 H2):jk A b m H H2:=λc u e n1 n2 n3=>s.1 _ _ (h c u e n1 n2 n3) n1
theorem jk.upd (h:jk A b m H H1) (hq:A q\/q=m):jk A b m H (L2.upd H1 q o):=λc u e n1 n2 n3=>by
 rw[aZ]
 ·exact h c u e n1 n2 n3
 ·rintro rfl;rcases hq with hq | hq
  ·exact n2 hq
  ·exact n3 hq
theorem jk.new (h:jk A b m H H1) (hA:∀q,H q=none->A q) (B:ig H1 b) (hm:H1 m≠none) (hr:H1 r=none):A r:=by
 by_cases z:A r
 ·exact z
 ·cases e:H r with
  | none=>exact hA r e
  | some u =>
   have:=h r u e (λy=>B.at (by rw[<- y];exact hr)) z (λy=>hm (by rw[<- y];exact hr));rw[hr] at this;cases this
structure IJ (K:FG9) (A:Addr->Prop) (n:Nat) (C:Rat->Prop) (r p b q0:Addr) (us:List V) (H0 H:Hp):Prop where
 gr:H r=some (.lst us)
 ru:∀x∈us,gV K A H n C x
 rp:gV K A H n C (.ref p)
 bag:ig H b
 inn:Inner H b q0
 up:cF b H0 H
section
variable {K:FG9} {A:Addr->Prop} {n:Nat} {C:Rat->Prop} {r p b q0:Addr} {us:List V} {H0 H H':Hp} {y:Rat} {v:V}
theorem IJ.same (h:IJ K A n C r p b q0 us H0 H) (e:aG H H'):IJ K A n C r p b q0 us H0 H':=⟨e _ _ h.gr,λx hx=>(h.ru x hx).same e,h.rp.same e,h.bag.same e,(e.upto (p:=b)).2 _ h.inn,h.up.same e⟩
theorem IJ.upto (h:IJ K A n C r p b q0 us H0 H) (u:cF b H H') (B:ig H' b) (nb:¬A b) (rb:r≠b):IJ K A n C r p b q0 us H0 H':=⟨u.other rb h.gr,λx hx=>(h.ru x hx).upto u h.bag nb,h.rp.upto u h.bag nb,B,u.2 _ h.inn,h.up.trans u⟩
theorem IJ.put (h:IJ K A n C r p b q0 us H0 H) (ap:A p) (nr:¬A r) (nb:¬A b) (nq:¬A q0) (hp:H0 p=none) (hv:bS K H y v) (hc:C y) (j:Nat):∃zs,H p=some (.lst zs)/\zs.length=n/\IJ K A n C r p b q0 us H0 (upd H p (.lst (zs.set j v))):=by
 obtain ⟨q,zs,qs,e,a,g,l,_⟩:=h.rp.at;cases e;have ne:∀{z},¬A z->z≠p:=λh e=>h (by rw[e];exact ap)
 exact ⟨zs,g,l,by rw[aZ (ne nr)];exact h.gr,λx hx=>(h.ru x hx).put g hv hc j,h.rp.put g hv hc j,h.bag.upd h.inn (ne nb).symm (ne nq).symm,h.inn.upd (ne nb).symm,h.up.after hp⟩
end
theorem zH {K:FG9} (h:∀x∈us,gV K A H n C x):∃rows:LR9,Paired (λqs x=>∃q,x=V.ref q/\A q/\bX K H q qs) rows us/\rows.length=us.length/\∀qs∈rows,qs.length=n/\∀y∈qs,C y:=by
 induction us with
 | nil=>exact ⟨[],.nil,rfl,λ_ z=>nomatch z⟩
 | cons u us ih =>
  obtain ⟨rows,pr,l,hr⟩:=ih λx hx=>h x (.tail _ hx)
  obtain ⟨q,qs,e,a,r,l1,c⟩:=h u (.head _);refine ⟨qs :: rows,.cons ⟨q,e,a,r⟩ pr,by simp [l],λzs hz=>?_⟩;rcases aH.mp hz with rfl | hz
  ·exact ⟨l1,c⟩
  ·exact hr zs hz
theorem FY {K:FG9} {rows:LR9} (pr:Paired (λqs x=>∃q,x=V.ref q/\A q/\bX K H q qs) rows us) (h:∀qs∈rows,qs.length=n/\∀y∈qs,C y):∀x∈us,gV K A H n C x:=λx hx=>by
 obtain ⟨qs,hq,q,e,a,r⟩:=dj pr hx;exact ⟨q,qs,e,a,r,(h qs hq).1,(h qs hq).2⟩
theorem BM {n:Nat}:∀{rows:LR9},(∀xs∈rows,xs.length=n)->rows.flatten.length=rows.length*n
 | [],_=>by simp
 | xs :: rows,h=>by
  rw[fG,aF,h xs (.head _),BM λys hy=>h ys (.tail _ hy),bQ,d6,tu]
theorem MG {rows:LR9} (h:∀qs∈rows,qs.length=n/\∀y∈qs,Dr (2^c) y):∃M:Nat,0 < M/\M<=2^(c*(rows.length*n))/\∀qs∈rows,∀y∈qs,Fr M (2^c) y:=by
 have fl:rows.flatten.length=rows.length*n:=BM λys hy=>(h ys hy).1
 have hm:∀a∈rows.flatten.map (·.den),0 < a/\a<=2^c:=λa ha=>by
  obtain ⟨y,hy,rfl⟩:=aw.mp ha;obtain ⟨qs,hq,hy⟩:=cJ.mp hy;exact ⟨y.den_pos,((h qs hq).2 y hy).2⟩
 refine ⟨vv (rows.flatten.map (·.den)),xg λa ha=>(hm a ha).1,?_,λqs hq y hy=>?_⟩
 ·have:=zM (k:=c) (l:=rows.flatten.map (·.den)) λa ha=>(hm a ha).2
  rwa [ag,fl] at this
 ·exact (Fr.own y ((h qs hq).2 y hy).1).dvd (xh (aw.mpr ⟨y,cJ.mpr ⟨qs,hq,hy⟩,rfl⟩))
theorem kP {K:FG9} (h:SV K A H n C p m) (w:∀q,A q->H0 q=none):∃rows,cx K H0 H p rows/\rows.length=m/\∀qs∈rows,qs.length=n/\∀y∈qs,C y:=by
 obtain ⟨us,g,l,a,r⟩:=h;obtain ⟨rows,pr,lr,hr⟩:=zH r;refine ⟨rows,⟨us,g,Paired.imp' (λ_ _ ⟨q,e,aq,rq⟩=>⟨q,e,w q aq,rq⟩) pr,λhm=>?_⟩,by rw[lr,l],hr⟩;obtain ⟨q,_,e,aq,_⟩:=r _ hm;cases e;exact a aq
theorem jk.trans (h:jk A b m H H1) (h':jk A b m H1 H2):jk A b m H H2:=λc u e n1 n2 n3=>h' c u (h c u e n1 n2 n3) n1 n2 n3
theorem Kr {K:FG9} {rows:LR9} (pr:Paired (ia K H0 H) rows us) (h:∀qs∈rows,qs.length=n/\∀y∈qs,C y) (w:∀q,V.ref q∈us->H0 q=none->H q≠none->A q):∀x∈us,gV K A H n C x:=λx hx=>by
 obtain ⟨qs,hq,q,e,a,r⟩:=dj pr hx;subst e;exact ⟨q,qs,rfl,w q hx a (by obtain ⟨_,g,_⟩:=r;rw[g];simp),r,(h qs hq).1,(h qs hq).2⟩
def Ja:Sp:=λvs H Q _=>∃b,vs=[.ref b]/\ig H b/\∀r (n i o w:Nat) H',H' r=some (.tup [.int n,.int i,.int o,.int w])->n<=5->i<=4->o<=4->(w=4\/w=9\/(w=1000000/\n<=2))->(n=5->i<=2/\o<=2)->ig H' b->cF b H H'->Q (.ref r) H'
def fK (K:FG9) (H0 H:Hp) (r:Addr) (mv pt lk:LR9):Prop:=∃m p l,H r=some (.tup [.ref m,.ref p,.ref l])/\H0 m=none/\H0 p=none/\H0 l=none/\cx K H0 H m mv/\cx K H0 H p pt/\cx K H0 H l lk
section
variable {K:FG9} {H H' H0 H1:Hp} {r b:Addr} {mv pt lk:LR9}
theorem fK.same (h:fK K H0 H r mv pt lk) (e:aG H H'):fK K H0 H' r mv pt lk:=by obtain ⟨m,p,l,g,n1,n2,n3,g1,g2,g3⟩:=h;exact ⟨m,p,l,e _ _ g,n1,n2,n3,g1.same e,g2.same e,g3.same e⟩
theorem fK.upto (h:fK K H0 H r mv pt lk) (u:cF b H H') (B:ig H b) (nb:H0 b≠none):fK K H0 H' r mv pt lk:=by
 obtain ⟨m,p,l,g,n1,n2,n3,g1,g2,g3⟩:=h;exact ⟨m,p,l,u.tup B g,n1,n2,n3,g1.upto u B (λz=>nb (by rw[<- z];exact n1)) nb,g2.upto u B (λz=>nb (by rw[<- z];exact n2)) nb,g3.upto u B (λz=>nb (by rw[<- z];exact n3)) nb⟩
theorem fK.weak (h:fK K H0 H r mv pt lk) (e:∀q,H0 q=none->H1 q=none):fK K H1 H r mv pt lk:=by
 obtain ⟨m,p,l,g,n1,n2,n3,⟨x1,y1,z1,w1⟩,⟨x2,y2,z2,w2⟩,⟨x3,y3,z3,w3⟩⟩:=h;exact ⟨m,p,l,g,e _ n1,e _ n2,e _ n3,⟨x1,y1,Paired.imp' (λ_ _ ⟨q,a,b,c⟩=>⟨q,a,e _ b,c⟩) z1,w1⟩,⟨x2,y2,Paired.imp' (λ_ _ ⟨q,a,b,c⟩=>⟨q,a,e _ b,c⟩) z2,w2⟩,⟨x3,y3,Paired.imp' (λ_ _ ⟨q,a,b,c⟩=>⟨q,a,e _ b,c⟩) z3,w3⟩⟩
end
inductive zl (K:FG9) (C:Addr) (vs:List V) (H:Hp) (Q:VK) (E9:XK):Prop
 | mk (r:Addr) (H0:Hp) (mv pt lk:LR9):vs=[.ref r]->fK K H0 H r mv pt lk->gQ mv pt lk->Ci mv pt lk->(∀x H',H x=none->aG H H'->mV K H H' C x mv pt lk->Q (.ref x) H')->zl K C vs H Q E9
def nextK (mv pt:LR9) (st pu:List Rat) (k:Nat):List Rat:=List.zipWith (λline col=>dN (line++col.take k) (st++pu.take k)) mv (m8 pt mv.length)
theorem jK {st pu:List Rat}:(nextK mv pt st pu k).length=mv.length:=by unfold nextK;rw[bC,mi];lia
theorem sY {st pu:List Rat} (h1:pt.length<=k) (h2:pu.length<=k):nextK mv pt st pu k=gE mv pt st pu:=by
 unfold nextK gE;apply kx;intro i;rw[bR,bR];cases e1:mv[i]? with
 | none=>rfl
 | some line =>
  cases e2:(m8 pt mv.length)[i]? with
  | none=>rfl
  | some col =>
   have:=wM col (ao e2);show some _=some _
   rw[aA (by lia),aA h2]
theorem Cu (h:i < w):(m8 rows w)[i]?=some (rows.map λxs=>xs.getD i 0):=by
 unfold m8;rw[ay,b7 h];rfl
theorem Gd {st pu:List Rat}:nextK mv pt st pu 0=mv.map λxs=>dN xs st:=by
 unfold nextK;apply kx;intro i;rw[bR,ay];by_cases hi:i < mv.length
 ·rw[Cu hi,af hi];simp
 ·rw[a9 (by lia)];rfl
theorem z8 {st pu:List Rat} (hi:i < mv.length):(nextK mv pt st pu k).getD i 0=dN (mv[i]++(pt.map λxs=>xs.getD i 0).take k) (st++pu.take k):=by
 rw[ae];unfold nextK;rw[bR,af hi,Cu hi];rfl
theorem sF (h:as.length=xs.length):dN (as++bs) (xs++ys)=dN as xs+dN bs ys:=by
 unfold dN;rw[D8 h,AU]
theorem Ge {st pu:List Rat} (hm:∀xs∈mv,xs.length=st.length) (h1:k < pt.length) (h2:k < pu.length) (hw:(pt[k]).length=mv.length) :
  List.zipWith (λx y=>x+y) (nextK mv pt st pu k) ((pt[k]).map λy=>pu[k]*y)=nextK mv pt st pu (k+1):=by
 have l1:((pt[k]).map λy=>pu[k]*y).length=mv.length:=by rw[ag,hw]
 rw[Br (by rw[l1,jK])];apply kx;intro i;rw[ay,jK];by_cases hi:i < mv.length
 ·have e0:(nextK mv pt st pu (k+1))[i]?=some ((nextK mv pt st pu (k+1)).getD i 0):=by
   rw[ae,af (by rw[jK];exact hi)];rfl
  rw[b7 hi,e0,z8 hi];have ll:=hm mv[i] (bu hi);have ec:(pt.map λxs=>xs.getD i 0)[k]?=some ((pt[k]).getD i 0):=by rw[ay,af h1];rfl
  have ep:pu[k]?=some pu[k]:=af h2
  have e3:((pt[k]).map λy=>pu[k]*y).getD i 0=pu[k]*(pt[k]).getD i 0:=by
   rw[getD_map (by rw[hw];exact hi),ae,af (by rw[hw];exact hi)];rfl
  show some ((nextK mv pt st pu k).getD i 0+((pt[k]).map λy=>pu[k]*y).getD i 0)=some _
  rw[z8 hi,e3,take_snoc ec,take_snoc ep,sF ll,sF ll,sF (by rw[cW,cW,ag];lia)];have:dN [(pt[k]).getD i 0] [pu[k]]=(pt[k]).getD i 0*pu[k]:=by simp [dN,c8]
  rw[this];congr 1;grind
 ·rw[a9 (by simpa using hi),a9 (by rw[jK];lia)];rfl
theorem mV.weakN {K:FG9} (h:mV K H0 H C p mv pt lk) (e:∀q,H0 q=none->H1 q=none):mV K H1 H C p mv pt lk:=by
 obtain ⟨dx,a,b,c,g,n1,n2,n3,⟨x1,y1,z1,w1⟩,⟨x2,y2,z2,w2⟩,⟨x3,y3,z3,w3⟩⟩:=h;exact ⟨dx,a,b,c,g,e _ n1,e _ n2,e _ n3,⟨x1,y1,Paired.imp' (λ_ _ ⟨q,a,b,c⟩=>⟨q,a,e _ b,c⟩) z1,w1⟩,⟨x2,y2,Paired.imp' (λ_ _ ⟨q,a,b,c⟩=>⟨q,a,e _ b,c⟩) z2,w2⟩,⟨x3,y3,Paired.imp' (λ_ _ ⟨q,a,b,c⟩=>⟨q,a,e _ b,c⟩) z3,w3⟩⟩
theorem xj {st pu:List Rat}:(gE mv pt st pu).length=mv.length:=by unfold gE;rw[bC,mi];lia
def jF (k j:Nat) (l:List Rat):Prop:=∃M V:Nat,0 < M/\M<=2^k/\V<=2^j/\∀x∈l,Fr M V x
theorem Nz {M V:Nat} (h0:0 < M) (h1:M<=2^2000) (h2:V<=2^1950) (h:Fr M V x):lU x:=by
 obtain ⟨a,b⟩:=h.sz h0 h1 h2;exact ⟨a.mono (by decide),b.mono (by decide)⟩
section
variable {k j k' j':Nat} {l xs ys:List Rat} {x y:Rat}
theorem jF.szn (h:jF k j l) (hx:x∈l) (hk:k+j<=3950000:=by decide):lU x:=by
 obtain ⟨M,V,h0,h1,h2,h3⟩:=h;obtain ⟨a,b⟩:=(h3 x hx).sz h0 h1 h2;exact ⟨a.mono (by lia),b.mono (by lia)⟩
theorem jF.rowM (h:jF k j l) (hk:k+j<=4200000:=by decide):∃M,qo M (l.map nm):=by
 obtain ⟨M,V,h0,h1,h2,h3⟩:=h;refine ⟨M,by lia,?_,λn hn=>?_⟩
 ·show ((M:Nat):Int).natAbs < 2^4400000
  rw[jv];exact bD h1 (eH (by decide) (by lia))
 ·obtain ⟨x,hx,rfl⟩:=aw.mp hn;obtain ⟨a,_⟩:=(h3 x hx).sz h0 h1 h2;exact ⟨jC x,(h3 x hx).den,a.mono (by lia)⟩
theorem jF.one (h:jF k j l) (hx:x∈l):jF k j [x]:=by
 obtain ⟨M,V,h0,h1,h2,h3⟩:=h;exact ⟨M,V,h0,h1,h2,λy hy=>by rw[bz.mp hy];exact h3 x hx⟩
theorem E4 (h:jF k j xs) (h':jF k' j' ys) (hl:xs.length<=1000) (i:Nat) (hk:(k+k')+(j+j')<=3930000:=by decide):lU (dN (xs.take i) (ys.take i)):=by
 obtain ⟨M,V,h0,h1,h2,h3⟩:=h;obtain ⟨N,W,k0,k1,k2,k3⟩:=h'
 have e:1000*(V*W)<=2^(10+(j+j')):=by
  rw[aR 2 10];exact aL (by decide) (ak (aL h2 k2) (by rw[<- aR];exact ar _))
 obtain ⟨a,b⟩:=((Fr.dot (λx hx=>h3 x (b9 hx)) (λy hy=>k3 y (b9 hy))).mono (az _ (show (xs.take i).length<=1000 by rw[cW];lia))).sz (ba h0 k0) (ak (aL h1 k1) (by rw[<- aR];exact ar _)) e;exact ⟨a.mono (by lia),b.mono (by lia)⟩
theorem JB (h:jF k j xs) (h':jF k' j' ys) (hl:xs.length<=1000) (hk:(k+k')+(j+j')<=3930000:=by decide):lU (dN xs ys):=by
 have:=E4 h h' hl (xs.length+ys.length) hk;rwa [aA (by lia),aA (by lia)] at this
theorem KZ (hx:jF k j [x]) (hy:jF k' j' [y]) (hk:(k+k')+(j+j')<=3930000:=by decide):lU (x*y):=by
 obtain ⟨M,V,h0,h1,h2,h3⟩:=hx;obtain ⟨N,W,k0,k1,k2,k3⟩:=hy;obtain ⟨a,b⟩:=((h3 x (.head _)).mul (k3 y (.head _))).sz (ba h0 k0) (ak (aL h1 k1) (by rw[<- aR];exact ar _)) (ak (aL h2 k2) (by rw[<- aR];exact ar _));exact ⟨a.mono (by lia),b.mono (by lia)⟩
def D4 (xs ys:List Rat):Prop:=∃k j k' j':Nat,jF k j xs/\jF k' j' ys/\(k+k')+(j+j')<=3930000
theorem D4.sys (h:jF 400 120 xs) (h':jF 1800000 1800000 ys):D4 xs ys:=⟨_,_,_,_,h,h',by decide⟩
end
def LQ (mv pt lk:LR9):Prop:=∃M V:Nat,0 < M/\M<=2^400/\V<=2^120/\GF M V mv/\GF M V pt/\GF M V lk
section
variable {mv pt lk:LR9}
theorem LQ.fits (h:LQ mv pt lk) (hl:∀x∈l,(∃xs∈mv,x∈xs)\/(∃xs∈pt,x∈xs)\/(∃xs∈lk,x∈xs)\/x=0):jF 400 120 l:=by
 obtain ⟨M,V,h0,h1,h2,g1,g2,g3⟩:=h;refine ⟨M,V,h0,h1,h2,λx hx=>?_⟩;rcases hl x hx with ⟨xs,a,b⟩ | ⟨xs,a,b⟩ | ⟨xs,a,b⟩ | rfl
 ·exact g1 xs a x b
 ·exact g2 xs a x b
 ·exact g3 xs a x b
 ·exact Fr.zero
theorem LQ.sf (h:LQ mv pt lk):Ci mv pt lk:=by obtain ⟨M,V,a,b,c,d⟩:=h;exact ⟨M,V,a,ak b (aD (by decide) (by decide)),ak c (aD (by decide) (by decide)),d⟩
end
inductive CC (K:FG9) (vs:List V) (H:Hp) (Q:VK) (E9:XK):Prop
 | mk (p q:Addr) (xs ys:List Rat):vs=[.ref p,.ref q]->bX K H p xs->bX K H q ys->ys.length=xs.length->xs.length<=1000->D4 xs ys->(∀r H',aG H H'->bS K H' (dN xs ys) (.ref r)->Q (.ref r) H')->CC K vs H Q E9
inductive HJ (K:FG9) (vs:List V) (H:Hp) (Q:VK) (E9:XK):Prop
 | mk (p q:Addr) (H0:Hp) (rows:LR9) (ys:List Rat):vs=[.ref p,.ref q]->cx K H0 H p rows->bX K H q ys->rows.length<=1000->ys.length<=1000->((∀xs∈rows,xs.length=ys.length/\D4 xs ys))->(∀r H',H r=none->aG H H'->bX K H' r (rows.map λxs=>dN xs ys)->Q (.ref r) H')->HJ K vs H Q E9
inductive BB (K:FG9) (C:Addr) (vs:List V) (H:Hp) (Q:VK) (E9:XK):Prop
 | mk (x p q:Addr) (H0:Hp) (mv pt lk:LR9) (st pu:List Rat):vs=[.ref x,.ref p,.ref q]->mV K H0 H C x mv pt lk->gQ mv pt lk->LQ mv pt lk->bX K H p st->bX K H q pu->st.length=mv.length->pu.length=pt.length->jF 1800000 1800000 (st++pu)->(∀r H',H r=none->aG H H'->bX K H' r (gE mv pt st pu)->Q (.ref r) H')->BB K C vs H Q E9
def mB (mv pt:LR9) (st:List Rat) (pus:LR9) (k:Nat):List Rat:=(pus.take k).foldl (gE mv pt) st
def kZ (mv pt:LR9) (st:List Rat) (pus:LR9):LR9:=(List.range (pus.length+1)).map (mB mv pt st pus)
section
variable {mv pt lk pus:LR9} {st:List Rat} {k:Nat}
theorem oP (h:pus[k]?=some pu):mB mv pt st pus (k+1)=gE mv pt (mB mv pt st pus k) pu:=by
 unfold mB;rw[take_snoc h,List.foldl_append];rfl
theorem vg (h:st.length=mv.length):∀{k:Nat},k<=pus.length->(mB mv pt st pus k).length=mv.length
 | 0,_=>h
 | k+1,hk=>by rw[oP (af (show k < pus.length by lia)),xj]
theorem Au:(kZ mv pt st pus).length=pus.length+1:=by unfold kZ;rw[ag,bT]
theorem xA (h:k<=pus.length):(kZ mv pt st pus)[k]?=some (mB mv pt st pus k):=by
 unfold kZ;rw[ay,b7 (by lia)];rfl
def Og (mv pt:LR9) (st:List Rat) (pus:LR9):Prop:=∀k,k<=pus.length->∃N W:Nat,0 < N/\N<=2^1800000/\W<=2^1800000/\(∀x∈mB mv pt st pus k,Fr N W x)/\∀xs∈pus,∀x∈xs,Fr N W x
theorem Og.both (h:Og mv pt st pus) (hk:k<=pus.length) (hp:pu∈pus):jF 1800000 1800000 (mB mv pt st pus k++pu):=by
 obtain ⟨N,W,a,b,c,d,e⟩:=h k hk;exact ⟨N,W,a,b,c,λx hx=>(av.mp hx).elim (d x) (e pu hp x)⟩
theorem G4 (h:GF M W rows):GF M W (m8 rows w):=λys hy y hy'=>by
 obtain ⟨j,_,rfl⟩:=aw.mp hy;obtain ⟨xs,hx,rfl⟩:=aw.mp hy';rw[ae];cases e:xs[j]? with
 | none=>exact Fr.zero
 | some z=>exact h xs hx z (ao e)
end
def xG (K:FG9) (H:Hp) (l:Addr) (H':Hp) (xs:List Rat) (x:V):Prop:=∃q,x=.ref q/\H q=none/\q≠l/\bX K H' q xs
section
variable {K:FG9} {H H' H2:Hp} {l:Addr} {xs:List Rat} {x:V}
theorem xG.same (h:xG K H l H' xs x) (e:aG H' H2):xG K H l H2 xs x:=by obtain ⟨q,a,b,c,d⟩:=h;exact ⟨q,a,b,c,d.same e⟩
theorem xG.upd {ys:List V} {o:HO} (h:xG K H l H' xs x) (hl:H' l=some (.lst ys)):xG K H l (upd H' l o) xs x:=by obtain ⟨q,a,b,c,d⟩:=h;exact ⟨q,a,b,c,d.updL hl c⟩
theorem xG.rowF (h:xG K H l H' xs x):ia K H H' xs x:=by obtain ⟨q,a,b,_,d⟩:=h;exact ⟨q,a,b,d⟩
theorem Jg (e:aG H H') (n:H l=none):aG H (upd H' l o):=λb u h=>by
 rw[aZ (λz=>by rw[z,n] at h;cases h)];exact e b u h
theorem zI:∀{rows:LR9} {ys:List V},Paired (xG K H l H') rows ys->V.ref l∉ys
 | _,_,.nil=>by simp
 | _,_,.cons ⟨q,a,_,c,_⟩ r=>by
  intro hm;rcases aH.mp hm with e | hm
  ·rw[a] at e;cases e;exact c rfl
  ·exact zI r hm
end
inductive zu (K:FG9) (C:Addr) (vs:List V) (H:Hp) (Q:VK) (E9:XK):Prop
 | mk (x s p:Addr) (H0 H1:Hp) (mv pt lk pus:LR9) (st:List Rat):vs=[.ref x,.ref s,.ref p]->mV K H0 H C x mv pt lk->gQ mv pt lk->LQ mv pt lk->bX K H s st->st.length=mv.length->cx K H1 H p pus->pus.length<=100->(∀xs∈pus,xs.length=pt.length)->Og mv pt st pus->(∀r H',H r=none->aG H H'->cx K H H' r (kZ mv pt st pus)->Q (.ref r) H')->zu K C vs H Q E9
theorem td {l:List Rat} (h:∀x∈l,Dr (2^c) x) (hc:c<=20):∃B:Nat,0 < B/\B<=2^(c*l.length+2)/\∀x∈l,Fr B (2^22) x:=by
 obtain ⟨M,h0,h1,h2⟩:=Nx (c:=c) (n:=l.length) (i:=0) (rows:=[]) Qo rfl h hc;refine ⟨M,h0,?_,h2 l (by simp)⟩;rw[Nat.zero_add,wI] at h1;exact h1
theorem E3 {i:Nat}:∀{pus:LR9},(∀xs∈pus,xs.length=i)->pus.flatten.length=pus.length*i
 | [],_=>by simp
 | x :: r,h=>by
  rw[fG,aF,h x (.head _),E3 (λxs hx=>h xs (.tail _ hx)),bQ,d6]
  lia
theorem RJ {i:Int} (h:i=0\/i=1):Fr 1 1 (i:Rat):=Fr.int (by rcases h with rfl | rfl <;> decide)
theorem tG {α β:Type} {F:α->β->Prop}:∀{l1:List α} {l2:List β} (_:Paired F l1 l2) (k:Nat),Paired F (l1.drop k) (l2.drop k)
 | _,_,h,0=>h
 | _,_,.nil,_+1=>.nil
 | _,_,.cons _ r,k+1=>tG r k
end L2
namespace L2
abbrev lJ:=Nat->Rat
def Dw (F:List lJ->Rat) (r:Nat):List lJ->List lJ->Rat->Rat
 | _,[],_=>0
 | pre,v :: post,s=>s*v r*F (pre++post)+Dw F r (pre++[v]) post (-s)
def uV:List Nat->List lJ->Rat
 | [],[]=>1
 | [],_ :: _=>0
 | r :: rs,vs=>Dw (λws=>uV rs ws) r [] vs 1
theorem DH:uV [] (a++x :: b)=0:=by
 cases a <;> rfl
theorem Dv {F:List lJ->Rat} {r:Nat} {f g h:lJ} {x y:Rat} (hF:∀a b,F (a++h :: b)=x*F (a++f :: b)+y*F (a++g :: b)):∀(b p q:List lJ) (s:Rat),Dw F r (p++h :: q) b s=x*Dw F r (p++f :: q) b s+y*Dw F r (p++g :: q) b s
 | [],p,q,s=>by simp only[Dw,gX,c8]
 | v :: b,p,q,s=>by
  have i1:=hF p (q++b);have i2:=Dv (r:=r) hF b p (q++[v]) (-s);simp only[Dw,cN,fX] at i1 i2 ⊢;rw[i1,i2];grind
theorem Ig {F:List lJ->Rat} {r:Nat} {f g h:lJ} {x y:Rat} (hF:∀a b,F (a++h :: b)=x*F (a++f :: b)+y*F (a++g :: b)) (hr:h r=x*f r+y*g r):∀(a pre b:List lJ) (s:Rat),Dw F r pre (a++h :: b) s=x*Dw F r pre (a++f :: b) s+y*Dw F r pre (a++g :: b) s
 | [],pre,b,s=>by
  have i2:=Dv (r:=r) hF b pre [] (-s);simp only[Dw,dd] at i2 ⊢;rw[i2,hr];grind
 | v :: a,pre,b,s=>by
  have i1:=hF (pre++a) b;have i2:=Ig hF hr a (pre++[v]) b (-s);simp only[Dw,cN,fX] at i1 i2 ⊢;rw[i1,i2];grind
theorem uO {f g h:lJ} {x y:Rat}:∀{rs:List Nat},(∀r∈rs,h r=x*f r+y*g r)->∀a b,uV rs (a++h :: b)=x*uV rs (a++f :: b)+y*uV rs (a++g :: b)
 | [],_,a,b=>by rw[DH,DH,DH];grind
 | r :: rs,hr,a,b=>Ig (λa b=>uO (λr' h'=>hr r' (.tail _ h')) a b) (hr r (.head _)) a [] b 1
theorem Iz (hr:∀r∈rs,h r=0) (a b:List lJ):uV rs (a++h :: b)=0:=by
 rw[uO (f:=h) (g:=h) (x:=0) (y:=0) (λr h'=>by rw[hr r h'];grind) a b];grind
theorem Ih {F:List lJ->Rat} {r:Nat} {x:lJ} (hF:∀a b,F (a++x :: x :: b)=0):∀(b p q:List lJ) (s:Rat),Dw F r (p++x :: x :: q) b s=0
 | [],p,q,s=>rfl
 | v :: b,p,q,s=>by
  have i1:=hF p (q++b);have i2:=Ih (r:=r) hF b p (q++[v]) (-s);simp only[Dw,cN,fX] at i1 i2 ⊢;rw[i1,i2];grind
theorem Ii {F:List lJ->Rat} {r:Nat} {x:lJ} (hF:∀a b,F (a++x :: x :: b)=0):∀(a pre b:List lJ) (s:Rat),Dw F r pre (a++x :: x :: b) s=0
 | [],pre,b,s=>by
  have i2:=Ih (r:=r) hF b pre [] (- -s);simp only[Dw,dd,cN,fX] at i2 ⊢;rw[i2];grind
 | v :: a,pre,b,s=>by
  have i1:=hF (pre++a) b;have i2:=Ii (r:=r) hF a (pre++[v]) b (-s);simp only[Dw,cN,fX] at i1 i2 ⊢;rw[i1,i2];grind
theorem Ah {x:lJ}:∀{rs:List Nat} (a b:List lJ),uV rs (a++x :: x :: b)=0
 | [],a,b=>DH
 | r :: rs,a,b=>Ii (λa b=>Ah a b) a [] b 1
theorem NG (a b:List lJ):uV rs (a++x :: y :: b)=- uV rs (a++y :: x :: b):=by
 have hr:∀r∈rs,(λr=>1*x r+1*y r) r=1*x r+1*y r:=λ_ _=>rfl
 have h0:=Ah (x:=λr=>1*x r+1*y r) (rs:=rs) a b;have h1:=uO hr a ((λr=>1*x r+1*y r) :: b);have h2:=uO hr (a++[x]) b;have h3:=uO hr (a++[y]) b;have h4:=Ah (x:=x) (rs:=rs) a b;have h5:=Ah (x:=y) (rs:=rs) a b;simp only[cN,fX,dd] at h0 h1 h2 h3 h4 h5;rw[h1,h2,h3,h4,h5] at h0;grind
theorem DI {x:lJ} {rs:List Nat}:∀(b a c:List lJ),uV rs (a++x :: (b++x :: c))=0
 | [],a,c=>Ah a c
 | y :: b,a,c=>by
  have:=DI (x:=x) (rs:=rs) b (a++[y]) c;simp only[cN,fX,dd] at this;rw[fX,NG,this];rfl
def aM:Nat->(Nat->Rat)->Rat
 | 0,_=>0
 | k+1,f=>aM k f+f k
theorem aE {f g:Nat->Rat}:∀{k:Nat},(∀j,j < k->f j=g j)->aM k f=aM k g
 | 0,_=>rfl
 | k+1,h=>by
  show aM k f+f k=aM k g+g k
  rw[aE λj hj=>h j (by lia),h k (by lia)]
theorem jo {f g:Nat->Rat}:∀{k:Nat},aM k (λj=>f j+g j)=aM k f+aM k g
 | 0=>by show (0:Rat)=0+0;grind
 | k+1=>by
  show aM k (λj=>f j+g j)+_=(aM k f+f k)+(aM k g+g k)
  rw[jo];grind
theorem cw {f:Nat->Rat} {c:Rat}:∀{k:Nat},aM k (λj=>c*f j)=c*aM k f
 | 0=>by show (0:Rat)=c*0;grind
 | k+1=>by
  show aM k (λj=>c*f j)+_=c*(aM k f+f k)
  rw[cw];grind
theorem d7 {f:Nat->Rat}:∀{k:Nat},(∀j,j < k->f j=0)->aM k f=0
 | 0,_=>rfl
 | k+1,h=>by
  show aM k f+f k=0
  rw[d7 λj hj=>h j (by lia),h k (by lia)];grind
theorem jT {f:Nat->Rat} {i:Nat}:∀{k:Nat},i < k->(∀j,j < k->j≠i->f j=0)->aM k f=f i
 | k+1,hi,h=>by
  show aM k f+f k=f i
  by_cases e:i=k
  ·subst e;rw[d7 λj hj=>h j (by lia) (by lia)];grind
  ·rw[jT (by lia) λj hj=>h j (by lia),h k (by lia) (λz=>e z.symm)];grind
theorem ja {f:Nat->Nat->Rat} {m:Nat}:∀{k:Nat},aM k (λi=>aM m (f i))=aM m (λj=>aM k λi=>f i j)
 | 0=>(d7 λ_ _=>rfl).symm
 | k+1=>by
  show aM k (λi=>aM m (f i))+aM m (f k)=aM m (λj=>aM k (λi=>f i j)+f k j)
  rw[ja,jo]
theorem GA {rs:List Nat} {W:lJ} {v:Nat->lJ} {c:Nat->Rat} (a b:List lJ):∀{k:Nat} {W:lJ},(∀r∈rs,W r=aM k λj=>c j*v j r)->uV rs (a++W :: b)=aM k λj=>c j*uV rs (a++v j :: b)
 | 0,W,h=>Iz h a b
 | k+1,W,h=>by
  rw[uO (f:=λr=>aM k λj=>c j*v j r) (g:=v k) (x:=1) (y:=c k) (λr hr=>by rw[h r hr];show aM k _+_=_;grind) a b,GA a b (k:=k) (W:=λr=>aM k λj=>c j*v j r) λr _=>rfl];show _=aM k _+_
  grind
end L2
namespace L2
open Nm
def JN (f:Nat->Nat):Nat->List Nat
 | 0=>[]
 | k+1=>f k :: JN f k
def uW (v:Nat->lJ):Nat->List lJ
 | 0=>[]
 | k+1=>v k :: uW v k
def NJ (v:Nat->lJ) (i:Nat):Nat->List lJ
 | 0=>[]
 | k+1=>if k<=i then [] else v k :: NJ v i k
theorem CZ {f:Nat->Nat}:∀{k:Nat},(JN f k).length=k
 | 0=>rfl
 | k+1=>by show (JN f k).length+1=_;rw[CZ]
theorem cw_len {v:Nat->lJ}:∀{k:Nat},(uW v k).length=k
 | 0=>rfl
 | k+1=>by show (uW v k).length+1=_;rw[cw_len]
theorem w5 {f:Nat->Nat} {r:Nat}:∀{k:Nat},r∈JN f k->∃t,t < k/\r=f t
 | k+1,h=>by
  rcases aH.mp h with h | h
  ·exact ⟨k,by lia,h⟩
  ·obtain ⟨t,a,b⟩:=w5 h;exact ⟨t,by lia,b⟩
theorem cw_congr {f g:Nat->lJ}:∀{k:Nat},(∀j,j < k->f j=g j)->uW f k=uW g k
 | 0,_=>rfl
 | k+1,h=>by
  show f k :: uW f k=g k :: uW g k
  rw[h k (by lia),cw_congr λj hj=>h j (by lia)]
theorem cw_mem {v:Nat->lJ} {j:Nat}:∀{k:Nat},j < k->v j∈uW v k
 | k+1,h=>by
  by_cases e:j=k
  ·subst e;exact .head _
  ·exact .tail _ (cw_mem (by lia))
theorem cw_in {v:Nat->lJ} {x:lJ}:∀{k:Nat},x∈uW v k->∃t,t < k/\x=v t
 | k+1,h=>by
  rcases aH.mp h with h | h
  ·exact ⟨k,by lia,h⟩
  ·obtain ⟨t,a,b⟩:=cw_in h;exact ⟨t,by lia,b⟩
theorem LC {v:Nat->lJ} {i j:Nat} (h1:i < j):∀{k:Nat},j < k->v j∈NJ v i k
 | k+1,h=>by
  show v j∈if k<=i then [] else v k :: NJ v i k
  rw[if_neg (by lia)];by_cases e:j=k
  ·subst e;exact .head _
  ·exact .tail _ (LC h1 (by lia))
theorem OP {v:Nat->lJ} {i:Nat} {x:lJ}:∀{k:Nat},x∈NJ v i k->∃t,t < k/\x=v t
 | k+1,h=>by
  have h:x∈if k<=i then [] else v k :: NJ v i k:=h
  split at h
  ·cases h
  ·rcases aH.mp h with h | h
   ·exact ⟨k,by lia,h⟩
   ·obtain ⟨t,a,b⟩:=OP h;exact ⟨t,by lia,b⟩
theorem cw_split {v:Nat->lJ} {i:Nat}:∀{k:Nat},i < k->uW v k=NJ v i k++v i :: uW v i
 | k+1,h=>by
  show v k :: uW v k=(if k<=i then [] else v k :: NJ v i k)++_
  by_cases e:i=k
  ·subst e;rw[if_pos (ar _)];rfl
  ·rw[if_neg (by lia),cw_split (k:=k) (i:=i) (by lia)];rfl
theorem JA {c:Nat->Rat} (hi:i < k) (hW:∀r∈rs,W r=aM k λj=>c j*v j r):uV rs (NJ v i k++W :: uW v i)=c i*uV rs (uW v k):=by
 rw[GA (v:=v) (c:=c) (W:=W) _ _ hW,jT hi λj hj ne=>?_,cw_split hi];rcases nQ j i with h | h
 ·obtain ⟨s,t,e⟩:=FH (cw_mem (v:=v) h);rw[e,DI];grind
 ·obtain ⟨s,t,e⟩:=FH (LC (v:=v) (show i < j by lia) hj);have:=DI (x:=v j) (rs:=rs) t s (uW v i);rw[e,cN,fX,this];grind
theorem Qw {c:Nat->Rat} (hW:∀r∈rs,W r=aM k λj=>c j*v j r):uV rs (W :: uW v k)=0:=by
 have:=GA (v:=v) (c:=c) (W:=W) [] (uW v k) hW;rw[dd] at this;rw[this];refine d7 λj hj=>?_
 obtain ⟨s,t,e⟩:=FH (cw_mem (v:=v) hj);have:=DI (x:=v j) (rs:=rs) s [] t;rw[dd] at this;rw[e,dd,this];grind
theorem Jz {c:Nat->Rat} (hi:i∉rs) (h1:W i=aM k (λj=>c j*v j i)+s) (hW:∀r∈rs,W r=aM k λj=>c j*v j r):uV (i :: rs) (W :: uW v k)=s*uV rs (uW v k):=by
 have e:=uO (rs:=i :: rs) (h:=W) (f:=λr=>aM k λj=>c j*v j r) (g:=λr=>if r=i then 1 else 0) (x:=1) (y:=s) (λr hr=>by
  rcases aH.mp hr with rfl | hr
  ·rw[h1,if_pos rfl];grind
  ·rw[hW r hr,if_neg (λz=>hi (by rw[<- z];exact hr))];grind) [] (uW v k)
 rw[dd,dd,dd,Qw (c:=c) λr _=>rfl] at e
 have e2:uV (i :: rs) ((λr=>if r=i then (1:Rat) else 0) :: uW v k)=uV rs (uW v k):=by
  show 1*(if i=i then (1:Rat) else 0)*uV rs ([]++uW v k)+Dw (λws=>uV rs ws) i ([]++[λr=>if r=i then (1:Rat) else 0]) (uW v k) (-1)=_
  have hF:∀a b,(λws=>uV rs ws) (a++(λr=>if r=i then (1:Rat) else 0) :: b)=0*(λws=>uV rs ws) (a++(λr=>if r=i then (1:Rat) else 0) :: b)+0*(λws=>uV rs ws) (a++(λr=>if r=i then (1:Rat) else 0) :: b):=λa b=>by
   have:=Iz (h:=λr=>if r=i then (1:Rat) else 0) (rs:=rs) (λr hr=>if_neg λz=>hi (by rw[<- z];exact hr)) a b
   dsimp only
   rw[this];grind
  have:=Dv (r:=i) hF (uW v k) [] [] (-1);rw[this,if_pos rfl,dd];grind
 rw[e2] at e;rw[e];grind
theorem OF {F:List lJ->Rat} {r B W:Nat}:∀{post pre:List lJ} {s:Rat},(∀ws,(∀w∈ws,w∈pre++post)->ws.length+1=(pre++post).length->Fr 1 B (F ws))->(∀w∈post,Fr 1 W (w r))->Fr 1 1 s->Fr 1 (post.length*(W*B)) (Dw F r pre post s)
 | [],pre,s,_,_,_=>by show Fr 1 _ 0;exact Fr.zero
 | v :: post,pre,s,hF,hw,hs=>by
  have t1:Fr 1 (W*B) (s*v r*F (pre++post)):=by
   have:=(hs.mul (hw v (.head _))).mul (hF (pre++post) (λw h=>by
    rcases av.mp h with h | h
    ·exact kz _ h
    ·exact bP _ (.tail _ h)) (by simp only[aF,bQ];lia))
   simpa using this
  have t2:=OF (F:=F) (r:=r) (B:=B) (W:=W) (post:=post) (pre:=pre++[v]) (s:=-s) (λws h h'=>hF ws (λw hw=>by simpa using h w hw) (by simpa using h')) (λw h=>hw w (.tail _ h)) (by simpa using hs.neg);exact (t1.add t2).mono (by rw[bQ,d6];lia)
theorem IA {W N:Nat}:∀{rs:List Nat} {vs:List lJ},vs.length<=N->(∀v∈vs,∀r∈rs,Fr 1 W (v r))->Fr 1 ((N*W)^rs.length) (uV rs vs)
 | [],[],_,_=>by show Fr 1 1 1;exact (Fr.int (i:=1) (by decide))
 | [],_ :: _,_,_=>by show Fr 1 _ 0;exact Fr.zero
 | r :: rs,vs,hl,h=>by
  have:=OF (F:=λws=>uV rs ws) (r:=r) (B:=(N*W)^rs.length) (W:=W) (post:=vs) (pre:=[]) (s:=1) (λws h1 h2=>IA (by rw[dd] at h2;lia) λv hv r' hr'=>h v (by simpa using h1 v hv) r' (.tail _ hr')) (λw hw=>h w hw r (.head _)) (Fr.int (i:=1) (by decide));refine this.mono ?_;rw[bQ,iQ,dJ ((N*W)^rs.length),di N];exact az _ hl
structure wH (a:Nat->Nat->Rat) (m k:Nat) (pm p:Nat->Nat) (l:Nat->Nat->Rat) (d:Rat):Prop where
 inj:∀i j,i < m->j < m->pm i=pm j->i=j
 rng:∀i,i < m->pm i < m
 km:k<=m
 d0:d≠0
 det:d=uV (JN pm k) (uW (λj r=>a r (p j)) k)
 eqs:∀i,i < m->∀c,d*a (pm i) c=aM k (λj=>a (pm i) (p j)*l j c)+if i < k then 0 else l i c
 unit:∀i,i < m->∀j,j < k->l i (p j)=if i=j then d else 0
section
variable {a l:Nat->Nat->Rat} {m k:Nat} {pm p:Nat->Nat} {d:Rat}
theorem wH.start (h:∀i,i < m->pm i=i):wH a m 0 pm p a 1 where
 inj i j hi hj e:=by rw[h i hi,h j hj] at e;exact e
 rng i hi:=by rw[h i hi];exact hi
 km:=b8 _
 d0:=by decide
 det:=rfl
 eqs i hi c:=by
  rw[h i hi,if_neg (by lia)];show 1*a i c=0+a i c
  grind
 unit i _ j hj:=absurd hj (by lia)
theorem wH.coef (B:wH a m k pm p l d) (hi:i < m):a (pm i) c=aM k (λj=>(l j c / d)*a (pm i) (p j))+if i < k then 0 else l i c / d:=by
 have h:=B.eqs i hi c;have d0:=B.d0
 have e:aM k (λj=>(l j c / d)*a (pm i) (p j))=(1 / d)*aM k (λj=>a (pm i) (p j)*l j c):=by
  rw[<- cw];exact aE λj _=>by grind
 rw[e]
 split at h
 ·rw[if_pos (by assumption)];grind
 ·rw[if_neg (by assumption)];grind
theorem wH.old (B:wH a m k pm p l d) (hi:i < k):l i c=uV (JN pm k) (NJ (λj r=>a r (p j)) i k++(λr=>a r c) :: uW (λj r=>a r (p j)) i):=by
 have km:=B.km;have d0:=B.d0;rw[JA (v:=λj r=>a r (p j)) (c:=λj=>l j c / d) hi λr hr=>?_,<- B.det]
 ·grind
 ·obtain ⟨t,ht,rfl⟩:=w5 hr;have:=B.coef (i:=t) (c:=c) (by lia);rw[if_pos ht] at this;rw[this];grind
theorem wH.new (B:wH a m k pm p l d) (h1:k<=i) (hi:i < m):l i c=uV (pm i :: JN pm k) ((λr=>a r c) :: uW (λj r=>a r (p j)) k):=by
 have km:=B.km;have d0:=B.d0
 have hn:pm i∉JN pm k:=λhm=>by
  obtain ⟨t,ht,e⟩:=w5 hm;have:=B.inj i t hi (by lia) e
  lia
 have e1:a (pm i) c=aM k (λj=>(l j c / d)*a (pm i) (p j))+l i c / d:=by
  have:=B.coef (i:=i) (c:=c) hi;rwa [if_neg (by lia)] at this
 have e2:∀r∈JN pm k,a r c=aM k (λj=>(l j c / d)*a r (p j)):=λr hr=>by
  obtain ⟨t,ht,rfl⟩:=w5 hr;have:=B.coef (i:=t) (c:=c) (by lia);rw[if_pos ht] at this;rw[this];grind
 rw[Jz (v:=λj r=>a r (p j)) (c:=λj=>l j c / d) (W:=λr=>a r c) (s:=l i c / d) hn e1 e2,<- B.det];grind
theorem wH.fr (B:wH a m k pm p l d) (hN:k < N) (hW:1<=W) (ha:∀i,i < m->∀c,Fr 1 W (a i c)) (hi:i < m):Fr 1 ((N*W)^(k+1)) (l i c):=by
 have km:=B.km;have mono:∀t,t<=k+1->(N*W)^t<=(N*W)^(k+1):=λt ht=>aD (ba (by lia) hW) ht
 have ha':∀r∈JN pm k,∀c,Fr 1 W (a r c):=λr hr c=>by
  obtain ⟨t,ht,rfl⟩:=w5 hr;exact ha _ (B.rng t (by lia)) c
 by_cases h:i < k
 ·rw[B.old h];refine (IA (W:=W) (N:=N) ?_ ?_).mono (mono _ (by rw[CZ];lia))
  ·have:=congrArg List.length (cw_split (v:=λj r=>a r (p j)) h);rw[aF,bQ,cw_len] at this;rw[aF,bQ]
   lia
  ·intro v hv r hr;rcases av.mp hv with hv | hv
   ·obtain ⟨t,_,rfl⟩:=OP hv;exact ha' r hr _
   ·rcases aH.mp hv with rfl | hv
    ·exact ha' r hr _
    ·obtain ⟨t,_,rfl⟩:=cw_in hv;exact ha' r hr _
 ·rw[B.new (by lia) hi];refine (IA (W:=W) (N:=N) ?_ ?_).mono (mono _ (by rw[bQ,CZ];lia))
  ·rw[bQ,cw_len]
   lia
  ·intro v hv r hr
   have hr':∀c,Fr 1 W (a r c):=λc=>by
    rcases aH.mp hr with rfl | hr
    ·exact ha _ (B.rng i hi) c
    ·exact ha' r hr c
   rcases aH.mp hv with rfl | hv
   ·exact hr' _
   ·obtain ⟨t,_,rfl⟩:=cw_in hv;exact hr' _
theorem wH.dfr (B:wH a m k pm p l d) (hN:k<=N) (ha:∀i,i < m->∀c,Fr 1 W (a i c)):Fr 1 ((N*W)^k) d:=by
 have km:=B.km;rw[B.det]
 have:=IA (W:=W) (N:=N) (rs:=JN pm k) (vs:=uW (λj r=>a r (p j)) k) (by rw[cw_len];exact hN) λv hv r hr=>by
  obtain ⟨t,ht,rfl⟩:=w5 hr;obtain ⟨t',_,rfl⟩:=cw_in hv;exact ha _ (B.rng t (by lia)) _
 rwa [CZ] at this
theorem wH.step (B:wH a m k pm p l d) {c0:Nat} (hk:k < m) (h0:l k c0≠0):wH a m (k+1) pm (λj=>if j=k then c0 else p j) (λi c=>if i=k then l k c else (l k c0*l i c - l i c0*l k c) / d) (l k c0) where
 inj:=B.inj
 rng:=B.rng
 km:=hk
 d0:=h0
 det:=by
  rw[B.new (ar _) hk];show _=uV (pm k :: JN pm k) ((λr=>a r (if k=k then c0 else p k)) :: uW _ k)
  rw[if_pos rfl];congr 2;exact cw_congr λj hj=>by rw[if_neg (show j≠k by lia)]
 eqs i hi c:=by
  have d0:=B.d0;have e1:=B.eqs i hi c;have e2:=B.eqs i hi c0;show l k c0*a (pm i) c=(aM k _+_)+_
  have s1:aM k (λj=>a (pm i) (if j=k then c0 else p j)*(if j=k then l k c else (l k c0*l j c - l j c0*l k c) / d))=(l k c0 / d)*aM k (λj=>a (pm i) (p j)*l j c)+(- l k c / d)*aM k (λj=>a (pm i) (p j)*l j c0):=by
   rw[<- cw,<- cw,<- jo];refine aE λj hj=>?_
   rw[if_neg (show j≠k by lia),if_neg (show j≠k by lia)];grind
  rw[s1];simp only[if_true];generalize aM k (λj=>a (pm i) (p j)*l j c)=S1 at e1 ⊢;generalize aM k (λj=>a (pm i) (p j)*l j c0)=S2 at e2 ⊢;rcases Nat.lt_trichotomy i k with h | h | h
  ·rw[if_pos h] at e1 e2;rw[if_pos (by lia)];grind
  ·subst h;rw[if_neg (by lia)] at e1 e2;rw[if_pos (by lia)];grind
  ·rw[if_neg (by lia)] at e1 e2;rw[if_neg (by lia),if_neg (by lia)];grind
 unit i hi j hj:=by
  have d0:=B.d0;by_cases e:j=k
  ·subst e;simp only[if_true];by_cases ei:i=j
   ·rw[if_pos ei,if_pos ei]
   ·rw[if_neg ei,if_neg ei];grind
  ·have hj':j < k:=by lia
   rw[if_neg e];by_cases ei:i=k
   ·rw[if_pos ei,B.unit k hk j hj',if_neg (by lia),if_neg (by lia)]
   ·rw[if_neg ei,B.unit i hi j hj',B.unit k hk j hj',if_neg (show k≠j by lia)]
    split
    ·grind
    ·grind
end
def dS (ls:List (List Int)) (i c:Nat):Rat:=(((ls.getD i []).getD c 0:Int):Rat)
def lI (rows:LR9) (i c:Nat):Rat:=(rows.getD i []).getD c 0
def JE (ls:List (List Int)) (k c:Nat) (b:Int):List (List Int):=(ls.map λzs=>List.zipWith (λx y=>((ls.getD k []).getD c 0*x - zs.getD c 0*y).fdiv b) zs (ls.getD k [])).set k (ls.getD k [])
section
variable {ls ls0:List (List Int)} {k t n P c:Nat} {b d:Int} {ps:List Nat}
theorem vM {α:Type} {l:List α} {x e:α} (hi:i < l.length):(l.set i x).getD j e=if j=i then x else l.getD j e:=by
 rw[ae,ae,List.getElem?_set];by_cases h:j=i
 ·subst h;rw[if_pos rfl,if_pos hi,if_pos rfl];rfl
 ·rw[if_neg (λz=>h z.symm),if_neg h]
theorem QD:(JE ls k c b).length=ls.length:=by unfold JE;rw[jP,ag]
theorem getD_in {α:Type} {l:List α} {e:α} (h:i < l.length):l.getD i e∈l:=by
 rw[ae,af h];exact bu h
theorem IH (w:∀zs∈ls,zs.length=n) (hk:k < ls.length):∀zs∈JE ls k c b,zs.length=n:=λzs hz=>by
 unfold JE at hz;rcases dO hz with h | h
 ·obtain ⟨y,hy,rfl⟩:=aw.mp h;rw[bC,w y hy,w _ (getD_in hk)]
  lia
 ·rw[h];exact w _ (getD_in hk)
theorem DD (w:∀zs∈ls,zs.length=n) (hc:n<=c):dS ls i c=0:=by
 unfold dS;by_cases h:i < ls.length
 ·have:=w _ (getD_in (e:=[]) h);rw[ae (l:=ls.getD i []),a9 (by lia)];rfl
 ·rw[ae (l:=ls),a9 (by lia)];rfl
theorem mS {x:Int} (h:(x:Rat)=0):x=0:=by
 have:(x:Rat)=((0:Int):Rat):=h;exact d4.mp this
theorem Gy {x b:Int} (hb:b≠0) (hq:∃z:Int,q=(z:Rat)) (e:(x:Rat)=(b:Rat)*q):((x.fdiv b:Int):Rat)=q:=by
 obtain ⟨z,rfl⟩:=hq;rw[<- aJ] at e;have:=d4.mp e;rw[this,Int.mul_fdiv_cancel_left _ hb]
theorem NC (h:Fr 1 W q):∃z:Int,q=(z:Rat):=by
 obtain ⟨z,e,_⟩:=h;exact ⟨z,by rw[<- e];simp⟩
theorem Lo {z:Int} (h:Fr 1 W (z:Rat)):z.natAbs<=W:=by
 obtain ⟨y,e,b⟩:=h;have:(z:Rat)=(y:Rat):=by rw[<- e];simp
 rw[d4.mp this];simpa using b
theorem Lp (w:∀zs∈ls,zs.length=n) (hk:k < ls.length) (hb:b≠0) (hi:i < ls.length) (hz:∀c,∃z:Int,(dS ls k P*dS ls i c - dS ls i P*dS ls k c) / (b:Rat)=(z:Rat)) (c:Nat) :
  dS (JE ls k P b) i c=if i=k then dS ls k c else (dS ls k P*dS ls i c - dS ls i P*dS ls k c) / (b:Rat):=by
 by_cases e:i=k
 ·rw[if_pos e];unfold dS JE;rw[vM (by rw[ag];exact hk),if_pos e]
 ·rw[if_neg e];by_cases hc:c < n
  ·have hb':(b:Rat)≠0:=λz=>hb (mS z)
   have lk:=w _ (getD_in (e:=[]) hk);have li:=w _ (getD_in (e:=[]) hi)
   have e1:dS (JE ls k P b) i c=(((((ls.getD k []).getD P 0*(ls.getD i []).getD c 0 - (ls.getD i []).getD P 0*(ls.getD k []).getD c 0).fdiv b:Int)):Rat):=by
    unfold JE;rw[dS,vM (by rw[ag];exact hk),if_neg e];rw[ae (l:=List.map _ ls),ay,af hi];show ((((List.zipWith _ ls[i] (ls.getD k [])).getD c 0:Int)):Rat)=_
    have ei:ls.getD i []=ls[i]:=by rw[ae,af hi];rfl
    rw[<- ei];rw[ae (l:=List.zipWith _ _ _),bR,ae (l:=ls.getD i []) (i:=c),ae (l:=ls.getD k []) (i:=c),af (show c < (ls.getD i []).length by lia),af (show c < (ls.getD k []).length by lia)];rfl
   rw[e1];refine Gy hb (hz c) ?_;rw[Mm,aJ,aJ];show _=(b:Rat)*((dS ls k P*dS ls i c - dS ls i P*dS ls k c) / (b:Rat))
   show dS ls k P*dS ls i c - dS ls i P*dS ls k c=_
   grind
  ·rw[DD (IH w hk) (show n<=c by lia),DD w (i:=i) (show n<=c by lia),DD w (i:=k) (show n<=c by lia)];grind
end
section
variable {m k n P:Nat} {a l l2:Nat->Nat->Rat} {pm p p2:Nat->Nat} {d:Rat}
theorem wH.congr (B:wH a m k pm p l d) (hp:∀j,j < k->p2 j=p j) (hl:∀i,i < m->∀c,l2 i c=l i c):wH a m k pm p2 l2 d where
 inj:=B.inj
 rng:=B.rng
 km:=B.km
 d0:=B.d0
 det:=by rw[B.det,cw_congr (f:=λj r=>a r (p j)) (g:=λj r=>a r (p2 j)) λj hj=>by rw[hp j hj]]
 eqs i hi c:=by
  have km:=B.km;rw[B.eqs i hi c,hl i hi c];congr 1;exact aE λj hj=>by rw[hp j hj,hl j (by lia) c]
 unit i hi j hj:=by rw[hp j hj,hl i hi];exact B.unit i hi j hj
end
def Tp (M W:Nat) (q:Rat):Prop:=∃z:Int,q*(M:Rat)=(z:Rat)/\z.natAbs<=W
theorem Tp.of {M V W:Nat} (h:Fr M V q) (hW:V*M<=W):Tp M W q:=by obtain ⟨z,a,b⟩:=h;exact ⟨z,a,ak b hW⟩
theorem Tp.mono (h:Tp M W q) (hW:W<=W'):Tp M W' q:=by obtain ⟨z,a,b⟩:=h;exact ⟨z,a,ak b hW⟩
def Rj (xs:List Rat):List Int:=bW (xs.map nm) (cA (xs.map nm))
theorem vY {xs:List Rat}:0 < cA (xs.map nm):=Ac (by decide) λb hb=>by
 obtain ⟨n,hn,rfl⟩:=aw.mp hb;obtain ⟨x,_,rfl⟩:=aw.mp hn;exact jC x
theorem G9:(((Rj xs).getD c 0:Int):Rat)=xs.getD c 0*((cA (xs.map nm):Int):Rat):=by
 unfold Rj bW;rw[ae,ae,ay,ay];cases e:xs[c]? with
 | none=>show ((0:Int):Rat)=0*_;rw[ck];rfl
 | some x=>exact lE (o7 (aw.mpr ⟨x,ao e,rfl⟩))
section
variable {rows:LR9} {n w i c:Nat} {xs:List Rat}
theorem Qs (hw:∀xs∈rows,xs.length=n) (hc:n<=c):lI rows i c=0:=by
 unfold lI;by_cases h:i < rows.length
 ·have:=hw _ (getD_in (e:=[]) h);rw[ae (l:=rows.getD i []),a9 (by lia)];rfl
 ·rw[ae (l:=rows),a9 (by lia)];rfl
theorem zh (h:Tp M W x):(nm x).2∣(M:Int):=by
 obtain ⟨z,e,b⟩:=h
 exact Fr.den (V:=z.natAbs) (M:=M) ⟨z,e,by
  rcases Nat.eq_zero_or_pos M with h | h
  ·subst h;have:(z:Rat)=0:=by rw[<- e];simp
   rw[mS this];simp
  ·exact cV _ h⟩
theorem FL (h:Tp M W x) (h0:0 < M) (hB:0 < B) (d1:(nm x).2∣B) (d2:B∣(M:Int)):∃t:Int,x*(B:Rat)=(t:Rat)/\t.natAbs<=W:=by
 obtain ⟨z,e,b⟩:=h;obtain ⟨s,es⟩:=d2;refine ⟨(nm x).1*(B / (nm x).2),(lE d1).symm,?_⟩
 have s0:0 < s:=by
  rcases Int.lt_trichotomy s 0 with h | h | h
  ·have:=Int.mul_neg_of_pos_of_neg hB h
   lia
  ·rw[h] at es;lia
  ·exact h
 have e2:(((nm x).1*(B / (nm x).2)*s:Int):Rat)=(z:Rat):=by
  rw[aJ,lE d1,<- e,<- bA,es,aJ];grind
 have e3:=d4.mp e2;have:((nm x).1*(B / (nm x).2)).natAbs*s.natAbs=z.natAbs:=by rw[<- fH,e3]
 have h1:1<=s.natAbs:=by lia
 have:=cV ((nm x).1*(B / (nm x).2)).natAbs h1
 lia
theorem NS (h0:0 < M) (h:∀x∈xs,Tp M W x):cA (xs.map nm)∣(M:Int):=yX (by decide) (Int.one_dvd _) λb hb=>by
 obtain ⟨n,hn,rfl⟩:=aw.mp hb;obtain ⟨x,hx,rfl⟩:=aw.mp hn;exact ⟨jC x,zh (h x hx)⟩
end
open PySem PySem.Spec PyProof.Rows
def OT (l:Addr) (H:Hp) (zs:List Int) (v:V):Prop:=∃q,v=V.ref q/\q≠l/\H q=some (.lst (zs.map V.int))
def Fp (l:Addr) (H:Hp) (p:Addr) (ls:List (List Int)):Prop:=p≠l/\∃xs,H p=some (.lst xs)/\Paired (OT l H) ls xs
theorem OT.same (h:OT l H zs v) (e:aG H H'):OT l H' zs v:=by obtain ⟨q,a,n,b⟩:=h;exact ⟨q,a,n,e _ _ b⟩
theorem ne_old {H:Hp} (h:H l≠none) (n:H r=none):r≠l:=λz=>h (by rw[<- z];exact n)
theorem uF {α β:Type} {F:α->β->Prop}:∀{l1:List α} {l2:List β} (_:Paired F l1 l2) (i:Nat) {x:α} {y:β},F x y->Paired F (l1.set i x) (l2.set i y)
 | _,_,.nil,_,_,_,_=>.nil
 | _,_,.cons _ r,0,_,_,h=>.cons h r
 | _,_,.cons a r,i+1,_,_,h=>.cons a (uF r i h)
theorem Ec {zs:List Int} (h:c < zs.length):GG (zs.map V.int) (c:Int)=some (V.int (zs.getD c 0)):=gF (by rw[ay,ae,af h];rfl)
inductive BG (vs:List V) (H:Hp) (Q:VK) (E9:XK):Prop
 | mk (l p:Addr) (ls:List (List Int)) (k c n:Nat) (b:Int):vs=[.ref p,.int k,.int c,.int b]->H l≠none->Fp l H p ls->ls.length<=1000->k < ls.length->(∀zs∈ls,zs.length=n)->n<=1000->c < n->b≠0->Sz 8999000 b->(∀zs∈ls,∀z∈zs,Sz 8999000 z)->(∀r H',H r=none->aG H H'->Fp l H' r (JE ls k c b)->Q (.ref r) H')->BG  vs H Q E9
theorem KG (K:FG9) {X:Cx} {a b:Expr} {ta:TA} {p pos tpos:Pos} {elts:List Expr} {kk:Nat} (hg:Gl X "zip") (hm:X.mg "zip"=none) (ha:PA X [a,b] ta) (hK:X.K=K:=by rfl) (hs:starEach [a,b] X.env=[(false,eval a X.env),(false,eval b X.env)]:=by rfl) (hs2:starEach [b] X.env=[(false,eval b X.env)]:=by rfl) :
  PI X (.Tuple elts kk tpos) (.Call (.Name "zip" p) [a,b] [] pos) (Qn K ta):=by subst hK;exact C1 hg hm ha hs hs2
section
variable {rows rs rs':LR9} {n P w a:Nat} {ps:List Nat}
end
theorem uk (h:Tp M W x) (h0:0 < M) (h1:M<=2^3995000) (h2:W<=2^3995000):lU x:=by
 refine ⟨?_,?_⟩
 ·obtain ⟨s,e,b⟩:=FL h h0 (jC x) (IU _) (zh h);have e2:(((nm x).1:Int):Rat)=(s:Rat):=by rw[<- e];exact l7 x
  rw[d4.mp e2];exact bD (ak b h2) (eH (by decide) (by decide))
 ·have:=jQ h0 (yN.mp (zh h));show ((x.den:Nat):Int).natAbs < _
  rw[jv];exact bD (ak this h1) (eH (by decide) (by decide))
theorem Tp.mul (h:Tp M W x) (h':Tp M' W' y):Tp (M*M') (W*W') (x*y):=by
 obtain ⟨z,e,b⟩:=h;obtain ⟨z',e',b'⟩:=h';refine ⟨z*z',?_,by rw[fH];exact aL b b'⟩;rw[aJ,<- e,<- e',cC];grind
inductive BD (K:FG9) (vs:List V) (H:Hp) (Q:VK) (E9:XK):Prop
 | mk (p q:Addr) (xs ys:List Rat):vs=[.ref p,.ref q]->bX K H p xs->bX K H q ys->ys.length=xs.length->xs.length<=1000->(∀x∈xs,lU x)->(∀y∈ys,lU y)->(∀r H',H r=none->aG H H'->bX K H' r (List.zipWith (λx y=>x - y) xs ys)->Q (.ref r) H')->BD K vs H Q E9
theorem FI {xs ys:List Rat} (h:ys.length=xs.length):List.zipWith (λx y=>x - y) xs ys=(List.range xs.length).map λi=>xs.getD i 0 - ys.getD i 0:=by
 apply kx;intro i;rw[bR,ay];by_cases hi:i < xs.length
 ·rw[b7 hi,af hi,af (show i < ys.length by lia)];simp [ae,af hi,af (show i < ys.length by lia)]
 ·rw[a9 (show (List.range xs.length).length<=i by simp;lia),a9 (show xs.length<=i by lia)];rfl
theorem Tp.zero:Tp M W 0:=⟨0,by simp,by simp⟩
theorem Tp.add (h:Tp M W x) (h':Tp M W' y):Tp M (W+W') (x+y):=by
 obtain ⟨z,e,b⟩:=h;obtain ⟨z',e',b'⟩:=h';refine ⟨z+z',?_,ak (wJ _ _) (Nat.add_le_add b b')⟩;rw[jO,<- e,<- e'];grind
theorem JD {K:FG9} {g:TG} (Pv:Nat->List V->Hp->Prop) (hz:xs.length<=sizeLine) (h0:Pv 0 [] H) (hl:∀i ys H,i<=xs.length->Pv i ys H->bK K H l xs)
  (hs:∀i x ys H p,xs[i]?=some x->ys.length<=i->Pv i ys H->H p=none->qD σ₀ g tf te (.ref p) (upd H p (.tup [.int i,x])) (λy H'=>Pv (i+1) (ys++[y]) H') (λH'=>Pv (i+1) ys H'))
  (hd:∀ys H,ys.length<=xs.length->Pv xs.length ys H->∀p,H p=none->Q (.ref p) (upd H p (.lst ys))):qL (QR K l) σ₀ g tf te Q H:=by
 refine ⟨λi m ys H=>m=xs.length - i/\i<=xs.length/\ys.length<=i/\Pv i ys H,⟨xs.length,by simp,b8 _,b8 _,h0⟩,?_⟩;rintro i m ys H ⟨rfl,hi,hy,p⟩;have q1:=hl i ys H hi p;by_cases hlt:i < xs.length
 ·refine .inr ⟨⟨xs,xs[i],q1,by simp [hlt]⟩,by lia,λy H'=>Pv (i+1) (ys++[y]) H',λH'=>Pv (i+1) ys H',λy H' p'=>⟨xs.length - (i+1),by lia,rfl,hlt,by rw[aF,fR];lia,p'⟩,λH' p'=>⟨xs.length - (i+1),by lia,rfl,hlt,by lia,p'⟩,λx H' y=>?_⟩;obtain ⟨r,x',rfl,hr,rfl,e1⟩:=y;exact hs i x' ys _ r (e1 xs q1) hy p hr
 ·have e:i=xs.length:=by lia
  subst e;exact .inl ⟨⟨xs,q1,ar _⟩,by lia,hd ys H hy p⟩
section
variable {R rows:LR9} {ps:List Nat} {n a j:Nat}
theorem oX:∀{xs ys:List Rat},xs.length=ys.length->dN xs ys=aM xs.length λc=>xs.getD c 0*ys.getD c 0:=by
 intro xs ys h
 have key:∀k,k<=xs.length->dN (xs.take k) (ys.take k)=aM k λc=>xs.getD c 0*ys.getD c 0:=by
  intro k
  induction k with
  | zero=>intro _;rfl
  | succ k ih =>
   intro hk;rw[xv (by lia) (by lia),ih (by lia)];rfl
 have:=key xs.length (ar _);rwa [aA (ar _),aA (by lia)] at this
end
theorem IC {q:Rat} (h:q.den<=9):q.den∣2520:=by
 have:=q.den_pos;generalize q.den=d at h this;have:d=1\/d=2\/d=3\/d=4\/d=5\/d=6\/d=7\/d=8\/d=9:=by lia
 rcases this with rfl | rfl | rfl | rfl | rfl | rfl | rfl | rfl | rfl <;> decide
theorem Qy (h:Dr 9 q) (hM:2520∣M):Fr M 9 q:=(Fr.own q h.1).dvd (qC (IC h.2) hM)
section
variable {rows:LR9} {ws xs row:List Rat} {n j:Nat}
theorem JY (hc:c < n):(m8 rows n)[c]?=some (rows.map λxs=>xs.getD c 0):=by
 unfold m8;rw[ay,b7 hc];rfl
end
theorem Fr.up {M V M' V':Nat} (h:Fr M V x) (hd:M∣M') (hv:V<=V'):Fr M' V' x:=(h.dvd hd).mono hv
def JH (K:FG9) (P:Addr->Prop) (H:Hp) (xs:List Rat) (v:V):Prop:=∃q,v=.ref q/\P q/\bX K H q xs
section
variable {K:FG9} {P:Addr->Prop} {H H':Hp} {xs:List Rat} {v:V} {b l:Addr}
theorem JH.updL (h:JH K P H xs v) (hl:H l=some (.lst ys)) (nb:∀q,P q->q≠l):JH K P (upd H l o) xs v:=by obtain ⟨q,a,c,d⟩:=h;exact ⟨q,a,c,d.updL hl (nb q c)⟩
theorem cx.ofE {rows:LR9} (g:H l=some (.lst us)) (h:Paired (JH K P H) rows us) (h0:∀q,P q->H0 q=none) (hn:∀q,P q->q≠l):cx K H0 H l rows :=
 ⟨us,g,Paired.imp' (λ_ _ ⟨q,a,c,d⟩=>⟨q,a,h0 q c,d⟩) h,λz=>by
  obtain ⟨_,_,q,e,c,_⟩:=dj h z;cases e;exact hn _ c rfl⟩
end
theorem rR {α β:Type} {F G:α->β->Prop}:∀{l1:List α} {l2:List β},(∀a b,b∈l2->F a b->G a b)->Paired F l1 l2->Paired G l1 l2
 | _,_,_,.nil=>.nil
 | _,_,h,.cons a r=>.cons (h _ _ (by simp) a) (rR (λx y hy=>h x y (by simp [hy])) r)
section
variable {rows rows' R R':LR9} {n w W:Nat} {ps ps':List Nat}
end
section
variable {mv pt R R' S X Y:LR9} {n t m i c:Nat} {ps ps':List Nat} {a:Nat->Nat->Rat}
def QQ (mv pt:LR9) (a c:Nat):Prop:=∃M V:Nat,0 < M/\M<=2^a/\(mv.length+1)*V<=2^c/\GF M V mv/\GF M V pt/\a<=400/\c<=40/\mv.length*(mv.length*(a+c)+4)<=1740/\mv.length*(mv.length*(mv.length*(a+c)+4)+a+c+4)<=8900000
end
theorem cx.toE {K:FG9} (h:cx K H0 H l rows):∃us,H l=some (.lst us)/\Paired (JH K (λq=>H0 q=none/\q≠l) H) rows us:=by
 obtain ⟨us,g,pr,nn⟩:=h;exact ⟨us,g,rR (λxs v hv ⟨q,e,a,b⟩=>⟨q,e,⟨a,λz=>nn (by rw[<- z,<- e];exact hv)⟩,b⟩) pr⟩
theorem BJ {α:Type} {v:α}:∀{l:List α},l.Nodup->v∉l->∀j,(l.set j v).Nodup
 | [],_,_,_=>ky
 | a :: l,h,hn,0=>by
  rw[dG] at h;rw[List.set_cons_zero,dG];exact ⟨λz=>hn (.tail _ z),h.2⟩
 | a :: l,h,hn,j+1=>by
  rw[dG] at h;rw[List.set_cons_succ,dG];refine ⟨λz=>?_,BJ h.2 (λz=>hn (.tail _ z)) j⟩;rcases dO z with z | z
  ·exact h.1 z
  ·exact hn (by rw[z];exact .head _)
structure kq (K:FG9) (A:Addr->Prop) (H:Hp) (n:Nat) (C:V->Rat->Prop) (m p l b q0:Addr) (us ws vs:List V):Prop where
 bag:ig H b
 inn:Inner H b q0
 gm:H m=some (.lst us)
 gp:H p=some (.lst ws)
 gl:H l=some (.lst vs)
 lm:us.length=n
 row:∀x∈us++vs++ws,gV K A H n (C x) x
 nd:(us++vs++ws).Nodup
section
variable {K:FG9} {A:Addr->Prop} {H H':Hp} {n:Nat} {C C':V->Rat->Prop} {m p l b q0 q:Addr} {us ws vs zs:List V} {y:Rat} {v:V}
theorem kq.same (h:kq K A H n C m p l b q0 us ws vs) (e:aG H H'):kq K A H' n C m p l b q0 us ws vs :=
 ⟨h.bag.same e,(e.upto (p:=b)).2 _ h.inn,e _ _ h.gm,e _ _ h.gp,e _ _ h.gl,h.lm,λx hx=>(h.row x hx).same e,h.nd⟩
theorem kq.upto (h:kq K A H n C m p l b q0 us ws vs) (M:Fo A m p l b q0) (u:cF b H H') (B':ig H' b):kq K A H' n C m p l b q0 us ws vs :=
 ⟨B',u.2 _ h.inn,u.other M.mb h.gm,u.other M.pb h.gp,u.other M.lb h.gl,h.lm,λx hx=>(h.row x hx).upto u h.bag M.ab,h.nd⟩
theorem kq.weak (h:kq K A H n C m p l b q0 us ws vs) (w:∀x∈us++vs++ws,∀y,C x y->C' x y):kq K A H n C' m p l b q0 us ws vs :=
 ⟨h.bag,h.inn,h.gm,h.gp,h.gl,h.lm,λx hx=>(h.row x hx).weak (λ_ z=>z) (w x hx),h.nd⟩
theorem kq.put (h:kq K A H n C m p l b q0 us ws vs) (M:Fo A m p l b q0) (aq:A q) (hq:H q=some (.lst zs)) (hv:bS K H y v) (hc:C (.ref q) y) (j:Nat):kq K A (upd H q (.lst (zs.set j v))) n C m p l b q0 us ws vs:=by
 have ne:∀{z},¬A z->z≠q:=λh e=>h (by rw[e];exact aq)
 refine ⟨h.bag.upd h.inn (ne M.ab).symm (ne M.aq).symm,h.inn.upd (ne M.ab).symm,by rw[aZ (ne M.am)];exact h.gm,by rw[aZ (ne M.ap)];exact h.gp,by rw[aZ (ne M.al)];exact h.gl,h.lm,λx hx=>?_,h.nd⟩;by_cases e:x=.ref q
 ·subst e;exact (h.row _ hx).put hq hv hc j
 ·obtain ⟨q1,qs,rfl,a1,r1,l1,c1⟩:=h.row x hx;exact ⟨q1,qs,rfl,a1,r1.updL hq (λz=>e (by rw[z])),l1,c1⟩
theorem kq.set (h:kq K A H n C m p l b q0 us ws vs) (M:Fo A m p l b q0) (hx:gV K A H n (C v) v) (hn:v∉us++vs++ws) (j:Nat):kq K A (upd H m (.lst (us.set j v))) n C m p l b q0 (us.set j v) ws vs:=by
 have mem:∀x∈us.set j v++vs++ws,x=v\/x∈us++vs++ws:=λx hx=>by
  rcases av.mp hx with hx | hx
  ·rcases av.mp hx with hx | hx
   ·rcases dO hx with hx | hx
    ·exact .inr (by simp [hx])
    ·exact .inl hx
   ·exact .inr (by simp [hx])
  ·exact .inr (by simp [hx])
 refine ⟨h.bag.upd h.inn M.mb M.mq,h.inn.upd M.mb,aK,by rw[aZ M.mp.symm];exact h.gp,by rw[aZ M.ml.symm];exact h.gl,by rw[jP];exact h.lm,λx hx'=>?_,?_⟩
 ·rcases mem x hx' with rfl | hx'
  ·exact hx.other h.gm M.am
  ·exact (h.row x hx').other h.gm M.am
 ·have nd:=h.nd;rw[cN] at nd hn ⊢;obtain ⟨n1,n2,n3⟩:=dr.mp nd;refine dr.mpr ⟨?_,n2,λa ha c hc=>?_⟩
  ·rcases nQ j us.length with z | z
   ·exact BJ n1 (λz'=>hn (av.mpr (.inl z'))) j
   ·rw[List.set_eq_of_length_le z];exact n1
  ·rcases dO ha with ha | rfl
   ·exact n3 a ha c hc
   ·exact λz=>hn (av.mpr (.inr (by rw[z];exact hc)))
end
theorem Iv (h0:0 < M) (h1:M<=2^800) (hW:W<=2^140) (h:Fr M W x):lU x :=
 Gx h0 (ak h1 (aD (by decide) (by decide))) (ak hW (aD (by decide) (by decide))) h
theorem Nh {t V c:Nat} (ht:t<=3) (hV:V<=2^20) (hc:c<=9):c*(9^t*V)<=2^140:=by
 have h1:9^t<=9^3:=aD (by decide) ht;have h2:c*(9^t*V)<=9*(9^3*2^20):=aL hc (aL h1 hV);exact ak h2 (ak (show 9*(9^3*2^20)<=2^40 by decide) (aD (by decide) (by decide)))
theorem pR {α:Type} {l:List α} {v:α} (h:l.Nodup) (hn:v∉l):(l++[v]).Nodup:=dr.mpr ⟨h,by simp,λa ha c hc=>by rw[bz.mp hc];exact λz=>hn (by rw[<- z];exact ha)⟩
section
variable {K:FG9} {a:Addr} {xs:List V} {g:TG} {tf:TT} {te:TE} {Q:VK} {σ₀:St} {H:Hp} {α β:Type}
theorem BU (G:Hp->β->V->Prop) (C:β->Prop) (hB:ig H b) (hl:n<=1000) (hG:∀{H' H'' c x},G H' c x->cF b H' H''->ig H' b->G H'' c x)
  (hA:∀{H' c x},G H' c x->∃q,x=V.ref q/\H' q≠none)
  (hs:∀(i:Nat) H' NY NN,i < n->cF b H H'->ig H' b->(∀y c H2,cF b H' H2->ig H2 b->C c->G H2 c y->(∃q,y=V.ref q/\H' q=none)->NY y H2)->qD σ₀ g tf te (.int i) H' NY NN)
  (hd:∀ys cs H' p,H p=none->cF b H H'->ig H' b->H' p=some (.lst ys)->cs.length=n->ys.Nodup->(∀c∈cs,C c)->Paired (G H') cs ys->(∃H2,H2 p=none/\Paired (G H2) cs ys)->Q (.ref p) H'):qL (IK 0 n) σ₀ g tf te Q H:=by
 refine uP (λi ys H'=>cF b H H'/\ig H' b/\∃cs,cs.length=i/\ys.Nodup/\(∀c∈cs,C c)/\Paired (G H') cs ys) (aO (bO (by lia))) ⟨(aG.refl _).upto,hB,[],rfl,ky,(λ_ z=>nomatch z),.nil⟩ ?_ ?_
 ·rintro i ys H' hi hlen ⟨u,B,cs,lc,nd,hc,pr⟩;rw[IT];refine hs i H' _ _ hi u B λy c H2 u2 B2 cc gy ⟨q,ey,nq⟩=>⟨u.trans u2,B2,cs++[c],by simp [lc],pR nd (λz=>by obtain ⟨c',_,gc⟩:=dj pr z;obtain ⟨q',e',h'⟩:=hA gc;rw[ey] at e';cases e';exact h' nq),y8 hc cc,cz (Paired.imp' (λ_ _ z=>hG z u2 B) pr) (.cons gy .nil)⟩
 ·rintro ys H' hy ⟨u,B,cs,lc,nd,hc,pr⟩ p hp;have s:aG H' (upd H' p (.lst ys)):=aG.new hp;exact hd ys cs _ p (u.none B hp) (u.same s) (B.same s) aK lc nd hc (Paired.imp' (λ_ _ z=>hG z s.upto B) pr) ⟨H',hp,pr⟩
end
structure GO (K:FG9) (A:Addr->Prop) (n:Nat) (C:Rat->Prop) (m p l b q0:Addr) (us ws vs:List V) (H0 H:Hp):Prop where
 mix:kq K A H n (λ_=>C) m p l b q0 us ws vs
 gp:H p=some (.lst ws)
 gl:H l=some (.lst vs)
 kp:jk A b m H0 H
section
variable {K:FG9} {A:Addr->Prop} {n:Nat} {C:Rat->Prop} {m p l b q0 q:Addr} {us ws vs:List V} {H0 H H':Hp} {y:Rat} {v:V}
theorem GO.same (h:GO K A n C m p l b q0 us ws vs H0 H) (e:aG H H'):GO K A n C m p l b q0 us ws vs H0 H':=⟨h.mix.same e,e _ _ h.gp,e _ _ h.gl,h.kp.same e⟩
theorem GO.upto (h:GO K A n C m p l b q0 us ws vs H0 H) (M:Fo A m p l b q0) (u:cF b H H') (B:ig H' b):GO K A n C m p l b q0 us ws vs H0 H':=⟨h.mix.upto M u B,u.other M.pb h.gp,u.other M.lb h.gl,h.kp.upto u⟩
theorem GO.row (h:GO K A n C m p l b q0 us ws vs H0 H) (hx:x∈ws\/x∈vs):gV K A H n C x:=h.mix.row x (by rcases hx with hx | hx <;> simp [hx])
theorem GO.put (h:GO K A n C m p l b q0 us ws vs H0 H) (M:Fo A m p l b q0) (hx:V.ref q∈ws\/V.ref q∈vs) (hv:bS K H y v) (hc:C y) (j:Nat):∃zs,H q=some (.lst zs)/\zs.length=n/\GO K A n C m p l b q0 us ws vs H0 (upd H q (.lst (zs.set j v))):=by
 obtain ⟨q',zs,qs,e,a,g,lz,_⟩:=(h.row hx).at;cases e;have ne:∀{z},¬A z->z≠q:=λh e=>h (by rw[e];exact a)
 exact ⟨zs,g,lz,h.mix.put M a g hv hc j,by rw[aZ (ne M.ap)];exact h.gp,by rw[aZ (ne M.al)];exact h.gl,h.kp.upd (.inl a)⟩
end
inductive Eu (K:FG9) (vs:List V) (H:Hp) (Q:VK) (E9:XK):Prop
 | mk (b:Addr) (n w:Nat) (way first:Int):vs=[.ref b,.int n,.int way,.int first,.int w]->ig H b->n<=8->1<=w->w<=1000000->(∀r us H',H r=none->H' r=some (.lst us)->us.length=n->us.Nodup->(∀x∈us,gV K (λq=>H q=none/\q≠r) H' n (Dr (max w 6)) x)->ig H' b->cF b H H'->Q (.ref r) H')->Eu K vs H Q E9
def PtF (n i o w c:Nat) (mv pt lk:LR9):Prop:=∃M V1:Nat,0 < M/\GF M V1 mv/\GF M V1 pt/\GF M V1 lk/\((w<=9/\M=2520/\V1=9^3*9)\/(9 < w/\M<=2^(c*((n+i+o)*n))/\V1=9^3*2^c))
inductive Ew (K:FG9) (vs:List V) (H:Hp) (Q:VK) (E9:XK):Prop
 | mk (b:Addr) (n:Nat):vs=[.ref b,.int n]->ig H b->1<=n->n<=8->(∀r mv pt lk H',fK K H H' r mv pt lk->mv.length=n->pt.length=1->lk.length=1->gQ mv pt lk->GF 1 1 mv->GF 1 1 pt->GF 1 1 lk->ig H' b->cF b H H'->Q (.ref r) H')->Ew K vs H Q E9
theorem yY (M0:0 < M) (hM:M<=2^a) (hn:mv.length<=n0) (hV:(n0+1)*V1<=2^c) (fm:GF M V1 mv) (fp:GF M V1 pt) (h4:a<=400/\c<=40/\n0*(n0*(a+c)+4)<=1740/\n0*(n0*(n0*(a+c)+4)+a+c+4)<=8900000):QQ mv pt a c:=by
 obtain ⟨h1,h2,h3,h5⟩:=h4;have e1:mv.length*(a+c)<=n0*(a+c):=az _ hn;have e2:mv.length*(mv.length*(a+c)+4)<=n0*(n0*(a+c)+4):=aL hn (by lia);have e3:mv.length*(mv.length*(mv.length*(a+c)+4)+a+c+4)<=n0*(n0*(n0*(a+c)+4)+a+c+4):=aL hn (by lia);exact ⟨M,V1,M0,hM,ak (az _ (by lia)) hV,fm,fp,h1,h2,by lia,by lia⟩
def MB (K:FG9):Sp:=λvs H Q _=>∃b:Addr,vs=[.ref b]/\ig H b /\
 ∀r mv pt lk H',fK K H H' r mv pt lk->6<=mv.length->gQ mv pt lk->GF 1 (9^3) mv->GF 1 (9^3) pt->GF 1 (9^3) lk->ig H' b->cF b H H'->Q (.ref r) H'
section
variable {rows fs ls:LR9} {n r M W Wv Wb k P:Nat} {Pm Y Z B E a:Nat->Nat->Rat} {d:Rat} {ps:List Nat} {rs:LR9}
end
section
variable {K:FG9} {a:Addr} {xs:List V} {g:TG} {tf:TT} {te:TE} {Q:VK} {σ₀:St} {H:Hp} {α β:Type}
theorem BR {F:Hp->α->V->Prop} (G:Hp->β->V->Prop) (f:α->β) (hx:H a=some (.lst xs)) (pf:Paired (F H) as xs) (hl:as.length<=1000)
  (hF:∀{H H' c x},F H c x->aG H H'->F H' c x) (hG:∀{H H' c x},G H c x->aG H H'->G H' c x) (hA:∀{H' c x},G H' c x->∃q,x=V.ref q/\H' q≠none)
  (hs:∀(i:Nat) c x H' NY NN,as[i]?=some c->aG H H'->F H' c x->(∀y H2,aG H' H2->G H2 (f c) y->(∃q,y=V.ref q/\H' q=none)->NY y H2)->qD σ₀ g tf te x H' NY NN)
  (hd:∀ys H' p,H p=none->aG H H'->H' p=some (.lst ys)->ys.Nodup->(∀y∈ys,∃q,y=V.ref q/\H q=none/\q≠p)->Paired (G H') (as.map f) ys->Q (.ref p) H'):qL (Mi K a) σ₀ g tf te Q H:=by
 have lx:=pf.length;refine iG (K:=K) (xs:=xs) (λi ys H'=>aG H H'/\ys.Nodup/\(∀y∈ys,∃q,y=V.ref q/\H q=none)/\Paired (G H') ((as.take i).map f) ys) (aO (bO (by lia))) ⟨aG.refl _,ky,(λ_ z=>nomatch z),.nil⟩ (λi ys H' _ ⟨s,_⟩=>bK.of (s _ _ hx)) ?_ ?_
 ·rintro i x ys H' hx' hlen ⟨s,nd,hn,pr⟩;obtain ⟨c,ec,hc⟩:=cH pf hx';refine hs i c x H' _ _ ec s (hF hc s) λy H2 s2 gy ⟨q,ey,nq⟩=>⟨s.trans s2,pR nd (λz=>?_),y8 hn ⟨q,ey,s.none nq⟩,?_⟩
  ·obtain ⟨c',_,gc⟩:=dj pr z;obtain ⟨q',e',h'⟩:=hA gc;rw[ey] at e';cases e';exact h' nq
  ·rw[take_snoc ec,cn];exact cz (Paired.imp' (λ_ _ z=>hG z s2) pr) (.cons gy .nil)
 ·rintro ys H' hy ⟨s,nd,hn,pr⟩ p hp;rw[aA (by lia)] at pr;refine hd ys _ p (s.none hp) (s.trans (aG.new hp)) aK nd (λy hy=>?_) (Paired.imp' (λ_ _ z=>hG z (aG.new hp)) pr);obtain ⟨q,e,nq⟩:=hn y hy;refine ⟨q,e,nq,λz=>?_⟩;obtain ⟨c',_,gc⟩:=dj pr hy;obtain ⟨q',e',h'⟩:=hA gc;rw[e] at e';cases e';exact h' (by rw[z];exact hp)
end
structure S5 (K:FG9) (H0 H:Hp) (n:Nat) (fd:Addr) (L:List (Addr×List V)):Prop where
 gf:H fd=some (.lst (L.map λe=>V.ref e.1))
 nf:H0 fd=none
 ls:∀e∈L,H0 e.1=none/\e.1≠fd/\H e.1=some (.lst e.2)
 nd:(L.map λe=>e.1).Nodup
 rows:∀e∈L,∀x∈e.2,gV K (λq=>(H0 q=none/\q≠fd)/\q∉L.map λe=>e.1) H n (Fr 1 1) x
 rd:(L.flatMap λe=>e.2).Nodup
section
variable {K:FG9} {H0 H H1:Hp} {n:Nat} {fd q:Addr} {L:List (Addr×List V)} {us:List V}
theorem S5.snoc (h:S5 K H0 H n fd L) (s0:aG H0 H) (s:aG H H1) (hq:H q=none) (gq:H1 q=some (.lst us)) (nd:us.Nodup) (hr:∀x∈us,gV K (λz=>H z=none/\z≠q) H1 n (Fr 1 1) x):S5 K H0 (upd H1 fd (.lst ((L.map λe=>V.ref e.1)++[.ref q]))) n fd (L++[(q,us)]):=by
 have qf:q≠fd:=λz=>by rw[z,h.gf] at hq;cases hq
 have old:∀{z},z∈(L.map λe=>e.1)->H z≠none:=λhz=>by
  obtain ⟨e,he,rfl⟩:=aw.mp hz;rw[(h.ls e he).2.2];exact λz=>nomatch z
 have g1:=s _ _ h.gf;refine ⟨by rw[aK,cn];rfl,h.nf,λe he=>?_,?_,λe he x hx=>?_,?_⟩
 ·rcases av.mp he with he | he
  ·obtain ⟨a,b,c⟩:=h.ls e he;exact ⟨a,b,by rw[aZ b];exact s _ _ c⟩
  ·rw[bz.mp he];exact ⟨s0.none hq,qf,by rw[aZ qf];exact gq⟩
 ·rw[cn];exact pR h.nd λz=>old z hq
 ·have key:gV K (λz=>(H0 z=none/\z≠fd)/\z∉(L++[(q,us)]).map λe=>e.1) H1 n (Fr 1 1) x:=by
   rcases av.mp he with he | he
   ·obtain ⟨z,qs,e1,⟨e2,e3⟩,e4,e5⟩:=h.rows e he x hx;refine ⟨z,qs,e1,⟨e2,λhz=>?_⟩,e4.same s,e5⟩;rw[cn] at hz;rcases av.mp hz with hz | hz
    ·exact e3 hz
    ·have hz:z=q:=bz.mp hz;obtain ⟨_,gg,_⟩:=e4;rw[hz,hq] at gg;cases gg
   ·rw[bz.mp he] at hx;refine (hr x hx).weak (λz hz=>⟨⟨s0.none hz.1,λy=>by rw[y] at hz;rw[h.gf] at hz;exact absurd hz.1 (λw=>nomatch w)⟩,λy=>?_⟩) (λ_ w=>w);rw[cn] at y;rcases av.mp y with y | y
    ·exact old y hz.1
    ·exact hz.2 (bz.mp y)
  exact key.other g1 (λz=>z.1.2 rfl)
 ·rw[List.flatMap_append];refine dr.mpr ⟨h.rd,by simpa using nd,λx hx y hy z=>?_⟩;obtain ⟨e,he,hx⟩:=List.mem_flatMap.mp hx;obtain ⟨w,qs,e1,_,⟨_,gg,_⟩,_⟩:=h.rows e he x hx;obtain ⟨w',_,e1',⟨hw,_⟩,_⟩:=hr y (by simpa using hy);rw[<- z,e1] at e1';cases e1';rw[hw] at gg;cases gg
end
section
variable {mv pt lk pus:LR9} {st pu go:List Rat} {n t T c:Nat}
theorem K1 (D:gQ mv pt lk) (h:st.length=mv.length) (hp:pu.length=pt.length) (hc:c < mv.length):(gE mv pt st pu).getD c 0=aM mv.length (λj=>lI mv c j*st.getD j 0)+aM pt.length λi=>pu.getD i 0*lI pt i c:=by
 have wc:=D.mw _ (bu hc)
 have e:(gE mv pt st pu).getD c 0=dN (mv[c]++pt.map λxs=>xs.getD c 0) (st++pu):=by
  unfold gE;rw[ae,bR,af hc,JY hc];rfl
 rw[e,sF (by lia),oX (by lia),oX (by rw[ag];lia),wc,ag];congr 1
 ·refine aE λj _=>?_
  unfold lI;rw[ae (l:=mv),af hc];rfl
 ·refine aE λi hi=>?_
  rw[cT];congr 1;unfold lI;rw[ae,ay,ae (l:=pt),af hi];rfl
theorem Qt:∀{pus:LR9},(∀xs∈pus,xs.length=i)->pus.flatten.length=pus.length*i:=E3
end
structure OV (mv pt:LR9) (st pu:List Rat):Prop where
 f2:∀xs∈mv,D4 xs st
 part:∀kk,∀x∈nextK mv pt st pu kk,lU x
 su:∀u∈pu,lU u
 sp:∀row∈pt,∀y∈row,lU y
 mul:∀u∈pu,∀row∈pt,∀y∈row,lU (u*y)
inductive Et (K:FG9) (vs:List V) (H:Hp) (Q:VK) (E9:XK):Prop
 | mk (r s u:Addr) (H0:Hp) (mv pt lk:LR9) (st pu:List Rat):vs=[.ref r,.ref s,.ref u]->fK K H0 H r mv pt lk->gQ mv pt lk->bX K H s st->bX K H u pu->st.length=mv.length->pu.length=pt.length->OV mv pt st pu->(∀t H',H t=none->aG H H'->bX K H' t (gE mv pt st pu)->Q (.ref t) H')->Et K vs H Q E9
structure Bd (mv pt:LR9) (M1 M2 V a1 a2 c:Nat):Prop where
 m1:0 < M1
 m2:0 < M2
 b1:M1<=2^a1
 b2:M2<=2^a2
 gm:GF M1 V mv
 gp:GF M2 V pt
 vc:(mv.length+4)*V<=2^c
section
variable {mv pt lk pus:LR9} {st pu go:List Rat} {M1 M2 V a1 a2 c N Np p t T ν:Nat}
theorem Bd.v1 (B:Bd mv pt M1 M2 V a1 a2 c):V<=2^c:=ak (cM _ (by lia)) B.vc
theorem DB (h0:0 < M) (h1:M<=2^a) (h2:W<=2^b) (hab:a+b<=3990000) (h:Fr M W x):lU x:=by
 refine uk (Tp.of h (ar _)) h0 (ak h1 (aD (by decide) (by lia))) ?_;refine ak (aL h2 h1) ?_;rw[<- aR];exact aD (by decide) (by lia)
theorem Bd.next (B:Bd mv pt M1 M2 V a1 a2 c) (D:gQ mv pt lk) (ls:st.length=mv.length) (lu:pu.length=pt.length) (N0:0 < N) (dv:M2*Np∣M1*N) (hs:∀x∈st,Fr N (2^p) x) (hu:∀x∈pu,Fr Np (2^p) x) (hN:N<=2^ν) (sz:a1+ν+c+p<=3900000) (sp2:a2+c<=3900000):OV mv pt st pu/\∀x∈gE mv pt st pu,Fr (M1*N) (2^(c+p)) x:=by
 have V1:=B.v1;have i4:=D.i4;have MN0:0 < M1*N:=ba B.m1 N0;have MN:M1*N<=2^(a1+ν):=by rw[aR];exact aL B.b1 hN
 have Np0:0 < Np:=by
  rcases Nat.eq_zero_or_pos Np with z | z
  ·rw[z,IM] at dv;have:=Nat.eq_zero_of_zero_dvd dv
   lia
  ·exact z
 have NpMN:Np<=M1*N:=ak (cM _ B.m2) (jQ MN0 dv)
 have one:∀u∈pu,∀row∈pt,∀y∈row,Fr (M1*N) (V*2^p) (u*y):=λu hu' row hr y hy=>by
  have:=(B.gp row hr y hy).mul (hu u hu');rw[cT];exact this.dvd dv
 have part:∀kk,kk<=pt.length->∀x∈nextK mv pt st pu kk,Fr (M1*N) (2^(c+p)) x:=λkk hkk x hx=>by
  obtain ⟨j,hj,e⟩:=bU hx;rw[jK] at hj;have e2:=z8 (mv:=mv) (pt:=pt) (st:=st) (pu:=pu) (k:=kk) hj;rw[ae,af (by rw[jK];exact hj)] at e2;have e3:x=dN (mv[j]++(pt.map λxs=>xs.getD j 0).take kk) (st++pu.take kk):=by rw[<- e,<- e2];rfl
  have wj:=D.mw _ (bu hj);rw[e3,sF (by lia)];have f1:=Fr.dot (B.gm _ (bu hj)) hs;rw[wj] at f1
  have f2:Fr (M1*N) (4*(V*2^p)) (dN ((pt.map λxs=>xs.getD j 0).take kk) (pu.take kk)):=by
   have hc:∀y∈(pt.map λxs=>xs.getD j 0).take kk,Fr M2 V y:=λy hy=>by
    obtain ⟨xs,hxs,rfl⟩:=aw.mp (b9 hy);rw[ae];cases e:xs[j]? with
    | none=>exact Fr.zero
    | some z=>exact B.gp xs hxs z (ao e)
   have:=Fr.dot (ys:=pu.take kk) hc (λy hy=>hu y (b9 hy));refine (this.dvd dv).mono (az _ ?_);rw[cW,ag]
   lia
  refine (f1.add f2).mono ?_;rw[<- L6,aR,<- di];exact az _ B.vc
 have szb:∀{x:Rat},Fr (M1*N) (2^(c+p)) x->lU x:=λh=>DB MN0 MN (ar _) (by lia) h
 have all:∀kk,∀x∈nextK mv pt st pu kk,Fr (M1*N) (2^(c+p)) x:=λkk x hx=>by
  rcases nQ pt.length kk with z | z
  ·have e:nextK mv pt st pu kk=nextK mv pt st pu pt.length:=(sY (by lia) (by lia)).trans (sY (ar _) (by lia)).symm;rw[e] at hx;exact part _ (ar _) x hx
  ·exact part kk z x hx
 refine ⟨⟨λxs hx=>⟨a1,c,ν,p,⟨M1,V,B.m1,B.b1,V1,B.gm xs hx⟩,⟨N,2^p,N0,hN,ar _,hs⟩,by lia⟩,λkk x hx=>szb (all kk x hx),λu hu'=>?_,λrow hr y hy=>?_,λu hu' row hr y hy=>szb ((one u hu' row hr y hy).mono (by rw[aR];exact az _ V1))⟩,λx hx=>?_⟩
 ·exact DB Np0 (ak NpMN MN) (ar _) (by lia) (hu u hu')
 ·exact DB B.m2 B.b2 V1 (by lia) (B.gp row hr y hy)
 ·rw[<- sY (k:=pt.length) (ar _) (by lia)] at hx;exact all _ x hx
end
section
variable {mv pt lk pus:LR9} {st pu go:List Rat} {M1 M2 V a1 a2 c N Np p t T ν k:Nat}
theorem EL (h:M<=2^a) (hN:N<=2^ν):M^t*N<=2^(a*t+ν):=by
 rw[aR,Nat.pow_mul];exact aL (Nat.pow_le_pow_left h t) hN
theorem Bd.states (B:Bd mv pt M1 M2 V a1 a2 c) (D:gQ mv pt lk) (ls:st.length=mv.length) (wp:∀xs∈pus,xs.length=pt.length) (N0:0 < N) (hN:N<=2^ν) (dv:M2*Np∣N) (hs:∀x∈st,Fr N (2^p) x) (hu:∀xs∈pus,∀x∈xs,Fr Np (2^p) x) (sz:a1*(pus.length+1)+ν+c*(pus.length+1)+p<=3900000) (sp2:a2+c<=3900000):∀k,k<=pus.length->(∀x∈mB mv pt st pus k,Fr (M1^k*N) (2^(c*k+p)) x)/\∀pu,pus[k]?=some pu->OV mv pt (mB mv pt st pus k) pu:=by
 have key:∀k,k<=pus.length->(∀x∈mB mv pt st pus k,Fr (M1^k*N) (2^(c*k+p)) x)->∀pu,pus[k]?=some pu->OV mv pt (mB mv pt st pus k) pu/\∀x∈gE mv pt (mB mv pt st pus k) pu,Fr (M1*(M1^k*N)) (2^(c+(c*k+p))) x:=λk hk f pu hpu=>by
  have mp:=ao hpu;have kl:=(aU.mp hpu).1;have e1:a1*(k+1)<=a1*(pus.length+1):=cU _ (by lia);have e2:c*(k+1)<=c*(pus.length+1):=cU _ (by lia);rw[L0,Nat.mul_one] at e1 e2;refine B.next D (vg ls hk) (wp pu mp) (ba (Nat.pow_pos B.m1) N0) ?_ f (λx hx=>(hu pu mp x hx).mono (aD (by decide) (Nat.le_add_left _ _))) (EL B.b1 hN) (by lia) sp2;exact qC dv (qC (dM _ _) (dM _ _))
 have fr:∀k,k<=pus.length->∀x∈mB mv pt st pus k,Fr (M1^k*N) (2^(c*k+p)) x:=by
  intro k
  induction k with
  | zero =>
   intro _ x hx;rw[Nat.pow_zero,wI,IM,Nat.zero_add];exact hs x hx
  | succ k ih =>
   intro hk x hx;have e:=af (show k < pus.length by lia);rw[oP e] at hx;have:=(key k (by lia) (ih (by lia)) _ e).2 x hx;rw[<- di,dJ M1,<- iQ,show c+(c*k+p)=c*(k+1)+p by rw[L0];lia] at this;exact this
 exact λk hk=>⟨fr k hk,λpu hpu=>(key k hk (fr k hk) pu hpu).1⟩
end
section
variable {X:Cx}
theorem JF (hc:X.calm=true):qM X (.builtin "max") (λxs H Q=>∃(p:Addr) (ns:List Int),xs=[.ref p]/\bK X.K H p (ns.map V.int)/\0 < ns.length/\∀M,M∈ns->(∀a,a∈ns->a<=M)->Q (.int M) H):=by
 intro pins s σ H xs us Q I r h;obtain ⟨p,ns,rfl,hp,hne,q⟩:=h;obtain ⟨u,rfl,ru⟩:=vals1 r;cases ru;obtain ⟨its,r2,pl,_⟩:=I.list hp;have hi:=intsAre_of r2;have hl:=pl.isList;obtain ⟨xs,e⟩:=hi.allInts.items
 have hns:ns=xs.toList.map (·.1):=by
  rw[<- hi.numsOf,<- nums_intItems,<- e]
 have hsz:0 < xs.size:=by
  have h3:=hne;rw[hns,ag,Array.length_toList] at h3;exact h3
 rw[e] at hl;refine max_intList (I.ok.hd hc) hl hsz λv h' tk hv hk=>?_
 obtain ⟨t,rfl⟩:=intItems_at hv;obtain ⟨h1,h2⟩:=argBest_gt (numAt xs) (xs.size - 1);refine ⟨.int _,H,I.kept hk,⟨_,rfl⟩,q _ ?_ λa ha=>?_⟩
 ·rw[hns,numAt_eq];exact getD_in (by rw[ag,Array.length_toList];lia)
 ·rw[hns] at ha;obtain ⟨j,hj,rfl⟩:=mem_getD ha;rw[ag,Array.length_toList] at hj;rw[<- numAt_eq];exact h2 j (by lia)
end
theorem BH {α β:Type} {f:α->β}:∀{l1:List α} {l2:List β},Paired (λa b=>b=f a) l1 l2->l2=l1.map f
 | _,_,.nil=>rfl
 | _,_,.cons h r=>by rw[h,BH r];rfl
def SK (mv pt:LR9) (T:Nat):Prop:=T<=12/\(T<=3\/((∀xs∈mv++pt,∀x∈xs,x.den<=9/\x.num.natAbs < 1000)/\(5 < mv.length->T<=mv.length)/\(3<=mv.length->mv.length<=5->T<=mv.length+1)))
def Q0 (x:Rat):Int:=(x.den:Int)+(x.num.natAbs:Int) / 1000*9
theorem NR (h:Q0 x<=9):x.den<=9/\x.num.natAbs < 1000:=by
 unfold Q0 at h;have:=x.den_pos
 lia
inductive By (K:FG9) (vs:List V) (H:Hp) (Q:VK) (E9:XK):Prop
 | mk (b r:Addr) (H0:Hp) (mv pt lk:LR9):vs=[.ref b,.ref r]->ig H b->H0 b≠none->fK K H0 H r mv pt lk->gQ mv pt lk->(∀xs∈mv++pt,∀x∈xs,lU x)->(∀(T:Nat) H',SK mv pt T->ig H' b->cF b H H'->Q (.int T) H')->By K vs H Q E9
inductive Er (K:FG9) (vs:List V) (H:Hp) (Q:VK) (E9:XK):Prop
 | mk (b r:Addr) (T w:Nat) (H0:Hp) (mv pt lk:LR9):vs=[.ref b,.ref r,.int T,.int w]->T<=100->1<=w->w<=1000->ig H b->H0 b≠none->fK K H0 H r mv pt lk->gQ mv pt lk->(∀p pus H',H p=none->cx K H H' p pus->pus.length=T->(∀xs∈pus,xs.length=pt.length/\∀x∈xs,Dr (max w 6) x)->ig H' b->cF b H H'->Q (.ref p) H')->Er K vs H Q E9
def DrP (pt:LR9) (T w:Nat) (pus:LR9):Prop:=pus.length=T/\∀xs∈pus,xs.length=pt.length/\∀x∈xs,Dr (max w 6) x
theorem K0 (ws vs:List V) (M1 M2 M3:Nat):∃μ:V->Nat,(∀x∈ws,μ x=M2)/\(∀x∈vs,x∉ws->μ x=M3)/\(∀x,x∉ws->x∉vs->μ x=M1)/\∀x,μ x=M1\/μ x=M2\/μ x=M3:=by
 classical
 refine ⟨λx=>if x∈ws then M2 else if x∈vs then M3 else M1,λx h=>if_pos h,λx h h'=>?_,λx h h'=>?_,λx=>?_⟩
 ·show (if x∈ws then M2 else if x∈vs then M3 else M1)=M3
  rw[if_neg h',if_pos h]
 ·show (if x∈ws then M2 else if x∈vs then M3 else M1)=M1
  rw[if_neg h,if_neg h']
 ·show (if x∈ws then M2 else if x∈vs then M3 else M1)=M1\/(if x∈ws then M2 else if x∈vs then M3 else M1)=M2\/(if x∈ws then M2 else if x∈vs then M3 else M1)=M3
  by_cases h:x∈ws
  ·rw[if_pos h];exact .inr (.inl rfl)
  ·rw[if_neg h];by_cases h':x∈vs
   ·rw[if_pos h'];exact .inr (.inr rfl)
   ·rw[if_neg h'];exact .inl rfl
theorem kq.apart {K:FG9} (h:kq K A H n C m p l b q0 us ws vs):(∀x∈us,x∉ws/\x∉vs)/\∀x∈vs,x∉ws:=by
 obtain ⟨n1,n2,n3⟩:=dr.mp h.nd;obtain ⟨n4,n5,n6⟩:=dr.mp n1;exact ⟨λx hx=>⟨λz=>n3 x (av.mpr (.inl hx)) x z rfl,λz=>n6 x hx x z rfl⟩,λx hx z=>n3 x (av.mpr (.inr hx)) x z rfl⟩
theorem kq.fr3 {K:FG9} (h:kq K A H n (λ_=>Dr (2^c)) m p l b q0 us ws vs):∃M1 M2 M3,0 < M1/\0 < M2/\0 < M3/\M1<=2^(c*(n*n))/\M2<=2^(c*(ws.length*n))/\M3<=2^(c*(vs.length*n))/\(∀x∈us,gV K A H n (Fr M1 (2^c)) x)/\(∀x∈ws,gV K A H n (Fr M2 (2^c)) x)/\∀x∈vs,gV K A H n (Fr M3 (2^c)) x:=by
 have one:∀l:List V,(∀x∈l,x∈us++vs++ws)->∃M,0 < M/\M<=2^(c*(l.length*n))/\∀x∈l,gV K A H n (Fr M (2^c)) x:=λl hl=>by
  obtain ⟨ra,pa,la,ha⟩:=zH λx hx=>h.row x (hl x hx)
  obtain ⟨M,m0,m1,m2⟩:=MG (c:=c) (n:=n) (rows:=ra) ha;exact ⟨M,m0,by rw[la] at m1;exact m1,FY pa λqs hq=>⟨(ha qs hq).1,m2 qs hq⟩⟩
 obtain ⟨M1,a1,a2,a3⟩:=one us λx hx=>by simp [hx]
 obtain ⟨M2,b1,b2,b3⟩:=one ws λx hx=>by simp [hx]
 obtain ⟨M3,c1,c2,c3⟩:=one vs λx hx=>by simp [hx]
 rw[h.lm] at a2;exact ⟨M1,M2,M3,a1,b1,c1,a2,b2,c2,a3,b3,c3⟩
inductive BC (K:FG9) (xs:List V) (H:Hp) (Q:VK) (E9:XK):Prop
 | mk (b m p l q0:Addr) (n V1:Nat) (μ:V->Nat) (A:Addr->Prop) (us ws vs:List V):xs=[.ref b,.ref m,.ref p,.ref l]->Fo A m p l b q0->kq K A H n (λx=>Fr (μ x) V1) m p l b q0 us ws vs->n<=8->ws.length<=4->vs.length<=4->(∀x,0 < μ x)->(∀x,μ x<=2^800)->(∃M,∀x,x∉ws->x∉vs->μ x=M)->V1<=2^20->(∀q,H q=none->A q)->(∀r us' H',H' r=some (.tup [.ref m,.ref p,.ref l])->kq K A H' n (λx=>Fr (μ x) (9^3*V1)) m p l b q0 us' ws vs->jk A b m H H'->Q (.ref r) H')->BC K xs H Q E9
def TC (n i o w c:Nat) (mv pt lk:LR9):Prop:=∃M1 M2 M3 V1:Nat,0 < M1/\0 < M2/\0 < M3/\GF M1 V1 mv/\GF M2 V1 pt/\GF M3 V1 lk/\((w<=9/\M1=2520/\M2=2520/\M3=2520/\V1=9^3*9)\/(9 < w/\M1<=2^(c*(n*n))/\M2<=2^(c*(i*n))/\M3<=2^(c*(o*n))/\V1=9^3*2^c))
inductive BA (K:FG9) (vs:List V) (H:Hp) (Q:VK) (E9:XK):Prop
 | mk (b:Addr) (n i o w c:Nat):vs=[.ref b,.int n,.int i,.int o,.int w]->ig H b->n<=8->i<=4->o<=4->1<=w->w<=1000000->max w 6<=2^c->c<=20->c*((n+i+o)*n)<=800->(∀r mv pt lk H',fK K H H' r mv pt lk->mv.length=n->pt.length=i->lk.length=o->gQ mv pt lk->TC n i o w c mv pt lk->ig H' b->cF b H H'->Q (.ref r) H')->BA K vs H Q E9
def Rg (mv pt:LR9) (w:Nat):Prop:=(w<=9/\Bd mv pt 1 1 (9^3) 0 0 14)\/(w<=9/\mv.length<=5/\Bd mv pt 2520 2520 (9^3*9) 12 12 16)\/(w=1000/\mv.length<=2/\∃M1 M2,Bd mv pt M1 M2 (9^3*2^20) 80 160 33)
def MD (K:FG9):Sp:=λvs H Q _=>∃b:Addr,vs=[.ref b]/\ig H b /\
 ∀t r (w a c:Nat) mv pt lk H',H' t=some (.tup [.ref r,.int w])->fK K H H' r mv pt lk->gQ mv pt lk->LQ mv pt lk->QQ mv pt a c->Rg mv pt w->1<=w->w<=1000->ig H' b->cF b H H'->Q (.ref t) H'
theorem Gu {M V:Nat} (h:GF M V l) (k:Nat):GF (k*M) V l:=λxs hx x hx'=>(h xs hx x hx').scaleL k
theorem TC.n {n i o w c:Nat} (h:TC n i o w c mv pt lk):PtF n i o w c mv pt lk:=by
 obtain ⟨M1,M2,M3,V1,a1,a2,a3,f1,f2,f3,hc⟩:=h;rcases hc with ⟨w9,rfl,rfl,rfl,e⟩ | ⟨w9,e1,e2,e3,e⟩
 ·exact ⟨2520,V1,by decide,f1,f2,f3,.inl ⟨w9,rfl,e⟩⟩
 ·refine ⟨M1*M2*M3,V1,ba (ba a1 a2) a3,?_,?_,?_,.inr ⟨w9,?_,e⟩⟩
  ·have:=Gu f1 (M2*M3);rwa [show M2*M3*M1=M1*M2*M3 by rw[dJ (M2*M3),di]] at this
  ·have:=Gu f2 (M1*M3);rwa [show M1*M3*M2=M1*M2*M3 by rw[di,dJ M3,di]] at this
  ·exact Gu f3 (M1*M2)
  ·refine ak (aL (aL e1 e2) e3) ?_;rw[<- aR,<- aR,show c*((n+i+o)*n)=c*(n*n)+c*(i*n)+c*(o*n) by rw[L6,L6,L0,L0]];exact ar _
def JL (ws:List Rat) (T:Nat):List Rat:=(List.replicate T ws).flatten
section
variable {rows more R:LR9} {ws wm x x1 x2 x' y g g1 g2:List Rat} {n:Nat} {ps:List Nat} {c:Rat}
theorem vb {f:Nat->Rat}:∀k,(∀j,j < k->0<=f j)->0<=aM k f
 | 0,_=>Cj
 | k+1,h=>by
  have h1:=vb k λj hj=>h j (by lia)
  have h2:=h k (by lia);have e:aM (k+1) f=aM k f+f k:=rfl;rw[e];grind
theorem Kc {a w:Rat} (h:0 < w):0<=a*a / w:=by
 have h1:0<=a*a:=by
  rcases Rat.le_total (a:=0) (b:=a) with z | z
  ·exact dW z z
  ·have:0<=-a:=by grind
   have:=dW this this;grind
 rw[bf];exact dW h1 (cm (Rat.inv_pos.mpr h))
end
def SM (xs:List Rat):Prop:=∃M,qo M (xs.map nm)
theorem Ko (h0:0 < M) (h1:M<=2^4300000) (h2:W<=2^4300000) (h:∀x∈xs,Tp M W x):SM xs:=by
 refine ⟨M,by lia,?_,λy hy=>?_⟩
 ·show ((M:Nat):Int).natAbs < 2^4400000
  rw[jv];exact bD h1 (eH (by decide) (by decide))
 ·obtain ⟨x,hx',rfl⟩:=aw.mp hy;have t:=h x hx';refine ⟨jC x,zh t,?_⟩;obtain ⟨s,e,b⟩:=FL t h0 (jC x) (IU _) (zh t);have e2:(((nm x).1:Int):Rat)=(s:Rat):=by rw[<- e];exact l7 x
  rw[d4.mp e2];exact bD (ak b h2) (eH (by decide) (by decide))
inductive HL (K:FG9) (vs:List V) (H:Hp) (Q:VK) (E9:XK):Prop
 | mk (p q:Addr) (xs ys:List Rat):vs=[.ref p,.ref q]->bX K H p xs->bX K H q ys->ys.length=xs.length->xs.length<=1000->SM xs/\SM ys->(∀r H',aG H H'->bS K H' (dN xs ys) (.ref r)->Q (.ref r) H')->HL K vs H Q E9
inductive Ey (vs:List V) (H:Hp) (Q:VK) (E9:XK):Prop
 | mk (p:Addr) (us:List V) (zss:List (List V)):vs=[.ref p]->H p=some (.lst us)->Paired (λzs u=>∃q,u=V.ref q/\H q=some (.lst zs)) zss us->zss.flatten.length<=1000->(∀r H',H r=none->aG H H'->H' r=some (.lst zss.flatten)->Q (.ref r) H')->Ey vs H Q E9
theorem Cq (ws:List Rat) (T:Nat):(JL ws T).length=T*ws.length:=by
 unfold JL
 induction T with
 | zero=>simp
 | succ T ih=>rw[gU,fG,aF,ih,d6];lia
theorem O3 (h:w∈JL ws T):w∈ws:=by
 unfold JL at h;obtain ⟨l,hl,hw⟩:=cJ.mp h;rw[Rb hl] at hw;exact hw
theorem zJ {α β:Type} {F:α->V->Prop} {G:β->V->Prop} {b:β} (h:∀a y,F a y->G b y):∀{as:List α} {ys:List V},Paired F as ys->Paired G (List.replicate as.length b) ys
 | _,_,.nil=>.nil
 | _,_,.cons x t=>.cons (h _ _ x) (zJ h t)
theorem HV {α β:Type} {G:α->β->Prop} {a:α} {b:β} (h:G a b):∀n:Nat,Paired G (List.replicate n a) (List.replicate n b)
 | 0=>.nil
 | n+1=>.cons h (HV h n)
theorem lZ {α β:Type} {F:α->β->Prop}:∀{Rs:List (List α)} {zss:List (List β)},Paired (λR zs=>Paired F R zs) Rs zss->Paired F Rs.flatten zss.flatten
 | _,_,.nil=>.nil
 | _,_,.cons h t=>cz h (lZ t)
section
variable {mv pt lk pus:LR9} {ws go g1 g2:List Rat} {M1 M2 V a1 a2 c T0 n0 b B u T E:Nat}
theorem p2 (h:a<=b):2^a<=2^b:=aD (by decide) h
end
theorem KE {t b:Int} (h:z*(b:Rat)=(t:Rat)) (hb:0 < b) (ht:0 < t):0 < z:=by
 have h1:(0:Rat) < (b:Rat):=cI.mpr hb;have h2:(0:Rat) < (t:Rat):=cI.mpr ht;by_cases q:0 < z
 ·exact q
 ·have:=jm (Rat.not_lt.mp q) (cm h1);rw[h,ck] at this;exact absurd h2 (Rat.not_lt.mpr this)
def gW (N:Nat) (a:Nat->Nat->Rat) (z:Nat->Rat):Rat:=aM N λi=>z i*aM N λj=>a i j*z j
section
variable {a l:Nat->Nat->Rat} {N k n m:Nat} {d:Rat} {x z f g:Nat->Rat}
theorem qY:∀{k:Nat},aM k (λj=>f j - g j)=aM k f - aM k g
 | 0=>by show (0:Rat)=0 - 0;grind
 | k+1=>by
  show aM k (λj=>f j - g j)+_=(aM k f+f k) - (aM k g+g k)
  rw[qY];grind
theorem J9 (h:k<=N):aM N (λj=>if j < k then f j else 0)=aM k f:=by
 induction N with
 | zero=>rw[show k=0 by lia];rfl
 | succ N ih =>
  show aM N _+(if N < k then f N else 0)=_
  by_cases e:k=N+1
  ·subst e;rw[if_pos (by lia)];show _=aM N f+f N
   rw[aE λj hj=>if_pos (by lia)]
  ·rw[if_neg (by lia),ih (by lia)];grind
theorem Cy {i:Nat}:∀{k:Nat},i < k->(∀j,j < k->0<=f j)->f i<=aM k f
 | 0,hi,_=>absurd hi (Mn _)
 | k+1,hi,h=>by
  show f i<=aM k f+f k
  by_cases e:i=k
  ·subst e;have:=vb (f:=f) i λj hj=>h j (by lia)
   grind
  ·have h1:=Cy (i:=i) (k:=k) (by lia) λj hj=>h j (by lia)
   have h2:=h k (by lia);grind
def DL (k:Nat) (l:Nat->Nat->Rat) (d:Rat) (N:Nat) (x:Nat->Rat) (i:Nat):Rat:=if i < k then - aM N (λc=>(l i c / d)*x c) else x i
theorem LL (B:wH a N k (λi=>i) (λj=>j) l d) (hx:∀i,i < k->x i=0) (hi:i < N):aM N (λj=>a i j*DL k l d N x j)=if i < k then 0 else aM N λc=>(l i c / d)*x c:=by
 have km:=B.km
 have e1:aM N (λj=>a i j*DL k l d N x j)=aM N (λj=>a i j*x j) - aM k (λj=>a i j*aM N λc=>(l j c / d)*x c):=by
  rw[<- J9 km,<- qY];refine aE λj _=>?_
  unfold DL;by_cases e:j < k
  ·rw[if_pos e,if_pos e,hx j e];grind
  ·rw[if_neg e,if_neg e];grind
 have e2:aM N (λj=>a i j*x j)=aM k (λj=>a i j*aM N λc=>(l j c / d)*x c)+if i < k then 0 else aM N λc=>(l i c / d)*x c:=by
  have h:∀j,j < N->a i j*x j=(aM k λt=>a i t*((l t j / d)*x j))+if i < k then 0 else (l i j / d)*x j:=λj _=>by
   have e:(aM k λt=>a i t*((l t j / d)*x j))=x j*aM k λt=>(l t j / d)*a i t:=by
    rw[<- cw];exact aE λt _=>by grind
   have c:=B.coef (i:=i) (c:=j) hi;have c:a i j=aM k (λt=>(l t j / d)*a i t)+if i < k then 0 else l i j / d:=c
   rw[e]
   split
   ·rw[if_pos (by assumption)] at c;rw[c];grind
   ·rw[if_neg (by assumption)] at c;rw[c];grind
  rw[aE h,jo,ja (k:=N) (m:=k) (f:=λj t=>a i t*((l t j / d)*x j))];congr 1
  ·refine aE λt _=>?_
   rw[cw]
  ·split
   ·exact d7 λ_ _=>rfl
   ·rfl
 rw[e1,e2];grind
theorem DP (B:wH a N k (λi=>i) (λj=>j) l d) (hx:∀i,i < k->x i=0):gW N a (DL k l d N x)=gW N (λi c=>l i c / d) x:=by
 unfold gW;refine aE λi hi=>?_
 rw[LL B hx hi];unfold DL;by_cases e:i < k
 ·rw[if_pos e,if_pos e,hx i e];grind
 ·rw[if_neg e,if_neg e]
theorem N3 (B:wH a N k (λi=>i) (λj=>j) l d) (hd:0 < d) (hk:k < N) (h:∀z,z k=1->0 < gW N a z):0 < l k k:=by
 obtain ⟨u,u1,u0⟩:∃u:Nat->Rat,u k=1/\∀i,i≠k->u i=0:=⟨λi=>if i=k then 1 else 0,if_pos rfl,λi hi=>if_neg hi⟩;have e:=DP B (x:=u) λi hi=>u0 i (by lia)
 have h1:=h (DL k l d N u) (by unfold DL;rw[if_neg (by lia),u1]);rw[e] at h1;unfold gW at h1;rw[jT hk λj _ ne=>by rw[u0 j ne,ck],jT hk λj _ ne=>by rw[u0 j ne,gX],u1,gH,fM] at h1;have h2:0 < l k k / d*d:=eC h1 hd;rwa [ik (λz=>by rw[z] at hd;exact absurd hd (by decide))] at h2
theorem QI (B:wH a N k (λi=>i) (λj=>j) l d) (sy:∀i j,i < N->j < N->a i j=a j i) (hx:∀i,i < k->x i=0) (hz:∀i,k<=i->z i=x i):gW N a z=gW N (λi c=>l i c / d) x+gW N a λi=>z i - DL k l d N x i:=by
 rw[<- DP B hx];have on:=λi hi=>LL B hx (i:=i) hi
 generalize hc:DL k l d N x=c at on ⊢
 have hzc:∀i,k<=i->z i - c i=0:=λi hi=>by
  rw[hz i hi,<- hc];unfold DL;rw[if_neg (by lia)];grind
 have e1:∀i,aM N (λj=>a i j*z j)=aM N (λj=>a i j*c j)+aM N λj=>a i j*(z j - c j):=λi=>by
  rw[<- jo];exact aE λj _=>by grind
 have e2:aM N (λi=>(z i - c i)*aM N λj=>a i j*c j)=0:=d7 λi hi=>by
  by_cases e:i < k
  ·rw[on i hi,if_pos e];grind
  ·rw[hzc i (by lia)];grind
 have e3:aM N (λi=>c i*aM N λj=>a i j*(z j - c j))=aM N (λi=>(z i - c i)*aM N λj=>a i j*c j):=by
  rw[aE λi _=>(cw (c:=c i) (f:=λj=>a i j*(z j - c j))).symm,ja (f:=λi j=>c i*(a i j*(z j - c j)))];refine aE λj hj=>?_
  rw[<- cw];refine aE λi hi=>?_
  rw[sy i j hi hj];grind
 unfold gW;rw[aE (g:=λi=>(c i*aM N λj=>a i j*c j)+((c i*aM N λj=>a i j*(z j - c j))+((z i - c i)*aM N (λj=>a i j*c j)+(z i - c i)*aM N λj=>a i j*(z j - c j)))) λi _=>by rw[e1 i];grind,jo,jo,jo,e3,e2];grind
def stN (n:Nat) (sd W:Nat->Nat->Rat) (ow:Nat->Rat) (i j:Nat):Rat:=(aM n λc=>sd j c*aM n λe=>W c e*sd i e)+if i=j then ow i else 0
theorem Ht:gW N (stN n sd W ow) z=gW n W (λe=>aM N λi=>z i*sd i e)+aM N λi=>ow i*(z i*z i):=by
 have e1:∀i,i < N->z i*aM N (λj=>stN n sd W ow i j*z j)=(aM n λc=>(aM N λj=>z j*sd j c)*(z i*aM n λe=>W c e*sd i e))+ow i*(z i*z i):=λi hi=>by
  have h:∀j,j < N->stN n sd W ow i j*z j=(aM n λc=>(z j*sd j c)*aM n λe=>W c e*sd i e)+if j=i then ow i*z i else 0:=λj _=>by
   unfold stN
   have q:(aM n λc=>(z j*sd j c)*aM n λe=>W c e*sd i e)=z j*aM n λc=>sd j c*aM n λe=>W c e*sd i e:=by
    rw[<- cw];exact aE λc _=>by grind
   rw[q];by_cases e:i=j
   ·subst e;rw[if_pos rfl,if_pos rfl];grind
   ·rw[if_neg e,if_neg (λq=>e q.symm)];grind
  rw[aE h,jo,jT (f:=λj=>if j=i then ow i*z i else 0) hi λj _ ne=>if_neg ne,if_pos rfl,ja (f:=λj c=>(z j*sd j c)*aM n λe=>W c e*sd i e)]
  have q:∀c,c < n->(aM N λj=>(z j*sd j c)*aM n λe=>W c e*sd i e)=(aM n λe=>W c e*sd i e)*aM N λj=>z j*sd j c:=λc _=>by
   rw[<- cw];exact aE λj _=>by grind
  rw[aE q]
  have q2:(aM n λc=>(aM N λj=>z j*sd j c)*(z i*aM n λe=>W c e*sd i e))=z i*aM n λc=>(aM n λe=>W c e*sd i e)*aM N λj=>z j*sd j c:=by
   rw[<- cw];exact aE λc _=>by grind
  rw[q2];grind
 unfold gW;rw[aE e1,jo,ja (f:=λi c=>(aM N λj=>z j*sd j c)*(z i*aM n λe=>W c e*sd i e))];congr 1;refine aE λc _=>?_
 rw[cw];congr 1
 have q:∀i,i < N->z i*(aM n λe=>W c e*sd i e)=aM n λe=>W c e*(z i*sd i e):=λi _=>by
  rw[<- cw];exact aE λe _=>by grind
 rw[aE q,ja (f:=λi e=>W c e*(z i*sd i e))];exact aE λe _=>by rw[cw]
theorem vq:gW N (λi j=>q*a i j) z=q*gW N a z:=by
 unfold gW;rw[<- cw];refine aE λi _=>?_
 rw[aE (g:=λj=>q*(a i j*z j)) λj _=>by grind,cw];grind
theorem Ka (sy:∀i j,i < n->j < n->W i j=W j i):stN n sd W ow i j=stN n sd W ow j i:=by
 unfold stN;congr 1
 ·have q:∀i j,(aM n λc=>sd j c*aM n λe=>W c e*sd i e)=aM n λc=>aM n λe=>sd j c*(W c e*sd i e):=λi j=>aE λc _=>by rw[cw]
  rw[q i j,q j i,ja (f:=λc e=>sd j c*(W c e*sd i e))];exact aE λe he=>aE λc hc=>by rw[sy c e hc he];grind
 ·by_cases e:i=j
  ·rw[if_pos e,if_pos e.symm,e]
  ·rw[if_neg e,if_neg λz=>e z.symm]
end
def Be (a b:List Int):Int:=(List.zipWith (λx y=>x*y) a b).sum
def rT (ls:List (List Int)) (v:List Int):List Int:=ls.map λl=>Be l v
def RI (H:Hp) (zs:List Int) (x:V):Prop:=∃q,x=.ref q/\H q=some (.lst (zs.map V.int))
def GI (H:Hp) (p:Addr) (ls:List (List Int)):Prop:=∃xs,H p=some (.lst xs)/\Paired (RI H) ls xs
theorem RI.same (h:RI H zs x) (s:aG H H'):RI H' zs x:=by obtain ⟨q,e,g⟩:=h;exact ⟨q,e,s _ _ g⟩
theorem GI.same (h:GI H p ls) (s:aG H H'):GI H' p ls:=by obtain ⟨xs,g,r⟩:=h;exact ⟨xs,s _ _ g,Paired.imp' (λ_ _ z=>RI.same z s) r⟩
theorem KH (K:FG9) {X:Cx} {a:Expr} {ta:TA} {p pos tpos:Pos} {elts:List Expr} {kk:Nat} (hg:Gl X "enumerate") (hm:X.mg "enumerate"=none) (ha:PA X [a] ta) (hK:X.K=K:=by rfl) (hs:starEach [a] X.env=[(false,eval a X.env)]:=by rfl) :
  PI X (.Tuple elts kk tpos) (.Call (.Name "enumerate" p) [a] [] pos) (Le K ta):=by subst hK;exact C5 hg hm ha hs
def Bi (H0 H:Hp) (zs:List Int) (x:V):Prop:=∃q,x=V.ref q/\H0 q=none/\H q=some (.lst (zs.map V.int))
theorem Bi.same (h:Bi H0 H zs x) (s:aG H H'):Bi H0 H' zs x:=by obtain ⟨q,e,n,g⟩:=h;exact ⟨q,e,n,s _ _ g⟩
theorem y0 {α:Type} {m:Nat}:∀{l:List (List α)},(∀xs∈l,xs.length<=m)->l.flatten.length<=l.length*m
 | [],_=>b8 _
 | x :: r,h=>by
  have h1:=h x (.head _);have h2:=y0 (l:=r) λy hy=>h y (.tail _ hy)
  show (x++r.flatten).length<=(r.length+1)*m
  rw[aF,d6]
  lia
theorem pP:∀{bs:List Int} {ys:List V},Paired (λz y=>y=V.int z) bs ys->ys=bs.map V.int
 | _,_,.nil=>rfl
 | _,_,.cons h t=>by rw[h,pP t];rfl
inductive Hv (K:FG9) (vs:List V) (H:Hp) (Q:VK) (E9:XK):Prop
 | mk (p q:Addr) (a b:List Int) (k j:Nat):vs=[.ref p,.ref q]->H p=some (.lst (a.map V.int))->H q=some (.lst (b.map V.int))->b.length=a.length->a.length<=100->(∀x∈a,Sz k x)->(∀x∈b,Sz j x)->k+j<=100000000->(∀H',aG H H'->Q (.int (Be a b)) H')->Hv K vs H Q E9
inductive Kd (K:FG9) (vs:List V) (H:Hp) (Q:VK) (E9:XK):Prop
 | mk (p q:Addr) (ls:List (List Int)) (b:List Int) (k j:Nat):vs=[.ref p,.ref q]->GI H p ls->H q=some (.lst (b.map V.int))->(∀l∈ls,l.length=b.length)->ls.length<=100->b.length<=100->(∀l∈ls,∀x∈l,Sz k x)->(∀x∈b,Sz j x)->k+j<=100000000->(∀r H',H r=none->aG H H'->H' r=some (.lst ((rT ls b).map V.int))->Q (.ref r) H')->Kd K vs H Q E9
def qO (mv:LR9):Int:=cA (mv.flatten.map nm)
def nU (mv:LR9):List (List Int):=mv.map λxs=>bW (xs.map nm) (qO mv)
inductive Ek (K:FG9) (vs:List V) (H:Hp) (Q:VK) (E9:XK):Prop
 | mk (p:Addr) (H0:Hp) (rows:LR9) (M:Int):vs=[.ref p]->cx K H0 H p rows->rows.flatten.length<=1000->rows.length<=1000->(∀xs∈rows,xs.length<=1000)->qo M (rows.flatten.map nm)->(∀t r H',H' t=some (.tup [.ref r,.int (qO rows)])->aG H H'->GI H' r (nU rows)->Q (.ref t) H')->Ek K vs H Q E9
section
variable {n:Nat}
theorem xu (ha:a.length=n) (hb:b.length=n):((Be a b:Int):Rat)=aM n λl=>((a.getD l 0:Int):Rat)*((b.getD l 0:Int):Rat):=by
 have key:∀{a b:List Int},a.length=b.length->((Be a b:Int):Rat)=dN (a.map λ(x:Int)=>(x:Rat)) (b.map λ(x:Int)=>(x:Rat)):=by
  intro a
  induction a with
  | nil=>intro b _;rfl
  | cons x a ih =>
   intro b h;cases b with
   | nil=>exact absurd h (by simp)
   | cons y b =>
    show ((x*y+Be a b:Int):Rat)=(x:Rat)*(y:Rat)+dN _ _
    rw[jO,aJ,ih (by simpa using h)]
 rw[key (by rw[ha,hb]),oX (by rw[ag,ag,ha,hb]),ag,ha];refine aE λl _=>?_
 have g:∀c:List Int,(c.map λ(x:Int)=>(x:Rat)).getD l 0=((c.getD l 0:Int):Rat):=λc=>by
  rw[ae,ay,ae];cases c[l]? with
  | none=>rfl
  | some y=>rfl
 rw[g,g]
theorem vN (ha:∀x∈a,Sz k x) (hb:∀x∈b,Sz j x):Sz (k+j+min a.length b.length) (Be a b):=by
 have:=J7 (l:=List.zipWith (λx y=>x*y) a b) (j:=k+j) λv hv=>by
  obtain ⟨i,hi,rfl⟩:=bU hv;rw[iR];exact (ha _ (bu _)).mul (hb _ (bu _))
 rwa [bC] at this
theorem IX {xs:List Rat} (h:∀x∈xs,(nm x).2∣B):(((bW (xs.map nm) B).getD i 0:Int):Rat)=xs.getD i 0*(B:Rat):=by
 unfold bW;rw[ae,ay,ay,ae];cases e:xs[i]? with
 | none=>show ((0:Int):Rat)=0*_;rw[ck];rfl
 | some x=>exact lE (h x (ao e))
end
theorem K8 (hb:b≠0):(lo (if b < 0 then -t else t) (if b < 0 then -b else b),hi (if b < 0 then -t else t) (if b < 0 then -b else b))=nm ((t:Rat) / (b:Rat)):=by
 have b0:(b:Rat)≠0:=λz=>hb (mS z)
 by_cases h:b < 0
 ·rw[if_pos h,if_pos h];refine vK (by lia) ?_;rw[iJ,iJ,Rat.mul_neg,ik b0]
 ·rw[if_neg h,if_neg h];exact vK (by lia) (ik b0)
def Me (ls:List (List Int)) (b:Int):LR9:=ls.map λl=>l.map λ(z:Int)=>(z:Rat) / (b:Rat)
inductive En (K:FG9) (vs:List V) (H:Hp) (Q:VK) (E9:XK):Prop
 | mk (t p:Addr) (ls:List (List Int)) (b:Int):vs=[.ref t]->H t=some (.tup [.ref p,.int b])->GI H p ls->ls.length<=20->(∀l∈ls,l.length<=20)->b≠0->Sz 8999000 b->(∀r H',H r=none->aG H H'->cx K H H' r (Me ls b)->Q (.ref r) H')->En K vs H Q E9
def zT (ls:List (List Int)) (b:Int) (xs:List Rat):List Rat:=ls.map λl=>(aM xs.length λj=>((l.getD j 0:Int):Rat)*xs.getD j 0) / (b:Rat)
inductive HF (K:FG9) (vs:List V) (H:Hp) (Q:VK) (E9:XK):Prop
 | mk (t p s:Addr) (ls:List (List Int)) (b M:Int) (xs:List Rat) (k j:Nat):vs=[.ref t,.ref s]->H t=some (.tup [.ref p,.int b])->GI H p ls->ls.length<=20->(∀l∈ls,l.length=xs.length)->bX K H s xs->xs.length<=20->qo M (xs.map nm)->(∀l∈ls,∀z∈l,Sz k z)->k+8800000<=100000000->b≠0->Sz j b->j+4400000<=8999000->(∀r H',H r=none->aG H H'->bX K H' r (zT ls b xs)->Q (.ref r) H')->HF K vs H Q E9
def FA (zs:List Int):List (List Int):=(List.range zs.length).map λi=>(List.range zs.length).map λj=>if j=i then zs.getD j 0 else 0
def FE (H0 H:Hp) (p:Addr) (ls:List (List Int)):Prop:=H0 p=none/\∃xs,H p=some (.lst xs)/\Paired (Bi H0 H) ls xs
theorem FE.gi (h:FE H0 H p ls):GI H p ls:=by obtain ⟨_,xs,g,r⟩:=h;exact ⟨xs,g,Paired.imp' (λ_ _ ⟨q,e,_,g⟩=>⟨q,e,g⟩) r⟩
theorem FE.same (h:FE H0 H p ls) (s:aG H H'):FE H0 H' p ls:=by obtain ⟨n,xs,g,r⟩:=h;exact ⟨n,xs,s _ _ g,Paired.imp' (λ_ _ z=>Bi.same z s) r⟩
theorem FE.weak (h:FE H0 H p ls) (s:aG H1 H0):FE H1 H p ls:=by obtain ⟨n,xs,g,r⟩:=h;exact ⟨s.none n,xs,g,Paired.imp' (λ_ _ ⟨q,e,n,g⟩=>⟨q,e,s.none n,g⟩) r⟩
inductive Kf (K:FG9) (vs:List V) (H:Hp) (Q:VK) (E9:XK):Prop
 | mk (p:Addr) (xs:List Rat) (M:Int):vs=[.ref p]->bX K H p xs->xs.length<=20->qo M (xs.map nm)->(∀t r H',H' t=some (.tup [.ref r,.int (cA (xs.map nm))])->aG H H'->FE H H' r (FA (bW (xs.map nm) (cA (xs.map nm))))->Q (.ref t) H')->Kf K vs H Q E9
def AW (b:Int) (zs:List Int):Int:=zs.foldl (λd z=>g z d) b
theorem Ny:AW b (zs++[z])=g z (AW b zs):=by unfold AW;rw[List.foldl_append];rfl
theorem xt:∀{zs:List Int} {b:Int},0 < b->0 < AW b zs/\AW b zs∣b/\∀z∈zs,AW b zs∣z
 | [],b,hb=>⟨hb,IU _,λ_ h=>nomatch h⟩
 | z :: zs,b,hb=>by
  have p:0 < g z b:=by
   have:0 < Int.gcd z b:=qT _ (by lia);show (0:Int) < ((Int.gcd z b:Nat):Int)
   lia
  obtain ⟨h1,h2,h3⟩:=xt (zs:=zs) p;refine ⟨h1,Fz h2 (fI ..),λy hy=>?_⟩;rcases aH.mp hy with rfl | hy
  ·exact Fz h2 (eK ..)
  ·exact h3 y hy
theorem E1 {e D:Int}:∀{zs:List Int} {b:Int},e∣b*D->(∀z∈zs,e∣z*D)->e∣AW b zs*D
 | [],_,hb,_=>hb
 | z :: zs,b,hb,h=>by
  refine E1 (zs:=zs) (b:=g z b) ?_ λy hy=>h y (bM _ hy)
  have h2:=Int.dvd_coe_gcd (h z (dc ..)) hb;rw[Int.gcd_mul_right,Int.natCast_mul] at h2;rcases Int.natAbs_eq D with q | q
  ·rw[q];exact h2
  ·rw[q,Int.mul_neg];exact Int.dvd_neg.mpr h2
def uN (b:Int) (ls:List (List Int)):List (List Int):=ls.map λl=>l.map λz=>z / AW b ls.flatten
def uU (b:Int) (ls:List (List Int)):Int:=b / AW b ls.flatten
inductive HG (vs:List V) (H:Hp) (Q:VK) (E9:XK):Prop
 | mk (p:Addr) (ls:List (List Int)) (b:Int):vs=[.ref p,.int b]->GI H p ls->ls.length<=20->(∀l∈ls,l.length<=20)->0 < b->Sz 8999000 b->(∀t r H',H' t=some (.tup [.ref r,.int (uU b ls)])->aG H H'->FE H H' r (uN b ls)->Q (.ref t) H')->HG vs H Q E9
theorem zG {K:FG9} {H0 H:Hp}:∀{Rs:LR9} {us:List V},Paired (ia K H0 H) Rs us->∃zss:List (List V),Paired (λzs u=>∃q,u=V.ref q/\H q=some (.lst zs)) zss us/\Paired (λR zs=>Paired (bS K H) R zs) Rs zss
 | _,_,.nil=>⟨[],.nil,.nil⟩
 | _,_,.cons h t=>by
  obtain ⟨zss,a,b⟩:=zG t;obtain ⟨q,e,_,zs,g,r⟩:=h;exact ⟨zs :: zss,.cons ⟨q,e,g⟩ a,.cons r b⟩
theorem HU {H:Hp}:∀{ls:List (List Int)} {us:List V},Paired (RI H) ls us->Paired (λzs u=>∃q,u=V.ref q/\H q=some (.lst zs)) (ls.map λl=>l.map V.int) us
 | _,_,.nil=>.nil
 | _,_,.cons h t=>.cons h (HU t)
theorem mP:∀{zs:List Int},Paired (λz x=>x=V.int z) zs (zs.map V.int)
 | []=>.nil
 | _ :: _=>.cons rfl mP
section
variable {H0 H:Hp}
theorem HS {q:Addr} {o:HO}:∀{rows:List (List Int)} {ys:List V},Paired (Bi H0 H) rows ys->V.ref q∉ys->Paired (Bi H0 (upd H q o)) rows ys
 | _,_,.nil,_=>.nil
 | _,_,.cons h t,n=>by
  obtain ⟨r,e,a,b⟩:=h;exact .cons ⟨r,e,a,by rw[aZ λz=>n (by rw[<- z,<- e];exact .head _)];exact b⟩ (HS t λz=>n (.tail _ z))
theorem EI {q:Addr} {zs:List Int} (hn:H0 q=none):∀{rows:List (List Int)} {ys:List V} {j:Nat},Paired (Bi H0 H) rows ys->ys.Nodup->ys[j]?=some (.ref q)->Paired (Bi H0 (upd H q (.lst (zs.map V.int)))) (rows.set j zs) ys
 | _,_,_,.nil,_,e=>by simp at e
 | _,_,0,.cons (l₂:=ys) h t,nd,e=>by
  have e:=b6 e;obtain ⟨n1,n2⟩:=dG.mp nd;rw[e] at n1 ⊢;exact .cons ⟨q,rfl,hn,aK⟩ (HS t n1)
 | _,_,j+1,.cons (l₂:=ys) h t,nd,e=>by
  obtain ⟨n1,n2⟩:=dG.mp nd;have e:ys[j]?=some (.ref q):=e;obtain ⟨r,e',a,b⟩:=h;exact .cons ⟨r,e',a,by rw[aZ λz=>n1 (by rw[e',z];exact ao e)];exact b⟩ (EI hn t n2 e)
end
section
variable {K:FG9} {H:Hp} {a:Addr} {xs:List V} {g:TG} {tf:TT} {te:TE} {Q:VK} {σ₀:St} {α:Type}
theorem GC {F:Hp->α->V->Prop} (f:α->List Int) (hx:H a=some (.lst xs)) (pf:Paired (F H) as xs) (hl:as.length<=1000)
  (hF:∀{H H' c x},F H c x->aG H H'->F H' c x)
  (hs:∀(i:Nat) c x H' NY NN,as[i]?=some c->aG H H'->F H' c x->(∀q H2,aG H' H2->H' q=none->H2 q=some (.lst ((f c).map V.int))->NY (.ref q) H2)->qD σ₀ g tf te x H' NY NN)
  (hd:∀ys H' p,H p=none->aG H H'->H' p=some (.lst ys)->ys.Nodup->Paired (Bi H H') (as.map f) ys->V.ref p∉ys->Q (.ref p) H'):qL (Mi K a) σ₀ g tf te Q H:=by
 have lx:=pf.length;refine iG (K:=K) (xs:=xs) (λi ys H'=>aG H H'/\Paired (Bi H H') ((as.take i).map f) ys/\ys.Nodup/\∀y∈ys,∃q,y=V.ref q/\H' q≠none) (aO (bO (by lia))) ⟨aG.refl _,.nil,ky,(λ_ h=>nomatch h)⟩ (λi ys H' _ ⟨s,_⟩=>bK.of (s _ _ hx)) ?_ ?_
 ·rintro i x ys H' hx' hlen ⟨s,pr,nd,ne⟩;obtain ⟨c,ec,fc⟩:=cH pf hx';refine hs i c x H' _ _ ec s (hF fc s) λq H2 s2 nq R=>⟨s.trans s2,?_,?_,λy hy=>?_⟩
  ·rw[take_snoc ec,cn];exact cz (Paired.imp' (λ_ _ z=>Bi.same z s2) pr) (.cons ⟨q,rfl,s.none nq,R⟩ .nil)
  ·refine dr.mpr ⟨nd,by simp,λa ha b hb z=>?_⟩;rw[bz.mp hb] at z;obtain ⟨q',e,h⟩:=ne a ha;rw[z] at e;cases e;exact h nq
  ·rcases av.mp hy with hy | hy
   ·obtain ⟨q',e,h⟩:=ne y hy;refine ⟨q',e,λz=>?_⟩;cases h':H' q' with
    | none=>exact h h'
    | some o=>rw[s2 _ _ h'] at z;cases z
   ·exact ⟨q,bz.mp hy,by rw[R];exact λz=>nomatch z⟩
 ·rintro ys H' hy ⟨s,pr,nd,ne⟩ p hp;rw[aA (by lia)] at pr;have s1:aG H' (upd H' p (.lst ys)):=aG.new hp
  exact hd ys _ p (s.none hp) (s.trans s1) aK nd (Paired.imp' (λ_ _ z=>Bi.same z s1) pr) λz=>by
   obtain ⟨q,e,h⟩:=ne _ z;cases e;exact h hp
end
def Cb (L:List (List Int)) (f:Nat->Int):Nat->List (List Int)
 | 0=>L
 | i+1=>(Cb L f i).set i (((Cb L f i).getD i []).set i (((Cb L f i).getD i []).getD i 0+f i))
theorem uQ {L:List (List Int)} {f:Nat->Int}:∀i,(Cb L f i).length=L.length
 | 0=>rfl
 | i+1=>by show ((Cb L f i).set i _).length=_;rw[jP,uQ i]
theorem tq {L:List (List Int)} {f:Nat->Int} {n:Nat} (h:∀l∈L,l.length=n):∀i,i<=L.length->∀l∈Cb L f i,l.length=n
 | 0,_,l,hl=>h l hl
 | i+1,hi,l,hl=>by
  have hl:l∈(Cb L f i).set i _:=hl;rcases dO hl with z | z
  ·exact tq h i (by lia) l z
  ·rw[z,jP];exact tq h i (by lia) _ (getD_in (by rw[uQ];lia))
theorem LM {L:List (List Int)} {f:Nat->Int} {n:Nat} (hL:L.length=n) (h:∀l∈L,l.length=n) {r c:Nat} (hr:r < n) (hc:c < n):∀i,i<=n->((Cb L f i).getD r []).getD c 0=(L.getD r []).getD c 0+if r=c/\r < i then f r else 0
 | 0,_=>by rw[if_neg (by lia)];show _=_+(0:Int);rw[Int.add_zero];rfl
 | i+1,hi=>by
  have ih:=LM (f:=f) hL h hr hc i (by lia);have lw:((Cb L f i).getD i []).length=n:=tq (f:=f) h i (by lia) _ (getD_in (by rw[uQ];lia));show (((Cb L f i).set i _).getD r []).getD c 0=_
  rw[vM (by rw[uQ];lia)];by_cases e:r=i
  ·subst e;rw[if_pos rfl,vM (by lia)];by_cases e2:c=r
   ·subst e2;rw[if_pos rfl,ih,if_neg (by lia),if_pos (by lia)]
    lia
   ·rw[if_neg e2,ih,if_neg (by lia),if_neg (by lia)]
  ·rw[if_neg e,ih];by_cases e2:r=c/\r < i
   ·rw[if_pos e2,if_pos (by lia)]
   ·rw[if_neg e2,if_neg (by lia)]
def EX (sl wl:List (List Int)) (ob:Int):List (List Int):=sl.map λs=>(rT sl (rT wl s)).map λz=>z*ob
def Te (sl wl:List (List Int)) (sb wb:Int) (ot:List Int) (ob:Int):List (List Int):=Cb (EX sl wl ob) (λi=>ot.getD i 0*(sb*sb*wb)) sl.length
def oG (sy a1 a2 a3 kn:Addr):List (Str×V):=a8 "known" (.ref kn) (a8 "last_weights" (.ref a3) (a8 "put_weights" (.ref a2) (a8 "state_weights" (.ref a1) (a8 "system" (.ref sy) []))))
section
variable {sy a1 a2 a3 kn:Addr}
theorem Nr:(a8 k v fs).lookup k=some v:=by rw[aN,if_pos rfl]
theorem vW:(oG sy a1 a2 a3 kn).lookup ("known":Str)=some (.ref kn):=by
 unfold oG;rw[aN,if_pos rfl]
theorem OR:(oG sy a1 a2 a3 kn).lookup ("put_weights":Str)=some (.ref a2):=by
 unfold oG;rw[aN,if_neg (by decide +kernel),aN,if_neg (by decide +kernel),aN,if_pos rfl]
theorem OQ:(oG sy a1 a2 a3 kn).lookup ("state_weights":Str)=some (.ref a1):=by
 unfold oG;rw[aN,if_neg (by decide +kernel),aN,if_neg (by decide +kernel),aN,if_neg (by decide +kernel),aN,if_pos rfl]
theorem tj:(oG sy a1 a2 a3 kn).lookup ("system":Str)=some (.ref sy):=by
 unfold oG;rw[aN,if_neg (by decide +kernel),aN,if_neg (by decide +kernel),aN,if_neg (by decide +kernel),aN,if_neg (by decide +kernel),aN,if_pos rfl]
theorem tR {k:Str} (h1:k≠"known") (h2:k≠"last_weights") (h3:k≠"put_weights") (h4:k≠"state_weights") (h5:k≠"system"):(oG sy a1 a2 a3 kn).lookup k=none:=by
 unfold oG;rw[aN,if_neg h1,aN,if_neg h2,aN,if_neg h3,aN,if_neg h4,aN,if_neg h5];rfl
end
def LX (K:FG9) (H0 H:Hp) (C Cc x kn:Addr) (mv pt lk:LR9) (qs rs:List Rat):Prop:=∃dx sy a1 a2 a3,H x=some (.ins Cc dx (oG sy a1 a2 a3 kn))/\mV K H0 H C sy mv pt lk/\bX K H a1 qs/\bX K H a2 rs
theorem LX.same {K:FG9} (h:LX K H0 H C Cc x kn mv pt lk qs rs) (s:aG H H'):LX K H0 H' C Cc x kn mv pt lk qs rs:=by
 obtain ⟨dx,sy,a1,a2,a3,g,S,R1,R2⟩:=h;exact ⟨dx,sy,a1,a2,a3,s _ _ g,S.same s,R1.same s,R2.same s⟩
def il (mv pt:LR9):LR9:=pt++m8 mv mv.length
def iF (qs rs:List Rat):List Rat:=rs++qs
structure FD (mv pt:LR9) (qs rs:List Rat) (σ ω:Nat):Prop where
 lq:qs.length=mv.length
 lr:rs.length=pt.length
 ms:∃M,qo M ((il mv pt).flatten.map nm)
 mo:∃M,qo M ((iF qs rs).map nm)
 ss:∀l∈nU (il mv pt),∀z∈l,Sz σ z
 sb:Sz σ (qO (il mv pt))
 os:∀z∈bW ((iF qs rs).map nm) (cA ((iF qs rs).map nm)),Sz ω z
 ob:Sz ω (cA ((iF qs rs).map nm))
abbrev bZ (mv pt:LR9) (qs rs:List Rat) (wl:List (List Int)) (wb:Int):List (List Int):=Te (nU (il mv pt)) wl (qO (il mv pt)) wb (bW ((iF qs rs).map nm) (cA ((iF qs rs).map nm))) (cA ((iF qs rs).map nm))
abbrev ic (mv pt:LR9) (qs rs:List Rat) (wb:Int):Int:=qO (il mv pt)*qO (il mv pt)*wb*cA ((iF qs rs).map nm)
inductive Eo (K:FG9) (C Cc:Addr) (vs:List V) (H:Hp) (Q:VK) (E9:XK):Prop
 | mk (x kn t p:Addr) (H0:Hp) (mv pt lk:LR9) (qs rs:List Rat) (wl:List (List Int)) (wb:Int) (σ ω b:Nat):vs=[.ref x,.ref t]->LX K H0 H C Cc x kn mv pt lk qs rs->gQ mv pt lk->FD mv pt qs rs σ ω->H t=some (.tup [.ref p,.int wb])->GI H p wl->wl.length=mv.length->(∀l∈wl,l.length=mv.length)->(∀l∈wl,∀z∈l,Sz b z)->Sz b wb->b+2*σ+ω+40<=8000000->(∀t' r ys H',H' t'=some (.tup [.ref r,.int (ic mv pt qs rs wb)])->aG H H'->H r=none->H' r=some (.lst ys)->Paired (Bi H H') (bZ mv pt qs rs wl wb) ys->Q (.ref t') H')->Eo K C Cc vs H Q E9
def fg (A:Addr->Bool) (H:Hp):Hp:=λa=>if A a=true then none else H a
def qK (A:Addr->Bool) (H:Hp):Prop:=∀a,A a=true->∃vs,H a=some (.lst vs)
def qP (A:Addr->Bool) (k:Addr):Addr->Bool:=λa=>A a || a == k
def xF (k:Addr) (H H':Hp):Prop:=∀a o,a≠k->H a=some o->H' a=some o
section
variable {A:Addr->Bool} {kn:Addr} {H H' H'':Hp} {o:HO} {a:Addr}
theorem br:aG (fg A H) H:=λa o h=>by
 unfold fg at h
 split at h
 ·cases h
 ·exact h
theorem kY (k:A kn=true) (s:xF kn H H'):aG (fg A H) (fg A H'):=λa o h=>by
 unfold fg at h ⊢
 split at h
 ·cases h
 ·rename_i n
  rw[if_neg n];exact s _ _ (λz=>n (by rw[z];exact k)) h
theorem dR (s:aG H H'):aG (fg A H) (fg A H'):=λa o h=>by
 unfold fg at h ⊢
 split at h
 ·cases h
 ·rename_i n
  rw[if_neg n];exact s _ _ h
theorem Ip (k:A kn=true):fg A (upd H kn o)=fg A H:=by
 funext a;unfold fg;by_cases e:A a=true
 ·rw[if_pos e,if_pos e]
 ·rw[if_neg e,if_neg e,aZ λz=>e (by rw[z];exact k)]
theorem iZ (h:H a=some o) (n:A a=false):fg A H a=some o:=by
 unfold fg;rw[n];exact h
theorem aG.smx (s:aG H H'):xF kn H H':=λa o _ h=>s a o h
theorem xF.trans (s:xF kn H H') (s':xF kn H' H''):xF kn H H'':=λa o n h=>s' _ _ n (s _ _ n h)
theorem xF.put (s:xF kn H H'):xF kn H (upd H' kn o):=λa o' n h=>by rw[aZ n];exact s _ _ n h
theorem xF.after (s:xF kn H H') (n:H a=none):xF kn H (upd H' a o):=λb o' nb h=>by rw[aZ λz=>by rw[z,n] at h;cases h];exact s _ _ nb h
theorem qK.same (h:qK A H) (s:aG H H'):qK A H':=λa ha=>by obtain ⟨vs,g⟩:=h a ha;exact ⟨vs,s _ _ g⟩
theorem qK.smx (h:qK A H) (s:xF kn H H') (g:H' kn=some (.lst vs)):qK A H':=λa ha=>by
 by_cases e:a=kn
 ·exact ⟨vs,by rw[e];exact g⟩
 ·obtain ⟨vs,g⟩:=h a ha;exact ⟨vs,s _ _ e g⟩
theorem qK.new (h:qK A H) (n:H a=none):A a=false:=by
 cases e:A a with
 | false=>rfl
 | true=>obtain ⟨vs,g⟩:=h a e;rw[n] at g;cases g
theorem qK.tup {us:List V} (h:qK A H) (g:H a=some (.tup us)):A a=false:=by
 cases e:A a with
 | false=>rfl
 | true=>obtain ⟨vs,g'⟩:=h a e;rw[g] at g';cases g'
theorem GJ (h:A a=false) (n:a≠k):qP A k a=false:=by
 unfold qP;rw[h];simpa using n
theorem wd:qP A k k=true:=by unfold qP;simp
theorem AA (h:A a=true):qP A k a=true:=by unfold qP;rw[h];rfl
theorem qK.ad (h:qK A H) (g:H k=some (.lst vs)):qK (qP A k) H:=λa ha=>by
 unfold qP at ha;rcases Ea.mp ha with z | z
 ·exact h a z
 ·rw[show a=k by simpa using z];exact ⟨vs,g⟩
theorem Ad (n:H k=none) (s:aG (fg A H) (fg A H')):aG (fg A H) (fg (qP A k) H'):=λa o h=>by
 have h':=s _ _ h;unfold fg at h h' ⊢
 split at h
 ·cases h
 ·rename_i na
  rw[if_neg na] at h';rw[if_neg]
  ·exact h'
  ·rw[GJ (by simpa using na) λz=>by rw[z,n] at h;cases h];exact bE
end
def Of (H:Hp) (wl:List (List Int)) (wb:Int) (sl:List (List Int)) (sb:Int) (v:V):Prop:=∃t tw ts pw ps,v=.ref t/\H t=some (.tup [.ref tw,.ref ts])/\H tw=some (.tup [.ref pw,.int wb])/\GI H pw wl/\H ts=some (.tup [.ref ps,.int sb])/\GI H ps sl
theorem Of.same (h:Of H wl wb sl sb v) (s:aG H H'):Of H' wl wb sl sb v:=by
 obtain ⟨t,tw,ts,pw,ps,e,g1,g2,G1,g3,G2⟩:=h;exact ⟨t,tw,ts,pw,ps,e,s _ _ g1,s _ _ g2,G1.same s,s _ _ g3,G2.same s⟩
section
variable {mv pt lk:LR9}
theorem uY:(nU rows).length=rows.length:=ag ..
theorem wN (h:∀xs∈rows,xs.length=n):∀l∈nU rows,l.length=n:=λl hl=>by
 unfold nU at hl;obtain ⟨xs,hx,rfl⟩:=aw.mp hl;unfold bW;rw[ag,ag];exact h xs hx
theorem zw:(il mv pt).length=pt.length+mv.length:=by unfold il;rw[aF,mi]
theorem yT (D:gQ mv pt lk):∀xs∈il mv pt,xs.length=mv.length:=λxs hx=>by
 unfold il at hx;rcases av.mp hx with hx | hx
 ·exact D.pw xs hx
 ·exact wM xs hx
end
theorem Sl (hi:i < zs.length):(FA zs)[i]?=some ((List.range zs.length).map λj=>if j=i then zs.getD j 0 else 0):=by
 unfold FA;rw[ay,b7 hi];rfl
theorem yW:∀l∈EX sl wl ob,l.length=sl.length:=λl hl=>by
 unfold EX at hl;obtain ⟨s,hs,rfl⟩:=aw.mp hl;unfold rT;rw[ag,ag]
theorem xn:(EX sl wl ob).length=sl.length:=ag ..
def dw (ls:List (List Int)):Nat->List (List Int)×Int
 | 0=>(ls,1)
 | k+1=>(JE (dw ls k).1 k k (dw ls k).2,((JE (dw ls k).1 k k (dw ls k).2).getD k []).getD k 0)
structure TH (ls:List (List Int)) (m N j:Nat):Prop where
 len:∀k,k<=m->(dw ls k).1.length=N
 wide:∀k,k<=m->∀l∈(dw ls k).1,l.length=N
 pos:∀k,k<=m->0 < (dw ls k).2
 sb:∀k,k<=m->Sz j (dw ls k).2
 sz:∀k,k<=m->∀l∈(dw ls k).1,∀z∈l,Sz j z
abbrev NM (ls:List (List Int)) (m:Nat):List (List Int):=(dw ls m).1.map λl=>l.drop m
abbrev xm (ls:List (List Int)) (m:Nat):List (List Int):=(NM ls m).drop m
abbrev O6 (ls:List (List Int)) (m:Nat):List (List Int):=(NM ls m).take m
inductive EA (K:FG9) (C Cc:Addr) (vs:List V) (H:Hp) (Q:VK) (E9:XK):Prop
 | mk (x kn t p:Addr) (H0:Hp) (mv pt lk:LR9) (qs rs:List Rat) (wl:List (List Int)) (wb:Int) (σ ω b j:Nat):vs=[.ref x,.ref t]->LX K H0 H C Cc x kn mv pt lk qs rs->gQ mv pt lk->FD mv pt qs rs σ ω->H t=some (.tup [.ref p,.int wb])->GI H p wl->wl.length=mv.length->(∀l∈wl,l.length=mv.length)->(∀l∈wl,∀z∈l,Sz b z)->Sz b wb->b+2*σ+ω+40<=8000000->0 < ic mv pt qs rs wb->TH (bZ mv pt qs rs wl wb) pt.length (pt.length+mv.length) j->j+(b+2*σ+ω+40)<=8800000->(∀v t tw ts pw ps H',v=.ref t->aG H H'->H' t=some (.tup [.ref tw,.ref ts])->H' tw=some (.tup [.ref pw,.int (uU ((dw (bZ mv pt qs rs wl wb) pt.length).2*ic mv pt qs rs wb) (xm (bZ mv pt qs rs wl wb) pt.length))])->FE H H' pw (uN ((dw (bZ mv pt qs rs wl wb) pt.length).2*ic mv pt qs rs wb) (xm (bZ mv pt qs rs wl wb) pt.length))->H' ts=some (.tup [.ref ps,.int (-(dw (bZ mv pt qs rs wl wb) pt.length).2)])->FE H H' ps (O6 (bZ mv pt qs rs wl wb) pt.length)->Q v H')->EA K C Cc vs H Q E9
abbrev Mh:Type:=(List (List Int)×Int)×(List (List Int)×Int)
def knN (mv pt:LR9) (qs rs:List Rat) (w:List (List Int)×Int):Mh:=((uN ((dw (bZ mv pt qs rs w.1 w.2) pt.length).2*ic mv pt qs rs w.2) (xm (bZ mv pt qs rs w.1 w.2) pt.length),uU ((dw (bZ mv pt qs rs w.1 w.2) pt.length).2*ic mv pt qs rs w.2) (xm (bZ mv pt qs rs w.1 w.2) pt.length)),(O6 (bZ mv pt qs rs w.1 w.2) pt.length,-(dw (bZ mv pt qs rs w.1 w.2) pt.length).2))
def bY (mv pt:LR9) (qs rs fs:List Rat):Nat->Mh
 | 0=>((FA (bW (fs.map nm) (cA (fs.map nm))),cA (fs.map nm)),([],1))
 | t+1=>knN mv pt qs rs (bY mv pt qs rs fs t).1
structure OW (mv pt:LR9) (qs rs fs:List Rat) (T σ ω b j:Nat):Prop where
 st:FD mv pt qs rs σ ω
 t8:T<=8
 l1:b+2*σ+ω+40<=8000000
 l2:j+(b+2*σ+ω+40)<=8800000
 l3:b<=4000000/\j<=4400000
 lw:∀t,t<=T->(bY mv pt qs rs fs t).1.1.length=mv.length
 ww:∀t,t<=T->∀l∈(bY mv pt qs rs fs t).1.1,l.length=mv.length
 sw:∀t,t<=T->∀l∈(bY mv pt qs rs fs t).1.1,∀z∈l,Sz b z
 wb:∀t,t<=T->0 < (bY mv pt qs rs fs t).1.2/\Sz b (bY mv pt qs rs fs t).1.2
 kp:∀t,t < T->0 < ic mv pt qs rs (bY mv pt qs rs fs t).1.2
 ah:∀t,t < T->TH (bZ mv pt qs rs (bY mv pt qs rs fs t).1.1 (bY mv pt qs rs fs t).1.2) pt.length (pt.length+mv.length) j
abbrev TF (H:Hp) (d:Mh) (v:V):Prop:=Of H d.1.1 d.1.2 d.2.1 d.2.2 v
def xI (A:Addr->Bool) (S:Nat->Mh) (kn:Addr) (H:Hp) (vs:List V):Prop:=H kn=some (.lst vs)/\1<=vs.length/\vs.length<=9/\Paired (TF (fg A H)) ((List.range vs.length).map S) vs
section
variable {K:FG9} {A:Addr->Bool} {S:Nat->Mh} {kn r p a:Addr} {H H0 H1 H2:Hp} {us:List V}
theorem FE.hid (h:FE H0 H p ls) (n:qK A H0):GI (fg A H) p ls:=by
 obtain ⟨np,xs,g,r⟩:=h;exact ⟨xs,iZ g (n.new np),Paired.imp' (λ_ _ ⟨q,e,nq,g⟩=>⟨q,e,iZ g (n.new nq)⟩) r⟩
theorem xI.same (h:xI A S kn H us) (s:aG H H1):xI A S kn H1 us:=by
 obtain ⟨g,a,b,pr⟩:=h;exact ⟨s _ _ g,a,b,Paired.imp' (λ_ _ z=>Of.same z (dR s)) pr⟩
theorem yS (h:uR K H a xs) (hl:qK A H):uR K (fg A H) a xs:=by
 rcases h with (h | ⟨o,h⟩) | h
 ·exact .inl (.inl (iZ h (hl.tup h)))
 ·refine .inl (.inr ⟨o,iZ h ?_⟩);cases e:A a with
  | false=>rfl
  | true=>obtain ⟨vs,g'⟩:=hl a e;rw[h] at g';cases g'
 ·exact .inr h
theorem bX.hid (h:bX K H p xs) (hl:qK A H) (n:A p=false):bX K (fg A H) p xs:=by
 obtain ⟨zs,g,r⟩:=h;exact ⟨zs,iZ g n,Paired.imp' (λ_ _ ⟨q,e,s⟩=>⟨q,e,yS s hl⟩) r⟩
theorem Lh (s:aG (fg A H) (fg A H1)) (n:H1 r=none):fg A H r=none:=s.none (by
 unfold fg
 split
 ·rfl
 ·exact n)
theorem cx.hid (h:cx K H1 H2 p rows) (h2:qK A H2) (h1:qK A H1) (s:aG (fg A H) (fg A H1)) (n:A p=false):cx K (fg A H) (fg A H2) p rows:=by
 obtain ⟨zs,gz,r,nn⟩:=h;exact ⟨zs,iZ gz n,Paired.imp' (λ_ _ ⟨q,e,nq,R⟩=>⟨q,e,Lh s nq,R.hid h2 (h1.new nq)⟩) r,nn⟩
end
inductive HH (K:FG9) (C Cc:Addr) (vs:List V) (H:Hp) (Q:VK) (E9:XK):Prop
 | mk (A:Addr->Bool) (x kn:Addr) (H0:Hp) (mv pt lk:LR9) (qs rs fs:List Rat) (T σ ω b j l:Nat) (us:List V):vs=[.ref x,.int l]->qK A H->A kn=true->LX K H0 (fg A H) C Cc x kn mv pt lk qs rs->gQ mv pt lk->OW mv pt qs rs fs T σ ω b j->l<=T->xI A (bY mv pt qs rs fs) kn H us->(∀v us' H',xF kn H H'->xI A (bY mv pt qs rs fs) kn H' us'->TF (fg A H') (bY mv pt qs rs fs l) v->Q v H')->HH K C Cc vs H Q E9
inductive Ej (K:FG9) (C Cc:Addr) (vs:List V) (H:Hp) (Q:VK) (E9:XK):Prop
 | mk (A:Addr->Bool) (x kn:Addr) (H0:Hp) (mv pt lk:LR9) (qs rs fs:List Rat) (T σ ω b j l:Nat) (us:List V):vs=[.ref x,.int l]->qK A H->A kn=true->LX K H0 (fg A H) C Cc x kn mv pt lk qs rs->gQ mv pt lk->OW mv pt qs rs fs T σ ω b j->l<=T->xI A (bY mv pt qs rs fs) kn H us->(∀r us' H',xF kn H H'->xI A (bY mv pt qs rs fs) kn H' us'->H r=none->A r=false->cx K (fg A H) (fg A H') r (Me (bY mv pt qs rs fs l).1.1 (bY mv pt qs rs fs l).1.2)->Q (.ref r) H')->Ej K C Cc vs H Q E9
def kQ (mv pt:LR9) (qs rs fs:List Rat) (l:Nat) (st:List Rat):List Rat:=zT (bY mv pt qs rs fs l).2.1 (bY mv pt qs rs fs l).2.2 st
inductive HK (K:FG9) (C Cc:Addr) (vs:List V) (H:Hp) (Q:VK) (E9:XK):Prop
 | mk (A:Addr->Bool) (x kn s:Addr) (H0:Hp) (mv pt lk:LR9) (qs rs fs st:List Rat) (T σ ω b j l:Nat) (M:Int) (us:List V):vs=[.ref x,.ref s,.int l]->qK A H->A kn=true->LX K H0 (fg A H) C Cc x kn mv pt lk qs rs->gQ mv pt lk->OW mv pt qs rs fs T σ ω b j->l<=T->xI A (bY mv pt qs rs fs) kn H us->1<=l->bX K (fg A H) s st->st.length=mv.length->qo M (st.map nm)->(∀r us' H',xF kn H H'->xI (qP A r) (bY mv pt qs rs fs) kn H' us'->H r=none->A r=false->bX K (fg A H') r (kQ mv pt qs rs fs l st)->Q (.ref r) H')->HK K C Cc vs H Q E9
def qI (mv pt:LR9) (qs rs fs st:List Rat) (T:Nat):Nat->List Rat
 | 0=>st
 | i+1=>gE mv pt (qI mv pt qs rs fs st T i) (kQ mv pt qs rs fs (T - i) (qI mv pt qs rs fs st T i))
def buQ (mv pt:LR9) (qs rs fs st:List Rat) (T:Nat):LR9:=(List.range T).map λi=>kQ mv pt qs rs fs (T - i) (qI mv pt qs rs fs st T i)
structure Tb (mv pt:LR9) (qs rs fs st:List Rat) (T:Nat):Prop where
 ls:st.length=mv.length
 la:∀i,i<=T->(qI mv pt qs rs fs st T i).length=mv.length
 ld:∀i,i < T->(kQ mv pt qs rs fs (T - i) (qI mv pt qs rs fs st T i)).length=pt.length
 mm:∀i,i<=T->∃M,qo M ((qI mv pt qs rs fs st T i).map nm)
 fn:∀i,i < T->jF 1800000 1800000 (qI mv pt qs rs fs st T i++kQ mv pt qs rs fs (T - i) (qI mv pt qs rs fs st T i))
 nx:∀i,i < T->OV mv pt (qI mv pt qs rs fs st T i) (kQ mv pt qs rs fs (T - i) (qI mv pt qs rs fs st T i))
 sd:∀i,i < T->∀z∈kQ mv pt qs rs fs (T - i) (qI mv pt qs rs fs st T i),lU z
 dt:D4 st (zT (bY mv pt qs rs fs T).1.1 (bY mv pt qs rs fs T).1.2 st)
theorem Nw:aG (fg (qP A p) H) (fg A H):=λa o h=>by
 unfold fg at h ⊢
 split at h
 ·cases h
 ·rename_i n
  rw[if_neg λz=>n (AA z)];exact h
theorem xI.sub (h:xI (qP A p) S kn H us):xI A S kn H us:=by
 obtain ⟨g,a,b,pr⟩:=h;exact ⟨g,a,b,Paired.imp' (λ_ _ z=>Of.same z Nw) pr⟩
theorem xI.hide (h:xI A S kn H us) (s:aG H H') (n:H p=none):xI (qP A p) S kn H' us:=by
 obtain ⟨g,a,b,pr⟩:=h;exact ⟨s _ _ g,a,b,Paired.imp' (λ_ _ z=>Of.same z (Ad n (dR s))) pr⟩
def Ob (K:FG9) (A:Addr->Bool) (H0 H:Hp) (xs:List Rat) (v:V):Prop:=∃q zs,v=.ref q/\A q=true/\H0 q=none/\H q=some (.lst zs)/\Paired (bS K (fg A H)) xs zs
theorem Ob.smx {K:FG9} (h:Ob K A H0 H xs v) (s:xF kn H H') (n:H0 kn≠none) (up:∀a,A a=true->A' a=true) (m:aG (fg A H) (fg A' H')):Ob K A' H0 H' xs v:=by
 obtain ⟨q,zs,e,a,nq,g,r⟩:=h;exact ⟨q,zs,e,up q a,nq,s _ _ (λz=>n (by rw[<- z];exact nq)) g,Paired.imp' (λ_ _ z=>z.same m) r⟩
theorem bX.nums {K:FG9} (h:bX K (fg A H) p xs) (l:qK A' H):∃zs,H p=some (.lst zs)/\Paired (bS K (fg A' H)) xs zs:=by
 obtain ⟨zs,g,r⟩:=h;exact ⟨zs,br _ _ g,Paired.imp' (λ_ _ z=>by obtain ⟨q,e,s⟩:=z.same br;exact ⟨q,e,yS s l⟩) r⟩
inductive HQ (K:FG9) (C Cc:Addr) (vs:List V) (H:Hp) (Q:VK) (E9:XK):Prop
 | mk (A:Addr->Bool) (x kn s:Addr) (H0:Hp) (mv pt lk:LR9) (qs rs fs st:List Rat) (T σ ω b j l:Nat) (us:List V):vs=[.ref x,.ref s,.int l]->qK A H->A kn=true->LX K H0 (fg A H) C Cc x kn mv pt lk qs rs->gQ mv pt lk->OW mv pt qs rs fs T σ ω b j->l<=T->xI A (bY mv pt qs rs fs) kn H us->LQ mv pt lk->bX K (fg A H) s st->Tb mv pt qs rs fs st l->(∀A2 t e p us' ws H',H' t=some (.tup [.ref e,.ref p])->(∀a,A a=true->A2 a=true)->(∀a,A2 a=true->A a=true\/H a=none)->qK A2 H'->A2 p=true->H p=none->xF kn H H'->aG (fg A H) (fg A2 H')->xI A2 (bY mv pt qs rs fs) kn H' us'->bS K (fg A2 H') (dN st (zT (bY mv pt qs rs fs l).1.1 (bY mv pt qs rs fs l).1.2 st)) (.ref e)->H' p=some (.lst ws)->Paired (Ob K A2 H H') (buQ mv pt qs rs fs st l) ws->V.ref p∉ws->Q (.ref t) H')->HQ K C Cc vs H Q E9
inductive Hu (K:FG9) (vs:List V) (H:Hp) (Q:VK) (E9:XK):Prop
 | mk (b:Addr) (m β:Nat):vs=[.ref b,.int m,.int β]->ig H b->m<=8->β<=1->(∀r ws H',H r=none->bX K H' r ws->ws.length=m->(∀w∈ws,(0<=w/\(0 < β->0 < w))/\Dr 1000 w)->ig H' b->cF b H H'->Q (.ref r) H')->Hu K vs H Q E9
theorem Sh {t b:Int} (h:z*(b:Rat)=(t:Rat)) (hb:0 < b) (ht:0<=t):0<=z:=by
 rcases Int.lt_or_eq_of_le ht with q | q
 ·exact cm (KE h hb q)
 ·have h1:(b:Rat)≠0:=λz=>by have:=mS z;lia
  rw[<- q] at h;rcases AS.mp (show z*(b:Rat)=0 from h) with y | y
  ·rw[y];exact Cj
  ·exact absurd y h1
structure DS (mv pt:LR9) (qs rs fs:List Rat):Prop where
 lq:qs.length=mv.length
 lr:rs.length=pt.length
 lf:fs.length=mv.length
 q0:∀w∈qs,0<=w/\Dr 1000 w
 r0:∀w∈rs,0 < w/\Dr 1000 w
 f0:∀w∈fs,0<=w/\Dr 1000 w
inductive Ep (K:FG9) (vs:List V) (H:Hp) (Q:VK) (E9:XK):Prop
 | mk (b r:Addr) (H0:Hp) (mv pt lk:LR9):vs=[.ref b,.ref r]->ig H b->H0 b≠none->fK K H0 H r mv pt lk->gQ mv pt lk->(∀l a1 a2 a3 qs rs fs H',H l=none->H a1=none->H a2=none->H a3=none->H' l=some (.lst [.ref a1,.ref a2,.ref a3])->bX K H' a1 qs->bX K H' a2 rs->bX K H' a3 fs->DS mv pt qs rs fs->ig H' b->cF b H H'->Q (.ref l) H')->Ep K vs H Q E9
def SW (mv pt:LR9) (T:Nat):Prop:=SK mv pt T/\T<=8/\(3<=mv.length->T<=4)/\(5<=mv.length->T<=3)/\(6<=mv.length->T<=2)
theorem SK.less (h:SK mv pt T) (l:T'<=T):SK mv pt T':=by
 obtain ⟨a,b⟩:=h;refine ⟨by lia,?_⟩;rcases b with b | ⟨b,c,d⟩
 ·exact .inl (by lia)
 ·exact .inr ⟨b,λz=>by have:=c z;lia,λz y=>by have:=d z y;lia⟩
theorem Qu:∀n,n<=8->∃v:Nat,([V.int 8,V.int 8,V.int 8,V.int 5,V.int 4,V.int 3,V.int 2,V.int 2,V.int 2]:List V)[n]?=some (.int (v:Int))/\v<=8/\(4<=n->v<=4)/\(5<=n->v<=3)/\(6<=n->v<=2)
 | 0,_=>⟨8,rfl,by decide,by decide,by decide,by decide⟩
 | 1,_=>⟨8,rfl,by decide,by decide,by decide,by decide⟩
 | 2,_=>⟨8,rfl,by decide,by decide,by decide,by decide⟩
 | 3,_=>⟨5,rfl,by decide,by decide,by decide,by decide⟩
 | 4,_=>⟨4,rfl,by decide,by decide,by decide,by decide⟩
 | 5,_=>⟨3,rfl,by decide,by decide,by decide,by decide⟩
 | 6,_=>⟨2,rfl,by decide,by decide,by decide,by decide⟩
 | 7,_=>⟨2,rfl,by decide,by decide,by decide,by decide⟩
 | 8,_=>⟨2,rfl,by decide,by decide,by decide,by decide⟩
 | n+9,h=>absurd h (by lia)
inductive Kg (K:FG9) (vs:List V) (H:Hp) (Q:VK) (E9:XK):Prop
 | mk (b r:Addr) (H0:Hp) (mv pt lk:LR9):vs=[.ref b,.ref r]->ig H b->H0 b≠none->fK K H0 H r mv pt lk->gQ mv pt lk->(∀xs∈mv++pt,∀x∈xs,lU x)->(∀(T:Nat) H',SW mv pt T->ig H' b->cF b H H'->Q (.int T) H')->Kg K vs H Q E9
section
variable {K:FG9} {A:Addr->Bool} {S:Nat->Mh} {b q kn:Addr} {H H':Hp} {us:List V}
theorem cF.smx (u:cF b H H'):xF b H H':=λa o n h=>u.other n h
theorem xI.smx (h:xI A S kn H us) (k:A b=true) (s:xF b H H') (n:kn≠b):xI A S kn H' us:=by
 obtain ⟨g,x,y,pr⟩:=h;exact ⟨s _ _ n g,x,y,Paired.imp' (λ_ _ z=>Of.same z (kY k s)) pr⟩
end
section
variable {K:FG9} {A:Addr->Bool} {H0 H:Hp} {C p:Addr} {mv pt lk rows:LR9}
theorem cx.hid0 (h:cx K H0 H p rows) (L:qK A H) (n:∀a,A a=true->H0 a≠none) (np:A p=false):cx K H0 (fg A H) p rows:=by
 obtain ⟨zs,gz,r,nn⟩:=h
 have ne:∀{q},H0 q=none->A q=false:=λ{q} h=>by
  cases e:A q with
  | false=>rfl
  | true=>exact absurd h (n q e)
 exact ⟨zs,iZ gz np,Paired.imp' (λ_ _ ⟨q,e,nq,R⟩=>⟨q,e,nq,R.hid L (ne nq)⟩) r,nn⟩
theorem mV.hid0 (h:mV K H0 H C p mv pt lk) (L:qK A H) (n:∀a,A a=true->H0 a≠none):mV K H0 (fg A H) C p mv pt lk:=by
 obtain ⟨dx,a,b,c,g,n1,n2,n3,g1,g2,g3⟩:=h
 have ne:∀{q},H0 q=none->A q=false:=λ{q} h=>by
  cases e:A q with
  | false=>rfl
  | true=>exact absurd h (n q e)
 refine ⟨dx,a,b,c,iZ g ?_,n1,n2,n3,g1.hid0 L n (ne n1),g2.hid0 L n (ne n2),g3.hid0 L n (ne n3)⟩;cases e:A p with
 | false=>rfl
 | true=>obtain ⟨vs,g'⟩:=L p e;rw[g] at g';cases g'
theorem fK.hid0 (h:fK K H0 H p mv pt lk) (L:qK A H) (n:∀a,A a=true->H0 a≠none):fK K H0 (fg A H) p mv pt lk:=by
 obtain ⟨a,b,c,g,n1,n2,n3,g1,g2,g3⟩:=h
 have ne:∀{q},H0 q=none->A q=false:=λ{q} h=>by
  cases e:A q with
  | false=>rfl
  | true=>exact absurd h (n q e)
 exact ⟨a,b,c,iZ g (L.tup g),n1,n2,n3,g1.hid0 L n (ne n1),g2.hid0 L n (ne n2),g3.hid0 L n (ne n3)⟩
end
def vo (n:Nat) (W:Nat->Nat->Rat) (p:Nat->Rat) (r:Rat) (c e:Nat):Rat:=W c e - ((aM n λf=>W c f*p f) / (r+aM n λg=>p g*aM n λf=>W g f*p f))*(aM n λg=>p g*W g e)
section
variable {n:Nat} {sd W:Nat->Nat->Rat} {ow:Nat->Rat} {i j k:Nat}
theorem Ov (hi:i≠k) (hj:j≠k):stN n sd W ow i j - stN n sd W ow k j / stN n sd W ow k k*stN n sd W ow i k=stN n sd (vo n W (sd k) (ow k)) ow i j:=by
 have e0:stN n sd W ow k k=ow k+aM n λg=>sd k g*aM n λf=>W g f*sd k f:=by
  unfold stN;rw[if_pos rfl,zf]
 have e1:stN n sd W ow k j=aM n λc=>sd j c*aM n λf=>W c f*sd k f:=by
  unfold stN;rw[if_neg (Ne.symm hj),c8]
 have e2:stN n sd W ow i k=aM n λe=>(aM n λg=>sd k g*W g e)*sd i e:=by
  unfold stN;rw[if_neg hi,c8]
  rw[aE (g:=λc=>aM n λe=>sd k c*W c e*sd i e) λc _=>by
   rw[<- cw];exact aE λe _=>by grind]
  rw[ja];refine aE λe _=>?_
  rw[cT,<- cw];exact aE λg _=>by grind
 rw[e0,e1,e2];unfold vo;generalize hd:(ow k+aM n λg=>sd k g*aM n λf=>W g f*sd k f)=d;unfold stN
 have e3:(aM n λc=>sd j c*aM n λe=>(W c e - (aM n λf=>W c f*sd k f) / d*(aM n λg=>sd k g*W g e))*sd i e)=(aM n λc=>sd j c*aM n λe=>W c e*sd i e) - (aM n λc=>sd j c*aM n λf=>W c f*sd k f) / d*aM n λe=>(aM n λg=>sd k g*W g e)*sd i e:=by
  rw[bf,dE,cT (aM n λc=>sd j c*aM n λf=>W c f*sd k f),<- cw,<- qY];refine aE λc _=>?_
  have e4:(aM n λe=>(W c e - (aM n λf=>W c f*sd k f) / d*(aM n λg=>sd k g*W g e))*sd i e)=(aM n λe=>W c e*sd i e) - ((aM n λf=>W c f*sd k f) / d)*aM n λe=>(aM n λg=>sd k g*W g e)*sd i e:=by
   rw[<- cw,<- qY];exact aE λe _=>by grind
  rw[e4,bf];grind
 rw[e3];grind
end
def FC (W:Nat->Nat->Rat):Rat:=W 0 0*W 1 1 - W 0 1*W 1 0
theorem vJ {d x t y z:Rat} (h:d*t=z):d*(x - t*y)=d*x - z*y:=by
 rw[<- h];grind
theorem M7 {a b c p q r t u:Rat} (ht:(r+(p*(a*p+b*q)+q*(b*p+c*q)))*t=a*p+b*q) (hu:(r+(p*(a*p+b*q)+q*(b*p+c*q)))*u=b*p+c*q) :
  (r+(p*(a*p+b*q)+q*(b*p+c*q)))*(a - t*(p*a+q*b))=r*a+(a*c - b*b)*(q*q) /\
  (r+(p*(a*p+b*q)+q*(b*p+c*q)))*(b - t*(p*b+q*c))=r*b - (a*c - b*b)*(p*q) /\
  (r+(p*(a*p+b*q)+q*(b*p+c*q)))*(b - u*(p*a+q*b))=r*b - (a*c - b*b)*(p*q) /\
  (r+(p*(a*p+b*q)+q*(b*p+c*q)))*(c - u*(p*b+q*c))=r*c+(a*c - b*b)*(p*p):=by
 refine ⟨?_,?_,?_,?_⟩
 ·rw[vJ ht];grind
 ·rw[vJ ht];grind
 ·rw[vJ hu];grind
 ·rw[vJ hu];grind
theorem M8 {d r D A B B' C a b c p q:Rat} (hd:d≠0) (ed:d=r+(p*(a*p+b*q)+q*(b*p+c*q))) (eD:D=a*c - b*b) (hA:d*A=r*a+D*(q*q)) (hB:d*B=r*b - D*(p*q)) (hB':d*B'=r*b - D*(p*q)) (hC:d*C=r*c+D*(p*p)):d*(A*C - B*B')=r*D:=by
 have h:d*(d*(A*C - B*B'))=d*(r*D):=by
  have e:d*(d*(A*C - B*B'))=d*A*(d*C) - d*B*(d*B'):=by grind
  rw[e,hA,hB,hB',hC];grind
 have h2:=congrArg (λx=>d⁻¹*x) h;simp only[<- dE,ij d hd,gH] at h2;grind
section
variable {W:Nat->Nat->Rat} {p:Nat->Rat} {r:Rat}
def oR (n:Nat) (W:Nat->Nat->Rat) (p:Nat->Rat) (r:Rat):Rat:=r+aM n λg=>p g*aM n λf=>W g f*p f
theorem lF:aM 2 f=f 0+f 1:=by
 show (aM 0 f+f 0)+f 1=_
 show ((0:Rat)+f 0)+f 1=_
 rw[zb]
theorem rd2 (sy:W 1 0=W 0 1) (hd:oR 2 W p r≠0) :
  oR 2 W p r*vo 2 W p r 0 0=r*W 0 0+FC W*(p 1*p 1) /\
  oR 2 W p r*vo 2 W p r 0 1=r*W 0 1 - FC W*(p 0*p 1) /\
  oR 2 W p r*vo 2 W p r 1 0=r*W 0 1 - FC W*(p 0*p 1) /\
  oR 2 W p r*vo 2 W p r 1 1=r*W 1 1+FC W*(p 0*p 0) /\
  oR 2 W p r*FC (vo 2 W p r)=r*FC W:=by
 have ep:oR 2 W p r=r+(p 0*(W 0 0*p 0+W 0 1*p 1)+p 1*(W 0 1*p 0+W 1 1*p 1)):=by
  unfold oR;simp only[lF,sy]
 have er:∀c e,vo 2 W p r c e=W c e - ((W c 0*p 0+W c 1*p 1) / oR 2 W p r)*(p 0*W 0 e+p 1*W 1 e):=λc e=>by
  unfold vo oR;simp only[lF]
 have hq:∀x,oR 2 W p r*(x / oR 2 W p r)=x:=λx=>by
  rw[bf,cT x,<- dE,c7 _ hd,gH]
 have eD:FC W=W 0 0*W 1 1 - W 0 1*W 0 1:=by unfold FC;rw[sy]
 have h0:=hq (W 0 0*p 0+W 0 1*p 1);have h1:=hq (W 0 1*p 0+W 1 1*p 1);have e00:=er 0 0;have e01:=er 0 1;have e10:=er 1 0;have e11:=er 1 1;rw[sy] at e00 e10 e11;generalize (W 0 0*p 0+W 0 1*p 1) / oR 2 W p r=t at h0 e00 e01;generalize (W 0 1*p 0+W 1 1*p 1) / oR 2 W p r=u at h1 e10 e11;rw[ep] at h0 h1;obtain ⟨k1,k2,k3,k4⟩:=M7 h0 h1;rw[<- ep] at k1 k2 k3 k4;rw[<- eD] at k1 k2 k3 k4;rw[<- e00] at k1;rw[<- e01] at k2;rw[<- e10] at k3;rw[<- e11] at k4;refine ⟨k1,k2,k3,k4,?_⟩;exact M8 hd ep eD k1 k2 k3 k4
end
section
variable {n:Nat} {W:Nat->Nat->Rat} {p z u v:Nat->Rat} {r s:Rat}
def vZ (n:Nat) (W:Nat->Nat->Rat) (u v:Nat->Rat):Rat:=aM n λi=>u i*aM n λj=>W i j*v j
theorem DN (sy:∀i j,i < n->j < n->W i j=W j i):vZ n W u v=vZ n W v u:=by
 unfold vZ
 rw[aE (g:=λi=>aM n λj=>v j*(W j i*u i)) λi hi=>by
  rw[<- cw];exact aE λj hj=>by rw[sy i j hi hj];grind]
 rw[ja];exact aE λj _=>by rw[cw]
theorem GD:vZ n W (λi=>u i - s*u' i) v=vZ n W u v - s*vZ n W u' v:=by
 unfold vZ;rw[<- cw,<- qY];exact aE λi _=>by grind
theorem RU:gW n (vo n W p r) z=gW n W z - vZ n W z p / oR n W p r*vZ n W p z:=by
 have h:=Ov (n:=n) (sd:=λk=>if k=0 then p else z) (W:=W) (ow:=λk=>if k=0 then r else 0) (i:=1) (j:=1) (k:=0) (by decide) (by decide);unfold stN at h;simp only[if_pos,if_neg (show ¬(1:Nat)=0 by decide),if_neg (show ¬(0:Nat)=1 by decide),c8] at h;unfold gW vZ oR;rw[<- h,zf r]
theorem F3 (sy:∀i j,i < n->j < n->W i j=W j i):gW n W (λi=>z i - s*p i)=gW n W z - s*vZ n W z p - s*vZ n W p z+s*s*vZ n W p p:=by
 show vZ n W (λi=>z i - s*p i) (λi=>z i - s*p i)=vZ n W z z - s*vZ n W z p - s*vZ n W p z+s*s*vZ n W p p
 rw[GD,DN sy (u:=z),DN sy (u:=p) (v:=λi=>z i - s*p i),GD,GD,DN sy (u:=z) (v:=p)];grind
theorem Kt (sy:∀i j,i < n->j < n->W i j=W j i) (r0:0 < r) (ps:∀z,0<=gW n W z):0 < oR n W p r/\0<=gW n (vo n W p r) z/\gW n (vo n W p r) z<=gW n W z:=by
 have pp:oR n W p r=r+gW n W p:=rfl
 have d0:0 < oR n W p r:=by
  have:=ps p;rw[pp];grind
 have dn:oR n W p r≠0:=by grind
 have hq:oR n W p r*(vZ n W z p / oR n W p r)=vZ n W z p:=by
  rw[bf,cT (vZ n W z p),<- dE,c7 _ dn,gH]
 have hm:=F3 (s:=vZ n W z p / oR n W p r) (z:=z) (p:=p) sy;have hp:=ps λi=>z i - vZ n W z p / oR n W p r*p i
 have e:=RU (n:=n) (W:=W) (p:=p) (z:=z) (r:=r);have sb:=DN sy (u:=p) (v:=z);rw[sb] at e hm
 have pb:vZ n W p p=oR n W p r - r:=by
  have:vZ n W p p=gW n W p:=rfl;rw[this,pp];grind
 rw[pb] at hm;generalize vZ n W z p / oR n W p r=t at hq hm hp e;generalize vZ n W z p=y at hq hm e;generalize oR n W p r=d at hq hm d0 dn;rw[hm] at hp;rw[e];have t2:0<=t*t:=by have:=Kc (a:=t) (w:=1) (by decide);rwa [bf,show (1:Rat)⁻¹=1 from by grind,fM] at this
 have e1:t*y=d*(t*t):=by rw[<- hq];grind
 have n1:0<=d*(t*t):=dW (cm d0) t2;have n2:0<=r*(t*t):=dW (cm r0) t2;refine ⟨d0,?_,?_⟩
 ·have e2:t*t*(d - r)=d*(t*t) - r*(t*t):=by grind
  rw[e2] at hp;grind
 ·grind
end
def cY (x:Rat):Prop:=∃z:Int,x=(z:Rat)
section
variable {x y:Rat}
theorem cY.add (h:cY x) (k:cY y):cY (x+y):=by
 obtain ⟨a,rfl⟩:=h;obtain ⟨b,rfl⟩:=k;exact ⟨a+b,by rw[jO]⟩
theorem cY.sub (h:cY x) (k:cY y):cY (x - y):=by
 obtain ⟨a,rfl⟩:=h;obtain ⟨b,rfl⟩:=k;exact ⟨a - b,by rw[Mm]⟩
theorem cY.mul (h:cY x) (k:cY y):cY (x*y):=by
 obtain ⟨a,rfl⟩:=h;obtain ⟨b,rfl⟩:=k;exact ⟨a*b,by rw[aJ]⟩
theorem cY.of (h:cY x) (e:y=x):cY y:=by rw[e];exact h
end
section
variable {W:Nat->Nat->Rat} {p:Nat->Rat} {r β κ:Rat}
structure OY (W:Nat->Nat->Rat) (β:Rat):Prop where
 b:cY β
 w0:cY (W 0 0*β)
 w1:cY (W 0 1*β)
 w2:cY (W 1 1*β)
 d:cY (FC W*β)
theorem OY.rd (h:OY W β) (sy:W 1 0=W 0 1) (hd:oR 2 W p r≠0) (kr:cY (κ*r)) (k0:cY (κ*(p 0*p 0))) (k1:cY (κ*(p 0*p 1))) (k2:cY (κ*(p 1*p 1))):OY (vo 2 W p r) (κ*β*oR 2 W p r)/\vo 2 W p r 1 0=vo 2 W p r 0 1:=by
 obtain ⟨e1,e2,e3,e4,e5⟩:=rd2 sy hd
 have ep:oR 2 W p r=r+(p 0*(W 0 0*p 0+W 0 1*p 1)+p 1*(W 0 1*p 0+W 1 1*p 1)):=by
  unfold oR;simp only[lF,sy]
 have sc:vo 2 W p r 1 0=vo 2 W p r 0 1:=by
  have h:=e3.trans e2.symm;have h2:=congrArg (λx=>(oR 2 W p r)⁻¹*x) h;simp only[<- dE,ij _ hd,gH] at h2;exact h2
 refine ⟨⟨?_,?_,?_,?_,?_⟩,sc⟩
 ·exact cY.of (((kr.mul h.b).add ((k0.mul h.w0).add (k1.mul h.w1))).add ((k1.mul h.w1).add (k2.mul h.w2))) (by rw[ep];grind)
 ·exact cY.of ((kr.mul h.w0).add (h.d.mul k2)) (by rw[show vo 2 W p r 0 0*(κ*β*oR 2 W p r)=κ*β*(oR 2 W p r*vo 2 W p r 0 0) by grind,e1];grind)
 ·exact cY.of ((kr.mul h.w1).sub (h.d.mul k1)) (by rw[show vo 2 W p r 0 1*(κ*β*oR 2 W p r)=κ*β*(oR 2 W p r*vo 2 W p r 0 1) by grind,e2];grind)
 ·exact cY.of ((kr.mul h.w2).add (h.d.mul k0)) (by rw[show vo 2 W p r 1 1*(κ*β*oR 2 W p r)=κ*β*(oR 2 W p r*vo 2 W p r 1 1) by grind,e4];grind)
 ·exact cY.of (kr.mul h.d) (by rw[show FC (vo 2 W p r)*(κ*β*oR 2 W p r)=κ*β*(oR 2 W p r*FC (vo 2 W p r)) by grind,e5];grind)
end
section
variable {W sd:Nat->Nat->Rat} {ow:Nat->Rat} {β m o:Rat}
theorem NI {a b c s t u v g h:Rat}:(s*(a*s+b*t)+t*(b*s+c*t)+g)*(u*(a*u+b*v)+v*(b*u+c*v)+h) - (u*(a*s+b*t)+v*(b*s+c*t))*(s*(a*u+b*v)+t*(b*u+c*v))=(s*v - t*u)*(s*v - t*u)*(a*c - b*b)+g*(u*(a*u+b*v)+v*(b*u+c*v))+h*(s*(a*s+b*t)+t*(b*s+c*t))+g*h:=by grind
theorem DO (ha:cY (a*β)) (hb:cY (b*β)) (hc:cY (c*β)) (hs:cY (m*s)) (ht:cY (m*t)) (hu:cY (m*u)) (hv:cY (m*v)):cY (m*m*β*(u*(a*s+b*t)+v*(b*s+c*t))) :=
 cY.of (((hu.mul hs).mul ha).add (((hu.mul ht).mul hb).add (((hv.mul hs).mul hb).add ((hv.mul ht).mul hc)))) (by grind)
theorem OY.st (h:OY W β) (sy:W 1 0=W 0 1) (im:cY m) (io:cY o) (s0:cY (m*sd 0 0)) (s1:cY (m*sd 0 1)) (s2:cY (m*sd 1 0)) (s3:cY (m*sd 1 1)) (o0:cY (o*ow 0)) (o1:cY (o*ow 1)):OY (stN 2 sd W ow) (o*o*(m*m*(m*m))*β)/\stN 2 sd W ow 1 0=stN 2 sd W ow 0 1:=by
 have e00:stN 2 sd W ow 0 0=sd 0 0*(W 0 0*sd 0 0+W 0 1*sd 0 1)+sd 0 1*(W 0 1*sd 0 0+W 1 1*sd 0 1)+ow 0:=by
  unfold stN;simp only[lF,sy,if_pos]
 have e01:stN 2 sd W ow 0 1=sd 1 0*(W 0 0*sd 0 0+W 0 1*sd 0 1)+sd 1 1*(W 0 1*sd 0 0+W 1 1*sd 0 1):=by
  unfold stN;simp only[lF,sy,if_neg (show ¬(0:Nat)=1 by decide),c8]
 have e10:stN 2 sd W ow 1 0=sd 0 0*(W 0 0*sd 1 0+W 0 1*sd 1 1)+sd 0 1*(W 0 1*sd 1 0+W 1 1*sd 1 1):=by
  unfold stN;simp only[lF,sy,if_neg (show ¬(1:Nat)=0 by decide),c8]
 have e11:stN 2 sd W ow 1 1=sd 1 0*(W 0 0*sd 1 0+W 0 1*sd 1 1)+sd 1 1*(W 0 1*sd 1 0+W 1 1*sd 1 1)+ow 1:=by
  unfold stN;simp only[lF,sy,if_pos]
 have eD:FC W=W 0 0*W 1 1 - W 0 1*W 0 1:=by unfold FC;rw[sy]
 have b00:=DO h.w0 h.w1 h.w2 s0 s1 s0 s1;have b01:=DO h.w0 h.w1 h.w2 s0 s1 s2 s3;have b11:=DO h.w0 h.w1 h.w2 s2 s3 s2 s3;have mm:=im.mul im;have dt:=(s0.mul s3).sub (s1.mul s2);have hd:cY ((W 0 0*W 1 1 - W 0 1*W 0 1)*β):=by rw[<- eD];exact h.d
 have hb:=h.b;refine ⟨⟨((io.mul io).mul (mm.mul mm)).mul hb,?_,?_,?_,?_⟩,by rw[e10,e01];grind⟩
 ·rw[e00];generalize sd 0 0*(W 0 0*sd 0 0+W 0 1*sd 0 1)+sd 0 1*(W 0 1*sd 0 0+W 1 1*sd 0 1)=x at b00;exact cY.of (((io.mul io).mul (mm.mul b00)).add ((io.mul o0).mul ((mm.mul mm).mul hb))) (by grind)
 ·rw[e01];generalize sd 1 0*(W 0 0*sd 0 0+W 0 1*sd 0 1)+sd 1 1*(W 0 1*sd 0 0+W 1 1*sd 0 1)=x at b01;exact cY.of ((io.mul io).mul (mm.mul b01)) (by grind)
 ·rw[e11];generalize sd 1 0*(W 0 0*sd 1 0+W 0 1*sd 1 1)+sd 1 1*(W 0 1*sd 1 0+W 1 1*sd 1 1)=x at b11;exact cY.of (((io.mul io).mul (mm.mul b11)).add ((io.mul o1).mul ((mm.mul mm).mul hb))) (by grind)
 ·have ed:FC (stN 2 sd W ow)=(sd 0 0*sd 1 1 - sd 0 1*sd 1 0)*(sd 0 0*sd 1 1 - sd 0 1*sd 1 0)*(W 0 0*W 1 1 - W 0 1*W 0 1)+ow 0*(sd 1 0*(W 0 0*sd 1 0+W 0 1*sd 1 1)+sd 1 1*(W 0 1*sd 1 0+W 1 1*sd 1 1))+ow 1*(sd 0 0*(W 0 0*sd 0 0+W 0 1*sd 0 1)+sd 0 1*(W 0 1*sd 0 0+W 1 1*sd 0 1))+ow 0*ow 1:=by
   unfold FC;rw[e00,e01,e10,e11];exact NI
  rw[ed];generalize sd 0 0*(W 0 0*sd 0 0+W 0 1*sd 0 1)+sd 0 1*(W 0 1*sd 0 0+W 1 1*sd 0 1)=x at b00;generalize sd 1 0*(W 0 0*sd 1 0+W 0 1*sd 1 1)+sd 1 1*(W 0 1*sd 1 0+W 1 1*sd 1 1)=y at b11;generalize W 0 0*W 1 1 - W 0 1*W 0 1=z at hd;refine cY.of ((((io.mul io).mul ((dt.mul dt).mul hd)).add ((io.mul o0).mul (mm.mul b11))).add (((io.mul o1).mul (mm.mul b00)).add ((o0.mul o1).mul ((mm.mul mm).mul hb)))) ?_;grind
end
section
variable {n:Nat} {W sd:Nat->Nat->Rat} {ow p z:Nat->Rat} {r:Rat}
theorem Pt (sy:∀i j,i < n->j < n->W i j=W j i):∀i j,i < n->j < n->vo n W p r i j=vo n W p r j i:=λi j hi hj=>by
 have x:∀c,c < n->(aM n λg=>p g*W g c)=aM n λf=>W c f*p f:=λc hc=>aE λg hg=>by rw[sy g c hg hc,cT]
 unfold vo;rw[x i hi,x j hj,sy i j hi hj,bf,bf];grind
def xR (n:Nat) (sd W:Nat->Nat->Rat) (ow:Nat->Rat):Nat->Nat->Nat->Rat
 | 0=>W
 | k+1=>vo n (xR n sd W ow k) (sd k) (ow k)
theorem F1 (sy:∀i j,i < n->j < n->W i j=W j i) (ps:∀z,0<=gW n W z):∀k,(∀i,i < k->0 < ow i)->(∀i j,i < n->j < n->xR n sd W ow k i j=xR n sd W ow k j i)/\(∀z,0<=gW n (xR n sd W ow k) z)/\∀z,gW n (xR n sd W ow k) z<=gW n W z
 | 0,_=>⟨sy,ps,λ_=>Cj⟩
 | k+1,h=>by
  obtain ⟨a,b,c⟩:=F1 sy ps k λi hi=>h i (by lia)
  have o:=h k (by lia);exact ⟨Pt a,λz=>(Kt a o b).2.1,λz=>iP (Kt a o b).2.2 (c z)⟩
theorem Ph (hi:i≠k) (hj:j≠k):stN n sd (xR n sd W ow k) ow i j - stN n sd (xR n sd W ow k) ow k j / stN n sd (xR n sd W ow k) ow k k*stN n sd (xR n sd W ow k) ow i k=stN n sd (xR n sd W ow (k+1)) ow i j:=Ov hi hj
end
section
variable {n:Nat} {W:Nat->Nat->Rat}
def Ct (i k:Nat):Rat:=if k=i then 1 else 0
theorem qh (hi:i < n) (hj:j < n):vZ n W (Ct i) (Ct j)=W i j:=by
 have e:∀c,(aM n λf=>W c f*Ct j f)=W c j:=λc=>by
  rw[jT (i:=j) hj λf _ nf=>by unfold Ct;rw[if_neg nf,gX]];unfold Ct;rw[if_pos rfl,fM]
 unfold vZ
 rw[jT (i:=i) hi λc _ nc=>by
  show Ct i c*_=0
  unfold Ct;rw[if_neg nc,ck]]
 rw[e i];unfold Ct;rw[if_pos rfl,gH]
theorem C0 (hi:i < n):gW n W (Ct i)=W i i:=qh hi hi
theorem Nf (sy:∀i j,i < n->j < n->W i j=W j i) (ps:∀z,0<=gW n W z) {V:Rat} (hi:i < n) (hj:j < n) (vi:W i i<=V) (vj:W j j<=V):- V<=W i j/\W i j<=V:=by
 have a:=F3 (n:=n) (s:=1) (z:=Ct i) (p:=Ct j) sy;have b:=F3 (n:=n) (s:=-1) (z:=Ct i) (p:=Ct j) sy;have a0:=ps λk=>Ct i k - 1*Ct j k
 have b0:=ps λk=>Ct i k - (-1)*Ct j k
 rw[a,C0 hi,qh hi hj,qh hj hi,qh hj hj,sy j i hj hi] at a0;rw[b,C0 hi,qh hi hj,qh hj hi,qh hj hj,sy j i hj hi] at b0;constructor <;> grind
end
section
variable {mv pt lk:LR9} {qs rs:List Rat} {wl sl ls:List (List Int)} {wb ob sb b:Int} {ot:List Int} {σ ω n m N W0:Nat}
theorem NF {l:LR9} (h:xs∈l) (hx:x∈xs):nm x∈l.flatten.map nm:=aw.mpr ⟨x,cJ.mpr ⟨_,h,hx⟩,rfl⟩
theorem JZ (hM:qo M (mv.flatten.map nm)):((((nU mv).getD i []).getD l 0:Int):Rat)=lI mv i l*(qO mv:Rat):=by
 unfold lI nU;rw[ae (l:=List.map _ mv),ay,ae (l:=mv)];cases e:mv[i]? with
 | none =>
  show (((([]:List Int).getD l 0:Int)):Rat)=([]:List Rat).getD l 0*_
  rw[ae,ae];show ((0:Int):Rat)=0*_
  rw[ck];rfl
 | some xs =>
  show (((bW (xs.map nm) (qO mv)).getD l 0:Int):Rat)=xs.getD l 0*_
  unfold bW;rw[ae,ay,ay,ae];cases e2:xs[l]? with
  | none =>
   show ((0:Int):Rat)=0*_
   rw[ck];rfl
  | some x=>exact lE (o7 (NF (ao e) (ao e2)))
theorem Gz {a b:Int} (hb:b≠0) (h:cY ((a:Rat) / (b:Rat))):b∣a:=by
 obtain ⟨z,e⟩:=h;have b0:(b:Rat)≠0:=λq=>hb (mS q)
 refine ⟨z,?_⟩
 have h1:(a:Rat)=(b:Rat)*(z:Rat):=by
  rw[<- e,bf,cT (a:Rat),<- dE,c7 _ b0,gH]
 rw[<- aJ] at h1;exact d4.mp h1
theorem KR (v:List Int) (hi:i < ls.length):(rT ls v).getD i 0=Be (ls.getD i []) v:=by
 unfold rT;rw[ae,ay,ae,af hi];rfl
theorem Ib:(rT ls v).length=ls.length:=ag ..
def jS (wl:List (List Int)) (wb:Int) (i j:Nat):Rat:=dS wl i j / (wb:Rat)
theorem Sq (hs:∀l∈sl,l.length=n) (lw:wl.length=n) (ww:∀l∈wl,l.length=n) (hi:i < sl.length) (hj:j < sl.length):dS (EX sl wl ob) i j=(aM n λc=>dS sl j c*aM n λe=>dS wl c e*dS sl i e)*(ob:Rat):=by
 have e1:(EX sl wl ob).getD i []=(rT sl (rT wl (sl.getD i []))).map λz=>z*ob:=by
  unfold EX;rw[ae,ay,ae,af hi];rfl
 have hl:∀v,(rT sl v).length=sl.length:=λv=>Ib
 have e2:((EX sl wl ob).getD i []).getD j 0=Be (sl.getD j []) (rT wl (sl.getD i []))*ob:=by
  rw[e1,<- KR _ hj];generalize rT wl (sl.getD i [])=v;rw[ae,ay,ae,af (by rw[hl];exact hj)];rfl
 unfold dS;rw[e2,aJ,xu (hs _ (getD_in hj)) (Ib.trans lw)];congr 1;refine aE λc hc=>?_
 rw[KR _ (by lia),xu (ww _ (getD_in (by lia))) (hs _ (getD_in hi))]
theorem wO (S:FD mv pt qs rs σ ω) (D:gQ mv pt lk) (lw:wl.length=mv.length) (ww:∀l∈wl,l.length=mv.length) (hb:0 < wb) (hi:i < pt.length+mv.length) (hj:j < pt.length+mv.length) :
  dS (bZ mv pt qs rs wl wb) i j=(ic mv pt qs rs wb:Rat)*stN mv.length (lI (il mv pt)) (jS wl wb) (λi=>(iF qs rs).getD i 0) i j:=by
 obtain ⟨M,hM⟩:=S.ms;have lsd:(nU (il mv pt)).length=pt.length+mv.length:=by rw[uY,zw]
 have wsd:∀l∈nU (il mv pt),l.length=mv.length:=wN (yT D);have wb0:(wb:Rat)≠0:=λq=>by have:=mS q;lia
 have lo:(iF qs rs).length=pt.length+mv.length:=by unfold iF;rw[aF,S.lr,S.lq]
 have e1:dS (bZ mv pt qs rs wl wb) i j=dS (EX (nU (il mv pt)) wl (cA ((iF qs rs).map nm))) i j+if i=j then (((bW ((iF qs rs).map nm) (cA ((iF qs rs).map nm))).getD i 0:Int):Rat)*((qO (il mv pt)*qO (il mv pt)*wb:Int):Rat) else 0:=by
  unfold bZ Te dS;rw[LM (n:=pt.length+mv.length) (by rw[xn,lsd]) (λl hl=>by rw[yW l hl,lsd]) hi hj _ (by lia),jO];congr 1;by_cases e:i=j
  ·rw[if_pos ⟨e,by lia⟩,if_pos e,aJ]
  ·rw[if_neg λz=>e z.1,if_neg e];rfl
 have tv:∀i c,dS (nU (il mv pt)) i c=lI (il mv pt) i c*(qO (il mv pt):Rat):=λi c=>JZ hM
 have wv:∀c e,dS wl c e=(wb:Rat)*jS wl wb c e:=λc e=>by
  unfold jS;rw[bf,cT (dS wl c e),<- dE,c7 _ wb0,gH]
 have ov:(((bW ((iF qs rs).map nm) (cA ((iF qs rs).map nm))).getD i 0:Int):Rat)=(iF qs rs).getD i 0*((cA ((iF qs rs).map nm):Int):Rat):=G9;rw[e1,Sq wsd lw ww (by lia) (by lia),ov]
 have e2:(aM mv.length λc=>dS (nU (il mv pt)) j c*aM mv.length λe=>dS wl c e*dS (nU (il mv pt)) i e)=((qO (il mv pt):Rat)*(qO (il mv pt):Rat)*(wb:Rat))*aM mv.length λc=>lI (il mv pt) j c*aM mv.length λe=>jS wl wb c e*lI (il mv pt) i e:=by
  rw[<- cw];refine aE λc _=>?_
  rw[tv,aE (g:=λe=>((wb:Rat)*(qO (il mv pt):Rat))*(jS wl wb c e*lI (il mv pt) i e)) λe _=>by rw[wv,tv];grind,cw];grind
 rw[e2];unfold stN ic;simp only[aJ];by_cases e:i=j
 ·rw[if_pos e,if_pos e];grind
 ·rw[if_neg e,if_neg e];grind
theorem DK (l1:(dw ls k).1.length=N) (w1:∀l∈(dw ls k).1,l.length=N) (d1:0 < (dw ls k).2) (B:wH (dS ls) N k (λi=>i) (λj=>j) (dS (dw ls k).1) ((dw ls k).2:Rat)) (kN:k < N) (hW:1<=W0) (ha:∀i,i < N->∀c,Fr 1 W0 (dS ls i c)) (ps:∀z:Nat->Rat,z k=1->0 < gW N (dS ls) z) :
  ((dw ls (k+1)).1.length=N/\(∀l∈(dw ls (k+1)).1,l.length=N)/\0 < (dw ls (k+1)).2/\wH (dS ls) N (k+1) (λi=>i) (λj=>j) (dS (dw ls (k+1)).1) ((dw ls (k+1)).2:Rat))/\((dw ls (k+1)).2:Rat)=dS (dw ls k).1 k k/\∀i c,i < N->i≠k->dS (dw ls (k+1)).1 i c=(dS (dw ls k).1 k k*dS (dw ls k).1 i c - dS (dw ls k).1 i k*dS (dw ls k).1 k c) / ((dw ls k).2:Rat):=by
 have dq:(0:Rat) < ((dw ls k).2:Rat):=cI.mpr d1;have p0:0 < dS (dw ls k).1 k k:=N3 B dq kN ps;have B2:=B.step kN (c0:=k) (by grind)
 have fc:=λi (hi:i < N)=>Lp (P:=k) (b:=(dw ls k).2) w1 (k:=k) (by lia) (by lia) (i:=i) (by lia) λc=>by
  by_cases e:i=k
  ·subst e;refine ⟨0,?_⟩;rw[show dS (dw ls i).1 i i*dS (dw ls i).1 i c - dS (dw ls i).1 i i*dS (dw ls i).1 i c=0 by grind,bf,ck];rfl
  ·have:=NC (B2.fr (N:=k+2) (by lia) hW ha hi (c:=c));simp only[if_neg e] at this;exact this
 have ek:∀c,dS (dw ls (k+1)).1 k c=dS (dw ls k).1 k c:=λc=>by
  have:=fc k kN c;rwa [if_pos rfl] at this
 have e2:((dw ls (k+1)).2:Rat)=dS (dw ls k).1 k k:=ek k;refine ⟨⟨by show (JE ..).length=N;rw[QD,l1],IH w1 (by lia),?_,?_⟩,e2,λi c hi ne=>?_⟩
 ·have:(0:Rat) < ((dw ls (k+1)).2:Rat):=by rw[e2];exact p0
  exact cI.mp this
 ·rw[e2];refine B2.congr (λj hj=>?_) λi hi c=>?_
  ·by_cases e:j=k
   ·rw[if_pos e,e]
   ·rw[if_neg e]
  ·exact fc i hi c
 ·have:=fc i hi c;rwa [if_neg ne] at this
theorem LH (len:ls.length=N) (wide:∀l∈ls,l.length=N) (mN:m<=N) (hW:1<=W0) (ha:∀i,i < N->∀c,Fr 1 W0 (dS ls i c)) (ps:∀k,k < m->∀z:Nat->Rat,z k=1->0 < gW N (dS ls) z):∀k,k<=m->(dw ls k).1.length=N/\(∀l∈(dw ls k).1,l.length=N)/\0 < (dw ls k).2/\wH (dS ls) N k (λi=>i) (λj=>j) (dS (dw ls k).1) ((dw ls k).2:Rat)
 | 0,_=>⟨len,wide,(show (0:Int) < 1 by decide),wH.start λ_ _=>rfl⟩
 | k+1,hk=>by
  obtain ⟨l1,w1,d1,B⟩:=LH len wide mN hW ha ps k (by lia);exact (DK l1 w1 d1 B (by lia) hW ha (ps k hk)).1
end
section
variable {a l W sd:Nat->Nat->Rat} {ow f z:Nat->Rat} {m n k N:Nat} {d:Rat}
theorem my:aM (m+n) f=aM m f+aM n λi=>f (m+i):=by
 induction n with
 | zero=>show aM m f=_+(0:Rat);rw[c8]
 | succ n ih =>
  show aM (m+n) f+f (m+n)=aM m f+(aM n (λi=>f (m+i))+f (m+n))
  rw[ih];grind
theorem Ik (B:wH a (m+n) m (λi=>i) (λj=>j) l d):gW n (λi j=>l (m+i) (m+j) / d) z=gW (m+n) a (DL m l d (m+n) λi=>if i < m then 0 else z (i - m)):=by
 rw[DP B λi hi=>if_pos hi]
 have h0:∀g:Nat->Rat,aM (m+n) (λi=>g i*if i < m then 0 else z (i - m))=aM n λi=>g (m+i)*z i:=λg=>by
  rw[my,d7 (k:=m) λi hi=>by rw[if_pos hi,gX],zb];refine aE λi _=>?_
  rw[if_neg (by lia),show m+i - m=i by lia]
 unfold gW;rw[aE (k:=m+n) (g:=λi=>(aM (m+n) λj=>l i j / d*if j < m then 0 else z (j - m))*if i < m then 0 else z (i - m)) λi _=>cT _ _,h0];refine aE λi _=>?_
 rw[h0 λj=>l (m+i) j / d,cT]
theorem QZ {x:Rat}:0<=x*x:=by have:=Kc (a:=x) (w:=1) (by decide);rwa [bf,show (1:Rat)⁻¹=1 from by grind,fM] at this
theorem RF (ps:∀z,0<=gW n W z) (o0:∀i,i < N->0<=ow i):0<=gW N (stN n sd W ow) z:=by
 rw[Ht];have h1:=ps λe=>aM N λi=>z i*sd i e
 have h2:=vb (f:=λi=>ow i*(z i*z i)) N λi hi=>dW (o0 i hi) QZ
 grind
theorem Pj (ps:∀z,0<=gW n W z) (o0:∀i,i < N->0<=ow i) (hk:k < N) (ok:0 < ow k) (zk:z k=1):0 < gW N (stN n sd W ow) z:=by
 rw[Ht];have h1:=ps λe=>aM N λi=>z i*sd i e
 have h2:=Cy (f:=λi=>ow i*(z i*z i)) hk λi hi=>dW (o0 i hi) QZ
 rw[zk] at h2;grind
end
structure ue (n:Nat) (wl:List (List Int)) (wb:Int) (b:Nat):Prop where
 len:wl.length=n
 wide:∀l∈wl,l.length=n
 pos:0 < wb
 ps:∀z,0<=gW n (jS wl wb) z
 sl:∀l∈wl,∀z∈l,Sz b z
 sb:Sz b wb
theorem ue.mono (h:ue n wl wb b) (l:b<=b'):ue n wl wb b':=⟨h.len,h.wide,h.pos,h.ps,λl' hl z hz=>(h.sl l' hl z hz).mono l,h.sb.mono l⟩
theorem Mw (h1:Sz k x) (h2:Sz k y):Sz (k+1) (x+y):=by
 unfold Sz at *
 have:=wJ x y;have e:2^(k+1)=2^k*2:=iQ ..;generalize 2^k=p at *
 lia
theorem uZ:Sz k 0:=d5 k
theorem Qr {z:Int} (h:z.natAbs<=W):Fr 1 W (z:Rat):=⟨z,by rw[show ((1:Nat):Rat)=1 from rfl,fM],by rw[Nat.mul_one];exact h⟩
theorem Iw (h:∀l∈ls,∀z∈l,Sz k z) (i c:Nat):Fr 1 (2^k) (dS ls i c):=by
 refine Qr (aO ?_);show Sz k _
 rw[ae (l:=ls)];cases e:ls[i]? with
 | none=>exact uZ
 | some l =>
  show Sz k (l.getD c 0)
  rw[ae];cases e2:l[c]? with
  | none=>exact uZ
  | some z=>exact h l (ao e) z (ao e2)
section
variable {mv pt lk:LR9} {qs rs:List Rat} {wl ls:List (List Int)} {wb:Int} {σ ω b n m:Nat}
theorem SI (hL:L.length=n) (w:∀l∈L,l.length=n) (h:∀l∈L,∀z∈l,Sz k z) (hf:∀i,Sz k (f i)):∀l∈Cb L f n,∀z∈l,Sz (k+1) z:=λl hl z hz=>by
 obtain ⟨i,hi,rfl⟩:=bU hl;obtain ⟨c,hc,rfl⟩:=bU hz;have hi':i < n:=by rw[uQ] at hi;lia
 have hc':c < n:=by rw[tq w n (by lia) _ (bu _)] at hc;lia
 have e:=LM (f:=f) hL w hi' hc' n (ar _);rw[ae (l:=Cb L f n),af hi,eF,ae,af hc,eF] at e;rw[e];refine Mw (h _ (getD_in (show i < L.length by lia)) _ (getD_in (by rw[w _ (getD_in (by lia))];exact hc'))) ?_
 split
 ·exact hf i
 ·exact uZ
theorem Cz (S:FD mv pt qs rs σ ω) (D:gQ mv pt lk) (lw:wl.length=mv.length) (ww:∀l∈wl,l.length=mv.length) (sw:∀l∈wl,∀z∈l,Sz b z) (sb:Sz b wb):(∀l∈bZ mv pt qs rs wl wb,∀z∈l,Sz (b+(2*σ+ω+17)) z)/\Sz (b+(2*σ+ω)) (ic mv pt qs rs wb):=by
 have lsd:(nU (il mv pt)).length=pt.length+mv.length:=by rw[uY,zw]
 have wsd:∀l∈nU (il mv pt),l.length=mv.length:=wN (yT D);have n8:=D.n8;constructor
 ·refine SI (k:=b+(2*σ+ω+16)) (xn) (λl hl=>yW l hl) (λl hl z hz=>?_) λi=>?_
  ·unfold EX at hl;obtain ⟨s,hs,rfl⟩:=aw.mp hl;obtain ⟨y,hy,rfl⟩:=aw.mp hz;unfold rT at hy;obtain ⟨r,hr,rfl⟩:=aw.mp hy;refine ((vN (k:=σ) (j:=b+σ+8) (S.ss r hr) λx hx=>?_).mul S.ob).mono (by rw[wsd r hr];lia);obtain ⟨l,hl',rfl⟩:=aw.mp hx;exact (vN (sw l hl') (S.ss s hs)).mono (by rw[ww l hl'];lia)
  ·have:Sz ω ((bW ((iF qs rs).map nm) (cA ((iF qs rs).map nm))).getD i 0):=by
    rw[ae];cases e:(bW ((iF qs rs).map nm) (cA ((iF qs rs).map nm)))[i]? with
    | none=>exact uZ
    | some z=>exact S.os z (ao e)
   exact (this.mul ((S.sb.mul S.sb).mul sb)).mono (by lia)
 ·exact (((S.sb.mul S.sb).mul sb).mul S.ob).mono (by lia)
theorem Hs (S:FD mv pt qs rs σ ω) (D:gQ mv pt lk):(bZ mv pt qs rs wl wb).length=pt.length+mv.length/\∀l∈bZ mv pt qs rs wl wb,l.length=pt.length+mv.length:=by
 have lsd:(nU (il mv pt)).length=pt.length+mv.length:=by rw[uY,zw]
 constructor
 ·show (Cb _ _ _).length=_
  rw[uQ,xn,lsd]
 ·intro l hl;rw[tq (n:=(nU (il mv pt)).length) (λl hl=>yW l hl) _ (by rw[xn];exact ar _) l hl,lsd]
theorem pw5 (hk:k<=5):(5*2^w)^k<=2^(k*(w+3)):=by
 rw[dJ k,Nat.pow_mul];refine Nat.pow_le_pow_left ?_ k;rw[tu w,aR 2 3];exact az _ (by decide)
theorem NZ (B:wH (dS ls) n k (λi=>i) (λj=>j) (dS (dw ls k).1) ((dw ls k).2:Rat)) (k4:k<=4) (ha:∀i,i < n->∀c,Fr 1 (2^w) (dS ls i c)) (ll:(dw ls k).1.length=n):Sz (4*(w+3)+1) (dw ls k).2/\∀l∈(dw ls k).1,∀z∈l,Sz (5*(w+3)+1) z:=by
 have lt:∀{e a:Nat},a<=2^e->a < 2^(e+1):=λ{e a} h=>bD h (eH (by decide) (by lia))
 have up:∀{e e':Nat},e<=e'->2^e<=2^e':=λh=>aD (by decide) h
 constructor
 ·refine lt (ak (Lo (B.dfr (N:=5) (by lia) ha)) (ak (pw5 (by lia)) (up (az _ k4))))
 ·intro l hl z hz;obtain ⟨i,hi,rfl⟩:=bU hl;obtain ⟨c,hc,rfl⟩:=bU hz;have:=B.fr (N:=5) (by lia) (d5 w) ha (i:=i) (by lia) (c:=c);unfold dS at this;rw[ae (l:=(dw ls k).1),af hi,eF,ae,af hc,eF] at this;exact lt (ak (Lo this) (ak (pw5 (by lia)) (up (az _ (by lia)))))
end
section
variable {mv pt lk:LR9} {qs rs:List Rat} {wl ls:List (List Int)} {wb:Int} {σ ω b n m:Nat}
theorem vt (h:∀i j,i < n->j < n->a i j=a' i j):gW n a z=gW n a' z:=by
 unfold gW;exact aE λi hi=>by rw[aE λj hj=>by rw[h i j hi hj]]
theorem E6 {z g:Int} (hg:0 < g) (d:g∣z):((z / g:Int):Rat)=(z:Rat) / (g:Rat):=by
 obtain ⟨y,rfl⟩:=d;have g0:(g:Rat)≠0:=λq=>by have:=mS q;lia
 rw[wL _ (by lia),aJ,bf,cT (g:Rat),dE,c7 _ g0,fM]
theorem Ij:dS (xm ls m) i j=dS (dw ls m).1 (m+i) (m+j):=by
 unfold dS;congr 1;rw[ae (l:=xm ls m),FG,ay,ae (l:=(dw ls m).1)];cases e:(dw ls m).1[m+i]? with
 | none=>rfl
 | some l =>
  show (l.drop m).getD j 0=l.getD (m+j) 0
  rw[ae,FG,ae]
theorem So {b:Int} (hb:0 < b):dS (uN b ls) i j=dS ls i j / ((AW b ls.flatten:Int):Rat):=by
 obtain ⟨p,_,h⟩:=xt (zs:=ls.flatten) hb;unfold dS uN;rw[ae (l:=List.map _ ls),ay,ae (l:=ls)];have zz:((0:Int):Rat)=((0:Int):Rat) / ((AW b ls.flatten:Int):Rat):=by rw[bf];show (0:Rat)=0*_;rw[ck]
 cases e:ls[i]? with
 | none=>exact zz
 | some l =>
  show (((l.map λz=>z / AW b ls.flatten).getD j 0:Int):Rat)=((l.getD j 0:Int):Rat) / _
  rw[ae,ay,ae];cases e2:l[j]? with
  | none=>exact zz
  | some z=>exact E6 p (h z (cJ.mpr ⟨l,ao e,ao e2⟩))
theorem qV {b:Int} (hb:0 < b):jS (uN b ls) (uU b ls) i j=dS ls i j / (b:Rat):=by
 obtain ⟨p,d,_⟩:=xt (zs:=ls.flatten) hb;have g0:((AW b ls.flatten:Int):Rat)≠0:=λq=>by have:=mS q;lia
 have b0:(b:Rat)≠0:=λq=>by have:=mS q;lia
 unfold jS;rw[So hb];unfold uU;rw[E6 p d];generalize ((AW b ls.flatten:Int):Rat)=g at g0;generalize dS ls i j=x;generalize (b:Rat)=y at b0;rw[bf,bf,bf,bf,Ml,Rat.inv_inv];rw[show x*g⁻¹*(g*y⁻¹)=x*(g⁻¹*g)*y⁻¹ by grind,ij _ g0,fM]
theorem Nu {b:Int} (hb:0 < b) (h:∀l∈ls,∀z∈l,Sz k z):(∀l∈uN b ls,∀z∈l,Sz k z)/\(uU b ls).natAbs<=b.natAbs/\0 < uU b ls:=by
 obtain ⟨p,d,dz⟩:=xt (zs:=ls.flatten) hb
 have le:∀{z:Int},AW b ls.flatten∣z->(z / AW b ls.flatten).natAbs<=z.natAbs:=λ{z} h=>by
  obtain ⟨y,rfl⟩:=h;rw[wL _ (by lia),fH];exact cM _ (by lia)
 refine ⟨λl hl z hz=>?_,le d,O1 hb (Int.le_of_lt p) d⟩;unfold uN at hl;obtain ⟨l',hl',rfl⟩:=aw.mp hl;obtain ⟨y,hy,rfl⟩:=aw.mp hz;exact (h l' hl' y hy).le (le (dz y (cJ.mpr ⟨l',hl',hy⟩)))
structure QN (mv pt:LR9) (qs rs:List Rat):Prop where
 r0:∀i,i < pt.length->0 < (iF qs rs).getD i 0
 q0:∀i,i < pt.length+mv.length->0<=(iF qs rs).getD i 0
theorem oO (hb:0 < wb):0 < ic mv pt qs rs wb:=by
 have h1:0 < qO (il mv pt):=vY;have h2:0 < cA ((iF qs rs).map nm):=vY;exact eJ (eJ (eJ h1 h1) hb) h2
section
variable (S:FD mv pt qs rs σ ω) (D:gQ mv pt lk) (W:ue mv.length wl wb b) (O:QN mv pt qs rs)
include S D W O
theorem CA:0<=gW (pt.length+mv.length) (dS (bZ mv pt qs rs wl wb)) z/\∀k,k < pt.length->z k=1->0 < gW (pt.length+mv.length) (dS (bZ mv pt qs rs wl wb)) z:=by
 have B0:(0:Rat) < ((ic mv pt qs rs wb:Int):Rat):=cI.mpr (oO W.pos)
 have e:gW (pt.length+mv.length) (dS (bZ mv pt qs rs wl wb)) z=((ic mv pt qs rs wb:Int):Rat)*gW (pt.length+mv.length) (stN mv.length (lI (il mv pt)) (jS wl wb) (λi=>(iF qs rs).getD i 0)) z:=by
  rw[<- vq];exact vt λi j hi hj=>wO S D W.len W.wide W.pos hi hj
 rw[e];refine ⟨dW (cm B0) (RF W.ps O.q0),λk hk zk=>eC B0 (Pj W.ps O.q0 (by lia) (O.r0 k hk) zk)⟩
theorem ve:∀k,k<=pt.length->(dw (bZ mv pt qs rs wl wb) k).1.length=pt.length+mv.length/\(∀l∈(dw (bZ mv pt qs rs wl wb) k).1,l.length=pt.length+mv.length)/\0 < (dw (bZ mv pt qs rs wl wb) k).2/\wH (dS (bZ mv pt qs rs wl wb)) (pt.length+mv.length) k (λi=>i) (λj=>j) (dS (dw (bZ mv pt qs rs wl wb) k).1) ((dw (bZ mv pt qs rs wl wb) k).2:Rat) :=
 LH (Hs S D).1 (Hs S D).2 (by lia) (d5 _) (λi _ c=>Iw (Cz S D W.len W.wide W.sl W.sb).1 i c) λk hk z zk=>(CA S D W O).2 k hk zk
theorem ue.next:TH (bZ mv pt qs rs wl wb) pt.length (pt.length+mv.length) (5*(b+(2*σ+ω+20))+1)/\Sz (4*(b+(2*σ+ω+20))+1) (dw (bZ mv pt qs rs wl wb) pt.length).2 /\
  ue mv.length (uN ((dw (bZ mv pt qs rs wl wb) pt.length).2*ic mv pt qs rs wb) (xm (bZ mv pt qs rs wl wb) pt.length)) (uU ((dw (bZ mv pt qs rs wl wb) pt.length).2*ic mv pt qs rs wb) (xm (bZ mv pt qs rs wl wb) pt.length)) (5*(b+(2*σ+ω+20))+1) /\
  0 < (dw (bZ mv pt qs rs wl wb) pt.length).2*ic mv pt qs rs wb:=by
 have i4:=D.i4;have sz:=Cz S D W.len W.wide W.sl W.sb;have bar:=ve S D W O;have szs:=λk (hk:k<=pt.length)=>NZ (w:=b+(2*σ+ω+17)) (bar k hk).2.2.2 (by lia) (λi _ c=>Iw sz.1 i c) (bar k hk).1
 obtain ⟨l1,w1,d1,B1⟩:=bar pt.length (ar _);obtain ⟨z1,z2⟩:=szs pt.length (ar _);have Bp:=oO (mv:=mv) (pt:=pt) (qs:=qs) (rs:=rs) W.pos;have dB:=eJ d1 Bp
 have lz:∀l∈xm (bZ mv pt qs rs wl wb) pt.length,l.length=mv.length/\∀z∈l,Sz (5*(b+(2*σ+ω+20))+1) z:=λl hl=>by
  obtain ⟨l',hl',rfl⟩:=aw.mp (gI hl);exact ⟨by rw[eI,w1 l' hl'];lia,λz hz=>(z2 l' hl' z (gI hz)).mono (by lia)⟩
 obtain ⟨q1,q2,q3⟩:=Nu dB λl hl=>(lz l hl).2
 refine ⟨⟨λk hk=>(bar k hk).1,λk hk=>(bar k hk).2.1,λk hk=>(bar k hk).2.2.1,λk hk=>(szs k hk).1.mono (by lia),λk hk l hl z hz=>((szs k hk).2 l hl z hz).mono (by lia)⟩,z1.mono (by lia),⟨?_,?_,q3,λz=>?_,q1,?_⟩,dB⟩
 ·unfold uN;rw[ag,eI,ag,l1]
  lia
 ·intro l hl;unfold uN at hl;obtain ⟨l',hl',rfl⟩:=aw.mp hl;rw[ag];exact (lz l' hl').1
 ·have Bq:(0:Rat) < ((ic mv pt qs rs wb:Int):Rat):=cI.mpr Bp
  have e:gW mv.length (jS (uN ((dw (bZ mv pt qs rs wl wb) pt.length).2*ic mv pt qs rs wb) (xm (bZ mv pt qs rs wl wb) pt.length)) (uU ((dw (bZ mv pt qs rs wl wb) pt.length).2*ic mv pt qs rs wb) (xm (bZ mv pt qs rs wl wb) pt.length))) z=(1 / ((ic mv pt qs rs wb:Int):Rat))*gW mv.length (λi j=>dS (dw (bZ mv pt qs rs wl wb) pt.length).1 (pt.length+i) (pt.length+j) / ((dw (bZ mv pt qs rs wl wb) pt.length).2:Rat)) z:=by
   rw[<- vq];refine vt λi j hi hj=>?_
   rw[qV dB,Ij,aJ,bf,bf,bf,gH,Ml];grind
  rw[e,Ik B1];refine dW ?_ (CA S D W O).1;rw[bf,gH];exact cm (Rat.inv_pos.mpr Bq)
 ·refine Sz.le ((z1.mul sz.2).mono (k:=5*(b+(2*σ+ω+20))+1) (by lia)) q2
end
end
section
variable {mv pt lk:LR9} {qs rs fs st:List Rat} {σ ω b b1 n m T:Nat}
theorem K5:(FA zs).length=zs.length/\∀l∈FA zs,l.length=zs.length:=by
 unfold FA;refine ⟨by rw[ag,bT],λl hl=>?_⟩;obtain ⟨i,_,rfl⟩:=aw.mp hl;rw[ag,bT]
theorem Sk:dS (FA zs) i j=if i=j then ((zs.getD i 0:Int):Rat) else 0:=by
 unfold dS FA;rw[ae (l:=List.map _ _),ay];by_cases hi:i < zs.length
 ·rw[b7 hi];show ((((List.range zs.length).map λj=>if j=i then zs.getD j 0 else 0).getD j 0:Int):Rat)=_
  rw[ae,ay];by_cases hj:j < zs.length
  ·rw[b7 hj];show (((if j=i then zs.getD j 0 else 0:Int)):Rat)=_
   by_cases e:i=j
   ·rw[if_pos e.symm,if_pos e,e]
   ·rw[if_neg λz=>e z.symm,if_neg e];rfl
  ·rw[a9 (by rw[bT];lia),if_neg (by lia)];rfl
 ·rw[a9 (by rw[bT];lia)];show ((([]:List Int).getD j 0:Int):Rat)=_
  by_cases e:i=j
  ·rw[if_pos e,ae (l:=zs),a9 (by lia)];rfl
  ·rw[if_neg e];rfl
theorem JW (lf:fs.length=mv.length) (f0:∀w∈fs,0<=w) (ft:∀z∈bW (fs.map nm) (cA (fs.map nm)),Sz k z) (fb:Sz k (cA (fs.map nm))):ue mv.length (bY mv pt qs rs fs 0).1.1 (bY mv pt qs rs fs 0).1.2 k/\∀i j,jS (bY mv pt qs rs fs 0).1.1 (bY mv pt qs rs fs 0).1.2 i j=if i=j then fs.getD i 0 else 0:=by
 have lt:(bW (fs.map nm) (cA (fs.map nm))).length=mv.length:=by unfold bW;rw[ag,ag,lf]
 have bp:0 < cA (fs.map nm):=vY;have b0:((cA (fs.map nm):Int):Rat)≠0:=λq=>by have:=mS q;lia
 have ev:∀i j,jS (bY mv pt qs rs fs 0).1.1 (bY mv pt qs rs fs 0).1.2 i j=if i=j then fs.getD i 0 else 0:=λi j=>by
  show dS (FA (bW (fs.map nm) (cA (fs.map nm)))) i j / ((cA (fs.map nm):Int):Rat)=_
  rw[Sk];by_cases e:i=j
  ·rw[if_pos e,if_pos e];have h:(((bW (fs.map nm) (cA (fs.map nm))).getD i 0:Int):Rat)=fs.getD i 0*((cA (fs.map nm):Int):Rat):=G9;rw[h,bf,dE,c7 _ b0,fM]
  ·rw[if_neg e,if_neg e,bf,ck]
 have fn:∀i,0<=fs.getD i 0:=λi=>by
  rw[ae];cases e:fs[i]? with
  | none=>exact Cj
  | some w=>exact f0 w (ao e)
 refine ⟨⟨K5.1.trans lt,λl hl=>(K5.2 l hl).trans lt,bp,λz=>?_,λl hl z hz=>?_,fb⟩,ev⟩
 ·unfold gW;refine vb _ λi hi=>?_
  rw[jT hi λj _ ne=>by rw[ev,if_neg (Ne.symm ne),ck],ev,if_pos rfl,show z i*(fs.getD i 0*z i)=fs.getD i 0*(z i*z i) by grind];exact dW (fn i) QZ
 ·have hl:l∈FA (bW (fs.map nm) (cA (fs.map nm))):=hl;unfold FA at hl;obtain ⟨i,_,rfl⟩:=aw.mp hl;obtain ⟨j,hj,rfl⟩:=aw.mp hz
  split
  ·rename_i e
   exact ft _ (getD_in (ui.mp hj))
  ·exact uZ
theorem Qg (S:FD mv pt qs rs σ ω) (D:gQ mv pt lk) (O:QN mv pt qs rs) (T8:T<=8) (hW:∀t,t<=T->ue mv.length (bY mv pt qs rs fs t).1.1 (bY mv pt qs rs fs t).1.2 b) (hV:∀t,t < T->ue mv.length (bY mv pt qs rs fs t).1.1 (bY mv pt qs rs fs t).1.2 b1) (hb:b<=1000*999) (h1:b1<=1000*300) (hs:2*σ+ω<=1000):OW mv pt qs rs fs T σ ω b (5*(b1+(2*σ+ω+20))+1) where
 st:=S
 t8:=T8
 l1:=by lia
 l2:=by lia
 l3:=⟨by lia,by lia⟩
 lw t ht:=(hW t ht).len
 ww t ht:=(hW t ht).wide
 sw t ht:=(hW t ht).sl
 wb t ht:=⟨(hW t ht).pos,(hW t ht).sb⟩
 kp t ht:=oO (hV t ht).pos
 ah t ht:=(ue.next S D (hV t ht) O).1
structure Ta (mv pt:LR9) (qs rs fs:List Rat) (l e:Nat):Prop where
 len:(bY mv pt qs rs fs l).2.1.length=pt.length
 wide:∀z∈(bY mv pt qs rs fs l).2.1,z.length=mv.length
 sz:∀z∈(bY mv pt qs rs fs l).2.1,∀y∈z,Sz e y
 pos:0 < -(bY mv pt qs rs fs l).2.2
 sb:Sz e (-(bY mv pt qs rs fs l).2.2)
theorem Ag (S:FD mv pt qs rs σ ω) (D:gQ mv pt lk) (O:QN mv pt qs rs) (W:ue mv.length (bY mv pt qs rs fs t).1.1 (bY mv pt qs rs fs t).1.2 b):Ta mv pt qs rs fs (t+1) (5*(b+(2*σ+ω+20))+1):=by
 obtain ⟨A,_⟩:=ue.next S D W O;have e2:∀x:Int,- -x=x:=λx=>Mc x
 have hu:(bY mv pt qs rs fs (t+1)).2.1=O6 (bZ mv pt qs rs (bY mv pt qs rs fs t).1.1 (bY mv pt qs rs fs t).1.2) pt.length:=rfl;have hd:(bY mv pt qs rs fs (t+1)).2.2=-(dw (bZ mv pt qs rs (bY mv pt qs rs fs t).1.1 (bY mv pt qs rs fs t).1.2) pt.length).2:=rfl;have l1:=A.len pt.length (ar _);have w1:=A.wide pt.length (ar _);refine ⟨?_,λz hz=>?_,λz hz y hy=>?_,?_,?_⟩
 ·rw[hu,cW,ag,l1]
  lia
 ·rw[hu] at hz;obtain ⟨l',hl',rfl⟩:=aw.mp (b9 hz);rw[eI,w1 l' hl']
  lia
 ·rw[hu] at hz;obtain ⟨l',hl',rfl⟩:=aw.mp (b9 hz);exact A.sz pt.length (ar _) l' hl' y (gI hy)
 ·rw[hd,e2];exact A.pos pt.length (ar _)
 ·rw[hd,e2];exact A.sb pt.length (ar _)
theorem zR (hs:∀l∈ls,∀z∈l,Sz e z) (d0:d≠0) (hx:∀x∈xs,Fr N (2^p) x) (n8:xs.length<=8):∀u∈zT ls d xs,Fr (d.natAbs*N) (2^(e+3+p)) u:=λu hu=>by
 unfold zT at hu;obtain ⟨l,hl,rfl⟩:=aw.mp hu
 have hf:∀k,k<=xs.length->Fr N (k*(2^e*2^p)) (aM k λj=>((l.getD j 0:Int):Rat)*xs.getD j 0):=λk=>by
  induction k with
  | zero=>intro _;exact Fr.zero
  | succ k ih =>
   intro hk
   have z:(l.getD k 0).natAbs<=2^e:=by
    rw[ae];cases q:l[k]? with
    | none=>exact b8 _
    | some y=>exact aO (hs l hl y (ao q))
   have h1:=(Fr.int (M:=1) z).mul (hx _ (getD_in (show k < xs.length by lia) (e:=0)));rw[wI] at h1;exact ((ih (by lia)).add h1).mono (Nat.le_of_eq (d6 ..).symm)
 obtain ⟨t,et,bt⟩:=hf xs.length (ar _);have dq:(d:Rat)≠0:=λq=>d0 (mS q)
 have db:1<=d.natAbs:=by lia
 have bt:t.natAbs<=2^(e+3+p)*N:=by
  refine ak bt (az _ ?_);rw[show e+3+p=3+(e+p) by lia,aR 2 3,aR 2 e];exact az _ (show xs.length<=2^3 from n8)
 have bt:t.natAbs<=2^(e+3+p)*(d.natAbs*N):=ak bt (cU _ (cM _ db));generalize (aM xs.length λj=>((l.getD j 0:Int):Rat)*xs.getD j 0)=s at et;rcases Int.natAbs_eq d with q | q
 ·refine ⟨t,?_,bt⟩;rw[cC,show ((d.natAbs:Nat):Rat)=(d:Rat) by rw[<- bA,<- q],<- et,bf];rw[show s*(d:Rat)⁻¹*((d:Rat)*(N:Rat))=s*((d:Rat)⁻¹*(d:Rat))*(N:Rat) by grind,ij _ dq,fM]
 ·refine ⟨-t,?_,by rw[uj];exact bt⟩;rw[cC,show ((d.natAbs:Nat):Rat)=-(d:Rat) by rw[<- bA,<- iJ];congr 1;lia,iJ,<- et,bf];rw[show s*(d:Rat)⁻¹*(-(d:Rat)*(N:Rat))=-(s*((d:Rat)⁻¹*(d:Rat))*(N:Rat)) by grind,ij _ dq,fM]
def wK (e:Nat->Nat) (T:Nat):Nat->Nat
 | 0=>0
 | i+1=>wK e T i+e (T - i)
theorem Km {e:Nat->Nat}:∀{i k:Nat},i<=k->wK e T i<=wK e T k
 | i,0,h=>by rw[show i=0 by lia];exact ar _
 | i,k+1,h=>by
  by_cases q:i=k+1
  ·rw[q];exact ar _
  ·exact ak (Km (show i<=k by lia)) (JR ..)
theorem SH {M1 M2 V B:Nat} (X:Bd mv pt M1 M2 V 80 160 33) (D:gQ mv pt lk) (hd:∀l,1<=l->l<=T->Ta mv pt qs rs fs l (e l)) (T8:T<=8) (hE:wK e T T<=1000*890) (ls:st.length=mv.length) (B0:0 < B) (Bb:B<=2^600) (hs:∀x∈st,Fr B (2^30) x):∀i,i<=T->(qI mv pt qs rs fs st T i).length=mv.length/\∃N,0 < N/\N<=2^(600+wK e T i+240*i)/\(∀x∈qI mv pt qs rs fs st T i,Fr N (2^(30+wK e T i+40*i)) x)/\(i < T->(kQ mv pt qs rs fs (T - i) (qI mv pt qs rs fs st T i)).length=pt.length/\OV mv pt (qI mv pt qs rs fs st T i) (kQ mv pt qs rs fs (T - i) (qI mv pt qs rs fs st T i))/\∃N',0 < N'/\N'<=2^(600+wK e T (i+1)+240*(i+1))/\(∀x∈qI mv pt qs rs fs st T i++kQ mv pt qs rs fs (T - i) (qI mv pt qs rs fs st T i),Fr N' (2^(30+wK e T (i+1)+40*(i+1))) x)/\∀x∈qI mv pt qs rs fs st T (i+1),Fr (M1*N') (2^(30+wK e T (i+1)+40*(i+1))) x/\M1*N'<=2^(600+wK e T (i+1)+240*(i+1))):=by
 have n8:=D.n8;have dz:∀{a:Int},0 < -a->a≠0:=λh=>by lia
 have step:∀i,i < T->(qI mv pt qs rs fs st T i).length=mv.length->∀N,0 < N->N<=2^(600+wK e T i+240*i)->(∀x∈qI mv pt qs rs fs st T i,Fr N (2^(30+wK e T i+40*i)) x)->(kQ mv pt qs rs fs (T - i) (qI mv pt qs rs fs st T i)).length=pt.length/\OV mv pt (qI mv pt qs rs fs st T i) (kQ mv pt qs rs fs (T - i) (qI mv pt qs rs fs st T i))/\∃N',0 < N'/\N'<=2^(600+wK e T (i+1)+240*(i+1))/\(∀x∈qI mv pt qs rs fs st T i++kQ mv pt qs rs fs (T - i) (qI mv pt qs rs fs st T i),Fr N' (2^(30+wK e T (i+1)+40*(i+1))) x)/\(M1*N'<=2^(600+wK e T (i+1)+240*(i+1)))/\∀x∈qI mv pt qs rs fs st T (i+1),Fr (M1*N') (2^(30+wK e T (i+1)+40*(i+1))) x:=λi hi la N N0 Nb hx=>by
  have U:=hd (T - i) (by lia) (by lia);have es:wK e T (i+1)=wK e T i+e (T - i):=rfl;have eT:=Km (e:=e) (T:=T) (show i+1<=T by lia);generalize hdd:(bY mv pt qs rs fs (T - i)).2.2=d at U;have Up:=U.pos;have Us:=U.sb;rw[hdd] at Up Us
  have hu:∀u∈kQ mv pt qs rs fs (T - i) (qI mv pt qs rs fs st T i),Fr (d.natAbs*N) (2^(e (T - i)+3+(30+wK e T i+40*i))) u:=by
   unfold kQ;rw[hdd];exact zR U.sz (dz Up) hx (by lia)
  have lu:(kQ mv pt qs rs fs (T - i) (qI mv pt qs rs fs st T i)).length=pt.length:=by unfold kQ zT;rw[ag,U.len]
  have dn:0 < d.natAbs:=by lia
  have db:d.natAbs<=2^e (T - i):=by
   have:=aO Us;rwa [uj] at this
  have N'0:0 < M2*(d.natAbs*N):=ba X.m2 (ba dn N0)
  have N'b:M2*(d.natAbs*N)<=2^(160+(e (T - i)+(600+wK e T i+240*i))):=by
   rw[aR,aR 2 (e (T - i))];exact aL X.b2 (aL db Nb)
  have hx':∀x∈qI mv pt qs rs fs st T i,Fr (M2*(d.natAbs*N)) (2^(e (T - i)+3+(30+wK e T i+40*i))) x:=λx h=>Fr.up (hx x h) (qC (dM _ _) (dM _ _)) (p2 (by lia))
  obtain ⟨nx,mo⟩:=X.next D la lu N'0 (dM _ _) hx' hu N'b (by lia) (by decide);refine ⟨lu,nx,_,N'0,ak N'b (p2 (by lia)),λx h=>?_,?_,λx h=>(mo x h).mono (p2 (by lia))⟩
  ·rcases av.mp h with h | h
   ·exact (hx' x h).mono (p2 (by lia))
   ·exact (Fr.up (hu x h) (dM _ _) (p2 (by lia)))
  ·refine ak (aL X.b1 N'b) ?_;rw[<- aR];exact p2 (by lia)
 have go:∀i,i<=T->(qI mv pt qs rs fs st T i).length=mv.length/\∃N,0 < N/\N<=2^(600+wK e T i+240*i)/\∀x∈qI mv pt qs rs fs st T i,Fr N (2^(30+wK e T i+40*i)) x:=λi=>by
  induction i with
  | zero=>exact λ_=>⟨ls,B,B0,ak Bb (p2 (by lia)),λx h=>(hs x h).mono (p2 (by lia))⟩
  | succ i ih =>
   intro hi;obtain ⟨la,N,N0,Nb,hx⟩:=ih (by lia);obtain ⟨_,_,N',N'0,_,_,q,r⟩:=step i (by lia) la N N0 Nb hx;exact ⟨xj,_,ba X.m1 N'0,q,r⟩
 intro i hi;obtain ⟨la,N,N0,Nb,hx⟩:=go i hi;refine ⟨la,N,N0,Nb,hx,λh=>?_⟩;obtain ⟨a,b,N',c,d,e,f,g⟩:=step i h la N N0 Nb hx;exact ⟨a,b,N',c,d,e,λx hx=>⟨g x hx,f⟩⟩
theorem Lq (h:jF k j l) (hk:k+j<=1000*1900):∀x∈l,lU x:=λx hx=>h.szn hx (by lia)
theorem QG {M1 M2 V B:Nat} (X:Bd mv pt M1 M2 V 80 160 33) (D:gQ mv pt lk) (hd:∀l,1<=l->l<=T->Ta mv pt qs rs fs l (e l)) (W:ue mv.length (bY mv pt qs rs fs T).1.1 (bY mv pt qs rs fs T).1.2 b) (hb:b<=1000*900) (T8:T<=8) (hE:wK e T T<=1000*890) (ls:st.length=mv.length) (B0:0 < B) (Bb:B<=2^600) (hs:∀x∈st,Fr B (2^30) x):Tb mv pt qs rs fs st T:=by
 have n8:=D.n8;have A:=SH X D hd T8 hE ls B0 Bb hs;have le:∀i,i<=T->wK e T i<=1000*890:=λi hi=>ak (Km hi) hE
 have fb:∀i,i < T->jF (1000*895) (1000*895) (qI mv pt qs rs fs st T i++kQ mv pt qs rs fs (T - i) (qI mv pt qs rs fs st T i)):=λi hi=>by
  obtain ⟨_,_,_,_,_,h⟩:=A i (by lia);obtain ⟨_,_,N',a,b',f,_⟩:=h hi;have:=le (i+1) hi;exact ⟨N',_,a,ak b' (p2 (by lia)),p2 (by lia),f⟩
 refine ⟨ls,λi hi=>(A i hi).1,λi hi=>?_,λi hi=>?_,λi hi=>?_,λi hi=>?_,λi hi z hz=>?_,?_⟩
 ·obtain ⟨_,_,_,_,_,h⟩:=A i (by lia);exact (h hi).1
 ·obtain ⟨_,N,a,b',f,_⟩:=A i hi;have:=le i hi;exact jF.rowM (k:=1000*895) (j:=1000*895) ⟨N,_,a,ak b' (p2 (by lia)),p2 (by lia),f⟩ (by decide)
 ·obtain ⟨M,V,a,b',c,f⟩:=fb i hi;exact ⟨M,V,a,ak b' (p2 (by decide)),ak c (p2 (by decide)),f⟩
 ·obtain ⟨_,_,_,_,_,h⟩:=A i (by lia);exact (h hi).2.1
 ·exact Lq (fb i hi) (by decide) z (av.mpr (.inr hz))
 ·have wp:=W.pos;have h:=zR (d:=(bY mv pt qs rs fs T).1.2) W.sl (by lia) hs (by lia);refine ⟨600,30,b+600,b+33,⟨B,_,B0,Bb,ar _,hs⟩,⟨_,_,ba (by lia) B0,?_,ar _,h⟩,by lia⟩;rw[aR];exact aL (aO W.sb) Bb
end
def P2 (k:Nat):Rat:=((2^k:Nat):Rat)
theorem oJ:P2 (a+b)=P2 a*P2 b:=by unfold P2;rw[aR,cC]
theorem LR:0 < P2 a:=me.mpr (d5 a)
theorem II (h:a<=b):P2 a<=P2 b:=fE.mpr (aD (by decide) h)
theorem pO {a b A B:Rat} (h0:0<=a) (h1:a<=A) (h2:0<=b) (h3:b<=B):a*b<=A*B:=iP (jm h1 h2) (qN h3 (iP h0 h1))
theorem Ln {M V:Nat} (h:Fr M V x) (hM:0 < M):-(V:Rat)<=x/\x<=(V:Rat):=by
 obtain ⟨z,e,b⟩:=h;have m0:(0:Rat) < (M:Rat):=me.mpr hM
 have h1:(z:Rat)<=(V:Rat)*(M:Rat):=by
  rw[<- cC,<- bA];exact gY.mpr (by lia)
 have h2:-((V:Rat)*(M:Rat))<=(z:Rat):=by
  rw[<- cC,<- bA,<- iJ];exact gY.mpr (by lia)
 rw[<- e] at h1 h2;exact ⟨OZ (by rw[LY];exact h2) m0,OZ h1 m0⟩
theorem QK {x y:Rat} (h1:-y<=x) (h2:x<=y):x*x<=y*y:=by
 have a:0<=y - x:=by grind
 have b:0<=y+x:=by grind
 have:=dW a b;grind
theorem OM (h:Fr 2520 1000 x):x*x<=P2 20:=by
 obtain ⟨a,b⟩:=Ln h (by decide);refine iP (QK a b) ?_;show ((1000:Nat):Rat)*((1000:Nat):Rat)<=((2^20:Nat):Rat)
 rw[<- cC];exact fE.mpr (by decide)
theorem Lm {M V:Nat} (h:Fr M V x):cY ((M:Rat)*x):=by
 obtain ⟨z,e,_⟩:=h;exact ⟨z,by rw[cT];exact e⟩
theorem y7:cY ((x.den:Rat)*x):=⟨x.num,by rw[cT];exact l7 x |>.symm⟩
theorem nk {n:Nat}:cY (n:Rat):=⟨n,(bA n).symm⟩
section
variable {n q N m k:Nat} {W sd:Nat->Nat->Rat} {ow f p z:Nat->Rat} {ls:List (List Int)} {s r v:Rat}
theorem va (h:n<=k) (h0:∀i,n<=i->f i=0):aM k f=aM n f:=by
 induction k with
 | zero=>rw[show n=0 by lia]
 | succ k ih =>
  by_cases e:n=k+1
  ·rw[e]
  ·show aM k f+f k=_
   rw[ih (by lia),h0 k (by lia),c8]
theorem KA (h:n<=k) (h0:∀i j,n<=i\/n<=j->W i j=0):gW k W z=gW n W z:=by
 unfold gW;rw[va h λi hi=>by rw[d7 λj _=>by rw[h0 i j (.inl hi),ck],gX]];exact aE λi _=>by rw[va h λj hj=>by rw[h0 i j (.inr hj),ck]]
theorem Pk (h:n<=k) (h0:∀i c,n<=c->sd i c=0):stN n sd W ow i j=stN k sd W ow i j:=by
 unfold stN;congr 1;rw[va h λc hc=>by rw[h0 j c hc,ck]];exact aE λc _=>by rw[va h λe he=>by rw[h0 i e he,gX]]
theorem LG (s0:0 < s) (h0:∀i j,i < N->j < N->dS ls i j=s*stN q sd W ow i j) (mN:m<=N) (hp:∀k,k<=m->(0:Rat) < ((dw ls k).2:Rat)) (hs:∀k,k < m->((dw ls (k+1)).2:Rat)=dS (dw ls k).1 k k/\∀i c,i < N->i≠k->dS (dw ls (k+1)).1 i c=(dS (dw ls k).1 k k*dS (dw ls k).1 i c - dS (dw ls k).1 i k*dS (dw ls k).1 k c) / ((dw ls k).2:Rat)):∀k,k<=m->∀i j,k<=i->k<=j->i < N->j < N->dS (dw ls k).1 i j=((dw ls k).2:Rat)*s*stN q sd (xR q sd W ow k) ow i j
 | 0,_,i,j,_,_,hi,hj=>by
  show dS ls i j=((1:Int):Rat)*s*stN q sd W ow i j
  rw[h0 i j hi hj];show _=(1:Rat)*s*_
  rw[gH]
 | k+1,hk,i,j,ki,kj,hi,hj=>by
  have ih:=LG s0 h0 mN hp hs k (by lia);obtain ⟨e1,e2⟩:=hs k hk;have d0:=hp k (by lia);have d1:=hp (k+1) hk;have kN:k < N:=by lia
  rw[<- Ph (i:=i) (j:=j) (by lia) (by lia),e2 i j hi (by lia),e1];rw[e1] at d1;rw[ih k k (by lia) (by lia) kN kN] at d1 ⊢;rw[ih i j (by lia) (by lia) hi hj,ih i k (by lia) (by lia) hi kN,ih k j (by lia) (by lia) kN hj];generalize ((dw ls k).2:Rat)=d at d0 d1;generalize stN q sd (xR q sd W ow k) ow k k=a at d1;generalize stN q sd (xR q sd W ow k) ow i j=b;generalize stN q sd (xR q sd W ow k) ow i k=c;generalize stN q sd (xR q sd W ow k) ow k j=e;have dn:d≠0:=by grind
  have an:a≠0:=λz=>by rw[z,gX] at d1;exact absurd d1 (by decide)
  have h1:(d*s*a*(d*s*b) - d*s*c*(d*s*e)) / d=s*(d*s*(a*b - c*e)):=by
   rw[bf,show d*s*a*(d*s*b) - d*s*c*(d*s*e)=s*(d*s*(a*b - c*e))*d by grind,dE,c7 _ dn,fM]
  rw[h1,bf];have h2:d*s*a*s*(b - e*a⁻¹*c)=d*s*s*(a*b - e*c*(a*a⁻¹)):=by grind
  rw[h2,c7 _ an];grind
theorem P0 (ps:∀z,0<=gW 2 W z) (v0:W 0 0<=v) (v1:W 1 1<=v) (h0:p 0*p 0<=u) (h1:p 1*p 1<=u):gW 2 W p<=4*(u*v):=by
 have e:∀z,gW 2 W z=z 0*(W 0 0*z 0+W 0 1*z 1)+z 1*(W 1 0*z 0+W 1 1*z 1):=λz=>by unfold gW;simp only[lF]
 have a:=ps λi=>if i=0 then p 0 else - p 1
 have b0:=ps (Ct 0);have b1:=ps (Ct 1);rw[C0 (by decide)] at b0 b1;rw[e] at a ⊢;rw[if_pos rfl,if_neg (show ¬(1:Nat)=0 by decide)] at a;have c0:p 0*p 0*W 0 0<=u*v:=pO QZ h0 b0 v0;have c1:p 1*p 1*W 1 1<=u*v:=pO QZ h1 b1 v1;grind
end
section
variable {mv pt lk:LR9} {qs rs fs:List Rat} {wl ls:List (List Int)} {wb b:Int} {σ ω n m t V B bb:Nat}
theorem Cp (lw:wl.length=n) (ww:∀l∈wl,l.length=n) (h:n<=i\/n<=j):jS wl wb i j=0:=by
 unfold jS
 have:dS wl i j=0:=by
  rcases h with h | h
  ·unfold dS;rw[ae (l:=wl),a9 (by lia)];rfl
  ·exact DD ww h
 rw[this,bf,ck]
theorem Gn (hb:0 < b) (ll:ls.length=n) (lw:∀l∈ls,l.length=n) (b0:0 < β) (bB:β<=P2 B) (bi:cY β) (h:∀i j,i < n->j < n->cY (jS (uN b ls) (uU b ls) i j*β)/\-P2 V<=jS (uN b ls) (uU b ls) i j/\jS (uN b ls) (uU b ls) i j<=P2 V):(∀l∈uN b ls,∀z∈l,Sz (V+B+1) z)/\Sz (V+B+1) (uU b ls):=by
 obtain ⟨βz,rfl⟩:=bi;have b1:0 < βz:=cI.mp b0
 have bN:βz.natAbs<=2^B:=by
  have:(βz:Rat)<=(((2^B:Nat):Int):Rat):=by rw[bA];exact bB
  have:=gY.mp this
  lia
 obtain ⟨p,d,_⟩:=xt (zs:=ls.flatten) hb;have q0:(b:Rat)≠0:=λq=>by have:=mS q;lia
 have dv:b∣AW b ls.flatten*βz:=E1 (Int.dvd_mul_right ..) λz hz=>by
  obtain ⟨l,hl,hz⟩:=cJ.mp hz;obtain ⟨i,hi,rfl⟩:=bU hl;obtain ⟨j,hj,rfl⟩:=bU hz;have lj:=lw _ (bu hi);obtain ⟨x,_⟩:=h i j (by lia) (by lia);refine Gz (by lia) (cY.of x ?_);rw[qV hb];unfold dS;rw[ae (l:=ls),af hi,eF,ae,af hj,eF,aJ,bf,bf];grind
 have eb:b=AW b ls.flatten*uU b ls:=(Int.mul_ediv_cancel' d).symm
 have dl:uU b ls∣βz:=by
  obtain ⟨y,e⟩:=dv;refine ⟨y,Int.eq_of_mul_eq_mul_left (a:=AW b ls.flatten) (by lia) ?_⟩;rw[e,<- jR,<- eb]
 have l0:0 < uU b ls:=O1 hb (Int.le_of_lt p) d;have lB:(uU b ls).natAbs<=2^B:=ak (jQ (by lia) (fU.mpr dl)) bN;have lt:∀{e a:Nat},a<=2^e->a < 2^(e+1):=λ{e a} h=>bD h (eH (by decide) (by lia))
 refine ⟨λl hl z hz=>?_,lt (ak lB (aD (by decide) (by lia)))⟩;have ll':(uN b ls).length=n:=by unfold uN;rw[ag,ll]
 have lw':l.length=n:=by
  unfold uN at hl;obtain ⟨l',hl',rfl⟩:=aw.mp hl;rw[ag,lw l' hl']
 obtain ⟨i,hi,rfl⟩:=bU hl;obtain ⟨j,hj,rfl⟩:=bU hz;obtain ⟨_,x1,x2⟩:=h i j (by lia) (by lia);have g0:(0:Rat) < ((uU b ls:Int):Rat):=cI.mpr l0;have gn:((uU b ls:Int):Rat)≠0:=by grind
 have ez:(((uN b ls)[i][j]:Int):Rat)=jS (uN b ls) (uU b ls) i j*((uU b ls:Int):Rat):=by
  unfold jS dS;rw[ae (l:=uN b ls),af hi,eF,ae,af hj,eF,ik gn]
 generalize (uN b ls)[i][j]=z at ez
 have gB:((uU b ls:Int):Rat)<=P2 B:=by
  unfold P2;rw[<- bA];exact gY.mpr (by lia)
 have u1:(z:Rat)<=P2 (V+B):=by
  rw[ez,oJ];exact iP (jm x2 (cm g0)) (qN gB (cm LR))
 have u2:-(z:Rat)<=P2 (V+B):=by
  rw[ez,oJ,<- LY];exact iP (jm (show -jS (uN b ls) (uU b ls) i j<=P2 V by grind) (cm g0)) (qN gB (cm LR))
 unfold P2 at u1 u2;rw[<- bA] at u1 u2;rw[<- iJ] at u2;have u1:=gY.mp u1;have u2:=gY.mp u2;exact lt (by lia)
def vB (t:Nat):Nat:=23*t+10
def bB:Nat->Nat
 | 0=>20
 | t+1=>bB t+4*vB t+310
structure W2 (W:Nat->Nat->Rat) (t:Nat):Prop where
 sy:W 1 0=W 0 1
 d0:W 0 0<=P2 (vB t)
 d1:W 1 1<=P2 (vB t)
 co:∃β,0 < β/\β<=P2 (bB t)/\OY W β
theorem RE {W:Nat->Nat->Rat} (h:W 1 0=W 0 1):∀i j,i < 2->j < 2->W i j=W j i
 | 0,0,_,_=>rfl
 | 0,1,_,_=>h.symm
 | 1,0,_,_=>h
 | 1,1,_,_=>rfl
 | i+2,_,h,_=>absurd h (by lia)
 | _,j+2,_,h=>absurd h (by lia)
theorem Sd:stN 2 sd W ow i i=gW 2 W (sd i)+ow i:=by
 unfold stN gW;rw[if_pos rfl]
theorem Oz (h1:r<=P2 10) (h2:x<=4*(P2 20*P2 v)):r+x<=P2 (v+23):=by
 have e:4*(P2 20*P2 v)=P2 (v+22):=by
  rw[show v+22=2+(20+v) by lia,oJ,oJ];rfl
 have e2:P2 (v+23)=P2 (v+22)+P2 (v+22):=by
  rw[show v+23=1+(v+22) by lia,oJ,show P2 1=2 from rfl];grind
 have e3:P2 10<=P2 (v+22):=II (by lia);grind
theorem W2.next (h:W2 W t) (ps:∀z,0<=gW 2 W z) (hs:∀i c,Fr 2520 1000 (sd i c)) (m4:m<=4) (o0:∀k,k < m->0 < ow k) (oD:∀k,ow k<=P2 10/\(ow k).den<=1000):W2 (λi j=>stN 2 sd (xR 2 sd W ow m) ow (m+i) (m+j)) (t+1):=by
 obtain ⟨β,β0,βb,C⟩:=h.co;have rk:=λk hk=>F1 (sd:=sd) (ow:=ow) (RE h.sy) ps k hk
 have pvb:∀k,gW 2 W (sd k)<=4*(P2 20*P2 (vB t)):=λk=>P0 ps h.d0 h.d1 (OM (hs k 0)) (OM (hs k 1))
 have go:∀k,k<=m->∃β,0 < β/\β<=P2 (bB t+(vB t+56)*k)/\OY (xR 2 sd W ow k) β/\xR 2 sd W ow k 1 0=xR 2 sd W ow k 0 1:=λk=>by
  induction k with
  | zero=>exact λ_=>⟨β,β0,by rw[IM];exact βb,C,h.sy⟩
  | succ k ih =>
   intro hk;obtain ⟨γ,γ0,γb,G,sy⟩:=ih (by lia);obtain ⟨_,ps',le'⟩:=rk k λi hi=>o0 i (by lia)
   have r0:=o0 k hk;have pv0:=(Kt (z:=sd k) (p:=sd k) (RE sy) r0 ps').1;have pvle:oR 2 (xR 2 sd W ow k) (sd k) (ow k)<=P2 (vB t+23):=Oz (oD k).1 (iP (le' (sd k)) (pvb k));have dI:∀c,cY (((2520:Nat):Rat)*sd k c):=λc=>Lm (hs k c)
   have k0:(0:Rat) < (((ow k).den*(2520*2520):Nat):Rat):=me.mpr (ba (ow k).den_pos (by decide));have kb:(((ow k).den*(2520*2520):Nat):Rat)<=P2 33:=fE.mpr (ak (az _ (oD k).2) (by decide));have ke:(((ow k).den*(2520*2520):Nat):Rat)=((ow k).den:Rat)*(((2520:Nat):Rat)*((2520:Nat):Rat)):=by rw[cC,cC]
   have kk:∀a c,cY ((((ow k).den*(2520*2520):Nat):Rat)*(sd k a*sd k c)):=λa c=>by
    rw[ke];exact cY.of (nk.mul ((dI a).mul (dI c))) (show _=((ow k).den:Rat)*(((2520:Nat):Rat)*sd k a*(((2520:Nat):Rat)*sd k c)) by grind)
   have kr:cY ((((ow k).den*(2520*2520):Nat):Rat)*ow k):=by
    rw[ke];exact cY.of ((nk.mul nk).mul y7) (show _=((2520:Nat):Rat)*((2520:Nat):Rat)*(((ow k).den:Rat)*ow k) by grind)
   obtain ⟨G2,sy'⟩:=G.rd (p:=sd k) (r:=ow k) sy (by grind) kr (kk 0 0) (kk 0 1) (kk 1 1);refine ⟨_,eC (eC k0 γ0) pv0,?_,G2,sy'⟩;rw[show bB t+(vB t+56)*(k+1)=33+(bB t+(vB t+56)*k)+(vB t+23) by rw[Nat.mul_succ];lia,oJ,oJ];exact pO (cm (eC k0 γ0)) (pO (cm k0) kb (cm γ0) γb) (cm pv0) pvle
 obtain ⟨γ,γ0,γb,G,sy⟩:=go m (ar _);obtain ⟨_,ps',le'⟩:=rk m o0
 have est:(λi j=>stN 2 sd (xR 2 sd W ow m) ow (m+i) (m+j))=stN 2 (λi=>sd (m+i)) (xR 2 sd W ow m) λi=>ow (m+i):=funext λi=>funext λj=>by
  unfold stN;congr 1;by_cases e:i=j
  ·rw[if_pos e,if_pos (by lia)]
  ·rw[if_neg e,if_neg (by lia)]
 have dg:∀i,stN 2 (λi=>sd (m+i)) (xR 2 sd W ow m) (λi=>ow (m+i)) i i<=P2 (vB (t+1)):=λi=>by
  rw[Sd,zf,show vB (t+1)=vB t+23 by unfold vB;lia];exact Oz (oD _).1 (iP (le' _) (pvb _))
 have dI:∀i c,cY (((2520:Nat):Rat)*sd (m+i) c):=λi c=>Lm (hs _ c)
 have oI:∀i j,cY ((((ow (m+i)).den*(ow (m+j)).den:Nat):Rat)*ow (m+i)):=λi j=>by
  rw[cC];exact cY.of (nk.mul y7) (show _=((ow (m+j)).den:Rat)*(((ow (m+i)).den:Rat)*ow (m+i)) by grind)
 have oI1:cY ((((ow (m+0)).den*(ow (m+1)).den:Nat):Rat)*ow (m+1)):=by rw[dJ];exact oI 1 0
 obtain ⟨G2,sy'⟩:=G.st (sd:=λi=>sd (m+i)) (ow:=λi=>ow (m+i)) (m:=((2520:Nat):Rat)) (o:=(((ow (m+0)).den*(ow (m+1)).den:Nat):Rat)) sy nk nk (dI 0 0) (dI 0 1) (dI 1 0) (dI 1 1) (oI 0 1) oI1;rw[est];have ob0:(0:Rat) < (((ow (m+0)).den*(ow (m+1)).den:Nat):Rat):=me.mpr (ba (LZ _) (LZ _));have ob1:(((ow (m+0)).den*(ow (m+1)).den:Nat):Rat)<=P2 20:=fE.mpr (ak (aL (oD _).2 (oD _).2) (by decide));have m0:(0:Rat) < ((2520:Nat):Rat):=me.mpr (by decide)
 have m1:((2520:Nat):Rat)*((2520:Nat):Rat)*(((2520:Nat):Rat)*((2520:Nat):Rat))<=P2 46:=by
  rw[<- cC,<- cC];exact fE.mpr (by decide)
 have m2:=eC (eC m0 m0) (eC m0 m0);refine ⟨sy',dg 0,dg 1,_,eC (eC (eC ob0 ob0) m2) γ0,?_,G2⟩;have γb:γ<=P2 (bB t+(vB t+56)*4):=iP γb (II (Nat.add_le_add_left (cU _ m4) _));rw[show bB (t+1)=(20+20)+46+(bB t+(vB t+56)*4) by show bB t+4*vB t+310=_;lia,oJ,oJ,oJ];exact pO (cm (eC (eC ob0 ob0) m2)) (pO (cm (eC ob0 ob0)) (pO (cm ob0) ob1 (cm ob0) ob1) (cm m2) m1) (cm γ0) γb
end
section
variable {mv pt lk:LR9} {qs rs fs st xs:List Rat} {σ ω b b1 n m T t w k j:Nat}
theorem uX {M V:Nat} {ys:List Rat} (h0:0 < M) (h1:M<=2^k) (h2:V<=2^j) (hx:∀x∈ys,Fr M V x) (hs:∀x∈xs,x∈ys):(∀z∈bW (xs.map nm) (cA (ys.map nm)),Sz (j+k+1) z)/\Sz (k+1) (cA (ys.map nm)):=by
 have tp:∀x∈ys,Tp M (2^(j+k)) x:=λx h=>Tp.of (hx x h) (by rw[aR];exact aL h2 h1)
 have dv:=NS h0 tp;have bp:0 < cA (ys.map nm):=vY;have lt:∀{e a:Nat},a<=2^e->a < 2^(e+1):=λ{e a} h=>bD h (eH (by decide) (by lia))
 constructor
 ·intro z hz;unfold bW at hz;obtain ⟨y,hy,rfl⟩:=aw.mp hz;obtain ⟨x,hx',rfl⟩:=aw.mp hy;have dx:(nm x).2∣cA (ys.map nm):=o7 (aw.mpr ⟨x,hs x hx',rfl⟩);obtain ⟨s,e,b⟩:=FL (tp x (hs x hx')) h0 bp dx dv;have e2:(((nm x).1*(cA (ys.map nm) / (nm x).2):Int):Rat)=(s:Rat):=by rw[lE dx,e]
  rw[d4.mp e2];exact lt b
 ·have:=Int.le_of_dvd (by lia) dv;exact lt (ak (by lia) h1)
theorem Lv (h:Dr 1000 x):x<=P2 10/\x.den<=1000:=by
 refine ⟨iP (Ln (Fr.own x h.1) x.den_pos).2 ?_,h.2⟩;exact fE.mpr (by decide)
theorem NH:Dr 1000 0:=⟨by decide,by decide⟩
theorem Iq {l:List Rat} (h:∀x∈l,Dr 1000 x):Dr 1000 (l.getD i 0):=by
 rw[ae];cases e:l[i]? with
 | none=>exact NH
 | some x=>exact h x (ao e)
theorem KN (W:DS mv pt qs rs fs):∀x∈iF qs rs,Dr 1000 x:=λx hx=>(av.mp hx).elim (λh=>(W.r0 x h).2) λh=>(W.q0 x h).2
theorem KL (W:DS mv pt qs rs fs):QN mv pt qs rs where
 r0 i hi:=by
  unfold iF;have:=W.lr;rw[ae,fP (by lia),af (by lia)];exact (W.r0 _ (bu _)).1
 q0 i hi:=by
  rw[ae];cases e:(iF qs rs)[i]? with
  | none=>exact Cj
  | some x=>exact (av.mp (ao e)).elim (λh=>cm (W.r0 x h).1) λh=>(W.q0 x h).1
theorem Ri {l:List Rat} (h:∀x∈l,Dr 1000 x):∀x∈l,Dr (2^10) x:=λx hx=>⟨ak (h x hx).1 (by decide),ak (h x hx).2 (by decide)⟩
theorem RL {M1 M2 V:Nat} (g1:GF M1 V mv) (g2:GF M2 V pt):∀xs∈il mv pt,∀x∈xs,Fr (M1*M2) V x:=λxs hx x h=>by
 rcases av.mp hx with hx | hx
 ·exact (g2 xs hx x h).dvd (dM _ _)
 ·exact (G4 g1 xs hx x h).dvd (IQ _ _)
theorem Pg {M1 M2 V:Nat} (X:Bd mv pt M1 M2 V 80 160 33) (D:gQ mv pt lk) (W:DS mv pt qs rs fs):FD mv pt qs rs 275 150:=by
 have n8:=D.n8;have i4:=D.i4;have M0:=ba X.m1 X.m2;have Mb:M1*M2<=2^240:=by rw[show 240=80+160 from rfl,aR];exact aL X.b1 X.b2
 have f:=RL X.gm X.gp;have ff:∀x∈(il mv pt).flatten,Fr (M1*M2) V x:=λx h=>by obtain ⟨xs,hx,h⟩:=cJ.mp h;exact f xs hx x h
 obtain ⟨B,B0,Bb,fB⟩:=td (c:=10) (Ri (KN W)) (by decide);have lo:(iF qs rs).length<=12:=by unfold iF;rw[aF,W.lr,W.lq];lia
 have Bb:B<=2^122:=ak Bb (p2 (by lia));obtain ⟨o1,o2⟩:=uX B0 Bb (ar _) fB (xs:=iF qs rs) λx h=>h
 refine ⟨W.lq,W.lr,jF.rowM (k:=240) (j:=33) ⟨_,_,M0,Mb,X.v1,ff⟩ (by decide),jF.rowM (k:=122) (j:=22) ⟨_,_,B0,Bb,ar _,fB⟩ (by decide),λl hl z hz=>?_,(uX (xs:=[]) M0 Mb X.v1 ff (λ_ h=>nomatch h)).2.mono (by decide),λz hz=>(o1 z hz).mono (by decide),o2.mono (by decide)⟩;unfold nU at hl;obtain ⟨xs,hx,rfl⟩:=aw.mp hl;exact ((uX M0 Mb X.v1 ff (xs:=xs) λx h=>cJ.mpr ⟨xs,hx,h⟩).1 z hz).mono (by decide)
theorem Ef (D:gQ mv pt lk) (W:DS mv pt qs rs fs):(∃M,qo M (fs.map nm))/\ue mv.length (bY mv pt qs rs fs 0).1.1 (bY mv pt qs rs fs 0).1.2 105/\∀i j,jS (bY mv pt qs rs fs 0).1.1 (bY mv pt qs rs fs 0).1.2 i j=if i=j then fs.getD i 0 else 0:=by
 have n8:=D.n8;have lf:=W.lf;obtain ⟨B,B0,Bb,fB⟩:=td (c:=10) (Ri λx hx=>(W.f0 x hx).2) (by decide);have Bb:B<=2^82:=ak Bb (p2 (by lia));obtain ⟨o1,o2⟩:=uX B0 Bb (ar _) fB (xs:=fs) λx h=>h
 exact ⟨jF.rowM (k:=82) (j:=22) ⟨_,_,B0,Bb,ar _,fB⟩ (by decide),JW W.lf (λw h=>(W.f0 w h).1) (λz hz=>(o1 z hz).mono (by decide)) (o2.mono (by decide))⟩
def cB:Nat->Nat
 | 0=>105
 | t+1=>5*(cB t+(2*275+150+20))+1
theorem LI:∀{s t:Nat},s<=t->cB s<=cB t
 | s,0,h=>by rw[show s=0 by lia];exact ar _
 | s,t+1,h=>by
  by_cases e:s=t+1
  ·rw[e];exact ar _
  ·exact ak (LI (show s<=t by lia)) (by show cB t<=5*(cB t+_)+1;lia)
theorem xy (S:FD mv pt qs rs 275 150) (D:gQ mv pt lk) (W:DS mv pt qs rs fs):∀t,ue mv.length (bY mv pt qs rs fs t).1.1 (bY mv pt qs rs fs t).1.2 (cB t)
 | 0=>(Ef D W).2.1
 | t+1=>(ue.next S D (xy S D W t) (KL W)).2.2.1
theorem Lu {x y:Int} (h1:(0:Rat) < (x:Rat)) (h2:(0:Rat) < (y:Rat)):(x:Rat)*(y:Rat)*q / ((x*y:Int):Rat)=q:=by
 rw[aJ];generalize (x:Rat)=d at h1;generalize (y:Rat)=s at h2;have q0:d*s≠0:=by have:=eC h1 h2;grind
 rw[cT (d*s),bf,dE,c7 _ q0,fM]
section
variable (S:FD mv pt qs rs 275 150) (D:gQ mv pt lk) (W:DS mv pt qs rs fs)
include S D W
theorem NO:ue mv.length (bY mv pt qs rs fs 0).1.1 (bY mv pt qs rs fs 0).1.2 5700/\W2 (jS (bY mv pt qs rs fs 0).1.1 (bY mv pt qs rs fs 0).1.2) 0:=by
 obtain ⟨_,h,e⟩:=Ef D W;have df:=λi=>Iq (i:=i) λx hx=>(W.f0 x hx).2
 refine ⟨h.mono (by decide),⟨by rw[e,e];rfl,by rw[e];exact (Lv (df 0)).1,by rw[e];exact (Lv (df 1)).1,(((fs.getD 0 0).den*(fs.getD 1 0).den:Nat):Rat),me.mpr (ba (LZ _) (LZ _)),fE.mpr (ak (aL (df 0).2 (df 1).2) (by decide)),?_⟩⟩;have i0:cY (((fs.getD 0 0).den:Rat)*fs.getD 0 0):=y7;have i1:cY (((fs.getD 1 0).den:Rat)*fs.getD 1 0):=y7;have c0:cY ((fs.getD 0 0).den:Rat):=nk;have c1:cY ((fs.getD 1 0).den:Rat):=nk;have e00:jS (bY mv pt qs rs fs 0).1.1 (bY mv pt qs rs fs 0).1.2 0 0=fs.getD 0 0:=e 0 0;have e11:jS (bY mv pt qs rs fs 0).1.1 (bY mv pt qs rs fs 0).1.2 1 1=fs.getD 1 0:=e 1 1;have e01:jS (bY mv pt qs rs fs 0).1.1 (bY mv pt qs rs fs 0).1.2 0 1=0:=e 0 1;have e10:jS (bY mv pt qs rs fs 0).1.1 (bY mv pt qs rs fs 0).1.2 1 0=0:=e 1 0;rw[cC];generalize ((fs.getD 0 0).den:Rat)=d0 at *
 generalize ((fs.getD 1 0).den:Rat)=d1 at *
 refine ⟨c0.mul c1,?_,?_,?_,?_⟩
 ·rw[e00];exact cY.of (i0.mul c1) (by grind)
 ·rw[e01];exact ⟨0,by rw[ck];rfl⟩
 ·rw[e11];exact cY.of (c0.mul i1) (by grind)
 ·unfold FC;rw[e00,e11,e01,e10];exact cY.of (i0.mul i1) (by grind)
variable (n2:mv.length<=2) (gm:GF 2520 1000 mv) (gp:GF 2520 1000 pt)
include n2 gm gp
theorem NP (ht:t+1<=8) (Wt:ue mv.length (bY mv pt qs rs fs t).1.1 (bY mv pt qs rs fs t).1.2 5700) (C:W2 (jS (bY mv pt qs rs fs t).1.1 (bY mv pt qs rs fs t).1.2) t):ue mv.length (bY mv pt qs rs fs (t+1)).1.1 (bY mv pt qs rs fs (t+1)).1.2 5700/\W2 (jS (bY mv pt qs rs fs (t+1)).1.1 (bY mv pt qs rs fs (t+1)).1.2) (t+1):=by
 have O:=KL W;have i4:=D.i4;obtain ⟨_,_,Wn,dB⟩:=ue.next S D Wt O;have Wn:ue mv.length (bY mv pt qs rs fs (t+1)).1.1 (bY mv pt qs rs fs (t+1)).1.2 (5*(5700+(2*275+150+20))+1):=Wn;have bar:=ve S D Wt O;have s0:(0:Rat) < ((ic mv pt qs rs (bY mv pt qs rs fs t).1.2:Int):Rat):=cI.mpr (oO Wt.pos);have far:∀i j,mv.length<=i\/mv.length<=j->jS (bY mv pt qs rs fs t).1.1 (bY mv pt qs rs fs t).1.2 i j=0:=λi j h=>Cp Wt.len Wt.wide h
 have ps:∀z,0<=gW 2 (jS (bY mv pt qs rs fs t).1.1 (bY mv pt qs rs fs t).1.2) z:=λz=>by rw[KA n2 far];exact Wt.ps z
 have sdw:∀i c,mv.length<=c->lI (il mv pt) i c=0:=λi c hc=>Qs (yT D) hc
 have sdl:∀i c,pt.length+mv.length<=i->lI (il mv pt) i c=0:=λi c hi=>by
  unfold lI;rw[ae (l:=il mv pt),a9 (by rw[zw];lia)];rfl
 have sdf:∀i c,Fr 2520 1000 (lI (il mv pt) i c):=λi c=>by
  unfold lI;rw[ae (l:=il mv pt)];cases e:(il mv pt)[i]? with
  | none=>exact Fr.zero
  | some xs =>
   show Fr 2520 1000 (xs.getD c 0)
   rw[ae];cases e2:xs[c]? with
   | none=>exact Fr.zero
   | some x =>
    rcases av.mp (ao e) with h | h
    ·exact gp xs h x (ao e2)
    ·exact G4 gm xs h x (ao e2)
 have oD:∀k,(iF qs rs).getD k 0<=P2 10/\((iF qs rs).getD k 0).den<=1000:=λk=>Lv (Iq (KN W))
 have ol:∀i,pt.length+mv.length<=i->(iF qs rs).getD i 0=0:=λi hi=>by
  rw[ae,a9 (by unfold iF;rw[aF,W.lr,W.lq];lia)];rfl
 have C2:=W2.next (sd:=lI (il mv pt)) (ow:=λk=>(iF qs rs).getD k 0) C ps sdf i4 O.r0 oD
 have rd:=LG (q:=2) (sd:=lI (il mv pt)) (W:=jS (bY mv pt qs rs fs t).1.1 (bY mv pt qs rs fs t).1.2) (ow:=λk=>(iF qs rs).getD k 0) (m:=pt.length) (N:=pt.length+mv.length) (ls:=bZ mv pt qs rs (bY mv pt qs rs fs t).1.1 (bY mv pt qs rs fs t).1.2) s0 (λi j hi hj=>by rw[wO S D Wt.len Wt.wide Wt.pos hi hj,Pk n2 sdw]) (by lia) (λk hk=>cI.mpr (bar k hk).2.2.1) (λk hk=>by
  obtain ⟨l1,w1,d1,B1⟩:=bar k (by lia);exact (DK l1 w1 d1 B1 (by lia) (d5 _) (λi _ c=>Iw (Cz S D Wt.len Wt.wide Wt.sl Wt.sb).1 i c) λz zk=>(CA S D Wt O).2 k hk zk).2) pt.length (ar _)
 have dm:(0:Rat) < (((dw (bZ mv pt qs rs (bY mv pt qs rs fs t).1.1 (bY mv pt qs rs fs t).1.2) pt.length).2:Int):Rat):=cI.mpr (bar _ (ar _)).2.2.1
 have ev:jS (bY mv pt qs rs fs (t+1)).1.1 (bY mv pt qs rs fs (t+1)).1.2=λi j=>stN 2 (lI (il mv pt)) (xR 2 (lI (il mv pt)) (jS (bY mv pt qs rs fs t).1.1 (bY mv pt qs rs fs t).1.2) (λk=>(iF qs rs).getD k 0) pt.length) (λk=>(iF qs rs).getD k 0) (pt.length+i) (pt.length+j):=funext λi=>funext λj=>by
  by_cases h:i < mv.length/\j < mv.length
  ·show jS (uN _ _) (uU _ _) i j=_
   rw[qV dB,Ij,rd _ _ (by lia) (by lia) (by lia) (by lia)];exact Lu dm s0
  ·rw[Cp (n:=mv.length) (i:=i) (j:=j) Wn.len Wn.wide (by lia)];unfold stN;have z:∀i,mv.length<=i->∀c,lI (il mv pt) (pt.length+i) c=0:=λi hi c=>sdl _ c (by lia)
   have e1:(aM 2 λc=>lI (il mv pt) (pt.length+j) c*aM 2 λe=>xR 2 (lI (il mv pt)) (jS (bY mv pt qs rs fs t).1.1 (bY mv pt qs rs fs t).1.2) (λk=>(iF qs rs).getD k 0) pt.length c e*lI (il mv pt) (pt.length+i) e)=0:=d7 λc _=>by
    by_cases hj:mv.length<=j
    ·rw[z j hj,ck]
    ·rw[d7 λe _=>by rw[z i (by lia),gX],gX]
   rw[e1,zb];by_cases e:pt.length+i=pt.length+j
   ·rw[if_pos e];exact (ol _ (by lia)).symm
   ·rw[if_neg e]
 rw[<- ev] at C2;refine ⟨?_,C2⟩;obtain ⟨β,β0,βb,Co⟩:=C2.co;have ps2:∀z,0<=gW 2 (jS (bY mv pt qs rs fs (t+1)).1.1 (bY mv pt qs rs fs (t+1)).1.2) z:=λz=>by rw[KA n2 λi j h=>Cp Wn.len Wn.wide h];exact Wn.ps z
 have dg:∀i,i < 2->jS (bY mv pt qs rs fs (t+1)).1.1 (bY mv pt qs rs fs (t+1)).1.2 i i<=P2 (vB (t+1)):=λi hi=>by
  match i,hi with
  | 0,_=>exact C2.d0
  | 1,_=>exact C2.d1
 have hb:∀s,s<=8->bB s<=bB 8/\vB s<=vB 8:=by decide
 obtain ⟨h8,h9⟩:=hb (t+1) ht;have k8:bB 8=5396:=by decide
 have k9:vB 8=194:=by decide
 obtain ⟨q1,q2⟩:=Gn (ls:=xm (bZ mv pt qs rs (bY mv pt qs rs fs t).1.1 (bY mv pt qs rs fs t).1.2) pt.length) (V:=vB (t+1)) (B:=bB (t+1)) (n:=mv.length) dB (by rw[eI,ag,(bar _ (ar _)).1];lia) (λl hl=>by
  obtain ⟨l',hl',rfl⟩:=aw.mp (gI hl);rw[eI,(bar _ (ar _)).2.1 l' hl']
  lia) β0 βb Co.b λi j hi hj=>by
  have hi2:i < 2:=by lia
  have hj2:j < 2:=by lia
  refine ⟨?_,Nf (RE C2.sy) ps2 hi2 hj2 (dg i hi2) (dg j hj2)⟩
  match i,j,hi2,hj2 with
  | 0,0,_,_=>exact Co.w0
  | 0,1,_,_=>exact Co.w1
  | 1,0,_,_ =>
   have h:=Co.w1;rw[<- C2.sy] at h;exact h
  | 1,1,_,_=>exact Co.w2
 exact ⟨Wn.len,Wn.wide,Wn.pos,Wn.ps,λl hl z hz=>(q1 l hl z hz).mono (by lia),q2.mono (by lia)⟩
theorem LF:∀t,t<=8->ue mv.length (bY mv pt qs rs fs t).1.1 (bY mv pt qs rs fs t).1.2 5700/\W2 (jS (bY mv pt qs rs fs t).1.1 (bY mv pt qs rs fs t).1.2) t
 | 0,_=>NO S D W
 | t+1,ht=>by
  obtain ⟨a,b⟩:=LF t (by lia);exact NP S D W n2 gm gp ht a b
end
theorem Bd.upK {M1 M2 V a1 a2 c a1' a2' c':Nat} (X:Bd mv pt M1 M2 V a1 a2 c) (h1:a1<=a1') (h2:a2<=a2') (h3:c<=c'):Bd mv pt M1 M2 V a1' a2' c':=⟨X.m1,X.m2,ak X.b1 (p2 h1),ak X.b2 (p2 h2),X.gm,X.gp,ak X.vc (p2 h3)⟩
theorem SG (R:Rg mv pt w):w<=1000/\∃M1 M2 V,Bd mv pt M1 M2 V 80 160 33:=by
 rcases R with ⟨w9,X⟩ | ⟨w9,_,X⟩ | ⟨w9,_,M1,M2,X⟩
 ·exact ⟨by lia,_,_,_,X.upK (by decide) (by decide) (by decide)⟩
 ·exact ⟨by lia,_,_,_,X.upK (by decide) (by decide) (by decide)⟩
 ·exact ⟨by lia,_,_,_,X⟩
end
section
variable {n m N:Nat} {f g u x:Nat->Rat}
theorem Pf:aM (m+n) (λi=>g i*if i < m then 0 else x (i - m))=aM n λi=>g (m+i)*x i:=by
 rw[my,d7 (k:=m) λi hi=>by rw[if_pos hi,gX],zb];refine aE λi _=>?_
 rw[if_neg (by lia),show m+i - m=i by lia]
theorem J8:aM (m+n) (λi=>(if i < m then u i else x (i - m))*g i)=(aM m λi=>u i*g i)+aM n λi=>x i*g (m+i):=by
 rw[my];congr 1
 ·exact aE λi hi=>by rw[if_pos hi]
 ·exact aE λi hi=>by rw[if_neg (by lia),show m+i - m=i by lia]
theorem Pe (h:∀i,m<=i->f i=0):aM (m+n) (λi=>f i*g i)=aM m λi=>f i*g i:=by
 rw[my,d7 (k:=n) λi _=>by rw[h _ (by lia),ck],c8]
end
section
variable {mv pt lk:LR9} {qs rs fs:List Rat} {wl:List (List Int)} {wb:Int} {σ ω b t:Nat}
theorem Qx {x y:Int} (h:(y:Rat)≠0):q / (x:Rat)=(y:Rat)*(q / ((x*y:Int):Rat)):=by
 rw[aJ,bf,bf,Ml];generalize (x:Rat)=d;generalize (y:Rat)=s at h;rw[show s*(q*(s⁻¹*d⁻¹))=q*d⁻¹*(s*s⁻¹) by grind,c7 _ h,fM]
def JQ (mv pt:LR9) (qs rs:List Rat) (wl:List (List Int)) (wb:Int) (x:Nat->Rat) (k:Nat):Rat:=-(aM mv.length λc=>dS (dw (bZ mv pt qs rs wl wb) pt.length).1 k (pt.length+c) / ((dw (bZ mv pt qs rs wl wb) pt.length).2:Rat)*x c)
section
variable (S:FD mv pt qs rs σ ω) (D:gQ mv pt lk) (W:ue mv.length wl wb b) (O:QN mv pt qs rs) (sy:∀i j,i < mv.length->j < mv.length->jS wl wb i j=jS wl wb j i)
include S D W O sy
theorem EU (hi:i < mv.length) (hj:j < mv.length):jS (uN ((dw (bZ mv pt qs rs wl wb) pt.length).2*ic mv pt qs rs wb) (xm (bZ mv pt qs rs wl wb) pt.length)) (uU ((dw (bZ mv pt qs rs wl wb) pt.length).2*ic mv pt qs rs wb) (xm (bZ mv pt qs rs wl wb) pt.length)) i j=stN mv.length (lI (il mv pt)) (xR mv.length (lI (il mv pt)) (jS wl wb) (λk=>(iF qs rs).getD k 0) pt.length) (λk=>(iF qs rs).getD k 0) (pt.length+i) (pt.length+j):=by
 have bar:=ve S D W O;obtain ⟨_,_,_,dB⟩:=ue.next S D W O;have s0:(0:Rat) < ((ic mv pt qs rs wb:Int):Rat):=cI.mpr (oO W.pos)
 have rd:=LG (q:=mv.length) (sd:=lI (il mv pt)) (W:=jS wl wb) (ow:=λk=>(iF qs rs).getD k 0) (m:=pt.length) (N:=pt.length+mv.length) (ls:=bZ mv pt qs rs wl wb) s0 (λi j hi hj=>wO S D W.len W.wide W.pos hi hj) (by lia) (λk hk=>cI.mpr (bar k hk).2.2.1) (λk hk=>by
  obtain ⟨l1,w1,d1,B1⟩:=bar k (by lia);exact (DK l1 w1 d1 B1 (by lia) (d5 _) (λi _ c=>Iw (Cz S D W.len W.wide W.sl W.sb).1 i c) λz zk=>(CA S D W O).2 k hk zk).2) pt.length (ar _)
 have dm:(0:Rat) < (((dw (bZ mv pt qs rs wl wb) pt.length).2:Int):Rat):=cI.mpr (bar _ (ar _)).2.2.1;rw[qV dB,Ij,rd _ _ (by lia) (by lia) (by lia) (by lia)];exact Lu dm s0
theorem KS (hi:i < mv.length) (hj:j < mv.length):jS (uN ((dw (bZ mv pt qs rs wl wb) pt.length).2*ic mv pt qs rs wb) (xm (bZ mv pt qs rs wl wb) pt.length)) (uU ((dw (bZ mv pt qs rs wl wb) pt.length).2*ic mv pt qs rs wb) (xm (bZ mv pt qs rs wl wb) pt.length)) i j=jS (uN ((dw (bZ mv pt qs rs wl wb) pt.length).2*ic mv pt qs rs wb) (xm (bZ mv pt qs rs wl wb) pt.length)) (uU ((dw (bZ mv pt qs rs wl wb) pt.length).2*ic mv pt qs rs wb) (xm (bZ mv pt qs rs wl wb) pt.length)) j i:=by
 rw[EU S D W O sy hi hj,EU S D W O sy hj hi];exact Ka (F1 sy W.ps pt.length λi hi=>O.r0 i hi).1
theorem Nv {x u:Nat->Rat} :
  gW mv.length (jS (uN ((dw (bZ mv pt qs rs wl wb) pt.length).2*ic mv pt qs rs wb) (xm (bZ mv pt qs rs wl wb) pt.length)) (uU ((dw (bZ mv pt qs rs wl wb) pt.length).2*ic mv pt qs rs wb) (xm (bZ mv pt qs rs wl wb) pt.length))) x+(gW mv.length (jS wl wb) (λe=>aM pt.length λk=>(u k - JQ mv pt qs rs wl wb x k)*lI (il mv pt) k e)+aM pt.length λk=>(iF qs rs).getD k 0*((u k - JQ mv pt qs rs wl wb x k)*(u k - JQ mv pt qs rs wl wb x k))) =
  gW mv.length (jS wl wb) (λe=>(aM pt.length λk=>u k*lI (il mv pt) k e)+aM mv.length λc=>x c*lI (il mv pt) (pt.length+c) e)+((aM pt.length λk=>(iF qs rs).getD k 0*(u k*u k))+aM mv.length λc=>(iF qs rs).getD (pt.length+c) 0*(x c*x c)):=by
 obtain ⟨_,_,d1,B1⟩:=ve S D W O pt.length (ar _);obtain ⟨_,_,_,dB⟩:=ue.next S D W O;have s0:(0:Rat) < ((ic mv pt qs rs wb:Int):Rat):=cI.mpr (oO W.pos);have sn:((ic mv pt qs rs wb:Int):Rat)≠0:=by grind
 have es:∀z,gW (pt.length+mv.length) (dS (bZ mv pt qs rs wl wb)) z=((ic mv pt qs rs wb:Int):Rat)*gW (pt.length+mv.length) (stN mv.length (lI (il mv pt)) (jS wl wb) (λi=>(iF qs rs).getD i 0)) z:=λz=>by
  rw[<- vq];exact vt λi j hi hj=>wO S D W.len W.wide W.pos hi hj
 have sya:∀i j,i < pt.length+mv.length->j < pt.length+mv.length->dS (bZ mv pt qs rs wl wb) i j=dS (bZ mv pt qs rs wl wb) j i:=λi j hi hj=>by
  rw[wO S D W.len W.wide W.pos hi hj,wO S D W.len W.wide W.pos hj hi,Ka sy]
 have q:=QI (x:=λi=>if i < pt.length then 0 else x (i - pt.length)) (z:=λi=>if i < pt.length then u i else x (i - pt.length)) B1 sya (λi hi=>if_pos hi) (λi hi=>by rw[if_neg (by lia),if_neg (by lia)]);rw[<- DP B1 (λi hi=>if_pos hi),<- Ik B1,es,es] at q
 have e1:gW mv.length (λi j=>dS (dw (bZ mv pt qs rs wl wb) pt.length).1 (pt.length+i) (pt.length+j) / ((dw (bZ mv pt qs rs wl wb) pt.length).2:Rat)) x=((ic mv pt qs rs wb:Int):Rat)*gW mv.length (jS (uN ((dw (bZ mv pt qs rs wl wb) pt.length).2*ic mv pt qs rs wb) (xm (bZ mv pt qs rs wl wb) pt.length)) (uU ((dw (bZ mv pt qs rs wl wb) pt.length).2*ic mv pt qs rs wb) (xm (bZ mv pt qs rs wl wb) pt.length))) x:=by
  rw[<- vq];refine vt λi j hi hj=>?_
  rw[qV dB,Ij];exact Qx sn
 rw[e1,<- Rat.mul_add] at q;have q:=congrArg (λy=>((ic mv pt qs rs wb:Int):Rat)⁻¹*y) q;simp only[<- dE,ij _ sn,gH] at q;rw[Ht,Ht] at q
 have c1:∀i,(if i < pt.length then u i else x (i - pt.length)) - DL pt.length (dS (dw (bZ mv pt qs rs wl wb) pt.length).1) ((dw (bZ mv pt qs rs wl wb) pt.length).2:Rat) (pt.length+mv.length) (λi=>if i < pt.length then 0 else x (i - pt.length)) i=if i < pt.length then u i - JQ mv pt qs rs wl wb x i else 0:=λi=>by
  unfold DL JQ;by_cases h:i < pt.length
  ·simp only[if_pos h];rw[Pf]
  ·simp only[if_neg h];grind
 have c2:∀g:Nat->Rat,(aM (pt.length+mv.length) λi=>((if i < pt.length then u i else x (i - pt.length)) - DL pt.length (dS (dw (bZ mv pt qs rs wl wb) pt.length).1) ((dw (bZ mv pt qs rs wl wb) pt.length).2:Rat) (pt.length+mv.length) (λi=>if i < pt.length then 0 else x (i - pt.length)) i)*g i)=aM pt.length λi=>(u i - JQ mv pt qs rs wl wb x i)*g i:=λg=>by
  rw[Pe λi hi=>by rw[c1 i,if_neg (by lia)]];exact aE λi hi=>by rw[c1 i,if_pos hi]
 have c3:(aM (pt.length+mv.length) λi=>(iF qs rs).getD i 0*(((if i < pt.length then u i else x (i - pt.length)) - DL pt.length (dS (dw (bZ mv pt qs rs wl wb) pt.length).1) ((dw (bZ mv pt qs rs wl wb) pt.length).2:Rat) (pt.length+mv.length) (λi=>if i < pt.length then 0 else x (i - pt.length)) i)*((if i < pt.length then u i else x (i - pt.length)) - DL pt.length (dS (dw (bZ mv pt qs rs wl wb) pt.length).1) ((dw (bZ mv pt qs rs wl wb) pt.length).2:Rat) (pt.length+mv.length) (λi=>if i < pt.length then 0 else x (i - pt.length)) i)))=aM pt.length λi=>(iF qs rs).getD i 0*((u i - JQ mv pt qs rs wl wb x i)*(u i - JQ mv pt qs rs wl wb x i)):=by
  rw[aE (k:=pt.length+mv.length) (g:=λi=>((if i < pt.length then u i else x (i - pt.length)) - DL pt.length (dS (dw (bZ mv pt qs rs wl wb) pt.length).1) ((dw (bZ mv pt qs rs wl wb) pt.length).2:Rat) (pt.length+mv.length) (λi=>if i < pt.length then 0 else x (i - pt.length)) i)*((iF qs rs).getD i 0*((if i < pt.length then u i else x (i - pt.length)) - DL pt.length (dS (dw (bZ mv pt qs rs wl wb) pt.length).1) ((dw (bZ mv pt qs rs wl wb) pt.length).2:Rat) (pt.length+mv.length) (λi=>if i < pt.length then 0 else x (i - pt.length)) i))) λi _=>by grind,c2];refine aE λi hi=>?_
  rw[c1 i,if_pos hi];grind
 have c4:(aM (pt.length+mv.length) λi=>(iF qs rs).getD i 0*((if i < pt.length then u i else x (i - pt.length))*(if i < pt.length then u i else x (i - pt.length))))=(aM pt.length λk=>(iF qs rs).getD k 0*(u k*u k))+aM mv.length λc=>(iF qs rs).getD (pt.length+c) 0*(x c*x c):=by
  rw[my];congr 1
  ·exact aE λi hi=>by rw[if_pos hi]
  ·exact aE λi hi=>by rw[if_neg (by lia),show pt.length+i - pt.length=i by lia]
 rw[show (λe=>aM (pt.length+mv.length) λi=>(if i < pt.length then u i else x (i - pt.length))*lI (il mv pt) i e)=λe=>(aM pt.length λk=>u k*lI (il mv pt) k e)+aM mv.length λc=>x c*lI (il mv pt) (pt.length+c) e from funext λe=>J8,show (λe=>aM (pt.length+mv.length) λi=>((if i < pt.length then u i else x (i - pt.length)) - DL pt.length (dS (dw (bZ mv pt qs rs wl wb) pt.length).1) ((dw (bZ mv pt qs rs wl wb) pt.length).2:Rat) (pt.length+mv.length) (λi=>if i < pt.length then 0 else x (i - pt.length)) i)*lI (il mv pt) i e)=λe=>aM pt.length λk=>(u k - JQ mv pt qs rs wl wb x k)*lI (il mv pt) k e from funext λe=>c2 _,c3,c4] at q;exact q.symm
end
end
def jb (xs:List Rat):List Rat:=xs.map λx=>x*x
def oE (ws:List Rat) (rows:LR9):Rat:=(rows.map λxs=>dN ws (jb xs)).sum
section
variable {mv pt lk pus a b rows:LR9} {ws wT st go x y:List Rat} {T n m:Nat}
theorem Iy:∀{rows:LR9},(∀xs∈rows,xs.length=ws.length)->dN (JL ws rows.length) (jb rows.flatten)=oE ws rows
 | [],_=>rfl
 | xs :: rows,h=>by
  have e1:JL ws (xs :: rows).length=ws++JL ws rows.length:=by unfold JL;rw[bQ,gU,fG]
  have e2:jb (xs :: rows).flatten=jb xs++jb rows.flatten:=by unfold jb;rw[fG,cn]
  have e3:dN (ws++JL ws rows.length) (jb xs++jb rows.flatten)=dN ws (jb xs)+dN (JL ws rows.length) (jb rows.flatten):=by
   unfold dN;rw[D8 (by unfold jb;rw[ag];exact (h xs (.head _)).symm),AU]
  rw[e1,e2,e3,Iy λys hy=>h ys (.tail _ hy)];rfl
end
theorem QC (h:Int.gcd a b=1):Int.gcd (a*a) (b*b)=1:=by
 have h':Nat.Coprime a.natAbs b.natAbs:=h;show Nat.gcd (a*a).natAbs (b*b).natAbs=1
 rw[fH,fH];exact Nat.Coprime.mul_left (Nat.Coprime.mul_right h' h') (Nat.Coprime.mul_right h' h')
theorem Si (x:Rat):((nm x).1*(nm x).1,(nm x).2*(nm x).2)=nm (x*x):=by
 refine OC (eJ (jC x) (jC x)) (QC (Du x)) ?_
 have e:(((nm x).1:Int):Rat)=x*(((nm x).2:Int):Rat):=by
  show (x.num:Rat)=x*(((x.den:Nat):Int):Rat)
  rw[l7,bA]
 rw[aJ,aJ,e];grind
inductive Ke (K:FG9) (vs:List V) (H:Hp) (Q:VK) (E9:XK):Prop
 | mk (u:V) (x:Rat):vs=[u]->bS K H x u->lU x->(∀r H',aG H H'->bS K H' (x*x) (.ref r)->Q (.ref r) H')->Ke K vs H Q E9
def GZ (ws:List Rat) (rows:LR9):Prop:=∃M A N B:Nat,0 < M/\0 < N/\1<=A/\1<=B/\(∀w∈ws,Tp M A w)/\(∀xs∈rows,∀x∈xs,Tp N B x)/\M*(N*N)<=2^3900000/\1024*(A*(B*B))<=2^3900000/\ws.length<=8/\rows.length<=20
theorem yR {M W:Nat}:∀{l:List Rat},(∀x∈l,Tp M W x)->Tp M (l.length*W) l.sum
 | [],_=>by rw[List.length_nil,Nat.zero_mul];exact Tp.zero
 | x :: l,h=>by
  rw[Q8,bQ,d6,tu];exact (h x (.head _)).add (yR λy hy=>h y (.tail _ hy))
theorem FN (h1:∀x∈xs,Tp M A x) (h2:∀y∈ys,Tp N B y):Tp (M*N) (xs.length*(A*B)) (dN xs ys):=by
 unfold dN
 have t:=yR (M:=M*N) (W:=A*B) (l:=List.zipWith (λx y=>x*y) xs ys) λz hz=>by
  obtain ⟨i,hi,e⟩:=bU hz;rw[iR] at e;rw[<- e];exact (h1 _ (bu _)).mul (h2 _ (bu _))
 exact t.mono (az _ (by rw[bC];lia))
section
variable {ws:List Rat} {rows:LR9}
theorem GZ.num (h:GZ ws rows) (hx:xs∈rows) (hx':x∈xs) (hw:w∈ws):lU x/\lU w/\lU (x*x)/\lU (w*(x*x)):=by
 obtain ⟨M,A,N,B,M0,N0,A1,B1,h1,h2,b1,b2,_,_⟩:=h;have up:∀{k:Nat},k<=2^3900000->k<=2^3995000:=λh=>ak h (p2 (by decide))
 generalize (2:Nat)^3900000=P at b1 b2 up;have n1:N*N<=M*(N*N):=cM _ M0;have n2:N<=N*N:=cM _ N0;have m1:M<=M*(N*N):=cV _ (ba N0 N0);have a1:B*B<=A*(B*B):=cM _ A1;have a2:B<=B*B:=cM _ B1;have a3:A<=A*(B*B):=cV _ (ba B1 B1);have tx:=h2 xs hx x hx';have tw:=h1 w hw;exact ⟨uk tx N0 (up (by lia)) (up (by lia)),uk tw M0 (up (by lia)) (up (by lia)),uk (tx.mul tx) (ba N0 N0) (up (by lia)) (up (by lia)),uk (tw.mul (tx.mul tx)) (ba M0 (ba N0 N0)) (up (by lia)) (up (by lia))⟩
theorem GZ.take (h:GZ ws rows) (i k:Nat) (xs:List Rat) (hx:xs∈rows):lU (oE ws (rows.take i)+dN (ws.take k) ((jb xs).take k)):=by
 obtain ⟨M,A,N,B,M0,N0,A1,B1,h1,h2,b1,b2,l1,l2⟩:=h
 have ts:∀ys∈rows,∀z∈jb ys,Tp (N*N) (B*B) z:=λys hy z hz=>by
  obtain ⟨y,hy',rfl⟩:=aw.mp hz;exact (h2 ys hy y hy').mul (h2 ys hy y hy')
 have t1:=yR (M:=M*(N*N)) (W:=8*(A*(B*B))) (l:=(rows.take i).map λxs=>dN ws (jb xs)) λz hz=>by
  obtain ⟨ys,hy,rfl⟩:=aw.mp hz;exact (FN h1 (ts ys (b9 hy))).mono (az _ l1)
 have t2:=FN (xs:=ws.take k) (ys:=(jb xs).take k) (λw hw=>h1 w (b9 hw)) (λz hz=>ts xs hx z (b9 hz));have e1:((rows.take i).map λxs=>dN ws (jb xs)).length*(8*(A*(B*B)))<=20*(8*(A*(B*B))):=az _ (by rw[ag,cW];lia);have e2:(ws.take k).length*(A*(B*B))<=8*(A*(B*B)):=az _ (by rw[cW];lia);have up:∀{k:Nat},k<=2^3900000->k<=2^3995000:=λh=>ak h (p2 (by decide))
 generalize (2:Nat)^3900000=P at b1 b2 up;exact uk ((t1.mono e1).add (t2.mono e2)) (ba M0 (ba N0 N0)) (up (by lia)) (up (by lia))
theorem GZ.szn (h:GZ ws rows):lU (oE ws rows):=by
 obtain ⟨M,A,N,B,M0,N0,A1,B1,h1,h2,b1,b2,l1,l2⟩:=h
 have t1:=yR (M:=M*(N*N)) (W:=8*(A*(B*B))) (l:=rows.map λxs=>dN ws (jb xs)) λz hz=>by
  obtain ⟨ys,hy,rfl⟩:=aw.mp hz;refine (FN h1 λz hz=>?_).mono (az _ l1);obtain ⟨y,hy',rfl⟩:=aw.mp hz;exact (h2 ys hy y hy').mul (h2 ys hy y hy')
 have e1:(rows.map λxs=>dN ws (jb xs)).length*(8*(A*(B*B)))<=20*(8*(A*(B*B))):=az _ (by rw[ag];lia);have up:∀{k:Nat},k<=2^3900000->k<=2^3995000:=λh=>ak h (p2 (by decide))
 generalize (2:Nat)^3900000=P at b1 b2 up;exact uk (t1.mono e1) (ba M0 (ba N0 N0)) (up (by lia)) (up (by lia))
theorem GZ.rw (h:GZ ws rows):SM (JL ws rows.length)/\SM (jb rows.flatten):=by
 obtain ⟨M,A,N,B,M0,N0,A1,B1,h1,h2,b1,b2,l1,l2⟩:=h;have up:∀{k:Nat},k<=2^3900000->k<=2^4300000:=λh=>ak h (p2 (by decide))
 generalize (2:Nat)^3900000=P at b1 b2 up;have n1:N*N<=M*(N*N):=cM _ M0;have m1:M<=M*(N*N):=cV _ (ba N0 N0);have a1:B*B<=A*(B*B):=cM _ A1;have a3:A<=A*(B*B):=cV _ (ba B1 B1);refine ⟨Ko (W:=A) M0 (up (by lia)) (up (by lia)) λw hw=>h1 w (O3 hw),Ko (W:=B*B) (ba N0 N0) (up (by lia)) (up (by lia)) λz hz=>?_⟩;obtain ⟨y,hy,rfl⟩:=aw.mp hz;obtain ⟨ys,hy1,hy2⟩:=cJ.mp hy;exact (h2 ys hy1 y hy2).mul (h2 ys hy1 y hy2)
end
inductive FP (K:FG9) (vs:List V) (H:Hp) (Q:VK) (E9:XK):Prop
 | mk (p q:Addr) (ws:List Rat) (rows:LR9) (H0:Hp):vs=[.ref p,.ref q]->bX K H p ws->cx K H0 H q rows->(∀xs∈rows,xs.length=ws.length)->GZ ws rows->(∀r H',aG H H'->bS K H' (oE ws rows) (.ref r)->Q (.ref r) H')->FP K vs H Q E9
theorem EH {K:FG9} {H0 H:Hp}:∀{rows:LR9} {us:List V},Paired (ia K H0 H) rows us->∃zss:List (List V),Paired (λzs u=>∃q,u=V.ref q/\H q=some (.lst zs)) zss us/\Paired (λR zs=>Paired (bS K H) R zs) rows zss
 | _,_,.nil=>⟨[],.nil,.nil⟩
 | _,_,.cons h t=>by
  obtain ⟨zss,a,b⟩:=EH t;obtain ⟨q,e,_,zs,g,r⟩:=h;exact ⟨zs :: zss,.cons ⟨q,e,g⟩ a,.cons r b⟩
theorem DE:oE ws (rows++[xs])=oE ws rows+dN ws (jb xs):=by
 unfold oE;rw[cn,AU];simp [c8]
def xT (pt:LR9) (d:List Rat) (n:Nat):Nat->List Rat
 | 0=>List.replicate n 0
 | k+1=>List.zipWith (λx y=>x+y) (xT pt d n k) ((pt.getD k []).map λy=>d.getD k 0*y)
def Ee (w:List (List Int)×Int) (x:List Rat):Rat:=dN x (zT w.1 w.2 x)
section
variable {mv pt lk:LR9} {qs rs fs st pu d ws xs:List Rat} {wl:List (List Int)} {wb:Int} {σ ω b t n k:Nat}
theorem xf (wp:∀xs∈pt,xs.length=n):∀k,k<=pt.length->(xT pt d n k).length=n
 | 0,_=>dU ..
 | k+1,hk=>by
  show (List.zipWith _ _ _).length=n
  rw[bC,xf wp k (by lia),ag,wp _ (getD_in (by lia)),IP]
theorem OA (wp:∀xs∈pt,xs.length=n) {i:Nat} (hi:i < n):∀k,k<=pt.length->(xT pt d n k).getD i 0=aM k λj=>d.getD j 0*lI pt j i
 | 0,_=>by
  show (List.replicate n (0:Rat)).getD i 0=0
  rw[ae,mY,if_pos hi];rfl
 | k+1,hk=>by
  have l1:=xf (d:=d) wp k (by lia);have l2:(pt.getD k []).length=n:=wp _ (getD_in (by lia));show (List.zipWith _ _ _).getD i 0=aM k _+_
  rw[<- OA wp hi k (by lia),ae,bR,ay,ae (l:=xT pt d n k),af (by lia),af (by lia)];show _=_+d.getD k 0*(pt.getD k []).getD i 0
  rw[ae (l:=pt.getD k []),af (by lia)];rfl
theorem KQ {b:Int} (hi:i < ls.length):(zT ls b xs).getD i 0=(aM xs.length λj=>dS ls i j*xs.getD j 0) / (b:Rat):=by
 unfold zT dS;rw[ae,ay,ae (l:=ls),af hi];rfl
theorem yU {b:Int}:(zT ls b xs).length=ls.length:=ag ..
theorem F4 (h:∀i,i < n->z i=z' i):gW n W z=gW n W z':=by
 unfold gW;exact aE λi hi=>by rw[h i hi,aE λj hj=>by rw[h j hj]]
theorem Cr (lw:wl.length=n) (lx:xs.length=n):Ee (wl,wb) xs=gW n (jS wl wb) λi=>xs.getD i 0:=by
 have hl:(zT wl wb xs).length=n:=by rw[yU,lw]
 show dN xs (zT wl wb xs)=_
 unfold gW;rw[oX (by lia),lx];refine aE λi hi=>?_
 rw[KQ (by lia),lx,bf,cT (aM n _),<- cw];congr 1;refine aE λj _=>?_
 unfold jS;rw[bf];grind
theorem DF (l:xs.length=ws.length):oE ws [xs]=aM ws.length λk=>ws.getD k 0*(xs.getD k 0*xs.getD k 0):=by
 show dN ws (jb xs)+0=_
 rw[c8,oX (by unfold jb;rw[ag];lia)];refine aE λk hk=>?_
 unfold jb;rw[ae (l:=List.map _ xs),ay,ae (l:=xs),af (by lia)];rfl
theorem KY {d:Rat}:(-d)⁻¹=-d⁻¹:=by
 by_cases h:d=0
 ·rw[h,Rat.neg_zero,Rat.inv_zero,Rat.neg_zero]
 ·have h2:-d≠0:=by grind
  have e:(-d)*(-d⁻¹)=1:=by rw[LY,Rat.mul_neg,Rat.neg_neg,c7 _ h]
  have e2:=congrArg (λx=>(-d)⁻¹*x) e;simp only[<- dE,ij _ h2,gH,fM] at e2;exact e2.symm
def K4 (pt:LR9) (rs:List Rat) (w:List (List Int)×Int) (n:Nat) (d:List Rat):Rat:=oE rs [d]+Ee w (xT pt d n pt.length)
section
variable (S:FD mv pt qs rs σ ω) (D:gQ mv pt lk) (O:QN mv pt qs rs)
include S D O
theorem OB (hk:k < pt.length):(iF qs rs).getD k 0=rs.getD k 0:=by
 unfold iF;have:=S.lr;rw[ae,fP (by lia),ae]
theorem Se:(iF qs rs).getD (pt.length+k) 0=qs.getD k 0:=by
 unfold iF;rw[ae,fF (by have:=S.lr;lia),ae,S.lr,show pt.length+k - pt.length=k by lia]
theorem Ow (hk:k < pt.length):lI (il mv pt) k e=lI pt k e:=by
 unfold lI il;rw[ae (l:=pt++_),fP hk,ae (l:=pt)]
theorem RK (hk:k < mv.length) (he:e < mv.length):lI (il mv pt) (pt.length+k) e=lI mv e k:=by
 unfold lI il;rw[ae (l:=pt++_),fF (by lia),show pt.length+k - pt.length=k by lia,Cu hk];show (mv.map λxs=>xs.getD k 0).getD e 0=(mv.getD e []).getD k 0
 rw[ae,ay,ae (l:=mv),af he];rfl
theorem K3 (lw:w.1.length=mv.length) (ld:d.length=pt.length):K4 pt rs w mv.length d=gW mv.length (jS w.1 w.2) (λe=>aM pt.length λk=>d.getD k 0*lI (il mv pt) k e)+aM pt.length λk=>(iF qs rs).getD k 0*(d.getD k 0*d.getD k 0):=by
 unfold K4;rw[show w=(w.1,w.2) from rfl,Cr lw (xf D.pw _ (ar _)),DF (by rw[S.lr,ld]),S.lr,zf];congr 1
 ·refine F4 λi hi=>?_
  rw[OA D.pw hi _ (ar _)];exact aE λk hk=>by rw[Ow S D O hk]
 ·exact aE λk hk=>by rw[OB S D O hk]
theorem Sj (W:ue mv.length w.1 w.2 b) (ld:d.length=pt.length):0<=K4 pt rs w mv.length d/\(K4 pt rs w mv.length d=0↔d=List.replicate d.length 0):=by
 have h1:=W.ps λe=>aM pt.length λk=>d.getD k 0*lI (il mv pt) k e
 have nn:∀k,k < pt.length->0<=(iF qs rs).getD k 0*(d.getD k 0*d.getD k 0):=λk hk=>dW (O.q0 k (by lia)) QZ
 have h2:=vb (f:=λk=>(iF qs rs).getD k 0*(d.getD k 0*d.getD k 0)) pt.length nn;have ge:=λk (hk:k < pt.length)=>Cy (f:=λk=>(iF qs rs).getD k 0*(d.getD k 0*d.getD k 0)) hk nn
 rw[K3 S D O W.len ld];refine ⟨by grind,λh=>?_,λh=>?_⟩
 ·refine List.ext_getElem (by rw[dU]) λk hk _=>?_
  rw[List.getElem_replicate];have hk':k < pt.length:=by lia
  have z:=ge k hk';have r0:=O.r0 k hk';have e:d.getD k 0=d[k]:=by rw[ae,af hk];rfl
  rw[e] at z
  have z0:(iF qs rs).getD k 0*(d[k]*d[k])=0:=by
   have:=nn k hk';rw[e] at this;grind
  rcases AS.mp z0 with q | q
  ·rw[q] at r0;exact absurd r0 (by decide)
  ·rcases AS.mp q with q | q <;> exact q
 ·have z:∀k,d.getD k 0=0:=λk=>by
   rw[h,ae,mY]
   split <;> rfl
  rw[d7 (f:=λk=>(iF qs rs).getD k 0*(d.getD k 0*d.getD k 0)) λk _=>by rw[z,ck,gX],c8];rw[F4 (z':=λ_=>0) λi _=>d7 λk _=>by rw[z,ck]];unfold gW;exact d7 λi _=>ck _
theorem Qv (W:ue mv.length (bY mv pt qs rs fs t).1.1 (bY mv pt qs rs fs t).1.2 b) (lx:x.length=mv.length) (hk:k < pt.length):(kQ mv pt qs rs fs (t+1) x).getD k 0=JQ mv pt qs rs (bY mv pt qs rs fs t).1.1 (bY mv pt qs rs fs t).1.2 (λi=>x.getD i 0) k:=by
 have U:=Ag S D O W;obtain ⟨l1,w1,d1,_⟩:=ve S D W O pt.length (ar _);unfold kQ;rw[KQ (by rw[U.len];exact hk),lx];have hd:(bY mv pt qs rs fs (t+1)).2.2=-(dw (bZ mv pt qs rs (bY mv pt qs rs fs t).1.1 (bY mv pt qs rs fs t).1.2) pt.length).2:=rfl
 have hu:∀j,dS (bY mv pt qs rs fs (t+1)).2.1 k j=dS (dw (bZ mv pt qs rs (bY mv pt qs rs fs t).1.1 (bY mv pt qs rs fs t).1.2) pt.length).1 k (pt.length+j):=λj=>by
  show dS (O6 (bZ mv pt qs rs (bY mv pt qs rs fs t).1.1 (bY mv pt qs rs fs t).1.2) pt.length) k j=_
  unfold dS;congr 1;rw[ae (l:=O6 _ _),List.getElem?_take,if_pos hk,ay,ae (l:=(dw _ _).1)];cases e:(dw (bZ mv pt qs rs (bY mv pt qs rs fs t).1.1 (bY mv pt qs rs fs t).1.2) pt.length).1[k]? with
  | none=>rfl
  | some l =>
   show (l.drop pt.length).getD j 0=l.getD (pt.length+j) 0
   rw[ae,FG,ae]
 unfold JQ;rw[hd,aE λj _=>by rw[hu j],iJ];generalize ((dw (bZ mv pt qs rs (bY mv pt qs rs fs t).1.1 (bY mv pt qs rs fs t).1.2) pt.length).2:Rat)=d
 have e:(aM mv.length λc=>dS (dw (bZ mv pt qs rs (bY mv pt qs rs fs t).1.1 (bY mv pt qs rs fs t).1.2) pt.length).1 k (pt.length+c) / d*x.getD c 0)=d⁻¹*aM mv.length λc=>dS (dw (bZ mv pt qs rs (bY mv pt qs rs fs t).1.1 (bY mv pt qs rs fs t).1.2) pt.length).1 k (pt.length+c)*x.getD c 0:=by
  rw[<- cw];exact aE λc _=>by rw[bf];grind
 rw[e,bf,KY];grind
theorem My (W:ue mv.length (bY mv pt qs rs fs t).1.1 (bY mv pt qs rs fs t).1.2 b) (sy:∀i j,i < mv.length->j < mv.length->jS (bY mv pt qs rs fs t).1.1 (bY mv pt qs rs fs t).1.2 i j=jS (bY mv pt qs rs fs t).1.1 (bY mv pt qs rs fs t).1.2 j i) (ls:st.length=mv.length) (lp:pu.length=pt.length):Ee (bY mv pt qs rs fs (t+1)).1 st+K4 pt rs (bY mv pt qs rs fs t).1 mv.length (List.zipWith (λx y=>x - y) pu (kQ mv pt qs rs fs (t+1) st))=Ee (bY mv pt qs rs fs t).1 (gE mv pt st pu)+(oE rs [pu]+oE qs [st]):=by
 have U:=Ag S D O W;have ldu:(kQ mv pt qs rs fs (t+1) st).length=pt.length:=by unfold kQ;rw[yU,U.len]
 have ld:(List.zipWith (λx y=>x - y) pu (kQ mv pt qs rs fs (t+1) st)).length=pt.length:=by rw[bC,lp,ldu,IP]
 have dk:∀k,k < pt.length->(List.zipWith (λx y=>x - y) pu (kQ mv pt qs rs fs (t+1) st)).getD k 0=pu.getD k 0 - JQ mv pt qs rs (bY mv pt qs rs fs t).1.1 (bY mv pt qs rs fs t).1.2 (λi=>st.getD i 0) k:=λk hk=>by
  rw[<- Qv S D O W ls hk,ae,bR,ae (l:=pu),ae (l:=kQ mv pt qs rs fs (t+1) st),af (by lia),af (by lia)];rfl
 obtain ⟨_,_,Wn,_⟩:=ue.next S D W O;have e0:=Nv S D W O sy (x:=λi=>st.getD i 0) (u:=λk=>pu.getD k 0);have e1:Ee (bY mv pt qs rs fs (t+1)).1 st=_:=Cr (wl:=(bY mv pt qs rs fs (t+1)).1.1) (wb:=(bY mv pt qs rs fs (t+1)).1.2) Wn.len ls;have e2:Ee (bY mv pt qs rs fs t).1 (gE mv pt st pu)=_:=Cr (wl:=(bY mv pt qs rs fs t).1.1) (wb:=(bY mv pt qs rs fs t).1.2) W.len xj;rw[K3 S D O W.len ld,e1,e2,DF (by rw[lp,S.lr]),DF (by rw[ls,S.lq]),S.lr,S.lq];have c1:(aM pt.length λk=>(iF qs rs).getD k 0*((List.zipWith (λx y=>x - y) pu (kQ mv pt qs rs fs (t+1) st)).getD k 0*(List.zipWith (λx y=>x - y) pu (kQ mv pt qs rs fs (t+1) st)).getD k 0))=_:=aE λk hk=>by rw[dk k hk]
 have c2:gW mv.length (jS (bY mv pt qs rs fs t).1.1 (bY mv pt qs rs fs t).1.2) (λe=>aM pt.length λk=>(List.zipWith (λx y=>x - y) pu (kQ mv pt qs rs fs (t+1) st)).getD k 0*lI (il mv pt) k e)=_:=congrArg (gW mv.length _) (funext λe=>aE λk hk=>by rw[dk k hk]);have c3:(aM pt.length λk=>rs.getD k 0*(pu.getD k 0*pu.getD k 0))=aM pt.length λk=>(iF qs rs).getD k 0*(pu.getD k 0*pu.getD k 0):=aE λk hk=>by rw[OB S D O hk]
 have c4:(aM mv.length λk=>qs.getD k 0*(st.getD k 0*st.getD k 0))=aM mv.length λc=>(iF qs rs).getD (pt.length+c) 0*(st.getD c 0*st.getD c 0):=aE λk _=>by rw[Se S D O]
 have mg:∀e,e < mv.length->(gE mv pt st pu).getD e 0=(aM pt.length λk=>pu.getD k 0*lI (il mv pt) k e)+aM mv.length λc=>st.getD c 0*lI (il mv pt) (pt.length+c) e:=λe he=>by
  rw[K1 D ls lp he,zf];congr 1
  ·exact aE λk hk=>by rw[Ow S D O hk]
  ·exact aE λc hc=>by rw[RK S D O hc he,cT]
 have c5:gW mv.length (jS (bY mv pt qs rs fs t).1.1 (bY mv pt qs rs fs t).1.2) (λi=>(gE mv pt st pu).getD i 0)=gW mv.length (jS (bY mv pt qs rs fs t).1.1 (bY mv pt qs rs fs t).1.2) λe=>(aM pt.length λk=>pu.getD k 0*lI (il mv pt) k e)+aM mv.length λc=>st.getD c 0*lI (il mv pt) (pt.length+c) e:=by
  exact F4 mg
 rw[c1,c2,c3,c4,c5];exact e0
end
end
structure QL (mv pt:LR9) (qs rs fs st pu:List Rat) (l:Nat):Prop where
 ls:st.length=mv.length
 lp:pu.length=pt.length
 ld:(kQ mv pt qs rs fs (l+1) st).length=pt.length
 mm:∃M,qo M (st.map nm)
 pz:∀z∈pu,lU z
 dz:∀z∈kQ mv pt qs rs fs (l+1) st,lU z
 sz:∀z∈List.zipWith (λx y=>x - y) pu (kQ mv pt qs rs fs (l+1) st),lU z
 py:∀k,k<=pt.length->∀z∈xT pt (List.zipWith (λx y=>x - y) pu (kQ mv pt qs rs fs (l+1) st)) mv.length k,lU z
 tm:∀k,k < pt.length->∀y∈pt.getD k [],lU y/\lU ((List.zipWith (λx y=>x - y) pu (kQ mv pt qs rs fs (l+1) st)).getD k 0*y)
 ef:GZ rs [List.zipWith (λx y=>x - y) pu (kQ mv pt qs rs fs (l+1) st)]
 lW:(bY mv pt qs rs fs l).1.1.length=mv.length
 wW:∀z∈(bY mv pt qs rs fs l).1.1,z.length=mv.length
 f1:∀xs∈Me (bY mv pt qs rs fs l).1.1 (bY mv pt qs rs fs l).1.2,xs.length=mv.length/\D4 xs (xT pt (List.zipWith (λx y=>x - y) pu (kQ mv pt qs rs fs (l+1) st)) mv.length pt.length)
 f2:D4 (xT pt (List.zipWith (λx y=>x - y) pu (kQ mv pt qs rs fs (l+1) st)) mv.length pt.length) (zT (bY mv pt qs rs fs l).1.1 (bY mv pt qs rs fs l).1.2 (xT pt (List.zipWith (λx y=>x - y) pu (kQ mv pt qs rs fs (l+1) st)) mv.length pt.length))
 wz:lU (Ee (bY mv pt qs rs fs l).1 (xT pt (List.zipWith (λx y=>x - y) pu (kQ mv pt qs rs fs (l+1) st)) mv.length pt.length))
 nn:0<=K4 pt rs (bY mv pt qs rs fs l).1 mv.length (List.zipWith (λx y=>x - y) pu (kQ mv pt qs rs fs (l+1) st))/\(K4 pt rs (bY mv pt qs rs fs l).1 mv.length (List.zipWith (λx y=>x - y) pu (kQ mv pt qs rs fs (l+1) st))=0↔List.zipWith (λx y=>x - y) pu (kQ mv pt qs rs fs (l+1) st)=List.replicate (List.zipWith (λx y=>x - y) pu (kQ mv pt qs rs fs (l+1) st)).length 0)
section
variable {mv pt lk pus:LR9} {qs rs fs st pu ws:List Rat} {σ ω b b1 T l M1 M2 V N p B e:Nat}
theorem Rh (h:∀l∈ls,l.length=xs.length):(Me ls d).map (λys=>dN ys xs)=zT ls d xs:=by
 unfold Me zT;rw[IS];refine List.map_congr_left λl hl=>?_
 show dN (l.map λ(z:Int)=>(z:Rat) / (d:Rat)) xs=_
 rw[oX (by rw[ag];exact h l hl),ag,h l hl,bf,cT,<- cw];refine aE λj hj=>?_
 have hj':j < l.length:=by rw[h l hl];exact hj
 rw[ae,ay,ae (l:=l),af hj'];show (l[j]:Rat) / (d:Rat)*_=(d:Rat)⁻¹*((l[j]:Rat)*_)
 rw[bf];grind
theorem O5 (hd:0 < d) (hb:Sz b d) (hs:∀l∈ls,∀z∈l,Sz b z):∀xs∈Me ls d,jF b b xs:=λxs hx=>by
 unfold Me at hx;obtain ⟨l,hl,rfl⟩:=aw.mp hx;refine ⟨d.natAbs,2^b,by lia,aO hb,ar _,λy hy=>?_⟩;obtain ⟨z,hz,rfl⟩:=aw.mp hy;have dq:(d:Rat)≠0:=λq=>by have:=mS q;lia
 refine ⟨z,?_,ak (aO (hs l hl z hz)) (cV _ (by lia))⟩;rw[show ((d.natAbs:Nat):Rat)=(d:Rat) by rw[<- bA];congr 1;lia,ik dq]
theorem Rf (w0:0 < w.2) (hs:∀l∈w.1,∀z∈l,Sz b z) (n8:xs.length<=8) (hx:∀x∈xs,Fr N (2^p) x):Fr (N*(w.2.natAbs*N)) (2^(b+6+p+p)) (Ee w xs):=by
 have h:=zR (d:=w.2) hs (by lia) hx n8;refine (Fr.dot hx h).mono ?_;rw[show b+6+p+p=3+(p+(b+3+p)) by lia,aR 2 3,aR 2 p];exact az _ (show xs.length<=2^3 from n8)
theorem Sy (hw:∀w∈ws,Fr M A w) (hr:∀xs∈rows,∀x∈xs,Fr N (2^p) x) (l8:ws.length<=8) (l20:rows.length<=16):Fr (M*(N*N)) (2^7*(A*(2^p*2^p))) (oE ws rows):=by
 unfold oE
 have h:=Fr.sum (M:=M*(N*N)) (V:=8*(A*(2^p*2^p))) (l:=rows.map λxs=>dN ws (jb xs)) λz hz=>by
  obtain ⟨xs,hx,rfl⟩:=aw.mp hz;refine (Fr.dot hw λy hy=>?_).mono (az _ l8);obtain ⟨x,hx',rfl⟩:=aw.mp hy;exact (hr xs hx x hx').mul (hr xs hx x hx')
 refine h.mono ?_;rw[ag,show 2^7*(A*(2^p*2^p))=16*(8*(A*(2^p*2^p))) by lia];exact az _ l20
theorem Af (M0:0 < M) (Mb:M<=2^210) (hw:∀w∈ws,Fr M (2^22) w) (N0:0 < N) (Nb:N<=2^e) (hr:∀xs∈rows,∀x∈xs,Fr N (2^p) x) (l8:ws.length<=8) (l20:rows.length<=20) (he:4*e<=1000*3000) (hp:2*e+2*p<=1000*3000):GZ ws rows:=by
 refine ⟨M,2^22*M,N,2^p*N,M0,N0,ba (d5 _) M0,ba (d5 _) N0,λw h=>Tp.of (hw w h) (ar _),λxs hx x h=>Tp.of (hr xs hx x h) (ar _),?_,?_,l8,l20⟩
 ·refine ak (aL Mb (aL Nb Nb)) ?_;rw[<- aR,<- aR];exact p2 (by lia)
 ·refine ak (cU _ (aL (cU _ Mb) (aL (cU _ Nb) (cU _ Nb)))) ?_;rw[show 1024=2^10 from rfl,<- aR,<- aR,<- aR,<- aR,<- aR];exact p2 (by lia)
theorem DA (h0:0 < M) (h1:M<=2^a) (h2:A<=2^c) (hab:a+c<=1000*3900) (h:Fr M A x):lU x:=DB h0 h1 h2 (by lia) h
theorem Mz (X:Bd mv pt M1 M2 V 80 160 33) (S:FD mv pt qs rs 275 150) (D:gQ mv pt lk) (O:QN mv pt qs rs) (W:ue mv.length (bY mv pt qs rs fs l).1.1 (bY mv pt qs rs fs l).1.2 b1) (hb:b1<=1000*130) (N0:0 < N) (Nb:N<=2^1300) (hp:p<=400) (hs:∀x∈st,Fr N (2^p) x) (hu:∀x∈pu,Fr N (2^p) x) (ls:st.length=mv.length) (lp:pu.length=pt.length) (B0:0 < Bw) (Bb:Bw<=2^210) (hr:∀w∈rs,Fr Bw (2^22) w):QL mv pt qs rs fs st pu l:=by
 have n8:=D.n8;have i4:=D.i4;have U:=Ag S D O W;obtain ⟨e,he⟩:∃e,5*(b1+(2*275+150+20))+1=e:=⟨_,rfl⟩;rw[he] at U;have up:=U.pos;have ldu:(kQ mv pt qs rs fs (l+1) st).length=pt.length:=by unfold kQ;rw[yU,U.len]
 obtain ⟨d,ed⟩:∃d,List.zipWith (λx y=>x - y) pu (kQ mv pt qs rs fs (l+1) st)=d:=⟨_,rfl⟩;have ld:d.length=pt.length:=by rw[<- ed,bC,lp,ldu,IP]
 have f1:=zR (d:=(bY mv pt qs rs fs (l+1)).2.2) U.sz (by lia) hs (by lia);obtain ⟨Dn,eD⟩:∃x,(bY mv pt qs rs fs (l+1)).2.2.natAbs*N=x:=⟨_,rfl⟩;rw[eD] at f1;have D0:0 < Dn:=by rw[<- eD];exact ba (by lia) N0
 have Db:Dn<=2^(e+1300):=by
  have:=aO U.sb;rw[uj] at this;rw[<- eD,aR];exact aL this Nb
 have fu:∀x∈pu,Fr Dn (2^(e+3+p)) x:=λx h=>Fr.up (hu x h) (by rw[<- eD];exact dM _ _) (p2 (by lia))
 have fd:∀z∈d,Fr Dn (2^(e+4+p)) z:=λz hz=>by
  rw[<- ed] at hz;obtain ⟨i,hi,rfl⟩:=bU hz;have h1:i < pu.length:=by rw[bC] at hi;lia
  have h2:i < (kQ mv pt qs rs fs (l+1) st).length:=by rw[bC] at hi;lia
  rw[iR];have:=(fu _ (bu h1)).sub (f1 _ (bu h2));refine this.mono ?_;rw[show e+4+p=(e+3+p)+1 by lia,iQ,Nat.mul_two];exact ar _
 have gd:∀k,Fr Dn (2^(e+4+p)) (d.getD k 0):=λk=>by
  rw[ae];cases q:d[k]? with
  | none=>exact Fr.zero
  | some z=>exact fd z (ao q)
 have fy:∀k,k < pt.length->∀y∈pt.getD k [],Fr M2 V y:=λk hk y hy=>X.gp _ (getD_in hk) y hy
 have ft:∀k,k < pt.length->∀y∈pt.getD k [],Fr (Dn*M2) (2^(e+37+p)) (d.getD k 0*y):=λk hk y hy=>by
  refine ((gd k).mul (fy k hk y hy)).mono ?_;rw[show e+37+p=(e+4+p)+33 by lia,aR 2 (e+4+p)];exact cU _ X.v1
 have fp:∀k,k<=pt.length->∀z∈xT pt d mv.length k,Fr (Dn*M2) (k*2^(e+37+p)) z:=λk=>by
  induction k with
  | zero =>
   intro _ z hz;rw[Rb hz];exact Fr.zero
  | succ k ih =>
   intro hk z hz;have hz:z∈List.zipWith (λx y=>x+y) (xT pt d mv.length k) ((pt.getD k []).map λy=>d.getD k 0*y):=hz;obtain ⟨i,hi,rfl⟩:=bU hz;rw[iR];rw[bC] at hi;have h2:((pt.getD k []).map λy=>d.getD k 0*y)[i]'(by lia)∈(pt.getD k []).map λy=>d.getD k 0*y:=bu _
   obtain ⟨y,hy,e2⟩:=aw.mp h2;rw[<- e2,d6];exact (ih (by lia) _ (bu _)).add (ft k (by lia) y hy)
 have fp2:∀k,k<=pt.length->∀z∈xT pt d mv.length k,Fr (Dn*M2) (2^(e+40+p)) z:=λk hk z hz=>(fp k hk z hz).mono (by
  rw[show e+40+p=3+(e+37+p) by lia,aR 2 3];exact az _ (show k<=2^3 by lia))
 have DM0:=ba D0 X.m2
 have DMb:Dn*M2<=2^(e+1460):=by
  rw[show e+1460=(e+1300)+160 by lia,aR];exact aL Db X.b2
 have le5:(xT pt d mv.length pt.length).length=mv.length:=xf D.pw _ (ar _);have fe:jF (e+1460) (e+40+p) (xT pt d mv.length pt.length):=⟨_,_,DM0,DMb,ar _,fp2 _ (ar _)⟩;have wp:=W.pos;have fo:=zR (d:=(bY mv pt qs rs fs l).1.2) W.sl (by lia) (fp2 _ (ar _)) (by lia);have fo2:jF (b1+(e+1460)) (b1+3+(e+40+p)) (zT (bY mv pt qs rs fs l).1.1 (bY mv pt qs rs fs l).1.2 (xT pt d mv.length pt.length)):=⟨_,_,ba (by lia) DM0,by rw[aR];exact aL (aO W.sb) DMb,ar _,fo⟩;have F2:D4 (xT pt d mv.length pt.length) (zT (bY mv pt qs rs fs l).1.1 (bY mv pt qs rs fs l).1.2 (xT pt d mv.length pt.length)):=⟨_,_,_,_,fe,fo2,by lia⟩;constructor
 ·exact ls
 ·exact lp
 ·exact ldu
 ·exact jF.rowM (k:=1300) (j:=p) ⟨N,_,N0,Nb,ar _,hs⟩ (by lia)
 ·exact λz hz=>DA D0 Db (ar _) (by lia) (fu z hz)
 ·exact λz hz=>DA D0 Db (ar _) (by lia) (f1 z hz)
 ·rw[ed];exact λz hz=>DA D0 Db (ar _) (by lia) (fd z hz)
 ·rw[ed];exact λk hk z hz=>DA DM0 DMb (ar _) (by lia) (fp2 k hk z hz)
 ·rw[ed];exact λk hk y hy=>⟨DA X.m2 X.b2 X.v1 (by decide) (fy k hk y hy),DA DM0 DMb (ar _) (by lia) (ft k hk y hy)⟩
 ·rw[ed];exact Af B0 Bb hr D0 Db (λxs hx=>by rw[bz.mp hx];exact fd) (by rw[S.lr];lia) (by show 1<=20;decide) (by lia) (by lia)
 ·exact W.len
 ·exact W.wide
 ·rw[ed];intro xs hx;refine ⟨?_,_,_,_,_,O5 W.pos W.sb W.sl xs hx,fe,by lia⟩;unfold Me at hx;obtain ⟨z,hz,rfl⟩:=aw.mp hx;rw[ag];exact W.wide z hz
 ·rw[ed];exact F2
 ·rw[ed];exact JB fe fo2 (by lia) (by lia)
 ·rw[ed];exact Sj S D O W ld
end
def Pn (mv pt:LR9) (qs rs st:List Rat) (pus:LR9):Nat->Rat
 | 0=>0
 | k+1=>Pn mv pt qs rs st pus k+(oE rs [pus.getD k []]+oE qs [mB mv pt st pus k])
abbrev OD (mv pt:LR9) (qs rs fs st:List Rat) (pus:LR9) (T k:Nat):Rat:=K4 pt rs (bY mv pt qs rs fs (T - (k+1))).1 mv.length (List.zipWith (λx y=>x - y) (pus.getD k []) (kQ mv pt qs rs fs (T - (k+1)+1) (mB mv pt st pus k)))
def toQ (mv pt:LR9) (qs rs fs st:List Rat) (pus:LR9) (T:Nat):Nat->Rat
 | 0=>Ee (bY mv pt qs rs fs T).1 st
 | k+1=>toQ mv pt qs rs fs st pus T k+OD mv pt qs rs fs st pus T k
def ltQ (mv pt:LR9) (qs rs st:List Rat) (pus:LR9):Nat->Rat
 | 0=>oE rs pus
 | k+1=>ltQ mv pt qs rs st pus k+oE qs [mB mv pt st pus k]
structure S7 (mv pt:LR9) (qs rs fs st:List Rat) (pus:LR9) (T:Nat):Prop where
 lq:qs.length=mv.length
 lr:rs.length=pt.length
 lf:fs.length=mv.length
 ls:st.length=mv.length
 lt:pus.length=T
 t8:T<=8
 wp:∀xs∈pus,xs.length=pt.length
 la:∀k,k<=T->(mB mv pt st pus k).length=mv.length
 sq:∀k,k < T->QL mv pt qs rs fs (mB mv pt st pus k) (pus.getD k []) (T - (k+1))
 nx:∀k,k < T->OV mv pt (mB mv pt st pus k) (pus.getD k [])
 ta:∀k,k<=T->lU (toQ mv pt qs rs fs st pus T k)
 mz:∀k,k < T->lU (OD mv pt qs rs fs st pus T k)
 e1:GZ rs pus
 e2:∀k,k<=T->GZ qs [mB mv pt st pus k]
 e3:GZ fs [mB mv pt st pus T]
 e4:GZ qs ((List.range T).map (mB mv pt st pus))
 lz:∀k,k<=T->lU (ltQ mv pt qs rs st pus k)
 cf:Og mv pt st pus
 tot:ltQ mv pt qs rs st pus T+oE fs [mB mv pt st pus T]=toQ mv pt qs rs fs st pus T T
 to2:oE rs pus+oE qs ((List.range T).map (mB mv pt st pus))=ltQ mv pt qs rs st pus T
section
variable {mv pt lk pus:LR9} {qs rs fs st pu ws xs:List Rat} {σ ω b b1 T l w M1 M2 V N p B e k:Nat}
theorem SA:oE ws [xs]=dN ws (jb xs):=c8 _
section
variable (S:FD mv pt qs rs 275 150) (D:gQ mv pt lk) (WT:DS mv pt qs rs fs)
include S D WT
theorem Il:∀t i j,i < mv.length->j < mv.length->jS (bY mv pt qs rs fs t).1.1 (bY mv pt qs rs fs t).1.2 i j=jS (bY mv pt qs rs fs t).1.1 (bY mv pt qs rs fs t).1.2 j i
 | 0,i,j,_,_=>by
  obtain ⟨_,_,e⟩:=Ef D WT;rw[e,e];by_cases h:i=j
  ·rw[if_pos h,if_pos h.symm,h]
  ·rw[if_neg h,if_neg λz=>h z.symm]
 | t+1,_,_,hi,hj=>KS S D (xy S D WT t) (KL WT) (Il t) hi hj
theorem O4 (lx:xs.length=mv.length):Ee (bY mv pt qs rs fs 0).1 xs=oE fs [xs]:=by
 obtain ⟨_,W,e⟩:=Ef D WT;have h:Ee (bY mv pt qs rs fs 0).1 xs=_:=Cr (wl:=(bY mv pt qs rs fs 0).1.1) (wb:=(bY mv pt qs rs fs 0).1.2) W.len lx;rw[h,DF (by rw[WT.lf,lx]),WT.lf];unfold gW;refine aE λi hi=>?_
 rw[jT hi λj _ ne=>by rw[e,if_neg (Ne.symm ne),ck],e,if_pos rfl];grind
variable (ls:st.length=mv.length) (lT:pus.length=T) (wp:∀xs∈pus,xs.length=pt.length)
include ls lT wp
theorem Mu (hk:k < T):Ee (bY mv pt qs rs fs (T - (k+1)+1)).1 (mB mv pt st pus k)+OD mv pt qs rs fs st pus T k=Ee (bY mv pt qs rs fs (T - (k+1))).1 (mB mv pt st pus (k+1))+(oE rs [pus.getD k []]+oE qs [mB mv pt st pus k]):=by
 have lk:(pus.getD k []).length=pt.length:=wp _ (getD_in (by lia));have ek:pus[k]?=some (pus.getD k []):=by rw[ae,af (by lia)];rfl
 rw[oP ek];exact My S D (KL WT) (xy S D WT _) (Il S D WT _) (vg ls (by lia)) lk
theorem J0:∀k,k<=T->toQ mv pt qs rs fs st pus T k=Pn mv pt qs rs st pus k+Ee (bY mv pt qs rs fs (T - k)).1 (mB mv pt st pus k)
 | 0,_=>by
  show Ee _ st=0+Ee (bY mv pt qs rs fs (T - 0)).1 st
  rw[zb];rfl
 | k+1,hk=>by
  have h:=Mu S D WT ls lT wp (k:=k) (by lia);show toQ mv pt qs rs fs st pus T k+OD mv pt qs rs fs st pus T k=(Pn mv pt qs rs st pus k+(oE rs [pus.getD k []]+oE qs [mB mv pt st pus k]))+_
  rw[J0 k (by lia),show T - k=T - (k+1)+1 by lia,Q6,h];grind
theorem OE:∀k,k<=T->ltQ mv pt qs rs st pus k+oE rs (pus.take k)=Pn mv pt qs rs st pus k+oE rs pus
 | 0,_=>by
  show oE rs pus+0=0+oE rs pus
  grind
 | k+1,hk=>by
  have ek:pus[k]?=some (pus.getD k []):=by rw[ae,af (by lia)];rfl
  have ih:=OE k (by lia);rw[take_snoc ek,DE,<- SA];show ltQ mv pt qs rs st pus k+oE qs [mB mv pt st pus k]+_=(Pn mv pt qs rs st pus k+(oE rs [pus.getD k []]+oE qs [mB mv pt st pus k]))+_
  grind
theorem Sm:ltQ mv pt qs rs st pus T+oE fs [mB mv pt st pus T]=toQ mv pt qs rs fs st pus T T:=by
 have h:=OE S D WT ls lT wp T (ar _);rw[aA (by lia)] at h;rw[J0 S D WT ls lT wp T (ar _),Nat.sub_self,O4 S D WT (vg ls (by lia))];grind
end
theorem K7:∀k,oE rs pus+oE qs ((List.range k).map (mB mv pt st pus))=ltQ mv pt qs rs st pus k
 | 0=>by show oE rs pus+0=oE rs pus;rw[c8]
 | k+1=>by
  rw[AV,cn,List.map_singleton,DE,<- SA,<- Q6,K7 k];rfl
theorem Ju (RG:Rg mv pt w) (D:gQ mv pt lk) (WT:DS mv pt qs rs fs) (FW:SW mv pt T) (ls:st.length=mv.length) (ds:∀z∈st,Dr (max w 6) z) (dp:DrP pt T w pus):∃σ ω b j,OW mv pt qs rs fs T σ ω b j/\Tb mv pt qs rs fs st T/\S7 mv pt qs rs fs st pus T:=by
 obtain ⟨w1,M1,M2,V,X⟩:=SG RG;have n8:=D.n8;have i4:=D.i4;have S:=Pg X D WT;have O:=KL WT;have T8:=FW.2.1;obtain ⟨lT,hp⟩:=dp;have wp:∀xs∈pus,xs.length=pt.length:=λxs hx=>(hp xs hx).1
 have fl:pus.flatten.length<=8*4:=ak (y0 (m:=4) λxs hx=>by rw[wp xs hx];exact i4) (by rw[lT];exact az _ T8)
 obtain ⟨B,B0,Bb,hB⟩:=td (c:=10) (l:=st++pus.flatten) (λx hx=>by
  have:Dr (max w 6) x:=by
   rcases av.mp hx with h | h
   ·exact ds x h
   ·obtain ⟨xs,h1,h2⟩:=cJ.mp h;exact (hp xs h1).2 x h2
  exact ⟨ak this.1 (by lia),ak this.2 (by lia)⟩) (by decide)
 have Bb:B<=2^402:=ak Bb (p2 (by rw[aF];lia));have hs:∀x∈st,Fr B (2^22) x:=λx h=>hB x (av.mpr (.inl h))
 have hu:∀xs∈pus,∀x∈xs,Fr B (2^22) x:=λxs hx x h=>hB x (av.mpr (.inr (cJ.mpr ⟨xs,hx,h⟩)))
 have MB0:=ba X.m2 B0
 have MBb:M2*B<=2^562:=by
  rw[show 562=160+402 from rfl,aR];exact aL X.b2 Bb
 have sts:=X.states D ls wp MB0 MBb (Nat.dvd_refl _) (λx h=>(hs x h).scaleL M2) hu (by lia) (by decide);obtain ⟨N,eN⟩:∃N,M1^8*(M2*B)=N:=⟨_,rfl⟩;have N0:0 < N:=by rw[<- eN];exact ba (Nat.pow_pos X.m1) MB0
 have Nb:N<=2^1300:=by
  rw[<- eN];exact ak (EL X.b1 MBb) (p2 (by decide))
 have fx:∀k,k<=T->∀x∈mB mv pt st pus k,Fr N (2^400) x:=λk hk x h=>Fr.up ((sts k (by lia)).1 x h) (by
  rw[<- eN];exact Nat.mul_dvd_mul (Nat.pow_dvd_pow _ (by lia)) (Nat.dvd_refl _)) (p2 (by lia))
 have fu:∀xs∈pus,∀x∈xs,Fr N (2^400) x:=λxs hx x h=>Fr.up (hu xs hx x h) (by
  rw[<- eN];exact qC (dM _ _) (dM _ _)) (p2 (by decide))
 have gu:∀k,∀x∈pus.getD k [],Fr N (2^400) x:=λk x h=>by
  rw[ae] at h;cases e:pus[k]? with
  | none=>rw[e] at h;cases h
  | some xs=>rw[e] at h;exact fu xs (ao e) x h
 have gl:∀k,k < T->(pus.getD k []).length=pt.length:=λk hk=>wp _ (getD_in (by lia))
 obtain ⟨Bw,W0,Wb,hW⟩:=td (c:=10) (l:=iF qs rs++fs) (λx hx=>by
  have:Dr 1000 x:=(av.mp hx).elim (KN WT x) λh=>(WT.f0 x h).2
  exact ⟨ak this.1 (by decide),ak this.2 (by decide)⟩) (by decide)
 have lo:(iF qs rs++fs).length<=20:=by unfold iF;rw[aF,aF,WT.lr,WT.lq,WT.lf];lia
 have Wb:Bw<=2^210:=ak Wb (p2 (by lia));have wr:∀z∈rs,Fr Bw (2^22) z:=λz h=>hW z (av.mpr (.inl (av.mpr (.inl h))))
 have wq:∀z∈qs,Fr Bw (2^22) z:=λz h=>hW z (av.mpr (.inl (av.mpr (.inr h))))
 have wf:∀z∈fs,Fr Bw (2^22) z:=λz h=>hW z (av.mpr (.inr h))
 have lq:=WT.lq;have lr:=WT.lr;have lf:=WT.lf;have la:∀k,k<=T->(mB mv pt st pus k).length=mv.length:=λk hk=>vg ls (by lia)
 have one:∀{ys:List Rat},(∀x∈ys,Fr N (2^400) x)->∀xs∈[ys],∀x∈xs,Fr N (2^400) x:=λh xs hx=>by rw[bz.mp hx];exact h
 obtain ⟨E,eE⟩:∃E,Bw*(N*N)=E:=⟨_,rfl⟩;have E0:0 < E:=by rw[<- eE];exact ba W0 (ba N0 N0)
 have Eb:E<=2^2810:=by
  rw[<- eE,show 2810=210+(1300+1300) from rfl,aR,aR 2 1300];exact aL Wb (aL Nb Nb)
 have e829:2^7*(2^22*(2^400*2^400))=2^829:=by rw[<- aR,<- aR,<- aR]
 have ef:∀{ws:List Rat} {rows:LR9},(∀z∈ws,Fr Bw (2^22) z)->(∀xs∈rows,∀x∈xs,Fr N (2^400) x)->ws.length<=8->rows.length<=16->Fr E (2^829) (oE ws rows):=λh1 h2 h3 h4=>by
  have:=Sy h1 h2 h3 h4;rwa [eE,e829] at this
 have two:∀{a:Nat},2^a+2^a=2^(a+1):=λ{a}=>by rw[iQ,Nat.mul_two]
 have stage:∀k,k < T->Fr E (2^830) (oE rs [pus.getD k []]+oE qs [mB mv pt st pus k]):=λk hk=>by
  have:=(ef wr (one (gu k)) (by lia) (by show 1<=16;decide)).add (ef wq (one (fx k (by lia))) (by lia) (by show 1<=16;decide));rwa [two] at this
 have sg:∀k,k<=T->Fr E (k*2^830) (Pn mv pt qs rs st pus k):=λk=>by
  induction k with
  | zero=>intro _;exact Fr.zero
  | succ k ih =>
   intro hk;rw[d6];exact (ih (by lia)).add (stage k hk)
 have sg4:∀k,k<=T->Fr E (2^840) (Pn mv pt qs rs st pus k):=λk hk=>(sg k hk).mono (by
  rw[show 840=10+830 from rfl,aR 2 10];exact az _ (show k<=2^10 by lia))
 have lt4:∀k,k<=T->Fr E (2^841) (ltQ mv pt qs rs st pus k):=λk hk=>by
  have h:∀k,k<=T->Fr E (2^829+k*2^829) (ltQ mv pt qs rs st pus k):=λk=>by
   induction k with
   | zero=>intro _;rw[Nat.zero_mul,Nat.add_zero];exact ef wr fu (by lia) (by lia)
   | succ k ih =>
    intro hk;rw[d6,<- Nat.add_assoc];exact (ih (by lia)).add (ef wq (one (fx k (by lia))) (by lia) (by show 1<=16;decide))
  refine (h k hk).mono ?_;rw[tu,<- d6,show 841=12+829 from rfl,aR 2 12];exact az _ (show k+1<=2^12 by lia)
 have all:∀(b b1:Nat) (e:Nat->Nat),(∀t,t<=T->ue mv.length (bY mv pt qs rs fs t).1.1 (bY mv pt qs rs fs t).1.2 b)->(∀t,t < T->ue mv.length (bY mv pt qs rs fs t).1.1 (bY mv pt qs rs fs t).1.2 b1)->b<=1000*890->b1<=1000*130->(∀l,1<=l->l<=T->Ta mv pt qs rs fs l (e l))->wK e T T<=1000*890->∃σ ω b j,OW mv pt qs rs fs T σ ω b j/\Tb mv pt qs rs fs st T/\S7 mv pt qs rs fs st pus T:=λb b1 e hW hV hb h1 hd hE=>by
  have wqf:∀k,k<=T->∃Q,0 < Q/\Q<=2^b/\Fr (E*Q) (2^(b+806)) (Ee (bY mv pt qs rs fs (T - k)).1 (mB mv pt st pus k)):=λk hk=>by
   have W:=hW (T - k) (by lia);have W0':=W.pos;refine ⟨(bY mv pt qs rs fs (T - k)).1.2.natAbs,by lia,aO W.sb,?_⟩;refine Fr.up (Rf W.pos W.sl (by rw[la k hk];exact n8) (fx k hk)) ?_ (p2 (by lia));rw[<- eE,show ∀a b c:Nat,a*(b*b)*c=(b*(c*b))*a from λa b c=>by rw[dJ c b,<- di b b c,dJ a,di,dJ a c,<- di]];exact IQ _ _
  have tf:∀k,k<=T->∃Q,0 < Q/\Q<=2^b/\Fr (E*Q) (2^(b+850)) (toQ mv pt qs rs fs st pus T k):=λk hk=>by
   obtain ⟨Q,q0,qb,h⟩:=wqf k hk;refine ⟨Q,q0,qb,?_⟩;rw[J0 S D WT ls lT wp k hk];have:=((sg4 k hk).scale Q).mono (p2 (show 840<=b+849 by lia)) |>.add (h.mono (p2 (show b+806<=b+849 by lia)))
   rwa [two] at this
  refine ⟨275,150,b,_,Qg S D O T8 hW hV (by lia) (by lia) (by decide),?_,?_⟩
  ·exact QG X D hd (hW T (ar _)) (by lia) T8 hE ls B0 (ak Bb (p2 (by decide))) λx h=>(hs x h).mono (p2 (by decide))
  refine ⟨lq,lr,lf,ls,lT,T8,wp,la,λk hk=>?_,λk hk=>?_,λk hk=>?_,λk hk=>?_,?_,λk hk=>?_,?_,?_,λk hk=>?_,λk hk=>?_,Sm S D WT ls lT wp,K7 T⟩
  ·exact Mz X S D O (hV _ (by lia)) h1 N0 Nb (ar _) (fx k (by lia)) (gu k) (la k (by lia)) (gl k hk) W0 Wb wr
  ·exact (sts k (by lia)).2 _ (by rw[ae,af (by lia)];rfl)
  ·obtain ⟨Q,q0,qb,h⟩:=tf k hk;exact DA (a:=2810+b) (ba E0 q0) (by rw[aR 2 2810];exact aL Eb qb) (ar _) (by lia) h
  ·obtain ⟨Q,q0,qb,h⟩:=tf k (by lia);obtain ⟨R,r0,rb,h'⟩:=tf (k+1) hk
   have e:OD mv pt qs rs fs st pus T k=toQ mv pt qs rs fs st pus T (k+1) - toQ mv pt qs rs fs st pus T k:=by
    show _=(toQ mv pt qs rs fs st pus T k+OD mv pt qs rs fs st pus T k) - _
    grind
   rw[e];have h1:=h.scale R;have h2:=h'.scale Q;rw[di,dJ R Q,<- di] at h2;have:=h2.sub h1;rw[two] at this;exact DA (a:=2810+b+b) (ba (ba E0 q0) r0) (by rw[aR 2 (2810+b),aR 2 2810];exact aL (aL Eb qb) rb) (ar _) (by lia) this
  ·exact Af W0 Wb wr N0 Nb fu (by lia) (by lia) (by decide) (by decide)
  ·exact Af W0 Wb wq N0 Nb (one (fx k hk)) (by lia) (by show 1<=20;decide) (by decide) (by decide)
  ·exact Af W0 Wb wf N0 Nb (one (fx T (ar _))) (by lia) (by show 1<=20;decide) (by decide) (by decide)
  ·refine Af (p:=400) W0 Wb wq N0 Nb (λxs hx=>?_) (by lia) (by rw[ag,bT];lia) (by decide) (by decide);obtain ⟨k,hk,rfl⟩:=aw.mp hx;exact fx k (aO (ui.mp hk))
  ·exact DA E0 Eb (ar _) (by decide) (lt4 k hk)
  ·exact ⟨N,2^400,N0,ak Nb (p2 (by decide)),p2 (by decide),fx k (by lia),fu⟩
 by_cases T4:T<=4
 ·have c4:cB 4<=1000*890:=by decide
  have c3:cB 3<=1000*130:=by decide
  have hE:∀T,T<=4->wK cB T T<=1000*890:=by decide
  refine all (cB 4) (cB 3) cB (λt ht=>(xy S D WT t).mono (LI (by lia))) (λt ht=>(xy S D WT t).mono (LI (by lia))) c4 c3 (λl l1 l2=>?_) (hE T T4)
  match l,l1 with
  | t+1,_=>exact Ag S D O (xy S D WT t)
 ·obtain ⟨⟨_,h⟩,T8,h3,_⟩:=FW
  have n2:mv.length<=2:=by
   rcases nQ mv.length 3 with q | q
   ·lia
   ·exact absurd (h3 q) T4
  obtain ⟨hd,_⟩:=h.resolve_left (by lia)
  have gf:∀l:LR9,(∀xs∈l,xs∈mv++pt)->GF 2520 1000 l:=λl hl xs hx x hx'=>by
   have:=hd xs (hl xs hx) x hx';exact (Fr.own x (aO this.2)).dvd (IC this.1)
  have C:=LF S D WT n2 (gf mv λxs hx=>av.mpr (.inl hx)) (gf pt λxs hx=>av.mpr (.inr hx));have hE:∀T,T<=8->wK (λ_=>5*(5700+(2*275+150+20))+1) T T<=1000*890:=by decide
  refine all 5700 5700 (λ_=>5*(5700+(2*275+150+20))+1) (λt ht=>(C t (by lia)).1) (λt ht=>(C t (by lia)).1) (by decide) (by decide) (λl l1 l2=>?_) (hE T T8)
  match l,l1 with
  | t+1,_=>exact Ag S D O (C t (by lia)).1
end
def QU (K:FG9) (H0 H:Hp) (C Cc x kn:Addr) (mv pt lk:LR9) (qs rs fs:List Rat):Prop:=∃dx sy a1 a2 a3,H x=some (.ins Cc dx (oG sy a1 a2 a3 kn))/\mV K H0 H C sy mv pt lk/\bX K H a1 qs/\bX K H a2 rs/\bX K H a3 fs
theorem QU.same {K:FG9} (h:QU K H0 H C Cc x kn mv pt lk qs rs fs) (s:aG H H'):QU K H0 H' C Cc x kn mv pt lk qs rs fs:=by
 obtain ⟨dx,sy,a1,a2,a3,g,S,R1,R2,R3⟩:=h;exact ⟨dx,sy,a1,a2,a3,s _ _ g,S.same s,R1.same s,R2.same s,R3.same s⟩
theorem QU.co {K:FG9} (h:QU K H0 H C Cc x kn mv pt lk qs rs fs):LX K H0 H C Cc x kn mv pt lk qs rs:=by
 obtain ⟨dx,sy,a1,a2,a3,g,S,R1,R2,R3⟩:=h;exact ⟨dx,sy,a1,a2,a3,g,S,R1,R2⟩
theorem SE:(oG sy a1 a2 a3 kn).lookup ("last_weights":Str)=some (.ref a3):=by
 unfold oG;rw[aN,if_neg (by decide +kernel),aN,if_pos rfl]
inductive HP (K:FG9) (C Cc:Addr) (vs:List V) (H:Hp) (Q:VK) (E9:XK):Prop
 | mk (A:Addr->Bool) (x dx sy b1 b2 b3:Addr) (Hb H0:Hp) (mv pt lk:LR9) (qs rs fs:List Rat) (M:Int):vs=[.ref x,.ref sy,.ref b1,.ref b2,.ref b3]->Hb x=none->Hb dx=none->dx≠x->H=upd (upd Hb dx (.own x)) x (.ins Cc dx [])->qK A Hb->mV K H0 (fg A Hb) C sy mv pt lk->bX K (fg A Hb) b1 qs->bX K (fg A Hb) b2 rs->bX K (fg A Hb) b3 fs->fs.length<=20->qo M (fs.map nm)->(∀kn v H',aG Hb H'->Hb kn=none->QU K H0 (fg (qP A kn) H') C Cc x kn mv pt lk qs rs fs->H' kn=some (.lst [v])->Of (fg (qP A kn) H') (FA (bW (fs.map nm) (cA (fs.map nm)))) (cA (fs.map nm)) [] 1 v->Q .non H')->HP K C Cc vs H Q E9
def Q4 (K:FG9) (H:Hp) (rt:Addr) (qs rs fs:List Rat):Prop:=∃a1 a2 a3,H rt=some (.lst [.ref a1,.ref a2,.ref a3])/\bX K H a1 qs/\bX K H a2 rs/\bX K H a3 fs
theorem Q4.same {K:FG9} (h:Q4 K H rt qs rs fs) (s:aG H H'):Q4 K H' rt qs rs fs:=by
 obtain ⟨a1,a2,a3,g,R1,R2,R3⟩:=h;exact ⟨a1,a2,a3,s _ _ g,R1.same s,R2.same s,R3.same s⟩
inductive HM (K:FG9) (C Cc:Addr) (vs:List V) (H:Hp) (Q:VK) (E9:XK):Prop
 | mk (x kn s p:Addr) (H0 H1:Hp) (mv pt lk:LR9) (qs rs fs st:List Rat) (pus:LR9) (T:Nat):vs=[.ref x,.ref s,.ref p]->QU K H0 H C Cc x kn mv pt lk qs rs fs->gQ mv pt lk->LQ mv pt lk->bX K H s st->cx K H1 H p pus->S7 mv pt qs rs fs st pus T->(∀r H',aG H H'->bS K H' (toQ mv pt qs rs fs st pus T T) (.ref r)->Q (.ref r) H')->HM K C Cc vs H Q E9
inductive Ex (K:FG9) (vs:List V) (H:Hp) (Q:VK) (E9:XK):Prop
 | mk (r rt s p:Addr) (H0 H1:Hp) (mv pt lk:LR9) (qs rs fs st:List Rat) (pus:LR9) (T:Nat):vs=[.ref r,.ref rt,.ref s,.ref p]->fK K H0 H r mv pt lk->gQ mv pt lk->Q4 K H rt qs rs fs->bX K H s st->cx K H1 H p pus->S7 mv pt qs rs fs st pus T->(∀t H',aG H H'->bS K H' (toQ mv pt qs rs fs st pus T T) (.ref t)->Q (.ref t) H')->Ex K vs H Q E9
inductive HE (K:FG9) (C Cc:Addr) (vs:List V) (H:Hp) (Q:VK) (E9:XK):Prop
 | mk (A:Addr->Bool) (r x kn rt s p:Addr) (H0 H1:Hp) (mv pt lk:LR9) (qs rs fs st pu:List Rat) (T σ ω b j l:Nat) (us:List V):vs=[.ref r,.ref x,.ref rt,.ref s,.ref p,.int ((l+1:Nat):Int)]->qK A H->A kn=true->LX K H0 (fg A H) C Cc x kn mv pt lk qs rs->gQ mv pt lk->OW mv pt qs rs fs T σ ω b j->l+1<=T->xI A (bY mv pt qs rs fs) kn H us->fK K H1 (fg A H) r mv pt lk->Q4 K (fg A H) rt qs rs fs->bX K (fg A H) s st->bX K (fg A H) p pu->QL mv pt qs rs fs st pu l->(∀e us' H',xF kn H H'->xI A (bY mv pt qs rs fs) kn H' us'->bS K (fg A H') (K4 pt rs (bY mv pt qs rs fs l).1 mv.length (List.zipWith (λx y=>x - y) pu (kQ mv pt qs rs fs (l+1) st))) (.ref e)->Q (.ref e) H')->HE K C Cc vs H Q E9
section
variable {K:FG9} {H H':Hp} {x:Rat} {v:V} {xs:List V} {A:Addr->Bool} {k:Nat}
theorem NK (h:xs.length=k+1):o3 xs (some (-1)) none=xs.drop k:=by
 unfold o3
 have e:HT.CY xs.length 0 (some (-1))=k:=by
  show (if (-1:Int) < 0 then ((-1:Int)+(xs.length:Int)).toNat else min (-1:Int).toNat xs.length)=k
  rw[if_pos (by decide),h]
  lia
 rw[e,HT.rN];exact aA (by rw[eI];lia)
theorem NL (h:xs.length=k+1):o3 xs none (some (-1))=xs.take k:=by
 unfold o3
 have e:HT.CY xs.length xs.length (some (-1))=k:=by
  show (if (-1:Int) < 0 then ((-1:Int)+(xs.length:Int)).toNat else min (-1:Int).toNat xs.length)=k
  rw[if_pos (by decide),h]
  lia
 rw[e,HT.rN,List.drop_zero,Nat.sub_zero]
theorem bS.hid (h:bS K H x v) (L:qK A H):bS K (fg A H) x v:=by
 obtain ⟨q,e,s⟩:=h;exact ⟨q,e,yS s L⟩
end
structure Od (b kn:Addr) (S:Nat->Mh) (A:Addr->Bool) (H:Hp):Prop where
 L:qK A H
 Ab:A b=true
 Ak:A kn=true
 B:ig H b
 N:∃us,xI A S kn H us
 ne:b≠kn
theorem Od.bag (h:Od b kn S A H) (u:cF b H H') (B':ig H' b):Od b kn S A H'/\aG (fg A H) (fg A H'):=by
 obtain ⟨us,k⟩:=h.N;obtain ⟨q,x,y,z,cs,hb,_⟩:=id B';exact ⟨⟨h.L.smx (cF.smx u) hb,h.Ab,h.Ak,B',⟨us,k.smx h.Ab (cF.smx u) (Ne.symm h.ne)⟩,h.ne⟩,kY h.Ab (cF.smx u)⟩
def kBl:Kind Bool where
 R:=λ_ _ x i=>x=.bl i
 d:=0
 inj:=λ_ h1 h2=>by rw[h1] at h2;cases h2;rfl
 rc:=λ{X pins σ H s x y v u a b A} I rx ry h1 h2 _=>by
  subst h1 h2;cases (show v=Value.bool a from rx);cases (show u=Value.bool b from ry);have q:=SeqAt.RcAt.bool_bool (A:=A) (s:=s) a b;rwa [iB] at q
 ne:=λ{X pins σ H s x y v u a b A} I rx ry h1 h2 _=>by
  subst h1 h2;cases (show v=Value.bool a from rx);cases (show u=Value.bool b from ry);have q:=SeqAt.RcNeAt.bool_bool (A:=A) (s:=s) a b;rwa [iB] at q
 eq:=λ{X pins σ H s x y v u a b A} I rx ry h1 h2 _=>by
  subst h1 h2;cases (show v=Value.bool a from rx);cases (show u=Value.bool b from ry);have q:=SeqAt.EqAt.bool_bool (A:=A) (s:=s) a b;rwa [iB] at q
end L2
open L2
local macro_rules | `(tactic| walk_at "hl") => `(tactic| first | (show _ ≤ sizeLine; with_unfolding_all decide) | (with_unfolding_all exact (by decide)))
local macro_rules | `(tactic| walk_at "sq") => `(tactic| first | with_reducible assumption | with_reducible exact uR.of (by assumption) | with_reducible exact bK.of (by assumption) | with_reducible exact uR.of aK | with_reducible exact bK.of aK | assumption)
local macro_rules | `(tactic| walk_at "sc") => `(tactic| first | (with_reducible show (0 : Int) < _; decide) | with_reducible exact NQ (by decide) (by decide) | with_reducible exact IG (by decide) (by decide) | with_reducible exact cpow_of (by decide) (by decide) (by decide))
local macro_rules | `(tactic| walk_at "rd") => `(tactic| first
  | with_reducible refine Pu ?_
  | with_reducible refine MM ?_
  | with_reducible refine PU ?_
  | with_reducible refine Kx ?_
  | ((with_reducible refine' Pp ?hx1 ?_); (case hx1 => with_unfolding_all rfl))
  | with_reducible refine Tf ?_
  | with_reducible refine RW ?_
  | with_reducible refine RZ ?_
  | with_reducible refine RQ ?_
  | with_reducible refine Tg ?_
  | with_reducible refine PR ?_
  | with_reducible refine PC ?_
  | with_reducible refine rd_eqS ?_
  | with_reducible refine rd_neS ?_
  | with_reducible refine rd_eqB ?_
  | with_reducible refine rd_neB ?_
  | with_reducible refine MQ ?_
  | with_reducible refine FZ ?_
  | with_reducible refine PN ?_
  | with_reducible refine MJ ?_
  | with_reducible refine MO ?_
  | with_reducible refine MP ?_
  | with_reducible refine Kw ?_
  | with_reducible refine MI ?_
  | with_reducible refine RR ?_
  | with_reducible refine Pw ?_
  | with_reducible refine rd_retN ?_
  | with_reducible refine PK ?_
  | with_reducible refine PV ?_
  | with_reducible refine RV ?_
  | with_reducible refine Py ?_
  | with_reducible refine M6 ?_
  | with_reducible refine rd_orV ?_
  | with_reducible refine ML ?_
  | with_reducible refine PL ?_
  | with_reducible refine Po ?_
  | with_reducible refine Ql ?_
  | with_reducible refine Tu ?_
  | with_reducible refine Ss ?_
  | with_reducible refine iteNF ?_
  | with_reducible refine RO ?_
  | with_reducible refine Pz ?_
  | with_reducible refine MW ?_
  | with_reducible refine Pq ?_
  | with_reducible refine PH ?_
  | with_reducible refine MY ?_
  | with_reducible refine RX ?_
  | with_reducible refine MV ?_
  | with_reducible refine Px ?_
  | with_reducible refine M5 ?_
  | ((with_reducible refine' rd_aug ?hx1 ?_); (case hx1 => with_unfolding_all rfl))
  | with_reducible refine PJ ?_
  | with_reducible refine MS ?_
  | with_reducible refine Ky ?_
  | with_reducible refine MT ?_
  | with_reducible refine RS ?_
  | with_reducible refine Jh ?_
  | with_reducible refine MK ?_
  | with_reducible refine PM ?_
  | with_reducible refine Kv ?_
  | with_reducible refine rd_iTup ?_
  | with_reducible refine Ku ?_
  | with_reducible refine rd_iRng2 ?_
  | ((with_reducible refine' MX ?hx1 ?_); (case hx1 => with_unfolding_all rfl))
  | with_reducible refine MH ?_
  | with_reducible refine RY ?_
  | with_reducible refine rd_bm0 ?_
  | with_reducible refine rd_brk ?_
  | ((with_reducible refine' MR ?hx1 ?hx2 ?_); (case hx1 => walk_at "sq"); (case hx2 => with_unfolding_all rfl))
  | with_reducible refine rd_cont ?_
  | ((with_reducible refine' eZ ?hx1 ?_); (case hx1 => walk_at "sc"))
  | ((with_reducible refine' F0 ?hx1 ?hx2 ?_); (case hx1 => walk_at "sq"); (case hx2 => with_unfolding_all rfl))
  | ((with_reducible refine' cp ?hx1 ?hx2 ?_); (case hx1 => walk_at "sq"); (case hx2 => with_unfolding_all rfl))
  | ((with_reducible refine' MU ?hx1 ?hx2 ?_); (case hx1 => walk_at "sq"); (case hx2 => with_unfolding_all rfl))
  | ((with_reducible refine' ir ?hx1 ?hx2 ?hx3 ?_); (case hx1 => with_reducible first | assumption | exact aK); (case hx2 => with_unfolding_all rfl); (case hx3 => with_unfolding_all rfl))
  | with_reducible refine ⟨_, rfl, ?_⟩
  | with_reducible refine ⟨_, _, rfl, ?_⟩)
local macro_rules | `(tactic| walk_at "w") => `(tactic| repeat walk_at "rd")
local macro_rules | `(tactic| walk_at "d") => `(tactic| exact ⟨rfl,rfl,rfl,by decide +kernel,rfl,by decide +kernel,by decide +kernel⟩)
namespace Lw
open PySem PySem.Spec PyProof.Rows L2 Nm
local macro_rules | `(tactic| exists $e) => `(tactic| (walk_at "w";refine $e))
set_option maxHeartbeats 4000000
def top (i:Nat):Stmt:=PySem.Challenge.pw_helmsum_k69_whole_costs_are_squares.main.body.getD i (.Pass ⟨0,0,0,0⟩)
abbrev uD:Stmt:=top 46
abbrev rC:Stmt:=top 47
abbrev lX:Stmt:=top 62
abbrev rK:Stmt:=top 64
abbrev uB:Stmt:=top 48
abbrev uy:Stmt:=top 49
abbrev rF:Stmt:=top 55
abbrev rE:Stmt:=top 51
abbrev wZ:Stmt:=top 57
abbrev pL:Stmt:=top 59
abbrev kE:Stmt:=top 65
abbrev oa:Stmt:=top 52
abbrev uA:Stmt:=top 53
abbrev rH:Stmt:=top 58
abbrev pK:Stmt:=top 60
abbrev nY:Stmt:=top 66
abbrev rg:Stmt:=top 42
abbrev uw:Stmt:=top 7
abbrev kB:Stmt:=top 8
abbrev rz:Stmt:=top 10
abbrev zD:Stmt:=top 14
abbrev nX:Stmt:=top 43
abbrev fh:Stmt:=inClass (top 44) 0
abbrev oh:Stmt:=top 61
abbrev rJ:Stmt:=top 67
abbrev mF:Stmt:=top 71
abbrev pJ:Stmt:=top 74
abbrev jV:Stmt:=top 9
abbrev lQ:Stmt:=top 15
abbrev rh:Stmt:=top 16
abbrev rn:Stmt:=top 30
abbrev fW:Stmt:=inClass (top 37) 0
abbrev rD:Stmt:=top 69
abbrev pI:Stmt:=top 68
abbrev pN:Stmt:=top 75
abbrev zC:Stmt:=top 11
abbrev rf:Stmt:=top 33
abbrev ur:Stmt:=top 34
abbrev uu:Stmt:=top 35
abbrev FX:Stmt:=top 20
abbrev pH:Stmt:=top 29
abbrev nW:Stmt:=top 19
abbrev fk:Stmt:=inClass (top 37) 2
abbrev wX:Stmt:=top 24
abbrev uv:Stmt:=top 31
abbrev fV:Stmt:=inClass (top 37) 3
abbrev fj:Stmt:=inClass (top 37) 4
abbrev jI:Stmt:=inClass (top 37) 6
abbrev wV:Stmt:=top 17
abbrev gZ:Stmt:=inClass (top 44) 1
abbrev jf:Stmt:=inClass (top 37) 7
abbrev rL:Stmt:=top 50
abbrev pM:Stmt:=top 56
abbrev og:Stmt:=top 72
abbrev uC:Stmt:=top 54
abbrev wY:Stmt:=top 63
abbrev rj:Stmt:=top 32
abbrev iE:Stmt:=inClass (top 37) 5
abbrev nZ:Stmt:=top 76
abbrev rG:Stmt:=top 70
abbrev rM:Stmt:=top 73
abbrev zF:Stmt:=top 22
abbrev FV:Stmt:=top 12
abbrev wU:Stmt:=top 26
abbrev zE:Stmt:=top 27
abbrev je:Stmt:=inClass (top 37) 1
abbrev Kn:Stmt:=top 77
set_option genInjectivity false in
set_option genSizeOf false in
structure Ads where
 AM:Addr
 As:FuncData
 yz:Addr
 yh:FuncData
 wo:Addr
 vR:FuncData
 yG:Addr
 yo:FuncData
 AJ:Addr
 Ap:FuncData
 AH:Addr
 An:FuncData
 yC:Addr
 yk:FuncData
 yB:Addr
 yj:FuncData
 Cg:Addr
 BQ:FuncData
 wy:Addr
 vU:FuncData
 ph:Addr
 oZ:FuncData
 tY:Addr
 tO:FuncData
 AI:Addr
 Ao:FuncData
 yE:Addr
 ym:FuncData
 wu:Addr
 vT:FuncData
 tW:Addr
 tM:FuncData
 yu:Addr
 yc:FuncData
 AG:Addr
 Am:FuncData
 pe:Addr
 oY:FuncData
 yy:Addr
 yg:FuncData
 Fk:Addr
 E8:FuncData
 tV:Addr
 tL:FuncData
 kg:Addr
 j8:FuncData
 t9:Addr
 tQ:FuncData
 yF:Addr
 yn:FuncData
 sL:Addr
 sG:FuncData
 wt:Addr
 vS:FuncData
 nJ:Addr
 nG:FuncData
 qJ:Addr
 qH:FuncData
 yv:Addr
 yd:FuncData
 yx:Addr
 yf:FuncData
 kU:Addr
 kS:FuncData
 yA:Addr
 yi:FuncData
 wg:Addr
 vQ:FuncData
 AK:Addr
 Aq:FuncData
 Fj:Addr
 E7:FuncData
 yt:Addr
 yb:FuncData
 AB:Addr
 Ai:FuncData
 AD:Addr
 Aj:FuncData
 LO:Addr
 Lz:FuncData
 we:Addr
 vP:FuncData
 tU:Addr
 tK:FuncData
 ko:Addr
 kd:FuncData
 Ce:Addr
 BO:FuncData
 AE:Addr
 Al:FuncData
 kT:Addr
 kR:FuncData
 kh:Addr
 ka:FuncData
 sN:Addr
 sI:FuncData
 xD:Addr
 xx:FuncData
 mU:Addr
 mR:FuncData
 qj:Addr
 qd:FuncData
 yH:Addr
 yp:FuncData
 wA:Addr
 vV:FuncData
 tZ:Addr
 tP:FuncData
 AL:Addr
 Ar:FuncData
 Cf:Addr
 BP:FuncData
 yw:Addr
 ye:FuncData
 oH:Addr
 oF:FuncData
 tX:Addr
 tN:FuncData
 yD:Addr
 yl:FuncData
 yI:Addr
 yq:FuncData
 Fm:Addr
 Fc:FuncData
 LN:Addr
 Ly:FuncData
 Cd:Addr
 BN:FuncData
 Fl:Addr
 Fb:FuncData
 qi:Addr
 p9:FuncData
 OS:Addr
 OO:FuncData
 t_MOST_STATES:Tok
 t_MOST_PUTS:Tok
 t_MOST_LOOKS:Tok
 a_System:Addr
 a_Costs:Addr
structure Txt (K:W.Frag) (mg:Str->Option Value) (Z:Ads):Prop where
 rZ:Df K mg "_law_bag" uD ["_law_script"] Z.AM Z.As
 aS:Df K mg "_law_take" rC ["_law_bag_here","_law_many"] Z.yz Z.yh
 oy:Df K mg "_law_sizes" lX ["_law_bag_here"] Z.wo Z.vR
 j7:Df K mg "_law_line" rK ["_law_bag_here","_law_n"] Z.yG Z.yo
 ie:Df K mg "_law_low" uB ["_law_top","_law_bottom"] Z.AJ Z.Ap
 eV:Df K mg "_law_sum" uy ["_law_one","_law_other"] Z.AH Z.An
 j6:Df K mg "_law_plus" rF ["_law_one","_law_other"] Z.yC Z.yk
 gJ:Df K mg "_law_prod" rE ["_law_one","_law_other"] Z.yB Z.yj
 mM:Df K mg "_law_by" wZ ["_law_by_here","_law_row_here"] Z.Cg Z.BQ
 kX:Df K mg "_law_mixed" pL ["_law_bag_here","_law_move_here","_law_put","_law_look"] Z.wy Z.vU
 j5:Df K mg "_law_two_lines" kE ["_law_bag_here"] Z.ph Z.oZ
 mL:Df K mg "_law_number" oa ["_law_bag_here","_law_wide"] Z.tY Z.tO
 iX:Df K mg "_law_row" uA ["_law_bag_here","_law_many","_law_wide"] Z.AI Z.Ao
 pX:Df K mg "_law_move" rH ["_law_bag_here","_law_n","_law_way","_law_first","_law_wide"] Z.yE Z.ym
 oA:Df K mg "_law_parts" pK ["_law_bag_here","_law_n","_law_ins","_law_outs","_law_wide"] Z.wu Z.vT
 mJ:Df K mg "_law_system" nY ["_law_bag_here"] Z.tW Z.tM
 j3:Df K mg "want_list" rg ["thing","at","most"] Z.yu Z.yc
 nB:Df K mg "is_whole" uw ["thing"] Z.AG Z.Am
 fz:Df K mg "common_divisor" kB ["one","other"] Z.pe Z.oY
 pU:Df K mg "is_number" rz ["thing"] Z.yy Z.yg
 xk:Df K mg "is_row" zD ["thing","many"] Z.Fk Z.E8
 iW:Df K mg "copied_rows" nX ["things","wide"] Z.tV Z.tL
 nH:Binds K Z.j8 ["self","move","put","look"] []
 nL:D6 K "__init__" "System.__init__" fh Z.kg Z.j8
 iY:Df K mg "_law_copied" oh ["_law_grid"] Z.t9 Z.tQ
 pY:Df K mg "_law_made" rJ ["_law_parts_here"] Z.yF Z.yn
 iD:Df K mg "_law_weights" mF ["_law_bag_here","_law_many","_law_begin"] Z.sL Z.sG
 oz:Df K mg "_law_rates" pJ ["_law_bag_here","_law_parts_here"] Z.wt Z.vS
 jD:Df K mg "common_multiple" jV ["wholes"] Z.nJ Z.nG
 dh:Df K mg "common_bottom" lQ ["row"] Z.qJ Z.qH
 fO:Df K mg "tops_over" rh ["row","bottom"] Z.yv Z.yd
 l9:Df K mg "main_line" rn ["row"] Z.yx Z.yf
 o9:Binds K Z.kS ["self","system","state_weights","put_weights","last_weights"] []
 pC:D6 K "__init__" "Costs.__init__" fW Z.kU Z.kS
 pV:Df K mg "_law_puts" rD ["_law_bag_here","_law_parts_here","_law_steps_here","_law_wide"] Z.yA Z.yi
 ox:Df K mg "_law_steps" pI ["_law_bag_here","_law_parts_here"] Z.wg Z.vQ
 rY:Df K mg "_law_few" pN ["_law_bag_here","_law_parts_here"] Z.AK Z.Aq
 kO:Df K mg "lowest" zC ["top","bottom"] Z.Fj Z.E7
 pS:Df K mg "whole_dot" rf ["one","other"] Z.yt Z.yb
 lH:Df K mg "whole_on" ur ["lines","tops"] Z.AB Z.Ai
 nv:Df K mg "on_state" uu ["whole","state"] Z.AD Z.Aj
 sZ:Df K mg "flat" FX ["lists"] Z.LO Z.Lz
 ou:Df K mg "whole_grid" pH ["grid"] Z.we Z.vP
 j4:Df K mg "grid_turned" nW ["grid","wide"] Z.tU Z.tK
 mO:Bj K Z.a_Costs "step_cost" Z.ko
 nI:Binds K Z.kd ["self","behind"] []
 nN:D6 K "step_cost" "Costs.step_cost" fk Z.ko Z.kd
 uM:Df K mg "cleared" wX ["lines","at","place","before"] Z.Ce Z.BO
 rX:Df K mg "lessened" uv ["lines","bottom"] Z.AE Z.Al
 nF:Bj K Z.a_Costs "ahead_of" Z.kT
 o8:Binds K Z.kR ["self","behind"] []
 pB:D6 K "ahead_of" "Costs.ahead_of" fV Z.kT Z.kR
 iu:Bj K Z.a_Costs "with_left" Z.kh
 iO:Binds K Z.ka ["self","left"] []
 nM:D6 K "with_left" "Costs.with_left" fj Z.kh Z.ka
 p6:Bj K Z.a_Costs "due" Z.sN
 sJ:Binds K Z.sI ["self","state","left"] []
 yJ:D6 K "due" "Costs.due" jI Z.sN Z.sI
 kM:Df K mg "row_dot" wV ["one","other"] Z.xD Z.xx
 lR:Bj K Z.a_System "moved" Z.mU
 mT:Binds K Z.mR ["self","state","puts"] []
 sT:D6 K "moved" "System.moved" gZ Z.mU Z.mR
 tJ:Bj K Z.a_Costs "best" Z.qj
 wa:Binds K Z.qd ["self","start","steps"] []
 wG:D6 K "best" "Costs.best" jf Z.qj Z.qd
 pZ:Df K mg "_law_less" rL ["_law_one","_law_other"] Z.yH Z.yp
 oB:Df K mg "_law_minus" pM ["_law_one","_law_other"] Z.wA Z.vV
 hZ:Df K mg "_law_effort" og ["_law_weights_here","_law_puts_here"] Z.tZ Z.tP
 nE:Df K mg "_law_dot" uC ["_law_one","_law_other"] Z.AL Z.Ar
 pW:Df K mg "_law_on" wY ["_law_grid","_law_row_here"] Z.Cf Z.BP
 pT:Df K mg "told_grid" rj ["whole"] Z.yw Z.ye
 so:Bj K Z.a_Costs "worth" Z.oH
 tT:Binds K Z.oF ["self","left"] []
 ug:D6 K "worth" "Costs.worth" iE Z.oH Z.oF
 mK:Df K mg "_law_square" nZ ["_law_parts_here","_law_told","_law_rates_here","_law_state","_law_row_here","_law_left"] Z.tX Z.tN
 ma:Df K mg "_law_next" rG ["_law_parts_here","_law_state","_law_puts_here"] Z.yD Z.yl
 p4:Df K mg "_law_cost" rM ["_law_parts_here","_law_weights_here","_law_start","_law_puts_here"] Z.yI Z.yq
 xl:Df K mg "course" zF ["system","start","puts"] Z.Fm Z.Fc
 yV:Df K mg "plus" FV ["one","other"] Z.LN Z.Ly
 uL:Df K mg "squared" wU ["value"] Z.Cd Z.BN
 oU:Df K mg "effort" zE ["weights","puts"] Z.Fl Z.Fb
 tI:Bj K Z.a_Costs "cost" Z.qi
 v7:Binds K Z.p9 ["self","start","puts"] []
 wF:D6 K "cost" "Costs.cost" je Z.qi Z.p9
 OX:D6 K "law" "law" Kn Z.OS Z.OO
 abs:mg "abs"=none
 len:mg "len"=none
 min:mg "min"=none
 int:mg "int"=none
 range:mg "range"=none
 isinstance:mg "isinstance"=none
 list:mg "list"=none
 bool:mg "bool"=none
 tuple:mg "tuple"=none
 all:mg "all"=none
 enumerate:mg "enumerate"=none
 max:mg "max"=none
 sum:mg "sum"=none
 zip:mg "zip"=none
 mg_MOST_STATES:mg "MOST_STATES"=some (.int 8 Z.t_MOST_STATES)
 mg_MOST_PUTS:mg "MOST_PUTS"=some (.int 4 Z.t_MOST_PUTS)
 mg_MOST_LOOKS:mg "MOST_LOOKS"=some (.int 4 Z.t_MOST_LOOKS)
 mg_System:mg "System"=some (.ref Z.a_System)
 cl_System:JK K Z.a_System
 na_move:iw K Z.a_System "move"
 na_states:iw K Z.a_System "states"
 na_put:iw K Z.a_System "put"
 na_ins:iw K Z.a_System "ins"
 na_look:iw K Z.a_System "look"
 na_outs:iw K Z.a_System "outs"
 mk_System:Mk K Z.a_System Z.kg
 mg_Costs:mg "Costs"=some (.ref Z.a_Costs)
 cl_Costs:JK K Z.a_Costs
 na_Costs_known:iw K Z.a_Costs "known"
 na_Costs_last_weights:iw K Z.a_Costs "last_weights"
 na_Costs_put_weights:iw K Z.a_Costs "put_weights"
 na_Costs_state_weights:iw K Z.a_Costs "state_weights"
 na_Costs_system:iw K Z.a_Costs "system"
 mk_Costs:Mk K Z.a_Costs Z.kU
section
variable {P:Program} {w:World} {K:W.Frag} {mg:Str->Option Value} {base:Heap} {Z:Ads}
theorem EG:a7 ["_law_script"] ["_law_script"] (aI uD):=by walk_at "d"
theorem ER (T:Txt K mg Z) (ptree:P.given.tree=none):cO P w K mg base iI 1 Z.AM Z.As ["_law_script"] (Kk K):=by
 refine T.rZ.F.ok EG (λvs H Q E h=>?_) (λcdv A outer s H vs Q E hr h=>?_)
 ·obtain ⟨a,ns,rfl,_⟩:=h;rfl
 ·obtain ⟨a,ns,rfl,hS,hlen,k⟩:=h;refine ⟨_,(aB (bo (dZ (aa aj (aa aj (aa aj (aa (cb ["_law_cell"] [] [] (cg (oS sU (pv 0) sW (sV aj))) (λ_=>(aP (i:=0) (show ND9 ["_law_cell"] by decide +kernel))) (λ_=>cu) (λ_=>(bG vX (by rfl) T.abs PyProof.Rows.boot_abs (aa (pv 0) ai)))) ai))))))),?_⟩;refine aW (σ:=[some (.ref a)]) rfl ?_;exists ⟨a,_,rfl,hS,λl hl=>?_⟩;have hcl:(o3 (ns.map V.int) none (some 63)).length<=63:=ak (yr _ _ _) (by simpa using hlen);refine ⟨l,rfl,⟨_,bK.of aK⟩,?_⟩;refine iG (K:=K) (a:=l) (xs:=o3 (ns.map V.int) none (some 63)) (λi ys H'=>H'=upd H l (.lst (o3 (ns.map V.int) none (some 63)))/\∃cs:List Int,ys=cs.map V.int/\∀x∈cs,0<=x) (ak hcl (by decide)) ⟨rfl,[],rfl,λ_ z=>nomatch z⟩ (λi ys H' _ ⟨e,_⟩=>by subst e;exact bK.of aK) ?_ ?_
  ·rintro i x ys H' hx hi ⟨rfl,cs,rfl,hcs⟩
   obtain ⟨z,rfl⟩:∃z,x=V.int z:=by
    have hm:x∈ns.map V.int:=gI (b9 (ao hx));obtain ⟨z,_,e⟩:=aw.mp hm;exact ⟨z,e.symm⟩
   exists ⟨rfl,cs++[if z < 0 then -z else z],by simp,λx hx=>?_⟩;rcases av.mp hx with hx | hx
   ·exact hcs x hx
   ·have e:x=if z < 0 then -z else z:=by simpa using hx
    subst e
    split <;> lia
  ·rintro ys H' hy ⟨rfl,cs,rfl,hcs⟩ p hp;exists ⟨by show 4<=sizeLine;decide,λb hb=>?_⟩;have n1:b≠p:=λz=>by rw[z,aK] at hb;cases hb
   have hb1:(upd H l (.lst (o3 (ns.map V.int) none (some 63)))) b=none:=by rw[aZ n1] at hb;exact hb
   have s1:aG H (upd H l (.lst (o3 (ns.map V.int) none (some 63)))):=aG.new hl;refine k b _ (s1.free hb1) ⟨p,0,1234567891,0,cs,aK,by rw[aZ n1.symm];exact aK,by decide,by decide,by lia,hcs⟩ ((s1.trans (aG.new hp)).trans (aG.new hb))
theorem fN:a7 ["_law_bag_here","_law_many","_law_more","_law_cell","_law_value","_law_first","_law_second"] ["_law_bag_here","_law_many"] (aI rC):=by walk_at "d"
theorem eQ (T:Txt K mg Z) (ptree:P.given.tree=none):cO P w K mg base iI 1 Z.yz Z.yh ["_law_bag_here","_law_many"] MC:=by
 refine T.aS.F.ok fN (λvs H Q E h=>?_) (λcdv A outer s H vs Q E hr h=>?_)
 ·obtain ⟨p,n,rfl,_⟩:=h;rfl
 ·obtain ⟨p,n,rfl,⟨q,a,b,c,cs,hp,hq,ha,hc,hcl,hcs⟩,hn,hn2,k⟩:=h;have nqp:q≠p:=JG hp hq
  refine ⟨_,(jJ (fL (bI hR (aT bw (pv 0) aj) aj (bL _)) (au (aV (i:=2) fN.nd rfl (Or.inl rfl) aj)
   (jJ (fL (bI rS (aT bw (pv 0) aj) (bG bx (by rfl) T.len bg (aa (aT bw (pv 0) aj) ai)) (bL _)) (au (aV (i:=3) fN.nd rfl (Or.inl rfl) (aT bw (aT bw (pv 0) aj) (aT bw (pv 0) aj)))
   (au (Ng (pv 0) aj Lj aj Qm set_list)
   (au (fL (bI BI (pv 3) aj (bL _)) (aB (iH (pv 3) (jA (pv 0) aj set_list))) cK)
   (aB (aV (i:=2) fN.nd rfl (Or.inl rfl) (bq gh (bq oj (pv 3) aj) aj)))))) cK)
   (aB (iH (bq oj (bq gh (bq cy (aT bw (pv 0) aj) aj) (pv 2)) aj) (jA (pv 0) aj set_list))))) cK)
   (au (fL (bI xW (aT bw (pv 0) aj) aj (bL _)) (au (aV (i:=4) fN.nd rfl (Or.inl rfl) (bq oj (aT bw (pv 0) aj) (pv 1)))
   (au (iH (bq (hJ rfl fN rfl rfl rfl ptree (oW hr)) (aT bw (pv 0) aj) (pv 1)) (jA (pv 0) aj set_list))
   (aB (bo (pv 4))))) cK)
   (au (aV (i:=5) fN.nd rfl (Or.inl rfl) (bq oj (bq cy (aT bw (pv 0) aj) aj) aj))
   (au (aV (i:=6) fN.nd rfl (Or.inl rfl) (bq oj (bq cy (pv 5) aj) aj))
   (au (fL (bI xW (pv 1) aj (bL _)) (aB (bo (bq oj (bq gh (bq cy (pv 6) aj) (pv 5)) (pv 1)))) cK)
   (aB (bo (bq oj (bq (hJ rfl fN rfl rfl rfl ptree (oW hr)) (pv 6) aj) (pv 1))))))))),?_⟩
  refine aW (σ:=[some (.ref p),some (.int n),none,none,none,none,none]) rfl ?_;refine ⟨λσ' H'=>∃(x y:Option V) (a' b' c':Int),σ'=[some (.ref p),some (.int n),x,y,none,none,none]/\H' p=some (.lst [.int a',.int b',.int c',.ref q])/\0<=a'/\0<=c'/\c'<=cs.length/\cF p H H',?_,?_⟩
  ·exists jh (λh0=>?_) (λh0=>?_)
   ·exists ⟨λσ' H'=>∃(m:Int) (y:Option V) (a' c':Int),σ'=[some (.ref p),some (.int n),some (.int m),y,none,none,none]/\H' p=some (.lst [.int a',.int b,.int c',.ref q])/\0<=a'/\0<=c'/\c'<=cs.length/\cF p H H',?_,?_⟩
    ·exists ⟨_,_,rfl,.inl (bK.of hq),?_⟩;exists jh (λh1=>?_) (λh1=>?_)
     ·have h1':c < cs.length:=by simpa using of_decide_eq_true h1
      obtain ⟨z,hz⟩:∃z,cs[c.toNat]?=some z:=⟨_,af (by lia)⟩;have hz0:0<=z:=hcs z (ao hz);exists cp (bK.of hq) (v:=.int z) ?_ ?_
      ·have:=gF (xs:=cs.map V.int) (j:=c.toNat) (v:=.int z) (by rw[ay,hz];rfl);rwa [Int.toNat_of_nonneg hc] at this
      exists jh (λh2=>?_) (λh2=>?_)
      ·exists ⟨_,_,z,c+1,rfl,aK,hz0,by lia,by lia,(cF.set hp).trans (cF.set aK)⟩
      ·exists ⟨_,_,a,c+1,rfl,aK,ha,by lia,by lia,cF.set hp⟩
     ·exists ⟨_,_,a,c,rfl,hp,ha,hc,hcl,cF.refl _⟩
    ·rintro σ' H' ⟨m,y,a',c',rfl,hp',ha',hc',hcl',u'⟩;exists ⟨_,_,a',_,c',rfl,aK,ha',hc',hcl',u'.trans (cF.set hp')⟩
   ·exists ⟨_,_,a,b,c,rfl,hp,ha,hc,hcl,cF.refl _⟩
  ·rintro σ' H' ⟨x,y,a',b',c',rfl,hp',ha',hc',hcl',u'⟩;have hq':H' q=some (.lst (cs.map V.int)):=u'.1 q _ hq nqp
   have sn:Sz 8999000 n:=by
    show n.natAbs < 2^8999000
    exact bc (show n.natAbs < 2^64 by lia) (aD (by decide) (by decide))
   exists jh (λh0=>?_) (λh0=>?_)
   ·exists eZ (show (0:Int) < n from hn) ?_;exists eZ (show nO _ _ from ⟨by lia,sn⟩) ?_;exists k _ _ (mh _ (by lia)) (jx _ hn) ⟨q,_,b',c',cs,aK,by rw[aZ nqp];exact hq',?_,hc',hcl',hcs⟩ (u'.trans (cF.set hp'));rw[bF _ (by lia)];exact Int.ediv_nonneg ha' (by lia)
   ·exists jh (λh1=>?_) (λh1=>?_)
    ·exists eZ (show (0:Int) < n from hn) ?_;exact k _ _ (mh _ (by lia)) (jx _ hn) ⟨q,a',b',c',cs,hp',hq',ha',hc',hcl',hcs⟩ u'
    ·exists eZ (show nO _ _ from ⟨by decide,by show (3:Nat) < 2^8999000;exact bc (show 3 < 2^2 by decide) (aD (by decide) (by decide))⟩) ?_;exists eZ (show (0:Int) < n from hn) ?_;exact k _ _ (mh _ (by lia)) (jx _ hn) ⟨q,a',b',c',cs,hp',hq',ha',hc',hcl',hcs⟩ u'
theorem Bg:∃x1 x2 x3 x4 x5 x6 x7 x8 x9 x10 x11 x12 x13 x14 x15 x16:Expr,x1=(Expr.Constant (Const.int 0) 0 ⟨305,16,305,17⟩)/\x2=(Expr.Constant (Const.int 1) 0 ⟨305,19,305,20⟩)/\x3=(Expr.Constant (Const.int 1) 0 ⟨305,22,305,23⟩)/\x4=(Expr.Constant (Const.int 1) 0 ⟨305,25,305,26⟩)/\x5=(Expr.Constant (Const.int 2) 0 ⟨305,28,305,29⟩)/\x6=(Expr.Constant (Const.int 2) 0 ⟨305,31,305,32⟩)/\x7=(Expr.Constant (Const.int 3) 0 ⟨305,34,305,35⟩)/\x8=(Expr.Constant (Const.int 4) 0 ⟨305,37,305,38⟩)/\x9=(Expr.Constant (Const.int 0) 0 ⟨306,17,306,18⟩)/\x10=(Expr.Constant (Const.int 1) 0 ⟨306,20,306,21⟩)/\x11=(Expr.Constant (Const.int 1) 0 ⟨306,23,306,24⟩)/\x12=(Expr.Constant (Const.int 1) 0 ⟨306,26,306,27⟩)/\x13=(Expr.Constant (Const.int 2) 0 ⟨306,29,306,30⟩)/\x14=(Expr.Constant (Const.int 2) 0 ⟨306,32,306,33⟩)/\x15=(Expr.Constant (Const.int 3) 0 ⟨306,35,306,36⟩)/\x16=(Expr.Constant (Const.int 4) 0 ⟨306,38,306,39⟩)/\fA lX=[ (Stmt.Assign (targets:=[(Expr.Name "_law_n" ⟨302,4,302,10⟩)]) (value:=(Expr.Call (func:=(Expr.Name "_law_take" ⟨302,13,302,22⟩)) (args:=[ (Expr.Name "_law_bag_here" ⟨302,23,302,36⟩),(Expr.Constant (Const.int 5) 0 ⟨302,38,302,39⟩)]) (keywords:=[]) (pos:=⟨302,13,302,40⟩))) (pos:=⟨302,4,302,40⟩)),(Stmt.If (test:=(Expr.Compare (left:=(Expr.Call (func:=(Expr.Name "_law_take" ⟨303,7,303,16⟩)) (args:=[ (Expr.Name "_law_bag_here" ⟨303,17,303,30⟩),(Expr.Constant (Const.int 8) 0 ⟨303,32,303,33⟩)]) (keywords:=[]) (pos:=⟨303,7,303,34⟩))) (ops:=[PySem.CmpOp.Eq]) (comparators:=[(Expr.Constant (Const.int 7) 0 ⟨303,38,303,39⟩)]) (pos:=⟨303,7,303,39⟩))) (body:=[ (Stmt.Assign (targets:=[(Expr.Name "_law_n" ⟨304,8,304,14⟩)]) (value:=(Expr.Constant (Const.int 5) 0 ⟨304,17,304,18⟩)) (pos:=⟨304,8,304,18⟩))]) (orelse:=[]) (pos:=⟨303,4,304,18⟩)),(Stmt.Assign (targets:=[(Expr.Name "_law_ins" ⟨305,4,305,12⟩)]) (value:=(Expr.Subscript (value:=(Expr.List (elts:=[x1,x2,x3,x4,x5,x6,x7,x8]) (pos:=⟨305,15,305,39⟩))) (slice:=(Expr.Call (func:=(Expr.Name "_law_take" ⟨305,40,305,49⟩)) (args:=[ (Expr.Name "_law_bag_here" ⟨305,50,305,63⟩),(Expr.Constant (Const.int 8) 0 ⟨305,65,305,66⟩)]) (keywords:=[]) (pos:=⟨305,40,305,67⟩))) (pos:=⟨305,15,305,68⟩))) (pos:=⟨305,4,305,68⟩)),(Stmt.Assign (targets:=[(Expr.Name "_law_outs" ⟨306,4,306,13⟩)]) (value:=(Expr.Subscript (value:=(Expr.List (elts:=[x9,x10,x11,x12,x13,x14,x15,x16]) (pos:=⟨306,16,306,40⟩))) (slice:=(Expr.Call (func:=(Expr.Name "_law_take" ⟨306,41,306,50⟩)) (args:=[ (Expr.Name "_law_bag_here" ⟨306,51,306,64⟩),(Expr.Constant (Const.int 8) 0 ⟨306,66,306,67⟩)]) (keywords:=[]) (pos:=⟨306,41,306,68⟩))) (pos:=⟨306,16,306,69⟩))) (pos:=⟨306,4,306,69⟩)),(Stmt.If (test:=(Expr.Compare (left:=(Expr.Name "_law_n" ⟨307,7,307,13⟩)) (ops:=[PySem.CmpOp.Eq]) (comparators:=[(Expr.Constant (Const.int 5) 0 ⟨307,17,307,18⟩)]) (pos:=⟨307,7,307,18⟩))) (body:=[ (Stmt.Assign (targets:=[ (Expr.Tuple (elts:=[(Expr.Name "_law_ins" ⟨308,8,308,16⟩),(Expr.Name "_law_outs" ⟨308,18,308,27⟩)]) (k:=0) (pos:=⟨308,8,308,27⟩))]) (value:=(Expr.Tuple (elts:=[ (Expr.Call (func:=(Expr.Name "min" ⟨308,31,308,34⟩)) (args:=[ (Expr.Name "_law_ins" ⟨308,35,308,43⟩),(Expr.Constant (Const.int 2) 0 ⟨308,45,308,46⟩)]) (keywords:=[]) (pos:=⟨308,31,308,47⟩)),(Expr.Call (func:=(Expr.Name "min" ⟨308,49,308,52⟩)) (args:=[ (Expr.Name "_law_outs" ⟨308,53,308,62⟩),(Expr.Constant (Const.int 2) 0 ⟨308,64,308,65⟩)]) (keywords:=[]) (pos:=⟨308,49,308,66⟩))]) (k:=0) (pos:=⟨308,30,308,67⟩))) (pos:=⟨308,8,308,67⟩))]) (orelse:=[]) (pos:=⟨307,4,308,67⟩)),(Stmt.Assign (targets:=[(Expr.Name "_law_wide" ⟨309,4,309,13⟩)]) (value:=(Expr.Subscript (value:=(Expr.List (elts:=[ (Expr.Constant (Const.int 4) 0 ⟨309,17,309,18⟩),(Expr.Constant (Const.int 4) 0 ⟨309,20,309,21⟩),(Expr.Constant (Const.int 9) 0 ⟨309,23,309,24⟩),(Expr.Constant (Const.int 1000000) 0 ⟨309,26,309,33⟩)]) (pos:=⟨309,16,309,34⟩))) (slice:=(Expr.Call (func:=(Expr.Name "_law_take" ⟨309,35,309,44⟩)) (args:=[ (Expr.Name "_law_bag_here" ⟨309,45,309,58⟩),(Expr.Constant (Const.int 4) 0 ⟨309,60,309,61⟩)]) (keywords:=[]) (pos:=⟨309,35,309,62⟩))) (pos:=⟨309,16,309,63⟩))) (pos:=⟨309,4,309,63⟩)),(Stmt.If (test:=(Expr.Compare (left:=(Expr.Name "_law_wide" ⟨310,7,310,16⟩)) (ops:=[PySem.CmpOp.Gt]) (comparators:=[(Expr.Constant (Const.int 9) 0 ⟨310,19,310,20⟩)]) (pos:=⟨310,7,310,20⟩))) (body:=[ (Stmt.Assign (targets:=[(Expr.Name "_law_n" ⟨311,8,311,14⟩)]) (value:=(Expr.Call (func:=(Expr.Name "min" ⟨311,17,311,20⟩)) (args:=[ (Expr.Name "_law_n" ⟨311,21,311,27⟩),(Expr.Constant (Const.int 2) 0 ⟨311,29,311,30⟩)]) (keywords:=[]) (pos:=⟨311,17,311,31⟩))) (pos:=⟨311,8,311,31⟩))]) (orelse:=[]) (pos:=⟨310,4,311,31⟩)),(Stmt.Return (value:=(some (Expr.Tuple (elts:=[ (Expr.Name "_law_n" ⟨312,12,312,18⟩),(Expr.Name "_law_ins" ⟨312,20,312,28⟩),(Expr.Name "_law_outs" ⟨312,30,312,39⟩),(Expr.Name "_law_wide" ⟨312,41,312,50⟩)]) (k:=0) (pos:=⟨312,11,312,51⟩)))) (pos:=⟨312,4,312,51⟩))]:=⟨_,_,_,_,_,_,_,_,_,_,_,_,_,_,_,_,rfl,rfl,rfl,rfl,rfl,rfl,rfl,rfl,rfl,rfl,rfl,rfl,rfl,rfl,rfl,rfl,by with_unfolding_all rfl⟩
theorem fQ:a7 ["_law_bag_here","_law_n","_law_ins","_law_outs","_law_wide"] ["_law_bag_here"] (aI lX):=by walk_at "d"
theorem A3 (T:Txt K mg Z) (ptree:P.given.tree=none):cO P w K mg base iI 2 Z.wo Z.vR ["_law_bag_here"] Ja:=by
 have aQ:=eQ (P:=P) (w:=w) (base:=base) T ptree;refine T.oy.F.ok fQ (λvs H Q E h=>?_) (λcdv A outer s H vs Q E hr h=>?_)
 ·obtain ⟨b,rfl,_⟩:=h;rfl
 ·obtain ⟨b,rfl,hB,k⟩:=h;obtain ⟨x1,x2,x3,x4,x5,x6,x7,x8,x9,x10,x11,x12,x13,x14,x15,x16,hx1,hx2,hx3,hx4,hx5,hx6,hx7,hx8,hx9,hx10,hx11,hx12,hx13,hx14,hx15,hx16,hbd⟩:=Bg;rw[hbd]
  refine ⟨_,(au (aV (i:=1) fQ.nd rfl (Or.inl rfl) (cE aQ hr T.aS (aa (pv 0) (aa aj ai))))
   (jJ (fL (bI hR (cE aQ hr T.aS (aa (pv 0) (aa aj ai))) aj (bL _)) (aB (aV (i:=1) fQ.nd rfl (Or.inl rfl) aj)) cK)
   (au (aV (i:=2) fQ.nd rfl (Or.inl rfl) (aT bw (dZ (cR hx1 aj (cR hx2 aj (cR hx3 aj (cR hx4 aj (cR hx5 aj (cR hx6 aj (cR hx7 aj (cR hx8 aj ai))))))))) (cE aQ hr T.aS (aa (pv 0) (aa aj ai)))))
   (au (aV (i:=3) fQ.nd rfl (Or.inl rfl) (aT bw (dZ (cR hx9 aj (cR hx10 aj (cR hx11 aj (cR hx12 aj (cR hx13 aj (cR hx14 aj (cR hx15 aj (cR hx16 aj ai))))))))) (cE aQ hr T.aS (aa (pv 0) (aa aj ai)))))
   (jJ (fL (bI hR (pv 1) aj (bL _)) (aB (KC (i:=2) (j:=3) rfl fQ.nd rfl rfl (by decide) rfl rfl (aa (bG (o5 rfl) (by rfl) T.min PyProof.Rows.boot_min (aa (pv 2) (aa aj ai))) (aa (bG (o5 rfl) (by rfl) T.min PyProof.Rows.boot_min (aa (pv 3) (aa aj ai))) ai)) rfl)) cK)
   (au (aV (i:=4) fQ.nd rfl (Or.inl rfl) (aT bw (dZ (aa aj (aa aj (aa aj (aa aj ai))))) (cE aQ hr T.aS (aa (pv 0) (aa aj ai)))))
   (jJ (fL (bI xW (pv 4) aj (bL _)) (aB (aV (i:=1) fQ.nd rfl (Or.inl rfl) (bG (o5 rfl) (by rfl) T.min PyProof.Rows.boot_min (aa (pv 1) (aa aj ai))))) cK)
   (aB (bo (cG (aa (pv 1) (aa (pv 2) (aa (pv 3) (aa (pv 4) ai)))))))))))))),?_⟩
  refine aW (σ:=[some (.ref b),none,none,none,none]) rfl ?_;exists ⟨b,5,rfl,hB,by decide,by decide,λn H1 n0 n1 B1 u1=>?_⟩;obtain ⟨n,rfl⟩:=cD n0;exists ⟨λσ' H'=>(∃n:Nat,σ'=[some (.ref b),some (.int n),none,none,none]/\n<=5)/\ig H' b/\cF b H H',?_,?_⟩
  ·exists ⟨b,8,rfl,B1,by decide,by decide,λv H2 v0 v1 B2 u2=>?_⟩;exists jh (λ_=>?_) (λ_=>?_)
   ·exists ⟨⟨5,rfl,by decide⟩,B2,u1.trans u2⟩
   ·exists ⟨⟨n,rfl,by lia⟩,B2,u1.trans u2⟩
  clear n0 n1 u1 B1;rintro σ' H1 ⟨⟨n,rfl,n5⟩,B1,u1⟩;exists de λl0 H2 s2 n2 g2=>?_
  exists ⟨b,8,rfl,B1.same s2,by decide,by decide,λv H3 v0 v1 B3 u3=>?_⟩;have g3:=u3.other (λz=>B1.at (by rw[<- z];exact n2)) g2;obtain ⟨x,ex,mx,_⟩:=kf (xs:=[V.int 0,V.int 1,V.int 1,V.int 1,V.int 2,V.int 2,V.int 3,V.int 4]) v0 (by simpa using v1)
  obtain ⟨i,rfl,hi⟩:∃z:Nat,x=.int z/\z<=4:=by
   simp only[aH,aY,or_false] at mx;rcases mx with rfl | rfl | rfl | rfl | rfl | rfl | rfl | rfl
   ·exact ⟨0,rfl,by decide⟩
   ·exact ⟨1,rfl,by decide⟩
   ·exact ⟨1,rfl,by decide⟩
   ·exact ⟨1,rfl,by decide⟩
   ·exact ⟨2,rfl,by decide⟩
   ·exact ⟨2,rfl,by decide⟩
   ·exact ⟨3,rfl,by decide⟩
   ·exact ⟨4,rfl,by decide⟩
  exists cp (bK.of g3) ex ?_;clear ex mx g3 g2;exists de λl1 H4 s4 n4 g4=>?_
  exists ⟨b,8,rfl,B3.same s4,by decide,by decide,λt H5 t0 t1 B5 u5=>?_⟩;have g5:=u5.other (λz=>B3.at (by rw[<- z];exact n4)) g4;obtain ⟨x,ex,mx,_⟩:=kf (xs:=[V.int 0,V.int 1,V.int 1,V.int 1,V.int 2,V.int 2,V.int 3,V.int 4]) t0 (by simpa using t1)
  obtain ⟨o,rfl,ho⟩:∃z:Nat,x=.int z/\z<=4:=by
   simp only[aH,aY,or_false] at mx;rcases mx with rfl | rfl | rfl | rfl | rfl | rfl | rfl | rfl
   ·exact ⟨0,rfl,by decide⟩
   ·exact ⟨1,rfl,by decide⟩
   ·exact ⟨1,rfl,by decide⟩
   ·exact ⟨1,rfl,by decide⟩
   ·exact ⟨2,rfl,by decide⟩
   ·exact ⟨2,rfl,by decide⟩
   ·exact ⟨3,rfl,by decide⟩
   ·exact ⟨4,rfl,by decide⟩
  exists cp (bK.of g5) ex ?_;clear ex mx g5 g4;have u15:=(((u1.same s2).trans u3).same s4).trans u5;exists ⟨λσ' H'=>(∃i o:Nat,σ'=[some (.ref b),some (.int n),some (.int i),some (.int o),none]/\i<=4/\o<=4/\(n=5->i<=2/\o<=2))/\ig H' b/\cF b H H',?_,?_⟩
  ·exists jh (λh0=>?_) (λh0=>?_)
   ·exists ⟨⟨min i 2,min o 2,?_,by lia,by lia,λ_=>⟨by lia,by lia⟩⟩,B5,u15⟩;have e1:(if (2:Int) < (i:Int) then (2:Int) else (i:Int))=((min i 2:Nat):Int):=by split <;> lia
    have e2:(if (2:Int) < (o:Int) then (2:Int) else (o:Int))=((min o 2:Nat):Int):=by split <;> lia
    rw[<- e1,<- e2];rfl
   ·exists ⟨⟨i,o,rfl,hi,ho,λz=>absurd (decide_eq_true (show (n:Int)=5 by lia)) h0⟩,B5,u15⟩
  clear hi ho u15 B5 u5 u3 u1;rintro σ' H5 ⟨⟨i,o,rfl,hi,ho,h5⟩,B5,u5⟩;exists de λl2 H6 s6 n6 g6=>?_
  exists ⟨b,4,rfl,B5.same s6,by decide,by decide,λv H7 v0 v1 B7 u7=>?_⟩;have g7:=u7.other (λz=>B5.at (by rw[<- z];exact n6)) g6;obtain ⟨x,ex,mx,_⟩:=kf (xs:=[V.int 4,V.int 4,V.int 9,V.int 1000000]) v0 (by simpa using v1)
  obtain ⟨w,rfl,hw⟩:∃w:Nat,x=.int w/\(w=4\/w=9\/w=1000000):=by
   simp only[aH,aY,or_false] at mx;rcases mx with rfl | rfl | rfl | rfl
   ·exact ⟨4,rfl,.inl rfl⟩
   ·exact ⟨4,rfl,.inl rfl⟩
   ·exact ⟨9,rfl,.inr (.inl rfl)⟩
   ·exact ⟨1000000,rfl,.inr (.inr rfl)⟩
  exists cp (bK.of g7) ex ?_;have u07:=(u5.same s6).trans u7;exists ⟨λσ' H'=>(∃n:Nat,σ'=[some (.ref b),some (.int n),some (.int i),some (.int o),some (.int w)]/\n<=5/\(w=4\/w=9\/(w=1000000/\n<=2))/\(n=5->i<=2/\o<=2))/\ig H' b/\cF b H H',?_,?_⟩
  ·exists jh (λh0=>?_) (λh0=>?_)
   ·exists ⟨⟨min n 2,?_,by lia,by lia,λz=>by lia⟩,B7,u07⟩;have e1:(if (2:Int) < (n:Int) then (2:Int) else (n:Int))=((min n 2:Nat):Int):=by split <;> lia
    rw[<- e1];rfl
   ·exists ⟨⟨n,rfl,n5,?_,h5⟩,B7,u07⟩;rcases hw with z | z | z
    ·exact .inl z
    ·exact .inr (.inl z)
    ·exact absurd (decide_eq_true (show (9:Int) < (w:Int) by lia)) h0
  ·clear h5 n5;rintro σ' H8 ⟨⟨n',rfl,n5,hwn,h5⟩,B8,u8⟩;exists bV λr H9 s9 g9=>?_
   exact k r n' i o w H9 g9 n5 hi ho hwn h5 (B8.same s9) (u8.same s9)
theorem jc:a7 ["_law_bag_here","_law_n","_law_move_here","_law_at","_law_put","_law_first","_law_look"] ["_law_bag_here","_law_n"] (aI rK):=by walk_at "d"
theorem vE (T:Txt K mg Z) (ptree:P.given.tree=none):cO P w K mg base iI 2 Z.yG Z.yo ["_law_bag_here","_law_n"] (Ew K):=by
 have aQ:=eQ (P:=P) (w:=w) (base:=base) T ptree;refine T.j7.F.ok jc (λvs H Q E h=>?_) (λcdv A outer s H vs Q E hr h=>?_)
 ·obtain ⟨b,n,rfl,_⟩:=h;rfl
 ·obtain ⟨b,n,rfl,hB,n1,n8,k⟩:=h
  refine ⟨_,(au (nh 2 ["_law_i"] ["_law_n"] [1] jc.nd rfl rfl (cv rfl T.range (aa (pv 1) ai)) (λ_=>(aP (i:=0) (show ND9 ["_law_i","_law_n"] by decide +kernel) rfl (Or.inr rfl) (Or.inl rfl))) (λ_=>cu) (λ_=>(cb ["_law_j"] ["_law_i"] [0] (cv rfl T.range (aa (pv 1) ai)) (λ_=>(aP (i:=0) (show ND9 ["_law_j","_law_i"] by decide +kernel))) (λ_=>cu) (λ_=>(cG (aa (fv o6 (by rfl) T.int PyProof.Rows.boot_int (aa (jY hR (pv 0) (bq gh (pv 1) aj) (bL _)) ai)) (aa aj ai)))))))
   (au (iH (cb ["_law_j"] ["_law_bag_here"] [0] (cv rfl T.range (aa (pv 1) ai)) (λ_=>(aP (i:=0) (show ND9 ["_law_j","_law_bag_here"] by decide +kernel))) (λ_=>cu) (λ_=>(cG (aa (bq kK (cE aQ hr T.aS (aa (pv 1) (aa aj ai))) aj) (aa aj ai))))) (jA (pv 2) (bq kK (pv 1) aj) set_list))
   (au (aV (i:=3) jc.nd rfl (Or.inr rfl) (aT bw (dZ (aa (bq kK (pv 1) aj) (aa (cE aQ hr T.aS (aa (pv 0) (aa (pv 1) ai))) ai))) (cE aQ hr T.aS (aa (pv 0) (aa aj ai)))))
   (au (aV (i:=4) jc.nd rfl (Or.inl rfl) (dZ (aa (cb ["_law_j"] ["_law_at"] [3] (cv rfl T.range (aa (pv 1) ai)) (λ_=>(aP (i:=0) (show ND9 ["_law_j","_law_at"] by decide +kernel))) (λ_=>cu) (λ_=>(cG (aa (fv o6 (by rfl) T.int PyProof.Rows.boot_int (aa (jY hR (pv 0) (pv 1) (bL _)) ai)) (aa aj ai))))) ai)))
   (au (aV (i:=5) jc.nd rfl (Or.inr rfl) (aT bw (dZ (aa aj (aa aj (aa (cE aQ hr T.aS (aa (pv 0) (aa (pv 1) ai))) ai)))) (cE aQ hr T.aS (aa (pv 0) (aa aj ai)))))
   (au (aV (i:=6) jc.nd rfl (Or.inl rfl) (dZ (aa (cb ["_law_j"] ["_law_first"] [5] (cv rfl T.range (aa (pv 1) ai)) (λ_=>(aP (i:=0) (show ND9 ["_law_j","_law_first"] by decide +kernel))) (λ_=>cu) (λ_=>(cG (aa (fv o6 (by rfl) T.int PyProof.Rows.boot_int (aa (jY hR (pv 0) (pv 1) (bL _)) ai)) (aa aj ai))))) ai)))
   (aB (bo (cG (aa (pv 2) (aa (pv 4) (aa (pv 6) ai)))))))))))),?_⟩
  refine aW (σ:=[some (.ref b),some (.int n),none,none,none,none,none]) rfl ?_
  have bit:∀{z:Int},∀y∈(List.range n).map (λ(j:Nat)=>(((if decide ((j:Int)=z)=true then 1 else 0:Int)):Rat)),Fr 1 1 y:=λy hy=>by
   obtain ⟨j,_,rfl⟩:=aw.mp hy;exact RJ (by split <;> simp)
  exists ⟨by lia,by lia,?_⟩;refine jL (n:=n) (ia K H) (λ(i:Nat)=>(List.range n).map λ(j:Nat)=>(((if decide ((j:Int)=(i:Int)+1)=true then 1 else 0:Int)):Rat)) (by lia) (λa b=>a.same b) ?_ ?_
  ·rintro i Hb NY NN hi sa k1;exists ⟨by lia,by lia,?_⟩;refine jL (n:=n) (bS K) (λ(j:Nat)=>(((if decide ((j:Int)=(i:Int)+1)=true then 1 else 0:Int)):Rat)) (by lia) (λa b=>a.same b) ?_ ?_
   ·rintro j Hz NY2 NN2 hj sz k2;exists bV λt Hy sy gy=>?_
    exact k2 _ _ sy (bS.mk gy rfl)
   ·rintro ys Hz t ht sz g pr nx;exact k1 _ _ sz ⟨t,rfl,sa.none ht,ys,g,pr⟩
  rintro ys H1 mm hm s1 g1 pr1 nx1;have G1:cx K H H1 mm ((List.range n).map λ(i:Nat)=>(List.range n).map λ(j:Nat)=>(((if decide ((j:Int)=(i:Int)+1)=true then 1 else 0:Int)):Rat)):=⟨ys,g1,pr1,vI nx1⟩;clear g1 pr1 nx1;have B1:=hB.same s1;have mb:mm≠b:=λz=>hB.at (by rw[<- z];exact hm)
  obtain ⟨q0,I0,xq,gq0⟩:=hB.inner;have mq:mm≠q0:=λz=>by rw[<- z,hm] at gq0;cases gq0
  exists ⟨by lia,by lia,?_⟩;refine xB (n:=n) (b:=b) (bS K) (Fr 1 1) B1 (by lia) (λa u B=>a.upto u B) ?_ ?_
  ·rintro j Ha NY NN hj ua Ba k1;exists ⟨b,3,rfl,Ba,by decide,by decide,λv Hb v0 v1 Bb ub=>?_⟩;exists bV λt Hc sc gc=>?_
   exact k1 _ ((v - 1:Int):Rat) _ (ub.same sc) (Bb.same sc) (Fr.int (by lia)) (bS.mk gc rfl)
  rintro ys2 cs H2 q2 hq2 u2 B2 g2 lc hc pr2 _;have u02:=(s1.upto (p:=b)).trans u2;have nq2:H q2=none:=s1.none hq2;obtain ⟨us,gu,pu⟩:=(G1.upto u2 B1 mb hB.at).toE;have lu:=pu.length;rw[ag,bT] at lu
  have q2m:q2≠mm:=λz=>by
   obtain ⟨_,gg,_⟩:=id G1;rw[z,gg] at hq2;cases hq2
  walk_at "w";rw[show ((n:Int) - 1)=((n - 1:Nat):Int) by lia];refine ir gu (iN (by lia)) rfl ?_;have G3:cx K H (upd H2 mm (.lst (us.set (n - 1) (.ref q2)))) mm (((List.range n).map λ(i:Nat)=>(List.range n).map λ(j:Nat)=>(((if decide ((j:Int)=(i:Int)+1)=true then 1 else 0:Int)):Rat)).set (n - 1) cs):=cx.ofE aK (uF (Paired.imp' (λ_ _ z=>JH.updL z gu (λq h=>h.2)) pu) (n - 1) ⟨q2,rfl,⟨nq2,q2m⟩,bX.updL ⟨ys2,g2,pr2⟩ gu q2m⟩) (λq h=>h.1) (λq h=>h.2);have B3:ig (upd H2 mm (.lst (us.set (n - 1) (.ref q2)))) b:=B2.upd (u02.2 _ I0) mb mq;have u03:cF b H (upd H2 mm (.lst (us.set (n - 1) (.ref q2)))):=u02.after hm;obtain ⟨mv,emv⟩:∃mv,mv=((List.range n).map λ(i:Nat)=>(List.range n).map λ(j:Nat)=>(((if decide ((j:Int)=(i:Int)+1)=true then 1 else 0:Int)):Rat)).set (n - 1) cs:=⟨_,rfl⟩;have lmv:mv.length=n:=by rw[emv,jP,ag,bT]
  have hmv:∀xs∈mv,xs.length=n/\∀y∈xs,Fr 1 1 y:=λxs hx=>by
   rw[emv] at hx;rcases dO hx with hx | rfl
   ·obtain ⟨i,_,rfl⟩:=aw.mp hx;exact ⟨by rw[ag,bT],bit⟩
   ·exact ⟨lc,hc⟩
  rw[<- emv] at G3;generalize upd H2 mm (.lst (us.set (n - 1) (.ref q2)))=H3 at G3 B3 u03 ⊢;clear emv pu gu G1 u2 pr2 g2 B2;exists ⟨b,n,rfl,B3,by lia,by lia,λa1 H4 a10 a11 B4 u4=>?_⟩;exists de λl1 H5 s5 nl1 g5=>?_
  exists ⟨b,2,rfl,B4.same s5,by decide,by decide,λv H6 v0 v1 B6 u6=>?_⟩;have g6:=u6.other (λz=>B4.at (by rw[<- z];exact nl1)) g5;obtain ⟨x,ex,mx,_⟩:=kf (xs:=[V.int ((n:Int) - 1),V.int a1]) v0 (by simpa using v1)
  obtain ⟨at',rfl⟩:∃a:Int,x=.int a:=by
   simp only[aH,aY,or_false] at mx;rcases mx with rfl | rfl
   ·exact ⟨_,rfl⟩
   ·exact ⟨_,rfl⟩
  exists cp (bK.of g6) ex ?_;have u36:=(u4.same s5).trans u6;have G6:=G3.upto u36 B3 mb hB.at;have u06:=u03.trans u36;clear ex mx g6 g5 G3 u4 u6;exists ⟨by lia,by lia,?_⟩;refine jL (n:=n) (bS K) (λ(j:Nat)=>(((if decide ((j:Int)=at')=true then 1 else 0:Int)):Rat)) (by lia) (λa b=>a.same b) ?_ ?_
  ·rintro j Hz NY2 NN2 hj sz k2;exists bV λt Hy sy gy=>?_
   exact k2 _ _ sy (bS.mk gy rfl)
  rintro ys7 H7 q7 hq7 s7 g7 pr7 _;have R7:bX K H7 q7 _:=⟨ys7,g7,pr7⟩;exists de λp8 H8 s8 n8' g8=>?_
  have s68:=s7.trans s8;have q78:q7≠p8:=λz=>by rw[z,n8'] at g7;cases g7
  have np8:H p8=none:=u06.none B6 (s7.none n8');have nq7:H q7=none:=u06.none B6 hq7
  have GP:cx K H H8 p8 [(List.range n).map λ(j:Nat)=>(((if decide ((j:Int)=at')=true then 1 else 0:Int)):Rat)]:=⟨_,g8,.cons ⟨q7,rfl,nq7,R7.same s8⟩ .nil,λz=>by
   rw[bz] at z;cases z;exact q78 rfl⟩
  have B8:=B6.same s68;have u08:=u06.same s68;have G8:=G6.same s68;have pb:p8≠b:=λz=>hB.at (by rw[<- z];exact np8)
  exists ⟨b,n,rfl,B8,by lia,by lia,λa2 H9 a20 a21 B9 u9=>?_⟩;exists de λl2 Ha sa nl2 ga=>?_
  exists ⟨b,3,rfl,B9.same sa,by decide,by decide,λv' Hb v0' v1' Bb ub=>?_⟩;have gb:=ub.other (λz=>B9.at (by rw[<- z];exact nl2)) ga;obtain ⟨x,ex,mx,_⟩:=kf (xs:=[V.int 0,V.int 0,V.int a2]) v0' (by simpa using v1')
  obtain ⟨fi,rfl⟩:∃a:Int,x=.int a:=by
   simp only[aH,aY,or_false] at mx;rcases mx with rfl | rfl | rfl
   ·exact ⟨_,rfl⟩
   ·exact ⟨_,rfl⟩
   ·exact ⟨_,rfl⟩
  exists cp (bK.of gb) ex ?_;have u8b:=(u9.same sa).trans ub;have Gb:=G8.upto u8b B8 mb hB.at;have GPb:=GP.upto u8b B8 pb hB.at;have u0b:=u08.trans u8b;clear ex mx gb ga G8 GP u9 ub;exists ⟨by lia,by lia,?_⟩;refine jL (n:=n) (bS K) (λ(j:Nat)=>(((if decide ((j:Int)=fi)=true then 1 else 0:Int)):Rat)) (by lia) (λa b=>a.same b) ?_ ?_
  ·rintro j Hz NY2 NN2 hj sz k2;exists bV λt Hy sy gy=>?_
   exact k2 _ _ sy (bS.mk gy rfl)
  rintro ysc Hc qc hqc sc gc prc _;have Rc:bX K Hc qc _:=⟨ysc,gc,prc⟩;exists de λpd Hd sd nd gd=>?_
  have sbd:=sc.trans sd;have qcd:qc≠pd:=λz=>by rw[z,nd] at gc;cases gc
  have npd:H pd=none:=u0b.none Bb (sc.none nd);have nqc:H qc=none:=u0b.none Bb hqc
  have GL:cx K H Hd pd [(List.range n).map λ(j:Nat)=>(((if decide ((j:Int)=fi)=true then 1 else 0:Int)):Rat)]:=⟨_,gd,.cons ⟨qc,rfl,nqc,Rc.same sd⟩ .nil,λz=>by
   rw[bz] at z;cases z;exact qcd rfl⟩
  exists bV λr He se ge=>?_
  have sbe:=sbd.trans se;refine k r mv _ _ He ⟨mm,p8,pd,ge,hm,np8,npd,Gb.same sbe,GPb.same sbe,GL.same se⟩ lmv rfl rfl ⟨by lia,by simp,by simp,λxs hx=>by rw[(hmv xs hx).1,lmv],λxs hx=>?_,λxs hx=>?_⟩ (λxs hx=>(hmv xs hx).2) (λxs hx=>?_) (λxs hx=>?_) (Bb.same sbe) (u0b.same sbe)
  ·rw[bz.mp hx,ag,bT,lmv]
  ·rw[bz.mp hx,ag,bT,lmv]
  ·rw[bz.mp hx];exact bit
  ·rw[bz.mp hx];exact bit
theorem jH:a7 ["_law_top","_law_bottom","_law_one","_law_other"] ["_law_top","_law_bottom"] (aI uB):=by walk_at "d"
theorem lG (T:Txt K mg Z) (ptree:P.given.tree=none):cO P w K mg base iI 1 Z.AJ Z.Ap ["_law_top","_law_bottom"] Pl:=by
 refine T.ie.F.ok jH (λvs H Q E h=>?_) (λcdv A outer s H vs Q E hr h=>?_)
 ·obtain ⟨t,b,rfl,_⟩:=h;rfl
 ·obtain ⟨t,b,rfl,hb,hs,k⟩:=h
  refine ⟨_,(au (aV (i:=2) jH.nd rfl (Or.inl rfl) (bG vX (by rfl) T.abs PyProof.Rows.boot_abs (aa (pv 0) ai)))
   (au (aV (i:=3) jH.nd rfl (Or.inl rfl) (pv 1))
   (au (zL PassesOwn.never (bI Ia (pv 2) aj (bL _))
    (aB (KC (i:=2) (j:=3) rfl jH.nd rfl rfl (by decide) rfl rfl (aa (bq oj (pv 3) (pv 2)) (aa (pv 2) ai)) rfl)))
   (aB (bo (cG (aa (bq (hJ rfl jH rfl rfl rfl ptree (oW hr)) (pv 0) (pv 3)) (aa (bq (hJ rfl jH rfl rfl rfl ptree (oW hr)) (pv 1) (pv 3)) ai)))))))),?_⟩
  refine aW (σ:=[some (.int t),some (.int b),none,none]) rfl ?_;walk_at "w"
  refine Cs (λσ' H'=>∃(u v:Int),σ'=[some (.int t),some (.int b),some (.int u),some (.int v)]/\H'=H/\0<=u/\0 < v/\Int.gcd u v=Int.gcd t b) (λσ' _=>match σ' with | [_,_,some (.int u),_]=>u.natAbs | _=>0) ⟨_,b,rfl,rfl,by split <;> lia,hb,by
   split
   ·rw[Int.neg_gcd]
   ·rfl⟩ ?_
  rintro σ' H' ⟨u,v,rfl,rfl,hu,hv,hg⟩;exists jh (λh=>?_) (λh=>?_)
  ·have hu0:u≠0:=λz=>by subst z;simp at h
   exists eZ (show (0:Int) < u by lia) ?_;walk_at "w";have h1:=mh v hu0;have h2:=jx v (show 0 < u by lia);exact ⟨⟨v % u,u,rfl,rfl,h1,by lia,by rw[lD,Ll,lD];exact hg⟩,by show (v % u).natAbs < u.natAbs;lia⟩
  ·have hu0:u=0:=by
    by_cases z:u=0
    ·exact z
    ·exfalso;apply h;simp [z]
   subst hu0
   have e:v=g t b:=by
    unfold g;rw[<- hg,Int.gcd_zero_left]
    lia
   have hgs:Sz 8999000 v:=hs.le (by
    rw[e];have h1:(g t b).natAbs=Int.gcd t b:=by unfold g;simp
    rw[h1];exact jQ (by lia) (by have:=fI (a:=t) (b:=b);exact fU.mpr this |> λz=>by simpa using z))
   exists eZ (show nO _ _ from ⟨by lia,hgs⟩) ?_;exists eZ (show nO _ _ from ⟨by lia,hgs⟩) ?_;exists bV λr H' s' h'=>?_
   rw[bF _ (by lia),bF _ (by lia),e] at h';exact k r H' s' h'
theorem ED:a7 ["_law_one","_law_other"] ["_law_one","_law_other"] (aI uy):=by walk_at "d"
theorem iV (T:Txt K mg Z) (ptree:P.given.tree=none):cO P w K mg base iI 2 Z.AH Z.An ["_law_one","_law_other"] (pF K (λx y=>x+y)):=by
 have gR:=lG (P:=P) (w:=w) (base:=base) T ptree;refine T.eV.F.ok ED (λvs H Q E h=>?_) (λcdv A outer s H vs Q E hr h=>?_)
 ·obtain ⟨p,q,a,b,c,d,rfl,hp,hq,hb,hd,sa,sb,sc,sd,k⟩:=y9 h;rfl
 ·obtain ⟨p,q,a,b,c,d,rfl,hp,hq,hb,hd,sa,sb,sc,sd,k⟩:=y9 h;refine ⟨_,(aB (bo (cE gR hr T.ie (aa (bq gh (bq cy (aT bJ (pv 0) aj) (aT bJ (pv 1) aj)) (bq cy (aT bJ (pv 1) aj) (aT bJ (pv 0) aj))) (aa (bq cy (aT bJ (pv 0) aj) (aT bJ (pv 1) aj)) ai))))),?_⟩;refine aW (σ:=[some (.ref p),some (.ref q)]) rfl ?_;have hbd:0 < b*d:=eJ hb hd;have sbd:Sz 8999000 (b*d):=(sb.mul sd).mono (by decide);exists eZ (show fD _ _ from .inr ⟨_,_,sa,sd,by decide⟩) ?_;exists eZ (show fD _ _ from .inr ⟨_,_,sc,sb,by decide⟩) ?_;exists eZ (show fD _ _ from .inr ⟨_,_,sb,sd,by decide⟩) ?_;walk_at "w";exists ⟨_,_,rfl,hbd,sbd,k⟩
theorem CO:a7 ["_law_one","_law_other"] ["_law_one","_law_other"] (aI rF):=by walk_at "d"
theorem pQ (T:Txt K mg Z) (ptree:P.given.tree=none):cO P w K mg base iI 3 Z.yC Z.yk ["_law_one","_law_other"] (Es K):=by
 have dD:=iV (P:=P) (w:=w) (base:=base) T ptree;refine T.j6.F.ok CO (λvs H Q E h=>?_) (λcdv A outer s H vs Q E hr h=>?_)
 ·obtain ⟨p,q,xs,ys,rfl,_⟩:=h;rfl
 ·obtain ⟨p,q,xs,ys,rfl,hp,hq,hl,hz,h1,h2,kk⟩:=h;refine ⟨_,(aB (bo (cb ["_law_k"] ["_law_one","_law_other"] [0,1] (cv rfl T.range (aa (bG bx (by rfl) T.len bg (aa (pv 0) ai)) ai)) (λ_=>(aP (i:=0) (show ND9 ["_law_k","_law_one","_law_other"] by decide +kernel))) (λ_=>cu) (λ_=>(cE dD hr T.eV (aa (aT (oV K (by rfl)) (pv 1) (pv 0)) (aa (aT (oV K (by rfl)) (pv 2) (pv 0)) ai))))))),?_⟩;refine aW (σ:=[some (.ref p),some (.ref q)]) rfl ?_;obtain ⟨us,gu,qu⟩:=id hp;obtain ⟨ws,gw,qw⟩:=id hq;have lu:=qu.length;exists ⟨_,_,rfl,.inl (bK.of gu),?_⟩;exists ⟨by lia,by lia,?_⟩;refine jL (n:=us.length) (bS K) (λi=>xs.getD i 0+ys.getD i 0) (by lia) (λa b=>a.same b) ?_ ?_
  ·rintro i H' NY NN hi s k1;have ix:i < xs.length:=by lia
   have iy:i < ys.length:=by lia
   obtain ⟨vx,ex,nx⟩:=Gq (Paired.imp' (λ_ _ z=>z.same s) qu) ix;obtain ⟨vy,ey,ny⟩:=Gq (Paired.imp' (λ_ _ z=>z.same s) qw) iy;exists cp (bK.of (s _ _ gu)) ex ?_;exists cp (bK.of (s _ _ gw)) ey ?_;exists ⟨_,_,_,_,rfl,nx,ny,h1 _ (getD_mem ix),h2 _ (getD_mem iy),λr3 H3 s3 n3=>k1 _ _ s3 n3⟩
  ·rintro ys' H' l hl' s g pr nx;exact kk l H' hl' s ⟨ys',g,by rw[Br (by lia)];rw[<- lu] at pr;exact pr⟩
theorem CN:a7 ["_law_one","_law_other"] ["_law_one","_law_other"] (aI rE):=by walk_at "d"
theorem l5 (T:Txt K mg Z) (ptree:P.given.tree=none):cO P w K mg base iI 2 Z.yB Z.yj ["_law_one","_law_other"] (pF K (λx y=>x*y)):=by
 have gR:=lG (P:=P) (w:=w) (base:=base) T ptree;refine T.gJ.F.ok CN (λvs H Q E h=>?_) (λcdv A outer s H vs Q E hr h=>?_)
 ·obtain ⟨p,q,a,b,c,d,rfl,hp,hq,hb,hd,sa,sb,sc,sd,k⟩:=Ic h;rfl
 ·obtain ⟨p,q,a,b,c,d,rfl,hp,hq,hb,hd,sa,sb,sc,sd,k⟩:=Ic h;refine ⟨_,(aB (bo (cE gR hr T.ie (aa (bq cy (aT bJ (pv 0) aj) (aT bJ (pv 1) aj)) (aa (bq cy (aT bJ (pv 0) aj) (aT bJ (pv 1) aj)) ai))))),?_⟩;refine aW (σ:=[some (.ref p),some (.ref q)]) rfl ?_;have hbd:0 < b*d:=eJ hb hd;have sbd:Sz 8999000 (b*d):=(sb.mul sd).mono (by decide);exists eZ (show fD _ _ from .inr ⟨_,_,sa,sc,by decide⟩) ?_;exists eZ (show fD _ _ from .inr ⟨_,_,sb,sd,by decide⟩) ?_;walk_at "w";exists ⟨_,_,rfl,hbd,sbd,k⟩
theorem FU:a7 ["_law_by_here","_law_row_here"] ["_law_by_here","_law_row_here"] (aI wZ):=by walk_at "d"
theorem uH (T:Txt K mg Z) (ptree:P.given.tree=none):cO P w K mg base iI 3 Z.Cg Z.BQ ["_law_by_here","_law_row_here"] (Kj K):=by
 have gN:=l5 (P:=P) (w:=w) (base:=base) T ptree;refine T.mM.F.ok FU (λvs H Q E h=>?_) (λcdv A outer s H vs Q E hr h=>?_)
 ·obtain ⟨u,q,c,ys,rfl,_⟩:=h;rfl
 ·obtain ⟨u,q,c,ys,rfl,hc,sc,hq,hz,h2,kk⟩:=h;refine ⟨_,(aB (bo (cb ["_law_one"] ["_law_by_here"] [0] (cg (pv 1)) (λ_=>(aP (i:=0) (show ND9 ["_law_one","_law_by_here"] by decide +kernel))) (λ_=>cu) (λ_=>(cE gN hr T.gJ (aa (pv 1) (aa (pv 0) ai))))))),?_⟩;refine aW (σ:=[some u,some (.ref q)]) rfl ?_;obtain ⟨us,gu,qu⟩:=id hq;exists ⟨⟨_,bK.of gu⟩,?_⟩;refine c6 (K:=K) (F:=bS K) (bS K) (λy=>c*y) gu qu hz (λa b=>a.same b) (λa b=>a.same b) ?_ ?_
  ·rintro i y x H' NY NN en s hx k;exists ⟨_,_,_,_,rfl,hc.same s,hx,sc,h2 y (ao en),λr H2 s2 h2'=>k _ _ s2 h2'⟩
  ·rintro ys' H' r hr s g pr nx;exact kk r H' hr s ⟨ys',g,pr⟩
theorem eP:a7 ["_law_bag_here","_law_move_here","_law_put","_law_look","_law_n","_law_turn","_law_i","_law_j","_law_by_here","_law_less_here","_law_row_here"] ["_law_bag_here","_law_move_here","_law_put","_law_look"] (aI pL):=by walk_at "d"
theorem tH (T:Txt K mg Z) (ptree:P.given.tree=none):cO P w K mg base iI 4 Z.wy Z.vU ["_law_bag_here","_law_move_here","_law_put","_law_look"] (BC K):=by
 have aQ:=eQ (P:=P) (w:=w) (base:=base) T ptree;have lM:=pQ (P:=P) (w:=w) (base:=base) T ptree;have pj:=uH (P:=P) (w:=w) (base:=base) T ptree;have dD:=iV (P:=P) (w:=w) (base:=base) T ptree;have gN:=l5 (P:=P) (w:=w) (base:=base) T ptree;refine T.kX.F.ok eP (λvs H Q E h=>?_) (λcdv A outer s H vs Q E hr h=>?_)
 ·obtain ⟨b,m,p,l,q0,n,WV,μ,A,us,ws,vs,rfl,_⟩:=h;rfl
 ·obtain ⟨b,m,p,l,q0,n,WV,μ,A,us,ws,vs,rfl,MA,X,n8,i4,o4,M0,M1,⟨M,eM⟩,V1,hA,k⟩:=h
  refine ⟨_,(au (aV (i:=4) eP.nd rfl (Or.inl rfl) (bG bx (by rfl) T.len bg (aa (pv 1) ai)))
   (au (fL (PW.pt (xS (bI rS (pv 4) aj (bL _)) (rO (bI hR (cE aQ hr T.aS (aa (pv 0) (aa aj ai))) aj (bL _))))) (aB (bo (cG (aa (pv 1) (aa (pv 2) (aa (pv 3) ai)))))) cK)
   (au (eR PassesOwn.never rfl (cv rfl T.range (aa (bq gh aj (cE aQ hr T.aS (aa (pv 0) (aa aj ai)))) ai)) (aP (i:=5) eP.nd)
    (au (aV (i:=6) eP.nd rfl (Or.inl rfl) (cE aQ hr T.aS (aa (pv 0) (aa (pv 4) ai))))
   (au (aV (i:=7) eP.nd rfl (Or.inl rfl) (bq oj (bq gh (bq gh (pv 6) aj) (cE aQ hr T.aS (aa (pv 0) (aa (bq kK (pv 4) aj) ai)))) (pv 4)))
   (au (aV (i:=8) eP.nd rfl (Or.inl rfl) (cG (aa (aT bw (dZ (aa aj (aa (tF nR aj) (aa aj (aa (tF nR aj) ai))))) (cE aQ hr T.aS (aa (pv 0) (aa aj ai)))) (aa aj ai))))
   (au (aV (i:=9) eP.nd rfl (Or.inl rfl) (cG (aa (bq kK aj (aT bJ (pv 8) aj)) (aa aj ai))))
   (au (iH (cE lM hr T.j6 (aa (aT bw (pv 1) (pv 6)) (aa (cE pj hr T.mM (aa (pv 8) (aa (aT bw (pv 1) (pv 7)) ai))) ai))) (jA (pv 1) (pv 6) set_list))
   (au (eR PassesOwn.never rfl (cg (bq oo (pv 1) (pv 3))) (aP (i:=10) eP.nd)
    (aB (iH (cE dD hr T.eV (aa (aT bw (pv 10) (pv 7)) (aa (cE gN hr T.gJ (aa (pv 9) (aa (aT bw (pv 10) (pv 6)) ai))) ai))) (jA (pv 10) (pv 7) set_list))))
   (aB (eR PassesOwn.never rfl (cg (pv 2)) (aP (i:=10) eP.nd)
    (aB (iH (cE dD hr T.eV (aa (aT bw (pv 10) (pv 6)) (aa (cE gN hr T.gJ (aa (pv 8) (aa (aT bw (pv 10) (pv 7)) ai))) ai))) (jA (pv 10) (pv 6) set_list))))))))))))
   (aB (bo (cG (aa (pv 1) (aa (pv 2) (aa (pv 3) ai))))))))),?_⟩
  refine aW (σ:=[some (.ref b),some (.ref m),some (.ref p),some (.ref l),none,none,none,none,none,none,none]) rfl ?_;have done:∀r us' H' t,t<=3->H' r=some (.tup [.ref m,.ref p,.ref l])->kq K A H' n (λx=>Fr (μ x) (9^t*WV)) m p l b q0 us' ws vs->jk A b m H H'->Q (.ref r) H':=λr us' H' t ht g x kp=>k r us' H' g (x.weak λ_ _ y h=>h.mono (az _ (aD (by decide) ht))) kp
  have X0:kq K A H n (λx=>Fr (μ x) (9^0*WV)) m p l b q0 us ws vs:=X.weak λ_ _ y h=>h.mono (by simp)
  clear X k;have gu:=X0.gm;have lu:=X0.lm;exists ⟨_,_,rfl,.inl (bK.of gu),?_⟩;rw[lu];clear gu lu;have kp0:jk A b m H H:=λ_ _ h _ _ _=>h
  exists jh (λh0=>?_) (λh0=>?_)
  ·exists bV λr H' s' g'=>?_
   exact done r us H' 0 (by decide) g' (X0.same s') (kp0.same s')
  have n2:2<=n:=by
   rcases nQ n 2 with z | z
   ·exact absurd (decide_eq_true (show (n:Int) < 2 by lia)) h0
   ·exact z
  exists ⟨b,2,rfl,X0.bag,by decide,by decide,λv H1 v0 v1 B1 u1=>?_⟩;have X1:=X0.upto MA u1 B1;have kp1:=kp0.upto u1;exists jh (λh1=>?_) (λh1=>?_)
  ·exists bV λr H' s' g'=>?_
   exact done r us H' 0 (by decide) g' (X1.same s') (kp1.same s')
  exists ⟨b,3,rfl,B1,by decide,by decide,λc H2 c0 c1 B2 u2=>?_⟩;have X2:=X1.upto MA u2 B2;have kp2:=kp1.upto u2;clear X0 X1 kp0 kp1 u1 u2 B1;exists ⟨by lia,by lia,?_⟩;refine eh (n:=(1+c).toNat) (λt σ' H'=>∃(x1 x2 x3 x4 x5 x6:Option V) (us:List V),σ'=[some (.ref b),some (.ref m),some (.ref p),some (.ref l),some (.int n),x1,x2,x3,x4,x5,x6]/\kq K A H' n (λx=>Fr (μ x) (9^t*WV)) m p l b q0 us ws vs/\jk A b m H H') ⟨none,none,none,none,none,none,us,rfl,X2,kp2⟩ ?_ ?_
  ·rintro t σ' H' ht ⟨x1,x2,x3,x4,x5,x6,us,rfl,X,kp⟩;have t3:t<=2:=by lia
   exists ⟨b,n,rfl,X.bag,by lia,by lia,λii Ha i0 i1 Ba ua=>?_⟩;obtain ⟨ii,rfl⟩:=cD i0;have Xa:=X.upto MA ua Ba;have kpa:=kp.upto ua;exists ⟨b,_,rfl,Ba,by lia,by lia,λd Hb d0 d1 Bb ub=>?_⟩;have Xb:=Xa.upto MA ub Bb;have kpb:=kpa.upto ub;exists eZ (show (0:Int) < n by lia) ?_;have j0:=mh ((ii:Int)+1+d) (show (n:Int)≠0 by lia);have j1:=jx ((ii:Int)+1+d) (show (0:Int) < n by lia);generalize ((ii:Int)+1+d) % (n:Int)=jj at j0 j1 ⊢;obtain ⟨jj,rfl⟩:=cD j0;exists de λl0 Hc sc nc gc=>?_
   exists ⟨b,4,rfl,Bb.same sc,by decide,by decide,λv' Hd v0' v1' Bd ud=>?_⟩;have gd:=ud.other (λz=>Bb.at (by rw[<- z];exact nc)) gc;obtain ⟨x,ex,mx,_⟩:=kf (xs:=[V.int 1,V.int (-1),V.int 2,V.int (-2)]) v0' (by simpa using v1')
   obtain ⟨z,rfl,hz⟩:∃z:Int,x=.int z/\z.natAbs<=2:=by
    simp only[aH,aY,or_false] at mx;rcases mx with rfl | rfl | rfl | rfl
    ·exact ⟨1,rfl,by decide⟩
    ·exact ⟨-1,rfl,by decide⟩
    ·exact ⟨2,rfl,by decide⟩
    ·exact ⟨-2,rfl,by decide⟩
   have Xd:=(Xb.same sc).upto MA ud Bd;have kpd:=(kpb.same sc).upto ud;exists cp (bK.of gd) ex ?_;exists bV λbt He se ge=>?_
   exists bV λlt Hf sf gf=>?_
   have Xf:=(Xd.same se).same sf;have kpf:=(kpd.same se).same sf;have nb:bS K Hf ((z:Int):Rat) (.ref bt):=bS.mk (sf _ _ ge) rfl;have nl:bS K Hf ((0 - z:Int):Rat) (.ref lt):=bS.mk gf rfl;clear X Xa Xb Xd kp kpa kpb kpd ua ub ud sc gc gd ex mx ge gf se sf Ba Bb Bd nc;have gu:=Xf.gm;have lu:=Xf.lm
   have ru:∀x∈us,gV K A Hf n (Fr M (9^t*WV)) x:=λx hx=>by
    have:=Xf.row x (by simp [hx]);rwa [eM x (Xf.apart.1 x hx).1 (Xf.apart.1 x hx).2] at this
   have hM:0 < M/\M<=2^800:=by
    have hx:us[ii]'(by lia)∈us:=bu _;have:=eM _ (Xf.apart.1 _ hx).1 (Xf.apart.1 _ hx).2;rw[<- this];exact ⟨M0 _,M1 _⟩
   have e1:us[ii]?=some (us[ii]'(by lia)):=by simp
   have e2:us[jj]?=some (us[jj]'(by lia)):=by simp
   obtain ⟨q1,z1,qs1,w1,a1,g1,k1,p1,l1,c1⟩:=(ru _ (ao e1)).at;obtain ⟨q2,z2,qs2,w2,a2,g2,k2,p2,l2,c2⟩:=(ru _ (ao e2)).at;rw[w1] at e1;rw[w2] at e2;generalize eW:9^t*WV=W at *
   have W9:9*W<=2^140:=by rw[<- eW];exact Nh (by lia) V1 (by decide)
   have sz9M:∀{x:Rat} {U:Nat},U<=9*W->Fr M U x->lU x:=λhU h=>Iv hM.1 hM.2 (ak hU W9) h
   have sz9:∀{x:Rat} {U:Nat} {v:V},U<=9*W->Fr (μ v) U x->lU x:=λhU h=>Iv (M0 _) (M1 _) (ak hU W9) h
   exists cp (bK.of gu) (gF e1) ?_;exists cp (bK.of gu) (gF e2) ?_;exists ⟨_,q2,_,qs2,rfl,nb,Cw (by lia),⟨z2,g2,p2⟩,by lia,λy hy=>sz9M (by lia) (c2 y hy),λr1 Hg n1 sg R1=>?_⟩;exists ⟨q1,r1,qs1,_,rfl,⟨z1,sg _ _ g1,Paired.imp' (λ_ _ y=>y.same sg) p1⟩,R1,by rw[ag,l1,l2],by lia,λy hy=>sz9M (by lia) (c1 y hy),λy hy=>?_,λr2 Hh n2' sh R2=>?_⟩
   ·obtain ⟨y',hy',rfl⟩:=aw.mp hy;exact zi hz (c2 y' hy') hM.1 hM.2 (by lia)
   have sfh:=sg.trans sh
   have new:V.ref r2∉us++vs++ws:=λz=>by
    obtain ⟨q',_,_,e',_,g',_⟩:=((Xf.same sg).row _ z).at;cases e';rw[n2'] at g';cases g'
   have Xh:=(Xf.same sfh).weak (C':=λx y=>(x∈ws->Fr (μ x) W y)/\Fr (μ x) (3*W) y) λx _ y h=>⟨λ_=>h,h.mono (by lia)⟩
   have kph:=kpf.same sfh;have guh:=sfh _ _ gu;have ar2:A r2:=(kpf.same sg).new hA (Xf.same sg).bag (by rw[sg _ _ gu];simp) n2'
   have rp2:gV K A Hh n (λy=>(V.ref r2∈ws->Fr (μ (.ref r2)) W y)/\Fr (μ (.ref r2)) (3*W) y) (.ref r2):=by
    rw[eM (.ref r2) (λz=>new (av.mpr (.inr z))) (λz=>new (av.mpr (.inl (av.mpr (.inr z)))))];refine ⟨r2,_,rfl,ar2,R2,by rw[bC,ag];lia,λy hy=>⟨λz=>absurd (av.mpr (.inr z)) new,?_⟩⟩;obtain ⟨j',hj',e⟩:=bU hy;rw[iR,List.getElem_map] at e;rw[<- e];exact DC hz (c1 _ (bu _)) (c2 _ (bu _))
   exists ir guh (iN (by lia)) rfl ?_;have Xi:=Xh.set MA rp2 new ii;have kpi:=kph.upd (o:=.lst (us.set ii (.ref r2))) (q:=m) (.inr rfl);have nli:bS K (upd Hh m (.lst (us.set ii (.ref r2)))) ((0 - z:Int):Rat) (.ref lt):=(nl.same sfh).updL guh;have nbi:bS K (upd Hh m (.lst (us.set ii (.ref r2)))) ((z:Int):Rat) (.ref bt):=(nb.same sfh).updL guh;generalize upd Hh m (.lst (us.set ii (.ref r2)))=Hi at Xi kpi nli nbi ⊢;generalize us.set ii (.ref r2)=um at Xi;clear nb nl Xf kpf gu ru e1 e2 g1 p1 g2 p2 R1 R2 Xh kph guh rp2 sg sh sfh new;have gm:=Xi.gm;have lm:=Xi.lm;have gl:=Xi.gl;have nd:=Xi.nd;obtain ⟨nd1,nd2,nd3⟩:=dr.mp nd;exists oi gm gl (aO (bO (by lia))) λcl Hj sj nj gj=>?_
   have kpj:=kpi.same sj
   have rows:∀x∈um++vs,∀q,x=V.ref q->q≠cl:=λx hx q e y=>by
    obtain ⟨q',zs,_,e',_,g',_⟩:=(Xi.row x (av.mpr (.inl hx))).at;rw[e] at e';cases e';rw[y,nj] at g';cases g'
   have Xj:=(Xi.same sj).weak (C':=λx y=>(x∈ws->Fr (μ x) W y)/\(x∈(um++vs).drop 0->Fr (μ x) (3*W) y)/\Fr (μ x) (9*W) y) λx _ y h=>⟨h.1,λ_=>h.2,h.2.mono (by lia)⟩
   have lj:bS K Hj ((0 - z:Int):Rat) (.ref lt):=nli.same sj;have bj:bS K Hj ((z:Int):Rat) (.ref bt):=nbi.same sj;clear Xi kpi nli nbi;refine ⟨_,rfl,⟨_,bK.of gj⟩,?_⟩;refine i5 (K:=K) (a:=cl) (xs:=um++vs) (λs σ' H'=>∃x6:Option V,σ'=[some (.ref b),some (.ref m),some (.ref p),some (.ref l),some (.int n),some (.int t),some (.int ii),some (.int jj),some (.ref bt),some (.ref lt),x6]/\kq K A H' n (λx y=>(x∈ws->Fr (μ x) W y)/\(x∈(um++vs).drop s->Fr (μ x) (3*W) y)/\Fr (μ x) (9*W) y) m p l b q0 um ws vs/\jk A b m H H'/\H' cl=some (.lst (um++vs))/\bS K H' ((0 - z:Int):Rat) (.ref lt)/\bS K H' ((z:Int):Rat) (.ref bt)) ⟨_,rfl,Xj,kpj,gj,lj,bj⟩ (λs σ' H' _ ⟨_,_,_,_,e,_⟩=>bK.of e) ?_ ?_
   ·rintro s x σ' Hk hx ⟨y6,rfl,Xk,kpk,gk,lk,bk⟩;have hs:s < (um++vs).length:=(aU.mp hx).1;have mx:=ao hx
    have xd:x∈(um++vs).drop s:=by
     rw[dP hs,(aU.mp hx).2];exact .head _
    have xd2:x∉(um++vs).drop (s+1):=λz=>by
     have:=nd1.sublist (List.drop_sublist s _);rw[dP hs,dG,(aU.mp hx).2] at this;exact this.1 z
    have xw:x∉ws:=λz=>nd3 x mx x z rfl
    have rx:=Xk.row x (av.mpr (.inl mx));obtain ⟨q,zs,qs,rfl,aq,gq,lq,pq,lq2,cq⟩:=rx.at;have qcl:=rows _ mx q rfl;obtain ⟨vj,ej,nj'⟩:=Gq pq (j:=jj) (by lia);obtain ⟨vi,ei,ni'⟩:=Gq pq (j:=ii) (by lia);have cj:=(cq _ (getD_mem (xs:=qs) (i:=jj) (by lia))).2.1 xd;have ci:=(cq _ (getD_mem (xs:=qs) (i:=ii) (by lia))).2.1 xd;exists cp (bK.of gq) ej ?_;exists cp (bK.of gq) ei ?_;exists ⟨_,_,_,_,rfl,lk,ni',Cw (by lia),sz9 (by lia) ci,λr3 Hl sl n3=>?_⟩;exists ⟨_,_,_,_,rfl,nj'.same sl,n3,sz9 (by lia) cj,zi (by lia) ci (M0 _) (M1 _) (by lia),λr4 Hm sm n4=>?_⟩;have slm:=sl.trans sm;exists ir (slm _ _ gq) (iN (by lia)) rfl ?_;refine ⟨_,rfl,?_,(kpk.same slm).upd (.inl aq),by rw[aZ qcl.symm];exact slm _ _ gk,(lk.same slm).updL (slm _ _ gq),(bk.same slm).updL (slm _ _ gq)⟩;refine ((Xk.same slm).weak λx' _ y h=>⟨h.1,λz=>h.2.1 ?_,h.2.2⟩).put MA aq (slm _ _ gq) n4 ⟨λz=>absurd z xw,λz=>absurd z xd2,?_⟩ jj
    ·rw[dP hs];exact .tail _ z
    ·exact (DC (by lia) cj ci).mono (by lia)
   ·rintro σ' Hk ⟨y6,rfl,Xk,kpk,gk,lk,bk⟩;have gp:=Xk.gp;have Xk2:=Xk.weak (C':=λx y=>(x∈ws.drop 0->Fr (μ x) W y)/\Fr (μ x) (9*W) y) λx _ y h=>⟨λz=>h.1 (by simpa using z),h.2.2⟩
    clear Xk;exists ⟨⟨_,bK.of gp⟩,?_⟩;refine i5 (K:=K) (a:=p) (xs:=ws) (λs σ' H'=>∃x6:Option V,σ'=[some (.ref b),some (.ref m),some (.ref p),some (.ref l),some (.int n),some (.int t),some (.int ii),some (.int jj),some (.ref bt),some (.ref lt),x6]/\kq K A H' n (λx y=>(x∈ws.drop s->Fr (μ x) W y)/\Fr (μ x) (9*W) y) m p l b q0 um ws vs/\jk A b m H H'/\bS K H' ((z:Int):Rat) (.ref bt)) ⟨_,rfl,Xk2,kpk,bk⟩ (λs σ' H' _ ⟨_,_,X,_⟩=>bK.of X.gp) ?_ ?_
    ·rintro s x σ' Hl hx ⟨w6,rfl,Xl,kpl,bl⟩;have hs:s < ws.length:=(aU.mp hx).1;have mx:=ao hx
     have xd:x∈ws.drop s:=by
      rw[dP hs,(aU.mp hx).2];exact .head _
     have xd2:x∉ws.drop (s+1):=λz=>by
      have:=nd2.sublist (List.drop_sublist s _);rw[dP hs,dG,(aU.mp hx).2] at this;exact this.1 z
     have rx:=Xl.row x (av.mpr (.inr mx));obtain ⟨q,zs,qs,rfl,aq,gq,lq,pq,lq2,cq⟩:=rx.at;obtain ⟨vj,ej,nj'⟩:=Gq pq (j:=jj) (by lia);obtain ⟨vi,ei,ni'⟩:=Gq pq (j:=ii) (by lia);have cj:=(cq _ (getD_mem (xs:=qs) (i:=jj) (by lia))).1 xd;have ci:=(cq _ (getD_mem (xs:=qs) (i:=ii) (by lia))).1 xd;exists cp (bK.of gq) ei ?_;exists cp (bK.of gq) ej ?_;exists ⟨_,_,_,_,rfl,bl,nj',Cw (by lia),sz9 (by lia) cj,λr3 Hm sm n3=>?_⟩;exists ⟨_,_,_,_,rfl,ni'.same sm,n3,sz9 (by lia) ci,zi (by lia) cj (M0 _) (M1 _) (by lia),λr4 Hn sn n4=>?_⟩;have smn:=sm.trans sn;exists ir (smn _ _ gq) (iN (by lia)) rfl ?_;refine ⟨_,rfl,?_,(kpl.same smn).upd (.inl aq),(bl.same smn).updL (smn _ _ gq)⟩;refine ((Xl.same smn).weak λx' _ y h=>⟨λz=>h.1 ?_,h.2⟩).put MA aq (smn _ _ gq) n4 ⟨λz=>absurd z xd2,?_⟩ ii
     ·rw[dP hs];exact .tail _ z
     ·exact (DC (by lia) ci cj).mono (by lia)
    ·rintro σ' Hl ⟨w6,rfl,Xl,kpl,bl⟩;refine ⟨_,_,_,_,_,_,um,rfl,Xl.weak λ_ _ y h=>h.2.mono ?_,kpl⟩;rw[<- eW,iQ,dJ (9^t) 9,di];exact ar _
  ·rintro σ' H' ⟨x1,x2,x3,x4,x5,x6,us',rfl,X,kp⟩;exists bV λr H2' s' g'=>?_
   exact done r us' H2' _ (by lia) g' (X.same s') (kp.same s')
theorem dQ:a7 ["_law_bag_here","_law_one","_law_other","_law_ahead","_law_behind","_law_found","_law_k"] ["_law_bag_here"] (aI kE):=by walk_at "d"
theorem vC (T:Txt K mg Z) (ptree:P.given.tree=none):cO P w K mg base iI 5 Z.ph Z.oZ ["_law_bag_here"] (MB K):=by
 have nK:=vE (P:=P) (w:=w) (base:=base) T ptree;have aQ:=eQ (P:=P) (w:=w) (base:=base) T ptree;have qA:=tH (P:=P) (w:=w) (base:=base) T ptree;refine T.j5.F.ok dQ (λvs H Q E h=>?_) (λcdv A outer s H vs Q E hr h=>?_)
 ·obtain ⟨b,rfl,_⟩:=h;rfl
 ·obtain ⟨b,rfl,hB,k⟩:=h
  refine ⟨_,(au (aV (i:=1) dQ.nd rfl (Or.inl rfl) (cE nK hr T.j7 (aa (pv 0) (aa aj ai))))
   (au (aV (i:=2) dQ.nd rfl (Or.inl rfl) (cE nK hr T.j7 (aa (pv 0) (aa (bq gh aj (cE aQ hr T.aS (aa (pv 0) (aa aj ai)))) ai))))
   (au (aV (i:=3) dQ.nd rfl (Or.inr rfl) (bq KO (dZ (aa (cG (aa aj (aa aj ai))) ai)) aj))
   (au (aV (i:=4) dQ.nd rfl (Or.inr rfl) (bq KO (dZ (aa (cG (aa aj (aa aj ai))) ai)) (bG bx (by rfl) T.len bg (aa (aT bJ (pv 2) aj) ai))))
   (au (aV (i:=5) dQ.nd rfl (Or.inl rfl) (dZ ai))
   (au (eR PassesOwn.never rfl (cv rfl T.range (aa aj ai)) (aP (i:=6) dQ.nd)
    (aB (jW (xU dA dY dX kL (pv 5) (aa (bq oo (cb ["_law_row_here"] ["_law_behind"] [4] (cg (aT bJ (pv 1) (pv 6))) (λ_=>(aP (i:=0) (show ND9 ["_law_row_here","_law_behind"] by decide +kernel))) (λ_=>cu) (λ_=>(bq oo (pv 0) (pv 1)))) (cb ["_law_row_here"] ["_law_ahead"] [3] (cg (aT bJ (pv 2) (pv 6))) (λ_=>(aP (i:=0) (show ND9 ["_law_row_here","_law_ahead"] by decide +kernel))) (λ_=>cu) (λ_=>(bq oo (pv 1) (pv 0))))) ai)))))
   (aB (bo (cE qA hr T.kX (aa (pv 0) (aa (aT bw (pv 5) aj) (aa (aT bw (pv 5) aj) (aa (aT bw (pv 5) aj) ai))))))))))))),?_⟩
  refine aW (σ:=[some (.ref b),none,none,none,none,none,none]) rfl ?_;obtain ⟨q0,I0,xq,gq0⟩:=hB.inner;exists ⟨b,3,rfl,hB,by decide,by decide,λr1 mv1 pt1 lk1 H1 P1 lm1 lp1 ll1 D1 fm1 fp1 fl1 B1 u1=>?_⟩;exists ⟨b,3,rfl,B1,by decide,by decide,λv H2 v0 v1 B2 u2=>?_⟩;obtain ⟨v,rfl⟩:=cD v0;have u02:=u1.trans u2;walk_at "w";rw[show ((3:Int)+(v:Int))=((3+v:Nat):Int) by lia];refine ⟨b,3+v,rfl,B2,by lia,by lia,λr2 mv2 pt2 lk2 H3 P2 lm2 lp2 ll2 D2 fm2 fp2 fl2 B3 u3=>?_⟩;have u03:=u02.trans u3;have P1c:=(P1.upto (u2.trans u3) B1 hB.at);have P2c:fK K H H3 r2 mv2 pt2 lk2:=P2.weak λq h=>u02.none B2 h
  exists bV λt0 H4 s4 g4=>?_
  exists de λa1 H5 s5 n5 g5=>?_
  exists Ks (k:=3) g5 (by decide) λah H6 s6 n6 g6=>?_
  have s36:=(s4.trans s5).trans s6;obtain ⟨m1,p1,l1,gt1,m1n,p1n,l1n,Gm1,Gp1,Gl1⟩:=P1c.same s36;obtain ⟨m2,p2,l2,gt2,m2n,p2n,l2n,Gm2,Gp2,Gl2⟩:=P2c.same s36;have N0:bS K H6 0 (V.ref t0):=bS.mk (q:=0) ((s5.trans s6) _ _ g4) rfl;exists bV λt1 H7 s7 g7=>?_
  exists de λa2 H8 s8 n8' g8=>?_
  have s68:=s7.trans s8;have gt2':=s68 _ _ gt2;obtain ⟨um2,gm2,qm2,_⟩:=id (Gm2.same s68);have lum2:=qm2.length;exists ⟨_,_,rfl,.inl (bK.of gm2),?_⟩;rw[<- lum2,lm2];exists Ks (k:=3+v) g8 (by lia) λbh H9 s9 n9 g9=>?_
  have s69:=s68.trans s9;have s39:=s36.trans s69;have N1:bS K H9 0 (V.ref t1):=bS.mk (q:=0) ((s8.trans s9) _ _ g7) rfl;have u09:=u03.same s39;have B9:=B3.same s39;have g6':=s69 _ _ g6;have N0':=N0.same s69;exists de λfd H10 s10 n10 g10=>?_
  have X1:∀i:Nat,i < 3->∃q1 R1 q2 R2,[V.ref m1,V.ref p1,V.ref l1][i]?=some (V.ref q1)/\cx K H H9 q1 R1/\(∀xs∈R1,xs.length=3/\∀y∈xs,Fr 1 1 y)/\[V.ref m2,V.ref p2,V.ref l2][i]?=some (V.ref q2)/\cx K H H9 q2 R2/\(∀xs∈R2,xs.length=3+v/\∀y∈xs,Fr 1 1 y)/\R1.length<=100/\R2.length<=100/\[6+v,2,2][i]?=some (R1.length+R2.length):=λi hi=>by
   rcases (show i=0\/i=1\/i=2 by lia) with rfl | rfl | rfl
   ·exact ⟨m1,mv1,m2,mv2,rfl,Gm1.same s69,λxs hx=>⟨by rw[D1.mw xs hx,lm1],fm1 xs hx⟩,rfl,Gm2.same s69,λxs hx=>⟨by rw[D2.mw xs hx,lm2],fm2 xs hx⟩,by lia,by lia,by rw[lm1,lm2,show 3+(3+v)=6+v by lia];rfl⟩
   ·exact ⟨p1,pt1,p2,pt2,rfl,Gp1.same s69,λxs hx=>⟨by rw[D1.pw xs hx,lm1],fp1 xs hx⟩,rfl,Gp2.same s69,λxs hx=>⟨by rw[D2.pw xs hx,lm2],fp2 xs hx⟩,by lia,by lia,by rw[lp1,lp2];rfl⟩
   ·exact ⟨l1,lk1,l2,lk2,rfl,Gl1.same s69,λxs hx=>⟨by rw[D1.lw xs hx,lm1],fl1 xs hx⟩,rfl,Gl2.same s69,λxs hx=>⟨by rw[D2.lw xs hx,lm2],fl2 xs hx⟩,by lia,by lia,by rw[ll1,ll2];rfl⟩
  exists ⟨by decide,by decide,?_⟩;refine eh (n:=3) (λi σ' H'=>aG H9 H'/\∃x6 L,σ'=[some (.ref b),some (.ref r1),some (.ref r2),some (.ref ah),some (.ref bh),some (.ref fd),x6]/\S5 K H9 H' (6+v) fd L/\L.length=i/\∀(j:Nat) (e:Addr×List V),L[j]?=some e->[6+v,2,2][j]?=some e.2.length) ⟨s10,none,[],rfl,⟨g10,n10,(λ_ z=>nomatch z),ky,(λ_ z=>nomatch z),ky⟩,rfl,λj e h=>by simp at h⟩ ?_ ?_
  ·rintro i σ' H' hi ⟨s',x6,L,rfl,T,lL,hL⟩;obtain ⟨q1,R1,q2,R2,e1,G1,w1,e2,G2,w2,b1,b2,hlen⟩:=X1 i hi;have gt1':=s' _ _ (s69 _ _ gt1);have gt2'':=s' _ _ (s69 _ _ gt2);obtain ⟨ux1,gx1,qx1,_⟩:=id (G1.same s');have gb:=s' _ _ g9;have ga:=s' _ _ g6';exists ⟨.inl ⟨rfl,_,bK.of T.gf⟩,?_⟩;exists F0 (uR.of gt1') (gF e1) ?_;exists ⟨⟨_,bK.of gx1⟩,?_⟩;refine BR (K:=K) (F:=ia K H) (λH'' c x=>∃q,x=V.ref q/\bX K H'' q c) (λr=>r++List.replicate (3+v) 0) gx1 qx1 (by lia) (λa b=>a.same b) (λa b=>by obtain ⟨q,e,r⟩:=a;exact ⟨q,e,r.same b⟩) (λa=>by obtain ⟨q,e,_,gg,_⟩:=a;exact ⟨q,e,by rw[gg];exact λz=>nomatch z⟩) ?_ ?_
   ·rintro j ns x Hi NY NN en si ⟨q,rfl,_,zs,gz,qz⟩ k1;have ws:=(w1 ns (ao en)).1;have lz:=qz.length;exists oi gz (si _ _ gb) (aO (bO (by rw[dU];lia))) λc Hj sj nj gj=>?_
    exact k1 _ _ sj ⟨c,rfl,_,gj,cz (Paired.imp' (λ_ _ z=>z.same sj) qz) (uE (((N1.same s').same si).same sj) _)⟩ ⟨c,rfl,nj⟩
   rintro ys1 Ha c1 hc1 sa ga1 nd1 ne1 pr1;obtain ⟨ux2,gx2,qx2,_⟩:=id ((G2.same s').same sa);have gt2a:=sa _ _ gt2'';exists F0 (uR.of gt2a) (gF e2) ?_;exists ⟨⟨_,bK.of gx2⟩,?_⟩;refine BR (K:=K) (F:=ia K H) (λH'' c x=>∃q,x=V.ref q/\bX K H'' q c) (λr=>List.replicate 3 0++r) gx2 qx2 (by lia) (λa b=>a.same b) (λa b=>by obtain ⟨q,e,r⟩:=a;exact ⟨q,e,r.same b⟩) (λa=>by obtain ⟨q,e,_,gg,_⟩:=a;exact ⟨q,e,by rw[gg];exact λz=>nomatch z⟩) ?_ ?_
   ·rintro j ns x Hi NY NN en si ⟨q,rfl,_,zs,gz,qz⟩ k1;have ws:=(w2 ns (ao en)).1;have lz:=qz.length;exists oi ((sa.trans si) _ _ ga) gz (aO (bO (by rw[dU];lia))) λc Hj sj nj gj=>?_
    exact k1 _ _ sj ⟨c,rfl,_,gj,cz (uE ((((N0'.same s').same sa).same si).same sj) _) (Paired.imp' (λ_ _ z=>z.same sj) qz)⟩ ⟨c,rfl,nj⟩
   rintro ys2 Hb c2 hc2 sb gb2 nd2 ne2 pr2;have sab:=sa.trans sb;have ly1:=pr1.length;have ly2:=pr2.length;rw[ag] at ly1 ly2;exists oi (sb _ _ ga1) gb2 (aO (bO (by lia))) λqn Hc sc nc gc=>?_
   have sac:=sab.trans sc;have gfc:=sac _ _ T.gf;exists kF gfc (bO (by rw[ag];lia)) ?_
   have rP:∀{c:List Rat} {x:V},(∃q,x=V.ref q/\bX K Hb q c)->(∃q,x=V.ref q/\H' q=none)->c.length=6+v->(∀y∈c,Fr 1 1 y)->gV K (λz=>H' z=none/\z≠qn) Hc (6+v) (Fr 1 1) x:=λ⟨q,e,r⟩ ⟨q',e',nq⟩ hl hf=>by
    rw[e] at e';cases e';exact ⟨q,_,e,⟨nq,λz=>by obtain ⟨_,gg,_⟩:=r;rw[z,nc] at gg;cases gg⟩,r.same sc,hl,hf⟩
   refine ⟨(s'.trans sac).after n10,some (.int i),L++[(qn,ys1++ys2)],rfl,T.snoc s' sac (sab.none nc) gc ?_ (λx hx=>?_),by rw[aF,fR,lL],λj e he=>?_⟩
   ·refine dr.mpr ⟨nd1,nd2,λx hx y hy z=>?_⟩;obtain ⟨_,_,q,e,_,gg,_⟩:=dj pr1 hx;obtain ⟨q',e',nq,_⟩:=ne2 y hy;rw[<- z,e] at e';cases e';rw[nq] at gg;cases gg
   ·rcases av.mp hx with hx | hx
    ·obtain ⟨c,mc,q,e,r⟩:=dj pr1 hx;obtain ⟨ns,mn,rfl⟩:=aw.mp mc;obtain ⟨q',e',nq,_⟩:=ne1 x hx;refine rP ⟨q,e,r.same sb⟩ ⟨q',e',nq⟩ (by rw[aF,dU,(w1 ns mn).1];lia) λy hy=>?_
     rcases av.mp hy with hy | hy
     ·exact (w1 ns mn).2 y hy
     ·rw[(List.mem_replicate.mp hy).2];exact Fr.zero
    ·obtain ⟨c,mc,q,e,r⟩:=dj pr2 hx;obtain ⟨ns,mn,rfl⟩:=aw.mp mc;obtain ⟨q',e',nq,_⟩:=ne2 x hx;refine rP ⟨q,e,r⟩ ⟨q',e',sa.none nq⟩ (by rw[aF,dU,(w2 ns mn).1];lia) λy hy=>?_
     rcases av.mp hy with hy | hy
     ·rw[(List.mem_replicate.mp hy).2];exact Fr.zero
     ·exact (w2 ns mn).2 y hy
   ·rcases nQ j L.length with z | z
    ·rw[fP z] at he;exact hL j e he
    ·have hj:=(aU.mp he).1;rw[aF,fR] at hj;have ej:j=L.length:=by lia
     subst ej;rw[fF (ar _),Nat.sub_self] at he;cases he;rw[lL,hlen,aF,ly1,ly2]
  ·rintro σ' H' ⟨s',x6,L,rfl,T,lL,hL⟩
   obtain ⟨⟨m,us⟩,⟨p,ws⟩,⟨l,vs⟩,rfl⟩:∃a b c,L=[a,b,c]:=by
    rcases L with _ | ⟨a,_ | ⟨b,_ | ⟨c,_ | ⟨d,L⟩⟩⟩⟩
    ·cases lL
    ·cases lL
    ·cases lL
    ·exact ⟨a,b,c,rfl⟩
    ·simp at lL
   have lu:us.length=6+v:=by have:=hL 0 _ rfl;simpa using this.symm
   have lw:ws.length=2:=by have:=hL 1 _ rfl;simpa using this.symm
   have lv:vs.length=2:=by have:=hL 2 _ rfl;simpa using this.symm
   have gf:=T.gf;obtain ⟨mn,mf,gm⟩:=T.ls (m,us) (by simp);obtain ⟨pn,pf,gp⟩:=T.ls (p,ws) (by simp);obtain ⟨ln,lf,gl⟩:=T.ls (l,vs) (by simp);have nd:=T.nd;have rw':=T.rows;have rd:=T.rd;clear T hL;have gf:H' fd=some (.lst [.ref m,.ref p,.ref l]):=gf;have nd:[m,p,l].Nodup:=nd;have rd:(us++(ws++(vs++[]))).Nodup:=rd;have u0':=u09.same s';have B':=B9.same s';have hm0:H m=none:=u09.none B9 mn;have hp0:H p=none:=u09.none B9 pn;have hl0:H l=none:=u09.none B9 ln;obtain ⟨A,eA⟩:∃A:Addr->Prop,A=λq=>H q=none/\q≠m/\q≠p/\q≠l:=⟨_,rfl⟩
   have mkA:∀{q},H q=none->q≠m->q≠p->q≠l->A q:=λh1 h2 h3 h4=>by rw[eA];exact ⟨h1,h2,h3,h4⟩
   have unA:∀{q},A q->H q=none/\q≠m/\q≠p/\q≠l:=λh=>by rw[eA] at h;exact h
   have nb:∀{q},H q=none->q≠b:=λh z=>hB.at (by rw[<- z];exact h)
   have MA:Fo A m p l b q0:=⟨λz=>(unA z).2.1 rfl,λz=>(unA z).2.2.1 rfl,λz=>(unA z).2.2.2 rfl,λz=>hB.at (unA z).1,(λz=>by have z1:=(unA z).1;rw[gq0] at z1;cases z1),nb hm0,nb hp0,nb hl0,by intro z;subst z;simp at nd,by intro z;subst z;simp at nd,λz=>by rw[<- z,hm0] at gq0;cases gq0⟩;have X:kq K A H' (6+v) (λ_=>Fr 1 1) m p l b q0 us ws vs:=⟨B',u0'.2 _ I0,gm,gp,gl,lu,λx hx=>?_,?_⟩
   ·exists ⟨b,m,p,l,q0,6+v,1,λ_=>1,A,us,ws,vs,rfl,MA,X,by lia,by lia,by lia,λ_=>Nat.zero_lt_one,λ_=>uh,⟨1,λ_ _ _=>rfl⟩,by decide,λq hq=>?_,λr us' H'' g Y kp=>?_⟩
    ·exact mkA (u0'.none B' hq) (λz=>by rw[z,gm] at hq;cases hq) (λz=>by rw[z,gp] at hq;cases hq) (λz=>by rw[z,gl] at hq;cases hq)
    ·obtain ⟨mv,Gm,lmv,hmv⟩:=kP (H0:=H) (n:=6+v) (C:=Fr 1 (9^3*1)) (m:=6+v) ⟨us',Y.gm,Y.lm,MA.am,λx hx=>Y.row x (by simp [hx])⟩ λq h=>(unA h).1
     obtain ⟨pt,Gp,lpt,hpt⟩:=kP (H0:=H) (n:=6+v) (C:=Fr 1 (9^3*1)) (m:=2) ⟨ws,Y.gp,lw,MA.ap,λx hx=>Y.row x (by simp [hx])⟩ λq h=>(unA h).1
     obtain ⟨lk,Gl,llk,hlk⟩:=kP (H0:=H) (n:=6+v) (C:=Fr 1 (9^3*1)) (m:=2) ⟨vs,Y.gl,lv,MA.al,λx hx=>Y.row x (by simp [hx])⟩ λq h=>(unA h).1
     refine k r mv pt lk H'' ⟨m,p,l,g,hm0,hp0,hl0,Gm,Gp,Gl⟩ (by lia) ⟨by lia,by lia,by lia,λxs hx=>by rw[(hmv xs hx).1,lmv],λxs hx=>by rw[(hpt xs hx).1,lmv],λxs hx=>by rw[(hlk xs hx).1,lmv]⟩ (λxs hx=>(hmv xs hx).2) (λxs hx=>(hpt xs hx).2) (λxs hx=>(hlk xs hx).2) Y.bag ⟨λc' u e n1=>kp c' u (u0'.1 _ _ e n1) n1 (λz=>by have:=(unA z).1;rw[e] at this;cases this) (λz=>by rw[z,hm0] at e;cases e),λq h=>by rw[<- Inner.inj I0 h];exact Y.inn⟩
   ·have hx:∃e∈[(m,us),(p,ws),(l,vs)],x∈e.2:=by
     rcases av.mp hx with hx | hx
     ·rcases av.mp hx with hx | hx
      ·exact ⟨(m,us),by simp,hx⟩
      ·exact ⟨(l,vs),by simp,hx⟩
     ·exact ⟨(p,ws),by simp,hx⟩
    obtain ⟨e,he,hx⟩:=hx;refine (rw' e he x hx).weak (λq hq=>?_) (λ_ w=>w);obtain ⟨⟨h1,_⟩,h2⟩:=hq;have h2:q∉[m,p,l]:=h2;simp only[aH,aY,or_false,not_or] at h2;exact mkA (u09.none B9 h1) h2.1 h2.2.1 h2.2.2
   ·rw[qR] at rd
    have e:(us++vs++ws).Perm (us++(ws++vs)):=by
     rw[cN];exact List.Perm.append_left _ List.perm_append_comm
    exact e.nodup_iff.mpr rd
theorem qZ:a7 ["_law_bag_here","_law_wide","_law_way"] ["_law_bag_here","_law_wide"] (aI oa):=by walk_at "d"
theorem zZ (T:Txt K mg Z) (ptree:P.given.tree=none):cO P w K mg base iI 2 Z.tY Z.tO ["_law_bag_here","_law_wide"] (zo K):=by
 have aQ:=eQ (P:=P) (w:=w) (base:=base) T ptree;have gR:=lG (P:=P) (w:=w) (base:=base) T ptree;refine T.mL.F.ok qZ (λvs H Q E h=>?_) (λcdv A outer s H vs Q E hr h=>?_)
 ·obtain ⟨b,w,rfl,_⟩:=h;rfl
 ·obtain ⟨b,w,rfl,hB,w0,w1,k⟩:=h
  refine ⟨_,(au (aV (i:=2) qZ.nd rfl (Or.inl rfl) (cE aQ hr T.aS (aa (pv 0) (aa aj ai))))
   (au (fL (bI rS (pv 2) aj (bL _)) (aB (bo (cG (aa aj (aa aj ai))))) cK)
   (au (fL (bI rS (pv 2) aj (bL _)) (aB (bo (cG (aa (bq kK (cE aQ hr T.aS (aa (pv 0) (aa aj ai))) aj) (aa aj ai))))) cK)
   (au (fL (bI hR (pv 2) aj (bL _)) (aB (bo (cE gR hr T.ie (aa (bq kK (cE aQ hr T.aS (aa (pv 0) (aa aj ai))) aj) (aa (bq gh aj (cE aQ hr T.aS (aa (pv 0) (aa aj ai)))) ai))))) cK)
   (aB (bo (cE gR hr T.ie (aa (bq kK (cE aQ hr T.aS (aa (pv 0) (aa (bq gh (bq cy aj (pv 1)) aj) ai))) (pv 1)) (aa (bq gh aj (cE aQ hr T.aS (aa (pv 0) (aa (pv 1) ai)))) ai))))))))),?_⟩
  refine aW (σ:=[some (.ref b),some (.int w),none]) rfl ?_;exists ⟨b,8,rfl,hB,by decide,by decide,λv H1 v0 v1 B1 u1=>?_⟩;exists jh (λh0=>?_) (λh0=>?_)
  ·exists bV λr H2 s2 g2=>?_
   exact k r 0 _ ⟨b8 _,by show 1<=_;lia⟩ (bS.mk g2 rfl) (B1.same s2) (u1.same s2)
  exists jh (λh1=>?_) (λh1=>?_)
  ·exists ⟨b,7,rfl,B1,by decide,by decide,λa H2 a0 a1 B2 u2=>?_⟩;exists bV λr H3 s3 g3=>?_
   exact k r ((a - 3:Int):Rat) _ ⟨by show (a - 3).natAbs<=_;lia,by show 1<=_;lia⟩ (bS.mk g3 rfl) (B2.same s3) ((u1.trans u2).same s3)
  exists jh (λh2=>?_) (λh2=>?_)
  ·exists ⟨b,13,rfl,B1,by decide,by decide,λa H2 a0 a1 B2 u2=>?_⟩;exists ⟨b,6,rfl,B2,by decide,by decide,λc H3 c0 c1 B3 u3=>?_⟩;exists ⟨_,_,rfl,by lia,(FO (by lia)).mono (by decide),λr H4 s4 g4=>?_⟩;obtain ⟨q,e,d,_⟩:=Gj (t:=a - 6) (b:=1+c) (W:=max w 6) (by lia) (by lia) (by lia);exact k r q _ d (bS.mk g4 e) (B3.same s4) (((u1.trans u2).trans u3).same s4)
  exists ⟨b,_,rfl,B1,by lia,by lia,λa H2 a0 a1 B2 u2=>?_⟩;exists ⟨b,_,rfl,B2,by lia,by lia,λc H3 c0 c1 B3 u3=>?_⟩;exists ⟨_,_,rfl,by lia,(FO (by lia)).mono (by decide),λr H4 s4 g4=>?_⟩;obtain ⟨q,e,d,_⟩:=Gj (t:=a - w) (b:=1+c) (W:=max w 6) (by lia) (by lia) (by lia);exact k r q _ d (bS.mk g4 e) (B3.same s4) (((u1.trans u2).trans u3).same s4)
theorem EE:a7 ["_law_bag_here","_law_many","_law_wide"] ["_law_bag_here","_law_many","_law_wide"] (aI uA):=by walk_at "d"
theorem ni (T:Txt K mg Z) (ptree:P.given.tree=none):cO P w K mg base iI 3 Z.AI Z.Ao ["_law_bag_here","_law_many","_law_wide"] (Ez K):=by
 have Bn:=zZ (P:=P) (w:=w) (base:=base) T ptree;refine T.iX.F.ok EE (λvs H Q E h=>?_) (λcdv A outer s H vs Q E hr h=>?_)
 ·obtain ⟨b,m,w,rfl,_⟩:=h;rfl
 ·obtain ⟨b,m,w,rfl,hB,hm,w0,w1,k⟩:=h;refine ⟨_,(aB (bo (cb ["_law_k"] ["_law_bag_here","_law_wide"] [0,2] (cv rfl T.range (aa (pv 1) ai)) (λ_=>(aP (i:=0) (show ND9 ["_law_k","_law_bag_here","_law_wide"] by decide +kernel))) (λ_=>cu) (λ_=>(cE Bn hr T.mL (aa (pv 1) (aa (pv 2) ai))))))),?_⟩;refine aW (σ:=[some (.ref b),some (.int m),some (.int w)]) rfl ?_;exists ⟨by lia,by lia,?_⟩;refine xB (n:=m) (bS K) (Dr (max w 6)) hB hm (λa u B=>a.upto u B) ?_ ?_
  ·rintro i H' NY NN hi u B k1;exists ⟨b,w,rfl,B,w0,w1,λr x H2 hx h2 B2 u2=>k1 _ x _ u2 B2 hx h2⟩
  ·rintro ys cs H' p hp u B g lc hc pr nx;exact k p cs H' hp ⟨ys,g,pr⟩ lc hc B u
theorem jU:a7 ["_law_bag_here","_law_n","_law_way","_law_first","_law_wide","_law_move_here","_law_i","_law_row_here","_law_j"] ["_law_bag_here","_law_n","_law_way","_law_first","_law_wide"] (aI rH):=by walk_at "d"
theorem Dp (T:Txt K mg Z) (ptree:P.given.tree=none):cO P w K mg base iI 4 Z.yE Z.ym ["_law_bag_here","_law_n","_law_way","_law_first","_law_wide"] (Eu K):=by
 have i8:=ni (P:=P) (w:=w) (base:=base) T ptree;have aQ:=eQ (P:=P) (w:=w) (base:=base) T ptree;refine T.pX.F.ok jU (λvs H Q E h=>?_) (λcdv A outer s H vs Q E hr h=>?_)
 ·obtain ⟨b,n,w,way,first,rfl,_⟩:=h;rfl
 ·obtain ⟨b,n,w,way,first,rfl,hB,n8,w0,w1,k⟩:=h
  refine ⟨_,(au (aV (i:=5) jU.nd rfl (Or.inl rfl) (dZ ai))
   (au (eR PassesOwn.never rfl (cv rfl T.range (aa (pv 1) ai)) (aP (i:=6) jU.nd)
    (au (aV (i:=7) jU.nd rfl (Or.inl rfl) (cE i8 hr T.iX (aa (pv 0) (aa (pv 1) (aa (pv 4) ai)))))
   (au (eR PassesOwn.never rfl (cv rfl T.range (aa (pv 1) ai)) (aP (i:=8) jU.nd)
    (jJ (fL (PW.pt (kG (bI hR (pv 2) aj (bL _)) (lY (bI xW (cE aQ hr T.aS (aa (pv 0) (aa aj ai))) aj (bL _))))) (aB (iH (cG (aa aj (aa aj ai))) (jA (pv 7) (pv 8) set_list))) cK)
   (jJ (fL (PW.pt (kG (bI hR (pv 2) aj (bL _)) (lY (bI rS (bq gh (pv 6) aj) (pv 1) (bL _))))) (aB (iH (cG (aa (fv o6 (by rfl) T.int PyProof.Rows.boot_int (aa (jY hR (pv 8) (bq gh (pv 6) aj) (bL _)) ai)) (aa aj ai))) (jA (pv 7) (pv 8) set_list))) cK)
   (jJ (fL (PW.pt (xS (PW.pt (kG (bI hR (pv 2) aj (bL _)) (kG (bI BI (pv 6) (pv 3) (bL _)) (lY (bI rS (pv 8) (pv 3) (bL _)))))) (rO (PW.pt (kG (bI hR (pv 2) aj (bL _)) (kG (bI rS (pv 6) (pv 3) (bL _)) (lY (bI BI (pv 8) (pv 3) (bL _))))))))) (aB (iH (cG (aa aj (aa aj ai))) (jA (pv 7) (pv 8) set_list))) cK)
   (aB (fL (bI hR (pv 2) aj (bL _)) (aB (iH (cG (aa (bq cy (aT bw (dZ (aa aj (aa aj (aa (tF nR aj) (aa aj ai))))) (bq oj (pv 3) aj)) (fv o6 (by rfl) T.int PyProof.Rows.boot_int (aa (jY hR (pv 6) (pv 8) (bL _)) ai))) (aa aj ai))) (jA (pv 7) (pv 8) set_list))) cK))))))
   (aB (jW (xU dA dY dX kL (pv 5) (aa (pv 7) ai)))))))
   (aB (bo (pv 5))))),?_⟩
  refine aW (σ:=[some (.ref b),some (.int n),some (.int way),some (.int first),some (.int w),none,none,none,none]) rfl ?_;have W1:1<=max w 6:=by lia
  exists de λr H1 s1 n1 g1=>?_
  have rb:r≠b:=λz=>hB.at (by rw[<- z];exact n1)
  obtain ⟨q0,I0,xs0,gq0⟩:=hB.inner;have I1:Inner H1 b q0:=(s1.upto (p:=b)).2 _ I0;obtain ⟨A,eA⟩:∃A:Addr->Prop,A=λq=>H q=none/\q≠r:=⟨_,rfl⟩
  have nb:¬A b:=by rw[eA];exact λz=>hB.at z.1
  have nr:¬A r:=by rw[eA];exact λz=>z.2 rfl
  have nq:¬A q0:=by rw[eA];exact λz=>by have z1:=z.1;rw[gq0] at z1;cases z1
  have rq:r≠q0:=λz=>by rw[<- z,n1] at gq0;cases gq0
  exists ⟨by lia,by lia,?_⟩;refine eh (n:=n) (λi σ' H'=>∃(x1 x2 x3:Option V) (us:List V),σ'=[some (.ref b),some (.int n),some (.int way),some (.int first),some (.int w),some (.ref r),x1,x2,x3]/\H' r=some (.lst us)/\us.length=i/\us.Nodup/\(∀x∈us,gV K A H' n (Dr (max w 6)) x)/\ig H' b/\Inner H' b q0/\cF b H H') ⟨none,none,none,[],rfl,g1,rfl,ky,(λ_ z=>nomatch z),hB.same s1,I1,s1.upto⟩ ?_ ?_
  ·rintro i σ' H' hi ⟨x1,x2,x3,us,rfl,gu,lu,nd,ru,B',I',u'⟩;exists ⟨b,n,w,rfl,B',by lia,w0,w1,λp xs Ha np Ra la da Ba ua=>?_⟩;have hp0:H p=none:=u'.none B' np
   have pn:V.ref p∉us:=λz=>by
    obtain ⟨q',_,_,e',_,g',_⟩:=(ru _ z).at;cases e';rw[np] at g';cases g'
   have ap':H p=none/\p≠r:=⟨hp0,λz=>by rw[z,gu] at np;cases np⟩;have ap:A p:=by rw[eA];exact ap'
   have X0:IJ K A n (Dr (max w 6)) r p b q0 us H Ha:=⟨ua.other rb gu,λx hx=>(ru x hx).upto ua B' nb,⟨p,xs,rfl,ap,Ra,la,da⟩,Ba,ua.2 _ I',u'.trans ua⟩;clear ru Ra gu;exists ⟨by lia,by lia,?_⟩;refine eh (n:=n) (λj σ' H'=>(∃x3,σ'=[some (.ref b),some (.int n),some (.int way),some (.int first),some (.int w),some (.ref r),some (.int i),some (.ref p),x3])/\IJ K A n (Dr (max w 6)) r p b q0 us H H') ⟨⟨_,rfl⟩,X0⟩ ?_ ?_
   ·rintro j σ' Hj hj ⟨⟨x3,rfl⟩,X⟩;exists ⟨λσ' H'=>σ'=[some (.ref b),some (.int n),some (.int way),some (.int first),some (.int w),some (.ref r),some (.int i),some (.ref p),some (.int j)]/\IJ K A n (Dr (max w 6)) r p b q0 us H H',?_,?_⟩
    ·exists jh (λ_=>?_) (λ_=>?_)
     ·exists ⟨b,3,rfl,X.bag,by decide,by decide,λd Hd d0 d1 Bd ud=>?_⟩;replace X:=X.upto ud Bd nb rb
      repeat' (first | walk_at "rd" | refine jh (λ_=>?_) (λ_=>?_))
      all_goals first
       | exact ⟨rfl,X⟩
       | (refine bV λt Hb sb gb=>?_;walk_at "w";obtain ⟨zs,gz,lz,Xz⟩:=(X.same sb).put ap nr nb nq hp0 (bS.mk (q:=0) gb rfl) (sE (i:=0) (b8 _) W1) j;refine ir gz (iN (by lia)) rfl ?_;exact ⟨rfl,Xz⟩)
     ·exists ⟨rfl,X⟩
    clear X;rintro σ' Hj ⟨rfl,X⟩;refine ⟨λσ' H'=>σ'=[some (.ref b),some (.int n),some (.int way),some (.int first),some (.int w),some (.ref r),some (.int i),some (.ref p),some (.int j)]/\IJ K A n (Dr (max w 6)) r p b q0 us H H',?_,?_⟩
    ·repeat' (first | walk_at "rd" | refine jh (λ_=>?_) (λ_=>?_))
     all_goals first
      | exact ⟨rfl,X⟩
      | (refine bV λt Hb sb gb=>?_;walk_at "w";obtain ⟨zs,gz,lz,Xz⟩:=(X.same sb).put ap nr nb nq hp0 (bS.mk (q:=((if decide ((j:Int)=(i:Int)+1)=true then (1:Int) else 0:Int):Rat)) gb rfl) (sE (by split <;> lia) W1) j;refine ir gz (iN (by lia)) rfl ?_;exact ⟨rfl,Xz⟩)
    clear X;rintro σ' Hj ⟨rfl,X⟩;refine ⟨λσ' H'=>σ'=[some (.ref b),some (.int n),some (.int way),some (.int first),some (.int w),some (.ref r),some (.int i),some (.ref p),some (.int j)]/\IJ K A n (Dr (max w 6)) r p b q0 us H H',?_,?_⟩
    ·repeat' (first | walk_at "rd" | refine jh (λ_=>?_) (λ_=>?_))
     all_goals first
      | exact ⟨rfl,X⟩
      | (refine bV λt Hb sb gb=>?_;walk_at "w";obtain ⟨zs,gz,lz,Xz⟩:=(X.same sb).put ap nr nb nq hp0 (bS.mk (q:=0) gb rfl) (sE (i:=0) (b8 _) W1) j;refine ir gz (iN (by lia)) rfl ?_;exact ⟨rfl,Xz⟩)
    clear X;rintro σ' Hj ⟨rfl,X⟩;exists jh (λ_=>?_) (λ_=>?_)
    ·exists de λl0 Hc sc nc gc=>?_
     walk_at "w";obtain ⟨x,ex,mx,_⟩:=kf (xs:=[V.int 2,V.int 1,V.int (-1),V.int 0]) (i:=first % 4) (mh _ (by decide)) (by have:=jx first (show (0:Int) < 4 by decide);simpa using this)
     obtain ⟨z,rfl,hz⟩:∃z:Int,x=.int z/\z.natAbs<=2:=by
      simp only[aH,aY,or_false] at mx;rcases mx with rfl | rfl | rfl | rfl
      ·exact ⟨2,rfl,by decide⟩
      ·exact ⟨1,rfl,by decide⟩
      ·exact ⟨-1,rfl,by decide⟩
      ·exact ⟨0,rfl,by decide⟩
     refine cp (bK.of gc) ex ?_;exists eZ (IG (by lia) (by lia)) ?_;exists bV λt Hb sb gb=>?_
     walk_at "w";obtain ⟨zs,gz,lz,Xz⟩:=((X.same sc).same sb).put ap nr nb nq hp0 (bS.mk (q:=((z*(if decide ((i:Int)=(j:Int))=true then (1:Int) else 0):Int):Rat)) gb rfl) (sE (by split <;> lia) W1) j;refine ir gz (iN (by lia)) rfl ?_;exact ⟨⟨_,rfl⟩,Xz⟩
    ·exists ⟨⟨_,rfl⟩,X⟩
   ·rintro σ' Hj ⟨⟨x3,rfl⟩,X⟩;exists ⟨.inl ⟨rfl,_,bK.of X.gr⟩,?_⟩;exists kF X.gr (bO (by lia)) ?_;refine ⟨_,_,_,us++[.ref p],rfl,aK,by simp [lu],pR nd pn,λx hx=>?_,X.bag.upd X.inn rb rq,X.inn.upd rb,X.up.after n1⟩;rcases av.mp hx with hx | hx
    ·exact (X.ru x hx).other X.gr nr
    ·have e:x=V.ref p:=by simpa using hx
     rw[e];exact X.rp.other X.gr nr
  ·rintro σ' H' ⟨x1,x2,x3,us,rfl,gu,lu,nd,ru,B',I',u'⟩;exists k r us H' n1 gu lu nd (by rw[eA] at ru;exact ru) B' u'
theorem eO:a7 ["_law_bag_here","_law_n","_law_ins","_law_outs","_law_wide","_law_way","_law_first","_law_move_here","_law_put","_law_look","_law_k","_law_row_here"] ["_law_bag_here","_law_n","_law_ins","_law_outs","_law_wide"] (aI pK):=by walk_at "d"
theorem A5 (T : Txt K mg Z) (ptree : P.given.tree = none) : cO P w K mg base iI 5 Z.wu Z.vT ["_law_bag_here", "_law_n", "_law_ins", "_law_outs", "_law_wide"] (BA K) := by
  have aQ := eQ (P := P) (w := w) (base := base) T ptree;have Fv := Dp (P := P) (w := w) (base := base) T ptree;have i8 := ni (P := P) (w := w) (base := base) T ptree;have qA := tH (P := P) (w := w) (base := base) T ptree;refine T.oA.F.ok eO (λvs H Q E h => ?_) (λcdv A outer s H vs Q E hr h => ?_)
  · obtain ⟨b, n, i, o, w, c, rfl, _⟩ := h;rfl
  · obtain ⟨b, n, i, o, w, c, rfl, hB, n8, i4, o4, w0, w1, hc, hc20, hcM, k⟩ := h
    refine ⟨_, (au (aV (i := 5) eO.nd rfl (Or.inl rfl) (cE aQ hr T.aS (aa (pv 0) (aa aj ai))))
      (au (aV (i := 6) eO.nd rfl (Or.inl rfl) (cE aQ hr T.aS (aa (pv 0) (aa (bq gh (pv 1) aj) ai))))
      (au (aV (i := 7) eO.nd rfl (Or.inl rfl) (cE Fv hr T.pX (aa (pv 0) (aa (pv 1) (aa (pv 5) (aa (pv 6) (aa (pv 4) ai)))))))
      (au (nh 8 ["_law_k"] ["_law_bag_here", "_law_n", "_law_wide"] [0, 1, 4] eO.nd rfl rfl (cv rfl T.range (aa (pv 2) ai)) (λ_ => (aP (i := 0) (show List.Nodup (α := PySem.Str) ["_law_k", "_law_bag_here", "_law_n", "_law_wide"] by decide +kernel))) (λ_ => cu) (λ_ => (cE i8 hr T.iX (aa (pv 1) (aa (pv 2) (aa (pv 3) ai))))))
      (au (nh 9 ["_law_k"] ["_law_bag_here", "_law_n", "_law_wide"] [0, 1, 4] eO.nd rfl rfl (cv rfl T.range (aa (pv 3) ai)) (λ_ => (aP (i := 0) (show List.Nodup (α := PySem.Str) ["_law_k", "_law_bag_here", "_law_n", "_law_wide"] by decide +kernel))) (λ_ => cu) (λ_ => (cE i8 hr T.iX (aa (pv 1) (aa (pv 2) (aa (pv 3) ai))))))
      (au (eR PassesOwn.never rfl (cv rfl T.range (aa (pv 1) ai)) (aP (i := 10) eO.nd)
        (au (eR PassesOwn.never rfl (cg (pv 8)) (aP (i := 11) eO.nd)
        (aB (fL (PW.pt (xS (PW.pt (kG (bI hR (pv 5) aj (bL _)) (lY (bI BI (pv 10) (pv 6) (bL _))))) (rO (PW.pt (kG (bI hR (pv 5) aj (bL _)) (kG (bI rS (bq gh (pv 10) aj) (pv 1) (bL _)) (lY (bI hR (cE aQ hr T.aS (aa (pv 0) (aa aj ai))) aj (bL _))))))))) (aB (iH (cG (aa aj (aa aj ai))) (jA (pv 11) (pv 10) set_list))) cK)))
      (aB (eR PassesOwn.never rfl (cg (pv 9)) (aP (i := 11) eO.nd)
        (aB (fL (PW.pt (xS (PW.pt (kG (bI hR (pv 5) aj (bL _)) (lY (bI BI (pv 10) (pv 6) (bL _))))) (rO (PW.pt (kG (bI hR (pv 5) aj (bL _)) (kG (bI xW (pv 10) aj (bL _)) (lY (bI hR (cE aQ hr T.aS (aa (pv 0) (aa aj ai))) aj (bL _))))))))) (aB (iH (cG (aa aj (aa aj ai))) (jA (pv 11) (pv 10) set_list))) cK))))))
      (aB (bo (cE qA hr T.kX (aa (pv 0) (aa (pv 7) (aa (pv 8) (aa (pv 9) ai))))))))))))), ?_⟩
    refine aW (σ := [some (.ref b), some (.int n), some (.int i), some (.int o), some (.int w), none, none, none, none, none, none, none]) rfl ?_;have W1 : 1 ≤ max w 6 := by lia
    obtain ⟨q0, I0, xs0, gq0⟩ := hB.inner;exists ⟨b, 6, rfl, hB, by decide, by decide, λway H1 a0 a1 B1 u1 => ?_⟩;exists ⟨b, _, rfl, B1, by lia, by lia, λfirst H2 f0 f1 B2 u2 => ?_⟩;have u02 := u1.trans u2;exists ⟨b, n, w, way, first, rfl, B2, n8, w0, w1, λm us H3 nm0 gm lm ndm rm B3 u3 => ?_⟩;have u03 := u02.trans u3;exists ⟨by lia, by lia, ?_⟩;refine BU (n := i) (b := b) (ia K H3) (λxs => xs.length = n /\ ∀ x ∈ xs, Dr (max w 6) x) B3 (by lia) (λa u B => a.upto u B B3.at) (λ⟨q, e, _, _, g, _⟩ => ⟨q, e, by rw [g]; exact λz => nomatch z⟩) ?_ ?_
    · rintro s H' NY NN hi u B k1;exists ⟨b, n, w, rfl, B, by lia, w0, w1, λr xs H2 nr R lx dx B2 u2 => k1 _ xs _ u2 B2 ⟨lx, dx⟩ ⟨r, rfl, u.none B nr, R⟩ ⟨r, rfl, nr⟩⟩
    rintro ws puts H4 p np u4 B4 gp lp ndp hp pr4 nx4;have u04 := u03.trans u4;exists ⟨by lia, by lia, ?_⟩;refine BU (n := o) (b := b) (ia K H4) (λxs => xs.length = n /\ ∀ x ∈ xs, Dr (max w 6) x) B4 (by lia) (λa u B => a.upto u B B4.at) (λ⟨q, e, _, _, g, _⟩ => ⟨q, e, by rw [g]; exact λz => nomatch z⟩) ?_ ?_
    · rintro s H' NY NN hi u B k1;exists ⟨b, n, w, rfl, B, by lia, w0, w1, λr xs H2 nr R lx dx B2 u2 => k1 _ xs _ u2 B2 ⟨lx, dx⟩ ⟨r, rfl, u.none B nr, R⟩ ⟨r, rfl, nr⟩⟩
    rintro vs looks H5 l nl u5 B5 gl ll ndl hl pr5 nx5;have u05 := u04.trans u5;have hm0 : H m = none := u02.none B2 nm0;have hp0 : H p = none := u03.none B3 np;have hl0 : H l = none := u04.none B4 nl;have mb : m ≠ b := λz => B2.at (by rw [<- z]; exact nm0)
    have pb : p ≠ b := λz => B3.at (by rw [<- z]; exact np)
    have lb : l ≠ b := λz => B4.at (by rw [<- z]; exact nl)
    have gm4 := u4.other mb gm;have gm5 := u5.other mb gm4;have gp5 := u5.other pb gp;have mp : m ≠ p := λz => by rw [z, np] at gm; cases gm
    have ml : m ≠ l := λz => by rw [z, nl] at gm4; cases gm4
    have pl : p ≠ l := λz => by rw [z, nl] at gp; cases gp
    have mq : m ≠ q0 := λz => Inner.at B2 (u02.2 _ I0) (by rw [<- z]; exact nm0)
    obtain ⟨A, eA⟩ : ∃ A : Addr → Prop, A = λq => H q = none /\ q ≠ m /\ q ≠ p /\ q ≠ l := ⟨_, rfl⟩
    have mkA : ∀ {q}, H q = none → q ≠ m → q ≠ p → q ≠ l → A q := λh1 h2 h3 h4 => by rw [eA]; exact ⟨h1, h2, h3, h4⟩
    have unA : ∀ {q}, A q → H q = none /\ q ≠ m /\ q ≠ p /\ q ≠ l := λh => by rw [eA] at h; exact h
    have MA : Fo A m p l b q0 := ⟨λz => (unA z).2.1 rfl, λz => (unA z).2.2.1 rfl, λz => (unA z).2.2.2 rfl, λz => hB.at (unA z).1, (λz => by have z1 := (unA z).1; rw [gq0] at z1; cases z1), mb, pb, lb, mp, ml, mq⟩;clear eA;have lws : ws.length = i := by rw [<- pr4.length]; exact lp
    have lvs : vs.length = o := by rw [<- pr5.length]; exact ll
    have alM : ∀ q, V.ref q ∈ us → H3 q ≠ none /\ q ≠ b /\ H4 q ≠ none := λq hq => by
      obtain ⟨q', qs, e, ⟨a1, a2⟩, r, z⟩ := rm _ hq;cases e;have qb : q ≠ b := λy => B2.at (by rw [<- y]; exact a1)
      obtain ⟨xq, gq, _⟩ := id r;obtain ⟨xq4, gq4, _⟩ := r.upto u4 B3 qb;exact ⟨(by rw [gq]; exact λz => nomatch z), qb, (by rw [gq4]; exact λz => nomatch z)⟩
    have alP : ∀ q, V.ref q ∈ ws → H3 q = none /\ H4 q ≠ none := λq hq => by
      obtain ⟨_, _, q', e, a, _, g, _⟩ := dj pr4 hq;cases e;exact ⟨a, by rw [g]; exact λz => nomatch z⟩
    have alL : ∀ q, V.ref q ∈ vs → H4 q = none := λq hq => by
      obtain ⟨_, _, q', e, a, _⟩ := dj pr5 hq;cases e;exact a
    have isR : ∀ x, x ∈ us \/ x ∈ ws \/ x ∈ vs → ∃ q, x = V.ref q := λx hx => by
      rcases hx with hx | hx | hx
      · obtain ⟨q, _, e, _⟩ := rm x hx; exact ⟨q, e⟩
      · obtain ⟨_, _, q, e, _⟩ := dj pr4 hx; exact ⟨q, e⟩
      · obtain ⟨_, _, q, e, _⟩ := dj pr5 hx; exact ⟨q, e⟩
    have nd : (us ++ vs ++ ws).Nodup := by
      refine dr.mpr ⟨dr.mpr ⟨ndm, ndl, λx hx y hy e => ?_⟩, ndp, λx hx y hy e => ?_⟩
      · subst e;obtain ⟨q, rfl⟩ := isR x (.inl hx);exact (alM q hx).2.2 (alL q hy)
      · subst e;obtain ⟨q, rfl⟩ := isR x (.inr (.inl hy));rcases av.mp hx with hx | hx
        · exact (alM q hx).1 (alP q hy).1
        · exact (alP q hy).2 (alL q hx)
    have X5 : GO K A n (Dr (max w 6)) m p l b q0 us ws vs H H5 := by
      refine ⟨⟨B5, u05.2 _ I0, gm5, gp5, gl, lm, λx hx => ?_, nd⟩, gp5, gl, λc u e n1 _ _ => u05.1 c u e n1⟩;rcases av.mp hx with hx | hx
      · rcases av.mp hx with hx | hx
        · obtain ⟨q, qs, e, ⟨a1, a2⟩, r, z⟩ := rm x hx;obtain ⟨xq, gq, _⟩ := id r;have qb : q ≠ b := λy => B2.at (by rw [<- y]; exact a1)
          have r4 := r.upto u4 B3 qb;obtain ⟨xq4, gq4, _⟩ := id r4;exact ⟨q, qs, e, mkA (u02.none B2 a1) a2 (λy => by rw [y, np] at gq; cases gq) (λy => by rw [y, nl] at gq4; cases gq4), r4.upto u5 B4 qb, z⟩
        · refine Kr (A := A) pr5 hl (λq hq a b' => ?_) x hx;exact mkA (u04.none B4 a) (λy => by rw [y, gm4] at a; cases a) (λy => by rw [y, gp] at a; cases a) (λy => vI nx5 (by rw [<- y]; exact hq))
      · refine gV.upto (Kr (A := A) pr4 hp (λq hq a b' => ?_) x hx) u5 B4 MA.ab;exact mkA (u03.none B3 a) (λy => by rw [y, gm] at a; cases a) (λy => vI nx4 (by rw [<- y]; exact hq)) (λy => b' (by rw [y]; exact nl))
    clear alM alP alL isR rm pr4 pr5 nx4 nx5 gm gm4 gm5 gp gp5 gl hp hl;exists ⟨by lia, by lia, ?_⟩;refine eh (n := n) (λkk σ' H' => (∃ x1 x2, σ' = [some (.ref b), some (.int n), some (.int i), some (.int o), some (.int w), some (.int way), some (.int first), some (.ref m), some (.ref p), some (.ref l), x1, x2]) /\ GO K A n (Dr (max w 6)) m p l b q0 us ws vs H H') ⟨⟨_, _, rfl⟩, X5⟩ ?_ ?_
    · rintro kk σ' Hj hk ⟨⟨x1, x2, rfl⟩, X⟩;exists ⟨⟨_, bK.of X.gp⟩, ?_⟩;refine i5 (K := K) (a := p) (xs := ws) (λs σ' H' => (∃ x2, σ' = [some (.ref b), some (.int n), some (.int i), some (.int o), some (.int w), some (.int way), some (.int first), some (.ref m), some (.ref p), some (.ref l), some (.int kk), x2]) /\ GO K A n (Dr (max w 6)) m p l b q0 us ws vs H H') ⟨⟨_, rfl⟩, X⟩ (λs σ' H' _ ⟨_, e⟩ => bK.of e.gp) ?_ ?_
      · rintro s x σ' Hk hx ⟨⟨y2, rfl⟩, X⟩;have mx := ao hx;obtain ⟨q, _, rfl, _⟩ := X.row (.inl mx)
        repeat' (first | walk_at "rd" | refine jh (λ_ => ?_) (λ_ => ?_))
        all_goals first
          | exact ⟨⟨_, rfl⟩, X⟩
          | (refine bV λt Hb sb gb => ?_; walk_at "w"; obtain ⟨zs, gz, lz, Xz⟩ := (X.same sb).put MA (.inl mx) (bS.mk (q := 0) gb rfl) (sE (i := 0) (b8 _) W1) kk; refine ir gz (iN (by lia)) rfl ?_; exact ⟨⟨_, rfl⟩, Xz⟩)
          | (refine ⟨b, 2, rfl, X.mix.bag, by decide, by decide, λd Hd d0 d1 Bd ud => ?_⟩
             replace X := X.upto MA ud Bd
             repeat' (first | walk_at "rd" | refine jh (λ_ => ?_) (λ_ => ?_))
             all_goals first
               | exact ⟨⟨_, rfl⟩, X⟩
               | (refine bV λt Hb sb gb => ?_
                  walk_at "w";obtain ⟨zs, gz, lz, Xz⟩ := (X.same sb).put MA (.inl mx) (bS.mk (q := 0) gb rfl) (sE (i := 0) (b8 _) W1) kk;refine ir gz (iN (by lia)) rfl ?_;exact ⟨⟨_, rfl⟩, Xz⟩))
      · rintro σ' Hk ⟨⟨y2, rfl⟩, X⟩;exists ⟨⟨_, bK.of X.gl⟩, ?_⟩;refine i5 (K := K) (a := l) (xs := vs) (λs σ' H' => (∃ x2, σ' = [some (.ref b), some (.int n), some (.int i), some (.int o), some (.int w), some (.int way), some (.int first), some (.ref m), some (.ref p), some (.ref l), some (.int kk), x2]) /\ GO K A n (Dr (max w 6)) m p l b q0 us ws vs H H') ⟨⟨_, rfl⟩, X⟩ (λs σ' H' _ ⟨_, e⟩ => bK.of e.gl) ?_ ?_
        · rintro s x σ' Hk hx ⟨⟨y2, rfl⟩, X⟩;have mx := ao hx;obtain ⟨q, _, rfl, _⟩ := X.row (.inr mx)
          repeat' (first | walk_at "rd" | refine jh (λ_ => ?_) (λ_ => ?_))
          all_goals first
            | exact ⟨⟨_, rfl⟩, X⟩
            | (refine bV λt Hb sb gb => ?_; walk_at "w"; obtain ⟨zs, gz, lz, Xz⟩ := (X.same sb).put MA (.inr mx) (bS.mk (q := 0) gb rfl) (sE (i := 0) (b8 _) W1) kk; refine ir gz (iN (by lia)) rfl ?_; exact ⟨⟨_, rfl⟩, Xz⟩)
            | (refine ⟨b, 2, rfl, X.mix.bag, by decide, by decide, λd Hd d0 d1 Bd ud => ?_⟩
               replace X := X.upto MA ud Bd
               repeat' (first | walk_at "rd" | refine jh (λ_ => ?_) (λ_ => ?_))
               all_goals first
                 | exact ⟨⟨_, rfl⟩, X⟩
                 | (refine bV λt Hb sb gb => ?_
                    walk_at "w";obtain ⟨zs, gz, lz, Xz⟩ := (X.same sb).put MA (.inr mx) (bS.mk (q := 0) gb rfl) (sE (i := 0) (b8 _) W1) kk;refine ir gz (iN (by lia)) rfl ?_;exact ⟨⟨_, rfl⟩, Xz⟩))
        · rintro σ' Hk ⟨⟨y2, rfl⟩, X⟩;exact ⟨⟨_, _, rfl⟩, X⟩
    · rintro σ' Hj ⟨⟨x1, x2, rfl⟩, X⟩
      obtain ⟨M1, M2, M3, V0, a1, a2, a3, V2, hcs, R1, R2, R3⟩ : ∃ M1 M2 M3 V0 : Nat, (0 < M1 /\ M1 ≤ 2 ^ 800) /\ (0 < M2 /\ M2 ≤ 2 ^ 800) /\ (0 < M3 /\ M3 ≤ 2 ^ 800) /\ V0 ≤ 2 ^ 20 /\ ((w ≤ 9 /\ M1 = 2520 /\ M2 = 2520 /\ M3 = 2520 /\ V0 = 9) \/ (9 < w /\ M1 ≤ 2 ^ (c * (n * n)) /\ M2 ≤ 2 ^ (c * (i * n)) /\ M3 ≤ 2 ^ (c * (o * n)) /\ V0 = 2 ^ c)) /\ (∀ x ∈ us, gV K A Hj n (Fr M1 V0) x) /\ (∀ x ∈ ws, gV K A Hj n (Fr M2 V0) x) /\ ∀ x ∈ vs, gV K A Hj n (Fr M3 V0) x := by
        by_cases w9 : w ≤ 9
        · have XM := X.mix.weak (C' := λ_ => Fr 2520 9) λ_ _ y h => Qy ⟨ak h.1 (by lia), ak h.2 (by lia)⟩ (Nat.dvd_refl _)
          have z : 0 < 2520 /\ 2520 ≤ 2 ^ 800 := ⟨by decide, ak (show 2520 ≤ 2 ^ 12 by decide) (aD (by decide) (by decide))⟩;exact ⟨2520, 2520, 2520, 9, z, z, z, by decide, .inl ⟨w9, rfl, rfl, rfl, rfl⟩, λx hx => XM.row x (by simp [hx]), λx hx => XM.row x (by simp [hx]), λx hx => XM.row x (by simp [hx])⟩
        · obtain ⟨M1, M2, M3, a1, a2, a3, b1, b2, b3, R1, R2, R3⟩ := (X.mix.weak (C' := λ_ => Dr (2 ^ c)) λ_ _ y h => ⟨ak h.1 hc, ak h.2 hc⟩).fr3;rw [lws] at b2;rw [lvs] at b3;have up : ∀ {M k : Nat}, M ≤ 2 ^ (c * k) → k ≤ (n + i + o) * n → M ≤ 2 ^ 800 := λh hk => ak h (aD (by decide) (ak (cU _ hk) hcM))
          exact ⟨M1, M2, M3, 2 ^ c, ⟨a1, up b1 (az _ (by lia))⟩, ⟨a2, up b2 (az _ (by lia))⟩, ⟨a3, up b3 (az _ (by lia))⟩, aD (by decide) hc20, .inr ⟨by lia, b1, b2, b3, rfl⟩, R1, R2, R3⟩
      obtain ⟨μ, e2, e3, e1, e4⟩ := K0 ws vs M1 M2 M3;obtain ⟨ap1, ap2⟩ := X.mix.apart
      have XM : kq K A Hj n (λx => Fr (μ x) V0) m p l b q0 us ws vs := by
        refine ⟨X.mix.bag, X.mix.inn, X.mix.gm, X.mix.gp, X.mix.gl, X.mix.lm, λx hx => ?_, X.mix.nd⟩;rcases av.mp hx with hx | hx
        · rcases av.mp hx with hx | hx
          · rw [e1 x (ap1 x hx).1 (ap1 x hx).2]; exact R1 x hx
          · rw [e3 x hx (ap2 x hx)]; exact R3 x hx
        · rw [e2 x hx]; exact R2 x hx
      have p1 : ∀ x, 0 < μ x := λx => by
        rcases e4 x with e | e | e
        · rw [e]; exact a1.1
        · rw [e]; exact a2.1
        · rw [e]; exact a3.1
      have p2 : ∀ x, μ x ≤ 2 ^ 800 := λx => by
        rcases e4 x with e | e | e
        · rw [e]; exact a1.2
        · rw [e]; exact a2.2
        · rw [e]; exact a3.2
      have gmj := X.mix.gm;exists ⟨b, m, p, l, q0, n, V0, μ, A, us, ws, vs, rfl, MA, XM, n8, by lia, by lia, p1, p2, ⟨M1, e1⟩, V2, λq hq => ?_, λr us' H' g Y kp => ?_⟩
      · refine mkA ?_ (λz => by rw [z, gmj] at hq; cases hq) (λz => by rw [z, X.gp] at hq; cases hq) (λz => by rw [z, X.gl] at hq; cases hq);cases e : H q with
        | none => rfl
        | some u =>
          have := X.kp q u e (λz => X.mix.bag.at (by rw [<- z]; exact hq)) (λz => by have := (unA z).1; rw [e] at this; cases this) (λz => by rw [z, hm0] at e; cases e);rw [hq] at this; cases this
      · obtain ⟨yp1, yp2⟩ := Y.apart;obtain ⟨mv, Gm, lmv, hmv⟩ := kP (H0 := H) (n := n) (C := Fr M1 (9 ^ 3 * V0)) (m := n) ⟨us', Y.gm, Y.lm, MA.am, λx hx => by have := Y.row x (by simp [hx]); rwa [e1 x (yp1 x hx).1 (yp1 x hx).2] at this⟩ λq h => (unA h).1
        obtain ⟨pt, Gp, lpt, hpt⟩ := kP (H0 := H) (n := n) (C := Fr M2 (9 ^ 3 * V0)) (m := i) ⟨ws, Y.gp, lws, MA.ap, λx hx => by have := Y.row x (by simp [hx]); rwa [e2 x hx] at this⟩ λq h => (unA h).1
        obtain ⟨lk, Gl, llk, hlk⟩ := kP (H0 := H) (n := n) (C := Fr M3 (9 ^ 3 * V0)) (m := o) ⟨vs, Y.gl, lvs, MA.al, λx hx => by have := Y.row x (by simp [hx]); rwa [e3 x hx (yp2 x hx)] at this⟩ λq h => (unA h).1
        refine k r mv pt lk H' ⟨m, p, l, g, hm0, hp0, hl0, Gm, Gp, Gl⟩ lmv lpt llk ⟨by lia, by lia, by lia, λxs hx => by rw [(hmv xs hx).1, lmv], λxs hx => by rw [(hpt xs hx).1, lmv], λxs hx => by rw [(hlk xs hx).1, lmv]⟩ ⟨M1, M2, M3, 9 ^ 3 * V0, a1.1, a2.1, a3.1, λxs hx => (hmv xs hx).2, λxs hx => (hpt xs hx).2, λxs hx => (hlk xs hx).2, ?_⟩ Y.bag ⟨λc' u e n1 => (X.kp.trans kp) c' u e n1 (λz => by have := (unA z).1; rw [e] at this; cases this) (λz => by rw [z, hm0] at e; cases e), λq h => by rw [<- Inner.inj I0 h]; exact Y.inn⟩;rcases hcs with ⟨b1, b2, b3, b4, b5⟩ | ⟨b1, b2, b3, b4, b5⟩
        · exact .inl ⟨b1, b2, b3, b4, by rw [b5]⟩
        · exact .inr ⟨b1, b2, b3, b4, by rw [b5]⟩
theorem iT:a7 ["_law_bag_here","_law_n","_law_ins","_law_outs","_law_wide"] ["_law_bag_here"] (aI nY):=by walk_at "d"
theorem zW (T:Txt K mg Z) (ptree:P.given.tree=none):cO P w K mg base iI 6 Z.tW Z.tM ["_law_bag_here"] (MD K):=by
 have DV:=A3 (P:=P) (w:=w) (base:=base) T ptree;have aQ:=eQ (P:=P) (w:=w) (base:=base) T ptree;have xM:=vC (P:=P) (w:=w) (base:=base) T ptree;have nK:=vE (P:=P) (w:=w) (base:=base) T ptree;have DX:=A5 (P:=P) (w:=w) (base:=base) T ptree;refine T.mJ.F.ok iT (λvs H Q E h=>?_) (λcdv A outer s H vs Q E hr h=>?_)
 ·obtain ⟨b,rfl,_⟩:=h;rfl
 ·obtain ⟨b,rfl,hB,k⟩:=h
  refine ⟨_,(au (iH (cE DV hr T.oy (aa (pv 0) ai)) (xi rfl (cQ (aP (i:=1) iT.nd) (cQ (aP (i:=2) iT.nd) (cQ (aP (i:=3) iT.nd) (cQ (aP (i:=4) iT.nd) jX))))))
   (au (fL (bI hR (cE aQ hr T.aS (aa (pv 0) (aa aj ai))) aj (bL _)) (au (fL (bI hR (cE aQ hr T.aS (aa (pv 0) (aa aj ai))) aj (bL _)) (aB (bo (cG (aa (cE xM hr T.j5 (aa (pv 0) ai)) (aa aj ai))))) cK)
   (aB (bo (cG (aa (cE nK hr T.j7 (aa (pv 0) (aa (bq gh aj (cE aQ hr T.aS (aa (pv 0) (aa aj ai)))) ai))) (aa aj ai)))))) cK)
   (aB (bo (cG (aa (cE DX hr T.oA (aa (pv 0) (aa (pv 1) (aa (pv 2) (aa (pv 3) (aa (pv 4) ai)))))) (aa (bG (o5 rfl) (by rfl) T.min PyProof.Rows.boot_min (aa (pv 4) (aa aj ai))) ai))))))),?_⟩
  refine aW (σ:=[some (.ref b),none,none,none,none]) rfl ?_;have sf:∀{mv pt lk:LR9} {M V1:Nat},0 < M->M<=2^400->V1<=2^30->GF M V1 mv->GF M V1 pt->GF M V1 lk->LQ mv pt lk:=λh0 h1 h2 a b c=>⟨_,_,h0,h1,ak h2 (aD (by decide) (by decide)),a,b,c⟩
  exists ⟨b,rfl,hB,λr n i o w H1 g1 n5 i4 o4 hw h5 B1 u1=>?_⟩;exists ⟨b,16,rfl,B1,by decide,by decide,λv H2 v0 v1 B2 u2=>?_⟩;have u02:=u1.trans u2;exists jh (λh0=>?_) (λh0=>?_)
  ·exists ⟨b,2,rfl,B2,by decide,by decide,λv2 H3 _ _ B3 u3=>?_⟩;have u03:=u02.trans u3;exists jh (λh1=>?_) (λh1=>?_)
   ·exists ⟨b,rfl,B3,λr4 mv pt lk H4 P4 l6 D fm fp fl B4 u4=>?_⟩;exists bV λt H5 s5 g5=>?_
    exact k t r4 4 0 13 mv pt lk H5 g5 ((P4.weak λq h=>u03.none B3 h).same s5) D (sf (by decide) uh (by decide) fm fp fl) (yY (n0:=8) (by decide) (by decide) D.n8 (by decide) fm fp (by decide)) (.inl ⟨by decide,by decide,by decide,by decide,by decide,fm,fp,ak (az _ (show mv.length+4<=12 by have:=D.n8;lia)) (by decide)⟩) (by decide) (by decide) (B4.same s5) ((u03.trans u4).same s5)
   ·exists ⟨b,3,rfl,B3,by decide,by decide,λv3 H4 v30 v31 B4 u4=>?_⟩;obtain ⟨v3,rfl⟩:=cD v30;have u04:=u03.trans u4;walk_at "w";rw[show ((6:Int)+(v3:Int))=((6+v3:Nat):Int) by lia];refine ⟨b,6+v3,rfl,B4,by lia,by lia,λr4 mv pt lk H5 P5 lm _ _ D fm fp fl B5 u5=>?_⟩;exists bV λt H6 s6 g6=>?_
    exact k t r4 4 0 4 mv pt lk H6 g6 ((P5.weak λq h=>u04.none B4 h).same s6) D (sf (by decide) uh (by decide) fm fp fl) (yY (n0:=8) (by decide) (by decide) D.n8 (by decide) fm fp (by decide)) (.inl ⟨by decide,by decide,by decide,by decide,by decide,(λxs hx x hx'=>(fm xs hx x hx').mono (by decide)),(λxs hx x hx'=>(fp xs hx x hx').mono (by decide)),ak (az _ (show mv.length+4<=12 by have:=D.n8;lia)) (by decide)⟩) (by decide) (by decide) (B5.same s6) ((u04.trans u5).same s6)
  ·obtain ⟨c,hc,hc20,hcM⟩:∃c:Nat,max w 6<=2^c/\c<=20/\c*((n+i+o)*n)<=800/\(9 < w->c=20/\(n+i+o)*n<=20/\n<=2):=by
    have m1:(n+i+o)*n<=13*5:=aL (by lia) n5;rcases hw with rfl | rfl | ⟨rfl,n2⟩
    ·exact ⟨4,by decide,by decide,by lia,λz=>by lia⟩
    ·exact ⟨4,by decide,by decide,by lia,λz=>by lia⟩
    ·have m2:(n+i+o)*n<=10*2:=aL (by lia) n2;exact ⟨20,by decide,by decide,by lia,λ_=>⟨rfl,by lia,n2⟩⟩
   obtain ⟨hcM,hbig⟩:=hcM;exists ⟨b,n,i,o,w,c,rfl,B2,by lia,i4,o4,by lia,by lia,hc,hc20,hcM,λr4 mv pt lk H4 P4 lm lp ll D PF B4 u4=>?_⟩;have hmin:(if (1000:Int) < (w:Int) then (1000:Int) else (w:Int))=((min w 1000:Nat):Int):=by split <;> lia
   have PG:=PF;obtain ⟨M,V1,M0,fm,fp,fl,hcs⟩:=PF.n
   obtain ⟨a',c',KF,SF⟩:∃a' c',QQ mv pt a' c'/\LQ mv pt lk:=by
    rcases hcs with ⟨w9,rfl,rfl⟩ | ⟨w9,M1,rfl⟩
    ·exact ⟨12,16,yY (n0:=5) (by decide) (by decide) (by lia) (by decide) fm fp (by decide),sf (by decide) (ak (show 2520<=2^12 by decide) (aD (by decide) (by decide))) (by decide) fm fp fl⟩
    ·obtain ⟨rfl,e1,e2⟩:=hbig w9;have M4:M<=2^400:=ak M1 (aD (by decide) (by lia));exact ⟨400,32,yY (n0:=2) M0 M4 (by lia) (by decide) fm fp (by decide),sf M0 M4 (by decide) fm fp fl⟩
   have RG:Rg mv pt (min w 1000):=by
    obtain ⟨M1,M2,M3,V1,a1,a2,a3,f1,f2,f3,hc'⟩:=PG;rcases hc' with ⟨w9,rfl,rfl,_,rfl⟩ | ⟨w9,b1,b2,_,rfl⟩
    ·exact .inr (.inl ⟨by lia,by lia,by decide,by decide,by decide,by decide,f1,f2,ak (az _ (show mv.length+4<=9 by lia)) (by decide)⟩)
    ·obtain ⟨rfl,e1,e2⟩:=hbig w9;have q1:n*n<=2*2:=aL e2 e2;have q2:i*n<=4*2:=aL i4 e2;have w6:w=1000000:=by lia
     exact .inr (.inr ⟨by lia,by lia,M1,M2,a1,a2,ak b1 (aD (by decide) (by lia)),ak b2 (aD (by decide) (by lia)),f1,f2,ak (az _ (show mv.length+4<=6 by lia)) (by decide)⟩)
   exists bV λt H5 s5 g5=>?_
   rw[hmin] at g5;exact k t r4 (min w 1000) a' c' mv pt lk H5 g5 ((P4.weak λq h=>u02.none B2 h).same s5) D SF KF RG (by lia) (by lia) (B4.same s5) ((u02.trans u4).same s5)
theorem CI:a7 ["thing","at","most"] ["thing","at","most"] (aI rg):=by walk_at "d"
theorem Dg (T:Txt K mg Z) (ptree:P.given.tree=none):cO P w K mg base iI 1 Z.yu Z.yc ["thing","at","most"] Hw:=by
 refine T.j3.F.ok CI (λvs H Q E h=>?_) (λcdv A outer s H vs Q E hr h=>?_)
 ·obtain ⟨p,xs,a,m,rfl,_⟩:=h;rfl
 ·obtain ⟨p,xs,a,m,rfl,gx,hm,k⟩:=h
  refine ⟨_,(au (fL (xc (xa (C6 rfl T.isinstance PyProof.Rows.boot_list T.list (pv 0)))) (aB KD) cK)
   (aB (fL (bI xW (bG bx (by rfl) T.len bg (aa (pv 0) ai)) (pv 2) (bL _)) (aB KD) cK))),?_⟩
  refine aW (σ:=[some (.ref p),some (.int a),some (.int m)]) rfl ?_;exists ⟨_,_,.lst gx,rfl,?_⟩;exists ⟨_,_,rfl,.inl (bK.of gx),?_⟩;walk_at "w";rw[decide_eq_false (show ¬m < (xs.length:Int) by lia)];exists k
theorem EC:a7 ["thing"] ["thing"] (aI uw):=by walk_at "d"
theorem EN (T:Txt K mg Z) (ptree:P.given.tree=none):cO P w K mg base iI 1 Z.AG Z.Am ["thing"] IZ:=by
 refine T.nB.F.ok EC (λvs H Q E h=>?_) (λcdv A outer s H vs Q E hr h=>?_)
 ·obtain ⟨i,rfl,_⟩:=h;rfl
 ·obtain ⟨i,rfl,k⟩:=h;refine ⟨_,(aB (bo (F6 (C6 rfl T.isinstance PyProof.Rows.boot_int T.int (pv 0)) (F5 (Qa (C6 rfl T.isinstance PyProof.Rows.boot_bool T.bool (pv 0))))))),?_⟩;refine aW (σ:=[some (.int i)]) rfl ?_;exists ⟨_,_,.int i,rfl,?_⟩;exists ⟨_,_,.int i,rfl,?_⟩;exists k
theorem iL:a7 ["one","other","rest"] ["one","other"] (aI kB):=by walk_at "d"
theorem iM (T:Txt K mg Z) (ptree:P.given.tree=none):cO P w K mg base iI 1 Z.pe Z.oY ["one","other"] RH:=by
 refine T.fz.F.ok iL (λvs H Q E h=>?_) (λcdv A outer s H vs Q E hr h=>?_)
 ·obtain ⟨a,b,rfl,_⟩:=h;rfl
 ·obtain ⟨a,b,rfl,k⟩:=h
  refine ⟨_,(au (zL PassesOwn.never (bI Ia (pv 1) aj (bL _))
    (au (aV (i:=2) iL.nd rfl (Or.inl rfl) (bq Nk (pv 0) (pv 1)))
   (au (aV (i:=0) iL.nd rfl (Or.inl rfl) (pv 1))
   (aB (aV (i:=1) iL.nd rfl (Or.inl rfl) (pv 2))))))
   (aB (bo (bG vX (by rfl) T.abs PyProof.Rows.boot_abs (aa (pv 0) ai))))),?_⟩
  refine aW (σ:=[some (.int a),some (.int b),none]) rfl ?_;exists Cs (λσ' H'=>∃(u v:Int) (r:Option V),σ'=[some (.int u),some (.int v),r]/\H'=H/\Int.gcd u v=Int.gcd a b) (λσ' _=>match σ' with | [_,some (.int v),_]=>v.natAbs | _=>0) ⟨a,b,none,rfl,rfl,rfl⟩ ?_;rintro σ' H' ⟨u,v,r,rfl,rfl,hg⟩;exists jh (λh=>?_) (λh=>?_)
  ·have hv:v≠0:=λz=>by subst z;simp at h
   exists eZ (show v≠0 from hv) ?_;exists ⟨⟨v,u.fmod v,_,rfl,rfl,(Lk u v).trans hg⟩,ND u v hv⟩
  ·have hv:v=0:=by
    by_cases z:v=0
    ·exact z
    ·exfalso;apply h;simp [z]
   subst hv;walk_at "w"
   have e:(if u < 0 then -u else u)=g a b:=by
    unfold g;rw[<- hg,Int.gcd_zero_right]
    split <;> lia
   rw[e];exact k
theorem CK:a7 ["thing"] ["thing"] (aI rz):=by walk_at "d"
theorem Dk (T:Txt K mg Z) (ptree:P.given.tree=none):cO P w K mg base iI 2 Z.yy Z.yg ["thing"] (Jc K):=by
 have AQ:=EN (P:=P) (w:=w) (base:=base) T ptree;have eo:=iM (P:=P) (w:=w) (base:=base) T ptree;refine T.pU.F.ok CK (λvs H Q E h=>?_) (λcdv A outer s H vs Q E hr h=>?_)
 ·obtain ⟨x,n,rfl,_⟩:=h;rfl
 ·obtain ⟨x,n,rfl,⟨p,rfl,hp⟩,hn,k⟩:=h
  refine ⟨_,(au (fL (PW.pt (xS (xc (xa (Ni rfl T.isinstance PyProof.Rows.boot_tuple T.tuple (pv 0)))) (rO (bI Ia (bG bx (by rfl) T.len bg (aa (pv 0) ai)) aj (bL _))))) (aB (bo HZ)) cK)
   (au (fL (PW.pt (xS (xc (xa (cE AQ hr T.nB (aa (aT bJ (pv 0) aj) ai)))) (rO (xc (xa (cE AQ hr T.nB (aa (aT bJ (pv 0) aj) ai))))))) (aB (bo HZ)) cK)
   (aB (bo (F6 (jY BI (aT bJ (pv 0) aj) aj (bL _)) (F5 (jY hR (cE eo hr T.fz (aa (aT bJ (pv 0) aj) (aa (aT bJ (pv 0) aj) ai))) aj (bL _)))))))),?_⟩
  refine aW (σ:=[some (.ref p)]) rfl ?_;obtain ⟨hb,hg,s1,s2⟩:=hn;exists .inr ⟨p,_,_,rfl,hp,rfl,?_⟩;exists ⟨_,_,rfl,.inr hp,?_⟩;walk_at "w"
  try refine Ql ?_
  exists ⟨n.1,rfl,?_⟩;exists ⟨n.2,rfl,?_⟩;walk_at "w";rw[decide_eq_true (show (1:Int)<=n.2 by lia)];exists ⟨n.1,n.2,rfl,?_⟩;walk_at "w";have e:g n.1 n.2=1:=by unfold g;rw[hg];rfl
  rw[e,decide_eq_true rfl];exact k _ (aG.refl _)
theorem Je:a7 ["thing","many"] ["thing","many"] (aI zD):=by walk_at "d"
theorem Jl (T:Txt K mg Z) (ptree:P.given.tree=none):cO P w K mg base iI 3 Z.Fk Z.E8 ["thing","many"] (BE K):=by
 have Ft:=Dk (P:=P) (w:=w) (base:=base) T ptree;refine T.xk.F.ok Je (λvs H Q E h=>?_) (λcdv A outer s H vs Q E hr h=>?_)
 ·obtain ⟨p,ns,rfl,_⟩:=h;rfl
 ·obtain ⟨p,ns,rfl,hp,hl,hn,k⟩:=h
  refine ⟨_,(au (fL (PW.pt (xS (xc (xa (C6 rfl T.isinstance PyProof.Rows.boot_list T.list (pv 0)))) (rO (bI Ia (bG bx (by rfl) T.len bg (aa (pv 0) ai)) (pv 1) (bL _))))) (aB (bo HZ)) cK)
   (aB (bo (bG (LJ rfl) (by rfl) T.all PyProof.Rows.boot_all (aa (cb ["value"] [] [] (cg (pv 0)) (λ_=>(aP (i:=0) (show ND9 ["value"] by decide +kernel))) (λ_=>cu) (λ_=>(cE Ft hr T.pU (aa (pv 0) ai)))) ai))))),?_⟩
  refine aW (σ:=[some (.ref p),some (.int ns.length)]) rfl ?_;obtain ⟨xs,gx,qx⟩:=id hp;have lx:=qx.length;exists ⟨_,_,.lst gx,rfl,?_⟩;exists ⟨_,_,rfl,.inl (bK.of gx),?_⟩;walk_at "w";rw[show ((xs.length:Nat):Int)=(ns.length:Nat) by rw[lx],decide_eq_true rfl];exists ⟨⟨_,bK.of gx⟩,?_⟩;refine iG (K:=K) (xs:=xs) (λi ys H'=>aG H H'/\ys=List.replicate i (.bl true)) (aO (bO (by lia))) ⟨aG.refl _,rfl⟩ (λi ys H' _ ⟨s,_⟩=>bK.of (s _ _ gx)) ?_ ?_
  ·rintro i x ys H' hx hlen ⟨s,rfl⟩;obtain ⟨n,en,z⟩:=cH qx hx;exists ⟨x,n,rfl,s.num z,hn n (ao en),λH2 s2=>⟨s.trans s2,by rw[List.replicate_succ']⟩⟩
  ·rintro ys H' hy ⟨s,rfl⟩ l hl';exists ⟨l,List.replicate xs.length true,rfl,bK.of (by rw[aK];simp),?_⟩;have e4:(List.replicate xs.length true).all id=true:=by simp
   rw[e4];exact k _ (s.trans (aG.new hl'))
theorem mD:a7 ["things","wide","place","thing"] ["things","wide"] (aI nX):=by walk_at "d"
theorem zV (T:Txt K mg Z) (ptree:P.given.tree=none):cO P w K mg base iI 4 Z.tV Z.tL ["things","wide"] (HN K):=by
 have LU:=Jl (P:=P) (w:=w) (base:=base) T ptree;refine T.iW.F.ok mD (λvs H Q E h=>?_) (λcdv A outer s H vs Q E hr h=>?_)
 ·obtain ⟨p,H0,rows,w,rfl,_⟩:=h;rfl
 ·obtain ⟨p,H0,rows,w,rfl,hp,hl,hw,hn,k⟩:=h
  refine ⟨_,(au (eR PassesOwn.never rfl (C5 rfl T.enumerate (aa (pv 0) ai)) (xi rfl (cQ (aP (i:=2) mD.nd) (cQ (aP (i:=3) mD.nd) jX)))
    (aB (fL (xc (xa (cE LU hr T.xk (aa (pv 3) (aa (pv 1) ai))))) (aB KD) cK)))
   (aB (bo (cb ["row"] [] [] (cg (pv 0)) (λ_=>(aP (i:=0) (show ND9 ["row"] by decide +kernel))) (λ_=>cu) (λ_=>(fv (tS K (by rfl)) (by rfl) T.list PyProof.Rows.boot_list (aa (pv 0) ai))))))),?_⟩
  refine aW (σ:=[some (.ref p),some (.int w),none,none]) rfl ?_;obtain ⟨xs,gx,qx,_⟩:=id hp;exists ⟨⟨_,bK.of gx⟩,?_⟩;refine E2 (K:=K) (l:=p) (xs:=xs) (λi σ' H'=>aG H H'/\∃x y,σ'=[some (.ref p),some (.int w),x,y]) ⟨aG.refl _,none,none,rfl⟩ (λi σ' H' _ ⟨s,_⟩=>bK.of (s _ _ gx)) ?_ ?_
  ·rintro i x σ' H' t hx ⟨s,x1,y1,rfl⟩ ht;obtain ⟨qs,eq,q,rfl,_,Rq⟩:=cH qx hx;have hm:=ao eq;have st:aG H' (upd H' t (.tup [.int i,.ref q])):=aG.new ht;have gt:(upd H' t (.tup [.int i,.ref q])) t=some (.tup [.int i,.ref q]):=aK;have s2:=s.trans st;generalize upd H' t (.tup [.int i,.ref q])=H2 at st gt s2 ⊢;have lq:(qs.map nm).length=w:=by rw[ag];exact (hn qs hm).1
   exists ⟨q,_,by rw[lq],(Rq.same s2).rowK,by rw[lq];exact hw,λn hn'=>?_,λH3 s3=>?_⟩
   ·obtain ⟨y,hy,rfl⟩:=aw.mp hn';exact (hn qs hm).2 y hy
   exists ⟨s2.trans s3,_,_,rfl⟩
  ·rintro σ' H' ⟨s,x1,y1,rfl⟩;exists ⟨⟨_,bK.of (s _ _ gx)⟩,?_⟩;refine c6 (K:=K) (F:=ia K H0) (ia K H) id (s _ _ gx) (Paired.imp' (λ_ _ z=>z.same s) qx) hl (λa b=>a.same b) (λa b=>a.same b) ?_ ?_
   ·rintro i ns x H2 NY NN en s2 ⟨u,rfl,_,zs,gz,qz⟩ k1;exists ⟨u,zs,rfl,.inl (bK.of gz),λl1 hl1=>?_⟩;exact k1 _ _ (aG.new hl1) ⟨l1,rfl,s.none (s2.none hl1),zs,aK,Paired.imp' (λ_ _ z=>z.same (aG.new hl1)) qz⟩
   ·rintro ys' H2 r hr s2 g pr nx;rw[Ma] at pr nx;exact k r H2 (s.none hr) (s.trans s2) ⟨ys',g,pr,vI nx⟩
theorem uo:a7 ["self","move","put","look"] ["self","move","put","look"] (aI fh):=by walk_at "d"
theorem uI (T:Txt K mg Z) (ptree:P.given.tree=none):cO P w K mg base iI 5 Z.kg Z.j8 ["self","move","put","look"] (HI K Z.a_System):=by
 have sO:=Dg (P:=P) (w:=w) (base:=base) T ptree;have oM:=zV (P:=P) (w:=w) (base:=base) T ptree;refine T.nL.ok uo (λvs H Q E h=>?_) (λcdv A outer s H vs Q E hr h=>?_)
 ·obtain ⟨x,dx,p,q,r,Hb,H0,H1,H2,mv,pt,lk,rfl,_⟩:=h;rfl
 ·obtain ⟨x,dx,p,q,r,Hb,H0,H1,H2,mv,pt,lk,rfl,nx,ndx,nex,rfl,gp,gq,gr,D,om,op,ol,k⟩:=h
  refine ⟨_,(au (jW (cE sO hr T.j3 (aa (pv 1) (aa aj (aa (Dc (v:=.int 8) rfl T.mg_MOST_STATES ⟨_,rfl⟩) ai)))))
   (au (mG (pv 0) (cE oM hr T.iW (aa (pv 1) (aa (bG bx (by rfl) T.len bg (aa (pv 1) ai)) ai))) rfl)
   (au (mG (pv 0) (bG bx (by rfl) T.len bg (aa (eS (pv 0) rfl) ai)) rfl)
   (au (jW (cE sO hr T.j3 (aa (pv 2) (aa aj (aa (Dc (v:=.int 4) rfl T.mg_MOST_PUTS ⟨_,rfl⟩) ai)))))
   (au (mG (pv 0) (cE oM hr T.iW (aa (pv 2) (aa (eS (pv 0) rfl) ai))) rfl)
   (au (mG (pv 0) (bG bx (by rfl) T.len bg (aa (eS (pv 0) rfl) ai)) rfl)
   (au (jW (cE sO hr T.j3 (aa (pv 3) (aa aj (aa (Dc (v:=.int 4) rfl T.mg_MOST_LOOKS ⟨_,rfl⟩) ai)))))
   (au (mG (pv 0) (cE oM hr T.iW (aa (pv 3) (aa (eS (pv 0) rfl) ai))) rfl)
   (aB (mG (pv 0) (bG bx (by rfl) T.len bg (aa (eS (pv 0) rfl) ai)) rfl)))))))))),?_⟩
  refine aW (σ:=[some (.ref x),some (.ref p),some (.ref q),some (.ref r)]) rfl ?_
  have s0:aG Hb (upd (upd Hb dx (.own x)) x (.ins Z.a_System dx [])):=λb o e=>by
   rw[aZ (fJ e nx),aZ (fJ e ndx)];exact e
  have hx:(upd (upd Hb dx (.own x)) x (.ins Z.a_System dx [])) x=some (.ins Z.a_System dx []):=aK;have back:∀{b},(upd (upd Hb dx (.own x)) x (.ins Z.a_System dx [])) b=none->Hb b=none:=λh=>s0.none h
  generalize upd (upd Hb dx (.own x)) x (.ins Z.a_System dx [])=Ha at s0 hx back ⊢;obtain ⟨xs,gx,qx,_⟩:=id gp;obtain ⟨ys,gy,qy,_⟩:=id gq;obtain ⟨zs,gz,qz,_⟩:=id gr;have lx:=qx.length;have ly:=qy.length;have lz:=qz.length;have d1:=D.n8;have d2:=D.i4;have d3:=D.o4;exists ⟨p,xs,0,8,rfl,s0 _ _ gx,by lia,?_⟩;exists ⟨_,_,rfl,.inl (bK.of (s0 _ _ gx)),?_⟩;exists ⟨p,H0,mv,mv.length,by rw[lx],gp.same s0,by lia,by lia,λws hw=>⟨D.mw ws hw,om ws hw⟩,λa H3 na s3 Ga=>?_⟩;have hx3:=s3 _ _ hx;exists ⟨x,Z.a_System,dx,_,rfl,hx3,T.cl_System,T.na_move,(by show 0 < 1000;decide),?_⟩;have e3:D5 x H3 (upd H3 x (.ins Z.a_System dx (a8 "move" (.ref a) []))):=D5.upd;have i3:uf H3 x:=⟨_,_,_,hx3⟩;have hx4:(upd H3 x (.ins Z.a_System dx (a8 "move" (.ref a) []))) x=some (.ins Z.a_System dx (a8 "move" (.ref a) [])):=aK;have Ga4:=Ga.exc e3 i3;have k4:aG Hb (upd H3 x (.ins Z.a_System dx (a8 "move" (.ref a) []))):=(s0.trans s3).after nx;generalize upd H3 x (.ins Z.a_System dx (a8 "move" (.ref a) []))=H4 at e3 hx4 Ga4 k4 ⊢;exists ⟨x,Z.a_System,dx,_,_,rfl,hx4,T.cl_System,T.na_move,(by rw[aN,if_pos rfl]),?_⟩;obtain ⟨as,ga,qa,_⟩:=id Ga4;have la:=qa.length;exists ⟨_,_,rfl,.inl (bK.of ga),?_⟩;exists ⟨x,Z.a_System,dx,_,rfl,hx4,T.cl_System,T.na_states,bD dH (by show 1 < 1000;decide),?_⟩;rw[show ((as.length:Nat):Int)=((mv.length:Nat):Int) by rw[la]];have e4:D5 x H4 (upd H4 x (.ins Z.a_System dx (a8 "states" (.int mv.length) (a8 "move" (.ref a) [])))):=D5.upd;have i4:uf H4 x:=⟨_,_,_,hx4⟩;have hx5:(upd H4 x (.ins Z.a_System dx (a8 "states" (.int mv.length) (a8 "move" (.ref a) [])))) x=some (.ins Z.a_System dx (a8 "states" (.int mv.length) (a8 "move" (.ref a) []))):=aK;have Ga5:=Ga4.exc e4 i4;have k5:aG Hb (upd H4 x (.ins Z.a_System dx (a8 "states" (.int mv.length) (a8 "move" (.ref a) [])))):=k4.after nx;generalize upd H4 x (.ins Z.a_System dx (a8 "states" (.int mv.length) (a8 "move" (.ref a) [])))=H5 at e4 hx5 Ga5 k5 ⊢;clear e3 e4 i3 i4 hx4 Ga4 ga qa;exists ⟨q,ys,1,4,rfl,k5 _ _ gy,by lia,?_⟩;exists ⟨x,Z.a_System,dx,_,_,rfl,hx5,T.cl_System,T.na_states,(by rw[aN,if_pos rfl]),?_⟩;exists ⟨q,H1,pt,mv.length,rfl,gq.same k5,by lia,by lia,λws hw=>⟨D.pw ws hw,op ws hw⟩,λb H6 nb s6 Gb=>?_⟩;have hx6:=s6 _ _ hx5;have i6:uf H6 x:=⟨_,_,_,hx6⟩;exists ⟨x,Z.a_System,dx,_,rfl,hx6,T.cl_System,T.na_put,bD dH (bD (eG dH) (by show 2 < 1000;decide)),?_⟩;have e6:D5 x H6 (upd H6 x (.ins Z.a_System dx (a8 "put" (.ref b) (a8 "states" (.int mv.length) (a8 "move" (.ref a) []))))):=D5.upd;have hx7:(upd H6 x (.ins Z.a_System dx (a8 "put" (.ref b) (a8 "states" (.int mv.length) (a8 "move" (.ref a) []))))) x=some (.ins Z.a_System dx (a8 "put" (.ref b) (a8 "states" (.int mv.length) (a8 "move" (.ref a) [])))):=aK;have Ga7:=(Ga5.same s6).exc e6 i6;have Gb7:=(Gb.weak k5).exc e6 i6;have k7:aG Hb (upd H6 x (.ins Z.a_System dx (a8 "put" (.ref b) (a8 "states" (.int mv.length) (a8 "move" (.ref a) []))))):=(k5.trans s6).after nx;generalize upd H6 x (.ins Z.a_System dx (a8 "put" (.ref b) (a8 "states" (.int mv.length) (a8 "move" (.ref a) []))))=H7 at e6 hx7 Ga7 Gb7 k7 ⊢;obtain ⟨bs,gb,qb,_⟩:=id Gb7;have lb:=qb.length;exists ⟨x,Z.a_System,dx,_,_,rfl,hx7,T.cl_System,T.na_put,(by rw[aN,if_pos rfl]),?_⟩;exists ⟨_,_,rfl,.inl (bK.of gb),?_⟩;exists ⟨x,Z.a_System,dx,_,rfl,hx7,T.cl_System,T.na_ins,bD dH (bD (eG (ak dH (eG dH))) (by show 3 < 1000;decide)),?_⟩;rw[show ((bs.length:Nat):Int)=((pt.length:Nat):Int) by rw[lb]];have i7:uf H7 x:=⟨_,_,_,hx7⟩;have e7:D5 x H7 (upd H7 x (.ins Z.a_System dx (a8 "ins" (.int pt.length) (a8 "put" (.ref b) (a8 "states" (.int mv.length) (a8 "move" (.ref a) [])))))):=D5.upd;have hx8:(upd H7 x (.ins Z.a_System dx (a8 "ins" (.int pt.length) (a8 "put" (.ref b) (a8 "states" (.int mv.length) (a8 "move" (.ref a) [])))))) x=some (.ins Z.a_System dx (a8 "ins" (.int pt.length) (a8 "put" (.ref b) (a8 "states" (.int mv.length) (a8 "move" (.ref a) []))))):=aK;have Ga8:=Ga7.exc e7 i7;have Gb8:=Gb7.exc e7 i7;have k8:aG Hb (upd H7 x (.ins Z.a_System dx (a8 "ins" (.int pt.length) (a8 "put" (.ref b) (a8 "states" (.int mv.length) (a8 "move" (.ref a) [])))))):=k7.after nx;generalize upd H7 x (.ins Z.a_System dx (a8 "ins" (.int pt.length) (a8 "put" (.ref b) (a8 "states" (.int mv.length) (a8 "move" (.ref a) [])))))=H8 at e7 hx8 Ga8 Gb8 k8 ⊢;clear e6 e7 i6 i7 hx7 Ga7 Gb7 gb qb;exists ⟨r,zs,2,4,rfl,k8 _ _ gz,by lia,?_⟩;exists ⟨x,Z.a_System,dx,_,_,rfl,hx8,T.cl_System,T.na_states,(by rw[aN,if_neg (by decide +kernel),aN,if_neg (by decide +kernel),aN,if_pos rfl]),?_⟩;exists ⟨r,H2,lk,mv.length,rfl,gr.same k8,by lia,by lia,λws hw=>⟨D.lw ws hw,ol ws hw⟩,λc H9 nc s9 Gc=>?_⟩;have hx9:=s9 _ _ hx8;have i9:uf H9 x:=⟨_,_,_,hx9⟩;exists ⟨x,Z.a_System,dx,_,rfl,hx9,T.cl_System,T.na_look,bD dH (bD (eG (ak dH (eG (ak dH (eG dH))))) (by show 4 < 1000;decide)),?_⟩;have e9:D5 x H9 (upd H9 x (.ins Z.a_System dx (a8 "look" (.ref c) (a8 "ins" (.int pt.length) (a8 "put" (.ref b) (a8 "states" (.int mv.length) (a8 "move" (.ref a) []))))))):=D5.upd;have hxA:(upd H9 x (.ins Z.a_System dx (a8 "look" (.ref c) (a8 "ins" (.int pt.length) (a8 "put" (.ref b) (a8 "states" (.int mv.length) (a8 "move" (.ref a) []))))))) x=some (.ins Z.a_System dx (a8 "look" (.ref c) (a8 "ins" (.int pt.length) (a8 "put" (.ref b) (a8 "states" (.int mv.length) (a8 "move" (.ref a) [])))))):=aK;have GaA:=(Ga8.same s9).exc e9 i9;have GbA:=(Gb8.same s9).exc e9 i9;have GcA:=(Gc.weak k8).exc e9 i9;have kA:aG Hb (upd H9 x (.ins Z.a_System dx (a8 "look" (.ref c) (a8 "ins" (.int pt.length) (a8 "put" (.ref b) (a8 "states" (.int mv.length) (a8 "move" (.ref a) []))))))):=(k8.trans s9).after nx;generalize upd H9 x (.ins Z.a_System dx (a8 "look" (.ref c) (a8 "ins" (.int pt.length) (a8 "put" (.ref b) (a8 "states" (.int mv.length) (a8 "move" (.ref a) []))))))=HA at e9 hxA GaA GbA GcA kA ⊢;obtain ⟨cs,gc,qc,_⟩:=id GcA;have lc:=qc.length;exists ⟨x,Z.a_System,dx,_,_,rfl,hxA,T.cl_System,T.na_look,(by rw[aN,if_pos rfl]),?_⟩;exists ⟨_,_,rfl,.inl (bK.of gc),?_⟩;exists ⟨x,Z.a_System,dx,_,rfl,hxA,T.cl_System,T.na_outs,bD dH (bD (eG (ak dH (eG (ak dH (eG (ak dH (eG dH))))))) (by show 5 < 1000;decide)),?_⟩;rw[show ((cs.length:Nat):Int)=((lk.length:Nat):Int) by rw[lc]];have iA:uf HA x:=⟨_,_,_,hxA⟩;exact k _ (kA.after nx) ⟨dx,a,b,c,aK,back na,k5.none nb,k8.none nc,(GaA.exc D5.upd iA).weak s0,GbA.exc D5.upd iA,GcA.exc D5.upd iA⟩
theorem zy:a7 ["_law_grid"] ["_law_grid"] (aI oh):=by walk_at "d"
theorem z5 (T:Txt K mg Z) (ptree:P.given.tree=none):cO P w K mg base iI 1 Z.t9 Z.tQ ["_law_grid"] (zv K):=by
 refine T.iY.F.ok zy (λvs H Q E h=>?_) (λcdv A outer s H vs Q E hr h=>?_)
 ·obtain ⟨p,H0,rows,rfl,_⟩:=h;rfl
 ·obtain ⟨p,H0,rows,rfl,hp,hl,hm,k⟩:=h;refine ⟨_,(aB (bo (cb ["_law_row_here"] [] [] (cg (pv 0)) (λ_=>(aP (i:=0) (show ND9 ["_law_row_here"] by decide +kernel))) (λ_=>cu) (λ_=>(fv (tS K (by rfl)) (by rfl) T.list PyProof.Rows.boot_list (aa (pv 0) ai)))))),?_⟩;refine aW (σ:=[some (.ref p)]) rfl ?_;obtain ⟨xs,gx,qx,_⟩:=id hp;exists ⟨⟨_,bK.of gx⟩,?_⟩;refine c6 (K:=K) (F:=ia K H0) (ia K H) id gx qx hl (λa b=>a.same b) (λa b=>a.same b) ?_ ?_
  ·rintro i ns x H' NY NN en s ⟨u,rfl,_,zs,gz,qz⟩ k1;exists ⟨u,zs,rfl,.inl (bK.of gz),λl1 hl1=>?_⟩;exact k1 _ _ (aG.new hl1) ⟨l1,rfl,s.none hl1,zs,aK,Paired.imp' (λ_ _ z=>z.same (aG.new hl1)) qz⟩
  ·rintro ys' H' r hr s g pr nx;rw[Ma] at pr nx;exact k r H' hr s ⟨ys',g,pr,vI nx⟩
theorem CS:a7 ["_law_parts_here"] ["_law_parts_here"] (aI rJ):=by walk_at "d"
theorem Dq (T:Txt K mg Z) (ptree:P.given.tree=none):cO P w K mg base iI 7 Z.yF Z.yn ["_law_parts_here"] (zl K Z.a_System):=by
 have wC:=uI (P:=P) (w:=w) (base:=base) T ptree;have oN:=z5 (P:=P) (w:=w) (base:=base) T ptree;refine T.pY.F.ok CS (λvs H Q E h=>?_) (λcdv A outer s H vs Q E hr h=>?_)
 ·obtain ⟨r,H0,mv,pt,lk,rfl,_⟩:=h;rfl
 ·obtain ⟨r,H0,mv,pt,lk,rfl,PQ,D,F,k⟩:=h;refine ⟨_,(aB (bo (HX T.mk_System wC (hr.mono (by decide)) rfl T.mg_System T.nH .nil mH (aa (cE oN hr T.iY (aa (aT bJ (pv 0) aj) ai)) (aa (cE oN hr T.iY (aa (aT bJ (pv 0) aj) ai)) (aa (cE oN hr T.iY (aa (aT bJ (pv 0) aj) ai)) ai)))))),?_⟩;refine aW (σ:=[some (.ref r)]) rfl ?_;obtain ⟨m,p,l,g,n1,n2,n3,Gm,Gp,Gl⟩:=id PQ;have d1:=D.n8;have d2:=D.i4;have d3:=D.o4;exists ⟨m,H0,mv,rfl,Gm,by lia,λxs hx=>by rw[D.mw xs hx];lia,λa H1 na s1 Ga=>?_⟩;have g1:=s1 _ _ g;exists ⟨p,H0,pt,rfl,Gp.same s1,by lia,λxs hx=>by rw[D.pw xs hx];lia,λb H2 nb s2 Gb=>?_⟩;have s12:=s1.trans s2;have g2:=s12 _ _ g;exists ⟨l,H0,lk,rfl,Gl.same s12,by lia,λxs hx=>by rw[D.lw xs hx];lia,λc H3 nc s3 Gc=>?_⟩;have s13:=s12.trans s3;walk_at "w";intro x dx nx ndx nex;exact ⟨x,dx,a,b,c,H3,H,H1,H2,mv,pt,lk,rfl,nx,ndx,nex,rfl,(Ga.same s2).same s3,Gb.same s3,Gc,D,F.ok.1,F.ok.2.1,F.ok.2.2,λH' s' S'=>⟨rfl,k x H' (s13.none nx) (s13.trans s') (S'.weak s13)⟩⟩
theorem iC:a7 ["_law_bag_here","_law_many","_law_begin","_law_found","_law_wide","_law_k"] ["_law_bag_here","_law_many","_law_begin"] (aI mF):=by walk_at "d"
theorem yO (T:Txt K mg Z) (ptree:P.given.tree=none):cO P w K mg base iI 2 Z.sL Z.sG ["_law_bag_here","_law_many","_law_begin"] (Hu K):=by
 have aQ:=eQ (P:=P) (w:=w) (base:=base) T ptree;have gR:=lG (P:=P) (w:=w) (base:=base) T ptree;refine T.iD.F.ok iC (λvs H Q E h=>?_) (λcdv A outer s H vs Q E hr h=>?_)
 ·obtain ⟨b,m,be,rfl,_⟩:=h;rfl
 ·obtain ⟨b,m,be,rfl,hB,hm,hbe,k⟩:=h
  refine ⟨_,(au (aV (i:=3) iC.nd rfl (Or.inl rfl) (dZ ai))
   (au (aV (i:=4) iC.nd rfl (Or.inl rfl) (aT bw (dZ (aa aj (aa aj (aa aj (aa aj ai))))) (cE aQ hr T.aS (aa (pv 0) (aa aj ai)))))
   (au (eR PassesOwn.never rfl (cv rfl T.range (aa (pv 1) ai)) (aP (i:=5) iC.nd)
    (aB (fL (bI hR (cE aQ hr T.aS (aa (pv 0) (aa aj ai))) aj (bL _)) (aB (jW (xU dA dY dX kL (pv 3) (aa (cG (aa aj (aa aj ai))) ai)))) (aB (jW (xU dA dY dX kL (pv 3) (aa (cE gR hr T.ie (aa (bq gh (pv 2) (cE aQ hr T.aS (aa (pv 0) (aa (pv 4) ai)))) (aa (bq gh aj (cE aQ hr T.aS (aa (pv 0) (aa (bq (hJ rfl iC rfl rfl rfl ptree (oW hr)) (pv 4) aj) ai)))) ai))) ai)))))))
   (aB (bo (pv 3)))))),?_⟩
  refine aW (σ:=[some (.ref b),some (.int m),some (.int be),none,none,none]) rfl ?_;exists de λf H1 s1 n1 g1=>?_
  exists de λl0 H2 s2 n2 g2=>?_
  have B2:=(hB.same s1).same s2;exists ⟨b,4,rfl,B2,by decide,by decide,λv H3 v0 v1 B3 u3=>?_⟩;have fb:f≠b:=λz=>hB.at (by rw[<- z];exact n1)
  have g3:=u3.other (λz=>(hB.same s1).at (by rw[<- z];exact n2)) g2;have gf:=u3.other fb (s2 _ _ g1);obtain ⟨x,ex,mx,_⟩:=kf (xs:=[V.int 9,V.int 9,V.int 9,V.int 1000]) v0 (by simpa using v1)
  obtain ⟨w,rfl,hw⟩:∃w:Nat,x=.int w/\(w=9\/w=1000):=by
   simp only[aH,aY,or_false] at mx;rcases mx with rfl | rfl | rfl | rfl
   ·exact ⟨9,rfl,.inl rfl⟩
   ·exact ⟨9,rfl,.inl rfl⟩
   ·exact ⟨9,rfl,.inl rfl⟩
   ·exact ⟨1000,rfl,.inr rfl⟩
  obtain ⟨q0,I0,xs0,gq0⟩:=hB.inner;have fq:f≠q0:=λz=>by rw[<- z,n1] at gq0;cases gq0
  have u03:cF b H H3:=((s1.trans s2).upto (p:=b)).trans u3;have I3:Inner H3 b q0:=u03.2 _ I0;exists cp (bK.of g3) ex ?_;exists ⟨by lia,by lia,?_⟩;refine eh (n:=m) (λi σ' H'=>∃(y:Option V) (us:List V) (ws:List Rat),σ'=[some (.ref b),some (.int m),some (.int be),some (.ref f),some (.int w),y]/\H' f=some (.lst us)/\Paired (bS K H') ws us/\ws.length=i/\(∀z∈ws,(0<=z/\(0 < be->0 < z))/\Dr 1000 z)/\ig H' b/\Inner H' b q0/\cF b H H') ⟨none,[],[],rfl,gf,.nil,rfl,(λ_ z=>nomatch z),B3,I3,u03⟩ ?_ ?_
  ·rintro i σ' H' hi ⟨y,us,ws,rfl,gu,pr,lw,hd,B',I',u'⟩;have lu:=pr.length
   have fin:∀(t:V) (z:Rat) (H5:Hp),ig H5 b->cF b H' H5->bS K H5 z t->(0<=z/\(0 < be->0 < z))/\Dr 1000 z->H5 f=some (.lst us)/\us.length < sizeLine/\∃(y:Option V) (us':List V) (ws':List Rat),[some (V.ref b),some (.int m),some (.int be),some (.ref f),some (.int w),some (.int i)]=[some (.ref b),some (.int m),some (.int be),some (.ref f),some (.int w),y]/\(upd H5 f (.lst (us++[t]))) f=some (.lst us')/\Paired (bS K (upd H5 f (.lst (us++[t])))) ws' us'/\ws'.length=i+1/\(∀z∈ws',(0<=z/\(0 < be->0 < z))/\Dr 1000 z)/\ig (upd H5 f (.lst (us++[t]))) b/\Inner (upd H5 f (.lst (us++[t]))) b q0/\cF b H (upd H5 f (.lst (us++[t]))):=λt z H5 B5 u5 nz dz=>by
    have g5:=u5.other fb gu;have I5:=u5.2 _ I';refine ⟨g5,bO (by lia),_,_,ws++[z],rfl,aK,cz (Paired.imp' (λ_ _ y=>(y.upto u5 B').updL g5) pr) (.cons (nz.updL g5) .nil),by simp [lw],y8 hd dz,B5.upd I5 fb fq,I5.upd fb,(u'.trans u5).after n1⟩
   exists ⟨b,2,rfl,B',by decide,by decide,λc Ha c0 c1 Ba ua=>?_⟩;exists jh (λh0=>?_) (λh0=>?_)
   ·exists ⟨.inl ⟨rfl,_,bK.of (ua.other fb gu)⟩,?_⟩;exists bV λt Hb sb gt=>?_
    obtain ⟨e1,e2,e3⟩:=fin (.ref t) 1 Hb (Ba.same sb) (ua.same sb) (bS.mk gt rfl) ⟨⟨by decide,λ_=>by decide⟩,by decide,by decide⟩;exists kF e1 e2 ?_;exact e3
   ·exists ⟨.inl ⟨rfl,_,bK.of (ua.other fb gu)⟩,?_⟩;exists ⟨b,_,rfl,Ba,by lia,by lia,λt Hb t0 t1 Bb ub=>?_⟩;exists eZ (show nO _ _ from ⟨by decide,by show (2:Nat) < 2^8999000;exact bc (show 2 < 2^2 by decide) (aD (by decide) (by decide))⟩) ?_;rw[bF _ (by decide)];exists ⟨b,_,rfl,Bb,by lia,by lia,λd Hc d0 d1 Bc uc=>?_⟩;exists ⟨_,_,rfl,by lia,(FO (by lia)).mono (by decide),λr Hd sd gd=>?_⟩;obtain ⟨z,ez,dz,ze⟩:=Gj (t:=be+t) (b:=1+d) (W:=1000) (by lia) (by lia) (by lia);obtain ⟨e1,e2,e3⟩:=fin (.ref r) z Hd (Bc.same sd) (((ua.trans ub).trans uc).same sd) (bS.mk gd ez) ⟨⟨Sh ze (by lia) (by lia),λ_=>KE ze (by lia) (by lia)⟩,dz⟩;exists kF e1 e2 ?_;exact e3
  ·rintro σ' H' ⟨y,us,ws,rfl,gu,pr,lw,hd,B',I',u'⟩;exists k f ws H' n1 ⟨us,gu,pr⟩ lw hd B' u'
theorem tE:a7 ["_law_bag_here","_law_parts_here","_law_n"] ["_law_bag_here","_law_parts_here"] (aI pJ):=by walk_at "d"
theorem A4 (T:Txt K mg Z) (ptree:P.given.tree=none):cO P w K mg base iI 3 Z.wt Z.vS ["_law_bag_here","_law_parts_here"] (Ep K):=by
 have mW:=yO (P:=P) (w:=w) (base:=base) T ptree;refine T.oz.F.ok tE (λvs H Q E h=>?_) (λcdv A outer s H vs Q E hr h=>?_)
 ·obtain ⟨b,r,H0,mv,pt,lk,rfl,_⟩:=h;rfl
 ·obtain ⟨b,r,H0,mv,pt,lk,rfl,B,nb,P,D,k⟩:=h
  refine ⟨_,(au (aV (i:=2) tE.nd rfl (Or.inl rfl) (bG bx (by rfl) T.len bg (aa (aT bJ (pv 1) aj) ai)))
   (aB (bo (dZ (aa (cE mW hr T.iD (aa (pv 0) (aa (pv 2) (aa aj ai)))) (aa (cE mW hr T.iD (aa (pv 0) (aa (bG bx (by rfl) T.len bg (aa (aT bJ (pv 1) aj) ai)) (aa aj ai)))) (aa (cE mW hr T.iD (aa (pv 0) (aa (pv 2) (aa aj ai)))) ai))))))),?_⟩
  refine aW (σ:=[some (.ref b),some (.ref r),none]) rfl ?_;have d8:=D.n8;have i4:=D.i4;obtain ⟨m,p,l,gt,mn,pn,ln,Gm,Gp,Gl⟩:=id P;obtain ⟨um,gm,qm,_⟩:=id Gm;have lum:=qm.length;exists ⟨_,_,rfl,.inl (bK.of gm),?_⟩;rw[<- lum];clear gm qm lum Gm Gp Gl gt mn pn ln;exists ⟨b,mv.length,0,rfl,B,by lia,by lia,λa1 qs H1 n1 R1 l1 w1 B1 u1=>?_⟩;obtain ⟨m,p,l,gt,mn,pn,ln,Gm,Gp,Gl⟩:=P.upto u1 B nb;obtain ⟨up,gp,qp,_⟩:=id Gp;have lup:=qp.length;exists ⟨_,_,rfl,.inl (bK.of gp),?_⟩;rw[<- lup];clear gp qp lup Gm Gp Gl gt mn pn ln;exists ⟨b,pt.length,1,rfl,B1,by lia,by lia,λa2 rs H2 n2 R2 l2 w2 B2 u2=>?_⟩;exists ⟨b,mv.length,0,rfl,B2,by lia,by lia,λa3 fs H3 n3 R3 l3 w3 B3 u3=>?_⟩;exists de λl4 H4 s4 n4 g4=>?_
  have bH:=B.at;have u12:=u1.trans u2;have u03:=u12.trans u3;have e2:=u1.none B1 n2;have e3:=u12.none B2 n3;have e4:=u03.none B3 n4;have a1b:a1≠b:=λz=>bH (by rw[<- z];exact n1)
  have a2b:a2≠b:=λz=>bH (by rw[<- z];exact e2)
  exact k l4 a1 a2 a3 qs rs fs H4 e4 n1 e2 e3 g4 (((R1.upto u2 B1 a1b).upto u3 B2 a1b).same s4) ((R2.upto u3 B2 a2b).same s4) (R3.same s4) ⟨l1,l2,l3,λw h=>⟨(w1 w h).1.1,(w1 w h).2⟩,λw h=>⟨(w2 w h).1.2 (by decide),(w2 w h).2⟩,λw h=>⟨(w3 w h).1.1,(w3 w h).2⟩⟩ (B3.same s4) (u03.same s4)
theorem fY:a7 ["wholes","multiple","whole"] ["wholes"] (aI jV):=by walk_at "d"
theorem uG (T:Txt K mg Z) (ptree:P.given.tree=none):cO P w K mg base iI 2 Z.nJ Z.nG ["wholes"] (Kh K):=by
 have eo:=iM (P:=P) (w:=w) (base:=base) T ptree;refine T.jD.F.ok fY (λvs H Q E h=>?_) (λcdv A outer s H vs Q E hr h=>?_)
 ·obtain ⟨p,bs,M,rfl,_⟩:=h;rfl
 ·obtain ⟨p,bs,M,rfl,hp,hM,sM,hb,q⟩:=h
  refine ⟨_,(au (aV (i:=1) fY.nd rfl (Or.inl rfl) aj)
   (au (eR PassesOwn.never rfl (cg (pv 0)) (aP (i:=2) fY.nd)
    (aB (aV (i:=1) fY.nd rfl (Or.inl rfl) (bq cy (pv 1) (bq (hJ rfl fY rfl rfl rfl ptree (oW hr)) (pv 2) (cE eo hr T.fz (aa (pv 1) (aa (pv 2) ai))))))))
   (aB (bo (pv 1))))),?_⟩
  refine aW (σ:=[some (.ref p),none,none]) rfl ?_;exists ⟨⟨_,hp⟩,?_⟩;refine i5 (K:=K) (a:=p) (xs:=bs.map V.int) (λi σ' H'=>H'=H/\∃x,σ'=[some (.ref p),some (.int (xo (bs.take i) 1)),x]) ⟨rfl,none,rfl⟩ (λi σ' H' _ ⟨e,_⟩=>by subst e;exact hp) ?_ ?_
  ·rintro i x σ' H' hx ⟨rfl,y,rfl⟩;rw[ay] at hx
   obtain ⟨b,eb,rfl⟩:∃b,bs[i]?=some b/\x=.int b:=by
    cases e:bs[i]? with
    | none=>rw[e] at hx;cases hx
    | some b=>rw[e] at hx;cases hx;exact ⟨b,rfl,rfl⟩
   have b1:=hb b (ao eb);have sb:Sz 4400000 b:=DG hM b1.2 sM;have ht:∀c∈bs.take i,0 < c/\c∣M:=λc hc=>hb c (b9 hc)
   have msz:Sz 4400000 (xo (bs.take i) 1):=DG hM (yX (by decide) (Int.one_dvd _) ht) sM;generalize hm:xo (bs.take i) 1=m at msz ⊢;have gp:0 < g m b:=Ae (by lia);exists ⟨m,b,rfl,?_⟩;exists eZ (show nO _ _ from ⟨by lia,(Tv b1.1 sb).mono (by decide)⟩) ?_;rw[bF _ (by lia)];exists eZ (show fD _ _ from .inr ⟨_,_,msz,sb.hi (t:=m) (by lia),by decide⟩) ?_;exists ⟨rfl,_,by rw[take_snoc eb,BK,hm];rfl⟩
  ·rintro σ' H' ⟨rfl,y,rfl⟩;walk_at "w";rw[aA (by simp)];exact q
theorem wR:a7 ["row"] ["row"] (aI lQ):=by walk_at "d"
theorem hX (T:Txt K mg Z) (ptree:P.given.tree=none):cO P w K mg base iI 3 Z.qJ Z.qH ["row"] (Ki K):=by
 have wB:=uG (P:=P) (w:=w) (base:=base) T ptree;refine T.dh.F.ok wR (λvs H Q E h=>?_) (λcdv A outer s H vs Q E hr h=>?_)
 ·obtain ⟨p,ns,M,rfl,_⟩:=h;rfl
 ·obtain ⟨p,ns,M,rfl,hp,hl,hz,q⟩:=h;refine ⟨_,(aB (bo (cE wB hr T.jD (aa (cb ["value"] [] [] (cg (pv 0)) (λ_=>(aP (i:=0) (show ND9 ["value"] by decide +kernel))) (λ_=>cu) (λ_=>(aT (jg K (by rfl)) (pv 0) aj))) ai)))),?_⟩;refine aW (σ:=[some (.ref p)]) rfl ?_;obtain ⟨xs,gx,qx⟩:=id hp;have lx:=qx.length;exists ⟨⟨_,bK.of gx⟩,?_⟩;refine iG (K:=K) (xs:=xs) (λi ys H'=>H'=H/\ys=((ns.take i).map (·.2)).map V.int) (aO (bO (by lia))) ⟨rfl,rfl⟩ (λi ys H' _ ⟨e,_⟩=>by subst e;exact bK.of gx) ?_ ?_
  ·rintro i x ys H' hx hlen ⟨rfl,rfl⟩;obtain ⟨n,en,r,rfl,hr1⟩:=cH qx hx;exists ⟨rfl,by rw[take_snoc en];simp⟩
  ·rintro ys H' hy ⟨rfl,rfl⟩ l hl';exists ⟨l,ns.map (·.2),M,rfl,bK.of (by rw[aK,aA (by lia)]),hz.1,hz.2.1,λb hb=>?_,?_⟩
   ·obtain ⟨n,hn,rfl⟩:=aw.mp hb;exact ⟨(hz.2.2 n hn).1,(hz.2.2 n hn).2.1⟩
   ·exact q _ (aG.new hl')
theorem vh:a7 ["row","bottom"] ["row","bottom"] (aI rh):=by walk_at "d"
theorem jZ (T:Txt K mg Z) (ptree:P.given.tree=none):cO P w K mg base iI 1 Z.yv Z.yd ["row","bottom"] (Em K):=by
 refine T.fO.F.ok vh (λvs H Q E h=>?_) (λcdv A outer s H vs Q E hr h=>?_)
 ·obtain ⟨p,ns,M,B,rfl,_⟩:=h;rfl
 ·obtain ⟨p,ns,M,B,rfl,hp,hl,hz,hB,sB,q⟩:=h;refine ⟨_,(aB (bo (cb ["value"] ["bottom"] [1] (cg (pv 0)) (λ_=>(aP (i:=0) (show ND9 ["value","bottom"] by decide +kernel))) (λ_=>cu) (λ_=>(bq cy (aT (jg K (by rfl)) (pv 0) aj) (bq (hJ rfl vh rfl rfl rfl ptree (oW hr)) (pv 1) (aT (jg K (by rfl)) (pv 0) aj))))))),?_⟩;refine aW (σ:=[some (.ref p),some (.int B)]) rfl ?_;obtain ⟨xs,gx,qx⟩:=id hp;have lx:=qx.length;exists ⟨⟨_,bK.of gx⟩,?_⟩;refine iG (K:=K) (xs:=xs) (λi ys H'=>H'=H/\ys=(bW (ns.take i) B).map V.int) (aO (bO (by lia))) ⟨rfl,rfl⟩ (λi ys H' _ ⟨e,_⟩=>by subst e;exact bK.of gx) ?_ ?_
  ·rintro i x ys H' hx hlen ⟨rfl,rfl⟩;obtain ⟨n,en,r,rfl,hr1⟩:=cH qx hx;have nz:=hz.2.2 n (ao en);have sn:Sz 4400000 n.2:=DG hz.1 nz.2.1 hz.2.1;exists eZ (show nO _ _ from ⟨by lia,sn.mono (by decide)⟩) ?_;rw[bF _ (by lia)]
   have sq:Sz 4400000 (B / n.2):=sB.le (by
    rw[QY (by lia)];exact Nat.div_le_self ..)
   exists eZ (show fD _ _ from .inr ⟨_,_,nz.2.2,sq,by decide⟩) ?_;exact ⟨rfl,by rw[take_snoc en];simp [bW]⟩
  ·rintro ys H' hy ⟨rfl,rfl⟩ l hl';exact q l _ hl' (aG.new hl') (by rw[aK,aA (by lia)])
theorem pG:a7 ["row","bottom","tops"] ["row"] (aI rn):=by walk_at "d"
theorem vA (T:Txt K mg Z) (ptree:P.given.tree=none):cO P w K mg base iI 4 Z.yx Z.yf ["row"] (Kf K):=by
 have cS:=hX (P:=P) (w:=w) (base:=base) T ptree;have eY:=jZ (P:=P) (w:=w) (base:=base) T ptree;refine T.l9.F.ok pG (λvs H Q E h=>?_) (λcdv A outer s H vs Q E hr h=>?_)
 ·obtain ⟨p,xs,M,rfl,_⟩:=h;rfl
 ·obtain ⟨p,xs,M,rfl,R,x20,hM,k⟩:=h
  refine ⟨_,(au (aV (i:=1) pG.nd rfl (Or.inl rfl) (cE cS hr T.dh (aa (pv 0) ai)))
   (au (aV (i:=2) pG.nd rfl (Or.inr rfl) (cE eY hr T.fO (aa (pv 0) (aa (pv 1) ai))))
   (aB (bo (cG (aa (cb ["place"] ["tops"] [2] (cv rfl T.range (aa (bG bx (by rfl) T.len bg (aa (pv 2) ai)) ai)) (λ_=>(aP (i:=0) (show ND9 ["place","tops"] by decide +kernel) rfl (Or.inr rfl) (Or.inl rfl))) (λ_=>cu) (λ_=>(cb ["at","top"] ["place"] [0] (KH K rfl T.enumerate (aa (pv 1) ai)) (λ_=>(sX K 2 (cQ (aP (i:=0) (show ND9 ["at","top","place"] by decide +kernel)) (cQ (aP (i:=1) (show ND9 ["at","top","place"] by decide +kernel)) jX)))) (λ_=>cu) (λ_=>(KJ (bI hR (pv 0) (pv 2) (bL _)) (pv 1) aj))))) (aa (pv 1) ai))))))),?_⟩
  refine aW (σ:=[some (.ref p),none,none]) rfl ?_;obtain ⟨c0,sc⟩:=hM.bot;have lm:(xs.map nm).length=xs.length:=ag ..;exists ⟨p,xs.map nm,M,rfl,R.rowK,by lia,hM,λH1 t1=>?_⟩;exists ⟨p,xs.map nm,M,_,rfl,(R.same t1).rowK,by lia,hM,c0,sc,λr2 H2 n2 t2 g2=>?_⟩;have t02:=t1.trans t2;generalize hz:bW (xs.map nm) (cA (xs.map nm))=zs at g2;have lz:zs.length=xs.length:=by rw[<- hz];unfold bW;rw[ag,lm]
  exists ⟨_,_,rfl,.inl (bK.of g2),?_⟩;rw[ag];exists ⟨by lia,by lia,?_⟩;refine jL (n:=zs.length) (Bi H) (λi=>(List.range zs.length).map λj=>if j=i then zs.getD j 0 else 0) (by lia) (λa b=>a.same b) ?_ ?_
  ·rintro i Hb NY NN hi sa k1;have g2b:=sa _ _ g2;exists ⟨⟨_,bK.of g2b⟩,?_⟩;refine JD (K:=K) (xs:=zs.map V.int) (λj ys H'=>aG Hb H'/\ys=(((List.range zs.length).map λj=>if j=i then zs.getD j 0 else 0).take j).map V.int) (aO (bO (by rw[ag];lia))) ⟨aG.refl _,rfl⟩ (λi ys H' _ ⟨s,_⟩=>bK.of (s _ _ g2b)) ?_ ?_
   ·rintro j w ys3 H3 r3 hw hl3 ⟨s3,rfl⟩ hr3;rw[ay] at hw;obtain ⟨z,ez,rfl⟩:=nP.mp hw;have jl:=(aU.mp ez).1;have sr:aG H3 (upd H3 r3 (.tup [.int j,.int z])):=aG.new hr3;have gr:(upd H3 r3 (.tup [.int j,.int z])) r3=some (.tup [.int j,.int z]):=aK;generalize upd H3 r3 (.tup [.int j,.int z])=H4 at sr gr ⊢;have e1:zs.getD j 0=z:=by rw[ae,ez];rfl
    have ee:((List.range zs.length).map λj=>if j=i then zs.getD j 0 else 0)[j]?=some (if j=i then z else 0):=by rw[ay,b7 jl];show some (if j=i then zs.getD j 0 else 0)=_;rw[e1]
    exists jh (λhq=>?_) (λhq=>?_)
    ·have hq:=of_decide_eq_true hq;exists ⟨s3.trans sr,by rw[take_snoc ee,cn,if_pos (by lia)];rfl⟩
    ·have hq:¬((j:Int)=(i:Int)):=λz=>hq (decide_eq_true z)
     exists ⟨s3.trans sr,by rw[take_snoc ee,cn,if_neg (by lia)];rfl⟩
   rintro ys3 H3 hy ⟨s3,rfl⟩ l hl;exact k1 _ _ (s3.trans (aG.new hl)) ⟨l,rfl,t02.none (sa.none (s3.none hl)),by rw[aK,aA (by rw[ag,ag,bT];exact ar _)]⟩
  rintro ys H3 r nr s3 g3 pr _;exists bV λt4 H4 s4 g4=>?_
  refine k t4 r H4 g4 ((t02.trans s3).trans s4) ?_;rw[hz];exact FE.same ⟨t02.none nr,ys,g3,pr⟩ s4
theorem vm:a7 ["self","system","state_weights","put_weights","last_weights"] ["self","system","state_weights","put_weights","last_weights"] (aI fW):=by walk_at "d"
theorem vH (T:Txt K mg Z) (ptree:P.given.tree=none):cO P w K mg base iI 5 Z.kU Z.kS ["self","system","state_weights","put_weights","last_weights"] (HP K Z.a_System Z.a_Costs):=by
 have sQ:=vA (P:=P) (w:=w) (base:=base) T ptree;refine T.pC.ok vm (λvs H Q E h=>?_) (λcdv A outer s H vs Q E hr h=>?_)
 ·obtain ⟨A9,x,dx,sy,b1,b2,b3,Hb,H0,mv,pt,lk,qs,rs,fs,M,rfl,_⟩:=h;rfl
 ·obtain ⟨A9,x,dx,sy,b1,b2,b3,Hb,H0,mv,pt,lk,qs,rs,fs,M,rfl,nx,ndx,nex,rfl,LA,S,R1,R2,R3,f20,hM,k⟩:=h
  refine ⟨_,(au (mG (pv 0) (pv 1) rfl)
   (au (mG (pv 0) (fv gM (by rfl) T.list PyProof.Rows.boot_list (aa (pv 2) ai)) rfl)
   (au (mG (pv 0) (fv gM (by rfl) T.list PyProof.Rows.boot_list (aa (pv 3) ai)) rfl)
   (au (mG (pv 0) (fv gM (by rfl) T.list PyProof.Rows.boot_list (aa (pv 4) ai)) rfl)
   (aB (mG (pv 0) (dZ (aa (cG (aa (cE sQ hr T.l9 (aa (eS (pv 0) rfl) ai)) (aa (cG (aa (dZ ai) (aa aj ai))) ai))) ai)) rfl)))))),?_⟩
  refine aW (σ:=[some (.ref x),some (.ref sy),some (.ref b1),some (.ref b2),some (.ref b3)]) rfl ?_
  have s0:aG Hb (upd (upd Hb dx (.own x)) x (.ins Z.a_Costs dx [])):=λb o e=>by
   rw[aZ (fJ e nx),aZ (fJ e ndx)];exact e
  have hx:(upd (upd Hb dx (.own x)) x (.ins Z.a_Costs dx [])) x=some (.ins Z.a_Costs dx []):=aK;generalize upd (upd Hb dx (.own x)) x (.ins Z.a_Costs dx [])=Ha at s0 hx ⊢;have small:∀fs:List (Str×V),fs.length<=8->fs.length < 1000:=λ_ h=>by lia
  have one:(a8 ("system":Str) (.ref sy) ([]:List (Str×V))).length<=1:=dH;exists ⟨x,Z.a_Costs,dx,_,rfl,hx,T.cl_Costs,T.na_Costs_system,(by show 0 < 1000;decide),?_⟩;have hx1:(upd Ha x (.ins Z.a_Costs dx (a8 "system" (.ref sy) []))) x=some (.ins Z.a_Costs dx (a8 "system" (.ref sy) [])):=aK;have k1:aG Hb (upd Ha x (.ins Z.a_Costs dx (a8 "system" (.ref sy) []))):=s0.after nx;generalize upd Ha x (.ins Z.a_Costs dx (a8 "system" (.ref sy) []))=H1 at hx1 k1 ⊢;obtain ⟨z1,g1,q1⟩:=id R1;replace g1:=br _ _ g1;exists ⟨b1,z1,rfl,.inl (bK.of (k1 _ _ g1)),λa1 n1=>?_⟩;have a1x:a1≠x:=λz=>by rw[z,hx1] at n1;cases n1
  have s1:aG H1 (upd H1 a1 (.lst z1)):=aG.new n1;have ga1:(upd H1 a1 (.lst z1)) a1=some (.lst z1):=aK;generalize upd H1 a1 (.lst z1)=H2 at s1 ga1 ⊢;have k1L:=k1.trans s1;have hx1L:=s1 _ _ hx1;exists ⟨x,Z.a_Costs,dx,_,rfl,hx1L,T.cl_Costs,T.na_Costs_state_weights,small _ (by lia),?_⟩;have len2:(a8 "state_weights" (.ref a1) (a8 "system" (.ref sy) [])).length<=2:=ak dH (by lia);have hx3:(upd H2 x (.ins Z.a_Costs dx (a8 "state_weights" (.ref a1) (a8 "system" (.ref sy) [])))) x=some (.ins Z.a_Costs dx (a8 "state_weights" (.ref a1) (a8 "system" (.ref sy) []))):=aK;have k3:aG Hb (upd H2 x (.ins Z.a_Costs dx (a8 "state_weights" (.ref a1) (a8 "system" (.ref sy) [])))):=k1L.after nx;have ga1:(upd H2 x (.ins Z.a_Costs dx (a8 "state_weights" (.ref a1) (a8 "system" (.ref sy) [])))) a1=some (.lst z1):=by rw[aZ a1x];exact ga1
  generalize upd H2 x (.ins Z.a_Costs dx (a8 "state_weights" (.ref a1) (a8 "system" (.ref sy) [])))=H3 at hx3 k3 ga1 ⊢;obtain ⟨z2,g2,q2⟩:=id R2;replace g2:=br _ _ g2;exists ⟨b2,z2,rfl,.inl (bK.of (k3 _ _ g2)),λa2 n2=>?_⟩;have a2x:a2≠x:=λz=>by rw[z,hx3] at n2;cases n2
  have s2:aG H3 (upd H3 a2 (.lst z2)):=aG.new n2;have ga2:(upd H3 a2 (.lst z2)) a2=some (.lst z2):=aK;generalize upd H3 a2 (.lst z2)=H4 at s2 ga2 ⊢;have k2L:=k3.trans s2;have hx2L:=s2 _ _ hx3;replace ga1:=s2 _ _ ga1;exists ⟨x,Z.a_Costs,dx,_,rfl,hx2L,T.cl_Costs,T.na_Costs_put_weights,small _ (by lia),?_⟩;have len3:(a8 "put_weights" (.ref a2) (a8 "state_weights" (.ref a1) (a8 "system" (.ref sy) []))).length<=3:=ak dH (by lia);have hx5:(upd H4 x (.ins Z.a_Costs dx (a8 "put_weights" (.ref a2) (a8 "state_weights" (.ref a1) (a8 "system" (.ref sy) []))))) x=some (.ins Z.a_Costs dx (a8 "put_weights" (.ref a2) (a8 "state_weights" (.ref a1) (a8 "system" (.ref sy) [])))):=aK;have k5:aG Hb (upd H4 x (.ins Z.a_Costs dx (a8 "put_weights" (.ref a2) (a8 "state_weights" (.ref a1) (a8 "system" (.ref sy) []))))):=k2L.after nx;have ga1:(upd H4 x (.ins Z.a_Costs dx (a8 "put_weights" (.ref a2) (a8 "state_weights" (.ref a1) (a8 "system" (.ref sy) []))))) a1=some (.lst z1):=by rw[aZ a1x];exact ga1
  have ga2:(upd H4 x (.ins Z.a_Costs dx (a8 "put_weights" (.ref a2) (a8 "state_weights" (.ref a1) (a8 "system" (.ref sy) []))))) a2=some (.lst z2):=by rw[aZ a2x];exact ga2
  generalize upd H4 x (.ins Z.a_Costs dx (a8 "put_weights" (.ref a2) (a8 "state_weights" (.ref a1) (a8 "system" (.ref sy) []))))=H5 at hx5 k5 ga1 ga2 ⊢;obtain ⟨z3,g3,q3⟩:=id R3;replace g3:=br _ _ g3;exists ⟨b3,z3,rfl,.inl (bK.of (k5 _ _ g3)),λa3 n3=>?_⟩;have a3x:a3≠x:=λz=>by rw[z,hx5] at n3;cases n3
  have s3:aG H5 (upd H5 a3 (.lst z3)):=aG.new n3;have ga3:(upd H5 a3 (.lst z3)) a3=some (.lst z3):=aK;generalize upd H5 a3 (.lst z3)=H6 at s3 ga3 ⊢;have k3L:=k5.trans s3;have hx3L:=s3 _ _ hx5;replace ga1:=s3 _ _ ga1;replace ga2:=s3 _ _ ga2;exists ⟨x,Z.a_Costs,dx,_,rfl,hx3L,T.cl_Costs,T.na_Costs_last_weights,small _ (by lia),?_⟩;have len4:(a8 "last_weights" (.ref a3) (a8 "put_weights" (.ref a2) (a8 "state_weights" (.ref a1) (a8 "system" (.ref sy) [])))).length<=4:=ak dH (by lia);have hx7:(upd H6 x (.ins Z.a_Costs dx (a8 "last_weights" (.ref a3) (a8 "put_weights" (.ref a2) (a8 "state_weights" (.ref a1) (a8 "system" (.ref sy) [])))))) x=some (.ins Z.a_Costs dx (a8 "last_weights" (.ref a3) (a8 "put_weights" (.ref a2) (a8 "state_weights" (.ref a1) (a8 "system" (.ref sy) []))))):=aK;have k7:aG Hb (upd H6 x (.ins Z.a_Costs dx (a8 "last_weights" (.ref a3) (a8 "put_weights" (.ref a2) (a8 "state_weights" (.ref a1) (a8 "system" (.ref sy) [])))))):=k3L.after nx;have ga1:(upd H6 x (.ins Z.a_Costs dx (a8 "last_weights" (.ref a3) (a8 "put_weights" (.ref a2) (a8 "state_weights" (.ref a1) (a8 "system" (.ref sy) [])))))) a1=some (.lst z1):=by rw[aZ a1x];exact ga1
  have ga2:(upd H6 x (.ins Z.a_Costs dx (a8 "last_weights" (.ref a3) (a8 "put_weights" (.ref a2) (a8 "state_weights" (.ref a1) (a8 "system" (.ref sy) [])))))) a2=some (.lst z2):=by rw[aZ a2x];exact ga2
  have ga3:(upd H6 x (.ins Z.a_Costs dx (a8 "last_weights" (.ref a3) (a8 "put_weights" (.ref a2) (a8 "state_weights" (.ref a1) (a8 "system" (.ref sy) [])))))) a3=some (.lst z3):=by rw[aZ a3x];exact ga3
  generalize upd H6 x (.ins Z.a_Costs dx (a8 "last_weights" (.ref a3) (a8 "put_weights" (.ref a2) (a8 "state_weights" (.ref a1) (a8 "system" (.ref sy) [])))))=H7 at hx7 k7 ga1 ga2 ga3 ⊢;exists ⟨x,Z.a_Costs,dx,_,_,rfl,hx7,T.cl_Costs,T.na_Costs_last_weights,Nr,?_⟩;exists ⟨a3,fs,M,rfl,⟨z3,ga3,Paired.imp' (λ_ _ z=>z.same (br.trans k7)) q3⟩,f20,hM,λtw pw H8 g8 s8 G8=>?_⟩;exists de λe9 H9 s9 n9 g9=>?_
  exists bV λts HA sA gA=>?_
  exists bV λt1 HB sB gB=>?_
  exists de λkn HC sC nC gC=>?_
  have s7C:=(((s8.trans s9).trans sA).trans sB).trans sC;have hxC:=s7C _ _ hx7;have kC:=k7.trans s7C;have xkn:x≠kn:=λz=>by rw[<- z,(((s8.trans s9).trans sA).trans sB) _ _ hx7] at nC;cases nC
  have bkn:Hb kn=none:=(((k7.trans s8).trans s9).trans (sA.trans sB)).none nC;exists ⟨x,Z.a_Costs,dx,_,rfl,hxC,T.cl_Costs,T.na_Costs_known,small _ (by lia),?_⟩;have hxD:(upd HC x (.ins Z.a_Costs dx (oG sy a1 a2 a3 kn))) x=some (.ins Z.a_Costs dx (oG sy a1 a2 a3 kn)):=aK;have kD:aG Hb (upd HC x (.ins Z.a_Costs dx (oG sy a1 a2 a3 kn))):=kC.after nx;have sD:∀a o,a≠x->HB a=some o->(upd HC x (.ins Z.a_Costs dx (oG sy a1 a2 a3 kn))) a=some o:=λa o ha h=>by rw[aZ ha];exact sC _ _ h
  have gD:(upd HC x (.ins Z.a_Costs dx (oG sy a1 a2 a3 kn))) kn=some (.lst [.ref t1]):=by rw[aZ (Ne.symm xkn)];exact gC
  have hxB:HB x=some _:=(((s8.trans s9).trans sA).trans sB) _ _ hx7;have s7B:=((s8.trans s9).trans sA).trans sB;show Q .non (upd HC x (.ins Z.a_Costs dx (oG sy a1 a2 a3 kn)))
  generalize upd HC x (.ins Z.a_Costs dx (oG sy a1 a2 a3 kn))=HD at hxD kD sD gD ⊢;have nkn:∀{a o},HB a=some o->a≠kn:=λh z=>by rw[z,nC] at h;cases h
  have LB:qK A9 HB:=λa ha=>by
   obtain ⟨vs,g⟩:=LA a ha;have ax:a≠x:=λz=>by rw[z,nx] at g;cases g
   exact ⟨vs,(((k7.trans s8).trans s9).trans (sA.trans sB)) _ _ g⟩
  have lift:∀{a o},HB a=some o->a≠x->A9 a=false->fg (qP A9 kn) HD a=some o:=λh n n2=>iZ (sD _ _ n h) (GJ n2 (nkn h))
  have kH:aG (fg A9 Hb) (fg (qP A9 kn) HD):=Ad bkn (dR kD);have nA:∀{a},Hb a=none->A9 a=false:=LA.new;have na1:A9 a1=false:=nA (k1.none n1);have na2:A9 a2=false:=nA (k3.none n2);have na3:A9 a3=false:=nA (k5.none n3);refine k kn (.ref t1) HD kD bkn ⟨dx,sy,a1,a2,a3,iZ hxD (GJ (nA nx) xkn),S.same kH,⟨z1,lift (s7B _ _ ga1) a1x na1,Paired.imp' (λ_ _ z=>z.same kH) q1⟩,⟨z2,lift (s7B _ _ ga2) a2x na2,Paired.imp' (λ_ _ z=>z.same kH) q2⟩,⟨z3,lift (s7B _ _ ga3) a3x na3,Paired.imp' (λ_ _ z=>z.same kH) q3⟩⟩ gD ?_;have nxI:∀{a us},HB a=some (.tup us)->a≠x:=λh z=>by rw[z,hxB] at h;cases h
  have nxL:∀{a us},HB a=some (.lst us)->a≠x:=λh z=>by rw[z,hxB] at h;cases h
  obtain ⟨ng,u1,h3,h4⟩:=G8.same ((s9.trans sA).trans sB);have h2:=((s9.trans sA).trans sB) _ _ g8;have h5:=sB _ _ gA;have h6:=(sA.trans sB) _ _ g9;have nf:∀{a},H7 a=none->A9 a=false:=λh=>nA (k7.none h)
  exact ⟨t1,tw,ts,pw,e9,rfl,lift gB (nxI gB) (LB.tup gB),lift h2 (nxI h2) (LB.tup h2),⟨u1,lift h3 (nxL h3) (nf ng),Paired.imp' (λ_ _ ⟨q,e,n,g⟩=>⟨q,e,lift g (nxL g) (nf n)⟩) h4⟩,lift h5 (nxI h5) (LB.tup h5),⟨[],lift h6 (nxL h6) (nf (s8.none n9)),.nil⟩⟩
theorem CM:a7 ["_law_bag_here","_law_parts_here","_law_steps_here","_law_wide"] ["_law_bag_here","_law_parts_here","_law_steps_here","_law_wide"] (aI rD):=by walk_at "d"
theorem Dm (T:Txt K mg Z) (ptree:P.given.tree=none):cO P w K mg base iI 4 Z.yA Z.yi ["_law_bag_here","_law_parts_here","_law_steps_here","_law_wide"] (Er K):=by
 have i8:=ni (P:=P) (w:=w) (base:=base) T ptree;refine T.pV.F.ok CM (λvs H Q E h=>?_) (λcdv A outer s H vs Q E hr h=>?_)
 ·obtain ⟨b,r,tt,w,H0,mv,pt,lk,rfl,_⟩:=h;rfl
 ·obtain ⟨b,r,tt,w,H0,mv,pt,lk,rfl,hT,w1,w2,hB,nb,PQ,D,k⟩:=h;refine ⟨_,(aB (bo (cb ["_law_turn"] ["_law_bag_here","_law_parts_here","_law_wide"] [0,1,3] (cv rfl T.range (aa (pv 2) ai)) (λ_=>(aP (i:=0) (show ND9 ["_law_turn","_law_bag_here","_law_parts_here","_law_wide"] by decide +kernel))) (λ_=>cu) (λ_=>(cE i8 hr T.iX (aa (pv 1) (aa (bG (Bf K (by rfl)) (by rfl) T.len bg (aa (aT (jg K (by rfl)) (pv 2) aj) ai)) (aa (pv 3) ai)))))))),?_⟩;refine aW (σ:=[some (.ref b),some (.ref r),some (.int tt),some (.int w)]) rfl ?_;have i4:=D.i4;exists ⟨by lia,by lia,?_⟩
  refine xB (n:=tt) (b:=b) (ia K H) (λxs=>xs.length=pt.length/\∀x∈xs,Dr (max w 6) x) hB (by lia) (λ{H' H'' c x} a u B=>by
   obtain ⟨q,e,nq,R⟩:=a;exact ⟨q,e,nq,R.upto u B (λz=>hB.at (by rw[<- z];exact nq))⟩) ?_ ?_
  ·rintro i Ha NY NN hi ua Ba k1;obtain ⟨m,p,l,g,n1,n2,n3,Gm,Gp,Gl⟩:=PQ.upto ua hB nb;obtain ⟨up,gp,qp,_⟩:=id Gp;have lup:=qp.length;exists ⟨_,_,rfl,.inl (bK.of gp),?_⟩;rw[<- lup];exists ⟨b,pt.length,w,rfl,Ba,by lia,w1,by lia,λq xs Hb nq R lx dx Bb ub=>?_⟩;exact k1 _ xs _ ub Bb ⟨lx,dx⟩ ⟨q,rfl,ua.none Ba nq,R⟩
  ·rintro ys cs Hz t ht uz Bz gz lc hc prz nx;exact k t cs Hz ht ⟨ys,gz,prz,vI nx⟩ lc hc Bz uz
theorem jr:a7 ["_law_bag_here","_law_parts_here","_law_bottoms","_law_row_here"] ["_law_bag_here","_law_parts_here"] (aI pI):=by walk_at "d"
theorem A0 (T:Txt K mg Z) (ptree:P.given.tree=none):cO P w K mg base iI 2 Z.wg Z.vQ ["_law_bag_here","_law_parts_here"] (By K):=by
 have aQ:=eQ (P:=P) (w:=w) (base:=base) T ptree;refine T.ox.F.ok jr (λvs H Q E h=>?_) (λcdv A outer s H vs Q E hr h=>?_)
 ·obtain ⟨b,r,H0,mv,pt,lk,rfl,_⟩:=h;rfl
 ·obtain ⟨b,r,H0,mv,pt,lk,rfl,hB,nb,PQ,D,sz,k⟩:=h
  refine ⟨_,(au (aV (i:=2) jr.nd rfl (Or.inl rfl) (dZ (aa aj ai)))
   (au (eR PassesOwn.never rfl (cg (bq oo (aT bJ (pv 1) aj) (aT bJ (pv 1) aj))) (aP (i:=3) jr.nd)
    (aB (aV (i:=2) jr.nd rfl (Or.inl rfl) (bq oo (pv 2) (cb ["_law_one"] [] [] (cg (pv 3)) (λ_=>(aP (i:=0) (show ND9 ["_law_one"] by decide +kernel))) (λ_=>cu) (λ_=>(bq gh (aT (jg K (by rfl)) (pv 0) aj) (bq cy (bq (hJ rfl jr rfl rfl rfl ptree (oW hr)) (bG vX (by rfl) T.abs PyProof.Rows.boot_abs (aa (aT (jg K (by rfl)) (pv 0) aj) ai)) aj) aj))))))))
   (au (fL (bI xW (bG (JF rfl) (by rfl) T.max PyProof.Rows.boot_max (aa (pv 2) ai)) aj (bL _)) (aB (bo (cE aQ hr T.aS (aa (pv 0) (aa aj ai))))) cK)
   (au (fL (bI xW (bG bx (by rfl) T.len bg (aa (aT bJ (pv 1) aj) ai)) aj (bL _)) (aB (bo (aT bw (dZ (aa (cE aQ hr T.aS (aa (pv 0) (aa aj ai))) (aa (bG bx (by rfl) T.len bg (aa (aT bJ (pv 1) aj) ai)) ai))) (cE aQ hr T.aS (aa (pv 0) (aa aj ai)))))) cK)
   (au (fL (PW.pt (kG (bI rS (bG bx (by rfl) T.len bg (aa (aT bJ (pv 1) aj) ai)) aj (bL _)) (lY (bI hR (cE aQ hr T.aS (aa (pv 0) (aa aj ai))) aj (bL _))))) (aB (bo (cE aQ hr T.aS (aa (pv 0) (aa aj ai))))) cK)
   (aB (bo (cE aQ hr T.aS (aa (pv 0) (aa (bq gh aj (bG bx (by rfl) T.len bg (aa (aT bJ (pv 1) aj) ai))) ai)))))))))),?_⟩
  refine aW (σ:=[some (.ref b),some (.ref r),none,none]) rfl ?_;have d8:=D.n8;have i4:=D.i4;obtain ⟨m,p,l,g,n1,n2,n3,Gm,Gp,Gl⟩:=id PQ;obtain ⟨um,gm,qm,_⟩:=id Gm;obtain ⟨up,gp,qp,_⟩:=id Gp;have lum:=qm.length;have lup:=qp.length;exists de λbl0 H1 s1 nbl g1=>?_
  have g':=s1 _ _ g;exists oi (s1 _ _ gm) (s1 _ _ gp) (aO (bO (by lia))) λcc H2 s2 nc gc=>?_
  have s02:=s1.trans s2;have qc:Paired (ia K H0 H2) (mv++pt) (um++up):=Paired.imp' (λ_ _ z=>ia.same z s02) (cz qm qp)
  have wc:∀xs∈mv++pt,xs.length=mv.length:=λxs hx=>by
   rcases av.mp hx with hx | hx
   ·exact D.mw xs hx
   ·exact D.pw xs hx
  have lc:(mv++pt).length=(um++up).length:=qc.length;rw[aF,aF] at lc;exists ⟨⟨_,bK.of gc⟩,?_⟩;refine i5 (K:=K) (a:=cc) (xs:=um++up) (λi σ' H'=>aG H2 H'/\∃bl ns y,σ'=[some (.ref b),some (.ref r),some (.ref bl),y]/\H' bl=some (.lst (ns.map V.int))/\1<=ns.length/\ns.length<=1+i*8/\∀j xs,j < i->(mv++pt)[j]?=some xs->∀x∈xs,Q0 x∈ns) ⟨aG.refl _,bl0,[1],_,rfl,s2 _ _ g1,by decide,by decide,λj xs h=>absurd h (Mn _)⟩ (λi σ' H' _ ⟨e,_⟩=>bK.of (e _ _ gc)) ?_ ?_
  ·rintro i v σ' H' hv ⟨e,bl,ns,y,rfl,gb,b1,b2,hn⟩;obtain ⟨xs,exs,u,rfl,_,zs,gz,qz⟩:=cH qc hv;have mx:=ao exs;have wx:=wc xs mx;have hi:i < (um++up).length:=(aU.mp hv).1;rw[aF] at hi;exists ⟨⟨_,bK.of (e _ _ gz)⟩,?_⟩;refine c6 (K:=K) (F:=bS K) (λ_ c x=>x=V.int (Q0 c)) id (e _ _ gz) (Paired.imp' (λ_ _ z=>z.same e) qz) (by lia) (λa b=>a.same b) (λa _=>a) ?_ ?_
   ·rintro j c x Ha NY NN ec sa ⟨pp,rfl,hp⟩ k1;have mc:=ao ec;have szc:=sz xs mx c mc;walk_at "w"
    have e1:(if (nm c).1 < 0 then -(nm c).1 else (nm c).1)=(c.num.natAbs:Int):=by
     show (if c.num < 0 then -c.num else c.num)=_
     split <;> lia
    have e2:(c.num.natAbs:Int).fdiv 1000=(c.num.natAbs:Int) / 1000:=bF _ (by decide);rw[e1];refine eZ (show nO _ _ from ⟨by decide,bc (show (1000:Int).natAbs < 2^20 by decide) (aD (by decide) (by decide))⟩) ?_;rw[e2];exists k1 _ _ (aG.refl _) rfl
   rintro ys Hb cl hcl sb gcl prl _
   have ey:ys=(xs.map Q0).map V.int:=by
    rw[Ma] at prl;rw[IS];exact BH prl
   have ly:=prl.length;rw[ag] at ly;have gbb:=sb _ _ gb;rw[ey] at gcl;exists oi gbb gcl (aO (bO (by rw[ag,ag,ag];lia))) λc2 Hc sc nc2 gc2=>?_
   rw[<- cn] at gc2;refine ⟨(e.trans sb).trans sc,c2,ns++xs.map Q0,_,rfl,gc2,by rw[aF];lia,by rw[aF,ag];lia,λj ys' hj ej x hx=>?_⟩;rcases nQ j i with z | z
   ·exact kz _ (hn j ys' z ej x hx)
   ·have:j=i:=by lia
    subst this;rw[exs] at ej;cases ej;exact bP _ (aw.mpr ⟨x,hx,rfl⟩)
  ·rintro σ' H' ⟨e,bl,ns,y,rfl,gb,b1,b2,hn⟩;have e0:=s02.trans e;have B':=hB.same e0;have PQ':=PQ.same e0;obtain ⟨m',p',l',g2,_,_,_,Gm',_,_⟩:=id PQ'
   have em:m'=m:=by
    have:=e0 _ _ g;rw[this] at g2;cases g2;rfl
   subst em;obtain ⟨um',gm',qm',_⟩:=id Gm';have lum':=qm'.length;have u0:cF b H H':=e0.upto;exists ⟨bl,ns,rfl,bK.of gb,by lia,λM hM hmax=>?_⟩;exists jh (λh=>?_) (λh=>?_)
   ·exists ⟨b,4,rfl,B',by decide,by decide,λv H3 v0 v1 B3 u3=>?_⟩;obtain ⟨v,rfl⟩:=cD v0;exact k v H3 ⟨by lia,.inl (by lia)⟩ B3 (u0.trans u3)
   ·have M9:M<=9:=by rw[decide_eq_true_eq] at h;lia
    have sm:∀xs∈mv++pt,∀x∈xs,x.den<=9/\x.num.natAbs < 1000:=λxs hx x hx'=>by
     obtain ⟨j,hj,rfl⟩:=bU hx;have:=hn j _ (by rw[aF,<- lum,<- lup];rw[aF] at hj;exact hj) (af hj) x hx';exact NR (Int.le_trans (hmax _ this) M9)
    exists ⟨_,_,rfl,.inl (bK.of gm'),?_⟩;rw[<- lum'];exists jh (λh1=>?_) (λh1=>?_)
    ·have n5:5 < mv.length:=by have:=of_decide_eq_true h1;lia
     exists ⟨b,4,rfl,B',by decide,by decide,λv H3 v0 v1 B3 u3=>?_⟩;obtain ⟨v,rfl⟩:=cD v0;obtain ⟨m3,p3,l3,g3,_,_,_,Gm3,_,_⟩:=PQ'.upto u3 B' nb;obtain ⟨um3,gm3,qm3,_⟩:=id Gm3;have lum3:=qm3.length;exists ⟨_,_,rfl,.inl (bK.of gm3),?_⟩;rw[<- lum3];exists de λl4 H4 s4 n4 g4=>?_
     exists ⟨b,2,rfl,B3.same s4,by decide,by decide,λv2 H5 v20 v21 B5 u5=>?_⟩;have g5:=u5.other (λz=>B3.at (by rw[<- z];exact n4)) g4;obtain ⟨x,ex,mx,_⟩:=kf (xs:=[V.int (v:Int),V.int (mv.length:Int)]) v20 (by simpa using v21);exists cp (bK.of g5) ex ?_;have u05:=(u0.trans (u3.same s4)).trans u5;simp only[aH,aY,or_false] at mx;rcases mx with rfl | rfl
     ·exact k v H5 ⟨by lia,.inl (by lia)⟩ B5 u05
     ·exact k mv.length H5 ⟨by lia,.inr ⟨sm,λ_=>ar _,λ_ _=>Ck _⟩⟩ B5 u05
    ·have n5:mv.length<=5:=by rw[decide_eq_true_eq] at h1;lia
     exists ⟨_,_,rfl,.inl (bK.of gm'),?_⟩;rw[<- lum'];have last:∀(Hx:Hp),ig Hx b->cF b H Hx->∀(v:Nat),v < 2+mv.length->Q (.int v) Hx:=λHx Bx ux v hv=>k v Hx ⟨by lia,.inr ⟨sm,λz=>by lia,λ_ _=>by lia⟩⟩ Bx ux
     exists jh (λh2=>?_) (λh2=>?_)
     ·have n3':mv.length < 3:=by have:=of_decide_eq_true h2;lia
      exists ⟨b,8,rfl,B',by decide,by decide,λv H3 v0 v1 B3 u3=>?_⟩;exists jh (λh3=>?_) (λh3=>?_)
      ·exists ⟨b,13,rfl,B3,by decide,by decide,λv4 H4 v40 v41 B4 u4=>?_⟩;obtain ⟨v4,rfl⟩:=cD v40;exact k v4 H4 ⟨by lia,.inr ⟨sm,λz=>by lia,λz _=>by lia⟩⟩ B4 ((u0.trans u3).trans u4)
      ·obtain ⟨m3,p3,l3,g3,_,_,_,Gm3,_,_⟩:=PQ'.upto u3 B' nb;obtain ⟨um3,gm3,qm3,_⟩:=id Gm3;have lum3:=qm3.length;exists ⟨_,_,rfl,.inl (bK.of gm3),?_⟩;rw[<- lum3];walk_at "w";rw[show ((2:Int)+(mv.length:Int))=((2+mv.length:Nat):Int) by lia];refine ⟨b,2+mv.length,rfl,B3,by lia,by lia,λv4 H4 v40 v41 B4 u4=>?_⟩;obtain ⟨v4,rfl⟩:=cD v40;exact last H4 B4 ((u0.trans u3).trans u4) v4 (by lia)
     ·exists ⟨_,_,rfl,.inl (bK.of gm'),?_⟩;rw[<- lum'];walk_at "w";rw[show ((2:Int)+(mv.length:Int))=((2+mv.length:Nat):Int) by lia];refine ⟨b,2+mv.length,rfl,B',by lia,by lia,λv4 H4 v40 v41 B4 u4=>?_⟩;obtain ⟨v4,rfl⟩:=cD v40;exact last H4 B4 (u0.trans u4) v4 (by lia)
theorem Fh:∃x1 x2 x3 x4 x5 x6 x7 x8 x9:Expr,x1=(Expr.Constant (Const.int 8) 0 ⟨386,60,386,61⟩)/\x2=(Expr.Constant (Const.int 8) 0 ⟨386,63,386,64⟩)/\x3=(Expr.Constant (Const.int 8) 0 ⟨386,66,386,67⟩)/\x4=(Expr.Constant (Const.int 5) 0 ⟨386,69,386,70⟩)/\x5=(Expr.Constant (Const.int 4) 0 ⟨386,72,386,73⟩)/\x6=(Expr.Constant (Const.int 3) 0 ⟨386,75,386,76⟩)/\x7=(Expr.Constant (Const.int 2) 0 ⟨386,78,386,79⟩)/\x8=(Expr.Constant (Const.int 2) 0 ⟨386,81,386,82⟩)/\x9=(Expr.Constant (Const.int 2) 0 ⟨386,84,386,85⟩)/\fA pN=[ (Stmt.Return (value:=(some (Expr.Call (func:=(Expr.Name "min" ⟨386,11,386,14⟩)) (args:=[ (Expr.Call (func:=(Expr.Name "_law_steps" ⟨386,15,386,25⟩)) (args:=[(Expr.Name "_law_bag_here" ⟨386,26,386,39⟩),(Expr.Name "_law_parts_here" ⟨386,41,386,56⟩)]) (keywords:=[]) (pos:=⟨386,15,386,57⟩)),(Expr.Subscript (value:=(Expr.List (elts:=[x1,x2,x3,x4,x5,x6,x7,x8,x9]) (pos:=⟨386,59,386,86⟩))) (slice:=(Expr.Call (func:=(Expr.Name "len" ⟨386,87,386,90⟩)) (args:=[ (Expr.Subscript (value:=(Expr.Name "_law_parts_here" ⟨386,91,386,106⟩)) (slice:=(Expr.Constant (Const.int 0) 0 ⟨386,107,386,108⟩)) (pos:=⟨386,91,386,109⟩))]) (keywords:=[]) (pos:=⟨386,87,386,110⟩))) (pos:=⟨386,59,386,111⟩))]) (keywords:=[]) (pos:=⟨386,11,386,112⟩)))) (pos:=⟨386,4,386,112⟩))]:=⟨_,_,_,_,_,_,_,_,_,rfl,rfl,rfl,rfl,rfl,rfl,rfl,rfl,rfl,by with_unfolding_all rfl⟩
theorem EF:a7 ["_law_bag_here","_law_parts_here"] ["_law_bag_here","_law_parts_here"] (aI pN):=by walk_at "d"
theorem EO (T:Txt K mg Z) (ptree:P.given.tree=none):cO P w K mg base iI 3 Z.AK Z.Aq ["_law_bag_here","_law_parts_here"] (Kg K):=by
 have DU:=A0 (P:=P) (w:=w) (base:=base) T ptree;refine T.rY.F.ok EF (λvs H Q E h=>?_) (λcdv A outer s H vs Q E hr h=>?_)
 ·obtain ⟨b,r,H0,mv,pt,lk,rfl,_⟩:=h;rfl
 ·obtain ⟨b,r,H0,mv,pt,lk,rfl,B,nb,P,D,sz,k⟩:=h;obtain ⟨x1,x2,x3,x4,x5,x6,x7,x8,x9,hx1,hx2,hx3,hx4,hx5,hx6,hx7,hx8,hx9,hbd⟩:=Fh;rw[hbd];refine ⟨_,(aB (bo (bG (o5 rfl) (by rfl) T.min PyProof.Rows.boot_min (aa (cE DU hr T.ox (aa (pv 0) (aa (pv 1) ai))) (aa (aT bw (dZ (cR hx1 aj (cR hx2 aj (cR hx3 aj (cR hx4 aj (cR hx5 aj (cR hx6 aj (cR hx7 aj (cR hx8 aj (cR hx9 aj ai)))))))))) (bG bx (by rfl) T.len bg (aa (aT bJ (pv 1) aj) ai))) ai))))),?_⟩;refine aW (σ:=[some (.ref b),some (.ref r)]) rfl ?_;have d8:=D.n8;exists ⟨b,r,H0,mv,pt,lk,rfl,B,nb,P,D,sz,λtt H1 hT B1 u1=>?_⟩;obtain ⟨m,p,l,gt,mn,pn,ln,Gm,Gp,Gl⟩:=P.upto u1 B nb;obtain ⟨um,gm,qm,_⟩:=id Gm;have lum:=qm.length;exists de λl2 H2 s2 n2 g2=>?_
  have gt2:=s2 _ _ gt;exists ⟨_,_,rfl,.inl (bK.of (s2 _ _ gm)),?_⟩;rw[<- lum];obtain ⟨v,ev,v8,v4,v5,v6⟩:=Qu mv.length d8;exists cp (bK.of g2) (gF ev) ?_;walk_at "w";rw[show (if (v:Int) < (tt:Int) then (v:Int) else (tt:Int))=((min tt v:Nat):Int) by split <;> lia];refine k (min tt v) H2 ⟨hT.less (by lia),by lia,λh=>?_,λh=>by have:=v5 h;lia,λh=>by have:=v6 h;lia⟩ (B1.same s2) (u1.same s2);by_cases z:4<=mv.length
  ·have:=v4 z;lia
  ·obtain ⟨_,y | ⟨_,_,y⟩⟩:=hT
   ·lia
   ·have:=y h (by lia);lia
theorem oQ:a7 ["top","bottom","divisor"] ["top","bottom"] (aI zC):=by walk_at "d"
theorem oT (T:Txt K mg Z) (ptree:P.given.tree=none):cO P w K mg base iI 2 Z.Fj Z.E7 ["top","bottom"] Jb:=by
 have eo:=iM (P:=P) (w:=w) (base:=base) T ptree;refine T.kO.F.ok oQ (λvs H Q E h=>?_) (λcdv A outer s H vs Q E hr h=>?_)
 ·obtain ⟨t,b,rfl,_⟩:=h;rfl
 ·obtain ⟨t,b,rfl,hb,hs,k⟩:=h
  refine ⟨_,(au (aV (i:=2) oQ.nd rfl (Or.inl rfl) (cE eo hr T.fz (aa (pv 0) (aa (pv 1) ai))))
   (au (fL (bI rS (pv 1) aj (bL _)) (aB (aV (i:=2) oQ.nd rfl (Or.inl rfl) (tF nR (pv 2)))) cK)
   (aB (bo (cG (aa (bq (hJ rfl oQ rfl rfl rfl ptree (oW hr)) (pv 0) (pv 2)) (aa (bq (hJ rfl oQ rfl rfl rfl ptree (oW hr)) (pv 1) (pv 2)) ai))))))),?_⟩
  refine aW (σ:=[some (.int t),some (.int b),none]) rfl ?_;exists ⟨t,b,rfl,?_⟩;have hg:=Ae (t:=t) hb
  have hgs:Sz 8999000 (g t b):=hs.le (by
   have h1:(g t b).natAbs=Int.gcd t b:=by unfold g;simp
   rw[h1];exact jQ (by lia) (by have:=fI (a:=t) (b:=b);exact fU.mpr this |> λz=>by simpa using z))
  have hgn:g (-t) (-b)=g t b:=by unfold g;rw[Int.gcd_neg,Int.neg_gcd]
  exists jh (λh=>?_) (λh=>?_)
  ·have hb0:b < 0:=of_decide_eq_true h;exists eZ (show nO _ _ from ⟨by lia,hgs.neg⟩) ?_;exists eZ (show nO _ _ from ⟨by lia,hgs.neg⟩) ?_;exists bV λr H' s' h'=>?_
   have e1:t.fdiv (-g t b)=lo (-t) (-b):=by
    unfold Nm.lo;rw[hgn,<- bF _ (by lia),<- Int.neg_fdiv_neg (-t),Mc]
   have e2:b.fdiv (-g t b)=hi (-t) (-b):=by
    unfold Nm.hi;rw[hgn,<- bF _ (by lia),<- Int.neg_fdiv_neg (-b),Mc]
   exact k r H' s' (by rw[if_pos hb0,if_pos hb0,<- e1,<- e2];exact h')
  ·have hb0:¬b < 0:=λz=>h (decide_eq_true z)
   exists eZ (show nO _ _ from ⟨by lia,hgs⟩) ?_;exists eZ (show nO _ _ from ⟨by lia,hgs⟩) ?_;exists bV λr H' s' h'=>?_
   rw[bF _ (by lia),bF _ (by lia)] at h';exact k r H' s' (by rw[if_neg hb0,if_neg hb0];exact h')
theorem CG:a7 ["one","other"] ["one","other"] (aI rf):=by walk_at "d"
theorem De (T:Txt K mg Z) (ptree:P.given.tree=none):cO P w K mg base iI 1 Z.yt Z.yb ["one","other"] (Hv K):=by
 refine T.pS.F.ok CG (λvs H Q E h=>?_) (λcdv A outer s H vs Q E hr h=>?_)
 ·obtain ⟨p,q,a,b,k,j,rfl,_⟩:=h;rfl
 ·obtain ⟨p,q,a,b,k,j,rfl,ga,gb,hl,h100,sa,sb,kj,kk⟩:=h;refine ⟨_,(aB (bo (bG (Ax rfl) (by rfl) T.sum PyProof.Rows.boot_sum (aa (cb ["mine","yours"] [] [] (C1 rfl T.zip (aa (pv 0) (aa (pv 1) ai))) (λ_=>(sX K 2 (cQ (aP (i:=0) (show ND9 ["mine","yours"] by decide +kernel)) (cQ (aP (i:=1) (show ND9 ["mine","yours"] by decide +kernel)) jX)))) (λ_=>cu) (λ_=>(bq cy (pv 0) (pv 1)))) ai)))),?_⟩;refine aW (σ:=[some (.ref p),some (.ref q)]) rfl ?_;exists ⟨⟨_,bK.of ga⟩,⟨_,bK.of gb⟩,?_⟩;refine Av (K:=K) (xs:=a.map V.int) (ws:=b.map V.int) (λi ys H'=>aG H H'/\ys=((List.zipWith (λx y=>x*y) a b).take i).map V.int) (aO (bO (by rw[ag];lia))) (by rw[ag,ag];lia) ⟨aG.refl _,rfl⟩ (λi ys H' _ ⟨s,_⟩=>⟨bK.of (s _ _ ga),bK.of (s _ _ gb)⟩) ?_ ?_
  ·rintro i x y ys H' r hx hy hlen ⟨s',rfl⟩ hr;rw[ay] at hx hy;obtain ⟨u,eu,rfl⟩:=nP.mp hx;obtain ⟨v,ev,rfl⟩:=nP.mp hy;have sr:aG H' (upd H' r (.tup [.int u,.int v])):=aG.new hr;have gr:(upd H' r (.tup [.int u,.int v])) r=some (.tup [.int u,.int v]):=aK;generalize upd H' r (.tup [.int u,.int v])=H2 at sr gr ⊢;exists eZ (show fD _ _ from .inr ⟨_,_,sa u (ao eu),sb v (ao ev),kj⟩) ?_;have ez:(List.zipWith (λx y=>x*y) a b)[i]?=some (u*v):=by rw[bR,eu,ev]
   exact ⟨s'.trans sr,by rw[take_snoc ez];simp⟩
  rintro ys H' hy ⟨s',rfl⟩ l hl';exists ⟨l,List.zipWith (λx y=>x*y) a b,rfl,bK.of (by rw[aK,aA (by rw[bC,ag];lia)]),?_⟩;exact kk _ (s'.trans (aG.new hl'))
theorem EB:a7 ["lines","tops"] ["lines","tops"] (aI ur):=by walk_at "d"
theorem xX (T:Txt K mg Z) (ptree:P.given.tree=none):cO P w K mg base iI 2 Z.AB Z.Ai ["lines","tops"] (Kd K):=by
 have Fq:=De (P:=P) (w:=w) (base:=base) T ptree;refine T.lH.F.ok EB (λvs H Q E h=>?_) (λcdv A outer s H vs Q E hr h=>?_)
 ·obtain ⟨p,q,ls,b,k,j,rfl,_⟩:=h;rfl
 ·obtain ⟨p,q,ls,b,k,j,rfl,G,gb,hw,l100,b100,sk,sj,kj,kk⟩:=h;refine ⟨_,(aB (bo (cb ["line"] ["tops"] [1] (cg (pv 0)) (λ_=>(aP (i:=0) (show ND9 ["line","tops"] by decide +kernel))) (λ_=>cu) (λ_=>(cE Fq hr T.pS (aa (pv 0) (aa (pv 1) ai))))))),?_⟩;refine aW (σ:=[some (.ref p),some (.ref q)]) rfl ?_;obtain ⟨xs,gx,qx⟩:=id G;have lx:=qx.length;exists ⟨⟨_,bK.of gx⟩,?_⟩;refine c6 (K:=K) (as:=ls) (F:=RI) (λ_ z y=>y=V.int z) (λl=>Be l b) gx qx (by lia) (λh s=>h.same s) (λh _=>h) ?_ ?_
  ·rintro i c x H' NY NN ec s' ⟨u,rfl,gu⟩ k1;have mc:=ao ec;exists ⟨u,q,c,b,k,j,rfl,gu,s' _ _ gb,(hw c mc).symm,by rw[hw c mc];lia,sk c mc,sj,kj,λH2 s2=>k1 _ _ s2 rfl⟩
  rintro ys H2 l hl s2 g2 pr _;have ey:ys=(rT ls b).map V.int:=pP pr;refine kk l _ hl s2 (by rw[g2,ey])
theorem xQ:a7 ["whole","state","bottom"] ["whole","state"] (aI uu):=by walk_at "d"
theorem xY (T:Txt K mg Z) (ptree:P.given.tree=none):cO P w K mg base iI 4 Z.AD Z.Aj ["whole","state"] (HF K):=by
 have cS:=hX (P:=P) (w:=w) (base:=base) T ptree;have ks:=oT (P:=P) (w:=w) (base:=base) T ptree;have qq:=xX (P:=P) (w:=w) (base:=base) T ptree;have eY:=jZ (P:=P) (w:=w) (base:=base) T ptree;refine T.nv.F.ok xQ (λvs H Q E h=>?_) (λcdv A outer s H vs Q E hr h=>?_)
 ·obtain ⟨t,p,s,ls,b,M,xs,k9,j9,rfl,_⟩:=h;rfl
 ·obtain ⟨t,p,s,ls,b,M,xs,k9,j9,rfl,gt,G,l20,wl,Rs,x20,hM,sk,k1e,b0,sb,j1e,k⟩:=h
  refine ⟨_,(au (aV (i:=2) xQ.nd rfl (Or.inr rfl) (cE cS hr T.dh (aa (pv 1) ai)))
   (aB (bo (cb ["value"] ["whole","bottom"] [0,2] (cg (cE qq hr T.lH (aa (aT bJ (pv 0) aj) (aa (cE eY hr T.fO (aa (pv 1) (aa (pv 2) ai))) ai)))) (λ_=>(aP (i:=0) (show ND9 ["value","whole","bottom"] by decide +kernel))) (λ_=>cu) (λ_=>(cE ks hr T.kO (aa (pv 0) (aa (bq cy (aT (jg K (by rfl)) (pv 1) aj) (pv 2)) ai)))))))),?_⟩
  refine aW (σ:=[some (.ref t),some (.ref s),none]) rfl ?_;obtain ⟨c0,sc⟩:=hM.bot;have lm:(xs.map nm).length=xs.length:=ag ..;exists ⟨s,xs.map nm,M,rfl,Rs.rowK,by lia,hM,λH1 t1=>?_⟩;have gt1:=t1 _ _ gt;exists ⟨s,xs.map nm,M,_,rfl,(Rs.same t1).rowK,by lia,hM,c0,sc,λr2 H2 n2 t2 g2=>?_⟩;have t02:=t1.trans t2;have lt:(bW (xs.map nm) (cA (xs.map nm))).length=xs.length:=by unfold bW;rw[ag,lm]
  exists ⟨p,r2,ls,_,k9,8800000,rfl,G.same t02,g2,λl hl=>by rw[wl l hl,lt],by lia,by lia,sk,λz hz=>qW hM c0 sc hz,k1e,λr3 H3 n3 t3 g3=>?_⟩;have t03:=t02.trans t3;exists ⟨⟨_,bK.of g3⟩,?_⟩;have b1:b*cA (xs.map nm)≠0:=λz=>(Int.mul_eq_zero.mp z).elim b0 (by lia)
  refine c6 (K:=K) (as:=rT ls (bW (xs.map nm) (cA (xs.map nm)))) (F:=λ_ z x=>x=V.int z) (bS K) (λ(z:Int)=>(z:Rat) / ((b*cA (xs.map nm):Int):Rat)) g3 mP (by unfold rT;rw[ag];lia) (λh _=>h) (λh s=>h.same s) ?_ ?_
  ·rintro j z v H4 NY NN ez s4 rfl k2;have gt4:=s4 _ _ (t03 _ _ gt);exists eZ (show fD _ _ from .inr ⟨j9,4400000,sb,sc,by lia⟩) ?_;exists ⟨z,_,rfl,b1,(sb.mul sc).mono j1e,λr5 H5 s5 g5=>?_⟩;exact k2 _ _ s5 (bS.mk g5 (K8 b1))
  rintro ys H4 r nr s4 g4 pr _;refine k r H4 (t03.none nr) (t03.trans s4) ⟨ys,g4,?_⟩
  have e:(rT ls (bW (xs.map nm) (cA (xs.map nm)))).map (λ(z:Int)=>(z:Rat) / ((b*cA (xs.map nm):Int):Rat))=zT ls b xs:=by
   unfold rT zT;rw[IS];refine List.map_congr_left λl hl=>?_
   have B0:((cA (xs.map nm):Int):Rat)≠0:=λz=>by have:=mS z;lia
   have bb:(b:Rat)≠0:=λz=>b0 (mS z)
   show ((Be l _:Int):Rat) / _=_
   rw[xu (n:=xs.length) (wl l hl) lt,aJ]
   have e1:(aM xs.length λj=>((l.getD j 0:Int):Rat)*(((bW (xs.map nm) (cA (xs.map nm))).getD j 0:Int):Rat))=((cA (xs.map nm):Int):Rat)*aM xs.length λj=>((l.getD j 0:Int):Rat)*xs.getD j 0:=by
    rw[<- cw];refine aE λj _=>?_
    rw[IX (λx hx=>o7 (List.mem_map_of_mem hx))];grind
   rw[e1];grind
  rw[<- e];exact pr
theorem CL:a7 ["lists","joined","each"] ["lists"] (aI FX):=by walk_at "d"
theorem Dl (T:Txt K mg Z) (ptree:P.given.tree=none):cO P w K mg base iI 1 Z.LO Z.Lz ["lists"] Ey:=by
 refine T.sZ.F.ok CL (λvs H Q E h=>?_) (λcdv A outer s H vs Q E hr h=>?_)
 ·obtain ⟨p,us,zss,rfl,_⟩:=h;rfl
 ·obtain ⟨p,us,zss,rfl,gx,qx,hl,k⟩:=h
  refine ⟨_,(au (aV (i:=1) CL.nd rfl (Or.inl rfl) (dZ ai))
   (au (eR PassesOwn.never rfl (cg (pv 0)) (aP (i:=2) CL.nd)
    (aB (jW (xU dA PySem.F.slot_list_extend PySem.F.type_list_extend Jr (pv 1) (aa (pv 2) ai)))))
   (aB (bo (pv 1))))),?_⟩
  refine aW (σ:=[some (.ref p),none,none]) rfl ?_;have lx:=qx.length;exists de λj H1 s1 n1 g1=>?_
  exists ⟨⟨_,bK.of (s1 _ _ gx)⟩,?_⟩;refine i5 (K:=K) (a:=p) (xs:=us) (λi σ' H'=>aG H H'/\∃x:Option V,σ'=[some (.ref p),some (.ref j),x]/\H' j=some (.lst (zss.take i).flatten)) ⟨s1,none,rfl,g1⟩ (λi σ' H' _ ⟨s,_⟩=>bK.of (s _ _ gx)) ?_ ?_
  ·rintro i x σ' H' hx ⟨s,y,rfl,gj⟩;obtain ⟨zs,ez,q,rfl,gz⟩:=cH qx hx;have tl:(zss.take (i+1)).flatten=(zss.take i).flatten++zs:=by rw[take_snoc ez,List.flatten_append];simp
   have bl:(zss.take i).flatten.length+zs.length<=1000:=by
    have e:zss.flatten=(zss.take (i+1)).flatten++(zss.drop (i+1)).flatten:=by rw[<- List.flatten_append,List.take_append_drop]
    rw[e,tl,aF,aF] at hl
    lia
   exists ⟨.inl ⟨rfl,_,bK.of gj⟩,?_⟩;exists ⟨j,q,_,zs,rfl,rfl,gj,s _ _ gz,aO (bO (by lia)),?_⟩;exact ⟨s.after n1,_,rfl,by rw[aK,tl]⟩
  ·rintro σ' H' ⟨s,y,rfl,gj⟩;rw[aA (by lia)] at gj;exists k j H' n1 s gj
theorem tD:a7 ["grid","bottom"] ["grid"] (aI pH):=by walk_at "d"
theorem AZ (T:Txt K mg Z) (ptree:P.given.tree=none):cO P w K mg base iI 4 Z.we Z.vP ["grid"] (Ek K):=by
 have cS:=hX (P:=P) (w:=w) (base:=base) T ptree;have xK:=Dl (P:=P) (w:=w) (base:=base) T ptree;have eY:=jZ (P:=P) (w:=w) (base:=base) T ptree;refine T.ou.F.ok tD (λvs H Q E h=>?_) (λcdv A outer s H vs Q E hr h=>?_)
 ·obtain ⟨p,H0,rows,M,rfl,_⟩:=h;rfl
 ·obtain ⟨p,H0,rows,M,rfl,G,hl,r1000,w1000,hM,k⟩:=h
  refine ⟨_,(au (aV (i:=1) tD.nd rfl (Or.inr rfl) (cE cS hr T.dh (aa (cE xK hr T.sZ (aa (pv 0) ai)) ai)))
   (aB (bo (cG (aa (cb ["row"] ["bottom"] [1] (cg (pv 0)) (λ_=>(aP (i:=0) (show ND9 ["row","bottom"] by decide +kernel))) (λ_=>cu) (λ_=>(cE eY hr T.fO (aa (pv 0) (aa (pv 1) ai))))) (aa (pv 1) ai)))))),?_⟩
  refine aW (σ:=[some (.ref p),none]) rfl ?_;have hM':=hM;obtain ⟨b1,s1⟩:=hM.bot;obtain ⟨xs,gx,qx,_⟩:=id G;have lx:=qx.length;walk_at "w";obtain ⟨zss,pz,pq⟩:=zG qx;have pf:=lZ pq;have lf:=pf.length;refine ⟨p,xs,zss,rfl,gx,pz,by lia,λr1 H1 n1 t1 g1=>?_⟩;have R1:bX K H1 r1 rows.flatten:=⟨_,g1,Paired.imp' (λ_ _ z=>z.same t1) pf⟩;exists ⟨r1,rows.flatten.map nm,M,rfl,R1.rowK,by rw[ag];exact hl,hM,λH2 t2=>?_⟩;have t02:=t1.trans t2;have g2:=t02 _ _ gx;exists ⟨⟨_,bK.of g2⟩,?_⟩;refine c6 (K:=K) (as:=rows) (F:=ia K H0) RI (λxs=>bW (xs.map nm) (qO rows)) g2 (Paired.imp' (λ_ _ z=>ia.same z t02) qx) r1000 (λh s=>h.same s) (λh s=>h.same s) ?_ ?_
  ·rintro i c x H' NY NN ec s' ⟨u,rfl,_,Ru⟩ k1;have mc:=ao ec;exists ⟨u,c.map nm,M,qO rows,rfl,Ru.rowK,by rw[ag];exact w1000 c mc,⟨hM.1,hM.2.1,λn hn=>hM.2.2 n ?_⟩,b1,s1,λr3 H3 n3 t3 g3=>k1 _ _ t3 ⟨r3,rfl,g3⟩⟩;obtain ⟨y,hy,rfl⟩:=aw.mp hn;exact aw.mpr ⟨y,cJ.mpr ⟨c,mc,hy⟩,rfl⟩
  rintro ys H3 l hl3 s3 g3 pr _;exists bV λt4 H4 s4 g4=>?_
  exact k t4 l H4 g4 ((t02.trans s3).trans s4) (GI.same ⟨ys,g3,pr⟩ s4)
theorem zx:a7 ["grid","wide"] ["grid","wide"] (aI nW):=by walk_at "d"
theorem rV (T:Txt K mg Z) (ptree:P.given.tree=none):cO P w K mg base iI 1 Z.tU Z.tK ["grid","wide"] (El K):=by
 refine T.j4.F.ok zx (λvs H Q E h=>?_) (λcdv A outer s H vs Q E hr h=>?_)
 ·obtain ⟨p,w,H0,rows,rfl,_⟩:=h;rfl
 ·obtain ⟨p,w,H0,rows,rfl,hp,hz,hw,hl,kk⟩:=h;refine ⟨_,(aB (bo (cb ["place"] ["grid"] [0] (cv rfl T.range (aa (pv 1) ai)) (λ_=>(aP (i:=0) (show ND9 ["place","grid"] by decide +kernel) rfl (Or.inr rfl) (Or.inl rfl))) (λ_=>cu) (λ_=>(cb ["line"] ["place"] [0] (vz K (pv 1)) (λ_=>(aP (i:=0) (show ND9 ["line","place"] by decide +kernel))) (λ_=>cu) (λ_=>(aT (oV K (by rfl)) (pv 0) (pv 1)))))))),?_⟩;refine aW (σ:=[some (.ref p),some (.int w)]) rfl ?_;exists ⟨by lia,by lia,?_⟩;refine jL (n:=w) (ia K H) (λj=>rows.map λxs=>xs.getD j 0) hw (λa b=>a.same b) ?_ ?_
  ·rintro j H1 NY NN hj s1 k1;obtain ⟨xs,gx,qx,_⟩:=hp.same s1;exists ⟨⟨_,bK.of gx⟩,?_⟩;refine c6 (K:=K) (F:=ia K H0) (bS K) (λxs=>xs.getD j 0) gx qx hz (λa b=>a.same b) (λa b=>a.same b) ?_ ?_
   ·rintro i ns x H2 NY2 NN2 en s2 ⟨u,rfl,_,zs,gz,qz⟩ k2;obtain ⟨v,ev,hv⟩:=Gq qz (j:=j) (by rw[hl ns (ao en)];exact hj);exists cp (bK.of gz) ev ?_;exact k2 _ _ (aG.refl _) hv
   ·rintro ys' H2 r hr s2 g pr nx;exact k1 _ _ s2 ⟨r,rfl,s1.none hr,ys',g,pr⟩
  ·rintro ys' H1 r hr s1 g pr nx;exact kk r H1 hr s1 ⟨ys',g,pr,vI nx⟩
theorem cP:a7 ["self","behind","system","sides","later","bottom","own","lines","place","line"] ["self","behind"] (aI fk):=by walk_at "d"
theorem uJ (T:Txt K mg Z) (ptree:P.given.tree=none):cO P w K mg base iI 5 Z.ko Z.kd ["self","behind"] (Eo K Z.a_System Z.a_Costs):=by
 have DT:=AZ (P:=P) (w:=w) (base:=base) T ptree;have oK:=rV (P:=P) (w:=w) (base:=base) T ptree;have qq:=xX (P:=P) (w:=w) (base:=base) T ptree;have sQ:=vA (P:=P) (w:=w) (base:=base) T ptree;refine T.nN.ok cP (λvs H Q E h=>?_) (λcdv A outer s H vs Q E hr h=>?_)
 ·obtain ⟨x,kn,t,p,H0,mv,pt,lk,qs,rs,wl,wb,sg,om,b,rfl,_⟩:=h;rfl
 ·obtain ⟨x,kn,t,p,H0,mv,pt,lk,qs,rs,wl,wb,sg,om,b,rfl,CQ,D,F,gt,GW,lw,ww,sw,swb,sz,k⟩:=h
  refine ⟨_,(au (aV (i:=2) cP.nd rfl (Or.inl rfl) (eS (pv 0) rfl))
   (au (aV (i:=3) cP.nd rfl (Or.inr rfl) (cE DT hr T.ou (aa (bq oo (eS (pv 2) rfl) (cE oK hr T.j4 (aa (eS (pv 2) rfl) (aa (eS (pv 2) rfl) ai)))) ai)))
   (au (nh 4 ["side"] ["sides","behind"] [3,1] cP.nd rfl rfl (cg (aT (jg K (by rfl)) (pv 3) aj)) (λ_=>(aP (i:=0) (show ND9 ["side","sides","behind"] by decide +kernel))) (λ_=>cu) (λ_=>(cE qq hr T.lH (aa (aT (jg K (by rfl)) (pv 1) aj) (aa (cE qq hr T.lH (aa (aT (jg K (by rfl)) (pv 2) aj) (aa (pv 0) ai))) ai)))))
   (au (aV (i:=5) cP.nd rfl (Or.inl rfl) (bq cy (bq cy (aT bJ (pv 3) aj) (aT bJ (pv 3) aj)) (aT bJ (pv 1) aj)))
   (au (aV (i:=6) cP.nd rfl (Or.inr rfl) (cE sQ hr T.l9 (aa (bq oo (eS (pv 0) rfl) (eS (pv 0) rfl)) ai)))
   (au (nh 7 ["line"] ["own"] [6] cP.nd rfl rfl (cg (pv 4)) (λ_=>(aP (i:=0) (show ND9 ["line","own"] by decide +kernel))) (λ_=>cu) (λ_=>(cb ["value"] ["own"] [1] (vz K (pv 0)) (λ_=>(aP (i:=0) (show ND9 ["value","own"] by decide +kernel))) (λ_=>cu) (λ_=>(bq cy (pv 0) (aT (jg K (by rfl)) (pv 1) aj))))))
   (au (eR PassesOwn.never rfl (C5 rfl T.enumerate (aa (aT bJ (pv 6) aj) ai)) (xi rfl (cQ (aP (i:=8) cP.nd) (cQ (aP (i:=9) cP.nd) jX)))
    (aB (iH (bq gh (aT bw (aT bw (pv 7) (pv 8)) (pv 8)) (bq cy (aT bw (pv 9) (pv 8)) (pv 5))) (jA (aT bw (pv 7) (pv 8)) (pv 8) set_list))))
   (aB (bo (cG (aa (pv 7) (aa (bq cy (pv 5) (aT (jg K (by rfl)) (pv 6) aj)) ai)))))))))))),?_⟩
  refine aW (σ:=[some (.ref x),some (.ref t),none,none,none,none,none,none,none,none]) rfl ?_;have d8:=D.n8;have i4:=D.i4;obtain ⟨dx,sy,a1,a2,a3,gx,S,R1,R2⟩:=id CQ;obtain ⟨dy,am,ap,al,gy,m1,m2,m3,Gm,Gp,Gl⟩:=id S;obtain ⟨up,gp,qp,_⟩:=id Gp;have lup:=qp.length;exists ⟨x,Z.a_Costs,dx,_,_,rfl,gx,T.cl_Costs,T.na_Costs_system,tj,?_⟩;exists ⟨sy,Z.a_System,dy,_,_,rfl,gy,T.cl_System,T.na_put,Hq,?_⟩;exists ⟨sy,Z.a_System,dy,_,_,rfl,gy,T.cl_System,T.na_move,Ei,?_⟩;exists ⟨sy,Z.a_System,dy,_,_,rfl,gy,T.cl_System,T.na_states,zj,?_⟩;exists ⟨am,mv.length,H0,mv,rfl,Gm,by lia,by lia,D.mw,λr1 H1 n1 s1 G1=>?_⟩;obtain ⟨u1,g1,q1,_⟩:=id G1;have lu1:=q1.length;have et:(m8 mv mv.length).length=mv.length:=mi;exists oi (s1 _ _ gp) g1 (aO (bO (by lia))) λr2 H2 s2 n2 g2=>?_
  have s02:=s1.trans s2;have P2:Paired (ia K (λ_=>none) H2) (il mv pt) (up++u1):=cz (Paired.imp' (λ_ _ ⟨q,e,_,R⟩=>⟨q,e,rfl,R.same s02⟩) qp) (Paired.imp' (λ_ _ ⟨q,e,_,R⟩=>⟨q,e,rfl,R.same s2⟩) q1);have G2:cx K (λ_=>none) H2 r2 (il mv pt):=⟨_,g2,P2,vI ⟨H1,n2,cz (Paired.imp' (λ_ _ ⟨q,e,_,R⟩=>⟨q,e,rfl,R.same s1⟩) qp) (Paired.imp' (λ_ _ ⟨q,e,_,R⟩=>⟨q,e,rfl,R⟩) q1)⟩⟩;have sl:=zw (mv:=mv) (pt:=pt);have sdw:=yT D;have fl:(il mv pt).flatten.length<=96:=ak (y0 (m:=8) λxs hx=>by rw[sdw xs hx];exact d8) (by lia);obtain ⟨Ms,hMs⟩:=F.ms;obtain ⟨Mo,hMo⟩:=F.mo;have ss:=F.ss;have sbb:=F.sb;have os:=F.os;have obb:=F.ob;have lS:(nU (il mv pt)).length=pt.length+mv.length:=by rw[uY,sl]
  have wS:=wN sdw;exists ⟨r2,_,_,Ms,rfl,G2,by lia,by lia,λxs hx=>by rw[sdw xs hx];lia,hMs,λt3 r3 H3 g3 s3 G3=>?_⟩;have s03:=s02.trans s3;generalize hS:nU (il mv pt)=S9 at G3 ss lS wS;generalize hB:qO (il mv pt)=B9 at g3 sbb;obtain ⟨u3,gu3,qu3⟩:=id G3;have lu3:=qu3.length;have gt3:=s03 _ _ gt;exists ⟨⟨_,bK.of gu3⟩,?_⟩;refine c6 (K:=K) (as:=S9) (F:=RI) RI (λs=>rT S9 (rT wl s)) gu3 qu3 (by lia) (λh s=>h.same s) (λh s=>h.same s) ?_ ?_
  ·rintro i c v H' NY NN ec s' ⟨u,rfl,gc⟩ k1;have mc:=ao ec;have gt':=s' _ _ gt3;have g3':=s' _ _ g3;exists ⟨p,u,wl,c,b,sg,rfl,GW.same (s03.trans s'),gc,λl hl=>by rw[ww l hl,wS c mc],by lia,by rw[wS c mc];lia,sw,ss c mc,by lia,λr5 H5 n5 s5 g5=>?_⟩;have g35:=s5 _ _ g3';exists ⟨r3,r5,S9,_,sg,b+sg+8,rfl,G3.same (s'.trans s5),g5,λl hl=>by unfold rT;rw[ag,lw,wS l hl],by lia,by unfold rT;rw[ag];lia,ss,λz hz=>?_,by lia,λr6 H6 n6 s6 g6=>k1 _ _ (s5.trans s6) ⟨r6,rfl,g6⟩⟩;unfold rT at hz;obtain ⟨l,hl,rfl⟩:=aw.mp hz;exact (vN (sw l hl) (ss c mc)).mono (by rw[ww l hl];lia)
  rintro ys4 H4 l4 n4 s4 g4 pr4 _;have s34:=s4;have s04:=s03.trans s4;have g34:=s4 _ _ g3;have gt4:=s04 _ _ gt;exists eZ (show fD _ _ from .inr ⟨sg,sg,sbb,sbb,by lia⟩) ?_;exists eZ (show fD _ _ from .inr ⟨sg+sg,b,sbb.mul sbb,swb,by lia⟩) ?_;have gx4:=s04 _ _ gx;obtain ⟨v1,gv1,qv1⟩:=R1.same s04;obtain ⟨v2,gv2,qv2⟩:=R2.same s04;have lq:=F.lq;have lr:=F.lr;have lv1:=qv1.length;have lv2:=qv2.length;exists ⟨x,Z.a_Costs,dx,_,_,rfl,gx4,T.cl_Costs,T.na_Costs_put_weights,OR,?_⟩;exists ⟨x,Z.a_Costs,dx,_,_,rfl,gx4,T.cl_Costs,T.na_Costs_state_weights,OQ,?_⟩;exists oi gv2 gv1 (aO (bO (by lia))) λr5 H5 s5 n5 g5=>?_
  have s05:=s04.trans s5;have R5:bX K H5 r5 (iF qs rs):=⟨_,g5,cz (Paired.imp' (λ_ _ z=>z.same s5) qv2) (Paired.imp' (λ_ _ z=>z.same s5) qv1)⟩;have lo:(iF qs rs).length=pt.length+mv.length:=by unfold iF;rw[aF];lia
  exists ⟨r5,_,Mo,rfl,R5,by lia,hMo,λt6 r6 H6 g6 s6 G6=>?_⟩;replace G6:=G6.gi;have s06:=s05.trans s6;generalize hO:bW ((iF qs rs).map nm) (cA ((iF qs rs).map nm))=O9 at G6 os;generalize hC:cA ((iF qs rs).map nm)=C9 at g6 obb;have lO:O9.length=pt.length+mv.length:=by rw[<- hO];unfold bW;rw[ag,ag,lo]
  obtain ⟨u6,gu6,qu6⟩:=id G6;have lu6:=qu6.length;have lml:(FA O9).length=O9.length:=by unfold FA;rw[ag,bT]
  have g46:=(s5.trans s6) _ _ g4;have pr46:Paired (RI H6) (S9.map λs=>rT S9 (rT wl s)) ys4:=Paired.imp' (λ_ _ z=>RI.same z (s5.trans s6)) pr4
  have szL:∀s∈S9,∀z∈rT S9 (rT wl s),Sz (b+2*sg+16) z:=λs hs z hz=>by
   unfold rT at hz;obtain ⟨l,hl,rfl⟩:=aw.mp hz;refine (vN (ss l hl) (j:=b+sg+8) λz hz=>?_).mono (by rw[wS l hl];lia);obtain ⟨l',hl',rfl⟩:=aw.mp hz;exact (vN (sw l' hl') (ss s hs)).mono (by rw[ww l' hl'];lia)
  exists ⟨⟨_,bK.of g46⟩,?_⟩;refine GC (K:=K) (as:=S9.map λs=>rT S9 (rT wl s)) (F:=RI) (λl=>l.map λz=>z*C9) g46 pr46 (by rw[ag];lia) (λh s=>h.same s) ?_ ?_
  ·rintro i c v H' NY NN ec s' ⟨u,rfl,gc⟩ k1;obtain ⟨s9,hs9,rfl⟩:=aw.mp (ao ec);have g6':=s' _ _ g6;exists ⟨⟨_,bK.of gc⟩,?_⟩;refine c6 (K:=K) (as:=rT S9 (rT wl s9)) (F:=λ_ z x=>x=V.int z) (λ_ z x=>x=V.int z) (λz=>z*C9) gc mP (by unfold rT;rw[ag];lia) (λh _=>h) (λh _=>h) ?_ ?_
   ·rintro j z v H3 NY2 NN2 ez s3 rfl k2;have g63:=s3 _ _ g6';exists eZ (show fD _ _ from .inr ⟨b+2*sg+16,om,szL s9 hs9 z (ao ez),obb,by lia⟩) ?_;exact k2 _ _ (aG.refl _) rfl
   rintro ys H3 l hl s3 g3 pr _;exact k1 l H3 s3 hl (by rw[g3,pP pr])
  rintro ys8 H8 r8 n8 s8 g8 nd8 pr8 nin8;have eL:((S9.map λs=>rT S9 (rT wl s)).map λl=>l.map λz=>z*C9)=EX S9 wl C9:=by unfold EX;rw[IS];rfl
  rw[eL] at pr8;have ly8:=pr8.length;rw[xn] at ly8;have s08:=s06.trans s8;have lw8:=yW (sl:=S9) (wl:=wl) (ob:=C9);have g68:=s8 _ _ g6;have gu8:=s8 _ _ gu6;have qu8:Paired (RI H8) (FA O9) u6:=Paired.imp' (λ_ _ z=>RI.same z s8) qu6;exists ⟨⟨_,bK.of gu8⟩,?_⟩;have lpos:(EX S9 wl C9).length=S9.length:=xn;refine E2 (K:=K) (l:=r6) (xs:=u6) (λi σ' H'=>(aG H6 H'/\H' r8=some (.lst ys8)/\Paired (Bi H6 H') (Cb (EX S9 wl C9) (λi=>O9.getD i 0*(B9*B9*wb)) i) ys8)/\∃y1 y2,σ'=[some (.ref x),some (.ref t),some (.ref sy),some (.ref t3),some (.ref l4),some (.int (B9*B9*wb)),some (.ref t6),some (.ref r8),y1,y2]) ⟨⟨s8,g8,pr8⟩,_,_,rfl⟩ (λi σ' H' _ ⟨⟨s,_⟩,_⟩=>bK.of (s _ _ gu6)) ?_ ?_
  ·rintro i v σ' H' pp hv ⟨⟨s',gr,pr⟩,y1,y2,rfl⟩ npp;have hi6:i < u6.length:=(aU.mp hv).1;have hi:i < O9.length:=by lia
   have s2:aG H' (upd H' pp (.tup [.int i,v])):=aG.new npp;have gpp:(upd H' pp (.tup [.int i,v])) pp=some (.tup [.int i,v]):=aK;generalize upd H' pp (.tup [.int i,v])=H2 at s2 gpp ⊢;have s62:=s'.trans s2;obtain ⟨row,er,u,rfl,gu⟩:=cH (Paired.imp' (λ_ _ z=>RI.same z s62) qu6) hv;rw[Sl hi] at er;cases er;have pr2:Paired (Bi H6 H2) (Cb (EX S9 wl C9) (λi=>O9.getD i 0*(B9*B9*wb)) i) ys8:=Paired.imp' (λ_ _ z=>Bi.same z s2) pr;have la:=uQ (L:=EX S9 wl C9) (f:=λi=>O9.getD i 0*(B9*B9*wb)) i;obtain ⟨zs,w9,ez,ew,mz,q,rfl,nq,gq⟩:=kJ pr2 (i:=i) (by lia);have wz:zs.length=S9.length:=tq lw8 i (by lia) zs mz;have ezD:(Cb (EX S9 wl C9) (λi=>O9.getD i 0*(B9*B9*wb)) i).getD i []=zs:=by rw[ae,ez];rfl
   have gr2:=s2 _ _ gr;have qr:r8≠q:=λz=>nin8 (by rw[z];exact ao ew)
   have e9:((List.range O9.length).map λj=>if j=i then O9.getD j 0 else 0).getD i 0=O9.getD i 0:=by rw[ae,ay,b7 hi];show (if i=i then O9.getD i 0 else 0)=_;rw[if_pos rfl]
   exists cp (bK.of gr2) (gF ew) ?_;exists cp (bK.of gq) (Ec (by lia)) ?_;exists cp (bK.of gu) (Ec (by rw[ag,bT];exact hi)) ?_;rw[e9];exists eZ (show fD _ _ from .inr ⟨om,sg+sg+b,os _ (getD_in hi),(sbb.mul sbb).mul swb,by lia⟩) ?_;exists cp (bK.of gr2) (gF ew) ?_;exists ir gq (iN (by rw[ag];lia)) rfl ?_;refine ⟨⟨s62.after nq,by rw[aZ qr];exact gr2,?_⟩,_,_,rfl⟩;have:=EI (zs:=zs.set i (zs.getD i 0+O9.getD i 0*(B9*B9*wb))) nq pr2 nd8 ew;rw[List.map_set] at this;show Paired _ ((Cb _ _ i).set i (((Cb _ _ i).getD i []).set i (((Cb _ _ i).getD i []).getD i 0+_))) _
   rw[ezD];exact this
  rintro σ' H9 ⟨⟨s9,g9,pr9⟩,y1,y2,rfl⟩;have g69:=s9 _ _ g6;exists eZ (show fD _ _ from .inr ⟨sg+sg+b,om,(sbb.mul sbb).mul swb,obb,by lia⟩) ?_;exists bV λtA HA sA gA=>?_
  have s0A:=(s06.trans s9).trans sA;refine k tA r8 ys8 HA (by unfold ic;rw[hB,hC];exact gA) s0A (s06.none n8) (sA _ _ g9) ?_;unfold bZ Te;rw[hO,hS,hB,hC,show S9.length=u6.length by lia];exact Paired.imp' (λ_ _ ⟨q,e,n,g⟩=>⟨q,e,s06.none n,sA _ _ g⟩) pr9
theorem mE:a7 ["lines","at","place","before","used","by","swept"] ["lines","at","place","before"] (aI wX):=by walk_at "d"
theorem F9 (T:Txt K mg Z) (ptree:P.given.tree=none):cO P w K mg base iI 1 Z.Ce Z.BO ["lines","at","place","before"] BG:=by
 refine T.uM.F.ok mE (λvs H Q E h=>?_) (λcdv A outer s H vs Q E hr h=>?_)
 ·obtain ⟨l,p,ls,kk,c,n,b,rfl,_⟩:=h;rfl
 ·obtain ⟨l,p,ls,kk,c,n,b,rfl,hl,G,l1000,hk,hw,n1000,hc,b0,sb,hs,k⟩:=h
  refine ⟨_,(au (aV (i:=4) mE.nd rfl (Or.inr rfl) (aT bw (pv 0) (pv 1)))
   (au (aV (i:=5) mE.nd rfl (Or.inr rfl) (aT bw (pv 4) (pv 2)))
   (au (nh 6 ["line"] ["used","by","place","before"] [4,5,2,3] mE.nd rfl rfl (cg (pv 0)) (λ_=>(aP (i:=0) (show ND9 ["line","used","by","place","before"] by decide +kernel) rfl (Or.inr rfl) (Or.inl rfl))) (λ_=>cu) (λ_=>(cb ["mine","yours"] ["by","line","place","before"] [2,0,3,4] (KG K rfl T.zip (aa (pv 0) (aa (pv 1) ai))) (λ_=>(sX K 2 (cQ (aP (i:=0) (show ND9 ["mine","yours","by","line","place","before"] by decide +kernel)) (cQ (aP (i:=1) (show ND9 ["mine","yours","by","line","place","before"] by decide +kernel)) jX)))) (λ_=>cu) (λ_=>(bq (hJ rfl mE rfl rfl rfl ptree (oW hr)) (bq kK (bq cy (pv 2) (pv 0)) (bq cy (aT (oV K (by rfl)) (pv 3) (pv 4)) (pv 1))) (pv 5))))))
   (au (iH (pv 4) (jA (pv 6) (pv 1) set_list))
   (aB (bo (pv 6))))))),?_⟩
  refine aW (σ:=[some (.ref p),some (.int kk),some (.int c),some (.int b),none,none,none]) rfl ?_;obtain ⟨pl,xs,gx,qx⟩:=id G;have lx:=qx.length;obtain ⟨zk,vk,ek,evk,mk,qk,rfl,qkl,gk⟩:=kJ qx hk;have wk:=hw zk mk;have ek':ls.getD kk []=zk:=by rw[ae,ek];rfl
  exists cp (bK.of gx) (gF evk) ?_;exists cp (bK.of gk) (Ec (by lia)) ?_;exists ⟨⟨_,bK.of gx⟩,?_⟩;refine iG (K:=K) (xs:=xs) (λi ys H'=>aG H H'/\Paired (OT l H') ((ls.take i).map λzs=>List.zipWith (λx y=>(zk.getD c 0*x - zs.getD c 0*y).fdiv b) zs zk) ys) (aO (bO (by lia))) ⟨aG.refl _,.nil⟩ (λi ys H' _ ⟨s,_⟩=>bK.of (s _ _ gx)) ?_ ?_
  ·rintro i v ys0 H' hx hlen ⟨s',pr⟩;obtain ⟨zs,ec,q,rfl,ql,gq⟩:=cH qx hx;have mz:=ao ec;have wz:=hw zs mz;have gq':=s' _ _ gq;have gk':=s' _ _ gk;exists ⟨⟨_,bK.of gq'⟩,⟨_,bK.of gk'⟩,?_⟩;refine Av (K:=K) (xs:=zs.map V.int) (ws:=zk.map V.int) (λj ys H2=>aG H' H2/\ys=((List.zipWith (λx y=>(zk.getD c 0*x - zs.getD c 0*y).fdiv b) zs zk).take j).map V.int) (aO (bO (by rw[ag];lia))) (by rw[ag,ag];lia) ⟨aG.refl _,rfl⟩ (λj ys H2 _ ⟨s2,_⟩=>⟨bK.of (s2 _ _ gq'),bK.of (s2 _ _ gk')⟩) ?_ ?_
   ·rintro j v1 v2 ys H2 r h1 h2 hy ⟨s2,rfl⟩ hr
    obtain ⟨x,ex,rfl⟩:∃x,zs[j]?=some x/\V.int x=v1:=by
     rw[ay] at h1;cases e:zs[j]? with
     | none=>rw[e] at h1;cases h1
     | some x=>rw[e] at h1;exact ⟨x,rfl,b6 h1⟩
    obtain ⟨y,ey,rfl⟩:∃y,zk[j]?=some y/\V.int y=v2:=by
     rw[ay] at h2;cases e:zk[j]? with
     | none=>rw[e] at h2;cases h2
     | some x=>rw[e] at h2;exact ⟨x,rfl,b6 h2⟩
    have sr:aG H2 (upd H2 r (.tup [.int x,.int y])):=aG.new hr;have gr:(upd H2 r (.tup [.int x,.int y])) r=some (.tup [.int x,.int y]):=aK;generalize upd H2 r (.tup [.int x,.int y])=H3 at sr gr ⊢;have gq3:=sr _ _ (s2 _ _ gq');have sx:=hs zs mz x (ao ex);have sy:=hs zk mk y (ao ey);have s1:=hs zk mk _ (getD_in (e:=0) (show c < zk.length by lia));have s3:=hs zs mz _ (getD_in (e:=0) (show c < zs.length by lia));exists eZ (show fD _ _ from .inr ⟨_,_,s1,sx,by decide⟩) ?_;exists cp (bK.of gq3) (Ec (by lia)) ?_;exists eZ (show fD _ _ from .inr ⟨_,_,s3,sy,by decide⟩) ?_;exists eZ (show nO _ _ from ⟨b0,sb⟩) ?_;have ez:(List.zipWith (λx y=>(zk.getD c 0*x - zs.getD c 0*y).fdiv b) zs zk)[j]?=some ((zk.getD c 0*x - zs.getD c 0*y).fdiv b):=by rw[bR,ex,ey]
    exact ⟨s2.trans sr,by rw[take_snoc ez];simp⟩
   ·rintro ys H2 hy ⟨s2,rfl⟩ r hr;have sn:aG H2 (upd H2 r (.lst (((List.zipWith (λx y=>(zk.getD c 0*x - zs.getD c 0*y).fdiv b) zs zk).take (zs.map V.int).length).map V.int))):=aG.new hr;refine ⟨(s'.trans s2).trans sn,?_⟩;rw[take_snoc ec,cn];refine cz (Paired.imp' (λ_ _ z=>(OT.same z s2).same sn) pr) (.cons ⟨r,rfl,ne_old (λz=>hl (s'.none (s2.none z))) hr,?_⟩ .nil);rw[aK,aA (by rw[bC,ag];lia)]
  ·rintro ys H1 hy ⟨s1,pr⟩ r hr;have sn:aG H1 (upd H1 r (.lst ys)):=aG.new hr;have gn:(upd H1 r (.lst ys)) r=some (.lst ys):=aK;have ly:=pr.length;rw[ag,cW] at ly;generalize upd H1 r (.lst ys)=H2 at sn gn ⊢;exists ir gn (iN (by lia)) rfl ?_;have s2:aG H1 (upd H2 r (.lst (ys.set kk (.ref qk)))):=sn.after hr;exists k r _ (s1.none hr) (s1.trans s2) ⟨ne_old (λz=>hl (s1.none z)) hr,_,aK,?_⟩;unfold JE;rw[ek'];rw[aA (by lia)] at pr;exact uF (Paired.imp' (λ_ _ z=>OT.same z s2) pr) kk ⟨qk,rfl,qkl,(s1.trans s2) _ _ gk⟩
theorem jG:a7 ["lines","bottom","divisor","value"] ["lines","bottom"] (aI uv):=by walk_at "d"
theorem EM (T:Txt K mg Z) (ptree:P.given.tree=none):cO P w K mg base iI 2 Z.AE Z.Al ["lines","bottom"] HG:=by
 have xK:=Dl (P:=P) (w:=w) (base:=base) T ptree;have eo:=iM (P:=P) (w:=w) (base:=base) T ptree;refine T.rX.F.ok jG (λvs H Q E h=>?_) (λcdv A outer s H vs Q E hr h=>?_)
 ·obtain ⟨p,ls,b,rfl,_⟩:=h;rfl
 ·obtain ⟨p,ls,b,rfl,G,l20,w20,b0,sb,k⟩:=h
  refine ⟨_,(au (aV (i:=2) jG.nd rfl (Or.inr rfl) (pv 1))
   (au (eR PassesOwn.never rfl (cg (cE xK hr T.sZ (aa (pv 0) ai))) (aP (i:=3) jG.nd)
    (aB (aV (i:=2) jG.nd rfl (Or.inr rfl) (cE eo hr T.fz (aa (pv 3) (aa (pv 2) ai))))))
   (aB (bo (cG (aa (cb ["line"] ["divisor"] [2] (cg (pv 0)) (λ_=>(aP (i:=0) (show ND9 ["line","divisor"] by decide +kernel))) (λ_=>cu) (λ_=>(cb ["value"] ["divisor"] [1] (vz K (pv 0)) (λ_=>(aP (i:=0) (show ND9 ["value","divisor"] by decide +kernel))) (λ_=>cu) (λ_=>(bq (hJ rfl jG rfl rfl rfl ptree (oW hr)) (pv 0) (pv 1)))))) (aa (bq (hJ rfl jG rfl rfl rfl ptree (oW hr)) (pv 1) (pv 2)) ai))))))),?_⟩
  refine aW (σ:=[some (.ref p),some (.int b),none,none]) rfl ?_;obtain ⟨us,gu,qu⟩:=id G;have lu:=qu.length;have lf:ls.flatten.length<=400:=ak (y0 w20) (az 20 l20);exists ⟨p,us,_,rfl,gu,HU qu,by rw[<- List.map_flatten,ag];lia,λf H1 n1 t1 g1=>?_⟩;rw[<- List.map_flatten] at g1;exists ⟨⟨_,bK.of g1⟩,?_⟩;refine i5 (K:=K) (a:=f) (xs:=ls.flatten.map V.int) (λi σ' H'=>aG H1 H'/\∃y,σ'=[some (.ref p),some (.int b),some (.int (AW b (ls.flatten.take i))),y]) ⟨aG.refl _,_,rfl⟩ (λi σ' H' _ ⟨s,_⟩=>bK.of (s _ _ g1)) ?_ ?_
  ·rintro i v σ' H' hv ⟨s',y,rfl⟩;rw[ay] at hv;obtain ⟨z,ez,rfl⟩:=nP.mp hv;exists ⟨z,_,rfl,?_⟩;exact ⟨s',_,by rw[take_snoc ez,Ny];rfl⟩
  rintro σ' H2 ⟨s2,y,rfl⟩;rw[ag,List.take_length];obtain ⟨d0,d1,d2⟩:=xt (zs:=ls.flatten) b0
  have sd:Sz 8999000 (AW b ls.flatten):=sb.le (by
   have:=Int.le_of_dvd b0 d1
   lia)
  generalize hd:AW b ls.flatten=d at d0 d1 d2 sd ⊢;have s02:=t1.trans s2;exists ⟨⟨_,bK.of (s02 _ _ gu)⟩,?_⟩;refine c6 (K:=K) (as:=ls) (F:=RI) (Bi H) (λl=>l.map λz=>z / d) (s02 _ _ gu) (Paired.imp' (λ_ _ z=>RI.same z s02) qu) (by lia) (λh s=>h.same s) (λh s=>h.same s) ?_ ?_
  ·rintro i c x H' NY NN ec s' ⟨u,rfl,gc⟩ k1;have wc:=w20 c (ao ec);exists ⟨⟨_,bK.of gc⟩,?_⟩;refine c6 (K:=K) (as:=c) (F:=λ_ z x=>x=V.int z) (λ_ z x=>x=V.int z) (λz=>z / d) gc mP (by lia) (λh _=>h) (λh _=>h) ?_ ?_
   ·rintro j z v H3 NY2 NN2 ez s3 rfl k2;exists eZ ⟨by lia,sd⟩ ?_;exact k2 _ _ (aG.refl _) (by rw[bF _ (by lia)])
   rintro ys H3 l hl s3 g3 pr _;exact k1 _ _ s3 ⟨l,rfl,s02.none (s'.none hl),by rw[g3,pP pr]⟩
  rintro ys H3 r nr s3 g3 pr _;exists eZ ⟨by lia,sd⟩ ?_;exists bV λt4 H4 s4 g4=>?_
  rw[bF _ (by lia)] at g4;refine k t4 r H4 (by unfold uU;rw[hd];exact g4) ((s02.trans s3).trans s4) ?_;unfold uN;rw[hd];exact FE.same ⟨s02.none nr,ys,g3,pr⟩ s4
theorem cX:a7 ["self","behind","whole","ins","lines","by","place"] ["self","behind"] (aI fV):=by walk_at "d"
theorem vG (T:Txt K mg Z) (ptree:P.given.tree=none):cO P w K mg base iI 6 Z.kT Z.kR ["self","behind"] (EA K Z.a_System Z.a_Costs):=by
 have wD:=uJ (P:=P) (w:=w) (base:=base) T ptree;have JJ:=F9 (P:=P) (w:=w) (base:=base) T ptree;have GU:=EM (P:=P) (w:=w) (base:=base) T ptree;refine T.pB.ok cX (λvs H Q E h=>?_) (λcdv A outer s H vs Q E hr h=>?_)
 ·obtain ⟨x,kn,t,p,H0,mv,pt,lk,qs,rs,wl,wb,sg,om,b,j9,rfl,_⟩:=h;rfl
 ·obtain ⟨x,kn,t,p,H0,mv,pt,lk,qs,rs,wl,wb,sg,om,b,j9,rfl,CQ,D,F,gt,GW,lw,ww,sw,swb,sz,kp,AF,j1,k⟩:=h
  refine ⟨_,(au (aV (i:=2) cX.nd rfl (Or.inl rfl) (ju (pv 0) T.cl_Costs T.mO wD (hr.mono (by decide)) T.nI .nil mH (aa (pv 1) ai)))
   (au (aV (i:=3) cX.nd rfl (Or.inr rfl) (eS (eS (pv 0) rfl) rfl))
   (au (aV (i:=4) cX.nd rfl (Or.inl rfl) (aT bJ (pv 2) aj))
   (au (aV (i:=5) cX.nd rfl (Or.inl rfl) aj)
   (au (eR PassesOwn.never rfl (cv rfl T.range (aa (pv 3) ai)) (aP (i:=6) cX.nd)
    (au (aV (i:=4) cX.nd rfl (Or.inl rfl) (cE JJ hr T.uM (aa (pv 4) (aa (pv 6) (aa (pv 6) (aa (pv 5) ai))))))
   (aB (aV (i:=5) cX.nd rfl (Or.inl rfl) (aT bw (aT bw (pv 4) (pv 6)) (pv 6))))))
   (au (nh 4 ["line"] ["ins"] [3] cX.nd rfl rfl (cg (pv 4)) (λ_=>(aP (i:=0) (show ND9 ["line","ins"] by decide +kernel))) (λ_=>cu) (λ_=>(oS (Kl K (by rfl)) (pv 0) (sV (pv 1)) sW)))
   (aB (bo (cG (aa (cE GU hr T.rX (aa (oS sU (pv 4) (sV (pv 3)) sW) (aa (bq cy (pv 5) (aT bJ (pv 2) aj)) ai))) (aa (cG (aa (oS sU (pv 4) sW (sV (pv 3))) (aa (tF nR (pv 5)) ai))) ai))))))))))),?_⟩
  refine aW (σ:=[some (.ref x),some (.ref t),none,none,none,none,none]) rfl ?_;have d8:=D.n8;have i4:=D.i4;obtain ⟨dx,sy,a1,a2,a3,gx,S,R1,R2⟩:=id CQ;obtain ⟨dy,am,ap,al,gy,m1,m2,m3,Gm,Gp,Gl⟩:=id S;exists ⟨x,dx,_,rfl,gx,tR (by decide +kernel) (by decide +kernel) (by decide +kernel) (by decide +kernel) (by decide +kernel),?_⟩;exists ⟨x,kn,t,p,H0,mv,pt,lk,qs,rs,wl,wb,sg,om,b,rfl,CQ,D,F,gt,GW,lw,ww,sw,swb,sz,λt1 r1 ys1 H1 g1 s1 nr1 gr1 pr1=>?_⟩;have gx1:=s1 _ _ gx;have gy1:=s1 _ _ gy;exists ⟨x,Z.a_Costs,dx,_,_,rfl,gx1,T.cl_Costs,T.na_Costs_system,tj,?_⟩;exists ⟨sy,Z.a_System,dy,_,_,rfl,gy1,T.cl_System,T.na_ins,Mx,?_⟩;have nxe:∀{q},H q=none->q≠x:=λh z=>by rw[z,gx] at h;cases h
  have G1:Fp x H1 r1 (bZ mv pt qs rs wl wb):=⟨nxe nr1,ys1,gr1,Paired.imp' (λ_ _ ⟨q,e,n,g⟩=>⟨q,e,nxe n,g⟩) pr1⟩;have sB:Sz (b+2*sg+om+40) (ic mv pt qs rs wb):=(((F.sb.mul F.sb).mul swb).mul F.ob).mono (by lia);generalize hL:bZ mv pt qs rs wl wb=L at G1 AF k;generalize hB:ic mv pt qs rs wb=B9 at g1 sB kp k;clear pr1 gr1;have N12:pt.length+mv.length<=12:=by lia
  exists ⟨by lia,by lia,?_⟩;refine eh (n:=pt.length) (λi σ' H'=>aG H1 H'/\∃rr y,σ'=[some (.ref x),some (.ref t),some (.ref t1),some (.int pt.length),some (.ref rr),some (.int (dw L i).2),y]/\Fp x H' rr (dw L i).1) ⟨aG.refl _,r1,_,rfl,G1⟩ ?_ ?_
  ·rintro i σ' H' hi ⟨s',rr,y,rfl,Gr⟩;have li:=AF.len i (by lia);have wi:=AF.wide i (by lia);have li1:=AF.len (i+1) (by lia);have wi1:=AF.wide (i+1) (by lia);exists ⟨x,rr,_,i,i,_,_,rfl,by rw[s' _ _ gx1];exact (λz=>nomatch z),Gr,by lia,by lia,wi,by lia,by lia,by have:=AF.pos i (by lia);lia,(AF.sb i (by lia)).mono (by lia),λl hl z hz=>(AF.sz i (by lia) l hl z hz).mono (by lia),λr2 H2 n2 s2 G2=>?_⟩;have G2:Fp x H2 r2 (dw L (i+1)).1:=G2;obtain ⟨_,vs,gv,qv⟩:=id G2;have lv:=qv.length;obtain ⟨zs,v9,ez,ev,mz,q,rfl,nq,gq⟩:=kJ qv (i:=i) (by lia);have wz:=wi1 zs mz
   have eD:(dw L (i+1)).2=zs.getD i 0:=by
    show ((dw L (i+1)).1.getD i []).getD i 0=_
    rw[ae (l:=(dw L (i+1)).1),ez];rfl
   exists cp (bK.of gv) (gF ev) ?_;exists cp (bK.of gq) (Ec (by lia)) ?_;exact ⟨s'.trans s2,r2,_,by rw[eD];rfl,G2⟩
  rintro σ' H2 ⟨s2,rr,y,rfl,Gr⟩;have lm:=AF.len pt.length (ar _);have wm:=AF.wide pt.length (ar _);have pm:=AF.pos pt.length (ar _);have sm:=AF.sb pt.length (ar _);have zm:=AF.sz pt.length (ar _);obtain ⟨_,vs,gv,qv⟩:=id Gr;have lv:=qv.length;have s02:=s1.trans s2;exists ⟨⟨_,bK.of gv⟩,?_⟩;refine c6 (K:=K) (as:=(dw L pt.length).1) (F:=OT x) (Bi H) (λl=>l.drop pt.length) gv qv (by lia) (λh s=>h.same s) (λh s=>h.same s) ?_ ?_
  ·rintro i c v H' NY NN ec s' ⟨u,rfl,nu,gc⟩ k1;exists zK (bK.of gc) λlA HA sA nA gA=>?_
   rw[Fd,<- List.map_drop] at gA;exact k1 _ _ sA ⟨lA,rfl,s02.none (s'.none nA),gA⟩
  rintro ys3 H3 r3 n3 s3 g3 pr3 _;have l3:=pr3.length;rw[ag] at l3;have s03:=s02.trans s3;have g13:=(s2.trans s3) _ _ g1;exists zK (bK.of g3) λr4 H4 s4 n4 g4=>?_
  rw[Fd] at g4;have s04:=s03.trans s4;have P4:Paired (RI H4) (xm L pt.length) (ys3.drop pt.length):=Paired.imp' (λ_ _ ⟨q,e,_,g⟩=>⟨q,e,s4 _ _ g⟩) (tG pr3 pt.length);have g14:=s4 _ _ g13;exists eZ (show fD _ _ from .inr ⟨j9,b+2*sg+om+40,sm,sB,by lia⟩) ?_;walk_at "w";have llo:(xm L pt.length).length<=20:=by unfold xm NM;rw[eI,ag];lia
  have wlo:∀l∈xm L pt.length,l.length<=20:=λl hl=>by
   obtain ⟨l',h',rfl⟩:=aw.mp (gI hl);rw[eI,wm l' h']
   lia
  refine ⟨r4,xm L pt.length,_,rfl,⟨_,g4,P4⟩,llo,wlo,eJ pm kp,(sm.mul sB).mono (by lia),λt5 r5 H5 g5 s5 G5=>?_⟩;have s05:=s04.trans s5;exists zK (bK.of ((s4.trans s5) _ _ g3)) λr6 H6 s6 n6 g6=>?_
  rw[LD] at g6;exists bV λt7 H7 s7 g7=>?_
  exists bV λt8 H8 s8 g8=>?_
  have s58:=(s6.trans s7).trans s8;refine k _ t8 t5 t7 r5 r6 H8 rfl (s05.trans s58) g8 (s58 _ _ g5) ((G5.weak s04).same s58) (s8 _ _ g7) ⟨s05.none n6,_,(s7.trans s8) _ _ g6,?_⟩;exact Paired.imp' (λ_ _ z=>Bi.same z ((s4.trans s5).trans s58)) (rQ pr3 pt.length)
theorem uq:a7 ["self","left"] ["self","left"] (aI fj):=by walk_at "d"
theorem jB (T:Txt K mg Z) (ptree:P.given.tree=none):cO P w K mg base iI 7 Z.kh Z.ka ["self","left"] (HH K Z.a_System Z.a_Costs):=by
 have xO:=vG (P:=P) (w:=w) (base:=base) T ptree;refine T.nM.ok uq (λvs H Q E h=>?_) (λcdv A outer s H vs Q E hr h=>?_)
 ·obtain ⟨A9,x,kn,H0,mv,pt,lk,qs,rs,fs,tt,sg,om,b,j9,l,us,rfl,_⟩:=h;rfl
 ·obtain ⟨A9,x,kn,H0,mv,pt,lk,qs,rs,fs,tt,sg,om,b,j9,l,us,rfl,LA,Ak,CQ,D,F,lT,KU,k⟩:=h
  refine ⟨_,(au (zL PassesOwn.never (bI Sf (bG bx (by rfl) T.len bg (aa (eS (pv 0) rfl) ai)) (pv 1) (bL _))
    (aB (jW (xU dA dY dX kL (eS (pv 0) rfl) (aa (ju (pv 0) T.cl_Costs T.nF xO (hr.mono (by decide)) T.o8 .nil mH (aa (aT bJ (aT bw (eS (pv 0) rfl) (tF nR aj)) aj) ai)) ai)))))
   (aB (bo (aT bw (eS (pv 0) rfl) (pv 1))))),?_⟩
  refine aW (σ:=[some (.ref x),some (.int l)]) rfl ?_;have t8:=F.t8;exists Cs (λσ' H'=>σ'=[some (.ref x),some (.int l)]/\xF kn H H'/\∃us',xI A9 (bY mv pt qs rs fs) kn H' us') (λ_ H'=>match H' kn with | some (.lst ws)=>20 - ws.length | _=>0) ⟨rfl,(aG.refl _).smx,us,KU⟩ ?_;rintro σ' H' ⟨rfl,sH,ws,KW⟩;obtain ⟨gw,w1,w9,pw⟩:=id KW;have CW:=CQ.same (kY Ak sH);have LW:=LA.smx sH gw;have CH:=CW.same br;obtain ⟨dx,sy,a1,a2,a3,gx,S,R1,R2⟩:=id CH;exists ⟨x,Z.a_Costs,dx,_,_,rfl,gx,T.cl_Costs,T.na_Costs_known,vW,?_⟩;exists ⟨_,_,rfl,.inl (bK.of gw),?_⟩;exists jh (λh=>?_) (λh=>?_)
  ·have h:=of_decide_eq_true h;obtain ⟨ds,v,ed,ev,md,kv⟩:=kJ pw (i:=ws.length - 1) (by rw[ag,bT];lia);rw[ay,b7 (by lia)] at ed;cases ed;have ew:∃zs,ws=zs++[v]:=⟨ws.take (ws.length - 1),by rw[<- take_snoc ev,aA (by lia)]⟩;obtain ⟨zs,rfl⟩:=ew;have lz:(zs++[v]).length=zs.length+1:=aF ..;rw[lz,Nat.add_sub_cancel] at kv;have tz:zs.length < tt:=by lia
   obtain ⟨t,tw,ts,pw',ps',rfl,g1,g2,G1,g3,G2⟩:=kv.same br;exists ⟨x,Z.a_Costs,dx,_,_,rfl,gx,T.cl_Costs,T.na_Costs_known,vW,?_⟩;exists ⟨.inl ⟨rfl,_,bK.of gw⟩,?_⟩;exists ⟨x,dx,_,rfl,gx,tR (by decide +kernel) (by decide +kernel) (by decide +kernel) (by decide +kernel) (by decide +kernel),?_⟩;exists ⟨x,Z.a_Costs,dx,_,_,rfl,gx,T.cl_Costs,T.na_Costs_known,vW,?_⟩;exists cp (bK.of gw) (Az _ _) ?_;exists ⟨x,kn,tw,pw',H0,mv,pt,lk,qs,rs,_,_,sg,om,b,j9,rfl,CH,D,F.st,g2,G1,F.lw _ (by lia),F.ww _ (by lia),F.sw _ (by lia),(F.wb _ (by lia)).2,F.l1,F.kp _ tz,F.ah _ tz,F.l2,λv' t' tw' ts' pw2 ps2 H2 e2 s2 h1 h2 N1 h3 N2=>?_⟩;subst e2;have gw2:=s2 _ _ gw;have L2':=LW.same s2;have KV:TF (fg A9 H2) (bY mv pt qs rs fs (zs.length+1)) (.ref t'):=⟨t',tw',ts',pw2,ps2,rfl,iZ h1 (L2'.tup h1),iZ h2 (L2'.tup h2),N1.hid LW,iZ h3 (L2'.tup h3),N2.hid LW⟩;exists kF gw2 (bO (by lia)) ?_;have l2:(zs++[V.ref t]++[V.ref t']).length=zs.length+2:=by simp
   refine ⟨⟨rfl,(sH.trans s2.smx).put,_,aK,by lia,by lia,?_⟩,?_⟩
   ·rw[l2,AV,cn,Ip Ak];refine cz ?_ (.cons KV .nil);rw[lz] at pw;exact Paired.imp' (λ_ _ z=>z.same (dR s2)) pw
   ·show (match (upd H2 kn (.lst (zs++[V.ref t]++[V.ref t']))) kn with | some (.lst ws)=>20 - ws.length | _=>0) < (match H' kn with | some (.lst ws)=>20 - ws.length | _=>0)
    rw[aK,gw];show 20 - (zs++[V.ref t]++[V.ref t']).length < 20 - (zs++[V.ref t]).length
    lia
  have h:¬((ws.length:Int)<=(l:Int)):=λz=>h (decide_eq_true z)
  obtain ⟨ds,v,ed,ev,md,kv⟩:=kJ pw (i:=l) (by rw[ag,bT];lia);rw[ay,b7 (by lia)] at ed;cases ed;exists ⟨x,Z.a_Costs,dx,_,_,rfl,gx,T.cl_Costs,T.na_Costs_known,vW,?_⟩;exists cp (bK.of gw) (gF ev) ?_;exact k v ws H' sH KW kv
theorem CU:a7 ["self","state","left"] ["self","state","left"] (aI jI):=by walk_at "d"
theorem vF (T:Txt K mg Z) (ptree:P.given.tree=none):cO P w K mg base iI 8 Z.sN Z.sI ["self","state","left"] (HK K Z.a_System Z.a_Costs):=by
 have uS:=xY (P:=P) (w:=w) (base:=base) T ptree;have gO:=jB (P:=P) (w:=w) (base:=base) T ptree;refine T.yJ.ok CU (λvs H Q E h=>?_) (λcdv A outer s H vs Q E hr h=>?_)
 ·obtain ⟨A9,x,kn,s,H0,mv,pt,lk,qs,rs,fs,st,tt,sg,om,b,j9,l,M,us,rfl,_⟩:=h;rfl
 ·obtain ⟨A9,x,kn,s,H0,mv,pt,lk,qs,rs,fs,st,tt,sg,om,b,j9,l,M,us,rfl,LA,Ak,CQ,D,F,lT,KU,l1,Rs,ls,hM,k⟩:=h;refine ⟨_,(aB (bo (cE uS hr T.nv (aa (aT bJ (ju (pv 0) T.cl_Costs T.iu gO (hr.mono (by decide)) T.iO .nil mH (aa (pv 2) ai)) aj) (aa (pv 1) ai))))),?_⟩;refine aW (σ:=[some (.ref x),some (.ref s),some (.int l)]) rfl ?_;have d8:=D.n8;have i4:=D.i4;obtain ⟨dx,sy,a1,a2,a3,gx,S,R1,R2⟩:=CQ.same br;exists ⟨x,dx,_,rfl,gx,tR (by decide +kernel) (by decide +kernel) (by decide +kernel) (by decide +kernel) (by decide +kernel),?_⟩;exists ⟨A9,x,kn,H0,mv,pt,lk,qs,rs,fs,tt,sg,om,b,j9,l,us,rfl,LA,Ak,CQ,D,F,lT,KU,λv us' H1 s1 KU1 kv=>?_⟩;obtain ⟨t,tw,ts,pw,ps,rfl,g1,g2,G1,g3,G2⟩:=kv.same br;obtain ⟨l',rfl⟩:∃l',l=l'+1:=⟨l - 1,by lia⟩;have AF:=F.ah l' (by lia);have lm:=AF.len pt.length (ar _);have wm:=AF.wide pt.length (ar _);have pm:=AF.pos pt.length (ar _);have sm:=AF.sb pt.length (ar _);have zm:=AF.sz pt.length (ar _);have jw:=F.l2
  have mem:∀c∈(bY mv pt qs rs fs (l'+1)).2.1,c.length=mv.length/\∀z∈c,Sz j9 z:=λc hc=>by
   obtain ⟨c',h',rfl⟩:=aw.mp (b9 hc);exact ⟨by rw[eI,wm c' h'];lia,λz hz=>zm c' h' z (gI hz)⟩
  have lk2:(bY mv pt qs rs fs (l'+1)).2.1.length<=20:=by
   show (O6 _ _).length<=20
   unfold O6 NM;rw[cW,ag]
   lia
  exists ⟨ts,ps,s,_,_,M,st,j9,j9,rfl,g3,G2,lk2,λc hc=>by rw[(mem c hc).1,ls],(Rs.same (kY Ak s1)).same br,by lia,hM,λc hc=>(mem c hc).2,by lia,by show -(dw _ _).2≠0;lia,Sz.neg sm,by have:=F.l3;lia,λr2 H2 n2 s2 R=>?_⟩;have L1:=LA.smx s1 KU1.1
  exact k r2 us' H2 (s1.trans s2.smx) (KU1.hide s2 n2) (by
   cases e:H r2 with
   | none=>rfl
   | some o =>
    rcases Classical.em (r2=kn) with z | z
    ·rw[z,KU1.1] at n2;cases n2
    ·rw[s1 _ _ z e] at n2;cases n2) (L1.new n2) (R.hid (L1.same s2) (L1.new n2))
theorem iS:a7 ["one","other","one_bottom","other_bottom","pairs"] ["one","other"] (aI wV):=by walk_at "d"
theorem zU (T:Txt K mg Z) (ptree:P.given.tree=none):cO P w K mg base iI 4 Z.xD Z.xx ["one","other"] (CC K):=by
 have cS:=hX (P:=P) (w:=w) (base:=base) T ptree;have eY:=jZ (P:=P) (w:=w) (base:=base) T ptree;have ks:=oT (P:=P) (w:=w) (base:=base) T ptree;refine T.kM.F.ok iS (λvs H Q E h=>?_) (λcdv A outer s H vs Q E hr h=>?_)
 ·obtain ⟨p,q,xs,ys,rfl,_⟩:=h;rfl
 ·obtain ⟨p,q,xs,ys,rfl,hp,hq,hl,hz,⟨k1,j1,k2,j2,h1,h2,hkj⟩,kk⟩:=h
  refine ⟨_,(au (aV (i:=2) iS.nd rfl (Or.inl rfl) (cE cS hr T.dh (aa (pv 0) ai)))
   (au (aV (i:=3) iS.nd rfl (Or.inl rfl) (cE cS hr T.dh (aa (pv 1) ai)))
   (au (aV (i:=4) iS.nd rfl (Or.inl rfl) (zO rfl T.list rfl T.zip (aa (cE eY hr T.fO (aa (pv 0) (aa (pv 2) ai))) (aa (cE eY hr T.fO (aa (pv 1) (aa (pv 3) ai))) ai))))
   (aB (bo (cE ks hr T.kO (aa (bG (Ax rfl) (by rfl) T.sum PyProof.Rows.boot_sum (aa (cb ["mine","yours"] [] [] (cg (pv 4)) (λ_=>(sX K 2 (cQ (aP (i:=0) (show ND9 ["mine","yours"] by decide +kernel)) (cQ (aP (i:=1) (show ND9 ["mine","yours"] by decide +kernel)) jX)))) (λ_=>cu) (λ_=>(bq cy (pv 0) (pv 1)))) ai)) (aa (bq cy (pv 2) (pv 3)) ai)))))))),?_⟩
  refine aW (σ:=[some (.ref p),some (.ref q),none,none,none]) rfl ?_;obtain ⟨M,h1⟩:=h1.rowM (by lia);obtain ⟨N,h2⟩:=h2.rowM (by lia);replace hp:=hp.rowK;replace hq:=hq.rowK;replace hl:(ys.map nm).length=(xs.map nm).length:=by simpa using hl
  replace hz:(xs.map nm).length<=1000:=by simpa using hz
  obtain ⟨b1,s1⟩:=h1.bot;obtain ⟨b2,s2⟩:=h2.bot;have k2:∀r H',aG H H'->H' r=some (.tup [.int (lo (GB (xs.map nm) (ys.map nm)) (cA (xs.map nm)*cA (ys.map nm))),.int (hi (GB (xs.map nm) (ys.map nm)) (cA (xs.map nm)*cA (ys.map nm)))])->Q (.ref r) H':=λr H' s g=>kk r H' s (bS.mk g (IB b1 b2))
  clear kk;generalize xs.map nm=ns at hp hq hl hz h1 h2 b1 b2 s1 s2 k2;generalize ys.map nm=ms at hp hq hl hz h1 h2 b1 b2 s1 s2 k2;have hb:0 < cA ns*cA ms:=eJ b1 b2;exists ⟨p,ns,M,rfl,hp,hz,h1,λH1 t1=>?_⟩;exists ⟨q,ms,N,rfl,hq.same t1,by lia,h2,λH2 t2=>?_⟩;have u2:=t1.trans t2;exists ⟨p,ns,M,_,rfl,hp.same u2,hz,h1,b1,s1,λr1 H3 n3 t3 g3=>?_⟩;exists ⟨q,ms,N,_,rfl,(hq.same u2).same t3,by lia,h2,b2,s2,λr2 H4 n4 t4 g4=>?_⟩;exists ⟨r1,r2,_,_,rfl,bK.of (t4 _ _ g3),bK.of g4,by simp [bW,hl],λL ts H5 t5 n5 g5 pr=>?_⟩;have lt:=pr.length;have ll:(bW ns (cA ns)).length=ns.length:=by simp [bW]
  have lm:(bW ms (cA ms)).length=ns.length:=by simp [bW,hl]
  rw[qQ,ag,ag,ll,lm] at lt;exists ⟨⟨_,bK.of g5⟩,?_⟩;refine iG (K:=K) (xs:=ts) (λi ys H'=>H'=H5/\ys=((List.zipWith (λx y=>x*y) (bW ns (cA ns)) (bW ms (cA ms))).take i).map V.int) (aO (bO (by lia))) ⟨rfl,rfl⟩ (λi ys H' _ ⟨e,_⟩=>by subst e;exact bK.of g5) ?_ ?_
  ·rintro i x ys H' hx hlen ⟨rfl,rfl⟩;obtain ⟨pq,epq,T,rfl,gT⟩:=cH pr hx;obtain ⟨t,u,et,eu,rfl⟩:=G0 epq;exists eZ (show fD _ _ from .inr ⟨_,_,qW h1 b1 s1 (ao et),qW h2 b2 s2 (ao eu),by decide⟩) ?_;have ez:(List.zipWith (λx y=>x*y) (bW ns (cA ns)) (bW ms (cA ms)))[i]?=some (t*u):=by rw[bR,et,eu]
   exact ⟨rfl,by rw[take_snoc ez];simp⟩
  ·rintro ys H' hy ⟨rfl,rfl⟩ l hl';exists ⟨l,List.zipWith (λx y=>x*y) (bW ns (cA ns)) (bW ms (cA ms)),rfl,bK.of (by rw[aK,aA (by rw[bC];lia)]),?_⟩;exists eZ (show fD _ _ from .inr ⟨_,_,s1,s2,by decide⟩) ?_;exists ⟨_,_,rfl,by lia,(s1.mul s2).mono (by decide),λr H6 t6 g6=>?_⟩;rw[if_neg (by lia),if_neg (by lia)] at g6;exact k2 r H6 ((((u2.trans t3).trans t4).trans t5).trans ((aG.new hl').trans t6)) g6
theorem qF:a7 ["self","state","puts","columns"] ["self","state","puts"] (aI gZ):=by walk_at "d"
theorem qG (T:Txt K mg Z) (ptree:P.given.tree=none):cO P w K mg base iI 5 Z.mU Z.mR ["self","state","puts"] (BB K Z.a_System):=by
 have oK:=rV (P:=P) (w:=w) (base:=base) T ptree;have xJ:=zU (P:=P) (w:=w) (base:=base) T ptree;refine T.sT.ok qF (λvs H Q E h=>?_) (λcdv A outer s H vs Q E hr h=>?_)
 ·obtain ⟨x,p,q,H0,mv,pt,lk,st,pu,rfl,_⟩:=h;rfl
 ·obtain ⟨x,p,q,H0,mv,pt,lk,st,pu,rfl,S,D,F,hp,hq,l1,l2,fs,k⟩:=h
  refine ⟨_,(au (aV (i:=3) qF.nd rfl (Or.inl rfl) (cE oK hr T.j4 (aa (eS (pv 0) rfl) (aa (eS (pv 0) rfl) ai))))
   (aB (bo (cb ["line","column"] ["state","puts"] [1,2] (C1 rfl T.zip (aa (eS (pv 0) rfl) (aa (pv 3) ai))) (λ_=>(sX K 2 (cQ (aP (i:=0) (show ND9 ["line","column","state","puts"] by decide +kernel)) (cQ (aP (i:=1) (show ND9 ["line","column","state","puts"] by decide +kernel)) jX)))) (λ_=>cu) (λ_=>(cE xJ hr T.kM (aa (bq oo (pv 0) (pv 1)) (aa (bq oo (pv 2) (pv 3)) ai)))))))),?_⟩
  refine aW (σ:=[some (.ref x),some (.ref p),some (.ref q),none]) rfl ?_;obtain ⟨dx,a,b,c,gx,n1,n2,n3,Ga,Gb,Gc⟩:=id S;have d1:=D.n8;have d2:=D.i4;exists ⟨x,Z.a_System,dx,_,_,rfl,gx,T.cl_System,T.na_put,Hq,?_⟩;exists ⟨x,Z.a_System,dx,_,_,rfl,gx,T.cl_System,T.na_states,zj,?_⟩;exists ⟨b,mv.length,H0,pt,rfl,Gb,by lia,by lia,D.pw,λt H1 nt s1 Gt=>?_⟩;obtain ⟨as,ga,qa,_⟩:=Ga.same s1;obtain ⟨ts,gt,qt,_⟩:=id Gt;have la:=qa.length;have lt:=qt.length;rw[mi] at lt;have gx1:=s1 _ _ gx;exists ⟨x,Z.a_System,dx,_,_,rfl,gx1,T.cl_System,T.na_move,Ei,?_⟩;exists ⟨⟨_,bK.of ga⟩,⟨_,bK.of gt⟩,?_⟩;refine Av (K:=K) (xs:=as) (ws:=ts) (λi ys H'=>aG H1 H'/\Paired (bS K H') ((gE mv pt st pu).take i) ys) (aO (bO (by lia))) (by lia) ⟨aG.refl _,.nil⟩ (λi ys H' _ ⟨s,_⟩=>⟨bK.of (s _ _ ga),bK.of (s _ _ gt)⟩) ?_ ?_
  ·rintro i v1 v2 ys H' r h1 h2 hy ⟨s,pr⟩ hr;obtain ⟨line,el,u1,rfl,_,R1⟩:=cH qa h1;obtain ⟨col,ec,u2,rfl,_,R2⟩:=cH qt h2;have ml:=ao el;have mc:=ao ec;have sr:aG H' (upd H' r (.tup [.ref u1,.ref u2])):=aG.new hr;have gr:(upd H' r (.tup [.ref u1,.ref u2])) r=some (.tup [.ref u1,.ref u2]):=aK;have s2:=s.trans sr;generalize upd H' r (.tup [.ref u1,.ref u2])=H2 at sr gr s2 ⊢;have lc:col.length=pt.length:=wM col mc;have ll:line.length=mv.length:=D.mw line ml;obtain ⟨z1,g1,q1⟩:=R1.same s2;obtain ⟨z2,g2,q2⟩:=R2.same s2;have y1:=q1.length;have y2:=q2.length;exists oi g1 g2 (aO (bO (by lia))) λc1 H3 s3 n3' g3=>?_
   have s13:=s2.trans s3;obtain ⟨z3,g4,q3⟩:=(hp.same s1).same s13;obtain ⟨z4,g5,q4⟩:=(hq.same s1).same s13;have y3:=q3.length;have y4:=q4.length;exists oi g4 g5 (aO (bO (by lia))) λc2 H4 s4 n4 g6=>?_
   have s34:=s3.trans s4;exists ⟨c1,c2,line++col,st++pu,rfl,⟨_,s4 _ _ g3,Paired.imp' (λ_ _ z=>z.same s34) (cz q1 q2)⟩,⟨_,g6,Paired.imp' (λ_ _ z=>z.same s4) (cz q3 q4)⟩,by rw[aF,aF];lia,by rw[aF];lia,.sys ?_ fs,λr2 H5 s5 h5=>?_⟩
   ·refine F.fits λy hy=>?_
    rcases av.mp hy with hy | hy
    ·exact .inl ⟨line,ml,hy⟩
    ·obtain ⟨j,_,rfl⟩:=aw.mp mc;obtain ⟨xs,hx,rfl⟩:=aw.mp hy;by_cases hj:j < xs.length
     ·refine .inr (.inl ⟨xs,hx,?_⟩);rw[ae,af hj];exact bu hj
     ·exact .inr (.inr (.inr (by rw[ae,a9 (by lia)];rfl)))
   ·have em:(gE mv pt st pu)[i]?=some (dN (line++col) (st++pu)):=by
     unfold gE;rw[bR,el,ec]
    refine ⟨((s2.trans s34).trans s5),?_⟩;rw[take_snoc em];exact cz (Paired.imp' (λ_ _ z=>(z.same (sr.trans s34)).same s5) pr) (.cons h5 .nil)
  ·rintro ys H' hy ⟨s,pr⟩ l hl;have lm:(gE mv pt st pu).length=mv.length:=by unfold gE;rw[bC,mi];lia
   rw[aA (by lia)] at pr;exact k l _ (s1.none (s.none hl)) ((s1.trans s).trans (aG.new hl)) ⟨ys,aK,Paired.imp' (λ_ _ z=>z.same (aG.new hl)) pr⟩
theorem js:a7 ["self","start","steps","puts","state","done"] ["self","start","steps"] (aI jf):=by walk_at "d"
theorem A8 (T:Txt K mg Z) (ptree:P.given.tree=none):cO P w K mg base iI 9 Z.qj Z.qd ["self","start","steps"] (HQ K Z.a_System Z.a_Costs):=by
 have sS:=vF (P:=P) (w:=w) (base:=base) T ptree;have mX:=qG (P:=P) (w:=w) (base:=base) T ptree;have xJ:=zU (P:=P) (w:=w) (base:=base) T ptree;have uS:=xY (P:=P) (w:=w) (base:=base) T ptree;have gO:=jB (P:=P) (w:=w) (base:=base) T ptree;refine T.wG.ok js (λvs H Q E h=>?_) (λcdv A outer s H vs Q E hr h=>?_)
 ·obtain ⟨A9,x,kn,s,H0,mv,pt,lk,qs,rs,fs,st,tt,sg,om,b,j9,l,us,rfl,_⟩:=h;rfl
 ·obtain ⟨A9,x,kn,s,H0,mv,pt,lk,qs,rs,fs,st,tt,sg,om,b,j9,l,us,rfl,LA,Ak,CQ,D,F,lT,KU,SF,Rs,BF,k⟩:=h
  refine ⟨_,(au (aV (i:=3) js.nd rfl (Or.inl rfl) (dZ ai))
   (au (aV (i:=4) js.nd rfl (Or.inl rfl) (pv 1))
   (au (eR PassesOwn.never rfl (cv rfl T.range (aa (pv 2) ai)) (aP (i:=5) js.nd)
    (au (jW (xU dA dY dX kL (pv 3) (aa (ju (pv 0) T.cl_Costs T.p6 sS (hr.mono (by decide)) T.sJ .nil mH (aa (pv 4) (aa (bq kK (pv 2) (pv 5)) ai))) ai)))
   (aB (aV (i:=4) js.nd rfl (Or.inl rfl) (ju (eS (pv 0) rfl) T.cl_System T.lR mX (hr.mono (by decide)) T.mT .nil mH (aa (pv 4) (aa (aT bw (pv 3) (tF nR aj)) ai)))))))
   (aB (bo (cG (aa (cE xJ hr T.kM (aa (pv 1) (aa (cE uS hr T.nv (aa (aT bJ (ju (pv 0) T.cl_Costs T.iu gO (hr.mono (by decide)) T.iO .nil mH (aa (pv 2) ai)) aj) (aa (pv 1) ai))) ai))) (aa (pv 3) ai)))))))),?_⟩
  refine aW (σ:=[some (.ref x),some (.ref s),some (.int l),none,none,none]) rfl ?_;have d8:=D.n8;have i4:=D.i4;have t8:=F.t8;obtain ⟨lb,lj⟩:=F.l3;exists de λp H1 s1 n1 g1=>?_
  have pk:p≠kn:=λz=>by rw[z,KU.1] at n1;cases n1
  have pA:=LA.new n1;have sP:aG (fg A9 H) (fg (qP A9 p) H1):=Ad n1 (dR s1);have CP:=CQ.same sP;have RP:=Rs.same sP;have AkP:qP A9 p kn=true:=AA Ak;have KP:=KU.hide s1 n1;have LP:qK (qP A9 p) H1:=(LA.same s1).ad g1;exists ⟨by lia,by lia,?_⟩;have kn0:H kn≠none:=by rw[KU.1];exact λz=>nomatch z
  refine eh (n:=l) (λi σ' H'=>xF kn H H'/\∃A2,((∀a,qP A9 p a=true->A2 a=true)/\∀a,A2 a=true->A9 a=true\/H a=none)/\qK A2 H'/\aG (fg A9 H) (fg A2 H')/\(∃us',xI A2 (bY mv pt qs rs fs) kn H' us')/\∃sv y,σ'=[some (.ref x),some (.ref s),some (.int l),some (.ref p),some (.ref sv),y]/\bX K (fg A2 H') sv (qI mv pt qs rs fs st l i)/\∃vs,H' p=some (.lst vs)/\V.ref p∉vs/\Paired (Ob K A2 H H') ((List.range i).map λi=>kQ mv pt qs rs fs (l - i) (qI mv pt qs rs fs st l i)) vs) ⟨s1.smx,qP A9 p,⟨λ_ h=>h,λa ha=>by
   rcases Ea.mp ha with z | z
   ·exact .inl z
   ·right;rw[show a=p by simpa using z];exact n1⟩,LP,sP,⟨us,KP⟩,s,_,rfl,RP,[],g1,(λz=>nomatch z),.nil⟩ ?_ ?_
  ·rintro i σ' H' hi ⟨s',A2,⟨up,dn⟩,L',hs,⟨us',KU'⟩,sv,y,rfl,Rv,vs,gv,nin,pv⟩;have lv:=pv.length;rw[ag,bT] at lv;have Ak2:A2 kn=true:=up kn AkP;have Ap2:A2 p=true:=up p wd;have C':=CQ.same hs;obtain ⟨dx,sy,a1,a2,a3,gx,S',_⟩:=C'.same br;obtain ⟨M,hM⟩:=BF.mm i (by lia);exists ⟨.inl ⟨rfl,_,bK.of gv⟩,?_⟩;exists ⟨x,dx,_,rfl,gx,tR (by decide +kernel) (by decide +kernel) (by decide +kernel) (by decide +kernel) (by decide +kernel),?_⟩;walk_at "w";rw[show ((l:Int) - (i:Int))=((l - i:Nat):Int) by lia];refine ⟨A2,x,kn,sv,H0,mv,pt,lk,qs,rs,fs,_,tt,sg,om,b,j9,l - i,M,us',rfl,L',Ak2,C',D,F,by lia,KU',by lia,Rv,BF.la i (by lia),hM,λr2 us2 H2 s2 KU2 n2 rk2 R2=>?_⟩;have gv2:H2 p=some (.lst vs):=s2 _ _ pk gv;have L2':=L'.smx s2 KU2.1;have h2:aG (fg A2 H') (fg (qP A2 r2) H2):=Ad n2 (kY Ak2 s2);obtain ⟨zs2,gz2,_⟩:=bX.nums R2 L2';have L2:qK (qP A2 r2) H2:=L2'.ad gz2;obtain ⟨zs2',gz2',qz2⟩:=bX.nums R2 L2;rw[gz2] at gz2';cases gz2';have rp:r2≠p:=λz=>by rw[z,Ap2] at rk2;cases rk2
   have nr:H r2=none:=by
    cases e:H r2 with
    | none=>rfl
    | some o =>
     rcases Classical.em (r2=kn) with z | z
     ·rw[z,KU'.1] at n2;cases n2
     ·rw[s' _ _ z e] at n2;cases n2
   have up3:∀a,A2 a=true->qP A2 r2 a=true:=λa h=>AA h
   have Ap3:=up3 p Ap2;exists kF gv2 (bO (by lia)) ?_;have eU:fg (qP A2 r2) (upd H2 p (.lst (vs++[.ref r2])))=fg (qP A2 r2) H2:=Ip Ap3;have s3:xF kn H (upd H2 p (.lst (vs++[.ref r2]))):=(s'.trans s2).after n1;have g3:(upd H2 p (.lst (vs++[.ref r2]))) p=some (.lst (vs++[.ref r2])):=aK
   have KU3:xI (qP A2 r2) (bY mv pt qs rs fs) kn (upd H2 p (.lst (vs++[.ref r2]))) us2:=by
    obtain ⟨g,a,b,pr⟩:=KU2;exact ⟨by rw[aZ (Ne.symm pk)];exact g,a,b,by rw[eU];exact pr⟩
   have L3:qK (qP A2 r2) (upd H2 p (.lst (vs++[.ref r2]))):=λa ha=>by
    by_cases e:a=p
    ·exact ⟨_,by rw[e];exact aK⟩
    ·obtain ⟨ws,g⟩:=L2 a ha;exact ⟨ws,by rw[aZ e];exact g⟩
   have h3:aG (fg A2 H') (fg (qP A2 r2) (upd H2 p (.lst (vs++[.ref r2])))):=by rw[eU];exact h2
   have P3:Paired (Ob K (qP A2 r2) H (upd H2 p (.lst (vs++[.ref r2])))) ((List.range (i+1)).map λi=>kQ mv pt qs rs fs (l - i) (qI mv pt qs rs fs st l i)) (vs++[.ref r2]):=by
    have ne:∀{v q},v∈vs->v=V.ref q->q≠p:=λh e z=>nin (by rw[<- z,<- e];exact h)
    have pv2:=Paired.imp' (λ_ _ z=>Ob.smx z s2 kn0 up3 h2) pv;rw[AV,cn];refine cz (rR (λxs v hv hr=>?_) pv2) (.cons ⟨r2,zs2,rfl,wd,nr,by rw[aZ rp];exact gz2,by rw[eU];exact qz2⟩ .nil);obtain ⟨q,zs,e,aq,nq,gq,rq⟩:=hr;exact ⟨q,zs,e,aq,nq,by rw[aZ (ne hv e)];exact gq,by rw[eU];exact rq⟩
   have R2H:bX K (upd H2 p (.lst (vs++[.ref r2]))) r2 (kQ mv pt qs rs fs (l - i) (qI mv pt qs rs fs st l i)):=⟨zs2,by rw[aZ rp];exact gz2,Paired.imp' (λ_ _ z=>z.same (by rw[<- eU];exact br)) qz2⟩;generalize upd H2 p (.lst (vs++[.ref r2]))=H3 at s3 g3 KU3 L3 h3 P3 R2H ⊢;have C3:=C'.same h3;obtain ⟨dx3,sy3,a13,a23,a33,gx3,S3,_⟩:=C3.same br;obtain ⟨dy,am,ap,al,gy,_⟩:=id S3;exists ⟨x,Z.a_Costs,dx3,_,_,rfl,gx3,T.cl_Costs,T.na_Costs_system,tj,?_⟩;exists ⟨sy3,dy,_,rfl,gy,Bu,?_⟩;exists cp (bK.of g3) (Az _ _) ?_;exists ⟨sy3,sv,r2,H0,mv,pt,lk,_,_,rfl,S3,D,SF,(Rv.same h3).same br,R2H,BF.la i (by lia),BF.ld i hi,BF.fn i hi,λr4 H4 n4 s4 R4=>?_⟩;have h4:aG (fg (qP A2 r2) H3) (fg (qP A2 r2) H4):=dR s4;have L4:=L3.same s4;refine ⟨s3.trans s4.smx,qP A2 r2,⟨λa h=>up3 a (up a h),λa ha=>?_⟩,L4,hs.trans (h3.trans h4),⟨us2,KU3.same s4⟩,r4,_,rfl,R4.hid L4 (L3.new n4),_,s4 _ _ g3,?_,Paired.imp' (λ_ _ z=>Ob.smx z s4.smx kn0 (λ_ h=>h) h4) P3⟩
   ·rcases Ea.mp ha with z | z
    ·exact dn a z
    ·right;rw[show a=r2 by simpa using z];exact nr
   ·intro z;rcases av.mp z with z | z
    ·exact nin z
    ·cases bz.mp z;exact rp rfl
  rintro σ' H' ⟨s',A2,⟨up,dn⟩,L',hs,⟨us',KU'⟩,sv,y,rfl,Rv,vs,gv,nin,pv⟩;have Ak2:A2 kn=true:=up kn AkP;have Ap2:A2 p=true:=up p wd;have C':=CQ.same hs;obtain ⟨dx,sy,a1,a2,a3,gx,S',_⟩:=C'.same br;obtain ⟨M,hM⟩:=BF.mm 0 (by lia);have hM:qo M (st.map nm):=hM;have ls:=BF.ls;exists ⟨x,dx,_,rfl,gx,tR (by decide +kernel) (by decide +kernel) (by decide +kernel) (by decide +kernel) (by decide +kernel),?_⟩;exists ⟨A2,x,kn,H0,mv,pt,lk,qs,rs,fs,tt,sg,om,b,j9,l,us',rfl,L',Ak2,C',D,F,lT,KU',λv us2 H2 s2 KU2 kv=>?_⟩;have h2:=kY Ak2 s2;have L2':=L'.smx s2 KU2.1;have R2:bX K H2 s st:=((Rs.same hs).same h2).same br;obtain ⟨t,tw,ts,pw,ps,rfl,q1,q2,G1,q3,G2⟩:=kv.same br;exists ⟨tw,pw,s,_,_,M,st,b,b,rfl,q2,G1,by rw[F.lw l lT];lia,λc hc=>by rw[F.ww l lT c hc,ls],R2,by lia,hM,F.sw l lT,by lia,by have:=(F.wb l lT).1;lia,(F.wb l lT).2,by lia,λr3 H3 n3 s3 R3=>?_⟩;exists ⟨s,r3,st,_,rfl,R2.same s3,R3,by unfold zT;rw[ag,F.lw l lT,ls],by lia,BF.dt,λe4 H4 s4 N4=>?_⟩;exists bV λt5 H5 s5 g5=>?_
  have s25:=(s3.trans s4).trans s5;have L5:=L2'.same s25;have h25:aG (fg A2 H') (fg A2 H5):=h2.trans (dR s25)
  have N5:bS K (fg A2 H5) (dN st (zT (bY mv pt qs rs fs l).1.1 (bY mv pt qs rs fs l).1.2 st)) (.ref e4):=by
   obtain ⟨q,e,sq⟩:=N4.same s5;exact ⟨q,e,yS sq L5⟩
  exact k A2 t5 e4 p us2 vs H5 g5 (λa h=>up a (AA h)) dn L5 Ap2 n1 ((s'.trans s2).trans s25.smx) (hs.trans h25) (KU2.same s25) N5 (s25 _ _ (s2 _ _ pk gv)) (Paired.imp' (λ_ _ z=>Ob.smx z (s2.trans s25.smx) kn0 (λ_ h=>h) h25) pv) nin
theorem CT:a7 ["_law_one","_law_other"] ["_law_one","_law_other"] (aI rL):=by walk_at "d"
theorem Ds (T:Txt K mg Z) (ptree:P.given.tree=none):cO P w K mg base iI 2 Z.yH Z.yp ["_law_one","_law_other"] (pF K (λx y=>x - y)):=by
 have gR:=lG (P:=P) (w:=w) (base:=base) T ptree;refine T.pZ.F.ok CT (λvs H Q E h=>?_) (λcdv A outer s H vs Q E hr h=>?_)
 ·obtain ⟨p,q,a,b,c,d,rfl,hp,hq,hb,hd,sa,sb,sc,sd,k⟩:=Hr h;rfl
 ·obtain ⟨p,q,a,b,c,d,rfl,hp,hq,hb,hd,sa,sb,sc,sd,k⟩:=Hr h;refine ⟨_,(aB (bo (cE gR hr T.ie (aa (bq kK (bq cy (aT bJ (pv 0) aj) (aT bJ (pv 1) aj)) (bq cy (aT bJ (pv 1) aj) (aT bJ (pv 0) aj))) (aa (bq cy (aT bJ (pv 0) aj) (aT bJ (pv 1) aj)) ai))))),?_⟩;refine aW (σ:=[some (.ref p),some (.ref q)]) rfl ?_;have hbd:0 < b*d:=eJ hb hd;have sbd:Sz 8999000 (b*d):=(sb.mul sd).mono (by decide);exists eZ (show fD _ _ from .inr ⟨_,_,sa,sd,by decide⟩) ?_;exists eZ (show fD _ _ from .inr ⟨_,_,sc,sb,by decide⟩) ?_;exists eZ (show fD _ _ from .inr ⟨_,_,sb,sd,by decide⟩) ?_;walk_at "w";exists ⟨_,_,rfl,hbd,sbd,k⟩
theorem AY:a7 ["_law_one","_law_other"] ["_law_one","_law_other"] (aI pM):=by walk_at "d"
theorem A6 (T:Txt K mg Z) (ptree:P.given.tree=none):cO P w K mg base iI 3 Z.wA Z.vV ["_law_one","_law_other"] (BD K):=by
 have Fx:=Ds (P:=P) (w:=w) (base:=base) T ptree;refine T.oB.F.ok AY (λvs H Q E h=>?_) (λcdv A outer s H vs Q E hr h=>?_)
 ·obtain ⟨p,q,xs,ys,rfl,_⟩:=h;rfl
 ·obtain ⟨p,q,xs,ys,rfl,hp,hq,hl,hz,h1,h2,kk⟩:=h;refine ⟨_,(aB (bo (cb ["_law_k"] ["_law_one","_law_other"] [0,1] (cv rfl T.range (aa (bG bx (by rfl) T.len bg (aa (pv 0) ai)) ai)) (λ_=>(aP (i:=0) (show ND9 ["_law_k","_law_one","_law_other"] by decide +kernel))) (λ_=>cu) (λ_=>(cE Fx hr T.pZ (aa (aT (oV K (by rfl)) (pv 1) (pv 0)) (aa (aT (oV K (by rfl)) (pv 2) (pv 0)) ai))))))),?_⟩;refine aW (σ:=[some (.ref p),some (.ref q)]) rfl ?_;obtain ⟨us,gu,qu⟩:=id hp;obtain ⟨ws,gw,qw⟩:=id hq;have lu:=qu.length;exists ⟨_,_,rfl,.inl (bK.of gu),?_⟩;exists ⟨by lia,by lia,?_⟩;refine jL (n:=us.length) (bS K) (λi=>xs.getD i 0 - ys.getD i 0) (by lia) (λa b=>a.same b) ?_ ?_
  ·rintro i H' NY NN hi s k1;have ix:i < xs.length:=by lia
   have iy:i < ys.length:=by lia
   obtain ⟨vx,ex,nx⟩:=Gq (Paired.imp' (λ_ _ z=>z.same s) qu) ix;obtain ⟨vy,ey,ny⟩:=Gq (Paired.imp' (λ_ _ z=>z.same s) qw) iy;exists cp (bK.of (s _ _ gu)) ex ?_;exists cp (bK.of (s _ _ gw)) ey ?_;exists ⟨_,_,_,_,rfl,nx,ny,h1 _ (getD_mem ix),h2 _ (getD_mem iy),λr3 H3 s3 n3=>k1 _ _ s3 n3⟩
  ·rintro ys' H' l hl' s g pr nx;exact kk l H' hl' s ⟨ys',g,by rw[FI (by lia)];rw[<- lu] at pr;exact pr⟩
theorem iU:a7 ["_law_weights_here","_law_puts_here","_law_total","_law_row_here","_law_k"] ["_law_weights_here","_law_puts_here"] (aI og):=by walk_at "d"
theorem rW (T:Txt K mg Z) (ptree:P.given.tree=none):cO P w K mg base iI 3 Z.tZ Z.tP ["_law_weights_here","_law_puts_here"] (FP K):=by
 have dD:=iV (P:=P) (w:=w) (base:=base) T ptree;have gN:=l5 (P:=P) (w:=w) (base:=base) T ptree;refine T.hZ.F.ok iU (λvs H Q E h=>?_) (λcdv A outer s H vs Q E hr h=>?_)
 ·obtain ⟨p,q,ws,rows,H0,rfl,_⟩:=h;rfl
 ·obtain ⟨p,q,ws,rows,H0,rfl,hp,hq,hl,hf,k⟩:=h
  refine ⟨_,(au (aV (i:=2) iU.nd rfl (Or.inl rfl) (cG (aa aj (aa aj ai))))
   (au (eR PassesOwn.never rfl (cg (pv 1)) (aP (i:=3) iU.nd)
    (aB (eR PassesOwn.never rfl (cv rfl T.range (aa (bG bx (by rfl) T.len bg (aa (pv 3) ai)) ai)) (aP (i:=4) iU.nd)
    (aB (aV (i:=2) iU.nd rfl (Or.inl rfl) (cE dD hr T.eV (aa (pv 2) (aa (cE gN hr T.gJ (aa (aT bw (pv 0) (pv 4)) (aa (cE gN hr T.gJ (aa (aT bw (pv 3) (pv 4)) (aa (aT bw (pv 3) (pv 4)) ai))) ai))) ai))))))))
   (aB (bo (pv 2))))),?_⟩
  refine aW (σ:=[some (.ref p),some (.ref q),none,none,none]) rfl ?_;obtain ⟨_,_,_,_,_,_,_,_,_,_,_,_,h8,l20⟩:=id hf;obtain ⟨xs,gx,qx,_⟩:=id hq;obtain ⟨us,gu,qu⟩:=id hp;have lx:=qx.length;exists bV λr0 H1 s1 g1=>?_
  exists ⟨⟨_,bK.of (s1 _ _ gx)⟩,?_⟩;refine i5 (K:=K) (a:=q) (xs:=xs) (λi σ' H'=>aG H H'/\∃(r:V) (x y:Option V),σ'=[some (.ref p),some (.ref q),some r,x,y]/\bS K H' (oE ws (rows.take i)) r) ⟨s1,_,none,none,rfl,bS.mk g1 rfl⟩ (λi σ' H' _ ⟨s,_⟩=>bK.of (s _ _ gx)) ?_ ?_
  ·rintro i x σ' H' hx ⟨s,r,x1,y1,rfl,nr⟩;obtain ⟨qs,eq,t,rfl,_,Rt⟩:=cH qx hx;have hm:=ao eq;obtain ⟨zs,gz,qz⟩:=id Rt;have lz:=qz.length;have lq:=hl qs hm;exists ⟨_,_,rfl,.inl (bK.of (s _ _ gz)),?_⟩;exists ⟨by lia,by lia,?_⟩;refine eh (n:=zs.length) (λj σ' H'=>aG H H'/\∃(r:V) (y:Option V),σ'=[some (.ref p),some (.ref q),some r,some (.ref t),y]/\bS K H' (oE ws (rows.take i)+dN (ws.take j) ((jb qs).take j)) r) ⟨s,_,_,rfl,by rw[show dN (ws.take 0) ((jb qs).take 0)=0 by simp [dN],c8];exact nr⟩ ?_ ?_
   ·rintro j σ' H2 hj ⟨s2,r2,y2,rfl,n2⟩;have jw:j < ws.length:=by lia
    have jq:j < qs.length:=by lia
    obtain ⟨vw,ew,nw⟩:=Gq (Paired.imp' (λ_ _ z=>z.same s2) qu) jw;obtain ⟨vx,ex,nx⟩:=Gq (Paired.imp' (λ_ _ z=>z.same s2) qz) jq;obtain ⟨z1,z2,z3,z4⟩:=hf.num hm (getD_mem jq) (getD_mem jw);exists cp (bK.of (s2 _ _ gu)) ew ?_;exists cp (bK.of (s2 _ _ gz)) ex ?_;exists cp (bK.of (s2 _ _ gz)) ex ?_;exists ⟨_,_,_,_,rfl,nx,nx,z1,z1,λr3 H3 s3 n3=>?_⟩;exists ⟨_,_,_,_,rfl,nw.same s3,n3,z2,z3,λr4 H4 s4 n4=>?_⟩;exists ⟨_,_,_,_,rfl,(n2.same s3).same s4,n4,hf.take i j qs hm,z4,λr5 H5 s5 n5=>?_⟩;exists ⟨((s2.trans s3).trans s4).trans s5,_,_,rfl,?_⟩;rw[xv (by lia) (by unfold jb;rw[ag];lia),<- Q6]
    have e:(jb qs).getD j 0=qs.getD j 0*qs.getD j 0:=by
     unfold jb;rw[getD_map jq,ae,af jq];rfl
    rw[e];exact n5
   ·rintro σ' H2 ⟨s2,r2,y2,rfl,n2⟩;rw[aA (show ws.length<=zs.length by lia),aA (show (jb qs).length<=zs.length by unfold jb;rw[ag];lia)] at n2;exact ⟨s2,_,_,_,rfl,by rw[take_snoc eq,DE];exact n2⟩
  ·rintro σ' H' ⟨s,r,x1,y1,rfl,nr⟩;rw[aA (by lia)] at nr;obtain ⟨t,rfl,ht⟩:=nr;exists k _ H' s ⟨t,rfl,ht⟩
theorem m9:a7 ["_law_one","_law_other","_law_total","_law_k"] ["_law_one","_law_other"] (aI uC):=by walk_at "d"
theorem xZ (T:Txt K mg Z) (ptree:P.given.tree=none):cO P w K mg base iI 3 Z.AL Z.Ar ["_law_one","_law_other"] (CC K):=by
 have dD:=iV (P:=P) (w:=w) (base:=base) T ptree;have gN:=l5 (P:=P) (w:=w) (base:=base) T ptree;refine T.nE.F.ok m9 (λvs H Q E h=>?_) (λcdv A outer s H vs Q E hr h=>?_)
 ·obtain ⟨p,q,xs,ys,rfl,_⟩:=h;rfl
 ·obtain ⟨p,q,xs,ys,rfl,hp,hq,hl,hz,⟨k1,j1,k2,j2,h1,h2,hkj⟩,kk⟩:=h
  refine ⟨_,(au (aV (i:=2) m9.nd rfl (Or.inl rfl) (cG (aa aj (aa aj ai))))
   (au (eR PassesOwn.never rfl (cv rfl T.range (aa (bG bx (by rfl) T.len bg (aa (pv 0) ai)) ai)) (aP (i:=3) m9.nd)
    (aB (aV (i:=2) m9.nd rfl (Or.inl rfl) (cE dD hr T.eV (aa (pv 2) (aa (cE gN hr T.gJ (aa (aT bw (pv 0) (pv 3)) (aa (aT bw (pv 1) (pv 3)) ai))) ai))))))
   (aB (bo (pv 2))))),?_⟩
  refine aW (σ:=[some (.ref p),some (.ref q),none,none]) rfl ?_;obtain ⟨us,gu,qu⟩:=id hp;obtain ⟨ws,gw,qw⟩:=id hq;have lu:=qu.length;have lw:=qw.length;exists bV λr0 H0 s0 g0=>?_
  exists ⟨_,_,rfl,.inl (bK.of (s0 _ _ gu)),?_⟩;exists ⟨by lia,by lia,?_⟩;refine eh (n:=us.length) (λi σ' H'=>aG H H'/\∃(r:V) (v:Option V),σ'=[some (.ref p),some (.ref q),some r,v]/\bS K H' (dN (xs.take i) (ys.take i)) r) ⟨s0,_,none,rfl,bS.mk g0 rfl⟩ ?_ ?_
  ·rintro i σ' H' hi ⟨s,r,v,rfl,hr⟩;have ix:i < xs.length:=by lia
   have iy:i < ys.length:=by lia
   obtain ⟨vx,ex,nx⟩:=Gq (Paired.imp' (λ_ _ z=>z.same s) qu) ix;obtain ⟨vy,ey,ny⟩:=Gq (Paired.imp' (λ_ _ z=>z.same s) qw) iy;exists cp (bK.of (s _ _ gu)) ex ?_;exists cp (bK.of (s _ _ gw)) ey ?_;exists ⟨_,_,_,_,rfl,nx,ny,h1.szn (getD_mem ix) (by lia),h2.szn (getD_mem iy) (by lia),λr3 H3 s3 n3=>?_⟩;exists ⟨_,_,_,_,rfl,hr.same s3,n3,E4 h1 h2 hz i hkj,KZ (h1.one (getD_mem ix)) (h2.one (getD_mem iy)) hkj,λr4 H4 s4 n4=>?_⟩;exists ⟨(s.trans s3).trans s4,_,_,rfl,by rw[xv ix iy];exact n4⟩
  ·rintro σ' H' ⟨s,r,v,rfl,hr⟩;rw[aA (by lia),aA (by lia)] at hr;obtain ⟨t,rfl,ht⟩:=hr;exists kk _ H' s ⟨t,rfl,ht⟩
theorem FT:a7 ["_law_grid","_law_row_here"] ["_law_grid","_law_row_here"] (aI wY):=by walk_at "d"
theorem zY (T:Txt K mg Z) (ptree:P.given.tree=none):cO P w K mg base iI 4 Z.Cf Z.BP ["_law_grid","_law_row_here"] (HJ K):=by
 have uT:=xZ (P:=P) (w:=w) (base:=base) T ptree;refine T.pW.F.ok FT (λvs H Q E h=>?_) (λcdv A outer s H vs Q E hr h=>?_)
 ·obtain ⟨p,q,H0,rows,ys,rfl,_⟩:=h;rfl
 ·obtain ⟨p,q,H0,rows,ys,rfl,hp,hq,hz,hl,hr1,kk⟩:=h;refine ⟨_,(aB (bo (cb ["_law_one"] ["_law_row_here"] [1] (cg (pv 0)) (λ_=>(aP (i:=0) (show ND9 ["_law_one","_law_row_here"] by decide +kernel))) (λ_=>cu) (λ_=>(cE uT hr T.nE (aa (pv 0) (aa (pv 1) ai))))))),?_⟩;refine aW (σ:=[some (.ref p),some (.ref q)]) rfl ?_;obtain ⟨xs,gx,qx,_⟩:=id hp;exists ⟨⟨_,bK.of gx⟩,?_⟩;refine c6 (K:=K) (F:=ia K H0) (bS K) (λxs=>dN xs ys) gx qx hz (λa b=>a.same b) (λa b=>a.same b) ?_ ?_
  ·rintro i ns x H' NY NN en s ⟨u,rfl,_,hu⟩ k;obtain ⟨e1,e2⟩:=hr1 ns (ao en);exists ⟨u,q,ns,ys,rfl,hu,hq.same s,e1.symm,by lia,e2,λr H2 s2 h2'=>k _ _ s2 h2'⟩
  ·rintro ys' H' r hr s g pr nx;exact kk r H' hr s ⟨ys',g,pr⟩
theorem CJ:a7 ["whole"] ["whole"] (aI rj):=by walk_at "d"
theorem Di (T:Txt K mg Z) (ptree:P.given.tree=none):cO P w K mg base iI 3 Z.yw Z.ye ["whole"] (En K):=by
 have ks:=oT (P:=P) (w:=w) (base:=base) T ptree;refine T.pT.F.ok CJ (λvs H Q E h=>?_) (λcdv A outer s H vs Q E hr h=>?_)
 ·obtain ⟨t,p,ls,b,rfl,_⟩:=h;rfl
 ·obtain ⟨t,p,ls,b,rfl,gt,G,l20,w20,b0,sb,k⟩:=h;refine ⟨_,(aB (bo (cb ["line"] ["whole"] [0] (cg (aT bJ (pv 0) aj)) (λ_=>(aP (i:=0) (show ND9 ["line","whole"] by decide +kernel))) (λ_=>cu) (λ_=>(cb ["value"] ["whole"] [1] (vz K (pv 0)) (λ_=>(aP (i:=0) (show ND9 ["value","whole"] by decide +kernel))) (λ_=>cu) (λ_=>(cE ks hr T.kO (aa (pv 0) (aa (aT (jg K (by rfl)) (pv 1) aj) ai))))))))),?_⟩;refine aW (σ:=[some (.ref t)]) rfl ?_;obtain ⟨us,gu,qu⟩:=id G;have lu:=qu.length;exists ⟨⟨_,bK.of gu⟩,?_⟩;refine c6 (K:=K) (as:=ls) (F:=RI) (ia K H) (λl=>l.map λ(z:Int)=>(z:Rat) / (b:Rat)) gu qu (by lia) (λh s=>h.same s) (λh s=>h.same s) ?_ ?_
  ·rintro i c x H' NY NN ec s' ⟨u,rfl,gc⟩ k1;have wc:=w20 c (ao ec);exists ⟨⟨_,bK.of gc⟩,?_⟩;refine c6 (K:=K) (as:=c) (F:=λ_ z x=>x=V.int z) (bS K) (λ(z:Int)=>(z:Rat) / (b:Rat)) gc mP (by lia) (λh _=>h) (λh s=>h.same s) ?_ ?_
   ·rintro j z v H2 NY2 NN2 ez s2 rfl k2;have gt2:=s2 _ _ (s' _ _ gt);exists ⟨z,b,rfl,b0,sb,λr3 H3 s3 g3=>?_⟩;exact k2 _ _ s3 (bS.mk g3 (K8 b0))
   rintro ys H2 l hl s2 g2 pr _;exact k1 _ _ s2 ⟨l,rfl,s'.none hl,ys,g2,pr⟩
  rintro ys H2 r nr s2 g2 pr nx;exact k r H2 nr s2 ⟨ys,g2,pr,vI nx⟩
theorem zA:a7 ["self","left"] ["self","left"] (aI iE):=by walk_at "d"
theorem z6 (T:Txt K mg Z) (ptree:P.given.tree=none):cO P w K mg base iI 8 Z.oH Z.oF ["self","left"] (Ej K Z.a_System Z.a_Costs):=by
 have Fs:=Di (P:=P) (w:=w) (base:=base) T ptree;have gO:=jB (P:=P) (w:=w) (base:=base) T ptree;refine T.ug.ok zA (λvs H Q E h=>?_) (λcdv A outer s H vs Q E hr h=>?_)
 ·obtain ⟨A9,x,kn,H0,mv,pt,lk,qs,rs,fs,tt,sg,om,b,j9,l,us,rfl,_⟩:=h;rfl
 ·obtain ⟨A9,x,kn,H0,mv,pt,lk,qs,rs,fs,tt,sg,om,b,j9,l,us,rfl,LA,Ak,CQ,D,F,lT,KU,k⟩:=h;refine ⟨_,(aB (bo (cE Fs hr T.pT (aa (aT bJ (ju (pv 0) T.cl_Costs T.iu gO (hr.mono (by decide)) T.iO .nil mH (aa (pv 1) ai)) aj) ai)))),?_⟩;refine aW (σ:=[some (.ref x),some (.int l)]) rfl ?_;have d8:=D.n8;obtain ⟨dx,sy,a1,a2,a3,gx,S,R1,R2⟩:=CQ.same br;exists ⟨x,dx,_,rfl,gx,tR (by decide +kernel) (by decide +kernel) (by decide +kernel) (by decide +kernel) (by decide +kernel),?_⟩;exists ⟨A9,x,kn,H0,mv,pt,lk,qs,rs,fs,tt,sg,om,b,j9,l,us,rfl,LA,Ak,CQ,D,F,lT,KU,λv us' H1 s1 KU1 kv=>?_⟩;obtain ⟨t,tw,ts,pw,ps,rfl,g1,g2,G1,g3,G2⟩:=kv.same br;exists ⟨tw,pw,_,_,rfl,g2,G1,by rw[F.lw l lT];lia,λc hc=>by rw[F.ww l lT c hc];lia,by have:=(F.wb l lT).1;lia,(F.wb l lT).2.mono (by have:=F.l1;lia),λr2 H2 n2 s2 G=>?_⟩;have L1:=LA.smx s1 KU1.1;have sm:=kY Ak s1
  exact k r2 us' H2 (s1.trans s2.smx) (KU1.same s2) (by
   cases e:H r2 with
   | none=>rfl
   | some o =>
    rcases Classical.em (r2=kn) with z | z
    ·rw[z,KU1.1] at n2;cases n2
    ·rw[s1 _ _ z e] at n2;cases n2) (L1.new n2) (G.hid (L1.same s2) L1 sm (L1.new n2))
theorem fZ:a7 ["_law_parts_here","_law_told","_law_rates_here","_law_state","_law_row_here","_law_left","_law_d","_law_nothing","_law_e","_law_k","_law_more"] ["_law_parts_here","_law_told","_law_rates_here","_law_state","_law_row_here","_law_left"] (aI nZ):=by walk_at "d"
theorem zX (T:Txt K mg Z) (ptree:P.given.tree=none):cO P w K mg base iI 9 Z.tX Z.tN ["_law_parts_here","_law_told","_law_rates_here","_law_state","_law_row_here","_law_left"] (HE K Z.a_System Z.a_Costs):=by
 have DY:=A6 (P:=P) (w:=w) (base:=base) T ptree;have sS:=vF (P:=P) (w:=w) (base:=base) T ptree;have lM:=pQ (P:=P) (w:=w) (base:=base) T ptree;have pj:=uH (P:=P) (w:=w) (base:=base) T ptree;have dD:=iV (P:=P) (w:=w) (base:=base) T ptree;have jt:=rW (P:=P) (w:=w) (base:=base) T ptree;have uT:=xZ (P:=P) (w:=w) (base:=base) T ptree;have xN:=zY (P:=P) (w:=w) (base:=base) T ptree;have Bo:=z6 (P:=P) (w:=w) (base:=base) T ptree;refine T.mK.F.ok fZ (λvs H Q E h=>?_) (λcdv A outer s H vs Q E hr h=>?_)
 ·obtain ⟨A9,r,x,kn,rt,s,p,H0,H1,mv,pt,lk,qs,rs,fs,st,pu,tt,sg,om,b,j9,l,us,rfl,_⟩:=h;rfl
 ·obtain ⟨A9,r,x,kn,rt,s,p,H0,H1,mv,pt,lk,qs,rs,fs,st,pu,tt,sg,om,b,j9,l,us,rfl,LA,Ak,CQ,D,F,lT,KU,PQ,RT,Rs,Rp,SQ,k⟩:=h
  refine ⟨_,(au (aV (i:=6) fZ.nd rfl (Or.inl rfl) (cE DY hr T.oB (aa (pv 4) (aa (ju (pv 1) T.cl_Costs T.p6 sS (hr.mono (by decide)) T.sJ .nil mH (aa (fv gM (by rfl) T.list PyProof.Rows.boot_list (aa (pv 3) ai)) (aa (pv 5) ai))) ai))))
   (au (nh 7 ["_law_one"] [] [] fZ.nd rfl rfl (cg (pv 3)) (λ_=>(aP (i:=0) (show ND9 ["_law_one"] by decide +kernel))) (λ_=>cu) (λ_=>(cG (aa aj (aa aj ai)))))
   (au (aV (i:=8) fZ.nd rfl (Or.inl rfl) (pv 7))
   (au (eR PassesOwn.never rfl (cv rfl T.range (aa (bG bx (by rfl) T.len bg (aa (pv 6) ai)) ai)) (aP (i:=9) fZ.nd)
    (aB (aV (i:=8) fZ.nd rfl (Or.inl rfl) (cE lM hr T.j6 (aa (pv 8) (aa (cE pj hr T.mM (aa (aT bw (pv 6) (pv 9)) (aa (aT bw (aT bJ (pv 0) aj) (pv 9)) ai))) ai))))))
   (au (aV (i:=10) fZ.nd rfl (Or.inl rfl) (cE dD hr T.eV (aa (cE jt hr T.hZ (aa (aT bw (pv 2) aj) (aa (dZ (aa (pv 6) ai)) ai))) (aa (cE uT hr T.nE (aa (pv 8) (aa (cE xN hr T.pW (aa (ju (pv 1) T.cl_Costs T.so Bo (hr.mono (by decide)) T.tT .nil mH (aa (bq kK (pv 5) aj) ai)) (aa (pv 8) ai))) ai))) ai))))
   (au (fL (PW.pt (xS (bI rS (aT bJ (pv 10) aj) aj (bL _)) (rO (bI (Qb (Lf hr)) (jY (Dd (Lf hr)) (pv 10) (cG (aa aj (aa aj ai))) (bL _)) (jY (Dd (Lf hr)) (pv 6) (cb ["_law_one"] [] [] (cg (pv 6)) (λ_=>(aP (i:=0) (show ND9 ["_law_one"] by decide +kernel))) (λ_=>cu) (λ_=>(cG (aa aj (aa aj ai))))) (bL _)) (bL _))))) (aB (bo KI)) cK)
   (aB (bo (pv 10))))))))),?_⟩
  refine aW (σ:=[some (.ref r),some (.ref x),some (.ref rt),some (.ref s),some (.ref p),some (.int ((l+1:Nat):Int)),none,none,none,none,none]) rfl ?_;have d8:=D.n8;have i4:=D.i4;obtain ⟨dx,sy,_,_,_,gx,_⟩:=CQ.same br;obtain ⟨zS,gS,qS⟩:=id Rs;obtain ⟨M,hM⟩:=SQ.mm;obtain ⟨e9,he9⟩:∃e,kQ mv pt qs rs fs (l+1) st=e:=⟨_,rfl⟩;obtain ⟨d9,hd9⟩:∃d,List.zipWith (λx y=>x - y) pu (kQ mv pt qs rs fs (l+1) st)=d:=⟨_,rfl⟩;obtain ⟨fls,flp,fld,_,fpz,fdz,fsz,fpy,ftm,fef,flW,fwW,ff1,ff2,fwz,fnn⟩:=id SQ;rw[hd9] at fsz fpy ftm fef ff1 ff2 fwz fnn k;have ld9:d9.length=pt.length:=by rw[<- hd9,bC,flp,fld,IP]
  exists ⟨x,dx,_,rfl,gx,tR (by decide +kernel) (by decide +kernel) (by decide +kernel) (by decide +kernel) (by decide +kernel),?_⟩;exists ⟨s,zS,rfl,.inl (bK.of (br _ _ gS)),λc0 n0=>?_⟩;have s0:aG H (upd H c0 (.lst zS)):=aG.new n0;have g0:(upd H c0 (.lst zS)) c0=some (.lst zS):=aK;generalize upd H c0 (.lst zS)=Ha at s0 g0 ⊢;have L1:=LA.same s0;have R0:bX K (fg A9 Ha) c0 st:=⟨zS,iZ g0 (LA.new n0),Paired.imp' (λ_ _ z=>z.same (dR s0)) qS⟩;have h1:aG (fg A9 H) (fg A9 Ha):=dR s0;exists ⟨A9,x,kn,c0,H0,mv,pt,lk,qs,rs,fs,st,tt,sg,om,b,j9,l+1,M,us,rfl,L1,Ak,CQ.same h1,D,F,lT,KU.same s0,by lia,R0,fls,hM,λr2 us2 Hb s2 KU2 n2 rk2 R2=>?_⟩;have KB:=KU2.sub;have L2':=L1.smx s2 KB.1;have h2:=h1.trans (kY Ak s2);have R2H:bX K Hb r2 (kQ mv pt qs rs fs (l+1) st):=R2.same br;have RpB:=(Rp.same h2).same br;have PB:=(PQ.same h2).same br;have RTB:=(RT.same h2).same br;have RsB:=(Rs.same h2).same br;have CB:=CQ.same h2;have sB:xF kn H Hb:=s0.smx.trans s2;clear R2 R0 g0 n0 KU2;exists ⟨p,r2,pu,_,rfl,RpB,R2H,by rw[fld,flp],by lia,fpz,fdz,λd0 Hc n3 s3 R3=>?_⟩;rw[hd9] at R3;obtain ⟨zs3,gs3,qs3⟩:=id R3;have lz3:=qs3.length;obtain ⟨zB,gB,qB⟩:=id RsB;exists ⟨⟨_,bK.of (s3 _ _ gB)⟩,?_⟩;refine c6 (K:=K) (as:=st) (F:=bS K) (bS K) (λ_=>(0:Rat)) (s3 _ _ gB) (Paired.imp' (λ_ _ z=>z.same s3) qB) (by lia) (λa b=>a.same b) (λa b=>a.same b) ?_ ?_
  ·rintro i y v H' NY NN en s' hv k1;exists bV λt0 H5 s5 g5=>?_
   exact k1 _ _ s5 (bS.mk g5 rfl)
  rintro zs4 Hd e4 n4 s4 g4 pr4 _;have em:st.map (λ_=>(0:Rat))=xT pt d9 mv.length 0:=by rw[List.map_const',fls];rfl
  rw[em] at pr4;have R4:bX K Hd e4 (xT pt d9 mv.length 0):=⟨zs4,g4,pr4⟩;have s34:=s3.trans s4;have PD:=PB.same s34;obtain ⟨mm,pp,ll,gt,mn,pn,ln,Gm,Gp,Gl⟩:=id PD;obtain ⟨up,gup,qup,_⟩:=id Gp;have lup:=qup.length;have gs4:=s4 _ _ gs3;have qs4:=Paired.imp' (λ_ _ z=>z.same s4) qs3;exists ⟨_,_,rfl,.inl (bK.of gs4),?_⟩;exists ⟨by lia,by lia,?_⟩;refine eh (n:=zs3.length) (λi σ' H'=>aG Hd H'/\∃ev y,σ'=[some (.ref r),some (.ref x),some (.ref rt),some (.ref s),some (.ref p),some (.int ((l+1:Nat):Int)),some (.ref d0),some (.ref e4),some (.ref ev),y,none]/\bX K H' ev (xT pt d9 mv.length i)/\A9 ev=false) ⟨aG.refl _,e4,_,rfl,R4,(L2'.same s3).new n4⟩ ?_ ?_
  ·rintro i σ' H' hi ⟨s',ev,y,rfl,Rv,_⟩;have ip:i < pt.length:=by lia
   obtain ⟨vd,evd,nd⟩:=Gq qs4 (j:=i) (by lia);obtain ⟨vp,evp⟩:∃v,up[i]?=some v:=⟨_,af (by lia)⟩;obtain ⟨row,erow,q,rfl,_,Rq⟩:=cH qup evp;have eg:pt.getD i []=row:=by rw[ae,erow];rfl
   have tm:=ftm i ip;rw[eg] at tm;have lrow:row.length=mv.length:=D.pw row (ao erow);have gt':=s' _ _ gt;exists cp (bK.of (s' _ _ gs4)) evd ?_;exists cp (bK.of (s' _ _ gup)) (gF evp) ?_;exists ⟨vd,q,d9.getD i 0,row,rfl,nd.same s',fsz _ (getD_in (by lia)),Rq.same s',by lia,λy hy=>(tm y hy).1,λr6 He n6 s6 R6=>?_⟩;have lps:(xT pt d9 mv.length i).length=mv.length:=xf D.pw i (by lia);walk_at "w"
   refine ⟨ev,r6,_,_,rfl,Rv.same s6,R6,by rw[ag,lps,lrow],by lia,fpy i (by lia),λz hz=>by
    obtain ⟨y,hy,rfl⟩:=aw.mp hz;exact (tm y hy).2,λr7 Hf n7 s7 R7=>?_⟩
   refine ⟨(s'.trans s6).trans s7,_,_,rfl,?_,((L2'.same s34).same (s'.trans s6)).new n7⟩;show bX K Hf r7 (List.zipWith (λx y=>x+y) (xT pt d9 mv.length i) ((pt.getD i []).map λy=>d9.getD i 0*y))
   rw[eg];exact R7
  rintro σ' He ⟨s5,ev,y,rfl,Rv,nev⟩;rw[show zs3.length=pt.length by lia] at Rv;have lps:(xT pt d9 mv.length pt.length).length=mv.length:=xf D.pw _ (ar _);have s35:=s34.trans s5;obtain ⟨a1,a2,a3,gr,R1,R2,R3'⟩:=RTB.same s35;have gs5:=s5 _ _ gs4;have Rd5:bX K He d0 d9:=⟨zs3,gs5,Paired.imp' (λ_ _ z=>z.same s5) qs4⟩;exists de λq6 Hf s6 n6 g6=>?_
  have G6:cx K (λ_=>none) Hf q6 [d9]:=⟨_,g6,.cons ⟨d0,rfl,rfl,Rd5.same s6⟩ .nil,λz=>by
   have e:q6=d0:=by simpa using z
   rw[e,gs5] at n6;cases n6⟩
  exists ⟨a2,q6,rs,_,_,rfl,R2.same s6,G6,λxs hx=>by rw[bz.mp hx,ld9,F.st.lr],fef,λr7 Hg s7 N7=>?_⟩;have s37:=(s35.trans s6).trans s7;have h7:=h2.trans (dR s37);have L7:=L2'.same s37;obtain ⟨dx2,RE,_,_,_,gx2,_⟩:=(CQ.same h7).same br;have L5:=L2'.same s35;have nd0:A9 d0=false:=L2'.new n3;have Rv7:bX K (fg A9 Hg) ev (xT pt d9 mv.length pt.length):=(Rv.hid L5 nev).same (dR (s6.trans s7));have Rd7:bX K (fg A9 Hg) d0 d9:=(Rd5.hid L5 nd0).same (dR (s6.trans s7));have N7':=N7.hid L7;exists ⟨x,dx2,_,rfl,gx2,tR (by decide +kernel) (by decide +kernel) (by decide +kernel) (by decide +kernel) (by decide +kernel),?_⟩;walk_at "w";rw[show ((l+1:Nat):Int) - 1=((l:Nat):Int) by lia];refine ⟨A9,x,kn,H0,mv,pt,lk,qs,rs,fs,tt,sg,om,b,j9,l,us2,rfl,L7,Ak,CQ.same h7,D,F,by lia,KB.same s37,λrw us8 Hh s8 KU8 n8 rk8 G8=>?_⟩;have t8:=kY Ak s8;have h8:=h7.trans t8;have L8:=L7.smx s8 KU8.1;have Rv8:=(Rv7.same t8).same br;have Rd8:=Rd7.same t8;have N8:=N7'.same t8;have G8':=G8.same br;have lwh:(Me (bY mv pt qs rs fs l).1.1 (bY mv pt qs rs fs l).1.2).length=mv.length:=by unfold Me;rw[ag,flW]
  exists ⟨rw,ev,_,_,_,rfl,G8',Rv8,by lia,by lia,λxs hx=>by rw[lps];exact ff1 xs hx,λr9 Hi n9 s9 R9=>?_⟩;rw[Rh λz hz=>by rw[lps];exact fwW z hz] at R9;have lon:(zT (bY mv pt qs rs fs l).1.1 (bY mv pt qs rs fs l).1.2 (xT pt d9 mv.length pt.length)).length=mv.length:=by rw[yU,flW]
  exists ⟨ev,r9,_,_,rfl,Rv8.same s9,R9,by rw[lon,lps],by lia,ff2,λrA HA sA NA=>?_⟩;exists ⟨_,_,_,_,rfl,((N8.same (dR s9)).same (dR sA)).same br,NA,fef.szn,fwz,λrB HB sB' NB=>?_⟩;have NB:bS K HB (K4 pt rs (bY mv pt qs rs fs l).1 mv.length d9) (.ref rB):=NB;have s9B:=(s9.trans sA).trans sB';have LB:=L8.same s9B;have sHB:xF kn H HB:=(((sB.trans s37.smx).trans s8).trans s9B.smx);have KB':=KU8.same s9B;generalize K4 pt rs (bY mv pt qs rs fs l).1 mv.length d9=mo at NB fnn k;obtain ⟨qB,eB,sqB⟩:=id NB;cases eB
  have t0:¬(nm mo).1 < 0:=by
   have:=Rat.num_nonneg.mpr fnn.1;show ¬mo.num < 0
   lia
  walk_at "w";rw[decide_eq_false t0];exists bV λtC HC sC gC=>?_
  exists ⟨_,_,Im,mo,0,by decide,NB.same sC,bS.mk (q:=0) gC rfl,?_⟩;obtain ⟨zd,gzd,qzd⟩:=(Rd8.same (dR s9B)).same br;exists ⟨⟨_,bK.of (sC _ _ gzd)⟩,?_⟩;refine c6 (K:=K) (as:=d9) (F:=bS K) (bS K) (λ_=>(0:Rat)) (sC _ _ gzd) (Paired.imp' (λ_ _ z=>z.same sC) qzd) (by lia) (λa b=>a.same b) (λa b=>a.same b) ?_ ?_
  ·rintro i y v H' NY NN en s' hv k1;exists bV λt0 H5 s5 g5=>?_
   exact k1 _ _ s5 (bS.mk g5 rfl)
  rintro zsD HD eD nD sD gD prD _;rw[List.map_const'] at prD;have RD:bX K HD eD (List.replicate d9.length 0):=⟨zsD,gD,prD⟩;have sCD:=sC.trans sD;exists ⟨_,_,OH,d9,List.replicate d9.length 0,by decide,bX.kind ⟨zd,sCD _ _ gzd,Paired.imp' (λ_ _ z=>z.same sCD) qzd⟩,RD.kind,?_⟩;exists ⟨_,_,kBl,_,_,by decide,rfl,rfl,?_⟩;have key:decide (mo=0)=decide (d9=List.replicate d9.length 0):=decide_eq_decide.mpr fnn.2;rw[decide_eq_true key];exists k rB us8 HD (sHB.trans sCD.smx) (KB'.same sCD) ((NB.same sCD).hid (LB.same sCD))
theorem iq:a7 ["_law_parts_here","_law_state","_law_puts_here","_law_move_here","_law_put","_law_look","_law_found","_law_k"] ["_law_parts_here","_law_state","_law_puts_here"] (aI rG):=by walk_at "d"
theorem vD (T:Txt K mg Z) (ptree:P.given.tree=none):cO P w K mg base iI 5 Z.yD Z.yl ["_law_parts_here","_law_state","_law_puts_here"] (Et K):=by
 have xN:=zY (P:=P) (w:=w) (base:=base) T ptree;have lM:=pQ (P:=P) (w:=w) (base:=base) T ptree;have pj:=uH (P:=P) (w:=w) (base:=base) T ptree;refine T.ma.F.ok iq (λvs H Q E h=>?_) (λcdv A outer s H vs Q E hr h=>?_)
 ·obtain ⟨r,s0,u0,H0,mv,pt,lk,st,pu,rfl,_⟩:=h;rfl
 ·obtain ⟨r,s0,u0,H0,mv,pt,lk,st,pu,rfl,PQ,D,hs,hu,l1,l2,NX,k⟩:=h
  refine ⟨_,(au (iH (pv 0) (xi rfl (cQ (aP (i:=3) iq.nd) (cQ (aP (i:=4) iq.nd) (cQ (aP (i:=5) iq.nd) jX)))))
   (au (aV (i:=6) iq.nd rfl (Or.inl rfl) (cE xN hr T.pW (aa (pv 3) (aa (pv 1) ai))))
   (au (eR PassesOwn.never rfl (cv rfl T.range (aa (bG bx (by rfl) T.len bg (aa (pv 4) ai)) ai)) (aP (i:=7) iq.nd)
    (aB (aV (i:=6) iq.nd rfl (Or.inl rfl) (cE lM hr T.j6 (aa (pv 6) (aa (cE pj hr T.mM (aa (aT bw (pv 2) (pv 7)) (aa (aT bw (pv 4) (pv 7)) ai))) ai))))))
   (aB (bo (pv 6)))))),?_⟩
  refine aW (σ:=[some (.ref r),some (.ref s0),some (.ref u0),none,none,none,none,none]) rfl ?_;obtain ⟨m,p,l,g,n1,n2,n3,Gm,Gp,Gl⟩:=id PQ;have d1:=D.n8;have d2:=D.i4;exists ⟨m,s0,H0,mv,st,rfl,Gm,hs,by lia,by lia,λxs hx=>⟨by rw[D.mw xs hx,l1],NX.f2 xs hx⟩,λf H1 nf s1 R1=>?_⟩;obtain ⟨ps,gp,qp,_⟩:=Gp.same s1;have lp:=qp.length;exists ⟨_,_,rfl,.inl (bK.of gp),?_⟩;exists ⟨by lia,by lia,?_⟩;refine eh (n:=ps.length) (λkk σ' H'=>∃(f:Addr) (x:Option V),σ'=[some (.ref r),some (.ref s0),some (.ref u0),some (.ref m),some (.ref p),some (.ref l),some (.ref f),x]/\H f=none/\aG H1 H'/\bX K H' f (nextK mv pt st pu kk)) ⟨f,none,rfl,nf,aG.refl _,by rw[Gd];exact R1⟩ ?_ ?_
  ·rintro kk σ' H' hk ⟨f',x,rfl,nf',s',R'⟩;have kp:kk < pt.length:=by lia
   have ku:kk < pu.length:=by lia
   obtain ⟨zs,gz,qz⟩:=(hu.same s1).same s';have lz:=qz.length;obtain ⟨vu,eu,nu⟩:=Gq qz ku;obtain ⟨row,vr,er,ev,mr,q,rfl,_,Rq⟩:=kJ qp kp
   have er':pt[kk]=row:=by
    rw[af kp] at er;exact b6 er
   have eu':pu.getD kk 0=pu[kk]:=by rw[ae,af ku];rfl
   have mu:pu.getD kk 0∈pu:=getD_mem ku;exists cp (bK.of gz) eu ?_;exists cp (bK.of (s' _ _ gp)) (gF ev) ?_;exists ⟨vu,q,_,row,rfl,nu,NX.su _ mu,Rq.same s',by rw[D.pw row mr];lia,NX.sp row mr,λr1 H2 n1' s2 R2=>?_⟩;exists ⟨f',r1,_,_,rfl,R'.same s2,R2,by rw[ag,jK,D.pw row mr],by rw[jK];lia,NX.part kk,λy hy=>?_,λr2 H3 n2' s3 R3=>?_⟩
   ·obtain ⟨y',hy',rfl⟩:=aw.mp hy;exact NX.mul _ mu row mr y' hy'
   ·exists ⟨s1.none (s'.none (s2.none n2')),(s'.trans s2).trans s3,?_⟩;have e:=Ge (st:=st) (pu:=pu) (λxs hx=>by rw[D.mw xs hx,l1]) kp ku (by rw[er'];exact D.pw row mr);rw[er',<- eu'] at e;rw[<- e];exact R3
  ·rintro σ' H' ⟨f',x,rfl,nf',s',R'⟩;rw[sY (by lia) (by lia)] at R';exists k f' H' nf' (s1.trans s') R'
theorem jd:a7 ["_law_parts_here","_law_weights_here","_law_start","_law_puts_here","_law_total","_law_state","_law_row_here"] ["_law_parts_here","_law_weights_here","_law_start","_law_puts_here"] (aI rM):=by walk_at "d"
theorem Dt (T:Txt K mg Z) (ptree:P.given.tree=none):cO P w K mg base iI 6 Z.yI Z.yq ["_law_parts_here","_law_weights_here","_law_start","_law_puts_here"] (Ex K):=by
 have jt:=rW (P:=P) (w:=w) (base:=base) T ptree;have dD:=iV (P:=P) (w:=w) (base:=base) T ptree;have sR:=vD (P:=P) (w:=w) (base:=base) T ptree;refine T.p4.F.ok jd (λvs H Q E h=>?_) (λcdv A outer s H vs Q E hr h=>?_)
 ·obtain ⟨r,rt,s,p,H0,H1,mv,pt,lk,qs,rs,fs,st,pus,tt,rfl,_⟩:=h;rfl
 ·obtain ⟨r,rt,s,p,H0,H1,mv,pt,lk,qs,rs,fs,st,pus,tt,rfl,PQ,D,RT,Rs,Gp,L,k⟩:=h
  refine ⟨_,(au (aV (i:=4) jd.nd rfl (Or.inl rfl) (cE jt hr T.hZ (aa (aT bw (pv 1) aj) (aa (pv 3) ai))))
   (au (aV (i:=5) jd.nd rfl (Or.inl rfl) (fv gM (by rfl) T.list PyProof.Rows.boot_list (aa (pv 2) ai)))
   (au (eR PassesOwn.never rfl (cg (pv 3)) (aP (i:=6) jd.nd)
    (au (aV (i:=4) jd.nd rfl (Or.inl rfl) (cE dD hr T.eV (aa (pv 4) (aa (cE jt hr T.hZ (aa (aT bw (pv 1) aj) (aa (dZ (aa (pv 5) ai)) ai))) ai))))
   (aB (aV (i:=5) jd.nd rfl (Or.inl rfl) (cE sR hr T.ma (aa (pv 0) (aa (pv 5) (aa (pv 6) ai))))))))
   (aB (bo (cE dD hr T.eV (aa (pv 4) (aa (cE jt hr T.hZ (aa (aT bw (pv 1) aj) (aa (dZ (aa (pv 5) ai)) ai))) ai)))))))),?_⟩
  refine aW (σ:=[some (.ref r),some (.ref rt),some (.ref s),some (.ref p),none,none,none]) rfl ?_;have d8:=D.n8;have i4:=D.i4;have t8:=L.t8;obtain ⟨a1,a2,a3,gr,R1,R2,R3⟩:=id RT;obtain ⟨zs,gz,qz⟩:=id Rs;obtain ⟨us,gu,qu,_⟩:=id Gp;have lu:=qu.length;rw[L.lt] at lu;exists ⟨a2,p,rs,pus,H1,rfl,R2,Gp,λxs hx=>by rw[L.wp xs hx,L.lr],L.e1,λr2 Ha s2 N2=>?_⟩;exists ⟨s,zs,rfl,.inl (bK.of (s2 _ _ gz)),λc3 n3=>?_⟩;have s3:aG Ha (upd Ha c3 (.lst zs)):=aG.new n3;have g3:(upd Ha c3 (.lst zs)) c3=some (.lst zs):=aK;generalize upd Ha c3 (.lst zs)=Hb at s3 g3 ⊢;have s03:=s2.trans s3;have R4:bX K Hb c3 st:=⟨zs,g3,Paired.imp' (λ_ _ z=>z.same s03) qz⟩;exists ⟨⟨_,bK.of (s03 _ _ gu)⟩,?_⟩;refine i5 (K:=K) (a:=p) (xs:=us) (λi σ' H'=>aG H H'/\∃t c y,σ'=[some (.ref r),some (.ref rt),some (.ref s),some (.ref p),some t,some (.ref c),y]/\bS K H' (ltQ mv pt qs rs st pus i) t/\bX K H' c (mB mv pt st pus i)) ⟨s03,_,c3,_,rfl,N2.same s3,R4⟩ (λi σ' H' _ ⟨s,_⟩=>bK.of (s _ _ gu)) ?_ ?_
  ·rintro i v σ' H' hv ⟨s',t,c,y,rfl,Nt,Rc⟩;obtain ⟨pu,epu,q,rfl,_,Rq⟩:=cH (Paired.imp' (λ_ _ z=>ia.same z s') qu) hv;have hi:i < tt:=by have:=(aU.mp epu).1;rw[L.lt] at this;exact this
   have eg:pus.getD i []=pu:=by rw[ae,epu];rfl
   have gr':=s' _ _ gr;exists de λq5 Hc s5 n5 g5=>?_
   obtain ⟨zc,gzc,_⟩:=id Rc
   have G5:cx K (λ_=>none) Hc q5 [mB mv pt st pus i]:=⟨_,g5,.cons ⟨c,rfl,rfl,Rc.same s5⟩ .nil,λz=>by
    have e:q5=c:=by simpa using z
    rw[e,gzc] at n5;cases n5⟩
   exists ⟨a1,q5,qs,_,_,rfl,(R1.same s').same s5,G5,λxs hx=>by rw[bz.mp hx,L.la i (aO hi),L.lq],L.e2 i (aO hi),λr6 Hd s6 N6=>?_⟩;exists ⟨_,_,_,_,rfl,(Nt.same s5).same s6,N6,L.lz i (aO hi),(L.e2 i (aO hi)).szn,λr7 He s7 N7=>?_⟩;have s57:=(s5.trans s6).trans s7;have NX:=L.nx i hi;rw[eg] at NX;exists ⟨r,c,q,H0,mv,pt,lk,_,_,rfl,PQ.same (s'.trans s57),D,Rc.same s57,Rq.same s57,L.la i (aO hi),L.wp pu (ao epu),NX,λt8 Hf n8 s8 R8=>?_⟩;refine ⟨(s'.trans s57).trans s8,_,_,_,rfl,N7.same s8,?_⟩;rw[oP epu];exact R8
  ·rintro σ' H' ⟨s',t,c,y,rfl,Nt,Rc⟩;rw[<- lu] at Nt Rc;have gr':=s' _ _ gr;exists de λq5 Hc s5 n5 g5=>?_
   obtain ⟨zc,gzc,_⟩:=id Rc
   have G5:cx K (λ_=>none) Hc q5 [mB mv pt st pus tt]:=⟨_,g5,.cons ⟨c,rfl,rfl,Rc.same s5⟩ .nil,λz=>by
    have e:q5=c:=by simpa using z
    rw[e,gzc] at n5;cases n5⟩
   exists ⟨a3,q5,fs,_,_,rfl,(R3.same s').same s5,G5,λxs hx=>by rw[bz.mp hx,L.la tt (ar _),L.lf],L.e3,λr6 Hd s6 N6=>?_⟩;exists ⟨_,_,_,_,rfl,(Nt.same s5).same s6,N6,L.lz tt (ar _),L.e3.szn,λr7 He s7 N7=>?_⟩;rw[L.tot] at N7;exact k r7 He (((s'.trans s5).trans s6).trans s7) N7
theorem wQ:a7 ["system","start","puts","states","row"] ["system","start","puts"] (aI zF):=by walk_at "d"
theorem Jn (T:Txt K mg Z) (ptree:P.given.tree=none):cO P w K mg base iI 6 Z.Fm Z.Fc ["system","start","puts"] (zu K Z.a_System):=by
 have mX:=qG (P:=P) (w:=w) (base:=base) T ptree;refine T.xl.F.ok wQ (λvs H Q E h=>?_) (λcdv A outer s H vs Q E hr h=>?_)
 ·obtain ⟨x,s,p,H0,H1,mv,pt,lk,pus,st,rfl,_⟩:=h;rfl
 ·obtain ⟨x,s,p,H0,H1,mv,pt,lk,pus,st,rfl,S,D,F,Rs,ls,Gp,lp,wp,cf,k⟩:=h
  refine ⟨_,(au (aV (i:=3) wQ.nd rfl (Or.inl rfl) (dZ (aa (fv gM (by rfl) T.list PyProof.Rows.boot_list (aa (pv 1) ai)) ai)))
   (au (eR PassesOwn.never rfl (cg (pv 2)) (aP (i:=4) wQ.nd)
    (aB (jW (xU dA dY dX kL (pv 3) (aa (ju (pv 0) T.cl_System T.lR mX (hr.mono (by decide)) T.mT .nil mH (aa (aT bw (pv 3) (tF nR aj)) (aa (pv 4) ai))) ai)))))
   (aB (bo (pv 3))))),?_⟩
  refine aW (σ:=[some (.ref x),some (.ref s),some (.ref p),none,none]) rfl ?_;have d1:=D.n8;obtain ⟨ss,gs,qs⟩:=id Rs;obtain ⟨ps,gp,qp,_⟩:=id Gp;have lps:=qp.length;exists ⟨s,ss,rfl,.inl (bK.of gs),λc hc=>?_⟩;have sc:aG H (upd H c (.lst ss)):=aG.new hc;have Rc:bX K (upd H c (.lst ss)) c st:=⟨ss,aK,Paired.imp' (λ_ _ z=>z.same sc) qs⟩;generalize upd H c (.lst ss)=Hc at sc Rc ⊢;exists de λl Hl sl nl gl=>?_
  have hl0:=sc.none nl;have s0:=sc.trans sl;have cl:c≠l:=λz=>by obtain ⟨_,g,_⟩:=Rc;rw[z,nl] at g;cases g
  have pr0:Paired (xG K H l Hl) ((kZ mv pt st pus).take 1) [V.ref c]:=by
   have:(kZ mv pt st pus).take 1=[st]:=by
    have e:=take_snoc (xA (mv:=mv) (pt:=pt) (st:=st) (pus:=pus) (k:=0) (b8 _));rw[e];rfl
   rw[this];exact .cons ⟨c,rfl,hc,cl,Rc.same sl⟩ .nil
  exists ⟨⟨_,bK.of (s0 _ _ gp)⟩,?_⟩;refine i5 (K:=K) (a:=p) (xs:=ps) (λi σ' H'=>aG H H'/\(∃y ys,σ'=[some (.ref x),some (.ref s),some (.ref p),some (.ref l),y]/\H' l=some (.lst ys)/\Paired (xG K H l H') ((kZ mv pt st pus).take (i+1)) ys)) ⟨s0,_,_,rfl,gl,pr0⟩ (λi σ' H' _ ⟨e,_⟩=>bK.of (e _ _ gp)) ?_ ?_
  ·rintro i v σ' H' hv ⟨e,y,ys,rfl,g,pr⟩;obtain ⟨pu,epu,u,rfl,_,Ru⟩:=cH qp hv;have hi:i < pus.length:=(aU.mp epu).1;have mp:=ao epu;have ly:=pr.length;rw[cW,Au] at ly;have ec:=xA (mv:=mv) (pt:=pt) (st:=st) (pus:=pus) (k:=i) (by lia);have el:ys[i]?=some (ys[i]'(by lia)):=af (by lia)
   obtain ⟨vl,evl,q,hq1,hq2,hq3,Rq⟩:∃vl,ys[i]?=some vl/\∃q,vl=V.ref q/\H q=none/\q≠l/\bX K H' q (mB mv pt st pus i):=by
    obtain ⟨xs,ex,w⟩:=cH pr el;rw[Q9 (by lia),ec] at ex;cases ex;exact ⟨_,el,w⟩
   subst hq1
   have ey:∃zs,ys=zs++[V.ref q]:=by
    refine ⟨ys.take i,?_⟩;rw[<- take_snoc evl,aA (by lia)]
   obtain ⟨zs,rfl⟩:=ey;exists ⟨.inl ⟨rfl,_,bK.of g⟩,?_⟩;walk_at "w";obtain ⟨dx,_,_,_,gx,_⟩:=S.same e;refine ⟨x,dx,_,rfl,gx,Bu,?_⟩;exists cp (bK.of g) (Az _ _) ?_;exists ⟨x,q,u,H0,mv,pt,lk,_,pu,rfl,S.same e,D,F,Rq,Ru.same e,vg ls (by lia),wp pu mp,cf.both (by lia) mp,λr1 H2 n2 s2 R2=>?_⟩;have gn:=s2 _ _ g;exists kF gn (bO (by lia)) ?_;refine ⟨Jg (e.trans s2) hl0,_,_,rfl,aK,?_⟩;rw[take_snoc (xA (by lia)),oP epu];have rl:r1≠l:=λz=>by rw[z,g] at n2;cases n2
   exact cz (Paired.imp' (λ_ _ z=>(xG.same z s2).upd gn) pr) (.cons ⟨r1,rfl,e.none n2,rl,R2.updL gn rl⟩ .nil)
  ·rintro σ' H' ⟨e,y,ys,rfl,g,pr⟩;walk_at "w";rw[aA (by rw[Au];lia)] at pr;exact k l H' hl0 e ⟨ys,g,Paired.imp' (λ_ _ z=>xG.rowF z) pr,zI pr⟩
theorem MF:a7 ["one","other"] ["one","other"] (aI FV):=by walk_at "d"
theorem Nn (T:Txt K mg Z) (ptree:P.given.tree=none):cO P w K mg base iI 3 Z.LN Z.Ly ["one","other"] (pF K (λx y=>x+y)):=by
 have ks:=oT (P:=P) (w:=w) (base:=base) T ptree;refine T.yV.F.ok MF (λvs H Q E h=>?_) (λcdv A outer s H vs Q E hr h=>?_)
 ·obtain ⟨p,q,a,b,c,d,rfl,hp,hq,hb,hd,sa,sb,sc,sd,k⟩:=y9 h;rfl
 ·obtain ⟨p,q,a,b,c,d,rfl,hp,hq,hb,hd,sa,sb,sc,sd,k⟩:=y9 h;refine ⟨_,(aB (bo (cE ks hr T.kO (aa (bq gh (bq cy (aT bJ (pv 0) aj) (aT bJ (pv 1) aj)) (bq cy (aT bJ (pv 1) aj) (aT bJ (pv 0) aj))) (aa (bq cy (aT bJ (pv 0) aj) (aT bJ (pv 1) aj)) ai))))),?_⟩;refine aW (σ:=[some (.ref p),some (.ref q)]) rfl ?_;have hbd:0 < b*d:=eJ hb hd;have sbd:Sz 8999000 (b*d):=(sb.mul sd).mono (by decide);exists eZ (show fD _ _ from .inr ⟨_,_,sa,sd,by decide⟩) ?_;exists eZ (show fD _ _ from .inr ⟨_,_,sc,sb,by decide⟩) ?_;exists eZ (show fD _ _ from .inr ⟨_,_,sb,sd,by decide⟩) ?_;walk_at "w";exists ⟨_,_,rfl,by lia,sbd,λr H' s' h'=>?_⟩;rw[if_neg (by lia),if_neg (by lia)] at h';exact k r H' s' h'
theorem Dj (T:Txt K mg Z) (ptree:P.given.tree=none):cO P w K mg base iI 4 Z.xD Z.xx ["one","other"] (HL K):=by
 have cS:=hX (P:=P) (w:=w) (base:=base) T ptree;have eY:=jZ (P:=P) (w:=w) (base:=base) T ptree;have ks:=oT (P:=P) (w:=w) (base:=base) T ptree;refine T.kM.F.ok iS (λvs H Q E h=>?_) (λcdv A outer s H vs Q E hr h=>?_)
 ·obtain ⟨p,q,xs,ys,rfl,_⟩:=h;rfl
 ·obtain ⟨p,q,xs,ys,rfl,hp,hq,hl,hz,⟨⟨M,h1⟩,⟨N,h2⟩⟩,kk⟩:=h
  refine ⟨_,(au (aV (i:=2) iS.nd rfl (Or.inl rfl) (cE cS hr T.dh (aa (pv 0) ai)))
   (au (aV (i:=3) iS.nd rfl (Or.inl rfl) (cE cS hr T.dh (aa (pv 1) ai)))
   (au (aV (i:=4) iS.nd rfl (Or.inl rfl) (zO rfl T.list rfl T.zip (aa (cE eY hr T.fO (aa (pv 0) (aa (pv 2) ai))) (aa (cE eY hr T.fO (aa (pv 1) (aa (pv 3) ai))) ai))))
   (aB (bo (cE ks hr T.kO (aa (bG (Ax rfl) (by rfl) T.sum PyProof.Rows.boot_sum (aa (cb ["mine","yours"] [] [] (cg (pv 4)) (λ_=>(sX K 2 (cQ (aP (i:=0) (show ND9 ["mine","yours"] by decide +kernel)) (cQ (aP (i:=1) (show ND9 ["mine","yours"] by decide +kernel)) jX)))) (λ_=>cu) (λ_=>(bq cy (pv 0) (pv 1)))) ai)) (aa (bq cy (pv 2) (pv 3)) ai)))))))),?_⟩
  refine aW (σ:=[some (.ref p),some (.ref q),none,none,none]) rfl ?_;replace hp:=hp.rowK;replace hq:=hq.rowK;replace hl:(ys.map nm).length=(xs.map nm).length:=by simpa using hl
  replace hz:(xs.map nm).length<=1000:=by simpa using hz
  obtain ⟨b1,s1⟩:=h1.bot;obtain ⟨b2,s2⟩:=h2.bot;have k2:∀r H',aG H H'->H' r=some (.tup [.int (lo (GB (xs.map nm) (ys.map nm)) (cA (xs.map nm)*cA (ys.map nm))),.int (hi (GB (xs.map nm) (ys.map nm)) (cA (xs.map nm)*cA (ys.map nm)))])->Q (.ref r) H':=λr H' s g=>kk r H' s (bS.mk g (IB b1 b2))
  clear kk;generalize xs.map nm=ns at hp hq hl hz h1 h2 b1 b2 s1 s2 k2;generalize ys.map nm=ms at hp hq hl hz h1 h2 b1 b2 s1 s2 k2;have hb:0 < cA ns*cA ms:=eJ b1 b2;exists ⟨p,ns,M,rfl,hp,hz,h1,λH1 t1=>?_⟩;exists ⟨q,ms,N,rfl,hq.same t1,by lia,h2,λH2 t2=>?_⟩;have u2:=t1.trans t2;exists ⟨p,ns,M,_,rfl,hp.same u2,hz,h1,b1,s1,λr1 H3 n3 t3 g3=>?_⟩;exists ⟨q,ms,N,_,rfl,(hq.same u2).same t3,by lia,h2,b2,s2,λr2 H4 n4 t4 g4=>?_⟩;exists ⟨r1,r2,_,_,rfl,bK.of (t4 _ _ g3),bK.of g4,by simp [bW,hl],λL ts H5 t5 n5 g5 pr=>?_⟩;have lt:=pr.length;have ll:(bW ns (cA ns)).length=ns.length:=by simp [bW]
  have lm:(bW ms (cA ms)).length=ns.length:=by simp [bW,hl]
  rw[qQ,ag,ag,ll,lm] at lt;exists ⟨⟨_,bK.of g5⟩,?_⟩;refine iG (K:=K) (xs:=ts) (λi ys H'=>H'=H5/\ys=((List.zipWith (λx y=>x*y) (bW ns (cA ns)) (bW ms (cA ms))).take i).map V.int) (aO (bO (by lia))) ⟨rfl,rfl⟩ (λi ys H' _ ⟨e,_⟩=>by subst e;exact bK.of g5) ?_ ?_
  ·rintro i x ys H' hx hlen ⟨rfl,rfl⟩;obtain ⟨pq,epq,T,rfl,gT⟩:=cH pr hx;obtain ⟨t,u,et,eu,rfl⟩:=G0 epq;exists eZ (show fD _ _ from .inr ⟨_,_,qW h1 b1 s1 (ao et),qW h2 b2 s2 (ao eu),by decide⟩) ?_;have ez:(List.zipWith (λx y=>x*y) (bW ns (cA ns)) (bW ms (cA ms)))[i]?=some (t*u):=by rw[bR,et,eu]
   exact ⟨rfl,by rw[take_snoc ez];simp⟩
  ·rintro ys H' hy ⟨rfl,rfl⟩ l hl';exists ⟨l,List.zipWith (λx y=>x*y) (bW ns (cA ns)) (bW ms (cA ms)),rfl,bK.of (by rw[aK,aA (by rw[bC];lia)]),?_⟩;exists eZ (show fD _ _ from .inr ⟨_,_,s1,s2,by decide⟩) ?_;exists ⟨_,_,rfl,by lia,(s1.mul s2).mono (by decide),λr H6 t6 g6=>?_⟩;rw[if_neg (by lia),if_neg (by lia)] at g6;exact k2 r H6 ((((u2.trans t3).trans t4).trans t5).trans ((aG.new hl').trans t6)) g6
theorem FR:a7 ["value"] ["value"] (aI wU):=by walk_at "d"
theorem F8 (T:Txt K mg Z) (ptree:P.given.tree=none):cO P w K mg base iI 1 Z.Cd Z.BN ["value"] (Ke K):=by
 refine T.uL.F.ok FR (λvs H Q E h=>?_) (λcdv A outer s H vs Q E hr h=>?_)
 ·obtain ⟨u,x,rfl,_⟩:=h;rfl
 ·obtain ⟨u,x,rfl,⟨p,rfl,hp⟩,⟨s1,s2⟩,k⟩:=h;refine ⟨_,(aB (bo (cG (aa (bq cy (aT bJ (pv 0) aj) (aT bJ (pv 0) aj)) (aa (bq cy (aT bJ (pv 0) aj) (aT bJ (pv 0) aj)) ai))))),?_⟩;refine aW (σ:=[some (.ref p)]) rfl ?_;exists eZ (show fD _ _ from .inr ⟨_,_,s1,s1,by decide⟩) ?_;exists eZ (show fD _ _ from .inr ⟨_,_,s2,s2,by decide⟩) ?_;exists bV λr H' s g=>?_
  exact k r H' s (bS.mk g (Si x))
theorem Jf:a7 ["weights","puts"] ["weights","puts"] (aI zE):=by walk_at "d"
theorem Jm (T:Txt K mg Z) (ptree:P.given.tree=none):cO P w K mg base iI 5 Z.Fl Z.Fb ["weights","puts"] (FP K):=by
 have G_row_dot_R:=Dj (P:=P) (w:=w) (base:=base) T ptree;have xK:=Dl (P:=P) (w:=w) (base:=base) T ptree;have JI:=F8 (P:=P) (w:=w) (base:=base) T ptree;refine T.oU.F.ok Jf (λvs H Q E h=>?_) (λcdv A outer s H vs Q E hr h=>?_)
 ·obtain ⟨p,q,ws,rows,H0,rfl,_⟩:=h;rfl
 ·obtain ⟨p,q,ws,rows,H0,rfl,hp,hq,hl,hf,k⟩:=h;refine ⟨_,(aB (bo (cE G_row_dot_R hr T.kM (aa (cE xK hr T.sZ (aa (cb ["row"] ["weights"] [0] (cg (pv 1)) (λ_=>(aP (i:=0) (show ND9 ["row","weights"] by decide +kernel))) (λ_=>cu) (λ_=>(pv 1))) ai)) (aa (cb ["value"] [] [] (cg (cE xK hr T.sZ (aa (pv 1) ai))) (λ_=>(aP (i:=0) (show ND9 ["value"] by decide +kernel))) (λ_=>cu) (λ_=>(cE JI hr T.uL (aa (pv 0) ai)))) ai))))),?_⟩;refine aW (σ:=[some (.ref p),some (.ref q)]) rfl ?_;obtain ⟨xs,gx,qx,_⟩:=id hq;have lx:=qx.length;obtain ⟨rw1,rw2⟩:=hf.rw;obtain ⟨_,_,_,_,_,_,_,_,_,_,_,_,h8,l20⟩:=id hf;obtain ⟨wz,gw,qw⟩:=id hp;have fb:rows.length*ws.length<=20*8:=aL l20 h8;have fl:rows.flatten.length=rows.length*ws.length:=Qt hl;exists ⟨⟨_,bK.of gx⟩,?_⟩;refine c6 (K:=K) (F:=λ_ (_:List Rat) _=>True) (λ_ (_:List Rat) v=>v=V.ref p) id (as:=rows) gx (Paired.imp' (λ_ _ _=>trivial) qx) (by lia) (λa b=>a) (λa b=>a) ?_ ?_
  ·rintro i c x H' NY NN ec s' _ k1;exists k1 _ _ (aG.refl _) rfl
  rintro ys H1 l nl s1 g1 pr1 _;rw[Ma] at pr1;have py:Paired (λzs u=>∃q,u=V.ref q/\H1 q=some (.lst zs)) (List.replicate rows.length wz) ys:=zJ (λ_ y e=>⟨p,e,s1 _ _ gw⟩) pr1;have pw:=lZ (HV (G:=λR zs=>Paired (bS K H) R zs) qw rows.length);have lw:=pw.length;have fw:(List.replicate rows.length ws).flatten.length=rows.length*ws.length:=Cq ws rows.length;exists ⟨l,ys,_,rfl,g1,py,by lia,λf1 H2 n2 s2 g2=>?_⟩;have s02:=s1.trans s2;have R2:bX K H2 f1 (JL ws rows.length):=⟨_,g2,Paired.imp' (λ_ _ z=>z.same s02) pw⟩;obtain ⟨zss,pz,pr⟩:=EH (Paired.imp' (λ_ _ z=>ia.same z s02) qx);have pf:=lZ pr;have lf:=pf.length;exists ⟨q,xs,zss,rfl,s02 _ _ gx,pz,by lia,λf2 H3 n3 s3 g3=>?_⟩;have R3:Paired (bS K H3) rows.flatten zss.flatten:=Paired.imp' (λ_ _ z=>z.same s3) pf;exists ⟨⟨_,bK.of g3⟩,?_⟩;refine c6 (K:=K) (F:=bS K) (bS K) (λx=>x*x) g3 R3 (by lia) (λa b=>a.same b) (λa b=>a.same b) ?_ ?_
  ·rintro i x v H' NY NN en s hv k1;obtain ⟨ls,hls,hx⟩:=cJ.mp (ao en)
   have sz:lU x:=by
    cases ws with
    | nil=>exact absurd (hl ls hls) (by cases ls with | nil=>cases hx | cons _ _=>simp)
    | cons w ws=>exact (hf.num hls hx (.head _)).1
   exists ⟨_,x,rfl,hv,sz,λr H5 s5 h5=>k1 _ _ s5 h5⟩
  rintro zs H4 f3 n4 s4 g4 pr4 _;exists ⟨f1,f3,_,jb rows.flatten,rfl,(R2.same s3).same s4,⟨zs,g4,pr4⟩,by unfold jb;rw[ag,fl,Cq],by rw[Cq];lia,⟨rw1,rw2⟩,λr H5 s5 h5=>?_⟩;rw[Iy hl] at h5;exact k r H5 (((s02.trans s3).trans s4).trans s5) h5
theorem nV:a7 ["self","start","puts","states","ahead"] ["self","start","puts"] (aI je):=by walk_at "d"
theorem A7 (T:Txt K mg Z) (ptree:P.given.tree=none):cO P w K mg base iI 7 Z.qi Z.p9 ["self","start","puts"] (HM K Z.a_System Z.a_Costs):=by
 have LV:=Jn (P:=P) (w:=w) (base:=base) T ptree;have LS:=Nn (P:=P) (w:=w) (base:=base) T ptree;have AR:=Jm (P:=P) (w:=w) (base:=base) T ptree;refine T.wF.ok nV (λvs H Q E h=>?_) (λcdv A outer s H vs Q E hr h=>?_)
 ·obtain ⟨x,kn,s,p,H0,H1,mv,pt,lk,qs,rs,fs,st,pus,tt,rfl,_⟩:=h;rfl
 ·obtain ⟨x,kn,s,p,H0,H1,mv,pt,lk,qs,rs,fs,st,pus,tt,rfl,CF,D,SF,Rs,Gp,L,k⟩:=h
  refine ⟨_,(au (aV (i:=3) nV.nd rfl (Or.inl rfl) (cE LV hr T.xl (aa (eS (pv 0) rfl) (aa (pv 1) (aa (pv 2) ai)))))
   (au (aV (i:=4) nV.nd rfl (Or.inl rfl) (cE LS hr T.yV (aa (cE AR hr T.oU (aa (eS (pv 0) rfl) (aa (pv 2) ai))) (aa (cE AR hr T.oU (aa (eS (pv 0) rfl) (aa (oS sU (pv 3) sW (sV (tF nR aj))) ai))) ai))))
   (aB (bo (cE LS hr T.yV (aa (pv 4) (aa (cE AR hr T.oU (aa (eS (pv 0) rfl) (aa (oS sU (pv 3) (sV (tF nR aj)) sW) ai))) ai))))))),?_⟩
  refine aW (σ:=[some (.ref x),some (.ref s),some (.ref p),none,none]) rfl ?_;have d8:=D.n8;have i4:=D.i4;have t8:=L.t8;obtain ⟨dx,sy,a1,a2,a3,gx,S,R1,R2,R3⟩:=id CF;exists ⟨x,Z.a_Costs,dx,_,_,rfl,gx,T.cl_Costs,T.na_Costs_system,tj,?_⟩;exists ⟨sy,s,p,H0,H1,mv,pt,lk,pus,st,rfl,S,D,SF,Rs,L.ls,Gp,by rw[L.lt];lia,L.wp,L.cf,λr1 Ha n1 s1 G1=>?_⟩;have ec:kZ mv pt st pus=(List.range (tt+1)).map (mB mv pt st pus):=by unfold kZ;rw[L.lt]
  obtain ⟨ys,gy,qy,ny⟩:=id G1;have ly:=qy.length;rw[ec,ag,bT] at ly;rw[ec] at qy;exists ⟨x,Z.a_Costs,dx,_,_,rfl,s1 _ _ gx,T.cl_Costs,T.na_Costs_put_weights,OR,?_⟩;exists ⟨a2,p,rs,pus,H1,rfl,R2.same s1,Gp.same s1,λxs hx=>by rw[L.wp xs hx,L.lr],L.e1,λr2 Hb s2 N2=>?_⟩;have s12:=s1.trans s2;exists ⟨x,Z.a_Costs,dx,_,_,rfl,s12 _ _ gx,T.cl_Costs,T.na_Costs_state_weights,OQ,?_⟩;exists zK (bK.of (s2 _ _ gy)) λq3 Hc s3 n3 g3=>?_
  rw[NL (k:=tt) (by lia)] at g3;have s13:=s12.trans s3
  have pr3:Paired (ia K H Hc) ((List.range tt).map (mB mv pt st pus)) (ys.take tt):=by
   have h:=rQ (Paired.imp' (λ_ _ z=>ia.same z (s2.trans s3)) qy) tt;rwa [<- List.map_take,List.take_range,Mp (by lia)] at h
  have G3:cx K H Hc q3 ((List.range tt).map (mB mv pt st pus)):=⟨_,g3,pr3,λz=>by
   obtain ⟨_,_,q',e,nq,zs,gz,_⟩:=dj qy (b9 z);cases e;rw[s2 _ _ gz] at n3;cases n3⟩
  walk_at "w"
  refine ⟨a1,q3,qs,_,H,rfl,R1.same s13,G3,λxs hx=>by
   obtain ⟨i,hi,rfl⟩:=aw.mp hx;rw[L.la i (aO (ui.mp hi)),L.lq],L.e4,λr4 Hd s4 N4=>?_⟩
  have s14:=s13.trans s4;exists ⟨_,_,_,_,rfl,(N2.same s3).same s4,N4,L.e1.szn,L.e4.szn,λr5 He s5 N5=>?_⟩;rw[L.to2] at N5;have s15:=s14.trans s5;exists ⟨x,Z.a_Costs,dx,_,_,rfl,s15 _ _ gx,T.cl_Costs,T.na_Costs_last_weights,SE,?_⟩;walk_at "w";have gy5:=((s3.trans s4).trans s5) _ _ (s2 _ _ gy);refine zK (bK.of gy5) λq6 Hf s6 n6 g6=>?_
  rw[NK (k:=tt) (by lia)] at g6;have s16:=s15.trans s6;have sy6:=(((s2.trans s3).trans s4).trans s5).trans s6;obtain ⟨v,ev⟩:∃v,ys[tt]?=some v:=⟨_,af (by lia)⟩;obtain ⟨xe,exx,q7,rfl,nq7,R7⟩:=cH qy ev;rw[ay,b7 (by lia)] at exx;cases exx
  have ed:ys.drop tt=[.ref q7]:=by
   rw[dP (by lia),List.drop_eq_nil_of_le (by lia)];have:=(aU.mp ev).2;rw[this]
  rw[ed] at g6;have R7':=R7.same sy6;obtain ⟨z7,gz7,_⟩:=id R7
  have G6:cx K H Hf q6 [mB mv pt st pus tt]:=⟨_,g6,.cons ⟨q7,rfl,nq7,R7'⟩ .nil,λz=>by
   have e:q6=q7:=by simpa using z
   rw[e,(((s2.trans s3).trans s4).trans s5) _ _ gz7] at n6;cases n6⟩
  exists ⟨a3,q6,fs,_,H,rfl,R3.same s16,G6,λxs hx=>by rw[bz.mp hx,L.la tt (ar _),L.lf],L.e3,λr8 Hg s8 N8=>?_⟩;exists ⟨_,_,_,_,rfl,(N5.same s6).same s8,N8,L.lz tt (ar _),L.e3.szn,λr9 Hh s9 N9=>?_⟩;rw[L.tot] at N9;exact k r9 Hh ((s16.trans s8).trans s9) N9
theorem jz:a7 ["_law_script","_law_bag_here","_law_parts_here","_law_wide","_law_system_here","_law_rates_here","_law_told","_law_start","_law_puts_here","_law_total","_law_state","_law_t","_law_more"] ["_law_script"] (aI Kn):=by walk_at "d"
theorem Qd (T:Txt K mg Z) (ptree:P.given.tree=none):cO P w K mg base iI 10 Z.OS Z.OO ["_law_script"] (zq K):=by
 have GX:=ER (P:=P) (w:=w) (base:=base) T ptree;have Bl:=zW (P:=P) (w:=w) (base:=base) T ptree;have Fw:=Dq (P:=P) (w:=w) (base:=base) T ptree;have DW:=A4 (P:=P) (w:=w) (base:=base) T ptree;have xP:=vH (P:=P) (w:=w) (base:=base) T ptree;have i8:=ni (P:=P) (w:=w) (base:=base) T ptree;have Fu:=Dm (P:=P) (w:=w) (base:=base) T ptree;have GV:=EO (P:=P) (w:=w) (base:=base) T ptree;have D3:=A8 (P:=P) (w:=w) (base:=base) T ptree;have Bm:=zX (P:=P) (w:=w) (base:=base) T ptree;have dD:=iV (P:=P) (w:=w) (base:=base) T ptree;have sR:=vD (P:=P) (w:=w) (base:=base) T ptree;have Fy:=Dt (P:=P) (w:=w) (base:=base) T ptree;have DZ:=A7 (P:=P) (w:=w) (base:=base) T ptree;refine T.OX.ok jz (λvs H Q E h=>?_) (λcdv A outer s H vs Q E hr h=>?_)
 ·obtain ⟨a,ns,rfl,_⟩:=h;rfl
 ·obtain ⟨a,ns,rfl,hS,hlen,k⟩:=h
  refine ⟨_,(au (aV (i:=1) jz.nd rfl (Or.inl rfl) (cE GX hr T.rZ (aa (pv 0) ai)))
   (au (iH (cE Bl hr T.mJ (aa (pv 1) ai)) (xi rfl (cQ (aP (i:=2) jz.nd) (cQ (aP (i:=3) jz.nd) jX))))
   (au (aV (i:=4) jz.nd rfl (Or.inl rfl) (cE Fw hr T.pY (aa (pv 2) ai)))
   (au (aV (i:=5) jz.nd rfl (Or.inl rfl) (cE DW hr T.oz (aa (pv 1) (aa (pv 2) ai))))
   (au (aV (i:=6) jz.nd rfl (Or.inl rfl) (HX T.mk_Costs xP (hr.mono (by decide)) rfl T.mg_Costs T.o9 .nil mH (aa (pv 4) (aa (aT bw (pv 5) aj) (aa (aT bw (pv 5) aj) (aa (aT bw (pv 5) aj) ai))))))
   (au (aV (i:=7) jz.nd rfl (Or.inl rfl) (cE i8 hr T.iX (aa (pv 1) (aa (bG bx (by rfl) T.len bg (aa (aT bJ (pv 2) aj) ai)) (aa (pv 3) ai)))))
   (au (aV (i:=8) jz.nd rfl (Or.inl rfl) (cE Fu hr T.pV (aa (pv 1) (aa (pv 2) (aa (cE GV hr T.rY (aa (pv 1) (aa (pv 2) ai))) (aa (pv 3) ai))))))
   (au (aV (i:=9) jz.nd rfl (Or.inl rfl) (aT bJ (ju (pv 6) T.cl_Costs T.tJ D3 (hr.mono (by decide)) T.wa .nil mH (aa (pv 7) (aa (bG bx (by rfl) T.len bg (aa (pv 8) ai)) ai))) aj))
   (au (aV (i:=10) jz.nd rfl (Or.inl rfl) (fv gM (by rfl) T.list PyProof.Rows.boot_list (aa (pv 7) ai)))
   (au (eR PassesOwn.never rfl (cv rfl T.range (aa (bG bx (by rfl) T.len bg (aa (pv 8) ai)) ai)) (aP (i:=11) jz.nd)
    (au (aV (i:=12) jz.nd rfl (Or.inl rfl) (cE Bm hr T.mK (aa (pv 2) (aa (pv 6) (aa (pv 5) (aa (pv 10) (aa (aT bw (pv 8) (pv 11)) (aa (bq kK (bG bx (by rfl) T.len bg (aa (pv 8) ai)) (pv 11)) ai))))))))
   (au (fL (bI Qc (pv 12) KI (bL _)) (aB (bo HZ)) cK)
   (au (aV (i:=9) jz.nd rfl (Or.inl rfl) (cE dD hr T.eV (aa (pv 9) (aa (pv 12) ai))))
   (aB (aV (i:=10) jz.nd rfl (Or.inl rfl) (cE sR hr T.ma (aa (pv 2) (aa (pv 10) (aa (aT bw (pv 8) (pv 11)) ai))))))))))
   (aB (bo (F6 (jY (Dd (Lf hr)) (pv 9) (cE Fy hr T.p4 (aa (pv 2) (aa (pv 5) (aa (pv 7) (aa (pv 8) ai))))) (bL _)) (F5 (jY (Dd (Lf hr)) (ju (pv 6) T.cl_Costs T.tI DZ (hr.mono (by decide)) T.v7 .nil mH (aa (pv 7) (aa (pv 8) ai))) (pv 9) (bL _)))))))))))))))),?_⟩
  refine aW (σ:=[some (.ref a),none,none,none,none,none,none,none,none,none,none,none,none]) rfl ?_;exists ⟨a,ns,rfl,hS,hlen,λb H0 hb0 B0 s0=>?_⟩;exists ⟨b,rfl,B0,λt r w a' c' mv pt lk H1 g1 P1 D F KF RG w1 w2 B1 u1=>?_⟩;have d8:=D.n8;have i4:=D.i4
  have szE:∀xs∈mv++pt,∀x∈xs,lU x:=λxs hx y hy=>by
   obtain ⟨M,V,h0,h1,h2,f1,f2,_⟩:=F;refine Nz h0 (ak h1 (aD (by decide) (by decide))) (ak h2 (aD (by decide) (by decide))) ?_;rcases av.mp hx with hx | hx
   ·exact f1 xs hx y hy
   ·exact f2 xs hx y hy
  exists ⟨r,H0,mv,pt,lk,rfl,P1,D,F.sf,λx H2 nx s2 S2=>?_⟩;replace S2:mV K H0 H2 Z.a_System x mv pt lk:=S2.weakN λq h=>u1.none B1 h
  replace P1:=P1.same s2;have B2:=B1.same s2;exists ⟨b,r,H0,mv,pt,lk,rfl,B2,B0.at,P1,D,λrt a1 a2 a3 qs rs fs H3 nrt na1 na2 na3 grt R1 R2 R3 WT B3 u3=>?_⟩;replace P1:=P1.upto u3 B2 B0.at;replace S2:=S2.upto u3 B2 B0.at;obtain ⟨⟨Mf,hMf⟩,_⟩:=Ef D WT;have lf:=WT.lf
  have LA0:∀{H'},ig H' b->qK (λa=>a == b) H':=λB a ha=>by
   obtain ⟨q,x1,x2,x3,cs,h,_⟩:=B;rw[show a=b by simpa using ha];exact ⟨_,h⟩
  have nA0:∀{a:Addr},H2 a=none->(a == b)=false:=λh=>by
   have:¬_=b:=λz=>B2.at (by rw[<- z];exact h)
   simpa using this
  have h0A:∀a,(a == b)=true->H0 a≠none:=λa ha=>by rw[show a=b by simpa using ha];exact B0.at
  have L3:=LA0 B3;have Q1:=R1.hid L3 (nA0 na1);have Q2:=R2.hid L3 (nA0 na2);have Q3:=R3.hid L3 (nA0 na3);have S3:=S2.hid0 L3 h0A;have P3:=P1.hid0 L3 h0A;have RT3:Q4 K (fg (λa=>a == b) H3) rt qs rs fs:=⟨a1,a2,a3,iZ grt (nA0 nrt),Q1,Q2,Q3⟩;walk_at "w";intro c1 dc1 nc1 ndc1 nec1;refine ⟨(λa=>a == b),c1,dc1,x,a1,a2,a3,H3,H0,mv,pt,lk,qs,rs,fs,Mf,rfl,nc1,ndc1,nec1,rfl,L3,S3,Q1,Q2,Q3,by lia,hMf,λkn v1 H4 s4 nkn C4 gkn KV=>⟨rfl,?_⟩⟩;have m34:aG (fg (λa=>a == b) H3) (fg (qP (λa=>a == b) kn) H4):=Ad nkn (dR s4);have N4:Od b kn (bY mv pt qs rs fs) (qP (λa=>a == b) kn) H4:=⟨(L3.same s4).ad gkn,AA (by simp),wd,B3.same s4,⟨[v1],gkn,(by show 1<=1;decide),(by show 1<=9;decide),.cons KV .nil⟩,λz=>B3.at (by rw[z];exact nkn)⟩;have P4:=P3.same m34;have RT4:=RT3.same m34;generalize qP (λa=>a == b) kn=A9 at N4 P4 RT4 C4;clear Q1 Q2 Q3 S3 P3 RT3 P1 S2 KV R1 R2 R3 m34;obtain ⟨m,pp,ll,gt,mn,pn,ln,Gm,Gp,Gl⟩:=P4.same br;obtain ⟨um,gm,qm,_⟩:=id Gm;have lum:=qm.length;exists ⟨_,_,rfl,.inl (bK.of gm),?_⟩;rw[<- lum];clear gm qm lum Gm Gp Gl gt mn pn ln;exists ⟨b,mv.length,w,rfl,N4.B,by lia,w1,by lia,λs st H5 nqs Rs ls ds B5 u5=>?_⟩;obtain ⟨N5,m5⟩:=N4.bag u5 B5;replace Rs:=Rs.hid N5.L (N4.L.new nqs);have P5:=P4.same m5;exists ⟨b,r,H0,mv,pt,lk,rfl,N5.B,B0.at,P5.same br,D,szE,λtt H6 FW B6 u6=>?_⟩;obtain ⟨N6,m6⟩:=N5.bag u6 B6;have P6:=P5.same m6;have t8:=FW.2.1;exists ⟨b,r,tt,w,H0,mv,pt,lk,rfl,by lia,w1,w2,N6.B,B0.at,P6.same br,D,λp pus H7 np Gp lp wp B7 u7=>?_⟩;obtain ⟨N7,m7⟩:=N6.bag u7 B7;have G7:=Gp.hid N7.L N6.L (aG.refl (fg A9 H6)) (N6.L.new np);have P7:=P6.same m7;have Rs7:=(Rs.same m6).same m7;have RT7:=((RT4.same m5).same m6).same m7;have C7:=((C4.same m5).same m6).same m7;obtain ⟨sg,om,bb,j9,KF9,BE9,L9⟩:=Ju RG D WT FW ls ds ⟨lp,wp⟩;clear szE Gp P4 P5 P6 Rs RT4 C4 N4 N5 N6;obtain ⟨us,gus,qus,_⟩:=G7.same br;have lus:=qus.length;obtain ⟨dx1,sy1,_,_,_,gx1,_⟩:=C7.same br;obtain ⟨us7,KU7⟩:=N7.N;exists ⟨c1,dx1,_,rfl,gx1,tR (by decide +kernel) (by decide +kernel) (by decide +kernel) (by decide +kernel) (by decide +kernel),?_⟩;exists ⟨_,_,rfl,.inl (bK.of gus),?_⟩;rw[<- lus,lp];exists ⟨A9,c1,kn,s,H0,mv,pt,lk,qs,rs,fs,st,tt,sg,om,bb,j9,tt,us7,rfl,N7.L,N7.Ak,C7.co,D,KF9,ar _,KU7,F,Rs7,BE9,λA2 t8' e8 p8 us8 ws8 H8 gt8 up8 dn8 L8 _ _ s8 h8 KU8 N8 _ _ _=>?_⟩;have Ak2:=up8 _ N7.Ak;have Rs8:=Rs7.same h8;have P8:=P7.same h8;have RT8:=RT7.same h8;have C8:=C7.same h8;have G8:=G7.same h8;clear Rs7 P7 RT7 C7 G7 N7 KU7;obtain ⟨zs,gzs,qzs⟩:=id Rs8;exists ⟨s,zs,rfl,.inl (bK.of (br _ _ gzs)),λc9 n9=>?_⟩;have s9:aG H8 (upd H8 c9 (.lst zs)):=aG.new n9;have g9:(upd H8 c9 (.lst zs)) c9=some (.lst zs):=aK;generalize upd H8 c9 (.lst zs)=H9 at s9 g9 ⊢;have h9:aG (fg A2 H8) (fg A2 H9):=dR s9;have R9:bX K (fg A2 H9) c9 st:=⟨zs,iZ g9 (L8.new n9),Paired.imp' (λ_ _ z=>z.same h9) qzs⟩;obtain ⟨us9,gus9,qus9,_⟩:=(G8.same h9).same br;have lus9:=qus9.length;exists ⟨_,_,rfl,.inl (bK.of gus9),?_⟩;rw[<- lus9,lp];exists ⟨by lia,by lia,?_⟩;refine eh (n:=tt) (λi σ' H'=>xF kn H9 H'/\qK A2 H'/\aG (fg A2 H9) (fg A2 H')/\(∃us,xI A2 (bY mv pt qs rs fs) kn H' us)/\∃tv c y z,σ'=[some (.ref a),some (.ref b),some (.ref r),some (.int w),some (.ref x),some (.ref rt),some (.ref c1),some (.ref s),some (.ref p),some tv,some (.ref c),y,z]/\bS K (fg A2 H') (toQ mv pt qs rs fs st pus tt i) tv/\bX K (fg A2 H') c (mB mv pt st pus i)) ⟨λ_ _ _ h=>h,L8.same s9,aG.refl _,⟨us8,KU8.same s9⟩,_,c9,_,_,rfl,N8.same h9,R9⟩ ?_ ?_
  ·rintro i σ' Ha hi ⟨sa,La,ha,⟨usa,KUa⟩,tv,c,y,z,rfl,Nt,Rc⟩;have Pa:=(P8.same h9).same ha;have Ca:=(C8.same h9).same ha;have RTa:=(RT8.same h9).same ha;obtain ⟨ua,gua,qua,_⟩:=(G8.same h9).same ha;have lua:=qua.length;obtain ⟨v,ev⟩:∃v,ua[i]?=some v:=⟨_,af (by lia)⟩;obtain ⟨pu,epu,q,rfl,_,Rq⟩:=cH qua ev;have eg:pus.getD i []=pu:=by rw[ae,epu];rfl
   have SQ:=L9.sq i hi;have NX:=L9.nx i hi;have MZ:=L9.mz i hi;have gua':=br _ _ gua;exists cp (bK.of gua') (gF ev) ?_;exists ⟨_,_,rfl,.inl (bK.of gua'),?_⟩;rw[<- lua,lp];walk_at "w";rw[show ((tt:Int) - (i:Int))=((tt - (i+1)+1:Nat):Int) by lia];rw[eg] at SQ NX;refine ⟨A2,r,c1,kn,rt,c,q,H0,H0,mv,pt,lk,qs,rs,fs,_,pu,tt,sg,om,bb,j9,tt - (i+1),usa,rfl,La,Ak2,Ca.co,D,KF9,by lia,KUa,Pa,RTa,Rc,Rq,SQ,λe us' Hb sb KUb Nb=>?_⟩;have hb:=kY Ak2 sb;have Lb:=La.smx sb KUb.1;exists ⟨rfl,_,rfl,?_⟩;walk_at "w";rw[decide_eq_false (λz=>nomatch z)];exists ⟨_,_,_,_,rfl,(Nt.same hb).same br,Nb.same br,L9.ta i (aO hi),by rw[<- eg] at *;exact MZ,λr1 Hc s1 N1=>?_⟩;have hc:=hb.trans (dR s1);have Pc:=(Pa.same hc).same br;have Rcc:=(Rc.same hc).same br;have Rqc:=(Rq.same hc).same br;obtain ⟨uc,guc,quc,_⟩:=(((G8.same h9).same ha).same hc);have guc':=br _ _ guc;have luc:=quc.length;obtain ⟨v2,ev2⟩:∃v,uc[i]?=some v:=⟨_,af (by lia)⟩;obtain ⟨pu2,epu2,q2,rfl,_,Rq2⟩:=cH quc ev2;have epp:pu2=pu:=by rw[epu2] at epu;exact b6 epu
   subst epp;exists cp (bK.of guc') (gF ev2) ?_;exists ⟨r,c,q2,H0,mv,pt,lk,_,_,rfl,Pc,D,Rcc,Rq2.same br,L9.la i (aO hi),L9.wp _ (ao epu2),NX,λr3 Hd n3 s3 R3=>?_⟩;have hd:=hc.trans (dR s3);have Ld:=(Lb.same s1).same s3;refine ⟨(sa.trans sb).trans (s1.trans s3).smx,Ld,ha.trans hd,⟨us',(KUb.same s1).same s3⟩,_,r3,_,_,rfl,?_,?_⟩
   ·have N2:=(N1.same s3).hid Ld;have e2:toQ mv pt qs rs fs st pus tt (i+1)=toQ mv pt qs rs fs st pus tt i+OD mv pt qs rs fs st pus tt i:=rfl;rw[e2];unfold OD;rw[eg];exact N2
   ·rw[oP epu2];exact R3.hid Ld ((Lb.same s1).new n3)
  rintro σ' Ha ⟨sa,La,ha,_,tv,c,y,z,rfl,Nt,Rc⟩;have hA:=h9.trans ha;have Pa:=(P8.same hA).same br;have RTa:=(RT8.same hA).same br;have Rsa:=(Rs8.same hA).same br;have Ga:=(G8.same hA).same br;have Ca:=(C8.same hA).same br;have NT:=Nt.same br;exists ⟨r,rt,s,p,H0,_,mv,pt,lk,qs,rs,fs,st,pus,tt,rfl,Pa,D,RTa,Rsa,Ga,L9,λt1 Hb s1 N1=>?_⟩;exists ⟨_,_,Im,_,_,by decide,NT.same s1,N1,?_⟩;rw[decide_eq_true rfl];obtain ⟨dx2,RE,_,_,_,gx2,_⟩:=Ca.same s1;exists ⟨c1,dx2,_,rfl,gx2,tR (by decide +kernel) (by decide +kernel) (by decide +kernel) (by decide +kernel) (by decide +kernel),?_⟩;exists ⟨c1,kn,s,p,H0,_,mv,pt,lk,qs,rs,fs,st,pus,tt,rfl,Ca.same s1,D,F,Rsa.same s1,Ga.same s1,L9,λt2 Hc s2 N2=>?_⟩;exists ⟨_,_,Im,_,_,by decide,N2,(NT.same s1).same s2,?_⟩;rw[decide_eq_true rfl];exists k _
end
theorem ln1 {P:List Value->Prop} (h:∀x0,P [x0]):∀us:List Value,us.length=1->P us
 | [x0],_=>h x0
theorem ln2 {P:List Value->Prop} (h:∀x0 x1,P [x0,x1]):∀us:List Value,us.length=2->P us
 | [x0,x1],_=>h x0 x1
theorem Sr {P:List Value->Prop} (h:∀x0 x1 x2,P [x0,x1,x2]):∀us:List Value,us.length=3->P us
 | [x0,x1,x2],_=>h x0 x1 x2
theorem ln4 {P:List Value->Prop} (h:∀x0 x1 x2 x3,P [x0,x1,x2,x3]):∀us:List Value,us.length=4->P us
 | [x0,x1,x2,x3],_=>h x0 x1 x2 x3
theorem ln5 {P:List Value->Prop} (h:∀x0 x1 x2 x3 x4,P [x0,x1,x2,x3,x4]):∀us:List Value,us.length=5->P us
 | [x0,x1,x2,x3,x4],_=>h x0 x1 x2 x3 x4
theorem ln6 {P:List Value->Prop} (h:∀x0 x1 x2 x3 x4 x5,P [x0,x1,x2,x3,x4,x5]):∀us:List Value,us.length=6->P us
 | [x0,x1,x2,x3,x4,x5],_=>h x0 x1 x2 x3 x4 x5
local macro_rules | `(tactic| walk_at "b") => `(tactic| (intro _ _ _ _ _ _; first | (refine ln1 ?_; intros; rfl) | (refine ln2 ?_; intros; rfl) | (refine Sr ?_; intros; rfl) | (refine ln4 ?_; intros; rfl) | (refine ln5 ?_; intros; rfl) | (refine ln6 ?_; intros; rfl)))
theorem all_mk {l:W.OpenLaw} {K:W.Frag} 
 
  (X:K.In h) (G:h.Ns mainGlobals mg) (hfa:mg "law"=some (.ref fa)) (htree:l.prog.given.tree=none)
 (aC:W.nsIn K mainGlobals "System"=some (some (.ref C)))
 (aC_Costs:W.nsIn K mainGlobals "Costs"=some (some (.ref C_Costs)))
  (h0:Dh K "_law_bag" uD f0 e0)
  (h1:Dh K "_law_take" rC f1 e1)
  (h2:Dh K "_law_sizes" lX f2 e2)
  (h3:Dh K "_law_line" rK f3 e3)
  (h4:Dh K "_law_low" uB f4 e4)
  (h5:Dh K "_law_sum" uy f5 e5)
  (h6:Dh K "_law_plus" rF f6 e6)
  (h7:Dh K "_law_prod" rE f7 e7)
  (h8:Dh K "_law_by" wZ f8 e8)
  (h9:Dh K "_law_mixed" pL f9 e9)
  (h10:Dh K "_law_two_lines" kE f10 e10)
  (h11:Dh K "_law_number" oa f11 e11)
  (h12:Dh K "_law_row" uA f12 e12)
  (h13:Dh K "_law_move" rH f13 e13)
  (h14:Dh K "_law_parts" pK f14 e14)
  (h15:Dh K "_law_system" nY f15 e15)
  (h16:Dh K "want_list" rg f16 e16)
  (h17:Dh K "is_whole" uw f17 e17)
  (h18:Dh K "common_divisor" kB f18 e18)
  (h19:Dh K "is_number" rz f19 e19)
  (h20:Dh K "is_row" zD f20 e20)
  (h21:Dh K "copied_rows" nX f21 e21)
  (a22:W.findIn K (.ref C) "__init__"=some (some (.ref f22))) (i22:W.isFn K (.ref f22)=true) (l22:K.lookup f22=some ⟨oc22,od22,.func (W.fnOf "__init__" "System.__init__" (gL fh) (fA fh) (aI fh) .none kV22 dc22 pm22 an22 cd22 ct22),sl22⟩) (c22:W.codeIn K cd22 "System.__init__"=true) (k22:W.keepIn K (.ref f22)=true)
  (h23:Dh K "_law_copied" oh f23 e23)
  (h24:Dh K "_law_made" rJ f24 e24)
  (h25:Dh K "_law_weights" mF f25 e25)
  (h26:Dh K "_law_rates" pJ f26 e26)
  (h27:Dh K "common_multiple" jV f27 e27)
  (h28:Dh K "common_bottom" lQ f28 e28)
  (h29:Dh K "tops_over" rh f29 e29)
  (h30:Dh K "main_line" rn f30 e30)
  (a31:W.findIn K (.ref C_Costs) "__init__"=some (some (.ref f31))) (i31:W.isFn K (.ref f31)=true) (l31:K.lookup f31=some ⟨oc31,od31,.func (W.fnOf "__init__" "Costs.__init__" (gL fW) (fA fW) (aI fW) .none kV31 dc31 pm31 an31 cd31 ct31),sl31⟩) (c31:W.codeIn K cd31 "Costs.__init__"=true) (k31:W.keepIn K (.ref f31)=true)
  (h32:Dh K "_law_puts" rD f32 e32)
  (h33:Dh K "_law_steps" pI f33 e33)
  (h34:Dh K "_law_few" pN f34 e34)
  (h35:Dh K "lowest" zC f35 e35)
  (h36:Dh K "whole_dot" rf f36 e36)
  (h37:Dh K "whole_on" ur f37 e37)
  (h38:Dh K "on_state" uu f38 e38)
  (h39:Dh K "flat" FX f39 e39)
  (h40:Dh K "whole_grid" pH f40 e40)
  (h41:Dh K "grid_turned" nW f41 e41)
  (a42:W.findIn K (.ref C_Costs) "step_cost"=some (some (.ref f42))) (i42:W.isFn K (.ref f42)=true) (l42:K.lookup f42=some ⟨oc42,od42,.func (W.fnOf "step_cost" "Costs.step_cost" (gL fk) (fA fk) (aI fk) .none kV42 dc42 pm42 an42 cd42 ct42),sl42⟩) (c42:W.codeIn K cd42 "Costs.step_cost"=true) (k42:W.keepIn K (.ref f42)=true)
  (h43:Dh K "cleared" wX f43 e43)
  (h44:Dh K "lessened" uv f44 e44)
  (a45:W.findIn K (.ref C_Costs) "ahead_of"=some (some (.ref f45))) (i45:W.isFn K (.ref f45)=true) (l45:K.lookup f45=some ⟨oc45,od45,.func (W.fnOf "ahead_of" "Costs.ahead_of" (gL fV) (fA fV) (aI fV) .none kV45 dc45 pm45 an45 cd45 ct45),sl45⟩) (c45:W.codeIn K cd45 "Costs.ahead_of"=true) (k45:W.keepIn K (.ref f45)=true)
  (a46:W.findIn K (.ref C_Costs) "with_left"=some (some (.ref f46))) (i46:W.isFn K (.ref f46)=true) (l46:K.lookup f46=some ⟨oc46,od46,.func (W.fnOf "with_left" "Costs.with_left" (gL fj) (fA fj) (aI fj) .none kV46 dc46 pm46 an46 cd46 ct46),sl46⟩) (c46:W.codeIn K cd46 "Costs.with_left"=true) (k46:W.keepIn K (.ref f46)=true)
  (a47:W.findIn K (.ref C_Costs) "due"=some (some (.ref f47))) (i47:W.isFn K (.ref f47)=true) (l47:K.lookup f47=some ⟨oc47,od47,.func (W.fnOf "due" "Costs.due" (gL jI) (fA jI) (aI jI) .none kV47 dc47 pm47 an47 cd47 ct47),sl47⟩) (c47:W.codeIn K cd47 "Costs.due"=true) (k47:W.keepIn K (.ref f47)=true)
  (h48:Dh K "row_dot" wV f48 e48)
  (a49:W.findIn K (.ref C) "moved"=some (some (.ref f49))) (i49:W.isFn K (.ref f49)=true) (l49:K.lookup f49=some ⟨oc49,od49,.func (W.fnOf "moved" "System.moved" (gL gZ) (fA gZ) (aI gZ) .none kV49 dc49 pm49 an49 cd49 ct49),sl49⟩) (c49:W.codeIn K cd49 "System.moved"=true) (k49:W.keepIn K (.ref f49)=true)
  (a50:W.findIn K (.ref C_Costs) "best"=some (some (.ref f50))) (i50:W.isFn K (.ref f50)=true) (l50:K.lookup f50=some ⟨oc50,od50,.func (W.fnOf "best" "Costs.best" (gL jf) (fA jf) (aI jf) .none kV50 dc50 pm50 an50 cd50 ct50),sl50⟩) (c50:W.codeIn K cd50 "Costs.best"=true) (k50:W.keepIn K (.ref f50)=true)
  (h51:Dh K "_law_less" rL f51 e51)
  (h52:Dh K "_law_minus" pM f52 e52)
  (h53:Dh K "_law_effort" og f53 e53)
  (h54:Dh K "_law_dot" uC f54 e54)
  (h55:Dh K "_law_on" wY f55 e55)
  (h56:Dh K "told_grid" rj f56 e56)
  (a57:W.findIn K (.ref C_Costs) "worth"=some (some (.ref f57))) (i57:W.isFn K (.ref f57)=true) (l57:K.lookup f57=some ⟨oc57,od57,.func (W.fnOf "worth" "Costs.worth" (gL iE) (fA iE) (aI iE) .none kV57 dc57 pm57 an57 cd57 ct57),sl57⟩) (c57:W.codeIn K cd57 "Costs.worth"=true) (k57:W.keepIn K (.ref f57)=true)
  (h58:Dh K "_law_square" nZ f58 e58)
  (h59:Dh K "_law_next" rG f59 e59)
  (h60:Dh K "_law_cost" rM f60 e60)
  (h61:Dh K "course" zF f61 e61)
  (h62:Dh K "plus" FV f62 e62)
  (h63:Dh K "squared" wU f63 e63)
  (h64:Dh K "effort" zE f64 e64)
  (a65:W.findIn K (.ref C_Costs) "cost"=some (some (.ref f65))) (i65:W.isFn K (.ref f65)=true) (l65:K.lookup f65=some ⟨oc65,od65,.func (W.fnOf "cost" "Costs.cost" (gL je) (fA je) (aI je) .none kV65 dc65 pm65 an65 cd65 ct65),sl65⟩) (c65:W.codeIn K cd65 "Costs.cost"=true) (k65:W.keepIn K (.ref f65)=true)
  (h66:Dh K "law" Kn f66 e66)
 (ci0:W.nsIn K mainGlobals "MOST_STATES"=some (some (.int 8 it0)))
 (ci1:W.nsIn K mainGlobals "MOST_PUTS"=some (some (.int 4 it1)))
 (ci2:W.nsIn K mainGlobals "MOST_LOOKS"=some (some (.int 4 it2)))
  (pg:W.plainGet K C Str.empty=true) (hd:W.hasDictIn K C=true) (po:W.plainOver K C=true) (sa:W.findIn K (.ref C) "__setattr__"=some (some (.builtin "object.__setattr__"))) (mk:W.makesIn K C=true) (kc:W.keepIn K (.ref C)=true)
  (n_move:W.findIn K (.ref C) "move"=some none)
  (n_states:W.findIn K (.ref C) "states"=some none)
  (n_put:W.findIn K (.ref C) "put"=some none)
  (n_ins:W.findIn K (.ref C) "ins"=some none)
  (n_look:W.findIn K (.ref C) "look"=some none)
  (n_outs:W.findIn K (.ref C) "outs"=some none)
  (pg_Costs:W.plainGet K C_Costs Str.empty=true) (hd_Costs:W.hasDictIn K C_Costs=true) (po_Costs:W.plainOver K C_Costs=true) (sa_Costs:W.findIn K (.ref C_Costs) "__setattr__"=some (some (.builtin "object.__setattr__"))) (mk_Costs:W.makesIn K C_Costs=true) (kc_Costs:W.keepIn K (.ref C_Costs)=true)
  (n_Costs_known:W.findIn K (.ref C_Costs) "known"=some none)
  (n_Costs_last_weights:W.findIn K (.ref C_Costs) "last_weights"=some none)
  (n_Costs_put_weights:W.findIn K (.ref C_Costs) "put_weights"=some none)
  (n_Costs_state_weights:W.findIn K (.ref C_Costs) "state_weights"=some none)
  (n_Costs_system:W.findIn K (.ref C_Costs) "system"=some none)
  (z_abs:W.nsIn K mainGlobals "abs"=some none)
  (z_len:W.nsIn K mainGlobals "len"=some none)
  (z_min:W.nsIn K mainGlobals "min"=some none)
  (z_int:W.nsIn K mainGlobals "int"=some none)
  (z_range:W.nsIn K mainGlobals "range"=some none)
  (z_isinstance:W.nsIn K mainGlobals "isinstance"=some none)
  (z_list:W.nsIn K mainGlobals "list"=some none)
  (z_bool:W.nsIn K mainGlobals "bool"=some none)
  (z_tuple:W.nsIn K mainGlobals "tuple"=some none)
  (z_all:W.nsIn K mainGlobals "all"=some none)
  (z_enumerate:W.nsIn K mainGlobals "enumerate"=some none)
  (z_max:W.nsIn K mainGlobals "max"=some none)
  (z_sum:W.nsIn K mainGlobals "sum"=some none)
  (z_zip:W.nsIn K mainGlobals "zip"=some none)
  : ∃fd:FuncData,(∀(s:Shared) (v:Value),BindsTo s fd ⟨[v],[]⟩ [("_law_script",v)])/\∀base:Heap,K.In base->base.Ns mainGlobals mg->cO l.prog w K mg base iI 10 fa fd ["_law_script"] (zq K):=by
 have e:=hfa.symm.trans (W.mg_of X G h66.a);cases e;obtain ⟨_,_,_,_,_,_,_,_,_,rfl,_,_⟩:=h66.F.ex;have F22:=mQ (st:=fh) l22 c22 k22;have F31:=mQ (st:=fW) l31 c31 k31;have F42:=mQ (st:=fk) l42 c42 k42;have F45:=mQ (st:=fV) l45 c45 k45;have F46:=mQ (st:=fj) l46 c46 k46;have F47:=mQ (st:=jI) l47 c47 k47;have F49:=mQ (st:=gZ) l49 c49 k49;have F50:=mQ (st:=jf) l50 c50 k50;have F57:=mQ (st:=iE) l57 c57 k57;have F65:=mQ (st:=je) l65 c65 k65
 have T:Txt K mg ⟨f0,_,f1,_,f2,_,f3,_,f4,_,f5,_,f6,_,f7,_,f8,_,f9,_,f10,_,f11,_,f12,_,f13,_,f14,_,f15,_,f16,_,f17,_,f18,_,f19,_,f20,_,f21,_,f22,_,f23,_,f24,_,f25,_,f26,_,f27,_,f28,_,f29,_,f30,_,f31,_,f32,_,f33,_,f34,_,f35,_,f36,_,f37,_,f38,_,f39,_,f40,_,f41,_,f42,_,f43,_,f44,_,f45,_,f46,_,f47,_,f48,_,f49,_,f50,_,f51,_,f52,_,f53,_,f54,_,f55,_,f56,_,f57,_,f58,_,f59,_,f60,_,f61,_,f62,_,f63,_,f64,_,f65,_,fa,_,it0,it1,it2,C,C_Costs⟩:={
  rZ:=h0.D X G
  aS:=h1.D X G
  oy:=h2.D X G
  j7:=h3.D X G
  ie:=h4.D X G
  eV:=h5.D X G
  j6:=h6.D X G
  gJ:=h7.D X G
  mM:=h8.D X G
  kX:=h9.D X G
  j5:=h10.D X G
  mL:=h11.D X G
  iX:=h12.D X G
  pX:=h13.D X G
  oA:=h14.D X G
  mJ:=h15.D X G
  j3:=h16.D X G
  nB:=h17.D X G
  fz:=h18.D X G
  pU:=h19.D X G
  xk:=h20.D X G
  iW:=h21.D X G
  nH:=F22.binds (ps:=["self","move","put","look"]) λ_ _ _ _ _ _=>by refine ln4 ?_;intros;rfl
  nL:=F22
  iY:=h23.D X G
  pY:=h24.D X G
  iD:=h25.D X G
  oz:=h26.D X G
  jD:=h27.D X G
  dh:=h28.D X G
  fO:=h29.D X G
  l9:=h30.D X G
  o9:=F31.binds (ps:=["self","system","state_weights","put_weights","last_weights"]) λ_ _ _ _ _ _=>by refine ln5 ?_;intros;rfl
  pC:=F31
  pV:=h32.D X G
  ox:=h33.D X G
  rY:=h34.D X G
  kO:=h35.D X G
  pS:=h36.D X G
  lH:=h37.D X G
  nv:=h38.D X G
  sZ:=h39.D X G
  ou:=h40.D X G
  j4:=h41.D X G
  mO:=⟨a42,i42,k42⟩
  nI:=F42.binds (ps:=["self","behind"]) λ_ _ _ _ _ _=>by refine ln2 ?_;intros;rfl
  nN:=F42
  uM:=h43.D X G
  rX:=h44.D X G
  nF:=⟨a45,i45,k45⟩
  o8:=F45.binds (ps:=["self","behind"]) λ_ _ _ _ _ _=>by refine ln2 ?_;intros;rfl
  pB:=F45
  iu:=⟨a46,i46,k46⟩
  iO:=F46.binds (ps:=["self","left"]) λ_ _ _ _ _ _=>by refine ln2 ?_;intros;rfl
  nM:=F46
  p6:=⟨a47,i47,k47⟩
  sJ:=F47.binds (ps:=["self","state","left"]) λ_ _ _ _ _ _=>by refine Sr ?_;intros;rfl
  yJ:=F47
  kM:=h48.D X G
  lR:=⟨a49,i49,k49⟩
  mT:=F49.binds (ps:=["self","state","puts"]) λ_ _ _ _ _ _=>by refine Sr ?_;intros;rfl
  sT:=F49
  tJ:=⟨a50,i50,k50⟩
  wa:=F50.binds (ps:=["self","start","steps"]) λ_ _ _ _ _ _=>by refine Sr ?_;intros;rfl
  wG:=F50
  pZ:=h51.D X G
  oB:=h52.D X G
  hZ:=h53.D X G
  nE:=h54.D X G
  pW:=h55.D X G
  pT:=h56.D X G
  so:=⟨a57,i57,k57⟩
  tT:=F57.binds (ps:=["self","left"]) λ_ _ _ _ _ _=>by refine ln2 ?_;intros;rfl
  ug:=F57
  mK:=h58.D X G
  ma:=h59.D X G
  p4:=h60.D X G
  xl:=h61.D X G
  yV:=h62.D X G
  uL:=h63.D X G
  oU:=h64.D X G
  tI:=⟨a65,i65,k65⟩
  v7:=F65.binds (ps:=["self","start","puts"]) λ_ _ _ _ _ _=>by refine Sr ?_;intros;rfl
  wF:=F65
  OX:=h66.F
  abs:=W.mg_none_of X G z_abs
  len:=W.mg_none_of X G z_len
  min:=W.mg_none_of X G z_min
  int:=W.mg_none_of X G z_int
  range:=W.mg_none_of X G z_range
  isinstance:=W.mg_none_of X G z_isinstance
  list:=W.mg_none_of X G z_list
  bool:=W.mg_none_of X G z_bool
  tuple:=W.mg_none_of X G z_tuple
  all:=W.mg_none_of X G z_all
  enumerate:=W.mg_none_of X G z_enumerate
  max:=W.mg_none_of X G z_max
  sum:=W.mg_none_of X G z_sum
  zip:=W.mg_none_of X G z_zip
  mg_MOST_STATES:=W.mg_of X G ci0
  mg_MOST_PUTS:=W.mg_of X G ci1
  mg_MOST_LOOKS:=W.mg_of X G ci2
  mg_System:=W.mg_of X G aC
  cl_System:=⟨pg,hd,po,sa⟩
  na_move:=n_move
  na_states:=n_states
  na_put:=n_put
  na_ins:=n_ins
  na_look:=n_look
  na_outs:=n_outs
  mk_System:=⟨mk,a22,i22,kc⟩
  mg_Costs:=W.mg_of X G aC_Costs
  cl_Costs:=⟨pg_Costs,hd_Costs,po_Costs,sa_Costs⟩
  na_Costs_known:=n_Costs_known
  na_Costs_last_weights:=n_Costs_last_weights
  na_Costs_put_weights:=n_Costs_put_weights
  na_Costs_state_weights:=n_Costs_state_weights
  na_Costs_system:=n_Costs_system
  mk_Costs:=⟨mk_Costs,a31,i31,kc_Costs⟩ }
 exact ⟨_,λs v=>.of_eq rfl,λbase _ _=>Qd T htree⟩
theorem walk {l:W.OpenLaw} {K:Params->W.Frag} (hn:l.most=some 63) (hdf:d.params.defaults=[])
  (hi:PyProof.Rows.importsNone q=true)
  (hY:∀(w:World) (h:Heap),YP w h->(K w.params).In h)
  (F:∀(w:World) (mg:Str->Option Value) (fa:Addr) (h:Heap),(K w.params).In h->h.Ns mainGlobals mg->mg d.name=some (.ref fa) →
   ∃fd:FuncData,(∀(s:Shared) (u:Value),BindsTo s fd ⟨[u],[]⟩ [("_law_script",u)])/\∀base:Heap,(K w.params).In base->base.Ns mainGlobals mg->cO l.prog w (K w.params) mg base iI 10 fa fd ["_law_script"] (zq (K w.params))) :
  W.WalkO q loose XP YP l.row.toRowW d [] (λf vs=>PySem.call f vs) :=
 L2.Mt (n:=63) (k:=10) (x:="_law_script") (CX:=λ_=>iI) (sp:=λw=>zq (K w.params)) hn (by decide) hdf ⟨rfl,by decide,by decide⟩ hi hY F (λ_ _ a ns hl _ hS=>⟨a,ns,rfl,hS,hl,λ_=>rfl⟩) λ_ _ _ _ _ z=>z
end Lw
namespace PySem.W.Fast
def tw6082501990521793740:=()
def tw2556077787419699783:=()
def tw3754600884026618539:=()
def tw3669828194353861931:=()
def tw2553838751709062833:=()
def tw5164069853525712627:=()
def tw11179061888680784148:=()
def tw8887278039181933985:=()
def tw5955187126417752176:=()
def tw8996283761622735848:=()
def tw12305129384172088676:=()
def tw4238557158023205219:=()
def tw13227118710212517658:=()
def tw8679873330213653254:=()
def tw5212366907431398703:=()
def tw10782287927476081025:=()
def tw14257337880540493519:=()
def tw3763408999255605663:=()
def tw15610990982228314198:=()
def tw9172384520103803660:=()
def tw13998161338750199565:=()
def tw5793065476059184333:=()
def tw2956541235676604081:=()
def tw18269303260769152558:=()
def tw17868145194317431181:=()
def tw1677150053621073580:=()
def tw2478798513260578086:=()
def tw17201015480046737599:=()
def tw12601463424755149087:=()
def tw6145797155304274097:=()
def tw15937431529490604680:=()
def tw12280007526746866510:=()
def tw7734014811741548434:=()
def tw6342622501709326947:=()
def tw13966980055778969272:=()
def tw14421269206859583987:=()
def tw5626539465856764955:=()
def tw2055918737629103105:=()
def tw7823497892625222472:=()
def tw3451292410159166405:=()
def tw17724542488089173331:=()
def tw13852434261023860925:=()
def tw7342943496337717175:=()
def tw13810439618531043545:=()
def tw5551633232974064088:=()
def tw12413885272702883986:=()
def tw13888345173188477166:=()
def tw3624912590165241540:=()
def tw13542530877111116614:=()
def tw1205394481166320161:=()
def tw16560787667953761528:=()
def tw4292843117293833300:=()
def tw5980744827426087084:=()
def tw16379343829061294362:=()
def tw3511259043167912160:=()
def tw10884660299187600076:=()
def tw18219342628728937487:=()
def tw7314925665817985806:=()
def tw15351117117032914121:=()
def tw17563303454381427069:=()
def tw8150363037408966916:=()
def tw14039914828715817581:=()
def tw790580719260370338:=()
def tw15743337072171022194:=()
def tw11430268218024571352:=()
def tw16106639947536177638:=()
def tw18235324501824909631:=()
def tw6257350015136129348:=()
def tw3074574886364154339:=()
def tw1363123821586051913:=()
def tw1722936478725044831:=()
def tw7281072245989884441:=()
def tw7471489959364603570:=()
def tw7626202402222244269:=()
def tw12200879710890012808:=()
def tw18374023774759616353:=()
def tw14496801242549404037:=()
def tw17618847732812613697:=()
def tw6805226155984818224:=()
def tw327127623999817628:=()
def tw10232339979656296440:=()
def tw1325338484509040358:=()
def tw8898425172550053420:=()
def tw14871267523739921610:=()
def tw6069471032024982482:=()
def tw17039469600106735408:=()
def tw2351893971742987961:=()
def tw1089389032943666385:=()
def tw2523592750349354594:=()
def tw16825210659292287245:=()
def tw2174899129902774309:=()
def tw10885617176458996237:=()
def tw18094088442398870764:=()
def tw13331399607248384091:=()
def tw1114830560038969632:=()
def tw10186810247837809824:=()
def tw9800381299003833182:=()
def tw11380127933376129091:=()
def tw13503710125095895627:=()
def tw5264502192123520215:=()
def tw13920286484839547857:=()
def tw13443977681320460078:=()
def tw5349895045106818220:=()
def tw11509671438726391714:=()
def tw5586782162614469469:=()
def tw14169917034570329452:=()
def tw8729330840047724075:=()
def tw806561818048733375:=()
def tw10445502247600642226:=()
def tw8804774926444917928:=()
def tw17437328499221797815:=()
def tw13409761285932713827:=()
def tw5879235648461950040:=()
def tw7017121550110471787:=()
def tw17842295363757824986:=()
def tw12623885315964835094:=()
def tw12102588742998284129:=()
def tw6752685613950768251:=()
def tw3468807236661544884:=()
def tw10207233064134729370:=()
def tw4171360961396691602:=()
def tw12586856485043471351:=()
def tw5149931622168996607:=()
def tw6602913518265897896:=()
def tw11255928572930094223:=()
def tw14136949790383654903:=()
def tw795527510249862867:=()
def tw17541035916653199520:=()
def tw12416763918161561006:=()
def tw16435016696582544158:=()
def tw5512006072086681730:=()
def tw523241239389465966:=()
def tw18275705891254351393:=()
def tw8378508896477070433:=()
def tw13181065917662461325:=()
def tw5411493000554013724:=()
def tw16958951115037816449:=()
def tw10548119737555132735:=()
def tw14197734221735929105:=()
def tw12826619701511685509:=()
def tw14099144057632633825:=()
def tw6561055691097096293:=()
def tw17917239785543685820:=()
def tw7448388321443460136:=()
def tw7366172140020550251:=()
def tw8022422486375022494:=()
def tw11932811004890690086:=()
def tw13522356338014847041:=()
def tw5806791899969655111:=()
def tw13544099610415525211:=()
def tw17177643320924997788:=()
def tw16639093273628245175:=()
def tw5822983454894920075:=()
def tw16343336625195970910:=()
def tw5910888062214370264:=()
def tw4194907080521754008:=()
def tw7593022593444126028:=()
def tw352067820819705945:=()
def tw6405341936992111650:=()
def tw5234565747413369483:=()
def tw7384832289959305387:=()
def tw17334816409848764428:=()
def tw1856082924963927451:=()
def tw5711082416166336665:=()
def tw15987345927794466618:=()
def tw11689522446670878336:=()
def tw7788876041035572568:=()
def tw7395258507217148245:=()
def tw13280853353855253967:=()
def tw1412700286559749013:=()
def tw12724512357529747295:=()
def tw6314995629667100272:=()
def tw2922697967789786777:=()
def tw2882608239692990141:=()
def tw329916249600296720:=()
def tw9415120094953860369:=()
def tw6857125353243658050:=()
def tw8347464969230416743:=()
def tw2449599058679802874:=()
def tw8913753557811437712:=()
def tw670550243337027005:=()
def tw6320231602267607415:=()
def tw8020933176807168996:=()
def tw1332652789320193851:=()
def tw15603041949090531267:=()
def tw4241139550599202201:=()
def tw4429447438458076041:=()
def tw9290661811994312642:=()
def tw6723978995901343362:=()
def tw12288134487993253751:=()
def tw17937658451108133523:=()
def tw795051217056759850:=()
def tw4182829265801232627:=()
def tw17578433699852210343:=()
def tw3190571688432423627:=()
def tw2835756894128012386:=()
def tw17449710536731687501:=()
def tw4940549345723713479:=()
def tw10344642193685581472:=()
def tw8747876353924842655:=()
def tw16233189847104871088:=()
def tw8194302924754841789:=()
def tw2081073005016686647:=()
def tw2484033851747349180:=()
def tw3633248139382404225:=()
def tw16254956954327468050:=()
def tw6915413858655799330:=()
def tw6810177946282297471:=()
def tw3875577076378758588:=()
def tw15646569516903712705:=()
def tw13307044513294365958:=()
def tw1632369595269001567:=()
def tw15302047993219775288:=()
def tw14365646270715355768:=()
def tw9470735823201638249:=()
def tw2439365057595890342:=()
def tw16969516810148715552:=()
def tw13102880016543628276:=()
def tw3138282705552583384:=()
def tw10446253579847015435:=()
def tw16536597632954323714:=()
def tw972650081182063369:=()
def tw7559678019397332607:=()
def tw18189161741825484436:=()
def tw8270112513675223743:=()
def tw4838475393763250814:=()
def tw8686517835558440313:=()
def tw15140344325239841800:=()
def tw1068046914799640284:=()
def tw4288621508830543703:=()
def tw6532976994030246656:=()
def tw10341525970991872160:=()
def tw690132900457402869:=()
def tw5255236120942212158:=()
def tw13734563952509922918:=()
def tw13142983693215225502:=()
def tw8334990584774432227:=()
def tw250094115914351843:=()
def tw12575081986174972154:=()
def tw13576263480644954801:=()
def tw17518682628717917679:=()
def tw14282398334491576154:=()
def tw8680379078291252887:=()
def tw14447906240753474348:=()
def tw4261035511054462127:=()
def tw14894475006978144851:=()
def tw6095028577707656650:=()
def tw14877038377594319512:=()
def tw18180095097252881012:=()
def tw14450745304439748978:=()
def tw15400352963987223461:=()
def tw5665937312842648980:=()
def tw227682283767321513:=()
def tw5844276393191157736:=()
def tw8356907698846490130:=()
def tw5782383119139723751:=()
def tw9762418842808079145:=()
def tw6932325733551695246:=()
def tw14819502279803402730:=()
def tw14153874927196279247:=()
def tw2565459497787772500:=()
def tw5415670388909863212:=()
def tw10933269789901761162:=()
def tw6246300905112985005:=()
def tw5049003612922195806:=()
def tw11138904975918555756:=()
def tw3009336971074761619:=()
def tw9679798937598497710:=()
def tw11428215477634012113:=()
def tw17636348347088312553:=()
def tw7696514927292287780:=()
def tw6871908051269220568:=()
def tw6514991567955706937:=()
def tw2458883108474680399:=()
def tw5049881322859930321:=()
def tw4163983559211461054:=()
def tw15872404402620310070:=()
def tw5948530192528472947:=()
def tw13941602927388367786:=()
def tw16660668734303560604:=()
def tw3514593550563619686:=()
def tw11071102383594500586:=()
def tw850895587052605332:=()
def tw173860880798972070:=()
def tw7844901661110781700:=()
def tw6132783418134836081:=()
def tw17613538542962804218:=()
def tw11631151766268164631:=()
def tw14191380416808941626:=()
def tw17266705702190551376:=()
def tw8741584843666450587:=()
def tw14402557547956306829:=()
def tw12068131608401734579:=()
def tw11433100565917411544:=()
def tw13569876782736882540:=()
def tw6711273295043152813:=()
def tw8227759172513905959:=()
def tw17033226262062142716:=()
def tw11413697976528376225:=()
def tw1261747037079857157:=()
def tw10574008637049302963:=()
def tw4470998361176399313:=()
def tw10312650180601906041:=()
def tw9860608215348288275:=()
def tw8206791655415852783:=()
def tw10820936197563994724:=()
def tw12169320184063911240:=()
def tw10105099259372795367:=()
def tw5934574898440050500:=()
def tw11535088737166518753:=()
def tw3530547886917990084:=()
def tw16605719532106791942:=()
def tw9739097633962014312:=()
def tw11901384965813223861:=()
def tw4934639701848791684:=()
def tw15299605521676132775:=()
def tw13149083573952462736:=()
def tw13875916689849590256:=()
def tw16574888972827457997:=()
def tw16231323975617503589:=()
def tw15894474757741868493:=()
def tw4412289919689952844:=()
def tw12072946235038488576:=()
def tw10739488356580575087:=()
def tw1686966922218581345:=()
def tw12923538775902215933:=()
def tw6856578588819363833:=()
def tw3117663223906602857:=()
def tw2629915621182329816:=()
def tw2990342254204278028:=()
def tw9672700539063871666:=()
def tw1231135431596324474:=()
def tw17574332161589050983:=()
def tw4351124089531999948:=()
def tw4133602459083652603:=()
def tw1680805885381802564:=()
def tw17886010364491369262:=()
def tw17694629298742558749:=()
def tw6256173786494027388:=()
def tw3664693673903396513:=()
def tw305518266740681920:=()
def tw14801252643382639352:=()
def tw16683966872749341609:=()
def tw1051524975174893607:=()
def tw16698859069013914489:=()
def tw3132976443314795498:=()
def tw8037918121937062913:=()
def tw11709093264516527449:=()
def tw13640002206084788738:=()
def tw10455789596190788352:=()
def tw12502080784649380583:=()
def tw6579854000325421600:=()
def tw2933868471287374145:=()
def tw14749905706336790984:=()
def tw12099498497286320972:=()
def tw18035043446427665040:=()
def tw9850692237352397290:=()
def tw14550857867287959983:=()
def tw8198751439512224785:=()
def tw10828905692104600348:=()
def tw5731691743394766968:=()
def tw10244929303149690085:=()
def tw9967266308537111881:=()
def tw14580189260248907876:=()
def tw17388595531638339676:=()
def tw1388986714086229988:=()
def tw3984650193371355733:=()
def tw15650762171348243378:=()
def tw15392528282099423445:=()
def tw16404271063791024268:=()
def tw1086751016752972790:=()
def tw6402704910653225302:=()
def tw13201528561631898692:=()
def tw8210464646414119747:=()
def tw8889165237467091478:=()
def tw12168739120529585779:=()
def tw15405699341002281066:=()
def tw515388165670380942:=()
def tw4866252888084323115:=()
def tw4013984637594687119:=()
def tw3387939899236365096:=()
def tw7061148842001123350:=()
def tw293024739660881834:=()
def tw1056053014790150873:=()
def tw5250987484319819443:=()
def tw5903074982781156535:=()
def tw14179730778622598055:=()
def tw4347362433855131337:=()
def tw8912372361440578887:=()
def tw17651775148402742686:=()
def tw2995927717466007528:=()
def tw18370402230413180438:=()
def tw1971698035673082349:=()
def tw11006625324518400917:=()
def tw2212384276488902852:=()
def tw3126501157420266985:=()
def tw9607556512608227691:=()
def tw17127456368213533465:=()
def tw8208017347518906910:=()
def tw5266429957361302848:=()
def tw16457569022698402182:=()
def tw16662247511125246895:=()
def tw15856099025504743137:=()
def tw5195283833669372337:=()
def tw15928669559704473084:=()
def tw6782352192632343298:=()
def tw17909224077920123760:=()
def tw3060370327030536781:=()
def tw5522397151035505842:=()
def tw12454042795600534312:=()
def tw16101542919216439370:=()
def tw10420011183463735877:=()
def tw14823441023544498273:=()
def tw14896895664372353422:=()
def tw8335052378732717279:=()
def tw7281879257039589411:=()
def tw8896087290543140618:=()
def tw4644769475688578665:=()
def tw14584554058546664688:=()
def tw9408377388044926751:=()
def tw9247227155081396443:=()
def tw12478026336974963693:=()
def tw1223469103038401075:=()
def tw9389707888749033061:=()
def tw9606609540997328181:=()
def tw456047346336117428:=()
def tw2685182607910897461:=()
def tw7167754687069433331:=()
def tw15171486377988925344:=()
def tw38450987284018178:=()
def tw13254789170325428234:=()
def tw6114728231558815805:=()
def tw7893466108271151233:=()
def tw5919342702080829095:=()
def tw1173476061189899725:=()
def tw12276714543022642919:=()
def tw8478983000842329165:=()
def tw7970248593586558217:=()
def tw8299738650845156711:=()
def tw8752550164962984952:=()
def tw12559913686812362636:=()
def tw7427459271283252289:=()
def tw14872191680261689441:=()
def tw16314319159000532640:=()
def tw425208709826728412:=()
def tw8607774644398847326:=()
def tw7762437498972550096:=()
def tw12397962150412253042:=()
def tw12696193499567064547:=()
def tw4812523045122876647:=()
def tw17690557034058674375:=()
def tw14139440137217308099:=()
def tw3044029882963038272:=()
def tw8760275628055490022:=()
def tw5575490745531830702:=()
def tw10367948966832011460:=()
def tw4294990989789520902:=()
def tw16119352167562864280:=()
def tw8719234980077082177:=()
def tw15687214138704332200:=()
theorem te6082501990521793740:True:=trivial
end PySem.W.Fast
open PySem PySem.W PyProof.Rows
set_option maxRecDepth 100000 in
set_option maxHeartbeats 0 in
theorem PySem.Challenge.cw_helmsum_k69_whole_costs_are_squares_holds : PySem.Challenge.rw_helmsum_k69_whole_costs_are_squares.Holds := by
 w_on;o_law;k_head;(case hw=>w_witness2)
 k_fill
 refine Lw.walk (l:=PySem.Challenge.rw_helmsum_k69_whole_costs_are_squares) rfl rfl ?hi (λw h Y=>PySem.W.kIn_of Y) ?F
 case hi=>decide +kernel
 case F =>
  intro w mg fa h KX G hmg;refine' Lw.all_mk KX G hmg rfl ?aC ?aC_Costs ?_ ?_ ?_ ?_ ?_ ?_ ?_ ?_ ?_ ?_ ?_ ?_ ?_ ?_ ?_ ?_ ?_ ?_ ?_ ?_ ?_ ?_ ?a22 ?i22 ?l22 ?c22 ?k22 ?_ ?_ ?_ ?_ ?_ ?_ ?_ ?_ ?a31 ?i31 ?l31 ?c31 ?k31 ?_ ?_ ?_ ?_ ?_ ?_ ?_ ?_ ?_ ?_ ?a42 ?i42 ?l42 ?c42 ?k42 ?_ ?_ ?a45 ?i45 ?l45 ?c45 ?k45 ?a46 ?i46 ?l46 ?c46 ?k46 ?a47 ?i47 ?l47 ?c47 ?k47 ?_ ?a49 ?i49 ?l49 ?c49 ?k49 ?a50 ?i50 ?l50 ?c50 ?k50 ?_ ?_ ?_ ?_ ?_ ?_ ?a57 ?i57 ?l57 ?c57 ?k57 ?_ ?_ ?_ ?_ ?_ ?_ ?_ ?a65 ?i65 ?l65 ?c65 ?k65 ?_ ?ci0 ?ci1 ?ci2 ?pg ?hd ?po ?sa ?mk ?kc ?n_move ?n_states ?n_put ?n_ins ?n_look ?n_outs ?pg_Costs ?hd_Costs ?po_Costs ?sa_Costs ?mk_Costs ?kc_Costs ?n_Costs_known ?n_Costs_last_weights ?n_Costs_put_weights ?n_Costs_state_weights ?n_Costs_system ?z_abs ?z_len ?z_min ?z_int ?z_range ?z_isinstance ?z_list ?z_bool ?z_tuple ?z_all ?z_enumerate ?z_max ?z_sum ?z_zip
  all_goals try refine' SD ?_ ?_ ?_ ?_
  all_goals try k_is