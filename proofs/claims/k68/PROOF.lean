import PyProof.Rows.All
import Wide.All
import OpenK.AllK
import Wide.FinOn
import Lean
import PyProof.EqAt
import PyProof.EqKinds
import PyProof.TupleCall
import PyProof.NeKinds
import PySem.Challenge.RW_helmsum_k68_due_and_best
set_option Elab.async false
set_option linter.all false
set_option maxRecDepth 100000
abbrev ND9:=@List.Nodup PySem.Str
abbrev ae:=@List.getD_eq_getElem?_getD
abbrev ag:=@List.length_map
abbrev aj:=@Nat.le_trans
abbrev ak:=@List.mem_of_getElem?
abbrev ao:=@List.getElem?_eq_getElem
abbrev au:=@Nat.le_refl
abbrev av:=@Nat.pow_le_pow_right
abbrev aw:=@List.mem_append
abbrev ay:=@List.mem_map
abbrev aB:=@List.getElem?_map
abbrev aD:=@List.length_append
abbrev aF:=@List.mem_cons
abbrev aJ:=@List.take_of_length_le
abbrev aL:=@Nat.mul_le_mul_right
abbrev aM:=@Rat.intCast_mul
abbrev aP:=@List.size_toArray
abbrev aQ:=@List.not_mem_nil
abbrev aT:=@Nat.le_of_lt
abbrev aY:=@List.getElem?_eq_some_iff
abbrev a8:=@Nat.mul_le_mul
abbrev a9:=@Nat.lt_of_lt_of_le
abbrev bo:=@Rat.div_def
abbrev bq:=@List.getElem?_eq_none
abbrev bu:=@Bool.false_ne_true
abbrev bx:=@PySem.boot_len
abbrev bE:=@Int.fdiv_eq_ediv_of_nonneg
abbrev bI:=@Rat.intCast_natCast
abbrev bJ:=@Nat.lt_of_le_of_lt
abbrev bK:=@List.mem_cons_of_mem
abbrev bL:=@List.mem_append_right
abbrev bM:=@List.getElem_mem
abbrev bQ:=@Nat.pow_add
abbrev bR:=@List.mem_singleton
abbrev bS:=@List.length_range
abbrev bV:=@List.length_cons
abbrev bW:=@Nat.zero_le
abbrev bY:=@Rat.le_of_lt
abbrev bZ:=@PySem.F.plainAttrs_list
abbrev b7:=@Option.some.inj
abbrev b9:=@List.getElem_of_mem
abbrev cm:=@PySem.F.type_list_append
abbrev cn:=@PySem.F.slot_list_append
abbrev cw:=@List.getElem?_zipWith
abbrev cx:=@Int.eq_ofNat_of_zero_le
abbrev cA:=@List.length_zipWith
abbrev cC:=@Rat.natCast_mul
abbrev cD:=@List.map_append
abbrev cE:=@Nat.ne_of_lt
abbrev cF:=@List.append_assoc
abbrev cT:=@Rat.zero_mul
abbrev cU:=@List.mem_cons_self
abbrev cX:=@List.nil_append
abbrev c7:=@Nat.mul_pos
abbrev c8:=@List.getElem?_range
abbrev dd:=@List.nodup_append
abbrev di:=@List.mem_of_mem_take
abbrev dk:=@PySem.W.kia_one
abbrev dr:=@List.nodup_cons
abbrev du:=@Int.mul_assoc
abbrev dD:=@List.mem_or_eq_of_mem_set
abbrev dM:=@Rat.mul_assoc
abbrev dO:=@Rat.mul_comm
abbrev dP:=@Rat.intCast_pos
abbrev dQ:=@Rat.mul_inv_cancel
abbrev dU:=@Rat.mul_pos
abbrev dW:=@Option.getD_some
abbrev dX:=@Nat.succ_le_succ
abbrev dY:=@List.length_take
abbrev dZ:=@Int.gcd_dvd_left
abbrev eB:=@Rat.natCast_le_natCast
abbrev eC:=@Rat.mul_nonneg
abbrev eE:=@Int.gcd_dvd_right
abbrev eG:=@Rat.intCast_inj
abbrev eN:=@List.drop_eq_getElem_cons
abbrev eQ:=@List.length_singleton
abbrev eR:=@Int.natAbs_dvd_natAbs
abbrev eY:=@List.mem_flatten
abbrev eZ:=@List.length_drop
abbrev fe:=@List.cons_append
abbrev fo:=@Nat.lt_irrefl
abbrev fu:=@List.mem_of_mem_drop
abbrev fJ:=@Rat.intCast_le_intCast
abbrev fK:=@Int.mul_comm
abbrev fO:=@Rat.mul_one
abbrev fQ:=@Bool.and_eq_true
abbrev gE:=@List.length_replicate
abbrev gP:=@Nat.two_pow_pos
abbrev gY:=@Rat.one_mul
abbrev gZ:=@Rat.le_trans
abbrev hJ:=@Rat.add_zero
abbrev hR:=@Nat.pow_lt_pow_right
abbrev hX:=@Nat.mul_comm
abbrev hZ:=@Int.mul_pos
abbrev ib:=@Nat.mul_assoc
abbrev iJ:=@Bool.or_eq_true_iff
abbrev iL:=@Rat.mul_le_mul_of_nonneg_right
abbrev iM:=@Nat.lt_succ_self
abbrev iN:=@Int.natAbs_mul
abbrev iU:=@Rat.mul_zero
abbrev iV:=@Rat.div_mul_cancel
abbrev iW:=@Option.map_eq_some_iff
abbrev iX:=@Int.emod_lt_of_pos
abbrev iY:=@Bool.false_eq_true
abbrev jo:=@Rat.intCast_neg
abbrev jq:=@List.length_set
abbrev js:=@Nat.le_of_dvd
abbrev jN:=@List.nodup_nil
abbrev jO:=@List.mem_append_left
abbrev jP:=@List.getElem?_append_right
abbrev ko:=@PySem.IsL.update
abbrev kq:=@Nat.dvd_mul_left
abbrev ks:=@List.lookup_cons
abbrev kx:=@Int.gcd_comm
abbrev kJ:=@PySem.F.plain_extend_loop
abbrev kK:=@List.getElem?_append_left
abbrev kL:=@PySem.mem_of_lookup
abbrev kM:=@List.replicate_succ
abbrev kR:=@List.map_cons
abbrev kZ:=@Rat.natCast_pos
abbrev lg:=@Rat.intCast_add
abbrev lh:=@Int.emod_nonneg
abbrev lH:=@Rat.inv_mul_cancel
abbrev lI:=@Int.natAbs_natCast
abbrev mi:=@Nat.le_mul_of_pos_right
abbrev mj:=@Int.dvd_mul_of_dvd_left
abbrev nB:=@Nat.succ_mul
abbrev nD:=@Nat.pow_succ
abbrev nE:=@Nat.lt_or_ge
abbrev nG:=@Nat.le_mul_of_pos_left
abbrev nJ:=@List.flatten_cons
abbrev nK:=@List.ext_getElem?
abbrev o5:=@PySem.F.slot_zip_next
abbrev qB:=@Rat.mul_le_mul_of_nonneg_left
abbrev qC:=@List.getElem_zipWith
abbrev qH:=@List.append_nil
abbrev qI:=@Int.gcd_pos_of_ne_zero_right
abbrev qJ:=@Bool.eq_iff_iff
abbrev rX:=@Nat.mul_le_mul_left
abbrev tH:=@Nat.one_le_two_pow
abbrev tI:=@Int.natAbs_neg
abbrev tJ:=@Int.eq_of_mul_eq_mul_right
abbrev vR:=@Int.mul_ediv_cancel_left
abbrev xH:=@Rat.intCast_eq_zero_iff
abbrev xI:=@List.all_eq_true
abbrev xJ:=@Int.natCast_dvd_natCast
abbrev yh:=@PySem.W.cellsFrom_some
abbrev zL:=@List.range_succ
abbrev zM:=@List.length_zip
abbrev zO:=@Bool.beq_eq_decide_eq
abbrev AR:=@Rat.le_refl
abbrev AS:=@Nat.one_mul
abbrev AU:=@Nat.le_succ
abbrev AV:=@List.mem_range
abbrev AW:=@List.forIn_nil
abbrev Cz:=@PySem.W.plainGet_of
abbrev CC:=@List.map_congr_left
abbrev CD:=@List.filterMap_cons
abbrev D9:=@Int.dvd_trans
abbrev Ed:=@PySem.W.callWith_K
abbrev Ee:=@List.append_of_mem
abbrev Gf:=@Nat.ne_of_gt
abbrev Gg:=@Nat.add_comm
abbrev Gh:=@List.map_map
abbrev Gi:=@Int.zero_add
abbrev Gj:=@Int.natAbs_add_le
abbrev HR:=@Nat.le_add_right
abbrev JQ:=@Rat.den_pos
abbrev JR:=@Nat.add_mul
abbrev JS:=@Int.neg_neg
abbrev JT:=@Int.dvd_gcd
abbrev J0:=@Nat.not_lt_zero
abbrev J5:=@List.of_mem_zip
abbrev J6:=@List.forIn_cons
abbrev Mp:=@Rat.le_of_mul_le_mul_right
abbrev Mq:=@Int.ediv_pos_of_pos_of_dvd
abbrev Oq:=@PySem.F.entry_extend_loop
abbrev Ot:=@List.getElem?_zip_eq_some
abbrev Ou:=@Int.natAbs_ediv_of_nonneg
abbrev Oz:=@Option.isSome_iff_exists
abbrev OA:=@Nat.dvd_trans
abbrev P8:=@PySem.F.args_zip_next_1
abbrev P9:=@List.getElem?_replicate
abbrev LR9:=List (List Rat)
abbrev FG9:=PySem.W.Frag
namespace L2
open PySem PySem.Spec PyProof.Rows
abbrev Key:=Sum Int Str
def LV:Key->Value->Bool
 | .inl k,v=>Value.isInt k v
 | .inr x,v=>Value.isStrOf x v
def Qt (w:World):Key->Int
 | .inl k=>hashInt k
 | .inr x=>hashStr w x
theorem fz:∀{k:Key} {v:Value},LV k v=true->(∃i t,k=Sum.inl i/\v=Value.int i t)\/(∃x t,k=Sum.inr x/\v=Value.str x t)
 | .inl i,v,h=>by
  obtain ⟨t,e⟩:=Value.isInt_shape (k:=i) (v:=v) h;exact .inl ⟨i,t,rfl,e⟩
 | .inr x,v,h=>by
  obtain ⟨t,e⟩:=Value.isStrOf_shape (x:=x) (v:=v) h;exact .inr ⟨x,t,rfl,e⟩
theorem NK (a b:Int):decide ((Sum.inl a:Key)=Sum.inl b)=(a == b):=by
 by_cases e:a=b
 ·subst e;simp
 ·have h:¬(Sum.inl a:Key)=Sum.inl b:=λq=>e (Sum.inl.inj q)
  rw[decide_eq_false h];exact (beq_eq_false_iff_ne.mpr e).symm
theorem NA (a b:Str):decide ((Sum.inr a:Key)=Sum.inr b)=decide (a=b):=by
 by_cases e:a=b
 ·subst e;simp
 ·have h:¬(Sum.inr a:Key)=Sum.inr b:=λq=>e (Sum.inr.inj q)
  rw[decide_eq_false h,decide_eq_false e]
theorem NJ (a:Int) (b:Str):decide ((Sum.inl a:Key)=Sum.inr b)=false:=decide_eq_false (λq=>nomatch q)
theorem NH (a:Str) (b:Int):decide ((Sum.inr a:Key)=Sum.inl b)=false:=decide_eq_false (λq=>nomatch q)
def FK (prog:Program) (w:World):PySem.KeyKind prog w Key where
 is:=LV
 hash:=Qt w
 inj:=λv a b ha hb=>by
  rcases fz ha with ⟨i,t,rfl,rfl⟩ | ⟨x,t,rfl,rfl⟩
  ·rcases fz hb with ⟨j,u,rfl,e⟩ | ⟨y,u,rfl,e⟩
   ·injection e with e1 _;rw[e1]
   ·exact nomatch e
  ·rcases fz hb with ⟨j,u,rfl,e⟩ | ⟨y,u,rfl,e⟩
   ·exact nomatch e
   ·injection e with e1 _;rw[e1]
 byValue:=λk v h=>by
  rcases fz h with ⟨i,t,rfl,rfl⟩ | ⟨x,t,rfl,rfl⟩ <;> rfl
 pyHash:=λhv h=>by
  rcases fz hv with ⟨i,t,rfl,rfl⟩ | ⟨x,t,rfl,rfl⟩
  ·exact wpAny_pyHash_int h
  ·exact wpAny_pyHash_str h
 eqBool:=λhu hv h=>by
  rcases fz hu with ⟨i,t,rfl,rfl⟩ | ⟨x,t,rfl,rfl⟩
  ·rcases fz hv with ⟨j,u,rfl,rfl⟩ | ⟨y,u,rfl,rfl⟩
   ·rw[NK] at h;exact wpAny_eqBool_int h
   ·rw[NJ] at h;exact SeqAt.EqAt.int_str i t y u _ _ _ _ h
  ·rcases fz hv with ⟨j,u,rfl,rfl⟩ | ⟨y,u,rfl,rfl⟩
   ·rw[NH] at h;exact SeqAt.EqAt.str_int x t j u _ _ _ _ h
   ·rw[NA] at h;exact wpAny_eqBool_str h
 «strs»:=λk x t v h=>by
  rcases fz h with ⟨i,u,rfl,e⟩ | ⟨y,u,rfl,e⟩
  ·exact nomatch e
  ·injection e with e1 _
   subst e1;cases v <;> rfl
inductive V where
  | non | bl (b : Bool) | int (i : Int) | str (x : Str) | byt (b : Array UInt8) | flt (b : UInt64) | ref (a : Addr) | ty (n : String)
  deriving DecidableEq

def RelV:V->Value->Prop
 | .non,u=>u=Value.none
 | .bl b,u=>u=Value.bool b
 | .int i,u=>∃t,u=Value.int i t
 | .str x,u=>∃t,u=Value.str x t
 | .byt b,u=>∃t,u=Value.bytes b t
 | .flt b,u=>∃t,u=Value.float b t
 | .ref a,u=>u=Value.ref a
 | .ty n,u=>u=Value.type n
abbrev cR:List V->List Value->Prop:=Paired RelV
theorem cR.length (r:cR xs us):xs.length=us.length:=Paired.length r
theorem cR.get:∀{xs:List V} {us:List Value} {i:Nat} {x:V},cR xs us->xs[i]?=some x->∃u,us[i]?=some u/\RelV x u
 | _,_,_,_,.nil,e=>by simp at e
 | _,_,0,_,.cons r _,e=>by simp at e;subst e;exact ⟨_,rfl,r⟩
 | _,_,i+1,x,.cons _ t,e=>by
  obtain ⟨u,h1,h2⟩:=cR.get (i:=i) (x:=x) t (by simpa using e);exact ⟨u,by simpa using h1,h2⟩
theorem cR.set {x:V} {u:Value} (r:RelV x u):∀{xs:List V} {us:List Value} (i:Nat),cR xs us->cR (xs.set i x) (us.set i u)
 | _,_,_,.nil=>.nil
 | _,_,0,.cons _ t=>.cons r t
 | _,_,i+1,.cons q t=>.cons q (cR.set r i t)
theorem cR.append:∀{xs ys:List V} {us ws:List Value},cR xs us->cR ys ws->cR (xs++ys) (us++ws)
 | _,_,_,_,.nil,s=>s
 | _,_,_,_,.cons r t,s=>.cons r (cR.append t s)
theorem cR.take:∀{xs:List V} {us:List Value} (n:Nat),cR xs us->cR (xs.take n) (us.take n)
 | _,_,0,_=>.nil
 | _,_,_+1,.nil=>.nil
 | _,_,n+1,.cons r t=>.cons r (cR.take n t)
theorem cR.drop:∀{xs:List V} {us:List Value} (n:Nat),cR xs us->cR (xs.drop n) (us.drop n)
 | _,_,0,r=>r
 | _,_,_+1,.nil=>.nil
 | _,_,n+1,.cons _ t=>cR.drop n t
def z5:Option V->Option Value->Prop
 | some v,some u=>RelV v u
 | none,none=>True
 | _,_=>False
def KV {κ:Type}:List (κ×V)->List (κ×Value)->Prop:=Paired λ(p:κ×V) (q:κ×Value)=>p.1=q.1/\RelV p.2 q.2
def kV:Key->V
 | .inl i=>.int i
 | .inr x=>.str x
inductive HO where
 | lst (xs:List V)
 | tup (xs:List V)
 | dK (kvs:List (Key×V)) | dT (kvs:List (List Key×V))
 | set (S:Int->Bool) (n:Nat)
 | ins (C dx:Addr) (fs:List (Str×V))
 | own (x:Addr)
 | xd (fs:List (Str×V))
 | met (f x:Addr)
 | rng (lo hi:Int)
 | frz (o:Obj) (u:HO)
 | tbl (ps:Array Value)
 | ext (φ:Heap->Prop)
abbrev Hp:=Addr->Option HO
def upd (H:Hp) (a:Addr) (o:HO):Hp:=λb=>if b=a then some o else H b
theorem aE:upd H a o a=some o:=by unfold upd;rw[if_pos rfl]
theorem aN (h:b≠a):upd H a o b=H b:=by unfold upd;rw[if_neg h]
theorem eF {H:Hp} (h:H a=some o) (h':H b=none):a≠b:=by
 intro e;subst e;rw[h] at h';cases h'
section
variable (P:Program) (w:World)
def jk (H:Hp) (h:Heap) (a:Addr):HO->Prop
 | .lst xs=>xs.length<=sizeLine/\∃(its:List Value) (n:Nat),cR xs its/\h.get? a=some { cls:=.type "list",data:=.seq its.toArray n }
 | .tup xs=>xs.length<=sizeLine/\∃its:List Value,cR xs its/\IsTup h a its.toArray
 | .dK kvs=>kvs.length<=sizeLine/\(a == sysModules)=false/\∃vs,KV kvs vs/\h.DictOf (FK P w) a vs
 | .dT kvs=>kvs.length<=sizeLine/\(a == sysModules)=false/\∃xs:List (List Key×Addr×Value),
   Paired (λ(p:List Key×V) (q:List Key×Addr×Value)=>p.1=q.1/\H q.2.1=some (.tup (p.1.map kV))/\RelV p.2 q.2.2) kvs xs /\
   ∃o es ep,h.get? a=some o/\o.ExactDict/\o.data=.dict es ep/\es.toList=xs.map (entryOfKey (tupleKind (FK P w)))/\(xs.map (·.1)).Nodup
 | .set S n=>h.SetOf (intKind P w) a S n
 | .ins C dx fs=>H dx=some (.own a)/\fs.length<=1000/\dx≠a/\h.get? a=some (PySem.W.instObj C dx) /\
   ∃mA,h.Ns1 dx mA/\(∀f,z5 (fs.lookup f) (mA f))/\PySem.Within mA (fs.map (·.1))
 | .own _=>∃o,h.get? a=some o
 | .xd fs=>∃mA,h.Ns1 a mA/\∀f,z5 (fs.lookup f) (mA f)
 | .rng lo hi=>∃t u v,h.get? a=some { cls:=.type "range",data:=.fields #[.int lo t,.int hi u,.int 1 v] }
 | .frz o u=>h.get? a=some o/\jk H h a u
 | .tbl ps=>h.get? a=some { cls:=.none,data:=.fields ps }
 | .met f x=>h.get? a=some (PySem.W.methodObj (.ref f) (.ref x))
 | .ext φ=>φ h/\(∃o,h.get? a=some o)/\∀h1 h2:Heap,φ h1->(∀o,h1.get? a=some o->h2.get? a=some o)->φ h2
def yg (H:Hp) (h:Heap):Prop:=∀a o,H a=some o->jk P w H h a o
end
section
variable {P:Program} {w:World} {H H':Hp} {h h':Heap} {a:Addr} {o:HO}
theorem jk.lt (x:jk P w H h a o):a < h.objs.size:=by
 cases o with
 | lst xs=>obtain ⟨_,_,_,_,e⟩:=x;exact Heap.lt_size e
 | tup xs=>obtain ⟨_,_,_,p⟩:=x;exact p.lt
 | dK kvs=>obtain ⟨_,_,_,_,o,_,_,e,_⟩:=x;exact Heap.lt_size e
 | dT kvs=>obtain ⟨_,_,_,_,o,_,_,e,_⟩:=x;exact Heap.lt_size e
 | set S n=>obtain ⟨o,_,_,_,e,_⟩:=x;exact Heap.lt_size e
 | ins C dx fs=>obtain ⟨_,_,_,e,_⟩:=x;exact Heap.lt_size e
 | own y=>obtain ⟨_,e⟩:=x;exact Heap.lt_size e
 | xd fs=>obtain ⟨_,⟨_,_,_,e,_⟩,_⟩:=x;exact Heap.lt_size e
 | rng lo hi=>obtain ⟨_,_,_,e⟩:=x;exact Heap.lt_size e
 | frz ob u=>obtain ⟨e,_⟩:=x;exact Heap.lt_size e
 | tbl ps=>exact Heap.lt_size (show h.get? a=some _ from x)
 | met f y=>exact Heap.lt_size (show h.get? a=some _ from x)
 | ext φ=>obtain ⟨_,⟨_,e⟩,_⟩:=x;exact Heap.lt_size e
theorem Paired.mapP {α β:Type} {F G:α->β->Prop}:∀{l₁:List α} {l₂:List β},Paired F l₁ l₂->(∀a b,F a b->G a b)->Paired G l₁ l₂
 | _,_,.nil,_=>.nil
 | _,_,.cons r t,f=>.cons (f _ _ r) (Paired.mapP t f)
theorem Paired.imp' {F G:α->β->Prop} (f:∀a b,F a b->G a b) {l₁:List α} {l₂:List β} (r:Paired F l₁ l₂):Paired G l₁ l₂:=Paired.mapP r f
theorem jk.stay (x:jk P w H h a o) (k:∀b u,(b=a\/H b=some (.own a))->h.get? b=some u->h'.get? b=some u)
  (ho:∀b,H b=some (.own a)->H' b=some (.own a)) (ht:∀b xs,H b=some (.tup xs)->H' b=some (.tup xs)):jk P w H' h' a o:=by
 induction o with
 | lst xs=>obtain ⟨z,its,n,r,e⟩:=x;exact ⟨z,its,n,r,k _ _ (.inl rfl) e⟩
 | tup xs=>obtain ⟨z,its,r,ob,e,c⟩:=x;exact ⟨z,its,r,ob,k _ _ (.inl rfl) e,c⟩
 | dK kvs=>obtain ⟨z,y,vs,r,ob,es,ep,e,c⟩:=x;exact ⟨z,y,vs,r,ob,es,ep,k _ _ (.inl rfl) e,c⟩
 | dT kvs =>
  obtain ⟨z,y,xs,r,ob,es,ep,e,c⟩:=x;exact ⟨z,y,xs,Paired.mapP r λp q z=>⟨z.1,ht _ _ z.2.1,z.2.2⟩,ob,es,ep,k _ _ (.inl rfl) e,c⟩
 | set S n=>obtain ⟨ob,es,ep,t,e,c⟩:=x;exact ⟨ob,es,ep,t,k _ _ (.inl rfl) e,c⟩
 | ins C dx fs =>
  obtain ⟨d,z,ne,e,mA,⟨od,es,ep,e2,c⟩,r⟩:=x;exact ⟨ho _ d,z,ne,k _ _ (.inl rfl) e,mA,⟨od,es,ep,k _ _ (.inr d) e2,c⟩,r⟩
 | own y=>obtain ⟨ob,e⟩:=x;exact ⟨ob,k _ _ (.inl rfl) e⟩
 | xd fs=>obtain ⟨mA,⟨od,es,ep,e,c⟩,r⟩:=x;exact ⟨mA,⟨od,es,ep,k _ _ (.inl rfl) e,c⟩,r⟩
 | rng lo hi=>obtain ⟨t,u,v,e⟩:=x;exact ⟨t,u,v,k _ _ (.inl rfl) e⟩
 | frz ob u ih=>obtain ⟨e,q⟩:=x;exact ⟨k _ _ (.inl rfl) e,ih q⟩
 | tbl ps =>
  have e:h.get? a=some { cls:=.none,data:=.fields ps }:=x;show h'.get? a=some { cls:=.none,data:=.fields ps }
  exact k a _ (.inl rfl) e
 | met f y =>
  have e:h.get? a=some (PySem.W.methodObj (.ref f) (.ref y)):=x;show h'.get? a=some (PySem.W.methodObj (.ref f) (.ref y))
  exact k a _ (.inl rfl) e
 | ext φ=>obtain ⟨p,⟨o,e⟩,st⟩:=x;exact ⟨st _ _ p λo q=>k _ _ (.inl rfl) q,⟨o,k _ _ (.inl rfl) e⟩,st⟩
theorem yg.lt (x:yg P w H h) (e:H a=some o):a < h.objs.size:=(x a o e).lt
theorem yg.fresh (x:yg P w H h) (e:h.objs.size<=a):H a=none:=by
 cases q:H a with
 | none=>rfl
 | some u=>exact absurd (a9 (x.lt q) e) (fo _)
theorem yg.kept (x:yg P w H h) (k:∀b u,h.get? b=some u->h'.get? b=some u):yg P w H h':=λa o e =>
 (x a o e).stay (λb u _ q=>k b u q) (λ_ q=>q) λ_ _ q=>q
theorem yg.laid (x:yg P w H h) (k:∀b u,h.get? b=some u->h'.get? b=some u) (hp:h.objs.size<=a) (new:jk P w (upd H a o) h' a o):yg P w (upd H a o) h':=λb u e=>by
 have hn:=x.fresh hp;by_cases hb:b=a
 ·subst hb;rw[aE] at e;cases e;exact new
 ·rw[aN hb] at e;exact (x b u e).stay (λc v _ q=>k c v q) (λc q=>by rw[aN (eF q hn)];exact q) λc xs q=>by rw[aN (eF q hn)];exact q
end
def Rd (H:Hp) (a:Addr) (u:HO):Prop:=H a=some u\/∃o,H a=some (.frz o u)
theorem Rd.ok (r:Rd H a u) (x:yg P w H h):jk P w H h a u:=by
 rcases r with r | ⟨o,r⟩
 ·exact x a u r
 ·obtain ⟨_,q⟩:=x a _ r;exact q
def Qj:Option HO->Prop
 | some (.lst _)=>True
 | some (.dK _)=>True
 | some (.dT _)=>True
 | some (.set _ _)=>True
 | some (.ins _ _ _)=>True
 | some (.ext _)=>True
 | _=>False
section
variable {P:Program} {w:World} {H:Hp} {h h':Heap} {x e:Addr} {o':HO}
theorem yg.write (ok:yg P w H h) (mu:Qj (H x)) (he:e=x\/H e=some (.own x)) (k:∀b u,b≠e->h.get? b=some u->h'.get? b=some u) (heo:∃u,h'.get? e=some u)
  (new:jk P w (upd H x o') h' x o'):yg P w (upd H x o') h':=λb u q=>by
 have nown:∀c y,H c=some (.own y)->c≠x:=λc y r z=>by subst z;rw[r] at mu;exact mu
 have ntup:∀c xs,H c=some (.tup xs)->c≠x:=λc xs r z=>by subst z;rw[r] at mu;exact mu
 by_cases hb:b=x
 ·subst hb;rw[aE] at q;cases q;exact new
 ·rw[aN hb] at q;by_cases hbe:b=e
  ·have q':H b=some (.own x):=by
    rcases he with z | z
    ·exact absurd (hbe.trans z) hb
    ·rw[hbe];exact z
   rw[q] at q';cases q';obtain ⟨v,hv⟩:=heo;exact ⟨v,by rw[hbe];exact hv⟩
  ·refine (ok b u q).stay (λc v hc r=>k c v ?_ r) (λc r=>by rw[aN (nown c b r)];exact r) λc xs r=>by rw[aN (ntup c xs r)];exact r
   rcases hc with rfl | hc
   ·exact hbe
   ·rintro rfl;rcases he with z | z
    ·exact nown c b hc z
    ·rw[hc] at z;cases z;exact hb rfl
end
structure Un (fs ex:List Addr) (H H':Hp) (h h':Heap):Prop where
 keep:∀b o,h.get? b=some o->H b=none->b∉fs->b∉ex->h'.get? b=some o
 slot:∀b o,h.get? b=some o->H b=none->b∈fs->b∉ex->∃sl,h'.get? b=some { o with slots:=sl }
 free:∀b o,h.get? b=some o->H b=none->b∉ex->H' b=none
 there:∀b o,h.get? b=some o->b∉ex->∃o',h'.get? b=some o'
 tups:∀b xs,H b=some (.tup xs)->H' b=some (.tup xs)
 frzs:∀b o u,H b=some (.frz o u)->H' b=some (.frz o u)
 tbls:∀b ps,H b=some (.tbl ps)->∃more,H' b=some (.tbl (ps++more))
section
variable {fs fs' ex ex':List Addr} {H H1 H2:Hp} {h h1 h2 h':Heap} {a x e:Addr} {o:HO}
theorem Un.any (u:Un fs ex H H1 h h1) (q:h.get? b=some ob) (n:H b=none) (hx:b∉ex):∃sl,h1.get? b=some { ob with slots:=sl }:=by
 by_cases hb:b∈fs
 ·exact u.slot b ob q n hb hx
 ·exact ⟨ob.slots,u.keep b ob q n hb hx⟩
theorem Un.kept (k:∀b u,h.get? b=some u->h'.get? b=some u):Un fs ex H H h h' :=
 ⟨λb ob q _ _ _=>k b ob q,λb ob q _ _ _=>⟨ob.slots,k b ob q⟩,λ_ _ _ n _=>n,λb ob q _=>⟨ob,k b ob q⟩,λ_ _ q=>q,λ_ _ _ q=>q,λ_ ps q=>⟨#[],by rw[q];simp⟩⟩
theorem Un.refl:Un fs ex H H h h:=Un.kept λ_ _ q=>q
theorem Un.laid (k:∀b u,h.get? b=some u->h'.get? b=some u) (hp:h.objs.size<=a) (hn:H a=none):Un fs ex H (upd H a o) h h' where
 keep:=λb u q _ _ _=>k b u q
 slot:=λb u q _ _ _=>⟨u.slots,k b u q⟩
 free:=λb u q n _=>by rw[aN (cE (a9 (Heap.lt_size q) hp))];exact n
 there:=λb u q _=>⟨u,k b u q⟩
 tups:=λb xs q=>by rw[aN (eF q hn)];exact q
 frzs:=λb u xs q=>by rw[aN (eF q hn)];exact q
 tbls:=λb ps q=>⟨#[],by rw[aN (eF q hn),q];simp⟩
theorem Un.write (mu:Qj (H x)) (he:e=x\/H e=some (.own x)) (k:∀b u,b≠e->h.get? b=some u->h'.get? b=some u) (heo:∃u,h'.get? e=some u):Un fs ex H (upd H x o) h h':=by
 have hx:∀b,H b=none->b≠x:=λb n z=>by subst z;rw[n] at mu;exact mu
 have hb:∀b,H b=none->b≠e:=λb n z=>by
  subst z;rcases he with r | r
  ·exact hx b n r
  ·rw[n] at r;cases r
 have hm:∀b u,H b=some u->¬Qj (some u)->b≠x:=λb u q nm z=>by subst z;rw[q] at mu;exact nm mu
 refine ⟨λb u q n _ _=>k b u (hb b n) q,λb u q n _ _=>⟨u.slots,k b u (hb b n) q⟩,λb u q n _=>by rw[aN (hx b n)];exact n,λb u q _=>?_,
  λb xs q=>by rw[aN (hm b _ q λz=>z)];exact q,λb u xs q=>by rw[aN (hm b _ q λz=>z)];exact q,λb ps q=>⟨#[],by rw[aN (hm b _ q λz=>z),q];simp⟩⟩
 by_cases hbe:b=e
 ·subst hbe;exact heo
 ·exact ⟨u,k b u hbe q⟩
end
def Qa (h:Heap) (H:Hp):List Addr:=(List.range h.objs.size).filter λa=>(H a).isSome
def BW (h:Heap) (H:Hp):Heap:=PySem.W.hideAll h (Qa h H)
theorem GX (h:Heap) (H:Hp):(BW h H).objs.size=h.objs.size:=PySem.W.hideAll_size _ _
theorem Jl (e:h.get? b=some o) (n:H b=none):(BW h H).get? b=some o :=
 PySem.W.hideAll_get _ e λhm=>by
  have q:(H b).isSome=true:=(List.mem_filter.mp hm).2;rw[n] at q;simp at q
theorem KZ (e:(BW h H).get? b=some o):h.get? b=some o/\H b=none:=by
 have e':h.get? b=some o:=PySem.W.of_hideAll (Qa h H) e;refine ⟨e',?_⟩;cases q:H b with
 | none=>rfl
 | some x =>
  have hm:b∈Qa h H:=List.mem_filter.mpr ⟨AV.mpr (Heap.lt_size e'),by simp [q]⟩;have z:(BW h H).get? b=none:=PySem.W.hideAll_none (Qa h H) hm;rw[z] at e;cases e
structure Mod (K:FG9) (mg:Str->Option Value) (base:Heap):Prop where
 kin:K.In base
 glob:base.Ns mainGlobals mg
 blt:∃mb,base.Ns builtinsNs mb/\∀x:Str,x≠"__name__"->mb x=bootBuiltins x
 nolimit:base.NoLimit
 seer:base.NoSeer
structure Cx where
 prog:Program
 w:World
 K:FG9
 mg:Str->Option Value
 base:Heap
 A:Around
 N:List Str
 s₀:Shared
 H₀:Hp
 env:Env
 outer:List Env
 stack:List Env
 ex:List Addr
 fn:Str->Bool
 calm:Bool
 pn:List (Addr×Obj)
 xe:Value->Shared->Prop
def HP (l:List Env):List Addr:=l.filterMap (·.frame)
abbrev Cx.fs (X:Cx):List Addr:=HP X.outer
def Qz (sc:Scope) (x:Str):Prop:=sc.names.lookup x=some .local\/sc.names.lookup x=some .cell\/sc.names.lookup x=some .free
def Loc (sc:Scope) (x:Str):Prop:=sc.names.lookup x=some .local\/sc.names.lookup x=some .cell
def Look (env:Env) (h:Heap) (m:Str->Option Value) (x:Str) (u:Value):Prop :=
 (env.kindOf x=some .local/\m x=some u)\/((env.kindOf x=some .cell\/env.kindOf x=some .free)/\∃c,env.cells.lookup x=some c/\h.IsCell c (some u))
structure Cx.Ok (X:Cx):Prop where
 mod:Mod X.K X.mg X.base
 kind:X.env.scope.kind=.function
 glob:X.env.globals=mainGlobals
 blt:X.env.builtins=builtinsNs
 above:X.s₀.heap.objs.size<=X.env.locals
 inj:∀x y c,X.env.cells.lookup x=some c->X.env.cells.lookup y=some c->x=y
 has:∀x,(X.env.kindOf x=some .cell\/X.env.kindOf x=some .free)->∃c,X.env.cells.lookup x=some c
 cab:∀x c,X.fn x=true->X.env.cells.lookup x=some c->X.s₀.heap.objs.size<=c
 hd:X.calm=true->X.A.handled=none
 frames:X.A.frames=some X.stack
 stk:X.stack=X.outer\/(X.stack=X.env :: X.outer/\X.env.frame=some X.env.locals)
 exf:∀b∈X.ex,b≠X.env.locals/\∀x c,X.env.cells.lookup x=some c->c≠b
 bs:∀b o,X.base.get? b=some o->X.s₀.heap.get? b=some o/\X.H₀ b=none
 bsz:X.base.objs.size<=X.s₀.heap.objs.size
 noex:∀b o,X.base.get? b=some o->b∉X.ex
 exfs:∀b∈X.ex,b∉X.fs
 funs:X.s₀.heap.FunFrames X.base X.outer
 frf:∀b∈X.fs,X.H₀ b=none
structure Inv (X:Cx) (pins:List (Addr×Obj)) (σ:List (Option V)) (H:Hp) (s:Shared):Prop where
 ok:X.Ok
 os:s.os=X.s₀.os
 bare:AllBare s.gens
 base:Un X.fs X.ex X.H₀ H X.s₀.heap s.heap
 loc:∃m,s.heap.Ns X.env.locals m/\∀(i:Nat) (x:Str) (v:V),X.N[i]?=some x->σ[i]?=some (some v)->Qz X.env.scope x->∃u,RelV v u/\Look X.env s.heap m x u
 cell:∀x c,X.env.cells.lookup x=some c->∃v,s.heap.IsCell c v
 free:H X.env.locals=none
 freeC:∀x c,X.env.cells.lookup x=some c->H c=none
 pin:∀p∈X.pn++pins,s.heap.get? p.1=some p.2/\H p.1=none/\p.1≠X.env.locals/\p.1∉X.fs/\∀v,p.2.data≠.cell v
 hok:yg X.prog X.w H s.heap
 len:σ.length=X.N.length
section
variable {X:Cx} {pins:List (Addr×Obj)} {σ:List (Option V)} {H H':Hp} {s:Shared} {h':Heap}
theorem Cx.Ok.nofr (ok:X.Ok) (e:X.base.get? b=some o):b∉X.fs:=λhb=>by
 have:=(ok.funs.mem hb).1;rw[e] at this;cases this
theorem Inv.bs (I:Inv X pins σ H s):∀b o,X.base.get? b=some o->s.heap.get? b=some o/\H b=none:=λb o e =>
 ⟨I.base.keep b o (I.ok.bs b o e).1 (I.ok.bs b o e).2 (I.ok.nofr e) (I.ok.noex b o e),I.base.free b o (I.ok.bs b o e).1 (I.ok.bs b o e).2 (I.ok.noex b o e)⟩
theorem Inv.bk (I:Inv X pins σ H s):∀b o,X.base.get? b=some o->s.heap.get? b=some o:=λb o e=>(I.bs b o e).1
theorem Inv.mod (I:Inv X pins σ H s):Mod X.K X.mg X.base:=I.ok.mod
theorem Inv.kIn (I:Inv X pins σ H s):X.K.In s.heap:=I.ok.mod.kin.keeps I.bk
theorem Inv.nolimit (I:Inv X pins σ H s):s.heap.NoLimit:=I.ok.mod.nolimit.keeps I.bk
theorem Inv.lt (I:Inv X pins σ H s):X.env.locals < s.heap.objs.size:=let ⟨_,hn,_⟩:=I.loc;hn.lt
theorem Inv.sz (I:Inv X pins σ H s):X.s₀.heap.objs.size<=s.heap.objs.size:=aj I.ok.above (aT I.lt)
theorem Inv.nofs (I:Inv X pins σ H s) {a:Addr} (h:s.heap.objs.size<=a):a∉X.fs:=λhb=>by
 obtain ⟨_,o,ho,_⟩:=I.ok.funs.mem hb;exact absurd (a9 (Heap.lt_size ho) (aj I.sz h)) (fo _)
theorem Inv.cne (I:Inv X pins σ H s):∀x c,X.env.cells.lookup x=some c->c≠X.env.locals:=λx c e z=>by
 obtain ⟨v,o,ho,hd⟩:=I.cell x c e;obtain ⟨m,⟨o',es,ep,ho',hd',_⟩,_⟩:=I.loc;rw[z,ho'] at ho;cases ho;rw[hd'] at hd;cases hd
theorem Inv.funs (I:Inv X pins σ H s):s.heap.FunFrames X.base X.outer:=by
 have all:∀(l:List Env),(∀b∈HP l,b∈X.fs)->X.s₀.heap.FunFrames X.base l->s.heap.FunFrames X.base l:=by
  intro l
  induction l with
  | nil=>intro _ _;trivial
  | cons env r ih =>
   intro hs hl;obtain ⟨hk,⟨L,o,hf,hn,ho,hd⟩,hr⟩:=hl;have hL:L∈X.fs:=hs L (by unfold HP;rw[CD,hf];exact cU);obtain ⟨sl,e⟩:=I.base.slot L o ho (I.ok.frf L hL) hL λz=>I.ok.exfs L z hL
   exact ⟨hk,⟨L,_,hf,hn,e,hd⟩,ih (λb hb=>hs b (by unfold HP;rw[CD,hf];exact bK _ hb)) hr⟩
 exact all X.outer (λ_ hb=>hb) I.ok.funs
theorem Inv.stack (I:Inv X pins σ H s):s.heap.FunFrames X.base X.stack:=by
 rcases I.ok.stk with e | ⟨e,hf⟩
 ·rw[e];exact I.funs
 ·rw[e];obtain ⟨m,hn,_⟩:=I.loc;refine .cons (by rw[I.ok.kind];decide) hf hn ?_ I.funs;exact Heap.get?_none_of_le (aj I.ok.bsz I.ok.above)
theorem Inv.stkSub (I:Inv X pins σ H s):∀b∈HP X.stack,b∈X.env.locals :: X.fs:=λb hb=>by
 rcases I.ok.stk with e | ⟨e,hf⟩
 ·rw[e] at hb;exact bK _ hb
 ·rw[e] at hb;unfold HP at hb;rw[CD,hf] at hb;exact hb
theorem Inv.stkFree (I:Inv X pins σ H s):∀b∈HP X.stack,H b=none:=λb hb=>by
 rcases aF.mp (I.stkSub b hb) with e | hb
 ·rw[e];exact I.free
 ·obtain ⟨_,o,ho,_⟩:=I.ok.funs.mem hb;exact I.base.free b o ho (I.ok.frf b hb) λz=>I.ok.exfs b z hb
theorem Inv.step {ch:List Addr} (I:Inv X pins σ H s)
  (hch:∀b∈ch,(b∈X.ex\/X.s₀.heap.objs.size<=b)/\b≠X.env.locals/\(∀x c,X.env.cells.lookup x=some c->c≠b)/\∀p∈X.pn++pins,p.1≠b)
  (keep:∀b o,b≠X.env.locals->b∉X.fs->b∉ch->s.heap.get? b=some o->H b=none->h'.get? b=some o)
  (slot:∀b o,b≠X.env.locals->b∈X.fs->b∉ch->s.heap.get? b=some o->H b=none->∃sl,h'.get? b=some { o with slots:=sl }) (free:∀b o,b∉ch->s.heap.get? b=some o->H b=none->H' b=none)
  (there:∀b o,b∉ch->s.heap.get? b=some o->∃o',h'.get? b=some o')
  (tups:∀b xs,H b=some (.tup xs)->H' b=some (.tup xs)) (frzs:∀b o u,H b=some (.frz o u)->H' b=some (.frz o u)) (tbls:∀b ps,H b=some (.tbl ps)->∃more,H' b=some (.tbl (ps++more)))
  (ns:∀m,s.heap.Ns X.env.locals m->h'.Ns X.env.locals m) (hok:yg X.prog X.w H' h') (hg:AllBare g') :
  Inv X pins σ H' { s with heap:=h',gens:=g',drawn:=d',toks:=t' }:=by
 have neL:∀b o,X.s₀.heap.get? b=some o->b≠X.env.locals:=λb o e=>cE (a9 (Heap.lt_size e) I.ok.above)
 have neC:∀b o,X.s₀.heap.get? b=some o->b∉X.ex->b∉ch:=λb o e hx hb=>by
  rcases (hch b hb).1 with z | z
  ·exact hx z
  ·exact absurd (a9 (Heap.lt_size e) z) (fo _)
 have cellK:∀x c,X.env.cells.lookup x=some c->∀v,s.heap.IsCell c v->h'.IsCell c v:=λx c e v ⟨o,ho,hd⟩=>by
  have nch:c∉ch:=λz=>(hch c z).2.2.1 x c e rfl
  by_cases hc:c∈X.fs
  ·obtain ⟨sl,q⟩:=slot c o (I.cne x c e) hc nch ho (I.freeC x c e);exact ⟨_,q,hd⟩
  ·exact ⟨o,keep c o (I.cne x c e) hc nch ho (I.freeC x c e),hd⟩
 refine ⟨I.ok,I.os,hg,⟨λb o e n hb hx=>?_,λb o e n hb hx=>?_,λb o e n hx=>?_,λb o e hx=>?_,λb xs e=>tups b xs (I.base.tups b xs e),λb o xs e=>frzs b o xs (I.base.frzs b o xs e),λb ps e=>?_⟩,?_,λx c e=>?_,?_,λx c e=>?_,λp hp=>?_,hok,I.len⟩
 ·exact keep b o (neL b o e) hb (neC b o e hx) (I.base.keep b o e n hb hx) (I.base.free b o e n hx)
 ·obtain ⟨sl,e1⟩:=I.base.slot b o e n hb hx;obtain ⟨sl',e2⟩:=slot b _ (neL b o e) hb (neC b o e hx) e1 (I.base.free b o e n hx);exact ⟨sl',e2⟩
 ·obtain ⟨o',e1⟩:=I.base.there b o e hx;exact free b o' (neC b o e hx) e1 (I.base.free b o e n hx)
 ·obtain ⟨o',e1⟩:=I.base.there b o e hx;exact there b o' (neC b o e hx) e1
 ·obtain ⟨m1,e1⟩:=I.base.tbls b ps e;obtain ⟨m2,e2⟩:=tbls b _ e1;exact ⟨m1++m2,by rw[e2,Array.append_assoc]⟩
 ·obtain ⟨m,hn,hl⟩:=I.loc;refine ⟨m,ns m hn,λi x v e1 e2 e3=>?_⟩;obtain ⟨u,r,l⟩:=hl i x v e1 e2 e3;refine ⟨u,r,?_⟩;rcases l with l | ⟨k,c,e,z⟩
  ·exact .inl l
  ·exact .inr ⟨k,c,e,cellK x c e _ z⟩
 ·obtain ⟨v,z⟩:=I.cell x c e;exact ⟨v,cellK x c e v z⟩
 ·obtain ⟨m,⟨o,_,_,ho,_⟩,_⟩:=I.loc;exact free _ o (λz=>(hch _ z).2.1 rfl) ho I.free
 ·obtain ⟨v,o,ho,hd⟩:=I.cell x c e;exact free c o (λz=>(hch c z).2.2.1 x c e rfl) ho (I.freeC x c e)
 ·obtain ⟨e,n,ne,nf,d⟩:=I.pin p hp;have nch:p.1∉ch:=λz=>(hch p.1 z).2.2.2 p hp rfl
  exact ⟨keep p.1 p.2 ne nf nch e n,free p.1 p.2 nch e n,ne,nf,d⟩
theorem Inv.un (I:Inv X pins σ H s) (u:Un X.fs [] H H' s.heap h') (hok:yg X.prog X.w H' h'):Inv X pins σ H' { s with heap:=h',toks:=t' }:=by
 obtain ⟨m,⟨o,es,ep,ho,r⟩,_⟩:=id I.loc;obtain ⟨sl,hL⟩:=u.any ho I.free (by simp)
 exact I.step (g':=s.gens) (d':=s.drawn) (ch:=[]) (λ_ z=>nomatch z) (λb o _ hb _ e n=>u.keep b o e n hb (by simp)) (λb o _ hb _ e n=>u.slot b o e n hb (by simp)) (λb o _ e n=>u.free b o e n (by simp)) (λb o _ e=>u.there b o e (by simp)) u.tups u.frzs u.tbls (λm' hm=>by
  obtain ⟨o',es',ep',ho',r'⟩:=hm;rw[ho] at ho';cases ho';exact ⟨_,es',ep',hL,r'⟩) hok I.bare
theorem Inv.call (I:Inv X pins σ H s) (u:Un (HP X.stack) ch H H' s.heap h') (hok:yg X.prog X.w H' h') (hg:AllBare g')
  (hch:∀b∈ch,(b∈X.ex\/X.s₀.heap.objs.size<=b)/\b≠X.env.locals/\(∀x c,X.env.cells.lookup x=some c->c≠b)/\∀p∈X.pn++pins,p.1≠b) :
  Inv X pins σ H' { s with heap:=h',gens:=g',drawn:=d',toks:=t' }:=by
 obtain ⟨m,⟨o,es,ep,ho,r⟩,_⟩:=id I.loc;obtain ⟨sl,hL⟩:=u.any ho I.free λz=>(hch _ z).2.1 rfl
 exact I.step (ch:=ch) hch (λb o hL hb hc e n=>u.keep b o e n (λz=>(aF.mp (I.stkSub b z)).elim hL hb) hc) (λb o _ _ hc e n=>u.any e n hc) (λb o hc e n=>u.free b o e n hc) (λb o hc e=>u.there b o e hc) u.tups u.frzs u.tbls (λm' hm=>by
  obtain ⟨o',es',ep',ho',r'⟩:=hm;rw[ho] at ho';cases ho';exact ⟨_,es',ep',hL,r'⟩) hok hg
theorem Inv.turned (I:Inv X pins σ H s) (k:∀b o,b≠it->s.heap.get? b=some o->h'.get? b=some o) (hn:H it=none) (hL:it≠X.env.locals)
  (h1:it∈X.ex\/X.s₀.heap.objs.size<=it) (h2:∀x c,X.env.cells.lookup x=some c->c≠it) (h3:∀p∈X.pn++pins,p.1≠it):Inv X pins σ H { s with heap:=h',toks:=t' }:=by
 have nit:∀b u,H b=some u->b≠it:=λb u e z=>by rw[z,hn] at e;cases e
 refine I.step (g':=s.gens) (d':=s.drawn) (ch:=[it]) (λb hb=>?_) (λb o _ _ hc e _=>k b o (λz=>hc (by simp [z])) e) (λb o _ _ hc e _=>⟨o.slots,k b o (λz=>hc (by simp [z])) e⟩) (λ_ _ _ _ n=>n)
  (λb o hc e=>⟨o,k b o (λz=>hc (by simp [z])) e⟩) (λ_ _ e=>e) (λ_ _ _ e=>e) (λb ps e=>⟨#[],by rw[e];simp⟩) (λm hm=>?_) (λb u e=>?_) I.bare
 ·have e:b=it:=by simpa using hb
  subst e;exact ⟨h1,hL,h2,h3⟩
 ·obtain ⟨o,es,ep,ho,r⟩:=hm;exact ⟨o,es,ep,k _ o (Ne.symm hL) ho,r⟩
 ·refine (I.hok b u e).stay (λc v hc q=>k c v ?_ q) (λ_ q=>q) λ_ _ q=>q
  rcases hc with z | z
  ·rw[z];exact nit b u e
  ·exact nit c _ z
theorem Inv.tok (I:Inv X pins σ H s) (t:Nat):Inv X pins σ H { s with toks:=t }:=I.un (h':=s.heap) (t':=t) Un.refl I.hok
theorem Inv.kept (I:Inv X pins σ H s) (k:∀b u,s.heap.get? b=some u->h'.get? b=some u):Inv X pins σ H { s with heap:=h',toks:=t' }:=I.un (Un.kept k) (I.hok.kept k)
theorem Inv.laid {a:Addr} (I:Inv X pins σ H s) (k:∀b u,s.heap.get? b=some u->h'.get? b=some u) (hp:s.heap.objs.size<=a) (new:jk X.prog X.w (upd H a o) h' a o) :
  Inv X pins σ (upd H a o) { s with heap:=h',toks:=t' }:=I.un (Un.laid k hp (I.hok.fresh hp)) (I.hok.laid k hp new)
theorem Inv.write (I:Inv X pins σ H s) (mu:Qj (H x)) (he:e=x\/H e=some (.own x)) (k:∀b u,b≠e->s.heap.get? b=some u->h'.get? b=some u) (heo:∃u,h'.get? e=some u)
  (new:jk X.prog X.w (upd H x o) h' x o):Inv X pins σ (upd H x o) { s with heap:=h',toks:=t' }:=I.un (Un.write mu he k heo) (I.hok.write mu he k heo new)
theorem Inv.pins_of (I:Inv X pins σ H s) (h:∀p∈pins',s.heap.get? p.1=some p.2/\H p.1=none/\p.1≠X.env.locals/\p.1∉X.fs/\∀v,p.2.data≠.cell v):Inv X pins' σ H s :=
 ⟨I.ok,I.os,I.bare,I.base,I.loc,I.cell,I.free,I.freeC,λp hp=>(aw.mp hp).elim (λz=>I.pin p (jO _ z)) (h p),I.hok,I.len⟩
theorem Dx {N:List Str} (hN:N.Nodup) {i j:Nat} (a:N[i]?=some x) (b:N[j]?=some x):i=j:=by
 obtain ⟨h1,e1⟩:=aY.mp a;obtain ⟨h2,e2⟩:=aY.mp b;exact (List.getElem_inj hN).mp (e1.trans e2.symm)
theorem Ae {M:Model} {A:Around} {E:Value->Shared->Prop} {i:Nat} {x:Str} {v:V} {u:Value} {Q:Unit->Shared->Prop} (I:Inv X pins σ H s) (hN:X.N.Nodup) (hi:X.N[i]?=some x) (hx:Loc X.env.scope x) (r:RelV v u)
  (h:∀s',Inv X pins (σ.set i (some v)) H s'->(∃a,Heap.SameBut a s.heap s'.heap/\(a=X.env.locals\/X.env.cells.lookup x=some a))->Q () s') (hf:X.fn x=true\/X.env.scope.names.lookup x=some .local:=by first | exact .inl rfl | exact .inr rfl | assumption):wpAny M A (storeName X.env x u) Q E s:=by
 obtain ⟨m,hn,hl⟩:=id I.loc;have hcls:(X.env.scope.kind == .class || (X.env.scope.kind == .module && X.env.locals != X.env.globals))=false:=by rw[I.ok.kind];rfl
 have hiσ:i < σ.length:=by rw[I.len];exact (aY.mp hi).1
 have cne:=I.cne
 have tracked:∀{a:Addr} {h':Heap},(∃o,s.heap.get? a=some o/\H a=none)->Heap.SameBut a s.heap h'->yg X.prog X.w H h':=λ{a h'} ha hs b ob e=>by
  obtain ⟨_,_,hfree⟩:=ha;refine (I.hok b ob e).stay (λc w' hc q=>(hs.2 c ?_).trans q) (λ_ q=>q) λ_ _ q=>q
  rintro rfl;rcases hc with rfl | hc
  ·rw[hfree] at e;cases e
  ·rw[hfree] at hc;cases hc
 rcases hx with hk | hk
 ·refine wpAny_storeName_local hk hn (λh' hn' hs=>?_) hcls;obtain ⟨oL,_,_,hoL,_⟩:=id hn;refine h _ ⟨I.ok,I.os,I.bare,⟨λb o e n hb hx=>?_,λb o e n hb hx=>?_,I.base.free,λb o e hx=>?_,I.base.tups,I.base.frzs,I.base.tbls⟩,⟨_,hn',λj y v' e1 e2 e3=>?_⟩,λy c e=>?_,I.free,I.freeC,λp hp=>?_,tracked ⟨oL,hoL,I.free⟩ hs,by simpa using I.len⟩ ⟨_,hs,.inl rfl⟩
  ·exact (hs.2 b (cE (a9 (Heap.lt_size e) I.ok.above))).trans (I.base.keep b o e n hb hx)
  ·obtain ⟨sl,e1⟩:=I.base.slot b o e n hb hx;exact ⟨sl,(hs.2 b (cE (a9 (Heap.lt_size e) I.ok.above))).trans e1⟩
  ·obtain ⟨o',e1⟩:=I.base.there b o e hx;exact ⟨o',(hs.2 b (cE (a9 (Heap.lt_size e) I.ok.above))).trans e1⟩
  ·by_cases hj:j=i
   ·subst hj;rw[hi] at e1;cases e1;rw[List.getElem?_set_self hiσ] at e2;cases e2;exact ⟨u,r,.inl ⟨hk,by simp⟩⟩
   ·rw[List.getElem?_set_ne (Ne.symm hj)] at e2;obtain ⟨u',r',q⟩:=hl j y v' e1 e2 e3;refine ⟨u',r',?_⟩;rcases q with ⟨k,e⟩ | ⟨k,c,e,z⟩
    ·refine .inl ⟨k,?_⟩;have:y≠x:=λe=>hj (Dx hN e1 (e ▸ hi))
     simp [this,e]
    ·exact .inr ⟨k,c,e,z.sameBut hs (cne y c e)⟩
  ·obtain ⟨w',z⟩:=I.cell y c e;exact ⟨w',z.sameBut hs (cne y c e)⟩
  ·obtain ⟨e,n,ne,nf,d⟩:=I.pin p hp;exact ⟨(hs.2 p.1 ne).trans e,n,ne,nf,d⟩
 ·have hfn:X.fn x=true:=by
   rcases hf with z | z
   ·exact z
   ·rw[z] at hk;cases hk
  obtain ⟨c,hc⟩:=I.ok.has x (.inl hk);obtain ⟨w',z⟩:=I.cell x c hc;refine wpAny_storeName_cell I.ok.kind hk hc z (λh' hc' hs=>?_);obtain ⟨oc,hoc,hocd⟩:=id z;refine h { s with heap:=h' } ⟨I.ok,I.os,I.bare,⟨λb o e n hb hx=>?_,λb o e n hb hx=>?_,I.base.free,λb o e hx=>?_,I.base.tups,I.base.frzs,I.base.tbls⟩,⟨m,hn.sameBut hs (Ne.symm (cne x c hc)),λj y v' e1 e2 e3=>?_⟩,λy c' e=>?_,I.free,I.freeC,λp hp=>?_,tracked ⟨oc,hoc,I.freeC x c hc⟩ hs,by simpa using I.len⟩ ⟨c,hs,.inr hc⟩
  ·exact (hs.2 b (cE (a9 (Heap.lt_size e) (I.ok.cab x c hfn hc)))).trans (I.base.keep b o e n hb hx)
  ·obtain ⟨sl,e1⟩:=I.base.slot b o e n hb hx;exact ⟨sl,(hs.2 b (cE (a9 (Heap.lt_size e) (I.ok.cab x c hfn hc)))).trans e1⟩
  ·obtain ⟨o',e1⟩:=I.base.there b o e hx;exact ⟨o',(hs.2 b (cE (a9 (Heap.lt_size e) (I.ok.cab x c hfn hc)))).trans e1⟩
  ·by_cases hj:j=i
   ·subst hj;rw[hi] at e1;cases e1;rw[List.getElem?_set_self hiσ] at e2;cases e2;exact ⟨u,r,.inr ⟨.inl hk,c,hc,hc'⟩⟩
   ·rw[List.getElem?_set_ne (Ne.symm hj)] at e2;obtain ⟨u',r',q⟩:=hl j y v' e1 e2 e3;refine ⟨u',r',?_⟩;rcases q with q | ⟨k,c',e,z'⟩
    ·exact .inl q
    ·refine .inr ⟨k,c',e,z'.sameBut hs ?_⟩;rintro rfl;exact hj (Dx hN e1 (I.ok.inj _ _ _ e hc ▸ hi))
  ·by_cases hcc:c'=c
   ·subst hcc;exact ⟨_,hc'⟩
   ·obtain ⟨w2,z2⟩:=I.cell y c' e;exact ⟨w2,z2.sameBut hs hcc⟩
  ·obtain ⟨e,n,ne,nf,d⟩:=I.pin p hp;refine ⟨(hs.2 p.1 ?_).trans e,n,ne,nf,d⟩;intro q;rw[q,hoc] at e;have q':oc=p.2:=b7 e;exact d w' (by rw[<- q'];exact hocd)
theorem uA {M:Model} {A:Around} {E:Value->Shared->Prop} {i:Nat} {x:Str} {v:V} {u:Value} {Q:Unit->Shared->Prop} (I:Inv X pins σ H s) (hN:X.N.Nodup) (hi:X.N[i]?=some x) (hx:Loc X.env.scope x) (r:RelV v u)
  (h:∀s',Inv X pins (σ.set i (some v)) H s'->Q () s') (hf:X.fn x=true\/X.env.scope.names.lookup x=some .local:=by first | exact .inl rfl | exact .inr rfl | assumption):wpAny M A (storeName X.env x u) Q E s :=
 Ae I hN hi hx r (λs' I' _=>h s' I') hf
theorem Inv.call' (I:Inv X pins σ H s) (ho:s'.os=s.os) (u:Un (HP X.stack) ch H H' s.heap s'.heap) (hok:yg X.prog X.w H' s'.heap) (hg:AllBare s'.gens)
  (hch:∀b∈ch,(b∈X.ex\/X.s₀.heap.objs.size<=b)/\b≠X.env.locals/\(∀x c,X.env.cells.lookup x=some c->c≠b)/\∀p∈X.pn++pins,p.1≠b):Inv X pins σ H' s':=by
 obtain ⟨h',g',d',t',o'⟩:=s';have e:o'=s.os:=ho;subst e;exact I.call (g':=g') (t':=t') (d':=d') u hok hg hch
end
abbrev XK:=Value->Option Addr->Hp->Prop
abbrev St:=List (Option V)
abbrev VK:=V->Hp->Prop
abbrev TE:=St->Hp->VK->Prop
abbrev TT:=St->Hp->(Bool->Hp->Prop)->Prop
abbrev TA:=St->Hp->(List V->Hp->Prop)->Prop
structure Ends where
 nx:St->Hp->Prop
 rt:VK
 bk:St->Hp->Prop:=λ_ _=>False
 ct:St->Hp->Prop:=λ_ _=>False
abbrev TS:=Ends->St->Hp->Prop
def EP (X:Cx) (pins:List (Addr×Obj)) (σ:St) (Q:VK) (u:Value) (s':Shared):Prop:=∃v H',Inv X pins σ H' s'/\RelV v u/\Q v H'
def TP (X:Cx) (pins:List (Addr×Obj)) (σ:St) (Q:Bool->Hp->Prop) (b:Bool) (s':Shared):Prop:=∃H',Inv X pins σ H' s'/\Q b H'
def AP (X:Cx) (pins:List (Addr×Obj)) (σ:St) (Q:List V->Hp->Prop) (us:List Value) (s':Shared):Prop:=∃vs H',Inv X pins σ H' s'/\cR vs us/\Q vs H'
def SP (X:Cx) (pins:List (Addr×Obj)) (D:Ends) (f:Flow) (s':Shared):Prop :=
 match f with
 | .next=>∃σ' H',Inv X pins σ' H' s'/\D.nx σ' H'
 | .brk=>∃σ' H',Inv X pins σ' H' s'/\D.bk σ' H'
 | .cont=>∃σ' H',Inv X pins σ' H' s'/\D.ct σ' H'
 | .ret u=>∃v σ' H',Inv X pins σ' H' s'/\RelV v u/\D.rt v H'
def PE (X:Cx) (e:Expr) (t:TE):Prop :=
 ∀(pins:List (Addr×Obj)) (s:Shared) (σ:St) (H:Hp) (Q:VK),Inv X pins σ H s->t σ H Q->wpAny (model X.prog X.w) X.A (eval e X.env) (EP X pins σ Q) X.xe s
def PT (X:Cx) (e:Expr) (t:TT):Prop :=
 ∀(pins:List (Addr×Obj)) (s:Shared) (σ:St) (H:Hp) (Q:Bool->Hp->Prop),Inv X pins σ H s->t σ H Q->wpAny (model X.prog X.w) X.A (isTrue e X.env (eval e X.env)) (TP X pins σ Q) X.xe s
def PW (X:Cx) (e:Expr) (t:TT):Prop :=
 ∀(whole:Sem Value) (pins:List (Addr×Obj)) (s:Shared) (σ:St) (H:Hp) (Q:Bool->Hp->Prop),Inv X pins σ H s->t σ H Q->wpAny (model X.prog X.w) X.A (isTrue e X.env whole) (TP X pins σ Q) X.xe s
theorem PW.pt (h:PW X e t):PT X e t:=h _
def PA (X:Cx) (es:List Expr) (t:TA):Prop :=
 ∀(pos:Pos) (pins:List (Addr×Obj)) (s:Shared) (σ:St) (H:Hp) (Q:List V->Hp->Prop),Inv X pins σ H s->t σ H Q->wpAny (model X.prog X.w) X.A (spliced (backTo pos (starEach es X.env))) (AP X pins σ Q) X.xe s
def PS (X:Cx) (st:Stmt) (t:TS):Prop :=
 ∀(pins:List (Addr×Obj)) (s:Shared) (σ:St) (H:Hp) (D:Ends),Inv X pins σ H s->t D σ H->wpAny (model X.prog X.w) X.A (exec st X.env) (SP X pins D) X.xe s
def E7 (X:Cx) (st:List Stmt) (t:TS):Prop :=
 ∀(pins:List (Addr×Obj)) (s:Shared) (σ:St) (H:Hp) (D:Ends),Inv X pins σ H s->t D σ H->wpAny (model X.prog X.w) X.A (execs st X.env) (SP X pins D) X.xe s
theorem gN {t:Sem α} {Q Q':α->Shared->Prop} (h:wpAny M A t Q E s) (hQ:∀a s,Q a s->Q' a s):wpAny M A t Q' E s:=wpAny_mono h hQ λ_ _ x=>x
section
variable {X:Cx}
def Mv (i:Nat):TE:=λσ H Q=>∃v,σ[i]?=some (some v)/\Q v H
def tC (v:V):TE:=λ_ H Q=>Q v H
theorem Nq {i:Nat} {x:Str} {pos:Pos} (hN:X.N[i]?=some x) (hv:Qz X.env.scope x) (hd:(x == ("__debug__":Str))=false:=by decide) (hcd:(x == ("__classdict__":Str))=false:=by decide):PE X (.Name x pos) (Mv i):=by
 intro pins s σ H Q I h;obtain ⟨v,e,h⟩:=h;obtain ⟨m,hn,hl⟩:=I.loc;obtain ⟨u,r,l⟩:=hl i x v hN e hv;have fin:EP X pins σ Q u s:=⟨v,H,I,r,h⟩;rcases l with ⟨hk,hm⟩ | ⟨hk,c,hc,hcell⟩
 ·exact wpAny_Name (wpAny_loadName_local I.ok.kind hk hn hm fin) hd
 ·rcases hk with hk | hk
  ·exact wpAny_Name (wpAny_loadName_cell I.ok.kind hk hc hcell fin) hd
  ·exact wpAny_Name (wpAny_loadName_free I.ok.kind hk hc hcell fin hcd) hd
theorem ai:PE X (.Constant (.int i) j pos) (tC (.int i)):=λ_ _ _ H _ I h=>wpAny_Constant_int ⟨.int i,H,I.tok _,⟨_,rfl⟩,h⟩
theorem sO:PE X (.Constant (.bool b) j pos) (tC (.bl b)):=λ_ _ _ H _ I h=>Constant_bool ⟨.bl b,H,I,rfl,h⟩
theorem IV:PE X (.Constant .none j pos) (tC .non):=λ_ _ _ H _ I h=>Constant_none ⟨.non,H,I,rfl,h⟩
def Gl (X:Cx) (x:Str):Prop:=X.env.kindOf x=some .globalImplicit
theorem BU {E:Value->Shared->Prop} {pins:List (Addr×Obj)} {s:Shared} {σ:St} {H:Hp} {x:Str} {u:Value} {pos:Pos} {Q:Value->Shared->Prop} (I:Inv X pins σ H s) (hg:Gl X x) (hm:X.mg x=some u) (h:Q u s)
  (hd:(x == ("__debug__":Str))=false:=by decide):wpAny (model X.prog X.w) X.A (eval (.Name x pos) X.env) Q E s :=
 Calls.Name_function_global I.ok.kind hg (Calls.loadGlobal_global (by rw[I.ok.glob];exact I.mod.glob.keeps I.bk) hm h) hd
theorem oq {E:Value->Shared->Prop} {pins:List (Addr×Obj)} {s:Shared} {σ:St} {H:Hp} {x:Str} {u:Value} {pos:Pos} {Q:Value->Shared->Prop} (I:Inv X pins σ H s) (hg:Gl X x) (hm:X.mg x=none) (hv:bootBuiltins x=some u) (h:Q u s)
  (hn:x≠"__name__":=by decide) (hd:(x == ("__debug__":Str))=false:=by decide):wpAny (model X.prog X.w) X.A (eval (.Name x pos) X.env) Q E s:=by
 obtain ⟨mb,h1,h2⟩:=I.mod.blt;exact Calls.Name_function_global I.ok.kind hg (Calls.loadGlobal_builtin (by rw[I.ok.glob];exact I.mod.glob.keeps I.bk) hm (by rw[I.ok.blt];exact h1.keeps I.bk) ((h2 x hn).trans hv) h) hd
theorem By {x:Str} {v:V} {u:Value} {pos:Pos} (hg:Gl X x) (hm:X.mg x=some u) (r:RelV v u) (hd:(x == ("__debug__":Str))=false:=by decide):PE X (.Name x pos) (tC v) :=
 λ_ _ _ H _ I h=>BU I hg hm ⟨v,H,I,r,h⟩ hd
theorem FG {x:Str} {v:V} {u:Value} {pos:Pos} (hg:Gl X x) (hm:X.mg x=none) (hv:bootBuiltins x=some u) (r:RelV v u) (hn:x≠"__name__":=by decide) (hd:(x == ("__debug__":Str))=false:=by decide):PE X (.Name x pos) (tC v) :=
 λ_ _ _ H _ I h=>oq I hg hm hv ⟨v,H,I,r,h⟩ hn hd
variable {a b:Expr} {ta tb:TE} {pos:Pos}
def tB (t:TE):TT:=λσ H Q=>t σ H λx H1=>∃c,x=.bl c/\Q c H1
theorem lU {e:Expr} {t:TE} (h:PE X e t) (he:∀whole,isTrue e X.env whole=(do let v <- whole;standAt e.pos;holding [v] (truthy v)):=by intro _;rfl):PT X e (tB t):=by
 intro pins s σ H Q I hw;refine isTrue_plain (gN (h pins s σ H _ I hw) λv s1 ⟨x,H1,I1,r1,q1⟩=>?_) (he _);obtain ⟨d,rfl,q⟩:=q1;cases r1;exact wpAny_truthy_bool ⟨H1,I1,q⟩
variable {tA tB':TT} {rest:List Expr}
def OQ (t u:TT):TT:=λσ H Q=>t σ H λc H1=>if c=true then u σ H1 Q else Q false H1
def tOr (t u:TT):TT:=λσ H Q=>t σ H λc H1=>if c=true then Q true H1 else u σ H1 Q
def OL (t:TT):TT:=λσ H Q=>t σ H λc H1=>Q (!c) H1
theorem kU (ha:PT X a tA):PW X (.BoolOp .And [a] pos) tA:=by
 intro wh pins s σ H Q I h;refine isTrue_and (gN (ha pins s σ H Q I h) λc s1 e=>?_);cases c with
 | true=>exact isTrue_and_nil e
 | false=>exact e
theorem lR (ha:PT X a tA):PW X (.BoolOp .Or [a] pos) tA:=by
 intro wh pins s σ H Q I h;refine isTrue_or (gN (ha pins s σ H Q I h) λc s1 e=>?_);cases c with
 | false=>exact isTrue_or_nil e
 | true=>exact e
theorem jU (ha:PT X a tA) (hb:PW X (.BoolOp .And (b :: rest) pos) tB'):PW X (.BoolOp .And (a :: b :: rest) pos) (OQ tA tB'):=by
 intro wh pins s σ H Q I h;refine isTrue_and (gN (ha pins s σ H _ I h) λc s1 ⟨H1,I1,q1⟩=>?_);cases c with
 | true=>exact hb wh pins s1 σ H1 Q I1 q1
 | false=>exact ⟨H1,I1,q1⟩
theorem rg (ha:PT X a tA) (hb:PW X (.BoolOp .Or (b :: rest) pos) tB'):PW X (.BoolOp .Or (a :: b :: rest) pos) (tOr tA tB'):=by
 intro wh pins s σ H Q I h;refine isTrue_or (gN (ha pins s σ H _ I h) λc s1 ⟨H1,I1,q1⟩=>?_);cases c with
 | true=>exact ⟨H1,I1,q1⟩
 | false=>exact hb wh pins s1 σ H1 Q I1 q1
theorem nV (ha:PT X a tA):PT X (.UnaryOp .Not a pos) (OL tA):=by
 intro pins s σ H Q I h;exact isTrue_not (ha pins s σ H (λc H1=>Q (!c) H1) I h)
def LK (ta tb:TE):TE:=λσ H Q=>ta σ H λx H1=>∃c,x=.bl c/\if c=true then tb σ H1 Q else Q (.bl false) H1
def LD (ta:TE):TE:=λσ H Q=>ta σ H λx H1=>∃c,x=.bl c/\Q (.bl (!c)) H1
theorem Ey (h:PE X a t):PE X (.BoolOp op [a] pos) t:=λpins s σ H Q I hw=>BoolOp_one (h pins s σ H Q I hw)
theorem EA (ha:PE X a ta) (hb:PE X (.BoolOp .And (b :: rest) pos) tb):PE X (.BoolOp .And (a :: b :: rest) pos) (LK ta tb):=by
 intro pins s σ H Q I h;refine BoolOp_and (gN (ha pins s σ H _ I h) λv s1 ⟨x,H1,I1,r1,q1⟩=>?_);obtain ⟨c,rfl,q1⟩:=q1;cases r1;refine wpAny_truthy_bool ?_;cases c with
 | true=>exact hb pins s1 σ H1 Q I1 q1
 | false=>exact ⟨.bl false,H1,I1,rfl,q1⟩
theorem Nr (ha:PE X a ta):PE X (.UnaryOp .Not a pos) (LD ta):=by
 intro pins s σ H Q I h;refine UnaryOp_ (gN (ha pins s σ H _ I h) λv s1 ⟨x,H1,I1,r1,q1⟩=>?_);obtain ⟨c,rfl,q1⟩:=q1;cases r1;exact not_of (wpAny_truthy_bool ⟨.bl (!c),H1,I1,rfl,q1⟩)
def tIf (t:TT) (ta tb:TE):TE:=λσ H Q=>t σ H λc H1=>if c=true then ta σ H1 Q else tb σ H1 Q
theorem IW (hc:PT X c tA) (ha:PE X a ta) (hb:PE X b tb):PE X (.IfExp c a b pos) (tIf tA ta tb):=by
 intro pins s σ H Q I h;refine wpAny_IfExp (gN (hc pins s σ H _ I h) λd s1 ⟨H1,I1,q1⟩=>?_);cases d with
 | true=>exact ha pins s1 σ H1 Q I1 q1
 | false=>exact hb pins s1 σ H1 Q I1 q1
end
def bP (K:FG9) (H:Hp) (a:Addr) (xs:List V):Prop :=
 Rd H a (.lst xs) \/
  ∃(o:Obj) (its:Array Value) (n:Nat),K.lookup a=some o/\o.cls=.type "list"/\o.dict=none/\o.data=.seq its n/\its.size<=sizeLine/\cR xs its.toList
def qG (K:FG9) (H:Hp) (a:Addr) (xs:List V):Prop :=
 Rd H a (.tup xs) \/
  ∃(o:Obj) (its:Array Value) (n:Nat),K.lookup a=some o/\o.cls=.type "tuple"/\o.data=.seq its n/\its.size<=sizeLine/\cR xs its.toList
def Qy:Value->Option V
 | .none=>some .non
 | .bool b=>some (.bl b)
 | .int i _=>some (.int i)
 | .str x _=>some (.str x)
 | .bytes b _=>some (.byt b)
 | .float b _=>some (.flt b)
 | .ref a=>some (.ref a)
 | .type n=>some (.ty n)
 | _=>none
theorem RelV.abs (r:RelV x u):Qy u=some x:=by
 cases x with
 | non=>cases r;rfl
 | bl _=>cases r;rfl
 | int _=>obtain ⟨t,rfl⟩:=r;rfl
 | str _=>obtain ⟨t,rfl⟩:=r;rfl
 | byt _=>obtain ⟨t,rfl⟩:=r;rfl
 | flt _=>obtain ⟨t,rfl⟩:=r;rfl
 | ref _=>cases r;rfl
 | ty _=>cases r;rfl
theorem RelV.inj (r:RelV x u) (q:RelV y u):x=y:=b7 (r.abs.symm.trans q.abs)
theorem cR.inj:∀{xs ys:List V} {us:List Value},cR xs us->cR ys us->xs=ys
 | _,_,_,.nil,.nil=>rfl
 | _,_,_,.cons r t,.cons r' t'=>by rw[r.inj r',cR.inj t t']
section
variable {X:Cx} {pins:List (Addr×Obj)} {σ:St} {H:Hp} {s:Shared} {a:Addr} {xs ys:List V}
theorem bP.of {K:FG9} (h:H a=some (.lst xs)):bP K H a xs:=.inl (.inl h)
theorem qG.of {K:FG9} (h:H a=some (.tup xs)):qG K H a xs:=.inl (.inl h)
theorem Inv.list (I:Inv X pins σ H s) (h:bP X.K H a xs):∃its:List Value,cR xs its/\PlainL s.heap a its.toArray/\xs.length<=sizeLine:=by
 rcases h with h | ⟨o,its,n,hk,hc,hd,hs,hz,r⟩
 ·obtain ⟨z,its,n,r,e⟩:=h.ok I.hok;exact ⟨its,r,⟨_,n,e,rfl,rfl,rfl⟩,z⟩
 ·refine ⟨its.toList,r,⟨o,n,I.kIn a o hk,hc,hd,by simpa using hs⟩,?_⟩;have e:=r.length;simp only[Array.length_toList] at e
  lia
theorem Inv.tuple (I:Inv X pins σ H s) (h:qG X.K H a xs):∃its:List Value,cR xs its/\IsTup s.heap a its.toArray/\xs.length<=sizeLine:=by
 rcases h with h | ⟨o,its,n,hk,hc,hs,hz,r⟩
 ·obtain ⟨z,its,r,p⟩:=h.ok I.hok;exact ⟨its,r,p,z⟩
 ·refine ⟨its.toList,r,⟨o,I.kIn a o hk,hc,n,by simpa using hs⟩,?_⟩;have e:=r.length;simp only[Array.length_toList] at e
  lia
theorem Inv.list_inj (I:Inv X pins σ H s) (h:bP X.K H a xs) (h':bP X.K H a ys):xs=ys:=by
 obtain ⟨its,r,⟨o,n,e,_,_,d⟩,_⟩:=I.list h;obtain ⟨its',r',⟨o',n',e',_,_,d'⟩,_⟩:=I.list h';rw[e] at e';cases e';rw[d] at d';injection d' with d1 _
 have:its=its':=by simpa using congrArg Array.toList d1
 subst this;exact r.inj r'
theorem Inv.tuple_inj (I:Inv X pins σ H s) (h:qG X.K H a xs) (h':qG X.K H a ys):xs=ys:=by
 obtain ⟨its,r,⟨o,e,_,n,d⟩,_⟩:=I.tuple h;obtain ⟨its',r',⟨o',e',_,n',d'⟩,_⟩:=I.tuple h';rw[e] at e';cases e';rw[d] at d';injection d' with d1 _
 have:its=its':=by simpa using congrArg Array.toList d1
 subst this;exact r.inj r'
end
abbrev Cx.wish (X:Cx) (E:Value->Shared->Prop):Cx:={ X with xe:=E }
abbrev Cx.nox (X:Cx):Cx:=X.wish λ_ _=>False
theorem Cx.Ok.wish {X:Cx} (ok:X.Ok) (E:Value->Shared->Prop):(X.wish E).Ok :=
 ⟨ok.mod,ok.kind,ok.glob,ok.blt,ok.above,ok.inj,ok.has,ok.cab,ok.hd,ok.frames,ok.stk,ok.exf,ok.bs,ok.bsz,ok.noex,ok.exfs,ok.funs,ok.frf⟩
theorem Cx.Ok.unwish {X:Cx} (ok:(X.wish E).Ok):X.Ok :=
 ⟨ok.mod,ok.kind,ok.glob,ok.blt,ok.above,ok.inj,ok.has,ok.cab,ok.hd,ok.frames,ok.stk,ok.exf,ok.bs,ok.bsz,ok.noex,ok.exfs,ok.funs,ok.frf⟩
section
variable {X:Cx} {pins:List (Addr×Obj)} {σ:St} {H:Hp} {s:Shared} {E:Value->Shared->Prop}
theorem Inv.wish (I:Inv X pins σ H s) (E:Value->Shared->Prop):Inv (X.wish E) pins σ H s:=⟨I.ok.wish E,I.os,I.bare,I.base,I.loc,I.cell,I.free,I.freeC,I.pin,I.hok,I.len⟩
theorem Inv.unwish (I:Inv (X.wish E) pins σ H s):Inv X pins σ H s:=⟨I.ok.unwish,I.os,I.bare,I.base,I.loc,I.cell,I.free,I.freeC,I.pin,I.hok,I.len⟩
theorem SP.unwish (h:SP (X.wish E) pins D f s'):SP X pins D f s':=by
 cases f with
 | next=>obtain ⟨σ',H',I,q⟩:=h;exact ⟨σ',H',I.unwish,q⟩
 | brk=>obtain ⟨σ',H',I,q⟩:=h;exact ⟨σ',H',I.unwish,q⟩
 | cont=>obtain ⟨σ',H',I,q⟩:=h;exact ⟨σ',H',I.unwish,q⟩
 | ret u=>obtain ⟨v,σ',H',I,r,q⟩:=h;exact ⟨v,σ',H',I.unwish,r,q⟩
theorem E7.nox {st:List Stmt} (h:E7 X.nox st t):E7 X st t:=λpins s σ H D I hw =>
 wpAny_mono (h pins s σ H D (I.wish _) hw) (λ_ _ q=>q.unwish) λ_ _ z=>False.elim z
end
section
variable {X:Cx} {st:Stmt} {rest:List Stmt} {t u:TS} {e:Expr} {te:TE} {pos:Pos}
def LF:TS:=λD σ H=>D.nx σ H
def OH (t u:TS):TS:=λD σ H=>t { D with nx:=u D } σ H
theorem bX:E7 X [] LF:=λ_ _ σ H _ I h=>wpAny_execs_nil ⟨σ,H,I,h⟩
theorem ar (h1:PS X st t) (h2:E7 X rest u):E7 X (st :: rest) (OH t u):=by
 intro pins s σ H D I h;refine wpAny_execs_cons (gN (h1 pins s σ H { D with nx:=u D } I h) λf s1 q=>?_);cases f with
 | next =>
  obtain ⟨σ',H',I',q⟩:=q;exact h2 pins s1 σ' H' D I' q
 | ret v=>exact q
 | brk=>exact q
 | cont=>exact q
theorem az (h1:PS X st t):E7 X [st] t:=by
 intro pins s σ H D I h;refine wpAny_execs_cons (gN (h1 pins s σ H D I h) λf s1 q=>?_);cases f with
 | next=>exact wpAny_execs_nil q
 | ret v=>exact q
 | brk=>exact q
 | cont=>exact q
theorem Inv.quiet {σ:St} (I:Inv X pins σ H s):interactive X.env=false:=by simp [interactive,I.ok.kind]
def LI (te:TE):TS:=λD σ H=>te σ H λ_ H1=>D.nx σ H1
theorem fX (he:PE X e te) (hs:swapsWith e none pos.line X.env=pure false:=by rfl):PS X (.Expr e pos) (LI te):=by
 intro pins s σ H D I h;exact wpAny_Expr_any (gN (he pins s σ H _ I h) λv s1 ⟨x,H1,I1,r1,q1⟩=>⟨σ,H1,I1,q1⟩) I.quiet hs
def OI (te:TE):TS:=λD σ H=>te σ H D.rt
theorem bc (he:PE X e te):PS X (.Return (some e) pos) (OI te):=by
 intro pins s σ H D I h;exact wpAny_Return_some (gN (he pins s σ H _ I h) λv s1 ⟨x,H1,I1,r1,q1⟩=>⟨x,σ,H1,I1,r1,q1⟩)
def ON (c:TT) (t u:TS):TS:=λD σ H=>c σ H λb H1=>if b=true then t D σ H1 else u D σ H1
theorem dC (hc:PT X c tc) (ha:E7 X a t) (hb:E7 X b u):PS X (.If c a b pos) (ON tc t u):=by
 intro pins s σ H D I h;refine wpAny_If (gN (hc pins s σ H _ I h) λd s1 ⟨H1,I1,q1⟩=>?_);cases d with
 | true=>exact ha pins s1 σ H1 D I1 q1
 | false=>exact hb pins s1 σ H1 D I1 q1
end
abbrev TG:=V->St->Hp->(St->Hp->Prop)->Prop
abbrev JV:=List V->St->Hp->(St->Hp->Prop)->Prop
def PG (X:Cx) (target:Expr) (t:TG):Prop :=
 ∀(pins:List (Addr×Obj)) (s:Shared) (σ:St) (H:Hp) (v:V) (u:Value) (Q:St->Hp->Prop),Inv X pins σ H s->RelV v u->t v σ H Q →
  wpAny (model X.prog X.w) X.A (assign target X.env u) (λ_ s'=>∃σ' H',Inv X pins σ' H' s'/\Q σ' H') X.xe s
def PM (X:Cx) (ts:List Expr) (t:JV):Prop :=
 ∀(pins:List (Addr×Obj)) (s:Shared) (σ:St) (H:Hp) (vs:List V) (us:List Value) (Q:St->Hp->Prop),Inv X pins σ H s->cR vs us->t vs σ H Q →
  wpAny (model X.prog X.w) X.A (assignInOrder ((assignEach ts X.env).map (·.2)) us) (λ_ s'=>∃σ' H',Inv X pins σ' H' s'/\Q σ' H') X.xe s
abbrev E4:=V->V->V->Hp->(Hp->Prop)->Prop
def Oh (X:Cx) (t:E4):Prop :=
 ∀(pins:List (Addr×Obj)) (s:Shared) (σ:St) (H:Hp) (o i v:V) (ov iv u:Value) (Q:Hp->Prop),Inv X pins σ H s->RelV o ov->RelV i iv->RelV v u->t o i v H Q →
  wpAny (model X.prog X.w) X.A (setItem ov iv u) (λ_ s'=>∃H',Inv X pins σ H' s'/\Q H') X.xe s
abbrev PK:=V->V->Hp->VK->Prop
def PIp (X:Cx) (op:Operator) (t:PK):Prop :=
 ∀(pins:List (Addr×Obj)) (s:Shared) (σ:St) (H:Hp) (x y:V) (v u:Value) (Q:VK),Inv X pins σ H s->RelV x v->RelV y u->t x y H Q →
  wpAny (model X.prog X.w) X.A (inplaceOp op v u) (EP X pins σ Q) X.xe s
section
variable {X:Cx} {pos:Pos}
def FT (i:Nat):TG:=λv σ H Q=>Q (σ.set i (some v)) H
theorem aO {i:Nat} {x:Str} (hN:X.N.Nodup) (hi:X.N[i]?=some x:=by exact rfl) (hx:Loc X.env.scope x:=by exact Or.inl rfl) (hf:X.fn x=true\/X.env.scope.names.lookup x=some .local:=by first | exact .inl rfl | exact .inr rfl | assumption):PG X (.Name x pos) (FT i):=by
 intro pins s σ H v u Q I r h;exact wpAny_assign_Name (uA I hN hi hx r (λs' I'=>⟨_,H,I',h⟩) hf)
def Pu:JV:=λvs σ H Q=>vs=[]/\Q σ H
def LZ (t:TG) (u:JV):JV:=λvs σ H Q=>∃v r,vs=v :: r/\t v σ H λσ' H'=>u r σ' H' Q
theorem kf:PM X [] Pu:=by
 intro pins s σ H vs us Q I r h;obtain ⟨e,h⟩:=h;subst e;cases r;exact assignInOrder_nil ⟨σ,H,I,h⟩
theorem cV {e:Expr} {es:List Expr} {t:TG} {u:JV} (h1:PG X e t) (h2:PM X es u)
  (hs:(assignEach (e :: es) X.env).map (·.2)=assign e X.env :: (assignEach es X.env).map (·.2):=by rfl):PM X (e :: es) (LZ t u):=by
 intro pins s σ H vs us Q I r h;obtain ⟨v,vr,e1,h⟩:=h;subst e1;cases r with
 | cons r rr =>
  rw[hs];refine assignInOrder_cons (gN (h1 pins s σ H _ _ _ I r h) λ_ s1 ⟨σ1,H1,I1,q1⟩=>?_);exact h2 pins s1 σ1 H1 _ _ Q I1 rr q1
def NR (K:FG9) (n:Nat) (t:JV):TG:=λv σ H Q=>∃a xs,v=.ref a/\qG K H a xs/\xs.length=n/\t xs σ H Q
theorem wg {es:List Expr} {k:Nat} {t:JV} {n:Nat} (hc:X.calm=true) (h:PM X es t)
  (hn:(assignEach es X.env).length=n:=by rfl) (hst:(assignEach es X.env).findIdx? (·.1)=none:=by rfl):PG X (.Tuple es k pos) (NR X.K n t):=by
 intro pins s σ H v u Q I r hw;obtain ⟨a,xs,e1,hq,hl,hw⟩:=hw;subst e1;cases r;obtain ⟨its,rv,ht,hz⟩:=I.tuple hq;refine assign_Tuple_tuple (I.ok.hd hc) ht (by simp [hn,<- hl,rv.length]) hst λh' hx=>?_
 have I1:Inv X pins σ H { s with heap:=h' }:=I.kept (t':=s.toks) λb o e=>hx b o (cE (Heap.lt_size e)) e
 exact h pins _ σ H xs _ Q I1 (by simpa using rv) hw
def Pt (to ti:TE) (t:E4):TG:=λv σ H Q=>to σ H λo H1=>ti σ H1 λi H2=>t o i v H2 λH3=>Q σ H3
theorem iZ {o i : Expr} {to ti : TE} {t : E4} (ho : PE X o to) (hi : PE X i ti) (hs : Oh X t)
    (ha : ∀ v, assign (.Subscript o i pos) X.env v = (do
      let ov <- holding [v] (eval o X.env)
      let iv <- holding [v, ov] (eval i X.env)
      standAt pos
      holding [v, ov, iv] (setItem ov iv v)
      release [v, ov, iv] []) := by intro _; rfl) : PG X (.Subscript o i pos) (Pt to ti t) := by
  intro pins s σ H v u Q I r h;rw [ha];refine wpAny_bind (wpAny_holding (gN (ho pins s σ H _ I h) λov s1 ⟨x, H1, I1, r1, q1⟩ => ?_));refine wpAny_bind (wpAny_holding (gN (hi pins s1 σ H1 _ I1 q1) λiv s2 ⟨y, H2, I2, r2, q2⟩ => ?_));refine wpAny_bind (wpAny_standAt (wpAny_bind (wpAny_holding (gN (hs pins s2 σ H2 x y v ov iv u _ I2 r1 r2 r q2) λ_ s3 ⟨H3, I3, q3⟩ => ?_))));exact wpAny_release ⟨σ, H3, I3, q3⟩
def J9 (te:TE) (g:TG):TS:=λD σ H=>te σ H λx H1=>g x σ H1 D.nx
theorem gO {tg e:Expr} {te:TE} {g:TG} (he:PE X e te) (hg:PG X tg g) (hs:swapsWithSole [tg] e pos.line X.env=pure false:=by rfl) (hw:swappedStores [tg] e X.env=pure none:=by rfl)
  (h1:(assignEach [tg] X.env).map (·.2)=[assign tg X.env]:=by rfl):PS X (.Assign [tg] e pos) (J9 te g):=by
 intro pins s σ H D I h;refine wpAny_Assign_stores (gN (he pins s σ H _ I h) λv s1 ⟨x,H1,I1,r1,q1⟩=>?_) hs hw;rw[h1];exact gN (hg pins s1 σ H1 x v _ I1 r1 q1) λ_ s2 q=>q
theorem aV {i:Nat} {x:Str} {e:Expr} {te:TE} {pos':Pos} (hN:X.N.Nodup) (hi:X.N[i]?=some x) (hx:Loc X.env.scope x) (he:PE X e te) (hs:swapsWith e (some (.Name x pos')) pos.line X.env=pure false:=by rfl) (hf:X.fn x=true\/X.env.scope.names.lookup x=some .local:=by first | exact .inl rfl | exact .inr rfl | assumption) :
  PS X (.Assign [.Name x pos'] e pos) (J9 te (FT i)):=by
 intro pins s σ H D I h;refine wpAny_Assign_Name (gN (he pins s σ H _ I h) λv s1 ⟨y,H1,I1,r1,q1⟩=>?_) hs;exact uA I1 hN hi hx r1 (λs2 I2=>⟨_,H1,I2,q1⟩) hf
def OJ (i j:Nat) (ta:TA):TS:=λD σ H=>ta σ H λvs H1=>∃v w,vs=[v,w]/\D.nx ((σ.set i (some v)).set j (some w)) H1
theorem IP {i j:Nat} {x y:Str} {a b:Expr} {ta:TA} {px py pt:Pos} {kt k2 pt2} (hc:X.calm=true) (hN:X.N.Nodup) (hi:X.N[i]?=some x) (hj:X.N[j]?=some y) (hij:i≠j)
  (hx:X.env.scope.names.lookup x=some .local) (hy:X.env.scope.names.lookup y=some .local) (ha:PA X [a,b] ta)
  (hw:swappedStores [.Tuple [.Name x px,.Name y py] kt pt] (.Tuple [a,b] k2 pt2) X.env=pure (some [x,y]))
  (hs:swapsWithSole [.Tuple [.Name x px,.Name y py] kt pt] (.Tuple [a,b] k2 pt2) pos.line X.env=pure false:=by rfl) :
  PS X (.Assign [.Tuple [.Name x px,.Name y py] kt pt] (.Tuple [a,b] k2 pt2) pos) (OJ i j ta):=by
 intro pins s σ H D I h;rw[exec_Assign_arm];refine wpAny_bind (wpAny_standAt ?_);rw[hs];refine wpAny_bind (wpAny_pure ?_);rw[if_neg (by decide)];refine wpAny_bind (Tuple_ (gN (ha _ pins s σ H _ I h) λus s1 ⟨vs,H1,I1,r1,q1⟩=>?_));obtain ⟨v,w,e1,q1⟩:=q1;subst e1
 obtain ⟨u1,u2,rfl,rv,rw'⟩:∃u1 u2,us=[u1,u2]/\RelV v u1/\RelV w u2:=by
  cases r1 with
  | cons p q =>
   cases q with
   | cons p' q' =>
    cases q';exact ⟨_,_,rfl,p,p'⟩
 refine wpAny_newObj_type ?_ (by show 2<=sizeLine;decide);have I2:Inv X pins σ H1 { s1 with heap:=s1.heap.push { cls:=.type "tuple",data:=.seq [u1,u2].toArray } }:=I1.kept (t':=s1.toks) λb o e=>Heap.get?_push_of_some _ e
 rw[hw];refine wpAny_bind (wpAny_pure ?_);show wpAny (model X.prog X.w) X.A (do rule "assign.swapped-stores";let items <- unpackItems (.ref s1.heap.objs.size) 2 none;assignInOrder [λv=>bindName X.env y v,λv=>bindName X.env x v] items.reverse;pure Flow.next) _ _ _
 refine wpAny_bind (wpAny_rule (wpAny_bind (unpackItems_tuple (items:=#[u1,u2]) (I.ok.hd hc) (IsTup.new s1.heap _) λh' hx'=>?_)));have I3:=I2.kept (h':=h') (t':=s1.toks) λb o e=>hx' b o (cE (Heap.lt_size e)) e
 show wpAny _ _ (assignInOrder [λv=>bindName X.env y v,λv=>bindName X.env x v] [u2,u1] >>= λ_=>pure Flow.next) _ _ _
 refine wpAny_bind (assignInOrder_cons (wpAny_bindName (uA I3 hN hj (.inl hy) rw' (λs2 I4=>?_) (.inr hy))));refine assignInOrder_cons (wpAny_bindName (uA I4 hN hi (.inl hx) rv (λs3 I5=>assignInOrder_nil (wpAny_pure ?_)) (.inr hx)));rw[List.set_comm _ _ (Ne.symm hij)] at I5;exact ⟨_,H1,I5,q1⟩
def LJ (to ti te:TE) (tget:V->V->Hp->VK->Prop) (tip:PK) (tset:E4):TS:=λD σ H=>to σ H λo H1=>ti σ H1 λi H2=>tget o i H2 λx H3=>te σ H3 λy H4=>tip x y H4 λz H5=>tset o i z H5 λH6=>D.nx σ H6
def PN (X:Cx) (t:V->V->Hp->VK->Prop):Prop :=
 ∀(pins:List (Addr×Obj)) (s:Shared) (σ:St) (H:Hp) (o i:V) (ov iv:Value) (Q:VK),Inv X pins σ H s->RelV o ov->RelV i iv->t o i H Q →
  wpAny (model X.prog X.w) X.A (getItem ov iv) (EP X pins σ Q) X.xe s
theorem KL {o i e:Expr} {to ti te:TE} {tget:V->V->Hp->VK->Prop} {tip:PK} {tset:E4} {op:Operator} {tpos:Pos} (ho:PE X o to) (hi:PE X i ti) (hg:PN X tget) (he:PE X e te) (hp:PIp X op tip) (hs:Oh X tset)
  (ha:∀ov iv new,augStore i ov iv new=(do holding [new,ov,iv] (setItem ov iv new);release [new,ov,iv] [];pure .next):=by intros;rfl):PS X (.AugAssign (.Subscript o i tpos) op e pos) (LJ to ti te tget tip tset):=by
 intro pins s σ H D I h;refine wpAny_AugAssign_SubscriptAny (gN (ho pins s σ H _ I h) λov s1 ⟨x1,H1,I1,r1,q1⟩=>?_) ha;refine gN (hi pins s1 σ H1 _ I1 q1) λiv s2 ⟨x2,H2,I2,r2,q2⟩=>?_
 refine gN (hg pins s2 σ H2 x1 x2 ov iv _ I2 r1 r2 q2) λold s3 ⟨x3,H3,I3,r3,q3⟩=>?_
 refine gN (he pins s3 σ H3 _ I3 q3) λv s4 ⟨x4,H4,I4,r4,q4⟩=>?_
 refine gN (hp pins s4 σ H4 x3 x4 old v _ I4 r3 r4 q4) λnew s5 ⟨x5,H5,I5,r5,q5⟩=>?_
 exact gN (hs pins s5 σ H5 x1 x2 x5 ov iv new _ I5 r1 r2 r5 q5) λ_ s6 ⟨H6,I6,q6⟩=>⟨σ,H6,I6,q6⟩
def ipI (f:Int->Int->Int):PK:=λx y H Q=>∃i j,x=.int i/\y=.int j/\Q (.int (f i j)) H
theorem NL:PIp X .Add (ipI λi j=>i+j):=by
 intro pins s σ H x y v u Q I r1 r2 h;obtain ⟨i,j,e1,e2,q⟩:=h;subst e1;subst e2;obtain ⟨t,rfl⟩:=r1;obtain ⟨t',rfl⟩:=r2;exact iadd_int ⟨.int _,H,I.tok _,⟨_,rfl⟩,q⟩
end
section
variable {X:Cx} {pos:Pos}
def Ic (c:TT) (tb:TS):TS:=λD σ H=>∃W:Nat->St->Hp->Prop,(∃m,W m σ H)/\∀m σ H,W m σ H →
 c σ H λb H1=>if b=true then ∃N:St->Hp->Prop,(∀σ' H',N σ' H'->∃m',m' < m/\W m' σ' H')/\tb { D with nx:=N,ct:=N,bk:=D.nx } σ H1 else D.nx σ H1
theorem yB (hp:PassesOwn (model X.prog X.w) X.A X.env X.xe) (hc:PT X c tc) (hb:E7 X body tb):PS X (.While c body [] pos) (Ic tc tb):=by
 intro pins s σ H D I h;obtain ⟨W,⟨m0,w0⟩,turn⟩:=h;refine wpAny_While (codeAny_whileLoop (λn s'=>∃σ' H',Inv X pins σ' H' s'/\W n σ' H') ?_ m0 ⟨σ,H,I,w0⟩);rintro n s1 ⟨σ1,H1,I1,w1⟩;refine wpAny_passesOwn hp (gN (hc pins s1 σ1 H1 _ I1 (turn n σ1 H1 w1)) λb s2 ⟨H2,I2,q2⟩=>?_);cases b with
 | true =>
  obtain ⟨N,hN,q2⟩:=q2;rw[if_pos rfl];refine wpAny_passesOwn hp (gN (hb pins s2 σ1 H2 _ I2 q2) λf s3 q3=>?_);cases f with
  | next =>
   obtain ⟨σ3,H3,I3,n3⟩:=q3;obtain ⟨m',hm,w3⟩:=hN σ3 H3 n3;exact ⟨m',hm,σ3,H3,I3,w3⟩
  | cont =>
   obtain ⟨σ3,H3,I3,n3⟩:=q3;obtain ⟨m',hm,w3⟩:=hN σ3 H3 n3;exact ⟨m',hm,σ3,H3,I3,w3⟩
  | brk=>exact q3
  | ret v=>exact q3
 | false =>
  rw[if_neg bu];exact wpAny_execs_nil ⟨σ1,H2,I2,q2⟩
end
structure It where
 go:Nat->Hp->Prop
 yld:Nat->Hp->V->Hp->Prop
 stop:Nat->Hp->Prop
def kd (X:Cx) (pins:List (Addr×Obj)) (H:Hp) (b:Addr):Prop :=
 H b=none/\b≠X.env.locals/\b∉X.fs/\(b∈X.ex\/X.s₀.heap.objs.size<=b)/\(∀x c,X.env.cells.lookup x=some c->c≠b)/\∀p∈X.pn++pins,p.1≠b
theorem Inv.fpOk {σ:St} {b:Addr} (I:Inv X pins σ H s) (hb:s.heap.objs.size<=b) (hn:H' b=none):kd X pins H' b:=by
 refine ⟨hn,Gf (a9 I.lt hb),I.nofs hb,.inr (aj I.sz hb),λx c e z=>?_,λp hp z=>?_⟩
 ·obtain ⟨v,q⟩:=I.cell x c e;exact absurd (a9 q.lt (by rw[z];exact hb)) (fo _)
 ·exact absurd (a9 (Heap.lt_size (I.pin p hp).1) (by rw[z];exact hb)) (fo _)
structure Turn (P:Program) (w:World) (K:FG9) (tg:Expr) (J:It) (fp:List Addr) (it:Addr) (tn:Nat->Heap->Prop):Prop where
 mem:it∈fp
 obj:∀i h,tn i h->∀b∈fp,∃o,h.get? b=some o/\∀v,o.data≠.cell v
 keep:∀i h h',tn i h->(∀b∈fp,∀o,h.get? b=some o->h'.get? b=some o)->tn i h'
 item:∀(X:Cx),X.prog=P->X.w=w->X.K=K->X.calm=true->∀(i:Nat) (pins:List (Addr×Obj)) (s:Shared) (σ:St) (H:Hp) (E:Value->Shared->Prop),Inv X pins σ H s->(∀b∈fp,kd X pins H b)->tn i s.heap->J.go i H →
  wpAny (model P w) X.A (pyNext (.ref it)) (λr s1=>∃u,r=some u /\
   wpAny (model P w) X.A (letOwnedTupleGo tg (.ref it) u) (λ_ s2=>∃x H',Inv X pins σ H' s2/\RelV x u/\J.yld i H x H'/\tn (i+1) s2.heap/\∀b∈fp,H' b=none) E s1) E s
 done:∀(X:Cx),X.prog=P->X.w=w->X.K=K->X.calm=true->∀(i:Nat) (pins:List (Addr×Obj)) (s:Shared) (σ:St) (H:Hp) (E:Value->Shared->Prop),Inv X pins σ H s->(∀b∈fp,kd X pins H b)->tn i s.heap->J.stop i H →
  wpAny (model P w) X.A (pyNext (.ref it)) (λr s1=>r=none/\Inv X pins σ H s1) E s
 self:∀(A:Around) (i:Nat) (s:Shared) (Q:Value->Shared->Prop) (E:Value->Shared->Prop),tn i s.heap->Q (.ref it) s->wpAny (model P w) A (pyIter (.ref it)) Q E s
abbrev TI:=St->Hp->(It->Hp->Prop)->Prop
def PIE (X:Cx) (pins:List (Addr×Obj)) (σ:St) (tg:Expr) (R:It->Hp->Prop) (itv:Value) (s2:Shared):Prop :=
 ∃(it:Addr) (fp:List Addr) (tn:Nat->Heap->Prop) (J:It) (H':Hp),itv=.ref it/\Inv X pins σ H' s2/\Turn X.prog X.w X.K tg J fp it tn/\tn 0 s2.heap/\(∀b∈fp,kd X pins H' b)/\R J H'
def PI (X:Cx) (tg iter:Expr) (wi:TI):Prop :=
 ∀(pins:List (Addr×Obj)) (s:Shared) (σ:St) (H:Hp) (R:It->Hp->Prop),Inv X pins σ H s->wi σ H R →
  wpAny (model X.prog X.w) X.A (eval iter X.env) (λv s1=>wpAny (model X.prog X.w) X.A (pyIter v) (PIE X pins σ tg R) X.xe s1) X.xe s
theorem Jn (ho:s.heap.get? it=some o) (hc:o.cls=.type n) (hd:o.data=.fields vs)
  (hn:["enumerate","zip","dict_itemiterator","dict_reverseitemiterator","odict_iterator","itertools.zip_longest","itertools.pairwise"].contains n=false) (hQ:Q () s):wpAny M A (letOwnedTupleGo tg (.ref it) u) Q E s:=by
 unfold letOwnedTupleGo
 cases tg <;> first
  | exact wpAny_pure hQ
  | (cases u <;> first | exact wpAny_pure hQ | (refine wpAny_bind (wpAny_load ho ?_);rw[hc,hd];show wpAny M A (if (["enumerate","zip","dict_itemiterator","dict_reverseitemiterator","odict_iterator","itertools.zip_longest","itertools.pairwise"].contains n && vs[0]? == some (rawInt _))=true then _ else _) Q E s;rw[if_neg (by intro h;rw[hn,Bool.false_and] at h;cases h)];exact wpAny_pure hQ))
def JY (K:FG9) (a:Addr):It :=
 ⟨λi H=>∃xs x,bP K H a xs/\xs[i]?=some x,λi H x H'=>H'=H/\∀xs,bP K H a xs->xs[i]?=some x,λi H=>∃xs,bP K H a xs/\xs.length<=i⟩
def Ow (K:FG9) (a:Addr):It :=
 ⟨λi H=>∃xs x,qG K H a xs/\xs[i]?=some x,λi H x H'=>H'=H/\∀xs,qG K H a xs->xs[i]?=some x,λi H=>∃xs,qG K H a xs/\xs.length<=i⟩
def Ge (lo:Int) (n:Nat):It:=⟨λi _=>i < n,λi H x H'=>H'=H/\x=.int (lo+i),λi _=>n<=i⟩
theorem Gk {P:Program} {w:World} {K:FG9} {tg:Expr} (a it:Addr):Turn P w K tg (JY K a) [it] it (λi h=>h.IsListIter it a i) where
 mem:=by simp
 obj:=λi h st b hb=>by
  have e:b=it:=by simpa using hb
  subst e;obtain ⟨o,e,c,d⟩:=st;exact ⟨o,e,λv z=>by rw[d] at z;cases z⟩
 keep:=λi h h' st k=>st.at λo e=>k it (by simp) o e
 item:=by
  intro X hP hw hK hc i pins s σ H E I hf st hg;subst hP hw hK;obtain ⟨xs,x,hq,hx⟩:=hg;obtain ⟨its,rv,p,hz⟩:=I.list hq;obtain ⟨u,hu,ru⟩:=rv.get hx;obtain ⟨f0,f1,f2,f3,f4,f5⟩:=hf it (by simp);refine wpAny_pyNext_list_item st p.isList (x:=u) (by simpa using hu) λh' st' sb=>?_
  have I1:Inv X pins σ H { s with heap:=h' }:=I.turned (t':=s.toks) (λb o hb e=>(sb.2 b hb).trans e) f0 f1 f3 f4 f5;obtain ⟨o,e,c,d⟩:=id st';exact ⟨u,rfl,Jn (s:={ s with heap:=h' }) e c d (by decide) ⟨x,H,I1,ru,⟨rfl,λys hy=>by rw[I.list_inj hy hq];exact hx⟩,st',λb hb=>(hf b hb).1⟩⟩
 done:=by
  intro X hP hw hK hc i pins s σ H E I hf st hg;subst hP hw hK;obtain ⟨xs,hq,hx⟩:=hg;obtain ⟨its,rv,p,hz⟩:=I.list hq;obtain ⟨f0,f1,f2,f3,f4,f5⟩:=hf it (by simp);have hl:=rv.length;exact wpAny_pyNext_list_end (I.ok.hd hc) st p.isList (by simp;lia) λh' eb=>⟨rfl,I.turned (t':=s.toks) (λb o hb e=>eb b o hb e) f0 f1 f3 f4 f5⟩
 self:=λ_ _ _ _ _ st h=>wpAny_pyIter_listiter st h
theorem Eg {P:Program} {w:World} {K:FG9} {tg:Expr} (a it:Addr):Turn P w K tg (Ow K a) [it] it (λi h=>h.IsTupleIter it a i) where
 mem:=by simp
 obj:=λi h st b hb=>by
  have e:b=it:=by simpa using hb
  subst e;obtain ⟨o,e,c,d⟩:=st;exact ⟨o,e,λv z=>by rw[d] at z;cases z⟩
 keep:=λi h h' st k=>st.at λo e=>k it (by simp) o e
 item:=by
  intro X hP hw hK hc i pins s σ H E I hf st hg;subst hP hw hK;obtain ⟨xs,x,hq,hx⟩:=hg;obtain ⟨its,rv,p,hz⟩:=I.tuple hq;obtain ⟨u,hu,ru⟩:=rv.get hx;obtain ⟨f0,f1,f2,f3,f4,f5⟩:=hf it (by simp);refine wpAny_pyNext_tuple_item st (show s.heap.IsTuple a its.toArray from p) (x:=u) (by simpa using hu) λh' st' sb=>?_
  have I1:Inv X pins σ H { s with heap:=h' }:=I.turned (t':=s.toks) (λb o hb e=>(sb.2 b hb).trans e) f0 f1 f3 f4 f5;obtain ⟨o,e,c,d⟩:=id st';exact ⟨u,rfl,Jn (s:={ s with heap:=h' }) e c d (by decide) ⟨x,H,I1,ru,⟨rfl,λys hy=>by rw[I.tuple_inj hy hq];exact hx⟩,st',λb hb=>(hf b hb).1⟩⟩
 done:=by
  intro X hP hw hK hc i pins s σ H E I hf st hg;subst hP hw hK;obtain ⟨xs,hq,hx⟩:=hg;obtain ⟨its,rv,p,hz⟩:=I.tuple hq;obtain ⟨f0,f1,f2,f3,f4,f5⟩:=hf it (by simp);have hl:=rv.length;exact wpAny_pyNext_tuple_end (I.ok.hd hc) st (show s.heap.IsTuple a its.toArray from p) (by simp;lia) λh' eb=>⟨rfl,I.turned (t':=s.toks) (λb o hb e=>eb b o hb e) f0 f1 f3 f4 f5⟩
 self:=λ_ _ _ _ _ st h=>wpAny_pyIter_tupleiter st h
theorem Eh {P:Program} {w:World} {K:FG9} {tg:Expr} (it:Addr) (lo:Int) (n:Nat):Turn P w K tg (Ge lo n) [it] it (λi h=>IsRangeIter h it (lo+(i:Nat)*1) ((n:Int) - (i:Nat)) 1) where
 mem:=by simp
 obj:=λi h st b hb=>by
  have e:b=it:=by simpa using hb
  subst e
  exact ⟨_,st,λv z=>by
   have z':Data.fields _=Data.cell v:=z;cases z'⟩
 keep:=λi h h' st k=>k it (by simp) _ st
 item:=by
  intro X hP hw hK hc i pins s σ H E I hf st hg;subst hP hw hK;obtain ⟨f0,f1,f2,f3,f4,f5⟩:=hf it (by simp);have W:=Walks.range (prog:=X.prog) (w:=X.w) (I.ok.hd hc) it lo 1 n;refine W.item i s _ _ hg st λv h' tk hv st' kk=>?_
  obtain ⟨t,rfl⟩:=hv;have I1:Inv X pins σ H { s with heap:=h',toks:=tk }:=I.turned (λb o hb e=>kk b o (by simpa using hb) e) f0 f1 f3 f4 f5;refine ⟨_,rfl,Jn (s:={ s with heap:=h',toks:=tk }) (n:="range_iterator") st' rfl rfl (by decide) ⟨.int (lo+i),H,I1,⟨t,?_⟩,⟨rfl,rfl⟩,st',λb hb=>(hf b hb).1⟩⟩;rw[Int.mul_one]
 done:=by
  intro X hP hw hK hc i pins s σ H E I hf st hg;subst hP hw hK;obtain ⟨f0,f1,f2,f3,f4,f5⟩:=hf it (by simp);exact wpAny_pyNext_range_end (I.ok.hd hc) st (by have:n<=i:=hg;lia) λh' eb=>⟨rfl,I.turned (t':=s.toks) (λb o hb e=>eb b o hb e) f0 f1 f3 f4 f5⟩
 self:=λ_ _ _ _ _ st h=>wpAny_pyIter_rangeiter st h
section
variable {X:Cx} {tg:Expr}
def Ji (K:FG9) (tl:TE):TI:=λσ H R=>tl σ H λx H1=>∃a,x=.ref a/\(∃xs,bP K H1 a xs)/\R (JY K a) H1
def Pq (K:FG9) (tl:TE):TI:=λσ H R=>tl σ H λx H1=>∃a,x=.ref a/\(∃xs,qG K H1 a xs)/\R (Ow K a) H1
theorem cu (hl:PE X l tl):PI X tg l (Ji X.K tl):=by
 intro pins s σ H R I h;refine gN (hl pins s σ H _ I h) λv s1 ⟨x,H1,I1,r1,q1⟩=>?_
 obtain ⟨a,e,⟨xs,hq⟩,q⟩:=q1;subst e;cases r1;obtain ⟨its,rv,p,hz⟩:=I1.list hq;refine wpAny_pyIter_list p.isList ?_;refine ⟨s1.heap.objs.size,[s1.heap.objs.size],_,_,H1,rfl,I1.kept (t':=s1.toks) λb o e=>Heap.get?_push_of_some _ e,Gk a _,⟨_,Heap.get?_push_size _ rfl,rfl,rfl⟩,λb hb=>?_,q⟩;have e:b=s1.heap.objs.size:=by simpa using hb
 subst e;exact I1.fpOk (au _) (I1.hok.fresh (au _))
theorem Nn (hl:PE X l tl):PI X tg l (Pq X.K tl):=by
 intro pins s σ H R I h;refine gN (hl pins s σ H _ I h) λv s1 ⟨x,H1,I1,r1,q1⟩=>?_
 obtain ⟨a,e,⟨xs,hq⟩,q⟩:=q1;subst e;cases r1;obtain ⟨its,rv,p,hz⟩:=I1.tuple hq;refine wpAny_pyIter_tuple (show s1.heap.IsTuple a its.toArray from p) ?_;refine ⟨s1.heap.objs.size,[s1.heap.objs.size],_,_,H1,rfl,I1.kept (t':=s1.toks) λb o e=>Heap.get?_push_of_some _ e,Eg a _,⟨_,Heap.get?_push_size _ rfl,rfl,rfl⟩,λb hb=>?_,q⟩;have e:b=s1.heap.objs.size:=by simpa using hb
 subst e;exact I1.fpOk (au _) (I1.hok.fresh (au _))
theorem IL {σ:St} {lo hi:Int} (I:Inv X pins σ H s) (h1:-(2^62)<=lo) (h2:lo < 2^62) (h3:-(2^62)<=hi) (h4:hi < 2^62)
  (q:R (Ge lo (hi - lo).toNat) H):wpAny (model X.prog X.w) X.A (pyIter (.ref s.heap.objs.size)) (PIE X pins σ tg R) E { s with heap:=s.heap.push { cls:=.type "range",data:=.fields #[.int lo t,.int hi u,.int 1 v] },toks:=tk }:=by
 refine wpAny_pyIter_range (IsRange.new ..) (small_one h1 h2 h3 h4) ?_;have I1:Inv X pins σ H { s with heap:=s.heap.push { cls:=.type "range",data:=.fields #[.int lo t,.int hi u,.int 1 v] },toks:=tk }:=I.kept λb o e=>Heap.get?_push_of_some _ e
 refine ⟨(s.heap.push { cls:=.type "range",data:=.fields #[.int lo t,.int hi u,.int 1 v] }).objs.size,[(s.heap.push { cls:=.type "range",data:=.fields #[.int lo t,.int hi u,.int 1 v] }).objs.size],_,_,H,rfl,
  I1.kept (t':=tk) λb o e=>Heap.get?_push_of_some _ e,Eh _ lo (hi - lo).toNat,?_,λb hb=>?_,q⟩
 ·have e1:lo+((0:Nat):Int)*1=lo:=by simp
  have e2:(((hi - lo).toNat:Nat):Int) - ((0:Nat):Int)=Builtin.Range.rangeSize lo hi 1:=by rw[rangeSize_one];split <;> lia
  show IsRangeIter _ _ (lo+((0:Nat):Int)*1) ((((hi - lo).toNat:Nat):Int) - ((0:Nat):Int)) 1
  rw[e1,e2];exact Heap.get?_push_size _ rfl
 ·have e:b=(s.heap.push { cls:=.type "range",data:=.fields #[.int lo t,.int hi u,.int 1 v] }).objs.size:=by simpa using hb
  subst e;exact I1.fpOk (au _) (I1.hok.fresh (au _))
def LX (ta:TA):TI:=λσ H R=>ta σ H λvs H1=>∃j:Int,vs=[.int j]/\-(2^62)<=j/\j < 2^62/\R (Ge 0 j.toNat) H1
theorem cG {a:Expr} {ta:TA} {p pos:Pos} (hg:Gl X "range") (hm:X.mg "range"=none) (ha:PA X [a] ta) (hs:starEach [a] X.env=[(false,eval a X.env)]:=by rfl):PI X tg (.Call (.Name "range" p) [a] [] pos) (LX ta):=by
 intro pins s σ H R I h;refine Call_ (oq I hg hm boot_range (PyProof.Rows.callWith_type1 (gN (ha pos pins s σ H _ I h) λus s1 ⟨vs,H1,I1,r1,q1⟩=>?_) hs rfl));obtain ⟨j,e,q1,q2,q⟩:=q1;subst e;cases r1 with
 | cons r rr =>
  cases rr;obtain ⟨t,rfl⟩:=r;exact call_range_1 (IL I1 (by lia) (by lia) q1 q2 (by simpa using q))
def OO (wi:TI) (g:TG) (tb:TS):TS:=λD σ H=>wi σ H λJ H1=>∃W:Nat->Nat->St->Hp->Prop,(∃m,W 0 m σ H1)/\∀i m σ H,W i m σ H →
 (J.stop i H/\D.nx σ H)\/(J.go i H/\∃N:St->Hp->Prop,(∀σ' H',N σ' H'->∃m',m' < m/\W (i+1) m' σ' H')/\∀x H',J.yld i H x H'->g x σ H' λσ2 H2=>tb { D with nx:=N,ct:=N,bk:=D.nx } σ2 H2)
def yD (fp:List Addr) (h:Heap):List (Addr×Obj):=fp.filterMap λb=>(h.get? b).map λo=>(b,o)
theorem pS (hb:b∈fp) (e:h.get? b=some o):(b,o)∈yD fp h:=List.mem_filterMap.mpr ⟨b,hb,by rw[e];rfl⟩
theorem GK (hp:p∈yD fp h):p.1∈fp/\h.get? p.1=some p.2:=by
 obtain ⟨b,hb,e⟩:=List.mem_filterMap.mp hp;cases q:h.get? b with
 | none=>rw[q] at e;cases e
 | some o =>
  rw[q] at e;have e':(b,o)=p:=b7 e;subst e';exact ⟨hb,q⟩
theorem Inv.pinned {σ:St} (I:Inv X pins σ H s) (hf:∀b∈fp,kd X pins H b) (ho:∀b∈fp,∃o,s.heap.get? b=some o/\∀v,o.data≠.cell v):Inv X (pins++yD fp s.heap) σ H s :=
 I.pins_of λp hp=>(aw.mp hp).elim (λz=>I.pin p (bL _ z)) λz=>by
  obtain ⟨hb,e⟩:=GK z;obtain ⟨f0,f1,f2,_⟩:=hf p.1 hb;obtain ⟨o,e',d⟩:=ho p.1 hb;rw[e] at e';cases e';exact ⟨e,f0,f1,f2,d⟩
theorem Inv.unpinned {σ:St} (I:Inv X (pins++pl) σ H s):Inv X pins σ H s:=I.pins_of λp hp=>I.pin p (bL _ (jO _ hp))
theorem eI {iter:Expr} {body:List Stmt} {wi:TI} {g:TG} {tb:TS} {pos:Pos} (hp:PassesOwn (model X.prog X.w) X.A X.env X.xe) (hc:X.calm=true) (hi:PI X tg iter wi) (hg:PG X tg g) (hb:E7 X body tb)
  (hs:∀x,foldedSetIterable iter X.env x=pure x:=by intro _;rfl):PS X (.For tg iter body [] pos) (OO wi g tb):=by
 intro pins s σ H D I h;refine wpAny_For (gN (hi pins s σ H _ I h) λv s1 h1=>gN h1 λitv s2 h2=>?_) hs;obtain ⟨it,fp,tn,J,H2,e,I2,T,st2,f2,W,⟨m0,w0⟩,turn⟩:=h2;subst e;have stat:∀{H':Hp},(∀b∈fp,H' b=none)->∀b∈fp,kd X pins H' b:=λhn b hb=>⟨hn b hb,(f2 b hb).2⟩
 refine codeAny_forLoop_any (λn s'=>∃i σ' H',Inv X pins σ' H' s'/\tn i s'.heap/\(∀b∈fp,H' b=none)/\W i n σ' H') ?_ m0 ⟨0,σ,H2,I2,st2,λb hb=>(f2 b hb).1,w0⟩;rintro n s3 ⟨i,σ3,H3,I3,st3,fr3,w3⟩;rcases turn i n σ3 H3 w3 with ⟨stop,qn⟩ | ⟨go,N,hN,step⟩
 ·refine wpAny_passesOwn hp (gN (T.done X rfl rfl rfl hc i pins s3 σ3 H3 X.xe I3 (stat fr3) st3 stop) λr s4 ⟨hr,I4⟩=>?_);subst hr;exact wpAny_execs_nil ⟨σ3,H3,I4,qn⟩
 ·refine wpAny_passesOwn hp (gN (T.item X rfl rfl rfl hc i pins s3 σ3 H3 X.xe I3 (stat fr3) st3 go) λr s4 ⟨u,hr,h4⟩=>?_);subst hr;refine wpAny_passesOwn hp (gN h4 λ_ s5 ⟨x,H5,I5,r5,y5,st5,fr5⟩=>?_);have I5':=I5.pinned (stat fr5) (T.obj _ _ st5);refine wpAny_passesOwn hp (gN (hg _ s5 σ3 H5 x u _ I5' r5 (step x H5 y5)) λ_ s6 ⟨σ6,H6,I6,q6⟩=>?_);refine wpAny_passesOwn hp (gN (hb _ s6 σ6 H6 _ I6 q6) λf s7 q7=>?_)
  have again:∀{σ7:St} {H7:Hp},Inv X (pins++yD fp s5.heap) σ7 H7 s7->N σ7 H7->∃m,m < n/\∃i σ' H',Inv X pins σ' H' s7/\tn i s7.heap/\(∀b∈fp,H' b=none)/\W i m σ' H':=λ{σ7 H7} I7 n7=>by
   obtain ⟨m',hm,w7⟩:=hN σ7 H7 n7;refine ⟨m',hm,i+1,σ7,H7,I7.unpinned,T.keep _ _ _ st5 λb hb o e=>(I7.pin (b,o) (bL _ (bL _ (pS hb e)))).1,λb hb=>?_,w7⟩;obtain ⟨o,e,d⟩:=T.obj _ _ st5 b hb;exact (I7.pin (b,o) (bL _ (bL _ (pS hb e)))).2.1
  cases f with
  | next=>obtain ⟨σ7,H7,I7,n7⟩:=q7;exact again I7 n7
  | cont=>obtain ⟨σ7,H7,I7,n7⟩:=q7;exact again I7 n7
  | brk=>obtain ⟨σ7,H7,I7,q7⟩:=q7;exact ⟨σ7,H7,I7.unpinned,q7⟩
  | ret v=>obtain ⟨x7,σ7,H7,I7,r7,q7⟩:=q7;exact ⟨x7,σ7,H7,I7.unpinned,r7,q7⟩
end
theorem iR {K:FG9} {g:TG} {tb:TS} {D:Ends} (Pv:Nat->St->Hp->Prop) (h0:Pv 0 σ H) (hl:∀i σ H,i<=xs.length->Pv i σ H->bP K H a xs)
  (hs:∀i x σ H,xs[i]?=some x->Pv i σ H->g x σ H λσ2 H2=>tb { D with nx:=Pv (i+1),ct:=Pv (i+1),bk:=D.nx } σ2 H2) (hd:∀σ H,Pv xs.length σ H->D.nx σ H) :
  ∃W:Nat->Nat->St->Hp->Prop,(∃m,W 0 m σ H)/\∀i m σ H,W i m σ H →
   ((JY K a).stop i H/\D.nx σ H)\/((JY K a).go i H/\∃N:St->Hp->Prop,(∀σ' H',N σ' H'->∃m',m' < m/\W (i+1) m' σ' H')/\∀x H',(JY K a).yld i H x H'->g x σ H' λσ2 H2=>tb { D with nx:=N,ct:=N,bk:=D.nx } σ2 H2):=by
 refine ⟨λi m σ H=>m=xs.length - i/\i<=xs.length/\Pv i σ H,⟨xs.length,by simp,bW _,h0⟩,?_⟩;rintro i m σ H ⟨rfl,hi,p⟩;have q:=hl i σ H hi p;by_cases hlt:i < xs.length
 ·refine .inr ⟨⟨xs,xs[i],q,by simp [hlt]⟩,Pv (i+1),λσ' H' p'=>⟨xs.length - (i+1),by lia,rfl,hlt,p'⟩,λx H' y=>?_⟩;obtain ⟨e,y⟩:=y;subst e;exact hs i x σ _ (y xs q) p
 ·have e:i=xs.length:=by lia
  subst e;exact .inl ⟨⟨xs,q,au _⟩,hd σ H p⟩
theorem K9 {K:FG9} {g:TG} {tb:TS} {D:Ends} (Pv:Nat->St->Hp->Prop) (h0:Pv 0 σ H) (hl:∀i σ H,i<=xs.length->Pv i σ H->qG K H a xs)
  (hs:∀i x σ H,xs[i]?=some x->Pv i σ H->g x σ H λσ2 H2=>tb { D with nx:=Pv (i+1),ct:=Pv (i+1),bk:=D.nx } σ2 H2) (hd:∀σ H,Pv xs.length σ H->D.nx σ H) :
  ∃W:Nat->Nat->St->Hp->Prop,(∃m,W 0 m σ H)/\∀i m σ H,W i m σ H →
   ((Ow K a).stop i H/\D.nx σ H)\/((Ow K a).go i H/\∃N:St->Hp->Prop,(∀σ' H',N σ' H'->∃m',m' < m/\W (i+1) m' σ' H')/\∀x H',(Ow K a).yld i H x H'->g x σ H' λσ2 H2=>tb { D with nx:=N,ct:=N,bk:=D.nx } σ2 H2):=by
 refine ⟨λi m σ H=>m=xs.length - i/\i<=xs.length/\Pv i σ H,⟨xs.length,by simp,bW _,h0⟩,?_⟩;rintro i m σ H ⟨rfl,hi,p⟩;have q:=hl i σ H hi p;by_cases hlt:i < xs.length
 ·refine .inr ⟨⟨xs,xs[i],q,by simp [hlt]⟩,Pv (i+1),λσ' H' p'=>⟨xs.length - (i+1),by lia,rfl,hlt,p'⟩,λx H' y=>?_⟩;obtain ⟨e,y⟩:=y;subst e;exact hs i x σ _ (y xs q) p
 ·have e:i=xs.length:=by lia
  subst e;exact .inl ⟨⟨xs,q,au _⟩,hd σ H p⟩
theorem GZ {lo:Int} {g:TG} {tb:TS} {D:Ends} (Pv:Nat->St->Hp->Prop) (h0:Pv 0 σ H)
  (hs:∀i σ H,i < n->Pv i σ H->g (.int (lo+i)) σ H λσ2 H2=>tb { D with nx:=Pv (i+1),ct:=Pv (i+1),bk:=D.nx } σ2 H2) (hd:∀σ H,Pv n σ H->D.nx σ H) :
  ∃W:Nat->Nat->St->Hp->Prop,(∃m,W 0 m σ H)/\∀i m σ H,W i m σ H →
   ((Ge lo n).stop i H/\D.nx σ H)\/((Ge lo n).go i H/\∃N:St->Hp->Prop,(∀σ' H',N σ' H'->∃m',m' < m/\W (i+1) m' σ' H')/\∀x H',(Ge lo n).yld i H x H'->g x σ H' λσ2 H2=>tb { D with nx:=N,ct:=N,bk:=D.nx } σ2 H2):=by
 refine ⟨λi m σ H=>m=n - i/\i<=n/\Pv i σ H,⟨n,by simp,bW _,h0⟩,?_⟩;rintro i m σ H ⟨rfl,hi,p⟩;by_cases hlt:i < n
 ·refine .inr ⟨hlt,Pv (i+1),λσ' H' p'=>⟨n - (i+1),by lia,rfl,hlt,p'⟩,λx H' y=>?_⟩;obtain ⟨e,y⟩:=y;subst e y;exact hs i σ _ hlt p
 ·have e:i=n:=by lia
  subst e;exact .inl ⟨au _,hd σ H p⟩
abbrev R2:=V->V->Hp->VK->Prop
def zG (X:Cx) (f:Value->Value->Sem Value) (r:R2):Prop :=
 ∀(pins:List (Addr×Obj)) (s:Shared) (σ:St) (H:Hp) (x y:V) (v u:Value) (Q:VK),Inv X pins σ H s->RelV x v->RelV y u->r x y H Q →
  wpAny (model X.prog X.w) X.A (f v u) (EP X pins σ Q) X.xe s
def QC (X:Cx) (f:Value->Sem Value) (r:V->Hp->VK->Prop):Prop :=
 ∀(pins:List (Addr×Obj)) (s:Shared) (σ:St) (H:Hp) (x:V) (v:Value) (Q:VK),Inv X pins σ H s->RelV x v->r x H Q →
  wpAny (model X.prog X.w) X.A (f v) (EP X pins σ Q) X.xe s
def rW (X:Cx) (f:Value) (r:List V->Hp->VK->Prop):Prop :=
 ∀(pins:List (Addr×Obj)) (s:Shared) (σ:St) (H:Hp) (xs:List V) (us:List Value) (Q:VK),Inv X pins σ H s->cR xs us->r xs H Q →
  wpAny (model X.prog X.w) X.A (call f us) (EP X pins σ Q) X.xe s
def OK (r:R2) (ta tb:TE):TE:=λσ H Q=>ta σ H λx H1=>tb σ H1 λy H2=>r x y H2 Q
def Qb (r:V->Hp->VK->Prop) (ta:TE):TE:=λσ H Q=>ta σ H λx H1=>r x H1 Q
def rI (C:Int->Int->Prop) (g:Int->Int->V):R2:=λx y H Q=>∃i j,x=.int i/\y=.int j/\C i j/\Q (g i j) H
def KG (g:Int->Int->V):R2:=λx y H Q=>∃i j,x=.int i/\y=.int j/\Q (g i j) H
def rU (g:Int->V):V->Hp->VK->Prop:=λx H Q=>∃i,x=.int i/\Q (g i) H
section
variable {X:Cx} {a b c:Expr} {ta tb tc:TE} {pos:Pos}
theorem Oc (ha:PE X a ta) (hb:PE X b tb) {σ:St} {R:V->V->Hp->Prop} (I:Inv X pins σ H s)
  (h:ta σ H λx H1=>tb σ H1 λy H2=>R x y H2) {f:Value->Value->Sem Value}
  (hf:∀v u s2 x y H2,Inv X pins σ H2 s2->RelV x v->RelV y u->R x y H2->wpAny (model X.prog X.w) X.A (f v u) Q X.xe s2) :
  wpAny (model X.prog X.w) X.A (eval a X.env) (λv s₁=>wpAny (model X.prog X.w) X.A (eval b X.env) (λu s₂=>wpAny (model X.prog X.w) X.A (f v u) Q X.xe s₂) X.xe s₁) X.xe s:=by
 refine gN (ha pins s σ H _ I h) λv s1 ⟨x,H1,I1,r1,q1⟩=>?_
 refine gN (hb pins s1 σ H1 _ I1 q1) λu s2 ⟨y,H2,I2,r2,q2⟩=>?_
 exact hf v u s2 x y H2 I2 r1 r2 q2
theorem bw (ho:zG X (binaryOp op) r) (ha:PE X a ta) (hb:PE X b tb):PE X (.BinOp a op b pos) (OK r ta tb):=by
 intro pins s σ H Q I h;exact wpAny_BinOp (Oc ha hb I h λv u s2 x y H2 I2 rx ry q=>ho pins s2 σ H2 x y v u Q I2 rx ry q)
theorem yE (ho:QC X (unaryOp op) r) (ha:PE X a ta):PE X (.UnaryOp op a pos) (Qb r ta):=by
 intro pins s σ H Q I h;exact UnaryOp_ (gN (ha pins s σ H _ I h) λv s1 ⟨x,H1,I1,r1,q1⟩=>ho pins s1 σ H1 x v Q I1 r1 q1)
theorem Qs {g:Int->Int->Int}
  (rule:∀(i j:Int) (t u:Tok) (s:Shared) (Q:Value->Shared->Prop) (E:Value->Shared->Prop),C i j->Q (.int (g i j) s.toks) { s with toks:=s.toks+1 }->wpAny (model X.prog X.w) X.A (f (.int i t) (.int j u)) Q E s) :
  zG X f (rI C λi j=>.int (g i j)):=by
 intro pins s σ H x y v u Q I rx ry h;obtain ⟨i,j,rfl,rfl,hc,q⟩:=h;obtain ⟨t,rfl⟩:=rx;obtain ⟨t',rfl⟩:=ry;exact rule i j t t' s _ _ hc ⟨.int (g i j),H,I.tok _,⟨_,rfl⟩,q⟩
theorem Pd {g:Int->Int->Int}
  (rule:∀(i j:Int) (t u:Tok) (s:Shared) (Q:Value->Shared->Prop) (E:Value->Shared->Prop),Q (.int (g i j) s.toks) { s with toks:=s.toks+1 }->wpAny (model X.prog X.w) X.A (f (.int i t) (.int j u)) Q E s) :
  zG X f (KG λi j=>.int (g i j)):=by
 intro pins s σ H x y v u Q I rx ry h;obtain ⟨i,j,rfl,rfl,q⟩:=h;obtain ⟨t,rfl⟩:=rx;obtain ⟨t',rfl⟩:=ry;exact rule i j t t' s _ _ ⟨.int (g i j),H,I.tok _,⟨_,rfl⟩,q⟩
theorem KR {g:Int->Int->Bool}
  (rule:∀(i j:Int) (t u:Tok) (s:Shared) (Q:Value->Shared->Prop) (E:Value->Shared->Prop),Q (.bool (g i j)) s->wpAny (model X.prog X.w) X.A (f (.int i t) (.int j u)) Q E s) :
  zG X f (KG λi j=>.bl (g i j)):=by
 intro pins s σ H x y v u Q I rx ry h;obtain ⟨i,j,rfl,rfl,q⟩:=h;obtain ⟨t,rfl⟩:=rx;obtain ⟨t',rfl⟩:=ry;exact rule i j t t' s _ _ ⟨.bl (g i j),H,I,rfl,q⟩
def Oo (i j:Int):Prop:=(-(2^64) < i/\i < 2^64)\/(-(2^64) < j/\j < 2^64)
theorem Oo.ok (h:Oo i j):IntMulOk i j:=by
 rcases h with ⟨h1,h2⟩ | ⟨h1,h2⟩
 ·exact .of_left (intBits_le_64 h1 h2)
 ·exact .of_right (intBits_le_64 h1 h2)
theorem fw:zG X (binaryOp .Add) (KG λi j=>.int (i+j)):=Pd λ_ _ _ _ _ _ _ q=>add_int q
theorem lY:zG X (binaryOp .Sub) (KG λi j=>.int (i - j)):=Pd λ_ _ _ _ _ _ _ q=>sub_int q
theorem nW:zG X (binaryOp .Mod) (rI (λ_ j=>0 < j) λi j=>.int (i % j)):=Qs λi j _ _ _ _ _ hc q=>by
 have h1:(0:Int) < j:=hc;exact mod_int' (by lia) (by rw[Int.fmod_eq_emod_of_nonneg i (by lia)];exact q)
theorem KQ:zG X (binaryOp .Mod) (rI (λ_ j=>j≠0) λi j=>.int (i.fmod j)):=Qs λ_ _ _ _ _ _ _ hc q=>mod_int' hc q
theorem unI {g:Int->Int}
  (rule:∀(i:Int) (t:Tok) (s:Shared) (Q:Value->Shared->Prop) (E:Value->Shared->Prop),Q (.int (g i) s.toks) { s with toks:=s.toks+1 }->wpAny (model X.prog X.w) X.A (f (.int i t)) Q E s) :
  QC X f (rU λi=>.int (g i)):=by
 intro pins s σ H x v Q I rx h;obtain ⟨i,rfl,q⟩:=h;obtain ⟨t,rfl⟩:=rx;exact rule i t s _ _ ⟨.int (g i),H,I.tok _,⟨_,rfl⟩,q⟩
theorem tK:QC X (unaryOp .USub) (rU λi=>.int (-i)):=unI λ_ _ _ _ _ q=>neg_int q
end
def OW:V->V->Bool
 | .non,.non=>true | .non,.int _=>true | .int _,.non=>true | .non,.bl _=>true | .bl _,.non=>true | .non,.str _=>true | .str _,.non=>true
 | .int _,.int _=>true | .bl _,.bl _=>true | .str _,.str _=>true | .byt _,.byt _=>true
 | .int _,.str _=>true | .str _,.int _=>true | .bl _,.str _=>true | .str _,.bl _=>true
 | _,_=>false
def rEq:R2:=λx y H Q=>OW x y=true/\Q (.bl (decide (x=y))) H
def rNe:R2:=λx y H Q=>OW x y=true/\Q (.bl (!decide (x=y))) H
theorem F2:decide (V.int i=V.int j)=(i == j):=by
 rw[qJ];simp
theorem JE:decide (V.bl i=V.bl j)=(i == j):=by
 rw[qJ];simp
theorem F1:decide (V.str i=V.str j)=(i == j):=by
 rw[qJ];simp
theorem F3:decide (V.byt i=V.byt j)=(i.toList == j.toList):=by
 rw[qJ];cases i;cases j;simp
section
variable {X:Cx} {a b c:Expr} {ta tb tc:TE} {pos:Pos}
theorem dj {σ:St} (I:Inv X pins σ H s) (q:Q (.bl k) H) (e:k=k'):EP X pins σ Q (.bool k') s:=by
 subst e;exact ⟨.bl k,H,I,rfl,q⟩
theorem fy:zG X (compareOp .Eq) rEq:=by
 intro pins s σ H x y v u Q I rx ry h;obtain ⟨hs,q⟩:=h;cases x with
 | non =>
  cases rx;cases y with
  | non=>cases ry;exact PySem.EqNone.eq_none_none (dj I q (by simp))
  | bl j=>cases ry;exact PySem.EqNone.eq_none_bool (dj I q (by simp))
  | int j=>obtain ⟨t',rfl⟩:=ry;exact PySem.EqNone.eq_none_int (dj I q (by simp))
  | str j=>obtain ⟨t',rfl⟩:=ry;exact PySem.EqNone.eq_none_str (dj I q (by simp))
  | _=>exact absurd (show false=true from hs) bu
 | bl i =>
  cases rx;cases y with
  | non=>cases ry;exact PySem.EqNone.eq_bool_none (dj I q (by simp))
  | bl j=>cases ry;exact eq_bool (dj I q JE)
  | str j=>obtain ⟨t',rfl⟩:=ry;exact PySem.EqMixed.eq_bool_str (dj I q (by simp))
  | _=>exact absurd (show false=true from hs) bu
 | int i =>
  obtain ⟨t,rfl⟩:=rx;cases y with
  | non=>cases ry;exact PySem.EqNone.eq_int_none (dj I q (by simp))
  | int j=>obtain ⟨t',rfl⟩:=ry;exact eq_int (dj I q F2)
  | str j=>obtain ⟨t',rfl⟩:=ry;exact PySem.EqMixed.eq_int_str (dj I q (by simp))
  | _=>exact absurd (show false=true from hs) bu
 | str i =>
  obtain ⟨t,rfl⟩:=rx;cases y with
  | non=>cases ry;exact PySem.EqNone.eq_str_none (dj I q (by simp))
  | bl j=>cases ry;exact PySem.EqMixed.eq_str_bool (dj I q (by simp))
  | int j=>obtain ⟨t',rfl⟩:=ry;exact PySem.EqMixed.eq_str_int (dj I q (by simp))
  | str j=>obtain ⟨t',rfl⟩:=ry;exact eq_str (dj I q F1)
  | _=>exact absurd (show false=true from hs) bu
 | byt i =>
  obtain ⟨t,rfl⟩:=rx;cases y with
  | byt j=>obtain ⟨t',rfl⟩:=ry;exact PySem.W.eq_bytes (dj I q F3)
  | _=>exact absurd (show false=true from hs) bu
 | _=>cases y <;> exact absurd (show false=true from hs) bu
theorem Am:zG X (compareOp .NotEq) rNe:=by
 intro pins s σ H x y v u Q I rx ry h;obtain ⟨hs,q⟩:=h;cases x with
 | non =>
  cases rx;cases y with
  | non=>cases ry;exact PySem.EqNone.ne_none_none (dj I q (by simp))
  | bl j=>cases ry;exact PySem.EqNone.ne_none_bool (dj I q (by simp))
  | int j=>obtain ⟨t',rfl⟩:=ry;exact PySem.EqNone.ne_none_int (dj I q (by simp))
  | str j=>obtain ⟨t',rfl⟩:=ry;exact PySem.EqNone.ne_none_str (dj I q (by simp))
  | _=>exact absurd (show false=true from hs) bu
 | bl i =>
  cases rx;cases y with
  | non=>cases ry;exact PySem.EqNone.ne_bool_none (dj I q (by simp))
  | bl j=>cases ry;exact ne_bool (dj I q (congrArg not JE))
  | str j=>obtain ⟨t',rfl⟩:=ry;exact PySem.EqMixed.ne_bool_str (dj I q (by simp))
  | _=>exact absurd (show false=true from hs) bu
 | int i =>
  obtain ⟨t,rfl⟩:=rx;cases y with
  | non=>cases ry;exact PySem.EqNone.ne_int_none (dj I q (by simp))
  | int j=>obtain ⟨t',rfl⟩:=ry;exact ne_int (dj I q (congrArg not F2))
  | str j=>obtain ⟨t',rfl⟩:=ry;exact PySem.EqMixed.ne_int_str (dj I q (by simp))
  | _=>exact absurd (show false=true from hs) bu
 | str i =>
  obtain ⟨t,rfl⟩:=rx;cases y with
  | non=>cases ry;exact PySem.EqNone.ne_str_none (dj I q (by simp))
  | bl j=>cases ry;exact PySem.EqMixed.ne_str_bool (dj I q (by simp))
  | int j=>obtain ⟨t',rfl⟩:=ry;exact PySem.EqMixed.ne_str_int (dj I q (by simp))
  | str j=>obtain ⟨t',rfl⟩:=ry;exact ne_str (dj I q (congrArg not F1))
  | _=>exact absurd (show false=true from hs) bu
 | byt i =>
  obtain ⟨t,rfl⟩:=rx;cases y with
  | byt j=>obtain ⟨t',rfl⟩:=ry;exact PySem.W.ne_bytes (dj I q (congrArg not F3))
  | _=>exact absurd (show false=true from hs) bu
 | _=>cases y <;> exact absurd (show false=true from hs) bu
theorem sR:zG X (compareOp .Lt) (KG λi j=>.bl (decide (i < j))):=KR λ_ _ _ _ _ _ _ q=>lt_int q
theorem Pc:zG X (compareOp .LtE) (KG λi j=>.bl (decide (i<=j))):=KR λ_ _ _ _ _ _ _ q=>le_int q
theorem uQ:zG X (compareOp .Gt) (KG λi j=>.bl (decide (j < i))):=KR λ_ _ _ _ _ _ _ q=>gt_int q
theorem An:zG X (compareOp .GtE) (KG λi j=>.bl (decide (j<=i))):=KR λ_ _ _ _ _ _ _ q=>ge_int q
theorem Nu:zG X (compareOp .Is) (λx y H Q=>y=.non/\Q (.bl (decide (x=.non))) H):=by
 intro pins s σ H x y v u Q I rx ry h;obtain ⟨rfl,q⟩:=h;cases ry;refine is_none_gen (dj I q ?_)
 cases x <;> first
  | (cases rx;rfl)
  | (obtain ⟨t,rfl⟩:=rx;rfl)
theorem bF (b:Expr) {op:CmpOp} (h:op≠.In:=by decide) (h2:op≠.NotIn:=by decide):behindInMarks op b=false:=by
 have e1:(op == CmpOp.In)=false:=by cases op <;> first | rfl | exact absurd rfl h
 have e2:(op == CmpOp.NotIn)=false:=by cases op <;> first | rfl | exact absurd rfl h2
 cases b <;> simp [behindInMarks,e1,e2]
theorem kg (ho:zG X (compareOp op) r) (ha:PE X a ta) (hb:PE X b tb) (hm:behindInMarks op b=false):PE X (.Compare a [op] [b] pos) (OK r ta tb):=by
 intro pins s σ H Q I h;exact wpAny_Compare1 (Oc ha hb I h λv u s2 x y H2 I2 rx ry q=>ho pins s2 σ H2 x y v u Q I2 rx ry q) hm
def Lz (t:TE):TT:=λσ H Q=>t σ H λx H'=>∃k,x=.bl k/\Q k H'
theorem br (ho:zG X (compareOp op) r) (ha:PE X a ta) (hb:PE X b tb) (hm:behindInMarks op b=false):PT X (.Compare a [op] [b] pos) (Lz (OK r ta tb)):=by
 intro pins s σ H Q I h
 refine wpAny_isTrue_Compare1 (gN (ha pins s σ H _ I h) λv s1 ⟨x,H1,I1,r1,q1⟩=>gN (hb pins s1 σ H1 _ I1 q1) λu s2 ⟨y,H2,I2,r2,q2⟩ =>
  gN (ho pins s2 σ H2 x y v u _ I2 r1 r2 q2) λc s3 ⟨z,H3,I3,r3,k,e,q3⟩=>?_) hm
 subst e;cases r3;exact wpAny_truthy_bool ⟨H3,I3,q3⟩
theorem yT:(sizeLine:Nat) < 2^63:=by rw[sizeLine_eq];decide
theorem vals1 (r:cR [x] us):∃u,us=[u]/\RelV x u:=by
 cases r with
 | cons r1 r2=>cases r2;exact ⟨_,rfl,r1⟩
theorem vals2 (r:cR [x,y] us):∃u w',us=[u,w']/\RelV x u/\RelV y w':=by
 cases r with
 | cons r1 r2 =>
  cases r2 with
  | cons r3 r4=>cases r4;exact ⟨_,_,rfl,r1,r3⟩
theorem vz:rW X (.builtin "abs") (λxs H Q=>∃i,xs=[.int i]/\Q (.int (if i < 0 then -i else i)) H):=by
 intro pins s σ H xs us Q I r h;obtain ⟨i,rfl,q⟩:=h;obtain ⟨u,rfl,t,rfl⟩:=vals1 r;exact call_abs_int λu tk=>⟨.int (if i < 0 then -i else i),H,I.tok _,⟨_,rfl⟩,q⟩
theorem oQ (hc:X.calm=true):rW X (.builtin "min") (λxs H Q=>∃i j,xs=[.int i,.int j]/\Q (.int (if j < i then j else i)) H):=by
 intro pins s σ H xs us Q I r h;obtain ⟨i,j,rfl,q⟩:=h;obtain ⟨u,w',rfl,⟨t,rfl⟩,⟨t',rfl⟩⟩:=vals2 r;refine min_two_ints (I.ok.hd hc) λh' tk k=>⟨_,H,I.kept k,?_,q⟩
 by_cases hj:j < i
 ·rw[if_pos hj,if_pos hj];exact ⟨_,rfl⟩
 ·rw[if_neg hj,if_neg hj];exact ⟨_,rfl⟩
end
structure E8 (h:Heap) (x dx C:Addr) (mA:Str->Option Value):Prop where
 obj:h.get? x=some (PySem.W.instObj C dx)
 ns:h.Ns1 dx mA
 ne:dx≠x
theorem GU {h:Heap} (n:h.Ns1 dx mA):∃od,h.get? dx=some od/\∀name,PySem.W.lookIn name od=some (mA name):=by
 obtain ⟨o,es,ep,ho,hd,hk,_,hm⟩:=n;refine ⟨o,ho,λname=>?_⟩;have e:=hm name;unfold nsFind findBy at e;rw[<- Array.find?_toList] at e;unfold PySem.W.lookIn;rw[hd]
 dsimp only
 split
 ·rename_i y q
  rw[q] at e;exact congrArg some e
 ·rename_i q
  rw[q] at e
  have a:es.toList.any (·.refKey)=false:=by
   rw[List.any_eq_false];intro y hy;obtain ⟨z,t,hkey⟩:=hk y (Array.mem_toList_iff.mp hy);simp [DictEntry.refKey,hkey]
  have a':¬es.toList.any (·.refKey)=true:=by rw[a];exact bu
  rw[if_neg a'];exact congrArg some e
theorem E8.look (I:E8 h x dx C mA):∃od,PySem.W.InstAt h x (PySem.W.instObj C dx) C (some od)/\∀name,PySem.W.lookIn name od=some (mA name) :=
 let ⟨od,ho,hl⟩:=GU I.ns
 ⟨od,⟨I.obj,rfl,rfl,ho⟩,hl⟩
section
variable {prog:Program} {w:World} {A:Around} {E:Value->Shared->Prop} {s:Shared} {K:FG9} {x dx C f:Addr} {mA:Str->Option Value} {name:Str} {v:Value}
theorem get_map (X:K.In s.heap) (I:E8 s.heap x dx C mA) (hg:PySem.W.plainGet K C name=true) (hh:PySem.W.hasDictIn K C=true)
  (ha:PySem.W.findIn K (.ref C) name=some none) (hv:mA name=some v) (hv':PySem.W.handedIn v=true) (h:Q v { s with toks:=s.toks+1 }) :
  wpAny (model prog w) A (getAttr (.ref x) name expr) Q E s:=by
 obtain ⟨od,J,hl⟩:=I.look;exact PySem.W.get_value X J (Cz hg).1 (PySem.W.findObj_own hh ha rfl (by rw[hl,hv])) hv' h
theorem Jo (X:K.In s.heap) (I:E8 s.heap x dx C mA) (hg:PySem.W.plainGet K C name=true)
  (hf:PySem.W.findIn K (.ref C) name=some (some (.ref f))) (ht:PySem.W.isFn K (.ref f)=true) (hv:mA name=none) (h:Q (.ref f,[.ref x]) s) :
  wpAny (model prog w) A (getMethod (.ref x) name pl) Q E s:=by
 obtain ⟨od,J,hl⟩:=I.look;exact PySem.W.method_fn X J (Cz hg).1 (Cz hg).2 hf (beq_iff_eq.mp ht) (by show (PySem.W.lookIn name od).map (·.isSome)=some false;rw[hl,hv];rfl) h
theorem Kf (X:K.In s.heap) (I:E8 s.heap x dx C mA)
  (hs:PySem.W.findIn K (.ref C) "__setattr__"=some (some (.builtin "object.__setattr__"))) (hp:PySem.W.plainOver K C=true) (ht:PySem.W.takerIn K C name=some none) (hh:PySem.W.hasDictIn K C=true)
  (hw:PySem.Within mA ns) (hsz:ns.length<=sizeLine)
  (h:∀h',E8 h' x dx C (λy=>if y=name then some v else mA y)->Heap.SameBut dx s.heap h'->Q () { s with heap:=h',toks:=s.toks+2 }) :
  wpAny (model prog w) A (setAttr (.ref x) name v) Q E s:=by
 obtain ⟨od,J,hl⟩:=I.look;refine PySem.W.set_plain X J hs (PySem.W.osa_open (s:={ s with toks:=s.toks+1 }) (r:=none) X J hp ht λb=>?_);obtain ⟨cd,hc,hd'⟩:=PySem.W.any_some hh;have hx:s.heap.get? x=some ⟨.ref C,some dx,.plain,#[]⟩:=I.obj;refine wpAny_bind (wpAny_pure (wpAny_bind (wpAny_bind (wpAny_loadPart hx (wpAny_bind (PySem.W.Looks.here (s:={ s with toks:=s.toks+1 }) (PySem.W.looks_clsIn X hc) ?_))))));rw[hd'];refine wpAny_pure (a:=some dx) (wpAny_bind (wpAny_pure (wpAny_bind ?_)));refine wpAny_nsSet1 (s:={ s with toks:=s.toks+1 }) I.ns λh' hn2 hs2=>?_
 obtain ⟨oD,esD,epD,hoD,hdD,hcD⟩:=hn2.count (PySem.Within.cons name v hw);refine wpAny_bind (wpAny_lookBehind hoD (by rw[hdD];exact pastItsLine_dict (aj hcD (by rw[bV];lia))) ?_);exact wpAny_pure (h _ ⟨(hs2.2 _ (Ne.symm I.ne)).trans I.obj,hn2,I.ne⟩ hs2)
theorem Jf (X:K.In s.heap) (hm:PySem.W.makesIn K C=true)
  (hi:PySem.W.findIn K (.ref C) "__init__"=some (some (.ref f))) (hf:PySem.W.typeIn K (.ref f)=some (.type "function"))
  (h:codeAny (model prog w) (A.under (.builtin "type.__call__" ⟨.ref C :: vs,kw⟩)) (.call (.ref f) ⟨.ref (s.heap.objs.size+1) :: vs,kw⟩) (PySem.W.InitBack (s.heap.objs.size+1) R)
   { s with heap:=(s.heap.push PySem.W.emptyDict).push (PySem.W.instObj C s.heap.objs.size) }) :
  codeAny (model prog w) A (.call (.ref C) ⟨vs,kw⟩) R s:=by
 obtain ⟨hh,g,d,t,os⟩:=s;exact PySem.W.make_core (PySem.W.makes_of X hm) (PySem.W.looks_findIn X hi) (λself=>PySem.W.bind_fn X self hf) (.inl rfl) h
end
def aX (f:Str) (v:V):List (Str×V)->List (Str×V)
 | []=>[(f,v)]
 | (g,x) :: r=>if g=f then (g,v) :: r else (g,x) :: aX f v r
theorem aG (f g:Str) (v:V):∀fs:List (Str×V),(aX f v fs).lookup g=if g=f then some v else fs.lookup g
 | []=>by
  show List.lookup g [(f,v)]=_
  by_cases h:g=f
  ·have hb:(g == f)=true:=beq_iff_eq.mpr h;simp only[List.lookup,hb,if_pos h]
  ·have hb:(g == f)=false:=beq_eq_false_iff_ne.mpr h;simp only[List.lookup,hb,if_neg h]
 | (k,x) :: r=>by
  have ih:=aG f g v r;rw[show aX f v ((k,x) :: r)=(if k=f then (k,v) :: r else (k,x) :: aX f v r) from rfl];by_cases hk:k=f
  ·rw[if_pos hk];by_cases h:g=k
   ·have hb:(g == k)=true:=beq_iff_eq.mpr h;simp only[List.lookup,hb,if_pos (h.trans hk)]
   ·have hb:(g == k)=false:=beq_eq_false_iff_ne.mpr h;simp only[List.lookup,hb,if_neg (λe:g=f=>h (e.trans hk.symm))]
  ·rw[if_neg hk];by_cases h:g=k
   ·have hb:(g == k)=true:=beq_iff_eq.mpr h;simp only[List.lookup,hb,if_neg (λe:g=f=>hk (h.symm.trans e))]
   ·have hb:(g == k)=false:=beq_eq_false_iff_ne.mpr h;simp only[List.lookup,hb];exact ih
theorem wy (f:Str) (v:V):∀fs:List (Str×V),f∈(aX f v fs).map (·.1)/\∀g,g∈fs.map (·.1)->g∈(aX f v fs).map (·.1)
 | []=>⟨by simp [aX],λg h=>by simp at h⟩
 | (k,x) :: r=>by
  obtain ⟨i1,i2⟩:=wy f v r;rw[show aX f v ((k,x) :: r)=(if k=f then (k,v) :: r else (k,x) :: aX f v r) from rfl];by_cases hk:k=f
  ·rw[if_pos hk];subst hk;exact ⟨by simp,λg h=>by simpa using h⟩
  ·rw[if_neg hk];refine ⟨?_,λg h=>?_⟩
   ·rw[kR];exact bK _ i1
   ·rw[kR] at h ⊢;rcases aF.mp h with e | e
    ·exact aF.mpr (.inl e)
    ·exact bK _ (i2 g e)
theorem wX (f:Str) (v:V):∀fs:List (Str×V),(aX f v fs).length<=fs.length+1
 | []=>by simp [aX]
 | (k,x) :: r=>by
  have ih:=wX f v r;rw[show aX f v ((k,x) :: r)=(if k=f then (k,v) :: r else (k,x) :: aX f v r) from rfl];by_cases hk:k=f
  ·rw[if_pos hk,bV,bV];lia
  ·rw[if_neg hk,bV,bV];lia
theorem z5.some_of (r:z5 (some v) o):∃u,o=some u/\RelV v u:=by
 cases o with
 | none=>exact (show False from r).elim
 | some u=>exact ⟨u,rfl,r⟩
theorem z5.none_of (r:z5 none o):o=none:=by
 cases o with
 | none=>rfl
 | some u=>exact (show False from r).elim
theorem GY (r:RelV v u):PySem.W.handedIn u=true:=by
 cases v with
 | non=>cases (show u=Value.none from r);rfl
 | bl b=>cases (show u=Value.bool b from r);rfl
 | int i=>obtain ⟨t,e⟩:=(show ∃t,u=Value.int i t from r);cases e;rfl
 | str x=>obtain ⟨t,e⟩:=(show ∃t,u=Value.str x t from r);cases e;rfl
 | byt b=>obtain ⟨t,e⟩:=(show ∃t,u=Value.bytes b t from r);cases e;rfl
 | flt b=>obtain ⟨t,e⟩:=(show ∃t,u=Value.float b t from r);cases e;rfl
 | ref a=>cases (show u=Value.ref a from r);rfl
 | ty n=>cases (show u=Value.type n from r);rfl
section
variable {P:Program} {w:World} {H H':Hp} {h h':Heap} {a C dx:Addr} {fs fs':List (Str×V)}
theorem yc (hok:yg P w H h) (e:H a=some (.ins C dx fs)):∃mA,E8 h a dx C mA/\(∀f,z5 (fs.lookup f) (mA f))/\PySem.Within mA (fs.map (·.1))/\fs.length<=1000/\H dx=some (.own a):=by
 obtain ⟨d,z,ne,ob,mA,n,r,q⟩:=(show jk P w H h a (.ins C dx fs) from hok a _ e);exact ⟨mA,⟨ob,n,ne⟩,r,q,z,d⟩
end
structure HK (K:FG9) (C:Addr):Prop where
 pg:PySem.W.plainGet K C Str.empty=true
 hd:PySem.W.hasDictIn K C=true
 po:PySem.W.plainOver K C=true
 sa:PySem.W.findIn K (.ref C) "__setattr__"=some (some (.builtin "object.__setattr__"))
theorem HK.get {K:FG9} (c:HK K C) (f:Str):PySem.W.plainGet K C f=true:=c.pg
def gs (K:FG9) (C:Addr) (f:Str):Prop:=PySem.W.findIn K (.ref C) f=some none
theorem gs.taker {K:FG9} (n:gs K C f):PySem.W.takerIn K C f=some none:=by
 unfold PySem.W.takerIn;rw[show PySem.W.findIn K (.ref C) f=some none from n];rfl
structure Cp (K:FG9) (C:Addr) (m:Str) (f:Addr):Prop where
 at_:PySem.W.findIn K (.ref C) m=some (some (.ref f))
 fn:PySem.W.isFn K (.ref f)=true
 kp:PySem.W.keepIn K (.ref f)=true
section
variable {X:Cx} {pins:List (Addr×Obj)} {σ:St} {H:Hp} {s:Shared} {a C dx:Addr} {fs:List (Str×V)} {f:Str} {v:V} {A:Around} {E:Value->Shared->Prop}
theorem ES (I:Inv X pins σ H s) (e:H a=some (.ins C dx fs)) (c:HK X.K C) (n:gs X.K C f) (l:fs.lookup f=some v)
  (h:∀u s',Inv X pins σ H s'->RelV v u->Q u s'):wpAny (model X.prog X.w) A (getAttr (.ref a) f b) Q E s:=by
 obtain ⟨mA,O,r,_,_,_⟩:=yc I.hok e;obtain ⟨u,hu,ru⟩:=z5.some_of (v:=v) (o:=mA f) (by rw[<- l];exact r f);exact get_map I.kIn O (c.get f) c.hd n hu (GY ru) (h u _ (I.tok _) ru)
theorem ER (I:Inv X pins σ H s) (e:H a=some (.ins C dx fs)) (c:HK X.K C) (k:Cp X.K C m g) (l:fs.lookup m=none)
  (h:Q (.ref g,[.ref a]) s):wpAny (model X.prog X.w) A (getMethod (.ref a) m pl) Q E s:=by
 obtain ⟨mA,O,r,_,_,_⟩:=yc I.hok e;have hn:mA m=none:=z5.none_of (by rw[<- l];exact r m);exact Jo I.kIn O (c.get m) k.at_ k.fn hn h
theorem En (I:Inv X pins σ H s) (e:H a=some (.ins C dx fs)) (c:HK X.K C) (n:gs X.K C f) (hl:fs.length < 1000) (ry:RelV y u)
  (h:∀s',Inv X pins σ (upd H a (.ins C dx (aX f y fs))) s'->Q () s'):wpAny (model X.prog X.w) A (setAttr (.ref a) f u) Q E s:=by
 obtain ⟨mA,O,r,wi,_,ho⟩:=yc I.hok e;have hz:(fs.map (·.1)).length<=sizeLine:=by rw[ag,sizeLine_eq];lia
 refine Kf I.kIn O c.sa c.po n.taker c.hd wi hz λh' O' sb=>h _ ?_
 have hd:∃o,h'.get? dx=some o:=let ⟨o,_,_,e',_⟩:=O'.ns;⟨o,e'⟩
 refine I.write (x:=a) (e:=dx) (by rw[e];exact True.intro) (.inr ho) (λb q hb z=>(sb.2 b hb).trans z) hd ?_;refine ⟨by rw[aN O.ne];exact ho,?_,O.ne,O'.obj,_,O'.ns,λg=>?_,λg hg=>?_⟩
 ·have:=wX f y fs;lia
 ·show z5 ((aX f y fs).lookup g) (if g=f then some u else mA g)
  rw[aG];by_cases q:g=f
  ·rw[if_pos q,if_pos q];exact ry
  ·rw[if_neg q,if_neg q];exact r g
 ·by_cases q:g=f
  ·rw[q];exact (wy f y fs).1
  ·refine (wy f y fs).2 g (wi g λz=>hg ?_);show (if g=f then some u else mA g)=none
   rw[if_neg q];exact z
theorem Inv.made (I:Inv X pins σ H s):Inv X pins σ (upd (upd H s.heap.objs.size (.own (s.heap.objs.size+1))) (s.heap.objs.size+1) (.ins C s.heap.objs.size []))
  { s with heap:=(s.heap.push PySem.W.emptyDict).push (PySem.W.instObj C s.heap.objs.size) }:=by
 have e1:(s.heap.push PySem.W.emptyDict).get? s.heap.objs.size=some PySem.W.emptyDict:=Heap.get?_push_size s.heap rfl
 have e2:((s.heap.push PySem.W.emptyDict).push (PySem.W.instObj C s.heap.objs.size)).get? (s.heap.objs.size+1)=some (PySem.W.instObj C s.heap.objs.size):=by
  have:=Heap.get?_push_size (s.heap.push PySem.W.emptyDict) (o:=PySem.W.instObj C s.heap.objs.size) rfl;rwa [Heap.size_push] at this
 have e3:(s.heap.push PySem.W.emptyDict).Ns s.heap.objs.size (λ_=>none):=⟨PySem.W.emptyDict,#[],_,e1,rfl,(λe he=>absurd he (by simp)),λ_=>rfl⟩;have I1:=I.laid (a:=s.heap.objs.size) (o:=.own (s.heap.objs.size+1)) (h':=s.heap.push PySem.W.emptyDict) (t':=s.toks) (λb u q=>Heap.get?_push_of_some _ q) (au _) ⟨_,e1⟩;refine I1.laid (a:=s.heap.objs.size+1) (o:=.ins C s.heap.objs.size []) (t':=s.toks) (λb u q=>Heap.get?_push_of_some _ q) (Nat.le_of_eq (Heap.size_push _ _)) ?_;have ne:s.heap.objs.size≠s.heap.objs.size+1:=cE (iM _);refine ⟨by rw[aN ne,aE],bW _,ne,e2,λ_=>none,(Heap.Ns1.of_empty e3).at λo q=>Heap.get?_push_of_some _ q,λ_=>True.intro,λy hy=>absurd rfl hy⟩
theorem Lu (hb:attributeBase e f env (eval e env)=eval e env)
  (h:wpAny (model prog w) A (eval e env) (λo s₁=>wpAny (model prog w) A (getAttr o f true) Q E s₁) E s):wpAny (model prog w) A (eval (.Attribute e f pos) env) Q E s :=
 Attribute_any_ h (by rw[arm_eval_Attribute,hb])
end
def OP (K:FG9) (ta:TE) (f:Str):TE:=λσ H Q=>ta σ H λx H1=>∃a C dx fs v,x=.ref a/\H1 a=some (.ins C dx fs)/\HK K C/\gs K C f/\fs.lookup f=some v/\Q v H1
def OX (K:FG9) (ta tv:TE) (f:Str):TS:=λD σ H=>tv σ H λy H1=>ta σ H1 λx H2=>∃a C dx fs,x=.ref a/\H2 a=some (.ins C dx fs)/\HK K C/\gs K C f/\fs.length < 1000 /\
 D.nx σ (upd H2 a (.ins C dx (aX f y fs)))
section
variable {X:Cx} {o e value:Expr} {f:Str} {pos pos' tpos:Pos} {ta tv:TE}
theorem fv (he:PE X e ta) (hb:attributeBase e f X.env (eval e X.env)=eval e X.env):PE X (.Attribute e f pos) (OP X.K ta f):=by
 intro pins s σ H Q I h;refine Lu hb (gN (he pins s σ H _ I h) λu s1 ⟨x,H1,I1,rx,a,C,dx,fs,v,ex,ea,c,n,l,q⟩=>?_);subst ex;obtain rfl:u=Value.ref a:=rx;exact ES I1 ea c n l λu' s2 I2 ru=>⟨v,H1,I2,ru,q⟩
theorem lV (ha:PE X o ta) (hv:PE X value tv) (hs:swapsWith value (some (.Attribute o f pos')) pos.line X.env=pure false):PS X (.Assign [.Attribute o f pos'] value pos) (OX X.K ta tv f):=by
 intro pins s σ H D I h;refine plainObj_wpAny_Assign_Attribute (gN (hv pins s σ H _ I h) λu s1 ⟨y,H1,I1,ry,q⟩=>gN (ha pins s1 σ H1 _ I1 q) λov s2 ⟨x,H2,I2,rx,a,C,dx,fs,ex,ea,c,n,l,q2⟩=>?_) hs;subst ex;obtain rfl:ov=Value.ref a:=rx;exact En I2 ea c n l ry λs3 I3=>⟨σ,_,I3,q2⟩
end
section
variable {X:Cx} {pins:List (Addr×Obj)} {σ:St} {H:Hp} {s:Shared} {A:Around} {E:Value->Shared->Prop} {Q:Value->Shared->Prop} {c:Value} {b:Bool}
inductive wH (K:FG9) (H:Hp):V->Value->Prop where
 | non:wH K H .non (.type "NoneType")
 | bl (x:Bool):wH K H (.bl x) (.type "bool")
 | int (i:Int):wH K H (.int i) (.type "int")
 | str (x:Str):wH K H (.str x) (.type "str")
 | flt (x:UInt64):wH K H (.flt x) (.type "float")
 | lst {a:Addr} {xs:List V} (e:H a=some (.lst xs)):wH K H (.ref a) (.type "list")
 | frz {a:Addr} {o:Obj} {xs:List V} (e:H a=some (.frz o (.lst xs))):wH K H (.ref a) (.type "list")
 | tup {a:Addr} {xs:List V} (e:H a=some (.tup xs)):wH K H (.ref a) (.type "tuple")
 | dK {a:Addr} {kvs:List (Key×V)} (e:H a=some (.dK kvs)):wH K H (.ref a) (.type "dict")
 | dT {a:Addr} {kvs:List (List Key×V)} (e:H a=some (.dT kvs)):wH K H (.ref a) (.type "dict")
 | ins {a C dx:Addr} {fs:List (Str×V)} (e:H a=some (.ins C dx fs)) (cl:HK K C) (ha:PySem.W.findIn K (.ref C) "__class__"=some (some (.builtin "object.__class__")))
   (hn:PySem.W.specialIn K (.builtin "object.__class__") "__get__"=some (some (.builtin "getset_descriptor.__get__"))) (htk:PySem.W.takesIn K (.builtin "object.__class__")=some true)
   (hm:PySem.W.mroIn K C (.type "object")=some true):wH K H (.ref a) (.ref C)
theorem Ar (I:Inv X pins σ H s) (rx:RelV x u) (ty:wH X.K H x t) (e:PySem.W.kitOne X.K t c=some b) (h:∀tk,Q (.bool b) { s with toks:=tk }) :
  wpAny (model X.prog X.w) A (call (.builtin "isinstance") [u,c]) Q E s:=by
 cases ty with
 | non=>cases (show u=Value.none from rx);exact dk PySem.W.kitx_none I.kIn True.intro e (λz=>nomatch z) h
 | bl y=>cases (show u=Value.bool y from rx);exact dk PySem.W.kitx_bool I.kIn True.intro e (λz=>nomatch z) h
 | int i=>obtain ⟨t,q⟩:=(show ∃t,u=Value.int i t from rx);cases q;exact dk PySem.W.kitx_int I.kIn True.intro e (λz=>nomatch z) h
 | str y=>obtain ⟨t,q⟩:=(show ∃t,u=Value.str y t from rx);cases q;exact dk PySem.W.kitx_str I.kIn True.intro e (λz=>nomatch z) h
 | flt y=>obtain ⟨t,q⟩:=(show ∃t,u=Value.float y t from rx);cases q;exact dk PySem.W.kitx_float I.kIn True.intro e (λz=>nomatch z) h
 | @lst a xs ea =>
  cases (show u=Value.ref a from rx);obtain ⟨_,_,n,_,h1⟩:=(show jk X.prog X.w H s.heap a (.lst xs) from I.hok a _ ea);exact dk PySem.W.kitx_list I.kIn ⟨_,h1,rfl⟩ e (λz=>nomatch z) h
 | @frz a ob xs ea =>
  cases (show u=Value.ref a from rx);obtain ⟨_,_,_,n,_,h1⟩:=(show jk X.prog X.w H s.heap a (.frz ob (.lst xs)) from I.hok a _ ea);exact dk PySem.W.kitx_list I.kIn ⟨_,h1,rfl⟩ e (λz=>nomatch z) h
 | @tup a xs ea =>
  cases (show u=Value.ref a from rx);obtain ⟨_,_,_,p⟩:=(show jk X.prog X.w H s.heap a (.tup xs) from I.hok a _ ea);obtain ⟨o,h1,h2,_⟩:=p;exact dk PySem.W.kitx_tuple I.kIn ⟨o,h1,h2⟩ e (λz=>nomatch z) h
 | @dK a kvs ea =>
  cases (show u=Value.ref a from rx);obtain ⟨_,_,vs,_,p⟩:=(show jk X.prog X.w H s.heap a (.dK kvs) from I.hok a _ ea);obtain ⟨o,es,ep,h1,h2,_⟩:=p;exact dk PySem.W.kitx_dict I.kIn ⟨o,h1,h2.1⟩ e (λz=>nomatch z) h
 | @dT a kvs ea =>
  cases (show u=Value.ref a from rx);obtain ⟨_,_,xs,_,o,es,ep,h1,h2,_⟩:=(show jk X.prog X.w H s.heap a (.dT kvs) from I.hok a _ ea);exact dk PySem.W.kitx_dict I.kIn ⟨o,h1,h2.1⟩ e (λz=>nomatch z) h
 | @ins a C dx fs ea cl ha hn htk hm =>
  cases (show u=Value.ref a from rx);obtain ⟨mA,O,_⟩:=yc I.hok ea;obtain ⟨od,J,_⟩:=O.look;exact dk (PySem.W.kitx_own (cl.get _) cl.hd ha hn htk hm) I.kIn J e (λz=>nomatch z) h
end
structure kI (k:Nat) (A:Around):Prop where
 hd:A.handled=none
 dp:A.depth+3*k+105 < recursionLimit
 un:A.units+16*k+200 < cLine
theorem kI.mono (r:kI k A) (h:j<=k):kI j A:=⟨r.hd,by have:=r.dp;lia,by have:=r.un;lia⟩
theorem kI.deeper (r:kI (k+1) A) (env:Env):kI k (A.deeper env) :=
 ⟨r.hd,by have:=r.dp;show A.depth+1+3*k+105 < _;lia,by have:=r.un;show A.units+3+16*k+200 < _;lia⟩
theorem EJ {A:Around}:(A.under (.builtin "type.__call__" ⟨.ref C :: us,kw⟩)).depth=A.depth+1:=by
 first | rfl | simp [Around.under,Code.weight,Code.isCreation,Code.isGuard,Code.isCaller,Code.frames,Code.isFrame,guardIds]
theorem EI {A:Around}:(A.under (.builtin "type.__call__" ⟨.ref C :: us,kw⟩)).units=A.units+1:=by
 first | rfl | simp [Around.under,Code.cUnits,Code.frames,Code.isFrame]
theorem kI.make (r:kI (k+1) A) (C:Addr) (us:List Value) (kw:List (Str×Value)):kI k (A.under (.builtin "type.__call__" ⟨.ref C :: us,kw⟩)) :=
 ⟨r.hd,by have:=r.dp;rw[EJ];lia,by have:=r.un;rw[EI];lia⟩
theorem kI.depth (r:kI k A):A.depth < recursionLimit:=by have:=r.dp;lia
theorem kI.units (r:kI k A):A.units+64 < cLine:=by have:=r.un;lia
def Gs:TA:=λ_ H Q=>Q [] H
def qK (ta:TE) (tr:TA):TA:=λσ H Q=>ta σ H λx H1=>tr σ H1 λxs H2=>Q (x :: xs) H2
section
variable {X:Cx} {e:Expr} {es:List Expr} {te:TE} {t:TA} {pos:Pos}
theorem af:PA X [] Gs:=λ_ _ _ _ H Q I h=>Calls.spliced_nil ⟨[],H,I,.nil,h⟩
theorem aa (ha:PE X e te) (hr:PA X es t) (hs:starEach (e :: es) X.env=(false,eval e X.env) :: starEach es X.env:=by rfl):PA X (e :: es) (qK te t):=by
 intro pos pins s σ H Q I h;rw[hs];show wpAny _ _ (spliced ((false,eval e X.env) :: backTo pos (starEach es X.env))) _ _ s
 refine Calls.spliced_cons (gN (ha pins s σ H _ I h) λu s1 ⟨x,H1,I1,r1,q1⟩=>?_);exact gN (hr pos pins s1 σ H1 _ I1 q1) λus s2 ⟨xs,H2,I2,r2,q2⟩=>⟨x :: xs,H2,I2,.cons r1 r2,q2⟩
def OF (t:TA):TE:=λσ H Q=>t σ H λxs H1=>xs.length<=sizeLine/\∀p,H1 p=none->Q (.ref p) (upd H1 p (.tup xs))
def OM (t:TA):TE:=λσ H Q=>t σ H λxs H1=>xs.length<=sizeLine/\∀p,H1 p=none->Q (.ref p) (upd H1 p (.lst xs))
theorem cK (h:PA X es t):PE X (.Tuple es x1 pos) (OF t):=by
 intro pins s σ H Q I hq;refine wpAny_Tuple_spliced (gN (h pos pins s σ H _ I hq) λus s1 ⟨xs,H1,I1,r,z,q⟩=>⟨by rw[<- r.length];exact z,?_⟩);have hf:H1 s1.heap.objs.size=none:=I1.hok.fresh (au _);refine ⟨.ref s1.heap.objs.size,upd H1 s1.heap.objs.size (.tup xs),I1.laid (t':=s1.toks) (λb u e=>Heap.get?_push_of_some _ e) (au _) ?_,rfl,q _ hf⟩;exact ⟨z,us,r,⟨_,Heap.get?_push_size _ rfl,rfl,_,rfl⟩⟩
theorem dN (h:PA X es t):PE X (.List es pos) (OM t):=by
 intro pins s σ H Q I hq;refine wpAny_List_spliced (gN (h pos pins s σ H _ I hq) λus s1 ⟨xs,H1,I1,r,z,q⟩=>⟨by rw[<- r.length];exact z,?_⟩);have hf:H1 s1.heap.objs.size=none:=I1.hok.fresh (au _);refine ⟨.ref s1.heap.objs.size,upd H1 s1.heap.objs.size (.lst xs),I1.laid (t':=s1.toks) (λb u e=>Heap.get?_push_of_some _ e) (au _) ?_,rfl,q _ hf⟩;exact ⟨z,us,0,r,Heap.get?_push_size _ rfl⟩
end
abbrev Sp:=List V->Hp->VK->XK->Prop
abbrev JZ:=List Env->Hp->Shared->XK->Value->Shared->Prop
structure Ff (P:Program) (w:World) (K:FG9) (mg:Str->Option Value) (base:Heap) (A:Around) (outer:List Env) (s:Shared) (H:Hp):Prop where
 frames:A.frames=some outer
 mod:Mod K mg base
 bs:∀b o,base.get? b=some o->s.heap.get? b=some o/\H b=none
 bsz:base.objs.size<=s.heap.objs.size
 funs:s.heap.FunFrames base outer
 frf:∀b∈HP outer,H b=none
 hok:yg P w H s.heap
 bare:AllBare s.gens
def CE (outer:List Env) (P:Program) (w:World) (H:Hp) (s:Shared) (Q:VK) (u:Value) (s':Shared):Prop :=
 ∃v H',s'.os=s.os/\AllBare s'.gens/\Un (HP outer) [] H H' s.heap s'.heap/\yg P w H' s'.heap/\RelV v u/\Q v H'
def CR (CX:JZ) (outer:List Env) (P:Program) (w:World) (H:Hp) (s:Shared) (Q:VK) (E:XK) (r:Result) (s':Shared):Prop :=
 match r with
 | .ok (.ret u)=>CE outer P w H s Q u s'
 | .ok _=>False
 | .error e=>CX outer H s E e s'
structure cW (P:Program) (w:World) (K:FG9) (mg:Str->Option Value) (base:Heap) (CX:JZ) (k:Nat) (f:Addr) (fd:FuncData) (ps:List Str) (sp:Sp):Prop where
 len:∀vs H Q E,sp vs H Q E->vs.length=ps.length
 run:∀(A:Around) (outer:List Env) (s:Shared) (H:Hp) (args:Args) (us:List Value) (vs:List V) (Q:VK) (E:XK),kI k A->Ff P w K mg base A outer s H->BindsTo s fd args (ps.zip us)->cR vs us->sp vs H Q E →
  codeAny (model P w) A (.call (.ref f) args) (CR CX outer P w H s Q E) s
theorem Ff.make {K:FG9} (e:Ff P w K mg base A outer s H) (C:Addr) (us:List Value) (kw:List (Str×Value)) :
  Ff P w K mg base (A.under (.builtin "type.__call__" ⟨.ref C :: us,kw⟩)) outer s H:=⟨by first | exact e.frames | (simpa [Around.under,Code.envs,Code.isFrame,pushEnvs] using e.frames),e.mod,e.bs,e.bsz,e.funs,e.frf,e.hok,e.bare⟩
section
variable {X:Cx} {pins:List (Addr×Obj)} {σ:St} {H:Hp} {s s':Shared}
theorem Inv.env0 (I:Inv X pins σ H s):Ff X.prog X.w X.K X.mg X.base X.A X.stack s H :=
 ⟨I.ok.frames,I.ok.mod,I.bs,aj I.ok.bsz I.sz,I.stack,I.stkFree,I.hok,I.bare⟩
theorem Inv.after (I:Inv X pins σ H s) (h:CE X.stack X.prog X.w H s Q u s'):EP X pins σ Q u s':=by
 obtain ⟨v,H',os,bare,un,hok,r,q⟩:=h;obtain ⟨hh,g,d,t,os'⟩:=s';obtain rfl:os'=s.os:=os;exact ⟨v,H',I.call (h':=hh) (g':=g) (d':=d) (t':=t) (ch:=[]) un hok bare (λb z=>absurd z (by simp)),r,q⟩
end
def Ie (sp:Sp) (dvs:List V) (E:XK) (t:TA):TE:=λσ H Q=>t σ H λvs H1=>sp (vs++dvs) H1 Q E
def LG (C:Addr) (m:Str) (sp:Sp) (dvs:List V) (E:XK) (ta:TE) (t:TA):TE:=λσ H Q=>ta σ H λx H1=>∃a dx fs,x=.ref a/\H1 a=some (.ins C dx fs)/\fs.lookup m=none /\
 t σ H1 λvs H2=>sp (x :: (vs++dvs)) H2 Q E
def LH (C:Addr) (sp:Sp) (dvs:List V) (E:XK) (t:TA):TE:=λσ H Q=>t σ H λvs H1=>∀x dx,H1 x=none->H1 dx=none->dx≠x →
 sp (.ref x :: (vs++dvs)) (upd (upd H1 dx (.own x)) x (.ins C dx [])) (λv H2=>v=.non/\Q (.ref x) H2) E
def Binds (K:FG9) (fd:FuncData) (ps:List Str) (ds:List Value):Prop :=
 ∀(s:Shared) (us:List Value),K.In s.heap->(us++ds).length=ps.length->BindsTo s fd ⟨us,[]⟩ (ps.zip (us++ds))
theorem Binds.all {K:FG9} (h:∀us:List Value,us.length=ps.length->bindArgs fd ⟨us,[]⟩=pure (ps.zip us)):Binds K fd ps []:=λs us _ hl=>by
 rw[qH] at hl ⊢;exact .of_eq (h us hl)
def wI (CX:JZ) (X:Cx) (E:XK):Prop:=∀(pins:List (Addr×Obj)) (σ:St) (H:Hp) (s:Shared) (e:Value) (s':Shared),Inv X pins σ H s->CX X.stack H s E e s'->X.xe e s'
section
variable {X:Cx} {CX:JZ} {k:Nat} {f C:Addr} {fd:FuncData} {ps:List Str} {sp:Sp} {dvs:List V} {ds:List Value} {E:XK} {x m:Str} {p pos apos:Pos} {e o:Expr} {es:List Expr} {ta:TE} {t:TA}
theorem IB {σ:St} (F:cW X.prog X.w X.K X.mg X.base CX k f fd ps sp) (hr:kI k X.A) (hb:Binds X.K fd ps ds) (hd:cR dvs ds) (hx:wI CX X E)
  (I:Inv X pins σ H s) (r:cR vs us) (h:sp (vs++dvs) H Q E):wpAny (model X.prog X.w) X.A (call (.ref f) us) (EP X pins σ Q) X.xe s:=by
 have r2:cR (vs++dvs) (us++ds):=r.append hd;have hl:(us++ds).length=ps.length:=by rw[<- r2.length];exact F.len _ _ _ _ h
 refine wpAny_call (codeAny_mono (F.run X.A X.stack s H ⟨us,[]⟩ (us++ds) (vs++dvs) Q E hr I.env0 (hb s us I.kIn hl) r2 h) λr s' hq=>?_);cases r with
 | error e=>exact hx pins σ H s e s' I hq
 | ok fl =>
  cases fl with
  | ret u=>exact I.after hq
  | next=>exact False.elim hq
  | brk=>exact False.elim hq
  | cont=>exact False.elim hq
theorem KO (F:cW X.prog X.w X.K X.mg X.base CX k f fd ps sp) (hr:kI k X.A) (hg:Gl X x) (hm:X.mg x=some (.ref f)) (hk:PySem.W.keepIn X.K (.ref f)=true) (hb:Binds X.K fd ps ds) (hd:cR dvs ds) (hx:wI CX X E)
  (ha:PA X (e :: es) t) (hdb:(x == ("__debug__":Str))=false:=by decide) (he:starEach (e :: es) X.env=(false,eval e X.env) :: starEach es X.env:=by rfl) (hpl:(backTo pos (starEach es X.env)).any (·.1)=false:=by rfl) :
  PE X (.Call (.Name x p) (e :: es) [] pos) (Ie sp dvs E t):=by
 intro pins s σ H Q I h;refine wpAny_Call_Name_kw (BU I hg hm ?_ hdb);refine Ed (h₀:=X.base) I.ok.mod.kin hk (gN (ha pos pins s σ H _ I h) λus s1 ⟨vs,H1,I1,r,q⟩=>⟨I1.kIn,?_⟩) he hpl;exact IB F hr hb hd hx I1 r q
theorem gR {pl : Sem Bool} (he : PE X o ta) (c : HK X.K C) (hm : Cp X.K C m f) (F : cW X.prog X.w X.K X.mg X.base CX k f fd ps sp) (hr : kI k X.A) (hb : Binds X.K fd ps ds) (hd : cR dvs ds) (hx : wI CX X E) (ha : PA X (e :: es) t)
    (hst : starEach (e :: es) X.env = (false, eval e X.env) :: starEach es X.env := by rfl) (hpl : (backTo pos (starEach es X.env)).any (·.1) = false := by rfl)
    (ht : eval (.Call (.Attribute o m apos) (e :: es) [] pos) X.env = (do
      let ov <- eval o X.env
      standAt apos.atName
      let (f, first) <- holding [ov] (getMethod ov m pl)
      callWith pos f first (backTo pos (starEach (e :: es) X.env)) (backToKw pos (keywordEach [] X.env))) := by rfl) :
    PE X (.Call (.Attribute o m apos) (e :: es) [] pos) (LG C m sp dvs E ta t) := by
  intro pins s σ H Q I h;refine PySem.W.methodCall_KW (pl := pl) (gN (he pins s σ H _ I h) λu s1 ⟨x, H1, I1, rx, a, dx, fs, ex, ea, l, q⟩ => ?_) ht;subst ex;obtain rfl : u = Value.ref a := rx;refine ER I1 ea c hm l ?_;refine Ed (first := [.ref a]) (h₀ := X.base) I.ok.mod.kin hm.kp (gN (ha pos pins s1 σ H1 _ I1 q) λus s2 ⟨vs, H2, I2, r, q2⟩ => ⟨I2.kIn, ?_⟩) hst hpl;exact IB (us := .ref a :: us) (vs := .ref a :: vs) F hr hb hd hx I2 (.cons rfl r) q2
structure Mk (K:FG9) (C f:Addr):Prop where
 makes:PySem.W.makesIn K C=true
 init:PySem.W.findIn K (.ref C) "__init__"=some (some (.ref f))
 fn:PySem.W.isFn K (.ref f)=true
 kp:PySem.W.keepIn K (.ref C)=true
theorem IA {σ:St} (M:Mk X.K C f) (F:cW X.prog X.w X.K X.mg X.base CX k f fd ps sp) (hr:kI (k+1) X.A) (hb:Binds X.K fd ps ds) (hd:cR dvs ds)
  (hx:wI CX X E) (I:Inv X pins σ H s) (r:cR vs us)
  (h:∀x dx,H x=none->H dx=none->dx≠x->sp (.ref x :: (vs++dvs)) (upd (upd H dx (.own x)) x (.ins C dx [])) (λv H2=>v=.non/\Q (.ref x) H2) E) :
  wpAny (model X.prog X.w) X.A (call (.ref C) us) (EP X pins σ Q) X.xe s:=by
 have hq:=h (s.heap.objs.size+1) s.heap.objs.size (I.hok.fresh (AU _)) (I.hok.fresh (au _)) (cE (iM _));have I2:=Inv.made (C:=C) I;have r2:cR (V.ref (s.heap.objs.size+1) :: (vs++dvs)) (Value.ref (s.heap.objs.size+1) :: (us++ds)):=.cons rfl (r.append hd)
 have hl:(Value.ref (s.heap.objs.size+1) :: us++ds).length=ps.length:=by
  have e:=r2.length;rw[F.len _ _ _ _ hq] at e;exact e.symm
 refine wpAny_call (Jf (f:=f) I.kIn M.makes M.init (beq_iff_eq.mp M.fn) (codeAny_mono (F.run _ X.stack _ _ ⟨Value.ref (s.heap.objs.size+1) :: us,[]⟩ (Value.ref (s.heap.objs.size+1) :: (us++ds)) _ _ E (hr.make C us [])
  (I2.env0.make C us []) (hb _ (Value.ref (s.heap.objs.size+1) :: us) I2.kIn hl) r2 hq) λr s' hq'=>?_))
 cases r with
 | error e=>exact hx pins σ _ _ e s' I2 hq'
 | ok fl =>
  cases fl with
  | ret u =>
   obtain ⟨v,H',I3,rv,ev,q3⟩:=I2.after hq';subst ev;exact ⟨rv,⟨V.ref (s.heap.objs.size+1),H',I3,rfl,q3⟩⟩
  | next=>exact False.elim hq'
  | brk=>exact False.elim hq'
  | cont=>exact False.elim hq'
theorem Bw (M:Mk X.K C f) (F:cW X.prog X.w X.K X.mg X.base CX k f fd ps sp) (hr:kI (k+1) X.A) (hg:Gl X x) (hm:X.mg x=some (.ref C)) (hb:Binds X.K fd ps ds) (hd:cR dvs ds) (hx:wI CX X E)
  (ha:PA X (e :: es) t) (hdb:(x == ("__debug__":Str))=false:=by decide) (he:starEach (e :: es) X.env=(false,eval e X.env) :: starEach es X.env:=by rfl) (hpl:(backTo pos (starEach es X.env)).any (·.1)=false:=by rfl) :
  PE X (.Call (.Name x p) (e :: es) [] pos) (LH C sp dvs E t):=by
 intro pins s σ H Q I h;refine wpAny_Call_Name_kw (BU I hg hm ?_ hdb);refine Ed (h₀:=X.base) I.ok.mod.kin M.kp (gN (ha pos pins s σ H _ I h) λus s1 ⟨vs,H1,I1,r,q⟩=>⟨I1.kIn,?_⟩) he hpl;exact IA M F hr hb hd hx I1 r q
end
structure ba (N P:List Str) (sc:Scope):Prop where
 kind:sc.kind=.function
 co:sc.isCoroutine=false
 gen:sc.isGenerator=false
 nd:N.Nodup
 pre:N.take P.length=P
 par:∀x∈P,sc.names.lookup x=some .local\/sc.names.lookup x=some .cell
 nofree:∀y∈sc.names,y.2≠.free
theorem AG {kindOf:Str->Option NameKind} {x:Str}:∀{binds:List (Str×Value)} {m:Str->Option Value},(∀v,(x,v)∉binds)->bindL kindOf binds m x=m x
 | [],_,_=>rfl
 | (n,v) :: r,m,h=>by
  unfold bindL;rw[AG λw hw=>h w (bK _ hw)]
  split
  ·have:x≠n:=by rintro rfl;exact h v cU
   simp [this]
  ·rfl
theorem AI {kindOf:Str->Option NameKind} {x:Str}:∀{binds:List (Str×Value)} {m:Str->Option Value},(∀v,(x,v)∉binds)->bindC kindOf binds m x=m x
 | [],_,_=>rfl
 | (n,v) :: r,m,h=>by
  unfold bindC;rw[AI λw hw=>h w (bK _ hw)]
  split
  ·rfl
  ·have:x≠n:=by rintro rfl;exact h v cU
   simp [this]
theorem AH {kindOf:Str->Option NameKind} {x:Str} {v:Value}:∀{P:List Str} {vs:List Value} {i:Nat} {m:Str->Option Value},P.Nodup->P[i]?=some x->vs[i]?=some v->kindOf x=some .local →
  bindL kindOf (P.zip vs) m x=some v
 | [],_,_,_,_,h,_,_=>by simp at h
 | _ :: _,[],_,_,_,_,h,_=>by simp at h
 | p :: P,w :: vs,0,m,nd,h1,h2,hk=>by
  simp at h1 h2;subst h1;subst h2;show bindL kindOf ((p,w) :: P.zip vs) m p=_
  unfold bindL;rw[AG λv hv=>(dr.mp nd).1 (J5 hv).1,if_pos hk];simp
 | p :: P,w :: vs,i+1,m,nd,h1,h2,hk=>by
  show bindL kindOf ((p,w) :: P.zip vs) m x=_
  unfold bindL;exact AH (i:=i) (dr.mp nd).2 (by simpa using h1) (by simpa using h2) hk
theorem AJ {kindOf:Str->Option NameKind} {x:Str} {v:Value}:∀{P:List Str} {vs:List Value} {i:Nat} {m:Str->Option Value},P.Nodup->P[i]?=some x->vs[i]?=some v->kindOf x≠some .local →
  bindC kindOf (P.zip vs) m x=some v
 | [],_,_,_,_,h,_,_=>by simp at h
 | _ :: _,[],_,_,_,_,h,_=>by simp at h
 | p :: P,w :: vs,0,m,nd,h1,h2,hk=>by
  simp at h1 h2;subst h1;subst h2;show bindC kindOf ((p,w) :: P.zip vs) m p=_
  unfold bindC;rw[AI λv hv=>(dr.mp nd).1 (J5 hv).1,if_neg hk];simp
 | p :: P,w :: vs,i+1,m,nd,h1,h2,hk=>by
  show bindC kindOf ((p,w) :: P.zip vs) m x=_
  unfold bindC;exact AJ (i:=i) (dr.mp nd).2 (by simpa using h1) (by simpa using h2) hk
def start (N:List Str) (vs:List V):St:=vs.map some++List.replicate (N.length - vs.length) none
def G7 (CX:JZ) (P:Program) (w:World) (K:FG9) (mg:Str->Option Value) (base:Heap) (N:List Str) (qual:Str) (scope:Scope) (f:Addr) (cd:Value) (A:Around) (outer:List Env) (s:Shared) (H:Hp) (E:XK):Cx where
 prog:=P
 w:=w
 K:=K
 mg:=mg
 base:=base
 A:=A.deeper (envOfC qual scope s.heap.objs.size f cd)
 N:=N
 s₀:=s
 H₀:=H
 env:=envOfC qual scope s.heap.objs.size f cd
 outer:=outer
 stack:=envOfC qual scope s.heap.objs.size f cd :: outer
 ex:=[]
 calm:=true
 fn:=λ_=>true
 pn:=[]
 xe:=λe s'=>wpAny (model P w) (A.deeper (envOfC qual scope s.heap.objs.size f cd)) (leaving (envOfC qual scope s.heap.objs.size f cd) e) (λ_ s''=>CX outer H s E e s'') (λe' s''=>CX outer H s E e' s'') s'
theorem DK {sc:Scope} (h:sc.names.lookup x=some .cell):∃c,(cellsFrom n sc.names []).lookup x=some c:=by
 have q:=yh sc.names n [] (.inl h);exact Oz.mp q
theorem GV {K:FG9} 
  (S:ba N ps scope) (hd:A.handled=none) (e0:Ff P w K mg base A outer s H) (hl:vs.length=ps.length) (r:cR vs us)
  (x:InCallC s s.heap.objs.size (bindL (envOfC qual scope s.heap.objs.size f cd).kindOf (ps.zip us) λ_=>none) (cellsFrom (s.heap.objs.size+1) scope.names []) (bindC (envOfC qual scope s.heap.objs.size f cd).kindOf (ps.zip us) λ_=>none) s1) :
  Inv (G7 CX P w K mg base N qual scope f cd A outer s H E) [] (start N vs) H s1:=by
 have hpl:ps.length<=N.length:=by have:=congrArg List.length S.pre;rw[dY] at this;lia
 obtain ⟨h1,tk,rfl,hk⟩:=x.done;have noA:∀b:Addr,b∉(G7 CX P w K mg base N qual scope f cd A outer s H E).ex:=λb z=>absurd (show b∈([]:List Addr) from z) (by simp)
 refine ⟨⟨e0.mod,S.kind,rfl,rfl,au _,λy z c h1 h2=>?_,λy hy=>?_,λy c _ h=>?_,λ_=>hd,Around.frames_deeper e0.frames,.inr ⟨rfl,rfl⟩,λb z=>absurd z (noA b),e0.bs,e0.bsz,λb _ _=>noA b,λb z=>absurd z (noA b),e0.funs,e0.frf⟩,
  rfl,e0.bare,Un.kept hk,⟨_,x.toInCall.ns,λi y v h1 h2 h3=>?_⟩,λy c h=>⟨_,x.cell y c h⟩,e0.hok.fresh (au _),λy c h=>?_,λp hp=>absurd (show p∈([]:List (Addr×Obj)) from hp) (by simp),e0.hok.kept hk,?_⟩
 ·exact name_of_addr x.apart (kL h1) (kL h2)
 ·have hy:scope.names.lookup y=some .cell\/scope.names.lookup y=some .free:=hy;rcases hy with hy | hy
  ·exact DK hy
  ·exact absurd rfl (S.nofree _ (kL hy))
 ·exact aT (x.above y c (kL h))
 ·have hi:i < vs.length:=by
   unfold start at h2;by_cases hi:i < vs.length
   ·exact hi
   ·rw[jP (by simpa using hi)] at h2;rw[P9] at h2
    split at h2 <;> cases h2
  have ha:vs[i]?=some v:=by
   unfold start at h2;rw[kK (by simpa using hi),aB] at h2;cases e:vs[i]? with
   | none=>rw[e] at h2;cases h2
   | some a=>rw[e] at h2;cases h2;rfl
  obtain ⟨u,hu,rv⟩:=r.get ha
  have hp:ps[i]?=some y:=by
   rw[<- S.pre,List.getElem?_take_of_lt (by lia)];exact h1
  have ndP:ps.Nodup:=by rw[<- S.pre];exact S.nd.sublist (List.take_sublist _ _)
  refine ⟨u,rv,?_⟩;rcases S.par y (ak hp) with k | k
  ·exact .inl ⟨k,AH ndP hp hu k⟩
  ·obtain ⟨c,e⟩:=DK (n:=s.heap.objs.size+1) k;refine .inr ⟨.inl k,c,e,?_⟩;have q:=x.cell y c e;rw[AJ ndP hp hu (by show scope.names.lookup y≠_;rw[k];decide)] at q;exact q
 ·exact e0.hok.fresh (aT (x.above y c (kL h)))
 ·unfold start;show _=N.length
  rw[aD,ag,gE]
  lia
theorem Px {K:FG9} {dV kV doc pm cdv ct oc:Value} 
 (lk:K.lookup f=some ⟨oc,od,.func (PySem.W.fnOf name qual params body scope dV kV doc pm an cdv ct),osl⟩) (hcd:PySem.W.codeIn K cdv qual=true) (S:ba N ps scope)
  (len:∀vs H Q E,sp vs H Q E->vs.length=ps.length)
  (hbody:∀(A:Around) (outer:List Env) (s:Shared) (H:Hp) (vs:List V) (Q:VK) (E:XK),kI k (A.deeper (envOfC qual scope s.heap.objs.size f cdv))->sp vs H Q E →
   ∃t,E7 (G7 CX P w K mg base N qual scope f cdv A outer s H E) body t/\t { nx:=λ_ H'=>Q .non H',rt:=Q } (start N vs) H) :
  cW P w K mg base CX (k+1) f (PySem.W.fnOf name qual params body scope dV kV doc pm an cdv ct) ps sp:=by
 refine ⟨len,λA outer s H args us vs Q E hr e0 hb r hsp=>?_⟩;have hl:=len _ _ _ _ hsp;have KX:K.In s.heap:=e0.mod.kin.keeps λb o e=>(e0.bs b o e).1
 have lim:s.heap.NoLimit:=e0.mod.nolimit.keeps λb o e=>(e0.bs b o e).1
 have hkind:∀y∈ps.zip us,scope.names.lookup y.1=some .local\/(scope.names.lookup y.1=some .cell/\((cellsFrom (s.heap.objs.size+1) scope.names []).lookup y.1).isSome=true):=λ⟨n,v⟩ hy=>by
  rcases S.par n (J5 hy).1 with q | q
  ·exact .inl q
  ·exact .inr ⟨q,yh _ _ _ (.inl q)⟩
 refine codeAny_call_function hr.depth (KX _ _ lk) rfl S.co S.gen rfl (PySem.W.codeRec_of KX hcd) (hb _ _ _ _ ?_);refine wpAny_newFunctionEnv_cells S.kind hkind λenv he s1 x=>?_
 subst he;refine ⟨lim.keeps x.toInCall.keep,codeAny_func ?_⟩;obtain ⟨t,ht,hq⟩:=hbody A outer s H vs Q E (hr.deeper _) hsp;have I:Inv (G7 CX P w K mg base N qual scope f cdv A outer s H E) [] (start N vs) H s1:=GV S hr.hd e0 hl r x;refine wpAny_mono (ht [] s1 (start N vs) H _ I hq) (λfl s' hs=>?_) λe s' hs=>hs
 have fin:∀{σ':St} {H':Hp} {v:V} {u:Value},Inv (G7 CX P w K mg base N qual scope f cdv A outer s H E) [] σ' H' s'->RelV v u->Q v H'->CE outer P w H s Q u s' :=
  λ{σ' H' v u} J rv q=>⟨v,H',J.os,J.bare,J.base,J.hok,rv,q⟩
 cases fl with
 | ret u =>
  obtain ⟨v,σ',H',J,rv,q⟩:=hs;exact fin J rv q
 | next =>
  obtain ⟨σ',H',J,q⟩:=hs;exact fin (v:=V.non) (u:=Value.none) J rfl q
 | brk =>
  obtain ⟨_,_,_,q⟩:=hs;exact False.elim q
 | cont =>
  obtain ⟨_,_,_,q⟩:=hs;exact False.elim q
section
variable {X:Cx} {x:Str} {p pos:Pos} {e:Expr} {es:List Expr} {t:TA} {id T:String} {r:List V->Hp->VK->Prop}
def Qm (r:List V->Hp->VK->Prop) (t:TA):TE:=λσ H Q=>t σ H λvs H1=>r vs H1 Q
theorem bO (hc:rW X (.builtin id) r) (hg:Gl X x) (hm:X.mg x=none) (hv:bootBuiltins x=some (.builtin id)) (ha:PA X (e :: es) t) (hn:x≠"__name__":=by decide) (hdb:(x == ("__debug__":Str))=false:=by decide)
  (he:starEach (e :: es) X.env=(false,eval e X.env) :: starEach es X.env:=by rfl) (hpl:(backTo pos (starEach es X.env)).any (·.1)=false:=by rfl):PE X (.Call (.Name x p) (e :: es) [] pos) (Qm r t):=by
 intro pins s σ H Q I h;refine wpAny_Call_Name_kw (oq I hg hm hv ?_ hn hdb);exact PyProof.Rows.callWith_builtin1 (gN (ha pos pins s σ H _ I h) λus s1 ⟨vs,H1,I1,r1,q1⟩=>hc pins s1 σ H1 vs us Q I1 r1 q1) he hpl
theorem cZ (hc:rW X (.type T) r) (hg:Gl X x) (hm:X.mg x=none) (hv:bootBuiltins x=some (.type T)) (ha:PA X (e :: es) t) (hn:x≠"__name__":=by decide) (hdb:(x == ("__debug__":Str))=false:=by decide)
  (he:starEach (e :: es) X.env=(false,eval e X.env) :: starEach es X.env:=by rfl) (hpl:(backTo pos (starEach es X.env)).any (·.1)=false:=by rfl):PE X (.Call (.Name x p) (e :: es) [] pos) (Qm r t):=by
 intro pins s σ H Q I h;refine wpAny_Call_Name_kw (oq I hg hm hv ?_ hn hdb);exact PyProof.Rows.callWith_type1 (gN (ha pos pins s σ H _ I h) λus s1 ⟨vs,H1,I1,r1,q1⟩=>hc pins s1 σ H1 vs us Q I1 r1 q1) he hpl
end
end L2
namespace HT
open PySem PyProof.Rows
section
open PySem.SeqAt
open PySem.AutoSeq1 (wpAny_loadPart')
open PySem.MeetsSeq PySem.MeetsSeq2 PySem.MeetsSeq3
end
section
variable {prog:Program} {w:World} {A:Around} {E:Value->Shared->Prop} {s:Shared}
def Dj (n d:Nat):Option Int->Nat
 | none=>d
 | some v=>if v < 0 then (v+(n:Int)).toNat else min v.toNat n
theorem yy (n d:Nat):Dj n d none=d:=rfl
theorem Br (n d k:Nat):Dj n d (some (k:Int))=min k n:=by
 show (if (k:Int) < 0 then ((k:Int)+(n:Int)).toNat else min (k:Int).toNat n)=min k n
 rw[if_neg (by lia),Int.toNat_natCast]
end
end HT
namespace L2
open PySem PySem.Spec PyProof.Rows
abbrev TO:=St->Hp->(Option Int->Hp->Prop)->Prop
def PO (X:Cx) (e:Option Expr) (t:TO):Prop :=
 ∀(pins:List (Addr×Obj)) (s:Shared) (σ:St) (H:Hp) (Q:Option Int->Hp->Prop),Inv X pins σ H s->t σ H Q →
  wpAny (model X.prog X.w) X.A (evalPart e X.env) (λu s'=>∃o H',Inv X pins σ H' s'/\IsPart u o/\Q o H') X.xe s
def Fj:TO:=λ_ H Q=>Q none H
def LC (t:TE):TO:=λσ H Q=>t σ H λx H1=>∃i,x=.int i/\Q (some i) H1
theorem intsAre_of:∀{us:List Value},cR (ns.map V.int) us->IntsAre us ns:=by
 induction ns with
 | nil=>intro us r;rw[List.map_nil] at r;cases r;exact .nil
 | cons n ns ih =>
  intro us r;rw[kR] at r;cases r with
  | cons r1 r2 =>
   obtain ⟨t,e⟩:=r1;subst e;exact .cons n t (ih r2)
section
variable {X:Cx} {e:Expr} {te:TE} {lo hi:Option Expr} {tl th:TO} {pos p2:Pos}
theorem xW:PO X none Fj:=by
 intro pins s σ H Q I h;rw[evalPart_none];exact wpAny_pure ⟨none,H,I,.none,h⟩
theorem xV (h:PE X e te):PO X (some e) (LC te):=by
 intro pins s σ H Q I hw;rw[evalPart_some];refine gN (h pins s σ H _ I hw) λu s1 ⟨x,H1,I1,r1,q1⟩=>?_
 obtain ⟨i,rfl,q⟩:=q1;obtain ⟨t,rfl⟩:=r1;exact ⟨some i,H1,I1,.int i t,q⟩
def QD (X:Cx) (r:V->Option Int->Option Int->Hp->VK->Prop):Prop :=
 ∀(pins:List (Addr×Obj)) (s:Shared) (σ:St) (H:Hp) (x:V) (v vl vu:Value) (lo hi:Option Int) (sl:Addr) (Q:VK),Inv X pins σ H s->RelV x v->s.heap.IsSliceOf sl vl vu .none->IsPart vl lo->IsPart vu hi->r x lo hi H Q →
  ∃T id,typeLookup (.type T) "__getitem__"=pure (some (.builtin id))/\s.TypeIs v T/\wpAny (model X.prog X.w) X.A (getItem v (.ref sl)) (EP X pins σ Q) X.xe s
def tSl (r:V->Option Int->Option Int->Hp->VK->Prop) (te:TE) (tl th:TO):TE:=λσ H Q=>te σ H λx H1=>tl σ H1 λl H2=>th σ H2 λu H3=>r x l u H3 Q
theorem uO (hr:QD X r) (he:PE X e te) (hl:PO X lo tl) (hu:PO X hi th):PE X (.Subscript e (.Slice lo hi none p2) pos) (tSl r te tl th):=by
 intro pins s σ H Q I h;refine Subscript_ (gN (he pins s σ H _ I h) λv s1 ⟨x,H1,I1,r1,q1⟩=>?_);refine wpAny_Slice (gN (hl pins s1 σ H1 _ I1 q1) λvl s2 ⟨l,H2,I2,pl,q2⟩=>gN (hu pins s2 σ H2 _ I2 q2) λvu s3 ⟨u,H3,I3,pu,q3⟩=>?_);rw[evalPart_none];refine wpAny_pure ?_;have I4:Inv X pins σ H3 { s3 with heap:=s3.heap.push { cls:=.type "slice",data:=.fields #[vl,vu,.none] } }:=I3.kept (t':=s3.toks) λb ob q=>Heap.get?_push_of_some _ q
 obtain ⟨T,id,hT,ht,hg⟩:=hr pins { s3 with heap:=s3.heap.push { cls:=.type "slice",data:=.fields #[vl,vu,.none] } } σ H3 x v vl vu l u s3.heap.objs.size Q I4 r1 (Heap.IsSliceOf.new ..) pl pu q3;show wpAny (model X.prog X.w) X.A (subscriptTail e (.Slice lo hi none p2) v (.ref s3.heap.objs.size)) (EP X pins σ Q) X.xe { s3 with heap:=s3.heap.push { cls:=.type "slice",data:=.fields #[vl,vu,.none] } }
 exact tail_any (ops:=[.ref s3.heap.objs.size,v]) ht hT hg (by with_unfolding_all rfl)
def sE (xs:List V) (lo hi:Option Int):List V:=(xs.drop (HT.Dj xs.length 0 lo)).take (HT.Dj xs.length xs.length hi - HT.Dj xs.length 0 lo)
theorem xn (xs:List V) (lo hi:Option Int):(sE xs lo hi).length<=xs.length:=by
 unfold sE;rw[dY,eZ]
 lia
end
def HN (n:Nat) (i:Int):Option Nat:=if 0<=i then (if i < n then some i.toNat else none) else if -(n:Int)<=i then some (i+n).toNat else none
def E1 {α:Type} (xs:List α) (i:Int):Option α:=(HN xs.length i).bind λj=>xs[j]?
theorem FQ (h:HN n i=some j):seqIndex? i n=some j/\j < n/\-(n:Int)<=i/\i < n:=by
 unfold HN at h;by_cases h0:0<=i
 ·rw[if_pos h0] at h;by_cases h1:i < n
  ·rw[if_pos h1] at h;have e:i.toNat=j:=b7 h;exact ⟨by rw[seqIndex_of h0 h1,e],by lia,by lia,h1⟩
  ·rw[if_neg h1] at h;cases h
 ·rw[if_neg h0] at h;by_cases h1:-(n:Int)<=i
  ·rw[if_pos h1] at h;have e:(i+n).toNat=j:=b7 h;exact ⟨by rw[seqIndex_neg (by lia) h1,e],by lia,h1,by lia⟩
  ·rw[if_neg h1] at h;cases h
theorem Cm {xs:List α} {v:α} (h:E1 xs i=some v):∃j,seqIndex? i xs.length=some j/\xs[j]?=some v/\j < xs.length/\-(xs.length:Int)<=i/\i < xs.length:=by
 unfold E1 at h;cases e:HN xs.length i with
 | none=>rw[e] at h;cases h
 | some j =>
  rw[e] at h;obtain ⟨h1,h2,h3,h4⟩:=FQ e;exact ⟨j,h1,h,h2,h3,h4⟩
theorem gh {xs:List α} {j:Nat} {v:α} (h:xs[j]?=some v):E1 xs (j:Int)=some v:=by
 have hj:j < xs.length:=(aY.mp h).1
 have e:HN xs.length (j:Int)=some j:=by
  unfold HN;rw[if_pos (by lia),if_pos (by lia)];simp
 unfold E1;rw[e];exact h
theorem DR (xs:List α) (v:α):E1 (xs++[v]) (-1)=some v:=by
 have hl:(xs++[v]).length=xs.length+1:=by simp
 have e:HN (xs++[v]).length (-1)=some xs.length:=by
  unfold HN;rw[hl,if_neg (by decide),if_pos (by lia)];congr 1
  lia
 unfold E1;rw[e];show (xs++[v])[xs.length]?=some v
 simp
def Lx (b:Expr):Prop:=∀o i,subscripted b false o i=operate [o,i] (getItem o i)
def PX (X:Cx) (r:R2):Prop :=
 ∀(value slice:Expr) (pins:List (Addr×Obj)) (s:Shared) (σ:St) (H:Hp) (x y:V) (v u:Value) (Q:VK),Inv X pins σ H s->RelV x v->RelV y u->r x y H Q →
  subscripted slice false v u=operate [v,u] (getItem v u)->wpAny (model X.prog X.w) X.A (subscriptTail value slice v u) (EP X pins σ Q) X.xe s
def MtR (X:Cx) (id:String) (r:V->List V->Hp->VK->Prop):Prop :=
 ∀(pins:List (Addr×Obj)) (s:Shared) (σ:St) (H:Hp) (x:V) (xs:List V) (v:Value) (us:List Value) (Q:VK),Inv X pins σ H s->RelV x v->cR xs us->r x xs H Q →
  wpAny (model X.prog X.w) X.A (call (.builtin id) (v :: us)) (EP X pins σ Q) X.xe s
section
variable {X:Cx} {a b:Expr} {ta tb:TE} {pos:Pos}
theorem aR {r:R2} (hr:PX X r) (ha:PE X a ta) (hb:PE X b tb) (hs:Lx b:=by intro _ _;rfl):PE X (.Subscript a b pos) (OK r ta tb):=by
 intro pins s σ H Q I h;exact Subscript_ (Oc ha hb I h λv u s2 x y H2 I2 rx ry q=>hr a b pins s2 σ H2 x y v u Q I2 rx ry q (hs _ _))
def Nk (K:FG9):R2:=λx y H Q=>∃p xs i v,x=.ref p/\y=.int i/\bP K H p xs/\E1 xs i=some v/\Q v H
def Nj (K:FG9):R2:=λx y H Q=>∃p xs i v,x=.ref p/\y=.int i/\qG K H p xs/\E1 xs i=some v/\Q v H
theorem bf:PX X (Nk X.K):=by
 intro value slice pins s σ H x y v u Q I rx ry h hs;obtain ⟨p,xs,i,z,rfl,rfl,hq,he,q⟩:=h;cases rx;obtain ⟨t,rfl⟩:=ry;obtain ⟨its,r,pl,hz⟩:=I.list hq;obtain ⟨j,h1,h2,h3,h4,h5⟩:=Cm he;obtain ⟨w,ew,rw'⟩:=r.get h2;have hl:=r.length;have hn:=yT;have fin:EP X pins σ Q w s:=⟨z,H,I,rw',q⟩;by_cases h0:0<=i
 ·have hj:i.toNat=j:=by
   rw[seqIndex_of h0 h5] at h1;exact b7 h1
  exact item_listR pl.isList h0 (by lia) (by rw[hj];simpa using ew) fin hs
 ·have hj:(i+(its.toArray.size:Int)).toNat=j:=by
   rw[seqIndex_neg (by lia) h4] at h1;rw[aP,<- hl];exact b7 h1
  exact subscriptTail_builtinR (x:=w) pl.isList.typeIs slot_list_getitem.lookup
   (wpAny_getItem_list_neg (Q:=λr s'=>r=w/\EP X pins σ Q r s') pl.isList (by lia) (by rw[aP] <;> lia) (by lia) (by rw[hj];simpa using ew) ⟨rfl,fin⟩) hs
theorem bT:PX X (Nj X.K):=by
 intro value slice pins s σ H x y v u Q I rx ry h hs;obtain ⟨p,xs,i,z,rfl,rfl,hq,he,q⟩:=h;cases rx;obtain ⟨t,rfl⟩:=ry;obtain ⟨its,r,pl,hz⟩:=I.tuple hq;obtain ⟨j,h1,h2,h3,h4,h5⟩:=Cm he;obtain ⟨w,ew,rw'⟩:=r.get h2;have hl:=r.length;have hn:=yT;have fin:EP X pins σ Q w s:=⟨z,H,I,rw',q⟩
 exact subscriptTail_builtinR (x:=w) pl.typeIs slot_tuple_getitem.lookup
  (getItem_tuple (j:=j) (Q:=λr s'=>r=w/\EP X pins σ Q r s') pl (by lia) (by lia) (by rw[aP,<- hl];exact h1) (by simpa using ew) ⟨rfl,fin⟩) hs
theorem EH (its:List Value) (n j:Nat) (u:Value):Obj.mapSeq (·.setIfInBounds j u) { cls:=.type "list",data:=.seq its.toArray n }={ cls:=.type "list",data:=.seq (its.set j u).toArray n }:=by
 simp [Obj.mapSeq]
theorem Inv.lst {pins:List (Addr×Obj)} {σ:St} {H:Hp} {s:Shared} {p:Addr} {xs:List V} (I:Inv X pins σ H s) (h:H p=some (.lst xs)) :
  ∃(its:List Value) (n:Nat),cR xs its/\s.heap.get? p=some { cls:=.type "list",data:=.seq its.toArray n }/\xs.length<=sizeLine:=by
 obtain ⟨z,its,n,r,e⟩:=I.hok p _ h;exact ⟨its,n,r,e,z⟩
theorem Inv.lstUpd {σ:St} {its its':List Value} (I:Inv X pins σ H s) (h:H p=some (.lst xs))
  (ho:s.heap.get? p=some { cls:=.type "list",data:=.seq its.toArray n }) (hf:f { cls:=.type "list",data:=.seq its.toArray n }={ cls:=.type "list",data:=.seq its'.toArray n' }) (r:cR ys its') (hz:ys.length<=sizeLine) (t:Nat) :
  Inv X pins σ (upd H p (.lst ys)) { s with heap:=s.heap.update p f,toks:=t }:=by
 have e:(s.heap.update p f).get? p=some { cls:=.type "list",data:=.seq its'.toArray n' }:=by
  rw[Heap.get?_update_self f ho (by rw[hf] <;> rfl),hf]
 refine I.write (x:=p) (e:=p) (by rw[h];trivial) (.inl rfl) (λb u hb q=>(Heap.get?_update_other _ _ (Ne.symm hb)).trans q) ⟨_,e⟩ ?_;exact ⟨hz,its',n',r,e⟩
def LN:V->V->V->Hp->(Hp->Prop)->Prop:=λo i v H Q=>∃p xs k j,o=.ref p/\i=.int k/\H p=some (.lst xs)/\HN xs.length k=some j/\Q (upd H p (.lst (xs.set j v)))
theorem set_list:Oh X LN:=by
 intro pins s σ H o i v ov iv u Q I ro ri rv h;obtain ⟨p,xs,k,j,rfl,rfl,hp,hj,q⟩:=h;cases ro;obtain ⟨t,rfl⟩:=ri;obtain ⟨its,n,r,ho,hz⟩:=I.lst hp;obtain ⟨h1,h2,h3,h4⟩:=FQ hj;have hl:=r.length;have hn:=yT
 have I':Inv X pins σ (upd H p (.lst (xs.set j v))) { s with heap:=s.heap.update p (Obj.mapSeq (·.setIfInBounds j u)) } :=
  I.lstUpd hp ho (EH its n j u) (r.set rv j) (by rw[jq];exact hz) s.toks
 by_cases h0:0<=k
 ·have hk:k.toNat=j:=by
   rw[seqIndex_of h0 h4] at h1;exact b7 h1
  exact PySem.W.ki_setAt ho h0 (by lia) (by rw[aP,<- hl];exact h4) (by rw[hk];exact ⟨_,I',q⟩)
 ·have hk:(k+(its.toArray.size:Int)).toNat=j:=by
   rw[seqIndex_neg (by lia) h3] at h1;rw[aP,<- hl];exact b7 h1
  exact PySem.W.ki_setBack ho (by lia) (by rw[aP,<- hl];exact h3) (by lia) (by rw[hk];exact ⟨_,I',q⟩)
theorem Be (lo hi:Option Int) (n:Nat):(sliceBounds lo hi none n).1=((HT.Dj n 0 lo:Nat):Int)/\(sliceBounds lo hi none n).2.1=((HT.Dj n n hi:Nat):Int)/\(sliceBounds lo hi none n).2.2=1:=by
 refine ⟨?_,?_,rfl⟩
 ·cases lo with
  | none=>simp [sliceBounds,HT.Dj]
  | some i =>
   simp only[sliceBounds,HT.Dj,Option.getD_none,show (1:Int) > 0 by decide,if_true];by_cases h:i < 0
   ·simp only[h,if_true] <;> lia
   ·simp only[h,if_false] <;> lia
 ·cases hi with
  | none=>simp [sliceBounds,HT.Dj]
  | some i =>
   simp only[sliceBounds,HT.Dj,Option.getD_none,show (1:Int) > 0 by decide,if_true];by_cases h:i < 0
   ·simp only[h,if_true] <;> lia
   ·simp only[h,if_false] <;> lia
theorem zP (its:List Value) (lo hi:Option Int):slicePick its.toArray lo hi none=((its.drop (HT.Dj its.length 0 lo)).take (HT.Dj its.length its.length hi - HT.Dj its.length 0 lo)).toArray:=by
 obtain ⟨h1,h2,h3⟩:=Be lo hi its.toArray.size;unfold slicePick;rw[h1,h2,h3];simp only[sliceRange_one,pick_run,aP] <;> rfl
def Ni (K:FG9):V->Option Int->Option Int->Hp->VK->Prop:=λx lo hi H Q=>∃a xs,x=.ref a/\bP K H a xs/\∀p,H p=none->Q (.ref p) (upd H p (.lst (sE xs lo hi)))
theorem xT:QD X (Ni X.K):=by
 intro pins s σ H x v vl vu lo hi sl Q I rx hs pl pu h;obtain ⟨a,xs,rfl,hx,q⟩:=h;cases rx;obtain ⟨its,r,ht,hz⟩:=I.list hx;have hlen:=r.length;refine ⟨"list",_,slot_list_getitem.lookup,ht.isList.typeIs,?_⟩;refine wpAny_getItem_list_slice ht.isList hs pl pu .none (by simp) ?_ (by rw[aP] <;> lia);rw[zP,<- hlen];refine ⟨.ref s.heap.objs.size,_,I.laid (t':=s.toks) (o:=.lst (sE xs lo hi)) (λb ob q=>Heap.get?_push_of_some _ q) (au _) ?_,rfl,q _ (I.hok.fresh (au _))⟩;exact ⟨aj (xn xs lo hi) hz,_,0,(r.drop (HT.Dj xs.length 0 lo)).take (HT.Dj xs.length xs.length hi - HT.Dj xs.length 0 lo),Heap.get?_push_size _ rfl⟩
theorem bG:rW X (.builtin "len") (λxs H Q=>∃p ys,xs=[.ref p]/\(bP X.K H p ys\/qG X.K H p ys)/\Q (.int ys.length) H):=by
 intro pins s σ H xs us Q I r h;obtain ⟨p,ys,rfl,hq,q⟩:=h;obtain ⟨u,rfl,rx⟩:=vals1 r;cases rx;have hn:=yT;rcases hq with hq | hq
 ·obtain ⟨its,r',pl,hz⟩:=I.list hq;have hlen:=r'.length;exact Calls.call_len_list pl.isList (by simp only[aP] <;> lia) ⟨.int ys.length,H,I.tok _,⟨s.toks+1,by rw[aP,hlen]⟩,q⟩
 ·obtain ⟨its,r',pl,hz⟩:=I.tuple hq;have hlen:=r'.length;exact len_tuple pl (by simp only[aP] <;> lia) ⟨.int ys.length,H,I.tok _,⟨s.toks+1,by rw[aP,hlen]⟩,q⟩
theorem c5:rW X (.type "list") (λxs H Q=>∃p ys,xs=[.ref p]/\(bP X.K H p ys\/qG X.K H p ys)/\∀l,H l=none->Q (.ref l) (upd H l (.lst ys))):=by
 intro pins s σ H xs us Q I r h;obtain ⟨p,ys,rfl,hq,q⟩:=h;obtain ⟨u,rfl,rx⟩:=vals1 r;cases rx
 have fin:∀(its:List Value),cR ys its->ys.length<=sizeLine->∀(h':Heap) (c':Nat),(∀b o',s.heap.get? b=some o'->h'.get? b=some o') →
   h'.get? s.heap.objs.size=some { cls:=.type "list",dict:=none,data:=.seq its.toArray c',slots:=#[] }->EP X pins σ Q (.ref s.heap.objs.size) { s with heap:=h' }:=λits r' hz h' c' kp e =>
  ⟨.ref s.heap.objs.size,_,I.laid (t':=s.toks) kp (au _) (show jk X.prog X.w _ h' _ (.lst ys) from ⟨hz,its,c',r',e⟩),rfl,q _ (I.hok.fresh (au _))⟩
 rcases hq with hq | hq
 ·obtain ⟨its,r',pl,hz⟩:=I.list hq;have hlen:=r'.length;obtain ⟨o,ho,hc,n,hd⟩:=pl.isList;exact call_list_seq p (.inl rfl) ho hc hd (λh' c' kp e=>fin its r' hz h' c' kp e) (by simp only[aP] <;> lia)
 ·obtain ⟨its,r',pl,hz⟩:=I.tuple hq;have hlen:=r'.length;obtain ⟨o,ho,hc,n,hd⟩:=pl;exact call_list_seq p (.inr rfl) ho hc hd (λh' c' kp e=>fin its r' hz h' c' kp e) (by simp only[aP] <;> lia)
def Ql (K:FG9) (T:String) (x:V) (H:Hp):Prop:=match x with
 | .str _=>T="str"
 | .int _=>T="int"
 | .ref p=>(T="list"/\∃xs,bP K H p xs)\/(T="tuple"/\∃o,K.lookup p=some o/\o.cls=.type "tuple"/\o.dict=none) \/
   (T="dict"/\((∃kvs,H p=some (.dK kvs))\/∃kvs,H p=some (.dT kvs)))\/(T="set"/\∃S n,H p=some (.set S n))
 | _=>False
theorem Mt {σ:St} (I:Inv X pins σ H s) (r:RelV x v) (ty:Ql X.K T x H) :
  s.TypeIs v T/\∀a,v=.ref a->∃ob,s.heap.get? a=some ob/\ob.dict=none:=by
 cases x with
 | str z =>
  obtain ⟨t,rfl⟩:=r;cases (show T="str" from ty);exact ⟨typeIs_str s z t,λ_ e=>nomatch e⟩
 | int i =>
  obtain ⟨t,rfl⟩:=r;cases (show T="int" from ty);exact ⟨typeIs_int s i t,λ_ e=>nomatch e⟩
 | ref p =>
  cases r;rcases ty with ⟨rfl,xs,hq⟩ | ⟨rfl,o,hk,hc,hd⟩ | ⟨rfl,hk⟩ | ⟨rfl,S,n,hk⟩
  ·obtain ⟨its,_,pl,_⟩:=I.list hq;refine ⟨pl.isList.typeIs,λa e=>?_⟩;cases e;obtain ⟨o,n,e,c,hd,_⟩:=pl;exact ⟨o,e,hd⟩
  ·refine ⟨⟨o,I.kIn p o hk,hc⟩,λa e=>?_⟩;cases e;exact ⟨o,I.kIn _ o hk,hd⟩
  ·have z:∃o,s.heap.get? p=some o/\o.ExactDict:=by
    rcases hk with ⟨kvs,hk⟩ | ⟨kvs,hk⟩
    ·obtain ⟨_,_,_,_,o,_,_,e,ex,_⟩:=I.hok p _ hk;exact ⟨o,e,ex⟩
    ·obtain ⟨_,_,_,_,o,_,_,e,ex,_⟩:=I.hok p _ hk;exact ⟨o,e,ex⟩
   obtain ⟨o,e,ex⟩:=z;refine ⟨⟨o,e,ex.1⟩,λa e2=>?_⟩;cases e2;exact ⟨o,e,ex.2.1⟩
  ·obtain ⟨o,_,_,_,e,ex,_⟩:=I.hok p _ hk;refine ⟨⟨o,e,ex.1⟩,λa e2=>?_⟩;cases e2;exact ⟨o,e,ex.2.1⟩
 | _=>exact False.elim ty
def tBM (K:FG9) (T:String) (r:V->List V->Hp->VK->Prop) (to:TE) (t:TA):TE:=λσ H Q=>to σ H λx H1=>Ql K T x H1/\t σ H1 λxs H2=>r x xs H2 Q
variable {o e:Expr} {es:List Expr} {to:TE} {t:TA} {name:Str} {apos cpos:Pos} {T id:String} {r:V->List V->Hp->VK->Prop}
theorem rh (pa:PlainAttrs T) (slot:Slot T name id) (hty:typeOf (.builtin id)=pure (.type "method_descriptor")) (hm:MtR X id r) (ho:PE X o to) (ha:PA X (e :: es) t)
  (hbase:attributeBase o name X.env (eval o X.env)=eval o X.env:=by rfl)
  (hfew:((backTo cpos (starEach (e :: es) X.env)).all (λx=>!x.1) && (backToKw cpos (keywordEach [] X.env)).all (λx=>x.1.isSome)
   && decide ((e :: es).length+([]:List Keyword).length+(if ([]:List Keyword).isEmpty then 0 else 1) < 30))=true:=by rfl)
  (hline:(apos.endLine == cpos.line)=true:=by rfl) (hs:starEach (e :: es) X.env=(false,eval e X.env) :: starEach es X.env:=by rfl) (hplain:(backTo cpos (starEach es X.env)).any (·.1)=false:=by rfl) :
  PE X (.Call (.Attribute o name apos) (e :: es) [] cpos) (tBM X.K T r to t):=by
 intro pins s σ H Q I h;refine wpAny_Call_method_late hbase hfew hline rfl (gN (ho pins s σ H _ I h) λv s1 ⟨x,H1,I1,r1,ty,q1⟩=>?_);obtain ⟨h1,h2⟩:=Mt I1 r1 ty;refine ⟨T,id,pa,slot,hty,h1,h2,?_⟩;have hA:=ha cpos pins s1 σ H1 _ I1 q1;rw[hs] at hA ⊢;refine Calls.callWith_builtin (by show (false || (backTo cpos (starEach es X.env)).any (·.1))=false;rw[hplain] <;> rfl) (Calls.evalArgs_plain ?_);exact gN hA λus s2 ⟨vs,H2,I2,r2,q2⟩=>hm pins s2 σ H2 x vs v us Q I2 r1 r2 q2
end
def MtM (X:Cx) (id:String) (r:V->List V->Hp->VK->Prop):Prop :=
 ∀(pins:List (Addr×Obj)) (s:Shared) (σ:St) (H:Hp) (x:V) (xs:List V) (v:Value) (us:List Value) (Q:VK),Inv X pins σ H s->RelV x v->cR xs us->r x xs H Q →
  wpAny (model X.prog X.w) X.A (call (.builtin id) (v :: us)) (EP X pins σ Q) X.xe s
theorem cR.one:∀{x:V} {us:List Value},cR [x] us->∃u,us=[u]/\RelV x u
 | _,_,.cons r .nil=>⟨_,rfl,r⟩
theorem cR.rep {xs:List V} {us:List Value} (h:cR xs us):∀k:Nat,cR (List.replicate k xs).flatten (List.replicate k us).flatten
 | 0=>.nil
 | k+1=>by
  rw[kM,kM,nJ,nJ];exact cR.append h (cR.rep h k)
theorem foldl_rep (its:List Value):∀(k:Nat) (acc:List Value),
  List.foldl (λx1 x2=>x1++x2) acc.toArray (List.replicate k its.toArray)=(acc++(List.replicate k its).flatten).toArray
 | 0,acc=>by simp
 | k+1,acc=>by
  have e:acc.toArray++its.toArray=(acc++its).toArray:=by simp
  have e2:(acc++its)++(List.replicate k its).flatten=acc++(List.replicate (k+1) its).flatten:=by
   rw[kM,nJ,cF]
  rw[<- e2,<- foldl_rep its k (acc++its),<- e,kM,List.foldl_cons]
section
variable {X:Cx} {pins:List (Addr×Obj)} {σ:St} {H:Hp} {s:Shared} {l b:Addr} {xs ys zs:List V}
theorem Inv.lset {its its':List Value} (I:Inv X pins σ H s) (hH:H l=some (.lst xs))
  (e:s.heap.get? l=some { cls:=.type "list",data:=.seq its.toArray n }) (hf:f its.toArray=its'.toArray) (hv:cR ys its') (hz:ys.length<=sizeLine) :
  Inv X pins σ (upd H l (.lst ys)) { s with heap:=s.heap.update l (Obj.mapSeq f),toks:=t' }:=by
 have q:=ko e f;rw[hf] at q;refine I.write (x:=l) (e:=l) (by rw[hH];exact trivial) (.inl rfl) (λb' u hb hu=>(Heap.get?_update_other s.heap (Obj.mapSeq f) (Ne.symm hb)).trans hu) ⟨_,q⟩ ?_;exact ⟨hz,its',_,hv,q⟩
theorem Inv.lnew (I:Inv X pins σ H s) (hv:cR ys its) (hz:ys.length<=sizeLine) :
  Inv X pins σ (upd H s.heap.objs.size (.lst ys)) { s with heap:=s.heap.push { cls:=.type "list",data:=.seq its.toArray },toks:=t' } :=
 I.laid (λ_ _ q=>Heap.get?_push_of_some _ q) (au _) ⟨hz,its,0,hv,Heap.get?_push_size _ rfl⟩
theorem Inv.fresh (I:Inv X pins σ H s):H s.heap.objs.size=none:=I.hok.fresh (au _)
theorem Inv.lstM (I:Inv X pins σ H s) (hH:H l=some (.lst xs)):xs.length<=sizeLine/\∃(its:List Value) (n:Nat),cR xs its/\xs.length=its.length/\s.heap.get? l=some { cls:=.type "list",data:=.seq its.toArray n }:=by
 obtain ⟨z,its,n,r,e⟩:=I.hok l _ hH;exact ⟨z,its,n,r,r.length,e⟩
theorem Dw (h:n<=sizeLine):Builtin.List.listTooLong n=false:=by
 unfold Builtin.List.listTooLong;exact decide_eq_false (by lia)
end
section
variable {X:Cx}
def FF:V->List V->Hp->VK->Prop:=λx vs H Q=>∃l xs y,x=.ref l/\vs=[y]/\H l=some (.lst xs)/\xs.length < sizeLine/\Q .non (upd H l (.lst (xs++[y])))
theorem gM:MtM X "list.append" FF:=by
 intro pins s σ H x vs v us Q I rx rv h;obtain ⟨l,xs,y,rfl,rfl,hH,hz,q⟩:=h;cases rx;obtain ⟨u,rfl,ru⟩:=rv.one;obtain ⟨z,its,n,r,hl,e⟩:=I.lstM hH;refine call_meets F.slot_list_append ⟨_,e,rfl⟩ F.entry_list_append (F.args_list_append_2 _ _) (PySem.list_append l its.toArray n u (by rw[aP];lia)) ⟨e,?_⟩;refine ⟨.non,_,I.lset (its':=its++[u]) hH e (by simp) (r.append (.cons ru .nil)) ?_,rfl,q⟩;rw[aD,eQ]
 lia
def KH:V->List V->Hp->VK->Prop:=λx vs H Q=>∃l b xs zs,x=.ref l/\vs=[.ref b]/\H l=some (.lst xs)/\H b=some (.lst zs)/\xs.length+zs.length<=sizeLine/\Q .non (upd H l (.lst (xs++zs)))
theorem GQ:MtM X "list.extend" KH:=by
 intro pins s σ H x vs v us Q I rx rv h;obtain ⟨l,b,xs,zs,rfl,rfl,hH,hB,hz,q⟩:=h;cases rx;obtain ⟨u,rfl,ru⟩:=rv.one;cases ru;obtain ⟨z,its,n,r,hl,e⟩:=I.lstM hH;obtain ⟨z2,its2,n2,r2,hl2,e2⟩:=I.lstM hB;have hsz:its.toArray.size+its2.toArray.size<=sizeLine:=by rw[aP,aP];lia
 have hlong:¬(!its.toArray.isEmpty && Builtin.List.listTooLong (its.toArray.size+its2.toArray.size))=true:=by
  rw[Dw hsz,Bool.and_false];exact bu
 refine call_meets F.slot_list_extend ⟨_,e,rfl⟩ F.entry_list_extend (F.args_list_extend_2 _ _)
  (AutoSeq1.list_extend_list_list_0 l its.toArray n b its2.toArray n2 hlong (by rw[aP];lia) (by lia)) ⟨e,e2,?_⟩
 refine ⟨.non,_,I.lset (its':=its++its2) hH e (by simp) (r.append r2) ?_,rfl,q⟩;rw[aD]
 lia
def Pa:R2:=λx y H Q=>∃l b xs zs,x=.ref l/\y=.ref b/\H l=some (.lst xs)/\H b=some (.lst zs)/\xs.length+zs.length<=sizeLine/\∀p,H p=none->Q (.ref p) (upd H p (.lst (xs++zs)))
theorem nX:zG X (binaryOp .Add) Pa:=by
 intro pins s σ H x y v u Q I rx ry h;obtain ⟨l,b,xs,zs,rfl,rfl,hH,hB,hz,q⟩:=h;cases rx;cases ry;obtain ⟨z,its,n,r,hl,e⟩:=I.lstM hH;obtain ⟨z2,its2,n2,r2,hl2,e2⟩:=I.lstM hB;refine PySem.P.add_list e e2 ?_ (by rw[aP,aP];lia);have ea:its.toArray++its2.toArray=(its++its2).toArray:=by simp
 rw[ea];exact ⟨.ref _,_,I.lnew (t':=s.toks) (r.append r2) (by rw[aD];lia),rfl,q _ I.fresh⟩
def O8:R2:=λx y H Q=>∃l k xs,x=.ref l/\y=.int k/\H l=some (.lst xs)/\-(2^63)<=k/\k < 2^63/\xs.length*k.toNat<=sizeLine /\
 ∀p,H p=none->Q (.ref p) (upd H p (.lst (List.replicate k.toNat xs).flatten))
theorem len_rep {α:Type} (xs:List α) (k:Nat):(List.replicate k xs).flatten.length=k*xs.length:=by
 induction k with
 | zero=>simp
 | succ k ih=>rw[kM,nJ,aD,ih,nB,Gg]
theorem IX:zG X (binaryOp .Mult) O8:=by
 intro pins s σ H x y v u Q I rx ry h;obtain ⟨l,k,xs,rfl,rfl,hH,h1,h2,hz,q⟩:=h;cases rx;obtain ⟨t,rfl⟩:=ry;obtain ⟨z,its,n,r,hl,e⟩:=I.lstM hH;have hlen:its.toArray.size*k.toNat<=sizeLine:=by rw[aP,<- hl];exact hz
 have hcap:¬its.toArray.size*k.toNat > (2^63 - 1) / 8:=by
  have:(sizeLine:Nat)<=(2^63 - 1) / 8:=by decide
  lia
 have hfit:¬(!Builtin.List.listFitsIndex k)=true:=by
  rw[fitsIndex_both h1 h2];exact bu
 have hlong:¬Builtin.List.listTooLong (its.toArray.size*k.toNat)=true:=by
  rw[Dw hlen];exact bu
 have hnew:List.foldl (λx1 x2=>x1++x2) #[] (List.replicate (if its.toArray.isEmpty=true then 0 else k.toNat) its.toArray)=(List.replicate k.toNat its).flatten.toArray:=by
  have f0:∀m:Nat,List.foldl (λx1 x2=>x1++x2) #[] (List.replicate m its.toArray)=(List.replicate m its).flatten.toArray:=λm=>by
   have:=foldl_rep its m [];rw[cX] at this;exact this
  rw[f0];cases its with
  | nil=>simp
  | cons a r'=>rw[if_neg (by simp)]
 refine wpAny_binaryOp_repeat_ref (T:="list") (U:="int") (by decide) ⟨_,e,rfl⟩ (λs'=>typeIs_int s' k t) noFill_list_mul F.fills_int_mul F.slot_int_rmul repeat_list F.slot_int_index.lookup
  (call_meets F.slot_int_rmul (typeIs_int s k t) F.entry_int_rmul (F.args_int_rmul_2 _ _) (int___rmul___int_list k t l its.toArray n)
   ⟨e,rfl,⟨_,e,rfl⟩,call_meets F.slot_list_mul ⟨_,e,rfl⟩ F.entry_list_mul (F.args_list_mul_2 _ _) (AutoListH.list___mul___list_int_3 l its.toArray n k t hfit hcap hlong) ⟨e,?_⟩⟩)
 rw[hnew];exact ⟨.ref _,_,I.lnew (t':=s.toks) (r.rep k.toNat) (by rw[len_rep,hX];exact hz),rfl,q _ I.fresh⟩
end
end L2
namespace Att
open PySem PySem.W PySem.Calls PyProof.Rows
theorem xP:∀(ns:List Int) (vs:List Value),WellAll P h vs (ns.map WData.int)->IntsAre vs ns:=by
 intro ns
 induction ns with
 | nil =>
  intro vs w;rw[List.map_nil] at w;cases w;exact .nil
 | cons n ns ih =>
  intro vs w;rw[kR] at w;cases w with
  | cons a b =>
   cases a;exact .cons _ _ (ih _ b)
theorem GA {l:OpenLaw} (hn:l.most=some n) 
  (hpre:l.row.toRowW.claim.pre args=true) (hwl:WellAll P h vals args) :
  ∃a vs ns,vals=[Value.ref a]/\args=[WData.list (ns.map WData.int)]/\h.get? a=some { cls:=.type "list",data:=.seq vs.toArray }/\IntsAre vs ns/\ns.length<=n:=by
 have hsh:WShape.hasAll [] args [.list .int]=true:=(pre_splitW hpre).1;have hc:l.pre.holds [] { args:=args }=true:=(pre_splitW hpre).2;obtain ⟨d,r,rfl,h1,h2⟩:=hasAllW_cons hsh;obtain rfl:=hasAllW_nil h2;obtain ⟨xs,rfl,h3⟩:=hasW_list h1;obtain ⟨ns,rfl⟩:=items_int h3
 have hlen:ns.length<=n:=by
  unfold OpenLaw.pre at hc
  have h4:(WTm.not (.lt (.lit (.int (n:Int))) (.len (.arg 0)))).holds [] { args:=[.list (ns.map .int)] }=true:=by
   have h4:=(holds_andW hc).1;rw[hn] at h4;exact h4
  have h5:=condW_of h4 (w_not (w_lt w_lit (w_len_list (w_arg rfl))));rw[ag] at h5;refine Nat.le_of_not_lt λq=>?_
  have q':(n:Int) < ((ns.length:Nat):Int):=by lia
  first
   | (rw[decide_eq_true q'] at h5;exact absurd h5 (by decide))
   | (simp at h5;lia)
 cases hwl with
 | cons w1 w2 =>
  cases w2;cases w1 with
  | list ho hall=>exact ⟨_,_,ns,rfl,rfl,ho,xP ns _ hall,hlen⟩
theorem GG (l:OpenLaw) (args:List WData):l.row.toRowW.claim.post args (.bool true) args=true :=
 postW_of (r:=l.row.toRowW) (X:=(true == true))
  (show WShape.has [] (.bool true) .bool=true by first | rfl | decide | simp [WShape.has,WShape.arms,WShape.armsAll])
  (show (WTm.eq .res (.lit (.bool true))).value [] { args:=args,res:=some (.bool true),after:=args }=some (.bool (true == true)) from w_eq_bool (w_res rfl) w_lit) rfl
theorem DQ {l:OpenLaw} 
  (hn:l.most=some n) (hdf:d.params.defaults=[])
  (call:∀(w:World) (s₀ s₁:Shared) (mg mb:Str->Option Value) (fa:Addr) (o:Obj) (pm cd doc:Value) (a:Addr) (vs:List Value) (ns:List Int),
   Ground q loose [] XP w s₀ mg mb s₁.heap->YP w s₁.heap →
   s₁.heap.get? fa=some o->o.data=.func (docDef d.name d.params d.body d.scope pm cd doc)->s₁.heap.CodeRec cd d.name->mg d.name=some (.ref fa) →
   s₁.heap.get? a=some { cls:=.type "list",data:=.seq vs.toArray }->IntsAre vs ns->ns.length<=n->s₁.gens=#[] →
   codeAny (model l.prog w) callerA (.call (.ref fa) ⟨[.ref a],[]⟩) (λr s'=>r=.ok (.ret (.bool true))/\OldK s₁.heap s'.heap/\s'.os=s₁.os/\AllBare s'.gens) s₁) :
  WalkO q loose XP YP l.row.toRowW d [] (λf vs=>PySem.call f vs):=by
 intro w s₀ s₁ mg mb G Y fa o pm cd doc dV kV ho hd hcd hD hmg hg args vals as hpre hlay hrd hwl hlo;obtain rfl:dV=.none:=Dflts.none hD hdf;obtain rfl:kV=.none:=Dflts.noKw hD;obtain ⟨a,vs,ns,rfl,rfl,hobj,hints,hlen⟩:=GA hn hpre hwl;refine enter_call (codeAny_mono (call w s₀ s₁ mg mb fa o pm cd doc a vs ns G Y ho (fd_plain hd) hcd hmg hobj hints hlen hg) λr s' hq=>?_);obtain ⟨rfl,h2,h3,h4⟩:=hq;exact ⟨.inl ⟨.bool true,.bool true,[],rfl,λ_=>rfl,.bool true,GG l _,λ_=>⟨List.Pairwise.nil,λ_ hm=>(nomatch hm)⟩⟩,h2,h3,h4⟩
section
variable {prog:Program} {w:World} {A:Around} {E:Value->Shared->Prop} {s:Shared} {K:Frag}
end
end Att
namespace L2
open PySem PySem.Spec PyProof.Rows
theorem Ad:∀{vs:List Value} {ns:List Int},IntsAre vs ns->cR (ns.map V.int) vs
 | _,_,.nil=>.nil
 | _,_,.cons n t h=>.cons ⟨t,rfl⟩ (Ad h)
def Oi (H:Hp):Prop:=∀b,H b=none\/∃o xs,H b=some (.frz o (.lst xs))
theorem Jh {K:FG9} 
  (KX:K.In s₁.heap) (hns:s₁.heap.Ns mainGlobals mg) (hb:s₁.heap.Ns builtinsNs mb) (hbb:∀x:Str,x≠"__name__"->mb x=bootBuiltins x) (hlim:s₁.heap.NoLimit) (hsr:s₁.heap.NoSeer) (hg:s₁.gens=#[])
  (ha:s₁.heap.get? a=some { cls:=.type "list",data:=.seq vs.toArray }) (hi:IntsAre vs ns) (hl:ns.length<=sizeLine) (hr:kI k callerA)
  (F:∀base:Heap,K.In base->base.Ns mainGlobals mg->cW P w K mg base CX k fa fd [x] sp) (hbind:∀(s:Shared) (u:Value),BindsTo s fd ⟨[u],[]⟩ [(x,u)])
  (hsp:∀H:Hp,Oi H->bP K H a (ns.map V.int)->sp [.ref a] H (λv _=>v=.bl true) λ_ _ _=>False)
  (hCX:∀H e s',CX [] H s₁ (λ_ _ _=>False) e s'->False) :
  codeAny (model P w) callerA (.call (.ref fa) ⟨[.ref a],[]⟩) (λr s'=>r=.ok (.ret (.bool true))/\OldK s₁.heap s'.heap/\s'.os=s₁.os/\AllBare s'.gens) s₁:=by
 have rv:=Ad hi;have lenV:=hi.length
 have core:∀H:Hp,Oi H->bP K H a (ns.map V.int)->yg P w H s₁.heap->(∀b,H b≠none->b=a)->(H a≠none->K.lookup a=none) →
   codeAny (model P w) callerA (.call (.ref fa) ⟨[.ref a],[]⟩) (λr s'=>r=.ok (.ret (.bool true))/\OldK s₁.heap s'.heap/\s'.os=s₁.os/\AllBare s'.gens) s₁:=by
  intro H hO hS hok hA hK;have base_of:∀{b:Addr} {o:Obj},s₁.heap.get? b=some o->H b=none->(BW s₁.heap H).get? b=some o:=λe n=>Jl e n
  have noA:∀{b:Addr} {o:Obj} {es:Array DictEntry} {ep:Nat},s₁.heap.get? b=some o->o.data=.dict es ep->H b=none:=λ{b o es ep} e d=>by
   cases q:H b with
   | none=>rfl
   | some u =>
    have e':b=a:=hA b (by rw[q];simp);subst e';rw[ha] at e;cases e;have d':Data.seq vs.toArray _=Data.dict es ep:=d;cases d'
  have nsK:∀{b:Addr} {m:Str->Option Value},s₁.heap.Ns b m->(BW s₁.heap H).Ns b m:=λ{b m} ⟨o,es,ep,e,d,r⟩=>⟨o,es,ep,base_of e (noA e d),d,r⟩
  have hKb:K.In (BW s₁.heap H):=λb o e=>base_of (KX b o e) (by
   cases q:H b with
   | none=>rfl
   | some u =>
    have e':b=a:=hA b (by rw[q];simp);subst e';rw[hK (by rw[q];simp)] at e;cases e)
  have hM:Mod K mg (BW s₁.heap H):=⟨hKb,nsK hns,⟨mb,nsK hb,hbb⟩,let ⟨mc,h1,h2⟩:=hlim;⟨mc,nsK h1,h2⟩,⟨let ⟨mc,h1,h2⟩:=hsr.statics;⟨mc,nsK h1,h2⟩,let ⟨mm,h1,h2⟩:=hsr.mods;⟨mm,nsK h1,h2⟩,⟨mb,nsK hb,hbb⟩,let ⟨mg',bm,ob,h1,h2,h3,h4,h5⟩:=hsr.main;⟨mg',bm,ob,nsK h1,h2,base_of h3 (by
   cases q:H bm with
   | none=>rfl
   | some u =>
    have e':bm=a:=hA bm (by rw[q];simp);subst e';rw[ha] at h3;cases h3;injection h4 with q4
    exact absurd q4 (by decide)),h4,h5⟩⟩⟩
  have e0:Ff P w K mg (BW s₁.heap H) callerA [] s₁ H:=⟨rfl,hM,λb o e=>KZ e,Nat.le_of_eq (GX _ _),trivial,λb hb=>absurd (show b∈([]:List Addr) from hb) (by simp),hok,.of_eq hg⟩;refine codeAny_mono ((F _ hKb (nsK hns)).run callerA [] s₁ H ⟨[.ref a],[]⟩ [.ref a] [.ref a] _ _ hr e0 (hbind s₁ (.ref a)) (.cons rfl .nil) (hsp H hO hS)) λr s' h=>?_
  cases r with
  | error e=>exact (hCX H e s' h).elim
  | ok fl =>
   cases fl with
   | next=>exact False.elim h
   | brk=>exact False.elim h
   | cont=>exact False.elim h
   | ret u =>
    obtain ⟨v,H',os,bare,un,hok',r',q⟩:=h;have q':v=.bl true:=q;subst q';obtain rfl:u=Value.bool true:=r';refine ⟨rfl,OldK.of_keep λb o e=>?_,os,bare⟩;cases q:H b with
    | none=>exact un.keep b o e q (by intro z;exact absurd (show b∈([]:List Addr) from z) (by simp)) (by simp)
    | some u =>
     rcases hO b with z | ⟨ob,xs,z⟩
     ·rw[q] at z;cases z
     ·have z2:=un.frzs b ob _ z;obtain ⟨e1,_⟩:=hok b _ z;obtain ⟨e2,_⟩:=hok' b _ z2;rw[e] at e1;cases e1;exact e2
 cases hk:K.lookup a with
 | some o =>
  have e:=KX a o hk;rw[ha] at e;cases e;refine core (λ_=>none) (λ_=>.inl rfl) (.inr ⟨_,vs.toArray,_,hk,rfl,rfl,rfl,by rw[aP,lenV];exact hl,by simpa using rv⟩) (λb u z=>by have z':(none:Option HO)=some u:=z;cases z') (λb z=>absurd rfl z) λz=>absurd rfl z
 | none =>
  refine core (λb=>if b=a then some (.frz { cls:=.type "list",data:=.seq vs.toArray } (.lst (ns.map V.int))) else none) (λb=>?_) (.inl (.inr ⟨{ cls:=.type "list",data:=.seq vs.toArray },if_pos rfl⟩)) (λb u z=>?_) (λb z=>?_) λ_=>hk
  ·by_cases hb:b=a
   ·exact .inr ⟨_,_,if_pos hb⟩
   ·exact .inl (if_neg hb)
  ·by_cases hb:b=a
   ·have z':=(if_pos hb).symm.trans z;cases z';subst hb;exact ⟨ha,by rw[ag];exact hl,vs,_,rv,ha⟩
   ·have z':=(if_neg hb).symm.trans z;cases z'
  ·by_cases hb:b=a
   ·exact hb
   ·exact absurd (if_neg hb) z
theorem J8 {l:PySem.W.OpenLaw} {K:Params->FG9} {CX:World->JZ} {sp:World->Sp} 
  (hn:l.most=some n) (hn2:n<=sizeLine) (hdf:d.params.defaults=[]) (hr:kI k callerA) (hi:importsNone q=true)
  (hY:∀(w:World) (h:Heap),YP w h->(K w.params).In h)
  (F:∀(w:World) (mg:Str->Option Value) (fa:Addr) (h:Heap),(K w.params).In h->h.Ns mainGlobals mg->mg d.name=some (.ref fa) →
   ∃fd:FuncData,(∀(s:Shared) (u:Value),BindsTo s fd ⟨[u],[]⟩ [(x,u)]) /\
    ∀base:Heap,(K w.params).In base->base.Ns mainGlobals mg->cW l.prog w (K w.params) mg base (CX w) k fa fd [x] (sp w))
  (hsp:∀(w:World) (H:Hp) (a:Addr) (ns:List Int),ns.length<=n->Oi H->bP (K w.params) H a (ns.map V.int)->sp w [.ref a] H (λv _=>v=.bl true) λ_ _ _=>False)
  (hCX:∀(w:World) (H:Hp) (s:Shared) (e:Value) (s':Shared),CX w [] H s (λ_ _ _=>False) e s'->False) :
  PySem.W.WalkO q loose XP YP l.row.toRowW d [] (λf vs=>PySem.call f vs):=by
 refine Att.DQ hn hdf λw s₀ s₁ mg mb fa o pm cd doc a vs ns G Y ho hd hcd hmg hobj hints hlen hg=>?_
 have KX:=hY w _ Y;obtain ⟨fd,hb,hF⟩:=F w mg fa _ KX G.T.g hmg;exact Jh KX G.T.g G.T.b G.T.builtins G.T.nolimit (G.T.seer hi) hg hobj hints (aj hlen hn2) hr hF hb (λH hO hS=>hsp w H a ns hlen hO hS) λH e s'=>hCX w H s₁ e s'
end L2

namespace L2
open PySem PySem.Spec PyProof.Rows
def inClass (s:Stmt) (j:Nat):Stmt:=match s with
 | .ClassDef _ _ _ body _ _ _ _ _ _ _=>body.getD j (.Pass ⟨0,0,0,0⟩)
 | _=>.Pass ⟨0,0,0,0⟩
def fI (s:Stmt):Arguments:=match s with
 | .FunctionDef _ a _ _ _ _ _ _ _ _=>a
 | _=>{ posonlyargs:=[],args:=[],vararg:=none,kwonlyargs:=[],kw_defaults:=[],kwarg:=none,defaults:=[] }
def eJ (s:Stmt):List Stmt:=match s with
 | .FunctionDef _ _ b _ _ _ _ _ _ _=>b
 | _=>[]
def aH (s:Stmt):Scope:=match s with
 | .FunctionDef _ _ _ _ _ _ sc _ _ _=>sc
 | _=>{ kind:=.function,names:=[],isGenerator:=false,isCoroutine:=false }
abbrev iO:JZ:=λ_ _ _ _ _ _=>False
abbrev E0:XK:=λ_ _ _=>False
theorem jM:wI iO X E0:=λ_ _ _ _ _ _ _ h=>h.elim
structure D8 (K:FG9) (x qual:Str) (st:Stmt) (f:Addr) (fd:FuncData):Prop where
 ex:∃(oc:Value) (od:Option Addr) (kV doc pm:Value) (an:Option Addr) (cdv ct:Value) (osl:Array (Option Value)),
  fd=PySem.W.fnOf x qual (fI st) (eJ st) (aH st) .none kV doc pm an cdv ct/\K.lookup f=some ⟨oc,od,.func fd,osl⟩/\PySem.W.codeIn K cdv qual=true
 kp:PySem.W.keepIn K (.ref f)=true
section
variable {P:Program} {w:World} {K:FG9} {mg:Str->Option Value} {base:Heap}
theorem D8.ok {st:Stmt} (F:D8 K x qual st f fd) (S:ba N ps (aH st)) (len:∀vs H Q E,sp vs H Q E->vs.length=ps.length)
  (hbody:∀(cdv:Value) (A:Around) (outer:List Env) (s:Shared) (H:Hp) (vs:List V) (Q:VK) (E:XK),kI k (A.deeper (envOfC qual (aH st) s.heap.objs.size f cdv))->sp vs H Q E →
   ∃t,E7 (G7 iO P w K mg base N qual (aH st) f cdv A outer s H E).nox (eJ st) t/\t { nx:=λ_ H'=>Q .non H',rt:=Q } (start N vs) H):cW P w K mg base iO (k+1) f fd ps sp:=by
 obtain ⟨oc,od,kV,doc,pm,an,cdv,ct,osl,rfl,lk,hcd⟩:=F.ex;refine Px lk hcd S len λA outer s H vs Q E hr hsp=>?_
 obtain ⟨t,h,q⟩:=hbody cdv A outer s H vs Q E hr hsp;exact ⟨t,h.nox,q⟩
theorem D8.binds {st:Stmt} (F:D8 K x qual st f fd)
  (h:∀(kV doc pm:Value) (an:Option Addr) (cdv ct:Value) (us:List Value),us.length=ps.length->bindArgs (PySem.W.fnOf x qual (fI st) (eJ st) (aH st) .none kV doc pm an cdv ct) ⟨us,[]⟩=pure (ps.zip us)):Binds K fd ps []:=by
 obtain ⟨oc,od,kV,doc,pm,an,cdv,ct,osl,rfl,lk,hcd⟩:=F.ex;exact .all (h kV doc pm an cdv ct)
theorem ou {st:Stmt} {kV doc pm cdv ct:Value} (l:K.lookup f=some ⟨oc,od,.func (PySem.W.fnOf x qual (fI st) (eJ st) (aH st) .none kV doc pm an cdv ct),osl⟩)
  (c:PySem.W.codeIn K cdv qual=true) (k:PySem.W.keepIn K (.ref f)=true):D8 K x qual st f (PySem.W.fnOf x qual (fI st) (eJ st) (aH st) .none kV doc pm an cdv ct):=⟨⟨oc,od,kV,doc,pm,an,cdv,ct,osl,rfl,l,c⟩,k⟩
end
structure Df (K:FG9) (mg:Str->Option Value) (x:Str) (st:Stmt) (ps:List Str) (f:Addr) (fd:FuncData):Prop where
 m:mg x=some (.ref f)
 b:Binds K fd ps []
 F:D8 K x x st f fd
structure Dh (K:FG9) (x:Str) (st:Stmt) (f:Addr) (fd:FuncData):Prop where
 a:PySem.W.nsIn K mainGlobals x=some (some (.ref f))
 F:D8 K x x st f fd
theorem Py {K:FG9} {st:Stmt} {kV doc pm cdv ct:Value} (a:PySem.W.nsIn K mainGlobals x=some (some (.ref f))) (l:K.lookup f=some ⟨oc,od,.func (PySem.W.fnOf x x (fI st) (eJ st) (aH st) .none kV doc pm an cdv ct),osl⟩) (c:PySem.W.codeIn K cdv x=true) (k:PySem.W.keepIn K (.ref f)=true):Dh K x st f (PySem.W.fnOf x x (fI st) (eJ st) (aH st) .none kV doc pm an cdv ct):=⟨a,ou l c k⟩
theorem Dh.D {K:FG9} {x:Str} {st:Stmt} {f:Addr} {fd:FuncData} {ps:List Str} {mg:Str->Option Value} {h:Heap} (d:Dh K x st f fd) (X:K.In h) (G:h.Ns mainGlobals mg) (hb:∀(kV doc pm:Value) (an:Option Addr) (cdv ct:Value) (us:List Value),us.length=ps.length->bindArgs (PySem.W.fnOf x x (fI st) (eJ st) (aH st) .none kV doc pm an cdv ct) ⟨us,[]⟩=pure (ps.zip us):=by walk_at "b"):Df K mg x st ps f fd:=⟨PySem.W.mg_of X G d.a,d.F.binds hb,d.F⟩
theorem cS {X:Cx} {k k':Nat} {f:Addr} {fd:FuncData} {ps:List Str} {sp:Sp} {x:Str} {st:Stmt} {p pos:Pos} {e:Expr} {es:List Expr} {t:TA} (F:cW X.prog X.w X.K X.mg X.base iO k f fd ps sp) (hr:kI k' X.A) (D:Df X.K X.mg x st ps f fd) (ha:PA X (e :: es) t) (hle:k<=k':=by decide) (hg:Gl X x:=by exact rfl) (hdb:(x == ("__debug__":Str))=false:=by decide) (he:starEach (e :: es) X.env=(false,eval e X.env) :: starEach es X.env:=by rfl) (hpl:(backTo pos (starEach es X.env)).any (·.1)=false:=by rfl):PE X (.Call (.Name x p) (e :: es) [] pos) (Ie sp [] E0 t):=KO F (hr.mono hle) hg D.m D.F.kp D.b .nil jM ha hdb he hpl
theorem bz (h:n<=1000):n < sizeLine:=bJ h (by decide)
section
variable {X:Cx}
theorem pv (i:Nat) {x:Str} {pos:Pos} (hN:X.N[i]?=some x:=by rfl) (hv:Qz X.env.scope x:=by first | exact Or.inl rfl | exact Or.inr (Or.inl rfl) | exact Or.inr (Or.inr rfl)) (hd:(x == ("__debug__":Str))=false:=by decide)
  (hcd:(x == ("__classdict__":Str))=false:=by decide):PE X (.Name x pos) (Mv i):=Nq hN hv hd hcd
end
theorem K4 {A B:Prop} (h:B):if false=true then A else B:=by
 rw[if_neg bu];exact h
theorem Qw {A B:Prop} (h:A):if true=true then A else B:=by
 rw[if_pos rfl];exact h
theorem ia {c A B:Prop} [Decidable c] (h1:c->A) (h2:¬c->B):if c then A else B:=by
 by_cases h:c
 ·rw[if_pos h];exact h1 h
 ·rw[if_neg h];exact h2 h
def aA (H H':Hp):Prop:=∀b o,H b=some o->H' b=some o
theorem aA.refl (H:Hp):aA H H:=λ_ _ h=>h
theorem aA.trans (a:aA H H1) (b:aA H1 H2):aA H H2:=λc o h=>b c o (a c o h)
theorem aA.free (e:aA H H') (h:H' l=Option.none):H l=Option.none:=by
 cases q:H l with
 | none=>rfl
 | some o =>
  rw[e l o q] at h;cases h
theorem aA.seq {K:FG9} (e:aA H H') (h:bP K H a xs):bP K H' a xs:=by
 rcases h with (h | ⟨o,h⟩) | h
 ·exact .inl (.inl (e _ _ h))
 ·exact .inl (.inr ⟨o,e _ _ h⟩)
 ·exact .inr h
end L2
namespace Nm
theorem Jq (a b:Int):Int.gcd b (a.fmod b)=Int.gcd a b:=by
 rw[Int.fmod_def,kx a b];apply Nat.dvd_antisymm
 ·apply JT
  ·exact dZ ..
  ·have h1:=dZ (a:=b) (b:=a - b*a.fdiv b);have h2:=eE (a:=b) (b:=a - b*a.fdiv b);have h3:=Int.dvd_add h2 (mj (c:=a.fdiv b) h1);rwa [Int.sub_add_cancel] at h3
 ·apply JT
  ·exact dZ ..
  ·exact Int.dvd_sub (eE ..) (mj (dZ ..))
theorem Jr (a b:Int):Int.gcd b (a % b)=Int.gcd a b:=by
 rw[Int.emod_def,kx a b];apply Nat.dvd_antisymm
 ·apply JT
  ·exact dZ ..
  ·have h1:=dZ (a:=b) (b:=a - b*(a / b));have h2:=eE (a:=b) (b:=a - b*(a / b));have h3:=Int.dvd_add h2 (mj (c:=a / b) h1);rwa [Int.sub_add_cancel] at h3
 ·apply JT
  ·exact dZ ..
  ·exact Int.dvd_sub (eE ..) (mj (dZ ..))
theorem La (a b:Int) (h:b≠0):(a.fmod b).natAbs < b.natAbs:=by
 rcases Int.lt_or_gt_of_ne h with h | h
 ·have e:a.fmod b=-((-a).fmod (-b)):=by
   have:=Int.neg_fmod_neg (-a) (-b);simp only[JS] at this;exact this
  have h1:=Int.fmod_nonneg_of_pos (-a) (b:=-b) (by lia);have h2:=Int.fmod_lt_of_pos (-a) (b:=-b) (by lia)
  lia
 ·have h1:=Int.fmod_nonneg_of_pos a h;have h2:=Int.fmod_lt_of_pos a h
  lia
def g (t b:Int):Int:=(Int.gcd t b:Int)
def lo (t b:Int):Int:=t / g t b
def hi (t b:Int):Int:=b / g t b
theorem yV (h:b≠0):0 < g t b:=by
 unfold g;have:0 < Int.gcd t b:=qI _ h
 lia
theorem yS (t b:Int):lo t b*g t b=t:=Int.ediv_mul_cancel (dZ ..)
theorem wB (t b:Int):hi t b*g t b=b:=Int.ediv_mul_cancel (eE ..)
theorem BX (h:0 < b):0 < hi t b:=by
 have h1:=yV (t:=t) (b:=b) (by lia);have h2:=wB t b;by_cases h3:0 < hi t b
 ·exact h3
 ·have:hi t b*g t b<=0:=Int.mul_nonpos_of_nonpos_of_nonneg (by lia) (by lia)
  lia
theorem yQ (h:b≠0):Int.gcd (lo t b) (hi t b)=1:=by
 have h1:=yV (t:=t) h;have e:=Int.gcd_mul_right (lo t b) (g t b) (hi t b);rw[yS,wB] at e;have e2:(g t b).natAbs=Int.gcd t b:=by unfold g;simp
 rw[e2] at e;have h2:0 < Int.gcd t b:=qI _ h;exact Nat.eq_of_mul_eq_mul_right h2 (by rw[<- e,AS])
theorem yR (t b:Int):lo t b*b=t*hi t b:=by
 have h1:=yS t b;have h2:=wB t b
 calc lo t b*b=lo t b*(hi t b*g t b):=by rw[h2]
  _=(lo t b*g t b)*hi t b:=by rw[fK (hi t b),<- du]
  _=t*hi t b:=by rw[h1]
theorem pU (h:Int.gcd a b=1) (hd:a∣b*c):a∣c:=by
 have h1:a.natAbs∣b.natAbs*c.natAbs:=by rw[<- iN];exact eR.mpr hd
 have h2:Nat.Coprime a.natAbs b.natAbs:=h;exact eR.mp (h2.dvd_of_dvd_mul_left h1)
theorem uniq (hb:0 < b) (hd:0 < d) (h1:Int.gcd a b=1) (h2:Int.gcd c d=1) (e:a*d=c*b):a=c/\b=d:=by
 have e1:b∣d:=by
  have:b∣a*d:=⟨c,by rw[e,fK]⟩;exact pU (by rw[kx];exact h1) this
 have e2:d∣b:=by
  have:d∣c*b:=⟨a,by rw[<- e,fK]⟩;exact pU (by rw[kx];exact h2) this
 have e3:b=d:=Int.dvd_antisymm (by lia) (by lia) e1 e2;subst e3;exact ⟨tJ (by lia) e,rfl⟩
theorem Nx (hb:0 < b) (hd:0 < d) (h2:Int.gcd c d=1) (e:t*d=c*b):lo t b=c/\hi t b=d:=by
 refine uniq (BX hb) hd (yQ (by lia)) h2 ?_;have h:=yR t b;have hb':b≠0:=by lia
 apply tJ hb'
 calc lo t b*d*b=lo t b*b*d:=by rw[du,fK d b,<- du]
  _=t*hi t b*d:=by rw[h]
  _=t*d*hi t b:=by rw[du,fK (hi t b),<- du]
  _=c*b*hi t b:=by rw[e]
  _=c*hi t b*b:=by rw[du,fK b,<- du]
theorem Ny (hb:0 < b) (h:Int.gcd a b=1):lo a b=a/\hi a b=b:=Nx hb hb h rfl
theorem nY {a b:Int} (h:b≠0):a.natAbs<=(a*b).natAbs:=by
 rw[iN];exact mi _ (Int.natAbs_pos.mpr h)
theorem lo_le (h:b≠0):(lo t b).natAbs<=t.natAbs:=by
 have:=nY (a:=lo t b) (b:=g t b) (by have:=yV (t:=t) h;lia);rwa [yS] at this
theorem LY (h:b≠0):(hi t b).natAbs<=b.natAbs:=by
 have:=nY (a:=hi t b) (b:=g t b) (by have:=yV (t:=t) h;lia);rwa [wB] at this
def Sz (k:Nat) (x:Int):Prop:=x.natAbs < 2^k
theorem Sz.mono (h:Sz j x) (l:j<=k):Sz k x:=a9 h (av (by decide) l)
theorem Sz.mul (h1:Sz j x) (h2:Sz k y):Sz (j+k) (x*y):=by
 unfold Sz at *
 rw[iN,bQ];exact Nat.mul_lt_mul'' h1 h2
theorem Sz.neg (h:Sz k x):Sz k (-x):=by unfold Sz at *;rw[tI];exact h
theorem Sz.le (h:Sz k y) (l:x.natAbs<=y.natAbs):Sz k x:=bJ l h
theorem Sz.hi {k:Nat} {t b:Int} (h:Sz k b) (hb:b≠0):Sz k (hi t b):=h.le (LY hb)
end Nm
namespace L2
open PySem PySem.Spec PyProof.Rows
structure Bk (env:Env) (scope:Scope) (own capN:List Str):Prop where
 kind:scope.kind=.function
 locs:∀y∈scope.names,y.2=.local->scope.names.lookup y.1=some .local
 ownk:∀x∈own,scope.names.lookup x=some .local\/scope.names.lookup x=some .cell
 cells:∀y∈scope.names,y.2=.cell->y.1∈own/\y.1∉capN
 frees:∀y∈scope.names,y.2=.free->y.1∈capN/\y.1∉own
 capf:∀x∈capN,scope.names.lookup x=some .free
 caps:∀x∈capN,env.kindOf x=some .cell\/env.kindOf x=some .free
def Qg (scope:Scope) (own capN:List Str):Bool :=
 decide (scope.kind=.function) && scope.names.all (λy=>decide (y.2=.local->scope.names.lookup y.1=some .local) && decide (y.2=.cell->y.1∈own/\y.1∉capN) && decide (y.2=.free->y.1∈capN/\y.1∉own)) &&
 own.all (λx=>decide (scope.names.lookup x=some .local\/scope.names.lookup x=some .cell)) && capN.all λx=>decide (scope.names.lookup x=some .free)
def AE (env:Env):List Str->Bool
 | []=>true
 | x :: r=>(match env.kindOf x with | some .cell=>true | some .free=>true | _=>false) && AE env r
theorem DL {env:Env}:∀{capN:List Str},AE env capN=true->∀x∈capN,env.kindOf x=some .cell\/env.kindOf x=some .free
 | [],_,_,h=>nomatch h
 | y :: r,h,x,hx=>by
  unfold AE at h;rw[fQ] at h;rcases aF.mp hx with e | hx
  ·subst e;have h1:=h.1
   split at h1
   ·rename_i e;exact .inl e
   ·rename_i e;exact .inr e
   ·cases h1
  ·exact DL h.2 x hx
theorem Bk.of (h1:Qg scope own capN=true) (h2:AE env capN=true):Bk env scope own capN:=by
 unfold Qg at h1;rw[fQ,fQ,fQ,xI,xI,xI] at h1;obtain ⟨⟨⟨a1,a2⟩,a3⟩,a4⟩:=h1
 have a2':∀y∈scope.names,(y.2=.local->scope.names.lookup y.1=some .local)/\(y.2=.cell->y.1∈own/\y.1∉capN)/\(y.2=.free->y.1∈capN/\y.1∉own):=λy hy=>by
  have q:=a2 y hy;rw[fQ,fQ] at q;exact ⟨of_decide_eq_true q.1.1,of_decide_eq_true q.1.2,of_decide_eq_true q.2⟩
 exact ⟨of_decide_eq_true a1,λy hy=>(a2' y hy).1,λx hx=>of_decide_eq_true (a3 x hx),λy hy=>(a2' y hy).2.1,λy hy=>(a2' y hy).2.2,λx hx=>of_decide_eq_true (a4 x hx),DL h2⟩
def d6 (env:Env):List (Str×NameKind)->List (Str×Addr)->List (Str×Addr)
 | [],acc=>acc
 | (n,k) :: r,acc=>if k == .free then d6 env r ((n,(env.cells.lookup n).getD 0) :: acc) else d6 env r acc
theorem iG (env:Env):∀(names:List (Str×NameKind)) (acc:List (Str×Addr)),d6 env names acc=d6 env names []++acc
 | [],_=>rfl
 | (n,k) :: r,acc=>by
  unfold d6
  split
  ·rw[iG env r (_ :: acc),iG env r [_],cF];rfl
  ·exact iG env r acc
theorem pW (env:Env):∀(names:List (Str×NameKind)) {x:Str} {c:Addr},(x,c)∈d6 env names []->(x,NameKind.free)∈names/\c=(env.cells.lookup x).getD 0
 | [],_,_,h=>nomatch h
 | (n,k) :: r,x,c,h=>by
  unfold d6 at h
  split at h
  ·rename_i hk
   have ek:k=.free:=by simpa using hk
   subst ek;rw[iG] at h;rcases aw.mp h with h | h
   ·have q:=pW env r h;exact ⟨bK _ q.1,q.2⟩
   ·have e:(x,c)=(n,(env.cells.lookup n).getD 0):=by simpa using h
    cases e;exact ⟨cU,rfl⟩
  ·have q:=pW env r h;exact ⟨bK _ q.1,q.2⟩
theorem ja {α:Type}:∀{l:List (Str×α)} {x:Str} {c:α},(x,c)∈l->∃d,l.lookup x=some d
 | (k,v) :: r,x,c,h=>by
  rw[ks];cases hb:x == k with
  | true=>exact ⟨v,rfl⟩
  | false =>
   rcases aF.mp h with e | h
   ·cases e;simp at hb
   ·exact ja h
theorem pX (env:Env):∀(names:List (Str×NameKind)) {x:Str},(x,NameKind.free)∈names->∃c,(x,c)∈d6 env names []
 | (n,k) :: r,x,h=>by
  unfold d6;rcases aF.mp h with e | h
  ·cases e;rw[if_pos (by decide),iG];exact ⟨_,bL _ cU⟩
  ·obtain ⟨c,q⟩:=pX env r h
   split
   ·rw[iG];exact ⟨c,jO _ q⟩
   ·exact ⟨c,q⟩
theorem zi (h:∀y∈scope.names,y.2=.free->∃c,env.cells.lookup y.1=some c):closureFor scope env=pure (d6 env scope.names []):=by
 have gen:∀(names:List (Str×NameKind)) (acc:List (Str×Addr)) (f:Str×NameKind->List (Str×Addr)->Sem (ForInStep (List (Str×Addr)))),
   (∀name kind cells,f (name,kind) cells=if kind == .free then (do let a <- cellOf env name;pure (.yield ((name,a) :: cells))) else pure (.yield cells)) →
   (∀y∈names,y.2=.free->∃c,env.cells.lookup y.1=some c)->forIn names acc f=pure (d6 env names acc):=by
  intro names
  induction names with
  | nil=>intro acc f hf _;rw[AW];rfl
  | cons y r ih =>
   intro acc f hf hh;obtain ⟨n,k⟩:=y;rw[J6,hf];unfold d6;by_cases hk:(k == NameKind.free)=true
   ·obtain ⟨c,hc⟩:=hh (n,k) cU (by simpa using hk);have hc':env.cells.lookup n=some c:=hc;have e:cellOf env n=pure c:=by unfold cellOf;rw[hc']
    rw[if_pos hk,if_pos hk,e,hc'];simp only[pure_bind,dW];exact ih _ f hf λy hy=>hh y (bK _ hy)
   ·rw[if_neg hk,if_neg hk];simp only[pure_bind];exact ih _ f hf λy hy=>hh y (bK _ hy)
 simp only[closureFor];rw[gen scope.names [] _ (λname kind cells=>by cases hkc:kind == NameKind.free <;> simp [hkc]) h];rfl
theorem fE:∀(names:List (Str×NameKind)) (n:Nat) (acc:List (Str×Addr)),cellsFrom n names acc=cellsFrom n names []++acc
 | [],_,_=>rfl
 | (x,k) :: r,n,acc=>by
  unfold cellsFrom
  split
  ·rw[fE r (n+1) (_ :: acc),fE r (n+1) [_],cF];rfl
  ·exact fE r n acc
theorem kl:∀(names:List (Str×NameKind)) (n:Nat) {x:Str} {c:Addr},(x,c)∈cellsFrom n names []->(x,NameKind.cell)∈names
 | [],_,_,_,h=>nomatch h
 | (y,k) :: r,n,x,c,h=>by
  unfold cellsFrom at h
  split at h
  ·rename_i hk
   have ek:k=.cell:=by simpa using hk
   subst ek;rw[fE] at h;rcases aw.mp h with h | h
   ·exact bK _ (kl r _ h)
   ·have e:(x,c)=(y,n):=by simpa using h
    cases e;exact cU
  ·exact bK _ (kl r _ h)
def wG (env:Env) (scope:Scope) (C:Addr):Env :=
 { scope:=relabel scope env,locals:=C,globals:=env.globals,cells:=cellsFrom (C+1) scope.names (d6 env scope.names []),qual:=env.qual,func:=none,code:=env.code,frame:=env.frame,builtins:=env.builtins }
theorem Dy 
  (h:Q (newEnv scope s.heap.objs.size g (cellsFrom (s.heap.objs.size+1) scope.names cl) qual none .none (some env) builtinsNs) { s with heap:=pushCells (s.heap.push { cls:=.type "dict",data:=.dict #[] }) scope.names }) :
  wpAny M A (newFunctionEnv scope g cl [] qual none .none (some env)) Q E s:=by
 simp only[newFunctionEnv,Option.isSome_some,if_true];refine wpAny_bind (wpAny_alloc ?_);refine wpAny_bind (wpAny_layCells _ (λname kind cells=>by cases hkc:kind == NameKind.cell <;> simp [hkc]) _ _ _ _ ?_);rw[show ({ s with heap:=s.heap.push { cls:=.type "dict",data:=.dict #[] } }:Shared).heap.objs.size=s.heap.objs.size+1 from Heap.size_push ..];rw[AW];exact wpAny_bind (wpAny_pure (wpAny_pure h))
theorem uJ:∀{k:NameKind},(relabel scope env).names.lookup x=some k->∃k0,scope.names.lookup x=some k0/\(k=k0\/(k0=.free/\k=.cell)):=by
 unfold relabel;show ∀{k:NameKind},(scope.names.map λ(n,k)=>if (k == NameKind.free && env.scope.kind == .function && env.kindOf n == some .cell) then (n,NameKind.cell) else (n,k)).lookup x=some k->_
 induction scope.names with
 | nil=>intro k h;cases h
 | cons y r ih =>
  intro k h;obtain ⟨n,k1⟩:=y;rw[kR,ks] at h;rw[ks];by_cases hc:(k1 == NameKind.free && env.scope.kind == .function && env.kindOf n == some .cell)=true
  ·simp only[hc,if_true] at h;cases hb:x == n with
   | true =>
    simp only[hb] at h
    have e1:k1=.free:=by
     rw[fQ,fQ] at hc;simpa using hc.1.1
    cases h;exact ⟨k1,rfl,.inr ⟨e1,rfl⟩⟩
   | false=>simp only[hb] at h;exact ih h
  ·have hc':(k1 == NameKind.free && env.scope.kind == .function && env.kindOf n == some .cell)=false:=by simpa using hc
   simp only[hc',iY,if_false] at h;cases hb:x == n with
   | true=>simp only[hb] at h;cases h;exact ⟨_,rfl,.inl rfl⟩
   | false=>simp only[hb] at h;exact ih h
theorem Dl:scope.names.lookup x=some .free->(relabel scope env).names.lookup x=some .cell\/(relabel scope env).names.lookup x=some .free:=by
 unfold relabel;show _->(scope.names.map λ(n,k)=>if (k == NameKind.free && env.scope.kind == .function && env.kindOf n == some .cell) then (n,NameKind.cell) else (n,k)).lookup x=some .cell\/(scope.names.map λ(n,k)=>if (k == NameKind.free && env.scope.kind == .function && env.kindOf n == some .cell) then (n,NameKind.cell) else (n,k)).lookup x=some .free
 induction scope.names with
 | nil=>intro h;cases h
 | cons y r ih =>
  intro h;obtain ⟨n,k1⟩:=y;rw[ks] at h;rw[kR];by_cases hc:(k1 == NameKind.free && env.scope.kind == .function && env.kindOf n == some .cell)=true
  ·simp only[hc,if_true,ks];cases hb:x == n with
   | true=>exact .inl rfl
   | false=>rw[hb] at h;exact ih h
  ·have hc':(k1 == NameKind.free && env.scope.kind == .function && env.kindOf n == some .cell)=false:=by simpa using hc
   simp only[hc',iY,if_false,ks];cases hb:x == n with
   | true=>rw[hb] at h;cases h;exact .inr rfl
   | false=>rw[hb] at h;exact ih h
structure Bz where
 s:Shared
 H:Hp
 fp:List Addr
 C:Addr
def xQ (X:Cx) (own capN:List Str) (scope:Scope) (Z:Bz):Cx where
 prog:=X.prog
 w:=X.w
 K:=X.K
 mg:=X.mg
 base:=X.base
 A:=X.A
 N:=own++capN
 s₀:=Z.s
 H₀:=Z.H
 env:=wG X.env scope Z.C
 outer:=X.stack
 stack:=X.stack
 ex:=Z.fp
 fn:=λx=>own.contains x
 calm:=true
 pn:=[]
 xe:=λ_ _=>False
section
variable {X:Cx} {pins:List (Addr×Obj)} {σ:St} {own capN:List Str} {scope:Scope} {Z:Bz}
theorem jh (B:Bk X.env scope own capN) (I:Inv X pins σ Z.H Z.s) (h:(wG X.env scope Z.C).cells.lookup x=some c) :
  (x∈own/\(x,c)∈cellsFrom (Z.C+1) scope.names [])\/(x∈capN/\x∉own/\X.env.cells.lookup x=some c):=by
 have h':(cellsFrom (Z.C+1) scope.names (d6 X.env scope.names [])).lookup x=some c:=h;rw[fE] at h';rcases aw.mp (mem_of_lookup h') with m | m
 ·exact .inl ⟨(B.cells _ (kl _ _ m) rfl).1,m⟩
 ·obtain ⟨m1,e⟩:=pW _ _ m;obtain ⟨q1,q2⟩:=B.frees _ m1 rfl;obtain ⟨d,hd⟩:=I.ok.has x (B.caps x q1);rw[hd] at e;exact .inr ⟨q1,q2,by rw[hd,e];rfl⟩
theorem Lq (B:Bk X.env scope own capN) (I:Inv X pins σ Z.H Z.s) (hx:x∈capN) (h:X.env.cells.lookup x=some c):(wG X.env scope Z.C).cells.lookup x=some c:=by
 have hm:(x,NameKind.free)∈scope.names:=mem_of_lookup (B.capf x hx);obtain ⟨c1,m1⟩:=pX X.env scope.names hm
 have hs:∃d,(wG X.env scope Z.C).cells.lookup x=some d:=by
  show ∃d,(cellsFrom (Z.C+1) scope.names (d6 X.env scope.names [])).lookup x=some d
  rw[fE];exact ja (bL _ m1)
 obtain ⟨d,hd⟩:=hs;rcases jh B I hd with ⟨q,m⟩ | ⟨_,_,q⟩
 ·exact absurd hx (B.cells _ (kl _ _ m) rfl).2
 ·rw[h] at q;cases q;exact hd
theorem GH (h:Heap) (C:Addr) (hC:h.objs.size=C+1) (names:List (Str×NameKind)):CellsOk (pushCells h names) (C+1) (cellsFrom (C+1) names []):=by
 have q:=cellsFrom_ok names h (C+1) [] ⟨λ_ _ hm=>(nomatch hm),List.Pairwise.nil⟩ (by rw[hC];exact au _);rwa [hC] at q
theorem Ci (I:Inv X pins σ Z.H Z.s) (h:X.env.cells.lookup x=some c):@LT.lt Nat instLTNat c Z.s.heap.objs.size:=by
 obtain ⟨v,q⟩:=I.cell x c h;exact q.lt
theorem Ob (I:Inv X pins σ Z.H Z.s) (hc:X.calm=true) (B:Bk X.env scope own capN) (hC:Z.s.heap.objs.size<=Z.C) (hcl:CellsOk h1 (Z.C+1) (cellsFrom (Z.C+1) scope.names []))
  (hf:∀b∈Z.fp,kd X pins Z.H b/\@LT.lt Nat instLTNat b Z.s.heap.objs.size):(xQ X own capN scope Z).Ok:=by
 refine ⟨I.ok.mod,B.kind,I.ok.glob,I.ok.blt,hC,λx y c h1 h2=>?_,λx hx=>?_,λx c hx h=>?_,λ_=>I.ok.hd hc,I.ok.frames,.inl rfl,λb hb=>⟨?_,λx c h=>?_⟩,I.bs,aj I.ok.bsz I.sz,λb o e hb=>?_,λb hb hz=>?_,I.stack,I.stkFree⟩
 ·rcases jh B I h1 with ⟨q1,m1⟩ | ⟨q1,n1,m1⟩ <;> rcases jh B I h2 with ⟨q2,m2⟩ | ⟨q2,n2,m2⟩
  ·exact name_of_addr hcl.apart m1 m2
  ·have l1:=(hcl.empty _ _ m1).2;have l2:=Ci I m2
   lia
  ·have l1:=(hcl.empty _ _ m2).2;have l2:=Ci I m1
   lia
  ·exact I.ok.inj x y c m1 m2
 ·have hx':(relabel scope X.env).names.lookup x=some .cell\/(relabel scope X.env).names.lookup x=some .free:=hx
  have hk:scope.names.lookup x=some .cell\/scope.names.lookup x=some .free:=by
   rcases hx' with h | h
   ·obtain ⟨k0,e,q | ⟨q,_⟩⟩:=uJ h
    ·exact .inl (by rw[e,<- q])
    ·exact .inr (by rw[e,q])
   ·obtain ⟨k0,e,q | ⟨_,q⟩⟩:=uJ h
    ·exact .inr (by rw[e,<- q])
    ·cases q
  show ∃c,(cellsFrom (Z.C+1) scope.names (d6 X.env scope.names [])).lookup x=some c
  rcases hk with h | h
  ·exact Oz.mp (yh scope.names (Z.C+1) _ (.inl h))
  ·obtain ⟨c,m⟩:=pX X.env scope.names (mem_of_lookup h);rw[fE];exact ja (bL _ m)
 ·have ho:x∈own:=by have hx':own.contains x=true:=hx;simpa using hx'
  rcases jh B I h with ⟨_,m⟩ | ⟨_,n,_⟩
  ·have:=(hcl.empty _ _ m).2;have hC':Z.s.heap.objs.size<=Z.C:=hC;show Z.s.heap.objs.size<=c
   lia
  ·exact absurd ho n
 ·intro e;have e':@Eq Nat b Z.C:=e;have:=(hf b hb).2
  lia
 ·have l:=(hf b hb).2;rcases jh B I h with ⟨_,m⟩ | ⟨_,_,m⟩
  ·intro e;have e':@Eq Nat c b:=e;have:=(hcl.empty _ _ m).2
   lia
  ·exact (hf b hb).1.2.2.2.2.1 x c m
 ·obtain ⟨_,_,_,f3,_⟩:=(hf b hb).1;rcases f3 with f3 | f3
  ·exact I.ok.noex b o e f3
  ·exact absurd (a9 (Heap.lt_size e) (aj I.ok.bsz f3)) (fo _)
 ·obtain ⟨_,f1,f2,_⟩:=(hf b hb).1;rcases aF.mp (I.stkSub b hz) with e | e
  ·exact f1 e
  ·exact f2 e
def HL (k:Nat) (cap:List Nat) (σ:St):St:=List.replicate k none++cap.map λj=>(σ[j]?).join
def xG (X:Cx) (capN:List Str) (cap:List Nat):Prop:=cap.map (λj=>X.N[j]?)=capN.map some
theorem xG.get (h:xG X capN cap) {i:Nat} (e:capN[i]?=some x):∃j,cap[i]?=some j/\X.N[j]?=some x:=by
 have q:=congrArg (λl=>l[i]?) h;simp only[aB,e,Option.map_some] at q;cases hc:cap[i]? with
 | none=>rw[hc] at q;cases q
 | some j=>rw[hc] at q;exact ⟨j,rfl,by simpa using q⟩
theorem DM (I:Inv X pins σ Z.H Z.s) (B:Bk X.env scope own capN) (hcap:xG X capN cap)
  (kc:∀x c,X.env.cells.lookup x=some c->∀v,Z.s.heap.IsCell c v->h'.IsCell c v) {i:Nat} (e1:(own++capN)[i]?=some x) (e2:(HL own.length cap σ)[i]?=some (some v)) :
  ∃u,RelV v u/\Look (wG X.env scope Z.C) h' m x u:=by
 have hi:own.length<=i:=by
  by_cases hi:own.length<=i
  ·exact hi
  ·exfalso
   unfold HL at e2;rw[kK (by simpa using hi),P9] at e2
   split at e2 <;> cases e2
 rw[jP hi] at e1;unfold HL at e2;rw[jP (by simpa using hi),gE,aB] at e2;obtain ⟨j,hj,hN⟩:=hcap.get e1;rw[hj] at e2;have e3:(σ[j]?).join=some v:=by simpa using e2
 have e4:σ[j]?=some (some v):=by
  cases q:σ[j]? with
  | none=>rw[q] at e3;cases e3
  | some o=>rw[q] at e3;simp at e3;rw[e3]
 have hx:x∈capN:=ak e1;have hk:=B.caps x hx;obtain ⟨m0,_,hl⟩:=I.loc;obtain ⟨u,r,l⟩:=hl j x v hN e4 (.inr hk);refine ⟨u,r,.inr ⟨Dl (B.capf x hx),?_⟩⟩;rcases l with ⟨hk2,_⟩ | ⟨_,c,hc,z⟩
 ·rcases hk with hk | hk
  ·rw[hk] at hk2;cases hk2
  ·rw[hk] at hk2;cases hk2
 ·exact ⟨c,Lq B I hx hc,kc x c hc _ z⟩
theorem Pw (I:Inv X pins σ Z.H Z.s) (h:b∈HP X.stack):@LT.lt Nat instLTNat b Z.s.heap.objs.size:=by
 obtain ⟨_,o,ho,_⟩:=I.stack.mem h;exact Heap.lt_size ho
theorem Lo {D:Addr} (I:Inv X pins σ Z.H Z.s) (hc:X.calm=true) (B:Bk X.env scope own capN) (hcap:xG X capN cap) (hC:Z.s.heap.objs.size<=Z.C)
  (hcl:CellsOk h1 (Z.C+1) (cellsFrom (Z.C+1) scope.names [])) (hf:∀b∈Z.fp,kd X pins Z.H b/\@LT.lt Nat instLTNat b Z.s.heap.objs.size)
  (hk:∀b o,Z.s.heap.get? b=some o->h1.get? b=some o) (hn:h1.Ns Z.C λ_=>none) (hD:Z.s.heap.objs.size<=D) (hDC:D≠Z.C) (hoD:h1.get? D=some oD) (hdD:∀v,oD.data≠.cell v) :
  Inv (xQ X own capN scope Z) [(D,oD)] (HL own.length cap σ) Z.H { Z.s with heap:=h1,toks:=t1 }:=by
 refine ⟨Ob I hc B hC hcl hf,rfl,I.bare,Un.kept hk,⟨_,hn,λi x v e1 e2 _=>DM I B hcap (λx c _ v z=>z.keeps hk) e1 e2⟩,λx c h=>?_,I.hok.fresh hC,λx c h=>?_,λp hp=>?_,I.hok.kept hk,?_⟩
 ·rcases jh B I h with ⟨_,m⟩ | ⟨_,_,m⟩
  ·exact ⟨none,(hcl.empty _ _ m).1⟩
  ·obtain ⟨v,q⟩:=I.cell x c m;exact ⟨v,q.keeps hk⟩
 ·rcases jh B I h with ⟨_,m⟩ | ⟨_,_,m⟩
  ·exact I.hok.fresh (by have:=(hcl.empty _ _ m).2;lia)
  ·exact I.freeC x c m
 ·have e:p=(D,oD):=by simpa [xQ] using hp
  subst e;exact ⟨hoD,I.hok.fresh hD,hDC,λz=>fo _ (a9 (Pw I z) hD),hdD⟩
 ·show (HL own.length cap σ).length=(own++capN).length
  have:=congrArg List.length hcap;simp only[ag] at this;unfold HL;simp [this]
theorem JK {σ':St} (I:Inv X pins σ Z.H Z.s) (B:Bk X.env scope own capN) (hcap:xG X capN cap) (hf:∀b∈Z.fp,kd X pins Z.H b/\@LT.lt Nat instLTNat b Z.s.heap.objs.size)
  (J:Inv (xQ X own capN scope Z) pins' σ' H' s'):Inv (xQ X own capN scope Z) pins' (HL own.length cap σ) H' s':=by
 refine ⟨J.ok,J.os,J.bare,J.base,?_,J.cell,J.free,J.freeC,J.pin,J.hok,?_⟩
 ·obtain ⟨m,hn,_⟩:=J.loc;refine ⟨m,hn,λi x v e1 e2 _=>DM I B hcap (λx c hx v z=>?_) e1 e2⟩;obtain ⟨o,ho,hd⟩:=z;obtain ⟨sl,e⟩:=J.base.any ho (I.freeC x c hx) λz=>(hf c z).1.2.2.2.2.1 x c hx rfl
  exact ⟨_,e,hd⟩
 ·show (HL own.length cap σ).length=(own++capN).length
  have:=congrArg List.length hcap;simp only[ag] at this;unfold HL;simp [this]
theorem Lp {σ':St} {D:Addr} (I:Inv X pins σ Z.H Z.s) (hf:∀b∈Z.fp,kd X pins Z.H b/\@LT.lt Nat instLTNat b Z.s.heap.objs.size) (hD:Z.s.heap.objs.size<=D)
  (J:Inv (xQ X own capN scope Z) [(D,{ cls:=.type "list",data:=.seq its.toArray n })] σ' H' s') (r:cR ys its) (hz:ys.length<=sizeLine) :
  Inv X pins σ (upd H' D (.lst ys)) s':=by
 have pD:=J.pin (D,{ cls:=.type "list",data:=.seq its.toArray n }) (by simp);have ne:∀{b:Addr} {o:Obj},Z.s.heap.get? b=some o->b≠D:=λe z=>by subst z;exact fo _ (a9 (Heap.lt_size e) hD)
 have nt:∀{b:Addr} {u:HO},H' b=some u->b≠D:=λe z=>by rw[z,pD.2.1] at e;cases e
 refine I.call' (ch:=Z.fp) J.os ⟨J.base.keep,J.base.slot,λb o e h hx=>?_,J.base.there,λb xs e=>?_,λb o u e=>?_,λb ps e=>?_⟩ (λb u e=>?_) J.bare λb hb=>?_
 ·rw[aN (ne e)];exact J.base.free b o e h hx
 ·have q:=J.base.tups b xs e;rw[aN (nt q)];exact q
 ·have q:=J.base.frzs b o u e;rw[aN (nt q)];exact q
 ·obtain ⟨more,q⟩:=J.base.tbls b ps e;exact ⟨more,by rw[aN (nt q)];exact q⟩
 ·by_cases hb:b=D
  ·subst hb;rw[aE] at e;cases e;exact ⟨hz,its,n,r,pD.1⟩
  ·rw[aN hb] at e;exact (J.hok b u e).stay (λc v _ q=>q) (λc q=>by rw[aN (nt q)];exact q) λc xs q=>by rw[aN (nt q)];exact q
 ·obtain ⟨_,f1,_,f3,f4,f5⟩:=(hf b hb).1;exact ⟨f3,f1,f4,f5⟩
end
theorem Mu {t:Sem α} {Q Q':α->Shared->Prop} (h:wpAny M A t Q (λ_ _=>False) s) (hQ:∀a s,Q a s->Q' a s):wpAny M A t Q' E s :=
 wpAny_mono h hQ λ_ _ z=>False.elim z
theorem Cg (I:Nat->Shared->Prop)
  (turn:∀(E:Value->Shared->Prop) n s,I n s->wpAny (model prog w) A (pyNext it) (λr s₁=>match r with
   | none=>R (.ok .next) s₁
   | some v=>wpAny (model prog w) A (letOwnedTupleGo target it v) (λ_ s₂=>wpAny (model prog w) A (assign target env v) (λ_ s₃ =>
     wpAny (model prog w) A (forIn ifs true λc r=>if r=true then do let ok <- isTrue c env (eval c env);pure (ForInStep.yield ok) else pure (ForInStep.yield r)) (λok s₄ =>
      if ok=true then wpAny (model prog w) A (eval elt env) (λx s₅=>wpAny (model prog w) A (call (.builtin "list.append") [acc,x]) (λ_ s₆=>∃m,m < n/\I m s₆) E s₅) E s₄
      else ∃m,m < n/\I m s₄) E s₃) E s₂) E s₁) E s)
  (n:Nat) (h:I n s):codeAny (model prog w) A (.compLoop (.ListComp elt [⟨target,iter,ifs,0⟩] scope pos) 0 it acc env) R s:=by
 refine codeAny_loop rfl I (λn s hI=>?_) n h;show wpAny _ A ((compTurn (.ListComp elt [⟨target,iter,ifs,0⟩] scope pos) 0 it acc env).onRaise (λx=>do noteFrame x env;theTreesLotGoes x)) _ _ s
 refine wpAny_noted ?_;rw[compTurn_list];refine wpAny_bind (wpAny_standAt (wpAny_bind (wpAny_mono (turn _ n s hI) (λr s₁ h₁=>?_) λ_ _ h'=>h')));cases r with
 | none=>exact wpAny_pure h₁
 | some v =>
  refine wpAny_bind (wpAny_mono h₁ (λ_ s₂ h₂=>wpAny_bind (wpAny_mono h₂ (λ_ s₃ h₃=>wpAny_bind (wpAny_mono h₃ (λok s₄ h₄=>?_) λ_ _ h'=>h')) λ_ _ h'=>h')) λ_ _ h'=>h');cases ok with
  | false=>exact wpAny_pure ⟨rfl,h₄⟩
  | true =>
   exact wpAny_bind (wpAny_bind (wpAny_mono h₄ (λx s₅ h₅=>wpAny_bind (wpAny_mono h₅ (λ_ s₆ h₆=>wpAny_pure (wpAny_pure ⟨rfl,h₆⟩)) λ_ _ h'=>h')) λ_ _ h'=>h'))
def PF (X:Cx) (ifs:List Expr) (t:TT):Prop :=
 ∀(pins:List (Addr×Obj)) (s:Shared) (σ:St) (H:Hp) (Q:Bool->Hp->Prop),Inv X pins σ H s->t σ H Q →
  wpAny (model X.prog X.w) X.A (forIn ifs true λc r=>if r=true then do let ok <- isTrue c X.env (eval c X.env);pure (ForInStep.yield ok) else pure (ForInStep.yield r)) (TP X pins σ Q) X.xe s
def OE:TT:=λ_ H Q=>Q true H
theorem cy:PF X [] OE:=λ_ _ _ H _ I h=>wpAny_tests_nil ⟨H,I,h⟩
def qg (σ₀:St) (g:TG) (tf:TT) (te:TE) (x:V) (H:Hp) (NY:V->Hp->Prop) (NN:Hp->Prop):Prop :=
 g x σ₀ H λσ2 H2=>tf σ2 H2 λb H3=>if b=true then te σ2 H3 NY else NN H3
def qA (J:It) (σ₀:St) (g:TG) (tf:TT) (te:TE) (Q:VK) (H1:Hp):Prop :=
 ∃W:Nat->Nat->List V->Hp->Prop,(∃m,W 0 m [] H1)/\∀i m ys H,W i m ys H →
  (J.stop i H/\ys.length<=sizeLine/\∀p,H p=none->Q (.ref p) (upd H p (.lst ys))) \/
  (J.go i H/\ys.length < sizeLine/\∃(NY:V->Hp->Prop) (NN:Hp->Prop),(∀y H',NY y H'->∃m',m' < m/\W (i+1) m' (ys++[y]) H')/\(∀H',NN H'->∃m',m' < m/\W (i+1) m' ys H') /\
   ∀x H',J.yld i H x H'->qg σ₀ g tf te x H' NY NN)
def CJ (wi:TI) (k:Nat) (cap:List Nat) (g:TG) (tf:TT) (te:TE):TE:=λσ H Q=>wi σ H λJ H1=>qA J (HL k cap σ) g tf te Q H1
abbrev lobj (its:List Value) (n:Nat):Obj:={ cls:=.type "list",data:=.seq its.toArray n }
section
variable {X:Cx} {own capN:List Str} {cap:List Nat} {scope:Scope} {elt tg iter:Expr} {ifs:List Expr} {pos:Pos} {wi:TI} {g:TG} {tf:TT} {te:TE}
theorem AA (hc:X.calm=true) (B:Bk X.env scope own capN) (hcap:xG X capN cap)
  (hi:PI X tg iter wi) (hg:∀Z,PG (xQ X own capN scope Z) tg g) (hf:∀Z,PF (xQ X own capN scope Z) ifs tf) (he:∀Z,PE (xQ X own capN scope Z) elt te)
  (hs:∀x,foldedSetIterable iter X.env x=pure x) {σ:St} (I:Inv X pins σ H s) (h:CJ wi own.length cap g tf te σ H Q)
  (fin:∀(D C:Addr) (s':Shared) (H':Hp),Inv X pins σ H' s'->kd X pins H' C->(∃m,s'.heap.Ns C m)->Q (.ref D) H'->compPost (model X.prog X.w) X.A X.xe use Qe (.ref D) C (.ok .next) s') :
  wpAny (model X.prog X.w) X.A (comprehension (.ListComp elt [⟨tg,iter,ifs,0⟩] scope pos) scope X.env fpos (newList []) false (eval iter X.env) use) Qe X.xe s:=by
 refine wpAny_comprehension_free (use:=use) rfl hs (zi λy hy hk=>I.ok.has y.1 (B.caps _ (B.frees y hy hk).1)) B.kind B.locs ?_;refine gN (hi pins s σ H _ I h) λv s1 h1=>gN h1 λitv s2 h2=>?_
 obtain ⟨it,fp,tn,J,H2,e,I2,T,st2,f2,W,⟨m0,w0⟩,turn⟩:=h2;subst e;have hfp:∀b∈fp,kd X pins H2 b/\@LT.lt Nat instLTNat b s2.heap.objs.size:=λb hb=>⟨f2 b hb,let ⟨_,e,_⟩:=T.obj _ _ st2 b hb;Heap.lt_size e⟩
 refine wpAny_newObj_type (Dy ?_) (bW _);have es:(s2.heap.push { cls:=.type "list",data:=.seq ([]:List Value).toArray }).objs.size=s2.heap.objs.size+1:=Heap.size_push ..
 show codeAny _ _ (.compStart _ 0 (.ref it) (.ref s2.heap.objs.size) { newEnv scope (s2.heap.push { cls:=.type "list",data:=.seq ([]:List Value).toArray }).objs.size X.env.globals (cellsFrom ((s2.heap.push { cls:=.type "list",data:=.seq ([]:List Value).toArray }).objs.size+1) scope.names (d6 X.env scope.names [])) X.env.qual none .none (some X.env) builtinsNs with scope:=relabel scope X.env })
  (compPost (model X.prog X.w) X.A X.xe use Qe (.ref s2.heap.objs.size) (s2.heap.push { cls:=.type "list",data:=.seq ([]:List Value).toArray }).objs.size)
  { s2 with heap:=pushCells ((s2.heap.push { cls:=.type "list",data:=.seq ([]:List Value).toArray }).push { cls:=.type "dict",data:=.dict #[] }) scope.names }
 have hk1:∀b o,(s2.heap.push { cls:=.type "list",data:=.seq ([]:List Value).toArray }).get? b=some o->(pushCells ((s2.heap.push { cls:=.type "list",data:=.seq ([]:List Value).toArray }).push { cls:=.type "dict",data:=.dict #[] }) scope.names).get? b=some o :=
  λb o e=>pushCells_keeps _ _ _ _ (Heap.get?_push_of_some _ e)
 have hk:∀b o,s2.heap.get? b=some o->(pushCells ((s2.heap.push { cls:=.type "list",data:=.seq ([]:List Value).toArray }).push { cls:=.type "dict",data:=.dict #[] }) scope.names).get? b=some o:=λb o e=>hk1 b o (Heap.get?_push_of_some _ e)
 have hoD:=hk1 s2.heap.objs.size _ (Heap.get?_push_size s2.heap (o:={ cls:=.type "list",data:=.seq ([]:List Value).toArray }) rfl);have hn:=(Heap.Ns.new (s2.heap.push { cls:=.type "list",data:=.seq ([]:List Value).toArray }) (.type "dict")).keeps (pushCells_keeps scope.names _);have hcl:=GH ((s2.heap.push { cls:=.type "list",data:=.seq ([]:List Value).toArray }).push { cls:=.type "dict",data:=.dict #[] }) (s2.heap.objs.size+1) (by rw[Heap.size_push,es]) scope.names;rw[es] at hn ⊢;generalize pushCells ((s2.heap.push { cls:=.type "list",data:=.seq ([]:List Value).toArray }).push { cls:=.type "dict",data:=.dict #[] }) scope.names=h3 at hk hoD hn hcl ⊢;have Z:Bz:=⟨s2,H2,fp,s2.heap.objs.size+1⟩
 have I3:Inv (xQ X own capN scope ⟨s2,H2,fp,s2.heap.objs.size+1⟩) [(s2.heap.objs.size,lobj [] 0)] (HL own.length cap σ) H2 { s2 with heap:=h3 } :=
  Lo (Z:=⟨s2,H2,fp,s2.heap.objs.size+1⟩) (t1:=s2.toks) I2 hc B hcap (AU _) hcl hfp hk hn (au _) (cE (iM _)) hoD (λv z=>nomatch z)
 have st3:tn 0 h3:=T.keep _ _ _ st2 λb _ o e=>hk b o e
 have loop:codeAny (model X.prog X.w) X.A (.compLoop (.ListComp elt [⟨tg,iter,ifs,0⟩] scope pos) 0 (.ref it) (.ref s2.heap.objs.size) (wG X.env scope (s2.heap.objs.size+1))) (compPost (model X.prog X.w) X.A X.xe use Qe (.ref s2.heap.objs.size) (s2.heap.objs.size+1)) { s2 with heap:=h3 }:=by
  refine Cg (λm s'=>∃i ys σ' H' its n,Inv (xQ X own capN scope ⟨s2,H2,fp,s2.heap.objs.size+1⟩) [(s2.heap.objs.size,lobj its n)] σ' H' s'/\tn i s'.heap/\(∀b∈fp,H' b=none)/\cR ys its/\W i m ys H') ?_ m0
   ⟨0,[],_,H2,[],0,I3,st3,λb hb=>(f2 b hb).1,.nil,w0⟩
  rintro E n s4 ⟨i,ys,σ4,H4,its,k,I4,st4,fr4,rv,w4⟩
  have fpo:∀{pp:List (Addr×Obj)} {H':Hp},(∀p∈pp,p.1=s2.heap.objs.size)->(∀b∈fp,H' b=none)->∀b∈fp,kd (xQ X own capN scope ⟨s2,H2,fp,s2.heap.objs.size+1⟩) pp H' b:=λ{pp H'} hpp hn b hb=>by
   obtain ⟨e1,e2⟩:=I4.ok.exf b hb;refine ⟨hn b hb,e1,I4.ok.exfs b hb,.inl hb,e2,λp hp=>?_⟩;have hp':p∈pp:=by simpa [xQ] using hp
   have l:=(hfp b hb).2;rw[hpp p hp'];exact λz=>fo _ (by rw[<- z] at l;exact l)
  have pinD:∀{its:List Value} {n:Nat},∀p∈[(s2.heap.objs.size,lobj its n)],p.1=s2.heap.objs.size:=λp hp=>by simp at hp;rw[hp]
  rcases turn i n ys H4 w4 with ⟨stop,hz,q⟩ | ⟨go,hlt,NY,NN,hNY,hNN,step⟩
  ·refine gN (T.done (xQ X own capN scope ⟨s2,H2,fp,s2.heap.objs.size+1⟩) rfl rfl rfl rfl i _ s4 σ4 H4 E I4 (fpo pinD fr4) st4 stop) λr s5 ⟨hr,I5⟩=>?_
   subst hr;have pD:=I5.pin (s2.heap.objs.size,lobj its k) (by simp);have I6:=Lp (Z:=⟨s2,H2,fp,s2.heap.objs.size+1⟩) I2 hfp (au _) I5 rv hz
   have hC:upd H4 s2.heap.objs.size (.lst ys) (s2.heap.objs.size+1)=none:=by
    rw[aN (Gf (iM _))];exact I5.free
   obtain ⟨m,hm,_⟩:=I5.loc;exact fin _ _ s5 _ I6 (I2.fpOk (AU _) hC) ⟨m,hm⟩ (q _ pD.2.1)
  ·refine gN (T.item (xQ X own capN scope ⟨s2,H2,fp,s2.heap.objs.size+1⟩) rfl rfl rfl rfl i _ s4 σ4 H4 E I4 (fpo pinD fr4) st4 go) λr s5 ⟨u,hr,h5⟩=>?_
   subst hr;refine gN h5 λ_ s6 ⟨x,H6,I6,r6,y6,st6,fr6⟩=>?_
   have I6':=(JK (Z:=⟨s2,H2,fp,s2.heap.objs.size+1⟩) I2 B hcap hfp I6).pinned (fpo pinD fr6) (T.obj _ _ st6)
   have back:∀{σ7:St} {H7:Hp} {s7:Shared},Inv (xQ X own capN scope ⟨s2,H2,fp,s2.heap.objs.size+1⟩) ([(s2.heap.objs.size,lobj its k)]++yD fp s6.heap) σ7 H7 s7 →
     Inv (xQ X own capN scope ⟨s2,H2,fp,s2.heap.objs.size+1⟩) [(s2.heap.objs.size,lobj its k)] σ7 H7 s7/\tn (i+1) s7.heap/\∀b∈fp,H7 b=none:=λ{σ7 H7 s7} I7=>by
    refine ⟨I7.unpinned,T.keep _ _ _ st6 λb hb o e=>(I7.pin (b,o) (bL _ (bL _ (pS hb e)))).1,λb hb=>?_⟩;obtain ⟨o,e,d⟩:=T.obj _ _ st6 b hb;exact (I7.pin (b,o) (bL _ (bL _ (pS hb e)))).2.1
   refine Mu (hg _ _ s6 _ H6 x u _ I6' r6 (step x H6 y6)) λ_ s7 ⟨σ7,H7,I7,q7⟩=>?_
   refine Mu (hf _ _ s7 σ7 H7 _ I7 q7) λok s8 ⟨H8,I8,q8⟩=>?_
   cases ok with
   | false =>
    rw[if_neg bu] at q8 ⊢;obtain ⟨m',hm,w8⟩:=hNN H8 q8;obtain ⟨J1,J2,J3⟩:=back I8;exact ⟨m',hm,i+1,ys,σ7,H8,its,k,J1,J2,J3,rv,w8⟩
   | true =>
    rw[if_pos rfl] at q8 ⊢;refine Mu (he _ _ s8 σ7 H8 _ I8 q8) λz s9 ⟨y,H9,I9,r9,q9⟩=>?_
    obtain ⟨J1,J2,J3⟩:=back I9;obtain ⟨m',hm,w9⟩:=hNY y H9 q9;have pD:=J1.pin (s2.heap.objs.size,lobj its k) (by simp);have hl:=rv.length;refine call_meets F.slot_list_append ⟨_,pD.1,rfl⟩ F.entry_list_append (F.args_list_append_2 _ _) (PySem.list_append s2.heap.objs.size its.toArray k z (by rw[aP];lia)) ⟨pD.1,?_⟩;have e9:=ko pD.1 (λa=>a.push z);have e9':(its.toArray.push z)=(its++[z]).toArray:=by simp
    rw[e9'] at e9;obtain ⟨n',e9⟩:∃n',(s9.heap.update s2.heap.objs.size (Obj.mapSeq λa=>a.push z)).get? s2.heap.objs.size=some (lobj (its++[z]) n'):=⟨_,e9⟩
    have J4:Inv (xQ X own capN scope ⟨s2,H2,fp,s2.heap.objs.size+1⟩) [] σ7 H9 { s9 with heap:=s9.heap.update s2.heap.objs.size (Obj.mapSeq λa=>a.push z),toks:=s9.toks } :=
     (J1.pins_of (pins':=[]) λp hp=>nomatch hp).turned (λb o hb e=>(Heap.get?_update_other s9.heap _ (Ne.symm hb)).trans e) pD.2.1 pD.2.2.1 (.inr (au _)) (λx c hx z=>by
      rcases jh (Z:=⟨s2,H2,fp,s2.heap.objs.size+1⟩) B I2 hx with ⟨_,m⟩ | ⟨_,_,m⟩
      ·have:=(hcl.empty _ _ m).2;have z':@Eq Nat c s2.heap.objs.size:=z
       lia
      ·have:=Ci (Z:=⟨s2,H2,fp,s2.heap.objs.size+1⟩) I2 m;rw[z] at this;exact fo _ this) λp hp=>by simp [xQ] at hp
    have nfp:∀b∈fp,b≠s2.heap.objs.size:=λb hb z=>by have:=(hfp b hb).2;rw[z] at this;exact fo _ this
    refine ⟨m',hm,i+1,ys++[y],σ7,H9,its++[z],n',J4.pins_of λp hp=>?_,T.keep _ _ _ J2 λb hb o e=>(Heap.get?_update_other s9.heap _ (Ne.symm (nfp b hb))).trans e,J3,rv.append (.cons r9 .nil),w9⟩;have ep:p=(s2.heap.objs.size,lobj (its++[z]) n'):=by simpa using hp
    rw[ep];exact ⟨e9,pD.2.1,pD.2.2.1,pD.2.2.2.1,λv z=>nomatch z⟩
 exact codeAny_compStart_list loop (T.self _ _ _ _ _ st3 loop)
theorem cv (own capN:List Str) (cap:List Nat) (hi:PI X tg iter wi) (hg:∀Z,PG (xQ X own capN scope Z) tg g) (hf:∀Z,PF (xQ X own capN scope Z) ifs tf) (he:∀Z,PE (xQ X own capN scope Z) elt te)
  (h1:Qg scope own capN=true:=by decide +kernel) (h2:AE X.env capN=true:=by rfl) (hcap:xG X capN cap:=by rfl) (hc:X.calm=true:=by rfl) (hs:∀x,foldedSetIterable iter X.env x=pure x:=by intro _;rfl) :
  PE X (.ListComp elt [⟨tg,iter,ifs,0⟩] scope pos) (CJ wi own.length cap g tf te):=by
 intro pins s σ H Q I h;rw[eval_ListComp];refine AA (use:=none) hc (Bk.of h1 h2) hcap hi hg hf he hs I h λD C s' H' I' fC hm q=>?_
 obtain ⟨m,hm⟩:=hm;refine ⟨m,hm,λh' hs'=>?_⟩;obtain ⟨f0,f1,f2,f3,f4,f5⟩:=fC;exact ⟨.ref D,H',I'.turned (t':=s'.toks) (λb o hb e=>(hs'.2 b hb).trans e) f0 f1 f3 f4 f5,rfl,q⟩
theorem mL (i:Nat) (own capN:List Str) (cap:List Nat) {x:Str} {pos' spos:Pos} (hN:X.N.Nodup) (hi':X.N[i]?=some x) (hx:X.env.scope.names.lookup x=some .local) (hi:PI X tg iter wi) (hg:∀Z,PG (xQ X own capN scope Z) tg g) (hf:∀Z,PF (xQ X own capN scope Z) ifs tf) (he:∀Z,PE (xQ X own capN scope Z) elt te)
  (h1:Qg scope own capN=true:=by decide +kernel) (h2:AE X.env capN=true:=by rfl) (hcap:xG X capN cap:=by rfl) (hc:X.calm=true:=by rfl) (hs:∀x,foldedSetIterable iter X.env x=pure x:=by intro _;rfl)
  (hsw:swapsWith (.ListComp elt [⟨tg,iter,ifs,0⟩] scope pos) (some (.Name x pos')) spos.line X.env=pure true:=by rfl) :
  PS X (.Assign [.Name x pos'] (.ListComp elt [⟨tg,iter,ifs,0⟩] scope pos) spos) (J9 (CJ wi own.length cap g tf te) (FT i)):=by
 intro pins s σ H D I h;rw[exec_Assign_Name_used _ _ _ _ hsw];refine wpAny_bind (wpAny_standAt (wpAny_bind ?_));rw[arm_evalThenUse_ListComp];refine wpAny_bind (AA (Q:=λv H1=>D.nx (σ.set i (some v)) H1) (use:=some _) hc (Bk.of h1 h2) hcap hi hg hf he hs I h λL C s' H' I' fC hm q=>?_);obtain ⟨m,hm⟩:=hm;obtain ⟨f0,f1,f2,f3,f4,f5⟩:=fC;refine wpAny_assign_Name (Ae I' hN hi' (.inl hx) (v:=.ref L) rfl (λs'' I'' ⟨a,sb,ha⟩=>?_) (.inr hx))
 have hCa:C≠a:=by
  rcases ha with e | e
  ·rw[e];exact f1
  ·exact (f4 x a e).symm
 refine ⟨m,hm.at' λo e=>(sb.2 C hCa).trans e,λh' hs'=>?_⟩;have I3:=I''.turned (h':=h') (t':=s''.toks) (λb o hb e=>(hs'.2 b hb).trans e) f0 f1 f3 f4 f5;exact wpAny_pure (wpAny_pure ⟨_,H',I3,q⟩)
end
section
variable {K:FG9} {a:Addr} {xs:List V} {g:TG} {tf:TT} {te:TE} {Q:VK} {σ₀:St} {H:Hp}
theorem fN (Pv:Nat->List V->Hp->Prop) (hz:xs.length<=sizeLine) (h0:Pv 0 [] H) (hl:∀i ys H,i<=xs.length->Pv i ys H->bP K H a xs)
  (hs:∀i x ys H,xs[i]?=some x->ys.length<=i->Pv i ys H->qg σ₀ g tf te x H (λy H'=>Pv (i+1) (ys++[y]) H') (λH'=>Pv (i+1) ys H'))
  (hd:∀ys H,ys.length<=xs.length->Pv xs.length ys H->∀p,H p=none->Q (.ref p) (upd H p (.lst ys))):qA (JY K a) σ₀ g tf te Q H:=by
 refine ⟨λi m ys H=>m=xs.length - i/\i<=xs.length/\ys.length<=i/\Pv i ys H,⟨xs.length,by simp,bW _,bW _,h0⟩,?_⟩;rintro i m ys H ⟨rfl,hi,hy,p⟩;have q:=hl i ys H hi p;by_cases hlt:i < xs.length
 ·refine .inr ⟨⟨xs,xs[i],q,by simp [hlt]⟩,by lia,λy H'=>Pv (i+1) (ys++[y]) H',λH'=>Pv (i+1) ys H',λy H' p'=>⟨xs.length - (i+1),by lia,rfl,hlt,by rw[aD,eQ];lia,p'⟩,λH' p'=>⟨xs.length - (i+1),by lia,rfl,hlt,by lia,p'⟩,λx H' y=>?_⟩;obtain ⟨e,y⟩:=y;subst e;exact hs i x ys _ (y xs q) hy p
 ·have e:i=xs.length:=by lia
  subst e;exact .inl ⟨⟨xs,q,au _⟩,by lia,hd ys H hy p⟩
theorem uj {lo:Int} (Pv:Nat->List V->Hp->Prop) (hz:n<=sizeLine) (h0:Pv 0 [] H)
  (hs:∀i ys H,i < n->ys.length<=i->Pv i ys H->qg σ₀ g tf te (.int (lo+i)) H (λy H'=>Pv (i+1) (ys++[y]) H') (λH'=>Pv (i+1) ys H'))
  (hd:∀ys H,ys.length<=n->Pv n ys H->∀p,H p=none->Q (.ref p) (upd H p (.lst ys))):qA (Ge lo n) σ₀ g tf te Q H:=by
 refine ⟨λi m ys H=>m=n - i/\i<=n/\ys.length<=i/\Pv i ys H,⟨n,by simp,bW _,bW _,h0⟩,?_⟩;rintro i m ys H ⟨rfl,hi,hy,p⟩;by_cases hlt:i < n
 ·refine .inr ⟨hlt,by lia,λy H'=>Pv (i+1) (ys++[y]) H',λH'=>Pv (i+1) ys H',λy H' p'=>⟨n - (i+1),by lia,rfl,hlt,by rw[aD,eQ];lia,p'⟩,λH' p'=>⟨n - (i+1),by lia,rfl,hlt,by lia,p'⟩,λx H' y=>?_⟩;obtain ⟨e,y⟩:=y;subst e y;exact hs i ys _ hlt hy p
 ·have e:i=n:=by lia
  subst e;exact .inl ⟨au _,by lia,hd ys H hy p⟩
end
open Nm
def gX (i j:Int):Prop:=Oo i j\/∃m n,Sz m i/\Sz n j/\m+n<=100000000
def nk (i j:Int):Prop:=j≠0/\Sz 4499500 j
theorem zj (h:Sz k i):Builtin.Int.intBits i<=k:=by
 unfold Builtin.Int.intBits;by_cases e:i=0
 ·subst e;simp
 ·have e':(i == 0)=false:=by simpa using e
  rw[e'];have hn:i.natAbs≠0:=by lia
  have:=(Nat.log2_lt hn).mpr h;simp only[iY,if_false]
  lia
theorem gX.ok (h:gX i j):IntMulOk i j:=by
 rcases h with h | ⟨m,n,h1,h2,h3⟩
 ·exact h.ok
 ·exact .of_le (zj h1) (zj h2) (aj h3 (by decide))
section
variable {X:Cx} {a b:Expr} {ta tb:TE} {pos:Pos}
theorem dc:zG X (binaryOp .Mult) (rI gX λi j=>.int (i*j)):=Qs λ_ _ _ _ _ _ _ hc q=>mul_int q hc.ok
theorem fM (hs:X.stack=env :: l) (S:ba N ps sc) (he:env.scope=sc) (hb:env.builtins=builtinsNs) (hg:env.globals=mainGlobals) (ht:X.prog.given.tree=none) (hd:X.A.depth+Builtin.pylongFrames < recursionLimit):zG X (binaryOp .FloorDiv) (rI nk λi j=>.int (i.fdiv j)):=by
 intro pins s σ H x y v u Q I rx ry h;obtain ⟨i,j,rfl,rfl,hc,q⟩:=h;obtain ⟨t,rfl⟩:=rx;obtain ⟨t',rfl⟩:=ry;refine floordiv_int hc.1 ⟨.int _,H,I.tok _,⟨_,rfl⟩,q⟩ (.inr (PySem.PylongRoom.of I.nolimit hd (PySem.SeerAt.of (I.ok.mod.seer.keeps I.bk) ht (env:=env) (l:=l) (by rw[I.ok.frames,hs]) (by rw[he];exact S.gen) (by rw[he];exact S.co) hb hg)))
theorem oK (hr:kI k A):A.depth+Builtin.pylongFrames < recursionLimit:=by have:=hr.dp;show A.depth+100 < _;lia
def OG (t u:TS):TS:=λD σ H=>∃N:St->Hp->Prop,t { D with nx:=N } σ H/\∀σ' H',N σ' H'->u D σ' H'
theorem iw {st:Stmt} (h1:PS X st t) (h2:E7 X rest u):E7 X (st :: rest) (OG t u):=by
 intro pins s σ H D I h;obtain ⟨N,h,k⟩:=h;refine wpAny_execs_cons (gN (h1 pins s σ H { D with nx:=N } I h) λf s1 q=>?_);cases f with
 | next =>
  obtain ⟨σ',H',I',q⟩:=q;exact h2 pins s1 σ' H' D I' (k _ _ q)
 | ret v=>exact q
 | brk=>exact q
 | cont=>exact q
def LO (K:FG9):V->V->Hp->VK->Prop:=λo i H Q=>∃p xs k v,o=.ref p/\i=.int k/\bP K H p xs/\E1 xs k=some v/\Q v H
theorem Jp:PN X (LO X.K):=by
 intro pins s σ H o i ov iv Q I ro ri h;obtain ⟨p,xs,k,z,rfl,rfl,hq,he,q⟩:=h;cases ro;obtain ⟨t,rfl⟩:=ri;obtain ⟨its,r,pl,hz⟩:=I.list hq;obtain ⟨j,h1,h2,h3,h4,h5⟩:=Cm he;obtain ⟨w,ew,rw'⟩:=r.get h2;have hl:=r.length;have hn:=yT;have fin:EP X pins σ Q w s:=⟨z,H,I,rw',q⟩;by_cases h0:0<=k
 ·have hj:k.toNat=j:=by
   rw[seqIndex_of h0 h5] at h1;exact b7 h1
  exact wpAny_getItem_list pl.isList h0 (by lia) (by rw[hj];simpa using ew) fin
 ·have hj:(k+(its.toArray.size:Int)).toNat=j:=by
   rw[seqIndex_neg (by lia) h4] at h1;rw[aP,<- hl];exact b7 h1
  exact wpAny_getItem_list_neg pl.isList (by lia) (by rw[aP] <;> lia) (by lia) (by rw[hj];simpa using ew) fin
def GD (K:FG9) (T:String):V->Hp->VK->Prop:=λx H Q=>∃t b,wH K H x t/\PySem.W.kitOne K t (.type T)=some b/\Q (.bl b) H
theorem yF {c:Str} {T:String} {p p2:Pos} (hg:Gl X "isinstance") (hm:X.mg "isinstance"=none) (hb:bootBuiltins c=some (.type T)) (hmc:X.mg c=none) (ha:PE X a ta) (hgc:Gl X c:=by rfl) (hn:c≠"__name__":=by decide)
  (hd:(c == ("__debug__":Str))=false:=by decide) (he:starEach [a,.Name c p2] X.env=[(false,eval a X.env),(false,eval (.Name c p2) X.env)]:=by rfl)
  (hpl:(backTo pos (starEach [.Name c p2] X.env)).any (·.1)=false:=by rfl) (he2:starEach [.Name c p2] X.env=[(false,eval (.Name c p2) X.env)]:=by rfl):PE X (.Call (.Name "isinstance" p) [a,.Name c p2] [] pos) (Qb (GD X.K T) ta):=by
 intro pins s σ H Q I h;refine wpAny_Call_Name_kw (oq I hg hm PyProof.Rows.boot_isinstance ?_);have hA:PA X [a,.Name c p2] (qK ta (qK (tC (.ty T)) Gs)):=aa ha (aa (FG hgc hmc hb rfl hn hd) af he2) (by rw[he,he2])
 have hq:qK ta (qK (tC (.ty T)) Gs) σ H (λvs H1=>∃x,vs=[x,.ty T]/\GD X.K T x H1 Q):=by
  show ta σ H λx H1=>∃x',[x,V.ty T]=[x',V.ty T]/\GD X.K T x' H1 Q
  have e:(λx H1=>∃x',[x,V.ty T]=[x',V.ty T]/\GD X.K T x' H1 Q)=λx H1=>GD X.K T x H1 Q:=by
   funext x H1;apply propext;constructor
   ·rintro ⟨x',e,q⟩;cases e;exact q
   ·intro q;exact ⟨x,rfl,q⟩
  rw[e];exact h
 refine PyProof.Rows.callWith_builtin1 (gN (hA pos pins s σ H _ I hq) λus s1 ⟨vs,H1,I1,r1,x,e,q1⟩=>?_) (by rw[he,he2]) hpl;subst e;obtain ⟨u,w',rfl,ru,rt⟩:=vals2 r1;cases rt;obtain ⟨t,bb,ty,ek,q⟩:=q1;exact Ar I1 ru ty ek λtk=>⟨.bl bb,H1,I1.tok tk,rfl,q⟩
end
structure Kind (α:Type) [DecidableEq α] where
 R:FG9->Hp->V->α->Prop
 d:Nat
 inj:∀{X:Cx} {pins:List (Addr×Obj)} {σ:St} {H:Hp} {s:Shared} {x:V} {a b:α},Inv X pins σ H s->R X.K H x a->R X.K H x b->a=b
 rc:∀{X:Cx} {pins:List (Addr×Obj)} {σ:St} {H:Hp} {s:Shared} {x y:V} {v u:Value} {a b:α} {A:Around},Inv X pins σ H s->RelV x v->RelV y u->R X.K H x a->R X.K H y b->A.units+d < cLine->SeqAt.RcAt A s v u (decide (a=b))
 ne:∀{X:Cx} {pins:List (Addr×Obj)} {σ:St} {H:Hp} {s:Shared} {x y:V} {v u:Value} {a b:α} {A:Around},Inv X pins σ H s->RelV x v->RelV y u->R X.K H x a->R X.K H y b->A.units+d < cLine->SeqAt.RcNeAt A s v u (!decide (a=b))
 eq:∀{X:Cx} {pins:List (Addr×Obj)} {σ:St} {H:Hp} {s:Shared} {x y:V} {v u:Value} {a b:α} {A:Around},Inv X pins σ H s->RelV x v->RelV y u->R X.K H x a->R X.K H y b->A.units+d < cLine->SeqAt.EqAt A s v u (decide (a=b))
def Qv:Kind Int where
 R:=λ_ _ x i=>x=.int i
 d:=0
 inj:=λ_ h1 h2=>by rw[h1] at h2;cases h2;rfl
 rc:=λ{X pins σ H s x y v u a b A} I rx ry h1 h2 _=>by
  subst h1 h2;obtain ⟨t,rfl⟩:=rx;obtain ⟨t',rfl⟩:=ry;have q:=SeqAt.RcAt.int_int (A:=A) (s:=s) a t b t';rwa [zO] at q
 ne:=λ{X pins σ H s x y v u a b A} I rx ry h1 h2 _=>by
  subst h1 h2;obtain ⟨t,rfl⟩:=rx;obtain ⟨t',rfl⟩:=ry;have q:=SeqAt.RcNeAt.int_int (A:=A) (s:=s) a t b t';rwa [zO] at q
 eq:=λ{X pins σ H s x y v u a b A} I rx ry h1 h2 _=>by
  subst h1 h2;obtain ⟨t,rfl⟩:=rx;obtain ⟨t',rfl⟩:=ry;have q:=SeqAt.EqAt.int_int (A:=A) (s:=s) a t b t';rwa [zO] at q
theorem jV {α β:Type} {F:α->β->Prop}:∀{l1:List α} {l2:List β} {i:Nat} (_:Paired F l1 l2) (h1:i < l1.length) (h2:i < l2.length),F l1[i] l2[i]
 | _,_,_,.nil,h1,_=>absurd h1 (J0 _)
 | _,_,0,.cons r _,_,_=>r
 | _,_,i+1,.cons _ t,h1,h2=>jV (i:=i) t (Nat.lt_of_succ_lt_succ h1) (Nat.lt_of_succ_lt_succ h2)
theorem lW {α β:Type} {F:α->β->Prop} (hF:∀a b x,F a x->F b x->a=b):∀{l1 l2:List α} {l:List β},Paired F l1 l->Paired F l2 l->l1=l2
 | _,_,_,.nil,.nil=>rfl
 | _,_,_,.cons r t,.cons r' t'=>by rw[hF _ _ _ r r',lW hF t t']
theorem vg {α:Type} [DecidableEq α] (as bs:List α) (h:as.length=bs.length):(List.range as.length).all (λj=>decide (as[j]?=bs[j]?))=decide (as=bs):=by
 rw[qJ,xI,decide_eq_true_iff];constructor
 ·intro q;apply nK;intro i;by_cases hi:i < as.length
  ·exact of_decide_eq_true (q i (AV.mpr hi))
  ·rw[bq (by lia),bq (by lia)]
 ·rintro rfl i _;simp
section
variable {α:Type} [DecidableEq α] (k:Kind α)
theorem Kind.items {X:Cx} {pins:List (Addr×Obj)} {σ:St} {H:Hp} {s:Shared} {A:Around} (I:Inv X pins σ H s) (hA:A.units+k.d < cLine) {xs ys:List V} {us ws:List Value} {as bs:List α}
  (rx:cR xs us) (ry:cR ys ws) (ha:Paired (λa x=>k.R X.K H x a) as xs) (hb:Paired (λa x=>k.R X.K H x a) bs ys) :
  ∀j (h1:j < us.toArray.size) (h2:j < ws.toArray.size),SeqAt.EqAt A s us.toArray[j] ws.toArray[j] (decide (as[j]?=bs[j]?)):=λj h1 h2=>by
 have l1:j < us.length:=by simpa using h1
 have l2:j < ws.length:=by simpa using h2
 have e1:=rx.length;have e2:=ry.length;have e3:=ha.length;have e4:=hb.length;obtain ⟨u,hu,ru⟩:=rx.get (i:=j) (x:=xs[j]'(by lia)) (by simp);obtain ⟨w,hw,rw'⟩:=ry.get (i:=j) (x:=ys[j]'(by lia)) (by simp);have q:=k.eq (A:=A) I ru rw' (jV ha (by lia) (by lia)) (jV hb (by lia) (by lia)) hA
 have eu:us.toArray[j]=u:=by
  have:=hu;rw[ao l1] at this;simpa using this
 have ew:ws.toArray[j]=w:=by
  have:=hw;rw[ao l2] at this;simpa using this
 rw[eu,ew,ao (show j < as.length by lia),ao (show j < bs.length by lia)];have e5:decide (some as[j]=some bs[j])=decide (as[j]=bs[j]):=by simp
 rw[e5];exact q
theorem A6 {α:Type} [DecidableEq α] (as bs:List α) {n m:Nat} (h1:as.length=n) (h2:bs.length=m):((List.range (min n m)).all (λj=>decide (as[j]?=bs[j]?)) && n == m)=decide (as=bs):=by
 subst h1 h2;by_cases e:as.length=bs.length
 ·rw[show min as.length bs.length=as.length by lia,vg as bs e];simp [e]
 ·have h1:(as.length == bs.length)=false:=by simpa using e
  rw[h1,Bool.and_false];exact (decide_eq_false λz=>e (by rw[z])).symm
def Qu:Kind (List α) where
 R:=λK H x as=>∃p xs,x=.ref p/\qG K H p xs/\Paired (λa x=>k.R K H x a) as xs
 d:=k.d+1
 inj:=λ{X pins σ H s x a b} I h1 h2=>by
  obtain ⟨p,xs,rfl,hp,pa⟩:=h1;obtain ⟨q,ys,e,hq,pb⟩:=h2;cases e;have e:=I.tuple_inj hp hq;subst e;exact lW (F:=λa x=>k.R X.K H x a) (λa b x=>k.inj I) pa pb
 rc:=λ{X pins σ H s x y v u a b A} I rx ry h1 h2 hA=>by
  obtain ⟨p,xs,rfl,hp,pa⟩:=h1;obtain ⟨q,ys,rfl,hq,pb⟩:=h2;cases rx;cases ry;obtain ⟨us,r1,t1,_⟩:=I.tuple hp;obtain ⟨ws,r2,t2,_⟩:=I.tuple hq;have z:=SeqAt.RcAt.tuples (A:=A) (e:=λj=>decide (a[j]?=b[j]?)) (show s.heap.IsTuple p us.toArray from t1) (show s.heap.IsTuple q ws.toArray from t2) (by lia) (k.items (A:=A.in1) I (by show A.units+1+k.d < cLine;lia) r1 r2 pa pb);rwa [A6 a b (by rw[pa.length,r1.length];simp) (by rw[pb.length,r2.length];simp)] at z
 ne:=λ{X pins σ H s x y v u a b A} I rx ry h1 h2 hA=>by
  obtain ⟨p,xs,rfl,hp,pa⟩:=h1;obtain ⟨q,ys,rfl,hq,pb⟩:=h2;cases rx;cases ry;obtain ⟨us,r1,t1,_⟩:=I.tuple hp;obtain ⟨ws,r2,t2,_⟩:=I.tuple hq;have z:=SeqAt.RcNeAt.tuples (A:=A) (e:=λj=>decide (a[j]?=b[j]?)) (show s.heap.IsTuple p us.toArray from t1) (show s.heap.IsTuple q ws.toArray from t2) (by lia) (k.items (A:=A.in1) I (by show A.units+1+k.d < cLine;lia) r1 r2 pa pb);rwa [A6 a b (by rw[pa.length,r1.length];simp) (by rw[pb.length,r2.length];simp)] at z
 eq:=λ{X pins σ H s x y v u a b A} I rx ry h1 h2 hA=>by
  obtain ⟨p,xs,rfl,hp,pa⟩:=h1;obtain ⟨q,ys,rfl,hq,pb⟩:=h2;cases rx;cases ry;by_cases e:p=q
  ·subst e;have e:=I.tuple_inj hp hq;subst e;rw[lW (F:=λa x=>k.R X.K H x a) (λa b x=>k.inj I) pa pb,decide_eq_true rfl];exact SeqAt.EqAt.same _
  ·obtain ⟨us,r1,t1,_⟩:=I.tuple hp;obtain ⟨ws,r2,t2,_⟩:=I.tuple hq;have z:=SeqAt.RcAt.tuples (A:=A) (e:=λj=>decide (a[j]?=b[j]?)) (show s.heap.IsTuple p us.toArray from t1) (show s.heap.IsTuple q ws.toArray from t2) (by lia) (k.items (A:=A.in1) I (by show A.units+1+k.d < cLine;lia) r1 r2 pa pb);rw[A6 a b (by rw[pa.length,r1.length];simp) (by rw[pb.length,r2.length];simp)] at z;exact .of_refs e z
theorem EK {X:Cx} {pins:List (Addr×Obj)} {σ:St} {H:Hp} {s:Shared} {p q:Addr} {xs ys:List V} {a b:List α} {A:Around} (I:Inv X pins σ H s) (hp:bP X.K H p xs) (hq:bP X.K H q ys)
  (pa:Paired (λa x=>k.R X.K H x a) a xs) (pb:Paired (λa x=>k.R X.K H x a) b ys) (hA:A.units+(k.d+1) < cLine) :
  SeqAt.RcAt A s (.ref p) (.ref q) (decide (a=b))/\SeqAt.RcNeAt A s (.ref p) (.ref q) (!decide (a=b)):=by
 obtain ⟨us,r1,t1,_⟩:=I.list hp;obtain ⟨ws,r2,t2,_⟩:=I.list hq;have l1:=r1.length;have l2:=r2.length;have l3:=pa.length;have l4:=pb.length;by_cases e:us.length=ws.length
 ·have it:=k.items (A:=A.in1) I (by show A.units+1+k.d < cLine;lia) r1 r2 pa pb;have z:=SeqAt.RcAt.lists (A:=A) (e:=λj=>decide (a[j]?=b[j]?)) t1.isList t2.isList (by simpa using e) (by lia) it;have z2:=SeqAt.RcNeAt.lists (A:=A) (e:=λj=>decide (a[j]?=b[j]?)) t1.isList t2.isList (by simpa using e) (by lia) it;have e1:us.toArray.size=a.length:=by rw[aP];lia
  rw[e1,vg a b (by lia)] at z z2;exact ⟨z,z2⟩
 ·have hne:¬a=b:=λz=>e (by have:=congrArg List.length z;lia)
  rw[decide_eq_false hne];exact ⟨SeqAt.RcAt.lists_lengths t1.isList t2.isList (by simpa using e) (by lia),SeqAt.RcNeAt.lists_lengths t1.isList t2.isList (by simpa using e) (by lia)⟩
def Po:Kind (List α) where
 R:=λK H x as=>∃p xs,x=.ref p/\bP K H p xs/\Paired (λa x=>k.R K H x a) as xs
 d:=k.d+1
 inj:=λ{X pins σ H s x a b} I h1 h2=>by
  obtain ⟨p,xs,rfl,hp,pa⟩:=h1;obtain ⟨q,ys,e,hq,pb⟩:=h2;cases e;have e:=I.list_inj hp hq;subst e;exact lW (F:=λa x=>k.R X.K H x a) (λa b x=>k.inj I) pa pb
 rc:=λ{X pins σ H s x y v u a b A} I rx ry h1 h2 hA=>by
  obtain ⟨p,xs,rfl,hp,pa⟩:=h1;obtain ⟨q,ys,rfl,hq,pb⟩:=h2;cases rx;cases ry;exact (EK k I hp hq pa pb hA).1
 ne:=λ{X pins σ H s x y v u a b A} I rx ry h1 h2 hA=>by
  obtain ⟨p,xs,rfl,hp,pa⟩:=h1;obtain ⟨q,ys,rfl,hq,pb⟩:=h2;cases rx;cases ry;exact (EK k I hp hq pa pb hA).2
 eq:=λ{X pins σ H s x y v u a b A} I rx ry h1 h2 hA=>by
  obtain ⟨p,xs,rfl,hp,pa⟩:=h1;obtain ⟨q,ys,rfl,hq,pb⟩:=h2;cases rx;cases ry;by_cases e:p=q
  ·subst e;have e:=I.list_inj hp hq;subst e;rw[lW (F:=λa x=>k.R X.K H x a) (λa b x=>k.inj I) pa pb,decide_eq_true rfl];exact SeqAt.EqAt.same _
  ·exact .of_refs e (EK k I hp hq pa pb hA).1
def Kind.via {β:Type} [DecidableEq β] (f:β->α) (fi:∀a b,f a=f b->a=b) (R':FG9->Hp->V->β->Prop) (im:∀{K H x b},R' K H x b->k.R K H x (f b)):Kind β where
 R:=R'
 d:=k.d
 inj:=λI h1 h2=>fi _ _ (k.inj I (im h1) (im h2))
 rc:=λ{X pins σ H s x y v u a b A} I rx ry h1 h2 hA=>by
  have z:=k.rc (A:=A) I rx ry (im h1) (im h2) hA;rwa [decide_eq_decide.mpr (show f a=f b↔a=b from ⟨fi a b,λe=>by rw[e]⟩)] at z
 ne:=λ{X pins σ H s x y v u a b A} I rx ry h1 h2 hA=>by
  have z:=k.ne (A:=A) I rx ry (im h1) (im h2) hA;rwa [decide_eq_decide.mpr (show f a=f b↔a=b from ⟨fi a b,λe=>by rw[e]⟩)] at z
 eq:=λ{X pins σ H s x y v u a b A} I rx ry h1 h2 hA=>by
  have z:=k.eq (A:=A) I rx ry (im h1) (im h2) hA;rwa [decide_eq_decide.mpr (show f a=f b↔a=b from ⟨fi a b,λe=>by rw[e]⟩)] at z
end
def DW (K:FG9) (H:Hp) (x:V) (n:Int×Int):Prop:=∃p,x=.ref p/\qG K H p [.int n.1,.int n.2]
def Pn:Kind (Int×Int):=(Qu Qv).via (λn=>[n.1,n.2]) (λa b e=>by cases a;cases b;simp at e;rw[e.1,e.2]) DW λ⟨p,e,h⟩=>⟨p,_,e,h,.cons rfl (.cons rfl .nil)⟩
def Qr (K:FG9):R2:=λx y H Q=>∃(α:Type) (_:DecidableEq α) (k:Kind α) (a b:α),k.d<=50/\k.R K H x a/\k.R K H y b/\Q (.bl (decide (a=b))) H
def Qq (K:FG9):R2:=λx y H Q=>∃(α:Type) (_:DecidableEq α) (k:Kind α) (a b:α),k.d<=50/\k.R K H x a/\k.R K H y b/\Q (.bl (!decide (a=b))) H
theorem IY (hu:X.A.units+50 < cLine):zG X (compareOp .Eq) (Qr X.K):=by
 intro pins s σ H x y v u Q I rx ry h;obtain ⟨α,_,k,a,b,hd,ha,hb,q⟩:=h;exact k.rc (A:=X.A) I rx ry ha hb (by lia) _ _ _ _ ⟨.bl (decide (a=b)),H,I,rfl,q⟩
theorem EB (hu:X.A.units+50 < cLine):zG X (compareOp .NotEq) (Qq X.K):=by
 intro pins s σ H x y v u Q I rx ry h;obtain ⟨α,_,k,a,b,hd,ha,hb,q⟩:=h;exact k.ne (A:=X.A) I rx ry ha hb (by lia) _ _ _ _ ⟨.bl (!decide (a=b)),H,I,rfl,q⟩
theorem Jk (hr:kI k A):A.units+50 < cLine:=by have:=hr.units;lia
def Inner (H:Hp) (p q:Addr):Prop:=∃a b c:Int,H p=some (.lst [.int a,.int b,.int c,.ref q])
def cz (p:Addr) (H H':Hp):Prop:=(∀b o,H b=some o->b≠p->H' b=some o)/\∀q,Inner H p q->Inner H' p q
theorem cz.refl (H:Hp):cz p H H:=⟨λ_ _ h _=>h,λ_ h=>h⟩
theorem cz.trans (a:cz p H H1) (b:cz p H1 H2):cz p H H2:=⟨λc o h n=>b.1 c o (a.1 c o h n) n,λq h=>b.2 q (a.2 q h)⟩
theorem Inner.inj (h:Inner H p q) (h':Inner H p q'):q=q':=by
 obtain ⟨a,b,c,e⟩:=h;obtain ⟨a',b',c',e'⟩:=h';rw[e] at e';have:=HO.lst.inj (b7 e');simp at this;exact this.2.2.2
theorem cz.set (h:H p=some (.lst [.int a,.int b,.int c,.ref q])):cz p H (upd H p (.lst [.int a',.int b',.int c',.ref q])) :=
 ⟨λb u h n=>by rw[aN n];exact h,λq' h'=>by
  rw[(Inner.inj ⟨a,b,c,h⟩ h').symm];exact ⟨a',b',c',aE⟩⟩
theorem aA.upto (h:aA H H'):cz p H H':=⟨λb o e _=>h b o e,λq ⟨a,b,c,e⟩=>⟨a,b,c,h _ _ e⟩⟩
theorem aA.new (h:H p=Option.none):aA H (upd H p o):=λb u e=>by rw[aN (eF e h)];exact e
theorem aA.sqt {K:FG9} (e:aA H H') (h:qG K H a xs):qG K H' a xs:=by
 rcases h with (h | ⟨o,h⟩) | h
 ·exact .inl (.inl (e _ _ h))
 ·exact .inl (.inr ⟨o,e _ _ h⟩)
 ·exact .inr h
theorem aA.num {K:FG9} (e:aA H H') (h:DW K H x n):DW K H' x n:=by obtain ⟨p,q,r⟩:=h;exact ⟨p,q,e.sqt r⟩
section
variable {σ:St} {H:Hp} {D:Ends}
theorem aW {t:TS} (e:σ0=σ) (h:t D σ H):t D σ0 H:=by rw[e];exact h
theorem MQ (h:t { D with nx:=u D } σ H):OH t u D σ H:=h
theorem Km (h:D.nx σ H):LF D σ H:=h
theorem Ng {g:TG} (h:te σ H λx H1=>g x σ H1 D.nx):J9 te g D σ H:=h
theorem II (h:Q (σ.set i (some v)) H):FT i v σ H Q:=h
theorem MR (h:te σ H D.rt):OI te D σ H:=h
theorem MY (h:c σ H λb H1=>if b=true then t D σ H1 else u D σ H1):ON c t u D σ H:=h
theorem Kv (h:te σ H λ_ H1=>D.nx σ H1):LI te D σ H:=h
theorem MS (h:ta σ H λvs H1=>∃v w,vs=[v,w]/\D.nx ((σ.set i (some v)).set j (some w)) H1):OJ i j ta D σ H:=h
theorem Kz 
  (h:to σ H λo H1=>ti σ H1 λi H2=>tget o i H2 λx H3=>te σ H3 λy H4=>tip x y H4 λz H5=>tset o i z H5 λH6=>D.nx σ H6):LJ to ti te tget tip tset D σ H:=h
theorem MX (h:Q (.int (f i j)) H):ipI f (.int i) (.int j) H Q:=⟨i,j,rfl,rfl,h⟩
theorem Na {g:TG} (h:wi σ H λJ H1=>∃W:Nat->Nat->St->Hp->Prop,(∃m,W 0 m σ H1)/\∀i m σ H,W i m σ H →
  (J.stop i H/\D.nx σ H)\/(J.go i H/\∃N:St->Hp->Prop,(∀σ' H',N σ' H'->∃m',m' < m/\W (i+1) m' σ' H')/\∀x H',J.yld i H x H'->g x σ H' λσ2 H2=>tb { D with nx:=N,ct:=N,bk:=D.nx } σ2 H2)):OO wi g tb D σ H:=h
variable {Q:VK} {QA:List V->Hp->Prop} {QB:Bool->Hp->Prop}
theorem MM (e:σ[i]?=some (some v)) (h:Q v H):Mv i σ H Q:=⟨v,e,h⟩
theorem Qo (h:Q v H):tC v σ H Q:=h
theorem O4 (h:ta σ H λx H1=>tb σ H1 λy H2=>r x y H2 Q):OK r ta tb σ H Q:=h
theorem OZ (h:ta σ H λx H1=>r x H1 Q):Qb r ta σ H Q:=h
theorem O7 {g:Int->Int->V} (h:Q (g i j) H):KG g (.int i) (.int j) H Q:=⟨i,j,rfl,rfl,h⟩
theorem fG {g:Int->Int->V} (hc:C i j) (h:Q (g i j) H):rI C g (.int i) (.int j) H Q:=⟨i,j,rfl,rfl,hc,h⟩
theorem Qp {g:Int->V} (h:Q (g i) H):rU g (.int i) H Q:=⟨i,rfl,h⟩
theorem Nd (h:Q (.bl (decide (i=j))) H):rEq (.int i) (.int j) H Q:=⟨rfl,by
 have e:decide (V.int i=V.int j)=decide (i=j):=by simp
 rw[e];exact h⟩
theorem MV (h:Q (.bl (!decide (i=j))) H):rNe (.int i) (.int j) H Q:=⟨rfl,by
 have e:decide (V.int i=V.int j)=decide (i=j):=by simp
 rw[e];exact h⟩
theorem Ki (h:t σ H λx H'=>∃k,x=.bl k/\QB k H'):Lz t σ H QB:=h
theorem O0 (h:t σ H λx H'=>∃k,x=.bl k/\QB k H'):tB t σ H QB:=h
theorem Nh (h:t σ H λc H1=>if c=true then u σ H1 QB else QB false H1):OQ t u σ H QB:=h
theorem O3 (h:t σ H λc H1=>if c=true then QB true H1 else u σ H1 QB):tOr t u σ H QB:=h
theorem MT (h:t σ H λc H1=>QB (!c) H1):OL t σ H QB:=h
theorem KA (h:t σ H λx H1=>∃c,x=.bl c/\if c=true then u σ H1 Q else Q (.bl false) H1):LK t u σ H Q:=h
theorem Kl (h:t σ H λx H1=>∃c,x=.bl c/\Q (.bl (!c)) H1):LD t σ H Q:=h
theorem MZ (h:c σ H λb H1=>if b=true then ta σ H1 Q else tb σ H1 Q):tIf c ta tb σ H Q:=h
theorem ML (h:QB true H):OE σ H QB:=h
theorem MU (h:QA [] H):Gs σ H QA:=h
theorem Kw (h:ta σ H λx H1=>tr σ H1 λxs H2=>QA (x :: xs) H2):qK ta tr σ H QA:=h
theorem Ky (h:t σ H λvs H1=>sp vs H1 Q E):Ie sp [] E t σ H Q:=by
 have e:(λvs H1=>sp (vs++[]) H1 Q E)=λvs H1=>sp vs H1 Q E:=by funext vs H1;rw[qH]
 show t σ H λvs H1=>sp (vs++[]) H1 Q E
 rw[e];exact h
theorem O5 (h:t σ H λvs H1=>r vs H1 Q):Qm r t σ H Q:=h
theorem Ew {K:FG9} (hx:qG K H p xs) (e:E1 xs i=some v) (h:Q v H):Nj K (.ref p) (.int i) H Q:=⟨p,xs,i,v,rfl,rfl,hx,e,h⟩
theorem cO {K:FG9} (hx:bP K H p xs) (e:E1 xs i=some v) (h:Q v H):Nk K (.ref p) (.int i) H Q:=⟨p,xs,i,v,rfl,rfl,hx,e,h⟩
theorem Ku {K:FG9} (hx:bP K H p xs) (e:E1 xs i=some v) (h:Q v H):LO K (.ref p) (.int i) H Q:=⟨p,xs,i,v,rfl,rfl,hx,e,h⟩
theorem fW (hx:H p=some (.lst xs)) (e:HN xs.length i=some j) (ey:xs.set j v=ys) (h:QH (upd H p (.lst ys))):LN (.ref p) (.int i) v H QH:=⟨p,xs,i,j,rfl,rfl,hx,e,by rw[ey];exact h⟩
theorem Ks (h:to σ H λo H1=>ti σ H1 λi H2=>t o i v H2 λH3=>QS σ H3):Pt to ti t v σ H QS:=h
theorem IJ (h:t v σ H λσ' H'=>u r σ' H' QS):LZ t u (v :: r) σ H QS:=⟨v,r,rfl,h⟩
theorem Kt (h:QS σ H):Pu [] σ H QS:=⟨rfl,h⟩
theorem Kr {K:FG9} (hx:qG K H a xs) (hl:xs.length=n) (h:t xs σ H QS):NR K n t (.ref a) σ H QS:=⟨a,xs,rfl,hx,hl,h⟩
theorem O1 (h:te σ H λx H1=>tl σ H1 λl H2=>th σ H2 λu H3=>r x l u H3 Q):tSl r te tl th σ H Q:=h
theorem GC (h:QO none H):Fj σ H QO:=h
theorem Kk (h:t σ H λx H1=>∃i,x=.int i/\QO (some i) H1):LC t σ H QO:=h
variable {R:It->Hp->Prop} {K:FG9}
theorem IG (h:tl σ H λx H1=>∃a,x=.ref a/\(∃xs,bP K H1 a xs)/\R (JY K a) H1):Ji K tl σ H R:=h
theorem Kq (h:tl σ H λx H1=>∃a,x=.ref a/\(∃xs,qG K H1 a xs)/\R (Ow K a) H1):Pq K tl σ H R:=h
theorem IF (h:ta σ H λvs H1=>∃j:Int,vs=[.int j]/\-(2^62)<=j/\j < 2^62/\R (Ge 0 j.toNat) H1):LX ta σ H R:=h
theorem Kx {g:TG} (e:HL k cap σ=σ₀) (h:wi σ H λJ H1=>qA J σ₀ g tf te Q H1):CJ wi k cap g tf te σ H Q:=by
 unfold CJ;rw[e];exact h
theorem Kh {g:TG} {NY:V->Hp->Prop} (h:g x σ H λσ2 H2=>tf σ2 H2 λb H3=>if b=true then te σ2 H3 NY else NN H3):qg σ g tf te x H NY NN:=h
theorem O6 (h:to σ H λx H1=>Ql K T x H1/\t σ H1 λxs H2=>r x xs H2 Q):tBM K T r to t σ H Q:=h
def PU (Q:VK) (xs:List V) (H:Hp):Prop:=xs.length<=sizeLine/\∀p,H p=none->Q (.ref p) (upd H p (.tup xs))
def PV (Q:VK) (xs:List V) (H:Hp):Prop:=xs.length<=sizeLine/\∀p,H p=none->Q (.ref p) (upd H p (.lst xs))
theorem MO (h:t σ H (PU Q)):OF t σ H Q:=h
theorem MW (h:t σ H (PV Q)):OM t σ H Q:=h
theorem lM (h:Nat.ble n 1000=true):n<=sizeLine:=aT (bz (Nat.le_of_ble_eq_true h))
theorem bU {xs:List V} (h:∀p H',aA H H'->H' p=some (.tup xs)->Q (.ref p) H') (hl:Nat.ble xs.length 1000=true:=by rfl):PU Q xs H :=
 ⟨lM hl,λp hp=>h p _ (aA.new hp) aE⟩
theorem cY {xs:List V} (h:∀p H',aA H H'->H p=none->H' p=some (.lst xs)->Q (.ref p) H') (hl:Nat.ble xs.length 1000=true:=by rfl):PV Q xs H :=
 ⟨lM hl,λp hp=>h p _ (aA.new hp) hp aE⟩
theorem Pp {A B:Prop} (h:B):if (!true)=true then A else B:=K4 h
def WB (tb:TS) (D:Ends) (Pv:St->Hp->Prop) (μ:St->Hp->Nat) (n:Nat) (σ:St) (H:Hp):Prop:=∃N:St->Hp->Prop,(∀σ' H',N σ' H'->∃m',m' < n/\(m'=μ σ' H'/\Pv σ' H'))/\tb { D with nx:=N,ct:=N,bk:=D.nx } σ H
theorem OY (h:tb { D with nx:=λσ' H'=>Pv σ' H'/\μ σ' H' < n,ct:=λσ' H'=>Pv σ' H'/\μ σ' H' < n,bk:=D.nx } σ H):WB tb D Pv μ n σ H :=
 ⟨_,λσ' H' ⟨p,l⟩=>⟨_,l,rfl,p⟩,h⟩
theorem AZ (Pv:St->Hp->Prop) (μ:St->Hp->Nat) (h0:Pv σ H) (hs:∀σ H,Pv σ H->c σ H λb H1=>if b=true then WB tb D Pv μ (μ σ H) σ H1 else D.nx σ H1):Ic c tb D σ H:=by
 refine ⟨λm σ H=>m=μ σ H/\Pv σ H,⟨_,rfl,h0⟩,?_⟩;rintro m σ H ⟨rfl,p⟩;exact hs σ H p
end
def fP (H:Hp) (p:Addr):Prop:=∃(q:Addr) (a b c:Int) (cs:List Int),H p=some (.lst [.int a,.int b,.int c,.ref q])/\H q=some (.lst (cs.map V.int))/\0<=a/\0<=c/\c<=(cs.length:Int)/\∀x∈cs,(0:Int)<=x
theorem Hs {H:Hp} {cs:List Int} (hp:H p=some (.lst [.int a,.int b,.int c,.ref q])) (hq:H q=some (.lst (cs.map V.int))):q≠p:=λe=>by
 rw[e,hp] at hq;have h:=HO.lst.inj (b7 hq);cases cs with
 | nil=>cases h
 | cons x1 cs=>cases cs with
  | nil=>cases h
  | cons x2 cs=>cases cs with
   | nil=>cases h
   | cons x3 cs=>cases cs with
    | nil=>cases h
    | cons x4 cs=>simp at h
theorem fP.same (h:fP H p) (e:aA H H'):fP H' p:=by obtain ⟨q,a,b,c,cs,h1,h2,r⟩:=h;exact ⟨q,a,b,c,cs,e _ _ h1,e _ _ h2,r⟩
theorem cz.tup {H H':Hp} {p r:Addr} {xs:List V} (u:cz p H H') (B:fP H p) (h:H r=some (.tup xs)):H' r=some (.tup xs):=by
 obtain ⟨q,a,b,c,cs,h1,_⟩:=B;exact u.1 r _ h λe=>by rw[e,h1] at h;cases h
theorem cz.other (u:cz p H H') (n:r≠p) (h:H r=some o):H' r=some o:=u.1 r _ h n
theorem fP.inner (h:fP H p):∃q,Inner H p q/\∃xs,H q=some (.lst xs):=by obtain ⟨q,a,b,c,cs,h1,h2,_⟩:=h;exact ⟨q,⟨a,b,c,h1⟩,_,h2⟩
theorem fP.upd (h:fP H p) (hi:Inner H p q) (n1:r≠p) (n2:r≠q):fP (L2.upd H r o) p:=by
 obtain ⟨q',a,b,c,cs,h1,h2,z⟩:=h;have e:q'=q:=Inner.inj ⟨a,b,c,h1⟩ hi;subst e;exact ⟨q',a,b,c,cs,by rw[aN n1.symm];exact h1,by rw[aN n2.symm];exact h2,z⟩
theorem Inner.upd (hi:Inner H p q) (n1:r≠p):Inner (L2.upd H r o) p q:=by obtain ⟨a,b,c,h⟩:=hi;exact ⟨a,b,c,by rw[aN n1.symm];exact h⟩
def Kd:Sp:=λvs H Q _=>∃p n,vs=[.ref p,.int n]/\fP H p/\0 < n/\n < 2^64/\∀v H',0<=v->v < n->fP H' p->cz p H H'->Q (.int v) H'
inductive Iu (K:FG9) (vs:List V) (H:Hp) (Q:VK) (E9:XK):Prop
 | mk (a:Addr) (ns:List Int):vs=[.ref a]->bP K H a (ns.map V.int)->ns.length<=63->(∀p H',H p=none->fP H' p->aA H H'->Q (.ref p) H')->Iu K vs H Q E9
inductive yo (K:FG9) (vs:List V) (H:Hp) (Q:VK) (E9:XK):Prop
 | mk (a:Addr) (ns:List Int):vs=[.ref a]->bP K H a (ns.map V.int)->ns.length<=63->(∀H',Q (.bl true) H')->yo K vs H Q E9
def MK:Sp:=λvs H Q _=>∃t b,vs=[.int t,.int b]/\0 < b/\Sz 4499500 b/\∀r H',aA H H'->H' r=some (.tup [.int (lo t b),.int (hi t b)])->Q (.ref r) H'
def OT:Sp:=λvs H Q _=>∃a b,vs=[.int a,.int b]/\Q (.int (g a b)) H
def Gx:Sp:=λvs H Q _=>∃t b,vs=[.int t,.int b]/\b≠0/\Sz 4499500 b/\∀r H',aA H H'->H' r=some (.tup [.int (lo (if b < 0 then -t else t) (if b < 0 then -b else b)),.int (hi (if b < 0 then -t else t) (if b < 0 then -b else b))])->Q (.ref r) H'
def Ma (a b c d:Int):Int:=a*d+c*b
def Jx (a _b c _d:Int):Int:=a*c
def Iv (K:FG9) (f:Int->Int->Int->Int->Int):Sp:=λvs H Q _=>∃p q a b c d,vs=[.ref p,.ref q]/\qG K H p [.int a,.int b]/\qG K H q [.int c,.int d]/\0 < b/\0 < d/\Sz 2000000 a/\Sz 2000000 b/\Sz 2000000 c/\Sz 2000000 d /\
 ∀r H',aA H H'->H' r=some (.tup [.int (lo (f a b c d) (b*d)),.int (hi (f a b c d) (b*d))])->Q (.ref r) H'
theorem cb {α β:Type} {F:α->β->Prop}:∀{l1 l1':List α} {l2 l2':List β},Paired F l1 l2->Paired F l1' l2'->Paired F (l1++l1') (l2++l2')
 | _,_,_,_,.nil,h=>h
 | _,_,_,_,.cons r t,h=>.cons r (cb t h)
theorem de {h:Heap} (ha:h.get? a=some o) (hb:h.get? b=some u) (hc:o.cls≠u.cls):a≠b:=λe=>by
 subst e;rw[ha] at hb;cases hb;exact hc rfl
theorem lJ (h:a≠b):Value.type a≠Value.type b:=λe=>h (by injection e)
theorem Ac {z TI TO i1 i2 l1 l2:Addr} (hz:IsZip h z TI TO f0) (hTI:IsPair h TI (.ref i1) (.ref i2)) (hTO:IsPair h TO a b)
  (h1:h.IsListIter i1 l1 k1) (h2:h.IsListIter i2 l2 k2) (hl1:h.IsList l1 xs) (hl2:h.IsList l2 ys) (hT:TI≠TO) (hi:i1≠i2):ZipApart z TI TO i1 i2 l1 l2:=by
 obtain ⟨o1,g1,c1,_⟩:=h1;obtain ⟨o2,g2,c2,_⟩:=h2;obtain ⟨p1,q1,d1,_⟩:=hl1;obtain ⟨p2,q2,d2,_⟩:=hl2;refine ⟨de hTI hz ?_,de hTO hz ?_,de g1 hz ?_,de g2 hz ?_,hT,de hTI g1 ?_,de hTI g2 ?_,de hTO g1 ?_,de hTO g2 ?_,hi,de q1 hz ?_,de q1 hTO ?_,de q1 g1 ?_,de q1 g2 ?_,de q2 hz ?_,de q2 hTO ?_,de q2 g1 ?_,de q2 g2 ?_⟩
 all_goals first
  | (rw[d1];first | (rw[c1];exact lJ (by decide)) | (rw[c2];exact lJ (by decide)) | exact lJ (by decide))
  | (rw[d2];first | (rw[c1];exact lJ (by decide)) | (rw[c2];exact lJ (by decide)) | exact lJ (by decide))
  | (rw[c1];exact lJ (by decide))
  | (rw[c2];exact lJ (by decide))
  | exact lJ (by decide)
def Qk (K : FG9) (l1 l2 : Addr) : It :=
  ⟨λi H => ∃ xs ys x y, bP K H l1 xs /\ bP K H l2 ys /\ xs[i]? = some x /\ ys[i]? = some y,
   λi H v H' => ∃ p x y, v = .ref p /\ H p = none /\ H' = upd H p (.tup [x, y]) /\ (∀ xs, bP K H l1 xs → xs[i]? = some x) /\ ∀ ys, bP K H l2 ys → ys[i]? = some y,
   λi H => ∃ xs ys, bP K H l1 xs /\ bP K H l2 ys /\ (xs.length ≤ i \/ ys.length ≤ i)⟩
def tnZ (z TI TO i1 i2 l1 l2:Addr) (i:Nat) (h:Heap):Prop:=IsZip h z TI TO .none/\IsPair h TI (.ref i1) (.ref i2)/\(∃a b,IsPair h TO a b)/\h.IsListIter i1 l1 i/\h.IsListIter i2 l2 i
theorem HZ {P:Program} {w:World} {K:FG9} {elts:List Expr} {kk:Nat} {tpos:Pos} (z TI TO i1 i2 l1 l2:Addr) (hT:TI≠TO) (hi:i1≠i2):Turn P w K (.Tuple elts kk tpos) (Qk K l1 l2) [z,TI,TO,i1,i2] z (tnZ z TI TO i1 i2 l1 l2) where
 mem:=by simp
 obj:=λi h st b hb=>by
  obtain ⟨hz,hTI,⟨a,c,hTO⟩,⟨o1,g1,c1,d1⟩,⟨o2,g2,c2,d2⟩⟩:=st;simp only[aF,aQ,or_false] at hb;rcases hb with rfl | rfl | rfl | rfl | rfl
  ·exact ⟨_,hz,λv q=>nomatch q⟩
  ·exact ⟨_,hTI,λv q=>nomatch q⟩
  ·exact ⟨_,hTO,λv q=>nomatch q⟩
  ·exact ⟨o1,g1,λv q=>by rw[d1] at q;cases q⟩
  ·exact ⟨o2,g2,λv q=>by rw[d2] at q;cases q⟩
 keep:=λi h h' st k=>by
  obtain ⟨hz,hTI,⟨a,c,hTO⟩,h1,h2⟩:=st;exact ⟨k z (by simp) _ hz,k TI (by simp) _ hTI,⟨a,c,k TO (by simp) _ hTO⟩,h1.at λo e=>k i1 (by simp) o e,h2.at λo e=>k i2 (by simp) o e⟩
 item:=by
  intro X hP hw hK hc i pins s σ H E I hf st hg;subst hP hw hK;obtain ⟨hz,hTI,⟨a,c,hTO⟩,h1,h2⟩:=st;obtain ⟨xs,ys,x,y,qx,qy,ex,ey⟩:=hg;obtain ⟨us,rx,px,_⟩:=I.list qx;obtain ⟨ws,ry,py,_⟩:=I.list qy;obtain ⟨u,eu,ru⟩:=rx.get ex;obtain ⟨v,ev,rv⟩:=ry.get ey;have D:=Ac hz hTI hTO h1 h2 px.isList py.isList hT hi;refine wpAny_pyNext_zip_item D hz hTI hTO h1 h2 px.isList py.isList (x:=u) (y:=v) (by simpa using eu) (by simpa using ev) λh' a1 a2 a3 a4 a5 a6 hk=>?_
  refine ⟨_,rfl,wpAny_letOwnedTupleGo_zip a1 λh'' hz'' hs=>?_⟩;have hT0:H s.heap.objs.size=none:=I.hok.fresh (au _);have zne:s.heap.objs.size≠z:=Gf (Heap.lt_size hz)
  have up:∀b o,b∉[z,TO,i1,i2]->s.heap.get? b=some o->h''.get? b=some o:=λb o hb e=>by
   simp only[aF,aQ,or_false,not_or] at hb;exact (hs.2 b hb.1).trans (hk b o hb.1 hb.2.1 hb.2.2.1 hb.2.2.2 e)
  have fx:∀b∈[z,TO,i1,i2],kd X pins H b:=λb hb=>hf b (by
   simp only[aF,aQ,or_false] at hb ⊢;rcases hb with rfl | rfl | rfl | rfl <;> simp)
  have nx:∀b o,H b=some o->b∉[z,TO,i1,i2]:=λb o e hb=>by
   have:=(fx b hb).1;rw[this] at e;cases e
  have nT:∀{b:Addr} {o:HO},H b=some o->b≠s.heap.objs.size:=λe q=>by rw[q,hT0] at e;cases e
  have tup:h''.get? s.heap.objs.size=some { cls:=.type "tuple",data:=.seq #[u,v] }:=(hs.2 _ zne).trans a5
  have I2:Inv X pins σ (upd H s.heap.objs.size (.tup [x,y])) { s with heap:=h'' }:=by
   refine I.step (g':=s.gens) (d':=s.drawn) (t':=s.toks) (ch:=[z,TO,i1,i2]) (λb hb=>?_) (λb o _ _ hb e _=>up b o hb e) (λb o _ _ hb e _=>⟨o.slots,up b o hb e⟩) (λb o hb e n=>?_)
    (λb o hb e=>⟨o,up b o hb e⟩) (λb q e=>by rw[aN (nT e)];exact e) (λb o q e=>by rw[aN (nT e)];exact e) (λb q e=>⟨#[],by rw[aN (nT e),e];simp⟩) (λm hm=>?_) (λb o e=>?_) I.bare
   ·obtain ⟨_,f1,_,f3,f4,f5⟩:=fx b hb;exact ⟨f3,f1,f4,f5⟩
   ·rw[aN (cE (Heap.lt_size e))];exact n
   ·obtain ⟨o,es,ep,ho,r⟩:=hm;exact ⟨o,es,ep,up _ o (λz=>(fx _ z).2.1 rfl) ho,r⟩
   ·by_cases hb:b=s.heap.objs.size
    ·subst hb;rw[aE] at e;cases e;exact ⟨lM rfl,[u,v],.cons ru (.cons rv .nil),⟨_,tup,rfl,_,rfl⟩⟩
    ·rw[aN hb] at e;refine (I.hok b o e).stay (λc v' hc q=>up c v' ?_ q) (λc q=>by rw[aN (nT q)];exact q) λc xs q=>by rw[aN (nT q)];exact q
     rcases hc with rfl | hc
     ·exact nx _ _ e
     ·exact nx _ _ hc
  refine ⟨.ref s.heap.objs.size,_,I2,rfl,⟨_,x,y,rfl,hT0,rfl,λxs' q=>by rw[I.list_inj q qx];exact ex,λys' q=>by rw[I.list_inj q qy];exact ey⟩,?_,λb hb=>?_⟩
  ·refine ⟨hz'',(hs.2 _ D.TIz).trans (hk _ _ D.TIz D.TITO D.TIi1 D.TIi2 hTI),⟨_,_,(hs.2 _ D.TOz).trans a2⟩,a3.at λo e=>(hs.2 _ D.i1z).trans e,a4.at λo e=>(hs.2 _ D.i2z).trans e⟩
  ·obtain ⟨o,e,_⟩:∃o,s.heap.get? b=some o/\True:=by
    obtain ⟨o1,g1,_⟩:=h1;obtain ⟨o2,g2,_⟩:=h2;simp only[aF,aQ,or_false] at hb;rcases hb with rfl | rfl | rfl | rfl | rfl
    ·exact ⟨_,hz,trivial⟩
    ·exact ⟨_,hTI,trivial⟩
    ·exact ⟨_,hTO,trivial⟩
    ·exact ⟨_,g1,trivial⟩
    ·exact ⟨_,g2,trivial⟩
   rw[aN (cE (Heap.lt_size e))];exact (hf b hb).1
 done:=by
  intro X hP hw hK hc i pins s σ H E I hf st hg;subst hP hw hK;obtain ⟨hz,hTI,⟨a,c,hTO⟩,h1,h2⟩:=st;obtain ⟨xs,ys,qx,qy,hend⟩:=hg;obtain ⟨us,rx,px,_⟩:=I.list qx;obtain ⟨ws,ry,py,_⟩:=I.list qy;have lx:=rx.length;have ly:=ry.length;have D:=Ac hz hTI hTO h1 h2 px.isList py.isList hT hi
  refine wpAny_pyNext_zip_end (I.ok.hd hc) D hz hTI hTO h1 h2 px.isList py.isList (by
   rcases hend with q | q
   ·exact .inl (by simp;lia)
   ·exact .inr (by simp;lia)) λh' hk=>⟨rfl,?_⟩
  have up:∀b o,b∉[z,TO,i1,i2]->s.heap.get? b=some o->h'.get? b=some o:=λb o hb e=>by
   simp only[aF,aQ,or_false,not_or] at hb;exact hk b o hb.1 hb.2.1 hb.2.2.1 hb.2.2.2 e
  have fx:∀b∈[z,TO,i1,i2],kd X pins H b:=λb hb=>hf b (by
   simp only[aF,aQ,or_false] at hb ⊢;rcases hb with rfl | rfl | rfl | rfl <;> simp)
  have nx:∀b o,H b=some o->b∉[z,TO,i1,i2]:=λb o e hb=>by
   have:=(fx b hb).1;rw[this] at e;cases e
  refine I.step (g':=s.gens) (d':=s.drawn) (t':=s.toks) (ch:=[z,TO,i1,i2]) (λb hb=>?_) (λb o _ _ hb e _=>up b o hb e) (λb o _ _ hb e _=>⟨o.slots,up b o hb e⟩) (λb o hb e n=>n)
   (λb o hb e=>⟨o,up b o hb e⟩) (λb q e=>e) (λb o q e=>e) (λb q e=>⟨#[],by rw[e];simp⟩) (λm hm=>?_) (λb o e=>?_) I.bare
  ·obtain ⟨_,f1,_,f3,f4,f5⟩:=fx b hb;exact ⟨f3,f1,f4,f5⟩
  ·obtain ⟨o,es,ep,ho,r⟩:=hm;exact ⟨o,es,ep,up _ o (λz=>(fx _ z).2.1 rfl) ho,r⟩
  ·refine (I.hok b o e).stay (λc v' hc q=>up c v' ?_ q) (λc q=>q) λc xs q=>q
   rcases hc with rfl | hc
   ·exact nx _ _ e
   ·exact nx _ _ hc
 self:=λ_ _ _ _ _ st h=>wpAny_pyIter_zip st.1 h
section
variable {X:Cx}
def NM (K:FG9) (ta:TA):TI:=λσ H R=>ta σ H λvs H1=>∃l1 l2,vs=[.ref l1,.ref l2]/\(∃xs,bP K H1 l1 xs)/\(∃ys,bP K H1 l2 ys)/\R (Qk K l1 l2) H1
theorem Bu {a b:Expr} {ta:TA} {p pos tpos:Pos} {elts:List Expr} {kk:Nat} (hg:Gl X "zip") (hm:X.mg "zip"=none) (ha:PA X [a,b] ta) (hs:starEach [a,b] X.env=[(false,eval a X.env),(false,eval b X.env)]:=by rfl) (hs2:starEach [b] X.env=[(false,eval b X.env)]:=by rfl) :
  PI X (.Tuple elts kk tpos) (.Call (.Name "zip" p) [a,b] [] pos) (NM X.K ta):=by
 intro pins s σ H R I h;refine Call_ (oq I hg hm boot_zip (PyProof.Rows.callWith_type1 (gN (ha pos pins s σ H _ I h) λus s1 ⟨vs,H1,I1,r1,q1⟩=>?_) (by rw[hs,hs2]) (by rw[hs2];rfl)));obtain ⟨l1,l2,e,⟨xs,qx⟩,⟨ys,qy⟩,q⟩:=q1;subst e;obtain ⟨u,v,rfl,ru,rv⟩:=vals2 r1;cases ru;cases rv;obtain ⟨us,rx,px,_⟩:=I1.list qx;obtain ⟨ws,ry,py,_⟩:=I1.list qy;refine call_zip_2 px.isList py.isList λh' a1 a2 a3 a4 a5 a6 hk=>wpAny_pyIter_zip a1 ?_
 have I2:Inv X pins σ H1 { s1 with heap:=h' }:=I1.kept (t':=s1.toks) hk;refine ⟨_,[s1.heap.objs.size+4,s1.heap.objs.size+2,s1.heap.objs.size+3,s1.heap.objs.size,s1.heap.objs.size+1],_,_,H1,rfl,I2,HZ (s1.heap.objs.size+4) (s1.heap.objs.size+2) (s1.heap.objs.size+3) s1.heap.objs.size (s1.heap.objs.size+1) l1 l2 (cE (iM _)) (cE (iM _)),⟨a1,a2,⟨_,_,a3⟩,a4,a5⟩,λb hb=>?_,q⟩
 have hb':s1.heap.objs.size<=b:=by
  simp only[aF,aQ,or_false] at hb;rcases hb with rfl | rfl | rfl | rfl | rfl <;> first | exact HR _ _ | exact au _
 exact I1.fpOk hb' (I1.hok.fresh hb')
theorem DO (hc:X.calm=true):rW X (.builtin "all") (λxs H Q=>∃(p:Addr) (bs:List Bool),xs=[.ref p]/\bP X.K H p (bs.map V.bl)/\Q (.bl (bs.all id)) H):=by
 intro pins s σ H xs us Q I r h;obtain ⟨p,bs,rfl,hp,q⟩:=h;obtain ⟨u,rfl,ru⟩:=vals1 r;cases ru;obtain ⟨vs,rv,pl,hz⟩:=I.list hp
 have hb:PyProof.Rows.LSm.BoolsAre vs bs:=by
  clear q hp pl hz
  induction bs generalizing vs with
  | nil=>cases rv;exact .nil
  | cons b bs ih =>
   rw[kR] at rv;cases rv with
   | cons r1 r2=>cases r1;exact .cons b (ih _ r2)
 have hlt:p < s.heap.objs.size:=by obtain ⟨_,e,_⟩:=pl.isList;exact Heap.lt_size e
 refine call_all_walk (wpAny_pyIter_list pl.isList ?_)
 refine ⟨s.heap.objs.size,[s.heap.objs.size,p],[s.heap.objs.size],vs.toArray.size,_,_,λi=>(bs[i]?).getD true,rfl,Walks.list (A:=X.A.in1) (I.ok.hd hc) _ p (cE hlt) vs.toArray,
  ⟨⟨_,Heap.get?_push_size _ rfl,rfl,rfl⟩,pl.isList.push _⟩,λi v s' Q' E' hP hQ=>?_,λh' tk hk=>?_⟩
 ·obtain ⟨b,e,rfl⟩:=hb.get i v (by simpa using hP);simp only[e,dW] at hQ;exact wpAny_truthy_bool hQ
 ·have e:((List.range vs.toArray.size).all λi=>(bs[i]?).getD true)=bs.all id:=by
   rw[aP,hb.length];exact PyProof.Rows.LSm.range_all bs
  rw[e];exact ⟨.bl _,H,I.kept (t':=tk) (PyProof.Rows.LSm.kept_iter hk),rfl,q⟩
theorem DN (hc:X.calm=true):rW X (.builtin "sum") (λxs H Q=>∃(p:Addr) (ns:List Int),xs=[.ref p]/\bP X.K H p (ns.map V.int)/\Q (.int ns.sum) H):=by
 intro pins s σ H xs us Q I r h;obtain ⟨p,ns,rfl,hp,q⟩:=h;obtain ⟨u,rfl,ru⟩:=vals1 r;cases ru;obtain ⟨vs,rv,pl,_⟩:=I.list hp;have hi:IntsAre vs ns:=intsAre_of rv;obtain ⟨xs,hx⟩:=hi.allInts.items;have hl':s.heap.IsList p (intItems xs):=hx ▸ pl.isList;refine sum_intListG (I.ok.hd hc) hl' λh' tk t' hk=>?_
 have e1:ns=xs.toList.map (·.1):=by
  rw[<- nums_intItems,<- hx];exact (show numsOf vs.toArray.toList=ns from hi.numsOf).symm
 have e2:preSum (numAt xs) xs.size=ns.sum:=by
  rw[preSum_eq,aJ (by simp),e1]
 rw[e2];exact ⟨.int _,H,I.kept (t':=tk) hk,⟨_,rfl⟩,q⟩
end
section
variable {K:FG9} {l1 l2:Addr} {xs ws:List V} {g:TG} {tf:TT} {te:TE} {Q:VK} {σ₀:St} {H:Hp}
theorem zh (Pv:Nat->List V->Hp->Prop) (hz:xs.length<=sizeLine) (hw:ws.length=xs.length) (h0:Pv 0 [] H) (hl:∀i ys H,i<=xs.length->Pv i ys H->bP K H l1 xs/\bP K H l2 ws)
  (hs:∀i x y ys H p,xs[i]?=some x->ws[i]?=some y->ys.length<=i->Pv i ys H->H p=none->qg σ₀ g tf te (.ref p) (upd H p (.tup [x,y])) (λy H'=>Pv (i+1) (ys++[y]) H') (λH'=>Pv (i+1) ys H'))
  (hd:∀ys H,ys.length<=xs.length->Pv xs.length ys H->∀p,H p=none->Q (.ref p) (upd H p (.lst ys))):qA (Qk K l1 l2) σ₀ g tf te Q H:=by
 refine ⟨λi m ys H=>m=xs.length - i/\i<=xs.length/\ys.length<=i/\Pv i ys H,⟨xs.length,by simp,bW _,bW _,h0⟩,?_⟩;rintro i m ys H ⟨rfl,hi,hy,p⟩;obtain ⟨q1,q2⟩:=hl i ys H hi p;by_cases hlt:i < xs.length
 ·refine .inr ⟨⟨xs,ws,xs[i],ws[i]'(by lia),q1,q2,by simp [hlt],by simp⟩,by lia,λy H'=>Pv (i+1) (ys++[y]) H',λH'=>Pv (i+1) ys H',λy H' p'=>⟨xs.length - (i+1),by lia,rfl,hlt,by rw[aD,eQ];lia,p'⟩,λH' p'=>⟨xs.length - (i+1),by lia,rfl,hlt,by lia,p'⟩,λx H' y=>?_⟩;obtain ⟨r,x',y',rfl,hr,rfl,e1,e2⟩:=y;exact hs i x' y' ys _ r (e1 xs q1) (e2 ws q2) hy p hr
 ·have e:i=xs.length:=by lia
  subst e;exact .inl ⟨⟨xs,ws,q1,q2,.inl (au _)⟩,by lia,hd ys H hy p⟩
end
section
variable {X:Cx}
theorem uN (K:FG9) (n:Nat) {es:List Expr} {k:Nat} {pos:Pos} {t:JV} (h:PM X es t) (hK:X.K=K:=by rfl) (hc:X.calm=true:=by rfl)
  (hn:(assignEach es X.env).length=n:=by rfl) (hst:(assignEach es X.env).findIdx? (·.1)=none:=by rfl):PG X (.Tuple es k pos) (NR K n t):=by subst hK;exact wg hc h hn hst
theorem iT (K:FG9) (hK:X.K=K):PX X (Nj K):=by subst hK;exact bT
theorem va (K:FG9) (hK:X.K=K):PX X (Nk K):=by subst hK;exact bf
theorem uM (K:FG9) {tg l:Expr} {tl:TE} (hl:PE X l tl) (hK:X.K=K:=by rfl):PI X tg l (Ji K tl):=by subst hK;exact cu hl
theorem Iw (K:FG9) (hK:X.K=K):QD X (Ni K):=by subst hK;exact xT
end
theorem cL {X:Cx} {e e':Expr} {es:List Expr} {te:TE} {t:TA} (h:e=e') (ha:PE X e' te) (hr:PA X es t) (hs:∀l,starEach (e' :: l) X.env=(false,eval e' X.env) :: starEach l X.env:=by intro _;rfl):PA X (e :: es) (qK te t):=by subst h;exact aa ha hr (hs _)
section
variable {σ:St} {H:Hp} {D:Ends} {Q:VK}
theorem gL (hl:H l=some (.lst xs)) (hz:xs.length < sizeLine) (h:Q .non (upd H l (.lst (xs++[y])))):FF (.ref l) [y] H Q:=⟨l,xs,y,rfl,rfl,hl,hz,h⟩
theorem Kp {K:FG9} (h:ta σ H λvs H1=>∃l1 l2,vs=[.ref l1,.ref l2]/\(∃xs,bP K H1 l1 xs)/\(∃ys,bP K H1 l2 ys)/\R (Qk K l1 l2) H1):NM K ta σ H R:=h
theorem nU (h1:H l=some (.lst xs)) (h2:H b=some (.lst zs)) (hz:xs.length+zs.length<=sizeLine) (h:∀p H',aA H H'->H p=none->H' p=some (.lst (xs++zs))->Q (.ref p) H'):Pa (.ref l) (.ref b) H Q :=
 ⟨l,b,xs,zs,rfl,rfl,h1,h2,hz,λp hp=>h p _ (aA.new hp) hp aE⟩
theorem Et {K:FG9} {lo hi:Option Int} (h1:bP K H a xs) (h:∀p H',aA H H'->H p=none->H' p=some (.lst (sE xs lo hi))->Q (.ref p) H'):Ni K (.ref a) lo hi H Q :=
 ⟨a,xs,rfl,h1,λp hp=>h p _ (aA.new hp) hp aE⟩
theorem jG {xs:List α} {i:Int} (h0:0<=i) (h1:i < xs.length):∃v,E1 xs i=some v/\v∈xs/\xs[i.toNat]?=some v:=by
 have hj:i.toNat < xs.length:=by lia
 refine ⟨xs[i.toNat],?_,bM hj,by simp [hj]⟩;have:=gh (xs:=xs) (j:=i.toNat) (v:=xs[i.toNat]) (by simp [hj]);rwa [Int.toNat_of_nonneg h0] at this
end
theorem c9 {α β:Type} {F:α->β->Prop}:∀{l1:List α} {l2:List β} {y:β},Paired F l1 l2->y∈l2->∃x∈l1,F x y
 | _,_,_,.nil,h=>nomatch h
 | _,_,_,.cons r t,h=>by
  rcases aF.mp h with rfl | h
  ·exact ⟨_,cU,r⟩
  ·obtain ⟨x,hx,q⟩:=c9 t h;exact ⟨x,bK _ hx,q⟩
theorem dG {F:α->β->Prop} {l1:List α} {l2:List β} {i:Nat} {y:β} (h:Paired F l1 l2) (e:l2[i]?=some y):∃x,l1[i]?=some x/\F x y:=by
 have hl:=h.length;have hi:i < l2.length:=(aY.mp e).1;refine ⟨l1[i]'(by lia),by simp,?_⟩;have:=jV h (i:=i) (by lia) hi;have e2:l2[i]=y:=(aY.mp e).2;rwa [e2] at this
def zH (n:Int×Int):Prop:=0 < n.2/\Int.gcd n.1 n.2=1/\Sz 4000000 n.1/\Sz 4000000 n.2
theorem take_snoc {α:Type} {l:List α} {v:α} (h:l[i]?=some v):l.take (i+1)=l.take i++[v]:=by rw[List.take_add_one,h];rfl
theorem aA.after (s:aA H H') (h:H r=Option.none):aA H (upd H' r o):=λb u e=>by rw[aN (eF e h)];exact s b u e
theorem cz.after (s:cz b H H') (h:H r=Option.none):cz b H (upd H' r o):=⟨λc u e n=>by rw[aN (eF e h)];exact s.1 c u e n,λq hi=>(s.2 q hi).upd λz=>by obtain ⟨_,_,_,e⟩:=hi;rw[<- z,h] at e;cases e⟩
theorem cz.same (s:cz b H H') (e:aA H' H''):cz b H H'':=s.trans e.upto
theorem ye {α:Type} {Pr:α->Prop} {l:List α} {a:α} (h:∀n∈l,Pr n) (ha:Pr a):∀n∈l++[a],Pr n:=λn hn=>by
 rcases aw.mp hn with hn | hn
 ·exact h n hn
 ·have e:n=a:=by simpa using hn
  rw[e];exact ha
abbrev zF (h:Heap) (z TI TO:Addr) (f0 f1:Value):Prop:=h.get? z=some { cls:=.type "zip",dict:=none,data:=.fields #[f0,f1,.bool false,.ref TI,.ref TO],slots:=#[] }
section
variable {prog:Program} {w:World} {A:Around} {E:Value->Shared->Prop} {s:Shared}
theorem E2 (e:s.heap.get? a=some o) (h:Q (some o) s):wpAny (model prog w) A (loadIfAlive a) Q E s:=by
 intro Γ p hp;show Sem.wp _ _ (.loadIfAlive a .pure) _ _ _ _
 simp only[Sem.wp_loadIfAlive,e];exact wpAny_pure h Γ p hp
theorem yH {z TI TO T:Addr} (zr:zF s.heap z TI TO (rawInt T) (.bool b1)) (al:s.heap.get? T=some o)
  (h:∀h',zF h' z TI TO (rawInt T) (.bool true)->Heap.SameBut z s.heap h'->Q false { s with heap:=h' }):wpAny (model prog w) A (Builtin.SmallTypes.ownedTupleIsFree (.ref z)) Q E s:=by
 unfold Builtin.SmallTypes.ownedTupleIsFree;refine wpAny_bind (wpAny_field zr rfl (x:=rawInt T) rfl ?_);refine wpAny_bind (E2 (a:=T) al ?_);refine wpAny_bind (wpAny_field zr rfl (x:=.bool b1) rfl ?_);cases b1 with
 | true=>exact wpAny_pure (h _ zr (.refl ..))
 | false=>exact wpAny_bind (wpAny_setField_rec zr (by simp) λh' zr' sb=>wpAny_pure (h h' zr' sb))
theorem GS {z TI TO T i1 i2 l1 l2:Addr} {Q:Value->Shared->Prop} (D:ZipApart z TI TO i1 i2 l1 l2) (zr:zF s.heap z TI TO (rawInt T) (.bool b1)) (al:s.heap.get? T=some o)
  (pt:IsPair s.heap TI (.ref i1) (.ref i2)) (j1:s.heap.IsListIter i1 l1 k1) (j2:s.heap.IsListIter i2 l2 k2) (m1:s.heap.IsList l1 us) (m2:s.heap.IsList l2 ws) (eu:us[k1]?=some u) (ev:ws[k2]?=some v)
  (hQ:∀h',zF h' z TI TO (rawInt T) (.bool true)->h'.IsListIter i1 l1 (k1+1)->h'.IsListIter i2 l2 (k2+1)->IsPair h' s.heap.objs.size u v->(∀c o,c≠z->c≠i1->c≠i2->s.heap.get? c=some o->h'.get? c=some o)->Q (.ref s.heap.objs.size) { s with heap:=h' }) :
  wpAny (model prog w) A (Builtin.«zip.__next__» ⟨[.ref z],[]⟩) (λfin s'=>∃v,fin=.done (.ret v)/\Q v s') E s:=by
 change wpAny _ _ (field (Value.ref z) 2 >>= _) _ _ s
 refine wpAny_bind (wpAny_field zr rfl (x:=.bool false) rfl ?_)
 change wpAny _ _ (field (Value.ref z) 3 >>= _) _ _ s
 refine wpAny_bind (wpAny_field zr rfl (x:=.ref TI) rfl (wpAny_bind (wpAny_seqItems pt rfl ?_)))
 change wpAny _ _ (Builtin.SmallTypes.ownedTupleIsFree (Value.ref z) >>= _) _ _ s
 refine wpAny_bind (yH zr al λg1 zr1 sb1=>?_);simp only[iY,if_false];refine wpAny_bind ?_;rw[<- Array.forIn_toList];simp only[J6,AW];have j1':=j1.extBut sb1.extBut D.i1z;have m1':=m1.extBut sb1.extBut D.l1z;refine wpAny_bind (wpAny_bind (wpAny_holding ?_))
 change wpAny _ _ (Builtin.SmallTypes.nextOf (Value.ref i1) >>= _) _ _ _
 refine wpAny_bind (wpAny_nextOf_list_item j1' m1' eu λg2 j1a sb2=>wpAny_pure ?_);refine wpAny_pure ?_;have j2':=(j2.extBut sb1.extBut D.i2z).extBut sb2.extBut D.i12.symm;have m2':=(m2.extBut sb1.extBut D.l2z).extBut sb2.extBut D.l2i1;refine wpAny_bind (wpAny_bind (wpAny_holding ?_))
 change wpAny _ _ (Builtin.SmallTypes.nextOf (Value.ref i2) >>= _) _ _ _
 refine wpAny_bind (wpAny_nextOf_list_item j2' m2' ev λg3 j2a sb3=>wpAny_pure ?_);refine wpAny_pure (wpAny_pure ?_);refine wpAny_bind (wpAny_newTuple (hsz:=lM rfl) ?_);have sz:g3.objs.size=s.heap.objs.size:=by rw[sb3.1,sb2.1,sb1.1]
 have up:∀c o,c≠z->c≠i1->c≠i2->s.heap.get? c=some o->g3.get? c=some o:=λc o c1 c2 c3 e=>sb3.extBut _ _ c3 (sb2.extBut _ _ c2 (sb1.extBut _ _ c1 e))
 have zr3:zF g3 z TI TO (rawInt T) (.bool true):=sb3.extBut _ _ D.i2z.symm (sb2.extBut _ _ D.i1z.symm zr1);refine wpAny_pure ⟨_,rfl,?_⟩
 change Q (.ref g3.objs.size) { s with heap:=g3.push { cls:=.type "tuple",data:=.seq #[u,v] } }
 have last:=hQ (g3.push { cls:=.type "tuple",data:=.seq #[u,v] }) (Heap.get?_push_of_some _ zr3) ((j1a.extBut sb3.extBut D.i12).at λo e=>Heap.get?_push_of_some _ e) (j2a.at λo e=>Heap.get?_push_of_some _ e)
  (by rw[<- sz];exact Heap.get?_push_size _ rfl) λc o c1 c2 c3 e=>Heap.get?_push_of_some _ (up c o c1 c2 c3 e)
 rw[sz];exact last
theorem Jd {z TI TO T i1 i2 l1 l2:Addr} (hh:A.handled=none) (D:ZipApart z TI TO i1 i2 l1 l2) (zr:zF s.heap z TI TO (rawInt T) (.bool b1)) (al:s.heap.get? T=some o)
  (pt:IsPair s.heap TI (.ref i1) (.ref i2)) (j1:s.heap.IsListIter i1 l1 k1) (m1:s.heap.IsList l1 us) (eu:us[k1]?=none)
  (hE:∀h' e,(∀c o,c≠z->c≠i1->c≠i2->s.heap.get? c=some o->h'.get? c=some o)->(∃o,h'.get? e=some o/\o.cls=.type "StopIteration")->E (.ref e) { s with heap:=h' }) :
  wpAny (model prog w) A (Builtin.«zip.__next__» ⟨[.ref z],[]⟩) Q E s:=by
 change wpAny _ _ (field (Value.ref z) 2 >>= _) _ _ s
 refine wpAny_bind (wpAny_field zr rfl (x:=.bool false) rfl ?_)
 change wpAny _ _ (field (Value.ref z) 3 >>= _) _ _ s
 refine wpAny_bind (wpAny_field zr rfl (x:=.ref TI) rfl (wpAny_bind (wpAny_seqItems pt rfl ?_)))
 change wpAny _ _ (Builtin.SmallTypes.ownedTupleIsFree (Value.ref z) >>= _) _ _ s
 refine wpAny_bind (yH zr al λg1 zr1 sb1=>?_);simp only[iY,if_false];refine wpAny_bind ?_;rw[<- Array.forIn_toList];simp only[J6,AW];refine wpAny_bind (wpAny_bind (wpAny_holding ?_))
 change wpAny _ _ (Builtin.SmallTypes.nextOf (Value.ref i1) >>= _) _ _ _
 exact wpAny_bind (wpAny_nextOf_list_end hh (j1.extBut sb1.extBut D.i1z) (m1.extBut sb1.extBut D.l1z) eu λg2 e xb he=>hE g2 e (λc o c1 c2 _ q=>xb _ _ c2 (sb1.extBut _ _ c1 q)) he)
theorem GO {z TI TO T i1 i2 l1 l2:Addr} (D:ZipApart z TI TO i1 i2 l1 l2) (zr:zF s.heap z TI TO (rawInt T) (.bool b1)) (al:s.heap.get? T=some o)
  (pt:IsPair s.heap TI (.ref i1) (.ref i2)) (j1:s.heap.IsListIter i1 l1 k1) (j2:s.heap.IsListIter i2 l2 k2) (m1:s.heap.IsList l1 us) (m2:s.heap.IsList l2 ws) (eu:us[k1]?=some u) (ev:ws[k2]?=some v)
  (hQ:∀h',zF h' z TI TO (rawInt T) (.bool true)->h'.IsListIter i1 l1 (k1+1)->h'.IsListIter i2 l2 (k2+1)->IsPair h' s.heap.objs.size u v->(∀c o,c≠z->c≠i1->c≠i2->s.heap.get? c=some o->h'.get? c=some o)->Q (some (.ref s.heap.objs.size)) { s with heap:=h' }) :
  wpAny (model prog w) A (pyNext (.ref z)) Q E s:=by
 have ty:s.TypeIs (.ref z) "zip":=⟨_,zr,rfl⟩;unfold pyNext;refine wpAny_bind (wpAny_attempt (wpAny_callSpecial?_slot (name:=Str.ofString "__next__") ty o5 (wpAny_call_entry o5 ty PySem.F.entry_zip_next ?_ (P8 _))));exact GS D zr al pt j1 j2 m1 m2 eu ev λh' a1 a2 a3 a4 a5=>wpAny_pure (hQ h' a1 a2 a3 a4 a5)
theorem GN {z TI TO T i1 i2 l1 l2:Addr} (hh:A.handled=none) (D:ZipApart z TI TO i1 i2 l1 l2) (zr:zF s.heap z TI TO (rawInt T) (.bool b1)) (al:s.heap.get? T=some o)
  (pt:IsPair s.heap TI (.ref i1) (.ref i2)) (j1:s.heap.IsListIter i1 l1 k1) (m1:s.heap.IsList l1 us) (eu:us[k1]?=none)
  (hQ:∀h',(∀c o,c≠z->c≠i1->c≠i2->s.heap.get? c=some o->h'.get? c=some o)->Q none { s with heap:=h' }):wpAny (model prog w) A (pyNext (.ref z)) Q E s:=by
 have ty:s.TypeIs (.ref z) "zip":=⟨_,zr,rfl⟩;unfold pyNext;refine wpAny_bind (wpAny_attempt (wpAny_callSpecial?_slot (name:=Str.ofString "__next__") ty o5 (wpAny_call_entry o5 ty PySem.F.entry_zip_next ?_ (P8 _))));refine Jd hh D zr al pt j1 m1 eu λh' e kk ⟨oe,he,hc⟩=>?_
 exact wpAny_bind (wpAny_isInstance (T:="StopIteration") (b:=true) ⟨oe,he,hc⟩ isSubtype_stop (wpAny_pure (hQ _ kk)))
end
section
variable {X:Cx} {pins:List (Addr×Obj)} {σ:St} {H:Hp} {s:Shared}
theorem Inv.moved {ch:List Addr} (I:Inv X pins σ H s) (fx:∀b∈ch,kd X pins H b) (up:∀b o,b∉ch->s.heap.get? b=some o->h'.get? b=some o) (hg:AllBare g') :
  Inv X pins σ H { s with heap:=h',gens:=g',drawn:=d',toks:=t' }:=by
 have nx:∀b o,H b=some o->b∉ch:=λb o e hb=>by have:=(fx b hb).1;rw[this] at e;cases e
 refine I.step (ch:=ch) (λb hb=>?_) (λb o _ _ hb e _=>up b o hb e) (λb o _ _ hb e _=>⟨o.slots,up b o hb e⟩) (λb o hb e n=>n) (λb o hb e=>⟨o,up b o hb e⟩) (λb q e=>e) (λb o q e=>e) (λb q e=>⟨#[],by rw[e];simp⟩) (λm hm=>?_) (λb o e=>?_) hg
 ·obtain ⟨_,f1,_,f3,f4,f5⟩:=fx b hb;exact ⟨f3,f1,f4,f5⟩
 ·obtain ⟨o,es,ep,ho,r⟩:=hm;exact ⟨o,es,ep,up _ o (λz=>(fx _ z).2.1 rfl) ho,r⟩
 ·refine (I.hok b o e).stay (λc v' hc q=>up c v' ?_ q) (λc q=>q) λc xs q=>q
  rcases hc with rfl | hc
  ·exact nx _ _ e
  ·exact nx _ _ hc
theorem Inv.track (I:Inv X pins σ H s) (fp:kd X pins H p) (new:jk X.prog X.w (upd H p o) s.heap p o):Inv X pins σ (upd H p o) s:=by
 have nt:∀{b:Addr} {u:HO},H b=some u->b≠p:=λe z=>by rw[z,fp.1] at e;cases e
 refine I.step (h':=s.heap) (g':=s.gens) (d':=s.drawn) (t':=s.toks) (ch:=[p]) (λb hb=>?_) (λb o _ _ _ e _=>e) (λb o _ _ _ e _=>⟨o.slots,e⟩) (λb o hb e n=>?_) (λb o _ e=>⟨o,e⟩) (λb q e=>by rw[aN (nt e)];exact e) (λb o q e=>by rw[aN (nt e)];exact e)
  (λb q e=>⟨#[],by rw[aN (nt e),e];simp⟩) (λm hm=>hm) (λb u e=>?_) I.bare
 ·have e:b=p:=by simpa using hb
  subst e;obtain ⟨_,f1,_,f3,f4,f5⟩:=fp;exact ⟨f3,f1,f4,f5⟩
 ·rw[aN λz=>hb (by simp [z])];exact n
 ·by_cases hb:b=p
  ·subst hb;rw[aE] at e;cases e;exact new
  ·rw[aN hb] at e;exact (I.hok b u e).stay (λc v _ q=>q) (λc q=>by rw[aN (nt q)];exact q) λc xs q=>by rw[aN (nt q)];exact q
end
def Mj (H:Hp) (p:V×V) (x:V):Prop:=∃T,x=.ref T/\H T=some (.tup [p.1,p.2])
theorem Mj.same (h:Mj H p x) (e:aA H H'):Mj H' p x:=by obtain ⟨T,q,g⟩:=h;exact ⟨T,q,e _ _ g⟩
def Zst (h:Heap) (z TI TO:Addr) (base:Nat):Prop:=(∃a b,IsPair h TO a b)/\(IsZip h z TI TO .none\/∃(T:Addr) (b1:Bool) (o:Obj),zF h z TI TO (rawInt T) (.bool b1)/\h.get? T=some o/\@LE.le Nat instLENat base T)
theorem AX {z TI TO i1 i2 l1 l2:Addr} (hz:zF h z TI TO f0 f1) (hTI:IsPair h TI (.ref i1) (.ref i2)) (hTO:IsPair h TO a b) (h1:h.IsListIter i1 l1 k1) (h2:h.IsListIter i2 l2 k2) (hl1:h.IsList l1 xs) (hl2:h.IsList l2 ys) (hT:TI≠TO) (hi:i1≠i2):ZipApart z TI TO i1 i2 l1 l2:=by
 obtain ⟨o1,g1,c1,_⟩:=h1;obtain ⟨o2,g2,c2,_⟩:=h2;obtain ⟨p1,q1,d1,_⟩:=hl1;obtain ⟨p2,q2,d2,_⟩:=hl2;have zt:Value.type "zip"≠.type "tuple":=lJ (by decide);have it:Value.type "list_iterator"≠.type "tuple":=lJ (by decide);have iz:Value.type "list_iterator"≠.type "zip":=lJ (by decide);have lz:Value.type "list"≠.type "zip":=lJ (by decide);have lt:Value.type "list"≠.type "tuple":=lJ (by decide);have li:Value.type "list"≠.type "list_iterator":=lJ (by decide)
 exact ⟨de hTI hz zt.symm,de hTO hz zt.symm,de g1 hz (by rw[c1];exact iz),de g2 hz (by rw[c2];exact iz),hT,de hTI g1 (by rw[c1];exact it.symm),de hTI g2 (by rw[c2];exact it.symm),de hTO g1 (by rw[c1];exact it.symm),de hTO g2 (by rw[c2];exact it.symm),hi,
  de q1 hz (by rw[d1];exact lz),de q1 hTO (by rw[d1];exact lt),de q1 g1 (by rw[d1,c1];exact li),de q1 g2 (by rw[d1,c2];exact li),de q2 hz (by rw[d2];exact lz),de q2 hTO (by rw[d2];exact lt),de q2 g1 (by rw[d2,c1];exact li),de q2 g2 (by rw[d2,c2];exact li)⟩
section
variable {X:Cx} {pins:List (Addr×Obj)} {σ:St}
theorem kd.heap (f:kd X pins H b) (e:H' b=none):kd X pins H' b:=⟨e,f.2⟩
structure Cn where
 z:Addr
 TI:Addr
 TO:Addr
 i1:Addr
 i2:Addr
 S:Addr
 base:Nat
def Cn.all (a:Cn):List Addr:=[a.z,a.TI,a.TO,a.i1,a.i2,a.S]
structure Cn.Ok (a:Cn):Prop where
 tt:a.TI≠a.TO
 ii:a.i1≠a.i2
 Sz:a.S≠a.z
 STI:a.S≠a.TI
 STO:a.S≠a.TO
 Si1:a.S≠a.i1
 Si2:a.S≠a.i2
 lt:∀b∈a.all,@LT.lt Nat instLTNat b a.base
structure Ly (X:Cx) (pins:List (Addr×Obj)) (σ:St) (H1:Hp) (a:Cn) (l1 l2:Addr) (i:Nat) (H:Hp) (s:Shared):Prop where
 inv:Inv X pins σ H s
 same:aA H1 H
 fps:∀b∈a.all,kd X pins H b
 sz:a.base<=s.heap.objs.size
 zst:Zst s.heap a.z a.TI a.TO a.base
 pt:IsPair s.heap a.TI (.ref a.i1) (.ref a.i2)
 j1:s.heap.IsListIter a.i1 l1 i
 j2:s.heap.IsListIter a.i2 l2 i
variable {a:Cn} {l1 l2:Addr} {H1 H:Hp} {s:Shared} {i:Nat} {xs ys:List V}
theorem Ly.push (L:Ly X pins σ H1 a l1 l2 i H s) (O:a.Ok) (k:∀b o,b≠a.S->s.heap.get? b=some o->h'.get? b=some o) (hz:h'.objs.size=s.heap.objs.size):Ly X pins σ H1 a l1 l2 i H { s with heap:=h' }:=by
 refine ⟨L.inv.moved (g':=s.gens) (d':=s.drawn) (t':=s.toks) (ch:=[a.S]) (λb hb=>?_) (λb o hb e=>k b o (λz=>hb (by simp [z])) e) L.inv.bare,L.same,L.fps,by show a.base<=h'.objs.size;rw[hz];exact L.sz,?_,k _ _ O.STI.symm L.pt,L.j1.at λo e=>k _ o O.Si1.symm e,L.j2.at λo e=>k _ o O.Si2.symm e⟩
 ·have e:b=a.S:=by simpa using hb
  rw[e];exact L.fps _ (by simp [Cn.all])
 ·obtain ⟨⟨c,d,z0⟩,z4⟩:=L.zst;refine ⟨⟨c,d,k _ _ O.STO.symm z0⟩,?_⟩;rcases z4 with z1 | ⟨T,b1,o,z1,z2,z3⟩
  ·exact .inl (k _ _ O.Sz.symm z1)
  ·refine .inr ⟨T,b1,o,k _ _ O.Sz.symm z1,k _ _ (λe=>?_) z2,z3⟩;have:=O.lt a.S (by simp [Cn.all]);rw[<- e] at this;exact absurd this (Nat.not_lt.mpr z3)
theorem HU (O:a.Ok) (q1:bP X.K H1 l1 xs) (q2:bP X.K H1 l2 ys) (ex:xs[i]?=some x) (ey:ys[i]?=some y) (L:Ly X pins σ H1 a l1 l2 i H s)
  (hQ:∀s',Ly X pins σ H1 a l1 l2 (i+1) (upd H s.heap.objs.size (.tup [x,y])) s'->(∀c o,c∉[a.z,a.TO,a.i1,a.i2]->s.heap.get? c=some o->s'.heap.get? c=some o)->H s.heap.objs.size=none->Q (some (.ref s.heap.objs.size)) s'):wpAny (model X.prog X.w) A' (pyNext (.ref a.z)) Q E s:=by
 obtain ⟨I,sm,fps,sz,zst,pt,j1,j2⟩:=id L;obtain ⟨us,ru,pu,_⟩:=I.list (sm.seq q1);obtain ⟨ws,rw',pw,_⟩:=I.list (sm.seq q2);obtain ⟨u,eu,r1⟩:=ru.get ex;obtain ⟨v,ev,r2⟩:=rw'.get ey;have fx:∀b∈[a.z,a.TO,a.i1,a.i2],kd X pins H b:=λb hb=>fps b (by simp only[Cn.all,aF,aQ,or_false] at hb ⊢;rcases hb with e | e | e | e <;> simp [e])
 have hT0:H s.heap.objs.size=none:=I.hok.fresh (au _);have fT:kd X pins H s.heap.objs.size:=I.fpOk (au _) hT0;have lt:∀b∈a.all,b≠s.heap.objs.size:=λb hb e=>by have:=O.lt b hb;rw[e] at this;exact absurd this (Nat.not_lt.mpr sz)
 have fin:∀h',(∀c o,c∉[a.z,a.TO,a.i1,a.i2]->s.heap.get? c=some o->h'.get? c=some o)->IsPair h' s.heap.objs.size u v->IsPair h' a.TI (.ref a.i1) (.ref a.i2)->h'.IsListIter a.i1 l1 (i+1)->h'.IsListIter a.i2 l2 (i+1)->Zst h' a.z a.TI a.TO a.base →
   Q (some (.ref s.heap.objs.size)) { s with heap:=h' }:=λh' up pr pt' j1' j2' zst'=>by
  have I2:Inv X pins σ H { s with heap:=h' }:=I.moved (g':=s.gens) (d':=s.drawn) (t':=s.toks) fx up I.bare;have I3:Inv X pins σ (upd H s.heap.objs.size (.tup [x,y])) { s with heap:=h' }:=I2.track fT ⟨lM rfl,[u,v],.cons r1 (.cons r2 .nil),⟨_,pr,rfl,_,rfl⟩⟩;refine hQ _ ⟨I3,sm.trans (aA.new hT0),λb hb=>(fps b hb).heap (by rw[aN (lt b hb)];exact (fps b hb).1),?_,zst',pt',j1',j2'⟩ up hT0;exact aj sz (aT (Heap.lt_size pr))
 obtain ⟨⟨c,d,z0⟩,z4⟩:=zst;rcases z4 with z1 | ⟨T,b1,o,z1,z2,z3⟩
 ·have D:=AX z1 pt z0 j1 j2 pu.isList pw.isList O.tt O.ii;refine wpAny_pyNext_zip_item D z1 pt z0 j1 j2 pu.isList pw.isList (x:=u) (y:=v) (by simpa using eu) (by simpa using ev) λh' a1 a2 a3 a4 a5 a6 hk=>?_
  have up:∀c o,c∉[a.z,a.TO,a.i1,a.i2]->s.heap.get? c=some o->h'.get? c=some o:=λc o hc e=>by
   simp only[aF,aQ,or_false,not_or] at hc;exact hk c o hc.1 hc.2.1 hc.2.2.1 hc.2.2.2 e
  exact fin h' up a5 (hk _ _ D.TIz D.TITO D.TIi1 D.TIi2 pt) a3 a4 ⟨⟨_,_,a2⟩,.inr ⟨s.heap.objs.size,false,_,a1,a5,sz⟩⟩
 ·have D:=AX z1 pt z0 j1 j2 pu.isList pw.isList O.tt O.ii;refine GO D z1 z2 pt j1 j2 pu.isList pw.isList (u:=u) (v:=v) (by simpa using eu) (by simpa using ev) λh' a1 a3 a4 a5 hk=>?_
  have up:∀c o,c∉[a.z,a.TO,a.i1,a.i2]->s.heap.get? c=some o->h'.get? c=some o:=λc o hc e=>by
   simp only[aF,aQ,or_false,not_or] at hc;exact hk c o hc.1 hc.2.2.1 hc.2.2.2 e
  have Tn:∀b∈a.all,T≠b:=λb hb e=>by have:=O.lt b hb;rw[<- e] at this;exact absurd this (Nat.not_lt.mpr z3)
  exact fin h' up a5 (hk _ _ D.TIz D.TIi1 D.TIi2 pt) a3 a4 ⟨⟨_,_,hk _ _ D.TOz D.TOi1 D.TOi2 z0⟩,.inr ⟨T,true,o,a1,hk _ _ (Tn _ (by simp [Cn.all])) (Tn _ (by simp [Cn.all])) (Tn _ (by simp [Cn.all])) z2,z3⟩⟩
theorem HS (hh:A'.handled=none) (O:a.Ok) (q1:bP X.K H1 l1 xs) (q2:bP X.K H1 l2 ys) (hi:xs.length<=i) (L:Ly X pins σ H1 a l1 l2 i H s)
  (hQ:∀s',Inv X pins σ H s'->(∀c o,c∉[a.z,a.TO,a.i1,a.i2]->s.heap.get? c=some o->s'.heap.get? c=some o)->Q none s'):wpAny (model X.prog X.w) A' (pyNext (.ref a.z)) Q E s:=by
 obtain ⟨I,sm,fps,sz,zst,pt,j1,j2⟩:=id L;obtain ⟨us,ru,pu,_⟩:=I.list (sm.seq q1);obtain ⟨ws,rw',pw,_⟩:=I.list (sm.seq q2);have lx:=ru.length;have none1:us.toArray[i]?=none:=by simp;lia
 have fx:∀b∈[a.z,a.TO,a.i1,a.i2],kd X pins H b:=λb hb=>fps b (by simp only[Cn.all,aF,aQ,or_false] at hb ⊢;rcases hb with e | e | e | e <;> simp [e])
 have fin:∀h',(∀c o,c∉[a.z,a.TO,a.i1,a.i2]->s.heap.get? c=some o->h'.get? c=some o)->Q none { s with heap:=h' }:=λh' up=>hQ _ (I.moved (g':=s.gens) (d':=s.drawn) (t':=s.toks) fx up I.bare) up
 obtain ⟨⟨c,d,z0⟩,z4⟩:=zst;rcases z4 with z1 | ⟨T,b1,o,z1,z2,z3⟩
 ·have D:=AX z1 pt z0 j1 j2 pu.isList pw.isList O.tt O.ii;refine wpAny_pyNext_zip_end hh D z1 pt z0 j1 j2 pu.isList pw.isList (.inl none1) λh' hk=>fin h' λc o hc e=>?_
  simp only[aF,aQ,or_false,not_or] at hc;exact hk c o hc.1 hc.2.1 hc.2.2.1 hc.2.2.2 e
 ·have D:=AX z1 pt z0 j1 j2 pu.isList pw.isList O.tt O.ii;refine GN hh D z1 z2 pt j1 pu.isList none1 λh' hk=>fin h' λc o hc e=>?_
  simp only[aF,aQ,or_false,not_or] at hc;exact hk c o hc.1 hc.2.2.1 hc.2.2.2 e
theorem HW (hh:A'.handled=none) (O:a.Ok) (hz:xs.length<=sizeLine) (hl:ys.length=xs.length) (q1:bP X.K H1 l1 xs) (q2:bP X.K H1 l2 ys)
  (fin:∀s' H' ts acc c,Inv X pins σ H' s'->aA H1 H'->kd X pins H' a.S->s'.heap.get? a.S=some (lobj acc c)->cR ts acc->Paired (Mj H') (xs.zip ys) ts->R (.ok (.ret .none)) s') :
  ∀(k i:Nat) (s:Shared) (H:Hp) (ts:List V) (acc:List Value) (c:Nat),xs.length - i=k->i<=xs.length->Ly X pins σ H1 a l1 l2 i H s->s.heap.get? a.S=some (lobj acc c)->cR ts acc->Paired (Mj H) ((xs.zip ys).take i) ts →
   codeAny (model X.prog X.w) A' (.builtin "list.extend.loop" ⟨[.ref a.S,.ref a.z,.none],[]⟩) R s:=by
 have Sn:a.S∉[a.z,a.TO,a.i1,a.i2]:=λh=>by
  simp only[aF,aQ,or_false] at h;rcases h with e | e | e | e
  ·exact O.Sz e
  ·exact O.STO e
  ·exact O.Si1 e
  ·exact O.Si2 e
 intro k
 induction k with
 | zero =>
  intro i s H ts acc c hk hi L gS rv prs;have e:i=xs.length:=by lia
  refine codeAny_builtin Oq ?_;rw[Around.under_plainId kJ _]
  change wpAny _ A'.in1 (pyNext (Value.ref a.z) >>= _) _ _ s
  refine wpAny_bind (HS hh O q1 q2 (by lia) L λs' I' up=>wpAny_pure (fin s' H ts acc c I' L.same (L.fps _ (by simp [Cn.all])) (up _ _ Sn gS) rv ?_));rwa [aJ (by rw[zM];lia)] at prs
 | succ k ih =>
  intro i s H ts acc c hk hi L gS rv prs;have hlt:i < xs.length:=by lia
  have lt:=prs.length;have la:=rv.length;refine codeAny_builtin Oq ?_;rw[Around.under_plainId kJ _]
  change wpAny _ A'.in1 (pyNext (Value.ref a.z) >>= _) _ _ s
  refine wpAny_bind (HU O q1 q2 (x:=xs[i]) (y:=ys[i]'(by lia)) (by simp [hlt]) (by simp) L λs' L' up hT=>?_);have gS':=up _ _ Sn gS
  change wpAny _ A'.in1 (updateSeq a.S (·.push (Value.ref s.heap.objs.size)) >>= _) _ _ s'
  have small:acc.length<=sizeLine:=by
   rw[dY,zM] at lt
   lia
  refine wpAny_bind (wpAny_updateSeq gS' rfl (wpAny_pure ⟨plainId_quiet kJ _,?_⟩) (by rw[aP];exact small) (by
   show (acc.toArray.push (Value.ref s.heap.objs.size)).size<=sizeLine+1
   rw[Array.size_push,aP]
   lia))
  have gS2:=ko gS' (λb=>b.push (Value.ref s.heap.objs.size));have e2:(acc.toArray.push (Value.ref s.heap.objs.size))=(acc++[Value.ref s.heap.objs.size]).toArray:=by simp
  rw[e2] at gS2;refine ih (i+1) _ (upd H s.heap.objs.size (.tup [xs[i],ys[i]'(by lia)])) (ts++[.ref s.heap.objs.size]) (acc++[.ref s.heap.objs.size]) _ (by lia) hlt (L'.push O (λb o hb e=>(Heap.get?_update_other _ _ (Ne.symm hb)).trans e) (Heap.size_update ..)) gS2 (rv.append (show cR [V.ref s.heap.objs.size] [Value.ref s.heap.objs.size] from .cons rfl .nil)) ?_;have zp:(xs.zip ys)[i]?=some (xs[i],ys[i]'(by lia)):=by simp [Ot,hlt]
  rw[take_snoc zp];exact (Paired.imp' (λ_ _ z=>z.same (aA.new hT)) prs).snoc ⟨_,rfl,aE⟩
theorem Ef:typeLookup (.type "zip") "__len__"=pure Option.none:=by rw[typeLookup_type,builtinLookup_eq_fast];kernel_rfl
theorem CG:typeLookup (.type "zip") "__length_hint__"=pure Option.none:=by rw[typeLookup_type,builtinLookup_eq_fast];kernel_rfl
theorem HV (hh:A'.handled=none) (O:a.Ok) (hz:xs.length<=sizeLine) (hl:ys.length=xs.length) (q1:bP X.K H1 l1 xs) (q2:bP X.K H1 l2 ys) (L:Ly X pins σ H1 a l1 l2 0 H s) (gS:s.heap.get? a.S=some (lobj [] 0)) (z0:IsZip s.heap a.z a.TI a.TO .none)
  (fin:∀s' H' ts acc c,Inv X pins σ H' s'->aA H1 H'->kd X pins H' a.S->s'.heap.get? a.S=some (lobj acc c)->cR ts acc->Paired (Mj H') (xs.zip ys) ts->R (.ok (.ret .none)) s') :
  wpAny (model X.prog X.w) A'.in1 (Builtin.«list.__init__» ⟨[.ref a.S,.ref a.z],[]⟩) (λfl s'=>match fl with | .done f=>R (.ok f) s' | .again c'=>c'.quiet=true/\codeAny (model X.prog X.w) A' c' R s') (λe s'=>R (.error e) s') s:=by
 change wpAny _ A'.in1 (do let old <- Builtin.List.listItems (Value.ref a.S);Builtin.List.listUpdate (Value.ref a.S) (λ_=>#[]);letGo old.toList.reverse;Builtin.List.listExtendWith (Value.ref a.S) (Value.ref a.z) Value.none) _ _ s
 refine wpAny_bind ?_;unfold Builtin.List.listItems;refine wpAny_bind (wpAny_seqItems gS rfl (wpAny_pure ?_))
 change wpAny _ A'.in1 (updateSeq a.S (λ_=>#[]) >>= λ_=>letGo (#[]:Array Value).toList.reverse >>= λ_=>Builtin.List.listExtendWith (Value.ref a.S) (Value.ref a.z) Value.none) _ _ s
 refine wpAny_bind (wpAny_updateSeq gS rfl ?_);have g1:=ko gS (λ_=>(#[]:Array Value));obtain ⟨n1,g1⟩:∃n1,(s.heap.update a.S (Obj.mapSeq λ_=>(#[]:Array Value))).get? a.S=some (lobj [] n1):=⟨_,g1⟩;have L1:=L.push (h':=s.heap.update a.S (Obj.mapSeq λ_=>(#[]:Array Value))) O (λb o hb e=>(Heap.get?_update_other _ _ (Ne.symm hb)).trans e) (Heap.size_update ..);have z1:IsZip (s.heap.update a.S (Obj.mapSeq λ_=>(#[]:Array Value))) a.z a.TI a.TO .none:=(Heap.get?_update_other _ _ O.Sz).trans z0;refine wpAny_bind (wpAny_letGo ?_);unfold Builtin.List.listExtendWith;have ty:Shared.TypeIs { s with heap:=s.heap.update a.S (Obj.mapSeq λ_=>(#[]:Array Value)) } (.ref a.z) "zip":=⟨_,z1,rfl⟩;refine wpAny_bind (wpAny_typeOf ty ?_);have h1:Builtin.List.listSameRef (.ref a.S) (.ref a.z)=false:=by simp [Builtin.List.listSameRef,O.Sz]
 have h2:(Value.type "zip" == Value.type "list")=false:=by decide
 have h3:(Value.type "zip" == Value.type "tuple")=false:=by decide
 simp only[h1,h2,h3,Bool.or_false,iY,if_false];refine wpAny_bind (wpAny_pyIter_zip z1 (wpAny_bind (wpAny_holding ?_)));unfold Builtin.List.listLengthHint;refine wpAny_bind (wpAny_specialOf ty Ef ?_)
 change wpAny _ A'.in1 (specialOf (Value.ref a.z) (Str.ofString "__length_hint__") >>= _) _ _ _
 refine wpAny_bind (wpAny_specialOf ty CG (wpAny_pure ?_))
 change wpAny _ A'.in1 (rule "list.extend.makes-room" >>= λ_=>Builtin.List.listTouch (Value.ref a.S) >>= λ_=>again (.builtin "list.extend.loop" ⟨[Value.ref a.S,Value.ref a.z,Value.none],[]⟩)) _ _ _
 refine wpAny_bind (wpAny_rule (wpAny_bind ?_))
 change wpAny _ A'.in1 (updateSeq a.S (·.push Value.none) >>= λ_=>updateSeq a.S (·.pop)) _ _ _
 refine wpAny_bind (wpAny_updateSeq g1 rfl ?_);have g2:=ko g1 (λb=>b.push Value.none);obtain ⟨n2,g2⟩:∃n2,((s.heap.update a.S (Obj.mapSeq λ_=>(#[]:Array Value))).update a.S (Obj.mapSeq λb=>b.push Value.none)).get? a.S=some (lobj [Value.none] n2):=⟨_,g2⟩;have L2:=L1.push (h':=(s.heap.update a.S (Obj.mapSeq λ_=>(#[]:Array Value))).update a.S (Obj.mapSeq λb=>b.push Value.none)) O (λb o hb e=>(Heap.get?_update_other _ _ (Ne.symm hb)).trans e) (Heap.size_update ..);refine wpAny_updateSeq g2 rfl ?_ (lM rfl);have g3:=ko g2 (λb=>b.pop);have L3:=L2.push (h':=((s.heap.update a.S (Obj.mapSeq λ_=>(#[]:Array Value))).update a.S (Obj.mapSeq λb=>b.push Value.none)).update a.S (Obj.mapSeq λb=>b.pop)) O (λb o hb e=>(Heap.get?_update_other _ _ (Ne.symm hb)).trans e) (Heap.size_update ..);exact wpAny_pure ⟨plainId_quiet kJ _,HW hh O hz hl q1 q2 fin _ 0 _ H [] [] _ rfl (bW _) L3 g3 .nil .nil⟩
end
section
variable {X:Cx}
theorem Mr (n:Nat):Cn.Ok ⟨n+4,n+2,n+3,n,n+1,n+5,n+5+1⟩:=by
 have ne:∀p q:Nat,p≠q->@Ne Addr p q:=λ_ _ h=>h
 refine ⟨ne (n+2) (n+3) (by lia),ne n (n+1) (by lia),ne (n+5) (n+4) (by lia),ne (n+5) (n+2) (by lia),ne (n+5) (n+3) (by lia),ne (n+5) n (by lia),ne (n+5) (n+1) (by lia),λb hb=>?_⟩;have hb':b∈[n+4,n+2,n+3,n,n+1,n+5]:=hb;show @LT.lt Nat instLTNat b (n+5+1)
 simp only[aF,aQ,or_false] at hb';rcases hb' with e | e | e | e | e | e <;> (rw[e];exact a9 (iM _) (by lia))
def CI (K:FG9) (ta:TA):TE:=λσ H Q=>ta σ H λvs H1=>∃(l1 l2:Addr) (xs ys:List V),vs=[.ref l1,.ref l2]/\bP K H1 l1 xs/\bP K H1 l2 ys/\ys.length=xs.length /\
 ∀L ts H',aA H1 H'->H1 L=none->H' L=some (.lst ts)->Paired (Mj H') (xs.zip ys) ts->Q (.ref L) H'
theorem Ez {e1 e2:Expr} {ta:TA} {p p2 pos pos2:Pos} (hg:Gl X "list") (hm:X.mg "list"=none) (hg2:Gl X "zip") (hm2:X.mg "zip"=none) (ha:PA X [e1,e2] ta) (hc:X.calm=true:=by rfl)
  (hs:starEach [e1,e2] X.env=[(false,eval e1 X.env),(false,eval e2 X.env)]:=by rfl) (hs2:starEach [e2] X.env=[(false,eval e2 X.env)]:=by rfl)
  (hs3:starEach [Expr.Call (.Name "zip" p2) [e1,e2] [] pos2] X.env=[(false,eval (.Call (.Name "zip" p2) [e1,e2] [] pos2) X.env)]:=by rfl) :
  PE X (.Call (.Name "list" p) [.Call (.Name "zip" p2) [e1,e2] [] pos2] [] pos) (CI X.K ta):=by
 intro pins s σ H Q I h;refine wpAny_Call_Name_kw (oq I hg hm boot_list ?_);refine PyProof.Rows.callWith_type1 ?_ (by rw[hs3];rfl) rfl;rw[hs3];show wpAny _ _ (spliced ((false,eval (.Call (.Name "zip" p2) [e1,e2] [] pos2) X.env) :: [])) _ _ s
 refine Calls.spliced_cons ?_;refine Call_ (oq I hg2 hm2 boot_zip (PyProof.Rows.callWith_type1 (gN (ha pos2 pins s σ H _ I h) λus s1 ⟨vs,H1,I1,r1,q1⟩=>?_) (by rw[hs,hs2]) (by rw[hs2];rfl)));obtain ⟨l1,l2,xs,ys,e,qx,qy,hl,q⟩:=q1;subst e;obtain ⟨u,v,rfl,ru,rv⟩:=vals2 r1;cases ru;cases rv;obtain ⟨us,rx,px,hz⟩:=I1.list qx;obtain ⟨ws,ry,py,_⟩:=I1.list qy;refine call_zip_2 px.isList py.isList λh' a1 a2 a3 a4 a5 a6 hk=>?_
 refine Calls.spliced_nil ?_;have I2:Inv X pins σ H1 { s1 with heap:=h' }:=I1.kept (t':=s1.toks) hk;have up:∀b o,h'.get? b=some o->(h'.push { cls:=.type "list",data:=.seq #[] }).get? b=some o:=λb o e=>Heap.get?_push_of_some _ e
 have O:Cn.Ok ⟨s1.heap.objs.size+4,s1.heap.objs.size+2,s1.heap.objs.size+3,s1.heap.objs.size,s1.heap.objs.size+1,h'.objs.size,h'.objs.size+1⟩:=by
  rw[a6];exact Mr s1.heap.objs.size
 have old:∀b∈(Cn.mk (s1.heap.objs.size+4) (s1.heap.objs.size+2) (s1.heap.objs.size+3) s1.heap.objs.size (s1.heap.objs.size+1) h'.objs.size (h'.objs.size+1)).all,s1.heap.objs.size<=b:=λb hb=>by
  rw[a6] at hb;simp only[Cn.all,aF,aQ,or_false] at hb;rcases hb with rfl | rfl | rfl | rfl | rfl | rfl <;> first | exact HR _ _ | exact au _
 have gS:(h'.push { cls:=.type "list",data:=.seq #[] }).get? h'.objs.size=some (lobj [] 0):=Heap.get?_push_size _ rfl;refine callType_codes (Q₁:=λob t=>ob=.ref h'.objs.size/\t={ s1 with heap:=h'.push { cls:=.type "list",data:=.seq #[] } }) PySem.F.called_list (PySem.F.typeCall_list_1 _) PySem.F.entry_list_init (code_list_new _ ⟨rfl,rfl⟩) λob t ht=>?_
 obtain ⟨rfl,rfl⟩:=ht;refine ⟨⟨_,gS,rfl⟩,PySem.F.args_list_init_2 _ _,?_⟩
 have L:Ly X pins σ H1 ⟨s1.heap.objs.size+4,s1.heap.objs.size+2,s1.heap.objs.size+3,s1.heap.objs.size,s1.heap.objs.size+1,h'.objs.size,h'.objs.size+1⟩ l1 l2 0 H1 { s1 with heap:=h'.push { cls:=.type "list",data:=.seq #[] } } :=
  ⟨I2.kept (t':=s1.toks) up,aA.refl _,λb hb=>I1.fpOk (old b hb) (I1.hok.fresh (old b hb)),by rw[Heap.size_push];exact au _,⟨⟨_,_,up _ _ a3⟩,.inl (up _ _ a1)⟩,up _ _ a2,a4.at λo e=>up _ o e,a5.at λo e=>up _ o e⟩
 refine HV (A':=X.A.in1) (I.ok.hd hc) O hz hl qx qy L gS (up _ _ a1) λs' H' ts acc c I' sm fS gS' vs' prs=>⟨rfl,?_⟩
 have nS:H1 h'.objs.size=none:=I1.hok.fresh (old _ (by simp [Cn.all]));have lt:=prs.length;rw[zM] at lt;exact ⟨.ref h'.objs.size,_,I'.track (o:=.lst ts) fS ⟨by lia,acc,c,vs',gS'⟩,rfl,q _ ts _ (sm.trans (aA.new fS.1)) nS aE (Paired.imp' (λ_ _ z=>z.same (aA.new fS.1)) prs)⟩
end
end L2
namespace Nm
def wu:List Int->Int->Int
 | [],m=>m
 | b :: r,m=>wu r (m*(b / g m b))
theorem uZ (hm:0 < m) (hb:0 < b):0 < m*(b / g m b):=hZ hm (BX (t:=m) hb)
theorem BV:b∣m*(b / g m b):=by
 have h1:=yS m b;refine ⟨lo m b,?_⟩;have h2:b / g m b*g m b=b:=wB m b
 calc m*(b / g m b)=lo m b*g m b*(b / g m b):=by rw[h1]
  _=lo m b*(b / g m b*g m b):=by rw[du,fK (g m b)]
  _=b*lo m b:=by rw[h2,fK]
theorem yU:∀{bs:List Int} {m:Int},0 < m->(∀b∈bs,0 < b)->0 < wu bs m
 | [],_,hm,_=>hm
 | b :: r,m,hm,h=>yU (bs:=r) (uZ hm (h b cU)) λc hc=>h c (bK _ hc)
theorem DC:∀{bs:List Int} {m:Int},m∣wu bs m
 | [],_=>Int.dvd_refl _
 | b :: r,m=>D9 (Int.dvd_mul_right m _) (DC (bs:=r))
theorem DB:∀{bs:List Int} {m b:Int},b∈bs->b∣wu bs m
 | c :: r,m,b,h=>by
  rcases aF.mp h with rfl | h
  ·exact D9 BV (DC (bs:=r))
  ·exact DB (bs:=r) h
end Nm
namespace L2
open PySem PySem.Spec PyProof.Rows Nm
def E5 (K:FG9) (H:Hp) (p:Addr) (ns:List (Int×Int)):Prop:=∃xs,H p=some (.lst xs)/\Paired (λn x=>DW K H x n) ns xs
theorem E5.same {K:FG9} (h:E5 K H p ns) (e:aA H H'):E5 K H' p ns:=by obtain ⟨xs,g,q⟩:=h;exact ⟨xs,e _ _ g,Paired.imp' (λ_ _ z=>e.num z) q⟩
def Dm (K:FG9) (T:String):V->Hp->VK->Prop:=λx H Q=>GD K T x H Q\/∃a xs b,x=.ref a/\qG K H a xs/\PySem.W.kitOne K (.type "tuple") (.type T)=some b/\Q (.bl b) H
theorem Ap:∀{bs:List Int} {m b:Int},wu (bs++[b]) m=wu bs m*(b / g (wu bs m) b)
 | [],_,_=>rfl
 | c :: r,m,b=>Ap (bs:=r)
def ck (ns:List (Int×Int)) (B:Int):List Int:=ns.map λn=>n.1*(B / n.2)
def cM (ns:List (Int×Int)):Int:=wu (ns.map (·.2)) 1
def JD (ns ms:List (Int×Int)):Int:=(List.zipWith (λx y=>x*y) (ck ns (cM ns)) (ck ms (cM ms))).sum
theorem oS (h:n∈ns):n.2∣cM ns:=DB (ay.mpr ⟨n,h,rfl⟩)
theorem Eu {K:FG9} (h:ta σ H λvs H1=>∃(l1 l2:Addr) (xs ys:List V),vs=[.ref l1,.ref l2]/\bP K H1 l1 xs/\bP K H1 l2 ys/\ys.length=xs.length /\
 ∀L ts H',aA H1 H'->H1 L=none->H' L=some (.lst ts)->Paired (Mj H') (xs.zip ys) ts->Q (.ref L) H'):CI K ta σ H Q:=h
theorem Qx (hb:0 < b) (h:Sz k b):Sz k (g m b):=h.le (by
 have h1:(g m b).natAbs=Int.gcd m b:=by unfold g;simp
 rw[h1];exact js (by lia) (by have:=eE (a:=m) (b:=b);exact eR.mpr this |> λz=>by simpa using z))
theorem J7 {ts us:List Int} {i:Nat} (h:((ts.map V.int).zip (us.map V.int))[i]?=some pq):∃t u,ts[i]?=some t/\us[i]?=some u/\pq=(.int t,.int u):=by
 rw[Ot,aB,aB] at h;obtain ⟨h1,h2⟩:=h;cases e1:ts[i]? with
 | none=>rw[e1] at h1;cases h1
 | some t =>
  cases e2:us[i]? with
  | none=>rw[e2] at h2;cases h2
  | some u =>
   rw[e1] at h1;rw[e2] at h2;refine ⟨t,u,rfl,rfl,?_⟩;cases pq;simp at h1 h2;rw[h1,h2]
def Gz (K:FG9):Sp:=λvs H Q _=>∃x n,vs=[x]/\DW K H x n/\zH n/\∀H',aA H H'->Q (.bl true) H'
inductive vV (K:FG9) (vs:List V) (H:Hp) (Q:VK) (E9:XK):Prop
 | mk (p:Addr) (ns:List (Int×Int)):vs=[.ref p,.int ns.length]->E5 K H p ns->ns.length<=1000->(∀n∈ns,zH n)->(∀H',aA H H'->Q (.bl true) H')->vV K vs H Q E9
theorem xX {X:Cx} {a:Expr} {ta:TE} {pos:Pos} {c:Str} {T:String} {p p2:Pos} (hg:Gl X "isinstance") (hm:X.mg "isinstance"=none) (hb:bootBuiltins c=some (.type T)) (hmc:X.mg c=none) (ha:PE X a ta) (hgc:Gl X c:=by rfl) (hn:c≠"__name__":=by decide)
  (hd:(c == ("__debug__":Str))=false:=by decide) (he:starEach [a,.Name c p2] X.env=[(false,eval a X.env),(false,eval (.Name c p2) X.env)]:=by rfl)
  (hpl:(backTo pos (starEach [.Name c p2] X.env)).any (·.1)=false:=by rfl) (he2:starEach [.Name c p2] X.env=[(false,eval (.Name c p2) X.env)]:=by rfl):PE X (.Call (.Name "isinstance" p) [a,.Name c p2] [] pos) (Qb (Dm X.K T) ta):=by
 intro pins s σ H Q I h;refine wpAny_Call_Name_kw (oq I hg hm PyProof.Rows.boot_isinstance ?_);have hA:PA X [a,.Name c p2] (qK ta (qK (tC (.ty T)) Gs)):=aa ha (aa (FG hgc hmc hb rfl hn hd) af he2) (by rw[he,he2])
 have hq:qK ta (qK (tC (.ty T)) Gs) σ H (λvs H1=>∃x,vs=[x,.ty T]/\Dm X.K T x H1 Q):=by
  show ta σ H λx H1=>∃x',[x,V.ty T]=[x',V.ty T]/\Dm X.K T x' H1 Q
  have e:(λx H1=>∃x',[x,V.ty T]=[x',V.ty T]/\Dm X.K T x' H1 Q)=λx H1=>Dm X.K T x H1 Q:=by
   funext x H1;apply propext;constructor
   ·rintro ⟨x',e,q⟩;cases e;exact q
   ·intro q;exact ⟨x,rfl,q⟩
  rw[e];exact h
 refine PyProof.Rows.callWith_builtin1 (gN (hA pos pins s σ H _ I hq) λus s1 ⟨vs,H1,I1,r1,x,e,q1⟩=>?_) (by rw[he,he2]) hpl;subst e;obtain ⟨u,w',rfl,ru,rt⟩:=vals2 r1;cases rt;rcases q1 with ⟨t,bb,ty,ek,q⟩ | ⟨ad,xs,bb,rfl,hs,ek,q⟩
 ·exact Ar I1 ru ty ek λtk=>⟨.bl bb,H1,I1.tok tk,rfl,q⟩
 ·cases ru;obtain ⟨its,_,⟨o,g1,g2,_⟩,_⟩:=I1.tuple hs;exact dk PySem.W.kitx_tuple I1.kIn ⟨o,g1,g2⟩ ek (λz=>nomatch z) λtk=>⟨.bl bb,H1,I1.tok tk,rfl,q⟩
theorem Of (h1:Sz j x) (h2:Sz j y):Sz (j+1) (x+y):=by
 unfold Sz at *
 have:=Gj x y;rw[nD]
 lia
theorem ID (h:H l=some (.lst [x])) (hk:k<=1000) (q:∀p H',aA H H'->H p=none->H' p=some (.lst (List.replicate k x))->Q (.ref p) H'):O8 (.ref l) (.int k) H Q :=
 ⟨l,k,[x],rfl,rfl,h,by lia,by lia,aT (bz (by simp;lia)),λp hp=>q p _ (aA.new hp) hp (by rw[aE];simp)⟩
theorem NZ {k:Nat} (h:k<=xs.length):sE xs none (some (k:Int))=xs.take k:=by
 unfold sE;rw[HT.yy,HT.Br,Nat.min_eq_left h];simp
theorem DJ {k:Nat}:sE xs (some (k:Int)) none=xs.drop k:=by
 unfold sE;rw[HT.yy,HT.Br];by_cases h:k<=xs.length
 ·rw[Nat.min_eq_left h,aJ (by simp)]
 ·rw[Nat.min_eq_right (by lia),List.drop_of_length_le (by lia),List.drop_of_length_le (by lia)];simp
theorem tW {α β:Type} {F:α->β->Prop} {x:α} {y:β} (h:F x y):∀m:Nat,Paired F (List.replicate m x) (List.replicate m y)
 | 0=>.nil
 | m+1=>.cons h (tW h m)
theorem gV (h:a < n):HN n (a:Int)=some a:=by
 unfold HN;rw[if_pos (by lia),if_pos (by lia),Int.toNat_natCast]
theorem JH {k:Nat}:sE xs none (some (k:Int))=xs.take k:=by
 by_cases h:k<=xs.length
 ·exact NZ h
 ·unfold sE;rw[HT.yy,HT.Br,Nat.min_eq_right (by lia),aJ (by simp),aJ (by lia)];rfl
theorem wO {α β:Type} {F:α->β->Prop}:∀{l1:List α} {l2:List β} (_:Paired F l1 l2) (k:Nat),Paired F (l1.take k) (l2.take k)
 | _,_,.nil,k=>by simp;exact .nil
 | _,_,.cons h r,0=>.nil
 | _,_,.cons h r,k+1=>.cons h (wO r k)
theorem Ig {j:Nat}:∀{l:List Int},(∀v∈l,Sz j v)->Sz (j+l.length) l.sum
 | [],_=>gP _
 | v :: r,h=>by
  rw[List.sum_cons,bV];exact Of (j:=j+r.length) ((h v (.head _)).mono (by lia)) (Ig λu hu=>h u (.tail _ hu))
def KE (K:FG9):List V->Hp->VK->Prop:=λxs H Q=>∃p ys,xs=[.ref p]/\(bP K H p ys\/qG K H p ys)/\∀l,H l=none->Q (.ref l) (upd H l (.lst ys))
theorem sZ (K:FG9) (hK:X.K=K):rW X (.type "list") (KE K):=by subst hK;exact c5
theorem aA.none (s:aA H H') (h:H' l=Option.none):H l=Option.none:=by
 cases e:H l with
 | none=>rfl
 | some o=>have:=s _ _ e;rw[h] at this;cases this
theorem Ej (h:b.natAbs<=1000000):Sz 20 b:=bJ h (by decide)
theorem cz.none (u:cz b H H') (B:fP H' b) (h:H' l=Option.none):H l=Option.none:=by
 cases e:H l with
 | none=>rfl
 | some o =>
  by_cases z:l=b
  ·obtain ⟨_,_,_,_,_,e2,_⟩:=B;rw[<- z,h] at e2;cases e2
  ·have:=u.1 l o e z;rw[h] at this;cases this
end L2
namespace Nm
def nm (q:Rat):Int×Int:=(q.num,(q.den:Int))
theorem kP (q:Rat):0 < (nm q).2:=by have:=q.den_pos;show 0 < (q.den:Int);lia
theorem BQ (q:Rat):Int.gcd (nm q).1 (nm q).2=1:=q.reduced
theorem Nw (h:nm p=nm q):p=q:=by
 have h1:p.num=q.num:=congrArg Prod.fst h;have h2:(p.den:Int)=q.den:=congrArg Prod.snd h;exact Rat.ext h1 (by lia)
theorem pJ (q:Rat):(q.num:Rat)=q*(q.den:Rat):=by
 have h:=Rat.num_divInt_den q;rw[Rat.divInt_eq_div] at h
 have hd:((q.den:Int):Rat)≠0:=by
  intro z;have z:=xH.mp z;have:=q.den_pos
  lia
 have e:((q.den:Int):Rat)=(q.den:Rat):=bI _
 calc (q.num:Rat)=(q.num:Rat) / ((q.den:Int):Rat)*((q.den:Int):Rat):=(iV hd).symm
  _=q*(q.den:Rat):=by rw[h,e]
theorem Pf (hb:0 < b) (hg:Int.gcd a b=1) (e:q*(b:Rat)=(a:Rat)):(a,b)=nm q:=by
 have h1:a*(q.den:Int)=q.num*b:=by
  apply eG.mp;rw[aM,aM,<- e,pJ,bI];grind
 obtain ⟨e1,e2⟩:=uniq hb (kP q) hg (BQ q) h1;exact Prod.ext e1 e2
theorem uY {t b:Int} (hb:0 < b) (e:q*(b:Rat)=(t:Rat)):(lo t b,hi t b)=nm q:=by
 refine Pf (BX hb) (yQ (by lia)) ?_;have h:=yR t b;have hb':(b:Rat)≠0:=λz=>by have:=xH.mp z;lia
 have h2:((lo t b:Int):Rat)*(b:Rat)=(t:Rat)*((hi t b:Int):Rat):=by rw[<- aM,h,aM]
 rw[<- e] at h2;have h3:(q*((hi t b:Int):Rat) - ((lo t b:Int):Rat))*(b:Rat)=0:=by grind
 rcases Rat.mul_eq_zero.mp h3 with h4 | h4
 ·grind
 ·exact absurd h4 hb'
def Fr (M V:Nat) (q:Rat):Prop:=∃z:Int,q*(M:Rat)=(z:Rat)/\z.natAbs<=V*M
theorem Fr.mono (h:Fr M V q) (l:V<=V'):Fr M V' q:=by obtain ⟨z,e,b⟩:=h;exact ⟨z,e,aj b (aL _ l)⟩
theorem Fr.scale (h:Fr M V q) (k:Nat):Fr (M*k) V q:=by
 obtain ⟨z,e,b⟩:=h;refine ⟨z*k,?_,?_⟩
 ·rw[cC,aM,<- e,bI,dM]
 ·rw[iN,lI,<- ib];exact aL _ b
theorem Fr.scaleL (h:Fr M V q) (k:Nat):Fr (k*M) V q:=by rw[hX];exact h.scale k
theorem Fr.dvd (h:Fr M V q) (d:M∣N):Fr N V q:=by obtain ⟨k,rfl⟩:=d;exact h.scale k
theorem Fr.add (h:Fr M V p) (h':Fr M W q):Fr M (V+W) (p+q):=by
 obtain ⟨z,e,b⟩:=h;obtain ⟨z',e',b'⟩:=h';refine ⟨z+z',by rw[lg,<- e,<- e',Rat.add_mul],?_⟩;rw[JR];have:=Gj z z'
 lia
theorem Fr.neg (h:Fr M V q):Fr M V (-q):=by
 obtain ⟨z,e,b⟩:=h;exact ⟨-z,by rw[jo,<- e,Rat.neg_mul],by rw[tI];exact b⟩
theorem Fr.mul (h:Fr M V p) (h':Fr N W q):Fr (M*N) (V*W) (p*q):=by
 obtain ⟨z,e,b⟩:=h;obtain ⟨z',e',b'⟩:=h';refine ⟨z*z',?_,?_⟩
 ·rw[cC,aM,<- e,<- e'];grind
 ·rw[iN]
  calc z.natAbs*z'.natAbs<=(V*M)*(W*N):=a8 b b'
   _=V*W*(M*N):=by rw[ib,Nat.mul_left_comm M,<- ib]
theorem Fr.zero:Fr M V 0:=⟨0,by simp,by simp⟩
theorem Fr.int {i:Int} (h:i.natAbs<=V):Fr M V (i:Rat):=⟨i*M,by rw[aM,bI],by rw[iN,lI];exact aL _ h⟩
theorem Fr.den (h:Fr M V q):(q.den:Int)∣(M:Int):=by
 obtain ⟨z,e,b⟩:=h
 have h1:q.num*(M:Int)=z*(q.den:Int):=by
  apply eG.mp;rw[aM,aM,<- e,pJ,bI,bI];grind
 have h2:(q.den:Int)∣q.num*(M:Int):=⟨z,by rw[h1,fK]⟩;exact pU (by rw[kx];exact BQ q) h2
theorem Fr.den_le (h:Fr M V q) (hM:0 < M):q.den<=M:=js hM (xJ.mp h.den)
theorem Fr.num_le (h:Fr M V q) (hM:0 < M):q.num.natAbs<=V*M:=by
 have hd:=h.den;obtain ⟨z,e,b⟩:=h;obtain ⟨k,hk⟩:=xJ.mp hd;have hk0:k≠0:=λz=>by rw[z,Nat.mul_zero] at hk;lia
 have h1:z=q.num*(k:Int):=by
  apply eG.mp;rw[aM,<- e,pJ,bI,hk,cC];grind
 rw[h1] at b;exact aj (nY (by lia)) b
theorem Fr.own (q:Rat) (h:q.num.natAbs<=V):Fr q.den V q:=⟨q.num,(pJ q).symm,aj h (mi _ q.den_pos)⟩
theorem Fr.sz (h:Fr M V q) (hM:0 < M) (h1:M<=2^k) (h2:V<=2^j):Sz (j+k+1) (nm q).1/\Sz (k+1) (nm q).2:=by
 constructor
 ·show q.num.natAbs < 2^(j+k+1)
  have h3:=h.num_le hM;have h4:V*M<=2^j*2^k:=a8 h2 h1;rw[nD,bQ];have:=gP (j+k);rw[bQ] at this
  lia
 ·show (q.den:Int).natAbs < 2^(k+1)
  have h3:=h.den_le hM;rw[lI,nD];have:=gP k
  lia
theorem Fr.sum {M V:Nat}:∀{l:List Rat},(∀x∈l,Fr M V x)->Fr M (l.length*V) l.sum
 | [],_=>by simp;exact Fr.zero
 | x :: r,h=>by
  rw[List.sum_cons,bV,nB,Gg];exact (h x (.head _)).add (Fr.sum λy hy=>h y (.tail _ hy))
def iF (xs ys:List Rat):Rat:=(List.zipWith (λx y=>x*y) xs ys).sum
theorem Fr.dot (h:∀x∈xs,Fr M V x) (h':∀y∈ys,Fr N W y):Fr (M*N) (xs.length*(V*W)) (iF xs ys):=by
 have q:=Fr.sum (M:=M*N) (V:=V*W) (l:=List.zipWith (λx y=>x*y) xs ys) λz hz=>by
  obtain ⟨i,hi,e⟩:=b9 hz;rw[qC] at e;rw[<- e];exact (h _ (bM _)).mul (h' _ (bM _))
 exact q.mono (aL _ (by rw[cA];lia))
theorem ya:∀{bs:List Int} {m M:Int},0 < m->m∣M->(∀b∈bs,0 < b/\b∣M)->wu bs m∣M
 | [],_,_,_,h,_=>h
 | b :: r,m,M,hm,h,hb=>by
  have b1:=hb b cU;refine ya (bs:=r) (uZ hm b1.1) ?_ λc hc=>hb c (bK _ hc)
  have gp:0 < g m b:=yV (by lia);have e1:=yS m b;have e2:=wB m b;obtain ⟨u,hu⟩:=h;obtain ⟨v,hv⟩:=b1.2
  have h3:lo m b*u=hi m b*v:=by
   apply tJ (show g m b≠0 by lia)
   calc lo m b*u*g m b=lo m b*g m b*u:=by rw[du,fK u,<- du]
    _=m*u:=by rw[e1]
    _=M:=hu.symm
    _=b*v:=hv
    _=hi m b*g m b*v:=by rw[e2]
    _=hi m b*v*g m b:=by rw[du,fK (g m b),<- du]
  have h4:hi m b∣lo m b*u:=⟨v,h3⟩;have h5:hi m b∣u:=pU (by rw[kx];exact yQ (by lia)) h4;obtain ⟨w,hw⟩:=h5;refine ⟨w,?_⟩;show M=m*hi m b*w
  rw[hu,hw,du]
theorem Cb (hb:0 < b) (d:a∣b) (h:Sz k b):Sz k a:=h.le (js (by lia) (eR.mpr d))
end Nm
namespace Nm
def Dr (W:Nat) (x:Rat):Prop:=x.num.natAbs<=W/\x.den<=W
def uL:List Nat->Nat
 | []=>1
 | a :: r=>a*uL r
theorem wd:∀{l:List Nat},(∀a∈l,0 < a)->0 < uL l
 | [],_=>Nat.one_pos
 | a :: r,h=>c7 (h a (.head _)) (wd λb hb=>h b (.tail _ hb))
theorem we:∀{l:List Nat} {a:Nat},a∈l->a∣uL l
 | b :: r,a,h=>by
  rcases aF.mp h with rfl | h
  ·exact Nat.dvd_mul_right ..
  ·exact OA (we h) (kq ..)
theorem yC {k:Nat}:∀{l:List Nat},(∀a∈l,a<=2^k)->uL l<=2^(k*l.length)
 | [],_=>by simp [uL]
 | a :: r,h=>by
  rw[bV,Nat.mul_succ,bQ,hX (2^(k*r.length))];exact a8 (h a (.head _)) (yC λb hb=>h b (.tail _ hb))
def GF (M V:Nat) (rows:LR9):Prop:=∀xs∈rows,∀x∈xs,Fr M V x
def Om (c n i:Nat) (rows:LR9):Prop:=∃M,0 < M/\M<=2^(i*(c*n+2))/\GF M (2^(20+2*i)) rows
theorem NP:Om c n 0 []:=⟨1,by decide,by simp,λ_ h=>nomatch h⟩
theorem NQ (c n i:Nat):(i+1)*(c*n+2)=i*(c*n+2)+(c*n+2):=nB ..
theorem K5 (h:Om c n i rows) (hl:xs.length=n) (hd:∀x∈xs,Dr (2^c) x) (hc:c<=20):Om c n (i+1) (rows++[xs]):=by
 obtain ⟨M,h0,h1,h2⟩:=h
 have dp:0 < uL (xs.map (·.den)):=wd λa ha=>by
  obtain ⟨x,_,rfl⟩:=ay.mp ha;exact x.den_pos
 have dl:uL (xs.map (·.den))<=2^(c*n):=by
  have:=yC (k:=c) (l:=xs.map (·.den)) λa ha=>by
   obtain ⟨x,hx,rfl⟩:=ay.mp ha;exact (hd x hx).2
  rwa [ag,hl] at this
 refine ⟨M*uL (xs.map (·.den)),c7 h0 dp,?_,λys hy x hx=>?_⟩
 ·rw[NQ,bQ];exact a8 h1 (aj dl (av (by decide) (by lia)))
 ·rcases aw.mp hy with hy | hy
  ·exact ((h2 ys hy x hx).scale _).mono (av (by decide) (by lia))
  ·have e:ys=xs:=by simpa using hy
   subst e;have f:Fr x.den (2^c) x:=Fr.own x (hd x hx).1;have g:=(f.dvd (we (ay.mpr ⟨x,hx,rfl⟩))).scaleL M;exact g.mono (av (by decide) (by lia))
def qe (rows:LR9) (w:Nat):LR9:=(List.range w).map λj=>rows.map λxs=>xs.getD j 0
theorem lE:(qe rows w).length=w:=by simp [qe]
theorem vS:∀ys∈qe rows w,ys.length=rows.length:=λys hy=>by
 obtain ⟨j,_,rfl⟩:=ay.mp hy;exact ag ..
theorem getD_map {α:Type} {l:List α} {f:α->Rat} (h:i < l.length):(l.map f).getD i 0=f l[i]:=by
 rw[ae,aB,ao h];rfl
end Nm
namespace L2
open PySem PySem.Spec PyProof.Rows Nm
theorem cz.sqt {K:FG9} (u:cz b H H') (B:fP H b) (h:qG K H a xs):qG K H' a xs:=by
 rcases h with (h | ⟨o,h⟩) | h
 ·exact .inl (.inl (u.tup B h))
 ·exact .inl (.inr ⟨o,u.other (λz=>by obtain ⟨_,_,_,_,_,e,_⟩:=B;rw[z,e] at h;cases h) h⟩)
 ·exact .inr h
theorem Ij {K:FG9} (h:qG K H a xs) (hl:H l=some (.lst ys)):qG K (upd H l o) a xs:=by
 rcases h with (h | ⟨o,h⟩) | h
 ·exact .inl (.inl (by rw[aN λz=>by rw[z,hl] at h;cases h];exact h))
 ·exact .inl (.inr ⟨o,by rw[aN λz=>by rw[z,hl] at h;cases h];exact h⟩)
 ·exact .inr h
def b6 (K:FG9) (H:Hp) (q:Rat) (x:V):Prop:=DW K H x (nm q)
section
variable {K:FG9} {H H':Hp} {q:Rat} {x:V} {b l p:Addr} {qs:List Rat}
theorem b6.same (h:b6 K H q x) (e:aA H H'):b6 K H' q x:=e.num h
theorem b6.upto (h:b6 K H q x) (u:cz b H H') (B:fP H b):b6 K H' q x:=by obtain ⟨p,e,s⟩:=h;exact ⟨p,e,u.sqt B s⟩
theorem b6.updL (h:b6 K H q x) (hl:H l=some (.lst ys)):b6 K (upd H l o) q x:=by obtain ⟨p,e,s⟩:=h;exact ⟨p,e,Ij s hl⟩
theorem b6.mk (h:H r=some (.tup [.int a,.int c])) (e:(a,c)=nm q):b6 K H q (.ref r):=⟨r,rfl,by rw[<- e];exact qG.of h⟩
def cg (K:FG9) (H:Hp) (p:Addr) (qs:List Rat):Prop:=∃xs,H p=some (.lst xs)/\Paired (b6 K H) qs xs
theorem cg.same (h:cg K H p qs) (e:aA H H'):cg K H' p qs:=by obtain ⟨xs,g,r⟩:=h;exact ⟨xs,e _ _ g,Paired.imp' (λ_ _ z=>z.same e) r⟩
theorem cg.upto (h:cg K H p qs) (u:cz b H H') (B:fP H b) (n:p≠b):cg K H' p qs:=by obtain ⟨xs,g,r⟩:=h;exact ⟨xs,u.other n g,Paired.imp' (λ_ _ z=>z.upto u B) r⟩
theorem cg.updL (h:cg K H p qs) (hl:H l=some (.lst ys)) (n:p≠l):cg K (upd H l o) p qs:=by obtain ⟨xs,g,r⟩:=h;exact ⟨xs,by rw[aN n];exact g,Paired.imp' (λ_ _ z=>z.updL hl) r⟩
theorem wQ {α β γ:Type} {F:α->β->Prop} {f:γ->α}:∀{l:List γ} {l2:List β},Paired (λc x=>F (f c) x) l l2->Paired F (l.map f) l2
 | _,_,.nil=>.nil
 | _,_,.cons r t=>.cons r (wQ t)
theorem cg.rowK (h:cg K H p qs):E5 K H p (qs.map nm):=by obtain ⟨xs,g,r⟩:=h;exact ⟨xs,g,wQ (F:=λn x=>DW K H x n) r⟩
def iI (K:FG9) (H0 H:Hp) (qs:List Rat) (x:V):Prop:=∃q,x=V.ref q/\H0 q=none/\cg K H q qs
def cN (K:FG9) (H0 H:Hp) (p:Addr) (rows:LR9):Prop:=∃xs,H p=some (.lst xs)/\Paired (iI K H0 H) rows xs/\V.ref p∉xs
theorem wV {rows:LR9} (h:∃H2,H2 p=none/\Paired (iI K H0 H2) rows ys):V.ref p∉ys:=λhm=>by
 obtain ⟨H2,e,pr⟩:=h;obtain ⟨qs,_,q,z,_,xs,g,_⟩:=c9 pr hm;cases z;rw[e] at g;cases g
variable {H0:Hp} {rows:LR9}
theorem iI.same (h:iI K H0 H qs x) (e:aA H H'):iI K H0 H' qs x:=by obtain ⟨q,a,b,c⟩:=h;exact ⟨q,a,b,c.same e⟩
theorem iI.upto (h:iI K H0 H qs x) (u:cz b H H') (B:fP H b) (nb:H0 b≠none):iI K H0 H' qs x:=by obtain ⟨q,a,c,d⟩:=h;exact ⟨q,a,c,d.upto u B λz=>nb (by rw[<- z];exact c)⟩
theorem iI.weak (h:iI K H0 H qs x) (e:aA H1 H0):iI K H1 H qs x:=by obtain ⟨q,a,b,c⟩:=h;exact ⟨q,a,e.none b,c⟩
theorem cN.same (h:cN K H0 H p rows) (e:aA H H'):cN K H0 H' p rows:=by obtain ⟨xs,g,r,n⟩:=h;exact ⟨xs,e _ _ g,Paired.imp' (λ_ _ z=>z.same e) r,n⟩
theorem cN.upto (h:cN K H0 H p rows) (u:cz b H H') (B:fP H b) (n:p≠b) (nb:H0 b≠none):cN K H0 H' p rows:=by obtain ⟨xs,g,r,nn⟩:=h;exact ⟨xs,u.other n g,Paired.imp' (λ_ _ z=>z.upto u B nb) r,nn⟩
theorem cN.weak (h:cN K H0 H p rows) (e:aA H1 H0):cN K H1 H p rows:=by obtain ⟨xs,g,r,n⟩:=h;exact ⟨xs,g,Paired.imp' (λ_ _ z=>z.weak e) r,n⟩
end
def Pl:Kind Rat:=Pn.via nm (λ_ _ e=>Nw e) (λK H x q=>b6 K H q x) id
def FP:Kind (List Rat):=Po Pl
def EN:Kind (LR9):=Po FP
theorem cg.kind {K:FG9} (h:cg K H p qs):FP.R K H (.ref p) qs:=by obtain ⟨xs,g,q⟩:=h;exact ⟨p,xs,rfl,bP.of g,q⟩
def qF (x:Rat):Prop:=Sz 2000000 (nm x).1/\Sz 2000000 (nm x).2
def Fits (l:List Rat):Prop:=∃M V:Nat,0 < M/\M<=2^900/\V<=2^900/\∀x∈l,Fr M V x
theorem Fits.szn (h:Fits l) (hx:x∈l):qF x:=by
 obtain ⟨M,V,h0,h1,h2,h3⟩:=h;obtain ⟨a,b⟩:=(h3 x hx).sz h0 h1 h2;exact ⟨a.mono (by decide),b.mono (by decide)⟩
theorem Fits.ok (h:Fits l) (hx:x∈l):zH (nm x):=⟨kP x,BQ x,(h.szn hx).1.mono (by decide),(h.szn hx).2.mono (by decide)⟩
theorem ET {M V:Nat} (h0:0 < M) (h1:M<=2^1800) (h2:V<=2^1810) (h:Fr M V x):qF x:=by
 obtain ⟨a,b⟩:=h.sz h0 h1 h2;exact ⟨a.mono (by decide),b.mono (by decide)⟩
theorem Mx (h:qF x):zH (nm x):=⟨kP x,BQ x,h.1.mono (by decide),h.2.mono (by decide)⟩
inductive vU (K:FG9) (f:Rat->Rat->Rat) (vs:List V) (H:Hp) (Q:VK) (E9:XK):Prop
 | mk (u v:V) (x y:Rat):vs=[u,v]->b6 K H x u->b6 K H y v->qF x->qF y->(∀r H',aA H H'->b6 K H' (f x y) (.ref r)->Q (.ref r) H')->vU K f vs H Q E9
section
variable {K:FG9} {vs:List V} {H:Hp} {Q:VK} {E:XK}
theorem IZ (hf:∀x y:Rat,(f x y)*(((nm x).2*(nm y).2:Int):Rat)=((F (nm x).1 (nm x).2 (nm y).1 (nm y).2:Int):Rat)) (h:vU K f vs H Q E):Iv K F vs H Q E:=by
 obtain ⟨u,v,x,y,rfl,⟨p,rfl,hp⟩,⟨q,rfl,hq⟩,⟨s1,s2⟩,⟨s3,s4⟩,k⟩:=h;refine ⟨p,q,_,_,_,_,rfl,hp,hq,kP x,kP y,s1,s2,s3,s4,λr H' s g=>k r H' s (b6.mk g ?_)⟩;exact uY (hZ (kP x) (kP y)) (hf x y)
theorem yO (x:Rat):(((nm x).1:Int):Rat)=x*(((nm x).2:Int):Rat):=by
 show (x.num:Rat)=x*(((x.den:Nat):Int):Rat)
 rw[pJ,bI]
theorem F8 (h:vU K (λx y=>x+y) vs H Q E):Iv K Ma vs H Q E:=IZ (λx y=>by
 unfold Ma;rw[lg,aM,aM,aM,yO,yO];grind) h
theorem FJ (h:vU K (λx y=>x*y) vs H Q E):Iv K Jx vs H Q E:=IZ (λx y=>by
 unfold Jx;rw[aM,aM,yO,yO];grind) h
end
def my (M:Int) (ns:List (Int×Int)):Prop:=0 < M/\Sz 2200000 M/\∀n∈ns,0 < n.2/\n.2∣M/\Sz 2200000 n.1
theorem my.bot (h:my M ns):0 < cM ns/\Sz 2200000 (cM ns):=by
 have hb:∀b∈ns.map (·.2),0 < b/\b∣M:=λb hb=>by
  obtain ⟨n,hn,rfl⟩:=ay.mp hb;exact ⟨(h.2.2 n hn).1,(h.2.2 n hn).2.1⟩
 exact ⟨yU (by decide) λb q=>(hb b q).1,Cb h.1 (ya (by decide) (Int.one_dvd _) hb) h.2.1⟩
inductive Ip (K:FG9) (vs:List V) (H:Hp) (Q:VK) (E9:XK):Prop
 | mk (p:Addr) (bs:List Int) (M:Int):vs=[.ref p]->bP K H p (bs.map V.int)->0 < M->Sz 2200000 M->((∀b∈bs,0 < b/\b∣M))->Q (.int (wu bs 1)) H->Ip K vs H Q E9
inductive Iq (K:FG9) (vs:List V) (H:Hp) (Q:VK) (E9:XK):Prop
 | mk (p:Addr) (ns:List (Int×Int)) (M:Int):vs=[.ref p]->E5 K H p ns->ns.length<=1000->my M ns->(∀H',aA H H'->Q (.int (cM ns)) H')->Iq K vs H Q E9
inductive CO (K:FG9) (vs:List V) (H:Hp) (Q:VK) (E9:XK):Prop
 | mk (p:Addr) (ns:List (Int×Int)) (M:Int) (B:Int):vs=[.ref p,.int B]->E5 K H p ns->ns.length<=1000->my M ns->0 < B->Sz 2200000 B->(∀r H',H r=none->aA H H'->H' r=some (.lst ((ck ns B).map V.int))->Q (.ref r) H')->CO K vs H Q E9
theorem yj (h:my M ns) (hB:0 < B) (sB:Sz 2200000 B) (ht:t∈ck ns B):Sz 4400000 t:=by
 obtain ⟨n,hn,rfl⟩:=ay.mp ht;have hp:=h.2.2 n hn
 have sq:Sz 2200000 (B / n.2):=sB.le (by
  rw[Ou (by lia)];exact Nat.div_le_self ..)
 exact (hp.2.2.mul sq).mono (by lia)
theorem ky (h:(nm x).2∣B):(((nm x).1*(B / (nm x).2):Int):Rat)=x*(B:Rat):=by
 obtain ⟨k,rfl⟩:=h;have hp:=kP x;rw[vR _ (by lia),aM,aM,yO];grind
theorem DF {B C:Int}:∀{xs ys:List Rat},(∀x∈xs,(nm x).2∣B)->(∀y∈ys,(nm y).2∣C)->(((List.zipWith (λx y=>x*y) (ck (xs.map nm) B) (ck (ys.map nm) C)).sum:Int):Rat)=iF xs ys*((B:Rat)*(C:Rat))
 | [],ys,_,_=>by simp [ck,iF]
 | x :: xs,[],_,_=>by simp [ck,iF]
 | x :: xs,y :: ys,h1,h2=>by
  have ih:=DF (B:=B) (C:=C) (xs:=xs) (ys:=ys) (λz hz=>h1 z (.tail _ hz)) (λz hz=>h2 z (.tail _ hz));have e1:=ky (h1 x (.head _));have e2:=ky (h2 y (.head _));have e3:(List.zipWith (λx y=>x*y) (ck ((x :: xs).map nm) B) (ck ((y :: ys).map nm) C)).sum=((nm x).1*(B / (nm x).2))*((nm y).1*(C / (nm y).2))+(List.zipWith (λx y=>x*y) (ck (xs.map nm) B) (ck (ys.map nm) C)).sum:=rfl;have e4:iF (x :: xs) (y :: ys)=x*y+iF xs ys:=rfl;rw[e3,e4,lg,aM,ih,e1,e2];grind
theorem Lf (h1:0 < cM (xs.map nm)) (h2:0 < cM (ys.map nm)):(lo (JD (xs.map nm) (ys.map nm)) (cM (xs.map nm)*cM (ys.map nm)),hi (JD (xs.map nm) (ys.map nm)) (cM (xs.map nm)*cM (ys.map nm)))=nm (iF xs ys):=by
 refine uY (hZ h1 h2) ?_;unfold JD;rw[DF (λx hx=>oS (ay.mpr ⟨x,hx,rfl⟩)) (λx hx=>oS (ay.mpr ⟨x,hx,rfl⟩)),aM]
inductive CN (K:FG9) (vs:List V) (H:Hp) (Q:VK) (E9:XK):Prop
 | mk (p:Addr) (w:Nat) (H0:Hp) (rows:LR9):vs=[.ref p,.int w]->cN K H0 H p rows->rows.length<=1000->w<=1000->(∀xs∈rows,xs.length=w)->(∀r H',H r=none->aA H H'->cN K H H' r (qe rows w)->Q (.ref r) H')->CN K vs H Q E9
inductive yn (K:FG9) (vs:List V) (H:Hp) (Q:VK) (E9:XK):Prop
 | mk (b:Addr) (w:Nat):vs=[.ref b,.int w]->fP H b->1<=w->w<=1000000->(∀r x H',Dr (max w 6) x->b6 K H' x (.ref r)->fP H' b->cz b H H'->Q (.ref r) H')->yn K vs H Q E9
inductive C5 (K:FG9) (vs:List V) (H:Hp) (Q:VK) (E9:XK):Prop
 | mk (b:Addr) (m w:Nat):vs=[.ref b,.int m,.int w]->fP H b->m<=1000->1<=w->w<=1000000->(∀r xs H',H r=none->cg K H' r xs->xs.length=m->(∀x∈xs,Dr (max w 6) x)->fP H' b->cz b H H'->Q (.ref r) H')->C5 K vs H Q E9
inductive CV (K:FG9) (vs:List V) (H:Hp) (Q:VK) (E9:XK):Prop
 | mk (p q:Addr) (xs ys:List Rat):vs=[.ref p,.ref q]->cg K H p xs->cg K H q ys->ys.length=xs.length->xs.length<=1000->(∀x∈xs,qF x)->(∀y∈ys,qF y)->(∀r H',H r=none->aA H H'->cg K H' r (List.zipWith (λx y=>x+y) xs ys)->Q (.ref r) H')->CV K vs H Q E9
inductive Ir (K:FG9) (vs:List V) (H:Hp) (Q:VK) (E9:XK):Prop
 | mk (u:V) (q:Addr) (c:Rat) (ys:List Rat):vs=[u,.ref q]->b6 K H c u->qF c->cg K H q ys->ys.length<=1000->(∀y∈ys,qF y)->(∀r H',H r=none->aA H H'->cg K H' r (ys.map λy=>c*y)->Q (.ref r) H')->Ir K vs H Q E9
inductive yp (K:FG9) (vs:List V) (H:Hp) (Q:VK) (E9:XK):Prop
 | mk (p:Addr) (H0:Hp) (rows:LR9):vs=[.ref p]->cN K H0 H p rows->rows.length<=1000->(∀xs∈rows,xs.length<=1000)->(∀r H',H r=none->aA H H'->cN K H H' r rows->Q (.ref r) H')->yp K vs H Q E9
section
variable {K:FG9} {a:Addr} {xs:List V} {g:TG} {tf:TT} {te:TE} {Q:VK} {σ₀:St} {H:Hp} {α β:Type}
theorem dH {F:Hp->α->V->Prop} (G:Hp->β->V->Prop) (f:α->β) (hx:H a=some (.lst xs)) (pf:Paired (F H) as xs) (hl:as.length<=1000)
  (hF:∀{H H' c x},F H c x->aA H H'->F H' c x) (hG:∀{H H' c x},G H c x->aA H H'->G H' c x)
  (hs:∀(i:Nat) c x H' NY NN,as[i]?=some c->aA H H'->F H' c x->(∀y H2,aA H' H2->G H2 (f c) y->NY y H2)->qg σ₀ g tf te x H' NY NN)
  (hd:∀ys H' p,H p=none->aA H H'->H' p=some (.lst ys)->Paired (G H') (as.map f) ys->(∃H2,H2 p=none/\Paired (G H2) (as.map f) ys)->Q (.ref p) H'):qA (JY K a) σ₀ g tf te Q H:=by
 have lx:=pf.length;refine fN (K:=K) (xs:=xs) (λi ys H'=>aA H H'/\Paired (G H') ((as.take i).map f) ys) (aT (bz (by lia))) ⟨aA.refl _,.nil⟩ (λi ys H' _ ⟨s,_⟩=>bP.of (s _ _ hx)) ?_ ?_
 ·rintro i x ys H' hx' hlen ⟨s,pr⟩;obtain ⟨c,ec,hc⟩:=dG pf hx';refine hs i c x H' _ _ ec s (hF hc s) λy H2 s2 gy=>⟨s.trans s2,?_⟩
  rw[take_snoc ec,cD];exact cb (Paired.imp' (λ_ _ z=>hG z s2) pr) (.cons gy .nil)
 ·rintro ys H' hy ⟨s,pr⟩ p hp;rw[aJ (by lia)] at pr;exact hd ys _ p (s.none hp) (s.trans (aA.new hp)) aE (Paired.imp' (λ_ _ z=>hG z (aA.new hp)) pr) ⟨H',hp,pr⟩
theorem j5 (G:Hp->β->V->Prop) (f:Nat->β) (hl:n<=1000) (hG:∀{H H' c x},G H c x->aA H H'->G H' c x)
  (hs:∀(i:Nat) H' NY NN,i < n->aA H H'->(∀y H2,aA H' H2->G H2 (f i) y->NY y H2)->qg σ₀ g tf te (.int i) H' NY NN)
  (hd:∀ys H' p,H p=none->aA H H'->H' p=some (.lst ys)->Paired (G H') ((List.range n).map f) ys->(∃H2,H2 p=none/\Paired (G H2) ((List.range n).map f) ys)->Q (.ref p) H'):qA (Ge 0 n) σ₀ g tf te Q H:=by
 refine uj (λi ys H'=>aA H H'/\Paired (G H') ((List.range i).map f) ys) (aT (bz (by lia))) ⟨aA.refl _,.nil⟩ ?_ ?_
 ·rintro i ys H' hi hlen ⟨s,pr⟩;rw[Gi];refine hs i H' _ _ hi s λy H2 s2 gy=>⟨s.trans s2,?_⟩
  rw[zL,cD];exact cb (Paired.imp' (λ_ _ z=>hG z s2) pr) (.cons gy .nil)
 ·rintro ys H' hy ⟨s,pr⟩ p hp;exact hd ys _ p (s.none hp) (s.trans (aA.new hp)) aE (Paired.imp' (λ_ _ z=>hG z (aA.new hp)) pr) ⟨H',hp,pr⟩
theorem AB (G:Hp->β->V->Prop) (C:β->Prop) (hB:fP H b) (hl:n<=1000) (hG:∀{H' H'' c x},G H' c x->cz b H' H''->fP H' b->G H'' c x)
  (hs:∀(i:Nat) H' NY NN,i < n->cz b H H'->fP H' b->(∀y c H2,cz b H' H2->fP H2 b->C c->G H2 c y->NY y H2)->qg σ₀ g tf te (.int i) H' NY NN)
  (hd:∀ys cs H' p,H p=none->cz b H H'->fP H' b->H' p=some (.lst ys)->cs.length=n->(∀c∈cs,C c)->Paired (G H') cs ys->(∃H2,H2 p=none/\Paired (G H2) cs ys)->Q (.ref p) H'):qA (Ge 0 n) σ₀ g tf te Q H:=by
 refine uj (λi ys H'=>cz b H H'/\fP H' b/\∃cs,cs.length=i/\(∀c∈cs,C c)/\Paired (G H') cs ys) (aT (bz (by lia))) ⟨(aA.refl _).upto,hB,[],rfl,(λ_ z=>nomatch z),.nil⟩ ?_ ?_
 ·rintro i ys H' hi hlen ⟨u,B,cs,lc,hc,pr⟩;rw[Gi];refine hs i H' _ _ hi u B λy c H2 u2 B2 cc gy=>⟨u.trans u2,B2,cs++[c],by simp [lc],ye hc cc,cb (Paired.imp' (λ_ _ z=>hG z u2 B) pr) (.cons gy .nil)⟩
 ·rintro ys H' hy ⟨u,B,cs,lc,hc,pr⟩ p hp;have s:aA H' (upd H' p (.lst ys)):=aA.new hp;exact hd ys cs _ p (u.none B hp) (u.same s) (B.same s) aE lc hc (Paired.imp' (λ_ _ z=>hG z s.upto B) pr) ⟨H',hp,pr⟩
end
section
variable {X:Cx}
theorem fh {g:TG} {tb:TS} {D:Ends} (Pv:Nat->St->Hp->Prop) (h0:Pv 0 σ H)
  (hs:∀(i:Nat) σ H,i < n->Pv i σ H->g (.int i) σ H λσ2 H2=>tb { D with nx:=Pv (i+1),ct:=Pv (i+1),bk:=D.nx } σ2 H2) (hd:∀σ H,Pv n σ H->D.nx σ H) :
  ∃W:Nat->Nat->St->Hp->Prop,(∃m,W 0 m σ H)/\∀i m σ H,W i m σ H →
   ((Ge 0 n).stop i H/\D.nx σ H)\/((Ge 0 n).go i H/\∃N:St->Hp->Prop,(∀σ' H',N σ' H'->∃m',m' < m/\W (i+1) m' σ' H')/\∀x H',(Ge 0 n).yld i H x H'->g x σ H' λσ2 H2=>tb { D with nx:=N,ct:=N,bk:=D.nx } σ2 H2) :=
 GZ (lo:=0) Pv h0 (λi σ H hi p=>by rw[Gi];exact hs i σ H hi p) hd
theorem oR:rW X (.type "int") (λxs H Q=>∃b:Bool,xs=[.bl b]/\Q (.int (if b=true then 1 else 0)) H):=by
 intro pins s σ H xs us Q I r h;obtain ⟨b,rfl,q⟩:=h;obtain ⟨u,rfl,ru⟩:=vals1 r;cases ru;exact call_int_bool ⟨.int _,H,I.tok _,⟨_,rfl⟩,q⟩
theorem IQ {st:Stmt}:PS X st (λ_ _ _=>False):=λ_ _ _ _ _ _ h=>h.elim
end
theorem EL {t b:Int} (hb:0 < b) (h1:t.natAbs<=W) (h2:b.natAbs<=W):∃q:Rat,(lo t b,hi t b)=nm q/\Dr W q/\q*(b:Rat)=(t:Rat):=by
 have hb':(b:Rat)≠0:=λz=>by have:=xH.mp z;lia
 have e:(t:Rat) / (b:Rat)*(b:Rat)=t:=iV hb';have h:=uY hb e;refine ⟨_,h,⟨?_,?_⟩,e⟩
 ·have:=congrArg Prod.fst h;have z:=lo_le (t:=t) (b:=b) (by lia);show ((nm ((t:Rat) / (b:Rat))).1).natAbs<=W
  rw[<- this];exact aj z h1
 ·have:=congrArg Prod.snd h;have z:=LY (t:=t) (b:=b) (by lia);have hd:(((t:Rat) / (b:Rat)).den:Int)=hi t b:=this.symm;have hp:=BX (t:=t) hb
  lia
theorem JU {K:FG9} (h:Paired (b6 K H) qs xs) (hj:j < qs.length):∃v,E1 xs (j:Int)=some v/\b6 K H (qs.getD j 0) v:=by
 have hl:=h.length;refine ⟨xs[j]'(by lia),gh (by simp),?_⟩;have:=jV h (i:=j) hj (by lia);rwa [ae,ao hj]
theorem Au {xs ys:List Rat} (h1:i < xs.length) (h2:i < ys.length):iF (xs.take (i+1)) (ys.take (i+1))=iF (xs.take i) (ys.take i)+xs.getD i 0*ys.getD i 0:=by
 have e1:xs[i]?=some (xs.getD i 0):=by rw[ae,ao h1];rfl
 have e2:ys[i]?=some (ys.getD i 0):=by rw[ae,ao h2];rfl
 unfold iF;rw[take_snoc e1,take_snoc e2,List.zipWith_append (by simp;lia),List.sum_append];simp [hJ]
theorem getD_mem {xs:List Rat} (h:i < xs.length):xs.getD i 0∈xs:=by
 rw[ae,ao h];exact bM h
theorem Aa {xs ys:List Rat} (h:ys.length=xs.length):List.zipWith (λx y=>x+y) xs ys=(List.range xs.length).map λi=>xs.getD i 0+ys.getD i 0:=by
 apply nK;intro i;rw[cw,aB];by_cases hi:i < xs.length
 ·rw[c8 hi,ao hi,ao (show i < ys.length by lia)];simp [ae,ao hi,ao (show i < ys.length by lia)]
 ·rw[bq (show (List.range xs.length).length<=i by simp;lia),bq (show xs.length<=i by lia)];rfl
theorem fP.at (B:fP H b):H b≠none:=by obtain ⟨_,_,_,_,_,e,_⟩:=B;rw[e];simp
theorem Inner.at (B:fP H b) (i:Inner H b q):H q≠none:=by
 obtain ⟨q',i',xs,e⟩:=B.inner;rw[<- Inner.inj i' i,e];simp
theorem jW {F:α->β->Prop} {l1:List α} {l2:List β} (h:Paired F l1 l2) (hi:i < l1.length):∃x y,l1[i]?=some x/\l2[i]?=some y/\x∈l1/\F x y:=by
 have hl:=h.length;exact ⟨l1[i],l2[i]'(by lia),by simp,by simp,bM _,jV h hi (by lia)⟩
theorem F4 (h1:-(2^64) < i) (h2:i < 2^64):gX i j:=.inl (.inl ⟨h1,h2⟩)
theorem Ll (h1:-(2^64) < j) (h2:j < 2^64):gX i j:=.inl (.inr ⟨h1,h2⟩)
def Ol (K : FG9) (l : Addr) : It :=
  ⟨λi H => ∃ xs x, bP K H l xs /\ xs[i]? = some x,
   λi H v H' => ∃ p x, v = .ref p /\ H p = none /\ H' = upd H p (.tup [.int i, x]) /\ ∀ xs, bP K H l xs → xs[i]? = some x,
   λi H => ∃ xs, bP K H l xs /\ xs.length ≤ i⟩
def tnE (e it l:Addr) (i:Nat) (h:Heap):Prop:=(∃old,IsEnum h e it i old)/\h.IsListIter it l i
theorem Gn {P:Program} {w:World} {K:FG9} {elts:List Expr} {kk:Nat} {tpos:Pos} (e it l:Addr) (hei:e≠it):Turn P w K (.Tuple elts kk tpos) (Ol K l) [e,it] e (tnE e it l) where
 mem:=by simp
 obj:=λi h st b hb=>by
  obtain ⟨⟨old,he⟩,⟨o1,g1,c1,d1⟩⟩:=st;simp only[aF,aQ,or_false] at hb;rcases hb with rfl | rfl
  ·exact ⟨_,he,λv q=>nomatch q⟩
  ·exact ⟨o1,g1,λv q=>by rw[d1] at q;cases q⟩
 keep:=λi h h' st k=>by
  obtain ⟨⟨old,he⟩,h1⟩:=st;exact ⟨⟨old,k e (by simp) _ he⟩,h1.at λo q=>k it (by simp) o q⟩
 item:=by
  intro X hP hw hK hc i pins s σ H E I hf st hg;subst hP hw hK;obtain ⟨⟨old,he⟩,h1⟩:=st;obtain ⟨xs,x,qx,ex⟩:=hg;obtain ⟨us,rx,px,_⟩:=I.list qx;obtain ⟨u,eu,ru⟩:=rx.get ex;refine wpAny_pyNext_enum_item he h1 px.isList (x:=u) (by simpa using eu) hei λh' a1 a2 a3 a4 hk=>?_
  refine ⟨_,rfl,wpAny_letOwnedTupleGo_enum a1 λh'' he'' hs=>?_⟩;have hT0:H s.heap.objs.size=none:=I.hok.fresh (au _);have ene:s.heap.objs.size≠e:=Gf (Heap.lt_size he)
  have up:∀b o,b∉[e,it]->s.heap.get? b=some o->h''.get? b=some o:=λb o hb q=>by
   simp only[aF,aQ,or_false,not_or] at hb;exact (hs.2 b hb.1).trans (hk b o hb.1 hb.2 q)
  have tup:h''.get? s.heap.objs.size=some { cls:=.type "tuple",data:=.seq #[.int i s.toks,u] }:=(hs.2 _ ene).trans a3;have I1:Inv X pins σ H { s with heap:=h'',toks:=s.toks+1 }:=I.moved (g':=s.gens) (d':=s.drawn) (t':=s.toks+1) (ch:=[e,it]) hf up I.bare;have fT:kd X pins H s.heap.objs.size:=I.fpOk (au _) hT0;have I2:=I1.track (o:=.tup [.int i,x]) fT ⟨lM rfl,[.int i s.toks,u],.cons ⟨_,rfl⟩ (.cons ru .nil),⟨_,tup,rfl,_,rfl⟩⟩;refine ⟨.ref s.heap.objs.size,_,I2,rfl,⟨_,x,rfl,hT0,rfl,λxs' q=>by rw[I.list_inj q qx];exact ex⟩,?_,λb hb=>?_⟩
  ·exact ⟨⟨_,by simpa using he''⟩,a2.at λo q=>(hs.2 _ hei.symm).trans q⟩
  ·rw[aN]
   ·exact (hf b hb).1
   ·obtain ⟨o1,g1,_⟩:=h1;simp only[aF,aQ,or_false] at hb;rcases hb with rfl | rfl
    ·exact ene.symm
    ·exact cE (Heap.lt_size g1)
 done:=by
  intro X hP hw hK hc i pins s σ H E I hf st hg;subst hP hw hK;obtain ⟨⟨old,he⟩,h1⟩:=st;obtain ⟨xs,qx,hend⟩:=hg;obtain ⟨us,rx,px,_⟩:=I.list qx;have lx:=rx.length;refine wpAny_pyNext_enum_end (I.ok.hd hc) he h1 px.isList (by simp;lia) λh' hk=>⟨rfl,?_⟩
  exact I.moved (g':=s.gens) (d':=s.drawn) (t':=s.toks) (ch:=[e,it]) hf (λb o hb q=>hk b o (λz=>hb (by simp [z])) q) I.bare
 self:=λ_ _ _ _ _ st h=>let ⟨⟨_,he⟩,_⟩:=st;wpAny_pyIter_enum he h
section
variable {X:Cx}
def Jj (K:FG9) (ta:TA):TI:=λσ H R=>ta σ H λvs H1=>∃l,vs=[.ref l]/\(∃xs,bP K H1 l xs)/\R (Ol K l) H1
theorem Bv {a:Expr} {ta:TA} {p pos tpos:Pos} {elts:List Expr} {kk:Nat} (hg:Gl X "enumerate") (hm:X.mg "enumerate"=none) (ha:PA X [a] ta) (hs:starEach [a] X.env=[(false,eval a X.env)]:=by rfl) :
  PI X (.Tuple elts kk tpos) (.Call (.Name "enumerate" p) [a] [] pos) (Jj X.K ta):=by
 intro pins s σ H R I h;refine Call_ (oq I hg hm boot_enumerate (PyProof.Rows.callWith_type1 (gN (ha pos pins s σ H _ I h) λus s1 ⟨vs,H1,I1,r1,q1⟩=>?_) (by rw[hs];rfl) rfl));obtain ⟨l,e,⟨xs,qx⟩,q⟩:=q1;subst e;obtain ⟨u,rfl,ru⟩:=vals1 r1;cases ru;obtain ⟨us,rx,px,_⟩:=I1.list qx;refine call_enumerate_list px.isList λh' a1 a2 a3 hk=>wpAny_pyIter_enum a1 ?_
 have I2:Inv X pins σ H1 { s1 with heap:=h' }:=I1.kept (t':=s1.toks) hk;refine ⟨_,[s1.heap.objs.size+1,s1.heap.objs.size],_,_,H1,rfl,I2,Gn (s1.heap.objs.size+1) s1.heap.objs.size l (Nat.succ_ne_self _),⟨⟨_,a1⟩,a2⟩,λb hb=>?_,q⟩
 have hb':s1.heap.objs.size<=b:=by
  simp only[aF,aQ,or_false] at hb;rcases hb with rfl | rfl <;> first | exact AU _ | exact au _
 exact I1.fpOk hb' (I1.hok.fresh hb')
end
theorem IH {K:FG9} (h:ta σ H λvs H1=>∃l,vs=[.ref l]/\(∃xs,bP K H1 l xs)/\R (Ol K l) H1):Jj K ta σ H R:=h
theorem DE {K:FG9} {g:TG} {tb:TS} {D:Ends} (Pv:Nat->St->Hp->Prop) (h0:Pv 0 σ H) (hl:∀i σ H,i<=xs.length->Pv i σ H->bP K H l xs)
  (hs:∀i x σ H p,xs[i]?=some x->Pv i σ H->H p=none->g (.ref p) σ (upd H p (.tup [.int i,x])) λσ2 H2=>tb { D with nx:=Pv (i+1),ct:=Pv (i+1),bk:=D.nx } σ2 H2) (hd:∀σ H,Pv xs.length σ H->D.nx σ H) :
  ∃W:Nat->Nat->St->Hp->Prop,(∃m,W 0 m σ H)/\∀i m σ H,W i m σ H →
   ((Ol K l).stop i H/\D.nx σ H)\/((Ol K l).go i H/\∃N:St->Hp->Prop,(∀σ' H',N σ' H'->∃m',m' < m/\W (i+1) m' σ' H')/\∀x H',(Ol K l).yld i H x H'->g x σ H' λσ2 H2=>tb { D with nx:=N,ct:=N,bk:=D.nx } σ2 H2):=by
 refine ⟨λi m σ H=>m=xs.length - i/\i<=xs.length/\Pv i σ H,⟨xs.length,by simp,bW _,h0⟩,?_⟩;rintro i m σ H ⟨rfl,hi,p⟩;have q1:=hl i σ H hi p;by_cases hlt:i < xs.length
 ·refine .inr ⟨⟨xs,xs[i],q1,by simp [hlt]⟩,Pv (i+1),λσ' H' p'=>⟨xs.length - (i+1),by lia,rfl,hlt,p'⟩,λx H' y=>?_⟩;obtain ⟨r,x',rfl,hr,rfl,e1⟩:=y;exact hs i x' σ _ r (e1 xs q1) p hr
 ·have e:i=xs.length:=by lia
  subst e;exact .inl ⟨⟨xs,q1,au _⟩,hd σ H p⟩
theorem Nc {K:FG9} (h:ta σ H λx H1=>∃a C dx fs v,x=.ref a/\H1 a=some (.ins C dx fs)/\HK K C/\gs K C f/\fs.lookup f=some v/\Q v H1):OP K ta f σ H Q:=h
theorem Kj {K:FG9} (h:tv σ H λy H1=>ta σ H1 λx H2=>∃a C dx fs,x=.ref a/\H2 a=some (.ins C dx fs)/\HK K C/\gs K C f/\fs.length < 1000 /\
 D.nx σ (upd H2 a (.ins C dx (aX f y fs)))):OX K ta tv f D σ H:=h
theorem Kn (h:ta σ H λx H1=>∃a dx fs,x=.ref a/\H1 a=some (.ins C dx fs)/\fs.lookup m=none /\
 t σ H1 λvs H2=>sp (x :: vs) H2 Q E):LG C m sp [] E ta t σ H Q:=by
 have e:(λ(x:V) H1=>∃a dx fs,x=.ref a/\H1 a=some (.ins C dx fs)/\fs.lookup m=none/\t σ H1 λvs H2=>sp (x :: (vs++[])) H2 Q E)=λx H1=>∃a dx fs,x=.ref a/\H1 a=some (.ins C dx fs)/\fs.lookup m=none/\t σ H1 λvs H2=>sp (x :: vs) H2 Q E:=by
  funext x H1;simp only[qH]
 show ta σ H (λ(x:V) H1=>∃a dx fs,x=.ref a/\H1 a=some (.ins C dx fs)/\fs.lookup m=none/\t σ H1 λvs H2=>sp (x :: (vs++[])) H2 Q E)
 rw[e];exact h
theorem Ko (h:t σ H λvs H1=>∀x dx,H1 x=none->H1 dx=none->dx≠x →
 sp (.ref x :: vs) (upd (upd H1 dx (.own x)) x (.ins C dx [])) (λv H2=>v=.non/\Q (.ref x) H2) E):LH C sp [] E t σ H Q:=by
 have e:(λvs (H1:Hp)=>∀x dx,H1 x=none->H1 dx=none->dx≠x->sp (.ref x :: (vs++[])) (upd (upd H1 dx (.own x)) x (.ins C dx [])) (λv H2=>v=.non/\Q (.ref x) H2) E)=λvs H1=>∀x dx,H1 x=none->H1 dx=none->dx≠x->sp (.ref x :: vs) (upd (upd H1 dx (.own x)) x (.ins C dx [])) (λv H2=>v=.non/\Q (.ref x) H2) E:=by
  funext vs H1;simp only[qH]
 show t σ H (λvs (H1:Hp)=>∀x dx,H1 x=none->H1 dx=none->dx≠x->sp (.ref x :: (vs++[])) (upd (upd H1 dx (.own x)) x (.ins C dx [])) (λv H2=>v=.non/\Q (.ref x) H2) E)
 rw[e];exact h
def Cw (x:Addr) (H H':Hp):Prop:=∀b o,H b=some o->b≠x->H' b=some o
theorem Cw.upd:Cw x H (L2.upd H x o):=λb u h n=>by rw[aN n];exact h
def tF (H:Hp) (x:Addr):Prop:=∃C dx fs,H x=some (.ins C dx fs)
section
variable {K:FG9} {H H' H0:Hp} {q:Rat} {v:V} {x p:Addr} {qs:List Rat} {rows:LR9}
theorem b6.exc (h:b6 K H q v) (e:Cw x H H') (hx:tF H x):b6 K H' q v:=by
 obtain ⟨C,dx,fs,hx⟩:=hx;obtain ⟨r,er,s⟩:=h;refine ⟨r,er,?_⟩;rcases s with (h | ⟨o,h⟩) | h
 ·exact .inl (.inl (e _ _ h λz=>by rw[z,hx] at h;cases h))
 ·exact .inl (.inr ⟨o,e _ _ h λz=>by rw[z,hx] at h;cases h⟩)
 ·exact .inr h
theorem cg.exc (h:cg K H p qs) (e:Cw x H H') (hx:tF H x):cg K H' p qs:=by
 obtain ⟨xs,g,r⟩:=h;have hx':=hx;obtain ⟨C,dx,fs,hx⟩:=hx;exact ⟨xs,e _ _ g (λz=>by rw[z,hx] at g;cases g),Paired.imp' (λ_ _ z=>z.exc e hx') r⟩
theorem iI.exc (h:iI K H0 H qs v) (e:Cw x H H') (hx:tF H x):iI K H0 H' qs v:=by obtain ⟨q,a,b,c⟩:=h;exact ⟨q,a,b,c.exc e hx⟩
theorem cN.exc (h:cN K H0 H p rows) (e:Cw x H H') (hx:tF H x):cN K H0 H' p rows:=by
 obtain ⟨xs,g,r,n⟩:=h;have hx':=hx;obtain ⟨C,dx,fs,hx⟩:=hx;exact ⟨xs,e _ _ g (λz=>by rw[z,hx] at g;cases g),Paired.imp' (λ_ _ z=>z.exc e hx') r,n⟩
end
def qh (a b c:Addr) (n i o:Nat):List (Str×V):=aX "outs" (.int o) (aX "look" (.ref c) (aX "ins" (.int i) (aX "put" (.ref b) (aX "states" (.int n) (aX "move" (.ref a) [])))))
section
variable {a b c:Addr} {n i o:Nat}
theorem Kb:(qh a b c n i o).lookup ("ins":Str)=some (.int i):=by
 unfold qh;rw[aG,if_neg (by decide +kernel),aG,if_neg (by decide +kernel),aG,if_pos rfl]
theorem Fk:(qh a b c n i o).lookup ("put":Str)=some (.ref b):=by
 unfold qh;rw[aG,if_neg (by decide +kernel),aG,if_neg (by decide +kernel),aG,if_neg (by decide +kernel),aG,if_pos rfl]
theorem yl:(qh a b c n i o).lookup ("states":Str)=some (.int n):=by
 unfold qh;rw[aG,if_neg (by decide +kernel),aG,if_neg (by decide +kernel),aG,if_neg (by decide +kernel),aG,if_neg (by decide +kernel),aG,if_pos rfl]
theorem CK:(qh a b c n i o).lookup ("move":Str)=some (.ref a):=by
 unfold qh;rw[aG,if_neg (by decide +kernel),aG,if_neg (by decide +kernel),aG,if_neg (by decide +kernel),aG,if_neg (by decide +kernel),aG,if_neg (by decide +kernel),aG,if_pos rfl]
theorem My {m:Str} (h1:¬m="outs") (h2:¬m="look") (h3:¬m="ins") (h4:¬m="put") (h5:¬m="states") (h6:¬m="move"):(qh a b c n i o).lookup m=none:=by
 unfold qh;rw[aG,if_neg h1,aG,if_neg h2,aG,if_neg h3,aG,if_neg h4,aG,if_neg h5,aG,if_neg h6];rfl
theorem Gu:(qh a b c n i o).lookup ("moved":Str)=none:=My (by decide +kernel) (by decide +kernel) (by decide +kernel) (by decide +kernel) (by decide +kernel) (by decide +kernel)
end
theorem dw {k:Str} {v:V}:∀{l:List (Str×V)},(aX k v l).length<=l.length+1
 | []=>au _
 | (x,y) :: r=>by
  unfold aX
  split
  ·simp
  ·have:=dw (k:=k) (v:=v) (l:=r);simp only[bV]
   lia
structure iH (mv pt lk:LR9):Prop where
 n8:mv.length<=8
 i4:pt.length<=4
 o4:lk.length<=4
 mw:∀xs∈mv,xs.length=mv.length
 pw:∀xs∈pt,xs.length=mv.length
 lw:∀xs∈lk,xs.length=mv.length
def AQ (mv pt lk:LR9):Prop:=∃M V:Nat,0 < M/\M<=2^800/\V<=2^400/\GF M V mv/\GF M V pt/\GF M V lk
def oz (K:FG9) (H0 H:Hp) (C p:Addr) (mv pt lk:LR9):Prop:=∃dx a b c,H p=some (.ins C dx (qh a b c mv.length pt.length lk.length))/\H0 a=none/\H0 b=none/\H0 c=none/\cN K H0 H a mv/\cN K H0 H b pt/\cN K H0 H c lk
section
variable {K:FG9} {H H' H0 H1:Hp} {C p b:Addr} {mv pt lk:LR9}
theorem oz.same (h:oz K H0 H C p mv pt lk) (e:aA H H'):oz K H0 H' C p mv pt lk:=by obtain ⟨dx,a,b,c,g,n1,n2,n3,g1,g2,g3⟩:=h;exact ⟨dx,a,b,c,e _ _ g,n1,n2,n3,g1.same e,g2.same e,g3.same e⟩
theorem oz.upto (h:oz K H0 H C p mv pt lk) (u:cz b H H') (B:fP H b) (nb:H0 b≠none):oz K H0 H' C p mv pt lk:=by
 obtain ⟨dx,a,b',c,g,n1,n2,n3,g1,g2,g3⟩:=h;refine ⟨dx,a,b',c,u.other (λz=>by obtain ⟨_,_,_,_,_,e,_⟩:=B;rw[z,e] at g;cases g) g,n1,n2,n3,g1.upto u B (λz=>nb (by rw[<- z];exact n1)) nb,g2.upto u B (λz=>nb (by rw[<- z];exact n2)) nb,g3.upto u B (λz=>nb (by rw[<- z];exact n3)) nb⟩
theorem oz.weak (h:oz K H0 H C p mv pt lk) (e:aA H1 H0):oz K H1 H C p mv pt lk:=by obtain ⟨dx,a,b,c,g,n1,n2,n3,g1,g2,g3⟩:=h;exact ⟨dx,a,b,c,g,e.none n1,e.none n2,e.none n3,g1.weak e,g2.weak e,g3.weak e⟩
theorem AQ.fits (h:AQ mv pt lk) (hl:∀x∈l,(∃xs∈mv,x∈xs)\/(∃xs∈pt,x∈xs)\/(∃xs∈lk,x∈xs)\/x=0):Fits l:=by
 obtain ⟨M,V,h0,h1,h2,h3,h4,h5⟩:=h;refine ⟨M,V,h0,aj h1 (av (by decide) (by decide)),aj h2 (av (by decide) (by decide)),λx hx=>?_⟩;rcases hl x hx with ⟨xs,a,b⟩ | ⟨xs,a,b⟩ | ⟨xs,a,b⟩ | rfl
 ·exact h3 xs a x b
 ·exact h4 xs a x b
 ·exact h5 xs a x b
 ·exact Fr.zero
end
def Gv:Sp:=λvs H Q _=>∃i:Int,vs=[.int i]/\Q (.bl true) H
def Gy (K:FG9):Sp:=λvs H Q _=>∃x n,vs=[x]/\DW K H x n/\zH n/\∀H',aA H H'->Q (.bl true) H'
inductive Fq (vs:List V) (H:Hp) (Q:VK) (E9:XK):Prop
 | mk (p:Addr) (xs:List V) (a m:Int):vs=[.ref p,.int a,.int m]->H p=some (.lst xs)->(xs.length:Int)<=m->Q .non H->Fq  vs H Q E9
inductive Fy (K:FG9) (vs:List V) (H:Hp) (Q:VK) (E9:XK):Prop
 | mk (p:Addr) (H0:Hp) (rows:LR9) (w:Nat):vs=[.ref p,.int w]->cN K H0 H p rows->rows.length<=1000->w<=1000->((∀xs∈rows,xs.length=w/\∀x∈xs,zH (nm x)))->(∀r H',H r=none->aA H H'->cN K H H' r rows->Q (.ref r) H')->Fy K vs H Q E9
def Ox (rows:LR9):Prop:=∀xs∈rows,∀x∈xs,zH (nm x)
inductive Fv (K:FG9) (C:Addr) (vs:List V) (H:Hp) (Q:VK) (E9:XK):Prop
 | mk (x dx p q r:Addr) (Hb H0 H1 H2:Hp) (mv pt lk:LR9):vs=[.ref x,.ref p,.ref q,.ref r]->Hb x=none->Hb dx=none->dx≠x->H=upd (upd Hb dx (.own x)) x (.ins C dx [])->cN K H0 Hb p mv->cN K H1 Hb q pt->cN K H2 Hb r lk->iH mv pt lk->Ox mv->Ox pt->Ox lk->(∀H',aA Hb H'->oz K Hb H' C x mv pt lk->Q .non H')->Fv K C vs H Q E9
def jX (mv pt:LR9) (st pu:List Rat):List Rat:=List.zipWith (λline col=>iF (line++col) (st++pu)) mv (qe pt mv.length)
theorem AQ.ok (h:AQ mv pt lk):Ox mv/\Ox pt/\Ox lk :=
 ⟨λxs hx x hx'=>(h.fits (l:=xs) λy hy=>.inl ⟨xs,hx,hy⟩).ok hx',λxs hx x hx'=>(h.fits (l:=xs) λy hy=>.inr (.inl ⟨xs,hx,hy⟩)).ok hx',λxs hx x hx'=>(h.fits (l:=xs) λy hy=>.inr (.inr (.inl ⟨xs,hx,hy⟩))).ok hx'⟩
def fH (K:FG9) (A:Addr->Prop) (H:Hp) (n:Nat) (C:Rat->Prop) (x:V):Prop:=∃q qs,x=V.ref q/\A q/\cg K H q qs/\qs.length=n/\∀y∈qs,C y
section
variable {K:FG9} {A A':Addr->Prop} {H H' H0:Hp} {n:Nat} {C C':Rat->Prop} {x v:V} {q b l p:Addr} {xs zs:List V} {y:Rat} {o:HO}
theorem fH.same (h:fH K A H n C x) (e:aA H H'):fH K A H' n C x:=by obtain ⟨q,qs,a,c,r,z⟩:=h;exact ⟨q,qs,a,c,r.same e,z⟩
theorem fH.upto (h:fH K A H n C x) (u:cz b H H') (B:fP H b) (nb:¬A b):fH K A H' n C x:=by obtain ⟨q,qs,a,c,r,z⟩:=h;exact ⟨q,qs,a,c,r.upto u B (λe=>nb (by rw[<- e];exact c)),z⟩
theorem fH.other (h:fH K A H n C x) (hl:H l=some (.lst zs)) (nl:¬A l):fH K A (upd H l o) n C x:=by obtain ⟨q,qs,a,c,r,z⟩:=h;exact ⟨q,qs,a,c,r.updL hl (λe=>nl (by rw[<- e];exact c)),z⟩
theorem fH.weak (h:fH K A H n C x) (w:∀q,A q->A' q) (wc:∀y,C y->C' y):fH K A' H n C' x:=by obtain ⟨q,qs,a,c,r,l,z⟩:=h;exact ⟨q,qs,a,w q c,r,l,λy hy=>wc y (z y hy)⟩
theorem yG {α β:Type} {F:α->β->Prop} {a:α} {b:β} (h:F a b):∀{l1:List α} {l2:List β} (j:Nat),Paired F l1 l2->Paired F (l1.set j a) (l2.set j b)
 | _,_,_,.nil=>.nil
 | _,_,0,.cons _ t=>.cons h t
 | _,_,j+1,.cons r t=>.cons r (yG h j t)
theorem fH.put (h:fH K A H n C x) (hq:H q=some (.lst zs)) (hv:b6 K H y v) (hc:C y) (j:Nat):fH K A (upd H q (.lst (zs.set j v))) n C x:=by
 obtain ⟨q1,qs,rfl,a,⟨zs1,g1,pr⟩,l1,c1⟩:=h;by_cases e:q1=q
 ·subst e;rw[hq] at g1;cases g1;refine ⟨q1,qs.set j y,rfl,a,⟨_,aE,yG (hv.updL hq) j (Paired.imp' (λ_ _ z=>z.updL hq) pr)⟩,by rw[jq];exact l1,λz hz=>?_⟩;rcases dD hz with hz | rfl
  ·exact c1 z hz
  ·exact hc
 ·exact ⟨q1,qs,rfl,a,⟨zs1,by rw[aN e];exact g1,Paired.imp' (λ_ _ z=>z.updL hq) pr⟩,l1,c1⟩
theorem fH.at (h:fH K A H n C x):∃q zs qs,x=V.ref q/\A q/\H q=some (.lst zs)/\zs.length=n/\Paired (b6 K H) qs zs/\qs.length=n/\∀y∈qs,C y:=by obtain ⟨q,qs,a,c,⟨zs,g,pr⟩,l,z⟩:=h;exact ⟨q,zs,qs,a,c,g,by rw[<- pr.length];exact l,pr,l,z⟩
end
theorem rK {i:Int} (h:i.natAbs<=W) (hW:1<=W):Dr W (i:Rat):=⟨h,hW⟩
def PY (K:FG9) (A:Addr->Prop) (H:Hp) (n:Nat) (C:Rat->Prop) (p:Addr) (m:Nat):Prop:=∃us,H p=some (.lst us)/\us.length=m/\¬A p/\∀x∈us,fH K A H n C x
structure DY (A:Addr->Prop) (m p l b q0:Addr):Prop where
 am:¬A m
 ap:¬A p
 al:¬A l
 ab:¬A b
 aq:¬A q0
 mb:m≠b
 pb:p≠b
 lb:l≠b
 mp:m≠p
 ml:m≠l
 mq:m≠q0
theorem FV {M:Nat} {z:Int} (h:z.natAbs<=2):Fr 1 2 (z:Rat):=Fr.int h
theorem BY {z:Int} (hz:z.natAbs<=2) (ha:Fr M W a) (hc:Fr M W c):Fr M (3*W) (a+(z:Rat)*c):=by
 have h:=(FV (M:=M) hz).mul hc;rw[AS] at h;exact (ha.add h).mono (by lia)
theorem A7 {z:Int} (h:z.natAbs<=1000):qF (z:Rat):=ET (M:=1) (V:=1000) (by decide) (tH) (aj (show 1000<=2^10 by decide) (av (by decide) (by decide))) (Fr.int h)
theorem yk {z:Int} (hz:z.natAbs<=2) (hc:Fr M W c) (h0:0 < M) (h1:M<=2^800) (hW:W<=2^140):qF ((z:Rat)*c):=by
 have h:=(FV (M:=M) hz).mul hc;rw[AS] at h;refine ET h0 (aj h1 (av (by decide) (by decide))) (aj (rX 2 hW) ?_) h;rw[show 2*2^140=2^141 by rw[nD,hX]];exact av (by decide) (by decide)
def iK (A:Addr->Prop) (b m:Addr) (H H':Hp):Prop:=∀c u,H c=some u->c≠b->¬A c->c≠m->H' c=some u
theorem iK.same (h:iK A b m H H1) (s:aA H1 H2):iK A b m H H2:=λc u e n1 n2 n3=>s _ _ (h c u e n1 n2 n3)
theorem iK.upto (h:iK A b m H H1) (s:cz b H1 H2):iK A b m H H2:=λc u e n1 n2 n3=>s.1 _ _ (h c u e n1 n2 n3) n1
theorem iK.upd (h:iK A b m H H1) (hq:A q\/q=m):iK A b m H (L2.upd H1 q o):=λc u e n1 n2 n3=>by
 rw[aN]
 ·exact h c u e n1 n2 n3
 ·rintro rfl;rcases hq with hq | hq
  ·exact n2 hq
  ·exact n3 hq
theorem iK.new (h:iK A b m H H1) (hA:∀q,H q=none->A q) (B:fP H1 b) (hm:H1 m≠none) (hr:H1 r=none):A r:=by
 by_cases z:A r
 ·exact z
 ·cases e:H r with
  | none=>exact hA r e
  | some u =>
   have:=h r u e (λy=>B.at (by rw[<- y];exact hr)) z (λy=>hm (by rw[<- y];exact hr));rw[hr] at this;cases this
structure Gd (K:FG9) (A:Addr->Prop) (n:Nat) (C:Rat->Prop) (r p b q0:Addr) (us:List V) (H0 H:Hp):Prop where
 gr:H r=some (.lst us)
 ru:∀x∈us,fH K A H n C x
 rp:fH K A H n C (.ref p)
 bag:fP H b
 inn:Inner H b q0
 up:cz b H0 H
section
variable {K:FG9} {A:Addr->Prop} {n:Nat} {C:Rat->Prop} {r p b q0:Addr} {us:List V} {H0 H H':Hp} {y:Rat} {v:V}
theorem Gd.same (h:Gd K A n C r p b q0 us H0 H) (e:aA H H'):Gd K A n C r p b q0 us H0 H':=⟨e _ _ h.gr,λx hx=>(h.ru x hx).same e,h.rp.same e,h.bag.same e,(e.upto (p:=b)).2 _ h.inn,h.up.same e⟩
theorem Gd.upto (h:Gd K A n C r p b q0 us H0 H) (u:cz b H H') (B:fP H' b) (nb:¬A b) (rb:r≠b):Gd K A n C r p b q0 us H0 H':=⟨u.other rb h.gr,λx hx=>(h.ru x hx).upto u h.bag nb,h.rp.upto u h.bag nb,B,u.2 _ h.inn,h.up.trans u⟩
theorem Gd.put (h:Gd K A n C r p b q0 us H0 H) (ap:A p) (nr:¬A r) (nb:¬A b) (nq:¬A q0) (hp:H0 p=none) (hv:b6 K H y v) (hc:C y) (j:Nat):∃zs,H p=some (.lst zs)/\zs.length=n/\Gd K A n C r p b q0 us H0 (upd H p (.lst (zs.set j v))):=by
 obtain ⟨q,zs,qs,e,a,g,l,_⟩:=h.rp.at;cases e;have ne:∀{z},¬A z->z≠p:=λh e=>h (by rw[e];exact ap)
 exact ⟨zs,g,l,by rw[aN (ne nr)];exact h.gr,λx hx=>(h.ru x hx).put g hv hc j,h.rp.put g hv hc j,h.bag.upd h.inn (ne nb).symm (ne nq).symm,h.inn.upd (ne nb).symm,h.up.after hp⟩
end
theorem yA {K:FG9} (h:∀x∈us,fH K A H n C x):∃rows:LR9,Paired (λqs x=>∃q,x=V.ref q/\A q/\cg K H q qs) rows us/\rows.length=us.length/\∀qs∈rows,qs.length=n/\∀y∈qs,C y:=by
 induction us with
 | nil=>exact ⟨[],.nil,rfl,λ_ z=>nomatch z⟩
 | cons u us ih =>
  obtain ⟨rows,pr,l,hr⟩:=ih λx hx=>h x (.tail _ hx)
  obtain ⟨q,qs,e,a,r,l1,c⟩:=h u (.head _);refine ⟨qs :: rows,.cons ⟨q,e,a,r⟩ pr,by simp [l],λzs hz=>?_⟩;rcases aF.mp hz with rfl | hz
  ·exact ⟨l1,c⟩
  ·exact hr zs hz
theorem Es {K:FG9} {rows:LR9} (pr:Paired (λqs x=>∃q,x=V.ref q/\A q/\cg K H q qs) rows us) (h:∀qs∈rows,qs.length=n/\∀y∈qs,C y):∀x∈us,fH K A H n C x:=λx hx=>by
 obtain ⟨qs,hq,q,e,a,r⟩:=c9 pr hx;exact ⟨q,qs,e,a,r,(h qs hq).1,(h qs hq).2⟩
theorem As {n:Nat}:∀{rows:LR9},(∀xs∈rows,xs.length=n)->rows.flatten.length=rows.length*n
 | [],_=>by simp
 | xs :: rows,h=>by
  rw[nJ,aD,h xs (.head _),As λys hy=>h ys (.tail _ hy),bV,nB,Gg]
theorem Kg {rows:LR9} (h:∀qs∈rows,qs.length=n/\∀y∈qs,Dr (2^c) y):∃M:Nat,0 < M/\M<=2^(c*(rows.length*n))/\∀qs∈rows,∀y∈qs,Fr M (2^c) y:=by
 have fl:rows.flatten.length=rows.length*n:=As λys hy=>(h ys hy).1
 have hm:∀a∈rows.flatten.map (·.den),0 < a/\a<=2^c:=λa ha=>by
  obtain ⟨y,hy,rfl⟩:=ay.mp ha;obtain ⟨qs,hq,hy⟩:=eY.mp hy;exact ⟨y.den_pos,((h qs hq).2 y hy).2⟩
 refine ⟨uL (rows.flatten.map (·.den)),wd λa ha=>(hm a ha).1,?_,λqs hq y hy=>?_⟩
 ·have:=yC (k:=c) (l:=rows.flatten.map (·.den)) λa ha=>(hm a ha).2
  rwa [ag,fl] at this
 ·exact (Fr.own y ((h qs hq).2 y hy).1).dvd (we (ay.mpr ⟨y,eY.mpr ⟨qs,hq,hy⟩,rfl⟩))
theorem jZ {K:FG9} (h:PY K A H n C p m) (w:∀q,A q->H0 q=none):∃rows,cN K H0 H p rows/\rows.length=m/\∀qs∈rows,qs.length=n/\∀y∈qs,C y:=by
 obtain ⟨us,g,l,a,r⟩:=h;obtain ⟨rows,pr,lr,hr⟩:=yA r;refine ⟨rows,⟨us,g,Paired.imp' (λ_ _ ⟨q,e,aq,rq⟩=>⟨q,e,w q aq,rq⟩) pr,λhm=>?_⟩,by rw[lr,l],hr⟩;obtain ⟨q,_,e,aq,_⟩:=r _ hm;cases e;exact a aq
theorem iK.trans (h:iK A b m H H1) (h':iK A b m H1 H2):iK A b m H H2:=λc u e n1 n2 n3=>h' c u (h c u e n1 n2 n3) n1 n2 n3
theorem IC {K:FG9} {rows:LR9} (pr:Paired (iI K H0 H) rows us) (h:∀qs∈rows,qs.length=n/\∀y∈qs,C y) (w:∀q,V.ref q∈us->H0 q=none->H q≠none->A q):∀x∈us,fH K A H n C x:=λx hx=>by
 obtain ⟨qs,hq,q,e,a,r⟩:=c9 pr hx;subst e;exact ⟨q,qs,rfl,w q hx a (by obtain ⟨_,g,_⟩:=r;rw[g];simp),r,(h qs hq).1,(h qs hq).2⟩
def Gw:Sp:=λvs H Q _=>∃b,vs=[.ref b]/\fP H b/\∀r (n i o w:Nat) H',H' r=some (.tup [.int n,.int i,.int o,.int w])->n<=5->i<=4->o<=4->(w=4\/w=9\/(w=1000000/\n<=2))->(n=5->i<=2/\o<=2)->fP H' b->cz b H H'->Q (.ref r) H'
def eK (K:FG9) (H0 H:Hp) (r:Addr) (mv pt lk:LR9):Prop:=∃m p l,H r=some (.tup [.ref m,.ref p,.ref l])/\H0 m=none/\H0 p=none/\H0 l=none/\cN K H0 H m mv/\cN K H0 H p pt/\cN K H0 H l lk
section
variable {K:FG9} {H H' H0 H1:Hp} {r b:Addr} {mv pt lk:LR9}
theorem eK.same (h:eK K H0 H r mv pt lk) (e:aA H H'):eK K H0 H' r mv pt lk:=by obtain ⟨m,p,l,g,n1,n2,n3,g1,g2,g3⟩:=h;exact ⟨m,p,l,e _ _ g,n1,n2,n3,g1.same e,g2.same e,g3.same e⟩
theorem eK.upto (h:eK K H0 H r mv pt lk) (u:cz b H H') (B:fP H b) (nb:H0 b≠none):eK K H0 H' r mv pt lk:=by
 obtain ⟨m,p,l,g,n1,n2,n3,g1,g2,g3⟩:=h;exact ⟨m,p,l,u.tup B g,n1,n2,n3,g1.upto u B (λz=>nb (by rw[<- z];exact n1)) nb,g2.upto u B (λz=>nb (by rw[<- z];exact n2)) nb,g3.upto u B (λz=>nb (by rw[<- z];exact n3)) nb⟩
theorem eK.weak (h:eK K H0 H r mv pt lk) (e:∀q,H0 q=none->H1 q=none):eK K H1 H r mv pt lk:=by
 obtain ⟨m,p,l,g,n1,n2,n3,⟨x1,y1,z1,w1⟩,⟨x2,y2,z2,w2⟩,⟨x3,y3,z3,w3⟩⟩:=h;exact ⟨m,p,l,g,e _ n1,e _ n2,e _ n3,⟨x1,y1,Paired.imp' (λ_ _ ⟨q,a,b,c⟩=>⟨q,a,e _ b,c⟩) z1,w1⟩,⟨x2,y2,Paired.imp' (λ_ _ ⟨q,a,b,c⟩=>⟨q,a,e _ b,c⟩) z2,w2⟩,⟨x3,y3,Paired.imp' (λ_ _ ⟨q,a,b,c⟩=>⟨q,a,e _ b,c⟩) z3,w3⟩⟩
end
inductive ym (K:FG9) (C:Addr) (vs:List V) (H:Hp) (Q:VK) (E9:XK):Prop
 | mk (r:Addr) (H0:Hp) (mv pt lk:LR9):vs=[.ref r]->eK K H0 H r mv pt lk->iH mv pt lk->AQ mv pt lk->(∀x H',H x=none->aA H H'->oz K H H' C x mv pt lk->Q (.ref x) H')->ym K C vs H Q E9
def nextK (mv pt:LR9) (st pu:List Rat) (k:Nat):List Rat:=List.zipWith (λline col=>iF (line++col.take k) (st++pu.take k)) mv (qe pt mv.length)
theorem jf {st pu:List Rat}:(nextK mv pt st pu k).length=mv.length:=by unfold nextK;rw[cA,lE];lia
theorem rY {st pu:List Rat} (h1:pt.length<=k) (h2:pu.length<=k):nextK mv pt st pu k=jX mv pt st pu:=by
 unfold nextK jX;apply nK;intro i;rw[cw,cw];cases e1:mv[i]? with
 | none=>rfl
 | some line =>
  cases e2:(qe pt mv.length)[i]? with
  | none=>rfl
  | some col =>
   have:=vS col (ak e2);show some _=some _
   rw[aJ (by lia),aJ h2]
theorem Fh (h:i < w):(qe rows w)[i]?=some (rows.map λxs=>xs.getD i 0):=by
 unfold qe;rw[aB,c8 h];rfl
theorem EF {st pu:List Rat}:nextK mv pt st pu 0=mv.map λxs=>iF xs st:=by
 unfold nextK;apply nK;intro i;rw[cw,aB];by_cases hi:i < mv.length
 ·rw[Fh hi,ao hi];simp
 ·rw[bq (by lia)];rfl
theorem yP {st pu:List Rat} (hi:i < mv.length):(nextK mv pt st pu k).getD i 0=iF (mv[i]++(pt.map λxs=>xs.getD i 0).take k) (st++pu.take k):=by
 rw[ae];unfold nextK;rw[cw,ao hi,Fh hi];rfl
theorem vf (h:as.length=xs.length):iF (as++bs) (xs++ys)=iF as xs+iF bs ys:=by
 unfold iF;rw[List.zipWith_append h,List.sum_append]
theorem EG {st pu:List Rat} (hm:∀xs∈mv,xs.length=st.length) (h1:k < pt.length) (h2:k < pu.length) (hw:(pt[k]).length=mv.length) :
  List.zipWith (λx y=>x+y) (nextK mv pt st pu k) ((pt[k]).map λy=>pu[k]*y)=nextK mv pt st pu (k+1):=by
 have l1:((pt[k]).map λy=>pu[k]*y).length=mv.length:=by rw[ag,hw]
 rw[Aa (by rw[l1,jf])];apply nK;intro i;rw[aB,jf];by_cases hi:i < mv.length
 ·have e0:(nextK mv pt st pu (k+1))[i]?=some ((nextK mv pt st pu (k+1)).getD i 0):=by
   rw[ae,ao (by rw[jf];exact hi)];rfl
  rw[c8 hi,e0,yP hi];have ll:=hm mv[i] (bM hi);have ec:(pt.map λxs=>xs.getD i 0)[k]?=some ((pt[k]).getD i 0):=by rw[aB,ao h1];rfl
  have ep:pu[k]?=some pu[k]:=ao h2
  have e3:((pt[k]).map λy=>pu[k]*y).getD i 0=pu[k]*(pt[k]).getD i 0:=by
   rw[getD_map (by rw[hw];exact hi),ae,ao (by rw[hw];exact hi)];rfl
  show some ((nextK mv pt st pu k).getD i 0+((pt[k]).map λy=>pu[k]*y).getD i 0)=some _
  rw[yP hi,e3,take_snoc ec,take_snoc ep,vf ll,vf ll,vf (by rw[dY,dY,ag];lia)];have:iF [(pt[k]).getD i 0] [pu[k]]=(pt[k]).getD i 0*pu[k]:=by simp [iF,hJ]
  rw[this];congr 1;grind
 ·rw[bq (by simpa using hi),bq (by rw[jf];lia)];rfl
theorem oz.weakN {K:FG9} (h:oz K H0 H C p mv pt lk) (e:∀q,H0 q=none->H1 q=none):oz K H1 H C p mv pt lk:=by
 obtain ⟨dx,a,b,c,g,n1,n2,n3,⟨x1,y1,z1,w1⟩,⟨x2,y2,z2,w2⟩,⟨x3,y3,z3,w3⟩⟩:=h;exact ⟨dx,a,b,c,g,e _ n1,e _ n2,e _ n3,⟨x1,y1,Paired.imp' (λ_ _ ⟨q,a,b,c⟩=>⟨q,a,e _ b,c⟩) z1,w1⟩,⟨x2,y2,Paired.imp' (λ_ _ ⟨q,a,b,c⟩=>⟨q,a,e _ b,c⟩) z2,w2⟩,⟨x3,y3,Paired.imp' (λ_ _ ⟨q,a,b,c⟩=>⟨q,a,e _ b,c⟩) z3,w3⟩⟩
theorem GR {st pu:List Rat}:(jX mv pt st pu).length=mv.length:=by unfold jX;rw[cA,lE];lia
def kQ (k j:Nat) (l:List Rat):Prop:=∃M V:Nat,0 < M/\M<=2^k/\V<=2^j/\∀x∈l,Fr M V x
theorem FU {M V:Nat} (h0:0 < M) (h1:M<=2^2000) (h2:V<=2^1950) (h:Fr M V x):qF x:=by
 obtain ⟨a,b⟩:=h.sz h0 h1 h2;exact ⟨a.mono (by decide),b.mono (by decide)⟩
section
variable {k j k' j':Nat} {l xs ys:List Rat} {x y:Rat}
theorem kQ.szn (h:kQ k j l) (hx:x∈l) (hk:k+j<=1975000:=by decide):qF x:=by
 obtain ⟨M,V,h0,h1,h2,h3⟩:=h;obtain ⟨a,b⟩:=(h3 x hx).sz h0 h1 h2;exact ⟨a.mono (by lia),b.mono (by lia)⟩
theorem kQ.rowM (h:kQ k j l) (hk:k+j<=2100000:=by decide):∃M,my M (l.map nm):=by
 obtain ⟨M,V,h0,h1,h2,h3⟩:=h;refine ⟨M,by lia,?_,λn hn=>?_⟩
 ·show ((M:Nat):Int).natAbs < 2^2200000
  rw[lI];exact bJ h1 (hR (by decide) (by lia))
 ·obtain ⟨x,hx,rfl⟩:=ay.mp hn;obtain ⟨a,_⟩:=(h3 x hx).sz h0 h1 h2;exact ⟨kP x,(h3 x hx).den,a.mono (by lia)⟩
theorem kQ.one (h:kQ k j l) (hx:x∈l):kQ k j [x]:=by
 obtain ⟨M,V,h0,h1,h2,h3⟩:=h;exact ⟨M,V,h0,h1,h2,λy hy=>by rw[bR.mp hy];exact h3 x hx⟩
theorem JB (h:kQ k j xs) (h':kQ k' j' ys) (hl:xs.length<=1000) (i:Nat) (hk:(k+k')+(j+j')<=1965000:=by decide):qF (iF (xs.take i) (ys.take i)):=by
 obtain ⟨M,V,h0,h1,h2,h3⟩:=h;obtain ⟨N,W,k0,k1,k2,k3⟩:=h'
 have e:1000*(V*W)<=2^(10+(j+j')):=by
  rw[bQ 2 10];exact a8 (by decide) (aj (a8 h2 k2) (by rw[<- bQ];exact au _))
 obtain ⟨a,b⟩:=((Fr.dot (λx hx=>h3 x (di hx)) (λy hy=>k3 y (di hy))).mono (aL _ (show (xs.take i).length<=1000 by rw[dY];lia))).sz (c7 h0 k0) (aj (a8 h1 k1) (by rw[<- bQ];exact au _)) e;exact ⟨a.mono (by lia),b.mono (by lia)⟩
theorem Jb (hx:kQ k j [x]) (hy:kQ k' j' [y]) (hk:(k+k')+(j+j')<=1965000:=by decide):qF (x*y):=by
 obtain ⟨M,V,h0,h1,h2,h3⟩:=hx;obtain ⟨N,W,k0,k1,k2,k3⟩:=hy;obtain ⟨a,b⟩:=((h3 x (.head _)).mul (k3 y (.head _))).sz (c7 h0 k0) (aj (a8 h1 k1) (by rw[<- bQ];exact au _)) (aj (a8 h2 k2) (by rw[<- bQ];exact au _));exact ⟨a.mono (by lia),b.mono (by lia)⟩
def Hw (xs ys:List Rat):Prop:=∃k j k' j':Nat,kQ k j xs/\kQ k' j' ys/\(k+k')+(j+j')<=1965000
theorem Hw.sys (h:kQ 400 120 xs) (h':kQ 900000 900000 ys):Hw xs ys:=⟨_,_,_,_,h,h',by decide⟩
end
def Lv (mv pt lk:LR9):Prop:=∃M V:Nat,0 < M/\M<=2^400/\V<=2^120/\GF M V mv/\GF M V pt/\GF M V lk
section
variable {mv pt lk:LR9}
theorem Lv.fits (h:Lv mv pt lk) (hl:∀x∈l,(∃xs∈mv,x∈xs)\/(∃xs∈pt,x∈xs)\/(∃xs∈lk,x∈xs)\/x=0):kQ 400 120 l:=by
 obtain ⟨M,V,h0,h1,h2,g1,g2,g3⟩:=h;refine ⟨M,V,h0,h1,h2,λx hx=>?_⟩;rcases hl x hx with ⟨xs,a,b⟩ | ⟨xs,a,b⟩ | ⟨xs,a,b⟩ | rfl
 ·exact g1 xs a x b
 ·exact g2 xs a x b
 ·exact g3 xs a x b
 ·exact Fr.zero
theorem Lv.sf (h:Lv mv pt lk):AQ mv pt lk:=by obtain ⟨M,V,a,b,c,d⟩:=h;exact ⟨M,V,a,aj b (av (by decide) (by decide)),aj c (av (by decide) (by decide)),d⟩
end
inductive A8 (K:FG9) (vs:List V) (H:Hp) (Q:VK) (E9:XK):Prop
 | mk (p q:Addr) (xs ys:List Rat):vs=[.ref p,.ref q]->cg K H p xs->cg K H q ys->ys.length=xs.length->xs.length<=1000->Hw xs ys->(∀r H',aA H H'->b6 K H' (iF xs ys) (.ref r)->Q (.ref r) H')->A8 K vs H Q E9
inductive Fw (K:FG9) (vs:List V) (H:Hp) (Q:VK) (E9:XK):Prop
 | mk (p q:Addr) (H0:Hp) (rows:LR9) (ys:List Rat):vs=[.ref p,.ref q]->cN K H0 H p rows->cg K H q ys->rows.length<=1000->ys.length<=1000->((∀xs∈rows,xs.length=ys.length/\Hw xs ys))->(∀r H',H r=none->aA H H'->cg K H' r (rows.map λxs=>iF xs ys)->Q (.ref r) H')->Fw K vs H Q E9
inductive Ah (K:FG9) (C:Addr) (vs:List V) (H:Hp) (Q:VK) (E9:XK):Prop
 | mk (x p q:Addr) (H0:Hp) (mv pt lk:LR9) (st pu:List Rat):vs=[.ref x,.ref p,.ref q]->oz K H0 H C x mv pt lk->iH mv pt lk->Lv mv pt lk->cg K H p st->cg K H q pu->st.length=mv.length->pu.length=pt.length->kQ 900000 900000 (st++pu)->(∀r H',H r=none->aA H H'->cg K H' r (jX mv pt st pu)->Q (.ref r) H')->Ah K C vs H Q E9
section
variable {mv pt lk pus:LR9} {st:List Rat} {k:Nat}
theorem Fg (h:GF M W rows):GF M W (qe rows w):=λys hy y hy'=>by
 obtain ⟨j,_,rfl⟩:=ay.mp hy;obtain ⟨xs,hx,rfl⟩:=ay.mp hy';rw[ae];cases e:xs[j]? with
 | none=>exact Fr.zero
 | some z=>exact h xs hx z (ak e)
end
theorem rZ {l:List Rat} (h:∀x∈l,Dr (2^c) x) (hc:c<=20):∃B:Nat,0 < B/\B<=2^(c*l.length+2)/\∀x∈l,Fr B (2^22) x:=by
 obtain ⟨M,h0,h1,h2⟩:=K5 (c:=c) (n:=l.length) (i:=0) (rows:=[]) NP rfl h hc;refine ⟨M,h0,?_,h2 l (by simp)⟩;rw[Nat.zero_add,AS] at h1;exact h1
theorem OU {i:Int} (h:i=0\/i=1):Fr 1 1 (i:Rat):=Fr.int (by rcases h with rfl | rfl <;> decide)
theorem sQ {α β:Type} {F:α->β->Prop}:∀{l1:List α} {l2:List β} (_:Paired F l1 l2) (k:Nat),Paired F (l1.drop k) (l2.drop k)
 | _,_,h,0=>h
 | _,_,.nil,_+1=>.nil
 | _,_,.cons _ r,k+1=>sQ r k
end L2
namespace L2
abbrev kG:=Nat->Rat
def BS (F:List kG->Rat) (r:Nat):List kG->List kG->Rat->Rat
 | _,[],_=>0
 | pre,v :: post,s=>s*v r*F (pre++post)+BS F r (pre++[v]) post (-s)
def uq:List Nat->List kG->Rat
 | [],[]=>1
 | [],_ :: _=>0
 | r :: rs,vs=>BS (λws=>uq rs ws) r [] vs 1
theorem Cd:uq [] (a++x :: b)=0:=by
 cases a <;> rfl
theorem BR {F:List kG->Rat} {r:Nat} {f g h:kG} {x y:Rat} (hF:∀a b,F (a++h :: b)=x*F (a++f :: b)+y*F (a++g :: b)):∀(b p q:List kG) (s:Rat),BS F r (p++h :: q) b s=x*BS F r (p++f :: q) b s+y*BS F r (p++g :: q) b s
 | [],p,q,s=>by simp only[BS,iU,hJ]
 | v :: b,p,q,s=>by
  have i1:=hF p (q++b);have i2:=BR (r:=r) hF b p (q++[v]) (-s);simp only[BS,cF,fe] at i1 i2 ⊢;rw[i1,i2];grind
theorem FL {F:List kG->Rat} {r:Nat} {f g h:kG} {x y:Rat} (hF:∀a b,F (a++h :: b)=x*F (a++f :: b)+y*F (a++g :: b)) (hr:h r=x*f r+y*g r):∀(a pre b:List kG) (s:Rat),BS F r pre (a++h :: b) s=x*BS F r pre (a++f :: b) s+y*BS F r pre (a++g :: b) s
 | [],pre,b,s=>by
  have i2:=BR (r:=r) hF b pre [] (-s);simp only[BS,cX] at i2 ⊢;rw[i2,hr];grind
 | v :: a,pre,b,s=>by
  have i1:=hF (pre++a) b;have i2:=FL hF hr a (pre++[v]) b (-s);simp only[BS,cF,fe] at i1 i2 ⊢;rw[i1,i2];grind
theorem ui {f g h:kG} {x y:Rat}:∀{rs:List Nat},(∀r∈rs,h r=x*f r+y*g r)->∀a b,uq rs (a++h :: b)=x*uq rs (a++f :: b)+y*uq rs (a++g :: b)
 | [],_,a,b=>by rw[Cd,Cd,Cd];grind
 | r :: rs,hr,a,b=>FL (λa b=>ui (λr' h'=>hr r' (.tail _ h')) a b) (hr r (.head _)) a [] b 1
theorem FY (hr:∀r∈rs,h r=0) (a b:List kG):uq rs (a++h :: b)=0:=by
 rw[ui (f:=h) (g:=h) (x:=0) (y:=0) (λr h'=>by rw[hr r h'];grind) a b];grind
theorem FN {F:List kG->Rat} {r:Nat} {x:kG} (hF:∀a b,F (a++x :: x :: b)=0):∀(b p q:List kG) (s:Rat),BS F r (p++x :: x :: q) b s=0
 | [],p,q,s=>rfl
 | v :: b,p,q,s=>by
  have i1:=hF p (q++b);have i2:=FN (r:=r) hF b p (q++[v]) (-s);simp only[BS,cF,fe] at i1 i2 ⊢;rw[i1,i2];grind
theorem FO {F:List kG->Rat} {r:Nat} {x:kG} (hF:∀a b,F (a++x :: x :: b)=0):∀(a pre b:List kG) (s:Rat),BS F r pre (a++x :: x :: b) s=0
 | [],pre,b,s=>by
  have i2:=FN (r:=r) hF b pre [] (- -s);simp only[BS,cX,cF,fe] at i2 ⊢;rw[i2];grind
 | v :: a,pre,b,s=>by
  have i1:=hF (pre++a) b;have i2:=FO (r:=r) hF a (pre++[v]) b (-s);simp only[BS,cF,fe] at i1 i2 ⊢;rw[i1,i2];grind
theorem yY {x:kG}:∀{rs:List Nat} (a b:List kG),uq rs (a++x :: x :: b)=0
 | [],a,b=>Cd
 | r :: rs,a,b=>FO (λa b=>yY a b) a [] b 1
theorem Ld (a b:List kG):uq rs (a++x :: y :: b)=- uq rs (a++y :: x :: b):=by
 have hr:∀r∈rs,(λr=>1*x r+1*y r) r=1*x r+1*y r:=λ_ _=>rfl
 have h0:=yY (x:=λr=>1*x r+1*y r) (rs:=rs) a b;have h1:=ui hr a ((λr=>1*x r+1*y r) :: b);have h2:=ui hr (a++[x]) b;have h3:=ui hr (a++[y]) b;have h4:=yY (x:=x) (rs:=rs) a b;have h5:=yY (x:=y) (rs:=rs) a b;simp only[cF,fe,cX] at h0 h1 h2 h3 h4 h5;rw[h1,h2,h3,h4,h5] at h0;grind
theorem Ce {x:kG} {rs:List Nat}:∀(b a c:List kG),uq rs (a++x :: (b++x :: c))=0
 | [],a,c=>yY a c
 | y :: b,a,c=>by
  have:=Ce (x:=x) (rs:=rs) b (a++[y]) c;simp only[cF,fe,cX] at this;rw[fe,Ld,this];rfl
def aU:Nat->(Nat->Rat)->Rat
 | 0,_=>0
 | k+1,f=>aU k f+f k
theorem aS {f g:Nat->Rat}:∀{k:Nat},(∀j,j < k->f j=g j)->aU k f=aU k g
 | 0,_=>rfl
 | k+1,h=>by
  show aU k f+f k=aU k g+g k
  rw[aS λj hj=>h j (by lia),h k (by lia)]
theorem lK {f g:Nat->Rat}:∀{k:Nat},aU k (λj=>f j+g j)=aU k f+aU k g
 | 0=>by show (0:Rat)=0+0;grind
 | k+1=>by
  show aU k (λj=>f j+g j)+_=(aU k f+f k)+(aU k g+g k)
  rw[lK];grind
theorem cJ {f:Nat->Rat} {c:Rat}:∀{k:Nat},aU k (λj=>c*f j)=c*aU k f
 | 0=>by show (0:Rat)=c*0;grind
 | k+1=>by
  show aU k (λj=>c*f j)+_=c*(aU k f+f k)
  rw[cJ];grind
theorem iq {f:Nat->Rat}:∀{k:Nat},(∀j,j < k->f j=0)->aU k f=0
 | 0,_=>rfl
 | k+1,h=>by
  show aU k f+f k=0
  rw[iq λj hj=>h j (by lia),h k (by lia)];grind
theorem kB {f:Nat->Rat} {i:Nat}:∀{k:Nat},i < k->(∀j,j < k->j≠i->f j=0)->aU k f=f i
 | k+1,hi,h=>by
  show aU k f+f k=f i
  by_cases e:i=k
  ·subst e;rw[iq λj hj=>h j (by lia) (by lia)];grind
  ·rw[kB (by lia) λj hj=>h j (by lia),h k (by lia) (λz=>e z.symm)];grind
theorem jQ {f:Nat->Nat->Rat} {m:Nat}:∀{k:Nat},aU k (λi=>aU m (f i))=aU m (λj=>aU k λi=>f i j)
 | 0=>(iq λ_ _=>rfl).symm
 | k+1=>by
  show aU k (λi=>aU m (f i))+aU m (f k)=aU m (λj=>aU k (λi=>f i j)+f k j)
  rw[jQ,lK]
theorem EX {rs:List Nat} {W:kG} {v:Nat->kG} {c:Nat->Rat} (a b:List kG):∀{k:Nat} {W:kG},(∀r∈rs,W r=aU k λj=>c j*v j r)->uq rs (a++W :: b)=aU k λj=>c j*uq rs (a++v j :: b)
 | 0,W,h=>FY h a b
 | k+1,W,h=>by
  rw[ui (f:=λr=>aU k λj=>c j*v j r) (g:=v k) (x:=1) (y:=c k) (λr hr=>by rw[h r hr];show aU k _+_=_;grind) a b,EX a b (k:=k) (W:=λr=>aU k λj=>c j*v j r) λr _=>rfl];show _=aU k _+_
  grind
end L2
namespace L2
open Nm
def HM (f:Nat->Nat):Nat->List Nat
 | 0=>[]
 | k+1=>f k :: HM f k
def ur (v:Nat->kG):Nat->List kG
 | 0=>[]
 | k+1=>v k :: ur v k
def Lh (v:Nat->kG) (i:Nat):Nat->List kG
 | 0=>[]
 | k+1=>if k<=i then [] else v k :: Lh v i k
theorem Bs {f:Nat->Nat}:∀{k:Nat},(HM f k).length=k
 | 0=>rfl
 | k+1=>by show (HM f k).length+1=_;rw[Bs]
theorem cw_len {v:Nat->kG}:∀{k:Nat},(ur v k).length=k
 | 0=>rfl
 | k+1=>by show (ur v k).length+1=_;rw[cw_len]
theorem wa {f:Nat->Nat} {r:Nat}:∀{k:Nat},r∈HM f k->∃t,t < k/\r=f t
 | k+1,h=>by
  rcases aF.mp h with h | h
  ·exact ⟨k,by lia,h⟩
  ·obtain ⟨t,a,b⟩:=wa h;exact ⟨t,by lia,b⟩
theorem cw_congr {f g:Nat->kG}:∀{k:Nat},(∀j,j < k->f j=g j)->ur f k=ur g k
 | 0,_=>rfl
 | k+1,h=>by
  show f k :: ur f k=g k :: ur g k
  rw[h k (by lia),cw_congr λj hj=>h j (by lia)]
theorem cw_mem {v:Nat->kG} {j:Nat}:∀{k:Nat},j < k->v j∈ur v k
 | k+1,h=>by
  by_cases e:j=k
  ·subst e;exact .head _
  ·exact .tail _ (cw_mem (by lia))
theorem cw_in {v:Nat->kG} {x:kG}:∀{k:Nat},x∈ur v k->∃t,t < k/\x=v t
 | k+1,h=>by
  rcases aF.mp h with h | h
  ·exact ⟨k,by lia,h⟩
  ·obtain ⟨t,a,b⟩:=cw_in h;exact ⟨t,by lia,b⟩
theorem JG {v:Nat->kG} {i j:Nat} (h1:i < j):∀{k:Nat},j < k->v j∈Lh v i k
 | k+1,h=>by
  show v j∈if k<=i then [] else v k :: Lh v i k
  rw[if_neg (by lia)];by_cases e:j=k
  ·subst e;exact .head _
  ·exact .tail _ (JG h1 (by lia))
theorem Md {v:Nat->kG} {i:Nat} {x:kG}:∀{k:Nat},x∈Lh v i k->∃t,t < k/\x=v t
 | k+1,h=>by
  have h:x∈if k<=i then [] else v k :: Lh v i k:=h
  split at h
  ·cases h
  ·rcases aF.mp h with h | h
   ·exact ⟨k,by lia,h⟩
   ·obtain ⟨t,a,b⟩:=Md h;exact ⟨t,by lia,b⟩
theorem cw_split {v:Nat->kG} {i:Nat}:∀{k:Nat},i < k->ur v k=Lh v i k++v i :: ur v i
 | k+1,h=>by
  show v k :: ur v k=(if k<=i then [] else v k :: Lh v i k)++_
  by_cases e:i=k
  ·subst e;rw[if_pos (au _)];rfl
  ·rw[if_neg (by lia),cw_split (k:=k) (i:=i) (by lia)];rfl
theorem G4 {c:Nat->Rat} (hi:i < k) (hW:∀r∈rs,W r=aU k λj=>c j*v j r):uq rs (Lh v i k++W :: ur v i)=c i*uq rs (ur v k):=by
 rw[EX (v:=v) (c:=c) (W:=W) _ _ hW,kB hi λj hj ne=>?_,cw_split hi];rcases nE j i with h | h
 ·obtain ⟨s,t,e⟩:=Ee (cw_mem (v:=v) h);rw[e,Ce];grind
 ·obtain ⟨s,t,e⟩:=Ee (JG (v:=v) (show i < j by lia) hj);have:=Ce (x:=v j) (rs:=rs) t s (ur v i);rw[e,cF,fe,this];grind
theorem NV {c:Nat->Rat} (hW:∀r∈rs,W r=aU k λj=>c j*v j r):uq rs (W :: ur v k)=0:=by
 have:=EX (v:=v) (c:=c) (W:=W) [] (ur v k) hW;rw[cX] at this;rw[this];refine iq λj hj=>?_
 obtain ⟨s,t,e⟩:=Ee (cw_mem (v:=v) hj);have:=Ce (x:=v j) (rs:=rs) s [] t;rw[cX] at this;rw[e,cX,this];grind
theorem G0 {c:Nat->Rat} (hi:i∉rs) (h1:W i=aU k (λj=>c j*v j i)+s) (hW:∀r∈rs,W r=aU k λj=>c j*v j r):uq (i :: rs) (W :: ur v k)=s*uq rs (ur v k):=by
 have e:=ui (rs:=i :: rs) (h:=W) (f:=λr=>aU k λj=>c j*v j r) (g:=λr=>if r=i then 1 else 0) (x:=1) (y:=s) (λr hr=>by
  rcases aF.mp hr with rfl | hr
  ·rw[h1,if_pos rfl];grind
  ·rw[hW r hr,if_neg (λz=>hi (by rw[<- z];exact hr))];grind) [] (ur v k)
 rw[cX,cX,cX,NV (c:=c) λr _=>rfl] at e
 have e2:uq (i :: rs) ((λr=>if r=i then (1:Rat) else 0) :: ur v k)=uq rs (ur v k):=by
  show 1*(if i=i then (1:Rat) else 0)*uq rs ([]++ur v k)+BS (λws=>uq rs ws) i ([]++[λr=>if r=i then (1:Rat) else 0]) (ur v k) (-1)=_
  have hF:∀a b,(λws=>uq rs ws) (a++(λr=>if r=i then (1:Rat) else 0) :: b)=0*(λws=>uq rs ws) (a++(λr=>if r=i then (1:Rat) else 0) :: b)+0*(λws=>uq rs ws) (a++(λr=>if r=i then (1:Rat) else 0) :: b):=λa b=>by
   have:=FY (h:=λr=>if r=i then (1:Rat) else 0) (rs:=rs) (λr hr=>if_neg λz=>hi (by rw[<- z];exact hr)) a b
   dsimp only
   rw[this];grind
  have:=BR (r:=i) hF (ur v k) [] [] (-1);rw[this,if_pos rfl,cX];grind
 rw[e2] at e;rw[e];grind
theorem LS {F:List kG->Rat} {r B W:Nat}:∀{post pre:List kG} {s:Rat},(∀ws,(∀w∈ws,w∈pre++post)->ws.length+1=(pre++post).length->Fr 1 B (F ws))->(∀w∈post,Fr 1 W (w r))->Fr 1 1 s->Fr 1 (post.length*(W*B)) (BS F r pre post s)
 | [],pre,s,_,_,_=>by show Fr 1 _ 0;exact Fr.zero
 | v :: post,pre,s,hF,hw,hs=>by
  have t1:Fr 1 (W*B) (s*v r*F (pre++post)):=by
   have:=(hs.mul (hw v (.head _))).mul (hF (pre++post) (λw h=>by
    rcases aw.mp h with h | h
    ·exact jO _ h
    ·exact bL _ (.tail _ h)) (by simp only[aD,bV];lia))
   simpa using this
  have t2:=LS (F:=F) (r:=r) (B:=B) (W:=W) (post:=post) (pre:=pre++[v]) (s:=-s) (λws h h'=>hF ws (λw hw=>by simpa using h w hw) (by simpa using h')) (λw h=>hw w (.tail _ h)) (by simpa using hs.neg);exact (t1.add t2).mono (by rw[bV,nB];lia)
theorem FZ {W N:Nat}:∀{rs:List Nat} {vs:List kG},vs.length<=N->(∀v∈vs,∀r∈rs,Fr 1 W (v r))->Fr 1 ((N*W)^rs.length) (uq rs vs)
 | [],[],_,_=>by show Fr 1 1 1;exact (Fr.int (i:=1) (by decide))
 | [],_ :: _,_,_=>by show Fr 1 _ 0;exact Fr.zero
 | r :: rs,vs,hl,h=>by
  have:=LS (F:=λws=>uq rs ws) (r:=r) (B:=(N*W)^rs.length) (W:=W) (post:=vs) (pre:=[]) (s:=1) (λws h1 h2=>FZ (by rw[cX] at h2;lia) λv hv r' hr'=>h v (by simpa using h1 v hv) r' (.tail _ hr')) (λw hw=>h w hw r (.head _)) (Fr.int (i:=1) (by decide));refine this.mono ?_;rw[bV,nD,hX ((N*W)^rs.length),ib N];exact aL _ hl
structure vQ (a:Nat->Nat->Rat) (m k:Nat) (pm p:Nat->Nat) (l:Nat->Nat->Rat) (d:Rat):Prop where
 inj:∀i j,i < m->j < m->pm i=pm j->i=j
 rng:∀i,i < m->pm i < m
 km:k<=m
 d0:d≠0
 det:d=uq (HM pm k) (ur (λj r=>a r (p j)) k)
 eqs:∀i,i < m->∀c,d*a (pm i) c=aU k (λj=>a (pm i) (p j)*l j c)+if i < k then 0 else l i c
 unit:∀i,i < m->∀j,j < k->l i (p j)=if i=j then d else 0
section
variable {a l:Nat->Nat->Rat} {m k:Nat} {pm p:Nat->Nat} {d:Rat}
theorem vQ.start (h:∀i,i < m->pm i=i):vQ a m 0 pm p a 1 where
 inj i j hi hj e:=by rw[h i hi,h j hj] at e;exact e
 rng i hi:=by rw[h i hi];exact hi
 km:=bW _
 d0:=by decide
 det:=rfl
 eqs i hi c:=by
  rw[h i hi,if_neg (by lia)];show 1*a i c=0+a i c
  grind
 unit i _ j hj:=absurd hj (by lia)
theorem vQ.coef (B:vQ a m k pm p l d) (hi:i < m):a (pm i) c=aU k (λj=>(l j c / d)*a (pm i) (p j))+if i < k then 0 else l i c / d:=by
 have h:=B.eqs i hi c;have d0:=B.d0
 have e:aU k (λj=>(l j c / d)*a (pm i) (p j))=(1 / d)*aU k (λj=>a (pm i) (p j)*l j c):=by
  rw[<- cJ];exact aS λj _=>by grind
 rw[e]
 split at h
 ·rw[if_pos (by assumption)];grind
 ·rw[if_neg (by assumption)];grind
theorem vQ.old (B:vQ a m k pm p l d) (hi:i < k):l i c=uq (HM pm k) (Lh (λj r=>a r (p j)) i k++(λr=>a r c) :: ur (λj r=>a r (p j)) i):=by
 have km:=B.km;have d0:=B.d0;rw[G4 (v:=λj r=>a r (p j)) (c:=λj=>l j c / d) hi λr hr=>?_,<- B.det]
 ·grind
 ·obtain ⟨t,ht,rfl⟩:=wa hr;have:=B.coef (i:=t) (c:=c) (by lia);rw[if_pos ht] at this;rw[this];grind
theorem vQ.new (B:vQ a m k pm p l d) (h1:k<=i) (hi:i < m):l i c=uq (pm i :: HM pm k) ((λr=>a r c) :: ur (λj r=>a r (p j)) k):=by
 have km:=B.km;have d0:=B.d0
 have hn:pm i∉HM pm k:=λhm=>by
  obtain ⟨t,ht,e⟩:=wa hm;have:=B.inj i t hi (by lia) e
  lia
 have e1:a (pm i) c=aU k (λj=>(l j c / d)*a (pm i) (p j))+l i c / d:=by
  have:=B.coef (i:=i) (c:=c) hi;rwa [if_neg (by lia)] at this
 have e2:∀r∈HM pm k,a r c=aU k (λj=>(l j c / d)*a r (p j)):=λr hr=>by
  obtain ⟨t,ht,rfl⟩:=wa hr;have:=B.coef (i:=t) (c:=c) (by lia);rw[if_pos ht] at this;rw[this];grind
 rw[G0 (v:=λj r=>a r (p j)) (c:=λj=>l j c / d) (W:=λr=>a r c) (s:=l i c / d) hn e1 e2,<- B.det];grind
theorem vQ.fr (B:vQ a m k pm p l d) (hN:k < N) (hW:1<=W) (ha:∀i,i < m->∀c,Fr 1 W (a i c)) (hi:i < m):Fr 1 ((N*W)^(k+1)) (l i c):=by
 have km:=B.km;have mono:∀t,t<=k+1->(N*W)^t<=(N*W)^(k+1):=λt ht=>av (c7 (by lia) hW) ht
 have ha':∀r∈HM pm k,∀c,Fr 1 W (a r c):=λr hr c=>by
  obtain ⟨t,ht,rfl⟩:=wa hr;exact ha _ (B.rng t (by lia)) c
 by_cases h:i < k
 ·rw[B.old h];refine (FZ (W:=W) (N:=N) ?_ ?_).mono (mono _ (by rw[Bs];lia))
  ·have:=congrArg List.length (cw_split (v:=λj r=>a r (p j)) h);rw[aD,bV,cw_len] at this;rw[aD,bV]
   lia
  ·intro v hv r hr;rcases aw.mp hv with hv | hv
   ·obtain ⟨t,_,rfl⟩:=Md hv;exact ha' r hr _
   ·rcases aF.mp hv with rfl | hv
    ·exact ha' r hr _
    ·obtain ⟨t,_,rfl⟩:=cw_in hv;exact ha' r hr _
 ·rw[B.new (by lia) hi];refine (FZ (W:=W) (N:=N) ?_ ?_).mono (mono _ (by rw[bV,Bs];lia))
  ·rw[bV,cw_len]
   lia
  ·intro v hv r hr
   have hr':∀c,Fr 1 W (a r c):=λc=>by
    rcases aF.mp hr with rfl | hr
    ·exact ha _ (B.rng i hi) c
    ·exact ha' r hr c
   rcases aF.mp hv with rfl | hv
   ·exact hr' _
   ·obtain ⟨t,_,rfl⟩:=cw_in hv;exact hr' _
theorem vQ.dfr (B:vQ a m k pm p l d) (hN:k<=N) (ha:∀i,i < m->∀c,Fr 1 W (a i c)):Fr 1 ((N*W)^k) d:=by
 have km:=B.km;rw[B.det]
 have:=FZ (W:=W) (N:=N) (rs:=HM pm k) (vs:=ur (λj r=>a r (p j)) k) (by rw[cw_len];exact hN) λv hv r hr=>by
  obtain ⟨t,ht,rfl⟩:=wa hr;obtain ⟨t',_,rfl⟩:=cw_in hv;exact ha _ (B.rng t (by lia)) _
 rwa [Bs] at this
theorem vQ.step (B:vQ a m k pm p l d) {c0:Nat} (hk:k < m) (h0:l k c0≠0):vQ a m (k+1) pm (λj=>if j=k then c0 else p j) (λi c=>if i=k then l k c else (l k c0*l i c - l i c0*l k c) / d) (l k c0) where
 inj:=B.inj
 rng:=B.rng
 km:=hk
 d0:=h0
 det:=by
  rw[B.new (au _) hk];show _=uq (pm k :: HM pm k) ((λr=>a r (if k=k then c0 else p k)) :: ur _ k)
  rw[if_pos rfl];congr 2;exact cw_congr λj hj=>by rw[if_neg (show j≠k by lia)]
 eqs i hi c:=by
  have d0:=B.d0;have e1:=B.eqs i hi c;have e2:=B.eqs i hi c0;show l k c0*a (pm i) c=(aU k _+_)+_
  have s1:aU k (λj=>a (pm i) (if j=k then c0 else p j)*(if j=k then l k c else (l k c0*l j c - l j c0*l k c) / d))=(l k c0 / d)*aU k (λj=>a (pm i) (p j)*l j c)+(- l k c / d)*aU k (λj=>a (pm i) (p j)*l j c0):=by
   rw[<- cJ,<- cJ,<- lK];refine aS λj hj=>?_
   rw[if_neg (show j≠k by lia),if_neg (show j≠k by lia)];grind
  rw[s1];simp only[if_true];generalize aU k (λj=>a (pm i) (p j)*l j c)=S1 at e1 ⊢;generalize aU k (λj=>a (pm i) (p j)*l j c0)=S2 at e2 ⊢;rcases Nat.lt_trichotomy i k with h | h | h
  ·rw[if_pos h] at e1 e2;rw[if_pos (by lia)];grind
  ·subst h;rw[if_neg (by lia)] at e1 e2;rw[if_pos (by lia)];grind
  ·rw[if_neg (by lia)] at e1 e2;rw[if_neg (by lia),if_neg (by lia)];grind
 unit i hi j hj:=by
  have d0:=B.d0;by_cases e:j=k
  ·subst e;simp only[if_true];by_cases ei:i=j
   ·rw[if_pos ei,if_pos ei]
   ·rw[if_neg ei,if_neg ei];grind
  ·have hj':j < k:=by lia
   rw[if_neg e];by_cases ei:i=k
   ·rw[if_pos ei,B.unit k hk j hj',if_neg (by lia),if_neg (by lia)]
   ·rw[if_neg ei,B.unit i hi j hj',B.unit k hk j hj',if_neg (show k≠j by lia)]
    split
    ·grind
    ·grind
end
def eP (ls:List (List Int)) (i c:Nat):Rat:=(((ls.getD i []).getD c 0:Int):Rat)
def yW (rows:LR9) (i c:Nat):Rat:=(rows.getD i []).getD c 0
def Ho (ls:List (List Int)) (k c:Nat) (b:Int):List (List Int):=(ls.map λzs=>List.zipWith (λx y=>((ls.getD k []).getD c 0*x - zs.getD c 0*y).fdiv b) zs (ls.getD k [])).set k (ls.getD k [])
section
variable {ls ls0:List (List Int)} {k t n P c:Nat} {b d:Int} {ps:List Nat}
theorem vd {α:Type} {l:List α} {x e:α} (hi:i < l.length):(l.set i x).getD j e=if j=i then x else l.getD j e:=by
 rw[ae,ae,List.getElem?_set];by_cases h:j=i
 ·subst h;rw[if_pos rfl,if_pos hi,if_pos rfl];rfl
 ·rw[if_neg (λz=>h z.symm),if_neg h]
theorem Oa:(Ho ls k c b).length=ls.length:=by unfold Ho;rw[jq,ag]
theorem getD_in {α:Type} {l:List α} {e:α} (h:i < l.length):l.getD i e∈l:=by
 rw[ae,ao h];exact bM h
theorem F5 (w:∀zs∈ls,zs.length=n) (hk:k < ls.length):∀zs∈Ho ls k c b,zs.length=n:=λzs hz=>by
 unfold Ho at hz;rcases dD hz with h | h
 ·obtain ⟨y,hy,rfl⟩:=ay.mp h;rw[cA,w y hy,w _ (getD_in hk)]
  lia
 ·rw[h];exact w _ (getD_in hk)
theorem BZ (w:∀zs∈ls,zs.length=n) (hc:n<=c):eP ls i c=0:=by
 unfold eP;by_cases h:i < ls.length
 ·have:=w _ (getD_in (e:=[]) h);rw[ae (l:=ls.getD i []),bq (by lia)];rfl
 ·rw[ae (l:=ls),bq (by lia)];rfl
theorem mU {x:Int} (h:(x:Rat)=0):x=0:=by
 have:(x:Rat)=((0:Int):Rat):=h;exact eG.mp this
theorem EV {x b:Int} (hb:b≠0) (hq:∃z:Int,q=(z:Rat)) (e:(x:Rat)=(b:Rat)*q):((x.fdiv b:Int):Rat)=q:=by
 obtain ⟨z,rfl⟩:=hq;rw[<- aM] at e;have:=eG.mp e;rw[this,Int.mul_fdiv_cancel_left _ hb]
theorem K8 (h:Fr 1 W q):∃z:Int,q=(z:Rat):=by
 obtain ⟨z,e,_⟩:=h;exact ⟨z,by rw[<- e];simp⟩
theorem Ju {z:Int} (h:Fr 1 W (z:Rat)):z.natAbs<=W:=by
 obtain ⟨y,e,b⟩:=h;have:(z:Rat)=(y:Rat):=by rw[<- e];simp
 rw[eG.mp this];simpa using b
theorem Jw (w:∀zs∈ls,zs.length=n) (hk:k < ls.length) (hb:b≠0) (hi:i < ls.length) (hz:∀c,∃z:Int,(eP ls k P*eP ls i c - eP ls i P*eP ls k c) / (b:Rat)=(z:Rat)) (c:Nat) :
  eP (Ho ls k P b) i c=if i=k then eP ls k c else (eP ls k P*eP ls i c - eP ls i P*eP ls k c) / (b:Rat):=by
 by_cases e:i=k
 ·rw[if_pos e];unfold eP Ho;rw[vd (by rw[ag];exact hk),if_pos e]
 ·rw[if_neg e];by_cases hc:c < n
  ·have hb':(b:Rat)≠0:=λz=>hb (mU z)
   have lk:=w _ (getD_in (e:=[]) hk);have li:=w _ (getD_in (e:=[]) hi)
   have e1:eP (Ho ls k P b) i c=(((((ls.getD k []).getD P 0*(ls.getD i []).getD c 0 - (ls.getD i []).getD P 0*(ls.getD k []).getD c 0).fdiv b:Int)):Rat):=by
    unfold Ho;rw[eP,vd (by rw[ag];exact hk),if_neg e];rw[ae (l:=List.map _ ls),aB,ao hi];show ((((List.zipWith _ ls[i] (ls.getD k [])).getD c 0:Int)):Rat)=_
    have ei:ls.getD i []=ls[i]:=by rw[ae,ao hi];rfl
    rw[<- ei];rw[ae (l:=List.zipWith _ _ _),cw,ae (l:=ls.getD i []) (i:=c),ae (l:=ls.getD k []) (i:=c),ao (show c < (ls.getD i []).length by lia),ao (show c < (ls.getD k []).length by lia)];rfl
   rw[e1];refine EV hb (hz c) ?_;rw[Rat.intCast_sub,aM,aM];show _=(b:Rat)*((eP ls k P*eP ls i c - eP ls i P*eP ls k c) / (b:Rat))
   show eP ls k P*eP ls i c - eP ls i P*eP ls k c=_
   grind
  ·rw[BZ (F5 w hk) (show n<=c by lia),BZ w (i:=i) (show n<=c by lia),BZ w (i:=k) (show n<=c by lia)];grind
end
section
variable {m k n P:Nat} {a l l2:Nat->Nat->Rat} {pm p p2:Nat->Nat} {d:Rat}
theorem vQ.congr (B:vQ a m k pm p l d) (hp:∀j,j < k->p2 j=p j) (hl:∀i,i < m->∀c,l2 i c=l i c):vQ a m k pm p2 l2 d where
 inj:=B.inj
 rng:=B.rng
 km:=B.km
 d0:=B.d0
 det:=by rw[B.det,cw_congr (f:=λj r=>a r (p j)) (g:=λj r=>a r (p2 j)) λj hj=>by rw[hp j hj]]
 eqs i hi c:=by
  have km:=B.km;rw[B.eqs i hi c,hl i hi c];congr 1;exact aS λj hj=>by rw[hp j hj,hl j (by lia) c]
 unit i hi j hj:=by rw[hp j hj,hl i hi];exact B.unit i hi j hj
end
def Tp (M W:Nat) (q:Rat):Prop:=∃z:Int,q*(M:Rat)=(z:Rat)/\z.natAbs<=W
theorem Tp.of {M V W:Nat} (h:Fr M V q) (hW:V*M<=W):Tp M W q:=by obtain ⟨z,a,b⟩:=h;exact ⟨z,a,aj b hW⟩
def OD (xs:List Rat):List Int:=ck (xs.map nm) (cM (xs.map nm))
theorem vA {xs:List Rat}:0 < cM (xs.map nm):=yU (by decide) λb hb=>by
 obtain ⟨n,hn,rfl⟩:=ay.mp hb;obtain ⟨x,_,rfl⟩:=ay.mp hn;exact kP x
theorem Fi:(((OD xs).getD c 0:Int):Rat)=xs.getD c 0*((cM (xs.map nm):Int):Rat):=by
 unfold OD ck;rw[ae,ae,aB,aB];cases e:xs[c]? with
 | none=>show ((0:Int):Rat)=0*_;rw[cT];rfl
 | some x=>exact ky (oS (ay.mpr ⟨x,ak e,rfl⟩))
section
variable {rows:LR9} {n w i c:Nat} {xs:List Rat}
theorem NT (hw:∀xs∈rows,xs.length=n) (hc:n<=c):yW rows i c=0:=by
 unfold yW;by_cases h:i < rows.length
 ·have:=hw _ (getD_in (e:=[]) h);rw[ae (l:=rows.getD i []),bq (by lia)];rfl
 ·rw[ae (l:=rows),bq (by lia)];rfl
theorem Ei (h:Tp M W x):(nm x).2∣(M:Int):=by
 obtain ⟨z,e,b⟩:=h
 exact Fr.den (V:=z.natAbs) (M:=M) ⟨z,e,by
  rcases Nat.eq_zero_or_pos M with h | h
  ·subst h;have:(z:Rat)=0:=by rw[<- e];simp
   rw[mU this];simp
  ·exact mi _ h⟩
theorem Ia (h:Tp M W x) (h0:0 < M) (hB:0 < B) (d1:(nm x).2∣B) (d2:B∣(M:Int)):∃t:Int,x*(B:Rat)=(t:Rat)/\t.natAbs<=W:=by
 obtain ⟨z,e,b⟩:=h;obtain ⟨s,es⟩:=d2;refine ⟨(nm x).1*(B / (nm x).2),(ky d1).symm,?_⟩
 have s0:0 < s:=by
  rcases Int.lt_trichotomy s 0 with h | h | h
  ·have:=Int.mul_neg_of_pos_of_neg hB h
   lia
  ·rw[h] at es;lia
  ·exact h
 have e2:(((nm x).1*(B / (nm x).2)*s:Int):Rat)=(z:Rat):=by
  rw[aM,ky d1,<- e,<- bI,es,aM];grind
 have e3:=eG.mp e2;have:((nm x).1*(B / (nm x).2)).natAbs*s.natAbs=z.natAbs:=by rw[<- iN,e3]
 have h1:1<=s.natAbs:=by lia
 have:=mi ((nm x).1*(B / (nm x).2)).natAbs h1
 lia
theorem Ln (h0:0 < M) (h:∀x∈xs,Tp M W x):cM (xs.map nm)∣(M:Int):=ya (by decide) (Int.one_dvd _) λb hb=>by
 obtain ⟨n,hn,rfl⟩:=ay.mp hb;obtain ⟨x,hx,rfl⟩:=ay.mp hn;exact ⟨kP x,Ei (h x hx)⟩
end
open PySem PySem.Spec PyProof.Rows
def Mi (l:Addr) (H:Hp) (zs:List Int) (v:V):Prop:=∃q,v=V.ref q/\q≠l/\H q=some (.lst (zs.map V.int))
def DZ (l:Addr) (H:Hp) (p:Addr) (ls:List (List Int)):Prop:=p≠l/\∃xs,H p=some (.lst xs)/\Paired (Mi l H) ls xs
theorem Mi.same (h:Mi l H zs v) (e:aA H H'):Mi l H' zs v:=by obtain ⟨q,a,n,b⟩:=h;exact ⟨q,a,n,e _ _ b⟩
theorem ne_old {H:Hp} (h:H l≠none) (n:H r=none):r≠l:=λz=>h (by rw[<- z];exact n)
theorem tX {α β:Type} {F:α->β->Prop}:∀{l1:List α} {l2:List β} (_:Paired F l1 l2) (i:Nat) {x:α} {y:β},F x y->Paired F (l1.set i x) (l2.set i y)
 | _,_,.nil,_,_,_,_=>.nil
 | _,_,.cons _ r,0,_,_,h=>.cons h r
 | _,_,.cons a r,i+1,_,_,h=>.cons a (tX r i h)
theorem CF {zs:List Int} (h:c < zs.length):E1 (zs.map V.int) (c:Int)=some (V.int (zs.getD c 0)):=gh (by rw[aB,ae,ao h];rfl)
inductive Aj (vs:List V) (H:Hp) (Q:VK) (E9:XK):Prop
 | mk (l p:Addr) (ls:List (List Int)) (k c n:Nat) (b:Int):vs=[.ref p,.int k,.int c,.int b]->H l≠none->DZ l H p ls->ls.length<=1000->k < ls.length->(∀zs∈ls,zs.length=n)->n<=1000->c < n->b≠0->Sz 4499500 b->(∀zs∈ls,∀z∈zs,Sz 4499500 z)->(∀r H',H r=none->aA H H'->DZ l H' r (Ho ls k c b)->Q (.ref r) H')->Aj  vs H Q E9
theorem IT (K:FG9) {X:Cx} {a b:Expr} {ta:TA} {p pos tpos:Pos} {elts:List Expr} {kk:Nat} (hg:Gl X "zip") (hm:X.mg "zip"=none) (ha:PA X [a,b] ta) (hK:X.K=K:=by rfl) (hs:starEach [a,b] X.env=[(false,eval a X.env),(false,eval b X.env)]:=by rfl) (hs2:starEach [b] X.env=[(false,eval b X.env)]:=by rfl) :
  PI X (.Tuple elts kk tpos) (.Call (.Name "zip" p) [a,b] [] pos) (NM K ta):=by subst hK;exact Bu hg hm ha hs hs2
section
variable {rows rs rs':LR9} {n P w a:Nat} {ps:List Nat}
end
theorem Mw (h:Tp M W x) (h0:0 < M) (h1:M<=2^1997500) (h2:W<=2^1997500):qF x:=by
 refine ⟨?_,?_⟩
 ·obtain ⟨s,e,b⟩:=Ia h h0 (kP x) (Int.dvd_refl _) (Ei h);have e2:(((nm x).1:Int):Rat)=(s:Rat):=by rw[<- e];exact pJ x
  rw[eG.mp e2];exact bJ (aj b h2) (hR (by decide) (by decide))
 ·have:=js h0 (xJ.mp (Ei h));show ((x.den:Nat):Int).natAbs < _
  rw[lI];exact bJ (aj this h1) (hR (by decide) (by decide))
theorem G9 {K:FG9} {g:TG} (Pv:Nat->List V->Hp->Prop) (hz:xs.length<=sizeLine) (h0:Pv 0 [] H) (hl:∀i ys H,i<=xs.length->Pv i ys H->bP K H l xs)
  (hs:∀i x ys H p,xs[i]?=some x->ys.length<=i->Pv i ys H->H p=none->qg σ₀ g tf te (.ref p) (upd H p (.tup [.int i,x])) (λy H'=>Pv (i+1) (ys++[y]) H') (λH'=>Pv (i+1) ys H'))
  (hd:∀ys H,ys.length<=xs.length->Pv xs.length ys H->∀p,H p=none->Q (.ref p) (upd H p (.lst ys))):qA (Ol K l) σ₀ g tf te Q H:=by
 refine ⟨λi m ys H=>m=xs.length - i/\i<=xs.length/\ys.length<=i/\Pv i ys H,⟨xs.length,by simp,bW _,bW _,h0⟩,?_⟩;rintro i m ys H ⟨rfl,hi,hy,p⟩;have q1:=hl i ys H hi p;by_cases hlt:i < xs.length
 ·refine .inr ⟨⟨xs,xs[i],q1,by simp [hlt]⟩,by lia,λy H'=>Pv (i+1) (ys++[y]) H',λH'=>Pv (i+1) ys H',λy H' p'=>⟨xs.length - (i+1),by lia,rfl,hlt,by rw[aD,eQ];lia,p'⟩,λH' p'=>⟨xs.length - (i+1),by lia,rfl,hlt,by lia,p'⟩,λx H' y=>?_⟩;obtain ⟨r,x',rfl,hr,rfl,e1⟩:=y;exact hs i x' ys _ r (e1 xs q1) hy p hr
 ·have e:i=xs.length:=by lia
  subst e;exact .inl ⟨⟨xs,q1,au _⟩,by lia,hd ys H hy p⟩
section
variable {R rows:LR9} {ps:List Nat} {n a j:Nat}
theorem JC:∀{xs ys:List Rat},xs.length=ys.length->iF xs ys=aU xs.length λc=>xs.getD c 0*ys.getD c 0:=by
 intro xs ys h
 have key:∀k,k<=xs.length->iF (xs.take k) (ys.take k)=aU k λc=>xs.getD c 0*ys.getD c 0:=by
  intro k
  induction k with
  | zero=>intro _;rfl
  | succ k ih =>
   intro hk;rw[Au (by lia) (by lia),ih (by lia)];rfl
 have:=key xs.length (au _);rwa [aJ (au _),aJ (by lia)] at this
end
theorem F0 {q:Rat} (h:q.den<=9):q.den∣2520:=by
 have:=q.den_pos;generalize q.den=d at h this;have:d=1\/d=2\/d=3\/d=4\/d=5\/d=6\/d=7\/d=8\/d=9:=by lia
 rcases this with rfl | rfl | rfl | rfl | rfl | rfl | rfl | rfl | rfl <;> decide
theorem JA (h:Dr 9 q) (hM:2520∣M):Fr M 9 q:=(Fr.own q h.1).dvd (OA (F0 h.2) hM)
theorem Fr.up {M V M' V':Nat} (h:Fr M V x) (hd:M∣M') (hv:V<=V'):Fr M' V' x:=(h.dvd hd).mono hv
def Ht (K:FG9) (P:Addr->Prop) (H:Hp) (xs:List Rat) (v:V):Prop:=∃q,v=.ref q/\P q/\cg K H q xs
section
variable {K:FG9} {P:Addr->Prop} {H H':Hp} {xs:List Rat} {v:V} {b l:Addr}
theorem Ht.updL (h:Ht K P H xs v) (hl:H l=some (.lst ys)) (nb:∀q,P q->q≠l):Ht K P (upd H l o) xs v:=by obtain ⟨q,a,c,d⟩:=h;exact ⟨q,a,c,d.updL hl (nb q c)⟩
theorem cN.ofE {rows:LR9} (g:H l=some (.lst us)) (h:Paired (Ht K P H) rows us) (h0:∀q,P q->H0 q=none) (hn:∀q,P q->q≠l):cN K H0 H l rows :=
 ⟨us,g,Paired.imp' (λ_ _ ⟨q,a,c,d⟩=>⟨q,a,h0 q c,d⟩) h,λz=>by
  obtain ⟨_,_,q,e,c,_⟩:=c9 h z;cases e;exact hn _ c rfl⟩
end
theorem mM {α β:Type} {F G:α->β->Prop}:∀{l1:List α} {l2:List β},(∀a b,b∈l2->F a b->G a b)->Paired F l1 l2->Paired G l1 l2
 | _,_,_,.nil=>.nil
 | _,_,h,.cons a r=>.cons (h _ _ (by simp) a) (mM (λx y hy=>h x y (by simp [hy])) r)
section
variable {rows rows' R R':LR9} {n w W:Nat} {ps ps':List Nat}
end
section
variable {mv pt R R' S X Y:LR9} {n t m i c:Nat} {ps ps':List Nat} {a:Nat->Nat->Rat}
def Oj (mv pt:LR9) (a c:Nat):Prop:=∃M V:Nat,0 < M/\M<=2^a/\(mv.length+1)*V<=2^c/\GF M V mv/\GF M V pt/\a<=400/\c<=40/\mv.length*(mv.length*(a+c)+4)<=1740/\mv.length*(mv.length*(mv.length*(a+c)+4)+a+c+4)<=4450000
end
theorem cN.toE {K:FG9} (h:cN K H0 H l rows):∃us,H l=some (.lst us)/\Paired (Ht K (λq=>H0 q=none/\q≠l) H) rows us:=by
 obtain ⟨us,g,pr,nn⟩:=h;exact ⟨us,g,mM (λxs v hv ⟨q,e,a,b⟩=>⟨q,e,⟨a,λz=>nn (by rw[<- z,<- e];exact hv)⟩,b⟩) pr⟩
theorem Ao {α:Type} {v:α}:∀{l:List α},l.Nodup->v∉l->∀j,(l.set j v).Nodup
 | [],_,_,_=>jN
 | a :: l,h,hn,0=>by
  rw[dr] at h;rw[List.set_cons_zero,dr];exact ⟨λz=>hn (.tail _ z),h.2⟩
 | a :: l,h,hn,j+1=>by
  rw[dr] at h;rw[List.set_cons_succ,dr];refine ⟨λz=>?_,Ao h.2 (λz=>hn (.tail _ z)) j⟩;rcases dD z with z | z
  ·exact h.1 z
  ·exact hn (by rw[z];exact .head _)
structure jK (K:FG9) (A:Addr->Prop) (H:Hp) (n:Nat) (C:V->Rat->Prop) (m p l b q0:Addr) (us ws vs:List V):Prop where
 bag:fP H b
 inn:Inner H b q0
 gm:H m=some (.lst us)
 gp:H p=some (.lst ws)
 gl:H l=some (.lst vs)
 lm:us.length=n
 row:∀x∈us++vs++ws,fH K A H n (C x) x
 nd:(us++vs++ws).Nodup
section
variable {K:FG9} {A:Addr->Prop} {H H':Hp} {n:Nat} {C C':V->Rat->Prop} {m p l b q0 q:Addr} {us ws vs zs:List V} {y:Rat} {v:V}
theorem jK.same (h:jK K A H n C m p l b q0 us ws vs) (e:aA H H'):jK K A H' n C m p l b q0 us ws vs :=
 ⟨h.bag.same e,(e.upto (p:=b)).2 _ h.inn,e _ _ h.gm,e _ _ h.gp,e _ _ h.gl,h.lm,λx hx=>(h.row x hx).same e,h.nd⟩
theorem jK.upto (h:jK K A H n C m p l b q0 us ws vs) (M:DY A m p l b q0) (u:cz b H H') (B':fP H' b):jK K A H' n C m p l b q0 us ws vs :=
 ⟨B',u.2 _ h.inn,u.other M.mb h.gm,u.other M.pb h.gp,u.other M.lb h.gl,h.lm,λx hx=>(h.row x hx).upto u h.bag M.ab,h.nd⟩
theorem jK.weak (h:jK K A H n C m p l b q0 us ws vs) (w:∀x∈us++vs++ws,∀y,C x y->C' x y):jK K A H n C' m p l b q0 us ws vs :=
 ⟨h.bag,h.inn,h.gm,h.gp,h.gl,h.lm,λx hx=>(h.row x hx).weak (λ_ z=>z) (w x hx),h.nd⟩
theorem jK.put (h:jK K A H n C m p l b q0 us ws vs) (M:DY A m p l b q0) (aq:A q) (hq:H q=some (.lst zs)) (hv:b6 K H y v) (hc:C (.ref q) y) (j:Nat):jK K A (upd H q (.lst (zs.set j v))) n C m p l b q0 us ws vs:=by
 have ne:∀{z},¬A z->z≠q:=λh e=>h (by rw[e];exact aq)
 refine ⟨h.bag.upd h.inn (ne M.ab).symm (ne M.aq).symm,h.inn.upd (ne M.ab).symm,by rw[aN (ne M.am)];exact h.gm,by rw[aN (ne M.ap)];exact h.gp,by rw[aN (ne M.al)];exact h.gl,h.lm,λx hx=>?_,h.nd⟩;by_cases e:x=.ref q
 ·subst e;exact (h.row _ hx).put hq hv hc j
 ·obtain ⟨q1,qs,rfl,a1,r1,l1,c1⟩:=h.row x hx;exact ⟨q1,qs,rfl,a1,r1.updL hq (λz=>e (by rw[z])),l1,c1⟩
theorem jK.set (h:jK K A H n C m p l b q0 us ws vs) (M:DY A m p l b q0) (hx:fH K A H n (C v) v) (hn:v∉us++vs++ws) (j:Nat):jK K A (upd H m (.lst (us.set j v))) n C m p l b q0 (us.set j v) ws vs:=by
 have mem:∀x∈us.set j v++vs++ws,x=v\/x∈us++vs++ws:=λx hx=>by
  rcases aw.mp hx with hx | hx
  ·rcases aw.mp hx with hx | hx
   ·rcases dD hx with hx | hx
    ·exact .inr (by simp [hx])
    ·exact .inl hx
   ·exact .inr (by simp [hx])
  ·exact .inr (by simp [hx])
 refine ⟨h.bag.upd h.inn M.mb M.mq,h.inn.upd M.mb,aE,by rw[aN M.mp.symm];exact h.gp,by rw[aN M.ml.symm];exact h.gl,by rw[jq];exact h.lm,λx hx'=>?_,?_⟩
 ·rcases mem x hx' with rfl | hx'
  ·exact hx.other h.gm M.am
  ·exact (h.row x hx').other h.gm M.am
 ·have nd:=h.nd;rw[cF] at nd hn ⊢;obtain ⟨n1,n2,n3⟩:=dd.mp nd;refine dd.mpr ⟨?_,n2,λa ha c hc=>?_⟩
  ·rcases nE j us.length with z | z
   ·exact Ao n1 (λz'=>hn (aw.mpr (.inl z'))) j
   ·rw[List.set_eq_of_length_le z];exact n1
  ·rcases dD ha with ha | rfl
   ·exact n3 a ha c hc
   ·exact λz=>hn (aw.mpr (.inr (by rw[z];exact hc)))
end
theorem FX (h0:0 < M) (h1:M<=2^800) (hW:W<=2^140) (h:Fr M W x):qF x :=
 ET h0 (aj h1 (av (by decide) (by decide))) (aj hW (av (by decide) (by decide))) h
theorem KN {t V c:Nat} (ht:t<=3) (hV:V<=2^20) (hc:c<=9):c*(9^t*V)<=2^140:=by
 have h1:9^t<=9^3:=av (by decide) ht;have h2:c*(9^t*V)<=9*(9^3*2^20):=a8 hc (a8 h1 hV);exact aj h2 (aj (show 9*(9^3*2^20)<=2^40 by decide) (av (by decide) (by decide)))
theorem pK {α:Type} {l:List α} {v:α} (h:l.Nodup) (hn:v∉l):(l++[v]).Nodup:=dd.mpr ⟨h,by simp,λa ha c hc=>by rw[bR.mp hc];exact λz=>hn (by rw[<- z];exact ha)⟩
section
variable {K:FG9} {a:Addr} {xs:List V} {g:TG} {tf:TT} {te:TE} {Q:VK} {σ₀:St} {H:Hp} {α β:Type}
theorem AD (G:Hp->β->V->Prop) (C:β->Prop) (hB:fP H b) (hl:n<=1000) (hG:∀{H' H'' c x},G H' c x->cz b H' H''->fP H' b->G H'' c x)
  (hA:∀{H' c x},G H' c x->∃q,x=V.ref q/\H' q≠none)
  (hs:∀(i:Nat) H' NY NN,i < n->cz b H H'->fP H' b->(∀y c H2,cz b H' H2->fP H2 b->C c->G H2 c y->(∃q,y=V.ref q/\H' q=none)->NY y H2)->qg σ₀ g tf te (.int i) H' NY NN)
  (hd:∀ys cs H' p,H p=none->cz b H H'->fP H' b->H' p=some (.lst ys)->cs.length=n->ys.Nodup->(∀c∈cs,C c)->Paired (G H') cs ys->(∃H2,H2 p=none/\Paired (G H2) cs ys)->Q (.ref p) H'):qA (Ge 0 n) σ₀ g tf te Q H:=by
 refine uj (λi ys H'=>cz b H H'/\fP H' b/\∃cs,cs.length=i/\ys.Nodup/\(∀c∈cs,C c)/\Paired (G H') cs ys) (aT (bz (by lia))) ⟨(aA.refl _).upto,hB,[],rfl,jN,(λ_ z=>nomatch z),.nil⟩ ?_ ?_
 ·rintro i ys H' hi hlen ⟨u,B,cs,lc,nd,hc,pr⟩;rw[Gi];refine hs i H' _ _ hi u B λy c H2 u2 B2 cc gy ⟨q,ey,nq⟩=>⟨u.trans u2,B2,cs++[c],by simp [lc],pK nd (λz=>by obtain ⟨c',_,gc⟩:=c9 pr z;obtain ⟨q',e',h'⟩:=hA gc;rw[ey] at e';cases e';exact h' nq),ye hc cc,cb (Paired.imp' (λ_ _ z=>hG z u2 B) pr) (.cons gy .nil)⟩
 ·rintro ys H' hy ⟨u,B,cs,lc,nd,hc,pr⟩ p hp;have s:aA H' (upd H' p (.lst ys)):=aA.new hp;exact hd ys cs _ p (u.none B hp) (u.same s) (B.same s) aE lc nd hc (Paired.imp' (λ_ _ z=>hG z s.upto B) pr) ⟨H',hp,pr⟩
end
structure E6 (K:FG9) (A:Addr->Prop) (n:Nat) (C:Rat->Prop) (m p l b q0:Addr) (us ws vs:List V) (H0 H:Hp):Prop where
 mix:jK K A H n (λ_=>C) m p l b q0 us ws vs
 gp:H p=some (.lst ws)
 gl:H l=some (.lst vs)
 kp:iK A b m H0 H
section
variable {K:FG9} {A:Addr->Prop} {n:Nat} {C:Rat->Prop} {m p l b q0 q:Addr} {us ws vs:List V} {H0 H H':Hp} {y:Rat} {v:V}
theorem E6.same (h:E6 K A n C m p l b q0 us ws vs H0 H) (e:aA H H'):E6 K A n C m p l b q0 us ws vs H0 H':=⟨h.mix.same e,e _ _ h.gp,e _ _ h.gl,h.kp.same e⟩
theorem E6.upto (h:E6 K A n C m p l b q0 us ws vs H0 H) (M:DY A m p l b q0) (u:cz b H H') (B:fP H' b):E6 K A n C m p l b q0 us ws vs H0 H':=⟨h.mix.upto M u B,u.other M.pb h.gp,u.other M.lb h.gl,h.kp.upto u⟩
theorem E6.row (h:E6 K A n C m p l b q0 us ws vs H0 H) (hx:x∈ws\/x∈vs):fH K A H n C x:=h.mix.row x (by rcases hx with hx | hx <;> simp [hx])
theorem E6.put (h:E6 K A n C m p l b q0 us ws vs H0 H) (M:DY A m p l b q0) (hx:V.ref q∈ws\/V.ref q∈vs) (hv:b6 K H y v) (hc:C y) (j:Nat):∃zs,H q=some (.lst zs)/\zs.length=n/\E6 K A n C m p l b q0 us ws vs H0 (upd H q (.lst (zs.set j v))):=by
 obtain ⟨q',zs,qs,e,a,g,lz,_⟩:=(h.row hx).at;cases e;have ne:∀{z},¬A z->z≠q:=λh e=>h (by rw[e];exact a)
 exact ⟨zs,g,lz,h.mix.put M a g hv hc j,by rw[aN (ne M.ap)];exact h.gp,by rw[aN (ne M.al)];exact h.gl,h.kp.upd (.inl a)⟩
end
inductive CZ (K:FG9) (vs:List V) (H:Hp) (Q:VK) (E9:XK):Prop
 | mk (b:Addr) (n w:Nat) (way first:Int):vs=[.ref b,.int n,.int way,.int first,.int w]->fP H b->n<=8->1<=w->w<=1000000->(∀r us H',H r=none->H' r=some (.lst us)->us.length=n->us.Nodup->(∀x∈us,fH K (λq=>H q=none/\q≠r) H' n (Dr (max w 6)) x)->fP H' b->cz b H H'->Q (.ref r) H')->CZ K vs H Q E9
def PtF (n i o w c:Nat) (mv pt lk:LR9):Prop:=∃M V1:Nat,0 < M/\GF M V1 mv/\GF M V1 pt/\GF M V1 lk/\((w<=9/\M=2520/\V1=9^3*9)\/(9 < w/\M<=2^(c*((n+i+o)*n))/\V1=9^3*2^c))
inductive C0 (K:FG9) (vs:List V) (H:Hp) (Q:VK) (E9:XK):Prop
 | mk (b:Addr) (n:Nat):vs=[.ref b,.int n]->fP H b->1<=n->n<=8->(∀r mv pt lk H',eK K H H' r mv pt lk->mv.length=n->pt.length=1->lk.length=1->iH mv pt lk->GF 1 1 mv->GF 1 1 pt->GF 1 1 lk->fP H' b->cz b H H'->Q (.ref r) H')->C0 K vs H Q E9
theorem yb (M0:0 < M) (hM:M<=2^a) (hn:mv.length<=n0) (hV:(n0+1)*V1<=2^c) (fm:GF M V1 mv) (fp:GF M V1 pt) (h4:a<=400/\c<=40/\n0*(n0*(a+c)+4)<=1740/\n0*(n0*(n0*(a+c)+4)+a+c+4)<=4450000):Oj mv pt a c:=by
 obtain ⟨h1,h2,h3,h5⟩:=h4;have e1:mv.length*(a+c)<=n0*(a+c):=aL _ hn;have e2:mv.length*(mv.length*(a+c)+4)<=n0*(n0*(a+c)+4):=a8 hn (by lia);have e3:mv.length*(mv.length*(mv.length*(a+c)+4)+a+c+4)<=n0*(n0*(n0*(a+c)+4)+a+c+4):=a8 hn (by lia);exact ⟨M,V1,M0,hM,aj (aL _ (by lia)) hV,fm,fp,h1,h2,by lia,by lia⟩
def Kc (K:FG9):Sp:=λvs H Q _=>∃b:Addr,vs=[.ref b]/\fP H b /\
 ∀r mv pt lk H',eK K H H' r mv pt lk->6<=mv.length->iH mv pt lk->GF 1 (9^3) mv->GF 1 (9^3) pt->GF 1 (9^3) lk->fP H' b->cz b H H'->Q (.ref r) H'
section
variable {rows fs ls:LR9} {n r M W Wv Wb k P:Nat} {Pm Y Z B E a:Nat->Nat->Rat} {d:Rat} {ps:List Nat} {rs:LR9}
end
section
variable {K:FG9} {a:Addr} {xs:List V} {g:TG} {tf:TT} {te:TE} {Q:VK} {σ₀:St} {H:Hp} {α β:Type}
theorem Az {F:Hp->α->V->Prop} (G:Hp->β->V->Prop) (f:α->β) (hx:H a=some (.lst xs)) (pf:Paired (F H) as xs) (hl:as.length<=1000)
  (hF:∀{H H' c x},F H c x->aA H H'->F H' c x) (hG:∀{H H' c x},G H c x->aA H H'->G H' c x) (hA:∀{H' c x},G H' c x->∃q,x=V.ref q/\H' q≠none)
  (hs:∀(i:Nat) c x H' NY NN,as[i]?=some c->aA H H'->F H' c x->(∀y H2,aA H' H2->G H2 (f c) y->(∃q,y=V.ref q/\H' q=none)->NY y H2)->qg σ₀ g tf te x H' NY NN)
  (hd:∀ys H' p,H p=none->aA H H'->H' p=some (.lst ys)->ys.Nodup->(∀y∈ys,∃q,y=V.ref q/\H q=none/\q≠p)->Paired (G H') (as.map f) ys->Q (.ref p) H'):qA (JY K a) σ₀ g tf te Q H:=by
 have lx:=pf.length;refine fN (K:=K) (xs:=xs) (λi ys H'=>aA H H'/\ys.Nodup/\(∀y∈ys,∃q,y=V.ref q/\H q=none)/\Paired (G H') ((as.take i).map f) ys) (aT (bz (by lia))) ⟨aA.refl _,jN,(λ_ z=>nomatch z),.nil⟩ (λi ys H' _ ⟨s,_⟩=>bP.of (s _ _ hx)) ?_ ?_
 ·rintro i x ys H' hx' hlen ⟨s,nd,hn,pr⟩;obtain ⟨c,ec,hc⟩:=dG pf hx';refine hs i c x H' _ _ ec s (hF hc s) λy H2 s2 gy ⟨q,ey,nq⟩=>⟨s.trans s2,pK nd (λz=>?_),ye hn ⟨q,ey,s.none nq⟩,?_⟩
  ·obtain ⟨c',_,gc⟩:=c9 pr z;obtain ⟨q',e',h'⟩:=hA gc;rw[ey] at e';cases e';exact h' nq
  ·rw[take_snoc ec,cD];exact cb (Paired.imp' (λ_ _ z=>hG z s2) pr) (.cons gy .nil)
 ·rintro ys H' hy ⟨s,nd,hn,pr⟩ p hp;rw[aJ (by lia)] at pr;refine hd ys _ p (s.none hp) (s.trans (aA.new hp)) aE nd (λy hy=>?_) (Paired.imp' (λ_ _ z=>hG z (aA.new hp)) pr);obtain ⟨q,e,nq⟩:=hn y hy;refine ⟨q,e,nq,λz=>?_⟩;obtain ⟨c',_,gc⟩:=c9 pr hy;obtain ⟨q',e',h'⟩:=hA gc;rw[e] at e';cases e';exact h' (by rw[z];exact hp)
end
structure Qh (K:FG9) (H0 H:Hp) (n:Nat) (fd:Addr) (L:List (Addr×List V)):Prop where
 gf:H fd=some (.lst (L.map λe=>V.ref e.1))
 nf:H0 fd=none
 ls:∀e∈L,H0 e.1=none/\e.1≠fd/\H e.1=some (.lst e.2)
 nd:(L.map λe=>e.1).Nodup
 rows:∀e∈L,∀x∈e.2,fH K (λq=>(H0 q=none/\q≠fd)/\q∉L.map λe=>e.1) H n (Fr 1 1) x
 rd:(L.flatMap λe=>e.2).Nodup
section
variable {K:FG9} {H0 H H1:Hp} {n:Nat} {fd q:Addr} {L:List (Addr×List V)} {us:List V}
theorem Qh.snoc (h:Qh K H0 H n fd L) (s0:aA H0 H) (s:aA H H1) (hq:H q=none) (gq:H1 q=some (.lst us)) (nd:us.Nodup) (hr:∀x∈us,fH K (λz=>H z=none/\z≠q) H1 n (Fr 1 1) x):Qh K H0 (upd H1 fd (.lst ((L.map λe=>V.ref e.1)++[.ref q]))) n fd (L++[(q,us)]):=by
 have qf:q≠fd:=λz=>by rw[z,h.gf] at hq;cases hq
 have old:∀{z},z∈(L.map λe=>e.1)->H z≠none:=λhz=>by
  obtain ⟨e,he,rfl⟩:=ay.mp hz;rw[(h.ls e he).2.2];exact λz=>nomatch z
 have g1:=s _ _ h.gf;refine ⟨by rw[aE,cD];rfl,h.nf,λe he=>?_,?_,λe he x hx=>?_,?_⟩
 ·rcases aw.mp he with he | he
  ·obtain ⟨a,b,c⟩:=h.ls e he;exact ⟨a,b,by rw[aN b];exact s _ _ c⟩
  ·rw[bR.mp he];exact ⟨s0.none hq,qf,by rw[aN qf];exact gq⟩
 ·rw[cD];exact pK h.nd λz=>old z hq
 ·have key:fH K (λz=>(H0 z=none/\z≠fd)/\z∉(L++[(q,us)]).map λe=>e.1) H1 n (Fr 1 1) x:=by
   rcases aw.mp he with he | he
   ·obtain ⟨z,qs,e1,⟨e2,e3⟩,e4,e5⟩:=h.rows e he x hx;refine ⟨z,qs,e1,⟨e2,λhz=>?_⟩,e4.same s,e5⟩;rw[cD] at hz;rcases aw.mp hz with hz | hz
    ·exact e3 hz
    ·have hz:z=q:=bR.mp hz;obtain ⟨_,gg,_⟩:=e4;rw[hz,hq] at gg;cases gg
   ·rw[bR.mp he] at hx;refine (hr x hx).weak (λz hz=>⟨⟨s0.none hz.1,λy=>by rw[y] at hz;rw[h.gf] at hz;exact absurd hz.1 (λw=>nomatch w)⟩,λy=>?_⟩) (λ_ w=>w);rw[cD] at y;rcases aw.mp y with y | y
    ·exact old y hz.1
    ·exact hz.2 (bR.mp y)
  exact key.other g1 (λz=>z.1.2 rfl)
 ·rw[List.flatMap_append];refine dd.mpr ⟨h.rd,by simpa using nd,λx hx y hy z=>?_⟩;obtain ⟨e,he,hx⟩:=List.mem_flatMap.mp hx;obtain ⟨w,qs,e1,_,⟨_,gg,_⟩,_⟩:=h.rows e he x hx;obtain ⟨w',_,e1',⟨hw,_⟩,_⟩:=hr y (by simpa using hy);rw[<- z,e1] at e1';cases e1';rw[hw] at gg;cases gg
end
structure PR (mv pt:LR9) (st pu:List Rat):Prop where
 f2:∀xs∈mv,Hw xs st
 part:∀kk,∀x∈nextK mv pt st pu kk,qF x
 su:∀u∈pu,qF u
 sp:∀row∈pt,∀y∈row,qF y
 mul:∀u∈pu,∀row∈pt,∀y∈row,qF (u*y)
inductive CY (K:FG9) (vs:List V) (H:Hp) (Q:VK) (E9:XK):Prop
 | mk (r s u:Addr) (H0:Hp) (mv pt lk:LR9) (st pu:List Rat):vs=[.ref r,.ref s,.ref u]->eK K H0 H r mv pt lk->iH mv pt lk->cg K H s st->cg K H u pu->st.length=mv.length->pu.length=pt.length->PR mv pt st pu->(∀t H',H t=none->aA H H'->cg K H' t (jX mv pt st pu)->Q (.ref t) H')->CY K vs H Q E9
structure Bd (mv pt:LR9) (M1 M2 V a1 a2 c:Nat):Prop where
 m1:0 < M1
 m2:0 < M2
 b1:M1<=2^a1
 b2:M2<=2^a2
 gm:GF M1 V mv
 gp:GF M2 V pt
 vc:(mv.length+4)*V<=2^c
section
variable {mv pt lk pus:LR9} {st pu go:List Rat} {M1 M2 V a1 a2 c N Np p t T ν:Nat}
theorem Bd.v1 (B:Bd mv pt M1 M2 V a1 a2 c):V<=2^c:=aj (nG _ (by lia)) B.vc
theorem EU (h0:0 < M) (h1:M<=2^a) (h2:W<=2^b) (hab:a+b<=1995000) (h:Fr M W x):qF x:=by
 refine Mw (Tp.of h (au _)) h0 (aj h1 (av (by decide) (by lia))) ?_;refine aj (a8 h2 h1) ?_;rw[<- bQ];exact av (by decide) (by lia)
theorem Bd.next (B:Bd mv pt M1 M2 V a1 a2 c) (D:iH mv pt lk) (ls:st.length=mv.length) (lu:pu.length=pt.length) (N0:0 < N) (dv:M2*Np∣M1*N) (hs:∀x∈st,Fr N (2^p) x) (hu:∀x∈pu,Fr Np (2^p) x) (hN:N<=2^ν) (sz:a1+ν+c+p<=1950000) (sp2:a2+c<=1950000):PR mv pt st pu/\∀x∈jX mv pt st pu,Fr (M1*N) (2^(c+p)) x:=by
 have V1:=B.v1;have i4:=D.i4;have MN0:0 < M1*N:=c7 B.m1 N0;have MN:M1*N<=2^(a1+ν):=by rw[bQ];exact a8 B.b1 hN
 have Np0:0 < Np:=by
  rcases Nat.eq_zero_or_pos Np with z | z
  ·rw[z,Nat.mul_zero] at dv;have:=Nat.eq_zero_of_zero_dvd dv
   lia
  ·exact z
 have NpMN:Np<=M1*N:=aj (nG _ B.m2) (js MN0 dv)
 have one:∀u∈pu,∀row∈pt,∀y∈row,Fr (M1*N) (V*2^p) (u*y):=λu hu' row hr y hy=>by
  have:=(B.gp row hr y hy).mul (hu u hu');rw[dO];exact this.dvd dv
 have part:∀kk,kk<=pt.length->∀x∈nextK mv pt st pu kk,Fr (M1*N) (2^(c+p)) x:=λkk hkk x hx=>by
  obtain ⟨j,hj,e⟩:=b9 hx;rw[jf] at hj;have e2:=yP (mv:=mv) (pt:=pt) (st:=st) (pu:=pu) (k:=kk) hj;rw[ae,ao (by rw[jf];exact hj)] at e2;have e3:x=iF (mv[j]++(pt.map λxs=>xs.getD j 0).take kk) (st++pu.take kk):=by rw[<- e,<- e2];rfl
  have wj:=D.mw _ (bM hj);rw[e3,vf (by lia)];have f1:=Fr.dot (B.gm _ (bM hj)) hs;rw[wj] at f1
  have f2:Fr (M1*N) (4*(V*2^p)) (iF ((pt.map λxs=>xs.getD j 0).take kk) (pu.take kk)):=by
   have hc:∀y∈(pt.map λxs=>xs.getD j 0).take kk,Fr M2 V y:=λy hy=>by
    obtain ⟨xs,hxs,rfl⟩:=ay.mp (di hy);rw[ae];cases e:xs[j]? with
    | none=>exact Fr.zero
    | some z=>exact B.gp xs hxs z (ak e)
   have:=Fr.dot (ys:=pu.take kk) hc (λy hy=>hu y (di hy));refine (this.dvd dv).mono (aL _ ?_);rw[dY,ag]
   lia
  refine (f1.add f2).mono ?_;rw[<- JR,bQ,<- ib];exact aL _ B.vc
 have szb:∀{x:Rat},Fr (M1*N) (2^(c+p)) x->qF x:=λh=>EU MN0 MN (au _) (by lia) h
 have all:∀kk,∀x∈nextK mv pt st pu kk,Fr (M1*N) (2^(c+p)) x:=λkk x hx=>by
  rcases nE pt.length kk with z | z
  ·have e:nextK mv pt st pu kk=nextK mv pt st pu pt.length:=(rY (by lia) (by lia)).trans (rY (au _) (by lia)).symm;rw[e] at hx;exact part _ (au _) x hx
  ·exact part kk z x hx
 refine ⟨⟨λxs hx=>⟨a1,c,ν,p,⟨M1,V,B.m1,B.b1,V1,B.gm xs hx⟩,⟨N,2^p,N0,hN,au _,hs⟩,by lia⟩,λkk x hx=>szb (all kk x hx),λu hu'=>?_,λrow hr y hy=>?_,λu hu' row hr y hy=>szb ((one u hu' row hr y hy).mono (by rw[bQ];exact aL _ V1))⟩,λx hx=>?_⟩
 ·exact EU Np0 (aj NpMN MN) (au _) (by lia) (hu u hu')
 ·exact EU B.m2 B.b2 V1 (by lia) (B.gp row hr y hy)
 ·rw[<- rY (k:=pt.length) (au _) (by lia)] at hx;exact all _ x hx
end
section
variable {X:Cx}
theorem Hq (hc:X.calm=true):rW X (.builtin "max") (λxs H Q=>∃(p:Addr) (ns:List Int),xs=[.ref p]/\bP X.K H p (ns.map V.int)/\0 < ns.length/\∀M,M∈ns->(∀a,a∈ns->a<=M)->Q (.int M) H):=by
 intro pins s σ H xs us Q I r h;obtain ⟨p,ns,rfl,hp,hne,q⟩:=h;obtain ⟨u,rfl,ru⟩:=vals1 r;cases ru;obtain ⟨its,r2,pl,_⟩:=I.list hp;have hi:=intsAre_of r2;have hl:=pl.isList;obtain ⟨xs,e⟩:=hi.allInts.items
 have hns:ns=xs.toList.map (·.1):=by
  rw[<- hi.numsOf,<- nums_intItems,<- e]
 have hsz:0 < xs.size:=by
  have h3:=hne;rw[hns,ag,Array.length_toList] at h3;exact h3
 rw[e] at hl;refine max_intList (I.ok.hd hc) hl hsz λv h' tk hv hk=>?_
 obtain ⟨t,rfl⟩:=intItems_at hv;obtain ⟨h1,h2⟩:=argBest_gt (numAt xs) (xs.size - 1);refine ⟨.int _,H,I.kept hk,⟨_,rfl⟩,q _ ?_ λa ha=>?_⟩
 ·rw[hns,numAt_eq];exact getD_in (by rw[ag,Array.length_toList];lia)
 ·rw[hns] at ha;obtain ⟨j,hj,rfl⟩:=mem_getD ha;rw[ag,Array.length_toList] at hj;rw[<- numAt_eq];exact h2 j (by lia)
end
theorem Al {α β:Type} {f:α->β}:∀{l1:List α} {l2:List β},Paired (λa b=>b=f a) l1 l2->l2=l1.map f
 | _,_,.nil=>rfl
 | _,_,.cons h r=>by rw[h,Al r];rfl
def PL (mv pt:LR9) (T:Nat):Prop:=T<=12/\(T<=3\/((∀xs∈mv++pt,∀x∈xs,x.den<=9/\x.num.natAbs < 1000)/\(5 < mv.length->T<=mv.length)/\(3<=mv.length->mv.length<=5->T<=mv.length+1)))
def Ov (x:Rat):Int:=(x.den:Int)+(x.num.natAbs:Int) / 1000*9
theorem Lm (h:Ov x<=9):x.den<=9/\x.num.natAbs < 1000:=by
 unfold Ov at h;have:=x.den_pos
 lia
inductive Af (K:FG9) (vs:List V) (H:Hp) (Q:VK) (E9:XK):Prop
 | mk (b r:Addr) (H0:Hp) (mv pt lk:LR9):vs=[.ref b,.ref r]->fP H b->H0 b≠none->eK K H0 H r mv pt lk->iH mv pt lk->(∀xs∈mv++pt,∀x∈xs,qF x)->(∀(T:Nat) H',PL mv pt T->fP H' b->cz b H H'->Q (.int T) H')->Af K vs H Q E9
theorem Jc (ws vs:List V) (M1 M2 M3:Nat):∃μ:V->Nat,(∀x∈ws,μ x=M2)/\(∀x∈vs,x∉ws->μ x=M3)/\(∀x,x∉ws->x∉vs->μ x=M1)/\∀x,μ x=M1\/μ x=M2\/μ x=M3:=by
 classical
 refine ⟨λx=>if x∈ws then M2 else if x∈vs then M3 else M1,λx h=>if_pos h,λx h h'=>?_,λx h h'=>?_,λx=>?_⟩
 ·show (if x∈ws then M2 else if x∈vs then M3 else M1)=M3
  rw[if_neg h',if_pos h]
 ·show (if x∈ws then M2 else if x∈vs then M3 else M1)=M1
  rw[if_neg h,if_neg h']
 ·show (if x∈ws then M2 else if x∈vs then M3 else M1)=M1\/(if x∈ws then M2 else if x∈vs then M3 else M1)=M2\/(if x∈ws then M2 else if x∈vs then M3 else M1)=M3
  by_cases h:x∈ws
  ·rw[if_pos h];exact .inr (.inl rfl)
  ·rw[if_neg h];by_cases h':x∈vs
   ·rw[if_pos h'];exact .inr (.inr rfl)
   ·rw[if_neg h'];exact .inl rfl
theorem jK.apart {K:FG9} (h:jK K A H n C m p l b q0 us ws vs):(∀x∈us,x∉ws/\x∉vs)/\∀x∈vs,x∉ws:=by
 obtain ⟨n1,n2,n3⟩:=dd.mp h.nd;obtain ⟨n4,n5,n6⟩:=dd.mp n1;exact ⟨λx hx=>⟨λz=>n3 x (aw.mpr (.inl hx)) x z rfl,λz=>n6 x hx x z rfl⟩,λx hx z=>n3 x (aw.mpr (.inr hx)) x z rfl⟩
theorem jK.fr3 {K:FG9} (h:jK K A H n (λ_=>Dr (2^c)) m p l b q0 us ws vs):∃M1 M2 M3,0 < M1/\0 < M2/\0 < M3/\M1<=2^(c*(n*n))/\M2<=2^(c*(ws.length*n))/\M3<=2^(c*(vs.length*n))/\(∀x∈us,fH K A H n (Fr M1 (2^c)) x)/\(∀x∈ws,fH K A H n (Fr M2 (2^c)) x)/\∀x∈vs,fH K A H n (Fr M3 (2^c)) x:=by
 have one:∀l:List V,(∀x∈l,x∈us++vs++ws)->∃M,0 < M/\M<=2^(c*(l.length*n))/\∀x∈l,fH K A H n (Fr M (2^c)) x:=λl hl=>by
  obtain ⟨ra,pa,la,ha⟩:=yA λx hx=>h.row x (hl x hx)
  obtain ⟨M,m0,m1,m2⟩:=Kg (c:=c) (n:=n) (rows:=ra) ha;exact ⟨M,m0,by rw[la] at m1;exact m1,Es pa λqs hq=>⟨(ha qs hq).1,m2 qs hq⟩⟩
 obtain ⟨M1,a1,a2,a3⟩:=one us λx hx=>by simp [hx]
 obtain ⟨M2,b1,b2,b3⟩:=one ws λx hx=>by simp [hx]
 obtain ⟨M3,c1,c2,c3⟩:=one vs λx hx=>by simp [hx]
 rw[h.lm] at a2;exact ⟨M1,M2,M3,a1,b1,c1,a2,b2,c2,a3,b3,c3⟩
inductive Ai (K:FG9) (xs:List V) (H:Hp) (Q:VK) (E9:XK):Prop
 | mk (b m p l q0:Addr) (n V1:Nat) (μ:V->Nat) (A:Addr->Prop) (us ws vs:List V):xs=[.ref b,.ref m,.ref p,.ref l]->DY A m p l b q0->jK K A H n (λx=>Fr (μ x) V1) m p l b q0 us ws vs->n<=8->ws.length<=4->vs.length<=4->(∀x,0 < μ x)->(∀x,μ x<=2^800)->(∃M,∀x,x∉ws->x∉vs->μ x=M)->V1<=2^20->(∀q,H q=none->A q)->(∀r us' H',H' r=some (.tup [.ref m,.ref p,.ref l])->jK K A H' n (λx=>Fr (μ x) (9^3*V1)) m p l b q0 us' ws vs->iK A b m H H'->Q (.ref r) H')->Ai K xs H Q E9
def QE (n i o w c:Nat) (mv pt lk:LR9):Prop:=∃M1 M2 M3 V1:Nat,0 < M1/\0 < M2/\0 < M3/\GF M1 V1 mv/\GF M2 V1 pt/\GF M3 V1 lk/\((w<=9/\M1=2520/\M2=2520/\M3=2520/\V1=9^3*9)\/(9 < w/\M1<=2^(c*(n*n))/\M2<=2^(c*(i*n))/\M3<=2^(c*(o*n))/\V1=9^3*2^c))
inductive Ag (K:FG9) (vs:List V) (H:Hp) (Q:VK) (E9:XK):Prop
 | mk (b:Addr) (n i o w c:Nat):vs=[.ref b,.int n,.int i,.int o,.int w]->fP H b->n<=8->i<=4->o<=4->1<=w->w<=1000000->max w 6<=2^c->c<=20->c*((n+i+o)*n)<=800->(∀r mv pt lk H',eK K H H' r mv pt lk->mv.length=n->pt.length=i->lk.length=o->iH mv pt lk->QE n i o w c mv pt lk->fP H' b->cz b H H'->Q (.ref r) H')->Ag K vs H Q E9
def Rg (mv pt:LR9) (w:Nat):Prop:=(w<=9/\Bd mv pt 1 1 (9^3) 0 0 14)\/(w<=9/\mv.length<=5/\Bd mv pt 2520 2520 (9^3*9) 12 12 16)\/(w=1000/\mv.length<=2/\∃M1 M2,Bd mv pt M1 M2 (9^3*2^20) 80 160 33)
def Ke (K:FG9):Sp:=λvs H Q _=>∃b:Addr,vs=[.ref b]/\fP H b /\
 ∀t r (w a c:Nat) mv pt lk H',H' t=some (.tup [.ref r,.int w])->eK K H H' r mv pt lk->iH mv pt lk->Lv mv pt lk->Oj mv pt a c->Rg mv pt w->1<=w->w<=1000->fP H' b->cz b H H'->Q (.ref t) H'
theorem EO {M V:Nat} (h:GF M V l) (k:Nat):GF (k*M) V l:=λxs hx x hx'=>(h xs hx x hx').scaleL k
theorem QE.n {n i o w c:Nat} (h:QE n i o w c mv pt lk):PtF n i o w c mv pt lk:=by
 obtain ⟨M1,M2,M3,V1,a1,a2,a3,f1,f2,f3,hc⟩:=h;rcases hc with ⟨w9,rfl,rfl,rfl,e⟩ | ⟨w9,e1,e2,e3,e⟩
 ·exact ⟨2520,V1,by decide,f1,f2,f3,.inl ⟨w9,rfl,e⟩⟩
 ·refine ⟨M1*M2*M3,V1,c7 (c7 a1 a2) a3,?_,?_,?_,.inr ⟨w9,?_,e⟩⟩
  ·have:=EO f1 (M2*M3);rwa [show M2*M3*M1=M1*M2*M3 by rw[hX (M2*M3),ib]] at this
  ·have:=EO f2 (M1*M3);rwa [show M1*M3*M2=M1*M2*M3 by rw[ib,hX M3,ib]] at this
  ·exact EO f3 (M1*M2)
  ·refine aj (a8 (a8 e1 e2) e3) ?_;rw[<- bQ,<- bQ,show c*((n+i+o)*n)=c*(n*n)+c*(i*n)+c*(o*n) by rw[JR,JR,Nat.mul_add,Nat.mul_add]];exact au _
section
variable {rows more R:LR9} {ws wm x x1 x2 x' y g g1 g2:List Rat} {n:Nat} {ps:List Nat} {c:Rat}
theorem xR {f:Nat->Rat}:∀k,(∀j,j < k->0<=f j)->0<=aU k f
 | 0,_=>AR
 | k+1,h=>by
  have h1:=xR k λj hj=>h j (by lia)
  have h2:=h k (by lia);have e:aU (k+1) f=aU k f+f k:=rfl;rw[e];grind
theorem Ik {a w:Rat} (h:0 < w):0<=a*a / w:=by
 have h1:0<=a*a:=by
  rcases Rat.le_total (a:=0) (b:=a) with z | z
  ·exact eC z z
  ·have:0<=-a:=by grind
   have:=eC this this;grind
 rw[bo];exact eC h1 (bY (Rat.inv_pos.mpr h))
end
inductive C4 (vs:List V) (H:Hp) (Q:VK) (E9:XK):Prop
 | mk (p:Addr) (us:List V) (zss:List (List V)):vs=[.ref p]->H p=some (.lst us)->Paired (λzs u=>∃q,u=V.ref q/\H q=some (.lst zs)) zss us->zss.flatten.length<=1000->(∀r H',H r=none->aA H H'->H' r=some (.lst zss.flatten)->Q (.ref r) H')->C4 vs H Q E9
theorem uP {α β:Type} {F:α->β->Prop}:∀{Rs:List (List α)} {zss:List (List β)},Paired (λR zs=>Paired F R zs) Rs zss->Paired F Rs.flatten zss.flatten
 | _,_,.nil=>.nil
 | _,_,.cons h t=>cb h (uP t)
section
variable {mv pt lk pus:LR9} {ws go g1 g2:List Rat} {M1 M2 V a1 a2 c T0 n0 b B u T E:Nat}
theorem p2 (h:a<=b):2^a<=2^b:=av (by decide) h
end
theorem IS {t b:Int} (h:z*(b:Rat)=(t:Rat)) (hb:0 < b) (ht:0 < t):0 < z:=by
 have h1:(0:Rat) < (b:Rat):=dP.mpr hb;have h2:(0:Rat) < (t:Rat):=dP.mpr ht;by_cases q:0 < z
 ·exact q
 ·have:=iL (Rat.not_lt.mp q) (bY h1);rw[h,cT] at this;exact absurd h2 (Rat.not_lt.mpr this)
def jr (N:Nat) (a:Nat->Nat->Rat) (z:Nat->Rat):Rat:=aU N λi=>z i*aU N λj=>a i j*z j
section
variable {a l:Nat->Nat->Rat} {N k n m:Nat} {d:Rat} {x z f g:Nat->Rat}
theorem qL:∀{k:Nat},aU k (λj=>f j - g j)=aU k f - aU k g
 | 0=>by show (0:Rat)=0 - 0;grind
 | k+1=>by
  show aU k (λj=>f j - g j)+_=(aU k f+f k) - (aU k g+g k)
  rw[qL];grind
theorem Ih (h:k<=N):aU N (λj=>if j < k then f j else 0)=aU k f:=by
 induction N with
 | zero=>rw[show k=0 by lia];rfl
 | succ N ih =>
  show aU N _+(if N < k then f N else 0)=_
  by_cases e:k=N+1
  ·subst e;rw[if_pos (by lia)];show _=aU N f+f N
   rw[aS λj hj=>if_pos (by lia)]
  ·rw[if_neg (by lia),ih (by lia)];grind
theorem Fl {i:Nat}:∀{k:Nat},i < k->(∀j,j < k->0<=f j)->f i<=aU k f
 | 0,hi,_=>absurd hi (J0 _)
 | k+1,hi,h=>by
  show f i<=aU k f+f k
  by_cases e:i=k
  ·subst e;have:=xR (f:=f) i λj hj=>h j (by lia)
   grind
  ·have h1:=Fl (i:=i) (k:=k) (by lia) λj hj=>h j (by lia)
   have h2:=h k (by lia);grind
def Mg (k:Nat) (l:Nat->Nat->Rat) (d:Rat) (N:Nat) (x:Nat->Rat) (i:Nat):Rat:=if i < k then - aU N (λc=>(l i c / d)*x c) else x i
theorem Oe (B:vQ a N k (λi=>i) (λj=>j) l d) (hx:∀i,i < k->x i=0) (hi:i < N):aU N (λj=>a i j*Mg k l d N x j)=if i < k then 0 else aU N λc=>(l i c / d)*x c:=by
 have km:=B.km
 have e1:aU N (λj=>a i j*Mg k l d N x j)=aU N (λj=>a i j*x j) - aU k (λj=>a i j*aU N λc=>(l j c / d)*x c):=by
  rw[<- Ih km,<- qL];refine aS λj _=>?_
  unfold Mg;by_cases e:j < k
  ·rw[if_pos e,if_pos e,hx j e];grind
  ·rw[if_neg e,if_neg e];grind
 have e2:aU N (λj=>a i j*x j)=aU k (λj=>a i j*aU N λc=>(l j c / d)*x c)+if i < k then 0 else aU N λc=>(l i c / d)*x c:=by
  have h:∀j,j < N->a i j*x j=(aU k λt=>a i t*((l t j / d)*x j))+if i < k then 0 else (l i j / d)*x j:=λj _=>by
   have e:(aU k λt=>a i t*((l t j / d)*x j))=x j*aU k λt=>(l t j / d)*a i t:=by
    rw[<- cJ];exact aS λt _=>by grind
   have c:=B.coef (i:=i) (c:=j) hi;have c:a i j=aU k (λt=>(l t j / d)*a i t)+if i < k then 0 else l i j / d:=c
   rw[e]
   split
   ·rw[if_pos (by assumption)] at c;rw[c];grind
   ·rw[if_neg (by assumption)] at c;rw[c];grind
  rw[aS h,lK,jQ (k:=N) (m:=k) (f:=λj t=>a i t*((l t j / d)*x j))];congr 1
  ·refine aS λt _=>?_
   rw[cJ]
  ·split
   ·exact iq λ_ _=>rfl
   ·rfl
 rw[e1,e2];grind
theorem JL (B:vQ a N k (λi=>i) (λj=>j) l d) (hx:∀i,i < k->x i=0):jr N a (Mg k l d N x)=jr N (λi c=>l i c / d) x:=by
 unfold jr;refine aS λi hi=>?_
 rw[Oe B hx hi];unfold Mg;by_cases e:i < k
 ·rw[if_pos e,if_pos e,hx i e];grind
 ·rw[if_neg e,if_neg e]
theorem Ls (B:vQ a N k (λi=>i) (λj=>j) l d) (hd:0 < d) (hk:k < N) (h:∀z,z k=1->0 < jr N a z):0 < l k k:=by
 obtain ⟨u,u1,u0⟩:∃u:Nat->Rat,u k=1/\∀i,i≠k->u i=0:=⟨λi=>if i=k then 1 else 0,if_pos rfl,λi hi=>if_neg hi⟩;have e:=JL B (x:=u) λi hi=>u0 i (by lia)
 have h1:=h (Mg k l d N u) (by unfold Mg;rw[if_neg (by lia),u1]);rw[e] at h1;unfold jr at h1;rw[kB hk λj _ ne=>by rw[u0 j ne,cT],kB hk λj _ ne=>by rw[u0 j ne,iU],u1,gY,fO] at h1;have h2:0 < l k k / d*d:=dU h1 hd;rwa [iV (λz=>by rw[z] at hd;exact absurd hd (by decide))] at h2
def stN (n:Nat) (sd W:Nat->Nat->Rat) (ow:Nat->Rat) (i j:Nat):Rat:=(aU n λc=>sd j c*aU n λe=>W c e*sd i e)+if i=j then ow i else 0
theorem LM:jr N (stN n sd W ow) z=jr n W (λe=>aU N λi=>z i*sd i e)+aU N λi=>ow i*(z i*z i):=by
 have e1:∀i,i < N->z i*aU N (λj=>stN n sd W ow i j*z j)=(aU n λc=>(aU N λj=>z j*sd j c)*(z i*aU n λe=>W c e*sd i e))+ow i*(z i*z i):=λi hi=>by
  have h:∀j,j < N->stN n sd W ow i j*z j=(aU n λc=>(z j*sd j c)*aU n λe=>W c e*sd i e)+if j=i then ow i*z i else 0:=λj _=>by
   unfold stN
   have q:(aU n λc=>(z j*sd j c)*aU n λe=>W c e*sd i e)=z j*aU n λc=>sd j c*aU n λe=>W c e*sd i e:=by
    rw[<- cJ];exact aS λc _=>by grind
   rw[q];by_cases e:i=j
   ·subst e;rw[if_pos rfl,if_pos rfl];grind
   ·rw[if_neg e,if_neg (λq=>e q.symm)];grind
  rw[aS h,lK,kB (f:=λj=>if j=i then ow i*z i else 0) hi λj _ ne=>if_neg ne,if_pos rfl,jQ (f:=λj c=>(z j*sd j c)*aU n λe=>W c e*sd i e)]
  have q:∀c,c < n->(aU N λj=>(z j*sd j c)*aU n λe=>W c e*sd i e)=(aU n λe=>W c e*sd i e)*aU N λj=>z j*sd j c:=λc _=>by
   rw[<- cJ];exact aS λj _=>by grind
  rw[aS q]
  have q2:(aU n λc=>(aU N λj=>z j*sd j c)*(z i*aU n λe=>W c e*sd i e))=z i*aU n λc=>(aU n λe=>W c e*sd i e)*aU N λj=>z j*sd j c:=by
   rw[<- cJ];exact aS λc _=>by grind
  rw[q2];grind
 unfold jr;rw[aS e1,lK,jQ (f:=λi c=>(aU N λj=>z j*sd j c)*(z i*aU n λe=>W c e*sd i e))];congr 1;refine aS λc _=>?_
 rw[cJ];congr 1
 have q:∀i,i < N->z i*(aU n λe=>W c e*sd i e)=aU n λe=>W c e*(z i*sd i e):=λi _=>by
  rw[<- cJ];exact aS λe _=>by grind
 rw[aS q,jQ (f:=λi e=>W c e*(z i*sd i e))];exact aS λe _=>by rw[cJ]
theorem Dn:jr N (λi j=>q*a i j) z=q*jr N a z:=by
 unfold jr;rw[<- cJ];refine aS λi _=>?_
 rw[aS (g:=λj=>q*(a i j*z j)) λj _=>by grind,cJ];grind
end
def zY (a b:List Int):Int:=(List.zipWith (λx y=>x*y) a b).sum
def rj (ls:List (List Int)) (v:List Int):List Int:=ls.map λl=>zY l v
def RI (H:Hp) (zs:List Int) (x:V):Prop:=∃q,x=.ref q/\H q=some (.lst (zs.map V.int))
def GI (H:Hp) (p:Addr) (ls:List (List Int)):Prop:=∃xs,H p=some (.lst xs)/\Paired (RI H) ls xs
theorem RI.same (h:RI H zs x) (s:aA H H'):RI H' zs x:=by obtain ⟨q,e,g⟩:=h;exact ⟨q,e,s _ _ g⟩
theorem GI.same (h:GI H p ls) (s:aA H H'):GI H' p ls:=by obtain ⟨xs,g,r⟩:=h;exact ⟨xs,s _ _ g,Paired.imp' (λ_ _ z=>RI.same z s) r⟩
theorem IU (K:FG9) {X:Cx} {a:Expr} {ta:TA} {p pos tpos:Pos} {elts:List Expr} {kk:Nat} (hg:Gl X "enumerate") (hm:X.mg "enumerate"=none) (ha:PA X [a] ta) (hK:X.K=K:=by rfl) (hs:starEach [a] X.env=[(false,eval a X.env)]:=by rfl) :
  PI X (.Tuple elts kk tpos) (.Call (.Name "enumerate" p) [a] [] pos) (Jj K ta):=by subst hK;exact Bv hg hm ha hs
def z6 (H0 H:Hp) (zs:List Int) (x:V):Prop:=∃q,x=V.ref q/\H0 q=none/\H q=some (.lst (zs.map V.int))
theorem z6.same (h:z6 H0 H zs x) (s:aA H H'):z6 H0 H' zs x:=by obtain ⟨q,e,n,g⟩:=h;exact ⟨q,e,n,s _ _ g⟩
theorem Ca {α:Type} {m:Nat}:∀{l:List (List α)},(∀xs∈l,xs.length<=m)->l.flatten.length<=l.length*m
 | [],_=>bW _
 | x :: r,h=>by
  have h1:=h x (.head _);have h2:=Ca (l:=r) λy hy=>h y (.tail _ hy)
  show (x++r.flatten).length<=(r.length+1)*m
  rw[aD,nB]
  lia
theorem pF:∀{bs:List Int} {ys:List V},Paired (λz y=>y=V.int z) bs ys->ys=bs.map V.int
 | _,_,.nil=>rfl
 | _,_,.cons h t=>by rw[h,pF t];rfl
inductive Fp (K:FG9) (vs:List V) (H:Hp) (Q:VK) (E9:XK):Prop
 | mk (p q:Addr) (a b:List Int) (k j:Nat):vs=[.ref p,.ref q]->H p=some (.lst (a.map V.int))->H q=some (.lst (b.map V.int))->b.length=a.length->a.length<=100->(∀x∈a,Sz k x)->(∀x∈b,Sz j x)->k+j<=100000000->(∀H',aA H H'->Q (.int (zY a b)) H')->Fp K vs H Q E9
inductive Il (K:FG9) (vs:List V) (H:Hp) (Q:VK) (E9:XK):Prop
 | mk (p q:Addr) (ls:List (List Int)) (b:List Int) (k j:Nat):vs=[.ref p,.ref q]->GI H p ls->H q=some (.lst (b.map V.int))->(∀l∈ls,l.length=b.length)->ls.length<=100->b.length<=100->(∀l∈ls,∀x∈l,Sz k x)->(∀x∈b,Sz j x)->k+j<=100000000->(∀r H',H r=none->aA H H'->H' r=some (.lst ((rj ls b).map V.int))->Q (.ref r) H')->Il K vs H Q E9
def qE (mv:LR9):Int:=cM (mv.flatten.map nm)
def nL (mv:LR9):List (List Int):=mv.map λxs=>ck (xs.map nm) (qE mv)
inductive CM (K:FG9) (vs:List V) (H:Hp) (Q:VK) (E9:XK):Prop
 | mk (p:Addr) (H0:Hp) (rows:LR9) (M:Int):vs=[.ref p]->cN K H0 H p rows->rows.flatten.length<=1000->rows.length<=1000->(∀xs∈rows,xs.length<=1000)->my M (rows.flatten.map nm)->(∀t r H',H' t=some (.tup [.ref r,.int (qE rows)])->aA H H'->GI H' r (nL rows)->Q (.ref t) H')->CM K vs H Q E9
section
variable {n:Nat}
theorem wD (ha:a.length=n) (hb:b.length=n):((zY a b:Int):Rat)=aU n λl=>((a.getD l 0:Int):Rat)*((b.getD l 0:Int):Rat):=by
 have key:∀{a b:List Int},a.length=b.length->((zY a b:Int):Rat)=iF (a.map λ(x:Int)=>(x:Rat)) (b.map λ(x:Int)=>(x:Rat)):=by
  intro a
  induction a with
  | nil=>intro b _;rfl
  | cons x a ih =>
   intro b h;cases b with
   | nil=>exact absurd h (by simp)
   | cons y b =>
    show ((x*y+zY a b:Int):Rat)=(x:Rat)*(y:Rat)+iF _ _
    rw[lg,aM,ih (by simpa using h)]
 rw[key (by rw[ha,hb]),JC (by rw[ag,ag,ha,hb]),ag,ha];refine aS λl _=>?_
 have g:∀c:List Int,(c.map λ(x:Int)=>(x:Rat)).getD l 0=((c.getD l 0:Int):Rat):=λc=>by
  rw[ae,aB,ae];cases c[l]? with
  | none=>rfl
  | some y=>rfl
 rw[g,g]
theorem ve (ha:∀x∈a,Sz k x) (hb:∀x∈b,Sz j x):Sz (k+j+min a.length b.length) (zY a b):=by
 have:=Ig (l:=List.zipWith (λx y=>x*y) a b) (j:=k+j) λv hv=>by
  obtain ⟨i,hi,rfl⟩:=b9 hv;rw[qC];exact (ha _ (bM _)).mul (hb _ (bM _))
 rwa [cA] at this
theorem Gq {xs:List Rat} (h:∀x∈xs,(nm x).2∣B):(((ck (xs.map nm) B).getD i 0:Int):Rat)=xs.getD i 0*(B:Rat):=by
 unfold ck;rw[ae,aB,aB,ae];cases e:xs[i]? with
 | none=>show ((0:Int):Rat)=0*_;rw[cT];rfl
 | some x=>exact ky (h x (ak e))
end
theorem Jg (hb:b≠0):(lo (if b < 0 then -t else t) (if b < 0 then -b else b),hi (if b < 0 then -t else t) (if b < 0 then -b else b))=nm ((t:Rat) / (b:Rat)):=by
 have b0:(b:Rat)≠0:=λz=>hb (mU z)
 by_cases h:b < 0
 ·rw[if_pos h,if_pos h];refine uY (by lia) ?_;rw[jo,jo,Rat.mul_neg,iV b0]
 ·rw[if_neg h,if_neg h];exact uY (by lia) (iV b0)
def whQ (ls:List (List Int)) (b:Int):LR9:=ls.map λl=>l.map λ(z:Int)=>(z:Rat) / (b:Rat)
inductive CS (K:FG9) (vs:List V) (H:Hp) (Q:VK) (E9:XK):Prop
 | mk (t p:Addr) (ls:List (List Int)) (b:Int):vs=[.ref t]->H t=some (.tup [.ref p,.int b])->GI H p ls->ls.length<=20->(∀l∈ls,l.length<=20)->b≠0->Sz 4499500 b->(∀r H',H r=none->aA H H'->cN K H H' r (whQ ls b)->Q (.ref r) H')->CS K vs H Q E9
def BH (ls:List (List Int)) (b:Int) (xs:List Rat):List Rat:=ls.map λl=>(aU xs.length λj=>((l.getD j 0:Int):Rat)*xs.getD j 0) / (b:Rat)
inductive Fs (K:FG9) (vs:List V) (H:Hp) (Q:VK) (E9:XK):Prop
 | mk (t p s:Addr) (ls:List (List Int)) (b M:Int) (xs:List Rat) (k j:Nat):vs=[.ref t,.ref s]->H t=some (.tup [.ref p,.int b])->GI H p ls->ls.length<=20->(∀l∈ls,l.length=xs.length)->cg K H s xs->xs.length<=20->my M (xs.map nm)->(∀l∈ls,∀z∈l,Sz k z)->k+4400000<=100000000->b≠0->Sz j b->j+2200000<=4499500->(∀r H',H r=none->aA H H'->cg K H' r (BH ls b xs)->Q (.ref r) H')->Fs K vs H Q E9
def Ea (zs:List Int):List (List Int):=(List.range zs.length).map λi=>(List.range zs.length).map λj=>if j=i then zs.getD j 0 else 0
def Ec (H0 H:Hp) (p:Addr) (ls:List (List Int)):Prop:=H0 p=none/\∃xs,H p=some (.lst xs)/\Paired (z6 H0 H) ls xs
theorem Ec.gi (h:Ec H0 H p ls):GI H p ls:=by obtain ⟨_,xs,g,r⟩:=h;exact ⟨xs,g,Paired.imp' (λ_ _ ⟨q,e,_,g⟩=>⟨q,e,g⟩) r⟩
theorem Ec.same (h:Ec H0 H p ls) (s:aA H H'):Ec H0 H' p ls:=by obtain ⟨n,xs,g,r⟩:=h;exact ⟨n,xs,s _ _ g,Paired.imp' (λ_ _ z=>z6.same z s) r⟩
theorem Ec.weak (h:Ec H0 H p ls) (s:aA H1 H0):Ec H1 H p ls:=by obtain ⟨n,xs,g,r⟩:=h;exact ⟨s.none n,xs,g,Paired.imp' (λ_ _ ⟨q,e,n,g⟩=>⟨q,e,s.none n,g⟩) r⟩
inductive Im (K:FG9) (vs:List V) (H:Hp) (Q:VK) (E9:XK):Prop
 | mk (p:Addr) (xs:List Rat) (M:Int):vs=[.ref p]->cg K H p xs->xs.length<=20->my M (xs.map nm)->(∀t r H',H' t=some (.tup [.ref r,.int (cM (xs.map nm))])->aA H H'->Ec H H' r (Ea (ck (xs.map nm) (cM (xs.map nm))))->Q (.ref t) H')->Im K vs H Q E9
def zN (b:Int) (zs:List Int):Int:=zs.foldl (λd z=>g z d) b
theorem K6:zN b (zs++[z])=g z (zN b zs):=by unfold zN;rw[List.foldl_append];rfl
theorem wC:∀{zs:List Int} {b:Int},0 < b->0 < zN b zs/\zN b zs∣b/\∀z∈zs,zN b zs∣z
 | [],b,hb=>⟨hb,Int.dvd_refl _,λ_ h=>nomatch h⟩
 | z :: zs,b,hb=>by
  have p:0 < g z b:=by
   have:0 < Int.gcd z b:=qI _ (by lia);show (0:Int) < ((Int.gcd z b:Nat):Int)
   lia
  obtain ⟨h1,h2,h3⟩:=wC (zs:=zs) p;refine ⟨h1,D9 h2 (eE ..),λy hy=>?_⟩;rcases aF.mp hy with rfl | hy
  ·exact D9 h2 (dZ ..)
  ·exact h3 y hy
theorem DD {e D:Int}:∀{zs:List Int} {b:Int},e∣b*D->(∀z∈zs,e∣z*D)->e∣zN b zs*D
 | [],_,hb,_=>hb
 | z :: zs,b,hb,h=>by
  refine DD (zs:=zs) (b:=g z b) ?_ λy hy=>h y (bK _ hy)
  have h2:=Int.dvd_coe_gcd (h z (cU ..)) hb;rw[Int.gcd_mul_right,Int.natCast_mul] at h2;rcases Int.natAbs_eq D with q | q
  ·rw[q];exact h2
  ·rw[q,Int.mul_neg];exact Int.dvd_neg.mpr h2
def wW (b:Int) (ls:List (List Int)):List (List Int):=ls.map λl=>l.map λz=>z / zN b ls.flatten
def xO (b:Int) (ls:List (List Int)):Int:=b / zN b ls.flatten
inductive Ft (vs:List V) (H:Hp) (Q:VK) (E9:XK):Prop
 | mk (p:Addr) (ls:List (List Int)) (b:Int):vs=[.ref p,.int b]->GI H p ls->ls.length<=20->(∀l∈ls,l.length<=20)->0 < b->Sz 4499500 b->(∀t r H',H' t=some (.tup [.ref r,.int (xO b ls)])->aA H H'->Ec H H' r (wW b ls)->Q (.ref t) H')->Ft vs H Q E9
theorem yz {K:FG9} {H0 H:Hp}:∀{Rs:LR9} {us:List V},Paired (iI K H0 H) Rs us->∃zss:List (List V),Paired (λzs u=>∃q,u=V.ref q/\H q=some (.lst zs)) zss us/\Paired (λR zs=>Paired (b6 K H) R zs) Rs zss
 | _,_,.nil=>⟨[],.nil,.nil⟩
 | _,_,.cons h t=>by
  obtain ⟨zss,a,b⟩:=yz t;obtain ⟨q,e,_,zs,g,r⟩:=h;exact ⟨zs :: zss,.cons ⟨q,e,g⟩ a,.cons r b⟩
theorem FE {H:Hp}:∀{ls:List (List Int)} {us:List V},Paired (RI H) ls us->Paired (λzs u=>∃q,u=V.ref q/\H q=some (.lst zs)) (ls.map λl=>l.map V.int) us
 | _,_,.nil=>.nil
 | _,_,.cons h t=>.cons h (FE t)
theorem l8:∀{zs:List Int},Paired (λz x=>x=V.int z) zs (zs.map V.int)
 | []=>.nil
 | _ :: _=>.cons rfl l8
section
variable {H0 H:Hp}
theorem FD {q:Addr} {o:HO}:∀{rows:List (List Int)} {ys:List V},Paired (z6 H0 H) rows ys->V.ref q∉ys->Paired (z6 H0 (upd H q o)) rows ys
 | _,_,.nil,_=>.nil
 | _,_,.cons h t,n=>by
  obtain ⟨r,e,a,b⟩:=h;exact .cons ⟨r,e,a,by rw[aN λz=>n (by rw[<- z,<- e];exact .head _)];exact b⟩ (FD t λz=>n (.tail _ z))
theorem Dk {q:Addr} {zs:List Int} (hn:H0 q=none):∀{rows:List (List Int)} {ys:List V} {j:Nat},Paired (z6 H0 H) rows ys->ys.Nodup->ys[j]?=some (.ref q)->Paired (z6 H0 (upd H q (.lst (zs.map V.int)))) (rows.set j zs) ys
 | _,_,_,.nil,_,e=>by simp at e
 | _,_,0,.cons (l₂:=ys) h t,nd,e=>by
  have e:=b7 e;obtain ⟨n1,n2⟩:=dr.mp nd;rw[e] at n1 ⊢;exact .cons ⟨q,rfl,hn,aE⟩ (FD t n1)
 | _,_,j+1,.cons (l₂:=ys) h t,nd,e=>by
  obtain ⟨n1,n2⟩:=dr.mp nd;have e:ys[j]?=some (.ref q):=e;obtain ⟨r,e',a,b⟩:=h;exact .cons ⟨r,e',a,by rw[aN λz=>n1 (by rw[e',z];exact ak e)];exact b⟩ (Dk hn t n2 e)
end
section
variable {K:FG9} {H:Hp} {a:Addr} {xs:List V} {g:TG} {tf:TT} {te:TE} {Q:VK} {σ₀:St} {α:Type}
theorem EY {F:Hp->α->V->Prop} (f:α->List Int) (hx:H a=some (.lst xs)) (pf:Paired (F H) as xs) (hl:as.length<=1000)
  (hF:∀{H H' c x},F H c x->aA H H'->F H' c x)
  (hs:∀(i:Nat) c x H' NY NN,as[i]?=some c->aA H H'->F H' c x->(∀q H2,aA H' H2->H' q=none->H2 q=some (.lst ((f c).map V.int))->NY (.ref q) H2)->qg σ₀ g tf te x H' NY NN)
  (hd:∀ys H' p,H p=none->aA H H'->H' p=some (.lst ys)->ys.Nodup->Paired (z6 H H') (as.map f) ys->V.ref p∉ys->Q (.ref p) H'):qA (JY K a) σ₀ g tf te Q H:=by
 have lx:=pf.length;refine fN (K:=K) (xs:=xs) (λi ys H'=>aA H H'/\Paired (z6 H H') ((as.take i).map f) ys/\ys.Nodup/\∀y∈ys,∃q,y=V.ref q/\H' q≠none) (aT (bz (by lia))) ⟨aA.refl _,.nil,jN,(λ_ h=>nomatch h)⟩ (λi ys H' _ ⟨s,_⟩=>bP.of (s _ _ hx)) ?_ ?_
 ·rintro i x ys H' hx' hlen ⟨s,pr,nd,ne⟩;obtain ⟨c,ec,fc⟩:=dG pf hx';refine hs i c x H' _ _ ec s (hF fc s) λq H2 s2 nq R=>⟨s.trans s2,?_,?_,λy hy=>?_⟩
  ·rw[take_snoc ec,cD];exact cb (Paired.imp' (λ_ _ z=>z6.same z s2) pr) (.cons ⟨q,rfl,s.none nq,R⟩ .nil)
  ·refine dd.mpr ⟨nd,by simp,λa ha b hb z=>?_⟩;rw[bR.mp hb] at z;obtain ⟨q',e,h⟩:=ne a ha;rw[z] at e;cases e;exact h nq
  ·rcases aw.mp hy with hy | hy
   ·obtain ⟨q',e,h⟩:=ne y hy;refine ⟨q',e,λz=>?_⟩;cases h':H' q' with
    | none=>exact h h'
    | some o=>rw[s2 _ _ h'] at z;cases z
   ·exact ⟨q,bR.mp hy,by rw[R];exact λz=>nomatch z⟩
 ·rintro ys H' hy ⟨s,pr,nd,ne⟩ p hp;rw[aJ (by lia)] at pr;have s1:aA H' (upd H' p (.lst ys)):=aA.new hp
  exact hd ys _ p (s.none hp) (s.trans s1) aE nd (Paired.imp' (λ_ _ z=>z6.same z s1) pr) λz=>by
   obtain ⟨q,e,h⟩:=ne _ z;cases e;exact h hp
end
def AK (L:List (List Int)) (f:Nat->Int):Nat->List (List Int)
 | 0=>L
 | i+1=>(AK L f i).set i (((AK L f i).getD i []).set i (((AK L f i).getD i []).getD i 0+f i))
theorem uk {L:List (List Int)} {f:Nat->Int}:∀i,(AK L f i).length=L.length
 | 0=>rfl
 | i+1=>by show ((AK L f i).set i _).length=_;rw[jq,uk i]
theorem so {L:List (List Int)} {f:Nat->Int} {n:Nat} (h:∀l∈L,l.length=n):∀i,i<=L.length->∀l∈AK L f i,l.length=n
 | 0,_,l,hl=>h l hl
 | i+1,hi,l,hl=>by
  have hl:l∈(AK L f i).set i _:=hl;rcases dD hl with z | z
  ·exact so h i (by lia) l z
  ·rw[z,jq];exact so h i (by lia) _ (getD_in (by rw[uk];lia))
theorem JM {L:List (List Int)} {f:Nat->Int} {n:Nat} (hL:L.length=n) (h:∀l∈L,l.length=n) {r c:Nat} (hr:r < n) (hc:c < n):∀i,i<=n->((AK L f i).getD r []).getD c 0=(L.getD r []).getD c 0+if r=c/\r < i then f r else 0
 | 0,_=>by rw[if_neg (by lia)];show _=_+(0:Int);rw[Int.add_zero];rfl
 | i+1,hi=>by
  have ih:=JM (f:=f) hL h hr hc i (by lia);have lw:((AK L f i).getD i []).length=n:=so (f:=f) h i (by lia) _ (getD_in (by rw[uk];lia));show (((AK L f i).set i _).getD r []).getD c 0=_
  rw[vd (by rw[uk];lia)];by_cases e:r=i
  ·subst e;rw[if_pos rfl,vd (by lia)];by_cases e2:c=r
   ·subst e2;rw[if_pos rfl,ih,if_neg (by lia),if_pos (by lia)]
    lia
   ·rw[if_neg e2,ih,if_neg (by lia),if_neg (by lia)]
  ·rw[if_neg e,ih];by_cases e2:r=c/\r < i
   ·rw[if_pos e2,if_pos (by lia)]
   ·rw[if_neg e2,if_neg (by lia)]
def DA (sl wl:List (List Int)) (ob:Int):List (List Int):=sl.map λs=>(rj sl (rj wl s)).map λz=>z*ob
def Qn (sl wl:List (List Int)) (sb wb:Int) (ot:List Int) (ob:Int):List (List Int):=AK (DA sl wl ob) (λi=>ot.getD i 0*(sb*sb*wb)) sl.length
def qD (sy a1 a2 a3 kn:Addr):List (Str×V):=aX "known" (.ref kn) (aX "last_weights" (.ref a3) (aX "put_weights" (.ref a2) (aX "state_weights" (.ref a1) (aX "system" (.ref sy) []))))
section
variable {sy a1 a2 a3 kn:Addr}
theorem K0:(aX k v fs).lookup k=some v:=by rw[aG,if_pos rfl]
theorem vw:(qD sy a1 a2 a3 kn).lookup ("known":Str)=some (.ref kn):=by
 unfold qD;rw[aG,if_pos rfl]
theorem PC:(qD sy a1 a2 a3 kn).lookup ("put_weights":Str)=some (.ref a2):=by
 unfold qD;rw[aG,if_neg (by decide +kernel),aG,if_neg (by decide +kernel),aG,if_pos rfl]
theorem Pz:(qD sy a1 a2 a3 kn).lookup ("state_weights":Str)=some (.ref a1):=by
 unfold qD;rw[aG,if_neg (by decide +kernel),aG,if_neg (by decide +kernel),aG,if_neg (by decide +kernel),aG,if_pos rfl]
theorem wF:(qD sy a1 a2 a3 kn).lookup ("system":Str)=some (.ref sy):=by
 unfold qD;rw[aG,if_neg (by decide +kernel),aG,if_neg (by decide +kernel),aG,if_neg (by decide +kernel),aG,if_neg (by decide +kernel),aG,if_pos rfl]
theorem oP {k:Str} (h1:k≠"known") (h2:k≠"last_weights") (h3:k≠"put_weights") (h4:k≠"state_weights") (h5:k≠"system"):(qD sy a1 a2 a3 kn).lookup k=none:=by
 unfold qD;rw[aG,if_neg h1,aG,if_neg h2,aG,if_neg h3,aG,if_neg h4,aG,if_neg h5];rfl
end
def HH (K:FG9) (H0 H:Hp) (C Cc x kn:Addr) (mv pt lk:LR9) (qs rs:List Rat):Prop:=∃dx sy a1 a2 a3,H x=some (.ins Cc dx (qD sy a1 a2 a3 kn))/\oz K H0 H C sy mv pt lk/\cg K H a1 qs/\cg K H a2 rs
theorem HH.same {K:FG9} (h:HH K H0 H C Cc x kn mv pt lk qs rs) (s:aA H H'):HH K H0 H' C Cc x kn mv pt lk qs rs:=by
 obtain ⟨dx,sy,a1,a2,a3,g,S,R1,R2⟩:=h;exact ⟨dx,sy,a1,a2,a3,s _ _ g,S.same s,R1.same s,R2.same s⟩
def jL (mv pt:LR9):LR9:=pt++qe mv mv.length
def lX (qs rs:List Rat):List Rat:=rs++qs
structure HQ (mv pt:LR9) (qs rs:List Rat) (σ ω:Nat):Prop where
 lq:qs.length=mv.length
 lr:rs.length=pt.length
 ms:∃M,my M ((jL mv pt).flatten.map nm)
 mo:∃M,my M ((lX qs rs).map nm)
 ss:∀l∈nL (jL mv pt),∀z∈l,Sz σ z
 sb:Sz σ (qE (jL mv pt))
 os:∀z∈ck ((lX qs rs).map nm) (cM ((lX qs rs).map nm)),Sz ω z
 ob:Sz ω (cM ((lX qs rs).map nm))
abbrev d7 (mv pt:LR9) (qs rs:List Rat) (wl:List (List Int)) (wb:Int):List (List Int):=Qn (nL (jL mv pt)) wl (qE (jL mv pt)) wb (ck ((lX qs rs).map nm) (cM ((lX qs rs).map nm))) (cM ((lX qs rs).map nm))
abbrev kS (mv pt:LR9) (qs rs:List Rat) (wb:Int):Int:=qE (jL mv pt)*qE (jL mv pt)*wb*cM ((lX qs rs).map nm)
inductive CT (K:FG9) (C Cc:Addr) (vs:List V) (H:Hp) (Q:VK) (E9:XK):Prop
 | mk (x kn t p:Addr) (H0:Hp) (mv pt lk:LR9) (qs rs:List Rat) (wl:List (List Int)) (wb:Int) (σ ω b:Nat):vs=[.ref x,.ref t]->HH K H0 H C Cc x kn mv pt lk qs rs->iH mv pt lk->HQ mv pt qs rs σ ω->H t=some (.tup [.ref p,.int wb])->GI H p wl->wl.length=mv.length->(∀l∈wl,l.length=mv.length)->(∀l∈wl,∀z∈l,Sz b z)->Sz b wb->b+2*σ+ω+40<=4000000->(∀t' r ys H',H' t'=some (.tup [.ref r,.int (kS mv pt qs rs wb)])->aA H H'->H r=none->H' r=some (.lst ys)->Paired (z6 H H') (d7 mv pt qs rs wl wb) ys->Q (.ref t') H')->CT K C Cc vs H Q E9
def cI (A:Addr->Bool) (H:Hp):Hp:=λa=>if A a=true then none else H a
def mB (A:Addr->Bool) (H:Hp):Prop:=∀a,A a=true->∃vs,H a=some (.lst vs)
def fk (A:Addr->Bool) (k:Addr):Addr->Bool:=λa=>A a || a == k
def tE (k:Addr) (H H':Hp):Prop:=∀a o,a≠k->H a=some o->H' a=some o
section
variable {A:Addr->Bool} {kn:Addr} {H H' H'':Hp} {o:HO} {a:Addr}
theorem aZ:aA (cI A H) H:=λa o h=>by
 unfold cI at h
 split at h
 ·cases h
 ·exact h
theorem jC (k:A kn=true) (s:tE kn H H'):aA (cI A H) (cI A H'):=λa o h=>by
 unfold cI at h ⊢
 split at h
 ·cases h
 ·rename_i n
  rw[if_neg n];exact s _ _ (λz=>n (by rw[z];exact k)) h
theorem b8 (s:aA H H'):aA (cI A H) (cI A H'):=λa o h=>by
 unfold cI at h ⊢
 split at h
 ·cases h
 ·rename_i n
  rw[if_neg n];exact s _ _ h
theorem vb (k:A kn=true):cI A (upd H kn o)=cI A H:=by
 funext a;unfold cI;by_cases e:A a=true
 ·rw[if_pos e,if_pos e]
 ·rw[if_neg e,if_neg e,aN λz=>e (by rw[z];exact k)]
theorem fD (h:H a=some o) (n:A a=false):cI A H a=some o:=by
 unfold cI;rw[n];exact h
theorem aA.smx (s:aA H H'):tE kn H H':=λa o _ h=>s a o h
theorem tE.trans (s:tE kn H H') (s':tE kn H' H''):tE kn H H'':=λa o n h=>s' _ _ n (s _ _ n h)
theorem tE.put (s:tE kn H H'):tE kn H (upd H' kn o):=λa o' n h=>by rw[aN n];exact s _ _ n h
theorem tE.after (s:tE kn H H') (n:H a=none):tE kn H (upd H' a o):=λb o' nb h=>by rw[aN λz=>by rw[z,n] at h;cases h];exact s _ _ nb h
theorem mB.same (h:mB A H) (s:aA H H'):mB A H':=λa ha=>by obtain ⟨vs,g⟩:=h a ha;exact ⟨vs,s _ _ g⟩
theorem mB.smx (h:mB A H) (s:tE kn H H') (g:H' kn=some (.lst vs)):mB A H':=λa ha=>by
 by_cases e:a=kn
 ·exact ⟨vs,by rw[e];exact g⟩
 ·obtain ⟨vs,g⟩:=h a ha;exact ⟨vs,s _ _ e g⟩
theorem mB.new (h:mB A H) (n:H a=none):A a=false:=by
 cases e:A a with
 | false=>rfl
 | true=>obtain ⟨vs,g⟩:=h a e;rw[n] at g;cases g
theorem mB.tup {us:List V} (h:mB A H) (g:H a=some (.tup us)):A a=false:=by
 cases e:A a with
 | false=>rfl
 | true=>obtain ⟨vs,g'⟩:=h a e;rw[g] at g';cases g'
theorem E3 (h:A a=false) (n:a≠k):fk A k a=false:=by
 unfold fk;rw[h];simpa using n
theorem iS:fk A k k=true:=by unfold fk;simp
theorem ma (h:A a=true):fk A k a=true:=by unfold fk;rw[h];rfl
theorem mB.ad (h:mB A H) (g:H k=some (.lst vs)):mB (fk A k) H:=λa ha=>by
 unfold fk at ha;rcases iJ.mp ha with z | z
 ·exact h a z
 ·rw[show a=k by simpa using z];exact ⟨vs,g⟩
theorem pT (n:H k=none) (s:aA (cI A H) (cI A H')):aA (cI A H) (cI (fk A k) H'):=λa o h=>by
 have h':=s _ _ h;unfold cI at h h' ⊢
 split at h
 ·cases h
 ·rename_i na
  rw[if_neg na] at h';rw[if_neg]
  ·exact h'
  ·rw[E3 (by simpa using na) λz=>by rw[z,n] at h;cases h];exact bu
end
def JX (H:Hp) (wl:List (List Int)) (wb:Int) (sl:List (List Int)) (sb:Int) (v:V):Prop:=∃t tw ts pw ps,v=.ref t/\H t=some (.tup [.ref tw,.ref ts])/\H tw=some (.tup [.ref pw,.int wb])/\GI H pw wl/\H ts=some (.tup [.ref ps,.int sb])/\GI H ps sl
theorem JX.same (h:JX H wl wb sl sb v) (s:aA H H'):JX H' wl wb sl sb v:=by
 obtain ⟨t,tw,ts,pw,ps,e,g1,g2,G1,g3,G2⟩:=h;exact ⟨t,tw,ts,pw,ps,e,s _ _ g1,s _ _ g2,G1.same s,s _ _ g3,G2.same s⟩
inductive Fz (K:FG9) (C Cc:Addr) (vs:List V) (H:Hp) (Q:VK) (E9:XK):Prop
 | mk (A:Addr->Bool) (x dx sy b1 b2 b3:Addr) (Hb H0:Hp) (mv pt lk:LR9) (qs rs fs:List Rat) (M:Int):vs=[.ref x,.ref sy,.ref b1,.ref b2,.ref b3]->Hb x=none->Hb dx=none->dx≠x->H=upd (upd Hb dx (.own x)) x (.ins Cc dx [])->mB A Hb->oz K H0 (cI A Hb) C sy mv pt lk->cg K (cI A Hb) b1 qs->cg K (cI A Hb) b2 rs->cg K (cI A Hb) b3 fs->fs.length<=20->my M (fs.map nm)->(∀kn v H',aA Hb H'->Hb kn=none->HH K H0 (cI (fk A kn) H') C Cc x kn mv pt lk qs rs->H' kn=some (.lst [v])->JX (cI (fk A kn) H') (Ea (ck (fs.map nm) (cM (fs.map nm)))) (cM (fs.map nm)) [] 1 v->Q .non H')->Fz K C Cc vs H Q E9
section
variable {mv pt lk:LR9}
theorem uv:(nL rows).length=rows.length:=ag ..
theorem vT (h:∀xs∈rows,xs.length=n):∀l∈nL rows,l.length=n:=λl hl=>by
 unfold nL at hl;obtain ⟨xs,hx,rfl⟩:=ay.mp hl;unfold ck;rw[ag,ag];exact h xs hx
theorem yq:(jL mv pt).length=pt.length+mv.length:=by unfold jL;rw[aD,lE]
theorem xU (D:iH mv pt lk):∀xs∈jL mv pt,xs.length=mv.length:=λxs hx=>by
 unfold jL at hx;rcases aw.mp hx with hx | hx
 ·exact D.pw xs hx
 ·exact vS xs hx
end
theorem Ph (hi:i < zs.length):(Ea zs)[i]?=some ((List.range zs.length).map λj=>if j=i then zs.getD j 0 else 0):=by
 unfold Ea;rw[aB,c8 hi];rfl
theorem xZ:∀l∈DA sl wl ob,l.length=sl.length:=λl hl=>by
 unfold DA at hl;obtain ⟨s,hs,rfl⟩:=ay.mp hl;unfold rj;rw[ag,ag]
theorem wt:(DA sl wl ob).length=sl.length:=ag ..
def fj (ls:List (List Int)):Nat->List (List Int)×Int
 | 0=>(ls,1)
 | k+1=>(Ho (fj ls k).1 k k (fj ls k).2,((Ho (fj ls k).1 k k (fj ls k).2).getD k []).getD k 0)
structure QG (ls:List (List Int)) (m N j:Nat):Prop where
 len:∀k,k<=m->(fj ls k).1.length=N
 wide:∀k,k<=m->∀l∈(fj ls k).1,l.length=N
 pos:∀k,k<=m->0 < (fj ls k).2
 sb:∀k,k<=m->Sz j (fj ls k).2
 sz:∀k,k<=m->∀l∈(fj ls k).1,∀z∈l,Sz j z
abbrev Li (ls:List (List Int)) (m:Nat):List (List Int):=(fj ls m).1.map λl=>l.drop m
abbrev Dz (ls:List (List Int)) (m:Nat):List (List Int):=(Li ls m).drop m
abbrev OB (ls:List (List Int)) (m:Nat):List (List Int):=(Li ls m).take m
inductive C6 (K:FG9) (C Cc:Addr) (vs:List V) (H:Hp) (Q:VK) (E9:XK):Prop
 | mk (x kn t p:Addr) (H0:Hp) (mv pt lk:LR9) (qs rs:List Rat) (wl:List (List Int)) (wb:Int) (σ ω b j:Nat):vs=[.ref x,.ref t]->HH K H0 H C Cc x kn mv pt lk qs rs->iH mv pt lk->HQ mv pt qs rs σ ω->H t=some (.tup [.ref p,.int wb])->GI H p wl->wl.length=mv.length->(∀l∈wl,l.length=mv.length)->(∀l∈wl,∀z∈l,Sz b z)->Sz b wb->b+2*σ+ω+40<=4000000->0 < kS mv pt qs rs wb->QG (d7 mv pt qs rs wl wb) pt.length (pt.length+mv.length) j->j+(b+2*σ+ω+40)<=4400000->(∀v t tw ts pw ps H',v=.ref t->aA H H'->H' t=some (.tup [.ref tw,.ref ts])->H' tw=some (.tup [.ref pw,.int (xO ((fj (d7 mv pt qs rs wl wb) pt.length).2*kS mv pt qs rs wb) (Dz (d7 mv pt qs rs wl wb) pt.length))])->Ec H H' pw (wW ((fj (d7 mv pt qs rs wl wb) pt.length).2*kS mv pt qs rs wb) (Dz (d7 mv pt qs rs wl wb) pt.length))->H' ts=some (.tup [.ref ps,.int (-(fj (d7 mv pt qs rs wl wb) pt.length).2)])->Ec H H' ps (OB (d7 mv pt qs rs wl wb) pt.length)->Q v H')->C6 K C Cc vs H Q E9
abbrev JW:Type:=(List (List Int)×Int)×(List (List Int)×Int)
def knN (mv pt:LR9) (qs rs:List Rat) (w:List (List Int)×Int):JW:=((wW ((fj (d7 mv pt qs rs w.1 w.2) pt.length).2*kS mv pt qs rs w.2) (Dz (d7 mv pt qs rs w.1 w.2) pt.length),xO ((fj (d7 mv pt qs rs w.1 w.2) pt.length).2*kS mv pt qs rs w.2) (Dz (d7 mv pt qs rs w.1 w.2) pt.length)),(OB (d7 mv pt qs rs w.1 w.2) pt.length,-(fj (d7 mv pt qs rs w.1 w.2) pt.length).2))
def dh (mv pt:LR9) (qs rs fs:List Rat):Nat->JW
 | 0=>((Ea (ck (fs.map nm) (cM (fs.map nm))),cM (fs.map nm)),([],1))
 | t+1=>knN mv pt qs rs (dh mv pt qs rs fs t).1
structure Ml (mv pt:LR9) (qs rs fs:List Rat) (T σ ω b j:Nat):Prop where
 st:HQ mv pt qs rs σ ω
 t8:T<=8
 l1:b+2*σ+ω+40<=4000000
 l2:j+(b+2*σ+ω+40)<=4400000
 l3:b<=2000000/\j<=2200000
 lw:∀t,t<=T->(dh mv pt qs rs fs t).1.1.length=mv.length
 ww:∀t,t<=T->∀l∈(dh mv pt qs rs fs t).1.1,l.length=mv.length
 sw:∀t,t<=T->∀l∈(dh mv pt qs rs fs t).1.1,∀z∈l,Sz b z
 wb:∀t,t<=T->0 < (dh mv pt qs rs fs t).1.2/\Sz b (dh mv pt qs rs fs t).1.2
 kp:∀t,t < T->0 < kS mv pt qs rs (dh mv pt qs rs fs t).1.2
 ah:∀t,t < T->QG (d7 mv pt qs rs (dh mv pt qs rs fs t).1.1 (dh mv pt qs rs fs t).1.2) pt.length (pt.length+mv.length) j
abbrev QF (H:Hp) (d:JW) (v:V):Prop:=JX H d.1.1 d.1.2 d.2.1 d.2.2 v
def sG (A:Addr->Bool) (S:Nat->JW) (kn:Addr) (H:Hp) (vs:List V):Prop:=H kn=some (.lst vs)/\1<=vs.length/\vs.length<=9/\Paired (QF (cI A H)) ((List.range vs.length).map S) vs
section
variable {K:FG9} {A:Addr->Bool} {S:Nat->JW} {kn r p a:Addr} {H H0 H1 H2:Hp} {us:List V}
theorem Ec.hid (h:Ec H0 H p ls) (n:mB A H0):GI (cI A H) p ls:=by
 obtain ⟨np,xs,g,r⟩:=h;exact ⟨xs,fD g (n.new np),Paired.imp' (λ_ _ ⟨q,e,nq,g⟩=>⟨q,e,fD g (n.new nq)⟩) r⟩
theorem sG.same (h:sG A S kn H us) (s:aA H H1):sG A S kn H1 us:=by
 obtain ⟨g,a,b,pr⟩:=h;exact ⟨s _ _ g,a,b,Paired.imp' (λ_ _ z=>JX.same z (b8 s)) pr⟩
theorem xS (h:qG K H a xs) (hl:mB A H):qG K (cI A H) a xs:=by
 rcases h with (h | ⟨o,h⟩) | h
 ·exact .inl (.inl (fD h (hl.tup h)))
 ·refine .inl (.inr ⟨o,fD h ?_⟩);cases e:A a with
  | false=>rfl
  | true=>obtain ⟨vs,g'⟩:=hl a e;rw[h] at g';cases g'
 ·exact .inr h
theorem cg.hid (h:cg K H p xs) (hl:mB A H) (n:A p=false):cg K (cI A H) p xs:=by
 obtain ⟨zs,g,r⟩:=h;exact ⟨zs,fD g n,Paired.imp' (λ_ _ ⟨q,e,s⟩=>⟨q,e,xS s hl⟩) r⟩
theorem Jm (s:aA (cI A H) (cI A H1)) (n:H1 r=none):cI A H r=none:=s.none (by
 unfold cI
 split
 ·rfl
 ·exact n)
theorem cN.hid (h:cN K H1 H2 p rows) (h2:mB A H2) (h1:mB A H1) (s:aA (cI A H) (cI A H1)) (n:A p=false):cN K (cI A H) (cI A H2) p rows:=by
 obtain ⟨zs,gz,r,nn⟩:=h;exact ⟨zs,fD gz n,Paired.imp' (λ_ _ ⟨q,e,nq,R⟩=>⟨q,e,Jm s nq,R.hid h2 (h1.new nq)⟩) r,nn⟩
end
inductive Fu (K:FG9) (C Cc:Addr) (vs:List V) (H:Hp) (Q:VK) (E9:XK):Prop
 | mk (A:Addr->Bool) (x kn:Addr) (H0:Hp) (mv pt lk:LR9) (qs rs fs:List Rat) (T σ ω b j l:Nat) (us:List V):vs=[.ref x,.int l]->mB A H->A kn=true->HH K H0 (cI A H) C Cc x kn mv pt lk qs rs->iH mv pt lk->Ml mv pt qs rs fs T σ ω b j->l<=T->sG A (dh mv pt qs rs fs) kn H us->(∀v us' H',tE kn H H'->sG A (dh mv pt qs rs fs) kn H' us'->QF (cI A H') (dh mv pt qs rs fs l) v->Q v H')->Fu K C Cc vs H Q E9
inductive CL (K:FG9) (C Cc:Addr) (vs:List V) (H:Hp) (Q:VK) (E9:XK):Prop
 | mk (A:Addr->Bool) (x kn:Addr) (H0:Hp) (mv pt lk:LR9) (qs rs fs:List Rat) (T σ ω b j l:Nat) (us:List V):vs=[.ref x,.int l]->mB A H->A kn=true->HH K H0 (cI A H) C Cc x kn mv pt lk qs rs->iH mv pt lk->Ml mv pt qs rs fs T σ ω b j->l<=T->sG A (dh mv pt qs rs fs) kn H us->(∀r us' H',tE kn H H'->sG A (dh mv pt qs rs fs) kn H' us'->H r=none->A r=false->cN K (cI A H) (cI A H') r (whQ (dh mv pt qs rs fs l).1.1 (dh mv pt qs rs fs l).1.2)->Q (.ref r) H')->CL K C Cc vs H Q E9
def kY (mv pt:LR9) (qs rs fs:List Rat) (l:Nat) (st:List Rat):List Rat:=BH (dh mv pt qs rs fs l).2.1 (dh mv pt qs rs fs l).2.2 st
inductive Fx (K:FG9) (C Cc:Addr) (vs:List V) (H:Hp) (Q:VK) (E9:XK):Prop
 | mk (A:Addr->Bool) (x kn s:Addr) (H0:Hp) (mv pt lk:LR9) (qs rs fs st:List Rat) (T σ ω b j l:Nat) (M:Int) (us:List V):vs=[.ref x,.ref s,.int l]->mB A H->A kn=true->HH K H0 (cI A H) C Cc x kn mv pt lk qs rs->iH mv pt lk->Ml mv pt qs rs fs T σ ω b j->l<=T->sG A (dh mv pt qs rs fs) kn H us->1<=l->cg K (cI A H) s st->st.length=mv.length->my M (st.map nm)->(∀r us' H',tE kn H H'->sG (fk A r) (dh mv pt qs rs fs) kn H' us'->H r=none->A r=false->cg K (cI A H') r (kY mv pt qs rs fs l st)->Q (.ref r) H')->Fx K C Cc vs H Q E9
def lF (mv pt:LR9) (qs rs fs st:List Rat) (T:Nat):Nat->List Rat
 | 0=>st
 | i+1=>jX mv pt (lF mv pt qs rs fs st T i) (kY mv pt qs rs fs (T - i) (lF mv pt qs rs fs st T i))
def Qf (mv pt:LR9) (qs rs fs st:List Rat) (T:Nat):LR9:=(List.range T).map λi=>kY mv pt qs rs fs (T - i) (lF mv pt qs rs fs st T i)
structure Oy (mv pt:LR9) (qs rs fs st:List Rat) (T:Nat):Prop where
 ls:st.length=mv.length
 la:∀i,i<=T->(lF mv pt qs rs fs st T i).length=mv.length
 ld:∀i,i < T->(kY mv pt qs rs fs (T - i) (lF mv pt qs rs fs st T i)).length=pt.length
 mm:∀i,i<=T->∃M,my M ((lF mv pt qs rs fs st T i).map nm)
 fn:∀i,i < T->kQ 900000 900000 (lF mv pt qs rs fs st T i++kY mv pt qs rs fs (T - i) (lF mv pt qs rs fs st T i))
 nx:∀i,i < T->PR mv pt (lF mv pt qs rs fs st T i) (kY mv pt qs rs fs (T - i) (lF mv pt qs rs fs st T i))
 sd:∀i,i < T->∀z∈kY mv pt qs rs fs (T - i) (lF mv pt qs rs fs st T i),qF z
 dt:Hw st (BH (dh mv pt qs rs fs T).1.1 (dh mv pt qs rs fs T).1.2 st)
theorem sG.hide (h:sG A S kn H us) (s:aA H H') (n:H p=none):sG (fk A p) S kn H' us:=by
 obtain ⟨g,a,b,pr⟩:=h;exact ⟨s _ _ g,a,b,Paired.imp' (λ_ _ z=>JX.same z (pT n (b8 s))) pr⟩
def Cy (K:FG9) (A:Addr->Bool) (H0 H:Hp) (xs:List Rat) (v:V):Prop:=∃q zs,v=.ref q/\A q=true/\H0 q=none/\H q=some (.lst zs)/\Paired (b6 K (cI A H)) xs zs
theorem Cy.smx {K:FG9} (h:Cy K A H0 H xs v) (s:tE kn H H') (n:H0 kn≠none) (up:∀a,A a=true->A' a=true) (m:aA (cI A H) (cI A' H')):Cy K A' H0 H' xs v:=by
 obtain ⟨q,zs,e,a,nq,g,r⟩:=h;exact ⟨q,zs,e,up q a,nq,s _ _ (λz=>n (by rw[<- z];exact nq)) g,Paired.imp' (λ_ _ z=>z.same m) r⟩
theorem uH {K:FG9} {rows:LR9} (g:H p=some (.lst vs)) (pr:Paired (Cy K A H0 H) rows vs):EN.R K H (.ref p) rows:=⟨p,vs,rfl,bP.of g,Paired.imp' (λ_ _ ⟨q,zs,e,_,_,gz,r⟩=>⟨q,zs,e,bP.of gz,Paired.imp' (λ_ _ z=>z.same aZ) r⟩) pr⟩
theorem cg.nums {K:FG9} (h:cg K (cI A H) p xs) (l:mB A' H):∃zs,H p=some (.lst zs)/\Paired (b6 K (cI A' H)) xs zs:=by
 obtain ⟨zs,g,r⟩:=h;exact ⟨zs,aZ _ _ g,Paired.imp' (λ_ _ z=>by obtain ⟨q,e,s⟩:=z.same aZ;exact ⟨q,e,xS s l⟩) r⟩
inductive FA (K:FG9) (C Cc:Addr) (vs:List V) (H:Hp) (Q:VK) (E9:XK):Prop
 | mk (A:Addr->Bool) (x kn s:Addr) (H0:Hp) (mv pt lk:LR9) (qs rs fs st:List Rat) (T σ ω b j l:Nat) (us:List V):vs=[.ref x,.ref s,.int l]->mB A H->A kn=true->HH K H0 (cI A H) C Cc x kn mv pt lk qs rs->iH mv pt lk->Ml mv pt qs rs fs T σ ω b j->l<=T->sG A (dh mv pt qs rs fs) kn H us->Lv mv pt lk->cg K (cI A H) s st->Oy mv pt qs rs fs st l->(∀A2 t e p us' ws H',H' t=some (.tup [.ref e,.ref p])->(∀a,A a=true->A2 a=true)->(∀a,A2 a=true->A a=true\/H a=none)->mB A2 H'->A2 p=true->H p=none->tE kn H H'->aA (cI A H) (cI A2 H')->sG A2 (dh mv pt qs rs fs) kn H' us'->b6 K (cI A2 H') (iF st (BH (dh mv pt qs rs fs l).1.1 (dh mv pt qs rs fs l).1.2 st)) (.ref e)->H' p=some (.lst ws)->Paired (Cy K A2 H H') (Qf mv pt qs rs fs st l) ws->V.ref p∉ws->Q (.ref t) H')->FA K C Cc vs H Q E9
inductive Fo (K:FG9) (vs:List V) (H:Hp) (Q:VK) (E9:XK):Prop
 | mk (b:Addr) (m β:Nat):vs=[.ref b,.int m,.int β]->fP H b->m<=8->β<=1->(∀r ws H',H r=none->cg K H' r ws->ws.length=m->(∀w∈ws,(0<=w/\(0 < β->0 < w))/\Dr 1000 w)->fP H' b->cz b H H'->Q (.ref r) H')->Fo K vs H Q E9
theorem Pe {t b:Int} (h:z*(b:Rat)=(t:Rat)) (hb:0 < b) (ht:0<=t):0<=z:=by
 rcases Int.lt_or_eq_of_le ht with q | q
 ·exact bY (IS h hb q)
 ·have h1:(b:Rat)≠0:=λz=>by have:=mU z;lia
  rw[<- q] at h;rcases Rat.mul_eq_zero.mp (show z*(b:Rat)=0 from h) with y | y
  ·rw[y];exact AR
  ·exact absurd y h1
structure DV (mv pt:LR9) (qs rs fs:List Rat):Prop where
 lq:qs.length=mv.length
 lr:rs.length=pt.length
 lf:fs.length=mv.length
 q0:∀w∈qs,0<=w/\Dr 1000 w
 r0:∀w∈rs,0 < w/\Dr 1000 w
 f0:∀w∈fs,0<=w/\Dr 1000 w
inductive CU (K:FG9) (vs:List V) (H:Hp) (Q:VK) (E9:XK):Prop
 | mk (b r:Addr) (H0:Hp) (mv pt lk:LR9):vs=[.ref b,.ref r]->fP H b->H0 b≠none->eK K H0 H r mv pt lk->iH mv pt lk->(∀l a1 a2 a3 qs rs fs H',H l=none->H a1=none->H a2=none->H a3=none->H' l=some (.lst [.ref a1,.ref a2,.ref a3])->cg K H' a1 qs->cg K H' a2 rs->cg K H' a3 fs->DV mv pt qs rs fs->fP H' b->cz b H H'->Q (.ref l) H')->CU K vs H Q E9
def PZ (mv pt:LR9) (T:Nat):Prop:=PL mv pt T/\T<=8/\(3<=mv.length->T<=4)/\(5<=mv.length->T<=3)/\(6<=mv.length->T<=2)
theorem PL.less (h:PL mv pt T) (l:T'<=T):PL mv pt T':=by
 obtain ⟨a,b⟩:=h;refine ⟨by lia,?_⟩;rcases b with b | ⟨b,c,d⟩
 ·exact .inl (by lia)
 ·exact .inr ⟨b,λz=>by have:=c z;lia,λz y=>by have:=d z y;lia⟩
theorem NU:∀n,n<=8->∃v:Nat,([V.int 8,V.int 8,V.int 8,V.int 5,V.int 4,V.int 3,V.int 2,V.int 2,V.int 2]:List V)[n]?=some (.int (v:Int))/\v<=8/\(4<=n->v<=4)/\(5<=n->v<=3)/\(6<=n->v<=2)
 | 0,_=>⟨8,rfl,by decide,by decide,by decide,by decide⟩
 | 1,_=>⟨8,rfl,by decide,by decide,by decide,by decide⟩
 | 2,_=>⟨8,rfl,by decide,by decide,by decide,by decide⟩
 | 3,_=>⟨5,rfl,by decide,by decide,by decide,by decide⟩
 | 4,_=>⟨4,rfl,by decide,by decide,by decide,by decide⟩
 | 5,_=>⟨3,rfl,by decide,by decide,by decide,by decide⟩
 | 6,_=>⟨2,rfl,by decide,by decide,by decide,by decide⟩
 | 7,_=>⟨2,rfl,by decide,by decide,by decide,by decide⟩
 | 8,_=>⟨2,rfl,by decide,by decide,by decide,by decide⟩
 | n+9,h=>absurd h (by lia)
inductive Io (K:FG9) (vs:List V) (H:Hp) (Q:VK) (E9:XK):Prop
 | mk (b r:Addr) (H0:Hp) (mv pt lk:LR9):vs=[.ref b,.ref r]->fP H b->H0 b≠none->eK K H0 H r mv pt lk->iH mv pt lk->(∀xs∈mv++pt,∀x∈xs,qF x)->(∀(T:Nat) H',PZ mv pt T->fP H' b->cz b H H'->Q (.int T) H')->Io K vs H Q E9
inductive FC (K:FG9) (C Cc:Addr) (vs:List V) (H:Hp) (Q:VK) (E9:XK):Prop
 | mk (A:Addr->Bool) (r x kn s:Addr) (H0 H1:Hp) (mv pt lk:LR9) (qs rs fs st:List Rat) (T σ ω b j l:Nat) (us:List V):vs=[.ref r,.ref x,.ref s,.int l]->mB A H->A kn=true->HH K H0 (cI A H) C Cc x kn mv pt lk qs rs->iH mv pt lk->Ml mv pt qs rs fs T σ ω b j->l<=T->sG A (dh mv pt qs rs fs) kn H us->eK K H1 (cI A H) r mv pt lk->cg K (cI A H) s st->Oy mv pt qs rs fs st l->(∀A2 p us' ws H',(∀a,A a=true->A2 a=true)->(∀a,A2 a=true->A a=true\/H a=none)->mB A2 H'->A2 p=true->H p=none->tE kn H H'->aA (cI A H) (cI A2 H')->sG A2 (dh mv pt qs rs fs) kn H' us'->H' p=some (.lst ws)->Paired (Cy K A2 H H') (Qf mv pt qs rs fs st l) ws->V.ref p∉ws->Q (.ref p) H')->FC K C Cc vs H Q E9
section
variable {K:FG9} {A:Addr->Bool} {S:Nat->JW} {b q kn:Addr} {H H':Hp} {us:List V}
theorem fP.smx (B:fP H b) (I:Inner H b q) (s:tE kn H H') (nb:b≠kn) (nq:q≠kn):fP H' b/\Inner H' b q:=by
 obtain ⟨q',x,y,z,cs,h1,h2,r⟩:=B;have e:=I.inj ⟨x,y,z,h1⟩;subst e;exact ⟨⟨q,x,y,z,cs,s _ _ nb h1,s _ _ nq h2,r⟩,⟨x,y,z,s _ _ nb h1⟩⟩
theorem cz.smx (u:cz b H H'):tE b H H':=λa o n h=>u.other n h
end
section
variable {ls:List (List Int)} {b:Int} {xs ys:List Rat} {f:Rat}
theorem KY (h:ys.length=xs.length):BH ls b (List.zipWith (λx y=>x+y) xs ys)=List.zipWith (λx y=>x+y) (BH ls b xs) (BH ls b ys):=by
 have lz:(List.zipWith (λx y=>x+y) xs ys).length=xs.length:=by rw[cA,h,Nat.min_self]
 have zg:∀j,j < xs.length->(List.zipWith (λx y=>x+y) xs ys).getD j 0=xs.getD j 0+ys.getD j 0:=λj hj=>by
  rw[ae,cw,ae,ae,ao hj,ao (by lia)];rfl
 unfold BH;rw[lz,h,List.zipWith_map,List.zipWith_self];refine CC λl _=>?_
 rw[bo,bo,bo,<- Rat.add_mul,<- lK];congr 1;refine aS λj hj=>?_
 rw[zg j hj];grind
theorem KS:BH ls b (xs.map λx=>f*x)=(BH ls b xs).map λx=>f*x:=by
 unfold BH;rw[Gh];refine CC λl _=>?_
 rw[ag,Function.comp_apply,bo,bo,<- dM,<- cJ];congr 1;refine aS λj hj=>?_
 have e:(xs.map λx=>f*x).getD j 0=f*xs.getD j 0:=by
  rw[ae,aB,ae,ao hj];rfl
 rw[e];grind
end
section
variable {K:FG9} {A:Addr->Bool} {H0 H:Hp} {C p:Addr} {mv pt lk rows:LR9}
theorem cN.hid0 (h:cN K H0 H p rows) (L:mB A H) (n:∀a,A a=true->H0 a≠none) (np:A p=false):cN K H0 (cI A H) p rows:=by
 obtain ⟨zs,gz,r,nn⟩:=h
 have ne:∀{q},H0 q=none->A q=false:=λ{q} h=>by
  cases e:A q with
  | false=>rfl
  | true=>exact absurd h (n q e)
 exact ⟨zs,fD gz np,Paired.imp' (λ_ _ ⟨q,e,nq,R⟩=>⟨q,e,nq,R.hid L (ne nq)⟩) r,nn⟩
theorem oz.hid0 (h:oz K H0 H C p mv pt lk) (L:mB A H) (n:∀a,A a=true->H0 a≠none):oz K H0 (cI A H) C p mv pt lk:=by
 obtain ⟨dx,a,b,c,g,n1,n2,n3,g1,g2,g3⟩:=h
 have ne:∀{q},H0 q=none->A q=false:=λ{q} h=>by
  cases e:A q with
  | false=>rfl
  | true=>exact absurd h (n q e)
 refine ⟨dx,a,b,c,fD g ?_,n1,n2,n3,g1.hid0 L n (ne n1),g2.hid0 L n (ne n2),g3.hid0 L n (ne n3)⟩;cases e:A p with
 | false=>rfl
 | true=>obtain ⟨vs,g'⟩:=L p e;rw[g] at g';cases g'
theorem eK.hid0 (h:eK K H0 H p mv pt lk) (L:mB A H) (n:∀a,A a=true->H0 a≠none):eK K H0 (cI A H) p mv pt lk:=by
 obtain ⟨a,b,c,g,n1,n2,n3,g1,g2,g3⟩:=h
 have ne:∀{q},H0 q=none->A q=false:=λ{q} h=>by
  cases e:A q with
  | false=>rfl
  | true=>exact absurd h (n q e)
 exact ⟨a,b,c,fD g (L.tup g),n1,n2,n3,g1.hid0 L n (ne n1),g2.hid0 L n (ne n2),g3.hid0 L n (ne n3)⟩
end
structure DX (K:FG9) (H0:Hp) (C Cc c1 kn1 c2 kn2 r bg sA sB:Addr) (mv pt lk:LR9) (qs rs stA stB:List Rat) (X:Hp):Prop where
 C1:HH K H0 X C Cc c1 kn1 mv pt lk qs rs
 C2:HH K H0 X C Cc c2 kn2 mv pt lk qs rs
 P:eK K H0 X r mv pt lk
 g:X bg=some (.lst [.ref sA,.ref sB])
 RA:cg K X sA stA
 RB:cg K X sB stB
theorem DX.same {K:FG9} (h:DX K H0 C Cc c1 kn1 c2 kn2 r bg sA sB mv pt lk qs rs stA stB X) (s:aA X X'):DX K H0 C Cc c1 kn1 c2 kn2 r bg sA sB mv pt lk qs rs stA stB X':=⟨h.C1.same s,h.C2.same s,h.P.same s,s _ _ h.g,h.RA.same s,h.RB.same s⟩
structure oX (b q0 kn1 kn2:Addr) (S:Nat->JW) (A:Addr->Bool) (H:Hp):Prop where
 L:mB A H
 Ab:A b=true
 A1:A kn1=true
 A2:A kn2=true
 B:fP H b
 I:Inner H b q0
 N1:∃us,sG A S kn1 H us
 N2:∃us,sG A S kn2 H us
 ne:kn1≠kn2/\b≠kn1/\b≠kn2/\q0≠kn1/\q0≠kn2
section
variable {b q0 kn1 kn2:Addr} {S:Nat->JW} {A A':Addr->Bool} {H H':Hp}
theorem sG.other (h:sG A S kn H us) (s:tE k H H') (n:kn≠k) (m:aA (cI A H) (cI A' H')):sG A' S kn H' us:=by
 obtain ⟨g,x,y,pr⟩:=h;exact ⟨s _ _ n g,x,y,Paired.imp' (λ_ _ z=>JX.same z m) pr⟩
theorem oX.told (h:oX b q0 kn1 kn2 S A H) (up:∀a,A a=true->A' a=true) (L':mB A' H') (s:tE kn1 H H') (m:aA (cI A H) (cI A' H')) (k:sG A' S kn1 H' us):oX b q0 kn1 kn2 S A' H':=by
 obtain ⟨n1,n2,n3,n4,n5⟩:=h.ne;obtain ⟨B',I'⟩:=h.B.smx h.I s n2 n4;obtain ⟨us2,k2⟩:=h.N2;exact ⟨L',up _ h.Ab,up _ h.A1,up _ h.A2,B',I',⟨us,k⟩,⟨us2,k2.other s (Ne.symm n1) m⟩,h.ne⟩
theorem oX.fresh (h:oX b q0 kn1 kn2 S A H) (up:∀a,A a=true->A' a=true) (L':mB A' H') (s:tE kn2 H H') (m:aA (cI A H) (cI A' H')) (k:sG A' S kn2 H' us):oX b q0 kn1 kn2 S A' H':=by
 obtain ⟨n1,n2,n3,n4,n5⟩:=h.ne;obtain ⟨B',I'⟩:=h.B.smx h.I s n3 n5;obtain ⟨us1,k1⟩:=h.N1;exact ⟨L',up _ h.Ab,up _ h.A1,up _ h.A2,B',I',⟨us1,k1.other s n1 m⟩,⟨us,k⟩,h.ne⟩
theorem oX.bag (h:oX b q0 kn1 kn2 S A H) (u:cz b H H') (B':fP H' b):oX b q0 kn1 kn2 S A H'/\aA (cI A H) (cI A H'):=by
 obtain ⟨n1,n2,n3,n4,n5⟩:=h.ne;have m:=jC h.Ab (cz.smx u);obtain ⟨us1,k1⟩:=h.N1;obtain ⟨us2,k2⟩:=h.N2;obtain ⟨q,x,y,z,cs,hb,_⟩:=id B';exact ⟨⟨h.L.smx (cz.smx u) hb,h.Ab,h.A1,h.A2,B',u.2 _ h.I,⟨us1,k1.other (cz.smx u) (Ne.symm n2) m⟩,⟨us2,k2.other (cz.smx u) (Ne.symm n3) m⟩,h.ne⟩,m⟩
theorem oX.same (h:oX b q0 kn1 kn2 S A H) (s:aA H H'):oX b q0 kn1 kn2 S A H':=by
 obtain ⟨us1,k1⟩:=h.N1;obtain ⟨us2,k2⟩:=h.N2;exact ⟨h.L.same s,h.Ab,h.A1,h.A2,h.B.same s,(by obtain ⟨x,y,z,g⟩:=h.I;exact ⟨x,y,z,s _ _ g⟩),⟨us1,k1.same s⟩,⟨us2,k2.same s⟩,h.ne⟩
theorem oX.put (h:oX b q0 kn1 kn2 S A H) (ha:A a=true) (n1:a≠b) (n2:a≠kn1) (n3:a≠kn2) (n4:a≠q0):oX b q0 kn1 kn2 S A (upd H a (.lst ws))/\cI A (upd H a (.lst ws))=cI A H:=by
 have e:cI A (upd H a (.lst ws))=cI A H:=vb ha;obtain ⟨us1,g1,x1,y1,p1⟩:=h.N1;obtain ⟨us2,g2,x2,y2,p2⟩:=h.N2;refine ⟨⟨λc hc=>?_,h.Ab,h.A1,h.A2,h.B.upd h.I n1 n4,h.I.upd n1,⟨us1,by rw[aN (Ne.symm n2)];exact g1,x1,y1,by rw[e];exact p1⟩,⟨us2,by rw[aN (Ne.symm n3)];exact g2,x2,y2,by rw[e];exact p2⟩,h.ne⟩,e⟩;by_cases z:c=a
 ·exact ⟨ws,by rw[z];exact aE⟩
 ·obtain ⟨vs,g⟩:=h.L c hc;exact ⟨vs,by rw[aN z];exact g⟩
end
section
variable {K:FG9} {A:Addr->Bool} {S:Nat->JW} {kn r:Addr} {H:Hp} {us:List V}
theorem NO:aA (cI (fk A r) H) (cI A H):=λa o h=>by
 have h1:=aZ _ _ h;cases e:A a with
 | false=>exact fD h1 e
 | true =>
  unfold cI at h;rw[if_pos (ma e)] at h;cases h
theorem sG.un (h:sG (fk A r) S kn H us):sG A S kn H us:=by
 obtain ⟨g,x,y,pr⟩:=h;exact ⟨g,x,y,Paired.imp' (λ_ _ z=>JX.same z NO) pr⟩
end
theorem Hr (hw:w<=1000) (lA:stA.length=n) (lB:stB.length=n) (n8:n<=8) (dA:∀z∈stA,Dr (max w 6) z) (dB:∀z∈stB,Dr (max w 6) z) (df:Dr (max (9:Nat) 6) f):qF f/\(∃B,0 < B/\B<=2^600/\∀z∈stA,Fr B (2^30) z)/\(∃B,0 < B/\B<=2^600/\∀z∈stB,Fr B (2^30) z)/\(∃B,0 < B/\B<=2^600/\∀z∈List.zipWith (λx y=>x+y) stA stB,Fr B (2^30) z)/\∃B,0 < B/\B<=2^600/\∀z∈stA.map (λx=>f*x),Fr B (2^30) z:=by
 have m10:max w 6<=2^10:=aj (Nat.max_le.mpr ⟨hw,by decide⟩) (show 1000<=2^10 by decide);have up:∀{x},Dr (max w 6) x->Dr (2^10) x:=λh=>⟨aj h.1 m10,aj h.2 m10⟩
 obtain ⟨B,B0,B1,hB⟩:=rZ (c:=10) (l:=stA++stB) (λx hx=>by
  rcases aw.mp hx with h | h
  ·exact up (dA x h)
  ·exact up (dB x h)) (by decide)
 have B2:B<=2^170:=aj B1 (av (by decide) (by rw[aD];lia));have hA:∀z∈stA,Fr B (2^22) z:=λz h=>hB z (aw.mpr (.inl h))
 have hC:∀z∈stB,Fr B (2^22) z:=λz h=>hB z (aw.mpr (.inr h))
 have le:B<=2^600:=aj B2 (av (by decide) (by decide));have v30:2^22<=2^30:=by decide
 have ff:Fr 2520 9 f:=JA df (Nat.dvd_refl _);refine ⟨FU (M:=2520) (V:=9) (by decide) (aj (show 2520<=2^12 by decide) (av (by decide) (by decide))) (aj (show 9<=2^4 by decide) (av (by decide) (by decide))) ff,⟨B,B0,le,λz h=>(hA z h).mono v30⟩,⟨B,B0,le,λz h=>(hC z h).mono v30⟩,⟨B,B0,le,λz h=>?_⟩,⟨2520*B,c7 (by decide) B0,?_,λz h=>?_⟩⟩
 ·obtain ⟨i,hi,rfl⟩:=List.mem_iff_getElem.mp h;rw[qC];exact ((hA _ (bM _)).add (hC _ (bM _))).mono (by decide)
 ·refine aj (a8 (show 2520<=2^12 by decide) B2) ?_;rw[<- bQ];exact av (by decide) (by decide)
 ·obtain ⟨x,hx,rfl⟩:=ay.mp h;exact (ff.mul (hA x hx)).mono (by decide)
def uK (n:Nat) (W:Nat->Nat->Rat) (p:Nat->Rat) (r:Rat) (c e:Nat):Rat:=W c e - ((aU n λf=>W c f*p f) / (r+aU n λg=>p g*aU n λf=>W g f*p f))*(aU n λg=>p g*W g e)
section
variable {n:Nat} {sd W:Nat->Nat->Rat} {ow:Nat->Rat} {i j k:Nat}
theorem LL (hi:i≠k) (hj:j≠k):stN n sd W ow i j - stN n sd W ow k j / stN n sd W ow k k*stN n sd W ow i k=stN n sd (uK n W (sd k) (ow k)) ow i j:=by
 have e0:stN n sd W ow k k=ow k+aU n λg=>sd k g*aU n λf=>W g f*sd k f:=by
  unfold stN;rw[if_pos rfl,Rat.add_comm]
 have e1:stN n sd W ow k j=aU n λc=>sd j c*aU n λf=>W c f*sd k f:=by
  unfold stN;rw[if_neg (Ne.symm hj),hJ]
 have e2:stN n sd W ow i k=aU n λe=>(aU n λg=>sd k g*W g e)*sd i e:=by
  unfold stN;rw[if_neg hi,hJ]
  rw[aS (g:=λc=>aU n λe=>sd k c*W c e*sd i e) λc _=>by
   rw[<- cJ];exact aS λe _=>by grind]
  rw[jQ];refine aS λe _=>?_
  rw[dO,<- cJ];exact aS λg _=>by grind
 rw[e0,e1,e2];unfold uK;generalize hd:(ow k+aU n λg=>sd k g*aU n λf=>W g f*sd k f)=d;unfold stN
 have e3:(aU n λc=>sd j c*aU n λe=>(W c e - (aU n λf=>W c f*sd k f) / d*(aU n λg=>sd k g*W g e))*sd i e)=(aU n λc=>sd j c*aU n λe=>W c e*sd i e) - (aU n λc=>sd j c*aU n λf=>W c f*sd k f) / d*aU n λe=>(aU n λg=>sd k g*W g e)*sd i e:=by
  rw[bo,dM,dO (aU n λc=>sd j c*aU n λf=>W c f*sd k f),<- cJ,<- qL];refine aS λc _=>?_
  have e4:(aU n λe=>(W c e - (aU n λf=>W c f*sd k f) / d*(aU n λg=>sd k g*W g e))*sd i e)=(aU n λe=>W c e*sd i e) - ((aU n λf=>W c f*sd k f) / d)*aU n λe=>(aU n λg=>sd k g*W g e)*sd i e:=by
   rw[<- cJ,<- qL];exact aS λe _=>by grind
  rw[e4,bo];grind
 rw[e3];grind
end
def Eb (W:Nat->Nat->Rat):Rat:=W 0 0*W 1 1 - W 0 1*W 1 0
theorem uX {d x t y z:Rat} (h:d*t=z):d*(x - t*y)=d*x - z*y:=by
 rw[<- h];grind
theorem KC {a b c p q r t u:Rat} (ht:(r+(p*(a*p+b*q)+q*(b*p+c*q)))*t=a*p+b*q) (hu:(r+(p*(a*p+b*q)+q*(b*p+c*q)))*u=b*p+c*q) :
  (r+(p*(a*p+b*q)+q*(b*p+c*q)))*(a - t*(p*a+q*b))=r*a+(a*c - b*b)*(q*q) /\
  (r+(p*(a*p+b*q)+q*(b*p+c*q)))*(b - t*(p*b+q*c))=r*b - (a*c - b*b)*(p*q) /\
  (r+(p*(a*p+b*q)+q*(b*p+c*q)))*(b - u*(p*a+q*b))=r*b - (a*c - b*b)*(p*q) /\
  (r+(p*(a*p+b*q)+q*(b*p+c*q)))*(c - u*(p*b+q*c))=r*c+(a*c - b*b)*(p*p):=by
 refine ⟨?_,?_,?_,?_⟩
 ·rw[uX ht];grind
 ·rw[uX ht];grind
 ·rw[uX hu];grind
 ·rw[uX hu];grind
theorem KD {d r D A B B' C a b c p q:Rat} (hd:d≠0) (ed:d=r+(p*(a*p+b*q)+q*(b*p+c*q))) (eD:D=a*c - b*b) (hA:d*A=r*a+D*(q*q)) (hB:d*B=r*b - D*(p*q)) (hB':d*B'=r*b - D*(p*q)) (hC:d*C=r*c+D*(p*p)):d*(A*C - B*B')=r*D:=by
 have h:d*(d*(A*C - B*B'))=d*(r*D):=by
  have e:d*(d*(A*C - B*B'))=d*A*(d*C) - d*B*(d*B'):=by grind
  rw[e,hA,hB,hB',hC];grind
 have h2:=congrArg (λx=>d⁻¹*x) h;simp only[<- dM,lH d hd,gY] at h2;grind
section
variable {W:Nat->Nat->Rat} {p:Nat->Rat} {r:Rat}
def oH (n:Nat) (W:Nat->Nat->Rat) (p:Nat->Rat) (r:Rat):Rat:=r+aU n λg=>p g*aU n λf=>W g f*p f
theorem kz:aU 2 f=f 0+f 1:=by
 show (aU 0 f+f 0)+f 1=_
 show ((0:Rat)+f 0)+f 1=_
 rw[Rat.zero_add]
theorem rd2 (sy:W 1 0=W 0 1) (hd:oH 2 W p r≠0) :
  oH 2 W p r*uK 2 W p r 0 0=r*W 0 0+Eb W*(p 1*p 1) /\
  oH 2 W p r*uK 2 W p r 0 1=r*W 0 1 - Eb W*(p 0*p 1) /\
  oH 2 W p r*uK 2 W p r 1 0=r*W 0 1 - Eb W*(p 0*p 1) /\
  oH 2 W p r*uK 2 W p r 1 1=r*W 1 1+Eb W*(p 0*p 0) /\
  oH 2 W p r*Eb (uK 2 W p r)=r*Eb W:=by
 have ep:oH 2 W p r=r+(p 0*(W 0 0*p 0+W 0 1*p 1)+p 1*(W 0 1*p 0+W 1 1*p 1)):=by
  unfold oH;simp only[kz,sy]
 have er:∀c e,uK 2 W p r c e=W c e - ((W c 0*p 0+W c 1*p 1) / oH 2 W p r)*(p 0*W 0 e+p 1*W 1 e):=λc e=>by
  unfold uK oH;simp only[kz]
 have hq:∀x,oH 2 W p r*(x / oH 2 W p r)=x:=λx=>by
  rw[bo,dO x,<- dM,dQ _ hd,gY]
 have eD:Eb W=W 0 0*W 1 1 - W 0 1*W 0 1:=by unfold Eb;rw[sy]
 have h0:=hq (W 0 0*p 0+W 0 1*p 1);have h1:=hq (W 0 1*p 0+W 1 1*p 1);have e00:=er 0 0;have e01:=er 0 1;have e10:=er 1 0;have e11:=er 1 1;rw[sy] at e00 e10 e11;generalize (W 0 0*p 0+W 0 1*p 1) / oH 2 W p r=t at h0 e00 e01;generalize (W 0 1*p 0+W 1 1*p 1) / oH 2 W p r=u at h1 e10 e11;rw[ep] at h0 h1;obtain ⟨k1,k2,k3,k4⟩:=KC h0 h1;rw[<- ep] at k1 k2 k3 k4;rw[<- eD] at k1 k2 k3 k4;rw[<- e00] at k1;rw[<- e01] at k2;rw[<- e10] at k3;rw[<- e11] at k4;refine ⟨k1,k2,k3,k4,?_⟩;exact KD hd ep eD k1 k2 k3 k4
end
section
variable {n:Nat} {W:Nat->Nat->Rat} {p z u v:Nat->Rat} {r s:Rat}
def vC (n:Nat) (W:Nat->Nat->Rat) (u v:Nat->Rat):Rat:=aU n λi=>u i*aU n λj=>W i j*v j
theorem Cj (sy:∀i j,i < n->j < n->W i j=W j i):vC n W u v=vC n W v u:=by
 unfold vC
 rw[aS (g:=λi=>aU n λj=>v j*(W j i*u i)) λi hi=>by
  rw[<- cJ];exact aS λj hj=>by rw[sy i j hi hj];grind]
 rw[jQ];exact aS λj _=>by rw[cJ]
theorem EZ:vC n W (λi=>u i - s*u' i) v=vC n W u v - s*vC n W u' v:=by
 unfold vC;rw[<- cJ,<- qL];exact aS λi _=>by grind
theorem O2:jr n (uK n W p r) z=jr n W z - vC n W z p / oH n W p r*vC n W p z:=by
 have h:=LL (n:=n) (sd:=λk=>if k=0 then p else z) (W:=W) (ow:=λk=>if k=0 then r else 0) (i:=1) (j:=1) (k:=0) (by decide) (by decide);unfold stN at h;simp only[if_pos,if_neg (show ¬(1:Nat)=0 by decide),if_neg (show ¬(0:Nat)=1 by decide),hJ] at h;unfold jr vC oH;rw[<- h,Rat.add_comm r]
theorem Ex (sy:∀i j,i < n->j < n->W i j=W j i):jr n W (λi=>z i - s*p i)=jr n W z - s*vC n W z p - s*vC n W p z+s*s*vC n W p p:=by
 show vC n W (λi=>z i - s*p i) (λi=>z i - s*p i)=vC n W z z - s*vC n W z p - s*vC n W p z+s*s*vC n W p p
 rw[EZ,Cj sy (u:=z),Cj sy (u:=p) (v:=λi=>z i - s*p i),EZ,EZ,Cj sy (u:=z) (v:=p)];grind
theorem IE (sy:∀i j,i < n->j < n->W i j=W j i) (r0:0 < r) (ps:∀z,0<=jr n W z):0 < oH n W p r/\0<=jr n (uK n W p r) z/\jr n (uK n W p r) z<=jr n W z:=by
 have pp:oH n W p r=r+jr n W p:=rfl
 have d0:0 < oH n W p r:=by
  have:=ps p;rw[pp];grind
 have dn:oH n W p r≠0:=by grind
 have hq:oH n W p r*(vC n W z p / oH n W p r)=vC n W z p:=by
  rw[bo,dO (vC n W z p),<- dM,dQ _ dn,gY]
 have hm:=Ex (s:=vC n W z p / oH n W p r) (z:=z) (p:=p) sy;have hp:=ps λi=>z i - vC n W z p / oH n W p r*p i
 have e:=O2 (n:=n) (W:=W) (p:=p) (z:=z) (r:=r);have sb:=Cj sy (u:=p) (v:=z);rw[sb] at e hm
 have pb:vC n W p p=oH n W p r - r:=by
  have:vC n W p p=jr n W p:=rfl;rw[this,pp];grind
 rw[pb] at hm;generalize vC n W z p / oH n W p r=t at hq hm hp e;generalize vC n W z p=y at hq hm e;generalize oH n W p r=d at hq hm d0 dn;rw[hm] at hp;rw[e];have t2:0<=t*t:=by have:=Ik (a:=t) (w:=1) (by decide);rwa [bo,show (1:Rat)⁻¹=1 from by grind,fO] at this
 have e1:t*y=d*(t*t):=by rw[<- hq];grind
 have n1:0<=d*(t*t):=eC (bY d0) t2;have n2:0<=r*(t*t):=eC (bY r0) t2;refine ⟨d0,?_,?_⟩
 ·have e2:t*t*(d - r)=d*(t*t) - r*(t*t):=by grind
  rw[e2] at hp;grind
 ·grind
end
def cQ (x:Rat):Prop:=∃z:Int,x=(z:Rat)
section
variable {x y:Rat}
theorem cQ.add (h:cQ x) (k:cQ y):cQ (x+y):=by
 obtain ⟨a,rfl⟩:=h;obtain ⟨b,rfl⟩:=k;exact ⟨a+b,by rw[lg]⟩
theorem cQ.sub (h:cQ x) (k:cQ y):cQ (x - y):=by
 obtain ⟨a,rfl⟩:=h;obtain ⟨b,rfl⟩:=k;exact ⟨a - b,by rw[Rat.intCast_sub]⟩
theorem cQ.mul (h:cQ x) (k:cQ y):cQ (x*y):=by
 obtain ⟨a,rfl⟩:=h;obtain ⟨b,rfl⟩:=k;exact ⟨a*b,by rw[aM]⟩
theorem cQ.of (h:cQ x) (e:y=x):cQ y:=by rw[e];exact h
end
section
variable {W:Nat->Nat->Rat} {p:Nat->Rat} {r β κ:Rat}
structure Mn (W:Nat->Nat->Rat) (β:Rat):Prop where
 b:cQ β
 w0:cQ (W 0 0*β)
 w1:cQ (W 0 1*β)
 w2:cQ (W 1 1*β)
 d:cQ (Eb W*β)
theorem Mn.rd (h:Mn W β) (sy:W 1 0=W 0 1) (hd:oH 2 W p r≠0) (kr:cQ (κ*r)) (k0:cQ (κ*(p 0*p 0))) (k1:cQ (κ*(p 0*p 1))) (k2:cQ (κ*(p 1*p 1))):Mn (uK 2 W p r) (κ*β*oH 2 W p r)/\uK 2 W p r 1 0=uK 2 W p r 0 1:=by
 obtain ⟨e1,e2,e3,e4,e5⟩:=rd2 sy hd
 have ep:oH 2 W p r=r+(p 0*(W 0 0*p 0+W 0 1*p 1)+p 1*(W 0 1*p 0+W 1 1*p 1)):=by
  unfold oH;simp only[kz,sy]
 have sc:uK 2 W p r 1 0=uK 2 W p r 0 1:=by
  have h:=e3.trans e2.symm;have h2:=congrArg (λx=>(oH 2 W p r)⁻¹*x) h;simp only[<- dM,lH _ hd,gY] at h2;exact h2
 refine ⟨⟨?_,?_,?_,?_,?_⟩,sc⟩
 ·exact cQ.of (((kr.mul h.b).add ((k0.mul h.w0).add (k1.mul h.w1))).add ((k1.mul h.w1).add (k2.mul h.w2))) (by rw[ep];grind)
 ·exact cQ.of ((kr.mul h.w0).add (h.d.mul k2)) (by rw[show uK 2 W p r 0 0*(κ*β*oH 2 W p r)=κ*β*(oH 2 W p r*uK 2 W p r 0 0) by grind,e1];grind)
 ·exact cQ.of ((kr.mul h.w1).sub (h.d.mul k1)) (by rw[show uK 2 W p r 0 1*(κ*β*oH 2 W p r)=κ*β*(oH 2 W p r*uK 2 W p r 0 1) by grind,e2];grind)
 ·exact cQ.of ((kr.mul h.w2).add (h.d.mul k0)) (by rw[show uK 2 W p r 1 1*(κ*β*oH 2 W p r)=κ*β*(oH 2 W p r*uK 2 W p r 1 1) by grind,e4];grind)
 ·exact cQ.of (kr.mul h.d) (by rw[show Eb (uK 2 W p r)*(κ*β*oH 2 W p r)=κ*β*(oH 2 W p r*Eb (uK 2 W p r)) by grind,e5];grind)
end
section
variable {W sd:Nat->Nat->Rat} {ow:Nat->Rat} {β m o:Rat}
theorem Lg {a b c s t u v g h:Rat}:(s*(a*s+b*t)+t*(b*s+c*t)+g)*(u*(a*u+b*v)+v*(b*u+c*v)+h) - (u*(a*s+b*t)+v*(b*s+c*t))*(s*(a*u+b*v)+t*(b*u+c*v))=(s*v - t*u)*(s*v - t*u)*(a*c - b*b)+g*(u*(a*u+b*v)+v*(b*u+c*v))+h*(s*(a*s+b*t)+t*(b*s+c*t))+g*h:=by grind
theorem Ck (ha:cQ (a*β)) (hb:cQ (b*β)) (hc:cQ (c*β)) (hs:cQ (m*s)) (ht:cQ (m*t)) (hu:cQ (m*u)) (hv:cQ (m*v)):cQ (m*m*β*(u*(a*s+b*t)+v*(b*s+c*t))) :=
 cQ.of (((hu.mul hs).mul ha).add (((hu.mul ht).mul hb).add (((hv.mul hs).mul hb).add ((hv.mul ht).mul hc)))) (by grind)
theorem Mn.st (h:Mn W β) (sy:W 1 0=W 0 1) (im:cQ m) (io:cQ o) (s0:cQ (m*sd 0 0)) (s1:cQ (m*sd 0 1)) (s2:cQ (m*sd 1 0)) (s3:cQ (m*sd 1 1)) (o0:cQ (o*ow 0)) (o1:cQ (o*ow 1)):Mn (stN 2 sd W ow) (o*o*(m*m*(m*m))*β)/\stN 2 sd W ow 1 0=stN 2 sd W ow 0 1:=by
 have e00:stN 2 sd W ow 0 0=sd 0 0*(W 0 0*sd 0 0+W 0 1*sd 0 1)+sd 0 1*(W 0 1*sd 0 0+W 1 1*sd 0 1)+ow 0:=by
  unfold stN;simp only[kz,sy,if_pos]
 have e01:stN 2 sd W ow 0 1=sd 1 0*(W 0 0*sd 0 0+W 0 1*sd 0 1)+sd 1 1*(W 0 1*sd 0 0+W 1 1*sd 0 1):=by
  unfold stN;simp only[kz,sy,if_neg (show ¬(0:Nat)=1 by decide),hJ]
 have e10:stN 2 sd W ow 1 0=sd 0 0*(W 0 0*sd 1 0+W 0 1*sd 1 1)+sd 0 1*(W 0 1*sd 1 0+W 1 1*sd 1 1):=by
  unfold stN;simp only[kz,sy,if_neg (show ¬(1:Nat)=0 by decide),hJ]
 have e11:stN 2 sd W ow 1 1=sd 1 0*(W 0 0*sd 1 0+W 0 1*sd 1 1)+sd 1 1*(W 0 1*sd 1 0+W 1 1*sd 1 1)+ow 1:=by
  unfold stN;simp only[kz,sy,if_pos]
 have eD:Eb W=W 0 0*W 1 1 - W 0 1*W 0 1:=by unfold Eb;rw[sy]
 have b00:=Ck h.w0 h.w1 h.w2 s0 s1 s0 s1;have b01:=Ck h.w0 h.w1 h.w2 s0 s1 s2 s3;have b11:=Ck h.w0 h.w1 h.w2 s2 s3 s2 s3;have mm:=im.mul im;have dt:=(s0.mul s3).sub (s1.mul s2);have hd:cQ ((W 0 0*W 1 1 - W 0 1*W 0 1)*β):=by rw[<- eD];exact h.d
 have hb:=h.b;refine ⟨⟨((io.mul io).mul (mm.mul mm)).mul hb,?_,?_,?_,?_⟩,by rw[e10,e01];grind⟩
 ·rw[e00];generalize sd 0 0*(W 0 0*sd 0 0+W 0 1*sd 0 1)+sd 0 1*(W 0 1*sd 0 0+W 1 1*sd 0 1)=x at b00;exact cQ.of (((io.mul io).mul (mm.mul b00)).add ((io.mul o0).mul ((mm.mul mm).mul hb))) (by grind)
 ·rw[e01];generalize sd 1 0*(W 0 0*sd 0 0+W 0 1*sd 0 1)+sd 1 1*(W 0 1*sd 0 0+W 1 1*sd 0 1)=x at b01;exact cQ.of ((io.mul io).mul (mm.mul b01)) (by grind)
 ·rw[e11];generalize sd 1 0*(W 0 0*sd 1 0+W 0 1*sd 1 1)+sd 1 1*(W 0 1*sd 1 0+W 1 1*sd 1 1)=x at b11;exact cQ.of (((io.mul io).mul (mm.mul b11)).add ((io.mul o1).mul ((mm.mul mm).mul hb))) (by grind)
 ·have ed:Eb (stN 2 sd W ow)=(sd 0 0*sd 1 1 - sd 0 1*sd 1 0)*(sd 0 0*sd 1 1 - sd 0 1*sd 1 0)*(W 0 0*W 1 1 - W 0 1*W 0 1)+ow 0*(sd 1 0*(W 0 0*sd 1 0+W 0 1*sd 1 1)+sd 1 1*(W 0 1*sd 1 0+W 1 1*sd 1 1))+ow 1*(sd 0 0*(W 0 0*sd 0 0+W 0 1*sd 0 1)+sd 0 1*(W 0 1*sd 0 0+W 1 1*sd 0 1))+ow 0*ow 1:=by
   unfold Eb;rw[e00,e01,e10,e11];exact Lg
  rw[ed];generalize sd 0 0*(W 0 0*sd 0 0+W 0 1*sd 0 1)+sd 0 1*(W 0 1*sd 0 0+W 1 1*sd 0 1)=x at b00;generalize sd 1 0*(W 0 0*sd 1 0+W 0 1*sd 1 1)+sd 1 1*(W 0 1*sd 1 0+W 1 1*sd 1 1)=y at b11;generalize W 0 0*W 1 1 - W 0 1*W 0 1=z at hd;refine cQ.of ((((io.mul io).mul ((dt.mul dt).mul hd)).add ((io.mul o0).mul (mm.mul b11))).add (((io.mul o1).mul (mm.mul b00)).add ((o0.mul o1).mul ((mm.mul mm).mul hb)))) ?_;grind
end
section
variable {n:Nat} {W sd:Nat->Nat->Rat} {ow p z:Nat->Rat} {r:Rat}
theorem MP (sy:∀i j,i < n->j < n->W i j=W j i):∀i j,i < n->j < n->uK n W p r i j=uK n W p r j i:=λi j hi hj=>by
 have x:∀c,c < n->(aU n λg=>p g*W g c)=aU n λf=>W c f*p f:=λc hc=>aS λg hg=>by rw[sy g c hg hc,dO]
 unfold uK;rw[x i hi,x j hj,sy i j hi hj,bo,bo];grind
def xK (n:Nat) (sd W:Nat->Nat->Rat) (ow:Nat->Rat):Nat->Nat->Nat->Rat
 | 0=>W
 | k+1=>uK n (xK n sd W ow k) (sd k) (ow k)
theorem IK (sy:∀i j,i < n->j < n->W i j=W j i) (ps:∀z,0<=jr n W z):∀k,(∀i,i < k->0 < ow i)->(∀i j,i < n->j < n->xK n sd W ow k i j=xK n sd W ow k j i)/\(∀z,0<=jr n (xK n sd W ow k) z)/\∀z,jr n (xK n sd W ow k) z<=jr n W z
 | 0,_=>⟨sy,ps,λ_=>AR⟩
 | k+1,h=>by
  obtain ⟨a,b,c⟩:=IK sy ps k λi hi=>h i (by lia)
  have o:=h k (by lia);exact ⟨MP a,λz=>(IE a o b).2.1,λz=>gZ (IE a o b).2.2 (c z)⟩
theorem ME (hi:i≠k) (hj:j≠k):stN n sd (xK n sd W ow k) ow i j - stN n sd (xK n sd W ow k) ow k j / stN n sd (xK n sd W ow k) ow k k*stN n sd (xK n sd W ow k) ow i k=stN n sd (xK n sd W ow (k+1)) ow i j:=LL hi hj
end
section
variable {n:Nat} {W:Nat->Nat->Rat}
def A0 (i k:Nat):Rat:=if k=i then 1 else 0
theorem pY (hi:i < n) (hj:j < n):vC n W (A0 i) (A0 j)=W i j:=by
 have e:∀c,(aU n λf=>W c f*A0 j f)=W c j:=λc=>by
  rw[kB (i:=j) hj λf _ nf=>by unfold A0;rw[if_neg nf,iU]];unfold A0;rw[if_pos rfl,fO]
 unfold vC
 rw[kB (i:=i) hi λc _ nc=>by
  show A0 i c*_=0
  unfold A0;rw[if_neg nc,cT]]
 rw[e i];unfold A0;rw[if_pos rfl,gY]
theorem Bt (hi:i < n):jr n W (A0 i)=W i i:=pY hi hi
theorem KI (sy:∀i j,i < n->j < n->W i j=W j i) (ps:∀z,0<=jr n W z) {V:Rat} (hi:i < n) (hj:j < n) (vi:W i i<=V) (vj:W j j<=V):- V<=W i j/\W i j<=V:=by
 have a:=Ex (n:=n) (s:=1) (z:=A0 i) (p:=A0 j) sy;have b:=Ex (n:=n) (s:=-1) (z:=A0 i) (p:=A0 j) sy;have a0:=ps λk=>A0 i k - 1*A0 j k
 have b0:=ps λk=>A0 i k - (-1)*A0 j k
 rw[a,Bt hi,pY hi hj,pY hj hi,pY hj hj,sy j i hj hi] at a0;rw[b,Bt hi,pY hi hj,pY hj hi,pY hj hj,sy j i hj hi] at b0;constructor <;> grind
end
section
variable {mv pt lk:LR9} {qs rs:List Rat} {wl sl ls:List (List Int)} {wb ob sb b:Int} {ot:List Int} {σ ω n m N W0:Nat}
theorem Lb {l:LR9} (h:xs∈l) (hx:x∈xs):nm x∈l.flatten.map nm:=ay.mpr ⟨x,eY.mpr ⟨_,h,hx⟩,rfl⟩
theorem Ib (hM:my M (mv.flatten.map nm)):((((nL mv).getD i []).getD l 0:Int):Rat)=yW mv i l*(qE mv:Rat):=by
 unfold yW nL;rw[ae (l:=List.map _ mv),aB,ae (l:=mv)];cases e:mv[i]? with
 | none =>
  show (((([]:List Int).getD l 0:Int)):Rat)=([]:List Rat).getD l 0*_
  rw[ae,ae];show ((0:Int):Rat)=0*_
  rw[cT];rfl
 | some xs =>
  show (((ck (xs.map nm) (qE mv)).getD l 0:Int):Rat)=xs.getD l 0*_
  unfold ck;rw[ae,aB,aB,ae];cases e2:xs[l]? with
  | none =>
   show ((0:Int):Rat)=0*_
   rw[cT];rfl
  | some x=>exact ky (oS (Lb (ak e) (ak e2)))
theorem EW {a b:Int} (hb:b≠0) (h:cQ ((a:Rat) / (b:Rat))):b∣a:=by
 obtain ⟨z,e⟩:=h;have b0:(b:Rat)≠0:=λq=>hb (mU q)
 refine ⟨z,?_⟩
 have h1:(a:Rat)=(b:Rat)*(z:Rat):=by
  rw[<- e,bo,dO (a:Rat),<- dM,dQ _ b0,gY]
 rw[<- aM] at h1;exact eG.mp h1
theorem Ja (v:List Int) (hi:i < ls.length):(rj ls v).getD i 0=zY (ls.getD i []) v:=by
 unfold rj;rw[ae,aB,ae,ao hi];rfl
theorem FH:(rj ls v).length=ls.length:=ag ..
def qd (wl:List (List Int)) (wb:Int) (i j:Nat):Rat:=eP wl i j / (wb:Rat)
theorem Pk (hs:∀l∈sl,l.length=n) (lw:wl.length=n) (ww:∀l∈wl,l.length=n) (hi:i < sl.length) (hj:j < sl.length):eP (DA sl wl ob) i j=(aU n λc=>eP sl j c*aU n λe=>eP wl c e*eP sl i e)*(ob:Rat):=by
 have e1:(DA sl wl ob).getD i []=(rj sl (rj wl (sl.getD i []))).map λz=>z*ob:=by
  unfold DA;rw[ae,aB,ae,ao hi];rfl
 have hl:∀v,(rj sl v).length=sl.length:=λv=>FH
 have e2:((DA sl wl ob).getD i []).getD j 0=zY (sl.getD j []) (rj wl (sl.getD i []))*ob:=by
  rw[e1,<- Ja _ hj];generalize rj wl (sl.getD i [])=v;rw[ae,aB,ae,ao (by rw[hl];exact hj)];rfl
 unfold eP;rw[e2,aM,wD (hs _ (getD_in hj)) (FH.trans lw)];congr 1;refine aS λc hc=>?_
 rw[Ja _ (by lia),wD (ww _ (getD_in (by lia))) (hs _ (getD_in hi))]
theorem Ii (S:HQ mv pt qs rs σ ω) (D:iH mv pt lk) (lw:wl.length=mv.length) (ww:∀l∈wl,l.length=mv.length) (hb:0 < wb) (hi:i < pt.length+mv.length) (hj:j < pt.length+mv.length) :
  eP (d7 mv pt qs rs wl wb) i j=(kS mv pt qs rs wb:Rat)*stN mv.length (yW (jL mv pt)) (qd wl wb) (λi=>(lX qs rs).getD i 0) i j:=by
 obtain ⟨M,hM⟩:=S.ms;have lsd:(nL (jL mv pt)).length=pt.length+mv.length:=by rw[uv,yq]
 have wsd:∀l∈nL (jL mv pt),l.length=mv.length:=vT (xU D);have wb0:(wb:Rat)≠0:=λq=>by have:=mU q;lia
 have lo:(lX qs rs).length=pt.length+mv.length:=by unfold lX;rw[aD,S.lr,S.lq]
 have e1:eP (d7 mv pt qs rs wl wb) i j=eP (DA (nL (jL mv pt)) wl (cM ((lX qs rs).map nm))) i j+if i=j then (((ck ((lX qs rs).map nm) (cM ((lX qs rs).map nm))).getD i 0:Int):Rat)*((qE (jL mv pt)*qE (jL mv pt)*wb:Int):Rat) else 0:=by
  unfold d7 Qn eP;rw[JM (n:=pt.length+mv.length) (by rw[wt,lsd]) (λl hl=>by rw[xZ l hl,lsd]) hi hj _ (by lia),lg];congr 1;by_cases e:i=j
  ·rw[if_pos ⟨e,by lia⟩,if_pos e,aM]
  ·rw[if_neg λz=>e z.1,if_neg e];rfl
 have tv:∀i c,eP (nL (jL mv pt)) i c=yW (jL mv pt) i c*(qE (jL mv pt):Rat):=λi c=>Ib hM
 have wv:∀c e,eP wl c e=(wb:Rat)*qd wl wb c e:=λc e=>by
  unfold qd;rw[bo,dO (eP wl c e),<- dM,dQ _ wb0,gY]
 have ov:(((ck ((lX qs rs).map nm) (cM ((lX qs rs).map nm))).getD i 0:Int):Rat)=(lX qs rs).getD i 0*((cM ((lX qs rs).map nm):Int):Rat):=Fi;rw[e1,Pk wsd lw ww (by lia) (by lia),ov]
 have e2:(aU mv.length λc=>eP (nL (jL mv pt)) j c*aU mv.length λe=>eP wl c e*eP (nL (jL mv pt)) i e)=((qE (jL mv pt):Rat)*(qE (jL mv pt):Rat)*(wb:Rat))*aU mv.length λc=>yW (jL mv pt) j c*aU mv.length λe=>qd wl wb c e*yW (jL mv pt) i e:=by
  rw[<- cJ];refine aS λc _=>?_
  rw[tv,aS (g:=λe=>((wb:Rat)*(qE (jL mv pt):Rat))*(qd wl wb c e*yW (jL mv pt) i e)) λe _=>by rw[wv,tv];grind,cJ];grind
 rw[e2];unfold stN kS;simp only[aM];by_cases e:i=j
 ·rw[if_pos e,if_pos e];grind
 ·rw[if_neg e,if_neg e];grind
theorem F6 (l1:(fj ls k).1.length=N) (w1:∀l∈(fj ls k).1,l.length=N) (d1:0 < (fj ls k).2) (B:vQ (eP ls) N k (λi=>i) (λj=>j) (eP (fj ls k).1) ((fj ls k).2:Rat)) (kN:k < N) (hW:1<=W0) (ha:∀i,i < N->∀c,Fr 1 W0 (eP ls i c)) (ps:∀z:Nat->Rat,z k=1->0 < jr N (eP ls) z) :
  ((fj ls (k+1)).1.length=N/\(∀l∈(fj ls (k+1)).1,l.length=N)/\0 < (fj ls (k+1)).2/\vQ (eP ls) N (k+1) (λi=>i) (λj=>j) (eP (fj ls (k+1)).1) ((fj ls (k+1)).2:Rat))/\((fj ls (k+1)).2:Rat)=eP (fj ls k).1 k k/\∀i c,i < N->i≠k->eP (fj ls (k+1)).1 i c=(eP (fj ls k).1 k k*eP (fj ls k).1 i c - eP (fj ls k).1 i k*eP (fj ls k).1 k c) / ((fj ls k).2:Rat):=by
 have dq:(0:Rat) < ((fj ls k).2:Rat):=dP.mpr d1;have p0:0 < eP (fj ls k).1 k k:=Ls B dq kN ps;have B2:=B.step kN (c0:=k) (by grind)
 have fc:=λi (hi:i < N)=>Jw (P:=k) (b:=(fj ls k).2) w1 (k:=k) (by lia) (by lia) (i:=i) (by lia) λc=>by
  by_cases e:i=k
  ·subst e;refine ⟨0,?_⟩;rw[show eP (fj ls i).1 i i*eP (fj ls i).1 i c - eP (fj ls i).1 i i*eP (fj ls i).1 i c=0 by grind,bo,cT];rfl
  ·have:=K8 (B2.fr (N:=k+2) (by lia) hW ha hi (c:=c));simp only[if_neg e] at this;exact this
 have ek:∀c,eP (fj ls (k+1)).1 k c=eP (fj ls k).1 k c:=λc=>by
  have:=fc k kN c;rwa [if_pos rfl] at this
 have e2:((fj ls (k+1)).2:Rat)=eP (fj ls k).1 k k:=ek k;refine ⟨⟨by show (Ho ..).length=N;rw[Oa,l1],F5 w1 (by lia),?_,?_⟩,e2,λi c hi ne=>?_⟩
 ·have:(0:Rat) < ((fj ls (k+1)).2:Rat):=by rw[e2];exact p0
  exact dP.mp this
 ·rw[e2];refine B2.congr (λj hj=>?_) λi hi c=>?_
  ·by_cases e:j=k
   ·rw[if_pos e,e]
   ·rw[if_neg e]
  ·exact fc i hi c
 ·have:=fc i hi c;rwa [if_neg ne] at this
theorem JJ (len:ls.length=N) (wide:∀l∈ls,l.length=N) (mN:m<=N) (hW:1<=W0) (ha:∀i,i < N->∀c,Fr 1 W0 (eP ls i c)) (ps:∀k,k < m->∀z:Nat->Rat,z k=1->0 < jr N (eP ls) z):∀k,k<=m->(fj ls k).1.length=N/\(∀l∈(fj ls k).1,l.length=N)/\0 < (fj ls k).2/\vQ (eP ls) N k (λi=>i) (λj=>j) (eP (fj ls k).1) ((fj ls k).2:Rat)
 | 0,_=>⟨len,wide,(show (0:Int) < 1 by decide),vQ.start λ_ _=>rfl⟩
 | k+1,hk=>by
  obtain ⟨l1,w1,d1,B⟩:=JJ len wide mN hW ha ps k (by lia);exact (F6 l1 w1 d1 B (by lia) hW ha (ps k hk)).1
end
section
variable {a l W sd:Nat->Nat->Rat} {ow f z:Nat->Rat} {m n k N:Nat} {d:Rat}
theorem Ek:aU (m+n) f=aU m f+aU n λi=>f (m+i):=by
 induction n with
 | zero=>show aU m f=_+(0:Rat);rw[hJ]
 | succ n ih =>
  show aU (m+n) f+f (m+n)=aU m f+(aU n (λi=>f (m+i))+f (m+n))
  rw[ih];grind
theorem K3 (B:vQ a (m+n) m (λi=>i) (λj=>j) l d):jr n (λi j=>l (m+i) (m+j) / d) z=jr (m+n) a (Mg m l d (m+n) λi=>if i < m then 0 else z (i - m)):=by
 rw[JL B λi hi=>if_pos hi]
 have h0:∀g:Nat->Rat,aU (m+n) (λi=>g i*if i < m then 0 else z (i - m))=aU n λi=>g (m+i)*z i:=λg=>by
  rw[Ek,iq (k:=m) λi hi=>by rw[if_pos hi,iU],Rat.zero_add];refine aS λi _=>?_
  rw[if_neg (by lia),show m+i - m=i by lia]
 unfold jr;rw[aS (k:=m+n) (g:=λi=>(aU (m+n) λj=>l i j / d*if j < m then 0 else z (j - m))*if i < m then 0 else z (i - m)) λi _=>dO _ _,h0];refine aS λi _=>?_
 rw[h0 λj=>l (m+i) j / d,dO]
theorem OS {x:Rat}:0<=x*x:=by have:=Ik (a:=x) (w:=1) (by decide);rwa [bo,show (1:Rat)⁻¹=1 from by grind,fO] at this
theorem OR (ps:∀z,0<=jr n W z) (o0:∀i,i < N->0<=ow i):0<=jr N (stN n sd W ow) z:=by
 rw[LM];have h1:=ps λe=>aU N λi=>z i*sd i e
 have h2:=xR (f:=λi=>ow i*(z i*z i)) N λi hi=>eC (o0 i hi) OS
 grind
theorem MH (ps:∀z,0<=jr n W z) (o0:∀i,i < N->0<=ow i) (hk:k < N) (ok:0 < ow k) (zk:z k=1):0 < jr N (stN n sd W ow) z:=by
 rw[LM];have h1:=ps λe=>aU N λi=>z i*sd i e
 have h2:=Fl (f:=λi=>ow i*(z i*z i)) hk λi hi=>eC (o0 i hi) OS
 rw[zk] at h2;grind
end
structure yf (n:Nat) (wl:List (List Int)) (wb:Int) (b:Nat):Prop where
 len:wl.length=n
 wide:∀l∈wl,l.length=n
 pos:0 < wb
 ps:∀z,0<=jr n (qd wl wb) z
 sl:∀l∈wl,∀z∈l,Sz b z
 sb:Sz b wb
theorem yf.mono (h:yf n wl wb b) (l:b<=b'):yf n wl wb b':=⟨h.len,h.wide,h.pos,h.ps,λl' hl z hz=>(h.sl l' hl z hz).mono l,h.sb.mono l⟩
theorem Ka (h1:Sz k x) (h2:Sz k y):Sz (k+1) (x+y):=by
 unfold Sz at *
 have:=Gj x y;have e:2^(k+1)=2^k*2:=nD ..;generalize 2^k=p at *
 lia
theorem uw:Sz k 0:=gP k
theorem NS {z:Int} (h:z.natAbs<=W):Fr 1 W (z:Rat):=⟨z,by rw[show ((1:Nat):Rat)=1 from rfl,fO],by rw[Nat.mul_one];exact h⟩
theorem Jv (h:∀l∈ls,∀z∈l,Sz k z) (i c:Nat):Fr 1 (2^k) (eP ls i c):=by
 refine NS (aT ?_);show Sz k _
 rw[ae (l:=ls)];cases e:ls[i]? with
 | none=>exact uw
 | some l =>
  show Sz k (l.getD c 0)
  rw[ae];cases e2:l[c]? with
  | none=>exact uw
  | some z=>exact h l (ak e) z (ak e2)
section
variable {mv pt lk:LR9} {qs rs:List Rat} {wl ls:List (List Int)} {wb:Int} {σ ω b n m:Nat}
theorem PJ (hL:L.length=n) (w:∀l∈L,l.length=n) (h:∀l∈L,∀z∈l,Sz k z) (hf:∀i,Sz k (f i)):∀l∈AK L f n,∀z∈l,Sz (k+1) z:=λl hl z hz=>by
 obtain ⟨i,hi,rfl⟩:=b9 hl;obtain ⟨c,hc,rfl⟩:=b9 hz;have hi':i < n:=by rw[uk] at hi;lia
 have hc':c < n:=by rw[so w n (by lia) _ (bM _)] at hc;lia
 have e:=JM (f:=f) hL w hi' hc' n (au _);rw[ae (l:=AK L f n),ao hi,dW,ae,ao hc,dW] at e;rw[e];refine Ka (h _ (getD_in (show i < L.length by lia)) _ (getD_in (by rw[w _ (getD_in (by lia))];exact hc'))) ?_
 split
 ·exact hf i
 ·exact uw
theorem El (S:HQ mv pt qs rs σ ω) (D:iH mv pt lk) (lw:wl.length=mv.length) (ww:∀l∈wl,l.length=mv.length) (sw:∀l∈wl,∀z∈l,Sz b z) (sb:Sz b wb):(∀l∈d7 mv pt qs rs wl wb,∀z∈l,Sz (b+(2*σ+ω+17)) z)/\Sz (b+(2*σ+ω)) (kS mv pt qs rs wb):=by
 have lsd:(nL (jL mv pt)).length=pt.length+mv.length:=by rw[uv,yq]
 have wsd:∀l∈nL (jL mv pt),l.length=mv.length:=vT (xU D);have n8:=D.n8;constructor
 ·refine PJ (k:=b+(2*σ+ω+16)) (wt) (λl hl=>xZ l hl) (λl hl z hz=>?_) λi=>?_
  ·unfold DA at hl;obtain ⟨s,hs,rfl⟩:=ay.mp hl;obtain ⟨y,hy,rfl⟩:=ay.mp hz;unfold rj at hy;obtain ⟨r,hr,rfl⟩:=ay.mp hy;refine ((ve (k:=σ) (j:=b+σ+8) (S.ss r hr) λx hx=>?_).mul S.ob).mono (by rw[wsd r hr];lia);obtain ⟨l,hl',rfl⟩:=ay.mp hx;exact (ve (sw l hl') (S.ss s hs)).mono (by rw[ww l hl'];lia)
  ·have:Sz ω ((ck ((lX qs rs).map nm) (cM ((lX qs rs).map nm))).getD i 0):=by
    rw[ae];cases e:(ck ((lX qs rs).map nm) (cM ((lX qs rs).map nm)))[i]? with
    | none=>exact uw
    | some z=>exact S.os z (ak e)
   exact (this.mul ((S.sb.mul S.sb).mul sb)).mono (by lia)
 ·exact (((S.sb.mul S.sb).mul sb).mul S.ob).mono (by lia)
theorem Fm (S:HQ mv pt qs rs σ ω) (D:iH mv pt lk):(d7 mv pt qs rs wl wb).length=pt.length+mv.length/\∀l∈d7 mv pt qs rs wl wb,l.length=pt.length+mv.length:=by
 have lsd:(nL (jL mv pt)).length=pt.length+mv.length:=by rw[uv,yq]
 constructor
 ·show (AK _ _ _).length=_
  rw[uk,wt,lsd]
 ·intro l hl;rw[so (n:=(nL (jL mv pt)).length) (λl hl=>xZ l hl) _ (by rw[wt];exact au _) l hl,lsd]
theorem pw5 (hk:k<=5):(5*2^w)^k<=2^(k*(w+3)):=by
 rw[hX k,Nat.pow_mul];refine Nat.pow_le_pow_left ?_ k;rw[Gg w,bQ 2 3];exact aL _ (by decide)
theorem Lr (B:vQ (eP ls) n k (λi=>i) (λj=>j) (eP (fj ls k).1) ((fj ls k).2:Rat)) (k4:k<=4) (ha:∀i,i < n->∀c,Fr 1 (2^w) (eP ls i c)) (ll:(fj ls k).1.length=n):Sz (4*(w+3)+1) (fj ls k).2/\∀l∈(fj ls k).1,∀z∈l,Sz (5*(w+3)+1) z:=by
 have lt:∀{e a:Nat},a<=2^e->a < 2^(e+1):=λ{e a} h=>bJ h (hR (by decide) (by lia))
 have up:∀{e e':Nat},e<=e'->2^e<=2^e':=λh=>av (by decide) h
 constructor
 ·refine lt (aj (Ju (B.dfr (N:=5) (by lia) ha)) (aj (pw5 (by lia)) (up (aL _ k4))))
 ·intro l hl z hz;obtain ⟨i,hi,rfl⟩:=b9 hl;obtain ⟨c,hc,rfl⟩:=b9 hz;have:=B.fr (N:=5) (by lia) (gP w) ha (i:=i) (by lia) (c:=c);unfold eP at this;rw[ae (l:=(fj ls k).1),ao hi,dW,ae,ao hc,dW] at this;exact lt (aj (Ju this) (aj (pw5 (by lia)) (up (aL _ (by lia)))))
end
section
variable {mv pt lk:LR9} {qs rs:List Rat} {wl ls:List (List Int)} {wb:Int} {σ ω b n m:Nat}
theorem Dp (h:∀i j,i < n->j < n->a i j=a' i j):jr n a z=jr n a' z:=by
 unfold jr;exact aS λi hi=>by rw[aS λj hj=>by rw[h i j hi hj]]
theorem DG {z g:Int} (hg:0 < g) (d:g∣z):((z / g:Int):Rat)=(z:Rat) / (g:Rat):=by
 obtain ⟨y,rfl⟩:=d;have g0:(g:Rat)≠0:=λq=>by have:=mU q;lia
 rw[vR _ (by lia),aM,bo,dO (g:Rat),dM,dQ _ g0,fO]
theorem LU:eP (Dz ls m) i j=eP (fj ls m).1 (m+i) (m+j):=by
 unfold eP;congr 1;rw[ae (l:=Dz ls m),List.getElem?_drop,aB,ae (l:=(fj ls m).1)];cases e:(fj ls m).1[m+i]? with
 | none=>rfl
 | some l =>
  show (l.drop m).getD j 0=l.getD (m+j) 0
  rw[ae,List.getElem?_drop,ae]
theorem Pj {b:Int} (hb:0 < b):eP (wW b ls) i j=eP ls i j / ((zN b ls.flatten:Int):Rat):=by
 obtain ⟨p,_,h⟩:=wC (zs:=ls.flatten) hb;unfold eP wW;rw[ae (l:=List.map _ ls),aB,ae (l:=ls)];have zz:((0:Int):Rat)=((0:Int):Rat) / ((zN b ls.flatten:Int):Rat):=by rw[bo];show (0:Rat)=0*_;rw[cT]
 cases e:ls[i]? with
 | none=>exact zz
 | some l =>
  show (((l.map λz=>z / zN b ls.flatten).getD j 0:Int):Rat)=((l.getD j 0:Int):Rat) / _
  rw[ae,aB,ae];cases e2:l[j]? with
  | none=>exact zz
  | some z=>exact DG p (h z (eY.mpr ⟨l,ak e,ak e2⟩))
theorem yi {b:Int} (hb:0 < b):qd (wW b ls) (xO b ls) i j=eP ls i j / (b:Rat):=by
 obtain ⟨p,d,_⟩:=wC (zs:=ls.flatten) hb;have g0:((zN b ls.flatten:Int):Rat)≠0:=λq=>by have:=mU q;lia
 have b0:(b:Rat)≠0:=λq=>by have:=mU q;lia
 unfold qd;rw[Pj hb];unfold xO;rw[DG p d];generalize ((zN b ls.flatten:Int):Rat)=g at g0;generalize eP ls i j=x;generalize (b:Rat)=y at b0;rw[bo,bo,bo,bo,Rat.inv_mul_rev,Rat.inv_inv];rw[show x*g⁻¹*(g*y⁻¹)=x*(g⁻¹*g)*y⁻¹ by grind,lH _ g0,fO]
theorem K1 {b:Int} (hb:0 < b) (h:∀l∈ls,∀z∈l,Sz k z):(∀l∈wW b ls,∀z∈l,Sz k z)/\(xO b ls).natAbs<=b.natAbs/\0 < xO b ls:=by
 obtain ⟨p,d,dz⟩:=wC (zs:=ls.flatten) hb
 have le:∀{z:Int},zN b ls.flatten∣z->(z / zN b ls.flatten).natAbs<=z.natAbs:=λ{z} h=>by
  obtain ⟨y,rfl⟩:=h;rw[vR _ (by lia),iN];exact nG _ (by lia)
 refine ⟨λl hl z hz=>?_,le d,Mq hb (Int.le_of_lt p) d⟩;unfold wW at hl;obtain ⟨l',hl',rfl⟩:=ay.mp hl;obtain ⟨y,hy,rfl⟩:=ay.mp hz;exact (h l' hl' y hy).le (le (dz y (eY.mpr ⟨l',hl',hy⟩)))
structure Qi (mv pt:LR9) (qs rs:List Rat):Prop where
 r0:∀i,i < pt.length->0 < (lX qs rs).getD i 0
 q0:∀i,i < pt.length+mv.length->0<=(lX qs rs).getD i 0
theorem uz (hb:0 < wb):0 < kS mv pt qs rs wb:=by
 have h1:0 < qE (jL mv pt):=vA;have h2:0 < cM ((lX qs rs).map nm):=vA;exact hZ (hZ (hZ h1 h1) hb) h2
section
variable (S:HQ mv pt qs rs σ ω) (D:iH mv pt lk) (W:yf mv.length wl wb b) (O:Qi mv pt qs rs)
include S D W O
theorem Em:0<=jr (pt.length+mv.length) (eP (d7 mv pt qs rs wl wb)) z/\∀k,k < pt.length->z k=1->0 < jr (pt.length+mv.length) (eP (d7 mv pt qs rs wl wb)) z:=by
 have B0:(0:Rat) < ((kS mv pt qs rs wb:Int):Rat):=dP.mpr (uz W.pos)
 have e:jr (pt.length+mv.length) (eP (d7 mv pt qs rs wl wb)) z=((kS mv pt qs rs wb:Int):Rat)*jr (pt.length+mv.length) (stN mv.length (yW (jL mv pt)) (qd wl wb) (λi=>(lX qs rs).getD i 0)) z:=by
  rw[<- Dn];exact Dp λi j hi hj=>Ii S D W.len W.wide W.pos hi hj
 rw[e];refine ⟨eC (bY B0) (OR W.ps O.q0),λk hk zk=>dU B0 (MH W.ps O.q0 (by lia) (O.r0 k hk) zk)⟩
theorem Fn:∀k,k<=pt.length->(fj (d7 mv pt qs rs wl wb) k).1.length=pt.length+mv.length/\(∀l∈(fj (d7 mv pt qs rs wl wb) k).1,l.length=pt.length+mv.length)/\0 < (fj (d7 mv pt qs rs wl wb) k).2/\vQ (eP (d7 mv pt qs rs wl wb)) (pt.length+mv.length) k (λi=>i) (λj=>j) (eP (fj (d7 mv pt qs rs wl wb) k).1) ((fj (d7 mv pt qs rs wl wb) k).2:Rat) :=
 JJ (Fm S D).1 (Fm S D).2 (by lia) (gP _) (λi _ c=>Jv (El S D W.len W.wide W.sl W.sb).1 i c) λk hk z zk=>(Em S D W O).2 k hk zk
theorem yf.next:QG (d7 mv pt qs rs wl wb) pt.length (pt.length+mv.length) (5*(b+(2*σ+ω+20))+1)/\Sz (4*(b+(2*σ+ω+20))+1) (fj (d7 mv pt qs rs wl wb) pt.length).2 /\
  yf mv.length (wW ((fj (d7 mv pt qs rs wl wb) pt.length).2*kS mv pt qs rs wb) (Dz (d7 mv pt qs rs wl wb) pt.length)) (xO ((fj (d7 mv pt qs rs wl wb) pt.length).2*kS mv pt qs rs wb) (Dz (d7 mv pt qs rs wl wb) pt.length)) (5*(b+(2*σ+ω+20))+1) /\
  0 < (fj (d7 mv pt qs rs wl wb) pt.length).2*kS mv pt qs rs wb:=by
 have i4:=D.i4;have sz:=El S D W.len W.wide W.sl W.sb;have bar:=Fn S D W O;have szs:=λk (hk:k<=pt.length)=>Lr (w:=b+(2*σ+ω+17)) (bar k hk).2.2.2 (by lia) (λi _ c=>Jv sz.1 i c) (bar k hk).1
 obtain ⟨l1,w1,d1,B1⟩:=bar pt.length (au _);obtain ⟨z1,z2⟩:=szs pt.length (au _);have Bp:=uz (mv:=mv) (pt:=pt) (qs:=qs) (rs:=rs) W.pos;have dB:=hZ d1 Bp
 have lz:∀l∈Dz (d7 mv pt qs rs wl wb) pt.length,l.length=mv.length/\∀z∈l,Sz (5*(b+(2*σ+ω+20))+1) z:=λl hl=>by
  obtain ⟨l',hl',rfl⟩:=ay.mp (fu hl);exact ⟨by rw[eZ,w1 l' hl'];lia,λz hz=>(z2 l' hl' z (fu hz)).mono (by lia)⟩
 obtain ⟨q1,q2,q3⟩:=K1 dB λl hl=>(lz l hl).2
 refine ⟨⟨λk hk=>(bar k hk).1,λk hk=>(bar k hk).2.1,λk hk=>(bar k hk).2.2.1,λk hk=>(szs k hk).1.mono (by lia),λk hk l hl z hz=>((szs k hk).2 l hl z hz).mono (by lia)⟩,z1.mono (by lia),⟨?_,?_,q3,λz=>?_,q1,?_⟩,dB⟩
 ·unfold wW;rw[ag,eZ,ag,l1]
  lia
 ·intro l hl;unfold wW at hl;obtain ⟨l',hl',rfl⟩:=ay.mp hl;rw[ag];exact (lz l' hl').1
 ·have Bq:(0:Rat) < ((kS mv pt qs rs wb:Int):Rat):=dP.mpr Bp
  have e:jr mv.length (qd (wW ((fj (d7 mv pt qs rs wl wb) pt.length).2*kS mv pt qs rs wb) (Dz (d7 mv pt qs rs wl wb) pt.length)) (xO ((fj (d7 mv pt qs rs wl wb) pt.length).2*kS mv pt qs rs wb) (Dz (d7 mv pt qs rs wl wb) pt.length))) z=(1 / ((kS mv pt qs rs wb:Int):Rat))*jr mv.length (λi j=>eP (fj (d7 mv pt qs rs wl wb) pt.length).1 (pt.length+i) (pt.length+j) / ((fj (d7 mv pt qs rs wl wb) pt.length).2:Rat)) z:=by
   rw[<- Dn];refine Dp λi j hi hj=>?_
   rw[yi dB,LU,aM,bo,bo,bo,gY,Rat.inv_mul_rev];grind
  rw[e,K3 B1];refine eC ?_ (Em S D W O).1;rw[bo,gY];exact bY (Rat.inv_pos.mpr Bq)
 ·refine Sz.le ((z1.mul sz.2).mono (k:=5*(b+(2*σ+ω+20))+1) (by lia)) q2
end
end
section
variable {mv pt lk:LR9} {qs rs fs st:List Rat} {σ ω b b1 n m T:Nat}
theorem Je:(Ea zs).length=zs.length/\∀l∈Ea zs,l.length=zs.length:=by
 unfold Ea;refine ⟨by rw[ag,bS],λl hl=>?_⟩;obtain ⟨i,_,rfl⟩:=ay.mp hl;rw[ag,bS]
theorem Pg:eP (Ea zs) i j=if i=j then ((zs.getD i 0:Int):Rat) else 0:=by
 unfold eP Ea;rw[ae (l:=List.map _ _),aB];by_cases hi:i < zs.length
 ·rw[c8 hi];show ((((List.range zs.length).map λj=>if j=i then zs.getD j 0 else 0).getD j 0:Int):Rat)=_
  rw[ae,aB];by_cases hj:j < zs.length
  ·rw[c8 hj];show (((if j=i then zs.getD j 0 else 0:Int)):Rat)=_
   by_cases e:i=j
   ·rw[if_pos e.symm,if_pos e,e]
   ·rw[if_neg λz=>e z.symm,if_neg e];rfl
  ·rw[bq (by rw[bS];lia),if_neg (by lia)];rfl
 ·rw[bq (by rw[bS];lia)];show ((([]:List Int).getD j 0:Int):Rat)=_
  by_cases e:i=j
  ·rw[if_pos e,ae (l:=zs),bq (by lia)];rfl
  ·rw[if_neg e];rfl
theorem HX (lf:fs.length=mv.length) (f0:∀w∈fs,0<=w) (ft:∀z∈ck (fs.map nm) (cM (fs.map nm)),Sz k z) (fb:Sz k (cM (fs.map nm))):yf mv.length (dh mv pt qs rs fs 0).1.1 (dh mv pt qs rs fs 0).1.2 k/\∀i j,qd (dh mv pt qs rs fs 0).1.1 (dh mv pt qs rs fs 0).1.2 i j=if i=j then fs.getD i 0 else 0:=by
 have lt:(ck (fs.map nm) (cM (fs.map nm))).length=mv.length:=by unfold ck;rw[ag,ag,lf]
 have bp:0 < cM (fs.map nm):=vA;have b0:((cM (fs.map nm):Int):Rat)≠0:=λq=>by have:=mU q;lia
 have ev:∀i j,qd (dh mv pt qs rs fs 0).1.1 (dh mv pt qs rs fs 0).1.2 i j=if i=j then fs.getD i 0 else 0:=λi j=>by
  show eP (Ea (ck (fs.map nm) (cM (fs.map nm)))) i j / ((cM (fs.map nm):Int):Rat)=_
  rw[Pg];by_cases e:i=j
  ·rw[if_pos e,if_pos e];have h:(((ck (fs.map nm) (cM (fs.map nm))).getD i 0:Int):Rat)=fs.getD i 0*((cM (fs.map nm):Int):Rat):=Fi;rw[h,bo,dM,dQ _ b0,fO]
  ·rw[if_neg e,if_neg e,bo,cT]
 have fn:∀i,0<=fs.getD i 0:=λi=>by
  rw[ae];cases e:fs[i]? with
  | none=>exact AR
  | some w=>exact f0 w (ak e)
 refine ⟨⟨Je.1.trans lt,λl hl=>(Je.2 l hl).trans lt,bp,λz=>?_,λl hl z hz=>?_,fb⟩,ev⟩
 ·unfold jr;refine xR _ λi hi=>?_
  rw[kB hi λj _ ne=>by rw[ev,if_neg (Ne.symm ne),cT],ev,if_pos rfl,show z i*(fs.getD i 0*z i)=fs.getD i 0*(z i*z i) by grind];exact eC (fn i) OS
 ·have hl:l∈Ea (ck (fs.map nm) (cM (fs.map nm))):=hl;unfold Ea at hl;obtain ⟨i,_,rfl⟩:=ay.mp hl;obtain ⟨j,hj,rfl⟩:=ay.mp hz
  split
  ·rename_i e
   exact ft _ (getD_in (AV.mp hj))
  ·exact uw
theorem Nz (S:HQ mv pt qs rs σ ω) (D:iH mv pt lk) (O:Qi mv pt qs rs) (T8:T<=8) (hW:∀t,t<=T->yf mv.length (dh mv pt qs rs fs t).1.1 (dh mv pt qs rs fs t).1.2 b) (hV:∀t,t < T->yf mv.length (dh mv pt qs rs fs t).1.1 (dh mv pt qs rs fs t).1.2 b1) (hb:b<=1000*999) (h1:b1<=1000*300) (hs:2*σ+ω<=1000):Ml mv pt qs rs fs T σ ω b (5*(b1+(2*σ+ω+20))+1) where
 st:=S
 t8:=T8
 l1:=by lia
 l2:=by lia
 l3:=⟨by lia,by lia⟩
 lw t ht:=(hW t ht).len
 ww t ht:=(hW t ht).wide
 sw t ht:=(hW t ht).sl
 wb t ht:=⟨(hW t ht).pos,(hW t ht).sb⟩
 kp t ht:=uz (hV t ht).pos
 ah t ht:=(yf.next S D (hV t ht) O).1
structure P0 (mv pt:LR9) (qs rs fs:List Rat) (l e:Nat):Prop where
 len:(dh mv pt qs rs fs l).2.1.length=pt.length
 wide:∀z∈(dh mv pt qs rs fs l).2.1,z.length=mv.length
 sz:∀z∈(dh mv pt qs rs fs l).2.1,∀y∈z,Sz e y
 pos:0 < -(dh mv pt qs rs fs l).2.2
 sb:Sz e (-(dh mv pt qs rs fs l).2.2)
theorem Jy (S:HQ mv pt qs rs σ ω) (D:iH mv pt lk) (O:Qi mv pt qs rs) (W:yf mv.length (dh mv pt qs rs fs t).1.1 (dh mv pt qs rs fs t).1.2 b):P0 mv pt qs rs fs (t+1) (5*(b+(2*σ+ω+20))+1):=by
 obtain ⟨A,_⟩:=yf.next S D W O;have e2:∀x:Int,- -x=x:=λx=>JS x
 have hu:(dh mv pt qs rs fs (t+1)).2.1=OB (d7 mv pt qs rs (dh mv pt qs rs fs t).1.1 (dh mv pt qs rs fs t).1.2) pt.length:=rfl;have hd:(dh mv pt qs rs fs (t+1)).2.2=-(fj (d7 mv pt qs rs (dh mv pt qs rs fs t).1.1 (dh mv pt qs rs fs t).1.2) pt.length).2:=rfl;have l1:=A.len pt.length (au _);have w1:=A.wide pt.length (au _);refine ⟨?_,λz hz=>?_,λz hz y hy=>?_,?_,?_⟩
 ·rw[hu,dY,ag,l1]
  lia
 ·rw[hu] at hz;obtain ⟨l',hl',rfl⟩:=ay.mp (di hz);rw[eZ,w1 l' hl']
  lia
 ·rw[hu] at hz;obtain ⟨l',hl',rfl⟩:=ay.mp (di hz);exact A.sz pt.length (au _) l' hl' y (fu hy)
 ·rw[hd,e2];exact A.pos pt.length (au _)
 ·rw[hd,e2];exact A.sb pt.length (au _)
theorem EC (hs:∀l∈ls,∀z∈l,Sz e z) (d0:d≠0) (hx:∀x∈xs,Fr N (2^p) x) (n8:xs.length<=8):∀u∈BH ls d xs,Fr (d.natAbs*N) (2^(e+3+p)) u:=λu hu=>by
 unfold BH at hu;obtain ⟨l,hl,rfl⟩:=ay.mp hu
 have hf:∀k,k<=xs.length->Fr N (k*(2^e*2^p)) (aU k λj=>((l.getD j 0:Int):Rat)*xs.getD j 0):=λk=>by
  induction k with
  | zero=>intro _;exact Fr.zero
  | succ k ih =>
   intro hk
   have z:(l.getD k 0).natAbs<=2^e:=by
    rw[ae];cases q:l[k]? with
    | none=>exact bW _
    | some y=>exact aT (hs l hl y (ak q))
   have h1:=(Fr.int (M:=1) z).mul (hx _ (getD_in (show k < xs.length by lia) (e:=0)));rw[AS] at h1;exact ((ih (by lia)).add h1).mono (Nat.le_of_eq (nB ..).symm)
 obtain ⟨t,et,bt⟩:=hf xs.length (au _);have dq:(d:Rat)≠0:=λq=>d0 (mU q)
 have db:1<=d.natAbs:=by lia
 have bt:t.natAbs<=2^(e+3+p)*N:=by
  refine aj bt (aL _ ?_);rw[show e+3+p=3+(e+p) by lia,bQ 2 3,bQ 2 e];exact aL _ (show xs.length<=2^3 from n8)
 have bt:t.natAbs<=2^(e+3+p)*(d.natAbs*N):=aj bt (rX _ (nG _ db));generalize (aU xs.length λj=>((l.getD j 0:Int):Rat)*xs.getD j 0)=s at et;rcases Int.natAbs_eq d with q | q
 ·refine ⟨t,?_,bt⟩;rw[cC,show ((d.natAbs:Nat):Rat)=(d:Rat) by rw[<- bI,<- q],<- et,bo];rw[show s*(d:Rat)⁻¹*((d:Rat)*(N:Rat))=s*((d:Rat)⁻¹*(d:Rat))*(N:Rat) by grind,lH _ dq,fO]
 ·refine ⟨-t,?_,by rw[tI];exact bt⟩;rw[cC,show ((d.natAbs:Nat):Rat)=-(d:Rat) by rw[<- bI,<- jo];congr 1;lia,jo,<- et,bo];rw[show s*(d:Rat)⁻¹*(-(d:Rat)*(N:Rat))=-(s*((d:Rat)⁻¹*(d:Rat))*(N:Rat)) by grind,lH _ dq,fO]
def vP (e:Nat->Nat) (T:Nat):Nat->Nat
 | 0=>0
 | i+1=>vP e T i+e (T - i)
theorem Iy {e:Nat->Nat}:∀{i k:Nat},i<=k->vP e T i<=vP e T k
 | i,0,h=>by rw[show i=0 by lia];exact au _
 | i,k+1,h=>by
  by_cases q:i=k+1
  ·rw[q];exact au _
  ·exact aj (Iy (show i<=k by lia)) (HR ..)
theorem PH {M1 M2 V B:Nat} (X:Bd mv pt M1 M2 V 80 160 33) (D:iH mv pt lk) (hd:∀l,1<=l->l<=T->P0 mv pt qs rs fs l (e l)) (T8:T<=8) (hE:vP e T T<=1000*890) (ls:st.length=mv.length) (B0:0 < B) (Bb:B<=2^600) (hs:∀x∈st,Fr B (2^30) x):∀i,i<=T->(lF mv pt qs rs fs st T i).length=mv.length/\∃N,0 < N/\N<=2^(600+vP e T i+240*i)/\(∀x∈lF mv pt qs rs fs st T i,Fr N (2^(30+vP e T i+40*i)) x)/\(i < T->(kY mv pt qs rs fs (T - i) (lF mv pt qs rs fs st T i)).length=pt.length/\PR mv pt (lF mv pt qs rs fs st T i) (kY mv pt qs rs fs (T - i) (lF mv pt qs rs fs st T i))/\∃N',0 < N'/\N'<=2^(600+vP e T (i+1)+240*(i+1))/\(∀x∈lF mv pt qs rs fs st T i++kY mv pt qs rs fs (T - i) (lF mv pt qs rs fs st T i),Fr N' (2^(30+vP e T (i+1)+40*(i+1))) x)/\∀x∈lF mv pt qs rs fs st T (i+1),Fr (M1*N') (2^(30+vP e T (i+1)+40*(i+1))) x/\M1*N'<=2^(600+vP e T (i+1)+240*(i+1))):=by
 have n8:=D.n8;have dz:∀{a:Int},0 < -a->a≠0:=λh=>by lia
 have step:∀i,i < T->(lF mv pt qs rs fs st T i).length=mv.length->∀N,0 < N->N<=2^(600+vP e T i+240*i)->(∀x∈lF mv pt qs rs fs st T i,Fr N (2^(30+vP e T i+40*i)) x)->(kY mv pt qs rs fs (T - i) (lF mv pt qs rs fs st T i)).length=pt.length/\PR mv pt (lF mv pt qs rs fs st T i) (kY mv pt qs rs fs (T - i) (lF mv pt qs rs fs st T i))/\∃N',0 < N'/\N'<=2^(600+vP e T (i+1)+240*(i+1))/\(∀x∈lF mv pt qs rs fs st T i++kY mv pt qs rs fs (T - i) (lF mv pt qs rs fs st T i),Fr N' (2^(30+vP e T (i+1)+40*(i+1))) x)/\(M1*N'<=2^(600+vP e T (i+1)+240*(i+1)))/\∀x∈lF mv pt qs rs fs st T (i+1),Fr (M1*N') (2^(30+vP e T (i+1)+40*(i+1))) x:=λi hi la N N0 Nb hx=>by
  have U:=hd (T - i) (by lia) (by lia);have es:vP e T (i+1)=vP e T i+e (T - i):=rfl;have eT:=Iy (e:=e) (T:=T) (show i+1<=T by lia);generalize hdd:(dh mv pt qs rs fs (T - i)).2.2=d at U;have Up:=U.pos;have Us:=U.sb;rw[hdd] at Up Us
  have hu:∀u∈kY mv pt qs rs fs (T - i) (lF mv pt qs rs fs st T i),Fr (d.natAbs*N) (2^(e (T - i)+3+(30+vP e T i+40*i))) u:=by
   unfold kY;rw[hdd];exact EC U.sz (dz Up) hx (by lia)
  have lu:(kY mv pt qs rs fs (T - i) (lF mv pt qs rs fs st T i)).length=pt.length:=by unfold kY BH;rw[ag,U.len]
  have dn:0 < d.natAbs:=by lia
  have db:d.natAbs<=2^e (T - i):=by
   have:=aT Us;rwa [tI] at this
  have N'0:0 < M2*(d.natAbs*N):=c7 X.m2 (c7 dn N0)
  have N'b:M2*(d.natAbs*N)<=2^(160+(e (T - i)+(600+vP e T i+240*i))):=by
   rw[bQ,bQ 2 (e (T - i))];exact a8 X.b2 (a8 db Nb)
  have hx':∀x∈lF mv pt qs rs fs st T i,Fr (M2*(d.natAbs*N)) (2^(e (T - i)+3+(30+vP e T i+40*i))) x:=λx h=>Fr.up (hx x h) (OA (kq _ _) (kq _ _)) (p2 (by lia))
  obtain ⟨nx,mo⟩:=X.next D la lu N'0 (kq _ _) hx' hu N'b (by lia) (by decide);refine ⟨lu,nx,_,N'0,aj N'b (p2 (by lia)),λx h=>?_,?_,λx h=>(mo x h).mono (p2 (by lia))⟩
  ·rcases aw.mp h with h | h
   ·exact (hx' x h).mono (p2 (by lia))
   ·exact (Fr.up (hu x h) (kq _ _) (p2 (by lia)))
  ·refine aj (a8 X.b1 N'b) ?_;rw[<- bQ];exact p2 (by lia)
 have go:∀i,i<=T->(lF mv pt qs rs fs st T i).length=mv.length/\∃N,0 < N/\N<=2^(600+vP e T i+240*i)/\∀x∈lF mv pt qs rs fs st T i,Fr N (2^(30+vP e T i+40*i)) x:=λi=>by
  induction i with
  | zero=>exact λ_=>⟨ls,B,B0,aj Bb (p2 (by lia)),λx h=>(hs x h).mono (p2 (by lia))⟩
  | succ i ih =>
   intro hi;obtain ⟨la,N,N0,Nb,hx⟩:=ih (by lia);obtain ⟨_,_,N',N'0,_,_,q,r⟩:=step i (by lia) la N N0 Nb hx;exact ⟨GR,_,c7 X.m1 N'0,q,r⟩
 intro i hi;obtain ⟨la,N,N0,Nb,hx⟩:=go i hi;refine ⟨la,N,N0,Nb,hx,λh=>?_⟩;obtain ⟨a,b,N',c,d,e,f,g⟩:=step i h la N N0 Nb hx;exact ⟨a,b,N',c,d,e,λx hx=>⟨g x hx,f⟩⟩
theorem yX (h:kQ k j l) (hk:k+j<=1000*1900):∀x∈l,qF x:=λx hx=>h.szn hx (by lia)
theorem Od {M1 M2 V B:Nat} (X:Bd mv pt M1 M2 V 80 160 33) (D:iH mv pt lk) (hd:∀l,1<=l->l<=T->P0 mv pt qs rs fs l (e l)) (W:yf mv.length (dh mv pt qs rs fs T).1.1 (dh mv pt qs rs fs T).1.2 b) (hb:b<=1000*900) (T8:T<=8) (hE:vP e T T<=1000*890) (ls:st.length=mv.length) (B0:0 < B) (Bb:B<=2^600) (hs:∀x∈st,Fr B (2^30) x):Oy mv pt qs rs fs st T:=by
 have n8:=D.n8;have A:=PH X D hd T8 hE ls B0 Bb hs;have le:∀i,i<=T->vP e T i<=1000*890:=λi hi=>aj (Iy hi) hE
 have fb:∀i,i < T->kQ (1000*895) (1000*895) (lF mv pt qs rs fs st T i++kY mv pt qs rs fs (T - i) (lF mv pt qs rs fs st T i)):=λi hi=>by
  obtain ⟨_,_,_,_,_,h⟩:=A i (by lia);obtain ⟨_,_,N',a,b',f,_⟩:=h hi;have:=le (i+1) hi;exact ⟨N',_,a,aj b' (p2 (by lia)),p2 (by lia),f⟩
 refine ⟨ls,λi hi=>(A i hi).1,λi hi=>?_,λi hi=>?_,λi hi=>?_,λi hi=>?_,λi hi z hz=>?_,?_⟩
 ·obtain ⟨_,_,_,_,_,h⟩:=A i (by lia);exact (h hi).1
 ·obtain ⟨_,N,a,b',f,_⟩:=A i hi;have:=le i hi;exact kQ.rowM (k:=1000*895) (j:=1000*895) ⟨N,_,a,aj b' (p2 (by lia)),p2 (by lia),f⟩ (by decide)
 ·obtain ⟨M,V,a,b',c,f⟩:=fb i hi;exact ⟨M,V,a,aj b' (p2 (by decide)),aj c (p2 (by decide)),f⟩
 ·obtain ⟨_,_,_,_,_,h⟩:=A i (by lia);exact (h hi).2.1
 ·exact yX (fb i hi) (by decide) z (aw.mpr (.inr hz))
 ·have wp:=W.pos;have h:=EC (d:=(dh mv pt qs rs fs T).1.2) W.sl (by lia) hs (by lia);refine ⟨600,30,b+600,b+33,⟨B,_,B0,Bb,au _,hs⟩,⟨_,_,c7 (by lia) B0,?_,au _,h⟩,by lia⟩;rw[bQ];exact a8 (aT W.sb) Bb
theorem Lc (D:iH mv pt lk) (U:P0 mv pt qs rs fs T e) (he:e<=1000*890) (ls:st.length=mv.length) (B0:0 < B) (Bb:B<=2^600) (hs:∀x∈st,Fr B (2^30) x):(∃M,my M (st.map nm))/\(∀z∈st,qF z)/\(kY mv pt qs rs fs T st).length=pt.length/\∀z∈kY mv pt qs rs fs T st,qF z:=by
 have n8:=D.n8;have f1:kQ 600 30 st:=⟨B,_,B0,Bb,au _,hs⟩;refine ⟨f1.rowM (by decide),yX f1 (by decide),by unfold kY BH;rw[ag,U.len],?_⟩;have up:=U.pos;have h:=EC (d:=(dh mv pt qs rs fs T).2.2) U.sz (by lia) hs (by lia);refine yX (k:=e+600) (j:=e+33) ⟨_,_,c7 (by lia) B0,?_,au _,h⟩ (by lia);have:=aT U.sb;rw[tI] at this;rw[bQ];exact a8 this Bb
end
def P2 (k:Nat):Rat:=((2^k:Nat):Rat)
theorem oA:P2 (a+b)=P2 a*P2 b:=by unfold P2;rw[bQ,cC]
theorem JO:0 < P2 a:=kZ.mpr (gP a)
theorem F9 (h:a<=b):P2 a<=P2 b:=eB.mpr (av (by decide) h)
theorem pE {a b A B:Rat} (h0:0<=a) (h1:a<=A) (h2:0<=b) (h3:b<=B):a*b<=A*B:=gZ (iL h1 h2) (qB h3 (gZ h0 h1))
theorem Jt {M V:Nat} (h:Fr M V x) (hM:0 < M):-(V:Rat)<=x/\x<=(V:Rat):=by
 obtain ⟨z,e,b⟩:=h;have m0:(0:Rat) < (M:Rat):=kZ.mpr hM
 have h1:(z:Rat)<=(V:Rat)*(M:Rat):=by
  rw[<- cC,<- bI];exact fJ.mpr (by lia)
 have h2:-((V:Rat)*(M:Rat))<=(z:Rat):=by
  rw[<- cC,<- bI,<- jo];exact fJ.mpr (by lia)
 rw[<- e] at h1 h2;exact ⟨Mp (by rw[Rat.neg_mul];exact h2) m0,Mp h1 m0⟩
theorem Og {x y:Rat} (h1:-y<=x) (h2:x<=y):x*x<=y*y:=by
 have a:0<=y - x:=by grind
 have b:0<=y+x:=by grind
 have:=eC a b;grind
theorem L0 (h:Fr 2520 1000 x):x*x<=P2 20:=by
 obtain ⟨a,b⟩:=Jt h (by decide);refine gZ (Og a b) ?_;show ((1000:Nat):Rat)*((1000:Nat):Rat)<=((2^20:Nat):Rat)
 rw[<- cC];exact eB.mpr (by decide)
theorem Js {M V:Nat} (h:Fr M V x):cQ ((M:Rat)*x):=by
 obtain ⟨z,e,_⟩:=h;exact ⟨z,by rw[dO];exact e⟩
theorem yd:cQ ((x.den:Rat)*x):=⟨x.num,by rw[dO];exact pJ x |>.symm⟩
theorem mO {n:Nat}:cQ (n:Rat):=⟨n,(bI n).symm⟩
section
variable {n q N m k:Nat} {W sd:Nat->Nat->Rat} {ow f p z:Nat->Rat} {ls:List (List Int)} {s r v:Rat}
theorem uy (h:n<=k) (h0:∀i,n<=i->f i=0):aU k f=aU n f:=by
 induction k with
 | zero=>rw[show n=0 by lia]
 | succ k ih =>
  by_cases e:n=k+1
  ·rw[e]
  ·show aU k f+f k=_
   rw[ih (by lia),h0 k (by lia),hJ]
theorem IM (h:n<=k) (h0:∀i j,n<=i\/n<=j->W i j=0):jr k W z=jr n W z:=by
 unfold jr;rw[uy h λi hi=>by rw[iq λj _=>by rw[h0 i j (.inl hi),cT],iU]];exact aS λi _=>by rw[uy h λj hj=>by rw[h0 i j (.inr hj),cT]]
theorem MJ (h:n<=k) (h0:∀i c,n<=c->sd i c=0):stN n sd W ow i j=stN k sd W ow i j:=by
 unfold stN;congr 1;rw[uy h λc hc=>by rw[h0 j c hc,cT]];exact aS λc _=>by rw[uy h λe he=>by rw[h0 i e he,iU]]
theorem Me (s0:0 < s) (h0:∀i j,i < N->j < N->eP ls i j=s*stN q sd W ow i j) (mN:m<=N) (hp:∀k,k<=m->(0:Rat) < ((fj ls k).2:Rat)) (hs:∀k,k < m->((fj ls (k+1)).2:Rat)=eP (fj ls k).1 k k/\∀i c,i < N->i≠k->eP (fj ls (k+1)).1 i c=(eP (fj ls k).1 k k*eP (fj ls k).1 i c - eP (fj ls k).1 i k*eP (fj ls k).1 k c) / ((fj ls k).2:Rat)):∀k,k<=m->∀i j,k<=i->k<=j->i < N->j < N->eP (fj ls k).1 i j=((fj ls k).2:Rat)*s*stN q sd (xK q sd W ow k) ow i j
 | 0,_,i,j,_,_,hi,hj=>by
  show eP ls i j=((1:Int):Rat)*s*stN q sd W ow i j
  rw[h0 i j hi hj];show _=(1:Rat)*s*_
  rw[gY]
 | k+1,hk,i,j,ki,kj,hi,hj=>by
  have ih:=Me s0 h0 mN hp hs k (by lia);obtain ⟨e1,e2⟩:=hs k hk;have d0:=hp k (by lia);have d1:=hp (k+1) hk;have kN:k < N:=by lia
  rw[<- ME (i:=i) (j:=j) (by lia) (by lia),e2 i j hi (by lia),e1];rw[e1] at d1;rw[ih k k (by lia) (by lia) kN kN] at d1 ⊢;rw[ih i j (by lia) (by lia) hi hj,ih i k (by lia) (by lia) hi kN,ih k j (by lia) (by lia) kN hj];generalize ((fj ls k).2:Rat)=d at d0 d1;generalize stN q sd (xK q sd W ow k) ow k k=a at d1;generalize stN q sd (xK q sd W ow k) ow i j=b;generalize stN q sd (xK q sd W ow k) ow i k=c;generalize stN q sd (xK q sd W ow k) ow k j=e;have dn:d≠0:=by grind
  have an:a≠0:=λz=>by rw[z,iU] at d1;exact absurd d1 (by decide)
  have h1:(d*s*a*(d*s*b) - d*s*c*(d*s*e)) / d=s*(d*s*(a*b - c*e)):=by
   rw[bo,show d*s*a*(d*s*b) - d*s*c*(d*s*e)=s*(d*s*(a*b - c*e))*d by grind,dM,dQ _ dn,fO]
  rw[h1,bo];have h2:d*s*a*s*(b - e*a⁻¹*c)=d*s*s*(a*b - e*c*(a*a⁻¹)):=by grind
  rw[h2,dQ _ an];grind
theorem Nl (ps:∀z,0<=jr 2 W z) (v0:W 0 0<=v) (v1:W 1 1<=v) (h0:p 0*p 0<=u) (h1:p 1*p 1<=u):jr 2 W p<=4*(u*v):=by
 have e:∀z,jr 2 W z=z 0*(W 0 0*z 0+W 0 1*z 1)+z 1*(W 1 0*z 0+W 1 1*z 1):=λz=>by unfold jr;simp only[kz]
 have a:=ps λi=>if i=0 then p 0 else - p 1
 have b0:=ps (A0 0);have b1:=ps (A0 1);rw[Bt (by decide)] at b0 b1;rw[e] at a ⊢;rw[if_pos rfl,if_neg (show ¬(1:Nat)=0 by decide)] at a;have c0:p 0*p 0*W 0 0<=u*v:=pE OS h0 b0 v0;have c1:p 1*p 1*W 1 1<=u*v:=pE OS h1 b1 v1;grind
end
section
variable {mv pt lk:LR9} {qs rs fs:List Rat} {wl ls:List (List Int)} {wb b:Int} {σ ω n m t V B bb:Nat}
theorem AY (lw:wl.length=n) (ww:∀l∈wl,l.length=n) (h:n<=i\/n<=j):qd wl wb i j=0:=by
 unfold qd
 have:eP wl i j=0:=by
  rcases h with h | h
  ·unfold eP;rw[ae (l:=wl),bq (by lia)];rfl
  ·exact BZ ww h
 rw[this,bo,cT]
theorem EM (hb:0 < b) (ll:ls.length=n) (lw:∀l∈ls,l.length=n) (b0:0 < β) (bB:β<=P2 B) (bi:cQ β) (h:∀i j,i < n->j < n->cQ (qd (wW b ls) (xO b ls) i j*β)/\-P2 V<=qd (wW b ls) (xO b ls) i j/\qd (wW b ls) (xO b ls) i j<=P2 V):(∀l∈wW b ls,∀z∈l,Sz (V+B+1) z)/\Sz (V+B+1) (xO b ls):=by
 obtain ⟨βz,rfl⟩:=bi;have b1:0 < βz:=dP.mp b0
 have bN:βz.natAbs<=2^B:=by
  have:(βz:Rat)<=(((2^B:Nat):Int):Rat):=by rw[bI];exact bB
  have:=fJ.mp this
  lia
 obtain ⟨p,d,_⟩:=wC (zs:=ls.flatten) hb;have q0:(b:Rat)≠0:=λq=>by have:=mU q;lia
 have dv:b∣zN b ls.flatten*βz:=DD (Int.dvd_mul_right ..) λz hz=>by
  obtain ⟨l,hl,hz⟩:=eY.mp hz;obtain ⟨i,hi,rfl⟩:=b9 hl;obtain ⟨j,hj,rfl⟩:=b9 hz;have lj:=lw _ (bM hi);obtain ⟨x,_⟩:=h i j (by lia) (by lia);refine EW (by lia) (cQ.of x ?_);rw[yi hb];unfold eP;rw[ae (l:=ls),ao hi,dW,ae,ao hj,dW,aM,bo,bo];grind
 have eb:b=zN b ls.flatten*xO b ls:=(Int.mul_ediv_cancel' d).symm
 have dl:xO b ls∣βz:=by
  obtain ⟨y,e⟩:=dv;refine ⟨y,Int.eq_of_mul_eq_mul_left (a:=zN b ls.flatten) (by lia) ?_⟩;rw[e,<- du,<- eb]
 have l0:0 < xO b ls:=Mq hb (Int.le_of_lt p) d;have lB:(xO b ls).natAbs<=2^B:=aj (js (by lia) (eR.mpr dl)) bN;have lt:∀{e a:Nat},a<=2^e->a < 2^(e+1):=λ{e a} h=>bJ h (hR (by decide) (by lia))
 refine ⟨λl hl z hz=>?_,lt (aj lB (av (by decide) (by lia)))⟩;have ll':(wW b ls).length=n:=by unfold wW;rw[ag,ll]
 have lw':l.length=n:=by
  unfold wW at hl;obtain ⟨l',hl',rfl⟩:=ay.mp hl;rw[ag,lw l' hl']
 obtain ⟨i,hi,rfl⟩:=b9 hl;obtain ⟨j,hj,rfl⟩:=b9 hz;obtain ⟨_,x1,x2⟩:=h i j (by lia) (by lia);have g0:(0:Rat) < ((xO b ls:Int):Rat):=dP.mpr l0;have gn:((xO b ls:Int):Rat)≠0:=by grind
 have ez:(((wW b ls)[i][j]:Int):Rat)=qd (wW b ls) (xO b ls) i j*((xO b ls:Int):Rat):=by
  unfold qd eP;rw[ae (l:=wW b ls),ao hi,dW,ae,ao hj,dW,iV gn]
 generalize (wW b ls)[i][j]=z at ez
 have gB:((xO b ls:Int):Rat)<=P2 B:=by
  unfold P2;rw[<- bI];exact fJ.mpr (by lia)
 have u1:(z:Rat)<=P2 (V+B):=by
  rw[ez,oA];exact gZ (iL x2 (bY g0)) (qB gB (bY JO))
 have u2:-(z:Rat)<=P2 (V+B):=by
  rw[ez,oA,<- Rat.neg_mul];exact gZ (iL (show -qd (wW b ls) (xO b ls) i j<=P2 V by grind) (bY g0)) (qB gB (bY JO))
 unfold P2 at u1 u2;rw[<- bI] at u1 u2;rw[<- jo] at u2;have u1:=fJ.mp u1;have u2:=fJ.mp u2;exact lt (by lia)
def vB (t:Nat):Nat:=23*t+10
def bB:Nat->Nat
 | 0=>20
 | t+1=>bB t+4*vB t+310
structure W2 (W:Nat->Nat->Rat) (t:Nat):Prop where
 sy:W 1 0=W 0 1
 d0:W 0 0<=P2 (vB t)
 d1:W 1 1<=P2 (vB t)
 co:∃β,0 < β/\β<=P2 (bB t)/\Mn W β
theorem Qc {W:Nat->Nat->Rat} (h:W 1 0=W 0 1):∀i j,i < 2->j < 2->W i j=W j i
 | 0,0,_,_=>rfl
 | 0,1,_,_=>h.symm
 | 1,0,_,_=>h
 | 1,1,_,_=>rfl
 | i+2,_,h,_=>absurd h (by lia)
 | _,j+2,_,h=>absurd h (by lia)
theorem Pb:stN 2 sd W ow i i=jr 2 W (sd i)+ow i:=by
 unfold stN jr;rw[if_pos rfl]
theorem LQ (h1:r<=P2 10) (h2:x<=4*(P2 20*P2 v)):r+x<=P2 (v+23):=by
 have e:4*(P2 20*P2 v)=P2 (v+22):=by
  rw[show v+22=2+(20+v) by lia,oA,oA];rfl
 have e2:P2 (v+23)=P2 (v+22)+P2 (v+22):=by
  rw[show v+23=1+(v+22) by lia,oA,show P2 1=2 from rfl];grind
 have e3:P2 10<=P2 (v+22):=F9 (by lia);grind
theorem W2.next (h:W2 W t) (ps:∀z,0<=jr 2 W z) (hs:∀i c,Fr 2520 1000 (sd i c)) (m4:m<=4) (o0:∀k,k < m->0 < ow k) (oD:∀k,ow k<=P2 10/\(ow k).den<=1000):W2 (λi j=>stN 2 sd (xK 2 sd W ow m) ow (m+i) (m+j)) (t+1):=by
 obtain ⟨β,β0,βb,C⟩:=h.co;have rk:=λk hk=>IK (sd:=sd) (ow:=ow) (Qc h.sy) ps k hk
 have pvb:∀k,jr 2 W (sd k)<=4*(P2 20*P2 (vB t)):=λk=>Nl ps h.d0 h.d1 (L0 (hs k 0)) (L0 (hs k 1))
 have go:∀k,k<=m->∃β,0 < β/\β<=P2 (bB t+(vB t+56)*k)/\Mn (xK 2 sd W ow k) β/\xK 2 sd W ow k 1 0=xK 2 sd W ow k 0 1:=λk=>by
  induction k with
  | zero=>exact λ_=>⟨β,β0,by rw[Nat.mul_zero];exact βb,C,h.sy⟩
  | succ k ih =>
   intro hk;obtain ⟨γ,γ0,γb,G,sy⟩:=ih (by lia);obtain ⟨_,ps',le'⟩:=rk k λi hi=>o0 i (by lia)
   have r0:=o0 k hk;have pv0:=(IE (z:=sd k) (p:=sd k) (Qc sy) r0 ps').1;have pvle:oH 2 (xK 2 sd W ow k) (sd k) (ow k)<=P2 (vB t+23):=LQ (oD k).1 (gZ (le' (sd k)) (pvb k));have dI:∀c,cQ (((2520:Nat):Rat)*sd k c):=λc=>Js (hs k c)
   have k0:(0:Rat) < (((ow k).den*(2520*2520):Nat):Rat):=kZ.mpr (c7 (ow k).den_pos (by decide));have kb:(((ow k).den*(2520*2520):Nat):Rat)<=P2 33:=eB.mpr (aj (aL _ (oD k).2) (by decide));have ke:(((ow k).den*(2520*2520):Nat):Rat)=((ow k).den:Rat)*(((2520:Nat):Rat)*((2520:Nat):Rat)):=by rw[cC,cC]
   have kk:∀a c,cQ ((((ow k).den*(2520*2520):Nat):Rat)*(sd k a*sd k c)):=λa c=>by
    rw[ke];exact cQ.of (mO.mul ((dI a).mul (dI c))) (show _=((ow k).den:Rat)*(((2520:Nat):Rat)*sd k a*(((2520:Nat):Rat)*sd k c)) by grind)
   have kr:cQ ((((ow k).den*(2520*2520):Nat):Rat)*ow k):=by
    rw[ke];exact cQ.of ((mO.mul mO).mul yd) (show _=((2520:Nat):Rat)*((2520:Nat):Rat)*(((ow k).den:Rat)*ow k) by grind)
   obtain ⟨G2,sy'⟩:=G.rd (p:=sd k) (r:=ow k) sy (by grind) kr (kk 0 0) (kk 0 1) (kk 1 1);refine ⟨_,dU (dU k0 γ0) pv0,?_,G2,sy'⟩;rw[show bB t+(vB t+56)*(k+1)=33+(bB t+(vB t+56)*k)+(vB t+23) by rw[Nat.mul_succ];lia,oA,oA];exact pE (bY (dU k0 γ0)) (pE (bY k0) kb (bY γ0) γb) (bY pv0) pvle
 obtain ⟨γ,γ0,γb,G,sy⟩:=go m (au _);obtain ⟨_,ps',le'⟩:=rk m o0
 have est:(λi j=>stN 2 sd (xK 2 sd W ow m) ow (m+i) (m+j))=stN 2 (λi=>sd (m+i)) (xK 2 sd W ow m) λi=>ow (m+i):=funext λi=>funext λj=>by
  unfold stN;congr 1;by_cases e:i=j
  ·rw[if_pos e,if_pos (by lia)]
  ·rw[if_neg e,if_neg (by lia)]
 have dg:∀i,stN 2 (λi=>sd (m+i)) (xK 2 sd W ow m) (λi=>ow (m+i)) i i<=P2 (vB (t+1)):=λi=>by
  rw[Pb,Rat.add_comm,show vB (t+1)=vB t+23 by unfold vB;lia];exact LQ (oD _).1 (gZ (le' _) (pvb _))
 have dI:∀i c,cQ (((2520:Nat):Rat)*sd (m+i) c):=λi c=>Js (hs _ c)
 have oI:∀i j,cQ ((((ow (m+i)).den*(ow (m+j)).den:Nat):Rat)*ow (m+i)):=λi j=>by
  rw[cC];exact cQ.of (mO.mul yd) (show _=((ow (m+j)).den:Rat)*(((ow (m+i)).den:Rat)*ow (m+i)) by grind)
 have oI1:cQ ((((ow (m+0)).den*(ow (m+1)).den:Nat):Rat)*ow (m+1)):=by rw[hX];exact oI 1 0
 obtain ⟨G2,sy'⟩:=G.st (sd:=λi=>sd (m+i)) (ow:=λi=>ow (m+i)) (m:=((2520:Nat):Rat)) (o:=(((ow (m+0)).den*(ow (m+1)).den:Nat):Rat)) sy mO mO (dI 0 0) (dI 0 1) (dI 1 0) (dI 1 1) (oI 0 1) oI1;rw[est];have ob0:(0:Rat) < (((ow (m+0)).den*(ow (m+1)).den:Nat):Rat):=kZ.mpr (c7 (JQ _) (JQ _));have ob1:(((ow (m+0)).den*(ow (m+1)).den:Nat):Rat)<=P2 20:=eB.mpr (aj (a8 (oD _).2 (oD _).2) (by decide));have m0:(0:Rat) < ((2520:Nat):Rat):=kZ.mpr (by decide)
 have m1:((2520:Nat):Rat)*((2520:Nat):Rat)*(((2520:Nat):Rat)*((2520:Nat):Rat))<=P2 46:=by
  rw[<- cC,<- cC];exact eB.mpr (by decide)
 have m2:=dU (dU m0 m0) (dU m0 m0);refine ⟨sy',dg 0,dg 1,_,dU (dU (dU ob0 ob0) m2) γ0,?_,G2⟩;have γb:γ<=P2 (bB t+(vB t+56)*4):=gZ γb (F9 (Nat.add_le_add_left (rX _ m4) _));rw[show bB (t+1)=(20+20)+46+(bB t+(vB t+56)*4) by show bB t+4*vB t+310=_;lia,oA,oA,oA];exact pE (bY (dU (dU ob0 ob0) m2)) (pE (bY (dU ob0 ob0)) (pE (bY ob0) ob1 (bY ob0) ob1) (bY m2) m1) (bY γ0) γb
end
section
variable {mv pt lk:LR9} {qs rs fs st xs:List Rat} {σ ω b b1 n m T t w k j:Nat}
theorem uu {M V:Nat} {ys:List Rat} (h0:0 < M) (h1:M<=2^k) (h2:V<=2^j) (hx:∀x∈ys,Fr M V x) (hs:∀x∈xs,x∈ys):(∀z∈ck (xs.map nm) (cM (ys.map nm)),Sz (j+k+1) z)/\Sz (k+1) (cM (ys.map nm)):=by
 have tp:∀x∈ys,Tp M (2^(j+k)) x:=λx h=>Tp.of (hx x h) (by rw[bQ];exact a8 h2 h1)
 have dv:=Ln h0 tp;have bp:0 < cM (ys.map nm):=vA;have lt:∀{e a:Nat},a<=2^e->a < 2^(e+1):=λ{e a} h=>bJ h (hR (by decide) (by lia))
 constructor
 ·intro z hz;unfold ck at hz;obtain ⟨y,hy,rfl⟩:=ay.mp hz;obtain ⟨x,hx',rfl⟩:=ay.mp hy;have dx:(nm x).2∣cM (ys.map nm):=oS (ay.mpr ⟨x,hs x hx',rfl⟩);obtain ⟨s,e,b⟩:=Ia (tp x (hs x hx')) h0 bp dx dv;have e2:(((nm x).1*(cM (ys.map nm) / (nm x).2):Int):Rat)=(s:Rat):=by rw[ky dx,e]
  rw[eG.mp e2];exact lt b
 ·have:=Int.le_of_dvd (by lia) dv;exact lt (aj (by lia) h1)
theorem Jz (h:Dr 1000 x):x<=P2 10/\x.den<=1000:=by
 refine ⟨gZ (Jt (Fr.own x h.1) x.den_pos).2 ?_,h.2⟩;exact eB.mpr (by decide)
theorem Le:Dr 1000 0:=⟨by decide,by decide⟩
theorem FR {l:List Rat} (h:∀x∈l,Dr 1000 x):Dr 1000 (l.getD i 0):=by
 rw[ae];cases e:l[i]? with
 | none=>exact Le
 | some x=>exact h x (ak e)
theorem LR (W:DV mv pt qs rs fs):∀x∈lX qs rs,Dr 1000 x:=λx hx=>(aw.mp hx).elim (λh=>(W.r0 x h).2) λh=>(W.q0 x h).2
theorem Nt (W:DV mv pt qs rs fs):Qi mv pt qs rs where
 r0 i hi:=by
  unfold lX;have:=W.lr;rw[ae,kK (by lia),ao (by lia)];exact (W.r0 _ (bM _)).1
 q0 i hi:=by
  rw[ae];cases e:(lX qs rs)[i]? with
  | none=>exact AR
  | some x=>exact (aw.mp (ak e)).elim (λh=>bY (W.r0 x h).1) λh=>(W.q0 x h).1
theorem OC {l:List Rat} (h:∀x∈l,Dr 1000 x):∀x∈l,Dr (2^10) x:=λx hx=>⟨aj (h x hx).1 (by decide),aj (h x hx).2 (by decide)⟩
theorem OV {M1 M2 V:Nat} (g1:GF M1 V mv) (g2:GF M2 V pt):∀xs∈jL mv pt,∀x∈xs,Fr (M1*M2) V x:=λxs hx x h=>by
 rcases aw.mp hx with hx | hx
 ·exact (g2 xs hx x h).dvd (kq _ _)
 ·exact (Fg g1 xs hx x h).dvd (Nat.dvd_mul_right _ _)
theorem Mz {M1 M2 V:Nat} (X:Bd mv pt M1 M2 V 80 160 33) (D:iH mv pt lk) (W:DV mv pt qs rs fs):HQ mv pt qs rs 275 150:=by
 have n8:=D.n8;have i4:=D.i4;have M0:=c7 X.m1 X.m2;have Mb:M1*M2<=2^240:=by rw[show 240=80+160 from rfl,bQ];exact a8 X.b1 X.b2
 have f:=OV X.gm X.gp;have ff:∀x∈(jL mv pt).flatten,Fr (M1*M2) V x:=λx h=>by obtain ⟨xs,hx,h⟩:=eY.mp h;exact f xs hx x h
 obtain ⟨B,B0,Bb,fB⟩:=rZ (c:=10) (OC (LR W)) (by decide);have lo:(lX qs rs).length<=12:=by unfold lX;rw[aD,W.lr,W.lq];lia
 have Bb:B<=2^122:=aj Bb (p2 (by lia));obtain ⟨o1,o2⟩:=uu B0 Bb (au _) fB (xs:=lX qs rs) λx h=>h
 refine ⟨W.lq,W.lr,kQ.rowM (k:=240) (j:=33) ⟨_,_,M0,Mb,X.v1,ff⟩ (by decide),kQ.rowM (k:=122) (j:=22) ⟨_,_,B0,Bb,au _,fB⟩ (by decide),λl hl z hz=>?_,(uu (xs:=[]) M0 Mb X.v1 ff (λ_ h=>nomatch h)).2.mono (by decide),λz hz=>(o1 z hz).mono (by decide),o2.mono (by decide)⟩;unfold nL at hl;obtain ⟨xs,hx,rfl⟩:=ay.mp hl;exact ((uu M0 Mb X.v1 ff (xs:=xs) λx h=>eY.mpr ⟨xs,hx,h⟩).1 z hz).mono (by decide)
theorem HY (D:iH mv pt lk) (W:DV mv pt qs rs fs):(∃M,my M (fs.map nm))/\yf mv.length (dh mv pt qs rs fs 0).1.1 (dh mv pt qs rs fs 0).1.2 105/\∀i j,qd (dh mv pt qs rs fs 0).1.1 (dh mv pt qs rs fs 0).1.2 i j=if i=j then fs.getD i 0 else 0:=by
 have n8:=D.n8;have lf:=W.lf;obtain ⟨B,B0,Bb,fB⟩:=rZ (c:=10) (OC λx hx=>(W.f0 x hx).2) (by decide);have Bb:B<=2^82:=aj Bb (p2 (by lia));obtain ⟨o1,o2⟩:=uu B0 Bb (au _) fB (xs:=fs) λx h=>h
 exact ⟨kQ.rowM (k:=82) (j:=22) ⟨_,_,B0,Bb,au _,fB⟩ (by decide),HX W.lf (λw h=>(W.f0 w h).1) (λz hz=>(o1 z hz).mono (by decide)) (o2.mono (by decide))⟩
def cB:Nat->Nat
 | 0=>105
 | t+1=>5*(cB t+(2*275+150+20))+1
theorem F7:∀{s t:Nat},s<=t->cB s<=cB t
 | s,0,h=>by rw[show s=0 by lia];exact au _
 | s,t+1,h=>by
  by_cases e:s=t+1
  ·rw[e];exact au _
  ·exact aj (F7 (show s<=t by lia)) (by show cB t<=5*(cB t+_)+1;lia)
theorem Cf (S:HQ mv pt qs rs 275 150) (D:iH mv pt lk) (W:DV mv pt qs rs fs):∀t,yf mv.length (dh mv pt qs rs fs t).1.1 (dh mv pt qs rs fs t).1.2 (cB t)
 | 0=>(HY D W).2.1
 | t+1=>(yf.next S D (Cf S D W t) (Nt W)).2.2.1
theorem NW {x y:Int} (h1:(0:Rat) < (x:Rat)) (h2:(0:Rat) < (y:Rat)):(x:Rat)*(y:Rat)*q / ((x*y:Int):Rat)=q:=by
 rw[aM];generalize (x:Rat)=d at h1;generalize (y:Rat)=s at h2;have q0:d*s≠0:=by have:=dU h1 h2;grind
 rw[dO (d*s),bo,dM,dQ _ q0,fO]
section
variable (S:HQ mv pt qs rs 275 150) (D:iH mv pt lk) (W:DV mv pt qs rs fs)
include S D W
theorem Lj:yf mv.length (dh mv pt qs rs fs 0).1.1 (dh mv pt qs rs fs 0).1.2 5700/\W2 (qd (dh mv pt qs rs fs 0).1.1 (dh mv pt qs rs fs 0).1.2) 0:=by
 obtain ⟨_,h,e⟩:=HY D W;have df:=λi=>FR (i:=i) λx hx=>(W.f0 x hx).2
 refine ⟨h.mono (by decide),⟨by rw[e,e];rfl,by rw[e];exact (Jz (df 0)).1,by rw[e];exact (Jz (df 1)).1,(((fs.getD 0 0).den*(fs.getD 1 0).den:Nat):Rat),kZ.mpr (c7 (JQ _) (JQ _)),eB.mpr (aj (a8 (df 0).2 (df 1).2) (by decide)),?_⟩⟩;have i0:cQ (((fs.getD 0 0).den:Rat)*fs.getD 0 0):=yd;have i1:cQ (((fs.getD 1 0).den:Rat)*fs.getD 1 0):=yd;have c0:cQ ((fs.getD 0 0).den:Rat):=mO;have c1:cQ ((fs.getD 1 0).den:Rat):=mO;have e00:qd (dh mv pt qs rs fs 0).1.1 (dh mv pt qs rs fs 0).1.2 0 0=fs.getD 0 0:=e 0 0;have e11:qd (dh mv pt qs rs fs 0).1.1 (dh mv pt qs rs fs 0).1.2 1 1=fs.getD 1 0:=e 1 1;have e01:qd (dh mv pt qs rs fs 0).1.1 (dh mv pt qs rs fs 0).1.2 0 1=0:=e 0 1;have e10:qd (dh mv pt qs rs fs 0).1.1 (dh mv pt qs rs fs 0).1.2 1 0=0:=e 1 0;rw[cC];generalize ((fs.getD 0 0).den:Rat)=d0 at *
 generalize ((fs.getD 1 0).den:Rat)=d1 at *
 refine ⟨c0.mul c1,?_,?_,?_,?_⟩
 ·rw[e00];exact cQ.of (i0.mul c1) (by grind)
 ·rw[e01];exact ⟨0,by rw[cT];rfl⟩
 ·rw[e11];exact cQ.of (c0.mul i1) (by grind)
 ·unfold Eb;rw[e00,e11,e01,e10];exact cQ.of (i0.mul i1) (by grind)
variable (n2:mv.length<=2) (gm:GF 2520 1000 mv) (gp:GF 2520 1000 pt)
include n2 gm gp
theorem Lk (ht:t+1<=8) (Wt:yf mv.length (dh mv pt qs rs fs t).1.1 (dh mv pt qs rs fs t).1.2 5700) (C:W2 (qd (dh mv pt qs rs fs t).1.1 (dh mv pt qs rs fs t).1.2) t):yf mv.length (dh mv pt qs rs fs (t+1)).1.1 (dh mv pt qs rs fs (t+1)).1.2 5700/\W2 (qd (dh mv pt qs rs fs (t+1)).1.1 (dh mv pt qs rs fs (t+1)).1.2) (t+1):=by
 have O:=Nt W;have i4:=D.i4;obtain ⟨_,_,Wn,dB⟩:=yf.next S D Wt O;have Wn:yf mv.length (dh mv pt qs rs fs (t+1)).1.1 (dh mv pt qs rs fs (t+1)).1.2 (5*(5700+(2*275+150+20))+1):=Wn;have bar:=Fn S D Wt O;have s0:(0:Rat) < ((kS mv pt qs rs (dh mv pt qs rs fs t).1.2:Int):Rat):=dP.mpr (uz Wt.pos);have far:∀i j,mv.length<=i\/mv.length<=j->qd (dh mv pt qs rs fs t).1.1 (dh mv pt qs rs fs t).1.2 i j=0:=λi j h=>AY Wt.len Wt.wide h
 have ps:∀z,0<=jr 2 (qd (dh mv pt qs rs fs t).1.1 (dh mv pt qs rs fs t).1.2) z:=λz=>by rw[IM n2 far];exact Wt.ps z
 have sdw:∀i c,mv.length<=c->yW (jL mv pt) i c=0:=λi c hc=>NT (xU D) hc
 have sdl:∀i c,pt.length+mv.length<=i->yW (jL mv pt) i c=0:=λi c hi=>by
  unfold yW;rw[ae (l:=jL mv pt),bq (by rw[yq];lia)];rfl
 have sdf:∀i c,Fr 2520 1000 (yW (jL mv pt) i c):=λi c=>by
  unfold yW;rw[ae (l:=jL mv pt)];cases e:(jL mv pt)[i]? with
  | none=>exact Fr.zero
  | some xs =>
   show Fr 2520 1000 (xs.getD c 0)
   rw[ae];cases e2:xs[c]? with
   | none=>exact Fr.zero
   | some x =>
    rcases aw.mp (ak e) with h | h
    ·exact gp xs h x (ak e2)
    ·exact Fg gm xs h x (ak e2)
 have oD:∀k,(lX qs rs).getD k 0<=P2 10/\((lX qs rs).getD k 0).den<=1000:=λk=>Jz (FR (LR W))
 have ol:∀i,pt.length+mv.length<=i->(lX qs rs).getD i 0=0:=λi hi=>by
  rw[ae,bq (by unfold lX;rw[aD,W.lr,W.lq];lia)];rfl
 have C2:=W2.next (sd:=yW (jL mv pt)) (ow:=λk=>(lX qs rs).getD k 0) C ps sdf i4 O.r0 oD
 have rd:=Me (q:=2) (sd:=yW (jL mv pt)) (W:=qd (dh mv pt qs rs fs t).1.1 (dh mv pt qs rs fs t).1.2) (ow:=λk=>(lX qs rs).getD k 0) (m:=pt.length) (N:=pt.length+mv.length) (ls:=d7 mv pt qs rs (dh mv pt qs rs fs t).1.1 (dh mv pt qs rs fs t).1.2) s0 (λi j hi hj=>by rw[Ii S D Wt.len Wt.wide Wt.pos hi hj,MJ n2 sdw]) (by lia) (λk hk=>dP.mpr (bar k hk).2.2.1) (λk hk=>by
  obtain ⟨l1,w1,d1,B1⟩:=bar k (by lia);exact (F6 l1 w1 d1 B1 (by lia) (gP _) (λi _ c=>Jv (El S D Wt.len Wt.wide Wt.sl Wt.sb).1 i c) λz zk=>(Em S D Wt O).2 k hk zk).2) pt.length (au _)
 have dm:(0:Rat) < (((fj (d7 mv pt qs rs (dh mv pt qs rs fs t).1.1 (dh mv pt qs rs fs t).1.2) pt.length).2:Int):Rat):=dP.mpr (bar _ (au _)).2.2.1
 have ev:qd (dh mv pt qs rs fs (t+1)).1.1 (dh mv pt qs rs fs (t+1)).1.2=λi j=>stN 2 (yW (jL mv pt)) (xK 2 (yW (jL mv pt)) (qd (dh mv pt qs rs fs t).1.1 (dh mv pt qs rs fs t).1.2) (λk=>(lX qs rs).getD k 0) pt.length) (λk=>(lX qs rs).getD k 0) (pt.length+i) (pt.length+j):=funext λi=>funext λj=>by
  by_cases h:i < mv.length/\j < mv.length
  ·show qd (wW _ _) (xO _ _) i j=_
   rw[yi dB,LU,rd _ _ (by lia) (by lia) (by lia) (by lia)];exact NW dm s0
  ·rw[AY (n:=mv.length) (i:=i) (j:=j) Wn.len Wn.wide (by lia)];unfold stN;have z:∀i,mv.length<=i->∀c,yW (jL mv pt) (pt.length+i) c=0:=λi hi c=>sdl _ c (by lia)
   have e1:(aU 2 λc=>yW (jL mv pt) (pt.length+j) c*aU 2 λe=>xK 2 (yW (jL mv pt)) (qd (dh mv pt qs rs fs t).1.1 (dh mv pt qs rs fs t).1.2) (λk=>(lX qs rs).getD k 0) pt.length c e*yW (jL mv pt) (pt.length+i) e)=0:=iq λc _=>by
    by_cases hj:mv.length<=j
    ·rw[z j hj,cT]
    ·rw[iq λe _=>by rw[z i (by lia),iU],iU]
   rw[e1,Rat.zero_add];by_cases e:pt.length+i=pt.length+j
   ·rw[if_pos e];exact (ol _ (by lia)).symm
   ·rw[if_neg e]
 rw[<- ev] at C2;refine ⟨?_,C2⟩;obtain ⟨β,β0,βb,Co⟩:=C2.co;have ps2:∀z,0<=jr 2 (qd (dh mv pt qs rs fs (t+1)).1.1 (dh mv pt qs rs fs (t+1)).1.2) z:=λz=>by rw[IM n2 λi j h=>AY Wn.len Wn.wide h];exact Wn.ps z
 have dg:∀i,i < 2->qd (dh mv pt qs rs fs (t+1)).1.1 (dh mv pt qs rs fs (t+1)).1.2 i i<=P2 (vB (t+1)):=λi hi=>by
  match i,hi with
  | 0,_=>exact C2.d0
  | 1,_=>exact C2.d1
 have hb:∀s,s<=8->bB s<=bB 8/\vB s<=vB 8:=by decide
 obtain ⟨h8,h9⟩:=hb (t+1) ht;have k8:bB 8=5396:=by decide
 have k9:vB 8=194:=by decide
 obtain ⟨q1,q2⟩:=EM (ls:=Dz (d7 mv pt qs rs (dh mv pt qs rs fs t).1.1 (dh mv pt qs rs fs t).1.2) pt.length) (V:=vB (t+1)) (B:=bB (t+1)) (n:=mv.length) dB (by rw[eZ,ag,(bar _ (au _)).1];lia) (λl hl=>by
  obtain ⟨l',hl',rfl⟩:=ay.mp (fu hl);rw[eZ,(bar _ (au _)).2.1 l' hl']
  lia) β0 βb Co.b λi j hi hj=>by
  have hi2:i < 2:=by lia
  have hj2:j < 2:=by lia
  refine ⟨?_,KI (Qc C2.sy) ps2 hi2 hj2 (dg i hi2) (dg j hj2)⟩
  match i,j,hi2,hj2 with
  | 0,0,_,_=>exact Co.w0
  | 0,1,_,_=>exact Co.w1
  | 1,0,_,_ =>
   have h:=Co.w1;rw[<- C2.sy] at h;exact h
  | 1,1,_,_=>exact Co.w2
 exact ⟨Wn.len,Wn.wide,Wn.pos,Wn.ps,λl hl z hz=>(q1 l hl z hz).mono (by lia),q2.mono (by lia)⟩
theorem JI:∀t,t<=8->yf mv.length (dh mv pt qs rs fs t).1.1 (dh mv pt qs rs fs t).1.2 5700/\W2 (qd (dh mv pt qs rs fs t).1.1 (dh mv pt qs rs fs t).1.2) t
 | 0,_=>Lj S D W
 | t+1,ht=>by
  obtain ⟨a,b⟩:=JI t (by lia);exact Lk S D W n2 gm gp ht a b
end
theorem Bd.upK {M1 M2 V a1 a2 c a1' a2' c':Nat} (X:Bd mv pt M1 M2 V a1 a2 c) (h1:a1<=a1') (h2:a2<=a2') (h3:c<=c'):Bd mv pt M1 M2 V a1' a2' c':=⟨X.m1,X.m2,aj X.b1 (p2 h1),aj X.b2 (p2 h2),X.gm,X.gp,aj X.vc (p2 h3)⟩
theorem PD (R:Rg mv pt w):w<=1000/\∃M1 M2 V,Bd mv pt M1 M2 V 80 160 33:=by
 rcases R with ⟨w9,X⟩ | ⟨w9,_,X⟩ | ⟨w9,_,M1,M2,X⟩
 ·exact ⟨by lia,_,_,_,X.upK (by decide) (by decide) (by decide)⟩
 ·exact ⟨by lia,_,_,_,X.upK (by decide) (by decide) (by decide)⟩
 ·exact ⟨by lia,_,_,_,X⟩
theorem wA (RG:Rg mv pt w) (D:iH mv pt lk) (WT:DV mv pt qs rs fs) (FW:PZ mv pt T):(∃M,my M (fs.map nm))/\∃σ ω b j,Ml mv pt qs rs fs T σ ω b j/\(∀st:List Rat,st.length=mv.length->(∀z∈st,Dr (max w 6) z)->Oy mv pt qs rs fs st T)/\(1<=T->∀st:List Rat,st.length=mv.length->(∃B,0 < B/\B<=2^600/\∀z∈st,Fr B (2^30) z)->(∃M,my M (st.map nm))/\(∀z∈st,qF z)/\(kY mv pt qs rs fs T st).length=pt.length/\∀z∈kY mv pt qs rs fs T st,qF z):=by
 obtain ⟨w1,M1,M2,V,X⟩:=PD RG;have n8:=D.n8;have S:=Mz X D WT;have O:=Nt WT;refine ⟨(HY D WT).1,275,150,?_⟩
 have begin_:∀st:List Rat,st.length=mv.length->(∀z∈st,Dr (max w 6) z)->∃B,0 < B/\B<=2^600/\∀z∈st,Fr B (2^30) z:=λst ls ds=>by
  obtain ⟨B,B0,Bb,h⟩:=rZ (c:=10) (l:=st) (λx hx=>⟨aj (ds x hx).1 (by lia),aj (ds x hx).2 (by lia)⟩) (by decide);exact ⟨B,B0,aj Bb (p2 (by lia)),λz hz=>(h z hz).mono (p2 (by decide))⟩
 have all:∀(b b1:Nat) (e:Nat->Nat),(∀t,t<=T->yf mv.length (dh mv pt qs rs fs t).1.1 (dh mv pt qs rs fs t).1.2 b)->(∀t,t < T->yf mv.length (dh mv pt qs rs fs t).1.1 (dh mv pt qs rs fs t).1.2 b1)->b<=1000*900->b1<=1000*300->(∀l,1<=l->l<=T->P0 mv pt qs rs fs l (e l))->vP e T T<=1000*890->(1<=T->e T<=1000*890)->∃b j,Ml mv pt qs rs fs T 275 150 b j/\(∀st:List Rat,st.length=mv.length->(∀z∈st,Dr (max w 6) z)->Oy mv pt qs rs fs st T)/\(1<=T->∀st:List Rat,st.length=mv.length->(∃B,0 < B/\B<=2^600/\∀z∈st,Fr B (2^30) z)->(∃M,my M (st.map nm))/\(∀z∈st,qF z)/\(kY mv pt qs rs fs T st).length=pt.length/\∀z∈kY mv pt qs rs fs T st,qF z):=λb b1 e hW hV hb h1 hd hE eT =>
  ⟨b,_,Nz S D O FW.2.1 hW hV (by lia) h1 (by decide),λst ls ds=>by
   obtain ⟨B,B0,Bb,h⟩:=begin_ st ls ds;exact Od X D hd (hW T (au _)) hb FW.2.1 hE ls B0 Bb h,λt1 st ls ⟨B,B0,Bb,h⟩=>Lc D (hd T t1 (au _)) (eT t1) ls B0 Bb h⟩
 by_cases T4:T<=4
 ·have c4:cB 4<=1000*890:=by decide
  have c3:cB 3<=1000*300:=by decide
  have hE:∀T,T<=4->vP cB T T<=1000*890:=by decide
  refine all (cB 4) (cB 3) cB (λt ht=>(Cf S D WT t).mono (F7 (by lia))) (λt ht=>(Cf S D WT t).mono (F7 (by lia))) (by lia) c3 (λl l1 l2=>?_) (hE T T4) λ_=>aj (F7 T4) (by lia)
  match l,l1 with
  | t+1,_=>exact Jy S D O (Cf S D WT t)
 ·obtain ⟨⟨_,h⟩,T8,h3,_⟩:=FW
  have n2:mv.length<=2:=by
   rcases nE mv.length 3 with q | q
   ·lia
   ·exact absurd (h3 q) T4
  obtain ⟨hd,_⟩:=h.resolve_left (by lia)
  have gf:∀l:LR9,(∀xs∈l,xs∈mv++pt)->GF 2520 1000 l:=λl hl xs hx x hx'=>by
   have:=hd xs (hl xs hx) x hx';exact (Fr.own x (aT this.2)).dvd (F0 this.1)
  have C:=JI S D WT n2 (gf mv λxs hx=>aw.mpr (.inl hx)) (gf pt λxs hx=>aw.mpr (.inr hx));have hE:∀T,T<=8->vP (λ_=>5*(5700+(2*275+150+20))+1) T T<=1000*890:=by decide
  refine all 5700 5700 (λ_=>5*(5700+(2*275+150+20))+1) (λt ht=>(C t (by lia)).1) (λt ht=>(C t (by lia)).1) (by decide) (by decide) (λl l1 l2=>?_) (hE T T8) λ_=>(by decide)
  match l,l1 with
  | t+1,_=>exact Jy S D O (C t (by lia)).1
end
end L2
open L2
local macro_rules | `(tactic| walk_at "hl") => `(tactic| first | (show _ ≤ sizeLine; with_unfolding_all decide) | (with_unfolding_all exact (by decide)))
local macro_rules | `(tactic| walk_at "sq") => `(tactic| first | with_reducible assumption | with_reducible exact qG.of (by assumption) | with_reducible exact bP.of (by assumption) | with_reducible exact qG.of aE | with_reducible exact bP.of aE | assumption)
local macro_rules | `(tactic| walk_at "sc") => `(tactic| first | (with_reducible show (0 : Int) < _; decide) | with_reducible exact Ll (by decide) (by decide) | with_reducible exact F4 (by decide) (by decide) | with_reducible exact cpow_of (by decide) (by decide) (by decide))
local macro_rules | `(tactic| walk_at "rd") => `(tactic| first
  | with_reducible refine MQ ?_
  | with_reducible refine Km ?_
  | with_reducible refine Ng ?_
  | with_reducible refine II ?_
  | ((with_reducible refine' MM ?hx1 ?_); (case hx1 => with_unfolding_all rfl))
  | with_reducible refine Qo ?_
  | with_reducible refine O4 ?_
  | with_reducible refine O7 ?_
  | with_reducible refine OZ ?_
  | with_reducible refine Qp ?_
  | with_reducible refine Nd ?_
  | with_reducible refine MV ?_
  | with_reducible refine rd_eqS ?_
  | with_reducible refine rd_neS ?_
  | with_reducible refine rd_eqB ?_
  | with_reducible refine rd_neB ?_
  | with_reducible refine Kp ?_
  | with_reducible refine Eu ?_
  | with_reducible refine Nc ?_
  | with_reducible refine Kj ?_
  | with_reducible refine Kn ?_
  | with_reducible refine Ko ?_
  | with_reducible refine IH ?_
  | with_reducible refine Ki ?_
  | with_reducible refine O0 ?_
  | with_reducible refine MR ?_
  | with_reducible refine rd_retN ?_
  | with_reducible refine MY ?_
  | with_reducible refine Nh ?_
  | with_reducible refine O3 ?_
  | with_reducible refine MT ?_
  | with_reducible refine KA ?_
  | with_reducible refine rd_orV ?_
  | with_reducible refine Kl ?_
  | with_reducible refine MZ ?_
  | with_reducible refine ML ?_
  | with_reducible refine K4 ?_
  | with_reducible refine Qw ?_
  | with_reducible refine Pp ?_
  | with_reducible refine iteNF ?_
  | with_reducible refine OY ?_
  | with_reducible refine MU ?_
  | with_reducible refine Kw ?_
  | with_reducible refine MO ?_
  | with_reducible refine MW ?_
  | with_reducible refine Ky ?_
  | with_reducible refine O5 ?_
  | with_reducible refine Kv ?_
  | with_reducible refine MS ?_
  | with_reducible refine Kz ?_
  | ((with_reducible refine' rd_aug ?hx1 ?_); (case hx1 => with_unfolding_all rfl))
  | with_reducible refine MX ?_
  | with_reducible refine Ks ?_
  | with_reducible refine IJ ?_
  | with_reducible refine Kt ?_
  | with_reducible refine O1 ?_
  | with_reducible refine GC ?_
  | with_reducible refine Kk ?_
  | with_reducible refine Na ?_
  | with_reducible refine IG ?_
  | with_reducible refine Kq ?_
  | with_reducible refine IF ?_
  | with_reducible refine rd_iRng2 ?_
  | ((with_reducible refine' Kx ?hx1 ?_); (case hx1 => with_unfolding_all rfl))
  | with_reducible refine Kh ?_
  | with_reducible refine O6 ?_
  | with_reducible refine rd_bm0 ?_
  | with_reducible refine rd_brk ?_
  | ((with_reducible refine' Kr ?hx1 ?hx2 ?_); (case hx1 => walk_at "sq"); (case hx2 => with_unfolding_all rfl))
  | with_reducible refine rd_cont ?_
  | ((with_reducible refine' fG ?hx1 ?_); (case hx1 => walk_at "sc"))
  | ((with_reducible refine' Ew ?hx1 ?hx2 ?_); (case hx1 => walk_at "sq"); (case hx2 => with_unfolding_all rfl))
  | ((with_reducible refine' cO ?hx1 ?hx2 ?_); (case hx1 => walk_at "sq"); (case hx2 => with_unfolding_all rfl))
  | ((with_reducible refine' Ku ?hx1 ?hx2 ?_); (case hx1 => walk_at "sq"); (case hx2 => with_unfolding_all rfl))
  | ((with_reducible refine' fW ?hx1 ?hx2 ?hx3 ?_); (case hx1 => with_reducible first | assumption | exact aE); (case hx2 => with_unfolding_all rfl); (case hx3 => with_unfolding_all rfl))
  | with_reducible refine ⟨_, rfl, ?_⟩
  | with_reducible refine ⟨_, _, rfl, ?_⟩)
local macro_rules | `(tactic| walk_at "w") => `(tactic| repeat walk_at "rd")
local macro_rules | `(tactic| walk_at "d") => `(tactic| exact ⟨rfl,rfl,rfl,by decide +kernel,rfl,by decide +kernel,by decide +kernel⟩)
namespace Lw
open PySem PySem.Spec PyProof.Rows L2 Nm
local macro_rules | `(tactic| exists $e) => `(tactic| (walk_at "w";refine $e))
set_option maxHeartbeats 4000000
def top (i:Nat):Stmt:=PySem.Challenge.pw_helmsum_k68_due_and_best.main.body.getD i (.Pass ⟨0,0,0,0⟩)
abbrev tV:Stmt:=top 46
abbrev qU:Stmt:=top 47
abbrev kT:Stmt:=top 60
abbrev rf:Stmt:=top 62
abbrev tT:Stmt:=top 48
abbrev tR:Stmt:=top 49
abbrev qW:Stmt:=top 54
abbrev qV:Stmt:=top 50
abbrev v7:Stmt:=top 55
abbrev pj:Stmt:=top 57
abbrev jS:Stmt:=top 63
abbrev nP:Stmt:=top 51
abbrev tS:Stmt:=top 52
abbrev qY:Stmt:=top 56
abbrev ph:Stmt:=top 58
abbrev nO:Stmt:=top 64
abbrev qO:Stmt:=top 42
abbrev tQ:Stmt:=top 7
abbrev jR:Stmt:=top 8
abbrev qT:Stmt:=top 10
abbrev yx:Stmt:=top 14
abbrev nN:Stmt:=top 43
abbrev d9:Stmt:=inClass (top 44) 0
abbrev nR:Stmt:=top 59
abbrev qZ:Stmt:=top 65
abbrev lQ:Stmt:=top 70
abbrev pe:Stmt:=top 71
abbrev ju:Stmt:=top 9
abbrev kO:Stmt:=top 15
abbrev qP:Stmt:=top 16
abbrev qR:Stmt:=top 30
abbrev eX:Stmt:=inClass (top 37) 0
abbrev o9:Stmt:=top 66
abbrev pB:Stmt:=top 72
abbrev yw:Stmt:=top 11
abbrev qQ:Stmt:=top 32
abbrev Er:Stmt:=top 20
abbrev o8:Stmt:=top 29
abbrev nM:Stmt:=top 19
abbrev qN:Stmt:=top 33
abbrev tN:Stmt:=top 34
abbrev eh:Stmt:=inClass (top 37) 2
abbrev vY:Stmt:=top 24
abbrev tP:Stmt:=top 31
abbrev eS:Stmt:=inClass (top 37) 3
abbrev ef:Stmt:=inClass (top 37) 4
abbrev gK:Stmt:=inClass (top 37) 5
abbrev tO:Stmt:=top 35
abbrev je:Stmt:=inClass (top 37) 6
abbrev jT:Stmt:=top 68
abbrev nQ:Stmt:=top 69
abbrev tU:Stmt:=top 53
abbrev vZ:Stmt:=top 61
abbrev qX:Stmt:=top 67
abbrev pC:Stmt:=top 73
abbrev vX:Stmt:=top 17
abbrev fL:Stmt:=inClass (top 44) 1
abbrev iu:Stmt:=inClass (top 37) 7
abbrev Iz:Stmt:=top 74
set_option genInjectivity false in
set_option genSizeOf false in
structure Ads where
 zE:Addr
 zf:FuncData
 xx:Addr
 xg:FuncData
 vF:Addr
 vo:FuncData
 xE:Addr
 xm:FuncData
 zy:Addr
 zb:FuncData
 zw:Addr
 y9:FuncData
 xA:Addr
 xi:FuncData
 xy:Addr
 xh:FuncData
 AO:Addr
 Ay:FuncData
 vI:Addr
 vt:FuncData
 oV:Addr
 oN:FuncData
 tu:Addr
 sW:FuncData
 zx:Addr
 za:FuncData
 xC:Addr
 xk:FuncData
 vH:Addr
 vq:FuncData
 tq:Addr
 sV:FuncData
 xp:Addr
 wZ:FuncData
 zu:Addr
 y8:FuncData
 oU:Addr
 oM:FuncData
 xv:Addr
 xf:FuncData
 DT:Addr
 DI:FuncData
 tm:Addr
 sU:FuncData
 jH:Addr
 jD:FuncData
 tD:Addr
 sY:FuncData
 xD:Addr
 xl:FuncData
 rO:Addr
 rL:FuncData
 vG:Addr
 vp:FuncData
 mX:Addr
 mT:FuncData
 qq:Addr
 qo:FuncData
 xr:Addr
 w5:FuncData
 xu:Addr
 xc:FuncData
 j8:Addr
 j4:FuncData
 vE:Addr
 vn:FuncData
 zC:Addr
 zc:FuncData
 DS:Addr
 DH:FuncData
 xt:Addr
 xa:FuncData
 JN:Addr
 JF:FuncData
 vD:Addr
 vh:FuncData
 tj:Addr
 sT:FuncData
 xo:Addr
 wY:FuncData
 zl:Addr
 yZ:FuncData
 jJ:Addr
 jF:FuncData
 AM:Addr
 Aw:FuncData
 zq:Addr
 y7:FuncData
 j7:Addr
 j3:FuncData
 jI:Addr
 jE:FuncData
 oy:Addr
 ox:FuncData
 zo:Addr
 y0:FuncData
 rQ:Addr
 rM:FuncData
 oW:Addr
 oO:FuncData
 tx:Addr
 sX:FuncData
 zD:Addr
 zd:FuncData
 AN:Addr
 Ax:FuncData
 xB:Addr
 xj:FuncData
 vJ:Addr
 vv:FuncData
 AL:Addr
 Av:FuncData
 me:Addr
 l9:FuncData
 p4:Addr
 pV:FuncData
 Mh:Addr
 Mc:FuncData
 t_MOST_STATES:Tok
 t_MOST_PUTS:Tok
 t_MOST_LOOKS:Tok
 a_System:Addr
 a_Costs:Addr
structure Txt (K:W.Frag) (mg:Str->Option Value) (Z:Ads):Prop where
 rH:Df K mg "_law_bag" tV ["_law_script"] Z.zE Z.zf
 aK:Df K mg "_law_take" qU ["_law_bag_here","_law_many"] Z.xx Z.xg
 og:Df K mg "_law_sizes" kT ["_law_bag_here"] Z.vF Z.vo
 jA:Df K mg "_law_line" rf ["_law_bag_here","_law_n"] Z.xE Z.xm
 fR:Df K mg "_law_low" tT ["_law_top","_law_bottom"] Z.zy Z.zb
 jg:Df K mg "_law_sum" tR ["_law_one","_law_other"] Z.zw Z.y9
 iD:Df K mg "_law_plus" qW ["_law_one","_law_other"] Z.xA Z.xi
 iC:Df K mg "_law_prod" qV ["_law_one","_law_other"] Z.xy Z.xh
 jY:Df K mg "_law_by" v7 ["_law_by_here","_law_row_here"] Z.AO Z.Ay
 kh:Df K mg "_law_mixed" pj ["_law_bag_here","_law_move_here","_law_put","_law_look"] Z.vI Z.vt
 jy:Df K mg "_law_two_lines" jS ["_law_bag_here"] Z.oV Z.oN
 jz:Df K mg "_law_number" nP ["_law_bag_here","_law_wide"] Z.tu Z.sW
 ij:Df K mg "_law_row" tS ["_law_bag_here","_law_many","_law_wide"] Z.zx Z.za
 pQ:Df K mg "_law_move" qY ["_law_bag_here","_law_n","_law_way","_law_first","_law_wide"] Z.xC Z.xk
 oi:Df K mg "_law_parts" ph ["_law_bag_here","_law_n","_law_ins","_law_outs","_law_wide"] Z.vH Z.vq
 lZ:Df K mg "_law_system" nO ["_law_bag_here"] Z.tq Z.sV
 jv:Df K mg "want_list" qO ["thing","at","most"] Z.xp Z.wZ
 mQ:Df K mg "is_whole" tQ ["thing"] Z.zu Z.y8
 eo:Df K mg "common_divisor" jR ["one","other"] Z.oU Z.oM
 pO:Df K mg "is_number" qT ["thing"] Z.xv Z.xf
 wq:Df K mg "is_row" yx ["thing","many"] Z.DT Z.DI
 ig:Df K mg "copied_rows" nN ["things","wide"] Z.tm Z.sU
 mV:Binds K Z.jD ["self","move","put","look"] []
 mZ:D8 K "__init__" "System.__init__" d9 Z.jH Z.jD
 ik:Df K mg "_law_copied" nR ["_law_grid"] Z.tD Z.sY
 pR:Df K mg "_law_made" qZ ["_law_parts_here"] Z.xD Z.xl
 gH:Df K mg "_law_weights" lQ ["_law_bag_here","_law_many","_law_begin"] Z.rO Z.rL
 oh:Df K mg "_law_rates" pe ["_law_bag_here","_law_parts_here"] Z.vG Z.vp
 i8:Df K mg "common_multiple" ju ["wholes"] Z.mX Z.mT
 dR:Df K mg "common_bottom" kO ["row"] Z.qq Z.qo
 fY:Df K mg "tops_over" qP ["row","bottom"] Z.xr Z.w5
 kX:Df K mg "main_line" qR ["row"] Z.xu Z.xc
 j6:Binds K Z.j4 ["self","system","state_weights","put_weights","last_weights"] []
 o3:D8 K "__init__" "Costs.__init__" eX Z.j8 Z.j4
 oa:Df K mg "_law_steps" o9 ["_law_bag_here","_law_parts_here"] Z.vE Z.vn
 mR:Df K mg "_law_few" pB ["_law_bag_here","_law_parts_here"] Z.zC Z.zc
 oJ:Df K mg "lowest" yw ["top","bottom"] Z.DS Z.DH
 pM:Df K mg "told_grid" qQ ["whole"] Z.xt Z.xa
 xY:Df K mg "flat" Er ["lists"] Z.JN Z.JF
 nZ:Df K mg "whole_grid" o8 ["grid"] Z.vD Z.vh
 jx:Df K mg "grid_turned" nM ["grid","wide"] Z.tj Z.sT
 pL:Df K mg "whole_dot" qN ["one","other"] Z.xo Z.wY
 kF:Df K mg "whole_on" tN ["lines","tops"] Z.zl Z.yZ
 l7:Cp K Z.a_Costs "step_cost" Z.jJ
 mW:Binds K Z.jF ["self","behind"] []
 ni:D8 K "step_cost" "Costs.step_cost" eh Z.jJ Z.jF
 ug:Df K mg "cleared" vY ["lines","at","place","before"] Z.AM Z.Aw
 rB:Df K mg "lessened" tP ["lines","bottom"] Z.zq Z.y7
 mS:Cp K Z.a_Costs "ahead_of" Z.j7
 oT:Binds K Z.j3 ["self","behind"] []
 oZ:D8 K "ahead_of" "Costs.ahead_of" eS Z.j7 Z.j3
 fZ:Cp K Z.a_Costs "with_left" Z.jI
 gW:Binds K Z.jE ["self","left"] []
 nh:D8 K "with_left" "Costs.with_left" ef Z.jI Z.jE
 rJ:Cp K Z.a_Costs "worth" Z.oy
 td:Binds K Z.ox ["self","left"] []
 tG:D8 K "worth" "Costs.worth" gK Z.oy Z.ox
 mP:Df K mg "on_state" tO ["whole","state"] Z.zo Z.y0
 iE:Cp K Z.a_Costs "due" Z.rQ
 ji:Binds K Z.rM ["self","state","left"] []
 xF:D8 K "due" "Costs.due" je Z.rQ Z.rM
 jB:Df K mg "_law_is_number" jT ["_law_thing"] Z.oW Z.oO
 l5:Df K mg "_law_is_row" nQ ["_law_thing","_law_many"] Z.tx Z.sX
 rD:Df K mg "_law_dot" tU ["_law_one","_law_other"] Z.zD Z.zd
 uh:Df K mg "_law_on" vZ ["_law_grid","_law_row_here"] Z.AN Z.Ax
 pP:Df K mg "_law_next" qX ["_law_parts_here","_law_state","_law_puts"] Z.xB Z.xj
 oj:Df K mg "_law_along" pC ["_law_parts_here","_law_told","_law_start","_law_steps_here"] Z.vJ Z.vv
 pN:Df K mg "row_dot" vX ["one","other"] Z.AL Z.Av
 qj:Cp K Z.a_System "moved" Z.me
 rN:Binds K Z.l9 ["self","state","puts"] []
 rV:D8 K "moved" "System.moved" fL Z.me Z.l9
 oo:Cp K Z.a_Costs "best" Z.p4
 pZ:Binds K Z.pV ["self","start","steps"] []
 vO:D8 K "best" "Costs.best" iu Z.p4 Z.pV
 Mm:D8 K "law" "law" Iz Z.Mh Z.Mc
 abs:mg "abs"=none
 len:mg "len"=none
 min:mg "min"=none
 int:mg "int"=none
 range:mg "range"=none
 isinstance:mg "isinstance"=none
 list:mg "list"=none
 bool:mg "bool"=none
 tuple:mg "tuple"=none
 all:mg "all"=none
 enumerate:mg "enumerate"=none
 max:mg "max"=none
 sum:mg "sum"=none
 zip:mg "zip"=none
 mg_MOST_STATES:mg "MOST_STATES"=some (.int 8 Z.t_MOST_STATES)
 mg_MOST_PUTS:mg "MOST_PUTS"=some (.int 4 Z.t_MOST_PUTS)
 mg_MOST_LOOKS:mg "MOST_LOOKS"=some (.int 4 Z.t_MOST_LOOKS)
 mg_System:mg "System"=some (.ref Z.a_System)
 cl_System:HK K Z.a_System
 na_move:gs K Z.a_System "move"
 na_states:gs K Z.a_System "states"
 na_put:gs K Z.a_System "put"
 na_ins:gs K Z.a_System "ins"
 na_look:gs K Z.a_System "look"
 na_outs:gs K Z.a_System "outs"
 mk_System:Mk K Z.a_System Z.jH
 mg_Costs:mg "Costs"=some (.ref Z.a_Costs)
 cl_Costs:HK K Z.a_Costs
 na_Costs_known:gs K Z.a_Costs "known"
 na_Costs_last_weights:gs K Z.a_Costs "last_weights"
 na_Costs_put_weights:gs K Z.a_Costs "put_weights"
 na_Costs_state_weights:gs K Z.a_Costs "state_weights"
 na_Costs_system:gs K Z.a_Costs "system"
 mk_Costs:Mk K Z.a_Costs Z.j8
section
variable {P:Program} {w:World} {K:W.Frag} {mg:Str->Option Value} {base:Heap} {Z:Ads}
theorem Di:ba ["_law_script"] ["_law_script"] (aH tV):=by walk_at "d"
theorem Dv (T:Txt K mg Z) (ptree:P.given.tree=none):cW P w K mg base iO 1 Z.zE Z.zf ["_law_script"] (Iu K):=by
 refine T.rH.F.ok Di (λvs H Q E h=>?_) (λcdv A outer s H vs Q E hr h=>?_)
 ·obtain ⟨a,ns,rfl,_⟩:=h;rfl
 ·obtain ⟨a,ns,rfl,hS,hlen,k⟩:=h;refine ⟨_,(az (bc (dN (aa ai (aa ai (aa ai (aa (cv ["_law_cell"] [] [] (cu (uO xT (pv 0) xW (xV ai))) (λ_=>(aO (i:=0) (show ND9 ["_law_cell"] by decide +kernel))) (λ_=>cy) (λ_=>(bO vz (by rfl) T.abs PyProof.Rows.boot_abs (aa (pv 0) af)))) af))))))),?_⟩;refine aW (σ:=[some (.ref a)]) rfl ?_;exists ⟨a,_,rfl,hS,λl hl=>?_⟩;have hcl:(sE (ns.map V.int) none (some 63)).length<=63:=aj (xn _ _ _) (by simpa using hlen);refine ⟨l,rfl,⟨_,bP.of aE⟩,?_⟩;refine fN (K:=K) (a:=l) (xs:=sE (ns.map V.int) none (some 63)) (λi ys H'=>H'=upd H l (.lst (sE (ns.map V.int) none (some 63)))/\∃cs:List Int,ys=cs.map V.int/\∀x∈cs,0<=x) (aj hcl (by decide)) ⟨rfl,[],rfl,λ_ z=>nomatch z⟩ (λi ys H' _ ⟨e,_⟩=>by subst e;exact bP.of aE) ?_ ?_
  ·rintro i x ys H' hx hi ⟨rfl,cs,rfl,hcs⟩
   obtain ⟨z,rfl⟩:∃z,x=V.int z:=by
    have hm:x∈ns.map V.int:=fu (di (ak hx));obtain ⟨z,_,e⟩:=ay.mp hm;exact ⟨z,e.symm⟩
   exists ⟨rfl,cs++[if z < 0 then -z else z],by simp,λx hx=>?_⟩;rcases aw.mp hx with hx | hx
   ·exact hcs x hx
   ·have e:x=if z < 0 then -z else z:=by simpa using hx
    subst e
    split <;> lia
  ·rintro ys H' hy ⟨rfl,cs,rfl,hcs⟩ p hp;exists ⟨by show 4<=sizeLine;decide,λb hb=>?_⟩;have n1:b≠p:=λz=>by rw[z,aE] at hb;cases hb
   have hb1:(upd H l (.lst (sE (ns.map V.int) none (some 63)))) b=none:=by rw[aN n1] at hb;exact hb
   have s1:aA H (upd H l (.lst (sE (ns.map V.int) none (some 63)))):=aA.new hl;refine k b _ (s1.free hb1) ⟨p,0,1234567891,0,cs,aE,by rw[aN n1.symm];exact aE,by decide,by decide,by lia,hcs⟩ ((s1.trans (aA.new hp)).trans (aA.new hb))
theorem eH:ba ["_law_bag_here","_law_many","_law_more","_law_cell","_law_value","_law_first","_law_second"] ["_law_bag_here","_law_many"] (aH qU):=by walk_at "d"
theorem dF (T:Txt K mg Z) (ptree:P.given.tree=none):cW P w K mg base iO 1 Z.xx Z.xg ["_law_bag_here","_law_many"] Kd:=by
 refine T.aK.F.ok eH (λvs H Q E h=>?_) (λcdv A outer s H vs Q E hr h=>?_)
 ·obtain ⟨p,n,rfl,_⟩:=h;rfl
 ·obtain ⟨p,n,rfl,⟨q,a,b,c,cs,hp,hq,ha,hc,hcl,hcs⟩,hn,hn2,k⟩:=h;have nqp:q≠p:=Hs hp hq
  refine ⟨_,(iw (dC (br fy (aR bf (pv 0) ai) ai (bF _)) (ar (aV (i:=2) eH.nd rfl (Or.inl rfl) ai)
   (iw (dC (br sR (aR bf (pv 0) ai) (bO bG (by rfl) T.len bx (aa (aR bf (pv 0) ai) af)) (bF _)) (ar (aV (i:=3) eH.nd rfl (Or.inl rfl) (aR bf (aR bf (pv 0) ai) (aR bf (pv 0) ai)))
   (ar (KL (pv 0) ai Jp ai NL set_list)
   (ar (dC (br An (pv 3) ai (bF _)) (az (gO (pv 3) (iZ (pv 0) ai set_list))) bX)
   (az (aV (i:=2) eH.nd rfl (Or.inl rfl) (bw fw (bw nW (pv 3) ai) ai)))))) bX)
   (az (gO (bw nW (bw fw (bw dc (aR bf (pv 0) ai) ai) (pv 2)) ai) (iZ (pv 0) ai set_list))))) bX)
   (ar (dC (br uQ (aR bf (pv 0) ai) ai (bF _)) (ar (aV (i:=4) eH.nd rfl (Or.inl rfl) (bw nW (aR bf (pv 0) ai) (pv 1)))
   (ar (gO (bw (fM rfl eH rfl rfl rfl ptree (oK hr)) (aR bf (pv 0) ai) (pv 1)) (iZ (pv 0) ai set_list))
   (az (bc (pv 4))))) bX)
   (ar (aV (i:=5) eH.nd rfl (Or.inl rfl) (bw nW (bw dc (aR bf (pv 0) ai) ai) ai))
   (ar (aV (i:=6) eH.nd rfl (Or.inl rfl) (bw nW (bw dc (pv 5) ai) ai))
   (ar (dC (br uQ (pv 1) ai (bF _)) (az (bc (bw nW (bw fw (bw dc (pv 6) ai) (pv 5)) (pv 1)))) bX)
   (az (bc (bw nW (bw (fM rfl eH rfl rfl rfl ptree (oK hr)) (pv 6) ai) (pv 1))))))))),?_⟩
  refine aW (σ:=[some (.ref p),some (.int n),none,none,none,none,none]) rfl ?_;refine ⟨λσ' H'=>∃(x y:Option V) (a' b' c':Int),σ'=[some (.ref p),some (.int n),x,y,none,none,none]/\H' p=some (.lst [.int a',.int b',.int c',.ref q])/\0<=a'/\0<=c'/\c'<=cs.length/\cz p H H',?_,?_⟩
  ·exists ia (λh0=>?_) (λh0=>?_)
   ·exists ⟨λσ' H'=>∃(m:Int) (y:Option V) (a' c':Int),σ'=[some (.ref p),some (.int n),some (.int m),y,none,none,none]/\H' p=some (.lst [.int a',.int b,.int c',.ref q])/\0<=a'/\0<=c'/\c'<=cs.length/\cz p H H',?_,?_⟩
    ·exists ⟨_,_,rfl,.inl (bP.of hq),?_⟩;exists ia (λh1=>?_) (λh1=>?_)
     ·have h1':c < cs.length:=by simpa using of_decide_eq_true h1
      obtain ⟨z,hz⟩:∃z,cs[c.toNat]?=some z:=⟨_,ao (by lia)⟩;have hz0:0<=z:=hcs z (ak hz);exists cO (bP.of hq) (v:=.int z) ?_ ?_
      ·have:=gh (xs:=cs.map V.int) (j:=c.toNat) (v:=.int z) (by rw[aB,hz];rfl);rwa [Int.toNat_of_nonneg hc] at this
      exists ia (λh2=>?_) (λh2=>?_)
      ·exists ⟨_,_,z,c+1,rfl,aE,hz0,by lia,by lia,(cz.set hp).trans (cz.set aE)⟩
      ·exists ⟨_,_,a,c+1,rfl,aE,ha,by lia,by lia,cz.set hp⟩
     ·exists ⟨_,_,a,c,rfl,hp,ha,hc,hcl,cz.refl _⟩
    ·rintro σ' H' ⟨m,y,a',c',rfl,hp',ha',hc',hcl',u'⟩;exists ⟨_,_,a',_,c',rfl,aE,ha',hc',hcl',u'.trans (cz.set hp')⟩
   ·exists ⟨_,_,a,b,c,rfl,hp,ha,hc,hcl,cz.refl _⟩
  ·rintro σ' H' ⟨x,y,a',b',c',rfl,hp',ha',hc',hcl',u'⟩;have hq':H' q=some (.lst (cs.map V.int)):=u'.1 q _ hq nqp
   have sn:Sz 4499500 n:=by
    show n.natAbs < 2^4499500
    exact a9 (show n.natAbs < 2^64 by lia) (av (by decide) (by decide))
   exists ia (λh0=>?_) (λh0=>?_)
   ·exists fG (show (0:Int) < n from hn) ?_;exists fG (show nk _ _ from ⟨by lia,sn⟩) ?_;exists k _ _ (lh _ (by lia)) (iX _ hn) ⟨q,_,b',c',cs,aE,by rw[aN nqp];exact hq',?_,hc',hcl',hcs⟩ (u'.trans (cz.set hp'));rw[bE _ (by lia)];exact Int.ediv_nonneg ha' (by lia)
   ·exists ia (λh1=>?_) (λh1=>?_)
    ·exists fG (show (0:Int) < n from hn) ?_;exact k _ _ (lh _ (by lia)) (iX _ hn) ⟨q,a',b',c',cs,hp',hq',ha',hc',hcl',hcs⟩ u'
    ·exists fG (show nk _ _ from ⟨by decide,by show (3:Nat) < 2^4499500;exact a9 (show 3 < 2^2 by decide) (av (by decide) (by decide))⟩) ?_;exists fG (show (0:Int) < n from hn) ?_;exact k _ _ (lh _ (by lia)) (iX _ hn) ⟨q,a',b',c',cs,hp',hq',ha',hc',hcl',hcs⟩ u'
theorem zZ:∃x1 x2 x3 x4 x5 x6 x7 x8 x9 x10 x11 x12 x13 x14 x15 x16:Expr,x1=(Expr.Constant (Const.int 0) 0 ⟨301,16,301,17⟩)/\x2=(Expr.Constant (Const.int 1) 0 ⟨301,19,301,20⟩)/\x3=(Expr.Constant (Const.int 1) 0 ⟨301,22,301,23⟩)/\x4=(Expr.Constant (Const.int 1) 0 ⟨301,25,301,26⟩)/\x5=(Expr.Constant (Const.int 2) 0 ⟨301,28,301,29⟩)/\x6=(Expr.Constant (Const.int 2) 0 ⟨301,31,301,32⟩)/\x7=(Expr.Constant (Const.int 3) 0 ⟨301,34,301,35⟩)/\x8=(Expr.Constant (Const.int 4) 0 ⟨301,37,301,38⟩)/\x9=(Expr.Constant (Const.int 0) 0 ⟨302,17,302,18⟩)/\x10=(Expr.Constant (Const.int 1) 0 ⟨302,20,302,21⟩)/\x11=(Expr.Constant (Const.int 1) 0 ⟨302,23,302,24⟩)/\x12=(Expr.Constant (Const.int 1) 0 ⟨302,26,302,27⟩)/\x13=(Expr.Constant (Const.int 2) 0 ⟨302,29,302,30⟩)/\x14=(Expr.Constant (Const.int 2) 0 ⟨302,32,302,33⟩)/\x15=(Expr.Constant (Const.int 3) 0 ⟨302,35,302,36⟩)/\x16=(Expr.Constant (Const.int 4) 0 ⟨302,38,302,39⟩)/\eJ kT=[ (Stmt.Assign (targets:=[(Expr.Name "_law_n" ⟨298,4,298,10⟩)]) (value:=(Expr.Call (func:=(Expr.Name "_law_take" ⟨298,13,298,22⟩)) (args:=[ (Expr.Name "_law_bag_here" ⟨298,23,298,36⟩),(Expr.Constant (Const.int 5) 0 ⟨298,38,298,39⟩)]) (keywords:=[]) (pos:=⟨298,13,298,40⟩))) (pos:=⟨298,4,298,40⟩)),(Stmt.If (test:=(Expr.Compare (left:=(Expr.Call (func:=(Expr.Name "_law_take" ⟨299,7,299,16⟩)) (args:=[ (Expr.Name "_law_bag_here" ⟨299,17,299,30⟩),(Expr.Constant (Const.int 8) 0 ⟨299,32,299,33⟩)]) (keywords:=[]) (pos:=⟨299,7,299,34⟩))) (ops:=[PySem.CmpOp.Eq]) (comparators:=[(Expr.Constant (Const.int 7) 0 ⟨299,38,299,39⟩)]) (pos:=⟨299,7,299,39⟩))) (body:=[ (Stmt.Assign (targets:=[(Expr.Name "_law_n" ⟨300,8,300,14⟩)]) (value:=(Expr.Constant (Const.int 5) 0 ⟨300,17,300,18⟩)) (pos:=⟨300,8,300,18⟩))]) (orelse:=[]) (pos:=⟨299,4,300,18⟩)),(Stmt.Assign (targets:=[(Expr.Name "_law_ins" ⟨301,4,301,12⟩)]) (value:=(Expr.Subscript (value:=(Expr.List (elts:=[x1,x2,x3,x4,x5,x6,x7,x8]) (pos:=⟨301,15,301,39⟩))) (slice:=(Expr.Call (func:=(Expr.Name "_law_take" ⟨301,40,301,49⟩)) (args:=[ (Expr.Name "_law_bag_here" ⟨301,50,301,63⟩),(Expr.Constant (Const.int 8) 0 ⟨301,65,301,66⟩)]) (keywords:=[]) (pos:=⟨301,40,301,67⟩))) (pos:=⟨301,15,301,68⟩))) (pos:=⟨301,4,301,68⟩)),(Stmt.Assign (targets:=[(Expr.Name "_law_outs" ⟨302,4,302,13⟩)]) (value:=(Expr.Subscript (value:=(Expr.List (elts:=[x9,x10,x11,x12,x13,x14,x15,x16]) (pos:=⟨302,16,302,40⟩))) (slice:=(Expr.Call (func:=(Expr.Name "_law_take" ⟨302,41,302,50⟩)) (args:=[ (Expr.Name "_law_bag_here" ⟨302,51,302,64⟩),(Expr.Constant (Const.int 8) 0 ⟨302,66,302,67⟩)]) (keywords:=[]) (pos:=⟨302,41,302,68⟩))) (pos:=⟨302,16,302,69⟩))) (pos:=⟨302,4,302,69⟩)),(Stmt.If (test:=(Expr.Compare (left:=(Expr.Name "_law_n" ⟨303,7,303,13⟩)) (ops:=[PySem.CmpOp.Eq]) (comparators:=[(Expr.Constant (Const.int 5) 0 ⟨303,17,303,18⟩)]) (pos:=⟨303,7,303,18⟩))) (body:=[ (Stmt.Assign (targets:=[ (Expr.Tuple (elts:=[(Expr.Name "_law_ins" ⟨304,8,304,16⟩),(Expr.Name "_law_outs" ⟨304,18,304,27⟩)]) (k:=0) (pos:=⟨304,8,304,27⟩))]) (value:=(Expr.Tuple (elts:=[ (Expr.Call (func:=(Expr.Name "min" ⟨304,31,304,34⟩)) (args:=[ (Expr.Name "_law_ins" ⟨304,35,304,43⟩),(Expr.Constant (Const.int 2) 0 ⟨304,45,304,46⟩)]) (keywords:=[]) (pos:=⟨304,31,304,47⟩)),(Expr.Call (func:=(Expr.Name "min" ⟨304,49,304,52⟩)) (args:=[ (Expr.Name "_law_outs" ⟨304,53,304,62⟩),(Expr.Constant (Const.int 2) 0 ⟨304,64,304,65⟩)]) (keywords:=[]) (pos:=⟨304,49,304,66⟩))]) (k:=0) (pos:=⟨304,30,304,67⟩))) (pos:=⟨304,8,304,67⟩))]) (orelse:=[]) (pos:=⟨303,4,304,67⟩)),(Stmt.Assign (targets:=[(Expr.Name "_law_wide" ⟨305,4,305,13⟩)]) (value:=(Expr.Subscript (value:=(Expr.List (elts:=[ (Expr.Constant (Const.int 4) 0 ⟨305,17,305,18⟩),(Expr.Constant (Const.int 4) 0 ⟨305,20,305,21⟩),(Expr.Constant (Const.int 9) 0 ⟨305,23,305,24⟩),(Expr.Constant (Const.int 1000000) 0 ⟨305,26,305,33⟩)]) (pos:=⟨305,16,305,34⟩))) (slice:=(Expr.Call (func:=(Expr.Name "_law_take" ⟨305,35,305,44⟩)) (args:=[ (Expr.Name "_law_bag_here" ⟨305,45,305,58⟩),(Expr.Constant (Const.int 4) 0 ⟨305,60,305,61⟩)]) (keywords:=[]) (pos:=⟨305,35,305,62⟩))) (pos:=⟨305,16,305,63⟩))) (pos:=⟨305,4,305,63⟩)),(Stmt.If (test:=(Expr.Compare (left:=(Expr.Name "_law_wide" ⟨306,7,306,16⟩)) (ops:=[PySem.CmpOp.Gt]) (comparators:=[(Expr.Constant (Const.int 9) 0 ⟨306,19,306,20⟩)]) (pos:=⟨306,7,306,20⟩))) (body:=[ (Stmt.Assign (targets:=[(Expr.Name "_law_n" ⟨307,8,307,14⟩)]) (value:=(Expr.Call (func:=(Expr.Name "min" ⟨307,17,307,20⟩)) (args:=[ (Expr.Name "_law_n" ⟨307,21,307,27⟩),(Expr.Constant (Const.int 2) 0 ⟨307,29,307,30⟩)]) (keywords:=[]) (pos:=⟨307,17,307,31⟩))) (pos:=⟨307,8,307,31⟩))]) (orelse:=[]) (pos:=⟨306,4,307,31⟩)),(Stmt.Return (value:=(some (Expr.Tuple (elts:=[ (Expr.Name "_law_n" ⟨308,12,308,18⟩),(Expr.Name "_law_ins" ⟨308,20,308,28⟩),(Expr.Name "_law_outs" ⟨308,30,308,39⟩),(Expr.Name "_law_wide" ⟨308,41,308,50⟩)]) (k:=0) (pos:=⟨308,11,308,51⟩)))) (pos:=⟨308,4,308,51⟩))]:=⟨_,_,_,_,_,_,_,_,_,_,_,_,_,_,_,_,rfl,rfl,rfl,rfl,rfl,rfl,rfl,rfl,rfl,rfl,rfl,rfl,rfl,rfl,rfl,rfl,by with_unfolding_all rfl⟩
theorem eO:ba ["_law_bag_here","_law_n","_law_ins","_law_outs","_law_wide"] ["_law_bag_here"] (aH kT):=by walk_at "d"
theorem zT (T:Txt K mg Z) (ptree:P.given.tree=none):cW P w K mg base iO 2 Z.vF Z.vo ["_law_bag_here"] Gw:=by
 have aI:=dF (P:=P) (w:=w) (base:=base) T ptree;refine T.og.F.ok eO (λvs H Q E h=>?_) (λcdv A outer s H vs Q E hr h=>?_)
 ·obtain ⟨b,rfl,_⟩:=h;rfl
 ·obtain ⟨b,rfl,hB,k⟩:=h;obtain ⟨x1,x2,x3,x4,x5,x6,x7,x8,x9,x10,x11,x12,x13,x14,x15,x16,hx1,hx2,hx3,hx4,hx5,hx6,hx7,hx8,hx9,hx10,hx11,hx12,hx13,hx14,hx15,hx16,hbd⟩:=zZ;rw[hbd]
  refine ⟨_,(ar (aV (i:=1) eO.nd rfl (Or.inl rfl) (cS aI hr T.aK (aa (pv 0) (aa ai af))))
   (iw (dC (br fy (cS aI hr T.aK (aa (pv 0) (aa ai af))) ai (bF _)) (az (aV (i:=1) eO.nd rfl (Or.inl rfl) ai)) bX)
   (ar (aV (i:=2) eO.nd rfl (Or.inl rfl) (aR bf (dN (cL hx1 ai (cL hx2 ai (cL hx3 ai (cL hx4 ai (cL hx5 ai (cL hx6 ai (cL hx7 ai (cL hx8 ai af))))))))) (cS aI hr T.aK (aa (pv 0) (aa ai af)))))
   (ar (aV (i:=3) eO.nd rfl (Or.inl rfl) (aR bf (dN (cL hx9 ai (cL hx10 ai (cL hx11 ai (cL hx12 ai (cL hx13 ai (cL hx14 ai (cL hx15 ai (cL hx16 ai af))))))))) (cS aI hr T.aK (aa (pv 0) (aa ai af)))))
   (iw (dC (br fy (pv 1) ai (bF _)) (az (IP (i:=2) (j:=3) rfl eO.nd rfl rfl (by decide) rfl rfl (aa (bO (oQ rfl) (by rfl) T.min PyProof.Rows.boot_min (aa (pv 2) (aa ai af))) (aa (bO (oQ rfl) (by rfl) T.min PyProof.Rows.boot_min (aa (pv 3) (aa ai af))) af)) rfl)) bX)
   (ar (aV (i:=4) eO.nd rfl (Or.inl rfl) (aR bf (dN (aa ai (aa ai (aa ai (aa ai af))))) (cS aI hr T.aK (aa (pv 0) (aa ai af)))))
   (iw (dC (br uQ (pv 4) ai (bF _)) (az (aV (i:=1) eO.nd rfl (Or.inl rfl) (bO (oQ rfl) (by rfl) T.min PyProof.Rows.boot_min (aa (pv 1) (aa ai af))))) bX)
   (az (bc (cK (aa (pv 1) (aa (pv 2) (aa (pv 3) (aa (pv 4) af)))))))))))))),?_⟩
  refine aW (σ:=[some (.ref b),none,none,none,none]) rfl ?_;exists ⟨b,5,rfl,hB,by decide,by decide,λn H1 n0 n1 B1 u1=>?_⟩;obtain ⟨n,rfl⟩:=cx n0;exists ⟨λσ' H'=>(∃n:Nat,σ'=[some (.ref b),some (.int n),none,none,none]/\n<=5)/\fP H' b/\cz b H H',?_,?_⟩
  ·exists ⟨b,8,rfl,B1,by decide,by decide,λv H2 v0 v1 B2 u2=>?_⟩;exists ia (λ_=>?_) (λ_=>?_)
   ·exists ⟨⟨5,rfl,by decide⟩,B2,u1.trans u2⟩
   ·exists ⟨⟨n,rfl,by lia⟩,B2,u1.trans u2⟩
  clear n0 n1 u1 B1;rintro σ' H1 ⟨⟨n,rfl,n5⟩,B1,u1⟩;exists cY λl0 H2 s2 n2 g2=>?_
  exists ⟨b,8,rfl,B1.same s2,by decide,by decide,λv H3 v0 v1 B3 u3=>?_⟩;have g3:=u3.other (λz=>B1.at (by rw[<- z];exact n2)) g2;obtain ⟨x,ex,mx,_⟩:=jG (xs:=[V.int 0,V.int 1,V.int 1,V.int 1,V.int 2,V.int 2,V.int 3,V.int 4]) v0 (by simpa using v1)
  obtain ⟨i,rfl,hi⟩:∃z:Nat,x=.int z/\z<=4:=by
   simp only[aF,aQ,or_false] at mx;rcases mx with rfl | rfl | rfl | rfl | rfl | rfl | rfl | rfl
   ·exact ⟨0,rfl,by decide⟩
   ·exact ⟨1,rfl,by decide⟩
   ·exact ⟨1,rfl,by decide⟩
   ·exact ⟨1,rfl,by decide⟩
   ·exact ⟨2,rfl,by decide⟩
   ·exact ⟨2,rfl,by decide⟩
   ·exact ⟨3,rfl,by decide⟩
   ·exact ⟨4,rfl,by decide⟩
  exists cO (bP.of g3) ex ?_;clear ex mx g3 g2;exists cY λl1 H4 s4 n4 g4=>?_
  exists ⟨b,8,rfl,B3.same s4,by decide,by decide,λt H5 t0 t1 B5 u5=>?_⟩;have g5:=u5.other (λz=>B3.at (by rw[<- z];exact n4)) g4;obtain ⟨x,ex,mx,_⟩:=jG (xs:=[V.int 0,V.int 1,V.int 1,V.int 1,V.int 2,V.int 2,V.int 3,V.int 4]) t0 (by simpa using t1)
  obtain ⟨o,rfl,ho⟩:∃z:Nat,x=.int z/\z<=4:=by
   simp only[aF,aQ,or_false] at mx;rcases mx with rfl | rfl | rfl | rfl | rfl | rfl | rfl | rfl
   ·exact ⟨0,rfl,by decide⟩
   ·exact ⟨1,rfl,by decide⟩
   ·exact ⟨1,rfl,by decide⟩
   ·exact ⟨1,rfl,by decide⟩
   ·exact ⟨2,rfl,by decide⟩
   ·exact ⟨2,rfl,by decide⟩
   ·exact ⟨3,rfl,by decide⟩
   ·exact ⟨4,rfl,by decide⟩
  exists cO (bP.of g5) ex ?_;clear ex mx g5 g4;have u15:=(((u1.same s2).trans u3).same s4).trans u5;exists ⟨λσ' H'=>(∃i o:Nat,σ'=[some (.ref b),some (.int n),some (.int i),some (.int o),none]/\i<=4/\o<=4/\(n=5->i<=2/\o<=2))/\fP H' b/\cz b H H',?_,?_⟩
  ·exists ia (λh0=>?_) (λh0=>?_)
   ·exists ⟨⟨min i 2,min o 2,?_,by lia,by lia,λ_=>⟨by lia,by lia⟩⟩,B5,u15⟩;have e1:(if (2:Int) < (i:Int) then (2:Int) else (i:Int))=((min i 2:Nat):Int):=by split <;> lia
    have e2:(if (2:Int) < (o:Int) then (2:Int) else (o:Int))=((min o 2:Nat):Int):=by split <;> lia
    rw[<- e1,<- e2];rfl
   ·exists ⟨⟨i,o,rfl,hi,ho,λz=>absurd (decide_eq_true (show (n:Int)=5 by lia)) h0⟩,B5,u15⟩
  clear hi ho u15 B5 u5 u3 u1;rintro σ' H5 ⟨⟨i,o,rfl,hi,ho,h5⟩,B5,u5⟩;exists cY λl2 H6 s6 n6 g6=>?_
  exists ⟨b,4,rfl,B5.same s6,by decide,by decide,λv H7 v0 v1 B7 u7=>?_⟩;have g7:=u7.other (λz=>B5.at (by rw[<- z];exact n6)) g6;obtain ⟨x,ex,mx,_⟩:=jG (xs:=[V.int 4,V.int 4,V.int 9,V.int 1000000]) v0 (by simpa using v1)
  obtain ⟨w,rfl,hw⟩:∃w:Nat,x=.int w/\(w=4\/w=9\/w=1000000):=by
   simp only[aF,aQ,or_false] at mx;rcases mx with rfl | rfl | rfl | rfl
   ·exact ⟨4,rfl,.inl rfl⟩
   ·exact ⟨4,rfl,.inl rfl⟩
   ·exact ⟨9,rfl,.inr (.inl rfl)⟩
   ·exact ⟨1000000,rfl,.inr (.inr rfl)⟩
  exists cO (bP.of g7) ex ?_;have u07:=(u5.same s6).trans u7;exists ⟨λσ' H'=>(∃n:Nat,σ'=[some (.ref b),some (.int n),some (.int i),some (.int o),some (.int w)]/\n<=5/\(w=4\/w=9\/(w=1000000/\n<=2))/\(n=5->i<=2/\o<=2))/\fP H' b/\cz b H H',?_,?_⟩
  ·exists ia (λh0=>?_) (λh0=>?_)
   ·exists ⟨⟨min n 2,?_,by lia,by lia,λz=>by lia⟩,B7,u07⟩;have e1:(if (2:Int) < (n:Int) then (2:Int) else (n:Int))=((min n 2:Nat):Int):=by split <;> lia
    rw[<- e1];rfl
   ·exists ⟨⟨n,rfl,n5,?_,h5⟩,B7,u07⟩;rcases hw with z | z | z
    ·exact .inl z
    ·exact .inr (.inl z)
    ·exact absurd (decide_eq_true (show (9:Int) < (w:Int) by lia)) h0
  ·clear h5 n5;rintro σ' H8 ⟨⟨n',rfl,n5,hwn,h5⟩,B8,u8⟩;exists bU λr H9 s9 g9=>?_
   exact k r n' i o w H9 g9 n5 hi ho hwn h5 (B8.same s9) (u8.same s9)
theorem ir:ba ["_law_bag_here","_law_n","_law_move_here","_law_at","_law_put","_law_first","_law_look"] ["_law_bag_here","_law_n"] (aH rf):=by walk_at "d"
theorem uT (T:Txt K mg Z) (ptree:P.given.tree=none):cW P w K mg base iO 2 Z.xE Z.xm ["_law_bag_here","_law_n"] (C0 K):=by
 have aI:=dF (P:=P) (w:=w) (base:=base) T ptree;refine T.jA.F.ok ir (λvs H Q E h=>?_) (λcdv A outer s H vs Q E hr h=>?_)
 ·obtain ⟨b,n,rfl,_⟩:=h;rfl
 ·obtain ⟨b,n,rfl,hB,n1,n8,k⟩:=h
  refine ⟨_,(ar (mL 2 ["_law_i"] ["_law_n"] [1] ir.nd rfl rfl (cG rfl T.range (aa (pv 1) af)) (λ_=>(aO (i:=0) (show ND9 ["_law_i","_law_n"] by decide +kernel) rfl (Or.inr rfl) (Or.inl rfl))) (λ_=>cy) (λ_=>(cv ["_law_j"] ["_law_i"] [0] (cG rfl T.range (aa (pv 1) af)) (λ_=>(aO (i:=0) (show ND9 ["_law_j","_law_i"] by decide +kernel))) (λ_=>cy) (λ_=>(cK (aa (cZ oR (by rfl) T.int PyProof.Rows.boot_int (aa (kg fy (pv 0) (bw fw (pv 1) ai) (bF _)) af)) (aa ai af)))))))
   (ar (gO (cv ["_law_j"] ["_law_bag_here"] [0] (cG rfl T.range (aa (pv 1) af)) (λ_=>(aO (i:=0) (show ND9 ["_law_j","_law_bag_here"] by decide +kernel))) (λ_=>cy) (λ_=>(cK (aa (bw lY (cS aI hr T.aK (aa (pv 1) (aa ai af))) ai) (aa ai af))))) (iZ (pv 2) (bw lY (pv 1) ai) set_list))
   (ar (aV (i:=3) ir.nd rfl (Or.inr rfl) (aR bf (dN (aa (bw lY (pv 1) ai) (aa (cS aI hr T.aK (aa (pv 0) (aa (pv 1) af))) af))) (cS aI hr T.aK (aa (pv 0) (aa ai af)))))
   (ar (aV (i:=4) ir.nd rfl (Or.inl rfl) (dN (aa (cv ["_law_j"] ["_law_at"] [3] (cG rfl T.range (aa (pv 1) af)) (λ_=>(aO (i:=0) (show ND9 ["_law_j","_law_at"] by decide +kernel))) (λ_=>cy) (λ_=>(cK (aa (cZ oR (by rfl) T.int PyProof.Rows.boot_int (aa (kg fy (pv 0) (pv 1) (bF _)) af)) (aa ai af))))) af)))
   (ar (aV (i:=5) ir.nd rfl (Or.inr rfl) (aR bf (dN (aa ai (aa ai (aa (cS aI hr T.aK (aa (pv 0) (aa (pv 1) af))) af)))) (cS aI hr T.aK (aa (pv 0) (aa ai af)))))
   (ar (aV (i:=6) ir.nd rfl (Or.inl rfl) (dN (aa (cv ["_law_j"] ["_law_first"] [5] (cG rfl T.range (aa (pv 1) af)) (λ_=>(aO (i:=0) (show ND9 ["_law_j","_law_first"] by decide +kernel))) (λ_=>cy) (λ_=>(cK (aa (cZ oR (by rfl) T.int PyProof.Rows.boot_int (aa (kg fy (pv 0) (pv 1) (bF _)) af)) (aa ai af))))) af)))
   (az (bc (cK (aa (pv 2) (aa (pv 4) (aa (pv 6) af)))))))))))),?_⟩
  refine aW (σ:=[some (.ref b),some (.int n),none,none,none,none,none]) rfl ?_
  have bit:∀{z:Int},∀y∈(List.range n).map (λ(j:Nat)=>(((if decide ((j:Int)=z)=true then 1 else 0:Int)):Rat)),Fr 1 1 y:=λy hy=>by
   obtain ⟨j,_,rfl⟩:=ay.mp hy;exact OU (by split <;> simp)
  exists ⟨by lia,by lia,?_⟩;refine j5 (n:=n) (iI K H) (λ(i:Nat)=>(List.range n).map λ(j:Nat)=>(((if decide ((j:Int)=(i:Int)+1)=true then 1 else 0:Int)):Rat)) (by lia) (λa b=>a.same b) ?_ ?_
  ·rintro i Hb NY NN hi sa k1;exists ⟨by lia,by lia,?_⟩;refine j5 (n:=n) (b6 K) (λ(j:Nat)=>(((if decide ((j:Int)=(i:Int)+1)=true then 1 else 0:Int)):Rat)) (by lia) (λa b=>a.same b) ?_ ?_
   ·rintro j Hz NY2 NN2 hj sz k2;exists bU λt Hy sy gy=>?_
    exact k2 _ _ sy (b6.mk gy rfl)
   ·rintro ys Hz t ht sz g pr nx;exact k1 _ _ sz ⟨t,rfl,sa.none ht,ys,g,pr⟩
  rintro ys H1 mm hm s1 g1 pr1 nx1;have G1:cN K H H1 mm ((List.range n).map λ(i:Nat)=>(List.range n).map λ(j:Nat)=>(((if decide ((j:Int)=(i:Int)+1)=true then 1 else 0:Int)):Rat)):=⟨ys,g1,pr1,wV nx1⟩;clear g1 pr1 nx1;have B1:=hB.same s1;have mb:mm≠b:=λz=>hB.at (by rw[<- z];exact hm)
  obtain ⟨q0,I0,xq,gq0⟩:=hB.inner;have mq:mm≠q0:=λz=>by rw[<- z,hm] at gq0;cases gq0
  exists ⟨by lia,by lia,?_⟩;refine AB (n:=n) (b:=b) (b6 K) (Fr 1 1) B1 (by lia) (λa u B=>a.upto u B) ?_ ?_
  ·rintro j Ha NY NN hj ua Ba k1;exists ⟨b,3,rfl,Ba,by decide,by decide,λv Hb v0 v1 Bb ub=>?_⟩;exists bU λt Hc sc gc=>?_
   exact k1 _ ((v - 1:Int):Rat) _ (ub.same sc) (Bb.same sc) (Fr.int (by lia)) (b6.mk gc rfl)
  rintro ys2 cs H2 q2 hq2 u2 B2 g2 lc hc pr2 _;have u02:=(s1.upto (p:=b)).trans u2;have nq2:H q2=none:=s1.none hq2;obtain ⟨us,gu,pu⟩:=(G1.upto u2 B1 mb hB.at).toE;have lu:=pu.length;rw[ag,bS] at lu
  have q2m:q2≠mm:=λz=>by
   obtain ⟨_,gg,_⟩:=id G1;rw[z,gg] at hq2;cases hq2
  walk_at "w";rw[show ((n:Int) - 1)=((n - 1:Nat):Int) by lia];refine fW gu (gV (by lia)) rfl ?_;have G3:cN K H (upd H2 mm (.lst (us.set (n - 1) (.ref q2)))) mm (((List.range n).map λ(i:Nat)=>(List.range n).map λ(j:Nat)=>(((if decide ((j:Int)=(i:Int)+1)=true then 1 else 0:Int)):Rat)).set (n - 1) cs):=cN.ofE aE (tX (Paired.imp' (λ_ _ z=>Ht.updL z gu (λq h=>h.2)) pu) (n - 1) ⟨q2,rfl,⟨nq2,q2m⟩,cg.updL ⟨ys2,g2,pr2⟩ gu q2m⟩) (λq h=>h.1) (λq h=>h.2);have B3:fP (upd H2 mm (.lst (us.set (n - 1) (.ref q2)))) b:=B2.upd (u02.2 _ I0) mb mq;have u03:cz b H (upd H2 mm (.lst (us.set (n - 1) (.ref q2)))):=u02.after hm;obtain ⟨mv,emv⟩:∃mv,mv=((List.range n).map λ(i:Nat)=>(List.range n).map λ(j:Nat)=>(((if decide ((j:Int)=(i:Int)+1)=true then 1 else 0:Int)):Rat)).set (n - 1) cs:=⟨_,rfl⟩;have lmv:mv.length=n:=by rw[emv,jq,ag,bS]
  have hmv:∀xs∈mv,xs.length=n/\∀y∈xs,Fr 1 1 y:=λxs hx=>by
   rw[emv] at hx;rcases dD hx with hx | rfl
   ·obtain ⟨i,_,rfl⟩:=ay.mp hx;exact ⟨by rw[ag,bS],bit⟩
   ·exact ⟨lc,hc⟩
  rw[<- emv] at G3;generalize upd H2 mm (.lst (us.set (n - 1) (.ref q2)))=H3 at G3 B3 u03 ⊢;clear emv pu gu G1 u2 pr2 g2 B2;exists ⟨b,n,rfl,B3,by lia,by lia,λa1 H4 a10 a11 B4 u4=>?_⟩;exists cY λl1 H5 s5 nl1 g5=>?_
  exists ⟨b,2,rfl,B4.same s5,by decide,by decide,λv H6 v0 v1 B6 u6=>?_⟩;have g6:=u6.other (λz=>B4.at (by rw[<- z];exact nl1)) g5;obtain ⟨x,ex,mx,_⟩:=jG (xs:=[V.int ((n:Int) - 1),V.int a1]) v0 (by simpa using v1)
  obtain ⟨at',rfl⟩:∃a:Int,x=.int a:=by
   simp only[aF,aQ,or_false] at mx;rcases mx with rfl | rfl
   ·exact ⟨_,rfl⟩
   ·exact ⟨_,rfl⟩
  exists cO (bP.of g6) ex ?_;have u36:=(u4.same s5).trans u6;have G6:=G3.upto u36 B3 mb hB.at;have u06:=u03.trans u36;clear ex mx g6 g5 G3 u4 u6;exists ⟨by lia,by lia,?_⟩;refine j5 (n:=n) (b6 K) (λ(j:Nat)=>(((if decide ((j:Int)=at')=true then 1 else 0:Int)):Rat)) (by lia) (λa b=>a.same b) ?_ ?_
  ·rintro j Hz NY2 NN2 hj sz k2;exists bU λt Hy sy gy=>?_
   exact k2 _ _ sy (b6.mk gy rfl)
  rintro ys7 H7 q7 hq7 s7 g7 pr7 _;have R7:cg K H7 q7 _:=⟨ys7,g7,pr7⟩;exists cY λp8 H8 s8 n8' g8=>?_
  have s68:=s7.trans s8;have q78:q7≠p8:=λz=>by rw[z,n8'] at g7;cases g7
  have np8:H p8=none:=u06.none B6 (s7.none n8');have nq7:H q7=none:=u06.none B6 hq7
  have GP:cN K H H8 p8 [(List.range n).map λ(j:Nat)=>(((if decide ((j:Int)=at')=true then 1 else 0:Int)):Rat)]:=⟨_,g8,.cons ⟨q7,rfl,nq7,R7.same s8⟩ .nil,λz=>by
   rw[bR] at z;cases z;exact q78 rfl⟩
  have B8:=B6.same s68;have u08:=u06.same s68;have G8:=G6.same s68;have pb:p8≠b:=λz=>hB.at (by rw[<- z];exact np8)
  exists ⟨b,n,rfl,B8,by lia,by lia,λa2 H9 a20 a21 B9 u9=>?_⟩;exists cY λl2 Ha sa nl2 ga=>?_
  exists ⟨b,3,rfl,B9.same sa,by decide,by decide,λv' Hb v0' v1' Bb ub=>?_⟩;have gb:=ub.other (λz=>B9.at (by rw[<- z];exact nl2)) ga;obtain ⟨x,ex,mx,_⟩:=jG (xs:=[V.int 0,V.int 0,V.int a2]) v0' (by simpa using v1')
  obtain ⟨fi,rfl⟩:∃a:Int,x=.int a:=by
   simp only[aF,aQ,or_false] at mx;rcases mx with rfl | rfl | rfl
   ·exact ⟨_,rfl⟩
   ·exact ⟨_,rfl⟩
   ·exact ⟨_,rfl⟩
  exists cO (bP.of gb) ex ?_;have u8b:=(u9.same sa).trans ub;have Gb:=G8.upto u8b B8 mb hB.at;have GPb:=GP.upto u8b B8 pb hB.at;have u0b:=u08.trans u8b;clear ex mx gb ga G8 GP u9 ub;exists ⟨by lia,by lia,?_⟩;refine j5 (n:=n) (b6 K) (λ(j:Nat)=>(((if decide ((j:Int)=fi)=true then 1 else 0:Int)):Rat)) (by lia) (λa b=>a.same b) ?_ ?_
  ·rintro j Hz NY2 NN2 hj sz k2;exists bU λt Hy sy gy=>?_
   exact k2 _ _ sy (b6.mk gy rfl)
  rintro ysc Hc qc hqc sc gc prc _;have Rc:cg K Hc qc _:=⟨ysc,gc,prc⟩;exists cY λpd Hd sd nd gd=>?_
  have sbd:=sc.trans sd;have qcd:qc≠pd:=λz=>by rw[z,nd] at gc;cases gc
  have npd:H pd=none:=u0b.none Bb (sc.none nd);have nqc:H qc=none:=u0b.none Bb hqc
  have GL:cN K H Hd pd [(List.range n).map λ(j:Nat)=>(((if decide ((j:Int)=fi)=true then 1 else 0:Int)):Rat)]:=⟨_,gd,.cons ⟨qc,rfl,nqc,Rc.same sd⟩ .nil,λz=>by
   rw[bR] at z;cases z;exact qcd rfl⟩
  exists bU λr He se ge=>?_
  have sbe:=sbd.trans se;refine k r mv _ _ He ⟨mm,p8,pd,ge,hm,np8,npd,Gb.same sbe,GPb.same sbe,GL.same se⟩ lmv rfl rfl ⟨by lia,by simp,by simp,λxs hx=>by rw[(hmv xs hx).1,lmv],λxs hx=>?_,λxs hx=>?_⟩ (λxs hx=>(hmv xs hx).2) (λxs hx=>?_) (λxs hx=>?_) (Bb.same sbe) (u0b.same sbe)
  ·rw[bR.mp hx,ag,bS,lmv]
  ·rw[bR.mp hx,ag,bS,lmv]
  ·rw[bR.mp hx];exact bit
  ·rw[bR.mp hx];exact bit
theorem jd:ba ["_law_top","_law_bottom","_law_one","_law_other"] ["_law_top","_law_bottom"] (aH tT):=by walk_at "d"
theorem kE (T:Txt K mg Z) (ptree:P.given.tree=none):cW P w K mg base iO 1 Z.zy Z.zb ["_law_top","_law_bottom"] MK:=by
 refine T.fR.F.ok jd (λvs H Q E h=>?_) (λcdv A outer s H vs Q E hr h=>?_)
 ·obtain ⟨t,b,rfl,_⟩:=h;rfl
 ·obtain ⟨t,b,rfl,hb,hs,k⟩:=h
  refine ⟨_,(ar (aV (i:=2) jd.nd rfl (Or.inl rfl) (bO vz (by rfl) T.abs PyProof.Rows.boot_abs (aa (pv 0) af)))
   (ar (aV (i:=3) jd.nd rfl (Or.inl rfl) (pv 1))
   (ar (yB PassesOwn.never (br Am (pv 2) ai (bF _))
    (az (IP (i:=2) (j:=3) rfl jd.nd rfl rfl (by decide) rfl rfl (aa (bw nW (pv 3) (pv 2)) (aa (pv 2) af)) rfl)))
   (az (bc (cK (aa (bw (fM rfl jd rfl rfl rfl ptree (oK hr)) (pv 0) (pv 3)) (aa (bw (fM rfl jd rfl rfl rfl ptree (oK hr)) (pv 1) (pv 3)) af)))))))),?_⟩
  refine aW (σ:=[some (.int t),some (.int b),none,none]) rfl ?_;walk_at "w"
  refine AZ (λσ' H'=>∃(u v:Int),σ'=[some (.int t),some (.int b),some (.int u),some (.int v)]/\H'=H/\0<=u/\0 < v/\Int.gcd u v=Int.gcd t b) (λσ' _=>match σ' with | [_,_,some (.int u),_]=>u.natAbs | _=>0) ⟨_,b,rfl,rfl,by split <;> lia,hb,by
   split
   ·rw[Int.neg_gcd]
   ·rfl⟩ ?_
  rintro σ' H' ⟨u,v,rfl,rfl,hu,hv,hg⟩;exists ia (λh=>?_) (λh=>?_)
  ·have hu0:u≠0:=λz=>by subst z;simp at h
   exists fG (show (0:Int) < u by lia) ?_;walk_at "w";have h1:=lh v hu0;have h2:=iX v (show 0 < u by lia);exact ⟨⟨v % u,u,rfl,rfl,h1,by lia,by rw[kx,Jr,kx];exact hg⟩,by show (v % u).natAbs < u.natAbs;lia⟩
  ·have hu0:u=0:=by
    by_cases z:u=0
    ·exact z
    ·exfalso;apply h;simp [z]
   subst hu0
   have e:v=g t b:=by
    unfold g;rw[<- hg,Int.gcd_zero_left]
    lia
   have hgs:Sz 4499500 v:=hs.le (by
    rw[e];have h1:(g t b).natAbs=Int.gcd t b:=by unfold g;simp
    rw[h1];exact js (by lia) (by have:=eE (a:=t) (b:=b);exact eR.mpr this |> λz=>by simpa using z))
   exists fG (show nk _ _ from ⟨by lia,hgs⟩) ?_;exists fG (show nk _ _ from ⟨by lia,hgs⟩) ?_;exists bU λr H' s' h'=>?_
   rw[bE _ (by lia),bE _ (by lia),e] at h';exact k r H' s' h'
theorem Dd:ba ["_law_one","_law_other"] ["_law_one","_law_other"] (aH tR):=by walk_at "d"
theorem rn (T:Txt K mg Z) (ptree:P.given.tree=none):cW P w K mg base iO 2 Z.zw Z.y9 ["_law_one","_law_other"] (vU K (λx y=>x+y)):=by
 have fF:=kE (P:=P) (w:=w) (base:=base) T ptree;refine T.jg.F.ok Dd (λvs H Q E h=>?_) (λcdv A outer s H vs Q E hr h=>?_)
 ·obtain ⟨p,q,a,b,c,d,rfl,hp,hq,hb,hd,sa,sb,sc,sd,k⟩:=F8 h;rfl
 ·obtain ⟨p,q,a,b,c,d,rfl,hp,hq,hb,hd,sa,sb,sc,sd,k⟩:=F8 h;refine ⟨_,(az (bc (cS fF hr T.fR (aa (bw fw (bw dc (aR bT (pv 0) ai) (aR bT (pv 1) ai)) (bw dc (aR bT (pv 1) ai) (aR bT (pv 0) ai))) (aa (bw dc (aR bT (pv 0) ai) (aR bT (pv 1) ai)) af))))),?_⟩;refine aW (σ:=[some (.ref p),some (.ref q)]) rfl ?_;have hbd:0 < b*d:=hZ hb hd;have sbd:Sz 4499500 (b*d):=(sb.mul sd).mono (by decide);exists fG (show gX _ _ from .inr ⟨_,_,sa,sd,by decide⟩) ?_;exists fG (show gX _ _ from .inr ⟨_,_,sc,sb,by decide⟩) ?_;exists fG (show gX _ _ from .inr ⟨_,_,sb,sd,by decide⟩) ?_;walk_at "w";exists ⟨_,_,rfl,hbd,sbd,k⟩
theorem Bm:ba ["_law_one","_law_other"] ["_law_one","_law_other"] (aH qW):=by walk_at "d"
theorem pH (T:Txt K mg Z) (ptree:P.given.tree=none):cW P w K mg base iO 3 Z.xA Z.xi ["_law_one","_law_other"] (CV K):=by
 have ka:=rn (P:=P) (w:=w) (base:=base) T ptree;refine T.iD.F.ok Bm (λvs H Q E h=>?_) (λcdv A outer s H vs Q E hr h=>?_)
 ·obtain ⟨p,q,xs,ys,rfl,_⟩:=h;rfl
 ·obtain ⟨p,q,xs,ys,rfl,hp,hq,hl,hz,h1,h2,kk⟩:=h;refine ⟨_,(az (bc (cv ["_law_k"] ["_law_one","_law_other"] [0,1] (cG rfl T.range (aa (bO bG (by rfl) T.len bx (aa (pv 0) af)) af)) (λ_=>(aO (i:=0) (show ND9 ["_law_k","_law_one","_law_other"] by decide +kernel))) (λ_=>cy) (λ_=>(cS ka hr T.jg (aa (aR (va K (by rfl)) (pv 1) (pv 0)) (aa (aR (va K (by rfl)) (pv 2) (pv 0)) af))))))),?_⟩;refine aW (σ:=[some (.ref p),some (.ref q)]) rfl ?_;obtain ⟨us,gu,qu⟩:=id hp;obtain ⟨ws,gw,qw⟩:=id hq;have lu:=qu.length;exists ⟨_,_,rfl,.inl (bP.of gu),?_⟩;exists ⟨by lia,by lia,?_⟩;refine j5 (n:=us.length) (b6 K) (λi=>xs.getD i 0+ys.getD i 0) (by lia) (λa b=>a.same b) ?_ ?_
  ·rintro i H' NY NN hi s k1;have ix:i < xs.length:=by lia
   have iy:i < ys.length:=by lia
   obtain ⟨vx,ex,nx⟩:=JU (Paired.imp' (λ_ _ z=>z.same s) qu) ix;obtain ⟨vy,ey,ny⟩:=JU (Paired.imp' (λ_ _ z=>z.same s) qw) iy;exists cO (bP.of (s _ _ gu)) ex ?_;exists cO (bP.of (s _ _ gw)) ey ?_;exists ⟨_,_,_,_,rfl,nx,ny,h1 _ (getD_mem ix),h2 _ (getD_mem iy),λr3 H3 s3 n3=>k1 _ _ s3 n3⟩
  ·rintro ys' H' l hl' s g pr nx;exact kk l H' hl' s ⟨ys',g,by rw[Aa (by lia)];rw[<- lu] at pr;exact pr⟩
theorem Bl:ba ["_law_one","_law_other"] ["_law_one","_law_other"] (aH qV):=by walk_at "d"
theorem pG (T:Txt K mg Z) (ptree:P.given.tree=none):cW P w K mg base iO 2 Z.xy Z.xh ["_law_one","_law_other"] (vU K (λx y=>x*y)):=by
 have fF:=kE (P:=P) (w:=w) (base:=base) T ptree;refine T.iC.F.ok Bl (λvs H Q E h=>?_) (λcdv A outer s H vs Q E hr h=>?_)
 ·obtain ⟨p,q,a,b,c,d,rfl,hp,hq,hb,hd,sa,sb,sc,sd,k⟩:=FJ h;rfl
 ·obtain ⟨p,q,a,b,c,d,rfl,hp,hq,hb,hd,sa,sb,sc,sd,k⟩:=FJ h;refine ⟨_,(az (bc (cS fF hr T.fR (aa (bw dc (aR bT (pv 0) ai) (aR bT (pv 1) ai)) (aa (bw dc (aR bT (pv 0) ai) (aR bT (pv 1) ai)) af))))),?_⟩;refine aW (σ:=[some (.ref p),some (.ref q)]) rfl ?_;have hbd:0 < b*d:=hZ hb hd;have sbd:Sz 4499500 (b*d):=(sb.mul sd).mono (by decide);exists fG (show gX _ _ from .inr ⟨_,_,sa,sc,by decide⟩) ?_;exists fG (show gX _ _ from .inr ⟨_,_,sb,sd,by decide⟩) ?_;walk_at "w";exists ⟨_,_,rfl,hbd,sbd,k⟩
theorem Ep:ba ["_law_by_here","_law_row_here"] ["_law_by_here","_law_row_here"] (aH v7):=by walk_at "d"
theorem tZ (T:Txt K mg Z) (ptree:P.given.tree=none):cW P w K mg base iO 3 Z.AO Z.Ay ["_law_by_here","_law_row_here"] (Ir K):=by
 have jm:=pG (P:=P) (w:=w) (base:=base) T ptree;refine T.jY.F.ok Ep (λvs H Q E h=>?_) (λcdv A outer s H vs Q E hr h=>?_)
 ·obtain ⟨u,q,c,ys,rfl,_⟩:=h;rfl
 ·obtain ⟨u,q,c,ys,rfl,hc,sc,hq,hz,h2,kk⟩:=h;refine ⟨_,(az (bc (cv ["_law_one"] ["_law_by_here"] [0] (cu (pv 1)) (λ_=>(aO (i:=0) (show ND9 ["_law_one","_law_by_here"] by decide +kernel))) (λ_=>cy) (λ_=>(cS jm hr T.iC (aa (pv 1) (aa (pv 0) af))))))),?_⟩;refine aW (σ:=[some u,some (.ref q)]) rfl ?_;obtain ⟨us,gu,qu⟩:=id hq;exists ⟨⟨_,bP.of gu⟩,?_⟩;refine dH (K:=K) (F:=b6 K) (b6 K) (λy=>c*y) gu qu hz (λa b=>a.same b) (λa b=>a.same b) ?_ ?_
  ·rintro i y x H' NY NN en s hx k;exists ⟨_,_,_,_,rfl,hc.same s,hx,sc,h2 y (ak en),λr H2 s2 h2'=>k _ _ s2 h2'⟩
  ·rintro ys' H' r hr s g pr nx;exact kk r H' hr s ⟨ys',g,pr⟩
theorem d5:ba ["_law_bag_here","_law_move_here","_law_put","_law_look","_law_n","_law_turn","_law_i","_law_j","_law_by_here","_law_less","_law_row_here"] ["_law_bag_here","_law_move_here","_law_put","_law_look"] (aH pj):=by walk_at "d"
theorem sS (T:Txt K mg Z) (ptree:P.given.tree=none):cW P w K mg base iO 4 Z.vI Z.vt ["_law_bag_here","_law_move_here","_law_put","_law_look"] (Ai K):=by
 have aI:=dF (P:=P) (w:=w) (base:=base) T ptree;have jn:=pH (P:=P) (w:=w) (base:=base) T ptree;have lG:=tZ (P:=P) (w:=w) (base:=base) T ptree;have ka:=rn (P:=P) (w:=w) (base:=base) T ptree;have jm:=pG (P:=P) (w:=w) (base:=base) T ptree;refine T.kh.F.ok d5 (λvs H Q E h=>?_) (λcdv A outer s H vs Q E hr h=>?_)
 ·obtain ⟨b,m,p,l,q0,n,WV,μ,A,us,ws,vs,rfl,_⟩:=h;rfl
 ·obtain ⟨b,m,p,l,q0,n,WV,μ,A,us,ws,vs,rfl,MA,X,n8,i4,o4,M0,M1,⟨M,eM⟩,V1,hA,k⟩:=h
  refine ⟨_,(ar (aV (i:=4) d5.nd rfl (Or.inl rfl) (bO bG (by rfl) T.len bx (aa (pv 1) af)))
   (ar (dC (PW.pt (rg (br sR (pv 4) ai (bF _)) (lR (br fy (cS aI hr T.aK (aa (pv 0) (aa ai af))) ai (bF _))))) (az (bc (cK (aa (pv 1) (aa (pv 2) (aa (pv 3) af)))))) bX)
   (ar (eI PassesOwn.never rfl (cG rfl T.range (aa (bw fw ai (cS aI hr T.aK (aa (pv 0) (aa ai af)))) af)) (aO (i:=5) d5.nd)
    (ar (aV (i:=6) d5.nd rfl (Or.inl rfl) (cS aI hr T.aK (aa (pv 0) (aa (pv 4) af))))
   (ar (aV (i:=7) d5.nd rfl (Or.inl rfl) (bw nW (bw fw (bw fw (pv 6) ai) (cS aI hr T.aK (aa (pv 0) (aa (bw lY (pv 4) ai) af)))) (pv 4)))
   (ar (aV (i:=8) d5.nd rfl (Or.inl rfl) (cK (aa (aR bf (dN (aa ai (aa (yE tK ai) (aa ai (aa (yE tK ai) af))))) (cS aI hr T.aK (aa (pv 0) (aa ai af)))) (aa ai af))))
   (ar (aV (i:=9) d5.nd rfl (Or.inl rfl) (cK (aa (bw lY ai (aR bT (pv 8) ai)) (aa ai af))))
   (ar (gO (cS jn hr T.iD (aa (aR bf (pv 1) (pv 6)) (aa (cS lG hr T.jY (aa (pv 8) (aa (aR bf (pv 1) (pv 7)) af))) af))) (iZ (pv 1) (pv 6) set_list))
   (ar (eI PassesOwn.never rfl (cu (bw nX (pv 1) (pv 3))) (aO (i:=10) d5.nd)
    (az (gO (cS ka hr T.jg (aa (aR bf (pv 10) (pv 7)) (aa (cS jm hr T.iC (aa (pv 9) (aa (aR bf (pv 10) (pv 6)) af))) af))) (iZ (pv 10) (pv 7) set_list))))
   (az (eI PassesOwn.never rfl (cu (pv 2)) (aO (i:=10) d5.nd)
    (az (gO (cS ka hr T.jg (aa (aR bf (pv 10) (pv 6)) (aa (cS jm hr T.iC (aa (pv 8) (aa (aR bf (pv 10) (pv 7)) af))) af))) (iZ (pv 10) (pv 6) set_list))))))))))))
   (az (bc (cK (aa (pv 1) (aa (pv 2) (aa (pv 3) af))))))))),?_⟩
  refine aW (σ:=[some (.ref b),some (.ref m),some (.ref p),some (.ref l),none,none,none,none,none,none,none]) rfl ?_;have done:∀r us' H' t,t<=3->H' r=some (.tup [.ref m,.ref p,.ref l])->jK K A H' n (λx=>Fr (μ x) (9^t*WV)) m p l b q0 us' ws vs->iK A b m H H'->Q (.ref r) H':=λr us' H' t ht g x kp=>k r us' H' g (x.weak λ_ _ y h=>h.mono (aL _ (av (by decide) ht))) kp
  have X0:jK K A H n (λx=>Fr (μ x) (9^0*WV)) m p l b q0 us ws vs:=X.weak λ_ _ y h=>h.mono (by simp)
  clear X k;have gu:=X0.gm;have lu:=X0.lm;exists ⟨_,_,rfl,.inl (bP.of gu),?_⟩;rw[lu];clear gu lu;have kp0:iK A b m H H:=λ_ _ h _ _ _=>h
  exists ia (λh0=>?_) (λh0=>?_)
  ·exists bU λr H' s' g'=>?_
   exact done r us H' 0 (by decide) g' (X0.same s') (kp0.same s')
  have n2:2<=n:=by
   rcases nE n 2 with z | z
   ·exact absurd (decide_eq_true (show (n:Int) < 2 by lia)) h0
   ·exact z
  exists ⟨b,2,rfl,X0.bag,by decide,by decide,λv H1 v0 v1 B1 u1=>?_⟩;have X1:=X0.upto MA u1 B1;have kp1:=kp0.upto u1;exists ia (λh1=>?_) (λh1=>?_)
  ·exists bU λr H' s' g'=>?_
   exact done r us H' 0 (by decide) g' (X1.same s') (kp1.same s')
  exists ⟨b,3,rfl,B1,by decide,by decide,λc H2 c0 c1 B2 u2=>?_⟩;have X2:=X1.upto MA u2 B2;have kp2:=kp1.upto u2;clear X0 X1 kp0 kp1 u1 u2 B1;exists ⟨by lia,by lia,?_⟩;refine fh (n:=(1+c).toNat) (λt σ' H'=>∃(x1 x2 x3 x4 x5 x6:Option V) (us:List V),σ'=[some (.ref b),some (.ref m),some (.ref p),some (.ref l),some (.int n),x1,x2,x3,x4,x5,x6]/\jK K A H' n (λx=>Fr (μ x) (9^t*WV)) m p l b q0 us ws vs/\iK A b m H H') ⟨none,none,none,none,none,none,us,rfl,X2,kp2⟩ ?_ ?_
  ·rintro t σ' H' ht ⟨x1,x2,x3,x4,x5,x6,us,rfl,X,kp⟩;have t3:t<=2:=by lia
   exists ⟨b,n,rfl,X.bag,by lia,by lia,λii Ha i0 i1 Ba ua=>?_⟩;obtain ⟨ii,rfl⟩:=cx i0;have Xa:=X.upto MA ua Ba;have kpa:=kp.upto ua;exists ⟨b,_,rfl,Ba,by lia,by lia,λd Hb d0 d1 Bb ub=>?_⟩;have Xb:=Xa.upto MA ub Bb;have kpb:=kpa.upto ub;exists fG (show (0:Int) < n by lia) ?_;have j0:=lh ((ii:Int)+1+d) (show (n:Int)≠0 by lia);have j1:=iX ((ii:Int)+1+d) (show (0:Int) < n by lia);generalize ((ii:Int)+1+d) % (n:Int)=jj at j0 j1 ⊢;obtain ⟨jj,rfl⟩:=cx j0;exists cY λl0 Hc sc nc gc=>?_
   exists ⟨b,4,rfl,Bb.same sc,by decide,by decide,λv' Hd v0' v1' Bd ud=>?_⟩;have gd:=ud.other (λz=>Bb.at (by rw[<- z];exact nc)) gc;obtain ⟨x,ex,mx,_⟩:=jG (xs:=[V.int 1,V.int (-1),V.int 2,V.int (-2)]) v0' (by simpa using v1')
   obtain ⟨z,rfl,hz⟩:∃z:Int,x=.int z/\z.natAbs<=2:=by
    simp only[aF,aQ,or_false] at mx;rcases mx with rfl | rfl | rfl | rfl
    ·exact ⟨1,rfl,by decide⟩
    ·exact ⟨-1,rfl,by decide⟩
    ·exact ⟨2,rfl,by decide⟩
    ·exact ⟨-2,rfl,by decide⟩
   have Xd:=(Xb.same sc).upto MA ud Bd;have kpd:=(kpb.same sc).upto ud;exists cO (bP.of gd) ex ?_;exists bU λbt He se ge=>?_
   exists bU λlt Hf sf gf=>?_
   have Xf:=(Xd.same se).same sf;have kpf:=(kpd.same se).same sf;have nb:b6 K Hf ((z:Int):Rat) (.ref bt):=b6.mk (sf _ _ ge) rfl;have nl:b6 K Hf ((0 - z:Int):Rat) (.ref lt):=b6.mk gf rfl;clear X Xa Xb Xd kp kpa kpb kpd ua ub ud sc gc gd ex mx ge gf se sf Ba Bb Bd nc;have gu:=Xf.gm;have lu:=Xf.lm
   have ru:∀x∈us,fH K A Hf n (Fr M (9^t*WV)) x:=λx hx=>by
    have:=Xf.row x (by simp [hx]);rwa [eM x (Xf.apart.1 x hx).1 (Xf.apart.1 x hx).2] at this
   have hM:0 < M/\M<=2^800:=by
    have hx:us[ii]'(by lia)∈us:=bM _;have:=eM _ (Xf.apart.1 _ hx).1 (Xf.apart.1 _ hx).2;rw[<- this];exact ⟨M0 _,M1 _⟩
   have e1:us[ii]?=some (us[ii]'(by lia)):=by simp
   have e2:us[jj]?=some (us[jj]'(by lia)):=by simp
   obtain ⟨q1,z1,qs1,w1,a1,g1,k1,p1,l1,c1⟩:=(ru _ (ak e1)).at;obtain ⟨q2,z2,qs2,w2,a2,g2,k2,p2,l2,c2⟩:=(ru _ (ak e2)).at;rw[w1] at e1;rw[w2] at e2;generalize eW:9^t*WV=W at *
   have W9:9*W<=2^140:=by rw[<- eW];exact KN (by lia) V1 (by decide)
   have sz9M:∀{x:Rat} {U:Nat},U<=9*W->Fr M U x->qF x:=λhU h=>FX hM.1 hM.2 (aj hU W9) h
   have sz9:∀{x:Rat} {U:Nat} {v:V},U<=9*W->Fr (μ v) U x->qF x:=λhU h=>FX (M0 _) (M1 _) (aj hU W9) h
   exists cO (bP.of gu) (gh e1) ?_;exists cO (bP.of gu) (gh e2) ?_;exists ⟨_,q2,_,qs2,rfl,nb,A7 (by lia),⟨z2,g2,p2⟩,by lia,λy hy=>sz9M (by lia) (c2 y hy),λr1 Hg n1 sg R1=>?_⟩;exists ⟨q1,r1,qs1,_,rfl,⟨z1,sg _ _ g1,Paired.imp' (λ_ _ y=>y.same sg) p1⟩,R1,by rw[ag,l1,l2],by lia,λy hy=>sz9M (by lia) (c1 y hy),λy hy=>?_,λr2 Hh n2' sh R2=>?_⟩
   ·obtain ⟨y',hy',rfl⟩:=ay.mp hy;exact yk hz (c2 y' hy') hM.1 hM.2 (by lia)
   have sfh:=sg.trans sh
   have new:V.ref r2∉us++vs++ws:=λz=>by
    obtain ⟨q',_,_,e',_,g',_⟩:=((Xf.same sg).row _ z).at;cases e';rw[n2'] at g';cases g'
   have Xh:=(Xf.same sfh).weak (C':=λx y=>(x∈ws->Fr (μ x) W y)/\Fr (μ x) (3*W) y) λx _ y h=>⟨λ_=>h,h.mono (by lia)⟩
   have kph:=kpf.same sfh;have guh:=sfh _ _ gu;have ar2:A r2:=(kpf.same sg).new hA (Xf.same sg).bag (by rw[sg _ _ gu];simp) n2'
   have rp2:fH K A Hh n (λy=>(V.ref r2∈ws->Fr (μ (.ref r2)) W y)/\Fr (μ (.ref r2)) (3*W) y) (.ref r2):=by
    rw[eM (.ref r2) (λz=>new (aw.mpr (.inr z))) (λz=>new (aw.mpr (.inl (aw.mpr (.inr z)))))];refine ⟨r2,_,rfl,ar2,R2,by rw[cA,ag];lia,λy hy=>⟨λz=>absurd (aw.mpr (.inr z)) new,?_⟩⟩;obtain ⟨j',hj',e⟩:=b9 hy;rw[qC,List.getElem_map] at e;rw[<- e];exact BY hz (c1 _ (bM _)) (c2 _ (bM _))
   exists fW guh (gV (by lia)) rfl ?_;have Xi:=Xh.set MA rp2 new ii;have kpi:=kph.upd (o:=.lst (us.set ii (.ref r2))) (q:=m) (.inr rfl);have nli:b6 K (upd Hh m (.lst (us.set ii (.ref r2)))) ((0 - z:Int):Rat) (.ref lt):=(nl.same sfh).updL guh;have nbi:b6 K (upd Hh m (.lst (us.set ii (.ref r2)))) ((z:Int):Rat) (.ref bt):=(nb.same sfh).updL guh;generalize upd Hh m (.lst (us.set ii (.ref r2)))=Hi at Xi kpi nli nbi ⊢;generalize us.set ii (.ref r2)=um at Xi;clear nb nl Xf kpf gu ru e1 e2 g1 p1 g2 p2 R1 R2 Xh kph guh rp2 sg sh sfh new;have gm:=Xi.gm;have lm:=Xi.lm;have gl:=Xi.gl;have nd:=Xi.nd;obtain ⟨nd1,nd2,nd3⟩:=dd.mp nd;exists nU gm gl (aT (bz (by lia))) λcl Hj sj nj gj=>?_
   have kpj:=kpi.same sj
   have rows:∀x∈um++vs,∀q,x=V.ref q->q≠cl:=λx hx q e y=>by
    obtain ⟨q',zs,_,e',_,g',_⟩:=(Xi.row x (aw.mpr (.inl hx))).at;rw[e] at e';cases e';rw[y,nj] at g';cases g'
   have Xj:=(Xi.same sj).weak (C':=λx y=>(x∈ws->Fr (μ x) W y)/\(x∈(um++vs).drop 0->Fr (μ x) (3*W) y)/\Fr (μ x) (9*W) y) λx _ y h=>⟨h.1,λ_=>h.2,h.2.mono (by lia)⟩
   have lj:b6 K Hj ((0 - z:Int):Rat) (.ref lt):=nli.same sj;have bj:b6 K Hj ((z:Int):Rat) (.ref bt):=nbi.same sj;clear Xi kpi nli nbi;refine ⟨_,rfl,⟨_,bP.of gj⟩,?_⟩;refine iR (K:=K) (a:=cl) (xs:=um++vs) (λs σ' H'=>∃x6:Option V,σ'=[some (.ref b),some (.ref m),some (.ref p),some (.ref l),some (.int n),some (.int t),some (.int ii),some (.int jj),some (.ref bt),some (.ref lt),x6]/\jK K A H' n (λx y=>(x∈ws->Fr (μ x) W y)/\(x∈(um++vs).drop s->Fr (μ x) (3*W) y)/\Fr (μ x) (9*W) y) m p l b q0 um ws vs/\iK A b m H H'/\H' cl=some (.lst (um++vs))/\b6 K H' ((0 - z:Int):Rat) (.ref lt)/\b6 K H' ((z:Int):Rat) (.ref bt)) ⟨_,rfl,Xj,kpj,gj,lj,bj⟩ (λs σ' H' _ ⟨_,_,_,_,e,_⟩=>bP.of e) ?_ ?_
   ·rintro s x σ' Hk hx ⟨y6,rfl,Xk,kpk,gk,lk,bk⟩;have hs:s < (um++vs).length:=(aY.mp hx).1;have mx:=ak hx
    have xd:x∈(um++vs).drop s:=by
     rw[eN hs,(aY.mp hx).2];exact .head _
    have xd2:x∉(um++vs).drop (s+1):=λz=>by
     have:=nd1.sublist (List.drop_sublist s _);rw[eN hs,dr,(aY.mp hx).2] at this;exact this.1 z
    have xw:x∉ws:=λz=>nd3 x mx x z rfl
    have rx:=Xk.row x (aw.mpr (.inl mx));obtain ⟨q,zs,qs,rfl,aq,gq,lq,pq,lq2,cq⟩:=rx.at;have qcl:=rows _ mx q rfl;obtain ⟨vj,ej,nj'⟩:=JU pq (j:=jj) (by lia);obtain ⟨vi,ei,ni'⟩:=JU pq (j:=ii) (by lia);have cj:=(cq _ (getD_mem (xs:=qs) (i:=jj) (by lia))).2.1 xd;have ci:=(cq _ (getD_mem (xs:=qs) (i:=ii) (by lia))).2.1 xd;exists cO (bP.of gq) ej ?_;exists cO (bP.of gq) ei ?_;exists ⟨_,_,_,_,rfl,lk,ni',A7 (by lia),sz9 (by lia) ci,λr3 Hl sl n3=>?_⟩;exists ⟨_,_,_,_,rfl,nj'.same sl,n3,sz9 (by lia) cj,yk (by lia) ci (M0 _) (M1 _) (by lia),λr4 Hm sm n4=>?_⟩;have slm:=sl.trans sm;exists fW (slm _ _ gq) (gV (by lia)) rfl ?_;refine ⟨_,rfl,?_,(kpk.same slm).upd (.inl aq),by rw[aN qcl.symm];exact slm _ _ gk,(lk.same slm).updL (slm _ _ gq),(bk.same slm).updL (slm _ _ gq)⟩;refine ((Xk.same slm).weak λx' _ y h=>⟨h.1,λz=>h.2.1 ?_,h.2.2⟩).put MA aq (slm _ _ gq) n4 ⟨λz=>absurd z xw,λz=>absurd z xd2,?_⟩ jj
    ·rw[eN hs];exact .tail _ z
    ·exact (BY (by lia) cj ci).mono (by lia)
   ·rintro σ' Hk ⟨y6,rfl,Xk,kpk,gk,lk,bk⟩;have gp:=Xk.gp;have Xk2:=Xk.weak (C':=λx y=>(x∈ws.drop 0->Fr (μ x) W y)/\Fr (μ x) (9*W) y) λx _ y h=>⟨λz=>h.1 (by simpa using z),h.2.2⟩
    clear Xk;exists ⟨⟨_,bP.of gp⟩,?_⟩;refine iR (K:=K) (a:=p) (xs:=ws) (λs σ' H'=>∃x6:Option V,σ'=[some (.ref b),some (.ref m),some (.ref p),some (.ref l),some (.int n),some (.int t),some (.int ii),some (.int jj),some (.ref bt),some (.ref lt),x6]/\jK K A H' n (λx y=>(x∈ws.drop s->Fr (μ x) W y)/\Fr (μ x) (9*W) y) m p l b q0 um ws vs/\iK A b m H H'/\b6 K H' ((z:Int):Rat) (.ref bt)) ⟨_,rfl,Xk2,kpk,bk⟩ (λs σ' H' _ ⟨_,_,X,_⟩=>bP.of X.gp) ?_ ?_
    ·rintro s x σ' Hl hx ⟨w6,rfl,Xl,kpl,bl⟩;have hs:s < ws.length:=(aY.mp hx).1;have mx:=ak hx
     have xd:x∈ws.drop s:=by
      rw[eN hs,(aY.mp hx).2];exact .head _
     have xd2:x∉ws.drop (s+1):=λz=>by
      have:=nd2.sublist (List.drop_sublist s _);rw[eN hs,dr,(aY.mp hx).2] at this;exact this.1 z
     have rx:=Xl.row x (aw.mpr (.inr mx));obtain ⟨q,zs,qs,rfl,aq,gq,lq,pq,lq2,cq⟩:=rx.at;obtain ⟨vj,ej,nj'⟩:=JU pq (j:=jj) (by lia);obtain ⟨vi,ei,ni'⟩:=JU pq (j:=ii) (by lia);have cj:=(cq _ (getD_mem (xs:=qs) (i:=jj) (by lia))).1 xd;have ci:=(cq _ (getD_mem (xs:=qs) (i:=ii) (by lia))).1 xd;exists cO (bP.of gq) ei ?_;exists cO (bP.of gq) ej ?_;exists ⟨_,_,_,_,rfl,bl,nj',A7 (by lia),sz9 (by lia) cj,λr3 Hm sm n3=>?_⟩;exists ⟨_,_,_,_,rfl,ni'.same sm,n3,sz9 (by lia) ci,yk (by lia) cj (M0 _) (M1 _) (by lia),λr4 Hn sn n4=>?_⟩;have smn:=sm.trans sn;exists fW (smn _ _ gq) (gV (by lia)) rfl ?_;refine ⟨_,rfl,?_,(kpl.same smn).upd (.inl aq),(bl.same smn).updL (smn _ _ gq)⟩;refine ((Xl.same smn).weak λx' _ y h=>⟨λz=>h.1 ?_,h.2⟩).put MA aq (smn _ _ gq) n4 ⟨λz=>absurd z xd2,?_⟩ ii
     ·rw[eN hs];exact .tail _ z
     ·exact (BY (by lia) ci cj).mono (by lia)
    ·rintro σ' Hl ⟨w6,rfl,Xl,kpl,bl⟩;refine ⟨_,_,_,_,_,_,um,rfl,Xl.weak λ_ _ y h=>h.2.mono ?_,kpl⟩;rw[<- eW,nD,hX (9^t) 9,ib];exact au _
  ·rintro σ' H' ⟨x1,x2,x3,x4,x5,x6,us',rfl,X,kp⟩;exists bU λr H2' s' g'=>?_
   exact done r us' H2' _ (by lia) g' (X.same s') (kp.same s')
theorem dE:ba ["_law_bag_here","_law_one","_law_other","_law_ahead","_law_behind","_law_found","_law_k"] ["_law_bag_here"] (aH jS):=by walk_at "d"
theorem uS (T:Txt K mg Z) (ptree:P.given.tree=none):cW P w K mg base iO 5 Z.oV Z.oN ["_law_bag_here"] (Kc K):=by
 have mY:=uT (P:=P) (w:=w) (base:=base) T ptree;have aI:=dF (P:=P) (w:=w) (base:=base) T ptree;have p7:=sS (P:=P) (w:=w) (base:=base) T ptree;refine T.jy.F.ok dE (λvs H Q E h=>?_) (λcdv A outer s H vs Q E hr h=>?_)
 ·obtain ⟨b,rfl,_⟩:=h;rfl
 ·obtain ⟨b,rfl,hB,k⟩:=h
  refine ⟨_,(ar (aV (i:=1) dE.nd rfl (Or.inl rfl) (cS mY hr T.jA (aa (pv 0) (aa ai af))))
   (ar (aV (i:=2) dE.nd rfl (Or.inl rfl) (cS mY hr T.jA (aa (pv 0) (aa (bw fw ai (cS aI hr T.aK (aa (pv 0) (aa ai af)))) af))))
   (ar (aV (i:=3) dE.nd rfl (Or.inr rfl) (bw IX (dN (aa (cK (aa ai (aa ai af))) af)) ai))
   (ar (aV (i:=4) dE.nd rfl (Or.inr rfl) (bw IX (dN (aa (cK (aa ai (aa ai af))) af)) (bO bG (by rfl) T.len bx (aa (aR bT (pv 2) ai) af))))
   (ar (aV (i:=5) dE.nd rfl (Or.inl rfl) (dN af))
   (ar (eI PassesOwn.never rfl (cG rfl T.range (aa ai af)) (aO (i:=6) dE.nd)
    (az (fX (rh bZ cn cm gM (pv 5) (aa (bw nX (cv ["_law_row_here"] ["_law_behind"] [4] (cu (aR bT (pv 1) (pv 6))) (λ_=>(aO (i:=0) (show ND9 ["_law_row_here","_law_behind"] by decide +kernel))) (λ_=>cy) (λ_=>(bw nX (pv 0) (pv 1)))) (cv ["_law_row_here"] ["_law_ahead"] [3] (cu (aR bT (pv 2) (pv 6))) (λ_=>(aO (i:=0) (show ND9 ["_law_row_here","_law_ahead"] by decide +kernel))) (λ_=>cy) (λ_=>(bw nX (pv 1) (pv 0))))) af)))))
   (az (bc (cS p7 hr T.kh (aa (pv 0) (aa (aR bf (pv 5) ai) (aa (aR bf (pv 5) ai) (aa (aR bf (pv 5) ai) af))))))))))))),?_⟩
  refine aW (σ:=[some (.ref b),none,none,none,none,none,none]) rfl ?_;obtain ⟨q0,I0,xq,gq0⟩:=hB.inner;exists ⟨b,3,rfl,hB,by decide,by decide,λr1 mv1 pt1 lk1 H1 P1 lm1 lp1 ll1 D1 fm1 fp1 fl1 B1 u1=>?_⟩;exists ⟨b,3,rfl,B1,by decide,by decide,λv H2 v0 v1 B2 u2=>?_⟩;obtain ⟨v,rfl⟩:=cx v0;have u02:=u1.trans u2;walk_at "w";rw[show ((3:Int)+(v:Int))=((3+v:Nat):Int) by lia];refine ⟨b,3+v,rfl,B2,by lia,by lia,λr2 mv2 pt2 lk2 H3 P2 lm2 lp2 ll2 D2 fm2 fp2 fl2 B3 u3=>?_⟩;have u03:=u02.trans u3;have P1c:=(P1.upto (u2.trans u3) B1 hB.at);have P2c:eK K H H3 r2 mv2 pt2 lk2:=P2.weak λq h=>u02.none B2 h
  exists bU λt0 H4 s4 g4=>?_
  exists cY λa1 H5 s5 n5 g5=>?_
  exists ID (k:=3) g5 (by decide) λah H6 s6 n6 g6=>?_
  have s36:=(s4.trans s5).trans s6;obtain ⟨m1,p1,l1,gt1,m1n,p1n,l1n,Gm1,Gp1,Gl1⟩:=P1c.same s36;obtain ⟨m2,p2,l2,gt2,m2n,p2n,l2n,Gm2,Gp2,Gl2⟩:=P2c.same s36;have N0:b6 K H6 0 (V.ref t0):=b6.mk (q:=0) ((s5.trans s6) _ _ g4) rfl;exists bU λt1 H7 s7 g7=>?_
  exists cY λa2 H8 s8 n8' g8=>?_
  have s68:=s7.trans s8;have gt2':=s68 _ _ gt2;obtain ⟨um2,gm2,qm2,_⟩:=id (Gm2.same s68);have lum2:=qm2.length;exists ⟨_,_,rfl,.inl (bP.of gm2),?_⟩;rw[<- lum2,lm2];exists ID (k:=3+v) g8 (by lia) λbh H9 s9 n9 g9=>?_
  have s69:=s68.trans s9;have s39:=s36.trans s69;have N1:b6 K H9 0 (V.ref t1):=b6.mk (q:=0) ((s8.trans s9) _ _ g7) rfl;have u09:=u03.same s39;have B9:=B3.same s39;have g6':=s69 _ _ g6;have N0':=N0.same s69;exists cY λfd H10 s10 n10 g10=>?_
  have X1:∀i:Nat,i < 3->∃q1 R1 q2 R2,[V.ref m1,V.ref p1,V.ref l1][i]?=some (V.ref q1)/\cN K H H9 q1 R1/\(∀xs∈R1,xs.length=3/\∀y∈xs,Fr 1 1 y)/\[V.ref m2,V.ref p2,V.ref l2][i]?=some (V.ref q2)/\cN K H H9 q2 R2/\(∀xs∈R2,xs.length=3+v/\∀y∈xs,Fr 1 1 y)/\R1.length<=100/\R2.length<=100/\[6+v,2,2][i]?=some (R1.length+R2.length):=λi hi=>by
   rcases (show i=0\/i=1\/i=2 by lia) with rfl | rfl | rfl
   ·exact ⟨m1,mv1,m2,mv2,rfl,Gm1.same s69,λxs hx=>⟨by rw[D1.mw xs hx,lm1],fm1 xs hx⟩,rfl,Gm2.same s69,λxs hx=>⟨by rw[D2.mw xs hx,lm2],fm2 xs hx⟩,by lia,by lia,by rw[lm1,lm2,show 3+(3+v)=6+v by lia];rfl⟩
   ·exact ⟨p1,pt1,p2,pt2,rfl,Gp1.same s69,λxs hx=>⟨by rw[D1.pw xs hx,lm1],fp1 xs hx⟩,rfl,Gp2.same s69,λxs hx=>⟨by rw[D2.pw xs hx,lm2],fp2 xs hx⟩,by lia,by lia,by rw[lp1,lp2];rfl⟩
   ·exact ⟨l1,lk1,l2,lk2,rfl,Gl1.same s69,λxs hx=>⟨by rw[D1.lw xs hx,lm1],fl1 xs hx⟩,rfl,Gl2.same s69,λxs hx=>⟨by rw[D2.lw xs hx,lm2],fl2 xs hx⟩,by lia,by lia,by rw[ll1,ll2];rfl⟩
  exists ⟨by decide,by decide,?_⟩;refine fh (n:=3) (λi σ' H'=>aA H9 H'/\∃x6 L,σ'=[some (.ref b),some (.ref r1),some (.ref r2),some (.ref ah),some (.ref bh),some (.ref fd),x6]/\Qh K H9 H' (6+v) fd L/\L.length=i/\∀(j:Nat) (e:Addr×List V),L[j]?=some e->[6+v,2,2][j]?=some e.2.length) ⟨s10,none,[],rfl,⟨g10,n10,(λ_ z=>nomatch z),jN,(λ_ z=>nomatch z),jN⟩,rfl,λj e h=>by simp at h⟩ ?_ ?_
  ·rintro i σ' H' hi ⟨s',x6,L,rfl,T,lL,hL⟩;obtain ⟨q1,R1,q2,R2,e1,G1,w1,e2,G2,w2,b1,b2,hlen⟩:=X1 i hi;have gt1':=s' _ _ (s69 _ _ gt1);have gt2'':=s' _ _ (s69 _ _ gt2);obtain ⟨ux1,gx1,qx1,_⟩:=id (G1.same s');have gb:=s' _ _ g9;have ga:=s' _ _ g6';exists ⟨.inl ⟨rfl,_,bP.of T.gf⟩,?_⟩;exists Ew (qG.of gt1') (gh e1) ?_;exists ⟨⟨_,bP.of gx1⟩,?_⟩;refine Az (K:=K) (F:=iI K H) (λH'' c x=>∃q,x=V.ref q/\cg K H'' q c) (λr=>r++List.replicate (3+v) 0) gx1 qx1 (by lia) (λa b=>a.same b) (λa b=>by obtain ⟨q,e,r⟩:=a;exact ⟨q,e,r.same b⟩) (λa=>by obtain ⟨q,e,_,gg,_⟩:=a;exact ⟨q,e,by rw[gg];exact λz=>nomatch z⟩) ?_ ?_
   ·rintro j ns x Hi NY NN en si ⟨q,rfl,_,zs,gz,qz⟩ k1;have ws:=(w1 ns (ak en)).1;have lz:=qz.length;exists nU gz (si _ _ gb) (aT (bz (by rw[gE];lia))) λc Hj sj nj gj=>?_
    exact k1 _ _ sj ⟨c,rfl,_,gj,cb (Paired.imp' (λ_ _ z=>z.same sj) qz) (tW (((N1.same s').same si).same sj) _)⟩ ⟨c,rfl,nj⟩
   rintro ys1 Ha c1 hc1 sa ga1 nd1 ne1 pr1;obtain ⟨ux2,gx2,qx2,_⟩:=id ((G2.same s').same sa);have gt2a:=sa _ _ gt2'';exists Ew (qG.of gt2a) (gh e2) ?_;exists ⟨⟨_,bP.of gx2⟩,?_⟩;refine Az (K:=K) (F:=iI K H) (λH'' c x=>∃q,x=V.ref q/\cg K H'' q c) (λr=>List.replicate 3 0++r) gx2 qx2 (by lia) (λa b=>a.same b) (λa b=>by obtain ⟨q,e,r⟩:=a;exact ⟨q,e,r.same b⟩) (λa=>by obtain ⟨q,e,_,gg,_⟩:=a;exact ⟨q,e,by rw[gg];exact λz=>nomatch z⟩) ?_ ?_
   ·rintro j ns x Hi NY NN en si ⟨q,rfl,_,zs,gz,qz⟩ k1;have ws:=(w2 ns (ak en)).1;have lz:=qz.length;exists nU ((sa.trans si) _ _ ga) gz (aT (bz (by rw[gE];lia))) λc Hj sj nj gj=>?_
    exact k1 _ _ sj ⟨c,rfl,_,gj,cb (tW ((((N0'.same s').same sa).same si).same sj) _) (Paired.imp' (λ_ _ z=>z.same sj) qz)⟩ ⟨c,rfl,nj⟩
   rintro ys2 Hb c2 hc2 sb gb2 nd2 ne2 pr2;have sab:=sa.trans sb;have ly1:=pr1.length;have ly2:=pr2.length;rw[ag] at ly1 ly2;exists nU (sb _ _ ga1) gb2 (aT (bz (by lia))) λqn Hc sc nc gc=>?_
   have sac:=sab.trans sc;have gfc:=sac _ _ T.gf;exists gL gfc (bz (by rw[ag];lia)) ?_
   have rP:∀{c:List Rat} {x:V},(∃q,x=V.ref q/\cg K Hb q c)->(∃q,x=V.ref q/\H' q=none)->c.length=6+v->(∀y∈c,Fr 1 1 y)->fH K (λz=>H' z=none/\z≠qn) Hc (6+v) (Fr 1 1) x:=λ⟨q,e,r⟩ ⟨q',e',nq⟩ hl hf=>by
    rw[e] at e';cases e';exact ⟨q,_,e,⟨nq,λz=>by obtain ⟨_,gg,_⟩:=r;rw[z,nc] at gg;cases gg⟩,r.same sc,hl,hf⟩
   refine ⟨(s'.trans sac).after n10,some (.int i),L++[(qn,ys1++ys2)],rfl,T.snoc s' sac (sab.none nc) gc ?_ (λx hx=>?_),by rw[aD,eQ,lL],λj e he=>?_⟩
   ·refine dd.mpr ⟨nd1,nd2,λx hx y hy z=>?_⟩;obtain ⟨_,_,q,e,_,gg,_⟩:=c9 pr1 hx;obtain ⟨q',e',nq,_⟩:=ne2 y hy;rw[<- z,e] at e';cases e';rw[nq] at gg;cases gg
   ·rcases aw.mp hx with hx | hx
    ·obtain ⟨c,mc,q,e,r⟩:=c9 pr1 hx;obtain ⟨ns,mn,rfl⟩:=ay.mp mc;obtain ⟨q',e',nq,_⟩:=ne1 x hx;refine rP ⟨q,e,r.same sb⟩ ⟨q',e',nq⟩ (by rw[aD,gE,(w1 ns mn).1];lia) λy hy=>?_
     rcases aw.mp hy with hy | hy
     ·exact (w1 ns mn).2 y hy
     ·rw[(List.mem_replicate.mp hy).2];exact Fr.zero
    ·obtain ⟨c,mc,q,e,r⟩:=c9 pr2 hx;obtain ⟨ns,mn,rfl⟩:=ay.mp mc;obtain ⟨q',e',nq,_⟩:=ne2 x hx;refine rP ⟨q,e,r⟩ ⟨q',e',sa.none nq⟩ (by rw[aD,gE,(w2 ns mn).1];lia) λy hy=>?_
     rcases aw.mp hy with hy | hy
     ·rw[(List.mem_replicate.mp hy).2];exact Fr.zero
     ·exact (w2 ns mn).2 y hy
   ·rcases nE j L.length with z | z
    ·rw[kK z] at he;exact hL j e he
    ·have hj:=(aY.mp he).1;rw[aD,eQ] at hj;have ej:j=L.length:=by lia
     subst ej;rw[jP (au _),Nat.sub_self] at he;cases he;rw[lL,hlen,aD,ly1,ly2]
  ·rintro σ' H' ⟨s',x6,L,rfl,T,lL,hL⟩
   obtain ⟨⟨m,us⟩,⟨p,ws⟩,⟨l,vs⟩,rfl⟩:∃a b c,L=[a,b,c]:=by
    rcases L with _ | ⟨a,_ | ⟨b,_ | ⟨c,_ | ⟨d,L⟩⟩⟩⟩
    ·cases lL
    ·cases lL
    ·cases lL
    ·exact ⟨a,b,c,rfl⟩
    ·simp at lL
   have lu:us.length=6+v:=by have:=hL 0 _ rfl;simpa using this.symm
   have lw:ws.length=2:=by have:=hL 1 _ rfl;simpa using this.symm
   have lv:vs.length=2:=by have:=hL 2 _ rfl;simpa using this.symm
   have gf:=T.gf;obtain ⟨mn,mf,gm⟩:=T.ls (m,us) (by simp);obtain ⟨pn,pf,gp⟩:=T.ls (p,ws) (by simp);obtain ⟨ln,lf,gl⟩:=T.ls (l,vs) (by simp);have nd:=T.nd;have rw':=T.rows;have rd:=T.rd;clear T hL;have gf:H' fd=some (.lst [.ref m,.ref p,.ref l]):=gf;have nd:[m,p,l].Nodup:=nd;have rd:(us++(ws++(vs++[]))).Nodup:=rd;have u0':=u09.same s';have B':=B9.same s';have hm0:H m=none:=u09.none B9 mn;have hp0:H p=none:=u09.none B9 pn;have hl0:H l=none:=u09.none B9 ln;obtain ⟨A,eA⟩:∃A:Addr->Prop,A=λq=>H q=none/\q≠m/\q≠p/\q≠l:=⟨_,rfl⟩
   have mkA:∀{q},H q=none->q≠m->q≠p->q≠l->A q:=λh1 h2 h3 h4=>by rw[eA];exact ⟨h1,h2,h3,h4⟩
   have unA:∀{q},A q->H q=none/\q≠m/\q≠p/\q≠l:=λh=>by rw[eA] at h;exact h
   have nb:∀{q},H q=none->q≠b:=λh z=>hB.at (by rw[<- z];exact h)
   have MA:DY A m p l b q0:=⟨λz=>(unA z).2.1 rfl,λz=>(unA z).2.2.1 rfl,λz=>(unA z).2.2.2 rfl,λz=>hB.at (unA z).1,(λz=>by have z1:=(unA z).1;rw[gq0] at z1;cases z1),nb hm0,nb hp0,nb hl0,by intro z;subst z;simp at nd,by intro z;subst z;simp at nd,λz=>by rw[<- z,hm0] at gq0;cases gq0⟩;have X:jK K A H' (6+v) (λ_=>Fr 1 1) m p l b q0 us ws vs:=⟨B',u0'.2 _ I0,gm,gp,gl,lu,λx hx=>?_,?_⟩
   ·exists ⟨b,m,p,l,q0,6+v,1,λ_=>1,A,us,ws,vs,rfl,MA,X,by lia,by lia,by lia,λ_=>Nat.zero_lt_one,λ_=>tH,⟨1,λ_ _ _=>rfl⟩,by decide,λq hq=>?_,λr us' H'' g Y kp=>?_⟩
    ·exact mkA (u0'.none B' hq) (λz=>by rw[z,gm] at hq;cases hq) (λz=>by rw[z,gp] at hq;cases hq) (λz=>by rw[z,gl] at hq;cases hq)
    ·obtain ⟨mv,Gm,lmv,hmv⟩:=jZ (H0:=H) (n:=6+v) (C:=Fr 1 (9^3*1)) (m:=6+v) ⟨us',Y.gm,Y.lm,MA.am,λx hx=>Y.row x (by simp [hx])⟩ λq h=>(unA h).1
     obtain ⟨pt,Gp,lpt,hpt⟩:=jZ (H0:=H) (n:=6+v) (C:=Fr 1 (9^3*1)) (m:=2) ⟨ws,Y.gp,lw,MA.ap,λx hx=>Y.row x (by simp [hx])⟩ λq h=>(unA h).1
     obtain ⟨lk,Gl,llk,hlk⟩:=jZ (H0:=H) (n:=6+v) (C:=Fr 1 (9^3*1)) (m:=2) ⟨vs,Y.gl,lv,MA.al,λx hx=>Y.row x (by simp [hx])⟩ λq h=>(unA h).1
     refine k r mv pt lk H'' ⟨m,p,l,g,hm0,hp0,hl0,Gm,Gp,Gl⟩ (by lia) ⟨by lia,by lia,by lia,λxs hx=>by rw[(hmv xs hx).1,lmv],λxs hx=>by rw[(hpt xs hx).1,lmv],λxs hx=>by rw[(hlk xs hx).1,lmv]⟩ (λxs hx=>(hmv xs hx).2) (λxs hx=>(hpt xs hx).2) (λxs hx=>(hlk xs hx).2) Y.bag ⟨λc' u e n1=>kp c' u (u0'.1 _ _ e n1) n1 (λz=>by have:=(unA z).1;rw[e] at this;cases this) (λz=>by rw[z,hm0] at e;cases e),λq h=>by rw[<- Inner.inj I0 h];exact Y.inn⟩
   ·have hx:∃e∈[(m,us),(p,ws),(l,vs)],x∈e.2:=by
     rcases aw.mp hx with hx | hx
     ·rcases aw.mp hx with hx | hx
      ·exact ⟨(m,us),by simp,hx⟩
      ·exact ⟨(l,vs),by simp,hx⟩
     ·exact ⟨(p,ws),by simp,hx⟩
    obtain ⟨e,he,hx⟩:=hx;refine (rw' e he x hx).weak (λq hq=>?_) (λ_ w=>w);obtain ⟨⟨h1,_⟩,h2⟩:=hq;have h2:q∉[m,p,l]:=h2;simp only[aF,aQ,or_false,not_or] at h2;exact mkA (u09.none B9 h1) h2.1 h2.2.1 h2.2.2
   ·rw[qH] at rd
    have e:(us++vs++ws).Perm (us++(ws++vs)):=by
     rw[cF];exact List.Perm.append_left _ List.perm_append_comm
    exact e.nodup_iff.mpr rd
theorem qM:ba ["_law_bag_here","_law_wide","_law_way"] ["_law_bag_here","_law_wide"] (aH nP):=by walk_at "d"
theorem rA (T:Txt K mg Z) (ptree:P.given.tree=none):cW P w K mg base iO 2 Z.tu Z.sW ["_law_bag_here","_law_wide"] (yn K):=by
 have aI:=dF (P:=P) (w:=w) (base:=base) T ptree;have fF:=kE (P:=P) (w:=w) (base:=base) T ptree;refine T.jz.F.ok qM (λvs H Q E h=>?_) (λcdv A outer s H vs Q E hr h=>?_)
 ·obtain ⟨b,w,rfl,_⟩:=h;rfl
 ·obtain ⟨b,w,rfl,hB,w0,w1,k⟩:=h
  refine ⟨_,(ar (aV (i:=2) qM.nd rfl (Or.inl rfl) (cS aI hr T.aK (aa (pv 0) (aa ai af))))
   (ar (dC (br sR (pv 2) ai (bF _)) (az (bc (cK (aa ai (aa ai af))))) bX)
   (ar (dC (br sR (pv 2) ai (bF _)) (az (bc (cK (aa (bw lY (cS aI hr T.aK (aa (pv 0) (aa ai af))) ai) (aa ai af))))) bX)
   (ar (dC (br fy (pv 2) ai (bF _)) (az (bc (cS fF hr T.fR (aa (bw lY (cS aI hr T.aK (aa (pv 0) (aa ai af))) ai) (aa (bw fw ai (cS aI hr T.aK (aa (pv 0) (aa ai af)))) af))))) bX)
   (az (bc (cS fF hr T.fR (aa (bw lY (cS aI hr T.aK (aa (pv 0) (aa (bw fw (bw dc ai (pv 1)) ai) af))) (pv 1)) (aa (bw fw ai (cS aI hr T.aK (aa (pv 0) (aa (pv 1) af)))) af))))))))),?_⟩
  refine aW (σ:=[some (.ref b),some (.int w),none]) rfl ?_;exists ⟨b,8,rfl,hB,by decide,by decide,λv H1 v0 v1 B1 u1=>?_⟩;exists ia (λh0=>?_) (λh0=>?_)
  ·exists bU λr H2 s2 g2=>?_
   exact k r 0 _ ⟨bW _,by show 1<=_;lia⟩ (b6.mk g2 rfl) (B1.same s2) (u1.same s2)
  exists ia (λh1=>?_) (λh1=>?_)
  ·exists ⟨b,7,rfl,B1,by decide,by decide,λa H2 a0 a1 B2 u2=>?_⟩;exists bU λr H3 s3 g3=>?_
   exact k r ((a - 3:Int):Rat) _ ⟨by show (a - 3).natAbs<=_;lia,by show 1<=_;lia⟩ (b6.mk g3 rfl) (B2.same s3) ((u1.trans u2).same s3)
  exists ia (λh2=>?_) (λh2=>?_)
  ·exists ⟨b,13,rfl,B1,by decide,by decide,λa H2 a0 a1 B2 u2=>?_⟩;exists ⟨b,6,rfl,B2,by decide,by decide,λc H3 c0 c1 B3 u3=>?_⟩;exists ⟨_,_,rfl,by lia,(Ej (by lia)).mono (by decide),λr H4 s4 g4=>?_⟩;obtain ⟨q,e,d,_⟩:=EL (t:=a - 6) (b:=1+c) (W:=max w 6) (by lia) (by lia) (by lia);exact k r q _ d (b6.mk g4 e) (B3.same s4) (((u1.trans u2).trans u3).same s4)
  exists ⟨b,_,rfl,B1,by lia,by lia,λa H2 a0 a1 B2 u2=>?_⟩;exists ⟨b,_,rfl,B2,by lia,by lia,λc H3 c0 c1 B3 u3=>?_⟩;exists ⟨_,_,rfl,by lia,(Ej (by lia)).mono (by decide),λr H4 s4 g4=>?_⟩;obtain ⟨q,e,d,_⟩:=EL (t:=a - w) (b:=1+c) (W:=max w 6) (by lia) (by lia) (by lia);exact k r q _ d (b6.mk g4 e) (B3.same s4) (((u1.trans u2).trans u3).same s4)
theorem De:ba ["_law_bag_here","_law_many","_law_wide"] ["_law_bag_here","_law_many","_law_wide"] (aH tS):=by walk_at "d"
theorem rz (T:Txt K mg Z) (ptree:P.given.tree=none):cW P w K mg base iO 3 Z.zx Z.za ["_law_bag_here","_law_many","_law_wide"] (C5 K):=by
 have oE:=rA (P:=P) (w:=w) (base:=base) T ptree;refine T.ij.F.ok De (λvs H Q E h=>?_) (λcdv A outer s H vs Q E hr h=>?_)
 ·obtain ⟨b,m,w,rfl,_⟩:=h;rfl
 ·obtain ⟨b,m,w,rfl,hB,hm,w0,w1,k⟩:=h;refine ⟨_,(az (bc (cv ["_law_k"] ["_law_bag_here","_law_wide"] [0,2] (cG rfl T.range (aa (pv 1) af)) (λ_=>(aO (i:=0) (show ND9 ["_law_k","_law_bag_here","_law_wide"] by decide +kernel))) (λ_=>cy) (λ_=>(cS oE hr T.jz (aa (pv 1) (aa (pv 2) af))))))),?_⟩;refine aW (σ:=[some (.ref b),some (.int m),some (.int w)]) rfl ?_;exists ⟨by lia,by lia,?_⟩;refine AB (n:=m) (b6 K) (Dr (max w 6)) hB hm (λa u B=>a.upto u B) ?_ ?_
  ·rintro i H' NY NN hi u B k1;exists ⟨b,w,rfl,B,w0,w1,λr x H2 hx h2 B2 u2=>k1 _ x _ u2 B2 hx h2⟩
  ·rintro ys cs H' p hp u B g lc hc pr nx;exact k p cs H' hp ⟨ys,g,pr⟩ lc hc B u
theorem jt:ba ["_law_bag_here","_law_n","_law_way","_law_first","_law_wide","_law_move_here","_law_i","_law_row_here","_law_j"] ["_law_bag_here","_law_n","_law_way","_law_first","_law_wide"] (aH qY):=by walk_at "d"
theorem BO (T:Txt K mg Z) (ptree:P.given.tree=none):cW P w K mg base iO 4 Z.xC Z.xk ["_law_bag_here","_law_n","_law_way","_law_first","_law_wide"] (CZ K):=by
 have jb:=rz (P:=P) (w:=w) (base:=base) T ptree;have aI:=dF (P:=P) (w:=w) (base:=base) T ptree;refine T.pQ.F.ok jt (λvs H Q E h=>?_) (λcdv A outer s H vs Q E hr h=>?_)
 ·obtain ⟨b,n,w,way,first,rfl,_⟩:=h;rfl
 ·obtain ⟨b,n,w,way,first,rfl,hB,n8,w0,w1,k⟩:=h
  refine ⟨_,(ar (aV (i:=5) jt.nd rfl (Or.inl rfl) (dN af))
   (ar (eI PassesOwn.never rfl (cG rfl T.range (aa (pv 1) af)) (aO (i:=6) jt.nd)
    (ar (aV (i:=7) jt.nd rfl (Or.inl rfl) (cS jb hr T.ij (aa (pv 0) (aa (pv 1) (aa (pv 4) af)))))
   (ar (eI PassesOwn.never rfl (cG rfl T.range (aa (pv 1) af)) (aO (i:=8) jt.nd)
    (iw (dC (PW.pt (jU (br fy (pv 2) ai (bF _)) (kU (br uQ (cS aI hr T.aK (aa (pv 0) (aa ai af))) ai (bF _))))) (az (gO (cK (aa ai (aa ai af))) (iZ (pv 7) (pv 8) set_list))) bX)
   (iw (dC (PW.pt (jU (br fy (pv 2) ai (bF _)) (kU (br sR (bw fw (pv 6) ai) (pv 1) (bF _))))) (az (gO (cK (aa (cZ oR (by rfl) T.int PyProof.Rows.boot_int (aa (kg fy (pv 8) (bw fw (pv 6) ai) (bF _)) af)) (aa ai af))) (iZ (pv 7) (pv 8) set_list))) bX)
   (iw (dC (PW.pt (rg (PW.pt (jU (br fy (pv 2) ai (bF _)) (jU (br An (pv 6) (pv 3) (bF _)) (kU (br sR (pv 8) (pv 3) (bF _)))))) (lR (PW.pt (jU (br fy (pv 2) ai (bF _)) (jU (br sR (pv 6) (pv 3) (bF _)) (kU (br An (pv 8) (pv 3) (bF _))))))))) (az (gO (cK (aa ai (aa ai af))) (iZ (pv 7) (pv 8) set_list))) bX)
   (az (dC (br fy (pv 2) ai (bF _)) (az (gO (cK (aa (bw dc (aR bf (dN (aa ai (aa ai (aa (yE tK ai) (aa ai af))))) (bw nW (pv 3) ai)) (cZ oR (by rfl) T.int PyProof.Rows.boot_int (aa (kg fy (pv 6) (pv 8) (bF _)) af))) (aa ai af))) (iZ (pv 7) (pv 8) set_list))) bX))))))
   (az (fX (rh bZ cn cm gM (pv 5) (aa (pv 7) af)))))))
   (az (bc (pv 5))))),?_⟩
  refine aW (σ:=[some (.ref b),some (.int n),some (.int way),some (.int first),some (.int w),none,none,none,none]) rfl ?_;have W1:1<=max w 6:=by lia
  exists cY λr H1 s1 n1 g1=>?_
  have rb:r≠b:=λz=>hB.at (by rw[<- z];exact n1)
  obtain ⟨q0,I0,xs0,gq0⟩:=hB.inner;have I1:Inner H1 b q0:=(s1.upto (p:=b)).2 _ I0;obtain ⟨A,eA⟩:∃A:Addr->Prop,A=λq=>H q=none/\q≠r:=⟨_,rfl⟩
  have nb:¬A b:=by rw[eA];exact λz=>hB.at z.1
  have nr:¬A r:=by rw[eA];exact λz=>z.2 rfl
  have nq:¬A q0:=by rw[eA];exact λz=>by have z1:=z.1;rw[gq0] at z1;cases z1
  have rq:r≠q0:=λz=>by rw[<- z,n1] at gq0;cases gq0
  exists ⟨by lia,by lia,?_⟩;refine fh (n:=n) (λi σ' H'=>∃(x1 x2 x3:Option V) (us:List V),σ'=[some (.ref b),some (.int n),some (.int way),some (.int first),some (.int w),some (.ref r),x1,x2,x3]/\H' r=some (.lst us)/\us.length=i/\us.Nodup/\(∀x∈us,fH K A H' n (Dr (max w 6)) x)/\fP H' b/\Inner H' b q0/\cz b H H') ⟨none,none,none,[],rfl,g1,rfl,jN,(λ_ z=>nomatch z),hB.same s1,I1,s1.upto⟩ ?_ ?_
  ·rintro i σ' H' hi ⟨x1,x2,x3,us,rfl,gu,lu,nd,ru,B',I',u'⟩;exists ⟨b,n,w,rfl,B',by lia,w0,w1,λp xs Ha np Ra la da Ba ua=>?_⟩;have hp0:H p=none:=u'.none B' np
   have pn:V.ref p∉us:=λz=>by
    obtain ⟨q',_,_,e',_,g',_⟩:=(ru _ z).at;cases e';rw[np] at g';cases g'
   have ap':H p=none/\p≠r:=⟨hp0,λz=>by rw[z,gu] at np;cases np⟩;have ap:A p:=by rw[eA];exact ap'
   have X0:Gd K A n (Dr (max w 6)) r p b q0 us H Ha:=⟨ua.other rb gu,λx hx=>(ru x hx).upto ua B' nb,⟨p,xs,rfl,ap,Ra,la,da⟩,Ba,ua.2 _ I',u'.trans ua⟩;clear ru Ra gu;exists ⟨by lia,by lia,?_⟩;refine fh (n:=n) (λj σ' H'=>(∃x3,σ'=[some (.ref b),some (.int n),some (.int way),some (.int first),some (.int w),some (.ref r),some (.int i),some (.ref p),x3])/\Gd K A n (Dr (max w 6)) r p b q0 us H H') ⟨⟨_,rfl⟩,X0⟩ ?_ ?_
   ·rintro j σ' Hj hj ⟨⟨x3,rfl⟩,X⟩;exists ⟨λσ' H'=>σ'=[some (.ref b),some (.int n),some (.int way),some (.int first),some (.int w),some (.ref r),some (.int i),some (.ref p),some (.int j)]/\Gd K A n (Dr (max w 6)) r p b q0 us H H',?_,?_⟩
    ·exists ia (λ_=>?_) (λ_=>?_)
     ·exists ⟨b,3,rfl,X.bag,by decide,by decide,λd Hd d0 d1 Bd ud=>?_⟩;replace X:=X.upto ud Bd nb rb
      repeat' (first | walk_at "rd" | refine ia (λ_=>?_) (λ_=>?_))
      all_goals first
       | exact ⟨rfl,X⟩
       | (refine bU λt Hb sb gb=>?_;walk_at "w";obtain ⟨zs,gz,lz,Xz⟩:=(X.same sb).put ap nr nb nq hp0 (b6.mk (q:=0) gb rfl) (rK (i:=0) (bW _) W1) j;refine fW gz (gV (by lia)) rfl ?_;exact ⟨rfl,Xz⟩)
     ·exists ⟨rfl,X⟩
    clear X;rintro σ' Hj ⟨rfl,X⟩;refine ⟨λσ' H'=>σ'=[some (.ref b),some (.int n),some (.int way),some (.int first),some (.int w),some (.ref r),some (.int i),some (.ref p),some (.int j)]/\Gd K A n (Dr (max w 6)) r p b q0 us H H',?_,?_⟩
    ·repeat' (first | walk_at "rd" | refine ia (λ_=>?_) (λ_=>?_))
     all_goals first
      | exact ⟨rfl,X⟩
      | (refine bU λt Hb sb gb=>?_;walk_at "w";obtain ⟨zs,gz,lz,Xz⟩:=(X.same sb).put ap nr nb nq hp0 (b6.mk (q:=((if decide ((j:Int)=(i:Int)+1)=true then (1:Int) else 0:Int):Rat)) gb rfl) (rK (by split <;> lia) W1) j;refine fW gz (gV (by lia)) rfl ?_;exact ⟨rfl,Xz⟩)
    clear X;rintro σ' Hj ⟨rfl,X⟩;refine ⟨λσ' H'=>σ'=[some (.ref b),some (.int n),some (.int way),some (.int first),some (.int w),some (.ref r),some (.int i),some (.ref p),some (.int j)]/\Gd K A n (Dr (max w 6)) r p b q0 us H H',?_,?_⟩
    ·repeat' (first | walk_at "rd" | refine ia (λ_=>?_) (λ_=>?_))
     all_goals first
      | exact ⟨rfl,X⟩
      | (refine bU λt Hb sb gb=>?_;walk_at "w";obtain ⟨zs,gz,lz,Xz⟩:=(X.same sb).put ap nr nb nq hp0 (b6.mk (q:=0) gb rfl) (rK (i:=0) (bW _) W1) j;refine fW gz (gV (by lia)) rfl ?_;exact ⟨rfl,Xz⟩)
    clear X;rintro σ' Hj ⟨rfl,X⟩;exists ia (λ_=>?_) (λ_=>?_)
    ·exists cY λl0 Hc sc nc gc=>?_
     walk_at "w";obtain ⟨x,ex,mx,_⟩:=jG (xs:=[V.int 2,V.int 1,V.int (-1),V.int 0]) (i:=first % 4) (lh _ (by decide)) (by have:=iX first (show (0:Int) < 4 by decide);simpa using this)
     obtain ⟨z,rfl,hz⟩:∃z:Int,x=.int z/\z.natAbs<=2:=by
      simp only[aF,aQ,or_false] at mx;rcases mx with rfl | rfl | rfl | rfl
      ·exact ⟨2,rfl,by decide⟩
      ·exact ⟨1,rfl,by decide⟩
      ·exact ⟨-1,rfl,by decide⟩
      ·exact ⟨0,rfl,by decide⟩
     refine cO (bP.of gc) ex ?_;exists fG (F4 (by lia) (by lia)) ?_;exists bU λt Hb sb gb=>?_
     walk_at "w";obtain ⟨zs,gz,lz,Xz⟩:=((X.same sc).same sb).put ap nr nb nq hp0 (b6.mk (q:=((z*(if decide ((i:Int)=(j:Int))=true then (1:Int) else 0):Int):Rat)) gb rfl) (rK (by split <;> lia) W1) j;refine fW gz (gV (by lia)) rfl ?_;exact ⟨⟨_,rfl⟩,Xz⟩
    ·exists ⟨⟨_,rfl⟩,X⟩
   ·rintro σ' Hj ⟨⟨x3,rfl⟩,X⟩;exists ⟨.inl ⟨rfl,_,bP.of X.gr⟩,?_⟩;exists gL X.gr (bz (by lia)) ?_;refine ⟨_,_,_,us++[.ref p],rfl,aE,by simp [lu],pK nd pn,λx hx=>?_,X.bag.upd X.inn rb rq,X.inn.upd rb,X.up.after n1⟩;rcases aw.mp hx with hx | hx
    ·exact (X.ru x hx).other X.gr nr
    ·have e:x=V.ref p:=by simpa using hx
     rw[e];exact X.rp.other X.gr nr
  ·rintro σ' H' ⟨x1,x2,x3,us,rfl,gu,lu,nd,ru,B',I',u'⟩;exists k r us H' n1 gu lu nd (by rw[eA] at ru;exact ru) B' u'
theorem d4:ba ["_law_bag_here","_law_n","_law_ins","_law_outs","_law_wide","_law_way","_law_first","_law_move_here","_law_put","_law_look","_law_k","_law_row_here"] ["_law_bag_here","_law_n","_law_ins","_law_outs","_law_wide"] (aH ph):=by walk_at "d"
theorem zV (T : Txt K mg Z) (ptree : P.given.tree = none) : cW P w K mg base iO 5 Z.vH Z.vq ["_law_bag_here", "_law_n", "_law_ins", "_law_outs", "_law_wide"] (Ag K) := by
  have aI := dF (P := P) (w := w) (base := base) T ptree;have D6 := BO (P := P) (w := w) (base := base) T ptree;have jb := rz (P := P) (w := w) (base := base) T ptree;have p7 := sS (P := P) (w := w) (base := base) T ptree;refine T.oi.F.ok d4 (λvs H Q E h => ?_) (λcdv A outer s H vs Q E hr h => ?_)
  · obtain ⟨b, n, i, o, w, c, rfl, _⟩ := h;rfl
  · obtain ⟨b, n, i, o, w, c, rfl, hB, n8, i4, o4, w0, w1, hc, hc20, hcM, k⟩ := h
    refine ⟨_, (ar (aV (i := 5) d4.nd rfl (Or.inl rfl) (cS aI hr T.aK (aa (pv 0) (aa ai af))))
      (ar (aV (i := 6) d4.nd rfl (Or.inl rfl) (cS aI hr T.aK (aa (pv 0) (aa (bw fw (pv 1) ai) af))))
      (ar (aV (i := 7) d4.nd rfl (Or.inl rfl) (cS D6 hr T.pQ (aa (pv 0) (aa (pv 1) (aa (pv 5) (aa (pv 6) (aa (pv 4) af)))))))
      (ar (mL 8 ["_law_k"] ["_law_bag_here", "_law_n", "_law_wide"] [0, 1, 4] d4.nd rfl rfl (cG rfl T.range (aa (pv 2) af)) (λ_ => (aO (i := 0) (show List.Nodup (α := PySem.Str) ["_law_k", "_law_bag_here", "_law_n", "_law_wide"] by decide +kernel))) (λ_ => cy) (λ_ => (cS jb hr T.ij (aa (pv 1) (aa (pv 2) (aa (pv 3) af))))))
      (ar (mL 9 ["_law_k"] ["_law_bag_here", "_law_n", "_law_wide"] [0, 1, 4] d4.nd rfl rfl (cG rfl T.range (aa (pv 3) af)) (λ_ => (aO (i := 0) (show List.Nodup (α := PySem.Str) ["_law_k", "_law_bag_here", "_law_n", "_law_wide"] by decide +kernel))) (λ_ => cy) (λ_ => (cS jb hr T.ij (aa (pv 1) (aa (pv 2) (aa (pv 3) af))))))
      (ar (eI PassesOwn.never rfl (cG rfl T.range (aa (pv 1) af)) (aO (i := 10) d4.nd)
        (ar (eI PassesOwn.never rfl (cu (pv 8)) (aO (i := 11) d4.nd)
        (az (dC (PW.pt (rg (PW.pt (jU (br fy (pv 5) ai (bF _)) (kU (br An (pv 10) (pv 6) (bF _))))) (lR (PW.pt (jU (br fy (pv 5) ai (bF _)) (jU (br sR (bw fw (pv 10) ai) (pv 1) (bF _)) (kU (br fy (cS aI hr T.aK (aa (pv 0) (aa ai af))) ai (bF _))))))))) (az (gO (cK (aa ai (aa ai af))) (iZ (pv 11) (pv 10) set_list))) bX)))
      (az (eI PassesOwn.never rfl (cu (pv 9)) (aO (i := 11) d4.nd)
        (az (dC (PW.pt (rg (PW.pt (jU (br fy (pv 5) ai (bF _)) (kU (br An (pv 10) (pv 6) (bF _))))) (lR (PW.pt (jU (br fy (pv 5) ai (bF _)) (jU (br uQ (pv 10) ai (bF _)) (kU (br fy (cS aI hr T.aK (aa (pv 0) (aa ai af))) ai (bF _))))))))) (az (gO (cK (aa ai (aa ai af))) (iZ (pv 11) (pv 10) set_list))) bX))))))
      (az (bc (cS p7 hr T.kh (aa (pv 0) (aa (pv 7) (aa (pv 8) (aa (pv 9) af))))))))))))), ?_⟩
    refine aW (σ := [some (.ref b), some (.int n), some (.int i), some (.int o), some (.int w), none, none, none, none, none, none, none]) rfl ?_;have W1 : 1 ≤ max w 6 := by lia
    obtain ⟨q0, I0, xs0, gq0⟩ := hB.inner;exists ⟨b, 6, rfl, hB, by decide, by decide, λway H1 a0 a1 B1 u1 => ?_⟩;exists ⟨b, _, rfl, B1, by lia, by lia, λfirst H2 f0 f1 B2 u2 => ?_⟩;have u02 := u1.trans u2;exists ⟨b, n, w, way, first, rfl, B2, n8, w0, w1, λm us H3 nm0 gm lm ndm rm B3 u3 => ?_⟩;have u03 := u02.trans u3;exists ⟨by lia, by lia, ?_⟩;refine AD (n := i) (b := b) (iI K H3) (λxs => xs.length = n /\ ∀ x ∈ xs, Dr (max w 6) x) B3 (by lia) (λa u B => a.upto u B B3.at) (λ⟨q, e, _, _, g, _⟩ => ⟨q, e, by rw [g]; exact λz => nomatch z⟩) ?_ ?_
    · rintro s H' NY NN hi u B k1;exists ⟨b, n, w, rfl, B, by lia, w0, w1, λr xs H2 nr R lx dx B2 u2 => k1 _ xs _ u2 B2 ⟨lx, dx⟩ ⟨r, rfl, u.none B nr, R⟩ ⟨r, rfl, nr⟩⟩
    rintro ws puts H4 p np u4 B4 gp lp ndp hp pr4 nx4;have u04 := u03.trans u4;exists ⟨by lia, by lia, ?_⟩;refine AD (n := o) (b := b) (iI K H4) (λxs => xs.length = n /\ ∀ x ∈ xs, Dr (max w 6) x) B4 (by lia) (λa u B => a.upto u B B4.at) (λ⟨q, e, _, _, g, _⟩ => ⟨q, e, by rw [g]; exact λz => nomatch z⟩) ?_ ?_
    · rintro s H' NY NN hi u B k1;exists ⟨b, n, w, rfl, B, by lia, w0, w1, λr xs H2 nr R lx dx B2 u2 => k1 _ xs _ u2 B2 ⟨lx, dx⟩ ⟨r, rfl, u.none B nr, R⟩ ⟨r, rfl, nr⟩⟩
    rintro vs looks H5 l nl u5 B5 gl ll ndl hl pr5 nx5;have u05 := u04.trans u5;have hm0 : H m = none := u02.none B2 nm0;have hp0 : H p = none := u03.none B3 np;have hl0 : H l = none := u04.none B4 nl;have mb : m ≠ b := λz => B2.at (by rw [<- z]; exact nm0)
    have pb : p ≠ b := λz => B3.at (by rw [<- z]; exact np)
    have lb : l ≠ b := λz => B4.at (by rw [<- z]; exact nl)
    have gm4 := u4.other mb gm;have gm5 := u5.other mb gm4;have gp5 := u5.other pb gp;have mp : m ≠ p := λz => by rw [z, np] at gm; cases gm
    have ml : m ≠ l := λz => by rw [z, nl] at gm4; cases gm4
    have pl : p ≠ l := λz => by rw [z, nl] at gp; cases gp
    have mq : m ≠ q0 := λz => Inner.at B2 (u02.2 _ I0) (by rw [<- z]; exact nm0)
    obtain ⟨A, eA⟩ : ∃ A : Addr → Prop, A = λq => H q = none /\ q ≠ m /\ q ≠ p /\ q ≠ l := ⟨_, rfl⟩
    have mkA : ∀ {q}, H q = none → q ≠ m → q ≠ p → q ≠ l → A q := λh1 h2 h3 h4 => by rw [eA]; exact ⟨h1, h2, h3, h4⟩
    have unA : ∀ {q}, A q → H q = none /\ q ≠ m /\ q ≠ p /\ q ≠ l := λh => by rw [eA] at h; exact h
    have MA : DY A m p l b q0 := ⟨λz => (unA z).2.1 rfl, λz => (unA z).2.2.1 rfl, λz => (unA z).2.2.2 rfl, λz => hB.at (unA z).1, (λz => by have z1 := (unA z).1; rw [gq0] at z1; cases z1), mb, pb, lb, mp, ml, mq⟩;clear eA;have lws : ws.length = i := by rw [<- pr4.length]; exact lp
    have lvs : vs.length = o := by rw [<- pr5.length]; exact ll
    have alM : ∀ q, V.ref q ∈ us → H3 q ≠ none /\ q ≠ b /\ H4 q ≠ none := λq hq => by
      obtain ⟨q', qs, e, ⟨a1, a2⟩, r, z⟩ := rm _ hq;cases e;have qb : q ≠ b := λy => B2.at (by rw [<- y]; exact a1)
      obtain ⟨xq, gq, _⟩ := id r;obtain ⟨xq4, gq4, _⟩ := r.upto u4 B3 qb;exact ⟨(by rw [gq]; exact λz => nomatch z), qb, (by rw [gq4]; exact λz => nomatch z)⟩
    have alP : ∀ q, V.ref q ∈ ws → H3 q = none /\ H4 q ≠ none := λq hq => by
      obtain ⟨_, _, q', e, a, _, g, _⟩ := c9 pr4 hq;cases e;exact ⟨a, by rw [g]; exact λz => nomatch z⟩
    have alL : ∀ q, V.ref q ∈ vs → H4 q = none := λq hq => by
      obtain ⟨_, _, q', e, a, _⟩ := c9 pr5 hq;cases e;exact a
    have isR : ∀ x, x ∈ us \/ x ∈ ws \/ x ∈ vs → ∃ q, x = V.ref q := λx hx => by
      rcases hx with hx | hx | hx
      · obtain ⟨q, _, e, _⟩ := rm x hx; exact ⟨q, e⟩
      · obtain ⟨_, _, q, e, _⟩ := c9 pr4 hx; exact ⟨q, e⟩
      · obtain ⟨_, _, q, e, _⟩ := c9 pr5 hx; exact ⟨q, e⟩
    have nd : (us ++ vs ++ ws).Nodup := by
      refine dd.mpr ⟨dd.mpr ⟨ndm, ndl, λx hx y hy e => ?_⟩, ndp, λx hx y hy e => ?_⟩
      · subst e;obtain ⟨q, rfl⟩ := isR x (.inl hx);exact (alM q hx).2.2 (alL q hy)
      · subst e;obtain ⟨q, rfl⟩ := isR x (.inr (.inl hy));rcases aw.mp hx with hx | hx
        · exact (alM q hx).1 (alP q hy).1
        · exact (alP q hy).2 (alL q hx)
    have X5 : E6 K A n (Dr (max w 6)) m p l b q0 us ws vs H H5 := by
      refine ⟨⟨B5, u05.2 _ I0, gm5, gp5, gl, lm, λx hx => ?_, nd⟩, gp5, gl, λc u e n1 _ _ => u05.1 c u e n1⟩;rcases aw.mp hx with hx | hx
      · rcases aw.mp hx with hx | hx
        · obtain ⟨q, qs, e, ⟨a1, a2⟩, r, z⟩ := rm x hx;obtain ⟨xq, gq, _⟩ := id r;have qb : q ≠ b := λy => B2.at (by rw [<- y]; exact a1)
          have r4 := r.upto u4 B3 qb;obtain ⟨xq4, gq4, _⟩ := id r4;exact ⟨q, qs, e, mkA (u02.none B2 a1) a2 (λy => by rw [y, np] at gq; cases gq) (λy => by rw [y, nl] at gq4; cases gq4), r4.upto u5 B4 qb, z⟩
        · refine IC (A := A) pr5 hl (λq hq a b' => ?_) x hx;exact mkA (u04.none B4 a) (λy => by rw [y, gm4] at a; cases a) (λy => by rw [y, gp] at a; cases a) (λy => wV nx5 (by rw [<- y]; exact hq))
      · refine fH.upto (IC (A := A) pr4 hp (λq hq a b' => ?_) x hx) u5 B4 MA.ab;exact mkA (u03.none B3 a) (λy => by rw [y, gm] at a; cases a) (λy => wV nx4 (by rw [<- y]; exact hq)) (λy => b' (by rw [y]; exact nl))
    clear alM alP alL isR rm pr4 pr5 nx4 nx5 gm gm4 gm5 gp gp5 gl hp hl;exists ⟨by lia, by lia, ?_⟩;refine fh (n := n) (λkk σ' H' => (∃ x1 x2, σ' = [some (.ref b), some (.int n), some (.int i), some (.int o), some (.int w), some (.int way), some (.int first), some (.ref m), some (.ref p), some (.ref l), x1, x2]) /\ E6 K A n (Dr (max w 6)) m p l b q0 us ws vs H H') ⟨⟨_, _, rfl⟩, X5⟩ ?_ ?_
    · rintro kk σ' Hj hk ⟨⟨x1, x2, rfl⟩, X⟩;exists ⟨⟨_, bP.of X.gp⟩, ?_⟩;refine iR (K := K) (a := p) (xs := ws) (λs σ' H' => (∃ x2, σ' = [some (.ref b), some (.int n), some (.int i), some (.int o), some (.int w), some (.int way), some (.int first), some (.ref m), some (.ref p), some (.ref l), some (.int kk), x2]) /\ E6 K A n (Dr (max w 6)) m p l b q0 us ws vs H H') ⟨⟨_, rfl⟩, X⟩ (λs σ' H' _ ⟨_, e⟩ => bP.of e.gp) ?_ ?_
      · rintro s x σ' Hk hx ⟨⟨y2, rfl⟩, X⟩;have mx := ak hx;obtain ⟨q, _, rfl, _⟩ := X.row (.inl mx)
        repeat' (first | walk_at "rd" | refine ia (λ_ => ?_) (λ_ => ?_))
        all_goals first
          | exact ⟨⟨_, rfl⟩, X⟩
          | (refine bU λt Hb sb gb => ?_; walk_at "w"; obtain ⟨zs, gz, lz, Xz⟩ := (X.same sb).put MA (.inl mx) (b6.mk (q := 0) gb rfl) (rK (i := 0) (bW _) W1) kk; refine fW gz (gV (by lia)) rfl ?_; exact ⟨⟨_, rfl⟩, Xz⟩)
          | (refine ⟨b, 2, rfl, X.mix.bag, by decide, by decide, λd Hd d0 d1 Bd ud => ?_⟩
             replace X := X.upto MA ud Bd
             repeat' (first | walk_at "rd" | refine ia (λ_ => ?_) (λ_ => ?_))
             all_goals first
               | exact ⟨⟨_, rfl⟩, X⟩
               | (refine bU λt Hb sb gb => ?_
                  walk_at "w";obtain ⟨zs, gz, lz, Xz⟩ := (X.same sb).put MA (.inl mx) (b6.mk (q := 0) gb rfl) (rK (i := 0) (bW _) W1) kk;refine fW gz (gV (by lia)) rfl ?_;exact ⟨⟨_, rfl⟩, Xz⟩))
      · rintro σ' Hk ⟨⟨y2, rfl⟩, X⟩;exists ⟨⟨_, bP.of X.gl⟩, ?_⟩;refine iR (K := K) (a := l) (xs := vs) (λs σ' H' => (∃ x2, σ' = [some (.ref b), some (.int n), some (.int i), some (.int o), some (.int w), some (.int way), some (.int first), some (.ref m), some (.ref p), some (.ref l), some (.int kk), x2]) /\ E6 K A n (Dr (max w 6)) m p l b q0 us ws vs H H') ⟨⟨_, rfl⟩, X⟩ (λs σ' H' _ ⟨_, e⟩ => bP.of e.gl) ?_ ?_
        · rintro s x σ' Hk hx ⟨⟨y2, rfl⟩, X⟩;have mx := ak hx;obtain ⟨q, _, rfl, _⟩ := X.row (.inr mx)
          repeat' (first | walk_at "rd" | refine ia (λ_ => ?_) (λ_ => ?_))
          all_goals first
            | exact ⟨⟨_, rfl⟩, X⟩
            | (refine bU λt Hb sb gb => ?_; walk_at "w"; obtain ⟨zs, gz, lz, Xz⟩ := (X.same sb).put MA (.inr mx) (b6.mk (q := 0) gb rfl) (rK (i := 0) (bW _) W1) kk; refine fW gz (gV (by lia)) rfl ?_; exact ⟨⟨_, rfl⟩, Xz⟩)
            | (refine ⟨b, 2, rfl, X.mix.bag, by decide, by decide, λd Hd d0 d1 Bd ud => ?_⟩
               replace X := X.upto MA ud Bd
               repeat' (first | walk_at "rd" | refine ia (λ_ => ?_) (λ_ => ?_))
               all_goals first
                 | exact ⟨⟨_, rfl⟩, X⟩
                 | (refine bU λt Hb sb gb => ?_
                    walk_at "w";obtain ⟨zs, gz, lz, Xz⟩ := (X.same sb).put MA (.inr mx) (b6.mk (q := 0) gb rfl) (rK (i := 0) (bW _) W1) kk;refine fW gz (gV (by lia)) rfl ?_;exact ⟨⟨_, rfl⟩, Xz⟩))
        · rintro σ' Hk ⟨⟨y2, rfl⟩, X⟩;exact ⟨⟨_, _, rfl⟩, X⟩
    · rintro σ' Hj ⟨⟨x1, x2, rfl⟩, X⟩
      obtain ⟨M1, M2, M3, V0, a1, a2, a3, V2, hcs, R1, R2, R3⟩ : ∃ M1 M2 M3 V0 : Nat, (0 < M1 /\ M1 ≤ 2 ^ 800) /\ (0 < M2 /\ M2 ≤ 2 ^ 800) /\ (0 < M3 /\ M3 ≤ 2 ^ 800) /\ V0 ≤ 2 ^ 20 /\ ((w ≤ 9 /\ M1 = 2520 /\ M2 = 2520 /\ M3 = 2520 /\ V0 = 9) \/ (9 < w /\ M1 ≤ 2 ^ (c * (n * n)) /\ M2 ≤ 2 ^ (c * (i * n)) /\ M3 ≤ 2 ^ (c * (o * n)) /\ V0 = 2 ^ c)) /\ (∀ x ∈ us, fH K A Hj n (Fr M1 V0) x) /\ (∀ x ∈ ws, fH K A Hj n (Fr M2 V0) x) /\ ∀ x ∈ vs, fH K A Hj n (Fr M3 V0) x := by
        by_cases w9 : w ≤ 9
        · have XM := X.mix.weak (C' := λ_ => Fr 2520 9) λ_ _ y h => JA ⟨aj h.1 (by lia), aj h.2 (by lia)⟩ (Nat.dvd_refl _)
          have z : 0 < 2520 /\ 2520 ≤ 2 ^ 800 := ⟨by decide, aj (show 2520 ≤ 2 ^ 12 by decide) (av (by decide) (by decide))⟩;exact ⟨2520, 2520, 2520, 9, z, z, z, by decide, .inl ⟨w9, rfl, rfl, rfl, rfl⟩, λx hx => XM.row x (by simp [hx]), λx hx => XM.row x (by simp [hx]), λx hx => XM.row x (by simp [hx])⟩
        · obtain ⟨M1, M2, M3, a1, a2, a3, b1, b2, b3, R1, R2, R3⟩ := (X.mix.weak (C' := λ_ => Dr (2 ^ c)) λ_ _ y h => ⟨aj h.1 hc, aj h.2 hc⟩).fr3;rw [lws] at b2;rw [lvs] at b3;have up : ∀ {M k : Nat}, M ≤ 2 ^ (c * k) → k ≤ (n + i + o) * n → M ≤ 2 ^ 800 := λh hk => aj h (av (by decide) (aj (rX _ hk) hcM))
          exact ⟨M1, M2, M3, 2 ^ c, ⟨a1, up b1 (aL _ (by lia))⟩, ⟨a2, up b2 (aL _ (by lia))⟩, ⟨a3, up b3 (aL _ (by lia))⟩, av (by decide) hc20, .inr ⟨by lia, b1, b2, b3, rfl⟩, R1, R2, R3⟩
      obtain ⟨μ, e2, e3, e1, e4⟩ := Jc ws vs M1 M2 M3;obtain ⟨ap1, ap2⟩ := X.mix.apart
      have XM : jK K A Hj n (λx => Fr (μ x) V0) m p l b q0 us ws vs := by
        refine ⟨X.mix.bag, X.mix.inn, X.mix.gm, X.mix.gp, X.mix.gl, X.mix.lm, λx hx => ?_, X.mix.nd⟩;rcases aw.mp hx with hx | hx
        · rcases aw.mp hx with hx | hx
          · rw [e1 x (ap1 x hx).1 (ap1 x hx).2]; exact R1 x hx
          · rw [e3 x hx (ap2 x hx)]; exact R3 x hx
        · rw [e2 x hx]; exact R2 x hx
      have p1 : ∀ x, 0 < μ x := λx => by
        rcases e4 x with e | e | e
        · rw [e]; exact a1.1
        · rw [e]; exact a2.1
        · rw [e]; exact a3.1
      have p2 : ∀ x, μ x ≤ 2 ^ 800 := λx => by
        rcases e4 x with e | e | e
        · rw [e]; exact a1.2
        · rw [e]; exact a2.2
        · rw [e]; exact a3.2
      have gmj := X.mix.gm;exists ⟨b, m, p, l, q0, n, V0, μ, A, us, ws, vs, rfl, MA, XM, n8, by lia, by lia, p1, p2, ⟨M1, e1⟩, V2, λq hq => ?_, λr us' H' g Y kp => ?_⟩
      · refine mkA ?_ (λz => by rw [z, gmj] at hq; cases hq) (λz => by rw [z, X.gp] at hq; cases hq) (λz => by rw [z, X.gl] at hq; cases hq);cases e : H q with
        | none => rfl
        | some u =>
          have := X.kp q u e (λz => X.mix.bag.at (by rw [<- z]; exact hq)) (λz => by have := (unA z).1; rw [e] at this; cases this) (λz => by rw [z, hm0] at e; cases e);rw [hq] at this; cases this
      · obtain ⟨yp1, yp2⟩ := Y.apart;obtain ⟨mv, Gm, lmv, hmv⟩ := jZ (H0 := H) (n := n) (C := Fr M1 (9 ^ 3 * V0)) (m := n) ⟨us', Y.gm, Y.lm, MA.am, λx hx => by have := Y.row x (by simp [hx]); rwa [e1 x (yp1 x hx).1 (yp1 x hx).2] at this⟩ λq h => (unA h).1
        obtain ⟨pt, Gp, lpt, hpt⟩ := jZ (H0 := H) (n := n) (C := Fr M2 (9 ^ 3 * V0)) (m := i) ⟨ws, Y.gp, lws, MA.ap, λx hx => by have := Y.row x (by simp [hx]); rwa [e2 x hx] at this⟩ λq h => (unA h).1
        obtain ⟨lk, Gl, llk, hlk⟩ := jZ (H0 := H) (n := n) (C := Fr M3 (9 ^ 3 * V0)) (m := o) ⟨vs, Y.gl, lvs, MA.al, λx hx => by have := Y.row x (by simp [hx]); rwa [e3 x hx (yp2 x hx)] at this⟩ λq h => (unA h).1
        refine k r mv pt lk H' ⟨m, p, l, g, hm0, hp0, hl0, Gm, Gp, Gl⟩ lmv lpt llk ⟨by lia, by lia, by lia, λxs hx => by rw [(hmv xs hx).1, lmv], λxs hx => by rw [(hpt xs hx).1, lmv], λxs hx => by rw [(hlk xs hx).1, lmv]⟩ ⟨M1, M2, M3, 9 ^ 3 * V0, a1.1, a2.1, a3.1, λxs hx => (hmv xs hx).2, λxs hx => (hpt xs hx).2, λxs hx => (hlk xs hx).2, ?_⟩ Y.bag ⟨λc' u e n1 => (X.kp.trans kp) c' u e n1 (λz => by have := (unA z).1; rw [e] at this; cases this) (λz => by rw [z, hm0] at e; cases e), λq h => by rw [<- Inner.inj I0 h]; exact Y.inn⟩;rcases hcs with ⟨b1, b2, b3, b4, b5⟩ | ⟨b1, b2, b3, b4, b5⟩
        · exact .inl ⟨b1, b2, b3, b4, by rw [b5]⟩
        · exact .inr ⟨b1, b2, b3, b4, by rw [b5]⟩
theorem ie:ba ["_law_bag_here","_law_n","_law_ins","_law_outs","_law_wide"] ["_law_bag_here"] (aH nO):=by walk_at "d"
theorem yK (T:Txt K mg Z) (ptree:P.given.tree=none):cW P w K mg base iO 6 Z.tq Z.sV ["_law_bag_here"] (Ke K):=by
 have Cs:=zT (P:=P) (w:=w) (base:=base) T ptree;have aI:=dF (P:=P) (w:=w) (base:=base) T ptree;have wK:=uS (P:=P) (w:=w) (base:=base) T ptree;have mY:=uT (P:=P) (w:=w) (base:=base) T ptree;have Cu:=zV (P:=P) (w:=w) (base:=base) T ptree;refine T.lZ.F.ok ie (λvs H Q E h=>?_) (λcdv A outer s H vs Q E hr h=>?_)
 ·obtain ⟨b,rfl,_⟩:=h;rfl
 ·obtain ⟨b,rfl,hB,k⟩:=h
  refine ⟨_,(ar (gO (cS Cs hr T.og (aa (pv 0) af)) (wg rfl (cV (aO (i:=1) ie.nd) (cV (aO (i:=2) ie.nd) (cV (aO (i:=3) ie.nd) (cV (aO (i:=4) ie.nd) kf))))))
   (ar (dC (br fy (cS aI hr T.aK (aa (pv 0) (aa ai af))) ai (bF _)) (ar (dC (br fy (cS aI hr T.aK (aa (pv 0) (aa ai af))) ai (bF _)) (az (bc (cK (aa (cS wK hr T.jy (aa (pv 0) af)) (aa ai af))))) bX)
   (az (bc (cK (aa (cS mY hr T.jA (aa (pv 0) (aa (bw fw ai (cS aI hr T.aK (aa (pv 0) (aa ai af)))) af))) (aa ai af)))))) bX)
   (az (bc (cK (aa (cS Cu hr T.oi (aa (pv 0) (aa (pv 1) (aa (pv 2) (aa (pv 3) (aa (pv 4) af)))))) (aa (bO (oQ rfl) (by rfl) T.min PyProof.Rows.boot_min (aa (pv 4) (aa ai af))) af))))))),?_⟩
  refine aW (σ:=[some (.ref b),none,none,none,none]) rfl ?_;have sf:∀{mv pt lk:LR9} {M V1:Nat},0 < M->M<=2^400->V1<=2^30->GF M V1 mv->GF M V1 pt->GF M V1 lk->Lv mv pt lk:=λh0 h1 h2 a b c=>⟨_,_,h0,h1,aj h2 (av (by decide) (by decide)),a,b,c⟩
  exists ⟨b,rfl,hB,λr n i o w H1 g1 n5 i4 o4 hw h5 B1 u1=>?_⟩;exists ⟨b,16,rfl,B1,by decide,by decide,λv H2 v0 v1 B2 u2=>?_⟩;have u02:=u1.trans u2;exists ia (λh0=>?_) (λh0=>?_)
  ·exists ⟨b,2,rfl,B2,by decide,by decide,λv2 H3 _ _ B3 u3=>?_⟩;have u03:=u02.trans u3;exists ia (λh1=>?_) (λh1=>?_)
   ·exists ⟨b,rfl,B3,λr4 mv pt lk H4 P4 l6 D fm fp fl B4 u4=>?_⟩;exists bU λt H5 s5 g5=>?_
    exact k t r4 4 0 13 mv pt lk H5 g5 ((P4.weak λq h=>u03.none B3 h).same s5) D (sf (by decide) tH (by decide) fm fp fl) (yb (n0:=8) (by decide) (by decide) D.n8 (by decide) fm fp (by decide)) (.inl ⟨by decide,by decide,by decide,by decide,by decide,fm,fp,aj (aL _ (show mv.length+4<=12 by have:=D.n8;lia)) (by decide)⟩) (by decide) (by decide) (B4.same s5) ((u03.trans u4).same s5)
   ·exists ⟨b,3,rfl,B3,by decide,by decide,λv3 H4 v30 v31 B4 u4=>?_⟩;obtain ⟨v3,rfl⟩:=cx v30;have u04:=u03.trans u4;walk_at "w";rw[show ((6:Int)+(v3:Int))=((6+v3:Nat):Int) by lia];refine ⟨b,6+v3,rfl,B4,by lia,by lia,λr4 mv pt lk H5 P5 lm _ _ D fm fp fl B5 u5=>?_⟩;exists bU λt H6 s6 g6=>?_
    exact k t r4 4 0 4 mv pt lk H6 g6 ((P5.weak λq h=>u04.none B4 h).same s6) D (sf (by decide) tH (by decide) fm fp fl) (yb (n0:=8) (by decide) (by decide) D.n8 (by decide) fm fp (by decide)) (.inl ⟨by decide,by decide,by decide,by decide,by decide,(λxs hx x hx'=>(fm xs hx x hx').mono (by decide)),(λxs hx x hx'=>(fp xs hx x hx').mono (by decide)),aj (aL _ (show mv.length+4<=12 by have:=D.n8;lia)) (by decide)⟩) (by decide) (by decide) (B5.same s6) ((u04.trans u5).same s6)
  ·obtain ⟨c,hc,hc20,hcM⟩:∃c:Nat,max w 6<=2^c/\c<=20/\c*((n+i+o)*n)<=800/\(9 < w->c=20/\(n+i+o)*n<=20/\n<=2):=by
    have m1:(n+i+o)*n<=13*5:=a8 (by lia) n5;rcases hw with rfl | rfl | ⟨rfl,n2⟩
    ·exact ⟨4,by decide,by decide,by lia,λz=>by lia⟩
    ·exact ⟨4,by decide,by decide,by lia,λz=>by lia⟩
    ·have m2:(n+i+o)*n<=10*2:=a8 (by lia) n2;exact ⟨20,by decide,by decide,by lia,λ_=>⟨rfl,by lia,n2⟩⟩
   obtain ⟨hcM,hbig⟩:=hcM;exists ⟨b,n,i,o,w,c,rfl,B2,by lia,i4,o4,by lia,by lia,hc,hc20,hcM,λr4 mv pt lk H4 P4 lm lp ll D PF B4 u4=>?_⟩;have hmin:(if (1000:Int) < (w:Int) then (1000:Int) else (w:Int))=((min w 1000:Nat):Int):=by split <;> lia
   have PG:=PF;obtain ⟨M,V1,M0,fm,fp,fl,hcs⟩:=PF.n
   obtain ⟨a',c',KF,SF⟩:∃a' c',Oj mv pt a' c'/\Lv mv pt lk:=by
    rcases hcs with ⟨w9,rfl,rfl⟩ | ⟨w9,M1,rfl⟩
    ·exact ⟨12,16,yb (n0:=5) (by decide) (by decide) (by lia) (by decide) fm fp (by decide),sf (by decide) (aj (show 2520<=2^12 by decide) (av (by decide) (by decide))) (by decide) fm fp fl⟩
    ·obtain ⟨rfl,e1,e2⟩:=hbig w9;have M4:M<=2^400:=aj M1 (av (by decide) (by lia));exact ⟨400,32,yb (n0:=2) M0 M4 (by lia) (by decide) fm fp (by decide),sf M0 M4 (by decide) fm fp fl⟩
   have RG:Rg mv pt (min w 1000):=by
    obtain ⟨M1,M2,M3,V1,a1,a2,a3,f1,f2,f3,hc'⟩:=PG;rcases hc' with ⟨w9,rfl,rfl,_,rfl⟩ | ⟨w9,b1,b2,_,rfl⟩
    ·exact .inr (.inl ⟨by lia,by lia,by decide,by decide,by decide,by decide,f1,f2,aj (aL _ (show mv.length+4<=9 by lia)) (by decide)⟩)
    ·obtain ⟨rfl,e1,e2⟩:=hbig w9;have q1:n*n<=2*2:=a8 e2 e2;have q2:i*n<=4*2:=a8 i4 e2;have w6:w=1000000:=by lia
     exact .inr (.inr ⟨by lia,by lia,M1,M2,a1,a2,aj b1 (av (by decide) (by lia)),aj b2 (av (by decide) (by lia)),f1,f2,aj (aL _ (show mv.length+4<=6 by lia)) (by decide)⟩)
   exists bU λt H5 s5 g5=>?_
   rw[hmin] at g5;exact k t r4 (min w 1000) a' c' mv pt lk H5 g5 ((P4.weak λq h=>u02.none B2 h).same s5) D SF KF RG (by lia) (by lia) (B4.same s5) ((u02.trans u4).same s5)
theorem Bg:ba ["thing","at","most"] ["thing","at","most"] (aH qO):=by walk_at "d"
theorem BK (T:Txt K mg Z) (ptree:P.given.tree=none):cW P w K mg base iO 1 Z.xp Z.wZ ["thing","at","most"] Fq:=by
 refine T.jv.F.ok Bg (λvs H Q E h=>?_) (λcdv A outer s H vs Q E hr h=>?_)
 ·obtain ⟨p,xs,a,m,rfl,_⟩:=h;rfl
 ·obtain ⟨p,xs,a,m,rfl,gx,hm,k⟩:=h
  refine ⟨_,(ar (dC (nV (lU (yF rfl T.isinstance PyProof.Rows.boot_list T.list (pv 0)))) (az IQ) bX)
   (az (dC (br uQ (bO bG (by rfl) T.len bx (aa (pv 0) af)) (pv 2) (bF _)) (az IQ) bX))),?_⟩
  refine aW (σ:=[some (.ref p),some (.int a),some (.int m)]) rfl ?_;exists ⟨_,_,.lst gx,rfl,?_⟩;exists ⟨_,_,rfl,.inl (bP.of gx),?_⟩;walk_at "w";rw[decide_eq_false (show ¬m < (xs.length:Int) by lia)];exists k
theorem Dc:ba ["thing"] ["thing"] (aH tQ):=by walk_at "d"
theorem Ds (T:Txt K mg Z) (ptree:P.given.tree=none):cW P w K mg base iO 1 Z.zu Z.y8 ["thing"] Gv:=by
 refine T.mQ.F.ok Dc (λvs H Q E h=>?_) (λcdv A outer s H vs Q E hr h=>?_)
 ·obtain ⟨i,rfl,_⟩:=h;rfl
 ·obtain ⟨i,rfl,k⟩:=h;refine ⟨_,(az (bc (EA (yF rfl T.isinstance PyProof.Rows.boot_int T.int (pv 0)) (Ey (Nr (yF rfl T.isinstance PyProof.Rows.boot_bool T.bool (pv 0))))))),?_⟩;refine aW (σ:=[some (.int i)]) rfl ?_;exists ⟨_,_,.int i,rfl,?_⟩;exists ⟨_,_,.int i,rfl,?_⟩;exists k
theorem gQ:ba ["one","other","rest"] ["one","other"] (aH jR):=by walk_at "d"
theorem gU (T:Txt K mg Z) (ptree:P.given.tree=none):cW P w K mg base iO 1 Z.oU Z.oM ["one","other"] OT:=by
 refine T.eo.F.ok gQ (λvs H Q E h=>?_) (λcdv A outer s H vs Q E hr h=>?_)
 ·obtain ⟨a,b,rfl,_⟩:=h;rfl
 ·obtain ⟨a,b,rfl,k⟩:=h
  refine ⟨_,(ar (yB PassesOwn.never (br Am (pv 1) ai (bF _))
    (ar (aV (i:=2) gQ.nd rfl (Or.inl rfl) (bw KQ (pv 0) (pv 1)))
   (ar (aV (i:=0) gQ.nd rfl (Or.inl rfl) (pv 1))
   (az (aV (i:=1) gQ.nd rfl (Or.inl rfl) (pv 2))))))
   (az (bc (bO vz (by rfl) T.abs PyProof.Rows.boot_abs (aa (pv 0) af))))),?_⟩
  refine aW (σ:=[some (.int a),some (.int b),none]) rfl ?_;exists AZ (λσ' H'=>∃(u v:Int) (r:Option V),σ'=[some (.int u),some (.int v),r]/\H'=H/\Int.gcd u v=Int.gcd a b) (λσ' _=>match σ' with | [_,some (.int v),_]=>v.natAbs | _=>0) ⟨a,b,none,rfl,rfl,rfl⟩ ?_;rintro σ' H' ⟨u,v,r,rfl,rfl,hg⟩;exists ia (λh=>?_) (λh=>?_)
  ·have hv:v≠0:=λz=>by subst z;simp at h
   exists fG (show v≠0 from hv) ?_;exists ⟨⟨v,u.fmod v,_,rfl,rfl,(Jq u v).trans hg⟩,La u v hv⟩
  ·have hv:v=0:=by
    by_cases z:v=0
    ·exact z
    ·exfalso;apply h;simp [z]
   subst hv;walk_at "w"
   have e:(if u < 0 then -u else u)=g a b:=by
    unfold g;rw[<- hg,Int.gcd_zero_right]
    split <;> lia
   rw[e];exact k
theorem Bi:ba ["thing"] ["thing"] (aH qT):=by walk_at "d"
theorem BM (T:Txt K mg Z) (ptree:P.given.tree=none):cW P w K mg base iO 2 Z.xv Z.xf ["thing"] (Gy K):=by
 have zI:=Ds (P:=P) (w:=w) (base:=base) T ptree;have dS:=gU (P:=P) (w:=w) (base:=base) T ptree;refine T.pO.F.ok Bi (λvs H Q E h=>?_) (λcdv A outer s H vs Q E hr h=>?_)
 ·obtain ⟨x,n,rfl,_⟩:=h;rfl
 ·obtain ⟨x,n,rfl,⟨p,rfl,hp⟩,hn,k⟩:=h
  refine ⟨_,(ar (dC (PW.pt (rg (nV (lU (xX rfl T.isinstance PyProof.Rows.boot_tuple T.tuple (pv 0)))) (lR (br Am (bO bG (by rfl) T.len bx (aa (pv 0) af)) ai (bF _))))) (az (bc sO)) bX)
   (ar (dC (PW.pt (rg (nV (lU (cS zI hr T.mQ (aa (aR bT (pv 0) ai) af)))) (lR (nV (lU (cS zI hr T.mQ (aa (aR bT (pv 0) ai) af))))))) (az (bc sO)) bX)
   (az (bc (EA (kg An (aR bT (pv 0) ai) ai (bF _)) (Ey (kg fy (cS dS hr T.eo (aa (aR bT (pv 0) ai) (aa (aR bT (pv 0) ai) af))) ai (bF _)))))))),?_⟩
  refine aW (σ:=[some (.ref p)]) rfl ?_;obtain ⟨hb,hg,s1,s2⟩:=hn;exists .inr ⟨p,_,_,rfl,hp,rfl,?_⟩;exists ⟨_,_,rfl,.inr hp,?_⟩;walk_at "w"
  try refine K4 ?_
  exists ⟨n.1,rfl,?_⟩;exists ⟨n.2,rfl,?_⟩;walk_at "w";rw[decide_eq_true (show (1:Int)<=n.2 by lia)];exists ⟨n.1,n.2,rfl,?_⟩;walk_at "w";have e:g n.1 n.2=1:=by unfold g;rw[hg];rfl
  rw[e,decide_eq_true rfl];exact k _ (aA.refl _)
theorem GB:ba ["thing","many"] ["thing","many"] (aH yx):=by walk_at "d"
theorem GJ (T:Txt K mg Z) (ptree:P.given.tree=none):cW P w K mg base iO 3 Z.DT Z.DI ["thing","many"] (vV K):=by
 have D4:=BM (P:=P) (w:=w) (base:=base) T ptree;refine T.wq.F.ok GB (λvs H Q E h=>?_) (λcdv A outer s H vs Q E hr h=>?_)
 ·obtain ⟨p,ns,rfl,_⟩:=h;rfl
 ·obtain ⟨p,ns,rfl,hp,hl,hn,k⟩:=h
  refine ⟨_,(ar (dC (PW.pt (rg (nV (lU (yF rfl T.isinstance PyProof.Rows.boot_list T.list (pv 0)))) (lR (br Am (bO bG (by rfl) T.len bx (aa (pv 0) af)) (pv 1) (bF _))))) (az (bc sO)) bX)
   (az (bc (bO (DO rfl) (by rfl) T.all PyProof.Rows.boot_all (aa (cv ["value"] [] [] (cu (pv 0)) (λ_=>(aO (i:=0) (show ND9 ["value"] by decide +kernel))) (λ_=>cy) (λ_=>(cS D4 hr T.pO (aa (pv 0) af)))) af))))),?_⟩
  refine aW (σ:=[some (.ref p),some (.int ns.length)]) rfl ?_;obtain ⟨xs,gx,qx⟩:=id hp;have lx:=qx.length;exists ⟨_,_,.lst gx,rfl,?_⟩;exists ⟨_,_,rfl,.inl (bP.of gx),?_⟩;walk_at "w";rw[show ((xs.length:Nat):Int)=(ns.length:Nat) by rw[lx],decide_eq_true rfl];exists ⟨⟨_,bP.of gx⟩,?_⟩;refine fN (K:=K) (xs:=xs) (λi ys H'=>aA H H'/\ys=List.replicate i (.bl true)) (aT (bz (by lia))) ⟨aA.refl _,rfl⟩ (λi ys H' _ ⟨s,_⟩=>bP.of (s _ _ gx)) ?_ ?_
  ·rintro i x ys H' hx hlen ⟨s,rfl⟩;obtain ⟨n,en,z⟩:=dG qx hx;exists ⟨x,n,rfl,s.num z,hn n (ak en),λH2 s2=>⟨s.trans s2,by rw[List.replicate_succ']⟩⟩
  ·rintro ys H' hy ⟨s,rfl⟩ l hl';exists ⟨l,List.replicate xs.length true,rfl,bP.of (by rw[aE];simp),?_⟩;have e4:(List.replicate xs.length true).all id=true:=by simp
   rw[e4];exact k _ (s.trans (aA.new hl'))
theorem lN:ba ["things","wide","place","thing"] ["things","wide"] (aH nN):=by walk_at "d"
theorem yJ (T:Txt K mg Z) (ptree:P.given.tree=none):cW P w K mg base iO 4 Z.tm Z.sU ["things","wide"] (Fy K):=by
 have JP:=GJ (P:=P) (w:=w) (base:=base) T ptree;refine T.ig.F.ok lN (λvs H Q E h=>?_) (λcdv A outer s H vs Q E hr h=>?_)
 ·obtain ⟨p,H0,rows,w,rfl,_⟩:=h;rfl
 ·obtain ⟨p,H0,rows,w,rfl,hp,hl,hw,hn,k⟩:=h
  refine ⟨_,(ar (eI PassesOwn.never rfl (Bv rfl T.enumerate (aa (pv 0) af)) (wg rfl (cV (aO (i:=2) lN.nd) (cV (aO (i:=3) lN.nd) kf)))
    (az (dC (nV (lU (cS JP hr T.wq (aa (pv 3) (aa (pv 1) af))))) (az IQ) bX)))
   (az (bc (cv ["row"] [] [] (cu (pv 0)) (λ_=>(aO (i:=0) (show ND9 ["row"] by decide +kernel))) (λ_=>cy) (λ_=>(cZ (sZ K (by rfl)) (by rfl) T.list PyProof.Rows.boot_list (aa (pv 0) af))))))),?_⟩
  refine aW (σ:=[some (.ref p),some (.int w),none,none]) rfl ?_;obtain ⟨xs,gx,qx,_⟩:=id hp;exists ⟨⟨_,bP.of gx⟩,?_⟩;refine DE (K:=K) (l:=p) (xs:=xs) (λi σ' H'=>aA H H'/\∃x y,σ'=[some (.ref p),some (.int w),x,y]) ⟨aA.refl _,none,none,rfl⟩ (λi σ' H' _ ⟨s,_⟩=>bP.of (s _ _ gx)) ?_ ?_
  ·rintro i x σ' H' t hx ⟨s,x1,y1,rfl⟩ ht;obtain ⟨qs,eq,q,rfl,_,Rq⟩:=dG qx hx;have hm:=ak eq;have st:aA H' (upd H' t (.tup [.int i,.ref q])):=aA.new ht;have gt:(upd H' t (.tup [.int i,.ref q])) t=some (.tup [.int i,.ref q]):=aE;have s2:=s.trans st;generalize upd H' t (.tup [.int i,.ref q])=H2 at st gt s2 ⊢;have lq:(qs.map nm).length=w:=by rw[ag];exact (hn qs hm).1
   exists ⟨q,_,by rw[lq],(Rq.same s2).rowK,by rw[lq];exact hw,λn hn'=>?_,λH3 s3=>?_⟩
   ·obtain ⟨y,hy,rfl⟩:=ay.mp hn';exact (hn qs hm).2 y hy
   exists ⟨s2.trans s3,_,_,rfl⟩
  ·rintro σ' H' ⟨s,x1,y1,rfl⟩;exists ⟨⟨_,bP.of (s _ _ gx)⟩,?_⟩;refine dH (K:=K) (F:=iI K H0) (iI K H) id (s _ _ gx) (Paired.imp' (λ_ _ z=>z.same s) qx) hl (λa b=>a.same b) (λa b=>a.same b) ?_ ?_
   ·rintro i ns x H2 NY NN en s2 ⟨u,rfl,_,zs,gz,qz⟩ k1;exists ⟨u,zs,rfl,.inl (bP.of gz),λl1 hl1=>?_⟩;exact k1 _ _ (aA.new hl1) ⟨l1,rfl,s.none (s2.none hl1),zs,aE,Paired.imp' (λ_ _ z=>z.same (aA.new hl1)) qz⟩
   ·rintro ys' H2 r hr s2 g pr nx;rw[List.map_id] at pr nx;exact k r H2 (s.none hr) (s.trans s2) ⟨ys',g,pr,wV nx⟩
theorem tL:ba ["self","move","put","look"] ["self","move","put","look"] (aH d9):=by walk_at "d"
theorem ue (T:Txt K mg Z) (ptree:P.given.tree=none):cW P w K mg base iO 5 Z.jH Z.jD ["self","move","put","look"] (Fv K Z.a_System):=by
 have rR:=BK (P:=P) (w:=w) (base:=base) T ptree;have oC:=yJ (P:=P) (w:=w) (base:=base) T ptree;refine T.mZ.ok tL (λvs H Q E h=>?_) (λcdv A outer s H vs Q E hr h=>?_)
 ·obtain ⟨x,dx,p,q,r,Hb,H0,H1,H2,mv,pt,lk,rfl,_⟩:=h;rfl
 ·obtain ⟨x,dx,p,q,r,Hb,H0,H1,H2,mv,pt,lk,rfl,nx,ndx,nex,rfl,gp,gq,gr,D,om,op,ol,k⟩:=h
  refine ⟨_,(ar (fX (cS rR hr T.jv (aa (pv 1) (aa ai (aa (By (v:=.int 8) rfl T.mg_MOST_STATES ⟨_,rfl⟩) af)))))
   (ar (lV (pv 0) (cS oC hr T.ig (aa (pv 1) (aa (bO bG (by rfl) T.len bx (aa (pv 1) af)) af))) rfl)
   (ar (lV (pv 0) (bO bG (by rfl) T.len bx (aa (fv (pv 0) rfl) af)) rfl)
   (ar (fX (cS rR hr T.jv (aa (pv 2) (aa ai (aa (By (v:=.int 4) rfl T.mg_MOST_PUTS ⟨_,rfl⟩) af)))))
   (ar (lV (pv 0) (cS oC hr T.ig (aa (pv 2) (aa (fv (pv 0) rfl) af))) rfl)
   (ar (lV (pv 0) (bO bG (by rfl) T.len bx (aa (fv (pv 0) rfl) af)) rfl)
   (ar (fX (cS rR hr T.jv (aa (pv 3) (aa ai (aa (By (v:=.int 4) rfl T.mg_MOST_LOOKS ⟨_,rfl⟩) af)))))
   (ar (lV (pv 0) (cS oC hr T.ig (aa (pv 3) (aa (fv (pv 0) rfl) af))) rfl)
   (az (lV (pv 0) (bO bG (by rfl) T.len bx (aa (fv (pv 0) rfl) af)) rfl)))))))))),?_⟩
  refine aW (σ:=[some (.ref x),some (.ref p),some (.ref q),some (.ref r)]) rfl ?_
  have s0:aA Hb (upd (upd Hb dx (.own x)) x (.ins Z.a_System dx [])):=λb o e=>by
   rw[aN (eF e nx),aN (eF e ndx)];exact e
  have hx:(upd (upd Hb dx (.own x)) x (.ins Z.a_System dx [])) x=some (.ins Z.a_System dx []):=aE;have back:∀{b},(upd (upd Hb dx (.own x)) x (.ins Z.a_System dx [])) b=none->Hb b=none:=λh=>s0.none h
  generalize upd (upd Hb dx (.own x)) x (.ins Z.a_System dx [])=Ha at s0 hx back ⊢;obtain ⟨xs,gx,qx,_⟩:=id gp;obtain ⟨ys,gy,qy,_⟩:=id gq;obtain ⟨zs,gz,qz,_⟩:=id gr;have lx:=qx.length;have ly:=qy.length;have lz:=qz.length;have d1:=D.n8;have d2:=D.i4;have d3:=D.o4;exists ⟨p,xs,0,8,rfl,s0 _ _ gx,by lia,?_⟩;exists ⟨_,_,rfl,.inl (bP.of (s0 _ _ gx)),?_⟩;exists ⟨p,H0,mv,mv.length,by rw[lx],gp.same s0,by lia,by lia,λws hw=>⟨D.mw ws hw,om ws hw⟩,λa H3 na s3 Ga=>?_⟩;have hx3:=s3 _ _ hx;exists ⟨x,Z.a_System,dx,_,rfl,hx3,T.cl_System,T.na_move,(by show 0 < 1000;decide),?_⟩;have e3:Cw x H3 (upd H3 x (.ins Z.a_System dx (aX "move" (.ref a) []))):=Cw.upd;have i3:tF H3 x:=⟨_,_,_,hx3⟩;have hx4:(upd H3 x (.ins Z.a_System dx (aX "move" (.ref a) []))) x=some (.ins Z.a_System dx (aX "move" (.ref a) [])):=aE;have Ga4:=Ga.exc e3 i3;have k4:aA Hb (upd H3 x (.ins Z.a_System dx (aX "move" (.ref a) []))):=(s0.trans s3).after nx;generalize upd H3 x (.ins Z.a_System dx (aX "move" (.ref a) []))=H4 at e3 hx4 Ga4 k4 ⊢;exists ⟨x,Z.a_System,dx,_,_,rfl,hx4,T.cl_System,T.na_move,(by rw[aG,if_pos rfl]),?_⟩;obtain ⟨as,ga,qa,_⟩:=id Ga4;have la:=qa.length;exists ⟨_,_,rfl,.inl (bP.of ga),?_⟩;exists ⟨x,Z.a_System,dx,_,rfl,hx4,T.cl_System,T.na_states,bJ dw (by show 1 < 1000;decide),?_⟩;rw[show ((as.length:Nat):Int)=((mv.length:Nat):Int) by rw[la]];have e4:Cw x H4 (upd H4 x (.ins Z.a_System dx (aX "states" (.int mv.length) (aX "move" (.ref a) [])))):=Cw.upd;have i4:tF H4 x:=⟨_,_,_,hx4⟩;have hx5:(upd H4 x (.ins Z.a_System dx (aX "states" (.int mv.length) (aX "move" (.ref a) [])))) x=some (.ins Z.a_System dx (aX "states" (.int mv.length) (aX "move" (.ref a) []))):=aE;have Ga5:=Ga4.exc e4 i4;have k5:aA Hb (upd H4 x (.ins Z.a_System dx (aX "states" (.int mv.length) (aX "move" (.ref a) [])))):=k4.after nx;generalize upd H4 x (.ins Z.a_System dx (aX "states" (.int mv.length) (aX "move" (.ref a) [])))=H5 at e4 hx5 Ga5 k5 ⊢;clear e3 e4 i3 i4 hx4 Ga4 ga qa;exists ⟨q,ys,1,4,rfl,k5 _ _ gy,by lia,?_⟩;exists ⟨x,Z.a_System,dx,_,_,rfl,hx5,T.cl_System,T.na_states,(by rw[aG,if_pos rfl]),?_⟩;exists ⟨q,H1,pt,mv.length,rfl,gq.same k5,by lia,by lia,λws hw=>⟨D.pw ws hw,op ws hw⟩,λb H6 nb s6 Gb=>?_⟩;have hx6:=s6 _ _ hx5;have i6:tF H6 x:=⟨_,_,_,hx6⟩;exists ⟨x,Z.a_System,dx,_,rfl,hx6,T.cl_System,T.na_put,bJ dw (bJ (dX dw) (by show 2 < 1000;decide)),?_⟩;have e6:Cw x H6 (upd H6 x (.ins Z.a_System dx (aX "put" (.ref b) (aX "states" (.int mv.length) (aX "move" (.ref a) []))))):=Cw.upd;have hx7:(upd H6 x (.ins Z.a_System dx (aX "put" (.ref b) (aX "states" (.int mv.length) (aX "move" (.ref a) []))))) x=some (.ins Z.a_System dx (aX "put" (.ref b) (aX "states" (.int mv.length) (aX "move" (.ref a) [])))):=aE;have Ga7:=(Ga5.same s6).exc e6 i6;have Gb7:=(Gb.weak k5).exc e6 i6;have k7:aA Hb (upd H6 x (.ins Z.a_System dx (aX "put" (.ref b) (aX "states" (.int mv.length) (aX "move" (.ref a) []))))):=(k5.trans s6).after nx;generalize upd H6 x (.ins Z.a_System dx (aX "put" (.ref b) (aX "states" (.int mv.length) (aX "move" (.ref a) []))))=H7 at e6 hx7 Ga7 Gb7 k7 ⊢;obtain ⟨bs,gb,qb,_⟩:=id Gb7;have lb:=qb.length;exists ⟨x,Z.a_System,dx,_,_,rfl,hx7,T.cl_System,T.na_put,(by rw[aG,if_pos rfl]),?_⟩;exists ⟨_,_,rfl,.inl (bP.of gb),?_⟩;exists ⟨x,Z.a_System,dx,_,rfl,hx7,T.cl_System,T.na_ins,bJ dw (bJ (dX (aj dw (dX dw))) (by show 3 < 1000;decide)),?_⟩;rw[show ((bs.length:Nat):Int)=((pt.length:Nat):Int) by rw[lb]];have i7:tF H7 x:=⟨_,_,_,hx7⟩;have e7:Cw x H7 (upd H7 x (.ins Z.a_System dx (aX "ins" (.int pt.length) (aX "put" (.ref b) (aX "states" (.int mv.length) (aX "move" (.ref a) [])))))):=Cw.upd;have hx8:(upd H7 x (.ins Z.a_System dx (aX "ins" (.int pt.length) (aX "put" (.ref b) (aX "states" (.int mv.length) (aX "move" (.ref a) [])))))) x=some (.ins Z.a_System dx (aX "ins" (.int pt.length) (aX "put" (.ref b) (aX "states" (.int mv.length) (aX "move" (.ref a) []))))):=aE;have Ga8:=Ga7.exc e7 i7;have Gb8:=Gb7.exc e7 i7;have k8:aA Hb (upd H7 x (.ins Z.a_System dx (aX "ins" (.int pt.length) (aX "put" (.ref b) (aX "states" (.int mv.length) (aX "move" (.ref a) [])))))):=k7.after nx;generalize upd H7 x (.ins Z.a_System dx (aX "ins" (.int pt.length) (aX "put" (.ref b) (aX "states" (.int mv.length) (aX "move" (.ref a) [])))))=H8 at e7 hx8 Ga8 Gb8 k8 ⊢;clear e6 e7 i6 i7 hx7 Ga7 Gb7 gb qb;exists ⟨r,zs,2,4,rfl,k8 _ _ gz,by lia,?_⟩;exists ⟨x,Z.a_System,dx,_,_,rfl,hx8,T.cl_System,T.na_states,(by rw[aG,if_neg (by decide +kernel),aG,if_neg (by decide +kernel),aG,if_pos rfl]),?_⟩;exists ⟨r,H2,lk,mv.length,rfl,gr.same k8,by lia,by lia,λws hw=>⟨D.lw ws hw,ol ws hw⟩,λc H9 nc s9 Gc=>?_⟩;have hx9:=s9 _ _ hx8;have i9:tF H9 x:=⟨_,_,_,hx9⟩;exists ⟨x,Z.a_System,dx,_,rfl,hx9,T.cl_System,T.na_look,bJ dw (bJ (dX (aj dw (dX (aj dw (dX dw))))) (by show 4 < 1000;decide)),?_⟩;have e9:Cw x H9 (upd H9 x (.ins Z.a_System dx (aX "look" (.ref c) (aX "ins" (.int pt.length) (aX "put" (.ref b) (aX "states" (.int mv.length) (aX "move" (.ref a) []))))))):=Cw.upd;have hxA:(upd H9 x (.ins Z.a_System dx (aX "look" (.ref c) (aX "ins" (.int pt.length) (aX "put" (.ref b) (aX "states" (.int mv.length) (aX "move" (.ref a) []))))))) x=some (.ins Z.a_System dx (aX "look" (.ref c) (aX "ins" (.int pt.length) (aX "put" (.ref b) (aX "states" (.int mv.length) (aX "move" (.ref a) [])))))):=aE;have GaA:=(Ga8.same s9).exc e9 i9;have GbA:=(Gb8.same s9).exc e9 i9;have GcA:=(Gc.weak k8).exc e9 i9;have kA:aA Hb (upd H9 x (.ins Z.a_System dx (aX "look" (.ref c) (aX "ins" (.int pt.length) (aX "put" (.ref b) (aX "states" (.int mv.length) (aX "move" (.ref a) []))))))):=(k8.trans s9).after nx;generalize upd H9 x (.ins Z.a_System dx (aX "look" (.ref c) (aX "ins" (.int pt.length) (aX "put" (.ref b) (aX "states" (.int mv.length) (aX "move" (.ref a) []))))))=HA at e9 hxA GaA GbA GcA kA ⊢;obtain ⟨cs,gc,qc,_⟩:=id GcA;have lc:=qc.length;exists ⟨x,Z.a_System,dx,_,_,rfl,hxA,T.cl_System,T.na_look,(by rw[aG,if_pos rfl]),?_⟩;exists ⟨_,_,rfl,.inl (bP.of gc),?_⟩;exists ⟨x,Z.a_System,dx,_,rfl,hxA,T.cl_System,T.na_outs,bJ dw (bJ (dX (aj dw (dX (aj dw (dX (aj dw (dX dw))))))) (by show 5 < 1000;decide)),?_⟩;rw[show ((cs.length:Nat):Int)=((lk.length:Nat):Int) by rw[lc]];have iA:tF HA x:=⟨_,_,_,hxA⟩;exact k _ (kA.after nx) ⟨dx,a,b,c,aE,back na,k5.none nb,k8.none nc,(GaA.exc Cw.upd iA).weak s0,GbA.exc Cw.upd iA,GcA.exc Cw.upd iA⟩
theorem yu:ba ["_law_grid"] ["_law_grid"] (aH nR):=by walk_at "d"
theorem yM (T:Txt K mg Z) (ptree:P.given.tree=none):cW P w K mg base iO 1 Z.tD Z.sY ["_law_grid"] (yp K):=by
 refine T.ik.F.ok yu (λvs H Q E h=>?_) (λcdv A outer s H vs Q E hr h=>?_)
 ·obtain ⟨p,H0,rows,rfl,_⟩:=h;rfl
 ·obtain ⟨p,H0,rows,rfl,hp,hl,hm,k⟩:=h;refine ⟨_,(az (bc (cv ["_law_row_here"] [] [] (cu (pv 0)) (λ_=>(aO (i:=0) (show ND9 ["_law_row_here"] by decide +kernel))) (λ_=>cy) (λ_=>(cZ (sZ K (by rfl)) (by rfl) T.list PyProof.Rows.boot_list (aa (pv 0) af)))))),?_⟩;refine aW (σ:=[some (.ref p)]) rfl ?_;obtain ⟨xs,gx,qx,_⟩:=id hp;exists ⟨⟨_,bP.of gx⟩,?_⟩;refine dH (K:=K) (F:=iI K H0) (iI K H) id gx qx hl (λa b=>a.same b) (λa b=>a.same b) ?_ ?_
  ·rintro i ns x H' NY NN en s ⟨u,rfl,_,zs,gz,qz⟩ k1;exists ⟨u,zs,rfl,.inl (bP.of gz),λl1 hl1=>?_⟩;exact k1 _ _ (aA.new hl1) ⟨l1,rfl,s.none hl1,zs,aE,Paired.imp' (λ_ _ z=>z.same (aA.new hl1)) qz⟩
  ·rintro ys' H' r hr s g pr nx;rw[List.map_id] at pr nx;exact k r H' hr s ⟨ys',g,pr,wV nx⟩
theorem Bn:ba ["_law_parts_here"] ["_law_parts_here"] (aH qZ):=by walk_at "d"
theorem BP (T:Txt K mg Z) (ptree:P.given.tree=none):cW P w K mg base iO 7 Z.xD Z.xl ["_law_parts_here"] (ym K Z.a_System):=by
 have vL:=ue (P:=P) (w:=w) (base:=base) T ptree;have oF:=yM (P:=P) (w:=w) (base:=base) T ptree;refine T.pR.F.ok Bn (λvs H Q E h=>?_) (λcdv A outer s H vs Q E hr h=>?_)
 ·obtain ⟨r,H0,mv,pt,lk,rfl,_⟩:=h;rfl
 ·obtain ⟨r,H0,mv,pt,lk,rfl,PQ,D,F,k⟩:=h;refine ⟨_,(az (bc (Bw T.mk_System vL (hr.mono (by decide)) rfl T.mg_System T.mV .nil jM (aa (cS oF hr T.ik (aa (aR bT (pv 0) ai) af)) (aa (cS oF hr T.ik (aa (aR bT (pv 0) ai) af)) (aa (cS oF hr T.ik (aa (aR bT (pv 0) ai) af)) af)))))),?_⟩;refine aW (σ:=[some (.ref r)]) rfl ?_;obtain ⟨m,p,l,g,n1,n2,n3,Gm,Gp,Gl⟩:=id PQ;have d1:=D.n8;have d2:=D.i4;have d3:=D.o4;exists ⟨m,H0,mv,rfl,Gm,by lia,λxs hx=>by rw[D.mw xs hx];lia,λa H1 na s1 Ga=>?_⟩;have g1:=s1 _ _ g;exists ⟨p,H0,pt,rfl,Gp.same s1,by lia,λxs hx=>by rw[D.pw xs hx];lia,λb H2 nb s2 Gb=>?_⟩;have s12:=s1.trans s2;have g2:=s12 _ _ g;exists ⟨l,H0,lk,rfl,Gl.same s12,by lia,λxs hx=>by rw[D.lw xs hx];lia,λc H3 nc s3 Gc=>?_⟩;have s13:=s12.trans s3;walk_at "w";intro x dx nx ndx nex;exact ⟨x,dx,a,b,c,H3,H,H1,H2,mv,pt,lk,rfl,nx,ndx,nex,rfl,(Ga.same s2).same s3,Gb.same s3,Gc,D,F.ok.1,F.ok.2.1,F.ok.2.2,λH' s' S'=>⟨rfl,k x H' (s13.none nx) (s13.trans s') (S'.weak s13)⟩⟩
theorem gG:ba ["_law_bag_here","_law_many","_law_begin","_law_found","_law_wide","_law_k"] ["_law_bag_here","_law_many","_law_begin"] (aH lQ):=by walk_at "d"
theorem xM (T:Txt K mg Z) (ptree:P.given.tree=none):cW P w K mg base iO 2 Z.rO Z.rL ["_law_bag_here","_law_many","_law_begin"] (Fo K):=by
 have aI:=dF (P:=P) (w:=w) (base:=base) T ptree;have fF:=kE (P:=P) (w:=w) (base:=base) T ptree;refine T.gH.F.ok gG (λvs H Q E h=>?_) (λcdv A outer s H vs Q E hr h=>?_)
 ·obtain ⟨b,m,be,rfl,_⟩:=h;rfl
 ·obtain ⟨b,m,be,rfl,hB,hm,hbe,k⟩:=h
  refine ⟨_,(ar (aV (i:=3) gG.nd rfl (Or.inl rfl) (dN af))
   (ar (aV (i:=4) gG.nd rfl (Or.inl rfl) (aR bf (dN (aa ai (aa ai (aa ai (aa ai af))))) (cS aI hr T.aK (aa (pv 0) (aa ai af)))))
   (ar (eI PassesOwn.never rfl (cG rfl T.range (aa (pv 1) af)) (aO (i:=5) gG.nd)
    (az (dC (br fy (cS aI hr T.aK (aa (pv 0) (aa ai af))) ai (bF _)) (az (fX (rh bZ cn cm gM (pv 3) (aa (cK (aa ai (aa ai af))) af)))) (az (fX (rh bZ cn cm gM (pv 3) (aa (cS fF hr T.fR (aa (bw fw (pv 2) (cS aI hr T.aK (aa (pv 0) (aa (pv 4) af)))) (aa (bw fw ai (cS aI hr T.aK (aa (pv 0) (aa (bw (fM rfl gG rfl rfl rfl ptree (oK hr)) (pv 4) ai) af)))) af))) af)))))))
   (az (bc (pv 3)))))),?_⟩
  refine aW (σ:=[some (.ref b),some (.int m),some (.int be),none,none,none]) rfl ?_;exists cY λf H1 s1 n1 g1=>?_
  exists cY λl0 H2 s2 n2 g2=>?_
  have B2:=(hB.same s1).same s2;exists ⟨b,4,rfl,B2,by decide,by decide,λv H3 v0 v1 B3 u3=>?_⟩;have fb:f≠b:=λz=>hB.at (by rw[<- z];exact n1)
  have g3:=u3.other (λz=>(hB.same s1).at (by rw[<- z];exact n2)) g2;have gf:=u3.other fb (s2 _ _ g1);obtain ⟨x,ex,mx,_⟩:=jG (xs:=[V.int 9,V.int 9,V.int 9,V.int 1000]) v0 (by simpa using v1)
  obtain ⟨w,rfl,hw⟩:∃w:Nat,x=.int w/\(w=9\/w=1000):=by
   simp only[aF,aQ,or_false] at mx;rcases mx with rfl | rfl | rfl | rfl
   ·exact ⟨9,rfl,.inl rfl⟩
   ·exact ⟨9,rfl,.inl rfl⟩
   ·exact ⟨9,rfl,.inl rfl⟩
   ·exact ⟨1000,rfl,.inr rfl⟩
  obtain ⟨q0,I0,xs0,gq0⟩:=hB.inner;have fq:f≠q0:=λz=>by rw[<- z,n1] at gq0;cases gq0
  have u03:cz b H H3:=((s1.trans s2).upto (p:=b)).trans u3;have I3:Inner H3 b q0:=u03.2 _ I0;exists cO (bP.of g3) ex ?_;exists ⟨by lia,by lia,?_⟩;refine fh (n:=m) (λi σ' H'=>∃(y:Option V) (us:List V) (ws:List Rat),σ'=[some (.ref b),some (.int m),some (.int be),some (.ref f),some (.int w),y]/\H' f=some (.lst us)/\Paired (b6 K H') ws us/\ws.length=i/\(∀z∈ws,(0<=z/\(0 < be->0 < z))/\Dr 1000 z)/\fP H' b/\Inner H' b q0/\cz b H H') ⟨none,[],[],rfl,gf,.nil,rfl,(λ_ z=>nomatch z),B3,I3,u03⟩ ?_ ?_
  ·rintro i σ' H' hi ⟨y,us,ws,rfl,gu,pr,lw,hd,B',I',u'⟩;have lu:=pr.length
   have fin:∀(t:V) (z:Rat) (H5:Hp),fP H5 b->cz b H' H5->b6 K H5 z t->(0<=z/\(0 < be->0 < z))/\Dr 1000 z->H5 f=some (.lst us)/\us.length < sizeLine/\∃(y:Option V) (us':List V) (ws':List Rat),[some (V.ref b),some (.int m),some (.int be),some (.ref f),some (.int w),some (.int i)]=[some (.ref b),some (.int m),some (.int be),some (.ref f),some (.int w),y]/\(upd H5 f (.lst (us++[t]))) f=some (.lst us')/\Paired (b6 K (upd H5 f (.lst (us++[t])))) ws' us'/\ws'.length=i+1/\(∀z∈ws',(0<=z/\(0 < be->0 < z))/\Dr 1000 z)/\fP (upd H5 f (.lst (us++[t]))) b/\Inner (upd H5 f (.lst (us++[t]))) b q0/\cz b H (upd H5 f (.lst (us++[t]))):=λt z H5 B5 u5 nz dz=>by
    have g5:=u5.other fb gu;have I5:=u5.2 _ I';refine ⟨g5,bz (by lia),_,_,ws++[z],rfl,aE,cb (Paired.imp' (λ_ _ y=>(y.upto u5 B').updL g5) pr) (.cons (nz.updL g5) .nil),by simp [lw],ye hd dz,B5.upd I5 fb fq,I5.upd fb,(u'.trans u5).after n1⟩
   exists ⟨b,2,rfl,B',by decide,by decide,λc Ha c0 c1 Ba ua=>?_⟩;exists ia (λh0=>?_) (λh0=>?_)
   ·exists ⟨.inl ⟨rfl,_,bP.of (ua.other fb gu)⟩,?_⟩;exists bU λt Hb sb gt=>?_
    obtain ⟨e1,e2,e3⟩:=fin (.ref t) 1 Hb (Ba.same sb) (ua.same sb) (b6.mk gt rfl) ⟨⟨by decide,λ_=>by decide⟩,by decide,by decide⟩;exists gL e1 e2 ?_;exact e3
   ·exists ⟨.inl ⟨rfl,_,bP.of (ua.other fb gu)⟩,?_⟩;exists ⟨b,_,rfl,Ba,by lia,by lia,λt Hb t0 t1 Bb ub=>?_⟩;exists fG (show nk _ _ from ⟨by decide,by show (2:Nat) < 2^4499500;exact a9 (show 2 < 2^2 by decide) (av (by decide) (by decide))⟩) ?_;rw[bE _ (by decide)];exists ⟨b,_,rfl,Bb,by lia,by lia,λd Hc d0 d1 Bc uc=>?_⟩;exists ⟨_,_,rfl,by lia,(Ej (by lia)).mono (by decide),λr Hd sd gd=>?_⟩;obtain ⟨z,ez,dz,ze⟩:=EL (t:=be+t) (b:=1+d) (W:=1000) (by lia) (by lia) (by lia);obtain ⟨e1,e2,e3⟩:=fin (.ref r) z Hd (Bc.same sd) (((ua.trans ub).trans uc).same sd) (b6.mk gd ez) ⟨⟨Pe ze (by lia) (by lia),λ_=>IS ze (by lia) (by lia)⟩,dz⟩;exists gL e1 e2 ?_;exact e3
  ·rintro σ' H' ⟨y,us,ws,rfl,gu,pr,lw,hd,B',I',u'⟩;exists k f ws H' n1 ⟨us,gu,pr⟩ lw hd B' u'
theorem sN:ba ["_law_bag_here","_law_parts_here","_law_n"] ["_law_bag_here","_law_parts_here"] (aH pe):=by walk_at "d"
theorem zU (T:Txt K mg Z) (ptree:P.given.tree=none):cW P w K mg base iO 3 Z.vG Z.vp ["_law_bag_here","_law_parts_here"] (CU K):=by
 have mh:=xM (P:=P) (w:=w) (base:=base) T ptree;refine T.oh.F.ok sN (λvs H Q E h=>?_) (λcdv A outer s H vs Q E hr h=>?_)
 ·obtain ⟨b,r,H0,mv,pt,lk,rfl,_⟩:=h;rfl
 ·obtain ⟨b,r,H0,mv,pt,lk,rfl,B,nb,P,D,k⟩:=h
  refine ⟨_,(ar (aV (i:=2) sN.nd rfl (Or.inl rfl) (bO bG (by rfl) T.len bx (aa (aR bT (pv 1) ai) af)))
   (az (bc (dN (aa (cS mh hr T.gH (aa (pv 0) (aa (pv 2) (aa ai af)))) (aa (cS mh hr T.gH (aa (pv 0) (aa (bO bG (by rfl) T.len bx (aa (aR bT (pv 1) ai) af)) (aa ai af)))) (aa (cS mh hr T.gH (aa (pv 0) (aa (pv 2) (aa ai af)))) af))))))),?_⟩
  refine aW (σ:=[some (.ref b),some (.ref r),none]) rfl ?_;have d8:=D.n8;have i4:=D.i4;obtain ⟨m,p,l,gt,mn,pn,ln,Gm,Gp,Gl⟩:=id P;obtain ⟨um,gm,qm,_⟩:=id Gm;have lum:=qm.length;exists ⟨_,_,rfl,.inl (bP.of gm),?_⟩;rw[<- lum];clear gm qm lum Gm Gp Gl gt mn pn ln;exists ⟨b,mv.length,0,rfl,B,by lia,by lia,λa1 qs H1 n1 R1 l1 w1 B1 u1=>?_⟩;obtain ⟨m,p,l,gt,mn,pn,ln,Gm,Gp,Gl⟩:=P.upto u1 B nb;obtain ⟨up,gp,qp,_⟩:=id Gp;have lup:=qp.length;exists ⟨_,_,rfl,.inl (bP.of gp),?_⟩;rw[<- lup];clear gp qp lup Gm Gp Gl gt mn pn ln;exists ⟨b,pt.length,1,rfl,B1,by lia,by lia,λa2 rs H2 n2 R2 l2 w2 B2 u2=>?_⟩;exists ⟨b,mv.length,0,rfl,B2,by lia,by lia,λa3 fs H3 n3 R3 l3 w3 B3 u3=>?_⟩;exists cY λl4 H4 s4 n4 g4=>?_
  have bH:=B.at;have u12:=u1.trans u2;have u03:=u12.trans u3;have e2:=u1.none B1 n2;have e3:=u12.none B2 n3;have e4:=u03.none B3 n4;have a1b:a1≠b:=λz=>bH (by rw[<- z];exact n1)
  have a2b:a2≠b:=λz=>bH (by rw[<- z];exact e2)
  exact k l4 a1 a2 a3 qs rs fs H4 e4 n1 e2 e3 g4 (((R1.upto u2 B1 a1b).upto u3 B2 a1b).same s4) ((R2.upto u3 B2 a2b).same s4) (R3.same s4) ⟨l1,l2,l3,λw h=>⟨(w1 w h).1.1,(w1 w h).2⟩,λw h=>⟨(w2 w h).1.2 (by decide),(w2 w h).2⟩,λw h=>⟨(w3 w h).1.1,(w3 w h).2⟩⟩ (B3.same s4) (u03.same s4)
theorem fg:ba ["wholes","multiple","whole"] ["wholes"] (aH ju):=by walk_at "d"
theorem tY (T:Txt K mg Z) (ptree:P.given.tree=none):cW P w K mg base iO 2 Z.mX Z.mT ["wholes"] (Ip K):=by
 have dS:=gU (P:=P) (w:=w) (base:=base) T ptree;refine T.i8.F.ok fg (λvs H Q E h=>?_) (λcdv A outer s H vs Q E hr h=>?_)
 ·obtain ⟨p,bs,M,rfl,_⟩:=h;rfl
 ·obtain ⟨p,bs,M,rfl,hp,hM,sM,hb,q⟩:=h
  refine ⟨_,(ar (aV (i:=1) fg.nd rfl (Or.inl rfl) ai)
   (ar (eI PassesOwn.never rfl (cu (pv 0)) (aO (i:=2) fg.nd)
    (az (aV (i:=1) fg.nd rfl (Or.inl rfl) (bw dc (pv 1) (bw (fM rfl fg rfl rfl rfl ptree (oK hr)) (pv 2) (cS dS hr T.eo (aa (pv 1) (aa (pv 2) af))))))))
   (az (bc (pv 1))))),?_⟩
  refine aW (σ:=[some (.ref p),none,none]) rfl ?_;exists ⟨⟨_,hp⟩,?_⟩;refine iR (K:=K) (a:=p) (xs:=bs.map V.int) (λi σ' H'=>H'=H/\∃x,σ'=[some (.ref p),some (.int (wu (bs.take i) 1)),x]) ⟨rfl,none,rfl⟩ (λi σ' H' _ ⟨e,_⟩=>by subst e;exact hp) ?_ ?_
  ·rintro i x σ' H' hx ⟨rfl,y,rfl⟩;rw[aB] at hx
   obtain ⟨b,eb,rfl⟩:∃b,bs[i]?=some b/\x=.int b:=by
    cases e:bs[i]? with
    | none=>rw[e] at hx;cases hx
    | some b=>rw[e] at hx;cases hx;exact ⟨b,rfl,rfl⟩
   have b1:=hb b (ak eb);have sb:Sz 2200000 b:=Cb hM b1.2 sM;have ht:∀c∈bs.take i,0 < c/\c∣M:=λc hc=>hb c (di hc)
   have msz:Sz 2200000 (wu (bs.take i) 1):=Cb hM (ya (by decide) (Int.one_dvd _) ht) sM;generalize hm:wu (bs.take i) 1=m at msz ⊢;have gp:0 < g m b:=yV (by lia);exists ⟨m,b,rfl,?_⟩;exists fG (show nk _ _ from ⟨by lia,(Qx b1.1 sb).mono (by decide)⟩) ?_;rw[bE _ (by lia)];exists fG (show gX _ _ from .inr ⟨_,_,msz,sb.hi (t:=m) (by lia),by decide⟩) ?_;exists ⟨rfl,_,by rw[take_snoc eb,Ap,hm];rfl⟩
  ·rintro σ' H' ⟨rfl,y,rfl⟩;walk_at "w";rw[aJ (by simp)];exact q
theorem vW:ba ["row"] ["row"] (aH kO):=by walk_at "d"
theorem iB (T:Txt K mg Z) (ptree:P.given.tree=none):cW P w K mg base iO 3 Z.qq Z.qo ["row"] (Iq K):=by
 have vK:=tY (P:=P) (w:=w) (base:=base) T ptree;refine T.dR.F.ok vW (λvs H Q E h=>?_) (λcdv A outer s H vs Q E hr h=>?_)
 ·obtain ⟨p,ns,M,rfl,_⟩:=h;rfl
 ·obtain ⟨p,ns,M,rfl,hp,hl,hz,q⟩:=h;refine ⟨_,(az (bc (cS vK hr T.i8 (aa (cv ["value"] [] [] (cu (pv 0)) (λ_=>(aO (i:=0) (show ND9 ["value"] by decide +kernel))) (λ_=>cy) (λ_=>(aR (iT K (by rfl)) (pv 0) ai))) af)))),?_⟩;refine aW (σ:=[some (.ref p)]) rfl ?_;obtain ⟨xs,gx,qx⟩:=id hp;have lx:=qx.length;exists ⟨⟨_,bP.of gx⟩,?_⟩;refine fN (K:=K) (xs:=xs) (λi ys H'=>H'=H/\ys=((ns.take i).map (·.2)).map V.int) (aT (bz (by lia))) ⟨rfl,rfl⟩ (λi ys H' _ ⟨e,_⟩=>by subst e;exact bP.of gx) ?_ ?_
  ·rintro i x ys H' hx hlen ⟨rfl,rfl⟩;obtain ⟨n,en,r,rfl,hr1⟩:=dG qx hx;exists ⟨rfl,by rw[take_snoc en];simp⟩
  ·rintro ys H' hy ⟨rfl,rfl⟩ l hl';exists ⟨l,ns.map (·.2),M,rfl,bP.of (by rw[aE,aJ (by lia)]),hz.1,hz.2.1,λb hb=>?_,?_⟩
   ·obtain ⟨n,hn,rfl⟩:=ay.mp hb;exact ⟨(hz.2.2 n hn).1,(hz.2.2 n hn).2.1⟩
   ·exact q _ (aA.new hl')
theorem uB:ba ["row","bottom"] ["row","bottom"] (aH qP):=by walk_at "d"
theorem kW (T:Txt K mg Z) (ptree:P.given.tree=none):cW P w K mg base iO 1 Z.xr Z.w5 ["row","bottom"] (CO K):=by
 refine T.fY.F.ok uB (λvs H Q E h=>?_) (λcdv A outer s H vs Q E hr h=>?_)
 ·obtain ⟨p,ns,M,B,rfl,_⟩:=h;rfl
 ·obtain ⟨p,ns,M,B,rfl,hp,hl,hz,hB,sB,q⟩:=h;refine ⟨_,(az (bc (cv ["value"] ["bottom"] [1] (cu (pv 0)) (λ_=>(aO (i:=0) (show ND9 ["value","bottom"] by decide +kernel))) (λ_=>cy) (λ_=>(bw dc (aR (iT K (by rfl)) (pv 0) ai) (bw (fM rfl uB rfl rfl rfl ptree (oK hr)) (pv 1) (aR (iT K (by rfl)) (pv 0) ai))))))),?_⟩;refine aW (σ:=[some (.ref p),some (.int B)]) rfl ?_;obtain ⟨xs,gx,qx⟩:=id hp;have lx:=qx.length;exists ⟨⟨_,bP.of gx⟩,?_⟩;refine fN (K:=K) (xs:=xs) (λi ys H'=>H'=H/\ys=(ck (ns.take i) B).map V.int) (aT (bz (by lia))) ⟨rfl,rfl⟩ (λi ys H' _ ⟨e,_⟩=>by subst e;exact bP.of gx) ?_ ?_
  ·rintro i x ys H' hx hlen ⟨rfl,rfl⟩;obtain ⟨n,en,r,rfl,hr1⟩:=dG qx hx;have nz:=hz.2.2 n (ak en);have sn:Sz 2200000 n.2:=Cb hz.1 nz.2.1 hz.2.1;exists fG (show nk _ _ from ⟨by lia,sn.mono (by decide)⟩) ?_;rw[bE _ (by lia)]
   have sq:Sz 2200000 (B / n.2):=sB.le (by
    rw[Ou (by lia)];exact Nat.div_le_self ..)
   exists fG (show gX _ _ from .inr ⟨_,_,nz.2.2,sq,by decide⟩) ?_;exact ⟨rfl,by rw[take_snoc en];simp [ck]⟩
  ·rintro ys H' hy ⟨rfl,rfl⟩ l hl';exact q l _ hl' (aA.new hl') (by rw[aE,aJ (by lia)])
theorem o7:ba ["row","bottom","tops"] ["row"] (aH qR):=by walk_at "d"
theorem uR (T:Txt K mg Z) (ptree:P.given.tree=none):cW P w K mg base iO 4 Z.xu Z.xc ["row"] (Im K):=by
 have dJ:=iB (P:=P) (w:=w) (base:=base) T ptree;have fU:=kW (P:=P) (w:=w) (base:=base) T ptree;refine T.kX.F.ok o7 (λvs H Q E h=>?_) (λcdv A outer s H vs Q E hr h=>?_)
 ·obtain ⟨p,xs,M,rfl,_⟩:=h;rfl
 ·obtain ⟨p,xs,M,rfl,R,x20,hM,k⟩:=h
  refine ⟨_,(ar (aV (i:=1) o7.nd rfl (Or.inl rfl) (cS dJ hr T.dR (aa (pv 0) af)))
   (ar (aV (i:=2) o7.nd rfl (Or.inr rfl) (cS fU hr T.fY (aa (pv 0) (aa (pv 1) af))))
   (az (bc (cK (aa (cv ["place"] ["tops"] [2] (cG rfl T.range (aa (bO bG (by rfl) T.len bx (aa (pv 2) af)) af)) (λ_=>(aO (i:=0) (show ND9 ["place","tops"] by decide +kernel) rfl (Or.inr rfl) (Or.inl rfl))) (λ_=>cy) (λ_=>(cv ["at","top"] ["place"] [0] (IU K rfl T.enumerate (aa (pv 1) af)) (λ_=>(uN K 2 (cV (aO (i:=0) (show ND9 ["at","top","place"] by decide +kernel)) (cV (aO (i:=1) (show ND9 ["at","top","place"] by decide +kernel)) kf)))) (λ_=>cy) (λ_=>(IW (br fy (pv 0) (pv 2) (bF _)) (pv 1) ai))))) (aa (pv 1) af))))))),?_⟩
  refine aW (σ:=[some (.ref p),none,none]) rfl ?_;obtain ⟨c0,sc⟩:=hM.bot;have lm:(xs.map nm).length=xs.length:=ag ..;exists ⟨p,xs.map nm,M,rfl,R.rowK,by lia,hM,λH1 t1=>?_⟩;exists ⟨p,xs.map nm,M,_,rfl,(R.same t1).rowK,by lia,hM,c0,sc,λr2 H2 n2 t2 g2=>?_⟩;have t02:=t1.trans t2;generalize hz:ck (xs.map nm) (cM (xs.map nm))=zs at g2;have lz:zs.length=xs.length:=by rw[<- hz];unfold ck;rw[ag,lm]
  exists ⟨_,_,rfl,.inl (bP.of g2),?_⟩;rw[ag];exists ⟨by lia,by lia,?_⟩;refine j5 (n:=zs.length) (z6 H) (λi=>(List.range zs.length).map λj=>if j=i then zs.getD j 0 else 0) (by lia) (λa b=>a.same b) ?_ ?_
  ·rintro i Hb NY NN hi sa k1;have g2b:=sa _ _ g2;exists ⟨⟨_,bP.of g2b⟩,?_⟩;refine G9 (K:=K) (xs:=zs.map V.int) (λj ys H'=>aA Hb H'/\ys=(((List.range zs.length).map λj=>if j=i then zs.getD j 0 else 0).take j).map V.int) (aT (bz (by rw[ag];lia))) ⟨aA.refl _,rfl⟩ (λi ys H' _ ⟨s,_⟩=>bP.of (s _ _ g2b)) ?_ ?_
   ·rintro j w ys3 H3 r3 hw hl3 ⟨s3,rfl⟩ hr3;rw[aB] at hw;obtain ⟨z,ez,rfl⟩:=iW.mp hw;have jl:=(aY.mp ez).1;have sr:aA H3 (upd H3 r3 (.tup [.int j,.int z])):=aA.new hr3;have gr:(upd H3 r3 (.tup [.int j,.int z])) r3=some (.tup [.int j,.int z]):=aE;generalize upd H3 r3 (.tup [.int j,.int z])=H4 at sr gr ⊢;have e1:zs.getD j 0=z:=by rw[ae,ez];rfl
    have ee:((List.range zs.length).map λj=>if j=i then zs.getD j 0 else 0)[j]?=some (if j=i then z else 0):=by rw[aB,c8 jl];show some (if j=i then zs.getD j 0 else 0)=_;rw[e1]
    exists ia (λhq=>?_) (λhq=>?_)
    ·have hq:=of_decide_eq_true hq;exists ⟨s3.trans sr,by rw[take_snoc ee,cD,if_pos (by lia)];rfl⟩
    ·have hq:¬((j:Int)=(i:Int)):=λz=>hq (decide_eq_true z)
     exists ⟨s3.trans sr,by rw[take_snoc ee,cD,if_neg (by lia)];rfl⟩
   rintro ys3 H3 hy ⟨s3,rfl⟩ l hl;exact k1 _ _ (s3.trans (aA.new hl)) ⟨l,rfl,t02.none (sa.none (s3.none hl)),by rw[aE,aJ (by rw[ag,ag,bS];exact au _)]⟩
  rintro ys H3 r nr s3 g3 pr _;exists bU λt4 H4 s4 g4=>?_
  refine k t4 r H4 g4 ((t02.trans s3).trans s4) ?_;rw[hz];exact Ec.same ⟨t02.none nr,ys,g3,pr⟩ s4
theorem uF:ba ["self","system","state_weights","put_weights","last_weights"] ["self","system","state_weights","put_weights","last_weights"] (aH eX):=by walk_at "d"
theorem uW (T:Txt K mg Z) (ptree:P.given.tree=none):cW P w K mg base iO 5 Z.j8 Z.j4 ["self","system","state_weights","put_weights","last_weights"] (Fz K Z.a_System Z.a_Costs):=by
 have rS:=uR (P:=P) (w:=w) (base:=base) T ptree;refine T.o3.ok uF (λvs H Q E h=>?_) (λcdv A outer s H vs Q E hr h=>?_)
 ·obtain ⟨A9,x,dx,sy,b1,b2,b3,Hb,H0,mv,pt,lk,qs,rs,fs,M,rfl,_⟩:=h;rfl
 ·obtain ⟨A9,x,dx,sy,b1,b2,b3,Hb,H0,mv,pt,lk,qs,rs,fs,M,rfl,nx,ndx,nex,rfl,LA,S,R1,R2,R3,f20,hM,k⟩:=h
  refine ⟨_,(ar (lV (pv 0) (pv 1) rfl)
   (ar (lV (pv 0) (cZ c5 (by rfl) T.list PyProof.Rows.boot_list (aa (pv 2) af)) rfl)
   (ar (lV (pv 0) (cZ c5 (by rfl) T.list PyProof.Rows.boot_list (aa (pv 3) af)) rfl)
   (ar (lV (pv 0) (cZ c5 (by rfl) T.list PyProof.Rows.boot_list (aa (pv 4) af)) rfl)
   (az (lV (pv 0) (dN (aa (cK (aa (cS rS hr T.kX (aa (fv (pv 0) rfl) af)) (aa (cK (aa (dN af) (aa ai af))) af))) af)) rfl)))))),?_⟩
  refine aW (σ:=[some (.ref x),some (.ref sy),some (.ref b1),some (.ref b2),some (.ref b3)]) rfl ?_
  have s0:aA Hb (upd (upd Hb dx (.own x)) x (.ins Z.a_Costs dx [])):=λb o e=>by
   rw[aN (eF e nx),aN (eF e ndx)];exact e
  have hx:(upd (upd Hb dx (.own x)) x (.ins Z.a_Costs dx [])) x=some (.ins Z.a_Costs dx []):=aE;generalize upd (upd Hb dx (.own x)) x (.ins Z.a_Costs dx [])=Ha at s0 hx ⊢;have small:∀fs:List (Str×V),fs.length<=8->fs.length < 1000:=λ_ h=>by lia
  have one:(aX ("system":Str) (.ref sy) ([]:List (Str×V))).length<=1:=dw;exists ⟨x,Z.a_Costs,dx,_,rfl,hx,T.cl_Costs,T.na_Costs_system,(by show 0 < 1000;decide),?_⟩;have hx1:(upd Ha x (.ins Z.a_Costs dx (aX "system" (.ref sy) []))) x=some (.ins Z.a_Costs dx (aX "system" (.ref sy) [])):=aE;have k1:aA Hb (upd Ha x (.ins Z.a_Costs dx (aX "system" (.ref sy) []))):=s0.after nx;generalize upd Ha x (.ins Z.a_Costs dx (aX "system" (.ref sy) []))=H1 at hx1 k1 ⊢;obtain ⟨z1,g1,q1⟩:=id R1;replace g1:=aZ _ _ g1;exists ⟨b1,z1,rfl,.inl (bP.of (k1 _ _ g1)),λa1 n1=>?_⟩;have a1x:a1≠x:=λz=>by rw[z,hx1] at n1;cases n1
  have s1:aA H1 (upd H1 a1 (.lst z1)):=aA.new n1;have ga1:(upd H1 a1 (.lst z1)) a1=some (.lst z1):=aE;generalize upd H1 a1 (.lst z1)=H2 at s1 ga1 ⊢;have k1L:=k1.trans s1;have hx1L:=s1 _ _ hx1;exists ⟨x,Z.a_Costs,dx,_,rfl,hx1L,T.cl_Costs,T.na_Costs_state_weights,small _ (by lia),?_⟩;have len2:(aX "state_weights" (.ref a1) (aX "system" (.ref sy) [])).length<=2:=aj dw (by lia);have hx3:(upd H2 x (.ins Z.a_Costs dx (aX "state_weights" (.ref a1) (aX "system" (.ref sy) [])))) x=some (.ins Z.a_Costs dx (aX "state_weights" (.ref a1) (aX "system" (.ref sy) []))):=aE;have k3:aA Hb (upd H2 x (.ins Z.a_Costs dx (aX "state_weights" (.ref a1) (aX "system" (.ref sy) [])))):=k1L.after nx;have ga1:(upd H2 x (.ins Z.a_Costs dx (aX "state_weights" (.ref a1) (aX "system" (.ref sy) [])))) a1=some (.lst z1):=by rw[aN a1x];exact ga1
  generalize upd H2 x (.ins Z.a_Costs dx (aX "state_weights" (.ref a1) (aX "system" (.ref sy) [])))=H3 at hx3 k3 ga1 ⊢;obtain ⟨z2,g2,q2⟩:=id R2;replace g2:=aZ _ _ g2;exists ⟨b2,z2,rfl,.inl (bP.of (k3 _ _ g2)),λa2 n2=>?_⟩;have a2x:a2≠x:=λz=>by rw[z,hx3] at n2;cases n2
  have s2:aA H3 (upd H3 a2 (.lst z2)):=aA.new n2;have ga2:(upd H3 a2 (.lst z2)) a2=some (.lst z2):=aE;generalize upd H3 a2 (.lst z2)=H4 at s2 ga2 ⊢;have k2L:=k3.trans s2;have hx2L:=s2 _ _ hx3;replace ga1:=s2 _ _ ga1;exists ⟨x,Z.a_Costs,dx,_,rfl,hx2L,T.cl_Costs,T.na_Costs_put_weights,small _ (by lia),?_⟩;have len3:(aX "put_weights" (.ref a2) (aX "state_weights" (.ref a1) (aX "system" (.ref sy) []))).length<=3:=aj dw (by lia);have hx5:(upd H4 x (.ins Z.a_Costs dx (aX "put_weights" (.ref a2) (aX "state_weights" (.ref a1) (aX "system" (.ref sy) []))))) x=some (.ins Z.a_Costs dx (aX "put_weights" (.ref a2) (aX "state_weights" (.ref a1) (aX "system" (.ref sy) [])))):=aE;have k5:aA Hb (upd H4 x (.ins Z.a_Costs dx (aX "put_weights" (.ref a2) (aX "state_weights" (.ref a1) (aX "system" (.ref sy) []))))):=k2L.after nx;have ga1:(upd H4 x (.ins Z.a_Costs dx (aX "put_weights" (.ref a2) (aX "state_weights" (.ref a1) (aX "system" (.ref sy) []))))) a1=some (.lst z1):=by rw[aN a1x];exact ga1
  have ga2:(upd H4 x (.ins Z.a_Costs dx (aX "put_weights" (.ref a2) (aX "state_weights" (.ref a1) (aX "system" (.ref sy) []))))) a2=some (.lst z2):=by rw[aN a2x];exact ga2
  generalize upd H4 x (.ins Z.a_Costs dx (aX "put_weights" (.ref a2) (aX "state_weights" (.ref a1) (aX "system" (.ref sy) []))))=H5 at hx5 k5 ga1 ga2 ⊢;obtain ⟨z3,g3,q3⟩:=id R3;replace g3:=aZ _ _ g3;exists ⟨b3,z3,rfl,.inl (bP.of (k5 _ _ g3)),λa3 n3=>?_⟩;have a3x:a3≠x:=λz=>by rw[z,hx5] at n3;cases n3
  have s3:aA H5 (upd H5 a3 (.lst z3)):=aA.new n3;have ga3:(upd H5 a3 (.lst z3)) a3=some (.lst z3):=aE;generalize upd H5 a3 (.lst z3)=H6 at s3 ga3 ⊢;have k3L:=k5.trans s3;have hx3L:=s3 _ _ hx5;replace ga1:=s3 _ _ ga1;replace ga2:=s3 _ _ ga2;exists ⟨x,Z.a_Costs,dx,_,rfl,hx3L,T.cl_Costs,T.na_Costs_last_weights,small _ (by lia),?_⟩;have len4:(aX "last_weights" (.ref a3) (aX "put_weights" (.ref a2) (aX "state_weights" (.ref a1) (aX "system" (.ref sy) [])))).length<=4:=aj dw (by lia);have hx7:(upd H6 x (.ins Z.a_Costs dx (aX "last_weights" (.ref a3) (aX "put_weights" (.ref a2) (aX "state_weights" (.ref a1) (aX "system" (.ref sy) [])))))) x=some (.ins Z.a_Costs dx (aX "last_weights" (.ref a3) (aX "put_weights" (.ref a2) (aX "state_weights" (.ref a1) (aX "system" (.ref sy) []))))):=aE;have k7:aA Hb (upd H6 x (.ins Z.a_Costs dx (aX "last_weights" (.ref a3) (aX "put_weights" (.ref a2) (aX "state_weights" (.ref a1) (aX "system" (.ref sy) [])))))):=k3L.after nx;have ga1:(upd H6 x (.ins Z.a_Costs dx (aX "last_weights" (.ref a3) (aX "put_weights" (.ref a2) (aX "state_weights" (.ref a1) (aX "system" (.ref sy) [])))))) a1=some (.lst z1):=by rw[aN a1x];exact ga1
  have ga2:(upd H6 x (.ins Z.a_Costs dx (aX "last_weights" (.ref a3) (aX "put_weights" (.ref a2) (aX "state_weights" (.ref a1) (aX "system" (.ref sy) [])))))) a2=some (.lst z2):=by rw[aN a2x];exact ga2
  have ga3:(upd H6 x (.ins Z.a_Costs dx (aX "last_weights" (.ref a3) (aX "put_weights" (.ref a2) (aX "state_weights" (.ref a1) (aX "system" (.ref sy) [])))))) a3=some (.lst z3):=by rw[aN a3x];exact ga3
  generalize upd H6 x (.ins Z.a_Costs dx (aX "last_weights" (.ref a3) (aX "put_weights" (.ref a2) (aX "state_weights" (.ref a1) (aX "system" (.ref sy) [])))))=H7 at hx7 k7 ga1 ga2 ga3 ⊢;exists ⟨x,Z.a_Costs,dx,_,_,rfl,hx7,T.cl_Costs,T.na_Costs_last_weights,K0,?_⟩;exists ⟨a3,fs,M,rfl,⟨z3,ga3,Paired.imp' (λ_ _ z=>z.same (aZ.trans k7)) q3⟩,f20,hM,λtw pw H8 g8 s8 G8=>?_⟩;exists cY λe9 H9 s9 n9 g9=>?_
  exists bU λts HA sA gA=>?_
  exists bU λt1 HB sB gB=>?_
  exists cY λkn HC sC nC gC=>?_
  have s7C:=(((s8.trans s9).trans sA).trans sB).trans sC;have hxC:=s7C _ _ hx7;have kC:=k7.trans s7C;have xkn:x≠kn:=λz=>by rw[<- z,(((s8.trans s9).trans sA).trans sB) _ _ hx7] at nC;cases nC
  have bkn:Hb kn=none:=(((k7.trans s8).trans s9).trans (sA.trans sB)).none nC;exists ⟨x,Z.a_Costs,dx,_,rfl,hxC,T.cl_Costs,T.na_Costs_known,small _ (by lia),?_⟩;have hxD:(upd HC x (.ins Z.a_Costs dx (qD sy a1 a2 a3 kn))) x=some (.ins Z.a_Costs dx (qD sy a1 a2 a3 kn)):=aE;have kD:aA Hb (upd HC x (.ins Z.a_Costs dx (qD sy a1 a2 a3 kn))):=kC.after nx;have sD:∀a o,a≠x->HB a=some o->(upd HC x (.ins Z.a_Costs dx (qD sy a1 a2 a3 kn))) a=some o:=λa o ha h=>by rw[aN ha];exact sC _ _ h
  have gD:(upd HC x (.ins Z.a_Costs dx (qD sy a1 a2 a3 kn))) kn=some (.lst [.ref t1]):=by rw[aN (Ne.symm xkn)];exact gC
  have hxB:HB x=some _:=(((s8.trans s9).trans sA).trans sB) _ _ hx7;have s7B:=((s8.trans s9).trans sA).trans sB;show Q .non (upd HC x (.ins Z.a_Costs dx (qD sy a1 a2 a3 kn)))
  generalize upd HC x (.ins Z.a_Costs dx (qD sy a1 a2 a3 kn))=HD at hxD kD sD gD ⊢;have nkn:∀{a o},HB a=some o->a≠kn:=λh z=>by rw[z,nC] at h;cases h
  have LB:mB A9 HB:=λa ha=>by
   obtain ⟨vs,g⟩:=LA a ha;have ax:a≠x:=λz=>by rw[z,nx] at g;cases g
   exact ⟨vs,(((k7.trans s8).trans s9).trans (sA.trans sB)) _ _ g⟩
  have lift:∀{a o},HB a=some o->a≠x->A9 a=false->cI (fk A9 kn) HD a=some o:=λh n n2=>fD (sD _ _ n h) (E3 n2 (nkn h))
  have kH:aA (cI A9 Hb) (cI (fk A9 kn) HD):=pT bkn (b8 kD);have nA:∀{a},Hb a=none->A9 a=false:=LA.new;have na1:A9 a1=false:=nA (k1.none n1);have na2:A9 a2=false:=nA (k3.none n2);refine k kn (.ref t1) HD kD bkn ⟨dx,sy,a1,a2,a3,fD hxD (E3 (nA nx) xkn),S.same kH,⟨z1,lift (s7B _ _ ga1) a1x na1,Paired.imp' (λ_ _ z=>z.same kH) q1⟩,⟨z2,lift (s7B _ _ ga2) a2x na2,Paired.imp' (λ_ _ z=>z.same kH) q2⟩⟩ gD ?_;have nxI:∀{a us},HB a=some (.tup us)->a≠x:=λh z=>by rw[z,hxB] at h;cases h
  have nxL:∀{a us},HB a=some (.lst us)->a≠x:=λh z=>by rw[z,hxB] at h;cases h
  obtain ⟨ng,u1,h3,h4⟩:=G8.same ((s9.trans sA).trans sB);have h2:=((s9.trans sA).trans sB) _ _ g8;have h5:=sB _ _ gA;have h6:=(sA.trans sB) _ _ g9;have nf:∀{a},H7 a=none->A9 a=false:=λh=>nA (k7.none h)
  exact ⟨t1,tw,ts,pw,e9,rfl,lift gB (nxI gB) (LB.tup gB),lift h2 (nxI h2) (LB.tup h2),⟨u1,lift h3 (nxL h3) (nf ng),Paired.imp' (λ_ _ ⟨q,e,n,g⟩=>⟨q,e,lift g (nxL g) (nf n)⟩) h4⟩,lift h5 (nxI h5) (LB.tup h5),⟨[],lift h6 (nxL h6) (nf (s8.none n9)),.nil⟩⟩
theorem iP:ba ["_law_bag_here","_law_parts_here","_law_bottoms","_law_row_here"] ["_law_bag_here","_law_parts_here"] (aH o9):=by walk_at "d"
theorem zR (T:Txt K mg Z) (ptree:P.given.tree=none):cW P w K mg base iO 2 Z.vE Z.vn ["_law_bag_here","_law_parts_here"] (Af K):=by
 have aI:=dF (P:=P) (w:=w) (base:=base) T ptree;refine T.oa.F.ok iP (λvs H Q E h=>?_) (λcdv A outer s H vs Q E hr h=>?_)
 ·obtain ⟨b,r,H0,mv,pt,lk,rfl,_⟩:=h;rfl
 ·obtain ⟨b,r,H0,mv,pt,lk,rfl,hB,nb,PQ,D,sz,k⟩:=h
  refine ⟨_,(ar (aV (i:=2) iP.nd rfl (Or.inl rfl) (dN (aa ai af)))
   (ar (eI PassesOwn.never rfl (cu (bw nX (aR bT (pv 1) ai) (aR bT (pv 1) ai))) (aO (i:=3) iP.nd)
    (az (aV (i:=2) iP.nd rfl (Or.inl rfl) (bw nX (pv 2) (cv ["_law_one"] [] [] (cu (pv 3)) (λ_=>(aO (i:=0) (show ND9 ["_law_one"] by decide +kernel))) (λ_=>cy) (λ_=>(bw fw (aR (iT K (by rfl)) (pv 0) ai) (bw dc (bw (fM rfl iP rfl rfl rfl ptree (oK hr)) (bO vz (by rfl) T.abs PyProof.Rows.boot_abs (aa (aR (iT K (by rfl)) (pv 0) ai) af)) ai) ai))))))))
   (ar (dC (br uQ (bO (Hq rfl) (by rfl) T.max PyProof.Rows.boot_max (aa (pv 2) af)) ai (bF _)) (az (bc (cS aI hr T.aK (aa (pv 0) (aa ai af))))) bX)
   (ar (dC (br uQ (bO bG (by rfl) T.len bx (aa (aR bT (pv 1) ai) af)) ai (bF _)) (az (bc (aR bf (dN (aa (cS aI hr T.aK (aa (pv 0) (aa ai af))) (aa (bO bG (by rfl) T.len bx (aa (aR bT (pv 1) ai) af)) af))) (cS aI hr T.aK (aa (pv 0) (aa ai af)))))) bX)
   (ar (dC (PW.pt (jU (br sR (bO bG (by rfl) T.len bx (aa (aR bT (pv 1) ai) af)) ai (bF _)) (kU (br fy (cS aI hr T.aK (aa (pv 0) (aa ai af))) ai (bF _))))) (az (bc (cS aI hr T.aK (aa (pv 0) (aa ai af))))) bX)
   (az (bc (cS aI hr T.aK (aa (pv 0) (aa (bw fw ai (bO bG (by rfl) T.len bx (aa (aR bT (pv 1) ai) af))) af)))))))))),?_⟩
  refine aW (σ:=[some (.ref b),some (.ref r),none,none]) rfl ?_;have d8:=D.n8;have i4:=D.i4;obtain ⟨m,p,l,g,n1,n2,n3,Gm,Gp,Gl⟩:=id PQ;obtain ⟨um,gm,qm,_⟩:=id Gm;obtain ⟨up,gp,qp,_⟩:=id Gp;have lum:=qm.length;have lup:=qp.length;exists cY λbl0 H1 s1 nbl g1=>?_
  have g':=s1 _ _ g;exists nU (s1 _ _ gm) (s1 _ _ gp) (aT (bz (by lia))) λcc H2 s2 nc gc=>?_
  have s02:=s1.trans s2;have qc:Paired (iI K H0 H2) (mv++pt) (um++up):=Paired.imp' (λ_ _ z=>iI.same z s02) (cb qm qp)
  have wc:∀xs∈mv++pt,xs.length=mv.length:=λxs hx=>by
   rcases aw.mp hx with hx | hx
   ·exact D.mw xs hx
   ·exact D.pw xs hx
  have lc:(mv++pt).length=(um++up).length:=qc.length;rw[aD,aD] at lc;exists ⟨⟨_,bP.of gc⟩,?_⟩;refine iR (K:=K) (a:=cc) (xs:=um++up) (λi σ' H'=>aA H2 H'/\∃bl ns y,σ'=[some (.ref b),some (.ref r),some (.ref bl),y]/\H' bl=some (.lst (ns.map V.int))/\1<=ns.length/\ns.length<=1+i*8/\∀j xs,j < i->(mv++pt)[j]?=some xs->∀x∈xs,Ov x∈ns) ⟨aA.refl _,bl0,[1],_,rfl,s2 _ _ g1,by decide,by decide,λj xs h=>absurd h (J0 _)⟩ (λi σ' H' _ ⟨e,_⟩=>bP.of (e _ _ gc)) ?_ ?_
  ·rintro i v σ' H' hv ⟨e,bl,ns,y,rfl,gb,b1,b2,hn⟩;obtain ⟨xs,exs,u,rfl,_,zs,gz,qz⟩:=dG qc hv;have mx:=ak exs;have wx:=wc xs mx;have hi:i < (um++up).length:=(aY.mp hv).1;rw[aD] at hi;exists ⟨⟨_,bP.of (e _ _ gz)⟩,?_⟩;refine dH (K:=K) (F:=b6 K) (λ_ c x=>x=V.int (Ov c)) id (e _ _ gz) (Paired.imp' (λ_ _ z=>z.same e) qz) (by lia) (λa b=>a.same b) (λa _=>a) ?_ ?_
   ·rintro j c x Ha NY NN ec sa ⟨pp,rfl,hp⟩ k1;have mc:=ak ec;have szc:=sz xs mx c mc;walk_at "w"
    have e1:(if (nm c).1 < 0 then -(nm c).1 else (nm c).1)=(c.num.natAbs:Int):=by
     show (if c.num < 0 then -c.num else c.num)=_
     split <;> lia
    have e2:(c.num.natAbs:Int).fdiv 1000=(c.num.natAbs:Int) / 1000:=bE _ (by decide);rw[e1];refine fG (show nk _ _ from ⟨by decide,a9 (show (1000:Int).natAbs < 2^20 by decide) (av (by decide) (by decide))⟩) ?_;rw[e2];exists k1 _ _ (aA.refl _) rfl
   rintro ys Hb cl hcl sb gcl prl _
   have ey:ys=(xs.map Ov).map V.int:=by
    rw[List.map_id] at prl;rw[Gh];exact Al prl
   have ly:=prl.length;rw[ag] at ly;have gbb:=sb _ _ gb;rw[ey] at gcl;exists nU gbb gcl (aT (bz (by rw[ag,ag,ag];lia))) λc2 Hc sc nc2 gc2=>?_
   rw[<- cD] at gc2;refine ⟨(e.trans sb).trans sc,c2,ns++xs.map Ov,_,rfl,gc2,by rw[aD];lia,by rw[aD,ag];lia,λj ys' hj ej x hx=>?_⟩;rcases nE j i with z | z
   ·exact jO _ (hn j ys' z ej x hx)
   ·have:j=i:=by lia
    subst this;rw[exs] at ej;cases ej;exact bL _ (ay.mpr ⟨x,hx,rfl⟩)
  ·rintro σ' H' ⟨e,bl,ns,y,rfl,gb,b1,b2,hn⟩;have e0:=s02.trans e;have B':=hB.same e0;have PQ':=PQ.same e0;obtain ⟨m',p',l',g2,_,_,_,Gm',_,_⟩:=id PQ'
   have em:m'=m:=by
    have:=e0 _ _ g;rw[this] at g2;cases g2;rfl
   subst em;obtain ⟨um',gm',qm',_⟩:=id Gm';have lum':=qm'.length;have u0:cz b H H':=e0.upto;exists ⟨bl,ns,rfl,bP.of gb,by lia,λM hM hmax=>?_⟩;exists ia (λh=>?_) (λh=>?_)
   ·exists ⟨b,4,rfl,B',by decide,by decide,λv H3 v0 v1 B3 u3=>?_⟩;obtain ⟨v,rfl⟩:=cx v0;exact k v H3 ⟨by lia,.inl (by lia)⟩ B3 (u0.trans u3)
   ·have M9:M<=9:=by rw[decide_eq_true_eq] at h;lia
    have sm:∀xs∈mv++pt,∀x∈xs,x.den<=9/\x.num.natAbs < 1000:=λxs hx x hx'=>by
     obtain ⟨j,hj,rfl⟩:=b9 hx;have:=hn j _ (by rw[aD,<- lum,<- lup];rw[aD] at hj;exact hj) (ao hj) x hx';exact Lm (Int.le_trans (hmax _ this) M9)
    exists ⟨_,_,rfl,.inl (bP.of gm'),?_⟩;rw[<- lum'];exists ia (λh1=>?_) (λh1=>?_)
    ·have n5:5 < mv.length:=by have:=of_decide_eq_true h1;lia
     exists ⟨b,4,rfl,B',by decide,by decide,λv H3 v0 v1 B3 u3=>?_⟩;obtain ⟨v,rfl⟩:=cx v0;obtain ⟨m3,p3,l3,g3,_,_,_,Gm3,_,_⟩:=PQ'.upto u3 B' nb;obtain ⟨um3,gm3,qm3,_⟩:=id Gm3;have lum3:=qm3.length;exists ⟨_,_,rfl,.inl (bP.of gm3),?_⟩;rw[<- lum3];exists cY λl4 H4 s4 n4 g4=>?_
     exists ⟨b,2,rfl,B3.same s4,by decide,by decide,λv2 H5 v20 v21 B5 u5=>?_⟩;have g5:=u5.other (λz=>B3.at (by rw[<- z];exact n4)) g4;obtain ⟨x,ex,mx,_⟩:=jG (xs:=[V.int (v:Int),V.int (mv.length:Int)]) v20 (by simpa using v21);exists cO (bP.of g5) ex ?_;have u05:=(u0.trans (u3.same s4)).trans u5;simp only[aF,aQ,or_false] at mx;rcases mx with rfl | rfl
     ·exact k v H5 ⟨by lia,.inl (by lia)⟩ B5 u05
     ·exact k mv.length H5 ⟨by lia,.inr ⟨sm,λ_=>au _,λ_ _=>AU _⟩⟩ B5 u05
    ·have n5:mv.length<=5:=by rw[decide_eq_true_eq] at h1;lia
     exists ⟨_,_,rfl,.inl (bP.of gm'),?_⟩;rw[<- lum'];have last:∀(Hx:Hp),fP Hx b->cz b H Hx->∀(v:Nat),v < 2+mv.length->Q (.int v) Hx:=λHx Bx ux v hv=>k v Hx ⟨by lia,.inr ⟨sm,λz=>by lia,λ_ _=>by lia⟩⟩ Bx ux
     exists ia (λh2=>?_) (λh2=>?_)
     ·have n3':mv.length < 3:=by have:=of_decide_eq_true h2;lia
      exists ⟨b,8,rfl,B',by decide,by decide,λv H3 v0 v1 B3 u3=>?_⟩;exists ia (λh3=>?_) (λh3=>?_)
      ·exists ⟨b,13,rfl,B3,by decide,by decide,λv4 H4 v40 v41 B4 u4=>?_⟩;obtain ⟨v4,rfl⟩:=cx v40;exact k v4 H4 ⟨by lia,.inr ⟨sm,λz=>by lia,λz _=>by lia⟩⟩ B4 ((u0.trans u3).trans u4)
      ·obtain ⟨m3,p3,l3,g3,_,_,_,Gm3,_,_⟩:=PQ'.upto u3 B' nb;obtain ⟨um3,gm3,qm3,_⟩:=id Gm3;have lum3:=qm3.length;exists ⟨_,_,rfl,.inl (bP.of gm3),?_⟩;rw[<- lum3];walk_at "w";rw[show ((2:Int)+(mv.length:Int))=((2+mv.length:Nat):Int) by lia];refine ⟨b,2+mv.length,rfl,B3,by lia,by lia,λv4 H4 v40 v41 B4 u4=>?_⟩;obtain ⟨v4,rfl⟩:=cx v40;exact last H4 B4 ((u0.trans u3).trans u4) v4 (by lia)
     ·exists ⟨_,_,rfl,.inl (bP.of gm'),?_⟩;rw[<- lum'];walk_at "w";rw[show ((2:Int)+(mv.length:Int))=((2+mv.length:Nat):Int) by lia];refine ⟨b,2+mv.length,rfl,B',by lia,by lia,λv4 H4 v40 v41 B4 u4=>?_⟩;obtain ⟨v4,rfl⟩:=cx v40;exact last H4 B4 (u0.trans u4) v4 (by lia)
theorem DP:∃x1 x2 x3 x4 x5 x6 x7 x8 x9:Expr,x1=(Expr.Constant (Const.int 8) 0 ⟨378,60,378,61⟩)/\x2=(Expr.Constant (Const.int 8) 0 ⟨378,63,378,64⟩)/\x3=(Expr.Constant (Const.int 8) 0 ⟨378,66,378,67⟩)/\x4=(Expr.Constant (Const.int 5) 0 ⟨378,69,378,70⟩)/\x5=(Expr.Constant (Const.int 4) 0 ⟨378,72,378,73⟩)/\x6=(Expr.Constant (Const.int 3) 0 ⟨378,75,378,76⟩)/\x7=(Expr.Constant (Const.int 2) 0 ⟨378,78,378,79⟩)/\x8=(Expr.Constant (Const.int 2) 0 ⟨378,81,378,82⟩)/\x9=(Expr.Constant (Const.int 2) 0 ⟨378,84,378,85⟩)/\eJ pB=[ (Stmt.Return (value:=(some (Expr.Call (func:=(Expr.Name "min" ⟨378,11,378,14⟩)) (args:=[ (Expr.Call (func:=(Expr.Name "_law_steps" ⟨378,15,378,25⟩)) (args:=[(Expr.Name "_law_bag_here" ⟨378,26,378,39⟩),(Expr.Name "_law_parts_here" ⟨378,41,378,56⟩)]) (keywords:=[]) (pos:=⟨378,15,378,57⟩)),(Expr.Subscript (value:=(Expr.List (elts:=[x1,x2,x3,x4,x5,x6,x7,x8,x9]) (pos:=⟨378,59,378,86⟩))) (slice:=(Expr.Call (func:=(Expr.Name "len" ⟨378,87,378,90⟩)) (args:=[ (Expr.Subscript (value:=(Expr.Name "_law_parts_here" ⟨378,91,378,106⟩)) (slice:=(Expr.Constant (Const.int 0) 0 ⟨378,107,378,108⟩)) (pos:=⟨378,91,378,109⟩))]) (keywords:=[]) (pos:=⟨378,87,378,110⟩))) (pos:=⟨378,59,378,111⟩))]) (keywords:=[]) (pos:=⟨378,11,378,112⟩)))) (pos:=⟨378,4,378,112⟩))]:=⟨_,_,_,_,_,_,_,_,_,rfl,rfl,rfl,rfl,rfl,rfl,rfl,rfl,rfl,by with_unfolding_all rfl⟩
theorem Dg:ba ["_law_bag_here","_law_parts_here"] ["_law_bag_here","_law_parts_here"] (aH pB):=by walk_at "d"
theorem Dt (T:Txt K mg Z) (ptree:P.given.tree=none):cW P w K mg base iO 3 Z.zC Z.zc ["_law_bag_here","_law_parts_here"] (Io K):=by
 have Cr:=zR (P:=P) (w:=w) (base:=base) T ptree;refine T.mR.F.ok Dg (λvs H Q E h=>?_) (λcdv A outer s H vs Q E hr h=>?_)
 ·obtain ⟨b,r,H0,mv,pt,lk,rfl,_⟩:=h;rfl
 ·obtain ⟨b,r,H0,mv,pt,lk,rfl,B,nb,P,D,sz,k⟩:=h;obtain ⟨x1,x2,x3,x4,x5,x6,x7,x8,x9,hx1,hx2,hx3,hx4,hx5,hx6,hx7,hx8,hx9,hbd⟩:=DP;rw[hbd];refine ⟨_,(az (bc (bO (oQ rfl) (by rfl) T.min PyProof.Rows.boot_min (aa (cS Cr hr T.oa (aa (pv 0) (aa (pv 1) af))) (aa (aR bf (dN (cL hx1 ai (cL hx2 ai (cL hx3 ai (cL hx4 ai (cL hx5 ai (cL hx6 ai (cL hx7 ai (cL hx8 ai (cL hx9 ai af)))))))))) (bO bG (by rfl) T.len bx (aa (aR bT (pv 1) ai) af))) af))))),?_⟩;refine aW (σ:=[some (.ref b),some (.ref r)]) rfl ?_;have d8:=D.n8;exists ⟨b,r,H0,mv,pt,lk,rfl,B,nb,P,D,sz,λtt H1 hT B1 u1=>?_⟩;obtain ⟨m,p,l,gt,mn,pn,ln,Gm,Gp,Gl⟩:=P.upto u1 B nb;obtain ⟨um,gm,qm,_⟩:=id Gm;have lum:=qm.length;exists cY λl2 H2 s2 n2 g2=>?_
  have gt2:=s2 _ _ gt;exists ⟨_,_,rfl,.inl (bP.of (s2 _ _ gm)),?_⟩;rw[<- lum];obtain ⟨v,ev,v8,v4,v5,v6⟩:=NU mv.length d8;exists cO (bP.of g2) (gh ev) ?_;walk_at "w";rw[show (if (v:Int) < (tt:Int) then (v:Int) else (tt:Int))=((min tt v:Nat):Int) by split <;> lia];refine k (min tt v) H2 ⟨hT.less (by lia),by lia,λh=>?_,λh=>by have:=v5 h;lia,λh=>by have:=v6 h;lia⟩ (B1.same s2) (u1.same s2);by_cases z:4<=mv.length
  ·have:=v4 z;lia
  ·obtain ⟨_,y | ⟨_,_,y⟩⟩:=hT
   ·lia
   ·have:=y h (by lia);lia
theorem oG:ba ["top","bottom","divisor"] ["top","bottom"] (aH yw):=by walk_at "d"
theorem wo (T:Txt K mg Z) (ptree:P.given.tree=none):cW P w K mg base iO 2 Z.DS Z.DH ["top","bottom"] Gx:=by
 have dS:=gU (P:=P) (w:=w) (base:=base) T ptree;refine T.oJ.F.ok oG (λvs H Q E h=>?_) (λcdv A outer s H vs Q E hr h=>?_)
 ·obtain ⟨t,b,rfl,_⟩:=h;rfl
 ·obtain ⟨t,b,rfl,hb,hs,k⟩:=h
  refine ⟨_,(ar (aV (i:=2) oG.nd rfl (Or.inl rfl) (cS dS hr T.eo (aa (pv 0) (aa (pv 1) af))))
   (ar (dC (br sR (pv 1) ai (bF _)) (az (aV (i:=2) oG.nd rfl (Or.inl rfl) (yE tK (pv 2)))) bX)
   (az (bc (cK (aa (bw (fM rfl oG rfl rfl rfl ptree (oK hr)) (pv 0) (pv 2)) (aa (bw (fM rfl oG rfl rfl rfl ptree (oK hr)) (pv 1) (pv 2)) af))))))),?_⟩
  refine aW (σ:=[some (.int t),some (.int b),none]) rfl ?_;exists ⟨t,b,rfl,?_⟩;have hg:=yV (t:=t) hb
  have hgs:Sz 4499500 (g t b):=hs.le (by
   have h1:(g t b).natAbs=Int.gcd t b:=by unfold g;simp
   rw[h1];exact js (by lia) (by have:=eE (a:=t) (b:=b);exact eR.mpr this |> λz=>by simpa using z))
  have hgn:g (-t) (-b)=g t b:=by unfold g;rw[Int.gcd_neg,Int.neg_gcd]
  exists ia (λh=>?_) (λh=>?_)
  ·have hb0:b < 0:=of_decide_eq_true h;exists fG (show nk _ _ from ⟨by lia,hgs.neg⟩) ?_;exists fG (show nk _ _ from ⟨by lia,hgs.neg⟩) ?_;exists bU λr H' s' h'=>?_
   have e1:t.fdiv (-g t b)=lo (-t) (-b):=by
    unfold Nm.lo;rw[hgn,<- bE _ (by lia),<- Int.neg_fdiv_neg (-t),JS]
   have e2:b.fdiv (-g t b)=hi (-t) (-b):=by
    unfold Nm.hi;rw[hgn,<- bE _ (by lia),<- Int.neg_fdiv_neg (-b),JS]
   exact k r H' s' (by rw[if_pos hb0,if_pos hb0,<- e1,<- e2];exact h')
  ·have hb0:¬b < 0:=λz=>h (decide_eq_true z)
   exists fG (show nk _ _ from ⟨by lia,hgs⟩) ?_;exists fG (show nk _ _ from ⟨by lia,hgs⟩) ?_;exists bU λr H' s' h'=>?_
   rw[bE _ (by lia),bE _ (by lia)] at h';exact k r H' s' (by rw[if_neg hb0,if_neg hb0];exact h')
theorem Bh:ba ["whole"] ["whole"] (aH qQ):=by walk_at "d"
theorem BL (T:Txt K mg Z) (ptree:P.given.tree=none):cW P w K mg base iO 3 Z.xt Z.xa ["whole"] (CS K):=by
 have rT:=wo (P:=P) (w:=w) (base:=base) T ptree;refine T.pM.F.ok Bh (λvs H Q E h=>?_) (λcdv A outer s H vs Q E hr h=>?_)
 ·obtain ⟨t,p,ls,b,rfl,_⟩:=h;rfl
 ·obtain ⟨t,p,ls,b,rfl,gt,G,l20,w20,b0,sb,k⟩:=h;refine ⟨_,(az (bc (cv ["line"] ["whole"] [0] (cu (aR bT (pv 0) ai)) (λ_=>(aO (i:=0) (show ND9 ["line","whole"] by decide +kernel))) (λ_=>cy) (λ_=>(cv ["value"] ["whole"] [1] (uM K (pv 0)) (λ_=>(aO (i:=0) (show ND9 ["value","whole"] by decide +kernel))) (λ_=>cy) (λ_=>(cS rT hr T.oJ (aa (pv 0) (aa (aR (iT K (by rfl)) (pv 1) ai) af))))))))),?_⟩;refine aW (σ:=[some (.ref t)]) rfl ?_;obtain ⟨us,gu,qu⟩:=id G;have lu:=qu.length;exists ⟨⟨_,bP.of gu⟩,?_⟩;refine dH (K:=K) (as:=ls) (F:=RI) (iI K H) (λl=>l.map λ(z:Int)=>(z:Rat) / (b:Rat)) gu qu (by lia) (λh s=>h.same s) (λh s=>h.same s) ?_ ?_
  ·rintro i c x H' NY NN ec s' ⟨u,rfl,gc⟩ k1;have wc:=w20 c (ak ec);exists ⟨⟨_,bP.of gc⟩,?_⟩;refine dH (K:=K) (as:=c) (F:=λ_ z x=>x=V.int z) (b6 K) (λ(z:Int)=>(z:Rat) / (b:Rat)) gc l8 (by lia) (λh _=>h) (λh s=>h.same s) ?_ ?_
   ·rintro j z v H2 NY2 NN2 ez s2 rfl k2;have gt2:=s2 _ _ (s' _ _ gt);exists ⟨z,b,rfl,b0,sb,λr3 H3 s3 g3=>?_⟩;exact k2 _ _ s3 (b6.mk g3 (Jg b0))
   rintro ys H2 l hl s2 g2 pr _;exact k1 _ _ s2 ⟨l,rfl,s'.none hl,ys,g2,pr⟩
  rintro ys H2 r nr s2 g2 pr nx;exact k r H2 nr s2 ⟨ys,g2,pr,wV nx⟩
theorem Bj:ba ["lists","joined","each"] ["lists"] (aH Er):=by walk_at "d"
theorem FI (T:Txt K mg Z) (ptree:P.given.tree=none):cW P w K mg base iO 1 Z.JN Z.JF ["lists"] C4:=by
 refine T.xY.F.ok Bj (λvs H Q E h=>?_) (λcdv A outer s H vs Q E hr h=>?_)
 ·obtain ⟨p,us,zss,rfl,_⟩:=h;rfl
 ·obtain ⟨p,us,zss,rfl,gx,qx,hl,k⟩:=h
  refine ⟨_,(ar (aV (i:=1) Bj.nd rfl (Or.inl rfl) (dN af))
   (ar (eI PassesOwn.never rfl (cu (pv 0)) (aO (i:=2) Bj.nd)
    (az (fX (rh bZ PySem.F.slot_list_extend PySem.F.type_list_extend GQ (pv 1) (aa (pv 2) af)))))
   (az (bc (pv 1))))),?_⟩
  refine aW (σ:=[some (.ref p),none,none]) rfl ?_;have lx:=qx.length;exists cY λj H1 s1 n1 g1=>?_
  exists ⟨⟨_,bP.of (s1 _ _ gx)⟩,?_⟩;refine iR (K:=K) (a:=p) (xs:=us) (λi σ' H'=>aA H H'/\∃x:Option V,σ'=[some (.ref p),some (.ref j),x]/\H' j=some (.lst (zss.take i).flatten)) ⟨s1,none,rfl,g1⟩ (λi σ' H' _ ⟨s,_⟩=>bP.of (s _ _ gx)) ?_ ?_
  ·rintro i x σ' H' hx ⟨s,y,rfl,gj⟩;obtain ⟨zs,ez,q,rfl,gz⟩:=dG qx hx;have tl:(zss.take (i+1)).flatten=(zss.take i).flatten++zs:=by rw[take_snoc ez,List.flatten_append];simp
   have bl:(zss.take i).flatten.length+zs.length<=1000:=by
    have e:zss.flatten=(zss.take (i+1)).flatten++(zss.drop (i+1)).flatten:=by rw[<- List.flatten_append,List.take_append_drop]
    rw[e,tl,aD,aD] at hl
    lia
   exists ⟨.inl ⟨rfl,_,bP.of gj⟩,?_⟩;exists ⟨j,q,_,zs,rfl,rfl,gj,s _ _ gz,aT (bz (by lia)),?_⟩;exact ⟨s.after n1,_,rfl,by rw[aE,tl]⟩
  ·rintro σ' H' ⟨s,y,rfl,gj⟩;rw[aJ (by lia)] at gj;exists k j H' n1 s gj
theorem sL:ba ["grid","bottom"] ["grid"] (aH o8):=by walk_at "d"
theorem zQ (T:Txt K mg Z) (ptree:P.given.tree=none):cW P w K mg base iO 4 Z.vD Z.vh ["grid"] (CM K):=by
 have dJ:=iB (P:=P) (w:=w) (base:=base) T ptree;have Fc:=FI (P:=P) (w:=w) (base:=base) T ptree;have fU:=kW (P:=P) (w:=w) (base:=base) T ptree;refine T.nZ.F.ok sL (λvs H Q E h=>?_) (λcdv A outer s H vs Q E hr h=>?_)
 ·obtain ⟨p,H0,rows,M,rfl,_⟩:=h;rfl
 ·obtain ⟨p,H0,rows,M,rfl,G,hl,r1000,w1000,hM,k⟩:=h
  refine ⟨_,(ar (aV (i:=1) sL.nd rfl (Or.inr rfl) (cS dJ hr T.dR (aa (cS Fc hr T.xY (aa (pv 0) af)) af)))
   (az (bc (cK (aa (cv ["row"] ["bottom"] [1] (cu (pv 0)) (λ_=>(aO (i:=0) (show ND9 ["row","bottom"] by decide +kernel))) (λ_=>cy) (λ_=>(cS fU hr T.fY (aa (pv 0) (aa (pv 1) af))))) (aa (pv 1) af)))))),?_⟩
  refine aW (σ:=[some (.ref p),none]) rfl ?_;have hM':=hM;obtain ⟨b1,s1⟩:=hM.bot;obtain ⟨xs,gx,qx,_⟩:=id G;have lx:=qx.length;walk_at "w";obtain ⟨zss,pz,pq⟩:=yz qx;have pf:=uP pq;have lf:=pf.length;refine ⟨p,xs,zss,rfl,gx,pz,by lia,λr1 H1 n1 t1 g1=>?_⟩;have R1:cg K H1 r1 rows.flatten:=⟨_,g1,Paired.imp' (λ_ _ z=>z.same t1) pf⟩;exists ⟨r1,rows.flatten.map nm,M,rfl,R1.rowK,by rw[ag];exact hl,hM,λH2 t2=>?_⟩;have t02:=t1.trans t2;have g2:=t02 _ _ gx;exists ⟨⟨_,bP.of g2⟩,?_⟩;refine dH (K:=K) (as:=rows) (F:=iI K H0) RI (λxs=>ck (xs.map nm) (qE rows)) g2 (Paired.imp' (λ_ _ z=>iI.same z t02) qx) r1000 (λh s=>h.same s) (λh s=>h.same s) ?_ ?_
  ·rintro i c x H' NY NN ec s' ⟨u,rfl,_,Ru⟩ k1;have mc:=ak ec;exists ⟨u,c.map nm,M,qE rows,rfl,Ru.rowK,by rw[ag];exact w1000 c mc,⟨hM.1,hM.2.1,λn hn=>hM.2.2 n ?_⟩,b1,s1,λr3 H3 n3 t3 g3=>k1 _ _ t3 ⟨r3,rfl,g3⟩⟩;obtain ⟨y,hy,rfl⟩:=ay.mp hn;exact ay.mpr ⟨y,eY.mpr ⟨c,mc,hy⟩,rfl⟩
  rintro ys H3 l hl3 s3 g3 pr _;exists bU λt4 H4 s4 g4=>?_
  exact k t4 l H4 g4 ((t02.trans s3).trans s4) (GI.same ⟨ys,g3,pr⟩ s4)
theorem yr:ba ["grid","wide"] ["grid","wide"] (aH nM):=by walk_at "d"
theorem rl (T:Txt K mg Z) (ptree:P.given.tree=none):cW P w K mg base iO 1 Z.tj Z.sT ["grid","wide"] (CN K):=by
 refine T.jx.F.ok yr (λvs H Q E h=>?_) (λcdv A outer s H vs Q E hr h=>?_)
 ·obtain ⟨p,w,H0,rows,rfl,_⟩:=h;rfl
 ·obtain ⟨p,w,H0,rows,rfl,hp,hz,hw,hl,kk⟩:=h;refine ⟨_,(az (bc (cv ["place"] ["grid"] [0] (cG rfl T.range (aa (pv 1) af)) (λ_=>(aO (i:=0) (show ND9 ["place","grid"] by decide +kernel) rfl (Or.inr rfl) (Or.inl rfl))) (λ_=>cy) (λ_=>(cv ["line"] ["place"] [0] (uM K (pv 1)) (λ_=>(aO (i:=0) (show ND9 ["line","place"] by decide +kernel))) (λ_=>cy) (λ_=>(aR (va K (by rfl)) (pv 0) (pv 1)))))))),?_⟩;refine aW (σ:=[some (.ref p),some (.int w)]) rfl ?_;exists ⟨by lia,by lia,?_⟩;refine j5 (n:=w) (iI K H) (λj=>rows.map λxs=>xs.getD j 0) hw (λa b=>a.same b) ?_ ?_
  ·rintro j H1 NY NN hj s1 k1;obtain ⟨xs,gx,qx,_⟩:=hp.same s1;exists ⟨⟨_,bP.of gx⟩,?_⟩;refine dH (K:=K) (F:=iI K H0) (b6 K) (λxs=>xs.getD j 0) gx qx hz (λa b=>a.same b) (λa b=>a.same b) ?_ ?_
   ·rintro i ns x H2 NY2 NN2 en s2 ⟨u,rfl,_,zs,gz,qz⟩ k2;obtain ⟨v,ev,hv⟩:=JU qz (j:=j) (by rw[hl ns (ak en)];exact hj);exists cO (bP.of gz) ev ?_;exact k2 _ _ (aA.refl _) hv
   ·rintro ys' H2 r hr s2 g pr nx;exact k1 _ _ s2 ⟨r,rfl,s1.none hr,ys',g,pr⟩
  ·rintro ys' H1 r hr s1 g pr nx;exact kk r H1 hr s1 ⟨ys',g,pr,wV nx⟩
theorem Bf:ba ["one","other"] ["one","other"] (aH qN):=by walk_at "d"
theorem BJ (T:Txt K mg Z) (ptree:P.given.tree=none):cW P w K mg base iO 1 Z.xo Z.wY ["one","other"] (Fp K):=by
 refine T.pL.F.ok Bf (λvs H Q E h=>?_) (λcdv A outer s H vs Q E hr h=>?_)
 ·obtain ⟨p,q,a,b,k,j,rfl,_⟩:=h;rfl
 ·obtain ⟨p,q,a,b,k,j,rfl,ga,gb,hl,h100,sa,sb,kj,kk⟩:=h;refine ⟨_,(az (bc (bO (DN rfl) (by rfl) T.sum PyProof.Rows.boot_sum (aa (cv ["mine","yours"] [] [] (Bu rfl T.zip (aa (pv 0) (aa (pv 1) af))) (λ_=>(uN K 2 (cV (aO (i:=0) (show ND9 ["mine","yours"] by decide +kernel)) (cV (aO (i:=1) (show ND9 ["mine","yours"] by decide +kernel)) kf)))) (λ_=>cy) (λ_=>(bw dc (pv 0) (pv 1)))) af)))),?_⟩;refine aW (σ:=[some (.ref p),some (.ref q)]) rfl ?_;exists ⟨⟨_,bP.of ga⟩,⟨_,bP.of gb⟩,?_⟩;refine zh (K:=K) (xs:=a.map V.int) (ws:=b.map V.int) (λi ys H'=>aA H H'/\ys=((List.zipWith (λx y=>x*y) a b).take i).map V.int) (aT (bz (by rw[ag];lia))) (by rw[ag,ag];lia) ⟨aA.refl _,rfl⟩ (λi ys H' _ ⟨s,_⟩=>⟨bP.of (s _ _ ga),bP.of (s _ _ gb)⟩) ?_ ?_
  ·rintro i x y ys H' r hx hy hlen ⟨s',rfl⟩ hr;rw[aB] at hx hy;obtain ⟨u,eu,rfl⟩:=iW.mp hx;obtain ⟨v,ev,rfl⟩:=iW.mp hy;have sr:aA H' (upd H' r (.tup [.int u,.int v])):=aA.new hr;have gr:(upd H' r (.tup [.int u,.int v])) r=some (.tup [.int u,.int v]):=aE;generalize upd H' r (.tup [.int u,.int v])=H2 at sr gr ⊢;exists fG (show gX _ _ from .inr ⟨_,_,sa u (ak eu),sb v (ak ev),kj⟩) ?_;have ez:(List.zipWith (λx y=>x*y) a b)[i]?=some (u*v):=by rw[cw,eu,ev]
   exact ⟨s'.trans sr,by rw[take_snoc ez];simp⟩
  rintro ys H' hy ⟨s',rfl⟩ l hl';exists ⟨l,List.zipWith (λx y=>x*y) a b,rfl,bP.of (by rw[aE,aJ (by rw[cA,ag];lia)]),?_⟩;exact kk _ (s'.trans (aA.new hl'))
theorem C8:ba ["lines","tops"] ["lines","tops"] (aH tN):=by walk_at "d"
theorem wR (T:Txt K mg Z) (ptree:P.given.tree=none):cW P w K mg base iO 2 Z.zl Z.yZ ["lines","tops"] (Il K):=by
 have D0:=BJ (P:=P) (w:=w) (base:=base) T ptree;refine T.kF.F.ok C8 (λvs H Q E h=>?_) (λcdv A outer s H vs Q E hr h=>?_)
 ·obtain ⟨p,q,ls,b,k,j,rfl,_⟩:=h;rfl
 ·obtain ⟨p,q,ls,b,k,j,rfl,G,gb,hw,l100,b100,sk,sj,kj,kk⟩:=h;refine ⟨_,(az (bc (cv ["line"] ["tops"] [1] (cu (pv 0)) (λ_=>(aO (i:=0) (show ND9 ["line","tops"] by decide +kernel))) (λ_=>cy) (λ_=>(cS D0 hr T.pL (aa (pv 0) (aa (pv 1) af))))))),?_⟩;refine aW (σ:=[some (.ref p),some (.ref q)]) rfl ?_;obtain ⟨xs,gx,qx⟩:=id G;have lx:=qx.length;exists ⟨⟨_,bP.of gx⟩,?_⟩;refine dH (K:=K) (as:=ls) (F:=RI) (λ_ z y=>y=V.int z) (λl=>zY l b) gx qx (by lia) (λh s=>h.same s) (λh _=>h) ?_ ?_
  ·rintro i c x H' NY NN ec s' ⟨u,rfl,gu⟩ k1;have mc:=ak ec;exists ⟨u,q,c,b,k,j,rfl,gu,s' _ _ gb,(hw c mc).symm,by rw[hw c mc];lia,sk c mc,sj,kj,λH2 s2=>k1 _ _ s2 rfl⟩
  rintro ys H2 l hl s2 g2 pr _;have ey:ys=(rj ls b).map V.int:=pF pr;refine kk l _ hl s2 (by rw[g2,ey])
theorem cH:ba ["self","behind","system","sides","later","bottom","own","lines","place","line"] ["self","behind"] (aH eh):=by walk_at "d"
theorem uf (T:Txt K mg Z) (ptree:P.given.tree=none):cW P w K mg base iO 5 Z.jJ Z.jF ["self","behind"] (CT K Z.a_System Z.a_Costs):=by
 have Cq:=zQ (P:=P) (w:=w) (base:=base) T ptree;have oB:=rl (P:=P) (w:=w) (base:=base) T ptree;have p6:=wR (P:=P) (w:=w) (base:=base) T ptree;have rS:=uR (P:=P) (w:=w) (base:=base) T ptree;refine T.ni.ok cH (λvs H Q E h=>?_) (λcdv A outer s H vs Q E hr h=>?_)
 ·obtain ⟨x,kn,t,p,H0,mv,pt,lk,qs,rs,wl,wb,sg,om,b,rfl,_⟩:=h;rfl
 ·obtain ⟨x,kn,t,p,H0,mv,pt,lk,qs,rs,wl,wb,sg,om,b,rfl,CQ,D,F,gt,GW,lw,ww,sw,swb,sz,k⟩:=h
  refine ⟨_,(ar (aV (i:=2) cH.nd rfl (Or.inl rfl) (fv (pv 0) rfl))
   (ar (aV (i:=3) cH.nd rfl (Or.inr rfl) (cS Cq hr T.nZ (aa (bw nX (fv (pv 2) rfl) (cS oB hr T.jx (aa (fv (pv 2) rfl) (aa (fv (pv 2) rfl) af)))) af)))
   (ar (mL 4 ["side"] ["sides","behind"] [3,1] cH.nd rfl rfl (cu (aR (iT K (by rfl)) (pv 3) ai)) (λ_=>(aO (i:=0) (show ND9 ["side","sides","behind"] by decide +kernel))) (λ_=>cy) (λ_=>(cS p6 hr T.kF (aa (aR (iT K (by rfl)) (pv 1) ai) (aa (cS p6 hr T.kF (aa (aR (iT K (by rfl)) (pv 2) ai) (aa (pv 0) af))) af)))))
   (ar (aV (i:=5) cH.nd rfl (Or.inl rfl) (bw dc (bw dc (aR bT (pv 3) ai) (aR bT (pv 3) ai)) (aR bT (pv 1) ai)))
   (ar (aV (i:=6) cH.nd rfl (Or.inr rfl) (cS rS hr T.kX (aa (bw nX (fv (pv 0) rfl) (fv (pv 0) rfl)) af)))
   (ar (mL 7 ["line"] ["own"] [6] cH.nd rfl rfl (cu (pv 4)) (λ_=>(aO (i:=0) (show ND9 ["line","own"] by decide +kernel))) (λ_=>cy) (λ_=>(cv ["value"] ["own"] [1] (uM K (pv 0)) (λ_=>(aO (i:=0) (show ND9 ["value","own"] by decide +kernel))) (λ_=>cy) (λ_=>(bw dc (pv 0) (aR (iT K (by rfl)) (pv 1) ai))))))
   (ar (eI PassesOwn.never rfl (Bv rfl T.enumerate (aa (aR bT (pv 6) ai) af)) (wg rfl (cV (aO (i:=8) cH.nd) (cV (aO (i:=9) cH.nd) kf)))
    (az (gO (bw fw (aR bf (aR bf (pv 7) (pv 8)) (pv 8)) (bw dc (aR bf (pv 9) (pv 8)) (pv 5))) (iZ (aR bf (pv 7) (pv 8)) (pv 8) set_list))))
   (az (bc (cK (aa (pv 7) (aa (bw dc (pv 5) (aR (iT K (by rfl)) (pv 6) ai)) af)))))))))))),?_⟩
  refine aW (σ:=[some (.ref x),some (.ref t),none,none,none,none,none,none,none,none]) rfl ?_;have d8:=D.n8;have i4:=D.i4;obtain ⟨dx,sy,a1,a2,a3,gx,S,R1,R2⟩:=id CQ;obtain ⟨dy,am,ap,al,gy,m1,m2,m3,Gm,Gp,Gl⟩:=id S;obtain ⟨up,gp,qp,_⟩:=id Gp;have lup:=qp.length;exists ⟨x,Z.a_Costs,dx,_,_,rfl,gx,T.cl_Costs,T.na_Costs_system,wF,?_⟩;exists ⟨sy,Z.a_System,dy,_,_,rfl,gy,T.cl_System,T.na_put,Fk,?_⟩;exists ⟨sy,Z.a_System,dy,_,_,rfl,gy,T.cl_System,T.na_move,CK,?_⟩;exists ⟨sy,Z.a_System,dy,_,_,rfl,gy,T.cl_System,T.na_states,yl,?_⟩;exists ⟨am,mv.length,H0,mv,rfl,Gm,by lia,by lia,D.mw,λr1 H1 n1 s1 G1=>?_⟩;obtain ⟨u1,g1,q1,_⟩:=id G1;have lu1:=q1.length;have et:(qe mv mv.length).length=mv.length:=lE;exists nU (s1 _ _ gp) g1 (aT (bz (by lia))) λr2 H2 s2 n2 g2=>?_
  have s02:=s1.trans s2;have P2:Paired (iI K (λ_=>none) H2) (jL mv pt) (up++u1):=cb (Paired.imp' (λ_ _ ⟨q,e,_,R⟩=>⟨q,e,rfl,R.same s02⟩) qp) (Paired.imp' (λ_ _ ⟨q,e,_,R⟩=>⟨q,e,rfl,R.same s2⟩) q1);have G2:cN K (λ_=>none) H2 r2 (jL mv pt):=⟨_,g2,P2,wV ⟨H1,n2,cb (Paired.imp' (λ_ _ ⟨q,e,_,R⟩=>⟨q,e,rfl,R.same s1⟩) qp) (Paired.imp' (λ_ _ ⟨q,e,_,R⟩=>⟨q,e,rfl,R⟩) q1)⟩⟩;have sl:=yq (mv:=mv) (pt:=pt);have sdw:=xU D;have fl:(jL mv pt).flatten.length<=96:=aj (Ca (m:=8) λxs hx=>by rw[sdw xs hx];exact d8) (by lia);obtain ⟨Ms,hMs⟩:=F.ms;obtain ⟨Mo,hMo⟩:=F.mo;have ss:=F.ss;have sbb:=F.sb;have os:=F.os;have obb:=F.ob;have lS:(nL (jL mv pt)).length=pt.length+mv.length:=by rw[uv,sl]
  have wS:=vT sdw;exists ⟨r2,_,_,Ms,rfl,G2,by lia,by lia,λxs hx=>by rw[sdw xs hx];lia,hMs,λt3 r3 H3 g3 s3 G3=>?_⟩;have s03:=s02.trans s3;generalize hS:nL (jL mv pt)=S9 at G3 ss lS wS;generalize hB:qE (jL mv pt)=B9 at g3 sbb;obtain ⟨u3,gu3,qu3⟩:=id G3;have lu3:=qu3.length;have gt3:=s03 _ _ gt;exists ⟨⟨_,bP.of gu3⟩,?_⟩;refine dH (K:=K) (as:=S9) (F:=RI) RI (λs=>rj S9 (rj wl s)) gu3 qu3 (by lia) (λh s=>h.same s) (λh s=>h.same s) ?_ ?_
  ·rintro i c v H' NY NN ec s' ⟨u,rfl,gc⟩ k1;have mc:=ak ec;have gt':=s' _ _ gt3;have g3':=s' _ _ g3;exists ⟨p,u,wl,c,b,sg,rfl,GW.same (s03.trans s'),gc,λl hl=>by rw[ww l hl,wS c mc],by lia,by rw[wS c mc];lia,sw,ss c mc,by lia,λr5 H5 n5 s5 g5=>?_⟩;have g35:=s5 _ _ g3';exists ⟨r3,r5,S9,_,sg,b+sg+8,rfl,G3.same (s'.trans s5),g5,λl hl=>by unfold rj;rw[ag,lw,wS l hl],by lia,by unfold rj;rw[ag];lia,ss,λz hz=>?_,by lia,λr6 H6 n6 s6 g6=>k1 _ _ (s5.trans s6) ⟨r6,rfl,g6⟩⟩;unfold rj at hz;obtain ⟨l,hl,rfl⟩:=ay.mp hz;exact (ve (sw l hl) (ss c mc)).mono (by rw[ww l hl];lia)
  rintro ys4 H4 l4 n4 s4 g4 pr4 _;have s34:=s4;have s04:=s03.trans s4;have g34:=s4 _ _ g3;have gt4:=s04 _ _ gt;exists fG (show gX _ _ from .inr ⟨sg,sg,sbb,sbb,by lia⟩) ?_;exists fG (show gX _ _ from .inr ⟨sg+sg,b,sbb.mul sbb,swb,by lia⟩) ?_;have gx4:=s04 _ _ gx;obtain ⟨v1,gv1,qv1⟩:=R1.same s04;obtain ⟨v2,gv2,qv2⟩:=R2.same s04;have lq:=F.lq;have lr:=F.lr;have lv1:=qv1.length;have lv2:=qv2.length;exists ⟨x,Z.a_Costs,dx,_,_,rfl,gx4,T.cl_Costs,T.na_Costs_put_weights,PC,?_⟩;exists ⟨x,Z.a_Costs,dx,_,_,rfl,gx4,T.cl_Costs,T.na_Costs_state_weights,Pz,?_⟩;exists nU gv2 gv1 (aT (bz (by lia))) λr5 H5 s5 n5 g5=>?_
  have s05:=s04.trans s5;have R5:cg K H5 r5 (lX qs rs):=⟨_,g5,cb (Paired.imp' (λ_ _ z=>z.same s5) qv2) (Paired.imp' (λ_ _ z=>z.same s5) qv1)⟩;have lo:(lX qs rs).length=pt.length+mv.length:=by unfold lX;rw[aD];lia
  exists ⟨r5,_,Mo,rfl,R5,by lia,hMo,λt6 r6 H6 g6 s6 G6=>?_⟩;replace G6:=G6.gi;have s06:=s05.trans s6;generalize hO:ck ((lX qs rs).map nm) (cM ((lX qs rs).map nm))=O9 at G6 os;generalize hC:cM ((lX qs rs).map nm)=C9 at g6 obb;have lO:O9.length=pt.length+mv.length:=by rw[<- hO];unfold ck;rw[ag,ag,lo]
  obtain ⟨u6,gu6,qu6⟩:=id G6;have lu6:=qu6.length;have lml:(Ea O9).length=O9.length:=by unfold Ea;rw[ag,bS]
  have g46:=(s5.trans s6) _ _ g4;have pr46:Paired (RI H6) (S9.map λs=>rj S9 (rj wl s)) ys4:=Paired.imp' (λ_ _ z=>RI.same z (s5.trans s6)) pr4
  have szL:∀s∈S9,∀z∈rj S9 (rj wl s),Sz (b+2*sg+16) z:=λs hs z hz=>by
   unfold rj at hz;obtain ⟨l,hl,rfl⟩:=ay.mp hz;refine (ve (ss l hl) (j:=b+sg+8) λz hz=>?_).mono (by rw[wS l hl];lia);obtain ⟨l',hl',rfl⟩:=ay.mp hz;exact (ve (sw l' hl') (ss s hs)).mono (by rw[ww l' hl'];lia)
  exists ⟨⟨_,bP.of g46⟩,?_⟩;refine EY (K:=K) (as:=S9.map λs=>rj S9 (rj wl s)) (F:=RI) (λl=>l.map λz=>z*C9) g46 pr46 (by rw[ag];lia) (λh s=>h.same s) ?_ ?_
  ·rintro i c v H' NY NN ec s' ⟨u,rfl,gc⟩ k1;obtain ⟨s9,hs9,rfl⟩:=ay.mp (ak ec);have g6':=s' _ _ g6;exists ⟨⟨_,bP.of gc⟩,?_⟩;refine dH (K:=K) (as:=rj S9 (rj wl s9)) (F:=λ_ z x=>x=V.int z) (λ_ z x=>x=V.int z) (λz=>z*C9) gc l8 (by unfold rj;rw[ag];lia) (λh _=>h) (λh _=>h) ?_ ?_
   ·rintro j z v H3 NY2 NN2 ez s3 rfl k2;have g63:=s3 _ _ g6';exists fG (show gX _ _ from .inr ⟨b+2*sg+16,om,szL s9 hs9 z (ak ez),obb,by lia⟩) ?_;exact k2 _ _ (aA.refl _) rfl
   rintro ys H3 l hl s3 g3 pr _;exact k1 l H3 s3 hl (by rw[g3,pF pr])
  rintro ys8 H8 r8 n8 s8 g8 nd8 pr8 nin8;have eL:((S9.map λs=>rj S9 (rj wl s)).map λl=>l.map λz=>z*C9)=DA S9 wl C9:=by unfold DA;rw[Gh];rfl
  rw[eL] at pr8;have ly8:=pr8.length;rw[wt] at ly8;have s08:=s06.trans s8;have lw8:=xZ (sl:=S9) (wl:=wl) (ob:=C9);have g68:=s8 _ _ g6;have gu8:=s8 _ _ gu6;have qu8:Paired (RI H8) (Ea O9) u6:=Paired.imp' (λ_ _ z=>RI.same z s8) qu6;exists ⟨⟨_,bP.of gu8⟩,?_⟩;have lpos:(DA S9 wl C9).length=S9.length:=wt;refine DE (K:=K) (l:=r6) (xs:=u6) (λi σ' H'=>(aA H6 H'/\H' r8=some (.lst ys8)/\Paired (z6 H6 H') (AK (DA S9 wl C9) (λi=>O9.getD i 0*(B9*B9*wb)) i) ys8)/\∃y1 y2,σ'=[some (.ref x),some (.ref t),some (.ref sy),some (.ref t3),some (.ref l4),some (.int (B9*B9*wb)),some (.ref t6),some (.ref r8),y1,y2]) ⟨⟨s8,g8,pr8⟩,_,_,rfl⟩ (λi σ' H' _ ⟨⟨s,_⟩,_⟩=>bP.of (s _ _ gu6)) ?_ ?_
  ·rintro i v σ' H' pp hv ⟨⟨s',gr,pr⟩,y1,y2,rfl⟩ npp;have hi6:i < u6.length:=(aY.mp hv).1;have hi:i < O9.length:=by lia
   have s2:aA H' (upd H' pp (.tup [.int i,v])):=aA.new npp;have gpp:(upd H' pp (.tup [.int i,v])) pp=some (.tup [.int i,v]):=aE;generalize upd H' pp (.tup [.int i,v])=H2 at s2 gpp ⊢;have s62:=s'.trans s2;obtain ⟨row,er,u,rfl,gu⟩:=dG (Paired.imp' (λ_ _ z=>RI.same z s62) qu6) hv;rw[Ph hi] at er;cases er;have pr2:Paired (z6 H6 H2) (AK (DA S9 wl C9) (λi=>O9.getD i 0*(B9*B9*wb)) i) ys8:=Paired.imp' (λ_ _ z=>z6.same z s2) pr;have la:=uk (L:=DA S9 wl C9) (f:=λi=>O9.getD i 0*(B9*B9*wb)) i;obtain ⟨zs,w9,ez,ew,mz,q,rfl,nq,gq⟩:=jW pr2 (i:=i) (by lia);have wz:zs.length=S9.length:=so lw8 i (by lia) zs mz;have ezD:(AK (DA S9 wl C9) (λi=>O9.getD i 0*(B9*B9*wb)) i).getD i []=zs:=by rw[ae,ez];rfl
   have gr2:=s2 _ _ gr;have qr:r8≠q:=λz=>nin8 (by rw[z];exact ak ew)
   have e9:((List.range O9.length).map λj=>if j=i then O9.getD j 0 else 0).getD i 0=O9.getD i 0:=by rw[ae,aB,c8 hi];show (if i=i then O9.getD i 0 else 0)=_;rw[if_pos rfl]
   exists cO (bP.of gr2) (gh ew) ?_;exists cO (bP.of gq) (CF (by lia)) ?_;exists cO (bP.of gu) (CF (by rw[ag,bS];exact hi)) ?_;rw[e9];exists fG (show gX _ _ from .inr ⟨om,sg+sg+b,os _ (getD_in hi),(sbb.mul sbb).mul swb,by lia⟩) ?_;exists cO (bP.of gr2) (gh ew) ?_;exists fW gq (gV (by rw[ag];lia)) rfl ?_;refine ⟨⟨s62.after nq,by rw[aN qr];exact gr2,?_⟩,_,_,rfl⟩;have:=Dk (zs:=zs.set i (zs.getD i 0+O9.getD i 0*(B9*B9*wb))) nq pr2 nd8 ew;rw[List.map_set] at this;show Paired _ ((AK _ _ i).set i (((AK _ _ i).getD i []).set i (((AK _ _ i).getD i []).getD i 0+_))) _
   rw[ezD];exact this
  rintro σ' H9 ⟨⟨s9,g9,pr9⟩,y1,y2,rfl⟩;have g69:=s9 _ _ g6;exists fG (show gX _ _ from .inr ⟨sg+sg+b,om,(sbb.mul sbb).mul swb,obb,by lia⟩) ?_;exists bU λtA HA sA gA=>?_
  have s0A:=(s06.trans s9).trans sA;refine k tA r8 ys8 HA (by unfold kS;rw[hB,hC];exact gA) s0A (s06.none n8) (sA _ _ g9) ?_;unfold d7 Qn;rw[hO,hS,hB,hC,show S9.length=u6.length by lia];exact Paired.imp' (λ_ _ ⟨q,e,n,g⟩=>⟨q,e,s06.none n,sA _ _ g⟩) pr9
theorem lP:ba ["lines","at","place","before","used","by","swept"] ["lines","at","place","before"] (aH vY):=by walk_at "d"
theorem ED (T:Txt K mg Z) (ptree:P.given.tree=none):cW P w K mg base iO 1 Z.AM Z.Aw ["lines","at","place","before"] Aj:=by
 refine T.ug.F.ok lP (λvs H Q E h=>?_) (λcdv A outer s H vs Q E hr h=>?_)
 ·obtain ⟨l,p,ls,kk,c,n,b,rfl,_⟩:=h;rfl
 ·obtain ⟨l,p,ls,kk,c,n,b,rfl,hl,G,l1000,hk,hw,n1000,hc,b0,sb,hs,k⟩:=h
  refine ⟨_,(ar (aV (i:=4) lP.nd rfl (Or.inr rfl) (aR bf (pv 0) (pv 1)))
   (ar (aV (i:=5) lP.nd rfl (Or.inr rfl) (aR bf (pv 4) (pv 2)))
   (ar (mL 6 ["line"] ["used","by","place","before"] [4,5,2,3] lP.nd rfl rfl (cu (pv 0)) (λ_=>(aO (i:=0) (show ND9 ["line","used","by","place","before"] by decide +kernel) rfl (Or.inr rfl) (Or.inl rfl))) (λ_=>cy) (λ_=>(cv ["mine","yours"] ["by","line","place","before"] [2,0,3,4] (IT K rfl T.zip (aa (pv 0) (aa (pv 1) af))) (λ_=>(uN K 2 (cV (aO (i:=0) (show ND9 ["mine","yours","by","line","place","before"] by decide +kernel)) (cV (aO (i:=1) (show ND9 ["mine","yours","by","line","place","before"] by decide +kernel)) kf)))) (λ_=>cy) (λ_=>(bw (fM rfl lP rfl rfl rfl ptree (oK hr)) (bw lY (bw dc (pv 2) (pv 0)) (bw dc (aR (va K (by rfl)) (pv 3) (pv 4)) (pv 1))) (pv 5))))))
   (ar (gO (pv 4) (iZ (pv 6) (pv 1) set_list))
   (az (bc (pv 6))))))),?_⟩
  refine aW (σ:=[some (.ref p),some (.int kk),some (.int c),some (.int b),none,none,none]) rfl ?_;obtain ⟨pl,xs,gx,qx⟩:=id G;have lx:=qx.length;obtain ⟨zk,vk,ek,evk,mk,qk,rfl,qkl,gk⟩:=jW qx hk;have wk:=hw zk mk;have ek':ls.getD kk []=zk:=by rw[ae,ek];rfl
  exists cO (bP.of gx) (gh evk) ?_;exists cO (bP.of gk) (CF (by lia)) ?_;exists ⟨⟨_,bP.of gx⟩,?_⟩;refine fN (K:=K) (xs:=xs) (λi ys H'=>aA H H'/\Paired (Mi l H') ((ls.take i).map λzs=>List.zipWith (λx y=>(zk.getD c 0*x - zs.getD c 0*y).fdiv b) zs zk) ys) (aT (bz (by lia))) ⟨aA.refl _,.nil⟩ (λi ys H' _ ⟨s,_⟩=>bP.of (s _ _ gx)) ?_ ?_
  ·rintro i v ys0 H' hx hlen ⟨s',pr⟩;obtain ⟨zs,ec,q,rfl,ql,gq⟩:=dG qx hx;have mz:=ak ec;have wz:=hw zs mz;have gq':=s' _ _ gq;have gk':=s' _ _ gk;exists ⟨⟨_,bP.of gq'⟩,⟨_,bP.of gk'⟩,?_⟩;refine zh (K:=K) (xs:=zs.map V.int) (ws:=zk.map V.int) (λj ys H2=>aA H' H2/\ys=((List.zipWith (λx y=>(zk.getD c 0*x - zs.getD c 0*y).fdiv b) zs zk).take j).map V.int) (aT (bz (by rw[ag];lia))) (by rw[ag,ag];lia) ⟨aA.refl _,rfl⟩ (λj ys H2 _ ⟨s2,_⟩=>⟨bP.of (s2 _ _ gq'),bP.of (s2 _ _ gk')⟩) ?_ ?_
   ·rintro j v1 v2 ys H2 r h1 h2 hy ⟨s2,rfl⟩ hr
    obtain ⟨x,ex,rfl⟩:∃x,zs[j]?=some x/\V.int x=v1:=by
     rw[aB] at h1;cases e:zs[j]? with
     | none=>rw[e] at h1;cases h1
     | some x=>rw[e] at h1;exact ⟨x,rfl,b7 h1⟩
    obtain ⟨y,ey,rfl⟩:∃y,zk[j]?=some y/\V.int y=v2:=by
     rw[aB] at h2;cases e:zk[j]? with
     | none=>rw[e] at h2;cases h2
     | some x=>rw[e] at h2;exact ⟨x,rfl,b7 h2⟩
    have sr:aA H2 (upd H2 r (.tup [.int x,.int y])):=aA.new hr;have gr:(upd H2 r (.tup [.int x,.int y])) r=some (.tup [.int x,.int y]):=aE;generalize upd H2 r (.tup [.int x,.int y])=H3 at sr gr ⊢;have gq3:=sr _ _ (s2 _ _ gq');have sx:=hs zs mz x (ak ex);have sy:=hs zk mk y (ak ey);have s1:=hs zk mk _ (getD_in (e:=0) (show c < zk.length by lia));have s3:=hs zs mz _ (getD_in (e:=0) (show c < zs.length by lia));exists fG (show gX _ _ from .inr ⟨_,_,s1,sx,by decide⟩) ?_;exists cO (bP.of gq3) (CF (by lia)) ?_;exists fG (show gX _ _ from .inr ⟨_,_,s3,sy,by decide⟩) ?_;exists fG (show nk _ _ from ⟨b0,sb⟩) ?_;have ez:(List.zipWith (λx y=>(zk.getD c 0*x - zs.getD c 0*y).fdiv b) zs zk)[j]?=some ((zk.getD c 0*x - zs.getD c 0*y).fdiv b):=by rw[cw,ex,ey]
    exact ⟨s2.trans sr,by rw[take_snoc ez];simp⟩
   ·rintro ys H2 hy ⟨s2,rfl⟩ r hr;have sn:aA H2 (upd H2 r (.lst (((List.zipWith (λx y=>(zk.getD c 0*x - zs.getD c 0*y).fdiv b) zs zk).take (zs.map V.int).length).map V.int))):=aA.new hr;refine ⟨(s'.trans s2).trans sn,?_⟩;rw[take_snoc ec,cD];refine cb (Paired.imp' (λ_ _ z=>(Mi.same z s2).same sn) pr) (.cons ⟨r,rfl,ne_old (λz=>hl (s'.none (s2.none z))) hr,?_⟩ .nil);rw[aE,aJ (by rw[cA,ag];lia)]
  ·rintro ys H1 hy ⟨s1,pr⟩ r hr;have sn:aA H1 (upd H1 r (.lst ys)):=aA.new hr;have gn:(upd H1 r (.lst ys)) r=some (.lst ys):=aE;have ly:=pr.length;rw[ag,dY] at ly;generalize upd H1 r (.lst ys)=H2 at sn gn ⊢;exists fW gn (gV (by lia)) rfl ?_;have s2:aA H1 (upd H2 r (.lst (ys.set kk (.ref qk)))):=sn.after hr;exists k r _ (s1.none hr) (s1.trans s2) ⟨ne_old (λz=>hl (s1.none z)) hr,_,aE,?_⟩;unfold Ho;rw[ek'];rw[aJ (by lia)] at pr;exact tX (Paired.imp' (λ_ _ z=>Mi.same z s2) pr) kk ⟨qk,rfl,qkl,(s1.trans s2) _ _ gk⟩
theorem jc:ba ["lines","bottom","divisor","value"] ["lines","bottom"] (aH tP):=by walk_at "d"
theorem Dq (T:Txt K mg Z) (ptree:P.given.tree=none):cW P w K mg base iO 2 Z.zq Z.y7 ["lines","bottom"] Ft:=by
 have Fc:=FI (P:=P) (w:=w) (base:=base) T ptree;have dS:=gU (P:=P) (w:=w) (base:=base) T ptree;refine T.rB.F.ok jc (λvs H Q E h=>?_) (λcdv A outer s H vs Q E hr h=>?_)
 ·obtain ⟨p,ls,b,rfl,_⟩:=h;rfl
 ·obtain ⟨p,ls,b,rfl,G,l20,w20,b0,sb,k⟩:=h
  refine ⟨_,(ar (aV (i:=2) jc.nd rfl (Or.inr rfl) (pv 1))
   (ar (eI PassesOwn.never rfl (cu (cS Fc hr T.xY (aa (pv 0) af))) (aO (i:=3) jc.nd)
    (az (aV (i:=2) jc.nd rfl (Or.inr rfl) (cS dS hr T.eo (aa (pv 3) (aa (pv 2) af))))))
   (az (bc (cK (aa (cv ["line"] ["divisor"] [2] (cu (pv 0)) (λ_=>(aO (i:=0) (show ND9 ["line","divisor"] by decide +kernel))) (λ_=>cy) (λ_=>(cv ["value"] ["divisor"] [1] (uM K (pv 0)) (λ_=>(aO (i:=0) (show ND9 ["value","divisor"] by decide +kernel))) (λ_=>cy) (λ_=>(bw (fM rfl jc rfl rfl rfl ptree (oK hr)) (pv 0) (pv 1)))))) (aa (bw (fM rfl jc rfl rfl rfl ptree (oK hr)) (pv 1) (pv 2)) af))))))),?_⟩
  refine aW (σ:=[some (.ref p),some (.int b),none,none]) rfl ?_;obtain ⟨us,gu,qu⟩:=id G;have lu:=qu.length;have lf:ls.flatten.length<=400:=aj (Ca w20) (aL 20 l20);exists ⟨p,us,_,rfl,gu,FE qu,by rw[<- List.map_flatten,ag];lia,λf H1 n1 t1 g1=>?_⟩;rw[<- List.map_flatten] at g1;exists ⟨⟨_,bP.of g1⟩,?_⟩;refine iR (K:=K) (a:=f) (xs:=ls.flatten.map V.int) (λi σ' H'=>aA H1 H'/\∃y,σ'=[some (.ref p),some (.int b),some (.int (zN b (ls.flatten.take i))),y]) ⟨aA.refl _,_,rfl⟩ (λi σ' H' _ ⟨s,_⟩=>bP.of (s _ _ g1)) ?_ ?_
  ·rintro i v σ' H' hv ⟨s',y,rfl⟩;rw[aB] at hv;obtain ⟨z,ez,rfl⟩:=iW.mp hv;exists ⟨z,_,rfl,?_⟩;exact ⟨s',_,by rw[take_snoc ez,K6];rfl⟩
  rintro σ' H2 ⟨s2,y,rfl⟩;rw[ag,List.take_length];obtain ⟨d0,d1,d2⟩:=wC (zs:=ls.flatten) b0
  have sd:Sz 4499500 (zN b ls.flatten):=sb.le (by
   have:=Int.le_of_dvd b0 d1
   lia)
  generalize hd:zN b ls.flatten=d at d0 d1 d2 sd ⊢;have s02:=t1.trans s2;exists ⟨⟨_,bP.of (s02 _ _ gu)⟩,?_⟩;refine dH (K:=K) (as:=ls) (F:=RI) (z6 H) (λl=>l.map λz=>z / d) (s02 _ _ gu) (Paired.imp' (λ_ _ z=>RI.same z s02) qu) (by lia) (λh s=>h.same s) (λh s=>h.same s) ?_ ?_
  ·rintro i c x H' NY NN ec s' ⟨u,rfl,gc⟩ k1;have wc:=w20 c (ak ec);exists ⟨⟨_,bP.of gc⟩,?_⟩;refine dH (K:=K) (as:=c) (F:=λ_ z x=>x=V.int z) (λ_ z x=>x=V.int z) (λz=>z / d) gc l8 (by lia) (λh _=>h) (λh _=>h) ?_ ?_
   ·rintro j z v H3 NY2 NN2 ez s3 rfl k2;exists fG ⟨by lia,sd⟩ ?_;exact k2 _ _ (aA.refl _) (by rw[bE _ (by lia)])
   rintro ys H3 l hl s3 g3 pr _;exact k1 _ _ s3 ⟨l,rfl,s02.none (s'.none hl),by rw[g3,pF pr]⟩
  rintro ys H3 r nr s3 g3 pr _;exists fG ⟨by lia,sd⟩ ?_;exists bU λt4 H4 s4 g4=>?_
  rw[bE _ (by lia)] at g4;refine k t4 r H4 (by unfold xO;rw[hd];exact g4) ((s02.trans s3).trans s4) ?_;unfold wW;rw[hd];exact Ec.same ⟨s02.none nr,ys,g3,pr⟩ s4
theorem cP:ba ["self","behind","whole","ins","lines","by","place"] ["self","behind"] (aH eS):=by walk_at "d"
theorem uV (T:Txt K mg Z) (ptree:P.given.tree=none):cW P w K mg base iO 6 Z.j7 Z.j3 ["self","behind"] (C6 K Z.a_System Z.a_Costs):=by
 have vM:=uf (P:=P) (w:=w) (base:=base) T ptree;have Hu:=ED (P:=P) (w:=w) (base:=base) T ptree;have Fb:=Dq (P:=P) (w:=w) (base:=base) T ptree;refine T.oZ.ok cP (λvs H Q E h=>?_) (λcdv A outer s H vs Q E hr h=>?_)
 ·obtain ⟨x,kn,t,p,H0,mv,pt,lk,qs,rs,wl,wb,sg,om,b,j9,rfl,_⟩:=h;rfl
 ·obtain ⟨x,kn,t,p,H0,mv,pt,lk,qs,rs,wl,wb,sg,om,b,j9,rfl,CQ,D,F,gt,GW,lw,ww,sw,swb,sz,kp,AF,j1,k⟩:=h
  refine ⟨_,(ar (aV (i:=2) cP.nd rfl (Or.inl rfl) (gR (pv 0) T.cl_Costs T.l7 vM (hr.mono (by decide)) T.mW .nil jM (aa (pv 1) af)))
   (ar (aV (i:=3) cP.nd rfl (Or.inr rfl) (fv (fv (pv 0) rfl) rfl))
   (ar (aV (i:=4) cP.nd rfl (Or.inl rfl) (aR bT (pv 2) ai))
   (ar (aV (i:=5) cP.nd rfl (Or.inl rfl) ai)
   (ar (eI PassesOwn.never rfl (cG rfl T.range (aa (pv 3) af)) (aO (i:=6) cP.nd)
    (ar (aV (i:=4) cP.nd rfl (Or.inl rfl) (cS Hu hr T.ug (aa (pv 4) (aa (pv 6) (aa (pv 6) (aa (pv 5) af))))))
   (az (aV (i:=5) cP.nd rfl (Or.inl rfl) (aR bf (aR bf (pv 4) (pv 6)) (pv 6))))))
   (ar (mL 4 ["line"] ["ins"] [3] cP.nd rfl rfl (cu (pv 4)) (λ_=>(aO (i:=0) (show ND9 ["line","ins"] by decide +kernel))) (λ_=>cy) (λ_=>(uO (Iw K (by rfl)) (pv 0) (xV (pv 1)) xW)))
   (az (bc (cK (aa (cS Fb hr T.rB (aa (uO xT (pv 4) (xV (pv 3)) xW) (aa (bw dc (pv 5) (aR bT (pv 2) ai)) af))) (aa (cK (aa (uO xT (pv 4) xW (xV (pv 3))) (aa (yE tK (pv 5)) af))) af))))))))))),?_⟩
  refine aW (σ:=[some (.ref x),some (.ref t),none,none,none,none,none]) rfl ?_;have d8:=D.n8;have i4:=D.i4;obtain ⟨dx,sy,a1,a2,a3,gx,S,R1,R2⟩:=id CQ;obtain ⟨dy,am,ap,al,gy,m1,m2,m3,Gm,Gp,Gl⟩:=id S;exists ⟨x,dx,_,rfl,gx,oP (by decide +kernel) (by decide +kernel) (by decide +kernel) (by decide +kernel) (by decide +kernel),?_⟩;exists ⟨x,kn,t,p,H0,mv,pt,lk,qs,rs,wl,wb,sg,om,b,rfl,CQ,D,F,gt,GW,lw,ww,sw,swb,sz,λt1 r1 ys1 H1 g1 s1 nr1 gr1 pr1=>?_⟩;have gx1:=s1 _ _ gx;have gy1:=s1 _ _ gy;exists ⟨x,Z.a_Costs,dx,_,_,rfl,gx1,T.cl_Costs,T.na_Costs_system,wF,?_⟩;exists ⟨sy,Z.a_System,dy,_,_,rfl,gy1,T.cl_System,T.na_ins,Kb,?_⟩;have nxe:∀{q},H q=none->q≠x:=λh z=>by rw[z,gx] at h;cases h
  have G1:DZ x H1 r1 (d7 mv pt qs rs wl wb):=⟨nxe nr1,ys1,gr1,Paired.imp' (λ_ _ ⟨q,e,n,g⟩=>⟨q,e,nxe n,g⟩) pr1⟩;have sB:Sz (b+2*sg+om+40) (kS mv pt qs rs wb):=(((F.sb.mul F.sb).mul swb).mul F.ob).mono (by lia);generalize hL:d7 mv pt qs rs wl wb=L at G1 AF k;generalize hB:kS mv pt qs rs wb=B9 at g1 sB kp k;clear pr1 gr1;have N12:pt.length+mv.length<=12:=by lia
  exists ⟨by lia,by lia,?_⟩;refine fh (n:=pt.length) (λi σ' H'=>aA H1 H'/\∃rr y,σ'=[some (.ref x),some (.ref t),some (.ref t1),some (.int pt.length),some (.ref rr),some (.int (fj L i).2),y]/\DZ x H' rr (fj L i).1) ⟨aA.refl _,r1,_,rfl,G1⟩ ?_ ?_
  ·rintro i σ' H' hi ⟨s',rr,y,rfl,Gr⟩;have li:=AF.len i (by lia);have wi:=AF.wide i (by lia);have li1:=AF.len (i+1) (by lia);have wi1:=AF.wide (i+1) (by lia);exists ⟨x,rr,_,i,i,_,_,rfl,by rw[s' _ _ gx1];exact (λz=>nomatch z),Gr,by lia,by lia,wi,by lia,by lia,by have:=AF.pos i (by lia);lia,(AF.sb i (by lia)).mono (by lia),λl hl z hz=>(AF.sz i (by lia) l hl z hz).mono (by lia),λr2 H2 n2 s2 G2=>?_⟩;have G2:DZ x H2 r2 (fj L (i+1)).1:=G2;obtain ⟨_,vs,gv,qv⟩:=id G2;have lv:=qv.length;obtain ⟨zs,v9,ez,ev,mz,q,rfl,nq,gq⟩:=jW qv (i:=i) (by lia);have wz:=wi1 zs mz
   have eD:(fj L (i+1)).2=zs.getD i 0:=by
    show ((fj L (i+1)).1.getD i []).getD i 0=_
    rw[ae (l:=(fj L (i+1)).1),ez];rfl
   exists cO (bP.of gv) (gh ev) ?_;exists cO (bP.of gq) (CF (by lia)) ?_;exact ⟨s'.trans s2,r2,_,by rw[eD];rfl,G2⟩
  rintro σ' H2 ⟨s2,rr,y,rfl,Gr⟩;have lm:=AF.len pt.length (au _);have wm:=AF.wide pt.length (au _);have pm:=AF.pos pt.length (au _);have sm:=AF.sb pt.length (au _);have zm:=AF.sz pt.length (au _);obtain ⟨_,vs,gv,qv⟩:=id Gr;have lv:=qv.length;have s02:=s1.trans s2;exists ⟨⟨_,bP.of gv⟩,?_⟩;refine dH (K:=K) (as:=(fj L pt.length).1) (F:=Mi x) (z6 H) (λl=>l.drop pt.length) gv qv (by lia) (λh s=>h.same s) (λh s=>h.same s) ?_ ?_
  ·rintro i c v H' NY NN ec s' ⟨u,rfl,nu,gc⟩ k1;exists Et (bP.of gc) λlA HA sA nA gA=>?_
   rw[DJ,<- List.map_drop] at gA;exact k1 _ _ sA ⟨lA,rfl,s02.none (s'.none nA),gA⟩
  rintro ys3 H3 r3 n3 s3 g3 pr3 _;have l3:=pr3.length;rw[ag] at l3;have s03:=s02.trans s3;have g13:=(s2.trans s3) _ _ g1;exists Et (bP.of g3) λr4 H4 s4 n4 g4=>?_
  rw[DJ] at g4;have s04:=s03.trans s4;have P4:Paired (RI H4) (Dz L pt.length) (ys3.drop pt.length):=Paired.imp' (λ_ _ ⟨q,e,_,g⟩=>⟨q,e,s4 _ _ g⟩) (sQ pr3 pt.length);have g14:=s4 _ _ g13;exists fG (show gX _ _ from .inr ⟨j9,b+2*sg+om+40,sm,sB,by lia⟩) ?_;walk_at "w";have llo:(Dz L pt.length).length<=20:=by unfold Dz Li;rw[eZ,ag];lia
  have wlo:∀l∈Dz L pt.length,l.length<=20:=λl hl=>by
   obtain ⟨l',h',rfl⟩:=ay.mp (fu hl);rw[eZ,wm l' h']
   lia
  refine ⟨r4,Dz L pt.length,_,rfl,⟨_,g4,P4⟩,llo,wlo,hZ pm kp,(sm.mul sB).mono (by lia),λt5 r5 H5 g5 s5 G5=>?_⟩;have s05:=s04.trans s5;exists Et (bP.of ((s4.trans s5) _ _ g3)) λr6 H6 s6 n6 g6=>?_
  rw[JH] at g6;exists bU λt7 H7 s7 g7=>?_
  exists bU λt8 H8 s8 g8=>?_
  have s58:=(s6.trans s7).trans s8;refine k _ t8 t5 t7 r5 r6 H8 rfl (s05.trans s58) g8 (s58 _ _ g5) ((G5.weak s04).same s58) (s8 _ _ g7) ⟨s05.none n6,_,(s7.trans s8) _ _ g6,?_⟩;exact Paired.imp' (λ_ _ z=>z6.same z ((s4.trans s5).trans s58)) (wO pr3 pt.length)
theorem tM:ba ["self","left"] ["self","left"] (aH ef):=by walk_at "d"
theorem i5 (T:Txt K mg Z) (ptree:P.given.tree=none):cW P w K mg base iO 7 Z.jI Z.jE ["self","left"] (Fu K Z.a_System Z.a_Costs):=by
 have wM:=uV (P:=P) (w:=w) (base:=base) T ptree;refine T.nh.ok tM (λvs H Q E h=>?_) (λcdv A outer s H vs Q E hr h=>?_)
 ·obtain ⟨A9,x,kn,H0,mv,pt,lk,qs,rs,fs,tt,sg,om,b,j9,l,us,rfl,_⟩:=h;rfl
 ·obtain ⟨A9,x,kn,H0,mv,pt,lk,qs,rs,fs,tt,sg,om,b,j9,l,us,rfl,LA,Ak,CQ,D,F,lT,KU,k⟩:=h
  refine ⟨_,(ar (yB PassesOwn.never (br Pc (bO bG (by rfl) T.len bx (aa (fv (pv 0) rfl) af)) (pv 1) (bF _))
    (az (fX (rh bZ cn cm gM (fv (pv 0) rfl) (aa (gR (pv 0) T.cl_Costs T.mS wM (hr.mono (by decide)) T.oT .nil jM (aa (aR bT (aR bf (fv (pv 0) rfl) (yE tK ai)) ai) af)) af)))))
   (az (bc (aR bf (fv (pv 0) rfl) (pv 1))))),?_⟩
  refine aW (σ:=[some (.ref x),some (.int l)]) rfl ?_;have t8:=F.t8;exists AZ (λσ' H'=>σ'=[some (.ref x),some (.int l)]/\tE kn H H'/\∃us',sG A9 (dh mv pt qs rs fs) kn H' us') (λ_ H'=>match H' kn with | some (.lst ws)=>20 - ws.length | _=>0) ⟨rfl,(aA.refl _).smx,us,KU⟩ ?_;rintro σ' H' ⟨rfl,sH,ws,KW⟩;obtain ⟨gw,w1,w9,pw⟩:=id KW;have CW:=CQ.same (jC Ak sH);have LW:=LA.smx sH gw;have CH:=CW.same aZ;obtain ⟨dx,sy,a1,a2,a3,gx,S,R1,R2⟩:=id CH;exists ⟨x,Z.a_Costs,dx,_,_,rfl,gx,T.cl_Costs,T.na_Costs_known,vw,?_⟩;exists ⟨_,_,rfl,.inl (bP.of gw),?_⟩;exists ia (λh=>?_) (λh=>?_)
  ·have h:=of_decide_eq_true h;obtain ⟨ds,v,ed,ev,md,kv⟩:=jW pw (i:=ws.length - 1) (by rw[ag,bS];lia);rw[aB,c8 (by lia)] at ed;cases ed;have ew:∃zs,ws=zs++[v]:=⟨ws.take (ws.length - 1),by rw[<- take_snoc ev,aJ (by lia)]⟩;obtain ⟨zs,rfl⟩:=ew;have lz:(zs++[v]).length=zs.length+1:=aD ..;rw[lz,Nat.add_sub_cancel] at kv;have tz:zs.length < tt:=by lia
   obtain ⟨t,tw,ts,pw',ps',rfl,g1,g2,G1,g3,G2⟩:=kv.same aZ;exists ⟨x,Z.a_Costs,dx,_,_,rfl,gx,T.cl_Costs,T.na_Costs_known,vw,?_⟩;exists ⟨.inl ⟨rfl,_,bP.of gw⟩,?_⟩;exists ⟨x,dx,_,rfl,gx,oP (by decide +kernel) (by decide +kernel) (by decide +kernel) (by decide +kernel) (by decide +kernel),?_⟩;exists ⟨x,Z.a_Costs,dx,_,_,rfl,gx,T.cl_Costs,T.na_Costs_known,vw,?_⟩;exists cO (bP.of gw) (DR _ _) ?_;exists ⟨x,kn,tw,pw',H0,mv,pt,lk,qs,rs,_,_,sg,om,b,j9,rfl,CH,D,F.st,g2,G1,F.lw _ (by lia),F.ww _ (by lia),F.sw _ (by lia),(F.wb _ (by lia)).2,F.l1,F.kp _ tz,F.ah _ tz,F.l2,λv' t' tw' ts' pw2 ps2 H2 e2 s2 h1 h2 N1 h3 N2=>?_⟩;subst e2;have gw2:=s2 _ _ gw;have L2':=LW.same s2;have KV:QF (cI A9 H2) (dh mv pt qs rs fs (zs.length+1)) (.ref t'):=⟨t',tw',ts',pw2,ps2,rfl,fD h1 (L2'.tup h1),fD h2 (L2'.tup h2),N1.hid LW,fD h3 (L2'.tup h3),N2.hid LW⟩;exists gL gw2 (bz (by lia)) ?_;have l2:(zs++[V.ref t]++[V.ref t']).length=zs.length+2:=by simp
   refine ⟨⟨rfl,(sH.trans s2.smx).put,_,aE,by lia,by lia,?_⟩,?_⟩
   ·rw[l2,zL,cD,vb Ak];refine cb ?_ (.cons KV .nil);rw[lz] at pw;exact Paired.imp' (λ_ _ z=>z.same (b8 s2)) pw
   ·show (match (upd H2 kn (.lst (zs++[V.ref t]++[V.ref t']))) kn with | some (.lst ws)=>20 - ws.length | _=>0) < (match H' kn with | some (.lst ws)=>20 - ws.length | _=>0)
    rw[aE,gw];show 20 - (zs++[V.ref t]++[V.ref t']).length < 20 - (zs++[V.ref t]).length
    lia
  have h:¬((ws.length:Int)<=(l:Int)):=λz=>h (decide_eq_true z)
  obtain ⟨ds,v,ed,ev,md,kv⟩:=jW pw (i:=l) (by rw[ag,bS];lia);rw[aB,c8 (by lia)] at ed;cases ed;exists ⟨x,Z.a_Costs,dx,_,_,rfl,gx,T.cl_Costs,T.na_Costs_known,vw,?_⟩;exists cO (bP.of gw) (gh ev) ?_;exact k v ws H' sH KW kv
theorem yv:ba ["self","left"] ["self","left"] (aH gK):=by walk_at "d"
theorem yN (T:Txt K mg Z) (ptree:P.given.tree=none):cW P w K mg base iO 8 Z.oy Z.ox ["self","left"] (CL K Z.a_System Z.a_Costs):=by
 have D3:=BL (P:=P) (w:=w) (base:=base) T ptree;have fA:=i5 (P:=P) (w:=w) (base:=base) T ptree;refine T.tG.ok yv (λvs H Q E h=>?_) (λcdv A outer s H vs Q E hr h=>?_)
 ·obtain ⟨A9,x,kn,H0,mv,pt,lk,qs,rs,fs,tt,sg,om,b,j9,l,us,rfl,_⟩:=h;rfl
 ·obtain ⟨A9,x,kn,H0,mv,pt,lk,qs,rs,fs,tt,sg,om,b,j9,l,us,rfl,LA,Ak,CQ,D,F,lT,KU,k⟩:=h;refine ⟨_,(az (bc (cS D3 hr T.pM (aa (aR bT (gR (pv 0) T.cl_Costs T.fZ fA (hr.mono (by decide)) T.gW .nil jM (aa (pv 1) af)) ai) af)))),?_⟩;refine aW (σ:=[some (.ref x),some (.int l)]) rfl ?_;have d8:=D.n8;obtain ⟨dx,sy,a1,a2,a3,gx,S,R1,R2⟩:=CQ.same aZ;exists ⟨x,dx,_,rfl,gx,oP (by decide +kernel) (by decide +kernel) (by decide +kernel) (by decide +kernel) (by decide +kernel),?_⟩;exists ⟨A9,x,kn,H0,mv,pt,lk,qs,rs,fs,tt,sg,om,b,j9,l,us,rfl,LA,Ak,CQ,D,F,lT,KU,λv us' H1 s1 KU1 kv=>?_⟩;obtain ⟨t,tw,ts,pw,ps,rfl,g1,g2,G1,g3,G2⟩:=kv.same aZ;exists ⟨tw,pw,_,_,rfl,g2,G1,by rw[F.lw l lT];lia,λc hc=>by rw[F.ww l lT c hc];lia,by have:=(F.wb l lT).1;lia,(F.wb l lT).2.mono (by have:=F.l1;lia),λr2 H2 n2 s2 G=>?_⟩;have L1:=LA.smx s1 KU1.1;have sm:=jC Ak s1
  exact k r2 us' H2 (s1.trans s2.smx) (KU1.same s2) (by
   cases e:H r2 with
   | none=>rfl
   | some o =>
    rcases Classical.em (r2=kn) with z | z
    ·rw[z,KU1.1] at n2;cases n2
    ·rw[s1 _ _ z e] at n2;cases n2) (L1.new n2) (G.hid (L1.same s2) L1 sm (L1.new n2))
theorem wN:ba ["whole","state","bottom"] ["whole","state"] (aH tO):=by walk_at "d"
theorem wU (T:Txt K mg Z) (ptree:P.given.tree=none):cW P w K mg base iO 4 Z.zo Z.y0 ["whole","state"] (Fs K):=by
 have dJ:=iB (P:=P) (w:=w) (base:=base) T ptree;have rT:=wo (P:=P) (w:=w) (base:=base) T ptree;have p6:=wR (P:=P) (w:=w) (base:=base) T ptree;have fU:=kW (P:=P) (w:=w) (base:=base) T ptree;refine T.mP.F.ok wN (λvs H Q E h=>?_) (λcdv A outer s H vs Q E hr h=>?_)
 ·obtain ⟨t,p,s,ls,b,M,xs,k9,j9,rfl,_⟩:=h;rfl
 ·obtain ⟨t,p,s,ls,b,M,xs,k9,j9,rfl,gt,G,l20,wl,Rs,x20,hM,sk,k1e,b0,sb,j1e,k⟩:=h
  refine ⟨_,(ar (aV (i:=2) wN.nd rfl (Or.inr rfl) (cS dJ hr T.dR (aa (pv 1) af)))
   (az (bc (cv ["value"] ["whole","bottom"] [0,2] (cu (cS p6 hr T.kF (aa (aR bT (pv 0) ai) (aa (cS fU hr T.fY (aa (pv 1) (aa (pv 2) af))) af)))) (λ_=>(aO (i:=0) (show ND9 ["value","whole","bottom"] by decide +kernel))) (λ_=>cy) (λ_=>(cS rT hr T.oJ (aa (pv 0) (aa (bw dc (aR (iT K (by rfl)) (pv 1) ai) (pv 2)) af)))))))),?_⟩
  refine aW (σ:=[some (.ref t),some (.ref s),none]) rfl ?_;obtain ⟨c0,sc⟩:=hM.bot;have lm:(xs.map nm).length=xs.length:=ag ..;exists ⟨s,xs.map nm,M,rfl,Rs.rowK,by lia,hM,λH1 t1=>?_⟩;have gt1:=t1 _ _ gt;exists ⟨s,xs.map nm,M,_,rfl,(Rs.same t1).rowK,by lia,hM,c0,sc,λr2 H2 n2 t2 g2=>?_⟩;have t02:=t1.trans t2;have lt:(ck (xs.map nm) (cM (xs.map nm))).length=xs.length:=by unfold ck;rw[ag,lm]
  exists ⟨p,r2,ls,_,k9,4400000,rfl,G.same t02,g2,λl hl=>by rw[wl l hl,lt],by lia,by lia,sk,λz hz=>yj hM c0 sc hz,k1e,λr3 H3 n3 t3 g3=>?_⟩;have t03:=t02.trans t3;exists ⟨⟨_,bP.of g3⟩,?_⟩;have b1:b*cM (xs.map nm)≠0:=λz=>(Int.mul_eq_zero.mp z).elim b0 (by lia)
  refine dH (K:=K) (as:=rj ls (ck (xs.map nm) (cM (xs.map nm)))) (F:=λ_ z x=>x=V.int z) (b6 K) (λ(z:Int)=>(z:Rat) / ((b*cM (xs.map nm):Int):Rat)) g3 l8 (by unfold rj;rw[ag];lia) (λh _=>h) (λh s=>h.same s) ?_ ?_
  ·rintro j z v H4 NY NN ez s4 rfl k2;have gt4:=s4 _ _ (t03 _ _ gt);exists fG (show gX _ _ from .inr ⟨j9,2200000,sb,sc,by lia⟩) ?_;exists ⟨z,_,rfl,b1,(sb.mul sc).mono j1e,λr5 H5 s5 g5=>?_⟩;exact k2 _ _ s5 (b6.mk g5 (Jg b1))
  rintro ys H4 r nr s4 g4 pr _;refine k r H4 (t03.none nr) (t03.trans s4) ⟨ys,g4,?_⟩
  have e:(rj ls (ck (xs.map nm) (cM (xs.map nm)))).map (λ(z:Int)=>(z:Rat) / ((b*cM (xs.map nm):Int):Rat))=BH ls b xs:=by
   unfold rj BH;rw[Gh];refine CC λl hl=>?_
   have B0:((cM (xs.map nm):Int):Rat)≠0:=λz=>by have:=mU z;lia
   have bb:(b:Rat)≠0:=λz=>b0 (mU z)
   show ((zY l _:Int):Rat) / _=_
   rw[wD (n:=xs.length) (wl l hl) lt,aM]
   have e1:(aU xs.length λj=>((l.getD j 0:Int):Rat)*(((ck (xs.map nm) (cM (xs.map nm))).getD j 0:Int):Rat))=((cM (xs.map nm):Int):Rat)*aU xs.length λj=>((l.getD j 0:Int):Rat)*xs.getD j 0:=by
    rw[<- cJ];refine aS λj _=>?_
    rw[Gq (λx hx=>oS (List.mem_map_of_mem hx))];grind
   rw[e1];grind
  rw[<- e];exact pr
theorem Bo:ba ["self","state","left"] ["self","state","left"] (aH je):=by walk_at "d"
theorem pI (T:Txt K mg Z) (ptree:P.given.tree=none):cW P w K mg base iO 8 Z.rQ Z.rM ["self","state","left"] (Fx K Z.a_System Z.a_Costs):=by
 have uo:=wU (P:=P) (w:=w) (base:=base) T ptree;have fA:=i5 (P:=P) (w:=w) (base:=base) T ptree;refine T.xF.ok Bo (λvs H Q E h=>?_) (λcdv A outer s H vs Q E hr h=>?_)
 ·obtain ⟨A9,x,kn,s,H0,mv,pt,lk,qs,rs,fs,st,tt,sg,om,b,j9,l,M,us,rfl,_⟩:=h;rfl
 ·obtain ⟨A9,x,kn,s,H0,mv,pt,lk,qs,rs,fs,st,tt,sg,om,b,j9,l,M,us,rfl,LA,Ak,CQ,D,F,lT,KU,l1,Rs,ls,hM,k⟩:=h;refine ⟨_,(az (bc (cS uo hr T.mP (aa (aR bT (gR (pv 0) T.cl_Costs T.fZ fA (hr.mono (by decide)) T.gW .nil jM (aa (pv 2) af)) ai) (aa (pv 1) af))))),?_⟩;refine aW (σ:=[some (.ref x),some (.ref s),some (.int l)]) rfl ?_;have d8:=D.n8;have i4:=D.i4;obtain ⟨dx,sy,a1,a2,a3,gx,S,R1,R2⟩:=CQ.same aZ;exists ⟨x,dx,_,rfl,gx,oP (by decide +kernel) (by decide +kernel) (by decide +kernel) (by decide +kernel) (by decide +kernel),?_⟩;exists ⟨A9,x,kn,H0,mv,pt,lk,qs,rs,fs,tt,sg,om,b,j9,l,us,rfl,LA,Ak,CQ,D,F,lT,KU,λv us' H1 s1 KU1 kv=>?_⟩;obtain ⟨t,tw,ts,pw,ps,rfl,g1,g2,G1,g3,G2⟩:=kv.same aZ;obtain ⟨l',rfl⟩:∃l',l=l'+1:=⟨l - 1,by lia⟩;have AF:=F.ah l' (by lia);have lm:=AF.len pt.length (au _);have wm:=AF.wide pt.length (au _);have pm:=AF.pos pt.length (au _);have sm:=AF.sb pt.length (au _);have zm:=AF.sz pt.length (au _);have jw:=F.l2
  have mem:∀c∈(dh mv pt qs rs fs (l'+1)).2.1,c.length=mv.length/\∀z∈c,Sz j9 z:=λc hc=>by
   obtain ⟨c',h',rfl⟩:=ay.mp (di hc);exact ⟨by rw[eZ,wm c' h'];lia,λz hz=>zm c' h' z (fu hz)⟩
  have lk2:(dh mv pt qs rs fs (l'+1)).2.1.length<=20:=by
   show (OB _ _).length<=20
   unfold OB Li;rw[dY,ag]
   lia
  exists ⟨ts,ps,s,_,_,M,st,j9,j9,rfl,g3,G2,lk2,λc hc=>by rw[(mem c hc).1,ls],(Rs.same (jC Ak s1)).same aZ,by lia,hM,λc hc=>(mem c hc).2,by lia,by show -(fj _ _).2≠0;lia,Sz.neg sm,by have:=F.l3;lia,λr2 H2 n2 s2 R=>?_⟩;have L1:=LA.smx s1 KU1.1
  exact k r2 us' H2 (s1.trans s2.smx) (KU1.hide s2 n2) (by
   cases e:H r2 with
   | none=>rfl
   | some o =>
    rcases Classical.em (r2=kn) with z | z
    ·rw[z,KU1.1] at n2;cases n2
    ·rw[s1 _ _ z e] at n2;cases n2) (L1.new n2) (R.hid (L1.same s2) (L1.new n2))
theorem mH:ba ["_law_thing","_law_part"] ["_law_thing"] (aH jT):=by walk_at "d"
theorem uU (T:Txt K mg Z) (ptree:P.given.tree=none):cW P w K mg base iO 2 Z.oW Z.oO ["_law_thing"] (Gz K):=by
 have fF:=kE (P:=P) (w:=w) (base:=base) T ptree;refine T.jB.F.ok mH (λvs H Q E h=>?_) (λcdv A outer s H vs Q E hr h=>?_)
 ·obtain ⟨x,n,rfl,_⟩:=h;rfl
 ·obtain ⟨x,n,rfl,⟨p,rfl,hp⟩,hn,k⟩:=h
  refine ⟨_,(ar (dC (PW.pt (rg (nV (lU (xX rfl T.isinstance PyProof.Rows.boot_tuple T.tuple (pv 0)))) (lR (br Am (bO bG (by rfl) T.len bx (aa (pv 0) af)) ai (bF _))))) (az (bc sO)) bX)
   (ar (eI PassesOwn.never rfl (Nn (pv 0)) (aO (i:=1) mH.nd)
    (az (dC (PW.pt (rg (nV (lU (xX rfl T.isinstance PyProof.Rows.boot_int T.int (pv 1)))) (lR (lU (xX rfl T.isinstance PyProof.Rows.boot_bool T.bool (pv 1)))))) (az (bc sO)) bX)))
   (az (bc (EA (kg uQ (aR bT (pv 0) ai) ai (bF _)) (Ey (kg (IY (Jk hr)) (cS fF hr T.fR (aa (aR bT (pv 0) ai) (aa (aR bT (pv 0) ai) af))) (pv 0) (bF _)))))))),?_⟩
  refine aW (σ:=[some (.ref p),none]) rfl ?_;obtain ⟨hb,hg,_,hs⟩:=hn;exists .inr ⟨p,_,_,rfl,hp,rfl,?_⟩;exists ⟨_,_,rfl,.inr hp,?_⟩;walk_at "w"
  try refine K4 ?_
  exists ⟨⟨_,hp⟩,?_⟩;refine K9 (K:=K) (a:=p) (xs:=[.int n.1,.int n.2]) (λi σ' H'=>H'=H/\∃x,σ'=[some (.ref p),x]) ⟨rfl,none,rfl⟩ (λi σ' H' _ ⟨e,_⟩=>by subst e;exact hp) ?_ ?_
  ·rintro i x σ' H' hx ⟨rfl,y,rfl⟩
   obtain ⟨z,rfl⟩:∃z,x=V.int z:=by
    have hm:x∈[V.int n.1,V.int n.2]:=ak hx;simp only[aF,aQ,or_false] at hm;rcases hm with e | e
    ·exact ⟨_,e⟩
    ·exact ⟨_,e⟩
   exists .inl ⟨_,_,.int z,rfl,?_⟩;exists .inl ⟨_,_,.int z,rfl,?_⟩;exists ⟨rfl,_,rfl⟩
  ·rintro σ' H' ⟨rfl,x,rfl⟩;walk_at "w";rw[decide_eq_true hb];exists ⟨n.1,n.2,rfl,hb,hs.mono (by decide),λr H' s1 h'=>?_⟩;obtain ⟨e1,e2⟩:=Ny hb hg;exists ⟨_,_,Pn,(lo n.1 n.2,hi n.1 n.2),n,by decide,⟨r,rfl,qG.of h'⟩,⟨p,rfl,s1.sqt hp⟩,?_⟩;rw[e1,e2,decide_eq_true rfl];exact k _ s1
theorem yt:ba ["_law_thing","_law_many"] ["_law_thing","_law_many"] (aH nQ):=by walk_at "d"
theorem yL (T:Txt K mg Z) (ptree:P.given.tree=none):cW P w K mg base iO 3 Z.tx Z.sX ["_law_thing","_law_many"] (vV K):=by
 have wL:=uU (P:=P) (w:=w) (base:=base) T ptree;refine T.l5.F.ok yt (λvs H Q E h=>?_) (λcdv A outer s H vs Q E hr h=>?_)
 ·obtain ⟨p,ns,rfl,_⟩:=h;rfl
 ·obtain ⟨p,ns,rfl,hp,hl,hn,k⟩:=h
  refine ⟨_,(ar (dC (PW.pt (rg (nV (lU (yF rfl T.isinstance PyProof.Rows.boot_list T.list (pv 0)))) (lR (br Am (bO bG (by rfl) T.len bx (aa (pv 0) af)) (pv 1) (bF _))))) (az (bc sO)) bX)
   (az (bc (bO (DO rfl) (by rfl) T.all PyProof.Rows.boot_all (aa (cv ["_law_one"] [] [] (cu (pv 0)) (λ_=>(aO (i:=0) (show ND9 ["_law_one"] by decide +kernel))) (λ_=>cy) (λ_=>(cS wL hr T.jB (aa (pv 0) af)))) af))))),?_⟩
  refine aW (σ:=[some (.ref p),some (.int ns.length)]) rfl ?_;obtain ⟨xs,gx,qx⟩:=id hp;have lx:=qx.length;exists ⟨_,_,.lst gx,rfl,?_⟩;exists ⟨_,_,rfl,.inl (bP.of gx),?_⟩;walk_at "w";rw[show ((xs.length:Nat):Int)=(ns.length:Nat) by rw[lx],decide_eq_true rfl];exists ⟨⟨_,bP.of gx⟩,?_⟩;refine fN (K:=K) (xs:=xs) (λi ys H'=>aA H H'/\ys=List.replicate i (.bl true)) (aT (bz (by lia))) ⟨aA.refl _,rfl⟩ (λi ys H' _ ⟨s,_⟩=>bP.of (s _ _ gx)) ?_ ?_
  ·rintro i x ys H' hx hlen ⟨s,rfl⟩;obtain ⟨n,en,z⟩:=dG qx hx;exists ⟨x,n,rfl,s.num z,hn n (ak en),λH2 s2=>⟨s.trans s2,by rw[List.replicate_succ']⟩⟩
  ·rintro ys H' hy ⟨s,rfl⟩ l hl';exists ⟨l,List.replicate xs.length true,rfl,bP.of (by rw[aE];simp),?_⟩;have e4:(List.replicate xs.length true).all id=true:=by simp
   rw[e4];exact k _ (s.trans (aA.new hl'))
theorem mK:ba ["_law_one","_law_other","_law_total","_law_k"] ["_law_one","_law_other"] (aH tU):=by walk_at "d"
theorem Du (T:Txt K mg Z) (ptree:P.given.tree=none):cW P w K mg base iO 3 Z.zD Z.zd ["_law_one","_law_other"] (A8 K):=by
 have ka:=rn (P:=P) (w:=w) (base:=base) T ptree;have jm:=pG (P:=P) (w:=w) (base:=base) T ptree;refine T.rD.F.ok mK (λvs H Q E h=>?_) (λcdv A outer s H vs Q E hr h=>?_)
 ·obtain ⟨p,q,xs,ys,rfl,_⟩:=h;rfl
 ·obtain ⟨p,q,xs,ys,rfl,hp,hq,hl,hz,⟨k1,j1,k2,j2,h1,h2,hkj⟩,kk⟩:=h
  refine ⟨_,(ar (aV (i:=2) mK.nd rfl (Or.inl rfl) (cK (aa ai (aa ai af))))
   (ar (eI PassesOwn.never rfl (cG rfl T.range (aa (bO bG (by rfl) T.len bx (aa (pv 0) af)) af)) (aO (i:=3) mK.nd)
    (az (aV (i:=2) mK.nd rfl (Or.inl rfl) (cS ka hr T.jg (aa (pv 2) (aa (cS jm hr T.iC (aa (aR bf (pv 0) (pv 3)) (aa (aR bf (pv 1) (pv 3)) af))) af))))))
   (az (bc (pv 2))))),?_⟩
  refine aW (σ:=[some (.ref p),some (.ref q),none,none]) rfl ?_;obtain ⟨us,gu,qu⟩:=id hp;obtain ⟨ws,gw,qw⟩:=id hq;have lu:=qu.length;have lw:=qw.length;exists bU λr0 H0 s0 g0=>?_
  exists ⟨_,_,rfl,.inl (bP.of (s0 _ _ gu)),?_⟩;exists ⟨by lia,by lia,?_⟩;refine fh (n:=us.length) (λi σ' H'=>aA H H'/\∃(r:V) (v:Option V),σ'=[some (.ref p),some (.ref q),some r,v]/\b6 K H' (iF (xs.take i) (ys.take i)) r) ⟨s0,_,none,rfl,b6.mk g0 rfl⟩ ?_ ?_
  ·rintro i σ' H' hi ⟨s,r,v,rfl,hr⟩;have ix:i < xs.length:=by lia
   have iy:i < ys.length:=by lia
   obtain ⟨vx,ex,nx⟩:=JU (Paired.imp' (λ_ _ z=>z.same s) qu) ix;obtain ⟨vy,ey,ny⟩:=JU (Paired.imp' (λ_ _ z=>z.same s) qw) iy;exists cO (bP.of (s _ _ gu)) ex ?_;exists cO (bP.of (s _ _ gw)) ey ?_;exists ⟨_,_,_,_,rfl,nx,ny,h1.szn (getD_mem ix) (by lia),h2.szn (getD_mem iy) (by lia),λr3 H3 s3 n3=>?_⟩;exists ⟨_,_,_,_,rfl,hr.same s3,n3,JB h1 h2 hz i hkj,Jb (h1.one (getD_mem ix)) (h2.one (getD_mem iy)) hkj,λr4 H4 s4 n4=>?_⟩;exists ⟨(s.trans s3).trans s4,_,_,rfl,by rw[Au ix iy];exact n4⟩
  ·rintro σ' H' ⟨s,r,v,rfl,hr⟩;rw[aJ (by lia),aJ (by lia)] at hr;obtain ⟨t,rfl,ht⟩:=hr;exists kk _ H' s ⟨t,rfl,ht⟩
theorem Eo:ba ["_law_grid","_law_row_here"] ["_law_grid","_law_row_here"] (aH vZ):=by walk_at "d"
theorem EE (T:Txt K mg Z) (ptree:P.given.tree=none):cW P w K mg base iO 4 Z.AN Z.Ax ["_law_grid","_law_row_here"] (Fw K):=by
 have Fd:=Du (P:=P) (w:=w) (base:=base) T ptree;refine T.uh.F.ok Eo (λvs H Q E h=>?_) (λcdv A outer s H vs Q E hr h=>?_)
 ·obtain ⟨p,q,H0,rows,ys,rfl,_⟩:=h;rfl
 ·obtain ⟨p,q,H0,rows,ys,rfl,hp,hq,hz,hl,hr1,kk⟩:=h;refine ⟨_,(az (bc (cv ["_law_one"] ["_law_row_here"] [1] (cu (pv 0)) (λ_=>(aO (i:=0) (show ND9 ["_law_one","_law_row_here"] by decide +kernel))) (λ_=>cy) (λ_=>(cS Fd hr T.rD (aa (pv 0) (aa (pv 1) af))))))),?_⟩;refine aW (σ:=[some (.ref p),some (.ref q)]) rfl ?_;obtain ⟨xs,gx,qx,_⟩:=id hp;exists ⟨⟨_,bP.of gx⟩,?_⟩;refine dH (K:=K) (F:=iI K H0) (b6 K) (λxs=>iF xs ys) gx qx hz (λa b=>a.same b) (λa b=>a.same b) ?_ ?_
  ·rintro i ns x H' NY NN en s ⟨u,rfl,_,hu⟩ k;obtain ⟨e1,e2⟩:=hr1 ns (ak en);exists ⟨u,q,ns,ys,rfl,hu,hq.same s,e1.symm,by lia,e2,λr H2 s2 h2'=>k _ _ s2 h2'⟩
  ·rintro ys' H' r hr s g pr nx;exact kk r H' hr s ⟨ys',g,pr⟩
theorem fV:ba ["_law_parts_here","_law_state","_law_puts","_law_move_here","_law_put","_law_look","_law_found","_law_k"] ["_law_parts_here","_law_state","_law_puts"] (aH qX):=by walk_at "d"
theorem BN (T:Txt K mg Z) (ptree:P.given.tree=none):cW P w K mg base iO 5 Z.xB Z.xj ["_law_parts_here","_law_state","_law_puts"] (CY K):=by
 have Hv:=EE (P:=P) (w:=w) (base:=base) T ptree;have jn:=pH (P:=P) (w:=w) (base:=base) T ptree;have lG:=tZ (P:=P) (w:=w) (base:=base) T ptree;refine T.pP.F.ok fV (λvs H Q E h=>?_) (λcdv A outer s H vs Q E hr h=>?_)
 ·obtain ⟨r,s0,u0,H0,mv,pt,lk,st,pu,rfl,_⟩:=h;rfl
 ·obtain ⟨r,s0,u0,H0,mv,pt,lk,st,pu,rfl,PQ,D,hs,hu,l1,l2,NX,k⟩:=h
  refine ⟨_,(ar (gO (pv 0) (wg rfl (cV (aO (i:=3) fV.nd) (cV (aO (i:=4) fV.nd) (cV (aO (i:=5) fV.nd) kf)))))
   (ar (aV (i:=6) fV.nd rfl (Or.inl rfl) (cS Hv hr T.uh (aa (pv 3) (aa (pv 1) af))))
   (ar (eI PassesOwn.never rfl (cG rfl T.range (aa (bO bG (by rfl) T.len bx (aa (pv 4) af)) af)) (aO (i:=7) fV.nd)
    (az (aV (i:=6) fV.nd rfl (Or.inl rfl) (cS jn hr T.iD (aa (pv 6) (aa (cS lG hr T.jY (aa (aR bf (pv 2) (pv 7)) (aa (aR bf (pv 4) (pv 7)) af))) af))))))
   (az (bc (pv 6)))))),?_⟩
  refine aW (σ:=[some (.ref r),some (.ref s0),some (.ref u0),none,none,none,none,none]) rfl ?_;obtain ⟨m,p,l,g,n1,n2,n3,Gm,Gp,Gl⟩:=id PQ;have d1:=D.n8;have d2:=D.i4;exists ⟨m,s0,H0,mv,st,rfl,Gm,hs,by lia,by lia,λxs hx=>⟨by rw[D.mw xs hx,l1],NX.f2 xs hx⟩,λf H1 nf s1 R1=>?_⟩;obtain ⟨ps,gp,qp,_⟩:=Gp.same s1;have lp:=qp.length;exists ⟨_,_,rfl,.inl (bP.of gp),?_⟩;exists ⟨by lia,by lia,?_⟩;refine fh (n:=ps.length) (λkk σ' H'=>∃(f:Addr) (x:Option V),σ'=[some (.ref r),some (.ref s0),some (.ref u0),some (.ref m),some (.ref p),some (.ref l),some (.ref f),x]/\H f=none/\aA H1 H'/\cg K H' f (nextK mv pt st pu kk)) ⟨f,none,rfl,nf,aA.refl _,by rw[EF];exact R1⟩ ?_ ?_
  ·rintro kk σ' H' hk ⟨f',x,rfl,nf',s',R'⟩;have kp:kk < pt.length:=by lia
   have ku:kk < pu.length:=by lia
   obtain ⟨zs,gz,qz⟩:=(hu.same s1).same s';have lz:=qz.length;obtain ⟨vu,eu,nu⟩:=JU qz ku;obtain ⟨row,vr,er,ev,mr,q,rfl,_,Rq⟩:=jW qp kp
   have er':pt[kk]=row:=by
    rw[ao kp] at er;exact b7 er
   have eu':pu.getD kk 0=pu[kk]:=by rw[ae,ao ku];rfl
   have mu:pu.getD kk 0∈pu:=getD_mem ku;exists cO (bP.of gz) eu ?_;exists cO (bP.of (s' _ _ gp)) (gh ev) ?_;exists ⟨vu,q,_,row,rfl,nu,NX.su _ mu,Rq.same s',by rw[D.pw row mr];lia,NX.sp row mr,λr1 H2 n1' s2 R2=>?_⟩;exists ⟨f',r1,_,_,rfl,R'.same s2,R2,by rw[ag,jf,D.pw row mr],by rw[jf];lia,NX.part kk,λy hy=>?_,λr2 H3 n2' s3 R3=>?_⟩
   ·obtain ⟨y',hy',rfl⟩:=ay.mp hy;exact NX.mul _ mu row mr y' hy'
   ·exists ⟨s1.none (s'.none (s2.none n2')),(s'.trans s2).trans s3,?_⟩;have e:=EG (st:=st) (pu:=pu) (λxs hx=>by rw[D.mw xs hx,l1]) kp ku (by rw[er'];exact D.pw row mr);rw[er',<- eu'] at e;rw[<- e];exact R3
  ·rintro σ' H' ⟨f',x,rfl,nf',s',R'⟩;rw[rY (by lia) (by lia)] at R';exists k f' H' nf' (s1.trans s') R'
theorem gJ:ba ["_law_parts_here","_law_told","_law_start","_law_steps_here","_law_state","_law_puts","_law_turn","_law_row_here"] ["_law_parts_here","_law_told","_law_start","_law_steps_here"] (aH pC):=by walk_at "d"
theorem zW (T:Txt K mg Z) (ptree:P.given.tree=none):cW P w K mg base iO 9 Z.vJ Z.vv ["_law_parts_here","_law_told","_law_start","_law_steps_here"] (FC K Z.a_System Z.a_Costs):=by
 have ip:=pI (P:=P) (w:=w) (base:=base) T ptree;have z8:=yL (P:=P) (w:=w) (base:=base) T ptree;have D5:=BN (P:=P) (w:=w) (base:=base) T ptree;refine T.oj.F.ok gJ (λvs H Q E h=>?_) (λcdv A outer s H vs Q E hr h=>?_)
 ·obtain ⟨A9,r,x,kn,s,H0,H9,mv,pt,lk,qs,rs,fs,st,tt,sg,om,b,j9,l,us,rfl,_⟩:=h;rfl
 ·obtain ⟨A9,r,x,kn,s,H0,H9,mv,pt,lk,qs,rs,fs,st,tt,sg,om,b,j9,l,us,rfl,LA,Ak,CQ,D,F,lT,KU,PQ,Rs,BF,k⟩:=h
  refine ⟨_,(ar (aV (i:=4) gJ.nd rfl (Or.inl rfl) (cZ c5 (by rfl) T.list PyProof.Rows.boot_list (aa (pv 2) af)))
   (ar (aV (i:=5) gJ.nd rfl (Or.inl rfl) (dN af))
   (ar (eI PassesOwn.never rfl (cG rfl T.range (aa (pv 3) af)) (aO (i:=6) gJ.nd)
    (ar (aV (i:=7) gJ.nd rfl (Or.inl rfl) (gR (pv 1) T.cl_Costs T.iE ip (hr.mono (by decide)) T.ji .nil jM (aa (cZ c5 (by rfl) T.list PyProof.Rows.boot_list (aa (pv 4) af)) (aa (bw lY (pv 3) (pv 6)) af))))
   (ar (dC (nV (lU (cS z8 hr T.l5 (aa (pv 7) (aa (bO bG (by rfl) T.len bx (aa (aR bT (pv 0) ai) af)) af))))) (az (bc IV)) bX)
   (ar (fX (rh bZ cn cm gM (pv 5) (aa (cZ c5 (by rfl) T.list PyProof.Rows.boot_list (aa (pv 7) af)) af)))
   (ar (aV (i:=4) gJ.nd rfl (Or.inl rfl) (cS D5 hr T.pP (aa (pv 0) (aa (pv 4) (aa (pv 7) af)))))
   (az (fX (rh bZ cn cm gM (pv 7) (aa (cK (aa ai (aa ai af))) af)))))))))
   (az (bc (pv 5)))))),?_⟩
  refine aW (σ:=[some (.ref r),some (.ref x),some (.ref s),some (.int l),none,none,none,none]) rfl ?_;have d8:=D.n8;have i4:=D.i4;have t8:=F.t8;obtain ⟨zS,gS,qS⟩:=id Rs;exists ⟨s,zS,rfl,.inl (bP.of (aZ _ _ gS)),λc0 n0=>?_⟩;have s0:aA H (upd H c0 (.lst zS)):=aA.new n0;have g0:(upd H c0 (.lst zS)) c0=some (.lst zS):=aE;generalize upd H c0 (.lst zS)=H1 at s0 g0 ⊢;have L1:=LA.same s0;have R0:cg K (cI A9 H1) c0 st:=⟨zS,fD g0 (LA.new n0),Paired.imp' (λ_ _ z=>z.same (b8 s0)) qS⟩;exists cY λp H2 s2 n2 g2=>?_
  have nH:H p=none:=s0.none n2;have pk:p≠kn:=λz=>by rw[z,KU.1] at nH;cases nH
  have sP:aA (cI A9 H1) (cI (fk A9 p) H2):=pT n2 (b8 s2);have hs0:aA (cI A9 H) (cI (fk A9 p) H2):=(b8 s0).trans sP;have AkP:fk A9 p kn=true:=ma Ak;have kn0:H kn≠none:=by rw[KU.1];exact λz=>nomatch z
  exists ⟨by lia,by lia,?_⟩
  refine fh (n:=l) (λi σ' H'=>tE kn H H'/\∃A2,((∀a,fk A9 p a=true->A2 a=true)/\∀a,A2 a=true->A9 a=true\/H a=none)/\mB A2 H'/\aA (cI A9 H) (cI A2 H')/\(∃us',sG A2 (dh mv pt qs rs fs) kn H' us')/\∃sv y z,σ'=[some (.ref r),some (.ref x),some (.ref s),some (.int l),some (.ref sv),some (.ref p),y,z]/\cg K (cI A2 H') sv (lF mv pt qs rs fs st l i)/\∃vs,H' p=some (.lst vs)/\V.ref p∉vs/\Paired (Cy K A2 H H') ((List.range i).map λi=>kY mv pt qs rs fs (l - i) (lF mv pt qs rs fs st l i)) vs) ⟨(s0.trans s2).smx,fk A9 p,⟨λ_ h=>h,λa ha=>by
   rcases iJ.mp ha with z | z
   ·exact .inl z
   ·right;rw[show a=p by simpa using z];exact nH⟩,(L1.same s2).ad g2,hs0,⟨us,(KU.same s0).hide s2 n2⟩,c0,_,_,rfl,R0.same sP,[],g2,(λz=>nomatch z),.nil⟩ ?_ ?_
  ·rintro i σ' H' hi ⟨s',A2,⟨up,dn⟩,L',hs,⟨us',KU'⟩,sv,y,z,rfl,Rv,vs,gv,nin,pv⟩;have lv:=pv.length;rw[ag,bS] at lv;have Ak2:A2 kn=true:=up kn AkP;have Ap2:A2 p=true:=up p iS;have C':=CQ.same hs;obtain ⟨dx,sy,a1,a2,a3,gx,S',_⟩:=C'.same aZ;obtain ⟨M,hM⟩:=BF.mm i (by lia);obtain ⟨zv,gzv,qzv⟩:=id Rv;exists ⟨x,dx,_,rfl,gx,oP (by decide +kernel) (by decide +kernel) (by decide +kernel) (by decide +kernel) (by decide +kernel),?_⟩;exists ⟨sv,zv,rfl,.inl (bP.of (aZ _ _ gzv)),λc3 n3=>?_⟩;have s3:aA H' (upd H' c3 (.lst zv)):=aA.new n3;have g3:(upd H' c3 (.lst zv)) c3=some (.lst zv):=aE;generalize upd H' c3 (.lst zv)=H3 at s3 g3 ⊢;have L3:=L'.same s3;have R3:cg K (cI A2 H3) c3 (lF mv pt qs rs fs st l i):=⟨zv,fD g3 (L'.new n3),Paired.imp' (λ_ _ z=>z.same (b8 s3)) qzv⟩;have h3:aA (cI A2 H') (cI A2 H3):=b8 s3;walk_at "w";rw[show ((l:Int) - (i:Int))=((l - i:Nat):Int) by lia];refine ⟨A2,x,kn,c3,H0,mv,pt,lk,qs,rs,fs,_,tt,sg,om,b,j9,l - i,M,us',rfl,L3,Ak2,C'.same h3,D,F,by lia,KU'.same s3,by lia,R3,BF.la i (by lia),hM,λr2 us4 H4 s4 KU4 n4 rk4 R4=>?_⟩;have L4':=L3.smx s4 KU4.1;have h4:aA (cI A2 H3) (cI (fk A2 r2) H4):=pT n4 (jC Ak2 s4);obtain ⟨zs2,gz2,_⟩:=cg.nums R4 L4';have L4:mB (fk A2 r2) H4:=L4'.ad gz2;obtain ⟨zs2',gz2',qz2⟩:=cg.nums R4 L4;rw[gz2] at gz2';cases gz2';have s04:tE kn H H4:=(s'.trans s3.smx).trans s4;have hs4:=(hs.trans h3).trans h4;have rp:r2≠p:=λz=>by rw[z,Ap2] at rk4;cases rk4
   have rkn:r2≠kn:=λz=>by rw[z,Ak2] at rk4;cases rk4
   have nr3:H' r2=none:=s3.none n4
   have nr:H r2=none:=by
    cases e:H r2 with
    | none=>rfl
    | some o=>rw[s' _ _ rkn e] at nr3;cases nr3
   have up4:∀a,A2 a=true->fk A2 r2 a=true:=λa h=>ma h
   have R4H:cg K H4 r2 (kY mv pt qs rs fs (l - i) (lF mv pt qs rs fs st l i)):=R4.same aZ;have gv4:H4 p=some (.lst vs):=s4 _ _ pk (s3 _ _ gv);have pv4:=Paired.imp' (λ_ _ z=>Cy.smx z (s3.smx.trans s4) kn0 up4 (h3.trans h4)) pv;have P4:=PQ.same hs4;obtain ⟨m',p',l',gt,mn,pn,ln,Gm,Gp',Gl'⟩:=P4.same aZ;obtain ⟨up',gp',qp',_⟩:=id Gp';have lup:=qp'.length;have ld:=BF.ld i hi;exists ⟨_,_,rfl,.inl (bP.of gp'),?_⟩;rw[<- lup];clear gp' qp' lup Gm Gp' Gl' gt mn pn ln;exists ⟨r2,(kY mv pt qs rs fs (l - i) (lF mv pt qs rs fs st l i)).map nm,by rw[ag,ld],R4H.rowK,by rw[ag];lia,λn hn=>by obtain ⟨z,hz,rfl⟩:=ay.mp hn;exact Mx (BF.sd i hi z hz),λH5 s5=>?_⟩;have gv5:=s5 _ _ gv4;exists ⟨.inl ⟨rfl,_,bP.of gv5⟩,?_⟩;exists ⟨r2,zs2,rfl,.inl (bP.of (s5 _ _ gz2)),λc6 n6=>?_⟩;have s6:aA H5 (upd H5 c6 (.lst zs2)):=aA.new n6;have g6:(upd H5 c6 (.lst zs2)) c6=some (.lst zs2):=aE;generalize upd H5 c6 (.lst zs2)=H6 at s6 g6 ⊢;have s46:=s5.trans s6;have gv6:=s46 _ _ gv4;have LB6:mB (fk A2 r2) H6:=L4.same s46;have bc6:fk A2 r2 c6=false:=(L4.same s5).new n6;have L6:mB (fk (fk A2 r2) c6) H6:=LB6.ad g6;have h6:aA (cI (fk A2 r2) H4) (cI (fk (fk A2 r2) c6) H6):=(b8 s5).trans (pT n6 (b8 s6));have up6:∀a,fk A2 r2 a=true->fk (fk A2 r2) c6 a=true:=λa h=>ma h
   have Ap6:=up6 p (up4 p Ap2);have Ar6:=up6 r2 iS;have cr:c6≠r2:=λz=>by rw[z,iS] at bc6;cases bc6
   have cp:c6≠p:=λz=>by rw[z,up4 p Ap2] at bc6;cases bc6
   have ckn:c6≠kn:=λz=>by rw[z,up4 kn Ak2] at bc6;cases bc6
   have nc:H c6=none:=by
    cases e:H c6 with
    | none=>rfl
    | some o=>rw[s5 _ _ (s04 _ _ ckn e)] at n6;cases n6
   have gz6:=s46 _ _ gz2;have qz6:Paired (b6 K (cI (fk (fk A2 r2) c6) H6)) (kY mv pt qs rs fs (l - i) (lF mv pt qs rs fs st l i)) zs2:=Paired.imp' (λ_ _ z=>z.same h6) qz2;have lz:=qz2.length;have pv6:=Paired.imp' (λ_ _ z=>Cy.smx z s46.smx kn0 up6 h6) pv4;have hs6:=hs4.trans h6;exists gL gv6 (bz (by lia)) ?_;have eU:cI (fk (fk A2 r2) c6) (upd H6 p (.lst (vs++[.ref c6])))=cI (fk (fk A2 r2) c6) H6:=vb Ap6;have s7:tE kn H (upd H6 p (.lst (vs++[.ref c6]))):=(s04.trans s46.smx).after nH;have g7:(upd H6 p (.lst (vs++[.ref c6]))) p=some (.lst (vs++[.ref c6])):=aE
   have K7:sG (fk (fk A2 r2) c6) (dh mv pt qs rs fs) kn (upd H6 p (.lst (vs++[.ref c6]))) us4:=by
    obtain ⟨g,a,b,pr⟩:=KU4;exact ⟨by rw[aN (Ne.symm pk)];exact s46 _ _ g,a,b,by rw[eU];exact Paired.imp' (λ_ _ z=>JX.same z h6) pr⟩
   have L7:mB (fk (fk A2 r2) c6) (upd H6 p (.lst (vs++[.ref c6]))):=λa ha=>by
    by_cases e:a=p
    ·exact ⟨_,by rw[e];exact aE⟩
    ·obtain ⟨ws,g⟩:=L6 a ha;exact ⟨ws,by rw[aN e];exact g⟩
   have hs7:aA (cI A9 H) (cI (fk (fk A2 r2) c6) (upd H6 p (.lst (vs++[.ref c6])))):=by rw[eU];exact hs6
   have h27:aA (cI A2 H') (cI (fk (fk A2 r2) c6) (upd H6 p (.lst (vs++[.ref c6])))):=by rw[eU];exact (h3.trans h4).trans h6
   have gr7:(upd H6 p (.lst (vs++[.ref c6]))) r2=some (.lst zs2):=by rw[aN rp];exact gz6
   have P7:Paired (λxs v=>Cy K (fk (fk A2 r2) c6) H (upd H6 p (.lst (vs++[.ref c6]))) xs v/\v≠.ref r2) ((List.range (i+1)).map λi=>kY mv pt qs rs fs (l - i) (lF mv pt qs rs fs st l i)) (vs++[.ref c6]):=by
    have ne:∀{v q},v∈vs->v=V.ref q->q≠p:=λh e z=>nin (by rw[<- z,<- e];exact h)
    rw[zL,cD];refine cb (mM (λxs v hv hr=>?_) pv6) (.cons ⟨⟨c6,zs2,rfl,iS,nc,by rw[aN cp];exact g6,by rw[eU];exact qz6⟩,λz=>cr (by cases z;rfl)⟩ .nil);obtain ⟨q,zs,e,aq,nq,gq,rq⟩:=hr;refine ⟨⟨q,zs,e,aq,nq,by rw[aN (ne hv e)];exact gq,by rw[eU];exact rq⟩,λz=>?_⟩;obtain ⟨_,_,q',_,e',aq',_⟩:=c9 pv hv;rw[e'] at z;cases z;rw[rk4] at aq';cases aq'
   have qz7:Paired (b6 K (cI (fk (fk A2 r2) c6) (upd H6 p (.lst (vs++[.ref c6]))))) (kY mv pt qs rs fs (l - i) (lF mv pt qs rs fs st l i)) zs2:=by rw[eU];exact qz6
   generalize upd H6 p (.lst (vs++[.ref c6]))=H7 at s7 g7 K7 L7 hs7 h27 gr7 P7 qz7 ⊢;have R7:cg K H7 r2 (kY mv pt qs rs fs (l - i) (lF mv pt qs rs fs st l i)):=⟨zs2,gr7,Paired.imp' (λ_ _ z=>z.same aZ) qz7⟩;exists ⟨r,sv,r2,_,mv,pt,lk,_,_,rfl,(PQ.same hs7).same aZ,D,(Rv.same h27).same aZ,R7,BF.la i (by lia),ld,BF.nx i hi,λr8 H8 n8 s8 R8=>?_⟩;have L8:=L7.same s8;have R8h:cg K (cI (fk (fk A2 r2) c6) H8) r8 (lF mv pt qs rs fs st l (i+1)):=R8.hid L8 (L7.new n8);exists ⟨.inl ⟨rfl,_,bP.of (s8 _ _ gr7)⟩,?_⟩;exists bU λtA HA sA gA=>?_
   have s7A:=s8.trans sA;exists gL (s7A _ _ gr7) (bz (by lia)) ?_;have h7A:aA (cI (fk (fk A2 r2) c6) H7) (cI (fk (fk A2 r2) c6) HA):=b8 s7A;have eV:cI (fk (fk A2 r2) c6) (upd HA r2 (.lst (zs2++[.ref tA])))=cI (fk (fk A2 r2) c6) HA:=vb Ar6;refine ⟨(s7.trans s7A.smx).after nr,fk (fk A2 r2) c6,⟨λa h=>up6 a (up4 a (up a h)),λa ha=>?_⟩,?_,?_,⟨us4,?_⟩,r8,_,_,rfl,?_,vs++[.ref c6],?_,?_,?_⟩
   ·rcases iJ.mp ha with z | z
    ·rcases iJ.mp z with z | z
     ·exact dn a z
     ·right;rw[show a=r2 by simpa using z];exact nr
    ·right;rw[show a=c6 by simpa using z];exact nc
   ·intro a ha;by_cases e:a=r2
    ·exact ⟨_,by rw[e];exact aE⟩
    ·obtain ⟨ws,g⟩:=(L7.same s7A) a ha;exact ⟨ws,by rw[aN e];exact g⟩
   ·rw[eV];exact hs7.trans h7A
   ·obtain ⟨g,a,b,pr⟩:=K7.same s7A;exact ⟨by rw[aN (Ne.symm rkn)];exact g,a,b,by rw[eV];exact pr⟩
   ·rw[eV];exact R8h.same (b8 sA)
   ·rw[aN (Ne.symm rp)];exact s7A _ _ g7
   ·intro z;rcases aw.mp z with z | z
    ·exact nin z
    ·exact cp (by cases bR.mp z;rfl)
   ·refine Paired.imp' (λxs v hr=>?_) P7;obtain ⟨⟨q,zs,e,aq,nq,gq,rq⟩,nv⟩:=hr;exact ⟨q,zs,e,aq,nq,by rw[aN λz=>nv (by rw[e,z])];exact s7A _ _ gq,by rw[eV];exact Paired.imp' (λ_ _ z=>z.same h7A) rq⟩
  rintro σ' H' ⟨s',A2,⟨up,dn⟩,L',hs,⟨us',KU'⟩,sv,y,z,rfl,Rv,vs,gv,nin,pv⟩;exists k A2 p us' vs H' (λa h=>up a (ma h)) dn L' (up p iS) nH s' hs KU' gv pv nin
theorem o6:ba ["one","other","one_bottom","other_bottom","pairs"] ["one","other"] (aH vX):=by walk_at "d"
theorem yI (T:Txt K mg Z) (ptree:P.given.tree=none):cW P w K mg base iO 4 Z.AL Z.Av ["one","other"] (A8 K):=by
 have dJ:=iB (P:=P) (w:=w) (base:=base) T ptree;have fU:=kW (P:=P) (w:=w) (base:=base) T ptree;have rT:=wo (P:=P) (w:=w) (base:=base) T ptree;refine T.pN.F.ok o6 (λvs H Q E h=>?_) (λcdv A outer s H vs Q E hr h=>?_)
 ·obtain ⟨p,q,xs,ys,rfl,_⟩:=h;rfl
 ·obtain ⟨p,q,xs,ys,rfl,hp,hq,hl,hz,⟨k1,j1,k2,j2,h1,h2,hkj⟩,kk⟩:=h
  refine ⟨_,(ar (aV (i:=2) o6.nd rfl (Or.inl rfl) (cS dJ hr T.dR (aa (pv 0) af)))
   (ar (aV (i:=3) o6.nd rfl (Or.inl rfl) (cS dJ hr T.dR (aa (pv 1) af)))
   (ar (aV (i:=4) o6.nd rfl (Or.inl rfl) (Ez rfl T.list rfl T.zip (aa (cS fU hr T.fY (aa (pv 0) (aa (pv 2) af))) (aa (cS fU hr T.fY (aa (pv 1) (aa (pv 3) af))) af))))
   (az (bc (cS rT hr T.oJ (aa (bO (DN rfl) (by rfl) T.sum PyProof.Rows.boot_sum (aa (cv ["mine","yours"] [] [] (cu (pv 4)) (λ_=>(uN K 2 (cV (aO (i:=0) (show ND9 ["mine","yours"] by decide +kernel)) (cV (aO (i:=1) (show ND9 ["mine","yours"] by decide +kernel)) kf)))) (λ_=>cy) (λ_=>(bw dc (pv 0) (pv 1)))) af)) (aa (bw dc (pv 2) (pv 3)) af)))))))),?_⟩
  refine aW (σ:=[some (.ref p),some (.ref q),none,none,none]) rfl ?_;obtain ⟨M,h1⟩:=h1.rowM (by lia);obtain ⟨N,h2⟩:=h2.rowM (by lia);replace hp:=hp.rowK;replace hq:=hq.rowK;replace hl:(ys.map nm).length=(xs.map nm).length:=by simpa using hl
  replace hz:(xs.map nm).length<=1000:=by simpa using hz
  obtain ⟨b1,s1⟩:=h1.bot;obtain ⟨b2,s2⟩:=h2.bot;have k2:∀r H',aA H H'->H' r=some (.tup [.int (lo (JD (xs.map nm) (ys.map nm)) (cM (xs.map nm)*cM (ys.map nm))),.int (hi (JD (xs.map nm) (ys.map nm)) (cM (xs.map nm)*cM (ys.map nm)))])->Q (.ref r) H':=λr H' s g=>kk r H' s (b6.mk g (Lf b1 b2))
  clear kk;generalize xs.map nm=ns at hp hq hl hz h1 h2 b1 b2 s1 s2 k2;generalize ys.map nm=ms at hp hq hl hz h1 h2 b1 b2 s1 s2 k2;have hb:0 < cM ns*cM ms:=hZ b1 b2;exists ⟨p,ns,M,rfl,hp,hz,h1,λH1 t1=>?_⟩;exists ⟨q,ms,N,rfl,hq.same t1,by lia,h2,λH2 t2=>?_⟩;have u2:=t1.trans t2;exists ⟨p,ns,M,_,rfl,hp.same u2,hz,h1,b1,s1,λr1 H3 n3 t3 g3=>?_⟩;exists ⟨q,ms,N,_,rfl,(hq.same u2).same t3,by lia,h2,b2,s2,λr2 H4 n4 t4 g4=>?_⟩;exists ⟨r1,r2,_,_,rfl,bP.of (t4 _ _ g3),bP.of g4,by simp [ck,hl],λL ts H5 t5 n5 g5 pr=>?_⟩;have lt:=pr.length;have ll:(ck ns (cM ns)).length=ns.length:=by simp [ck]
  have lm:(ck ms (cM ms)).length=ns.length:=by simp [ck,hl]
  rw[zM,ag,ag,ll,lm] at lt;exists ⟨⟨_,bP.of g5⟩,?_⟩;refine fN (K:=K) (xs:=ts) (λi ys H'=>H'=H5/\ys=((List.zipWith (λx y=>x*y) (ck ns (cM ns)) (ck ms (cM ms))).take i).map V.int) (aT (bz (by lia))) ⟨rfl,rfl⟩ (λi ys H' _ ⟨e,_⟩=>by subst e;exact bP.of g5) ?_ ?_
  ·rintro i x ys H' hx hlen ⟨rfl,rfl⟩;obtain ⟨pq,epq,T,rfl,gT⟩:=dG pr hx;obtain ⟨t,u,et,eu,rfl⟩:=J7 epq;exists fG (show gX _ _ from .inr ⟨_,_,yj h1 b1 s1 (ak et),yj h2 b2 s2 (ak eu),by decide⟩) ?_;have ez:(List.zipWith (λx y=>x*y) (ck ns (cM ns)) (ck ms (cM ms)))[i]?=some (t*u):=by rw[cw,et,eu]
   exact ⟨rfl,by rw[take_snoc ez];simp⟩
  ·rintro ys H' hy ⟨rfl,rfl⟩ l hl';exists ⟨l,List.zipWith (λx y=>x*y) (ck ns (cM ns)) (ck ms (cM ms)),rfl,bP.of (by rw[aE,aJ (by rw[cA];lia)]),?_⟩;exists fG (show gX _ _ from .inr ⟨_,_,s1,s2,by decide⟩) ?_;exists ⟨_,_,rfl,by lia,(s1.mul s2).mono (by decide),λr H6 t6 g6=>?_⟩;rw[if_neg (by lia),if_neg (by lia)] at g6;exact k2 r H6 ((((u2.trans t3).trans t4).trans t5).trans ((aA.new hl').trans t6)) g6
theorem qi:ba ["self","state","puts","columns"] ["self","state","puts"] (aH fL):=by walk_at "d"
theorem xN (T:Txt K mg Z) (ptree:P.given.tree=none):cW P w K mg base iO 5 Z.me Z.l9 ["self","state","puts"] (Ah K Z.a_System):=by
 have oB:=rl (P:=P) (w:=w) (base:=base) T ptree;have wJ:=yI (P:=P) (w:=w) (base:=base) T ptree;refine T.rV.ok qi (λvs H Q E h=>?_) (λcdv A outer s H vs Q E hr h=>?_)
 ·obtain ⟨x,p,q,H0,mv,pt,lk,st,pu,rfl,_⟩:=h;rfl
 ·obtain ⟨x,p,q,H0,mv,pt,lk,st,pu,rfl,S,D,F,hp,hq,l1,l2,fs,k⟩:=h
  refine ⟨_,(ar (aV (i:=3) qi.nd rfl (Or.inl rfl) (cS oB hr T.jx (aa (fv (pv 0) rfl) (aa (fv (pv 0) rfl) af))))
   (az (bc (cv ["line","column"] ["state","puts"] [1,2] (Bu rfl T.zip (aa (fv (pv 0) rfl) (aa (pv 3) af))) (λ_=>(uN K 2 (cV (aO (i:=0) (show ND9 ["line","column","state","puts"] by decide +kernel)) (cV (aO (i:=1) (show ND9 ["line","column","state","puts"] by decide +kernel)) kf)))) (λ_=>cy) (λ_=>(cS wJ hr T.pN (aa (bw nX (pv 0) (pv 1)) (aa (bw nX (pv 2) (pv 3)) af)))))))),?_⟩
  refine aW (σ:=[some (.ref x),some (.ref p),some (.ref q),none]) rfl ?_;obtain ⟨dx,a,b,c,gx,n1,n2,n3,Ga,Gb,Gc⟩:=id S;have d1:=D.n8;have d2:=D.i4;exists ⟨x,Z.a_System,dx,_,_,rfl,gx,T.cl_System,T.na_put,Fk,?_⟩;exists ⟨x,Z.a_System,dx,_,_,rfl,gx,T.cl_System,T.na_states,yl,?_⟩;exists ⟨b,mv.length,H0,pt,rfl,Gb,by lia,by lia,D.pw,λt H1 nt s1 Gt=>?_⟩;obtain ⟨as,ga,qa,_⟩:=Ga.same s1;obtain ⟨ts,gt,qt,_⟩:=id Gt;have la:=qa.length;have lt:=qt.length;rw[lE] at lt;have gx1:=s1 _ _ gx;exists ⟨x,Z.a_System,dx,_,_,rfl,gx1,T.cl_System,T.na_move,CK,?_⟩;exists ⟨⟨_,bP.of ga⟩,⟨_,bP.of gt⟩,?_⟩;refine zh (K:=K) (xs:=as) (ws:=ts) (λi ys H'=>aA H1 H'/\Paired (b6 K H') ((jX mv pt st pu).take i) ys) (aT (bz (by lia))) (by lia) ⟨aA.refl _,.nil⟩ (λi ys H' _ ⟨s,_⟩=>⟨bP.of (s _ _ ga),bP.of (s _ _ gt)⟩) ?_ ?_
  ·rintro i v1 v2 ys H' r h1 h2 hy ⟨s,pr⟩ hr;obtain ⟨line,el,u1,rfl,_,R1⟩:=dG qa h1;obtain ⟨col,ec,u2,rfl,_,R2⟩:=dG qt h2;have ml:=ak el;have mc:=ak ec;have sr:aA H' (upd H' r (.tup [.ref u1,.ref u2])):=aA.new hr;have gr:(upd H' r (.tup [.ref u1,.ref u2])) r=some (.tup [.ref u1,.ref u2]):=aE;have s2:=s.trans sr;generalize upd H' r (.tup [.ref u1,.ref u2])=H2 at sr gr s2 ⊢;have lc:col.length=pt.length:=vS col mc;have ll:line.length=mv.length:=D.mw line ml;obtain ⟨z1,g1,q1⟩:=R1.same s2;obtain ⟨z2,g2,q2⟩:=R2.same s2;have y1:=q1.length;have y2:=q2.length;exists nU g1 g2 (aT (bz (by lia))) λc1 H3 s3 n3' g3=>?_
   have s13:=s2.trans s3;obtain ⟨z3,g4,q3⟩:=(hp.same s1).same s13;obtain ⟨z4,g5,q4⟩:=(hq.same s1).same s13;have y3:=q3.length;have y4:=q4.length;exists nU g4 g5 (aT (bz (by lia))) λc2 H4 s4 n4 g6=>?_
   have s34:=s3.trans s4;exists ⟨c1,c2,line++col,st++pu,rfl,⟨_,s4 _ _ g3,Paired.imp' (λ_ _ z=>z.same s34) (cb q1 q2)⟩,⟨_,g6,Paired.imp' (λ_ _ z=>z.same s4) (cb q3 q4)⟩,by rw[aD,aD];lia,by rw[aD];lia,.sys ?_ fs,λr2 H5 s5 h5=>?_⟩
   ·refine F.fits λy hy=>?_
    rcases aw.mp hy with hy | hy
    ·exact .inl ⟨line,ml,hy⟩
    ·obtain ⟨j,_,rfl⟩:=ay.mp mc;obtain ⟨xs,hx,rfl⟩:=ay.mp hy;by_cases hj:j < xs.length
     ·refine .inr (.inl ⟨xs,hx,?_⟩);rw[ae,ao hj];exact bM hj
     ·exact .inr (.inr (.inr (by rw[ae,bq (by lia)];rfl)))
   ·have em:(jX mv pt st pu)[i]?=some (iF (line++col) (st++pu)):=by
     unfold jX;rw[cw,el,ec]
    refine ⟨((s2.trans s34).trans s5),?_⟩;rw[take_snoc em];exact cb (Paired.imp' (λ_ _ z=>(z.same (sr.trans s34)).same s5) pr) (.cons h5 .nil)
  ·rintro ys H' hy ⟨s,pr⟩ l hl;have lm:(jX mv pt st pu).length=mv.length:=by unfold jX;rw[cA,lE];lia
   rw[aJ (by lia)] at pr;exact k l _ (s1.none (s.none hl)) ((s1.trans s).trans (aA.new hl)) ⟨ys,aE,Paired.imp' (λ_ _ z=>z.same (aA.new hl)) pr⟩
theorem iQ:ba ["self","start","steps","puts","state","done"] ["self","start","steps"] (aH iu):=by walk_at "d"
theorem zX (T:Txt K mg Z) (ptree:P.given.tree=none):cW P w K mg base iO 9 Z.p4 Z.pV ["self","start","steps"] (FA K Z.a_System Z.a_Costs):=by
 have ip:=pI (P:=P) (w:=w) (base:=base) T ptree;have zK:=xN (P:=P) (w:=w) (base:=base) T ptree;have wJ:=yI (P:=P) (w:=w) (base:=base) T ptree;have uo:=wU (P:=P) (w:=w) (base:=base) T ptree;have fA:=i5 (P:=P) (w:=w) (base:=base) T ptree;refine T.vO.ok iQ (λvs H Q E h=>?_) (λcdv A outer s H vs Q E hr h=>?_)
 ·obtain ⟨A9,x,kn,s,H0,mv,pt,lk,qs,rs,fs,st,tt,sg,om,b,j9,l,us,rfl,_⟩:=h;rfl
 ·obtain ⟨A9,x,kn,s,H0,mv,pt,lk,qs,rs,fs,st,tt,sg,om,b,j9,l,us,rfl,LA,Ak,CQ,D,F,lT,KU,SF,Rs,BF,k⟩:=h
  refine ⟨_,(ar (aV (i:=3) iQ.nd rfl (Or.inl rfl) (dN af))
   (ar (aV (i:=4) iQ.nd rfl (Or.inl rfl) (pv 1))
   (ar (eI PassesOwn.never rfl (cG rfl T.range (aa (pv 2) af)) (aO (i:=5) iQ.nd)
    (ar (fX (rh bZ cn cm gM (pv 3) (aa (gR (pv 0) T.cl_Costs T.iE ip (hr.mono (by decide)) T.ji .nil jM (aa (pv 4) (aa (bw lY (pv 2) (pv 5)) af))) af)))
   (az (aV (i:=4) iQ.nd rfl (Or.inl rfl) (gR (fv (pv 0) rfl) T.cl_System T.qj zK (hr.mono (by decide)) T.rN .nil jM (aa (pv 4) (aa (aR bf (pv 3) (yE tK ai)) af)))))))
   (az (bc (cK (aa (cS wJ hr T.pN (aa (pv 1) (aa (cS uo hr T.mP (aa (aR bT (gR (pv 0) T.cl_Costs T.fZ fA (hr.mono (by decide)) T.gW .nil jM (aa (pv 2) af)) ai) (aa (pv 1) af))) af))) (aa (pv 3) af)))))))),?_⟩
  refine aW (σ:=[some (.ref x),some (.ref s),some (.int l),none,none,none]) rfl ?_;have d8:=D.n8;have i4:=D.i4;have t8:=F.t8;obtain ⟨lb,lj⟩:=F.l3;exists cY λp H1 s1 n1 g1=>?_
  have pk:p≠kn:=λz=>by rw[z,KU.1] at n1;cases n1
  have pA:=LA.new n1;have sP:aA (cI A9 H) (cI (fk A9 p) H1):=pT n1 (b8 s1);have CP:=CQ.same sP;have RP:=Rs.same sP;have AkP:fk A9 p kn=true:=ma Ak;have KP:=KU.hide s1 n1;have LP:mB (fk A9 p) H1:=(LA.same s1).ad g1;exists ⟨by lia,by lia,?_⟩;have kn0:H kn≠none:=by rw[KU.1];exact λz=>nomatch z
  refine fh (n:=l) (λi σ' H'=>tE kn H H'/\∃A2,((∀a,fk A9 p a=true->A2 a=true)/\∀a,A2 a=true->A9 a=true\/H a=none)/\mB A2 H'/\aA (cI A9 H) (cI A2 H')/\(∃us',sG A2 (dh mv pt qs rs fs) kn H' us')/\∃sv y,σ'=[some (.ref x),some (.ref s),some (.int l),some (.ref p),some (.ref sv),y]/\cg K (cI A2 H') sv (lF mv pt qs rs fs st l i)/\∃vs,H' p=some (.lst vs)/\V.ref p∉vs/\Paired (Cy K A2 H H') ((List.range i).map λi=>kY mv pt qs rs fs (l - i) (lF mv pt qs rs fs st l i)) vs) ⟨s1.smx,fk A9 p,⟨λ_ h=>h,λa ha=>by
   rcases iJ.mp ha with z | z
   ·exact .inl z
   ·right;rw[show a=p by simpa using z];exact n1⟩,LP,sP,⟨us,KP⟩,s,_,rfl,RP,[],g1,(λz=>nomatch z),.nil⟩ ?_ ?_
  ·rintro i σ' H' hi ⟨s',A2,⟨up,dn⟩,L',hs,⟨us',KU'⟩,sv,y,rfl,Rv,vs,gv,nin,pv⟩;have lv:=pv.length;rw[ag,bS] at lv;have Ak2:A2 kn=true:=up kn AkP;have Ap2:A2 p=true:=up p iS;have C':=CQ.same hs;obtain ⟨dx,sy,a1,a2,a3,gx,S',_⟩:=C'.same aZ;obtain ⟨M,hM⟩:=BF.mm i (by lia);exists ⟨.inl ⟨rfl,_,bP.of gv⟩,?_⟩;exists ⟨x,dx,_,rfl,gx,oP (by decide +kernel) (by decide +kernel) (by decide +kernel) (by decide +kernel) (by decide +kernel),?_⟩;walk_at "w";rw[show ((l:Int) - (i:Int))=((l - i:Nat):Int) by lia];refine ⟨A2,x,kn,sv,H0,mv,pt,lk,qs,rs,fs,_,tt,sg,om,b,j9,l - i,M,us',rfl,L',Ak2,C',D,F,by lia,KU',by lia,Rv,BF.la i (by lia),hM,λr2 us2 H2 s2 KU2 n2 rk2 R2=>?_⟩;have gv2:H2 p=some (.lst vs):=s2 _ _ pk gv;have L2':=L'.smx s2 KU2.1;have h2:aA (cI A2 H') (cI (fk A2 r2) H2):=pT n2 (jC Ak2 s2);obtain ⟨zs2,gz2,_⟩:=cg.nums R2 L2';have L2:mB (fk A2 r2) H2:=L2'.ad gz2;obtain ⟨zs2',gz2',qz2⟩:=cg.nums R2 L2;rw[gz2] at gz2';cases gz2';have rp:r2≠p:=λz=>by rw[z,Ap2] at rk2;cases rk2
   have nr:H r2=none:=by
    cases e:H r2 with
    | none=>rfl
    | some o =>
     rcases Classical.em (r2=kn) with z | z
     ·rw[z,KU'.1] at n2;cases n2
     ·rw[s' _ _ z e] at n2;cases n2
   have up3:∀a,A2 a=true->fk A2 r2 a=true:=λa h=>ma h
   have Ap3:=up3 p Ap2;exists gL gv2 (bz (by lia)) ?_;have eU:cI (fk A2 r2) (upd H2 p (.lst (vs++[.ref r2])))=cI (fk A2 r2) H2:=vb Ap3;have s3:tE kn H (upd H2 p (.lst (vs++[.ref r2]))):=(s'.trans s2).after n1;have g3:(upd H2 p (.lst (vs++[.ref r2]))) p=some (.lst (vs++[.ref r2])):=aE
   have KU3:sG (fk A2 r2) (dh mv pt qs rs fs) kn (upd H2 p (.lst (vs++[.ref r2]))) us2:=by
    obtain ⟨g,a,b,pr⟩:=KU2;exact ⟨by rw[aN (Ne.symm pk)];exact g,a,b,by rw[eU];exact pr⟩
   have L3:mB (fk A2 r2) (upd H2 p (.lst (vs++[.ref r2]))):=λa ha=>by
    by_cases e:a=p
    ·exact ⟨_,by rw[e];exact aE⟩
    ·obtain ⟨ws,g⟩:=L2 a ha;exact ⟨ws,by rw[aN e];exact g⟩
   have h3:aA (cI A2 H') (cI (fk A2 r2) (upd H2 p (.lst (vs++[.ref r2])))):=by rw[eU];exact h2
   have P3:Paired (Cy K (fk A2 r2) H (upd H2 p (.lst (vs++[.ref r2])))) ((List.range (i+1)).map λi=>kY mv pt qs rs fs (l - i) (lF mv pt qs rs fs st l i)) (vs++[.ref r2]):=by
    have ne:∀{v q},v∈vs->v=V.ref q->q≠p:=λh e z=>nin (by rw[<- z,<- e];exact h)
    have pv2:=Paired.imp' (λ_ _ z=>Cy.smx z s2 kn0 up3 h2) pv;rw[zL,cD];refine cb (mM (λxs v hv hr=>?_) pv2) (.cons ⟨r2,zs2,rfl,iS,nr,by rw[aN rp];exact gz2,by rw[eU];exact qz2⟩ .nil);obtain ⟨q,zs,e,aq,nq,gq,rq⟩:=hr;exact ⟨q,zs,e,aq,nq,by rw[aN (ne hv e)];exact gq,by rw[eU];exact rq⟩
   have R2H:cg K (upd H2 p (.lst (vs++[.ref r2]))) r2 (kY mv pt qs rs fs (l - i) (lF mv pt qs rs fs st l i)):=⟨zs2,by rw[aN rp];exact gz2,Paired.imp' (λ_ _ z=>z.same (by rw[<- eU];exact aZ)) qz2⟩;generalize upd H2 p (.lst (vs++[.ref r2]))=H3 at s3 g3 KU3 L3 h3 P3 R2H ⊢;have C3:=C'.same h3;obtain ⟨dx3,sy3,a13,a23,a33,gx3,S3,_⟩:=C3.same aZ;obtain ⟨dy,am,ap,al,gy,_⟩:=id S3;exists ⟨x,Z.a_Costs,dx3,_,_,rfl,gx3,T.cl_Costs,T.na_Costs_system,wF,?_⟩;exists ⟨sy3,dy,_,rfl,gy,Gu,?_⟩;exists cO (bP.of g3) (DR _ _) ?_;exists ⟨sy3,sv,r2,H0,mv,pt,lk,_,_,rfl,S3,D,SF,(Rv.same h3).same aZ,R2H,BF.la i (by lia),BF.ld i hi,BF.fn i hi,λr4 H4 n4 s4 R4=>?_⟩;have h4:aA (cI (fk A2 r2) H3) (cI (fk A2 r2) H4):=b8 s4;have L4:=L3.same s4;refine ⟨s3.trans s4.smx,fk A2 r2,⟨λa h=>up3 a (up a h),λa ha=>?_⟩,L4,hs.trans (h3.trans h4),⟨us2,KU3.same s4⟩,r4,_,rfl,R4.hid L4 (L3.new n4),_,s4 _ _ g3,?_,Paired.imp' (λ_ _ z=>Cy.smx z s4.smx kn0 (λ_ h=>h) h4) P3⟩
   ·rcases iJ.mp ha with z | z
    ·exact dn a z
    ·right;rw[show a=r2 by simpa using z];exact nr
   ·intro z;rcases aw.mp z with z | z
    ·exact nin z
    ·cases bR.mp z;exact rp rfl
  rintro σ' H' ⟨s',A2,⟨up,dn⟩,L',hs,⟨us',KU'⟩,sv,y,rfl,Rv,vs,gv,nin,pv⟩;have Ak2:A2 kn=true:=up kn AkP;have Ap2:A2 p=true:=up p iS;have C':=CQ.same hs;obtain ⟨dx,sy,a1,a2,a3,gx,S',_⟩:=C'.same aZ;obtain ⟨M,hM⟩:=BF.mm 0 (by lia);have hM:my M (st.map nm):=hM;have ls:=BF.ls;exists ⟨x,dx,_,rfl,gx,oP (by decide +kernel) (by decide +kernel) (by decide +kernel) (by decide +kernel) (by decide +kernel),?_⟩;exists ⟨A2,x,kn,H0,mv,pt,lk,qs,rs,fs,tt,sg,om,b,j9,l,us',rfl,L',Ak2,C',D,F,lT,KU',λv us2 H2 s2 KU2 kv=>?_⟩;have h2:=jC Ak2 s2;have L2':=L'.smx s2 KU2.1;have R2:cg K H2 s st:=((Rs.same hs).same h2).same aZ;obtain ⟨t,tw,ts,pw,ps,rfl,q1,q2,G1,q3,G2⟩:=kv.same aZ;exists ⟨tw,pw,s,_,_,M,st,b,b,rfl,q2,G1,by rw[F.lw l lT];lia,λc hc=>by rw[F.ww l lT c hc,ls],R2,by lia,hM,F.sw l lT,by lia,by have:=(F.wb l lT).1;lia,(F.wb l lT).2,by lia,λr3 H3 n3 s3 R3=>?_⟩;exists ⟨s,r3,st,_,rfl,R2.same s3,R3,by unfold BH;rw[ag,F.lw l lT,ls],by lia,BF.dt,λe4 H4 s4 N4=>?_⟩;exists bU λt5 H5 s5 g5=>?_
  have s25:=(s3.trans s4).trans s5;have L5:=L2'.same s25;have h25:aA (cI A2 H') (cI A2 H5):=h2.trans (b8 s25)
  have N5:b6 K (cI A2 H5) (iF st (BH (dh mv pt qs rs fs l).1.1 (dh mv pt qs rs fs l).1.2 st)) (.ref e4):=by
   obtain ⟨q,e,sq⟩:=N4.same s5;exact ⟨q,e,xS sq L5⟩
  exact k A2 t5 e4 p us2 vs H5 g5 (λa h=>up a (ma h)) dn L5 Ap2 n1 ((s'.trans s2).trans s25.smx) (hs.trans h25) (KU2.same s25) N5 (s25 _ _ (s2 _ _ pk gv)) (Paired.imp' (λ_ _ z=>Cy.smx z (s2.trans s25.smx) kn0 (λ_ h=>h) h25) pv) nin
theorem ic:ba ["_law_script","_law_bag_here","_law_parts_here","_law_wide","_law_n","_law_system_here","_law_rates_here","_law_told","_law_fresh","_law_steps_here","_law_begins","_law_start","_law_due","_law_found","_law_row_here","_law_factor","_law_dues"] ["_law_script"] (aH Iz):=by walk_at "d"
theorem Nv (T:Txt K mg Z) (ptree:P.given.tree=none):cW P w K mg base iO 10 Z.Mh Z.Mc ["_law_script"] (yo K):=by
 have Fe:=Dv (P:=P) (w:=w) (base:=base) T ptree;have z7:=yK (P:=P) (w:=w) (base:=base) T ptree;have D7:=BP (P:=P) (w:=w) (base:=base) T ptree;have Ct:=zU (P:=P) (w:=w) (base:=base) T ptree;have oY:=uW (P:=P) (w:=w) (base:=base) T ptree;have zJ:=Dt (P:=P) (w:=w) (base:=base) T ptree;have jb:=rz (P:=P) (w:=w) (base:=base) T ptree;have aI:=dF (P:=P) (w:=w) (base:=base) T ptree;have z9:=yN (P:=P) (w:=w) (base:=base) T ptree;have Cv:=zW (P:=P) (w:=w) (base:=base) T ptree;have vN:=zX (P:=P) (w:=w) (base:=base) T ptree;have oE:=rA (P:=P) (w:=w) (base:=base) T ptree;have ip:=pI (P:=P) (w:=w) (base:=base) T ptree;have jn:=pH (P:=P) (w:=w) (base:=base) T ptree;have lG:=tZ (P:=P) (w:=w) (base:=base) T ptree;refine T.Mm.ok ic (λvs H Q E h=>?_) (λcdv A outer s H vs Q E hr h=>?_)
 ·obtain ⟨a,ns,rfl,_⟩:=h;rfl
 ·obtain ⟨a,ns,rfl,hS,hlen,k⟩:=h
  refine ⟨_,(ar (aV (i:=1) ic.nd rfl (Or.inl rfl) (cS Fe hr T.rH (aa (pv 0) af)))
   (ar (gO (cS z7 hr T.lZ (aa (pv 1) af)) (wg rfl (cV (aO (i:=2) ic.nd) (cV (aO (i:=3) ic.nd) kf))))
   (ar (aV (i:=4) ic.nd rfl (Or.inl rfl) (bO bG (by rfl) T.len bx (aa (aR bT (pv 2) ai) af)))
   (ar (aV (i:=5) ic.nd rfl (Or.inl rfl) (cS D7 hr T.pR (aa (pv 2) af)))
   (ar (aV (i:=6) ic.nd rfl (Or.inl rfl) (cS Ct hr T.oh (aa (pv 1) (aa (pv 2) af))))
   (ar (aV (i:=7) ic.nd rfl (Or.inr rfl) (Bw T.mk_Costs oY (hr.mono (by decide)) rfl T.mg_Costs T.j6 .nil jM (aa (pv 5) (aa (cZ c5 (by rfl) T.list PyProof.Rows.boot_list (aa (aR bf (pv 6) ai) af)) (aa (cZ c5 (by rfl) T.list PyProof.Rows.boot_list (aa (aR bf (pv 6) ai) af)) (aa (cZ c5 (by rfl) T.list PyProof.Rows.boot_list (aa (aR bf (pv 6) ai) af)) af))))))
   (ar (aV (i:=8) ic.nd rfl (Or.inl rfl) (Bw T.mk_Costs oY (hr.mono (by decide)) rfl T.mg_Costs T.j6 .nil jM (aa (pv 5) (aa (cZ c5 (by rfl) T.list PyProof.Rows.boot_list (aa (aR bf (pv 6) ai) af)) (aa (cZ c5 (by rfl) T.list PyProof.Rows.boot_list (aa (aR bf (pv 6) ai) af)) (aa (cZ c5 (by rfl) T.list PyProof.Rows.boot_list (aa (aR bf (pv 6) ai) af)) af))))))
   (ar (aV (i:=9) ic.nd rfl (Or.inr rfl) (cS zJ hr T.mR (aa (pv 1) (aa (pv 2) af))))
   (ar (aV (i:=10) ic.nd rfl (Or.inl rfl) (dN (aa (cS jb hr T.ij (aa (pv 1) (aa (pv 4) (aa (pv 3) af)))) (aa (cS jb hr T.ij (aa (pv 1) (aa (pv 4) (aa (pv 3) af)))) af))))
   (iw (dC (br fy (cS aI hr T.aK (aa (pv 1) (aa ai af))) ai (bF _)) (az (fX (gR (pv 7) T.cl_Costs T.rJ z9 (hr.mono (by decide)) T.td .nil jM (aa (cS zJ hr T.mR (aa (pv 1) (aa (pv 2) af))) af)))) bX)
   (ar (eI PassesOwn.never rfl (cu (dN (aa (aR bf (pv 10) ai) (aa (aR bf (pv 10) ai) (aa (aR bf (pv 10) ai) af))))) (aO (i:=11) ic.nd)
    (ar (aV (i:=12) ic.nd rfl (Or.inl rfl) (cS Cv hr T.oj (aa (pv 2) (aa (pv 7) (aa (pv 11) (aa (pv 9) af))))))
   (ar (aV (i:=13) ic.nd rfl (Or.inl rfl) (gR (pv 7) T.cl_Costs T.oo vN (hr.mono (by decide)) T.pZ .nil jM (aa (pv 11) (aa (pv 9) af))))
   (ar (dC (PW.pt (rg (br Nu (pv 12) IV (bF _)) (lR (br (EB (Jk hr)) (aR bT (pv 13) ai) (pv 12) (bF _))))) (az (bc sO)) bX)
   (ar (eI PassesOwn.never rfl (cu (aR bT (pv 13) ai)) (aO (i:=14) ic.nd)
    (az (fX (rh bZ cn cm gM (pv 14) (aa (cK (aa ai (aa ai af))) af)))))
   (ar (fX (rh bZ cn cm gM (aR bT (pv 13) ai) (aa (dN af) af)))
   (az (dC (br (EB (Jk hr)) (aR bT (gR (pv 8) T.cl_Costs T.oo vN (hr.mono (by decide)) T.pZ .nil jM (aa (pv 11) (aa (pv 9) af))) ai) (pv 12) (bF _)) (az (bc sO)) bX))))))))
   (ar (dC (br fy (pv 9) ai (bF _)) (az (bc sO)) bX)
   (ar (aV (i:=15) ic.nd rfl (Or.inl rfl) (cS oE hr T.jz (aa (pv 1) (aa ai af))))
   (ar (mL 16 ["_law_start"] ["_law_told","_law_steps_here"] [7,9] ic.nd rfl rfl (cu (pv 10)) (λ_=>(aO (i:=0) (show ND9 ["_law_start","_law_told","_law_steps_here"] by decide +kernel))) (λ_=>cy) (λ_=>(gR (pv 1) T.cl_Costs T.iE ip (hr.mono (by decide)) T.ji .nil jM (aa (pv 0) (aa (pv 2) af)))))
   (ar (dC (br (EB (Jk hr)) (gR (pv 7) T.cl_Costs T.iE ip (hr.mono (by decide)) T.ji .nil jM (aa (cS jn hr T.iD (aa (aR bf (pv 10) ai) (aa (aR bf (pv 10) ai) af))) (aa (pv 9) af))) (cS jn hr T.iD (aa (aR bf (pv 16) ai) (aa (aR bf (pv 16) ai) af))) (bF _)) (az (bc sO)) bX)
   (az (bc (kg (IY (Jk hr)) (gR (pv 7) T.cl_Costs T.iE ip (hr.mono (by decide)) T.ji .nil jM (aa (cS lG hr T.jY (aa (pv 15) (aa (aR bf (pv 10) ai) af))) (aa (pv 9) af))) (cS lG hr T.jY (aa (pv 15) (aa (aR bf (pv 16) ai) af))) (bF _))))))))))))))))))),?_⟩
  refine aW (σ:=[some (.ref a),none,none,none,none,none,none,none,none,none,none,none,none,none,none,none,none]) rfl ?_;exists ⟨a,ns,rfl,hS,hlen,λb H0 hb0 B0 s0=>?_⟩;exists ⟨b,rfl,B0,λt r w a' c' mv pt lk H1 g1 P1 D F KF RG w1 w2 B1 u1=>?_⟩;have d8:=D.n8;have i4:=D.i4
  have szE:∀xs∈mv++pt,∀x∈xs,qF x:=λxs hx y hy=>by
   obtain ⟨M,V,h0,h1,h2,f1,f2,_⟩:=F;refine FU h0 (aj h1 (av (by decide) (by decide))) (aj h2 (av (by decide) (by decide))) ?_;rcases aw.mp hx with hx | hx
   ·exact f1 xs hx y hy
   ·exact f2 xs hx y hy
  obtain ⟨m,p,l,gt,mn,pn,ln,Gm,Gp,Gl⟩:=id P1;obtain ⟨um,gm,qm,_⟩:=id Gm;have lum:=qm.length;exists ⟨_,_,rfl,.inl (bP.of gm),?_⟩;rw[<- lum];clear gm qm lum Gm Gp Gl gt mn pn ln;exists ⟨r,H0,mv,pt,lk,rfl,P1,D,F.sf,λx H2 nx s2 S2=>?_⟩;replace S2:oz K H0 H2 Z.a_System x mv pt lk:=S2.weakN λq h=>u1.none B1 h
  replace P1:=P1.same s2;have B2:=B1.same s2;exists ⟨b,r,H0,mv,pt,lk,rfl,B2,B0.at,P1,D,λrt a1 a2 a3 qs rs fs H3 nrt na1 na2 na3 grt R1 R2 R3 WT B3 u3=>?_⟩;replace P1:=P1.upto u3 B2 B0.at;replace S2:=S2.upto u3 B2 B0.at;obtain ⟨q0,I3,xq0,gq0⟩:=B3.inner;obtain ⟨⟨Mf,hMf⟩,_⟩:=wA (T:=0) RG D WT ⟨⟨by decide,.inl (by decide)⟩,by decide,λ_=>by decide,λ_=>by decide,λ_=>by decide⟩;have lf:=WT.lf;have b3:=B3.at;obtain ⟨z1,gz1,qz1⟩:=id R1;obtain ⟨z2,gz2,qz2⟩:=id R2;obtain ⟨z3,gz3,qz3⟩:=id R3;exists ⟨a1,z1,rfl,.inl (bP.of ((aA.refl H3) _ _ gz1)),λk1 nk1=>?_⟩;have sk1:aA H3 (upd H3 k1 (.lst z1)):=aA.new nk1;have gk1:(upd H3 k1 (.lst z1)) k1=some (.lst z1):=aE;generalize upd H3 k1 (.lst z1)=H4 at sk1 gk1 ⊢;have H4s:=(aA.refl H3).trans sk1;have grtk1:=H4s _ _ grt;exists ⟨a2,z2,rfl,.inl (bP.of (H4s _ _ gz2)),λk2 nk2=>?_⟩;have sk2:aA H4 (upd H4 k2 (.lst z2)):=aA.new nk2;have gk2:(upd H4 k2 (.lst z2)) k2=some (.lst z2):=aE;generalize upd H4 k2 (.lst z2)=H5 at sk2 gk2 ⊢;have H5s:=H4s.trans sk2;have grtk2:=H5s _ _ grt;exists ⟨a3,z3,rfl,.inl (bP.of (H5s _ _ gz3)),λk3 nk3=>?_⟩;have sk3:aA H5 (upd H5 k3 (.lst z3)):=aA.new nk3;have gk3:(upd H5 k3 (.lst z3)) k3=some (.lst z3):=aE;generalize upd H5 k3 (.lst z3)=H6 at sk3 gk3 ⊢;have H6s:=H5s.trans sk3;have grtk3:=H6s _ _ grt;walk_at "w"
  have LA0:∀{H'},fP H' b->mB (λa=>a == b) H':=λB a ha=>by
   obtain ⟨q,x1,x2,x3,cs,h,_⟩:=B;rw[show a=b by simpa using ha];exact ⟨_,h⟩
  have nA0:∀{a:Addr},a≠b->(a == b)=false:=λh=>by simpa using h
  have h0A:∀a,(a == b)=true->H0 a≠none:=λa ha=>by rw[show a=b by simpa using ha];exact B0.at
  have B6:=B3.same H6s;have I6:Inner H6 b q0:=by obtain ⟨x1,x2,x3,h⟩:=I3;exact ⟨x1,x2,x3,H6s _ _ h⟩
  have L6:=LA0 B6
  have new:∀{k H' H'' zs xs},H' k=none->H'' k=some (.lst zs)->aA H' H''->aA H'' H6->fP H' b->Paired (b6 K H3) xs zs->cg K (cI (λa=>a == b) H6) k xs:=λ{k H' H'' zs xs} n g s1 s2 B' q=>by
   refine cg.hid ⟨zs,s2 _ _ g,Paired.imp' (λ_ _ z=>z.same H6s) q⟩ L6 (nA0 λz=>B'.at (by rw[<- z];exact n))
  have Q1:=new nk1 gk1 sk1 (sk2.trans sk3) B3 qz1;have Q2:=new nk2 gk2 sk2 sk3 (B3.same H4s) qz2;have Q3:=new nk3 gk3 sk3 (aA.refl _) (B3.same H5s) qz3;have S6:=(S2.same H6s).hid0 L6 h0A;have P6:=(P1.same H6s).hid0 L6 h0A;intro c1 dc1 nc1 ndc1 nec1;refine ⟨(λa=>a == b),c1,dc1,x,k1,k2,k3,H6,H0,mv,pt,lk,qs,rs,fs,Mf,rfl,nc1,ndc1,nec1,rfl,L6,S6,Q1,Q2,Q3,by lia,hMf,λkn1 v1 H7 s7 nkn1 C7 gkn1 KV1=>⟨rfl,?_⟩⟩;have H7s:=H6s.trans s7;have grt7:=H7s _ _ grt;exists ⟨a1,z1,rfl,.inl (bP.of (H7s _ _ gz1)),λk4 nk4=>?_⟩;have sk4:aA H7 (upd H7 k4 (.lst z1)):=aA.new nk4;have gk4:(upd H7 k4 (.lst z1)) k4=some (.lst z1):=aE;generalize upd H7 k4 (.lst z1)=H8 at sk4 gk4 ⊢;have H8s:=H7s.trans sk4;have grtk4:=H8s _ _ grt;exists ⟨a2,z2,rfl,.inl (bP.of (H8s _ _ gz2)),λk5 nk5=>?_⟩;have sk5:aA H8 (upd H8 k5 (.lst z2)):=aA.new nk5;have gk5:(upd H8 k5 (.lst z2)) k5=some (.lst z2):=aE;generalize upd H8 k5 (.lst z2)=H9 at sk5 gk5 ⊢;have H9s:=H8s.trans sk5;have grtk5:=H9s _ _ grt;exists ⟨a3,z3,rfl,.inl (bP.of (H9s _ _ gz3)),λk6 nk6=>?_⟩;have sk6:aA H9 (upd H9 k6 (.lst z3)):=aA.new nk6;have gk6:(upd H9 k6 (.lst z3)) k6=some (.lst z3):=aE;generalize upd H9 k6 (.lst z3)=HA at sk6 gk6 ⊢;have HAs:=H9s.trans sk6;have grtk6:=HAs _ _ grt;walk_at "w";have B7:=B6.same s7;have L7:mB (fk (λa=>a == b) kn1) H7:=(LA0 B7).ad gkn1;have s7A:=(sk4.trans sk5).trans sk6;have LA:=L7.same s7A;have m67:aA (cI (λa=>a == b) H6) (cI (fk (λa=>a == b) kn1) HA):=(pT nkn1 (b8 s7)).trans (b8 s7A)
  have new2:∀{k H' H'' zs xs},H' k=none->H'' k=some (.lst zs)->aA H7 H'->aA H'' HA->Paired (b6 K H3) xs zs->cg K (cI (fk (λa=>a == b) kn1) HA) k xs:=λ{k H' H'' zs xs} n g s1 s2 q=>by
   exact cg.hid ⟨zs,s2 _ _ g,Paired.imp' (λ_ _ z=>z.same HAs) q⟩ LA ((L7.same s1).new n)
  have Q4:=new2 nk4 gk4 (aA.refl _) (sk5.trans sk6) qz1;have Q5:=new2 nk5 gk5 sk4 sk6 qz2;have Q6:=new2 nk6 gk6 (sk4.trans sk5) (aA.refl _) qz3;have SA:=S6.same m67;have PA:=P6.same m67;have CA:=C7.same (b8 s7A);have NA1:sG (fk (λa=>a == b) kn1) (dh mv pt qs rs fs) kn1 HA [v1]:=sG.same ⟨gkn1,(by show 1<=1;decide),(by show 1<=9;decide),.cons KV1 .nil⟩ s7A;intro c2 dc2 nc2 ndc2 nec2;refine ⟨fk (λa=>a == b) kn1,c2,dc2,x,k4,k5,k6,HA,H0,mv,pt,lk,qs,rs,fs,Mf,rfl,nc2,ndc2,nec2,rfl,LA,SA,Q4,Q5,Q6,by lia,hMf,λkn2 v2 HB sB nkn2 CB gkn2 KV2=>⟨rfl,?_⟩⟩;have mAB:aA (cI (fk (λa=>a == b) kn1) HA) (cI (fk (fk (λa=>a == b) kn1) kn2) HB):=pT nkn2 (b8 sB);have BA:=B7.same s7A;have BB:=BA.same sB;have PB:=PA.same mAB;have CB1:=CA.same mAB;have q06:H6 q0≠none:=by rw[H6s _ _ gq0];exact λz=>nomatch z
  have q0A:HA q0≠none:=by rw[(s7.trans s7A) _ _ (H6s _ _ gq0)];exact λz=>nomatch z
  have NB:oX b q0 kn1 kn2 (dh mv pt qs rs fs) (fk (fk (λa=>a == b) kn1) kn2) HB:=by
   have Ab1:fk (λa=>a == b) kn1 b=true:=ma (by simp);have kA:HA kn1=some (.lst [v1]):=s7A _ _ gkn1;refine ⟨(LA.same sB).ad gkn2,ma Ab1,ma iS,iS,BB,?_,⟨_,NA1.hide sB nkn2⟩,⟨[v2],gkn2,(by show 1<=1;decide),(by show 1<=9;decide),.cons KV2 .nil⟩,⟨(λz=>by rw[<- z,kA] at nkn2;cases nkn2),(λz=>B6.at (by rw[z];exact nkn1)),(λz=>BA.at (by rw[z];exact nkn2)),(λz=>q06 (by rw[z];exact nkn1)),(λz=>q0A (by rw[z];exact nkn2))⟩⟩;obtain ⟨x1,x2,x3,h⟩:=I6;exact ⟨x1,x2,x3,sB _ _ (s7A _ _ (s7 _ _ h))⟩
  generalize fk (fk (λa=>a == b) kn1) kn2=A9 at NB CB CB1 PB;clear NA1 CA SA PA Q1 Q2 Q3 Q4 Q5 Q6 C7 KV1 KV2 mAB m67 new new2;exists ⟨b,r,H0,mv,pt,lk,rfl,NB.B,B0.at,PB.same aZ,D,szE,λtt HC FW BC uC=>?_⟩;obtain ⟨NC,mC⟩:=NB.bag uC BC;replace PB:=PB.same mC;replace CB:=CB.same mC;replace CB1:=CB1.same mC;exists ⟨b,mv.length,w,rfl,NC.B,by lia,w1,by lia,λsA stA HD nsA RA lA dA BD uD=>?_⟩;obtain ⟨ND,mD⟩:=NC.bag uD BD;replace RA:=RA.hid ND.L (NC.L.new nsA);exists ⟨b,mv.length,w,rfl,ND.B,by lia,w1,by lia,λsB stB HE nsB RB lB dB BE uE=>?_⟩;obtain ⟨NE,mE⟩:=ND.bag uE BE;replace RB:=RB.hid NE.L (ND.L.new nsB);exists cY λbg HF sF nF gF=>?_
  have mF:aA (cI A9 HE) (cI A9 HF):=b8 sF;have NF:=NE.same sF;have MF:DX K H0 Z.a_System Z.a_Costs c1 kn1 c2 kn2 r bg sA sB mv pt lk qs rs stA stB (cI A9 HF):=⟨((CB1.same mD).same mE).same mF,((CB.same mD).same mE).same mF,((PB.same mD).same mE).same mF,fD gF (NE.L.new nF),(RA.same mE).same mF,RB.same mF⟩;obtain ⟨_,sg,om,bb,j9,KF9,BE9,DU⟩:=wA RG D WT FW;clear CB1 CB PB RA RB NE ND NC;exists ⟨λσ' H'=>σ'=[some (.ref a),some (.ref b),some (.ref r),some (.int w),some (.int mv.length),some (.ref x),some (.ref rt),some (.ref c1),some (.ref c2),some (.int tt),some (.ref bg),none,none,none,none,none,none]/\oX b q0 kn1 kn2 (dh mv pt qs rs fs) A9 H'/\DX K H0 Z.a_System Z.a_Costs c1 kn1 c2 kn2 r bg sA sB mv pt lk qs rs stA stB (cI A9 H'),?_,?_⟩
  ·exists ⟨b,2,rfl,NF.B,by decide,by decide,λv HG hv0 hv2 BG uG=>?_⟩;obtain ⟨NG,mG⟩:=NF.bag uG BG;have MG:=MF.same mG;exists ia (λ_=>?_) (λ_=>?_)
   ·obtain ⟨dx1,sy1,_,_,_,gx1,_⟩:=MG.C1.same aZ;exists ⟨c1,dx1,_,rfl,gx1,oP (by decide +kernel) (by decide +kernel) (by decide +kernel) (by decide +kernel) (by decide +kernel),?_⟩;exists ⟨b,r,H0,mv,pt,lk,rfl,NG.B,B0.at,MG.P.same aZ,D,szE,λt2 HI FW2 BI uI=>?_⟩;obtain ⟨NI,mI⟩:=NG.bag uI BI;have MI:=MG.same mI;obtain ⟨_,sg2,om2,bb2,j2,KF2,_,_⟩:=wA RG D WT FW2;obtain ⟨us,KU⟩:=NI.N1;exists ⟨A9,c1,kn1,H0,mv,pt,lk,qs,rs,fs,t2,sg2,om2,bb2,j2,t2,us,rfl,NI.L,NI.A1,MI.C1,D,KF2,au _,KU,λrw us' HJ sJ KJ _ _ _=>?_⟩;have mJ:=jC NI.A1 sJ;exact ⟨rfl,NI.told (λ_ h=>h) (NI.L.smx sJ KJ.1) sJ mJ KJ,MI.same mJ⟩
   ·exists ⟨rfl,NG,MG⟩
  clear NF MF;rintro σ' HG ⟨rfl,NG,MG⟩;have gb:=aZ _ _ MG.g;exists cY λls HI sI nI gI=>?_
  have NI:=NG.same sI;have MI:=MG.same (b8 sI);have gI':=fD gI (NG.L.new nI);clear NG MG gb;exists ⟨⟨_,bP.of gI⟩,?_⟩;refine iR (K:=K) (a:=ls) (xs:=[.ref sA,.ref sB,.ref sA]) (λi σ' H'=>∃A2,oX b q0 kn1 kn2 (dh mv pt qs rs fs) A2 H'/\DX K H0 Z.a_System Z.a_Costs c1 kn1 c2 kn2 r bg sA sB mv pt lk qs rs stA stB (cI A2 H')/\cI A2 H' ls=some (.lst [.ref sA,.ref sB,.ref sA])/\∃y1 y2 y3 y4,σ'=[some (.ref a),some (.ref b),some (.ref r),some (.int w),some (.int mv.length),some (.ref x),some (.ref rt),some (.ref c1),some (.ref c2),some (.int tt),some (.ref bg),y1,y2,y3,y4,none,none]) ⟨A9,NI,MI,gI',_,_,_,_,rfl⟩ (λi σ' H' _ ⟨_,_,_,g,_⟩=>bP.of (aZ _ _ g)) ?_ ?_
  ·rintro i v σ' H' hv ⟨A2,N',M',gl',y1,y2,y3,y4,rfl⟩
   obtain ⟨s,st,rfl,Rs,BF⟩:∃s st,v=.ref s/\(∀{X},DX K H0 Z.a_System Z.a_Costs c1 kn1 c2 kn2 r bg sA sB mv pt lk qs rs stA stB X->cg K X s st)/\Oy mv pt qs rs fs st tt:=by
    match i,hv with
    | 0,hv=>cases hv;exact ⟨sA,stA,rfl,λM=>M.RA,BE9 stA lA dA⟩
    | 1,hv=>cases hv;exact ⟨sB,stB,rfl,λM=>M.RB,BE9 stB lB dB⟩
    | 2,hv=>cases hv;exact ⟨sA,stA,rfl,λM=>M.RA,BE9 stA lA dA⟩
    | n+3,hv=>simp at hv
   obtain ⟨us,KU⟩:=N'.N1;have kn0:H' kn1≠none:=by rw[KU.1];exact λz=>nomatch z
   exists ⟨A2,r,c1,kn1,s,H0,H0,mv,pt,lk,qs,rs,fs,st,tt,sg,om,bb,j9,tt,us,rfl,N'.L,N'.A1,M'.C1,D,KF9,au _,KU,M'.P,Rs M',BF,λA3 p1 us1 ws1 H4 up3 dn3 L4 Ap3 np1 s4 m4 KU4 g4 pr4 nin4=>?_⟩;have N4:=N'.told up3 L4 s4 m4 KU4;have M4:=M'.same m4;have p1k:p1≠kn1:=λz=>kn0 (by rw[<- z];exact np1)
   obtain ⟨dx1,sy1,_,_,_,gx1,_⟩:=M4.C1.same aZ;exists ⟨c1,dx1,_,rfl,gx1,oP (by decide +kernel) (by decide +kernel) (by decide +kernel) (by decide +kernel) (by decide +kernel),?_⟩;exists ⟨A3,c1,kn1,s,H0,mv,pt,lk,qs,rs,fs,st,tt,sg,om,bb,j9,tt,us1,rfl,N4.L,N4.A1,M4.C1,D,KF9,au _,KU4,F,Rs M4,BF,λA4 t5 e5 p5 us6 ws5 H5 gt5 up5 dn5 L5 Ap5 np5 s5 m5 KU6 NQ5 g5 pr5 nin5=>?_⟩;have N5:=N4.told up5 L5 s5 m5 KU6;have M5:=M4.same m5;have g45:=s5 _ _ p1k g4;have pr45:=Paired.imp' (λ_ _ z=>Cy.smx z s5 kn0 up5 m5) pr4;exists ⟨rfl,_,rfl,?_⟩;rw[decide_eq_false (show ¬V.ref p1=V.non from λz=>nomatch z)];exists ⟨_,_,EN,_,_,by decide,uH g5 pr5,uH g45 pr45,?_⟩;rw[decide_eq_true rfl];walk_at "w";have lw5:ws5.length=tt:=by have:=pr5.length;unfold Qf at this;rw[ag,bS] at this;lia
   have t8:=KF9.t8;obtain ⟨us2,KV2⟩:=N4.N2;have k20:H4 kn2≠none:=by rw[KV2.1];exact λz=>nomatch z
   have k10:H4 kn1≠none:=by rw[KU4.1];exact λz=>nomatch z
   have far:∀{q},H4 q=none->q≠b/\q≠kn1/\q≠kn2/\q≠q0:=λ{q} h=>⟨λz=>N4.B.at (by rw[<- z];exact h),λz=>k10 (by rw[<- z];exact h),λz=>k20 (by rw[<- z];exact h),λz=>Inner.at N4.B N4.I (by rw[<- z];exact h)⟩
   have rw5:∀v∈ws5,∃q zs,v=.ref q/\A4 q=true/\H4 q=none/\H5 q=some (.lst zs)/\zs.length<=4+0:=λv hv=>by
    obtain ⟨i,hi⟩:=List.getElem?_of_mem hv;obtain ⟨xs,ex,q,zs,e1,e2,e3,e4,e5⟩:=dG pr5 hi;refine ⟨q,zs,e1,e2,e3,e4,?_⟩;unfold Qf at ex;rw[aB] at ex;obtain ⟨j,hj,rfl⟩:=iW.mp ex;have hj2:=AV.mp (ak hj);have:=BF.ld j hj2;rw[<- e5.length,this];exact i4
   refine ⟨⟨_,bP.of g5⟩,?_⟩;refine iR (K:=K) (a:=p5) (xs:=ws5) (λi σ' H'=>tE kn1 H4 H'/\oX b q0 kn1 kn2 (dh mv pt qs rs fs) A4 H'/\aA (cI A4 H5) (cI A4 H')/\H' p5=some (.lst ws5)/\(∀v∈ws5,∃q zs,v=.ref q/\A4 q=true/\H4 q=none/\H' q=some (.lst zs)/\zs.length<=4+i)/\∃y,σ'=[some (.ref a),some (.ref b),some (.ref r),some (.int w),some (.int mv.length),some (.ref x),some (.ref rt),some (.ref c1),some (.ref c2),some (.int tt),some (.ref bg),some (.ref s),some (.ref p1),some (.ref t5),y,none,none]) ⟨s5,N5,aA.refl _,g5,rw5,_,rfl⟩ (λi σ' H' _ ⟨_,_,_,g,_⟩=>bP.of g) ?_ ?_
   ·rintro i v σ' H6 hv ⟨s6,N6,m6,g6,rw6,y,rfl⟩;have il:=(aY.mp hv).1;have vm:=ak hv;obtain ⟨q,zs,rfl,Aq,nq,gq,lz⟩:=rw6 v vm;obtain ⟨f1,f2,f3,f4⟩:=far nq;have qp:p5≠q:=λz=>nin5 (by rw[z];exact vm)
    exists ⟨.inl ⟨rfl,_,bP.of gq⟩,?_⟩;exists bU λt7 H7 s7 g7=>?_
    exists gL (s7 _ _ gq) (bz (by lia)) ?_;obtain ⟨N8,e8⟩:=(N6.same s7).put (ws:=zs++[.ref t7]) Aq f1 f2 f3 f4;refine ⟨(s6.trans s7.smx).after nq,N8,by rw[e8];exact m6.trans (b8 s7),by rw[aN qp];exact s7 _ _ g6,λv2 hv2=>?_,_,rfl⟩;obtain ⟨q2,zs2,h1,h2,h3,h4,h5⟩:=rw6 v2 hv2;by_cases z:q2=q
    ·rw[z,gq] at h4;cases h4;exact ⟨q2,_,h1,h2,h3,by rw[z];exact aE,by rw[aD];show zs.length+1<=_;lia⟩
    ·exact ⟨q2,zs2,h1,h2,h3,by rw[aN z];exact s7 _ _ h4,by lia⟩
   rintro σ' H6 ⟨s6,N6,m6,g6,_,y,rfl⟩;have gt6:=aZ _ _ (m6 _ _ (fD gt5 (L5.tup gt5)));obtain ⟨f1,f2,f3,f4⟩:=far np5;exists ⟨.inl ⟨rfl,_,bP.of g6⟩,?_⟩;exists cY λe7 H7 s7 n7 g7=>?_
   exists gL (s7 _ _ g6) (bz (by lia)) ?_;obtain ⟨N8,e8⟩:=(N6.same s7).put (ws:=ws5++[.ref e7]) Ap5 f1 f2 f3 f4;have s8:tE kn1 H4 (upd H7 p5 (.lst (ws5++[.ref e7]))):=(s6.trans s7.smx).after np5;have m8:aA (cI A4 H5) (cI A4 (upd H7 p5 (.lst (ws5++[.ref e7])))):=by rw[e8];exact m6.trans (b8 s7)
   generalize upd H7 p5 (.lst (ws5++[.ref e7]))=H8 at N8 s8 m8 ⊢;clear e8;have M8:=M5.same m8;obtain ⟨dx2,Qc,_,_,_,gx2,_⟩:=M8.C2.same aZ;obtain ⟨us8,KV8⟩:=N8.N2;exists ⟨c2,dx2,_,rfl,gx2,oP (by decide +kernel) (by decide +kernel) (by decide +kernel) (by decide +kernel) (by decide +kernel),?_⟩;exists ⟨A4,c2,kn2,s,H0,mv,pt,lk,qs,rs,fs,st,tt,sg,om,bb,j9,tt,us8,rfl,N8.L,N8.A2,M8.C2,D,KF9,au _,KV8,F,Rs M8,BF,λA5 t9 e9 p9 us9 ws9 H9 gt9 up9 dn9 L9 Ap9 np9 s9 m9 KU9 NQ9 g9 pr9 nin9=>?_⟩;have N9:=N8.fresh up9 L9 s9 m9 KU9;have M9:=M8.same m9
   have k2H:H' kn2≠none:=by
    obtain ⟨_,K2⟩:=N'.N2;rw[K2.1];exact λz=>nomatch z
   have p2k:p1≠kn2:=λz=>k2H (by rw[<- z];exact np1)
   have g49:=s9 _ _ p2k (s8 _ _ p1k g4);have pr49:=Paired.imp' (λ_ _ z=>Cy.smx (Cy.smx z s8 kn0 up5 (m5.trans m8)) s9 k2H up9 m9) pr4;exists ⟨_,_,EN,_,_,by decide,uH g9 pr9,uH g49 pr49,?_⟩;rw[decide_eq_true rfl];exists ⟨A5,N9,M9,m9 _ _ (m8 _ _ (m5 _ _ (m4 _ _ gl'))),_,_,_,_,rfl⟩
  rintro σ' HG ⟨A2,NG,MG,_,y1,y2,y3,y4,rfl⟩;exists ia (λ_=>?_) (λt0=>?_)
  ·exists k _
  have t1:1<=tt:=by simp at t0;lia
  exists ⟨b,9,rfl,NG.B,by decide,by decide,λf cf HI df Nf BI uI=>?_⟩;obtain ⟨NI,mI⟩:=NG.bag uI BI;have MI:=MG.same mI
  replace Nf:b6 K (cI A2 HI) cf (.ref f):=by
   obtain ⟨q,e,sq⟩:=Nf;exact ⟨q,e,xS sq NI.L⟩
  obtain ⟨szf,bA,bB,bC,bD⟩:=Hr w2 lA lB d8 dA dB df;have lC:(List.zipWith (λx y=>x+y) stA stB).length=mv.length:=by rw[cA,lA,lB,Nat.min_self]
  have lD:(stA.map λx=>cf*x).length=mv.length:=by rw[ag,lA]
  obtain ⟨⟨MA,hMA⟩,zA,lDA,zDA⟩:=DU t1 stA lA bA;obtain ⟨⟨MB,hMB⟩,zB,lDB,zDB⟩:=DU t1 stB lB bB;obtain ⟨⟨MC,hMC⟩,_,_,_⟩:=DU t1 _ lC bC;obtain ⟨⟨MD,hMD⟩,_,_,_⟩:=DU t1 _ lD bD;clear bA bB bC bD DU NG MG;have gb:=aZ _ _ MI.g;exists ⟨⟨_,bP.of gb⟩,?_⟩;clear gb;refine fN (K:=K) (a:=bg) (xs:=[.ref sA,.ref sB]) (λi ys H'=>oX b q0 kn1 kn2 (dh mv pt qs rs fs) A2 H'/\DX K H0 Z.a_System Z.a_Costs c1 kn1 c2 kn2 r bg sA sB mv pt lk qs rs stA stB (cI A2 H')/\b6 K (cI A2 H') cf (.ref f)/\Paired (λxs v=>∃q,v=.ref q/\cg K (cI A2 H') q xs) ([kY mv pt qs rs fs tt stA,kY mv pt qs rs fs tt stB].take i) ys) (aT (bz (by show 2<=1000;decide))) ⟨NI,MI,Nf,.nil⟩ (λi ys H' _ ⟨_,M,_⟩=>bP.of (aZ _ _ M.g)) ?_ ?_
  ·rintro i v ys H1 hv hlen ⟨N1,M1,Nf1,pr⟩
   obtain ⟨s,st,Ms,rfl,Rs,ls,hMs,es⟩:∃s st Ms,v=.ref s/\cg K (cI A2 H1) s st/\st.length=mv.length/\my Ms (st.map nm)/\[kY mv pt qs rs fs tt stA,kY mv pt qs rs fs tt stB][i]?=some (kY mv pt qs rs fs tt st):=by
    match i,hv with
    | 0,hv=>cases hv;exact ⟨sA,stA,MA,rfl,M1.RA,lA,hMA,rfl⟩
    | 1,hv=>cases hv;exact ⟨sB,stB,MB,rfl,M1.RB,lB,hMB,rfl⟩
    | n+2,hv=>simp at hv
   rw[take_snoc es];obtain ⟨dx1,sy1,_,_,_,gx1,_⟩:=M1.C1.same aZ;exists ⟨c1,dx1,_,rfl,gx1,oP (by decide +kernel) (by decide +kernel) (by decide +kernel) (by decide +kernel) (by decide +kernel),?_⟩;walk_at "w";obtain ⟨us2,KU2⟩:=N1.N1;refine ⟨A2,c1,kn1,s,H0,mv,pt,lk,qs,rs,fs,_,tt,sg,om,bb,j9,tt,_,us2,rfl,N1.L,N1.A1,M1.C1,D,KF9,au _,KU2,t1,Rs,ls,hMs,λr2 vs2 H2 s2 KV2 n2 a2 R2=>?_⟩;have m2:=jC N1.A1 s2;have N2:=N1.told (λ_ h=>h) (N1.L.smx s2 KV2.1) s2 m2 KV2.un;have M2:=M1.same m2;exact ⟨N2,M2,Nf1.same m2,(Paired.imp' (λ_ _ ⟨q,e,z⟩=>⟨q,e,z.same m2⟩) pr).snoc ⟨r2,rfl,R2⟩⟩
  rintro ys H1 _ ⟨N1,M1,Nf1,pr⟩ dl ndl
  obtain ⟨dA',dB',rfl,RdA,RdB⟩:∃p q,ys=[.ref p,.ref q]/\cg K (cI A2 H1) p (kY mv pt qs rs fs tt stA)/\cg K (cI A2 H1) q (kY mv pt qs rs fs tt stB):=by
   cases pr with
   | cons h t =>
    obtain ⟨p,rfl,h1⟩:=h;cases t with
    | cons h' t' =>
     obtain ⟨q,rfl,h2⟩:=h';cases t';exact ⟨p,q,rfl,h1,h2⟩
  clear pr;have s2:aA H1 (upd H1 dl (.lst [.ref dA',.ref dB'])):=aA.new ndl;have g2:(upd H1 dl (.lst [.ref dA',.ref dB'])) dl=some (.lst [.ref dA',.ref dB']):=aE;generalize upd H1 dl (.lst [.ref dA',.ref dB'])=H2 at s2 g2 ⊢;have m2:aA (cI A2 H1) (cI A2 H2):=b8 s2;replace g2:cI A2 H2 dl=some (.lst [.ref dA',.ref dB']):=fD g2 (N1.L.new ndl);have N2:=N1.same s2;have M2:=M1.same m2;replace Nf1:=Nf1.same m2;replace RdA:=RdA.same m2;replace RdB:=RdB.same m2;clear N1 M1 NI MI Nf;have gb:=aZ _ _ M2.g;obtain ⟨dx1,sy1,_,_,_,gx1,_⟩:=M2.C1.same aZ;exists ⟨c1,dx1,_,rfl,gx1,oP (by decide +kernel) (by decide +kernel) (by decide +kernel) (by decide +kernel) (by decide +kernel),?_⟩;exists ⟨sA,sB,stA,stB,rfl,M2.RA.same aZ,M2.RB.same aZ,by lia,by lia,zA,zB,λrC H3 n3 s3 R3=>?_⟩;have N3:=N2.same s3;have M3:=M2.same (b8 s3);replace R3:=R3.hid N3.L (N2.L.new n3);walk_at "w";obtain ⟨us4,KU4⟩:=N3.N1;refine ⟨A2,c1,kn1,rC,H0,mv,pt,lk,qs,rs,fs,_,tt,sg,om,bb,j9,tt,_,us4,rfl,N3.L,N3.A1,M3.C1,D,KF9,au _,KU4,t1,R3,lC,hMC,λr4 vs4 H4 s4 KV4 n4 a4 R4=>?_⟩;have m4:=jC N3.A1 s4;have N4:=N3.told (λ_ h=>h) (N3.L.smx s4 KV4.1) s4 m4 KV4.un;have M4:=M3.same m4;have m24:aA (cI A2 H2) (cI A2 H4):=(b8 s3).trans m4;replace g2:=m24 _ _ g2;replace Nf1:=Nf1.same m24;replace RdA:=RdA.same m24;replace RdB:=RdB.same m24;have gd:=aZ _ _ g2;exists ⟨dA',dB',_,_,rfl,RdA.same aZ,RdB.same aZ,by lia,by lia,zDA,zDB,λrE H5 n5 s5 R5=>?_⟩
  have e5:kY mv pt qs rs fs tt (List.zipWith (λx y=>x+y) stA stB)=List.zipWith (λx y=>x+y) (kY mv pt qs rs fs tt stA) (kY mv pt qs rs fs tt stB):=by
   unfold kY;exact KY (by lia)
  rw[e5] at R4;exists ⟨_,_,FP,_,_,by decide,((R4.same aZ).same s5).kind,R5.kind,?_⟩;rw[decide_eq_true rfl];have N5:=N4.same s5;have M5:=M4.same (b8 s5);have m5:aA (cI A2 H4) (cI A2 H5):=b8 s5;replace g2:=m5 _ _ g2;replace Nf1:=Nf1.same m5;replace RdA:=RdA.same m5;clear gb gd RdB;have gb:=aZ _ _ M5.g;obtain ⟨dx1,sy1,_,_,_,gx1,_⟩:=M5.C1.same aZ;exists ⟨c1,dx1,_,rfl,gx1,oP (by decide +kernel) (by decide +kernel) (by decide +kernel) (by decide +kernel) (by decide +kernel),?_⟩;exists ⟨.ref f,sA,cf,stA,rfl,Nf1.same aZ,szf,M5.RA.same aZ,by lia,zA,λrF H6 n6 s6 R6=>?_⟩;have N6:=N5.same s6;have M6:=M5.same (b8 s6);replace R6:=R6.hid N6.L (N5.L.new n6);walk_at "w";obtain ⟨us7,KU7⟩:=N6.N1;refine ⟨A2,c1,kn1,rF,H0,mv,pt,lk,qs,rs,fs,_,tt,sg,om,bb,j9,tt,_,us7,rfl,N6.L,N6.A1,M6.C1,D,KF9,au _,KU7,t1,R6,lD,hMD,λr7 vs7 H7 s7 KV7 n7 a7 R7=>?_⟩;have m7:=jC N6.A1 s7;have N7:=N6.told (λ_ h=>h) (N6.L.smx s7 KV7.1) s7 m7 KV7.un;have M7:=M6.same m7;have m57:aA (cI A2 H5) (cI A2 H7):=(b8 s6).trans m7;replace g2:=m57 _ _ g2;replace Nf1:=Nf1.same m57;replace RdA:=RdA.same m57;have gd:=aZ _ _ g2;exists ⟨.ref f,dA',cf,_,rfl,Nf1.same aZ,szf,RdA.same aZ,by lia,zDA,λrG H8 n8 s8 R8=>?_⟩
  have e8:kY mv pt qs rs fs tt (stA.map λx=>cf*x)=(kY mv pt qs rs fs tt stA).map λx=>cf*x:=by
   unfold kY;exact KS
  rw[e8] at R7;exists ⟨_,_,FP,_,_,by decide,((R7.same aZ).same s8).kind,R8.kind,?_⟩;rw[decide_eq_true rfl];exact k _
end
theorem ln1 {P:List Value->Prop} (h:∀x0,P [x0]):∀us:List Value,us.length=1->P us
 | [x0],_=>h x0
theorem ln2 {P:List Value->Prop} (h:∀x0 x1,P [x0,x1]):∀us:List Value,us.length=2->P us
 | [x0,x1],_=>h x0 x1
theorem Qd {P:List Value->Prop} (h:∀x0 x1 x2,P [x0,x1,x2]):∀us:List Value,us.length=3->P us
 | [x0,x1,x2],_=>h x0 x1 x2
theorem ln4 {P:List Value->Prop} (h:∀x0 x1 x2 x3,P [x0,x1,x2,x3]):∀us:List Value,us.length=4->P us
 | [x0,x1,x2,x3],_=>h x0 x1 x2 x3
theorem ln5 {P:List Value->Prop} (h:∀x0 x1 x2 x3 x4,P [x0,x1,x2,x3,x4]):∀us:List Value,us.length=5->P us
 | [x0,x1,x2,x3,x4],_=>h x0 x1 x2 x3 x4
local macro_rules | `(tactic| walk_at "b") => `(tactic| (intro _ _ _ _ _ _; first | (refine ln1 ?_; intros; rfl) | (refine ln2 ?_; intros; rfl) | (refine Qd ?_; intros; rfl) | (refine ln4 ?_; intros; rfl) | (refine ln5 ?_; intros; rfl)))
theorem all_mk {l:W.OpenLaw} {K:W.Frag} 
 
  (X:K.In h) (G:h.Ns mainGlobals mg) (hfa:mg "law"=some (.ref fa)) (htree:l.prog.given.tree=none)
 (aC:W.nsIn K mainGlobals "System"=some (some (.ref C)))
 (aC_Costs:W.nsIn K mainGlobals "Costs"=some (some (.ref C_Costs)))
  (h0:Dh K "_law_bag" tV f0 e0)
  (h1:Dh K "_law_take" qU f1 e1)
  (h2:Dh K "_law_sizes" kT f2 e2)
  (h3:Dh K "_law_line" rf f3 e3)
  (h4:Dh K "_law_low" tT f4 e4)
  (h5:Dh K "_law_sum" tR f5 e5)
  (h6:Dh K "_law_plus" qW f6 e6)
  (h7:Dh K "_law_prod" qV f7 e7)
  (h8:Dh K "_law_by" v7 f8 e8)
  (h9:Dh K "_law_mixed" pj f9 e9)
  (h10:Dh K "_law_two_lines" jS f10 e10)
  (h11:Dh K "_law_number" nP f11 e11)
  (h12:Dh K "_law_row" tS f12 e12)
  (h13:Dh K "_law_move" qY f13 e13)
  (h14:Dh K "_law_parts" ph f14 e14)
  (h15:Dh K "_law_system" nO f15 e15)
  (h16:Dh K "want_list" qO f16 e16)
  (h17:Dh K "is_whole" tQ f17 e17)
  (h18:Dh K "common_divisor" jR f18 e18)
  (h19:Dh K "is_number" qT f19 e19)
  (h20:Dh K "is_row" yx f20 e20)
  (h21:Dh K "copied_rows" nN f21 e21)
  (a22:W.findIn K (.ref C) "__init__"=some (some (.ref f22))) (i22:W.isFn K (.ref f22)=true) (l22:K.lookup f22=some ⟨oc22,od22,.func (W.fnOf "__init__" "System.__init__" (fI d9) (eJ d9) (aH d9) .none kV22 dc22 pm22 an22 cd22 ct22),sl22⟩) (c22:W.codeIn K cd22 "System.__init__"=true) (k22:W.keepIn K (.ref f22)=true)
  (h23:Dh K "_law_copied" nR f23 e23)
  (h24:Dh K "_law_made" qZ f24 e24)
  (h25:Dh K "_law_weights" lQ f25 e25)
  (h26:Dh K "_law_rates" pe f26 e26)
  (h27:Dh K "common_multiple" ju f27 e27)
  (h28:Dh K "common_bottom" kO f28 e28)
  (h29:Dh K "tops_over" qP f29 e29)
  (h30:Dh K "main_line" qR f30 e30)
  (a31:W.findIn K (.ref C_Costs) "__init__"=some (some (.ref f31))) (i31:W.isFn K (.ref f31)=true) (l31:K.lookup f31=some ⟨oc31,od31,.func (W.fnOf "__init__" "Costs.__init__" (fI eX) (eJ eX) (aH eX) .none kV31 dc31 pm31 an31 cd31 ct31),sl31⟩) (c31:W.codeIn K cd31 "Costs.__init__"=true) (k31:W.keepIn K (.ref f31)=true)
  (h32:Dh K "_law_steps" o9 f32 e32)
  (h33:Dh K "_law_few" pB f33 e33)
  (h34:Dh K "lowest" yw f34 e34)
  (h35:Dh K "told_grid" qQ f35 e35)
  (h36:Dh K "flat" Er f36 e36)
  (h37:Dh K "whole_grid" o8 f37 e37)
  (h38:Dh K "grid_turned" nM f38 e38)
  (h39:Dh K "whole_dot" qN f39 e39)
  (h40:Dh K "whole_on" tN f40 e40)
  (a41:W.findIn K (.ref C_Costs) "step_cost"=some (some (.ref f41))) (i41:W.isFn K (.ref f41)=true) (l41:K.lookup f41=some ⟨oc41,od41,.func (W.fnOf "step_cost" "Costs.step_cost" (fI eh) (eJ eh) (aH eh) .none kV41 dc41 pm41 an41 cd41 ct41),sl41⟩) (c41:W.codeIn K cd41 "Costs.step_cost"=true) (k41:W.keepIn K (.ref f41)=true)
  (h42:Dh K "cleared" vY f42 e42)
  (h43:Dh K "lessened" tP f43 e43)
  (a44:W.findIn K (.ref C_Costs) "ahead_of"=some (some (.ref f44))) (i44:W.isFn K (.ref f44)=true) (l44:K.lookup f44=some ⟨oc44,od44,.func (W.fnOf "ahead_of" "Costs.ahead_of" (fI eS) (eJ eS) (aH eS) .none kV44 dc44 pm44 an44 cd44 ct44),sl44⟩) (c44:W.codeIn K cd44 "Costs.ahead_of"=true) (k44:W.keepIn K (.ref f44)=true)
  (a45:W.findIn K (.ref C_Costs) "with_left"=some (some (.ref f45))) (i45:W.isFn K (.ref f45)=true) (l45:K.lookup f45=some ⟨oc45,od45,.func (W.fnOf "with_left" "Costs.with_left" (fI ef) (eJ ef) (aH ef) .none kV45 dc45 pm45 an45 cd45 ct45),sl45⟩) (c45:W.codeIn K cd45 "Costs.with_left"=true) (k45:W.keepIn K (.ref f45)=true)
  (a46:W.findIn K (.ref C_Costs) "worth"=some (some (.ref f46))) (i46:W.isFn K (.ref f46)=true) (l46:K.lookup f46=some ⟨oc46,od46,.func (W.fnOf "worth" "Costs.worth" (fI gK) (eJ gK) (aH gK) .none kV46 dc46 pm46 an46 cd46 ct46),sl46⟩) (c46:W.codeIn K cd46 "Costs.worth"=true) (k46:W.keepIn K (.ref f46)=true)
  (h47:Dh K "on_state" tO f47 e47)
  (a48:W.findIn K (.ref C_Costs) "due"=some (some (.ref f48))) (i48:W.isFn K (.ref f48)=true) (l48:K.lookup f48=some ⟨oc48,od48,.func (W.fnOf "due" "Costs.due" (fI je) (eJ je) (aH je) .none kV48 dc48 pm48 an48 cd48 ct48),sl48⟩) (c48:W.codeIn K cd48 "Costs.due"=true) (k48:W.keepIn K (.ref f48)=true)
  (h49:Dh K "_law_is_number" jT f49 e49)
  (h50:Dh K "_law_is_row" nQ f50 e50)
  (h51:Dh K "_law_dot" tU f51 e51)
  (h52:Dh K "_law_on" vZ f52 e52)
  (h53:Dh K "_law_next" qX f53 e53)
  (h54:Dh K "_law_along" pC f54 e54)
  (h55:Dh K "row_dot" vX f55 e55)
  (a56:W.findIn K (.ref C) "moved"=some (some (.ref f56))) (i56:W.isFn K (.ref f56)=true) (l56:K.lookup f56=some ⟨oc56,od56,.func (W.fnOf "moved" "System.moved" (fI fL) (eJ fL) (aH fL) .none kV56 dc56 pm56 an56 cd56 ct56),sl56⟩) (c56:W.codeIn K cd56 "System.moved"=true) (k56:W.keepIn K (.ref f56)=true)
  (a57:W.findIn K (.ref C_Costs) "best"=some (some (.ref f57))) (i57:W.isFn K (.ref f57)=true) (l57:K.lookup f57=some ⟨oc57,od57,.func (W.fnOf "best" "Costs.best" (fI iu) (eJ iu) (aH iu) .none kV57 dc57 pm57 an57 cd57 ct57),sl57⟩) (c57:W.codeIn K cd57 "Costs.best"=true) (k57:W.keepIn K (.ref f57)=true)
  (h58:Dh K "law" Iz f58 e58)
 (ci0:W.nsIn K mainGlobals "MOST_STATES"=some (some (.int 8 it0)))
 (ci1:W.nsIn K mainGlobals "MOST_PUTS"=some (some (.int 4 it1)))
 (ci2:W.nsIn K mainGlobals "MOST_LOOKS"=some (some (.int 4 it2)))
  (pg:W.plainGet K C Str.empty=true) (hd:W.hasDictIn K C=true) (po:W.plainOver K C=true) (sa:W.findIn K (.ref C) "__setattr__"=some (some (.builtin "object.__setattr__"))) (mk:W.makesIn K C=true) (kc:W.keepIn K (.ref C)=true)
  (n_move:W.findIn K (.ref C) "move"=some none)
  (n_states:W.findIn K (.ref C) "states"=some none)
  (n_put:W.findIn K (.ref C) "put"=some none)
  (n_ins:W.findIn K (.ref C) "ins"=some none)
  (n_look:W.findIn K (.ref C) "look"=some none)
  (n_outs:W.findIn K (.ref C) "outs"=some none)
  (pg_Costs:W.plainGet K C_Costs Str.empty=true) (hd_Costs:W.hasDictIn K C_Costs=true) (po_Costs:W.plainOver K C_Costs=true) (sa_Costs:W.findIn K (.ref C_Costs) "__setattr__"=some (some (.builtin "object.__setattr__"))) (mk_Costs:W.makesIn K C_Costs=true) (kc_Costs:W.keepIn K (.ref C_Costs)=true)
  (n_Costs_known:W.findIn K (.ref C_Costs) "known"=some none)
  (n_Costs_last_weights:W.findIn K (.ref C_Costs) "last_weights"=some none)
  (n_Costs_put_weights:W.findIn K (.ref C_Costs) "put_weights"=some none)
  (n_Costs_state_weights:W.findIn K (.ref C_Costs) "state_weights"=some none)
  (n_Costs_system:W.findIn K (.ref C_Costs) "system"=some none)
  (z_abs:W.nsIn K mainGlobals "abs"=some none)
  (z_len:W.nsIn K mainGlobals "len"=some none)
  (z_min:W.nsIn K mainGlobals "min"=some none)
  (z_int:W.nsIn K mainGlobals "int"=some none)
  (z_range:W.nsIn K mainGlobals "range"=some none)
  (z_isinstance:W.nsIn K mainGlobals "isinstance"=some none)
  (z_list:W.nsIn K mainGlobals "list"=some none)
  (z_bool:W.nsIn K mainGlobals "bool"=some none)
  (z_tuple:W.nsIn K mainGlobals "tuple"=some none)
  (z_all:W.nsIn K mainGlobals "all"=some none)
  (z_enumerate:W.nsIn K mainGlobals "enumerate"=some none)
  (z_max:W.nsIn K mainGlobals "max"=some none)
  (z_sum:W.nsIn K mainGlobals "sum"=some none)
  (z_zip:W.nsIn K mainGlobals "zip"=some none)
  : ∃fd:FuncData,(∀(s:Shared) (v:Value),BindsTo s fd ⟨[v],[]⟩ [("_law_script",v)])/\∀base:Heap,K.In base->base.Ns mainGlobals mg->cW l.prog w K mg base iO 10 fa fd ["_law_script"] (yo K):=by
 have e:=hfa.symm.trans (W.mg_of X G h58.a);cases e;obtain ⟨_,_,_,_,_,_,_,_,_,rfl,_,_⟩:=h58.F.ex;have F22:=ou (st:=d9) l22 c22 k22;have F31:=ou (st:=eX) l31 c31 k31;have F41:=ou (st:=eh) l41 c41 k41;have F44:=ou (st:=eS) l44 c44 k44;have F45:=ou (st:=ef) l45 c45 k45;have F46:=ou (st:=gK) l46 c46 k46;have F48:=ou (st:=je) l48 c48 k48;have F56:=ou (st:=fL) l56 c56 k56;have F57:=ou (st:=iu) l57 c57 k57
 have T:Txt K mg ⟨f0,_,f1,_,f2,_,f3,_,f4,_,f5,_,f6,_,f7,_,f8,_,f9,_,f10,_,f11,_,f12,_,f13,_,f14,_,f15,_,f16,_,f17,_,f18,_,f19,_,f20,_,f21,_,f22,_,f23,_,f24,_,f25,_,f26,_,f27,_,f28,_,f29,_,f30,_,f31,_,f32,_,f33,_,f34,_,f35,_,f36,_,f37,_,f38,_,f39,_,f40,_,f41,_,f42,_,f43,_,f44,_,f45,_,f46,_,f47,_,f48,_,f49,_,f50,_,f51,_,f52,_,f53,_,f54,_,f55,_,f56,_,f57,_,fa,_,it0,it1,it2,C,C_Costs⟩:={
  rH:=h0.D X G
  aK:=h1.D X G
  og:=h2.D X G
  jA:=h3.D X G
  fR:=h4.D X G
  jg:=h5.D X G
  iD:=h6.D X G
  iC:=h7.D X G
  jY:=h8.D X G
  kh:=h9.D X G
  jy:=h10.D X G
  jz:=h11.D X G
  ij:=h12.D X G
  pQ:=h13.D X G
  oi:=h14.D X G
  lZ:=h15.D X G
  jv:=h16.D X G
  mQ:=h17.D X G
  eo:=h18.D X G
  pO:=h19.D X G
  wq:=h20.D X G
  ig:=h21.D X G
  mV:=F22.binds (ps:=["self","move","put","look"]) λ_ _ _ _ _ _=>by refine ln4 ?_;intros;rfl
  mZ:=F22
  ik:=h23.D X G
  pR:=h24.D X G
  gH:=h25.D X G
  oh:=h26.D X G
  i8:=h27.D X G
  dR:=h28.D X G
  fY:=h29.D X G
  kX:=h30.D X G
  j6:=F31.binds (ps:=["self","system","state_weights","put_weights","last_weights"]) λ_ _ _ _ _ _=>by refine ln5 ?_;intros;rfl
  o3:=F31
  oa:=h32.D X G
  mR:=h33.D X G
  oJ:=h34.D X G
  pM:=h35.D X G
  xY:=h36.D X G
  nZ:=h37.D X G
  jx:=h38.D X G
  pL:=h39.D X G
  kF:=h40.D X G
  l7:=⟨a41,i41,k41⟩
  mW:=F41.binds (ps:=["self","behind"]) λ_ _ _ _ _ _=>by refine ln2 ?_;intros;rfl
  ni:=F41
  ug:=h42.D X G
  rB:=h43.D X G
  mS:=⟨a44,i44,k44⟩
  oT:=F44.binds (ps:=["self","behind"]) λ_ _ _ _ _ _=>by refine ln2 ?_;intros;rfl
  oZ:=F44
  fZ:=⟨a45,i45,k45⟩
  gW:=F45.binds (ps:=["self","left"]) λ_ _ _ _ _ _=>by refine ln2 ?_;intros;rfl
  nh:=F45
  rJ:=⟨a46,i46,k46⟩
  td:=F46.binds (ps:=["self","left"]) λ_ _ _ _ _ _=>by refine ln2 ?_;intros;rfl
  tG:=F46
  mP:=h47.D X G
  iE:=⟨a48,i48,k48⟩
  ji:=F48.binds (ps:=["self","state","left"]) λ_ _ _ _ _ _=>by refine Qd ?_;intros;rfl
  xF:=F48
  jB:=h49.D X G
  l5:=h50.D X G
  rD:=h51.D X G
  uh:=h52.D X G
  pP:=h53.D X G
  oj:=h54.D X G
  pN:=h55.D X G
  qj:=⟨a56,i56,k56⟩
  rN:=F56.binds (ps:=["self","state","puts"]) λ_ _ _ _ _ _=>by refine Qd ?_;intros;rfl
  rV:=F56
  oo:=⟨a57,i57,k57⟩
  pZ:=F57.binds (ps:=["self","start","steps"]) λ_ _ _ _ _ _=>by refine Qd ?_;intros;rfl
  vO:=F57
  Mm:=h58.F
  abs:=W.mg_none_of X G z_abs
  len:=W.mg_none_of X G z_len
  min:=W.mg_none_of X G z_min
  int:=W.mg_none_of X G z_int
  range:=W.mg_none_of X G z_range
  isinstance:=W.mg_none_of X G z_isinstance
  list:=W.mg_none_of X G z_list
  bool:=W.mg_none_of X G z_bool
  tuple:=W.mg_none_of X G z_tuple
  all:=W.mg_none_of X G z_all
  enumerate:=W.mg_none_of X G z_enumerate
  max:=W.mg_none_of X G z_max
  sum:=W.mg_none_of X G z_sum
  zip:=W.mg_none_of X G z_zip
  mg_MOST_STATES:=W.mg_of X G ci0
  mg_MOST_PUTS:=W.mg_of X G ci1
  mg_MOST_LOOKS:=W.mg_of X G ci2
  mg_System:=W.mg_of X G aC
  cl_System:=⟨pg,hd,po,sa⟩
  na_move:=n_move
  na_states:=n_states
  na_put:=n_put
  na_ins:=n_ins
  na_look:=n_look
  na_outs:=n_outs
  mk_System:=⟨mk,a22,i22,kc⟩
  mg_Costs:=W.mg_of X G aC_Costs
  cl_Costs:=⟨pg_Costs,hd_Costs,po_Costs,sa_Costs⟩
  na_Costs_known:=n_Costs_known
  na_Costs_last_weights:=n_Costs_last_weights
  na_Costs_put_weights:=n_Costs_put_weights
  na_Costs_state_weights:=n_Costs_state_weights
  na_Costs_system:=n_Costs_system
  mk_Costs:=⟨mk_Costs,a31,i31,kc_Costs⟩ }
 exact ⟨_,λs v=>.of_eq rfl,λbase _ _=>Nv T htree⟩
theorem walk {l:W.OpenLaw} {K:Params->W.Frag} (hn:l.most=some 63) (hdf:d.params.defaults=[])
  (hi:PyProof.Rows.importsNone q=true)
  (hY:∀(w:World) (h:Heap),YP w h->(K w.params).In h)
  (F:∀(w:World) (mg:Str->Option Value) (fa:Addr) (h:Heap),(K w.params).In h->h.Ns mainGlobals mg->mg d.name=some (.ref fa) →
   ∃fd:FuncData,(∀(s:Shared) (u:Value),BindsTo s fd ⟨[u],[]⟩ [("_law_script",u)])/\∀base:Heap,(K w.params).In base->base.Ns mainGlobals mg->cW l.prog w (K w.params) mg base iO 10 fa fd ["_law_script"] (yo (K w.params))) :
  W.WalkO q loose XP YP l.row.toRowW d [] (λf vs=>PySem.call f vs) :=
 L2.J8 (n:=63) (k:=10) (x:="_law_script") (CX:=λ_=>iO) (sp:=λw=>yo (K w.params)) hn (by decide) hdf ⟨rfl,by decide,by decide⟩ hi hY F (λ_ _ a ns hl _ hS=>⟨a,ns,rfl,hS,hl,λ_=>rfl⟩) λ_ _ _ _ _ z=>z
end Lw
namespace PySem.W.Fast
def tw10048901201433461082:=()
def tw11420858788639432302:=()
def tw16928577455792747534:=()
def tw13392984791418452342:=()
def tw9021182230826067967:=()
def tw15848607570664364783:=()
def tw2652717503648516722:=()
def tw14091558261755642799:=()
def tw10946709303200914870:=()
def tw5255608820695994270:=()
def tw11173414660681543874:=()
def tw11254461545284460525:=()
def tw13567383844364566284:=()
def tw10038742942113312896:=()
def tw6260662780100330529:=()
def tw16779586119467605967:=()
def tw18168168903530482961:=()
def tw4138899595142775383:=()
def tw5917060978691859920:=()
def tw4761163212805169946:=()
def tw6244173531455445571:=()
def tw14009203874050606211:=()
def tw12622325620261955583:=()
def tw8979958724356812792:=()
def tw18011140499432269690:=()
def tw17863607814499085084:=()
def tw17231084259943297064:=()
def tw6249193135608675673:=()
def tw16188546723084379744:=()
def tw1423698779678918143:=()
def tw974379068848668043:=()
def tw10558712541164738679:=()
def tw13194054077695655101:=()
def tw5217386215338117478:=()
def tw10442341517708489365:=()
def tw17658015253152261074:=()
def tw1180111077886898238:=()
def tw17077392930809848157:=()
def tw10259795008598257413:=()
def tw8555274578913125875:=()
def tw3006243556099748884:=()
def tw14129805353671311244:=()
def tw15089202606972552054:=()
def tw11093735112378153550:=()
def tw17078065860874541255:=()
def tw6344805929466742848:=()
def tw1369783802443277633:=()
def tw5931217138731564847:=()
def tw157374514494653793:=()
def tw15745096233177928096:=()
def tw5863848577872670514:=()
def tw11352550722942651770:=()
def tw12121477882228796184:=()
def tw12857464792230905100:=()
def tw3642406632004987558:=()
def tw9128583801255627006:=()
def tw13146077944135115239:=()
def tw10215213667843537305:=()
def tw4498711793853429475:=()
def tw17792808950383700100:=()
def tw16334611162227810650:=()
def tw8689540614190941933:=()
def tw13248589397607412675:=()
def tw8363025631542406222:=()
def tw15255418694129173582:=()
def tw10003614622812573041:=()
def tw2478215976014735213:=()
def tw1085541568097170722:=()
def tw12111114510533071953:=()
def tw4340776870024675127:=()
def tw6707269914086272931:=()
def tw16029943374601288375:=()
def tw3037820114593509871:=()
def tw9966575540563492207:=()
def tw6943740147692136719:=()
def tw11228067354694061558:=()
def tw13278112063284038053:=()
def tw10603784212000224234:=()
def tw17110010681154565678:=()
def tw3995251162958901242:=()
def tw10204307224495736819:=()
def tw325358010023060467:=()
def tw15171417960381712118:=()
def tw12471412400698776215:=()
def tw1598986340652771268:=()
def tw3078543141637418296:=()
def tw2864521202269859907:=()
def tw10739119926194452779:=()
def tw1025521459088088824:=()
def tw12470965194736243002:=()
def tw18345958700424318549:=()
def tw14024907449532058214:=()
def tw14752054720553905894:=()
def tw10092827353419812000:=()
def tw5576500397124913421:=()
def tw15035913866837576825:=()
def tw1333228317747993184:=()
def tw9411068303227106948:=()
def tw17171463077223919802:=()
def tw14211129601937706684:=()
def tw7712328687627664211:=()
def tw14203908462354180441:=()
def tw1665929720982815098:=()
def tw9988336278635257329:=()
def tw2987566922640869086:=()
def tw2922528820843500953:=()
def tw12511407604921547245:=()
def tw11642426156023140814:=()
def tw8224456879125556935:=()
def tw18107396256138365669:=()
def tw14758611367153242700:=()
def tw4908443630713080080:=()
def tw7979463541749737967:=()
def tw18164395206621964853:=()
def tw13203293515405587763:=()
def tw14067650580541446948:=()
def tw4761600440516356062:=()
def tw8019263168192838849:=()
def tw17343626874182401274:=()
def tw7456711430978488285:=()
def tw15160747237277985510:=()
def tw10505788901282190257:=()
def tw12550429552006960548:=()
def tw1581020100685206730:=()
def tw1782908536574020399:=()
def tw4091398865586442344:=()
def tw2691917608719330543:=()
def tw18288580005289507535:=()
def tw9604064687737897144:=()
def tw14381829042243181937:=()
def tw7092950017840185291:=()
def tw8521352571976770282:=()
def tw6992293866024037323:=()
def tw8827049053135778027:=()
def tw5439594153940682590:=()
def tw9436201830918219560:=()
def tw3932416450053220069:=()
def tw8639474619105192936:=()
def tw15310904300588116088:=()
def tw11395180758241479008:=()
def tw4073642032229023055:=()
def tw4020274556915400975:=()
def tw55909462447959401:=()
def tw9577432896450077013:=()
def tw16855993547238007478:=()
def tw686092331865011353:=()
def tw13358920085479088069:=()
def tw2285016036084021800:=()
def tw7845311859261380374:=()
def tw15840413816693409934:=()
def tw17157619070607622391:=()
def tw10186941801500856836:=()
def tw13294263532936221476:=()
def tw18436829954327646373:=()
def tw14555785907295524378:=()
def tw15582508488497413346:=()
def tw13003669472068708629:=()
def tw11514976507734982380:=()
def tw4421739514886579462:=()
def tw9673961776533506254:=()
def tw13548314755198698369:=()
def tw9593158792578808603:=()
def tw14150516565560954859:=()
def tw2400001385823125329:=()
def tw10846134244881692598:=()
def tw4131667249578201844:=()
def tw2658023946168291546:=()
def tw135448536653694826:=()
def tw3477567863775764895:=()
def tw14716271004205491940:=()
def tw11482599486963454793:=()
def tw17596724701049877036:=()
def tw15988598721477135766:=()
def tw5410458737404104947:=()
def tw9360727015824891865:=()
def tw5313270234520212034:=()
def tw2919777173808084853:=()
def tw16634418352073320845:=()
def tw17577155397961755575:=()
def tw7938232082075288359:=()
def tw2466256629715820132:=()
def tw12031390397081405348:=()
def tw17437092353947320793:=()
def tw212328361985938461:=()
def tw522228365510053076:=()
def tw15867262875983724041:=()
def tw17418149776229408389:=()
def tw851447537062748612:=()
def tw1696468563453789955:=()
def tw1216042261725480681:=()
def tw11255360224847178982:=()
def tw661815969597414171:=()
def tw5748487846568410694:=()
def tw10482042122693168627:=()
def tw13360249091000783129:=()
def tw17809565056750172362:=()
def tw1861287678719265999:=()
def tw12652575828537615220:=()
def tw6757907915866838532:=()
def tw8375550860324242993:=()
def tw16932525841860087242:=()
def tw5404193574060075407:=()
def tw8442613906046486144:=()
def tw6744075174770171217:=()
def tw18226784754358231790:=()
def tw6517766306750204846:=()
def tw16821398189415921479:=()
def tw3893138050723287264:=()
def tw15242244081431531366:=()
def tw7590857938318667666:=()
def tw5934749181634659150:=()
def tw17530847381472269637:=()
def tw4441557026483310686:=()
def tw297078642808398759:=()
def tw6767586338432049201:=()
def tw2330679850244273305:=()
def tw927572046027494642:=()
def tw17424938259630205937:=()
def tw15883829211459606792:=()
def tw139572159932513918:=()
def tw10928973747988744062:=()
def tw15774180940686596967:=()
def tw15950302966893064697:=()
def tw10797112966690233308:=()
def tw12838422852346883969:=()
def tw7191174475210984875:=()
def tw12209514151827695613:=()
def tw17199347772778789376:=()
def tw18341393565648837485:=()
def tw8307817518995172461:=()
def tw14398812098022309827:=()
def tw12875871808747604062:=()
def tw4679881740365583098:=()
def tw989491781979895039:=()
def tw4890108919381415628:=()
def tw15151701599223299259:=()
def tw5792169634457109012:=()
def tw18298444705839141981:=()
def tw12202295127531702546:=()
def tw14606429926571651088:=()
def tw14221978004666647713:=()
def tw6620685130501139954:=()
def tw1331545922951834375:=()
def tw12628883434472717214:=()
def tw13007260266871852404:=()
def tw68231631863362761:=()
def tw18058868668590058375:=()
def tw4617551665989892248:=()
def tw1995517223165177829:=()
def tw9554794293826103043:=()
def tw17023653648263977161:=()
def tw12299915355369849084:=()
def tw14255288479340585891:=()
def tw13473482703280520232:=()
def tw6068707351834672058:=()
def tw16976620036840412709:=()
def tw2474902721677159391:=()
def tw478118140176235231:=()
def tw981204473208939975:=()
def tw15057354712568881922:=()
def tw3613571291170207054:=()
def tw13490636719144434967:=()
def tw2366240547281403137:=()
def tw15534155911536167740:=()
def tw14066717819439649224:=()
def tw9872403938422520816:=()
def tw12388172174313820989:=()
def tw8500714336106860508:=()
def tw6799734691950954474:=()
def tw9842199827485296672:=()
def tw9396881768736855272:=()
def tw16104950433342506443:=()
def tw1738266358962930400:=()
def tw11759934556449134370:=()
def tw3688767933239036735:=()
def tw6803147319809153068:=()
def tw6261615056187078457:=()
def tw14548823049216947692:=()
def tw1234784513415896278:=()
def tw4666312189825885717:=()
def tw1206452279428279747:=()
def tw10228243487148876541:=()
def tw115217361639392590:=()
def tw13308084574050071226:=()
def tw17649198687908275619:=()
def tw7308962544000467337:=()
def tw3817207791274665610:=()
def tw17543205240270990636:=()
def tw466009754623707060:=()
def tw13228327248316550909:=()
def tw14498519703510790367:=()
def tw3054557400872250839:=()
def tw5674982291824898973:=()
def tw155086116982919777:=()
def tw6600784554308055342:=()
def tw1795150962881153986:=()
def tw2816819742660777534:=()
def tw3270068221433808610:=()
def tw4136152708102326127:=()
def tw1873912469582145378:=()
def tw4408817985676390272:=()
def tw2830797664710866206:=()
def tw11034015546879659259:=()
def tw82492112823813026:=()
def tw5171685106877553929:=()
def tw11501094965475946134:=()
def tw16786756861659466806:=()
def tw14712198356062926723:=()
def tw14285161189466210146:=()
def tw3247821984451677059:=()
def tw3436192176033128410:=()
def tw13095318013252690822:=()
def tw4858439233317317089:=()
def tw333579870305260527:=()
def tw117497769267453875:=()
def tw9905564748789209431:=()
def tw14027983547629383495:=()
def tw13346385783235910222:=()
def tw6094008084425034010:=()
def tw6734640939584295636:=()
def tw3455256355819022252:=()
def tw13724852411651637321:=()
def tw13457548951355258714:=()
def tw13819106393784647861:=()
def tw18189105721061471202:=()
def tw16195931612305023736:=()
def tw3905947588702899859:=()
def tw12762793132937684234:=()
def tw9231057768567810735:=()
def tw17153038545703046854:=()
def tw11887015684065649454:=()
def tw9767175383463039751:=()
def tw4883217789495463561:=()
def tw13684055011895180759:=()
def tw16507414539470981020:=()
def tw535018110374585679:=()
def tw17119555633115282423:=()
def tw3151757115743403044:=()
def tw2119152520974299270:=()
def tw4602548103053859785:=()
def tw5059960948922831206:=()
def tw18367880009392295951:=()
def tw12388277985132003774:=()
def tw8608699887653141210:=()
def tw418731373035674518:=()
def tw3140029035889349020:=()
def tw10989204276768712609:=()
def tw5570954249378187935:=()
def tw13607795719760744554:=()
def tw7213791308354649518:=()
def tw1664277507587224683:=()
def tw4466027657838389607:=()
def tw18093222683639442882:=()
def tw17038505036428243754:=()
def tw4928933768924124738:=()
def tw3035906575242605659:=()
def tw9674894175223408596:=()
def tw1383609012927669723:=()
def tw4892518613279094170:=()
def tw12070445650407738538:=()
def tw5572548432721175996:=()
def tw18408780409994782043:=()
def tw5274984792719147750:=()
def tw13316628004610002365:=()
def tw6853037036839002246:=()
def tw594181876108770140:=()
def tw17068440315404233614:=()
def tw5469149243476756663:=()
def tw9171185448497858371:=()
def tw2348906297894630153:=()
def tw6966870859776383673:=()
def tw13878169040145154023:=()
def tw7844966436145611113:=()
def tw8186050248119080424:=()
def tw6210909845930441233:=()
def tw5820783063364445143:=()
def tw730884560326825827:=()
def tw3398234548602598362:=()
def tw14003966648637487516:=()
def tw4833120786468607330:=()
def tw4383583512283554815:=()
def tw3479779859634429495:=()
def tw6194177795248716136:=()
def tw1909624737415170583:=()
def tw17182879846856035169:=()
def tw15626246212708892065:=()
def tw17503829486507699909:=()
def tw14088802672244431858:=()
def tw12639845028702449034:=()
def tw9070118988840319161:=()
def tw786845222478834994:=()
def tw11797456931090205304:=()
def tw6715974304278130388:=()
def tw11965418883640688120:=()
def tw2088773701778097992:=()
def tw17643881112804663051:=()
def tw2579575731449080047:=()
def tw11854291437444392088:=()
def tw557291425775725009:=()
def tw4393284583479681325:=()
def tw4203086179773774972:=()
def tw10415815579441102919:=()
def tw6649586882369112374:=()
def tw4530494360545099665:=()
def tw11426859440172482005:=()
def tw10483935911074839907:=()
def tw3299845649039668349:=()
def tw14422592283272887019:=()
def tw2980620640596844923:=()
def tw11690560249998489810:=()
def tw18411625150330767227:=()
def tw5699912112173060285:=()
def tw14528926913546470374:=()
def tw8411954598712928804:=()
def tw4689030933254513532:=()
def tw15355720405562695283:=()
def tw17414208220731975887:=()
def tw15296753648030771209:=()
def tw9214957050789510019:=()
def tw4271801776533481417:=()
def tw12827531251437528323:=()
def tw2132482368245234087:=()
def tw13736487192404851017:=()
def tw10205249004838279726:=()
def tw10149319182434690714:=()
def tw4360310397685454095:=()
def tw3019145774406328559:=()
def tw5530267871922250982:=()
def tw8341174303516748202:=()
def tw226393238772381224:=()
def tw393107697275169366:=()
def tw5003095516883481620:=()
def tw9869787572632382317:=()
def tw10497168902351546825:=()
def tw16076052733989932521:=()
def tw7446642584523590541:=()
def tw2726775651681545030:=()
def tw1592294692261252512:=()
def tw6069709270013795448:=()
def tw9165085009064097122:=()
def tw6222264957362427776:=()
def tw2441333046255630222:=()
def tw12644053750122896143:=()
def tw12393398984025105886:=()
def tw11691177040528807133:=()
def tw3532889309041881616:=()
def tw6677117830035580125:=()
def tw8548777854502185328:=()
def tw17621799294387077837:=()
def tw3429736521781170910:=()
def tw16142227442497425260:=()
def tw10031685530303928903:=()
def tw7996953910658404729:=()
def tw16652393506774627908:=()
def tw8751367582297464432:=()
def tw11965945353365901036:=()
def tw17423583913755345386:=()
def tw16806631972608965301:=()
def tw13532241199462130920:=()
def tw15564597378980215425:=()
theorem te10048901201433461082:True:=trivial
end PySem.W.Fast
open PySem PySem.W PyProof.Rows
set_option maxRecDepth 100000 in
set_option maxHeartbeats 0 in
theorem PySem.Challenge.cw_helmsum_k68_due_and_best_holds : PySem.Challenge.rw_helmsum_k68_due_and_best.Holds := by
 w_on;o_law;k_head;(case hw=>w_witness2)
 k_fill
 refine Lw.walk (l:=PySem.Challenge.rw_helmsum_k68_due_and_best) rfl rfl ?hi (λw h Y=>PySem.W.kIn_of Y) ?F
 case hi=>decide +kernel
 case F =>
  intro w mg fa h KX G hmg;refine' Lw.all_mk KX G hmg rfl ?aC ?aC_Costs ?_ ?_ ?_ ?_ ?_ ?_ ?_ ?_ ?_ ?_ ?_ ?_ ?_ ?_ ?_ ?_ ?_ ?_ ?_ ?_ ?_ ?_ ?a22 ?i22 ?l22 ?c22 ?k22 ?_ ?_ ?_ ?_ ?_ ?_ ?_ ?_ ?a31 ?i31 ?l31 ?c31 ?k31 ?_ ?_ ?_ ?_ ?_ ?_ ?_ ?_ ?_ ?a41 ?i41 ?l41 ?c41 ?k41 ?_ ?_ ?a44 ?i44 ?l44 ?c44 ?k44 ?a45 ?i45 ?l45 ?c45 ?k45 ?a46 ?i46 ?l46 ?c46 ?k46 ?_ ?a48 ?i48 ?l48 ?c48 ?k48 ?_ ?_ ?_ ?_ ?_ ?_ ?_ ?a56 ?i56 ?l56 ?c56 ?k56 ?a57 ?i57 ?l57 ?c57 ?k57 ?_ ?ci0 ?ci1 ?ci2 ?pg ?hd ?po ?sa ?mk ?kc ?n_move ?n_states ?n_put ?n_ins ?n_look ?n_outs ?pg_Costs ?hd_Costs ?po_Costs ?sa_Costs ?mk_Costs ?kc_Costs ?n_Costs_known ?n_Costs_last_weights ?n_Costs_put_weights ?n_Costs_state_weights ?n_Costs_system ?z_abs ?z_len ?z_min ?z_int ?z_range ?z_isinstance ?z_list ?z_bool ?z_tuple ?z_all ?z_enumerate ?z_max ?z_sum ?z_zip
  all_goals try refine' Py ?_ ?_ ?_ ?_
  all_goals try k_is